import PyProof.Rows.All
import KE.KLam
import KE.KTryMore
import KE.KPairComp
import KE.KSortTup
import KE.KRevSl
import KE.LcSums
import PySem.Challenge.RW_falsesums_k80_wishes_put_and_taken_back
set_option Elab.async false
set_option linter.all false
set_option maxRecDepth 100000
abbrev vy:=PySem.Value->PySem.Shared->Prop
abbrev wg:=PySem.Str->Option PySem.Value
abbrev AQ:=PySem.Shared
abbrev xR:=PySem.FuncData
abbrev u6:=PySem.Program
abbrev uh:=Option PySem.Value
abbrev nZ:=List PySem.Value
abbrev tN:=Array PySem.Value
abbrev Aw:=List PySem.Expr
abbrev E4:=List PySem.Str
abbrev Bo:=Option PySem.Addr
abbrev Dg:=Array (Option PySem.Value)
abbrev pU:List PySem.Str:=["thing"]
abbrev DB:List PySem.Str:=["self","other"]
abbrev yy:List PySem.Str:=["_law_pool_here","_law_many"]
abbrev Au:List PySem.Str:=["_law_prime_here","_law_one","_law_other"]
abbrev AL:List PySem.Str:=["self","field","places","noughts","uppers"]
abbrev DF:List PySem.Str:=["self","wish","upper"]
abbrev uD:List PySem.Str:=["self","field","terms"]
abbrev qH:List PySem.Str:=["self","prime"]
abbrev tQ:List PySem.Str:=["_law_prime_here","_law_terms_here","_law_row"]
abbrev vP:List PySem.Str:=["_law_prime_here","_law_top","_law_bottom"]
abbrev wA:List PySem.Str:=["field","terms"]
abbrev qD:List PySem.Str:=["_law_pool_here","_law_prime_here","_law_places"]
abbrev Aq:List PySem.Str:=["_law_pool_here","_law_prime_here","_law_places","_law_many","_law_most"]
abbrev uL:List PySem.Str:=["self","part","number"]
abbrev qF:List PySem.Str:=["one","other"]
abbrev wH:List PySem.Str:=["_law_prime_here","_law_terms_here"]
abbrev rh:List PySem.Str:=["field","places","part","wishes"]
abbrev qS:List PySem.Str:=["_law_bench","_law_one","_law_is_upper"]
abbrev t7:List PySem.Str:=["self","top","bottom"]
abbrev qk:List PySem.Str:=["self","one","other"]
abbrev pS:List PySem.Str:=["field","thing"]
abbrev qb:List PySem.Str:=["field","places","thing"]
abbrev CR:List PySem.Str:=["field","places","uppers"]
abbrev we:List PySem.Str:=["self","system"]
abbrev Bh:List PySem.Str:=["top","bottom"]
abbrev ud:List PySem.Str:=["_law_script","_law_k"]
abbrev yz:List PySem.Str:=["_law_top","_law_bottom"]
abbrev oV:List PySem.Str:=["_law_pool_here"]
abbrev CG:List PySem.Str:=["self","thing"]
abbrev En:List PySem.Str:=["_law_pool_here","_law_prime_here"]
abbrev CV:List PySem.Str:=["_law_pool_here","_law_places","_law_most"]
abbrev Bp:List PySem.Str:=["_law_prime_here","_law_places","_law_noughts","_law_uppers"]
abbrev wU:List PySem.Str:=["_law_pool_here","_law_most"]
abbrev AU:List PySem.Str:=["_law_bench","_law_past","_law_wishes"]
abbrev Al:List PySem.Str:=["_law_pool_here","_law_bench","_law_prime_here","_law_places","_law_past","_law_wishes"]
namespace L2
open PySem
theorem yv:(1:Nat)<=sizeLine:=by decide
theorem zH:(199:Nat)<=sizeLine:=by decide
theorem ic:(2:Nat)<=sizeLine:=by decide
theorem EK:(3:Nat)<=sizeLine:=by decide
theorem aaa:(7:Nat)<=sizeLine:=by decide
def aD (s:Stmt)(j:Nat):Stmt:=match s with
 | .ClassDef _ _ _ body _ _ _ _ _ _ _=>body.getD j (.Pass ⟨0,0,0,0⟩)
 |_=>.Pass ⟨0,0,0,0⟩
def cW (s:Stmt):Arguments:=match s with
 | .FunctionDef _ a _ _ _ _ _ _ _ _=>a
 |_=>{posonlyargs:=[],args:=[],vararg:=none,kwonlyargs:=[],kw_defaults:=[],kwarg:=none,defaults:=[]}
def cn (s:Stmt):List Stmt:=match s with
 | .FunctionDef _ _ b _ _ _ _ _ _ _=>b
 |_=>[]
def aq (s:Stmt):Scope:=match s with
 | .FunctionDef _ _ _ _ _ _ sc _ _ _=>sc
 |_=>{kind:=.function,names:=[],isGenerator:=false,isCoroutine:=false}
end L2
namespace Hd
open PySem PySem.W PyProof.Rows
def uR (as:List Addr)(h:Heap):Frag:=as.filterMap λa=>(h.get? a).map λo=>(a,o)
theorem oy (h:Heap):∀as:List Addr,(uR as h).In h
 |[],a,o,e=>by cases e
 |b::as,a,o,e=>by
  unfold uR at e;rw[List.filterMap_cons] at e
  cases q:h.get? b with
  |none =>
   rw[q] at e;exact oy h as a o e
  |some u =>
   rw[q] at e;dsimp only[Option.map_some] at e;rw[List.lookup_cons] at e
   by_cases z:a=b
   ·subst z;simp only[beq_self_eq_true] at e;rw[q];exact e
   ·have:(a==b)=false:=by simpa using z
    simp only[this] at e;exact oy h as a o e
abbrev DV:=Str×Str×Arguments×FuncBody×Scope×Addr×List (Str×Addr)×Value×Addr
def zx (fd:xR):DV:=(fd.name,fd.qualname,fd.params,fd.body,fd.scope,fd.globals,fd.closure,fd.defaults,fd.builtins)
def pH (K:Frag)(v:Option (Option Value)):Option FuncData:=match v with
 |some (some (.ref f))=>(match K.lookup f with
  |some ⟨_,_,.func fd,_⟩=>some fd
  |_=>none)
 |_=>none
def aQ (K:Frag)(v:Option (Option Value)):Option DV:=(pH K v).map zx
def cV (x qual:Str)(st:Stmt):Option DV:=some (x,qual,L2.cW st,.stmts (L2.cn st),L2.aq st,mainGlobals,[],.none,builtinsNs)
def cm (v:Option (Option Value)):Addr:=match v with
 |some (some (.ref a))=>a
 |_=>0
def fQ (v:Option (Option Value)):Bool:=match v with
 |some (some (.ref _))=>true
 |_=>false
variable {v:Option (Option Value)}
theorem cJ (h:fQ v=true):v=some (some (.ref (cm v))):=by
 unfold fQ at h
 split at h
 ·rfl
 ·cases h
def cR (v:Option (Option Value)):Bool:=match v with
 |some none=>true
 |_=>false
theorem aU (h:cR v=true):v=some none:=by
 unfold cR at h
 split at h
 ·rfl
 ·cases h
def cO (K:Frag)(v:Option (Option Value))(qual:Str):Bool:=keepIn K (.ref (cm v))&&(match pH K v with
 |some fd=>codeIn K fd.code qual
 |none=>false)
abbrev gv (K:Frag)(x:Str):Option (Option Value):=nsIn K mainGlobals x
abbrev ga (K:Frag)(x:Str):Addr:=cm (nsIn K mainGlobals x)
abbrev fv (K:Frag)(c x:Str):Option (Option Value):=findIn K (.ref (cm (nsIn K mainGlobals c))) x
def gQ (K:Frag)(v:Option (Option Value)):Option DV:=(pH K v).map λfd=>zx {fd with defaults:=.none}
def Dr (K:Frag)(v:Option (Option Value)):Value:=match pH K v with
 |some fd=>fd.defaults
 |none=>.none
def lM (K:Frag)(v:Option (Option Value)):Addr:=match Dr K v with
 | .ref a=>a
 |_=>0
def pI (K:Frag)(v:Option (Option Value)):Bool:=match Dr K v with
 | .ref _=>true
 |_=>false
def oK (K:Frag)(T:Addr)(p:Value->Bool):Bool:=match K.lookup T with
 |some o=>(match o.data with
  | .seq a _=>(match a.toList with
    |[v]=>p v
    |_=>false)
  |_=>false)
 |none=>false
theorem ib {K:Frag}{T:Addr}{p:Value->Bool}(h:oK K T p=true):∃o v n,K.lookup T=some o/\o.data=.seq #[v] n/\p v=true:=by
 unfold oK at h
 split at h
 ·rename_i o ho
  split at h
  ·rename_i a n hd
   split at h
   ·rename_i v hv
    have:a = #[v]:=by rw[<-Array.toArray_toList (xs:=a),hv]
    subst this;exact⟨o,v,n,ho,hd,h⟩
   ·cases h
  ·cases h
 ·cases h
def A6 (n:Int)(v:Value):Bool:=match v with
 | .int i _=>i==n
 |_=>false
theorem kd {n:Int}{v:Value}(h:A6 n v=true):∃t,v=.int n t:=by
 unfold A6 at h
 split at h
 ·rename_i i t
  have:i=n:=by simpa using h
  exact⟨t,by rw[this]⟩
 ·cases h
def uK (v:Value):Bool:=match v with
 | .none=>true
 |_=>false
theorem jK {v:Value}(h:uK v=true):v=.none:=by
 unfold uK at h
 split at h
 ·rfl
 ·cases h
def rj (v:Option (Option Value))(n:Int):Bool:=match v with
 |some (some u)=>A6 n u
 |_=>false
theorem iX {n:Int}(h:rj v n=true):∃t,v=some (some (.int n t)):=by
 unfold rj at h
 split at h
 ·obtain⟨t,rfl⟩:=kd h;exact⟨t,rfl⟩
 ·cases h
def sd:List Value->List Int->Bool
 |[],[]=>true
 |v::vs,n::ns=>A6 n v&&sd vs ns
 |_,_=>false
def wo (K:Frag)(a:Addr)(ns:List Int):Bool:=match K.lookup a with
 |some o=>(match o.cls with
  | .type T=>T == "tuple"
  |_=>false)&&(match o.data with
  | .seq its _=>sd its.toList ns&&decide (its.size<=sizeLine)
  |_=>false)
 |none=>false
def iq (v:Option (Option Value))(s:String):Bool:=match v with
 |some (some (.builtin t))=>t==s
 |_=>false
theorem cf {s:String}(h:iq v s=true):v=some (some (.builtin s)):=by
 unfold iq at h
 split at h
 ·rename_i t
  have:t=s:=by simpa using h
  rw[this]
 ·cases h
def lu (v:Option Bool)(b:Bool):Bool:=match v with
 |some c=>c==b
 |none=>false
theorem di {v:Option Bool}{b:Bool}(h:lu v b=true):v=some b:=by
 unfold lu at h
 split at h
 ·rename_i c
  have:c=b:=by simpa using h
  rw[this]
 ·cases h
def xX:List Obj->BT->Nat->Option BT
 |[],t,_=>some t
 |o::os,t,n=>match ((t.ins n o).get n).isSome with
  |true=>xX os (t.ins n o) (n+1)
  |false=>none
theorem tK (life:Life):∀(os:List Obj)(t t':BT)(n:Nat),xX os t n=some t'->(absHeap t' (n+os.length) life).objs=(absHeap t n life).objs++os.toArray
 |[],t,t',n,h=>by
  cases h
  simp
 |o::os,t,t',n,h=>by
  unfold xX at h
  cases q:((t.ins n o).get n).isSome with
  |false=>rw[q] at h;cases h
  |true =>
   rw[q] at h;have e:=tK life os _ _ _ h;rw[absHeap_ins q] at e
   have:n+1+os.length=n+(o::os).length:=by simp only[List.length_cons];omega
   rw[this] at e;rw[e];show((absHeap t n life).objs.push o)++os.toArray=_;rw[<-Array.append_singleton,Array.append_assoc];simp
def Dv (s:AQ):Option SharedT:=(xX s.heap.objs.toList .nil 0).map λt=>⟨t,s.heap.objs.size,s.heap.life,s.gens,s.drawn,s.toks,s.os⟩
theorem aam {s:AQ}{x:SharedT}(h:Dv s=some x):x.abs=s:=by
 unfold Dv at h;obtain⟨t,e,rfl⟩:=Option.map_eq_some_iff.mp h;have g:=tK s.heap.life _ _ _ _ e;obtain⟨⟨objs,life⟩,gens,drawn,toks,os⟩:=s
 have z:absHeap t objs.size life=⟨objs,life⟩:=by
  have a:(absHeap t objs.size life).objs=objs:=by
   have l:0+objs.toList.length=objs.size:=by simp
   rw[l] at g;rw[g];simp[absHeap,BT.list]
  exact congrArg (Heap.mk · life) a
 show Shared.mk _ _ _ _ _=_;rw[z]
def ig (tb:String->Option Builtin)(p:u6)(w:World)(n₀:Nat)(ann:uh):Nat->SharedT->Thread->Option SharedT
 |0,_,_=>none
 |n+1,s,t=>match through t with
  |true=>some s
  |false=>match stepOk n₀ ann t with
   |false=>none
   |true=>match stepT (denote tb) p w s t with
    |some (s',t')=>ig tb p w n₀ ann n s' t'
    |none=>none
section
variable {tb:String->Option Builtin}{p:u6}{w:World}{n₀:Nat}{ann:uh}
theorem kI:∀{n:Nat}{s s':SharedT}{t:Thread},ig tb p w n₀ ann n s t=some s'->topRun tb p w n₀ ann n s.abs t=some s'.abs
 |0,_,_,_,h=>by cases h
 |n+1,s,s',t,h=>by
  unfold ig at h;unfold topRun
  cases he:through t with
  |true=>rw[he] at h;cases h;rfl
  |false =>
   rw[he] at h
   cases hk:stepOk n₀ ann t with
   |false=>rw[hk] at h;cases h
   |true =>
    rw[hk] at h
    cases hs:stepT (denote tb) p w s t with
    |none=>rw[hs] at h;cases h
    |some r=>obtain⟨s₂,t₂⟩:=r;rw[hs] at h;rw[stepT_spec hs];exact kI h
end
def gS (tb:String->Option Builtin)(p:u6)(w:World)(N:Nat)(s₀:AQ):Option SharedT :=
 match s₀.heap.isNs mainGlobals&&s₀.gens.size==0 with
 |true=>(Dv s₀).bind λx=>(ig tb p w s₀.heap.objs.size (s₀.heap.nsMap mainGlobals "__annotations__") N x (topStub p)).bind λs₁=>match staticsOk (importedModules p.main.body) s₀.heap s₁.abs.heap&&namesBound p s₁.abs.heap&&gensDone s₁.abs&&laidKept s₀.heap s₁.abs.heap with
  |true=>some s₁
  |false=>none
 |false=>none
variable {p:u6}{N:Nat}
theorem aac {tb:String->Option Builtin}{w:World}{s:AQ}{y:SharedT}(h:gS tb p w N s=some y):topFrom tb p w N s=some y.abs:=by
 unfold gS at h;unfold topFrom
 cases q:(s.heap.isNs mainGlobals&&s.gens.size==0) with
 |false=>rw[q] at h;cases h
 |true =>
  rw[q] at h;obtain⟨x,ex,h⟩:=Option.bind_eq_some_iff.mp h;obtain⟨z,ez,h⟩:=Option.bind_eq_some_iff.mp h;have e:=kI ez;rw[aam ex] at e;dsimp only;rw[e];show(match (staticsOk (importedModules p.main.body) s.heap z.abs.heap&&namesBound p z.abs.heap&&gensDone z.abs&&laidKept s.heap z.abs.heap) with|true=>some z.abs|false=>none)=_
  split at h
  ·cases h
   rename_i q2
   simp only[q2]
  ·cases h
def cw (tb:String->Option Builtin)(p:u6)(w:World)(N:Nat):Option SharedT:=(fencedOpening tb p w N).bind (gS tb p w N)
theorem aaY {tb:String->Option Builtin}{w:World}{y:SharedT}(h:cw tb p w N=some y):openEnds tb p w N=some y.abs:=by
 unfold cw at h;unfold openEnds;obtain⟨s,e,h⟩:=Option.bind_eq_some_iff.mp h;rw[e];exact aac h
theorem aad {q:u6}{loose:E4}{Xt:Shared->Bool}{α:Type}{Yf:Shared->α}{Ya:World->α}
 (h1:∀w,(cw treeTable p w N).map (λs=>openSeen q loose (importedModules p.main.body) Xt true s.abs)=some (openGood q loose))
 (h2:∀w,(cw treeTable p w N).map (λs=>Yf s.abs)=some (Ya w)):LeftO p q loose Xt Yf Ya N:=λw=>by
 obtain⟨y,e,z⟩:=Option.map_eq_some_iff.mp (h1 w);have z2:=h2 w;rw[e] at z2;rw[aaY e];show some (_,_)=_;have z3:Yf y.abs=Ya w:=Option.some.inj z2;rw[z,z3]
section
variable {p q:u6}{loose mods:E4}{Xt:Shared->Bool}{α:Type}{Yf:Shared->α}{Ya:World->α}{N:Nat}
abbrev vV (q:u6)(s:AQ):=(seen ((recsOf q).map (·.name)) (ownsOf q) [] {s with gens:=#[]},s.heap.bltView)
abbrev vU (q:u6)(loose mods:E4)(Xt:Shared->Bool)(s:AQ):Bool :=
 s.heap.keysOk (looseW q loose) ((recsOf q).map (·.name)) ((litsOf q).map (·.1)) ((clssOf q (looseW q loose)).map (·.name))&&s.heap.accountedOkI mods&&s.heap.isNs mainGlobals&&s.heap.isNs builtinsNs&&tablesOk q s.heap&&Xt s&&(if true then s.gens.size==0 else !leftWithCleanup s.gens)
abbrev wL (q:u6)(loose:E4)(s:AQ):=(tabsOk q s,pinSeenD q (drecsOf q) s,plainSeenE q (looseW q loose) s,plainSeenD q loose s,wideSeen q s,clsSeenW q loose s)
theorem aaH
 (h1:∀w,(cw treeTable p w N).map (λs=>vV q s.abs)=some (expectedOf q,bltViewBooted))
 (h2:∀w,(cw treeTable p w N).map (λs=>vU q loose (importedModules p.main.body) Xt s.abs)=some true)
 (h3:∀w,(cw treeTable p w N).map (λs=>wL q loose s.abs)=some (true,pinGoodD (drecsOf q),plainGoodE q (looseW q loose),plainGoodD q loose,wideGood q,clsGoodW q loose))
 (h4:∀w,(cw treeTable p w N).map (λs=>Yf s.abs)=some (Ya w)):LeftO p q loose Xt Yf Ya N:=by
 refine aad (λw=>?_) h4;obtain⟨y,e,z1⟩:=Option.map_eq_some_iff.mp (h1 w);have z2:=h2 w;have z3:=h3 w;rw[e] at z2 z3 |-;have z2:vU q loose (importedModules p.main.body) Xt y.abs=true:=Option.some.inj z2;have z3:wL q loose y.abs=_:=Option.some.inj z3;show some (openSeen q loose (importedModules p.main.body) Xt true y.abs)=_;have e1:openSeen q loose (importedModules p.main.body) Xt true y.abs=((vV q y.abs).1,(vV q y.abs).2,vU q loose (importedModules p.main.body) Xt y.abs,wL q loose y.abs):=rfl;rw[e1,z1,z2,z3];rfl
end
def abn (K:Frag)(C f:Addr)(FJ:nZ)(newId:String):Bool :=
 match K.lookup C with
 |some ⟨.type "type",_,.cls cd,sl⟩ =>
  match cd.mro,sl.toList with
  | .ref D::tl,[_,_,_,_,some (.builtin made),_]=>(D==C)&&((made==newId)&&((!cd.hasDel)&&(tailIn K FJ tl&&(nsOkIn K cd.ns&&(nsIn K cd.ns "__init__"==some (some (.ref f)))))))
  |_,_=>false
 |_=>false
def x8:List Value->List Value
 | .ref _::r=>x8 r
 |l=>l
def vM (K:Frag)(C f:Addr)(FJ ZN:nZ)(newId:String):Bool :=
 keepIn K (.ref C)&&((clsIn K C).any (λcd=>cd.hasDict&&(x8 cd.mro==FJ || x8 cd.mro==ZN))&&((K.lookup C).any (λo=>o.cls == .type "type")&&((K.lookup f).any (λo=>o.cls == .type "function")&&abn K C f FJ newId)))
def AJ (v:Value):Bool:=match v with
 | .bool false=>true
 |_=>false
theorem aaf {v:Value}(h:AJ v=true):v=.bool false:=by
 unfold AJ at h
 split at h
 ·rfl
 ·cases h
end Hd
namespace L2
open PySem
/-- an own class of exceptions without an __init__ -/
def tV (K:PySem.W.Frag)(C:Addr)(FJ:nZ)(newId:String):Bool :=
 ((K.lookup C).any λo=>o.cls == .type "type"&&(o.slots.size==6&&o.slots.toList[4]?==some (some (.builtin newId))))&&(PySem.W.clsIn K C).any λcd=>cd.mro.head?==some (.ref C)&&(!cd.hasDel&&(PySem.W.tailIn K FJ cd.mro.tail&&(PySem.W.nsOkIn K cd.ns&&PySem.W.nsIn K cd.ns "__init__"==some none)))
end L2
namespace K80
open PySem L2 PySem.W
open Hd (gv ga fv cm fQ cJ cR aU iq cf lu di cO aQ gQ cV pI lM oK ib uK jK A6 kd rj iX wo)
def aR (i:Nat):Stmt:=PySem.Challenge.pw_falsesums_k80_wishes_put_and_taken_back.main.body.getD i (.Pass ⟨0,0,0,0⟩)
def DY:List Int:=[2,3,5,7,11,13,17,19,23,29,31,37,41,43,47,53,59,61,67,71,73,79,83,89,97]
abbrev BW:List Value:=[.type "ValueError",.type "Exception",.type "BaseException",.type "object"]
abbrev w9:String:="ValueError.__new__"
def EZ (K:Frag):Bool :=
 (cR (gv K "isinstance") &&
 (cR (gv K "int") &&
 (cR (gv K "bool") &&
 (cR (gv K "ValueError") &&
 (cR (gv K "abs") &&
 (cR (gv K "len") &&
 (cR (gv K "tuple") &&
 (cR (gv K "all") &&
 (cR (gv K "zip") &&
 (cR (gv K "list") &&
 (cR (gv K "enumerate") &&
 (cR (gv K "sorted") &&
 (cR (gv K "max") &&
 (cR (gv K "min") &&
 (cR (gv K "range") &&
 (fQ (gv K "Sum")))))))))))))))))
def EC (K:Frag):Bool :=
 (fQ (gv K "Field") &&
 (fQ (gv K "System") &&
 (fQ (gv K "Bench") &&
 (fQ (gv K "NoField") &&
 (fQ (gv K "NoSystem") &&
 (fQ (gv K "NoWish") &&
 (fQ (gv K "FalseError") &&
 (fQ (gv K "PRIMES") &&
 (rj (gv K "FRACTIONS") 0 &&
 (rj (gv K "MOST_PLACES") 60 &&
 (rj (gv K "MOST_WISHES") 200 &&
 (cO K (gv K "is_whole") "is_whole" &&
 (cO K (gv K "is_place") "is_place" &&
 (cO K (gv K "is_product") "is_product" &&
 (cO K (gv K "is_term") "is_term" &&
 (cO K (gv K "checked_terms") "checked_terms"))))))))))))))))
def EM (K:Frag):Bool :=
 (cO K (gv K "place_of_term") "place_of_term" &&
 (cO K (gv K "gathered") "gathered" &&
 (cO K (gv K "common_divisor") "common_divisor" &&
 (cO K (gv K "lowest") "lowest" &&
 (cO K (gv K "is_wish") "is_wish" &&
 (cO K (gv K "checked_wishes") "checked_wishes" &&
 (cO K (gv K "checked_uppers") "checked_uppers" &&
 (cO K (gv K "_law_pool") "_law_pool" &&
 (cO K (gv K "_law_take") "_law_take" &&
 (cO K (gv K "_law_low") "_law_low" &&
 (cO K (gv K "_law_made") "_law_made" &&
 (cO K (gv K "_law_plus") "_law_plus" &&
 (cO K (gv K "_law_times") "_law_times" &&
 (cO K (gv K "_law_row_key") "_law_row_key" &&
 (cO K (gv K "_law_gathered") "_law_gathered" &&
 (cO K (gv K "_law_added") "_law_added"))))))))))))))))
def Ey (K:Frag):Bool :=
 (cO K (gv K "_law_prime") "_law_prime" &&
 (cO K (gv K "_law_number") "_law_number" &&
 (cO K (gv K "_law_product") "_law_product" &&
 (cO K (gv K "_law_terms") "_law_terms" &&
 (cO K (gv K "_law_system") "_law_system" &&
 (cO K (gv K "_law_worth") "_law_worth" &&
 (cO K (gv K "_law_planted") "_law_planted" &&
 (cO K (gv K "_law_small_wishes") "_law_small_wishes" &&
 (cO K (gv K "_law_drawn_wish") "_law_drawn_wish" &&
 (cO K (gv K "_law_refusal") "_law_refusal" &&
 (cO K (gv K "_law_no_wish") "_law_no_wish" &&
 (cO K (gv K "_law_backed") "_law_backed" &&
 (cO K (gv K "_law_done") "_law_done" &&
 (cO K (gv K "law") "law" &&
 (cO K (fv K "Sum" "field") "Sum.field" &&
 (isFn K (.ref (cm (fv K "Sum" "field")))))))))))))))))))
def EB (K:Frag):Bool :=
 (cO K (fv K "Sum" "reach") "Sum.reach" &&
 (isFn K (.ref (cm (fv K "Sum" "reach"))) &&
 (cO K (fv K "Sum" "__eq__") "Sum.__eq__" &&
 (isFn K (.ref (cm (fv K "Sum" "__eq__"))) &&
 (cO K (fv K "Field" "__eq__") "Field.__eq__" &&
 (isFn K (.ref (cm (fv K "Field" "__eq__"))) &&
 (cO K (fv K "Field" "plus") "Field.plus" &&
 (isFn K (.ref (cm (fv K "Field" "plus"))) &&
 (cO K (fv K "Field" "settled") "Field.settled" &&
 (isFn K (.ref (cm (fv K "Field" "settled"))) &&
 (cO K (fv K "Field" "is_number") "Field.is_number" &&
 (isFn K (.ref (cm (fv K "Field" "is_number"))) &&
 (cO K (fv K "Field" "prime") "Field.prime" &&
 (isFn K (.ref (cm (fv K "Field" "prime"))) &&
 (cO K (fv K "System" "__eq__") "System.__eq__" &&
 (isFn K (.ref (cm (fv K "System" "__eq__")))))))))))))))))))
def Et (K:Frag):Bool :=
 (cO K (fv K "System" "__len__") "System.__len__" &&
 (isFn K (.ref (cm (fv K "System" "__len__"))) &&
 (cO K (fv K "System" "field") "System.field" &&
 (isFn K (.ref (cm (fv K "System" "field"))) &&
 (cO K (fv K "System" "places") "System.places" &&
 (isFn K (.ref (cm (fv K "System" "places"))) &&
 (cO K (fv K "System" "noughts") "System.noughts" &&
 (isFn K (.ref (cm (fv K "System" "noughts"))) &&
 (cO K (fv K "System" "uppers") "System.uppers" &&
 (isFn K (.ref (cm (fv K "System" "uppers"))) &&
 (cO K (fv K "Bench" "__init__") "Bench.__init__" &&
 (isFn K (.ref (cm (fv K "Bench" "__init__"))) &&
 (cO K (fv K "Bench" "system") "Bench.system" &&
 (isFn K (.ref (cm (fv K "Bench" "system"))) &&
 (cO K (fv K "Bench" "kept") "Bench.kept" &&
 (isFn K (.ref (cm (fv K "Bench" "kept")))))))))))))))))))
def EA (K:Frag):Bool :=
 (cO K (fv K "Bench" "back") "Bench.back" &&
 (isFn K (.ref (cm (fv K "Bench" "back"))) &&
 (cO K (fv K "NoSystem" "__init__") "NoSystem.__init__" &&
 (isFn K (.ref (cm (fv K "NoSystem" "__init__"))) &&
 (cO K (fv K "Sum" "__init__") "Sum.__init__" &&
 (isFn K (.ref (cm (fv K "Sum" "__init__"))) &&
 (pI K (fv K "Sum" "__init__") &&
 (oK K (lM K (fv K "Sum" "__init__")) (uK) &&
 (cO K (fv K "Field" "__init__") "Field.__init__" &&
 (isFn K (.ref (cm (fv K "Field" "__init__"))) &&
 (pI K (fv K "Field" "__init__") &&
 (oK K (lM K (fv K "Field" "__init__")) (A6 0) &&
 (cO K (fv K "System" "__init__") "System.__init__" &&
 (isFn K (.ref (cm (fv K "System" "__init__"))) &&
 (pI K (fv K "System" "__init__") &&
 (oK K (lM K (fv K "System" "__init__")) (uK)))))))))))))))))
def E3 (K:Frag):Bool :=
 (cO K (fv K "Bench" "put") "Bench.put" &&
 (isFn K (.ref (cm (fv K "Bench" "put"))) &&
 (pI K (fv K "Bench" "put") &&
 (oK K (lM K (fv K "Bench" "put")) (Hd.AJ) &&
 (plainGet K (ga K "Field") Str.empty &&
 (hasDictIn K (ga K "Field") &&
 (plainOver K (ga K "Field") &&
 (iq (fv K "Field" "__setattr__") "object.__setattr__" &&
 (cR (fv K "Field" "its_prime") &&
 (((clsIn K (ga K "Field")).isSome&&typeIn K (.ref (ga K "Field"))==some (.type "type")) &&
 (iq (fv K "Field" "__class__") "object.__class__" &&
 (iq (specialIn K (.builtin "object.__class__") "__get__") "getset_descriptor.__get__" &&
 (lu (takesIn K (.builtin "object.__class__")) true &&
 (lu (mroIn K (ga K "Field") (.type "object")) true &&
 (plainGet K (ga K "Sum") Str.empty &&
 (hasDictIn K (ga K "Sum")))))))))))))))))
def EY (K:Frag):Bool :=
 (plainOver K (ga K "Sum") &&
 (iq (fv K "Sum" "__setattr__") "object.__setattr__" &&
 (cR (fv K "Sum" "its_field") &&
 (cR (fv K "Sum" "its_terms") &&
 (((clsIn K (ga K "Sum")).isSome&&typeIn K (.ref (ga K "Sum"))==some (.type "type")) &&
 (iq (fv K "Sum" "__class__") "object.__class__" &&
 (lu (mroIn K (ga K "Sum") (.type "object")) true &&
 (plainGet K (ga K "System") Str.empty &&
 (hasDictIn K (ga K "System") &&
 (plainOver K (ga K "System") &&
 (iq (fv K "System" "__setattr__") "object.__setattr__" &&
 (cR (fv K "System" "its_field") &&
 (cR (fv K "System" "its_places") &&
 (cR (fv K "System" "its_noughts") &&
 (cR (fv K "System" "its_uppers") &&
 (((clsIn K (ga K "System")).isSome&&typeIn K (.ref (ga K "System"))==some (.type "type"))))))))))))))))))
def E1 (K:Frag):Bool :=
 (iq (fv K "System" "__class__") "object.__class__" &&
 (lu (mroIn K (ga K "System") (.type "object")) true &&
 (plainGet K (ga K "Bench") Str.empty &&
 (hasDictIn K (ga K "Bench") &&
 (plainOver K (ga K "Bench") &&
 (iq (fv K "Bench" "__setattr__") "object.__setattr__" &&
 (cR (fv K "Bench" "its_system") &&
 (cR (fv K "Bench" "its_papers") &&
 (cR (fv K "Bench" "put_kinds") &&
 (wo K (ga K "PRIMES") DY &&
 (tV K (ga K "NoField") BW w9 &&
 (tV K (ga K "NoWish") BW w9 &&
 (iq (fv K "System" "__ne__") "object.__ne__" &&
 (Hd.vM K (ga K "NoSystem") (cm (fv K "NoSystem" "__init__")) BW [.type "KeyError",.type "LookupError",.type "Exception",.type "BaseException",.type "object"] w9 &&
 ((clsIn K (ga K "NoSystem")).isSome &&
 (iq (fv K "NoSystem" "__getattribute__") "BaseException.__getattribute__"))))))))))))))))
def CK (K:Frag):Bool :=
 (cR (fv K "NoSystem" "__getattr__") &&
 (iq (fv K "NoSystem" "__class__") "object.__class__" &&
 (lu (mroIn K (ga K "NoSystem") (.type "object")) true &&
 (lu (mroIn K (ga K "NoSystem") (.type "BaseException")) true &&
 (iq (fv K "NoSystem" "__setattr__") "object.__setattr__" &&
 (cR (fv K "NoSystem" "part") &&
 (cR (fv K "NoSystem" "number") &&
 (makesIn K (ga K "Sum") &&
 (keepIn K (.ref (ga K "Sum")) &&
 (makesIn K (ga K "Field") &&
 (keepIn K (.ref (ga K "Field")) &&
 (makesIn K (ga K "System") &&
 (keepIn K (.ref (ga K "System")) &&
 (makesIn K (ga K "Bench") &&
 (keepIn K (.ref (ga K "Bench")) &&
 (lu (exmOne K (.ref (ga K "NoSystem")) (.ref (ga K "FalseError"))) true))))))))))))))))
def Cj (K:Frag):Bool :=
 (lu (kitOne K (.ref (ga K "NoSystem")) (.ref (ga K "NoSystem"))) true &&
 (lu (kitOne K (.ref (ga K "NoSystem")) (.type "ValueError")) true &&
 (lu (exmOne K (.ref (ga K "NoWish")) (.ref (ga K "NoWish"))) true)))
def qB (K:Frag):Bool:=EZ K&&(EC K&&(EM K&&(Ey K&&(EB K&&(Et K&&(EA K&&(E3 K&&(EY K&&(E1 K&&(CK K&&(Cj K)))))))))))
def q0 (K:Frag):Bool×List (Option Hd.DV):=(qB K,[aQ K (gv K "is_whole"),aQ K (gv K "is_place"),aQ K (gv K "is_product"),aQ K (gv K "is_term"),aQ K (gv K "checked_terms"),aQ K (gv K "place_of_term"),aQ K (gv K "gathered"),aQ K (gv K "common_divisor"),aQ K (gv K "lowest"),aQ K (gv K "is_wish"),aQ K (gv K "checked_wishes"),aQ K (gv K "checked_uppers"),aQ K (gv K "_law_pool"),aQ K (gv K "_law_take"),aQ K (gv K "_law_low"),aQ K (gv K "_law_made"),aQ K (gv K "_law_plus"),aQ K (gv K "_law_times"),aQ K (gv K "_law_row_key"),aQ K (gv K "_law_gathered"),aQ K (gv K "_law_added"),aQ K (gv K "_law_prime"),aQ K (gv K "_law_number"),aQ K (gv K "_law_product"),aQ K (gv K "_law_terms"),aQ K (gv K "_law_system"),aQ K (gv K "_law_worth"),aQ K (gv K "_law_planted"),aQ K (gv K "_law_small_wishes"),aQ K (gv K "_law_drawn_wish"),aQ K (gv K "_law_refusal"),aQ K (gv K "_law_no_wish"),aQ K (gv K "_law_backed"),aQ K (gv K "_law_done"),aQ K (gv K "law"),aQ K (fv K "Sum" "field"),aQ K (fv K "Sum" "reach"),aQ K (fv K "Sum" "__eq__"),aQ K (fv K "Field" "__eq__"),aQ K (fv K "Field" "plus"),aQ K (fv K "Field" "settled"),aQ K (fv K "Field" "is_number"),aQ K (fv K "Field" "prime"),aQ K (fv K "System" "__eq__"),aQ K (fv K "System" "__len__"),aQ K (fv K "System" "field"),aQ K (fv K "System" "places"),aQ K (fv K "System" "noughts"),aQ K (fv K "System" "uppers"),aQ K (fv K "Bench" "__init__"),aQ K (fv K "Bench" "system"),aQ K (fv K "Bench" "kept"),aQ K (fv K "Bench" "back"),aQ K (fv K "NoSystem" "__init__"),gQ K (fv K "Sum" "__init__"),gQ K (fv K "Field" "__init__"),gQ K (fv K "System" "__init__"),gQ K (fv K "Bench" "put")])
def tP:Bool×List (Option Hd.DV):=(true,[cV "is_whole" "is_whole" ((aR 11)),cV "is_place" "is_place" ((aR 12)),cV "is_product" "is_product" ((aR 13)),cV "is_term" "is_term" ((aR 29)),cV "checked_terms" "checked_terms" ((aR 30)),cV "place_of_term" "place_of_term" ((aR 31)),cV "gathered" "gathered" ((aR 32)),cV "common_divisor" "common_divisor" ((aR 17)),cV "lowest" "lowest" ((aR 18)),cV "is_wish" "is_wish" ((aR 38)),cV "checked_wishes" "checked_wishes" ((aR 39)),cV "checked_uppers" "checked_uppers" ((aR 40)),cV "_law_pool" "_law_pool" ((aR 45)),cV "_law_take" "_law_take" ((aR 46)),cV "_law_low" "_law_low" ((aR 47)),cV "_law_made" "_law_made" ((aR 48)),cV "_law_plus" "_law_plus" ((aR 49)),cV "_law_times" "_law_times" ((aR 50)),cV "_law_row_key" "_law_row_key" ((aR 51)),cV "_law_gathered" "_law_gathered" ((aR 52)),cV "_law_added" "_law_added" ((aR 53)),cV "_law_prime" "_law_prime" ((aR 54)),cV "_law_number" "_law_number" ((aR 55)),cV "_law_product" "_law_product" ((aR 56)),cV "_law_terms" "_law_terms" ((aR 57)),cV "_law_system" "_law_system" ((aR 58)),cV "_law_worth" "_law_worth" ((aR 59)),cV "_law_planted" "_law_planted" ((aR 60)),cV "_law_small_wishes" "_law_small_wishes" ((aR 61)),cV "_law_drawn_wish" "_law_drawn_wish" ((aR 62)),cV "_law_refusal" "_law_refusal" ((aR 63)),cV "_law_no_wish" "_law_no_wish" ((aR 64)),cV "_law_backed" "_law_backed" ((aR 65)),cV "_law_done" "_law_done" ((aR 66)),cV "law" "law" ((aR 67)),cV "field" "Sum.field" (aD (aR 34) 5),cV "reach" "Sum.reach" (aD (aR 34) 8),cV "__eq__" "Sum.__eq__" (aD (aR 34) 1),cV "__eq__" "Field.__eq__" (aD (aR 20) 1),cV "plus" "Field.plus" (aD (aR 20) 6),cV "settled" "Field.settled" (aD (aR 20) 10),cV "is_number" "Field.is_number" (aD (aR 20) 11),cV "prime" "Field.prime" (aD (aR 20) 3),cV "__eq__" "System.__eq__" (aD (aR 41) 1),cV "__len__" "System.__len__" (aD (aR 41) 2),cV "field" "System.field" (aD (aR 41) 3),cV "places" "System.places" (aD (aR 41) 4),cV "noughts" "System.noughts" (aD (aR 41) 5),cV "uppers" "System.uppers" (aD (aR 41) 6),cV "__init__" "Bench.__init__" (aD (aR 43) 0),cV "system" "Bench.system" (aD (aR 43) 1),cV "kept" "Bench.kept" (aD (aR 43) 2),cV "back" "Bench.back" (aD (aR 43) 5),cV "__init__" "NoSystem.__init__" (aD (aR 8) 0),cV "__init__" "Sum.__init__" (aD (aR 34) 0),cV "__init__" "Field.__init__" (aD (aR 20) 0),cV "__init__" "System.__init__" (aD (aR 41) 0),cV "put" "Bench.put" (aD (aR 43) 4)])
def qG:List Addr:=[3,30,31,43,44,79,80,114,115,117,118,126,127,133,134,138,139,140,146,147,153,154,169,175,176,182,183,196,197,218,219,246,247,253,254,256,257,293,294,300,301,307,308,312,313,326,332,333,339,340,367,368,386,387,438,439,456,457,463,464,470,471,479,485,486,492,493,499,500,506,507,513,514,520,521,527,528,542,543,560,561,567,568,574,575,583,587,588,592,593,603,604,614,615,621,622,628,629,633,634,640,641,647,648,654,655,659,660,666,667,673,674,680,681,687,688,692,693,697,698,702,703,709,710,714,715,719,720,726,727,733,734,740,741,747,748,752,753]
def cP:Program:={PySem.Challenge.pw_falsesums_k80_wishes_put_and_taken_back with main:={PySem.Challenge.pw_falsesums_k80_wishes_put_and_taken_back.main with body:=[aR 0,aR 2,aR 3,aR 4,aR 5,aR 6,aR 7,aR 8,aR 10,aR 11,aR 12,aR 13,aR 15,aR 16,aR 17,aR 18,aR 19,aR 20,aR 22,aR 23,aR 24,aR 25,aR 26,aR 27,aR 29,aR 30,aR 31,aR 32,aR 33,aR 34,aR 35,aR 37,aR 38,aR 39,aR 40,aR 41,aR 43,aR 45,aR 46,aR 47,aR 48,aR 49,aR 50,aR 51,aR 52,aR 53,aR 54,aR 55,aR 56,aR 57,aR 58,aR 59,aR 60,aR 61,aR 62,aR 63,aR 64,aR 65,aR 66,aR 67]} }
def lv:List (PySem.Str×WData):=[("STEP",.int 10000000000000000000000000000000000000000000000000000000000000000)]
end K80
namespace Hd
open PySem PySem.W PyProof.Rows
def bare (p:u6)(w:World)(N:Nat):Option (Heap×SharedT):=(fencedOpening treeTable p w N).bind λs₀=>match s₀.heap.isNs mainGlobals&&s₀.gens.size==0 with
 |true=>(Dv s₀).bind λx=>(ig treeTable p w s₀.heap.objs.size (s₀.heap.nsMap mainGlobals "__annotations__") N x (topStub p)).map λs₁=>(s₀.heap,s₁)
 |false=>none
theorem aaB {p:u6}{w:World}{N:Nat}{h:Heap}{s:SharedT}(e:bare p w N=some (h,s))(c1:staticsOk (importedModules p.main.body) h s.abs.heap=true)(c2:namesBound p s.abs.heap=true)(c3:gensDone s.abs=true)(c4:laidKept h s.abs.heap=true):cw treeTable p w N=some s:=by
 unfold bare at e;obtain⟨s0,e0,e⟩:=Option.bind_eq_some_iff.mp e;unfold cw;rw[e0];show gS treeTable p w N s0=some s;unfold gS
 cases q:(s0.heap.isNs mainGlobals&&s0.gens.size==0) with
 |false=>rw[q] at e;cases e
 |true =>
  rw[q] at e;obtain⟨x,ex,e⟩:=Option.bind_eq_some_iff.mp e;obtain⟨s1,e1,e2⟩:=Option.map_eq_some_iff.mp e
  cases e2
  dsimp only;rw[ex];show Option.bind (ig _ _ _ _ _ _ _ _) _=_;rw[e1];show(match staticsOk (importedModules p.main.body) s0.heap s.abs.heap&&namesBound p s.abs.heap&&gensDone s.abs&&laidKept s0.heap s.abs.heap with|true=>some s|false=>none)=_;rw[c1,c2,c3,c4];rfl
def BC (s:SharedT)(a:Addr):Option Obj:=match Nat.blt a s.n with
 |true=>alive ((s.tree.get a).getD default)
 |false=>none
theorem aab (s:SharedT)(a:Addr):s.abs.heap.get? a=BC s a:=by
 obtain⟨t,n,life,gens,drawn,toks,os⟩:=s;show(absHeap t n life).get? a=_;unfold BC
 cases h:Nat.blt a n with
 |true =>
  have lt:a<n:=Nat.le_of_ble_eq_true h;unfold Heap.get?;rw[absHeap_at,if_pos lt];generalize (t.get a).getD default=o;obtain⟨c,d,dt,sl⟩:=o
  cases dt <;> rfl
 |false =>
  refine abs_get_none λz=>?_;have:Nat.blt a n=true:=Nat.ble_eq_true_of_le z;rw[this] at h
  cases h
def xi (as:List Addr)(s:SharedT):Frag:=as.filterMap λa=>(BC s a).map λo=>(a,o)
theorem Fun (as:List Addr)(s:SharedT):uR as s.abs.heap=xi as s:=by
 unfold uR xi;congr 1
 funext a
 rw[aab]
section
variable {p q:u6}{loose:E4}{Xt:Shared->Bool}{α:Type}{Yf:Shared->α}{Ya:World->α}{N:Nat}
theorem aak (key:∀w,∃h s,bare p w N=some (h,s)/\staticsOk (importedModules p.main.body) h s.abs.heap=true/\(namesBound p s.abs.heap=true/\gensDone s.abs=true/\laidKept h s.abs.heap=true) /\
 (((recsOf q).take 45).map (·.name)).map (s.abs.heap.shapeAt mainGlobals)=((recsOf q).take 45).map (λd=>some d.shape)/\(((recsOf q).drop 45).map (·.name)).map (s.abs.heap.shapeAt mainGlobals)=((recsOf q).drop 45).map (λd=>some d.shape) /\
 ((ownsOf q).all (λo=>s.abs.heap.ownExcOk o.name o.chain o.bm o.newId&&s.abs.heap.quietOk o.name),s.abs.heap.isNs mainGlobals,s.abs.heap.isNs builtinsNs,s.abs.heap.noLimitOk&&s.abs.heap.noDigitsOk)=(true,true,true,true)/\s.abs.heap.bltView=bltViewBooted /\
 s.abs.heap.keysOk (looseW q loose) ((recsOf q).map (·.name)) ((litsOf q).map (·.1)) ((clssOf q (looseW q loose)).map (·.name))=true /\
 (s.abs.heap.accountedOkI (importedModules p.main.body)&&s.abs.heap.isNs mainGlobals&&s.abs.heap.isNs builtinsNs&&tablesOk q s.abs.heap)=true/\(Xt s.abs&&(if true then s.abs.gens.size==0 else !leftWithCleanup s.abs.gens))=true /\
 ((recsOf q).take 45).all (λd=>s.abs.heap.tab0Ok d.name)=true/\((recsOf q).drop 45).all (λd=>s.abs.heap.tab0Ok d.name)=true/\(s.abs.heap.bmainOk&&valsOk q s.abs.heap&&(!importsNone q || s.abs.heap.noSeerOk))=true/\pinSeenD q (drecsOf q) s.abs=pinGoodD (drecsOf q)/\plainSeenE q (looseW q loose) s.abs=plainGoodE q (looseW q loose)/\plainSeenD q loose s.abs=plainGoodD q loose/\wideSeen q s.abs=wideGood q/\clsSeenW q loose s.abs=clsGoodW q loose/\Yf s.abs=Ya w):LeftO p q loose Xt Yf Ya N:=by
 refine aaH (λw=>?_) (λw=>?_) (λw=>?_) (λw=>?_)
 all_goals
  obtain⟨h,s,e,c1,⟨c2,c3,c4⟩,a1,a3,a4,a2,b1,b2,b3,d1,d7,d8,d2,d3,d4,d5,d6,y⟩:=key w;rw[aaB e c1 c2 c3 c4];refine congrArg some ?_
 ·have a5:(((recsOf q).map (·.name)).map (s.abs.heap.shapeAt mainGlobals))=(recsOf q).map (λd=>some d.shape):=by
   conv=>lhs;rw[<-List.take_append_drop 45 (recsOf q)]
   conv=>rhs;rw[<-List.take_append_drop 45 (recsOf q)]
   rw[List.map_append,List.map_append,List.map_append,a1,a3]
  injection a4 with x1 a4
  injection a4 with x2 a4
  injection a4 with x3 x4
  show((⟨_,_,_,_,_,_,_⟩:Seen),_)=_;rw[a5,a2,x1,x2,x3,x4];rfl
 ·obtain⟨b2,x4⟩:=Bool.and_eq_true_iff.mp b2;obtain⟨b2,x3⟩:=Bool.and_eq_true_iff.mp b2;obtain⟨x1,x2⟩:=Bool.and_eq_true_iff.mp b2;obtain⟨x5,x6⟩:=Bool.and_eq_true_iff.mp b3;show(s.abs.heap.keysOk _ _ _ _&&s.abs.heap.accountedOkI _&&s.abs.heap.isNs mainGlobals&&s.abs.heap.isNs builtinsNs&&tablesOk q s.abs.heap&&Xt s.abs&&_)=true;rw[b1,x1,x2,x3,x4,x5,x6];rfl
 ·have t:tabsOk q s.abs=true:=by
   obtain⟨d8,x3⟩:=Bool.and_eq_true_iff.mp d8;obtain⟨x1,x2⟩:=Bool.and_eq_true_iff.mp d8
   have e1:(recsOf q).all (λd=>s.abs.heap.tab0Ok d.name)=true:=by
    rw[<-List.take_append_drop 45 (recsOf q),List.all_append,d1,d7];rfl
   unfold tabsOk;rw[e1,x1,x2,x3];rfl
  show(_,_,_,_,_,_)=_;rw[t,d2,d3,d4,d5,d6]
 ·exact y
theorem at_ {α β:Type}{x:Option α}{f:α->β}{v:β}{y:α}(h:x.map f=some v)(e:x=some y):f y=v:=by
 rw[e] at h;exact Option.some.inj h
end
end Hd
section
open PySem PySem.W PyProof.Rows
set_option maxRecDepth 100000 in
set_option maxHeartbeats 0 in
theorem K80.sd1:PySem.Challenge.rw_falsesums_k80_wishes_put_and_taken_back.wellSaid=true:=by kernel_rfl
set_option maxRecDepth 100000 in
set_option maxHeartbeats 0 in
theorem K80.sd3:PySem.Challenge.rw_falsesums_k80_wishes_put_and_taken_back.row.prog.bare:=⟨rfl,rfl,rfl,rfl,rfl,by decide +kernel⟩
set_option maxRecDepth 100000 in
set_option maxHeartbeats 0 in
theorem K80.ran0:∀w,(Hd.bare PySem.Challenge.rw_falsesums_k80_wishes_put_and_taken_back.row.prog w 10452).map (λs=>(staticsOk (importedModules PySem.Challenge.rw_falsesums_k80_wishes_put_and_taken_back.row.prog.main.body) s.1 s.2.abs.heap,(namesBound PySem.Challenge.rw_falsesums_k80_wishes_put_and_taken_back.row.prog s.2.abs.heap,gensDone s.2.abs,laidKept s.1 s.2.abs.heap),(s.2.abs.heap.accountedOkI (importedModules PySem.Challenge.rw_falsesums_k80_wishes_put_and_taken_back.row.prog.main.body)&&s.2.abs.heap.isNs mainGlobals&&s.2.abs.heap.isNs builtinsNs&&tablesOk K80.cP s.2.abs.heap),((λs=>xlAt K80.cP K80.lv s&&recOk (PySem.Challenge.rw_falsesums_k80_wishes_put_and_taken_back.row.toRowW).records s) s.2.abs&&(if true then s.2.abs.gens.size==0 else !leftWithCleanup s.2.abs.gens))))=some (true,(true,true,true),true,true):=by
 intro w;kernel_rfl
set_option maxRecDepth 100000 in
set_option maxHeartbeats 0 in
theorem K80.ran1:∀w,(Hd.bare PySem.Challenge.rw_falsesums_k80_wishes_put_and_taken_back.row.prog w 10452).map (λs=>((((recsOf K80.cP).take 45).map (·.name)).map (s.2.abs.heap.shapeAt mainGlobals),((recsOf K80.cP).take 45).all (λd=>s.2.abs.heap.tab0Ok d.name)))=some (((recsOf K80.cP).take 45).map (λd=>some d.shape),true):=by
 intro w;kernel_rfl
set_option maxRecDepth 100000 in
set_option maxHeartbeats 0 in
theorem K80.ran2:∀w,(Hd.bare PySem.Challenge.rw_falsesums_k80_wishes_put_and_taken_back.row.prog w 10452).map (λs=>((((recsOf K80.cP).drop 45).map (·.name)).map (s.2.abs.heap.shapeAt mainGlobals),((recsOf K80.cP).drop 45).all (λd=>s.2.abs.heap.tab0Ok d.name)))=some (((recsOf K80.cP).drop 45).map (λd=>some d.shape),true):=by
 intro w;kernel_rfl
set_option maxRecDepth 100000 in
set_option maxHeartbeats 0 in
theorem K80.ran3:∀w,(Hd.bare PySem.Challenge.rw_falsesums_k80_wishes_put_and_taken_back.row.prog w 10452).map (λs=>s.2.abs.heap.keysOk (looseW K80.cP ["Field","STEP"]) ((recsOf K80.cP).map (·.name)) ((litsOf K80.cP).map (·.1)) ((clssOf K80.cP (looseW K80.cP ["Field","STEP"])).map (·.name)))=some (true):=by
 intro w;kernel_rfl
set_option maxRecDepth 100000 in
set_option maxHeartbeats 0 in
theorem K80.ran4:∀w,(Hd.bare PySem.Challenge.rw_falsesums_k80_wishes_put_and_taken_back.row.prog w 10452).map (λs=>(pinSeenD K80.cP (drecsOf K80.cP) s.2.abs,K80.q0 (Hd.xi K80.qG s.2)))=some (pinGoodD (drecsOf K80.cP),K80.tP):=by
 intro w;kernel_rfl
set_option maxRecDepth 100000 in
set_option maxHeartbeats 0 in
theorem K80.ran5:∀w,(Hd.bare PySem.Challenge.rw_falsesums_k80_wishes_put_and_taken_back.row.prog w 10452).map (λs=>plainSeenE K80.cP (looseW K80.cP ["Field","STEP"]) s.2.abs)=some (plainGoodE K80.cP (looseW K80.cP ["Field","STEP"])):=by
 intro w;kernel_rfl
set_option maxRecDepth 100000 in
set_option maxHeartbeats 0 in
theorem K80.ran6:∀w,(Hd.bare PySem.Challenge.rw_falsesums_k80_wishes_put_and_taken_back.row.prog w 10452).map (λs=>(plainSeenD K80.cP ["Field","STEP"] s.2.abs,clsSeenW K80.cP ["Field","STEP"] s.2.abs,s.2.abs.heap.bltView))=some (plainGoodD K80.cP ["Field","STEP"],clsGoodW K80.cP ["Field","STEP"],bltViewBooted):=by
 intro w;kernel_rfl
set_option maxRecDepth 100000 in
set_option maxHeartbeats 0 in
theorem K80.ran7:∀w,(Hd.bare PySem.Challenge.rw_falsesums_k80_wishes_put_and_taken_back.row.prog w 10452).map (λs=>wideSeen K80.cP s.2.abs)=some (wideGood K80.cP):=by
 intro w;kernel_rfl
set_option maxRecDepth 100000 in
set_option maxHeartbeats 0 in
theorem K80.ran8:∀w,(Hd.bare PySem.Challenge.rw_falsesums_k80_wishes_put_and_taken_back.row.prog w 10452).map (λs=>(((ownsOf K80.cP).all (λo=>s.2.abs.heap.ownExcOk o.name o.chain o.bm o.newId&&s.2.abs.heap.quietOk o.name),s.2.abs.heap.isNs mainGlobals,s.2.abs.heap.isNs builtinsNs,s.2.abs.heap.noLimitOk&&s.2.abs.heap.noDigitsOk),(s.2.abs.heap.bmainOk&&valsOk K80.cP s.2.abs.heap&&(!importsNone K80.cP || s.2.abs.heap.noSeerOk))))=some ((true,true,true,true),true):=by
 intro w;kernel_rfl
end
namespace L2
open PySem PySem.Spec PyProof.Rows
abbrev Key:=Sum Int Str
def lS:Key->Value->Bool
 | .inl k,v=>Value.isInt k v
 | .inr x,v=>Value.isStrOf x v
def aaj (w:World):Key->Int
 | .inl k=>hashInt k
 | .inr x=>hashStr w x
theorem b9:∀{k:Key}{v:Value},lS k v=true->(∃i t,k=Sum.inl i/\v=Value.int i t)\/(∃x t,k=Sum.inr x/\v=Value.str x t)
 | .inl i,v,h=>by
   obtain⟨t,e⟩:=Value.isInt_shape (k:=i) (v:=v) h;exact .inl ⟨i,t,rfl,e⟩
 | .inr x,v,h=>by
   obtain⟨t,e⟩:=Value.isStrOf_shape (x:=x) (v:=v) h;exact .inr ⟨x,t,rfl,e⟩
theorem aa2 (i:Int)(t:Tok):lS (.inl i) (.int i t)=true:=by simp[lS,Value.isInt]
theorem aao (x:Str)(t:Tok):lS (.inr x) (.str x t)=true:=by simp[lS,Value.isStrOf]
theorem abk (a b:Int):decide ((Sum.inl a:Key)=Sum.inl b)=(a==b):=by
 by_cases e:a=b
 ·subst e;simp
 ·have h:¬(Sum.inl a:Key)=Sum.inl b:=λq=>e (Sum.inl.inj q);rw[decide_eq_false h];exact(beq_eq_false_iff_ne.mpr e).symm
theorem aah (a b:Str):decide ((Sum.inr a:Key)=Sum.inr b)=decide (a=b):=by
 by_cases e:a=b
 ·subst e;simp
 ·have h:¬(Sum.inr a:Key)=Sum.inr b:=λq=>e (Sum.inr.inj q);rw[decide_eq_false h,decide_eq_false e]
theorem Sta (a:Int)(b:Str):decide ((Sum.inl a:Key)=Sum.inr b)=false:=decide_eq_false (λq=>nomatch q)
theorem abo (a:Str)(b:Int):decide ((Sum.inr a:Key)=Sum.inl b)=false:=decide_eq_false (λq=>nomatch q)
def b8 (prog:u6)(w:World):PySem.KeyKind prog w Key where
 is:=lS
 hash:=aaj w
 inj:=λv a b ha hb=>by
  rcases b9 ha with⟨i,t,rfl,rfl⟩|⟨x,t,rfl,rfl⟩
  ·rcases b9 hb with⟨j,u,rfl,e⟩|⟨y,u,rfl,e⟩
   ·injection e with e1 _;rw[e1]
   ·exact nomatch e
  ·rcases b9 hb with⟨j,u,rfl,e⟩|⟨y,u,rfl,e⟩
   ·exact nomatch e
   ·injection e with e1 _;rw[e1]
 byValue:=λk v h=>by
  rcases b9 h with⟨i,t,rfl,rfl⟩|⟨x,t,rfl,rfl⟩ <;> rfl
 pyHash:=λhv h=>by
  rcases b9 hv with⟨i,t,rfl,rfl⟩|⟨x,t,rfl,rfl⟩
  ·exact wpAny_pyHash_int h
  ·exact wpAny_pyHash_str h
 eqBool:=λhu hv h=>by
  rcases b9 hu with⟨i,t,rfl,rfl⟩|⟨x,t,rfl,rfl⟩
  ·rcases b9 hv with⟨j,u,rfl,rfl⟩|⟨y,u,rfl,rfl⟩
   ·rw[abk] at h;exact wpAny_eqBool_int h
   ·rw[Sta] at h;exact SeqAt.EqAt.int_str i t y u _ _ _ _ h
  ·rcases b9 hv with⟨j,u,rfl,rfl⟩|⟨y,u,rfl,rfl⟩
   ·rw[abo] at h;exact SeqAt.EqAt.str_int x t j u _ _ _ _ h
   ·rw[aah] at h;exact wpAny_eqBool_str h
 «strs»:=λk x t v h=>by
  rcases b9 h with⟨i,u,rfl,e⟩|⟨y,u,rfl,e⟩
  ·exact nomatch e
  ·injection e with e1 _
   subst e1
   cases v <;> rfl
theorem aat (prog:u6)(w:World)(i:Int)(t:Tok):(b8 prog w).is (.inl i) (.int i t)=true:=aa2 i t
theorem abu (prog:u6)(w:World)(x:Str)(t:Tok):(b8 prog w).is (.inr x) (.str x t)=true:=aao x t
inductive V where
 |non|bl (b:Bool)|int (i:Int)|str (x:Str)|byt (b:Array UInt8)|flt (b:UInt64)|ref (a:Addr)|ty (n:String)
 deriving DecidableEq
def aE:V->Value->Prop
 | .non,u=>u=Value.none
 | .bl b,u=>u=Value.bool b
 | .int i,u=>∃t,u=Value.int i t
 | .str x,u=>∃t,u=Value.str x t
 | .byt b,u=>∃t,u=Value.bytes b t
 | .flt b,u=>∃t,u=Value.float b t
 | .ref a,u=>u=Value.ref a
 | .ty n,u=>u=Value.type n
abbrev aG:List V->List Value->Prop:=Paired aE
variable {us:nZ}
theorem aG.length {xs:List V}(r:aG xs us):xs.length=us.length:=Paired.length r
theorem aG.get:∀{xs:List V}{us:nZ}{i:Nat}{x:V},aG xs us->xs[i]?=some x->∃u,us[i]?=some u/\aE x u
 |_,_,_,_,.nil,e=>by simp at e
 |_,_,0,_,.cons r _,e=>by simp at e;subst e;exact⟨_,rfl,r⟩
 |_,_,i+1,x,.cons _ t,e=>by
  obtain⟨u,h1,h2⟩:=aG.get (i:=i) (x:=x) t (by simpa using e);exact⟨u,by simpa using h1,h2⟩
variable {u:Value}
theorem aG.set {x:V}(r:aE x u):∀{xs:List V}{us:nZ}(i:Nat),aG xs us->aG (xs.set i x) (us.set i u)
 |_,_,_,.nil=>.nil
 |_,_,0,.cons _ t=>.cons r t
 |_,_,i+1,.cons q t=>.cons q (aG.set r i t)
theorem aG.append:∀{xs ys:List V}{us ws:nZ},aG xs us->aG ys ws->aG (xs++ys) (us++ws)
 |_,_,_,_,.nil,s=>s
 |_,_,_,_,.cons r t,s=>.cons r (aG.append t s)
theorem aG.take:∀{xs:List V}{us:nZ}(n:Nat),aG xs us->aG (xs.take n) (us.take n)
 |_,_,0,_=>.nil
 |_,_,_+1,.nil=>.nil
 |_,_,n+1,.cons r t=>.cons r (aG.take n t)
theorem aG.drop:∀{xs:List V}{us:nZ}(n:Nat),aG xs us->aG (xs.drop n) (us.drop n)
 |_,_,0,r=>r
 |_,_,_+1,.nil=>.nil
 |_,_,n+1,.cons _ t=>aG.drop n t
def eK:Option V->Option Value->Prop
 |some v,some u=>aE v u
 |none,none=>True
 |_,_=>False
def KV {κ:Type}:List (κ×V)->List (κ×Value)->Prop:=Paired λ(p:κ×V)(q:κ×Value)=>p.1=q.1/\aE p.2 q.2
def kV:Key->V
 | .inl i=>.int i
 | .inr x=>.str x
inductive HO where
 /-- a list -/
 |lst (xs:List V)
 /-- a tuple (never changes) -/
 |tup (xs:List V)
 /-- a dict MN keys are ints and texts;one MN keys are tuples of ints and texts (JW empty one is both) -/
 |dK (Fe:List (Key×V))|dT (Fe:List (List Key×V))
 /-- a set of ints: its members,its size -/
 |set (S:Int->Bool)(n:Nat)
 /-- an instance of JW class at C,its dict at dx,its attributes -/
 |ins (C dx:Addr)(fs:List (Str×V))
 /-- JW dict of JW instance at x -/
 |own (x:Addr)
 /-- JW dict of an exception -/
 |xd (fs:List (Str×V))
 /-- a bound method,f of x -/
 |met (f x:Addr)
 /-- a range object lo,lo+1,.. below hi -/
 |rng (lo hi:Int)
 /-- a MO ZO is known to JW object (JW RQ;a dict while a p9 walks it): read,never written while it is so -/
 |frz (o:Obj)(u:HO)
 /-- a code MP table -/
 |tbl (ps:tN)
 /-- any other MO,by ZP is true of its one object (a def of Xf own: ZQ a S n:=HO.ext λh=>..) -/
 |ext (φ:Heap->Prop)
abbrev Hp:=Addr->Option HO
def upd (H:Hp)(a:Addr)(o:HO):Hp:=λb=>if b=a then some o else H b
variable {H:Hp}{a:Addr}{o:HO}
theorem af :upd H a o a=some o:=by unfold upd;rw[if_pos rfl]
variable {b:Addr}
theorem ai (h:b≠a):upd H a o b=H b:=by unfold upd;rw[if_neg h]
theorem abC {u:HO}:upd (upd H a o) a u=upd H a u:=by
 funext b;unfold upd;split <;> rfl
theorem xf {u:HO}(h:H a=some o)(h':H b=some u)(d:o≠u):a≠b:=by
 intro e;subst e;rw[h] at h';exact d (Option.some.inj h')
theorem au (h:H a=some o)(h':H b=none):a≠b:=by
 intro e;subst e;rw[h] at h';cases h'
section
variable (P:u6)(w:World)
def bc (H:Hp)(h:Heap)(a:Addr):HO->Prop
 | .lst xs=>xs.length<=sizeLine/\∃(its:nZ)(n:Nat),aG xs its/\h.get? a=some {cls:=.type "list",data:=.seq its.toArray n}
 | .tup xs=>xs.length<=sizeLine/\∃its:List Value,aG xs its/\IsTup h a its.toArray
 | .dK Fe=>Fe.length<=sizeLine/\(a==sysModules)=false/\∃vs,KV Fe vs/\h.DictOf (b8 P w) a vs
 | .dT Fe=>Fe.length<=sizeLine/\(a==sysModules)=false/\∃xs:List (List Key×Addr×Value),
  Paired (λ(p:List Key×V)(q:List Key×Addr×Value)=>p.1=q.1/\H q.2.1=some (.tup (p.1.map kV))/\aE p.2 q.2.2) Fe xs /\
  ∃o es ep,h.get? a=some o/\o.ExactDict/\o.data=.dict es ep/\es.toList=xs.map (entryOfKey (tupleKind (b8 P w)))/\(xs.map (·.1)).Nodup
 | .set S n=>h.SetOf (intKind P w) a S n
 | .ins C dx fs=>H dx=some (.own a)/\fs.length<=1000/\dx≠a/\h.get? a=some (PySem.W.instObj C dx) /\
  ∃mA,h.Ns1 dx mA/\(∀f,eK (fs.lookup f) (mA f))/\PySem.Within mA (fs.map (·.1))
 | .own _=>∃o,h.get? a=some o
 | .xd fs=>∃mA,h.Ns1 a mA/\∀f,eK (fs.lookup f) (mA f)
 | .rng lo hi=>∃t u v,h.get? a=some {cls:=.type "range",data:=.fields #[.int lo t,.int hi u,.int 1 v]}
 | .frz o u=>h.get? a=some o/\bc H h a u
 | .tbl ps=>h.get? a=some {cls:=.none,data:=.fields ps}
 | .met f x=>h.get? a=some (PySem.W.methodObj (.ref f) (.ref x))
 | .ext φ=>φ h/\(∃o,h.get? a=some o)/\∀h1 h2:Heap,φ h1->(∀o,h1.get? a=some o->h2.get? a=some o)->φ h2
def gu (H:Hp)(h:Heap):Prop:=∀a o,H a=some o->bc P w H h a o
end
section
variable {P:u6}{w:World}{H H':Hp}{h h':Heap}{a:Addr}{o:HO}
theorem bc.lt (x:bc P w H h a o):a<h.objs.size:=by
 cases o with
 |lst xs=>obtain⟨_,_,_,_,e⟩:=x;exact Heap.lt_size e
 |tup xs=>obtain⟨_,_,_,p⟩:=x;exact p.lt
 |dK Fe=>obtain⟨_,_,_,_,o,_,_,e,_⟩:=x;exact Heap.lt_size e
 |dT Fe=>obtain⟨_,_,_,_,o,_,_,e,_⟩:=x;exact Heap.lt_size e
 |set S n=>obtain⟨o,_,_,_,e,_⟩:=x;exact Heap.lt_size e
 |ins C dx fs=>obtain⟨_,_,_,e,_⟩:=x;exact Heap.lt_size e
 |own y=>obtain⟨_,e⟩:=x;exact Heap.lt_size e
 |xd fs=>obtain⟨_,⟨_,_,_,e,_⟩,_⟩:=x;exact Heap.lt_size e
 |rng lo hi=>obtain⟨_,_,_,e⟩:=x;exact Heap.lt_size e
 |frz ob u=>obtain⟨e,_⟩:=x;exact Heap.lt_size e
 |tbl ps=>exact Heap.lt_size (show h.get? a=some _ from x)
 |met f y=>exact Heap.lt_size (show h.get? a=some _ from x)
 |ext φ=>obtain⟨_,⟨_,e⟩,_⟩:=x;exact Heap.lt_size e
theorem Paired.aa5 {α β:Type}{F G:α->β->Prop}:∀{l₁:List α}{l₂:List β},Paired F l₁ l₂->(∀a b,F a b->G a b)->Paired G l₁ l₂
 |_,_,.nil,_=>.nil
 |_,_,.cons r t,f=>.cons (f _ _ r) (Paired.aa5 t f)
theorem bc.aaZ (x:bc P w H h a o)(k:∀b u,(b=a\/H b=some (.own a))->h.get? b=some u->h'.get? b=some u)
 (ho:∀b,H b=some (.own a)->H' b=some (.own a))(ht:∀b xs,H b=some (.tup xs)->H' b=some (.tup xs)):bc P w H' h' a o:=by
 induction o with
 |lst xs=>obtain⟨z,its,n,r,e⟩:=x;exact⟨z,its,n,r,k _ _ (.inl rfl) e⟩
 |tup xs=>obtain⟨z,its,r,ob,e,c⟩:=x;exact⟨z,its,r,ob,k _ _ (.inl rfl) e,c⟩
 |dK Fe=>obtain⟨z,y,vs,r,ob,es,ep,e,c⟩:=x;exact⟨z,y,vs,r,ob,es,ep,k _ _ (.inl rfl) e,c⟩
 |dT Fe =>
  obtain⟨z,y,xs,r,ob,es,ep,e,c⟩:=x;exact⟨z,y,xs,Paired.aa5 r λp q z=>⟨z.1,ht _ _ z.2.1,z.2.2⟩,ob,es,ep,k _ _ (.inl rfl) e,c⟩
 |set S n=>obtain⟨ob,es,ep,t,e,c⟩:=x;exact⟨ob,es,ep,t,k _ _ (.inl rfl) e,c⟩
 |ins C dx fs =>
  obtain⟨d,z,ne,e,mA,⟨od,es,ep,e2,c⟩,r⟩:=x;exact⟨ho _ d,z,ne,k _ _ (.inl rfl) e,mA,⟨od,es,ep,k _ _ (.inr d) e2,c⟩,r⟩
 |own y=>obtain⟨ob,e⟩:=x;exact⟨ob,k _ _ (.inl rfl) e⟩
 |xd fs=>obtain⟨mA,⟨od,es,ep,e,c⟩,r⟩:=x;exact⟨mA,⟨od,es,ep,k _ _ (.inl rfl) e,c⟩,r⟩
 |rng lo hi=>obtain⟨t,u,v,e⟩:=x;exact⟨t,u,v,k _ _ (.inl rfl) e⟩
 |frz ob u ih=>obtain⟨e,q⟩:=x;exact⟨k _ _ (.inl rfl) e,ih q⟩
 |tbl ps =>
  have e:h.get? a=some {cls:=.none,data:=.fields ps}:=x;show h'.get? a=some {cls:=.none,data:=.fields ps};exact k a _ (.inl rfl) e
 |met f y =>
  have e:h.get? a=some (PySem.W.methodObj (.ref f) (.ref y)):=x;show h'.get? a=some (PySem.W.methodObj (.ref f) (.ref y));exact k a _ (.inl rfl) e
 |ext φ=>obtain⟨p,⟨o,e⟩,st⟩:=x;exact⟨st _ _ p λo q=>k _ _ (.inl rfl) q,⟨o,k _ _ (.inl rfl) e⟩,st⟩
theorem gu.lt (x:gu P w H h)(e:H a=some o):a<h.objs.size:=(x a o e).lt
theorem gu.fresh (x:gu P w H h)(e:h.objs.size<=a):H a=none:=by
 cases q:H a with
 |none=>rfl
 |some u=>exact absurd (Nat.lt_of_lt_of_le (x.lt q) e) (Nat.lt_irrefl _)
theorem gu.kept (x:gu P w H h)(k:∀b u,h.get? b=some u->h'.get? b=some u):gu P w H h':=λa o e =>
 (x a o e).aaZ (λb u _ q=>k b u q) (λ_ q=>q) λ_ _ q=>q
theorem gu.laid (x:gu P w H h)(k:∀b u,h.get? b=some u->h'.get? b=some u)(hp:h.objs.size<=a)(new:bc P w (upd H a o) h' a o):gu P w (upd H a o) h':=λb u e=>by
 have hn:=x.fresh hp
 by_cases hb:b=a
 ·subst hb;rw[af] at e;cases e;exact new
 ·rw[ai hb] at e
  exact(x b u e).aaZ (λc v _ q=>k c v q) (λc q=>by rw[ai (au q hn)];exact q) λc xs q=>by rw[ai (au q hn)];exact q
end
def Rd (H:Hp)(a:Addr)(u:HO):Prop:=H a=some u\/∃o,H a=some (.frz o u)
variable {P:u6}{w:World}{h:Heap}
theorem Rd.ok {u:HO}(r:Rd H a u)(x:gu P w H h):bc P w H h a u:=by
 rcases r with r|⟨o,r⟩
 ·exact x a u r
 ·obtain⟨_,q⟩:=x a _ r;exact q
def Dh:Option HO->Prop
 |some (.lst _)=>True
 |some (.dK _)=>True
 |some (.dT _)=>True
 |some (.set _ _)=>True
 |some (.ins _ _ _)=>True
 |some (.ext _)=>True
 |_=>False
section
variable {P:u6}{w:World}{H:Hp}{h h':Heap}{x e:Addr}{o':HO}
theorem gu.write (ok:gu P w H h)(mu:Dh (H x))(he:e=x\/H e=some (.own x))(k:∀b u,b≠e->h.get? b=some u->h'.get? b=some u)(Ml:∃u,h'.get? e=some u)
 (new:bc P w (upd H x o') h' x o'):gu P w (upd H x o') h':=λb u q=>by
 have MQ:∀c y,H c=some (.own y)->c≠x:=λc y r z=>by subst z;rw[r] at mu;exact mu
 have RS:∀c xs,H c=some (.tup xs)->c≠x:=λc xs r z=>by subst z;rw[r] at mu;exact mu
 by_cases hb:b=x
 ·subst hb;rw[af] at q;cases q;exact new
 ·rw[ai hb] at q
  by_cases K1:b=e
  ·have q':H b=some (.own x):=by
    rcases he with z|z
    ·exact absurd (K1.trans z) hb
    ·rw[K1];exact z
   rw[q] at q';cases q';obtain⟨v,hv⟩:=Ml;exact⟨v,by rw[K1];exact hv⟩
  ·refine(ok b u q).aaZ (λc v hc r=>k c v ?_ r) (λc r=>by rw[ai (MQ c b r)];exact r) λc xs r=>by rw[ai (RS c xs r)];exact r
   rcases hc with rfl|hc
   ·exact K1
   ·rintro rfl
    rcases he with z|z
    ·exact MQ c b hc z
    ·rw[hc] at z;cases z;exact hb rfl
end
structure Un (fs ex:List Addr)(H H':Hp)(h h':Heap):Prop where
 keep:∀b o,h.get? b=some o->H b=none->b∉fs->b∉ex->h'.get? b=some o
 slot:∀b o,h.get? b=some o->H b=none->b∈fs->b∉ex->∃sl,h'.get? b=some {o with slots:=sl}
 free:∀b o,h.get? b=some o->H b=none->b∉ex->H' b=none
 there:∀b o,h.get? b=some o->b∉ex->∃o',h'.get? b=some o'
 aaq:∀b xs,H b=some (.tup xs)->H' b=some (.tup xs)
 aap:∀b o u,H b=some (.frz o u)->H' b=some (.frz o u)
 aav:∀b ps,H b=some (.tbl ps)->∃more,H' b=some (.tbl (ps++more))
section
variable {fs ZR ex ex':List Addr}{H H1 H2:Hp}{h h1 h2 h':Heap}{a x e:Addr}{o:HO}
theorem Un.any (u:Un fs ex H H1 h h1){ob:Obj}(q:h.get? b=some ob)(n:H b=none)(hx:b∉ex):∃sl,h1.get? b=some {ob with slots:=sl}:=by
 by_cases hb:b∈fs
 ·exact u.slot b ob q n hb hx
 ·exact⟨ob.slots,u.keep b ob q n hb hx⟩
theorem Un.kept (k:∀b u,h.get? b=some u->h'.get? b=some u):Un fs ex H H h h' :=
 ⟨λb ob q _ _ _=>k b ob q,λb ob q _ _ _=>⟨ob.slots,k b ob q⟩,λ_ _ _ n _=>n,λb ob q _=>⟨ob,k b ob q⟩,λ_ _ q=>q,λ_ _ _ q=>q,λ_ ps q=>⟨#[],by rw[q];simp⟩⟩
theorem Un.refl:Un fs ex H H h h:=Un.kept λ_ _ q=>q
theorem Un.laid (k:∀b u,h.get? b=some u->h'.get? b=some u)(hp:h.objs.size<=a)(hn:H a=none):Un fs ex H (upd H a o) h h' where
 keep:=λb u q _ _ _=>k b u q
 slot:=λb u q _ _ _=>⟨u.slots,k b u q⟩
 free:=λb u q n _=>by rw[ai (Nat.ne_of_lt (Nat.lt_of_lt_of_le (Heap.lt_size q) hp))];exact n
 there:=λb u q _=>⟨u,k b u q⟩
 aaq:=λb xs q=>by rw[ai (au q hn)];exact q
 aap:=λb u xs q=>by rw[ai (au q hn)];exact q
 aav:=λb ps q=>⟨#[],by rw[ai (au q hn),q];simp⟩
theorem Un.write (mu:Dh (H x))(he:e=x\/H e=some (.own x))(k:∀b u,b≠e->h.get? b=some u->h'.get? b=some u)(Ml:∃u,h'.get? e=some u):Un fs ex H (upd H x o) h h':=by
 have hx:∀b,H b=none->b≠x:=λb n z=>by subst z;rw[n] at mu;exact mu
 have hb:∀b,H b=none->b≠e:=λb n z=>by
  subst z
  rcases he with r|r
  ·exact hx b n r
  ·rw[n] at r;cases r
 have hm:∀b u,H b=some u->¬Dh (some u)->b≠x:=λb u q nm z=>by subst z;rw[q] at mu;exact nm mu
 refine⟨λb u q n _ _=>k b u (hb b n) q,λb u q n _ _=>⟨u.slots,k b u (hb b n) q⟩,λb u q n _=>by rw[ai (hx b n)];exact n,λb u q _=>?_,
  λb xs q=>by rw[ai (hm b _ q λz=>z)];exact q,λb u xs q=>by rw[ai (hm b _ q λz=>z)];exact q,λb ps q=>⟨#[],by rw[ai (hm b _ q λz=>z),q];simp⟩⟩
 by_cases K1:b=e
 ·subst K1;exact Ml
 ·exact⟨u,k b u K1 q⟩
end
def Dy (h:Heap)(H:Hp):List Addr:=(List.range h.objs.size).filter λa=>(H a).isSome
def lr (h:Heap)(H:Hp):Heap:=PySem.W.hideAll h (Dy h H)
theorem Cls (h:Heap)(H:Hp):(lr h H).objs.size=h.objs.size:=PySem.W.hideAll_size _ _
theorem CXT {o:Obj}(e:h.get? b=some o)(n:H b=none):(lr h H).get? b=some o :=
 PySem.W.hideAll_get _ e λhm=>by
  have q:(H b).isSome=true:=(List.mem_filter.mp hm).2;rw[n] at q;simp at q
theorem aaw {o:Obj}(e:(lr h H).get? b=some o):h.get? b=some o/\H b=none:=by
 have e':h.get? b=some o:=PySem.W.of_hideAll (Dy h H) e;refine⟨e',?_⟩
 cases q:H b with
 |none=>rfl
 |some x =>
  have hm:b∈Dy h H:=List.mem_filter.mpr ⟨List.mem_range.mpr (Heap.lt_size e'),by simp[q]⟩;have z:(lr h H).get? b=none:=PySem.W.hideAll_none (Dy h H) hm;rw[z] at e;cases e
structure Mod (K:PySem.W.Frag)(mg:wg)(base:Heap):Prop where
 kin:K.In base
 glob:base.Ns mainGlobals mg
 blt:∃mb,base.Ns builtinsNs mb/\∀x:Str,x ≠ "__name__"->mb x=bootBuiltins x
 nolimit:base.NoLimit
structure Cx where
 prog:Program
 w:World
 K:PySem.W.Frag
 mg:Str->Option Value
 base:Heap
 A:Around
 N:List Str
 s₀:Shared
 H₀:Hp
 env:Env
 outer:List Env
 stack:List Env
 ex:List Addr
 fn:Str->Bool
 calm:Bool
 pn:List (Addr×Obj)
 xe:Value->Shared->Prop
def dW (l:List Env):List Addr:=l.filterMap (·.frame)
abbrev Cx.fs (X:Cx):List Addr:=dW X.outer
def Du (sc:Scope)(x:Str):Prop:=sc.names.lookup x=some .local\/sc.names.lookup x=some .cell\/sc.names.lookup x=some .free
def C4 (sc:Scope)(x:Str):Prop:=sc.names.lookup x=some .local\/sc.names.lookup x=some .cell
def abv (env:Env)(h:Heap)(m:wg)(x:Str)(u:Value):Prop :=
 (env.kindOf x=some .local/\m x=some u)\/((env.kindOf x=some .cell\/env.kindOf x=some .free)/\∃c,env.cells.lookup x=some c/\h.IsCell c (some u))
structure Cx.Ok (X:Cx):Prop where
 mod:Mod X.K X.mg X.base
 kind:X.env.scope.kind=.function
 glob:X.env.globals=mainGlobals
 blt:X.env.builtins=builtinsNs
 above:X.s₀.heap.objs.size<=X.env.locals
 inj:∀x y c,X.env.cells.lookup x=some c->X.env.cells.lookup y=some c->x=y
 has:∀x,(X.env.kindOf x=some .cell\/X.env.kindOf x=some .free)->∃c,X.env.cells.lookup x=some c
 cab:∀x c,X.fn x=true->X.env.cells.lookup x=some c->X.s₀.heap.objs.size<=c
 hd:X.calm=true->X.A.handled=none
 frames:X.A.frames=some X.stack
 stk:X.stack=X.outer\/(X.stack=X.env::X.outer/\X.env.frame=some X.env.locals)
 exf:∀b∈X.ex,b≠X.env.locals/\∀x c,X.env.cells.lookup x=some c->c≠b
 bs:∀b o,X.base.get? b=some o->X.s₀.heap.get? b=some o/\X.H₀ b=none
 bsz:X.base.objs.size<=X.s₀.heap.objs.size
 abb:∀b o,X.base.get? b=some o->b∉X.ex
 abj:∀b∈X.ex,b∉X.fs
 aau:X.s₀.heap.FunFrames X.base X.outer
 frf:∀b∈X.fs,X.H₀ b=none
structure Inv (X:Cx)(pins:List (Addr×Obj))(σ:List (Option V))(H:Hp)(s:AQ):Prop where
 ok:X.Ok
 os:s.os=X.s₀.os
 bare:AllBare s.gens
 base:Un X.fs X.ex X.H₀ H X.s₀.heap s.heap
 loc:∃m,s.heap.Ns X.env.locals m/\∀(i:Nat)(x:Str)(v:V),X.N[i]?=some x->σ[i]?=some (some v)->Du X.env.scope x->∃u,aE v u/\abv X.env s.heap m x u
 cell:∀x c,X.env.cells.lookup x=some c->∃v,s.heap.IsCell c v
 free:H X.env.locals=none
 aan:∀x c,X.env.cells.lookup x=some c->H c=none
 pin:∀p∈X.pn++pins,s.heap.get? p.1=some p.2/\H p.1=none/\p.1≠X.env.locals/\p.1∉X.fs/\∀v,p.2.data≠.cell v
 hok:gu X.prog X.w H s.heap
 len:σ.length=X.N.length
variable {N:E4}{i:Nat}{x:Str}{M:Model}{A:Around}{v:V}
section
variable {X:Cx}{pins:List (Addr×Obj)}{σ:List (Option V)}{H H':Hp}{s:AQ}{h':Heap}
theorem Cx.Ok.aco (ok:X.Ok){o:Obj}(e:X.base.get? b=some o):b∉X.fs:=λhb=>by
 have:=(ok.aau.mem hb).1;rw[e] at this;cases this
theorem Inv.bs (I:Inv X pins σ H s):∀b o,X.base.get? b=some o->s.heap.get? b=some o/\H b=none:=λb o e =>
 ⟨I.base.keep b o (I.ok.bs b o e).1 (I.ok.bs b o e).2 (I.ok.aco e) (I.ok.abb b o e),I.base.free b o (I.ok.bs b o e).1 (I.ok.bs b o e).2 (I.ok.abb b o e)⟩
theorem Inv.bk (I:Inv X pins σ H s):∀b o,X.base.get? b=some o->s.heap.get? b=some o:=λb o e=>(I.bs b o e).1
theorem Inv.mod (I:Inv X pins σ H s):Mod X.K X.mg X.base:=I.ok.mod
theorem Inv.kIn (I:Inv X pins σ H s):X.K.In s.heap:=I.ok.mod.kin.keeps I.bk
theorem Inv.fr (I:Inv X pins σ H s):∃m,Fr X.base X.env.locals s.heap m :=
 let⟨m,hn,_⟩:=I.loc
 ⟨m,hn,I.bk,Nat.le_trans I.ok.bsz I.ok.above⟩
theorem Inv.lt (I:Inv X pins σ H s):X.env.locals<s.heap.objs.size:=let⟨_,hn,_⟩:=I.loc;hn.lt
theorem Inv.sz (I:Inv X pins σ H s):X.s₀.heap.objs.size<=s.heap.objs.size:=Nat.le_trans I.ok.above (Nat.le_of_lt I.lt)
theorem Inv.ab6 (I:Inv X pins σ H s)(h:s.heap.objs.size<=a):a∉X.fs:=λhb=>by
 obtain⟨_,o,ho,_⟩:=I.ok.aau.mem hb;exact absurd (Nat.lt_of_lt_of_le (Heap.lt_size ho) (Nat.le_trans I.sz h)) (Nat.lt_irrefl _)
theorem Inv.cne (I:Inv X pins σ H s):∀x c,X.env.cells.lookup x=some c->c≠X.env.locals:=λx c e z=>by
 obtain⟨v,o,ho,hd⟩:=I.cell x c e;obtain⟨m,⟨o',es,ep,Gb,RT,_⟩,_⟩:=I.loc;rw[z,Gb] at ho;cases ho;rw[RT] at hd;cases hd
theorem Inv.aau (I:Inv X pins σ H s):s.heap.FunFrames X.base X.outer:=by
 have all:∀(l:List Env),(∀b∈dW l,b∈X.fs)->X.s₀.heap.FunFrames X.base l->s.heap.FunFrames X.base l:=by
  intro l
  induction l with
  |nil=>intro _ _;trivial
  |cons env r ih =>
   intro hs hl;obtain⟨hk,⟨L,o,hf,hn,ho,hd⟩,hr⟩:=hl;have hL:L∈X.fs:=hs L (by unfold dW;rw[List.filterMap_cons,hf];exact List.mem_cons_self);obtain⟨sl,e⟩:=I.base.slot L o ho (I.ok.frf L hL) hL λz=>I.ok.abj L z hL;exact⟨hk,⟨L,_,hf,hn,e,hd⟩,ih (λb hb=>hs b (by unfold dW;rw[List.filterMap_cons,hf];exact List.mem_cons_of_mem _ hb)) hr⟩
 exact all X.outer (λ_ hb=>hb) I.ok.aau
theorem Inv.stack (I:Inv X pins σ H s):s.heap.FunFrames X.base X.stack:=by
 rcases I.ok.stk with e|⟨e,hf⟩
 ·rw[e];exact I.aau
 ·rw[e];obtain⟨m,hn,_⟩:=I.loc;refine .cons (by rw[I.ok.kind];decide) hf hn ?_ I.aau;exact Heap.get?_none_of_le (Nat.le_trans I.ok.bsz I.ok.above)
theorem Inv.aaz (I:Inv X pins σ H s):∀b∈dW X.stack,b∈X.env.locals::X.fs:=λb hb=>by
 rcases I.ok.stk with e|⟨e,hf⟩
 ·rw[e] at hb;exact List.mem_cons_of_mem _ hb
 ·rw[e] at hb;unfold dW at hb;rw[List.filterMap_cons,hf] at hb;exact hb
theorem Inv.aaE (I:Inv X pins σ H s):∀b∈dW X.stack,H b=none:=λb hb=>by
 rcases List.mem_cons.mp (I.aaz b hb) with e|hb
 ·rw[e];exact I.free
 ·obtain⟨_,o,ho,_⟩:=I.ok.aau.mem hb;exact I.base.free b o ho (I.ok.frf b hb) λz=>I.ok.abj b z hb
theorem Inv.step {g':Array GenState}{t':Nat}{d':Drawn}{ch:List Addr}(I:Inv X pins σ H s)
 (Jh:∀b∈ch,(b∈X.ex\/X.s₀.heap.objs.size<=b)/\b≠X.env.locals/\(∀x c,X.env.cells.lookup x=some c->c≠b)/\∀p∈X.pn++pins,p.1≠b)
 (keep:∀b o,b≠X.env.locals->b∉X.fs->b∉ch->s.heap.get? b=some o->H b=none->h'.get? b=some o)
 (slot:∀b o,b≠X.env.locals->b∈X.fs->b∉ch->s.heap.get? b=some o->H b=none->∃sl,h'.get? b=some {o with slots:=sl})(free:∀b o,b∉ch->s.heap.get? b=some o->H b=none->H' b=none)
 (there:∀b o,b∉ch->s.heap.get? b=some o->∃o',h'.get? b=some o')
 (aaq:∀b xs,H b=some (.tup xs)->H' b=some (.tup xs))(aap:∀b o u,H b=some (.frz o u)->H' b=some (.frz o u))(aav:∀b ps,H b=some (.tbl ps)->∃more,H' b=some (.tbl (ps++more)))
 (ns:∀m,s.heap.Ns X.env.locals m->h'.Ns X.env.locals m)(hok:gu X.prog X.w H' h')(hg:AllBare g'):
 Inv X pins σ H' {s with heap:=h',gens:=g',drawn:=d',toks:=t'}:=by
 have Xg:∀b o,X.s₀.heap.get? b=some o->b≠X.env.locals:=λb o e=>Nat.ne_of_lt (Nat.lt_of_lt_of_le (Heap.lt_size e) I.ok.above)
 have QX:∀b o,X.s₀.heap.get? b=some o->b∉X.ex->b∉ch:=λb o e hx hb=>by
  rcases(Jh b hb).1 with z|z
  ·exact hx z
  ·exact absurd (Nat.lt_of_lt_of_le (Heap.lt_size e) z) (Nat.lt_irrefl _)
 have cellK:∀x c,X.env.cells.lookup x=some c->∀v,s.heap.IsCell c v->h'.IsCell c v:=λx c e v ⟨o,ho,hd⟩=>by
  have MR:c∉ch:=λz=>(Jh c z).2.2.1 x c e rfl
  by_cases hc:c∈X.fs
  ·obtain⟨sl,q⟩:=slot c o (I.cne x c e) hc MR ho (I.aan x c e);exact⟨_,q,hd⟩
  ·exact⟨o,keep c o (I.cne x c e) hc MR ho (I.aan x c e),hd⟩
 refine⟨I.ok,I.os,hg,⟨λb o e n hb hx=>?_,λb o e n hb hx=>?_,λb o e n hx=>?_,λb o e hx=>?_,λb xs e=>aaq b xs (I.base.aaq b xs e),λb o xs e=>aap b o xs (I.base.aap b o xs e),λb ps e=>?_⟩,?_,λx c e=>?_,?_,λx c e=>?_,λp hp=>?_,hok,I.len⟩
 ·exact keep b o (Xg b o e) hb (QX b o e hx) (I.base.keep b o e n hb hx) (I.base.free b o e n hx)
 ·obtain⟨sl,e1⟩:=I.base.slot b o e n hb hx;obtain⟨Hm,e2⟩:=slot b _ (Xg b o e) hb (QX b o e hx) e1 (I.base.free b o e n hx);exact⟨Hm,e2⟩
 ·obtain⟨o',e1⟩:=I.base.there b o e hx;exact free b o' (QX b o e hx) e1 (I.base.free b o e n hx)
 ·obtain⟨o',e1⟩:=I.base.there b o e hx;exact there b o' (QX b o e hx) e1
 ·obtain⟨m1,e1⟩:=I.base.aav b ps e;obtain⟨m2,e2⟩:=aav b _ e1;exact⟨m1++m2,by rw[e2,Array.append_assoc]⟩
 ·obtain⟨m,hn,hl⟩:=I.loc;refine⟨m,ns m hn,λi x v e1 e2 e3=>?_⟩;obtain⟨u,r,l⟩:=hl i x v e1 e2 e3;refine⟨u,r,?_⟩
  rcases l with l|⟨k,c,e,z⟩
  ·exact .inl l
  ·exact .inr ⟨k,c,e,cellK x c e _ z⟩
 ·obtain⟨v,z⟩:=I.cell x c e;exact⟨v,cellK x c e v z⟩
 ·obtain⟨m,⟨o,_,_,ho,_⟩,_⟩:=I.loc;exact free _ o (λz=>(Jh _ z).2.1 rfl) ho I.free
 ·obtain⟨v,o,ho,hd⟩:=I.cell x c e;exact free c o (λz=>(Jh c z).2.2.1 x c e rfl) ho (I.aan x c e)
 ·obtain⟨e,n,ne,nf,d⟩:=I.pin p hp;have MR:p.1∉ch:=λz=>(Jh p.1 z).2.2.2 p hp rfl;exact⟨keep p.1 p.2 ne nf MR e n,free p.1 p.2 MR e n,ne,nf,d⟩
theorem Inv.un {t':Nat}(I:Inv X pins σ H s)(u:Un X.fs [] H H' s.heap h')(hok:gu X.prog X.w H' h'):Inv X pins σ H' {s with heap:=h',toks:=t'}:=by
 obtain⟨m,⟨o,es,ep,ho,r⟩,_⟩:=id I.loc;obtain⟨sl,hL⟩:=u.any ho I.free (by simp)
 exact I.step (g':=s.gens) (d':=s.drawn) (ch:=[]) (λ_ z=>nomatch z) (λb o _ hb _ e n=>u.keep b o e n hb (by simp)) (λb o _ hb _ e n=>u.slot b o e n hb (by simp)) (λb o _ e n=>u.free b o e n (by simp)) (λb o _ e=>u.there b o e (by simp)) u.aaq u.aap u.aav (λm' hm=>by
  obtain⟨o',K2,K3,Gb,r'⟩:=hm;rw[ho] at Gb;cases Gb
  exact⟨_,K2,K3,hL,r'⟩) hok I.bare
theorem Inv.call {g':Array GenState}{t':Nat}{d':Drawn}{ch:List Addr}(I:Inv X pins σ H s)(u:Un (dW X.stack) ch H H' s.heap h')(hok:gu X.prog X.w H' h')(hg:AllBare g')
 (Jh:∀b∈ch,(b∈X.ex\/X.s₀.heap.objs.size<=b)/\b≠X.env.locals/\(∀x c,X.env.cells.lookup x=some c->c≠b)/\∀p∈X.pn++pins,p.1≠b):
 Inv X pins σ H' {s with heap:=h',gens:=g',drawn:=d',toks:=t'}:=by
 obtain⟨m,⟨o,es,ep,ho,r⟩,_⟩:=id I.loc;obtain⟨sl,hL⟩:=u.any ho I.free λz=>(Jh _ z).2.1 rfl
 exact I.step (ch:=ch) Jh (λb o hL hb hc e n=>u.keep b o e n (λz=>(List.mem_cons.mp (I.aaz b z)).elim hL hb) hc) (λb o _ _ hc e n=>u.any e n hc) (λb o hc e n=>u.free b o e n hc) (λb o hc e=>u.there b o e hc) u.aaq u.aap u.aav (λm' hm=>by
  obtain⟨o',K2,K3,Gb,r'⟩:=hm;rw[ho] at Gb;cases Gb
  exact⟨_,K2,K3,hL,r'⟩) hok hg
theorem Inv.turned {t':Nat}{it:Addr}(I:Inv X pins σ H s)(k:∀b o,b≠it->s.heap.get? b=some o->h'.get? b=some o)(hn:H it=none)(hL:it≠X.env.locals)
 (h1:it∈X.ex\/X.s₀.heap.objs.size<=it)(h2:∀x c,X.env.cells.lookup x=some c->c≠it)(h3:∀p∈X.pn++pins,p.1≠it):Inv X pins σ H {s with heap:=h',toks:=t'}:=by
 have JX:∀b u,H b=some u->b≠it:=λb u e z=>by rw[z,hn] at e;cases e
 refine I.step (g':=s.gens) (d':=s.drawn) (ch:=[it]) (λb hb=>?_) (λb o _ _ hc e _=>k b o (λz=>hc (by simp[z])) e) (λb o _ _ hc e _=>⟨o.slots,k b o (λz=>hc (by simp[z])) e⟩) (λ_ _ _ _ n=>n)
  (λb o hc e=>⟨o,k b o (λz=>hc (by simp[z])) e⟩) (λ_ _ e=>e) (λ_ _ _ e=>e) (λb ps e=>⟨#[],by rw[e];simp⟩) (λm hm=>?_) (λb u e=>?_) I.bare
 ·have e:b=it:=by simpa using hb
  subst e;exact⟨h1,hL,h2,h3⟩
 ·obtain⟨o,es,ep,ho,r⟩:=hm;exact⟨o,es,ep,k _ o (Ne.symm hL) ho,r⟩
 ·refine(I.hok b u e).aaZ (λc v hc q=>k c v ?_ q) (λ_ q=>q) λ_ _ q=>q
  rcases hc with z|z
  ·rw[z];exact JX b u e
  ·exact JX c _ z
theorem Inv.tok (I:Inv X pins σ H s)(t:Nat):Inv X pins σ H {s with toks:=t}:=I.un (h':=s.heap) (t':=t) Un.refl I.hok
theorem Inv.kept {t':Nat}(I:Inv X pins σ H s)(k:∀b u,s.heap.get? b=some u->h'.get? b=some u):Inv X pins σ H {s with heap:=h',toks:=t'}:=I.un (Un.kept k) (I.hok.kept k)
theorem Inv.laid {a:Addr}{o:HO}{t':Nat}(I:Inv X pins σ H s)(k:∀b u,s.heap.get? b=some u->h'.get? b=some u)(hp:s.heap.objs.size<=a)(new:bc X.prog X.w (upd H a o) h' a o):
 Inv X pins σ (upd H a o) {s with heap:=h',toks:=t'}:=I.un (Un.laid k hp (I.hok.fresh hp)) (I.hok.laid k hp new)
theorem Inv.write {x e:Addr}{o:HO}{t':Nat}(I:Inv X pins σ H s)(mu:Dh (H x))(he:e=x\/H e=some (.own x))(k:∀b u,b≠e->s.heap.get? b=some u->h'.get? b=some u)(Ml:∃u,h'.get? e=some u)
 (new:bc X.prog X.w (upd H x o) h' x o):Inv X pins σ (upd H x o) {s with heap:=h',toks:=t'}:=I.un (Un.write mu he k Ml) (I.hok.write mu he k Ml new)
theorem Inv.aaF {pins':List (Addr×Obj)}(I:Inv X pins σ H s)(h:∀p∈pins',s.heap.get? p.1=some p.2/\H p.1=none/\p.1≠X.env.locals/\p.1∉X.fs/\∀v,p.2.data≠.cell v):Inv X pins' σ H s :=
 ⟨I.ok,I.os,I.bare,I.base,I.loc,I.cell,I.free,I.aan,λp hp=>(List.mem_append.mp hp).elim (λz=>I.pin p (List.mem_append_left _ z)) (h p),I.hok,I.len⟩
theorem j6 (hN:N.Nodup){j:Nat}(a:N[i]?=some x)(b:N[j]?=some x):i=j:=by
 obtain⟨h1,e1⟩:=List.getElem?_eq_some_iff.mp a;obtain⟨h2,e2⟩:=List.getElem?_eq_some_iff.mp b;exact(List.getElem_inj hN).mp (e1.trans e2.symm)
theorem mi {E:vy}{Q:Unit->Shared->Prop}(I:Inv X pins σ H s)(hN:X.N.Nodup)(hi:X.N[i]?=some x)(hx:C4 X.env.scope x)(r:aE v u)
 (h:∀s',Inv X pins (σ.set i (some v)) H s'->(∃a,Heap.SameBut a s.heap s'.heap/\(a=X.env.locals\/X.env.cells.lookup x=some a))->Q () s')(hf:X.fn x=true\/X.env.scope.names.lookup x=some .local:=by first|exact .inl rfl|exact .inr rfl|assumption):wpAny M A (storeName X.env x u) Q E s:=by
 obtain⟨m,hn,hl⟩:=id I.loc
 have RU:(X.env.scope.kind == .class || (X.env.scope.kind == .module&&X.env.locals != X.env.globals))=false:=by rw[I.ok.kind];rfl
 have Xh:i<σ.length:=by rw[I.len];exact(List.getElem?_eq_some_iff.mp hi).1
 have cne:=I.cne
 have tracked:∀{a:Addr}{h':Heap},(∃o,s.heap.get? a=some o/\H a=none)->Heap.SameBut a s.heap h'->gu X.prog X.w H h':=λ{a h'} ha hs b ob e=>by
  obtain⟨_,_,GR⟩:=ha;refine(I.hok b ob e).aaZ (λc w' hc q=>(hs.2 c ?_).trans q) (λ_ q=>q) λ_ _ q=>q;rintro rfl
  rcases hc with rfl|hc
  ·rw[GR] at e;cases e
  ·rw[GR] at hc;cases hc
 rcases hx with hk|hk
 ·refine wpAny_storeName_local hk hn (λh' K4 hs=>?_) RU;obtain⟨oL,_,_,ZS,_⟩:=id hn;refine h _ ⟨I.ok,I.os,I.bare,⟨λb o e n hb hx=>?_,λb o e n hb hx=>?_,I.base.free,λb o e hx=>?_,I.base.aaq,I.base.aap,I.base.aav⟩,⟨_,K4,λj y v' e1 e2 e3=>?_⟩,λy c e=>?_,I.free,I.aan,λp hp=>?_,tracked ⟨oL,ZS,I.free⟩ hs,by simpa using I.len⟩ ⟨_,hs,.inl rfl⟩
  ·exact(hs.2 b (Nat.ne_of_lt (Nat.lt_of_lt_of_le (Heap.lt_size e) I.ok.above))).trans (I.base.keep b o e n hb hx)
  ·obtain⟨sl,e1⟩:=I.base.slot b o e n hb hx;exact⟨sl,(hs.2 b (Nat.ne_of_lt (Nat.lt_of_lt_of_le (Heap.lt_size e) I.ok.above))).trans e1⟩
  ·obtain⟨o',e1⟩:=I.base.there b o e hx;exact⟨o',(hs.2 b (Nat.ne_of_lt (Nat.lt_of_lt_of_le (Heap.lt_size e) I.ok.above))).trans e1⟩
  ·by_cases hj:j=i
   ·subst hj;rw[hi] at e1;cases e1;rw[List.getElem?_set_self Xh] at e2
    cases e2
    exact⟨u,r,.inl ⟨hk,by simp⟩⟩
   ·rw[List.getElem?_set_ne (Ne.symm hj)] at e2;obtain⟨u',r',q⟩:=hl j y v' e1 e2 e3;refine⟨u',r',?_⟩
    rcases q with⟨k,e⟩|⟨k,c,e,z⟩
    ·refine .inl ⟨k,?_⟩;have:y≠x:=λe=>hj (j6 hN e1 (e▸hi));simp[this,e]
    ·exact .inr ⟨k,c,e,z.sameBut hs (cne y c e)⟩
  ·obtain⟨w',z⟩:=I.cell y c e;exact⟨w',z.sameBut hs (cne y c e)⟩
  ·obtain⟨e,n,ne,nf,d⟩:=I.pin p hp;exact⟨(hs.2 p.1 ne).trans e,n,ne,nf,d⟩
 ·have RV:X.fn x=true:=by
   rcases hf with z|z
   ·exact z
   ·rw[z] at hk;cases hk
  obtain⟨c,hc⟩:=I.ok.has x (.inl hk);obtain⟨w',z⟩:=I.cell x c hc;refine wpAny_storeName_cell I.ok.kind hk hc z (λh' FV hs=>?_);obtain⟨oc,Xi,RW⟩:=id z;refine h {s with heap:=h'} ⟨I.ok,I.os,I.bare,⟨λb o e n hb hx=>?_,λb o e n hb hx=>?_,I.base.free,λb o e hx=>?_,I.base.aaq,I.base.aap,I.base.aav⟩,⟨m,hn.sameBut hs (Ne.symm (cne x c hc)),λj y v' e1 e2 e3=>?_⟩,λy c' e=>?_,I.free,I.aan,λp hp=>?_,tracked ⟨oc,Xi,I.aan x c hc⟩ hs,by simpa using I.len⟩ ⟨c,hs,.inr hc⟩
  ·exact(hs.2 b (Nat.ne_of_lt (Nat.lt_of_lt_of_le (Heap.lt_size e) (I.ok.cab x c RV hc)))).trans (I.base.keep b o e n hb hx)
  ·obtain⟨sl,e1⟩:=I.base.slot b o e n hb hx;exact⟨sl,(hs.2 b (Nat.ne_of_lt (Nat.lt_of_lt_of_le (Heap.lt_size e) (I.ok.cab x c RV hc)))).trans e1⟩
  ·obtain⟨o',e1⟩:=I.base.there b o e hx;exact⟨o',(hs.2 b (Nat.ne_of_lt (Nat.lt_of_lt_of_le (Heap.lt_size e) (I.ok.cab x c RV hc)))).trans e1⟩
  ·by_cases hj:j=i
   ·subst hj;rw[hi] at e1;cases e1;rw[List.getElem?_set_self Xh] at e2
    cases e2
    exact⟨u,r,.inr ⟨.inl hk,c,hc,FV⟩⟩
   ·rw[List.getElem?_set_ne (Ne.symm hj)] at e2;obtain⟨u',r',q⟩:=hl j y v' e1 e2 e3;refine⟨u',r',?_⟩
    rcases q with q|⟨k,c',e,z'⟩
    ·exact .inl q
    ·refine .inr ⟨k,c',e,z'.sameBut hs ?_⟩;rintro rfl;exact hj (j6 hN e1 (I.ok.inj _ _ _ e hc▸hi))
  ·by_cases Xj:c'=c
   ·subst Xj;exact⟨_,FV⟩
   ·obtain⟨w2,z2⟩:=I.cell y c' e;exact⟨w2,z2.sameBut hs Xj⟩
  ·obtain⟨e,n,ne,nf,d⟩:=I.pin p hp;refine⟨(hs.2 p.1 ?_).trans e,n,ne,nf,d⟩;intro q;rw[q,Xi] at e;have q':oc=p.2:=Option.some.inj e;exact d w' (by rw[<-q'];exact RW)
theorem gG {M:Model}{E:vy}{Q:Unit->Shared->Prop}(I:Inv X pins σ H s)(hN:X.N.Nodup)(hi:X.N[i]?=some x)(hx:C4 X.env.scope x)(r:aE v u)
 (h:∀s',Inv X pins (σ.set i (some v)) H s'->Q () s')(hf:X.fn x=true\/X.env.scope.names.lookup x=some .local:=by first|exact .inl rfl|exact .inr rfl|assumption):wpAny M A (storeName X.env x u) Q E s :=
 mi I hN hi hx r (λs' I' _=>h s' I') hf
theorem Inv.abQ {s':AQ}{ch:List Addr}(I:Inv X pins σ H s)(ho:s'.os=s.os)(u:Un (dW X.stack) ch H H' s.heap s'.heap)(hok:gu X.prog X.w H' s'.heap)(hg:AllBare s'.gens)
 (Jh:∀b∈ch,(b∈X.ex\/X.s₀.heap.objs.size<=b)/\b≠X.env.locals/\(∀x c,X.env.cells.lookup x=some c->c≠b)/\∀p∈X.pn++pins,p.1≠b):Inv X pins σ H' s':=by
 obtain⟨h',g',d',t',o'⟩:=s';have e:o'=s.os:=ho;subst e;exact I.call (g':=g') (t':=t') (d':=d') u hok hg Jh
end
abbrev XK:=Value->Option Addr->Hp->Prop
abbrev St:=List (Option V)
abbrev VK:=V->Hp->Prop
abbrev TE:=St->Hp->VK->Prop
abbrev TT:=St->Hp->(Bool->Hp->Prop)->Prop
abbrev TA:=St->Hp->(List V->Hp->Prop)->Prop
structure Ends where
 nx:St->Hp->Prop
 rt:VK
 bk:St->Hp->Prop:=λ_ _=>False
 ct:St->Hp->Prop:=λ_ _=>False
abbrev TS:=Ends->St->Hp->Prop
def EP (X:Cx)(pins:List (Addr×Obj))(σ:St)(Q:VK)(u:Value)(s':AQ):Prop:=∃v H',Inv X pins σ H' s'/\aE v u/\Q v H'
def TP (X:Cx)(pins:List (Addr×Obj))(σ:St)(Q:Bool->Hp->Prop)(b:Bool)(s':AQ):Prop:=∃H',Inv X pins σ H' s'/\Q b H'
def AP (X:Cx)(pins:List (Addr×Obj))(σ:St)(Q:List V->Hp->Prop)(us:nZ)(s':AQ):Prop:=∃vs H',Inv X pins σ H' s'/\aG vs us/\Q vs H'
def SP (X:Cx)(pins:List (Addr×Obj))(D:Ends)(f:Flow)(s':AQ):Prop :=
 match f with
 | .next=>∃σ' H',Inv X pins σ' H' s'/\D.nx σ' H'
 | .brk=>∃σ' H',Inv X pins σ' H' s'/\D.bk σ' H'
 | .cont=>∃σ' H',Inv X pins σ' H' s'/\D.ct σ' H'
 | .ret u=>∃v σ' H',Inv X pins σ' H' s'/\aE v u/\D.rt v H'
def PE (X:Cx)(e:Expr)(t:TE):Prop :=
 ∀(pins:List (Addr×Obj))(s:AQ)(σ:St)(H:Hp)(Q:VK),Inv X pins σ H s->t σ H Q->wpAny (model X.prog X.w) X.A (eval e X.env) (EP X pins σ Q) X.xe s
def PT (X:Cx)(e:Expr)(t:TT):Prop :=
 ∀(pins:List (Addr×Obj))(s:AQ)(σ:St)(H:Hp)(Q:Bool->Hp->Prop),Inv X pins σ H s->t σ H Q->wpAny (model X.prog X.w) X.A (isTrue e X.env (eval e X.env)) (TP X pins σ Q) X.xe s
def PW (X:Cx)(e:Expr)(t:TT):Prop :=
 ∀(eC:Sem Value)(pins:List (Addr×Obj))(s:AQ)(σ:St)(H:Hp)(Q:Bool->Hp->Prop),Inv X pins σ H s->t σ H Q->wpAny (model X.prog X.w) X.A (isTrue e X.env eC) (TP X pins σ Q) X.xe s
variable {X:Cx}{e:Expr}
theorem PW.pt {t:TT}(h:PW X e t):PT X e t:=h _
def PA (X:Cx)(es:Aw)(t:TA):Prop :=
 ∀(pos:Pos)(pins:List (Addr×Obj))(s:AQ)(σ:St)(H:Hp)(Q:List V->Hp->Prop),Inv X pins σ H s->t σ H Q->wpAny (model X.prog X.w) X.A (spliced (backTo pos (starEach es X.env))) (AP X pins σ Q) X.xe s
def PS (X:Cx)(st:Stmt)(t:TS):Prop :=
 ∀(pins:List (Addr×Obj))(s:AQ)(σ:St)(H:Hp)(D:Ends),Inv X pins σ H s->t D σ H->wpAny (model X.prog X.w) X.A (exec st X.env) (SP X pins D) X.xe s
def oA (X:Cx)(st:List Stmt)(t:TS):Prop :=
 ∀(pins:List (Addr×Obj))(s:AQ)(σ:St)(H:Hp)(D:Ends),Inv X pins σ H s->t D σ H->wpAny (model X.prog X.w) X.A (execs st X.env) (SP X pins D) X.xe s
variable {s:AQ}
theorem bN {α:Type}{t:Sem α}{Q Q':α->Shared->Prop}{E:vy}(h:wpAny M A t Q E s)(hQ:∀a s,Q a s->Q' a s):wpAny M A t Q' E s:=wpAny_mono h hQ λ_ _ x=>x
variable {pins:List (Addr×Obj)}{σ:St}{op:CmpOp}
section
variable {X:Cx}
def cg (i:Nat):TE:=λσ H Q=>∃v,σ[i]?=some (some v)/\Q v H
def tC (v:V):TE:=λ_ H Q=>Q v H
theorem aaA {pos:Pos}(hN:X.N[i]?=some x)(hv:Du X.env.scope x)(hd:(x==("__debug__":Str))=false:=by decide)(F3:(x==("__classdict__":Str))=false:=by decide):PE X (.Name x pos) (cg i):=by
 intro pins s σ H Q I h;obtain⟨v,e,h⟩:=h;obtain⟨m,hn,hl⟩:=I.loc;obtain⟨u,r,l⟩:=hl i x v hN e hv;have fin:EP X pins σ Q u s:=⟨v,H,I,r,h⟩
 rcases l with⟨hk,hm⟩|⟨hk,c,hc,HC⟩
 ·exact wpAny_Name (wpAny_loadName_local I.ok.kind hk hn hm fin) hd
 ·rcases hk with hk|hk
  ·exact wpAny_Name (wpAny_loadName_cell I.ok.kind hk hc HC fin) hd
  ·exact wpAny_Name (wpAny_loadName_free I.ok.kind hk hc HC fin F3) hd
theorem ao {i j pos}:PE X (.Constant (.int i) j pos) (tC (.int i)):=λ_ _ _ H _ I h=>wpAny_Constant_int ⟨.int i,H,I.tok _,⟨_,rfl⟩,h⟩
theorem gr {b j pos}:PE X (.Constant (.bool b) j pos) (tC (.bl b)):=λ_ _ _ H _ I h=>Constant_bool ⟨.bl b,H,I,rfl,h⟩
theorem dj {j pos}:PE X (.Constant .none j pos) (tC .non):=λ_ _ _ H _ I h=>Constant_none ⟨.non,H,I,rfl,h⟩
theorem da {x j pos}:PE X (.Constant (.str x) j pos) (tC (.str x)):=λ_ _ _ H _ I h=>Calls.Constant_str ⟨.str x,H,I.tok _,⟨_,rfl⟩,h⟩
def Gl (X:Cx)(x:Str):Prop:=X.env.kindOf x=some .globalImplicit
theorem eV {E:vy}{pos:Pos}{Q:vy}(I:Inv X pins σ H s)(hg:Gl X x)(hm:X.mg x=some u)(h:Q u s)
 (hd:(x==("__debug__":Str))=false:=by decide):wpAny (model X.prog X.w) X.A (eval (.Name x pos) X.env) Q E s :=
 Calls.Name_function_global I.ok.kind hg (Calls.loadGlobal_global (by rw[I.ok.glob];exact I.mod.glob.keeps I.bk) hm h) hd
theorem gm {E:vy}{pos:Pos}{Q:vy}(I:Inv X pins σ H s)(hg:Gl X x)(hm:X.mg x=none)(hv:bootBuiltins x=some u)(h:Q u s)
 (hn:x ≠ "__name__":=by decide)(hd:(x==("__debug__":Str))=false:=by decide):wpAny (model X.prog X.w) X.A (eval (.Name x pos) X.env) Q E s:=by
 obtain⟨mb,h1,h2⟩:=I.mod.blt;exact Calls.Name_function_global I.ok.kind hg (Calls.loadGlobal_builtin (by rw[I.ok.glob];exact I.mod.glob.keeps I.bk) hm (by rw[I.ok.blt];exact h1.keeps I.bk) ((h2 x hn).trans hv) h) hd
theorem cD {pos:Pos}(hg:Gl X x)(hm:X.mg x=some u)(r:aE v u)(hd:(x==("__debug__":Str))=false:=by decide):PE X (.Name x pos) (tC v):=
 λ_ _ _ H _ I h=>eV I hg hm ⟨v,H,I,r,h⟩ hd
theorem dN {pos:Pos}(hg:Gl X x)(hm:X.mg x=none)(hv:bootBuiltins x=some u)(r:aE v u)(hn:x ≠ "__name__":=by decide)(hd:(x==("__debug__":Str))=false:=by decide):PE X (.Name x pos) (tC v):=
 λ_ _ _ H _ I h=>gm I hg hm hv ⟨v,H,I,r,h⟩ hn hd
variable {a b:Expr}{ta tb:TE}{pos:Pos}
def PC (X:Cx)(op:CmpOp)(a b:Expr)(t:TE):Prop :=
 ∀(pins:List (Addr×Obj))(s:AQ)(σ:St)(H:Hp)(Q:VK),Inv X pins σ H s->t σ H Q →
  wpAny (model X.prog X.w) X.A (eval a X.env) (λv s₁=>wpAny (model X.prog X.w) X.A (eval b X.env) (λu s₂=>wpAny (model X.prog X.w) X.A (compareOp op v u) (EP X pins σ Q) X.xe s₂) X.xe s₁) X.xe s
def tB (t:TE):TT:=λσ H Q=>t σ H λx H1=>∃c,x=.bl c/\Q c H1
theorem abD {t:TE}(h:PC X op a b t)(h1:behindInMarks op b=false:=by first|exact MT _ (by decide) (by decide)|rfl):PT X (.Compare a [op] [b] pos) (tB t):=by
 intro pins s σ H Q I hw;refine wpAny_isTrue_Compare1 (bN (h pins s σ H _ I hw) λv s1 h1=>bN h1 λu s2 h2=>bN h2 λc s3 z'=>?_) h1;obtain⟨x,H1,I1,r1,q1⟩:=z';obtain⟨d,rfl,q⟩:=q1
 cases r1
 exact wpAny_truthy_bool ⟨H1,I1,q⟩
theorem cz {t:TE}(h:PE X e t)(he:∀eC,isTrue e X.env eC=(do let v <-eC;standAt e.pos;holding [v] (truthy v)):=by intro _;rfl):PT X e (tB t):=by
 intro pins s σ H Q I hw;refine isTrue_plain (bN (h pins s σ H _ I hw) λv s1 z'=>?_) (he _);obtain⟨x,H1,I1,r1,q1⟩:=z';obtain⟨d,rfl,q⟩:=q1
 cases r1
 exact wpAny_truthy_bool ⟨H1,I1,q⟩
variable {tA QY:TT}{rest:Aw}
def CU (t u:TT):TT:=λσ H Q=>t σ H λc H1=>if c=true then u σ H1 Q else Q false H1
def aaD (t u:TT):TT:=λσ H Q=>t σ H λc H1=>if c=true then Q true H1 else u σ H1 Q
def aaI (t:TT):TT:=λσ H Q=>t σ H λc H1=>Q (!c) H1
theorem oq (ha:PT X a tA):PW X (.BoolOp .And [a] pos) tA:=by
 intro wh pins s σ H Q I h;refine isTrue_and (bN (ha pins s σ H Q I h) λc s1 e=>?_)
 cases c with
 |true=>exact isTrue_and_nil e
 |false=>exact e
theorem gh (ha:PT X a tA):PW X (.BoolOp .Or [a] pos) tA:=by
 intro wh pins s σ H Q I h;refine isTrue_or (bN (ha pins s σ H Q I h) λc s1 e=>?_)
 cases c with
 |false=>exact isTrue_or_nil e
 |true=>exact e
theorem nh (ha:PT X a tA)(hb:PW X (.BoolOp .And (b::rest) pos) QY):PW X (.BoolOp .And (a::b::rest) pos) (CU tA QY):=by
 intro wh pins s σ H Q I h;refine isTrue_and (bN (ha pins s σ H _ I h) λc s1 z'=>?_);obtain⟨H1,I1,q1⟩:=z'
 cases c with
 |true=>exact hb wh pins s1 σ H1 Q I1 q1
 |false=>exact⟨H1,I1,q1⟩
theorem iz (ha:PT X a tA)(hb:PW X (.BoolOp .Or (b::rest) pos) QY):PW X (.BoolOp .Or (a::b::rest) pos) (aaD tA QY):=by
 intro wh pins s σ H Q I h;refine isTrue_or (bN (ha pins s σ H _ I h) λc s1 z'=>?_);obtain⟨H1,I1,q1⟩:=z'
 cases c with
 |true=>exact⟨H1,I1,q1⟩
 |false=>exact hb wh pins s1 σ H1 Q I1 q1
theorem cG (ha:PT X a tA):PT X (.UnaryOp .Not a pos) (aaI tA):=by
 intro pins s σ H Q I h;exact isTrue_not (ha pins s σ H (λc H1=>Q (!c) H1) I h)
def aaK (ta tb:TE):TE:=λσ H Q=>ta σ H λx H1=>∃c,x=.bl c/\if c=true then tb σ H1 Q else Q (.bl false) H1
def aai (ta:TE):TE:=λσ H Q=>ta σ H λx H1=>∃c,x=.bl c/\Q (.bl (!c)) H1
theorem dJ {op}{t:TE}(h:PE X a t):PE X (.BoolOp op [a] pos) t:=λpins s σ H Q I hw=>BoolOp_one (h pins s σ H Q I hw)
theorem cp (ha:PE X a ta)(hb:PE X (.BoolOp .And (b::rest) pos) tb):PE X (.BoolOp .And (a::b::rest) pos) (aaK ta tb):=by
 intro pins s σ H Q I h;refine BoolOp_and (bN (ha pins s σ H _ I h) λv s1 z'=>?_);obtain⟨x,H1,I1,r1,q1⟩:=z';obtain⟨c,rfl,q1⟩:=q1
 cases r1
 refine wpAny_truthy_bool ?_
 cases c with
 |true=>exact hb pins s1 σ H1 Q I1 q1
 |false=>exact⟨.bl false,H1,I1,rfl,q1⟩
theorem abE (ha:PE X a ta):PE X (.UnaryOp .Not a pos) (aai ta):=by
 intro pins s σ H Q I h;refine UnaryOp_ (bN (ha pins s σ H _ I h) λv s1 z'=>?_);obtain⟨x,H1,I1,r1,q1⟩:=z';obtain⟨c,rfl,q1⟩:=q1
 cases r1
 exact not_of (wpAny_truthy_bool ⟨.bl (!c),H1,I1,rfl,q1⟩)
end
def aV (K:PySem.W.Frag)(H:Hp)(a:Addr)(xs:List V):Prop :=
 Rd H a (.lst xs) \/
  ∃(o:Obj)(its:tN)(n:Nat),K.lookup a=some o/\o.cls=.type "list"/\o.dict=none/\o.data=.seq its n/\its.size<=sizeLine/\aG xs its.toList
def bV (K:PySem.W.Frag)(H:Hp)(a:Addr)(xs:List V):Prop :=
 Rd H a (.tup xs) \/
  ∃(o:Obj)(its:tN)(n:Nat),K.lookup a=some o/\o.cls=.type "tuple"/\o.data=.seq its n/\its.size<=sizeLine/\aG xs its.toList
def aal:Value->Option V
 | .none=>some .non
 | .bool b=>some (.bl b)
 | .int i _=>some (.int i)
 | .str x _=>some (.str x)
 | .bytes b _=>some (.byt b)
 | .float b _=>some (.flt b)
 | .ref a=>some (.ref a)
 | .type n=>some (.ty n)
 |_=>none
theorem aE.abs {x:V}(r:aE x u):aal u=some x:=by
 cases x with
 |non=>cases r;rfl
 |bl _=>cases r;rfl
 |int _=>obtain⟨t,rfl⟩:=r;rfl
 |str _=>obtain⟨t,rfl⟩:=r;rfl
 |byt _=>obtain⟨t,rfl⟩:=r;rfl
 |flt _=>obtain⟨t,rfl⟩:=r;rfl
 |ref _=>cases r;rfl
 |ty _=>cases r;rfl
variable {y:V}
theorem aE.inj {x:V}(r:aE x u)(q:aE y u):x=y:=Option.some.inj (r.abs.symm.trans q.abs)
theorem aG.inj:∀{xs ys:List V}{us:nZ},aG xs us->aG ys us->xs=ys
 |_,_,_,.nil,.nil=>rfl
 |_,_,_,.cons r t,.cons r' t'=>by rw[r.inj r',aG.inj t t']
variable {K:PySem.W.Frag}
section
variable {X:Cx}{pins:List (Addr×Obj)}{σ:St}{H:Hp}{s:AQ}{a:Addr}{xs ys:List V}
theorem aV.of (h:H a=some (.lst xs)):aV K H a xs:=.inl (.inl h)
theorem bV.of (h:H a=some (.tup xs)):bV K H a xs:=.inl (.inl h)
theorem Inv.list (I:Inv X pins σ H s)(h:aV X.K H a xs):∃its:List Value,aG xs its/\PlainL s.heap a its.toArray/\xs.length<=sizeLine:=by
 rcases h with h|⟨o,its,n,hk,hc,hd,hs,hz,r⟩
 ·obtain⟨z,its,n,r,e⟩:=h.ok I.hok;exact⟨its,r,⟨_,n,e,rfl,rfl,rfl⟩,z⟩
 ·refine⟨its.toList,r,⟨o,n,I.kIn a o hk,hc,hd,by simpa using hs⟩,?_⟩;have e:=r.length;simp only[Array.length_toList] at e;omega
theorem Inv.tuple (I:Inv X pins σ H s)(h:bV X.K H a xs):∃its:List Value,aG xs its/\IsTup s.heap a its.toArray/\xs.length<=sizeLine:=by
 rcases h with h|⟨o,its,n,hk,hc,hs,hz,r⟩
 ·obtain⟨z,its,r,p⟩:=h.ok I.hok;exact⟨its,r,p,z⟩
 ·refine⟨its.toList,r,⟨o,I.kIn a o hk,hc,n,by simpa using hs⟩,?_⟩;have e:=r.length;simp only[Array.length_toList] at e;omega
theorem Inv.aaT (I:Inv X pins σ H s)(h:aV X.K H a xs)(h':aV X.K H a ys):xs=ys:=by
 obtain⟨its,r,⟨o,n,e,_,_,d⟩,_⟩:=I.list h;obtain⟨its',r',⟨o',n',e',_,_,d'⟩,_⟩:=I.list h';rw[e] at e';cases e';rw[d] at d'
 injection d' with d1 _
 have:its=its':=by simpa using congrArg Array.toList d1
 subst this;exact r.inj r'
theorem Inv.aaG (I:Inv X pins σ H s)(h:bV X.K H a xs)(h':bV X.K H a ys):xs=ys:=by
 obtain⟨its,r,⟨o,e,_,n,d⟩,_⟩:=I.tuple h;obtain⟨its',r',⟨o',e',_,n',d'⟩,_⟩:=I.tuple h';rw[e] at e';cases e';rw[d] at d'
 injection d' with d1 _
 have:its=its':=by simpa using congrArg Array.toList d1
 subst this;exact r.inj r'
end
abbrev Cx.aa0 (X:Cx)(E:vy):Cx:={X with xe:=E}
abbrev Cx.nox (X:Cx):Cx:=X.aa0 λ_ _=>False
theorem Cx.Ok.aa0 (ok:X.Ok)(E:vy):(X.aa0 E).Ok :=
 ⟨ok.mod,ok.kind,ok.glob,ok.blt,ok.above,ok.inj,ok.has,ok.cab,ok.hd,ok.frames,ok.stk,ok.exf,ok.bs,ok.bsz,ok.abb,ok.abj,ok.aau,ok.frf⟩
theorem Cx.Ok.aaC {E:vy}(ok:(X.aa0 E).Ok):X.Ok :=
 ⟨ok.mod,ok.kind,ok.glob,ok.blt,ok.above,ok.inj,ok.has,ok.cab,ok.hd,ok.frames,ok.stk,ok.exf,ok.bs,ok.bsz,ok.abb,ok.abj,ok.aau,ok.frf⟩
section
variable {X:Cx}{pins:List (Addr×Obj)}{σ:St}{H:Hp}{s:AQ}{E:vy}
theorem Inv.aa0 (I:Inv X pins σ H s)(E:vy):Inv (X.aa0 E) pins σ H s:=⟨I.ok.aa0 E,I.os,I.bare,I.base,I.loc,I.cell,I.free,I.aan,I.pin,I.hok,I.len⟩
theorem Inv.aaC (I:Inv (X.aa0 E) pins σ H s):Inv X pins σ H s:=⟨I.ok.aaC,I.os,I.bare,I.base,I.loc,I.cell,I.free,I.aan,I.pin,I.hok,I.len⟩
theorem SP.aaC {D:Ends}{f:Flow}{s':AQ}(h:SP (X.aa0 E) pins D f s'):SP X pins D f s':=by
 cases f with
 |next=>obtain⟨σ',H',I,q⟩:=h;exact⟨σ',H',I.aaC,q⟩
 |brk=>obtain⟨σ',H',I,q⟩:=h;exact⟨σ',H',I.aaC,q⟩
 |cont=>obtain⟨σ',H',I,q⟩:=h;exact⟨σ',H',I.aaC,q⟩
 |ret u=>obtain⟨v,σ',H',I,r,q⟩:=h;exact⟨v,σ',H',I.aaC,r,q⟩
theorem oA.nox {st:List Stmt}{t:TS}(h:oA X.nox st t):oA X st t:=λpins s σ H D I hw =>
 wpAny_mono (h pins s σ H D (I.aa0 _) hw) (λ_ _ q=>q.aaC) λ_ _ z=>False.elim z
end
section
variable {X:Cx}{st:Stmt}{rest:List Stmt}{t u:TS}{e:Expr}{te:TE}{pos:Pos}
def lj:TS:=λD σ H=>D.nx σ H
def vR (t u:TS):TS:=λD σ H=>t {D with nx:=u D} σ H
theorem aM:oA X [] lj:=λ_ _ σ H _ I h=>wpAny_execs_nil ⟨σ,H,I,h⟩
theorem aj (h1:PS X st t)(h2:oA X rest u):oA X (st::rest) (vR t u):=by
 intro pins s σ H D I h;refine wpAny_execs_cons (bN (h1 pins s σ H {D with nx:=u D} I h) λf s1 q=>?_)
 cases f with
 |next =>
  obtain⟨σ',H',I',q⟩:=q;exact h2 pins s1 σ' H' D I' q
 |ret v=>exact q
 |brk=>exact q
 |cont=>exact q
theorem ar (h1:PS X st t):oA X [st] t:=by
 intro pins s σ H D I h;refine wpAny_execs_cons (bN (h1 pins s σ H D I h) λf s1 q=>?_)
 cases f with
 |next=>exact wpAny_execs_nil q
 |ret v=>exact q
 |brk=>exact q
 |cont=>exact q
theorem Inv.quiet (I:Inv X pins σ H s):interactive X.env=false:=by simp[interactive,I.ok.kind]
def TyX (te:TE):TS:=λD σ H=>te σ H λ_ H1=>D.nx σ H1
theorem fA (he:PE X e te)(hs:swapsWith e none pos.line X.env=pure false:=by rfl):PS X (.Expr e pos) (TyX te):=by
 intro pins s σ H D I h;exact wpAny_Expr_any (bN (he pins s σ H _ I h) λv s1 ⟨x,H1,I1,r1,q1⟩=>⟨σ,H1,I1,q1⟩) I.quiet hs
def xQ (te:TE):TS:=λD σ H=>te σ H D.rt
theorem az (he:PE X e te):PS X (.Return (some e) pos) (xQ te):=by
 intro pins s σ H D I h;exact wpAny_Return_some (bN (he pins s σ H _ I h) λv s1 ⟨x,H1,I1,r1,q1⟩=>⟨x,σ,H1,I1,r1,q1⟩)
def BB (c:TT)(t u:TS):TS:=λD σ H=>c σ H λb H1=>if b=true then t D σ H1 else u D σ H1
theorem bq {c:Expr}{a b:List Stmt}{tc:TT}(hc:PT X c tc)(ha:oA X a t)(hb:oA X b u):PS X (.If c a b pos) (BB tc t u):=by
 intro pins s σ H D I h;refine wpAny_If (bN (hc pins s σ H _ I h) λd s1 z'=>?_);obtain⟨H1,I1,q1⟩:=z'
 cases d with
 |true=>exact ha pins s1 σ H1 D I1 q1
 |false=>exact hb pins s1 σ H1 D I1 q1
def abV:TS:=λ_ _ _=>False
theorem pY:PS X st abV:=λ_ _ _ _ _ _ h=>h.elim
end
abbrev TG:=V->St->Hp->(St->Hp->Prop)->Prop
abbrev xT:=List V->St->Hp->(St->Hp->Prop)->Prop
def PG (X:Cx)(target:Expr)(t:TG):Prop :=
 ∀(pins:List (Addr×Obj))(s:AQ)(σ:St)(H:Hp)(v:V)(u:Value)(Q:St->Hp->Prop),Inv X pins σ H s->aE v u->t v σ H Q →
  wpAny (model X.prog X.w) X.A (assign target X.env u) (λ_ s'=>∃σ' H',Inv X pins σ' H' s'/\Q σ' H') X.xe s
def Dx (X:Cx)(ts:Aw)(t:xT):Prop :=
 ∀(pins:List (Addr×Obj))(s:AQ)(σ:St)(H:Hp)(vs:List V)(us:nZ)(Q:St->Hp->Prop),Inv X pins σ H s->aG vs us->t vs σ H Q →
  wpAny (model X.prog X.w) X.A (assignInOrder ((assignEach ts X.env).map (·.2)) us) (λ_ s'=>∃σ' H',Inv X pins σ' H' s'/\Q σ' H') X.xe s
abbrev A8:=V->V->V->Hp->(Hp->Prop)->Prop
def CM (X:Cx)(t:A8):Prop :=
 ∀(pins:List (Addr×Obj))(s:AQ)(σ:St)(H:Hp)(o i v:V)(ov iv u:Value)(Q:Hp->Prop),Inv X pins σ H s->aE o ov->aE i iv->aE v u->t o i v H Q →
  wpAny (model X.prog X.w) X.A (setItem ov iv u) (λ_ s'=>∃H',Inv X pins σ H' s'/\Q H') X.xe s
variable {k:Nat}{tg:Expr}{g:TG}{ta:TA}{body:List Stmt}{tb:TS}
section
variable {X:Cx}{pos:Pos}
def cc (i:Nat):TG:=λv σ H Q=>Q (σ.set i (some v)) H
theorem aI {i:Nat}(hN:X.N.Nodup)(hi:X.N[i]?=some x)(hx:C4 X.env.scope x)(hf:X.fn x=true\/X.env.scope.names.lookup x=some .local:=by first|exact .inl rfl|exact .inr rfl|assumption):PG X (.Name x pos) (cc i):=by
 intro pins s σ H v u Q I r h;exact wpAny_assign_Name (gG I hN hi hx r (λs' I'=>⟨_,H,I',h⟩) hf)
def xY:xT:=λvs σ H Q=>vs=[]/\Q σ H
def iL (t:TG)(u:xT):xT:=λvs σ H Q=>∃v r,vs=v::r/\t v σ H λσ' H'=>u r σ' H' Q
theorem dB:Dx X [] xY:=by
 intro pins s σ H vs us Q I r h;obtain⟨e,h⟩:=h;subst e
 cases r
 exact assignInOrder_nil ⟨σ,H,I,h⟩
theorem bo {es:Aw}{t:TG}{u:xT}(h1:PG X e t)(h2:Dx X es u)
 (hs:(assignEach (e::es) X.env).map (·.2)=assign e X.env::(assignEach es X.env).map (·.2):=by rfl):Dx X (e::es) (iL t u):=by
 intro pins s σ H vs us Q I r h;obtain⟨v,vr,e1,h⟩:=h;subst e1
 cases r with
 |cons r rr =>
  rw[hs];refine assignInOrder_cons (bN (h1 pins s σ H _ _ _ I r h) λ_ s1 z'=>?_);obtain⟨σ1,H1,I1,q1⟩:=z';exact h2 pins s1 σ1 H1 _ _ Q I1 rr q1
def xw (K:PySem.W.Frag)(n:Nat)(t:xT):TG:=λv σ H Q=>∃a xs,v=.ref a/\bV K H a xs/\xs.length=n/\t xs σ H Q
theorem fJ {es:Aw}{t:xT}{n:Nat}(hc:X.calm=true)(h:Dx X es t)
 (hn:(assignEach es X.env).length=n:=by rfl)(Gx:(assignEach es X.env).findIdx? (·.1)=none:=by rfl):PG X (.Tuple es k pos) (xw X.K n t):=by
 intro pins s σ H v u Q I r hw;obtain⟨a,xs,e1,hq,hl,hw⟩:=hw;subst e1
 cases r
 obtain⟨its,rv,ht,hz⟩:=I.tuple hq;refine assign_Tuple_tuple (I.ok.hd hc) ht (by simp[hn,<-hl,rv.length]) Gx λh' hx=>?_;have I1:Inv X pins σ H {s with heap:=h'}:=I.kept (t':=s.toks) λb o e=>hx b o (Nat.ne_of_lt (Heap.lt_size e)) e;exact h pins _ σ H xs _ Q I1 (by simpa using rv) hw
def aaM (to ti:TE)(t:A8):TG:=λv σ H Q=>to σ H λo H1=>ti σ H1 λi H2=>t o i v H2 λH3=>Q σ H3
theorem wy {o i:Expr}{to ti:TE}{t:A8}(ho:PE X o to)(hi:PE X i ti)(hs:CM X t)
 (ha:∀v,assign (.Subscript o i pos) X.env v=(do
  let ov <-holding [v] (eval o X.env)
  let iv <-holding [v,ov] (eval i X.env)
  standAt pos
  holding [v,ov,iv] (setItem ov iv v)
  release [v,ov,iv] []):=by intro _;rfl):PG X (.Subscript o i pos) (aaM to ti t):=by
 intro pins s σ H v u Q I r h;rw[ha];refine wpAny_bind (wpAny_holding (bN (ho pins s σ H _ I h) λov s1 z'=>?_));obtain⟨x,H1,I1,r1,q1⟩:=z';refine wpAny_bind (wpAny_holding (bN (hi pins s1 σ H1 _ I1 q1) λiv s2 z'=>?_));obtain⟨y,H2,I2,r2,q2⟩:=z';refine wpAny_bind (wpAny_standAt (wpAny_bind (wpAny_holding (bN (hs pins s2 σ H2 x y v ov iv u _ I2 r1 r2 r q2) λ_ s3 z'=>?_))));obtain⟨H3,I3,q3⟩:=z';exact wpAny_release ⟨σ,H3,I3,q3⟩
def qe (te:TE)(g:TG):TS:=λD σ H=>te σ H λx H1=>g x σ H1 D.nx
theorem nO {te:TE}(he:PE X e te)(hg:PG X tg g)(hs:swapsWithSole [tg] e pos.line X.env=pure false:=by rfl)(hw:swappedStores [tg] e X.env=pure none:=by rfl)
 (h1:(assignEach [tg] X.env).map (·.2)=[assign tg X.env]:=by rfl):PS X (.Assign [tg] e pos) (qe te g):=by
 intro pins s σ H D I h;refine wpAny_Assign_stores (bN (he pins s σ H _ I h) λv s1 z'=>?_) hs hw;obtain⟨x,H1,I1,r1,q1⟩:=z';rw[h1];exact bN (hg pins s1 σ H1 x v _ I1 r1 q1) λ_ s2 q=>q
theorem aC {i:Nat}{x:Str}{e:Expr}{te:TE}{pos':Pos}(hN:X.N.Nodup)(hi:X.N[i]?=some x)(hx:C4 X.env.scope x)(he:PE X e te)(hs:swapsWith e (some (.Name x pos')) pos.line X.env=pure false:=by rfl)(hf:X.fn x=true\/X.env.scope.names.lookup x=some .local:=by first|exact .inl rfl|exact .inr rfl|assumption):
 PS X (.Assign [.Name x pos'] e pos) (qe te (cc i)):=by
 intro pins s σ H D I h;refine wpAny_Assign_Name (bN (he pins s σ H _ I h) λv s1 z'=>?_) hs;obtain⟨y,H1,I1,r1,q1⟩:=z';exact gG I1 hN hi hx r1 (λs2 I2=>⟨_,H1,I2,q1⟩) hf
def abF (i j:Nat)(ta:TA):TS:=λD σ H=>ta σ H λvs H1=>∃v w,vs=[v,w]/\D.nx ((σ.set i (some v)).set j (some w)) H1
theorem u7 {i j:Nat}{y:Str}{a b:Expr}{px py pt:Pos} {kt k2 RX}(hc:X.calm=true)(hN:X.N.Nodup)(hi:X.N[i]?=some x)(hj:X.N[j]?=some y)(HP:i≠j)
 (hx:X.env.scope.names.lookup x=some .local)(hy:X.env.scope.names.lookup y=some .local)(ha:PA X [a,b] ta)
 (hw:swappedStores [.Tuple [.Name x px,.Name y py] kt pt] (.Tuple [a,b] k2 RX) X.env=pure (some [x,y]))
 (hs:swapsWithSole [.Tuple [.Name x px,.Name y py] kt pt] (.Tuple [a,b] k2 RX) pos.line X.env=pure false:=by rfl):
 PS X (.Assign [.Tuple [.Name x px,.Name y py] kt pt] (.Tuple [a,b] k2 RX) pos) (abF i j ta):=by
 intro pins s σ H D I h;rw[exec_Assign_arm];refine wpAny_bind (wpAny_standAt ?_);rw[hs];refine wpAny_bind (wpAny_pure ?_);rw[if_neg (by decide)];refine wpAny_bind (Tuple_ (bN (ha _ pins s σ H _ I h) λus s1 z'=>?_));obtain⟨vs,H1,I1,r1,q1⟩:=z';obtain⟨v,w,e1,q1⟩:=q1;subst e1
 obtain⟨u1,u2,rfl,rv,GD⟩:∃u1 u2,us=[u1,u2]/\aE v u1/\aE w u2:=by
  cases r1 with
  |cons p q =>
   cases q with
   |cons p' q' =>
    cases q'
    exact⟨_,_,rfl,p,p'⟩
 refine wpAny_newObj_type ?_ ic;have I2:Inv X pins σ H1 {s1 with heap:=s1.heap.push {cls:=.type "tuple",data:=.seq [u1,u2].toArray} }:=I1.kept (t':=s1.toks) λb o e=>Heap.get?_push_of_some _ e;rw[hw];refine wpAny_bind (wpAny_pure ?_);show wpAny (model X.prog X.w) X.A (do rule "assign.swapped-stores";let items <-unpackItems (.ref s1.heap.objs.size) 2 none;assignInOrder [λv=>bindName X.env y v,λv=>bindName X.env x v] items.reverse;pure Flow.next) _ _ _;refine wpAny_bind (wpAny_rule (wpAny_bind (unpackItems_tuple (items:=#[u1,u2]) (I.ok.hd hc) (IsTup.new s1.heap _) λh' JY=>?_)));have I3:=I2.kept (h':=h') (t':=s1.toks) λb o e=>JY b o (Nat.ne_of_lt (Heap.lt_size e)) e;show wpAny _ _ (assignInOrder [λv=>bindName X.env y v,λv=>bindName X.env x v] [u2,u1]>>=λ_=>pure Flow.next) _ _ _;refine wpAny_bind (assignInOrder_cons (wpAny_bindName (gG I3 hN hj (.inl hy) GD (λs2 I4=>?_) (.inr hy))));refine assignInOrder_cons (wpAny_bindName (gG I4 hN hi (.inl hx) rv (λs3 I5=>assignInOrder_nil (wpAny_pure ?_)) (.inr hx)));rw[List.set_comm _ _ (Ne.symm HP)] at I5;exact⟨_,H1,I5,q1⟩
def aaP (c:TT)(tb:TS):TS:=λD σ H=>∃W:Nat->St->Hp->Prop,(∃m,W m σ H)/\∀m σ H,W m σ H →
 c σ H λb H1=>if b=true then ∃N:St->Hp->Prop,(∀σ' H',N σ' H'->∃m',m'<m/\W m' σ' H')/\tb {D with nx:=N,ct:=N,bk:=D.nx} σ H1 else D.nx σ H1
theorem pR {c:Expr}{tc:TT}(hp:PassesOwn (model X.prog X.w) X.A X.env X.xe)(hc:PT X c tc)(hb:oA X body tb):PS X (.While c body [] pos) (aaP tc tb):=by
 intro pins s σ H D I h;obtain⟨W,⟨m0,w0⟩,turn⟩:=h;refine wpAny_While (codeAny_whileLoop (λn s'=>∃σ' H',Inv X pins σ' H' s'/\W n σ' H') ?_ m0 ⟨σ,H,I,w0⟩);rintro n s1 ⟨σ1,H1,I1,w1⟩;refine wpAny_passesOwn hp (bN (hc pins s1 σ1 H1 _ I1 (turn n σ1 H1 w1)) λb s2 z'=>?_);obtain⟨H2,I2,q2⟩:=z'
 cases b with
 |true =>
  obtain⟨N,hN,q2⟩:=q2;rw[if_pos rfl];refine wpAny_passesOwn hp (bN (hb pins s2 σ1 H2 _ I2 q2) λf s3 q3=>?_)
  cases f with
  |next =>
   obtain⟨σ3,H3,I3,n3⟩:=q3;obtain⟨m',hm,w3⟩:=hN σ3 H3 n3;exact⟨m',hm,σ3,H3,I3,w3⟩
  |cont =>
   obtain⟨σ3,H3,I3,n3⟩:=q3;obtain⟨m',hm,w3⟩:=hN σ3 H3 n3;exact⟨m',hm,σ3,H3,I3,w3⟩
  |brk=>exact q3
  |ret v=>exact q3
 |false =>
  rw[if_neg Bool.false_ne_true];exact wpAny_execs_nil ⟨σ1,H2,I2,q2⟩
end
structure It where
 go:Nat->Hp->Prop
 yld:Nat->Hp->V->Hp->Prop
 stop:Nat->Hp->Prop
def dq (X:Cx)(pins:List (Addr×Obj))(H:Hp)(b:Addr):Prop :=
 H b=none/\b≠X.env.locals/\b∉X.fs/\(b∈X.ex\/X.s₀.heap.objs.size<=b)/\(∀x c,X.env.cells.lookup x=some c->c≠b)/\∀p∈X.pn++pins,p.1≠b
variable {H':Hp}
theorem Inv.aa1 (I:Inv X pins σ H s)(hb:s.heap.objs.size<=b)(hn:H' b=none):dq X pins H' b:=by
 refine⟨hn,Nat.ne_of_gt (Nat.lt_of_lt_of_le I.lt hb),I.ab6 hb,.inr (Nat.le_trans I.sz hb),λx c e z=>?_,λp hp z=>?_⟩
 ·obtain⟨v,q⟩:=I.cell x c e;exact absurd (Nat.lt_of_lt_of_le q.lt (by rw[z];exact hb)) (Nat.lt_irrefl _)
 ·exact absurd (Nat.lt_of_lt_of_le (Heap.lt_size (I.pin p hp).1) (by rw[z];exact hb)) (Nat.lt_irrefl _)
structure Turn (P:u6)(w:World)(K:PySem.W.Frag)(tg:Expr)(J:It)(fp:List Addr)(it:Addr)(tn:Nat->Heap->Prop):Prop where
 mem:it∈fp
 obj:∀i h,tn i h->∀b∈fp,∃o,h.get? b=some o/\∀v,o.data≠.cell v
 keep:∀i h h',tn i h->(∀b∈fp,∀o,h.get? b=some o->h'.get? b=some o)->tn i h'
 item:∀(X:Cx),X.prog=P->X.w=w->X.K=K->X.calm=true->∀(i:Nat)(pins:List (Addr×Obj))(s:AQ)(σ:St)(H:Hp)(E:vy),Inv X pins σ H s->(∀b∈fp,dq X pins H b)->tn i s.heap->J.go i H →
  wpAny (model P w) X.A (pyNext (.ref it)) (λr s1=>∃u,r=some u /\
   wpAny (model P w) X.A (letOwnedTupleGo tg (.ref it) u) (λ_ s2=>∃x H',Inv X pins σ H' s2/\aE x u/\J.yld i H x H'/\tn (i+1) s2.heap/\∀b∈fp,H' b=none) E s1) E s
 done:∀(X:Cx),X.prog=P->X.w=w->X.K=K->X.calm=true->∀(i:Nat)(pins:List (Addr×Obj))(s:AQ)(σ:St)(H:Hp)(E:vy),Inv X pins σ H s->(∀b∈fp,dq X pins H b)->tn i s.heap->J.stop i H →
  wpAny (model P w) X.A (pyNext (.ref it)) (λr s1=>r=none/\Inv X pins σ H s1) E s
 self:∀(A:Around)(i:Nat)(s:AQ)(Q:vy)(E:vy),tn i s.heap->Q (.ref it) s->wpAny (model P w) A (pyIter (.ref it)) Q E s
abbrev TI:=St->Hp->(It->Hp->Prop)->Prop
def ED (X:Cx)(pins:List (Addr×Obj))(σ:St)(tg:Expr)(R:It->Hp->Prop)(QZ:Value)(s2:AQ):Prop :=
 ∃(it:Addr)(fp:List Addr)(tn:Nat->Heap->Prop)(J:It)(H':Hp),QZ=.ref it/\Inv X pins σ H' s2/\Turn X.prog X.w X.K tg J fp it tn/\tn 0 s2.heap/\(∀b∈fp,dq X pins H' b)/\R J H'
def PI (X:Cx)(tg iter:Expr)(wi:TI):Prop :=
 ∀(pins:List (Addr×Obj))(s:AQ)(σ:St)(H:Hp)(R:It->Hp->Prop),Inv X pins σ H s->wi σ H R →
  wpAny (model X.prog X.w) X.A (eval iter X.env) (λv s1=>wpAny (model X.prog X.w) X.A (pyIter v) (ED X pins σ tg R) X.xe s1) X.xe s
theorem tw {E:vy}{s:AQ}{it:Addr}{o:Obj}{n:String}{vs:tN}{Q:Unit->Shared->Prop}(ho:s.heap.get? it=some o)(hc:o.cls=.type n)(hd:o.data=.fields vs)
 (hn:["enumerate","zip","dict_itemiterator","dict_reverseitemiterator","odict_iterator","itertools.zip_longest","itertools.pairwise"].contains n=false)(hQ:Q () s):wpAny M A (letOwnedTupleGo tg (.ref it) u) Q E s:=by
 unfold letOwnedTupleGo
 cases tg <;> first
  |exact wpAny_pure hQ
  |(cases u <;> first
   |exact wpAny_pure hQ
   |(refine wpAny_bind (wpAny_load ho ?_)
     rw[hc,hd];show wpAny M A (if(["enumerate","zip","dict_itemiterator","dict_reverseitemiterator","odict_iterator","itertools.zip_longest","itertools.pairwise"].contains n&&vs[0]?==some (rawInt _))=true then _ else _) Q E s;rw[if_neg (by intro h;rw[hn,Bool.false_and] at h;cases h)]
     exact wpAny_pure hQ))
def y7 (K:PySem.W.Frag)(a:Addr):It :=
 ⟨λi H=>∃xs x,aV K H a xs/\xs[i]?=some x,λi H x H'=>H'=H/\∀xs,aV K H a xs->xs[i]?=some x,λi H=>∃xs,aV K H a xs/\xs.length<=i⟩
def EH (K:PySem.W.Frag)(a:Addr):It :=
 ⟨λi H=>∃xs x,bV K H a xs/\xs[i]?=some x,λi H x H'=>H'=H/\∀xs,bV K H a xs->xs[i]?=some x,λi H=>∃xs,bV K H a xs/\xs.length<=i⟩
def xJ (lo:Int)(n:Nat):It:=⟨λi _=>i<n,λi H x H'=>H'=H/\x=.int (lo+i),λi _=>n<=i⟩
theorem abG (a it:Addr):Turn P w K tg (y7 K a) [it] it (λi h=>h.IsListIter it a i) where
 mem:=by simp
 obj:=λi h st b hb=>by
  have e:b=it:=by simpa using hb
  subst e;obtain⟨o,e,c,d⟩:=st;exact⟨o,e,λv z=>by rw[d] at z;cases z⟩
 keep:=λi h h' st k=>st.at λo e=>k it (by simp) o e
 item:=by
  intro X hP hw hK hc i pins s σ H E I hf st hg;subst hP hw hK;obtain⟨xs,x,hq,hx⟩:=hg;obtain⟨its,rv,p,hz⟩:=I.list hq;obtain⟨u,hu,ru⟩:=rv.get hx;obtain⟨f0,f1,f2,f3,f4,f5⟩:=hf it (by simp);refine wpAny_pyNext_list_item st p.isList (x:=u) (by simpa using hu) λh' GS sb=>?_;have I1:Inv X pins σ H {s with heap:=h'}:=I.turned (t':=s.toks) (λb o hb e=>(sb.2 b hb).trans e) f0 f1 f3 f4 f5;obtain⟨o,e,c,d⟩:=id GS;exact⟨u,rfl,tw (s:={s with heap:=h'}) e c d (by decide) ⟨x,H,I1,ru,⟨rfl,λys hy=>by rw[I.aaT hy hq];exact hx⟩,GS,λb hb=>(hf b hb).1⟩⟩
 done:=by
  intro X hP hw hK hc i pins s σ H E I hf st hg;subst hP hw hK;obtain⟨xs,hq,hx⟩:=hg;obtain⟨its,rv,p,hz⟩:=I.list hq;obtain⟨f0,f1,f2,f3,f4,f5⟩:=hf it (by simp);have hl:=rv.length;exact wpAny_pyNext_list_end (I.ok.hd hc) st p.isList (by simp;omega) λh' eb=>⟨rfl,I.turned (t':=s.toks) (λb o hb e=>eb b o hb e) f0 f1 f3 f4 f5⟩
 self:=λ_ _ _ _ _ st h=>wpAny_pyIter_listiter st h
theorem aaQ (a it:Addr):Turn P w K tg (EH K a) [it] it (λi h=>h.IsTupleIter it a i) where
 mem:=by simp
 obj:=λi h st b hb=>by
  have e:b=it:=by simpa using hb
  subst e;obtain⟨o,e,c,d⟩:=st;exact⟨o,e,λv z=>by rw[d] at z;cases z⟩
 keep:=λi h h' st k=>st.at λo e=>k it (by simp) o e
 item:=by
  intro X hP hw hK hc i pins s σ H E I hf st hg;subst hP hw hK;obtain⟨xs,x,hq,hx⟩:=hg;obtain⟨its,rv,p,hz⟩:=I.tuple hq;obtain⟨u,hu,ru⟩:=rv.get hx;obtain⟨f0,f1,f2,f3,f4,f5⟩:=hf it (by simp);refine wpAny_pyNext_tuple_item st (show s.heap.IsTuple a its.toArray from p) (x:=u) (by simpa using hu) λh' GS sb=>?_;have I1:Inv X pins σ H {s with heap:=h'}:=I.turned (t':=s.toks) (λb o hb e=>(sb.2 b hb).trans e) f0 f1 f3 f4 f5;obtain⟨o,e,c,d⟩:=id GS;exact⟨u,rfl,tw (s:={s with heap:=h'}) e c d (by decide) ⟨x,H,I1,ru,⟨rfl,λys hy=>by rw[I.aaG hy hq];exact hx⟩,GS,λb hb=>(hf b hb).1⟩⟩
 done:=by
  intro X hP hw hK hc i pins s σ H E I hf st hg;subst hP hw hK;obtain⟨xs,hq,hx⟩:=hg;obtain⟨its,rv,p,hz⟩:=I.tuple hq;obtain⟨f0,f1,f2,f3,f4,f5⟩:=hf it (by simp);have hl:=rv.length;exact wpAny_pyNext_tuple_end (I.ok.hd hc) st (show s.heap.IsTuple a its.toArray from p) (by simp;omega) λh' eb=>⟨rfl,I.turned (t':=s.toks) (λb o hb e=>eb b o hb e) f0 f1 f3 f4 f5⟩
 self:=λ_ _ _ _ _ st h=>wpAny_pyIter_tupleiter st h
theorem abJ (it:Addr)(lo:Int)(n:Nat):Turn P w K tg (xJ lo n) [it] it (λi h=>IsRangeIter h it (lo+(i:Nat)*1) ((n:Int)-(i:Nat)) 1) where
 mem:=by simp
 obj:=λi h st b hb=>by
  have e:b=it:=by simpa using hb
  subst e
  exact⟨_,st,λv z=>by
   have z':Data.fields _=Data.cell v:=z
   cases z'⟩
 keep:=λi h h' st k=>k it (by simp) _ st
 item:=by
  intro X hP hw hK hc i pins s σ H E I hf st hg;subst hP hw hK;obtain⟨f0,f1,f2,f3,f4,f5⟩:=hf it (by simp);have W:=Walks.range (prog:=X.prog) (w:=X.w) (I.ok.hd hc) it lo 1 n;refine W.item i s _ _ hg st λv h' tk hv GS kk=>?_;obtain⟨t,rfl⟩:=hv;have I1:Inv X pins σ H {s with heap:=h',toks:=tk}:=I.turned (λb o hb e=>kk b o (by simpa using hb) e) f0 f1 f3 f4 f5;refine⟨_,rfl,tw (s:={s with heap:=h',toks:=tk}) (n:="range_iterator") GS rfl rfl (by decide) ⟨.int (lo+i),H,I1,⟨t,?_⟩,⟨rfl,rfl⟩,GS,λb hb=>(hf b hb).1⟩⟩;rw[Int.mul_one]
 done:=by
  intro X hP hw hK hc i pins s σ H E I hf st hg;subst hP hw hK;obtain⟨f0,f1,f2,f3,f4,f5⟩:=hf it (by simp);exact wpAny_pyNext_range_end (I.ok.hd hc) st (by have:n<=i:=hg;omega) λh' eb=>⟨rfl,I.turned (t':=s.toks) (λb o hb e=>eb b o hb e) f0 f1 f3 f4 f5⟩
 self:=λ_ _ _ _ _ st h=>wpAny_pyIter_rangeiter st h
variable {pos:Pos}{fp:List Addr}
section
variable {X:Cx}{tg:Expr}
def aaS (K:PySem.W.Frag)(tl:TE):TI:=λσ H R=>tl σ H λx H1=>∃a,x=.ref a/\(∃xs,aV K H1 a xs)/\R (y7 K a) H1
def aar (K:PySem.W.Frag)(tl:TE):TI:=λσ H R=>tl σ H λx H1=>∃a,x=.ref a/\(∃xs,bV K H1 a xs)/\R (EH K a) H1
theorem c6 {l:Expr}{tl:TE}(hl:PE X l tl):PI X tg l (aaS X.K tl):=by
 intro pins s σ H R I h;refine bN (hl pins s σ H _ I h) λv s1 z'=>?_;obtain⟨x,H1,I1,r1,q1⟩:=z';obtain⟨a,e,⟨xs,hq⟩,q⟩:=q1;subst e
 cases r1
 obtain⟨its,rv,p,hz⟩:=I1.list hq;refine wpAny_pyIter_list p.isList ?_;refine⟨s1.heap.objs.size,[s1.heap.objs.size],_,_,H1,rfl,I1.kept (t':=s1.toks) λb o e=>Heap.get?_push_of_some _ e,abG a _,⟨_,Heap.get?_push_size _ rfl,rfl,rfl⟩,λb hb=>?_,q⟩
 have e:b=s1.heap.objs.size:=by simpa using hb
 subst e;exact I1.aa1 (Nat.le_refl _) (I1.hok.fresh (Nat.le_refl _))
theorem vh {l:Expr}{tl:TE}(hl:PE X l tl):PI X tg l (aar X.K tl):=by
 intro pins s σ H R I h;refine bN (hl pins s σ H _ I h) λv s1 z'=>?_;obtain⟨x,H1,I1,r1,q1⟩:=z';obtain⟨a,e,⟨xs,hq⟩,q⟩:=q1;subst e
 cases r1
 obtain⟨its,rv,p,hz⟩:=I1.tuple hq;refine wpAny_pyIter_tuple (show s1.heap.IsTuple a its.toArray from p) ?_;refine⟨s1.heap.objs.size,[s1.heap.objs.size],_,_,H1,rfl,I1.kept (t':=s1.toks) λb o e=>Heap.get?_push_of_some _ e,aaQ a _,⟨_,Heap.get?_push_size _ rfl,rfl,rfl⟩,λb hb=>?_,q⟩
 have e:b=s1.heap.objs.size:=by simpa using hb
 subst e;exact I1.aa1 (Nat.le_refl _) (I1.hok.fresh (Nat.le_refl _))
theorem p4 {R:It->Hp->Prop}{E:vy}{lo hi:Int}{t u v:Tok}{tk:Nat}(I:Inv X pins σ H s)(h1:-(2^62)<=lo)(h2:lo<2^62)(h3:-(2^62)<=hi)(h4:hi<2^62)
 (q:R (xJ lo (hi-lo).toNat) H):wpAny (model X.prog X.w) X.A (pyIter (.ref s.heap.objs.size)) (ED X pins σ tg R) E {s with heap:=s.heap.push {cls:=.type "range",data:=.fields #[.int lo t,.int hi u,.int 1 v]},toks:=tk}:=by
 refine wpAny_pyIter_range (IsRange.new ..) (small_one h1 h2 h3 h4) ?_;have I1:Inv X pins σ H {s with heap:=s.heap.push {cls:=.type "range",data:=.fields #[.int lo t,.int hi u,.int 1 v]},toks:=tk}:=I.kept λb o e=>Heap.get?_push_of_some _ e
 refine⟨(s.heap.push {cls:=.type "range",data:=.fields #[.int lo t,.int hi u,.int 1 v]}).objs.size,[(s.heap.push {cls:=.type "range",data:=.fields #[.int lo t,.int hi u,.int 1 v]}).objs.size],_,_,H,rfl,
  I1.kept (t':=tk) λb o e=>Heap.get?_push_of_some _ e,abJ _ lo (hi-lo).toNat,?_,λb hb=>?_,q⟩
 ·have e1:lo+((0:Nat):Int)*1=lo:=by simp
  have e2:(((hi-lo).toNat:Nat):Int)-((0:Nat):Int)=Builtin.Range.rangeSize lo hi 1:=by rw[rangeSize_one];split <;> omega
  show IsRangeIter _ _ (lo+((0:Nat):Int)*1) ((((hi-lo).toNat:Nat):Int)-((0:Nat):Int)) 1;rw[e1,e2];exact Heap.get?_push_size _ rfl
 ·have e:b=(s.heap.push {cls:=.type "range",data:=.fields #[.int lo t,.int hi u,.int 1 v]}).objs.size:=by simpa using hb
  subst e;exact I1.aa1 (Nat.le_refl _) (I1.hok.fresh (Nat.le_refl _))
def TmX (ta:TA):TI:=λσ H R=>ta σ H λvs H1=>∃j:Int,vs=[.int j]/\-(2^62)<=j/\j<2^62/\R (xJ 0 j.toNat) H1
def aaW (ta:TA):TI:=λσ H R=>ta σ H λvs H1=>∃i j:Int,vs=[.int i,.int j]/\(-(2^62)<=i/\i<2^62/\-(2^62)<=j/\j<2^62)/\R (xJ i (j-i).toNat) H1
theorem dY {a:Expr}{p:Pos}(hg:Gl X "range")(hm:X.mg "range"=none)(ha:PA X [a] ta)(hs:starEach [a] X.env=[(false,eval a X.env)]:=by rfl):PI X tg (.Call (.Name "range" p) [a] [] pos) (TmX ta):=by
 intro pins s σ H R I h;refine Call_ (gm I hg hm boot_range (PyProof.Rows.callWith_type1 (bN (ha pos pins s σ H _ I h) λus s1 z'=>?_) hs rfl));obtain⟨vs,H1,I1,r1,q1⟩:=z';obtain⟨j,e,q1,q2,q⟩:=q1;subst e
 cases r1 with
 |cons r rr =>
  cases rr
  obtain⟨t,rfl⟩:=r;exact call_range_1 (p4 I1 (by omega) (by omega) q1 q2 (by simpa using q))
theorem lN {a b:Expr}{p:Pos}(hg:Gl X "range")(hm:X.mg "range"=none)(ha:PA X [a,b] ta)(hs:starEach [a,b] X.env=[(false,eval a X.env),(false,eval b X.env)]:=by rfl)(K5:starEach [b] X.env=[(false,eval b X.env)]:=by rfl):
 PI X tg (.Call (.Name "range" p) [a,b] [] pos) (aaW ta):=by
 intro pins s σ H R I h;refine Call_ (gm I hg hm boot_range (PyProof.Rows.callWith_type1 (bN (ha pos pins s σ H _ I h) λus s1 z'=>?_) (by rw[hs,K5]) (by rw[K5];rfl)));obtain⟨vs,H1,I1,r1,q1⟩:=z';obtain⟨i,j,e,⟨q1,q2,q3,q4⟩,q⟩:=q1;subst e
 cases r1 with
 |cons r rr =>
  cases rr with
  |cons r' rr =>
   cases rr
   obtain⟨t,rfl⟩:=r;obtain⟨t',rfl⟩:=r';exact call_range_2 (p4 I1 q1 q2 q3 q4 q)
def aas (wi:TI)(g:TG)(tb:TS):TS:=λD σ H=>wi σ H λJ H1=>∃W:Nat->Nat->St->Hp->Prop,(∃m,W 0 m σ H1)/\∀i m σ H,W i m σ H →
 (J.stop i H/\D.nx σ H)\/(J.go i H/\∃N:St->Hp->Prop,(∀σ' H',N σ' H'->∃m',m'<m/\W (i+1) m' σ' H')/\∀x H',J.yld i H x H'->g x σ H' λσ2 H2=>tb {D with nx:=N,ct:=N,bk:=D.nx} σ2 H2)
def jP (fp:List Addr)(h:Heap):List (Addr×Obj):=fp.filterMap λb=>(h.get? b).map λo=>(b,o)
theorem gf {o:Obj}(hb:b∈fp)(e:h.get? b=some o):(b,o)∈jP fp h:=List.mem_filterMap.mpr ⟨b,hb,by rw[e];rfl⟩
theorem abL {p:Addr×Obj}(hp:p∈jP fp h):p.1∈fp/\h.get? p.1=some p.2:=by
 obtain⟨b,hb,e⟩:=List.mem_filterMap.mp hp
 cases q:h.get? b with
 |none=>rw[q] at e;cases e
 |some o =>
  rw[q] at e;have e':(b,o)=p:=Option.some.inj e;subst e';exact⟨hb,q⟩
theorem Inv.pinned (I:Inv X pins σ H s)(hf:∀b∈fp,dq X pins H b)(ho:∀b∈fp,∃o,s.heap.get? b=some o/\∀v,o.data≠.cell v):Inv X (pins++jP fp s.heap) σ H s :=
 I.aaF λp hp=>(List.mem_append.mp hp).elim (λz=>I.pin p (List.mem_append_right _ z)) λz=>by
   obtain⟨hb,e⟩:=abL z;obtain⟨f0,f1,f2,_⟩:=hf p.1 hb;obtain⟨o,e',d⟩:=ho p.1 hb;rw[e] at e';cases e';exact⟨e,f0,f1,f2,d⟩
theorem Inv.aaN {pl:List (Addr×Obj)}(I:Inv X (pins++pl) σ H s):Inv X pins σ H s:=I.aaF λp hp=>I.pin p (List.mem_append_right _ (List.mem_append_left _ hp))
theorem iG {iter:Expr}{wi:TI}(hp:PassesOwn (model X.prog X.w) X.A X.env X.xe)(hc:X.calm=true)(hi:PI X tg iter wi)(hg:PG X tg g)(hb:oA X body tb)
 (hs:∀x,foldedSetIterable iter X.env x=pure x:=by intro _;rfl):PS X (.For tg iter body [] pos) (aas wi g tb):=by
 intro pins s σ H D I h;refine wpAny_For (bN (hi pins s σ H _ I h) λv s1 h1=>bN h1 λQZ s2 h2=>?_) hs;obtain⟨it,fp,tn,J,H2,e,I2,T,Jt,f2,W,⟨m0,w0⟩,turn⟩:=h2;subst e;have K6:∀{H':Hp},(∀b∈fp,H' b=none)->∀b∈fp,dq X pins H' b:=λhn b hb=>⟨hn b hb,(f2 b hb).2⟩;refine codeAny_forLoop_any (λn s'=>∃i σ' H',Inv X pins σ' H' s'/\tn i s'.heap/\(∀b∈fp,H' b=none)/\W i n σ' H') ?_ m0 ⟨0,σ,H2,I2,Jt,λb hb=>(f2 b hb).1,w0⟩;rintro n s3 ⟨i,σ3,H3,I3,Xk,Xl,w3⟩
 rcases turn i n σ3 H3 w3 with⟨stop,qn⟩|⟨go,N,hN,step⟩
 ·refine wpAny_passesOwn hp (bN (T.done X rfl rfl rfl hc i pins s3 σ3 H3 X.xe I3 (K6 Xl) Xk stop) λr s4 z'=>?_);obtain⟨hr,I4⟩:=z';subst hr;exact wpAny_execs_nil ⟨σ3,H3,I4,qn⟩
 ·refine wpAny_passesOwn hp (bN (T.item X rfl rfl rfl hc i pins s3 σ3 H3 X.xe I3 (K6 Xl) Xk go) λr s4 z'=>?_);obtain⟨u,hr,h4⟩:=z';subst hr;refine wpAny_passesOwn hp (bN h4 λ_ s5 z'=>?_);obtain⟨x,H5,I5,r5,y5,MU,RY⟩:=z';have ZT:=I5.pinned (K6 RY) (T.obj _ _ MU);refine wpAny_passesOwn hp (bN (hg _ s5 σ3 H5 x u _ ZT r5 (step x H5 y5)) λ_ s6 z'=>?_);obtain⟨σ6,H6,I6,q6⟩:=z';refine wpAny_passesOwn hp (bN (hb _ s6 σ6 H6 _ I6 q6) λf s7 q7=>?_)
  have again:∀{σ7:St}{H7:Hp},Inv X (pins++jP fp s5.heap) σ7 H7 s7->N σ7 H7->∃m,m<n/\∃i σ' H',Inv X pins σ' H' s7/\tn i s7.heap/\(∀b∈fp,H' b=none)/\W i m σ' H':=λ{σ7 H7} I7 n7=>by
   obtain⟨m',hm,w7⟩:=hN σ7 H7 n7;refine⟨m',hm,i+1,σ7,H7,I7.aaN,T.keep _ _ _ MU λb hb o e=>(I7.pin (b,o) (List.mem_append_right _ (List.mem_append_right _ (gf hb e)))).1,λb hb=>?_,w7⟩;obtain⟨o,e,d⟩:=T.obj _ _ MU b hb;exact(I7.pin (b,o) (List.mem_append_right _ (List.mem_append_right _ (gf hb e)))).2.1
  cases f with
  |next=>obtain⟨σ7,H7,I7,n7⟩:=q7;exact again I7 n7
  |cont=>obtain⟨σ7,H7,I7,n7⟩:=q7;exact again I7 n7
  |brk=>obtain⟨σ7,H7,I7,q7⟩:=q7;exact⟨σ7,H7,I7.aaN,q7⟩
  |ret v=>obtain⟨x7,σ7,H7,I7,r7,q7⟩:=q7;exact⟨x7,σ7,H7,I7.aaN,r7,q7⟩
end
theorem abM {xs:List V}{D:Ends}(Pv:Nat->St->Hp->Prop)(h0:Pv 0 σ H)(hl:∀i σ H,i<=xs.length->Pv i σ H->aV K H a xs)
 (hs:∀i x σ H,xs[i]?=some x->Pv i σ H->g x σ H λσ2 H2=>tb {D with nx:=Pv (i+1),ct:=Pv (i+1),bk:=D.nx} σ2 H2)(hd:∀σ H,Pv xs.length σ H->D.nx σ H):
 ∃W:Nat->Nat->St->Hp->Prop,(∃m,W 0 m σ H)/\∀i m σ H,W i m σ H →
  ((y7 K a).stop i H/\D.nx σ H)\/((y7 K a).go i H/\∃N:St->Hp->Prop,(∀σ' H',N σ' H'->∃m',m'<m/\W (i+1) m' σ' H')/\∀x H',(y7 K a).yld i H x H'->g x σ H' λσ2 H2=>tb {D with nx:=N,ct:=N,bk:=D.nx} σ2 H2):=by
 refine⟨λi m σ H=>m=xs.length-i/\i<=xs.length/\Pv i σ H,⟨xs.length,by simp,Nat.zero_le _,h0⟩,?_⟩;rintro i m σ H ⟨rfl,hi,p⟩;have q:=hl i σ H hi p
 by_cases Fy:i<xs.length
 ·refine .inr ⟨⟨xs,xs[i],q,by simp[Fy]⟩,Pv (i+1),λσ' H' p'=>⟨xs.length-(i+1),by omega,rfl,Fy,p'⟩,λx H' y=>?_⟩;obtain⟨e,y⟩:=y;subst e;exact hs i x σ _ (y xs q) p
 ·have e:i=xs.length:=by omega
  subst e;exact .inl ⟨⟨xs,q,Nat.le_refl _⟩,hd σ H p⟩
theorem mn {lo:Int}{n:Nat}{D:Ends}(Pv:Nat->St->Hp->Prop)(h0:Pv 0 σ H)
 (hs:∀i σ H,i<n->Pv i σ H->g (.int (lo+i)) σ H λσ2 H2=>tb {D with nx:=Pv (i+1),ct:=Pv (i+1),bk:=D.nx} σ2 H2)(hd:∀σ H,Pv n σ H->D.nx σ H):
 ∃W:Nat->Nat->St->Hp->Prop,(∃m,W 0 m σ H)/\∀i m σ H,W i m σ H →
  ((xJ lo n).stop i H/\D.nx σ H)\/((xJ lo n).go i H/\∃N:St->Hp->Prop,(∀σ' H',N σ' H'->∃m',m'<m/\W (i+1) m' σ' H')/\∀x H',(xJ lo n).yld i H x H'->g x σ H' λσ2 H2=>tb {D with nx:=N,ct:=N,bk:=D.nx} σ2 H2):=by
 refine⟨λi m σ H=>m=n-i/\i<=n/\Pv i σ H,⟨n,by simp,Nat.zero_le _,h0⟩,?_⟩;rintro i m σ H ⟨rfl,hi,p⟩
 by_cases Fy:i<n
 ·refine .inr ⟨Fy,Pv (i+1),λσ' H' p'=>⟨n-(i+1),by omega,rfl,Fy,p'⟩,λx H' y=>?_⟩;obtain⟨e,y⟩:=y;subst e y;exact hs i σ _ Fy p
 ·have e:i=n:=by omega
  subst e;exact .inl ⟨Nat.le_refl _,hd σ H p⟩
abbrev R2:=V->V->Hp->VK->Prop
def gy (X:Cx)(f:Value->Value->Sem Value)(r:R2):Prop :=
 ∀(pins:List (Addr×Obj))(s:AQ)(σ:St)(H:Hp)(x y:V)(v u:Value)(Q:VK),Inv X pins σ H s->aE x v->aE y u->r x y H Q →
  wpAny (model X.prog X.w) X.A (f v u) (EP X pins σ Q) X.xe s
def DH (X:Cx)(f:Value->Sem Value)(r:V->Hp->VK->Prop):Prop :=
 ∀(pins:List (Addr×Obj))(s:AQ)(σ:St)(H:Hp)(x:V)(v:Value)(Q:VK),Inv X pins σ H s->aE x v->r x H Q →
  wpAny (model X.prog X.w) X.A (f v) (EP X pins σ Q) X.xe s
def cA (X:Cx)(f:Value)(r:List V->Hp->VK->Prop):Prop :=
 ∀(pins:List (Addr×Obj))(s:AQ)(σ:St)(H:Hp)(xs:List V)(us:nZ)(Q:VK),Inv X pins σ H s->aG xs us->r xs H Q →
  wpAny (model X.prog X.w) X.A (call f us) (EP X pins σ Q) X.xe s
def aa7 (X:Cx)(r:V->Hp->(Bool->Hp->Prop)->Prop):Prop :=
 ∀(pins:List (Addr×Obj))(s:AQ)(σ:St)(H:Hp)(x:V)(v:Value)(Q:Bool->Hp->Prop),Inv X pins σ H s->aE x v->r x H Q →
  wpAny (model X.prog X.w) X.A (truthy v) (TP X pins σ Q) X.xe s
def ll (r:R2)(ta tb:TE):TE:=λσ H Q=>ta σ H λx H1=>tb σ H1 λy H2=>r x y H2 Q
def Gth (r:V->Hp->VK->Prop)(ta:TE):TE:=λσ H Q=>ta σ H λx H1=>r x H1 Q
def rI (C:Int->Int->Prop)(g:Int->Int->V):R2:=λx y H Q=>∃i j,x=.int i/\y=.int j/\C i j/\Q (g i j) H
def sY (g:Int->Int->V):R2:=λx y H Q=>∃i j,x=.int i/\y=.int j/\Q (g i j) H
def rU (g:Int->V):V->Hp->VK->Prop:=λx H Q=>∃i,x=.int i/\Q (g i) H
variable {f:Value->Value->Sem Value}
section
variable {X:Cx}{a b c:Expr}{ta tb tc:TE}{pos:Pos}
theorem Bv (ha:PE X a ta)(hb:PE X b tb){R:V->V->Hp->Prop}(I:Inv X pins σ H s)
 (h:ta σ H λx H1=>tb σ H1 λy H2=>R x y H2){Q:vy}
 (hf:∀v u s2 x y H2,Inv X pins σ H2 s2->aE x v->aE y u->R x y H2->wpAny (model X.prog X.w) X.A (f v u) Q X.xe s2):
 wpAny (model X.prog X.w) X.A (eval a X.env) (λv s₁=>wpAny (model X.prog X.w) X.A (eval b X.env) (λu s₂=>wpAny (model X.prog X.w) X.A (f v u) Q X.xe s₂) X.xe s₁) X.xe s:=by
 refine bN (ha pins s σ H _ I h) λv s1 z'=>?_;obtain⟨x,H1,I1,r1,q1⟩:=z';refine bN (hb pins s1 σ H1 _ I1 q1) λu s2 z'=>?_;obtain⟨y,H2,I2,r2,q2⟩:=z';exact hf v u s2 x y H2 I2 r1 r2 q2
theorem aO {op:Operator}{r:R2}(ho:gy X (binaryOp op) r)(ha:PE X a ta)(hb:PE X b tb):PE X (.BinOp a op b pos) (ll r ta tb):=by
 intro pins s σ H Q I h;exact wpAny_BinOp (Bv ha hb I h λv u s2 x y H2 I2 rx ry q=>ho pins s2 σ H2 x y v u Q I2 rx ry q)
theorem pN {op:UnaryOp}{r:V->Hp->VK->Prop}(ho:DH X (unaryOp op) r)(ha:PE X a ta):PE X (.UnaryOp op a pos) (Gth r ta):=by
 intro pins s σ H Q I h;exact UnaryOp_ (bN (ha pins s σ H _ I h) λv s1 ⟨x,H1,I1,r1,q1⟩=>ho pins s1 σ H1 x v Q I1 r1 q1)
theorem Ae {C:Int->Int->Prop}{g:Int->Int->Int}
 (rule:∀(i j:Int)(t u:Tok)(s:AQ)(Q:vy)(E:vy),C i j->Q (.int (g i j) s.toks) {s with toks:=s.toks+1}->wpAny (model X.prog X.w) X.A (f (.int i t) (.int j u)) Q E s):
 gy X f (rI C λi j=>.int (g i j)):=by
 intro pins s σ H x y v u Q I rx ry h;obtain⟨i,j,rfl,rfl,hc,q⟩:=h;obtain⟨t,rfl⟩:=rx;obtain⟨t',rfl⟩:=ry;exact rule i j t t' s _ _ hc ⟨.int (g i j),H,I.tok _,⟨_,rfl⟩,q⟩
theorem B5 {g:Int->Int->Int}
 (rule:∀(i j:Int)(t u:Tok)(s:AQ)(Q:vy)(E:vy),Q (.int (g i j) s.toks) {s with toks:=s.toks+1}->wpAny (model X.prog X.w) X.A (f (.int i t) (.int j u)) Q E s):
 gy X f (sY λi j=>.int (g i j)):=by
 intro pins s σ H x y v u Q I rx ry h;obtain⟨i,j,rfl,rfl,q⟩:=h;obtain⟨t,rfl⟩:=rx;obtain⟨t',rfl⟩:=ry;exact rule i j t t' s _ _ ⟨.int (g i j),H,I.tok _,⟨_,rfl⟩,q⟩
theorem yT {g:Int->Int->Bool}
 (rule:∀(i j:Int)(t u:Tok)(s:AQ)(Q:vy)(E:vy),Q (.bool (g i j)) s->wpAny (model X.prog X.w) X.A (f (.int i t) (.int j u)) Q E s):
 gy X f (sY λi j=>.bl (g i j)):=by
 intro pins s σ H x y v u Q I rx ry h;obtain⟨i,j,rfl,rfl,q⟩:=h;obtain⟨t,rfl⟩:=rx;obtain⟨t',rfl⟩:=ry;exact rule i j t t' s _ _ ⟨.bl (g i j),H,I,rfl,q⟩
def aba (i j:Int):Prop:=0<j/\j<1073741824
def BL (i j:Int):Prop:=0<=j/\j<=1000000/\i.natAbs<2^64
def qI (i j:Int):Prop:=(-(2^64)<i/\i<2^64)\/(-(2^64)<j/\j<2^64)
theorem qI.ok {i j:Int}(h:qI i j):IntMulOk i j:=by
 rcases h with⟨h1,h2⟩|⟨h1,h2⟩
 ·exact .of_left (intBits_le_64 h1 h2)
 ·exact .of_right (intBits_le_64 h1 h2)
theorem eG:gy X (binaryOp .Add) (sY λi j=>.int (i+j)):=B5 λ_ _ _ _ _ _ _ q=>add_int q
theorem qM:gy X (binaryOp .Sub) (sY λi j=>.int (i-j)):=B5 λ_ _ _ _ _ _ _ q=>sub_int q
theorem jf:gy X (binaryOp .Mult) (rI qI λi j=>.int (i*j)):=Ae λ_ _ _ _ _ _ _ hc q=>mul_int q hc.ok
theorem Bad:gy X (binaryOp .FloorDiv) (rI aba λi j=>.int (i/j)):=Ae λi j _ _ _ _ _ hc q=>by
 have h1:(0:Int)<j:=hc.1;have h2:j<1073741824:=hc.2;exact floordiv_int (by omega) (by rw[Int.fdiv_eq_ediv_of_nonneg i (by omega)];exact q) (.inl (PyProof.noPylong_small (by omega)))
theorem eB:gy X (binaryOp .Mod) (rI (λ_ j=>0<j) λi j=>.int (i%j)):=Ae λi j _ _ _ _ _ hc q=>by
 have h1:(0:Int)<j:=hc;exact mod_int' (by omega) (by rw[Int.fmod_eq_emod_of_nonneg i (by omega)];exact q)
theorem sh:gy X (binaryOp .Mod) (rI (λ_ j=>j≠0) λi j=>.int (i.fmod j)):=Ae λ_ _ _ _ _ _ _ hc q=>mod_int' hc q
theorem xC:gy X (binaryOp .Pow) (rI BL λi j=>.int (i^j.toNat)):=Ae λ_ _ _ _ _ _ _ hc q=>pow_int_small hc.1 hc.2.1 hc.2.2 q
theorem gUW {f:Value->Sem Value}{g:Int->Int}
 (rule:∀(i:Int)(t:Tok)(s:AQ)(Q:vy)(E:vy),Q (.int (g i) s.toks) {s with toks:=s.toks+1}->wpAny (model X.prog X.w) X.A (f (.int i t)) Q E s):
 DH X f (rU λi=>.int (g i)):=by
 intro pins s σ H x v Q I rx h;obtain⟨i,rfl,q⟩:=h;obtain⟨t,rfl⟩:=rx;exact rule i t s _ _ ⟨.int (g i),H,I.tok _,⟨_,rfl⟩,q⟩
theorem kE:DH X (unaryOp .USub) (rU λi=>.int (-i)):=gUW λ_ _ _ _ _ q=>neg_int q
end
def BN:V->V->Bool
 | .non,.non=>true| .non,.int _=>true| .int _,.non=>true| .non,.bl _=>true| .bl _,.non=>true| .non,.str _=>true| .str _,.non=>true
 | .int _,.int _=>true| .bl _,.bl _=>true| .str _,.str _=>true| .byt _,.byt _=>true
 | .int _,.str _=>true| .str _,.int _=>true| .bl _,.str _=>true| .str _,.bl _=>true
 |_,_=>false
def lK:R2:=λx y H Q=>BN x y=true/\Q (.bl (decide (x=y))) H
def rNe:R2:=λx y H Q=>BN x y=true/\Q (.bl (!decide (x=y))) H
theorem tD {i j:Int}:decide (V.int i=V.int j)=(i==j):=by
 rw[Bool.eq_iff_iff];simp
theorem vz {i j:Bool}:decide (V.bl i=V.bl j)=(i==j):=by
 rw[Bool.eq_iff_iff];simp
theorem sV {i j:Str}:decide (V.str i=V.str j)=(i==j):=by
 rw[Bool.eq_iff_iff];simp
theorem rZ {i j:Array UInt8}:decide (V.byt i=V.byt j)=(i.toList==j.toList):=by
 rw[Bool.eq_iff_iff]
 cases i
 cases j
 simp
variable {Q:VK}
section
variable {X:Cx}{a b c:Expr}{ta tb tc:TE}{pos:Pos}
theorem br {k k':Bool}(I:Inv X pins σ H s)(q:Q (.bl k) H)(e:k=k'):EP X pins σ Q (.bool k') s:=by
 subst e;exact⟨.bl k,H,I,rfl,q⟩
theorem cq:gy X (compareOp .Eq) lK:=by
 intro pins s σ H x y v u Q I rx ry h;obtain⟨hs,q⟩:=h
 cases x with
 |non =>
  cases rx
  cases y with
  |non=>cases ry;exact PySem.EqNone.eq_none_none (br I q (by simp))
  |bl j=>cases ry;exact PySem.EqNone.eq_none_bool (br I q (by simp))
  |int j=>obtain⟨t',rfl⟩:=ry;exact PySem.EqNone.eq_none_int (br I q (by simp))
  |str j=>obtain⟨t',rfl⟩:=ry;exact PySem.EqNone.eq_none_str (br I q (by simp))
  |_=>exact absurd (show false=true from hs) Bool.false_ne_true
 |bl i =>
  cases rx
  cases y with
  |non=>cases ry;exact PySem.EqNone.eq_bool_none (br I q (by simp))
  |bl j=>cases ry;exact eq_bool (br I q vz)
  |str j=>obtain⟨t',rfl⟩:=ry;exact PySem.EqMixed.eq_bool_str (br I q (by simp))
  |_=>exact absurd (show false=true from hs) Bool.false_ne_true
 |int i =>
  obtain⟨t,rfl⟩:=rx
  cases y with
  |non=>cases ry;exact PySem.EqNone.eq_int_none (br I q (by simp))
  |int j=>obtain⟨t',rfl⟩:=ry;exact eq_int (br I q tD)
  |str j=>obtain⟨t',rfl⟩:=ry;exact PySem.EqMixed.eq_int_str (br I q (by simp))
  |_=>exact absurd (show false=true from hs) Bool.false_ne_true
 |str i =>
  obtain⟨t,rfl⟩:=rx
  cases y with
  |non=>cases ry;exact PySem.EqNone.eq_str_none (br I q (by simp))
  |bl j=>cases ry;exact PySem.EqMixed.eq_str_bool (br I q (by simp))
  |int j=>obtain⟨t',rfl⟩:=ry;exact PySem.EqMixed.eq_str_int (br I q (by simp))
  |str j=>obtain⟨t',rfl⟩:=ry;exact eq_str (br I q sV)
  |_=>exact absurd (show false=true from hs) Bool.false_ne_true
 |byt i =>
  obtain⟨t,rfl⟩:=rx
  cases y with
  |byt j=>obtain⟨t',rfl⟩:=ry;exact PySem.W.eq_bytes (br I q rZ)
  |_=>exact absurd (show false=true from hs) Bool.false_ne_true
 |_=>cases y <;> exact absurd (show false=true from hs) Bool.false_ne_true
theorem kn:gy X (compareOp .NotEq) rNe:=by
 intro pins s σ H x y v u Q I rx ry h;obtain⟨hs,q⟩:=h
 cases x with
 |non =>
  cases rx
  cases y with
  |non=>cases ry;exact PySem.EqNone.ne_none_none (br I q (by simp))
  |bl j=>cases ry;exact PySem.EqNone.ne_none_bool (br I q (by simp))
  |int j=>obtain⟨t',rfl⟩:=ry;exact PySem.EqNone.ne_none_int (br I q (by simp))
  |str j=>obtain⟨t',rfl⟩:=ry;exact PySem.EqNone.ne_none_str (br I q (by simp))
  |_=>exact absurd (show false=true from hs) Bool.false_ne_true
 |bl i =>
  cases rx
  cases y with
  |non=>cases ry;exact PySem.EqNone.ne_bool_none (br I q (by simp))
  |bl j=>cases ry;exact ne_bool (br I q (congrArg not vz))
  |str j=>obtain⟨t',rfl⟩:=ry;exact PySem.EqMixed.ne_bool_str (br I q (by simp))
  |_=>exact absurd (show false=true from hs) Bool.false_ne_true
 |int i =>
  obtain⟨t,rfl⟩:=rx
  cases y with
  |non=>cases ry;exact PySem.EqNone.ne_int_none (br I q (by simp))
  |int j=>obtain⟨t',rfl⟩:=ry;exact ne_int (br I q (congrArg not tD))
  |str j=>obtain⟨t',rfl⟩:=ry;exact PySem.EqMixed.ne_int_str (br I q (by simp))
  |_=>exact absurd (show false=true from hs) Bool.false_ne_true
 |str i =>
  obtain⟨t,rfl⟩:=rx
  cases y with
  |non=>cases ry;exact PySem.EqNone.ne_str_none (br I q (by simp))
  |bl j=>cases ry;exact PySem.EqMixed.ne_str_bool (br I q (by simp))
  |int j=>obtain⟨t',rfl⟩:=ry;exact PySem.EqMixed.ne_str_int (br I q (by simp))
  |str j=>obtain⟨t',rfl⟩:=ry;exact ne_str (br I q (congrArg not sV))
  |_=>exact absurd (show false=true from hs) Bool.false_ne_true
 |byt i =>
  obtain⟨t,rfl⟩:=rx
  cases y with
  |byt j=>obtain⟨t',rfl⟩:=ry;exact PySem.W.ne_bytes (br I q (congrArg not rZ))
  |_=>exact absurd (show false=true from hs) Bool.false_ne_true
 |_=>cases y <;> exact absurd (show false=true from hs) Bool.false_ne_true
theorem i3:gy X (compareOp .Lt) (sY λi j=>.bl (decide (i<j))):=yT λ_ _ _ _ _ _ _ q=>lt_int q
theorem oM:gy X (compareOp .LtE) (sY λi j=>.bl (decide (i<=j))):=yT λ_ _ _ _ _ _ _ q=>le_int q
theorem pP:gy X (compareOp .Gt) (sY λi j=>.bl (decide (j<i))):=yT λ_ _ _ _ _ _ _ q=>gt_int q
theorem abp:gy X (compareOp .GtE) (sY λi j=>.bl (decide (j<=i))):=yT λ_ _ _ _ _ _ _ q=>ge_int q
theorem om:gy X (compareOp .Is) (λx y H Q=>y=.non/\Q (.bl (decide (x=.non))) H):=by
 intro pins s σ H x y v u Q I rx ry h;obtain⟨rfl,q⟩:=h
 cases ry
 refine is_none_gen (br I q ?_)
 cases x <;> first
  |(cases rx;rfl)
  |(obtain⟨t,rfl⟩:=rx;rfl)
theorem aB (b:Expr)(h:op ≠ .In:=by decide)(h2:op ≠ .NotIn:=by decide):behindInMarks op b=false:=by
 have e1:(op==CmpOp.In)=false:=by cases op <;> first|rfl|exact absurd rfl h
 have e2:(op==CmpOp.NotIn)=false:=by cases op <;> first|rfl|exact absurd rfl h2
 cases b <;> simp[behindInMarks,e1,e2]
theorem aZ {op:CmpOp}{r:R2}(ho:gy X (compareOp op) r)(ha:PE X a ta)(hb:PE X b tb)(hm:behindInMarks op b=false):PE X (.Compare a [op] [b] pos) (ll r ta tb):=by
 intro pins s σ H Q I h;exact wpAny_Compare1 (Bv ha hb I h λv u s2 x y H2 I2 rx ry q=>ho pins s2 σ H2 x y v u Q I2 rx ry q) hm
def pA (t:TE):TT:=λσ H Q=>t σ H λx H'=>∃k,x=.bl k/\Q k H'
theorem aL {op:CmpOp}{r:R2}(ho:gy X (compareOp op) r)(ha:PE X a ta)(hb:PE X b tb)(hm:behindInMarks op b=false):PT X (.Compare a [op] [b] pos) (pA (ll r ta tb)):=by
 intro pins s σ H Q I h
 refine wpAny_isTrue_Compare1 (bN (ha pins s σ H _ I h) λv s1 ⟨x,H1,I1,r1,q1⟩=>bN (hb pins s1 σ H1 _ I1 q1) λu s2 ⟨y,H2,I2,r2,q2⟩ =>
  bN (ho pins s2 σ H2 x y v u _ I2 r1 r2 q2) λc s3 ⟨z,H3,I3,r3,k,e,q3⟩=>?_) hm
 subst e
 cases r3
 exact wpAny_truthy_bool ⟨H3,I3,q3⟩
def wG (r r':R2)(ta tb tc:TE):TE:=λσ H Q=>ta σ H λx H1=>tb σ H1 λy H2=>r x y H2 λz H3=>∃k,z=.bl k /\
 (if k=true then tc σ H3 λw' H4=>r' y w' H4 Q else Q (.bl false) H3)
theorem pz {K7:CmpOp}{r r':R2}(ho:gy X (compareOp op) r)(Gb:gy X (compareOp K7) r')(ha:PE X a ta)(hb:PE X b tb)(hc:PE X c tc)
 (hm:lastMarks [op,K7] [b,c]=false:=by with_unfolding_all rfl):PE X (.Compare a [op,K7] [b,c] pos) (wG r r' ta tb tc):=by
 intro pins s σ H Q I h
 refine Compare_chain (bN (ha pins s σ H _ I h) λv s1 ⟨x,H1,I1,r1,q1⟩=>chain_link (bN (hb pins s1 σ H1 _ I1 q1) λu s2 ⟨y,H2,I2,r2,q2⟩ =>
  bN (ho pins s2 σ H2 x y v u _ I2 r1 r2 q2) λd s3 ⟨z,H3,I3,r3,k,e,q3⟩=>?_)) hm
 subst e
 cases r3
 refine wpAny_truthy_bool ?_
 cases k with
 |false=>exact ite_ff ⟨.bl false,H3,I3,rfl,q3⟩
 |true=>exact ite_tt (chain_last (bN (hc pins s3 σ H3 _ I3 q3) λw' s4 ⟨z',H4,I4,r4,q4⟩=>Gb pins s4 σ H4 y z' u w' Q I4 r2 r4 q4))
theorem abN {K7:CmpOp}{r r':R2}(ho:gy X (compareOp op) r)(Gb:gy X (compareOp K7) r')(ha:PE X a ta)(hb:PE X b tb)(hc:PE X c tc)
 (hm:lastMarks [op,K7] [b,c]=false:=by with_unfolding_all rfl):PT X (.Compare a [op,K7] [b,c] pos) (pA (wG r r' ta tb tc)):=by
 intro pins s σ H Q I h
 refine isTrue_chain (bN (ha pins s σ H _ I h) λv s1 ⟨x,H1,I1,r1,q1⟩=>test_link (bN (hb pins s1 σ H1 _ I1 q1) λu s2 ⟨y,H2,I2,r2,q2⟩ =>
  bN (ho pins s2 σ H2 x y v u _ I2 r1 r2 q2) λd s3 ⟨z,H3,I3,r3,k,e,q3⟩=>?_)) hm
 subst e
 cases r3
 refine wpAny_truthy_bool ?_
 cases k with
 |false =>
  obtain⟨k',e',q'⟩:=q3
  cases e'
  exact ite_ff ⟨H3,I3,q'⟩
 |true =>
  refine ite_tt (test_last (bN (hc pins s3 σ H3 _ I3 q3) λw' s4 ⟨z',H4,I4,r4,q4⟩=>bN (Gb pins s4 σ H4 y z' u w' _ I4 r2 r4 q4) λd' s5 ⟨z2,H5,I5,r5,k2,e2,q5⟩=>?_));subst e2
  cases r5
  exact wpAny_truthy_bool ⟨H5,I5,q5⟩
def Ax (K:PySem.W.Frag)(x:V)(H:Hp)(k:Bool):Prop :=
 match x with
 | .non=>k=false
 | .bl b=>k=b
 | .int i=>k=(i != 0)
 | .str y=>y.length<=sizeLine/\k=((y.length:Int) != 0)
 | .byt y=>y.size<=sizeLine/\k=((y.size:Int) != 0)
 | .ref p=>(∃xs,aV K H p xs/\k = !xs.isEmpty)\/(∃xs,bV K H p xs/\k = !xs.isEmpty)\/∃Fe,H p=some (.dK Fe)/\k = !Fe.isEmpty
 |_=>False
theorem abO {κ:Type}{Fe:List (κ×V)}{vs:List (κ×Value)}(r:KV Fe vs):(!vs.isEmpty) = !Fe.isEmpty:=by
 cases r <;> rfl
theorem jN {xs:List V}{its:nZ}(r:aG xs its):(!its.toArray.isEmpty) = !xs.isEmpty:=by
 cases r <;> simp
theorem lh:(sizeLine:Nat)<2^63:=by rw[sizeLine_eq];decide
theorem abP:aa7 X (λx H Q=>∃k,Ax X.K x H k/\Q k H):=by
 intro pins s σ H x v Q I rx h;obtain⟨k,e,q⟩:=h;have hl:=lh;have hs:sizeLine=16777216:=sizeLine_eq
 cases x with
 |non =>
  cases rx
  have e':k=false:=e;subst e';exact truthy_none ⟨H,I,q⟩
 |bl b =>
  cases rx
  have e':k=b:=e;subst e';exact wpAny_truthy_bool ⟨H,I,q⟩
 |int i =>
  obtain⟨t,rfl⟩:=rx;have e':k=(i != 0):=e;subst e';exact PySem.P.truthy_int ⟨H,I,q⟩
 |str y =>
  obtain⟨t,rfl⟩:=rx;obtain⟨hy,e'⟩:y.length<=sizeLine/\k=((y.length:Int) != 0):=e;subst e';exact PySem.P.truthy_str (by omega) ⟨H,I.tok _,q⟩
 |byt y =>
  obtain⟨t,rfl⟩:=rx;obtain⟨hy,e'⟩:y.size<=sizeLine/\k=((y.size:Int) != 0):=e;subst e';exact PySem.W.truthy_bytes (by omega) ⟨H,I.tok _,q⟩
 |ref p =>
  cases rx
  have e':(∃xs,aV X.K H p xs/\k = !xs.isEmpty)\/(∃xs,bV X.K H p xs/\k = !xs.isEmpty)\/∃Fe,H p=some (.dK Fe)/\k = !Fe.isEmpty:=e
  rcases e' with⟨xs,hx,e'⟩|⟨xs,hx,e'⟩|⟨Fe,hx,e'⟩
  ·subst e';obtain⟨its,r,pl,hz⟩:=I.list hx;have hlen:=r.length;exact wpAny_truthy_list pl.isList (by simp only[List.size_toArray];omega) ⟨H,I.tok _,by rw[jN r];exact q⟩
  ·subst e';obtain⟨its,r,pl,hz⟩:=I.tuple hx;have hlen:=r.length;exact truthy_tuple pl (by simp only[List.size_toArray];omega) ⟨H,I.tok _,by rw[jN r];exact q⟩
  ·subst e';obtain⟨hz,hS,vs,r,m⟩:Fe.length<=sizeLine/\(p==sysModules)=false/\∃vs,KV Fe vs/\s.heap.DictOf (b8 X.prog X.w) p vs:=I.hok p _ hx;have hlen:Fe.length=vs.length:=Paired.length r;exact wpAny_truthy_dict hS m (by omega) ⟨H,I.tok _,by rw[abO r];exact q⟩
 |_=>exact(show False from e).elim
theorem i4 (ha:PE X a ta)(he:∀eC,isTrue a X.env eC=(do let v <-eC;standAt a.pos;holding [v] (truthy v))):
 PT X a (λσ H Q=>ta σ H λx H'=>∃k,Ax X.K x H' k/\Q k H'):=by
 intro pins s σ H Q I h;exact isTrue_plain (bN (ha pins s σ H _ I h) λv s1 ⟨x,H1,I1,r1,q1⟩=>abP pins s1 σ H1 x v Q I1 r1 q1) (he _)
theorem eQ {x:V}(r:aG [x] us):∃u,us=[u]/\aE x u:=by
 cases r with
 |cons r1 r2=>cases r2;exact⟨_,rfl,r1⟩
theorem xp {x:V}(r:aG [x,y] us):∃u w',us=[u,w']/\aE x u/\aE y w':=by
 cases r with
 |cons r1 r2 =>
  cases r2 with
  |cons r3 r4=>cases r4;exact⟨_,_,rfl,r1,r3⟩
theorem kQ:cA X (.builtin "abs") (λxs H Q=>∃i,xs=[.int i]/\Q (.int (if i<0 then -i else i)) H):=by
 intro pins s σ H xs us Q I r h;obtain⟨i,rfl,q⟩:=h;obtain⟨u,rfl,t,rfl⟩:=eQ r;exact call_abs_int λu tk=>⟨.int (if i<0 then -i else i),H,I.tok _,⟨_,rfl⟩,q⟩
theorem abR (hc:X.calm=true):cA X (.builtin "max") (λxs H Q=>∃i j,xs=[.int i,.int j]/\Q (.int (if j>i then j else i)) H):=by
 intro pins s σ H xs us Q I r h;obtain⟨i,j,rfl,q⟩:=h;obtain⟨u,w',rfl,⟨t,rfl⟩,⟨t',rfl⟩⟩:=xp r;refine max_two_ints (I.ok.hd hc) λh' tk k=>⟨_,H,I.kept k,?_,q⟩
 by_cases hj:j>i
 ·rw[if_pos hj,if_pos hj];exact⟨_,rfl⟩
 ·rw[if_neg hj,if_neg hj];exact⟨_,rfl⟩
theorem aaX (hc:X.calm=true):cA X (.builtin "min") (λxs H Q=>∃i j,xs=[.int i,.int j]/\Q (.int (if j<i then j else i)) H):=by
 intro pins s σ H xs us Q I r h;obtain⟨i,j,rfl,q⟩:=h;obtain⟨u,w',rfl,⟨t,rfl⟩,⟨t',rfl⟩⟩:=xp r;refine min_two_ints (I.ok.hd hc) λh' tk k=>⟨_,H,I.kept k,?_,q⟩
 by_cases hj:j<i
 ·rw[if_pos hj,if_pos hj];exact⟨_,rfl⟩
 ·rw[if_neg hj,if_neg hj];exact⟨_,rfl⟩
theorem hV:cA X (.type "int") (λxs H Q=>(∃i,xs=[.int i]/\Q (.int i) H)\/∃k,xs=[.bl k]/\Q (.int (if k then 1 else 0)) H):=by
 intro pins s σ H xs us Q I r h
 rcases h with⟨i,rfl,q⟩|⟨k,rfl,q⟩
 ·obtain⟨u,rfl,t,rfl⟩:=eQ r;exact call_int_int ⟨.int i,H,I,⟨_,rfl⟩,q⟩
 ·obtain⟨u,rfl,r1⟩:=eQ r
  cases r1
  exact call_int_bool ⟨.int (if k then 1 else 0),H,I.tok _,⟨_,rfl⟩,q⟩
theorem abW:cA X (.type "bool") (λxs H Q=>(∃i,xs=[.int i]/\Q (.bl (i != 0)) H)\/∃k,xs=[.bl k]/\Q (.bl k) H):=by
 intro pins s σ H xs us Q I r h
 rcases h with⟨i,rfl,q⟩|⟨k,rfl,q⟩
 ·obtain⟨u,rfl,t,rfl⟩:=eQ r;exact call_bool_int ⟨.bl (i != 0),H,I,rfl,q⟩
 ·obtain⟨u,rfl,r1⟩:=eQ r
  cases r1
  exact call_bool_bool ⟨.bl k,H,I,rfl,q⟩
end
structure wQ (h:Heap)(x dx C:Addr)(mA:wg):Prop where
 obj:h.get? x=some (PySem.W.instObj C dx)
 ns:h.Ns1 dx mA
 ne:dx≠x
theorem lU {dx:Addr}{mA:wg}(n:h.Ns1 dx mA):∃od,h.get? dx=some od/\∀name,PySem.W.lookIn name od=some (mA name):=by
 obtain⟨o,es,ep,ho,hd,hk,_,hm⟩:=n;refine⟨o,ho,λname=>?_⟩;have e:=hm name;unfold nsFind findBy at e;rw[<-Array.find?_toList] at e;unfold PySem.W.lookIn;rw[hd];dsimp only
 split
 ·rename_i y q
  rw[q] at e;exact congrArg some e
 ·rename_i q
  rw[q] at e
  have a:es.toList.any (·.refKey)=false:=by
   rw[List.any_eq_false];intro y hy;obtain⟨z,t,RZ⟩:=hk y (Array.mem_toList_iff.mp hy);simp[DictEntry.refKey,RZ]
  have a':¬es.toList.any (·.refKey)=true:=by rw[a];exact Bool.false_ne_true
  rw[if_neg a'];exact congrArg some e
variable {C:Addr}
theorem wQ.look {x dx:Addr}{mA:wg}(I:wQ h x dx C mA):∃od,PySem.W.InstAt h x (PySem.W.instObj C dx) C (some od)/\∀name,PySem.W.lookIn name od=some (mA name):=
 let⟨od,ho,hl⟩:=lU I.ns
 ⟨od,⟨I.obj,rfl,rfl,ho⟩,hl⟩
variable {pl:Sem Bool}{kw:List (Str×Value)}
section
variable {prog:u6}{w:World}{A:Around}{E:vy}{s:AQ}{K:PySem.W.Frag}{x dx C f:Addr}{mA:wg}{name:Str}{v:Value}
theorem TGs {expr:Bool}{Q:vy}(X:K.In s.heap)(I:wQ s.heap x dx C mA)(hg:PySem.W.plainGet K C name=true)(hh:PySem.W.hasDictIn K C=true)
 (ha:PySem.W.findIn K (.ref C) name=some none)(hv:mA name=some v)(ZU:PySem.W.handedIn v=true)(h:Q v {s with toks:=s.toks+1}):
 wpAny (model prog w) A (getAttr (.ref x) name expr) Q E s:=by
 obtain⟨od,J,hl⟩:=I.look;exact PySem.W.get_value X J (PySem.W.plainGet_of hg).1 (PySem.W.findObj_own hh ha rfl (by rw[hl,hv])) ZU h
theorem abl {Q:Value×List Value->Shared->Prop}(X:K.In s.heap)(I:wQ s.heap x dx C mA)(hg:PySem.W.plainGet K C name=true)
 (hf:PySem.W.findIn K (.ref C) name=some (some (.ref f)))(ht:PySem.W.isFn K (.ref f)=true)(hv:mA name=none)(h:Q (.ref f,[.ref x]) s):
 wpAny (model prog w) A (getMethod (.ref x) name pl) Q E s:=by
 obtain⟨od,J,hl⟩:=I.look;exact PySem.W.method_fn X J (PySem.W.plainGet_of hg).1 (PySem.W.plainGet_of hg).2 hf (beq_iff_eq.mp ht) (by show(PySem.W.lookIn name od).map (·.isSome)=some false;rw[hl,hv];rfl) h
theorem aaL {ns:E4}{Q:Unit->Shared->Prop}(X:K.In s.heap)(I:wQ s.heap x dx C mA)
 (hs:PySem.W.findIn K (.ref C) "__setattr__"=some (some (.builtin "object.__setattr__")))(hp:PySem.W.plainOver K C=true)(ht:PySem.W.takerIn K C name=some none)(hh:PySem.W.hasDictIn K C=true)
 (hw:PySem.Within mA ns)(hsz:ns.length<=sizeLine)
 (h:∀h',wQ h' x dx C (λy=>if y=name then some v else mA y)->Heap.SameBut dx s.heap h'->Q () {s with heap:=h',toks:=s.toks+2}):
 wpAny (model prog w) A (setAttr (.ref x) name v) Q E s:=by
 obtain⟨od,J,hl⟩:=I.look;refine PySem.W.set_plain X J hs (PySem.W.osa_open (s:={s with toks:=s.toks+1}) (r:=none) X J hp ht λb=>?_);obtain⟨cd,hc,RT⟩:=PySem.W.any_some hh;have hx:s.heap.get? x=some ⟨.ref C,some dx,.plain,#[]⟩:=I.obj;refine wpAny_bind (wpAny_pure (wpAny_bind (wpAny_bind (wpAny_loadPart hx (wpAny_bind (PySem.W.Looks.here (s:={s with toks:=s.toks+1}) (PySem.W.looks_clsIn X hc) ?_))))));rw[RT];refine wpAny_pure (a:=some dx) (wpAny_bind (wpAny_pure (wpAny_bind ?_)));refine wpAny_nsSet1 (s:={s with toks:=s.toks+1}) I.ns λh' Q0 K5=>?_;obtain⟨oD,Xm,Xn,MV,MW,HQ⟩:=Q0.count (PySem.Within.cons name v hw);refine wpAny_bind (wpAny_lookBehind MV (by rw[MW];exact pastItsLine_dict (Nat.le_trans HQ (by rw[List.length_cons];omega))) ?_);exact wpAny_pure (h _ ⟨(K5.2 _ (Ne.symm I.ne)).trans I.obj,Q0,I.ne⟩ K5)
theorem abY {R:Result->Shared->Prop}{vs:nZ}(X:K.In s.heap)(hm:PySem.W.makesIn K C=true)
 (hi:PySem.W.findIn K (.ref C) "__init__"=some (some (.ref f)))(hf:PySem.W.typeIn K (.ref f)=some (.type "function"))
 (h:codeAny (model prog w) (A.under (.builtin "type.__call__" ⟨.ref C::vs,kw⟩)) (.call (.ref f) ⟨.ref (s.heap.objs.size+1):: vs,kw⟩) (PySem.W.InitBack (s.heap.objs.size+1) R)
  {s with heap:=(s.heap.push PySem.W.emptyDict).push (PySem.W.instObj C s.heap.objs.size)}):
 codeAny (model prog w) A (.call (.ref C) ⟨vs,kw⟩) R s:=by
 obtain⟨hh,g,d,t,os⟩:=s;exact PySem.W.make_core (PySem.W.makes_of X hm) (PySem.W.looks_findIn X hi) (λself=>PySem.W.bind_fn X self hf) (.inl rfl) h
end
def bt (f:Str)(v:V):List (Str×V)->List (Str×V)
 |[]=>[(f,v)]
 |(g,x):: r=>if g=f then(g,v):: r else(g,x):: bt f v r
theorem gB (f g:Str)(v:V):∀fs:List (Str×V),(bt f v fs).lookup g=if g=f then some v else fs.lookup g
 |[]=>by
  show List.lookup g [(f,v)]=_
  by_cases h:g=f
  ·have hb:(g==f)=true:=beq_iff_eq.mpr h;simp only[List.lookup,hb,if_pos h]
  ·have hb:(g==f)=false:=beq_eq_false_iff_ne.mpr h;simp only[List.lookup,hb,if_neg h]
 |(k,x):: r=>by
  have ih:=gB f g v r;rw[show bt f v ((k,x):: r)=(if k=f then(k,v):: r else(k,x):: bt f v r) from rfl]
  by_cases hk:k=f
  ·rw[if_pos hk]
   by_cases h:g=k
   ·have hb:(g==k)=true:=beq_iff_eq.mpr h;simp only[List.lookup,hb,if_pos (h.trans hk)]
   ·have hb:(g==k)=false:=beq_eq_false_iff_ne.mpr h;simp only[List.lookup,hb,if_neg (λe:g=f=>h (e.trans hk.symm))]
  ·rw[if_neg hk]
   by_cases h:g=k
   ·have hb:(g==k)=true:=beq_iff_eq.mpr h;simp only[List.lookup,hb,if_neg (λe:g=f=>hk (h.symm.trans e))]
   ·have hb:(g==k)=false:=beq_eq_false_iff_ne.mpr h;simp only[List.lookup,hb];exact ih
theorem fL (f:Str)(v:V):∀fs:List (Str×V),f∈(bt f v fs).map (·.1)/\∀g,g∈fs.map (·.1)->g∈(bt f v fs).map (·.1)
 |[]=>⟨by simp[bt],λg h=>by simp at h⟩
 |(k,x):: r=>by
  obtain⟨i1,i2⟩:=fL f v r;rw[show bt f v ((k,x):: r)=(if k=f then(k,v):: r else(k,x):: bt f v r) from rfl]
  by_cases hk:k=f
  ·rw[if_pos hk];subst hk;exact⟨by simp,λg h=>by simpa using h⟩
  ·rw[if_neg hk];refine⟨?_,λg h=>?_⟩
   ·rw[List.map_cons];exact List.mem_cons_of_mem _ i1
   ·rw[List.map_cons] at h |-
    rcases List.mem_cons.mp h with e|e
    ·exact List.mem_cons.mpr (.inl e)
    ·exact List.mem_cons_of_mem _ (i2 g e)
theorem jw (f:Str)(v:V):∀fs:List (Str×V),(bt f v fs).length<=fs.length+1
 |[]=>by simp[bt]
 |(k,x):: r=>by
  have ih:=jw f v r;rw[show bt f v ((k,x):: r)=(if k=f then(k,v):: r else(k,x):: bt f v r) from rfl]
  by_cases hk:k=f
  ·rw[if_pos hk,List.length_cons,List.length_cons];omega
  ·rw[if_neg hk,List.length_cons,List.length_cons];omega
theorem eK.some_of {v:V}{o:uh}(r:eK (some v) o):∃u,o=some u/\aE v u:=by
 cases o with
 |none=>exact(show False from r).elim
 |some u=>exact⟨u,rfl,r⟩
theorem eK.none_of {o:uh}(r:eK none o):o=none:=by
 cases o with
 |none=>rfl
 |some u=>exact(show False from r).elim
theorem mD (r:aE v u):PySem.W.handedIn u=true:=by
 cases v with
 |non=>cases(show u=Value.none from r);rfl
 |bl b=>cases(show u=Value.bool b from r);rfl
 |int i=>obtain⟨t,e⟩:=(show ∃t,u=Value.int i t from r);cases e;rfl
 |str x=>obtain⟨t,e⟩:=(show ∃t,u=Value.str x t from r);cases e;rfl
 |byt b=>obtain⟨t,e⟩:=(show ∃t,u=Value.bytes b t from r);cases e;rfl
 |flt b=>obtain⟨t,e⟩:=(show ∃t,u=Value.float b t from r);cases e;rfl
 |ref a=>cases(show u=Value.ref a from r);rfl
 |ty n=>cases(show u=Value.type n from r);rfl
section
variable {P:u6}{w:World}{H H':Hp}{h h':Heap}{a C dx:Addr}{fs ZR:List (Str×V)}
theorem dO (hok:gu P w H h)(e:H a=some (.ins C dx fs)):∃mA,wQ h a dx C mA/\(∀f,eK (fs.lookup f) (mA f))/\PySem.Within mA (fs.map (·.1))/\fs.length<=1000/\H dx=some (.own a):=by
 obtain⟨d,z,ne,ob,mA,n,r,q⟩:=(show bc P w H h a (.ins C dx fs) from hok a _ e);exact⟨mA,⟨ob,n,ne⟩,r,q,z,d⟩
end
structure uF (K:PySem.W.Frag)(C:Addr):Prop where
 pg:PySem.W.plainGet K C Str.empty=true
 hd:PySem.W.hasDictIn K C=true
 po:PySem.W.plainOver K C=true
 sa:PySem.W.findIn K (.ref C) "__setattr__"=some (some (.builtin "object.__setattr__"))
theorem uF.get (c:uF K C)(f:Str):PySem.W.plainGet K C f=true:=c.pg
def bz (K:PySem.W.Frag)(C:Addr)(f:Str):Prop:=PySem.W.findIn K (.ref C) f=some none
theorem bz.ab7 {f:Str}(n:bz K C f):PySem.W.takerIn K C f=some none:=by
 unfold PySem.W.takerIn;rw[show PySem.W.findIn K (.ref C) f=some none from n];rfl
structure Meth (K:PySem.W.Frag)(C:Addr)(m:Str)(f:Addr):Prop where
 at_:PySem.W.findIn K (.ref C) m=some (some (.ref f))
 fn:PySem.W.isFn K (.ref f)=true
 kp:PySem.W.keepIn K (.ref f)=true
section
variable {X:Cx}{pins:List (Addr×Obj)}{σ:St}{H:Hp}{s:AQ}{a C dx:Addr}{fs:List (Str×V)}{f:Str}{v:V}{A:Around}{E:vy}
theorem ab2 {b:Bool}{Q:vy}(I:Inv X pins σ H s)(e:H a=some (.ins C dx fs))(c:uF X.K C)(n:bz X.K C f)(l:fs.lookup f=some v)
 (h:∀u s',Inv X pins σ H s'->aE v u->Q u s'):wpAny (model X.prog X.w) A (getAttr (.ref a) f b) Q E s:=by
 obtain⟨mA,O,r,_,_,_⟩:=dO I.hok e;obtain⟨u,hu,ru⟩:=eK.some_of (v:=v) (o:=mA f) (by rw[<-l];exact r f);exact TGs I.kIn O (c.get f) c.hd n hu (mD ru) (h u _ (I.tok _) ru)
theorem eJ {m:Str}{g:Addr}{Q:Value×List Value->Shared->Prop}(I:Inv X pins σ H s)(e:H a=some (.ins C dx fs))(c:uF X.K C)(k:Meth X.K C m g)(l:fs.lookup m=none)
 (h:Q (.ref g,[.ref a]) s):wpAny (model X.prog X.w) A (getMethod (.ref a) m pl) Q E s:=by
 obtain⟨mA,O,r,_,_,_⟩:=dO I.hok e;have hn:mA m=none:=eK.none_of (by rw[<-l];exact r m);exact abl I.kIn O (c.get m) k.at_ k.fn hn h
theorem ab3 {Q:Unit->Shared->Prop}(I:Inv X pins σ H s)(e:H a=some (.ins C dx fs))(c:uF X.K C)(n:bz X.K C f)(hl:fs.length<1000)(ry:aE y u)
 (h:∀s',Inv X pins σ (upd H a (.ins C dx (bt f y fs))) s'->Q () s'):wpAny (model X.prog X.w) A (setAttr (.ref a) f u) Q E s:=by
 obtain⟨mA,O,r,wi,_,ho⟩:=dO I.hok e
 have hz:(fs.map (·.1)).length<=sizeLine:=by rw[List.length_map,sizeLine_eq];omega
 refine aaL I.kIn O c.sa c.po n.ab7 c.hd wi hz λh' O' sb=>h _ ?_;have hd:∃o,h'.get? dx=some o:=let⟨o,_,_,e',_⟩:=O'.ns;⟨o,e'⟩;refine I.write (x:=a) (e:=dx) (by rw[e];exact True.intro) (.inr ho) (λb q hb z=>(sb.2 b hb).trans z) hd ?_;refine⟨by rw[ai O.ne];exact ho,?_,O.ne,O'.obj,_,O'.ns,λg=>?_,λg hg=>?_⟩
 ·have:=jw f y fs;omega
 ·show eK ((bt f y fs).lookup g) (if g=f then some u else mA g);rw[gB]
  by_cases q:g=f
  ·rw[if_pos q,if_pos q];exact ry
  ·rw[if_neg q,if_neg q];exact r g
 ·by_cases q:g=f
  ·rw[q];exact(fL f y fs).1
  ·refine(fL f y fs).2 g (wi g λz=>hg ?_);show(if g=f then some u else mA g)=none;rw[if_neg q];exact z
theorem Inv.made (I:Inv X pins σ H s):Inv X pins σ (upd (upd H s.heap.objs.size (.own (s.heap.objs.size+1))) (s.heap.objs.size+1) (.ins C s.heap.objs.size []))
 {s with heap:=(s.heap.push PySem.W.emptyDict).push (PySem.W.instObj C s.heap.objs.size)}:=by
 have e1:(s.heap.push PySem.W.emptyDict).get? s.heap.objs.size=some PySem.W.emptyDict:=Heap.get?_push_size s.heap rfl
 have e2:((s.heap.push PySem.W.emptyDict).push (PySem.W.instObj C s.heap.objs.size)).get? (s.heap.objs.size+1)=some (PySem.W.instObj C s.heap.objs.size):=by
  have:=Heap.get?_push_size (s.heap.push PySem.W.emptyDict) (o:=PySem.W.instObj C s.heap.objs.size) rfl;rwa[Heap.size_push] at this
 have e3:(s.heap.push PySem.W.emptyDict).Ns s.heap.objs.size (λ_=>none):=⟨PySem.W.emptyDict,#[],_,e1,rfl,(λe he=>absurd he (by simp)),λ_=>rfl⟩;have I1:=I.laid (a:=s.heap.objs.size) (o:=.own (s.heap.objs.size+1)) (h':=s.heap.push PySem.W.emptyDict) (t':=s.toks) (λb u q=>Heap.get?_push_of_some _ q) (Nat.le_refl _) ⟨_,e1⟩;refine I1.laid (a:=s.heap.objs.size+1) (o:=.ins C s.heap.objs.size []) (t':=s.toks) (λb u q=>Heap.get?_push_of_some _ q) (Nat.le_of_eq (Heap.size_push _ _)) ?_;have ne:s.heap.objs.size≠s.heap.objs.size+1:=Nat.ne_of_lt (Nat.lt_succ_self _);refine⟨by rw[ai ne,af],Nat.zero_le _,ne,e2,λ_=>none,(Heap.Ns1.of_empty e3).at λo q=>Heap.get?_push_of_some _ q,λ_=>True.intro,λy hy=>absurd rfl hy⟩
theorem sm {prog:u6}{env:Env}{f:Str}{s:AQ}{Q:vy}(hb:attributeBase e f env (eval e env)=eval e env)
 (h:wpAny (model prog w) A (eval e env) (λo s₁=>wpAny (model prog w) A (getAttr o f true) Q E s₁) E s):wpAny (model prog w) A (eval (.Attribute e f pos) env) Q E s :=
 Attribute_any_ h (by rw[arm_eval_Attribute,hb])
end
def Sig (K:PySem.W.Frag)(ta:TE)(f:Str):TE:=λσ H Q=>ta σ H λx H1=>∃a C dx fs v,x=.ref a/\H1 a=some (.ins C dx fs)/\uF K C/\bz K C f/\fs.lookup f=some v/\Q v H1
def aax (K:PySem.W.Frag)(ta tv:TE)(f:Str):TS:=λD σ H=>tv σ H λy H1=>ta σ H1 λx H2=>∃a C dx fs,x=.ref a/\H2 a=some (.ins C dx fs)/\uF K C/\bz K C f/\fs.length<1000 /\
 D.nx σ (upd H2 a (.ins C dx (bt f y fs)))
section
variable {X:Cx}{o e value:Expr}{f:Str}{pos pos' R0:Pos}{ta tv:TE}
theorem aW (he:PE X e ta)(hb:attributeBase e f X.env (eval e X.env)=eval e X.env):PE X (.Attribute e f pos) (Sig X.K ta f):=by
 intro pins s σ H Q I h;refine sm hb (bN (he pins s σ H _ I h) λu s1 z'=>?_);obtain⟨x,H1,I1,rx,a,C,dx,fs,v,ex,ea,c,n,l,q⟩:=z';subst ex;obtain rfl:u=Value.ref a:=rx;exact ab2 I1 ea c n l λu' s2 I2 ru=>⟨v,H1,I2,ru,q⟩
theorem cM (ha:PE X o ta)(hv:PE X value tv)(hs:swapsWith value (some (.Attribute o f pos')) pos.line X.env=pure false):PS X (.Assign [.Attribute o f pos'] value pos) (aax X.K ta tv f):=by
 intro pins s σ H D I h;refine plainObj_wpAny_Assign_Attribute (bN (hv pins s σ H _ I h) λu s1 ⟨y,H1,I1,ry,q⟩=>bN (ha pins s1 σ H1 _ I1 q) λov s2 z'=>?_) hs;obtain⟨x,H2,I2,rx,a,C,dx,fs,ex,ea,c,n,l,q2⟩:=z';subst ex;obtain rfl:ov=Value.ref a:=rx;exact ab3 I2 ea c n l ry λs3 I3=>⟨σ,_,I3,q2⟩
end
section
variable {X:Cx}{pins:List (Addr×Obj)}{σ:St}{H:Hp}{s:AQ}{A:Around}{E:vy}{Q:vy}{c:Value}{b:Bool}
inductive qL (K:PySem.W.Frag)(H:Hp):V->Value->Prop where
 |non:qL K H .non (.type "NoneType")
 |bl (x:Bool):qL K H (.bl x) (.type "bool")
 |int (i:Int):qL K H (.int i) (.type "int")
 |str (x:Str):qL K H (.str x) (.type "str")
 |flt (x:UInt64):qL K H (.flt x) (.type "float")
 |lst {a:Addr}{xs:List V}(e:H a=some (.lst xs)):qL K H (.ref a) (.type "list")
 |frz {a:Addr}{o:Obj}{xs:List V}(e:H a=some (.frz o (.lst xs))):qL K H (.ref a) (.type "list")
 |tup {a:Addr}{xs:List V}(e:H a=some (.tup xs)):qL K H (.ref a) (.type "tuple")
 |dK {a:Addr}{Fe:List (Key×V)}(e:H a=some (.dK Fe)):qL K H (.ref a) (.type "dict")
 |dT {a:Addr}{Fe:List (List Key×V)}(e:H a=some (.dT Fe)):qL K H (.ref a) (.type "dict")
 |ins {a C dx:Addr}{fs:List (Str×V)}(e:H a=some (.ins C dx fs))(cl:uF K C)(ha:PySem.W.findIn K (.ref C) "__class__"=some (some (.builtin "object.__class__")))
  (hn:PySem.W.specialIn K (.builtin "object.__class__") "__get__"=some (some (.builtin "getset_descriptor.__get__")))(R8:PySem.W.takesIn K (.builtin "object.__class__")=some true)
  (hm:PySem.W.mroIn K C (.type "object")=some true):qL K H (.ref a) (.ref C)
theorem ab4 {x:V}{t:Value}(I:Inv X pins σ H s)(rx:aE x u)(ty:qL X.K H x t)(e:PySem.W.kitOne X.K t c=some b)(h:∀tk,Q (.bool b) {s with toks:=tk}):
 wpAny (model X.prog X.w) A (call (.builtin "isinstance") [u,c]) Q E s:=by
 cases ty with
 |non=>cases(show u=Value.none from rx);exact PySem.W.kia_one PySem.W.kitx_none I.kIn True.intro e (λz=>nomatch z) h
 |bl y=>cases(show u=Value.bool y from rx);exact PySem.W.kia_one PySem.W.kitx_bool I.kIn True.intro e (λz=>nomatch z) h
 |int i=>obtain⟨t,q⟩:=(show ∃t,u=Value.int i t from rx);cases q;exact PySem.W.kia_one PySem.W.kitx_int I.kIn True.intro e (λz=>nomatch z) h
 |str y=>obtain⟨t,q⟩:=(show ∃t,u=Value.str y t from rx);cases q;exact PySem.W.kia_one PySem.W.kitx_str I.kIn True.intro e (λz=>nomatch z) h
 |flt y=>obtain⟨t,q⟩:=(show ∃t,u=Value.float y t from rx);cases q;exact PySem.W.kia_one PySem.W.kitx_float I.kIn True.intro e (λz=>nomatch z) h
 |@lst a xs ea =>
  cases(show u=Value.ref a from rx)
  obtain⟨_,_,n,_,h1⟩:=(show bc X.prog X.w H s.heap a (.lst xs) from I.hok a _ ea);exact PySem.W.kia_one PySem.W.kitx_list I.kIn ⟨_,h1,rfl⟩ e (λz=>nomatch z) h
 |@frz a ob xs ea =>
  cases(show u=Value.ref a from rx)
  obtain⟨_,_,_,n,_,h1⟩:=(show bc X.prog X.w H s.heap a (.frz ob (.lst xs)) from I.hok a _ ea);exact PySem.W.kia_one PySem.W.kitx_list I.kIn ⟨_,h1,rfl⟩ e (λz=>nomatch z) h
 |@tup a xs ea =>
  cases(show u=Value.ref a from rx)
  obtain⟨_,_,_,p⟩:=(show bc X.prog X.w H s.heap a (.tup xs) from I.hok a _ ea);obtain⟨o,h1,h2,_⟩:=p;exact PySem.W.kia_one PySem.W.kitx_tuple I.kIn ⟨o,h1,h2⟩ e (λz=>nomatch z) h
 |@dK a Fe ea =>
  cases(show u=Value.ref a from rx)
  obtain⟨_,_,vs,_,p⟩:=(show bc X.prog X.w H s.heap a (.dK Fe) from I.hok a _ ea);obtain⟨o,es,ep,h1,h2,_⟩:=p;exact PySem.W.kia_one PySem.W.kitx_dict I.kIn ⟨o,h1,h2.1⟩ e (λz=>nomatch z) h
 |@dT a Fe ea =>
  cases(show u=Value.ref a from rx)
  obtain⟨_,_,xs,_,o,es,ep,h1,h2,_⟩:=(show bc X.prog X.w H s.heap a (.dT Fe) from I.hok a _ ea);exact PySem.W.kia_one PySem.W.kitx_dict I.kIn ⟨o,h1,h2.1⟩ e (λz=>nomatch z) h
 |@ins a C dx fs ea cl ha hn R8 hm =>
  cases(show u=Value.ref a from rx)
  obtain⟨mA,O,_⟩:=dO I.hok ea;obtain⟨od,J,_⟩:=O.look;exact PySem.W.kia_one (PySem.W.kitx_own (cl.get _) cl.hd ha hn R8 hm) I.kIn J e (λz=>nomatch z) h
end
structure oJ (k:Nat)(A:Around):Prop where
 hd:A.handled=none
 dp:A.depth+3*k+5<recursionLimit
 un:A.units+16*k+200<cLine
 gd:A.guards=some []
theorem oJ.mono {j:Nat}(r:oJ k A)(h:j<=k):oJ j A:=⟨r.hd,by have:=r.dp;omega,by have:=r.un;omega,r.gd⟩
theorem oJ.deeper (r:oJ (k+1) A)(env:Env):oJ k (A.deeper env):=
 ⟨r.hd,by have:=r.dp;show A.depth+1+3*k+5<_;omega,by have:=r.un;show A.units+3+16*k+200<_;omega,r.gd⟩
theorem oJ.in1 (r:oJ (k+1) A):oJ k A.in1 :=
 ⟨r.hd,by have:=r.dp;show A.depth+3*k+5<_;omega,by have:=r.un;show A.units+1+16*k+200<_;omega,r.gd⟩
theorem ab5 :(A.under (.builtin "type.__call__" ⟨.ref C::us,kw⟩)).depth=A.depth+1:=by
 first|rfl|simp[Around.under,Code.weight,Code.isCreation,Code.isGuard,Code.isCaller,Code.frames,Code.isFrame,guardIds]
theorem acd :(A.under (.builtin "type.__call__" ⟨.ref C::us,kw⟩)).guards=A.guards:=by
 first|rfl|simp[Around.under,Code.guards,Code.isGuard,guardIds,pushGuards]
theorem acm :(A.under (.builtin "type.__call__" ⟨.ref C::us,kw⟩)).units=A.units+1:=by
 first|rfl|simp[Around.under,Code.cUnits,Code.frames,Code.isFrame]
theorem oJ.make (r:oJ (k+1) A)(C:Addr)(us:nZ)(kw:List (Str×Value)):oJ k (A.under (.builtin "type.__call__" ⟨.ref C::us,kw⟩)):=
 ⟨r.hd,by have:=r.dp;rw[ab5];omega,by have:=r.un;rw[acm];omega,by rw[acd];exact r.gd⟩
theorem oJ.depth (r:oJ k A):A.depth<recursionLimit:=by have:=r.dp;omega
theorem oJ.units (r:oJ k A):A.units+64<cLine:=by have:=r.un;omega
theorem oJ.aaU (r:oJ k A):A.units<cLine:=by have:=r.un;omega
def D6:TA:=λ_ H Q=>Q [] H
def bg (ta:TE)(tr:TA):TA:=λσ H Q=>ta σ H λx H1=>tr σ H1 λxs H2=>Q (x::xs) H2
section
variable {X:Cx}{e:Expr}{es:Aw}{te:TE}{t:TA}{pos:Pos}
theorem ag:PA X [] D6:=λ_ _ _ _ H Q I h=>Calls.spliced_nil ⟨[],H,I,.nil,h⟩
theorem dQ (ha:PE X e te)(hr:PA X es t)(hs:starEach (e::es) X.env=(false,eval e X.env):: starEach es X.env:=by rfl):PA X (e::es) (bg te t):=by
 intro pos pins s σ H Q I h;rw[hs];show wpAny _ _ (spliced ((false,eval e X.env):: backTo pos (starEach es X.env))) _ _ s;refine Calls.spliced_cons (bN (ha pins s σ H _ I h) λu s1 z'=>?_);obtain⟨x,H1,I1,r1,q1⟩:=z';exact bN (hr pos pins s1 σ H1 _ I1 q1) λus s2 ⟨xs,H2,I2,r2,q2⟩=>⟨x::xs,H2,I2,.cons r1 r2,q2⟩
def Co (t:TA):TE:=λσ H Q=>t σ H λxs H1=>xs.length<=sizeLine/\∀p,H1 p=none->Q (.ref p) (upd H1 p (.tup xs))
def C5 (t:TA):TE:=λσ H Q=>t σ H λxs H1=>xs.length<=sizeLine/\∀p,H1 p=none->Q (.ref p) (upd H1 p (.lst xs))
theorem bX {x1}(h:PA X es t):PE X (.Tuple es x1 pos) (Co t):=by
 intro pins s σ H Q I hq;refine wpAny_Tuple_spliced (bN (h pos pins s σ H _ I hq) λus s1 ⟨xs,H1,I1,r,z,q⟩=>⟨by rw[<-r.length];exact z,?_⟩);have hf:H1 s1.heap.objs.size=none:=I1.hok.fresh (Nat.le_refl _);refine⟨.ref s1.heap.objs.size,upd H1 s1.heap.objs.size (.tup xs),I1.laid (t':=s1.toks) (λb u e=>Heap.get?_push_of_some _ e) (Nat.le_refl _) ?_,rfl,q _ hf⟩;exact⟨z,us,r,⟨_,Heap.get?_push_size _ rfl,rfl,_,rfl⟩⟩
theorem bY (h:PA X es t):PE X (.List es pos) (C5 t):=by
 intro pins s σ H Q I hq;refine wpAny_List_spliced (bN (h pos pins s σ H _ I hq) λus s1 ⟨xs,H1,I1,r,z,q⟩=>⟨by rw[<-r.length];exact z,?_⟩);have hf:H1 s1.heap.objs.size=none:=I1.hok.fresh (Nat.le_refl _);refine⟨.ref s1.heap.objs.size,upd H1 s1.heap.objs.size (.lst xs),I1.laid (t':=s1.toks) (λb u e=>Heap.get?_push_of_some _ e) (Nat.le_refl _) ?_,rfl,q _ hf⟩;exact⟨z,us,0,r,Heap.get?_push_size _ rfl⟩
end
abbrev Sp:=List V->Hp->VK->XK->Prop
abbrev wC:=List Env->Hp->Shared->XK->Value->Shared->Prop
structure Ce (P:u6)(w:World)(K:PySem.W.Frag)(mg:wg)(base:Heap)(A:Around)(outer:List Env)(s:AQ)(H:Hp):Prop where
 frames:A.frames=some outer
 mod:Mod K mg base
 bs:∀b o,base.get? b=some o->s.heap.get? b=some o/\H b=none
 bsz:base.objs.size<=s.heap.objs.size
 aau:s.heap.FunFrames base outer
 frf:∀b∈dW outer,H b=none
 hok:gu P w H s.heap
 bare:AllBare s.gens
def CE (outer:List Env)(P:u6)(w:World)(H:Hp)(s:AQ)(Q:VK)(u:Value)(s':AQ):Prop :=
 ∃v H',s'.os=s.os/\AllBare s'.gens/\Un (dW outer) [] H H' s.heap s'.heap/\gu P w H' s'.heap/\aE v u/\Q v H'
def acn (CX:wC)(outer:List Env)(P:u6)(w:World)(H:Hp)(s:AQ)(Q:VK)(E:XK)(r:Result)(s':AQ):Prop :=
 match r with
 | .ok (.ret u)=>CE outer P w H s Q u s'
 | .ok _=>False
 | .error e=>CX outer H s E e s'
structure E6 (P:u6)(w:World)(K:PySem.W.Frag)(mg:wg)(base:Heap)(CX:wC)(k:Nat)(f:Addr)(fd:xR)(ps:E4)(sp:Sp):Prop where
 len:∀vs H Q E,sp vs H Q E->vs.length=ps.length
 run:∀(A:Around)(outer:List Env)(s:AQ)(H:Hp)(args:Args)(us:nZ)(vs:List V)(Q:VK)(E:XK),oJ k A->Ce P w K mg base A outer s H->BindsTo s fd args (ps.zip us)->aG vs us->sp vs H Q E →
  codeAny (model P w) A (.call (.ref f) args) (acn CX outer P w H s Q E) s
variable {mg:wg}{base:Heap}{outer:List Env}
theorem Ce.make (e:Ce P w K mg base A outer s H)(C:Addr)(us:nZ)(kw:List (Str×Value)):
 Ce P w K mg base (A.under (.builtin "type.__call__" ⟨.ref C::us,kw⟩)) outer s H:=⟨by first|exact e.frames|(simpa[Around.under,Code.envs,Code.isFrame,pushEnvs] using e.frames),e.mod,e.bs,e.bsz,e.aau,e.frf,e.hok,e.bare⟩
theorem Ce.in1 (e:Ce P w K mg base A outer s H):
 Ce P w K mg base A.in1 outer s H:=⟨e.frames,e.mod,e.bs,e.bsz,e.aau,e.frf,e.hok,e.bare⟩
section
variable {X:Cx}{pins:List (Addr×Obj)}{σ:St}{H:Hp}{s s':AQ}
theorem Inv.abm (I:Inv X pins σ H s):Ce X.prog X.w X.K X.mg X.base X.A X.stack s H :=
 ⟨I.ok.frames,I.ok.mod,I.bs,Nat.le_trans I.ok.bsz I.sz,I.stack,I.aaE,I.hok,I.bare⟩
theorem Inv.after (I:Inv X pins σ H s)(h:CE X.stack X.prog X.w H s Q u s'):EP X pins σ Q u s':=by
 obtain⟨v,H',os,bare,un,hok,r,q⟩:=h;obtain⟨hh,g,d,t,ZV⟩:=s';obtain rfl:ZV=s.os:=os;exact⟨v,H',I.call (h':=hh) (g':=g) (d':=d) (t':=t) (ch:=[]) un hok bare (λb z=>absurd z (by simp)),r,q⟩
end
def mw (sp:Sp)(dvs:List V)(E:XK)(t:TA):TE:=λσ H Q=>t σ H λvs H1=>sp (vs++dvs) H1 Q E
def xF (C:Addr)(m:Str)(sp:Sp)(dvs:List V)(E:XK)(ta:TE)(t:TA):TE:=λσ H Q=>ta σ H λx H1=>∃a dx fs,x=.ref a/\H1 a=some (.ins C dx fs)/\fs.lookup m=none /\
 t σ H1 λvs H2=>sp (x::(vs++dvs)) H2 Q E
def zC (C:Addr)(sp:Sp)(dvs:List V)(E:XK)(t:TA):TE:=λσ H Q=>t σ H λvs H1=>∀x dx,H1 x=none->H1 dx=none->dx≠x →
 sp (.ref x::(vs++dvs)) (upd (upd H1 dx (.own x)) x (.ins C dx [])) (λv H2=>v=.non/\Q (.ref x) H2) E
def av (K:PySem.W.Frag)(fd:xR)(ps:E4)(ds:nZ):Prop :=
 ∀(s:AQ)(us:nZ),K.In s.heap->(us++ds).length=ps.length->BindsTo s fd ⟨us,[]⟩ (ps.zip (us++ds))
variable {ps:E4}
theorem av.all {fd:xR}(h:∀us:List Value,us.length=ps.length->bindArgs fd ⟨us,[]⟩=pure (ps.zip us)):av K fd ps []:=λs us _ hl=>by
 rw[List.append_nil] at hl |-;exact .of_eq (h us hl)
def cx (CX:wC)(X:Cx)(E:XK):Prop:=∀(pins:List (Addr×Obj))(σ:St)(H:Hp)(s:AQ)(e:Value)(s':AQ),Inv X pins σ H s->CX X.stack H s E e s'->X.xe e s'
section
variable {X:Cx}{CX:wC}{k:Nat}{f C:Addr}{fd:xR}{ps:E4}{sp:Sp}{dvs:List V}{ds:nZ}{E:XK}{x m:Str}{p pos apos:Pos}{e o:Expr}{es:Aw}{ta:TE}{t:TA}
theorem nj {us:nZ}{vs:List V}(F:E6 X.prog X.w X.K X.mg X.base CX k f fd ps sp)(hr:oJ k X.A)(hb:av X.K fd ps ds)(hd:aG dvs ds)(hx:cx CX X E)
 (I:Inv X pins σ H s)(r:aG vs us)(h:sp (vs++dvs) H Q E):wpAny (model X.prog X.w) X.A (call (.ref f) us) (EP X pins σ Q) X.xe s:=by
 have r2:aG (vs++dvs) (us++ds):=r.append hd
 have hl:(us++ds).length=ps.length:=by rw[<-r2.length];exact F.len _ _ _ _ h
 refine wpAny_call (codeAny_mono (F.run X.A X.stack s H ⟨us,[]⟩ (us++ds) (vs++dvs) Q E hr I.abm (hb s us I.kIn hl) r2 h) λr s' hq=>?_)
 cases r with
 |error e=>exact hx pins σ H s e s' I hq
 |ok fl =>
  cases fl with
  |ret u=>exact I.after hq
  |next=>exact False.elim hq
  |brk=>exact False.elim hq
  |cont=>exact False.elim hq
theorem ax (F:E6 X.prog X.w X.K X.mg X.base CX k f fd ps sp)(hr:oJ k X.A)(hg:Gl X x)(hm:X.mg x=some (.ref f))(hk:PySem.W.keepIn X.K (.ref f)=true)(hb:av X.K fd ps ds)(hd:aG dvs ds)(hx:cx CX X E)
 (ha:PA X (e::es) t)(Im:(x==("__debug__":Str))=false:=by decide)(he:starEach (e::es) X.env=(false,eval e X.env):: starEach es X.env:=by rfl)(FZ:(backTo pos (starEach es X.env)).any (·.1)=false:=by rfl):
 PE X (.Call (.Name x p) (e::es) [] pos) (mw sp dvs E t):=by
 intro pins s σ H Q I h;refine wpAny_Call_Name_kw (eV I hg hm ?_ Im);refine PySem.W.callWith_K (h₀:=X.base) I.ok.mod.kin hk (bN (ha pos pins s σ H _ I h) λus s1 ⟨vs,H1,I1,r,q⟩=>⟨I1.kIn,?_⟩) he FZ;exact nj F hr hb hd hx I1 r q
theorem fZ (he:PE X o ta)(c:uF X.K C)(hm:Meth X.K C m f)(F:E6 X.prog X.w X.K X.mg X.base CX k f fd ps sp)(hr:oJ k X.A)(hb:av X.K fd ps ds)(hd:aG dvs ds)(hx:cx CX X E)(ha:PA X (e::es) t)
 (Gx:starEach (e::es) X.env=(false,eval e X.env):: starEach es X.env:=by rfl)(FZ:(backTo pos (starEach es X.env)).any (·.1)=false:=by rfl)
 (ht:eval (.Call (.Attribute o m apos) (e::es) [] pos) X.env=(do
  let ov <-eval o X.env
  standAt apos.atName
  let(f,first) <-holding [ov] (getMethod ov m pl)
  callWith pos f first (backTo pos (starEach (e::es) X.env)) (backToKw pos (keywordEach [] X.env))):=by rfl):
 PE X (.Call (.Attribute o m apos) (e::es) [] pos) (xF C m sp dvs E ta t):=by
 intro pins s σ H Q I h;refine PySem.W.methodCall_KW (pl:=pl) (bN (he pins s σ H _ I h) λu s1 z'=>?_) ht;obtain⟨x,H1,I1,rx,a,dx,fs,ex,ea,l,q⟩:=z';subst ex;obtain rfl:u=Value.ref a:=rx;refine eJ I1 ea c hm l ?_;refine PySem.W.callWith_K (first:=[.ref a]) (h₀:=X.base) I.ok.mod.kin hm.kp (bN (ha pos pins s1 σ H1 _ I1 q) λus s2 ⟨vs,H2,I2,r,q2⟩=>⟨I2.kIn,?_⟩) Gx FZ;exact nj (us:=.ref a::us) (vs:=.ref a::vs) F hr hb hd hx I2 (.cons rfl r) q2
theorem aX (he:PE X o ta)(c:uF X.K C)(hm:Meth X.K C m f)(F:E6 X.prog X.w X.K X.mg X.base CX k f fd ps sp)(hr:oJ k X.A)(hb:av X.K fd ps ds)(hd:aG dvs ds)(hx:cx CX X E)
 (ht:eval (.Call (.Attribute o m apos) [] [] pos) X.env=(do
  let ov <-eval o X.env
  standAt apos.atName
  let(f,first) <-holding [ov] (getMethod ov m pl)
  callWith pos f first (backTo pos (starEach [] X.env)) (backToKw pos (keywordEach [] X.env))):=by rfl):
 PE X (.Call (.Attribute o m apos) [] [] pos) (xF C m sp dvs E ta D6):=by
 intro pins s σ H Q I h;refine PySem.W.methodCall_KW (pl:=pl) (bN (he pins s σ H _ I h) λu s1 z'=>?_) ht;obtain⟨x,H1,I1,rx,a,dx,fs,ex,ea,l,q⟩:=z';subst ex;obtain rfl:u=Value.ref a:=rx;refine eJ I1 ea c hm l ?_;exact PySem.W.callWith_K0 (first:=[.ref a]) I1.kIn hm.kp (nj (us:=[.ref a]) (vs:=[.ref a]) F hr hb hd hx I1 (.cons rfl .nil) q)
structure Mk (K:PySem.W.Frag)(C f:Addr):Prop where
 makes:PySem.W.makesIn K C=true
 init:PySem.W.findIn K (.ref C) "__init__"=some (some (.ref f))
 fn:PySem.W.isFn K (.ref f)=true
 kp:PySem.W.keepIn K (.ref C)=true
theorem acu {vs:List V}(M:Mk X.K C f)(F:E6 X.prog X.w X.K X.mg X.base CX k f fd ps sp)(hr:oJ (k+1) X.A)(hb:av X.K fd ps ds)(hd:aG dvs ds)
 (hx:cx CX X E)(I:Inv X pins σ H s)(r:aG vs us)
 (h:∀x dx,H x=none->H dx=none->dx≠x->sp (.ref x::(vs++dvs)) (upd (upd H dx (.own x)) x (.ins C dx [])) (λv H2=>v=.non/\Q (.ref x) H2) E):
 wpAny (model X.prog X.w) X.A (call (.ref C) us) (EP X pins σ Q) X.xe s:=by
 have hq:=h (s.heap.objs.size+1) s.heap.objs.size (I.hok.fresh (Nat.le_succ _)) (I.hok.fresh (Nat.le_refl _)) (Nat.ne_of_lt (Nat.lt_succ_self _));have I2:=Inv.made (C:=C) I;have r2:aG (V.ref (s.heap.objs.size+1):: (vs++dvs)) (Value.ref (s.heap.objs.size+1):: (us++ds)):=.cons rfl (r.append hd)
 have hl:(Value.ref (s.heap.objs.size+1):: us++ds).length=ps.length:=by
  have e:=r2.length;rw[F.len _ _ _ _ hq] at e;exact e.symm
 refine wpAny_call (abY (f:=f) I.kIn M.makes M.init (beq_iff_eq.mp M.fn) (codeAny_mono (F.run _ X.stack _ _ ⟨Value.ref (s.heap.objs.size+1):: us,[]⟩ (Value.ref (s.heap.objs.size+1):: (us++ds)) _ _ E (hr.make C us [])
  (I2.abm.make C us []) (hb _ (Value.ref (s.heap.objs.size+1):: us) I2.kIn hl) r2 hq) λr s' HR=>?_))
 cases r with
 |error e=>exact hx pins σ _ _ e s' I2 HR
 |ok fl =>
  cases fl with
  |ret u =>
   obtain⟨v,H',I3,rv,ev,q3⟩:=I2.after HR;subst ev;exact⟨rv,⟨V.ref (s.heap.objs.size+1),H',I3,rfl,q3⟩⟩
  |next=>exact False.elim HR
  |brk=>exact False.elim HR
  |cont=>exact False.elim HR
theorem bf (M:Mk X.K C f)(F:E6 X.prog X.w X.K X.mg X.base CX k f fd ps sp)(hr:oJ (k+1) X.A)(hg:Gl X x)(hm:X.mg x=some (.ref C))(hb:av X.K fd ps ds)(hd:aG dvs ds)(hx:cx CX X E)
 (ha:PA X (e::es) t)(Im:(x==("__debug__":Str))=false:=by decide)(he:starEach (e::es) X.env=(false,eval e X.env):: starEach es X.env:=by rfl)(FZ:(backTo pos (starEach es X.env)).any (·.1)=false:=by rfl):
 PE X (.Call (.Name x p) (e::es) [] pos) (zC C sp dvs E t):=by
 intro pins s σ H Q I h;refine wpAny_Call_Name_kw (eV I hg hm ?_ Im);refine PySem.W.callWith_K (h₀:=X.base) I.ok.mod.kin M.kp (bN (ha pos pins s σ H _ I h) λus s1 ⟨vs,H1,I1,r,q⟩=>⟨I1.kIn,?_⟩) he FZ;exact acu M F hr hb hd hx I1 r q
end
def PK (X:Cx)(HS:List Keyword)(t:TA):Prop :=
 ∀(pos:Pos)(pins:List (Addr×Obj))(s:AQ)(σ:St)(H:Hp)(Q:List V->Hp->Prop),Inv X pins σ H s->t σ H Q->wpAny (model X.prog X.w) X.A (evalAll ((backToKw pos (keywordEach HS X.env)).map (·.2))) (AP X pins σ Q) X.xe s
section
variable {X:Cx}{CX:wC}{k:Nat}{f C:Addr}{fd:xR}{ps ks:E4}{sp:Sp}{E:XK}{x m:Str}{p pos apos kpos:Pos}{e o:Expr}{es:Aw}{HS:List Keyword}{te ta:TE}{t tk:TA}{nm:Option Str}
theorem v9:PK X [] D6:=λ_ _ _ _ H Q I h=>wpAny_evalAll_nil ⟨[],H,I,.nil,h⟩
theorem ny (ha:PE X e te)(hr:PK X HS t):PK X (⟨nm,e,kpos⟩::HS) (bg te t):=by
 intro pos pins s σ H Q I h;show wpAny _ _ (evalAll ((do let v <-eval e X.env;standAt pos;pure v):: (backToKw pos (keywordEach HS X.env)).map (·.2))) _ _ s;refine wpAny_evalAll_cons (wpAny_bind (bN (ha pins s σ H _ I h) λu s1 ⟨x,H1,I1,r1,q1⟩=>wpAny_bind (wpAny_standAt (wpAny_pure ?_))));exact bN (hr pos pins s1 σ H1 _ I1 q1) λus s2 ⟨xs,H2,I2,r2,q2⟩=>⟨x::xs,H2,I2,.cons r1 r2,q2⟩
structure Bb (K:PySem.W.Frag)(fd:xR)(ps ks:E4)(g:List Value->List Value->List Value)(gV:List V->List V->List V):Prop where
 to:∀(s:AQ)(us ws:nZ),K.In s.heap->(g us ws).length=ps.length->BindsTo s fd ⟨us,ks.zip ws⟩ (ps.zip (g us ws))
 rel:∀{vs:List V}{us:nZ}{zs:List V}{ws:nZ},aG vs us->aG zs ws->aG (gV vs zs) (g us ws)
variable {g:List Value->List Value->List Value}{gV:List V->List V->List V}
theorem abx {us ws:nZ}{vs zs:List V}(F:E6 X.prog X.w X.K X.mg X.base CX k f fd ps sp)(hr:oJ k X.A)(hb:Bb X.K fd ps ks g gV)(hx:cx CX X E)
 (I:Inv X pins σ H s)(r:aG vs us)(rz:aG zs ws)(h:sp (gV vs zs) H Q E):wpAny (model X.prog X.w) X.A (call (.ref f) us (ks.zip ws)) (EP X pins σ Q) X.xe s:=by
 have r2:=hb.rel r rz
 have hl:(g us ws).length=ps.length:=by rw[<-r2.length];exact F.len _ _ _ _ h
 refine wpAny_call (codeAny_mono (F.run X.A X.stack s H ⟨us,ks.zip ws⟩ (g us ws) (gV vs zs) Q E hr I.abm (hb.to s us ws I.kIn hl) r2 h) λr s' hq=>?_)
 cases r with
 |error e=>exact hx pins σ H s e s' I hq
 |ok fl =>
  cases fl with
  |ret u=>exact I.after hq
  |next=>exact False.elim hq
  |brk=>exact False.elim hq
  |cont=>exact False.elim hq
end
structure yI (N P:E4)(sc:Scope):Prop where
 kind:sc.kind=.function
 co:sc.isCoroutine=false
 gen:sc.isGenerator=false
 nd:N.Nodup
 pre:N.take P.length=P
 par:∀x∈P,sc.names.lookup x=some .local\/sc.names.lookup x=some .cell
 abX:∀y∈sc.names,y.2≠.free
theorem dm {P:E4}{sc:Scope}(h:sc.kind=.function/\sc.isCoroutine=false/\sc.isGenerator=false/\N.Nodup/\N.take P.length=P/\(∀x∈P,sc.names.lookup x=some .local\/sc.names.lookup x=some .cell)/\∀y∈sc.names,y.2≠.free):yI N P sc:=⟨h.1,h.2.1,h.2.2.1,h.2.2.2.1,h.2.2.2.2.1,h.2.2.2.2.2.1,h.2.2.2.2.2.2⟩
variable {kindOf:Str->Option NameKind}
theorem mJ :∀{binds:List (Str×Value)}{m:wg},(∀v,(x,v)∉binds)->bindL kindOf binds m x=m x
 |[],_,_=>rfl
 |(n,v):: r,m,h=>by
  unfold bindL;rw[mJ λw hw=>h w (List.mem_cons_of_mem _ hw)]
  split
  ·have:x≠n:=by rintro rfl;exact h v List.mem_cons_self
   simp[this]
  ·rfl
theorem lY :∀{binds:List (Str×Value)}{m:wg},(∀v,(x,v)∉binds)->bindC kindOf binds m x=m x
 |[],_,_=>rfl
 |(n,v):: r,m,h=>by
  unfold bindC;rw[lY λw hw=>h w (List.mem_cons_of_mem _ hw)]
  split
  ·rfl
  ·have:x≠n:=by rintro rfl;exact h v List.mem_cons_self
   simp[this]
theorem lZ {v:Value}:∀{P:E4}{vs:nZ}{i:Nat}{m:wg},P.Nodup->P[i]?=some x->vs[i]?=some v->kindOf x=some .local →
 bindL kindOf (P.zip vs) m x=some v
 |[],_,_,_,_,h,_,_=>by simp at h
 |_::_,[],_,_,_,_,h,_=>by simp at h
 |p::P,w::vs,0,m,nd,h1,h2,hk=>by
  simp at h1 h2;subst h1;subst h2;show bindL kindOf ((p,w):: P.zip vs) m p=_;unfold bindL;rw[mJ λv hv=>(List.nodup_cons.mp nd).1 (List.of_mem_zip hv).1,if_pos hk];simp
 |p::P,w::vs,i+1,m,nd,h1,h2,hk=>by
  show bindL kindOf ((p,w):: P.zip vs) m x=_;unfold bindL;exact lZ (i:=i) (List.nodup_cons.mp nd).2 (by simpa using h1) (by simpa using h2) hk
theorem mO {v:Value}:∀{P:E4}{vs:nZ}{i:Nat}{m:wg},P.Nodup->P[i]?=some x->vs[i]?=some v->kindOf x≠some .local →
 bindC kindOf (P.zip vs) m x=some v
 |[],_,_,_,_,h,_,_=>by simp at h
 |_::_,[],_,_,_,_,h,_=>by simp at h
 |p::P,w::vs,0,m,nd,h1,h2,hk=>by
  simp at h1 h2;subst h1;subst h2;show bindC kindOf ((p,w):: P.zip vs) m p=_;unfold bindC;rw[lY λv hv=>(List.nodup_cons.mp nd).1 (List.of_mem_zip hv).1,if_neg hk];simp
 |p::P,w::vs,i+1,m,nd,h1,h2,hk=>by
  show bindC kindOf ((p,w):: P.zip vs) m x=_;unfold bindC;exact mO (i:=i) (List.nodup_cons.mp nd).2 (by simpa using h1) (by simpa using h2) hk
def ir (N:E4)(vs:List V):St:=vs.map some++List.replicate (N.length-vs.length) none
def fK (CX:wC)(P:u6)(w:World)(K:PySem.W.Frag)(mg:wg)(base:Heap)(N:E4)(qual:Str)(scope:Scope)(f:Addr)(cd:Value)(A:Around)(outer:List Env)(s:AQ)(H:Hp)(E:XK):Cx where
 prog:=P
 w:=w
 K:=K
 mg:=mg
 base:=base
 A:=A.deeper (envOfC qual scope s.heap.objs.size f cd)
 N:=N
 s₀:=s
 H₀:=H
 env:=envOfC qual scope s.heap.objs.size f cd
 outer:=outer
 stack:=envOfC qual scope s.heap.objs.size f cd::outer
 ex:=[]
 calm:=true
 fn:=λ_=>true
 pn:=[]
 xe:=λe s'=>wpAny (model P w) (A.deeper (envOfC qual scope s.heap.objs.size f cd)) (leaving (envOfC qual scope s.heap.objs.size f cd) e) (λ_ Sa=>CX outer H s E e Sa) (λe' Sa=>CX outer H s E e' Sa) s'
theorem pf {sc:Scope}{n:Nat}(h:sc.names.lookup x=some .cell):∃c,(cellsFrom n sc.names []).lookup x=some c:=by
 have q:=PySem.W.cellsFrom_some sc.names n [] (.inl h);exact Option.isSome_iff_exists.mp q
theorem aaV {CX:wC}{qual:Str}{scope:Scope}{f:Addr}{cd:Value}{s1:AQ}{E:XK}{vs:List V}
 (S:yI N ps scope)(hd:A.handled=none)(e0:Ce P w K mg base A outer s H)(hl:vs.length=ps.length)(r:aG vs us)
 (x:InCallC s s.heap.objs.size (bindL (envOfC qual scope s.heap.objs.size f cd).kindOf (ps.zip us) λ_=>none) (cellsFrom (s.heap.objs.size+1) scope.names []) (bindC (envOfC qual scope s.heap.objs.size f cd).kindOf (ps.zip us) λ_=>none) s1):
 Inv (fK CX P w K mg base N qual scope f cd A outer s H E) [] (ir N vs) H s1:=by
 have FZ:ps.length<=N.length:=by have:=congrArg List.length S.pre;rw[List.length_take] at this;omega
 obtain⟨h1,tk,rfl,hk⟩:=x.done;have noA:∀b:Addr,b∉(fK CX P w K mg base N qual scope f cd A outer s H E).ex:=λb z=>absurd (show b∈([]:List Addr) from z) (by simp)
 refine⟨⟨e0.mod,S.kind,rfl,rfl,Nat.le_refl _,λy z c h1 h2=>?_,λy hy=>?_,λy c _ h=>?_,λ_=>hd,Around.frames_deeper e0.frames,.inr ⟨rfl,rfl⟩,λb z=>absurd z (noA b),e0.bs,e0.bsz,λb _ _=>noA b,λb z=>absurd z (noA b),e0.aau,e0.frf⟩,
  rfl,e0.bare,Un.kept hk,⟨_,x.toInCall.ns,λi y v h1 h2 h3=>?_⟩,λy c h=>⟨_,x.cell y c h⟩,e0.hok.fresh (Nat.le_refl _),λy c h=>?_,λp hp=>absurd (show p∈([]:List (Addr×Obj)) from hp) (by simp),e0.hok.kept hk,?_⟩
 ·exact name_of_addr x.apart (PySem.mem_of_lookup h1) (PySem.mem_of_lookup h2)
 ·have hy:scope.names.lookup y=some .cell\/scope.names.lookup y=some .free:=hy
  rcases hy with hy|hy
  ·exact pf hy
  ·exact absurd rfl (S.abX _ (PySem.mem_of_lookup hy))
 ·exact Nat.le_of_lt (x.above y c (PySem.mem_of_lookup h))
 ·have hi:i<vs.length:=by
   unfold ir at h2
   by_cases hi:i<vs.length
   ·exact hi
   ·rw[List.getElem?_append_right (by simpa using hi)] at h2;rw[List.getElem?_replicate] at h2
    split at h2 <;> cases h2
  have ha:vs[i]?=some v:=by
   unfold ir at h2;rw[List.getElem?_append_left (by simpa using hi),List.getElem?_map] at h2
   cases e:vs[i]? with
   |none=>rw[e] at h2;cases h2
   |some a=>rw[e] at h2;cases h2;rfl
  obtain⟨u,hu,rv⟩:=r.get ha
  have hp:ps[i]?=some y:=by
   rw[<-S.pre,List.getElem?_take_of_lt (by omega)];exact h1
  have Xo:ps.Nodup:=by rw[<-S.pre];exact S.nd.sublist (List.take_sublist _ _)
  refine⟨u,rv,?_⟩
  rcases S.par y (List.mem_of_getElem? hp) with k|k
  ·exact .inl ⟨k,lZ Xo hp hu k⟩
  ·obtain⟨c,e⟩:=pf (n:=s.heap.objs.size+1) k;refine .inr ⟨.inl k,c,e,?_⟩;have q:=x.cell y c e;rw[mO Xo hp hu (by show scope.names.lookup y≠_;rw[k];decide)] at q;exact q
 ·exact e0.hok.fresh (Nat.le_of_lt (x.above y c (PySem.mem_of_lookup h)))
 ·unfold ir;show _=N.length;rw[List.length_append,List.length_map,List.length_replicate];omega
theorem vB {CX:wC}{f:Addr}{name qual:Str}{params:Arguments}{scope:Scope}{dV kV doc pm Ff ct oc:Value}{an od:Bo}
 {FA:Dg}{sp:Sp}(lk:K.lookup f=some ⟨oc,od,.func (PySem.W.fnOf name qual params body scope dV kV doc pm an Ff ct),FA⟩)(F3:PySem.W.codeIn K Ff qual=true)(S:yI N ps scope)
 (len:∀vs H Q E,sp vs H Q E->vs.length=ps.length)
 (Gm:∀(A:Around)(outer:List Env)(s:AQ)(H:Hp)(vs:List V)(Q:VK)(E:XK),oJ k (A.deeper (envOfC qual scope s.heap.objs.size f Ff))->sp vs H Q E →
  ∃t,oA (fK CX P w K mg base N qual scope f Ff A outer s H E) body t/\t {nx:=λ_ H'=>Q .non H',rt:=Q} (ir N vs) H):
 E6 P w K mg base CX (k+1) f (PySem.W.fnOf name qual params body scope dV kV doc pm an Ff ct) ps sp:=by
 refine⟨len,λA outer s H args us vs Q E hr e0 hb r Ig=>?_⟩;have hl:=len _ _ _ _ Ig;have KX:K.In s.heap:=e0.mod.kin.keeps λb o e=>(e0.bs b o e).1;have lim:s.heap.NoLimit:=e0.mod.nolimit.keeps λb o e=>(e0.bs b o e).1
 have Io:∀y∈ps.zip us,scope.names.lookup y.1=some .local\/(scope.names.lookup y.1=some .cell/\((cellsFrom (s.heap.objs.size+1) scope.names []).lookup y.1).isSome=true):=λ⟨n,v⟩ hy=>by
  rcases S.par n (List.of_mem_zip hy).1 with q|q
  ·exact .inl q
  ·exact .inr ⟨q,PySem.W.cellsFrom_some _ _ _ (.inl q)⟩
 refine codeAny_call_function hr.depth (KX _ _ lk) rfl S.co S.gen rfl (PySem.W.codeRec_of KX F3) (hb _ _ _ _ ?_);refine wpAny_newFunctionEnv_cells S.kind Io λenv he s1 x=>?_;subst he;refine⟨lim.keeps x.toInCall.keep,codeAny_func ?_⟩;obtain⟨t,ht,hq⟩:=Gm A outer s H vs Q E (hr.deeper _) Ig;have I:Inv (fK CX P w K mg base N qual scope f Ff A outer s H E) [] (ir N vs) H s1:=aaV S hr.hd e0 hl r x;refine wpAny_mono (ht [] s1 (ir N vs) H _ I hq) (λfl s' hs=>?_) λe s' hs=>hs
 have fin:∀{σ':St}{H':Hp}{v:V}{u:Value},Inv (fK CX P w K mg base N qual scope f Ff A outer s H E) [] σ' H' s'->aE v u->Q v H'->CE outer P w H s Q u s' :=
  λ{σ' H' v u} J rv q=>⟨v,H',J.os,J.bare,J.base,J.hok,rv,q⟩
 cases fl with
 |ret u =>
  obtain⟨v,σ',H',J,rv,q⟩:=hs;exact fin J rv q
 |next =>
  obtain⟨σ',H',J,q⟩:=hs;exact fin (v:=V.non) (u:=Value.none) J rfl q
 |brk =>
  obtain⟨_,_,_,q⟩:=hs;exact False.elim q
 |cont =>
  obtain⟨_,_,_,q⟩:=hs;exact False.elim q
section
variable {X:Cx}{x:Str}{p pos:Pos}{e:Expr}{es:Aw}{t:TA}{id T:String}{r:List V->Hp->VK->Prop}
def zM (r:List V->Hp->VK->Prop)(t:TA):TE:=λσ H Q=>t σ H λvs H1=>r vs H1 Q
theorem aF (hc:cA X (.builtin id) r)(hg:Gl X x)(hm:X.mg x=none)(hv:bootBuiltins x=some (.builtin id))(ha:PA X (e::es) t)(hn:x ≠ "__name__":=by decide)(Im:(x==("__debug__":Str))=false:=by decide)
 (he:starEach (e::es) X.env=(false,eval e X.env):: starEach es X.env:=by rfl)(FZ:(backTo pos (starEach es X.env)).any (·.1)=false:=by rfl):PE X (.Call (.Name x p) (e::es) [] pos) (zM r t):=by
 intro pins s σ H Q I h;refine wpAny_Call_Name_kw (gm I hg hm hv ?_ hn Im);exact PyProof.Rows.callWith_builtin1 (bN (ha pos pins s σ H _ I h) λus s1 ⟨vs,H1,I1,r1,q1⟩=>hc pins s1 σ H1 vs us Q I1 r1 q1) he FZ
theorem bA (hc:cA X (.type T) r)(hg:Gl X x)(hm:X.mg x=none)(hv:bootBuiltins x=some (.type T))(ha:PA X (e::es) t)(hn:x ≠ "__name__":=by decide)(Im:(x==("__debug__":Str))=false:=by decide)
 (he:starEach (e::es) X.env=(false,eval e X.env):: starEach es X.env:=by rfl)(FZ:(backTo pos (starEach es X.env)).any (·.1)=false:=by rfl):PE X (.Call (.Name x p) (e::es) [] pos) (zM r t):=by
 intro pins s σ H Q I h;refine wpAny_Call_Name_kw (gm I hg hm hv ?_ hn Im);exact PyProof.Rows.callWith_type1 (bN (ha pos pins s σ H _ I h) λus s1 ⟨vs,H1,I1,r1,q1⟩=>hc pins s1 σ H1 vs us Q I1 r1 q1) he FZ
end
section
variable {κ:Type} [DecidableEq κ]
def jg (Fe:List (κ×V))(k:κ):Option V:=(Fe.find? λkv=>decide (kv.1=k)).map (·.2)
def gb (Fe:List (κ×V))(k:κ)(v:V):List (κ×V):=
 if(Fe.any λkv=>decide (kv.1=k))=true then Fe.map (λkv=>if kv.1=k then(kv.1,v) else kv) else Fe++[(k,v)]
theorem iQ {p:κ×V}{r:List (κ×V)}{k:κ}(e:p.1=k):jg (p::r) k=some p.2:=by simp[jg,List.find?_cons,e]
theorem gU {p:κ×V}{r:List (κ×V)}{k:κ}(e:¬p.1=k):jg (p::r) k=jg r k:=by simp[jg,List.find?_cons,e]
theorem jZ (k:κ):∀Fe:List (κ×V),(Fe.any λkv=>decide (kv.1=k))=(jg Fe k).isSome
 |[]=>rfl
 |p::r=>by
  rw[List.any_cons]
  by_cases e:p.1=k
  ·simp only[iQ e,decide_eq_true e,Bool.true_or,Option.isSome_some]
  ·rw[gU e,decide_eq_false e,Bool.false_or];exact jZ k r
theorem jD (Fe:List (κ×V))(k:κ)(v:V):(gb Fe k v).length<=Fe.length+1:=by
 unfold gb
 split
 ·rw[List.length_map];omega
 ·rw[List.length_append,List.length_cons,List.length_nil];omega
theorem eK.aaR {o:Option V}{u:uh}(r:eK o u):o.isSome=u.isSome:=by
 cases o with
 |none=>cases u with
  |none=>rfl
  |some _=>exact(show False from r).elim
 |some _=>cases u with
  |none=>exact(show False from r).elim
  |some _=>rfl
theorem eK.getD {o:Option V}{u:uh}{d:V}{d':Value}(r:eK o u)(rd:aE d d'):aE (o.getD d) (u.getD d'):=by
 cases o with
 |none=>cases u with
  |none=>exact rd
  |some _=>exact(show False from r).elim
 |some _=>cases u with
  |none=>exact(show False from r).elim
  |some _=>exact r
theorem KV.val {Fe:List (κ×V)}{vs:List (κ×Value)}(r:KV Fe vs)(k:κ):eK (jg Fe k) (valueAt vs k):=by
 unfold KV at r
 induction r with
 |nil=>exact True.intro
 |@cons p q ps qs h t ih =>
  obtain⟨h1,h2⟩:=h
  by_cases e:p.1=k
  ·have e':q.1=k:=h1.symm.trans e
   have b:valueAt (q::qs) k=some q.2:=by simp[valueAt,List.find?_cons,e']
   rw[iQ e,b];exact h2
  ·have e':¬q.1=k:=λz=>e (h1.trans z)
   have b:valueAt (q::qs) k=valueAt qs k:=by simp[valueAt,List.find?_cons,e']
   rw[gU e,b];exact ih
theorem KV.any {Fe:List (κ×V)}{vs:List (κ×Value)}(r:KV Fe vs)(k:κ):(Fe.any λkv=>decide (kv.1=k))=vs.any λkv=>decide (kv.1=k):=by
 unfold KV at r
 induction r with
 |nil=>rfl
 |cons h t ih=>rw[List.any_cons,List.any_cons,ih,h.1]
theorem KV.abZ {Fe:List (κ×V)}{vs:List (κ×Value)}(r:KV Fe vs)(k:κ)(ry:aE y u):
 KV (Fe.map λkv=>if kv.1=k then(kv.1,y) else kv) (vs.map λkv=>if kv.1=k then(kv.1,u) else kv):=by
 unfold KV at r |-
 induction r with
 |nil=>exact .nil
 |@cons p q ps qs h t ih =>
  rw[List.map_cons,List.map_cons];refine .cons ?_ ih;obtain⟨h1,h2⟩:=h
  by_cases e:p.1=k
  ·rw[if_pos e,if_pos (h1.symm.trans e)];exact⟨h1,ry⟩
  ·rw[if_neg e,if_neg (λz=>e (h1.trans z))];exact⟨h1,h2⟩
theorem KV.put {Fe:List (κ×V)}{vs:List (κ×Value)}(r:KV Fe vs)(k:κ)(ry:aE y u):KV (gb Fe k y) (stored vs k u):=by
 unfold gb stored;rw[r.any k]
 by_cases e:(vs.any λkv=>decide (kv.1=k))=true
 ·rw[if_pos e,if_pos e];exact r.abZ k ry
 ·rw[if_neg e,if_neg e];exact Paired.snoc r ⟨rfl,ry⟩
theorem KV.length {Fe:List (κ×V)}{vs:List (κ×Value)}(r:KV Fe vs):Fe.length=vs.length:=Paired.length r
end
theorem pT {k:Key}(r:aE (kV k) u):(b8 P w).is k u=true:=by
 cases k with
 |inl i=>obtain⟨t,e⟩:=(show ∃t,u=Value.int i t from r);subst e;exact aat P w i t
 |inr x=>obtain⟨t,e⟩:=(show ∃t,u=Value.str x t from r);subst e;exact abu P w x t
theorem mY :∀{ks:List Key}{us:nZ},aG (ks.map kV) us->ItemsAre (b8 P w) ks us
 |[],_,r=>by rw[List.map_nil] at r;cases r;exact .nil
 |k::ks,_,r=>by
  rw[List.map_cons] at r
  cases r with
  |cons h t=>exact .cons (pT h) (mY t)
abbrev KT (H:Hp):List (List Key×V)->List (List Key×Addr×Value)->Prop:=Paired λp q=>p.1=q.1/\H q.2.1=some (.tup (p.1.map kV))/\aE p.2 q.2.2
variable {Fe:List (List Key×V)}{xs:List (List Key×Addr×Value)}
theorem KT.val (r:KT H Fe xs)(k:List Key):eK (jg Fe k) ((atKey xs k).map (·.2)):=by
 induction r with
 |nil=>exact True.intro
 |@cons p q ps qs h t ih =>
  obtain⟨h1,_,h2⟩:=h
  by_cases e:p.1=k
  ·have e':q.1=k:=h1.symm.trans e
   have b:atKey (q::qs) k=some q.2:=by simp[atKey,List.find?_cons,e']
   rw[iQ e,b];exact h2
  ·have e':¬q.1=k:=λz=>e (h1.trans z)
   have b:atKey (q::qs) k=atKey qs k:=by simp[atKey,List.find?_cons,e']
   rw[gU e,b];exact ih
theorem KT.abZ (r:KT H Fe xs)(k:List Key)(ry:aE y u):
 KT H (Fe.map λkv=>if kv.1=k then(kv.1,y) else kv) (xs.map (putAt k u)):=by
 induction r with
 |nil=>exact .nil
 |@cons p q ps qs h t ih =>
  rw[List.map_cons,List.map_cons];refine .cons ?_ ih;obtain⟨h1,h2,h3⟩:=h;unfold putAt
  by_cases e:p.1=k
  ·rw[if_pos e,if_pos (h1.symm.trans e)];exact⟨h1,h2,ry⟩
  ·rw[if_neg e,if_neg (λz=>e (h1.trans z))];exact⟨h1,h2,h3⟩
theorem KT.put (r:KT H Fe xs)(k:List Key)(hb:H b=some (.tup (k.map kV)))(ry:aE y u):
 KT H (gb Fe k y) (storedH xs k b u):=by
 have e:(Fe.any λkv=>decide (kv.1=k))=(atKey xs k).isSome:=by
  rw[jZ,(r.val k).aaR,Option.isSome_map]
 unfold gb storedH;rw[e]
 by_cases q:(atKey xs k).isSome=true
 ·rw[if_pos q,if_pos q];exact r.abZ k ry
 ·rw[if_neg q,if_neg q];exact Paired.snoc r ⟨rfl,hb,ry⟩
theorem KT.keeps (r:KT H Fe xs)(ht:∀b ys,H b=some (.tup ys)->H' b=some (.tup ys)):KT H' Fe xs :=
 Paired.aa5 r λ_ _ z=>⟨z.1,ht _ _ z.2.1,z.2.2⟩
section
variable {P:u6}{w:World}{H:Hp}{h:Heap}{a:Addr}
theorem zO {u:HO}(ok:gu P w H h)(e:Rd H a u):bc P w H h a u:=e.ok ok
theorem mj {Fe:List (Key×V)}(ok:gu P w H h)(e:Rd H a (.dK Fe)):Fe.length<=sizeLine/\(a==sysModules)=false/\∃vs,KV Fe vs/\h.DictOf (b8 P w) a vs :=
 show bc P w H h a (.dK Fe) from zO ok e
theorem abc {Fe:List (Key×V)}(ok:gu P w H h)(e:H a=some (.dK Fe)):Fe.length<=sizeLine/\(a==sysModules)=false/\∃vs,KV Fe vs/\h.DictOf (b8 P w) a vs:=mj ok (.inl e)
theorem kR {ks:List Key}(ok:gu P w H h)(e:H a=some (.tup (ks.map kV))):(tupleKind (b8 P w)).is h ks a:=by
 obtain⟨_,its,r,o,h1,h2,n,h3⟩:=(show bc P w H h a (.tup (ks.map kV)) from ok a _ e);exact⟨o,its.toArray,n,h1,h2,h3,by simpa using mY r⟩
theorem my (ok:gu P w H h)(e:Rd H a (.dT Fe)):Fe.length<=sizeLine/\(a==sysModules)=false /\
 ∃xs,KT H Fe xs/\h.DictOfH (tupleKind (b8 P w)) a xs:=by
 obtain⟨z,y,xs,r,o,es,ep,h1,h2,h3,h4,h5⟩:=(show bc P w H h a (.dT Fe) from zO ok e);refine⟨z,y,xs,r,o,es,ep,h1,h2,h3,h4,λx hx=>?_,h5⟩
 have all:∀{l:List (List Key×V)}{m:List (List Key×Addr×Value)},KT H l m->∀x∈m,(tupleKind (b8 P w)).is h x.1 x.2.1:=by
  intro l m q
  induction q with
  |nil=>intro x hx;exact nomatch hx
  |@cons p q ps qs hq t ih =>
   intro x hx
   rcases List.mem_cons.mp hx with e|hx
   ·subst e;exact kR ok (by rw[<-hq.1];exact hq.2.1)
   ·exact ih x hx
 exact all r x hx
theorem aaO (ok:gu P w H h)(e:H a=some (.dT Fe)):Fe.length<=sizeLine/\(a==sysModules)=false /\
 ∃xs,KT H Fe xs/\h.DictOfH (tupleKind (b8 P w)) a xs:=my ok (.inl e)
end
def jt (H:Hp)(a:Addr)(y:V)(r:Option V):Prop :=
 (∃Fe k,Rd H a (.dK Fe)/\y=kV k/\r=jg Fe k)\/∃Fe k b,Rd H a (.dT Fe)/\y=.ref b/\H b=some (.tup (k.map kV))/\r=jg Fe k
def p6 (H:Hp)(a:Addr)(y v:V)(H':Hp):Prop :=
 (∃Fe k,H a=some (.dK Fe)/\y=kV k/\Fe.length<sizeLine/\H'=upd H a (.dK (gb Fe k v))) \/
 ∃Fe k b,H a=some (.dT Fe)/\y=.ref b/\H b=some (.tup (k.map kV))/\Fe.length<sizeLine/\H'=upd H a (.dT (gb Fe k v))
theorem jt.t {b:Addr}{k:List Key}(e:H a=some (.dT Fe))(eb:H b=some (.tup (k.map kV))):jt H a (.ref b) (jg Fe k):=.inr ⟨Fe,k,b,.inl e,rfl,eb,rfl⟩
theorem p6.t {b:Addr}{k:List Key}(e:H a=some (.dT Fe))(eb:H b=some (.tup (k.map kV)))(hl:Fe.length<sizeLine):
 p6 H a (.ref b) v (upd H a (.dT (gb Fe k v))):=.inr ⟨Fe,k,b,e,rfl,eb,hl,rfl⟩
section
variable {X:Cx}{pins:List (Addr×Obj)}{σ:St}{H:Hp}{s:AQ}{a:Addr}{y v:V}{u r:Value}{o:Option V}{A:Around}{E:vy}
theorem Inv.big (I:Inv X pins σ H s):sysModules<s.heap.objs.size:=by
 have h:mainGlobals<s.heap.objs.size:=(I.mod.glob.keeps I.bk).lt;exact Nat.lt_trans (by decide) h
theorem aay {Q:vy}(hu:A.units+1<cLine)(I:Inv X pins σ H s)(g:jt H a y (some v))(ry:aE y u)(h:∀w' s',Inv X pins σ H s'->aE v w'->Q w' s'):
 wpAny (model X.prog X.w) A (getItem (.ref a) u) Q E s:=by
 rcases g with⟨Fe,k,e,ey,l⟩|⟨Fe,k,b,e,ey,eb,l⟩
 ·subst ey;obtain⟨z,hd,vs,rel,dd⟩:=mj I.hok e;obtain⟨w',hw,GD⟩:=eK.some_of (v:=v) (o:=valueAt vs k) (by rw[l];exact rel.val k);exact wpAny_getItem_of (pT ry) dd.mapOf hw (h w' _ (I.tok _) GD)
 ·subst ey
  cases(show u=Value.ref b from ry)
  obtain⟨z,hd,xs,rel,dd⟩:=my I.hok e;obtain⟨w',hw,GD⟩:=eK.some_of (v:=v) (o:=(atKey xs k).map (·.2)) (by rw[l];exact rel.val k);obtain⟨p,hp,Mm⟩:=Option.map_eq_some_iff.mp hw;refine wpAny_getItem_heap (tupleKind_room_in1 hu) (kR I.hok eb) dd hp ?_;rw[Mm];exact h w' _ (I.tok _) GD
theorem abh {Q:vy}(hu:A.units+1<cLine)(I:Inv X pins σ H s)(g:jt H a y o)(ry:aE y u)(h:∀s',Inv X pins σ H s'->Q (.bool o.isSome) s'):
 wpAny (model X.prog X.w) A (compareOp .In u (.ref a)) Q E s:=by
 rcases g with⟨Fe,k,e,ey,l⟩|⟨Fe,k,b,e,ey,eb,l⟩
 ·subst ey;obtain⟨z,hd,vs,rel,dd⟩:=mj I.hok e;refine wpAny_in_of (pT ry) hd dd.mapOf ?_;rw[<-(rel.val k).aaR,<-l];exact h _ (I.tok _)
 ·subst ey
  cases(show u=Value.ref b from ry)
  obtain⟨z,hd,xs,rel,dd⟩:=my I.hok e;refine wpAny_in_heap (tupleKind_room_in1 hu) (kR I.hok eb) hd dd ?_;have q:=(rel.val k).aaR;rw[Option.isSome_map] at q;rw[<-q,<-l];exact h _ (I.tok _)
theorem rY {h':Heap}{t':Nat}{ob:HO}(I:Inv X pins σ H s)(mu:Dh (H a))(hs:Heap.SameBut a s.heap h')(he:∃q,h'.get? a=some q)(new:bc X.prog X.w (upd H a ob) h' a ob):
 Inv X pins σ (upd H a ob) {s with heap:=h',toks:=t'}:=
 I.write (x:=a) (e:=a) mu (.inl rfl) (λb q hb z=>(hs.2 b hb).trans z) he new
theorem acx {h':Heap}{Fe:List (Key×V)}{vs:List (Key×Value)}(z:Fe.length<=sizeLine)(hd:(a==sysModules)=false)(rel:KV Fe vs)(dd:h'.DictOf (b8 P w) a vs):
 bc P w H' h' a (.dK Fe):=⟨z,hd,vs,rel,dd⟩
theorem acy {Q:Unit->Shared->Prop}(hu:A.units+1<cLine)(I:Inv X pins σ H s)(g:p6 H a y v H')(ry:aE y u)(rv:aE v r)(h:∀s',Inv X pins σ H' s'->Q () s'):
 wpAny (model X.prog X.w) A (setItem (.ref a) u r) Q E s:=by
 rcases g with⟨Fe,k,e,ey,l,eH⟩|⟨Fe,k,b,e,ey,eb,l,eH⟩
 ·subst ey eH;obtain⟨z,hd,vs,rel,dd⟩:=abc I.hok e
  have hz:vs.length<=sizeLine:=by rw[<-rel.length];exact z
  have hl:(gb Fe k v).length<=sizeLine:=by have:=jD Fe k v;omega
  refine wpAny_setItem_pairs (hsz:=hz) (pT ry) dd λh' Q1 hs=>h _ ?_;have he:∃q,h'.get? a=some q:=let⟨q,_,_,hq,_⟩:=Q1;⟨q,hq⟩;exact rY I (by rw[e];exact True.intro) hs he (acx hl hd (rel.put k rv) Q1)
 ·subst ey eH
  cases(show u=Value.ref b from ry)
  obtain⟨z,hd,xs,rel,dd⟩:=aaO I.hok e
  have hz:xs.length<=sizeLine:=by rw[<-Paired.length rel];exact z
  have hl:(gb Fe k v).length<=sizeLine:=by have:=jD Fe k v;omega
  refine wpAny_setItem_heap (hsz:=hz) (tupleKind_room_in1 hu) (kR I.hok eb) dd λh' Q1 hs=>h _ ?_;obtain⟨q,es,ep,hq,h2,h3,h4,_,h5⟩:=Q1;refine rY I (by rw[e];exact True.intro) hs ⟨q,hq⟩ ⟨hl,hd,_,(rel.put k eb rv).keeps λc ys ec=>?_,q,es,ep,hq,h2,h3,h4,h5⟩;rw[ai (xf ec e (λz=>nomatch z))];exact ec
end
def Cr (i:Expr):Prop:=∀ov iv,subscripted i false ov iv=operate [ov,iv] (getItem ov iv)
theorem acz {prog:u6}{E:vy}{env:Env}{value slice:Expr}{T id:String}{Q:vy}
 (hl:typeLookup (.type T) "__getitem__"=pure (some (.builtin id)))(hs:Cr slice)
 (h:wpAny (model prog w) A (eval value env) (λo s₁=>wpAny (model prog w) A (eval slice env) (λi s₂=>s₂.TypeIs o T/\wpAny (model prog w) A (getItem o i) Q E s₂) E s₁) E s):
 wpAny (model prog w) A (eval (.Subscript value slice pos) env) Q E s:=by
 refine Subscript_ (wpAny_mono h (λo s₁ h₁=>wpAny_mono h₁ (λi s₂ h₂=>?_) λ_ _ x=>x) λ_ _ x=>x);obtain⟨hT,h₂⟩:=h₂;unfold subscriptTail;refine wpAny_bind ?_;rw[getitemInPython_of_ne hT.not_modules];refine wpAny_bind (wpAny_specialOf hT hl ?_)
 have fin:wpAny (model prog w) A (subscripted slice false o i) (λr s₃=>wpAny (model prog w) A (letTemporaryGo value o r>>=λ_=>pure r) Q E s₃) E s₂:=by
  rw[hs o i];exact wpAny_operating (wpAny_mono h₂ (λr s₃ h₃=>wpAny_bind (wpAny_letTemporaryGo (wpAny_pure h₃))) λ_ _ x=>x)
 first
  |exact wpAny_pure (wpAny_bind fin)
  |exact wpAny_bind (wpAny_pure (wpAny_bind fin))
  |exact wpAny_bind fin
theorem acA {o:Option V}(I:Inv X pins σ H s)(g:jt H a y o):s.TypeIs (.ref a) "dict":=by
 rcases g with⟨Fe,k,e,_,_⟩|⟨Fe,k,b,e,_,_,_⟩
 ·obtain⟨_,_,vs,_,dd⟩:=mj I.hok e;exact dd.typeIs
 ·obtain⟨_,_,xs,_,dd⟩:=my I.hok e;exact dd.typeIs
def acB (td ty:TE):TE:=λσ H Q=>td σ H λx H1=>ty σ H1 λy H2=>∃a v,x=.ref a/\jt H2 a y (some v)/\Q v H2
def acC (ty td:TE):TE:=λσ H Q=>ty σ H λy H1=>td σ H1 λx H2=>∃a o,x=.ref a/\jt H2 a y o/\Q (.bl o.isSome) H2
def acD (td ty tv:TE):TS:=λD σ H=>tv σ H λv H1=>td σ H1 λx H2=>ty σ H2 λy H3=>∃a H4,x=.ref a/\p6 H3 a y v H4/\D.nx σ H4
section
variable {X:Cx}{o i e value:Expr}{pos pos' R0:Pos}{td ty tv:TE}
theorem m8 (hu:X.A.units+1<cLine)(ho:PE X o td)(hi:PE X i ty)(hs:Cr i):PE X (.Subscript o i pos) (acB td ty):=by
 intro pins s σ H Q I h;refine acz PySem.F.slot_dict_getitem.lookup hs (bN (ho pins s σ H _ I h) λu s1 ⟨x,H1,I1,rx,q1⟩=>bN (hi pins s1 σ H1 _ I1 q1) λiv s2 z'=>?_);obtain⟨y,H2,I2,ry,a,v,ex,g,q2⟩:=z';subst ex;obtain rfl:u=Value.ref a:=rx;exact⟨acA I2 g,aay hu I2 g ry λw' s3 I3 GD=>⟨v,H2,I3,GD,q2⟩⟩
theorem acE (hu:X.A.units+1<cLine)(hi:PE X i ty)(ho:PE X o td):PC X .In i o (acC ty td):=by
 intro pins s σ H Q I h;refine bN (hi pins s σ H _ I h) λiv s1 ⟨y,H1,I1,ry,q1⟩=>bN (ho pins s1 σ H1 _ I1 q1) λu s2 z'=>?_;obtain⟨x,H2,I2,rx,a,ov,ex,g,q2⟩:=z';subst ex;obtain rfl:u=Value.ref a:=rx;exact abh hu I2 g ry λs3 I3=>⟨.bl ov.isSome,H2,I3,rfl,q2⟩
theorem su (hu:X.A.units+1<cLine)(ho:PE X o td)(hi:PE X i ty)(hv:PE X value tv)(hs:swapsWith value (some (.Subscript o i pos')) pos.line X.env=pure false):
 PS X (.Assign [.Subscript o i pos'] value pos) (acD td ty tv):=by
 intro pins s σ H D I h;refine wpAny_Assign_Subscript (bN (hv pins s σ H _ I h) λr s1 ⟨v,H1,I1,rv,q1⟩=>bN (ho pins s1 σ H1 _ I1 q1) λu s2 ⟨x,H2,I2,rx,q2⟩=>bN (hi pins s2 σ H2 _ I2 q2) λiv s3 z'=>?_) hs;obtain⟨y,H3,I3,ry,a,H4,ex,g,q3⟩:=z';subst ex;obtain rfl:u=Value.ref a:=rx;exact acy hu I3 g ry rv λs4 I4=>⟨σ,H4,I4,q3⟩
end
theorem acF (h:Heap)(hb:sysModules<h.objs.size):bc P w H (h.push {cls:=.type "dict",data:=.dict #[]}) h.objs.size (.dT []):=
 ⟨Nat.zero_le _,beq_eq_false_iff_ne.mpr (Ne.symm (Nat.ne_of_lt hb)),[],.nil,_,#[],0,Heap.get?_push_size _ rfl,⟨rfl,rfl,rfl⟩,rfl,rfl,List.nodup_nil⟩
def ab0:TE:=λ_ H Q=>∀p,H p=none->Q (.ref p) (upd H p (.dT []))
section
variable {X:Cx}{pos:Pos}
theorem oH:PE X (.Dict [] [] pos) ab0:=λpins s σ H Q I h =>
 wpAny_Dict_empty ⟨.ref s.heap.objs.size,_,I.laid (a:=s.heap.objs.size) (o:=.dT []) (t':=s.toks) (λ_ _ q=>Heap.get?_push_of_some _ q) (Nat.le_refl _) (acF s.heap I.big),rfl,h _ (I.hok.fresh (Nat.le_refl _))⟩
end
structure M2 (X:Cx)(o:Expr)(m:Str)(apos:Pos)(e f:Expr)(Fx:Pos):Prop where
 base:attributeBase o m X.env (eval o X.env)=eval o X.env
 few:((backTo Fx (starEach [e,f] X.env)).all (λx=>!x.1)&&(backToKw Fx (keywordEach [] X.env)).all (λx=>x.1.isSome)
  && decide (([e,f]:Aw).length+([]:List Keyword).length+(if([]:List Keyword).isEmpty then 0 else 1)<30))=true
 line:(apos.endLine==Fx.line)=true
 trees:backTo Fx (starEach [e,f] X.env)=[(false,eval e X.env),(false,eval f X.env)]
def EL (H:Hp)(a:Addr):Prop:=(∃Fe,Rd H a (.dK Fe))\/∃Fe,Rd H a (.dT Fe)
theorem acG (I:Inv X pins σ H s)(d:EL H a):
 s.TypeIs (.ref a) "dict"/\(∀b,Value.ref a=.ref b->∃ob,s.heap.get? b=some ob/\ob.dict=none)/\(a==sysModules)=false:=by
 rcases d with⟨Fe,e⟩|⟨Fe,e⟩
 ·obtain⟨_,hd,vs,_,dd⟩:=mj I.hok e;refine⟨dd.typeIs,λb q=>?_,hd⟩
  cases q
  obtain⟨ob,_,_,h1,h2,_⟩:=dd;exact⟨ob,h1,h2.2.1⟩
 ·obtain⟨_,hd,xs,_,dd⟩:=my I.hok e;refine⟨dd.typeIs,λb q=>?_,hd⟩
  cases q
  obtain⟨ob,_,_,h1,h2,_⟩:=dd;exact⟨ob,h1,h2.2.1⟩
section
variable {X:Cx}{pins:List (Addr×Obj)}{σ:St}{H:Hp}{s:AQ}{a:Addr}{y d:V}{u r:Value}{o:Option V}{A:Around}{E:vy}
theorem acH {Q:vy}(hu:A.units+1<cLine)(I:Inv X pins σ H s)(g:jt H a y o)(ry:aE y u)(rd:aE d r)(h:∀w' s',Inv X pins σ H s'->aE (o.getD d) w'->Q w' s'):
 wpAny (model X.prog X.w) A (call (.builtin "dict.get") [.ref a,u,r]) Q E s:=by
 rcases g with⟨Fe,k,e,ey,l⟩|⟨Fe,k,b,e,ey,eb,l⟩
 ·subst ey;obtain⟨z,hd,vs,rel,dd⟩:=mj I.hok e;refine call_meetsIn PySem.F.slot_dict_get dd.typeIs PySem.F.entry_dict_get (PySem.F.args_dict_get_3 _ _ _) (meets_dict_get_default (b8 X.prog X.w) a (pT ry) hd r) ⟨_,dd.mapOf,h _ _ (I.tok _) ?_⟩;rw[l];exact(rel.val k).getD rd
 ·subst ey
  cases(show u=Value.ref b from ry)
  obtain⟨z,hd,xs,rel,dd⟩:=my I.hok e;refine call_meetsIn PySem.F.slot_dict_get dd.typeIs PySem.F.entry_dict_get (PySem.F.args_dict_get_3 _ _ _) (meetsH_dict_get_default (tupleKind (b8 X.prog X.w)) a b hd r) ⟨tupleKind_room_in1 hu,k,xs,kR I.hok eb,dd,h _ _ (I.tok _) ?_⟩;rw[l];exact(rel.val k).getD rd
end
def aa6 (td ty tx:TE):TE:=λσ H Q=>td σ H λx H1=>∃a,x=.ref a/\EL H1 a/\ty σ H1 λy H2=>tx σ H2 λz H3=>∃o,jt H3 a y o/\Q (o.getD z) H3
section
variable {X:Cx}{o e f:Expr}{apos Fx:Pos}{td ty tx:TE}
theorem abq (hu:X.A.units+1<cLine)(ho:PE X o td)(he:PE X e ty)(hf:PE X f tx)(m:M2 X o "get" apos e f Fx):PE X (.Call (.Attribute o "get" apos) [e,f] [] Fx) (aa6 td ty tx):=by
 intro pins s σ H Q I h;refine wpAny_Call_method m.base m.few m.line PySem.F.plainAttrs_dict PySem.F.slot_dict_get PySem.F.type_dict_get (bN (ho pins s σ H _ I h) λu s1 z'=>?_);obtain⟨x,H1,I1,rx,a,ex,d,q1⟩:=z';subst ex;obtain rfl:u=Value.ref a:=rx;obtain⟨t1,t2,_⟩:=acG I1 d;refine⟨t1,t2,?_⟩;rw[m.trees]
 refine Calls.callWith_builtin rfl (Calls.evalArgs_plain (Calls.spliced_cons (bN (he pins s1 σ H1 _ I1 q1) λiv s2 ⟨y,H2,I2,ry,q2⟩ =>
  Calls.spliced_cons (bN (hf pins s2 σ H2 _ I2 q2) λfv s3 ⟨z,H3,I3,rz,ov,g,q3⟩=>Calls.spliced_nil ?_))))
 exact acH hu I3 g ry rz λw' s4 I4 GD=>⟨_,H3,I4,GD,q3⟩
end
end L2
namespace HT
open PySem PyProof.Rows
def de:List Int->List Int->Bool
 |[],[]=>false
 |[],_::_=>true
 |_::_,[]=>false
 |x::xs,y::ys=>if x=y then de xs ys else decide (x<y)
theorem eo (x y:Int)(xs ys:List Int):de (x::xs) (y::ys)=if x=y then de xs ys else decide (x<y):=rfl
theorem abr:de [] []=false:=rfl
theorem abK (y:Int)(ys:List Int):de [] (y::ys)=true:=rfl
theorem abw (x:Int)(xs:List Int):de (x::xs) []=false:=rfl
theorem abz (A:Around)(s:AQ)(a:Int)(t:Tok)(c:Int)(u:Tok):∃e,SeqAt.EqAt A s (.int a t) (.int c u) e/\(e=true↔a=c):=
 ⟨(a==c),SeqAt.EqAt.int_int a t c u,by simp⟩
theorem aa9 (A:Around)(s:AQ)(a:Int)(t:Tok)(c:Int)(u:Tok)(prog:u6)(w:World)(E:vy)(Q:vy)(h:Q (.bool (decide (a<c))) s):
 wpAny (model prog w) A (richCompare .Lt (.int a t) (.int c u)) Q E s :=
 (PyProof.Rows.lt_int h:wpAny (model prog w) A (compareOp .Lt (.int a t) (.int c u)) Q E s)
section
open PySem.SeqAt
open PySem.AutoSeq1 (wpAny_loadPart')
open PySem.MeetsSeq PySem.MeetsSeq2 PySem.MeetsSeq3
theorem rEq (l b:Addr)(items FF:tN)(n n2:Nat)(dd Sb:Bo)(sl Mn:Dg)(ns ms:List Int)(hi:IntsAre items.toList ns)(hj:IntsAre FF.toList ms):
 Meets (Builtin.«tuple.__lt__» ⟨[.ref l,.ref b],[]⟩)
  (λ_ R s=>s.heap.get? l=some {cls:=.type "tuple",dict:=dd,data:=.seq items n,slots:=sl}/\s.heap.get? b=some {cls:=.type "tuple",dict:=Sb,data:=.seq FF n2,slots:=Mn} /\
   R (.ok (.ret (.bool (de ns ms)))) s):=
 .of_wp λprog w A R s h=>by
  obtain⟨hp,g,d,tk,os⟩:=s;obtain⟨hl,hb,h⟩:=h;have f2:=AutoSeq1.sub_tuple_tuple
  have z1:items.size=ns.length:=by rw[<-hi.length];simp
  have z2:FF.size=ms.length:=by rw[<-hj.length];simp
  wp_walk using wpAny_loadPart' hl,wpAny_loadPart' hb,wpAny_forIn_list _ (λrest b s'=>b.1=none/\s'=⟨hp,g,d,tk,os⟩/\∃(vs ws:nZ)(Mo Mp:List Int),rest=vs.zip ws /\
   IntsAre vs Mo/\IntsAre ws Mp/\Mo.length+FF.size=Mp.length+items.size/\R (.ok (.ret (.bool (de Mo Mp)))) ⟨hp,g,d,tk,os⟩) _
  case turn =>
   rintro⟨y,x⟩ rest b s' ⟨F9,rfl,vs,ws,Mo,Mp,hz,Sd,Q2,hlen,hR⟩
   cases Sd with
   |nil=>rw[List.zip_nil_left] at hz;cases hz
   |cons a t Se =>
    cases Q2 with
    |nil=>rw[List.zip_nil_right] at hz;cases hz
    |cons c u Sf =>
     rw[List.zip_cons_cons] at hz
     injection hz with ZW JZ
     injection ZW with hy hx
     subst hy hx;rw[eo] at hR;simp only[List.length_cons] at hlen;obtain⟨e,he,MX⟩:=abz A.in1 ⟨hp,g,d,tk,os⟩ a t c u;refine wpAny_bind (he prog w _ _ ?_)
     cases e with
     |true =>
      rw[if_pos (MX.mp rfl)] at hR
      wp_walk
      exact⟨rfl,rfl,_,_,_,_,JZ,Se,Sf,by omega,hR⟩
     |false =>
      rw[if_neg (λq=>absurd (MX.mpr q) Bool.false_ne_true)] at hR;have ZX:=aa9 A.in1 ⟨hp,g,d,tk,os⟩ a t c u prog w
      wp_walk using ZX
      exact⟨_,rfl,by simpa using hR⟩
  case fin =>
   rintro⟨b1,b2⟩ s' ⟨F9,rfl,vs,ws,Mo,Mp,hz,Sd,Q2,hlen,hR⟩;simp only at F9;subst F9
   have hv:de Mo Mp=decide (items.size<FF.size):=by
    cases Sd with
    |nil =>
     cases Q2 with
     |nil =>
      simp only[List.length_nil] at hlen;rw[abr];exact(decide_eq_false (by omega)).symm
     |cons c u hw =>
      simp only[List.length_nil,List.length_cons] at hlen;rw[abK];exact(decide_eq_true (by omega)).symm
    |cons a t hv =>
     cases Q2 with
     |nil =>
      simp only[List.length_nil,List.length_cons] at hlen;rw[abw];exact(decide_eq_false (by omega)).symm
     |cons c u hw =>
      rw[List.zip_cons_cons] at hz
      cases hz
   rw[hv] at hR
   wp_walk
   exact⟨_,rfl,by simpa[Builtin.Tuple.tupleCompareSizes] using hR⟩
  case h =>
   exact⟨rfl,rfl,items.toList,FF.toList,ns,ms,rfl,hi,hj,by omega,h⟩
end
section
variable {prog:u6}{w:World}{A:Around}{E:vy}{s:AQ}
theorem abd {l b:Addr}{items FF:tN}{ns ms:List Int}{Q:vy}(hl:IsTup s.heap l items)(hb:IsTup s.heap b FF)(hi:IntsAre items.toList ns)(hj:IntsAre FF.toList ms)
 (hu:A.units<cLine)(h:Q (.bool (de ns ms)) s):wpAny (model prog w) A (compareOp .Lt (.ref l) (.ref b)) Q E s:=by
 obtain⟨⟨cls,dd,data,sl⟩,ho,hc,n,hd⟩:=id hl;obtain⟨⟨ZY,Sb,data2,Mn⟩,Xp,Mq,n2,hd2⟩:=id hb;simp only at hc hd Mq hd2;subst hc hd Mq hd2
 exact richCompare_meets_room (op:=.Lt) ⟨_,ho,rfl⟩ ⟨_,Xp,rfl⟩ PySem.F.slot_tuple_lt PySem.F.entry_tuple_lt (PySem.F.args_tuple_lt_2 _ _) (rEq l b items FF n n2 dd Sb sl Mn ns ms hi hj)
  ⟨ho,Xp,show Value.bool (de ns ms)≠Value.notImplemented/\Q (.bool (de ns ms)) s from⟨(λx=>nomatch x),h⟩⟩ hu
def dn (n d:Nat):Option Int->Nat
 |none=>d
 |some v=>if v<0 then(v+(n:Int)).toNat else min v.toNat n
theorem abA (n d:Nat)(hd:d<=n)(o:Option Int):dn n d o<=n:=by
 cases o with
 |none=>exact hd
 |some v =>
  show(if v<0 then(v+(n:Int)).toNat else min v.toNat n)<=n
  by_cases hv:v<0
  ·rw[if_pos hv];omega
  ·rw[if_neg hv];exact Nat.min_le_right _ _
theorem rS (v:Int)(n d:Nat):(if v<0 then max (v+(n:Int)) 0 else min v (n:Int))=((dn n d (some v):Nat):Int):=by
 show(if v<0 then max (v+(n:Int)) 0 else min v (n:Int))=(((if v<0 then(v+(n:Int)).toNat else min v.toNat n):Nat):Int)
 by_cases hv:v<0
 ·simp only[if_pos hv];omega
 ·simp only[if_neg hv];omega
theorem abe (lo hi:Option Int)(n:Nat):Builtin.Slice.sliceAdjust lo hi 1 (n:Int)=(((dn n 0 lo:Nat):Int),((dn n n hi:Nat):Int)):=by
 have h1:¬((1:Int)<0):=by omega
 unfold Builtin.Slice.sliceAdjust;simp only[h1,if_false];refine Prod.ext ?_ ?_
 ·cases lo with
  |none=>rfl
  |some v=>exact rS v n 0
 ·cases hi with
  |none=>rfl
  |some v=>exact rS v n n
theorem abf (i j:Nat):Builtin.Slice.slicePlaces (i:Int) (j:Int) 1=j-i:=by
 unfold Builtin.Slice.slicePlaces
 have h1:(1:Int)>0:=by omega
 simp only[h1,if_true,Int.ediv_one]
 split <;> omega
theorem j7 {v:Value}{o:Option Int}{Q:Option Int->Shared->Prop}(p:IsPart v o)(h:Q o s):wpAny (model prog w) A (Builtin.Slice.slicePartIndex v) Q E s:=by
 cases p with
 |none=>exact slicePart_none h
 |int i t=>exact slicePart_int h
theorem fV {sl:Addr}{vl vu:Value}{lo hi:Option Int}{n:Nat}{Q:Int×Int×Nat->Shared->Prop}(hs:s.heap.IsSliceOf sl vl vu .none)(pl:IsPart vl lo)(pu:IsPart vu hi)
 (h:Q (((dn n 0 lo:Nat):Int),1,dn n n hi-dn n 0 lo) s):wpAny (model prog w) A (Builtin.Slice.sliceApplied (.ref sl) (pure (n:Int))) Q E s:=by
 obtain⟨os,K8,Q3,MZ⟩:=id hs;unfold Builtin.Slice.sliceApplied Builtin.Slice.sliceFields;refine wpAny_bind (wpAny_bind (wpAny_field K8 MZ (x:=vl) rfl (wpAny_bind (wpAny_field K8 MZ (x:=vu) rfl (wpAny_bind (wpAny_field K8 MZ (x:=.none) rfl (wpAny_pure ?_)))))));refine wpAny_bind (slicePart_none ?_);show wpAny _ _ (if((1:Int)==0)=true then _ else _) _ _ s;rw[if_neg (by decide)];refine wpAny_bind (j7 pl (wpAny_bind (j7 pu (wpAny_bind (wpAny_pure ?_)))));show wpAny _ _ (match Builtin.Slice.sliceAdjust lo hi 1 (n:Int) with|(lo,hi)=>pure (lo,(1:Int),Builtin.Slice.slicePlaces lo hi 1)) _ _ s;rw[abe lo hi n];show wpAny _ _ (pure (((dn n 0 lo:Nat):Int),(1:Int),Builtin.Slice.slicePlaces ((dn n 0 lo:Nat):Int) ((dn n n hi:Nat):Int) 1)) _ _ s;rw[abf];exact wpAny_pure h
theorem abt (xs:tN)(i k:Nat):((List.range k).filterMap λ(m:Nat)=>xs[((i:Int)+(m:Int)*1).toNat]?).toArray=((xs.toList.drop i).take k).toArray:=by
 have e:(λ(m:Nat)=>xs[((i:Int)+(m:Int)*1).toNat]?)=λm=>xs[i+m]?:=by
  funext m
  have:((i:Int)+(m:Int)*1).toNat=i+m:=by omega
  rw[this]
 rw[e];have:=pick_run xs i k;rw[List.filterMap_map] at this;have e2:((λx=>xs[x]?) ∘ λx=>i+x)=λm=>xs[i+m]?:=rfl;rw[e2] at this;rw[this]
theorem aa4 {t sl:Addr}{items:tN}{vl vu:Value}{lo hi:Option Int}{Q:vy}(ht:IsTup s.heap t items)(hs:s.heap.IsSliceOf sl vl vu .none)(pl:IsPart vl lo)(pu:IsPart vu hi)
 (hw:¬(dn items.size 0 lo=0/\dn items.size items.size hi=items.size))
 (h:Q (.ref s.heap.objs.size) {s with heap:=s.heap.push {cls:=.type "tuple",data:=.seq ((items.toList.drop (dn items.size 0 lo)).take (dn items.size items.size hi-dn items.size 0 lo)).toArray} })
 (hsz:items.size<=sizeLine):wpAny (model prog w) A (getItem (.ref t) (.ref sl)) Q E s:=by
 have HD:sizeOk (.seq ((items.toList.drop (dn items.size 0 lo)).take (dn items.size items.size hi-dn items.size 0 lo)).toArray):=by
  show((items.toList.drop (dn items.size 0 lo)).take (dn items.size items.size hi-dn items.size 0 lo)).toArray.size<=sizeLine;rw[List.size_toArray,List.length_take,List.length_drop,Array.length_toList];omega
 have hj:dn items.size items.size hi<=items.size:=abA _ _ (Nat.le_refl _) hi;obtain⟨os,K8,Q3,MZ⟩:=id hs;have Sg:s.TypeIs (.ref sl) "slice":=⟨os,K8,Q3⟩;unfold getItem
 try with_reducible refine wpAny_holding ?_
 first|refine wpAny_bind (wpAny_pure ?_)|skip
 refine wpAny_bind (wpAny_sequenceKey ht.typeIs (by decide) ?_)
 refine wpAny_bind (wpAny_callSpecial?_slot (name:=Str.ofString "__getitem__") ht.typeIs PyProof.Rows.slot_tuple_getitem
  (wpAny_call_entry PyProof.Rows.slot_tuple_getitem ht.typeIs entry_tuple_getitem ?_ (args_tuple_getitem _ _)))
 show wpAny _ _ (Builtin.Tuple.tupleItemsOf (.ref t)>>=_) _ _ s;refine wpAny_bind (tupleItemsOf_ ht ?_);refine wpAny_bind (wpAny_typeOf Sg ?_);rw[if_pos (by decide)];refine wpAny_bind (fV hs pl pu ?_)
 have K9:¬((((dn items.size 0 lo:Nat):Int)==0&&(1:Int)==1&&(dn items.size items.size hi-dn items.size 0 lo)==items.size)=true):=by
  intro q;rw[Bool.and_eq_true,Bool.and_eq_true] at q;have q1:((dn items.size 0 lo:Nat):Int)=0:=eq_of_beq q.1.1;have q2:dn items.size items.size hi-dn items.size 0 lo=items.size:=eq_of_beq q.2;exact hw ⟨by omega,by omega⟩
 show wpAny _ _ (if(((dn items.size 0 lo:Nat):Int)==0&&(1:Int)==1&&(dn items.size items.size hi-dn items.size 0 lo)==items.size)=true then _ else _) _ _ s;rw[if_neg K9,abt]
 first
  |exact wpAny_bind (m:=Builtin.Tuple.tupleExact _) (wpAny_newObj_type (wpAny_pure ⟨_,rfl,wpAny_pure h⟩) HD)
  |exact wpAny_bind (m:=Builtin.Tuple.tupleExact _) (wpAny_newObj_type (wpAny_bind (wpAny_pure (wpAny_pure ⟨_,rfl,wpAny_pure h⟩))) HD)
  |exact wpAny_bind (wpAny_bind (m:=Builtin.Tuple.tupleExact _) (wpAny_newObj_type (wpAny_pure (wpAny_pure ⟨_,rfl,wpAny_pure h⟩)) HD))
  |exact wpAny_bind (wpAny_bind (m:=Builtin.Tuple.tupleExact _) (wpAny_newObj_type (wpAny_pure ⟨_,rfl,wpAny_pure h⟩) HD))
end
end HT
namespace L2
open PySem PySem.Spec PyProof.Rows
abbrev TO:=St->Hp->(Option Int->Hp->Prop)->Prop
def PO (X:Cx)(e:Option Expr)(t:TO):Prop :=
 ∀(pins:List (Addr×Obj))(s:AQ)(σ:St)(H:Hp)(Q:Option Int->Hp->Prop),Inv X pins σ H s->t σ H Q →
  wpAny (model X.prog X.w) X.A (evalPart e X.env) (λu s'=>∃o H',Inv X pins σ H' s'/\IsPart u o/\Q o H') X.xe s
def abH:TO:=λ_ H Q=>Q none H
def ace (t:TE):TO:=λσ H Q=>t σ H λx H1=>∃i,x=.int i/\Q (some i) H1
theorem kX {ns:List Int}:∀{us:nZ},aG (ns.map V.int) us->IntsAre us ns:=by
 induction ns with
 |nil=>intro us r;rw[List.map_nil] at r;cases r;exact .nil
 |cons n ns ih =>
  intro us r;rw[List.map_cons] at r
  cases r with
  |cons r1 r2 =>
   obtain⟨t,e⟩:=r1;subst e;exact .cons n t (ih r2)
section
variable {X:Cx}{e:Expr}{te:TE}{lo hi:Option Expr}{tl th:TO}{pos p2:Pos}
theorem nR:PO X none abH:=by
 intro pins s σ H Q I h;rw[evalPart_none];exact wpAny_pure ⟨none,H,I,.none,h⟩
theorem oB (h:PE X e te):PO X (some e) (ace te):=by
 intro pins s σ H Q I hw;rw[evalPart_some];refine bN (h pins s σ H _ I hw) λu s1 z'=>?_;obtain⟨x,H1,I1,r1,q1⟩:=z';obtain⟨i,rfl,q⟩:=q1;obtain⟨t,rfl⟩:=r1;exact⟨some i,H1,I1,.int i t,q⟩
def Dt (X:Cx)(r:V->Option Int->Option Int->Hp->VK->Prop):Prop :=
 ∀(pins:List (Addr×Obj))(s:AQ)(σ:St)(H:Hp)(x:V)(v vl vu:Value)(lo hi:Option Int)(sl:Addr)(Q:VK),Inv X pins σ H s->aE x v->s.heap.IsSliceOf sl vl vu .none->IsPart vl lo->IsPart vu hi->r x lo hi H Q →
  ∃T id,typeLookup (.type T) "__getitem__"=pure (some (.builtin id))/\s.TypeIs v T/\wpAny (model X.prog X.w) X.A (getItem v (.ref sl)) (EP X pins σ Q) X.xe s
def abi (r:V->Option Int->Option Int->Hp->VK->Prop)(te:TE)(tl th:TO):TE:=λσ H Q=>te σ H λx H1=>tl σ H1 λl H2=>th σ H2 λu H3=>r x l u H3 Q
theorem jU {r:V->Option Int->Option Int->Hp->VK->Prop}(hr:Dt X r)(he:PE X e te)(hl:PO X lo tl)(hu:PO X hi th):PE X (.Subscript e (.Slice lo hi none p2) pos) (abi r te tl th):=by
 intro pins s σ H Q I h;refine Subscript_ (bN (he pins s σ H _ I h) λv s1 z'=>?_);obtain⟨x,H1,I1,r1,q1⟩:=z';refine wpAny_Slice (bN (hl pins s1 σ H1 _ I1 q1) λvl s2 ⟨l,H2,I2,pl,q2⟩=>bN (hu pins s2 σ H2 _ I2 q2) λvu s3 z'=>?_);obtain⟨u,H3,I3,pu,q3⟩:=z';rw[evalPart_none];refine wpAny_pure ?_;have I4:Inv X pins σ H3 {s3 with heap:=s3.heap.push {cls:=.type "slice",data:=.fields #[vl,vu,.none]} }:=I3.kept (t':=s3.toks) λb ob q=>Heap.get?_push_of_some _ q;obtain⟨T,id,hT,ht,hg⟩:=hr pins {s3 with heap:=s3.heap.push {cls:=.type "slice",data:=.fields #[vl,vu,.none]} } σ H3 x v vl vu l u s3.heap.objs.size Q I4 r1 (Heap.IsSliceOf.new ..) pl pu q3;show wpAny (model X.prog X.w) X.A (subscriptTail e (.Slice lo hi none p2) v (.ref s3.heap.objs.size)) (EP X pins σ Q) X.xe {s3 with heap:=s3.heap.push {cls:=.type "slice",data:=.fields #[vl,vu,.none]} };exact tail_any (ops:=[.ref s3.heap.objs.size,v]) ht hT hg (by with_unfolding_all rfl)
def jm (xs:List V)(lo hi:Option Int):List V:=(xs.drop (HT.dn xs.length 0 lo)).take (HT.dn xs.length xs.length hi-HT.dn xs.length 0 lo)
theorem jB (xs:List V)(lo hi:Option Int):(jm xs lo hi).length<=xs.length:=by
 unfold jm;rw[List.length_take,List.length_drop];omega
def acf (K:PySem.W.Frag):V->Option Int->Option Int->Hp->VK->Prop:=λx lo hi H Q=>∃a xs,x=.ref a/\bV K H a xs /\
 ¬(HT.dn xs.length 0 lo=0/\HT.dn xs.length xs.length hi=xs.length)/\∀p,H p=none->Q (.ref p) (upd H p (.tup (jm xs lo hi)))
theorem ach:Dt X (acf X.K):=by
 intro pins s σ H x v vl vu lo hi sl Q I rx hs pl pu h;obtain⟨a,xs,rfl,hx,hw,q⟩:=h
 cases rx
 obtain⟨its,r,ht,hz⟩:=I.tuple hx
 have hlen:its.toArray.size=xs.length:=by rw[List.size_toArray];exact r.length.symm
 refine⟨"tuple",_,PyProof.Rows.slot_tuple_getitem.lookup,ht.typeIs,?_⟩;refine HT.aa4 ht hs pl pu (by rw[hlen];exact hw) ?_ (by rw[hlen];exact hz);rw[hlen];refine⟨.ref s.heap.objs.size,_,I.laid (t':=s.toks) (o:=.tup (jm xs lo hi)) (λb ob q=>Heap.get?_push_of_some _ q) (Nat.le_refl _) ?_,rfl,q _ (I.hok.fresh (Nat.le_refl _))⟩;exact⟨Nat.le_trans (jB xs lo hi) hz,_,(r.drop (HT.dn xs.length 0 lo)).take (HT.dn xs.length xs.length hi-HT.dn xs.length 0 lo),IsTup.new _ _⟩
end
def wR (n:Nat)(i:Int):Option Nat:=if 0<=i then(if i<n then some i.toNat else none) else if -(n:Int)<=i then some (i+n).toNat else none
def ml {α:Type}(xs:List α)(i:Int):Option α:=(wR xs.length i).bind λj=>xs[j]?
variable {n:Nat}
theorem tI {i:Int}{j:Nat}(h:wR n i=some j):seqIndex? i n=some j/\j<n/\-(n:Int)<=i/\i<n:=by
 unfold wR at h
 by_cases h0:0<=i
 ·rw[if_pos h0] at h
  by_cases h1:i<n
  ·rw[if_pos h1] at h;have e:i.toNat=j:=Option.some.inj h;exact⟨by rw[seqIndex_of h0 h1,e],by omega,by omega,h1⟩
  ·rw[if_neg h1] at h;cases h
 ·rw[if_neg h0] at h
  by_cases h1:-(n:Int)<=i
  ·rw[if_pos h1] at h;have e:(i+n).toNat=j:=Option.some.inj h;exact⟨by rw[seqIndex_neg (by omega) h1,e],by omega,h1,by omega⟩
  ·rw[if_neg h1] at h;cases h
theorem sO {α:Type}{xs:List α}{i:Int}{v:α}(h:ml xs i=some v):∃j,seqIndex? i xs.length=some j/\xs[j]?=some v/\j<xs.length/\-(xs.length:Int)<=i/\i<xs.length:=by
 unfold ml at h
 cases e:wR xs.length i with
 |none=>rw[e] at h;cases h
 |some j =>
  rw[e] at h;obtain⟨h1,h2,h3,h4⟩:=tI e;exact⟨j,h1,h,h2,h3,h4⟩
theorem nV {α:Type}{xs:List α}{j:Nat}{v:α}(h:xs[j]?=some v):ml xs (j:Int)=some v:=by
 have hj:j<xs.length:=(List.getElem?_eq_some_iff.mp h).1
 have e:wR xs.length (j:Int)=some j:=by
  unfold wR;rw[if_pos (by omega),if_pos (by omega)];simp
 unfold ml;rw[e];exact h
def aci (b:Expr):Prop:=∀o i,subscripted b false o i=operate [o,i] (getItem o i)
def Bu (X:Cx)(r:R2):Prop :=
 ∀(value slice:Expr)(pins:List (Addr×Obj))(s:AQ)(σ:St)(H:Hp)(x y:V)(v u:Value)(Q:VK),Inv X pins σ H s->aE x v->aE y u->r x y H Q →
  subscripted slice false v u=operate [v,u] (getItem v u)->wpAny (model X.prog X.w) X.A (subscriptTail value slice v u) (EP X pins σ Q) X.xe s
def Eh (X:Cx)(id:String)(r:V->List V->Hp->VK->Prop):Prop :=
 ∀(pins:List (Addr×Obj))(s:AQ)(σ:St)(H:Hp)(x:V)(xs:List V)(v:Value)(us:nZ)(Q:VK),Inv X pins σ H s->aE x v->aG xs us->r x xs H Q →
  wpAny (model X.prog X.w) X.A (call (.builtin id) (v::us)) (EP X pins σ Q) X.xe s
variable {pins:List (Addr×Obj)}{σ:St}{H:Hp}{s:AQ}{xs:List V}{its:nZ}{x:V}{v:Value}
section
variable {X:Cx}{a b:Expr}{ta tb:TE}{pos:Pos}
theorem a9 {r:R2}(hr:Bu X r)(ha:PE X a ta)(hb:PE X b tb)(hs:aci b):PE X (.Subscript a b pos) (ll r ta tb):=by
 intro pins s σ H Q I h;exact Subscript_ (Bv ha hb I h λv u s2 x y H2 I2 rx ry q=>hr a b pins s2 σ H2 x y v u Q I2 rx ry q (hs _ _))
def acj (K:PySem.W.Frag):R2:=λx y H Q=>∃p xs i v,x=.ref p/\y=.int i/\aV K H p xs/\ml xs i=some v/\Q v H
def wd (K:PySem.W.Frag):R2:=λx y H Q=>∃p xs i v,x=.ref p/\y=.int i/\bV K H p xs/\ml xs i=some v/\Q v H
theorem b7:Bu X (acj X.K):=by
 intro value slice pins s σ H x y v u Q I rx ry h hs;obtain⟨p,xs,i,z,rfl,rfl,hq,he,q⟩:=h
 cases rx
 obtain⟨t,rfl⟩:=ry;obtain⟨its,r,pl,hz⟩:=I.list hq;obtain⟨j,h1,h2,h3,h4,h5⟩:=sO he;obtain⟨w,ew,GD⟩:=r.get h2;have hl:=r.length;have hn:=lh;have fin:EP X pins σ Q w s:=⟨z,H,I,GD,q⟩
 by_cases h0:0<=i
 ·have hj:i.toNat=j:=by
   rw[seqIndex_of h0 h5] at h1;exact Option.some.inj h1
  exact item_listR pl.isList h0 (by omega) (by rw[hj];simpa using ew) fin hs
 ·have hj:(i+(its.toArray.size:Int)).toNat=j:=by
   rw[seqIndex_neg (by omega) h4] at h1;rw[List.size_toArray,<-hl];exact Option.some.inj h1
  exact subscriptTail_builtinR (x:=w) pl.isList.typeIs slot_list_getitem.lookup
   (wpAny_getItem_list_neg (Q:=λr s'=>r=w/\EP X pins σ Q r s') pl.isList (by omega) (by rw[List.size_toArray] <;> omega) (by omega) (by rw[hj];simpa using ew) ⟨rfl,fin⟩) hs
theorem bQ:Bu X (wd X.K):=by
 intro value slice pins s σ H x y v u Q I rx ry h hs;obtain⟨p,xs,i,z,rfl,rfl,hq,he,q⟩:=h
 cases rx
 obtain⟨t,rfl⟩:=ry;obtain⟨its,r,pl,hz⟩:=I.tuple hq;obtain⟨j,h1,h2,h3,h4,h5⟩:=sO he;obtain⟨w,ew,GD⟩:=r.get h2;have hl:=r.length;have hn:=lh;have fin:EP X pins σ Q w s:=⟨z,H,I,GD,q⟩
 exact subscriptTail_builtinR (x:=w) pl.typeIs slot_tuple_getitem.lookup
  (getItem_tuple (j:=j) (Q:=λr s'=>r=w/\EP X pins σ Q r s') pl (by omega) (by omega) (by rw[List.size_toArray,<-hl];exact h1) (by simpa using ew) ⟨rfl,fin⟩) hs
theorem qK (its:nZ)(n j:Nat)(u:Value):Obj.mapSeq (·.setIfInBounds j u) {cls:=.type "list",data:=.seq its.toArray n}={cls:=.type "list",data:=.seq (its.set j u).toArray n}:=by
 simp[Obj.mapSeq]
theorem Inv.lst {p:Addr}(I:Inv X pins σ H s)(h:H p=some (.lst xs)):
 ∃(its:nZ)(n:Nat),aG xs its/\s.heap.get? p=some {cls:=.type "list",data:=.seq its.toArray n}/\xs.length<=sizeLine:=by
 obtain⟨z,its,n,r,e⟩:=I.hok p _ h;exact⟨its,n,r,e,z⟩
theorem Inv.ab1 {p:Addr}{ys:List V}{its':nZ}{n':Nat}{f:Obj->Obj}(I:Inv X pins σ H s)(h:H p=some (.lst xs))
 (ho:s.heap.get? p=some {cls:=.type "list",data:=.seq its.toArray n})(hf:f {cls:=.type "list",data:=.seq its.toArray n}={cls:=.type "list",data:=.seq its'.toArray n'})(r:aG ys its')(hz:ys.length<=sizeLine)(t:Nat):
 Inv X pins σ (upd H p (.lst ys)) {s with heap:=s.heap.update p f,toks:=t}:=by
 have e:(s.heap.update p f).get? p=some {cls:=.type "list",data:=.seq its'.toArray n'}:=by
  rw[Heap.get?_update_self f ho (by rw[hf] <;> rfl),hf]
 refine I.write (x:=p) (e:=p) (by rw[h];trivial) (.inl rfl) (λb u hb q=>(Heap.get?_update_other _ _ (Ne.symm hb)).trans q) ⟨_,e⟩ ?_;exact⟨hz,its',n',r,e⟩
def ab8:V->V->V->Hp->(Hp->Prop)->Prop:=λo i v H Q=>∃p xs k j,o=.ref p/\i=.int k/\H p=some (.lst xs)/\wR xs.length k=some j/\Q (upd H p (.lst (xs.set j v)))
theorem oF:CM X ab8:=by
 intro pins s σ H o i v ov iv u Q I ro ri rv h;obtain⟨p,xs,k,j,rfl,rfl,hp,hj,q⟩:=h
 cases ro
 obtain⟨t,rfl⟩:=ri;obtain⟨its,n,r,ho,hz⟩:=I.lst hp;obtain⟨h1,h2,h3,h4⟩:=tI hj;have hl:=r.length;have hn:=lh
 have I':Inv X pins σ (upd H p (.lst (xs.set j v))) {s with heap:=s.heap.update p (Obj.mapSeq (·.setIfInBounds j u))}:=
  I.ab1 hp ho (qK its n j u) (r.set rv j) (by rw[List.length_set];exact hz) s.toks
 by_cases h0:0<=k
 ·have hk:k.toNat=j:=by
   rw[seqIndex_of h0 h4] at h1;exact Option.some.inj h1
  exact PySem.W.ki_setAt ho h0 (by omega) (by rw[List.size_toArray,<-hl];exact h4) (by rw[hk];exact⟨_,I',q⟩)
 ·have hk:(k+(its.toArray.size:Int)).toNat=j:=by
   rw[seqIndex_neg (by omega) h3] at h1;rw[List.size_toArray,<-hl];exact Option.some.inj h1
  exact PySem.W.ki_setBack ho (by omega) (by rw[List.size_toArray,<-hl];exact h3) (by omega) (by rw[hk];exact⟨_,I',q⟩)
theorem nH (lo hi:Option Int)(n:Nat):(sliceBounds lo hi none n).1=((HT.dn n 0 lo:Nat):Int)/\(sliceBounds lo hi none n).2.1=((HT.dn n n hi:Nat):Int)/\(sliceBounds lo hi none n).2.2=1:=by
 refine⟨?_,?_,rfl⟩
 ·cases lo with
  |none=>simp[sliceBounds,HT.dn]
  |some i =>
   simp only[sliceBounds,HT.dn,Option.getD_none,show(1:Int)>0 by decide,if_true]
   by_cases h:i<0
   ·simp only[h,if_true] <;> omega
   ·simp only[h,if_false] <;> omega
 ·cases hi with
  |none=>simp[sliceBounds,HT.dn]
  |some i =>
   simp only[sliceBounds,HT.dn,Option.getD_none,show(1:Int)>0 by decide,if_true]
   by_cases h:i<0
   ·simp only[h,if_true] <;> omega
   ·simp only[h,if_false] <;> omega
theorem lF (its:nZ)(lo hi:Option Int):slicePick its.toArray lo hi none=((its.drop (HT.dn its.length 0 lo)).take (HT.dn its.length its.length hi-HT.dn its.length 0 lo)).toArray:=by
 obtain⟨h1,h2,h3⟩:=nH lo hi its.toArray.size;unfold slicePick;rw[h1,h2,h3];simp only[sliceRange_one,pick_run,List.size_toArray] <;> rfl
def Er (K:PySem.W.Frag):V->Option Int->Option Int->Hp->VK->Prop:=λx lo hi H Q=>∃a xs,x=.ref a/\aV K H a xs/\∀p,H p=none->Q (.ref p) (upd H p (.lst (jm xs lo hi)))
theorem sx:Dt X (Er X.K):=by
 intro pins s σ H x v vl vu lo hi sl Q I rx hs pl pu h;obtain⟨a,xs,rfl,hx,q⟩:=h
 cases rx
 obtain⟨its,r,ht,hz⟩:=I.list hx;have hlen:=r.length;refine⟨"list",_,slot_list_getitem.lookup,ht.isList.typeIs,?_⟩;refine wpAny_getItem_list_slice ht.isList hs pl pu .none (by simp) ?_ (by rw[List.size_toArray] <;> omega);rw[lF,<-hlen];refine⟨.ref s.heap.objs.size,_,I.laid (t':=s.toks) (o:=.lst (jm xs lo hi)) (λb ob q=>Heap.get?_push_of_some _ q) (Nat.le_refl _) ?_,rfl,q _ (I.hok.fresh (Nat.le_refl _))⟩;exact⟨Nat.le_trans (jB xs lo hi) hz,_,0,(r.drop (HT.dn xs.length 0 lo)).take (HT.dn xs.length xs.length hi-HT.dn xs.length 0 lo),Heap.get?_push_size _ rfl⟩
def iT:V->Bool
 | .non=>true
 | .bl _=>true
 | .int _=>true
 | .str _=>true
 |_=>false
def yK:V->V->Bool
 | .non,.non=>true
 | .bl a,.bl b=>a==b
 | .bl a,.int b=>(if a then 1 else 0)==b
 | .int a,.bl b=>a==(if b then 1 else 0)
 | .int a,.int b=>a==b
 | .str a,.str b=>a==b
 |_,_=>false
theorem AN {A:Around}{y:V}{u:Value}(ry:aE y u)(rx:aE x v)(fy:iT y=true)(fx:iT x=true):SeqAt.EqAt A s u v (yK y x):=by
 cases y with
 |non =>
  cases ry
  cases x with
  |non=>cases rx;exact SeqAt.EqAt.same _
  |bl b=>cases rx;exact SeqAt.EqAt.none_bool b
  |int b=>obtain⟨t,rfl⟩:=rx;exact SeqAt.EqAt.none_int b t
  |str b=>obtain⟨t,rfl⟩:=rx;exact SeqAt.EqAt.none_str b t
  |_=>exact absurd (show false=true from fx) Bool.false_ne_true
 |bl a =>
  cases ry
  cases x with
  |non=>cases rx;exact SeqAt.EqAt.bool_none a
  |bl b=>cases rx;exact SeqAt.EqAt.bool_bool a b
  |int b=>obtain⟨t,rfl⟩:=rx;exact SeqAt.EqAt.bool_int a b t
  |str b=>obtain⟨t,rfl⟩:=rx;exact SeqAt.EqAt.bool_str a b t
  |_=>exact absurd (show false=true from fx) Bool.false_ne_true
 |int a =>
  obtain⟨t',rfl⟩:=ry
  cases x with
  |non=>cases rx;exact SeqAt.EqAt.int_none a t'
  |bl b=>cases rx;exact SeqAt.EqAt.int_bool a t' b
  |int b=>obtain⟨t,rfl⟩:=rx;exact SeqAt.EqAt.int_int a t' b t
  |str b=>obtain⟨t,rfl⟩:=rx;exact SeqAt.EqAt.int_str a t' b t
  |_=>exact absurd (show false=true from fx) Bool.false_ne_true
 |str a =>
  obtain⟨t',rfl⟩:=ry
  cases x with
  |non=>cases rx;exact SeqAt.EqAt.str_none a t'
  |bl b=>cases rx;exact SeqAt.EqAt.str_bool a t' b
  |int b=>obtain⟨t,rfl⟩:=rx;exact SeqAt.EqAt.str_int a t' b t
  |str b=>obtain⟨t,rfl⟩:=rx;exact SeqAt.EqAt.str_str a t' b t
  |_=>exact absurd (show false=true from fx) Bool.false_ne_true
 |_=>exact absurd (show false=true from fy) Bool.false_ne_true
def ya (x:V)(u:Value):Bool:=match u with
 | .none=>yK .non x
 | .bool b=>yK (.bl b) x
 | .int i _=>yK (.int i) x
 | .str z _=>yK (.str z) x
 |_=>false
theorem wM {y:V}{u:Value}(r:aE y u)(f:iT y=true):ya x u=yK y x:=by
 cases y with
 |non=>cases r;rfl
 |bl b=>cases r;rfl
 |int i=>obtain⟨t,rfl⟩:=r;rfl
 |str z=>obtain⟨t,rfl⟩:=r;rfl
 |_=>exact absurd (show false=true from f) Bool.false_ne_true
theorem ow :∀{xs:List V}{us:nZ},aG xs us->xs.all iT=true->us.any (ya x)=xs.any λy=>yK y x
 |_,_,.nil,_=>rfl
 |y::xs,u::us,.cons r t,f=>by
  rw[List.all_cons,Bool.and_eq_true] at f;rw[List.any_cons,List.any_cons,wM r f.1,ow t f.2]
theorem ky {A:Around}(rx:aE x v)(fx:iT x=true):∀{xs:List V}{us:nZ},aG xs us->xs.all iT=true->∀u∈us,SeqAt.EqAt A s u v (ya x u)
 |_,_,.nil,_=>λu hu=>by cases hu
 |y::xs,u::us,.cons r t,f=>λu' hu=>by
  rw[List.all_cons,Bool.and_eq_true] at f
  rcases List.mem_cons.mp hu with rfl|hu
  ·rw[wM r f.1];exact AN r rx f.1 fx
  ·exact ky rx fx t f.2 u' hu
def zz (x:V)(xs:List V):Bool:=xs.any λy=>yK y x
def EG (K:PySem.W.Frag)(neg:Bool):R2:=λx y H Q=>∃p xs,y=.ref p/\(aV K H p xs\/bV K H p xs)/\iT x=true/\xs.all iT=true/\Q (.bl (if neg then !zz x xs else zz x xs)) H
theorem iO:gy X (compareOp .NotIn) (EG X.K true):=by
 intro pins s σ H x y v u Q I rx ry h;obtain⟨p,xs,rfl,hq,fx,fs,q⟩:=h
 cases ry
 rcases hq with hq|hq
 ·obtain⟨its,r,pl,hz⟩:=I.list hq;refine SeqAt.notIn_listAt (ya x) pl.isList (λw hw=>ky rx fx r fs w (by simpa using hw)) ⟨.bl _,H,I,rfl,?_⟩;rw[show its.toArray.any (ya x)=its.any (ya x) by simp,ow r fs];exact q
 ·obtain⟨its,r,pl,hz⟩:=I.tuple hq;refine SeqAt.notIn_tupleAt (ya x) pl (λw hw=>ky rx fx r fs w (by simpa using hw)) ⟨.bl _,H,I,rfl,?_⟩;rw[show its.toArray.any (ya x)=its.any (ya x) by simp,ow r fs];exact q
theorem bx:cA X (.builtin "len") (λxs H Q=>∃p ys,xs=[.ref p]/\(aV X.K H p ys\/bV X.K H p ys)/\Q (.int ys.length) H):=by
 intro pins s σ H xs us Q I r h;obtain⟨p,ys,rfl,hq,q⟩:=h;obtain⟨u,rfl,rx⟩:=eQ r
 cases rx
 have hn:=lh
 rcases hq with hq|hq
 ·obtain⟨its,r',pl,hz⟩:=I.list hq;have hlen:=r'.length;exact Calls.call_len_list pl.isList (by simp only[List.size_toArray] <;> omega) ⟨.int ys.length,H,I.tok _,⟨s.toks+1,by rw[List.size_toArray,hlen]⟩,q⟩
 ·obtain⟨its,r',pl,hz⟩:=I.tuple hq;have hlen:=r'.length;exact len_tuple pl (by simp only[List.size_toArray] <;> omega) ⟨.int ys.length,H,I.tok _,⟨s.toks+1,by rw[List.size_toArray,hlen]⟩,q⟩
theorem ck:cA X (.type "list") (λxs H Q=>∃p ys,xs=[.ref p]/\(aV X.K H p ys\/bV X.K H p ys)/\∀l,H l=none->Q (.ref l) (upd H l (.lst ys))):=by
 intro pins s σ H xs us Q I r h;obtain⟨p,ys,rfl,hq,q⟩:=h;obtain⟨u,rfl,rx⟩:=eQ r
 cases rx
 have fin:∀(its:nZ),aG ys its->ys.length<=sizeLine->∀(h':Heap)(c':Nat),(∀b o',s.heap.get? b=some o'->h'.get? b=some o') →
  h'.get? s.heap.objs.size=some {cls:=.type "list",dict:=none,data:=.seq its.toArray c',slots:=#[]}->EP X pins σ Q (.ref s.heap.objs.size) {s with heap:=h'}:=λits r' hz h' c' kp e =>
  ⟨.ref s.heap.objs.size,_,I.laid (t':=s.toks) kp (Nat.le_refl _) (show bc X.prog X.w _ h' _ (.lst ys) from⟨hz,its,c',r',e⟩),rfl,q _ (I.hok.fresh (Nat.le_refl _))⟩
 rcases hq with hq|hq
 ·obtain⟨its,r',pl,hz⟩:=I.list hq;have hlen:=r'.length;obtain⟨o,ho,hc,n,hd⟩:=pl.isList;exact call_list_seq p (.inl rfl) ho hc hd (λh' c' kp e=>fin its r' hz h' c' kp e) (by simp only[List.size_toArray] <;> omega)
 ·obtain⟨its,r',pl,hz⟩:=I.tuple hq;have hlen:=r'.length;obtain⟨o,ho,hc,n,hd⟩:=pl;exact call_list_seq p (.inr rfl) ho hc hd (λh' c' kp e=>fin its r' hz h' c' kp e) (by simp only[List.size_toArray] <;> omega)
theorem lG:cA X (.type "tuple") (λxs H Q=>∃p ys,xs=[.ref p]/\((aV X.K H p ys/\∀l,H l=none->Q (.ref l) (upd H l (.tup ys)))\/(bV X.K H p ys/\Q (.ref p) H))):=by
 intro pins s σ H xs us Q I r h;obtain⟨p,ys,rfl,h⟩:=h;obtain⟨u,rfl,rx⟩:=eQ r
 cases rx
 rcases h with⟨hq,q⟩|⟨hq,q⟩
 ·obtain⟨its,r',pl,hz⟩:=I.list hq;have hlen:=r'.length;refine call_tuple_list pl.isList (λh' kp=>?_) (by simp only[List.size_toArray] <;> omega);have I1:Inv X pins σ H {s with heap:=h'}:=I.kept (t':=s.toks) kp
  have I2:Inv X pins σ (upd H h'.objs.size (.tup ys)) {s with heap:=h'.push {cls:=.type "tuple",data:=.seq its.toArray} }:=
   I1.laid (t':=s.toks) (λb o e=>Heap.get?_push_of_some _ e) (Nat.le_refl _) (show bc X.prog X.w _ _ _ (.tup ys) from⟨hz,its,r',IsTup.new _ _⟩)
  exact⟨.ref h'.objs.size,_,I2,rfl,q _ (I1.hok.fresh (Nat.le_refl _))⟩
 ·obtain⟨its,r',pl,hz⟩:=I.tuple hq;exact call_tuple_same pl ⟨.ref p,H,I,rfl,q⟩
def DI (K:PySem.W.Frag)(T:String)(x:V)(H:Hp):Prop:=match x with
 | .str _=>T="str"
 | .int _=>T="int"
 | .ref p=>(T="list"/\∃xs,aV K H p xs)\/(T="tuple"/\∃o,K.lookup p=some o/\o.cls=.type "tuple"/\o.dict=none) \/
  (T="dict"/\((∃Fe,H p=some (.dK Fe))\/∃Fe,H p=some (.dT Fe)))\/(T="set"/\∃S n,H p=some (.set S n))
 |_=>False
theorem vX {T:String}(I:Inv X pins σ H s)(r:aE x v)(ty:DI X.K T x H):
 s.TypeIs v T/\∀a,v=.ref a->∃ob,s.heap.get? a=some ob/\ob.dict=none:=by
 cases x with
 |str z =>
  obtain⟨t,rfl⟩:=r
  cases(show T="str" from ty)
  exact⟨typeIs_str s z t,λ_ e=>nomatch e⟩
 |int i =>
  obtain⟨t,rfl⟩:=r
  cases(show T="int" from ty)
  exact⟨typeIs_int s i t,λ_ e=>nomatch e⟩
 |ref p =>
  cases r
  rcases ty with⟨rfl,xs,hq⟩|⟨rfl,o,hk,hc,hd⟩|⟨rfl,hk⟩|⟨rfl,S,n,hk⟩
  ·obtain⟨its,_,pl,_⟩:=I.list hq;refine⟨pl.isList.typeIs,λa e=>?_⟩
   cases e
   obtain⟨o,n,e,c,hd,_⟩:=pl;exact⟨o,e,hd⟩
  ·refine⟨⟨o,I.kIn p o hk,hc⟩,λa e=>?_⟩
   cases e
   exact⟨o,I.kIn _ o hk,hd⟩
  ·have z:∃o,s.heap.get? p=some o/\o.ExactDict:=by
    rcases hk with⟨Fe,hk⟩|⟨Fe,hk⟩
    ·obtain⟨_,_,_,_,o,_,_,e,ex,_⟩:=I.hok p _ hk;exact⟨o,e,ex⟩
    ·obtain⟨_,_,_,_,o,_,_,e,ex,_⟩:=I.hok p _ hk;exact⟨o,e,ex⟩
   obtain⟨o,e,ex⟩:=z;refine⟨⟨o,e,ex.1⟩,λa e2=>?_⟩
   cases e2
   exact⟨o,e,ex.2.1⟩
  ·obtain⟨o,_,_,_,e,ex,_⟩:=I.hok p _ hk;refine⟨⟨o,e,ex.1⟩,λa e2=>?_⟩
   cases e2
   exact⟨o,e,ex.2.1⟩
 |_=>exact False.elim ty
def El (K:PySem.W.Frag)(T:String)(r:V->List V->Hp->VK->Prop)(to:TE):TE:=λσ H Q=>to σ H λx H1=>DI K T x H1/\r x [] H1 Q
def Fb (K:PySem.W.Frag)(T:String)(r:V->List V->Hp->VK->Prop)(to:TE)(t:TA):TE:=λσ H Q=>to σ H λx H1=>DI K T x H1/\t σ H1 λxs H2=>r x xs H2 Q
variable {o e:Expr}{es:Aw}{to:TE}{t:TA}{name:Str}{apos Fx:Pos}{T id:String}{r:V->List V->Hp->VK->Prop}
theorem qt (pa:PlainAttrs T)(slot:Slot T name id)(Sh:typeOf (.builtin id)=pure (.type "method_descriptor"))(hm:Eh X id r)(ho:PE X o to)
 (GU:attributeBase o name X.env (eval o X.env)=eval o X.env:=by rfl)(GV:(apos.endLine==Fx.line)=true:=by rfl):PE X (.Call (.Attribute o name apos) [] [] Fx) (El X.K T r to):=by
 intro pins s σ H Q I h;refine wpAny_Call_method0_late GU GV (bN (ho pins s σ H _ I h) λv s1 z'=>?_);obtain⟨x,H1,I1,r1,ty,q1⟩:=z';obtain⟨h1,h2⟩:=vX I1 r1 ty;exact⟨T,id,pa,slot,Sh,h1,h2,Calls.callWith_builtin rfl (PySem.evalArgs_none (hm pins s1 σ H1 x [] v [] Q I1 r1 .nil q1))⟩
theorem rW (pa:PlainAttrs T)(slot:Slot T name id)(Sh:typeOf (.builtin id)=pure (.type "method_descriptor"))(hm:Eh X id r)(ho:PE X o to)(ha:PA X (e::es) t)
 (GU:attributeBase o name X.env (eval o X.env)=eval o X.env:=by rfl)
 (Si:((backTo Fx (starEach (e::es) X.env)).all (λx=>!x.1)&&(backToKw Fx (keywordEach [] X.env)).all (λx=>x.1.isSome)
  && decide ((e::es).length+([]:List Keyword).length+(if([]:List Keyword).isEmpty then 0 else 1)<30))=true:=by rfl)
 (GV:(apos.endLine==Fx.line)=true:=by rfl)(hs:starEach (e::es) X.env=(false,eval e X.env):: starEach es X.env:=by rfl)(La:(backTo Fx (starEach es X.env)).any (·.1)=false:=by rfl):
 PE X (.Call (.Attribute o name apos) (e::es) [] Fx) (Fb X.K T r to t):=by
 intro pins s σ H Q I h;refine wpAny_Call_method_late GU Si GV rfl (bN (ho pins s σ H _ I h) λv s1 z'=>?_);obtain⟨x,H1,I1,r1,ty,q1⟩:=z';obtain⟨h1,h2⟩:=vX I1 r1 ty;refine⟨T,id,pa,slot,Sh,h1,h2,?_⟩;have hA:=ha Fx pins s1 σ H1 _ I1 q1;rw[hs] at hA |-;refine Calls.callWith_builtin (by show(false || (backTo Fx (starEach es X.env)).any (·.1))=false;rw[La] <;> rfl) (Calls.evalArgs_plain ?_);exact bN hA λus s2 ⟨vs,H2,I2,r2,q2⟩=>hm pins s2 σ H2 x vs v us Q I2 r1 r2 q2
/- xs.append(e),list.index on a M1 tuple .. are Eh facts of 06m -/
end
def EN (X:Cx)(id:String)(r:V->List V->Hp->VK->Prop):Prop :=
 ∀(pins:List (Addr×Obj))(s:AQ)(σ:St)(H:Hp)(x:V)(xs:List V)(v:Value)(us:nZ)(Q:VK),Inv X pins σ H s->aE x v->aG xs us->r x xs H Q →
  wpAny (model X.prog X.w) X.A (call (.builtin id) (v::us)) (EP X pins σ Q) X.xe s
theorem aG.one:∀{x:V}{us:nZ},aG [x] us->∃u,us=[u]/\aE x u
 |_,_,.cons r .nil=>⟨_,rfl,r⟩
theorem aG.zero:∀{us:nZ},aG [] us->us=[]
 |_,.nil=>rfl
theorem aG.dropLast {us:nZ}(h:aG xs us):aG xs.dropLast us.dropLast:=by
 induction h with
 |nil=>exact .nil
 |cons r t ih =>
  cases t with
  |nil=>exact .nil
  |cons q t'=>exact .cons r ih
theorem aG.rep {us:nZ}(h:aG xs us):∀k:Nat,aG (List.replicate k xs).flatten (List.replicate k us).flatten
 |0=>.nil
 |k+1=>by
  rw[List.replicate_succ,List.replicate_succ,List.flatten_cons,List.flatten_cons];exact aG.append h (aG.rep h k)
theorem rl {α:Type}(l:List α):l.eraseIdx (l.length-1)=l.dropLast:=by
 induction l with
 |nil=>rfl
 |cons a r ih =>
  cases r with
  |nil=>rfl
  |cons b r =>
   have e:(a::b::r).length-1=((b::r).length-1)+1:=by
    have h1:(a::b::r).length=r.length+2:=rfl;have h2:(b::r).length=r.length+1:=rfl;omega
   rw[e,List.eraseIdx_cons_succ,ih]
   all_goals rfl
theorem lR (its:nZ):∀(k:Nat)(acc:nZ),
 List.foldl (λx1 x2=>x1++x2) acc.toArray (List.replicate k its.toArray)=(acc++(List.replicate k its).flatten).toArray
 |0,acc=>by simp
 |k+1,acc=>by
  have e:acc.toArray++its.toArray=(acc++its).toArray:=by simp
  have e2:(acc++its)++(List.replicate k its).flatten=acc++(List.replicate (k+1) its).flatten:=by
   rw[List.replicate_succ,List.flatten_cons,List.append_assoc]
  rw[<-e2,<-lR its k (acc++its),<-e,List.replicate_succ,List.foldl_cons]
section
variable {X:Cx}{pins:List (Addr×Obj)}{σ:St}{H:Hp}{s:AQ}{l b:Addr}{xs ys zs:List V}
theorem Inv.ab9 {its':nZ}{f:Array Value->Array Value}{t':Nat}(I:Inv X pins σ H s)(hH:H l=some (.lst xs))
 (e:s.heap.get? l=some {cls:=.type "list",data:=.seq its.toArray n})(hf:f its.toArray=its'.toArray)(hv:aG ys its')(hz:ys.length<=sizeLine):
 Inv X pins σ (upd H l (.lst ys)) {s with heap:=s.heap.update l (Obj.mapSeq f),toks:=t'}:=by
 have q:=PySem.IsL.update e f;rw[hf] at q;refine I.write (x:=l) (e:=l) (by rw[hH];exact trivial) (.inl rfl) (λb' u hb hu=>(Heap.get?_update_other s.heap (Obj.mapSeq f) (Ne.symm hb)).trans hu) ⟨_,q⟩ ?_;exact⟨hz,its',_,hv,q⟩
theorem Inv.aca {t':Nat}(I:Inv X pins σ H s)(hv:aG ys its)(hz:ys.length<=sizeLine):
 Inv X pins σ (upd H s.heap.objs.size (.lst ys)) {s with heap:=s.heap.push {cls:=.type "list",data:=.seq its.toArray},toks:=t'}:=
 I.laid (λ_ _ q=>Heap.get?_push_of_some _ q) (Nat.le_refl _) ⟨hz,its,0,hv,Heap.get?_push_size _ rfl⟩
theorem Inv.fresh (I:Inv X pins σ H s):H s.heap.objs.size=none:=I.hok.fresh (Nat.le_refl _)
theorem Inv.aby (I:Inv X pins σ H s)(hH:H l=some (.lst xs)):xs.length<=sizeLine/\∃(its:nZ)(n:Nat),aG xs its/\xs.length=its.length/\s.heap.get? l=some {cls:=.type "list",data:=.seq its.toArray n}:=by
 obtain⟨z,its,n,r,e⟩:=I.hok l _ hH;exact⟨z,its,n,r,r.length,e⟩
theorem xt (h:n<=sizeLine):Builtin.List.listTooLong n=false:=by
 unfold Builtin.List.listTooLong;exact decide_eq_false (by omega)
end
section
variable {X:Cx}
def abI:V->List V->Hp->VK->Prop:=λx vs H Q=>∃l xs y,x=.ref l/\vs=[y]/\H l=some (.lst xs)/\xs.length<sizeLine/\Q .non (upd H l (.lst (xs++[y])))
theorem gZ:EN X "list.append" abI:=by
 intro pins s σ H x vs v us Q I rx rv h;obtain⟨l,xs,y,rfl,rfl,hH,hz,q⟩:=h
 cases rx
 obtain⟨u,rfl,ru⟩:=rv.one;obtain⟨z,its,n,r,hl,e⟩:=I.aby hH;refine call_meets F.slot_list_append ⟨_,e,rfl⟩ F.entry_list_append (F.args_list_append_2 _ _) (PySem.list_append l its.toArray n u (by rw[List.size_toArray];omega)) ⟨e,?_⟩;refine⟨.non,_,I.ab9 (its':=its++[u]) hH e (by simp) (r.append (.cons ru .nil)) ?_,rfl,q⟩;rw[List.length_append,List.length_singleton];omega
def acp:V->List V->Hp->VK->Prop:=λx vs H Q=>∃l xs y,x=.ref l/\vs=[]/\H l=some (.lst xs)/\xs[xs.length-1]?=some y/\Q y (upd H l (.lst xs.dropLast))
theorem qO:EN X "list.pop" acp:=by
 intro pins s σ H x vs v us Q I rx rv h;obtain⟨l,xs,y,rfl,rfl,hH,hy,q⟩:=h
 cases rx
 have ZZ:=rv.zero;subst ZZ;obtain⟨z,its,n,r,hl,e⟩:=I.aby hH;obtain⟨u,hu,ru⟩:=r.get hy
 have M3:its.toArray[its.toArray.size-1]?=some u:=by
  show its.toArray[its.length-1]?=some u;rw[<-Array.getElem?_toList,<-hl];exact hu
 refine call_meets F.slot_list_pop ⟨_,e,rfl⟩ F.entry_list_pop (F.args_list_pop_1 _) (MeetsSeq.list_pop_last l its.toArray n u M3 (by rw[List.size_toArray];omega)) ⟨e,?_⟩;refine⟨y,_,I.ab9 (its':=its.dropLast) hH e ?_ r.dropLast ?_,ru,q⟩
 ·show its.toArray.eraseIdxIfInBounds (its.toArray.size-1)=its.dropLast.toArray;rw[List.size_toArray,List.eraseIdxIfInBounds_toArray,rl]
 ·rw[List.length_dropLast];omega
def acq:R2:=λx y H Q=>∃l b xs zs,x=.ref l/\y=.ref b/\H l=some (.lst xs)/\H b=some (.lst zs)/\xs.length+zs.length<=sizeLine/\∀p,H p=none->Q (.ref p) (upd H p (.lst (xs++zs)))
theorem z9:gy X (binaryOp .Add) acq:=by
 intro pins s σ H x y v u Q I rx ry h;obtain⟨l,b,xs,zs,rfl,rfl,hH,hB,hz,q⟩:=h
 cases rx
 cases ry
 obtain⟨z,its,n,r,hl,e⟩:=I.aby hH;obtain⟨z2,Fq,n2,r2,Hs,e2⟩:=I.aby hB;refine PySem.P.add_list e e2 ?_ (by rw[List.size_toArray,List.size_toArray];omega)
 have ea:its.toArray++Fq.toArray=(its++Fq).toArray:=by simp
 rw[ea];exact⟨.ref _,_,I.aca (t':=s.toks) (r.append r2) (by rw[List.length_append];omega),rfl,q _ I.fresh⟩
def acr:R2:=λx y H Q=>∃l k xs,x=.ref l/\y=.int k/\H l=some (.lst xs)/\-(2^63)<=k/\k<2^63/\xs.length*k.toNat<=sizeLine /\
 ∀p,H p=none->Q (.ref p) (upd H p (.lst (List.replicate k.toNat xs).flatten))
theorem zb {α:Type}(xs:List α)(k:Nat):(List.replicate k xs).flatten.length=k*xs.length:=by
 induction k with
 |zero=>simp
 |succ k ih=>rw[List.replicate_succ,List.flatten_cons,List.length_append,ih,Nat.succ_mul,Nat.add_comm]
theorem wX:gy X (binaryOp .Mult) acr:=by
 intro pins s σ H x y v u Q I rx ry h;obtain⟨l,k,xs,rfl,rfl,hH,h1,h2,hz,q⟩:=h
 cases rx
 obtain⟨t,rfl⟩:=ry;obtain⟨z,its,n,r,hl,e⟩:=I.aby hH
 have hlen:its.toArray.size*k.toNat<=sizeLine:=by rw[List.size_toArray,<-hl];exact hz
 have Sj:¬its.toArray.size*k.toNat>(2^63-1)/8:=by
  have:(sizeLine:Nat)<=(2^63-1)/8:=by decide
  omega
 have Sk:¬(!Builtin.List.listFitsIndex k)=true:=by
  rw[fitsIndex_both h1 h2];exact Bool.false_ne_true
 have M4:¬Builtin.List.listTooLong (its.toArray.size*k.toNat)=true:=by
  rw[xt hlen];exact Bool.false_ne_true
 have Sl:List.foldl (λx1 x2=>x1++x2) #[] (List.replicate (if its.toArray.isEmpty=true then 0 else k.toNat) its.toArray)=(List.replicate k.toNat its).flatten.toArray:=by
  have f0:∀m:Nat,List.foldl (λx1 x2=>x1++x2) #[] (List.replicate m its.toArray)=(List.replicate m its).flatten.toArray:=λm=>by
   have:=lR its m [];rw[List.nil_append] at this;exact this
  rw[f0]
  cases its with
  |nil=>simp
  |cons a r'=>rw[if_neg (by simp)]
 refine wpAny_binaryOp_repeat_ref (T:="list") (U:="int") (by decide) ⟨_,e,rfl⟩ (λs'=>typeIs_int s' k t) noFill_list_mul F.fills_int_mul F.slot_int_rmul repeat_list F.slot_int_index.lookup
  (call_meets F.slot_int_rmul (typeIs_int s k t) F.entry_int_rmul (F.args_int_rmul_2 _ _) (int___rmul___int_list k t l its.toArray n)
   ⟨e,rfl,⟨_,e,rfl⟩,call_meets F.slot_list_mul ⟨_,e,rfl⟩ F.entry_list_mul (F.args_list_mul_2 _ _) (AutoListH.list___mul___list_int_3 l its.toArray n k t Sk Sj M4) ⟨e,?_⟩⟩)
 rw[Sl];exact⟨.ref _,_,I.aca (t':=s.toks) (r.rep k.toNat) (by rw[zb,Nat.mul_comm];exact hz),rfl,q _ I.fresh⟩
end
end L2
namespace Xq
open PySem PySem.W PySem.Calls PyProof.Rows
theorem jH {P:Params}{h:Heap}:∀(ns:List Int)(vs:nZ),WellAll P h vs (ns.map WData.int)->IntsAre vs ns:=by
 intro ns
 induction ns with
 |nil =>
  intro vs w;rw[List.map_nil] at w
  cases w
  exact .nil
 |cons n ns ih =>
  intro vs w;rw[List.map_cons] at w
  cases w with
  |cons a b =>
   cases a
   exact .cons _ _ (ih _ b)
theorem ux {l:OpenLaw}{n:Nat}(hn:l.most=some n){P:Params}{h:Heap}{args:List WData}{vals:nZ}
 (Ju:l.row.toRowW.claim.pre args=true)(Sm:WellAll P h vals args):
 ∃a vs ns,vals=[Value.ref a]/\args=[WData.list (ns.map WData.int)]/\h.get? a=some {cls:=.type "list",data:=.seq vs.toArray}/\IntsAre vs ns/\ns.length<=n:=by
 have Z0:WShape.hasAll [] args [.list .int]=true:=(pre_splitW Ju).1;have hc:l.pre.holds [] {args:=args}=true:=(pre_splitW Ju).2;obtain⟨d,r,rfl,h1,h2⟩:=hasAllW_cons Z0;obtain rfl:=hasAllW_nil h2;obtain⟨xs,rfl,h3⟩:=hasW_list h1;obtain⟨ns,rfl⟩:=items_int h3
 have hlen:ns.length<=n:=by
  unfold OpenLaw.pre at hc
  have h4:(WTm.not (.lt (.lit (.int (n:Int))) (.len (.arg 0)))).holds [] {args:=[.list (ns.map .int)]}=true:=by
   have h4:=(holds_andW hc).1;rw[hn] at h4;exact h4
  have h5:=condW_of h4 (w_not (w_lt w_lit (w_len_list (w_arg rfl))));rw[List.length_map] at h5;refine Nat.le_of_not_lt λq=>?_
  have q':(n:Int)<((ns.length:Nat):Int):=by omega
  first
   |(rw[decide_eq_true q'] at h5;exact absurd h5 (by decide))
   |(simp at h5;omega)
 cases Sm with
 |cons w1 w2 =>
  cases w2
  cases w1 with
  |list ho Lb=>exact⟨_,_,ns,rfl,rfl,ho,jH ns _ Lb,hlen⟩
theorem tL (l:OpenLaw)(args:List WData):l.row.toRowW.claim.post args (.bool true) args=true :=
 postW_of (r:=l.row.toRowW) (X:=(true==true))
  (show WShape.has [] (.bool true) .bool=true by first|rfl|decide|simp[WShape.has,WShape.arms,WShape.armsAll])
  (show(WTm.eq .res (.lit (.bool true))).value [] {args:=args,res:=some (.bool true),after:=args}=some (.bool (true==true)) from w_eq_bool (w_res rfl) w_lit) rfl
theorem oO {l:OpenLaw}{n:Nat}{q:u6}{loose:E4}{XP:(Str->Option Value)->Heap->Prop}{YP:World->Heap->Prop}{d:DefRec}
 (hn:l.most=some n)(M5:d.params.defaults=[])
 (call:∀(w:World)(s₀ s₁:AQ)(mg mb:wg)(fa:Addr)(o:Obj)(pm cd doc:Value)(a:Addr)(vs:nZ)(ns:List Int),
  Ground q loose [] XP w s₀ mg mb s₁.heap->YP w s₁.heap →
  s₁.heap.get? fa=some o->o.data=.func (docDef d.name d.params d.body d.scope pm cd doc)->s₁.heap.CodeRec cd d.name->mg d.name=some (.ref fa) →
  s₁.heap.get? a=some {cls:=.type "list",data:=.seq vs.toArray}->IntsAre vs ns->ns.length<=n->s₁.gens = #[] →
  codeAny (model l.prog w) callerA (.call (.ref fa) ⟨[.ref a],[]⟩) (λr s'=>r=.ok (.ret (.bool true))/\OldK s₁.heap s'.heap/\s'.os=s₁.os/\AllBare s'.gens) s₁):
 WalkO q loose XP YP l.row.toRowW d [] (λf vs=>PySem.call f vs):=by
 intro w s₀ s₁ mg mb G Y fa o pm cd doc dV kV ho hd F3 hD Sn hg args vals as Ju Z1 hrd Sm hlo;obtain rfl:dV=.none:=Dflts.none hD M5;obtain rfl:kV=.none:=Dflts.noKw hD;obtain⟨a,vs,ns,rfl,rfl,Lc,hints,hlen⟩:=ux hn Ju Sm;refine enter_call (codeAny_mono (call w s₀ s₁ mg mb fa o pm cd doc a vs ns G Y ho (fd_plain hd) F3 Sn Lc hints hlen hg) λr s' hq=>?_);obtain⟨rfl,h2,h3,h4⟩:=hq;exact⟨.inl ⟨.bool true,.bool true,[],rfl,λ_=>rfl,.bool true,tL l _,λ_=>⟨List.Pairwise.nil,λ_ hm=>(nomatch hm)⟩⟩,h2,h3,h4⟩
end Xq
namespace L2
open PySem PySem.Spec PyProof.Rows
theorem lX:∀{vs:nZ}{ns:List Int},IntsAre vs ns->aG (ns.map V.int) vs
 |_,_,.nil=>.nil
 |_,_,.cons n t h=>.cons ⟨t,rfl⟩ (lX h)
structure u3 (K:PySem.W.Frag)(x qual:Str)(st:Stmt)(f:Addr)(fd:xR):Prop where
 ex:∃(oc:Value)(od:Bo)(kV doc pm:Value)(an:Bo)(Ff ct:Value)(FA:Dg),
  fd=PySem.W.fnOf x qual (cW st) (cn st) (aq st) .none kV doc pm an Ff ct/\K.lookup f=some ⟨oc,od,.func fd,FA⟩/\PySem.W.codeIn K Ff qual=true
 kp:PySem.W.keepIn K (.ref f)=true
variable {x qual:Str}{st:Stmt}{f:Addr}{fd:xR}{ps:E4}
section
variable {P:u6}{w:World}{K:PySem.W.Frag}{mg:wg}{base:Heap}
theorem u3.binds (F:u3 K x qual st f fd)
 (h:∀(kV doc pm:Value)(an:Bo)(Ff ct:Value)(us:nZ),us.length=ps.length->bindArgs (PySem.W.fnOf x qual (cW st) (cn st) (aq st) .none kV doc pm an Ff ct) ⟨us,[]⟩=pure (ps.zip us)):av K fd ps []:=by
 obtain⟨oc,od,kV,doc,pm,an,Ff,ct,FA,rfl,lk,F3⟩:=F.ex;exact .all (h kV doc pm an Ff ct)
theorem Bq {oc:Value}{od an:Bo}{FA:Dg}{kV doc pm Ff ct:Value}(l:K.lookup f=some ⟨oc,od,.func (PySem.W.fnOf x qual (cW st) (cn st) (aq st) .none kV doc pm an Ff ct),FA⟩)
 (c:PySem.W.codeIn K Ff qual=true)(k:PySem.W.keepIn K (.ref f)=true):u3 K x qual st f (PySem.W.fnOf x qual (cW st) (cn st) (aq st) .none kV doc pm an Ff ct):=⟨⟨oc,od,kV,doc,pm,an,Ff,ct,FA,rfl,l,c⟩,k⟩
end
theorem tU {n:Nat}(h:n<=1000):n<sizeLine:=Nat.lt_of_le_of_lt h (by decide)
variable {pos:Pos}
section
variable {X:Cx}
theorem pv (i:Nat)(hN:X.N[i]?=some x:=by rfl)(hv:Du X.env.scope x:=by first|exact Or.inl rfl|exact Or.inr (Or.inl rfl)|exact Or.inr (Or.inr rfl))(hd:(x==("__debug__":Str))=false:=by decide)
 (F3:(x==("__classdict__":Str))=false:=by decide):PE X (.Name x pos) (cg i):=aaA hN hv hd F3
end
theorem bH {A B:Prop}(h:B):if false=true then A else B:=by
 rw[if_neg Bool.false_ne_true];exact h
theorem bw {A B:Prop}(h:A):if true=true then A else B:=by
 rw[if_pos rfl];exact h
theorem c7 {c A B:Prop} [Decidable c](h1:c->A)(h2:¬c->B):if c then A else B:=by
 by_cases h:c
 ·rw[if_pos h];exact h1 h
 ·rw[if_neg h];exact h2 h
def ay (H H':Hp):Prop:=∀b o,H b=some o->H' b=some o
theorem ay.refl (H:Hp):ay H H:=λ_ _ h=>h
variable {H:Hp}
theorem ay.trans {H1 H2:Hp}(a:ay H H1)(b:ay H1 H2):ay H H2:=λc o h=>b c o (a c o h)
variable {P:u6}{w:World}{h:Heap}{a:Addr}
theorem dX {o:HO}(x:gu P w H h)(hn:H a=none)(new:bc P w (upd H a o) h a o):gu P w (upd H a o) h:=λb u e=>by
 by_cases hb:b=a
 ·subst hb;rw[af] at e;cases e;exact new
 ·rw[ai hb] at e
  exact(x b u e).aaZ (λc v _ q=>q) (λc q=>by rw[ai (au q hn)];exact q) λc xs q=>by rw[ai (au q hn)];exact q
variable {env:Env}
section
variable {prog:u6}{w:World}{A:Around}{R:Result->Shared->Prop}{s:AQ}
theorem m9 {elt target iter:Expr}{ifs:Aw}{scope:Scope}{it acc:Value}(I:Nat->Shared->Prop)
 (turn:∀n s,I n s->wpAny (model prog w) A (pyNext it) (λr s₁=>match r with
  |none=>R (.ok .next) s₁
  |some v=>wpAny (model prog w) A (letOwnedTupleGo target it v) (λ_ s₁=>wpAny (model prog w) A (assign target env v) (λ_ s₂ =>
   wpAny (model prog w) A (forIn ifs true λc r=>if r=true then do let ok <-isTrue c env (eval c env);pure (ForInStep.yield ok) else pure (ForInStep.yield r)) (λok s₃ =>
    if ok=true then wpAny (model prog w) A (eval elt env) (λx s₄ =>
     wpAny (model prog w) A (call (.builtin "list.append") [acc,x]) (λ_ s₅=>∃m,m<n/\I m s₅) (λ_ _=>False) s₄) (λ_ _=>False) s₃
    else ∃m,m<n/\I m s₃) (λ_ _=>False) s₂) (λ_ _=>False) s₁) (λ_ _=>False) s₁) (λ_ _=>False) s)
 (n:Nat)(h:I n s):
 codeAny (model prog w) A (.compLoop (.ListComp elt [⟨target,iter,ifs,0⟩] scope pos) 0 it acc env) R s:=by
 refine codeAny_loop rfl I (λn s hI=>?_) n h;show wpAny _ A ((compTurn (.ListComp elt [⟨target,iter,ifs,0⟩] scope pos) 0 it acc env).onRaise (λx=>do noteFrame x env;theTreesLotGoes x)) _ _ s;refine wpAny_noted ?_;rw[compTurn_list];refine wpAny_bind (wpAny_standAt (wpAny_bind (wpAny_mono (turn n s hI) (λr s₁ h₁=>?_) λ_ _ z=>False.elim z)))
 cases r with
 |none=>exact wpAny_pure h₁
 |some v =>
  refine wpAny_bind (wpAny_mono h₁ (λ_ s₁' Z2=>?_) λ_ _ z=>False.elim z);refine wpAny_bind (wpAny_mono Z2 (λ_ s₂ h₂=>wpAny_bind (wpAny_mono h₂ (λok s₃ h₃=>?_) λ_ _ z=>False.elim z)) λ_ _ z=>False.elim z)
  cases ok with
  |false=>exact wpAny_pure ⟨rfl,h₃⟩
  |true =>
   exact wpAny_bind (wpAny_bind (wpAny_mono h₃ (λx s₄ h₄=>wpAny_bind (wpAny_mono h₄ (λ_ s₅ h₅=>wpAny_pure (wpAny_pure ⟨rfl,h₅⟩)) λ_ _ z=>False.elim z)) λ_ _ z=>False.elim z))
end
def gJ (names:List (Str×NameKind))(env:Env):List (Str×Addr):=((names.filter λx=>x.2 == .free).map λx=>(x.1,(env.cells.lookup x.1).getD 0)).reverse
theorem lz {scope:Scope}(h:∀x∈scope.names,x.2=.free->∃c,env.cells.lookup x.1=some c):closureFor scope env=pure (gJ scope.names env):=by
 have key:∀(names:List (Str×NameKind))(cs:List (Str×Addr)),(∀x∈names,x.2=.free->∃c,env.cells.lookup x.1=some c) →
  (forIn names cs (λ(x:Str×NameKind)(r:List (Str×Addr))=>if(x.2==NameKind.free)=true then(do let a <-cellOf env x.1;pure (ForInStep.yield ((x.1,a):: r))) else pure (ForInStep.yield r)):Sem (List (Str×Addr)))=pure (gJ names env++cs):=by
  intro names
  induction names with
  |nil=>intro cs _;rfl
  |cons x r ih =>
   intro cs hn;rw[List.forIn_cons];obtain⟨n,k⟩:=x
   by_cases hk:k=.free
   ·subst hk;obtain⟨c,hc⟩:=hn (n,.free) List.mem_cons_self rfl
    have Z3:cellOf env n=pure c:=by unfold cellOf;rw[hc]
    simp only[beq_self_eq_true,if_true,Z3,pure_bind];rw[ih _ λy hy=>hn y (List.mem_cons_of_mem _ hy)];simp[gJ,hc]
   ·have hb:(k==NameKind.free)=false:=by simpa using hk
    simp only[hb,Bool.false_eq_true,if_false,pure_bind];rw[ih _ λy hy=>hn y (List.mem_cons_of_mem _ hy)];simp[gJ,hb]
 have z:=key scope.names [] h;rw[List.append_nil] at z;unfold closureFor
 first
  |exact z
  |(simp only[bind_pure];exact z)
  |(simp;exact z)
theorem o7 {names:List (Str×NameKind)}(h:∀x∈names,x.2=.free->∃c,env.cells.lookup x.1=some c){c:Addr}(e:(gJ names env).lookup x=some c):env.cells.lookup x=some c:=by
 have m:=PySem.mem_of_lookup e;unfold gJ at m;rw[List.mem_reverse,List.mem_map] at m;obtain⟨y,hy,e'⟩:=m;rw[List.mem_filter] at hy;obtain⟨c',FV⟩:=h y hy.1 (by simpa using hy.2);rw[FV] at e'
 injection e' with e1 e2
 subst e1;rw[FV];exact congrArg some e2
theorem pj {names:List (Str×NameKind)}{env:Env}(hm:(x,NameKind.free)∈names):∃c,(gJ names env).lookup x=some c:=by
 have m:∃c,(x,c)∈gJ names env:=⟨(env.cells.lookup x).getD 0,by
  unfold gJ;rw[List.mem_reverse,List.mem_map]
  exact⟨(x,.free),List.mem_filter.mpr ⟨hm,rfl⟩,rfl⟩⟩
 obtain⟨c,m⟩:=m
 cases q:(gJ names env).lookup x with
 |some d=>exact⟨d,rfl⟩
 |none =>
  exfalso
  have:∀(l:List (Str×Addr)),(x,c)∈l->l.lookup x≠none:=by
   intro l
   induction l with
   |nil=>intro h;cases h
   |cons p r ih =>
    intro h;rw[List.lookup_cons]
    rcases List.mem_cons.mp h with h|h
    ·subst h;simp
    ·split
     ·simp
     ·exact ih h
  exact this _ m q
def iR (X:Cx)(N:E4)(scope:Scope)(C:Addr)(fp:List Addr)(s:AQ)(H:Hp):Cx where
 prog:=X.prog
 w:=X.w
 K:=X.K
 mg:=X.mg
 base:=X.base
 A:=X.A
 N:=N
 s₀:=s
 H₀:=H
 env:=compEnvC scope (gJ scope.names X.env) C X.env
 outer:=X.stack
 stack:=X.stack
 ex:=fp
 fn:=λ_=>false
 calm:=X.calm
 pn:=[]
 xe:=λ_ _=>False
def σC (nl:Nat)(js:List Nat)(σ:St):St:=List.replicate nl none++js.map λj=>(σ[j]?).join
structure uS (X:Cx)(N:E4)(nl:Nat)(js:List Nat)(osc scope:Scope):Prop where
 out:X.env.scope=osc
 kind:scope.kind=.function
 cell:∀y∈scope.names,y.2≠.cell
 names:∀y∈scope.names,y.2=.local->scope.names.lookup y.1=some .local
 free:∀y∈scope.names,y.2=.free->osc.names.lookup y.1=some .cell\/osc.names.lookup y.1=some .free
 len:N.length=nl+js.length
 src:Paired (λj x=>X.N[j]?=some x/\(x,NameKind.free)∈scope.names) js (N.drop nl)
 acs:∀y∈scope.names,y.2=.free->scope.names.lookup y.1≠some .local
theorem f9 {env:Env}:∀{names:List (Str×NameKind)}{x:Str}{k:NameKind},(∀y∈names,y.2≠.cell) →
 (names.map λ(n,k)=>if(k==NameKind.free&&env.scope.kind == .function&&env.kindOf n==some .cell) then(n,NameKind.cell) else(n,k)).lookup x=some k->(k=.cell\/k=.free)->(x,NameKind.free)∈names
 |[],_,_,_,h,_=>by simp at h
 |(n,k0):: r,x,k,hc,h,hk=>by
  have h:List.lookup x ((if(k0==NameKind.free&&env.scope.kind == .function&&env.kindOf n==some .cell)=true then(n,NameKind.cell) else(n,k0)):: r.map λ(n,k)=>if(k==NameKind.free&&env.scope.kind == .function&&env.kindOf n==some .cell) then(n,NameKind.cell) else(n,k))=some k:=h;have ih:=@f9 env r x k λy hy=>hc y (List.mem_cons_of_mem _ hy)
  by_cases hx:x=n
  ·subst hx
   have M6:k0=.free:=by
    by_cases hb:(k0==NameKind.free&&env.scope.kind == .function&&env.kindOf x==some .cell)=true
    ·have:=(Bool.and_eq_true_iff.mp (Bool.and_eq_true_iff.mp hb).1).1;simpa using this
    ·rw[if_neg hb] at h;simp only[List.lookup_cons,beq_self_eq_true] at h;have e:k0=k:=Option.some.inj h
     rcases hk with z|z
     ·exact absurd (e.trans z) (hc (x,k0) List.mem_cons_self)
     ·exact e.trans z
   subst M6;exact List.mem_cons_self
  ·have hb:(x==n)=false:=by simpa using hx
   refine List.mem_cons_of_mem _ (ih ?_ hk)
   by_cases FV:(k0==NameKind.free&&env.scope.kind == .function&&env.kindOf n==some .cell)=true
   ·rw[if_pos FV] at h;simp only[List.lookup_cons,hb] at h;exact h
   ·rw[if_neg FV] at h;simp only[List.lookup_cons,hb] at h;exact h
variable {pins:List (Addr×Obj)}{σ:St}{s:AQ}{C:Addr}{g:TG}{tt:TT}{te:TE}
section
variable {X:Cx}{tg iter elt:Expr}{ifs:Aw}{scope osc:Scope}{pos:Pos}{N:E4}{nl:Nat}{js:List Nat}
def C7 (X:Cx)(ifs:Aw)(t:TT):Prop :=
 ∀(pins:List (Addr×Obj))(s:AQ)(σ:St)(H:Hp)(Q:Bool->Hp->Prop),Inv X pins σ H s->t σ H Q →
  wpAny (model X.prog X.w) X.A (forIn ifs true λc r=>if r=true then do let ok <-isTrue c X.env (eval c X.env);pure (ForInStep.yield ok) else pure (ForInStep.yield r)) (TP X pins σ Q) X.xe s
def Ee:TT:=λ_ H Q=>Q true H
theorem cZ:C7 X [] Ee:=λ_ _ _ H _ I h=>wpAny_tests_nil ⟨H,I,h⟩
theorem eY {c:Expr}{t:TT}(h:PT X c t):C7 X [c] t:=λpins s σ H Q I hw=>wpAny_tests_one (h pins s σ H Q I hw)
theorem dA {s:AQ}{b:Addr}{h':Heap}(I:Inv X pins σ H s)(f:dq X pins H b)(sb:Heap.SameBut b s.heap h'):Inv X pins σ H {s with heap:=h'}:=
 I.turned (t':=s.toks) (λc o hc e=>(sb.2 c hc).trans e) f.1 f.2.1 f.2.2.2.1 f.2.2.2.2.1 f.2.2.2.2.2
def gR (J:It)(g:TG)(tt:TT)(te:TE)(W:Nat->Nat->List V->St->Hp->Prop)(Fin:List V->Hp->Prop):Prop :=
 ∀i m xs σ' H',W i m xs σ' H'->xs.length<sizeLine/\((J.stop i H'/\Fin xs H') \/
  (J.go i H'/\∀x H2,J.yld i H' x H2->g x σ' H2 λσ3 H3=>tt σ3 H3 λb H4 =>
   if b=true then te σ3 H4 λy H5=>∃m',m'<m/\W (i+1) m' (xs++[y]) σ3 H5 else ∃m',m'<m/\W (i+1) m' xs σ3 H4))
theorem uB {fp:List Addr}{h1:Heap}{tk:Nat}(S:uS X N nl js osc scope)(I:Inv X pins σ H s)(f:∀b∈fp,dq X pins H b)(M7:∀b∈fp,b<s.heap.objs.size)
 (hC:s.heap.objs.size<=C)(old:∀b o,s.heap.get? b=some o->h1.get? b=some o){m1:wg}(Mr:h1.Ns C m1):
 Inv (iR X N scope C fp s H) [] (σC nl js σ) H {s with heap:=h1,toks:=tk}:=by
 have GR:∀y∈scope.names,y.2=.free->X.env.kindOf y.1=some .cell\/X.env.kindOf y.1=some .free:=λy hy hf=>by
  have:=S.free y hy hf;rw[<-S.out] at this;exact this
 have Ht:∀y∈scope.names,y.2=.free->∃c,X.env.cells.lookup y.1=some c:=λy hy hf=>I.ok.has y.1 (GR y hy hf);have sub:∀x c,(gJ scope.names X.env).lookup x=some c->X.env.cells.lookup x=some c:=λx c e=>o7 Ht e
 have M8:∀b∈fp,b∉dW X.stack:=λb hb z=>by
  rcases List.mem_cons.mp (I.aaz b z) with q|q
  ·exact(f b hb).2.1 q
  ·exact(f b hb).2.2.1 q
 refine⟨⟨I.ok.mod,S.kind,I.ok.glob,I.ok.blt,hC,λx y c e1 e2=>I.ok.inj x y c (sub x c e1) (sub y c e2),λx hx=>?_,λx c z _=>absurd z (by show ¬(false=true);decide),I.ok.hd,I.ok.frames,.inl rfl,
  λb hb=>⟨Nat.ne_of_lt (Nat.lt_of_lt_of_le (M7 b hb) hC),λx c e=>(f b hb).2.2.2.2.1 x c (sub x c e)⟩,I.bs,Nat.le_trans I.ok.bsz I.sz,λb o e hb=>?_,M8,I.stack,I.aaE⟩,
  rfl,I.bare,Un.kept old,⟨m1,Mr,λi x v e1 e2 e3=>?_⟩,λx c e=>?_,I.hok.fresh hC,λx c e=>I.aan x c (sub x c e),λp hp=>absurd (show p∈([]:List (Addr×Obj)) from hp) (by simp),I.hok.kept old,?_⟩
 ·have hx:(relabel scope X.env).names.lookup x=some .cell\/(relabel scope X.env).names.lookup x=some .free:=hx
  have m:(x,NameKind.free)∈scope.names:=by
   rcases hx with z|z
   ·exact f9 S.cell z (.inl rfl)
   ·exact f9 S.cell z (.inr rfl)
  exact pj m
 ·rcases(f b hb).2.2.2.1 with z|z
  ·exact I.ok.abb b o e z
  ·exact absurd (Nat.lt_of_lt_of_le (Heap.lt_size e) (Nat.le_trans I.ok.bsz z)) (Nat.lt_irrefl _)
 ·-- JW names
  have e1:N[i]?=some x:=e1;unfold σC at e2
  by_cases hi:i<nl
  ·rw[List.getElem?_append_left (by simpa using hi),List.getElem?_replicate] at e2
   split at e2 <;> cases e2
  ·obtain⟨k,rfl⟩:∃k,i=nl+k:=⟨i-nl,by omega⟩;rw[List.getElem?_append_right (by simp),List.length_replicate,Nat.add_sub_cancel_left,List.getElem?_map] at e2
   cases ej:js[k]? with
   |none=>rw[ej] at e2;cases e2
   |some j =>
    rw[ej] at e2;have e2:some ((σ[j]?).join)=some (some v):=e2;have e2:=Option.some.inj e2
    have e4:σ[j]?=some (some v):=by
     cases q:σ[j]? with
     |none=>rw[q] at e2;cases e2
     |some z=>rw[q] at e2;exact congrArg some e2
    have e5:(N.drop nl)[k]?=some x:=by rw[List.getElem?_drop];exact e1
    have gp:∀{l1:List Nat}{l2:E4}{k:Nat}{j:Nat}{x:Str},Paired (λj x=>X.N[j]?=some x/\(x,NameKind.free)∈scope.names) l1 l2->l1[k]?=some j->l2[k]?=some x->X.N[j]?=some x/\(x,NameKind.free)∈scope.names:=by
     intro l1 l2 k j x p
     induction p generalizing k with
     |nil=>intro h;simp at h
     |cons r _ ih =>
      intro h1 h2
      cases k with
      |zero=>simp at h1 h2;subst h1;subst h2;exact r
      |succ k=>exact ih (by simpa using h1) (by simpa using h2)
    obtain⟨hx,hm⟩:=gp S.src ej e5;have hk:=GR (x,.free) hm rfl;obtain⟨m,hn,hl⟩:=I.loc
    have Z4:Du X.env.scope x:=by
     rcases hk with z|z
     ·exact .inr (.inl z)
     ·exact .inr (.inr z)
    obtain⟨u,r,l⟩:=hl j x v hx e4 Z4;refine⟨u,r,?_⟩
    rcases l with⟨k1,_⟩|⟨_,c,hc,HC⟩
    ·exfalso
     rcases hk with z|z <;> (rw[z] at k1;cases k1)
    ·obtain⟨c',FV⟩:=pj (env:=X.env) hm;have:=sub x c' FV;rw[hc] at this
     cases this
     refine .inr ⟨?_,c,FV,?_⟩
     ·rcases e3 with z|z|z
      ·-- a name of JW Q4 own: no
       exfalso
       have lk:scope.names.lookup x=some .local:=by
        have gen:∀(l:List (Str×NameKind)),(l.map λ(n,k)=>if(k==NameKind.free&&X.env.scope.kind == .function&&X.env.kindOf n==some .cell) then(n,NameKind.cell) else(n,k)).lookup x=some .local->l.lookup x=some .local:=by
         intro l
         induction l with
         |nil=>intro h;simp at h
         |cons p r ih =>
          obtain⟨n,k0⟩:=p;intro h;have h:List.lookup x ((if(k0==NameKind.free&&X.env.scope.kind == .function&&X.env.kindOf n==some .cell)=true then(n,NameKind.cell) else(n,k0)):: r.map λ(n,k)=>if(k==NameKind.free&&X.env.scope.kind == .function&&X.env.kindOf n==some .cell) then(n,NameKind.cell) else(n,k))=some .local:=h
          cases hb:x==n with
          |true =>
           by_cases FV:(k0==NameKind.free&&X.env.scope.kind == .function&&X.env.kindOf n==some .cell)=true
           ·rw[if_pos FV] at h;simp only[List.lookup_cons,hb] at h;cases h
           ·rw[if_neg FV] at h;simp only[List.lookup_cons,hb] at h |-;exact h
          |false =>
           simp only[List.lookup_cons,hb];refine ih ?_
           by_cases FV:(k0==NameKind.free&&X.env.scope.kind == .function&&X.env.kindOf n==some .cell)=true
           ·rw[if_pos FV] at h;simp only[List.lookup_cons,hb] at h;exact h
           ·rw[if_neg FV] at h;simp only[List.lookup_cons,hb] at h;exact h
        exact gen _ z
       exact S.acs (x,.free) hm rfl lk
      ·exact .inl z
      ·exact .inr z
     ·obtain⟨o,ho,hd⟩:=HC;exact⟨o,old _ _ ho,hd⟩
 ·obtain⟨v,o,ho,hd⟩:=I.cell x c (sub x c e);exact⟨v,o,old _ _ ho,hd⟩
 ·show(σC nl js σ).length=N.length;unfold σC;rw[List.length_append,List.length_replicate,List.length_map,S.len]
abbrev yr (ys:nZ)(k:Nat):Obj:={cls:=.type "list",data:=.seq ys.toArray k}
theorem j5 {J:It}{it:Addr}{fp:List Addr}{tn:Nat->Heap->Prop}{W:Nat->Nat->List V->St->Hp->Prop}{Fin:List V->Hp->Prop}
 {E:vy}{RR:Value->Addr->Result->Shared->Prop}
 (S:uS X N nl js osc scope)(hc:X.calm=true)(hg:∀C fp s H,PG (iR X N scope C fp s H) tg g)(ht:∀C fp s H,C7 (iR X N scope C fp s H) ifs tt)(he:∀C fp s H,PE (iR X N scope C fp s H) elt te)
 (I:Inv X pins σ H s)(T:Turn X.prog X.w X.K tg J fp it tn)(st:tn 0 s.heap)(f:∀b∈fp,dq X pins H b)(w0:∃m,W 0 m [] (σC nl js σ) H)(hW:gR J g tt te W Fin)
 (Z5:∀(D C:Addr)(H':Hp)(s':AQ)(xs:List V)(m:wg),Inv X pins σ (upd H' D (.lst xs)) s'->H' D=none->s'.heap.Ns C m->dq X pins (upd H' D (.lst xs)) C->Fin xs H'->RR (.ref D) C (.ok .next) s'):
 wpAny (model X.prog X.w) X.A (newList []) (λacc s₃=>wpAny (model X.prog X.w) X.A (newFunctionEnv scope X.env.globals (gJ scope.names X.env) [] X.env.qual none .none (some X.env)) (λM9 s₄ =>
  codeAny (model X.prog X.w) X.A (.compStart (.ListComp elt [⟨tg,iter,ifs,0⟩] scope pos) 0 (.ref it) acc {M9 with scope:=relabel scope X.env}) (RR acc M9.locals) s₄) E s₃) E s:=by
 have M7:∀b∈fp,b<s.heap.objs.size:=λb hb=>by
  obtain⟨o,e,_⟩:=T.obj 0 _ st b hb;exact Heap.lt_size e
 refine wpAny_newObj_type (wpAny_newFunctionEnv S.cell (by intro y hy;simp at hy) (λh₁ Ld Jv=>?_) S.kind);dsimp only at Ld Jv |-;generalize So:s.heap.push {cls:=.type "list",dict:=none,data:=.seq ([]:nZ).toArray}=H2 at Ld Jv |-
 have hC:H2.objs.size=s.heap.objs.size+1:=by rw[<-So,Heap.size_push]
 have Q5:s.heap.objs.size≠H2.objs.size:=by rw[hC];exact Nat.ne_of_lt (Nat.lt_succ_self _)
 have below:∀b,b<s.heap.objs.size->b≠H2.objs.size/\b≠s.heap.objs.size:=λb hb=>⟨by rw[hC];exact Nat.ne_of_lt (Nat.lt_succ_of_lt hb),Nat.ne_of_lt hb⟩;have old:∀b o,s.heap.get? b=some o->h₁.get? b=some o:=λb o e=>Jv.extBut b o (below b (Heap.lt_size e)).1 (Heap.get?_push_of_some _ (So▸Heap.get?_push_of_some _ e));have Sq:h₁.get? s.heap.objs.size=some {cls:=.type "list",data:=.seq ([]:nZ).toArray 0}:=Jv.extBut _ _ Q5 (Heap.get?_push_of_some _ (So▸Heap.get?_push_size _ rfl))
 have Na:s.heap.objs.size<=H2.objs.size:=by rw[hC];exact Nat.le_succ _
 have Ht:∀y∈scope.names,y.2=.free->∃c,X.env.cells.lookup y.1=some c:=λy hy hf=>by
  have z:=S.free y hy hf;rw[<-S.out] at z;exact I.ok.has y.1 z
 have sub:∀x c,(gJ scope.names X.env).lookup x=some c->X.env.cells.lookup x=some c:=λx c e=>o7 Ht e
 have Z6:∀x c,(gJ scope.names X.env).lookup x=some c->c<s.heap.objs.size:=λx c e=>by
  obtain⟨v,q⟩:=I.cell x c (sub x c e);exact q.lt
 have M8:∀b∈fp,b∉dW X.stack:=λb hb z=>by
  rcases List.mem_cons.mp (I.aaz b z) with q|q
  ·exact(f b hb).2.1 q
  ·exact(f b hb).2.2.1 q
 have Xr:s.heap.objs.size∉dW X.stack:=λz=>by
  rcases List.mem_cons.mp (I.aaz _ z) with q|q
  ·exact absurd I.lt (by rw[<-q];exact Nat.lt_irrefl _)
  ·exact I.ab6 (Nat.le_refl _) q
 have Xs:s.heap.objs.size∉fp:=λz=>Nat.lt_irrefl _ (M7 _ z)
 have Sr:∀{H':Hp}{ob:Obj},(∀b∈fp,H' b=none)->∀b∈fp,dq (iR X N scope H2.objs.size fp s H) [(s.heap.objs.size,ob)] H' b:=λ{H' ob} hn b hb =>
  ⟨hn b hb,(below b (M7 b hb)).1,M8 b hb,.inl hb,λx c e=>(f b hb).2.2.2.2.1 x c (sub x c e),λp hp z=>by
   have e:p=(s.heap.objs.size,ob):=by
    have:p∈[(s.heap.objs.size,ob)]:=hp;simpa using this
   subst e
   exact Xs (by rw[show s.heap.objs.size=b from z];exact hb)⟩
 have Z7:∀{H':Hp},H' s.heap.objs.size=none->dq (iR X N scope H2.objs.size fp s H) [] H' s.heap.objs.size:=λ{H'} hn =>
  ⟨hn,Q5,Xr,.inr (Nat.le_refl _),λx c e=>Nat.ne_of_lt (Z6 x c e),λp hp=>absurd (show p∈([]:List (Addr×Obj)) from hp) (by simp)⟩
 have Nb:∀{σ':St}{H':Hp}{s':AQ}{ys:nZ}{k:Nat},Inv (iR X N scope H2.objs.size fp s H) [] σ' H' s'->H' s.heap.objs.size=none->s'.heap.get? s.heap.objs.size=some (yr ys k) →
  Inv (iR X N scope H2.objs.size fp s H) [(s.heap.objs.size,yr ys k)] σ' H' s':=λ{σ' H' s' ys k} I' hn hl=>I'.aaF λp hp=>by
  have e:p=(s.heap.objs.size,yr ys k):=by simpa using hp
  subst e;exact⟨hl,hn,Q5,Xr,λv z=>by cases z⟩
 have p9:∀s₃:Shared,s₃={s with heap:=h₁,toks:=s.toks+([]:List (Str×Value)).length} →
  codeAny (model X.prog X.w) X.A (.compLoop (.ListComp elt [⟨tg,iter,ifs,0⟩] scope pos) 0 (.ref it) (.ref s.heap.objs.size) (compEnvC scope (gJ scope.names X.env) H2.objs.size X.env))
   (RR (.ref s.heap.objs.size) H2.objs.size) s₃:=by
  rintro s₃ rfl;obtain⟨m0,w0⟩:=w0;have I0:Inv (iR X N scope H2.objs.size fp s H) [] (σC nl js σ) H {s with heap:=h₁,toks:=s.toks+([]:List (Str×Value)).length}:=uB S I f M7 Na old Ld
  refine m9 (λn s'=>∃i σ' H' xs ys k,Inv (iR X N scope H2.objs.size fp s H) [(s.heap.objs.size,yr ys k)] σ' H' s'/\tn i s'.heap/\(∀b∈fp,H' b=none)/\aG xs ys/\W i n xs σ' H') ?_ m0
   ⟨0,σC nl js σ,H,[],[],0,Nb I0 (I.hok.fresh (Nat.le_refl _)) Sq,T.keep _ _ _ st λb _ o e=>old b o e,λb hb=>(f b hb).1,.nil,w0⟩
  rintro n s' ⟨i,σ',H',xs,ys,k,I',GS,Xu,rv,w'⟩;obtain⟨hz,hw⟩:=hW i n xs σ' H' w'
  rcases hw with⟨stop,fin⟩|⟨go,step⟩
  ·refine wpAny_mono (T.done (iR X N scope H2.objs.size fp s H) rfl rfl rfl hc i _ s' σ' H' (λ_ _=>False) I' (Sr Xu) GS stop) (λr s1 z'=>?_) λ_ _ z=>z;obtain⟨hr,I1⟩:=z';subst hr;obtain⟨p1,p2,_⟩:=I1.pin (s.heap.objs.size,yr ys k) (by show _∈([]:List (Addr×Obj))++[_];simp);have u1:Un (dW X.stack) fp H H' s.heap s1.heap:=I1.base
   have u2:Un (dW X.stack) fp H (upd H' s.heap.objs.size (.lst xs)) s.heap s1.heap:=⟨u1.keep,u1.slot,λb o e n hx=>by rw[ai (Nat.ne_of_lt (Heap.lt_size e))];exact u1.free b o e n hx,u1.there,
    λb zs e=>by rw[ai (au (u1.aaq b zs e) p2)];exact u1.aaq b zs e,λb o zs e=>by rw[ai (au (u1.aap b o zs e) p2)];exact u1.aap b o zs e,λb ps e=>by
     obtain⟨mo,q⟩:=u1.aav b ps e
     exact⟨mo,by rw[ai (au q p2)];exact q⟩⟩
   have hk:gu X.prog X.w (upd H' s.heap.objs.size (.lst xs)) s1.heap:=dX I1.hok p2 ⟨Nat.le_of_lt hz,ys,k,rv,p1⟩;have I3:Inv X pins σ (upd H' s.heap.objs.size (.lst xs)) s1:=I.abQ I1.os u2 hk I1.bare λb hb=>⟨(f b hb).2.2.2.1,(f b hb).2.1,(f b hb).2.2.2.2.1,(f b hb).2.2.2.2.2⟩;obtain⟨mm,Z8,_⟩:=I1.loc
   have Z9:upd H' s.heap.objs.size (.lst xs) H2.objs.size=none:=by rw[ai (Ne.symm Q5)];exact I1.free
   exact Z5 _ _ H' s1 xs mm I3 p2 Z8 (I.aa1 Na Z9) fin
  ·refine wpAny_mono (T.item (iR X N scope H2.objs.size fp s H) rfl rfl rfl hc i _ s' σ' H' (λ_ _=>False) I' (Sr Xu) GS go) (λr s1 z'=>?_) λ_ _ z=>z;obtain⟨u,hr,h4⟩:=z';subst hr;refine wpAny_mono h4 (λ_ s2 z'=>?_) λ_ _ z=>z;obtain⟨x,Xv,I2,r2,y2,Jt,fr2⟩:=z';have I2':=I2.pinned (Sr fr2) (T.obj _ _ Jt);refine wpAny_mono (hg _ _ _ _ _ s2 σ' Xv x u _ I2' r2 (step x Xv y2)) (λ_ s3 z'=>?_) λ_ _ z=>z;obtain⟨σ3,H3,I3,q3⟩:=z';refine wpAny_mono (ht _ _ _ _ _ s3 σ3 H3 _ I3 q3) (λok s4 z'=>?_) λ_ _ z=>z;obtain⟨H4,I4,q4⟩:=z'
   have back:∀{s5:AQ}{H5:Hp},Inv (iR X N scope H2.objs.size fp s H) ([(s.heap.objs.size,yr ys k)]++jP fp s2.heap) σ3 H5 s5->tn (i+1) s5.heap/\∀b∈fp,H5 b=none:=λ{s5 H5} I5 =>
    ⟨T.keep _ _ _ Jt λb hb o e=>(I5.pin (b,o) (List.mem_append_right _ (List.mem_append_right _ (gf hb e)))).1,λb hb=>by
     obtain⟨o,e,d⟩:=T.obj _ _ Jt b hb
     exact(I5.pin (b,o) (List.mem_append_right _ (List.mem_append_right _ (gf hb e)))).2.1⟩
   cases ok with
   |false =>
    rw[if_neg Bool.false_ne_true] at q4 |-;obtain⟨m',hm,w4⟩:=q4;exact⟨m',hm,i+1,σ3,H4,xs,ys,k,I4.aaN,(back I4).1,(back I4).2,rv,w4⟩
   |true =>
    rw[if_pos rfl] at q4 |-;refine wpAny_mono (he _ _ _ _ _ s4 σ3 H4 _ I4 q4) (λv s5 z'=>?_) λ_ _ z=>z;obtain⟨y,H5,I5,r5,m',hm,w5⟩:=z';obtain⟨p1,p2,_⟩:=I5.pin (s.heap.objs.size,yr ys k) (List.mem_append_right _ (List.mem_append_left _ (by simp)));obtain⟨MU,RY⟩:=back I5;refine append_at (its:=ys.toArray) p1 (λh' sb hD=>?_) (by rw[List.size_toArray,<-rv.length];exact Nat.le_of_lt hz);have I6:Inv (iR X N scope H2.objs.size fp s H) [] σ3 H5 {s5 with heap:=h'}:=dA (I5.aaF (pins':=[]) λp hp=>absurd hp (by simp)) (Z7 p2) sb;refine⟨m',hm,i+1,σ3,H5,xs++[y],ys++[v],k+1,Nb I6 p2 ?_,T.keep _ _ _ MU λb hb o e=>(sb.2 b λz=>Xs (z▸hb)).trans e,RY,rv.append (.cons r5 .nil),w5⟩;rw[hD];show some _=some (yr (ys++[v]) (k+1));rw[yr,<-List.push_toArray]
 exact codeAny_compStart_list (p9 _ rfl) (T.self X.A 0 _ _ _ (T.keep _ _ _ st λb _ o e=>old b o e) (p9 _ rfl))
def zI (wi:TI)(g:TG)(tt:TT)(te:TE)(nl:Nat)(js:List Nat):TE:=λσ H Q=>wi σ H λJ H1 =>
 ∃W:Nat->Nat->List V->St->Hp->Prop,(∃m,W 0 m [] (σC nl js σ) H1)/\gR J g tt te W λxs H'=>∀D,H' D=none->Q (.ref D) (upd H' D (.lst xs))
theorem ka (S:uS X N nl js osc scope)(I:Inv X pins σ H s):closureFor scope X.env=pure (gJ scope.names X.env):=lz λy hy hf=>by
 have z:=S.free y hy hf;rw[<-S.out] at z;exact I.ok.has y.1 z
theorem cU {wi:TI}(S:uS X N nl js osc scope)(hc:X.calm=true)(hi:PI X tg iter wi)(hg:∀C fp s H,PG (iR X N scope C fp s H) tg g)(ht:∀C fp s H,C7 (iR X N scope C fp s H) ifs tt)
 (he:∀C fp s H,PE (iR X N scope C fp s H) elt te)(hs:∀x,foldedSetIterable iter X.env x=pure x:=by intro _;rfl):
 PE X (.ListComp elt [⟨tg,iter,ifs,0⟩] scope pos) (zI wi g tt te nl js):=by
 intro pins s σ H Q I h;rw[eval_ListComp];refine wpAny_comprehension_free (use:=none) rfl hs (ka S I) S.kind S.names (bN (hi pins s σ H _ I h) λv s1 h1=>bN h1 λQZ s2 h2=>?_);obtain⟨it,fp,tn,J,H2,e,I2,T,Jt,f2,W,w0,hW⟩:=h2;subst e;refine j5 (RR:=λacc C=>compPost (model X.prog X.w) X.A X.xe none (EP X pins σ Q) acc C) S hc hg ht he I2 T Jt f2 w0 hW ?_;intro D C H' s' xs m I3 hD hn fC fin;exact⟨m,hn,λh' sb=>⟨.ref D,_,dA I3 fC sb,rfl,fin D hD⟩⟩
theorem fF {i:Nat}{y:Str}{py Nc:Pos}{wi:TI}(S:uS X N nl js osc scope)(hc:X.calm=true)(hN:X.N.Nodup)(hy:X.N[i]?=some y)(hl:C4 X.env.scope y)(hi:PI X tg iter wi)
 (hg:∀C fp s H,PG (iR X N scope C fp s H) tg g)(ht:∀C fp s H,C7 (iR X N scope C fp s H) ifs tt)(he:∀C fp s H,PE (iR X N scope C fp s H) elt te)
 (hsw:swapsWith (.ListComp elt [⟨tg,iter,ifs,0⟩] scope pos) (some (.Name y py)) Nc.line X.env=pure true)(hs:∀x,foldedSetIterable iter X.env x=pure x:=by intro _;rfl)
 (hf:X.fn y=true\/X.env.scope.names.lookup y=some .local:=by first|exact .inl rfl|exact .inr rfl|assumption):
 PS X (.Assign [.Name y py] (.ListComp elt [⟨tg,iter,ifs,0⟩] scope pos) Nc) (qe (zI wi g tt te nl js) (cc i)):=by
 intro pins s σ H D I h;rw[exec_Assign_Name_used _ _ _ _ hsw];refine wpAny_bind (wpAny_standAt (wpAny_bind ?_));show wpAny _ X.A (do let _ <-comprehension (.ListComp elt [⟨tg,iter,ifs,0⟩] scope pos) scope X.env _ (newList []) false (eval iter X.env) (some (assign (.Name y py) X.env))) _ _ s
 refine wpAny_bind (wpAny_mono (wpAny_comprehension_free (use:=some (assign (.Name y py) X.env)) (Q:=λ_ s'=>SP X pins D .next s') rfl hs (ka S I) S.kind S.names
  (bN (hi pins s σ H _ I h) λv s1 h1=>bN h1 λQZ s2 h2=>?_)) (λ_ s' hq=>wpAny_pure (wpAny_pure hq)) λ_ _ e=>e)
 obtain⟨it,fp,tn,J,H2,e,I2,T,Jt,f2,W,w0,hW⟩:=h2;subst e;refine j5 (RR:=λacc C=>compPost (model X.prog X.w) X.A X.xe (some (assign (.Name y py) X.env)) (λ_ s'=>SP X pins D .next s') acc C) S hc hg ht he I2 T Jt f2 w0 hW ?_;intro Dd C H' s' xs m I3 hD hn fC fin;show wpAny _ X.A (assign (.Name y py) X.env (.ref Dd)) _ _ _;refine wpAny_assign_Name (mi I3 hN hy hl (show aE (.ref Dd) (.ref Dd) from rfl) (λs4 I4 z'=>?_) hf);obtain⟨a,sb,ha⟩:=z';refine⟨m,hn.sameBut sb ?_,λh' sb'=>⟨_,_,dA I4 fC sb',fin Dd hD⟩⟩
 rcases ha with z|z
 ·rw[z];exact fC.2.1
 ·exact λq=>fC.2.2.2.2.1 _ _ z q.symm
end
open PySem.W
def Fc (h B:Heap)(e:Addr)(cls a0 fl:Value)(d:Bo):Prop :=
 ∃(o:Obj)(vs:tN)(T:Addr)(oT:Obj)(ts:tN),h.get? e=some o/\o.dict=d/\(o.cls=cls/\vs[0]?=some a0)/\o.data=.fields vs/\vs[1]?=some (.ref T)/\B.get? T=none/\T≠e/\h.get? T=some oT/\oT.data=.fields ts/\ts[3]?=some fl
structure pb (B:Heap)(l:List Env)(e:Addr)(cls a0 fl:Value)(d:Bo)(h:Heap):Prop where
 st:B.StaysIn h
 new:B.get? e=none
 fr:h.FunFrames B l
 tr:Fc h B e cls a0 fl d
variable {o:Obj}{vs:tN}{l:List Env}{fl:Value}
section
variable {M:Model}{A:Around}{E:vy}{s:AQ}{B:Heap}{env:Env}{outer:List Env}{L e:Addr}{cls a0:Value}{d:Bo}{Q:Unit->Shared->Prop}
theorem rX {hd:Value}{nx:Bool}(Hu:A.frames=some (env::outer))(fr:s.heap.FunFrames B (env::outer))(hf:env.frame=some L)(st:B.StaysIn s.heap)(new:B.get? e=none)
 (he:s.heap.get? e=some o)(GW:o.dict=d)(hc:o.cls=cls)(hv:o.data=.fields vs)(h1:1<vs.size)(h0:vs[0]?=some a0)
 (h:∀h',pb B (env::outer) e cls a0 (rawInt L) d h'->s.heap.UpToSlots h'->Q () {s with heap:=h'}):
 wpAny M A (do let a <-frameOf env;let pl <-entryPlaceOf L nx;let b <-EntryCells.newEntry hd a .none (rawInt L) .none pl;setField (.ref e) 1 b) Q E s:=by
 have nf:e∉(env::outer).filterMap (·.frame):=λm=>by
  obtain⟨_,o',Gb,q⟩:=fr.mem m;rw[he] at Gb;cases Gb;exact q vs hv
 refine wpAny_bind (wpAny_frameOf_fun Hu fr hf λg sl=>wpAny_bind (wpAny_entryPlaceOf λpl FZ=>?_));unfold EntryCells.newEntry newFields;refine wpAny_bind (wpAny_newObj_type ?_ (FZ.sizeOk5 _ _ _ _ _));have e1:g.get? e=some o:=(sl.2.1 e nf).trans he;have Xw:B.StaysIn g:=λb ob q=>(sl.2.1 b λm=>by rw[(fr.mem m).1] at q;cases q).trans (st b ob q);have ne:g.objs.size≠e:=Nat.ne_of_gt (Heap.lt_size e1);have dv:=Obj.data_mapFields hv (·.setIfInBounds 1 (Value.ref g.objs.size))
 have kp:∀(oT:Obj) b ob,b≠e->g.get? b=some ob->((g.push oT).update e (Obj.mapFields (·.setIfInBounds 1 (Value.ref g.objs.size)))).get? b=some ob:=λoT b ob hb q =>
  (Heap.get?_update_other _ _ (Ne.symm hb)).trans (Heap.get?_push_of_some _ q)
 have nr:∀b ob,s.heap.get? b=some ob->(∀ws,ob.data≠.fields ws)->b≠e:=λb ob q hn z=>by rw[z,he] at q;cases q;exact hn vs hv
 refine wpAny_setField (Heap.get?_push_of_some _ e1) hv h1 (h _ ⟨λb ob q=>kp _ b ob (λz=>by rw[z,new] at q;cases q) (Xw b ob q),new,fr.of_keeps λb ob q hn=>?_,?_⟩ λb ob q hn=>?_)
 ·obtain⟨z,q1⟩:=sl.2.2 b ob q;exact⟨_,kp _ b _ (nr b ob q hn) q1,rfl⟩
 ·refine⟨_,_,g.objs.size,_,_,Heap.get?_update_self _ (Heap.get?_push_of_some _ e1) (Obj.isFreed_of_fields dv),?_,⟨(Obj.cls_mapFields _ _).trans hc,by rw[Array.getElem?_setIfInBounds_ne (by decide)];exact h0⟩,dv,by simp[h1],Xw.fresh,ne,
   (Heap.get?_update_other _ _ (Ne.symm ne)).trans (Heap.get?_push_size g rfl),rfl,by first|(simp;done)|(rcases FZ with rfl|⟨_,_,_,_,_,_,_,rfl⟩ <;> simp)⟩
  rw[<-GW]
  cases o
  dsimp only at hv;subst hv;rfl
 ·obtain⟨z,q1⟩:=sl.2.2 b ob q;exact⟨z,kp _ b _ (nr b ob q hn) q1⟩
theorem qU (Hu:A.frames=some (env::outer))(hf:env.frame=some L)(x:pb B (env::outer) e cls a0 .none d s.heap)
 (h:∀h',pb B (env::outer) e cls a0 (rawInt L) d h'->s.heap.UpToSlots h'->Q () {s with heap:=h'}):wpAny M A (noteFrame (.ref e) env) Q E s:=by
 obtain⟨o,vs,T,oT,ts,he,GW,⟨hc,h0⟩,hv,h1,nT,Te,hT,J0,h3⟩:=x.tr;unfold noteFrame;simp only[hf];refine wpAny_bind (wpAny_field he hv h1 ?_);rw[if_pos (by simp)];refine wpAny_bind (wpAny_field hT J0 h3 ?_);rw[if_neg (by simp[rawInt])];refine wpAny_bind (wpAny_setField hT J0 (Array.getElem?_eq_some_iff.mp h3).1 ?_);have ot:∀b,b≠T->(s.heap.update T (Obj.mapFields (·.setIfInBounds 3 Value.none))).get? b=s.heap.get? b:=λb hb=>Heap.get?_update_other _ _ (Ne.symm hb)
 have nr:∀b ob,s.heap.get? b=some ob->(∀ws,ob.data≠.fields ws)->b≠T:=λb ob q hn z=>by rw[z,hT] at q;cases q;exact hn ts J0
 refine rX (s:={s with heap:=s.heap.update T (Obj.mapFields (·.setIfInBounds 3 Value.none))}) Hu (x.fr.of_keeps λb ob q hn=>⟨ob,(ot b (nr b ob q hn)).trans q,rfl⟩) hf (λb ob q=>(ot b λz=>by rw[z,nT] at q;cases q).trans (x.st b ob q)) x.new
  ((ot e (Ne.symm Te)).trans he) GW hc hv (Array.getElem?_eq_some_iff.mp h1).1 h0 λh' y up=>h h' y λb ob q hn=>up b ob ((ot b (nr b ob q hn)).trans q) hn
theorem wK (Hu:A.frames=some (env::outer))(fr:s.heap.FunFrames B (env::outer))(hf:env.frame=some L)(st:B.StaysIn s.heap)(new:B.get? e=none)
 (he:s.heap.get? e=some o)(GW:o.dict=d)(hc:o.cls=cls)(hv:o.data=.fields vs)(h1:vs[1]?=some .none)(h0:vs[0]?=some a0)
 (h:∀h',pb B (env::outer) e cls a0 (rawInt L) d h'->s.heap.UpToSlots h'->Q () {s with heap:=h'}):wpAny M A (noteFrame (.ref e) env) Q E s:=by
 unfold noteFrame;simp only[hf];refine wpAny_bind (wpAny_field he hv h1 ?_);rw[if_neg (by decide)];exact rX Hu fr hf st new he GW hc hv (Array.getElem?_eq_some_iff.mp h1).1 h0 h
theorem fT (x:pb B l e cls a0 fl d s.heap)(h:∀h',pb B l e cls a0 .none d h'->s.heap.UpToSlots h'->Q () {s with heap:=h'}):wpAny M A (setFlight (.ref e) none) Q E s:=by
 obtain⟨o,vs,T,oT,ts,he,GW,hc,hv,h1,nT,Te,hT,J0,h3⟩:=x.tr;have z3:3<ts.size:=(Array.getElem?_eq_some_iff.mp h3).1;have ot:∀b,b≠T->(s.heap.update T (Obj.mapFields (·.setIfInBounds 3 Value.none))).get? b=s.heap.get? b:=λb hb=>Heap.get?_update_other _ _ (Ne.symm hb)
 have nr:∀b ob,s.heap.get? b=some ob->(∀ws,ob.data≠.fields ws)->b≠T:=λb ob q hn z=>by rw[z,hT] at q;cases q;exact hn ts J0
 unfold setFlight;refine wpAny_bind (wpAny_field he hv h1 ?_);rw[if_pos (by simp)];refine wpAny_setField hT J0 z3 (h _ ⟨λb ob q=>(ot b λz=>by rw[z,nT] at q;cases q).trans (x.st b ob q),x.new,x.fr.of_keeps λb ob q hn=>⟨ob,(ot b (nr b ob q hn)).trans q,rfl⟩,?_⟩ λb ob q hn=>⟨ob.slots,(ot b (nr b ob q hn)).trans q⟩);exact⟨o,vs,T,_,_,(ot e (Ne.symm Te)).trans he,GW,hc,hv,h1,nT,Te,Heap.get?_update_self _ hT (Obj.isFreed_of_fields (Obj.data_mapFields J0 _)),Obj.data_mapFields J0 _,by simp[z3]⟩
theorem pb.out (x:pb B (env::outer) e cls a0 fl d h):pb B outer e cls a0 fl d h:=⟨x.st,x.new,x.fr.2.2,x.tr⟩
theorem yC (Hu:A.frames=some (env::outer))(hf:env.frame=some L)(x:pb B (env::outer) e cls a0 .none d s.heap)
 (h:∀h',pb B outer e cls a0 .none d h'->s.heap.UpToSlots h'->Q () {s with heap:=h'}):wpAny M A (leaving env (.ref e)) Q E s:=by
 unfold leaving;exact wpAny_bind (qU Hu hf x λg y up=>fT (s:={s with heap:=g}) y λg2 y2 Ss=>h g2 y2.out (up.trans Ss))
theorem lQ (Hu:A.frames=some (env::outer))(fr:s.heap.FunFrames B (env::outer))(hf:env.frame=some L)(st:B.StaysIn s.heap)(new:B.get? e=none)
 (he:s.heap.get? e=some o)(GW:o.dict=d)(hc:o.cls=cls)(hv:o.data=.fields vs)(h1:vs[1]?=some .none)(h0:vs[0]?=some a0)
 (h:∀h',pb B outer e cls a0 .none d h'->s.heap.UpToSlots h'->Q () {s with heap:=h'}):wpAny M A (leaving env (.ref e)) Q E s:=by
 unfold leaving;exact wpAny_bind (wK Hu fr hf st new he GW hc hv h1 h0 λg y up=>fT (s:={s with heap:=g}) y λg2 y2 Ss=>h g2 y2.out (up.trans Ss))
end
theorem bc.there {o:HO}(x:bc P w H h a o):∃ob,h.get? a=some ob:=by
 cases o with
 |lst xs=>obtain⟨_,_,_,_,e⟩:=x;exact⟨_,e⟩
 |tup xs=>obtain⟨_,_,_,ob,e,_⟩:=x;exact⟨_,e⟩
 |dK Fe=>obtain⟨_,_,_,_,o,_,_,e,_⟩:=x;exact⟨_,e⟩
 |dT Fe=>obtain⟨_,_,_,_,o,_,_,e,_⟩:=x;exact⟨_,e⟩
 |set S n=>obtain⟨o,_,_,_,e,_⟩:=x;exact⟨_,e⟩
 |ins C dx fs=>obtain⟨_,_,_,e,_⟩:=x;exact⟨_,e⟩
 |own y=>obtain⟨_,e⟩:=x;exact⟨_,e⟩
 |xd fs=>obtain⟨_,⟨_,_,_,e,_⟩,_⟩:=x;exact⟨_,e⟩
 |rng lo hi=>obtain⟨_,_,_,e⟩:=x;exact⟨_,e⟩
 |frz ob u=>obtain⟨e,_⟩:=x;exact⟨_,e⟩
 |tbl ps=>exact⟨_,(show h.get? a=some _ from x)⟩
 |met f y=>exact⟨_,(show h.get? a=some _ from x)⟩
 |ext φ=>obtain⟨_,⟨_,e⟩,_⟩:=x;exact⟨_,e⟩
structure CJ (P:u6)(w:World)(l:List Env)(H₀:Hp)(h₀:Heap)(a:Addr)(cls:Value)(H:Hp)(h:Heap)(B:Heap)(a0:Value)(d:Bo):Prop where
 fly:pb B l a cls a0 .none d h
 un:Un (dW l) [] H₀ H h₀ h
 keep:∀b o,h₀.get? b=some o->H₀ b=none->b∉dW l->B.get? b=some o
 there:∀b o,h₀.get? b=some o->b∉dW l->∃o',B.get? b=some o'
 hok:gu P w H B
 new:H a=none
def aN (P:u6)(w:World):wC:=λouter H₀ s₀ E e s'=>∃(a:Addr)(cls a0:Value)(B:Heap)(d:Bo)(H:Hp),e=.ref a/\s'.os=s₀.os/\AllBare s'.gens/\CJ P w outer H₀ s₀.heap a cls H s'.heap B a0 d/\E cls d H
variable {Hv:Heap}{cls:Value}{d:Bo}
section
variable {X:Cx}{pins:List (Addr×Obj)}{σ:St}{H H':Hp}{s s':AQ}{P:u6}{w:World}
theorem cb {base:Heap}(F:h.FunFrames base l){b:Addr}(hb:b∈dW l)(e:h.get? b=some o):∀vs,o.data≠.fields vs:=by
 obtain⟨_,o',e',d⟩:=F.mem hb;rw[e] at e'
 cases e'
 exact d
theorem qX {outer:List Env}{h' B:Heap}{e t:Addr}{args:nZ}(I:Inv X pins σ H s)(hex:X.ex=[])(Gx:X.stack=X.env::X.outer)(hm:Heap.MadeExcOf s.heap h' e cls args)
 (hB:B=PySem.W.hideAll s.heap (dW X.stack))(hf:pb B X.outer e cls (.ref t) .none d Hv)(Le:h'.UpToSlots Hv):CJ X.prog X.w X.outer X.H₀ X.s₀.heap e cls H Hv B (.ref t) d:=by
 subst hB;have st:=hf.st;have Ih:∀b o,s.heap.get? b=some o->b∉dW X.stack->(PySem.W.hideAll s.heap (dW X.stack)).get? b=some o:=λb o e n=>PySem.W.hideAll_get _ e n
 have old:∀b o,X.s₀.heap.get? b=some o->b∉dW X.outer->b∉dW X.stack:=λb o e n z=>by
  rcases List.mem_cons.mp (I.aaz b z) with q|q
  ·exact absurd (Nat.lt_of_lt_of_le (Heap.lt_size e) I.ok.above) (by rw[q];exact Nat.lt_irrefl _)
  ·exact n q
 have base:Un (dW X.outer) [] X.H₀ H X.s₀.heap s.heap:=by
  have z:=I.base;rw[hex] at z;exact z
 refine⟨hf,⟨λb o e n hb _=>st b o (Ih b o (base.keep b o e n hb (by simp)) (old b o e hb)),λb o e n hb _=>?_,base.free,λb o e _=>?_,base.aaq,base.aap,base.aav⟩,λb o e n hb=>Ih b o (base.keep b o e n hb (by simp)) (old b o e hb),λb o e hb=>?_,λb u e=>?_,?_⟩
 ·obtain⟨sl,e1⟩:=base.slot b o e n hb (by simp);obtain⟨Hm,e2⟩:=Le b _ (hm.keeps b _ e1) (cb I.aau hb e1);exact⟨Hm,e2⟩
 ·obtain⟨o',e1⟩:=base.there b o e (by simp)
  by_cases hb:b∈dW X.outer
  ·obtain⟨Hm,e2⟩:=Le b _ (hm.keeps b _ e1) (cb I.aau hb e1);exact⟨_,e2⟩
  ·exact⟨o',st b o' (Ih b o' e1 (old b o e hb))⟩
 ·obtain⟨o',e1⟩:=base.there b o e (by simp);exact⟨o',Ih b o' e1 (old b o e hb)⟩
 ·exact(I.hok b u e).aaZ (λc v hc q=>Ih c v q λz=>by
   have n:=I.aaE c z
   rcases hc with hc|hc
   ·rw[hc,e] at n;cases n
   ·rw[n] at hc;cases hc) (λ_ q=>q) λ_ _ q=>q
 ·cases q:H e with
  |none=>rfl
  |some u =>
   obtain⟨ob,e1⟩:=(I.hok e u q).there;rw[hm.new] at e1
   cases e1
theorem u5 {B:Heap}{a0:Value}(I:Inv X pins σ H s)(hex:X.ex=[])(F:CJ X.prog X.w X.stack H s.heap a cls H' s'.heap B a0 d)
 (hf:pb B X.outer a cls a0 .none d Hv)(Le:s'.heap.UpToSlots Hv):CJ X.prog X.w X.outer X.H₀ X.s₀.heap a cls H' Hv B a0 d:=by
 have st:=hf.st
 have sub:∀b,b∈dW X.outer->b∈dW X.stack:=λb hb=>by
  rcases I.ok.stk with z|⟨z,Hu⟩
  ·rw[z];exact hb
  ·rw[z];unfold dW;rw[List.filterMap_cons,Hu];exact List.mem_cons_of_mem _ hb
 have old:∀b o,X.s₀.heap.get? b=some o->b∉dW X.outer->b∉dW X.stack:=λb o e n z=>by
  rcases List.mem_cons.mp (I.aaz b z) with q|q
  ·exact absurd (Nat.lt_of_lt_of_le (Heap.lt_size e) I.ok.above) (by rw[q];exact Nat.lt_irrefl _)
  ·exact n q
 have base:Un (dW X.outer) [] X.H₀ H X.s₀.heap s.heap:=by
  have z:=I.base;rw[hex] at z;exact z
 have kB:∀b o,X.s₀.heap.get? b=some o->X.H₀ b=none->b∉dW X.outer->B.get? b=some o:=λb o e n hb =>
  F.keep b o (base.keep b o e n hb (by simp)) (base.free b o e n (by simp)) (old b o e hb)
 have tB:∀b o,X.s₀.heap.get? b=some o->b∉dW X.outer->∃o',B.get? b=some o':=λb o e hb=>by
  obtain⟨o',e1⟩:=base.there b o e (by simp);exact F.there b o' e1 (old b o e hb)
 have Mn:∀b o,s.heap.get? b=some o->H b=none->b∈dW X.outer->∃sl,Hv.get? b=some {o with slots:=sl}:=λb o e n hb=>by
  obtain⟨sl,e1⟩:=F.un.slot b o e n (sub b hb) (by simp);obtain⟨Hm,e2⟩:=Le b _ e1 (λvs q=>cb I.aau hb e vs q);exact⟨Hm,e2⟩
 refine⟨hf,⟨λb o e n hb _=>st b o (kB b o e n hb),λb o e n hb _=>?_,λb o e n _=>?_,λb o e _=>?_,λb xs e=>F.un.aaq b xs (base.aaq b xs e),λb o xs e=>F.un.aap b o xs (base.aap b o xs e),λb ps e=>?_⟩,kB,tB,F.hok,F.new⟩
 ·obtain⟨sl,e1⟩:=base.slot b o e n hb (by simp);obtain⟨Hm,e2⟩:=Mn b _ e1 (base.free b o e n (by simp)) hb;exact⟨Hm,e2⟩
 ·obtain⟨o',e1⟩:=base.there b o e (by simp);exact F.un.free b o' e1 (base.free b o e n (by simp)) (by simp)
 ·by_cases hb:b∈dW X.outer
  ·obtain⟨o',e1⟩:=base.there b o e (by simp);have n:H b=none:=I.aaE b (sub b hb);obtain⟨sl,e2⟩:=Mn b o' e1 n hb;exact⟨_,e2⟩
  ·obtain⟨o',e1⟩:=tB b o e hb;exact⟨o',st b o' e1⟩
 ·obtain⟨m1,e1⟩:=base.aav b ps e;obtain⟨m2,e2⟩:=F.un.aav b _ e1;exact⟨m1++m2,by rw[e2,Array.append_assoc]⟩
theorem fY {B:Heap}{a0:Value}{tk:Nat}(I:Inv X pins σ H s)(ho:s'.os=s.os)(hg:AllBare s'.gens)(F:CJ X.prog X.w X.stack H s.heap a cls H' s'.heap B a0 d)
 (hf:pb B X.stack a cls a0 fl d Hv)(Le:s'.heap.UpToSlots Hv):Inv X pins σ H' {s' with heap:=Hv,toks:=tk}:=by
 have st:=hf.st;refine I.abQ (s':={s' with heap:=Hv,toks:=tk}) (ch:=[]) ho ⟨λb o e n hb _=>st b o (F.keep b o e n hb),λb o e n hb _=>?_,F.un.free,λb o e _=>?_,F.un.aaq,F.un.aap,F.un.aav⟩ (F.hok.kept st) hg λb z=>absurd z (by simp)
 ·obtain⟨sl,e1⟩:=F.un.slot b o e n hb (by simp);obtain⟨Hm,e2⟩:=Le b _ e1 (λvs q=>cb I.stack hb e vs q);exact⟨Hm,e2⟩
 ·by_cases hb:b∈dW X.stack
  ·obtain⟨sl,e1⟩:=F.un.slot b o e (I.aaE b hb) hb (by simp);obtain⟨Hm,e2⟩:=Le b _ e1 (λvs q=>cb I.stack hb e vs q);exact⟨_,e2⟩
  ·obtain⟨o',e1⟩:=F.there b o e hb;exact⟨o',st b o' e1⟩
end
theorem Bl {K:PySem.W.Frag}{cd:ClassData}(h:PySem.W.clsIn K C=some cd):∃c d s,K.lookup C=some ⟨c,d,.cls cd,s⟩:=by
 unfold PySem.W.clsIn at h
 cases ho:K.lookup C with
 |none=>rw[ho] at h;cases h
 |some o =>
  rw[ho] at h;obtain⟨c,d,x,s⟩:=o
  cases x <;> cases h
  exact⟨_,_,_,rfl⟩
theorem AF {α:Type}{l:List α}(h:l.length=6):∃a b c d e f,l=[a,b,c,d,e,f]:=by
 obtain⟨a,l,rfl⟩:=List.exists_cons_of_length_eq_add_one h;obtain⟨b,l,rfl⟩:=List.exists_cons_of_length_eq_add_one (Nat.succ.inj h);obtain⟨c,l,rfl⟩:=List.exists_cons_of_length_eq_add_one (Nat.succ.inj (Nat.succ.inj h));obtain⟨d,l,rfl⟩:=List.exists_cons_of_length_eq_add_one (Nat.succ.inj (Nat.succ.inj (Nat.succ.inj h)));obtain⟨e,l,rfl⟩:=List.exists_cons_of_length_eq_add_one (Nat.succ.inj (Nat.succ.inj (Nat.succ.inj (Nat.succ.inj h))));obtain⟨f,rfl⟩:=List.length_eq_one_iff.mp (Nat.succ.inj (Nat.succ.inj (Nat.succ.inj (Nat.succ.inj (Nat.succ.inj h)))));exact⟨a,b,c,d,e,f,rfl⟩
theorem yP {K:PySem.W.Frag}{FJ:nZ}{newId:String}(X:K.In h)(q:tV K C FJ newId=true):
 ∃bm N nm qn bs hd sn sub ab col dd k0 k1 k2 k3 k5 mN,h.get? C=some (excClassObj nm qn C N bs bm hd sn sub ab col dd k0 k1 k2 k3 k5 newId)/\h.Ns N mN/\mN "__init__"=none/\OwnTail h FJ bm:=by
 have q1:=Bool.and_eq_true_iff.mp q;obtain⟨cd,hc,q2⟩:=(Option.any_eq_true _ _).mp q1.2;obtain⟨c,dd,sl,ho⟩:=Bl hc;have q3:=Bool.and_eq_true_iff.mp q2;have q4:=Bool.and_eq_true_iff.mp q3.2;have q5:=Bool.and_eq_true_iff.mp q4.2;have q6:=Bool.and_eq_true_iff.mp q5.2
 have e1:(c == .type "type"&&(sl.size==6&&sl.toList[4]?==some (some (.builtin newId))))=true:=by
  have z:=q1.1;rw[ho] at z;exact z
 have e2:=Bool.and_eq_true_iff.mp e1;have e3:=Bool.and_eq_true_iff.mp e2.2;obtain⟨k0,k1,k2,k3,k4,k5,e⟩:=AF (l:=sl.toList) (eq_of_beq e3.1)
 have e4:k4=some (.builtin newId):=by
  have z:=eq_of_beq e3.2;rw[e] at z;exact Option.some.inj z
 have e5:sl = #[k0,k1,k2,k3,some (.builtin newId),k5]:=Array.toList_inj.mp (by rw[e,e4])
 have e6:cd.mro=.ref C::cd.mro.tail:=by
  obtain⟨r,z⟩:=List.head?_eq_some_iff.mp (eq_of_beq q3.1);rw[z];rfl
 have e7:cd.hasDel=false:=by simpa using q4.1
 refine⟨cd.mro.tail,cd.ns,cd.name,cd.qualname,cd.bases,cd.hasDict,cd.slotNames,cd.subclasses,cd.abstract,cd.collection,dd,k0,k1,k2,k3,k5,_,(X _ _ ho).trans ?_,.of_isNs (PySem.W.isNs_of_in X q6.1),PySem.W.nsMap_none_of_in X q6.1 (eq_of_beq q6.2),PySem.W.tail_of_in X q5.1⟩;rw[e5,eq_of_beq e2.1];show some (Obj.mk _ _ (.cls cd) _)=some (Obj.mk _ _ (.cls ⟨_,_,_,_,_,_,_,_,_,_,false⟩) _);rw[<-e6,<-e7]
def xE (X:Cx)(E:St->XK):Prop:=∀(pins:List (Addr×Obj))(σ:St)(H:Hp)(s:AQ)(h':Heap)(e:Addr)(cls:Value)(args:nZ),Inv X pins σ H s->Heap.MadeExcOf s.heap h' e cls args->E σ cls none H->X.xe (.ref e) {s with heap:=h'}
def Bz (C:Addr)(E:St->XK)(t:TA):TS:=λ_ σ H=>t σ H λvs H1=>vs.length<=sizeLine/\E σ (.ref C) none H1
section
variable {X:Cx}{E:St->XK}{x:Str}{C:Addr}{B newId GI:String}{FJ:nZ}{np Fx pos:Pos}{e:Expr}{es:Aw}{t:TA}
theorem pL (FB:ExcBaseFacts B newId GI FJ)(q:tV X.K C FJ newId=true)(hc:X.calm=true)(hR:xE X E)(hg:Gl X x)(hm:X.mg x=some (.ref C))(ha:PA X (e::es) t)
 (he:starEach (e::es) X.env=(false,eval e X.env):: starEach es X.env:=by rfl)(FZ:(backTo Fx (starEach es X.env)).any (·.1)=false:=by rfl)(hd:(x==("__debug__":Str))=false:=by decide):
 PS X (.Raise (some (.Call (.Name x np) (e::es) [] Fx)) none pos) (Bz C E t):=by
 intro pins s σ H D I h;obtain⟨bm,N,nm,qn,bs,hdct,sn,sub,ab,col,dd,k0,k1,k2,k3,k5,mN,hC,hN,hni,T⟩:=yP I.ok.mod.kin q
 refine wpAny_Raise_call_subT (C:=C) (nm:=nm) (q:=qn) (N:=N) (bs:=bs) (bm:=bm) (hdct:=hdct) (sn:=sn) (sub:=sub) (ab:=ab) (col:=col) (dd:=dd) (k0:=k0) (k1:=k1) (k2:=k2) (k3:=k3) (k5:=k5)
  FB (mN:=mN) (T.hasType FB.hasBase) (I.ok.hd hc) (by rw[he];show(false || (backTo Fx (starEach es X.env)).any (·.1))=false;rw[FZ];rfl) hni (eV I hg hm ⟨rfl,?_⟩ hd)
 have z:=ha Fx pins s σ H _ I h;rw[he] at z |-;refine Calls.evalArgs_plain (wpAny_mono z (λus s₂ z'=>?_) λ_ _ y=>y);obtain⟨vs,H2,I2,rv,hl,hE⟩:=z';exact⟨rfl,by rw[<-rv.length];exact hl,I2.bk _ _ hC,hN.keeps I2.bk,T.keeps I2.bk,λh' e' hm'=>hR pins σ H2 s₂ h' e' _ _ I2 hm' hE⟩
end
section
variable {P:u6}{w:World}{K:PySem.W.Frag}{mg:wg}{base:Heap}{N:E4}{qual:Str}{scope:Scope}{f:Addr}{cd:Value}{A:Around}{outer:List Env}{s:AQ}{H:Hp}{E:XK}
theorem km:xE (fK (aN P w) P w K mg base N qual scope f cd A outer s H E) λ_=>E:=by
 intro pins σ H1 s1 h' e cls args I hm hE;have Gx:(fK (aN P w) P w K mg base N qual scope f cd A outer s H E).stack=(fK (aN P w) P w K mg base N qual scope f cd A outer s H E).env::outer:=rfl;have hl:=I.stack;obtain⟨t,he,htn,ht⟩:=hm.there;have hB:∀b o,(PySem.W.hideAll s1.heap (dW (fK (aN P w) P w K mg base N qual scope f cd A outer s H E).stack)).get? b=some o->s1.heap.get? b=some o:=λb o q=>PySem.W.of_hideAll _ q
 have nB:(PySem.W.hideAll s1.heap (dW (fK (aN P w) P w K mg base N qual scope f cd A outer s H E).stack)).get? e=none:=by
  cases q:(PySem.W.hideAll s1.heap (dW (fK (aN P w) P w K mg base N qual scope f cd A outer s H E).stack)).get? e with
  |none=>rfl
  |some o=>have z:=hB _ _ q;rw[hm.new] at z;cases z
 have Su:=PySem.W.funFrames_hide hl λenv he a ha=>List.mem_filterMap.mpr ⟨env,he,ha⟩
 refine lQ (B:=PySem.W.hideAll s1.heap (dW (fK (aN P w) P w K mg base N qual scope f cd A outer s H E).stack)) (s:={s1 with heap:=h'}) (d:=none) (cls:=cls) (a0:=.ref t) I.ok.frames (Su.of_keeps λb o q _=>⟨o,hm.keeps b o q,rfl⟩) rfl
  (λb o q=>hm.keeps b o (hB b o q)) nB he rfl rfl rfl rfl rfl λHv x1 x4=>?_
 exact⟨e,cls,.ref t,_,none,H1,rfl,I.os,I.bare,qX (outer:=outer) I rfl rfl hm rfl x1 x4,hE⟩
theorem c9:cx (aN P w) (fK (aN P w) P w K mg base N qual scope f cd A outer s H E) E:=by
 intro pins σ H1 s1 e s' I hx;obtain⟨a,cls,a0,B,d,H',rfl,ho,hg,F,hE⟩:=hx;refine yC (L:=s.heap.objs.size) I.ok.frames rfl F.fly λHv x1 x2=>?_;exact⟨a,cls,a0,B,d,H',rfl,ho.trans I.os,hg,u5 I rfl F x1 x2,hE⟩
end
theorem ae {X:Cx}:cx (aN P w) X λ_ _ _=>False:=by
 intro pins σ H1 s1 e s' I hx;obtain⟨a,cls,a0,B,d,H',_,_,_,_,hE⟩:=hx;exact hE.elim
def yA (a:Addr)(cls:Value):HO:=.ext λh=>∃o vs,h.get? a=some o/\o.cls=cls/\o.data=.fields vs
theorem zg (e:h.get? a=some o)(hc:o.cls=cls)(hd:o.data=.fields vs):bc P w H h a (yA a cls):=
 ⟨⟨o,vs,e,hc,hd⟩,⟨o,e⟩,λh1 h2 ⟨o,vs,e,hc,hd⟩ k=>⟨o,vs,k o e,hc,hd⟩⟩
theorem sI (k:gu P w H h)(e:H a=some (yA a cls)):∃o vs,h.get? a=some o/\o.cls=cls/\o.data=.fields vs:=(k a _ e).1
def dZ (vs:tN):Prop:=∃t:Addr,vs = #[.ref t,.none,.none,.none,.bool false,.none]
def dR (a:Addr)(cls:Value)(dx:Addr)(fr:Bool):HO:=.ext λh=>∃o vs,h.get? a=some o/\o.cls=cls/\o.data=.fields vs/\o.dict=some dx/\(fr=true->dZ vs)
def qm (a:Addr)(cls:Value):Option Addr->HO
 |none=>yA a cls
 |some dx=>dR a cls dx false
theorem yg (e:h.get? a=some o)(hc:o.cls=cls)(hd:o.data=.fields vs)(hx:o.dict=d):bc P w H h a (qm a cls d):=by
 cases d with
 |none=>exact zg e hc hd
 |some dx=>exact⟨⟨o,vs,e,hc,hd,hx,λz=>by cases z⟩,⟨o,e⟩,λh1 h2 ⟨o,vs,e,hc,hd,hx,z⟩ k=>⟨o,vs,k o e,hc,hd,hx,z⟩⟩
theorem pb.first {B:Heap}{e:Addr}{a0:Value}(x:pb B l e cls a0 fl d h):∃oe vs,h.get? e=some oe/\oe.cls=cls/\oe.data=.fields vs/\oe.dict=d :=
 let⟨o,vs,_,_,_,h1,h2,h3,h4,_⟩:=x.tr;⟨o,vs,h1,h3.1,h4,h2⟩
def Df (X:Cx)(pins:List (Addr×Obj))(E:St->XK):Value->Shared->Prop:=λe s'=>∃σ H s,Inv X pins σ H s/\aN X.prog X.w X.stack H s (E σ) e s'
abbrev Cx.tr (X:Cx)(pins:List (Addr×Obj))(E:St->XK):Cx:={X with pn:=X.pn++pins,xe:=Df X pins E}
abbrev Cx.hd (X:Cx)(a:Addr):Cx:={X with A:=X.A.mark (some (.ref a)),calm:=false,xe:=λ_ _=>False}
variable {M:Model}{A:Around}
section
variable {X:Cx}{pins pins':List (Addr×Obj)}{σ:St}{H:Hp}{s:AQ}{E:St->XK}{a:Addr}
theorem u4 (I:Inv X pins σ H s):Inv (X.tr pins E) [] σ H s :=
 ⟨⟨I.ok.mod,I.ok.kind,I.ok.glob,I.ok.blt,I.ok.above,I.ok.inj,I.ok.has,I.ok.cab,I.ok.hd,I.ok.frames,I.ok.stk,I.ok.exf,I.ok.bs,I.ok.bsz,I.ok.abb,I.ok.abj,I.ok.aau,I.ok.frf⟩,I.os,I.bare,I.base,I.loc,I.cell,I.free,I.aan,λp hp=>I.pin p (by
   have z:p∈(X.pn++pins)++[]:=hp;rw[List.append_nil] at z
   exact z),I.hok,I.len⟩
theorem gL (I:Inv (X.tr pins E) pins' σ H s):Inv X pins σ H s :=
 ⟨⟨I.ok.mod,I.ok.kind,I.ok.glob,I.ok.blt,I.ok.above,I.ok.inj,I.ok.has,I.ok.cab,I.ok.hd,I.ok.frames,I.ok.stk,I.ok.exf,I.ok.bs,I.ok.bsz,I.ok.abb,I.ok.abj,I.ok.aau,I.ok.frf⟩,I.os,I.bare,I.base,I.loc,I.cell,I.free,I.aan,λp hp=>I.pin p (List.mem_append_left _ hp),I.hok,I.len⟩
theorem ni (I:Inv X pins σ H s):Inv (X.hd a) pins σ H s :=
 ⟨⟨I.ok.mod,I.ok.kind,I.ok.glob,I.ok.blt,I.ok.above,I.ok.inj,I.ok.has,I.ok.cab,(λz=>absurd (show false=true from z) (by decide)),I.ok.frames,I.ok.stk,I.ok.exf,I.ok.bs,I.ok.bsz,I.ok.abb,I.ok.abj,I.ok.aau,I.ok.frf⟩,I.os,I.bare,I.base,I.loc,I.cell,I.free,I.aan,I.pin,I.hok,I.len⟩
theorem dH (ok:X.Ok)(I:Inv (X.hd a) pins σ H s):Inv X pins σ H s :=
 ⟨ok,I.os,I.bare,I.base,I.loc,I.cell,I.free,I.aan,I.pin,I.hok,I.len⟩
theorem fE {D:Ends}{f:Flow}{s':AQ}(h:SP (X.tr pins E) [] D f s'):SP X pins D f s':=by
 cases f with
 |next=>obtain⟨σ',H',I,q⟩:=h;exact⟨σ',H',gL I,q⟩
 |brk=>obtain⟨σ',H',I,q⟩:=h;exact⟨σ',H',gL I,q⟩
 |cont=>obtain⟨σ',H',I,q⟩:=h;exact⟨σ',H',gL I,q⟩
 |ret u=>obtain⟨v,σ',H',I,r,q⟩:=h;exact⟨v,σ',H',gL I,r,q⟩
theorem qx:∀(pins':List (Addr×Obj))(σ:St)(H:Hp)(s:AQ)(e:Value)(s':AQ),Inv (X.tr pins E) pins' σ H s->aN X.prog X.w X.stack H s (E σ) e s'->(X.tr pins E).xe e s':=λpins' σ H s e s' I hx=>⟨σ,H,s,gL I,hx⟩
def DT (K:PySem.W.Frag)(c:Value)(i:Nat)(ts:TS)(D:Ends):St->XK:=λσ cls d H'=>PySem.W.exmOne K cls c=some true/\∀a,H' a=none →
 ts {nx:=λσ' H2=>D.nx (σ'.set i none) H2,rt:=D.rt,bk:=λσ' H2=>D.bk (σ'.set i none) H2,ct:=λσ' H2=>D.ct (σ'.set i none) H2} (σ.set i (some (.ref a))) (upd H' a (qm a cls d))
def DW (K:PySem.W.Frag)(c:Value)(i:Nat)(tb:(St->XK)->TS)(ts:TS):TS:=λD σ H=>tb (DT K c i ts D) D σ H
theorem gX {E':vy}{i:Nat}{n:Str}{Q:Unit->Shared->Prop}(I:Inv X pins σ H s)(hN:X.N.Nodup)(hi:X.N[i]?=some n)(hl:X.env.scope.names.lookup n=some .local)
 (h:∀s',Inv X pins (σ.set i none) H s'->Q () s'):wpAny M A (do bindName X.env n .none;unbindBehindTheSuite X.env n pos) Q E' s:=by
 obtain⟨m,hn,Sv⟩:=id I.loc;refine wpAny_nameGoes_keeps hl hn (by rw[I.ok.kind];rfl) λh' v K4 hs=>h _ ?_;have nL:∀b o,X.s₀.heap.get? b=some o->b≠X.env.locals:=λb o e=>Nat.ne_of_lt (Nat.lt_of_lt_of_le (Heap.lt_size e) I.ok.above);refine⟨I.ok,I.os,I.bare,⟨λb o e n hb hx=>(hs.2 b (nL b o e)).trans (I.base.keep b o e n hb hx),λb o e n hb hx=>?_,I.base.free,λb o e hx=>?_,I.base.aaq,I.base.aap,I.base.aav⟩,⟨_,K4,λj y w' e1 e2 e3=>?_⟩,λy c e=>?_,I.free,I.aan,λp hp=>?_,λb u e=>?_,by simpa using I.len⟩
 ·obtain⟨sl,e1⟩:=I.base.slot b o e n hb hx;exact⟨sl,(hs.2 b (nL b o e)).trans e1⟩
 ·obtain⟨o',e1⟩:=I.base.there b o e hx;exact⟨o',(hs.2 b (nL b o e)).trans e1⟩
 ·have hj:j≠i:=λz=>by
   subst z
   by_cases Fy:j<σ.length
   ·rw[List.getElem?_set_self Fy] at e2;cases e2
   ·rw[List.getElem?_eq_none (by simpa using Fy)] at e2;cases e2
  rw[List.getElem?_set_ne (Ne.symm hj)] at e2;obtain⟨u,r,q⟩:=Sv j y w' e1 e2 e3;refine⟨u,r,?_⟩
  rcases q with⟨k,e⟩|⟨k,c,e,z⟩
  ·refine .inl ⟨k,?_⟩;have hyn:y≠n:=λe=>hj (j6 hN e1 (e▸hi));show(if y=n then v else m y)=some u;rw[if_neg hyn];exact e
  ·exact .inr ⟨k,c,e,z.sameBut hs (I.cne y c e)⟩
 ·obtain⟨w',z⟩:=I.cell y c e;exact⟨w',z.sameBut hs (I.cne y c e)⟩
 ·obtain⟨e,n',ne,nf,d⟩:=I.pin p hp;exact⟨(hs.2 p.1 ne).trans e,n',ne,nf,d⟩
 ·refine(I.hok b u e).aaZ (λc w' hc q=>(hs.2 c ?_).trans q) (λ_ q=>q) λ_ _ q=>q;rintro rfl
  rcases hc with rfl|hc
  ·rw[I.free] at e;cases e
  ·rw[I.free] at hc;cases hc
theorem Be {n:Str}{i:Nat}{np Lf:Pos}{body GX:List Stmt}{b₀:Stmt}{tb:(St->XK)->TS}{ts:TS}(Gx:X.stack=X.env::X.outer)(Hu:X.env.frame=some X.env.locals)(hN:X.N.Nodup)(hi:X.N[i]?=some n)
 (hl:X.env.scope.names.lookup n=some .local)(hg:Gl X x)(hm:X.mg x=some (.ref C))(hb:∀pins E,oA (X.tr pins E) body (tb E))(hs:∀a,oA (X.hd a) (b₀::GX) ts)(hd:(x==("__debug__":Str))=false:=by decide):
 PS X (.Try body [.ExceptHandler (some (.Name x np)) (some n) (b₀::GX) Lf] [] [] pos) (DW X.K (.ref C) i tb ts):=by
 intro pins s σ H D I h;refine wpAny_Try_except (wpAny_mono (hb pins _ [] s σ H D (u4 I) h) (λf s1 q=>?_) λe s1 q=>?_)
 ·cases f with
  |next=>exact wpAny_execs_nil (fE q)
  |ret v=>exact fE q
  |brk=>exact fE q
  |cont=>exact fE q
 ·obtain⟨σ1,H1,s0,I1,a,cls,a0,B,d,H2,rfl,ho,Nd,F,hx,hw⟩:=q
  have Sw:X.A.frames=some (X.env::X.outer):=by rw[I.ok.frames,Gx]
  have fl:=F.fly;rw[Gx] at fl;refine qU Sw Hu fl λh4 held Nf=>fT (s:={s1 with heap:=h4}) held λh5 Lg Ng=>?_
  have Lh:pb B X.stack a cls a0 .none d h5:=by rw[Gx];exact Lg
  have I5:Inv X pins σ1 H2 {s1 with heap:=h5}:=fY (tk:=s1.toks) I1 ho Nd F Lh (Nf.trans Ng);obtain⟨ob,_,Sx,Li,_,_⟩:=Lg.first;have Sz:Inv (X.hd a) pins σ1 H2 {s1 with heap:=h5}:=ni I5;refine wpAny_handleBy_cons (codeAny_handlers_test (eV Sz hg hm ?_ hd)) (by intro q;cases q);have LT:PySem.W.Looks (model X.prog X.w) h5 (typeOf (.ref a)) cls:=Li▸(PySem.W.Looks.ld Sx).andThen .now;refine(PySem.W.exm_one (M:=model X.prog X.w) I5.kIn LT hx) _ _ _ _ (λ_ _ e=>e) ?_;refine codeAny_handlers_suite_as ?_;refine fT (s:={s1 with heap:=h5}) Lg λh6 Q6 SA=>?_
  have HU:pb B X.stack a cls a0 .none d h6:=by rw[Gx];exact Q6
  have I6:Inv X pins σ1 H2 {s1 with heap:=h6}:=fY (tk:=s1.toks) I1 ho Nd F HU ((Nf.trans Ng).trans SA);obtain⟨oe,vs,Ii,SD,Jw,SE⟩:=Q6.first
  have I7:Inv X pins σ1 (upd H2 a (qm a cls d)) {s1 with heap:=h6}:=by
   have nB:X.s₀.heap.get? a=none\/True:=.inr trivial;refine⟨I6.ok,I6.os,I6.bare,?_,I6.loc,I6.cell,?_,?_,?_,dX I6.hok F.new (yg Ii SD Jw SE),I6.len⟩
   ·refine⟨I6.base.keep,I6.base.slot,λb o e n JY=>?_,I6.base.there,λb xs e=>?_,λb o u e=>?_,λb ps e=>?_⟩
    ·have FX:b≠a:=λz=>by
      subst z;have e1:=I1.base.there b o e JY;obtain⟨o1,e1⟩:=e1
      by_cases Xx:b∈dW X.stack
      ·have:=(HU.fr.mem Xx);obtain⟨_,o2,e2,d2⟩:=this;rw[Ii] at e2
       cases e2
       exact d2 vs Jw
      ·obtain⟨o2,e2⟩:=F.there b o1 e1 Xx;rw[HU.new] at e2
       cases e2
     rw[ai FX];exact I6.base.free b o e n JY
    ·rw[ai (au (I6.base.aaq b xs e) F.new)];exact I6.base.aaq b xs e
    ·rw[ai (au (I6.base.aap b o u e) F.new)];exact I6.base.aap b o u e
    ·obtain⟨m,q⟩:=I6.base.aav b ps e;exact⟨m,by rw[ai (au q F.new)];exact q⟩
   ·have FX:X.env.locals≠a:=λz=>by
     obtain⟨m,⟨o,es,ep,e,d,_⟩,_⟩:=I6.loc;rw[z,Ii] at e
     cases e
     rw[Jw] at d
     cases d
    rw[ai FX];exact I6.free
   ·intro y c e
    have FX:c≠a:=λz=>by
     obtain⟨v,o,e1,d⟩:=I6.cell y c e;rw[z,Ii] at e1
     cases e1
     rw[Jw] at d
     cases d
    rw[ai FX];exact I6.aan y c e
   ·intro p hp;obtain⟨e,n',ne,nf,d⟩:=I6.pin p hp;refine⟨e,?_,ne,nf,d⟩
    have FX:p.1≠a:=λz=>by
     obtain⟨e1,n1,_,nf1,_⟩:=I1.pin p hp
     have nst:p.1∉dW X.stack:=λq=>by
      rcases List.mem_cons.mp (I1.aaz _ q) with w|w
      ·exact ne w
      ·exact nf w
     obtain⟨o2,e2⟩:=F.there p.1 _ e1 nst;rw[z,HU.new] at e2
     cases e2
    rw[ai FX];exact n'
  refine gG (M:=model X.prog X.w) I7 hN hi (.inl hl) (show aE (.ref a) (.ref a) from rfl) (λs8 I8=>?_) (.inr hl);refine wpAny_mono (hs a pins s8 _ _ _ (ni I8) (hw a F.new)) (λf s9 q=>?_) λ_ _ z=>False.elim z
  cases f with
  |next =>
   obtain⟨σ9,H9,I9,q9⟩:=q;exact gX (dH I.ok I9) hN hi hl λGd Lj=>⟨_,_,Lj,q9⟩
  |brk =>
   obtain⟨σ9,H9,I9,q9⟩:=q;exact gX (dH I.ok I9) hN hi hl λGd Lj=>⟨_,_,Lj,q9⟩
  |cont =>
   obtain⟨σ9,H9,I9,q9⟩:=q;exact gX (dH I.ok I9) hN hi hl λGd Lj=>⟨_,_,Lj,q9⟩
  |ret u =>
   obtain⟨v,σ9,H9,I9,r9,q9⟩:=q;exact gX (dH I.ok I9) hN hi hl λGd Lj=>⟨v,_,_,Lj,r9,q9⟩
end
structure zv (K:Frag)(C:Addr):Prop where
 cls:(clsIn K C).isSome=true
 ga:findIn K (.ref C) "__getattribute__"=some (some (.builtin "BaseException.__getattribute__"))
 gx:findIn K (.ref C) "__getattr__"=some none
 ca:findIn K (.ref C) "__class__"=some (some (.builtin "object.__class__"))
 ob:mroIn K C (.type "object")=some true
 be:mroIn K C (.type "BaseException")=some true
section
variable {prog:u6}{w:World}{A:Around}{E:vy}{K:Frag}{x C:Addr}{ox:Obj}
theorem m6 {J1:Value}{Q:Unit->Shared->Prop}(X:K.In s.heap)(k:zv K C)(e:s.heap.get? x=some ox)(hc:ox.cls=.ref C)(hq:Q () s):
 wpAny M A (checkBuiltinCall "BaseException.__getattribute__" ⟨[.ref x,J1],[]⟩) Q E s:=by
 obtain⟨hh,g,d,t,os⟩:=s;have L0:Looks M hh (typeOf (.ref x)) (.ref C):=hc▸(Looks.ld e).andThen .now;have L5:=looks_mroIn (M:=M) X k.be
 have hk:builtinKind "BaseException.__getattribute__"=some .slot:=by decide +kernel
 have Hw:splitId "BaseException.__getattribute__"=some ("BaseException","__getattribute__"):=by decide +kernel
 have ha:=F.args_bexc_ga (.ref x) J1;simp only[checkBuiltinCall,hk,Hw];unfold isInstance
 repeat (any_goals (first|assumption|lk|wp_step))
open Builtin Builtin.ObjectAttr Builtin.Getset_descriptor in
theorem lJ {R:Result->Shared->Prop}{tp:Value}(X:K.In s.heap)(k:zv K C)(e:s.heap.get? x=some ox)(hc:ox.cls=.ref C)(h:R (.ok (.ret (.ref C))) s):
 codeAny (model prog w) A (.call (.builtin "getset_descriptor.__get__") ⟨[.builtin "object.__class__",.ref x,tp],[]⟩) R s:=by
 obtain⟨hh,g,dr,t,os⟩:=s;have L0:Looks (model prog w) hh (typeOf (.ref x)) (.ref C):=hc▸(Looks.ld e).andThen .now;have L1:=looks_mroIn (M:=model prog w) X k.ob;refine codeAny_call_builtin KF.slot_gs.plain KF.entry_gs (KF.slot_gs.check _ _ _ _ _ _ _ _ KF.type_class (KF.args_gs _ _ _) ?_);unfold Builtin.«getset_descriptor.__get__» descrGet;rw[dga_obj];refine wpAny_bind (wpAny_pure ?_);unfold descrGetter descrCheckInstance descrNameAndClass isInstance;simp only[KF.owner_class]
 repeat lk
 refine⟨Code.quiet_builtin _ (by decide +kernel),codeAny_builtin KF.entry_class ?_⟩;unfold Builtin.«object.__class__» shownTypeOf
 repeat lk
 exact h
theorem jG {tk:Tok}{Q:PySem.Fin->Shared->Prop}(X:K.In s.heap)(k:zv K C)(e:s.heap.get? x=some ox)(hc:ox.cls=.ref C)(hq:Q (.done (.ret (.ref C))) s):
 wpAny (model prog w) A (Builtin.«object.__getattribute__» ⟨[.ref x,.str "__class__" tk],[]⟩) Q E s:=by
 obtain⟨hh,g,d,t,os⟩:=s;have L0:Looks (model prog w) hh (typeOf (.ref x)) (.ref C):=hc▸(Looks.ld e).andThen .now;have L3:=looks_findIn (M:=model prog w) X k.ca;have f5:=F.typeOf_object_class;have f6:=F.slot_gs_get.lookup;have f7:=F.slot_gs_set.lookup
 repeat (any_goals (first|assumption|(with_reducible refine Looks.at (by assumption) ?_)|(with_reducible refine Looks.at L0 ?_)|wp_step))
 refine lJ X k e hc ?_
 repeat (any_goals (first|assumption|wp_step))
theorem oz {tk:Tok}{fill expr:Bool}{Q:vy}{s:AQ}(X:K.In s.heap)(k:zv K C)(e:s.heap.get? x=some ox)(hc:ox.cls=.ref C)(hq:Q (.ref C) s):
 wpAny (model prog w) A (getAttrBy (.ref x) (.str "__class__" tk) fill expr) Q E s:=by
 obtain⟨hh,g,d,t,os⟩:=s;have L0:Looks (model prog w) hh (typeOf (.ref x)) (.ref C):=hc▸(Looks.ld e).andThen .now;have L1:=looks_findIn (M:=model prog w) X k.ga;have L2:=looks_findIn (M:=model prog w) X k.gx;have f3:=F.attr_ValueError.ga.bind (.ref x)
 have hx0:(expr&&onTheHeap (Value.builtin "BaseException.__getattribute__"))=false:=by cases expr <;> rfl
 have Gp:(Value.builtin "BaseException.__getattribute__"==Value.builtin "object.__getattribute__")=false:=by decide +kernel
 have hx1:(onTheHeap (Value.ref C)&&Value.builtin "BaseException.__getattribute__"==Value.builtin "object.__getattribute__")=false:=by rw[Gp];rfl
 repeat (any_goals (first|assumption|(with_reducible refine Looks.at (by assumption) ?_)|(with_reducible refine Looks.at L0 ?_)|wp_step))
 refine codeAny_call_builtin F.attr_ValueError.ga.plain F.entry_bexc_ga (m6 X k e hc (jG X k e hc ?_))
 repeat (any_goals (first|assumption|wp_step))
theorem uv {Q:Option Value->Shared->Prop}(X:K.In s.heap)(k:zv K C)(e:s.heap.get? x=some ox)(hc:ox.cls=.ref C)(hq:Q (some (.ref C)) {s with toks:=s.toks+1}):
 wpAny (model prog w) A (getAttr? (.ref x) "__class__") Q E s:=by
 unfold getAttr? getAttrBy?;refine wpAny_bind (wpAny_mkText (wpAny_bind (wpAny_attempt (oz (s:={s with toks:=s.toks+1}) X k e hc ?_))));exact wpAny_pure hq
theorem o6 (k:zv K C):KitX K (.ref x) (.ref C) (λh=>∃o,h.get? x=some o/\o.cls=.ref C) where
 ty:=λ_ _ _ ⟨o,e,hc⟩=>hc▸(Looks.ld e).andThen .now
 it:=λ_ _ X _=>by
  have HQ:=k.cls;unfold clsIn at HQ
  split at HQ
  ·rename_i c' d' cd' Hm ho
   intro A' Q' E' s' kk q;unfold isType loadHead;exact wpAny_bind (wpAny_loadPart (kk _ _ (X _ _ ho)) (wpAny_pure q))
  ·cases HQ
 ne:=λh tp dd its n sl X htp=>by
  have HQ:=k.cls;refine Bool.eq_false_iff.mpr λq=>?_;have e:C=tp:=Value.ref.inj (beq_iff_eq.mp q);subst e;unfold clsIn at HQ
  split at HQ
  ·rename_i c' d' cd' Hm ho
   have z:=(X _ _ ho).symm.trans htp
   cases z
  ·cases HQ
 ca:=λX ⟨o,e,hc⟩ q=>uv X k e hc q
end
section
variable {X:Cx}{pins:List (Addr×Obj)}{σ:St}{H:Hp}{s:AQ}
inductive Cw (K:Frag)(H:Hp):V->Value->Prop where
 |of {x:V}{t:Value}(h:qL K H x t):Cw K H x t
 |exc {a C:Addr}(e:H a=some (yA a (.ref C)))(k:zv K C):Cw K H (.ref a) (.ref C)
theorem AO {E:vy}{Q:vy}{x:V}{u t c:Value}{b:Bool}(I:Inv X pins σ H s)(rx:aE x u)(ty:Cw X.K H x t)(e:kitOne X.K t c=some b)(h:∀tk,Q (.bool b) {s with toks:=tk}):
 wpAny (model X.prog X.w) A (call (.builtin "isinstance") [u,c]) Q E s:=by
 cases ty with
 |of z=>exact ab4 I rx z e h
 |exc ea k =>
  rename_i a C
  cases(show u=Value.ref a from rx)
  obtain⟨o,vs,h1,h2,_⟩:=sI I.hok ea;exact kia_one (o6 k) I.kIn ⟨o,h1,h2⟩ e (λz=>nomatch z) h
def AW:V->Value->Prop
 | .ty n,c=>c=.type n
 | .ref a,c=>c=.ref a
 |_,_=>False
theorem bu:cA X (.builtin "isinstance") (λxs H Q=>∃x c t cv b,xs=[x,c]/\AW c cv/\Cw X.K H x t/\kitOne X.K t cv=some b/\Q (.bl b) H):=by
 intro pins s σ H xs us Q I r h;obtain⟨x,c,t,cv,b,rfl,hc,ty,e,q⟩:=h
 cases r with
 |cons r1 r2 =>
  cases r2 with
  |cons r2 r3 =>
   cases r3
   rename_i u uc
   have SH:uc=cv:=by
    cases c with
    |ty n=>cases(show uc=Value.type n from r2);exact hc.symm
    |ref a=>cases(show uc=Value.ref a from r2);exact hc.symm
    |_=>exact hc.elim
   subst SH;exact AO I r1 ty e λtk=>⟨.bl b,H,I.tok tk,rfl,q⟩
end
variable {N:E4}{k:Nat}{sp:Sp}
section
variable {P:u6}{w:World}{K:PySem.W.Frag}{mg:wg}{base:Heap}
theorem u3.okN (F:u3 K x qual st f fd)(S:yI N ps (aq st))(len:∀vs H Q E,sp vs H Q E->vs.length=ps.length)
 (Gm:∀(Ff:Value)(A:Around)(outer:List Env)(s:AQ)(H:Hp)(vs:List V)(Q:VK)(E:XK),oJ k (A.deeper (envOfC qual (aq st) s.heap.objs.size f Ff))->sp vs H Q E →
  ∃t,oA (fK (aN P w) P w K mg base N qual (aq st) f Ff A outer s H E).nox (cn st) t/\t {nx:=λ_ H'=>Q .non H',rt:=Q} (ir N vs) H):E6 P w K mg base (aN P w) (k+1) f fd ps sp:=by
 obtain⟨oc,od,kV,doc,pm,an,Ff,ct,FA,rfl,lk,F3⟩:=F.ex;refine vB lk F3 S len λA outer s H vs Q E hr Ig=>?_;obtain⟨t,h,q⟩:=Gm Ff A outer s H vs Q E hr Ig;exact⟨t,h.nox,q⟩
theorem u3.okE (F:u3 K x qual st f fd)(S:yI N ps (aq st))(len:∀vs H Q E,sp vs H Q E->vs.length=ps.length)
 (Gm:∀(Ff:Value)(A:Around)(outer:List Env)(s:AQ)(H:Hp)(vs:List V)(Q:VK)(E:XK),oJ k (A.deeper (envOfC qual (aq st) s.heap.objs.size f Ff))->sp vs H Q E →
  ∃t,oA (fK (aN P w) P w K mg base N qual (aq st) f Ff A outer s H E) (cn st) t/\t {nx:=λ_ H'=>Q .non H',rt:=Q} (ir N vs) H):E6 P w K mg base (aN P w) (k+1) f fd ps sp:=by
 obtain⟨oc,od,kV,doc,pm,an,Ff,ct,FA,rfl,lk,F3⟩:=F.ex;exact vB lk F3 S len λA outer s H vs Q E hr Ig=>Gm Ff A outer s H vs Q E hr Ig
end
section
variable {X:Cx}{pins:List (Addr×Obj)}{σ:St}{H:Hp}{s:AQ}
theorem qY {x:V}{u t:Value}(I:Inv X pins σ H s)(rx:aE x u)(ty:Cw X.K H x t):Looks (model X.prog X.w) s.heap (typeOf u) t:=by
 cases ty with
 |of ty =>
  cases ty with
  |non=>cases(show u=Value.none from rx);exact kitx_none.ty _ _ I.kIn True.intro
  |bl y=>cases(show u=Value.bool y from rx);exact kitx_bool.ty _ _ I.kIn True.intro
  |int i=>obtain⟨t,q⟩:=(show ∃t,u=Value.int i t from rx);cases q;exact kitx_int.ty _ _ I.kIn True.intro
  |str y=>obtain⟨t,q⟩:=(show ∃t,u=Value.str y t from rx);cases q;exact kitx_str.ty _ _ I.kIn True.intro
  |flt y=>obtain⟨t,q⟩:=(show ∃t,u=Value.float y t from rx);cases q;exact kitx_float.ty _ _ I.kIn True.intro
  |@lst a xs ea =>
   cases(show u=Value.ref a from rx)
   obtain⟨_,_,n,_,h1⟩:=(show bc X.prog X.w H s.heap a (.lst xs) from I.hok a _ ea);exact kitx_list.ty _ _ I.kIn ⟨_,h1,rfl⟩
  |@frz a ob xs ea =>
   cases(show u=Value.ref a from rx)
   obtain⟨_,_,_,n,_,h1⟩:=(show bc X.prog X.w H s.heap a (.frz ob (.lst xs)) from I.hok a _ ea);exact kitx_list.ty _ _ I.kIn ⟨_,h1,rfl⟩
  |@tup a xs ea =>
   cases(show u=Value.ref a from rx)
   obtain⟨_,_,_,p⟩:=(show bc X.prog X.w H s.heap a (.tup xs) from I.hok a _ ea);obtain⟨o,h1,h2,_⟩:=p;exact kitx_tuple.ty _ _ I.kIn ⟨o,h1,h2⟩
  |@dK a Fe ea =>
   cases(show u=Value.ref a from rx)
   obtain⟨_,_,vs,_,p⟩:=(show bc X.prog X.w H s.heap a (.dK Fe) from I.hok a _ ea);obtain⟨o,es,ep,h1,h2,_⟩:=p;exact kitx_dict.ty _ _ I.kIn ⟨o,h1,h2.1⟩
  |@dT a Fe ea =>
   cases(show u=Value.ref a from rx)
   obtain⟨_,_,xs,_,o,es,ep,h1,h2,_⟩:=(show bc X.prog X.w H s.heap a (.dT Fe) from I.hok a _ ea);exact kitx_dict.ty _ _ I.kIn ⟨o,h1,h2.1⟩
  |@ins a C dx fs ea cl ha hn R8 hm =>
   cases(show u=Value.ref a from rx)
   obtain⟨mA,O,_⟩:=dO I.hok ea;obtain⟨od,J,_⟩:=O.look;exact J.type
 |exc ea k =>
  rename_i a C
  cases(show u=Value.ref a from rx)
  obtain⟨o,vs,h1,h2,_⟩:=sI I.hok ea;exact h2▸(Looks.ld h1).andThen .now
end
variable {K:Frag}
section
variable {X:Cx}{CX:wC}{k:Nat}{f C:Addr}{fd:xR}{ps:E4}{sp:Sp}{E:XK}
def xb (K:Frag)(C:Addr)(sp:Sp)(E:XK)(neg:Bool):R2:=λx y H Q=>∃p dx fs t,x=.ref p/\H p=some (.ins C dx fs)/\Cw K H y t/\notFirst K C t=true/\sp [x,y] H (λv H'=>∃b,v=.bl b/\Q (.bl (b != neg)) H') E
theorem kb (hs:findIn X.K (.ref C) "__eq__"=some (some (.ref f)))(hf:isFn X.K (.ref f)=true)(F:E6 X.prog X.w X.K X.mg X.base CX k f fd ps sp)(hr:oJ k X.A)(hb:av X.K fd ps [])(hx:cx CX X E):
 gy X (compareOp .Eq) (xb X.K C sp E false):=by
 intro pins s σ H x y v u Q I rx ry h;obtain⟨p,dx,fs,t,rfl,ep,ty,hn,q⟩:=h
 cases(show v=Value.ref p from rx)
 obtain⟨mA,O,_⟩:=dO I.hok ep;obtain⟨od,J,_⟩:=O.look;obtain⟨m,Fm⟩:=I.fr;refine cmp_ofEq (cmp_K hr.aaU Fm I.mod.kin J (qY I ry ty) hn hs hf ?_);refine bN (nj (dvs:=[]) F hr hb .nil hx I (us:=[.ref p,u]) (vs:=[.ref p,y]) (.cons rx (.cons ry .nil)) q) λr s1 z'=>?_;obtain⟨z,H1,I1,rz,b,eb,q1⟩:=z';subst eb
 cases(show r=Value.bool b from rz)
 exact⟨.bl b,H1,I1,rfl,by simpa using q1⟩
theorem nX {Q:VK}{us:nZ}{vs:List V}(F:E6 X.prog X.w X.K X.mg X.base CX k f fd ps sp)(hr:oJ (k+1) X.A)(hb:av X.K fd ps [])(hx:cx CX X E)
 (I:Inv X pins σ H s)(r:aG vs us)(h:sp vs H Q E):wpAny (model X.prog X.w) X.A.in1 (call (.ref f) us) (EP X pins σ Q) X.xe s:=by
 have hl:us.length=ps.length:=by rw[<-r.length];exact F.len _ _ _ _ h
 have F9:=hb s us I.kIn (by rw[List.append_nil];exact hl);rw[List.append_nil] at F9;refine wpAny_call (codeAny_mono (F.run X.A.in1 X.stack s H ⟨us,[]⟩ us vs Q E hr.in1 I.abm.in1 F9 r h) λr s' hq=>?_)
 cases r with
 |error e=>exact hx pins σ H s e s' I hq
 |ok fl =>
  cases fl with
  |ret u=>exact I.after hq
  |next=>exact False.elim hq
  |brk=>exact False.elim hq
  |cont=>exact False.elim hq
theorem xH {E':vy}{x:Addr}{b:Value}{ox:Obj}{od:Option Obj}{Q:Unit->Shared->Prop}(X:K.In s.heap)(J:InstAt s.heap x ox C od)(hm:mroIn K C (.type "object")=some true)(hq:Q () s):
 wpAny M A (checkBuiltinCall "object.__ne__" ⟨[.ref x,b],[]⟩) Q E' s:=by
 obtain⟨hh,g,d,t,os⟩:=s;have L0:=J.type (M:=M);have L5:=looks_mroIn (M:=M) X hm;have hk:=F.cmpKind_ne;have Hw:=F.cmpSplit_ne;have ha:=F.cmpArgs_ne (.ref x) b;simp only[checkBuiltinCall,hk,Hw];unfold isInstance
 repeat (any_goals (first|assumption|lk|wp_step))
theorem ph (hs:findIn X.K (.ref C) "__eq__"=some (some (.ref f)))(hf:isFn X.K (.ref f)=true)(Mr:findIn X.K (.ref C) "__ne__"=some (some (.builtin "object.__ne__")))(hm:mroIn X.K C (.type "object")=some true)
 (F:E6 X.prog X.w X.K X.mg X.base CX k f fd ps sp)(hr:oJ (k+1) X.A)(hb:av X.K fd ps [])(hx:cx CX X E):
 gy X (compareOp .NotEq) (xb X.K C sp E true):=by
 intro pins s σ H x y v u Q I rx ry h;obtain⟨p,dx,fs,t,rfl,ep,ty,hn,q⟩:=h
 cases(show v=Value.ref p from rx)
 obtain⟨mA,O,_⟩:=dO I.hok ep;obtain⟨od,J,_⟩:=O.look;have hu:X.A.units+64<cLine:=hr.units
 have Nh:wpAny (model X.prog X.w) X.A.in1 (call (.ref f) [.ref p,u]) (λr s'=>∃b,r=.bool b/\EP X pins σ Q (.bool (!b)) s') X.xe s:=by
  refine wpAny_mono (nX F hr hb hx I (us:=[.ref p,u]) (vs:=[.ref p,y]) (.cons rx (.cons ry .nil)) q) (λr s1 z'=>?_) λ_ _ e=>e;obtain⟨z,H1,I1,rz,b,eb,q1⟩:=z';subst eb
  cases(show r=Value.bool b from rz)
  exact⟨b,rfl,.bl (!b),H1,I1,rfl,by simpa using q1⟩
 have entry:wpAny (model X.prog X.w) X.A.in1 (Builtin.«object.__ne__» ⟨[.ref p,u],[]⟩) (λfin s'=>∃b,fin=.done (.ret (.bool (!b)))/\EP X pins σ Q (.bool (!b)) s') X.xe s:=by
  unfold Builtin.«object.__ne__»;refine wpAny_bind (m:=slotArgs "__ne__" 1 _) (wpAny_pure ?_);refine wpAny_bind (wpAny_cRoomFor (by show X.A.units+1<cLine;omega) ?_);refine wpAny_bind (ifBound_K I.kIn J hs hf (wpAny_mono Nh (λr s1 z=>?_) λ_ _ e=>e));obtain⟨b,rfl,q1⟩:=z;exact wpAny_bind (wpAny_truthy_bool (wpAny_pure ⟨b,rfl,q1⟩))
 have S:=PySem.F.cmp_object.ne
 have inner:wpAny (model X.prog X.w) X.A (callSpecialIfBound? (.ref p) "__ne__" [u]) (λr s'=>∃b,r=some (.bool (!b))/\EP X pins σ Q (.bool (!b)) s') X.xe s:=by
  simp only[callSpecialIfBound?,bindSpecialIfBound?];refine wpAny_holding (wpAny_bind (wpAny_bind (wpAny_bind (J.type.here ((looks_findIn I.kIn Mr).here ?_)))));simp only[S.bind];refine wpAny_bind (wpAny_askSetting (wpAny_ite ?_))
  have fin:wpAny (model X.prog X.w) X.A (call (.builtin "object.__ne__") ([.ref p]++[u])>>=λv=>pure (some v)) (λr s'=>∃b,r=some (.bool (!b))/\EP X pins σ Q (.bool (!b)) s') X.xe s:=by
   refine wpAny_bind (wpAny_call (codeAny_call_builtin S.plain PySem.F.cmpEntry_ne (xH I.kIn J hm (wpAny_mono entry (λfin s1 z=>?_) λ_ _ e=>e))));obtain⟨b,rfl,q1⟩:=z;exact wpAny_pure ⟨b,rfl,q1⟩
  split
  ·exact wpAny_bind (wpAny_pure (wpAny_pure fin))
  ·exact wpAny_tryCatch (wpAny_bind (wpAny_pure (wpAny_pure fin)))
 have one:wpAny (model X.prog X.w) X.A (tryCompare (.ref p) "__ne__" u) (λr s'=>∃v,r=some v/\EP X pins σ Q v s') X.xe s:=by
  unfold tryCompare;refine wpAny_bind (wpAny_mono inner (λr s1 z=>?_) λ_ _ e=>e);obtain⟨b,rfl,q1⟩:=z;exact wpAny_pure ⟨_,rfl,q1⟩
 refine cmp_ofNotEq ?_;unfold richCompare;simp only[oneThing_ref];refine wpAny_holding (wpAny_bind (wpAny_cRoomFor (by omega) ?_));rw[cmpInfo_NotEq];dsimp only;refine wpAny_bind (J.type.here (wpAny_bind ((qY I ry ty).here ?_)))
 split
 ·rename_i qq
  have e:subIn X.K t (.ref C)=some false:=by
   rcases Bool.or_eq_true_iff.mp hn with e|e
   ·rw[beq_iff_eq.mp e] at qq;simp at qq
   ·exact beq_iff_eq.mp e
  refine wpAny_bind ((looks_subIn I.kIn e).here ?_);simp only[Bool.false_eq_true,if_false];refine wpAny_bind (wpAny_mono one (λr s' z=>?_) λ_ _ e=>e);obtain⟨v,rfl,hq⟩:=z;exact wpAny_pure hq
 ·refine wpAny_bind (wpAny_pure ?_);simp only[Bool.false_eq_true,if_false];refine wpAny_bind (wpAny_mono one (λr s' z=>?_) λ_ _ e=>e);obtain⟨v,rfl,hq⟩:=z;exact wpAny_pure hq
end
section
variable {X:Cx}
def Ac (K:PySem.W.Frag):R2:=λx y H Q=>∃p q xs,x=.ref p/\y=.ref q/\aV K H p xs/\aV K H q []/\Q (.bl (decide (xs=[]))) H
theorem kq (hr:oJ k X.A):gy X (compareOp .Eq) (Ac X.K):=by
 intro pins s σ H x y v u Q I rx ry h;obtain⟨p,q,xs,rfl,rfl,h1,h2,w⟩:=h
 cases(show v=Value.ref p from rx)
 cases(show u=Value.ref q from ry)
 obtain⟨its,r1,p1,_⟩:=I.list h1;obtain⟨Fq,r2,p2,_⟩:=I.list h2
 cases r2
 by_cases e:xs=[]
 ·subst e
  cases r1
  refine SeqAt.eq_listAt (e:=λ_=>true) p1.isList p2.isList rfl hr.aaU (λj a b=>absurd a (by simp)) ⟨.bl true,H,I,?_,by simpa using w⟩;rfl
 ·refine SeqAt.eq_list_lengthsAt p1.isList p2.isList ?_ hr.aaU ⟨.bl false,H,I,rfl,by simpa[e] using w⟩;have hl:=r1.length;have hx:xs.length≠0:=λz=>e (List.eq_nil_of_length_eq_zero z)
  have:its.toArray.size≠0:=by rw[List.size_toArray];omega
  simpa using this
end
def xn (tabs:List (Addr×Addr))(H:Hp):Prop:=(∀b,H b=none\/(∃o xs,H b=some (.frz o (.lst xs)))\/(H b=some (.tbl #[])/\∃c,(c,b)∈tabs))/\∀q∈tabs,H q.2=some (.tbl #[])
structure wI (tabs:List (Addr×Addr))(mg:wg)(base:Heap):Prop where
 hd:∀q∈tabs,CodeHd base q.1 q.2
 bm:∃bm ob,mg "__builtins__"=some (.ref bm)/\bm≠builtinsNs/\base.get? bm=some ob/\ob.cls=.type "module"/\ob.dict=some builtinsNs/\ob.data=.plain
theorem tY {mg mb:wg}{CX:wC}{fa:Addr}{s₁:AQ}{vs:nZ}{ns:List Int}{tabs:List (Addr×Addr)}
 (KX:K.In s₁.heap)(Mr:s₁.heap.Ns mainGlobals mg)(hb:s₁.heap.Ns builtinsNs mb)(hbb:∀x:Str,x ≠ "__name__"->mb x=bootBuiltins x)(SI:s₁.heap.NoLimit)(hg:s₁.gens = #[])
 (ha:s₁.heap.get? a=some {cls:=.type "list",data:=.seq vs.toArray})(hi:IntsAre vs ns)(hl:ns.length<=sizeLine)(hr:oJ k callerA)(hT:TabsAt tabs s₁.heap)(hKT:∀q∈tabs,K.lookup q.2=none)
 (hbm:∃bm ob,mg "__builtins__"=some (.ref bm)/\bm≠builtinsNs/\s₁.heap.get? bm=some ob/\ob.cls=.type "module"/\ob.dict=some builtinsNs/\ob.data=.plain)
 (F:∀base:Heap,K.In base->base.Ns mainGlobals mg->wI tabs mg base->E6 P w K mg base CX k fa fd [x] sp)(Ni:∀(s:AQ)(u:Value),BindsTo s fd ⟨[u],[]⟩ [(x,u)])
 (Ig:∀H:Hp,xn tabs H->aV K H a (ns.map V.int)->sp [.ref a] H (λv _=>v=.bl true) λ_ _ _=>False)
 (SJ:∀H e s',CX [] H s₁ (λ_ _ _=>False) e s'->False):
 codeAny (model P w) callerA (.call (.ref fa) ⟨[.ref a],[]⟩) (λr s'=>r=.ok (.ret (.bool true))/\OldK s₁.heap s'.heap/\s'.os=s₁.os/\AllBare s'.gens) s₁:=by
 have rv:=lX hi;have SK:=hi.length;have lu:∀b,(∃c,(c,b)∈tabs)->s₁.heap.get? b=some (tabObj #[]):=λb ⟨c,hc⟩=>(hT _ hc).2
 have core:∀H:Hp,xn tabs H->aV K H a (ns.map V.int)->gu P w H s₁.heap->(∀b,H b≠none->b=a\/∃c,(c,b)∈tabs)->(H a≠none->K.lookup a=none) →
  codeAny (model P w) callerA (.call (.ref fa) ⟨[.ref a],[]⟩) (λr s'=>r=.ok (.ret (.bool true))/\OldK s₁.heap s'.heap/\s'.os=s₁.os/\AllBare s'.gens) s₁:=by
  intro H hO hS hok hA hK;have base_of:∀{b:Addr}{o:Obj},s₁.heap.get? b=some o->H b=none->(lr s₁.heap H).get? b=some o:=λe n=>CXT e n
  have Xy:∀{b:Addr}{o:Obj},s₁.heap.get? b=some o->o.cls≠.none->(∀its n,o.data≠.seq its n)->H b=none:=λ{b o} e d1 d2=>by
   cases q:H b with
   |none=>rfl
   |some u =>
    rcases hA b (by rw[q];simp) with e'|e'
    ·subst e';rw[ha] at e;cases e;exact absurd rfl (d2 _ _)
    ·rw[lu b e'] at e;cases e;exact absurd rfl d1
  have noA:∀{b:Addr}{o:Obj}{es:Array DictEntry}{ep:Nat},s₁.heap.get? b=some o->o.data=.dict es ep->H b=none:=λ{b o es ep} e d=>by
   cases q:H b with
   |none=>rfl
   |some u =>
    rcases hA b (by rw[q];simp) with e'|e'
    ·subst e';rw[ha] at e;cases e;have d':Data.seq vs.toArray _=Data.dict es ep:=d
     cases d'
    ·rw[lu b e'] at e;cases e;have d':Data.fields #[]=Data.dict es ep:=d
     cases d'
  have Q7:∀{b:Addr}{m:wg},s₁.heap.Ns b m->(lr s₁.heap H).Ns b m:=λ{b m} ⟨o,es,ep,e,d,r⟩=>⟨o,es,ep,base_of e (noA e d),d,r⟩
  have Xz:K.In (lr s₁.heap H):=λb o e=>base_of (KX b o e) (by
   cases q:H b with
   |none=>rfl
   |some u =>
    rcases hA b (by rw[q];simp) with e'|⟨c,e'⟩
    ·subst e';rw[hK (by rw[q];simp)] at e;cases e
    ·have z:=hKT _ e'
     rw[z] at e;cases e)
  have hM:Mod K mg (lr s₁.heap H):=⟨Xz,Q7 Mr,⟨mb,Q7 hb,hbb⟩,let⟨mc,h1,h2⟩:=SI;⟨mc,Q7 h1,h2⟩⟩
  have hBT:wI tabs mg (lr s₁.heap H):=by
   refine⟨λq hq=>?_,?_⟩
   ·obtain⟨o,ws,file,tf,flags,tg,inF,text,tt,e1,r1,r2,r3⟩:=(hT q hq).1;exact⟨o,ws,file,tf,flags,tg,inF,text,tt,base_of e1 (Xy e1 (by rw[r1];intro z;cases z) (λits n z=>by rw[r2] at z;cases z)),r1,r2,r3⟩
   ·obtain⟨bm,ob,b1,b2,b3,b4,b5,b6⟩:=hbm;exact⟨bm,ob,b1,b2,base_of b3 (Xy b3 (by rw[b4];intro z;cases z) (λits n z=>by rw[b6] at z;cases z)),b4,b5,b6⟩
  have e0:Ce P w K mg (lr s₁.heap H) callerA [] s₁ H:=⟨rfl,hM,λb o e=>aaw e,Nat.le_of_eq (Cls _ _),trivial,λb hb=>absurd (show b∈([]:List Addr) from hb) (by simp),hok,.of_eq hg⟩;refine codeAny_mono ((F _ Xz (Q7 Mr) hBT).run callerA [] s₁ H ⟨[.ref a],[]⟩ [.ref a] [.ref a] _ _ hr e0 (Ni s₁ (.ref a)) (.cons rfl .nil) (Ig H hO hS)) λr s' h=>?_
  cases r with
  |error e=>exact(SJ H e s' h).elim
  |ok fl =>
   cases fl with
   |next=>exact False.elim h
   |brk=>exact False.elim h
   |cont=>exact False.elim h
   |ret u =>
    obtain⟨v,H',os,bare,un,Nj,r',q⟩:=h;have q':v=.bl true:=q;subst q';obtain rfl:u=Value.bool true:=r';refine⟨rfl,⟨λb o e=>?_,λb o e=>un.there b o e (by simp)⟩,os,bare⟩
    cases q:H b with
    |none=>exact .inl (un.keep b o e q (by intro z;exact absurd (show b∈([]:List Addr) from z) (by simp)) (by simp))
    |some u =>
     rcases hO.1 b with z|⟨ob,xs,z⟩|⟨z,c,hc⟩
     ·rw[q] at z;cases z
     ·have z2:=un.aap b ob _ z;obtain⟨e1,_⟩:=hok b _ z;obtain⟨e2,_⟩:=Nj b _ z2;rw[e] at e1;cases e1;exact .inl e2
     ·obtain⟨more,z2⟩:=un.aav b _ z;have e2:s'.heap.get? b=some {cls:=.none,data:=.fields (#[]++more)}:=Nj b _ z2;have e1:=lu b ⟨c,hc⟩;rw[e] at e1;cases e1;exact .inr (.inl ⟨((hT _ hc).1.tab (hT _ hc).2).isCodeTable,rfl,#[],more,rfl,e2⟩)
 have aT:∀c,(c,a)∉tabs:=λc hc=>by
  have z:=lu a ⟨c,hc⟩;rw[ha] at z
  cases z
 have Nk:∀b,Decidable (∃c,(c,b)∈tabs):=λb=>Classical.propDecidable _
 cases hk:K.lookup a with
 |some o =>
  have e:=KX a o hk;rw[ha] at e
  cases e
  refine core (λb=>@ite _ (∃c,(c,b)∈tabs) (Nk b) (some (.tbl #[])) none) ⟨λb=>?_,λq hq=>?_⟩ (.inr ⟨_,vs.toArray,_,hk,rfl,rfl,rfl,by rw[List.size_toArray,SK];exact hl,by simpa using rv⟩) (λb u z=>?_) (λb z=>?_) λz=>?_
  ·by_cases hb:∃c,(c,b)∈tabs
   ·exact .inr (.inr ⟨if_pos hb,hb⟩)
   ·exact .inl (if_neg hb)
  ·exact if_pos ⟨q.1,hq⟩
  ·by_cases hb:∃c,(c,b)∈tabs
   ·have z':=(if_pos hb).symm.trans z
    cases z'
    exact lu b hb
   ·have z':=(if_neg hb).symm.trans z
    cases z'
  ·by_cases hb:∃c,(c,b)∈tabs
   ·exact .inr hb
   ·exact absurd (if_neg hb) z
  ·exact absurd (if_neg λ⟨c,hc⟩=>aT c hc) z
 |none =>
  refine core (λb=>if b=a then some (.frz {cls:=.type "list",data:=.seq vs.toArray} (.lst (ns.map V.int))) else @ite _ (∃c,(c,b)∈tabs) (Nk b) (some (.tbl #[])) none) ⟨λb=>?_,λq hq=>?_⟩ (.inl (.inr ⟨{cls:=.type "list",data:=.seq vs.toArray},if_pos rfl⟩)) (λb u z=>?_) (λb z=>?_) λ_=>hk
  ·by_cases hb:b=a
   ·exact .inr (.inl ⟨_,_,if_pos hb⟩)
   ·by_cases ht:∃c,(c,b)∈tabs
    ·exact .inr (.inr ⟨(if_neg hb).trans (if_pos ht),ht⟩)
    ·exact .inl ((if_neg hb).trans (if_neg ht))
  ·have hb:q.2≠a:=λz=>aT q.1 (by rw[<-z];exact hq);exact(if_neg hb).trans (if_pos ⟨q.1,hq⟩)
  ·by_cases hb:b=a
   ·have z':=(if_pos hb).symm.trans z
    cases z'
    subst hb;exact⟨ha,by rw[List.length_map];exact hl,vs,_,rv,ha⟩
   ·have z':=(if_neg hb).symm.trans z
    by_cases ht:∃c,(c,b)∈tabs
    ·have z2:=(if_pos ht).symm.trans z'
     cases z2
     exact lu b ht
    ·have z2:=(if_neg ht).symm.trans z'
     cases z2
  ·by_cases hb:b=a
   ·exact .inl hb
   ·by_cases ht:∃c,(c,b)∈tabs
    ·exact .inr ht
    ·exact absurd ((if_neg hb).trans (if_neg ht)) z
structure DJ (K:Frag)(x qual:Str)(st:Stmt)(f:Addr)(fd:xR)(T:Addr):Prop where
 ex:∃(oc:Value)(od:Bo)(kV doc pm:Value)(an:Bo)(Ff ct:Value)(FA:Dg),
  fd=fnOf x qual (cW st) (cn st) (aq st) (.ref T) kV doc pm an Ff ct/\K.lookup f=some ⟨oc,od,.func fd,FA⟩/\codeIn K Ff qual=true
 kp:keepIn K (.ref f)=true
section
variable {P:u6}{w:World}{K:Frag}{mg:wg}{base:Heap}
theorem DJ.okE {T:Addr}(F:DJ K x qual st f fd T)(S:yI N ps (aq st))(len:∀vs H Q E,sp vs H Q E->vs.length=ps.length)
 (Gm:∀(Ff:Value)(A:Around)(outer:List Env)(s:AQ)(H:Hp)(vs:List V)(Q:VK)(E:XK),oJ k (A.deeper (envOfC qual (aq st) s.heap.objs.size f Ff))->sp vs H Q E →
  ∃t,oA (fK (aN P w) P w K mg base N qual (aq st) f Ff A outer s H E) (cn st) t/\t {nx:=λ_ H'=>Q .non H',rt:=Q} (ir N vs) H):E6 P w K mg base (aN P w) (k+1) f fd ps sp:=by
 obtain⟨oc,od,kV,doc,pm,an,Ff,ct,FA,rfl,lk,F3⟩:=F.ex;exact vB lk F3 S len λA outer s H vs Q E hr Ig=>Gm Ff A outer s H vs Q E hr Ig
theorem zp {T:Addr}{oc:Value}{od an:Bo}{FA:Dg}{kV doc pm Ff ct:Value}(l:K.lookup f=some ⟨oc,od,.func (fnOf x qual (cW st) (cn st) (aq st) (.ref T) kV doc pm an Ff ct),FA⟩)
 (c:codeIn K Ff qual=true)(k:keepIn K (.ref f)=true):DJ K x qual st f (fnOf x qual (cW st) (cn st) (aq st) (.ref T) kV doc pm an Ff ct) T:=⟨⟨oc,od,kV,doc,pm,an,Ff,ct,FA,rfl,l,c⟩,k⟩
end
def gA:Expr->Bool
 | .Starred _ _=>true
 |_=>false
theorem aY {e:Expr}{rest:Aw}(h:gA e=false):starEach (e::rest) env=(false,eval e env):: starEach rest env:=by
 cases e <;> first|rfl|cases h
section
variable {X:Cx}{e:Expr}{es:Aw}{te:TE}{t:TA}
theorem ah (ha:PE X e te)(hr:PA X es t)(h:gA e=false:=by rfl):PA X (e::es) (bg te t):=dQ ha hr (aY h)
end
inductive D where
 |non|bl (b:Bool)|int (i:Int)|str (x:Str)|lst (ds:List D)|tup (ds:List D)
mutual
def aK (K:Frag)(H:Hp):D->V->Prop
 | .non,v=>v=.non
 | .bl b,v=>v=.bl b
 | .int i,v=>v=.int i
 | .str x,v=>v=.str x
 | .lst ds,v=>∃a xs,v=.ref a/\aV K H a xs/\ba K H ds xs
 | .tup ds,v=>∃a xs,v=.ref a/\bV K H a xs/\ba K H ds xs
def ba (K:Frag)(H:Hp):List D->List V->Prop
 |[],xs=>xs=[]
 |d::ds,xs=>∃y ys,xs=y::ys/\aK K H d y/\ba K H ds ys
end
mutual
def i6:D->D->Bool
 | .non,.non=>true
 | .bl a,.bl b=>a==b
 | .bl a,.int b=>(if a then 1 else 0)==b
 | .int a,.bl b=>a==(if b then 1 else 0)
 | .int a,.int b=>a==b
 | .str a,.str b=>a==b
 | .lst a,.lst b=>fO a b
 | .tup a,.tup b=>fO a b
 |_,_=>false
def fO:List D->List D->Bool
 |[],[]=>true
 |a::as,b::bs=>i6 a b&&fO as bs
 |_,_=>false
end
mutual
def ix:D->Nat
 | .lst ds=>dD ds+1
 | .tup ds=>dD ds+1
 |_=>0
def dD:List D->Nat
 |[]=>0
 |d::ds=>max (ix d) (dD ds)
end
theorem rP:∀{ds:List D}{d:D},d∈ds->ix d<=dD ds
 |e::ds,d,h=>by
  unfold dD
  rcases List.mem_cons.mp h with rfl|h
  ·exact Nat.le_max_left _ _
  ·exact Nat.le_trans (rP h) (Nat.le_max_right _ _)
theorem iD:∀(as bs:List D),fO as bs=((List.range (min as.length bs.length)).all (λj=>i6 (as.getD j .non) (bs.getD j .non))&&as.length==bs.length)
 |[],[]=>rfl
 |[],b::bs=>by simp;rfl
 |a::as,[]=>by simp;rfl
 |a::as,b::bs=>by
  show(i6 a b&&fO as bs)=_;rw[iD as bs]
  have e:min (a::as).length (b::bs).length=min as.length bs.length+1:=by simp[Nat.succ_min_succ]
  rw[e,List.range_succ_eq_map,List.all_cons,List.all_map]
  have h1:((a::as).length==(b::bs).length)=(as.length==bs.length):=by simp
  rw[h1,Bool.and_assoc];rfl
theorem ba.len :∀{ds:List D}{xs:List V},ba K H ds xs->ds.length=xs.length
 |[],xs,h=>by
  have h:xs=[]:=by unfold ba at h;exact h
  rw[h];rfl
 |d::ds,xs,h=>by
  unfold ba at h;obtain⟨y,ys,rfl,_,h⟩:=h;simp[ba.len h]
theorem ba.get :∀{ds:List D}{xs:List V}{j:Nat}(hj:j<xs.length),ba K H ds xs->aK K H (ds.getD j .non) xs[j]/\ds.getD j .non∈ds
 |[],xs,j,hj,h=>by
  have h:xs=[]:=by unfold ba at h;exact h
  subst h;exact absurd hj (by simp)
 |d::ds,xs,j,hj,h=>by
  unfold ba at h;obtain⟨y,ys,rfl,hd,h⟩:=h
  cases j with
  |zero=>exact⟨hd,List.mem_cons_self⟩
  |succ j =>
   obtain⟨h1,h2⟩:=ba.get (j:=j) (by simpa using hj) h;exact⟨h1,List.mem_cons_of_mem _ h2⟩
mutual
theorem dE:∀d:D,i6 d d=true
 | .non=>rfl
 | .bl b=>beq_self_eq_true b
 | .int i=>beq_self_eq_true i
 | .str x=>beq_self_eq_true x
 | .lst ds=>jr ds
 | .tup ds=>jr ds
theorem jr:∀ds:List D,fO ds ds=true
 |[]=>rfl
 |d::ds=>by show(i6 d d&&fO ds ds)=true;rw[dE d,jr ds];rfl
end
section
variable {X:Cx}{pins:List (Addr×Obj)}{σ:St}{H:Hp}{s:AQ}
theorem gO (I:Inv X pins σ H s){xs ys:List V}(h1:aV X.K H a xs)(h2:bV X.K H a ys):False:=by
 obtain⟨its,_,p1,_⟩:=I.list h1;obtain⟨Fq,_,p2,_⟩:=I.tuple h2;exact SeqAt.ne_of_list_tuple p1.isList (show s.heap.IsTuple a Fq.toArray from p2) rfl
mutual
theorem kH (I:Inv X pins σ H s):∀(d e:D)(v:V),aK X.K H d v->aK X.K H e v->i6 d e=true
 | .non,e,v,h1,h2=>by
   unfold aK at h1;subst h1
   cases e <;> unfold aK at h2 <;> first|(obtain⟨_,_,z,_⟩:=h2;cases z;done)|rfl|(cases h2;done)
 | .bl b,e,v,h1,h2=>by
   unfold aK at h1;subst h1
   cases e <;> unfold aK at h2 <;> first|(obtain⟨_,_,z,_⟩:=h2;cases z;done)|(cases h2;exact dE _)|(cases h2;done)
 | .int b,e,v,h1,h2=>by
   unfold aK at h1;subst h1
   cases e <;> unfold aK at h2 <;> first|(obtain⟨_,_,z,_⟩:=h2;cases z;done)|(cases h2;exact dE _)|(cases h2;done)
 | .str b,e,v,h1,h2=>by
   unfold aK at h1;subst h1
   cases e <;> unfold aK at h2 <;> first|(obtain⟨_,_,z,_⟩:=h2;cases z;done)|(cases h2;exact dE _)|(cases h2;done)
 | .lst ds,e,v,h1,h2=>by
   unfold aK at h1;obtain⟨a,xs,rfl,q,r⟩:=h1
   cases e with
   |lst es =>
    unfold aK at h2;obtain⟨b,ys,z,q2,r2⟩:=h2
    cases z
    have e:=I.aaT q q2;subst e;exact je I ds es xs r r2
   |tup es =>
    unfold aK at h2;obtain⟨b,ys,z,q2,r2⟩:=h2
    cases z
    exact(gO I q q2).elim
   |_=>unfold aK at h2;cases h2
 | .tup ds,e,v,h1,h2=>by
   unfold aK at h1;obtain⟨a,xs,rfl,q,r⟩:=h1
   cases e with
   |tup es =>
    unfold aK at h2;obtain⟨b,ys,z,q2,r2⟩:=h2
    cases z
    have e:=I.aaG q q2;subst e;exact je I ds es xs r r2
   |lst es =>
    unfold aK at h2;obtain⟨b,ys,z,q2,r2⟩:=h2
    cases z
    exact(gO I q2 q).elim
   |_=>unfold aK at h2;cases h2
theorem je (I:Inv X pins σ H s):∀(ds es:List D)(xs:List V),ba X.K H ds xs->ba X.K H es xs->fO ds es=true
 |[],es,xs,h1,h2=>by
  unfold ba at h1;subst h1
  cases es with
  |nil=>rfl
  |cons e es=>unfold ba at h2;obtain⟨_,_,z,_⟩:=h2;cases z
 |d::ds,es,xs,h1,h2=>by
  unfold ba at h1;obtain⟨y,ys,rfl,hd,h1⟩:=h1
  cases es with
  |nil=>unfold ba at h2;cases h2
  |cons e es =>
   unfold ba at h2;obtain⟨_,_,z,he,h2⟩:=h2
   cases z
   show(i6 d e&&fO ds es)=true;rw[kH I d e y hd he,je I ds es ys h1 h2];rfl
end
theorem k9 (I:Inv X pins σ H s)(n:Nat)(ih:n≠0->∀(A:Around)(d e:D)(x y:V)(u v:Value),ix d<=n-1->A.units+(n-1)<cLine->aK X.K H d x->aK X.K H e y->aE x u->aE y v->SeqAt.EqAt A s u v (i6 d e))
 (SM:n≠0)(A:Around)(hu:A.units+n<cLine){ds es:List D}{xs ys:List V}{its Fq:nZ}(r1:ba X.K H ds xs)(r2:ba X.K H es ys)(rv:aG xs its)(Gj:aG ys Fq)(hn:dD ds<=n-1):
 ∀j (h1:j<its.toArray.size)(h2:j<Fq.toArray.size),SeqAt.EqAt A.in1 s its.toArray[j] Fq.toArray[j] (i6 (ds.getD j .non) (es.getD j .non)):=by
 intro j h1 h2
 have e1:j<xs.length:=by rw[rv.length];simpa using h1
 have e2:j<ys.length:=by rw[Gj.length];simpa using h2
 obtain⟨d1,m1⟩:=r1.get e1;obtain⟨d2,m2⟩:=r2.get e2;obtain⟨u,hu1,ru⟩:=rv.get (List.getElem?_eq_getElem e1);obtain⟨v,hv1,rv'⟩:=Gj.get (List.getElem?_eq_getElem e2)
 have z1:its.toArray[j]=u:=by
  have:=List.getElem?_eq_some_iff.mp hu1;obtain⟨_,q⟩:=this;simpa using q
 have z2:Fq.toArray[j]=v:=by
  have:=List.getElem?_eq_some_iff.mp hv1;obtain⟨_,q⟩:=this;simpa using q
 rw[z1,z2];exact ih SM A.in1 _ _ _ _ _ _ (Nat.le_trans (rP m1) hn) (by show A.units+1+(n-1)<cLine;omega) d1 d2 ru rv'
theorem mV (I:Inv X pins σ H s)(n:Nat)(ih:n≠0->∀(A:Around)(d e:D)(x y:V)(u v:Value),ix d<=n-1->A.units+(n-1)<cLine->aK X.K H d x->aK X.K H e y->aE x u->aE y v->SeqAt.EqAt A s u v (i6 d e))
 (A:Around)(d e:D)(x y:V)(u v:Value)(hn:ix d<=n)(hu:A.units+n<cLine)(h1:aK X.K H d x)(h2:aK X.K H e y)(rx:aE x u)(ry:aE y v):
 SeqAt.RcAt A s u v (i6 d e)/\SeqAt.EqAt A s u v (i6 d e)/\SeqAt.RcNeAt A s u v (!i6 d e):=by
 have Fu:A.units<cLine:=by omega
 cases d with
 |non =>
  unfold aK at h1;subst h1
  cases rx
  cases e with
  |non =>
   unfold aK at h2;subst h2
   cases ry
   exact⟨.none_none,.same _,.none_none⟩
  |bl q =>
   unfold aK at h2;subst h2
   cases ry
   exact⟨.none_bool q,.none_bool q,.none_bool q⟩
  |int q =>
   unfold aK at h2;subst h2;obtain⟨tq,rfl⟩:=ry;exact⟨.none_int q tq,.none_int q tq,.none_int q tq⟩
  |str q =>
   unfold aK at h2;subst h2;obtain⟨tq,rfl⟩:=ry;exact⟨.none_str q tq,.none_str q tq,.none_str q tq⟩
  |lst es =>
   unfold aK at h2;obtain⟨b,ys,rfl,q2,r2⟩:=h2
   cases ry
   obtain⟨Fq,Gj,p2,_⟩:=I.list q2;exact⟨.none_list  p2.isList Fu,.none_list  p2.isList Fu,.none_list  p2.isList Fu⟩
  |tup es =>
   unfold aK at h2;obtain⟨b,ys,rfl,q2,r2⟩:=h2
   cases ry
   obtain⟨Fq,Gj,p2,_⟩:=I.tuple q2;have p2:s.heap.IsTuple b Fq.toArray:=p2;exact⟨.none_tuple  p2 Fu,.none_tuple  p2 Fu,.none_tuple  p2 Fu⟩
 |bl p =>
  unfold aK at h1;subst h1
  cases rx
  cases e with
  |non =>
   unfold aK at h2;subst h2
   cases ry
   exact⟨.bool_none p,.bool_none p,.bool_none p⟩
  |bl q =>
   unfold aK at h2;subst h2
   cases ry
   exact⟨.bool_bool p q,.bool_bool p q,.bool_bool p q⟩
  |int q =>
   unfold aK at h2;subst h2;obtain⟨tq,rfl⟩:=ry;exact⟨.bool_int p q tq,.bool_int p q tq,.bool_int p q tq⟩
  |str q =>
   unfold aK at h2;subst h2;obtain⟨tq,rfl⟩:=ry;exact⟨.bool_str p q tq,.bool_str p q tq,.bool_str p q tq⟩
  |lst es =>
   unfold aK at h2;obtain⟨b,ys,rfl,q2,r2⟩:=h2
   cases ry
   obtain⟨Fq,Gj,p2,_⟩:=I.list q2;exact⟨.bool_list p p2.isList Fu,.bool_list p p2.isList Fu,.bool_list p p2.isList Fu⟩
  |tup es =>
   unfold aK at h2;obtain⟨b,ys,rfl,q2,r2⟩:=h2
   cases ry
   obtain⟨Fq,Gj,p2,_⟩:=I.tuple q2;have p2:s.heap.IsTuple b Fq.toArray:=p2;exact⟨.bool_tuple p p2 Fu,.bool_tuple p p2 Fu,.bool_tuple p p2 Fu⟩
 |int p =>
  unfold aK at h1;subst h1;obtain⟨tp,rfl⟩:=rx
  cases e with
  |non =>
   unfold aK at h2;subst h2
   cases ry
   exact⟨.int_none p tp,.int_none p tp,.int_none p tp⟩
  |bl q =>
   unfold aK at h2;subst h2
   cases ry
   exact⟨.int_bool p tp q,.int_bool p tp q,.int_bool p tp q⟩
  |int q =>
   unfold aK at h2;subst h2;obtain⟨tq,rfl⟩:=ry;exact⟨.int_int p tp q tq,.int_int p tp q tq,.int_int p tp q tq⟩
  |str q =>
   unfold aK at h2;subst h2;obtain⟨tq,rfl⟩:=ry;exact⟨.int_str p tp q tq,.int_str p tp q tq,.int_str p tp q tq⟩
  |lst es =>
   unfold aK at h2;obtain⟨b,ys,rfl,q2,r2⟩:=h2
   cases ry
   obtain⟨Fq,Gj,p2,_⟩:=I.list q2;exact⟨.int_list p tp p2.isList Fu,.int_list p tp p2.isList Fu,.int_list p tp p2.isList Fu⟩
  |tup es =>
   unfold aK at h2;obtain⟨b,ys,rfl,q2,r2⟩:=h2
   cases ry
   obtain⟨Fq,Gj,p2,_⟩:=I.tuple q2;have p2:s.heap.IsTuple b Fq.toArray:=p2;exact⟨.int_tuple p tp p2 Fu,.int_tuple p tp p2 Fu,.int_tuple p tp p2 Fu⟩
 |str p =>
  unfold aK at h1;subst h1;obtain⟨tp,rfl⟩:=rx
  cases e with
  |non =>
   unfold aK at h2;subst h2
   cases ry
   exact⟨.str_none p tp,.str_none p tp,.str_none p tp⟩
  |bl q =>
   unfold aK at h2;subst h2
   cases ry
   exact⟨.str_bool p tp q,.str_bool p tp q,.str_bool p tp q⟩
  |int q =>
   unfold aK at h2;subst h2;obtain⟨tq,rfl⟩:=ry;exact⟨.str_int p tp q tq,.str_int p tp q tq,.str_int p tp q tq⟩
  |str q =>
   unfold aK at h2;subst h2;obtain⟨tq,rfl⟩:=ry;exact⟨.str_str p tp q tq,.str_str p tp q tq,.str_str p tp q tq⟩
  |lst es =>
   unfold aK at h2;obtain⟨b,ys,rfl,q2,r2⟩:=h2
   cases ry
   obtain⟨Fq,Gj,p2,_⟩:=I.list q2;exact⟨.str_list p tp p2.isList Fu,.str_list p tp p2.isList Fu,.str_list p tp p2.isList Fu⟩
  |tup es =>
   unfold aK at h2;obtain⟨b,ys,rfl,q2,r2⟩:=h2
   cases ry
   obtain⟨Fq,Gj,p2,_⟩:=I.tuple q2;have p2:s.heap.IsTuple b Fq.toArray:=p2;exact⟨.str_tuple p tp p2 Fu,.str_tuple p tp p2 Fu,.str_tuple p tp p2 Fu⟩
 |lst ds =>
  unfold aK at h1;obtain⟨a,xs,rfl,q1,r1⟩:=id h1
  cases rx
  obtain⟨its,rv,p1,_⟩:=I.list q1;have p1:s.heap.IsList a its.toArray:=p1.isList
  cases e with
  |non =>
   unfold aK at h2;subst h2
   cases ry
   exact⟨.list_none  p1 Fu,.list_none  p1 Fu,.list_none  p1 Fu⟩
  |bl q =>
   unfold aK at h2;subst h2
   cases ry
   exact⟨.list_bool q p1 Fu,.list_bool q p1 Fu,.list_bool q p1 Fu⟩
  |int q =>
   unfold aK at h2;subst h2;obtain⟨tq,rfl⟩:=ry;exact⟨.list_int q tq p1 Fu,.list_int q tq p1 Fu,.list_int q tq p1 Fu⟩
  |str q =>
   unfold aK at h2;subst h2;obtain⟨tq,rfl⟩:=ry;exact⟨.list_str q tq p1 Fu,.list_str q tq p1 Fu,.list_str q tq p1 Fu⟩
  |lst es =>
   unfold aK at h2;obtain⟨b,ys,rfl,q2,r2⟩:=id h2
   cases ry
   obtain⟨Fq,Gj,p2,_⟩:=I.list q2;have p2:s.heap.IsList b Fq.toArray:=p2.isList;have el:=k9 I n ih (by unfold ix at hn;omega) A hu r1 r2 rv Gj (by unfold ix at hn;omega)
   have l1:its.toArray.size=ds.length:=by rw[List.size_toArray,<-rv.length,r1.len]
   have l2:Fq.toArray.size=es.length:=by rw[List.size_toArray,<-Gj.length,r2.len]
   have dr:=iD ds es
   have key:SeqAt.RcAt A s (.ref a) (.ref b) (fO ds es)/\SeqAt.RcNeAt A s (.ref a) (.ref b) (!fO ds es):=by
    by_cases hl:ds.length=es.length
    ·have hs:its.toArray.size=Fq.toArray.size:=by rw[l1,l2,hl]
     have z:(List.range its.toArray.size).all (λj=>i6 (ds.getD j .non) (es.getD j .non))=fO ds es:=by rw[dr,l1,hl];simp
     have c1:=SeqAt.RcAt.lists p1 p2 hs Fu el;have c2:=SeqAt.RcNeAt.lists p1 p2 hs Fu el;rw[z] at c1 c2;exact⟨c1,c2⟩
    ·have z:fO ds es=false:=by rw[dr];simp[hl]
     have hs:(its.toArray.size != Fq.toArray.size)=true:=by rw[l1,l2];simpa using hl
     rw[z];exact⟨SeqAt.RcAt.lists_lengths p1 p2 hs Fu,SeqAt.RcNeAt.lists_lengths p1 p2 hs Fu⟩
   have Lk:i6 (.lst ds) (.lst es)=fO ds es:=rfl
   by_cases Nl:a=b
   ·subst Nl;have z:=kH I (.lst ds) (.lst es) (.ref a) (by unfold aK;exact⟨a,xs,rfl,q1,r1⟩) (by unfold aK;exact⟨a,ys,rfl,q2,r2⟩);refine⟨by rw[Lk];exact key.1,by rw[z];exact .same _,by rw[Lk];exact key.2⟩
   ·rw[Lk];exact⟨key.1,.of_refs Nl key.1,key.2⟩
  |tup es =>
   unfold aK at h2;obtain⟨b,ys,rfl,q2,r2⟩:=id h2
   cases ry
   obtain⟨Fq,Gj,p2,_⟩:=I.tuple q2;have p2:s.heap.IsTuple b Fq.toArray:=p2;exact⟨.list_tuple p1 p2 Fu,.list_tuple p1 p2 Fu,.list_tuple p1 p2 Fu⟩
 |tup ds =>
  unfold aK at h1;obtain⟨a,xs,rfl,q1,r1⟩:=id h1
  cases rx
  obtain⟨its,rv,p1,_⟩:=I.tuple q1;have p1:s.heap.IsTuple a its.toArray:=p1
  cases e with
  |non =>
   unfold aK at h2;subst h2
   cases ry
   exact⟨.tuple_none  p1 Fu,.tuple_none  p1 Fu,.tuple_none  p1 Fu⟩
  |bl q =>
   unfold aK at h2;subst h2
   cases ry
   exact⟨.tuple_bool q p1 Fu,.tuple_bool q p1 Fu,.tuple_bool q p1 Fu⟩
  |int q =>
   unfold aK at h2;subst h2;obtain⟨tq,rfl⟩:=ry;exact⟨.tuple_int q tq p1 Fu,.tuple_int q tq p1 Fu,.tuple_int q tq p1 Fu⟩
  |str q =>
   unfold aK at h2;subst h2;obtain⟨tq,rfl⟩:=ry;exact⟨.tuple_str q tq p1 Fu,.tuple_str q tq p1 Fu,.tuple_str q tq p1 Fu⟩
  |lst es =>
   unfold aK at h2;obtain⟨b,ys,rfl,q2,r2⟩:=id h2
   cases ry
   obtain⟨Fq,Gj,p2,_⟩:=I.list q2;have p2:s.heap.IsList b Fq.toArray:=p2.isList;exact⟨.tuple_list p1 p2 Fu,.tuple_list p1 p2 Fu,.tuple_list p1 p2 Fu⟩
  |tup es =>
   unfold aK at h2;obtain⟨b,ys,rfl,q2,r2⟩:=id h2
   cases ry
   obtain⟨Fq,Gj,p2,_⟩:=I.tuple q2;have p2:s.heap.IsTuple b Fq.toArray:=p2;have el:=k9 I n ih (by unfold ix at hn;omega) A hu r1 r2 rv Gj (by unfold ix at hn;omega)
   have l1:its.toArray.size=ds.length:=by rw[List.size_toArray,<-rv.length,r1.len]
   have l2:Fq.toArray.size=es.length:=by rw[List.size_toArray,<-Gj.length,r2.len]
   have dr:=iD ds es
   have key:SeqAt.RcAt A s (.ref a) (.ref b) (fO ds es)/\SeqAt.RcNeAt A s (.ref a) (.ref b) (!fO ds es):=by
    have z:((List.range (min its.toArray.size Fq.toArray.size)).all (λj=>i6 (ds.getD j .non) (es.getD j .non))&&its.toArray.size==Fq.toArray.size)=fO ds es:=by rw[dr,l1,l2]
    have c1:=SeqAt.RcAt.tuples p1 p2 Fu el;have c2:=SeqAt.RcNeAt.tuples p1 p2 Fu el;rw[z] at c1 c2;exact⟨c1,c2⟩
   have Lk:i6 (.tup ds) (.tup es)=fO ds es:=rfl
   by_cases Nl:a=b
   ·subst Nl;have z:=kH I (.tup ds) (.tup es) (.ref a) (by unfold aK;exact⟨a,xs,rfl,q1,r1⟩) (by unfold aK;exact⟨a,ys,rfl,q2,r2⟩);refine⟨by rw[Lk];exact key.1,by rw[z];exact .same _,by rw[Lk];exact key.2⟩
   ·rw[Lk];exact⟨key.1,.of_refs Nl key.1,key.2⟩
theorem jl (I:Inv X pins σ H s):∀(n:Nat)(A:Around)(d e:D)(x y:V)(u v:Value),ix d<=n->A.units+n<cLine->aK X.K H d x->aK X.K H e y->aE x u->aE y v →
 SeqAt.RcAt A s u v (i6 d e)/\SeqAt.EqAt A s u v (i6 d e)/\SeqAt.RcNeAt A s u v (!i6 d e):=by
 intro n
 induction n with
 |zero=>exact λA d e x y u v hn hu h1 h2 rx ry=>mV I 0 (λz=>absurd z (by simp)) A d e x y u v hn hu h1 h2 rx ry
 |succ n ih=>exact λA d e x y u v hn hu h1 h2 rx ry=>mV I (n+1) (λ_ A d e x y u v hn hu h1 h2 rx ry=>(ih A d e x y u v hn hu h1 h2 rx ry).2.1) A d e x y u v hn hu h1 h2 rx ry
end
section
variable {X:Cx}
def C8 (K:Frag)(neg:Bool):R2:=λx y H Q=>∃d e,aK K H d x/\aK K H e y/\ix d<=32/\Q (.bl (i6 d e != neg)) H
theorem qj (hr:oJ k X.A):gy X (compareOp .Eq) (C8 X.K false):=by
 intro pins s σ H x y v u Q I rx ry h;obtain⟨d,e,h1,h2,hd,q⟩:=h;have z:=(jl I 32 X.A d e x y v u hd (by have:=hr.units;omega) h1 h2 rx ry).1;exact z X.prog X.w X.xe _ ⟨.bl (i6 d e),H,I,rfl,by simpa using q⟩
theorem Af (hr:oJ k X.A):gy X (compareOp .NotEq) (C8 X.K true):=by
 intro pins s σ H x y v u Q I rx ry h;obtain⟨d,e,h1,h2,hd,q⟩:=h;have z:=(jl I 32 X.A d e x y v u hd (by have:=hr.units;omega) h1 h2 rx ry).2.2
 exact z X.prog X.w X.xe _ ⟨.bl (!i6 d e),H,I,rfl,by
  have e1:(i6 d e != true) = !i6 d e:=by cases i6 d e <;> rfl
  rw[e1] at q
  exact q⟩
end
end L2
namespace Nm
def eA (a b:Int):Int:=(Int.gcd a b:Int)
def dv (t b:Int):Int:=if b<0 then -(eA t b) else eA t b
def gq (t b:Int):Int:=t.fdiv (dv t b)
def dh (t b:Int):Int:=b.fdiv (dv t b)
variable {b:Int}
theorem i5 {t:Int}(h:b≠0):0<eA t b:=by
 unfold eA;have:0<Int.gcd t b:=Int.gcd_pos_of_ne_zero_right _ h;omega
theorem mZ {t:Int}(h:b≠0):dv t b≠0:=by
 have:=i5 (t:=t) h;unfold dv
 split <;> omega
theorem Ea {t:Int}:dv t b ∣ t:=by
 unfold dv eA
 split
 ·exact Int.neg_dvd.mpr (Int.gcd_dvd_left ..)
 ·exact Int.gcd_dvd_left ..
theorem Eo {t:Int}:dv t b ∣ b:=by
 unfold dv eA
 split
 ·exact Int.neg_dvd.mpr (Int.gcd_dvd_right ..)
 ·exact Int.gcd_dvd_right ..
theorem p5 {a:Int}(h:b ∣ a)(hb:b≠0):a.fdiv b*b=a:=by
 obtain⟨c,rfl⟩:=h;rw[Int.mul_fdiv_cancel_left _ hb,Int.mul_comm]
theorem va {t:Int}(h:b≠0):gq t b*dv t b=t:=p5 Ea (mZ h)
theorem oS {t:Int}(h:b≠0):dh t b*dv t b=b:=p5 Eo (mZ h)
theorem oh {t:Int}(h:b≠0):0<dh t b:=by
 have e:=oS (t:=t) h;have g:=i5 (t:=t) h
 by_cases hb:b<0
 ·have hd:dv t b = -(eA t b):=by unfold dv;rw[if_pos hb]
  rw[hd] at e
  by_cases hl:0<dh t b
  ·exact hl
  ·have:0<=dh t b * -(eA t b):=by
    have:=Int.mul_nonneg_of_nonpos_of_nonpos (a:=dh t b) (b:=-(eA t b)) (by omega) (by omega);exact this
   omega
 ·have hd:dv t b=eA t b:=by unfold dv;rw[if_neg hb]
  rw[hd] at e
  by_cases hl:0<dh t b
  ·exact hl
  ·have:dh t b*eA t b<=0:=Int.mul_nonpos_of_nonpos_of_nonneg (by omega) (by omega);omega
theorem mQ {t:Int}:(dv t b).natAbs=Int.gcd t b:=by
 unfold dv eA
 split <;> simp
theorem rR {t:Int}(h:b≠0):Int.gcd (gq t b) (dh t b)=1:=by
 have e1:=va (t:=t) h;have e2:=oS (t:=t) h;have g:0<Int.gcd t b:=Int.gcd_pos_of_ne_zero_right _ h;have e3:Int.gcd (gq t b*dv t b) (dh t b*dv t b)=Int.gcd (gq t b) (dh t b)*(dv t b).natAbs:=Int.gcd_mul_right ..;rw[e1,e2,mQ] at e3
 have:Int.gcd (gq t b) (dh t b)*Int.gcd t b=1*Int.gcd t b:=by omega
 exact Nat.eq_of_mul_eq_mul_right g this
theorem qw {t t' b':Int}(h:b≠0)(hp:0<b')(hg:Int.gcd t' b'=1)(he:t*b'=t'*b):gq t b=t'/\dh t b=b':=by
 have e1:=va (t:=t) h;have e2:=oS (t:=t) h;have g:=mZ (t:=t) h;have lp:=oh (t:=t) h;have lg:=rR (t:=t) h
 have e3:gq t b*b'=t'*dh t b:=by
  have z:(gq t b*b')*dv t b=(t'*dh t b)*dv t b:=by
   rw[Int.mul_right_comm,e1,he,Int.mul_assoc,e2]
  exact Int.eq_of_mul_eq_mul_right g z
 have n3:(gq t b).natAbs*b'.natAbs=t'.natAbs*(dh t b).natAbs:=by
  have:=congrArg Int.natAbs e3;rw[Int.natAbs_mul,Int.natAbs_mul] at this;exact this
 have c1:Nat.Coprime (dh t b).natAbs (gq t b).natAbs:=by
  rw[Nat.coprime_comm];exact lg
 have c2:Nat.Coprime b'.natAbs t'.natAbs:=by
  rw[Nat.coprime_comm];exact hg
 have d1:(dh t b).natAbs ∣ b'.natAbs:=c1.dvd_of_dvd_mul_left ⟨t'.natAbs,by rw[n3,Nat.mul_comm]⟩;have d2:b'.natAbs ∣ (dh t b).natAbs:=c2.dvd_of_dvd_mul_left ⟨(gq t b).natAbs,by rw[<-n3,Nat.mul_comm]⟩;have e4:(dh t b).natAbs=b'.natAbs:=Nat.dvd_antisymm d1 d2
 have e5:dh t b=b':=by omega
 refine⟨?_,e5⟩;rw[e5] at e3;exact Int.eq_of_mul_eq_mul_right (by omega) e3
theorem pJ {t b:Int}(hp:0<b)(hg:Int.gcd t b=1):gq t b=t/\dh t b=b:=qw (by omega) hp hg rfl
theorem oU (a b:Int):Int.gcd b (a.fmod b)=Int.gcd a b:=by
 rw[Int.fmod_def,Int.gcd_comm a b]
 first
  |exact Int.gcd_sub_mul_left_right ..
  |simp
theorem sv (a b:Int)(h:b≠0):(a.fmod b).natAbs<b.natAbs:=by
 by_cases hb:0<b
 ·have h1:=Int.fmod_lt_of_pos a hb;have h2:=Int.fmod_nonneg_of_pos a hb;omega
 ·have e:a.fmod b = -((-a).fmod (-b)):=by
   have:=Int.fmod_def a b;rw[Int.neg_fmod_neg];omega
  have h1:=Int.fmod_lt_of_pos (-a) (b:=-b) (by omega);have h2:=Int.fmod_nonneg_of_pos (-a) (b:=-b) (by omega);omega
def ab (b:Int):Int:=if b<0 then -b else b
theorem jV (b:Int):ab b=(b.natAbs:Int):=by unfold ab;split <;> omega
theorem Bt (a b:Int):Int.gcd (ab a) (ab b)=Int.gcd a b:=by
 rw[jV,jV];simp[Int.gcd]
def B (n:Nat)(i:Int):Prop:=i.natAbs<2^n
variable {n:Nat}{i:Int}
theorem B.mono {m:Nat}(h:B n i)(hn:n<=m):B m i:=Nat.lt_of_lt_of_le h (Nat.pow_le_pow_right (by decide) hn)
variable {j:Int}
theorem B.mul {m:Nat}(h:B n i)(k:B m j):B (n+m) (i*j):=by
 unfold B at *;rw[Int.natAbs_mul,Nat.pow_add];exact Nat.mul_lt_mul'' h k
theorem B.add (h:B n i)(k:B n j):B (n+1) (i+j):=by
 unfold B at *;rw[Nat.pow_succ];have:=Int.natAbs_add_le i j;omega
theorem B.le (h:B n i)(k:j.natAbs<=i.natAbs):B n j:=Nat.lt_of_le_of_lt k h
theorem qi {x d y:Int}(e:x*d=y)(hd:d≠0):x.natAbs<=y.natAbs:=by
 have:x.natAbs*d.natAbs=y.natAbs:=by rw[<-Int.natAbs_mul,e]
 have h1:1<=d.natAbs:=by omega
 calc x.natAbs=x.natAbs*1:=(Nat.mul_one _).symm
  _<=x.natAbs*d.natAbs:=Nat.mul_le_mul_left _ h1
  _=y.natAbs:=this
theorem yM {t:Int}(h:b≠0):(gq t b).natAbs<=t.natAbs:=qi (va h) (mZ h)
theorem yV {t:Int}(h:b≠0):(dh t b).natAbs<=b.natAbs:=qi (oS h) (mZ h)
theorem zQ {t:Int}(h:b≠0):(dv t b).natAbs<=b.natAbs:=by
 have e:=oS (t:=t) h;have lp:=oh (t:=t) h;exact qi (x:=dv t b) (d:=dh t b) (by rw[Int.mul_comm];exact e) (by omega)
theorem A7 {t:Int}(h:b≠0):(eA t b).natAbs<=b.natAbs:=by
 have e:=zQ (t:=t) h;rw[mQ] at e;unfold eA;simpa using e
structure Num (p t b:Int):Prop where
 pos:0<b
 red:Int.gcd t b=1
 pr:p≠0->b=1/\0<=t/\t<p
variable {p:Int}
theorem Num.ofP {t:Int}(h0:0<=t)(h1:t<p):Num p t 1:=⟨by decide,by simp,λ_=>⟨rfl,h0,h1⟩⟩
theorem Num.low {t:Int}(h:b≠0):Num 0 (gq t b) (dh t b):=⟨oh h,rR h,λz=>absurd rfl z⟩
def eh (p t b:Int):Int:=if p=0 then gq t b else t%p
def df (p t b:Int):Int:=if p=0 then dh t b else 1
theorem Num.set {t:Int}(hp:0<=p)(h:b≠0):Num p (eh p t b) (df p t b):=by
 unfold eh df
 by_cases z:p=0
 ·subst z;simp only[if_true];exact Num.low h
 ·simp only[z,if_false];exact Num.ofP (Int.emod_nonneg _ z) (Int.emod_lt_of_pos _ (by omega))
theorem Num.self {t:Int}(n:Num p t b)(hp:0<=p):eh p t b=t/\df p t b=b:=by
 unfold eh df
 by_cases z:p=0
 ·simp only[z,if_true];exact pJ n.pos n.red
 ·simp only[z,if_false];obtain⟨h1,h2,h3⟩:=n.pr z;exact⟨Int.emod_eq_of_lt h2 h3,h1.symm⟩
end Nm
namespace L2
open PySem PySem.Spec PyProof.Rows PySem.W
variable {i:Int}
theorem zR (h:Nm.B 9000 i):i.natAbs.log2<9000:=by
 by_cases z:i.natAbs=0
 ·rw[z];decide
 ·exact(Nat.log2_lt z).mpr h
theorem xc (h:Nm.B 9000 i):Builtin.Int.intBits i<=2^20:=by
 have l:=zR h;unfold Builtin.Int.intBits
 split
 ·exact Nat.zero_le _
 ·have:(9000:Nat)<=2^20:=by decide
  omega
section
variable {X:Cx}
theorem gK:gy X (binaryOp .FloorDiv) (rI (λ_ j=>j≠0/\Nm.B 9000 j) λi j=>.int (i.fdiv j)):=Ae λ_ _ _ _ _ _ _ hc q=>floordiv_int hc.1 q (.inl (PyProof.noPylong_of_log2 (zR hc.2)))
theorem cX:gy X (binaryOp .Mult) (rI (λi j=>Nm.B 9000 i/\Nm.B 9000 j) λi j=>.int (i*j)):=Ae λ_ _ _ _ _ _ _ hc q=>mul_int q (IntMulOk.of_bits (xc hc.1) (xc hc.2))
end
def Bx:Expr->Option Int
 | .Constant (.int i) _ _=>some i
 |_=>none
theorem zj {e:Expr}(h:Bx e=some i):∃k p,e = .Constant (.int i) k p:=by
 unfold Bx at h
 split at h
 ·cases h
  exact⟨_,_,rfl⟩
 ·cases h
def si:List Expr->Option (List Int)
 |[]=>some []
 |e::es=>(Bx e).bind λi=>(si es).map (i :: ·)
def CO (ns:List Int):TA:=λ_ H Q=>Q (ns.map V.int) H
theorem rG {X:Cx}:∀{es:Aw}{ns:List Int},si es=some ns->PA X es (CO ns)
 |[],ns,h=>by
  cases h
  exact ag
 |x::es,ns,h=>by
  unfold si at h;obtain⟨i,hi,h⟩:=Option.bind_eq_some_iff.mp h;obtain⟨ms,e,rfl⟩:=Option.map_eq_some_iff.mp h;obtain⟨k,p,rfl⟩:=zj hi;exact ah (ao (j:=k) (pos:=p)) (rG e)
def BH (ns:List Int):TE:=λ_ H Q=>∀p,H p=none->Q (.ref p) (upd H p (.lst (ns.map V.int)))
theorem nI {X:Cx}{es:Aw}{pos:Pos}{ns:List Int}(h:si es=some ns)(hl:ns.length<=1000):PE X (.List es pos) (BH ns):=by
 intro pins s σ H Q I q;refine bY (rG h) pins s σ H Q I ?_;refine⟨?_,q⟩;rw[List.length_map];exact Nat.le_of_lt (tU hl)
end L2
namespace K80
open PySem L2 PySem.W Nm
abbrev B6:Stmt:=(aR 17)
abbrev rV:Stmt:=(aR 18)
def du (t b:Int):HO:=.tup [.int t,.int b]
def vf:Sp:=λvs H Q _=>∃a b:Int,vs=[.int a,.int b]/\Q (.int (eA a b)) H
def qJ:Sp:=λvs H Q _=>∃t b:Int,vs=[.int t,.int b]/\b≠0/\B 9000 b/\∀p,H p=none->Q (.ref p) (upd H p (du (gq t b) (dh t b)))
variable {p:Int}
theorem mh (h:p∈DY):2<=p/\p<=97:=by
 have:∀q∈DY,2<=q/\q<=97:=by decide
 exact this p h
variable {P:u6}{w:World}{K:PySem.W.Frag}{mg:wg}{base:Heap}
theorem zJ:yI qF qF (aq B6):=dm (by decide +kernel)
variable {f:Addr}{fd:xR}
theorem Aa (F:u3 K "common_divisor" "common_divisor" B6 f fd)(mA:mg "abs"=none):E6 P w K mg base (aN P w) 1 f fd qF vf:=by
 refine F.okN zJ (λvs H Q E h=>?_) (λFf A outer s H vs Q E hr h=>?_)
 ·obtain⟨a,b,rfl,_⟩:=h;rfl
 ·obtain⟨a,b,rfl,q⟩:=h
  refine⟨_,aj (pR PassesOwn.never (i4 (pv 1) (λ_=>rfl)) (ar (u7 (i:=0) (j:=1) rfl zJ.nd rfl rfl (by decide) rfl rfl (ah (pv 1) (ah (aO sh (pv 0) (pv 1)) ag)) rfl)))
   (ar (az (aF kQ (by rfl) mA (by rfl) (ah (pv 0) ag)))),?_⟩
  refine⟨λm σ H'=>∃c d:Int,σ=[some (.int c),some (.int d)]/\H'=H/\m=d.natAbs/\Int.gcd c d=Int.gcd a b,⟨_,a,b,rfl,rfl,rfl,rfl⟩,?_⟩;rintro m σ H' ⟨c,d,rfl,rfl,rfl,hg⟩;refine⟨_,rfl,_,rfl,?_⟩;refine c7 (λh=>?_) (λh=>?_)
  ·have hd:d≠0:=by simpa using h
   refine⟨λσ' Nn=>∃c' d':Int,σ'=[some (.int c'),some (.int d')]/\Nn=H'/\d'.natAbs<d.natAbs/\Int.gcd c' d'=Int.gcd a b,λσ' Nn ⟨c',d',e1,e2,e3,e4⟩=>⟨_,e3,c',d',e1,e2,rfl,e4⟩,?_⟩;refine⟨_,rfl,_,rfl,_,rfl,_,_,rfl,rfl,hd,_,_,rfl,d,c.fmod d,rfl,rfl,sv c d hd,?_⟩;rw[oU,hg]
  ·have hd:d=0:=by simpa using h
   subst hd;refine⟨_,rfl,c,rfl,?_⟩
   have e:(if c<0 then -c else c)=eA a b:=by
    unfold eA;rw[<-hg];have:=jV c;unfold ab at this;rw[this];simp
   rw[e];exact q
theorem kx:yI ["top","bottom","divisor"] Bh (aq rV):=dm (by decide +kernel)
theorem uO {fg:Addr}{HE:xR}(F:u3 K "lowest" "lowest" rV f fd)(FG:E6 P w K mg base (aN P w) 1 fg HE qF vf)(bG:L2.av K HE qF [])(mG:mg "common_divisor"=some (.ref fg))(kG:keepIn K (.ref fg)=true):
 E6 P w K mg base (aN P w) 2 f fd Bh qJ:=by
 refine F.okN kx (λvs H Q E h=>?_) (λFf A outer s H vs Q E hr h=>?_)
 ·obtain⟨a,b,rfl,_⟩:=h;rfl
 ·obtain⟨t,b,rfl,hb,hB,q⟩:=h
  refine⟨_,aj (bq (aL cq (pv 1) ao (aB _)) (ar (az (bX (ah (pv 0) (ah ao ag))))) aM)
   (aj (aC (i:=2) kx.nd rfl (Or.inl rfl) (ax FG hr (by rfl) mG kG bG .nil ae (ah (pv 0) (ah (pv 1) ag))))
   (aj (bq (aL i3 (pv 1) ao (aB _)) (ar (aC (i:=2) kx.nd rfl (Or.inl rfl) (pN kE (pv 2)))) aM)
   (ar (az (bX (ah (aO gK (pv 0) (pv 2)) (ah (aO gK (pv 1) (pv 2)) ag))))))),?_⟩
  refine⟨_,rfl,rfl,_,rfl,?_⟩;refine c7 (λh=>?_) (λh=>?_)
  ·have e:b=1:=by simpa using h
   subst e;have z:=pJ (t:=t) (b:=1) (by decide) (by simp);refine⟨_,rfl,ic,λp hp=>?_⟩;have y:=q p hp;rw[z.1,z.2] at y;exact y
  ·refine⟨_,rfl,_,rfl,t,b,rfl,?_⟩;refine⟨_,rfl,_,_,rfl,rfl,_,rfl,?_⟩;have gp:=i5 (t:=t) hb
   have fin:∀d:Int,d=dv t b->Co (bg (ll (rI (λ_ j=>j≠0/\Nm.B 9000 j) λi j=>V.int (i.fdiv j)) (cg 0) (cg 2)) (bg (ll (rI (λ_ j=>j≠0/\Nm.B 9000 j) λi j=>V.int (i.fdiv j)) (cg 1) (cg 2)) D6)) [some (.int t),some (.int b),some (.int d)] H Q:=by
    intro d hd
    have Q8:d≠0:=by rw[hd];exact mZ hb
    have XA:B 9000 d:=by rw[hd];exact hB.le (zQ hb)
    refine⟨_,rfl,_,rfl,_,_,rfl,rfl,⟨Q8,XA⟩,_,rfl,_,rfl,_,_,rfl,rfl,⟨Q8,XA⟩,ic,λp hp=>?_⟩;have y:=q p hp;unfold gq dh at y;rw[<-hd] at y;exact y
   refine c7 (λh2=>?_) (λh2=>?_)
   ·have e:b<0:=by simpa using h2
    exact⟨_,rfl,_,rfl,fin _ (by unfold dv;rw[if_pos e])⟩
   ·have e:¬b<0:=by simpa using h2
    exact fin _ (by unfold dv;rw[if_neg e])
abbrev vw:Stmt:=(aR 11)
abbrev vY:Stmt:=aD (aR 20) 0
inductive Th (H:Hp):V->String->Prop where
 |non:Th H .non "NoneType"
 |bl (b:Bool):Th H (.bl b) "bool"
 |int (i:Int):Th H (.int i) "int"
 |str (x:Str):Th H (.str x) "str"
 |lst {a:Addr}{xs:List V}(e:H a=some (.lst xs)):Th H (.ref a) "list"
 |tup {a:Addr}{xs:List V}(e:H a=some (.tup xs)):Th H (.ref a) "tuple"
 |dK {a:Addr}{Fe:List (Key×V)}(e:H a=some (.dK Fe)):Th H (.ref a) "dict"
variable {K:Frag}{H:Hp}{x:V}{T:String}
theorem Th.ty (h:Th H x T):Cw K H x (.type T):=by
 cases h with
 |non=>exact .of .non
 |bl b=>exact .of (.bl b)
 |int i=>exact .of (.int i)
 |str x=>exact .of (.str x)
 |lst e=>exact .of (.lst e)
 |tup e=>exact .of (.tup e)
 |dK e=>exact .of (.dK e)
def eC:V->Bool
 | .int _=>true
 |_=>false
def CT:V->Bool
 | .int _=>true
 | .bl _=>true
 |_=>false
theorem Th.isInt (h:Th H x T):kitOne K (.type T) (.type "int")=some (CT x):=by cases h <;> rfl
theorem Th.isBool (h:Th H x T)(hi:CT x=true):kitOne K (.type T) (.type "bool")=some (!eC x):=by
 cases h with
 |int i=>rfl
 |bl b=>rfl
 |_=>cases hi
def C1:Sp:=λvs H Q _=>∃x T,vs=[x]/\Th H x T/\Q (.bl (eC x)) H
structure lB (mg:wg):Prop where
 isi:mg "isinstance"=none
 int:mg "int"=none
 bool:mg "bool"=none
theorem zh:yI pU pU (aq vw):=dm (by decide +kernel)
theorem wO (F:u3 K "is_whole" "is_whole" vw f fd)(n:lB mg):E6 P w K mg base (aN P w) 1 f fd pU C1:=by
 refine F.okN zh (λvs H Q E h=>?_) (λFf A outer s H vs Q E hr h=>?_)
 ·obtain⟨x,T,rfl,_⟩:=h;rfl
 ·obtain⟨x,T,rfl,th,q⟩:=h
  refine⟨_,ar (az (cp (aF bu (by rfl) n.isi (by rfl) (dQ (pv 0) (dQ (dN (by rfl) n.int (by rfl) (show aE (.ty "int") (.type "int") from rfl)) ag)))
   (dJ (abE (aF bu (by rfl) n.isi (by rfl) (dQ (pv 0) (dQ (dN (by rfl) n.bool (by rfl) (show aE (.ty "bool") (.type "bool") from rfl)) ag))))))),?_⟩
  refine⟨_,rfl,x,.ty "int",_,_,_,rfl,rfl,th.ty,th.isInt,_,rfl,?_⟩;refine c7 (λhi=>?_) (λhi=>?_)
  ·refine⟨_,rfl,x,.ty "bool",_,_,_,rfl,rfl,th.ty,th.isBool hi,_,rfl,?_⟩;simpa using q
  ·have e:eC x=false:=by
    cases th <;> first|rfl|exact absurd rfl hi
   rw[e] at q;exact q
def jy (i:Int):Bool:=i==0 || DY.any λp=>p==i
def good:V->Bool
 | .int i=>jy i
 |_=>false
def cK (i:Int):List (Str×V):=[("its_prime",.int i)]
def i7 (C NF:Addr):Sp:=λvs H Q E=>∃(p dx:Addr)(x:V)(T:String),vs=[.ref p,x]/\Th H x T/\H p=some (.ins C dx [])/\(good x=true->Q .non (upd H p (.ins C dx [("its_prime",x)])))/\(good x=false->E (.ref NF) none H)
structure zZ (K:Frag)(mg:wg)(C:Addr):Prop where
 cl:uF K C
 nP:bz K C "its_prime"
 mgC:mg "Field"=some (.ref C)
 isC:((clsIn K C).isSome&&typeIn K (.ref C)==some (.type "type"))=true
 ca:findIn K (.ref C) "__class__"=some (some (.builtin "object.__class__"))
 sp:specialIn K (.builtin "object.__class__") "__get__"=some (some (.builtin "getset_descriptor.__get__"))
 tk:takesIn K (.builtin "object.__class__")=some true
 ob:mroIn K C (.type "object")=some true
variable {mg:wg}{C:Addr}
theorem zZ.ty (c:zZ K mg C){p dx:Addr}{fs:List (Str×V)}(e:H p=some (.ins C dx fs)):Cw K H (.ref p) (.ref C):=.of (.ins e c.cl c.ca c.sp c.tk c.ob)
theorem zZ.is (c:zZ K mg C):kitOne K (.ref C) (.ref C)=some true:=by
 unfold kitOne;rw[if_pos (by simp)]
theorem zZ.no (c:zZ K mg C)(h:Th H x T):kitOne K (.type T) (.ref C)=some false:=by
 show(if(Value.type T==Value.ref C)=true then some true else(if((clsIn K C).isSome&&typeIn K (.ref C)==some (.type "type"))=true then subIn K (.type T) (.ref C) else none))=some false;rw[if_neg (by intro z;cases beq_iff_eq.mp z),if_pos c.isC]
 cases h <;> rfl
theorem k7 (i:Int):zz (.int i) (DY.map V.int)=DY.any λp=>p==i:=by
 unfold zz;rw[List.any_map];rfl
theorem AZ:yI qH qH (aq vY):=dm (by decide +kernel)
theorem zo {fw NF aP T:Addr}{GF:xR}{tF:Tok}(F:DJ K "__init__" "Field.__init__" vY f fd T)(c:zZ K mg C)(FW:E6 P w K mg base (aN P w) 1 fw GF pU C1)(bW:av K GF pU [])(mW:mg "is_whole"=some (.ref fw))(kW:keepIn K (.ref fw)=true)
 (mF:mg "FRACTIONS"=some (.int 0 tF))(mP:mg "PRIMES"=some (.ref aP))(hP:∀H:Hp,bV K H aP (DY.map V.int))(mN:mg "NoField"=some (.ref NF))(qN:tV K NF BW w9=true):E6 P w K mg base (aN P w) 2 f fd qH (i7 C NF):=by
 refine F.okE AZ (λvs H Q E h=>?_) (λFf A outer s H vs Q E hr h=>?_)
 ·obtain⟨p,dx,x,T,rfl,_⟩:=h;rfl
 ·obtain⟨p,dx,x,T,rfl,th,hp,hq,hE⟩:=h
  refine⟨_,aj (bq (PW.pt (iz (cG (cz (ax FW hr (by rfl) mW kW bW .nil ae (dQ (pv 1) ag))))
   (gh (PW.pt (nh (aL kn (pv 1) (cD (by rfl) mF (show aE (.int 0) (.int 0 tF) from⟨_,rfl⟩)) (aB _)) (oq (aL iO (pv 1) (cD (by rfl) mP (show aE (.ref aP) (.ref aP) from rfl)) (by rfl))))))))
   (ar (pL PySem.F.excBase_ValueError qN rfl km (by rfl) mN (dQ da ag))) aM)
   (ar (cM (pv 0) (pv 1) rfl)),?_⟩
  have fin:good x=true->∃(a C' J5:Addr)(fs:List (Str×V)),V.ref p=.ref a/\H a=some (.ins C' J5 fs)/\uF K C'/\bz K C' "its_prime"/\fs.length<1000/\Q .non (upd H a (.ins C' J5 (bt "its_prime" x fs))):=λg=>⟨p,C,dx,[],rfl,hp,c.cl,c.nP,by decide,hq g⟩;refine⟨_,rfl,x,T,rfl,th,_,rfl,?_⟩
  cases th with
  |int i =>
   refine bH ?_;refine⟨_,rfl,rfl,_,rfl,?_⟩;refine c7 (λh0=>?_) (λh0=>?_)
   ·refine⟨_,rfl,aP,_,rfl,.inr (hP _),rfl,rfl,_,rfl,?_⟩;refine c7 (λh1=>?_) (λh1=>?_)
    ·refine⟨by decide,hE ?_⟩
     have e1:¬i=0:=by simpa using h0
     have e2:zz (.int i) (DY.map V.int)=false:=by simpa using h1
     rw[k7] at e2;show jy i=false;unfold jy;rw[e2];simpa using e1
    ·have e2:zz (.int i) (DY.map V.int)=true:=by simpa using h1
     rw[k7] at e2;exact⟨_,rfl,_,rfl,fin (by show jy i=true;unfold jy;rw[e2];simp)⟩
   ·have e1:i=0:=by simpa using h0
    exact bH ⟨_,rfl,_,rfl,fin (by show jy i=true;rw[e1];rfl)⟩
  |_=>exact bw (bw ⟨by decide,hE rfl⟩)
abbrev zS:Stmt:=aD (aR 20) 6
abbrev oG:Stmt:=aD (aR 20) 10
def FP (p:Int):Prop:=p=0\/p∈DY
theorem FP.nn (h:FP p):0<=p:=by
 rcases h with h|h
 ·omega
 ·have:=mh h;omega
theorem FP.two (h:FP p)(z:p≠0):p∈DY/\2<=p/\p<=97:=by
 rcases h with h|h
 ·exact absurd h z
 ·exact⟨h,mh h⟩
def mB (C:Addr):Sp:=λvs H Q _=>∃(s dx:Addr)(p t b:Int),vs=[.ref s,.int t,.int b]/\H s=some (.ins C dx (cK p))/\FP p/\B 9000 b/\b≠0/\∀a,H a=none->Q (.ref a) (upd H a (du (eh p t b) (df p t b)))
def zW (C:Addr)(g:Int->Int->Int->Int->Int):Sp:=λvs H Q _=>∃(s dx a1 a2:Addr)(p t1 b1 t2 b2:Int),vs=[.ref s,.ref a1,.ref a2]/\H s=some (.ins C dx (cK p))/\FP p/\H a1=some (du t1 b1)/\H a2=some (du t2 b2) /\
 B 4000 t1/\B 4000 b1/\B 4000 t2/\B 4000 b2/\b1≠0/\b2≠0/\∀a,H a=none->Q (.ref a) (upd H a (du (eh p (g t1 b1 t2 b2) (b1*b2)) (df p (g t1 b1 t2 b2) (b1*b2))))
def jz (t1 b1 t2 b2:Int):Int:=t1*b2+t2*b1
def ju (t1 b1 t2 b2:Int):Int:=t1*t2
theorem t9:yI t7 t7 (aq oG):=dm (by decide +kernel)
theorem qc {fl:Addr}{Gq:xR}{tF:Tok}(F:u3 K "settled" "Field.settled" oG f fd)(c:zZ K mg C)(mF:mg "FRACTIONS"=some (.int 0 tF))
 (FL:E6 P w K mg base (aN P w) 2 fl Gq Bh qJ)(bL:L2.av K Gq Bh [])(mL:mg "lowest"=some (.ref fl))(kL:keepIn K (.ref fl)=true):
 E6 P w K mg base (aN P w) 3 f fd t7 (mB C):=by
 refine F.okN t9 (λvs H Q E h=>?_) (λFf A outer s H vs Q E hr h=>?_)
 ·obtain⟨s,dx,p,t,b,rfl,_⟩:=h;rfl
 ·obtain⟨s,dx,p,t,b,rfl,hs,hp,hB,hb,q⟩:=h
  refine⟨_,aj (bq (aL cq (aW (pv 0) rfl) (cD (by rfl) mF (show aE (.int 0) (.int 0 tF) from⟨_,rfl⟩)) (aB _))
   (ar (az (ax FL hr (by rfl) mL kL bL .nil ae (ah (pv 1) (ah (pv 2) ag))))) aM)
   (ar (az (bX (ah (aO eB (pv 1) (aW (pv 0) rfl)) (ah ao ag))))),?_⟩
  refine⟨_,rfl,s,C,dx,_,_,rfl,hs,c.cl,c.nP,rfl,rfl,_,rfl,?_⟩;refine c7 (λh=>?_) (λh=>?_)
  ·have F2:p=0:=by simpa using h
   refine⟨_,rfl,_,rfl,t,b,rfl,hb,hB,λa ha=>?_⟩;have y:=q a ha;unfold eh df at y;rw[if_pos F2,if_pos F2] at y;exact y
  ·have F2:p≠0:=by simpa using h
   obtain⟨Q9,p2,SN⟩:=hp.two F2;refine⟨_,rfl,_,rfl,s,C,dx,_,_,rfl,hs,c.cl,c.nP,rfl,_,_,rfl,rfl,(by show(0:Int)<p;omega),ic,λa ha=>?_⟩;have y:=q a ha;unfold eh df at y;rw[if_neg F2,if_neg F2] at y;exact y
theorem a0 (x y:V):ml [x,y] 0=some x:=rfl
theorem a1 (x y:V):ml [x,y] 1=some y:=rfl
theorem Av:yI qk qk (aq zS):=dm (by decide +kernel)
theorem rf {a b:Int}(h:a≠0)(k:b≠0):a*b≠0:=Int.mul_ne_zero h k
theorem yo {fs:Addr}{GY:xR}(F:u3 K "plus" "Field.plus" zS f fd)(c:zZ K mg C)(FS:E6 P w K mg base (aN P w) 3 fs GY t7 (mB C))(bS:L2.av K GY t7 [])(mS:L2.Meth K C "settled" fs):
 E6 P w K mg base (aN P w) 4 f fd qk (zW C jz):=by
 refine F.okN Av (λvs H Q E h=>?_) (λFf A outer s H vs Q E hr h=>?_)
 ·obtain⟨s,dx,a1,a2,p,t1,b1,t2,b2,rfl,_⟩:=h;rfl
 ·obtain⟨s,dx,x1,x2,p,t1,b1,t2,b2,rfl,hs,hp,h1,h2,B1,B2,B3,B4,n1,n2,q⟩:=h;refine⟨_,ar (az (fZ (pv 0) c.cl mS FS hr bS .nil ae (ah (aO eG (aO cX (a9 bQ (pv 1) ao (λ_ _=>rfl)) (a9 bQ (pv 2) ao (λ_ _=>rfl))) (aO cX (a9 bQ (pv 2) ao (λ_ _=>rfl)) (a9 bQ (pv 1) ao (λ_ _=>rfl)))) (ah (aO cX (a9 bQ (pv 1) ao (λ_ _=>rfl)) (a9 bQ (pv 2) ao (λ_ _=>rfl))) ag)))),?_⟩;refine⟨_,rfl,s,dx,_,rfl,hs,rfl,?_⟩;refine⟨_,rfl,x1,_,0,_,rfl,rfl,bV.of h1,a0 _ _,_,rfl,x2,_,1,_,rfl,rfl,bV.of h2,a1 _ _,_,_,rfl,rfl,⟨B1.mono (by decide),B4.mono (by decide)⟩,?_⟩;refine⟨_,rfl,x2,_,0,_,rfl,rfl,bV.of h2,a0 _ _,_,rfl,x1,_,1,_,rfl,rfl,bV.of h1,a1 _ _,_,_,rfl,rfl,⟨B3.mono (by decide),B2.mono (by decide)⟩,_,_,rfl,rfl,?_⟩;refine⟨_,rfl,x1,_,1,_,rfl,rfl,bV.of h1,a1 _ _,_,rfl,x2,_,1,_,rfl,rfl,bV.of h2,a1 _ _,_,_,rfl,rfl,⟨B2.mono (by decide),B4.mono (by decide)⟩,?_⟩;exact⟨s,dx,p,_,_,rfl,hs,hp,(B2.mul B4).mono (by decide),rf n1 n2,q⟩
abbrev zN:Stmt:=(aR 45)
abbrev zT:Stmt:=(aR 46)
theorem ak {a:Addr}{o:HO}(h:H a=none):ay H (upd H a o):=λb u e=>by rw[ai (au e h)];exact e
def xx (K:PySem.W.Frag):Sp:=λvs H Q _=>∃(a:Addr)(ns:List Int)(k:Int),vs=[.ref a,.int k]/\aV K H a (ns.map V.int)/\ns.length<=63/\0<=k/\k<=63 /\
 ∀(p:Addr)(l r:Int),H p=none->0<=r->r<2147483647->Q (.ref p) (upd H p (.lst [.int l,.int r]))
def DE:Sp:=λvs H Q _=>∃(p:Addr)(l r m:Int),vs=[.ref p,.int m]/\H p=some (.lst [.int l,.int r])/\0<=r/\r<2147483647/\0<m/\m<18446744073709551616 /\
 ∀(z l' r':Int),0<=z->z<m->0<=r'->r'<2147483647->Q (.int z) (upd H p (.lst [.int l',.int r']))
theorem ku:yI ["_law_script","_law_k","_law_cell","_law_seed"] ud (aq zN):=dm (by decide +kernel)
theorem vn:yI ["_law_pool_here","_law_many","_law_found"] yy (aq zT):=dm (by decide +kernel)
theorem p8 {Q:VK}{k c:Int}{x y:Option V}(M6:0<=k)(SO:k<=63)(q:∀(p:Addr)(l r:Int),H p=none->0<=r->r<2147483647->Q (.ref p) (upd H p (.lst [.int l,.int r]))):
 vR (qe (ll (rI (λ_ j=>0<j) λi j=>.int (i%j)) (ll (rI qI λi j=>.int (i*j)) (ll (sY λi j=>.int (i+j)) (ll (sY λi j=>.int (i+j)) (ll (rI (λ_ j=>0<j) λi j=>.int (i%j)) (cg 2) (tC (.int 2147483629))) (ll (rI qI λi j=>.int (i*j)) (ll (rI qI λi j=>.int (i*j)) (tC (.int 7919)) (cg 1)) (cg 1))) (tC (.int 11))) (tC (.int 48271))) (tC (.int 2147483647))) (cc 3))
  (vR (BB (pA (ll (sY λi j=>.bl (decide (i<j))) (cg 2) (ll (rI BL λi j=>.int (i^j.toNat)) (tC (.int 10)) (tC (.int 18))))) (qe (tC (.int 0)) (cc 2)) lj)
  (xQ (C5 (bg (cg 2) (bg (ll (sY λi j=>.int (i+j)) (ll (rI (λ_ j=>0<j) λi j=>.int (i%j)) (ll (rI qI λi j=>.int (i*j)) (cg 3) (cg 3)) (tC (.int 2147483587))) (tC (.int 1))) D6)))))
  {nx:=λ_ H'=>Q .non H',rt:=Q} [x,some (.int k),some (.int c),y] H:=by
 have e1:∀t:Int,0<=t%2147483647/\t%2147483647<2147483647:=λt=>⟨Int.emod_nonneg _ (by decide),Int.emod_lt_of_pos _ (by decide)⟩;have e2:∀t:Int,0<=t%2147483587/\t%2147483587<2147483587:=λt=>⟨Int.emod_nonneg _ (by decide),Int.emod_lt_of_pos _ (by decide)⟩;refine⟨_,rfl,_,_,rfl,rfl,(by show(0:Int)<2147483629;decide),_,rfl,_,_,rfl,rfl,.inl ⟨by decide,by decide⟩,_,rfl,_,_,rfl,rfl,.inl ⟨by omega,by omega⟩,_,_,rfl,rfl,_,_,rfl,rfl,_,_,rfl,rfl,.inr ⟨by decide,by decide⟩,_,_,rfl,rfl,(by show(0:Int)<2147483647;decide),?_⟩;refine⟨_,rfl,_,_,rfl,rfl,⟨by decide,by decide,by decide⟩,_,_,rfl,rfl,_,rfl,?_⟩;refine c7 (λh=>?_) (λh=>?_)
 ·refine⟨_,rfl,_,rfl,_,rfl,_,_,rfl,rfl,.inl ⟨by have:=e1 ((c%2147483629+7919*k*k+11)*48271);omega,by have:=e1 ((c%2147483629+7919*k*k+11)*48271);omega⟩,_,_,rfl,rfl,(by show(0:Int)<2147483587;decide),_,_,rfl,rfl,ic,λp hp=>?_⟩;exact q p _ _ hp (by have:=e2 (((c%2147483629+7919*k*k+11)*48271%2147483647)*((c%2147483629+7919*k*k+11)*48271%2147483647));omega) (by have:=e2 (((c%2147483629+7919*k*k+11)*48271%2147483647)*((c%2147483629+7919*k*k+11)*48271%2147483647));omega)
 ·refine⟨_,rfl,_,rfl,_,rfl,_,_,rfl,rfl,.inl ⟨by have:=e1 ((c%2147483629+7919*k*k+11)*48271);omega,by have:=e1 ((c%2147483629+7919*k*k+11)*48271);omega⟩,_,_,rfl,rfl,(by show(0:Int)<2147483587;decide),_,_,rfl,rfl,ic,λp hp=>?_⟩;exact q p _ _ hp (by have:=e2 (((c%2147483629+7919*k*k+11)*48271%2147483647)*((c%2147483629+7919*k*k+11)*48271%2147483647));omega) (by have:=e2 (((c%2147483629+7919*k*k+11)*48271%2147483647)*((c%2147483629+7919*k*k+11)*48271%2147483647));omega)
theorem yY (F:u3 K "_law_pool" "_law_pool" zN f fd)(Fj:mg "len"=none):E6 P w K mg base (aN P w) 1 f fd ud (xx K):=by
 refine F.okN ku (λvs H Q E h=>?_) (λFf A outer s H vs Q E hr h=>?_)
 ·obtain⟨a,ns,k,rfl,_⟩:=h;rfl
 ·obtain⟨a,ns,k,rfl,hS,hn,M6,SO,q⟩:=h
  refine⟨_,(aj (@aC _ _ 2 _ _ _ _ ku.nd rfl (Or.inl rfl) ao rfl (Or.inl rfl))
   (aj (bq (@aL _ _ _ _ _ _ _ _ i3 (pv 1) (aF bx (by rfl) Fj PySem.boot_len (@ah _ _ _ _ _ (pv 0) ag rfl)) (aB _)) (ar (@aC _ _ 2 _ _ _ _ ku.nd rfl (Or.inl rfl) (@a9 _ _ _ _ _ _ _ b7 (pv 0) (pv 1) (λ_ _=>rfl)) rfl (Or.inl rfl))) aM)
   (aj (@aC _ _ 3 _ _ _ _ ku.nd rfl (Or.inl rfl) (@aO _ _ _ _ _ _ _ _ eB (@aO _ _ _ _ _ _ _ _ jf (@aO _ _ _ _ _ _ _ _ eG (@aO _ _ _ _ _ _ _ _ eG (@aO _ _ _ _ _ _ _ _ eB (pv 2) ao) (@aO _ _ _ _ _ _ _ _ jf (@aO _ _ _ _ _ _ _ _ jf ao (pv 1)) (pv 1))) ao) ao) ao) rfl (Or.inl rfl))
   (aj (bq (@aL _ _ _ _ _ _ _ _ i3 (pv 2) (@aO _ _ _ _ _ _ _ _ xC ao ao) (aB _)) (ar (@aC _ _ 2 _ _ _ _ ku.nd rfl (Or.inl rfl) ao rfl (Or.inl rfl))) aM)
   (ar (az (@bY _ _ _ _ (@ah _ _ _ _ _ (pv 2) (@ah _ _ _ _ _ (@aO _ _ _ _ _ _ _ _ eG (@aO _ _ _ _ _ _ _ _ eB (@aO _ _ _ _ _ _ _ _ jf (pv 3) (pv 3)) ao) ao) ag rfl) rfl)))))))),?_⟩
  refine⟨_,rfl,_,rfl,a,_,rfl,.inl hS,_,_,rfl,rfl,_,rfl,?_⟩;refine c7 (λh=>?_) (λh=>p8 M6 SO q)
  have Fy:k.toNat<ns.length:=by
   have h1:=of_decide_eq_true h;rw[List.length_map] at h1;omega
  have e:((k.toNat:Nat):Int)=k:=by omega
  have z:=nV (xs:=ns.map V.int) (j:=k.toNat) (v:=V.int ns[k.toNat]) (by rw[List.getElem?_map];simp[Fy]);rw[e] at z;exact⟨_,rfl,_,rfl,a,_,k,_,rfl,rfl,hS,z,p8 M6 SO q⟩
theorem yF (F:u3 K "_law_take" "_law_take" zT f fd):E6 P w K mg base (aN P w) 1 f fd yy DE:=by
 refine F.okN vn (λvs H Q E h=>?_) (λFf A outer s H vs Q E hr h=>?_)
 ·obtain⟨p,l,r,m,rfl,_⟩:=h;rfl
 ·obtain⟨p,l,r,m,rfl,hp,Jx,Fp,Ra,hm1,q⟩:=h
  refine⟨_,(aj (bq (@aL _ _ _ _ _ _ _ _ pP (@a9 _ _ _ _ _ _ _ b7 (pv 0) ao (λ_ _=>rfl)) ao (aB _)) (aj (@aC _ _ 2 _ _ _ _ vn.nd rfl (Or.inl rfl) (@aO _ _ _ _ _ _ _ _ eB (@a9 _ _ _ _ _ _ _ b7 (pv 0) ao (λ_ _=>rfl)) (pv 1)) rfl (Or.inl rfl))
   (aj (nO (@aO _ _ _ _ _ _ _ _ gK (@a9 _ _ _ _ _ _ _ b7 (pv 0) ao (λ_ _=>rfl)) (pv 1)) (wy (pv 0) ao oF))
   (ar (az (pv 2))))) aM)
   (aj (nO (@aO _ _ _ _ _ _ _ _ eB (@aO _ _ _ _ _ _ _ _ eG (@aO _ _ _ _ _ _ _ _ jf (@a9 _ _ _ _ _ _ _ b7 (pv 0) ao (λ_ _=>rfl)) ao) ao) ao) (wy (pv 0) ao oF))
   (ar (az (@aO _ _ _ _ _ _ _ _ eB (@aO _ _ _ _ _ _ _ _ Bad (@aO _ _ _ _ _ _ _ _ eB (@aO _ _ _ _ _ _ _ _ jf (@a9 _ _ _ _ _ _ _ b7 (pv 0) ao (λ_ _=>rfl)) (@a9 _ _ _ _ _ _ _ b7 (pv 0) ao (λ_ _=>rfl))) ao) ao) (pv 1)))))),?_⟩
  have i0:∀x y:V,ml [x,y] 0=some x:=λ_ _=>rfl;have i1:∀x y:V,ml [x,y] 1=some y:=λ_ _=>rfl;have n0:wR [V.int l,V.int r].length 0=some 0:=rfl;have n1:∀x y:V,wR [x,y].length 1=some 1:=λ_ _=>rfl;refine⟨_,rfl,p,_,0,_,rfl,rfl,aV.of hp,i0 _ _,_,_,rfl,rfl,_,rfl,?_⟩;refine c7 (λh=>?_) (λh=>?_)
  ·refine⟨_,rfl,p,_,0,_,rfl,rfl,aV.of hp,i0 _ _,_,rfl,_,_,rfl,rfl,Ra,?_⟩;refine⟨_,rfl,p,_,0,_,rfl,rfl,aV.of hp,i0 _ _,_,rfl,_,_,rfl,rfl,⟨by omega,(show B 64 m from(by show m.natAbs<2^64;omega)).mono (by decide)⟩,_,rfl,p,_,0,0,rfl,rfl,hp,n0,?_⟩;exact⟨_,rfl,q _ _ _ (Int.emod_nonneg _ (by omega)) (Int.emod_lt_of_pos _ Ra) Jx Fp⟩
  ·have e1:∀t:Int,0<=t%2147483647/\t%2147483647<2147483647:=λt=>⟨Int.emod_nonneg _ (by decide),Int.emod_lt_of_pos _ (by decide)⟩;refine⟨_,rfl,p,_,1,_,rfl,rfl,aV.of hp,i1 _ _,_,_,rfl,rfl,.inl ⟨by omega,by omega⟩,_,_,rfl,rfl,_,_,rfl,rfl,(by show(0:Int)<2147483647;decide),_,rfl,p,_,1,1,rfl,rfl,hp,n1 _ _,?_⟩;refine⟨_,rfl,p,_,1,_,rfl,rfl,aV.of af,i1 _ _,_,rfl,p,_,1,_,rfl,rfl,aV.of af,i1 _ _,_,_,rfl,rfl,.inl ⟨by omega,by omega⟩,_,_,rfl,rfl,(by show(0:Int)<2147483629;decide),_,_,rfl,rfl,⟨by decide,by decide⟩,_,rfl,_,_,rfl,rfl,Ra,?_⟩;exact q _ _ _ (Int.emod_nonneg _ (by omega)) (Int.emod_lt_of_pos _ Ra) (e1 _).1 (e1 _).2
end K80
namespace L2
open PySem
variable {H:Hp}
theorem wq {σ:St}{A B:Hp->Prop}(h:A H):Ee σ H λb H4=>if b=true then A H4 else B H4:=h
variable {tt:TT}{te:TE}
theorem pB {J:It}{n:Nat}{at_:Nat->V->Prop}{rest:St}{F:List V->Hp->Prop}(Pv:Nat->List V->Hp->Prop)(h0:Pv 0 [] H)
 (hz:∀i ys H',i<=n->Pv i ys H'->ys.length<sizeLine/\(i<n->J.go i H')/\(i=n->J.stop i H')/\∀x H2,J.yld i H' x H2->H2=H'/\at_ i x)
 (hs:∀i x ys H' (N:List V->Hp->Prop),i<n->at_ i x->Pv i ys H'->(∀zs H5,Pv (i+1) zs H5->N zs H5) →
  tt (some x::rest) H' λb H4=>if b=true then te (some x::rest) H4 λy H5=>N (ys++[y]) H5 else N ys H4)
 (hd:∀ys H',Pv n ys H'->F ys H'):
 ∃W:Nat->Nat->List V->St->Hp->Prop,(∃m,W 0 m [] (none::rest) H)/\gR J (cc 0) tt te W F:=by
 refine⟨λi m ys σ H'=>m=n-i/\i<=n/\Pv i ys H'/\∃o,σ=o::rest,⟨n,by simp,Nat.zero_le _,h0,none,rfl⟩,?_⟩;rintro i m ys σ H' ⟨rfl,hi,p,o,rfl⟩;obtain⟨z1,z2,z3,z4⟩:=hz i ys H' hi p;refine⟨z1,?_⟩
 by_cases Fy:i<n
 ·refine .inr ⟨z2 Fy,λx H2 hy=>?_⟩;obtain⟨rfl,hx⟩:=z4 x H2 hy;exact hs i x ys H2 (λzs H5=>∃m',m'<n-i/\m'=n-(i+1)/\i+1<=n/\Pv (i+1) zs H5/\∃o',(some x::rest:St)=o'::rest) Fy hx p λzs H5 h=>⟨n-(i+1),by omega,rfl,Fy,h,_,rfl⟩
 ·have:i=n:=by omega
  subst this;exact .inl ⟨z3 rfl,hd ys H' p⟩
theorem jO {K:PySem.W.Frag}{a:Addr}{xs:List V}{rest:St}{F:List V->Hp->Prop}(Pv:Nat->List V->Hp->Prop)(h0:Pv 0 [] H)
 (hz:∀i ys H',i<=xs.length->Pv i ys H'->ys.length<sizeLine/\aV K H' a xs)
 (hs:∀i x ys H' (N:List V->Hp->Prop),i<xs.length->xs[i]?=some x->Pv i ys H'->(∀zs H5,Pv (i+1) zs H5->N zs H5) →
  tt (some x::rest) H' λb H4=>if b=true then te (some x::rest) H4 λy H5=>N (ys++[y]) H5 else N ys H4)
 (hd:∀ys H',Pv xs.length ys H'->F ys H'):
 ∃W:Nat->Nat->List V->St->Hp->Prop,(∃m,W 0 m [] (none::rest) H)/\gR (y7 K a) (cc 0) tt te W F:=by
 refine pB (n:=xs.length) (at_:=λi x=>xs[i]?=some x) Pv h0 (λi ys H' hi p=>?_) hs hd;obtain⟨z1,z2⟩:=hz i ys H' hi p;exact⟨z1,λh=>⟨xs,xs[i],z2,by simp[h]⟩,λh=>⟨xs,z2,by omega⟩,λx H2 hy=>⟨hy.1,hy.2 xs z2⟩⟩
theorem iM {lo:Int}{n:Nat}{rest:St}{F:List V->Hp->Prop}(Pv:Nat->List V->Hp->Prop)(h0:Pv 0 [] H)
 (hz:∀i ys H',i<=n->Pv i ys H'->ys.length<sizeLine)
 (hs:∀i ys H' (N:List V->Hp->Prop),i<n->Pv i ys H'->(∀zs H5,Pv (i+1) zs H5->N zs H5) →
  tt (some (.int (lo+i)):: rest) H' λb H4=>if b=true then te (some (.int (lo+i)):: rest) H4 λy H5=>N (ys++[y]) H5 else N ys H4)
 (hd:∀ys H',Pv n ys H'->F ys H'):
 ∃W:Nat->Nat->List V->St->Hp->Prop,(∃m,W 0 m [] (none::rest) H)/\gR (xJ lo n) (cc 0) tt te W F:=by
 refine pB (n:=n) (at_:=λi x=>x=.int (lo+i)) Pv h0 (λi ys H' hi p=>?_) (λi x ys H' N h1 h2=>by subst h2;exact hs i ys H' N h1) hd;exact⟨hz i ys H' hi p,λh=>h,λh=>by show n<=i;omega,λx H2 hy=>hy⟩
end L2
namespace K80
open PySem L2 PySem.W Nm
abbrev zU:Stmt:=(aR 47)
abbrev wZ:Stmt:=(aR 48)
abbrev xa:Stmt:=(aR 49)
abbrev tJ:Stmt:=(aR 50)
def zL (H:Hp)(Q:VK)(t b:Int):Prop:=∀(H':Hp)(a:Addr),ay H H'->H' a=some (du t b)->Q (.ref a) H'
variable {H:Hp}{b:Int}
theorem zL.of {H':Hp}{Q:VK}{t:Int}(q:zL H Q t b)(S:ay H H'):∀a,H' a=none->Q (.ref a) (upd H' a (du t b)):=λa ha=>q _ a (S.trans (ak ha)) af
def Bm:Sp:=λvs H Q _=>∃t b:Int,vs=[.int t,.int b]/\b≠0/\B 9000 b/\B 9000 t/\zL H Q (gq t b) (dh t b)
def yO:Sp:=λvs H Q _=>∃p t b:Int,vs=[.int p,.int t,.int b]/\FP p/\b≠0/\B 9000 b/\B 9000 t/\(((p≠0->b=1)/\zL H Q (eh p t b) (df p t b))\/(p≠0/\(b=2\/b=3)/\b%p≠0/\∀v,0<=v->v<p->zL H Q v 1))
def jT (g:Int->Int->Int->Int->Int):Sp:=λvs H Q _=>∃(p t1 b1 t2 b2:Int)(a1 a2:Addr),vs=[.int p,.ref a1,.ref a2]/\FP p/\H a1=some (du t1 b1)/\H a2=some (du t2 b2)/\B 4000 t1/\B 4000 b1/\B 4000 t2/\B 4000 b2/\b1≠0/\b2≠0/\(p≠0->b1*b2=1) /\
 zL H Q (eh p (g t1 b1 t2 b2) (b1*b2)) (df p (g t1 b1 t2 b2) (b1*b2))
theorem ko:yI ["_law_top","_law_bottom","_law_one","_law_other"] yz (aq zU):=dm (by decide +kernel)
theorem vH:yI ["_law_prime_here","_law_top","_law_bottom","_law_back"] vP (aq wZ):=dm (by decide +kernel)
theorem yb:yI Au Au (aq xa):=dm (by decide +kernel)
theorem vZ:yI Au Au (aq tJ):=dm (by decide +kernel)
def fh (p b:Int)(n:Nat):List Int:=((List.range n).map λi:Nat=>1+(i:Int)).filter λk=>b*k%p==1
theorem jS (p b:Int)(n:Nat):fh p b (n+1)=fh p b n++[1+(n:Int)].filter λk=>b*k%p==1:=by
 unfold fh;rw[List.range_succ,List.map_append,List.filter_append];rfl
variable {p:Int}
theorem tX {n:Nat}(h:b*(1+(n:Int))%p=1):fh p b (n+1)=fh p b n++[1+(n:Int)]:=by
 rw[jS];simp[h]
theorem xr {n:Nat}(h:¬b*(1+(n:Int))%p=1):fh p b (n+1)=fh p b n:=by
 rw[jS];simp[h]
theorem uJ (p b:Int)(n:Nat):(fh p b n).length<=n:=by
 unfold fh;refine Nat.le_trans (List.length_filter_le _ _) ?_;simp
theorem vi {p b v:Int}{n:Nat}(hn:p-1<=n)(v1:v<p)(v0:0<v)(hv:b*v%p=1):∃z rest,fh p b n=z::rest/\0<=z/\z<n+1/\b*z%p=1:=by
 have mem:v∈fh p b n:=List.mem_filter.mpr ⟨List.mem_map.mpr ⟨(v-1).toNat,List.mem_range.mpr (by omega),by omega⟩,by simp[hv]⟩
 cases e:fh p b n with
 |nil=>rw[e] at mem;cases mem
 |cons z rest =>
  have mz:z∈fh p b n:=by rw[e];exact List.mem_cons_self
  obtain⟨m1,m2⟩:=List.mem_filter.mp mz;obtain⟨i,hi,rfl⟩:=List.mem_map.mp m1;have:=List.mem_range.mp hi;exact⟨_,rest,rfl,by omega,by omega,by simpa using m2⟩
theorem yd (hp:p∈DY)(b0:0<b)(b4:b<4)(hb:b%p≠0):∃v,0<v/\v<p/\b*v%p=1:=by
 have key:∀q∈DY,∀c∈[(1:Int),2,3],c%q≠0->((List.range 97).any λi:Nat=>decide (1+(i:Int)<q)&&(c*(1+(i:Int))%q==1))=true:=by decide +kernel
 have z:=key p hp b (by simp;omega) hb;obtain⟨i,_,hi⟩:=List.any_eq_true.mp z;rw[Bool.and_eq_true] at hi;exact⟨1+(i:Int),by omega,of_decide_eq_true hi.1,by simpa using hi.2⟩
variable {P:u6}{w:World}{K:PySem.W.Frag}{mg:wg}{base:Heap}
theorem zV (c:Int):(if c<0 then -c else c)=ab c:=rfl
variable {f:Addr}{fd:xR}
theorem xN (F:u3 K "_law_low" "_law_low" zU f fd)(GZ:mg "abs"=none):E6 P w K mg base (aN P w) 1 f fd yz Bm:=by
 refine F.okN ko (λvs H Q E h=>?_) (λFf A outer s H vs Q E hr h=>?_)
 ·obtain⟨a,b,rfl,_⟩:=h;rfl
 ·obtain⟨t,b,rfl,hb,hB,hT,q⟩:=h
  refine⟨_,(aj (@aC _ _ 2 _ _ _ _ ko.nd rfl (Or.inl rfl) (aF kQ (by rfl) GZ (by rfl) (@ah _ _ _ _ _ (pv 0) ag rfl)) rfl (Or.inl rfl))
   (aj (@aC _ _ 3 _ _ _ _ ko.nd rfl (Or.inl rfl) (aF kQ (by rfl) GZ (by rfl) (@ah _ _ _ _ _ (pv 1) ag rfl)) rfl (Or.inl rfl))
   (aj (pR PassesOwn.never (@aL _ _ _ _ _ _ _ _ pP (pv 3) ao (aB _)) (ar (u7 (i:=2) (j:=3) rfl ko.nd rfl rfl (by decide) rfl rfl (@ah _ _ _ _ _ (pv 3) (@ah _ _ _ _ _ (@aO _ _ _ _ _ _ _ _ sh (pv 2) (pv 3)) ag rfl) rfl) rfl)))
   (aj (bq (@aL _ _ _ _ _ _ _ _ i3 (pv 1) ao (aB _)) (ar (@aC _ _ 2 _ _ _ _ ko.nd rfl (Or.inl rfl) (@aO _ _ _ _ _ _ _ _ qM ao (pv 2)) rfl (Or.inl rfl))) aM)
   (ar (az (@bX _ _ _ _ _ (@ah _ _ _ _ _ (@aO _ _ _ _ _ _ _ _ gK (pv 0) (pv 2)) (@ah _ _ _ _ _ (@aO _ _ _ _ _ _ _ _ gK (pv 1) (pv 2)) ag rfl) rfl)))))))),?_⟩
  refine⟨_,rfl,t,rfl,_,rfl,b,rfl,?_⟩;rw[zV,zV];refine⟨λm σ H'=>∃c d:Int,σ=[some (.int t),some (.int b),some (.int c),some (.int d)]/\H'=H/\m=d.natAbs/\Int.gcd c d=Int.gcd t b/\0<=c/\0<=d,⟨_,ab t,ab b,rfl,rfl,rfl,Bt t b,by rw[jV];omega,by rw[jV];omega⟩,?_⟩;rintro m σ H' ⟨c,d,rfl,rfl,rfl,hg,hc0,Q8⟩;refine⟨_,rfl,_,_,rfl,rfl,_,rfl,?_⟩;refine c7 (λh=>?_) (λh=>?_)
  ·have hd:d≠0:=by have:=of_decide_eq_true h;omega
   refine⟨λσ' Nn=>∃c' d':Int,σ'=[some (.int t),some (.int b),some (.int c'),some (.int d')]/\Nn=H'/\d'.natAbs<d.natAbs/\Int.gcd c' d'=Int.gcd t b/\0<=c'/\0<=d',λσ' Nn ⟨c',d',e1,e2,e3,e4,e5,e6⟩=>⟨_,e3,c',d',e1,e2,rfl,e4,e5,e6⟩,?_⟩;exact⟨_,rfl,_,rfl,_,rfl,_,_,rfl,rfl,hd,_,_,rfl,d,c.fmod d,rfl,rfl,sv c d hd,by rw[oU,hg],Q8,Int.fmod_nonneg_of_pos c (by omega)⟩
  ·have hd:d=0:=by
    have:¬d>0:=by simpa using h
    omega
   subst hd
   have eg:c=eA t b:=by
    unfold eA;rw[<-hg];simp;omega
   have gp:=i5 (t:=t) hb;have Rb:B 9000 (eA t b):=hB.le (A7 hb);subst eg;unfold gq dh dv at q;refine⟨_,rfl,_,_,rfl,rfl,_,rfl,?_⟩;refine c7 (λh2=>?_) (λh2=>?_)
   ·have h2:=of_decide_eq_true h2;rw[if_pos h2] at q;refine⟨_,rfl,_,_,rfl,rfl,?_⟩;dsimp only;rw[Int.zero_sub]
    have hn:B 9000 (-(eA t b)):=by unfold B at Rb |-;rw[Int.natAbs_neg];exact Rb
    exact⟨_,rfl,_,rfl,_,_,rfl,rfl,⟨by omega,hn⟩,_,rfl,_,rfl,_,_,rfl,rfl,⟨by omega,hn⟩,ic,q.of (ay.refl _)⟩
   ·have h2:¬b<0:=by simpa using h2
    rw[if_neg h2] at q;exact⟨_,rfl,_,rfl,_,_,rfl,rfl,⟨by omega,Rb⟩,_,rfl,_,rfl,_,_,rfl,rfl,⟨by omega,Rb⟩,ic,q.of (ay.refl _)⟩
variable {fl:Addr}{Gq:xR}
theorem xU (F:u3 K "_law_made" "_law_made" wZ f fd)(Fi:mg "range"=none)(FL:E6 P w K mg base (aN P w) 1 fl Gq yz Bm)(bL:L2.av K Gq yz [])(mL:mg "_law_low"=some (.ref fl))(kL:keepIn K (.ref fl)=true):
 E6 P w K mg base (aN P w) 2 f fd vP yO:=by
 refine F.okN vH (λvs H Q E h=>?_) (λFf A outer s H vs Q E hr h=>?_)
 ·obtain⟨p,t,b,rfl,_⟩:=h;rfl
 ·obtain⟨p,t,b,rfl,hp,hb,hB,hT,hq⟩:=h;have Fp:oJ 1 _:=hr
  refine⟨_,(aj (bq (@aL _ _ _ _ _ _ _ _ cq (pv 0) ao (aB _)) (ar (az (ax FL Fp (by rfl) mL kL bL .nil ae (@ah _ _ _ _ _ (pv 1) (@ah _ _ _ _ _ (pv 2) ag rfl) rfl)))) aM)
   (aj (@aC _ _ 3 _ _ _ _ vH.nd rfl (Or.inl rfl) (@a9 _ _ _ _ _ _ _ b7 (cU (N:=["_law_k","_law_prime_here","_law_bottom"]) (nl:=1) (js:=[0,2]) (osc:=aq wZ) ⟨rfl,rfl,by decide +kernel,by decide +kernel,by decide +kernel,rfl,(.cons ⟨rfl,by decide +kernel⟩ (.cons ⟨rfl,by decide +kernel⟩ .nil)),by decide +kernel⟩ rfl
    (lN (by rfl) Fi (@ah _ _ _ _ _ ao (@ah _ _ _ _ _ (pv 0) ag rfl) rfl))
    (λCq fq sq Hq=>aI (i:=0) (by show(["_law_k","_law_prime_here","_law_bottom"]:E4).Nodup;decide +kernel) rfl (Or.inl rfl) (Or.inr rfl))
    (λCq fq sq Hq=>(eY (@aL _ _ _ _ _ _ _ _ cq (@aO _ _ _ _ _ _ _ _ eB (@aO _ _ _ _ _ _ _ _ cX (pv 2) (pv 0)) (pv 1)) ao (aB _))))
    (λCq fq sq Hq=>(pv 0))) ao (λ_ _=>rfl)) rfl (Or.inl rfl))
   (ar (az (@bX _ _ _ _ _ (@ah _ _ _ _ _ (@aO _ _ _ _ _ _ _ _ eB (@aO _ _ _ _ _ _ _ _ cX (pv 1) (pv 3)) (pv 0)) (@ah _ _ _ _ _ ao ag rfl) rfl)))))),?_⟩
  refine⟨_,rfl,rfl,_,rfl,?_⟩;refine c7 (λh=>?_) (λh=>?_)
  ·have F2:p=0:=by simpa using h
   rcases hq with⟨_,q⟩|⟨z,_⟩
   ·unfold eh df at q;rw[if_pos F2,if_pos F2] at q;exact⟨_,rfl,_,rfl,t,b,rfl,hb,hB,hT,q⟩
   ·exact absurd F2 z
  ·have F2:p≠0:=by simpa using h
   obtain⟨Q9,p2,SN⟩:=hp.two F2
   have bb:0<b/\b<4/\b%p≠0:=by
    rcases hq with⟨h1,_⟩|⟨_,h23,h,_⟩
    ·have:=h1 F2;subst this;refine⟨by decide,by decide,?_⟩;rw[Int.emod_eq_of_lt (by decide) (by omega)];decide
    ·exact⟨by omega,by omega,h⟩
   have HR:∀v,0<=v->v<p->b*v%p=1->zL H Q (t*v%p) 1:=by
    intro v v0 v1 hv
    rcases hq with⟨h1,q⟩|⟨_,_,_,q⟩
    ·have:=h1 F2;subst this;rw[Int.one_mul,Int.emod_eq_of_lt v0 v1] at hv;subst hv;unfold eh df at q;rw[if_neg F2,if_neg F2] at q;rw[Int.mul_one];exact q
    ·exact q _ (Int.emod_nonneg _ (by omega)) (Int.emod_lt_of_pos _ (by omega))
   obtain⟨v,v0,v1,hv⟩:=yd Q9 bb.1 bb.2.1 bb.2.2;refine⟨_,rfl,_,_,rfl,⟨by omega,by omega,by omega,by omega⟩,?_⟩;have bp:∀{i:Int},0<=i->i<128->B 9000 i:=λh0 h1=>Nat.lt_of_lt_of_le (by omega:_<2^8) (Nat.pow_le_pow_right (by decide) (by decide));refine iM (lo:=1) (n:=(p-1).toNat) (rest:=[some (.int p),some (.int b)]) (λi us H'=>H'=H/\us=(fh p b i).map V.int) ⟨rfl,rfl⟩ (λi us H' hi h=>?_) (λi us H' M hi h hM=>?_) (λus H' h=>?_)
   ·rw[h.2,List.length_map];exact Nat.lt_of_le_of_lt (uJ _ _ _) (Nat.lt_of_le_of_lt (by omega:i<=97) (by decide))
   ·obtain⟨rfl,rfl⟩:=h;refine⟨_,rfl,_,rfl,_,_,rfl,rfl,⟨bp (by omega) (by omega),bp (by omega) (by omega)⟩,_,rfl,_,_,rfl,rfl,(by show(0:Int)<p;omega),rfl,_,rfl,?_⟩
    by_cases Rc:b*(1+(i:Int))%p=1
    ·rw[decide_eq_true (show V.int (b*(1+(i:Int))%p)=V.int 1 by rw[Rc])];refine bw ⟨_,rfl,hM _ _ ⟨rfl,?_⟩⟩;rw[tX Rc,List.map_append];rfl
    ·rw[decide_eq_false (show ¬V.int (b*(1+(i:Int))%p)=V.int 1 from λz=>Rc (by injection z))];refine bH (hM _ _ ⟨rfl,?_⟩);rw[xr Rc]
   ·obtain⟨rfl,rfl⟩:=h;intro L hL;obtain⟨z,rest,ez,z0,z1,hz⟩:=vi (n:=(p-1).toNat) (b:=b) (p:=p) (v:=v) (by omega) v1 v0 hv;rw[ez];have S:=ak (o:=.lst ((z::rest).map V.int)) hL;refine⟨L,_,0,.int z,rfl,rfl,aV.of af,nV (xs:=(z::rest).map V.int) (j:=0) rfl,?_⟩;exact⟨_,rfl,_,rfl,_,_,rfl,rfl,⟨hT,bp z0 (by omega)⟩,_,rfl,_,_,rfl,rfl,(by show(0:Int)<p;omega),ic,(HR z z0 (by omega) hz).of S⟩
theorem vb (F:u3 K "_law_plus" "_law_plus" xa f fd)(FM:E6 P w K mg base (aN P w) 2 fl Gq vP yO)(bM:L2.av K Gq vP [])(mM:mg "_law_made"=some (.ref fl))(kM:keepIn K (.ref fl)=true):
 E6 P w K mg base (aN P w) 3 f fd Au (jT jz):=by
 refine F.okN yb (λvs H Q E h=>?_) (λFf A outer s H vs Q E hr h=>?_)
 ·obtain⟨p,t1,b1,t2,b2,x1,x2,rfl,_⟩:=h;rfl
 ·obtain⟨p,t1,b1,t2,b2,x1,x2,rfl,hp,h1,h2,B1,B2,B3,B4,n1,n2,hb,q⟩:=h;have FY:oJ 2 _:=hr;refine⟨_,(ar (az (ax FM FY (by rfl) mM kM bM .nil ae (@ah _ _ _ _ _ (pv 0) (@ah _ _ _ _ _ (@aO _ _ _ _ _ _ _ _ eG (@aO _ _ _ _ _ _ _ _ cX (@a9 _ _ _ _ _ _ _ bQ (pv 1) ao (λ_ _=>rfl)) (@a9 _ _ _ _ _ _ _ bQ (pv 2) ao (λ_ _=>rfl))) (@aO _ _ _ _ _ _ _ _ cX (@a9 _ _ _ _ _ _ _ bQ (pv 2) ao (λ_ _=>rfl)) (@a9 _ _ _ _ _ _ _ bQ (pv 1) ao (λ_ _=>rfl)))) (@ah _ _ _ _ _ (@aO _ _ _ _ _ _ _ _ cX (@a9 _ _ _ _ _ _ _ bQ (pv 1) ao (λ_ _=>rfl)) (@a9 _ _ _ _ _ _ _ bQ (pv 2) ao (λ_ _=>rfl))) ag rfl) rfl) rfl)))),?_⟩;refine⟨_,rfl,?_⟩;refine⟨_,rfl,x1,_,0,_,rfl,rfl,bV.of h1,a0 _ _,_,rfl,x2,_,1,_,rfl,rfl,bV.of h2,a1 _ _,_,_,rfl,rfl,⟨B1.mono (by decide),B4.mono (by decide)⟩,?_⟩;refine⟨_,rfl,x2,_,0,_,rfl,rfl,bV.of h2,a0 _ _,_,rfl,x1,_,1,_,rfl,rfl,bV.of h1,a1 _ _,_,_,rfl,rfl,⟨B3.mono (by decide),B2.mono (by decide)⟩,_,_,rfl,rfl,?_⟩;refine⟨_,rfl,x1,_,1,_,rfl,rfl,bV.of h1,a1 _ _,_,rfl,x2,_,1,_,rfl,rfl,bV.of h2,a1 _ _,_,_,rfl,rfl,⟨B2.mono (by decide),B4.mono (by decide)⟩,?_⟩;exact⟨p,_,_,rfl,hp,rf n1 n2,(B2.mul B4).mono (by decide),((B1.mul B4).add (B3.mul B2)).mono (by decide),.inl ⟨hb,q⟩⟩
theorem uN (F:u3 K "_law_times" "_law_times" tJ f fd)(FM:E6 P w K mg base (aN P w) 2 fl Gq vP yO)(bM:L2.av K Gq vP [])(mM:mg "_law_made"=some (.ref fl))(kM:keepIn K (.ref fl)=true):
 E6 P w K mg base (aN P w) 3 f fd Au (jT ju):=by
 refine F.okN vZ (λvs H Q E h=>?_) (λFf A outer s H vs Q E hr h=>?_)
 ·obtain⟨p,t1,b1,t2,b2,x1,x2,rfl,_⟩:=h;rfl
 ·obtain⟨p,t1,b1,t2,b2,x1,x2,rfl,hp,h1,h2,B1,B2,B3,B4,n1,n2,hb,q⟩:=h;have FY:oJ 2 _:=hr;refine⟨_,(ar (az (ax FM FY (by rfl) mM kM bM .nil ae (@ah _ _ _ _ _ (pv 0) (@ah _ _ _ _ _ (@aO _ _ _ _ _ _ _ _ cX (@a9 _ _ _ _ _ _ _ bQ (pv 1) ao (λ_ _=>rfl)) (@a9 _ _ _ _ _ _ _ bQ (pv 2) ao (λ_ _=>rfl))) (@ah _ _ _ _ _ (@aO _ _ _ _ _ _ _ _ cX (@a9 _ _ _ _ _ _ _ bQ (pv 1) ao (λ_ _=>rfl)) (@a9 _ _ _ _ _ _ _ bQ (pv 2) ao (λ_ _=>rfl))) ag rfl) rfl) rfl)))),?_⟩;refine⟨_,rfl,?_⟩;refine⟨_,rfl,x1,_,0,_,rfl,rfl,bV.of h1,a0 _ _,_,rfl,x2,_,0,_,rfl,rfl,bV.of h2,a0 _ _,_,_,rfl,rfl,⟨B1.mono (by decide),B3.mono (by decide)⟩,?_⟩;refine⟨_,rfl,x1,_,1,_,rfl,rfl,bV.of h1,a1 _ _,_,rfl,x2,_,1,_,rfl,rfl,bV.of h2,a1 _ _,_,_,rfl,rfl,⟨B2.mono (by decide),B4.mono (by decide)⟩,?_⟩;exact⟨p,_,_,rfl,hp,rf n1 n2,(B2.mul B4).mono (by decide),(B1.mul B3).mono (by decide),.inl ⟨hb,q⟩⟩
abbrev wt:Stmt:=(aR 54)
def aH (H:Hp)(r:Addr):Prop:=∃l x:Int,H r=some (.lst [.int l,.int x])/\0<=x/\x<2147483647
def SameBut (r:Addr)(H H':Hp):Prop:=∀b o,H b=some o->b≠r->H' b=some o
variable {r:Addr}
theorem SameBut.trans {H1 H2:Hp}(a:SameBut r H H1)(b:SameBut r H1 H2):SameBut r H H2:=λc o e n=>b c o (a c o e n) n
theorem SameBut.of {H1:Hp}(a:ay H H1):SameBut r H H1:=λc o e _=>a c o e
theorem SameBut.upd {o:HO}:SameBut r H (upd H r o):=λb u e n=>by rw[ai n];exact e
def qZ:Sp:=λvs H Q _=>∃r:Addr,vs=[.ref r]/\aH H r/\∀(p:Int)(H':Hp),FP p->aH H' r->SameBut r H H'->Q (.int p) H'
def qR:Sp:=λvs H Q _=>∃(r:Addr)(p:Int),vs=[.ref r,.int p]/\FP p/\aH H r/\∀(a:Addr)(t b:Int)(H':Hp),Num p t b->B 45 t->B 45 b->H' a=some (du t b)->aH H' r->SameBut r H H'->Q (.ref a) H'
theorem D8 {K:Frag}{a:Addr}{t:Int}(h:H a=some (du t b)):aK K H (.tup [.int t,.int b]) (.ref a):=by
 unfold aK;refine⟨a,_,rfl,bV.of h,?_⟩;unfold ba;refine⟨_,_,rfl,by unfold aK;rfl,?_⟩;unfold ba;refine⟨_,_,rfl,by unfold aK;rfl,?_⟩;unfold ba;rfl
theorem DD (t b:Int):ix (.tup [.int t,.int b])=1:=by simp[ix,dD]
end K80
namespace L2
open PySem PySem.Spec PyProof.Rows PySem.W
def Dz:V->Bool->Prop
 | .bl b,c=>c=b
 | .int i,c=>c=(i != 0)
 |_,_=>False
theorem bR {α β:Type}{R:α->β->Prop}:∀{l:List α}{m:List β}{i:Nat}{a:α},Paired R l m->l[i]?=some a->∃b,m[i]?=some b/\R a b
 |[],_,i,a,h,e=>by simp at e
 |x::l,_,i,a,h,e=>by
  cases h with
  |cons h1 h2 =>
   cases i with
   |zero=>simp at e;subst e;exact⟨_,rfl,h1⟩
   |succ i=>simpa using bR h2 (by simpa using e)
theorem jX {α β:Type}{R:α->β->Prop}:∀{l:List α}{m:List β}{i:Nat}{b:β},Paired R l m->m[i]?=some b->∃a,l[i]?=some a/\R a b
 |[],m,i,b,h,e=>by cases h;simp at e
 |x::l,_,i,b,h,e=>by
  cases h with
  |cons h1 h2 =>
   cases i with
   |zero=>simp at e;subst e;exact⟨_,rfl,h1⟩
   |succ i=>simpa using jX h2 (by simpa using e)
section
variable {X:Cx}
theorem A5 {A:Around}{Q:Bool->Shared->Prop}{E:vy}{s:AQ}{y:V}{c:Bool}{u:Value}(t:Dz y c)(r:aE y u)(h:Q c s):wpAny (model X.prog X.w) A (truthy u) Q E s:=by
 cases y with
 |bl b =>
  cases(show u=Value.bool b from r)
  cases(show c=b from t)
  exact wpAny_truthy_bool h
 |int i =>
  obtain⟨k,rfl⟩:=(show ∃k,u=Value.int i k from r)
  cases(show c=(i != 0) from t)
  exact PyProof.Rows.truthy_int h
 |_=>exact t.elim
theorem oZ (hc:X.calm=true):cA X (.builtin "all") (λxs H Q=>∃l ys bs,xs=[.ref l]/\aV X.K H l ys/\Paired Dz ys bs/\Q (.bl (bs.all id)) H):=by
 intro pins s σ H xs us Q I r h;obtain⟨l,ys,bs,rfl,hl,hp,q⟩:=h;obtain⟨u,rfl,ru⟩:=eQ r
 cases(show u=Value.ref l from ru)
 obtain⟨its,rv,pl,hz⟩:=I.list hl
 have Fy:l<s.heap.objs.size:=by obtain⟨o,n,e,_⟩:=pl;exact Heap.lt_size e
 refine call_all_walk (wpAny_pyIter_list pl.isList ?_)
 refine⟨s.heap.objs.size,[s.heap.objs.size,l],[s.heap.objs.size],its.toArray.size,_,_,λi=>(bs[i]?).getD true,rfl,Walks.list (A:=X.A.in1) (I.ok.hd hc) _ l (Nat.ne_of_lt Fy) its.toArray,
  ⟨⟨_,Heap.get?_push_size _ rfl,rfl,rfl⟩,pl.isList.push _⟩,λi v s' Q' E' hP hQ=>?_,λh' tk hk=>?_⟩
 ·have e:its[i]?=some v:=by simpa using hP
  obtain⟨y,ey,ry⟩:=jX rv e;obtain⟨b,eb,tb⟩:=bR hp ey;simp only[eb,Option.getD_some] at hQ;exact A5 tb ry hQ
 ·have n:its.toArray.size=bs.length:=by rw[List.size_toArray,<-rv.length,hp.length]
  have e:((List.range its.toArray.size).all λi=>(bs[i]?).getD true)=bs.all id:=by rw[n];exact LSm.range_all bs
  rw[e];exact⟨.bl (bs.all id),H,I.kept (t':=tk) (LSm.kept_iter hk),rfl,q⟩
end
end L2
namespace Srt
open PySem PySem.W PyProof.Rows
structure Pm (n:Nat)(r:Nat->Nat)(p:Array Nat):Prop where
 size:p.size=n
 lt:∀k,k<n->p.getD k 0<n
 ne:∀k l,k<n->l<n->k≠l->r (p.getD k 0)≠r (p.getD l 0)
 perm:p.Perm (List.range n).toArray
variable {p:Array Nat}{k m:Nat}
section
variable {n:Nat}{r:Nat->Nat}
theorem Pm.nq {n:Nat}{r:Nat->Nat}(P:Pm n r p)(k l:Nat)(hk:k<n)(hl:l<n)(h:k≠l):p.getD k 0≠p.getD l 0:=λz=>P.ne k l hk hl h (by rw[z])
theorem getD_some (h:k<p.size):p[k]?=some (p.getD k 0):=by simp[Array.getD,h]
theorem tG (inj:∀i j,i<n->j<n->i≠j->r i≠r j)(hp:p.Perm (List.range n).toArray):Pm n r p:=by
 have hl:p.toList.Perm (List.range n):=by simpa using hp.toList
 have hs:p.size=n:=by rw[<-Array.length_toList,hl.length_eq,List.length_range]
 have Fy:∀k,k<n->p.getD k 0<n:=λk hk=>by
  have hm:p.getD k 0∈p.toList:=by
   rw[show p.getD k 0=p[k]'(by omega) by simp[Array.getD,hs,hk]];exact Array.mem_toList_iff.mpr (Array.getElem_mem _)
  exact List.mem_range.mp (hl.mem_iff.mp hm)
 refine⟨hs,Fy,λk l hk Gk FX=>inj _ _ (Fy k hk) (Fy l Gk) λe=>FX ?_,hp⟩;have nd:p.toList.Nodup:=hl.nodup_iff.mpr List.nodup_range
 have e1:p.toList[k]'(by simp;omega)=p.toList[l]'(by simp;omega):=by
  rw[show p.getD k 0=p[k]'(by omega) by simp[Array.getD,hs,hk],show p.getD l 0=p[l]'(by omega) by simp[Array.getD,hs,Gk]] at e;simpa using e
 have pw:=List.pairwise_iff_getElem.mp (show p.toList.Pairwise (· ≠ ·) from nd)
 rcases Nat.lt_trichotomy k l with z|z|z
 ·exact absurd e1 (pw k l _ _ z)
 ·exact z
 ·exact absurd e1.symm (pw l k _ _ z)
def Up (r:Nat->Nat)(p:Array Nat)(m:Nat):Prop:=∀i j,i<j->j<m->r (p.getD i 0)<r (p.getD j 0)
def Dn (r:Nat->Nat)(p:Array Nat)(m:Nat):Prop:=∀i j,i<j->j<m->r (p.getD j 0)<r (p.getD i 0)
theorem Up.succ (h:Up r p m)(h1:1<=m)(e:r (p.getD (m-1) 0)<r (p.getD m 0)):Up r p (m+1):=λi j HP hj=>by
 by_cases z:j=m
 ·subst z
  by_cases z2:i=j-1
  ·subst z2;exact e
  ·exact Nat.lt_trans (h i (j-1) (by omega) (by omega)) e
 ·exact h i j HP (by omega)
theorem Dn.succ (h:Dn r p m)(h1:1<=m)(e:r (p.getD m 0)<r (p.getD (m-1) 0)):Dn r p (m+1):=λi j HP hj=>by
 by_cases z:j=m
 ·subst z
  by_cases z2:i=j-1
  ·subst z2;exact e
  ·exact Nat.lt_trans e (h i (j-1) (by omega) (by omega))
 ·exact h i j HP (by omega)
theorem rA (hm:m<=p.size)(hk:k<p.size):(kas_rev p 0 m).getD k 0=if k<m then p.getD (m-1-k) 0 else p.getD k 0:=by
 have e:=getElem?_mirror_all (xs:=p) (i:=0) hm k;have hs:(kas_rev p 0 m).size=p.size:=mirror_size _ _ _ _;have e2:(kas_rev p 0 m)[k]?=some ((kas_rev p 0 m).getD k 0):=getD_some (by rw[hs];exact hk)
 have e3:(kas_rev p 0 m)[k]?=if 0<=k/\k<m then p[0+m-1-k]? else p[k]?:=e
 rw[e2] at e3
 by_cases h:k<m
 ·rw[if_pos ⟨Nat.zero_le _,h⟩,show 0+m-1-k=m-1-k by omega,getD_some (by omega)] at e3;rw[if_pos h];exact Option.some.inj e3
 ·rw[if_neg (λz=>h z.2),getD_some hk] at e3;rw[if_neg h];exact Option.some.inj e3
theorem Dn.rev (h:Dn r p m)(hm:m<=p.size):Up r (kas_rev p 0 m) m:=λi j HP hj=>by
 rw[rA hm (by omega),rA hm (by omega),if_pos (by omega),if_pos hj];exact h _ _ (by omega) (by omega)
variable {cmp:Nat->Nat->(Bool->Shared->Prop)->Shared->Prop}{s:AQ}
theorem qu (hc:∀i j C,i<n->j<n->i≠j->C (decide (r i<r j)) s->cmp i j C s)(P:Pm n r p){Q:Nat->Shared->Prop}:∀(f m:Nat),1<=m->m+f=n->Up r p m →
 (∀m',m<=m'->m'<=n->Up r p m'->(m'<n->r (p.getD m' 0)<r (p.getD (m'-1) 0))->Q m' s)->(kas_asc p f m).kasWp cmp Q s
 |0,m,h1,hm,hu,hQ=>hQ m (Nat.le_refl _) (by omega) hu λh=>by omega
 |f+1,m,h1,hm,hu,hQ=>by
  refine hc _ _ _ (P.lt m (by omega)) (P.lt (m-1) (by omega)) (P.nq m (m-1) (by omega) (by omega) (by omega)) ?_;show((if decide (r (p.getD m 0)<r (p.getD (m-1) 0))=true then KasT.ret m else kas_asc p f (m+1)).kasWp cmp Q s)
  by_cases h:r (p.getD m 0)<r (p.getD (m-1) 0)
  ·rw[if_pos (decide_eq_true h)];exact hQ m (Nat.le_refl _) (by omega) hu λ_=>h
  ·rw[if_neg (by simpa using h)];have ne:=P.ne m (m-1) (by omega) (by omega) (by omega);exact qu hc P f (m+1) (by omega) (by omega) (hu.succ h1 (by omega)) λm' h2=>hQ m' (by omega)
theorem rE (hc:∀i j C,i<n->j<n->i≠j->C (decide (r i<r j)) s->cmp i j C s)(P:Pm n r p){Q:Array Nat×Nat×Nat->Shared->Prop}:∀(f m:Nat),1<=m->m+f=n->Dn r p m →
 (∀m',m<=m'->m'<=n->Dn r p m'->Q (p,m',0) s)->(kas_desc f p m 0).kasWp cmp Q s
 |0,m,h1,hm,hu,hQ=>hQ m (Nat.le_refl _) (by omega) hu
 |f+1,m,h1,hm,hu,hQ=>by
  refine hc _ _ _ (P.lt m (by omega)) (P.lt (m-1) (by omega)) (P.nq m (m-1) (by omega) (by omega) (by omega)) ?_
  by_cases h:r (p.getD m 0)<r (p.getD (m-1) 0)
  ·rw[decide_eq_true h];exact rE hc P f (m+1) (by omega) (by omega) (hu.succ h1 h) λm' h2=>hQ m' (by omega)
  ·rw[decide_eq_false h];refine hc _ _ _ (P.lt (m-1) (by omega)) (P.lt m (by omega)) (P.nq (m-1) m (by omega) (by omega) (by omega)) ?_;have ne:=P.ne m (m-1) (by omega) (by omega) (by omega);rw[decide_eq_true (show r (p.getD (m-1) 0)<r (p.getD m 0) by omega)];exact hQ m (Nat.le_refl _) (by omega) hu
theorem vv (inj:∀i j,i<n->j<n->i≠j->r i≠r j)(hc:∀i j C,i<n->j<n->i≠j->C (decide (r i<r j)) s->cmp i j C s)(P:Pm n r p){Q:Nat×Array Nat->Shared->Prop}(h1:1<=m)(hm:m<=n)(hd:Dn r p m)
 (hQ:∀m' p',m'<=n->1<=m'->Pm n r p'->Up r p' m'->Q (m',p') s):(kas_tail3 m n p).kasWp cmp Q s:=by
 unfold kas_tail3;rw[KasT.kasWp_bind];have P':Pm n r (kas_rev p 0 m):=tG inj ((mirror_perm _ _ _ _).trans P.perm);exact qu hc P' (n-m) m h1 (by omega) (hd.rev (by rw[P.size];exact hm)) λm' h2 h3 h4 _=>hQ m' _ h3 (by omega) P' h4
theorem wV (inj:∀i j,i<n->j<n->i≠j->r i≠r j)(hc:∀i j C,i<n->j<n->i≠j->C (decide (r i<r j)) s->cmp i j C s)(h0:1<=n)(P:Pm n r p){Q:Nat×Array Nat->Shared->Prop}
 (hQ:∀m' p',m'<=n->1<=m'->Pm n r p'->Up r p' m'->Q (m',p') s):(kas_count n p).kasWp cmp Q s:=by
 unfold kas_count;rw[KasT.kasWp_bind];refine qu hc P (n-1) 1 (Nat.le_refl _) (by omega) (λi j HP hj=>by omega) λm h1 h2 h3 h4=>?_
 by_cases e:m=n
 ·subst e;rw[if_pos (by simp)];exact hQ _ _ (Nat.le_refl _) h1 P h3
 ·rw[if_neg (by simpa using e)]
  by_cases h5:m>1
  ·rw[if_pos h5];refine hc _ _ _ (P.lt 0 (by omega)) (P.lt (m-1) (by omega)) (P.nq 0 (m-1) (by omega) (by omega) (by omega)) ?_;rw[decide_eq_true (h3 0 (m-1) (by omega) (by omega))];exact hQ _ _ h2 h1 P h3
  ·rw[if_neg h5]
   have e1:m=1:=by omega
   subst e1;unfold kas_descPart;rw[KasT.kasWp_bind];have d2:Dn r p (1+1):=Dn.succ (λi j HP hj=>by omega) (Nat.le_refl _) (h4 (by omega));refine rE hc P (n-(1+1)) (1+1) (by omega) (by omega) d2 λm' h6 h7 h8=>?_;show((if 0>0 then _ else kas_tail3 m' n p).kasWp cmp Q s);rw[if_neg (by omega)];exact vv inj hc P (by omega) h7 h8 hQ
theorem kZ (hc:∀i j C,i<n->j<n->i≠j->C (decide (r i<r j)) s->cmp i j C s)(P:Pm n r p){Q:Nat->Shared->Prop}(hk:k<n)(hu:Up r p k):∀(f l q:Nat),l<=q->q<=k->q-l<=f->(∀j,j<l->r (p.getD j 0)<r (p.getD k 0))->(∀j,q<=j->j<k->r (p.getD k 0)<r (p.getD j 0)) →
 (∀l',l'<=k->(∀j,j<l'->r (p.getD j 0)<r (p.getD k 0))->(∀j,l'<=j->j<k->r (p.getD k 0)<r (p.getD j 0))->Q l' s)->(kas_place p k f l q).kasWp cmp Q s
 |0,l,q,h1,h2,h3,h4,h5,hQ=>hQ l (by omega) h4 λj h6 h7=>h5 j (by omega) h7
 |f+1,l,q,h1,h2,h3,h4,h5,hQ=>by
  unfold kas_place
  by_cases h:l ≥ q
  ·rw[if_pos h];exact hQ l (by omega) h4 λj h6 h7=>h5 j (by omega) h7
  ·rw[if_neg h];refine hc _ _ _ (P.lt k hk) (P.lt ((l+q)/2) (by omega)) (P.nq k ((l+q)/2) hk (by omega) (by omega)) ?_;have ne:=P.ne k ((l+q)/2) hk (by omega) (by omega)
   by_cases z:r (p.getD k 0)<r (p.getD ((l+q)/2) 0)
   ·rw[decide_eq_true z];refine kZ hc P hk hu f l ((l+q)/2) (by omega) (by omega) (by omega) h4 (λj h6 h7=>?_) hQ
    by_cases e:j=(l+q)/2
    ·subst e;exact z
    ·exact Nat.lt_trans z (hu _ _ (by omega) h7)
   ·rw[decide_eq_false z];refine kZ hc P hk hu f ((l+q)/2+1) q (by omega) h2 (by omega) (λj h6=>?_) h5 hQ
    by_cases e:j=(l+q)/2
    ·subst e;omega
    ·have:=hu j ((l+q)/2) (by omega) (by omega);omega
theorem sS {l j:Nat}(hk:k<p.size)(hl:l<=k)(hj:j<p.size):(bubble p k (k-l)).getD j 0=if j=l then p.getD k 0 else if l<j/\j<=k then p.getD (j-1) 0 else p.getD j 0:=by
 have e:=getElem?_bubble hk (k-l) (by omega) j;rw[show k-(k-l)=l by omega,getD_some (by rw[bubble_size];exact hj)] at e
 by_cases h1:j=l
 ·rw[if_pos h1,getD_some hk] at e;rw[if_pos h1];exact Option.some.inj e
 ·rw[if_neg h1] at e |-
  by_cases h2:l<j/\j<=k
  ·rw[if_pos h2,getD_some (by omega)] at e;rw[if_pos h2];exact Option.some.inj e
  ·rw[if_neg h2,getD_some hj] at e;rw[if_neg h2];exact Option.some.inj e
theorem uZ (inj:∀i j,i<n->j<n->i≠j->r i≠r j)(hc:∀i j C,i<n->j<n->i≠j->C (decide (r i<r j)) s->cmp i j C s){Q:Array Nat->Shared->Prop}(hQ:∀p',Pm n r p'->Up r p' n->Q p' s):∀(f:Nat)(p:Array Nat)(k:Nat),Pm n r p->k+f=n->Up r p k->(kas_bin f p k).kasWp cmp Q s
 |0,p,k,P,hk,hu=>hQ p P (by rw[<-hk];exact hu)
 |f+1,p,k,P,hk,hu=>by
  unfold kas_bin;rw[KasT.kasWp_bind];refine kZ hc P (by omega) hu k 0 k (Nat.zero_le _) (Nat.le_refl _) (by omega) (λj h=>by omega) (λj h1 h2=>by omega) λl h1 h2 h3=>?_;have P':Pm n r (bubble p k (k-l)):=tG inj ((bubble_perm _ _ _).trans P.perm);refine uZ inj hc hQ f _ (k+1) P' (by omega) λi j HP hj=>?_;have sz:=P.size;rw[sS (by omega) h1 (by omega),sS (by omega) h1 (by omega)]
  by_cases e1:i=l
  ·rw[if_pos e1,if_neg (by omega),if_pos ⟨by omega,by omega⟩];exact h3 _ (by omega) (by omega)
  ·rw[if_neg e1]
   by_cases e2:j=l
   ·rw[if_pos e2,if_neg (by omega)];exact h2 _ (by omega)
   ·rw[if_neg e2]
    by_cases e3:l<j
    ·rw[if_pos (show l<j/\j<=k from⟨e3,by omega⟩)]
     by_cases e4:l<i
     ·rw[if_pos ⟨e4,by omega⟩];exact hu _ _ (by omega) (by omega)
     ·rw[if_neg (by omega)];exact hu _ _ (by omega) (by omega)
    ·rw[if_neg (by omega),if_neg (by omega)];exact hu _ _ HP (by omega)
theorem xV (inj:∀i j,i<n->j<n->i≠j->r i≠r j)(hc:∀i j C,i<n->j<n->i≠j->C (decide (r i<r j)) s->cmp i j C s)(h0:1<=n){Q:Array Nat->Shared->Prop}(hQ:∀p',Pm n r p'->Up r p' n->Q p' s):(kas_sort n).kasWp cmp Q s:=by
 unfold kas_sort;rw[KasT.kasWp_bind];refine wV inj hc h0 (tG inj (Array.Perm.refl _)) λm p h1 h2 P hu=>?_;show((if m<n then kas_bin (n-max m 1) p (max m 1) else KasT.ret p).kasWp cmp Q s)
 by_cases h:m<n
 ·rw[if_pos h,show max m 1=m by omega];exact uZ inj hc hQ _ _ _ P (by omega) hu
 ·rw[if_neg h]
  have e:m=n:=by omega
  subst e;exact hQ p P hu
end
end Srt
namespace L2
open PySem PySem.Spec PyProof.Rows PySem.W
end L2
namespace Srt
open PySem PySem.W PyProof.Rows
section
variable {prog:u6}{w:World}{A:Around}{E:vy}{s:AQ}
def yJ (prog:u6)(w:World)(A:Around)(ks:nZ)(r:Nat->Nat)(s:AQ):Prop :=
 ∃κ,(∀Q:SortKind->Shared->Prop,Q κ s->wpAny (model prog w) A (keyKind' ks.toArray) Q (λ_ _=>False) s)/\∀i j C,i<ks.length->j<ks.length->i≠j->C (decide (r i<r j)) s->kas_ask prog w A κ ks i j C s
def iw (vs:nZ)(p:Array Nat):List Value:=p.toList.map λi=>vs.getD i Value.none
theorem vO (vs:nZ):iw vs (List.range vs.length).toArray=vs:=by
 unfold iw;apply List.ext_getElem
 ·simp
 ·intro i h1 h2;simp[h2]
theorem gM {n:Nat}(h:n<64):n<=sizeLine:=by rw[sizeLine_eq];omega
end
open L2
abbrev Ky:=Int×List Int
def lq (a b:Ky):Bool:=if a.1=b.1 then HT.de a.2 b.2 else decide (a.1<b.1)
theorem kj:∀xs:List Int,HT.de xs xs=false
 |[]=>rfl
 |x::xs=>by rw[HT.eo,if_pos rfl];exact kj xs
theorem mK:∀{xs ys zs:List Int},HT.de xs ys=true->HT.de ys zs=true->HT.de xs zs=true
 |[],[],_,h,_=>by cases h
 |[],y::ys,[],_,h=>by cases h
 |[],y::ys,z::zs,_,_=>rfl
 |x::xs,[],_,h,_=>by cases h
 |x::xs,y::ys,[],_,h=>by cases h
 |x::xs,y::ys,z::zs,h1,h2=>by
  rw[HT.eo] at h1 h2 |-
  by_cases e1:x=y
  ·rw[if_pos e1] at h1
   by_cases e2:y=z
   ·rw[if_pos e2] at h2;rw[if_pos (e1.trans e2)];exact mK h1 h2
   ·rw[if_neg e2] at h2;rw[e1,if_neg e2];exact h2
  ·rw[if_neg e1] at h1;have l1:=of_decide_eq_true h1
   by_cases e2:y=z
   ·rw[<-e2,if_neg e1];exact h1
   ·rw[if_neg e2] at h2;have l2:=of_decide_eq_true h2;rw[if_neg (by omega)];exact decide_eq_true (by omega)
theorem mR:∀{xs ys:List Int},xs≠ys->HT.de xs ys=true\/HT.de ys xs=true
 |[],[],h=>absurd rfl h
 |[],y::ys,_=>.inl rfl
 |x::xs,[],_=>.inr rfl
 |x::xs,y::ys,h=>by
  rw[HT.eo,HT.eo]
  by_cases e:x=y
  ·subst e;rw[if_pos rfl,if_pos rfl];exact mR λz=>h (by rw[z])
  ·rw[if_neg e,if_neg (Ne.symm e)];simp only[decide_eq_true_eq];omega
theorem kc (a:Ky):lq a a=false:=by unfold lq;rw[if_pos rfl];exact kj _
theorem jh {a b c:Ky}(h1:lq a b=true)(h2:lq b c=true):lq a c=true:=by
 unfold lq at h1 h2 |-
 by_cases e1:a.1=b.1
 ·rw[if_pos e1] at h1
  by_cases e2:b.1=c.1
  ·rw[if_pos e2] at h2;rw[if_pos (e1.trans e2)];exact mK h1 h2
  ·rw[if_neg e2] at h2;rw[e1,if_neg e2];exact h2
 ·rw[if_neg e1] at h1;have l1:=of_decide_eq_true h1
  by_cases e2:b.1=c.1
  ·rw[<-e2,if_neg e1];exact h1
  ·rw[if_neg e2] at h2;have l2:=of_decide_eq_true h2;rw[if_neg (by omega)];exact decide_eq_true (by omega)
theorem ja {a b:Ky}(h:a≠b):lq a b=true\/lq b a=true:=by
 unfold lq
 by_cases e:a.1=b.1
 ·rw[if_pos e,if_pos e.symm];exact mR λz=>h (Prod.ext e z)
 ·rw[if_neg e,if_neg (Ne.symm e)];simp only[decide_eq_true_eq];omega
def cT (ks:List Ky)(i:Nat):Ky:=ks.getD i (0,[])
def rk (ks:List Ky)(i:Nat):Nat:=(List.range ks.length).countP λj=>lq (cT ks j) (cT ks i)
theorem ma {α:Type}{p q:α->Bool}:∀{l:List α},(∀x∈l,p x=true->q x=true)->(∃x∈l,q x=true/\p x=false)->l.countP p<l.countP q
 |[],_,⟨x,hx,_⟩=>by cases hx
 |a::l,h,⟨x,hx,h1,h2⟩=>by
  have le:∀l':List α,(∀x∈l',p x=true->q x=true)->l'.countP p<=l'.countP q:=λl' h'=>List.countP_mono_left h';rw[List.countP_cons,List.countP_cons]
  rcases List.mem_cons.mp hx with rfl|hx
  ·rw[if_pos h1,if_neg (by rw[h2];exact Bool.false_ne_true)];have:=le l λx hx=>h x (List.mem_cons_of_mem _ hx);omega
  ·have ih:=ma (l:=l) (λx hx=>h x (List.mem_cons_of_mem _ hx)) ⟨x,hx,h1,h2⟩;have h0:=h a List.mem_cons_self
   cases e:p a with
   |false=>simp only[Bool.false_eq_true,if_false];omega
   |true=>rw[h0 e];simp only[if_true];omega
variable {ks:List Ky}
theorem iN {i j:Nat}(hi:i<ks.length)(h:lq (cT ks i) (cT ks j)=true):rk ks i<rk ks j :=
 ma (λl _ hl=>jh hl h) ⟨i,List.mem_range.mpr hi,h,kc _⟩
theorem wk {i j:Nat}(hi:i<ks.length)(hj:j<ks.length):decide (rk ks i<rk ks j)=lq (cT ks i) (cT ks j):=by
 cases e:lq (cT ks i) (cT ks j) with
 |true=>exact decide_eq_true (iN hi e)
 |false =>
  refine decide_eq_false λz=>?_
  by_cases k:cT ks i=cT ks j
  ·unfold rk at z;rw[k] at z;exact Nat.lt_irrefl _ z
  ·rcases ja k with h|h
   ·rw[e] at h;cases h
   ·exact Nat.lt_asymm z (iN hj h)
theorem AX (nd:ks.Nodup):∀i j,i<ks.length->j<ks.length->i≠j->rk ks i≠rk ks j:=λi j hi hj FX z=>by
 have k:cT ks i≠cT ks j:=λe=>by
  have e':ks[i]=ks[j]:=by
   unfold cT at e;simpa[hi,hj] using e
  have pw:=List.pairwise_iff_getElem.mp (show ks.Pairwise (· ≠ ·) from nd)
  rcases Nat.lt_or_gt_of_ne FX with l|l
  ·exact pw i j _ _ l e'
  ·exact pw j i _ _ l e'.symm
 rcases ja k with h|h
 ·have:=iN hi h;omega
 ·have:=iN hj h;omega
def rB (K:Frag)(H:Hp)(x:V)(k:Ky):Prop:=∃a b rest,x=.ref a/\bV K H a (.int k.1 :: .ref b::rest)/\bV K H b (k.2.map V.int)
def dS (K:Frag)(H:Hp):List V->List Ky->Prop
 |[],[]=>True
 |x::xs,k::ks=>rB K H x k/\dS K H xs ks
 |_,_=>False
variable {K:Frag}{H:Hp}
theorem dS.len :∀{xs:List V}{ks:List Ky},dS K H xs ks->xs.length=ks.length
 |[],[],_=>rfl
 |_::_,_::_,⟨_,r⟩=>congrArg (·+1) r.len
 |[],_::_,h=>h.elim
 |_::_,[],h=>h.elim
theorem dS.get :∀{xs:List V}{ks:List Ky}{i:Nat}{x:V},dS K H xs ks->xs[i]?=some x->rB K H x (cT ks i)
 |x::xs,k::ks,0,y,⟨h,_⟩,e=>by simp at e;subst e;exact h
 |x::xs,k::ks,i+1,y,⟨_,r⟩,e=>by
  have:=r.get (i:=i) (x:=y) (by simpa using e);simpa[cT] using this
 |[],[],i,y,_,e=>by simp at e
 |[],_::_,_,_,h,_=>h.elim
 |_::_,[],_,_,h,_=>h.elim
theorem iK :∀ns:List Int,ba K H (ns.map D.int) (ns.map V.int)
 |[]=>by unfold ba;rfl
 |n::ns=>by unfold ba;exact⟨_,_,rfl,by unfold aK;rfl,iK ns⟩
theorem wj (ns:List Int):ix (.tup (ns.map D.int))<=1:=by
 unfold ix
 have:∀ms:List Int,dD (ms.map D.int)=0:=λms=>by
  induction ms with
  |nil=>unfold dD;rfl
  |cons m ms ih=>rw[List.map_cons];unfold dD;rw[ih];unfold ix;rfl
 rw[this];omega
theorem pK:∀ns ms:List Int,fO (ns.map D.int) (ms.map D.int)=decide (ns=ms)
 |[],[]=>by simp;rfl
 |[],m::ms=>by simp;rfl
 |n::ns,[]=>by simp;rfl
 |n::ns,m::ms=>by
  show((n==m)&&fO (ns.map D.int) (ms.map D.int))=_;rw[pK ns ms]
  by_cases e:n=m
  ·subst e;simp
  ·simp[e]
section
variable {X:Cx}{pins:List (Addr×Obj)}{σ:L2.St}{H:Hp}{s:AQ}
theorem y8 {A:Around}{x y:V}{u v:Value}{k j:Ky}{C:Bool->Shared->Prop}{E:vy}(I:Inv X pins σ H s)(hA:A.units+2<cLine)(hx:rB X.K H x k)(hy:rB X.K H y j)(rx:aE x u)(ry:aE y v)(ne:k≠j)(h:C (lq k j) s):
 wpAny (model X.prog X.w) A (keyLt' (tuples' true) u v) C E s:=by
 obtain⟨a,b,rest,rfl,h1,h2⟩:=hx;obtain⟨a',b',XB,rfl,Jy,Ms⟩:=hy
 cases(show u=Value.ref a from rx)
 cases(show v=Value.ref a' from ry)
 obtain⟨its,r1,⟨o1,g1,_,n1,d1⟩,_⟩:=I.tuple h1;obtain⟨its',Rf,⟨o1',g1',_,n1',d1'⟩,_⟩:=I.tuple Jy;refine kat_lt g1 d1 g1' d1' ?_
 cases r1 with
 |cons q1 r1 =>
  cases r1 with
  |cons q2 r1 =>
   cases Rf with
   |cons q1' Rf =>
    cases Rf with
    |cons q2' Rf =>
     obtain⟨t,rfl⟩:=q1;obtain⟨t',rfl⟩:=q1'
     rename_i w2 _ w2' _
     cases(show w2=Value.ref b from q2)
     cases(show w2'=Value.ref b' from q2')
     show KatLex _ _ _ _ _ _ ((Value.int k.1 t,Value.int j.1 t'):: (Value.ref b,Value.ref b'):: _) 0 s;refine kat_cons (SeqAt.EqAt.int_int k.1 t j.1 t' X.prog X.w _ _ ?_)
     have klt_def:lq k j=if k.1=j.1 then HT.de k.2 j.2 else decide (k.1<j.1):=rfl
     refine kat_go (λe=>kat_yes ?_) λe=>kat_no ?_
     ·have e1:k.1=j.1:=by simpa using e
      have n2:k.2≠j.2:=λz=>ne (Prod.ext e1 z);have dd:=(jl I 1 A (.tup (k.2.map D.int)) (.tup (j.2.map D.int)) (.ref b) (.ref b') (.ref b) (.ref b') (wj _) (by omega) (by unfold aK;exact⟨b,_,rfl,h2,iK _⟩) (by unfold aK;exact⟨b',_,rfl,Ms,iK _⟩) rfl rfl).2.1;have e2:i6 (.tup (k.2.map D.int)) (.tup (j.2.map D.int))=false:=(pK _ _).trans (decide_eq_false n2);rw[e2] at dd;refine kat_cons (dd X.prog X.w _ _ (kat_no ?_));rw[klt_def,if_pos e1] at h;obtain⟨Fq,p2,t2,_⟩:=I.tuple h2;obtain⟨XC,p2',t2',_⟩:=I.tuple Ms;exact kat_one _ _ (HT.abd t2 t2' (kX p2) (kX p2') (by omega) h)
     ·have e1:k.1≠j.1:=by simpa using e
      rw[klt_def,if_neg e1] at h;exact oneLt_int h
theorem yG (I:Inv X pins σ H s)(xs:List V):∀(ks:List Ky)(us:nZ),dS X.K H xs ks->aG xs us->∃fs:List Value,KatTups s.heap us fs/\fs.length=us.length/\∀f∈fs,∃i t,f=Value.int i t:=by
 induction xs with
 |nil =>
  intro ks us _ r
  cases r
  exact⟨[],.nil,rfl,λf hf=>by cases hf⟩
 |cons x xs ih =>
  intro ks us h r
  cases ks with
  |nil=>exact h.elim
  |cons k ks =>
   cases r with
   |cons rx rv =>
    rename_i u us
    obtain⟨⟨a,b,rest,e,h1,_⟩,hr⟩:=h;obtain⟨fs,t,hl,hf⟩:=ih ks us hr rv;subst e
    cases(show u=Value.ref a from rx)
    obtain⟨its,r1,⟨o1,g1,c1,n1,d1⟩,_⟩:=I.tuple h1
    cases r1 with
    |cons q1 r1 =>
     obtain⟨tk,rfl⟩:=q1;refine⟨Value.int k.1 tk::fs,.cons g1 c1 d1 rfl t,by simp[hl],λf hf'=>?_⟩
     rcases List.mem_cons.mp hf' with rfl|z
     ·exact⟨_,_,rfl⟩
     ·exact hf f z
theorem qQ {A:Around}{xs:List V}{us:nZ}(I:Inv X pins σ H s)(hA:A.units+2<cLine)(hk:dS X.K H xs ks)(rv:aG xs us)(nd:ks.Nodup)(h2:2<=us.length):yJ X.prog X.w A us (rk ks) s:=by
 obtain⟨fs,t,hl,hf⟩:=yG I xs ks us hk rv;have AB:=hk.len;have E5:=rv.length;refine⟨tuples' true,λQ hq=>kat_kind (T:=Value.type "int") t (by omega) (λv hv=>?_) (by decide) hq,λi j C hi hj FX hc=>?_⟩
 ·obtain⟨i,tk,rfl⟩:=hf v hv;exact .now
 ·have gi:∃x,xs[i]?=some x/\aE x (us.getD i .none):=by
   have XD:i<xs.length:=by omega
   obtain⟨u,e,r⟩:=rv.get (i:=i) (x:=xs[i]) (by simp[XD]);refine⟨xs[i],by simp[XD],?_⟩;rw[List.getD_eq_getElem?_getD,e];exact r
  have gj:∃x,xs[j]?=some x/\aE x (us.getD j .none):=by
   have XF:j<xs.length:=by omega
   obtain⟨u,e,r⟩:=rv.get (i:=j) (x:=xs[j]) (by simp[XF]);refine⟨xs[j],by simp[XF],?_⟩;rw[List.getD_eq_getElem?_getD,e];exact r
  obtain⟨x,ex,rx⟩:=gi;obtain⟨y,ey,ry⟩:=gj;rw[wk (by omega) (by omega)] at hc
  have kne:cT ks i≠cT ks j:=λz=>by
   have e':ks[i]'(by omega)=ks[j]'(by omega):=by
    unfold cT at z;simpa[show i<ks.length by omega,show j<ks.length by omega] using z
   have pw:=List.pairwise_iff_getElem.mp (show ks.Pairwise (· ≠ ·) from nd)
   rcases Nat.lt_or_gt_of_ne FX with l|l
   ·exact pw i j _ _ l e'
   ·exact pw j i _ _ l e'.symm
  exact y8 I hA (hk.get ex) (hk.get ey) rx ry kne hc
end
end Srt
namespace L2
open PySem PySem.Spec PyProof.Rows PySem.W
section
variable {X:Cx}{pins:List (Addr×Obj)}{σ:St}{H:Hp}{s:AQ}{h':Heap}
theorem Inv.abB (I:Inv X pins σ H s){a:Addr}(hp:s.heap.get? a=none):H a=none:=by
 cases q:H a with
 |none=>rfl
 |some u =>
  obtain⟨ob,e1⟩:=(I.hok a u q).there;rw[hp] at e1
  cases e1
theorem Inv.newObj {a:Addr}{o:HO}{t':Nat}(I:Inv X pins σ H s)(k:∀b u,s.heap.get? b=some u->h'.get? b=some u)(hp:s.heap.get? a=none)(new:bc X.prog X.w (upd H a o) h' a o):
 Inv X pins σ (upd H a o) {s with heap:=h',toks:=t'}:=by
 have hn:=I.abB hp
 have nb:∀b u,s.heap.get? b=some u->b≠a:=λb u e z=>by rw[z,hp] at e;cases e
 exact I.un ⟨λb u q _ _ _=>k b u q,λb u q _ _ _=>⟨u.slots,k b u q⟩,λb u q n _=>by rw[ai (nb b u q)];exact n,λb u q _=>⟨u,k b u q⟩,
  λb xs q=>by rw[ai (au q hn)];exact q,λb u xs q=>by rw[ai (au q hn)];exact q,λb ps q=>⟨#[],by rw[ai (au q hn),q];simp⟩⟩ (dX (I.hok.kept k) hn new)
end
section
variable {X:Cx}{x:Str}{C:Addr}{B newId GI:String}{FJ:nZ}{p pos:Pos}{e:Expr}{es:Aw}{t:TA}{r:List V->Hp->VK->Prop}
theorem wB (hc:cA X (.ref C) r)(kp:keepIn X.K (.ref C)=true)(hg:Gl X x)(hm:X.mg x=some (.ref C))(ha:PA X (e::es) t)(Im:(x==("__debug__":Str))=false:=by decide)
 (he:starEach (e::es) X.env=(false,eval e X.env):: starEach es X.env:=by rfl)(FZ:(backTo pos (starEach es X.env)).any (·.1)=false:=by rfl):PE X (.Call (.Name x p) (e::es) [] pos) (zM r t):=by
 intro pins s σ H Q I h;refine wpAny_Call_Name_kw (eV I hg hm ?_ Im);exact PySem.W.callWith_K (h₀:=X.base) I.ok.mod.kin kp (bN (ha pos pins s σ H _ I h) λus s1 ⟨vs,H1,I1,r1,q1⟩=>⟨I1.kIn,hc pins s1 σ H1 vs us Q I1 r1 q1⟩) he FZ
end
variable {o:Obj}
section
variable {P:u6}{w:World}{A:Around}{E:vy}{hp:Heap}{gs:Array GenState}{dr:Drawn}{tk:Nat}{os:OsState}
variable {nm qn:Str}{C N fI:Addr}{bs bm FJ J6:nZ}{hdct ab:Bool}{sn:E4}{sub:nZ}{col:Option Bool}{dd:Bo}{k0 k1 k2 k3 k5:uh}{B Bn newId nid GI J7:String}{mN:wg}{us:nZ}{oI:Obj}
def dC (hp:Heap)(C:Addr)(us:nZ):Heap:=(hp.push {cls:=.type "tuple",data:=.seq us.toArray}).push {cls:=.ref C,data:=.fields #[.ref hp.objs.size,.none,.none,.none,.bool false,.none]}
theorem cH {b:Addr}(e:hp.get? b=some o):(dC hp C us).get? b=some o:=Heap.get?_push_of_some _ (Heap.get?_push_of_some _ e)
theorem jx:(dC hp C us).get? (hp.objs.size+1)=some {cls:=.ref C,data:=.fields #[.ref hp.objs.size,.none,.none,.none,.bool false,.none]}:=by
 unfold dC
 heap_get
theorem lA:Heap.MadeExcOf hp (dC hp C us) (hp.objs.size+1) (.ref C) us :=
 ⟨λb o e=>cH e,Heap.get?_none_of_le (Nat.le_succ _),hp.objs.size,jx,Heap.get?_none_of_le (Nat.le_refl _),Heap.get?_push_of_some _ (Heap.get?_push_at rfl rfl)⟩
structure Ep (B:String)(FJ:nZ):Prop where
 mro:mroOf (.type B)=pure FJ
 look:∃y,typeLookup (.type B) "__init__"=pure y
 noA:FJ.contains (.type "AttributeError")=false
 noN:FJ.contains (.type "NameError")=false
theorem v5 {R:Result->Shared->Prop}(Fn:ExcBaseFacts Bn newId J7 J6)(J8:FJ.contains (.type Bn)=true)(FB:Ep B FJ)(T:OwnTail hp FJ bm)(hC:hp.get? C=some (excClassObj nm qn C N bs bm hdct sn sub ab col dd k0 k1 k2 k3 k5 newId))
 (hq:R (.ok (.ret (.ref (hp.objs.size+1)))) ⟨dC hp C us,gs,dr,tk,os⟩)(JZ:us.length<=sizeLine):codeAny (model P w) A (.builtin newId ⟨.ref C::us,[]⟩) R ⟨hp,gs,dr,tk,os⟩:=by
 have isB:(Value.ref C::bm).contains (.type Bn)=true:=by rw[List.contains_cons,T.hasType J8];simp
 have SQ:(Value.ref C::bm).contains (.type "AttributeError")=false:=by rw[List.contains_cons,T.hasType FB.noA];simp
 have SR:(Value.ref C::bm).contains (.type "NameError")=false:=by rw[List.contains_cons,T.hasType FB.noN];simp
 have XG:=Fn.ends;refine codeAny_builtinAt Fn.entry ?_;unfold Builtin.«BaseException.__new__»;refine PySem.wpAt_bind ?_;show PySem.wpAt _ _ _ (stack>>=_) _ _ _;refine PySem.wpAt_bind (PySem.wpAt_stack λp below=>PySem.wpAt_of_wpAny ?_)
 wp_walk
 refine PySem.wpAt_of_wpAny ?_;rw[Fn.owner]
 repeat (first|(with_reducible refine wpAny_madeHere_exc Fn.canon hC ?_)|(with_reducible refine wpAny_loadPart_at hC ?_)|(with_reducible refine wpAny_isSubtype_exc hC ?_;first|rw[isB]|rw[SQ]|rw[SR])|wp_step)
 show R _ _;rw[Heap.size_push];exact hq
theorem j8 (Fn:ExcBaseFacts Bn newId J7 J6)(J8:FJ.contains (.type Bn)=true)(FB:Ep B FJ)(T:OwnTail hp FJ bm){Q:PySem.Fin->Shared->Prop}
 (hC:hp.get? C=some (excClassObj nm qn C N bs bm hdct sn sub ab col dd k0 k1 k2 k3 k5 newId))(hN:hp.Ns N mN)(hi:mN "__init__"=some (.ref fI))(eI:hp.get? fI=some oI)(cI:oI.cls=.type "function")(hl:us.length<=sizeLine)
 (hq:∀h' e,Heap.MadeExcOf hp h' e (.ref C) us->wpAny (model P w) A (call (.ref fI) (.ref e::us)) (λr s'=>r=.none/\Q (.done (.ret (.ref e))) s') E ⟨h',gs,dr,tk,os⟩):
 wpAny (model P w) A (Builtin.«type.__call__» ⟨.ref C::us,[]⟩) Q E ⟨hp,gs,dr,tk,os⟩:=by
 repeat (first|(with_reducible refine wpAny_loadPart_at hC ?_)|(with_reducible refine wpAny_madeBy_exc hC ?_)|wp_step)
 refine codeAny_call_builtin_code (Code.quiet_builtin _ Fn.quiet) (wpAny_check_new_subU Fn J8 T hC (v5 Fn J8 FB T hC ?_ hl));show wpAny _ _ _ _ _ ⟨dC hp C us,gs,dr,tk,os⟩;have gC:=cH (C:=C) (us:=us) hC;have gI:=cH (C:=C) (us:=us) eI;have gN:(dC hp C us).Ns N mN:=hN.keeps λb o e=>cH e;have gT:OwnTail (dC hp C us) FJ bm:=T.keeps λb o e=>cH e;have gE:=jx (hp:=hp) (C:=C) (us:=us)
 have self:(Value.ref C::bm).contains (.ref C)=true:=by simp
 unfold isInstance
 repeat (first|(with_reducible refine wpAny_loadPart_at gE ?_)|(with_reducible refine wpAny_isSubtype_exc gC ?_;rw[self])|wp_step)
 show wpAny _ _ (typeLookup (.ref C) _) _ _ _;obtain⟨y,look⟩:=FB.look;refine wpAny_typeLookup_tail gC gN gT FB.mro look ?_;rw[hi];refine wpAny_holding (wpAny_bind ?_);unfold bindSpecial;refine wpAny_bind (wpAny_typeOf (T:="function") ⟨_,gI,cI⟩ ?_);rw[if_pos (by decide)];refine wpAny_pure (wpAny_bind (wpAny_mono (hq _ _ lA) (λr s' z=>?_) λ_ _ x=>x));obtain⟨rfl,z⟩:=z
 wp_walk
 exact z
theorem lH (Fn:ExcBaseFacts Bn newId J7 J6)(J8:FJ.contains (.type Bn)=true)(FB:Ep B FJ)(T:OwnTail hp FJ bm){Q:vy}
 (hC:hp.get? C=some (excClassObj nm qn C N bs bm hdct sn sub ab col dd k0 k1 k2 k3 k5 newId))(hN:hp.Ns N mN)(hi:mN "__init__"=some (.ref fI))(eI:hp.get? fI=some oI)(cI:oI.cls=.type "function")(hl:us.length<=sizeLine)
 (hq:∀h' e,Heap.MadeExcOf hp h' e (.ref C) us->wpAny (model P w) (A.under (.builtin "type.__call__" ⟨.ref C::us,[]⟩)) (call (.ref fI) (.ref e::us)) (λr s'=>r=.none/\Q (.ref e) s') E ⟨h',gs,dr,tk,os⟩):
 wpAny (model P w) A (call (.ref C) us) Q E ⟨hp,gs,dr,tk,os⟩:=by
 have t1:=tc_lookup;have t2:=tc_bind (.ref C);have hT:(⟨hp,gs,dr,tk,os⟩:AQ).TypeIs (.ref C) "type":=⟨_,hC,rfl⟩;refine wpAny_call (codeAny_of_tree ?_);show wpAny _ _ (callAny (.ref C) _) _ _ _
 repeat (any_goals (first|assumption|(with_reducible refine wpAny_loadPart_at hC ?_)|wp_step))
 exact⟨rfl,codeAny_call_builtin_at (Code.quiet_builtin _ (by decide +kernel)) entry_typeCall (wpAny_check_type_call_sub hC (j8 Fn J8 FB T hC hN hi eI cI hl λh' e hm=>hq h' e hm))⟩
end
theorem rg:Ep "ValueError" [.type "ValueError",.type "Exception",.type "BaseException",.type "object"] :=
 ⟨by rw[mroOf_type];kernel_rfl,⟨_,PySem.F.excBase_ValueError.init.lookup⟩,by decide +kernel,by decide +kernel⟩
def oX (a:Addr)(cls:Value):HO:=.ext λh=>∃o vs,h.get? a=some o/\o.cls=cls/\o.data=.fields vs/\o.dict=none/\dZ vs
def cL (dx:Addr)(fs:List (Str×V)):HO:=.ext λh=>∃mA,h.Ns1 dx mA/\(∀f,eK (fs.lookup f) (mA f))/\Within mA (fs.map (·.1))
variable {vs:tN}
section
variable {P:u6}{w:World}{H:Hp}{h:Heap}{a dx:Addr}{cls:Value}{fs:List (Str×V)}{fr:Bool}
theorem yj (e:h.get? a=some o)(hc:o.cls=cls)(hd:o.data=.fields vs)(hn:o.dict=none)(hu:dZ vs):bc P w H h a (oX a cls):=
 ⟨⟨o,vs,e,hc,hd,hn,hu⟩,⟨o,e⟩,λh1 h2 ⟨o,vs,e,hc,hd,hn,hu⟩ k=>⟨o,vs,k o e,hc,hd,hn,hu⟩⟩
theorem zf (e:h.get? a=some o)(hc:o.cls=cls)(hd:o.data=.fields vs)(hn:o.dict=some dx)(hu:fr=true->dZ vs):bc P w H h a (dR a cls dx fr):=
 ⟨⟨o,vs,e,hc,hd,hn,hu⟩,⟨o,e⟩,λh1 h2 ⟨o,vs,e,hc,hd,hn,hu⟩ k=>⟨o,vs,k o e,hc,hd,hn,hu⟩⟩
theorem yc (k:gu P w H h)(e:H a=some (oX a cls)):∃o vs,h.get? a=some o/\o.cls=cls/\o.data=.fields vs/\o.dict=none/\dZ vs:=(k a _ e).1
theorem iZ (k:gu P w H h)(e:H a=some (dR a cls dx fr)):∃o vs,h.get? a=some o/\o.cls=cls/\o.data=.fields vs/\o.dict=some dx/\(fr=true->dZ vs):=(k a _ e).1
theorem r8 (k:gu P w H h)(e:H dx=some (cL dx fs)):∃mA,h.Ns1 dx mA/\(∀f,eK (fs.lookup f) (mA f))/\Within mA (fs.map (·.1)):=(k dx _ e).1
theorem se {mA:wg}(n:h.Ns1 dx mA)(r:∀f,eK (fs.lookup f) (mA f))(wi:Within mA (fs.map (·.1))):bc P w H h dx (cL dx fs):=by
 refine⟨⟨mA,n,r,wi⟩,?_,λh1 h2 ⟨m,n,r,wi⟩ k=>⟨m,?_,r,wi⟩⟩
 ·obtain⟨o,es,ep,e,_⟩:=n;exact⟨o,e⟩
 ·obtain⟨o,es,ep,e,rest⟩:=n;exact⟨o,es,ep,k o e,rest⟩
end
def nv (K:Frag)(C f:Addr)(FJ:nZ)(newId:String):Bool :=
 match K.lookup C with
 |some ⟨.type "type",_,.cls cd,sl⟩ =>
  match cd.mro,sl.toList with
  | .ref D::tl,[_,_,_,_,some (.builtin made),_]=>(D==C)&&((made==newId)&&((!cd.hasDel)&&(tailIn K FJ tl&&(nsOkIn K cd.ns&&(nsIn K cd.ns "__init__"==some (some (.ref f)))))))
  |_,_=>false
 |_=>false
theorem AG {K:Frag}{h:Heap}{N:Addr}{m:wg}{n:Str}{v:Value}(X:K.In h)(G:h.Ns N m)(e:nsIn K N n=some (some v)):m n=some v:=by
 obtain⟨o,es,ep,ho,hd,z,hf⟩:=G;unfold nsIn at e
 split at e
 ·rename_i q
  have w:=(X _ _ q).symm.trans ho
  cases w
  cases hd
  rw[<-hf]
  split at e
  ·rename_i en he
   have e2:en.val=v:=Option.some.inj (Option.some.inj e);simp only[nsFind,findBy,<-Array.find?_toList,he];exact congrArg some e2
  ·split at e <;> cases e
 ·cases e
theorem wF {K:Frag}{h:Heap}{C f:Addr}{FJ:nZ}{newId:String}(X:K.In h)(q:nv K C f FJ newId=true):
 ∃bm N nm qn bs hd sn sub ab col dd k0 k1 k2 k3 k5 mN,h.get? C=some (excClassObj nm qn C N bs bm hd sn sub ab col dd k0 k1 k2 k3 k5 newId)/\h.Ns N mN/\mN "__init__"=some (.ref f)/\OwnTail h FJ bm:=by
 unfold nv at q
 split at q
 ·rename_i dd cd sl ho
  split at q
  ·rename_i D tl k0 k1 k2 k3 made k5 hm hs
   rw[Bool.and_eq_true,Bool.and_eq_true,Bool.and_eq_true,Bool.and_eq_true,Bool.and_eq_true] at q;obtain⟨q1,q2,q3,q4,q5,q6⟩:=q;have q1:=eq_of_beq q1;have q2:=eq_of_beq q2;subst q1 q2;obtain⟨nm,bs,mro,ns,qn,hd,sn,sub,ab,col,ui⟩:=cd
   have q7:ui=false:=by simpa using q3
   dsimp only at hm;subst hm q7
   have hsl:sl = #[k0,k1,k2,k3,some (.builtin made),k5]:=by
    obtain⟨l⟩:=sl;simp only at hs;rw[hs]
   subst hsl;have G:h.Ns ns _:=.of_isNs (isNs_of_in X q5);exact⟨tl,ns,nm,qn,bs,hd,sn,sub,ab,col,dd,k0,k1,k2,k3,k5,_,X _ _ ho,G,AG X G (eq_of_beq q6),tail_of_in X q4⟩
  ·cases q
 ·cases q
section
variable {X:Cx}{CX:wC}{k:Nat}{f C:Addr}{fd:xR}{ps:E4}{sp:Sp}{E:XK}{B Bn newId nid GI J7:String}{FJ J6:nZ}{oI:Obj}
def o8 (C:Addr)(sp:Sp)(E:XK):List V->Hp->VK->Prop:=λvs H Q=>vs.length<=sizeLine/\∀a,H a=none->sp (.ref a::vs) (upd H a (oX a (.ref C))) (λv H2=>v=.non/\Q (.ref a) H2) E
theorem tO (Fn:ExcBaseFacts Bn newId J7 J6)(J8:FJ.contains (.type Bn)=true)(FB:Ep B FJ)(q:nv X.K C f FJ newId=true)(lI:X.K.lookup f=some oI)(cI:oI.cls=.type "function")
 (F:E6 X.prog X.w X.K X.mg X.base CX k f fd ps sp)(hr:oJ (k+1) X.A)(hb:av X.K fd ps [])(hx:cx CX X E):cA X (.ref C) (o8 C sp E):=by
 intro pins s σ H vs us Q I r ⟨hl,h⟩;obtain⟨bm,N,nm,qn,bs,hdct,sn,sub,ab,col,dd,k0,k1,k2,k3,k5,mN,hC,hN,hi,T⟩:=wF I.kIn q
 have Gk:us.length<=sizeLine:=by rw[<-r.length];exact hl
 refine lH Fn J8 FB T hC hN hi (I.kIn _ _ lI) cI Gk λh' a hm=>?_;obtain⟨t,h1,h2,h3⟩:=hm.there;have I2:=I.newObj (t':=s.toks) (o:=oX a (.ref C)) hm.keeps hm.new (yj h1 rfl rfl rfl ⟨t,rfl⟩);have hq:=h a (I.abB hm.new);have r2:aG (V.ref a::vs) (Value.ref a::us):=.cons rfl r
 have Hs:(Value.ref a::us++[]).length=ps.length:=by
  have e:=r2.length;rw[F.len _ _ _ _ hq] at e;rw[List.append_nil];exact e.symm
 have XH:=hb _ (Value.ref a::us) I2.kIn Hs;rw[List.append_nil] at XH;refine wpAny_call (codeAny_mono (F.run _ X.stack _ _ ⟨Value.ref a::us,[]⟩ (Value.ref a::us) _ _ E (hr.make C us []) (I2.abm.make C us []) XH r2 hq) λres s' HR=>?_)
 cases res with
 |error e=>exact hx pins σ _ _ e s' I2 HR
 |ok fl =>
  cases fl with
  |ret u =>
   obtain⟨v,H',I3,rv,ev,q3⟩:=I2.after HR;subst ev;exact⟨rv,⟨V.ref a,H',I3,rfl,q3⟩⟩
  |next=>exact False.elim HR
  |brk=>exact False.elim HR
  |cont=>exact False.elim HR
end
def iU:List Value->List Value
 | .ref _::r=>iU r
 |l=>l
abbrev y3:List Value:=[.type "ValueError",.type "Exception",.type "BaseException",.type "object"]
abbrev yH:List Value:=[.type "KeyError",.type "LookupError",.type "Exception",.type "BaseException",.type "object"]
theorem pQ (self:Value)(l:nZ):refuseLoop self "__setattr__" l=refuseLoop self "__setattr__" (iU l):=by
 induction l with
 |nil=>rfl
 |cons v r ih =>
  cases v with
  |ref c=>rw[refuseLoop_ref];exact ih
  |_=>rfl
theorem uW (self:Value):refuseLoop self "__setattr__" y3=pure ():=by kernel_rfl
theorem uA (self:Value):refuseLoop self "__setattr__" yH=pure ():=by kernel_rfl
structure DM (K:Frag)(C:Addr):Prop where
 ek:zv K C
 ok:((clsIn K C).any λcd=>cd.hasDict&&(iU cd.mro==y3 || iU cd.mro==yH))=true
 sa:findIn K (.ref C) "__setattr__"=some (some (.builtin "object.__setattr__"))
variable {tk:Tok}
section
variable {P:u6}{w:World}{A:Around}{E:vy}{K:Frag}{C x dx:Addr}{s:AQ}{ox:Obj}{od:Option Obj}{name:Str}{v:Value}{mA:wg}
theorem DM.cd (k:DM K C):∃cd,clsIn K C=some cd/\cd.hasDict=true/\∀self,refuseLoop self "__setattr__" cd.mro=pure ():=by
 obtain⟨cd,hc,z⟩:=any_some k.ok;rw[Bool.and_eq_true] at z;refine⟨cd,hc,z.1,λself=>?_⟩;rw[pQ]
 rcases Bool.or_eq_true _ _▸z.2 with q|q
 ·rw[eq_of_beq q];exact uW self
 ·rw[eq_of_beq q];exact uA self
theorem rM {R:Result->Shared->Prop}(X:K.In s.heap)(k:DM K C)(J:InstAt s.heap x ox C od)(hn:findIn K (.ref C) name=some none)
 (h:wpAny (model P w) A.in1 (Builtin.ObjectAttr.storeInOwnDict (.ref x) (.ref C) (.str name tk) name v false)
  (λfin s'=>match fin with| .done f=>R (.ok f) s'| .again c'=>c'.quiet=true/\codeAny (model P w) A c' R s') (λe s'=>R (.error e) s') s):
 codeAny (model P w) A (.call (.builtin "object.__setattr__") ⟨[.ref x,.str name tk,v],[]⟩) R s:=by
 have SF:=PySem.F.store_object;obtain⟨cd,hc,hh,hp⟩:=k.cd;have sub:Looks (model P w) s.heap (isInstance (.ref x) (.type "object")) true:=J.type.andThen (looks_mroIn X k.ek.ob);have hm:Looks (model P w) s.heap (mroOf (.ref C)) cd.mro:=(looks_clsIn X hc).andThen .now;refine codeAny_call_builtin SF.slot.plain SF.entry (@check_slot (model P w) _ _ s "object.__setattr__" "object" "__setattr__" (.ref x) [.str name tk,v] [] _ SF.kind SF.split sub (SF.args (.ref x) (.str name tk) v) ?_);rw[osa_eq,refuse_eq];refine wpAny_bind (wpAny_bind (J.type.here (wpAny_bind (hm.here ?_))));rw[hp];refine wpAny_pure (wpAny_bind (J.type.here (wpAny_bind ((looks_findIn X hn).here (wpAny_bind ?_)))));exact wpAny_pure h
theorem wD {Q:Unit->Shared->Prop}(X:K.In s.heap)(k:DM K C)(hx:s.heap.get? x=some ox)(hc:ox.cls=.ref C)(hd:ox.data=.fields vs)(ho:ox.dict=none)(hn:findIn K (.ref C) name=some none)
 (h:∀h',h'.Ns1 s.heap.objs.size (λy=>if y=name then some v else none)->h'.get? x=some {ox with dict:=some s.heap.objs.size}->(∀b o,b≠x->s.heap.get? b=some o->h'.get? b=some o)->Q () {s with heap:=h',toks:=s.toks+2}):
 wpAny (model P w) A (setAttr (.ref x) name v) Q E s:=by
 have J:InstAt s.heap x ox C none:=⟨hx,hc,by unfold notCls;rw[hd],by rw[ho];trivial⟩;refine set_plain X J k.sa (rM (s:={s with toks:=s.toks+1}) X k J hn ?_);obtain⟨cd,F3,hh,_⟩:=k.cd;obtain⟨oc,XI,SS,FA⟩:=ox;dsimp only at hc hd ho;subst hc hd ho;refine wpAny_bind (wpAny_pure (wpAny_bind (wpAny_bind (wpAny_loadPart hx (wpAny_bind (PySem.W.Looks.here (s:={s with toks:=s.toks+1}) (PySem.W.looks_clsIn X F3) ?_))))));rw[hh];show wpAny _ _ (alloc _>>=λd=>update x _>>=λ_=>dictMade _ x d) _ _ _;have FX:x≠s.heap.objs.size:=Nat.ne_of_lt (Heap.lt_size hx);have e1:(s.heap.push {cls:=.type "dict",data:=.dict #[]}).get? x=some ⟨.ref C,none,.fields vs,FA⟩:=Heap.get?_push_of_some _ hx;refine wpAny_bind (wpAny_alloc' (wpAny_bind (wpAny_update' e1 ?_)));show wpAny _ _ (pure (some s.heap.objs.size)) _ _ _;refine wpAny_pure ?_
 have e2:((s.heap.push {cls:=.type "dict",data:=.dict #[]}).update x λo=>{cls:=o.cls,dict:=some s.heap.objs.size,data:=o.data,slots:=o.slots}).get? s.heap.objs.size=some {cls:=.type "dict",data:=.dict #[]}:=
  (Heap.get?_update_ne _ _ _ _ FX.symm).trans (Heap.get?_push_at rfl rfl)
 have e3:((s.heap.push {cls:=.type "dict",data:=.dict #[]}).update x λo=>{cls:=o.cls,dict:=some s.heap.objs.size,data:=o.data,slots:=o.slots}).get? x=some ⟨.ref C,some s.heap.objs.size,.fields vs,FA⟩ :=
  Heap.get?_update_self _ e1 rfl
 have e4:((s.heap.push {cls:=.type "dict",data:=.dict #[]}).update x λo=>{cls:=o.cls,dict:=some s.heap.objs.size,data:=o.data,slots:=o.slots}).Ns s.heap.objs.size (λ_=>none):=
  ⟨_,#[],_,e2,rfl,λe he=>absurd he (by simp),λ_=>rfl⟩
 show wpAny _ _ (Builtin.ObjectAttr.storeInDict s.heap.objs.size (.str name s.toks) name v) _ _ _;unfold Builtin.ObjectAttr.storeInDict Builtin.ObjectAttr.newKeyGuard;refine wpAny_bind (wpAny_pure (wpAny_bind (wpAny_nsSet1 (Heap.Ns1.of_empty e4) λh' n2 sb=>?_)));obtain⟨oD,Xm,Xn,MV,MW,HQ⟩:=n2.count (Within.cons name v Within.nil);refine wpAny_bind (wpAny_lookBehind MV (by rw[MW];exact pastItsLine_dict (Nat.le_trans HQ (by rw[List.length_cons,List.length_nil,sizeLine_eq];omega))) ?_);refine wpAny_pure (h h' n2 ((sb.2 x FX).trans e3) λb o hb e=>(sb.2 b (Nat.ne_of_lt (Heap.lt_size e))).trans ((Heap.get?_update_ne _ _ _ _ hb).trans (Heap.get?_push_of_some _ e)))
theorem xA {Q:Unit->Shared->Prop}{ns:E4}(X:K.In s.heap)(k:DM K C)(hx:s.heap.get? x=some ox)(hc:ox.cls=.ref C)(hd:ox.data=.fields vs)(ho:ox.dict=some dx)(nx:s.heap.Ns1 dx mA)(hn:findIn K (.ref C) name=some none)
 (hw:Within mA ns)(hsz:ns.length<=sizeLine)
 (h:∀h',h'.Ns1 dx (λy=>if y=name then some v else mA y)->Heap.SameBut dx s.heap h'->Q () {s with heap:=h',toks:=s.toks+2}):
 wpAny (model P w) A (setAttr (.ref x) name v) Q E s:=by
 obtain⟨o2,es,ep,e2,rest⟩:=id nx;have J:InstAt s.heap x ox C (some o2):=⟨hx,hc,by unfold notCls;rw[hd],by rw[ho];exact e2⟩;refine set_plain X J k.sa (rM (s:={s with toks:=s.toks+1}) X k J hn ?_);obtain⟨cd,F3,hh,_⟩:=k.cd;obtain⟨oc,XI,SS,FA⟩:=ox;dsimp only at hc hd ho;subst hc hd ho;refine wpAny_bind (wpAny_pure (wpAny_bind (wpAny_bind (wpAny_loadPart hx (wpAny_bind (PySem.W.Looks.here (s:={s with toks:=s.toks+1}) (PySem.W.looks_clsIn X F3) ?_))))));rw[hh];refine wpAny_pure (a:=some dx) (wpAny_bind (wpAny_pure (wpAny_bind ?_)));refine wpAny_nsSet1 (s:={s with toks:=s.toks+1}) nx λh' n2 sb=>?_;obtain⟨oD,Xm,Xn,MV,MW,HQ⟩:=n2.count (Within.cons name v hw);refine wpAny_bind (wpAny_lookBehind MV (by rw[MW];exact pastItsLine_dict (Nat.le_trans HQ (by rw[List.length_cons];omega))) ?_);exact wpAny_pure (h _ n2 sb)
theorem jI {Q:PySem.Fin->Shared->Prop}(X:K.In s.heap)(J:InstAt s.heap x ox C od)(hf:findObj K C od name=some (.value v))(hq:Q (.done (.ret v)) s):
 wpAny (model P w) A (Builtin.«object.__getattribute__» ⟨[.ref x,.str name tk],[]⟩) Q E s:=by
 obtain⟨hh,g,d,t,os⟩:=s;have L0:=J.type (M:=model P w);have L1:=looks_find (M:=model P w) X J hf;refine wpAny_bind (wpAny_pure (wpAny_bind (wpAny_pure (wpAny_bind (L0.at (wpAny_bind (L1.at ?_)))))));exact wpAny_pure hq
theorem qg {fill expr:Bool}{Q:vy}(X:K.In s.heap)(k:zv K C)(J:InstAt s.heap x ox C od)(hf:findObj K C od name=some (.value v))(hh:handedIn v=true)(hq:Q v s):
 wpAny (model P w) A (getAttrBy (.ref x) (.str name tk) fill expr) Q E s:=by
 obtain⟨hh',g,d,t,os⟩:=s;have L0:Looks (model P w) hh' (typeOf (.ref x)) (.ref C):=J.type;have L1:=looks_findIn (M:=model P w) X k.ga;have L2:=looks_findIn (M:=model P w) X k.gx;have f3:=F.attr_ValueError.ga.bind (.ref x)
 have hx0:(expr&&onTheHeap (Value.builtin "BaseException.__getattribute__"))=false:=by cases expr <;> rfl
 have Gp:(Value.builtin "BaseException.__getattribute__"==Value.builtin "object.__getattribute__")=false:=by decide +kernel
 have hx1:(onTheHeap (Value.ref C)&&Value.builtin "BaseException.__getattribute__"==Value.builtin "object.__getattribute__")=false:=by rw[Gp];rfl
 have hho:=handedOut_of hh
 repeat (any_goals (first|assumption|(with_reducible refine Looks.at (by assumption) ?_)|(with_reducible refine Looks.at L0 ?_)|wp_step))
 refine codeAny_call_builtin F.attr_ValueError.ga.plain F.entry_bexc_ga (m6 X k J.at_ J.cls (jI X J hf ?_))
 repeat (any_goals (first|assumption|(rw[hho])|wp_step))
theorem yf {expr:Bool}{Q:vy}(X:K.In s.heap)(k:zv K C)(J:InstAt s.heap x ox C od)(hf:findObj K C od name=some (.value v))(hh:handedIn v=true)(hq:Q v {s with toks:=s.toks+1}):
 wpAny (model P w) A (getAttr (.ref x) name expr) Q E s:=by
 unfold getAttr;exact wpAny_bind (wpAny_mkText (qg (s:={s with toks:=s.toks+1}) X k J hf hh hq))
end
section
variable {X:Cx}{pins:List (Addr×Obj)}{σ:St}{H:Hp}{s:AQ}{A:Around}{E:vy}{a dx C:Addr}{fs:List (Str×V)}{f:Str}{v:V}{fr:Bool}
theorem pD {b:Bool}{Q:vy}(I:Inv X pins σ H s)(e:H a=some (dR a (.ref C) dx fr))(ed:H dx=some (cL dx fs))(k:DM X.K C)(n:bz X.K C f)(l:fs.lookup f=some v)
 (h:∀u s',Inv X pins σ H s'->aE v u->Q u s'):wpAny (model X.prog X.w) A (getAttr (.ref a) f b) Q E s:=by
 obtain⟨o,vs,ho,hc,hd,hx,hu⟩:=iZ I.hok e;obtain⟨mA,ns,r,_⟩:=r8 I.hok ed;obtain⟨u,hu,ru⟩:=eK.some_of (v:=v) (o:=mA f) (by rw[<-l];exact r f);obtain⟨od,Np,hl⟩:=lU ns;have J:InstAt s.heap a o C (some od):=⟨ho,hc,by unfold notCls;rw[hd],by rw[hx];exact Np⟩;obtain⟨cd,F3,hh,_⟩:=k.cd;exact yf I.kIn k.ek J (findObj_own (by unfold hasDictIn;rw[F3];exact hh) n rfl (by rw[hl,hu])) (mD ru) (h u _ (I.tok _) ru)
theorem oo {y:V}{u:Value}{Q:Unit->Shared->Prop}(I:Inv X pins σ H s)(e:H a=some (oX a (.ref C)))(k:DM X.K C)(n:bz X.K C f)(ry:aE y u)
 (h:∀dx s',H dx=none->dx≠a->Inv X pins σ (upd (upd H dx (cL dx [(f,y)])) a (dR a (.ref C) dx true)) s'->Q () s'):wpAny (model X.prog X.w) A (setAttr (.ref a) f u) Q E s:=by
 obtain⟨o,vs,ho,hc,hd,hx,hu⟩:=yc I.hok e;refine wD I.kIn k ho hc hd hx n λh' n2 Gp hk=>?_;have FX:s.heap.objs.size≠a:=λz=>absurd (Heap.lt_size ho) (by rw[z];exact Nat.lt_irrefl _);have SM:H s.heap.objs.size=none:=I.hok.fresh (Nat.le_refl _);refine h _ _ SM FX ?_;obtain⟨oc,XI,SS,FA⟩:=o;dsimp only at hc hd hx;subst hc hd hx;have m1:(h'.update a λ_=>⟨.ref C,none,.fields vs,FA⟩).get? a=some ⟨.ref C,none,.fields vs,FA⟩:=Heap.get?_update_self _ Gp rfl;have m2:∀b,b≠a->(h'.update a λ_=>⟨.ref C,none,.fields vs,FA⟩).get? b=h'.get? b:=λb hb=>Heap.get?_update_ne _ _ _ _ hb
 have nsm:(h'.update a λ_=>⟨.ref C,none,.fields vs,FA⟩).Ns1 s.heap.objs.size (λy=>if y=f then some u else none):=by
  obtain⟨o2,es,ep,e2,rest⟩:=n2;exact⟨o2,es,ep,(m2 _ FX).trans e2,rest⟩
 have rel:∀g,eK ([(f,y)].lookup g) (if g=f then some u else none):=λg=>by
  by_cases q:g=f
  ·rw[if_pos q,q];simp only[List.lookup,beq_self_eq_true];exact ry
  ·rw[if_neg q]
   have:(g==f)=false:=by simpa using q
   simp only[List.lookup,this];exact True.intro
 have wi:Within (λg=>if g=f then some u else none) ([(f,y)].map (·.1)):=λg hg=>by
  by_cases q:g=f
  ·rw[q];simp
  ·exact absurd (if_neg q) hg
 have I1:=I.laid (a:=s.heap.objs.size) (o:=cL s.heap.objs.size [(f,y)]) (h':=h'.update a λ_=>⟨.ref C,none,.fields vs,FA⟩) (t':=s.toks+2) (λb z q=>by
  by_cases hb:b=a
  ·subst hb;rw[ho] at q
   cases q
   exact m1
  ·exact(m2 b hb).trans (hk b z hb q)) (Nat.le_refl _) (se nsm rel wi)
 exact I1.write (x:=a) (e:=a) (by rw[ai (Ne.symm FX),e];exact True.intro) (.inl rfl) (λb z hb q=>(m2 b hb).symm.trans q) ⟨_,Gp⟩ (zf Gp rfl rfl rfl λ_=>hu)
theorem nQ {y:V}{u:Value}{Q:Unit->Shared->Prop}(I:Inv X pins σ H s)(e:H a=some (dR a (.ref C) dx fr))(ed:H dx=some (cL dx fs))(k:DM X.K C)(n:bz X.K C f)(hl:fs.length<1000)(ry:aE y u)
 (h:∀s',Inv X pins σ (upd H dx (cL dx (bt f y fs))) s'->Q () s'):wpAny (model X.prog X.w) A (setAttr (.ref a) f u) Q E s:=by
 obtain⟨o,vs,ho,hc,hd,hx,hu⟩:=iZ I.hok e;obtain⟨mA,ns,r,wi⟩:=r8 I.hok ed
 have hz:(fs.map (·.1)).length<=sizeLine:=by rw[List.length_map,sizeLine_eq];omega
 refine xA I.kIn k ho hc hd hx ns n wi hz λh' n2 sb=>h _ ?_;have hd2:∃o,h'.get? dx=some o:=let⟨o,_,_,e',_⟩:=n2;⟨o,e'⟩;refine I.write (x:=dx) (e:=dx) (by rw[ed];exact True.intro) (.inl rfl) (λb q hb z=>(sb.2 b hb).trans z) hd2 (se n2 (λg=>?_) λg hg=>?_)
 ·rw[gB]
  by_cases q:g=f
  ·rw[if_pos q,if_pos q];exact ry
  ·rw[if_neg q,if_neg q];exact r g
 ·by_cases q:g=f
  ·rw[q];exact(fL f y fs).1
  ·refine(fL f y fs).2 g (wi g λz=>hg ?_);rw[if_neg q];exact z
end
def Dq (K:Frag)(ta:TE)(f:Str):TE:=λσ H Q=>ta σ H λx H1=>∃a C dx fr fs v,x=.ref a/\H1 a=some (dR a (.ref C) dx fr)/\H1 dx=some (cL dx fs)/\DM K C/\bz K C f/\fs.lookup f=some v/\Q v H1
def Bi (K:Frag)(ta tv:TE)(f:Str):TS:=λD σ H=>tv σ H λy H1=>ta σ H1 λx H2=>∃a C,x=.ref a/\H2 a=some (oX a (.ref C))/\DM K C/\bz K C f/\∀dx,H2 dx=none->dx≠a->D.nx σ (upd (upd H2 dx (cL dx [(f,y)])) a (dR a (.ref C) dx true))
def Ad (K:Frag)(ta tv:TE)(f:Str):TS:=λD σ H=>tv σ H λy H1=>ta σ H1 λx H2=>∃a C dx fr fs,x=.ref a/\H2 a=some (dR a (.ref C) dx fr)/\H2 dx=some (cL dx fs)/\DM K C/\bz K C f/\fs.length<1000/\D.nx σ (upd H2 dx (cL dx (bt f y fs)))
section
variable {X:Cx}{o e value:Expr}{f:Str}{pos pos':Pos}{ta tv:TE}
theorem rO (he:PE X e ta)(hb:attributeBase e f X.env (eval e X.env)=eval e X.env):PE X (.Attribute e f pos) (Dq X.K ta f):=by
 intro pins s σ H Q I h;refine sm hb (bN (he pins s σ H _ I h) λu s1 z'=>?_);obtain⟨x,H1,I1,rx,a,C,dx,fr,fs,v,ex,ea,ed,k,n,l,q⟩:=z';subst ex
 cases(show u=Value.ref a from rx)
 exact pD I1 ea ed k n l λu' s2 I2 ru=>⟨v,H1,I2,ru,q⟩
theorem u9 (ha:PE X o ta)(hv:PE X value tv)(hs:swapsWith value (some (.Attribute o f pos')) pos.line X.env=pure false):PS X (.Assign [.Attribute o f pos'] value pos) (Bi X.K ta tv f):=by
 intro pins s σ H D I h;refine plainObj_wpAny_Assign_Attribute (bN (hv pins s σ H _ I h) λu s1 ⟨y,H1,I1,ry,q⟩=>bN (ha pins s1 σ H1 _ I1 q) λov s2 z'=>?_) hs;obtain⟨x,H2,I2,rx,a,C,ex,ea,k,n,q2⟩:=z';subst ex
 cases(show ov=Value.ref a from rx)
 exact oo I2 ea k n ry λdx s3 hn ne I3=>⟨σ,_,I3,q2 dx hn ne⟩
theorem vg (ha:PE X o ta)(hv:PE X value tv)(hs:swapsWith value (some (.Attribute o f pos')) pos.line X.env=pure false):PS X (.Assign [.Attribute o f pos'] value pos) (Ad X.K ta tv f):=by
 intro pins s σ H D I h;refine plainObj_wpAny_Assign_Attribute (bN (hv pins s σ H _ I h) λu s1 ⟨y,H1,I1,ry,q⟩=>bN (ha pins s1 σ H1 _ I1 q) λov s2 z'=>?_) hs;obtain⟨x,H2,I2,rx,a,C,dx,fr,fs,ex,ea,ed,k,n,hl,q2⟩:=z';subst ex
 cases(show ov=Value.ref a from rx)
 exact nQ I2 ea ed k n hl ry λs3 I3=>⟨σ,_,I3,q2⟩
theorem n8:cA X (.builtin "isinstance") (λxs H Q=>∃a C dx fr c cv b,xs=[.ref a,c]/\AW c cv/\H a=some (dR a (.ref C) dx fr)/\zv X.K C/\kitOne X.K (.ref C) cv=some b/\Q (.bl b) H):=by
 intro pins s σ H xs us Q I r h;obtain⟨a,C,dx,fr,c,cv,b,rfl,hc,ea,k,e,q⟩:=h
 cases r with
 |cons r1 r2 =>
  cases r2 with
  |cons r2 r3 =>
   cases r3
   rename_i u uc
   have SH:uc=cv:=by
    cases c with
    |ty n=>cases(show uc=Value.type n from r2);exact hc.symm
    |ref a=>cases(show uc=Value.ref a from r2);exact hc.symm
    |_=>exact hc.elim
   subst SH
   cases(show u=Value.ref a from r1)
   obtain⟨o,vs,h1,h2,_⟩:=iZ I.hok ea;exact kia_one (o6 k) I.kIn ⟨o,h1,h2⟩ e (λz=>nomatch z) λtk=>⟨.bl b,H,I.tok tk,rfl,q⟩
end
def fR (K:Frag)(C:Addr):Prop:=∃oC,K.lookup C=some oC/\oC.cls=.type "type"
section
variable {M:Model}{A:Around}{E:vy}{K:Frag}{s:AQ}{env:Env}
theorem ur {x:Sem Value}{Q:Flow->Shared->Prop}(hh:A.handled=none)
 (h:wpAny M A x (λv s₁=>∃e oe C vs,v=.ref e/\K.In s₁.heap/\zv K C/\fR K C/\s₁.heap.get? e=some oe/\oe.cls=.ref C/\oe.data=.fields vs/\dZ vs/\E (.ref e) s₁) E s):
 wpAny M A (raiseStmt env (some x) none) Q E s:=by
 unfold raiseStmt;refine wpAny_bind (wpAny_mono h (λv s₁ h₁=>?_) λ_ _ x=>x);obtain⟨e,oe,C,vs,rfl,X,k,⟨oC,lC,cC⟩,he,hc,hd,⟨t,rfl⟩,hE⟩:=h₁;obtain⟨hp,g,d,tk,os⟩:=s₁;obtain⟨oc,od,SS,FA⟩:=oe;dsimp only at hc hd;subst hc hd;have L0:Looks M hp (typeOf (.ref e)) (.ref C):=(Looks.ld he).andThen .now;have L1:=looks_mroIn (M:=M) X k.be;have hC:hp.get? C=some oC:=X _ _ lC
 repeat (first|(with_reducible refine wpAny_loadPart_at he ?_)|(with_reducible refine wpAny_loadPart_at hC ?_;rw[cC])|(with_reducible refine Looks.at L0 ?_)|(with_reducible refine Looks.at L1 ?_)|wp_step)
 exact wpAny_raiseNew_none hh hE
end
section
variable {X:Cx}{pins pins':List (Addr×Obj)}{σ:St}{H:Hp}{s:AQ}{XE:vy}{a dx C:Addr}
def yD (K:Frag)(R:St->Addr->Addr->Addr->Hp->Prop)(te:TE):TS:=λ_ σ H=>te σ H λv H1=>∃a C dx,v=.ref a/\H1 a=some (dR a (.ref C) dx true)/\zv K C/\fR K C/\R σ a C dx H1
theorem fM {R:St->Addr->Addr->Addr->Hp->Prop}{e:Expr}{te:TE}{pos:Pos}(hc:X.calm=true)(hR:∀pins σ H s a C dx,Inv X pins σ H s->H a=some (dR a (.ref C) dx true)->R σ a C dx H->X.xe (.ref a) s)(he:PE X e te):
 PS X (.Raise (some e) none pos) (yD X.K R te):=by
 intro pins s σ H D I h;rw[arm_exec_Raise];refine wpAny_bind (wpAny_standAt (ur (K:=X.K) (I.ok.hd hc) (wpAny_bind (bN (he pins s σ H _ I h) λu s1 ⟨v,H1,I1,rv,a,C,dx,ev,ea,k,tc,r⟩=>wpAny_bind (wpAny_standAt (wpAny_pure ?_))))));subst ev
 cases(show u=Value.ref a from rv)
 obtain⟨oe,vs,h1,h2,h3,_,h5⟩:=iZ I1.hok ea;exact⟨a,oe,C,vs,rfl,I1.kIn,k,tc,h1,h2,h3,h5 rfl,hR pins σ H1 s1 a C dx I1 ea r⟩
end
end L2
namespace Srt
open PySem PySem.W PyProof.Rows L2
section
variable {α:Type}
def lD (k:Ky)(x:α):List (Ky×α)->List (Ky×α)
 |[]=>[(k,x)]
 |(j,y):: r=>if lq k j=true then(k,x):: (j,y):: r else(j,y):: lD k x r
def fj:List (Ky×α)->List (Ky×α)
 |[]=>[]
 |(k,x):: r=>lD k x (fj r)
theorem jc (k:Ky)(x:α):∀l:List (Ky×α),(lD k x l).Perm ((k,x):: l)
 |[]=>.refl _
 |(j,y):: r=>by
  unfold lD
  split
  ·exact .refl _
  ·exact((jc k x r).cons _).trans (.swap _ _ _)
theorem eE:∀l:List (Ky×α),(fj l).Perm l
 |[]=>.refl _
 |(k,x):: r=>(jc k x _).trans ((eE r).cons _)
def Az (l:List (Ky×α)):Prop:=l.Pairwise λa b=>lq a.1 b.1=true
theorem sg {k:Ky}{x:α}:∀{l:List (Ky×α)},Az l->(∀p∈l,p.1≠k)->Az (lD k x l)
 |[],_,_=>List.pairwise_singleton _ _
 |(j,y):: r,h,hn=>by
  obtain⟨h1,h2⟩:=List.pairwise_cons.mp h;unfold lD
  by_cases e:lq k j=true
  ·rw[if_pos e];refine List.pairwise_cons.mpr ⟨λp hp=>?_,h⟩
   rcases List.mem_cons.mp hp with rfl|hp
   ·exact e
   ·exact jh e (h1 p hp)
  ·rw[if_neg e];have jk:lq j k=true:=(ja (hn _ List.mem_cons_self)).resolve_right e;refine List.pairwise_cons.mpr ⟨λp hp=>?_,sg h2 λp hp=>hn p (List.mem_cons_of_mem _ hp)⟩
   rcases List.mem_cons.mp ((jc k x r).mem_iff.mp hp) with rfl|hp
   ·exact jk
   ·exact h1 p hp
theorem oR:∀{l:List (Ky×α)},(l.map (·.1)).Nodup->Az (fj l)
 |[],_=>.nil
 |(k,x):: r,h=>by
  obtain⟨h1,h2⟩:=List.nodup_cons.mp h;exact sg (oR h2) λp hp z=>h1 (z▸List.mem_map_of_mem (f:=(·.1)) ((eE r).mem_iff.mp hp))
theorem lW:∀{l1 l2:List (Ky×α)},Az l1->Az l2->l1.Perm l2->l1=l2
 |[],l2,_,_,p=>(List.nil_perm.mp p).symm
 |a::l1,[],_,_,p=>(List.nil_perm.mp p.symm)
 |a::l1,b::l2,h1,h2,p=>by
  obtain⟨u1,v1⟩:=List.pairwise_cons.mp h1;obtain⟨u2,v2⟩:=List.pairwise_cons.mp h2
  have e:a=b:=by
   rcases List.mem_cons.mp (p.mem_iff.mp List.mem_cons_self) with z|z
   ·exact z
   ·rcases List.mem_cons.mp (p.mem_iff.mpr (List.mem_cons_self (a:=b) (l:=l2))) with w|w
    ·exact w.symm
    ·have c1:=u2 a z;have c2:=u1 b w;have c3:=jh c1 c2;rw[kc] at c3
     cases c3
  subst e;rw[lW v1 v2 (List.Perm.cons_inv p)]
theorem xy {l1 l2:List (Ky×α)}(nd:(l2.map (·.1)).Nodup)(h:Az l1)(p:l1.Perm l2):l1=fj l2:=lW h (oR nd) (p.trans (eE l2).symm)
end
def CQ (xs:List V)(p:Array Nat):List V:=p.toList.map λi=>xs.getD i .non
theorem vI {xs:List V}{us:nZ}(rv:aG xs us){n:Nat}{r:Nat->Nat}{p:Array Nat}(P:Pm n r p)(hn:n<=xs.length):aG (CQ xs p) (iw us p):=by
 have key:∀l:List Nat,(∀i∈l,i<xs.length)->aG (l.map λi=>xs.getD i .non) (l.map λi=>us.getD i Value.none):=by
  intro l
  induction l with
  |nil=>intro _;exact .nil
  |cons i l ih =>
   intro h;have hi:=h i List.mem_cons_self;obtain⟨u,e,r⟩:=rv.get (i:=i) (x:=xs[i]) (by simp[hi]);refine .cons ?_ (ih λj hj=>h j (List.mem_cons_of_mem _ hj));show aE (xs.getD i .non) (us.getD i Value.none);rw[List.getD_eq_getElem?_getD,List.getD_eq_getElem?_getD,e,show xs[i]?=some xs[i] by simp[hi]];exact r
 refine key p.toList λi hi=>?_
 have z:i∈(List.range n):=by
  have pl:p.toList.Perm (List.range n):=by simpa using P.perm.toList
  exact pl.mem_iff.mp hi
 have:=List.mem_range.mp z;omega
theorem wN {xs:List V}{ks:List Ky}(hl:xs.length=ks.length)(nd:ks.Nodup){p:Array Nat}(P:Pm xs.length (rk ks) p)(U:Up (rk ks) p xs.length):CQ xs p=(fj (ks.zip xs)).map (·.2):=by
 have pl:p.toList.Perm (List.range xs.length):=by simpa using P.perm.toList
 have e1:(List.range xs.length).map (λi=>(cT ks i,xs.getD i V.non))=ks.zip xs:=by
  apply List.ext_getElem
  ·simp[hl]
  ·intro i h1 h2
   have hi:i<xs.length:=by simpa using h1
   have hk:i<ks.length:=by omega
   simp[cT,hi,hk]
 have z:p.toList.map (λi=>(cT ks i,xs.getD i V.non))=fj (ks.zip xs):=by
  refine xy ?_ ?_ ?_
  ·rw[List.map_fst_zip (by omega)];exact nd
  ·unfold Az;rw[List.pairwise_map];refine List.pairwise_iff_getElem.mpr λi j hi hj HP=>?_;have sz:=P.size;rw[Array.length_toList] at hi hj;have u:=U i j HP (by omega)
   have gi:p.getD i 0=p.toList[i]:=by simp[Array.getD,hi]
   have gj:p.getD j 0=p.toList[j]:=by simp[Array.getD,hj]
   rw[gi,gj] at u
   have bi:p.toList[i]<ks.length:=by rw[<-gi,<-hl];exact P.lt i (by omega)
   have bj:p.toList[j]<ks.length:=by rw[<-gj,<-hl];exact P.lt j (by omega)
   rw[<-wk bi bj];exact decide_eq_true u
  ·exact(pl.map _).trans (by rw[e1])
 rw[<-z,List.map_map];rfl
end Srt
namespace L2
open PySem PySem.Spec PyProof.Rows PySem.W
theorem kA:∀{ns:List Int}{us:nZ},aG (ns.map V.int) us->IntsAre us ns
 |[],us,r=>by cases r;exact .nil
 |n::ns,us,r=>by
  rw[List.map_cons] at r
  cases r with
  |cons h t =>
   obtain⟨k,rfl⟩:=(show ∃k,_=Value.int n k from h);exact .cons n k (kA t)
theorem vJ:∀{us:nZ}{ns:List Int},IntsAre us ns->aG (ns.map V.int) us
 |_,_,.nil=>.nil
 |_,_,.cons n t h=>.cons ⟨t,rfl⟩ (vJ h)
section
variable {X:Cx}
theorem qf:cA X (.builtin "sorted") (λxs H Q=>∃(l:Addr)(ns:List Int),xs=[.ref l]/\aV X.K H l (ns.map V.int)/\ns.length<64/\∀(D:Addr)(ms:List Int),H D=none->ms.Perm ns->ms.Pairwise (· <= ·)->Q (.ref D) (upd H D (.lst (ms.map V.int)))):=by
 intro pins s σ H xs us Q I r h;obtain⟨l,ns,rfl,hl,h64,q⟩:=h;obtain⟨u,rfl,ru⟩:=eQ r
 cases(show u=Value.ref l from ru)
 obtain⟨its,rv,pl,hz⟩:=I.list hl;have e1:=rv.length;rw[List.length_map] at e1;refine sorted_ints pl.isList (kA rv) (by omega) λout ms a1 a2 a3=>?_;obtain⟨c,hc⟩:=sortedAll_at s.heap its out
 have fr:s.heap.get? (s.heap.objs.size+1)=none:=by
  cases e:s.heap.get? (s.heap.objs.size+1) with
  |none=>rfl
  |some o=>exact absurd (Heap.lt_size e) (Nat.not_lt.mpr (Nat.le_succ _))
 have hlen:(ms.map V.int).length<=sizeLine:=by
  rw[List.length_map,a2.length_eq];exact Nat.le_trans (Nat.le_of_lt h64) (by decide)
 exact⟨.ref _,_,I.newObj (t':=s.toks) (o:=.lst (ms.map V.int)) (λ_ _ e=>sortedAll_old e) fr ⟨hlen,out.toList,c,vJ a1,by simpa using hc⟩,rfl,q _ ms (I.abB fr) a2 a3⟩
end
def Bk (K:Frag):List V->Hp->VK->Prop:=λxs H Q=>∃p ys,xs=[.ref p]/\((aV K H p ys/\∀l,H l=none->Q (.ref l) (upd H l (.tup ys)))\/(bV K H p ys/\Q (.ref p) H))
def tu (K:Frag):List V->Hp->VK->Prop:=λxs H Q=>∃p ys,xs=[.ref p]/\(aV K H p ys\/bV K H p ys)/\∀l,H l=none->Q (.ref l) (upd H l (.lst ys))
def Bf (K:Frag):List V->Hp->VK->Prop:=λxs H Q=>∃(l:Addr)(ns:List Int),xs=[.ref l]/\aV K H l (ns.map V.int)/\ns.length<64/\∀(D:Addr)(ms:List Int),H D=none->ms.Perm ns->ms.Pairwise (· <= ·)->Q (.ref D) (upd H D (.lst (ms.map V.int)))
section
variable {X:Cx}
theorem iH {K:Frag}(hK:X.K=K):cA X (.type "tuple") (Bk K):=by subst hK;exact lG
theorem mE {K:Frag}(hK:X.K=K):cA X (.type "list") (tu K):=by subst hK;exact ck
theorem yi {K:Frag}(hK:X.K=K):cA X (.builtin "sorted") (Bf K):=by subst hK;exact qf
variable {tg l:Expr}{tl:TE}
end
end L2
namespace HT
open PySem PyProof.Rows
section
variable {prog:u6}{w:World}{A:Around}{E:vy}{s:AQ}
theorem ip {t sl:Addr}{items:tN}{vl vu:Value}{lo hi:Option Int}{Q:vy}(ht:IsTup s.heap t items)(hs:s.heap.IsSliceOf sl vl vu .none)(pl:IsPart vl lo)(pu:IsPart vu hi)
 (h0:dn items.size 0 lo=0)(h1:dn items.size items.size hi=items.size)(h:Q (.ref t) s):wpAny (model prog w) A (getItem (.ref t) (.ref sl)) Q E s:=by
 obtain⟨os,K8,Q3,MZ⟩:=id hs;have Sg:s.TypeIs (.ref sl) "slice":=⟨os,K8,Q3⟩;unfold getItem
 try with_reducible refine wpAny_holding ?_
 first|refine wpAny_bind (wpAny_pure ?_)|skip
 refine wpAny_bind (wpAny_sequenceKey ht.typeIs (by decide) ?_)
 refine wpAny_bind (wpAny_callSpecial?_slot (name:=Str.ofString "__getitem__") ht.typeIs PyProof.Rows.slot_tuple_getitem
  (wpAny_call_entry PyProof.Rows.slot_tuple_getitem ht.typeIs entry_tuple_getitem ?_ (args_tuple_getitem _ _)))
 show wpAny _ _ (Builtin.Tuple.tupleItemsOf (.ref t)>>=_) _ _ s;refine wpAny_bind (tupleItemsOf_ ht ?_);refine wpAny_bind (wpAny_typeOf Sg ?_);rw[if_pos (by decide)];refine wpAny_bind (fV hs pl pu ?_);rw[h0,h1]
 have Hx:((((0:Nat):Int)==0&&(1:Int)==1&&(items.size-0)==items.size)=true):=by simp
 dsimp only;rw[if_pos Hx];show wpAny _ _ (Builtin.Tuple.tupleIsExact (.ref t)>>=_) _ _ s;refine wpAny_bind ?_;unfold Builtin.Tuple.tupleIsExact;refine wpAny_bind (wpAny_typeOf ht.typeIs (wpAny_pure ?_));rw[if_pos (by decide)];refine wpAny_bind (wpAny_rule ?_);exact wpAny_pure ⟨_,rfl,wpAny_pure h⟩
end
end HT
namespace L2
open PySem PySem.Spec PyProof.Rows PySem.W
variable {X:Cx}
def Ei (K:Frag):V->Option Int->Option Int->Hp->VK->Prop:=λx lo hi H Q=>∃a xs,x=.ref a/\bV K H a xs/\(jm xs lo hi=xs->Q (.ref a) H)/\∀p,H p=none->Q (.ref p) (upd H p (.tup (jm xs lo hi)))
theorem zr:Dt X (Ei X.K):=by
 intro pins s σ H x v vl vu lo hi sl Q I rx hs pl pu h;obtain⟨a,xs,rfl,hx,h1,h2⟩:=h
 by_cases hw:HT.dn xs.length 0 lo=0/\HT.dn xs.length xs.length hi=xs.length
 ·cases rx
  obtain⟨its,r,ht,hz⟩:=I.tuple hx
  have hlen:its.toArray.size=xs.length:=by rw[List.size_toArray];exact r.length.symm
  refine⟨"tuple",_,PyProof.Rows.slot_tuple_getitem.lookup,ht.typeIs,?_⟩;refine HT.ip ht hs pl pu (by rw[hlen];exact hw.1) (by rw[hlen];exact hw.2) ?_;refine⟨.ref a,H,I,rfl,h1 ?_⟩;unfold jm;rw[hw.1,hw.2];simp
 ·exact ach pins s σ H (.ref a) v vl vu lo hi sl Q I rx hs pl pu ⟨a,xs,rfl,hx,hw,h2⟩
section
variable {X:Cx}
theorem xk {H:Hp}{p:Addr}{o:HO}(h:H p=none):ay H (upd H p o):=λb u e=>by rw[ai (au e h)];exact e
def acb:R2:=λx y H Q=>∃a b xs ys,x=.ref a/\y=.ref b/\H a=some (.lst xs)/\H b=some (.lst ys)/\xs.length+ys.length<=sizeLine/\∀p H',H p=none->ay H H'->H' p=some (.lst (xs++ys))->Q (.ref p) H'
theorem iY:gy X (binaryOp .Add) acb:=by
 intro pins s σ H x y v u Q I rx ry h;obtain⟨a,b,xs,ys,rfl,rfl,ha,hb,hz,q⟩:=h;exact z9 pins s σ H _ _ v u Q I rx ry ⟨a,b,xs,ys,rfl,rfl,ha,hb,hz,λp hp=>q p _ hp (xk hp) af⟩
end
end L2
namespace K80
open PySem L2 PySem.W Nm
theorem tE {xs:List Int}{w:Int}(h0:0<=w)(h1:w<xs.length):∃x∈xs,ml (xs.map V.int) w=some (.int x):=by
 have hl:w.toNat<xs.length:=by omega
 refine⟨xs[w.toNat],List.getElem_mem hl,?_⟩;have z:=nV (xs:=xs.map V.int) (j:=w.toNat) (v:=V.int xs[w.toNat]) (by rw[List.getElem?_map];simp[hl])
 have e:((w.toNat:Nat):Int)=w:=by omega
 rw[e] at z;exact z
variable {P:u6}{w:World}{K:PySem.W.Frag}{mg:wg}{base:Heap}
abbrev Ak:List Int:=[0,0,0,0,0,2,3,5,7,11,13,17,19,23,29,31,37,41,43,47,53,59,61,67,71,73,79,83,89]
theorem pM:yI ["_law_pool_here","_law_some"] oV (aq wt):=dm (by decide +kernel)
set_option maxHeartbeats 1000000 in
theorem uk {f ft:Addr}{fd F0:xR}(F:u3 K "_law_prime" "_law_prime" wt f fd)(FT:E6 P w K mg base (aN P w) 1 ft F0 yy DE)(bT:L2.av K F0 yy [])(mT:mg "_law_take"=some (.ref ft))(kT:keepIn K (.ref ft)=true):
 E6 P w K mg base (aN P w) 2 f fd oV qZ:=by
 refine F.okN pM (λvs H Q E h=>?_) (λFf A outer s H vs Q E hr h=>?_)
 ·obtain⟨r,rfl,_⟩:=h;rfl
 ·obtain⟨r,rfl,⟨l,x,hR,x0,x1⟩,q⟩:=h
  refine⟨_,@aj _ _ _ _ _ (@aC _ _ 1 _ _ _ _ pM.nd rfl (Or.inl rfl) (@nI _ _ _ Ak rfl (by decide)) rfl (Or.inl rfl))
   (@ar _ _ _ (@az _ _ _ _ (@a9 _ _ _ _ _ _ _ b7 (@aO _ _ _ _ _ _ _ _ iY (pv 1) (@nI _ _ _ [97] rfl (by decide))) (ax FT hr (by rfl) mT kT bT .nil ae (@ah _ _ _ _ _ (pv 0) (@ah _ _ _ _ _ ao ag rfl) rfl)) (λ_ _=>rfl)))),?_⟩
  intro m hm;have S1:=ak (o:=.lst (Ak.map V.int)) hm;have e1:upd H m (.lst (Ak.map V.int)) m=some (.lst (Ak.map V.int)):=af;generalize upd H m _=H1 at S1 e1 |-;refine⟨_,rfl,λm2 Ll=>?_⟩;have S2:=ak (o:=.lst ([97].map V.int)) Ll;refine⟨m,m2,_,_,rfl,rfl,S2 _ _ e1,af,by decide,λm3 H3 _ S3 e3=>?_⟩;have S:=S1.trans (S2.trans S3);refine⟨_,rfl,r,l,x,30,rfl,S _ _ hR,x0,x1,by decide,by decide,λz l2 r2 z0 z1 g0 g1=>?_⟩;obtain⟨y,hy,Ji⟩:=tE (xs:=Ak++[97]) z0 (by have:(Ak++[97]).length=30:=rfl;omega);have nm:m3≠r:=xf e3 (S _ _ hR) (by intro z;cases z)
  rw[List.map_append] at Ji
  refine⟨m3,_,z,_,rfl,rfl,aV.of (by rw[ai nm];exact e3),Ji,?_⟩
  have all:∀y∈Ak++[97],y=0\/y∈DY:=by decide
  exact q y _ (all y hy) ⟨l2,r2,af,g0,g1⟩ ((SameBut.of S).trans SameBut.upd)
abbrev mr:Stmt:=aD (aR 20) 11
variable {H:Hp}{x:V}
theorem Th.same {H':Hp}{T:String}(h:Th H x T)(s:ay H H'):Th H' x T:=by
 cases h with
 |non=>exact .non
 |bl b=>exact .bl b
 |int i=>exact .int i
 |str x=>exact .str x
 |lst e=>exact .lst (s _ _ e)
 |tup e=>exact .tup (s _ _ e)
 |dK e=>exact .dK (s _ _ e)
inductive TX (H:Hp):V->Option (V×V)->Prop where
 |no {x:V}{T:String}:Th H x T->T ≠ "tuple"->TX H x none
 |odd {a:Addr}{xs:List V}:H a=some (.tup xs)->xs.length≠2->TX H (.ref a) none
 |two {a:Addr}{y z:V}{Ty Tz:String}:H a=some (.tup [y,z])->Th H y Ty->Th H z Tz->TX H (.ref a) (some (y,z))
theorem TX.same {H':Hp}{o:Option (V×V)}(h:TX H x o)(s:ay H H'):TX H' x o:=by
 cases h with
 |no th n=>exact .no (th.same s) n
 |odd e n=>exact .odd (s _ _ e) n
 |two e h1 h2=>exact .two (s _ _ e) (h1.same s) (h2.same s)
def vo (p:Int):Option (V×V)->Bool
 |some (.int t,.int b)=>if p=0 then decide (1<=b)&&decide (Int.gcd t b=1) else decide (b=1)&&(decide (0<=t)&&decide (t<p))
 |_=>false
theorem Th.isTup {K:Frag}{T:String}(h:Th H x T):kitOne K (.type T) (.type "tuple")=some (decide (T="tuple")):=by cases h <;> rfl
def kg (C:Addr):Sp:=λvs H Q _=>∃(s dx:Addr)(p:Int)(x:V)(o:Option (V×V)),vs=[.ref s,x]/\H s=some (.ins C dx (cK p))/\FP p/\TX H x o/\Q (.bl (vo p o)) H
theorem iJ:yI ["self","thing","top","bottom"] CG (aq mr):=dm (by decide +kernel)
theorem pe {f C fg fw:Addr}{fd HE GF:xR}{tF:Tok}(F:u3 K "is_number" "Field.is_number" mr f fd)(c:zZ K mg C)(mF:mg "FRACTIONS"=some (.int 0 tF))(n:lB mg)(mT:mg "tuple"=none)(mN:mg "len"=none)
 (FG:E6 P w K mg base (aN P w) 1 fg HE qF vf)(bG:L2.av K HE qF [])(mG:mg "common_divisor"=some (.ref fg))(kG:keepIn K (.ref fg)=true)
 (FW:E6 P w K mg base (aN P w) 1 fw GF pU C1)(bW:L2.av K GF pU [])(mW:mg "is_whole"=some (.ref fw))(kW:keepIn K (.ref fw)=true):E6 P w K mg base (aN P w) 2 f fd CG (kg C):=by
 refine F.okN iJ (λvs H Q E h=>?_) (λFf A outer s H vs Q E hr h=>?_)
 ·obtain⟨s,dx,p,x,o,rfl,_⟩:=h;rfl
 ·obtain⟨s,dx,p,x,o,rfl,hs,hp,tx,q⟩:=h
  refine⟨_,aj (bq (PW.pt (iz (cG (cz (aF bu (by rfl) n.isi (by rfl) (ah (pv 1) (ah (dN (by rfl) mT (by rfl) (show aE (.ty "tuple") (.type "tuple") from rfl)) ag)))))
   (gh (aL kn (aF bx (by rfl) mN PySem.boot_len (ah (pv 1) ag)) ao (aB _))))) (ar (az gr)) aM)
   (aj (nO (pv 1) (fJ rfl (bo (aI (i:=2) iJ.nd rfl (Or.inl rfl)) (bo (aI (i:=3) iJ.nd rfl (Or.inl rfl)) dB))))
   (aj (bq (PW.pt (iz (cG (cz (ax FW hr (by rfl) mW kW bW .nil ae (ah (pv 2) ag)))) (gh (cG (cz (ax FW hr (by rfl) mW kW bW .nil ae (ah (pv 3) ag))))))) (ar (az gr)) aM)
   (aj (bq (aL cq (aW (pv 0) rfl) (cD (by rfl) mF (show aE (.int 0) (.int 0 tF) from⟨_,rfl⟩)) (aB _))
    (ar (az (cp (aZ abp (pv 3) ao (aB _)) (dJ (aZ cq (ax FG hr (by rfl) mG kG bG .nil ae (ah (pv 2) (ah (pv 3) ag))) ao (aB _)))))) aM)
   (ar (az (cp (aZ cq (pv 3) ao (aB _)) (dJ (pz oM i3 ao (pv 2) (aW (pv 0) rfl))))))))),?_⟩
  cases tx with
  |@no x T th ne =>
   refine⟨_,rfl,x,.ty "tuple",_,_,_,rfl,rfl,th.ty,th.isTup,_,rfl,?_⟩;rw[decide_eq_false ne];exact bw (bw q)
  |@odd a xs ha hl =>
   refine⟨_,rfl,.ref a,.ty "tuple",_,_,_,rfl,rfl,.of (.tup ha),rfl,_,rfl,bH ?_⟩;refine⟨_,rfl,a,_,rfl,.inr (bV.of ha),rfl,_,rfl,?_⟩;refine c7 (λ_=>q) (λh=>absurd (by simp;omega) h)
  |@two a y z Ty Tz ha hy hz =>
   refine⟨_,rfl,.ref a,.ty "tuple",_,_,_,rfl,rfl,.of (.tup ha),rfl,_,rfl,bH ?_⟩;refine⟨_,rfl,a,_,rfl,.inr (bV.of ha),rfl,_,rfl,?_⟩;refine c7 (λh=>absurd h (by simp)) (λ_=>?_);refine⟨_,rfl,a,_,rfl,bV.of ha,rfl,_,_,rfl,_,_,rfl,rfl,?_⟩;refine⟨_,rfl,y,Ty,rfl,hy,_,rfl,?_⟩
   cases e1:eC y with
   |false =>
    have z1:vo p (some (y,z))=false:=by cases y <;> first|rfl|cases e1
    rw[z1] at q;exact bw (bw q)
   |true =>
    refine bH ⟨_,rfl,z,Tz,rfl,hz,_,rfl,?_⟩
    cases e2:eC z with
    |false =>
     have z1:vo p (some (y,z))=false:=by cases y <;> cases z <;> first|rfl|cases e2
     rw[z1] at q;exact bw q
    |true =>
     have z1:∃t,y=.int t:=by cases y <;> first|exact⟨_,rfl⟩|cases e1
     have z2:∃b,z=.int b:=by cases z <;> first|exact⟨_,rfl⟩|cases e2
     obtain⟨t,rfl⟩:=z1;obtain⟨b,rfl⟩:=z2;refine bH ?_;refine⟨_,rfl,s,C,dx,_,_,rfl,hs,c.cl,c.nP,rfl,rfl,_,rfl,?_⟩;refine c7 (λh=>?_) (λh=>?_)
     ·have F2:p=0:=by simpa using h
      have z1:vo p (some (.int t,.int b))=(decide (1<=b)&&decide (Int.gcd t b=1)):=by simp[vo,F2]
      rw[z1] at q;refine⟨_,rfl,_,_,rfl,rfl,_,rfl,?_⟩;refine c7 (λh1=>?_) (λh1=>?_)
      ·refine⟨_,rfl,_,rfl,t,b,rfl,rfl,?_⟩
       have e3:decide (V.int (eA t b)=V.int 1)=decide (Int.gcd t b=1):=by
        unfold eA
        by_cases g:Int.gcd t b=1
        ·simp[g]
        ·have:¬((Int.gcd t b:Nat):Int)=1:=by omega
         simp[g,this]
       have Jy:decide (1<=b)=true:=h1;rw[Jy,Bool.true_and,<-e3] at q;exact q
      ·have Jy:decide (1<=b)=false:=by simpa using h1
       rw[Jy,Bool.false_and] at q;exact q
     ·have F2:p≠0:=by simpa using h
      have z1:vo p (some (.int t,.int b))=(decide (b=1)&&(decide (0<=t)&&decide (t<p))):=by simp[vo,F2]
      rw[z1] at q;refine⟨_,rfl,rfl,_,rfl,?_⟩;refine c7 (λh1=>?_) (λh1=>?_)
      ·have Jy:decide (b=1)=true:=by simpa using h1
       rw[Jy,Bool.true_and] at q;refine⟨_,rfl,_,_,rfl,rfl,_,rfl,?_⟩;refine c7 (λh2=>?_) (λh2=>?_)
       ·refine⟨_,rfl,s,C,dx,_,_,rfl,hs,c.cl,c.nP,rfl,_,_,rfl,rfl,?_⟩;have Ms:decide (0<=t)=true:=h2;rw[Ms,Bool.true_and] at q;exact q
       ·have Ms:decide (0<=t)=false:=by simpa using h2
        rw[Ms,Bool.false_and] at q;exact q
      ·have Jy:decide (b=1)=false:=by simpa using h1
       rw[Jy,Bool.false_and] at q;exact q
end K80
namespace Jz
open PySem PySem.W PyProof.Rows
variable {i:Nat}
section
variable {prog:u6}{w:World}{A:Around}{E:vy}{s:AQ}{d it:Addr}{es:Array DictEntry}{ep:Nat}{o:Obj}
structure Raw (h:Heap)(d:Addr)(es:Array DictEntry)(ep:Nat):Prop where
 ex:∃o,h.get? d=some o/\o.ExactDict/\o.data=.dict es ep
theorem Raw.ty (r:Raw s.heap d es ep):s.TypeIs (.ref d) "dict":=let⟨o,h,x,_⟩:=r.ex;⟨o,h,x.1⟩
theorem Raw.keep {h h':Heap}(r:Raw h d es ep)(k:∀o,h.get? d=some o->h'.get? d=some o):Raw h' d es ep:=let⟨o,h1,x⟩:=r.ex;⟨o,k o h1,x⟩
theorem ql {Q:vy}(r:Raw s.heap d es ep)(hd:(d==sysModules)=false)(h:Q (.ref s.heap.objs.size) {s with heap:=s.heap.push {cls:=.type "dict_items",data:=.fields #[.ref d]} }):
 wpAny (model prog w) A (call (.builtin "dict.items") [.ref d]) Q E s:=by
 refine wpAny_call_entry F.slot_dict_items r.ty F.entry_dict_items ?_ (F.args_dict_items_1 _);unfold Builtin.«dict.items» Builtin.Dict.noArgs;refine wpAny_bind (wpAny_bind (wpAny_notOrdered_dict r.ty (wpAny_pure ?_)));show wpAny _ _ (Builtin.Dict.showsAll d>>=_) _ _ s;unfold Builtin.Dict.showsAll;rw[if_neg (by rw[hd];exact Bool.false_ne_true)];exact wpAny_bind (wpAny_pure (wpAny_bind (wpAny_newObj_type (wpAny_pure ⟨_,rfl,h⟩))))
theorem qP {v:Addr}{Q:vy}(hv:s.heap.IsItemsView v d)(r:Raw s.heap d es ep)
 (hQ:Q (.ref s.heap.objs.size) {s with heap:=s.heap.push {cls:=.type "dict_itemiterator",data:=.fields #[.none,.bool false,.ref d,.int 0 0,.int es.size 0,.int ep 0,.none,.none]} }):wpAny (model prog w) A (pyIter (.ref v)) Q E s:=by
 obtain⟨ov,g1,g2,g3⟩:=id hv;obtain⟨o,h1,h2,h3⟩:=r.ex;refine wpAny_pyIter_slot hv.typeIs F.slot_dict_items_iter (wpAny_call_entry F.slot_dict_items_iter hv.typeIs F.entry_dict_items_iter ?_ (F.args_dict_items_iter_1 _));unfold Builtin.«dict_items.__iter__» Builtin.Dict_items.dictOf;refine wpAny_bind (wpAny_pure (wpAny_bind (wpAny_bind (wpAny_field g1 g3 (x:=.ref d) rfl (wpAny_pure (wpAny_bind ?_))))));unfold Builtin.Dict_items.newIterator;refine wpAny_bind (wpAny_dictEntries h1 h3 (wpAny_bind (wpAny_dictEpoch h1 h3 ?_)));simp only[show Builtin.Dict_items.ownsTuple "dict_itemiterator"=true from by decide,if_true];refine wpAny_newObj_type (wpAny_pure ⟨_,rfl,"dict_itemiterator",_,⟨_,Heap.get?_push_size _ rfl,rfl⟩,F.slot_dict_itemiterator_next.lookup,?_⟩) (by simp only[sizeOk,Builtin.Dict_items.ownedTupleFields,List.size_toArray,List.length_append,List.length_cons,List.length_nil,sizeLine_eq];omega);simpa[rawInt,Builtin.Dict_items.ownedTupleFields] using hQ
theorem rn {ok ov:Value}{Q:Option Value->Shared->Prop}(hit:IsItemIter s.heap it d i es.size ep ok ov)(r:Raw s.heap d es ep)(hi:i<es.size)
 (hQ:∀h',IsItemIterOut h' it d (i+1) es.size ep es[i].key es[i].val s.heap.objs.size->h'.get? s.heap.objs.size=some {cls:=.type "tuple",data:=.seq #[es[i].key,es[i].val]}->h'.objs.size=s.heap.objs.size+1 →
  (∀b o,b≠it->s.heap.get? b=some o->h'.get? b=some o)->Q (some (.ref s.heap.objs.size)) {s with heap:=h'}):wpAny (model prog w) A (pyNext (.ref it)) Q E s:=by
 obtain⟨hp,g,dr,tk,os⟩:=s;obtain⟨o,h1,h2,h3⟩:=r.ex;have hT:Shared.TypeIs ⟨hp,g,dr,tk,os⟩ (.ref it) "dict_itemiterator":=⟨_,hit,rfl⟩;unfold pyNext;refine wpAny_bind (wpAny_attempt (wpAny_callSpecial?_slot (name:=Str.ofString "__next__") hT F.slot_dict_itemiterator_next (wpAny_call_entry F.slot_dict_itemiterator_next hT F.entry_dict_itemiterator_next ?_ (F.args_dict_itemiterator_next_1 _))));refine wpAny_bind (wpAny_pure (wpAny_bind (wpAny_bind ?_)))
 first|refine wpAny_bind (wpAny_typeNameOfWhole_itemiter hT (wpAny_pure (wpAny_bind (wpAny_fieldsOf hit rfl ?_))))|refine wpAny_bind (wpAny_typeNameOf_itemiter hT (wpAny_pure (wpAny_bind (wpAny_fieldsOf hit rfl ?_))))
 simp only[show Builtin.Dict_items.ownsTuple "dict_itemiterator"=true from by decide,if_true];show wpAny _ _ (if(Value.ref d==Value.none)=true then _ else _) _ _ _;rw[if_neg (show ¬((Value.ref d==Value.none)=true) from Bool.false_ne_true)];refine wpAny_bind (wpAny_pure (wpAny_bind (wpAny_dictEntries h1 h3 ?_)));rw[if_neg (by simp)];refine wpAny_bind (wpAny_pure (wpAny_bind (wpAny_dictEpoch h1 h3 ?_)));rw[if_neg (by simp)];refine wpAny_pure ?_;simp only[show ¬((i:Int)<0) from by omega,if_false,Int.toNat_natCast,Array.getElem?_eq_getElem hi];refine wpAny_bind ?_
 first|refine wpAny_bind (wpAny_typeNameOfWhole_itemiter hT (wpAny_pure (wpAny_bind (wpAny_isOneOf_itemiter hT ?_))))|refine wpAny_bind (wpAny_typeNameOf_itemiter hT (wpAny_pure (wpAny_bind (wpAny_isOneOf_itemiter hT ?_))))
 show wpAny _ _ (setField (.ref it) 3 (rawInt ((i:Int)+1))>>=_) _ _ ⟨hp,g,dr,tk,os⟩;refine wpAny_bind (wpAny_setField_rec hit (by simp) λk1 e1 (b1:Heap.SameBut it hp k1)=>?_)
 have q1:IsItemIter k1 it d (i+1) es.size ep ok ov:=by
  unfold IsItemIter;rw[show((i+1:Nat):Int)=(i:Int)+1 by omega];simpa[rawInt] using e1
 have t1:Shared.TypeIs ⟨k1,g,dr,tk,os⟩ (.ref it) "dict_itemiterator":=⟨_,q1,rfl⟩;refine wpAny_bind (wpAny_holding (wpAny_bind (wpAny_isOneOf_itemiter t1 (wpAny_bind (wpAny_isOneOf_itemiter t1 ?_)))));show wpAny _ _ (Builtin.Dict_items.pairFromOwner (.ref it) 6 es[i].key es[i].val) _ _ ⟨k1,g,dr,tk,os⟩;unfold Builtin.Dict_items.pairFromOwner;refine wpAny_bind (wpAny_newTuple ?_);have q2:IsItemIter (k1.push {cls:=.type "tuple",data:=.seq #[es[i].key,es[i].val]}) it d (i+1) es.size ep ok ov:=Heap.get?_push_of_some _ q1;have z1:k1.objs.size=hp.objs.size:=b1.1;have ne:hp.objs.size≠it:=Nat.ne_of_gt (Heap.lt_size hit)
 have w2:(k1.push {cls:=.type "tuple",data:=.seq #[es[i].key,es[i].val]}).get? hp.objs.size=some {cls:=.type "tuple",data:=.seq #[es[i].key,es[i].val]}:=by rw[<-z1];exact Heap.get?_push_size _ rfl
 have z2:(k1.push {cls:=.type "tuple",data:=.seq #[es[i].key,es[i].val]}).objs.size=hp.objs.size+1:=by rw[Heap.size_push,z1]
 have p2:∀b o,b≠it->hp.get? b=some o->(k1.push {cls:=.type "tuple",data:=.seq #[es[i].key,es[i].val]}).get? b=some o:=λb o hb e=>Heap.get?_push_of_some _ (b1.extBut b o hb e);show wpAny _ _ (Builtin.Dict_items.ownedTupleIsFree (.ref it)>>=_) _ _ ⟨k1.push {cls:=.type "tuple",data:=.seq #[es[i].key,es[i].val]},g,dr,tk,os⟩;rw[z1];generalize k1.push {cls:=.type "tuple",data:=.seq #[es[i].key,es[i].val]}=k2 at q2 w2 z2 p2 |-;unfold Builtin.Dict_items.ownedTupleIsFree;refine wpAny_bind (wpAny_bind (wpAny_field q2 rfl (x:=.none) rfl (wpAny_pure ?_)));simp only[if_true];refine wpAny_bind (wpAny_field q2 rfl (x:=ok) rfl (wpAny_bind (wpAny_field q2 rfl (x:=ov) rfl (wpAny_bind (wpAny_setField_rec q2 (by simp) λk3 e3 (b3:Heap.SameBut it k2 k3)=>?_)))));have q3:IsItemIter k3 it d (i+1) es.size ep es[i].key ov:=e3;refine wpAny_bind (wpAny_setField_rec q3 (by simp) λk4 e4 (b4:Heap.SameBut it k3 k4)=>?_);have q4:IsItemIter k4 it d (i+1) es.size ep es[i].key es[i].val:=e4;refine wpAny_bind (wpAny_setField_rec q4 (by simp) λk5 e5 (b5:Heap.SameBut it k4 k5)=>?_);have q5:IsItemIterOut k5 it d (i+1) es.size ep es[i].key es[i].val hp.objs.size:=e5;refine wpAny_bind (wpAny_setField_rec q5 (by simp) λk6 e6 (b6:Heap.SameBut it k5 k6)=>?_);have q6:IsItemIterOut k6 it d (i+1) es.size ep es[i].key es[i].val hp.objs.size:=e6;have go:∀b o,b≠it->k2.get? b=some o->k6.get? b=some o:=λb o hb e=>b6.extBut b o hb (b5.extBut b o hb (b4.extBut b o hb (b3.extBut b o hb e)));exact wpAny_bind (wpAny_letGo (wpAny_pure (wpAny_pure ⟨_,rfl,wpAny_pure (hQ k6 q6 (go _ _ ne w2) (by show k6.objs.size=hp.objs.size+1;rw[b6.1,b5.1,b4.1,b3.1,z2]) λb o hb e=>go b o hb (p2 b o hb e))⟩)))
theorem uo {ok ov:Value}{Q:Option Value->Shared->Prop}(hh:A.handled=none)(hit:IsItemIter s.heap it d i es.size ep ok ov)(r:Raw s.heap d es ep)(hi:es.size<=i)
 (hQ:∀h',Heap.ExtBut it s.heap h'->Q none {s with heap:=h'}):wpAny (model prog w) A (pyNext (.ref it)) Q E s:=by
 obtain⟨o,h1,h2,h3⟩:=r.ex;have hT:s.TypeIs (.ref it) "dict_itemiterator":=⟨_,hit,rfl⟩;unfold pyNext;refine wpAny_bind (wpAny_attempt (wpAny_callSpecial?_slot (name:=Str.ofString "__next__") hT F.slot_dict_itemiterator_next (wpAny_call_entry F.slot_dict_itemiterator_next hT F.entry_dict_itemiterator_next ?_ (F.args_dict_itemiterator_next_1 _))));refine wpAny_bind (wpAny_pure (wpAny_bind (wpAny_bind ?_)))
 first|refine wpAny_bind (wpAny_typeNameOfWhole_itemiter hT (wpAny_pure (wpAny_bind (wpAny_fieldsOf hit rfl ?_))))|refine wpAny_bind (wpAny_typeNameOf_itemiter hT (wpAny_pure (wpAny_bind (wpAny_fieldsOf hit rfl ?_))))
 simp only[show Builtin.Dict_items.ownsTuple "dict_itemiterator"=true from by decide,if_true];show wpAny _ _ (if(Value.ref d==Value.none)=true then _ else _) _ _ _;rw[if_neg (show ¬((Value.ref d==Value.none)=true) from Bool.false_ne_true)];refine wpAny_bind (wpAny_pure (wpAny_bind (wpAny_dictEntries h1 h3 ?_)));rw[if_neg (by simp)];refine wpAny_bind (wpAny_pure (wpAny_bind (wpAny_dictEpoch h1 h3 ?_)));rw[if_neg (by simp)];refine wpAny_pure ?_;simp only[show ¬((i:Int)<0) from by omega,if_false,Int.toNat_natCast,Array.getElem?_eq_none hi];refine wpAny_bind ?_
 first|refine wpAny_bind (wpAny_typeNameOfWhole_itemiter hT (wpAny_pure ?_))|refine wpAny_bind (wpAny_typeNameOf_itemiter hT (wpAny_pure ?_))
 show wpAny _ _ (setField (.ref it) 2 .none>>=_) _ _ s;refine wpAny_bind (wpAny_setField hit rfl (by simp) ?_);show wpAny _ _ (newExc (.type "StopIteration") []>>=_) _ _ _;refine wpAny_bind ?_;simp only[newExc,newTuple];refine wpAny_bind (wpAny_newObj_type (wpAny_bind (m:=firstArgMember _ _) (wpAny_of_eq (a:=Value.none) (by first|rfl|(simp only[firstArgMember];rfl)) (wpAny_newObj_type ?_ (by size_fits)))) (by size_fits));simp only[raiseNew];refine wpAny_bind (wpAny_handled ?_);rw[show A.in1.handled=none from hh];refine wpAny_bind (wpAny_pure (wpAny_throw ?_));refine wpAny_bind (wpAny_isInstance (T:="StopIteration") (b:=true) ⟨_,Heap.get?_push_size _ rfl,rfl⟩ isSubtype_stop ?_);exact wpAny_pure (hQ _ (((Heap.SameBut.update ..).extBut.push _).push _))
theorem uC {Q:vy}(r:Raw s.heap d es ep)(hd:(d==sysModules)=false)
 (hQ:Q (.ref s.heap.objs.size) {s with heap:=s.heap.push {cls:=.type "dict_keyiterator",data:=.fields #[.ref d,.int 0 0,.int es.size 0,.int ep 0]} }):wpAny (model prog w) A (pyIter (.ref d)) Q E s:=by
 obtain⟨o,h1,h2,h3⟩:=r.ex;refine wpAny_pyIter_slot r.ty F.slot_dict_iter (wpAny_call_entry F.slot_dict_iter r.ty F.entry_dict_iter ?_ (F.args_dict_iter_1 _));unfold Builtin.«dict.__iter__» Builtin.Dict.dictSlotNone;refine wpAny_bind (wpAny_bind (wpAny_notOrdered_dict r.ty (?_:wpAny _ _ (pure (Value.ref d)) _ _ s)));refine wpAny_pure ?_;show wpAny _ _ (Builtin.Dict.showsAll d>>=_) _ _ s;unfold Builtin.Dict.showsAll;rw[if_neg (by rw[hd];exact Bool.false_ne_true)];refine wpAny_bind (wpAny_pure (wpAny_bind (wpAny_dictEntries h1 h3 (wpAny_bind (wpAny_dictEpoch h1 h3 (wpAny_bind (wpAny_newObj_type (wpAny_pure ⟨_,rfl,"dict_keyiterator",_,⟨_,Heap.get?_push_size _ rfl,rfl⟩,F.slot_dict_keyiterator_next.lookup,?_⟩))))))));simpa[rawInt] using hQ
theorem uj {Q:Option Value->Shared->Prop}(hit:s.heap.IsKeyIter it d i es.size ep)(r:Raw s.heap d es ep)(hi:i<es.size)
 (hQ:∀h',h'.IsKeyIter it d (i+1) es.size ep->Heap.SameBut it s.heap h'->Q (some es[i].key) {s with heap:=h'}):wpAny (model prog w) A (pyNext (.ref it)) Q E s:=by
 obtain⟨oi,g1,g2,g3⟩:=id hit;obtain⟨o,h1,h2,h3⟩:=r.ex;have hT:=hit.typeIs;unfold pyNext;refine wpAny_bind (wpAny_attempt (wpAny_callSpecial?_slot (name:=Str.ofString "__next__") hT F.slot_dict_keyiterator_next (wpAny_call_entry F.slot_dict_keyiterator_next hT F.entry_dict_keyiterator_next ?_ (F.args_dict_keyiterator_next_1 _))));refine wpAny_bind (wpAny_pure (wpAny_bind (wpAny_bind ?_)))
 first|refine wpAny_bind (wpAny_typeNameOfWhole_keyiter hT (wpAny_pure (wpAny_bind (wpAny_fieldsOf g1 g3 ?_))))|refine wpAny_bind (wpAny_typeNameOf_keyiter hT (wpAny_pure (wpAny_bind (wpAny_fieldsOf g1 g3 ?_))))
 simp only[show Builtin.Dict_items.ownsTuple "dict_keyiterator"=false from by decide,Bool.false_eq_true,if_false];show wpAny _ _ (if(Value.ref d==Value.none)=true then _ else _) _ _ _;rw[if_neg (show ¬((Value.ref d==Value.none)=true) from Bool.false_ne_true)];refine wpAny_bind (wpAny_pure (wpAny_bind (wpAny_dictEntries h1 h3 ?_)));rw[if_neg (by simp)];refine wpAny_bind (wpAny_pure (wpAny_bind (wpAny_dictEpoch h1 h3 ?_)));rw[if_neg (by simp)];refine wpAny_pure ?_;simp only[show ¬((i:Int)<0) from by omega,if_false,Int.toNat_natCast,Array.getElem?_eq_getElem hi];refine wpAny_bind ?_
 first|refine wpAny_bind (wpAny_typeNameOfWhole_keyiter hT (wpAny_pure (wpAny_bind (wpAny_isOneOf_keyiter hT ?_))))|refine wpAny_bind (wpAny_typeNameOf_keyiter hT (wpAny_pure (wpAny_bind (wpAny_isOneOf_keyiter hT ?_))))
 show wpAny _ _ (setField (.ref it) 1 (rawInt ((i:Int)+1))>>=_) _ _ s;refine wpAny_bind (wpAny_setField g1 g3 (by simp) ?_);have q1:(s.heap.update it (Obj.mapFields (·.setIfInBounds 1 (rawInt ((i:Int)+1))))).IsKeyIter it d (i+1) es.size ep:=⟨_,Heap.get?_update_self _ g1 (Obj.isFreed_of_fields (Obj.data_mapFields g3 _)),(Obj.cls_mapFields ..).trans g2,by rw[Obj.data_mapFields g3];simp[rawInt]⟩;refine wpAny_bind (wpAny_holding (wpAny_bind (wpAny_isOneOf_keyiter (s:={s with heap:=s.heap.update it (Obj.mapFields (·.setIfInBounds 1 (rawInt ((i:Int)+1))))}) q1.typeIs (?_:wpAny _ _ (pure es[i].key) _ _ _))));exact wpAny_pure (wpAny_pure ⟨_,rfl,wpAny_pure (hQ _ q1 (Heap.SameBut.update ..))⟩)
theorem wu {Q:Option Value->Shared->Prop}(hh:A.handled=none)(hit:s.heap.IsKeyIter it d i es.size ep)(r:Raw s.heap d es ep)(hi:es.size<=i)
 (hQ:∀h',Heap.ExtBut it s.heap h'->Q none {s with heap:=h'}):wpAny (model prog w) A (pyNext (.ref it)) Q E s:=by
 obtain⟨oi,g1,g2,g3⟩:=id hit;obtain⟨o,h1,h2,h3⟩:=r.ex;have hT:=hit.typeIs;unfold pyNext;refine wpAny_bind (wpAny_attempt (wpAny_callSpecial?_slot (name:=Str.ofString "__next__") hT F.slot_dict_keyiterator_next (wpAny_call_entry F.slot_dict_keyiterator_next hT F.entry_dict_keyiterator_next ?_ (F.args_dict_keyiterator_next_1 _))));refine wpAny_bind (wpAny_pure (wpAny_bind (wpAny_bind ?_)))
 first|refine wpAny_bind (wpAny_typeNameOfWhole_keyiter hT (wpAny_pure (wpAny_bind (wpAny_fieldsOf g1 g3 ?_))))|refine wpAny_bind (wpAny_typeNameOf_keyiter hT (wpAny_pure (wpAny_bind (wpAny_fieldsOf g1 g3 ?_))))
 simp only[show Builtin.Dict_items.ownsTuple "dict_keyiterator"=false from by decide,Bool.false_eq_true,if_false];show wpAny _ _ (if(Value.ref d==Value.none)=true then _ else _) _ _ _;rw[if_neg (show ¬((Value.ref d==Value.none)=true) from Bool.false_ne_true)];refine wpAny_bind (wpAny_pure (wpAny_bind (wpAny_dictEntries h1 h3 ?_)));rw[if_neg (by simp)];refine wpAny_bind (wpAny_pure (wpAny_bind (wpAny_dictEpoch h1 h3 ?_)));rw[if_neg (by simp)];refine wpAny_pure ?_;simp only[show ¬((i:Int)<0) from by omega,if_false,Int.toNat_natCast,Array.getElem?_eq_none hi];refine wpAny_bind ?_
 first|refine wpAny_bind (wpAny_typeNameOfWhole_keyiter hT (wpAny_pure ?_))|refine wpAny_bind (wpAny_typeNameOf_keyiter hT (wpAny_pure ?_))
 show wpAny _ _ (setField (.ref it) 0 .none>>=_) _ _ s;refine wpAny_bind (wpAny_setField g1 g3 (by simp) ?_);show wpAny _ _ (newExc (.type "StopIteration") []>>=_) _ _ _;refine wpAny_bind ?_;simp only[newExc,newTuple];refine wpAny_bind (wpAny_newObj_type (wpAny_bind (m:=firstArgMember _ _) (wpAny_of_eq (a:=Value.none) (by first|rfl|(simp only[firstArgMember];rfl)) (wpAny_newObj_type ?_ (by size_fits)))) (by size_fits));simp only[raiseNew];refine wpAny_bind (wpAny_handled ?_);rw[show A.in1.handled=none from hh];refine wpAny_bind (wpAny_pure (wpAny_throw ?_));refine wpAny_bind (wpAny_isInstance (T:="StopIteration") (b:=true) ⟨_,Heap.get?_push_size _ rfl,rfl⟩ isSubtype_stop ?_);exact wpAny_pure (hQ _ (((Heap.SameBut.update ..).extBut.push _).push _))
end
end Jz
namespace L2
open PySem PySem.Spec PyProof.Rows PySem.W
abbrev oE (o:Obj)(Fe:List (List Key×V)):HO:=.frz o (.dT Fe)
def D4 (d:Addr)(o:Obj)(Fe:List (List Key×V)):It :=
 ⟨λi H=>i<Fe.length/\H d=some (oE o Fe),λi H x H'=>∃p b k v,Fe[i]?=some (k,v)/\H p=none/\H b=some (.tup (k.map kV))/\x=.ref p/\H'=upd H p (.tup [.ref b,v]),λi H=>Fe.length<=i/\H d=some (oE o Fe)⟩
def Eb (d:Addr)(o:Obj)(Fe:List (List Key×V)):It :=
 ⟨λi H=>i<Fe.length/\H d=some (oE o Fe),λi H x H'=>∃b k v,Fe[i]?=some (k,v)/\H b=some (.tup (k.map kV))/\x=.ref b/\H'=H,λi H=>Fe.length<=i/\H d=some (oE o Fe)⟩
theorem kO {α β:Type}{R:α->β->Prop}:∀{l:List α}{m:List β}{i:Nat}{a:α},Paired R l m->l[i]?=some a->∃b,m[i]?=some b/\R a b
 |_,_,_,_,.nil,e=>by simp at e
 |_,_,0,_,.cons r _,e=>by simp at e;subst e;exact⟨_,rfl,r⟩
 |_,_,i+1,a,.cons _ t,e=>by
  obtain⟨b,h1,h2⟩:=kO (i:=i) (a:=a) t (by simpa using e);exact⟨b,by simpa using h1,h2⟩
section
variable {X:Cx}{pins:List (Addr×Obj)}{σ:St}{H:Hp}{s:AQ}{d:Addr}{o:Obj}{Fe:List (List Key×V)}
theorem ji (I:Inv X pins σ H s)(e:H d=some (oE o Fe)):∃es ep,o.data=.dict es ep/\Jz.Raw s.heap d es ep/\es.size=Fe.length/\(d==sysModules)=false /\
 ∀(i:Nat)(hi:i<es.size) k v,Fe[i]?=some (k,v)->∃b,es[i].key=.ref b/\H b=some (.tup (k.map kV))/\aE v es[i].val:=by
 obtain⟨h0,z,y,xs,r,o',es,ep,h1,h2,h3,h4,h5⟩:=(show bc X.prog X.w H s.heap d (oE o Fe) from I.hok d _ e);rw[h0] at h1
 cases h1
 have hl:es.size=Fe.length:=by
  rw[<-Array.length_toList,h4,List.length_map];exact(Paired.length r).symm
 refine⟨es,ep,h3,⟨_,h0,h2,h3⟩,hl,y,λi hi k v hk=>?_⟩;obtain⟨q,hq,e1,e2,e3⟩:=kO r hk
 have z1:es.toList[i]?=some (entryOfKey (tupleKind (b8 X.prog X.w)) q):=by rw[h4,List.getElem?_map,hq];rfl
 have z2:es[i]=entryOfKey (tupleKind (b8 X.prog X.w)) q:=by
  have z3:es.toList[i]?=some es[i]:=by simp[hi]
  rw[z3] at z1;exact Option.some.inj z1
 rw[z2];exact⟨q.2.1,rfl,e2,e3⟩
theorem Inv.freeze (I:Inv X pins σ H s)(e:H d=some (.dT Fe)):∃o,s.heap.get? d=some o/\Inv X pins σ (upd H d (oE o Fe)) s:=by
 obtain⟨z,y,xs,r,o,es,ep,h1,h2⟩:=(show bc X.prog X.w H s.heap d (.dT Fe) from I.hok d _ e);refine⟨o,h1,I.write (t':=s.toks) (h':=s.heap) (x:=d) (e:=d) (o:=oE o Fe) (by rw[e];exact True.intro) (.inl rfl) (λ_ _ _ q=>q) ⟨o,h1⟩ ⟨h1,z,y,xs,?_,o,es,ep,h1,h2⟩⟩;exact Paired.aa5 r λp q w=>⟨w.1,by rw[ai (xf w.2.1 e (by intro z;cases z))];exact w.2.1,w.2.2⟩
end
variable {P:u6}{w:World}{K:Frag}{elts:Aw}{x1:Nat}{tp:Pos}
theorem qz (d it:Addr)(o:Obj)(Fe:List (List Key×V))(es:Array DictEntry)(ep:Nat)(ho:o.data=.dict es ep):Turn P w K (.Tuple elts x1 tp) (D4 d o Fe) [it] it (λi h=>∃ok ov,IsItemIter h it d i es.size ep ok ov) where
 mem:=by simp
 obj:=λi h st b hb=>by
  have e:b=it:=by simpa using hb
  subst e;obtain⟨ok,ov,e⟩:=st;exact⟨_,e,λv z=>by cases z⟩
 keep:=λi h h' st k=>let⟨ok,ov,e⟩:=st;⟨ok,ov,k it (by simp) _ e⟩
 item:=by
  intro X hP hw hK hc i pins s σ H E I hf st hg;subst hP hw hK;obtain⟨Fy,hd⟩:=hg;obtain⟨ok,ov,hit⟩:=st;obtain⟨K2,K3,Gb,raw,hl,hm,Nq⟩:=ji I hd;rw[ho] at Gb
  cases Gb
  obtain⟨f0,f1,f2,f3,f4,f5⟩:=hf it (by simp)
  have hi:i<es.size:=by omega
  refine Jz.rn hit raw hi λh' q1 q2 q3 q4=>?_;obtain⟨⟨k,v⟩,hk⟩:∃kv,Fe[i]?=some kv:=⟨Fe[i],by simp[Fy]⟩;obtain⟨b,eb,hb,rv⟩:=Nq i hi k v hk;refine⟨_,rfl,wpAny_letOwnedTupleGo_items (s:={s with heap:=h'}) q1 λh2 q5 q6=>?_⟩;have JX:s.heap.objs.size≠it:=Nat.ne_of_gt (Heap.lt_size hit);have I1:Inv X pins σ H {s with heap:=h2}:=I.turned (t':=s.toks) (λb o hb e=>(q6.2 b hb).trans (q4 b o hb e)) f0 f1 f3 f4 f5;have tup:h2.get? s.heap.objs.size=some {cls:=.type "tuple",data:=.seq #[es[i].key,es[i].val]}:=(q6.2 _ JX).trans q2;have fr:H s.heap.objs.size=none:=I.hok.fresh (Nat.le_refl _)
  have I2:Inv X pins σ (upd H s.heap.objs.size (.tup [.ref b,v])) {s with heap:=h2}:=by
   refine⟨I1.ok,I1.os,I1.bare,?_,I1.loc,I1.cell,?_,λx c e=>?_,λp hp=>?_,dX I1.hok fr ⟨by show 2<=sizeLine;decide,[.ref b,es[i].val],.cons rfl (.cons rv .nil),?_⟩,I1.len⟩
   ·have u:=I1.base;refine⟨u.keep,u.slot,λb' o' e n hx=>?_,u.there,λb' xs e=>?_,λb' o' u' e=>?_,λb' ps e=>?_⟩
    ·have ne:b'≠s.heap.objs.size:=Nat.ne_of_lt (Nat.lt_of_lt_of_le (Heap.lt_size e) I.sz);rw[ai ne];exact u.free b' o' e n hx
    ·rw[ai (au (u.aaq b' xs e) fr)];exact u.aaq b' xs e
    ·rw[ai (au (u.aap b' o' u' e) fr)];exact u.aap b' o' u' e
    ·obtain⟨m,q⟩:=u.aav b' ps e;exact⟨m,by rw[ai (au q fr)];exact q⟩
   ·rw[ai (Nat.ne_of_lt I.lt)];exact I1.free
   ·obtain⟨v',q⟩:=I.cell x c e;rw[ai (Nat.ne_of_lt q.lt)];exact I1.aan x c e
   ·obtain⟨e,n,r⟩:=I1.pin p hp;have lt:p.1<s.heap.objs.size:=Heap.lt_size (I.pin p hp).1;exact⟨e,by rw[ai (Nat.ne_of_lt lt)];exact n,r⟩
   ·exact⟨_,tup,rfl,0,by rw[<-eb]⟩
  refine⟨.ref s.heap.objs.size,_,I2,rfl,⟨s.heap.objs.size,b,k,v,hk,fr,hb,rfl,rfl⟩,⟨_,_,q5⟩,λb' F9=>?_⟩
  have e:b'=it:=by simpa using F9
  subst e;rw[ai (Ne.symm JX)];exact f0
 done:=by
  intro X hP hw hK hc i pins s σ H E I hf st hg;subst hP hw hK;obtain⟨Fy,hd⟩:=hg;obtain⟨ok,ov,hit⟩:=st;obtain⟨K2,K3,Gb,raw,hl,hm,Nq⟩:=ji I hd;rw[ho] at Gb
  cases Gb
  obtain⟨f0,f1,f2,f3,f4,f5⟩:=hf it (by simp);exact Jz.uo (I.ok.hd hc) hit raw (by omega) λh' eb=>⟨rfl,I.turned (t':=s.toks) (λb o hb e=>eb b o hb e) f0 f1 f3 f4 f5⟩
 self:=λA i s Q E st h=>by
  obtain⟨ok,ov,hit⟩:=st;exact kcp_self hit h
theorem uH {tg:Expr}(d it:Addr)(o:Obj)(Fe:List (List Key×V))(es:Array DictEntry)(ep:Nat)(ho:o.data=.dict es ep):Turn P w K tg (Eb d o Fe) [it] it (λi h=>h.IsKeyIter it d i es.size ep) where
 mem:=by simp
 obj:=λi h st b hb=>by
  have e:b=it:=by simpa using hb
  subst e;obtain⟨o,e,c,d⟩:=st;exact⟨o,e,λv z=>by rw[d] at z;cases z⟩
 keep:=λi h h' st k=>st.at λo e=>k it (by simp) o e
 item:=by
  intro X hP hw hK hc i pins s σ H E I hf st hg;subst hP hw hK;obtain⟨Fy,hd⟩:=hg;obtain⟨K2,K3,Gb,raw,hl,hm,Nq⟩:=ji I hd;rw[ho] at Gb
  cases Gb
  obtain⟨f0,f1,f2,f3,f4,f5⟩:=hf it (by simp)
  have hi:i<es.size:=by omega
  refine Jz.uj st raw hi λh' q1 q2=>?_;obtain⟨⟨k,v⟩,hk⟩:∃kv,Fe[i]?=some kv:=⟨Fe[i],by simp[Fy]⟩;obtain⟨b,eb,hb,rv⟩:=Nq i hi k v hk;have I1:Inv X pins σ H {s with heap:=h'}:=I.turned (t':=s.toks) (λb o hb e=>(q2.2 b hb).trans e) f0 f1 f3 f4 f5;obtain⟨oi,e,c,dd⟩:=id q1;exact⟨_,rfl,tw (s:={s with heap:=h'}) e c dd (by decide) ⟨.ref b,H,I1,eb,⟨b,k,v,hk,hb,rfl,rfl⟩,q1,λb hb=>(hf b hb).1⟩⟩
 done:=by
  intro X hP hw hK hc i pins s σ H E I hf st hg;subst hP hw hK;obtain⟨Fy,hd⟩:=hg;obtain⟨K2,K3,Gb,raw,hl,hm,Nq⟩:=ji I hd;rw[ho] at Gb
  cases Gb
  obtain⟨f0,f1,f2,f3,f4,f5⟩:=hf it (by simp);exact Jz.wu (I.ok.hd hc) st raw (by omega) λh' eb=>⟨rfl,I.turned (t':=s.toks) (λb o hb e=>eb b o hb e) f0 f1 f3 f4 f5⟩
 self:=λ_ _ _ _ _ st h=>wpAny_pyIter_keyiter st h
def DG (H1:Hp)(d:Addr)(Fe:List (List Key×V))(R:Obj->Hp->Prop):Prop:=(∃o,H1 d=some (oE o Fe)/\R o H1)\/(H1 d=some (.dT Fe)/\∀o,R o (upd H1 d (oE o Fe)))
def Ar (td:TE):TI:=λσ H R=>td σ H λx H1=>∃d Fe,x=.ref d/\DG H1 d Fe λo H2=>R (D4 d o Fe) H2
def Cg (td:TE):TI:=λσ H R=>td σ H λx H1=>∃d Fe,x=.ref d/\DG H1 d Fe λo H2=>R (Eb d o Fe) H2
section
variable {X:Cx}{pins:List (Addr×Obj)}{σ:St}{H:Hp}{s:AQ}
theorem xI {d:Addr}{Fe:List (List Key×V)}{R:Obj->Hp->Prop}(I:Inv X pins σ H s)(h:DG H d Fe R):∃o H2,Inv X pins σ H2 s/\H2 d=some (oE o Fe)/\R o H2:=by
 rcases h with⟨o,e,r⟩|⟨e,r⟩
 ·exact⟨o,H,I,e,r⟩
 ·obtain⟨o,_,I2⟩:=I.freeze e;exact⟨o,_,I2,af,r o⟩
theorem vN {oe:Expr}{td:TE}{apos Fx:Pos}(ho:PE X oe td)(GU:attributeBase oe "items" X.env (eval oe X.env)=eval oe X.env:=by rfl)(GV:(apos.endLine==Fx.line)=true:=by rfl):
 PI X (.Tuple elts x1 tp) (.Call (.Attribute oe "items" apos) [] [] Fx) (Ar td):=by
 intro pins s σ H R I h;refine wpAny_Call_method0_late GU GV (bN (ho pins s σ H _ I h) λv s1 z'=>?_);obtain⟨x,H1,I1,r1,d,Fe,ex,fz⟩:=z';subst ex
 cases(show v=Value.ref d from r1)
 obtain⟨o,H2,I2,hd,rr⟩:=xI I1 fz;obtain⟨es,ep,Np,raw,hl,hm,_⟩:=ji I2 hd;refine⟨"dict","dict.items",PySem.F.plainAttrs_dict,PySem.F.slot_dict_items,PySem.F.type_dict_items,raw.ty,λa e=>?_,Calls.callWith_builtin rfl (PySem.evalArgs_none (Jz.ql raw hm ?_))⟩
 ·cases e
  obtain⟨o',h1,h2,_⟩:=raw.ex;exact⟨o',h1,h2.2.1⟩
 ·have I3:Inv X pins σ H2 {s1 with heap:=s1.heap.push {cls:=.type "dict_items",data:=.fields #[.ref d]} }:=I2.kept (t':=s1.toks) λb ob q=>Heap.get?_push_of_some _ q;refine Jz.qP (s:={s1 with heap:=s1.heap.push {cls:=.type "dict_items",data:=.fields #[.ref d]} }) ⟨_,Heap.get?_push_size _ rfl,rfl,rfl⟩ (raw.keep λo e=>Heap.get?_push_of_some _ e) ?_;generalize s1.heap.push {cls:=.type "dict_items",data:=.fields #[.ref d]}=h2 at I3 |-;refine⟨h2.objs.size,[h2.objs.size],_,D4 d o Fe,H2,rfl,I3.kept (t':=s1.toks) λb ob q=>Heap.get?_push_of_some _ q,qz d _ o Fe es ep Np,⟨_,_,Heap.get?_push_size _ rfl⟩,λb hb=>?_,rr⟩
  have e:b=h2.objs.size:=by simpa using hb
  subst e;exact I3.aa1 (Nat.le_refl _) (I3.hok.fresh (Nat.le_refl _))
theorem zk {tg oe:Expr}{td:TE}(ho:PE X oe td):PI X tg oe (Cg td):=by
 intro pins s σ H R I h;refine bN (ho pins s σ H _ I h) λv s1 z'=>?_;obtain⟨x,H1,I1,r1,d,Fe,ex,fz⟩:=z';subst ex
 cases(show v=Value.ref d from r1)
 obtain⟨o,H2,I2,hd,rr⟩:=xI I1 fz;obtain⟨es,ep,Np,raw,hl,hm,_⟩:=ji I2 hd;refine Jz.uC raw hm ⟨s1.heap.objs.size,[s1.heap.objs.size],_,Eb d o Fe,H2,rfl,I2.kept (t':=s1.toks) λb ob q=>Heap.get?_push_of_some _ q,uH d _ o Fe es ep Np,⟨_,Heap.get?_push_size _ rfl,rfl,rfl⟩,λb hb=>?_,rr⟩
 have e:b=s1.heap.objs.size:=by simpa using hb
 subst e;exact I2.aa1 (Nat.le_refl _) (I2.hok.fresh (Nat.le_refl _))
theorem Inv.abS {s2:AQ}{T:Addr}{xs:List V}{its:nZ}(I:Inv X pins σ H s)(I1:Inv X pins σ H s2)(hT:s.heap.objs.size<=T)(e:s2.heap.get? T=some {cls:=.type "tuple",data:=.seq its.toArray})(r:aG xs its)(hz:xs.length<=sizeLine):
 Inv X pins σ (upd H T (.tup xs)) s2:=by
 have fr:H T=none:=I.hok.fresh hT;refine⟨I1.ok,I1.os,I1.bare,?_,I1.loc,I1.cell,?_,λx c e=>?_,λp hp=>?_,dX I1.hok fr ⟨hz,its,r,⟨_,e,rfl,0,rfl⟩⟩,I1.len⟩
 ·have u:=I1.base;refine⟨u.keep,u.slot,λb' o' e n hx=>?_,u.there,λb' xs e=>?_,λb' o' u' e=>?_,λb' ps e=>?_⟩
  ·have ne:b'≠T:=Nat.ne_of_lt (Nat.lt_of_lt_of_le (Heap.lt_size e) (Nat.le_trans I.sz hT));rw[ai ne];exact u.free b' o' e n hx
  ·rw[ai (au (u.aaq b' xs e) fr)];exact u.aaq b' xs e
  ·rw[ai (au (u.aap b' o' u' e) fr)];exact u.aap b' o' u' e
  ·obtain⟨m,q⟩:=u.aav b' ps e;exact⟨m,by rw[ai (au q fr)];exact q⟩
 ·rw[ai (Nat.ne_of_lt (Nat.lt_of_lt_of_le I.lt hT))];exact I1.free
 ·obtain⟨v',q⟩:=I.cell x c e;rw[ai (Nat.ne_of_lt (Nat.lt_of_lt_of_le q.lt hT))];exact I1.aan x c e
 ·obtain⟨e,n,r⟩:=I1.pin p hp;have lt:p.1<s.heap.objs.size:=Heap.lt_size (I.pin p hp).1;exact⟨e,by rw[ai (Nat.ne_of_lt (Nat.lt_of_lt_of_le lt hT))];exact n,r⟩
theorem Inv.aa8 {h':Heap}{t':Nat}{ch:List Addr}(I:Inv X pins σ H s)(k:∀b o,b∉ch->s.heap.get? b=some o->h'.get? b=some o)(hf:∀b∈ch,dq X pins H b):Inv X pins σ H {s with heap:=h',toks:=t'}:=by
 have JX:∀b u,H b=some u->b∉ch:=λb u e z=>by rw[(hf b z).1] at e;cases e
 refine I.step (g':=s.gens) (d':=s.drawn) (ch:=ch) (λb hb=>?_) (λb o _ _ hc e _=>k b o hc e) (λb o _ _ hc e _=>⟨o.slots,k b o hc e⟩) (λ_ _ _ _ n=>n)
  (λb o hc e=>⟨o,k b o hc e⟩) (λ_ _ e=>e) (λ_ _ _ e=>e) (λb ps e=>⟨#[],by rw[e];simp⟩) (λm hm=>?_) (λb u e=>?_) I.bare
 ·obtain⟨f0,f1,f2,f3,f4,f5⟩:=hf b hb;exact⟨f3,f1,f4,f5⟩
 ·obtain⟨o,es,ep,ho,r⟩:=hm;exact⟨o,es,ep,k _ o (λz=>(hf _ z).2.1 rfl) ho,r⟩
 ·refine(I.hok b u e).aaZ (λc v hc q=>k c v ?_ q) (λ_ q=>q) λ_ _ q=>q
  rcases hc with z|z
  ·rw[z];exact JX b u e
  ·exact JX c _ z
end
def DZ (K:Frag)(a:Addr):It :=
 ⟨λi H=>∃xs x,aV K H a xs/\xs[i]?=some x,λi H x H'=>∃T y,(∀xs,aV K H a xs->xs[i]?=some y)/\H T=none/\x=.ref T/\H'=upd H T (.tup [.int i,y]),λi H=>∃xs,aV K H a xs/\xs.length<=i⟩
theorem uq (a e it:Addr)(FX:e≠it):Turn P w K (.Tuple elts x1 tp) (DZ K a) [e,it] e (λi h=>∃old,IsEnum h e it i old/\h.IsListIter it a i) where
 mem:=by simp
 obj:=λi h st b hb=>by
  obtain⟨old,h1,o,h2,_,h3⟩:=st
  rcases(by simpa using hb:b=e\/b=it) with z|z
  ·subst z;exact⟨_,h1,λv z=>by cases z⟩
  ·subst z;exact⟨o,h2,λv z=>by rw[h3] at z;cases z⟩
 keep:=λi h h' st k=>let⟨old,h1,h2⟩:=st;⟨old,k e (by simp) _ h1,h2.at λo q=>k it (by simp) o q⟩
 item:=by
  intro X hP hw hK hc i pins s σ H E I hf st hg;subst hP hw hK;obtain⟨xs,x,hq,hx⟩:=hg;obtain⟨its,rv,p,hz⟩:=I.list hq;obtain⟨u,hu,ru⟩:=rv.get hx;obtain⟨old,he,hit⟩:=st;refine wpAny_pyNext_enum_item he hit p.isList (x:=u) (by simpa using hu) FX λh' q1 q2 q3 q4 q5=>?_;refine⟨_,rfl,wpAny_letOwnedTupleGo_enum (s:={s with heap:=h',toks:=s.toks+1}) q1 λh2 q6 q7=>?_⟩;have XJ:s.heap.objs.size≠e:=Nat.ne_of_gt (Heap.lt_size he)
  have I1:Inv X pins σ H {s with heap:=h2,toks:=s.toks+1}:=I.aa8 (t':=s.toks+1) (ch:=[e,it]) (λb o hb z=>by
   have F9:b≠e/\b≠it:=by simpa using hb
   exact(q7.2 b F9.1).trans (q5 b o F9.1 F9.2 z)) hf
  have tup:h2.get? s.heap.objs.size=some {cls:=.type "tuple",data:=.seq #[.int i s.toks,u]}:=(q7.2 _ XJ).trans q3;have fr:H s.heap.objs.size=none:=I.hok.fresh (Nat.le_refl _);have I2:=I.abS (xs:=[.int i,x]) (its:=[.int i s.toks,u]) I1 (Nat.le_refl _) tup (.cons ⟨_,rfl⟩ (.cons ru .nil)) ic;refine⟨.ref s.heap.objs.size,_,I2,rfl,⟨s.heap.objs.size,x,λys hy=>by rw[I.aaT hy hq];exact hx,fr,rfl,rfl⟩,⟨u,q6,q2.at λo q=>(q7.2 _ (Ne.symm FX)).trans q⟩,λb hb=>?_⟩
  have nb:b≠s.heap.objs.size:=by
   rcases(by simpa using hb:b=e\/b=it) with z|z
   ·subst z;exact Ne.symm XJ
   ·subst z;obtain⟨o,q,_⟩:=hit;exact Nat.ne_of_lt (Heap.lt_size q)
  rw[ai nb];exact(hf b hb).1
 done:=by
  intro X hP hw hK hc i pins s σ H E I hf st hg;subst hP hw hK;obtain⟨xs,hq,hx⟩:=hg;obtain⟨its,rv,p,hz⟩:=I.list hq;have hl:=rv.length;obtain⟨old,he,hit⟩:=st;obtain⟨f0,f1,f2,f3,f4,f5⟩:=hf it (by simp);exact wpAny_pyNext_enum_end (I.ok.hd hc) he hit p.isList (by simp;omega) λh' eb=>⟨rfl,I.turned (t':=s.toks) (λb o hb e=>eb b o hb e) f0 f1 f3 f4 f5⟩
 self:=λ_ _ _ _ _ st h=>let⟨old,h1,_⟩:=st;wpAny_pyIter_enum h1 h
def Dk (K:Frag)(tl:TE):TI:=λσ H R=>bg tl D6 σ H λvs H1=>∃a xs,vs=[.ref a]/\aV K H1 a xs/\R (DZ K a) H1
theorem sW {X:Cx}{l:Expr}{tl:TE}{p pos:Pos}(hl:PE X l tl)(hg:Gl X "enumerate")(hm:X.mg "enumerate"=none)(hs:gA l=false:=by rfl):
 PI X (.Tuple elts x1 tp) (.Call (.Name "enumerate" p) [l] [] pos) (Dk X.K tl):=by
 intro pins s σ H R I h;refine wpAny_Call_Name_kw (gm I hg hm (by rfl) ?_ (by decide) (by decide));refine PyProof.Rows.callWith_type1 (bN (ah hl ag hs pos pins s σ H _ I h) λus s1 z'=>?_) (aY hs) rfl;obtain⟨vs,H1,I1,r1,a,xs,hv,hq,rr⟩:=z';subst hv;obtain⟨u,rfl,ru⟩:=eQ r1
 cases(show u=Value.ref a from ru)
 obtain⟨its,rv,pl,hz⟩:=I1.list hq;refine call_enumerate_list pl.isList λh' q1 q2 q3 q4=>?_;have I2:Inv X pins σ H1 {s1 with heap:=h'}:=I1.kept (t':=s1.toks) q4;refine wpAny_pyIter_enum (s:={s1 with heap:=h'}) q1 ?_;refine⟨s1.heap.objs.size+1,[s1.heap.objs.size+1,s1.heap.objs.size],_,DZ X.K a,H1,rfl,I2,uq a _ _ (Nat.succ_ne_self _),⟨_,q1,q2⟩,λb hb=>?_,rr⟩
 have F9:s1.heap.objs.size<=b:=by
  rcases(by simpa using hb:b=s1.heap.objs.size+1\/b=s1.heap.objs.size) with z|z
  ·rw[z];exact Nat.le_succ _
  ·rw[z];exact Nat.le_refl _
 exact I1.aa1 F9 (I1.hok.fresh F9)
end L2
namespace Zp
open PySem PyProof.Rows
section
variable {prog:u6}{w:World}{A:Around}{E:vy}{s:AQ}
theorem kh {it t:Addr}{i:Nat}{items:tN}{x:Value}{Q:vy}(hit:s.heap.IsTupleIter it t i)(ht:s.heap.IsTuple t items)(hx:items[i]?=some x)
 (hQ:∀h',h'.IsTupleIter it t (i+1)->Heap.SameBut it s.heap h'->Q x {s with heap:=h'}):wpAny (model prog w) A (Builtin.SmallTypes.nextOf (.ref it)) Q E s:=by
 obtain⟨o,ho,hc,hd⟩:=id hit;obtain⟨ol,SU,_,nl,SV⟩:=ht;unfold Builtin.SmallTypes.nextOf;refine wpAny_bind (wpAny_callSpecial?_slot (name:=Str.ofString "__next__") hit.typeIs F.slot_tuple_iterator_next (wpAny_call_entry F.slot_tuple_iterator_next hit.typeIs F.entry_tuple_iterator_next ?_ (F.args_tuple_iterator_next_1 _)));show wpAny _ _ (field (.ref it) 0>>=_) _ _ s;refine wpAny_bind (wpAny_field ho hd (x:=.ref t) rfl ?_);show wpAny _ _ (if(Value.ref t==Value.none)=true then _ else _) _ _ s;rw[if_neg (show ¬((Value.ref t==Value.none)=true) from Bool.false_ne_true)];show wpAny _ _ (field (.ref it) 1>>=_) _ _ s;refine wpAny_bind (wpAny_field ho hd (x:=.int i 0) rfl ?_);show wpAny _ _ (seqItems? (.ref t)>>=_) _ _ s;refine wpAny_bind (wpAny_seqItems SU SV ?_);simp only[Int.toNat_natCast,hx];refine wpAny_bind (wpAny_setField ho hd (by simp) (wpAny_pure ⟨x,rfl,wpAny_pure (hQ _ ?_ (Heap.SameBut.update ..))⟩));exact⟨_,Heap.get?_update_self _ ho (Obj.isFreed_of_fields (Obj.data_mapFields hd _)),(Obj.cls_mapFields ..).trans hc,by rw[Obj.data_mapFields hd];simp[rawInt]⟩
theorem rD {it t:Addr}{i:Nat}{items:tN}{Q:vy}(hh:A.handled=none)(hit:s.heap.IsTupleIter it t i)(ht:s.heap.IsTuple t items)(hx:items[i]?=none)
 (hE:∀h' e,Heap.ExtBut it s.heap h'->(∃o,h'.get? e=some o/\o.cls=.type "StopIteration")->E (.ref e) {s with heap:=h'}):wpAny (model prog w) A (Builtin.SmallTypes.nextOf (.ref it)) Q E s:=by
 obtain⟨o,ho,hc,hd⟩:=id hit;obtain⟨ol,SU,_,nl,SV⟩:=ht;unfold Builtin.SmallTypes.nextOf;refine wpAny_bind (wpAny_callSpecial?_slot (name:=Str.ofString "__next__") hit.typeIs F.slot_tuple_iterator_next (wpAny_call_entry F.slot_tuple_iterator_next hit.typeIs F.entry_tuple_iterator_next ?_ (F.args_tuple_iterator_next_1 _)));show wpAny _ _ (field (.ref it) 0>>=_) _ _ s;refine wpAny_bind (wpAny_field ho hd (x:=.ref t) rfl ?_);show wpAny _ _ (if(Value.ref t==Value.none)=true then _ else _) _ _ s;rw[if_neg (show ¬((Value.ref t==Value.none)=true) from Bool.false_ne_true)];show wpAny _ _ (field (.ref it) 1>>=_) _ _ s;refine wpAny_bind (wpAny_field ho hd (x:=.int i 0) rfl ?_);show wpAny _ _ (seqItems? (.ref t)>>=_) _ _ s;refine wpAny_bind (wpAny_seqItems SU SV ?_);simp only[Int.toNat_natCast,hx];refine wpAny_bind (wpAny_rule (wpAny_bind (wpAny_setField ho hd (by simp) ?_)));show wpAny _ _ (newExc (.type "StopIteration") []>>=_) _ _ _;refine wpAny_bind ?_;simp only[newExc,newTuple];refine wpAny_bind (wpAny_newObj_type ?_ (by size_fits));refine wpAny_bind (m:=firstArgMember _ _) (wpAny_of_eq (a:=Value.none) (by first|rfl|(simp only[firstArgMember];rfl)) ?_);refine wpAny_newObj_type ?_ (by size_fits);simp only[raiseNew];refine wpAny_bind (wpAny_handled ?_)
 first|rw[show A.in1.handled=none from hh]|rw[hh]
 refine wpAny_bind (wpAny_pure (wpAny_throw ?_));exact hE _ _ (((Heap.SameBut.update ..).extBut.push _).push _) ⟨_,Heap.get?_push_size _ rfl,rfl⟩
end
structure Apart (z TI TO i1 i2 l1 l2:Addr):Prop where
 TIz:TI≠z
 TOz:TO≠z
 i1z:i1≠z
 i2z:i2≠z
 TITO:TI≠TO
 TIi1:TI≠i1
 TIi2:TI≠i2
 TOi1:TO≠i1
 TOi2:TO≠i2
 i12:i1≠i2
 l1n:l1 ∉ [z,TO,i1,i2]
 l2n:l2 ∉ [z,TO,i1,i2]
structure Zs (h:Heap)(z TI TO i1 i2 l1 l2:Addr)(k:Nat):Prop where
 hz:IsZip h z TI TO .none
 hTI:IsPair h TI (.ref i1) (.ref i2)
 Rg:∃a b,IsPair h TO a b
 h1:h.IsTupleIter i1 l1 k
 h2:h.IsTupleIter i2 l2 k
theorem ie {h h':Heap}{i l:Addr}{k:Nat}(x:h.IsTupleIter i l k)(q:∀o,h.get? i=some o->h'.get? i=some o):h'.IsTupleIter i l k:=let⟨o,a,b⟩:=x;⟨o,q o a,b⟩
section
variable {prog:u6}{w:World}{A:Around}{E:vy}{s:AQ}{z TI TO i1 i2 l1 l2:Addr}{k:Nat}{xs ys:tN}{x y:Value}
theorem item {Q:vy}(D:Apart z TI TO i1 i2 l1 l2)(Z:Zs s.heap z TI TO i1 i2 l1 l2 k)(Hy:s.heap.IsTuple l1 xs)(Hs:s.heap.IsTuple l2 ys)(hx:xs[k]?=some x)(hy:ys[k]?=some y)
 (hQ:∀h',IsZip h' z TI TO (rawInt s.heap.objs.size)->(∃a b,IsPair h' TO a b)->h'.IsTupleIter i1 l1 (k+1)->h'.IsTupleIter i2 l2 (k+1)->IsPair h' s.heap.objs.size x y →
  (∀c o,c ∉ [z,TO,i1,i2]->s.heap.get? c=some o->h'.get? c=some o)->Q (.ref s.heap.objs.size) {s with heap:=h'}):
 wpAny (model prog w) A (Builtin.«zip.__next__» ⟨[.ref z],[]⟩) (λfin s'=>∃v,fin=.done (.ret v)/\Q v s') E s:=by
 obtain⟨hz,hTI,⟨a,b,Rg⟩,h1,h2⟩:=Z
 have n1:l1≠z/\l1≠TO/\l1≠i1/\l1≠i2:=by simpa using D.l1n
 have n2:l2≠z/\l2≠TO/\l2≠i1/\l2≠i2:=by simpa using D.l2n
 show wpAny _ _ (field (.ref z) 2>>=_) _ _ _;refine wpAny_bind (wpAny_field hz rfl (x:=.bool false) rfl ?_);show wpAny _ _ (field (.ref z) 3>>=_) _ _ _;refine wpAny_bind (wpAny_field hz rfl (x:=.ref TI) rfl ?_);refine wpAny_bind (wpAny_seqItems hTI rfl ?_);show wpAny _ _ (Builtin.SmallTypes.ownedTupleIsFree (.ref z)>>=_) _ _ _;refine wpAny_bind ?_;unfold Builtin.SmallTypes.ownedTupleIsFree;refine wpAny_bind (wpAny_field hz rfl (x:=.none) rfl (wpAny_pure ?_));simp only[if_true];refine wpAny_bind (wpAny_rule ?_);refine wpAny_bind (wpAny_field hz rfl (x:=.ref TO) rfl ?_);refine wpAny_bind (wpAny_setField_rec hz (by simp) λg1 J9 s1=>?_)
 replace J9:IsZip g1 z TI TO .ellipsis:=J9
 refine wpAny_bind ?_;simp only[List.zipIdx_cons,List.zipIdx_nil,List.forIn_cons,List.forIn_nil];refine wpAny_bind (wpAny_bind (wpAny_onRaise ?_));show wpAny _ _ (Builtin.SmallTypes.nextOf (.ref i1)>>=_) _ _ _;refine wpAny_bind (kh (h1.extBut s1.extBut D.i1z) (Hy.extBut s1.extBut n1.1) hx λg2 a2 s2=>wpAny_pure ?_);have t2:IsPair g2 TO a b:=s2.extBut _ _ D.TOi1 (s1.extBut _ _ D.TOz Rg);refine wpAny_bind (wpAny_seqItems t2 rfl ?_);refine wpAny_bind (wpAny_updateSeq_pair t2 λg3 t3 s3=>?_)
 replace t3:IsPair g3 TO x b:=t3
 refine wpAny_bind (wpAny_letGo (wpAny_pure ?_));refine wpAny_bind (wpAny_bind (wpAny_onRaise ?_));show wpAny _ _ (Builtin.SmallTypes.nextOf (.ref i2)>>=_) _ _ _;refine wpAny_bind (kh (((h2.extBut s1.extBut D.i2z).extBut s2.extBut D.i12.symm).extBut s3.extBut D.TOi2.symm) (((Hs.extBut s1.extBut n2.1).extBut s2.extBut n2.2.2.1).extBut s3.extBut n2.2.1) hy λg4 a4 s4=>wpAny_pure ?_);have t4:IsPair g4 TO x b:=s4.extBut _ _ D.TOi2 t3;refine wpAny_bind (wpAny_seqItems t4 rfl ?_);refine wpAny_bind (wpAny_updateSeq_pair t4 λg5 t5 s5=>?_)
 replace t5:IsPair g5 TO x y:=t5
 refine wpAny_bind (wpAny_letGo (wpAny_pure (wpAny_pure ?_)));refine wpAny_bind (wpAny_seqItems t5 rfl ?_);refine wpAny_bind (wpAny_newTuple ?_)
 have sz:g5.objs.size=s.heap.objs.size:=by rw[s5.1,s4.1,s3.1,s2.1,s1.1]
 have z5:IsZip g5 z TI TO .ellipsis:=s5.extBut _ _ D.TOz.symm (s4.extBut _ _ D.i2z.symm (s3.extBut _ _ D.TOz.symm (s2.extBut _ _ D.i1z.symm J9)))
 have k5:∀c o,c ∉ [z,TO,i1,i2]->s.heap.get? c=some o->g5.get? c=some o:=λc o hc e=>by
  have FV:c≠z/\c≠TO/\c≠i1/\c≠i2:=by simpa using hc
  exact s5.extBut _ _ FV.2.1 (s4.extBut _ _ FV.2.2.2 (s3.extBut _ _ FV.2.1 (s2.extBut _ _ FV.2.2.1 (s1.extBut _ _ FV.1 e))))
 have a5:g5.IsTupleIter i1 l1 (k+1):=((a2.extBut s3.extBut D.TOi1.symm).extBut s4.extBut D.i12).extBut s5.extBut D.TOi1.symm;have b5:g5.IsTupleIter i2 l2 (k+1):=a4.extBut s5.extBut D.TOi2.symm;have XM:z<g5.objs.size:=Heap.lt_size z5;show wpAny _ _ (Builtin.SmallTypes.ownedTupleHandOut (.ref z) (.ref g5.objs.size)>>=_) _ _ _;refine wpAny_bind ?_;unfold Builtin.SmallTypes.ownedTupleHandOut;have z6:IsZip (g5.push {cls:=.type "tuple",data:=.seq #[x,y]}) z TI TO .ellipsis:=Heap.get?_push_of_some _ z5;refine wpAny_bind (wpAny_setField_rec z6 (by simp) λg7 z7 s7=>?_)
 replace z7:IsZip g7 z TI TO (rawInt g5.objs.size):=z7
 refine wpAny_setField_rec z7 (by simp) λg8 z8 s8=>?_
 replace z8:IsZip g8 z TI TO (rawInt g5.objs.size):=z8
 have up:∀c o,c≠z->g5.get? c=some o->g8.get? c=some o:=λc o c1 e=>s8.extBut _ _ c1 (s7.extBut _ _ c1 (Heap.get?_push_of_some _ e));have t8:IsPair g8 g5.objs.size x y:=s8.extBut _ _ (Nat.ne_of_gt XM) (s7.extBut _ _ (Nat.ne_of_gt XM) (Heap.get?_push_size _ rfl));rw[sz] at z8 t8;refine wpAny_pure ⟨_,rfl,?_⟩;show Q (.ref g5.objs.size) _;rw[sz];exact hQ g8 z8 ⟨x,y,up _ _ D.TOz t5⟩ (ie a5 λo e=>up _ o D.i1z e) (ie b5 λo e=>up _ o D.i2z e) t8 λc o hc e=>up c o (λq=>hc (by simp[q])) (k5 c o hc e)
theorem Ek {Q:Fin->Shared->Prop}(hh:A.handled=none)(D:Apart z TI TO i1 i2 l1 l2)(Z:Zs s.heap z TI TO i1 i2 l1 l2 k)(Hy:s.heap.IsTuple l1 xs)(Hs:s.heap.IsTuple l2 ys)(Lm:xs[k]?=none\/ys[k]?=none)
 (hE:∀h' e,(∀c o,c ∉ [z,TO,i1,i2]->s.heap.get? c=some o->h'.get? c=some o)->(∃o,h'.get? e=some o/\o.cls=.type "StopIteration")->E (.ref e) {s with heap:=h'}):
 wpAny (model prog w) A (Builtin.«zip.__next__» ⟨[.ref z],[]⟩) Q E s:=by
 obtain⟨hz,hTI,⟨a,b,Rg⟩,h1,h2⟩:=Z
 have n1:l1≠z/\l1≠TO/\l1≠i1/\l1≠i2:=by simpa using D.l1n
 have n2:l2≠z/\l2≠TO/\l2≠i1/\l2≠i2:=by simpa using D.l2n
 show wpAny _ _ (field (.ref z) 2>>=_) _ _ _;refine wpAny_bind (wpAny_field hz rfl (x:=.bool false) rfl ?_);show wpAny _ _ (field (.ref z) 3>>=_) _ _ _;refine wpAny_bind (wpAny_field hz rfl (x:=.ref TI) rfl ?_);refine wpAny_bind (wpAny_seqItems hTI rfl ?_);show wpAny _ _ (Builtin.SmallTypes.ownedTupleIsFree (.ref z)>>=_) _ _ _;refine wpAny_bind ?_;unfold Builtin.SmallTypes.ownedTupleIsFree;refine wpAny_bind (wpAny_field hz rfl (x:=.none) rfl (wpAny_pure ?_));simp only[if_true];refine wpAny_bind (wpAny_rule ?_);refine wpAny_bind (wpAny_field hz rfl (x:=.ref TO) rfl ?_);refine wpAny_bind (wpAny_setField_rec hz (by simp) λg1 J9 s1=>?_)
 replace J9:IsZip g1 z TI TO .ellipsis:=J9
 refine wpAny_bind ?_;simp only[List.zipIdx_cons,List.zipIdx_nil,List.forIn_cons,List.forIn_nil];refine wpAny_bind (wpAny_bind (wpAny_onRaise ?_));show wpAny _ _ (Builtin.SmallTypes.nextOf (.ref i1)>>=_) _ _ _
 cases hx:xs[k]? with
 |none =>
  refine wpAny_bind (rD hh (h1.extBut s1.extBut D.i1z) (Hy.extBut s1.extBut n1.1) hx λg2 e s2 he=>?_);obtain⟨oe,Ii,Nr⟩:=he;have z2:IsZip g2 z TI TO .ellipsis:=s2 _ _ D.i1z.symm J9
  have ez:e≠z:=λq=>by subst q;rw[z2] at Ii;cases Ii;simp at Nr
  refine wpAny_setField_rec z2 (by simp) λg3 _ s3=>hE g3 e (λc o hc q=>?_) ⟨oe,s3.extBut _ _ ez Ii,Nr⟩
  have FV:c≠z/\c≠TO/\c≠i1/\c≠i2:=by simpa using hc
  exact s3.extBut _ _ FV.1 (s2 _ _ FV.2.2.1 (s1.extBut _ _ FV.1 q))
 |some x =>
  have hy:ys[k]?=none:=by
   rcases Lm with h|h
   ·rw[hx] at h;cases h
   ·exact h
  refine wpAny_bind (kh (h1.extBut s1.extBut D.i1z) (Hy.extBut s1.extBut n1.1) hx λg2 a2 s2=>wpAny_pure ?_);have t2:IsPair g2 TO a b:=s2.extBut _ _ D.TOi1 (s1.extBut _ _ D.TOz Rg);refine wpAny_bind (wpAny_seqItems t2 rfl ?_);refine wpAny_bind (wpAny_updateSeq_pair t2 λg3 t3 s3=>?_);refine wpAny_bind (wpAny_letGo (wpAny_pure ?_));refine wpAny_bind (wpAny_bind (wpAny_onRaise ?_));show wpAny _ _ (Builtin.SmallTypes.nextOf (.ref i2)>>=_) _ _ _;refine wpAny_bind (rD hh (((h2.extBut s1.extBut D.i2z).extBut s2.extBut D.i12.symm).extBut s3.extBut D.TOi2.symm) (((Hs.extBut s1.extBut n2.1).extBut s2.extBut n2.2.2.1).extBut s3.extBut n2.2.1) hy λg4 e s4 he=>?_);obtain⟨oe,Ii,Nr⟩:=he;have z4:IsZip g4 z TI TO .ellipsis:=s4 _ _ D.i2z.symm (s3.extBut _ _ D.TOz.symm (s2.extBut _ _ D.i1z.symm J9))
  have ez:e≠z:=λq=>by subst q;rw[z4] at Ii;cases Ii;simp at Nr
  refine wpAny_setField_rec z4 (by simp) λg5 _ s5=>hE g5 e (λc o hc q=>?_) ⟨oe,s5.extBut _ _ ez Ii,Nr⟩
  have FV:c≠z/\c≠TO/\c≠i1/\c≠i2:=by simpa using hc
  exact s5.extBut _ _ FV.1 (s4 _ _ FV.2.2.2 (s3.extBut _ _ FV.2.1 (s2.extBut _ _ FV.2.2.1 (s1.extBut _ _ FV.1 q))))
theorem uT {Q:Option Value->Shared->Prop}(D:Apart z TI TO i1 i2 l1 l2)(Z:Zs s.heap z TI TO i1 i2 l1 l2 k)(Hy:s.heap.IsTuple l1 xs)(Hs:s.heap.IsTuple l2 ys)(hx:xs[k]?=some x)(hy:ys[k]?=some y)
 (hQ:∀h',IsZip h' z TI TO (rawInt s.heap.objs.size)->(∃a b,IsPair h' TO a b)->h'.IsTupleIter i1 l1 (k+1)->h'.IsTupleIter i2 l2 (k+1)->IsPair h' s.heap.objs.size x y →
  (∀c o,c ∉ [z,TO,i1,i2]->s.heap.get? c=some o->h'.get? c=some o)->Q (some (.ref s.heap.objs.size)) {s with heap:=h'}):
 wpAny (model prog w) A (pyNext (.ref z)) Q E s:=by
 have hT:s.TypeIs (.ref z) "zip":=⟨_,Z.hz,rfl⟩;unfold pyNext
 exact wpAny_bind (wpAny_attempt (wpAny_callSpecial?_slot (name:=Str.ofString "__next__") hT F.slot_zip_next
  (wpAny_call_entry F.slot_zip_next hT F.entry_zip_next (item D Z Hy Hs hx hy λh' a1 a2 a3 a4 a5 a6=>wpAny_pure (hQ h' a1 a2 a3 a4 a5 a6)) (F.args_zip_next_1 _))))
theorem tT {Q:Option Value->Shared->Prop}(hh:A.handled=none)(D:Apart z TI TO i1 i2 l1 l2)(Z:Zs s.heap z TI TO i1 i2 l1 l2 k)(Hy:s.heap.IsTuple l1 xs)(Hs:s.heap.IsTuple l2 ys)(Lm:xs[k]?=none\/ys[k]?=none)
 (hQ:∀h',(∀c o,c ∉ [z,TO,i1,i2]->s.heap.get? c=some o->h'.get? c=some o)->Q none {s with heap:=h'}):wpAny (model prog w) A (pyNext (.ref z)) Q E s:=by
 have hT:s.TypeIs (.ref z) "zip":=⟨_,Z.hz,rfl⟩;unfold pyNext
 refine wpAny_bind (wpAny_attempt (wpAny_callSpecial?_slot (name:=Str.ofString "__next__") hT F.slot_zip_next
  (wpAny_call_entry F.slot_zip_next hT F.entry_zip_next (Ek hh D Z Hy Hs Lm λh' e hk he=>?_) (F.args_zip_next_1 _))))
 obtain⟨o,ho,hc⟩:=he;refine wpAny_bind (wpAny_isInstance (T:="StopIteration") (b:=true) ⟨o,ho,hc⟩ isSubtype_stop ?_);exact wpAny_pure (hQ _ hk)
end
abbrev g1 (h:Heap)(l1:Addr):Heap:=h.push {cls:=.type "tuple_iterator",data:=.fields #[.ref l1,.int 0 0]}
abbrev g2 (h:Heap)(l1 l2:Addr):Heap:=(g1 h l1).push {cls:=.type "tuple_iterator",data:=.fields #[.ref l2,.int 0 0]}
abbrev g3 (h:Heap)(l1 l2:Addr):Heap:=(g2 h l1 l2).push {cls:=.type "tuple",data:=.seq #[.ref h.objs.size,.ref (g1 h l1).objs.size]}
abbrev g4 (h:Heap)(l1 l2:Addr):Heap:=(g3 h l1 l2).push {cls:=.type "tuple",data:=.seq #[.none,.none]}
abbrev g5 (h:Heap)(l1 l2:Addr):Heap:=(g4 h l1 l2).push {cls:=.type "zip",data:=.fields #[.none,.bool false,.bool false,.ref (g2 h l1 l2).objs.size,.ref (g3 h l1 l2).objs.size]}
theorem ue (l1 l2:Addr)(xs ys:tN):
 Meets (Builtin.«zip.__new__» ⟨[.type "zip",.ref l1,.ref l2],[]⟩) (λ_ R s=>s.heap.IsTuple l1 xs/\s.heap.IsTuple l2 ys/\R (.ok (.ret (.ref (g4 s.heap l1 l2).objs.size))) {s with heap:=g5 s.heap l1 l2}):=
 .of_wp λprog w A R s h=>by
  obtain⟨hp,g,d,tk,os⟩:=s;obtain⟨Hy,Hs,h⟩:=h;have aaJ:=sub_zip;have hL1:Heap.IsTuple (Shared.heap ⟨hp,g,d,tk,os⟩) l1 xs:=Hy;have Nt:Heap.IsTuple (Shared.heap ⟨hp.push {cls:=.type "tuple_iterator",data:=.fields #[.ref l1,.int 0 0]},g,d,tk,os⟩) l2 ys:=Heap.IsTuple.push Hs _
  wp_walk using wpAny_pyIter_tuple hL1,wpAny_pyIter_tuple Nt
  exact⟨_,rfl,h⟩
section
variable {prog:u6}{w:World}{A:Around}{E:vy}{s:AQ}
theorem BS {l1 l2:Addr}{xs ys:tN}{Q:vy}(Hy:s.heap.IsTuple l1 xs)(Hs:s.heap.IsTuple l2 ys)
 (h:∀h',Zs h' (s.heap.objs.size+4) (s.heap.objs.size+2) (s.heap.objs.size+3) s.heap.objs.size (s.heap.objs.size+1) l1 l2 0->(∀c o,s.heap.get? c=some o->h'.get? c=some o)->Q (.ref (s.heap.objs.size+4)) {s with heap:=h'}):
 wpAny (model prog w) A (call (.type "zip") [.ref l1,.ref l2]) Q E s:=by
 refine callType_new F.called_zip (by decide) (F.typeCall_zip_2 _ _) (F.newCall_zip_2 _ _) (λobj=>F.args_object_init_3 obj _ _) F.entry_zip_new (ue l1 l2 xs ys) ⟨Hy,Hs,?_⟩;have z1:(g1 s.heap l1).objs.size=s.heap.objs.size+1:=Heap.size_push ..
 have z2:(g2 s.heap l1 l2).objs.size=s.heap.objs.size+2:=by rw[Heap.size_push,z1]
 have z3:(g3 s.heap l1 l2).objs.size=s.heap.objs.size+3:=by rw[Heap.size_push,z2]
 have z4:(g4 s.heap l1 l2).objs.size=s.heap.objs.size+4:=by rw[Heap.size_push,z3]
 have q5:(g5 s.heap l1 l2).get? (g4 s.heap l1 l2).objs.size=some _:=Heap.get?_push_size _ rfl;have q4:(g5 s.heap l1 l2).get? (g3 s.heap l1 l2).objs.size=some _:=Heap.get?_push_of_some _ (Heap.get?_push_size _ rfl);have q3:(g5 s.heap l1 l2).get? (g2 s.heap l1 l2).objs.size=some _:=Heap.get?_push_of_some _ (Heap.get?_push_of_some _ (Heap.get?_push_size _ rfl));have q2:(g5 s.heap l1 l2).get? (g1 s.heap l1).objs.size=some _:=Heap.get?_push_of_some _ (Heap.get?_push_of_some _ (Heap.get?_push_of_some _ (Heap.get?_push_size _ rfl)));have q1:(g5 s.heap l1 l2).get? s.heap.objs.size=some _:=Heap.get?_push_of_some _ (Heap.get?_push_of_some _ (Heap.get?_push_of_some _ (Heap.get?_push_of_some _ (Heap.get?_push_size _ rfl))));show _/\_;rw[z2,z3,z4] at q5;rw[z1,z2] at q3;rw[z3] at q4;rw[z1] at q2;rw[z4];exact⟨⟨_,q5,rfl⟩,h _ ⟨q5,q3,⟨_,_,q4⟩,⟨_,q1,rfl,rfl⟩,⟨_,q2,rfl,rfl⟩⟩ λc o e=>Heap.get?_push_of_some _ (Heap.get?_push_of_some _ (Heap.get?_push_of_some _ (Heap.get?_push_of_some _ (Heap.get?_push_of_some _ e))))⟩
end
theorem cy {a b:Nat}(h:a≠b):(a:Addr)≠b:=h
theorem xo (n a b:Nat)(ha:a<n)(hb:b<n):Apart (n+4) (n+2) (n+3) n (n+1) a b:=by
 refine⟨cy ?_,cy ?_,cy ?_,cy ?_,cy ?_,cy ?_,cy ?_,cy ?_,cy ?_,cy ?_,?_,?_⟩
 any_goals omega
 ·simp only[List.mem_cons,List.not_mem_nil,or_false,not_or];exact⟨cy (by omega),cy (by omega),cy (by omega),cy (by omega)⟩
 ·simp only[List.mem_cons,List.not_mem_nil,or_false,not_or];exact⟨cy (by omega),cy (by omega),cy (by omega),cy (by omega)⟩
end Zp
namespace L2
open PySem PySem.Spec PyProof.Rows PySem.W
def Dw (K:Frag)(a b:Addr):It :=
 ⟨λi H=>∃xs ys x y,bV K H a xs/\bV K H b ys/\xs[i]?=some x/\ys[i]?=some y,
  λi H v H'=>∃T x y,(∀xs,bV K H a xs->xs[i]?=some x)/\(∀ys,bV K H b ys->ys[i]?=some y)/\H T=none/\v=.ref T/\H'=upd H T (.tup [x,y]),
  λi H=>∃xs ys,bV K H a xs/\bV K H b ys/\(xs.length<=i\/ys.length<=i)⟩
theorem xu {P:u6}{w:World}{K:Frag}{elts:Aw}{x1:Nat}{tp:Pos}{a b z TI TO i1 i2:Addr}(D:Zp.Apart z TI TO i1 i2 a b):
 Turn P w K (.Tuple elts x1 tp) (Dw K a b) [z,TO,i1,i2,TI] z (λi h=>Zp.Zs h z TI TO i1 i2 a b i) where
 mem:=by simp
 obj:=λi h st c hb=>by
  obtain⟨h1,h2,⟨_,_,h3⟩,⟨o4,h4,_,d4⟩,⟨o5,h5,_,d5⟩⟩:=st
  rcases(by simpa using hb:c=z\/c=TO\/c=i1\/c=i2\/c=TI) with q|q|q|q|q
  ·subst q;exact⟨_,h1,λv q=>by cases q⟩
  ·subst q;exact⟨_,h3,λv q=>by cases q⟩
  ·subst q;exact⟨_,h4,λv q=>by rw[d4] at q;cases q⟩
  ·subst q;exact⟨_,h5,λv q=>by rw[d5] at q;cases q⟩
  ·subst q;exact⟨_,h2,λv q=>by cases q⟩
 keep:=λi h h' st k=>by
  obtain⟨h1,h2,⟨_,_,h3⟩,h4,h5⟩:=st;exact⟨k z (by simp) _ h1,k TI (by simp) _ h2,⟨_,_,k TO (by simp) _ h3⟩,Zp.ie h4 λo q=>k i1 (by simp) o q,Zp.ie h5 λo q=>k i2 (by simp) o q⟩
 item:=by
  intro X hP hw hK hc i pins s σ H E I hf st hg;subst hP hw hK;obtain⟨xs,ys,x,y,hq,hr,hx,hy⟩:=hg;obtain⟨its,rv,p,hz⟩:=I.tuple hq;obtain⟨Nu,GD,p',XN⟩:=I.tuple hr;obtain⟨u,hu,ru⟩:=rv.get hx;obtain⟨v,hv,SX⟩:=GD.get hy;refine Zp.uT D st (show s.heap.IsTuple a its.toArray from p) (show s.heap.IsTuple b Nu.toArray from p') (x:=u) (y:=v) (by simpa using hu) (by simpa using hv) λh' q1 q2 q3 q4 q5 q6=>?_;refine⟨_,rfl,wpAny_letOwnedTupleGo_zip (s:={s with heap:=h'}) q1 λh2 q7 q8=>?_⟩;have lt:∀c o,s.heap.get? c=some o->c≠s.heap.objs.size:=λc o e=>Nat.ne_of_lt (Heap.lt_size e)
  have I1:Inv X pins σ H {s with heap:=h2}:=I.aa8 (t':=s.toks) (ch:=[z,TO,i1,i2]) (λc o hc e=>(q8.2 c λq=>hc (by simp[q])).trans (q6 c o hc e)) λc hc=>hf c (by
   rcases(by simpa using hc:c=z\/c=TO\/c=i1\/c=i2) with q|q|q|q <;> simp[q])
  have nz:s.heap.objs.size≠z:=Ne.symm (lt z _ st.hz);have tup:h2.get? s.heap.objs.size=some {cls:=.type "tuple",data:=.seq #[u,v]}:=(q8.2 _ nz).trans q5;have fr:H s.heap.objs.size=none:=I.hok.fresh (Nat.le_refl _);have I2:=I.abS (xs:=[x,y]) (its:=[u,v]) I1 (Nat.le_refl _) tup (.cons ru (.cons SX .nil)) ic;have up:∀c o,c≠z->h'.get? c=some o->h2.get? c=some o:=λc o hc e=>(q8.2 c hc).trans e;obtain⟨aa,bb,q2⟩:=q2;have SY:IsPair h' TI (.ref i1) (.ref i2):=q6 TI _ (by simp only[List.mem_cons,List.not_mem_nil,or_false,not_or];exact⟨D.TIz,D.TITO,D.TIi1,D.TIi2⟩) st.hTI
  refine⟨.ref s.heap.objs.size,_,I2,rfl,⟨s.heap.objs.size,x,y,λzs M3=>by rw[I.aaG M3 hq];exact hx,λzs M3=>by rw[I.aaG M3 hr];exact hy,fr,rfl,rfl⟩,
   ⟨q7,up _ _ D.TIz SY,⟨aa,bb,up _ _ D.TOz q2⟩,Zp.ie q3 λo e=>up _ o D.i1z e,Zp.ie q4 λo e=>up _ o D.i2z e⟩,λc hb=>?_⟩
  have nb:c≠s.heap.objs.size:=by
   obtain⟨h1,h2,⟨_,_,h3⟩,⟨o4,h4,_,d4⟩,⟨o5,h5,_,d5⟩⟩:=st
   rcases(by simpa using hb:c=z\/c=TO\/c=i1\/c=i2\/c=TI) with q|q|q|q|q <;> subst q
   ·exact lt _ _ h1
   ·exact lt _ _ h3
   ·exact lt _ _ h4
   ·exact lt _ _ h5
   ·exact lt _ _ h2
  rw[ai nb];exact(hf c hb).1
 done:=by
  intro X hP hw hK hc i pins s σ H E I hf st hg;subst hP hw hK;obtain⟨xs,ys,hq,hr,hx⟩:=hg;obtain⟨its,rv,p,hz⟩:=I.tuple hq;obtain⟨Nu,GD,p',XN⟩:=I.tuple hr;have l1:=rv.length;have l2:=GD.length
  refine Zp.tT (I.ok.hd hc) D st (show s.heap.IsTuple a its.toArray from p) (show s.heap.IsTuple b Nu.toArray from p') (by
   rcases hx with q|q
   ·left;simp;omega
   ·right;simp;omega) λh' q=>⟨rfl,?_⟩
  exact I.aa8 (t':=s.toks) (ch:=[z,TO,i1,i2]) q λc hc=>hf c (by
   rcases(by simpa using hc:c=z\/c=TO\/c=i1\/c=i2) with q|q|q|q <;> simp[q])
 self:=λ_ _ _ _ _ st h=>wpAny_pyIter_zip st.hz h
def DP (K:Frag)(ta tb:TE):TI:=λσ H R=>bg ta (bg tb D6) σ H λvs H1=>∃a b xs ys,vs=[.ref a,.ref b]/\bV K H1 a xs/\bV K H1 b ys/\R (Dw K a b) H1
theorem Ba {X:Cx}{ea eb:Expr}{ta tb:TE}{elts:Aw}{x1:Nat}{tp p pos:Pos}(ha:PE X ea ta)(hb:PE X eb tb)(hg:Gl X "zip")(hm:X.mg "zip"=none)(hs:gA ea=false:=by rfl)(Ka:gA eb=false:=by rfl):
 PI X (.Tuple elts x1 tp) (.Call (.Name "zip" p) [ea,eb] [] pos) (DP X.K ta tb):=by
 intro pins s σ H R I h;refine wpAny_Call_Name_kw (gm I hg hm (by rfl) ?_ (by decide) (by decide));refine PyProof.Rows.callWith_type1 (bN (ah ha (ah hb ag Ka) hs pos pins s σ H _ I h) λus s1 z'=>?_) (aY hs) (by rw[aY Ka];rfl);obtain⟨vs,H1,I1,r1,a,b,xs,ys,hv,hq,hr,rr⟩:=z';subst hv;obtain⟨u,u',rfl,ru,SX⟩:=xp r1
 cases(show u=Value.ref a from ru)
 cases(show u'=Value.ref b from SX)
 obtain⟨its,rv,pl,hz⟩:=I1.tuple hq;obtain⟨Nu,GD,XO,XN⟩:=I1.tuple hr;refine Zp.BS (show s1.heap.IsTuple a its.toArray from pl) (show s1.heap.IsTuple b Nu.toArray from XO) λh' q1 q4=>?_;have I2:Inv X pins σ H1 {s1 with heap:=h'}:=I1.kept (t':=s1.toks) q4
 have la:a<s1.heap.objs.size:=by obtain⟨o,e,_⟩:=pl;exact Heap.lt_size e
 have lb:b<s1.heap.objs.size:=by obtain⟨o,e,_⟩:=XO;exact Heap.lt_size e
 refine wpAny_pyIter_zip (s:={s1 with heap:=h'}) q1.hz ?_;refine⟨s1.heap.objs.size+4,[s1.heap.objs.size+4,s1.heap.objs.size+3,s1.heap.objs.size,s1.heap.objs.size+1,s1.heap.objs.size+2],_,Dw X.K a b,H1,rfl,I2,xu (Zp.xo _ _ _ la lb),q1,λc hc=>?_,rr⟩
 have F9:s1.heap.objs.size<=c:=by
  rcases(by simpa using hc:c=s1.heap.objs.size+4\/c=s1.heap.objs.size+3\/c=s1.heap.objs.size\/c=s1.heap.objs.size+1\/c=s1.heap.objs.size+2) with q|q|q|q|q <;> rw[q]
  ·exact Nat.le_add_right _ _
  ·exact Nat.le_add_right _ _
  ·exact Nat.le_refl _
  ·exact Nat.le_add_right _ _
  ·exact Nat.le_add_right _ _
 exact I1.aa1 F9 (I1.hok.fresh F9)
end L2
namespace K80
open PySem L2 PySem.W
abbrev ER:Stmt:=aD (aR 20) 1
abbrev rT:Stmt:=aD (aR 20) 3
abbrev vd:Stmt:=(aR 12)
abbrev iV:Stmt:=(aR 13)
def zw (C:Addr):Sp:=λvs H Q _=>∃(p dx:Addr)(i:Int)(y:V),vs=[.ref p,y]/\H p=some (.ins C dx (cK i)) /\
 ((∃q dy j,y=.ref q/\H q=some (.ins C dy (cK j))/\Q (.bl (decide (i=j))) H)\/∃T,Th H y T/\Q (.bl false) H)
def sM (C:Addr):Sp:=λvs H Q _=>∃(p dx:Addr)(i:Int),vs=[.ref p]/\H p=some (.ins C dx (cK i))/\Q (.int i) H
def cN:V->Bool
 | .int i=>decide (0<=i)&&decide (i<60)
 |_=>false
def ve:Sp:=λvs H Q _=>∃x T,vs=[x]/\Th H x T/\Q (.bl (cN x)) H
variable {P:u6}{w:World}{K:PySem.W.Frag}{mg:wg}{base:Heap}
theorem D9:yI DB DB (aq ER):=dm (by decide +kernel)
variable {f C:Addr}{fd:xR}
theorem CL (F:u3 K "__eq__" "Field.__eq__" ER f fd)(c:zZ K mg C)(n:lB mg):E6 P w K mg base (aN P w) 1 f fd DB (zw C):=by
 refine F.okN D9 (λvs H Q E h=>?_) (λFf A outer s H vs Q E hr h=>?_)
 ·obtain⟨p,dx,i,y,rfl,_⟩:=h;rfl
 ·obtain⟨p,dx,i,y,rfl,hp,h⟩:=h
  refine⟨_,ar (az (cp (aF bu (by rfl) n.isi (by rfl) (dQ (pv 1) (dQ (cD (by rfl) c.mgC (show aE (.ref C) (.ref C) from rfl)) ag)))
   (dJ (aZ cq (aW (pv 0) rfl) (aW (pv 1) rfl) (aB _))))),?_⟩
  rcases h with⟨q,dy,j,rfl,hq,z⟩|⟨T,th,z⟩
  ·refine⟨_,rfl,.ref q,.ref C,_,_,_,rfl,rfl,c.ty hq,c.is,_,rfl,?_⟩;refine bw ?_;refine⟨_,rfl,p,C,dx,_,_,rfl,hp,c.cl,c.nP,rfl,_,rfl,q,C,dy,_,_,rfl,hq,c.cl,c.nP,rfl,rfl,?_⟩
   have e:decide (V.int i=V.int j)=decide (i=j):=by simp
   rw[e];exact z
  ·exact⟨_,rfl,y,.ref C,_,_,_,rfl,rfl,th.ty,c.no th,_,rfl,bH z⟩
theorem xD:yI ["self"] ["self"] (aq rT):=dm (by decide +kernel)
theorem wJ (F:u3 K "prime" "Field.prime" rT f fd)(c:zZ K mg C):E6 P w K mg base (aN P w) 1 f fd ["self"] (sM C):=by
 refine F.okN xD (λvs H Q E h=>?_) (λFf A outer s H vs Q E hr h=>?_)
 ·obtain⟨p,dx,i,rfl,_⟩:=h;rfl
 ·obtain⟨p,dx,i,rfl,hp,q⟩:=h;exact⟨_,ar (az (aW (pv 0) rfl)),_,rfl,p,C,dx,_,_,rfl,hp,c.cl,c.nP,rfl,q⟩
theorem yB:yI pU pU (aq vd):=dm (by decide +kernel)
theorem uY {fw:Addr}{GF:xR}{tM:Tok}(F:u3 K "is_place" "is_place" vd f fd)(mMP:mg "MOST_PLACES"=some (.int 60 tM))
 (FW:E6 P w K mg base (aN P w) 1 fw GF pU C1)(bW:L2.av K GF pU [])(mW:mg "is_whole"=some (.ref fw))(kW:keepIn K (.ref fw)=true):E6 P w K mg base (aN P w) 2 f fd pU ve:=by
 refine F.okN yB (λvs H Q E h=>?_) (λFf A outer s H vs Q E hr h=>?_)
 ·obtain⟨x,T,rfl,_⟩:=h;rfl
 ·obtain⟨x,T,rfl,th,q⟩:=h;have Fp:oJ 1 _:=hr.mono (by decide);refine⟨_,ar (az (cp (ax FW Fp (by rfl) mW kW bW .nil ae (@ah _ _ _ _ _ (pv 0) ag rfl)) (dJ (pz oM i3 ao (pv 0) (cD (by rfl) mMP (show aE (.int 60) (.int 60 tM) from⟨_,rfl⟩)))))),?_⟩;refine⟨_,rfl,x,T,rfl,th,_,rfl,?_⟩
  cases e:eC x with
  |false =>
   have z:cN x=false:=by cases x <;> first|rfl|cases e
   rw[z] at q;exact bH q
  |true =>
   have z1:∃i,x=.int i:=by cases x <;> first|exact⟨_,rfl⟩|cases e
   obtain⟨i,rfl⟩:=z1;refine bw ?_;refine⟨_,rfl,_,_,rfl,rfl,_,rfl,?_⟩;refine c7 (λh=>?_) (λh=>?_)
   ·refine⟨_,_,rfl,rfl,?_⟩;have h':decide (0<=i)=true:=h
    have z:cN (.int i)=decide (i<60):=by show(decide (0<=i)&&decide (i<60))=_;rw[h',Bool.true_and]
    rw[z] at q;exact q
   ·have h':decide (0<=i)=false:=by simpa using h
    have z:cN (.int i)=false:=by show(decide (0<=i)&&decide (i<60))=_;rw[h',Bool.false_and]
    rw[z] at q;exact q
inductive PX (H:Hp):V->Option (List V)->Prop where
 |no {x:V}{T:String}:Th H x T->T ≠ "tuple"->PX H x none
 |tup {a:Addr}{xs:List V}:H a=some (.tup xs)->xs.length<4000->(∀y∈xs,∃T,Th H y T)->PX H (.ref a) (some xs)
def Dp:V->V->Bool
 | .int a,.int b=>decide (a<b)
 |_,_=>false
def jC (xs:List V):Bool:=(xs.zip (xs.drop 1)).all λp=>Dp p.1 p.2
def ke:Option (List V)->Bool
 |none=>false
 |some xs=>xs.all cN&&jC xs
def iW:Sp:=λvs H Q _=>∃x o,vs=[x]/\PX H x o/\∀H',ay H H'->Q (.bl (ke o)) H'
theorem B9 (xs:List V):jm xs (some 1) none=xs.drop 1:=by
 unfold jm HT.dn
 cases xs with
 |nil=>rfl
 |cons x xs=>simp
theorem uV:yI pU pU (aq iV):=dm (by decide +kernel)
theorem qC:∀bs:List Bool,Paired Dz (bs.map V.bl) bs
 |[]=>.nil
 |b::bs=>.cons rfl (qC bs)
theorem qh {fp:Addr}{Gi:xR}(F:u3 K "is_product" "is_product" iV f fd)(Fd:mg "isinstance"=none)(Fo:mg "tuple"=none)(HF:mg "all"=none)(Ip:mg "zip"=none)
 (FP:E6 P w K mg base (aN P w) 2 fp Gi pU ve)(bP:L2.av K Gi pU [])(mP:mg "is_place"=some (.ref fp))(kP:keepIn K (.ref fp)=true):E6 P w K mg base (aN P w) 3 f fd pU iW:=by
 refine F.okN uV (λvs H Q E h=>?_) (λFf A outer s H vs Q E hr h=>?_)
 ·obtain⟨x,o,rfl,_⟩:=h;rfl
 ·obtain⟨x,o,rfl,px,q⟩:=h;have FY:oJ 2 _:=hr.mono (by decide)
  refine⟨_,(aj (bq (PW.pt (iz (cG (cz (aF bu (by rfl) Fd (by rfl) (@ah _ _ _ _ _ (pv 0) (@ah _ _ _ _ _ (dN (by rfl) Fo (by rfl) (show aE (.ty "tuple") (.type "tuple") from rfl)) ag rfl) rfl)))) (gh (cG (cz (aF (oZ rfl) (by rfl) HF (by rfl) (@ah _ _ _ _ _ (cU (N:=["place"]) (nl:=1) (js:=[]) (osc:=aq iV) ⟨rfl,rfl,by decide +kernel,by decide +kernel,by decide +kernel,rfl,.nil,by decide +kernel⟩ rfl
   (vh (pv 0))
   (λC fp s H=>aI (i:=0) (by show(["place"]:E4).Nodup;decide +kernel) rfl (Or.inl rfl) (Or.inr rfl))
   (λC fp s H=>cZ)
   (λC fp s H=>(ax FP FY (by rfl) mP kP bP .nil ae (@ah _ _ _ _ _ (pv 0) ag rfl)))) ag rfl))))))) (ar (az gr)) aM)
   (ar (az (aF (oZ rfl) (by rfl) HF (by rfl) (@ah _ _ _ _ _ (cU (g:=xw K 2 (iL (cc 0) (iL (cc 1) xY))) (N:=["place","later"]) (nl:=2) (js:=[]) (osc:=aq iV) ⟨rfl,rfl,by decide +kernel,by decide +kernel,by decide +kernel,rfl,.nil,by decide +kernel⟩ rfl
    (Ba (pv 0) (jU zr (pv 0) (oB ao) nR) (by rfl) Ip)
    (λC fp s H=>(fJ (X:=iR _ ["place","later"] _ C fp s H) rfl (bo (aI (X:=iR _ ["place","later"] _ C fp s H) (i:=0) (by show(["place","later"]:E4).Nodup;decide +kernel) rfl (Or.inl rfl) (Or.inr rfl)) (bo (aI (X:=iR _ ["place","later"] _ C fp s H) (i:=1) (by show(["place","later"]:E4).Nodup;decide +kernel) rfl (Or.inl rfl) (Or.inr rfl)) dB))))
    (λC fp s H=>cZ)
    (λC fp s H=>(@aZ _ _ _ _ _ _ _ _ i3 (pv 0) (pv 1) (aB _)))) ag rfl))))),?_⟩
  cases px with
  |@no x T th ne =>
   refine⟨_,rfl,x,.ty "tuple",_,_,_,rfl,rfl,th.ty,th.isTup,_,rfl,?_⟩;rw[decide_eq_false ne];exact bw (bw (q _ (ay.refl _)))
  |@tup a xs ha hl hth =>
   refine⟨_,rfl,.ref a,.ty "tuple",_,_,_,rfl,rfl,.of (.tup ha),rfl,_,rfl,bH ?_⟩;have XQ:∀n,n<=xs.length->n<sizeLine:=λn hn=>Nat.lt_of_le_of_lt hn (Nat.lt_trans hl (by decide));refine⟨_,rfl,a,rfl,⟨xs,bV.of ha⟩,?_⟩;refine⟨λi m ys σ' H'=>m=xs.length-i/\i<=xs.length/\ys=((xs.take i).map cN).map V.bl/\H=H'/\∃o,σ'=[o],⟨xs.length,by simp,Nat.zero_le _,by simp,rfl,none,rfl⟩,?_⟩;rintro i m ys σ' H' ⟨rfl,hi,rfl,rfl,o,rfl⟩;refine⟨XQ _ (by simp;omega),?_⟩
   by_cases Fy:i<xs.length
   ·refine .inr ⟨⟨xs,xs[i],bV.of ha,by simp[Fy]⟩,λy H2 hy=>?_⟩;obtain⟨rfl,hy⟩:=hy;have ey:=hy xs (bV.of ha);obtain⟨T,th⟩:=hth y (List.mem_of_getElem? ey);dsimp only[Ee,cc];refine bw ⟨_,rfl,y,T,rfl,th,xs.length-(i+1),by omega,rfl,Fy,?_,rfl,_,rfl⟩
    have e2:xs.take (i+1)=xs.take i++[y]:=by
     rw[List.take_add_one,ey];rfl
    rw[e2];simp
   ·have ei:i=xs.length:=by omega
    subst ei;refine .inl ⟨⟨xs,bV.of ha,Nat.le_refl _⟩,λD hD=>?_⟩;rw[List.take_length];refine⟨D,_,xs.map cN,rfl,aV.of af,qC _,_,rfl,?_⟩;have sD:ay H (upd H D (.lst ((xs.map cN).map V.bl))):=ak hD
    cases hp:(xs.map cN).all id with
    |false =>
     have z:ke (some xs)=false:=by
      show(xs.all cN&&jC xs)=_
      have:xs.all cN=false:=by rw[<-hp,List.all_map];rfl
      rw[this,Bool.false_and]
     rw[z] at q;exact bw (q _ sD)
    |true =>
     refine bH ?_
     have z:ke (some xs)=jC xs:=by
      show(xs.all cN&&jC xs)=_
      have:xs.all cN=true:=by rw[<-hp,List.all_map];rfl
      rw[this,Bool.true_and]
     rw[z] at q;generalize upd H D (.lst ((xs.map cN).map V.bl))=H1 at sD |-;have Jj:=sD _ _ ha
     have hint:∀y∈xs,∃n,y=V.int n:=λy hy=>by
      have:cN y=true:=List.all_eq_true.mp hp _ (List.mem_map_of_mem hy)
      cases y <;> first|exact⟨_,rfl⟩|cases this
     have key:∀(b:Addr)(H2:Hp),ay H H2->H2 a=some (.tup xs)->H2 b=some (.tup (xs.drop 1)) →
      ∃W:Nat->Nat->List V->St->Hp->Prop,(∃m,W 0 m [] [none,none] H2)/\gR (Dw K a b) (xw K 2 (iL (cc 0) (iL (cc 1) xY))) Ee (ll (sY λi j=>V.bl (decide (i<j))) (cg 0) (cg 1)) W
       λys H'=>∀D,H' D=none->∃l zs bs,[V.ref D]=[V.ref l]/\aV K (upd H' D (.lst ys)) l zs/\Paired Dz zs bs/\Q (.bl (bs.all id)) (upd H' D (.lst ys)):=by
      intro b H2 s2 h2a h2b;refine⟨λi m ys σ' H'=>m=(xs.drop 1).length-i/\i<=(xs.drop 1).length/\ys=(((xs.zip (xs.drop 1)).take i).map λp=>Dp p.1 p.2).map V.bl/\ay H2 H'/\∃o1 o2,σ'=[o1,o2],⟨(xs.drop 1).length,by simp,Nat.zero_le _,by simp,ay.refl _,none,none,rfl⟩,?_⟩;rintro i m ys σ' H' ⟨rfl,hi,rfl,sH,o1,o2,rfl⟩;have JA:=sH _ _ h2a;have F9:=sH _ _ h2b;refine⟨XQ _ (by simp;omega),?_⟩
      by_cases Fy:i<(xs.drop 1).length
      ·have S0:i<xs.length:=by rw[List.length_drop] at Fy;omega
       refine .inr ⟨⟨xs,xs.drop 1,xs[i],(xs.drop 1)[i],bV.of JA,bV.of F9,by simp[S0],by rw[List.getElem?_eq_getElem Fy]⟩,λv H3 hv=>?_⟩;obtain⟨T,x,y,hx,hy,hT,rfl,rfl⟩:=hv;have ex:=hx xs (bV.of JA);have ey:=hy (xs.drop 1) (bV.of F9);obtain⟨n,rfl⟩:=hint x (List.mem_of_getElem? ex);obtain⟨k,rfl⟩:=hint y (List.mem_of_mem_drop (List.mem_of_getElem? ey));refine⟨T,_,rfl,bV.of af,rfl,_,_,rfl,_,_,rfl,rfl,?_⟩;dsimp only[Ee];refine bw ⟨_,rfl,_,rfl,n,k,rfl,rfl,(xs.drop 1).length-(i+1),by omega,rfl,Fy,?_,λc u e=>?_,_,_,rfl⟩
       ·have ez:(xs.zip (xs.drop 1))[i]?=some (V.int n,V.int k):=by
         rw[List.getElem?_zip_eq_some];exact⟨ex,ey⟩
        have e2:(xs.zip (xs.drop 1)).take (i+1)=(xs.zip (xs.drop 1)).take i++[(V.int n,V.int k)]:=by
         rw[List.take_add_one,ez];rfl
        rw[e2];simp[Dp]
       ·rw[ai (au (sH _ _ e) hT)];exact sH _ _ e
      ·have ei:i=(xs.drop 1).length:=by omega
       subst ei;refine .inl ⟨⟨xs,xs.drop 1,bV.of JA,bV.of F9,.inr (Nat.le_refl _)⟩,λD' Nv=>?_⟩
       have et:(xs.zip (xs.drop 1)).take (xs.drop 1).length=xs.zip (xs.drop 1):=by
        apply List.take_of_length_le;rw[List.length_zip];exact Nat.min_le_right _ _
       rw[et];refine⟨D',_,(xs.zip (xs.drop 1)).map λp=>Dp p.1 p.2,rfl,aV.of af,qC _,?_⟩
       have er:((xs.zip (xs.drop 1)).map λp=>Dp p.1 p.2).all id=jC xs:=by rw[List.all_map];rfl
       rw[er];refine q _ λc u e=>?_;have e1:=sH _ _ (s2 _ _ e);rw[ai (au e1 Nv)];exact e1
     refine⟨_,rfl,_,rfl,1,rfl,a,xs,rfl,bV.of Jj,λe=>?_,λp XR=>?_⟩
     ·rw[B9] at e;exact⟨a,a,xs,xs.drop 1,rfl,bV.of Jj,bV.of (by rw[e];exact Jj),key a H1 sD Jj (by rw[e];exact Jj)⟩
     ·rw[B9];have np:a≠p:=au Jj XR;exact⟨a,p,xs,xs.drop 1,rfl,bV.of (by rw[ai np];exact Jj),bV.of af,key p _ (λc u e=>by rw[ai (au (sD _ _ e) XR)];exact sD _ _ e) (by rw[ai np];exact Jj) af⟩
abbrev zE:Stmt:=(aR 29)
theorem PX.same {H H':Hp}{x:V}{o:Option (List V)}(h:PX H x o)(s:ay H H'):PX H' x o:=by
 cases h with
 |no th n=>exact .no (th.same s) n
 |tup e l h=>exact .tup (s _ _ e) l λy hy=>let⟨T,t⟩:=h y hy;⟨T,t.same s⟩
inductive Cd (p:Int)(H:Hp):V->Bool->Prop where
 |no {x:V}{T:String}:Th H x T->T ≠ "tuple"->Cd p H x false
 |odd {a:Addr}{xs:List V}:H a=some (.tup xs)->xs.length≠2->Cd p H (.ref a) false
 |two {a:Addr}{y z:V}{o:Option (List V)}{o2:Option (V×V)}:H a=some (.tup [y,z])->PX H y o->TX H z o2->Cd p H (.ref a) (ke o&&vo p o2)
theorem Cd.same {p:Int}{H H':Hp}{x:V}{b:Bool}(h:Cd p H x b)(s:ay H H'):Cd p H' x b:=by
 cases h with
 |no th n=>exact .no (th.same s) n
 |odd e n=>exact .odd (s _ _ e) n
 |two e h1 h2=>exact .two (s _ _ e) (h1.same s) (h2.same s)
def wW (C:Addr):Sp:=λvs H Q _=>∃(s dx:Addr)(p:Int)(x:V)(b:Bool),vs=[.ref s,x]/\H s=some (.ins C dx (cK p))/\FP p/\Cd p H x b/\∀H',ay H H'->Q (.bl b) H'
theorem Ag:yI pS pS (aq zE):=dm (by decide +kernel)
theorem xM {fp fi:Addr}{Gi HG:xR}(F:u3 K "is_term" "is_term" zE f fd)(c:zZ K mg C)(Fd:mg "isinstance"=none)(Fo:mg "tuple"=none)(Fj:mg "len"=none)
 (FP':E6 P w K mg base (aN P w) 3 fp Gi pU iW)(bP:L2.av K Gi pU [])(mP:mg "is_product"=some (.ref fp))(kP:keepIn K (.ref fp)=true)
 (FI:E6 P w K mg base (aN P w) 2 fi HG CG (kg C))(bI:L2.av K HG CG [])(mI:L2.Meth K C "is_number" fi):E6 P w K mg base (aN P w) 4 f fd pS (wW C):=by
 refine F.okN Ag (λvs H Q E h=>?_) (λFf A outer s H vs Q E hr h=>?_)
 ·obtain⟨s,dx,p,x,b,rfl,_⟩:=h;rfl
 ·obtain⟨s0,dx,p,x,b,rfl,hs,hp,tx,q⟩:=h;have F5:oJ 3 _:=hr.mono (by decide);have FY:oJ 2 _:=hr.mono (by decide)
  refine⟨_,ar (az (cp (aF bu (by rfl) Fd (by rfl) (@ah _ _ _ _ _ (pv 1) (@ah _ _ _ _ _ (dN (by rfl) Fo (by rfl) (show aE (.ty "tuple") (.type "tuple") from rfl)) ag rfl) rfl))
   (cp (@aZ _ _ _ _ _ _ _ _ cq (aF bx (by rfl) Fj PySem.boot_len (@ah _ _ _ _ _ (pv 1) ag rfl)) ao (aB _))
   (cp (ax FP' F5 (by rfl) mP kP bP .nil ae (@ah _ _ _ _ _ (@a9 _ _ _ _ _ _ _ bQ (pv 1) ao (λ_ _=>rfl)) ag rfl))
   (dJ (fZ (pv 0) c.cl mI FI FY bI .nil ae (@ah _ _ _ _ _ (@a9 _ _ _ _ _ _ _ bQ (pv 1) ao (λ_ _=>rfl)) ag rfl))))))),?_⟩
  cases tx with
  |@no x T th ne =>
   refine⟨_,rfl,x,.ty "tuple",_,_,_,rfl,rfl,th.ty,th.isTup,_,rfl,?_⟩;rw[decide_eq_false ne];exact bH (q _ (ay.refl _))
  |@odd a xs ha hl =>
   refine⟨_,rfl,.ref a,.ty "tuple",_,_,_,rfl,rfl,.of (.tup ha),rfl,_,rfl,bw ?_⟩;refine⟨_,rfl,a,_,rfl,.inr (bV.of ha),rfl,_,rfl,?_⟩;refine c7 (λh=>absurd h (by simp;omega)) (λh=>?_);exact q _ (ay.refl _)
  |@two a y z o o2 ha hy hz =>
   refine⟨_,rfl,.ref a,.ty "tuple",_,_,_,rfl,rfl,.of (.tup ha),rfl,_,rfl,bw ?_⟩;refine⟨_,rfl,a,_,rfl,.inr (bV.of ha),rfl,_,rfl,bw ?_⟩;refine⟨_,rfl,a,_,0,y,rfl,rfl,bV.of ha,rfl,y,o,rfl,hy,λH' sH=>⟨_,rfl,?_⟩⟩;have Ka:=sH _ _ hs;have JA:=sH _ _ ha
   cases e:ke o with
   |false =>
    rw[e,Bool.false_and] at q;exact bH (q _ sH)
   |true =>
    rw[e,Bool.true_and] at q;refine bw ⟨_,rfl,s0,dx,_,rfl,Ka,rfl,_,rfl,a,_,1,z,rfl,rfl,bV.of JA,rfl,s0,dx,p,z,o2,rfl,Ka,hp,hz.same sH,q _ sH⟩
abbrev p7:Stmt:=(aR 30)
abbrev pW:Stmt:=(aR 31)
def mx (C:Addr):Sp:=λvs H Q _=>∃(s dx:Addr)(p:Int)(x:V),vs=[.ref s,x]/\H s=some (.ins C dx (cK p))/\FP p /\
 ((x=.non/\∀l,H l=none->Q (.ref l) (upd H l (.lst [])))\/∃l ys,x=.ref l/\H l=some (.lst ys)/\ys.length<4000/\(∀y∈ys,Cd p H y true)/\∀H',ay H H'->Q (.ref l) H')
def ua:Sp:=λvs H Q _=>∃(a b:Addr)(z:V)(xs:List V),vs=[.ref a]/\H a=some (.tup [.ref b,z])/\H b=some (.tup xs)/\∀t,H t=none->Q (.ref t) (upd H t (.tup [.int xs.length,.ref b]))
theorem jj:yI ["field","terms","number","thing"] wA (aq p7):=dm (by decide +kernel)
theorem tZ:yI ["term"] ["term"] (aq pW):=dm (by decide +kernel)
theorem qr (F:u3 K "place_of_term" "place_of_term" pW f fd)(Fj:mg "len"=none):E6 P w K mg base (aN P w) 1 f fd ["term"] ua:=by
 refine F.okN tZ (λvs H Q E h=>?_) (λFf A outer s H vs Q E hr h=>?_)
 ·obtain⟨a,b,z,xs,rfl,_⟩:=h;rfl
 ·obtain⟨a,b,z,xs,rfl,ha,hb,q⟩:=h;refine⟨_,(ar (az (@bX _ _ _ _ _ (@ah _ _ _ _ _ (aF bx (by rfl) Fj PySem.boot_len (@ah _ _ _ _ _ (@a9 _ _ _ _ _ _ _ bQ (pv 0) ao (λ_ _=>rfl)) ag rfl)) (@ah _ _ _ _ _ (@a9 _ _ _ _ _ _ _ bQ (pv 0) ao (λ_ _=>rfl)) ag rfl) rfl)))),?_⟩;refine⟨_,rfl,a,_,0,_,rfl,rfl,bV.of ha,rfl,b,xs,rfl,.inr (bV.of hb),_,rfl,a,_,0,_,rfl,rfl,bV.of ha,rfl,ic,λt ht=>q t ht⟩
theorem qV {ft:Addr}{F0:xR}(F:u3 K "checked_terms" "checked_terms" p7 f fd)(Fd:mg "isinstance"=none)(Fg:mg "list"=none)(Fs:mg "enumerate"=none)
 (FT:E6 P w K mg base (aN P w) 4 ft F0 pS (wW C))(bT:L2.av K F0 pS [])(mT:mg "is_term"=some (.ref ft))(kT:keepIn K (.ref ft)=true):E6 P w K mg base (aN P w) 5 f fd wA (mx C):=by
 refine F.okN jj (λvs H Q E h=>?_) (λFf A outer s H vs Q E hr h=>?_)
 ·obtain⟨s,dx,p,x,rfl,_⟩:=h;rfl
 ·obtain⟨s0,dx,p,x,rfl,hs,hp,h⟩:=h;have HV:oJ 4 _:=hr.mono (by decide)
  refine⟨_,(aj (bq (@aL _ _ _ _ _ _ _ _ om (pv 1) dj (aB _)) (ar (az (@bY _ _ _ _ ag))) aM)
   (aj (bq (cG (cz (aF bu (by rfl) Fd (by rfl) (@ah _ _ _ _ _ (pv 1) (@ah _ _ _ _ _ (dN (by rfl) Fg (by rfl) (show aE (.ty "list") (.type "list") from rfl)) ag rfl) rfl)))) (ar (pY)) aM)
   (aj (iG PassesOwn.never rfl (sW (pv 1) (by rfl) Fs) (fJ rfl (bo (aI (i:=2) jj.nd rfl (Or.inl rfl)) (bo (aI (i:=3) jj.nd rfl (Or.inl rfl)) dB)))
   (ar (bq (cG (cz (ax FT HV (by rfl) mT kT bT .nil ae (@ah _ _ _ _ _ (pv 0) (@ah _ _ _ _ _ (pv 3) ag rfl) rfl)))) (ar (pY)) aM)))
   (ar (az (pv 1)))))),?_⟩
  rcases h with⟨rfl,q⟩|⟨l,ys,rfl,hl,hlen,S9,q⟩
  ·refine⟨_,rfl,rfl,_,rfl,?_⟩;exact bw ⟨Nat.zero_le _,λl hl=>q l hl⟩
  ·refine⟨_,rfl,rfl,_,rfl,bH ?_⟩;refine⟨_,rfl,.ref l,.ty "list",_,_,_,rfl,rfl,.of (.lst hl),rfl,_,rfl,bH ?_⟩;refine⟨_,rfl,l,ys,rfl,aV.of hl,?_⟩;refine⟨λi m σ' H'=>m=ys.length-i/\i<=ys.length/\ay H H'/\∃o1 o2,σ'=[some (.ref s0),some (.ref l),o1,o2],⟨ys.length,by simp,Nat.zero_le _,ay.refl _,none,none,rfl⟩,?_⟩;rintro i m σ' H' ⟨rfl,hi,sH,o1,o2,rfl⟩;have Gk:=sH _ _ hl
   by_cases Fy:i<ys.length
   ·refine .inr ⟨⟨ys,ys[i],aV.of Gk,by simp[Fy]⟩,λσ' H'=>i+1<=ys.length/\ay H H'/\∃o1 o2,σ'=[some (.ref s0),some (.ref l),o1,o2],?_,λv H2 hv=>?_⟩
    ·rintro σ' H' ⟨h1,h2,h3⟩;exact⟨ys.length-(i+1),by omega,rfl,h1,h2,h3⟩
    ·obtain⟨T,y,hy,hT,rfl,rfl⟩:=hv;have ey:=hy ys (aV.of Gk)
     have s2:ay H (upd H' T (.tup [.int i,y])):=λc u e=>by
      rw[ai (au (sH _ _ e) hT)];exact sH _ _ e
     have ty:=(S9 y (List.mem_of_getElem? ey)).same s2;refine⟨T,_,rfl,bV.of af,rfl,_,_,rfl,_,_,rfl,rfl,?_⟩;refine⟨_,rfl,_,rfl,s0,dx,p,y,true,rfl,s2 _ _ hs,hp,ty,λH3 s3=>⟨_,rfl,bH ?_⟩⟩;exact⟨Fy,λc u e=>s3 _ _ (s2 _ _ e),_,_,rfl⟩
   ·refine .inl ⟨⟨ys,aV.of Gk,by omega⟩,?_⟩;exact⟨_,rfl,q _ sH⟩
end K80
namespace Srt
open PySem PySem.W PyProof.Rows L2
def mf (sp:Sp):List V->Hp->(List V->Hp->Prop)->Prop
 |[],H,R=>R [] H
 |x::xs,H,R=>sp [x] H (λk H1=>mf sp xs H1 λks H2=>R (k::ks) H2) λ_ _ _=>False
variable {b:Addr}{ob:Obj}
section
variable {X:Cx}{pins:List (Addr×Obj)}{σ:L2.St}{H:Hp}{s:AQ}
theorem ug {D:Addr}{o:HO}(I:Inv X pins σ H s)(f:dq X pins H D)(hD:X.s₀.heap.objs.size<=D)(new:bc X.prog X.w (upd H D o) s.heap D o):Inv X pins σ (upd H D o) s:=by
 obtain⟨f0,f1,f2,f3,f4,f5⟩:=f;have u:=I.base;refine⟨I.ok,I.os,I.bare,⟨u.keep,u.slot,λb' o' e n hx=>?_,u.there,λb' xs e=>?_,λb' o' u' e=>?_,λb' ps e=>?_⟩,I.loc,I.cell,?_,λx c e=>?_,λp hp=>?_,dX I.hok f0 new,I.len⟩
 ·rw[ai (Nat.ne_of_lt (Nat.lt_of_lt_of_le (Heap.lt_size e) hD))];exact u.free b' o' e n hx
 ·rw[ai (au (u.aaq b' xs e) f0)];exact u.aaq b' xs e
 ·rw[ai (au (u.aap b' o' u' e) f0)];exact u.aap b' o' u' e
 ·obtain⟨m,q⟩:=u.aav b' ps e;exact⟨m,by rw[ai (au q f0)];exact q⟩
 ·rw[ai (Ne.symm f1)];exact I.free
 ·rw[ai (f4 x c e)];exact I.aan x c e
 ·obtain⟨e,n,r⟩:=I.pin p hp;exact⟨e,by rw[ai (f5 p hp)];exact n,r⟩
theorem ym {c:Addr}(f:dq X pins H b)(h:c≠b):dq X (pins++[(c,ob)]) H b:=by
 obtain⟨f0,f1,f2,f3,f4,f5⟩:=f;refine⟨f0,f1,f2,f3,f4,λp hp=>?_⟩;rw[<-List.append_assoc] at hp
 rcases List.mem_append.mp hp with z|z
 ·exact f5 p z
 ·have e:p=(c,ob):=by simpa using z
  subst e;exact h
theorem nC {H':Hp}(f:dq X pins H b)(h:H' b=none):dq X pins H' b:=⟨h,f.2⟩
theorem sj (I:Inv X pins σ H s)(f:dq X pins H b)(e:s.heap.get? b=some ob)(d:∀v,ob.data≠.cell v):Inv X (pins++[(b,ob)]) σ H s:=I.aaF λp hp=>by
 rcases List.mem_append.mp hp with z|z
 ·exact I.pin p (List.mem_append_right _ z)
 ·have e1:p=(b,ob):=by simpa using z
  subst e1;exact⟨e,f.1,f.2.1,f.2.2.1,d⟩
theorem mv (I:Inv X (pins++[(b,ob)]) σ H s):Inv X pins σ H s:=I.aaF λp hp=>I.pin p (List.mem_append_right _ (List.mem_append_left _ hp))
theorem wY (I:Inv X (pins++[(b,ob)]) σ H s):s.heap.get? b=some ob/\H b=none:=by
 obtain⟨e,n,_⟩:=I.pin (b,ob) (List.mem_append_right _ (List.mem_append_right _ (by simp)));exact⟨e,n⟩
end
theorem kY {c:String}{xs:tN}{n:Nat}:∀v,(seqObj c xs n).data≠.cell v:=λv z=>by cases z
variable {H:Hp}{s:AQ}{Q:VK}
section
variable {X:Cx}{pins:List (Addr×Obj)}{σ:L2.St}{k:Nat}{f:Addr}{fd:xR}{ps:E4}{sp:Sp}{A:Around}{E:vy}
theorem xm {x:V}{u:Value}(F:E6 X.prog X.w X.K X.mg X.base (aN X.prog X.w) k f fd ps sp)(hr:oJ k A)(hA:∀H s,Inv X pins σ H s->Ce X.prog X.w X.K X.mg X.base A X.stack s H)(hb:av X.K fd ps [])(I:Inv X pins σ H s)(r:aE x u)(h:sp [x] H Q λ_ _ _=>False):
 wpAny (model X.prog X.w) A (call (.ref f) [u]) (EP X pins σ Q) (λ_ _=>False) s:=by
 have hl:([u]:nZ).length+([]:nZ).length=ps.length:=by have:=F.len _ _ _ _ h;simpa using this
 have bd:=hb s [u] I.kIn hl;rw[List.append_nil] at bd;refine wpAny_call (codeAny_mono (F.run A X.stack s H ⟨[u],[]⟩ [u] [x] Q _ hr (hA H s I) bd (.cons r .nil) h) λres s' hq=>?_)
 cases res with
 |error e =>
  obtain⟨a,cls,a0,B,d,H',_,_,_,_,hE⟩:=hq;exact hE.elim
 |ok fl =>
  cases fl with
  |ret v=>exact I.after hq
  |next=>exact False.elim hq
  |brk=>exact False.elim hq
  |cont=>exact False.elim hq
end
abbrev jW (X:Cx)(xs:List V)(Q:VK):List V->Hp->Prop:=λks H2=>∃kz,dS X.K H2 ks kz/\kz.Nodup/\∀D,H2 D=none->Q (.ref D) (upd H2 D (.lst ((fj (kz.zip xs)).map (·.2))))
variable {xs:List V}
section
variable {X:Cx}{pins:List (Addr×Obj)}{σ:L2.St}{k:Nat}{f:Addr}{fd:xR}{ps:E4}{sp:Sp}{A:Around}{E:vy}
theorem yL {ks vs:nZ}(h:ks.length=vs.length):((ks.toArray.zip vs.toArray).map (·.2))=vs.toArray:=by
 apply Array.toList_inj.mp;rw[Array.toList_map,ksk_zip];simp only[List.toList_toArray] at *;exact List.map_snd_zip (by omega)
theorem uP {D kS:Addr}{e1 c:Nat}{kV:List V}{us ks:nZ}{P:PySem.Fin->Shared->Prop}(hA:A.units+2<cLine)(hD:X.s₀.heap.objs.size<=D)(fD:dq X pins H D)(fS:dq X pins H kS)(ne:kS≠D)
 (I:Inv X pins σ H s)(eD:s.heap.get? D=some (seqObj "list" #[] e1))(eS:s.heap.get? kS=some (seqObj "list" ks.toArray c))(rx:aG xs us)(Ln:aG kV ks)(hl:kV.length=xs.length)(h64:xs.length<64)(w:jW X xs Q kV H)
 (hP:∀s',EP X pins σ Q (.ref D) s'->P (.done (.ret .none)) s'):wpAny (model X.prog X.w) A (ksk_end D false us.toArray e1 (.ref kS) ks.toArray) P E s:=by
 obtain⟨kz,hk,nd,q⟩:=w;have l1:=rx.length;have l2:=Ln.length;have l3:=hk.len;have inj:=AX nd
 have fin:∀p,Pm xs.length (rk kz) p->Up (rk kz) p xs.length->∀st:SortSt,(arrOf st).map (·.2)=(iw us p).toArray->failedOf st=none->wpAny (model X.prog X.w) A (ksk_tail D false e1 (.ref kS) st) P E s:=λp pm up st Ta hf=>by
  have Tb:=vI rx pm (Nat.le_refl _);rw[wN (by omega) nd pm up] at Tb
  have hlen:((fj (kz.zip xs)).map (·.2)).length<=sizeLine:=by
   rw[List.length_map,(eE _).length_eq,List.length_zip];exact Nat.le_trans (Nat.min_le_right _ _) (gM h64)
  have Tc:(iw us p).toArray.size<=sizeLine:=by rw[List.size_toArray,<-Tb.length];exact hlen
  have Gy:=Heap.SameBut.update s.heap kS (Obj.mapSeq λ_=>(#[]:tN));have Kb:(s.heap.update kS (Obj.mapSeq λ_=>(#[]:tN))).get? D=some (seqObj "list" #[] e1):=(Gy.2 D (Ne.symm ne)).trans eD;have I1:Inv X pins σ H {s with heap:=s.heap.update kS (Obj.mapSeq λ_=>(#[]:tN))}:=dA I fS Gy;unfold ksk_tail;dsimp only;rw[Ta];refine wpAny_bind (listUpdate_at eS rfl (wpAny_bind (wpAny_letGo ?_)) (by rw[List.size_toArray,<-l2,hl];exact gM h64) (Nat.zero_le _));generalize s.heap.update kS (Obj.mapSeq λ_=>(#[]:tN))=h1 at Kb I1 |-;have FQ:=Heap.SameBut.update h1 D (Obj.mapSeq λ_=>(iw us p).toArray);obtain⟨c2,Mq⟩:∃c2,(h1.update D (Obj.mapSeq λ_=>(iw us p).toArray)).get? D=some (seqObj "list" (iw us p).toArray c2):=⟨_,get?_update_seq Kb λ_=>(iw us p).toArray⟩;have I2:Inv X pins σ H {s with heap:=h1.update D (Obj.mapSeq λ_=>(iw us p).toArray)}:=dA (s:={s with heap:=h1}) I1 fD FQ;have I3:=ug (o:=.lst ((fj (kz.zip xs)).map (·.2))) I2 fD hD ⟨hlen,_,c2,Tb,Mq⟩;refine wpAny_bind (seqEpoch_at Kb rfl (wpAny_bind (listUpdate_at Kb rfl ?_ (Nat.zero_le _) (Nat.le_succ_of_le Tc))));rw[hf];simp only[bne_self_eq_false,Bool.false_eq_true,if_false];exact wpAny_pure (hP _ ⟨.ref D,_,I3,rfl,q D fD.1⟩)
 have P0:Pm xs.length (rk kz) (List.range xs.length).toArray:=tG (λi j hi hj=>inj i j (by omega) (by omega)) (Array.Perm.refl _);unfold ksk_end;dsimp only;rw[if_neg Bool.false_ne_true];simp only[Bool.false_eq_true,if_false]
 by_cases h2:us.toArray.size<2
 ·have small:xs.length<2:=by rw[l1];simpa using h2
  rw[if_pos h2,if_pos h2];refine wpAny_bind (wpAny_pure ?_);rw[StateT.run_pure];refine wpAny_bind (wpAny_pure ?_);refine fin (List.range xs.length).toArray P0 (λi j HP hj=>by omega) _ ?_ rfl;show(ks.toArray.zip us.toArray).map (·.2)=_;rw[yL (by omega),l1,vO]
 ·have big:2<=us.length:=by simpa using h2
  rw[if_neg h2,if_neg h2];obtain⟨κ,Io,Td⟩:=qQ (A:=A) I hA hk Ln nd (by omega);refine wpAny_bind (wpAny_mono (Io (λκ' s0=>(kas_sort us.length).kasWp (kas_ask X.prog X.w A κ' ks) (λp s'=>s'=s/\Pm us.length (rk kz) p/\Up (rk kz) p us.length) s0) (xV (n:=us.length) (r:=rk kz) (λi j hi hj=>inj i j (by omega) (by omega)) (λi j C hi hj=>Td i j C (by omega) (by omega)) (by omega) λp pm up=>⟨rfl,pm,up⟩)) (λκ' s0 hw=>?_) λ_ _ x=>x.elim);refine wpAny_bind (wpAny_mono (kat_run (κ:=κ') (Q:=λGS s'=>∃p:Array Nat,arrOf GS=p.map (kas_item (ks.toArray.zip us.toArray))/\failedOf GS=none/\s'=s/\Pm us.length (rk kz) p/\Up (rk kz) p us.length) (by omega) big (by omega) (λp' GS s' _ a2 a3 a4=>⟨p',a2,a3,a4⟩) hw) ?_ λ_ _ e=>e);rintro⟨⟨⟩,GS⟩ s' ⟨p,Ta,hf,rfl,pm,up⟩;exact fin p (by rw[l1];exact pm) (by rw[l1];exact up) GS (kat_snds (by omega) Ta) hf
theorem vK {α:Type}{l:List α}{j:Nat}{x:α}(h:l[j]?=some x):l.drop j=x::l.drop (j+1):=by
 obtain⟨hj,e⟩:=List.getElem?_eq_some_iff.mp h;rw[List.drop_eq_getElem_cons hj,e]
theorem lL {D:Addr}{n:Nat}{us:nZ}{P:PySem.Fin->Shared->Prop}(F:E6 X.prog X.w X.K X.mg X.base (aN X.prog X.w) k f fd ps sp)(hr:oJ k A)(hE:∀pins' H s,Inv X pins' σ H s->Ce X.prog X.w X.K X.mg X.base A X.stack s H)(hb:av X.K fd ps [])
 (hD:X.s₀.heap.objs.size<=D)(fD:dq X pins H D)(I:Inv X pins σ H s)(eD:s.heap.get? D=some (seqObj "list" us.toArray n))(rx:aG xs us)(h64:xs.length<64)(h:mf sp xs H (jW X xs Q))
 (hP:∀s',EP X pins σ Q (.ref D) s'->P (.done (.ret .none)) s'):wpAny (model X.prog X.w) A (ksk_tree D (.ref f) false) P E s:=by
 have l1:=rx.length
 have s64:us.toArray.size<=sizeLine:=by rw[List.size_toArray,<-l1];exact gM h64
 obtain⟨e1,Kb⟩:∃e1,(s.heap.update D (Obj.mapSeq λ_=>(#[]:tN))).get? D=some (seqObj "list" #[] e1):=⟨_,get?_update_seq eD λ_=>#[]⟩;have I1:Inv X pins σ H {s with heap:=s.heap.update D (Obj.mapSeq λ_=>(#[]:tN))}:=dA I fD (Heap.SameBut.update _ _ _);unfold ksk_tree;refine wpAny_bind (listItems_at eD rfl (wpAny_bind (listUpdate_at eD rfl (wpAny_bind (seqEpoch_at Kb rfl (wpAny_bind (wpAny_newTuple ?_ (by show us.length<=_;rw[<-l1];exact gM h64))))) s64 (Nat.zero_le _))));refine wpAny_bind (wpAny_newList (wpAny_holding ?_) (Nat.zero_le _));generalize s.heap.update D (Obj.mapSeq λ_=>(#[]:tN))=h1 at Kb I1 |-;dsimp only;have I2:Inv X pins σ H {s with heap:=h1.push (seqObj "tuple" us.toArray 0)}:=I1.kept (t':=s.toks) λb o q=>Heap.get?_push_of_some _ q;have Kc:(h1.push (seqObj "tuple" us.toArray 0)).get? D=some (seqObj "list" #[] e1):=Heap.get?_push_of_some _ Kb;show wpAny (model X.prog X.w) A (ksk_rest D (.ref f) false us.toArray e1 (.ref (h1.push (seqObj "tuple" us.toArray 0)).objs.size)) P E {s with heap:=(h1.push (seqObj "tuple" us.toArray 0)).push (seqObj "list" #[] 0)};generalize h1.push (seqObj "tuple" us.toArray 0)=h2 at I2 Kc |-;have ne:h2.objs.size≠D:=Nat.ne_of_gt (Heap.lt_size Kc);have Tf:dq X pins H h2.objs.size:=I2.aa1 (Nat.le_refl _) (I2.hok.fresh (Nat.le_refl _));have I3:Inv X pins σ H {s with heap:=h2.push (seqObj "list" #[] 0)}:=I2.kept (t':=s.toks) λb o q=>Heap.get?_push_of_some _ q;have eD3:(h2.push (seqObj "list" #[] 0)).get? D=some (seqObj "list" #[] e1):=Heap.get?_push_of_some _ Kc;have XS:(h2.push (seqObj "list" #[] 0)).get? h2.objs.size=some (seqObj "list" ([]:nZ).toArray 0):=Heap.get?_push_size _ rfl;have fD':∀{H':Hp},H' D=none->dq X pins H' D:=λz=>nC fD z;have Tg:∀{H':Hp},H' h2.objs.size=none->dq X pins H' h2.objs.size:=λz=>nC Tf z;generalize h2.objs.size=kS at ne Tf XS Tg |-;unfold ksk_rest;refine wpAny_bind (wpAny_rule ?_);rw[List.forIn_toArray]
 let II:Nat->Shared->Prop:=λj s'=>∃(H':Hp)(c:Nat)(kV:List V)(ks:nZ),Inv X (pins++[(D,seqObj "list" #[] e1)]) σ H' s'/\s'.heap.get? kS=some (seqObj "list" ks.toArray c)/\H' kS=none/\aG kV ks/\kV.length=j/\mf sp (xs.drop j) H' λk2 H2=>jW X xs Q (kV++k2) H2
 have I4:Inv X (pins++[(D,seqObj "list" #[] e1)]) σ H {s with heap:=h2.push (seqObj "list" #[] 0)}:=sj I3 fD eD3 kY;refine wpAny_bind (wpAny_mono (ksk_fold (E:=E) (Q:=λ_ s'=>II us.length s') II us 0 {s with heap:=h2.push (seqObj "list" #[] 0)} ⟨H,0,[],[],I4,XS,Tf.1,.nil,rfl,by simpa using h⟩ (λj u s' hu hI=>?_) λs' hd=>by simpa using hd) (λ_ s' hI=>?_) λ_ _ e=>e)
 ·rw[Nat.zero_add] at hI |-;obtain⟨H',c,kV,ks,J,eS,nS,Ln,hl,t⟩:=hI;have hj:j<us.length:=(List.getElem?_eq_some_iff.mp hu).1;obtain⟨x,hx⟩:∃x,xs[j]?=some x:=⟨xs[j]'(by omega),by simp[show j<xs.length by omega]⟩;obtain⟨u',XT,rx'⟩:=rx.get hx;rw[hu] at XT
  cases XT
  rw[vK hx] at t;have XU:dq X (pins++[(D,seqObj "list" #[] e1)]) H' kS:=ym (Tg nS) (Ne.symm ne);have J2:=sj J XU eS kY;refine wpAny_bind (wpAny_attempt (wpAny_mono (xm F hr (hE _) hb J2 rx' t) (λkv s2 hk=>?_) λ_ _ z=>z.elim));obtain⟨v,H2,J3,rv,t2⟩:=hk;obtain⟨XW,XX⟩:=wY J3;have J4:=mv J3;have fS2:dq X (pins++[(D,seqObj "list" #[] e1)]) H2 kS:=nC XU XX
  have ea:ks.toArray.push kv=(ks++[kv]).toArray:=by simp
  obtain⟨c2,Mq⟩:∃c2,(s2.heap.update kS (Obj.mapSeq (·.push kv))).get? kS=some (seqObj "list" (ks++[kv]).toArray c2):=⟨_,by rw[<-ea];exact get?_update_seq XW (·.push kv)⟩;have lk:=Ln.length;refine wpAny_bind (listUpdate_at XW rfl ?_ (by rw[List.size_toArray];exact gM (by omega)) (Nat.le_trans (Nat.le_of_eq (Array.size_push ..)) (by rw[List.size_toArray];exact Nat.succ_le_succ (gM (by omega)))));refine wpAny_pure ⟨rfl,H2,c2,kV++[v],ks++[kv],dA J4 fS2 (Heap.SameBut.update _ _ _),Mq,XX,Ln.append (.cons rv .nil),by simp[hl],?_⟩
  have e:∀k2:List V,kV++[v]++k2=kV++v::k2:=λk2=>by simp
  simp only[e];exact t2
 ·obtain⟨H',c,kV,ks,J,eS,nS,Ln,hl,t⟩:=hI;rw[<-l1,List.drop_length] at t
  have w:jW X xs Q kV H':=by
   have z:jW X xs Q (kV++[]) H':=t;rwa[List.append_nil] at z
  obtain⟨eD4,nD⟩:=wY J;refine wpAny_bind (listItems_at eS rfl ?_);exact uP (by have:=hr.units;omega) hD (fD' nD) (Tg nS) ne (mv J) eD4 eS rx Ln (by omega) h64 w hP
theorem rm {l:Addr}(F:E6 X.prog X.w X.K X.mg X.base (aN X.prog X.w) k f fd ps sp)(hr:oJ (k+2) X.A)(hb:av X.K fd ps [])
 (I:Inv X pins σ H s)(hl:aV X.K H l xs)(h64:xs.length<64)(h:mf sp xs H (jW X xs Q)):wpAny (model X.prog X.w) X.A (call (.builtin "sorted") [.ref l] [(Str.ofString "key",.ref f)]) (EP X pins σ Q) E s:=by
 obtain⟨us,rx,pl,_⟩:=I.list hl;have l1:=rx.length;refine call_function_entry_kw kind_sorted plain_sorted entry_sorted (ksk_s1 _ _) ?_;unfold Builtin.«sorted»;refine wpAny_bind (m:=checkCount "sorted" 1 1 _) (wpAny_pure (wpAny_bind (collect_list pl.isList (wpAny_bind (wpAny_newList ?_ (gM (by omega)))) (gM (by omega)))))
 have sz:((s.heap.push (seqObj "list" #[] 0)).update s.heap.objs.size (Obj.mapSeq (·++us.toArray))).objs.size=s.heap.objs.size+1:=by rw[Heap.size_update];exact size_push' _ _
 have Ti:(((s.heap.push (seqObj "list" #[] 0)).update s.heap.objs.size (Obj.mapSeq (·++us.toArray))).push (seqObj "list" us.toArray 0)).get? (s.heap.objs.size+1)=some (seqObj "list" us.toArray 0):=by
  rw[<-sz];exact Heap.get?_push_size _ rfl
 have old:∀b o,s.heap.get? b=some o->(((s.heap.push (seqObj "list" #[] 0)).update s.heap.objs.size (Obj.mapSeq (·++us.toArray))).push (seqObj "list" us.toArray 0)).get? b=some o:=λb o q=>by
  have lt:b<s.heap.objs.size:=Heap.lt_size q;refine Heap.get?_push_of_some _ ?_;rw[Heap.get?_update_ne _ _ _ _ (Nat.ne_of_lt lt)];exact Heap.get?_push_of_some _ q
 show wpAny _ _ _ _ _ {s with heap:=((s.heap.push (seqObj "list" #[] 0)).update s.heap.objs.size (Obj.mapSeq (·++us.toArray))).push (seqObj "list" us.toArray 0)};rw[sz];generalize ((s.heap.push (seqObj "list" #[] 0)).update s.heap.objs.size (Obj.mapSeq (·++us.toArray))).push (seqObj "list" us.toArray 0)=h5 at Ti old |-;have I5:Inv X pins σ H {s with heap:=h5}:=I.kept (t':=s.toks) old;have fD:dq X pins H (s.heap.objs.size+1):=I.aa1 (Nat.le_succ _) (I.hok.fresh (Nat.le_succ _));refine wpAny_bind (wpAny_holding (wpAny_call_entry_kw slot_list_sort ⟨_,Ti,rfl⟩ entry_list_sort ?body (ksk_l1 _ _)))
 case body =>
  show wpAny (model X.prog X.w) X.A.in1.in1 (Builtin.«list.sort» ⟨[.ref (s.heap.objs.size+1)],[(Str.ofString "key",.ref f)]⟩) _ _ _;rw[ksk_t1];exact lL (A:=X.A.in1.in1) F hr.in1.in1 (λpins' H' s' J=>J.abm.in1.in1) hb (Nat.le_trans I.sz (Nat.le_succ _)) fD I5 Ti rx h64 h λs' q=>⟨_,rfl,wpAny_pure ⟨_,rfl,q⟩⟩
end
def Ay (X:Cx)(sp:Sp)(ta:TE):TE:=λσ H Q=>bg ta D6 σ H λvs H1=>∃l xs,vs=[.ref l]/\aV X.K H1 l xs/\xs.length<64/\mf sp xs H1 (jW X xs Q)
section
variable {X:Cx}{k:Nat}{f:Addr}{fd:xR}{ps:E4}{sp:Sp}{e:Expr}{ta:TE}{x:Str}{p p2 kpos pos:Pos}
theorem oP (F:E6 X.prog X.w X.K X.mg X.base (aN X.prog X.w) k f fd ps sp)(hr:oJ (k+2) X.A)(hb:av X.K fd ps [])(hg:Gl X "sorted")(hm:X.mg "sorted"=none)(hgf:Gl X x)(hmf:X.mg x=some (.ref f))(ha:PE X e ta)(hs:gA e=false:=by rfl)(hd:(x==("__debug__":Str))=false:=by decide):
 PE X (.Call (.Name "sorted" p) [e] [⟨some "key",.Name x p2,kpos⟩] pos) (Ay X sp ta):=by
 intro pins s σ H Q I h;refine wpAny_Call_Name_kw (gm I hg hm (by rfl) ?_ (by decide) (by decide));refine callWith_builtin_kwB (by rw[aY hs];rfl) rfl (evalArgs_kw2 rfl ?_ (aY hs));refine bN (ah ha ag hs pos pins s σ H _ I h) λus s1 z'=>?_;obtain⟨vs,H1,I1,r1,⟨l,xs,hv,hl,h64,ht⟩⟩:=z';subst hv
 cases r1 with
 |cons ra rb =>
  cases rb
  cases ra
  refine kwAll_cons (eV I1 hgf hmf (kwAll_nil ?_) hd);exact rm F hr hb I1 hl h64 ht
end
end Srt
namespace K80
open PySem L2 PySem.W Nm Srt
variable {n:Nat}{p:Int}
theorem nJ {t b:Int}(hp:FP p)(h:B n t)(hb:b≠0)(hn:7<=n):B n (eh p t b):=by
 unfold eh
 by_cases z:p=0
 ·rw[if_pos z];exact h.le (yM hb)
 ·rw[if_neg z];obtain⟨_,p2,SN⟩:=hp.two z;have h0:=Int.emod_nonneg t (b:=p) (by omega);have h1:=Int.emod_lt_of_pos t (b:=p) (by omega)
  have:B 7 (t%p):=by
   show(t%p).natAbs<2^7;omega
  exact this.mono hn
theorem m7 {n:Nat}{t b:Int}(h:B n b)(hb:b≠0)(hn:1<=n):B n (df p t b):=by
 unfold df
 by_cases z:p=0
 ·rw[if_pos z];exact h.le (yV hb)
 ·rw[if_neg z];exact(show B 1 (1:Int) from(by show(1:Int).natAbs<2^1;decide)).mono hn
abbrev Tm:=List Int×Int×Int
def eP (p:Int)(a b:Int×Int):Int×Int:=(eh p (jz a.1 a.2 b.1 b.2) (a.2*b.2),df p (jz a.1 a.2 b.1 b.2) (a.2*b.2))
def Gn (p:Int)(n:Nat)(a:Int×Int):Prop:=Num p a.1 a.2/\B n a.1/\B n a.2
theorem Gn.ne {a:Int×Int}(h:Gn p n a):a.2≠0:=by have:=h.1.pos;omega
theorem md {m:Nat}{a b:Int×Int}(hp:FP p)(ha:Gn p n a)(hb:Gn p m b)(h7:7<=n+m+1):Gn p (n+m+1) (eP p a b):=by
 have nz:a.2*b.2≠0:=Int.mul_ne_zero ha.ne hb.ne;refine⟨Num.set hp.nn nz,nJ hp ?_ nz h7,(m7 (n:=n+m) (ha.2.2.mul hb.2.2) nz (by omega)).mono (by omega)⟩;have h1:B (n+m) (a.1*b.2):=ha.2.1.mul hb.2.2;have h2:B (n+m) (b.1*a.2):=(hb.2.1.mul ha.2.2).mono (by omega);exact h1.add h2
theorem tW {b:Int×Int}(hp:FP p)(hb:Gn p n b):eP p (0,1) b=b:=by
 obtain⟨h1,h2⟩:=hb.1.self hp.nn;unfold eP jz
 have e1:(0:Int)*b.2+b.1*1=b.1:=by omega
 have e2:(1:Int)*b.2=b.2:=by omega
 rw[e1,e2,h1,h2]
def fW (p:Int)(d:List Tm)(t:Tm):List Tm:=if d.any (λe=>decide (e.1=t.1))=true then d.map (λe=>if e.1=t.1 then(e.1,eP p e.2 t.2) else e) else d++[t]
def xP (p:Int)(ts:List Tm):List Tm:=ts.foldl (fW p) []
def lO (p:Int)(n:Nat)(d:List Tm):Prop:=∀e∈d,Gn p n e.2
variable {d:List Tm}
theorem uu {m:Nat}{t:Tm}(hp:FP p)(hd:lO p n d)(ht:Gn p m t.2)(h7:7<=n+m+1):lO p (n+m+1) (fW p d t):=by
 have up:∀e∈d,Gn p (n+m+1) e.2:=λe he=>⟨(hd e he).1,(hd e he).2.1.mono (by omega),(hd e he).2.2.mono (by omega)⟩;unfold fW
 split
 ·intro e he;obtain⟨e0,h0,rfl⟩:=List.mem_map.mp he
  by_cases q:e0.1=t.1
  ·rw[if_pos q];exact md hp (hd e0 h0) ht h7
  ·rw[if_neg q];exact up e0 h0
 ·intro e he
  rcases List.mem_append.mp he with he|he
  ·exact up e he
  ·have:e=t:=by simpa using he
   subst this;exact⟨ht.1,ht.2.1.mono (by omega),ht.2.2.mono (by omega)⟩
theorem uU {t:Tm}(hd:(d.map (·.1)).Nodup):((fW p d t).map (·.1)).Nodup:=by
 unfold fW
 split
 ·rw[List.map_map]
  have:((λe:Tm=>e.1) ∘ λe=>if e.1=t.1 then(e.1,eP p e.2 t.2) else e)=λe=>e.1:=by
   funext e
   show(if e.1=t.1 then(e.1,eP p e.2 t.2) else e).1=e.1
   split <;> rfl
  rw[this];exact hd
 ·rename_i q
  rw[List.map_append];refine List.nodup_append.mpr ⟨hd,by simp,λa ha b hb z=>?_⟩
  have:b=t.1:=by simpa using hb
  subst this;subst z;obtain⟨e,he,e1⟩:=List.mem_map.mp ha;exact q (List.any_eq_true.mpr ⟨e,he,by simpa using e1⟩)
theorem w6 {t:Tm}:(fW p d t).length<=d.length+1:=by
 unfold fW
 split <;> simp
def iu (t:Tm):Ky:=(t.1.length,t.1)
def fH (d:List Tm):List Tm:=(fj ((d.filter λe=>e.2.1 != 0).map λe=>(iu e,e))).map (·.2)
theorem jo (p:Int)(ts:List Tm)(t:Tm):xP p (ts++[t])=fW p (xP p ts) t:=by
 unfold xP;rw[List.foldl_append];rfl
theorem dU {m:Nat}(hp:FP p):∀(n:Nat)(ts:List Tm),ts.length=n->(∀t∈ts,Gn p m t.2)->lO p ((m+1)*n+7) (xP p ts)/\((xP p ts).map (·.1)).Nodup/\(xP p ts).length<=n
 |0,ts,hn,_=>by
  have:ts=[]:=List.length_eq_zero_iff.mp hn;subst this;refine And.intro (λe he=>?_) (And.intro List.nodup_nil (Nat.le_refl 0));exact absurd (show e∈([]:List Tm) from he) (by simp)
 |n+1,ts,hn,h=>by
  obtain⟨Fv,t,rfl⟩:∃Fv t,ts=Fv++[t]:=by
   have FX:ts≠[]:=by intro z;rw[z] at hn;cases hn
   exact⟨ts.dropLast,ts.getLast FX,(List.dropLast_concat_getLast FX).symm⟩
  have hl:Fv.length=n:=by simpa using hn
  obtain⟨g1,g2,g3⟩:=dU hp n Fv hl λt ht=>h t (List.mem_append_left _ ht);rw[jo];have gt:=h t (List.mem_append_right _ (by simp));have e2:(m+1)*(n+1)=(m+1)*n+(m+1):=Nat.mul_succ _ _;refine⟨λe he=>?_,uU g2,Nat.le_trans w6 (by omega)⟩;have:=uu hp g1 gt (by omega) e he;exact⟨this.1,this.2.1.mono (by omega),this.2.2.mono (by omega)⟩
abbrev E2:Stmt:=(aR 55)
theorem v3:yI ["_law_pool_here","_law_prime_here","_law_top","_law_bottom"] En (aq E2):=dm (by decide +kernel)
variable {P:u6}{w:World}{K:PySem.W.Frag}{mg:wg}{base:Heap}
theorem uf {f ft fm:Addr}{fd F0 Iq:xR}(F:u3 K "_law_number" "_law_number" E2 f fd)
 (Ge:E6 P w K mg base (aN P w) 1 ft F0 yy DE)(Gf:L2.av K F0 yy [])(Gg:mg "_law_take"=some (.ref ft))(Gh:keepIn K (.ref ft)=true)
 (FM:E6 P w K mg base (aN P w) 2 fm Iq vP yO)(bM:L2.av K Iq vP [])(mM:mg "_law_made"=some (.ref fm))(kM:keepIn K (.ref fm)=true):
 E6 P w K mg base (aN P w) 3 f fd En qR:=by
 refine F.okN v3 (λvs H Q E h=>?_) (λFf A outer s H vs Q E hr h=>?_)
 ·obtain⟨r,p,rfl,_⟩:=h;rfl
 ·obtain⟨r,p,rfl,hp,⟨l,x,hR,x0,x1⟩,q⟩:=h;have FY:oJ 2 _:=hr;have Fp:oJ 1 _:=FY.mono (by decide)
  refine⟨_,(aj (@aC _ _ 2 _ _ _ _ v3.nd rfl (Or.inl rfl) (@aO _ _ _ _ _ _ _ _ qM (ax Ge Fp (by rfl) Gg Gh Gf .nil ae (@ah _ _ _ _ _ (pv 0) (@ah _ _ _ _ _ ao ag rfl) rfl)) ao) rfl (Or.inl rfl))
   (aj (@aC _ _ 3 _ _ _ _ v3.nd rfl (Or.inl rfl) (@a9 _ _ _ _ _ _ _ b7 (@nI _ _ _ [1,1,2,3] rfl (by decide)) (ax Ge Fp (by rfl) Gg Gh Gf .nil ae (@ah _ _ _ _ _ (pv 0) (@ah _ _ _ _ _ ao ag rfl) rfl)) (λ_ _=>rfl)) rfl (Or.inl rfl))
   (aj (bq (@aL _ _ _ _ _ _ _ _ cq (ax Ge Fp (by rfl) Gg Gh Gf .nil ae (@ah _ _ _ _ _ (pv 0) (@ah _ _ _ _ _ ao ag rfl) rfl)) ao (aB _)) (ar (@aC _ _ 2 _ _ _ _ v3.nd rfl (Or.inl rfl) (@aO _ _ _ _ _ _ _ _ cX (pv 2) (@aO _ _ _ _ _ _ _ _ eG (@aO _ _ _ _ _ _ _ _ xC ao ao) (ax Ge Fp (by rfl) Gg Gh Gf .nil ae (@ah _ _ _ _ _ (pv 0) (@ah _ _ _ _ _ ao ag rfl) rfl)))) rfl (Or.inl rfl))) aM)
   (aj (bq (PW.pt (nh (@aL _ _ _ _ _ _ _ _ pP (pv 1) ao (aB _)) (oq (@aL _ _ _ _ _ _ _ _ cq (@aO _ _ _ _ _ _ _ _ eB (pv 3) (pv 1)) ao (aB _))))) (ar (@aC _ _ 3 _ _ _ _ v3.nd rfl (Or.inl rfl) ao rfl (Or.inl rfl))) aM)
   (ar (az (ax FM FY (by rfl) mM kM bM .nil ae (@ah _ _ _ _ _ (pv 1) (@ah _ _ _ _ _ (pv 2) (@ah _ _ _ _ _ (pv 3) ag rfl) rfl) rfl)))))))),?_⟩
  have fin:∀(T b:Int)(H':Hp),T.natAbs<2^44->0<b->b<4->aH H' r->SameBut r H H' →
   vR (BB (CU (pA (ll (sY λi j=>.bl (decide (j<i))) (cg 1) (tC (.int 0)))) (pA (ll lK (ll (rI (λ_ j=>0<j) λi j=>.int (i%j)) (cg 3) (cg 1)) (tC (.int 0))))) (qe (tC (.int 1)) (cc 3)) lj) (xQ (mw yO [] (λ_ _ _=>False) (bg (cg 1) (bg (cg 2) (bg (cg 3) D6))))) {nx:=λ_ H'=>Q .non H',rt:=Q} [some (.ref r),some (.int p),some (.int T),some (.int b)] H':=by
   intro T b H' hT b0 b4 R S;have bB:∀{z:Int},z.natAbs<2^44->B 9000 z:=λh=>Nat.lt_of_lt_of_le h (Nat.pow_le_pow_right (by decide) (by decide))
   have fH:∀(t b:Int)(H2:Hp)(a:Addr),Num p t b->B 45 t->B 45 b->ay H' H2->H2 a=some (du t b)->Q (.ref a) H2:=λt b H2 a n B1 B2 S2 e=>by
    refine q a t b H2 n B1 B2 e ?_ (S.trans (SameBut.of S2));obtain⟨l,x,e,z⟩:=R;exact⟨l,x,S2 _ _ e,z⟩
   have one:∀b:Int,0<b->b<4->(p≠0->b=1\/b%p≠0)->xQ (mw yO [] (λ_ _ _=>False) (bg (cg 1) (bg (cg 2) (bg (cg 3) D6)))) {nx:=λ_ H'=>Q .non H',rt:=Q} [some (.ref r),some (.int p),some (.int T),some (.int b)] H':=by
    intro b b0 b4 hb;refine⟨_,rfl,_,rfl,_,rfl,p,T,b,rfl,hp,by omega,bB (by omega),bB hT,?_⟩
    have Tj:b≠0:=by omega
    have small:∀v:Int,0<=v->v<p->zL H' Q v 1:=λv v0 v1 H2 a S2 e=>by
     have F2:p≠0:=by omega
     obtain⟨_,p2,SN⟩:=hp.two F2;exact fH v 1 H2 a (Num.ofP v0 v1) (by show v.natAbs<2^45;omega) (by show(1:Int).natAbs<2^45;decide) S2 e
    by_cases h1:p≠0->b=1
    ·refine .inl ⟨h1,λH2 a S2 e=>?_⟩;have B1:B 45 T:=(show B 44 T from hT).mono (by decide);have B2:B 45 b:=(by show b.natAbs<2^45;omega);exact fH _ _ H2 a (Num.set hp.nn Tj) (nJ hp B1 Tj (by decide)) (m7 B2 Tj (by decide)) S2 e
    ·have F2:p≠0:=λz=>h1 λy=>absurd z y;have h1:b≠1:=λz=>h1 λ_=>z;exact .inr ⟨F2,by omega,(hb F2).resolve_left h1,small⟩
   refine⟨_,rfl,_,_,rfl,rfl,_,rfl,?_⟩;refine c7 (λh=>?_) (λh=>?_)
   ·have F2:0<p:=by simpa using h
    refine⟨_,rfl,_,rfl,_,_,rfl,rfl,F2,rfl,_,rfl,?_⟩;refine c7 (λh=>?_) (λh=>?_)
    ·exact one 1 (by decide) (by decide) λ_=>.inl rfl
    ·exact one b b0 b4 λ_=>.inr (by simpa using h)
   ·have F2:¬0<p:=by simpa using h
    exact one b b0 b4 λz=>absurd hp.nn (by omega)
  refine⟨_,rfl,r,l,x,19,rfl,hR,x0,x1,by decide,by decide,λz l2 r2 z0 z1 g0 g1=>?_⟩;refine⟨_,_,rfl,rfl,λm hm=>?_⟩;have Gy:SameBut r H (upd H r (.lst [.int l2,.int r2])):=SameBut.upd;have e1:upd H r (.lst [.int l2,.int r2]) r=some (.lst [.int l2,.int r2]):=af;generalize upd H r (.lst [.int l2,.int r2])=H1 at hm Gy e1 |-;have s2:=ak (o:=.lst ([1,1,2,3].map V.int)) hm;have em:upd H1 m (.lst ([1,1,2,3].map V.int)) m=some (.lst ([1,1,2,3].map V.int)):=af;have e2:=s2 _ _ e1;have nm:m≠r:=(au e1 hm).symm;have FQ:SameBut r H (upd H1 m (.lst ([1,1,2,3].map V.int))):=Gy.trans (SameBut.of s2);generalize upd H1 m _=H2 at em e2 FQ |-;refine⟨_,rfl,r,l2,r2,4,rfl,e2,g0,g1,by decide,by decide,λv l3 r3 v0 v1 k0 k1=>?_⟩;obtain⟨b,hb,Ji⟩:=tE (xs:=[1,1,2,3]) v0 v1
  have bb:∀b∈([1,1,2,3]:List Int),0<b/\b<4:=by decide
  obtain⟨b0,b4⟩:=bb b hb;have F4:SameBut r H2 (upd H2 r (.lst [.int l3,.int r3])):=SameBut.upd;refine⟨m,_,v,_,rfl,rfl,aV.of (F4 _ _ em nm),Ji,?_⟩;have e3:upd H2 r (.lst [.int l3,.int r3]) r=some (.lst [.int l3,.int r3]):=af;have FN:=FQ.trans F4;generalize upd H2 r (.lst [.int l3,.int r3])=H3 at e3 FN |-;refine⟨_,rfl,r,l3,r3,8,rfl,e3,k0,k1,by decide,by decide,λy l4 r4 y0 y1 j0 j1=>⟨rfl,_,rfl,?_⟩⟩;have e4:upd H3 r (.lst [.int l4,.int r4]) r=some (.lst [.int l4,.int r4]):=af;have JB:SameBut r H (upd H3 r (.lst [.int l4,.int r4])):=FN.trans SameBut.upd;generalize upd H3 r (.lst [.int l4,.int r4])=H4 at e4 JB |-;refine c7 (λh=>?_) (λh=>?_)
  ·refine⟨_,rfl,_,_,rfl,rfl,⟨by decide,by decide,by decide⟩,_,rfl,r,l4,r4,1000,rfl,e4,j0,j1,by decide,by decide,λu l5 r5 u0 u1 i0 i1=>?_⟩
   have XY:(10:Int)^(12:Int).toNat=1000000000000:=by decide
   have bB:∀{z:Int},z.natAbs<2^44->B 9000 z:=λh=>Nat.lt_of_lt_of_le h (Nat.pow_le_pow_right (by decide) (by decide));refine⟨_,_,rfl,rfl,_,_,rfl,rfl,⟨bB (by omega),bB (by rw[XY];omega)⟩,?_⟩;refine fin _ b _ ?_ b0 b4 ⟨l5,r5,af,i0,i1⟩ (JB.trans SameBut.upd);rw[XY,Int.natAbs_mul]
   have h1:(z-9).natAbs<=9:=by omega
   have h2:(1000000000000+u).natAbs<=1000000001000:=by omega
   exact Nat.lt_of_le_of_lt (Nat.mul_le_mul h1 h2) (by decide)
  ·exact fin (z-9) b H4 (by omega) b0 b4 ⟨l4,r4,e4,j0,j1⟩ JB
end K80
namespace St
open PySem
open PyProof.Rows
end St
namespace L2
open PySem PySem.Spec PyProof.Rows PySem.W
end L2
namespace K80
open PySem L2 PySem.W Nm
abbrev ES:Stmt:=(aR 56)
theorem yU:yI ["_law_pool_here","_law_places","_law_most","_law_found","_law_turn","_law_place"] CV (aq ES):=dm (by decide +kernel)
theorem v8 (k:Int):∀ks:List Int,zz (.int k) (ks.map V.int)=decide (k∈ks)
 |[]=>rfl
 |x::ks=>by
  have ih:=v8 k ks;unfold zz at ih |-;rw[List.map_cons,List.any_cons,ih]
  have e:yK (.int x) (.int k)=decide (x=k):=by
   show(x==k)=_
   by_cases z:x=k <;> simp[z]
  rw[e]
  by_cases z:x=k
  ·simp[z]
  ·by_cases y:k∈ks
   ·simp[y]
   ·simp[y,z,Ne.symm z]
theorem uG (ks:List Int):(ks.map V.int).all iT=true:=by
 rw[List.all_eq_true];intro x hx;obtain⟨k,_,rfl⟩:=List.mem_map.mp hx;rfl
def BY:Sp:=λvs H Q _=>∃(r:Addr)(n most:Int),vs=[.ref r,.int n,.int most]/\aH H r/\0<n/\n<=60/\0<=most/\most<=10 /\
 ∀(a:Addr)(ks:List Int)(H':Hp),ks.Pairwise (· < ·)->(∀k∈ks,0<=k/\k<n)->(ks.length:Int)<=most->H' a=some (.tup (ks.map V.int))->aH H' r->SameBut r H H'->Q (.ref a) H'
variable {P:u6}{w:World}{K:PySem.W.Frag}{mg:wg}{base:Heap}
variable {f:Addr}{fd:xR}
theorem xZ {ft:Addr}{F0:xR}(F:u3 K "_law_product" "_law_product" ES f fd)(Fi:mg "range"=none)(Fo:mg "tuple"=none)(Fw:mg "sorted"=none)
 (Ge:E6 P w K mg base (aN P w) 1 ft F0 yy DE)(Gf:L2.av K F0 yy [])(Gg:mg "_law_take"=some (.ref ft))(Gh:keepIn K (.ref ft)=true):
 E6 P w K mg base (aN P w) 3 f fd CV BY:=by
 refine F.okN yU (λvs H Q E h=>?_) (λFf A outer s H vs Q E hr h=>?_)
 ·obtain⟨r,n,most,rfl,_⟩:=h;rfl
 ·obtain⟨r,n,most,rfl,⟨l,x,hR,x0,x1⟩,n0,n60,m0,m10,q⟩:=h;have Fp:oJ 1 _:=hr.mono (by decide)
  refine⟨_,(aj (@aC _ _ 3 _ _ _ _ yU.nd rfl (Or.inl rfl) (@bY _ _ _ _ ag) rfl (Or.inl rfl))
   (aj (iG PassesOwn.never rfl (dY (by rfl) Fi (@ah _ _ _ _ _ (ax Ge Fp (by rfl) Gg Gh Gf .nil ae (@ah _ _ _ _ _ (pv 0) (@ah _ _ _ _ _ (@aO _ _ _ _ _ _ _ _ eG (pv 2) ao) ag rfl) rfl)) ag rfl)) (aI (i:=4) yU.nd rfl (Or.inl rfl))
   (aj (@aC _ _ 5 _ _ _ _ yU.nd rfl (Or.inl rfl) (ax Ge Fp (by rfl) Gg Gh Gf .nil ae (@ah _ _ _ _ _ (pv 0) (@ah _ _ _ _ _ (pv 1) ag rfl) rfl)) rfl (Or.inl rfl))
   (ar (bq (@aL _ _ _ _ _ _ _ _ (show gy _ _ (EG K true) from iO) (pv 5) (pv 3) (by rfl)) (ar (fA (rW PySem.F.plainAttrs_list PySem.F.slot_list_append PySem.F.type_list_append gZ (pv 3) (@ah _ _ _ _ _ (pv 5) ag rfl)))) aM))))
   (ar (az (bA (iH rfl) (by rfl) Fo (by rfl) (@ah _ _ _ _ _ (aF (yi rfl) (by rfl) Fw (by rfl) (@ah _ _ _ _ _ (pv 3) ag rfl)) ag rfl)))))),?_⟩
  refine⟨Nat.zero_le _,λD hD=>?_⟩;have Mt:D≠r:=(au hR hD).symm;have s1:=ak (o:=.lst []) hD;have eD:upd H D (.lst []) D=some (.lst []):=af;have e1:=s1 _ _ hR;refine⟨_,rfl,_,rfl,_,_,rfl,rfl,r,l,x,most+1,rfl,e1,x0,x1,by omega,by omega,λz l2 r2 z0 z1 g0 g1=>?_⟩;have R2:aH (upd (upd H D (.lst [])) r (.lst [.int l2,.int r2])) r:=⟨l2,r2,af,g0,g1⟩;have FQ:SameBut r H (upd (upd H D (.lst [])) r (.lst [.int l2,.int r2])):=(SameBut.of s1).trans SameBut.upd
  have Kc:upd (upd H D (.lst [])) r (.lst [.int l2,.int r2]) D=some (.lst []):=by rw[ai Mt];exact eD
  generalize upd (upd H D (.lst [])) r (.lst [.int l2,.int r2])=H2 at R2 FQ Kc |-;refine⟨z,rfl,by omega,by omega,?_⟩;refine mn (lo:=0) (n:=z.toNat) (λi σ H'=>(∃o4 o5,σ=[some (.ref r),some (.int n),some (.int most),some (.ref D),o4,o5])/\aH H' r/\SameBut r H H'/\∃ks:List Int,H' D=some (.lst (ks.map V.int))/\ks.Nodup/\(∀k∈ks,0<=k/\k<n)/\ks.length<=i) ⟨⟨_,_,rfl⟩,R2,FQ,[],Kc,List.nodup_nil,λk hk=>(nomatch hk),Nat.le_refl _⟩ ?_ ?_
  ·rintro i σ H' hi ⟨⟨o4,o5,rfl⟩,⟨l3,r3,e3,k0,k1⟩,sb,ks,hk,nd,pl,kl⟩;refine⟨_,rfl,_,rfl,r,l3,r3,n,rfl,e3,k0,k1,n0,by omega,λv l4 r4 v0 v1 j0 j1=>?_⟩;have R4:aH (upd H' r (.lst [.int l4,.int r4])) r:=⟨l4,r4,af,j0,j1⟩;have FN:SameBut r H (upd H' r (.lst [.int l4,.int r4])):=sb.trans SameBut.upd
   have Nw:upd H' r (.lst [.int l4,.int r4]) D=some (.lst (ks.map V.int)):=by rw[ai Mt];exact hk
   generalize upd H' r (.lst [.int l4,.int r4])=H4 at R4 FN Nw |-;refine⟨_,rfl,_,rfl,D,_,rfl,.inl (aV.of Nw),rfl,uG ks,?_⟩;rw[v8];refine⟨_,rfl,?_⟩
   by_cases hm:v∈ks
   ·rw[decide_eq_true hm];refine bH ⟨⟨_,_,rfl⟩,R4,FN,ks,Nw,nd,pl,by omega⟩
   ·rw[decide_eq_false hm];refine bw ⟨_,rfl,.inl ⟨rfl,_,aV.of Nw⟩,_,rfl,D,_,_,rfl,rfl,Nw,?_,?_⟩
    ·rw[List.length_map];exact Nat.lt_of_le_of_lt (by omega:ks.length<=11) (by decide)
    ·obtain⟨l5,r5,e5,i0,i1⟩:=R4;refine⟨⟨_,_,rfl⟩,⟨l5,r5,by rw[ai Mt.symm];exact e5,i0,i1⟩,λb u e nb=>?_,ks++[v],?_,?_,?_,?_⟩
     ·rw[ai (au e hD)];exact FN b u e nb
     ·rw[af,List.map_append];rfl
     ·refine List.nodup_append.mpr ⟨nd,by simp,λa ha b hb z=>hm ?_⟩
      have:b=v:=by simpa using hb
      rw[<-this,<-z];exact ha
     ·intro k hk
      rcases List.mem_append.mp hk with h|h
      ·exact pl k h
      ·have:k=v:=by simpa using h
       omega
     ·rw[List.length_append];have:[v].length=1:=rfl;omega
  ·rintro σ H' ⟨⟨o4,o5,rfl⟩,R3,sb,ks,hk,nd,pl,kl⟩;refine⟨_,rfl,D,ks,rfl,aV.of hk,by omega,λD2 ms Ij perm pwm=>?_⟩;refine⟨D2,_,rfl,.inl ⟨aV.of af,λa ha=>?_⟩⟩;have s5:=(ak (o:=.lst (ms.map V.int)) Ij).trans (ak (o:=.tup (ms.map V.int)) ha);obtain⟨l5,r5,e5,i0,i1⟩:=R3;refine q a ms _ ?_ (λk hk=>pl k (perm.mem_iff.mp hk)) (by rw[perm.length_eq];omega) af ⟨l5,r5,s5 _ _ e5,i0,i1⟩ (sb.trans (SameBut.of s5));have nd2:=perm.nodup_iff.mpr nd
   exact(List.pairwise_and_iff.mpr ⟨pwm,nd2⟩).imp λ⟨h1,h2⟩=>by omega
open Srt
abbrev jJ (ks:List Int):List Key:=ks.map Sum.inl
theorem jd (ks:List Int):(jJ ks).map kV=ks.map V.int:=by unfold jJ;rw[List.map_map];rfl
theorem oa {a b:List Int}(h:jJ a=jJ b):a=b:=by
 have e:(jJ a).map kV=(jJ b).map kV:=by rw[h]
 rw[jd,jd] at e
 have inj:∀{x y:List Int},x.map V.int=y.map V.int->x=y:=by
  intro x
  induction x with
  |nil=>intro y h;cases y with
   |nil=>rfl
   |cons c y=>simp at h
  |cons b x ih=>intro y h;cases y with
   |nil=>simp at h
   |cons c y =>
    rw[List.map_cons,List.map_cons] at h
    injection h with h1 h2
    injection h1 with h1
    rw[h1,ih h2]
 exact inj e
def BE (H:Hp)(y:V)(t:Tm):Prop:=∃a pr nu,y=.ref a/\H a=some (.tup [.ref pr,.ref nu])/\H pr=some (.tup (t.1.map V.int))/\H nu=some (du t.2.1 t.2.2)
abbrev bJ (H:Hp):List V->List Tm->Prop:=Paired (BE H)
abbrev DR (H:Hp):List (List Key×V)->List Tm->Prop:=Paired λkv e=>kv.1=jJ e.1/\∃a,kv.2=.ref a/\H a=some (du e.2.1 e.2.2)
def aS (H H':Hp):Prop:=∀b xs,H b=some (.tup xs)->H' b=some (.tup xs)
variable {H H':Hp}
theorem aS.of (s:ay H H'):aS H H':=λb xs e=>s b _ e
theorem aS.trans {H1 H2:Hp}(a:aS H H1)(b:aS H1 H2):aS H H2:=λc xs e=>b c xs (a c xs e)
theorem aS.upd {d:Addr}{o:HO}(h:∀xs,H d≠some (.tup xs)):aS H (upd H d o):=λb xs e=>by
 have:b≠d:=λz=>h xs (z▸e);rw[ai this];exact e
theorem BE.keep {y:V}{t:Tm}(h:BE H y t)(k:aS H H'):BE H' y t:=let⟨a,pr,nu,e,h1,h2,h3⟩:=h;⟨a,pr,nu,e,k _ _ h1,k _ _ h2,k _ _ h3⟩
theorem bJ.keep {ys:List V}{ts:List Tm}(h:bJ H ys ts)(k:aS H H'):bJ H' ys ts:=Paired.aa5 h λ_ _ z=>z.keep k
variable {Fe:List (List Key×V)}{d:List Tm}
theorem DR.keep (h:DR H Fe d)(k:aS H H'):DR H' Fe d:=Paired.aa5 h λ_ _ z=>⟨z.1,let⟨a,e,h⟩:=z.2;⟨a,e,k _ _ h⟩⟩
theorem rC (k:List Int):∀{Fe:List (List Key×V)}{d:List Tm},DR H Fe d->d.any (λe=>decide (e.1=k))=false->jg Fe (jJ k)=none
 |_,_,.nil,_=>rfl
 |_,_,.cons (a:=kv) (b:=e) h t,q=>by
  rw[List.any_cons,Bool.or_eq_false_iff] at q
  have ne:¬kv.1=jJ k:=λz=>by
   have:e.1=k:=oa (h.1.symm.trans z);simp[this] at q
  rw[gU ne];exact rC k t q.2
theorem jR (k:List Int):∀{Fe:List (List Key×V)}{d:List Tm},DR H Fe d->d.any (λe=>decide (e.1=k))=true->∃e∈d,e.1=k/\∃a,jg Fe (jJ k)=some (.ref a)/\H a=some (du e.2.1 e.2.2)
 |_,_,.nil,q=>by simp at q
 |_,_,.cons (a:=kv) (b:=e) h t,q=>by
  by_cases z:e.1=k
  ·obtain⟨a,e1,ha⟩:=h.2;refine⟨e,List.mem_cons_self,z,a,?_,ha⟩;rw[iQ (by rw[h.1,z]),e1]
  ·have ne:¬kv.1=jJ k:=λw=>z (oa (h.1.symm.trans w));rw[List.any_cons,decide_eq_false z,Bool.false_or] at q;obtain⟨e',m,z',a,h1,h2⟩:=jR k t q;exact⟨e',List.mem_cons_of_mem _ m,z',a,by rw[gU ne];exact h1,h2⟩
theorem Ao (k:List Int)(h:DR H Fe d):(Fe.any λkv=>decide (kv.1=jJ k))=d.any λe=>decide (e.1=k):=by
 rw[jZ]
 cases q:d.any λe=>decide (e.1=k) with
 |false=>rw[rC k h q];rfl
 |true =>
  obtain⟨_,_,_,a,e,_⟩:=jR k h q;rw[e];rfl
variable {p:Int}
theorem wm {t:Tm}{a:Addr}(h:DR H Fe d)(nd:(d.map (·.1)).Nodup)
 (K9:d.any (λe=>decide (e.1=t.1))=false->H a=some (du t.2.1 t.2.2))(Hx:∀e∈d,e.1=t.1->H a=some (du (eP p e.2 t.2).1 (eP p e.2 t.2).2)):DR H (gb Fe (jJ t.1) (.ref a)) (fW p d t):=by
 unfold gb fW;rw[Ao t.1 h]
 by_cases q:d.any (λe=>decide (e.1=t.1))=true
 ·rw[if_pos q,if_pos q]
  have go:∀{Fe:List (List Key×V)}{d:List Tm},DR H Fe d->(∀e∈d,e.1=t.1->H a=some (du (eP p e.2 t.2).1 (eP p e.2 t.2).2)) →
   DR H (Fe.map λkv=>if kv.1=jJ t.1 then(kv.1,V.ref a) else kv) (d.map λe=>if e.1=t.1 then(e.1,eP p e.2 t.2) else e):=by
   intro Fe d h
   induction h with
   |nil=>intro _;exact .nil
   |@cons kv e ks es h0 ht ih =>
    intro hy;rw[List.map_cons,List.map_cons];refine .cons ?_ (ih λe' m=>hy e' (List.mem_cons_of_mem _ m))
    by_cases z:e.1=t.1
    ·rw[if_pos z,if_pos (by rw[h0.1,z])];exact⟨h0.1,a,rfl,hy e List.mem_cons_self z⟩
    ·rw[if_neg z,if_neg (λw=>z (oa (h0.1.symm.trans w)))];exact h0
  exact go h Hx
 ·have q':d.any (λe=>decide (e.1=t.1))=false:=Bool.eq_false_iff.mpr q;rw[if_neg q,if_neg q];exact Paired.snoc h ⟨rfl,a,rfl,K9 q'⟩
abbrev vx:Stmt:=(aR 32)
structure E8 (p:Int)(ts:List Tm):Prop where
 len:ts.length<4000
 num:∀t∈ts,Gn p 4000 t.2
 steps:∀i,i<=ts.length->lO p 4000 (xP p (ts.take i))
 few:((xP p ts).filter λe=>e.2.1 != 0).length<64
theorem E8.of {ts:List Tm}{m:Nat}(hp:FP p)(h64:ts.length<64)(hG:∀t∈ts,Gn p m t.2)(hm:(m+1)*ts.length+7<=4000)(Ll:m<=4000):E8 p ts:=by
 refine⟨by omega,λt ht=>⟨(hG t ht).1,(hG t ht).2.1.mono Ll,(hG t ht).2.2.mono Ll⟩,λi hi=>?_,?_⟩
 ·obtain⟨g1,g2,g3⟩:=dU (m:=m) hp i (ts.take i) (by simp;omega) λt ht=>hG t (List.mem_of_mem_take ht);intro e he;have b:=g1 e he;have le:(m+1)*i+7<=4000:=Nat.le_trans (Nat.add_le_add_right (Nat.mul_le_mul_left _ hi) _) hm;exact⟨b.1,b.2.1.mono le,b.2.2.mono le⟩
 ·exact Nat.lt_of_le_of_lt (Nat.le_trans (List.length_filter_le _ _) (dU (m:=m) hp ts.length ts rfl hG).2.2) h64
def qv (C:Addr):Sp:=λvs H Q _=>∃(s dx l:Addr)(p:Int)(ys:List V)(ts:List Tm),vs=[.ref s,.ref l]/\H s=some (.ins C dx (cK p))/\FP p/\H l=some (.lst ys)/\bJ H ys ts/\E8 p ts /\
 ∀H' D zs,ay H H'->H D=none->H' D=some (.lst zs)->bJ H' zs (fH (xP p ts))->Q (.ref D) H'
theorem none_of {a:Addr}(s:ay H H')(h:H' a=none):H a=none:=by
 cases e:H a with
 |none=>rfl
 |some o=>rw[s _ _ e] at h;cases h
theorem i8:yI ["field","terms","totals","product","number","kept"] wA (aq vx):=dm (by decide +kernel)
theorem lV {α β:Type}{R:α->β->Prop}{k:Ky}{x:α}{y:β}(h:R x y):∀{l:List (Ky×α)}{m:List (Ky×β)},Paired (λa b=>a.1=b.1/\R a.2 b.2) l m->Paired (λa b=>a.1=b.1/\R a.2 b.2) (lD k x l) (lD k y m)
 |_,_,.nil=>.cons ⟨rfl,h⟩ .nil
 |_,_,.cons (a:=(j,u)) (b:=(j',v)) (l₁:=r) (l₂:=r') h0 t=>by
  obtain⟨e,h1⟩:=h0;have e:j=j':=e;subst e;show Paired _ (if lq k j=true then(k,x):: (j,u):: r else(j,u):: lD k x r) (if lq k j=true then(k,y):: (j,v):: r' else(j,v):: lD k y r')
  by_cases z:lq k j=true
  ·rw[if_pos z,if_pos z];exact .cons ⟨rfl,h⟩ (.cons ⟨rfl,h1⟩ t)
  ·rw[if_neg z,if_neg z];exact .cons ⟨rfl,h1⟩ (lV h t)
theorem iF {α β:Type}{R:α->β->Prop}:∀{l:List (Ky×α)}{m:List (Ky×β)},Paired (λa b=>a.1=b.1/\R a.2 b.2) l m->Paired (λa b=>a.1=b.1/\R a.2 b.2) (fj l) (fj m)
 |_,_,.nil=>.nil
 |_,_,.cons (a:=(j,u)) (b:=(j',v)) (l₁:=r) (l₂:=r') h0 t=>by
  obtain⟨e,h1⟩:=h0;have e:j=j':=e;subst e;exact lV h1 (iF t)
theorem kD {α β:Type}{R:α->β->Prop}:∀{l:List (Ky×α)}{m:List (Ky×β)},Paired (λa b=>a.1=b.1/\R a.2 b.2) l m->Paired R (l.map (·.2)) (m.map (·.2))
 |_,_,.nil=>.nil
 |_,_,.cons h t=>.cons h.2 (kD t)
theorem kJ {R:V->Tm->Prop}:∀{xs:List V}{es:List Tm},Paired R xs es->Paired (λa b=>a.1=b.1/\R a.2 b.2) ((es.map iu).zip xs) (es.map λe=>(iu e,e))
 |_,_,.nil=>.nil
 |_,_,.cons h t=>.cons ⟨rfl,h⟩ (kJ t)
theorem i9:∀{xs:List V}{es:List Tm}{H:Hp}{R:List V->Hp->Prop},bJ H xs es →
 (∀ks H2,ay H H2->Paired (λx e=>∃a b,x=.ref a/\H2 a=some (.tup [.int e.1.length,.ref b])/\H2 b=some (.tup (e.1.map V.int))) ks es->R ks H2)->mf ua xs H R
 |_,_,H,R,.nil,h=>h [] H (ay.refl _) .nil
 |_,_,H,R,.cons (b:=e) h0 t,h=>by
  obtain⟨a,pr,nu,rfl,ha,GQ,HW⟩:=h0;refine⟨a,pr,.ref nu,_,rfl,ha,GQ,λtt htt=>?_⟩;rw[List.length_map];have sU:ay H (upd H tt (.tup [.int e.1.length,.ref pr])):=ak htt;refine i9 (bJ.keep t (aS.of sU)) λks H2 s2 hk=>h _ H2 (λb u z=>s2 _ _ (sU _ _ z)) (.cons ⟨tt,pr,rfl,s2 _ _ af,s2 _ _ (sU _ _ GQ)⟩ hk)
theorem jQ {K:Frag}:∀{ks:List V}{es:List Tm},Paired (λx e=>∃a b,x=.ref a/\H a=some (.tup [.int e.1.length,.ref b])/\H b=some (.tup (e.1.map V.int))) ks es->dS K H ks (es.map iu)
 |_,_,.nil=>True.intro
 |_,_,.cons h t=>by
  obtain⟨a,b,rfl,h1,h2⟩:=h;exact⟨⟨a,b,[],rfl,bV.of h1,bV.of h2⟩,jQ t⟩
theorem sQ (h:(d.map (·.1)).Nodup)(f:Tm->Bool):((d.filter f).map iu).Nodup:=by
 have h1:((d.filter f).map (·.1)).Nodup:=h.sublist (List.filter_sublist.map _)
 have e:(d.filter f).map iu=((d.filter f).map (·.1)).map λk=>((k.length:Int),k):=by rw[List.map_map];rfl
 rw[e];unfold List.Nodup at h1 |-;rw[List.pairwise_map];exact h1.imp λh z=>h (Prod.mk.inj z).2
theorem iC (h:(d.map (·.1)).Nodup):∀{e e':Tm},e∈d->e'∈d->e.1=e'.1->e=e':=by
 induction d with
 |nil=>intro e e' h1;exact nomatch h1
 |cons a d ih =>
  rw[List.map_cons,List.nodup_cons] at h;intro e e' h1 h2 z
  rcases List.mem_cons.mp h1 with h3|h3
  ·rcases List.mem_cons.mp h2 with h4|h4
   ·rw[h3,h4]
   ·exact absurd (by rw[<-h3,z];exact List.mem_map_of_mem (f:=(·.1)) h4) h.1
  ·rcases List.mem_cons.mp h2 with h4|h4
   ·exact absurd (by rw[<-h4,<-z];exact List.mem_map_of_mem (f:=(·.1)) h3) h.1
   ·exact ih h.2 h3 h4 z
theorem yX {fp fo C:Addr}{Gi Nx:xR}(F:u3 K "gathered" "gathered" vx f fd)(c:zZ K mg C)(Fw:mg "sorted"=none)
 (Ny:E6 P w K mg base (aN P w) 4 fp Gi qk (zW C jz))(Nz:L2.av K Gi qk [])(NA:L2.Meth K C "plus" fp)
 (Rh:E6 P w K mg base (aN P w) 1 fo Nx ["term"] ua)(Ri:L2.av K Nx ["term"] [])(Rj:mg "place_of_term"=some (.ref fo)):E6 P w K mg base (aN P w) 5 f fd wA (qv C):=by
 refine F.okN i8 (λvs H Q E h=>?_) (λFf A outer s H vs Q E hr h=>?_)
 ·obtain⟨s,dx,l,p,ys,ts,rfl,_⟩:=h;rfl
 ·obtain⟨s0,dx,l,p,ys,ts,rfl,hs,hp,hl,Kd,G,q⟩:=h;have h64:=G.len;have hG:=G.num;have HV:oJ 4 _:=hr.mono (by decide);have Tn:oJ 3 _:=hr.mono (by decide);have hu:=(hr.units:_+64<cLine)
  replace hu:=Nat.lt_of_le_of_lt (Nat.add_le_add_left (by decide:1<=64) _) hu
  refine⟨_,(aj (@aC _ _ 2 _ _ _ _ i8.nd rfl (Or.inl rfl) oH rfl (Or.inl rfl))
   (aj (iG PassesOwn.never rfl (c6 (pv 1)) (fJ rfl (bo (aI (i:=3) i8.nd rfl (Or.inl rfl)) (bo (aI (i:=4) i8.nd rfl (Or.inl rfl)) dB)))
   (aj (bq (abD (acE hu (pv 3) (pv 2))) (ar (@aC _ _ 4 _ _ _ _ i8.nd rfl (Or.inl rfl) (fZ (pv 0) c.cl NA Ny HV Nz .nil ae (@ah _ _ _ _ _ (m8 hu (pv 2) (pv 3) (λ_ _=>rfl)) (@ah _ _ _ _ _ (pv 4) ag rfl) rfl)) rfl (Or.inl rfl))) aM)
   (ar (su hu (pv 2) (pv 3) (pv 4) (by rfl)))))
   (aj (fF (i:=5) (g:=xw K 2 (iL (cc 0) (iL (cc 1) xY))) (N:=["product","number"]) (nl:=2) (js:=[]) (osc:=aq vx) ⟨rfl,rfl,by decide +kernel,by decide +kernel,by decide +kernel,rfl,.nil,by decide +kernel⟩ rfl i8.nd rfl (Or.inl rfl)
    (vN (pv 2))
    (λC fp s H=>(fJ (X:=iR _ ["product","number"] _ C fp s H) rfl (bo (aI (X:=iR _ ["product","number"] _ C fp s H) (i:=0) (by show(["product","number"]:E4).Nodup;decide +kernel) rfl (Or.inl rfl) (Or.inr rfl)) (bo (aI (X:=iR _ ["product","number"] _ C fp s H) (i:=1) (by show(["product","number"]:E4).Nodup;decide +kernel) rfl (Or.inl rfl) (Or.inr rfl)) dB))))
    (λC fp s H=>(eY (@aL _ _ _ _ _ _ _ _ kn (@a9 _ _ _ _ _ _ _ (show Bu _ (wd K) from bQ) (pv 1) ao (λ_ _=>rfl)) ao (aB _))))
    (λC fp s H=>(@bX _ _ _ _ _ (@ah _ _ _ _ _ (pv 0) (@ah _ _ _ _ _ (pv 1) ag rfl) rfl))) (by rfl))
   (ar (az (oP Rh Tn Ri (by rfl) Fw (by rfl) Rj (pv 5))))))),?_⟩
  have hlen:=Kd.length
  have gg:∀i,i<=ts.length->lO p 4000 (xP p (ts.take i))/\((xP p (ts.take i)).map (·.1)).Nodup/\(xP p (ts.take i)).length<=i:=λi hi=>by
   obtain⟨_,g2,g3⟩:=dU (m:=4000) hp i (ts.take i) (by simp;omega) λt ht=>hG t (List.mem_of_mem_take ht);exact⟨G.steps i hi,g2,g3⟩
  refine λdd GW=>?_;have s1:ay H (upd H dd (.dT [])):=ak GW;refine⟨_,rfl,l,rfl,⟨ys,aV.of (s1 _ _ hl)⟩,?_⟩
  refine⟨λi m σ' H'=>m=ts.length-i/\i<=ts.length/\ay H H'/\(∃Fe,H' dd=some (.dT Fe)/\DR H' Fe (xP p (ts.take i)))/\∃o3 o4,σ'=[some (.ref s0),some (.ref l),some (.ref dd),o3,o4,none],
   ⟨ts.length,by simp,Nat.zero_le _,s1,⟨[],af,.nil⟩,none,none,rfl⟩,?_⟩
  rintro i m' σ' H' ⟨rfl,hi,sH,⟨Fe,hd,dr⟩,o3,o4,rfl⟩;have Gk:=sH _ _ hl;have Ka:=sH _ _ hs;obtain⟨gd,Ir,gl⟩:=gg i hi
  by_cases Fy:i<ts.length
  ·have To:i<ys.length:=by omega
   refine .inr ⟨⟨ys,ys[i],aV.of Gk,by simp[To]⟩,λσ' H'=>i+1<=ts.length/\ay H H'/\(∃Fe,H' dd=some (.dT Fe)/\DR H' Fe (xP p (ts.take (i+1))))/\∃o3 o4,σ'=[some (.ref s0),some (.ref l),some (.ref dd),o3,o4,none],?_,λy H2 hy=>?_⟩
   ·rintro σ' H' ⟨h1,h2,h3,h4⟩;exact⟨ts.length-(i+1),by omega,rfl,h1,h2,h3,h4⟩
   ·obtain⟨rfl,hy⟩:=hy;obtain⟨t,et,tr⟩:=bR Kd (hy ys (aV.of Gk));obtain⟨a,pr,nu,rfl,ha,GQ,HW⟩:=tr.keep (aS.of sH);have gt:=hG t (List.mem_of_getElem? et)
    have HH:ts.take (i+1)=ts.take i++[t]:=by rw[List.take_add_one,et];rfl
    have Ha:∀H3:Hp,aS H2 H3->H3 pr=some (.tup ((jJ t.1).map kV)):=λH3 k=>by rw[jd];exact k _ _ GQ
    have fin:∀(H3:Hp)(an:Addr),ay H H3->aS H2 H3->H3 dd=some (.dT Fe)->((xP p (ts.take i)).any (λe=>decide (e.1=t.1))=false->H3 an=some (du t.2.1 t.2.2)) →
     (∀e∈xP p (ts.take i),e.1=t.1->H3 an=some (du (eP p e.2 t.2).1 (eP p e.2 t.2).2)) →
     ay H (upd H3 dd (.dT (gb Fe (jJ t.1) (.ref an))))/\∃Iu,(upd H3 dd (.dT (gb Fe (jJ t.1) (.ref an)))) dd=some (.dT Iu)/\DR (upd H3 dd (.dT (gb Fe (jJ t.1) (.ref an)))) Iu (xP p (ts.take (i+1))):=by
     intro H3 an s3 k3 h3 K9 Hx;refine⟨λb u e=>by rw[ai (au e GW)];exact s3 b u e,_,af,?_⟩;rw[HH,jo];exact(wm (dr.keep k3) Ir K9 Hx).keep (aS.upd λxs z=>by rw[h3] at z;cases z)
    have Iv:Fe.length<sizeLine:=by
     rw[dr.length];exact Nat.lt_of_le_of_lt gl (Nat.lt_trans (Nat.lt_of_le_of_lt hi h64) (by decide))
    refine⟨a,_,rfl,bV.of ha,rfl,_,_,rfl,_,_,rfl,rfl,?_⟩;refine⟨_,rfl,_,rfl,dd,_,rfl,jt.t hd (Ha _ λ_ _ e=>e),_,rfl,?_⟩
    cases hq:(xP p (ts.take i)).any (λe=>decide (e.1=t.1)) with
    |false =>
     rw[rC t.1 dr hq];refine bH ?_;refine⟨_,rfl,_,rfl,_,rfl,dd,_,rfl,p6.t hd (Ha _ λ_ _ e=>e) Iv,?_⟩
     obtain⟨f1,f2⟩:=fin H2 nu sH (λ_ _ e=>e) hd (λ_=>HW) λe he z=>by
      have:(xP p (ts.take i)).any (λe=>decide (e.1=t.1))=true:=List.any_eq_true.mpr ⟨e,he,by simpa using z⟩;rw[hq] at this;cases this
     exact⟨Fy,f1,f2,_,_,rfl⟩
    |true =>
     obtain⟨e,he,ek,a0,hv,Tp⟩:=jR t.1 dr hq;rw[hv];refine bw ?_;have ge:=gd e he
     refine⟨_,rfl,s0,dx,_,rfl,Ka,rfl,_,rfl,_,rfl,dd,_,rfl,(by rw[<-hv];exact jt.t hd (Ha _ λ_ _ e=>e)),_,rfl,s0,dx,a0,nu,p,e.2.1,e.2.2,t.2.1,t.2.2,rfl,Ka,hp,Tp,HW,
      ge.2.1,ge.2.2,gt.2.1,gt.2.2,ge.ne,gt.ne,λa1 Jj=>?_⟩
     have sU:ay H2 (upd H2 a1 (du (eP p e.2 t.2).1 (eP p e.2 t.2).2)):=ak Jj;refine⟨_,rfl,_,rfl,_,rfl,dd,_,rfl,p6.t (sU _ _ hd) (Ha _ (aS.of sU)) Iv,?_⟩
     obtain⟨f1,f2⟩:=fin _ a1 (λb u z=>sU _ _ (sH _ _ z)) (aS.of sU) (sU _ _ hd) (λz=>by rw[hq] at z;cases z) λe' NB z=>by
      have:e'=e:=iC Ir NB he (z.trans ek.symm);subst this;exact af
     exact⟨Fy,f1,f2,_,_,rfl⟩
  ·have ei:i=ts.length:=by omega
   subst ei;refine .inl ⟨⟨ys,aV.of Gk,by omega⟩,?_⟩;rw[List.take_length] at dr gd Ir gl;refine⟨_,rfl,dd,Fe,rfl,.inr ⟨hd,λo=>?_⟩⟩
   have sF:ay H (upd H' dd (oE o Fe)):=λb u e=>by rw[ai (au e GW)];exact sH b u e
   have Tq:DR (upd H' dd (oE o Fe)) Fe (xP p ts):=dr.keep (aS.upd λxs z=>by rw[hd] at z;cases z);have kl:Fe.length=(xP p ts).length:=dr.length
   refine⟨λi m xs σ' H2=>m=(xP p ts).length-i/\i<=(xP p ts).length/\ay H H2/\H2 dd=some (oE o Fe)/\DR H2 Fe (xP p ts)/\bJ H2 xs (((xP p ts).take i).filter λe=>e.2.1 != 0)/\∃o1 o2,σ'=[o1,o2],
    ⟨(xP p ts).length,by simp,Nat.zero_le _,sF,af,Tq,.nil,none,none,rfl⟩,?_⟩
   rintro i m' xs σ' H2 ⟨rfl,hi2,s2,hd2,Ke,Gp,o1,o2,rfl⟩
   have xl:xs.length<=(xP p ts).length:=by
    rw[Gp.length];exact Nat.le_trans (List.length_filter_le _ _) (by simp;omega)
   refine⟨Nat.lt_of_le_of_lt (Nat.le_trans xl gl) (Nat.lt_trans h64 (by decide)),?_⟩
   by_cases Gs:i<(xP p ts).length
   ·refine .inr ⟨⟨by omega,hd2⟩,λx H3 hx=>?_⟩;obtain⟨pp,b,k,v,hk,Q9,hb,rfl,rfl⟩:=hx;obtain⟨e,ee,ek,a,ev,ha⟩:=bR Ke hk;have ek:k=jJ e.1:=ek;have ev:v=.ref a:=ev;subst ek;subst ev;have sP:ay H2 (upd H2 pp (.tup [.ref b,.ref a])):=ak Q9
    have HH:(xP p ts).take (i+1)=(xP p ts).take i++[e]:=by rw[List.take_add_one,ee];rfl
    rw[jd] at hb;refine⟨pp,_,rfl,bV.of af,rfl,_,_,rfl,_,_,rfl,rfl,?_⟩;refine⟨_,rfl,a,_,0,_,rfl,rfl,bV.of (sP _ _ ha),rfl,rfl,_,rfl,?_⟩;have dP:upd H2 pp (.tup [.ref b,.ref a]) dd=some (oE o Fe):=sP _ _ hd2
    cases hz:(e.2.1 != 0) with
    |true =>
     have z:(!decide (V.int e.2.1=V.int 0))=true:=by
      have:e.2.1≠0:=by simpa using hz
      simp[this]
     rw[z];refine bw ⟨_,rfl,_,rfl,ic,λt' NC=>?_⟩;have sT:ay (upd H2 pp (.tup [.ref b,.ref a])) (upd (upd H2 pp (.tup [.ref b,.ref a])) t' (.tup [.ref b,.ref a])):=ak NC;have sA:ay H2 (upd (upd H2 pp (.tup [.ref b,.ref a])) t' (.tup [.ref b,.ref a])):=λc u e=>sT _ _ (sP _ _ e);refine⟨(xP p ts).length-(i+1),by omega,rfl,Gs,λc u e=>sA _ _ (s2 _ _ e),sA _ _ hd2,Ke.keep (aS.of sA),?_,_,_,rfl⟩;rw[HH,List.filter_append]
     have ef:[e].filter (λe=>e.2.1 != 0)=[e]:=by simp[hz]
     rw[ef];exact Paired.snoc (bJ.keep Gp (aS.of sA)) ⟨t',b,a,rfl,af,sA _ _ hb,sA _ _ ha⟩
    |false =>
     have z:(!decide (V.int e.2.1=V.int 0))=false:=by
      have:e.2.1=0:=by simpa using hz
      simp[this]
     rw[z];refine bH ⟨(xP p ts).length-(i+1),by omega,rfl,Gs,λc u e=>sP _ _ (s2 _ _ e),sP _ _ hd2,Ke.keep (aS.of sP),?_,_,_,rfl⟩;rw[HH,List.filter_append]
     have ef:[e].filter (λe=>e.2.1 != 0)=[]:=by simp[hz]
     rw[ef,List.append_nil];exact bJ.keep Gp (aS.of sP)
   ·have Tr:i=(xP p ts).length:=by omega
    subst Tr;refine .inl ⟨⟨by omega,hd2⟩,λD hD=>?_⟩;rw[List.take_length] at Gp;have sD:ay H2 (upd H2 D (.lst xs)):=ak hD;refine⟨_,rfl,D,xs,rfl,aV.of af,(by rw[Gp.length];exact G.few),?_⟩;refine i9 (bJ.keep Gp (aS.of sD)) λks H3 s3 hk=>?_;refine⟨_,jQ hk,sQ Ir _,λD2 Ij=>?_⟩;have sE:ay H3 (upd H3 D2 (.lst ((fj ((((xP p ts).filter λe=>e.2.1 != 0).map iu).zip xs)).map (·.2)))):=ak Ij;refine q _ D2 _ (λc u e=>sE _ _ (s3 _ _ (sD _ _ (s2 _ _ e)))) (none_of (λc u e=>s3 _ _ (sD _ _ (s2 _ _ e))) Ij) af ?_;have Lo:bJ H3 xs ((xP p ts).filter λe=>e.2.1 != 0):=bJ.keep Gp (aS.of λc u e=>s3 _ _ (sD _ _ e));exact bJ.keep (kD (iF (kJ Lo))) (aS.of sE)
abbrev EO:Stmt:=(aR 51)
abbrev A9:Stmt:=(aR 52)
def vG:Sp:=λvs H Q _=>∃(l:Addr)(p:Int)(ys:List V)(ts:List Tm),vs=[.int p,.ref l]/\FP p/\H l=some (.lst ys)/\bJ H ys ts/\E8 p ts /\
 ∀H' D zs,ay H H'->H D=none->H' D=some (.lst zs)->bJ H' zs (fH (xP p ts))->Q (.ref D) H'
theorem Ec:yI ["_law_row"] ["_law_row"] (aq EO):=dm (by decide +kernel)
theorem sX:yI ["_law_prime_here","_law_terms_here","_law_found","_law_product_here","_law_number_here"] wH (aq A9):=dm (by decide +kernel)
theorem C2 (F:u3 K "_law_row_key" "_law_row_key" EO f fd)(Fj:mg "len"=none):E6 P w K mg base (aN P w) 1 f fd ["_law_row"] ua:=by
 refine F.okN Ec (λvs H Q E h=>?_) (λFf A outer s H vs Q E hr h=>?_)
 ·obtain⟨a,b,z,xs,rfl,_⟩:=h;rfl
 ·obtain⟨a,b,z,xs,rfl,ha,hb,q⟩:=h;refine⟨_,(ar (az (@bX _ _ _ _ _ (@ah _ _ _ _ _ (aF bx (by rfl) Fj PySem.boot_len (@ah _ _ _ _ _ (@a9 _ _ _ _ _ _ _ bQ (pv 0) ao (λ_ _=>rfl)) ag rfl)) (@ah _ _ _ _ _ (@a9 _ _ _ _ _ _ _ bQ (pv 0) ao (λ_ _=>rfl)) ag rfl) rfl)))),?_⟩;refine⟨_,rfl,a,_,0,_,rfl,rfl,bV.of ha,rfl,b,xs,rfl,.inr (bV.of hb),_,rfl,a,_,0,_,rfl,rfl,bV.of ha,rfl,ic,λt ht=>q t ht⟩
theorem xh {fl fk:Addr}{Gq XZ:xR}(F:u3 K "_law_gathered" "_law_gathered" A9 f fd)(Fw:mg "sorted"=none)
 (Ts:E6 P w K mg base (aN P w) 3 fl Gq Au (jT jz))(Tt:L2.av K Gq Au [])(Tu:mg "_law_plus"=some (.ref fl))(Tv:keepIn K (.ref fl)=true)
 (FRk:E6 P w K mg base (aN P w) 1 fk XZ ["_law_row"] ua)(bRk:L2.av K XZ ["_law_row"] [])(mRk:mg "_law_row_key"=some (.ref fk)):
 E6 P w K mg base (aN P w) 4 f fd wH vG:=by
 refine F.okN sX (λvs H Q E h=>?_) (λFf A outer s H vs Q E hr h=>?_)
 ·obtain⟨l,p,ys,ts,rfl,_⟩:=h;rfl
 ·obtain⟨l,p,ys,ts,rfl,hp,hl,Kd,G,q⟩:=h;have h64:=G.len;have hG:=G.num;have F5:oJ 3 _:=hr.mono (by decide);have Tn:oJ 3 _:=hr.mono (by decide);have hu:=(hr.units:_+64<cLine)
  replace hu:=Nat.lt_of_le_of_lt (Nat.add_le_add_left (by decide:1<=64) _) hu
  refine⟨_,(aj (@aC _ _ 2 _ _ _ _ sX.nd rfl (Or.inr rfl) oH rfl (Or.inl rfl))
   (aj (iG PassesOwn.never rfl (c6 (pv 1)) (fJ rfl (bo (aI (i:=3) sX.nd rfl (Or.inl rfl)) (bo (aI (i:=4) sX.nd rfl (Or.inl rfl)) dB)))
   (ar (su hu (pv 2) (pv 3) (ax Ts F5 (by rfl) Tu Tv Tt .nil ae (@ah _ _ _ _ _ (pv 0) (@ah _ _ _ _ _ (abq hu (pv 2) (pv 3) (@bX _ _ _ _ _ (@ah _ _ _ _ _ ao (@ah _ _ _ _ _ ao ag rfl) rfl)) ⟨rfl,rfl,rfl,rfl⟩) (@ah _ _ _ _ _ (pv 4) ag rfl) rfl) rfl)) (by rfl))))
   (ar (az (oP FRk Tn bRk (by rfl) Fw (by rfl) mRk (cU (N:=["_law_product_here","_law_found"]) (nl:=1) (js:=[2]) (osc:=aq A9) ⟨rfl,rfl,by decide +kernel,by decide +kernel,by decide +kernel,rfl,(.cons ⟨rfl,by decide +kernel⟩ .nil),by decide +kernel⟩ rfl
    (zk (pv 2))
    (λCq fq sq Hq=>aI (i:=0) (by show(["_law_product_here","_law_found"]:E4).Nodup;decide +kernel) rfl (Or.inl rfl) (Or.inr rfl))
    (λCq fq sq Hq=>(eY (@aL _ _ _ _ _ _ _ _ kn (@a9 _ _ _ _ _ _ _ (show Bu _ (wd K) from bQ) (m8 hu (pv 1) (pv 0) (λ_ _=>rfl)) ao (λ_ _=>rfl)) ao (aB _))))
    (λCq fq sq Hq=>(@bX _ _ _ _ _ (@ah _ _ _ _ _ (pv 0) (@ah _ _ _ _ _ (m8 hu (pv 1) (pv 0) (λ_ _=>rfl)) ag rfl) rfl))))))))),?_⟩
  have hlen:=Kd.length
  have gg:∀i,i<=ts.length->lO p 4000 (xP p (ts.take i))/\((xP p (ts.take i)).map (·.1)).Nodup/\(xP p (ts.take i)).length<=i:=λi hi=>by
   obtain⟨_,g2,g3⟩:=dU (m:=4000) hp i (ts.take i) (by simp;omega) λt ht=>hG t (List.mem_of_mem_take ht);exact⟨G.steps i hi,g2,g3⟩
  have one:∀{n:Nat}{a:Int×Int},Gn p n a->p≠0->a.2=1:=λh z=>(h.1.pr z).1;refine λdd GW=>?_;have s1:ay H (upd H dd (.dT [])):=ak GW;refine⟨_,rfl,l,rfl,⟨ys,aV.of (s1 _ _ hl)⟩,?_⟩;refine abM (xs:=ys) (λi σ' H'=>ay H H'/\(∃Fe,H' dd=some (.dT Fe)/\DR H' Fe (xP p (ts.take i)))/\∃o3 o4,σ'=[some (.int p),some (.ref l),some (.ref dd),o3,o4]) ⟨s1,⟨[],af,.nil⟩,none,none,rfl⟩ (λi σ' H' _ h=>aV.of (h.1 _ _ hl)) (λi x σ' H2 hx h=>?_) (λσ' H' h=>?_)
  ·obtain⟨sH,⟨Fe,hd,dr⟩,o3,o4,rfl⟩:=h;obtain⟨t,et,tr⟩:=bR Kd hx;have hi:i<ts.length:=(List.getElem?_eq_some_iff.mp et).1;obtain⟨gd,Ir,gl⟩:=gg i (by omega);obtain⟨a,pr,nu,rfl,ha,GQ,HW⟩:=tr.keep (aS.of sH);have gt:=hG t (List.mem_of_getElem? et)
   have HH:ts.take (i+1)=ts.take i++[t]:=by rw[List.take_add_one,et];rfl
   have Ha:∀H3:Hp,aS H2 H3->H3 pr=some (.tup ((jJ t.1).map kV)):=λH3 k=>by rw[jd];exact k _ _ GQ
   have Iv:Fe.length<sizeLine:=by
    rw[dr.length];exact Nat.lt_of_le_of_lt gl (Nat.lt_trans (Nat.lt_trans hi h64) (by decide))
   have fin:∀(H3:Hp)(an:Addr),ay H2 H3->((xP p (ts.take i)).any (λe=>decide (e.1=t.1))=false->H3 an=some (du t.2.1 t.2.2))->(∀e∈xP p (ts.take i),e.1=t.1->H3 an=some (du (eP p e.2 t.2).1 (eP p e.2 t.2).2)) →
    ay H (upd H3 dd (.dT (gb Fe (jJ t.1) (.ref an))))/\∃Iu,(upd H3 dd (.dT (gb Fe (jJ t.1) (.ref an)))) dd=some (.dT Iu)/\DR (upd H3 dd (.dT (gb Fe (jJ t.1) (.ref an)))) Iu (xP p (ts.take (i+1))):=by
    intro H3 an s3 K9 Hx;refine⟨λb u e=>by rw[ai (au e GW)];exact s3 b u (sH b u e),_,af,?_⟩;rw[HH,jo];exact(wm (dr.keep (aS.of s3)) Ir K9 Hx).keep (aS.upd λxs z=>by rw[s3 _ _ hd] at z;cases z)
   refine⟨a,_,rfl,bV.of ha,rfl,_,_,rfl,_,_,rfl,rfl,?_⟩;refine⟨_,rfl,_,rfl,dd,rfl,.inr ⟨Fe,.inl hd⟩,_,rfl,ic,λt0 Tw=>?_⟩;have sZ:ay H2 (upd H2 t0 (.tup [.int 0,.int 1])):=ak Tw;refine⟨_,jt.t (sZ _ _ hd) (Ha _ (aS.of sZ)),?_⟩
   cases hq:(xP p (ts.take i)).any (λe=>decide (e.1=t.1)) with
   |false =>
    rw[rC t.1 dr hq];refine⟨_,rfl,p,0,1,t.2.1,t.2.2,t0,nu,rfl,hp,af,sZ _ _ HW,(by unfold B;decide),(by show(1:Nat)<2^4000;exact Nat.one_lt_two_pow (by decide)),gt.2.1,gt.2.2,(by decide),gt.ne,λz=>by rw[one gt z];decide,λH3 an s3 h3=>?_⟩;have ez:eP p (0,1) t.2=t.2:=tW hp gt;have sA:ay H2 H3:=sZ.trans s3;refine⟨_,rfl,_,rfl,dd,_,rfl,p6.t (sA _ _ hd) (Ha _ (aS.of sA)) Iv,?_⟩
    obtain⟨f1,f2⟩:=fin H3 an sA (λ_=>by
     have:H3 an=some (du (eP p (0,1) t.2).1 (eP p (0,1) t.2).2):=h3;rw[ez] at this
     exact this) λe he z=>by
     have:(xP p (ts.take i)).any (λe=>decide (e.1=t.1))=true:=List.any_eq_true.mpr ⟨e,he,by simpa using z⟩;rw[hq] at this;cases this
    exact⟨f1,f2,_,_,rfl⟩
   |true =>
    obtain⟨e,he,ek,a0,hv,Tp⟩:=jR t.1 dr hq;rw[hv];have ge:=gd e he;refine⟨_,rfl,p,e.2.1,e.2.2,t.2.1,t.2.2,a0,nu,rfl,hp,sZ _ _ Tp,sZ _ _ HW,ge.2.1,ge.2.2,gt.2.1,gt.2.2,ge.ne,gt.ne,λz=>by rw[one gt z,one ge z];decide,λH3 an s3 h3=>?_⟩;have sA:ay H2 H3:=sZ.trans s3;refine⟨_,rfl,_,rfl,dd,_,rfl,p6.t (sA _ _ hd) (Ha _ (aS.of sA)) Iv,?_⟩
    obtain⟨f1,f2⟩:=fin H3 an sA (λz=>by rw[hq] at z;cases z) λe' NB z=>by
     have:e'=e:=iC Ir NB he (z.trans ek.symm);subst this;exact h3
    exact⟨f1,f2,_,_,rfl⟩
  ·obtain⟨sH,⟨Fe,hd,dr⟩,o3,o4,rfl⟩:=h;obtain⟨gd,Ir,gl⟩:=gg ts.length (Nat.le_refl _);rw[hlen] at dr;rw[List.take_length] at dr gd Ir gl;refine⟨_,rfl,dd,Fe,rfl,.inr ⟨hd,λo=>?_⟩⟩
   have sF:ay H (upd H' dd (oE o Fe)):=λb u e=>by rw[ai (au e GW)];exact sH b u e
   have Tq:DR (upd H' dd (oE o Fe)) Fe (xP p ts):=dr.keep (aS.upd λxs z=>by rw[hd] at z;cases z);have kl:Fe.length=(xP p ts).length:=dr.length
   refine⟨λi m xs σ' H2=>m=(xP p ts).length-i/\i<=(xP p ts).length/\ay H H2/\H2 dd=some (oE o Fe)/\DR H2 Fe (xP p ts)/\bJ H2 xs (((xP p ts).take i).filter λe=>e.2.1 != 0)/\∃o1,σ'=[o1,some (.ref dd)],
    ⟨(xP p ts).length,by simp,Nat.zero_le _,sF,af,Tq,.nil,none,rfl⟩,?_⟩
   rintro i m' xs σ' H2 ⟨rfl,hi2,s2,hd2,Ke,Gp,o1,rfl⟩
   have xl:xs.length<=(xP p ts).length:=by
    rw[Gp.length];exact Nat.le_trans (List.length_filter_le _ _) (by simp;omega)
   refine⟨Nat.lt_of_le_of_lt (Nat.le_trans xl gl) (Nat.lt_trans h64 (by decide)),?_⟩
   by_cases Gs:i<(xP p ts).length
   ·refine .inr ⟨⟨by omega,hd2⟩,λx H3 hx=>?_⟩;obtain⟨b,k,v,hk,hb,rfl,rfl⟩:=hx;obtain⟨e,ee,ek,_⟩:=bR Ke hk;have ek:k=jJ e.1:=ek;subst ek;have he:=List.mem_of_getElem? ee
    have HH:(xP p ts).take (i+1)=(xP p ts).take i++[e]:=by rw[List.take_add_one,ee];rfl
    obtain⟨e',NB,ek',a,hv,ha⟩:=jR e.1 Ke (List.any_eq_true.mpr ⟨e,he,by simp⟩);have:e'=e:=iC Ir NB he ek';subst this;have dg:jt H3 dd (.ref b) (some (.ref a)):=.inr ⟨Fe,jJ e'.1,b,.inr ⟨o,hd2⟩,rfl,hb,hv.symm⟩;have F9:=hb;rw[jd] at F9;refine⟨_,rfl,_,rfl,dd,.ref a,rfl,dg,a,_,0,_,rfl,rfl,bV.of ha,rfl,rfl,_,rfl,?_⟩
    cases hz:(e'.2.1 != 0) with
    |true =>
     have z:(!decide (V.int e'.2.1=V.int 0))=true:=by
      have:e'.2.1≠0:=by simpa using hz
      simp[this]
     rw[z];refine bw ⟨_,rfl,_,rfl,_,rfl,dd,.ref a,rfl,dg,ic,λt' NC=>?_⟩;have sA:ay H3 (upd H3 t' (.tup [.ref b,.ref a])):=ak NC;refine⟨(xP p ts).length-(i+1),by omega,rfl,Gs,s2.trans sA,sA _ _ hd2,Ke.keep (aS.of sA),?_,_,rfl⟩;rw[HH,List.filter_append]
     have ef:[e'].filter (λe=>e.2.1 != 0)=[e']:=by simp[hz]
     rw[ef];exact Paired.snoc (bJ.keep Gp (aS.of sA)) ⟨t',b,a,rfl,af,sA _ _ F9,sA _ _ ha⟩
    |false =>
     have z:(!decide (V.int e'.2.1=V.int 0))=false:=by
      have:e'.2.1=0:=by simpa using hz
      simp[this]
     rw[z];refine bH ⟨(xP p ts).length-(i+1),by omega,rfl,Gs,s2,hd2,Ke,?_,_,rfl⟩;rw[HH,List.filter_append]
     have ef:[e'].filter (λe=>e.2.1 != 0)=[]:=by simp[hz]
     rw[ef,List.append_nil];exact Gp
   ·have Tr:i=(xP p ts).length:=by omega
    subst Tr;refine .inl ⟨⟨by omega,hd2⟩,λD hD=>?_⟩;rw[List.take_length] at Gp;have sD:ay H2 (upd H2 D (.lst xs)):=ak hD;refine⟨D,xs,rfl,aV.of af,(by rw[Gp.length];exact G.few),?_⟩;refine i9 (bJ.keep Gp (aS.of sD)) λks H3 s3 hk=>?_;refine⟨_,jQ hk,sQ Ir _,λD2 Ij=>?_⟩;have sE:ay H3 (upd H3 D2 (.lst ((fj ((((xP p ts).filter λe=>e.2.1 != 0).map iu).zip xs)).map (·.2)))):=ak Ij;refine q _ D2 _ (λc u e=>sE _ _ (s3 _ _ (sD _ _ (s2 _ _ e)))) (none_of (λc u e=>s3 _ _ (sD _ _ (s2 _ _ e))) Ij) af ?_;have Lo:bJ H3 xs ((xP p ts).filter λe=>e.2.1 != 0):=bJ.keep Gp (aS.of λc u e=>s3 _ _ (sD _ _ e));exact bJ.keep (kD (iF (kJ Lo))) (aS.of sE)
abbrev ou:Stmt:=aD (aR 34) 0
def BD (ks:List Int):Prop:=ke (some (ks.map V.int))=true/\ks.length<4000
theorem zi {t b:Int}(n:Num p t b):vo p (some (.int t,.int b))=true:=by
 unfold vo;dsimp only
 by_cases z:p=0
 ·rw[if_pos z,n.red];have:=n.pos;simp;omega
 ·rw[if_neg z];obtain⟨h1,h2,h3⟩:=n.pr z;simp[h1,h2,h3]
theorem Cm {n:Nat}{y:V}{t:Tm}(h:BE H y t)(g:Gn p n t.2)(pd:BD t.1):Cd p H y true:=by
 obtain⟨a,pr,nu,rfl,ha,GQ,HW⟩:=h
 have e:Cd p H (.ref a) (ke (some (t.1.map V.int))&&vo p (some (.int t.2.1,.int t.2.2))):=.two ha (.tup GQ (by rw[List.length_map];exact pd.2) λy hy=>by
  obtain⟨k,_,rfl⟩:=List.mem_map.mp hy
  exact⟨_,.int k⟩) (.two HW (.int _) (.int _))
 rw[pd.1,zi g.1] at e;exact e
theorem vQ {n:Nat}:∀{ys:List V}{ts:List Tm},bJ H ys ts->(∀t∈ts,Gn p n t.2/\BD t.1)->∀y∈ys,Cd p H y true
 |_,_,.nil,_,y,hy=>nomatch hy
 |_,_,.cons h t,g,y,hy=>by
  rcases List.mem_cons.mp hy with rfl|hy
  ·exact Cm h (g _ List.mem_cons_self).1 (g _ List.mem_cons_self).2
  ·exact vQ t (λt ht=>g t (List.mem_cons_of_mem _ ht)) y hy
structure Em (K:Frag)(mg:wg)(C:Addr):Prop where
 cl:uF K C
 nF:bz K C "its_field"
 nT:bz K C "its_terms"
 mgC:mg "Sum"=some (.ref C)
def w8 (fl D:Addr):List (Str×V):=[("its_field",.ref fl),("its_terms",.ref D)]
def eR (C CF:Addr):Sp:=λvs H Q _=>∃(s dx fl Fh:Addr)(p:Int)(x:V)(ts:List Tm),vs=[.ref s,.ref fl,x]/\H s=some (.ins C dx [])/\H fl=some (.ins CF Fh (cK p))/\FP p /\
 ((x=.non/\ts=[])\/∃l ys,x=.ref l/\H l=some (.lst ys)/\bJ H ys ts)/\E8 p ts/\(∀t∈ts,BD t.1) /\
 ∀H' D zs,SameBut s H H'->H D=none->H' s=some (.ins C dx (w8 fl D))->H' D=some (.lst zs)->bJ H' zs (fH (xP p ts))->Q .non H'
theorem yS:yI uD uD (aq ou):=dm (by decide +kernel)
theorem vE {fg fc C CF T:Addr}{HE Kf:xR}(F:DJ K "__init__" "Sum.__init__" ou f fd T)(c:Em K mg C)
 (FG:E6 P w K mg base (aN P w) 5 fg HE wA (qv CF))(bG:L2.av K HE wA [])(mG:mg "gathered"=some (.ref fg))(kG:keepIn K (.ref fg)=true)
 (FC:E6 P w K mg base (aN P w) 5 fc Kf wA (mx CF))(bC:L2.av K Kf wA [])(mC:mg "checked_terms"=some (.ref fc))(kC:keepIn K (.ref fc)=true):
 E6 P w K mg base (aN P w) 6 f fd uD (eR C CF):=by
 refine F.okE yS (λvs H Q E h=>?_) (λFf A outer s H vs Q E hr h=>?_)
 ·obtain⟨s,dx,fl,Fh,p,x,ts,rfl,_⟩:=h;rfl
 ·obtain⟨s0,dx,fl,Fh,p,x,ts,rfl,hs,hf,hp,hx,G,hP,q⟩:=h;have hG:∀t∈ts,Gn p 4000 t.2/\BD t.1:=λt ht=>⟨G.num t ht,hP t ht⟩;have Hb:oJ 5 _:=hr.mono (by decide);refine⟨_,aj (cM (pv 0) (pv 1) rfl) (ar (cM (pv 0) (ax FG Hb (by rfl) mG kG bG .nil ae (@ah _ _ _ _ _ (pv 1) (@ah _ _ _ _ _ (ax FC Hb (by rfl) mC kC bC .nil ae (@ah _ _ _ _ _ (pv 1) (@ah _ _ _ _ _ (pv 2) ag rfl) rfl)) ag rfl) rfl)) rfl)),?_⟩;refine⟨_,rfl,_,rfl,s0,C,dx,_,rfl,hs,c.cl,c.nF,by decide,?_⟩
  have M8:fl≠s0:=λz=>by
   rw[z,hs] at hf
   injection hf with hf
   injection hf with _ _ hf
   cases hf
  have Lp:upd H s0 (.ins C dx (bt "its_field" (.ref fl) [])) fl=some (.ins CF Fh (cK p)):=by rw[ai M8];exact hf
  have kT:aS H (upd H s0 (.ins C dx (bt "its_field" (.ref fl) []))):=aS.upd λxs z=>by rw[hs] at z;cases z
  have fin:∀(H2:Hp)(l:Addr)(ys:List V),ay (upd H s0 (.ins C dx (bt "its_field" (.ref fl) []))) H2->H2 l=some (.lst ys)->bJ H2 ys ts->qv CF [.ref fl,.ref l] H2 (λy H1=>cg 0 [some (.ref s0),some (.ref fl),some x] H1 λx2 H2=>∃a C dx fs,x2=.ref a/\H2 a=some (.ins C dx fs)/\uF K C/\bz K C "its_terms"/\fs.length<1000 /\
   Q .non (upd H2 a (.ins C dx (bt "its_terms" y fs)))) λ_ _ _=>False:=by
   intro H2 l ys s2 hl ht;refine⟨fl,Fh,l,p,ys,ts,rfl,s2 _ _ Lp,hp,hl,ht,G,λH3 D zs s3 h0 hD hz=>?_⟩;have Lq:H3 s0=some (.ins C dx (bt "its_field" (.ref fl) [])):=s3 _ _ (s2 _ _ af);refine⟨_,rfl,s0,C,dx,_,rfl,Lq,c.cl,c.nT,(by show 1<1000;decide),?_⟩
   have nD:D≠s0:=λz=>by rw[z,Lq] at hD;cases hD
   refine q _ D zs (λb u e nb=>?_) (none_of (λc u e=>e) (by
    cases e:H D with
    |none=>rfl
    |some u=>rw[s2 D u (by rw[ai nD];exact e)] at h0;cases h0)) af (by rw[ai nD];exact hD) (bJ.keep hz (aS.upd λxs z=>by rw[Lq] at z;cases z))
   rw[ai nb];exact s3 _ _ (s2 _ _ (by rw[ai nb];exact e))
  rcases hx with⟨rfl,rfl⟩|⟨l,ys,rfl,hl,ht⟩
  ·refine⟨_,rfl,_,rfl,_,rfl,fl,Fh,p,.non,rfl,Lp,hp,.inl ⟨rfl,λl hl=>?_⟩⟩;exact fin _ l [] (ak hl) af .nil
  ·have nl:l≠s0:=λz=>by rw[z,hs] at hl;cases hl
   have Hy:upd H s0 (.ins C dx (bt "its_field" (.ref fl) [])) l=some (.lst ys):=by rw[ai nl];exact hl
   have X0:=bJ.keep ht kT;refine⟨_,rfl,_,rfl,_,rfl,fl,Fh,p,.ref l,rfl,Lp,hp,.inr ⟨l,ys,rfl,Hy,?_,vQ X0 hG,λH2 s2=>?_⟩⟩
   ·rw[ht.length];have:=G.len;omega
   ·exact fin _ l ys s2 (s2 _ _ Hy) (bJ.keep X0 (aS.of s2))
end K80
namespace Mx
open PySem PyProof.Rows
def jE:Option Int->List Int->Option Int
 |b,[]=>b
 |none,n::ns=>jE (some n) ns
 |some m,n::ns=>jE (some (if n>m then n else m)) ns
def kept (c:Nat):Option (Int×Tok)->Obj
 |none=>{cls:=.type "list",dict:=none,data:=.seq #[] c,slots:=#[]}
 |some (m,t)=>{cls:=.type "list",dict:=none,data:=.seq #[.int m t,.int m t] c,slots:=#[]}
section
variable {prog:u6}{w:World}{A:Around}{E:vy}{s:AQ}{R:Result->Shared->Prop}
theorem yq {a b:Int}{t u:Tok}{Q:vy}(h:Q (.bool (decide (a>b))) s):wpAny (model prog w) A (richCompare .Gt (.int a t) (.int b u)) Q E s :=
 CmpOf.ints_gt (P:=λi v=>∃t,v=.int (if i=0 then a else b) t) (λi=>if i=0 then a else b) (λ{_ _} h=>h) 0 1 _ _ s Q E ⟨t,by simp⟩ ⟨u,by simp⟩ (by simpa using h)
theorem AV (a v:Value):argsOk "max" ⟨[a],[(Str.ofString "default",v)]⟩:=by unfold argsOk;kernel_rfl
theorem p9 {I l S:Addr}{items:tN}{d:Value}(hh:A.handled=none)(Kg:S≠I)(ND:S≠l)(Mu:l≠I):∀(ns:List Int)(i:Nat)(s:AQ)(b:Option (Int×Tok))(c:Nat),
 s.heap.IsListIter I l i->s.heap.IsList l items->IntsAre (items.toList.drop i) ns->s.heap.get? S=some (kept c b) →
 (∀v h' tk,(match jE (b.map (·.1)) ns with|none=>v=d|some m=>∃t,v=.int m t)->(∀x o,x≠I->x≠S->s.heap.get? x=some o->h'.get? x=some o)->R (.ok (.ret v)) {s with heap:=h',toks:=tk}) →
 codeAny (model prog w) A (.builtin "max.loop" ⟨[.ref I,.none,.ref S],[(Str.ofString "default",d)]⟩) R s
 |[],i,s,b,c,hit,hl,hn,hS,hR=>by
  have hx:items[i]?=none:=by
   have e:items.toList.drop i=[]:=by cases hq:items.toList.drop i with
    |nil=>rfl
    |cons x r=>rw[hq] at hn;cases hn
   have:=List.drop_eq_nil_iff.mp e;simp at this |-;omega
  refine codeAny_builtin F.entry_max_loop ?_;rw[Around.under_plainId F.plain_max_loop _]
  cases b with
  |none =>
   show wpAny _ A.in1 (seqItems? (.ref S)>>=_) _ _ s;refine wpAny_bind (wpAny_seqItems hS rfl ?_);show wpAny _ A.in1 (tryCatch (pyNext (.ref I)) _>>=_) _ _ s;refine wpAny_bind (wpAny_tryCatch (wpAny_pyNext_list_end hh hit hl hx λh' eb=>?_));refine wpAny_bind (wpAny_rule (wpAny_pure ?_));exact hR d h' s.toks rfl λx o h1 _ e=>eb x o h1 e
  |some p =>
   obtain⟨m,t⟩:=p;show wpAny _ A.in1 (seqItems? (.ref S)>>=_) _ _ s;refine wpAny_bind (wpAny_seqItems hS rfl ?_);show wpAny _ A.in1 (tryCatch (pyNext (.ref I)) _>>=_) _ _ s;refine wpAny_bind (wpAny_tryCatch (wpAny_pyNext_list_end hh hit hl hx λh' eb=>?_));have Kh:=eb S _ Kg hS;show wpAny _ A.in1 (updateSeq S (λ_=>#[])>>=_) _ _ _;refine wpAny_bind (wpAny_updateSeq Kh rfl (wpAny_bind (wpAny_letGo (wpAny_pure ?_))));exact hR _ _ s.toks ⟨t,rfl⟩ λx o h1 h2 e=>(Heap.get?_update_other _ _ (Ne.symm h2)).trans (eb x o h1 e)
 |n::ns,i,s,b,c,hit,hl,hn,hS,hR=>by
  have Hc:(toString "max"++toString ".loop":String)="max.loop":=by decide
  obtain⟨t,hx,K4⟩:∃t,items[i]?=some (.int n t)/\IntsAre (items.toList.drop (i+1)) ns:=by
   cases hq:items.toList.drop i with
   |nil=>rw[hq] at hn;cases hn
   |cons x r =>
    rw[hq] at hn
    cases hn with
    |cons _ t hr =>
     refine⟨t,?_,?_⟩
     ·have:(items.toList.drop i)[0]?=some (Value.int n t):=by rw[hq];rfl
      simpa using this
     ·have:items.toList.drop (i+1)=(items.toList.drop i).drop 1:=by rw[List.drop_drop,Nat.add_comm]
      rw[this,hq];exact hr
  refine codeAny_builtin F.entry_max_loop ?_;rw[Around.under_plainId F.plain_max_loop _]
  cases b with
  |none =>
   show wpAny _ A.in1 (seqItems? (.ref S)>>=_) _ _ s;refine wpAny_bind (wpAny_seqItems hS rfl ?_);show wpAny _ A.in1 (tryCatch (pyNext (.ref I)) _>>=_) _ _ s;refine wpAny_bind (wpAny_tryCatch (wpAny_pyNext_list_item hit hl hx λh' JC sb=>?_));have Kh:=(sb.2 S Kg).trans hS;show wpAny _ A.in1 (updateSeq S (λ_=>#[.int n t,.int n t])>>=_) _ _ _;refine wpAny_bind (wpAny_updateSeq Kh rfl ?_);rw[Hc];refine wpAny_pure ⟨plainId_quiet F.plain_max_loop _,?_⟩;have up:∀x o,x≠S->h'.get? x=some o->(h'.update S (Obj.mapSeq λ_=>#[.int n t,.int n t])).get? x=some o:=λx o hx e=>(Heap.get?_update_other _ _ (Ne.symm hx)).trans e;refine p9 hh Kg ND Mu ns (i+1) _ (some (n,t)) _ (JC.at λo e=>up I o (Ne.symm Kg) e) ((hl.extBut sb.extBut Mu).at λo e=>up l o (Ne.symm ND) e) K4 (Heap.get?_update_self _ Kh rfl) λv h2 tk hv hk=>?_;exact hR v h2 tk hv λx o h1 h3 e=>hk x o h1 h3 (up x o h3 ((sb.2 x h1).trans e))
  |some p =>
   obtain⟨m,u⟩:=p;show wpAny _ A.in1 (seqItems? (.ref S)>>=_) _ _ s;refine wpAny_bind (wpAny_seqItems hS rfl ?_);show wpAny _ A.in1 (tryCatch (pyNext (.ref I)) _>>=_) _ _ s;refine wpAny_bind (wpAny_tryCatch (wpAny_pyNext_list_item hit hl hx λh' JC sb=>?_));have Kh:=(sb.2 S Kg).trans hS;show wpAny _ A.in1 (tryCatch (holding [.int n t,.int n t] (richCompare .Gt (.int n t) (.int m u)>>=_)) _>>=_) _ _ _;refine wpAny_bind (wpAny_tryCatch (wpAny_holding (wpAny_bind (yq ?_))));refine wpAny_bind (wpAny_holding (wpAny_truthy_bool ?_));refine wpAny_bind (wpAny_letGo (wpAny_pure ?_))
   by_cases hb:n>m
   ·simp only[decide_eq_true hb,if_true];refine wpAny_bind (wpAny_updateSeq Kh rfl (wpAny_bind (wpAny_letGo ?_)));rw[Hc];refine wpAny_pure ⟨plainId_quiet F.plain_max_loop _,?_⟩;have up:∀x o,x≠S->h'.get? x=some o->(h'.update S (Obj.mapSeq λ_=>#[.int n t,.int n t])).get? x=some o:=λx o hx e=>(Heap.get?_update_other _ _ (Ne.symm hx)).trans e;refine p9 hh Kg ND Mu ns (i+1) _ (some (n,t)) _ (JC.at λo e=>up I o (Ne.symm Kg) e) ((hl.extBut sb.extBut Mu).at λo e=>up l o (Ne.symm ND) e) K4 (Heap.get?_update_self _ Kh rfl) λv h2 tk hv hk=>?_;refine hR v h2 tk ?_ λx o h1 h3 e=>hk x o h1 h3 (up x o h3 ((sb.2 x h1).trans e));simpa only[Option.map_some,jE,if_pos hb] using hv
   ·simp only[decide_eq_false hb,Bool.false_eq_true,if_false];refine wpAny_bind (wpAny_letGo ?_);rw[Hc];refine wpAny_pure ⟨plainId_quiet F.plain_max_loop _,?_⟩;refine p9 hh Kg ND Mu ns (i+1) _ (some (m,u)) c JC (hl.extBut sb.extBut Mu) K4 Kh λv h2 tk hv hk=>?_;refine hR v h2 tk ?_ λx o h1 h3 e=>hk x o h1 h3 ((sb.2 x h1).trans e);simpa only[Option.map_some,jE,if_neg hb] using hv
theorem yN {id:String}{b:Builtin}{args:nZ}{kw:List (Str×Value)}{Q:vy}(hk:builtinKind id=none)(hp:plainId id=true)(hb:entryFor table id=some b)(ha:argsOk id ⟨args,kw⟩)
 (hc:wpAny (model prog w) A.in1 (b ⟨args,kw⟩) (λfin s'=>match fin with
  | .done f=>(match (Except.ok f:Result) with| .ok (.ret v)=>Q v s'| .ok _=>False| .error e=>E e s')
  | .again c'=>c'.quiet=true/\codeAny (model prog w) A c' (λr s'=>match r with| .ok (.ret v)=>Q v s'| .ok _=>False| .error e=>E e s') s') E s):
 wpAny (model prog w) A (call (.builtin id) args kw) Q E s:=by
 refine wpAny_call (codeAny_call_builtin hp hb ?_);simp only[checkBuiltinCall,hk]
 cases Tx:Manifest.signature? id with
 |none=>exact wpAny_pure hc
 |some zx =>
  have JA:Bind.checkArgs id zx ⟨args,kw⟩=pure ():=by simpa only[argsOk,Tx] using ha
  simp only[JA];exact wpAny_pure hc
theorem Bg {l:Addr}{items:tN}{ns:List Int}{d:Value}{Q:vy}(hh:A.handled=none)(hl:s.heap.IsList l items)(hn:IntsAre items.toList ns)
 (hQ:∀v h' tk,(match jE none ns with|none=>v=d|some m=>∃t,v=.int m t)->(∀x o,s.heap.get? x=some o->h'.get? x=some o)->Q v {s with heap:=h',toks:=tk}):
 wpAny (model prog w) A (call (.builtin "max") [.ref l] [(Str.ofString "default",d)]) Q E s:=by
 have Hc:(toString "max"++toString ".loop":String)="max.loop":=by decide
 refine yN F.kind_max F.plain_max F.entry_max (AV _ _) ?_;show wpAny _ A.in1 (Builtin.Builtins.bindParams "max" ["key","default"] 0 ⟨[],[(Str.ofString "default",d)]⟩>>=_) _ _ s;refine wpAny_bind (wpAny_of_eq (show Builtin.Builtins.bindParams "max" ["key","default"] 0 ⟨[],[(Str.ofString "default",d)]⟩=pure [none,some d] from rfl) ?_);refine wpAny_bind (wpAny_pure ?_);refine wpAny_bind (wpAny_pyIter_list hl ?_);refine wpAny_bind (wpAny_newObj_type ?_);rw[Hc]
 have lt:l<s.heap.objs.size:=by obtain⟨o,e,_⟩:=hl;exact Heap.lt_size e
 have sz:(s.heap.push {cls:=.type "list_iterator",data:=.fields #[.ref l,.int 0 0]}).objs.size=s.heap.objs.size+1:=Heap.size_push ..;have g2:∀x o,s.heap.get? x=some o->((s.heap.push {cls:=.type "list_iterator",data:=.fields #[.ref l,.int 0 0]}).push {cls:=.type "list",data:=.seq #[]}).get? x=some o:=λx o e=>Heap.get?_push_of_some _ (Heap.get?_push_of_some _ e);refine wpAny_pure ⟨plainId_quiet F.plain_max_loop _,p9 (items:=items) hh ?_ ?_ (Nat.ne_of_lt lt) ns 0 _ none 0 ⟨_,Heap.get?_push_of_some _ (Heap.get?_push_size _ rfl),rfl,rfl⟩ (hl.at λo e=>g2 l o e) (by simpa using hn) (Heap.get?_push_size _ rfl) λv h' tk hv hk=>?_⟩
 ·show(s.heap.push _).objs.size≠s.heap.objs.size;rw[sz];exact Nat.succ_ne_self _
 ·show(s.heap.push _).objs.size≠l;rw[sz];exact Nat.ne_of_gt (Nat.lt_succ_of_lt lt)
 ·refine hQ v h' tk hv λx o e=>hk x o (Nat.ne_of_lt (Heap.lt_size e)) ?_ (g2 x o e);show x≠(s.heap.push _).objs.size;rw[sz];exact Nat.ne_of_lt (Nat.lt_succ_of_lt (Heap.lt_size e))
end
end Mx
namespace L2
open PySem PySem.Spec PyProof.Rows PySem.W
section
variable {X:Cx}{e d:Expr}{ta td:TE}{p kpos pos:Pos}
def Cp (K:Frag)(ta td:TE):TE:=λσ H Q=>bg ta D6 σ H λvs H1=>bg td D6 σ H1 λds H2=>∃(l:Addr)(ns:List Int)(dv:V),vs=[.ref l]/\ds=[dv]/\aV K H2 l (ns.map V.int)/\Q (match Mx.jE none ns with|none=>dv|some m=>.int m) H2
theorem yu (ha:PE X e ta)(hd:PE X d td)(hc:X.calm=true)(hg:Gl X "max")(hm:X.mg "max"=none)(hs:gA e=false:=by rfl):PE X (.Call (.Name "max" p) [e] [⟨some "default",d,kpos⟩] pos) (Cp X.K ta td):=by
 intro pins s σ H Q I h;refine wpAny_Call_Name_kw (gm I hg hm (by rfl) ?_ (by decide) (by decide));refine callWith_builtin_kwB (by rw[aY hs];rfl) rfl (evalArgs_kw2 rfl ?_ (aY hs));refine bN (ah ha ag hs pos pins s σ H _ I h) λus s1 z'=>?_;obtain⟨vs,H1,I1,r1,h1⟩:=z';refine bN (ny (nm:=some "default") (kpos:=kpos) hd v9 pos pins s1 σ H1 _ I1 h1) λws s2 z'=>?_;obtain⟨ds,H2,I2,r2,l,ns,dv,e1,e2,hl,q⟩:=z';subst e1 e2;obtain⟨u,rfl,ru⟩:=eQ r1
 cases(show u=Value.ref l from ru)
 obtain⟨w',rfl,GD⟩:=eQ r2;obtain⟨its,rv,pl,hz⟩:=I2.list hl;show wpAny _ X.A (call (.builtin "max") [.ref l] [(Str.ofString "default",w')]) _ _ s2;refine Mx.Bg (I.ok.hd hc) pl.isList (by simpa using kA rv) λv h' tk hv hk=>?_;refine⟨_,H2,I2.kept (t':=tk) hk,?_,q⟩
 cases hb:Mx.jE none ns with
 |none=>rw[hb] at hv;cases hv;exact GD
 |some m=>rw[hb] at hv;obtain⟨t,rfl⟩:=hv;exact⟨t,rfl⟩
end
end L2
namespace K80
open PySem L2 PySem.W Nm Srt
abbrev rJ:Stmt:=aD (aR 34) 5
abbrev qa:Stmt:=aD (aR 34) 8
structure BU (C CF:Addr)(H:Hp)(s:Addr)(p:Int)(ts:List Tm):Prop where
 ex:∃dx fl Fh D zs,H s=some (.ins C dx (w8 fl D))/\H fl=some (.ins CF Fh (cK p))/\H D=some (.lst zs)/\bJ H zs ts
def pG (C CF:Addr):Sp:=λvs H Q _=>∃(s dx fl D:Addr),vs=[.ref s]/\H s=some (.ins C dx (w8 fl D))/\Q (.ref fl) H
theorem vD:yI ["self"] ["self"] (aq rJ):=dm (by decide +kernel)
variable {P:u6}{w:World}{K:PySem.W.Frag}{mg:wg}{base:Heap}
variable {f:Addr}{fd:xR}
theorem uy {C CF:Addr}(F:u3 K "field" "Sum.field" rJ f fd)(c:Em K mg C):E6 P w K mg base (aN P w) 1 f fd ["self"] (pG C CF):=by
 refine F.okN vD (λvs H Q E h=>?_) (λFf A outer s H vs Q E hr h=>?_)
 ·obtain⟨s,dx,fl,D,rfl,_⟩:=h;rfl
 ·obtain⟨s0,dx,fl,D,rfl,hs,q⟩:=h;exact⟨_,ar (az (aW (pv 0) rfl)),_,rfl,s0,C,dx,_,_,rfl,hs,c.cl,c.nF,rfl,q⟩
def iy (t:Tm):Int:=t.1.getLastD 0+1
def iI (ts:List Tm):Int:=(Mx.jE none ((ts.filter λt=>!t.1.isEmpty).map iy)).getD 0
def sr (C:Addr):Sp:=λvs H Q _=>∃(s dx fl D:Addr)(zs:List V)(ts:List Tm),vs=[.ref s]/\H s=some (.ins C dx (w8 fl D))/\H D=some (.lst zs)/\bJ H zs ts/\ts.length<4000/\(∀t∈ts,t.1.length<4000)/\∀H',ay H H'->Q (.int (iI ts)) H'
theorem yw:yI ["self"] ["self"] (aq qa):=dm (by decide +kernel)
theorem zq {ks:List Int}(h:ks≠[]):ml (ks.map V.int) (-1)=some (.int (ks.getLastD 0)):=by
 have hl:0<ks.length:=List.length_pos_iff.mpr h;unfold ml wR;rw[List.length_map,if_neg (by decide),if_pos (by omega)];show(ks.map V.int)[((-1:Int)+(ks.length:Int)).toNat]?=_
 have e:((-1:Int)+(ks.length:Int)).toNat=ks.length-1:=by omega
 rw[e,List.getElem?_map,List.getElem?_eq_getElem (by omega)]
 have g:ks.getLastD 0=ks[ks.length-1]'(by omega):=by
  rw[List.getLastD_eq_getLast?,List.getLast?_eq_getElem?,List.getElem?_eq_getElem (by omega)];rfl
 rw[g];rfl
theorem xG {C:Addr}(F:u3 K "reach" "Sum.reach" qa f fd)(c:Em K mg C)(GG:mg "max"=none):E6 P w K mg base (aN P w) 1 f fd ["self"] (sr C):=by
 refine F.okN yw (λvs H Q E h=>?_) (λFf A outer s H vs Q E hr h=>?_)
 ·obtain⟨s,dx,fl,D,zs,ts,rfl,_⟩:=h;rfl
 ·obtain⟨s0,dx,fl,D,zs,ts,rfl,hs,hD,hz,hl,Hs,q⟩:=h
  refine⟨_,ar (az (yu (cU (g:=xw K 2 (iL (cc 0) (iL (cc 1) xY))) (N:=["product","number"]) (nl:=2) (js:=[]) (osc:=aq qa) ⟨rfl,rfl,by decide +kernel,by decide +kernel,by decide +kernel,rfl,.nil,by decide +kernel⟩ rfl
   (c6 (aW (pv 0) rfl))
   (λC fp s H=>(fJ (X:=iR _ ["product","number"] _ C fp s H) rfl (bo (aI (X:=iR _ ["product","number"] _ C fp s H) (i:=0) (by show(["product","number"]:E4).Nodup;decide +kernel) rfl (Or.inl rfl) (Or.inr rfl)) (bo (aI (X:=iR _ ["product","number"] _ C fp s H) (i:=1) (by show(["product","number"]:E4).Nodup;decide +kernel) rfl (Or.inl rfl) (Or.inr rfl)) dB))))
   (λC fp s H=>eY (show PT _ _ (λσ H Q=>cg 0 σ H λx H'=>∃k,Ax K x H' k/\Q k H') from i4 (pv 0) (λ_=>rfl)))
   (λC fp s H=>(@aO _ _ _ _ _ _ _ _ eG (@a9 _ _ _ _ _ _ _ (show Bu _ (wd K) from bQ) (pv 0) (pN kE ao) (λ_ _=>rfl)) ao))) ao rfl (by rfl) GG)),?_⟩
  refine⟨_,rfl,s0,C,dx,_,_,rfl,hs,c.cl,c.nT,rfl,D,rfl,⟨zs,aV.of hD⟩,?_⟩;refine⟨λi m xs σ' H'=>m=zs.length-i/\i<=zs.length/\ay H H'/\xs=(((ts.take i).filter λt=>!t.1.isEmpty).map iy).map V.int/\∃o1 o2,σ'=[o1,o2],⟨zs.length,by simp,Nat.zero_le _,ay.refl _,rfl,none,none,rfl⟩,?_⟩;rintro i m xs σ' H' ⟨rfl,hi,sH,rfl,o1,o2,rfl⟩;have zl:=hz.length;have Nv:=sH _ _ hD;refine⟨?_,?_⟩
  ·rw[List.length_map,List.length_map];exact Nat.lt_of_le_of_lt (List.length_filter_le _ _) (Nat.lt_of_le_of_lt (by simp;omega) (Nat.lt_trans hl (by decide)))
  by_cases Fy:i<zs.length
  ·refine .inr ⟨⟨zs,zs[i],aV.of Nv,by simp[Fy]⟩,λy H2 hy=>?_⟩;obtain⟨rfl,hy⟩:=hy;obtain⟨t,et,tr⟩:=bR hz (hy zs (aV.of Nv));obtain⟨a,pr,nu,rfl,ha,GQ,HW⟩:=tr.keep (aS.of sH)
   have HH:ts.take (i+1)=ts.take i++[t]:=by rw[List.take_add_one,et];rfl
   refine⟨a,_,rfl,bV.of ha,rfl,_,_,rfl,_,_,rfl,rfl,?_⟩;refine⟨_,rfl,!t.1.isEmpty,.inr (.inl ⟨_,bV.of GQ,by simp⟩),?_⟩
   cases hb:t.1.isEmpty with
   |false =>
    have ne:t.1≠[]:=by intro z;rw[z] at hb;cases hb
    refine bw ⟨_,rfl,_,rfl,pr,_,-1,_,rfl,rfl,bV.of GQ,zq ne,_,_,rfl,rfl,zs.length-(i+1),by omega,rfl,Fy,sH,?_,_,_,rfl⟩;rw[HH,List.filter_append];simp[hb,iy]
   |true =>
    refine bH ⟨zs.length-(i+1),by omega,rfl,Fy,sH,?_,_,_,rfl⟩;rw[HH,List.filter_append];simp[hb]
  ·have ei:i=zs.length:=by omega
   subst ei;refine .inl ⟨⟨zs,aV.of Nv,Nat.le_refl _⟩,λL hL=>?_⟩;rw[zl,List.take_length];refine⟨L,_,.int 0,rfl,rfl,aV.of af,?_⟩;have q':=q _ (λb u z=>by rw[ai (au (sH _ _ z) hL)];exact sH _ _ z:ay H (upd H' L (.lst (((ts.filter λt=>!t.1.isEmpty).map iy).map V.int))));unfold iI at q';show Q _ (upd H' L (.lst (((ts.filter λt=>!t.1.isEmpty).map iy).map V.int)));generalize upd H' L (.lst (((ts.filter λt=>!t.1.isEmpty).map iy).map V.int))=H9 at q' |-;generalize Mx.jE none ((ts.filter λt=>!t.1.isEmpty).map iy)=ob at q' |-
   cases ob <;> exact q'
abbrev AK:Stmt:=(aR 57)
theorem zG:yI ["_law_pool_here","_law_prime_here","_law_places","_law_many","_law_most","_law_rows"] Aq (aq AK):=dm (by decide +kernel)
theorem rK:∀{ks:List Int},ks.Pairwise (· < ·)->jC (ks.map V.int)=true
 |[],_=>rfl
 |[k],_=>rfl
 |a::b::ks,h=>by
  obtain⟨h1,h2⟩:=List.pairwise_cons.mp h;have ih:=rK h2;unfold jC at ih |-;have e:((a::b::ks).map V.int).zip (((a::b::ks).map V.int).drop 1)=(V.int a,V.int b):: (((b::ks).map V.int).zip (((b::ks).map V.int).drop 1)):=rfl;rw[e,List.all_cons,ih,Bool.and_true];exact decide_eq_true (h1 b List.mem_cons_self)
theorem Ai {ks:List Int}(h:ks.Pairwise (· < ·))(hb:∀k∈ks,0<=k/\k<60)(hl:ks.length<4000):BD ks:=by
 refine⟨?_,hl⟩;show((ks.map V.int).all cN&&jC (ks.map V.int))=true;rw[rK h,Bool.and_true,List.all_map,List.all_eq_true];intro k hk;obtain⟨h0,h1⟩:=hb k hk;show(decide (0<=k)&&decide (k<60))=true;rw[decide_eq_true h0,decide_eq_true h1];rfl
theorem jq (d:List Tm):(fH d).Perm (d.filter λe=>e.2.1 != 0):=by
 have z:=(eE ((d.filter λe=>e.2.1 != 0).map λe=>(iu e,e))).map (·.2);rw[List.map_map] at z;have e:(λx:Ky×Tm=>x.2) ∘ (λe:Tm=>(iu e,e))=id:=rfl;rw[e,List.map_id] at z;exact z
theorem fP {d:List Tm}{e:Tm}(h:e∈fH d):e∈d:=(List.mem_filter.mp ((jq d).mem_iff.mp h)).1
theorem ia (d:List Tm):(fH d).length<=d.length:=by
 rw[(jq d).length_eq];exact List.length_filter_le _ _
variable {p:Int}
theorem vp {d:List Tm}{t e:Tm}(h:e∈fW p d t):(∃x∈d,e.1=x.1)\/e.1=t.1:=by
 unfold fW at h
 split at h
 ·obtain⟨x,hx,rfl⟩:=List.mem_map.mp h;refine .inl ⟨x,hx,?_⟩
  split <;> rfl
 ·rcases List.mem_append.mp h with h|h
  ·exact .inl ⟨e,h,rfl⟩
  ·have:e=t:=by simpa using h
   exact .inr (by rw[this])
theorem pC :∀(ts d:List Tm)(e:Tm),e∈ts.foldl (fW p) d->(∃x∈d,e.1=x.1)\/∃x∈ts,e.1=x.1
 |[],d,e,h=>.inl ⟨e,h,rfl⟩
 |t::ts,d,e,h=>by
  rcases pC ts (fW p d t) e h with⟨x,hx,ex⟩|⟨x,hx,ex⟩
  ·rcases vp hx with⟨y,hy,ey⟩|ey
   ·exact .inl ⟨y,hy,ex.trans ey⟩
   ·exact .inr ⟨t,List.mem_cons_self,ex.trans ey⟩
  ·exact .inr ⟨x,List.mem_cons_of_mem _ hx,ex⟩
variable {ts:List Tm}
theorem uQ {t:Tm}(h:t∈fH (xP p ts)):∃x∈ts,t.1=x.1:=by
 rcases pC ts [] t (fP h) with⟨x,hx,_⟩|h
 ·exact nomatch hx
 ·exact h
theorem lP:∀(ns:List Int)(b:Int),∃m,Mx.jE (some b) ns=some m/\(m=b\/m∈ns)
 |[],b=>⟨b,rfl,.inl rfl⟩
 |n::ns,b=>by
  obtain⟨m,e,h1⟩:=lP ns (if n>b then n else b);refine⟨m,e,?_⟩
  rcases h1 with h1|h1
  ·by_cases h:n>b
   ·rw[if_pos h] at h1;exact .inr (by rw[h1];exact .head _)
   ·rw[if_neg h] at h1;exact .inl h1
  ·exact .inr (.tail _ h1)
theorem xg {many:Int}(hm:0<=many)(h:∀t∈ts,∀k∈t.1,k<many):iI ts<=many:=by
 unfold iI
 have hl:∀a∈(ts.filter λt=>!t.1.isEmpty).map iy,a<=many:=by
  intro a ha;obtain⟨t,ht,rfl⟩:=List.mem_map.mp ha;obtain⟨h1,h2⟩:=List.mem_filter.mp ht
  have ne:t.1≠[]:=by intro z;rw[z] at h2;cases h2
  unfold iy;have:=h t h1 (t.1.getLastD 0) (by rw[List.getLastD_eq_getLast?,List.getLast?_eq_some_getLast ne];exact List.getLast_mem ne);omega
 cases e:(ts.filter λt=>!t.1.isEmpty).map iy with
 |nil=>exact hm
 |cons b ns =>
  rw[e] at hl;obtain⟨m,em,h1⟩:=lP ns b;have e':Mx.jE none (b::ns)=some m:=em;rw[e'];show m<=many
  rcases h1 with h1|h1
  ·rw[h1];exact hl b (.head _)
  ·exact hl m (.tail _ h1)
def Ap (m:Nat)(p n:Int)(t:Tm):Prop:=Gn p m t.2/\t.1.Pairwise (· < ·)/\(∀k∈t.1,0<=k/\k<n)/\t.1.length<=3
variable {m:Nat}{n:Int}
theorem Ap.mono {m':Nat}{t:Tm}(h:Ap m p n t)(k:m<=m'):Ap m' p n t:=⟨⟨h.1.1,h.1.2.1.mono k,h.1.2.2.mono k⟩,h.2⟩
structure Wi (m l:Nat)(p n:Int)(ts:List Tm):Prop where
 nd:(ts.map (·.1)).Nodup
 tm:∀t∈ts,Ap m p n t
 len:ts.length<=l
variable {l:Nat}
theorem Wi.mono {m' l':Nat}(h:Wi m l p n ts)(k:m<=m')(j:l<=l'):Wi m' l' p n ts:=⟨h.nd,λt ht=>(h.tm t ht).mono k,Nat.le_trans h.len j⟩
theorem sN (hp:FP p)(h:∀t∈ts,Ap m p n t)(hl:ts.length<=l):Wi ((m+1)*l+7) l p n (fH (xP p ts)):=by
 obtain⟨g1,g2,g3⟩:=dU (m:=m) hp ts.length ts rfl λt ht=>(h t ht).1;refine⟨?_,λt ht=>?_,Nat.le_trans (ia _) (Nat.le_trans g3 hl)⟩
 ·exact((jq _).map (·.1)).nodup_iff.mpr (g2.sublist (List.filter_sublist.map _))
 ·obtain⟨x,hx,ex⟩:=uQ ht;obtain⟨n1,n2,n3⟩:=g1 t (fP ht);have le:(m+1)*ts.length+7<=(m+1)*l+7:=Nat.add_le_add_right (Nat.mul_le_mul_left _ hl) _;obtain⟨_,h2,h3,h4⟩:=h x hx;exact⟨⟨n1,n2.mono le,n3.mono le⟩,by rw[ex];exact⟨h2,h3,h4⟩⟩
theorem n6 :∀(ts d:List Tm),((d++ts).map (·.1)).Nodup->ts.foldl (fW p) d=d++ts
 |[],d,_=>(List.append_nil d).symm
 |t::ts,d,h=>by
  have e:fW p d t=d++[t]:=by
   unfold fW;rw[if_neg];intro z;obtain⟨x,hx,ex⟩:=List.any_eq_true.mp z;have ex:x.1=t.1:=of_decide_eq_true ex;rw[List.map_append,List.nodup_append] at h;exact h.2.2 x.1 (List.mem_map_of_mem (f:=(·.1)) hx) t.1 (by simp) ex
  show ts.foldl (fW p) (fW p d t)=_;rw[e,n6 ts (d++[t]) (by simpa using h),List.append_assoc];rfl
theorem Wi.xP (h:Wi m l p n ts):xP p ts=ts:=n6 ts [] h.nd
theorem Wi.gth (h:Wi m l p n ts)(hm:m<=4000)(hl:l<64):E8 p ts:=by
 have len:=h.len;refine⟨by omega,λt ht=>((h.tm t ht).mono hm).1,λi hi=>?_,?_⟩
 ·have nd:((ts.take i).map (·.1)).Nodup:=h.nd.sublist ((List.take_sublist i ts).map _);have e:K80.xP p (ts.take i)=ts.take i:=n6 _ [] nd;rw[e];exact λt ht=>((h.tm t (List.mem_of_mem_take ht)).mono hm).1
 ·rw[h.xP];exact Nat.lt_of_le_of_lt (List.length_filter_le _ _) (by omega)
theorem Wi.prd (h:Wi m l p n ts)(hn:n<=60):∀t∈ts,BD t.1:=λt ht=>by
 obtain⟨_,h2,h3,h4⟩:=h.tm t ht;exact Ai h2 (λk hk=>⟨(h3 k hk).1,by have:=(h3 k hk).2;omega⟩) (by omega)
variable {H:Hp}{r:Addr}
theorem aH.abg {H':Hp}(h:aH H r)(s:SameBut r H H'):aS H H':=λb xs e=>s b _ e λz=>by
 obtain⟨l,x,e',_⟩:=h;rw[z,e'] at e
 cases e
theorem aH.same {H':Hp}(h:aH H r)(s:ay H H'):aH H' r:=let⟨l,x,e,z⟩:=h;⟨l,x,s _ _ e,z⟩
theorem aH.ne {b:Addr}{u:HO}(h:aH H r)(e:H b=some u)(n:∀l,u≠.lst l):b≠r:=λz=>by
 obtain⟨l,x,e',_⟩:=h;rw[z,e'] at e
 cases e
 exact n _ rfl
def DU:Sp:=λvs H Q _=>∃(r:Addr)(p n many most:Int),vs=[.ref r,.int p,.int n,.int many,.int most]/\aH H r/\FP p/\0<n/\n<=60/\0<=many/\many<=4/\0<=most/\most<=3 /\
 ∀(D:Addr)(ys:List V)(ts:List Tm)(H':Hp),H D=none->H' D=some (.lst ys)->bJ H' ys ts->Wi 191 4 p n ts->aH H' r->SameBut r H H'->Q (.ref D) H'
theorem Aj {ft fp fn fg:Addr}{F0 Gi JD HE:xR}(F:u3 K "_law_terms" "_law_terms" AK f fd)(Fi:mg "range"=none)
 (Ge:E6 P w K mg base (aN P w) 1 ft F0 yy DE)(Gf:L2.av K F0 yy [])(Gg:mg "_law_take"=some (.ref ft))(Gh:keepIn K (.ref ft)=true)
 (FPr:E6 P w K mg base (aN P w) 3 fp Gi CV BY)(bPr:L2.av K Gi CV [])(mPr:mg "_law_product"=some (.ref fp))(kPr:keepIn K (.ref fp)=true)
 (FNm:E6 P w K mg base (aN P w) 3 fn JD En qR)(bNm:L2.av K JD En [])(mNm:mg "_law_number"=some (.ref fn))(kNm:keepIn K (.ref fn)=true)
 (FG:E6 P w K mg base (aN P w) 4 fg HE wH vG)(bG:L2.av K HE wH [])(mG:mg "_law_gathered"=some (.ref fg))(kG:keepIn K (.ref fg)=true):
 E6 P w K mg base (aN P w) 5 f fd Aq DU:=by
 refine F.okN zG (λvs H Q E h=>?_) (λFf A outer s H vs Q E hr h=>?_)
 ·obtain⟨r,p,n,many,most,rfl,_⟩:=h;rfl
 ·obtain⟨r,p,n,many,most,rfl,⟨l,x,hR,x0,x1⟩,hp,n0,n60,m0,m4,o0,o3,q⟩:=h;have HV:oJ 4 _:=hr;have F5:oJ 3 _:=HV.mono (by decide);have Fp:oJ 1 _:=HV.mono (by decide)
  refine⟨_,(aj (fF (i:=5) (N:=["_law_k","_law_pool_here","_law_prime_here","_law_places","_law_most"]) (nl:=1) (js:=[0,1,2,4]) (osc:=aq AK) ⟨rfl,rfl,by decide +kernel,by decide +kernel,by decide +kernel,rfl,(.cons ⟨rfl,by decide +kernel⟩ (.cons ⟨rfl,by decide +kernel⟩ (.cons ⟨rfl,by decide +kernel⟩ (.cons ⟨rfl,by decide +kernel⟩ .nil)))),by decide +kernel⟩ rfl zG.nd rfl (Or.inl rfl)
   (dY (by rfl) Fi (@ah _ _ _ _ _ (ax Ge Fp (by rfl) Gg Gh Gf .nil ae (@ah _ _ _ _ _ (pv 0) (@ah _ _ _ _ _ (@aO _ _ _ _ _ _ _ _ eG (pv 3) ao) ag rfl) rfl)) ag rfl))
   (λCq fq sq Hq=>aI (i:=0) (by show(["_law_k","_law_pool_here","_law_prime_here","_law_places","_law_most"]:E4).Nodup;decide +kernel) rfl (Or.inl rfl) (Or.inr rfl))
   (λCq fq sq Hq=>cZ)
   (λCq fq sq Hq=>(@bX _ _ _ _ _ (@ah _ _ _ _ _ (ax FPr F5 (by rfl) mPr kPr bPr .nil ae (@ah _ _ _ _ _ (pv 1) (@ah _ _ _ _ _ (pv 3) (@ah _ _ _ _ _ (pv 4) ag rfl) rfl) rfl)) (@ah _ _ _ _ _ (ax FNm F5 (by rfl) mNm kNm bNm .nil ae (@ah _ _ _ _ _ (pv 1) (@ah _ _ _ _ _ (pv 2) ag rfl) rfl)) ag rfl) rfl))) (by rfl))
   (ar (az (ax FG HV (by rfl) mG kG bG .nil ae (@ah _ _ _ _ _ (pv 1) (@ah _ _ _ _ _ (pv 5) ag rfl) rfl))))),?_⟩
  refine⟨_,rfl,_,rfl,_,_,rfl,rfl,r,l,x,many+1,rfl,hR,x0,x1,by omega,by omega,λz l2 r2 z0 z1 g0 g1=>?_⟩;have R2:aH (upd H r (.lst [.int l2,.int r2])) r:=⟨l2,r2,af,g0,g1⟩;have FQ:SameBut r H (upd H r (.lst [.int l2,.int r2])):=SameBut.upd;generalize upd H r (.lst [.int l2,.int r2])=H2 at R2 FQ |-;refine⟨z,rfl,by omega,by omega,?_⟩;refine iM (lo:=0) (n:=z.toNat) (rest:=[some (.ref r),some (.int p),some (.int n),some (.int most)]) (λi us H'=>aH H' r/\SameBut r H H'/\∃ts,bJ H' us ts/\(∀t∈ts,Ap 45 p n t)/\ts.length=i) ⟨R2,FQ,[],.nil,λt ht=>(nomatch ht),rfl⟩ (λi us H' hi h=>?_) (λi us H' M hi h hM=>?_) (λus H' h=>?_)
  ·obtain⟨_,_,ts,h1,_,h3⟩:=h;rw[h1.length,h3];exact Nat.lt_of_le_of_lt (by omega:i<=5) (by decide)
  ·obtain⟨R3,F4,ts,ht,tg,tl⟩:=h;refine wq ⟨_,rfl,_,rfl,_,rfl,r,n,most,rfl,R3,n0,n60,o0,by omega,λa ks H4 pw pl kl ha R4 FN=>?_⟩;refine⟨_,rfl,_,rfl,r,p,rfl,hp,R4,λan t b H5 hn B1 B2 hb R5 JB=>?_⟩;refine⟨ic,λT hT=>hM _ _ ?_⟩;have sU:=ak (o:=.tup [.ref a,.ref an]) hT;have k4:=R3.abg FN;have k5:=R4.abg JB;refine⟨R5.same sU,F4.trans (FN.trans (JB.trans (SameBut.of sU))),ts++[(ks,t,b)],Paired.snoc (bJ.keep ht (k4.trans (k5.trans (aS.of sU)))) ⟨T,a,an,rfl,af,sU _ _ (k5 _ _ ha),sU _ _ hb⟩,λu hu=>?_,by rw[List.length_append,tl];rfl⟩
   rcases List.mem_append.mp hu with h|h
   ·exact tg u h
   ·have:u=(ks,t,b):=by simpa using h
    subst this;exact⟨⟨hn,B1,B2⟩,pw,pl,by show ks.length<=3;omega⟩
  ·obtain⟨R3,F4,ts,ht,tg,tl⟩:=h;intro L hL;have sL:=ak (o:=.lst us) hL
   have tl4:ts.length<=4:=by omega
   refine⟨_,rfl,_,rfl,L,p,us,ts,rfl,hp,af,bJ.keep ht (aS.of sL),E8.of hp (m:=45) (by omega) (λt ht=>(tg t ht).1) (by omega) (by decide),λH6 D zs s6 hD e6 h6=>?_⟩;have s7:=sL.trans s6
   have Mt:D≠r:=by
    obtain⟨l9,r9,e9,_⟩:=R3.same sL;exact(au e9 hD).symm
   have hD0:H D=none:=by
    cases e:H D with
    |none=>rfl
    |some u=>rw[sL _ _ (F4 _ _ e Mt)] at hD;cases hD
   exact q D zs _ H6 hD0 e6 h6 (sN hp tg tl4) (R3.same s7) (F4.trans (SameBut.of s7))
abbrev ng:Stmt:=(aR 59)
def qT (bs:List Int)(ks:List Int):Bool:=(ks.filter λk=>bs.getD k.toNat 0==0).isEmpty
def iB (p:Int)(bs:List Int)(a:Int×Int)(t:Tm):Int×Int:=if qT bs t.1=true then eP p a t.2 else a
def bh (p:Int)(bs:List Int)(ts:List Tm):Int×Int:=ts.foldl (iB p bs) (0,1)
theorem kr (p:Int)(bs:List Int)(ts:List Tm)(t:Tm):bh p bs (ts++[t])=iB p bs (bh p bs ts) t:=by
 unfold bh;rw[List.foldl_append];rfl
theorem iA {m:Nat}{bs:List Int}(hp:FP p):∀(n:Nat)(ts:List Tm),ts.length=n->(∀t∈ts,Gn p m t.2)->Gn p ((m+1)*n+7) (bh p bs ts)
 |0,ts,hn,_=>by
  have:ts=[]:=List.length_eq_zero_iff.mp hn;subst this;show Gn p ((m+1)*0+7) (0,1);refine⟨⟨(by show(0:Int)<1;decide),(by show Int.gcd 0 1=1;decide),λz=>⟨rfl,(by show(0:Int)<=0;decide),?_⟩⟩,?_,?_⟩
  ·have:=(hp.two z).2.1;show(0:Int)<p;omega
  ·show(0:Int).natAbs<2^((m+1)*0+7);rw[Nat.mul_zero];decide
  ·show(1:Int).natAbs<2^((m+1)*0+7);rw[Nat.mul_zero];decide
 |n+1,ts,hn,h=>by
  obtain⟨Fv,t,rfl⟩:∃Fv t,ts=Fv++[t]:=by
   have FX:ts≠[]:=by intro z;rw[z] at hn;cases hn
   exact⟨ts.dropLast,ts.getLast FX,(List.dropLast_concat_getLast FX).symm⟩
  have hl:Fv.length=n:=by simpa using hn
  have ih:=iA (bs:=bs) hp n Fv hl λt ht=>h t (List.mem_append_left _ ht);have gt:=h t (List.mem_append_right _ (by simp));rw[kr];have e2:(m+1)*(n+1)=(m+1)*n+(m+1):=Nat.mul_succ _ _;unfold iB
  split
  ·have g:=md hp ih gt (by omega);exact⟨g.1,g.2.1.mono (by omega),g.2.2.mono (by omega)⟩
  ·exact⟨ih.1,ih.2.1.mono (by omega),ih.2.2.mono (by omega)⟩
def E7:Sp:=λvs H Q _=>∃(l fa:Addr)(p:Int)(ys:List V)(ts:List Tm)(bs:List Int)(m:Nat),vs=[.int p,.ref l,.ref fa]/\FP p/\H l=some (.lst ys)/\bJ H ys ts/\H fa=some (.tup (bs.map V.int))/\bs.length<4000 /\
 (∀t∈ts,Gn p m t.2/\t.1.length<4000/\∀k∈t.1,0<=k/\k<(bs.length:Int))/\(m+1)*ts.length+7<=4000/\m<=4000/\∀H' a,ay H H'->H' a=some (du (bh p bs ts).1 (bh p bs ts).2)->Q (.ref a) H'
theorem gH:yI ["_law_prime_here","_law_terms_here","_law_row","_law_found","_law_product_here","_law_number_here"] tQ (aq ng):=dm (by decide +kernel)
theorem AA {bs:List Int}{k:Int}(h0:0<=k)(h1:k<(bs.length:Int)):ml (bs.map V.int) k=some (.int (bs.getD k.toNat 0)):=by
 unfold ml wR;rw[List.length_map,if_pos h0,if_pos h1];show(bs.map V.int)[k.toNat]?=_
 have hk:k.toNat<bs.length:=by omega
 rw[List.getElem?_map,List.getElem?_eq_getElem hk,List.getD_eq_getElem?_getD,List.getElem?_eq_getElem hk];rfl
theorem tR {fl:Addr}{Gq:xR}(F:u3 K "_law_worth" "_law_worth" ng f fd)
 (Ts:E6 P w K mg base (aN P w) 3 fl Gq Au (jT jz))(Tt:L2.av K Gq Au [])(Tu:mg "_law_plus"=some (.ref fl))(Tv:keepIn K (.ref fl)=true):
 E6 P w K mg base (aN P w) 4 f fd tQ E7:=by
 refine F.okN gH (λvs H Q E h=>?_) (λFf A outer s H vs Q E hr h=>?_)
 ·obtain⟨l,fa,p,ys,ts,bs,m,rfl,_⟩:=h;rfl
 ·obtain⟨l,fa,p,ys,ts,bs,m,rfl,hp,hl,Kd,Iw,hbs,hG,hm,Ll,q⟩:=h;have F5:oJ 3 _:=hr.mono (by decide);have Fp:oJ 1 _:=hr.mono (by decide)
  refine⟨_,(aj (@aC _ _ 3 _ _ _ _ gH.nd rfl (Or.inl rfl) (@bX _ _ _ _ _ (@ah _ _ _ _ _ ao (@ah _ _ _ _ _ ao ag rfl) rfl)) rfl (Or.inl rfl))
   (aj (iG PassesOwn.never rfl (c6 (pv 1)) (fJ rfl (bo (aI (i:=4) gH.nd rfl (Or.inl rfl)) (bo (aI (i:=5) gH.nd rfl (Or.inl rfl)) dB)))
   (ar (bq (@aL _ _ _ _ _ _ _ _ (kq Fp) (cU (N:=["_law_place","_law_row"]) (nl:=1) (js:=[2]) (osc:=aq ng) ⟨rfl,rfl,by decide +kernel,by decide +kernel,by decide +kernel,rfl,(.cons ⟨rfl,by decide +kernel⟩ .nil),by decide +kernel⟩ rfl
    (vh (pv 4))
    (λC fp s H=>aI (i:=0) (by show(["_law_place","_law_row"]:E4).Nodup;decide +kernel) rfl (Or.inl rfl) (Or.inr rfl))
    (λC fp s H=>(eY (@aL _ _ _ _ _ _ _ _ cq (@a9 _ _ _ _ _ _ _ (show Bu _ (wd K) from bQ) (pv 1) (pv 0) (λ_ _=>rfl)) ao (aB _))))
    (λC fp s H=>(pv 0))) (@bY _ _ _ _ ag) (aB _)) (ar (@aC _ _ 3 _ _ _ _ gH.nd rfl (Or.inl rfl) (ax Ts F5 (by rfl) Tu Tv Tt .nil ae (@ah _ _ _ _ _ (pv 0) (@ah _ _ _ _ _ (pv 3) (@ah _ _ _ _ _ (pv 5) ag rfl) rfl) rfl)) rfl (Or.inl rfl))) aM)))
   (ar (az (pv 3))))),?_⟩
  have gg:∀i,i<=ts.length->Gn p 4000 (bh p bs (ts.take i)):=λi hi=>by
   have b:=iA (m:=m) (bs:=bs) hp i (ts.take i) (by simp;omega) λt ht=>(hG t (List.mem_of_mem_take ht)).1;have le:(m+1)*i+7<=4000:=Nat.le_trans (Nat.add_le_add_right (Nat.mul_le_mul_left _ hi) _) hm;exact⟨b.1,b.2.1.mono le,b.2.2.mono le⟩
  have one:∀{n:Nat}{a:Int×Int},Gn p n a->p≠0->a.2=1:=λh z=>(h.1.pr z).1;have hlen:=Kd.length;refine⟨ic,λt0 Tw=>?_⟩;have s1:ay H (upd H t0 (du 0 1)):=ak Tw;refine⟨_,rfl,l,rfl,⟨ys,aV.of (s1 _ _ hl)⟩,?_⟩
  refine⟨λi m σ' H'=>m=ts.length-i/\i<=ts.length/\ay H H'/\∃aw o4 o5,H' aw=some (du (bh p bs (ts.take i)).1 (bh p bs (ts.take i)).2)/\σ'=[some (.int p),some (.ref l),some (.ref fa),some (.ref aw),o4,o5],
   ⟨ts.length,by simp,Nat.zero_le _,s1,t0,none,none,af,rfl⟩,?_⟩
  rintro i m' σ' H' ⟨rfl,hi,sH,aw,o4,o5,hw,rfl⟩;have Gk:=sH _ _ hl;have TB:=sH _ _ Iw
  by_cases Fy:i<ts.length
  ·have To:i<ys.length:=by omega
   refine .inr ⟨⟨ys,ys[i],aV.of Gk,by simp[To]⟩,λσ' H'=>i+1<=ts.length/\ay H H'/\∃aw o4 o5,H' aw=some (du (bh p bs (ts.take (i+1))).1 (bh p bs (ts.take (i+1))).2)/\σ'=[some (.int p),some (.ref l),some (.ref fa),some (.ref aw),o4,o5],?_,λy H2 hy=>?_⟩
   ·rintro σ' H' ⟨h1,h2,h3⟩;exact⟨ts.length-(i+1),by omega,rfl,h1,h2,h3⟩
   ·obtain⟨rfl,hy⟩:=hy;obtain⟨t,et,tr⟩:=bR Kd (hy ys (aV.of Gk));obtain⟨a,pr,nu,rfl,ha,GQ,HW⟩:=tr.keep (aS.of sH);obtain⟨gt,gl,gk⟩:=hG t (List.mem_of_getElem? et)
    have HH:ts.take (i+1)=ts.take i++[t]:=by rw[List.take_add_one,et];rfl
    rw[HH,kr];refine⟨a,_,rfl,bV.of ha,rfl,_,_,rfl,_,_,rfl,rfl,?_⟩;refine⟨_,rfl,pr,rfl,⟨_,bV.of GQ⟩,?_⟩;refine⟨λj m us σ' H3=>m=t.1.length-j/\j<=t.1.length/\H2=H3/\us=((t.1.take j).filter λk=>bs.getD k.toNat 0==0).map V.int/\∃o,σ'=[o,some (.ref fa)],⟨t.1.length,by simp,Nat.zero_le _,rfl,rfl,none,rfl⟩,?_⟩;rintro j m' us σ' H3 ⟨rfl,hj,rfl,rfl,o,rfl⟩;refine⟨?_,?_⟩
    ·rw[List.length_map];exact Nat.lt_of_le_of_lt (List.length_filter_le _ _) (Nat.lt_of_le_of_lt (by simp;omega) (Nat.lt_trans gl (by decide)))
    by_cases Gs:j<t.1.length
    ·refine .inr ⟨⟨t.1.map V.int,.int (t.1[j]),bV.of GQ,by simp[Gs]⟩,λx H4 hx=>?_⟩;obtain⟨rfl,hx⟩:=hx
     have ex:t.1[j]?=some t.1[j]:=by simp[Gs]
     have ev:x=.int t.1[j]:=by
      have:=hx _ (bV.of GQ);rw[List.getElem?_map,ex] at this;exact(Option.some.inj this).symm
     subst ev;obtain⟨k0,k1⟩:=gk t.1[j] (List.getElem_mem Gs)
     have ek:t.1.take (j+1)=t.1.take j++[t.1[j]]:=by rw[List.take_add_one,ex];rfl
     refine⟨_,rfl,_,rfl,fa,_,_,_,rfl,rfl,bV.of TB,AA k0 k1,rfl,_,rfl,?_⟩;refine c7 (λh=>?_) (λh=>?_)
     ·have hz:bs.getD (t.1[j]).toNat 0=0:=by simpa using h
      refine⟨_,rfl,t.1.length-(j+1),by omega,rfl,Gs,rfl,?_,_,rfl⟩
      have f1:[t.1[j]].filter (λk=>bs.getD k.toNat 0==0)=[t.1[j]]:=by
       rw[List.filter_cons_of_pos (by show(bs.getD (t.1[j]).toNat 0==0)=true;rw[hz];rfl)];rfl
      rw[ek,List.filter_append,List.map_append,f1];rfl
     ·have hz:¬bs.getD (t.1[j]).toNat 0=0:=by simpa using h
      refine⟨t.1.length-(j+1),by omega,rfl,Gs,rfl,?_,_,rfl⟩;rw[ek,List.filter_append,List.map_append]
      have f1:[t.1[j]].filter (λk=>bs.getD k.toNat 0==0)=[]:=by
       rw[List.filter_cons_of_neg (by show ¬(bs.getD (t.1[j]).toNat 0==0)=true;intro z;exact hz (eq_of_beq z))];rfl
      rw[f1,List.map_nil,List.append_nil]
    ·have ej:j=t.1.length:=by omega
     subst ej;refine .inl ⟨⟨_,bV.of GQ,by simp⟩,λL hL=>?_⟩;rw[List.take_length];have sL:ay H2 (upd H2 L (.lst ((t.1.filter λk=>bs.getD k.toNat 0==0).map V.int))):=ak hL;refine⟨Nat.zero_le _,λL2 Nt=>?_⟩;have s2:ay (upd H2 L (.lst ((t.1.filter λk=>bs.getD k.toNat 0==0).map V.int))) (upd (upd H2 L (.lst ((t.1.filter λk=>bs.getD k.toNat 0==0).map V.int))) L2 (.lst [])):=ak Nt;have sA:ay H2 (upd (upd H2 L (.lst ((t.1.filter λk=>bs.getD k.toNat 0==0).map V.int))) L2 (.lst [])):=λb u e=>s2 _ _ (sL _ _ e);refine⟨L,L2,_,rfl,rfl,aV.of (s2 _ _ af),aV.of af,_,rfl,?_⟩;have gw:=gg i (Nat.le_of_lt Fy)
     cases HX:qT bs t.1 with
     |true =>
      have xe:(t.1.filter λk=>bs.getD k.toNat 0==0).map V.int=[]:=by
       have:t.1.filter (λk=>bs.getD k.toNat 0==0)=[]:=List.isEmpty_iff.mp HX;rw[this];rfl
      have ew:iB p bs (bh p bs (ts.take i)) t=eP p (bh p bs (ts.take i)) t.2:=by unfold iB;rw[if_pos HX]
      rw[decide_eq_true xe];refine bw ⟨_,rfl,_,rfl,_,rfl,p,(bh p bs (ts.take i)).1,(bh p bs (ts.take i)).2,t.2.1,t.2.2,aw,nu,rfl,hp,sA _ _ hw,sA _ _ HW,gw.2.1,gw.2.2,gt.2.1.mono Ll,gt.2.2.mono Ll,gw.ne,gt.ne,λz=>by rw[one gt z,one gw z];decide,λH5 an s5 h5=>?_⟩;refine⟨Fy,λb u e=>s5 _ _ (sA _ _ (sH _ _ e)),an,_,_,?_,rfl⟩;rw[ew];exact h5
     |false =>
      have xe:¬(t.1.filter λk=>bs.getD k.toNat 0==0).map V.int=[]:=λz=>by
       have:t.1.filter (λk=>bs.getD k.toNat 0==0)=[]:=List.map_eq_nil_iff.mp z;unfold qT at HX;rw[this] at HX
       cases HX
      have ew:iB p bs (bh p bs (ts.take i)) t=bh p bs (ts.take i):=by unfold iB;rw[if_neg (by rw[HX];decide)]
      rw[decide_eq_false xe];refine bH ⟨Fy,λb u e=>sA _ _ (sH _ _ e),aw,_,_,?_,rfl⟩;rw[ew];exact sA _ _ hw
  ·have ei:i=ts.length:=by omega
   subst ei;rw[List.take_length] at hw;exact .inl ⟨⟨ys,aV.of Gk,by omega⟩,_,rfl,q _ aw sH hw⟩
end K80
namespace L2
open PySem PySem.Spec PyProof.Rows
end L2
namespace K80
open PySem L2 PySem.W Nm Srt
abbrev ET:Stmt:=(aR 53)
abbrev EJ:Stmt:=(aR 60)
theorem DX:yI Au Au (aq ET):=dm (by decide +kernel)
theorem CC:yI ["_law_prime_here","_law_terms_here","_law_row","_law_here"] tQ (aq EJ):=dm (by decide +kernel)
def DK:Sp:=λvs H Q _=>∃(a b:Addr)(p:Int)(xs ys:List V)(ts us:List Tm),vs=[.int p,.ref a,.ref b]/\FP p/\H a=some (.lst xs)/\H b=some (.lst ys)/\bJ H xs ts/\bJ H ys us/\E8 p (ts++us) /\
 ∀H' D zs,ay H H'->H D=none->H' D=some (.lst zs)->bJ H' zs (fH (xP p (ts++us)))->Q (.ref D) H'
def j9:Sp:=λvs H Q _=>∃(a fa:Addr)(p n:Int)(xs:List V)(ts:List Tm)(bs:List Int),vs=[.int p,.ref a,.ref fa]/\FP p/\H a=some (.lst xs)/\bJ H xs ts/\Wi 191 4 p n ts/\0<n/\n<=60/\H fa=some (.tup (bs.map V.int))/\(bs.length:Int)=n /\
 ∀H' D zs us,ay H H'->H D=none->H' D=some (.lst zs)->bJ H' zs us->Wi 3930 5 p n us->Q (.ref D) H'
variable {P:u6}{w:World}{K:PySem.W.Frag}{mg:wg}{base:Heap}
theorem qo {α β:Type}{R:α->β->Prop}{xs ys:List α}{ts us:List β}(h:Paired R xs ts)(k:Paired R ys us):Paired R (xs++ys) (ts++us):=by
 induction h with
 |nil=>exact k
 |cons h0 _ ih=>exact .cons h0 ih
variable {f:Addr}{fd:xR}
theorem CP {fg:Addr}{HE:xR}(F:u3 K "_law_added" "_law_added" ET f fd)
 (FG:E6 P w K mg base (aN P w) 4 fg HE wH vG)(bG:L2.av K HE wH [])(mG:mg "_law_gathered"=some (.ref fg))(kG:keepIn K (.ref fg)=true):
 E6 P w K mg base (aN P w) 5 f fd Au DK:=by
 refine F.okN DX (λvs H Q E h=>?_) (λFf A outer s H vs Q E hr h=>?_)
 ·obtain⟨a,b,p,xs,ys,ts,us,rfl,_⟩:=h;rfl
 ·obtain⟨a,b,p,xs,ys,ts,us,rfl,hp,ha,hb,hx,hy,g,q⟩:=h;have HV:oJ 4 _:=hr;refine⟨_,(ar (az (ax FG HV (by rfl) mG kG bG .nil ae (@ah _ _ _ _ _ (pv 0) (@ah _ _ _ _ _ (@aO _ _ _ _ _ _ _ _ iY (pv 1) (pv 2)) ag rfl) rfl)))),?_⟩;have gl:=g.len;rw[List.length_append] at gl;refine⟨_,rfl,_,rfl,_,rfl,a,b,_,_,rfl,rfl,ha,hb,?_,λL H1 hL s1 e1=>?_⟩
  ·rw[hx.length,hy.length];exact Nat.le_of_lt (Nat.lt_trans gl (by decide))
  ·refine⟨L,p,_,_,rfl,hp,e1,bJ.keep (qo hx hy) (aS.of s1),g,λH2 D zs s2 hD e2 h2=>?_⟩;exact q H2 D zs (s1.trans s2) (none_of s1 hD) e2 h2
theorem Cc {fw ft fm fa:Addr}{GF F0 Iq X1:xR}(F:u3 K "_law_planted" "_law_planted" EJ f fd)
 (FWo:E6 P w K mg base (aN P w) 4 fw GF tQ E7)(bWo:L2.av K GF tQ [])(mWo:mg "_law_worth"=some (.ref fw))(kWo:keepIn K (.ref fw)=true)
 (FTi:E6 P w K mg base (aN P w) 3 ft F0 Au (jT ju))(bTi:L2.av K F0 Au [])(mTi:mg "_law_times"=some (.ref ft))(kTi:keepIn K (.ref ft)=true)
 (FM:E6 P w K mg base (aN P w) 2 fm Iq vP yO)(bM:L2.av K Iq vP [])(mM:mg "_law_made"=some (.ref fm))(kM:keepIn K (.ref fm)=true)
 (FAd:E6 P w K mg base (aN P w) 5 fa X1 Au DK)(bAd:L2.av K X1 Au [])(mAd:mg "_law_added"=some (.ref fa))(kAd:keepIn K (.ref fa)=true):
 E6 P w K mg base (aN P w) 6 f fd tQ j9:=by
 refine F.okN CC (λvs H Q E h=>?_) (λFf A outer s H vs Q E hr h=>?_)
 ·obtain⟨a,fa,p,n,xs,ts,bs,rfl,_⟩:=h;rfl
 ·obtain⟨a,fa,p,n,xs,ts,bs,rfl,hp,ha,hx,W,n0,n60,Iw,TC,q⟩:=h;have Hb:oJ 5 _:=hr;have HV:oJ 4 _:=Hb.mono (by decide);have F5:oJ 3 _:=Hb.mono (by decide);have FY:oJ 2 _:=Hb.mono (by decide)
  refine⟨_,(aj (@aC _ _ 3 _ _ _ _ CC.nd rfl (Or.inl rfl) (ax FWo HV (by rfl) mWo kWo bWo .nil ae (@ah _ _ _ _ _ (pv 0) (@ah _ _ _ _ _ (pv 1) (@ah _ _ _ _ _ (pv 2) ag rfl) rfl) rfl)) rfl (Or.inl rfl))
   (ar (az (ax FAd Hb (by rfl) mAd kAd bAd .nil ae (@ah _ _ _ _ _ (pv 0) (@ah _ _ _ _ _ (pv 1) (@ah _ _ _ _ _ (@bY _ _ _ _ (@ah _ _ _ _ _ (@bX _ _ _ _ _ (@ah _ _ _ _ _ (@bX _ _ _ _ _ ag) (@ah _ _ _ _ _ (ax FTi F5 (by rfl) mTi kTi bTi .nil ae (@ah _ _ _ _ _ (pv 0) (@ah _ _ _ _ _ (pv 3) (@ah _ _ _ _ _ (ax FM FY (by rfl) mM kM bM .nil ae (@ah _ _ _ _ _ (pv 0) (@ah _ _ _ _ _ (pN kE ao) (@ah _ _ _ _ _ ao ag rfl) rfl) rfl)) ag rfl) rfl) rfl)) ag rfl) rfl)) ag rfl)) ag rfl) rfl) rfl))))),?_⟩
  have tl:=W.len
  have gw:Gn p 775 (bh p bs ts):=by
   have b:=iA (m:=191) (bs:=bs) hp ts.length ts rfl λt ht=>(W.tm t ht).1
   have le:(191+1)*ts.length+7<=775:=by omega
   exact⟨b.1,b.2.1.mono le,b.2.2.mono le⟩
  have b1:∀{n:Nat},1<=n->B n (1:Int):=λh=>(show B 1 (1:Int) by show(1:Int).natAbs<2^1;decide).mono h;have bm:∀{n:Nat},1<=n->B n (-1:Int):=λh=>(show B 1 (-1:Int) by show(-1:Int).natAbs<2^1;decide).mono h
  have o1:(1:Int)≠0:=by decide
  have nM:Num p (eh p (-1) 1) (df p (-1) 1):=Num.set hp.nn o1;have X2:B 7 (eh p (-1) 1):=nJ hp (bm (by decide)) o1 (by decide);have X3:B 7 (df p (-1) 1):=m7 (b1 (by decide)) o1 (by decide)
  have X4:df p (-1) 1≠0:=by have:=nM.pos;omega
  have nz:(bh p bs ts).2*df p (-1) 1≠0:=Int.mul_ne_zero gw.ne X4
  have gc:Gn p 782 (eh p (ju (bh p bs ts).1 (bh p bs ts).2 (eh p (-1) 1) (df p (-1) 1)) ((bh p bs ts).2*df p (-1) 1),df p (ju (bh p bs ts).1 (bh p bs ts).2 (eh p (-1) 1) (df p (-1) 1)) ((bh p bs ts).2*df p (-1) 1)):=
   ⟨Num.set hp.nn nz,nJ hp (gw.2.1.mul X2) nz (by decide),m7 (gw.2.2.mul X3) nz (by decide)⟩
  have TF:p≠0->(bh p bs ts).2*df p (-1) 1=1:=λz=>by rw[(gw.1.pr z).1,(nM.pr z).1];rfl
  refine⟨_,rfl,_,rfl,_,rfl,a,fa,p,xs,ts,bs,191,rfl,hp,ha,hx,Iw,by omega,λt ht=>?_,by omega,by decide,λH1 wa s1 ew=>?_⟩
  ·obtain⟨g1,_,g3,g4⟩:=W.tm t ht;exact⟨g1,by omega,λk hk=>by rw[TC];exact g3 k hk⟩
  refine⟨_,rfl,_,rfl,Nat.zero_le _,λe0 h0=>?_⟩;have s2:=ak (o:=.tup []) h0;have ee:upd H1 e0 (.tup []) e0=some (.tup []):=af;change bg _ _ _ (upd H1 e0 (.tup [])) _;generalize upd H1 e0 (.tup [])=H2 at s2 ee |-;refine⟨_,rfl,_,rfl,_,rfl,_,rfl,p,-1,1,rfl,hp,o1,b1 (by decide),bm (by decide),.inl ⟨λ_=>rfl,λH3 am s3 em=>?_⟩⟩;refine⟨p,_,_,_,_,wa,am,rfl,hp,s3 _ _ (s2 _ _ ew),em,gw.2.1.mono (by decide),gw.2.2.mono (by decide),X2.mono (by decide),X3.mono (by decide),gw.ne,X4,TF,λH4 at_ s4 et=>?_⟩;refine⟨ic,λT hT=>?_⟩;have s5:=ak (o:=.tup [.ref e0,.ref at_]) hT;have eT:upd H4 T (.tup [.ref e0,.ref at_]) T=some (.tup [.ref e0,.ref at_]):=af;generalize upd H4 T _=H5 at s5 eT |-;refine⟨yv,λL hL=>?_⟩;have s6:=ak (o:=.lst [.ref T]) hL;have Rk:=s3.trans (s4.trans (s5.trans s6));have Mv:=s1.trans (s2.trans Rk)
  have tg:∀t∈ts++[(([]:List Int),(eh p (ju (bh p bs ts).1 (bh p bs ts).2 (eh p (-1) 1) (df p (-1) 1)) ((bh p bs ts).2*df p (-1) 1),df p (ju (bh p bs ts).1 (bh p bs ts).2 (eh p (-1) 1) (df p (-1) 1)) ((bh p bs ts).2*df p (-1) 1)))],Ap 782 p n t:=λt ht=>by
   rcases List.mem_append.mp ht with h|h
   ·exact(W.tm t h).mono (by decide)
   ·rw[List.mem_singleton.mp h];exact⟨gc,.nil,λk hk=>(nomatch hk),Nat.zero_le _⟩
  refine⟨a,L,p,xs,[.ref T],ts,[(([]:List Int),_)],rfl,hp,Mv _ _ ha,af,bJ.keep hx (aS.of Mv),.cons ⟨T,e0,at_,rfl,s6 _ _ eT,Rk _ _ ee,s6 _ _ (s5 _ _ et)⟩ .nil,E8.of hp (m:=782) ?_ (λt ht=>(tg t ht).1) ?_ (by decide),λH7 D zs s7 hD e7 h7=>?_⟩
  ·rw[List.length_append];show ts.length+1<64;omega
  ·rw[List.length_append];show(782+1)*(ts.length+1)+7<=4000;omega
  ·exact q H7 D zs _ (Mv.trans s7) (none_of Mv hD) e7 h7 ((sN hp tg (l:=5) (by rw[List.length_append];show ts.length+1<=5;omega)).mono (by decide) (by decide))
abbrev Di:Stmt:=aD (aR 34) 1
structure Ci (K:Frag)(mg:wg)(C:Addr):Prop where
 c:Em K mg C
 isC:((clsIn K C).isSome&&typeIn K (.ref C)==some (.type "type"))=true
 ca:findIn K (.ref C) "__class__"=some (some (.builtin "object.__class__"))
 sp:specialIn K (.builtin "object.__class__") "__get__"=some (some (.builtin "getset_descriptor.__get__"))
 tk:takesIn K (.builtin "object.__class__")=some true
 ob:mroIn K C (.type "object")=some true
variable {K:Frag}{mg:wg}{C:Addr}{H:Hp}
theorem Ci.ty (c:Ci K mg C){p dx:Addr}{fs:List (Str×V)}(e:H p=some (.ins C dx fs)):Cw K H (.ref p) (.ref C):=.of (.ins e c.c.cl c.ca c.sp c.tk c.ob)
theorem Ci.is (c:Ci K mg C):kitOne K (.ref C) (.ref C)=some true:=by
 unfold kitOne;rw[if_pos (by simp)]
theorem Ci.no (c:Ci K mg C){x:V}{T:String}(h:Th H x T):kitOne K (.type T) (.ref C)=some false:=by
 show(if(Value.type T==Value.ref C)=true then some true else(if((clsIn K C).isSome&&typeIn K (.ref C)==some (.type "type"))=true then subIn K (.type T) (.ref C) else none))=some false;rw[if_neg (by intro z;cases beq_iff_eq.mp z),if_pos c.isC]
 cases h <;> rfl
theorem ij :notFirst K C (.ref C)=true:=by unfold notFirst;simp
def xK (t:Tm):D:=.tup [.tup (t.1.map D.int),.tup [.int t.2.1,.int t.2.2]]
theorem zK :∀ns:List Int,ba K H (ns.map D.int) (ns.map V.int)
 |[]=>by unfold ba;rfl
 |n::ns=>by
  show ba K H (.int n::ns.map D.int) (.int n::ns.map V.int);unfold ba;exact⟨_,_,rfl,(by unfold aK;rfl),zK ns⟩
theorem C6:∀ns:List Int,dD (ns.map D.int)=0
 |[]=>by simp[dD]
 |n::ns=>by rw[List.map_cons];unfold dD;rw[C6 ns];simp[ix]
theorem y9 {y:V}{t:Tm}(h:BE H y t):aK K H (xK t) y:=by
 obtain⟨a,pr,nu,rfl,ha,GQ,HW⟩:=h;unfold xK aK;refine⟨a,_,rfl,bV.of ha,?_⟩;unfold ba;refine⟨_,_,rfl,(by unfold aK;exact⟨pr,_,rfl,bV.of GQ,zK _⟩),?_⟩;unfold ba;refine⟨_,_,rfl,D8 HW,?_⟩;unfold ba;rfl
theorem p3 :∀{ys:List V}{ts:List Tm},bJ H ys ts->ba K H (ts.map xK) ys
 |_,_,.nil=>by unfold ba;rfl
 |_,_,.cons (b:=t) h r=>by
  show ba K H (xK t::_) _;unfold ba;exact⟨_,_,rfl,y9 h,p3 r⟩
theorem sR:∀ts:List Tm,dD (ts.map xK)<=2
 |[]=>by unfold dD;decide
 |t::ts=>by
  show dD (xK t::ts.map xK)<=2;unfold dD;have:=sR ts
  have h:ix (xK t)=2:=by
   unfold xK ix dD dD dD;rw[DD,show ix (.tup (t.1.map D.int))=1 from by unfold ix;rw[C6]];rfl
  omega
abbrev lE (ts:List Tm):D:=.lst (ts.map xK)
theorem pX {a:Addr}{ys:List V}{ts:List Tm}(e:H a=some (.lst ys))(h:bJ H ys ts):aK K H (lE ts) (.ref a):=by
 unfold aK;exact⟨a,ys,rfl,aV.of e,p3 h⟩
theorem y4 (ts:List Tm):ix (lE ts)<=32:=by
 unfold ix;have:=sR ts;omega
theorem BU.same {CF:Addr}{H':Hp}{s:Addr}{p:Int}{ts:List Tm}(h:BU C CF H s p ts)(k:ay H H'):BU C CF H' s p ts:=by
 obtain⟨dx,fl,Fh,D,zs,h1,h2,h3,h4⟩:=h.ex;exact⟨dx,fl,Fh,D,zs,k _ _ h1,k _ _ h2,k _ _ h3,bJ.keep h4 (aS.of k)⟩
def vq (K:Frag)(C CF:Addr):Sp:=λvs H Q _=>∃(s:Addr)(p:Int)(ts:List Tm)(y:V),vs=[.ref s,y]/\BU C CF H s p ts /\
 ((∃s' p' X5,y=.ref s'/\BU C CF H s' p' X5/\Q (.bl (decide (p=p')&&i6 (lE ts) (lE X5))) H)\/∃t,Cw K H y t/\kitOne K t (.ref C)=some false/\Q (.bl false) H)
theorem Do:yI DB DB (aq Di):=dm (by decide +kernel)
theorem As {fe CF:Addr}{Ki:xR}(F:u3 K "__eq__" "Sum.__eq__" Di f fd)(c:Ci K mg C)(cF:zZ K mg CF)(Fd:mg "isinstance"=none)
 (FE:E6 P w K mg base (aN P w) 1 fe Ki DB (zw CF))(bE:L2.av K Ki DB [])(nE:findIn K (.ref CF) "__eq__"=some (some (.ref fe)))(iE:isFn K (.ref fe)=true):
 E6 P w K mg base (aN P w) 2 f fd DB (vq K C CF):=by
 refine F.okN Do (λvs H Q E h=>?_) (λFf A outer s H vs Q E hr h=>?_)
 ·obtain⟨s,p,ts,y,rfl,_⟩:=h;rfl
 ·obtain⟨s0,p,ts,y,rfl,S,h⟩:=h;have Fp:oJ 1 _:=hr.mono (by decide);refine⟨_,(ar (az (cp (aF bu (by rfl) Fd (by rfl) (@ah _ _ _ _ _ (pv 1) (@ah _ _ _ _ _ (cD (by rfl) c.c.mgC (show aE (.ref C) (.ref C) from rfl)) ag rfl) rfl)) (cp (@aZ _ _ _ _ _ _ _ _ (kb nE iE FE Fp bE ae) (aW (pv 0) rfl) (aW (pv 1) rfl) (aB _)) (dJ (@aZ _ _ _ _ _ _ _ _ (qj hr) (aW (pv 0) rfl) (aW (pv 1) rfl) (aB _))))))),?_⟩
  rcases h with⟨s1,p1,us,rfl,S1,q⟩|⟨t,ty,kt,q⟩
  ·obtain⟨dx,fl,Fh,Dd,zs,h1,h2,h3,h4⟩:=S.ex;obtain⟨GH,Rl,JE,Dd1,zs1,g1,g2,g3,g4⟩:=S1.ex;refine⟨_,rfl,.ref s1,.ref C,_,_,_,rfl,rfl,c.ty g1,c.is,_,rfl,bw ?_⟩;refine⟨_,rfl,s0,C,dx,_,_,rfl,h1,c.c.cl,c.c.nF,rfl,_,rfl,s1,C,GH,_,_,rfl,g1,c.c.cl,c.c.nF,rfl,?_⟩;refine⟨fl,Fh,_,.ref CF,rfl,h2,cF.ty g2,ij,fl,Fh,p,.ref Rl,rfl,h2,.inl ⟨Rl,JE,p1,rfl,g2,_,rfl,_,rfl,?_⟩⟩
   have eb:(decide (p=p1) != false)=decide (p=p1):=by simp
   rw[eb]
   cases hb:decide (p=p1) with
   |false =>
    rw[hb,Bool.false_and] at q;exact bH q
   |true =>
    rw[hb,Bool.true_and] at q;refine bw ⟨_,rfl,s0,C,dx,_,_,rfl,h1,c.c.cl,c.c.nT,rfl,_,rfl,s1,C,GH,_,_,rfl,g1,c.c.cl,c.c.nT,rfl,?_⟩;refine⟨_,_,pX h3 h4,pX g3 g4,y4 _,?_⟩;simpa using q
  ·exact⟨_,rfl,y,.ref C,_,_,_,rfl,rfl,ty,kt,_,rfl,bH q⟩
end K80
namespace L2
open PySem PySem.Spec PyProof.Rows PySem.W
def ui (H:Hp)(a:Addr):Hp:=λb=>if b=a then none else H b
theorem k8 (H:Hp)(a:Addr):ui H a a=none:=if_pos rfl
theorem gD {H:Hp}{a b:Addr}(h:b≠a):ui H a b=H b:=if_neg h
section
variable {P:u6}{w:World}{K:PySem.W.Frag}{mg:wg}{base:Heap}{N:E4}{qual:Str}{scope:Scope}{f:Addr}{cd:Value}{A:Around}{outer:List Env}{s:AQ}{H:Hp}{E:XK}
theorem dF:∀(pins:List (Addr×Obj))(σ:St)(H1:Hp)(s1:AQ)(a C dx:Addr),Inv (fK (aN P w) P w K mg base N qual scope f cd A outer s H E) pins σ H1 s1->H1 a=some (dR a (.ref C) dx true) →
 (H a=none/\E (.ref C) (some dx) (ui H1 a))->(fK (aN P w) P w K mg base N qual scope f cd A outer s H E).xe (.ref a) s1:=by
 intro pins σ H1 s1 a C dx I ea ⟨hn,hE⟩;obtain⟨o,vs,h1,h2,h3,h4,h5⟩:=iZ I.hok ea;obtain⟨t,rfl⟩:=h5 rfl;have bs:Un (dW outer) [] H H1 s.heap s1.heap:=I.base
 have nS:s.heap.get? a=none:=by
  cases q:s.heap.get? a with
  |none=>rfl
  |some ob=>have z:=bs.free a ob q hn (by simp);rw[ea] at z;cases z
 generalize Gx:dW (fK (aN P w) P w K mg base N qual scope f cd A outer s H E).stack=fs
 have X6:∀b u,H1 b=some u->b∉fs:=λb u e z=>by rw[I.aaE b (Gx▸z)] at e;cases e
 have Ih:∀b ob,s1.heap.get? b=some ob->b≠a->b∉fs->(hideAll s1.heap (a::fs)).get? b=some ob:=λb ob e n1 n2=>hideAll_get _ e (by simp[n1,n2]);have ofB:∀b ob,(hideAll s1.heap (a::fs)).get? b=some ob->s1.heap.get? b=some ob:=λb ob q=>of_hideAll _ q;have nB:(hideAll s1.heap (a::fs)).get? a=none:=hideAll_none _ List.mem_cons_self;have Su:s1.heap.FunFrames (hideAll s1.heap (a::fs)) _:=funFrames_hide I.stack λenv he b hb=>List.mem_cons_of_mem _ (Gx▸List.mem_filterMap.mpr ⟨env,he,hb⟩)
 have Iy:∀b ob,s.heap.get? b=some ob->b≠a:=λb ob e z=>by rw[z,nS] at e;cases e
 have old:∀b ob,s.heap.get? b=some ob->b∉dW outer->b∉fs:=λb ob e n z=>by
  rcases List.mem_cons.mp (I.aaz b (Gx▸z)) with q|q
  ·exact absurd (Nat.lt_of_lt_of_le (Heap.lt_size e) I.ok.above) (by rw[q];exact Nat.lt_irrefl _)
  ·exact n q
 refine lQ (B:=hideAll s1.heap (a::fs)) (d:=some dx) (cls:=.ref C) (a0:=.ref t) I.ok.frames Su rfl ofB nB h1 h4 h2 h3 rfl rfl λg x up=>?_
 refine⟨a,.ref C,.ref t,_,some dx,ui H1 a,rfl,I.os,I.bare,⟨x,⟨λb ob e n hb _=>x.st b ob (Ih b ob (bs.keep b ob e n hb (by simp)) (Iy b ob e) (old b ob e hb)),λb ob e n hb _=>?_,λb ob e n _=>?_,λb ob e _=>?_,λb xs e=>?_,λb ob u e=>?_,λb ps e=>?_⟩,
  λb ob e n hb=>Ih b ob (bs.keep b ob e n hb (by simp)) (Iy b ob e) (old b ob e hb),λb ob e hb=>?_,λb u e=>?_,k8 _ _⟩,hE⟩
 ·obtain⟨sl,e1⟩:=bs.slot b ob e n hb (by simp);obtain⟨Hm,e2⟩:=up b _ e1 λws q=>cb I.aau hb e1 ws q;exact⟨Hm,e2⟩
 ·rw[gD (Iy b ob e)];exact bs.free b ob e n (by simp)
 ·obtain⟨o',e1⟩:=bs.there b ob e (by simp)
  by_cases hb:b∈dW outer
  ·obtain⟨Hm,e2⟩:=up b _ e1 λws q=>cb I.aau hb e1 ws q;exact⟨_,e2⟩
  ·exact⟨o',x.st b o' (Ih b o' e1 (Iy b ob e) (old b ob e hb))⟩
 ·have z:=bs.aaq b xs e;rw[gD λq=>by rw[q,ea] at z;cases z];exact z
 ·have z:=bs.aap b ob u e;rw[gD λq=>by rw[q,ea] at z;cases z];exact z
 ·obtain⟨m,z⟩:=bs.aav b ps e;exact⟨m,by rw[gD λq=>by rw[q,ea] at z;cases z];exact z⟩
 ·obtain⟨o',e1⟩:=bs.there b ob e (by simp);exact⟨o',Ih b o' e1 (Iy b ob e) (old b ob e hb)⟩
 ·have hb:b≠a:=λz=>by rw[z,k8] at e;cases e
  rw[gD hb] at e;refine(I.hok b u e).aaZ (λc v hc q=>?_) (λc q=>?_) λc xs q=>?_
  ·rcases hc with rfl|hc
   ·exact Ih c v q hb (X6 c u e)
   ·exact Ih c v q (λz=>by rw[z,ea] at hc;cases hc) (X6 c _ hc)
  ·rw[gD λz=>by rw[z,ea] at q;cases q];exact q
  ·rw[gD λz=>by rw[z,ea] at q;cases q];exact q
end
structure IK (P:u6)(w:World)(K:Frag)(mg:wg)(base:Heap)(x:Str)(C:Addr)(ps:E4)(sp:Sp):Prop where
 m:mg x=some (.ref C)
 kp:keepIn K (.ref C)=true
 s:DM K C
 k:zv K C
 tc:fR K C
 call:∃f fd oI B Bn newId J7 FJ J6,ExcBaseFacts Bn newId J7 J6/\FJ.contains (.type Bn)=true/\Ep B FJ/\nv K C f FJ newId=true/\K.lookup f=some oI/\oI.cls=.type "function"/\E6 P w K mg base (aN P w) 1 f fd ps sp/\av K fd ps []
def never:XK:=λ_ _ _=>False
section
variable {X:Cx}{x:Str}{C:Addr}{ps:E4}{sp:Sp}{e:Expr}{es:Aw}{t:TA}{p pos:Pos}{H:Hp}{Q:VK}{fld:Str}{v:V}
theorem IK.acg (k:IK X.prog X.w X.K X.mg X.base x C ps sp)(hr:oJ 2 X.A):cA X (.ref C) (o8 C sp never):=by
 obtain⟨f,fd,oI,B,Bn,nw,J7,FJ,J6,a1,a2,a3,a4,a5,a6,a7,a8⟩:=k.call;exact tO a1 a2 a3 a4 a5 a6 a7 hr a8 ae
theorem oN (k:IK X.prog X.w X.K X.mg X.base x C ps sp)(hr:oJ 2 X.A)(hg:Gl X x)(ha:PA X (e::es) t)(hs:gA e=false:=by rfl)(FZ:(backTo pos (starEach es X.env)).any (·.1)=false:=by rfl)(Im:(x==("__debug__":Str))=false:=by decide):
 PE X (.Call (.Name x p) (e::es) [] pos) (zM (o8 C sp never) t):=wB (k.acg hr) k.kp hg k.m ha Im (aY hs) FZ
end
end L2
namespace K80
open PySem L2 PySem.W Nm Srt
abbrev Cz:Stmt:=(aR 38)
structure SW (C CF:Addr)(H:Hp)(s:Addr)(p:Int)(ts:List Tm):Prop where
 r:BU C CF H s p ts
 fp:FP p
 few:ts.length<64
 pl:∀t∈ts,t.1.length<4000
def dw (H H':Hp):Prop:=∀b u,H b=some u->(∀C dx,u≠.ins C dx [])->H' b=some u
variable {H H':Hp}
theorem dw.of (s:ay H H'):dw H H':=λb u e _=>s b u e
variable {C:Addr}
theorem dw.but {s dx:Addr}(h:SameBut s H H')(e:H s=some (.ins C dx [])):dw H H':=λb u eb n=>h b u eb λz=>by
 rw[z,e] at eb
 cases eb
 exact n _ _ rfl
theorem Th.aae {x:V}{T:String}(h:Th H x T)(k:dw H H'):Th H' x T:=by
 cases h with
 |non=>exact .non
 |bl b=>exact .bl b
 |int i=>exact .int i
 |str y=>exact .str y
 |lst e=>exact .lst (k _ _ e λ_ _ z=>by cases z)
 |tup e=>exact .tup (k _ _ e λ_ _ z=>by cases z)
 |dK e=>exact .dK (k _ _ e λ_ _ z=>by cases z)
theorem dw.abg (k:dw H H'):aS H H':=λb xs e=>k b _ e λ_ _ z=>by cases z
variable {CF:Addr}
theorem SW.aae {s:Addr}{p:Int}{ts:List Tm}(h:SW C CF H s p ts)(k:dw H H'):SW C CF H' s p ts:=by
 obtain⟨dx,fl,Fh,D,zs,h1,h2,h3,h4⟩:=h.r.ex;exact⟨⟨dx,fl,Fh,D,zs,k _ _ h1 (λ_ _ z=>by injection z with _ _ z;exact absurd z (by simp[w8])),k _ _ h2 (λ_ _ z=>by injection z with _ _ z;exact absurd z (by simp[cK])),k _ _ h3 (λ_ _ z=>by cases z),bJ.keep h4 k.abg⟩,h.fp,h.few,h.pl⟩
inductive WX (C CF:Addr)(p n:Int)(H:Hp):V->Bool->Prop where
 |sum {s:Addr}{p':Int}{ts:List Tm}:SW C CF H s p' ts->WX C CF p n H (.ref s) (decide (p'=p)&&decide (iI ts<=n))
 |oth {x:V}{T:String}:Th H x T->WX C CF p n H x false
theorem WX.aae {p n:Int}{x:V}{b:Bool}(h:WX C CF p n H x b)(k:dw H H'):WX C CF p n H' x b:=by
 cases h with
 |sum s=>exact .sum (s.aae k)
 |oth t=>exact .oth (t.aae k)
def zP (C CF:Addr):Sp:=λvs H Q _=>∃(fl Fh:Addr)(p n:Int)(y:V)(b:Bool),vs=[.ref fl,.int n,y]/\H fl=some (.ins CF Fh (cK p))/\WX C CF p n H y b/\∀H',ay H H'->Q (.bl b) H'
theorem BI:yI qb qb (aq Cz):=dm (by decide +kernel)
variable {P:u6}{w:World}{K:PySem.W.Frag}{mg:wg}{base:Heap}
theorem AD {f fe ff fr:Addr}{fd Ki X7 NG:xR}(F:u3 K "is_wish" "is_wish" Cz f fd)(c:Ci K mg C)(cF:zZ K mg CF)(Fd:mg "isinstance"=none)
 (FE:E6 P w K mg base (aN P w) 1 fe Ki DB (zw CF))(bE:L2.av K Ki DB [])(nE:findIn K (.ref CF) "__eq__"=some (some (.ref fe)))(iE:isFn K (.ref fe)=true)
 (FSf:E6 P w K mg base (aN P w) 1 ff X7 ["self"] (pG C CF))(bSf:L2.av K X7 ["self"] [])(mSf:Meth K C "field" ff)
 (FRe:E6 P w K mg base (aN P w) 1 fr NG ["self"] (sr C))(bRe:L2.av K NG ["self"] [])(mRe:Meth K C "reach" fr):
 E6 P w K mg base (aN P w) 2 f fd qb (zP C CF):=by
 refine F.okN BI (λvs H Q E h=>?_) (λFf A outer s H vs Q E hr h=>?_)
 ·obtain⟨fl,Fh,p,n,y,b,rfl,_⟩:=h;rfl
 ·obtain⟨fl,Fh,p,n,y,b,rfl,hf,hw,q⟩:=h;have Fp:oJ 1 _:=hr.mono (by decide);refine⟨_,(ar (az (cp (aF bu (by rfl) Fd (by rfl) (@ah _ _ _ _ _ (pv 2) (@ah _ _ _ _ _ (cD (by rfl) c.c.mgC (show aE (.ref C) (.ref C) from rfl)) ag rfl) rfl)) (cp (@aZ _ _ _ _ _ _ _ _ (kb nE iE FE Fp bE ae) (aX (pv 2) c.c.cl mSf FSf Fp bSf .nil ae) (pv 0) (aB _)) (dJ (@aZ _ _ _ _ _ _ _ _ oM (aX (pv 2) c.c.cl mRe FRe Fp bRe .nil ae) (pv 1) (aB _))))))),?_⟩
  cases hw with
  |oth th=>exact⟨_,rfl,y,.ref C,_,_,_,rfl,rfl,th.ty,c.no th,_,rfl,bH (q _ (ay.refl _))⟩
  |@sum s p' ts S =>
   obtain⟨dx,Iz,IA,D,zs,h1,h2,h3,h4⟩:=S.r.ex;refine⟨_,rfl,.ref s,.ref C,_,_,_,rfl,rfl,c.ty h1,c.is,_,rfl,bw ?_⟩;refine⟨_,rfl,s,dx,_,rfl,h1,rfl,s,dx,Iz,D,rfl,h1,_,rfl,?_⟩;refine⟨Iz,IA,_,.ref CF,rfl,h2,cF.ty hf,ij,Iz,IA,p',.ref fl,rfl,h2,.inl ⟨fl,Fh,p,rfl,hf,_,rfl,?_⟩⟩
   cases e:decide (p'=p) with
   |false =>
    refine⟨_,rfl,bH ?_⟩;have q':=q _ (ay.refl _);rw[e] at q';exact q'
   |true =>
    refine⟨_,rfl,bw ?_⟩;refine⟨_,rfl,s,dx,_,rfl,h1,rfl,s,dx,Iz,D,zs,ts,rfl,h1,h3,h4,Nat.lt_trans S.few (by decide),S.pl,λH' sH=>⟨_,rfl,_,_,rfl,rfl,?_⟩⟩;have q':=q _ sH;rw[e] at q';exact q'
end K80
namespace L2
open PySem PySem.W PySem.Spec PyProof.Rows
def fG (C:Addr)(f g:Str):Sp:=λvs H Q _=>∃(a:Addr)(x y:V),vs=[.ref a,x,y]/\H a=some (oX a (.ref C))/\∀dx,H dx=none->dx≠a->Q .non (upd (upd H dx (cL dx [(f,x),(g,y)])) a (dR a (.ref C) dx true))
section
variable {C:Addr}{H:Hp}{Q:VK}{fld He:Str}{v v2:V}
theorem AR (h:∀a dx,H a=none->H dx=none->dx≠a->Q (.ref a) (upd (upd H dx (cL dx [(fld,v),(He,v2)])) a (dR a (.ref C) dx true))):o8 C (fG C fld He) never [v,v2] H Q:=by
 refine⟨(by decide:(2:Nat)<=sizeLine),λa ha=>⟨a,v,v2,rfl,af,λdx hn ne=>⟨rfl,?_⟩⟩⟩;rw[ai ne] at hn;have z:=h a dx ha hn ne
 have c:upd (upd (upd H a (oX a (.ref C))) dx (cL dx [(fld,v),(He,v2)])) a (dR a (.ref C) dx true)=upd (upd H dx (cL dx [(fld,v),(He,v2)])) a (dR a (.ref C) dx true):=by
  funext b
  by_cases h2:b=a
  ·subst h2;rw[af,af]
  ·rw[ai h2,ai h2]
   by_cases h1:b=dx
   ·subst h1;rw[af,af]
   ·rw[ai h1,ai h1,ai h2]
 rw[c];exact z
theorem gP {K:Frag}{E:XK}{H₀:Hp}(hk:zv K C)(ht:fR K C)(h0:∀a,H a=none->H₀ a=none)(h:∀dx,H dx=none->E (.ref C) (some dx) (upd H dx (cL dx [(fld,v),(He,v2)]))):
 o8 C (fG C fld He) never [v,v2] H λx H1=>∃a C' dx,x=.ref a/\H1 a=some (dR a (.ref C') dx true)/\zv K C'/\fR K C'/\H₀ a=none/\E (.ref C') (some dx) (ui H1 a):=by
 refine AR λa dx ha hd ne=>⟨a,C,dx,rfl,af,hk,ht,h0 a ha,?_⟩
 have c:ui (upd (upd H dx (cL dx [(fld,v),(He,v2)])) a (dR a (.ref C) dx true)) a=upd H dx (cL dx [(fld,v),(He,v2)]):=by
  funext b
  by_cases h2:b=a
  ·subst h2;rw[k8,ai (Ne.symm ne),ha]
  ·rw[gD h2,ai h2]
 rw[c];exact h dx hd
end
end L2
namespace K80
open PySem L2 PySem.W Nm Srt
abbrev xv:Stmt:=aD (aR 8) 0
abbrev E0:Stmt:=(aR 39)
theorem xO:yI uL uL (aq xv):=dm (by decide +kernel)
theorem BA:yI ["field","places","part","wishes","number","wish"] rh (aq E0):=dm (by decide +kernel)
variable {H:Hp}{x:V}
theorem Th.abT {K:Frag}{T:String}(h:Th H x T):kitOne K (.type T) (.type "list")=some (decide (T="list")):=by cases h <;> rfl
abbrev fX (CN:Addr)(H:Hp)(E:XK)(part:String)(v:V):Prop:=∀d H',ay H H'->H' d=some (cL d [("part",.str part),("number",v)])->E (.ref CN) (some d) H'
inductive LW (C CF:Addr)(p n:Int)(H:Hp):V->V->Prop where
 |no {x:V}{T:String}:Th H x T->T ≠ "list"->LW C CF p n H x .non
 |long {l:Addr}{ys:List V}:H l=some (.lst ys)->200<ys.length->LW C CF p n H (.ref l) .non
 |at {l:Addr}{ys:List V}{k:Nat}{y:V}:H l=some (.lst ys)->ys.length<=200->(∀i y,i<k->ys[i]?=some y->WX C CF p n H y true)->ys[k]?=some y->WX C CF p n H y false->LW C CF p n H (.ref l) (.int k)
variable {C CF:Addr}{p n:Int}{H':Hp}{v:V}
theorem LW.aae (h:LW C CF p n H x v)(k:dw H H'):LW C CF p n H' x v:=by
 cases h with
 |no t e=>exact .no (t.aae k) e
 |long e l=>exact .long (k _ _ e λ_ _ z=>by cases z) l
 | «at» e l a b c=>exact .at (k _ _ e λ_ _ z=>by cases z) l (λi y hi hy=>(a i y hi hy).aae k) b (c.aae k)
structure LR (C CF:Addr)(p n:Int)(H:Hp)(x:V)(as:List Addr):Prop where
 e:∃l,x=.ref l/\H l=some (.lst (as.map V.ref))
 len:as.length<=200
 wi:∀a∈as,WX C CF p n H (.ref a) true
theorem LR.aae {as:List Addr}(h:LR C CF p n H x as)(k:dw H H'):LR C CF p n H' x as:=by
 obtain⟨l,e,hl⟩:=h.e;exact⟨⟨l,e,k _ _ hl λ_ _ z=>by cases z⟩,h.len,λa ha=>(h.wi a ha).aae k⟩
def zd (C CF CN:Addr):Sp:=λvs H Q E=>∃(fl Fh:Addr)(p n:Int)(part:String)(x:V),vs=[.ref fl,.int n,.str part,x]/\H fl=some (.ins CF Fh (cK p)) /\
 ((∃as,LR C CF p n H x as/\∀H' D,ay H H'->H D=none->H' D=some (.lst (as.map V.ref))->Q (.ref D) H')\/∃v,LW C CF p n H x v/\fX CN H E part v)
variable {P:u6}{w:World}{K:PySem.W.Frag}{mg:wg}{base:Heap}
variable {f:Addr}{fd:xR}
theorem xj (F:u3 K "__init__" "NoSystem.__init__" xv f fd)(k:DM K C)(n1:bz K C "part")(n2:bz K C "number"):E6 P w K mg base (aN P w) 1 f fd uL (fG C "part" "number"):=by
 refine F.okN xO (λvs H Q E h=>?_) (λFf A outer s H vs Q E hr h=>?_)
 ·obtain⟨a,x,y,rfl,_⟩:=h;rfl
 ·obtain⟨a,x,y,rfl,e,q⟩:=h;refine⟨_,aj (u9 (pv 0) (pv 1) rfl) (ar (vg (pv 0) (pv 2) rfl)),?_⟩;refine⟨_,rfl,_,rfl,a,C,rfl,e,k,n1,λdx hn ne=>?_⟩
  have e2:(upd (upd H dx (cL dx [("part",x)])) a (dR a (.ref C) dx true)) dx=some (cL dx [("part",x)]):=by rw[ai ne,af]
  refine⟨_,rfl,_,rfl,a,C,dx,true,_,rfl,af,e2,k,n2,(by decide:(1:Nat)<1000),?_⟩;have z:=q dx hn ne
  have c:upd (upd (upd H dx (cL dx [("part",x)])) a (dR a (.ref C) dx true)) dx (cL dx (bt "number" y [("part",x)]))=upd (upd H dx (cL dx [("part",x),("number",y)])) a (dR a (.ref C) dx true):=by
   funext b
   by_cases h1:b=dx
   ·subst h1;rw[af,ai ne,af];rfl
   ·rw[ai h1]
    by_cases h2:b=a
    ·subst h2;rw[af,af]
    ·rw[ai h2,ai h1,ai h2,ai h1]
  rw[c];exact z
variable {CN:Addr}
theorem BJ {fw:Addr}{GF:xR}{X8:Tok}(F:u3 K "checked_wishes" "checked_wishes" E0 f fd)(Fd:mg "isinstance"=none)(Fg:mg "list"=none)(Fs:mg "enumerate"=none)(Fj:mg "len"=none)(TH:mg "MOST_WISHES"=some (.int 200 X8))
 (kN:IK P w K mg base "NoSystem" CN uL (fG CN "part" "number"))
 (FW:E6 P w K mg base (aN P w) 2 fw GF qb (zP C CF))(bW:L2.av K GF qb [])(mW:mg "is_wish"=some (.ref fw))(kW:keepIn K (.ref fw)=true):E6 P w K mg base (aN P w) 3 f fd rh (zd C CF CN):=by
 refine F.okE BA (λvs H Q E h=>?_) (λFf A outer s H vs Q E hr h=>?_)
 ·obtain⟨fl,Fh,p,n,part,x,rfl,_⟩:=h;rfl
 ·obtain⟨fl,Fh,p,n,part,x,rfl,hf,h⟩:=h;have F5:oJ 2 _:=hr.mono (by decide);have FY:oJ 2 _:=hr.mono (by decide)
  refine⟨_,(aj (bq (PW.pt (iz (cG (cz (aF bu (by rfl) Fd (by rfl) (@ah _ _ _ _ _ (pv 3) (@ah _ _ _ _ _ (dN (by rfl) Fg (by rfl) (show aE (.ty "list") (.type "list") from rfl)) ag rfl) rfl)))) (gh (@aL _ _ _ _ _ _ _ _ pP (aF bx (by rfl) Fj PySem.boot_len (@ah _ _ _ _ _ (pv 3) ag rfl)) (cD (by rfl) TH (show aE (.int 200) (.int 200 X8) from⟨_,rfl⟩)) (aB _))))) (ar (fM (R:=λ_ a C dx H1=>H a=none/\E (.ref C) (some dx) (ui H1 a)) rfl dF (oN kN FY (by rfl) (@ah _ _ _ _ _ (pv 2) (@ah _ _ _ _ _ dj ag rfl) rfl)))) aM)
   (aj (iG (by passes_own) rfl (sW (pv 3) (by rfl) Fs) (fJ rfl (bo (aI (i:=4) BA.nd rfl (Or.inl rfl)) (bo (aI (i:=5) BA.nd rfl (Or.inl rfl)) dB)))
   (ar (bq (cG (cz (ax FW F5 (by rfl) mW kW bW .nil ae (@ah _ _ _ _ _ (pv 0) (@ah _ _ _ _ _ (pv 1) (@ah _ _ _ _ _ (pv 5) ag rfl) rfl) rfl)))) (ar (fM (R:=λ_ a C dx H1=>H a=none/\E (.ref C) (some dx) (ui H1 a)) rfl dF (oN kN FY (by rfl) (@ah _ _ _ _ _ (pv 2) (@ah _ _ _ _ _ (pv 4) ag rfl) rfl)))) aM)))
   (ar (az (bA ck (by rfl) Fg (by rfl) (@ah _ _ _ _ _ (pv 3) ag rfl)))))),?_⟩
  have h:(∃T,Th H x T/\T ≠ "list"/\fX CN H E part .non)\/(∃l ys,x=.ref l/\H l=some (.lst ys)/\200<ys.length/\fX CN H E part .non) \/
   ∃(l:Addr)(ys:List V)(k:Nat),x=.ref l/\H l=some (.lst ys)/\ys.length<=200/\(∀i y,i<k->ys[i]?=some y->WX C CF p n H y true) /\
    ((k=ys.length/\∀H' D,ay H H'->H D=none->H' D=some (.lst ys)->Q (.ref D) H')\/∃y,ys[k]?=some y/\WX C CF p n H y false/\fX CN H E part (.int k)):=by
   rcases h with⟨as,r,q⟩|⟨v,w',q⟩
   ·obtain⟨l,rfl,hl⟩:=r.e;refine .inr (.inr ⟨l,_,(as.map V.ref).length,rfl,hl,by rw[List.length_map];exact r.len,λi y _ e=>?_,.inl ⟨rfl,q⟩⟩);rw[List.getElem?_map] at e;obtain⟨a,ea,rfl⟩:=Option.map_eq_some_iff.mp e;exact r.wi a (List.mem_of_getElem? ea)
   ·cases w' with
    |no t e=>exact .inl ⟨_,t,e,q⟩
    |long e l=>exact .inr (.inl ⟨_,_,rfl,e,l,q⟩)
    | «at» e l a b c=>exact .inr (.inr ⟨_,_,_,rfl,e,l,a,.inr ⟨_,b,c,q⟩⟩)
  rcases h with⟨T,ht,hk,q⟩|⟨l,ys,rfl,hl,hlen,q⟩|⟨l,ys,k,rfl,hl,hlen,S9,h⟩
  ·refine⟨_,rfl,x,.ty "list",.type T,_,false,rfl,rfl,ht.ty,(by rw[ht.abT,decide_eq_false hk]),_,rfl,bw ?_⟩;exact bw ⟨_,rfl,gP kN.k kN.tc (λa ha=>ha) λdx hd=>q dx _ (ak hd) af⟩
  ·refine⟨_,rfl,.ref l,.ty "list",_,_,_,rfl,rfl,.of (.lst hl),rfl,_,rfl,bH ?_⟩;refine⟨_,rfl,l,ys,rfl,.inl (aV.of hl),_,_,rfl,rfl,_,rfl,?_⟩;rw[decide_eq_true (by omega:(200:Int)<(ys.length:Int))];exact bw ⟨_,rfl,gP kN.k kN.tc (λa ha=>ha) λdx hd=>q dx _ (ak hd) af⟩
  ·refine⟨_,rfl,.ref l,.ty "list",_,_,_,rfl,rfl,.of (.lst hl),rfl,_,rfl,bH ?_⟩;refine⟨_,rfl,l,ys,rfl,.inl (aV.of hl),_,_,rfl,rfl,_,rfl,?_⟩;rw[decide_eq_false (by omega:¬(200:Int)<(ys.length:Int))];refine bH ?_;refine⟨_,rfl,l,ys,rfl,aV.of hl,?_⟩
   have hk:k<=ys.length:=by
    rcases h with⟨h,_⟩|⟨y,h,_⟩
    ·omega
    ·exact Nat.le_of_lt (List.getElem?_eq_some_iff.mp h).1
   refine⟨λi m σ' H'=>m=ys.length-i/\i<=k/\ay H H'/\∃o1 o2,σ'=[some (.ref fl),some (.int n),some (.str part),some (.ref l),o1,o2],⟨ys.length,by simp,Nat.zero_le _,ay.refl _,none,none,rfl⟩,?_⟩;rintro i m σ' H' ⟨rfl,hi,sH,o1,o2,rfl⟩;have Gk:=sH _ _ hl
   by_cases Fy:i<ys.length
   ·refine .inr ⟨⟨ys,ys[i],aV.of Gk,by simp[Fy]⟩,λσ' H'=>i+1<=k/\ay H H'/\∃o1 o2,σ'=[some (.ref fl),some (.int n),some (.str part),some (.ref l),o1,o2],?_,λv H2 hv=>?_⟩
    ·rintro σ' H' ⟨h1,h2,h3⟩;exact⟨ys.length-(i+1),by omega,rfl,h1,h2,h3⟩
    ·obtain⟨T,y,hy,hT,rfl,rfl⟩:=hv;have ey:=hy ys (aV.of Gk)
     have s2:ay H (upd H' T (.tup [.int i,y])):=λc u e=>by
      rw[ai (au (sH _ _ e) hT)];exact sH _ _ e
     refine⟨T,_,rfl,bV.of af,rfl,_,_,rfl,_,_,rfl,rfl,?_⟩
     by_cases X9:i<k
     ·have ty:=(S9 i y X9 ey).aae (.of s2);refine⟨_,rfl,_,rfl,_,rfl,fl,Fh,p,n,y,true,rfl,s2 _ _ hf,ty,λH3 s3=>⟨_,rfl,bH ?_⟩⟩;exact⟨X9,λc u e=>s3 _ _ (s2 _ _ e),_,_,rfl⟩
     ·have ei:i=k:=by omega
      rcases h with⟨h,_⟩|⟨y',h,ty,q⟩
      ·omega
      ·have e2:y=y':=by rw[<-ei,ey] at h;exact Option.some.inj h
       subst e2;refine⟨_,rfl,_,rfl,_,rfl,fl,Fh,p,n,y,false,rfl,s2 _ _ hf,ty.aae (.of s2),λH3 s3=>⟨_,rfl,bw ?_⟩⟩;have s4:ay H H3:=λc u e=>s3 _ _ (s2 _ _ e);refine⟨_,rfl,_,rfl,gP kN.k kN.tc (λa ha=>?_) λdx hd=>?_⟩
       ·cases z:H a with
        |none=>rfl
        |some u=>rw[s4 _ _ z] at ha;cases ha
       ·subst ei;exact q dx _ (s4.trans (ak hd)) af
   ·refine .inl ⟨⟨ys,aV.of Gk,by omega⟩,?_⟩
    rcases h with⟨h,q⟩|⟨y',h,_⟩
    ·refine⟨_,rfl,l,ys,rfl,.inl (aV.of Gk),λD hD=>?_⟩;exact q _ D (sH.trans (ak hD)) (none_of sH hD) af
    ·have:=(List.getElem?_eq_some_iff.mp h).1;omega
abbrev EW:Stmt:=(aR 40)
theorem Eg:yI CR CR (aq EW):=dm (by decide +kernel)
def UR (C CF:Addr)(p n:Int)(H:Hp)(y:V)(bs:List Addr):Prop:=(y=.non/\bs=[])\/(LR C CF p n H y bs/\(bs≠[]->p=0))
def UW (C CF:Addr)(p n:Int)(H:Hp)(y v:V):Prop:=(∃l ys,y=.ref l/\H l=some (.lst ys)/\ys≠[]/\p≠0/\v=.non)\/(y≠.non/\LW C CF p n H y v/\∀l ys,y=.ref l->H l=some (.lst ys)->ys≠[]->p=0)
variable {y:V}
theorem UR.aae {bs:List Addr}(h:UR C CF p n H y bs)(k:dw H H'):UR C CF p n H' y bs:=by
 rcases h with h|⟨h,e⟩
 ·exact .inl h
 ·exact .inr ⟨h.aae k,e⟩
theorem LW.lst (h:LW C CF p n H y v):(∃T,Th H y T/\T ≠ "list")\/∃l ys,y=.ref l/\H l=some (.lst ys):=by
 cases h with
 |no t e=>exact .inl ⟨_,t,e⟩
 |long e _=>exact .inr ⟨_,_,rfl,e⟩
 | «at» e _ _ _ _=>exact .inr ⟨_,_,rfl,e⟩
theorem UW.aae (h:UW C CF p n H y v)(k:dw H H'):UW C CF p n H' y v:=by
 rcases h with⟨l,ys,e,hl,h⟩|⟨a,b,c⟩
 ·exact .inl ⟨l,ys,e,k _ _ hl (λ_ _ z=>by cases z),h⟩
 ·refine .inr ⟨a,b.aae k,λl ys e hl n=>?_⟩
  rcases b.lst with⟨T,t,ne⟩|⟨l',ys',e',Gk⟩
  ·subst e
   cases t with
   |lst e=>exact absurd rfl ne
   |tup e=>rw[k _ _ e (λ_ _ z=>by cases z)] at hl;cases hl
   |dK e=>rw[k _ _ e (λ_ _ z=>by cases z)] at hl;cases hl
  ·subst e'
   cases e
   have:=k _ _ Gk (λ_ _ z=>by cases z);rw[hl] at this
   cases this
   exact c _ _ rfl Gk n
def Cv (C CF CN:Addr):Sp:=λvs H Q E=>∃(fl Fh:Addr)(p n:Int)(y:V),vs=[.ref fl,.int n,y]/\H fl=some (.ins CF Fh (cK p)) /\
 ((∃bs,UR C CF p n H y bs/\∀H' D,ay H H'->H D=none->H' D=some (.lst (bs.map V.ref))->Q (.ref D) H')\/∃v,UW C CF p n H y v/\fX CN H E "uppers" v)
theorem BO {fc fp:Addr}{Kf Gi:xR}{Yb:Tok}(F:u3 K "checked_uppers" "checked_uppers" EW f fd)(cF:zZ K mg CF)(Fd:mg "isinstance"=none)(Fg:mg "list"=none)(TJ:mg "FRACTIONS"=some (.int 0 Yb))
 (kN:IK P w K mg base "NoSystem" CN uL (fG CN "part" "number"))
 (FFp:E6 P w K mg base (aN P w) 1 fp Gi ["self"] (sM CF))(bFp:L2.av K Gi ["self"] [])(mFp:Meth K CF "prime" fp)
 (FC:E6 P w K mg base (aN P w) 3 fc Kf rh (zd C CF CN))(bC:L2.av K Kf rh [])(mC:mg "checked_wishes"=some (.ref fc))(kC:keepIn K (.ref fc)=true):E6 P w K mg base (aN P w) 4 f fd CR (Cv C CF CN):=by
 refine F.okE Eg (λvs H Q E h=>?_) (λFf A outer s H vs Q E hr h=>?_)
 ·obtain⟨fl,Fh,p,n,y,rfl,_⟩:=h;rfl
 ·obtain⟨fl,Fh,p,n,y,rfl,hf,h⟩:=h;have F5:oJ 3 _:=hr.mono (by decide);have FY:oJ 2 _:=hr.mono (by decide);have Fp:oJ 1 _:=hr.mono (by decide)
  refine⟨_,(aj (bq (@aL _ _ _ _ _ _ _ _ om (pv 2) dj (aB _)) (ar (az (@bY _ _ _ _ ag))) aM)
   (aj (bq (PW.pt (nh (cz (aF bu (by rfl) Fd (by rfl) (@ah _ _ _ _ _ (pv 2) (@ah _ _ _ _ _ (dN (by rfl) Fg (by rfl) (show aE (.ty "list") (.type "list") from rfl)) ag rfl) rfl))) (nh (i4 (pv 2) (λ_=>rfl)) (oq (@aL _ _ _ _ _ _ _ _ kn (aX (pv 0) cF.cl mFp FFp Fp bFp .nil ae) (cD (by rfl) TJ (show aE (.int 0) (.int 0 Yb) from⟨_,rfl⟩)) (aB _)))))) (ar (fM (R:=λ_ a C dx H1=>H a=none/\E (.ref C) (some dx) (ui H1 a)) rfl dF (oN kN FY (by rfl) (@ah _ _ _ _ _ da (@ah _ _ _ _ _ dj ag rfl) rfl)))) aM)
   (ar (az (ax FC F5 (by rfl) mC kC bC .nil c9 (@ah _ _ _ _ _ (pv 0) (@ah _ _ _ _ _ (pv 1) (@ah _ _ _ _ _ da (@ah _ _ _ _ _ (pv 2) ag rfl) rfl) rfl) rfl)))))),?_⟩
  by_cases hy:y=.non
  ·subst hy
   rcases h with⟨bs,r,q⟩|⟨v,w',q⟩
   ·rcases r with⟨_,rfl⟩|⟨r,_⟩
    ·exact⟨_,rfl,rfl,_,rfl,bw ⟨Nat.zero_le _,λl hl=>q _ l (ak hl) hl af⟩⟩
    ·obtain⟨l,e,_⟩:=r.e
     cases e
   ·rcases w' with⟨l,_,e,_⟩|⟨e,_⟩
    ·cases e
    ·exact absurd rfl e
  ·refine⟨_,rfl,rfl,decide (y=.non),rfl,?_⟩;rw[decide_eq_false hy];refine bH ?_
   have h:(∃l ys,y=.ref l/\H l=some (.lst ys)/\ys≠[]/\p≠0/\fX CN H E "uppers" .non) \/
    (zd C CF CN [.ref fl,.int n,.str "uppers",y] H Q E/\((∃T,Th H y T/\T ≠ "list")\/∃l ys,y=.ref l/\H l=some (.lst ys)/\(ys≠[]->p=0))):=by
    rcases h with⟨bs,r,q⟩|⟨v,w',q⟩
    ·rcases r with⟨e,_⟩|⟨r,z⟩
     ·exact absurd e hy
     ·obtain⟨l,e,hl⟩:=r.e;exact .inr ⟨⟨fl,Fh,p,n,"uppers",y,rfl,hf,.inl ⟨bs,r,q⟩⟩,.inr ⟨l,_,e,hl,λne=>z λe=>ne (by rw[e];rfl)⟩⟩
    ·rcases w' with⟨l,ys,e,hl,n,z,rfl⟩|⟨_,b,c⟩
     ·exact .inl ⟨l,ys,e,hl,n,z,q⟩
     ·refine .inr ⟨⟨fl,Fh,p,n,"uppers",y,rfl,hf,.inr ⟨v,b,q⟩⟩,?_⟩
      rcases b.lst with h|⟨l,ys,e,hl⟩
      ·exact .inl h
      ·exact .inr ⟨l,ys,e,hl,c l ys e hl⟩
   rcases h with⟨l,ys,rfl,hl,ne,hp,q⟩|⟨go,⟨T,th,hT⟩|⟨l,ys,rfl,hl,hp⟩⟩
   ·refine⟨_,rfl,.ref l,.ty "list",_,_,_,rfl,rfl,.of (.lst hl),rfl,_,rfl,bw ?_⟩;refine⟨_,rfl,!ys.isEmpty,.inl ⟨_,aV.of hl,rfl⟩,?_⟩
    rw[show(!ys.isEmpty)=true from by cases ys with
     |nil=>exact absurd rfl ne
     |cons=>rfl]
    refine bw ⟨_,rfl,fl,Fh,_,rfl,hf,rfl,fl,Fh,p,rfl,hf,rfl,_,rfl,?_⟩;rw[show(!decide (V.int p=V.int 0))=true from by simp[hp]];exact bw (gP kN.k kN.tc (λa ha=>ha) λdx hd=>q dx _ (ak hd) af)
   ·refine⟨_,rfl,y,.ty "list",.type T,_,false,rfl,rfl,th.ty,(by rw[th.abT,decide_eq_false hT]),_,rfl,bH (bH ?_)⟩;exact⟨_,rfl,_,rfl,_,rfl,go⟩
   ·refine⟨_,rfl,.ref l,.ty "list",_,_,_,rfl,rfl,.of (.lst hl),rfl,_,rfl,bw ?_⟩;refine⟨_,rfl,!ys.isEmpty,.inl ⟨_,aV.of hl,rfl⟩,?_⟩
    cases ys with
    |nil=>exact bH (bH ⟨_,rfl,_,rfl,_,rfl,go⟩)
    |cons z zs =>
     refine bw ⟨_,rfl,fl,Fh,_,rfl,hf,rfl,fl,Fh,p,rfl,hf,rfl,_,rfl,?_⟩;rw[show(!decide (V.int p=V.int 0))=false from by simp[hp]];exact bH ⟨_,rfl,_,rfl,_,rfl,go⟩
abbrev Ds:Stmt:=aD (aR 41) 0
theorem DQ:yI AL AL (aq Ds):=dm (by decide +kernel)
structure Cy (K:Frag)(mg:wg)(C:Addr):Prop where
 cl:uF K C
 nF:bz K C "its_field"
 nP:bz K C "its_places"
 nN:bz K C "its_noughts"
 nU:bz K C "its_uppers"
 mgC:mg "System"=some (.ref C)
 isC:((clsIn K C).isSome&&typeIn K (.ref C)==some (.type "type"))=true
 ca:findIn K (.ref C) "__class__"=some (some (.builtin "object.__class__"))
 sp:specialIn K (.builtin "object.__class__") "__get__"=some (some (.builtin "getset_descriptor.__get__"))
 tk:takesIn K (.builtin "object.__class__")=some true
 ob:mroIn K C (.type "object")=some true
def Bd (fl:Addr)(n:Int)(A B:Addr):List (Str×V):=[("its_field",.ref fl),("its_places",.int n),("its_noughts",.ref A),("its_uppers",.ref B)]
def vA:V->Bool
 | .int i=>decide (1<=i)&&decide (i<=60)
 |_=>false
inductive yE (C CF:Addr)(p n:Int)(H:Hp):V->V->V->V->String->V->Prop where
 |f {f m x y:V}{T:String}:Th H f T->yE C CF p n H f m x y "field" .non
 |n {fl Fh:Addr}{m x y:V}{T:String}:H fl=some (.ins CF Fh (cK p))->Th H m T->vA m=false->yE C CF p n H (.ref fl) m x y "places" .non
 |l {fl Fh:Addr}{x y v:V}:H fl=some (.ins CF Fh (cK p))->1<=n->n<=60->LW C CF p n H x v->yE C CF p n H (.ref fl) (.int n) x y "noughts" v
 |u {fl Fh:Addr}{x y v:V}{as:List Addr}:H fl=some (.ins CF Fh (cK p))->1<=n->n<=60->LR C CF p n H x as->UW C CF p n H y v->yE C CF p n H (.ref fl) (.int n) x y "uppers" v
theorem yE.aae {f m:V}{part:String}(h:yE C CF p n H f m x y part v)(k:dw H H'):yE C CF p n H' f m x y part v:=by
 have kf:∀{fl Fh:Addr},H fl=some (.ins CF Fh (cK p))->H' fl=some (.ins CF Fh (cK p)):=λe=>k _ _ e λ_ _ z=>by injection z with _ _ z;exact absurd z (by simp[cK])
 cases h with
 |f t=>exact .f (t.aae k)
 |n e t g=>exact .n (kf e) (t.aae k) g
 |l e a b l=>exact .l (kf e) a b (l.aae k)
 |u e a b l u=>exact .u (kf e) a b (l.aae k) (u.aae k)
structure Rt (C CF:Addr)(p n:Int)(H:Hp)(f m x y:V)(fl:Addr)(as bs:List Addr):Prop where
 f:∃Fh,f=.ref fl/\H fl=some (.ins CF Fh (cK p))
 m:m=.int n
 n1:1<=n
 n2:n<=60
 l:LR C CF p n H x as
 u:UR C CF p n H y bs
theorem Rt.aae {f m:V}{fl:Addr}{as bs:List Addr}(h:Rt C CF p n H f m x y fl as bs)(k:dw H H'):Rt C CF p n H' f m x y fl as bs:=by
 obtain⟨Fh,e,hf⟩:=h.f;exact⟨⟨Fh,e,k _ _ hf λ_ _ z=>by injection z with _ _ z;exact absurd z (by simp[cK])⟩,h.m,h.n1,h.n2,h.l.aae k,h.u.aae k⟩
def qd (CS C CF CN:Addr):Sp:=λvs H Q E=>∃(s dx:Addr)(f m x y:V)(p n:Int),vs=[.ref s,f,m,x,y]/\H s=some (.ins CS dx []) /\
 ((∃fl as bs,Rt C CF p n H f m x y fl as bs/\∀H' A B,SameBut s H H'->H A=none->H B=none->A≠B->H' s=some (.ins CS dx (Bd fl n A B))->H' A=some (.lst (as.map V.ref))->H' B=some (.lst (bs.map V.ref))->Q .non H') \/
  ∃part v,yE C CF p n H f m x y part v/\∀d H',SameBut s H H'->H' d=some (cL d [("part",.str part),("number",v)])->E (.ref CN) (some d) H')
theorem ay.but (s:Addr)(h:ay H H'):SameBut s H H':=λb u e _=>h b u e
theorem pZ (h:vA x=false):eC x=false\/∃i,x=.int i/\¬(1<=i/\i<=60):=by
 cases x with
 |int i =>
  refine .inr ⟨i,rfl,λz'=>?_⟩;obtain⟨a,b⟩:=z';have:(decide (1<=i)&&decide (i<=60))=false:=h;rw[decide_eq_true a,decide_eq_true b] at this
  cases this
 |_=>exact .inl rfl
theorem CH {fc fu fw CS T:Addr}{Kf Yc GF:xR}{Yd:Tok}(F:DJ K "__init__" "System.__init__" Ds f fd T)(cS:Cy K mg CS)(cF:zZ K mg CF)(Fd:mg "isinstance"=none)(TK:mg "MOST_PLACES"=some (.int 60 Yd))
 (kN:IK P w K mg base "NoSystem" CN uL (fG CN "part" "number"))
 (FW:E6 P w K mg base (aN P w) 1 fw GF pU C1)(bW:L2.av K GF pU [])(mW:mg "is_whole"=some (.ref fw))(kW:keepIn K (.ref fw)=true)
 (FC:E6 P w K mg base (aN P w) 3 fc Kf rh (zd C CF CN))(bC:L2.av K Kf rh [])(mC:mg "checked_wishes"=some (.ref fc))(kC:keepIn K (.ref fc)=true)
 (FU:E6 P w K mg base (aN P w) 4 fu Yc CR (Cv C CF CN))(bU:L2.av K Yc CR [])(mU:mg "checked_uppers"=some (.ref fu))(kU:keepIn K (.ref fu)=true):
 E6 P w K mg base (aN P w) 5 f fd AL (qd CS C CF CN):=by
 refine F.okE DQ (λvs H Q E h=>?_) (λFf A outer s H vs Q E hr h=>?_)
 ·obtain⟨s,dx,f,m,x,y,p,n,rfl,_⟩:=h;rfl
 ·obtain⟨s0,dx,f,m,x,y,p,n,rfl,hs,h⟩:=h;have Hb:oJ 4 _:=hr.mono (by decide);have HV:oJ 3 _:=hr.mono (by decide);have FY:oJ 2 _:=hr.mono (by decide);have Fp:oJ 1 _:=hr.mono (by decide)
  refine⟨_,(aj (bq (cG (cz (aF bu (by rfl) Fd (by rfl) (@ah _ _ _ _ _ (pv 1) (@ah _ _ _ _ _ (cD (by rfl) cF.mgC (show aE (.ref CF) (.ref CF) from rfl)) ag rfl) rfl)))) (ar (fM (R:=λ_ a C dx H1=>H a=none/\E (.ref C) (some dx) (ui H1 a)) rfl dF (oN kN FY (by rfl) (@ah _ _ _ _ _ da (@ah _ _ _ _ _ dj ag rfl) rfl)))) aM)
   (aj (bq (PW.pt (iz (cG (cz (ax FW Fp (by rfl) mW kW bW .nil ae (@ah _ _ _ _ _ (pv 2) ag rfl)))) (gh (cG (abN oM oM ao (pv 2) (cD (by rfl) TK (show aE (.int 60) (.int 60 Yd) from⟨_,rfl⟩))))))) (ar (fM (R:=λ_ a C dx H1=>H a=none/\E (.ref C) (some dx) (ui H1 a)) rfl dF (oN kN FY (by rfl) (@ah _ _ _ _ _ da (@ah _ _ _ _ _ dj ag rfl) rfl)))) aM)
   (aj (cM (pv 0) (pv 1) rfl)
   (aj (cM (pv 0) (pv 2) rfl)
   (aj (cM (pv 0) (ax FC HV (by rfl) mC kC bC .nil c9 (@ah _ _ _ _ _ (pv 1) (@ah _ _ _ _ _ (pv 2) (@ah _ _ _ _ _ da (@ah _ _ _ _ _ (pv 3) ag rfl) rfl) rfl) rfl)) rfl)
   (ar (cM (pv 0) (ax FU Hb (by rfl) mU kU bU .nil c9 (@ah _ _ _ _ _ (pv 1) (@ah _ _ _ _ _ (pv 2) (@ah _ _ _ _ _ (pv 4) ag rfl) rfl) rfl)) rfl))))))),?_⟩
  have ki:∀{H':Hp},SameBut s0 H H'->dw H H':=λz=>dw.but z hs;have NH:∀{part:String}{v:V}{H1:Hp},SameBut s0 H H1->(∀d H',SameBut s0 H H'->H' d=some (cL d [("part",.str part),("number",v)])->E (.ref CN) (some d) H')->fX CN H1 E part v:=λs1 q d H' s2 hd=>q d H' (λb u e nb=>s2 b u (s1 b u e nb)) hd
  have h:(∃T,Th H f T/\∀d H',SameBut s0 H H'->H' d=some (cL d [("part",.str "field"),("number",.non)])->E (.ref CN) (some d) H') \/
   (∃fl Fh T,f=.ref fl/\H fl=some (.ins CF Fh (cK p))/\Th H m T/\vA m=false/\∀d H',SameBut s0 H H'->H' d=some (cL d [("part",.str "places"),("number",.non)])->E (.ref CN) (some d) H') \/
   ∃fl Fh,f=.ref fl/\H fl=some (.ins CF Fh (cK p))/\m=.int n/\1<=n/\n<=60 /\
   ((∃v,LW C CF p n H x v/\∀d H',SameBut s0 H H'->H' d=some (cL d [("part",.str "noughts"),("number",v)])->E (.ref CN) (some d) H') \/
    ∃as,LR C CF p n H x as/\((∃bs,UR C CF p n H y bs/\∀H' A B,SameBut s0 H H'->H A=none->H B=none->A≠B->H' s0=some (.ins CS dx (Bd fl n A B))->H' A=some (.lst (as.map V.ref))->H' B=some (.lst (bs.map V.ref))->Q .non H') \/
     ∃v,UW C CF p n H y v/\∀d H',SameBut s0 H H'->H' d=some (cL d [("part",.str "uppers"),("number",v)])->E (.ref CN) (some d) H')):=by
   rcases h with⟨fl,as,bs,r,q⟩|⟨part,v,bad,q⟩
   ·obtain⟨Fh,rfl,hf⟩:=r.f;exact .inr (.inr ⟨fl,Fh,rfl,hf,r.m,r.n1,r.n2,.inr ⟨as,r.l,.inl ⟨bs,r.u,q⟩⟩⟩)
   ·cases bad with
    |f t=>exact .inl ⟨_,t,q⟩
    |n e t g=>exact .inr (.inl ⟨_,_,_,rfl,e,t,g,q⟩)
    |l e a b l=>exact .inr (.inr ⟨_,_,rfl,e,rfl,a,b,.inl ⟨_,l,q⟩⟩)
    |u e a b l u=>exact .inr (.inr ⟨_,_,rfl,e,rfl,a,b,.inr ⟨_,l,.inr ⟨_,u,q⟩⟩⟩)
  rcases h with⟨T,th,q⟩|⟨fl,Fh,T,rfl,hf,th,g,q⟩|⟨fl,Fh,rfl,hf,rfl,n1,n2,h⟩
  ·refine⟨_,rfl,f,.ref CF,_,_,_,rfl,rfl,th.ty,cF.no th,_,rfl,bw ?_⟩;exact gP kN.k kN.tc (λa ha=>ha) λdx hd=>q dx _ (ay.but s0 (ak hd)) af
  ·refine⟨_,rfl,.ref fl,.ref CF,_,_,_,rfl,rfl,cF.ty hf,cF.is,_,rfl,bH ?_⟩
   rcases pZ g with hw|⟨i,rfl,hi⟩
   ·refine⟨_,rfl,_,_,rfl,th,_,rfl,?_⟩;rw[hw];exact bw (bw (gP kN.k kN.tc (λa ha=>ha) λdx hd=>q dx _ (ay.but s0 (ak hd)) af))
   ·refine⟨_,rfl,_,_,rfl,th,_,rfl,bH ?_⟩;refine⟨_,rfl,_,_,rfl,rfl,_,rfl,?_⟩;refine c7 (λh1=>?_) (λh1=>?_)
    ·have h1:decide (1<=i)=true:=h1;refine⟨_,_,rfl,rfl,_,rfl,?_⟩;rw[decide_eq_false (λh2=>hi ⟨of_decide_eq_true h1,h2⟩)];exact bw (gP kN.k kN.tc (λa ha=>ha) λdx hd=>q dx _ (ay.but s0 (ak hd)) af)
    ·have h1:decide (1<=i)=false:=by simpa using h1
     refine⟨_,rfl,?_⟩;exact bw (gP kN.k kN.tc (λa ha=>ha) λdx hd=>q dx _ (ay.but s0 (ak hd)) af)
  ·refine⟨_,rfl,.ref fl,.ref CF,_,_,_,rfl,rfl,cF.ty hf,cF.is,_,rfl,bH ?_⟩;refine⟨_,rfl,_,_,rfl,.int n,_,rfl,bH ?_⟩;refine⟨_,rfl,_,_,rfl,rfl,_,rfl,?_⟩;rw[decide_eq_true n1];refine bw ⟨_,_,rfl,rfl,_,rfl,?_⟩;rw[decide_eq_true n2];refine bH ?_;refine⟨_,rfl,_,rfl,s0,CS,dx,_,rfl,hs,cS.cl,cS.nF,by decide,?_⟩;refine⟨_,rfl,_,rfl,s0,CS,dx,_,rfl,af,cS.cl,cS.nP,(by show 1<1000;decide),?_⟩
   have s1:SameBut s0 H (upd (upd H s0 (.ins CS dx (bt "its_field" (.ref fl) []))) s0 (.ins CS dx (bt "its_places" (.int n) (bt "its_field" (.ref fl) [])))):=λb u e nb=>by rw[ai nb,ai nb];exact e
   have TL:upd (upd H s0 (.ins CS dx (bt "its_field" (.ref fl) []))) s0 (.ins CS dx (bt "its_places" (.int n) (bt "its_field" (.ref fl) []))) s0=some (.ins CS dx [("its_field",.ref fl),("its_places",.int n)]):=af;generalize upd (upd H s0 _) s0 _=H1 at s1 TL
   have kf:∀{H':Hp},dw H H'->H' fl=some (.ins CF Fh (cK p)):=λk=>k _ _ hf λ_ _ z=>by injection z with _ _ z;exact absurd z (by simp[cK])
   refine⟨_,rfl,_,rfl,_,rfl,fl,Fh,p,n,"noughts",x,rfl,kf (ki s1),?_⟩
   rcases h with⟨v,hv,q⟩|⟨as,la,h⟩
   ·exact .inr ⟨v,hv.aae (ki s1),NH s1 q⟩
   ·refine .inl ⟨as,la.aae (ki s1),λH2 D s2 fD hD=>?_⟩;have K5:=s2 _ _ TL
    have nD:D≠s0:=λz=>by rw[z,TL] at fD;cases fD
    refine⟨_,rfl,s0,CS,dx,_,rfl,K5,cS.cl,cS.nN,(by show 2<1000;decide),?_⟩;have Lq:upd H2 s0 (.ins CS dx (bt "its_noughts" (.ref D) [("its_field",.ref fl),("its_places",.int n)])) s0=some (.ins CS dx [("its_field",.ref fl),("its_places",.int n),("its_noughts",.ref D)]):=af
    have s3:SameBut s0 H (upd H2 s0 (.ins CS dx (bt "its_noughts" (.ref D) [("its_field",.ref fl),("its_places",.int n)]))):=λb u e nb=>by rw[ai nb];exact s2 _ _ (s1 b u e nb)
    have NI:upd H2 s0 (.ins CS dx (bt "its_noughts" (.ref D) [("its_field",.ref fl),("its_places",.int n)])) D=some (.lst (as.map V.ref)):=by rw[ai nD];exact hD
    have fD0:H D=none:=by
     cases e:H D with
     |none=>rfl
     |some u=>rw[s1 D u e nD] at fD;cases fD
    generalize upd H2 s0 _=H3 at s3 Lq NI;refine⟨_,rfl,_,rfl,_,rfl,fl,Fh,p,n,y,rfl,kf (ki s3),?_⟩
    rcases h with⟨bs,ub,q⟩|⟨v,hv,q⟩
    ·refine .inl ⟨bs,ub.aae (ki s3),λH4 B s4 fB hB=>?_⟩;have hs4:=s4 _ _ Lq
     have nB:B≠s0:=λz=>by rw[z,Lq] at fB;cases fB
     have nBD:D≠B:=λz=>by rw[<-z,NI] at fB;cases fB
     refine⟨_,rfl,s0,CS,dx,_,rfl,hs4,cS.cl,cS.nU,(by show 3<1000;decide),?_⟩;refine q _ D B (λb u e nb=>by rw[ai nb];exact s4 _ _ (s3 b u e nb)) fD0 ?_ nBD af (by rw[ai nD];exact s4 _ _ NI) (by rw[ai nB];exact hB)
     cases e:H B with
     |none=>rfl
     |some u=>rw[s3 B u e nB] at fB;cases fB
    ·exact .inr ⟨v,hv.aae (ki s3),NH s3 q⟩
end K80
namespace L2
open PySem PySem.Spec PyProof.Rows PySem.W
theorem c8:∀{as:List Addr}{us:nZ},aG (as.map V.ref) us->us=as.map Value.ref
 |[],_,r=>by
  cases r
  rfl
 |a::as,_,r=>by
  cases r with
  |cons h t =>
   rw[c8 t,show _=Value.ref a from h];rfl
def jM (CX:wC)(X:Cx)(E:St->XK):Prop:=∀(pins:List (Addr×Obj))(σ:St)(H:Hp)(s:AQ)(e:Value)(s':AQ),Inv X pins σ H s->CX X.stack H s (E σ) e s'->X.xe e s'
section
variable {X:Cx}{CX:wC}{k:Nat}{f C:Addr}{fd:xR}{ps:E4}{sp:Sp}{E:St->XK}{x:Str}{p pos:Pos}{e:Expr}{es:Aw}{t:TA}{ds:nZ}{dvs:List V}
theorem jv {pins:List (Addr×Obj)}:jM (aN X.prog X.w) (X.tr pins E) E:=qx
def AC (K:Frag):List V->Hp->VK->Prop:=λxs H Q=>∃a C dx fr c cv b,xs=[.ref a,c]/\AW c cv/\H a=some (dR a (.ref C) dx fr)/\zv K C/\kitOne K (.ref C) cv=some b/\Q (.bl b) H
theorem me {K:Frag}(hK:X.K=K):cA X (.builtin "isinstance") (AC K):=by subst hK;exact n8
end
section
variable {X:Cx}{CX:wC}{k:Nat}{f C:Addr}{fd:xR}{ps:E4}{sp:Sp}{E:XK}
theorem jA (hs:findIn X.K (.ref C) "__len__"=some (some (.ref f)))(hf:isFn X.K (.ref f)=true)(F:E6 X.prog X.w X.K X.mg X.base CX k f fd ps sp)(hr:oJ (k+1) X.A)(hb:av X.K fd ps [])(hx:cx CX X E):
 cA X (.builtin "len") (λxs H Q=>∃p dx fs,xs=[.ref p]/\H p=some (.ins C dx fs)/\sp [.ref p] H (λv H'=>∃n:Nat,v=.int n/\n<2^62/\Q (.int n) H') E):=by
 intro pins s σ H xs us Q I r h;obtain⟨p,dx,fs,rfl,ep,q⟩:=h;obtain⟨u,rfl,ru⟩:=eQ r
 cases(show u=Value.ref p from ru)
 obtain⟨mA,O,_⟩:=dO I.hok ep;obtain⟨od,J,_⟩:=O.look;refine Calls.call_function_entry kind_len plain_len entry_len (args_len1 _) ?_;unfold Builtin.«len»;refine wpAny_bind (m:=oneArg "len" _) (wpAny_pure ?_);unfold callSpecial?;refine wpAny_bind (wpAny_bind (wpAny_bind (J.type.here ((looks_findIn I.kIn hs).here ?_))));refine wpAny_holding (wpAny_bind ((bind_fn I.kIn _ (beq_iff_eq.mp hf)).here ?_));refine wpAny_bind (wpAny_mono (nX F hr hb hx I (us:=[.ref p]) (vs:=[.ref p]) (.cons ru .nil) q) (λr s1 z'=>?_) λ_ _ e=>e);obtain⟨z,H1,I1,rz,n,en,hn,q1⟩:=z';subst en;obtain⟨tk,rfl⟩:=(show ∃tk,r=Value.int n tk from rz);refine wpAny_pure ?_;refine wpAny_bind (wpAny_holding ?_);refine wpAny_pure (wpAny_bind (wpAny_letGo ?_));refine(show wpAny _ _ (if(n:Int)<0 then _ else _) _ _ _ from ?_);rw[if_neg (by omega)];refine(show wpAny _ _ (if(n:Int) ≥ 2^63 then _ else _) _ _ _ from ?_);rw[if_neg (by omega)];exact wpAny_bind (wpAny_mkInt (wpAny_pure ⟨_,rfl,.int n,H1,I1.tok _,⟨_,rfl⟩,q1⟩))
end
end L2
namespace K80
open PySem L2 PySem.W Nm Srt
abbrev CY:Stmt:=aD (aR 41) 1
abbrev zD:Stmt:=aD (aR 41) 2
abbrev Ex:Stmt:=aD (aR 41) 3
abbrev EX:Stmt:=aD (aR 41) 4
abbrev Eu:Stmt:=aD (aR 41) 5
abbrev EV:Stmt:=aD (aR 41) 6
theorem Ct:yI DB DB (aq CY):=dm (by decide +kernel)
theorem Br:yI ["self"] ["self"] (aq zD):=dm (by decide +kernel)
theorem Ej:yI ["self"] ["self"] (aq Ex):=dm (by decide +kernel)
theorem D3:yI ["self"] ["self"] (aq EX):=dm (by decide +kernel)
theorem DC:yI ["self"] ["self"] (aq Eu):=dm (by decide +kernel)
theorem Ed:yI ["self"] ["self"] (aq EV):=dm (by decide +kernel)
structure AY (CS CF:Addr)(H:Hp)(s fl:Addr)(p n:Int)(as bs:List Addr):Prop where
 ex:∃dx Fh A B,H s=some (.ins CS dx (Bd fl n A B))/\H fl=some (.ins CF Fh (cK p))/\H A=some (.lst (as.map V.ref))/\H B=some (.lst (bs.map V.ref))
 l1:as.length<=200
 l2:bs.length<=200
variable {CS CF s fl:Addr}{H H':Hp}{p n:Int}{as:List Addr}
theorem AY.same {bs:List Addr}(h:AY CS CF H s fl p n as bs)(k:ay H H'):AY CS CF H' s fl p n as bs:=by
 obtain⟨dx,Fh,A,B,h1,h2,h3,h4⟩:=h.ex;exact⟨⟨dx,Fh,A,B,k _ _ h1,k _ _ h2,k _ _ h3,k _ _ h4⟩,h.l1,h.l2⟩
variable {C dx:Addr}
theorem Cy.ty {K:Frag}{mg:wg}(c:Cy K mg C){p:Addr}{fs:List (Str×V)}(e:H p=some (.ins C dx fs)):Cw K H (.ref p) (.ref C):=.of (.ins e c.cl c.ca c.sp c.tk c.ob)
theorem Cy.is {K:Frag}{mg:wg}(c:Cy K mg C):kitOne K (.ref C) (.ref C)=some true:=by
 unfold kitOne;rw[if_pos (by simp)]
def xB (CS CF:Addr):Sp:=λvs H Q _=>∃(s fl:Addr)(p n:Int)(as bs:List Addr),vs=[.ref s]/\AY CS CF H s fl p n as bs/\∀H',ay H H'->Q (.int ((as.length+bs.length:Nat):Int)) H'
def AI (CS CF:Addr):Sp:=λvs H Q _=>∃(s fl:Addr)(p n:Int)(as bs:List Addr),vs=[.ref s]/\AY CS CF H s fl p n as bs/\Q (.ref fl) H
def Ab (CS CF:Addr):Sp:=λvs H Q _=>∃(s fl:Addr)(p n:Int)(as bs:List Addr),vs=[.ref s]/\AY CS CF H s fl p n as bs/\Q (.int n) H
def AS (CS CF:Addr):Sp:=λvs H Q _=>∃(s fl:Addr)(p n:Int)(as bs:List Addr),vs=[.ref s]/\AY CS CF H s fl p n as bs/\∀l,H l=none->Q (.ref l) (upd H l (.lst (as.map V.ref)))
def AE (CS CF:Addr):Sp:=λvs H Q _=>∃(s fl:Addr)(p n:Int)(as bs:List Addr),vs=[.ref s]/\AY CS CF H s fl p n as bs/\∀l,H l=none->Q (.ref l) (upd H l (.lst (bs.map V.ref)))
variable {P:u6}{w:World}{K:PySem.W.Frag}{mg:wg}{base:Heap}
variable {f:Addr}{fd:xR}
theorem BF {CF:Addr}(F:u3 K "field" "System.field" Ex f fd)(cS:Cy K mg CS):E6 P w K mg base (aN P w) 1 f fd ["self"] (AI CS CF):=by
 refine F.okN Ej (λvs H Q E h=>?_) (λFf A outer s H vs Q E hr h=>?_)
 ·obtain⟨s,fl,p,n,as,bs,rfl,_⟩:=h;rfl
 ·obtain⟨s,fl,p,n,as,bs,rfl,S,q⟩:=h;obtain⟨dx,Fh,A,B,h1,h2,h3,h4⟩:=S.ex;refine⟨_,(ar (az (aW (pv 0) rfl))),?_⟩;exact⟨_,rfl,s,CS,dx,_,_,rfl,h1,cS.cl,cS.nF,rfl,q⟩
theorem Cn {CF:Addr}(F:u3 K "places" "System.places" EX f fd)(cS:Cy K mg CS):E6 P w K mg base (aN P w) 1 f fd ["self"] (Ab CS CF):=by
 refine F.okN D3 (λvs H Q E h=>?_) (λFf A outer s H vs Q E hr h=>?_)
 ·obtain⟨s,fl,p,n,as,bs,rfl,_⟩:=h;rfl
 ·obtain⟨s,fl,p,n,as,bs,rfl,S,q⟩:=h;obtain⟨dx,Fh,A,B,h1,h2,h3,h4⟩:=S.ex;refine⟨_,(ar (az (aW (pv 0) rfl))),?_⟩;exact⟨_,rfl,s,CS,dx,_,_,rfl,h1,cS.cl,cS.nP,rfl,q⟩
theorem Ca {CF:Addr}(F:u3 K "noughts" "System.noughts" Eu f fd)(cS:Cy K mg CS)(Fg:mg "list"=none):E6 P w K mg base (aN P w) 1 f fd ["self"] (AS CS CF):=by
 refine F.okN DC (λvs H Q E h=>?_) (λFf A outer s H vs Q E hr h=>?_)
 ·obtain⟨s,fl,p,n,as,bs,rfl,_⟩:=h;rfl
 ·obtain⟨s,fl,p,n,as,bs,rfl,S,q⟩:=h;obtain⟨dx,Fh,A,B,h1,h2,h3,h4⟩:=S.ex;refine⟨_,(ar (az (bA ck (by rfl) Fg (by rfl) (@ah _ _ _ _ _ (aW (pv 0) rfl) ag rfl)))),?_⟩;exact⟨_,rfl,s,CS,dx,_,_,rfl,h1,cS.cl,cS.nN,rfl,A,_,rfl,.inl (aV.of h3),q⟩
theorem Dc {CF:Addr}(F:u3 K "uppers" "System.uppers" EV f fd)(cS:Cy K mg CS)(Fg:mg "list"=none):E6 P w K mg base (aN P w) 1 f fd ["self"] (AE CS CF):=by
 refine F.okN Ed (λvs H Q E h=>?_) (λFf A outer s H vs Q E hr h=>?_)
 ·obtain⟨s,fl,p,n,as,bs,rfl,_⟩:=h;rfl
 ·obtain⟨s,fl,p,n,as,bs,rfl,S,q⟩:=h;obtain⟨dx,Fh,A,B,h1,h2,h3,h4⟩:=S.ex;refine⟨_,(ar (az (bA ck (by rfl) Fg (by rfl) (@ah _ _ _ _ _ (aW (pv 0) rfl) ag rfl)))),?_⟩;exact⟨_,rfl,s,CS,dx,_,_,rfl,h1,cS.cl,cS.nU,rfl,B,_,rfl,.inl (aV.of h4),q⟩
theorem yt {CF:Addr}(F:u3 K "__len__" "System.__len__" zD f fd)(cS:Cy K mg CS)(Fj:mg "len"=none):E6 P w K mg base (aN P w) 1 f fd ["self"] (xB CS CF):=by
 refine F.okN Br (λvs H Q E h=>?_) (λFf A outer s H vs Q E hr h=>?_)
 ·obtain⟨s,fl,p,n,as,bs,rfl,_⟩:=h;rfl
 ·obtain⟨s,fl,p,n,as,bs,rfl,S,q⟩:=h;obtain⟨dx,Fh,A,B,h1,h2,h3,h4⟩:=S.ex;refine⟨_,(ar (az (aF bx (by rfl) Fj PySem.boot_len (@ah _ _ _ _ _ (@aO _ _ _ _ _ _ _ _ iY (aW (pv 0) rfl) (aW (pv 0) rfl)) ag rfl)))),?_⟩;refine⟨_,rfl,s,CS,dx,_,_,rfl,h1,cS.cl,cS.nN,rfl,_,rfl,s,CS,dx,_,_,rfl,h1,cS.cl,cS.nU,rfl,?_⟩;refine⟨A,B,_,_,rfl,rfl,h3,h4,?_⟩;refine⟨by rw[List.length_map,List.length_map,sizeLine_eq];have:=S.l1;have:=S.l2;omega,λL H' hL sH hl=>?_⟩;refine⟨L,_,rfl,.inl (aV.of hl),?_⟩;rw[List.length_append,List.length_map,List.length_map];exact q _ sH
abbrev zm:Stmt:=(aR 58)
theorem xq:yI ["_law_prime_here","_law_places","_law_noughts","_law_uppers","_law_field","_law_sums"] Bp (aq zm):=dm (by decide +kernel)
variable {u:HO}
theorem fU {o:HO}(h1:H s=none)(h2:H dx=none)(ne:dx≠s)(k:SameBut s (upd (upd H dx o) s u) H'):ay H H':=λb v e=>by
 have b1:b≠s:=au e h1;have b2:b≠dx:=au e h2;exact k b v (by rw[ai b1,ai b2];exact e) b1
theorem FP.good (h:FP p):good (.int p)=true:=by
 show jy p=true;unfold jy
 rcases h with h|h
 ·rw[h];rfl
 ·have:(DY.any λq=>q==p)=true:=by
   rw[List.any_eq_true];exact⟨p,h,by simp⟩
  rw[this];simp
def uX (H:Hp)(y:V)(ts:List Tm):Prop:=∃a zs,y=.ref a/\H a=some (.lst zs)/\bJ H zs ts
theorem uX.same {y:V}{ts:List Tm}(h:uX H y ts)(k:ay H H'):uX H' y ts:=let⟨a,zs,e,h1,h2⟩:=h;⟨a,zs,e,k _ _ h1,bJ.keep h2 (aS.of k)⟩
abbrev gW (H:Hp):List V->List (List Tm)->Prop:=Paired (uX H)
variable {Fl:List (List Tm)}
theorem gW.same {ys:List V}(h:gW H ys Fl)(k:ay H H'):gW H' ys Fl:=Paired.aa5 h λ_ _ z=>z.same k
abbrev oY (C CF:Addr)(H:Hp)(p:Int):List Addr->List (List Tm)->Prop:=Paired λa ts=>BU C CF H a p (fH ts)
theorem oY.same (h:oY C CF H p as Fl)(k:ay H H'):oY C CF H' p as Fl:=Paired.aa5 h λ_ _ z=>z.same k
abbrev Ws (p n:Int)(Fl:List (List Tm)):Prop:=∀ts∈Fl,Wi 3930 5 p n ts
theorem rq {ts:List Tm}(hp:FP p)(n0:0<=n)(W:Wi 3930 5 p n ts)(h:BU C CF H s p (fH ts)):WX C CF p n H (.ref s) true:=by
 have l:=Nat.le_trans (ia ts) W.len;have sw:SW C CF H s p (fH ts):=⟨h,hp,by omega,λt ht=>by have:=(W.tm t (fP ht)).2.2.2;omega⟩;have r:iI (fH ts)<=n:=xg n0 λt ht k hk=>((W.tm t (fP ht)).2.2.1 k hk).2;have:=WX.sum (p:=p) (n:=n) sw;rw[decide_eq_true rfl,decide_eq_true r] at this;exact this
theorem vj {L:Addr}(hp:FP p)(n0:0<=n)(hL:H L=some (.lst (as.map V.ref)))(hs:oY C CF H p as Fl)(W:Ws p n Fl)(few:Fl.length<=200):LR C CF p n H (.ref L) as:=by
 refine⟨⟨L,rfl,hL⟩,by rw[hs.length];exact few,λa ha=>?_⟩;obtain⟨i,hi⟩:=List.mem_iff_getElem?.mp ha;obtain⟨ts,et,z⟩:=bR hs hi;exact rq hp n0 (W ts (List.mem_of_getElem? et)) z
def bK (F:List Addr)(H:Hp):Hp:=λc=>if c∈F then none else H c
variable {F:List Addr}
theorem aJ :ay (bK F H) H:=λc u e=>by
 unfold bK at e
 by_cases h:c∈F
 ·rw[if_pos h] at e;cases e
 ·rw[if_neg h] at e;exact e
variable {c:Addr}
theorem fN (e:bK F H c=some u):c∉F:=λh=>by
 unfold bK at e;rw[if_pos h] at e
 cases e
theorem bZ (e:H c=some u)(n:c∉F):bK F H c=some u:=by
 unfold bK;rw[if_neg n];exact e
theorem bO (s:∀c u,H c=some u->c∉F->H' c=some u):ay (bK F H) (bK F H'):=λc u e=>bZ (s c u (aJ _ _ e) (fN e)) (fN e)
theorem aA {F:List Addr}(s:ay H H'):ay (bK F H) (bK F H'):=bO λc u e _=>s c u e
def dk (F:List Addr)(H:Hp):Prop:=∀c∈F,∃u,H c=some u/\∀xs,u≠.tup xs
theorem dk.same (L:dk F H)(s:ay H H'):dk F H':=λc hc=>let⟨u,e,n⟩:=L c hc;⟨u,s _ _ e,n⟩
theorem dk.not (L:dk F H)(h:H c=none):c∉F:=λhc=>by
 obtain⟨u,e,_⟩:=L c hc;rw[h] at e
 cases e
theorem dk.tup (L:dk F H):aS H (bK F H):=λc xs e=>bZ e λhc=>by
 obtain⟨u,e',n⟩:=L c hc;rw[e] at e'
 cases e'
 exact n _ rfl
variable {Fh:Addr}
section
variable {C CF CS CN:Addr}{H:Hp}{Q:Hp->Prop}{E:XK}{F:List Addr}
theorem sf (Lv:dk F H){l:Addr}{n:Int}{m l5:Nat}{ys:List V}{ts:List Tm}(hf:bK F H fl=some (.ins CF Fh (cK p)))(hp:FP p)(hl:H l=some (.lst ys))(ht:bJ H ys ts)(hn:n<=60)(W:Wi m l5 p n ts)(hm:m<=4000)(h5:l5<64)
 {x:Addr}(h1:H x=none)(h2:H dx=none)(ne:dx≠x)(q:∀H',ay H H'->BU C CF (bK F H') x p (fH ts)->Q H'):
 eR C CF [.ref x,.ref fl,.ref l] (upd (upd H dx (.own x)) x (.ins C dx [])) (λv H2=>v=.non/\Q H2) E:=by
 have hS:ay H (upd (upd H dx (.own x)) x (.ins C dx [])):=(ak h2).trans (ak (by rw[ai (Ne.symm ne)];exact h1));refine⟨x,dx,fl,Fh,p,.ref l,ts,rfl,af,hS _ _ (aJ _ _ hf),hp,.inr ⟨l,ys,rfl,hS _ _ hl,bJ.keep ht (aS.of hS)⟩,W.gth hm h5,W.prd hn,λH' D zs k nD hs hD hz=>⟨rfl,?_⟩⟩;have sH:=fU h1 h2 ne k;rw[W.xP] at hz;exact q H' sH ⟨dx,fl,Fh,D,zs,bZ hs (Lv.not h1),aA sH _ _ hf,bZ hD (Lv.not (none_of hS nD)),bJ.keep hz (Lv.same sH).tup⟩
theorem zA (Lv:dk F H){f m x y:V}{n:Int}{as bs:List Addr}(r:Rt C CF p n H f m x y fl as bs)(IB:fl∉F)(h1:H s=none)(h2:H dx=none)(ne:dx≠s)(q:∀H',ay H H'->AY CS CF (bK F H') s fl p n as bs->Q H'):
 qd CS C CF CN [.ref s,f,m,x,y] (upd (upd H dx (.own s)) s (.ins CS dx [])) (λv H2=>v=.non/\Q H2) E:=by
 have hS:ay H (upd (upd H dx (.own s)) s (.ins CS dx [])):=(ak h2).trans (ak (by rw[ai (Ne.symm ne)];exact h1));refine⟨s,dx,f,m,x,y,p,n,rfl,af,.inl ⟨fl,as,bs,r.aae (.of hS),λH' A B k nA nB _ hs hA hB=>⟨rfl,?_⟩⟩⟩;have sH:=fU h1 h2 ne k;obtain⟨Fh,_,hf⟩:=r.f;refine q H' sH ⟨⟨dx,Fh,A,B,bZ hs (Lv.not h1),bZ (sH _ _ hf) IB,bZ hA (Lv.not (none_of hS nA)),bZ hB (Lv.not (none_of hS nB))⟩,r.l.len,?_⟩
 rcases r.u with⟨_,e⟩|⟨u,_⟩
 ·rw[e];exact Nat.zero_le _
 ·exact u.len
theorem cE {JF:Addr}(hf:H fl=none)(hd:H Fh=none)(ne:Fh≠fl)(hp:FP p)(q:∀H',ay H H'->H' fl=some (.ins CF Fh (cK p))->Q H'):
 i7 CF JF [.ref fl,.int p] (upd (upd H Fh (.own fl)) fl (.ins CF Fh [])) (λv H2=>v=.non/\Q H2) E:=by
 refine⟨fl,Fh,.int p,"int",rfl,.int p,af,λ_=>⟨rfl,?_⟩,λg=>by rw[hp.good] at g;cases g⟩;rw[abC];exact q _ ((ak hd).trans (ak (by rw[ai (Ne.symm ne)];exact hf))) af
theorem mH (Lv:dk F H){K:PySem.W.Frag}{A:Addr}{xs:List V}{G:List V->Hp->Prop}(hA:H A=some (.lst xs))(hx:gW H xs Fl)(W:Ws p n Fl)(few:Fl.length<=200)(hp:FP p)(hn:n<=60)(hf:bK F H fl=some (.ins CF Fh (cK p)))
 (q:∀H' as,ay H H'->oY C CF (bK F H') p as Fl->G (as.map V.ref) H'):
 ∃W':Nat->Nat->List V->St->Hp->Prop,(∃m,W' 0 m [] (none :: [some (.ref fl)]) H)/\gR (y7 K A) (cc 0) Ee (zC C (eR C CF) [] (λ_ _ _=>False) (bg (cg 1) (bg (zM (tu K) (bg (cg 0) D6)) D6))) W' G:=by
 have xl:=hx.length;refine jO (a:=A) (xs:=xs) (rest:=[some (.ref fl)]) (λj us H'=>ay H H'/\∃as:List Addr,us=as.map V.ref/\oY C CF (bK F H') p as (Fl.take j)) ⟨ay.refl _,[],rfl,.nil⟩ (λj us H' hj h=>?_) (λj x us H' M hj JY h hM=>?_) (λus H' h=>?_)
 ·obtain⟨sH,as,rfl,hS⟩:=h;refine⟨?_,aV.of (sH _ _ hA)⟩;rw[List.length_map,hS.length,List.length_take];exact Nat.lt_of_le_of_lt (by omega:_<=200) (by decide)
 ·obtain⟨sH,as,rfl,hS⟩:=h;obtain⟨ts,et,z⟩:=bR hx JY;obtain⟨a,zs,rfl,ha,hz⟩:=z.same sH;have w:=W ts (List.mem_of_getElem? et);refine wq ⟨_,rfl,_,rfl,a,zs,rfl,.inl (aV.of ha),λl hl=>?_⟩;have s2:=ak (o:=.lst zs) hl;have el:upd H' l (.lst zs) l=some (.lst zs):=af;change D6 _ (upd H' l (.lst zs)) _;generalize upd H' l (.lst zs)=H2 at s2 el |-;refine λs dx h1 h2 ne=>?_;refine sf (Lv.same (sH.trans s2)) (aA (sH.trans s2) _ _ hf) hp el (bJ.keep hz (aS.of s2)) hn w (by decide) (by decide) h1 h2 ne λH3 s3 hs=>?_;refine hM _ _ ⟨sH.trans (s2.trans s3),as++[s],by rw[List.map_append];rfl,?_⟩;rw[List.take_add_one,et];exact Paired.snoc (hS.same (aA (s2.trans s3))) hs
 ·obtain⟨sH,as,rfl,hS⟩:=h;rw[xl,List.take_length] at hS;exact q H' as sH hS
end
def zy (CS C CF:Addr):Sp:=λvs H Q _=>∃(F:List Addr)(A B:Addr)(p n:Int)(xs ys:List V)(Fl Ft:List (List Tm)),vs=[.int p,.int n,.ref A,.ref B]/\dk F H/\FP p/\1<=n/\n<=60/\H A=some (.lst xs)/\gW H xs Fl/\H B=some (.lst ys)/\gW H ys Ft/\Ws p n Fl/\Ws p n Ft/\Fl.length<=200/\Ft.length<=200/\(Ft≠[]->p=0) /\
 ∀H' sy fl as bs,ay H H'->AY CS CF (bK F H') sy fl p n as bs->oY C CF (bK F H') p as Fl->oY C CF (bK F H') p bs Ft->Q (.ref sy) H'
theorem An {fi fs fy CN JF:Addr}{HG GY HY:xR}(F:u3 K "_law_system" "_law_system" zm f fd)(cF:zZ K mg CF)(cS:Em K mg C)(cY:Cy K mg CS)(Fg:mg "list"=none)
 (MF:Mk K CF fi)(FFI:E6 P w K mg base (aN P w) 2 fi HG qH (i7 CF JF))(Gu:L2.av K HG qH [])
 (MS:Mk K C fs)(Jk:E6 P w K mg base (aN P w) 6 fs GY uD (eR C CF))(Hz:L2.av K GY uD [])
 (MY:Mk K CS fy)(IC:E6 P w K mg base (aN P w) 5 fy HY AL (qd CS C CF CN))(Lr:L2.av K HY AL [.none])(GJ:L2.av K HY AL []):
 E6 P w K mg base (aN P w) 8 f fd Bp (zy CS C CF):=by
 refine F.okN xq (λvs H Q E h=>?_) (λFf A outer s H vs Q E hr h=>?_)
 ·obtain⟨F,A,B,p,n,xs,ys,Fl,Ft,rfl,_⟩:=h;rfl
 ·obtain⟨F,A0,B0,p,n,xs,ys,Fl,Ft,rfl,Lv,hp,n1,n60,hA,hx,hB,hy,W1,W2,f1,f2,u0,q⟩:=h;have Ga:oJ 7 _:=hr;have Gv:oJ 6 _:=Ga.mono (by decide);have F5:oJ 3 _:=Ga.mono (by decide);have Fp:oJ 1 _:=Ga.mono (by decide)
  refine⟨_,(aj (@aC _ _ 4 _ _ _ _ xq.nd rfl (Or.inr rfl) (bf MF FFI F5 (by rfl) cF.mgC Gu .nil ae (@ah _ _ _ _ _ (pv 0) ag rfl)) rfl (Or.inl rfl))
   (aj (fF (i:=5) (N:=["_law_terms_here","_law_field"]) (nl:=1) (js:=[4]) (osc:=aq zm) ⟨rfl,rfl,by decide +kernel,by decide +kernel,by decide +kernel,rfl,(.cons ⟨rfl,by decide +kernel⟩ .nil),by decide +kernel⟩ rfl xq.nd rfl (Or.inl rfl)
    (c6 (pv 2))
    (λCq fq sq Hq=>aI (i:=0) (by show(["_law_terms_here","_law_field"]:E4).Nodup;decide +kernel) rfl (Or.inl rfl) (Or.inr rfl))
    (λCq fq sq Hq=>cZ)
    (λCq fq sq Hq=>(bf MS Jk Ga (by rfl) cS.mgC Hz .nil ae (@ah _ _ _ _ _ (pv 1) (@ah _ _ _ _ _ (bA (mE (K:=K) rfl) (by rfl) Fg (by rfl) (@ah _ _ _ _ _ (pv 0) ag rfl)) ag rfl) rfl))) (by rfl))
   (aj (bq (@aL _ _ _ _ _ _ _ _ (kq hr) (pv 3) (@bY _ _ _ _ ag) (aB _)) (ar (az (bf (dvs:=[.non]) MY IC Gv (by rfl) cY.mgC Lr (.cons rfl .nil) ae (@ah _ _ _ _ _ (pv 4) (@ah _ _ _ _ _ (pv 1) (@ah _ _ _ _ _ (pv 5) ag rfl) rfl) rfl) (by decide) (aY rfl) (by rw[aY rfl,aY rfl];rfl)))) aM)
   (ar (az (bf MY IC Gv (by rfl) cY.mgC GJ .nil ae (@ah _ _ _ _ _ (pv 4) (@ah _ _ _ _ _ (pv 1) (@ah _ _ _ _ _ (pv 5) (@ah _ _ _ _ _ (cU (N:=["_law_terms_here","_law_field"]) (nl:=1) (js:=[4]) (osc:=aq zm) ⟨rfl,rfl,by decide +kernel,by decide +kernel,by decide +kernel,rfl,(.cons ⟨rfl,by decide +kernel⟩ .nil),by decide +kernel⟩ rfl
    (c6 (pv 3))
    (λCq fq sq Hq=>aI (i:=0) (by show(["_law_terms_here","_law_field"]:E4).Nodup;decide +kernel) rfl (Or.inl rfl) (Or.inr rfl))
    (λCq fq sq Hq=>cZ)
    (λCq fq sq Hq=>(bf MS Jk Ga (by rfl) cS.mgC Hz .nil ae (@ah _ _ _ _ _ (pv 1) (@ah _ _ _ _ _ (bA (mE (K:=K) rfl) (by rfl) Fg (by rfl) (@ah _ _ _ _ _ (pv 0) ag rfl)) ag rfl) rfl)))) ag rfl) rfl) rfl) rfl))))))),?_⟩
  refine⟨_,rfl,λfl Fh h1 h2 ne=>?_⟩;refine cE h1 h2 ne hp λH1 s1 hf=>?_;have IB:fl∉F:=Lv.not h1;have hf:=bZ hf IB;have L1:=Lv.same s1;refine⟨_,rfl,A0,rfl,⟨_,aV.of (s1 _ _ hA)⟩,?_⟩;refine mH L1 (s1 _ _ hA) (hx.same s1) W1 f1 hp n60 hf λH2 as s2 hS=>?_;intro L hL;have s3:=ak (o:=.lst (as.map V.ref)) hL;have eL:upd H2 L (.lst (as.map V.ref)) L=some (.lst (as.map V.ref)):=af;generalize upd H2 L _=H3 at s3 eL |-;have Hf:=s1.trans (s2.trans s3);have hf3:=aA (F:=F) (s2.trans s3) _ _ hf;have hS:=hS.same (aA s3);refine⟨_,rfl,Nat.zero_le _,λe he=>?_⟩;have s4:=ak (o:=.lst []) he;have ee:upd H3 e (.lst []) e=some (.lst []):=af;generalize upd H3 e _=H4 at s4 ee |-;have HZ:=Hf.trans s4;have L4:=Lv.same HZ;have hy4:=hy.same HZ;have TM:=aA (F:=F) s4 _ _ hf3;have NJ:=s4 _ _ eL;have Rm:=hS.same (aA s4)
  have n0:0<=n:=by omega
  have yl:=hy.length;refine⟨B0,e,ys,rfl,rfl,aV.of (HZ _ _ hB),aV.of ee,_,rfl,?_⟩
  by_cases z:ys=[]
  ·have zu:Ft=[]:=by
    rw[z] at yl;exact List.length_eq_zero_iff.mp yl.symm
   rw[decide_eq_true z];refine bw ⟨_,rfl,_,rfl,_,rfl,λs dx g1 g2 gn=>?_⟩;refine zA L4 (n:=n) (as:=as) (bs:=[]) ⟨⟨Fh,rfl,aJ _ _ TM⟩,rfl,n1,n60,vj hp n0 NJ (Rm.same aJ) W1 f1,.inl ⟨rfl,rfl⟩⟩ IB g1 g2 gn λH5 s5 hY=>?_;exact q H5 s fl as [] (HZ.trans s5) hY (Rm.same (aA s5)) (by rw[zu];exact .nil)
  ·rw[decide_eq_false z];refine bH ⟨_,rfl,_,rfl,_,rfl,_,rfl,B0,rfl,⟨_,aV.of (HZ _ _ hB)⟩,?_⟩;refine mH L4 (HZ _ _ hB) hy4 W2 f2 hp n60 TM λH5 bs s5 hT=>?_;intro M hM;have s6:=ak (o:=.lst (bs.map V.ref)) hM;have eM:upd H5 M (.lst (bs.map V.ref)) M=some (.lst (bs.map V.ref)):=af;change D6 _ (upd H5 M (.lst (bs.map V.ref))) _;generalize upd H5 M _=H6 at s6 eM |-;have Ik:=s5.trans s6;have p0:=u0 λz'=>z (by rw[z'] at yl;exact List.length_eq_zero_iff.mp yl);refine λs dx g1 g2 gn=>?_;refine zA (L4.same Ik) (n:=n) (as:=as) (bs:=bs) ⟨⟨Fh,rfl,Ik _ _ (aJ _ _ TM)⟩,rfl,n1,n60,vj hp n0 (Ik _ _ NJ) (Rm.same (aJ.trans Ik)) W1 f1,.inr ⟨vj hp n0 eM (hT.same (aJ.trans s6)) W2 f2,λ_=>p0⟩⟩ IB g1 g2 gn λH7 s7 hY=>?_;exact q H7 s fl as bs (HZ.trans (Ik.trans s7)) hY (Rm.same (aA (Ik.trans s7))) (hT.same (aA (s6.trans s7)))
end K80
namespace L2
open PySem PySem.Spec PyProof.Rows PySem.W
end L2
namespace PySem.F
end PySem.F
namespace L2
open PySem PySem.Spec PyProof.Rows PySem.W
end L2
namespace ZpL
open PySem PyProof.Rows
end ZpL
namespace L2
open PySem PySem.Spec PyProof.Rows PySem.W
end L2
namespace Dcb
open PySem PyProof.Rows
end Dcb
namespace L2
open PySem PySem.Spec PyProof.Rows
end L2
namespace Dcc
open PySem PySem.Calls PyProof.Rows PySem.Spec
end Dcc
namespace L2
open PySem PySem.Spec PyProof.Rows PySem.W
end L2
namespace PySem.F
end PySem.F
namespace L2
open PySem PySem.Spec PyProof.Rows PySem.W
def acv:TE:=λ_ _ _=>False
def acw:TT:=λ_ _ _=>False
section
variable {X:Cx}{pins:List (Addr×Obj)}{σ:St}{A:Around}{H:Hp}{s:AQ}{E:vy}
theorem zF {e:Expr}:PE X e acv:=λ_ _ _ _ _ _ h=>h.elim
theorem vC {e:Expr}:PT X e acw:=λ_ _ _ _ _ _ h=>h.elim
end
end L2
namespace K80
open PySem L2 PySem.W Nm Srt
abbrev EU:Stmt:=aD (aR 43) 0
abbrev Ez:Stmt:=aD (aR 43) 1
abbrev Ew:Stmt:=aD (aR 43) 2
abbrev Bj:Stmt:=aD (aR 43) 4
abbrev Cb:Stmt:=aD (aR 43) 5
theorem D5:yI we we (aq EU):=dm (by decide +kernel)
theorem DA:yI ["self"] ["self"] (aq Ez):=dm (by decide +kernel)
theorem Es:yI ["self"] ["self"] (aq Ew):=dm (by decide +kernel)
theorem tS:yI ["self","wish","upper","old","system","papers"] DF (aq Bj):=dm (by decide +kernel)
theorem yQ:yI ["self","old","number","papers"] ["self"] (aq Cb):=dm (by decide +kernel)
structure DL (K:Frag)(mg:wg)(C:Addr):Prop where
 cl:uF K C
 nS:bz K C "its_system"
 nP:bz K C "its_papers"
 nK:bz K C "put_kinds"
 mgC:mg "Bench"=some (.ref C)
def dM (sy pl pk:Addr):List (Str×V):=[("its_system",.ref sy),("its_papers",.ref pl),("put_kinds",.ref pk)]
structure um (CB:Addr)(F:List Addr)(H:Hp)(b pk sy:Addr)(kinds:List Bool):Prop where
 ex:∃dx pl,H b=some (.ins CB dx (dM sy pl pk))/\H pl=some (.lst [])/\pl≠pk/\pl∉F
 ks:H pk=some (.lst (kinds.map V.bl))
def cu (b c:Addr)(H H':Hp):Prop:=∀a u,H a=some u->a≠b->a≠c->H' a=some u
variable {b:Addr}{H H':Hp}
theorem cu.of {c:Addr}(s:ay H H'):cu b c H H':=λa u e _ _=>s a u e
theorem cu.trans {c:Addr}{H1 H2:Hp}(s:cu b c H H1)(t:cu b c H1 H2):cu b c H H2:=λa u e n m=>t a u (s a u e n m) n m
variable {CB pk sy:Addr}
theorem um.same {F:List Addr}{kinds:List Bool}(h:um CB F H b pk sy kinds)(k:ay H H'):um CB F H' b pk sy kinds:=by
 obtain⟨dx,pl,h1,h2,h3⟩:=h.ex;exact⟨⟨dx,pl,k _ _ h1,k _ _ h2,h3⟩,k _ _ h.ks⟩
theorem um.ne {F:List Addr}{kinds:List Bool}(h:um CB F H b pk sy kinds):b≠pk:=λz=>by
 obtain⟨dx,pl,h1,_⟩:=h.ex;rw[z,h.ks] at h1
 cases h1
def Am (CB:Addr):Sp:=λvs H Q _=>∃(F:List Addr)(b dx sy:Addr),vs=[.ref b,.ref sy]/\H b=some (.ins CB dx [])/\dk F H /\
 ∀H' pk,SameBut b H H'->H pk=none->um CB F H' b pk sy []->Q .non H'
def Ck (CB:Addr):Sp:=λvs H Q _=>∃(F:List Addr)(b pk sy:Addr)(kinds:List Bool),vs=[.ref b]/\um CB F H b pk sy kinds/\Q (.ref sy) H
def C9 (CB:Addr):Sp:=λvs H Q _=>∃(F:List Addr)(b pk sy:Addr)(kinds:List Bool),vs=[.ref b]/\um CB F H b pk sy kinds/\Q (.int 0) H
inductive PW (C CF:Addr)(p n:Int)(H:Hp)(as bs:List Addr)(x:V):Bool->String->V->Prop where
 |n0:as.length<200->WX C CF p n H x false->PW C CF p n H as bs x false "noughts" (.int as.length)
 |n1:as.length=200->PW C CF p n H as bs x false "noughts" .non
 |u0:p=0->bs.length<200->WX C CF p n H x false->PW C CF p n H as bs x true "uppers" (.int bs.length)
 |u1:p≠0->PW C CF p n H as bs x true "uppers" .non
 |u2:p=0->bs.length=200->PW C CF p n H as bs x true "uppers" .non
structure Sy (CS C CF:Addr)(H:Hp)(sy fl:Addr)(p n:Int)(as bs:List Addr):Prop where
 r:AY CS CF H sy fl p n as bs
 n1:1<=n
 n60:n<=60
 wa:∀a∈as,WX C CF p n H (.ref a) true
 wb:∀a∈bs,WX C CF p n H (.ref a) true
 u0:bs≠[]->p=0
variable {CS C CF fl:Addr}{p:Int}
theorem Sy.same {n:Int}{as bs:List Addr}(h:Sy CS C CF H sy fl p n as bs)(k:ay H H'):Sy CS C CF H' sy fl p n as bs:=⟨h.r.same k,h.n1,h.n60,λa ha=>(h.wa a ha).aae (.of k),λa ha=>(h.wb a ha).aae (.of k),h.u0⟩
def t6 (CB CS C CF CN:Addr):Sp:=λvs H Q E=>∃(F:List Addr)(b pk sy fl:Addr)(p n:Int)(as bs:List Addr)(kinds:List Bool)(x:V)(up:Bool),vs=[.ref b,x,.bl up]/\dk F H/\b∈F/\pk∈F/\um CB F H b pk sy kinds/\Sy CS C CF (bK F H) sy fl p n as bs/\kinds.length<1000 /\
 ((∃a,x=.ref a/\WX C CF p n (bK F H) x true/\(up=true->p=0/\bs.length<200)/\(up=false->as.length<200) /\
    ∀H' Kj,cu b pk H H'->um CB F H' b pk Kj (kinds++[up])->Sy CS C CF (bK F H') Kj fl p n (if up=true then as else as++[a]) (if up=true then bs++[a] else bs)->Q .non H') \/
  ∃part v,PW C CF p n H as bs x up part v/\∀d H',ay H H'->H' d=some (cL d [("part",.str part),("number",v)])->E (.ref CN) (some d) H')
def zY (CB CS C CF CW:Addr):Sp:=λvs H Q E=>∃(F:List Addr)(b pk sy fl:Addr)(p n:Int)(as bs:List Addr)(kinds:List Bool),vs=[.ref b]/\dk F H/\b∈F/\pk∈F/\um CB F H b pk sy kinds/\Sy CS C CF (bK F H) sy fl p n as bs /\
 ((kinds=[]/\E (.ref CW) none H) \/
  ∃Fv up,kinds=Fv++[up]/\(up=true->bs≠[])/\(up=false->as≠[]) /\
   ∀H' Kj,cu b pk H H'->um CB F H' b pk Kj Fv->Sy CS C CF (bK F H') Kj fl p n (if up=true then as else as.dropLast) (if up=true then bs.dropLast else bs)->Q .non H')
variable {P:u6}{w:World}{K:PySem.W.Frag}{mg:wg}{base:Heap}
variable {f:Addr}{fd:xR}
theorem BX (F:u3 K "__init__" "Bench.__init__" EU f fd)(cB:DL K mg CB):E6 P w K mg base (aN P w) 1 f fd we (Am CB):=by
 refine F.okN D5 (λvs H Q E h=>?_) (λFf A outer s H vs Q E hr h=>?_)
 ·obtain⟨Fz,b,dx,sy,rfl,_⟩:=h;rfl
 ·obtain⟨Fz,b,dx,sy,rfl,hb,Lv,q⟩:=h
  have Ye:∀{G:Hp}{a:Addr},SameBut b H G->G a=none->a≠b->H a=none:=λsG h nab=>by
   cases e:H _ with
   |none=>rfl
   |some u=>rw[sG _ _ e nab] at h;cases h
  refine⟨_,(aj (cM (pv 0) (pv 1) rfl)
   (aj (cM (pv 0) (@bY _ _ _ _ ag) rfl)
   (ar (cM (pv 0) (@bY _ _ _ _ ag) rfl)))),?_⟩
  refine⟨_,rfl,_,rfl,b,CB,dx,_,rfl,hb,cB.cl,cB.nS,by decide,?_⟩;have Gy:SameBut b H (upd H b (.ins CB dx (bt "its_system" (.ref sy) []))):=SameBut.upd;have e1:upd H b (.ins CB dx (bt "its_system" (.ref sy) [])) b=some (.ins CB dx [("its_system",.ref sy)]):=af;generalize upd H b _=H1 at Gy e1 |-;refine⟨Nat.zero_le _,λl hl=>?_⟩;have s2:=ak (o:=.lst []) hl;have el:upd H1 l (.lst []) l=some (.lst []):=af;have e2:=s2 _ _ e1;have nl:l≠b:=(au e1 hl).symm;have nlF:l∉Fz:=Lv.not (Ye Gy hl nl);have FQ:=Gy.trans (SameBut.of s2);generalize upd H1 l _=H2 at FQ e2 el |-;refine⟨_,rfl,b,CB,dx,_,rfl,e2,cB.cl,cB.nP,(by show 1<1000;decide),?_⟩;have F4:SameBut b H2 (upd H2 b (.ins CB dx (bt "its_papers" (.ref l) [("its_system",.ref sy)]))):=SameBut.upd;have e3:upd H2 b (.ins CB dx (bt "its_papers" (.ref l) [("its_system",.ref sy)])) b=some (.ins CB dx [("its_system",.ref sy),("its_papers",.ref l)]):=af;have el:=F4 _ _ el nl;have F4:=FQ.trans F4;generalize upd H2 b _=H3 at F4 e3 el |-;refine⟨Nat.zero_le _,λk hk=>?_⟩;have s4:=ak (o:=.lst []) hk;have ek:upd H3 k (.lst []) k=some (.lst []):=af;have nk:k≠b:=(au e3 hk).symm;have fk:=Ye F4 hk nk;have nlk:l≠k:=au el hk;have e4:=s4 _ _ e3;have el:=s4 _ _ el;have FN:=F4.trans (SameBut.of s4);generalize upd H3 k _=H4 at FN e4 el ek |-;refine⟨_,rfl,b,CB,dx,_,rfl,e4,cB.cl,cB.nK,(by show 2<1000;decide),?_⟩;exact q _ k (FN.trans SameBut.upd) fk ⟨⟨dx,l,af,by rw[ai nl];exact el,nlk,nlF⟩,by rw[ai nk];exact ek⟩
theorem BV (F:u3 K "system" "Bench.system" Ez f fd)(cB:DL K mg CB):E6 P w K mg base (aN P w) 1 f fd ["self"] (Ck CB):=by
 refine F.okN DA (λvs H Q E h=>?_) (λFf A outer s H vs Q E hr h=>?_)
 ·obtain⟨Fz,b,pk,sy,kinds,rfl,_⟩:=h;rfl
 ·obtain⟨Fz,b,pk,sy,kinds,rfl,B,q⟩:=h;obtain⟨dx,pl,h1,h2,_⟩:=B.ex;exact⟨_,(ar (az (aW (pv 0) rfl))),_,rfl,b,CB,dx,_,_,rfl,h1,cB.cl,cB.nS,rfl,q⟩
theorem CI (F:u3 K "kept" "Bench.kept" Ew f fd)(cB:DL K mg CB)(Fj:mg "len"=none):E6 P w K mg base (aN P w) 1 f fd ["self"] (C9 CB):=by
 refine F.okN Es (λvs H Q E h=>?_) (λFf A outer s H vs Q E hr h=>?_)
 ·obtain⟨Fz,b,pk,sy,kinds,rfl,_⟩:=h;rfl
 ·obtain⟨Fz,b,pk,sy,kinds,rfl,B,q⟩:=h;obtain⟨dx,pl,h1,h2,_⟩:=B.ex;exact⟨_,(ar (az (aF bx (by rfl) Fj PySem.boot_len (@ah _ _ _ _ _ (aW (pv 0) rfl) ag rfl)))),_,rfl,b,CB,dx,_,_,rfl,h1,cB.cl,cB.nP,rfl,pl,_,rfl,.inl (aV.of h2),q⟩
theorem jL {a b:TS}{D:Ends}{σ:St}(R:St->Hp->Prop)(h:∀D':Ends,(∀σ' H',R σ' H'->D'.nx σ' H')->a D' σ H)(fin:∀σ' H',R σ' H'->b D σ' H'):vR a b D σ H:=h {D with nx:=b D} fin
theorem gz {a:Addr}{tt:TT}{te:TE}{rest:St}{F:List V->Hp->Prop}(ha:aV K H a [])(q:F [] H):
 ∃W:Nat->Nat->List V->St->Hp->Prop,(∃m,W 0 m [] (none::rest) H)/\gR (y7 K a) (cc 0) tt te W F:=by
 refine jO (a:=a) (xs:=[]) (rest:=rest) (λj us H'=>H'=H/\us=[]) ⟨rfl,rfl⟩ (λj us H' hj h=>?_) (λj x us H' M hj hx h hM=>?_) (λus H' h=>?_)
 ·obtain⟨rfl,rfl⟩:=h;exact⟨by decide,ha⟩
 ·cases hx
 ·obtain⟨rfl,rfl⟩:=h;exact q
variable {CN:Addr}
theorem vF {Q:VK}{E:XK}{f m x y v:V}{part:String}{p n:Int}(bad:yE C CF p n H f m x y part v){s dx:Addr}(h1:H s=none)(h2:H dx=none)(ne:dx≠s)(q:∀d H',ay H H'->H' d=some (cL d [("part",.str part),("number",v)])->E (.ref CN) (some d) H'):
 qd CS C CF CN [.ref s,f,m,x,y] (upd (upd H dx (.own s)) s (.ins CS dx [])) Q E:=by
 have hS:ay H (upd (upd H dx (.own s)) s (.ins CS dx [])):=(ak h2).trans (ak (by rw[ai (Ne.symm ne)];exact h1));exact⟨s,dx,f,m,x,y,p,n,rfl,af,.inr ⟨part,v,bad.aae (.of hS),λd H' k hd=>q d H' (fU h1 h2 ne k) hd⟩⟩
theorem Cf {fy g1 g2 g3 g4:Addr}{HY NK NL NM NN:xR}{T:Addr}(F:DJ K "put" "Bench.put" Bj f fd T)(cB:DL K mg CB)(cY:Cy K mg CS)(GK:mg "bool"=none)
 (MY:Mk K CS fy)(IC:E6 P w K mg base (aN P w) 5 fy HY AL (qd CS C CF CN))(GJ:L2.av K HY AL [])
 (NO:E6 P w K mg base (aN P w) 1 g1 NK ["self"] (AI CS CF))(NP:L2.av K NK ["self"] [])(NQ:Meth K CS "field" g1)
 (NR:E6 P w K mg base (aN P w) 1 g2 NL ["self"] (Ab CS CF))(NS:L2.av K NL ["self"] [])(NT:Meth K CS "places" g2)
 (NU:E6 P w K mg base (aN P w) 1 g3 NM ["self"] (AS CS CF))(NV:L2.av K NM ["self"] [])(NW:Meth K CS "noughts" g3)
 (Mw:E6 P w K mg base (aN P w) 1 g4 NN ["self"] (AE CS CF))(My:L2.av K NN ["self"] [])(Mz:Meth K CS "uppers" g4):
 E6 P w K mg base (aN P w) 7 f fd DF (t6 CB CS C CF CN):=by
 refine F.okE tS (λvs H Q E h=>?_) (λFf A outer s H vs Q E hr h=>?_)
 ·obtain⟨F,b,pk,sy,fl,p,n,as,bs,kinds,x,up,rfl,_⟩:=h;rfl
 ·obtain⟨Fz,b,pk,sy,fl,p,n,as,bs,kinds,x,up,rfl,Lv,bF,kF,Bn,SF,kl,h⟩:=h;have S:=SF.same aJ;obtain⟨_,_,_,_,_,NX,_⟩:=SF.r.ex;have IB:=fN NX;clear NX;have Gv:oJ 6 _:=hr;have Fp:oJ 1 _:=Gv.mono (by decide)
  refine⟨_,(aj (@aC _ _ 3 _ _ _ _ tS.nd rfl (Or.inr rfl) (aW (pv 0) rfl) rfl (Or.inl rfl))
   (aj (bq (cz (pv 2)) (aj (@aC _ _ 4 _ _ _ _ tS.nd rfl (Or.inr rfl) (bf MY IC Gv (by rfl) cY.mgC GJ .nil c9 (@ah _ _ _ _ _ (aX (pv 3) cY.cl NQ NO Fp NP .nil ae) (@ah _ _ _ _ _ (aX (pv 3) cY.cl NT NR Fp NS .nil ae) (@ah _ _ _ _ _ (aX (pv 3) cY.cl NW NU Fp NV .nil ae) (@ah _ _ _ _ _ (@aO _ _ _ _ _ _ _ _ iY (aX (pv 3) cY.cl Mz Mw Fp My .nil ae) (@bY _ _ _ _ (@ah _ _ _ _ _ (pv 1) ag rfl))) ag rfl) rfl) rfl) rfl)) rfl (Or.inl rfl))
   (ar (@aC _ _ 5 _ _ _ _ tS.nd rfl (Or.inl rfl) (aW (pv 0) rfl) rfl (Or.inl rfl)))) (aj (@aC _ _ 4 _ _ _ _ tS.nd rfl (Or.inr rfl) (bf MY IC Gv (by rfl) cY.mgC GJ .nil c9 (@ah _ _ _ _ _ (aX (pv 3) cY.cl NQ NO Fp NP .nil ae) (@ah _ _ _ _ _ (aX (pv 3) cY.cl NT NR Fp NS .nil ae) (@ah _ _ _ _ _ (@aO _ _ _ _ _ _ _ _ iY (aX (pv 3) cY.cl NW NU Fp NV .nil ae) (@bY _ _ _ _ (@ah _ _ _ _ _ (pv 1) ag rfl))) (@ah _ _ _ _ _ (aX (pv 3) cY.cl Mz Mw Fp My .nil ae) ag rfl) rfl) rfl) rfl)) rfl (Or.inl rfl))
   (ar (fF (i:=5) (N:=["kept","old"]) (nl:=1) (js:=[3]) (osc:=aq Bj) ⟨rfl,rfl,by decide +kernel,by decide +kernel,by decide +kernel,rfl,(.cons ⟨rfl,by decide +kernel⟩ .nil),by decide +kernel⟩ rfl tS.nd rfl (Or.inl rfl)
    (c6 (aW (pv 0) rfl))
    (λCq fq sq Hq=>aI (i:=0) (by show(["kept","old"]:E4).Nodup;decide +kernel) rfl (Or.inl rfl) (Or.inr rfl))
    (λCq fq sq Hq=>cZ)
    (λCq fq sq Hq=>zF) (by rfl)))))
   (aj (cM (pv 0) (cU (N:=["kept","system"]) (nl:=1) (js:=[4]) (osc:=aq Bj) ⟨rfl,rfl,by decide +kernel,by decide +kernel,by decide +kernel,rfl,(.cons ⟨rfl,by decide +kernel⟩ .nil),by decide +kernel⟩ rfl
    (c6 (pv 5))
    (λCq fq sq Hq=>aI (i:=0) (by show(["kept","system"]:E4).Nodup;decide +kernel) rfl (Or.inl rfl) (Or.inr rfl))
    (λCq fq sq Hq=>(eY vC))
    (λCq fq sq Hq=>(pv 0))) rfl)
   (aj (cM (pv 0) (pv 4) rfl)
   (ar (fA (rW PySem.F.plainAttrs_list PySem.F.slot_list_append PySem.F.type_list_append gZ (aW (pv 0) rfl) (@ah _ _ _ _ _ (bA abW (by rfl) GK (by rfl) (@ah _ _ _ _ _ (pv 2) ag rfl)) ag rfl)))))))),?_⟩
  obtain⟨dx,pl,hb,FZ,Hg,_⟩:=Bn.ex;obtain⟨Gz,Fh,A1,B1,hY,hf,hA,hB⟩:=S.r.ex;refine⟨_,rfl,b,CB,dx,_,_,rfl,hb,cB.cl,cB.nS,rfl,?_⟩;have wl:=S.r.l1;have TN:=S.r.l2;dsimp only[cc]
  refine jL (λσ' H'=>∃FK Rn,σ'=[some (.ref b),some x,some (.bl up),some (.ref sy),some (.ref FK),some (.ref Rn)]/\ay H H'/\H' Rn=some (.lst []) /\
   ∃a,x=.ref a/\Sy CS C CF (bK Fz H') FK fl p n (if up=true then as else as++[a]) (if up=true then bs++[a] else bs)/\∀H' Kj,cu b pk H H'->um CB Fz H' b pk Kj (kinds++[up])->Sy CS C CF (bK Fz H') Kj fl p n (if up=true then as else as++[a]) (if up=true then bs++[a] else bs)->Q .non H') (λD' hD=>?_) (λσ' H' hR=>?_)
  ·cases up with
   |true =>
    refine⟨_,rfl,_,rfl,bw ?_⟩;refine⟨_,rfl,sy,Gz,_,rfl,hY,rfl,sy,fl,p,n,as,bs,rfl,S.r,_,rfl,sy,Gz,_,rfl,hY,rfl,sy,fl,p,n,as,bs,rfl,S.r,_,rfl,sy,Gz,_,rfl,hY,rfl,sy,fl,p,n,as,bs,rfl,S.r,λN hN=>?_⟩;have s1:=ak (o:=.lst (as.map V.ref)) hN;have eN:upd H N (.lst (as.map V.ref)) N=some (.lst (as.map V.ref)):=af;change bg _ _ _ (upd H N (.lst (as.map V.ref))) _;generalize upd H N _=H1 at s1 eN |-;refine⟨_,rfl,sy,Gz,_,rfl,s1 _ _ hY,rfl,sy,fl,p,n,as,bs,rfl,S.r.same s1,λU hU=>?_⟩;have s2:=ak (o:=.lst (bs.map V.ref)) hU;have eU:upd H1 U (.lst (bs.map V.ref)) U=some (.lst (bs.map V.ref)):=af;generalize upd H1 U _=H2 at s2 eU |-;refine⟨_,rfl,yv,λX hX=>?_⟩;have s3:=ak (o:=.lst [x]) hX;have eX:upd H2 X (.lst [x]) X=some (.lst [x]):=af;generalize upd H2 X _=H3 at s3 eX |-;refine⟨U,X,_,_,rfl,rfl,s3 _ _ eU,eX,?_,λL H4 hL s4 eL=>?_⟩
    ·rw[List.length_map];exact Nat.le_trans (by show bs.length+1<=201;omega) (by decide)
    have Gw:=s1.trans (s2.trans (s3.trans s4));have Yg:=(s2.trans (s3.trans s4)) _ _ eN;have S4:=S.same Gw;refine λs NY q1 q2 ne=>?_
    rcases h with⟨a,rfl,wx,hu,_,q⟩|⟨part,v,bad,q⟩
    ·obtain⟨p0,l2⟩:=hu rfl;have TQ:=wx.aae (.of (aA Gw));have wx:=wx.aae (.of aJ);have HI:=SF.same (aA Gw)
     have TR:H4 L=some (.lst ((bs++[a]).map V.ref)):=by rw[List.map_append];exact eL
     have wb4:∀c∈bs++[a],WX C CF p n H4 (.ref c) true:=λc hc=>by
      rcases List.mem_append.mp hc with h|h
      ·exact S4.wb c h
      ·rw[List.mem_singleton.mp h];exact wx.aae (.of Gw)
     refine zA (Lv.same Gw) (n:=n) (as:=as) (bs:=bs++[a]) ⟨⟨Fh,rfl,Gw _ _ hf⟩,rfl,S.n1,S.n60,⟨⟨N,rfl,Yg⟩,wl,S4.wa⟩,.inr ⟨⟨⟨L,rfl,TR⟩,by rw[List.length_append];show bs.length+1<=200;omega,wb4⟩,λ_=>p0⟩⟩ IB q1 q2 ne λH5 s5 hY5=>?_
     have wbF:∀c∈bs++[a],WX C CF p n (bK Fz H5) (.ref c) true:=λc hc=>by
      rcases List.mem_append.mp hc with h|h
      ·exact(HI.wb c h).aae (.of (aA s5))
      ·rw[List.mem_singleton.mp h];exact TQ.aae (.of (aA s5))
     refine⟨_,rfl,b,CB,dx,_,_,rfl,s5 _ _ (Gw _ _ hb),cB.cl,cB.nP,rfl,hD _ _ ⟨s,pl,rfl,Gw.trans s5,s5 _ _ (Gw _ _ FZ),a,rfl,⟨hY5,S.n1,S.n60,(HI.same (aA s5)).wa,wbF,λ_=>p0⟩,q⟩⟩
    ·have Yh:bs.map V.ref++[x]≠[]:=by simp
     refine vF (p:=p) (n:=n) ?_ q1 q2 ne λd H' s' hd=>q d H' (Gw.trans s') hd;have TU:LR C CF p n H4 (.ref N) as:=⟨⟨N,rfl,Yg⟩,wl,S4.wa⟩
     cases bad with
     |u0 p0 l2 wx =>
      refine .u (Gw _ _ hf) S.n1 S.n60 TU (.inr ⟨λz=>(nomatch z),?_,λ_ _ _ _ _=>p0⟩);refine .at (k:=bs.length) eL (by rw[List.length_append,List.length_map];show bs.length+1<=200;omega) (λi y hi hy=>?_) (y:=x) ?_ (wx.aae (.of Gw))
      ·rw[List.getElem?_append_left (by rw[List.length_map];exact hi),List.getElem?_map] at hy;obtain⟨c,ec,rfl⟩:=Option.map_eq_some_iff.mp hy;exact S4.wb c (List.mem_of_getElem? ec)
      ·rw[List.getElem?_append_right (by rw[List.length_map];exact Nat.le_refl _)];simp
     |u1 p1=>exact .u (Gw _ _ hf) S.n1 S.n60 TU (.inl ⟨L,_,rfl,eL,Yh,p1,rfl⟩)
     |u2 p0 l2=>exact .u (Gw _ _ hf) S.n1 S.n60 TU (.inr ⟨λz=>(nomatch z),.long eL (by rw[List.length_append,List.length_map];show 200<bs.length+1;omega),λ_ _ _ _ _=>p0⟩)
   |false =>
    refine⟨_,rfl,_,rfl,bH ?_⟩;refine⟨_,rfl,sy,Gz,_,rfl,hY,rfl,sy,fl,p,n,as,bs,rfl,S.r,_,rfl,sy,Gz,_,rfl,hY,rfl,sy,fl,p,n,as,bs,rfl,S.r,_,rfl,sy,Gz,_,rfl,hY,rfl,sy,fl,p,n,as,bs,rfl,S.r,λN hN=>?_⟩;have s1:=ak (o:=.lst (as.map V.ref)) hN;have eN:upd H N (.lst (as.map V.ref)) N=some (.lst (as.map V.ref)):=af;generalize upd H N _=H1 at s1 eN |-;refine⟨_,rfl,yv,λX hX=>?_⟩;have s3:=ak (o:=.lst [x]) hX;have eX:upd H1 X (.lst [x]) X=some (.lst [x]):=af;generalize upd H1 X _=H3 at s3 eX |-;refine⟨N,X,_,_,rfl,rfl,s3 _ _ eN,eX,?_,λL H4 hL s4 eL=>?_⟩
    ·rw[List.length_map];exact Nat.le_trans (by show as.length+1<=201;omega) (by decide)
    have HZ:=s1.trans (s3.trans s4);refine⟨_,rfl,sy,Gz,_,rfl,HZ _ _ hY,rfl,sy,fl,p,n,as,bs,rfl,S.r.same HZ,λU hU=>?_⟩;have s5:=ak (o:=.lst (bs.map V.ref)) hU;have eU:upd H4 U (.lst (bs.map V.ref)) U=some (.lst (bs.map V.ref)):=af;change D6 _ (upd H4 U (.lst (bs.map V.ref))) _;generalize upd H4 U _=H5 at s5 eU |-;have ID:=HZ.trans s5;have eL:=s5 _ _ eL;have S5:=S.same ID;refine λs NY q1 q2 ne=>?_
    rcases h with⟨a,rfl,wx,_,hu,q⟩|⟨part,v,bad,q⟩
    ·have l2:=hu rfl;have TQ:=wx.aae (.of (aA ID));have wx:=wx.aae (.of aJ);have Yi:=SF.same (aA ID)
     have TR:H5 L=some (.lst ((as++[a]).map V.ref)):=by rw[List.map_append];exact eL
     have wa5:∀c∈as++[a],WX C CF p n H5 (.ref c) true:=λc hc=>by
      rcases List.mem_append.mp hc with h|h
      ·exact S5.wa c h
      ·rw[List.mem_singleton.mp h];exact wx.aae (.of ID)
     refine zA (Lv.same ID) (n:=n) (as:=as++[a]) (bs:=bs) ⟨⟨Fh,rfl,ID _ _ hf⟩,rfl,S.n1,S.n60,⟨⟨L,rfl,TR⟩,by rw[List.length_append];show as.length+1<=200;omega,wa5⟩,.inr ⟨⟨⟨U,rfl,eU⟩,TN,S5.wb⟩,S.u0⟩⟩ IB q1 q2 ne λH6 s6 hY6=>?_;have Ro:=ID.trans s6;refine⟨_,rfl,b,CB,dx,_,_,rfl,Ro _ _ hb,cB.cl,cB.nP,rfl,pl,rfl,⟨_,aV.of (Ro _ _ FZ)⟩,gz (aV.of (Ro _ _ FZ)) λM hM=>?_⟩;have s7:=ak (o:=.lst []) hM;have TV:=aA (F:=Fz) (s6.trans s7)
     have waF:∀c∈as++[a],WX C CF p n (bK Fz (upd H6 M (.lst []))) (.ref c) true:=λc hc=>by
      rcases List.mem_append.mp hc with h|h
      ·exact(Yi.wa c h).aae (.of TV)
      ·rw[List.mem_singleton.mp h];exact TQ.aae (.of TV)
     exact hD _ _ ⟨s,M,rfl,Ro.trans s7,af,a,rfl,⟨hY6.same (aA s7),S.n1,S.n60,waF,(Yi.same TV).wb,S.u0⟩,q⟩
    ·have Yh:as.map V.ref++[x]≠[]:=by simp
     refine vF (p:=p) (n:=n) ?_ q1 q2 ne λd H' s' hd=>q d H' (ID.trans s') hd
     cases bad with
     |n0 l2 wx =>
      refine .l (ID _ _ hf) S.n1 S.n60 (.at (k:=as.length) eL (by rw[List.length_append,List.length_map];show as.length+1<=200;omega) (λi y hi hy=>?_) (y:=x) ?_ (wx.aae (.of ID)))
      ·rw[List.getElem?_append_left (by rw[List.length_map];exact hi),List.getElem?_map] at hy;obtain⟨c,ec,rfl⟩:=Option.map_eq_some_iff.mp hy;exact S5.wa c (List.mem_of_getElem? ec)
      ·rw[List.getElem?_append_right (by rw[List.length_map];exact Nat.le_refl _)];simp
     |n1 l2=>exact .l (ID _ _ hf) S.n1 S.n60 (.long eL (by rw[List.length_append,List.length_map];show 200<as.length+1;omega))
  ·obtain⟨FK,Rn,rfl,s1,NZ,a,rfl,S2,q⟩:=hR;refine⟨_,rfl,Rn,rfl,⟨_,aV.of NZ⟩,gz (aV.of NZ) λM hM=>?_⟩;have s2:=ak (o:=.lst []) hM;have eM:upd H' M (.lst []) M=some (.lst []):=af;have Kk:=(s1.trans s2) _ _ hb;have Yj:=(s1.trans s2) _ _ Bn.ks;have S3:=S2.same (aA s2);have JG:M≠b:=(au (s1 _ _ hb) hM).symm;have Jl:M≠pk:=(au (s1 _ _ Bn.ks) hM).symm;have Ls:M∉Fz:=(Lv.same s1).not hM;have Yk:=s1.trans s2;have HJ:=Bn.ne;generalize upd H' M _=H2 at eM Kk Yj S3 Yk |-;refine⟨_,rfl,b,CB,dx,_,rfl,Kk,cB.cl,cB.nP,(by show 3<1000;decide),?_⟩;refine⟨_,rfl,_,rfl,b,CB,dx,_,rfl,af,cB.cl,cB.nS,(by show 3<1000;decide),?_⟩;have e3:upd (upd H2 b (.ins CB dx (bt "its_papers" (.ref M) (dM sy pl pk)))) b (.ins CB dx (bt "its_system" (.ref FK) (bt "its_papers" (.ref M) (dM sy pl pk)))) b=some (.ins CB dx (dM FK M pk)):=af
   have F4:cu b pk H2 (upd (upd H2 b (.ins CB dx (bt "its_papers" (.ref M) (dM sy pl pk)))) b (.ins CB dx (bt "its_system" (.ref FK) (bt "its_papers" (.ref M) (dM sy pl pk))))):=λc u e n1 _=>by rw[ai n1,ai n1];exact e
   have Lu:upd (upd H2 b (.ins CB dx (bt "its_papers" (.ref M) (dM sy pl pk)))) b (.ins CB dx (bt "its_system" (.ref FK) (bt "its_papers" (.ref M) (dM sy pl pk)))) pk=some (.lst (kinds.map V.bl)):=by rw[ai HJ.symm,ai HJ.symm];exact Yj
   generalize upd (upd H2 b _) b _=H3 at e3 F4 Lu |-;refine⟨_,rfl,b,CB,dx,_,_,rfl,e3,cB.cl,cB.nK,rfl,.inl ⟨rfl,_,aV.of Lu⟩,_,rfl,.inr ⟨_,rfl,pk,_,_,rfl,rfl,Lu,?_,?_⟩⟩
   ·rw[List.length_map];exact Nat.lt_of_lt_of_le kl (by decide)
   have FN:cu b pk H3 (upd H3 pk (.lst (kinds.map V.bl++[.bl up]))):=λc u e _ n2=>by rw[ai n2];exact e
   have N0:=F4.trans FN;refine q _ FK ((cu.of Yk).trans N0) ⟨⟨dx,M,by rw[ai HJ];exact e3,N0 _ _ eM JG Jl,Jl,Ls⟩,by rw[af,List.map_append];rfl⟩ (S3.same (bO λc u e nc=>N0 c u e (λz=>nc (z▸bF)) λz=>nc (z▸kF)))
theorem pE (xs:List V):jm xs none (some (-1))=xs.dropLast:=by
 unfold jm;have e1:HT.dn xs.length 0 none=0:=rfl
 have e2:HT.dn xs.length xs.length (some (-1))=xs.length-1:=by
  show(if(-1:Int)<0 then((-1:Int)+(xs.length:Int)).toNat else min (-1:Int).toNat xs.length)=xs.length-1;rw[if_pos (by decide)];omega
 rw[e1,e2,List.drop_zero,Nat.sub_zero,List.dropLast_eq_take]
theorem oQ {M s dx:Addr}{n:Int}{as bs:List Addr}{Fv:List Bool}{Fz:List Addr}{H4 H8:Hp}{Q:Hp->Prop}(cB:DL K mg CB)(bF:b∈Fz)(kF:pk∈Fz)(Gw:cu b pk H H4)(e:H8 b=some (.ins CB dx (dM sy M pk)))(ek:H8 pk=some (.lst (Fv.map V.bl)))(eM:H8 M=some (.lst []))
 (HJ:b≠pk)(JG:M≠b)(Jl:M≠pk)(Ls:M∉Fz)(Ia:ay H4 H8)(S:Sy CS C CF (bK Fz H8) s fl p n as bs)(q:∀H',cu b pk H H'->um CB Fz H' b pk s Fv->Sy CS C CF (bK Fz H') s fl p n as bs->Q H'):
 ∃a C dx fs,V.ref b=V.ref a/\H8 a=some (.ins C dx fs)/\uF K C/\bz K C "its_system"/\fs.length<1000/\Q (upd H8 a (.ins C dx (bt "its_system" (.ref s) fs))):=by
 refine⟨b,CB,dx,_,rfl,e,cB.cl,cB.nS,(by show 3<1000;decide),?_⟩
 have sb:cu b pk H8 (upd H8 b (.ins CB dx (bt "its_system" (.ref s) (dM sy M pk)))):=λc u e n1 _=>by rw[ai n1];exact e
 exact q _ (Gw.trans ((cu.of Ia).trans sb)) ⟨⟨dx,M,af,by rw[ai JG];exact eM,Jl,Ls⟩,by rw[ai HJ.symm];exact ek⟩ (S.same (bO λc u e nc=>sb c u e (λz=>nc (z▸bF)) λz=>nc (z▸kF)))
theorem Dm {fy g1 g2 g3 g4 CW:Addr}{HY NK NL NM NN:xR}(F:u3 K "back" "Bench.back" Cb f fd)(cB:DL K mg CB)(cY:Cy K mg CS)(Fj:mg "len"=none)
 (mW:mg "NoWish"=some (.ref CW))(qW:tV K CW BW w9=true)
 (MY:Mk K CS fy)(IC:E6 P w K mg base (aN P w) 5 fy HY AL (qd CS C CF CN))(GJ:L2.av K HY AL [])
 (NO:E6 P w K mg base (aN P w) 1 g1 NK ["self"] (AI CS CF))(NP:L2.av K NK ["self"] [])(NQ:Meth K CS "field" g1)
 (NR:E6 P w K mg base (aN P w) 1 g2 NL ["self"] (Ab CS CF))(NS:L2.av K NL ["self"] [])(NT:Meth K CS "places" g2)
 (NU:E6 P w K mg base (aN P w) 1 g3 NM ["self"] (AS CS CF))(NV:L2.av K NM ["self"] [])(NW:Meth K CS "noughts" g3)
 (Mw:E6 P w K mg base (aN P w) 1 g4 NN ["self"] (AE CS CF))(My:L2.av K NN ["self"] [])(Mz:Meth K CS "uppers" g4):
 E6 P w K mg base (aN P w) 7 f fd ["self"] (zY CB CS C CF CW):=by
 refine F.okE yQ (λvs H Q E h=>?_) (λFf A outer s H vs Q E hr h=>?_)
 ·obtain⟨F,b,pk,sy,fl,p,n,as,bs,kinds,rfl,_⟩:=h;rfl
 ·obtain⟨Fz,b,pk,sy,fl,p,n,as,bs,kinds,rfl,Lv,bF,kF,Bn,SF,h⟩:=h;have Gv:oJ 6 _:=hr;have Fp:oJ 1 _:=Gv.mono (by decide)
  refine⟨_,(aj (bq (cG (i4 (aW (pv 0) rfl) (λ_=>rfl))) (ar (pL PySem.F.excBase_ValueError qW rfl km (by rfl) mW (@ah _ _ _ _ _ da ag rfl))) aM)
   (aj (@aC _ _ 1 _ _ _ _ yQ.nd rfl (Or.inl rfl) (aW (pv 0) rfl) rfl (Or.inl rfl))
   (ar (bq (cz (qt PySem.F.plainAttrs_list PySem.F.slot_list_pop PySem.F.type_list_pop qO (aW (pv 0) rfl) )) (aj (@aC _ _ 2 _ _ _ _ yQ.nd rfl (Or.inr rfl) (@aO _ _ _ _ _ _ _ _ qM (aF bx (by rfl) Fj PySem.boot_len (@ah _ _ _ _ _ (aX (pv 1) cY.cl Mz Mw Fp My .nil ae) ag rfl)) ao) rfl (Or.inl rfl))
   (aj (cM (pv 0) (cU (N:=["kept","number"]) (nl:=1) (js:=[2]) (osc:=aq Cb) ⟨rfl,rfl,by decide +kernel,by decide +kernel,by decide +kernel,rfl,(.cons ⟨rfl,by decide +kernel⟩ .nil),by decide +kernel⟩ rfl
    (c6 (aW (pv 0) rfl))
    (λCq fq sq Hq=>aI (i:=0) (by show(["kept","number"]:E4).Nodup;decide +kernel) rfl (Or.inl rfl) (Or.inr rfl))
    (λCq fq sq Hq=>(eY vC))
    (λCq fq sq Hq=>(pv 0))) rfl)
   (ar (cM (pv 0) (bf MY IC Gv (by rfl) cY.mgC GJ .nil c9 (@ah _ _ _ _ _ (aX (pv 1) cY.cl NQ NO Fp NP .nil ae) (@ah _ _ _ _ _ (aX (pv 1) cY.cl NT NR Fp NS .nil ae) (@ah _ _ _ _ _ (aX (pv 1) cY.cl NW NU Fp NV .nil ae) (@ah _ _ _ _ _ (jU sx (aX (pv 1) cY.cl Mz Mw Fp My .nil ae) nR (oB (pN kE ao))) ag rfl) rfl) rfl) rfl)) rfl)))) (aj (fF (i:=3) (N:=["kept"]) (nl:=1) (js:=[]) (osc:=aq Cb) ⟨rfl,rfl,by decide +kernel,by decide +kernel,by decide +kernel,rfl,.nil,by decide +kernel⟩ rfl yQ.nd rfl (Or.inl rfl)
    (c6 (aW (pv 0) rfl))
    (λCq fq sq Hq=>aI (i:=0) (by show(["kept"]:E4).Nodup;decide +kernel) rfl (Or.inl rfl) (Or.inr rfl))
    (λCq fq sq Hq=>(eY vC))
    (λCq fq sq Hq=>(pv 0)) (by rfl))
   (aj (cM (pv 0) (cU (N:=["kept"]) (nl:=1) (js:=[]) (osc:=aq Cb) ⟨rfl,rfl,by decide +kernel,by decide +kernel,by decide +kernel,rfl,.nil,by decide +kernel⟩ rfl
    (c6 (pv 3))
    (λCq fq sq Hq=>aI (i:=0) (by show(["kept"]:E4).Nodup;decide +kernel) rfl (Or.inl rfl) (Or.inr rfl))
    (λCq fq sq Hq=>cZ)
    (λCq fq sq Hq=>zF)) rfl)
   (ar (cM (pv 0) (bf MY IC Gv (by rfl) cY.mgC GJ .nil c9 (@ah _ _ _ _ _ (aX (pv 1) cY.cl NQ NO Fp NP .nil ae) (@ah _ _ _ _ _ (aX (pv 1) cY.cl NT NR Fp NS .nil ae) (@ah _ _ _ _ _ (jU sx (aX (pv 1) cY.cl NW NU Fp NV .nil ae) nR (oB (pN kE ao))) (@ah _ _ _ _ _ (aX (pv 1) cY.cl Mz Mw Fp My .nil ae) ag rfl) rfl) rfl) rfl)) rfl)))))))),?_⟩
  have S:=SF.same aJ;obtain⟨_,_,_,_,_,NX,_⟩:=SF.r.ex;have IB:=fN NX;clear NX;obtain⟨dx,pl,hb,FZ,Hg,_⟩:=Bn.ex;obtain⟨Gz,Fh,A1,B1,hY,hf,hA,hB⟩:=S.r.ex;have wl:=S.r.l1;have TN:=S.r.l2;have HJ:=Bn.ne;refine⟨_,rfl,b,CB,dx,_,_,rfl,hb,cB.cl,cB.nK,rfl,?_⟩
  rcases h with⟨rfl,q⟩|⟨Fv,up,rfl,hu,hd,q⟩
  ·refine⟨false,.inl ⟨_,aV.of Bn.ks,rfl⟩,?_⟩;refine bw ?_;exact⟨yv,q⟩
  ·have ne0:(!(((Fv++[up]).map V.bl).isEmpty))=true:=by cases Fv <;> rfl
   refine⟨true,.inl ⟨_,aV.of Bn.ks,ne0.symm⟩,?_⟩;refine bH ?_;refine⟨_,rfl,b,CB,dx,_,_,rfl,hb,cB.cl,cB.nS,rfl,?_⟩;refine⟨_,rfl,b,CB,dx,_,_,rfl,hb,cB.cl,cB.nK,rfl,?_⟩
   have el:((Fv++[up]).map V.bl)[((Fv++[up]).map V.bl).length-1]?=some (.bl up):=by
    rw[List.map_append,List.length_append];show(Fv.map V.bl++[V.bl up])[(Fv.map V.bl).length+1-1]?=_;rw[Nat.add_sub_cancel,List.getElem?_append_right (Nat.le_refl _),Nat.sub_self];rfl
   have ed:((Fv++[up]).map V.bl).dropLast=Fv.map V.bl:=by
    rw[List.map_append]
    exact List.dropLast_concat
   refine⟨.inl ⟨rfl,_,aV.of Bn.ks⟩,pk,_,_,rfl,rfl,Bn.ks,el,?_⟩;rw[ed]
   have sk:cu b pk H (upd H pk (.lst (Fv.map V.bl))):=λc u e _ n2=>by rw[ai n2];exact e
   have MA:upd H pk (.lst (Fv.map V.bl)) pk=some (.lst (Fv.map V.bl)):=af
   have Lw:upd H pk (.lst (Fv.map V.bl)) b=some (.ins CB dx (dM sy pl pk)):=by rw[ai HJ];exact hb
   have IE:upd H pk (.lst (Fv.map V.bl)) pl=some (.lst []):=by rw[ai Hg];exact FZ
   have Lx:Sy CS C CF (bK Fz (upd H pk (.lst (Fv.map V.bl)))) sy fl p n as bs:=SF.same (bO λc u e nc=>sk c u e (λz=>nc (z▸bF)) λz=>nc (z▸kF))
   have L1:dk Fz (upd H pk (.lst (Fv.map V.bl))):=λc hc=>by
    by_cases z:c=pk
    ·subst z;exact⟨_,MA,λxs e=>by cases e⟩
    ·rw[ai z];exact Lv c hc
   generalize upd H pk (.lst (Fv.map V.bl))=H1 at sk MA Lw IE Lx L1 |-;clear S hY hf hA hB hb FZ Bn SF Lv;have S1:=Lx.same aJ;obtain⟨Gz,Fh,A1,B1,hY,hf,hA,hB⟩:=S1.r.ex
   cases up with
   |true =>
    refine⟨_,rfl,bw ?_⟩;refine⟨_,rfl,sy,Gz,_,rfl,hY,rfl,sy,fl,p,n,as,bs,rfl,S1.r,λU hU=>?_⟩;have s2:=ak (o:=.lst (bs.map V.ref)) hU;refine⟨U,_,rfl,.inl (aV.of af),_,_,rfl,rfl,?_⟩;generalize upd H1 U _=H2 at s2 |-;refine⟨_,rfl,b,CB,dx,_,_,rfl,s2 _ _ Lw,cB.cl,cB.nP,rfl,pl,rfl,⟨_,aV.of (s2 _ _ IE)⟩,gz (aV.of (s2 _ _ IE)) λM hM=>?_⟩;have s3:=ak (o:=.lst []) hM;have eM:upd H2 M (.lst []) M=some (.lst []):=af;have JG:M≠b:=(au (s2 _ _ Lw) hM).symm;have Jl:M≠pk:=(au (s2 _ _ MA) hM).symm;have Ls:M∉Fz:=(L1.same s2).not hM;have Hf:=s2.trans s3;generalize upd H2 M _=H3 at s3 eM Hf |-;have TY:=Hf _ _ Lw;have Lu:=Hf _ _ MA;have TZ:=Lx.same (aA Hf);have L3:=L1.same Hf;refine⟨_,rfl,b,CB,dx,_,rfl,TY,cB.cl,cB.nP,(by show 3<1000;decide),?_⟩;have e4:upd H3 b (.ins CB dx (bt "its_papers" (.ref M) (dM sy pl pk))) b=some (.ins CB dx (dM sy M pk)):=af
    have FN:cu b pk H3 (upd H3 b (.ins CB dx (bt "its_papers" (.ref M) (dM sy pl pk)))):=λc u e n1 _=>by rw[ai n1];exact e
    have N1:upd H3 b (.ins CB dx (bt "its_papers" (.ref M) (dM sy pl pk))) pk=some (.lst (Fv.map V.bl)):=by rw[ai HJ.symm];exact Lu
    have L4:dk Fz (upd H3 b (.ins CB dx (bt "its_papers" (.ref M) (dM sy pl pk)))):=λc hc=>by
     by_cases z:c=b
     ·subst z;exact⟨_,e4,λxs e=>by cases e⟩
     ·rw[ai z];exact L3 c hc
    have HI:=TZ.same (bO (H':=upd H3 b (.ins CB dx (bt "its_papers" (.ref M) (dM sy pl pk)))) λc u e nc=>FN c u e (λz=>nc (z▸bF)) λz=>nc (z▸kF));have N2:=FN _ _ eM JG Jl;have Gw:cu b pk H (upd H3 b (.ins CB dx (bt "its_papers" (.ref M) (dM sy pl pk)))):=sk.trans ((cu.of Hf).trans FN);generalize upd H3 b _=H4 at e4 N1 L4 HI N2 Gw |-;have S4:=HI.same aJ;obtain⟨Gz,Fh,A1,B1,hY,hf,hA,hB⟩:=S4.r.ex;refine⟨_,rfl,sy,Gz,_,rfl,hY,rfl,sy,fl,p,n,as,bs,rfl,S4.r,_,rfl,sy,Gz,_,rfl,hY,rfl,sy,fl,p,n,as,bs,rfl,S4.r,_,rfl,sy,Gz,_,rfl,hY,rfl,sy,fl,p,n,as,bs,rfl,S4.r,λN hN=>?_⟩;have s5:=ak (o:=.lst (as.map V.ref)) hN;have eN:upd H4 N (.lst (as.map V.ref)) N=some (.lst (as.map V.ref)):=af;change bg _ _ _ (upd H4 N (.lst (as.map V.ref))) _;generalize upd H4 N _=H5 at s5 eN |-;refine⟨_,rfl,sy,Gz,_,rfl,s5 _ _ hY,rfl,sy,fl,p,n,as,bs,rfl,S4.r.same s5,λU2 hU2=>?_⟩;have s6:=ak (o:=.lst (bs.map V.ref)) hU2;have Yl:upd H5 U2 (.lst (bs.map V.ref)) U2=some (.lst (bs.map V.ref)):=af;generalize upd H5 U2 _=H6 at s6 Yl |-;refine⟨_,rfl,_,rfl,U2,_,rfl,aV.of Yl,λL hL=>?_⟩;rw[pE];have s7:=ak (o:=.lst (bs.map V.ref).dropLast) hL
    have eL:upd H6 L (.lst (bs.map V.ref).dropLast) L=some (.lst (bs.dropLast.map V.ref)):=by rw[af,List.map_dropLast]
    change D6 _ (upd H6 L (.lst (bs.map V.ref).dropLast)) _;generalize upd H6 L _=H7 at s7 eL |-;have IF:=s5.trans (s6.trans s7);have Jm:=HI.same (aA IF);have S7:=Jm.same aJ;refine λs NY q1 q2 ne=>?_;have sub:∀c∈bs.dropLast,c∈bs:=λc hc=>(List.dropLast_sublist _).mem hc;refine zA (L4.same IF) (n:=n) (as:=as) (bs:=bs.dropLast) ⟨⟨Fh,rfl,IF _ _ hf⟩,rfl,S4.n1,S4.n60,⟨⟨N,rfl,(s6.trans s7) _ _ eN⟩,wl,S7.wa⟩,.inr ⟨⟨⟨L,rfl,eL⟩,by rw[List.length_dropLast];omega,λc hc=>S7.wb c (sub c hc)⟩,λz=>S4.u0 λy=>z (by rw[y];rfl)⟩⟩ IB q1 q2 ne λH8 s8 T1=>?_;have Ia:=IF.trans s8;exact⟨_,rfl,oQ cB bF kF Gw (Ia _ _ e4) (Ia _ _ N1) (Ia _ _ N2) HJ JG Jl Ls Ia ⟨T1,S4.n1,S4.n60,(Jm.same (aA s8)).wa,λc hc=>(Jm.same (aA s8)).wb c (sub c hc),λz=>S4.u0 λy=>z (by rw[y];rfl)⟩ λH' a1 a2 a3=>q H' s a1 a2 a3⟩
   |false =>
    refine⟨_,rfl,bH ?_⟩;refine⟨_,rfl,b,CB,dx,_,_,rfl,Lw,cB.cl,cB.nP,rfl,pl,rfl,⟨_,aV.of IE⟩,gz (aV.of IE) λM0 hM0=>?_⟩;have s2:=ak (o:=.lst []) hM0;have T2:upd H1 M0 (.lst []) M0=some (.lst []):=af;generalize upd H1 M0 _=H2 at s2 T2 |-;refine⟨_,rfl,M0,rfl,⟨_,aV.of T2⟩,gz (aV.of T2) λM hM=>?_⟩;have s3:=ak (o:=.lst []) hM;have eM:upd H2 M (.lst []) M=some (.lst []):=af;have JG:M≠b:=(au (s2 _ _ Lw) hM).symm;have Jl:M≠pk:=(au (s2 _ _ MA) hM).symm;have Ls:M∉Fz:=(L1.same s2).not hM;have Hf:=s2.trans s3;generalize upd H2 M _=H3 at s3 eM Hf |-;have TY:=Hf _ _ Lw;have Lu:=Hf _ _ MA;have TZ:=Lx.same (aA Hf);have L3:=L1.same Hf;refine⟨_,rfl,b,CB,dx,_,rfl,TY,cB.cl,cB.nP,(by show 3<1000;decide),?_⟩;have e4:upd H3 b (.ins CB dx (bt "its_papers" (.ref M) (dM sy pl pk))) b=some (.ins CB dx (dM sy M pk)):=af
    have FN:cu b pk H3 (upd H3 b (.ins CB dx (bt "its_papers" (.ref M) (dM sy pl pk)))):=λc u e n1 _=>by rw[ai n1];exact e
    have N1:upd H3 b (.ins CB dx (bt "its_papers" (.ref M) (dM sy pl pk))) pk=some (.lst (Fv.map V.bl)):=by rw[ai HJ.symm];exact Lu
    have L4:dk Fz (upd H3 b (.ins CB dx (bt "its_papers" (.ref M) (dM sy pl pk)))):=λc hc=>by
     by_cases z:c=b
     ·subst z;exact⟨_,e4,λxs e=>by cases e⟩
     ·rw[ai z];exact L3 c hc
    have HI:=TZ.same (bO (H':=upd H3 b (.ins CB dx (bt "its_papers" (.ref M) (dM sy pl pk)))) λc u e nc=>FN c u e (λz=>nc (z▸bF)) λz=>nc (z▸kF));have N2:=FN _ _ eM JG Jl;have Gw:cu b pk H (upd H3 b (.ins CB dx (bt "its_papers" (.ref M) (dM sy pl pk)))):=sk.trans ((cu.of Hf).trans FN);generalize upd H3 b _=H4 at e4 N1 L4 HI N2 Gw |-;have S4:=HI.same aJ;obtain⟨Gz,Fh,A1,B1,hY,hf,hA,hB⟩:=S4.r.ex;refine⟨_,rfl,sy,Gz,_,rfl,hY,rfl,sy,fl,p,n,as,bs,rfl,S4.r,_,rfl,sy,Gz,_,rfl,hY,rfl,sy,fl,p,n,as,bs,rfl,S4.r,_,rfl,sy,Gz,_,rfl,hY,rfl,sy,fl,p,n,as,bs,rfl,S4.r,λN hN=>?_⟩;have s5:=ak (o:=.lst (as.map V.ref)) hN;have eN:upd H4 N (.lst (as.map V.ref)) N=some (.lst (as.map V.ref)):=af;generalize upd H4 N _=H5 at s5 eN |-;refine⟨_,rfl,_,rfl,N,_,rfl,aV.of eN,λL hL=>?_⟩;rw[pE];have s6:=ak (o:=.lst (as.map V.ref).dropLast) hL
    have eL:upd H5 L (.lst (as.map V.ref).dropLast) L=some (.lst (as.dropLast.map V.ref)):=by rw[af,List.map_dropLast]
    change bg _ _ _ (upd H5 L (.lst (as.map V.ref).dropLast)) _;generalize upd H5 L _=H6 at s6 eL |-;have Ik:=s5.trans s6;refine⟨_,rfl,sy,Gz,_,rfl,Ik _ _ hY,rfl,sy,fl,p,n,as,bs,rfl,S4.r.same Ik,λU hU=>?_⟩;have s7:=ak (o:=.lst (bs.map V.ref)) hU;have eU:upd H6 U (.lst (bs.map V.ref)) U=some (.lst (bs.map V.ref)):=af;change D6 _ (upd H6 U (.lst (bs.map V.ref))) _;generalize upd H6 U _=H7 at s7 eU |-;have IF:=Ik.trans s7;have Jm:=HI.same (aA IF);have S7:=Jm.same aJ;refine λs NY q1 q2 ne=>?_;have sub:∀c∈as.dropLast,c∈as:=λc hc=>(List.dropLast_sublist _).mem hc;refine zA (L4.same IF) (n:=n) (as:=as.dropLast) (bs:=bs) ⟨⟨Fh,rfl,IF _ _ hf⟩,rfl,S4.n1,S4.n60,⟨⟨L,rfl,s7 _ _ eL⟩,by rw[List.length_dropLast];omega,λc hc=>S7.wa c (sub c hc)⟩,.inr ⟨⟨⟨U,rfl,eU⟩,TN,S7.wb⟩,S4.u0⟩⟩ IB q1 q2 ne λH8 s8 T1=>?_;have Ia:=IF.trans s8;exact⟨_,rfl,oQ cB bF kF Gw (Ia _ _ e4) (Ia _ _ N1) (Ia _ _ N2) HJ JG Jl Ls Ia ⟨T1,S4.n1,S4.n60,λc hc=>(Jm.same (aA s8)).wa c (sub c hc),(Jm.same (aA s8)).wb,S4.u0⟩ λH' a1 a2 a3=>q H' s a1 a2 a3⟩
abbrev BQ:Stmt:=(aR 61)
abbrev DS:Stmt:=(aR 62)
theorem uM:yI ["_law_pool_here","_law_most","_law_prime_here","_law_places","_law_ones","_law_row"] wU (aq BQ):=dm (by decide +kernel)
theorem yR:yI ["_law_pool_here","_law_prime_here","_law_places","_law_terms_here","_law_row"] qD (aq DS):=dm (by decide +kernel)
variable {r:Addr}
theorem uX.but {y:V}{ts:List Tm}(h:uX H y ts)(R:aH H r)(s:SameBut r H H'):uX H' y ts:=by
 obtain⟨a,zs,e,h1,h2⟩:=h;refine⟨a,zs,e,s _ _ h1 λz=>?_,bJ.keep h2 (R.abg s)⟩;obtain⟨l,x,e',_⟩:=R;rw[z,e'] at h1
 cases h1
 cases h2 with
 |cons h t =>
  obtain⟨_,_,_,e,_⟩:=h
  cases e
theorem gW.but {ys:List V}{Fl:List (List Tm)}(h:gW H ys Fl)(R:aH H r)(s:SameBut r H H'):gW H' ys Fl:=Paired.aa5 h λ_ _ z=>z.but R s
def Bs:Sp:=λvs H Q _=>∃(r:Addr),vs=[.ref r,.int 3]/\aH H r /\
 ∀(H':Hp)(t L:Addr)(p n:Int)(xs:List V)(Fl:List (List Tm)),SameBut r H H'->aH H' r->FP p->1<=n->n<=3->H' t=some (.tup [.int p,.int n,.ref L])->H' L=some (.lst xs)->gW H' xs Fl->Ws p n Fl->Fl.length<=4->Q (.ref t) H'
def yZ:Sp:=λvs H Q _=>∃(r:Addr)(p n:Int),vs=[.ref r,.int p,.int n]/\aH H r/\FP p/\1<=n/\n<=3 /\
 ∀(H':Hp)(D:Addr)(ts:List Tm),SameBut r H H'->aH H' r->uX H' (.ref D) ts->H D=none->Wi 3930 5 p n ts->Q (.ref D) H'
theorem pV {K:PySem.W.Frag}{n:Int}{G:List V->Hp->Prop}(R:aH H r)(n0:0<=n)(n3:n<=3)
 (q:∀(bs:List Int) H',(bs.length:Int)=n->aH H' r->SameBut r H H'->G (bs.map V.int) H'):
 ∃W':Nat->Nat->List V->St->Hp->Prop,(∃m,W' 0 m [] (none :: [some (.ref r)]) H)/\gR (xJ 0 n.toNat) (cc 0) Ee (mw DE [] (λ_ _ _=>False) (bg (cg 1) (bg (tC (.int 2)) D6))) W' G:=by
 refine iM (lo:=0) (n:=n.toNat) (rest:=[some (.ref r)]) (λi us H'=>aH H' r/\SameBut r H H'/\∃bs:List Int,us=bs.map V.int/\bs.length=i) ⟨R,λ_ _ e _=>e,[],rfl,rfl⟩ (λi us H' hi h=>?_) (λi us H' M hi h hM=>?_) (λus H' h=>?_)
 ·obtain⟨_,_,bs,rfl,h⟩:=h;rw[List.length_map,h];exact Nat.lt_of_le_of_lt (by omega:i<=3) (by decide)
 ·obtain⟨⟨l,x,e,x0,x1⟩,sb,bs,rfl,h⟩:=h;refine wq ⟨_,rfl,r,l,x,2,rfl,e,x0,x1,by decide,by decide,λz l2 r2 z0 z1 g0 g1=>hM _ _ ⟨⟨l2,r2,af,g0,g1⟩,sb.trans SameBut.upd,bs++[z],by rw[List.map_append];rfl,by rw[List.length_append,h];rfl⟩⟩
 ·obtain⟨R',sb,bs,rfl,h⟩:=h;exact q bs H' (by omega) R' sb
theorem jY {n:Int}{c:Nat}{many most:Int}{G:List V->Hp->Prop}(R:aH H r)(hp:FP p)(n0:0<n)(n60:n<=60)(c5:c<=4)(m0:0<=many)(m4:many<=4)(o0:0<=most)(o3:most<=3)
 (q:∀us Fl H',gW H' us Fl->(∀ts∈Fl,Wi 191 4 p n ts)->Fl.length=c->aH H' r->SameBut r H H'->G us H'):
 ∃W':Nat->Nat->List V->St->Hp->Prop,(∃m,W' 0 m [] (none :: [some (.ref r),some (.int p),some (.int n)]) H)/\gR (xJ 0 c) (cc 0) Ee (mw DU [] (λ_ _ _=>False) (bg (cg 1) (bg (cg 2) (bg (cg 3) (bg (tC (.int many)) (bg (tC (.int most)) D6)))))) W' G:=by
 refine iM (lo:=0) (n:=c) (rest:=[some (.ref r),some (.int p),some (.int n)]) (λi us H'=>aH H' r/\SameBut r H H'/\∃Fl,gW H' us Fl/\(∀ts∈Fl,Wi 191 4 p n ts)/\Fl.length=i) ⟨R,λ_ _ e _=>e,[],.nil,λt ht=>(nomatch ht),rfl⟩ (λi us H' hi h=>?_) (λi us H' M hi h hM=>?_) (λus H' h=>?_)
 ·obtain⟨_,_,Fl,h1,_,h3⟩:=h;rw[h1.length,h3];exact Nat.lt_of_le_of_lt (by omega:i<=4) (by decide)
 ·obtain⟨R',sb,Fl,h1,h2,h3⟩:=h;refine wq ⟨_,rfl,_,rfl,_,rfl,r,p,n,many,most,rfl,R',hp,n0,n60,m0,m4,o0,o3,λD ys ts H2 hD eD ht W R2 FQ=>hM _ _ ⟨R2,sb.trans FQ,Fl++[ts],Paired.snoc (h1.but R' FQ) ⟨D,ys,rfl,eD,ht⟩,λt NC=>?_,by rw[List.length_append,h3];rfl⟩⟩
  rcases List.mem_append.mp NC with h|h
  ·exact h2 t h
  ·rw[List.mem_singleton.mp h];exact W
 ·obtain⟨R',sb,Fl,h1,h2,h3⟩:=h;exact q us Fl H' h1 h2 h3 R' sb
theorem og {K:PySem.W.Frag}{A fa:Addr}{xs:List V}{Fl:List (List Tm)}{n:Int}{bs:List Int}{G:List V->Hp->Prop}(hA:H A=some (.lst xs))(hx:gW H xs Fl)(W:∀ts∈Fl,Wi 191 4 p n ts)(c4:Fl.length<=4)(hp:FP p)(n0:0<n)(n60:n<=60)(Iw:H fa=some (.tup (bs.map V.int)))(TC:(bs.length:Int)=n)
 (q:∀us Ft H',ay H H'->gW H' us Ft->Ws p n Ft->Ft.length=Fl.length->G us H'):
 ∃W':Nat->Nat->List V->St->Hp->Prop,(∃m,W' 0 m [] (none :: [some (.int p),some (.ref fa)]) H)/\gR (y7 K A) (cc 0) Ee (mw j9 [] (λ_ _ _=>False) (bg (cg 1) (bg (cg 0) (bg (cg 2) D6)))) W' G:=by
 have xl:=hx.length;refine jO (a:=A) (xs:=xs) (rest:=[some (.int p),some (.ref fa)]) (λj us H'=>ay H H'/\∃Ft,gW H' us Ft/\Ws p n Ft/\Ft.length=j) ⟨ay.refl _,[],.nil,λt ht=>(nomatch ht),rfl⟩ (λj us H' hj h=>?_) (λj x us H' M hj JY h hM=>?_) (λus H' h=>?_)
 ·obtain⟨sH,Ft,h1,_,h3⟩:=h;refine⟨?_,aV.of (sH _ _ hA)⟩;rw[h1.length,h3];exact Nat.lt_of_le_of_lt (by omega:j<=4) (by decide)
 ·obtain⟨sH,Ft,h1,h2,h3⟩:=h;obtain⟨ts,et,z⟩:=bR hx JY;obtain⟨a,zs,rfl,ha,hz⟩:=z.same sH;refine wq ⟨_,rfl,_,rfl,_,rfl,a,fa,p,n,zs,ts,bs,rfl,hp,ha,hz,W ts (List.mem_of_getElem? et),n0,n60,sH _ _ Iw,TC,λH2 D ys MC s2 hD eD hu Wu=>hM _ _ ⟨sH.trans s2,Ft++[MC],Paired.snoc (h1.same s2) ⟨D,ys,rfl,eD,hu⟩,λt ht=>?_,by rw[List.length_append,h3];rfl⟩⟩
  rcases List.mem_append.mp ht with h|h
  ·exact h2 t h
  ·rw[List.mem_singleton.mp h];exact Wu
 ·obtain⟨sH,Ft,h1,h2,h3⟩:=h;exact q us Ft H' sH h1 h2 (by rw[h3,xl])
theorem CD {ft fp fm:Addr}{F0 Gi Iq Gq:xR}(F:u3 K "_law_small_wishes" "_law_small_wishes" BQ f fd)(Fi:mg "range"=none)(Fo:mg "tuple"=none)
 (Ge:E6 P w K mg base (aN P w) 1 ft F0 yy DE)(Gf:L2.av K F0 yy [])(Gg:mg "_law_take"=some (.ref ft))(Gh:keepIn K (.ref ft)=true)
 (FPm:E6 P w K mg base (aN P w) 2 fp Gi oV qZ)(bPm:L2.av K Gi oV [])(mPm:mg "_law_prime"=some (.ref fp))(kPm:keepIn K (.ref fp)=true)
 (IG:E6 P w K mg base (aN P w) 5 fm Iq Aq DU)(IH:L2.av K Iq Aq [])(IJ:mg "_law_terms"=some (.ref fm))(IL:keepIn K (.ref fm)=true)
 (Ny:E6 P w K mg base (aN P w) 6 fl Gq tQ j9)(Nz:L2.av K Gq tQ [])(NA:mg "_law_planted"=some (.ref fl))(T3:keepIn K (.ref fl)=true):
 E6 P w K mg base (aN P w) 7 f fd wU Bs:=by
 refine F.okN uM (λvs H Q E h=>?_) (λFf A outer s H vs Q E hr h=>?_)
 ·obtain⟨r,rfl,_⟩:=h;rfl
 ·obtain⟨r,rfl,R,q⟩:=h;have Gv:oJ 6 _:=hr;have Hb:oJ 5 _:=Gv.mono (by decide);have FY:oJ 2 _:=Gv.mono (by decide);have Fp:oJ 1 _:=Gv.mono (by decide)
  refine⟨_,(aj (@aC _ _ 2 _ _ _ _ uM.nd rfl (Or.inr rfl) (ax FPm FY (by rfl) mPm kPm bPm .nil ae (@ah _ _ _ _ _ (pv 0) ag rfl)) rfl (Or.inl rfl))
   (aj (@aC _ _ 3 _ _ _ _ uM.nd rfl (Or.inr rfl) (@aO _ _ _ _ _ _ _ _ eG ao (ax Ge Fp (by rfl) Gg Gh Gf .nil ae (@ah _ _ _ _ _ (pv 0) (@ah _ _ _ _ _ (pv 1) ag rfl) rfl))) rfl (Or.inl rfl))
   (aj (fF (i:=4) (N:=["_law_turn","_law_pool_here","_law_prime_here","_law_places"]) (nl:=1) (js:=[0,2,3]) (osc:=aq BQ) ⟨rfl,rfl,by decide +kernel,by decide +kernel,by decide +kernel,rfl,(.cons ⟨rfl,by decide +kernel⟩ (.cons ⟨rfl,by decide +kernel⟩ (.cons ⟨rfl,by decide +kernel⟩ .nil))),by decide +kernel⟩ rfl uM.nd rfl (Or.inl rfl)
    (dY (by rfl) Fi (@ah _ _ _ _ _ (ax Ge Fp (by rfl) Gg Gh Gf .nil ae (@ah _ _ _ _ _ (pv 0) (@ah _ _ _ _ _ ao ag rfl) rfl)) ag rfl))
    (λCq fq sq Hq=>aI (i:=0) (by show(["_law_turn","_law_pool_here","_law_prime_here","_law_places"]:E4).Nodup;decide +kernel) rfl (Or.inl rfl) (Or.inr rfl))
    (λCq fq sq Hq=>cZ)
    (λCq fq sq Hq=>(ax IG Hb (by rfl) IJ IL IH .nil ae (@ah _ _ _ _ _ (pv 1) (@ah _ _ _ _ _ (pv 2) (@ah _ _ _ _ _ (pv 3) (@ah _ _ _ _ _ ao (@ah _ _ _ _ _ ao ag rfl) rfl) rfl) rfl) rfl))) (by rfl))
   (aj (bq (@aL _ _ _ _ _ _ _ _ cq (ax Ge Fp (by rfl) Gg Gh Gf .nil ae (@ah _ _ _ _ _ (pv 0) (@ah _ _ _ _ _ ao ag rfl) rfl)) ao (aB _)) (aj (@aC _ _ 5 _ _ _ _ uM.nd rfl (Or.inr rfl) (bA (iH (K:=K) rfl) (by rfl) Fo (by rfl) (@ah _ _ _ _ _ (cU (N:=["_law_place","_law_pool_here"]) (nl:=1) (js:=[0]) (osc:=aq BQ) ⟨rfl,rfl,by decide +kernel,by decide +kernel,by decide +kernel,rfl,(.cons ⟨rfl,by decide +kernel⟩ .nil),by decide +kernel⟩ rfl
    (dY (by rfl) Fi (@ah _ _ _ _ _ (pv 3) ag rfl))
    (λCq fq sq Hq=>aI (i:=0) (by show(["_law_place","_law_pool_here"]:E4).Nodup;decide +kernel) rfl (Or.inl rfl) (Or.inr rfl))
    (λCq fq sq Hq=>cZ)
    (λCq fq sq Hq=>(ax Ge Fp (by rfl) Gg Gh Gf .nil ae (@ah _ _ _ _ _ (pv 1) (@ah _ _ _ _ _ ao ag rfl) rfl)))) ag rfl)) rfl (Or.inl rfl))
   (ar (fF (i:=4) (N:=["_law_terms_here","_law_prime_here","_law_row"]) (nl:=1) (js:=[2,5]) (osc:=aq BQ) ⟨rfl,rfl,by decide +kernel,by decide +kernel,by decide +kernel,rfl,(.cons ⟨rfl,by decide +kernel⟩ (.cons ⟨rfl,by decide +kernel⟩ .nil)),by decide +kernel⟩ rfl uM.nd rfl (Or.inl rfl)
    (c6 (pv 4))
    (λCq fq sq Hq=>aI (i:=0) (by show(["_law_terms_here","_law_prime_here","_law_row"]:E4).Nodup;decide +kernel) rfl (Or.inl rfl) (Or.inr rfl))
    (λCq fq sq Hq=>cZ)
    (λCq fq sq Hq=>(ax Ny Gv (by rfl) NA T3 Nz .nil ae (@ah _ _ _ _ _ (pv 1) (@ah _ _ _ _ _ (pv 0) (@ah _ _ _ _ _ (pv 2) ag rfl) rfl) rfl))) (by rfl)))) aM)
   (ar (az (@bX _ _ _ _ _ (@ah _ _ _ _ _ (pv 2) (@ah _ _ _ _ _ (pv 3) (@ah _ _ _ _ _ (pv 4) ag rfl) rfl) rfl)))))))),?_⟩
  refine⟨_,rfl,r,rfl,R,λp H1 hp R1 Gy=>?_⟩;obtain⟨l1,x1,e1,a0,a1⟩:=R1;refine⟨_,rfl,_,rfl,r,l1,x1,3,rfl,e1,a0,a1,by decide,by decide,λz l2 r2 z0 z1 g0 g1=>⟨_,_,rfl,rfl,?_⟩⟩;have R2:aH (upd H1 r (.lst [.int l2,.int r2])) r:=⟨l2,r2,af,g0,g1⟩;have FQ:SameBut r H (upd H1 r (.lst [.int l2,.int r2])):=Gy.trans SameBut.upd;generalize upd H1 r (.lst [.int l2,.int r2])=H2 at R2 FQ |-
  have n1:1<=1+z:=by omega
  have n3:1+z<=3:=by omega
  have n0:0<1+z:=by omega
  have n60:1+z<=60:=by omega
  obtain⟨l2,x2,e2,b0,b1⟩:=R2;refine⟨_,rfl,r,l2,x2,5,rfl,e2,b0,b1,by decide,by decide,λc l3 r3 c0 c1 g0 g1=>?_⟩;have R3:aH (upd H2 r (.lst [.int l3,.int r3])) r:=⟨l3,r3,af,g0,g1⟩;have F4:SameBut r H (upd H2 r (.lst [.int l3,.int r3])):=FQ.trans SameBut.upd;generalize upd H2 r (.lst [.int l3,.int r3])=H3 at R3 F4 |-;refine⟨c,rfl,by omega,by omega,?_⟩;refine jY (n:=1+z) R3 hp n0 n60 (by omega) (by decide) (by decide) (by decide) (by decide) λus Fl H4 hL W tl R4 FN=>?_;intro L hL';have s5:=ak (o:=.lst us) hL';have eL:upd H4 L (.lst us) L=some (.lst us):=af;have R5:=R4.same s5;have hL:=hL.same s5;have JB:=F4.trans (FN.trans (SameBut.of s5));generalize upd H4 L _=H5 at eL R5 hL JB |-;obtain⟨l5,x5,e5,d0,d1⟩:=R5;refine⟨_,rfl,r,l5,x5,2,rfl,e5,d0,d1,by decide,by decide,λv l6 r6 v0 v1 g0 g1=>⟨rfl,_,rfl,?_⟩⟩
  have MD:L≠r:=λy=>by
   rw[y,e5] at eL
   cases eL
   cases hL with
   |cons h t =>
    obtain⟨_,_,e,_⟩:=h
    cases e
  have R6:aH (upd H5 r (.lst [.int l6,.int r6])) r:=⟨l6,r6,af,g0,g1⟩;have Ly:SameBut r H5 (upd H5 r (.lst [.int l6,.int r6])):=SameBut.upd;have T4:=hL.but ⟨l5,x5,e5,d0,d1⟩ Ly;have N3:=Ly _ _ eL MD;have T5:=JB.trans Ly;generalize upd H5 r (.lst [.int l6,.int r6])=H6 at R6 T5 T4 N3 |-
  have c4:Fl.length<=4:=by omega
  refine c7 (λ_=>?_) (λ_=>?_)
  ·refine⟨_,rfl,1+z,rfl,by omega,by omega,?_⟩;refine pV (K:=K) (n:=1+z) R6 (by omega) n3 λbs H7 bl R7 Jn=>?_;intro D hD;have s8:=ak (o:=.lst (bs.map V.int)) hD;refine⟨D,_,rfl,.inl ⟨aV.of af,λfa Iw=>?_⟩⟩;have s9:=s8.trans (ak (o:=.tup (bs.map V.int)) Iw);have N4:upd (upd H7 D (.lst (bs.map V.int))) fa (.tup (bs.map V.int)) fa=some (.tup (bs.map V.int)):=af;have nL7:=MD;have R9:=R7.same s9;have Ym:=(T4.but R6 Jn).same s9;have T6:=s9 _ _ (Jn _ _ N3 MD);have ME:=T5.trans (Jn.trans (SameBut.of s9));generalize upd (upd H7 D _) fa _=H9 at N4 R9 Ym T6 ME |-;refine⟨_,rfl,L,rfl,⟨_,aV.of T6⟩,?_⟩;refine og (n:=1+z) T6 Ym W c4 hp n0 n60 N4 bl λMC Ft Hn Gd hU WU ul=>?_;intro L2 Nt;have Ho:=ak (o:=.lst MC) Nt;have Yn:upd Hn L2 (.lst MC) L2=some (.lst MC):=af;have Lz:=Gd.trans Ho;have hU:=hU.same Ho;generalize upd Hn L2 _=Rp at Yn Lz hU |-;refine⟨_,rfl,_,rfl,_,rfl,EK,λt ht=>?_⟩;have MG:=ak (o:=.tup [.int p,.int (1+z),.ref L2]) ht;exact q _ t L2 p (1+z) MC Ft (ME.trans (SameBut.of (Lz.trans MG))) (R9.same (Lz.trans MG)) hp n1 n3 af (MG _ _ Yn) (hU.same MG) WU (by omega)
  ·refine⟨_,rfl,_,rfl,_,rfl,EK,λt ht=>?_⟩;have s7:=ak (o:=.tup [.int p,.int (1+z),.ref L]) ht;exact q _ t L p (1+z) us Fl (T5.trans (SameBut.of s7)) (R6.same s7) hp n1 n3 af (s7 _ _ N3) (T4.same s7) (λts h=>(W ts h).mono (by decide) (by decide)) c4
theorem BP {ft fm:Addr}{F0 Iq Gq:xR}(F:u3 K "_law_drawn_wish" "_law_drawn_wish" DS f fd)(Fi:mg "range"=none)(Fo:mg "tuple"=none)
 (Ge:E6 P w K mg base (aN P w) 1 ft F0 yy DE)(Gf:L2.av K F0 yy [])(Gg:mg "_law_take"=some (.ref ft))(Gh:keepIn K (.ref ft)=true)
 (IG:E6 P w K mg base (aN P w) 5 fm Iq Aq DU)(IH:L2.av K Iq Aq [])(IJ:mg "_law_terms"=some (.ref fm))(IL:keepIn K (.ref fm)=true)
 (Ny:E6 P w K mg base (aN P w) 6 fl Gq tQ j9)(Nz:L2.av K Gq tQ [])(NA:mg "_law_planted"=some (.ref fl))(T3:keepIn K (.ref fl)=true):
 E6 P w K mg base (aN P w) 7 f fd qD yZ:=by
 refine F.okN yR (λvs H Q E h=>?_) (λFf A outer s H vs Q E hr h=>?_)
 ·obtain⟨r,p,n,rfl,_⟩:=h;rfl
 ·obtain⟨r,p,n,rfl,R,hp,n1,n3,q⟩:=h;have Gv:oJ 6 _:=hr;have Hb:oJ 5 _:=Gv.mono (by decide);have Fp:oJ 1 _:=Gv.mono (by decide)
  have n0:0<n:=by omega
  have n60:n<=60:=by omega
  refine⟨_,(aj (@aC _ _ 3 _ _ _ _ yR.nd rfl (Or.inl rfl) (ax IG Hb (by rfl) IJ IL IH .nil ae (@ah _ _ _ _ _ (pv 0) (@ah _ _ _ _ _ (pv 1) (@ah _ _ _ _ _ (pv 2) (@ah _ _ _ _ _ ao (@ah _ _ _ _ _ ao ag rfl) rfl) rfl) rfl) rfl)) rfl (Or.inl rfl))
   (aj (bq (@aL _ _ _ _ _ _ _ _ cq (ax Ge Fp (by rfl) Gg Gh Gf .nil ae (@ah _ _ _ _ _ (pv 0) (@ah _ _ _ _ _ ao ag rfl) rfl)) ao (aB _)) (aj (@aC _ _ 4 _ _ _ _ yR.nd rfl (Or.inl rfl) (bA (iH (K:=K) rfl) (by rfl) Fo (by rfl) (@ah _ _ _ _ _ (cU (N:=["_law_place","_law_pool_here"]) (nl:=1) (js:=[0]) (osc:=aq DS) ⟨rfl,rfl,by decide +kernel,by decide +kernel,by decide +kernel,rfl,(.cons ⟨rfl,by decide +kernel⟩ .nil),by decide +kernel⟩ rfl
    (dY (by rfl) Fi (@ah _ _ _ _ _ (pv 2) ag rfl))
    (λCq fq sq Hq=>aI (i:=0) (by show(["_law_place","_law_pool_here"]:E4).Nodup;decide +kernel) rfl (Or.inl rfl) (Or.inr rfl))
    (λCq fq sq Hq=>cZ)
    (λCq fq sq Hq=>(ax Ge Fp (by rfl) Gg Gh Gf .nil ae (@ah _ _ _ _ _ (pv 1) (@ah _ _ _ _ _ ao ag rfl) rfl)))) ag rfl)) rfl (Or.inl rfl))
   (ar (@aC _ _ 3 _ _ _ _ yR.nd rfl (Or.inl rfl) (ax Ny Gv (by rfl) NA T3 Nz .nil ae (@ah _ _ _ _ _ (pv 1) (@ah _ _ _ _ _ (pv 3) (@ah _ _ _ _ _ (pv 4) ag rfl) rfl) rfl)) rfl (Or.inl rfl)))) aM)
   (ar (az (pv 3))))),?_⟩
  refine⟨_,rfl,_,rfl,_,rfl,r,p,n,3,2,rfl,R,hp,n0,n60,by decide,by decide,by decide,by decide,λD ys ts H1 hD eD ht W R1 Gy=>?_⟩
  have Mt:D≠r:=λz=>by
   obtain⟨l,x,e,_⟩:=R;rw[z,e] at hD
   cases hD
  obtain⟨l1,x1,e1,a0,a1⟩:=R1;refine⟨_,rfl,r,l1,x1,3,rfl,e1,a0,a1,by decide,by decide,λv l2 r2 v0 v1 g0 g1=>⟨rfl,_,rfl,?_⟩⟩;have R2:aH (upd H1 r (.lst [.int l2,.int r2])) r:=⟨l2,r2,af,g0,g1⟩;have N5:SameBut r H1 (upd H1 r (.lst [.int l2,.int r2])):=SameBut.upd;have T7:uX (upd H1 r (.lst [.int l2,.int r2])) (.ref D) ts:=uX.but ⟨D,ys,rfl,eD,ht⟩ ⟨l1,x1,e1,a0,a1⟩ N5;have FQ:=Gy.trans N5;generalize upd H1 r (.lst [.int l2,.int r2])=H2 at R2 FQ T7 |-;refine c7 (λ_=>?_) (λ_=>?_)
  ·refine⟨_,rfl,n,rfl,by omega,by omega,?_⟩;refine pV (K:=K) R2 (by omega) n3 λbs H7 bl R7 Jn=>?_;intro D7 hD7;have s8:=ak (o:=.lst (bs.map V.int)) hD7;refine⟨D7,_,rfl,.inl ⟨aV.of af,λfa Iw=>?_⟩⟩;have s9:=s8.trans (ak (o:=.tup (bs.map V.int)) Iw);have N4:upd (upd H7 D7 (.lst (bs.map V.int))) fa (.tup (bs.map V.int)) fa=some (.tup (bs.map V.int)):=af;have R9:=R7.same s9;have MH:=(T7.but R2 Jn).same s9;have ME:=FQ.trans (Jn.trans (SameBut.of s9));generalize upd (upd H7 D7 _) fa _=H9 at N4 R9 MH ME |-;obtain⟨a,zs,ea,ha,hz⟩:=MH
   cases ea
   refine⟨_,rfl,_,rfl,_,rfl,D,fa,p,n,zs,ts,bs,rfl,hp,ha,hz,W,n0,n60,N4,bl,λHn D2 ys2 us Gd Ij Kc hu Wu=>?_⟩
   have nD2:D2≠r:=λz=>by
    obtain⟨l,x,e,_⟩:=R9;rw[z,e] at Ij
    cases Ij
   have free:H D2=none:=by
    cases e:H D2 with
    |none=>rfl
    |some u=>rw[ME _ _ e nD2] at Ij;cases Ij
   exact⟨_,rfl,q Hn D2 us (ME.trans (SameBut.of Gd)) (R9.same Gd) ⟨D2,ys2,rfl,Kc,hu⟩ free Wu⟩
  ·exact⟨_,rfl,q H2 D ts FQ R2 T7 hD (W.mono (by decide) (by decide))⟩
end K80
namespace L2
open PySem PySem.Spec PyProof.Rows
section
variable {X:Cx}{CX:wC}{k:Nat}{f:Addr}{fd:xR}{ps:E4}{sp:Sp}{E:St->XK}{x:Str}{p pos:Pos}{e:Expr}{es:Aw}{t:TA}{ds:nZ}{dvs:List V}
theorem rQ {pins:List (Addr×Obj)}{σ:St}{H:Hp}{s:AQ}{Q:VK}{us:nZ}{vs:List V}(F:E6 X.prog X.w X.K X.mg X.base CX k f fd ps sp)(hr:oJ k X.A)(hb:av X.K fd ps ds)(hd:aG dvs ds)(hx:jM CX X E)
 (I:Inv X pins σ H s)(r:aG vs us)(h:sp (vs++dvs) H Q (E σ)):wpAny (model X.prog X.w) X.A (call (.ref f) us) (EP X pins σ Q) X.xe s:=by
 have r2:aG (vs++dvs) (us++ds):=r.append hd
 have hl:(us++ds).length=ps.length:=by rw[<-r2.length];exact F.len _ _ _ _ h
 refine wpAny_call (codeAny_mono (F.run X.A X.stack s H ⟨us,[]⟩ (us++ds) (vs++dvs) Q (E σ) hr I.abm (hb s us I.kIn hl) r2 h) λr s' hq=>?_)
 cases r with
 |error e=>exact hx pins σ H s e s' I hq
 |ok fl =>
  cases fl with
  |ret u=>exact I.after hq
  |next=>exact False.elim hq
  |brk=>exact False.elim hq
  |cont=>exact False.elim hq
end
def nY (C:Addr)(m:Str)(sp:Sp)(dvs:List V)(E:St->XK)(ta:TE)(t:TA):TE:=λσ H Q=>xF C m sp dvs (E σ) ta t σ H Q
section
variable {X:Cx}{CX:wC}{k:Nat}{f C:Addr}{fd:xR}{ps:E4}{sp:Sp}{E:St->XK}{m:Str}{apos pos:Pos}{o e:Expr}{es:Aw}{ta:TE}{t:TA}{ds:nZ}{dvs:List V}
theorem vW {pl:Sem Bool}(he:PE X o ta)(c:uF X.K C)(hm:Meth X.K C m f)(F:E6 X.prog X.w X.K X.mg X.base CX k f fd ps sp)(hr:oJ k X.A)(hb:av X.K fd ps ds)(hd:aG dvs ds)(hx:jM CX X E)(ha:PA X (e::es) t)
 (Gx:starEach (e::es) X.env=(false,eval e X.env):: starEach es X.env:=by rfl)(FZ:(backTo pos (starEach es X.env)).any (·.1)=false:=by rfl)
 (ht:eval (.Call (.Attribute o m apos) (e::es) [] pos) X.env=(do
  let ov <-eval o X.env
  standAt apos.atName
  let(f,first) <-holding [ov] (getMethod ov m pl)
  callWith pos f first (backTo pos (starEach (e::es) X.env)) (backToKw pos (keywordEach [] X.env))):=by rfl):
 PE X (.Call (.Attribute o m apos) (e::es) [] pos) (nY C m sp dvs E ta t):=by
 intro pins s σ H Q I h;refine PySem.W.methodCall_KW (pl:=pl) (bN (he pins s σ H _ I h) λu s1 z'=>?_) ht;obtain⟨x,H1,I1,rx,a,dx,fs,ex,ea,l,q⟩:=z';subst ex;obtain rfl:u=Value.ref a:=rx;refine eJ I1 ea c hm l ?_;refine PySem.W.callWith_K (first:=[.ref a]) (h₀:=X.base) I.ok.mod.kin hm.kp (bN (ha pos pins s1 σ H1 _ I1 q) λus s2 ⟨vs,H2,I2,r,q2⟩=>⟨I2.kIn,?_⟩) Gx FZ;exact rQ (us:=.ref a::us) (vs:=.ref a::vs) F hr hb hd hx I2 (.cons rfl r) q2
theorem uE {pl:Sem Bool}(he:PE X o ta)(c:uF X.K C)(hm:Meth X.K C m f)(F:E6 X.prog X.w X.K X.mg X.base CX k f fd ps sp)(hr:oJ k X.A)(hb:av X.K fd ps ds)(hd:aG dvs ds)(hx:jM CX X E)
 (ht:eval (.Call (.Attribute o m apos) [] [] pos) X.env=(do
  let ov <-eval o X.env
  standAt apos.atName
  let(f,first) <-holding [ov] (getMethod ov m pl)
  callWith pos f first (backTo pos (starEach [] X.env)) (backToKw pos (keywordEach [] X.env))):=by rfl):
 PE X (.Call (.Attribute o m apos) [] [] pos) (nY C m sp dvs E ta D6):=by
 intro pins s σ H Q I h;refine PySem.W.methodCall_KW (pl:=pl) (bN (he pins s σ H _ I h) λu s1 z'=>?_) ht;obtain⟨x,H1,I1,rx,a,dx,fs,ex,ea,l,q⟩:=z';subst ex;obtain rfl:u=Value.ref a:=rx;refine eJ I1 ea c hm l ?_;exact PySem.W.callWith_K0 (first:=[.ref a]) I1.kIn hm.kp (rQ (us:=[.ref a]) (vs:=[.ref a]) F hr hb hd hx I1 (.cons rfl .nil) q)
end
end L2
namespace K80
open PySem L2 PySem.W Nm Srt
abbrev EE:Stmt:=(aR 64)
abbrev Ef:Stmt:=(aR 63)
theorem zX:yI ["_law_pool_here","_law_prime_here","_law_places","_law_other","_law_some"] qD (aq EE):=dm (by decide +kernel)
theorem zc:yI ["_law_bench","_law_one","_law_is_upper","_law_found","e"] qS (aq Ef):=dm (by decide +kernel)
def BR (C CF:Addr):Sp:=λvs H Q _=>∃(r:Addr)(p n:Int),vs=[.ref r,.int p,.int n]/\aH H r/\FP p/\1<=n/\n<=3 /\
 ∀(H':Hp)(x:V),SameBut r H H'->aH H' r->WX C CF p n H' x false->Q x H'
structure D1 (P:u6)(w:World)(K:Frag)(mg:wg)(base:Heap)(FE CN:Addr):Prop where
 ik:IK P w K mg base "NoSystem" CN uL (fG CN "part" "number")
 no1:bz K CN "part"
 no2:bz K CN "number"
 x:PySem.W.exmOne K (.ref CN) (.ref FE)=some true
 mFE:mg "FalseError"=some (.ref FE)
 mVE:mg "ValueError"=none
 a2:kitOne K (.ref CN) (.ref CN)=some true
 a3:kitOne K (.ref CN) (.type "ValueError")=some true
def AH (CB CS C CF:Addr):Sp:=λvs H Q _=>∃(F:List Addr)(b pk sy fl:Addr)(p n:Int)(as bs:List Addr)(kinds:List Bool)(x v:V)(up:Bool)(part:String),vs=[.ref b,x,.bl up]/\dk F H/\b∈F/\pk∈F/\um CB F H b pk sy kinds/\Sy CS C CF (bK F H) sy fl p n as bs/\kinds.length<1000 /\
 PW C CF p n H as bs x up part v/\∀H' t,ay H H'->H' t=some (.tup [.str part,v])->Q (.ref t) H'
variable {C CF:Addr}{H:Hp}{p:Int}
theorem BU.but {H':Hp}{r s:Addr}{ts:List Tm}(h:BU C CF H s p ts)(R:aH H r)(sb:SameBut r H H'):BU C CF H' s p ts:=by
 obtain⟨dx,fl,Fh,D,zs,h1,h2,h3,h4⟩:=h.ex;have l:=uX.but ⟨D,zs,rfl,h3,h4⟩ R sb;obtain⟨a,ys,e,g1,g2⟩:=l
 cases e
 exact⟨dx,fl,Fh,D,ys,sb _ _ h1 (R.ne h1 λl z=>by cases z),sb _ _ h2 (R.ne h2 λl z=>by cases z),g1,g2⟩
theorem yh (hp:FP p):Num p 1 1:=⟨by decide,by decide,λz=>⟨rfl,by decide,by have:=(hp.two z).2.1;omega⟩⟩
theorem vT {n:Int}{ks:List Int}(hp:FP p)(h:ks=[]\/∃k,ks=[k]/\0<=k/\k<n):Wi 45 1 p n [(ks,(1,1))]:=by
 refine⟨List.nodup_cons.mpr ⟨λh=>(nomatch h),List.nodup_nil⟩,λt ht=>?_,Nat.le_refl _⟩;rw[List.mem_singleton.mp ht];refine⟨⟨yh hp,(by show(1:Int).natAbs<2^45;decide),(by show(1:Int).natAbs<2^45;decide)⟩,?_⟩
 rcases h with rfl|⟨k,rfl,h1,h2⟩
 ·exact⟨.nil,λk hk=>(nomatch hk),Nat.zero_le _⟩
 ·refine⟨.cons (λa ha=>(nomatch ha)) .nil,λj hj=>?_,(by show 1<=3;decide)⟩
  have:j=k:=by simpa using hj
  subst this;exact⟨h1,h2⟩
theorem zB {t0 t1 t2 l3:Addr}{ks:List Int}(e0:H t0=none)(e1:upd H t0 (.tup (ks.map V.int)) t1=none)(e2:upd (upd H t0 (.tup (ks.map V.int))) t1 (.tup [.int 1,.int 1]) t2=none)(e3:upd (upd (upd H t0 (.tup (ks.map V.int))) t1 (.tup [.int 1,.int 1])) t2 (.tup [.ref t0,.ref t1]) l3=none):
 ∃H4,upd (upd (upd (upd H t0 (.tup (ks.map V.int))) t1 (.tup [.int 1,.int 1])) t2 (.tup [.ref t0,.ref t1])) l3 (.lst [.ref t2])=H4/\ay H H4/\H4 l3=some (.lst [.ref t2])/\bJ H4 [.ref t2] [(ks,(1,1))]:=by
 have s1:=ak (o:=.tup (ks.map V.int)) e0;have s2:=ak (o:=.tup [.int 1,.int 1]) e1;have s3:=ak (o:=.tup [.ref t0,.ref t1]) e2;have s4:=ak (o:=.lst [.ref t2]) e3;refine⟨_,rfl,((ay.trans s1 s2).trans s3).trans s4,af,.cons ⟨t2,t0,t1,rfl,s4 _ _ af,s4 _ _ (s3 _ _ (s2 _ _ af)),s4 _ _ (s3 _ _ af)⟩ .nil⟩
theorem l8 :dk [] H:=λc hc=>(nomatch hc)
variable {P:u6}{w:World}{K:PySem.W.Frag}{mg:wg}{base:Heap}
theorem Cs {f ft fi fs JF:Addr}{fd F0 HG GY:xR}(F:u3 K "_law_no_wish" "_law_no_wish" EE f fd)(cF:zZ K mg CF)(cS:Em K mg C)(FR:mg "int"=none)
 (Ge:E6 P w K mg base (aN P w) 1 ft F0 yy DE)(Gf:L2.av K F0 yy [])(Gg:mg "_law_take"=some (.ref ft))(Gh:keepIn K (.ref ft)=true)
 (MF:Mk K CF fi)(FFI:E6 P w K mg base (aN P w) 2 fi HG qH (i7 CF JF))(Gu:L2.av K HG qH [])
 (MS:Mk K C fs)(Jk:E6 P w K mg base (aN P w) 6 fs GY uD (eR C CF))(Hz:L2.av K GY uD []):
 E6 P w K mg base (aN P w) 8 f fd qD (BR C CF):=by
 refine F.okN zX (λvs H Q E h=>?_) (λFf A outer s H vs Q E hr h=>?_)
 ·obtain⟨r,p,n,rfl,_⟩:=h;rfl
 ·obtain⟨r,p,n,rfl,R,hp,n1,n3,q⟩:=h;have Ga:oJ 7 _:=hr;have F5:oJ 3 _:=Ga.mono (by decide);have Fp:oJ 1 _:=Ga.mono (by decide)
  refine⟨_,(aj (@aC _ _ 3 _ _ _ _ zX.nd rfl (Or.inl rfl) (bf MF FFI F5 (by rfl) cF.mgC Gu .nil ae (@ah _ _ _ _ _ (@a9 _ _ _ _ _ _ _ b7 (@bY _ _ _ _ (@ah _ _ _ _ _ ao (@ah _ _ _ _ _ ao ag rfl) rfl)) (bA hV (by rfl) FR (by rfl) (@ah _ _ _ _ _ (@aZ _ _ _ _ _ _ _ _ cq (pv 1) ao (aB _)) ag rfl)) (λ_ _=>rfl)) ag rfl)) rfl (Or.inl rfl))
   (aj (@aC _ _ 4 _ _ _ _ zX.nd rfl (Or.inl rfl) (@bY _ _ _ _ (@ah _ _ _ _ _ (bf MS Jk Ga (by rfl) cS.mgC Hz .nil ae (@ah _ _ _ _ _ (pv 3) (@ah _ _ _ _ _ (@bY _ _ _ _ (@ah _ _ _ _ _ (@bX _ _ _ _ _ (@ah _ _ _ _ _ (@bX _ _ _ _ _ ag) (@ah _ _ _ _ _ (@bX _ _ _ _ _ (@ah _ _ _ _ _ ao (@ah _ _ _ _ _ ao ag rfl) rfl)) ag rfl) rfl)) ag rfl)) ag rfl) rfl)) (@ah _ _ _ _ _ (bf MS Jk Ga (by rfl) cS.mgC Hz .nil ae (@ah _ _ _ _ _ (bf MF FFI F5 (by rfl) cF.mgC Gu .nil ae (@ah _ _ _ _ _ (pv 1) ag rfl)) (@ah _ _ _ _ _ (@bY _ _ _ _ (@ah _ _ _ _ _ (@bX _ _ _ _ _ (@ah _ _ _ _ _ (@bX _ _ _ _ _ (@ah _ _ _ _ _ (pv 2) ag rfl)) (@ah _ _ _ _ _ (@bX _ _ _ _ _ (@ah _ _ _ _ _ ao (@ah _ _ _ _ _ ao ag rfl) rfl)) ag rfl) rfl)) ag rfl)) ag rfl) rfl)) (@ah _ _ _ _ _ dj (@ah _ _ _ _ _ da (@ah _ _ _ _ _ (@bY _ _ _ _ ag) (@ah _ _ _ _ _ ao (@ah _ _ _ _ _ gr ag rfl) rfl) rfl) rfl) rfl) rfl) rfl)) rfl (Or.inl rfl))
   (ar (az (@a9 _ _ _ _ _ _ _ b7 (pv 4) (ax Ge Fp (by rfl) Gg Gh Gf .nil ae (@ah _ _ _ _ _ (pv 0) (@ah _ _ _ _ _ ao ag rfl) rfl)) (λ_ _=>rfl)))))),?_⟩
  refine⟨ic,λd hd=>?_⟩;have s1:=ak (o:=.lst [.int 0,.int 97]) hd;have ed:upd H d (.lst [.int 0,.int 97]) d=some (.lst [.int 0,.int 97]):=af;change zM _ _ _ (upd H d (.lst [.int 0,.int 97])) _;generalize upd H d _=H1 at s1 ed |-
  have oth:∃p2:Int,FP p2/\p2≠p/\ml [V.int 0,V.int 97] (if decide (V.int p=V.int 0)=true then 1 else 0)=some (.int p2):=by
   by_cases z:p=0
   ·subst z;exact⟨97,.inr (by decide),by decide,rfl⟩
   ·have z':¬V.int p=V.int 0:=λy=>z (by injection y);rw[decide_eq_false z'];exact⟨0,.inl rfl,λy=>z y.symm,rfl⟩
  obtain⟨p2,Mm,np2,Ji⟩:=oth;refine⟨_,rfl,rfl,.inr ⟨_,rfl,d,_,_,.int p2,rfl,rfl,aV.of ed,Ji,λfo dxo g1 g2 gn=>?_⟩⟩;refine cE g1 g2 gn Mm λH2 s2 T8=>?_;refine⟨_,rfl,Nat.zero_le _,λa0 b0=>⟨ic,λa1 b1=>⟨ic,λa2 b2=>⟨yv,λa3 b3=>?_⟩⟩⟩⟩;obtain⟨H3,e3,s3,N6,ht3⟩:=zB (ks:=[]) b0 b1 b2 b3;change D6 _ (upd (upd (upd (upd H2 a0 (.tup (([]:List Int).map V.int))) a1 (.tup [.int 1,.int 1])) a2 (.tup [.ref a0,.ref a1])) a3 (.lst [.ref a2])) _;rw[e3];clear e3 b0 b1 b2 b3;refine λu1 du1 k1 k2 k3=>?_
  have n60:(60:Int)<=60:=by decide
  refine sf (F:=[]) l8 (bZ (s3 _ _ T8) (λh=>(nomatch h))) Mm N6 ht3 n60 (vT (n:=60) Mm (.inl rfl)) (by decide) (by decide) k1 k2 k3 λH4 s4 IM=>?_;have IM:=IM.same aJ;refine⟨_,rfl,λf2 NY k1 k2 k3=>?_⟩;refine cE k1 k2 k3 hp λH5 s5 IP=>?_;refine⟨_,rfl,yv,λa0 b0=>⟨ic,λa1 b1=>⟨ic,λa2 b2=>⟨yv,λa3 b3=>?_⟩⟩⟩⟩;obtain⟨H6,e6,s6,N3,ht6⟩:=zB (ks:=[n]) b0 b1 b2 b3;change D6 _ (upd (upd (upd (upd H5 a0 (.tup (([n]:List Int).map V.int))) a1 (.tup [.int 1,.int 1])) a2 (.tup [.ref a0,.ref a1])) a3 (.lst [.ref a2])) _;rw[e6];clear e6 b0 b1 b2 b3;refine λu2 du2 k1 k2 k3=>?_;refine sf (F:=[]) l8 (bZ (s6 _ _ IP) (λh=>(nomatch h))) hp N3 ht6 n60 (vT (n:=60) hp (.inr ⟨n,rfl,by omega,by omega⟩)) (by decide) (by decide) k1 k2 k3 λH7 s7 JH=>?_;have JH:=JH.same aJ;have IM:=IM.same (s5.trans (s6.trans s7));refine⟨Nat.zero_le _,λl hl=>?_⟩;have s8:=ak (o:=.lst []) hl;have el:upd H7 l (.lst []) l=some (.lst []):=af;change bg _ _ _ (upd H7 l (.lst [])) _;generalize upd H7 l _=H8 at s8 el |-;refine⟨aaa,λS hS=>?_⟩;have s9:=ak (o:=.lst [.ref u1,.ref u2,.non,.str "x0",.ref l,.int 5,.bl true]) hS;have eS:upd H8 S (.lst [.ref u1,.ref u2,.non,.str "x0",.ref l,.int 5,.bl true]) S=some (.lst [.ref u1,.ref u2,.non,.str "x0",.ref l,.int 5,.bl true]):=af;have el:=s9 _ _ el;have IM:=IM.same (s8.trans s9);have JH:=JH.same (s8.trans s9);have N7:=s1.trans (s2.trans (s3.trans (s4.trans (s5.trans (s6.trans (s7.trans (s8.trans s9)))))));generalize upd H8 S _=H9 at eS el IM JH N7 |-;have R9:=R.same N7;obtain⟨l9,x9,e9,y0,y1⟩:=R9;refine⟨_,rfl,_,rfl,r,l9,x9,7,rfl,e9,y0,y1,by decide,by decide,λv l2 r2 v0 v1 z0 z1=>?_⟩;have sb:SameBut r H9 (upd H9 r (.lst [.int l2,.int r2])):=SameBut.upd
  have nS:S≠r:=λz=>by rw[z,e9] at eS;cases eS
  have nl:l≠r:=λz=>by rw[z,e9] at el;cases el
  have R9:aH H9 r:=⟨l9,x9,e9,y0,y1⟩;have Yo:aH (upd H9 r (.lst [.int l2,.int r2])) r:=⟨l2,r2,af,z0,z1⟩;have eS:=sb _ _ eS nS;have el:=sb _ _ el nl;have IM:=IM.but R9 sb;have JH:=JH.but R9 sb;have Yp:=(SameBut.of N7).trans sb;generalize upd H9 r _=Hn at eS el IM JH Yp Yo |-
  have w1:WX C CF p n Hn (.ref u1) false:=by
   have:=WX.sum (p:=p) (n:=n) (⟨IM,Mm,by show(fH [(([]:List Int),((1,1):Int×Int))]).length<64;exact Nat.lt_of_le_of_lt (ia _) (by decide),λt ht=>by rw[List.mem_singleton.mp (fP ht)];exact(by decide:0<4000)⟩:SW C CF Hn u1 p2 _);rw[decide_eq_false np2,Bool.false_and] at this;exact this
  have w2:WX C CF p n Hn (.ref u2) false:=by
   have:=WX.sum (p:=p) (n:=n) (⟨JH,hp,Nat.lt_of_le_of_lt (ia _) (by show 1<64;decide),λt ht=>by rw[List.mem_singleton.mp (fP ht)];exact(by decide:1<4000)⟩:SW C CF Hn u2 p _);have er:iI (fH [([n],((1,1):Int×Int))])=n+1:=rfl;rw[decide_eq_true rfl,er,decide_eq_false (by omega:¬n+1<=n),Bool.true_and] at this;exact this
  have go:∀x:V,ml [V.ref u1,.ref u2,.non,.str "x0",.ref l,.int 5,.bl true] v=some x->WX C CF p n Hn x false->∃a xs i x',V.ref S=V.ref a/\V.int v=V.int i/\aV K Hn a xs/\ml xs i=some x'/\Q x' Hn:=λx hx w=>⟨S,_,v,x,rfl,rfl,aV.of eS,hx,q Hn x Yp Yo w⟩
  have v7:v=0\/v=1\/v=2\/v=3\/v=4\/v=5\/v=6:=by omega
  rcases v7 with e|e|e|e|e|e|e <;> subst e
  ·exact go _ rfl w1
  ·exact go _ rfl w2
  ·exact go _ rfl (.oth .non)
  ·exact go _ rfl (.oth (.str _))
  ·exact go _ rfl (.oth (.lst el))
  ·exact go _ rfl (.oth (.int 5))
  ·exact go _ rfl (.oth (.bl true))
theorem Dj {f fp CB CS CN FE:Addr}{fd Gi:xR}(F:u3 K "_law_refusal" "_law_refusal" Ef f fd)(cB:DL K mg CB)(Kl:mg "isinstance"=none)(R:D1 P w K mg base FE CN)
 (Km:E6 P w K mg base (aN P w) 7 fp Gi DF (t6 CB CS C CF CN))(N8:L2.av K Gi DF [])(Kn:Meth K CB "put" fp):
 E6 P w K mg base (aN P w) 8 f fd qS (AH CB CS C CF):=by
 refine F.okN zc (λvs H Q E h=>?_) (λFf A outer s H vs Q E hr h=>?_)
 ·obtain⟨F,b,pk,sy,fl,p,n,as,bs,kinds,x,v,up,part,rfl,_⟩:=h;rfl
 ·obtain⟨Fz,b,pk,sy,fl,p,n,as,bs,kinds,x,v,up,part,rfl,Lv,bF,kF,Bn,SF,kl,bad,q⟩:=h;have Ga:oJ 7 _:=hr
  refine⟨_,(aj (@aC _ _ 3 _ _ _ _ zc.nd rfl (Or.inl rfl) dj rfl (Or.inl rfl))
   (aj (Be (i:=4) rfl rfl zc.nd rfl rfl (by rfl) R.mFE (λpins E'=>ar (fA (show PE (Cx.tr (fK (aN P w) P w K mg base ["_law_bench","_law_one","_law_is_upper","_law_found","e"] "_law_refusal" (aq Ef) f Ff A outer s H E).nox pins E') _ (nY CB "put" (t6 CB CS C CF CN) [] E' (cg 0) (bg (cg 1) (bg (cg 2) D6))) from vW (pv 0) cB.cl Kn Km Ga N8 .nil jv (@ah _ _ _ _ _ (pv 1) (@ah _ _ _ _ _ (pv 2) ag rfl) rfl)))) (λa=>ar (@aC _ _ 3 _ _ _ _ zc.nd rfl (Or.inl rfl) (pv 4) rfl (Or.inl rfl))))
   (aj (bq (PW.pt (iz (cG (cz (aF (show cA _ _ (AC K) from me rfl) (by rfl) Kl (by rfl) (@ah _ _ _ _ _ (pv 3) (@ah _ _ _ _ _ (cD (by rfl) R.ik.m (show aE (.ref CN) (.ref CN) from rfl)) ag rfl) rfl)))) (gh (cG (cz (aF (show cA _ _ (AC K) from me rfl) (by rfl) Kl (by rfl) (@ah _ _ _ _ _ (pv 3) (@ah _ _ _ _ _ (dN (by rfl) R.mVE (by rfl) (show aE (.ty "ValueError") (.type "ValueError") from rfl)) ag rfl) rfl))))))) (ar (az dj)) aM)
   (ar (az (@bX _ _ _ _ _ (@ah _ _ _ _ _ (@rO _ _ _ _ _ (pv 3) rfl) (@ah _ _ _ _ _ (@rO _ _ _ _ _ (pv 3) rfl) ag rfl) rfl))))))),?_⟩
  obtain⟨dx,pl,hb,FZ,Hg,_⟩:=Bn.ex;refine⟨_,rfl,b,dx,_,rfl,hb,rfl,_,rfl,_,rfl,Fz,b,pk,sy,fl,p,n,as,bs,kinds,x,up,rfl,Lv,bF,kF,Bn,SF,kl,.inr ⟨part,v,bad,λd H' sH hd=>⟨R.x,λa ha=>?_⟩⟩⟩;have nda:d≠a:=au hd ha;have ea:upd H' a (qm a (.ref CN) (some d)) a=some (dR a (.ref CN) d false):=af
  have ed:upd H' a (qm a (.ref CN) (some d)) d=some (cL d [("part",.str part),("number",v)]):=by rw[ai nda];exact hd
  have s1:ay H (upd H' a (qm a (.ref CN) (some d))):=sH.trans (ak ha);change qe (cg 4) (cc 3) _ _ (upd H' a (qm a (.ref CN) (some d)));generalize upd H' a _=H1 at ea ed s1 |-;refine⟨_,rfl,_,rfl,a,CN,d,false,.ref CN,.ref CN,true,rfl,rfl,ea,R.ik.k,R.a2,_,rfl,bH ?_⟩;refine⟨_,rfl,a,CN,d,false,.ty "ValueError",.type "ValueError",true,rfl,rfl,ea,R.ik.k,R.a3,_,rfl,bH ?_⟩;refine⟨_,rfl,a,CN,d,false,_,_,rfl,ea,ed,R.ik.s,R.no1,rfl,_,rfl,a,CN,d,false,_,v,rfl,ea,ed,R.ik.s,R.no2,rfl,?_⟩;exact⟨ic,λt ht=>q _ t (s1.trans (ak ht)) af⟩
end K80
namespace L2
open PySem PySem.Spec PyProof.Rows
def Da (K:PySem.W.Frag)(c:Value)(ts:TS)(D:Ends):St->XK:=λσ cls d H'=>PySem.W.exmOne K cls c=some true/\ts D σ H'
def BZ (K:PySem.W.Frag)(c:Value)(tb:(St->XK)->TS)(ts:TS):TS:=λD σ H=>tb (Da K c ts D) D σ H
section
variable {X:Cx}{pins pins':List (Addr×Obj)}{σ:St}{H:Hp}{s:AQ}{E:St->XK}{a:Addr}
theorem yW {x:Str}{C:Addr}{np Lf pos:Pos}{body GX:List Stmt}{b₀:Stmt}{tb:(St->XK)->TS}{ts:TS}(Gx:X.stack=X.env::X.outer)(Hu:X.env.frame=some X.env.locals)
 (hg:Gl X x)(hm:X.mg x=some (.ref C))(hb:∀pins E,oA (X.tr pins E) body (tb E))(hs:∀a,oA (X.hd a) (b₀::GX) ts)(hd:(x==("__debug__":Str))=false:=by decide):
 PS X (.Try body [.ExceptHandler (some (.Name x np)) none (b₀::GX) Lf] [] [] pos) (BZ X.K (.ref C) tb ts):=by
 intro pins s σ H D I h;refine wpAny_Try_except (wpAny_mono (hb pins _ [] s σ H D (u4 I) h) (λf s1 q=>?_) λe s1 q=>?_)
 ·cases f with
  |next=>exact wpAny_execs_nil (fE q)
  |ret v=>exact fE q
  |brk=>exact fE q
  |cont=>exact fE q
 ·obtain⟨σ1,H1,s0,I1,a,cls,a0,B,d,H2,rfl,ho,Nd,F,hx,hw⟩:=q
  have Sw:X.A.frames=some (X.env::X.outer):=by rw[I.ok.frames,Gx]
  have fl:=F.fly;rw[Gx] at fl;refine qU Sw Hu fl λh4 held Nf=>fT (s:={s1 with heap:=h4}) held λh5 Lg Ng=>?_
  have Lh:pb B X.stack a cls a0 .none d h5:=by rw[Gx];exact Lg
  have I5:Inv X pins σ1 H2 {s1 with heap:=h5}:=fY (tk:=s1.toks) I1 ho Nd F Lh (Nf.trans Ng);obtain⟨ob,_,Sx,Li,_,_⟩:=Lg.first;have Sz:Inv (X.hd a) pins σ1 H2 {s1 with heap:=h5}:=ni I5;refine wpAny_handleBy_cons (codeAny_handlers_test (eV Sz hg hm ?_ hd)) (by intro q;cases q);have LT:PySem.W.Looks (model X.prog X.w) h5 (typeOf (.ref a)) cls:=Li▸(PySem.W.Looks.ld Sx).andThen .now;refine(PySem.W.exm_one (M:=model X.prog X.w) I5.kIn LT hx) _ _ _ _ (λ_ _ e=>e) ?_;refine codeAny_handlers_suite ?_;refine fT (s:={s1 with heap:=h5}) Lg λh6 Q6 SA=>?_
  have HU:pb B X.stack a cls a0 .none d h6:=by rw[Gx];exact Q6
  have I6:Inv X pins σ1 H2 {s1 with heap:=h6}:=fY (tk:=s1.toks) I1 ho Nd F HU ((Nf.trans Ng).trans SA);refine wpAny_mono (hs a pins {s1 with heap:=h6} _ _ _ (ni I6) hw) (λf s9 q=>?_) λ_ _ z=>False.elim z
  cases f with
  |next=>obtain⟨σ9,H9,I9,q9⟩:=q;exact⟨_,_,dH I.ok I9,q9⟩
  |brk=>obtain⟨σ9,H9,I9,q9⟩:=q;exact⟨_,_,dH I.ok I9,q9⟩
  |cont=>obtain⟨σ9,H9,I9,q9⟩:=q;exact⟨_,_,dH I.ok I9,q9⟩
  |ret u=>obtain⟨v,σ9,H9,I9,r9,q9⟩:=q;exact⟨v,_,_,dH I.ok I9,r9,q9⟩
end
end L2
namespace K80
open PySem L2 PySem.W Nm Srt
abbrev DN:Stmt:=(aR 65)
theorem yk:yI ["_law_bench","_law_past","_law_wishes","_law_found"] AU (aq DN):=dm (by decide +kernel)
def cj (kinds:List Bool):List V:=kinds.map λb=>V.int (if b=true then 1 else 0)
structure A4 (CB CS C CF:Addr)(F:List Addr)(H:Hp)(b pk w0 w1 ps:Addr)(p n:Int)(nn:Nat)(kinds:List Bool):Prop where
 fp:FP p
 ex:∃sy fl as bs Fl Ft xs ys,um CB F H b pk sy kinds/\Sy CS C CF (bK F H) sy fl p n as bs/\oY C CF (bK F H) p as Fl/\oY C CF (bK F H) p bs Ft/\H w0=some (.lst xs)/\gW (bK F H) xs Fl/\H w1=some (.lst ys)/\gW (bK F H) ys Ft /\
  Ws p n Fl/\Ws p n Ft/\Fl.length<=nn/\Ft.length<=nn/\kinds.count false<=Fl.length/\kinds.count true<=Ft.length
 pst:H ps=some (.lst (cj kinds))
 kl:kinds.length<=nn
 mem:b∈F/\pk∈F/\w0∈F/\w1∈F/\ps∈F
 nd:[b,pk,w0,w1,ps].Nodup
 live:dk F H
def bD (F:List Addr)(H H':Hp):Prop:=∀c u,H c=some u->c∉F->H' c=some u
variable {F:List Addr}{H:Hp}
theorem bD.of {H':Hp}(s:ay H H'):bD F H H':=λc u e _=>s c u e
theorem bD.trans {H1 H2:Hp}(s:bD F H H1)(t:bD F H1 H2):bD F H H2:=λc u e n=>t c u (s c u e n) n
theorem bD.upd {a:Addr}{o:HO}(h:a∈F):bD F H (upd H a o):=λc u e n=>by rw[ai (λz=>n (by rw[z];exact h))];exact e
theorem cu.toF {H':Hp}{b c:Addr}(s:cu b c H H')(hb:b∈F)(hc:c∈F):bD F H H':=λa u e n=>s a u e (λz=>n (z▸hb)) λz=>n (z▸hc)
theorem dI {α β:Type}{R:α->β->Prop}:∀{xs:List α}{ys:List β},Paired R xs ys->Paired R xs.dropLast ys.dropLast
 |_,_,.nil=>.nil
 |_,_,.cons _ .nil=>.nil
 |_,_,.cons h (.cons h2 t)=>.cons h (dI (.cons h2 t))
theorem dk.upd {a:Addr}{o:HO}(L:dk F H)(h:∀xs,o≠.tup xs):dk F (upd H a o):=λc hc=>by
 by_cases z:c=a
 ·subst z;exact⟨o,af,h⟩
 ·rw[ai z];exact L c hc
theorem sJ {α:Type}{xs:List α}(h:xs≠[]):∃Fv x,xs=Fv++[x]/\xs[xs.length-1]?=some x/\xs.dropLast=Fv:=by
 refine⟨xs.dropLast,xs.getLast h,(List.dropLast_concat_getLast h).symm,?_,rfl⟩;rw[<-List.getLast?_eq_getElem?,List.getLast?_eq_some_getLast h]
def C0 (CB CS C CF:Addr):Sp:=λvs H Q _=>∃(F:List Addr)(b pk w0 w1 ps W:Addr)(p n:Int)(nn:Nat)(kinds:List Bool),vs=[.ref b,.ref ps,.ref W]/\A4 CB CS C CF F H b pk w0 w1 ps p n nn kinds/\H W=some (.lst [.ref w0,.ref w1])/\W∉F /\
 ∀H' FH,bD F H H'->A4 CB CS C CF F H' b pk w0 w1 ps p n nn FH->Q (.bl true) H'
variable {P:u6}{w:World}{K:PySem.W.Frag}{mg:wg}{base:Heap}
theorem BM {f fb CB CS C CF CW:Addr}{fd N9:xR}(F:u3 K "_law_backed" "_law_backed" DN f fd)(cB:DL K mg CB)(mW:mg "NoWish"=some (.ref CW))(xW:PySem.W.exmOne K (.ref CW) (.ref CW)=some true)
 (FBB:E6 P w K mg base (aN P w) 7 fb N9 ["self"] (zY CB CS C CF CW))(bBB:L2.av K N9 ["self"] [])(mBB:Meth K CB "back" fb):
 E6 P w K mg base (aN P w) 8 f fd AU (C0 CB CS C CF):=by
 refine F.okN yk (λvs H Q E h=>?_) (λFf A outer s H vs Q E hr h=>?_)
 ·obtain⟨F,b,pk,w0,w1,ps,W,p,n,nn,kinds,rfl,_⟩:=h;rfl
 ·obtain⟨Fz,b,pk,w0,w1,ps,W,p,n,nn,kinds,rfl,S,hW,nW,q⟩:=h;have Ga:oJ 7 _:=hr;have Fp:oJ 1 _:=Ga.mono (by decide)
  refine⟨_,(aj (@aC _ _ 3 _ _ _ _ yk.nd rfl (Or.inl rfl) da rfl (Or.inl rfl))
   (aj (yW rfl rfl (by rfl) mW (λpins E'=>ar (@aC _ _ 3 _ _ _ _ yk.nd rfl (Or.inl rfl) (show PE (Cx.tr (fK (aN P w) P w K mg base ["_law_bench","_law_past","_law_wishes","_law_found"] "_law_backed" (aq DN) f Ff A outer s H E).nox pins E') _ (nY CB "back" (zY CB CS C CF CW) [] E' (cg 0) D6) from uE (pv 0) cB.cl mBB FBB Ga bBB .nil jv) rfl (Or.inl rfl))) (λa=>ar (@aC _ _ 3 _ _ _ _ yk.nd rfl (Or.inl rfl) da rfl (Or.inl rfl))))
   (aj (bq (@aL _ _ _ _ _ _ _ _ (kq hr) (pv 1) (@bY _ _ _ _ ag) (aB _)) (ar (az (@aZ _ _ _ _ _ _ _ _ cq (pv 3) da (aB _)))) aM)
   (aj (fA (qt PySem.F.plainAttrs_list PySem.F.slot_list_pop PySem.F.type_list_pop qO (@a9 _ _ _ _ _ _ _ b7 (pv 2) (qt PySem.F.plainAttrs_list PySem.F.slot_list_pop PySem.F.type_list_pop qO (pv 1) ) (λ_ _=>rfl)) ))
   (ar (az (@aZ _ _ _ _ _ _ _ _ om (pv 3) dj (aB _)))))))),?_⟩
  obtain⟨sy,fl,as,bs,Fl,Ft,xs,ys,Bn,SF,sa,sb,h0,x0,h1,x1,W0,W1,l0,l1,c0,c1⟩:=S.ex;obtain⟨mb,mk,m0,m1,ms⟩:=S.mem;obtain⟨dx,pl,hb,FZ,Hg,npF⟩:=Bn.ex;have nd:=S.nd;simp only[List.nodup_cons,List.mem_cons,not_or,List.not_mem_nil,not_false_eq_true,List.nodup_nil,and_true] at nd;obtain⟨⟨Rq,Oa,Ob,LA⟩,⟨Oc,Od,LB⟩,⟨Ko,Kp⟩,Kq⟩:=nd;refine⟨_,rfl,b,dx,_,rfl,hb,rfl,Fz,b,pk,sy,fl,p,n,as,bs,kinds,rfl,S.live,mb,mk,Bn,SF,?_⟩
  rcases List.eq_nil_or_concat kinds with rfl|⟨Fv,up,ek⟩
  ·refine .inl ⟨rfl,xW,?_⟩;refine⟨_,rfl,Nat.zero_le _,λe he=>?_⟩;have s1:=ak (o:=.lst []) he;refine⟨ps,e,[],rfl,rfl,aV.of (s1 _ _ S.pst),aV.of af,_,rfl,bw ?_⟩;refine⟨_,rfl,rfl,?_⟩;refine q _ [] (bD.of s1) ⟨S.fp,⟨sy,fl,as,bs,Fl,Ft,xs,ys,Bn.same s1,SF.same (aA s1),sa.same (aA s1),sb.same (aA s1),s1 _ _ h0,x0.same (aA s1),s1 _ _ h1,x1.same (aA s1),W0,W1,l0,l1,c0,c1⟩,s1 _ _ S.pst,S.kl,S.mem,S.nd,S.live.same s1⟩
  ·rw[List.concat_eq_append] at ek;subst ek;have Rr:∀z:Bool,(Fv++[up]).count z=Fv.count z + [up].count z:=λz=>List.count_append;have bl:bs.length=Ft.length:=sb.length;have al:as.length=Fl.length:=sa.length;refine .inr ⟨Fv,up,rfl,λz y=>?_,λz y=>?_,λH1 Il s2 MI Lx=>?_⟩
   ·rw[z,List.count_append] at c1;rw[<-bl,y] at c1;simp at c1
   ·rw[z,List.count_append] at c0;rw[<-al,y] at c0;simp at c0
   have Kr:=s2 _ _ S.pst (Ne.symm LA) (Ne.symm LB);have eW:=s2 _ _ hW (λz=>nW (z▸mb)) λz=>nW (z▸mk);have Yq:=s2 _ _ h0 (Ne.symm Oa) (Ne.symm Oc);have Yr:=s2 _ _ h1 (Ne.symm Ob) (Ne.symm Od);have Ru:bD Fz H H1:=s2.toF mb mk
   have L1:dk Fz H1:=by
    intro c hc
    by_cases z1:c=b
    ·obtain⟨GH,JI,g1,_⟩:=MI.ex;exact⟨_,by rw[z1];exact g1,λxs z=>by cases z⟩
    ·by_cases z2:c=pk
     ·exact⟨_,by rw[z2];exact MI.ks,λxs z=>by cases z⟩
     ·obtain⟨u,e,nt⟩:=S.live c hc;exact⟨u,s2 _ _ e z1 z2,nt⟩
   refine⟨_,rfl,Nat.zero_le _,λe he=>?_⟩;have s3:=ak (o:=.lst []) he;have ee:upd H1 e (.lst []) e=some (.lst []):=af
   have pne:cj (Fv++[up])≠[]:=by unfold cj;simp
   have Ks:(cj (Fv++[up]))[(cj (Fv++[up])).length-1]?=some (V.int (if up=true then 1 else 0)):=by
    unfold cj;rw[List.map_append,List.length_append];show(Fv.map _++[_])[(Fv.map _).length+1-1]?=_;rw[Nat.add_sub_cancel,List.getElem?_append_right (Nat.le_refl _),Nat.sub_self];rfl
   have Kt:(cj (Fv++[up])).dropLast=cj Fv:=by
    unfold cj;rw[List.map_append]
    exact List.dropLast_concat
   have Ys:W≠ps:=λz=>nW (z▸ms);generalize upd H1 e _=H2 at s3 ee |-;refine⟨ps,e,_,rfl,rfl,aV.of (s3 _ _ Kr),aV.of ee,_,rfl,?_⟩;rw[decide_eq_false pne];refine bH ?_
   cases up with
   |true =>
    have hc:Fv.count true+1<=Ft.length:=by
     have z:=c1;rw[Rr] at z;simpa using z
    have FX:ys≠[]:=λz=>by
     have l:=x1.length;rw[z] at l;simp at l;omega
    obtain⟨T9,lx,_,IQ,_⟩:=sJ FX;have Ua:=s3 _ _ eW;have Oe:=s3 _ _ Yr;refine⟨_,rfl,_,rfl,.inl ⟨rfl,_,aV.of (s3 _ _ Kr)⟩,ps,_,_,rfl,rfl,s3 _ _ Kr,Ks,?_⟩;rw[Kt];refine⟨W,_,_,.ref w1,rfl,rfl,aV.of (by rw[ai Ys];exact Ua),rfl,.inl ⟨rfl,_,aV.of (by rw[ai Kq];exact Oe)⟩,w1,_,_,rfl,rfl,by rw[ai Kq];exact Oe,IQ,?_⟩;refine⟨_,rfl,rfl,?_⟩;have LC:bD Fz H2 (upd (upd H2 ps (.lst (cj Fv))) w1 (.lst ys.dropLast)):=(bD.upd ms).trans (bD.upd m1);have d4:=bO LC
    have Ub:um CB Fz (upd (upd H2 ps (.lst (cj Fv))) w1 (.lst ys.dropLast)) b pk Il Fv:=by
     obtain⟨GH,JI,g1,g2,g3,g4⟩:=(MI.same s3).ex;exact⟨⟨GH,JI,by rw[ai Ob,ai LA];exact g1,LC _ _ g2 g4,g3,g4⟩,by rw[ai Od,ai LB];exact(MI.same s3).ks⟩
    have Of:=(aA s3).trans d4;have JJ:=(bO Ru).trans Of;have HI:=Lx.same Of;have Uc:=sa.same JJ;have FN:=sb.same JJ;have Ud:=x0.same JJ;have Ue:=x1.same JJ;have Ug:bD Fz H (upd (upd H2 ps (.lst (cj Fv))) w1 (.lst ys.dropLast)):=Ru.trans ((bD.of s3).trans LC);refine q _ Fv Ug ⟨S.fp,⟨Il,fl,as,bs.dropLast,Fl,Ft.dropLast,xs,ys.dropLast,Ub,HI,Uc,dI FN,?_,Ud,by rw[af],dI Ue,W0,λt ht=>W1 t ((List.dropLast_sublist _).mem ht),l0,by rw[List.length_dropLast];omega,?_,?_⟩,by rw[ai (Ne.symm Kq),af],by have:=S.kl;rw[List.length_append] at this;omega,S.mem,S.nd,((L1.same s3).upd (λxs z=>by cases z)).upd λxs z=>by cases z⟩
    ·rw[ai Ko,ai Kp];exact s3 _ _ Yq
    ·rw[Rr] at c0;simp at c0;exact c0
    ·rw[List.length_dropLast];omega
   |false =>
    have hc:Fv.count false+1<=Fl.length:=by
     have z:=c0;rw[Rr] at z;simpa using z
    have FX:xs≠[]:=λz=>by
     have l:=x0.length;rw[z] at l;simp at l;omega
    obtain⟨T9,lx,_,IQ,_⟩:=sJ FX;have Ua:=s3 _ _ eW;have Oe:=s3 _ _ Yq;refine⟨_,rfl,_,rfl,.inl ⟨rfl,_,aV.of (s3 _ _ Kr)⟩,ps,_,_,rfl,rfl,s3 _ _ Kr,Ks,?_⟩;rw[Kt];refine⟨W,_,_,.ref w0,rfl,rfl,aV.of (by rw[ai Ys];exact Ua),rfl,.inl ⟨rfl,_,aV.of (by rw[ai Kp];exact Oe)⟩,w0,_,_,rfl,rfl,by rw[ai Kp];exact Oe,IQ,?_⟩;refine⟨_,rfl,rfl,?_⟩;have LC:bD Fz H2 (upd (upd H2 ps (.lst (cj Fv))) w0 (.lst xs.dropLast)):=(bD.upd ms).trans (bD.upd m0);have d4:=bO LC
    have Ub:um CB Fz (upd (upd H2 ps (.lst (cj Fv))) w0 (.lst xs.dropLast)) b pk Il Fv:=by
     obtain⟨GH,JI,g1,g2,g3,g4⟩:=(MI.same s3).ex;exact⟨⟨GH,JI,by rw[ai Oa,ai LA];exact g1,LC _ _ g2 g4,g3,g4⟩,by rw[ai Oc,ai LB];exact(MI.same s3).ks⟩
    have Of:=(aA s3).trans d4;have JJ:=(bO Ru).trans Of;have HI:=Lx.same Of;have Uc:=sa.same JJ;have FN:=sb.same JJ;have Ud:=x0.same JJ;have Ue:=x1.same JJ;have Ug:bD Fz H (upd (upd H2 ps (.lst (cj Fv))) w0 (.lst xs.dropLast)):=Ru.trans ((bD.of s3).trans LC);refine q _ Fv Ug ⟨S.fp,⟨Il,fl,as.dropLast,bs,Fl.dropLast,Ft,xs.dropLast,ys,Ub,HI,dI Uc,FN,by rw[af],dI Ud,?_,Ue,λt ht=>W0 t ((List.dropLast_sublist _).mem ht),W1,by rw[List.length_dropLast];omega,l1,?_,?_⟩,by rw[ai (Ne.symm Kp),af],by have:=S.kl;rw[List.length_append] at this;omega,S.mem,S.nd,((L1.same s3).upd (λxs z=>by cases z)).upd λxs z=>by cases z⟩
    ·rw[ai (Ne.symm Ko),ai Kq];exact s3 _ _ Yr
    ·rw[List.length_dropLast];omega
    ·rw[Rr] at c1;simp at c1;exact c1
end K80
namespace L2
open PySem PySem.Spec PyProof.Rows PySem.W
section
variable {X:Cx}{CX:wC}{k:Nat}{f C:Addr}{fd:xR}{ps ks:E4}{sp:Sp}{E:XK}{m:Str}{apos pos:Pos}{o:Expr}{HS:List Keyword}{ta:TE}{tk:TA}{g:List Value->List Value->List Value}{gV:List V->List V->List V}
def yx (C:Addr)(m:Str)(sp:Sp)(gV:List V->List V->List V)(E:XK)(ta:TE)(tk:TA):TE:=λσ H Q=>ta σ H λx H1=>∃a dx fs,x=.ref a/\H1 a=some (.ins C dx fs)/\fs.lookup m=none /\
 tk σ H1 λzs H3=>sp (gV [x] zs) H3 Q E
theorem uI {pl:Sem Bool}(he:PE X o ta)(c:uF X.K C)(hm:Meth X.K C m f)(F:E6 X.prog X.w X.K X.mg X.base CX k f fd ps sp)(hr:oJ k X.A)(hb:Bb X.K fd ps ks g gV)(hx:cx CX X E)(hkw:PK X HS tk)
 (Lb:(backToKw pos (keywordEach HS X.env)).all (·.1.isSome)=true:=by rfl)(hks:(backToKw pos (keywordEach HS X.env)).filterMap (·.1)=ks:=by rfl)
 (FZ:((backTo pos (starEach [] X.env)).any (·.1) || (backToKw pos (keywordEach HS X.env)).any (·.1.isNone))=false:=by rfl)
 (ht:eval (.Call (.Attribute o m apos) [] HS pos) X.env=(do
  let ov <-eval o X.env
  standAt apos.atName
  let(f,first) <-holding [ov] (getMethod ov m pl)
  callWith pos f first (backTo pos (starEach [] X.env)) (backToKw pos (keywordEach HS X.env))):=by rfl):
 PE X (.Call (.Attribute o m apos) [] HS pos) (yx C m sp gV E ta tk):=by
 intro pins s σ H Q I h;refine methodCall_KW (pl:=pl) (bN (he pins s σ H _ I h) λu s1 z'=>?_) ht;obtain⟨x,H1,I1,rx,a,dx,fs,ex,ea,l,q⟩:=z';subst ex;obtain rfl:u=Value.ref a:=rx;refine eJ I1 ea c hm l ?_;refine callWith_KW0 (first:=[.ref a]) (h₀:=X.base) I.ok.mod.kin hm.kp Lb (bN (hkw pos pins s1 σ H1 _ I1 q) λws s3 ⟨zs,H3,I3,rz,q3⟩=>⟨I3.kIn,?_⟩) FZ;rw[hks];exact abx (us:=[.ref a]) (vs:=[.ref a]) F hr hb hx I3 (.cons rfl .nil) rz q3
end
end L2
namespace K80
open PySem L2 PySem.W Nm Srt
abbrev EI:Stmt:=(aR 66)
theorem ly:yI ["_law_pool_here","_law_bench","_law_prime_here","_law_places","_law_past","_law_wishes","_law_way","_law_terms_here","_law_side","_law_one","_law_found","_law_due"] Al (aq EI):=dm (by decide +kernel)
def E9 {α:Type}:List α->List α->List α
 |[a],[u,x]=>[a,x,u]
 |_,_=>[]
theorem y6 {vs:List V}{us:nZ}{zs:List V}{ws:nZ}(h:aG vs us)(k:aG zs ws):aG (E9 vs zs) (E9 us ws):=by
 cases h with
 |nil=>exact .nil
 |cons h1 t1 =>
  cases t1 with
  |nil =>
   cases k with
   |nil=>exact .nil
   |cons k1 k2 =>
    cases k2 with
    |nil=>exact .nil
    |cons k3 k4 =>
     cases k4 with
     |nil=>exact .cons h1 (.cons k3 (.cons k1 .nil))
     |cons _ _=>exact .nil
  |cons _ _=>cases k <;> exact .nil
def CZ (CB CS C CF:Addr):Sp:=λvs H Q _=>∃(F:List Addr)(r b pk w0 w1 ps W:Addr)(p n:Int)(nn:Nat)(kinds:List Bool),vs=[.ref r,.ref b,.int p,.int n,.ref ps,.ref W]/\aH H r/\r∈F/\r ∉ [b,pk,w0,w1,ps]/\A4 CB CS C CF F H b pk w0 w1 ps p n nn kinds/\nn<=100/\1<=n/\n<=3/\H W=some (.lst [.ref w0,.ref w1])/\W∉F /\
 ∀H' FH,bD F H H'->A4 CB CS C CF F H' b pk w0 w1 ps p n (nn+1) FH->Q (.bl true) H'
variable {p n:Int}
theorem pq {Fl:List (List Tm)}{ts:List Tm}(h:Ws p n Fl)(k:Wi 3930 5 p n ts):Ws p n (Fl++[ts]):=λt ht=>by
 rcases List.mem_append.mp ht with z|z
 ·exact h t z
 ·rw[List.mem_singleton.mp z];exact k
variable {CB CS C CF b pk w0 w1 ps:Addr}{F:List Addr}{H:Hp}{kinds:List Bool}
theorem A4.but {H':Hp}{r:Addr}{nn:Nat}(S:A4 CB CS C CF F H b pk w0 w1 ps p n nn kinds)(rF:r∈F)(nr:r ∉ [b,pk,w0,w1,ps])(sb:SameBut r H H')(R:aH H' r):A4 CB CS C CF F H' b pk w0 w1 ps p n nn kinds:=by
 obtain⟨sy,fl,as,bs,Fl,Ft,xs,ys,Bn,SF,sa,sB,h0,x0,h1,x1,W0,W1,l0,l1,c0,c1⟩:=S.ex;simp only[List.mem_cons,not_or,List.not_mem_nil,not_false_eq_true,and_true] at nr;obtain⟨n1,n2,n3,n4,n5⟩:=nr;have sF:bD F H H':=λc u e n=>sb c u e (λz=>n (z▸rF));have d:=bO sF;obtain⟨dx,pl,g1,g2,g3,g4⟩:=Bn.ex;refine⟨S.fp,⟨sy,fl,as,bs,Fl,Ft,xs,ys,⟨⟨dx,pl,sb _ _ g1 (Ne.symm n1),sF _ _ g2 g4,g3,g4⟩,sb _ _ Bn.ks (Ne.symm n2)⟩,SF.same d,sa.same d,sB.same d,sb _ _ h0 (Ne.symm n3),x0.same d,sb _ _ h1 (Ne.symm n4),x1.same d,W0,W1,l0,l1,c0,c1⟩,sb _ _ S.pst (Ne.symm n5),S.kl,S.mem,S.nd,λc hc=>?_⟩
 by_cases z:c=r
 ·obtain⟨l,x,e,_⟩:=R;exact⟨_,by rw[z];exact e,λxs z=>by cases z⟩
 ·obtain⟨u,e,nt⟩:=S.live c hc;exact⟨u,sb _ _ e z,nt⟩
theorem A4.same {H':Hp}{nn:Nat}(S:A4 CB CS C CF F H b pk w0 w1 ps p n nn kinds)(s:ay H H'):A4 CB CS C CF F H' b pk w0 w1 ps p n nn kinds:=by
 obtain⟨sy,fl,as,bs,Fl,Ft,xs,ys,Bn,SF,sa,sB,h0,x0,h1,x1,W0,W1,l0,l1,c0,c1⟩:=S.ex;have d:=aA (F:=F) s;exact⟨S.fp,⟨sy,fl,as,bs,Fl,Ft,xs,ys,Bn.same s,SF.same d,sa.same d,sB.same d,s _ _ h0,x0.same d,s _ _ h1,x1.same d,W0,W1,l0,l1,c0,c1⟩,s _ _ S.pst,S.kl,S.mem,S.nd,S.live.same s⟩
theorem A4.mono {nn mm:Nat}(S:A4 CB CS C CF F H b pk w0 w1 ps p n nn kinds)(k:nn<=mm):A4 CB CS C CF F H b pk w0 w1 ps p n mm kinds:=by
 obtain⟨sy,fl,as,bs,Fl,Ft,xs,ys,Bn,SF,sa,sB,h0,x0,h1,x1,W0,W1,l0,l1,c0,c1⟩:=S.ex;exact⟨S.fp,⟨sy,fl,as,bs,Fl,Ft,xs,ys,Bn,SF,sa,sB,h0,x0,h1,x1,W0,W1,Nat.le_trans l0 k,Nat.le_trans l1 k,c0,c1⟩,S.pst,Nat.le_trans S.kl k,S.mem,S.nd,S.live⟩
variable {P:u6}{w:World}{K:PySem.W.Frag}{mg:wg}{base:Heap}
theorem CA {f ft fw fi fs fp fb fr fn CN JF:Addr}{fd F0 GF HG GY Gi N9 NG JD:xR}(F:u3 K "_law_done" "_law_done" EI f fd)(cF:zZ K mg CF)(cS:Em K mg C)(cB:DL K mg CB)(FR:mg "int"=none)(Fg:mg "list"=none)(Fj:mg "len"=none)
 (Ge:E6 P w K mg base (aN P w) 1 ft F0 yy DE)(Gf:L2.av K F0 yy [])(Gg:mg "_law_take"=some (.ref ft))(Gh:keepIn K (.ref ft)=true)
 (FDw:E6 P w K mg base (aN P w) 7 fw GF qD yZ)(bDw:L2.av K GF qD [])(mDw:mg "_law_drawn_wish"=some (.ref fw))(kDw:keepIn K (.ref fw)=true)
 (MF:Mk K CF fi)(FFI:E6 P w K mg base (aN P w) 2 fi HG qH (i7 CF JF))(Gu:L2.av K HG qH [])
 (MS:Mk K C fs)(Jk:E6 P w K mg base (aN P w) 6 fs GY uD (eR C CF))(Hz:L2.av K GY uD [])
 (Km:E6 P w K mg base (aN P w) 7 fp Gi DF (t6 CB CS C CF CN))(N8:L2.av K Gi DF [])(Uh:L2.av K Gi DF [.bool false])(Ui:Bb K Gi DF ["upper","wish"] E9 E9)(Kn:Meth K CB "put" fp)
 (FBd:E6 P w K mg base (aN P w) 8 fb N9 AU (C0 CB CS C CF))(bBd:L2.av K N9 AU [])(mBd:mg "_law_backed"=some (.ref fb))(kBd:keepIn K (.ref fb)=true)
 (Rv:E6 P w K mg base (aN P w) 8 fr NG qS (AH CB CS C CF))(Rw:L2.av K NG qS [])(Rx:mg "_law_refusal"=some (.ref fr))(Ry:keepIn K (.ref fr)=true)
 (FNW:E6 P w K mg base (aN P w) 8 fn JD qD (BR C CF))(bNW:L2.av K JD qD [])(mNW:mg "_law_no_wish"=some (.ref fn))(kNW:keepIn K (.ref fn)=true):
 E6 P w K mg base (aN P w) 9 f fd Al (CZ CB CS C CF):=by
 refine F.okN ly (λvs H Q E h=>?_) (λFf A outer s H vs Q E hr h=>?_)
 ·obtain⟨F,r,b,pk,w0,w1,ps,W,p,n,nn,kinds,rfl,_⟩:=h;rfl
 ·obtain⟨Fz,r,b,pk,w0,w1,ps,W,p,n,nn,kinds,rfl,R,rF,nr,S,Og,n1,n3,hW,nW,q⟩:=h;have IS:oJ 8 _:=hr;have Ga:oJ 7 _:=IS.mono (by decide);have F5:oJ 3 _:=IS.mono (by decide);have Fp:oJ 1 _:=IS.mono (by decide)
  refine⟨_,(aj (@aC _ _ 6 _ _ _ _ ly.nd rfl (Or.inl rfl) (ax Ge Fp (by rfl) Gg Gh Gf .nil ae (@ah _ _ _ _ _ (pv 0) (@ah _ _ _ _ _ ao ag rfl) rfl)) rfl (Or.inl rfl))
   (aj (bq (@aL _ _ _ _ _ _ _ _ i3 (pv 6) ao (aB _)) (aj (@aC _ _ 7 _ _ _ _ ly.nd rfl (Or.inl rfl) (ax FDw Ga (by rfl) mDw kDw bDw .nil ae (@ah _ _ _ _ _ (pv 0) (@ah _ _ _ _ _ (pv 2) (@ah _ _ _ _ _ (pv 3) ag rfl) rfl) rfl)) rfl (Or.inl rfl))
   (aj (@aC _ _ 8 _ _ _ _ ly.nd rfl (Or.inl rfl) (bA hV (by rfl) FR (by rfl) (@ah _ _ _ _ _ (cp (@aZ _ _ _ _ _ _ _ _ cq (pv 2) ao (aB _)) (dJ (@aZ _ _ _ _ _ _ _ _ cq (ax Ge Fp (by rfl) Gg Gh Gf .nil ae (@ah _ _ _ _ _ (pv 0) (@ah _ _ _ _ _ ao ag rfl) rfl)) ao (aB _)))) ag rfl)) rfl (Or.inl rfl))
   (aj (@aC _ _ 9 _ _ _ _ ly.nd rfl (Or.inl rfl) (bf MS Jk Ga (by rfl) cS.mgC Hz .nil ae (@ah _ _ _ _ _ (bf MF FFI F5 (by rfl) cF.mgC Gu .nil ae (@ah _ _ _ _ _ (pv 2) ag rfl)) (@ah _ _ _ _ _ (bA ck (by rfl) Fg (by rfl) (@ah _ _ _ _ _ (pv 7) ag rfl)) ag rfl) rfl)) rfl (Or.inl rfl))
   (aj (bq (@aL _ _ _ _ _ _ _ _ cq (pv 8) ao (aB _)) (ar (@aC _ _ 10 _ _ _ _ ly.nd rfl (Or.inl rfl) (uI (pv 1) cB.cl Kn Km Ga Ui ae (ny gr (ny (pv 9) v9))) rfl (Or.inl rfl))) (ar (bq (@aL _ _ _ _ _ _ _ _ cq (ax Ge Fp (by rfl) Gg Gh Gf .nil ae (@ah _ _ _ _ _ (pv 0) (@ah _ _ _ _ _ ao ag rfl) rfl)) ao (aB _)) (ar (@aC _ _ 10 _ _ _ _ ly.nd rfl (Or.inl rfl) (fZ (dvs:=[.bl false]) (pv 1) cB.cl Kn Km Ga Uh (.cons rfl .nil) ae (@ah _ _ _ _ _ (pv 9) ag rfl)) rfl (Or.inl rfl))) (ar (@aC _ _ 10 _ _ _ _ ly.nd rfl (Or.inl rfl) (fZ (pv 1) cB.cl Kn Km Ga N8 .nil ae (@ah _ _ _ _ _ (pv 9) (@ah _ _ _ _ _ gr ag rfl) rfl)) rfl (Or.inl rfl))))))
   (aj (fA (rW PySem.F.plainAttrs_list PySem.F.slot_list_append PySem.F.type_list_append gZ (@a9 _ _ _ _ _ _ _ b7 (pv 5) (pv 8) (λ_ _=>rfl)) (@ah _ _ _ _ _ (pv 7) ag rfl)))
   (aj (fA (rW PySem.F.plainAttrs_list PySem.F.slot_list_append PySem.F.type_list_append gZ (pv 4) (@ah _ _ _ _ _ (pv 8) ag rfl)))
   (ar (az (@aZ _ _ _ _ _ _ _ _ om (pv 10) dj (aB _)))))))))) aM)
   (aj (bq (@aL _ _ _ _ _ _ _ _ i3 (pv 6) ao (aB _)) (ar (az (ax FBd IS (by rfl) mBd kBd bBd .nil ae (@ah _ _ _ _ _ (pv 1) (@ah _ _ _ _ _ (pv 4) (@ah _ _ _ _ _ (pv 5) ag rfl) rfl) rfl)))) aM)
   (aj (@aC _ _ 8 _ _ _ _ ly.nd rfl (Or.inl rfl) (ax Ge Fp (by rfl) Gg Gh Gf .nil ae (@ah _ _ _ _ _ (pv 0) (@ah _ _ _ _ _ ao ag rfl) rfl)) rfl (Or.inl rfl))
   (aj (@aC _ _ 11 _ _ _ _ ly.nd rfl (Or.inl rfl) (@bX _ _ _ _ _ (@ah _ _ _ _ _ (@a9 _ _ _ _ _ _ _ b7 (@bY _ _ _ _ (@ah _ _ _ _ _ da (@ah _ _ _ _ _ da ag rfl) rfl)) (pv 8) (λ_ _=>rfl)) (@ah _ _ _ _ _ (@a9 _ _ _ _ _ _ _ b7 (@bY _ _ _ _ (@ah _ _ _ _ _ (aF bx (by rfl) Fj PySem.boot_len (@ah _ _ _ _ _ (@a9 _ _ _ _ _ _ _ b7 (pv 5) (pv 8) (λ_ _=>rfl)) ag rfl)) (@ah _ _ _ _ _ dj ag rfl) rfl)) (bA hV (by rfl) FR (by rfl) (@ah _ _ _ _ _ (cp (@aZ _ _ _ _ _ _ _ _ cq (pv 8) ao (aB _)) (dJ (@aZ _ _ _ _ _ _ _ _ pP (pv 2) ao (aB _)))) ag rfl)) (λ_ _=>rfl)) ag rfl) rfl)) rfl (Or.inl rfl))
   (ar (az (@aZ _ _ _ _ _ _ _ _ (qj Fp) (ax Rv IS (by rfl) Rx Ry Rw .nil ae (@ah _ _ _ _ _ (pv 1) (@ah _ _ _ _ _ (ax FNW IS (by rfl) mNW kNW bNW .nil ae (@ah _ _ _ _ _ (pv 0) (@ah _ _ _ _ _ (pv 2) (@ah _ _ _ _ _ (pv 3) ag rfl) rfl) rfl)) (@ah _ _ _ _ _ (@aZ _ _ _ _ _ _ _ _ cq (pv 8) ao (aB _)) ag rfl) rfl) rfl)) (pv 11) (aB _))))))))),?_⟩
  have hp:=S.fp;have MJ:W≠r:=λz=>nW (z▸rF);have sF:∀{G G':Hp},SameBut r G G'->bD Fz G G':=λsb c u e n=>sb c u e (λz=>n (z▸rF));obtain⟨l,x,e,x0,x1⟩:=R;refine⟨_,rfl,r,l,x,6,rfl,e,x0,x1,by decide,by decide,λway l1 r1 y0 y1 g0 g1=>?_⟩;have R1:aH (upd H r (.lst [.int l1,.int r1])) r:=⟨l1,r1,af,g0,g1⟩;have Gy:SameBut r H (upd H r (.lst [.int l1,.int r1])):=SameBut.upd;have S1:=S.but rF nr Gy R1;have Oh:=Gy _ _ hW MJ;generalize upd H r (.lst [.int l1,.int r1])=H1 at R1 Gy S1 Oh |-;refine⟨_,rfl,_,_,rfl,rfl,_,rfl,?_⟩;refine c7 (λ_=>?_) (λ_=>?_)
  ·refine⟨_,rfl,_,rfl,_,rfl,r,p,n,rfl,R1,hp,n1,n3,λH2 D ts FQ R2 hD fD WD=>?_⟩;have S2:=S1.but rF nr FQ R2;have nDF:D∉Fz:=S1.live.not fD;have JK:=FQ _ _ Oh MJ;dsimp only[cc];refine jL (λσ' H'=>∃up:Bool,σ'=[some (.ref r),some (.ref b),some (.int p),some (.int n),some (.ref ps),some (.ref W),some (.int way),some (.ref D),some (.int (if up=true then 1 else 0)),none,none,none]/\(up=true->p=0)/\aH H' r/\SameBut r H2 H') (λD' hd=>?_) (λσ' H3 hR=>?_)
   ·refine⟨_,rfl,rfl,_,rfl,?_⟩
    by_cases z:p=0
    ·rw[decide_eq_true (show V.int p=V.int 0 by rw[z])];obtain⟨l2,x2,e2,a0,a1⟩:=R2;refine bw ⟨_,rfl,r,l2,x2,3,rfl,e2,a0,a1,by decide,by decide,λv l3 r3 v0 v1 g0 g1=>⟨rfl,?_⟩⟩;exact .inr ⟨_,rfl,hd _ _ ⟨decide (V.int v=V.int 0),rfl,λ_=>z,⟨l3,r3,af,g0,g1⟩,SameBut.upd⟩⟩
    ·rw[decide_eq_false (show ¬V.int p=V.int 0 from λy=>z (by injection y))];exact bH (.inr ⟨_,rfl,hd _ _ ⟨false,rfl,λy=>(nomatch y),R2,λ_ _ e _=>e⟩⟩)
   ·obtain⟨up,rfl,hup,R3,F4⟩:=hR;have S3:=S2.but rF nr F4 R3;have NI:=hD.but R2 F4;have hW3:=F4 _ _ JK MJ;refine⟨_,rfl,λfo dxo k1 k2 k3=>?_⟩;refine cE k1 k2 k3 hp λH4 s4 T8=>?_;have nfo:fo∉Fz:=S3.live.not k1;obtain⟨a,zs,ea,ha,hz⟩:=NI.same s4
    cases ea
    refine⟨_,rfl,D,zs,rfl,.inl (aV.of ha),λl hl=>?_⟩;have s5:=ak (o:=.lst zs) hl;have el:upd H4 l (.lst zs) l=some (.lst zs):=af;change D6 _ (upd H4 l (.lst zs)) _;generalize upd H4 l _=H5 at s5 el |-;refine λone GH j1 j2 j3=>?_;refine sf (F:=Fz) (n:=n) ((S3.live.same s4).same s5) (bZ (s5 _ _ T8) nfo) hp el (bJ.keep hz (aS.of s5)) (by omega) WD (by decide) (by decide) j1 j2 j3 λH6 s6 hS=>?_;have MK:=s4.trans (s5.trans s6);have S6:=S3.same MK;have R6:=R3.same MK;have hW6:=MK _ _ hW3;have Yt:uX (bK Fz H6) (.ref D) ts:=⟨D,zs,rfl,bZ ((s5.trans s6) _ _ ha) nDF,bJ.keep hz ((aS.of (s5.trans s6)).trans S6.live.tup)⟩;have Oi:bD Fz H H6:=(sF Gy).trans ((sF FQ).trans ((sF F4).trans (bD.of MK)));have kl:=S6.kl;obtain⟨sy,fl,as,bs,Fl,Ft,xs,ys,Bn,SF,sa,sB,h0,x0,h1,x1,W0,W1,l0,l1,c0,c1⟩:=S6.ex;obtain⟨mb,mk,m0,m1,ms⟩:=S6.mem;have nd:=S6.nd;simp only[List.nodup_cons,List.mem_cons,not_or,List.not_mem_nil,not_false_eq_true,List.nodup_nil,and_true] at nd;obtain⟨⟨Rq,Oa,Ob,LA⟩,⟨Oc,Od,LB⟩,⟨Ko,Kp⟩,Kq⟩:=nd;have Oj:=nr;simp only[List.mem_cons,not_or,List.not_mem_nil,not_false_eq_true,and_true] at Oj;obtain⟨rb,rk,r0,r1,rs⟩:=Oj;have bl:=sB.length;have al:=sa.length
    have put:∀(G:Hp)(Q':VK)(E':XK),SameBut r H6 G->aH G r →
     (∀H' FK,bD Fz H6 H'->dk Fz H'->H' w0=some (.lst xs)->H' w1=some (.lst ys)->H' ps=some (.lst (cj kinds))->um CB Fz H' b pk FK (kinds++[up])->Sy CS C CF (bK Fz H') FK fl p n (if up=true then as else as++[one]) (if up=true then bs++[one] else bs)->Q' .non H') →
     t6 CB CS C CF CN [.ref b,.ref one,.bl up] G Q' E':=by
     intro G Q' E' sG RG hq;have SG:=S6.but rF nr sG RG;have dG:=bO (sF sG);obtain⟨dx,pl,j1,j2,j3,j4⟩:=Bn.ex;have BG:um CB Fz G b pk sy kinds:=⟨⟨dx,pl,sG _ _ j1 (Ne.symm rb),sF sG _ _ j2 j4,j3,j4⟩,sG _ _ Bn.ks (Ne.symm rk)⟩;refine⟨Fz,b,pk,sy,fl,p,n,as,bs,kinds,.ref one,up,rfl,SG.live,mb,mk,BG,SF.same dG,by omega,.inl ⟨one,rfl,rq hp (by omega) WD (hS.same dG),λz=>⟨hup z,by omega⟩,λ_=>by omega,λH' FK s2 B2 S2=>?_⟩⟩;refine hq H' FK ((sF sG).trans (s2.toF mb mk)) (λc hc=>?_) (s2 _ _ (sG _ _ h0 (Ne.symm r0)) (Ne.symm Oa) (Ne.symm Oc)) (s2 _ _ (sG _ _ h1 (Ne.symm r1)) (Ne.symm Ob) (Ne.symm Od)) (s2 _ _ (sG _ _ S6.pst (Ne.symm rs)) (Ne.symm LA) (Ne.symm LB)) B2 S2
     by_cases z1:c=b
     ·obtain⟨GH,JI,g1,_⟩:=B2.ex;exact⟨_,by rw[z1];exact g1,λxs z=>by cases z⟩
     ·by_cases z2:c=pk
      ·exact⟨_,by rw[z2];exact B2.ks,λxs z=>by cases z⟩
      ·obtain⟨u,e,nt⟩:=SG.live c hc;exact⟨u,s2 _ _ e z1 z2,nt⟩
    dsimp only[cc];refine jL (λσ' H'=>∃FK,σ'=[some (.ref r),some (.ref b),some (.int p),some (.int n),some (.ref ps),some (.ref W),some (.int way),some (.ref D),some (.int (if up=true then 1 else 0)),some (.ref one),some .non,none]/\bD Fz H6 H'/\dk Fz H'/\H' w0=some (.lst xs)/\H' w1=some (.lst ys)/\H' ps=some (.lst (cj kinds))/\um CB Fz H' b pk FK (kinds++[up])/\Sy CS C CF (bK Fz H') FK fl p n (if up=true then as else as++[one]) (if up=true then bs++[one] else bs)) (λD' hd=>?_) (λσ' H7 hR=>?_)
    ·obtain⟨Hr,plb,jb,_⟩:=Bn.ex
     cases up with
     |true =>
      refine⟨_,rfl,rfl,_,rfl,bw ?_⟩;refine⟨_,rfl,b,Hr,_,rfl,jb,rfl,_,rfl,?_⟩;dsimp only[D6,bg,tC,List.cons_append,List.nil_append,E9];exact put H6 _ _ (λ_ _ e _=>e) R6 λH' FK a1 a2 a3 a4 a5 a6 a7=>hd _ _ ⟨FK,rfl,a1,a2,a3,a4,a5,a6,a7⟩
     |false =>
      refine⟨_,rfl,rfl,_,rfl,bH ?_⟩;obtain⟨l6,x6,e6,a0,a1⟩:=R6;refine⟨_,rfl,r,l6,x6,2,rfl,e6,a0,a1,by decide,by decide,λv l7 r7 v0 v1 g0 g1=>⟨rfl,_,rfl,?_⟩⟩;have R7:aH (upd H6 r (.lst [.int l7,.int r7])) r:=⟨l7,r7,af,g0,g1⟩;have Jn:SameBut r H6 (upd H6 r (.lst [.int l7,.int r7])):=SameBut.upd;have Yu:=Jn _ _ jb (Ne.symm rb);refine c7 (λ_=>?_) (λ_=>?_)
      ·refine⟨_,rfl,b,Hr,_,rfl,Yu,rfl,_,rfl,?_⟩;dsimp only[D6,bg,tC,List.cons_append,List.nil_append,List.append_nil];exact put _ _ _ Jn R7 λH' FK a1 a2 a3 a4 a5 a6 a7=>hd _ _ ⟨FK,rfl,a1,a2,a3,a4,a5,a6,a7⟩
      ·refine⟨_,rfl,b,Hr,_,rfl,Yu,rfl,_,rfl,?_⟩;dsimp only[D6,bg,tC,List.cons_append,List.nil_append,List.append_nil];exact put _ _ _ Jn R7 λH' FK a1 a2 a3 a4 a5 a6 a7=>hd _ _ ⟨FK,rfl,a1,a2,a3,a4,a5,a6,a7⟩
    obtain⟨FK,rfl,Ol,L7,e0,e1,Kr,Rz,Jm⟩:=hR;have Yv:=Ol _ _ hW6 nW
    cases up with
    |true =>
     refine⟨_,rfl,_,rfl,W,_,1,.ref w1,rfl,rfl,aV.of Yv,rfl,.inl ⟨rfl,_,aV.of e1⟩,_,rfl,w1,_,_,rfl,rfl,e1,?_,?_⟩
     ·rw[x1.length];exact Nat.lt_of_le_of_lt (by omega:_<=100) (by decide)
     have IT:upd H7 w1 (.lst (ys++[.ref D])) ps=some (.lst (cj kinds)):=by rw[ai (Ne.symm Kq)];exact Kr
     refine⟨_,rfl,.inl ⟨rfl,_,aV.of IT⟩,_,rfl,ps,_,_,rfl,rfl,IT,?_,?_⟩
     ·unfold cj;rw[List.length_map];exact Nat.lt_of_le_of_lt (Nat.le_trans kl Og) (by decide)
     refine⟨_,rfl,rfl,?_⟩;have LD:bD Fz H7 (upd (upd H7 w1 (.lst (ys++[.ref D]))) ps (.lst (cj kinds++[.int (if true=true then 1 else 0)]))):=(bD.upd m1).trans (bD.upd ms);have Om:=bO LD;have Ib:=(bO Ol).trans Om
     have Uj:um CB Fz (upd (upd H7 w1 (.lst (ys++[.ref D]))) ps (.lst (cj kinds++[.int (if true=true then 1 else 0)]))) b pk FK (kinds++[true]):=by
      obtain⟨GH,JI,j1,j2,j3,j4⟩:=Rz.ex;exact⟨⟨GH,JI,by rw[ai LA,ai Ob];exact j1,LD _ _ j2 j4,j3,j4⟩,by rw[ai LB,ai Od];exact Rz.ks⟩
     have Uk:=Jm.same Om;have Ul:=sa.same Ib;have Um:=sB.same Ib;have LF:BU C CF _ one p (fH ts):=hS.same Ib;have Uo:=x0.same Ib;have Uq:=x1.same Ib;have MH:=Yt.same Ib;refine q _ (kinds++[true]) (Oi.trans (Ol.trans LD)) ⟨hp,⟨FK,fl,as,bs++[one],Fl,Ft++[ts],xs,ys++[.ref D],Uj,Uk,Ul,Paired.snoc Um LF,?_,Uo,by rw[ai Kq,af],Paired.snoc Uq MH,W0,pq W1 WD,by omega,by rw[List.length_append];show Ft.length+1<=nn+1;omega,?_,?_⟩,by unfold cj;rw[af,List.map_append];rfl,by rw[List.length_append];show kinds.length+1<=nn+1;omega,S6.mem,S6.nd,(L7.upd λxs z=>by cases z).upd λxs z=>by cases z⟩
     ·rw[ai Kp,ai Ko];exact e0
     ·rw[List.count_append];simpa using c0
     ·rw[List.count_append,List.length_append];simpa using c1
    |false =>
     refine⟨_,rfl,_,rfl,W,_,0,.ref w0,rfl,rfl,aV.of Yv,rfl,.inl ⟨rfl,_,aV.of e0⟩,_,rfl,w0,_,_,rfl,rfl,e0,?_,?_⟩
     ·rw[x0.length];exact Nat.lt_of_le_of_lt (by omega:_<=100) (by decide)
     have IT:upd H7 w0 (.lst (xs++[.ref D])) ps=some (.lst (cj kinds)):=by rw[ai (Ne.symm Kp)];exact Kr
     refine⟨_,rfl,.inl ⟨rfl,_,aV.of IT⟩,_,rfl,ps,_,_,rfl,rfl,IT,?_,?_⟩
     ·unfold cj;rw[List.length_map];exact Nat.lt_of_le_of_lt (Nat.le_trans kl Og) (by decide)
     refine⟨_,rfl,rfl,?_⟩;have LD:bD Fz H7 (upd (upd H7 w0 (.lst (xs++[.ref D]))) ps (.lst (cj kinds++[.int (if false=true then 1 else 0)]))):=(bD.upd m0).trans (bD.upd ms);have Om:=bO LD;have Ib:=(bO Ol).trans Om
     have Uj:um CB Fz (upd (upd H7 w0 (.lst (xs++[.ref D]))) ps (.lst (cj kinds++[.int (if false=true then 1 else 0)]))) b pk FK (kinds++[false]):=by
      obtain⟨GH,JI,j1,j2,j3,j4⟩:=Rz.ex;exact⟨⟨GH,JI,by rw[ai LA,ai Oa];exact j1,LD _ _ j2 j4,j3,j4⟩,by rw[ai LB,ai Oc];exact Rz.ks⟩
     have Uk:=Jm.same Om;have Ul:=sa.same Ib;have Um:=sB.same Ib;have LF:BU C CF _ one p (fH ts):=hS.same Ib;have Uo:=x0.same Ib;have Uq:=x1.same Ib;have MH:=Yt.same Ib;refine q _ (kinds++[false]) (Oi.trans (Ol.trans LD)) ⟨hp,⟨FK,fl,as++[one],bs,Fl++[ts],Ft,xs++[.ref D],ys,Uj,Uk,Paired.snoc Ul LF,Um,by rw[ai Kp,af],Paired.snoc Uo MH,?_,Uq,pq W0 WD,W1,by rw[List.length_append];show Fl.length+1<=nn+1;omega,by omega,?_,?_⟩,by unfold cj;rw[af,List.map_append];rfl,by rw[List.length_append];show kinds.length+1<=nn+1;omega,S6.mem,S6.nd,(L7.upd λxs z=>by cases z).upd λxs z=>by cases z⟩
     ·rw[ai Kq,ai (Ne.symm Ko)];exact e1
     ·rw[List.count_append,List.length_append];simpa using c0
     ·rw[List.count_append];simpa using c1
  ·refine⟨_,rfl,_,_,rfl,rfl,_,rfl,?_⟩;refine c7 (λ_=>?_) (λ_=>?_)
   ·exact⟨_,rfl,_,rfl,_,rfl,Fz,b,pk,w0,w1,ps,W,p,n,nn,kinds,rfl,S1,Oh,nW,λH' FH s2 S'=>q H' FH ((sF Gy).trans s2) (S'.mono (Nat.le_succ _))⟩
   obtain⟨l1,x1,e1,a0,a1⟩:=R1;refine⟨_,rfl,r,l1,x1,2,rfl,e1,a0,a1,by decide,by decide,λside l2 r2 z0 z1 g0 g1=>?_⟩;have R2:aH (upd H1 r (.lst [.int l2,.int r2])) r:=⟨l2,r2,af,g0,g1⟩;have FQ:SameBut r H1 (upd H1 r (.lst [.int l2,.int r2])):=SameBut.upd;have S2:=S1.but rF nr FQ R2;have JK:=FQ _ _ Oh MJ;have Yw:=(sF Gy).trans (sF FQ);generalize upd H1 r (.lst [.int l2,.int r2])=H2 at R2 FQ S2 JK Yw |-;clear S1 FQ Oh Gy;obtain⟨sy,fl,as,bs,Fl,Ft,xs,ys,Bn,SF,sa,sB,h0,x0,h1,x1,W0,W1,m0,m1,c0,c1⟩:=S2.ex;obtain⟨mb,mk,_,_,_⟩:=S2.mem;have al:=sa.length;have bl:=sB.length;have xl:=x0.length;have yl:=x1.length;have kl:=S2.kl;dsimp only[cc];refine jL (λσ' H'=>∃(part:String)(v:V)(dv:D)(T:Addr),σ'=[some (.ref r),some (.ref b),some (.int p),some (.int n),some (.ref ps),some (.ref W),some (.int way),none,some (.int side),none,none,some (.ref T)]/\ay H2 H'/\H' T=some (.tup [.str part,v])/\(∀G,aK K G dv v)/\ix dv=0/\∀G x,WX C CF p n G x false->PW C CF p n G as bs x (decide (V.int side=V.int 1)) part v) (λD' hd=>?_) (λσ' H3 hR=>?_)
   ·refine⟨ic,λA1 Ur=>?_⟩;have s3:=ak (o:=.lst [.str "noughts",.str "uppers"]) Ur;have Us:upd H2 A1 (.lst [.str "noughts",.str "uppers"]) A1=some (.lst [.str "noughts",.str "uppers"]):=af;change cg 8 _ (upd H2 A1 (.lst [.str "noughts",.str "uppers"])) _;generalize upd H2 A1 _=H3 at s3 Us |-
    have two:side=0\/side=1:=by omega
    rcases two with rfl|rfl
    ·refine⟨_,rfl,A1,_,0,.str "noughts",rfl,rfl,aV.of Us,rfl,_,rfl,_,rfl,W,_,0,.ref w0,rfl,rfl,aV.of (s3 _ _ JK),rfl,w0,xs,rfl,.inl (aV.of (s3 _ _ h0)),ic,λA2 LG=>?_⟩;have s4:=ak (o:=.lst [.int xs.length,.non]) LG;have ML:upd H3 A2 (.lst [.int xs.length,.non]) A2=some (.lst [.int xs.length,.non]):=af;change zM _ _ _ (upd H3 A2 (.lst [.int xs.length,.non])) _;generalize upd H3 A2 _=H4 at s4 ML |-;refine⟨_,rfl,rfl,_,rfl,bH (.inr ⟨_,rfl,A2,_,0,.int xs.length,rfl,rfl,aV.of ML,rfl,ic,λT hT=>?_⟩)⟩;refine hd _ _ ⟨"noughts",.int xs.length,.int xs.length,T,rfl,s3.trans (s4.trans (ak hT)),af,λG=>by unfold aK;rfl,by unfold ix;rfl,λG x wx=>?_⟩;have:=PW.n0 (bs:=bs) (by omega:as.length<200) wx;rw[al,<-xl] at this;exact this
    ·refine⟨_,rfl,A1,_,1,.str "uppers",rfl,rfl,aV.of Us,rfl,_,rfl,_,rfl,W,_,1,.ref w1,rfl,rfl,aV.of (s3 _ _ JK),rfl,w1,ys,rfl,.inl (aV.of (s3 _ _ h1)),ic,λA2 LG=>?_⟩;have s4:=ak (o:=.lst [.int ys.length,.non]) LG;have ML:upd H3 A2 (.lst [.int ys.length,.non]) A2=some (.lst [.int ys.length,.non]):=af;change zM _ _ _ (upd H3 A2 (.lst [.int ys.length,.non])) _;generalize upd H3 A2 _=H4 at s4 ML |-;refine⟨_,rfl,rfl,_,rfl,bw ⟨_,rfl,_,_,rfl,rfl,?_⟩⟩
     by_cases F2:0<p
     ·have Ji:ml [V.int ys.length,V.non] (if decide (0<p)=true then 1 else 0)=some .non:=by
       rw[decide_eq_true F2];rfl
      refine .inr ⟨_,rfl,A2,_,_,.non,rfl,rfl,aV.of ML,Ji,ic,λT hT=>?_⟩;exact hd _ _ ⟨"uppers",.non,.non,T,rfl,s3.trans (s4.trans (ak hT)),af,λG=>by unfold aK;rfl,by unfold ix;rfl,λG x wx=>.u1 (by omega)⟩
     ·have p0:p=0:=by have:=hp.nn;omega
      have Ji:ml [V.int ys.length,V.non] (if decide (0<p)=true then 1 else 0)=some (.int ys.length):=by
       rw[decide_eq_false F2];rfl
      refine .inr ⟨_,rfl,A2,_,_,.int ys.length,rfl,rfl,aV.of ML,Ji,ic,λT hT=>?_⟩;refine hd _ _ ⟨"uppers",.int ys.length,.int ys.length,T,rfl,s3.trans (s4.trans (ak hT)),af,λG=>by unfold aK;rfl,by unfold ix;rfl,λG x wx=>?_⟩;have:=PW.u0 (as:=as) p0 (by omega:bs.length<200) wx;rw[bl,<-yl] at this;exact this
   ·obtain⟨part,v,dv,T,rfl,s3,eT,dv1,dv0,pw⟩:=hR;have S3:=S2.same s3;have R3:=R2.same s3;refine⟨_,rfl,_,rfl,_,rfl,_,rfl,r,p,n,rfl,R3,hp,n1,n3,λH4 x FN R4 wx=>?_⟩;have S4:=S3.but rF nr FN R4
    have nT:T≠r:=R3.ne eT λl z=>by cases z
    have eT4:=FN _ _ eT nT;have d4:=(aA (F:=Fz) s3).trans (bO (sF FN));obtain⟨dx,pl,j1,j2,j3,j4⟩:=Bn.ex;have Oj:=nr;simp only[List.mem_cons,not_or,List.not_mem_nil,not_false_eq_true,and_true] at Oj;obtain⟨rb,rk,_,_,_⟩:=Oj;have B4:um CB Fz H4 b pk sy kinds:=⟨⟨dx,pl,FN _ _ (s3 _ _ j1) (Ne.symm rb),sF FN _ _ (s3 _ _ j2) j4,j3,j4⟩,FN _ _ (s3 _ _ Bn.ks) (Ne.symm rk)⟩;refine⟨_,rfl,rfl,Fz,b,pk,sy,fl,p,n,as,bs,kinds,x,v,_,part,rfl,S4.live,mb,mk,B4,SF.same d4,by omega,pw H4 x wx,λH5 t s5 et=>?_⟩
    have dp:∀{G:Hp}{a:Addr},G a=some (.tup [.str part,v])->aK K G (.tup [.str part,dv]) (.ref a):=λ{G a} e=>by
     unfold aK;refine⟨a,_,rfl,bV.of e,?_⟩;unfold ba;refine⟨_,_,rfl,by unfold aK;rfl,?_⟩;unfold ba;refine⟨_,_,rfl,dv1 G,?_⟩;unfold ba;rfl
    refine⟨_,rfl,_,_,dp et,dp (s5 _ _ eT4),?_,?_⟩
    ·unfold ix dD dD dD;rw[dv0];unfold ix;decide
    ·rw[dE];exact q H5 kinds (Yw.trans ((bD.of s3).trans ((sF FN).trans (bD.of s5)))) ((S4.same s5).mono (Nat.le_succ _))
end K80
namespace L2
open PySem PySem.Spec PyProof.Rows PySem.W
def xS (K:Frag)(C:Addr)(sp:Sp):R2:=λx y H Q=>∃(a b:Addr)(as bs:List Addr),x=.ref a/\y=.ref b/\aV K H a (as.map V.ref)/\aV K H b (bs.map V.ref)/\as.length=bs.length /\
 (∀(i:Nat)(c d:Addr),as[i]?=some c->bs[i]?=some d->c≠d->∃dx fs t,H c=some (.ins C dx fs)/\Cw K H (.ref d) t/\notFirst K C t=true/\∀Q':VK,Q' (.bl true) H->sp [.ref c,.ref d] H Q' never)/\Q (.bl true) H
section
variable {X:Cx}{CX:wC}{k:Nat}{f C:Addr}{fd:xR}{ps:E4}{sp:Sp}
theorem qA (hs:findIn X.K (.ref C) "__eq__"=some (some (.ref f)))(hf:isFn X.K (.ref f)=true)(F:E6 X.prog X.w X.K X.mg X.base CX k f fd ps sp)(hr:oJ (k+1) X.A)(hb:av X.K fd ps [])(hx:cx CX X never)
 {pins:List (Addr×Obj)}{σ:St}{H:Hp}{s:AQ}{c d:Addr}{R:Bool->Shared->Prop}(I:Inv X pins σ H s)
 (h:c≠d->∃dx fs t,H c=some (.ins C dx fs)/\Cw X.K H (.ref d) t/\notFirst X.K C t=true/\∀Q':VK,Q' (.bl true) H->sp [.ref c,.ref d] H Q' never)
 (q:∀s',Inv X pins σ H s'->R true s'):wpAny (model X.prog X.w) X.A.in1 (eqBool (.ref c) (.ref d)) R X.xe s:=by
 unfold eqBool;refine wpAny_holding ?_
 by_cases e:c=d
 ·subst e;refine wpAny_ite_true (by simp) ?_;refine wpAny_bind (wpAny_rule ?_);exact wpAny_pure (q s I)
 ·obtain⟨dx,fs,t,hc,ty,hn,g⟩:=h e;refine wpAny_ite_false (by simp[e]) ?_;obtain⟨mA,O,_⟩:=dO I.hok hc;obtain⟨od,J,_⟩:=O.look;obtain⟨m,Fm⟩:=I.fr;refine wpAny_bind (cmp_K hr.in1.aaU Fm I.mod.kin J (qY I (show aE (.ref d) (.ref d) from rfl) ty) hn hs hf ?_);refine bN (nX F hr hb hx I (us:=[.ref c,.ref d]) (vs:=[.ref c,.ref d]) (.cons rfl (.cons rfl .nil)) (g (λv H'=>v=.bl true/\H'=H) ⟨rfl,rfl⟩)) λr s1 z'=>?_;obtain⟨z,H1,I1,rz,ez,eH⟩:=z';subst ez;subst eH
  cases(show r=Value.bool true from rz)
  exact wpAny_pure (q s1 I1)
theorem qy (hs:findIn X.K (.ref C) "__eq__"=some (some (.ref f)))(hf:isFn X.K (.ref f)=true)(F:E6 X.prog X.w X.K X.mg X.base CX k f fd ps sp)(hr:oJ (k+1) X.A)(hb:av X.K fd ps [])(hx:cx CX X never)
 {pins:List (Addr×Obj)}{σ:St}{H:Hp}{a b:Addr}{as bs:List Addr}{R:Result->Shared->Prop}(ha:aV X.K H a (as.map V.ref))(Kk:aV X.K H b (bs.map V.ref))(hl:as.length=bs.length)
 (h:∀(i:Nat)(c d:Addr),as[i]?=some c->bs[i]?=some d->c≠d->∃dx fs t,H c=some (.ins C dx fs)/\Cw X.K H (.ref d) t/\notFirst X.K C t=true/\∀Q':VK,Q' (.bl true) H->sp [.ref c,.ref d] H Q' never)
 (q:∀s',Inv X pins σ H s'->R (.ok (.ret (.bool true))) s')(hE:∀e s',X.xe e s'->R (.error e) s'):∀(n i:Nat)(s:AQ),i+n=as.length->Inv X pins σ H s →
  codeAny (model X.prog X.w) X.A (Code.builtin "list.__eq__.loop" {pos:=[.ref a,.ref b,rawInt i,rawInt 2]}) R s:=by
 intro n
 induction n with
 |zero =>
  intro i s hi I;refine codeAny_builtin MeetsSeq3.entry_eq_loop ?_;rw[Around.under_plainId MeetsSeq3.plain_eq_loop];obtain⟨its,rv,p1,_⟩:=I.list ha;obtain⟨Fq,Gj,p2,_⟩:=I.list Kk;have e1:=c8 rv;have e2:=c8 Gj;subst e1;subst e2;obtain⟨o1,g1,c1,m1,d1⟩:=p1.isList;obtain⟨o2,g2,c2,m2,d2⟩:=p2.isList;refine wpAny_bind (listItems_at g1 d1 (wpAny_bind (listItems_at g2 d2 ?_)))
  have hi:i=as.length:=by omega
  have z1:(as.map Value.ref).toArray[((i:Nat):Int).toNat]?=none:=by simp;omega
  rw[z1];refine wpAny_bind (listItems_at g1 d1 (wpAny_bind (listItems_at g2 d2 (wpAny_pure ?_))));show R (.ok (.ret (.bool ((as.map Value.ref).toArray.size==(bs.map Value.ref).toArray.size)))) s
  have ez:((as.map Value.ref).toArray.size==(bs.map Value.ref).toArray.size)=true:=by simp[hl]
  rw[ez];exact q s I
 |succ n ih =>
  intro i s hi I;refine codeAny_builtin MeetsSeq3.entry_eq_loop ?_;rw[Around.under_plainId MeetsSeq3.plain_eq_loop];obtain⟨its,rv,p1,_⟩:=I.list ha;obtain⟨Fq,Gj,p2,_⟩:=I.list Kk;have e1:=c8 rv;have e2:=c8 Gj;subst e1;subst e2;obtain⟨o1,g1,c1,m1,d1⟩:=p1.isList;obtain⟨o2,g2,c2,m2,d2⟩:=p2.isList;refine wpAny_bind (listItems_at g1 d1 (wpAny_bind (listItems_at g2 d2 ?_)))
  have i1:i<as.length:=by omega
  have i2:i<bs.length:=by omega
  have z1:(as.map Value.ref).toArray[((i:Nat):Int).toNat]?=some (.ref as[i]):=by simp[i1]
  have z2:(bs.map Value.ref).toArray[((i:Nat):Int).toNat]?=some (.ref bs[i]):=by simp[i2]
  rw[z1,z2];refine wpAny_bind (wpAny_mono (qA (R:=λv s'=>v=true/\Inv X pins σ H s') hs hf F hr hb hx I (h i _ _ (by simp[i1]) (by simp[i2])) λs' I'=>⟨rfl,I'⟩) (λv s' hv=>?_) hE);obtain⟨rfl,I'⟩:=hv;refine wpAny_ite_true rfl ?_;refine wpAny_pure ⟨plainId_quiet MeetsSeq3.plain_eq_loop _,?_⟩;have z:=ih (i+1) s' (by omega) I'
  have e:rawInt ((i+1:Nat):Int)=rawInt ((i:Int)+1):=by rw[Int.natCast_add];rfl
  rw[e] at z;exact z
theorem vL {M:Model}{A:Around}{E:vy}{s:AQ}{b:Addr}{o:Obj}{Q:Bool->Shared->Prop}(g:s.heap.get? b=some o)(c:o.cls=Value.type "list")(h:Q true s):wpAny M A (PySem.isInstance (.ref b) (.type "list")) Q E s:=by
 unfold PySem.isInstance;have L:Looks M s.heap (typeOf (.ref b)) (.type "list"):=c▸(Looks.ld g).andThen .now;refine wpAny_bind (L _ _ _ _ (λ_ _ e=>e) ?_);rw[AutoSeq1.sub_list_list];exact wpAny_pure h
theorem mq (hs:findIn X.K (.ref C) "__eq__"=some (some (.ref f)))(hf:isFn X.K (.ref f)=true)(F:E6 X.prog X.w X.K X.mg X.base CX k f fd ps sp)(hr:oJ (k+1) X.A)(hb:av X.K fd ps [])(hx:cx CX X never):
 gy X (compareOp .Eq) (xS X.K C sp):=by
 intro pins s σ H x y v u Q I rx ry h;obtain⟨a,b,as,bs,rfl,rfl,ha,Kk,hl,h,q⟩:=h
 cases(show v=Value.ref a from rx)
 cases(show u=Value.ref b from ry)
 obtain⟨its,rv,p1,_⟩:=I.list ha;obtain⟨Fq,Gj,p2,_⟩:=I.list Kk;have e1:=c8 rv;have e2:=c8 Gj;subst e1;subst e2;obtain⟨o1,g1,c1,m1,d1⟩:=p1.isList;obtain⟨o2,g2,c2,m2,d2⟩:=p2.isList;refine cmp_ofEq (wpAny_richCompare_same_room (T:="list") (show s.TypeIs (.ref a) "list" from⟨o1,g1,c1⟩) (show s.TypeIs (.ref b) "list" from⟨o2,g2,c2⟩) PySem.F.slot_list_eq ?_ hr.aaU);refine wpAny_call (codeAny_call_builtin_at (plainId_quiet PySem.F.slot_list_eq.plain _) PySem.F.entry_list_eq ?_);refine PySem.F.slot_list_eq.check _ _ _ _ _ _ _ _ ⟨o1,g1,c1⟩ (PySem.F.args_list_eq_2 _ _) ?_;rw[Around.under_plainId PySem.F.slot_list_eq.plain];refine wpAny_bind (m:=slotArgs "__eq__" 1 ⟨[.ref a,.ref b],[]⟩) (wpAny_pure (a:=(Value.ref a,[Value.ref b])) ?_);refine wpAny_bind (wpAny_mono (vL (Q:=λv s'=>v=true/\s'=s) g2 c2 ⟨rfl,rfl⟩) (λv s' hv=>?_) λe s' h=>h);obtain⟨rfl,rfl⟩:=hv;refine wpAny_ite_false rfl ?_;refine wpAny_ite_true rfl ?_;refine wpAny_bind (listItems_at g1 d1 (wpAny_bind (listItems_at g2 d2 ?_)));refine wpAny_ite_false (by simp[hl]) ?_;refine wpAny_pure ⟨plainId_quiet MeetsSeq3.plain_eq_loop _,?_⟩;exact qy hs hf F hr hb hx ha Kk hl h (λs' I'=>⟨by simp,.bl true,H,I',rfl,q⟩) (λe s' h=>h) as.length 0 s' (by omega) I
end
end L2
namespace K80
open PySem L2 PySem.W Nm Srt
def By (CS C CF:Addr):Sp:=λvs H Q _=>∃(s fl s' Iz:Addr)(p n:Int)(as bs JL Oo:List Addr)(Fl Ft:List (List Tm)),vs=[.ref s,.ref s']/\AY CS CF H s fl p n as bs/\AY CS CF H s' Iz p n JL Oo /\
 oY C CF H p as Fl/\oY C CF H p JL Fl/\oY C CF H p bs Ft/\oY C CF H p Oo Ft/\Q (.bl true) H
variable {P:u6}{w:World}{K:PySem.W.Frag}{mg:wg}{base:Heap}
theorem sC {C CF:Addr}{H:Hp}{p:Int}{as JL:List Addr}{Fl:List (List Tm)}(c:Ci K mg C)(h:oY C CF H p as Fl)(h':oY C CF H p JL Fl):
 as.length=JL.length/\∀(i:Nat)(x d:Addr),as[i]?=some x->JL[i]?=some d->x≠d->∃dx fs t,H x=some (.ins C dx fs)/\Cw K H (.ref d) t/\notFirst K C t=true/\∀Q':VK,Q' (.bl true) H->vq K C CF [.ref x,.ref d] H Q' never:=by
 refine⟨by rw[h.length,h'.length],λi x d hx hd _=>?_⟩;obtain⟨ts,et,z⟩:=bR h hx;obtain⟨us,eu,y⟩:=bR h' hd;rw[et] at eu
 cases eu
 obtain⟨dx,fl,Fh,D,zs,h1,_⟩:=z.ex;obtain⟨J5,Iz,IA,D',zs',g1,_⟩:=y.ex;refine⟨dx,_,.ref C,h1,c.ty g1,ij,λQ' q=>⟨x,p,_,.ref d,rfl,z,.inl ⟨d,p,_,rfl,y,?_⟩⟩⟩;rw[dE,decide_eq_true rfl];exact q
theorem C3 {f fe fs C CS CF:Addr}{fd Ki GY:xR}(F:u3 K "__eq__" "System.__eq__" CY f fd)(cS:Cy K mg CS)(c:Ci K mg C)(cF:zZ K mg CF)(Fd:mg "isinstance"=none)
 (FE:E6 P w K mg base (aN P w) 1 fe Ki DB (zw CF))(bE:L2.av K Ki DB [])(nE:findIn K (.ref CF) "__eq__"=some (some (.ref fe)))(iE:isFn K (.ref fe)=true)
 (FS:E6 P w K mg base (aN P w) 2 fs GY DB (vq K C CF))(bS:L2.av K GY DB [])(nS:findIn K (.ref C) "__eq__"=some (some (.ref fs)))(iS:isFn K (.ref fs)=true):
 E6 P w K mg base (aN P w) 4 f fd DB (By CS C CF):=by
 refine F.okN Ct (λvs H Q E h=>?_) (λFf A outer s H vs Q E hr h=>?_)
 ·obtain⟨s,fl,s',Iz,p,n,as,bs,JL,Oo,Fl,Ft,rfl,_⟩:=h;rfl
 ·obtain⟨s,fl,s',Iz,p,n,as,bs,JL,Oo,Fl,Ft,rfl,S,S',ha,JA,hb,F9,q⟩:=h;obtain⟨dx,Fh,A,B,h1,h2,h3,h4⟩:=S.ex;obtain⟨J5,IA,A',B',g1,g2,g3,g4⟩:=S'.ex;have F5:oJ 3 _:=hr;have Fp:oJ 1 _:=hr.mono (by decide);obtain⟨la,ea⟩:=sC c ha JA;obtain⟨lb,eb⟩:=sC c hb F9;refine⟨_,(ar (az (cp (aF bu (by rfl) Fd (by rfl) (@ah _ _ _ _ _ (pv 1) (@ah _ _ _ _ _ (cD (by rfl) cS.mgC (show aE (.ref CS) (.ref CS) from rfl)) ag rfl) rfl)) (cp (@aZ _ _ _ _ _ _ _ _ (kb nE iE FE Fp bE ae) (aW (pv 0) rfl) (aW (pv 1) rfl) (aB _)) (cp (@aZ _ _ _ _ _ _ _ _ cq (aW (pv 0) rfl) (aW (pv 1) rfl) (aB _)) (cp (@aZ _ _ _ _ _ _ _ _ (mq nS iS FS F5 bS ae) (aW (pv 0) rfl) (aW (pv 1) rfl) (aB _)) (dJ (@aZ _ _ _ _ _ _ _ _ (mq nS iS FS F5 bS ae) (aW (pv 0) rfl) (aW (pv 1) rfl) (aB _))))))))),?_⟩;refine⟨_,rfl,.ref s',.ref CS,_,_,_,rfl,rfl,cS.ty g1,cS.is,_,rfl,bw ?_⟩;refine⟨_,rfl,s,CS,dx,_,_,rfl,h1,cS.cl,cS.nF,rfl,_,rfl,s',CS,J5,_,_,rfl,g1,cS.cl,cS.nF,rfl,?_⟩;refine⟨fl,Fh,_,.ref CF,rfl,h2,cF.ty g2,ij,fl,Fh,p,.ref Iz,rfl,h2,.inl ⟨Iz,IA,p,rfl,g2,_,rfl,?_⟩⟩;refine⟨_,rfl,?_⟩;rw[decide_eq_true (rfl:p=p)];refine bw ?_;refine⟨_,rfl,s,CS,dx,_,_,rfl,h1,cS.cl,cS.nP,rfl,_,rfl,s',CS,J5,_,_,rfl,g1,cS.cl,cS.nP,rfl,rfl,_,rfl,?_⟩;rw[decide_eq_true (rfl:V.int n=V.int n)];refine bw ?_;refine⟨_,rfl,s,CS,dx,_,_,rfl,h1,cS.cl,cS.nN,rfl,_,rfl,s',CS,J5,_,_,rfl,g1,cS.cl,cS.nN,rfl,?_⟩;refine⟨A,A',as,JL,rfl,rfl,aV.of h3,aV.of g3,la,ea,_,rfl,bw ?_⟩;refine⟨_,rfl,s,CS,dx,_,_,rfl,h1,cS.cl,cS.nU,rfl,_,rfl,s',CS,J5,_,_,rfl,g1,cS.cl,cS.nU,rfl,?_⟩;exact⟨B,B',bs,Oo,rfl,rfl,aV.of h4,aV.of g4,lb,eb,q⟩
end K80
namespace PySem
open Sem (wp)
open Builtin
namespace AutoSeq1
end AutoSeq1
end PySem
namespace L2
open PySem PySem.Spec PyProof.Rows
end L2
namespace K80
open PySem L2 PySem.W Nm Srt
abbrev Bw:Stmt:=(aR 67)
def rH (K:Frag)(H:Hp)(a:Addr)(ns:List Int):Prop:=(∃o,H a=some (.frz o (.lst (ns.map V.int))))\/∃(o:Obj)(its:tN)(n:Nat),K.lookup a=some o/\o.cls=.type "list"/\o.dict=none/\o.data=.seq its n/\its.size<=sizeLine/\L2.aG (ns.map V.int) its.toList
variable {K:Frag}{H:Hp}{a:Addr}{ns:List Int}
theorem rH.sq (h:rH K H a ns):aV K H a (ns.map V.int):=by
 rcases h with⟨o,h⟩|h
 ·exact .inl (.inr ⟨o,h⟩)
 ·exact .inr h
variable {H':Hp}
theorem rH.same (h:rH K H a ns)(S:ay H H'):rH K H' a ns:=by
 rcases h with⟨o,h⟩|h
 ·exact .inl ⟨o,S _ _ h⟩
 ·exact .inr h
variable {F:List Addr}
theorem rH.sF (h:rH K H a ns)(L:∀c∈F,∃u,H c=some u/\∀o v,u≠.frz o v)(S:bD F H H'):rH K H' a ns:=by
 rcases h with⟨o,h⟩|h
 ·refine .inl ⟨o,S _ _ h λz=>?_⟩;obtain⟨u,e,n⟩:=L a z;rw[h] at e
  cases e
  exact n _ _ rfl
 ·exact .inr h
variable {r:Addr}
theorem rH.but (h:rH K H a ns)(R:aH H r)(S:SameBut r H H'):rH K H' a ns:=by
 rcases h with⟨o,h⟩|h
 ·exact .inl ⟨o,S _ _ h (R.ne h λl z=>by cases z)⟩
 ·exact .inr h
theorem hJ (s:ay H H')(h:∀c∈F,H c=none):ay H (bK F H'):=λc u e=>bZ (s _ _ e) λz=>by
 rw[h c z] at e
 cases e
theorem mX {F':List Addr}(s:ay H H')(h:∀c∈F',c∈F\/H c=none):ay (bK F H) (bK F' H'):=λc u e=>bZ (s _ _ (aJ _ _ e)) λz=>by
 rcases h c z with k|k
 ·exact fN e k
 ·rw[aJ _ _ e] at k
  cases k
variable {C CF:Addr}{p n:Int}
theorem EF {as:List Addr}{Fl:List (List Tm)}(hp:FP p)(n0:0<=n)(hs:oY C CF H p as Fl)(W:Ws p n Fl):∀a∈as,WX C CF p n H (.ref a) true:=λa ha=>by
 obtain⟨i,hi⟩:=List.mem_iff_getElem?.mp ha;obtain⟨ts,et,z⟩:=bR hs hi;exact rq hp n0 (W ts (List.mem_of_getElem? et)) z
variable {CB CS b pk w0 w1 ps:Addr}{kinds:List Bool}
theorem A4.fresh {l x:Int}{nn:Nat}(S:A4 CB CS C CF F H b pk w0 w1 ps p n nn kinds)(h:H r=none):A4 CB CS C CF (r::F) (upd H r (.lst [.int l,.int x])) b pk w0 w1 ps p n nn kinds:=by
 obtain⟨sy,fl,as,bs,Fl,Ft,xs,ys,Bn,SF,sa,sB,h0,x0,h1,x1,W0,W1,l0,l1,c0,c1⟩:=S.ex;have s:=ak (o:=.lst [.int l,.int x]) h
 have d:ay (bK F H) (bK (r::F) (upd H r (.lst [.int l,.int x]))):=mX s λc hc=>by
  rcases List.mem_cons.mp hc with z|z
  ·exact .inr (by rw[z];exact h)
  ·exact .inl z
 obtain⟨dx,pl,g1,g2,g3,g4⟩:=Bn.ex;refine⟨S.fp,⟨sy,fl,as,bs,Fl,Ft,xs,ys,⟨⟨dx,pl,s _ _ g1,s _ _ g2,g3,λz=>?_⟩,s _ _ Bn.ks⟩,SF.same d,sa.same d,sB.same d,s _ _ h0,x0.same d,s _ _ h1,x1.same d,W0,W1,l0,l1,c0,c1⟩,s _ _ S.pst,S.kl,?_,S.nd,λc hc=>?_⟩
 ·rcases List.mem_cons.mp z with z|z
  ·rw[z,h] at g2
   cases g2
  ·exact g4 z
 ·obtain⟨m1,m2,m3,m4,m5⟩:=S.mem;exact⟨.tail _ m1,.tail _ m2,.tail _ m3,.tail _ m4,.tail _ m5⟩
 ·rcases List.mem_cons.mp hc with z|z
  ·exact⟨_,by rw[z];exact af,λxs y=>by cases y⟩
  ·exact S.live.same s c z
theorem A4.tail {nn:Nat}(S:A4 CB CS C CF (r::F) H b pk w0 w1 ps p n nn kinds)(m:b∈F/\pk∈F/\w0∈F/\w1∈F/\ps∈F):A4 CB CS C CF F H b pk w0 w1 ps p n nn kinds:=by
 obtain⟨sy,fl,as,bs,Fl,Ft,xs,ys,Bn,SF,sa,sB,h0,x0,h1,x1,W0,W1,l0,l1,c0,c1⟩:=S.ex;have d:ay (bK (r::F) H) (bK F H):=λc u e=>bZ (aJ _ _ e) λz=>fN e (.tail _ z);obtain⟨dx,pl,g1,g2,g3,g4⟩:=Bn.ex;exact⟨S.fp,⟨sy,fl,as,bs,Fl,Ft,xs,ys,⟨⟨dx,pl,g1,g2,g3,λz=>g4 (.tail _ z)⟩,Bn.ks⟩,SF.same d,sa.same d,sB.same d,h0,x0.same d,h1,x1.same d,W0,W1,l0,l1,c0,c1⟩,S.pst,S.kl,m,S.nd,λc hc=>S.live c (.tail _ hc)⟩
theorem A4.nf {nn:Nat}(S:A4 CB CS C CF F H b pk w0 w1 ps p n nn kinds):∀c∈[b,pk,w0,w1,ps],∃u,H c=some u/\∀o v,u≠.frz o v:=λc hc=>by
 obtain⟨sy,fl,as,bs,Fl,Ft,xs,ys,Bn,SF,sa,sB,h0,x0,h1,x1,_⟩:=S.ex;obtain⟨dx,pl,g1,_⟩:=Bn.ex;simp only[List.mem_cons,List.not_mem_nil,or_false] at hc
 rcases hc with rfl|rfl|rfl|rfl|rfl
 ·exact⟨_,g1,λo v z=>by cases z⟩
 ·exact⟨_,Bn.ks,λo v z=>by cases z⟩
 ·exact⟨_,h0,λo v z=>by cases z⟩
 ·exact⟨_,h1,λo v z=>by cases z⟩
 ·exact⟨_,S.pst,λo v z=>by cases z⟩
variable {sy:Addr}
theorem tH (B:um CB F H b pk sy kinds):dk [b,pk] H:=λc hc=>by
 obtain⟨dx,pl,g1,_⟩:=B.ex;simp only[List.mem_cons,List.not_mem_nil,or_false] at hc
 rcases hc with rfl|rfl
 ·exact⟨_,g1,λxs y=>by cases y⟩
 ·exact⟨_,B.ks,λxs y=>by cases y⟩
theorem um.abU (B:um CB F H b pk sy kinds):um CB [b,pk] H b pk sy kinds:=by
 obtain⟨dx,pl,g1,g2,g3,g4⟩:=B.ex;refine⟨⟨dx,pl,g1,g2,g3,λz=>?_⟩,B.ks⟩;simp only[List.mem_cons,List.not_mem_nil,or_false] at z
 rcases z with z|z
 ·rw[z,g1] at g2
  cases g2
 ·exact g3 z
section
variable {C CF CS CN CB:Addr}{H:Hp}{Q:Hp->Prop}{E:XK}{F:List Addr}
theorem n9 (Lv:dk F H){Hr:Addr}(h1:H b=none)(h2:H Hr=none)(ne:Hr≠b)(q:∀H' pk,ay H H'->H pk=none->um CB F H' b pk sy []->Q H'):
 Am CB [.ref b,.ref sy] (upd (upd H Hr (.own b)) b (.ins CB Hr [])) (λv H2=>v=.non/\Q H2) E:=by
 have hS:ay H (upd (upd H Hr (.own b)) b (.ins CB Hr [])):=(ak h2).trans (ak (by rw[ai (Ne.symm ne)];exact h1));exact⟨F,b,Hr,sy,rfl,af,Lv.same hS,λH' pk k nP B=>⟨rfl,q H' pk (fU h1 h2 ne k) (none_of hS nP) B⟩⟩
theorem vS {fl Fh:Addr}(hf:H fl=some (.ins CF Fh (cK p)))(hp:FP p){x dx:Addr}(h1:H x=none)(h2:H dx=none)(ne:dx≠x)(q:∀H',ay H H'->BU C CF H' x p []->Q H'):
 eR C CF [.ref x,.ref fl,.non] (upd (upd H dx (.own x)) x (.ins C dx [])) (λv H2=>v=.non/\Q H2) E:=by
 have hS:ay H (upd (upd H dx (.own x)) x (.ins C dx [])):=(ak h2).trans (ak (by rw[ai (Ne.symm ne)];exact h1));have W:Wi 45 1 p 1 []:=⟨List.nodup_nil,λt ht=>(nomatch ht),Nat.zero_le _⟩;refine⟨x,dx,fl,Fh,p,.non,[],rfl,af,hS _ _ hf,hp,.inl ⟨rfl,rfl⟩,W.gth (by decide) (by decide),λt ht=>(nomatch ht),λH' D zs k nD hs hD hz=>⟨rfl,?_⟩⟩;have sH:=fU h1 h2 ne k;exact q H' sH ⟨dx,fl,Fh,D,zs,hs,sH _ _ hf,hD,hz⟩
theorem vk (z:Addr):(List.replicate (199:Int).toNat [V.ref z]).flatten=(List.replicate 199 z).map V.ref:=by
 rw[List.map_replicate];rfl
theorem rN {z:Addr}{n:Int}(hp:FP p)(n0:0<=n)(h:BU C CF H z p []):WX C CF p n H (.ref z) true:=rq (ts:=[]) hp n0 ⟨List.nodup_nil,λt ht=>(nomatch ht),Nat.zero_le _⟩ h
theorem oj {z:Addr}{k:Nat}(h:WX C CF p n H (.ref z) true):∀a∈List.replicate k z,WX C CF p n H (.ref a) true:=λa ha=>by
 rw[List.eq_of_mem_replicate ha];exact h
theorem kK {H0:Hp}{fl:Addr}{as bs:List Addr}(s:ay H0 H')(nb:H0 b=none)(np:H0 pk=none)(S:AY CS CF H0 sy fl p 1 as bs)(wa:∀a∈as,WX C CF p 1 H0 (.ref a) true)(wb:∀a∈bs,WX C CF p 1 H0 (.ref a) true)(u0:bs≠[]->p=0):
 Sy CS C CF (bK [b,pk] H') sy fl p 1 as bs:=by
 have d:ay H0 (bK [b,pk] H'):=hJ s λc hc=>by
  simp only[List.mem_cons,List.not_mem_nil,or_false] at hc
  rcases hc with rfl|rfl
  ·exact nb
  ·exact np
 exact Sy.same ⟨S,Int.le_refl 1,(by decide:(1:Int)<=60),wa,wb,u0⟩ d
theorem gY {K:PySem.W.Frag}{G:Hp}{z:Str}(e:G a=some (.tup [.str z,.non])):aK K G (.tup [.str z,.non]) (.ref a):=by
 unfold aK;refine⟨a,_,rfl,bV.of e,?_⟩;unfold ba;refine⟨_,_,rfl,by unfold aK;rfl,?_⟩;unfold ba;refine⟨_,_,rfl,by unfold aK;rfl,?_⟩;unfold ba;rfl
theorem pO {z:Str}:ix (.tup [.str z,.non])<=32:=by
 unfold ix dD dD dD ix;decide
end
def vt (K:Frag):Sp:=λvs H Q _=>∃(a:Addr)(ns:List Int),vs=[.ref a]/\rH K H a ns/\ns.length<=63/\∀H',Q (.bl true) H'
theorem eF:yI ["_law_script","_law_pool_here","_law_prime_here","_law_places","_law_ones","_law_others","_law_wishes","_law_bench","_law_past","_law_k","_law_system_here","_law_zero","_law_full"] ["_law_script"] (aq Bw):=dm (by decide +kernel)
variable {P:u6}{w:World}{K:PySem.W.Frag}{mg:wg}{base:Heap}
set_option maxHeartbeats 4000000 in
theorem Ah {f fo ft Ut Uu Uv Yx JD Yy Yz Uw fi fs fy YA frf Ux CN JF:Addr}{fd Nx F0 Oq Ot Ou Ov Ow Ox Oy Oz HG GY HY LH OA OB:xR}(F:u3 K "law" "law" Bw f fd)(cF:zZ K mg CF)(cS:Em K mg C)(cY:Cy K mg CS)(cB:DL K mg CB)
 (Fi:mg "range"=none)(GG:mg "max"=none)(IU:mg "min"=none)(Fj:mg "len"=none)(FR:mg "int"=none)(Fg:mg "list"=none)
 (Rh:E6 P w K mg base (aN P w) 1 fo Nx ud (xx K))(Ri:L2.av K Nx ud [])(Rj:mg "_law_pool"=some (.ref fo))(YB:keepIn K (.ref fo)=true)
 (Ge:E6 P w K mg base (aN P w) 1 ft F0 yy DE)(Gf:L2.av K F0 yy [])(Gg:mg "_law_take"=some (.ref ft))(Gh:keepIn K (.ref ft)=true)
 (FSm:E6 P w K mg base (aN P w) 7 Ut Oq wU Bs)(bSm:L2.av K Oq wU [])(mSm:mg "_law_small_wishes"=some (.ref Ut))(kSm:keepIn K (.ref Ut)=true)
 (IG:E6 P w K mg base (aN P w) 5 Uu Ot Aq DU)(IH:L2.av K Ot Aq [])(IJ:mg "_law_terms"=some (.ref Uu))(IL:keepIn K (.ref Uu)=true)
 (OC:E6 P w K mg base (aN P w) 8 Uv Ou Bp (zy CS C CF))(OD:L2.av K Ou Bp [])(OE:mg "_law_system"=some (.ref Uv))(OF:keepIn K (.ref Uv)=true)
 (MB:Mk K CB Yx)(Uy:E6 P w K mg base (aN P w) 1 Yx Ov we (Am CB))(LI:L2.av K Ov we [])
 (FDn:E6 P w K mg base (aN P w) 9 JD Ow Al (CZ CB CS C CF))(bDn:L2.av K Ow Al [])(mDn:mg "_law_done"=some (.ref JD))(kDn:keepIn K (.ref JD)=true)
 (RA:E6 P w K mg base (aN P w) 1 Yy Ox ["self"] (Ck CB))(RB:L2.av K Ox ["self"] [])(RC:Meth K CB "system" Yy)
 (FBK:E6 P w K mg base (aN P w) 1 Yz Oy ["self"] (C9 CB))(Ui:L2.av K Oy ["self"] [])(mBK:Meth K CB "kept" Yz)
 (YC:E6 P w K mg base (aN P w) 4 Uw Oz DB (By CS C CF))(YD:L2.av K Oz DB [])(YE:findIn K (.ref CS) "__eq__"=some (some (.ref Uw)))(YF:isFn K (.ref Uw)=true)(YG:findIn K (.ref CS) "__ne__"=some (some (.builtin "object.__ne__")))
 (MF:Mk K CF fi)(FFI:E6 P w K mg base (aN P w) 2 fi HG qH (i7 CF JF))(Gu:L2.av K HG qH [])
 (MS:Mk K C fs)(Jk:E6 P w K mg base (aN P w) 6 fs GY uD (eR C CF))(OG:L2.av K GY uD [.none])
 (MY:Mk K CS fy)(IC:E6 P w K mg base (aN P w) 5 fy HY AL (qd CS C CF CN))(Lr:L2.av K HY AL [.none])(GJ:L2.av K HY AL [])
 (Km:E6 P w K mg base (aN P w) 7 YA LH DF (t6 CB CS C CF CN))(N8:L2.av K LH DF [])(Uh:L2.av K LH DF [.bool false])(Kn:Meth K CB "put" YA)
 (Rv:E6 P w K mg base (aN P w) 8 frf OA qS (AH CB CS C CF))(Rw:L2.av K OA qS [])(Rx:mg "_law_refusal"=some (.ref frf))(Ry:keepIn K (.ref frf)=true)
 (YH:E6 P w K mg base (aN P w) 1 Ux OB ["self"] (xB CS CF))(YI:L2.av K OB ["self"] [])(YJ:findIn K (.ref CS) "__len__"=some (some (.ref Ux)))(YK:isFn K (.ref Ux)=true):
 E6 P w K mg base (aN P w) 10 f fd ["_law_script"] (vt K):=by
 refine F.okN eF (λvs H Q E h=>?_) (λFf A outer s H vs Q E hr h=>?_)
 ·obtain⟨a,ns,rfl,_⟩:=h;rfl
 ·obtain⟨a,ns,rfl,Jo,hlen,fin⟩:=h;have Ku:oJ 9 _:=hr;have IS:oJ 8 _:=Ku.mono (by decide);have Ga:oJ 7 _:=Ku.mono (by decide);have Gv:oJ 6 _:=Ku.mono (by decide);have Hb:oJ 5 _:=Ku.mono (by decide);have F5:oJ 3 _:=Ku.mono (by decide);have FY:oJ 2 _:=Ku.mono (by decide);have Fp:oJ 1 _:=Ku.mono (by decide)
  refine⟨_,(@aj _ _ _ _ _ (@aC _ _ 1 _ _ _ _ eF.nd rfl (Or.inr rfl) (ax Rh Fp (by rfl) Rj YB Ri .nil ae (@ah _ _ _ _ _ (pv 0) (@ah _ _ _ _ _ ao ag rfl) rfl)) rfl (Or.inl rfl))
   (@aj _ _ _ _ _ (nO (ax FSm Ga (by rfl) mSm kSm bSm .nil ae (@ah _ _ _ _ _ (pv 1) (@ah _ _ _ _ _ ao ag rfl) rfl)) (fJ rfl (bo (aI (i:=2) eF.nd rfl (Or.inr rfl)) (bo (aI (i:=3) eF.nd rfl (Or.inr rfl)) (bo (aI (i:=4) eF.nd rfl (Or.inl rfl)) dB)))))
   (@aj _ _ _ _ _ (fF (i:=5) (N:=["_law_turn","_law_pool_here","_law_prime_here","_law_places"]) (nl:=1) (js:=[1,2,3]) (osc:=aq Bw) ⟨rfl,rfl,by decide +kernel,by decide +kernel,by decide +kernel,rfl,(.cons ⟨rfl,by decide +kernel⟩ (.cons ⟨rfl,by decide +kernel⟩ (.cons ⟨rfl,by decide +kernel⟩ .nil))),by decide +kernel⟩ rfl eF.nd rfl (Or.inl rfl)
    (dY (by rfl) Fi (@ah _ _ _ _ _ (@aO _ _ _ _ _ _ _ _ cX (ax Ge Fp (by rfl) Gg Gh Gf .nil ae (@ah _ _ _ _ _ (pv 1) (@ah _ _ _ _ _ ao ag rfl) rfl)) (bA hV (by rfl) FR (by rfl) (@ah _ _ _ _ _ (@aZ _ _ _ _ _ _ _ _ cq (pv 2) ao (aB _)) ag rfl))) ag rfl))
    (λCq fq sq Hq=>aI (i:=0) (by show(["_law_turn","_law_pool_here","_law_prime_here","_law_places"]:E4).Nodup;decide +kernel) rfl (Or.inl rfl) (Or.inr rfl))
    (λCq fq sq Hq=>cZ)
    (λCq fq sq Hq=>(ax IG Hb (by rfl) IJ IL IH .nil ae (@ah _ _ _ _ _ (pv 1) (@ah _ _ _ _ _ (pv 2) (@ah _ _ _ _ _ (pv 3) (@ah _ _ _ _ _ ao (@ah _ _ _ _ _ ao ag rfl) rfl) rfl) rfl) rfl))) (by rfl))
   (@aj _ _ _ _ _ (@aC _ _ 6 _ _ _ _ eF.nd rfl (Or.inl rfl) (@bY _ _ _ _ (@ah _ _ _ _ _ (bA ck (by rfl) Fg (by rfl) (@ah _ _ _ _ _ (pv 4) ag rfl)) (@ah _ _ _ _ _ (bA ck (by rfl) Fg (by rfl) (@ah _ _ _ _ _ (pv 5) ag rfl)) ag rfl) rfl)) rfl (Or.inl rfl))
   (@aj _ _ _ _ _ (@aC _ _ 7 _ _ _ _ eF.nd rfl (Or.inl rfl) (bf MB Uy FY (by rfl) cB.mgC LI .nil ae (@ah _ _ _ _ _ (ax OC IS (by rfl) OE OF OD .nil ae (@ah _ _ _ _ _ (pv 2) (@ah _ _ _ _ _ (pv 3) (@ah _ _ _ _ _ (pv 4) (@ah _ _ _ _ _ (pv 5) ag rfl) rfl) rfl) rfl)) ag rfl)) rfl (Or.inl rfl))
   (@aj _ _ _ _ _ (@aC _ _ 8 _ _ _ _ eF.nd rfl (Or.inl rfl) (@bY _ _ _ _ ag) rfl (Or.inl rfl))
   (@aj _ _ _ _ _ (iG PassesOwn.never rfl (lN (by rfl) Fi (@ah _ _ _ _ _ ao (@ah _ _ _ _ _ (aF (abR rfl) (by rfl) GG (by rfl) (@ah _ _ _ _ _ ao (@ah _ _ _ _ _ (aF (aaX rfl) (by rfl) IU (by rfl) (@ah _ _ _ _ _ (aF bx (by rfl) Fj PySem.boot_len (@ah _ _ _ _ _ (pv 0) ag rfl)) (@ah _ _ _ _ _ ao ag rfl) rfl)) ag rfl) rfl)) ag rfl) rfl)) (aI (i:=9) eF.nd rfl (Or.inl rfl))
   (@aj _ _ _ _ _ (bq (cG (cz (ax FDn Ku (by rfl) mDn kDn bDn .nil ae (@ah _ _ _ _ _ (ax Rh Fp (by rfl) Rj YB Ri .nil ae (@ah _ _ _ _ _ (pv 0) (@ah _ _ _ _ _ (pv 9) ag rfl) rfl)) (@ah _ _ _ _ _ (pv 7) (@ah _ _ _ _ _ (pv 2) (@ah _ _ _ _ _ (pv 3) (@ah _ _ _ _ _ (pv 8) (@ah _ _ _ _ _ (pv 6) ag rfl) rfl) rfl) rfl) rfl) rfl)))) (@ar _ _ _ (az gr)) aM)
   (@aj _ _ _ _ _ (@aC _ _ 10 _ _ _ _ eF.nd rfl (Or.inl rfl) (ax OC IS (by rfl) OE OF OD .nil ae (@ah _ _ _ _ _ (pv 2) (@ah _ _ _ _ _ (pv 3) (@ah _ _ _ _ _ (@a9 _ _ _ _ _ _ _ b7 (pv 6) ao (λ_ _=>rfl)) (@ah _ _ _ _ _ (@a9 _ _ _ _ _ _ _ b7 (pv 6) ao (λ_ _=>rfl)) ag rfl) rfl) rfl) rfl)) rfl (Or.inl rfl))
   (@ar _ _ _ (bq (PW.pt (iz (@aL _ _ _ _ _ _ _ _ (ph YE YF YG cY.ob YC Hb YD ae) (aX (pv 7) cB.cl RC RA Fp RB .nil ae) (pv 10) (aB _)) (iz (@aL _ _ _ _ _ _ _ _ (ph YE YF YG cY.ob YC Hb YD ae) (aX (pv 7) cB.cl RC RA Fp RB .nil ae) (pv 10) (aB _)) (gh (@aL _ _ _ _ _ _ _ _ kn (aX (pv 7) cB.cl mBK FBK Fp Ui .nil ae) ao (aB _)))))) (@ar _ _ _ (az gr)) aM)))))
   (@aj _ _ _ _ _ (@aC _ _ 11 _ _ _ _ eF.nd rfl (Or.inl rfl) (bf (dvs:=[.non]) MS Jk Ga (by rfl) cS.mgC OG (.cons rfl .nil) ae (@ah _ _ _ _ _ (bf MF FFI F5 (by rfl) cF.mgC Gu .nil ae (@ah _ _ _ _ _ (pv 2) ag rfl)) ag rfl)) rfl (Or.inl rfl))
   (@aj _ _ _ _ _ (@aC _ _ 12 _ _ _ _ eF.nd rfl (Or.inl rfl) (bf MB Uy FY (by rfl) cB.mgC LI .nil ae (@ah _ _ _ _ _ (bf (dvs:=[.non]) MY IC Gv (by rfl) cY.mgC Lr (.cons rfl .nil) ae (@ah _ _ _ _ _ (bf MF FFI F5 (by rfl) cF.mgC Gu .nil ae (@ah _ _ _ _ _ (pv 2) ag rfl)) (@ah _ _ _ _ _ ao (@ah _ _ _ _ _ (@aO _ _ _ _ _ _ _ _ wX (@bY _ _ _ _ (@ah _ _ _ _ _ (pv 11) ag rfl)) ao) ag rfl) rfl) rfl) (by decide) (aY rfl) (by rw[aY rfl,aY rfl];rfl)) ag rfl)) rfl (Or.inl rfl))
   (@aj _ _ _ _ _ (fA (fZ (dvs:=[.bl false]) (pv 12) cB.cl Kn Km Ga Uh (.cons rfl .nil) ae (@ah _ _ _ _ _ (pv 11) ag rfl)))
   (@aj _ _ _ _ _ (bq (PW.pt (iz (@aL _ _ _ _ _ _ _ _ (Af Fp) (ax Rv IS (by rfl) Rx Ry Rw .nil ae (@ah _ _ _ _ _ (pv 12) (@ah _ _ _ _ _ (pv 11) (@ah _ _ _ _ _ gr ag rfl) rfl) rfl)) (@bX _ _ _ _ _ (@ah _ _ _ _ _ da (@ah _ _ _ _ _ dj ag rfl) rfl)) (aB _)) (gh (@aL _ _ _ _ _ _ _ _ kn (aF (jA YJ YK YH FY YI ae) (by rfl) Fj PySem.boot_len (@ah _ _ _ _ _ (aX (pv 12) cB.cl RC RA Fp RB .nil ae) ag rfl)) ao (aB _))))) (@ar _ _ _ (az gr)) aM)
   (@aj _ _ _ _ _ (@aC _ _ 11 _ _ _ _ eF.nd rfl (Or.inl rfl) (bf (dvs:=[.non]) MS Jk Ga (by rfl) cS.mgC OG (.cons rfl .nil) ae (@ah _ _ _ _ _ (bf MF FFI F5 (by rfl) cF.mgC Gu .nil ae (@ah _ _ _ _ _ ao ag rfl)) ag rfl)) rfl (Or.inl rfl))
   (@aj _ _ _ _ _ (@aC _ _ 12 _ _ _ _ eF.nd rfl (Or.inl rfl) (bf MB Uy FY (by rfl) cB.mgC LI .nil ae (@ah _ _ _ _ _ (bf MY IC Gv (by rfl) cY.mgC GJ .nil ae (@ah _ _ _ _ _ (bf MF FFI F5 (by rfl) cF.mgC Gu .nil ae (@ah _ _ _ _ _ ao ag rfl)) (@ah _ _ _ _ _ ao (@ah _ _ _ _ _ (@bY _ _ _ _ ag) (@ah _ _ _ _ _ (@aO _ _ _ _ _ _ _ _ wX (@bY _ _ _ _ (@ah _ _ _ _ _ (pv 11) ag rfl)) ao) ag rfl) rfl) rfl) rfl)) ag rfl)) rfl (Or.inl rfl))
   (@aj _ _ _ _ _ (fA (fZ (pv 12) cB.cl Kn Km Ga N8 .nil ae (@ah _ _ _ _ _ (pv 11) (@ah _ _ _ _ _ gr ag rfl) rfl)))
   (@ar _ _ _ (az (cp (@aZ _ _ _ _ _ _ _ _ (qj Fp) (ax Rv IS (by rfl) Rx Ry Rw .nil ae (@ah _ _ _ _ _ (pv 12) (@ah _ _ _ _ _ (pv 11) (@ah _ _ _ _ _ gr ag rfl) rfl) rfl)) (@bX _ _ _ _ _ (@ah _ _ _ _ _ da (@ah _ _ _ _ _ dj ag rfl) rfl)) (aB _)) (dJ (@aZ _ _ _ _ _ _ _ _ cq (aF (jA YJ YK YH FY YI ae) (by rfl) Fj PySem.boot_len (@ah _ _ _ _ _ (aX (pv 12) cB.cl RC RA Fp RB .nil ae) ag rfl)) ao (aB _)))))))))))))))))))),?_⟩
  refine⟨_,rfl,a,ns,0,rfl,Jo.sq,hlen,Int.le_refl 0,by decide,λr l1 r1 Jx Fp FY=>?_⟩;have Uz:=Jo.same (ak (o:=.lst [.int l1,.int r1]) Jx);have R1:aH (upd H r (.lst [.int l1,.int r1])) r:=⟨l1,r1,af,Fp,FY⟩;generalize upd H r _=H1 at Uz R1 |-;refine⟨_,rfl,r,rfl,R1,λH2 t L p n xs Fl FQ R2 hp n1 n3 et eL hx Wx xl=>?_⟩;have YL:=Uz.but R1 FQ;refine⟨t,_,rfl,bV.of et,rfl,_,_,rfl,_,_,rfl,_,_,rfl,rfl,?_⟩;have UA:=R2;obtain⟨l2,x2,e2,b0,b1⟩:=R2;refine⟨_,rfl,r,l2,x2,3,rfl,e2,b0,b1,by decide,by decide,λz l3 r3 z0 z1 g0 g1=>?_⟩;have R3:aH (upd H2 r (.lst [.int l3,.int r3])) r:=⟨l3,r3,af,g0,g1⟩;have F4:SameBut r H2 (upd H2 r (.lst [.int l3,.int r3])):=SameBut.upd;have UB:=YL.but UA F4;have Lo:=hx.but UA F4
  have MD:L≠r:=λy=>by
   rw[y,e2] at eL
   cases eL
   cases hx with
   |cons h t =>
    obtain⟨_,_,e,_⟩:=h
    cases e
  have N6:=F4 _ _ eL MD;generalize upd H2 r _=H3 at R3 UB Lo N6 |-;clear F4 hx eL et YL Uz FQ Jo UA e2
  have cnt:∃c:Nat,c<=2/\(p≠0->c=0)/\z*(if decide (V.int p=V.int 0)=true then 1 else 0)=(c:Int):=by
   by_cases y:p=0
   ·rw[decide_eq_true (show V.int p=V.int 0 by rw[y])];exact⟨z.toNat,by omega,λk=>absurd y k,by rw[if_pos rfl,Int.mul_one,Int.toNat_of_nonneg z0]⟩
   ·rw[decide_eq_false (show ¬V.int p=V.int 0 from λk=>y (by injection k))];exact⟨0,by decide,λ_=>rfl,by rw[if_neg Bool.false_ne_true,Int.mul_zero];rfl⟩
  obtain⟨c,c2,c0,ec⟩:=cnt;refine⟨_,rfl,rfl,.inr ⟨_,rfl,_,_,rfl,rfl,⟨?_,?_⟩,_,rfl,?_⟩⟩
  ·exact Nat.lt_of_le_of_lt (by omega:z.natAbs<=3) (by decide)
  ·split
   ·exact(by decide:1<2^9000)
   ·exact(by decide:0<2^9000)
  rw[ec];refine⟨by omega,by omega,?_⟩;rw[Int.toNat_natCast];refine jY R3 hp (by omega) (by omega) (by omega) (by decide) (by decide) (by decide) (by decide) λus Ft H4 hu Wu ul R4 FN=>?_;intro O hO;have YM:=UB.but R3 FN;have YN:=Lo.but R3 FN;have NJ:=FN _ _ N6 MD;have s5:=ak (o:=.lst us) hO;have eO:upd H4 O (.lst us) O=some (.lst us):=af;have UC:=YM.same s5;have RD:=YN.same s5;have RE:=hu.same s5;have RH:=s5 _ _ NJ;generalize upd H4 O _=H5 at UC RD RE RH eO |-;clear YM YN NJ s5 FN hu R4 hO UB Lo N6 R3;refine⟨_,rfl,L,xs,rfl,.inl (aV.of RH),λw0 f0=>?_⟩;have s6:=ak (o:=.lst xs) f0;have e0:upd H5 w0 (.lst xs) w0=some (.lst xs):=af;change bg _ _ _ (upd H5 w0 (.lst xs)) _;generalize upd H5 w0 _=H6 at s6 e0 |-;refine⟨_,rfl,O,us,rfl,.inl (aV.of (s6 _ _ eO)),λw1 f1=>?_⟩;have s7:=ak (o:=.lst us) f1;have e1:upd H6 w1 (.lst us) w1=some (.lst us):=af;have Ko:w0≠w1:=au e0 f1;have e0:=s7 _ _ e0;change D6 _ (upd H6 w1 (.lst us)) _;generalize upd H6 w1 _=H7 at s7 e1 e0 |-;refine⟨ic,λW hW=>?_⟩;have s8:=ak (o:=.lst [.ref w0,.ref w1]) hW;have YO:W≠w0:=(au e0 hW).symm;have YQ:W≠w1:=(au e1 hW).symm;have eW:upd H7 W (.lst [.ref w0,.ref w1]) W=some (.lst [.ref w0,.ref w1]):=af;generalize upd H7 W _=H8 at s8 eW |-;have Jp:=s6.trans (s7.trans s8);have e0:=s8 _ _ e0;have e1:=s8 _ _ e1;have g1:H5 w1=none:=none_of s6 f1
  have L2:dk [w0,w1] H8:=λc hc=>by
   simp only[List.mem_cons,List.not_mem_nil,or_false] at hc
   rcases hc with rfl|rfl
   ·exact⟨_,e0,λxs y=>by cases y⟩
   ·exact⟨_,e1,λxs y=>by cases y⟩
  have RI:Ws p n Ft:=λt ht=>(Wu t ht).mono (by decide) (by decide);have uz:Ft≠[]->p=0:=λy=>Classical.byContradiction λk=>y (List.length_eq_zero_iff.mp (by rw[ul];exact c0 k));refine⟨_,rfl,_,rfl,_,rfl,_,rfl,[w0,w1],L,O,p,n,xs,us,Fl,Ft,rfl,L2,hp,n1,by omega,Jp _ _ RH,RD.same Jp,Jp _ _ eO,RE.same Jp,Wx,RI,by omega,by omega,uz,λH9 sy fl as bs s9 hY hA hB=>?_⟩;refine λb Hr k1 k2 k3=>?_;refine n9 (L2.same s9) k1 k2 k3 λHn pk Gd Hg Bn=>?_;refine⟨Nat.zero_le _,λps Jq=>?_⟩;have Ho:=ak (o:=.lst []) Jq;have ep:upd Hn ps (.lst []) ps=some (.lst []):=af;generalize upd Hn ps _=Rp at Ho ep |-;have HJ:=Bn.ne;obtain⟨UD,pl,jb,OH,jn,jF⟩:=Bn.ex;have w0_9:=s9 _ _ e0;have w1_9:=s9 _ _ e1;have YR:b≠w0:=(au w0_9 k1).symm;have Rq:b≠w1:=(au w1_9 k1).symm;have YS:pk≠w0:=(au w0_9 Hg).symm;have YT:pk≠w1:=(au w1_9 Hg).symm;have YU:b≠ps:=au jb Jq;have YV:pk≠ps:=au Bn.ks Jq;have YW:w0≠ps:=au (Gd _ _ w0_9) Jq;have YX:w1≠ps:=au (Gd _ _ w1_9) Jq;have YY:pl≠ps:=au OH Jq;have W9:=s9 _ _ eW;have YZ:W≠b:=au W9 k1;have Y0:W≠pk:=au W9 Hg;have Y1:W≠ps:=au (Gd _ _ W9) Jq
  have n0:0<=n:=by omega
  have JM:=Gd.trans Ho
  have d9:ay (bK [w0,w1] H9) (bK [b,pk,w0,w1,ps] Rp):=mX JM λc hc=>by
   simp only[List.mem_cons,List.not_mem_nil,or_false] at hc |-
   rcases hc with rfl|rfl|rfl|rfl|rfl
   ·exact .inr k1
   ·exact .inr Hg
   ·exact .inl (.inl rfl)
   ·exact .inl (.inr rfl)
   ·exact .inr (none_of Gd Jq)
  have d5:ay H5 (bK [b,pk,w0,w1,ps] Rp):=hJ (Jp.trans (s9.trans JM)) λc hc=>by
   simp only[List.mem_cons,List.not_mem_nil,or_false] at hc
   rcases hc with rfl|rfl|rfl|rfl|rfl
   ·exact none_of (Jp.trans s9) k1
   ·exact none_of (Jp.trans s9) Hg
   ·exact f0
   ·exact g1
   ·exact none_of (Jp.trans (s9.trans Gd)) Jq
  have Y2:A4 CB CS C CF [b,pk,w0,w1,ps] Rp b pk w0 w1 ps p n (5+0) []:=by
   refine⟨hp,⟨sy,fl,as,bs,Fl,Ft,xs,us,⟨⟨UD,pl,Ho _ _ jb,Ho _ _ OH,jn,?_⟩,Ho _ _ Bn.ks⟩,⟨hY.same d9,n1,by omega,EF hp n0 (hA.same d9) Wx,EF hp n0 (hB.same d9) RI,λy=>uz λz=>y ?_⟩,hA.same d9,hB.same d9,JM _ _ w0_9,RD.same d5,JM _ _ w1_9,RE.same d5,Wx,RI,by omega,by omega,Nat.zero_le _,Nat.zero_le _⟩,ep,Nat.zero_le _,⟨by simp,by simp,by simp,by simp,by simp⟩,?_,λc hc=>?_⟩
   ·intro y;simp only[List.mem_cons,List.not_mem_nil,or_false] at y jF
    rcases y with y|y|y|y|y
    ·rw[y,jb] at OH
     cases OH
    ·exact jn y
    ·exact jF (.inl y)
    ·exact jF (.inr y)
    ·exact YY y
   ·have:=hB.length;rw[z] at this;exact List.length_eq_zero_iff.mp this
   ·simp only[List.nodup_cons,List.mem_cons,not_or,List.not_mem_nil,not_false_eq_true,List.nodup_nil,and_true];exact⟨⟨HJ,YR,Rq,YU⟩,⟨YS,YT,YV⟩,⟨Ko,YW⟩,YX⟩
   ·simp only[List.mem_cons,List.not_mem_nil,or_false] at hc
    rcases hc with rfl|rfl|rfl|rfl|rfl
    ·exact⟨_,Ho _ _ jb,λxs y=>by cases y⟩
    ·exact⟨_,Ho _ _ Bn.ks,λxs y=>by cases y⟩
    ·exact⟨_,JM _ _ w0_9,λxs y=>by cases y⟩
    ·exact⟨_,JM _ _ w1_9,λxs y=>by cases y⟩
    ·exact⟨_,ep,λxs y=>by cases y⟩
  have Y3:=JM _ _ W9
  have Y4:W ∉ [b,pk,w0,w1,ps]:=λy=>by
   simp only[List.mem_cons,List.not_mem_nil,or_false] at y
   rcases y with y|y|y|y|y
   ·exact YZ y
   ·exact Y0 y
   ·exact YO y
   ·exact YQ y
   ·exact Y1 y
  have LJ:=UC.same (Jp.trans (s9.trans JM));clear d5 d9 JM W9 YZ Y0 Y1 YO YQ YY YX YW YV YU YT YS Rq YR w0_9 w1_9 jb OH jn jF HJ Bn Gd Ho ep Jq k1 k2 k3 Hg hY hA hB s9 uz RI L2 g1 e0 e1 eW Jp s8 s7 s6 f0 f1 RD RE UC RH eO hW Ko;refine⟨_,rfl,a,_,rfl,.inl LJ.sq,_,_,rfl,_,_,rfl,_,_,rfl,⟨by decide,by decide,?_,?_⟩,?_⟩
  ·rw[List.length_map]
   split <;> split <;> omega
  ·rw[List.length_map]
   split <;> split <;> omega
  refine mn (lo:=1) (λi σ H'=>(∃o9 UE,σ=[some (.ref a),some (.ref r),some (.int p),some (.int n),some (.ref L),some (.ref O),some (.ref W),some (.ref b),some (.ref ps),o9,UE,none,none])/\rH K H' a ns/\H' W=some (.lst [.ref w0,.ref w1])/\∃kinds,A4 CB CS C CF [b,pk,w0,w1,ps] H' b pk w0 w1 ps p n (5+i) kinds) ⟨⟨_,_,rfl⟩,LJ,Y3,[],Y2⟩ ?_ ?_
  ·rintro i σ G0 hi ⟨⟨o9,UE,rfl⟩,Jo,hW,kinds,S⟩
   have acN:i<40:=by
    rw[List.length_map] at hi
    split at hi <;> split at hi <;> omega
   clear hi;refine⟨_,rfl,_,rfl,a,ns,1+(i:Int),rfl,Jo.sq,hlen,by omega,by omega,λr' l1 r1 Jx Fp FY=>?_⟩;have s1:=ak (o:=.lst [.int l1,.int r1]) Jx;have S1:=S.fresh (l:=l1) (x:=r1) Jx;have R1:aH (upd G0 r' (.lst [.int l1,.int r1])) r':=⟨l1,r1,af,Fp,FY⟩;have Jo:=Jo.same s1;have MJ:W≠r':=au hW Jx;have hW:=s1 _ _ hW;have nF:=S.nf
   have nr:r' ∉ [b,pk,w0,w1,ps]:=λy=>by
    obtain⟨u,e,_⟩:=nF _ y;rw[Jx] at e
    cases e
   generalize upd G0 r' _=G1 at S1 R1 Jo hW |-;clear s1 S Jx Fp FY
   have OI:W∉r' :: [b,pk,w0,w1,ps]:=λy=>by
    rcases List.mem_cons.mp y with y|y
    ·exact MJ y
    ·exact Y4 y
   refine⟨_,rfl,_,rfl,_,rfl,_,rfl,_,rfl,r' :: [b,pk,w0,w1,ps],r',b,pk,w0,w1,ps,W,p,n,_,kinds,rfl,R1,.head _,nr,S1,by omega,n1,n3,hW,OI,λG2 FH sF S2=>⟨_,rfl,?_⟩⟩;refine bH ?_;have JK:=sF _ _ hW OI
   have UG:rH K G2 a ns:=Jo.sF (λc hc=>by
    rcases List.mem_cons.mp hc with y|y
    ·obtain⟨l,x,e,_⟩:=R1;exact⟨_,by rw[y];exact e,λo v z=>by cases z⟩
    ·exact S1.nf c y) sF
   have S2:=S2.tail ⟨by simp,by simp,by simp,by simp,by simp⟩;clear S1 R1 Jo hW sF nF nr;obtain⟨Il,Rl,as1,bs1,Y5,UH,xs1,ys1,Bn,SF,sa,sB,h0,x0,h1,x1,V0,V1,l0,l1,c0,c1⟩:=S2.ex
   have uz:UH≠[]->p=0:=λy=>SF.u0 λz=>y (by
    have:=sB.length;rw[z] at this
    exact List.length_eq_zero_iff.mp this.symm)
   refine⟨_,rfl,_,rfl,_,rfl,W,_,0,.ref w0,rfl,rfl,aV.of JK,rfl,_,rfl,W,_,1,.ref w1,rfl,rfl,aV.of JK,rfl,[b,pk,w0,w1,ps],w0,w1,p,n,xs1,ys1,Y5,UH,rfl,S2.live,hp,n1,by omega,h0,x0.same aJ,h1,x1.same aJ,V0,V1,by omega,by omega,uz,λG3 FK fl2 as2 bs2 s3 RJ LG UI=>?_⟩;have d3:=aA (F:=[b,pk,w0,w1,ps]) s3;have Y6:=(SF.r.same d3).same aJ;have Ur:=(sa.same d3).same aJ;have hB1:=(sB.same d3).same aJ;have RJ:=RJ.same aJ;have LG:=LG.same aJ;have UI:=UI.same aJ;have Bn:=Bn.same s3;obtain⟨Hr,pl,jb,_⟩:=Bn.ex;obtain⟨GH,JE,A1,B1,y1,_⟩:=Y6.ex;obtain⟨NY,acW,A2,B2,y2,_⟩:=RJ.ex;have ye:∀(Q':VK)(E':XK),Q' (.bl true) G3->By CS C CF [.ref Il,.ref FK] G3 Q' E':=λQ' E' q=>⟨Il,Rl,FK,fl2,p,n,as1,bs1,as2,bs2,Y5,UH,rfl,Y6,RJ,Ur,LG,hB1,UI,q⟩;refine⟨_,rfl,b,Hr,_,rfl,jb,rfl,[b,pk,w0,w1,ps],b,pk,Il,FH,rfl,Bn,?_⟩;refine⟨_,rfl,Il,GH,_,.ref CS,rfl,y1,cY.ty y2,ij,ye _ _ ⟨true,rfl,_,rfl,bH ?_⟩⟩;refine⟨_,rfl,b,Hr,_,rfl,jb,rfl,[b,pk,w0,w1,ps],b,pk,Il,FH,rfl,Bn,?_⟩;refine⟨_,rfl,Il,GH,_,.ref CS,rfl,y1,cY.ty y2,ij,ye _ _ ⟨true,rfl,_,rfl,bH ?_⟩⟩;refine⟨_,rfl,b,Hr,_,rfl,jb,rfl,[b,pk,w0,w1,ps],b,pk,Il,FH,rfl,Bn,?_⟩;exact⟨rfl,false,rfl,bH ⟨⟨_,_,rfl⟩,UG.same s3,s3 _ _ JK,FH,S2.same s3⟩⟩
  ·rintro σ G0 ⟨⟨o9,UE,rfl⟩,_,_,_,_⟩;clear Y2 LJ Y3 Y4;refine⟨_,rfl,λf1 df1 k1 k2 k3=>cE k1 k2 k3 hp λG1 s1 Lp=>?_⟩;refine λz dz k1 k2 k3=>vS Lp hp k1 k2 k3 λG2 s2 hz=>?_;refine⟨_,rfl,λf2 UJ k1 k2 k3=>cE k1 k2 k3 hp λG3 s3 IP=>?_⟩;refine⟨_,rfl,yv,λl hl=>?_⟩;have s4:=ak (o:=.lst [.ref z]) hl;have el:upd G3 l (.lst [.ref z]) l=some (.lst [.ref z]):=af;generalize upd G3 l _=G4 at s4 el |-;refine⟨l,199,_,rfl,rfl,el,by decide,by decide,zH,λZ hZ=>?_⟩;rw[vk z];have s5:=ak (o:=.lst ((List.replicate 199 z).map V.ref)) hZ;have eZ:upd G4 Z (.lst ((List.replicate 199 z).map V.ref)) Z=some (.lst ((List.replicate 199 z).map V.ref)):=af;change D6 _ (upd G4 Z (.lst ((List.replicate 199 z).map V.ref))) _;generalize upd G4 Z _=G5 at s5 eZ |-;have IP:=s5 _ _ (s4 _ _ IP);have hz:=hz.same (s3.trans (s4.trans s5));have wz:=rN (n:=1) hp (by decide) hz;have Hh:(List.replicate 199 z).length=199:=List.length_replicate;refine λsy dy k1 k2 k3=>?_;refine zA (n:=1) (as:=List.replicate 199 z) (bs:=[]) l8 ⟨⟨UJ,rfl,IP⟩,rfl,by decide,by decide,⟨⟨Z,rfl,eZ⟩,by rw[Hh];decide,oj wz⟩,.inl ⟨rfl,rfl⟩⟩ (λh=>(nomatch h)) k1 k2 k3 λG6 s6 hY=>?_;have hY:=hY.same aJ;have wz:=WX.aae wz (.of s6);refine λb2 db k1 k2 k3=>?_;refine n9 l8 k1 k2 k3 λG7 Hi s7 Hg Bn=>?_;have OJ:=kK s7 k1 Hg hY (oj wz) (λa h=>(nomatch h)) (λh=>absurd rfl h)
   have OK:=WX.aae wz (.of (hJ s7 (F:=[b2,Hi]) λc hc=>by
    simp only[List.mem_cons,List.not_mem_nil,or_false] at hc
    rcases hc with rfl|rfl
    ·exact k1
    ·exact Hg))
   have Bn:=Bn.abU;obtain⟨dx,pl,jb,_⟩:=Bn.ex;refine⟨_,rfl,b2,dx,_,rfl,jb,rfl,_,rfl,?_⟩;refine⟨[b2,Hi],b2,Hi,sy,f2,p,1,_,[],[],.ref z,false,rfl,tH Bn,by simp,by simp,Bn,OJ,by decide,.inl ⟨z,rfl,OK,λh=>(nomatch h),λ_=>by rw[Hh];decide,λG8 FK _ B8 S8=>?_⟩⟩;clear OJ OK wz hY Bn hz IP jb
   have Hj:(List.replicate 199 z++[z]).length=200:=by rw[List.length_append,Hh];rfl
   have S8:Sy CS C CF (bK [b2,Hi] G8) FK f2 p 1 (List.replicate 199 z++[z]) []:=S8;obtain⟨UK,pl8,OL,_⟩:=B8.ex;refine⟨_,rfl,_,rfl,[b2,Hi],b2,Hi,FK,f2,p,1,_,_,[false],.ref z,.non,false,"noughts",rfl,tH B8,by simp,by simp,B8,S8,(by decide),.n1 Hj,λG9 t s9 et=>?_⟩;refine⟨ic,λt2 OM=>?_⟩;have Gd:=ak (o:=.tup [.str "noughts",.non]) OM;refine⟨_,_,gY (Gd _ _ et),gY af,pO,_,rfl,?_⟩;rw[dE];refine bH ?_;have GL:=s9.trans Gd;have Y8:=S8.r.same aJ;have MM:=B8.same GL;have Ic:=GL _ _ OL;have Kv:=Y8.same GL;clear GL Gd OM et s9 Y8 S8 B8 OL;generalize upd G9 t2 _=G10 at MM Ic Kv |-;obtain⟨GH,JE,A1,B1,y1,_⟩:=Kv.ex;refine⟨_,rfl,b2,UK,_,rfl,Ic,rfl,[b2,Hi],b2,Hi,FK,_,rfl,MM,FK,GH,_,rfl,y1,FK,f2,p,1,_,[],rfl,Kv,λG11 Ho=>⟨_,rfl,?_,rfl,false,?_,bH ?_⟩⟩
   ·rw[Hj];decide
   ·rw[Hj];rfl
   clear Ho y1 Kv Ic MM Hj Hh;have h0:FP 0:=.inl rfl;refine λf1 df1 k1 k2 k3=>cE k1 k2 k3 h0 λG1 s1 Lp=>?_;refine λz dz k1 k2 k3=>vS Lp h0 k1 k2 k3 λG2 s2 hz=>?_;refine λf2 UJ k1 k2 k3=>cE k1 k2 k3 h0 λG3 s3 IP=>?_;refine⟨Nat.zero_le _,λN hN=>?_⟩;have UL:=ak (o:=.lst []) hN;have eN:upd G3 N (.lst []) N=some (.lst (([]:List Addr).map V.ref)):=af;change bg _ _ _ (upd G3 N (.lst [])) _;generalize upd G3 N _=Y7 at UL eN |-;refine⟨_,rfl,yv,λl hl=>?_⟩;have s4:=ak (o:=.lst [.ref z]) hl;have el:upd Y7 l (.lst [.ref z]) l=some (.lst [.ref z]):=af;generalize upd Y7 l _=G4 at s4 el |-;refine⟨l,199,_,rfl,rfl,el,by decide,by decide,zH,λZ hZ=>?_⟩;rw[vk z];have s5:=ak (o:=.lst ((List.replicate 199 z).map V.ref)) hZ;have eZ:upd G4 Z (.lst ((List.replicate 199 z).map V.ref)) Z=some (.lst ((List.replicate 199 z).map V.ref)):=af;change D6 _ (upd G4 Z (.lst ((List.replicate 199 z).map V.ref))) _;generalize upd G4 Z _=G5 at s5 eZ |-;have IP:=(UL.trans (s4.trans s5)) _ _ IP;have eN:=(s4.trans s5) _ _ eN;have hz:=hz.same (s3.trans (UL.trans (s4.trans s5)));have wz:=rN (n:=1) h0 (by decide) hz;have Hh:(List.replicate 199 z).length=199:=List.length_replicate;refine λsy dy k1 k2 k3=>?_;refine zA (n:=1) (as:=[]) (bs:=List.replicate 199 z) l8 ⟨⟨UJ,rfl,IP⟩,rfl,by decide,by decide,⟨⟨N,rfl,eN⟩,by decide,λa h=>(nomatch h)⟩,.inr ⟨⟨⟨Z,rfl,eZ⟩,by rw[Hh];decide,oj wz⟩,λ_=>rfl⟩⟩ (λh=>(nomatch h)) k1 k2 k3 λG6 s6 hY=>?_;have hY:=hY.same aJ;have wz:=WX.aae wz (.of s6);refine λb2 db k1 k2 k3=>?_;refine n9 l8 k1 k2 k3 λG7 Hi s7 Hg Bn=>?_;have OJ:=kK s7 k1 Hg hY (λa h=>(nomatch h)) (oj wz) (λh=>rfl)
   have OK:=WX.aae wz (.of (hJ s7 (F:=[b2,Hi]) λc hc=>by
    simp only[List.mem_cons,List.not_mem_nil,or_false] at hc
    rcases hc with rfl|rfl
    ·exact k1
    ·exact Hg))
   have Bn:=Bn.abU;obtain⟨dx,pl,jb,_⟩:=Bn.ex;refine⟨_,rfl,b2,dx,_,rfl,jb,rfl,_,rfl,?_⟩;refine⟨[b2,Hi],b2,Hi,sy,f2,0,1,[],_,[],.ref z,true,rfl,tH Bn,by simp,by simp,Bn,OJ,by decide,.inl ⟨z,rfl,OK,λ_=>⟨rfl,by rw[Hh];decide⟩,λh=>(nomatch h),λG8 FK _ B8 S8=>?_⟩⟩;clear OJ OK wz hY Bn hz IP jb
   have Hj:(List.replicate 199 z++[z]).length=200:=by rw[List.length_append,Hh];rfl
   have S8:Sy CS C CF (bK [b2,Hi] G8) FK f2 0 1 [] (List.replicate 199 z++[z]):=S8;obtain⟨UK,pl8,OL,_⟩:=B8.ex;refine⟨_,rfl,_,rfl,[b2,Hi],b2,Hi,FK,f2,0,1,[],_,[true],.ref z,.non,true,"uppers",rfl,tH B8,by simp,by simp,B8,S8,(by decide),.u2 rfl Hj,λG9 t s9 et=>?_⟩;refine⟨ic,λt2 OM=>?_⟩;have Gd:=ak (o:=.tup [.str "uppers",.non]) OM;refine⟨_,_,gY (Gd _ _ et),gY af,pO,true,?_,bw ?_⟩
   ·rw[dE];rfl
   have GL:=s9.trans Gd;have Y8:=S8.r.same aJ;have MM:=B8.same GL;have Ic:=GL _ _ OL;have Kv:=Y8.same GL;clear GL Gd OM et s9 Y8 S8 B8 OL;generalize upd G9 t2 _=G10 at MM Ic Kv |-;obtain⟨GH,JE,A1,B1,y1,_⟩:=Kv.ex;refine⟨_,rfl,b2,UK,_,rfl,Ic,rfl,[b2,Hi],b2,Hi,FK,_,rfl,MM,FK,GH,_,rfl,y1,FK,f2,0,1,[],_,rfl,Kv,λG11 Ho=>⟨_,rfl,?_,rfl,?_⟩⟩
   ·rw[Hj];decide
   ·rw[Hj];exact fin _
end K80
namespace Hd
open PySem PySem.W PyProof.Rows
def oW (K:Frag)(x qual:Str)(st:Stmt)(f:Addr):Prop:=∃(oc:Value)(od:Bo)(kV doc pm:Value)(an:Bo)(Ff ct:Value)(FA:Dg),
 K.lookup f=some ⟨oc,od,.func (fnOf x qual (L2.cW st) (L2.cn st) (L2.aq st) .none kV doc pm an Ff ct),FA⟩/\codeIn K Ff qual=true/\keepIn K (.ref f)=true
variable {K:Frag}{x qual:Str}{st:Stmt}
theorem qE {v:Option (Option Value)}(h:aQ K v=cV x qual st)(b:cO K v qual=true):v=some (some (.ref (cm v)))/\oW K x qual st (cm v):=by
 unfold aQ at h;obtain⟨fd,e,s⟩:=Option.map_eq_some_iff.mp (show(pH K v).map zx=some _ from h);unfold cO at b;rw[e] at b;rw[Bool.and_eq_true] at b;unfold pH at e
 split at e
 ·rename_i f
  split at e
  ·rename_i oc od fd' FA hl
   cases e
   refine⟨rfl,oc,od,fd.kwdefaults,fd.doc,fd.pyModule,fd.annotations,fd.code,fd.closureTuple,FA,?_,b.2,b.1⟩;show K.lookup f=_;rw[hl];obtain⟨n,q,p,bd,sc,g,c,dv,kv,dc,pm,an,cd,ct,bl⟩:=fd;unfold zx at s;simp only[Prod.mk.injEq] at s;obtain⟨rfl,rfl,rfl,rfl,rfl,rfl,rfl,rfl,rfl⟩:=s;rfl
  ·cases e
 ·cases e
theorem oW.fn {f:Addr}(d:oW K x qual st f):∃fd,L2.u3 K x qual st f fd:=by
 obtain⟨oc,od,kV,doc,pm,an,Ff,ct,FA,l,c,k⟩:=d;exact⟨_,L2.Bq l c k⟩
theorem oW.keep {f:Addr}(d:oW K x qual st f):keepIn K (.ref f)=true:=by
 obtain⟨oc,od,kV,doc,pm,an,Ff,ct,FA,l,c,k⟩:=d;exact k
end Hd
namespace L2
open PySem PySem.Spec PyProof.Rows PySem.W
end L2
namespace Hd
open PySem PySem.W PyProof.Rows
def vm (K:Frag)(x qual:Str)(st:Stmt)(f T:Addr):Prop:=∃(oc:Value)(od:Bo)(kV doc pm:Value)(an:Bo)(Ff ct:Value)(FA:Dg),
 K.lookup f=some ⟨oc,od,.func (fnOf x qual (L2.cW st) (L2.cn st) (L2.aq st) (.ref T) kV doc pm an Ff ct),FA⟩/\codeIn K Ff qual=true/\keepIn K (.ref f)=true
variable {K:Frag}{x qual:Str}{st:Stmt}
theorem iP {v:Option (Option Value)}(h:gQ K v=cV x qual st)(b:cO K v qual=true)(d:pI K v=true):v=some (some (.ref (cm v)))/\vm K x qual st (cm v) (lM K v):=by
 unfold gQ at h;obtain⟨fd,e,s⟩:=Option.map_eq_some_iff.mp (show(pH K v).map (λfd=>zx {fd with defaults:=.none})=some _ from h)
 have hd:fd.defaults=.ref (lM K v):=by
  unfold pI Dr at d;unfold lM Dr;rw[e] at d |-;dsimp only at d |-
  cases q:fd.defaults with
  |ref a=>rfl
  |_=>rw[q] at d;cases d
 unfold cO at b;rw[e] at b;rw[Bool.and_eq_true] at b;generalize lM K v=T at hd;unfold pH at e
 split at e
 ·rename_i f
  split at e
  ·rename_i oc od fd' FA hl
   cases e
   refine⟨rfl,oc,od,fd.kwdefaults,fd.doc,fd.pyModule,fd.annotations,fd.code,fd.closureTuple,FA,?_,b.2,b.1⟩;show K.lookup f=_;rw[hl];obtain⟨n,q,p,bd,sc,g,c,dv,kv,dc,pm,an,cd,ct,bl⟩:=fd;unfold zx at s;simp only[Prod.mk.injEq] at s;have hd:dv=.ref T:=hd;subst hd;obtain⟨rfl,rfl,rfl,rfl,rfl,rfl,rfl,_,rfl⟩:=s;rfl
  ·cases e
 ·cases e
theorem vm.fn {f T:Addr}(d:vm K x qual st f T):∃fd,L2.DJ K x qual st f fd T:=by
 obtain⟨oc,od,kV,doc,pm,an,Ff,ct,FA,l,c,k⟩:=d;exact⟨_,L2.zp l c k⟩
theorem vm.keep {f T:Addr}(d:vm K x qual st f T):keepIn K (.ref f)=true:=by
 obtain⟨oc,od,kV,doc,pm,an,Ff,ct,FA,l,c,k⟩:=d;exact k
theorem pF:∀{vs:nZ}{ns:List Int},sd vs ns=true->L2.aG (ns.map L2.V.int) vs
 |[],[],_=>.nil
 |v::vs,n::ns,h=>by
  unfold sd at h;rw[Bool.and_eq_true] at h;obtain⟨t,rfl⟩:=kd h.1;exact .cons ⟨t,rfl⟩ (pF h.2)
 |[],_::_,h=>by cases h
 |_::_,[],h=>by cases h
theorem rL {a:Addr}{ns:List Int}(h:wo K a ns=true)(H:L2.Hp):L2.bV K H a (ns.map L2.V.int):=by
 unfold wo at h
 split at h
 ·rename_i o ho
  rw[Bool.and_eq_true] at h;obtain⟨h1,h2⟩:=h
  split at h1
  ·rename_i T hT
   split at h2
   ·rename_i its n hd
    rw[Bool.and_eq_true] at h2
    have:T="tuple":=by simpa using h1
    subst this;exact .inr ⟨o,its,n,ho,hT,hd,of_decide_eq_true h2.2,pF h2.1⟩
   ·cases h2
  ·cases h1
 ·cases h
open L2 in
theorem uw {l:OpenLaw}{n k:Nat}{q:u6}{loose:E4}{XP:(Str->Option Value)->Heap->Prop}{YP:World->Heap->Prop}{d:DefRec}{CX:World->wC}{sp:Frag->Sp}{x:Str}{φ:Frag->Prop}{tabs:Frag->List (Addr×Addr)}
 (hn:l.most=some n)(Q0:n<=sizeLine)(M5:d.params.defaults=[])(hr:oJ k callerA)
 (hY:∀(w:World)(h:Heap),YP w h->∃K:Frag,φ K/\K.In h)
 (hT:∀(w:World)(s₀:AQ)(mg mb:wg)(h:Heap)(K:Frag),φ K->Ground q loose [] XP w s₀ mg mb h->K.In h->TabsAt (tabs K) h/\∀r∈tabs K,K.lookup r.2=none)
 (F:∀(w:World)(K:Frag)(mg:wg)(fa:Addr)(h:Heap),φ K->K.In h->h.Ns mainGlobals mg->mg d.name=some (.ref fa) →
  ∃fd:FuncData,(∀(s:AQ)(u:Value),BindsTo s fd ⟨[u],[]⟩ [(x,u)])/\∀base:Heap,K.In base->base.Ns mainGlobals mg->wI (tabs K) mg base->E6 l.prog w K mg base (CX w) k fa fd [x] (sp K))
 (Ig:∀(K:Frag)(H:Hp)(a:Addr)(ns:List Int),ns.length<=n->xn (tabs K) H->aV K H a (ns.map V.int)->sp K [.ref a] H (λv _=>v=.bl true) λ_ _ _=>False)
 (SJ:∀(w:World)(H:Hp)(s:AQ)(e:Value)(s':AQ),CX w [] H s (λ_ _ _=>False) e s'->False):
 WalkO q loose XP YP l.row.toRowW d [] (λf vs=>PySem.call f vs):=by
 refine Xq.oO hn M5 λw s₀ s₁ mg mb fa o pm cd doc a vs ns G Y ho hd F3 Sn Lc hints hlen hg=>?_;obtain⟨K,hφ,KX⟩:=hY w _ Y;obtain⟨fd,hb,hF⟩:=F w K mg fa _ hφ KX G.T.g Sn;obtain⟨t1,t2⟩:=hT w s₀ mg mb _ K hφ G KX;exact tY KX G.T.g G.T.b G.T.builtins G.T.nolimit hg Lc hints (Nat.le_trans hlen Q0) hr t1 t2 G.T.bmain hF hb (λH hO hS=>Ig K H a ns hlen hO hS) λH e s'=>SJ w H s₁ e s'
open L2
theorem yp (l:nZ):x8 l=iU l:=by
 induction l with
 |nil=>rfl
 |cons v r ih =>
  cases v with
  |ref a=>exact ih
  |_=>rfl
theorem wc {α:Type}{o:Option α}{p:α->Bool}(h:o.any p=true):∃v,o=some v/\p v=true:=by
 cases o with
 |none=>cases h
 |some v=>exact⟨v,rfl,h⟩
section
variable {P:u6}{w:World}{K:Frag}{mg:wg}{base:Heap}{x:Str}{C f:Addr}{fd:xR}{ps:E4}{sp:Sp}
theorem tj (h:vM K C f y3 yH "ValueError.__new__"=true)(k:zv K C)(sa:findIn K (.ref C) "__setattr__"=some (some (.builtin "object.__setattr__"))):DM K C:=by
 simp only[vM,Bool.and_eq_true] at h;refine⟨k,?_,sa⟩;obtain⟨cd,e,q⟩:=wc h.2.1;rw[e];rw[yp] at q;exact q
theorem BK (hm:mg x=some (.ref C))(h:vM K C f y3 yH "ValueError.__new__"=true)(k:zv K C)(sa:findIn K (.ref C) "__setattr__"=some (some (.builtin "object.__setattr__")))(F:E6 P w K mg base (aN P w) 1 f fd ps sp)(b:L2.av K fd ps []):IK P w K mg base x C ps sp:=by
 have s:=tj h k sa;simp only[vM,Bool.and_eq_true] at h;obtain⟨h0,_,h4,h5,h6⟩:=h;obtain⟨oC,e1,e2⟩:=wc h4;obtain⟨oI,e3,e4⟩:=wc h5;exact⟨hm,h0,s,k,⟨oC,e1,eq_of_beq e2⟩,⟨f,fd,oI,_,_,_,_,_,_,PySem.F.excBase_ValueError,by decide +kernel,rg,h6,e3,eq_of_beq e4,F,b⟩⟩
end
end Hd
namespace K80
open PySem L2 PySem.W Nm
open Hd (gv ga fv cm fQ cJ cR aU iq cf lu di cO aQ gQ cV pI lM oK ib uK jK A6 kd rj iX wo qE iP rL)
section
variable {α:Type}{M:List α->Prop}
theorem AB (h:∀a,M [a]):∀us:List α,us.length=1->M us
 |[a],_=>h a
theorem E5 (h:∀a b,M [a,b]):∀us:List α,us.length=2->M us
 |[a,b],_=>h a b
theorem il (h:∀a b c,M [a,b,c]):∀us:List α,us.length=3->M us
 |[a,b,c],_=>h a b c
theorem Cu (h:∀a b c d,M [a,b,c,d]):∀us:List α,us.length=4->M us
 |[a,b,c,d],_=>h a b c d
theorem DO (h:∀a b c d e,M [a,b,c,d,e]):∀us:List α,us.length=5->M us
 |[a,b,c,d,e],_=>h a b c d e
theorem AF (h:∀a b c d e f,M [a,b,c,d,e,f]):∀us:List α,us.length=6->M us
 |[a,b,c,d,e,f],_=>h a b c d e f
end
section
variable {K:Frag}{f T:Addr}{fd:xR}{oT:Obj}{t:Tok}{n:Nat}
theorem yn {us ws:nZ}(h:(E9 us ws).length=3):∃a b c,us=[a]/\ws=[b,c]:=by
 unfold E9 at h
 split at h
 ·exact⟨_,_,_,rfl,rfl⟩
 ·cases h
theorem B7 (F:DJ K "__init__" "Field.__init__" vY f fd T)(lT:K.lookup T=some oT)(dT:oT.data=.seq #[.int 0 t] n):L2.av K fd qH []:=by
 obtain⟨oc,od,kV,doc,pm,an,Ff,ct,FA,rfl,lk,F3⟩:=F.ex;intro s us KX hl
 cases us with
 |nil=>simp at hl
 |cons a0 r1 =>
  cases r1 with
  |nil=>simp at hl
  |cons a1 r2 =>
   cases r2 with
   |nil=>exact binds_K KX rfl lT dT rfl rfl
   |cons a r=>simp at hl
theorem Bc (F:DJ K "__init__" "Sum.__init__" ou f fd T)(lT:K.lookup T=some oT)(dT:oT.data=.seq #[.none] n):L2.av K fd uD []:=by
 obtain⟨oc,od,kV,doc,pm,an,Ff,ct,FA,rfl,lk,F3⟩:=F.ex;intro s us KX hl
 cases us with
 |nil=>simp at hl
 |cons a0 r1 =>
  cases r1 with
  |nil=>simp at hl
  |cons a1 r2 =>
   cases r2 with
   |nil=>simp at hl
   |cons a2 r3 =>
    cases r3 with
    |nil=>exact binds_K KX rfl lT dT rfl rfl
    |cons a r=>simp at hl
theorem ze (F:DJ K "__init__" "Sum.__init__" ou f fd T)(lT:K.lookup T=some oT)(dT:oT.data=.seq #[.none] n):L2.av K fd uD [.none]:=by
 obtain⟨oc,od,kV,doc,pm,an,Ff,ct,FA,rfl,lk,F3⟩:=F.ex;intro s us KX hl
 cases us with
 |nil=>simp at hl
 |cons a0 r1 =>
  cases r1 with
  |nil=>simp at hl
  |cons a1 r2 =>
   cases r2 with
   |nil=>exact binds_K KX rfl lT dT rfl rfl
   |cons a r=>simp at hl
theorem A3 (F:DJ K "__init__" "System.__init__" Ds f fd T)(lT:K.lookup T=some oT)(dT:oT.data=.seq #[.none] n):L2.av K fd AL []:=by
 obtain⟨oc,od,kV,doc,pm,an,Ff,ct,FA,rfl,lk,F3⟩:=F.ex;intro s us KX hl
 cases us with
 |nil=>simp at hl
 |cons a0 r1 =>
  cases r1 with
  |nil=>simp at hl
  |cons a1 r2 =>
   cases r2 with
   |nil=>simp at hl
   |cons a2 r3 =>
    cases r3 with
    |nil=>simp at hl
    |cons a3 r4 =>
     cases r4 with
     |nil=>simp at hl
     |cons a4 r5 =>
      cases r5 with
      |nil=>exact binds_K KX rfl lT dT rfl rfl
      |cons a r=>simp at hl
theorem zt (F:DJ K "__init__" "System.__init__" Ds f fd T)(lT:K.lookup T=some oT)(dT:oT.data=.seq #[.none] n):L2.av K fd AL [.none]:=by
 obtain⟨oc,od,kV,doc,pm,an,Ff,ct,FA,rfl,lk,F3⟩:=F.ex;intro s us KX hl
 cases us with
 |nil=>simp at hl
 |cons a0 r1 =>
  cases r1 with
  |nil=>simp at hl
  |cons a1 r2 =>
   cases r2 with
   |nil=>simp at hl
   |cons a2 r3 =>
    cases r3 with
    |nil=>simp at hl
    |cons a3 r4 =>
     cases r4 with
     |nil=>exact binds_K KX rfl lT dT rfl rfl
     |cons a r=>simp at hl
theorem Dl (F:DJ K "put" "Bench.put" Bj f fd T)(lT:K.lookup T=some oT)(dT:oT.data=.seq #[.bool false] n):L2.av K fd DF []:=by
 obtain⟨oc,od,kV,doc,pm,an,Ff,ct,FA,rfl,lk,F3⟩:=F.ex;intro s us KX hl
 cases us with
 |nil=>simp at hl
 |cons a0 r1 =>
  cases r1 with
  |nil=>simp at hl
  |cons a1 r2 =>
   cases r2 with
   |nil=>simp at hl
   |cons a2 r3 =>
    cases r3 with
    |nil=>exact binds_K KX rfl lT dT rfl rfl
    |cons a r=>simp at hl
theorem AM (F:DJ K "put" "Bench.put" Bj f fd T)(lT:K.lookup T=some oT)(dT:oT.data=.seq #[.bool false] n):L2.av K fd DF [.bool false]:=by
 obtain⟨oc,od,kV,doc,pm,an,Ff,ct,FA,rfl,lk,F3⟩:=F.ex;intro s us KX hl
 cases us with
 |nil=>simp at hl
 |cons a0 r1 =>
  cases r1 with
  |nil=>simp at hl
  |cons a1 r2 =>
   cases r2 with
   |nil=>exact binds_K KX rfl lT dT rfl rfl
   |cons a r=>simp at hl
theorem De (F:DJ K "put" "Bench.put" Bj f fd T)(lT:K.lookup T=some oT)(dT:oT.data=.seq #[.bool false] n):Bb K fd DF ["upper","wish"] E9 E9:=by
 obtain⟨oc,od,kV,doc,pm,an,Ff,ct,FA,rfl,lk,F3⟩:=F.ex;refine⟨λs us ws KX hl=>?_,y6⟩;obtain⟨a,b,c,rfl,rfl⟩:=yn hl;exact binds_K KX rfl lT dT rfl rfl
end
section
variable {K:Frag}{x qual n:Str}{st:Stmt}{ps:E4}
theorem gF {mg:wg}{h:Heap}(X:K.In h)(G:h.Ns mainGlobals mg)(s:aQ K (gv K n)=cV x qual st)(b:cO K (gv K n) qual=true)(hb:∀(kV doc pm:Value)(an:Bo)(Ff ct:Value)(us:nZ),us.length=ps.length->bindArgs (PySem.W.fnOf x qual (cW st) (cn st) (aq st) .none kV doc pm an Ff ct) ⟨us,[]⟩=pure (ps.zip us)):∃fd,u3 K x qual st (ga K n) fd/\L2.av K fd ps []/\mg n=some (.ref (ga K n))/\keepIn K (.ref (ga K n))=true:=by
 obtain⟨e,d⟩:=qE s b;obtain⟨fd,F⟩:=d.fn;exact⟨fd,F,F.binds hb,mg_of X G e,d.keep⟩
theorem nG {c:Str}(s:aQ K (fv K c n)=cV x qual st)(b:cO K (fv K c n) qual=true)(i:isFn K (.ref (cm (fv K c n)))=true)(hb:∀(kV doc pm:Value)(an:Bo)(Ff ct:Value)(us:nZ),us.length=ps.length->bindArgs (PySem.W.fnOf x qual (cW st) (cn st) (aq st) .none kV doc pm an Ff ct) ⟨us,[]⟩=pure (ps.zip us)):∃fd,u3 K x qual st (cm (fv K c n)) fd/\L2.av K fd ps []/\L2.Meth K (ga K c) n (cm (fv K c n))/\findIn K (.ref (ga K c)) n=some (some (.ref (cm (fv K c n))))/\isFn K (.ref (cm (fv K c n)))=true:=by
 obtain⟨e,d⟩:=qE s b;obtain⟨fd,F⟩:=d.fn;exact⟨fd,F,F.binds hb,⟨e,i,d.keep⟩,e,i⟩
end
def vc (_:World)(h:Heap):Prop:=∃K:Frag,q0 K=tP/\K.In h
theorem za (w:World)(s:AQ)(e:q0 (Hd.uR qG s.heap)=tP):vc w s.heap:=⟨_,e,Hd.oy _ _⟩
theorem rp (w:World)(h h':Heap)(y:vc w h)(k:∀(b:Addr)(o:Obj),h.get? b=some o->h'.get? b=some o):vc w h':=let⟨K,e,i⟩:=y;⟨K,e,λa o q=>k a o (i a o q)⟩
set_option maxHeartbeats 0 in
theorem qp {l:OpenLaw}{w:World}{K:Frag}{mg:wg}{h:Heap}{fa:Addr}(o:q0 K=tP)(X:K.In h)(G:h.Ns mainGlobals mg)(Iw:mg "law"=some (.ref fa)):
 ∃fd:FuncData,(∀(s:AQ)(v:Value),BindsTo s fd ⟨[v],[]⟩ [("_law_script",v)])/\∀base:Heap,K.In base->base.Ns mainGlobals mg->wI [] mg base->E6 l.prog w K mg base (aN l.prog w) 10 fa fd ["_law_script"] (vt K):=by
 obtain⟨o1,o2⟩:=Prod.mk.inj (show(qB K,_)=(true,_) from o);simp only[List.cons.injEq,and_true] at o2;obtain⟨s0,s1,s2,s3,s4,s5,s6,s7,s8,s9,Gd,Ho,MG,Hf,HZ,s15,Mv,s17,s18,N7,s20,s21,s22,s23,N0,s25,s26,s27,s28,s29,s30,s31,s32,s33,Rk,s35,MK,s37,s38,s39,s40,s41,s42,s43,s44,s45,Ik,IF,Ia,s49,s50,s51,s52,s53,s54,s55,s56,s57⟩:=o2;unfold qB at o1;simp only[Bool.and_eq_true] at o1;obtain⟨g0,g1,g2,g3,g4,g5,g6,g7,g8,g9,UM,UN⟩:=o1;unfold EZ at g0;simp only[Bool.and_eq_true] at g0;obtain⟨h0,h1,h2,h3,h4,h5,h6,h7,h8,h9,h10,h11,h12,h13,h14,h15⟩:=g0;unfold EC at g1;simp only[Bool.and_eq_true] at g1;obtain⟨h16,h17,h18,h19,h20,h21,h22,h23,h24,h25,h26,h27,h28,h29,h30,h31⟩:=g1;unfold EM at g2;simp only[Bool.and_eq_true] at g2;obtain⟨h32,h33,h34,h35,h36,h37,h38,h39,h40,h41,h42,h43,h44,h45,h46,h47⟩:=g2;unfold Ey at g3;simp only[Bool.and_eq_true] at g3;obtain⟨h48,h49,h50,h51,h52,h53,h54,h55,h56,h57,h58,h59,h60,h61,h62,h63⟩:=g3;unfold EB at g4;simp only[Bool.and_eq_true] at g4;obtain⟨h64,h65,h66,h67,h68,h69,h70,h71,h72,h73,h74,h75,h76,h77,h78,h79⟩:=g4;unfold Et at g5;simp only[Bool.and_eq_true] at g5;obtain⟨h80,h81,h82,h83,h84,h85,h86,h87,h88,h89,h90,h91,h92,h93,h94,h95⟩:=g5;unfold EA at g6;simp only[Bool.and_eq_true] at g6;obtain⟨h96,h97,h98,h99,h100,h101,h102,h103,h104,h105,h106,h107,h108,h109,h110,h111⟩:=g6;unfold E3 at g7;simp only[Bool.and_eq_true] at g7;obtain⟨h112,h113,h114,h115,h116,h117,h118,h119,h120,h121,h122,h123,h124,h125,h126,h127⟩:=g7;unfold EY at g8;simp only[Bool.and_eq_true] at g8;obtain⟨h128,h129,h130,h131,h132,h133,h134,h135,h136,h137,h138,h139,h140,h141,h142,h143⟩:=g8;unfold E1 at g9;simp only[Bool.and_eq_true] at g9;obtain⟨h144,h145,h146,h147,h148,h149,h150,h151,h152,h153,h154,h155,h156,h157,h158,h159⟩:=g9;unfold CK at UM;simp only[Bool.and_eq_true] at UM;obtain⟨h160,h161,h162,h163,h164,h165,h166,h167,h168,h169,h170,h171,h172,h173,h174,h175⟩:=UM;unfold Cj at UN;simp only[Bool.and_eq_true] at UN;obtain⟨h176,h177,h178⟩:=UN;have m:=λ{n:Str}{v:Value}(e:nsIn K mainGlobals n=some (some v))=>mg_of X G e;have m0:=λ{n:Str}(e:nsIn K mainGlobals n=some none)=>mg_none_of X G e;have Fd:=m0 (aU h0);have FR:=m0 (aU h1);have GK:=m0 (aU h2);have GN:=m0 (aU h3);have GZ:=m0 (aU h4);have Fj:=m0 (aU h5);have Fo:=m0 (aU h6);have HF:=m0 (aU h7);have Ip:=m0 (aU h8);have Fg:=m0 (aU h9);have Fs:=m0 (aU h10);have Fw:=m0 (aU h11);have GG:=m0 (aU h12);have IU:=m0 (aU h13);have Fi:=m0 (aU h14);have ON:=m (cJ h15);have JN:=m (cJ h16);have IV:=m (cJ h17);have JO:=m (cJ h18);have Ie:=m (cJ h19);have HA:=m (cJ h20);have Hk:=m (cJ h21);have GO:=m (cJ h22);have IW:=m (cJ h23);obtain⟨Kw,Hl⟩:=iX h24;have FD:=m Hl;obtain⟨Jr,GA⟩:=iX h25;have F1:=m GA;obtain⟨Js,GB⟩:=iX h26;have GC:=m GB;obtain⟨Y9,UO,JP,HK,JQ⟩:=gF X G (ps:=["thing"]) s0 h27 λ_ _ _ _ _ _=>AB λ_=>rfl;obtain⟨Za,UP,UQ,OO,US⟩:=gF X G (ps:=["thing"]) s1 h28 λ_ _ _ _ _ _=>AB λ_=>rfl;obtain⟨Zb,UT,UU,OP,UX⟩:=gF X G (ps:=["thing"]) s2 h29 λ_ _ _ _ _ _=>AB λ_=>rfl;obtain⟨Zc,UY,UZ,OQ,U0⟩:=gF X G (ps:=["field","thing"]) s3 h30 λ_ _ _ _ _ _=>E5 λ_ _=>rfl;obtain⟨Zd,U1,U3,OR,U4⟩:=gF X G (ps:=["field","terms"]) s4 h31 λ_ _ _ _ _ _=>E5 λ_ _=>rfl;obtain⟨Ze,U5,U6,OS,adE⟩:=gF X G (ps:=["term"]) s5 h32 λ_ _ _ _ _ _=>AB λ_=>rfl;obtain⟨Zf,U7,U8,OT,U9⟩:=gF X G (ps:=["field","terms"]) s6 h33 λ_ _ _ _ _ _=>E5 λ_ _=>rfl;obtain⟨Zg,Va,OU,Kx,OV⟩:=gF X G (ps:=["one","other"]) s7 h34 λ_ _ _ _ _ _=>E5 λ_ _=>rfl;obtain⟨Zh,Vb,Vc,OW,Vd⟩:=gF X G (ps:=["top","bottom"]) s8 h35 λ_ _ _ _ _ _=>E5 λ_ _=>rfl;obtain⟨Zi,Ve,Vf,OX,Vg⟩:=gF X G (ps:=["field","places","thing"]) s9 h36 λ_ _ _ _ _ _=>il λ_ _ _=>rfl;obtain⟨Vh,OY,Kz,IX,KA⟩:=gF X G (ps:=["field","places","part","wishes"]) Gd h37 λ_ _ _ _ _ _=>Cu λ_ _ _ _=>rfl;obtain⟨Vi,OZ,O0,LK,O1⟩:=gF X G (ps:=["field","places","uppers"]) Ho h38 λ_ _ _ _ _ _=>il λ_ _ _=>rfl;obtain⟨Vj,O2,O3,LL,O4⟩:=gF X G (ps:=["_law_script","_law_k"]) MG h39 λ_ _ _ _ _ _=>E5 λ_ _=>rfl;obtain⟨Vk,O5,F6,FO,F7⟩:=gF X G (ps:=["_law_pool_here","_law_many"]) Hf h40 λ_ _ _ _ _ _=>E5 λ_ _=>rfl;obtain⟨Vl,O6,O7,LM,O8⟩:=gF X G (ps:=["_law_top","_law_bottom"]) HZ h41 λ_ _ _ _ _ _=>E5 λ_ _=>rfl;obtain⟨Vm,O9,HL,GP,HM⟩:=gF X G (ps:=["_law_prime_here","_law_top","_law_bottom"]) s15 h42 λ_ _ _ _ _ _=>il λ_ _ _=>rfl;obtain⟨Vn,Pa,KC,IY,KD⟩:=gF X G (ps:=["_law_prime_here","_law_one","_law_other"]) Mv h43 λ_ _ _ _ _ _=>il λ_ _ _=>rfl;obtain⟨Vo,Pb,Pc,LN,Pd⟩:=gF X G (ps:=["_law_prime_here","_law_one","_law_other"]) s17 h44 λ_ _ _ _ _ _=>il λ_ _ _=>rfl;obtain⟨Vp,Pe,Pf,LO,Zj⟩:=gF X G (ps:=["_law_row"]) s18 h45 λ_ _ _ _ _ _=>AB λ_=>rfl;obtain⟨Vq,Pg,KG,IZ,KH⟩:=gF X G (ps:=["_law_prime_here","_law_terms_here"]) N7 h46 λ_ _ _ _ _ _=>E5 λ_ _=>rfl;obtain⟨Vr,Ph,Pj,LP,Pk⟩:=gF X G (ps:=["_law_prime_here","_law_one","_law_other"]) s20 h47 λ_ _ _ _ _ _=>il λ_ _ _=>rfl;obtain⟨Vs,Pl,Pn,LQ,Po⟩:=gF X G (ps:=["_law_pool_here"]) s21 h48 λ_ _ _ _ _ _=>AB λ_=>rfl;obtain⟨Vt,Pp,Pq,LS,Pr⟩:=gF X G (ps:=["_law_pool_here","_law_prime_here"]) s22 h49 λ_ _ _ _ _ _=>E5 λ_ _=>rfl;obtain⟨Vu,Pt,Pu,LU,Pw⟩:=gF X G (ps:=["_law_pool_here","_law_places","_law_most"]) s23 h50 λ_ _ _ _ _ _=>il λ_ _ _=>rfl;obtain⟨Vv,Px,Ja,HB,Jb⟩:=gF X G (ps:=["_law_pool_here","_law_prime_here","_law_places","_law_many","_law_most"]) N0 h51 λ_ _ _ _ _ _=>DO λ_ _ _ _ _=>rfl;obtain⟨Vw,Py,Pz,LV,PB⟩:=gF X G (ps:=["_law_prime_here","_law_places","_law_noughts","_law_uppers"]) s25 h52 λ_ _ _ _ _ _=>Cu λ_ _ _ _=>rfl;obtain⟨Vx,PD,PF,LX,PH⟩:=gF X G (ps:=["_law_prime_here","_law_terms_here","_law_row"]) s26 h53 λ_ _ _ _ _ _=>il λ_ _ _=>rfl;obtain⟨Vy,PJ,KI,Jc,KJ⟩:=gF X G (ps:=["_law_prime_here","_law_terms_here","_law_row"]) s27 h54 λ_ _ _ _ _ _=>il λ_ _ _=>rfl;obtain⟨Vz,PL,PM,LY,PN⟩:=gF X G (ps:=["_law_pool_here","_law_most"]) s28 h55 λ_ _ _ _ _ _=>E5 λ_ _=>rfl;obtain⟨VA,PQ,PR,LZ,PU⟩:=gF X G (ps:=["_law_pool_here","_law_prime_here","_law_places"]) s29 h56 λ_ _ _ _ _ _=>il λ_ _ _=>rfl;obtain⟨VB,PV,KL,Jd,KN⟩:=gF X G (ps:=["_law_bench","_law_one","_law_is_upper"]) s30 h57 λ_ _ _ _ _ _=>il λ_ _ _=>rfl;obtain⟨VC,PY,PZ,L6,P1⟩:=gF X G (ps:=["_law_pool_here","_law_prime_here","_law_places"]) s31 h58 λ_ _ _ _ _ _=>il λ_ _ _=>rfl;obtain⟨VD,P2,P4,L8,P5⟩:=gF X G (ps:=["_law_bench","_law_past","_law_wishes"]) s32 h59 λ_ _ _ _ _ _=>il λ_ _ _=>rfl;obtain⟨VE,P6,P7,L9,P8⟩:=gF X G (ps:=["_law_pool_here","_law_bench","_law_prime_here","_law_places","_law_past","_law_wishes"]) s33 h60 λ_ _ _ _ _ _=>AF λ_ _ _ _ _ _=>rfl;obtain⟨Ma,KO,Zk,Mb,Zl⟩:=gF X G (ps:=["_law_script"]) Rk h61 λ_ _ _ _ _ _=>AB λ_=>rfl;obtain⟨Zm,VF,VG,VH,adF,adG⟩:=nG (ps:=["self"]) s35 h62 h63 λ_ _ _ _ _ _=>AB λ_=>rfl;obtain⟨Zn,VI,VJ,VL,adH,adI⟩:=nG (ps:=["self"]) MK h64 h65 λ_ _ _ _ _ _=>AB λ_=>rfl;obtain⟨Zo,VM,VN,adJ,VO,VP⟩:=nG (ps:=["self","other"]) s37 h66 h67 λ_ _ _ _ _ _=>E5 λ_ _=>rfl;obtain⟨Zq,VQ,Mc,adK,Md,Me⟩:=nG (ps:=["self","other"]) s38 h68 h69 λ_ _ _ _ _ _=>E5 λ_ _=>rfl;obtain⟨Zr,VR,VS,VT,adL,adM⟩:=nG (ps:=["self","one","other"]) s39 h70 h71 λ_ _ _ _ _ _=>il λ_ _ _=>rfl;obtain⟨Zt,VU,VV,VW,adN,adO⟩:=nG (ps:=["self","top","bottom"]) s40 h72 h73 λ_ _ _ _ _ _=>il λ_ _ _=>rfl;obtain⟨Zu,VX,VY,VZ,adP,adQ⟩:=nG (ps:=["self","thing"]) s41 h74 h75 λ_ _ _ _ _ _=>E5 λ_ _=>rfl;obtain⟨Zv,V2,V3,V4,adR,adS⟩:=nG (ps:=["self"]) s42 h76 h77 λ_ _ _ _ _ _=>AB λ_=>rfl;obtain⟨Zw,V5,V6,adT,V7,V8⟩:=nG (ps:=["self","other"]) s43 h78 h79 λ_ _ _ _ _ _=>E5 λ_ _=>rfl;obtain⟨Zx,V9,Wa,adU,Wb,Wc⟩:=nG (ps:=["self"]) s44 h80 h81 λ_ _ _ _ _ _=>AB λ_=>rfl;obtain⟨Zy,Wd,P9,Qa,adV,adW⟩:=nG (ps:=["self"]) s45 h82 h83 λ_ _ _ _ _ _=>AB λ_=>rfl;obtain⟨Zz,We,Qb,Qc,adX,adY⟩:=nG (ps:=["self"]) Ik h84 h85 λ_ _ _ _ _ _=>AB λ_=>rfl;obtain⟨ZA,Wf,Qd,Qe,adZ,ad0⟩:=nG (ps:=["self"]) IF h86 h87 λ_ _ _ _ _ _=>AB λ_=>rfl;obtain⟨ZC,Wg,Qf,Qg,ad1,ad2⟩:=nG (ps:=["self"]) Ia h88 h89 λ_ _ _ _ _ _=>AB λ_=>rfl;obtain⟨ZD,Wh,Wj,ad3,Wk,Wl⟩:=nG (ps:=["self","system"]) s49 h90 h91 λ_ _ _ _ _ _=>E5 λ_ _=>rfl;obtain⟨ZE,Wm,Wn,Wo,ad4,ad5⟩:=nG (ps:=["self"]) s50 h92 h93 λ_ _ _ _ _ _=>AB λ_=>rfl;obtain⟨ZF,Wq,Wr,Wt,ad6,ad7⟩:=nG (ps:=["self"]) s51 h94 h95 λ_ _ _ _ _ _=>AB λ_=>rfl;obtain⟨ZG,Wv,Ww,Wy,ad8,ad9⟩:=nG (ps:=["self"]) s52 h96 h97 λ_ _ _ _ _ _=>AB λ_=>rfl;obtain⟨ZH,Wz,WA,aea,aeb,aec⟩:=nG (ps:=["self","part","number"]) s53 h98 h99 λ_ _ _ _ _ _=>il λ_ _ _=>rfl;obtain⟨Qh,Qi⟩:=iP s54 h100 h102;have WB:=h101;have aed:L2.Meth K _ "__init__" _:=⟨Qh,h101,Qi.keep⟩;obtain⟨ZI,Mf⟩:=Qi.fn;obtain⟨aee,aef,aeg,KP,KQ,Qj⟩:=ib h103;obtain⟨Qk,Ql⟩:=iP s55 h104 h106;have WC:=h105;have aeh:L2.Meth K _ "__init__" _:=⟨Qk,h105,Ql.keep⟩;obtain⟨ZJ,Qm⟩:=Ql.fn;obtain⟨aei,aej,aek,Qn,Qo,Qp⟩:=ib h107;obtain⟨Qq,Qr⟩:=iP s56 h108 h110;have WE:=h109;have ael:L2.Meth K _ "__init__" _:=⟨Qq,h109,Qr.keep⟩;obtain⟨ZK,Mg⟩:=Qr.fn;obtain⟨aem,aen,aeo,KR,KS,Qs⟩:=ib h111;obtain⟨WG,Qt⟩:=iP s57 h112 h114;have aep:=h113;have Mh:L2.Meth K _ "put" _:=⟨WG,h113,Qt.keep⟩;obtain⟨ZL,JR⟩:=Qt.fn;obtain⟨aeq,aer,aes,Je,Jf,Qu⟩:=ib h115;have WH:=Iw.symm.trans Mb
 cases WH
 have Qv:=jK Qj;subst Qv;obtain⟨aet,Qw⟩:=kd Qp;subst Qw;have Qx:=jK Qs;subst Qx;have Qy:=Hd.aaf Qu;subst Qy;have WI:=Bc Mf KP KQ;have WJ:=ze Mf KP KQ;have RK:=B7 Qm Qn Qo;have RL:=A3 Mg KR KS;have Qz:=zt Mg KR KS;have WK:=Dl JR Je Jf;have QA:=AM JR Je Jf;have WL:=De JR Je Jf;have N:lB mg:=⟨Fd,FR,GK⟩;have cF:zZ K mg (ga K "Field"):=⟨⟨h116,h117,h118,cf h119⟩,aU h120,JN,(Bool.and_eq_true_iff.mpr h121),cf h122,cf h123,di h124,di h125⟩;have c:Em K mg (ga K "Sum"):=⟨⟨h126,h127,h128,cf h129⟩,aU h130,aU h131,ON⟩;have cQ:Ci K mg (ga K "Sum"):=⟨c,(Bool.and_eq_true_iff.mpr h132),cf h133,cf h123,di h124,di h134⟩;have cS:Cy K mg (ga K "System"):=⟨⟨h135,h136,h137,cf h138⟩,aU h139,aU h140,aU h141,aU h142,IV,(Bool.and_eq_true_iff.mpr h143),cf h144,cf h123,di h124,di h145⟩;have cB:DL K mg (ga K "Bench"):=⟨⟨h146,h147,h148,cf h149⟩,aU h150,aU h151,aU h152,JO⟩;have hP:=rL h153;have ZM:zv K (ga K "NoSystem"):=⟨h158,cf h159,aU h160,cf h161,di h162,di h163⟩;have QB:findIn K (.ref (ga K "NoSystem")) "__setattr__"=some (some (.builtin "object.__setattr__")):=cf h164;have sNS:DM K (ga K "NoSystem"):=Hd.tj h157 ZM QB;refine⟨Ma,λs v=>?_,λbase _ _ BT=>?_⟩
 ·obtain⟨oc,od,kV,doc,pm,an,Ff,ct,FA,rfl,lk,F3⟩:=KO.ex;exact .of_eq rfl
 have JS:=wO (P:=l.prog) (w:=w) (base:=base) UO N;have QC:=Aa (P:=l.prog) (w:=w) (base:=base) Va GZ;have WM:=uO (P:=l.prog) (w:=w) (base:=base) Vb QC OU Kx OV;have WN:=qc (P:=l.prog) (w:=w) (base:=base) VU cF FD WM Vc OW Vd;have WO:=yo (P:=l.prog) (w:=w) (base:=base) VR cF WN VV VW;have JT:=zo (P:=l.prog) (w:=w) (base:=base) Qm cF JS JP HK JQ FD IW hP Ie h154;have WQ:=pe (P:=l.prog) (w:=w) (base:=base) VX cF FD N Fo Fj QC OU Kx OV JS JP HK JQ;have Mi:=CL (P:=l.prog) (w:=w) (base:=base) VQ cF N;have WR:=wJ (P:=l.prog) (w:=w) (base:=base) V2 cF;have WS:=uY (P:=l.prog) (w:=w) (base:=base) UP F1 JS JP HK JQ;have WT:=qh (P:=l.prog) (w:=w) (base:=base) UT Fd Fo HF Ip WS UQ OO US;have WV:=xM (P:=l.prog) (w:=w) (base:=base) UY cF Fd Fo Fj WT UU OP UX WQ VY VZ;have WW:=qr (P:=l.prog) (w:=w) (base:=base) U5 Fj;have WY:=qV (P:=l.prog) (w:=w) (base:=base) U1 Fd Fg Fs WV UZ OQ U0;have WZ:=yX (P:=l.prog) (w:=w) (base:=base) U7 cF Fw WO VS VT WW U6 OS;have JU:=vE (P:=l.prog) (w:=w) (base:=base) Mf c WZ U8 OT U9 WY U3 OR U4;have RM:L2.Mk K _ _:=⟨h167,Qh,WB,h168⟩;have RN:L2.Mk K _ _:=⟨h169,Qk,WC,h170⟩;have RO:L2.Mk K _ _:=⟨h171,Qq,WE,h172⟩;have MkB:L2.Mk K _ _:=⟨h173,Wk,Wl,h174⟩;have W3:=uy (P:=l.prog) (w:=w) (base:=base) (CF:=ga K "Field") VF c;have W4:=xG (P:=l.prog) (w:=w) (base:=base) VI c GG;have W5:=As (P:=l.prog) (w:=w) (base:=base) VM cQ cF Fd Mi Mc Md Me;have RP:IK l.prog w K mg base "NoSystem" (ga K "NoSystem") uL (fG (ga K "NoSystem") "part" "number"):=Hd.BK HA h157 ZM QB (xj Wz sNS (aU h165) (aU h166)) WA;have RF:D1 l.prog w K mg base _ _:=⟨RP,aU h165,aU h166,di h175,GO,GN,di h176,di h177⟩;have W6:=AD (P:=l.prog) (w:=w) (base:=base) Ve cQ cF Fd Mi Mc Md Me W3 VG VH W4 VJ VL;have KU:=BJ (P:=l.prog) (w:=w) (base:=base) OY Fd Fg Fs Fj GC RP W6 Vf OX Vg;have QD:=BO (P:=l.prog) (w:=w) (base:=base) OZ cF Fd Fg FD RP WR V3 V4 KU Kz IX KA;have JV:=CH (P:=l.prog) (w:=w) (base:=base) Mg cS cF Fd F1 RP JS JP HK JQ KU Kz IX KA QD O0 LK O1;have W7:=C3 (P:=l.prog) (w:=w) (base:=base) V5 cS cQ cF Fd Mi Mc Md Me W5 VN VO VP;have W8:=yt (P:=l.prog) (w:=w) (base:=base) (CF:=ga K "Field") V9 cS Fj;have QE:=BF (P:=l.prog) (w:=w) (base:=base) (CF:=ga K "Field") Wd cS;have QF:=Cn (P:=l.prog) (w:=w) (base:=base) (CF:=ga K "Field") We cS;have QG:=Ca (P:=l.prog) (w:=w) (base:=base) (CF:=ga K "Field") Wf cS Fg;have QH:=Dc (P:=l.prog) (w:=w) (base:=base) (CF:=ga K "Field") Wg cS Fg;have Xa:=BX (P:=l.prog) (w:=w) (base:=base) Wh cB;have Xb:=BV (P:=l.prog) (w:=w) (base:=base) Wm cB;have Xc:=CI (P:=l.prog) (w:=w) (base:=base) Wq cB Fj;have Mj:=Cf (P:=l.prog) (w:=w) (base:=base) JR cB cS GK RO JV RL QE P9 Qa QF Qb Qc QG Qd Qe QH Qf Qg;have Xd:=Dm (P:=l.prog) (w:=w) (base:=base) Wv cB cS Fj Hk h155 RO JV RL QE P9 Qa QF Qb Qc QG Qd Qe QH Qf Qg;have QI:=yY (P:=l.prog) (w:=w) (base:=base) O2 Fj;have F8:=yF (P:=l.prog) (w:=w) (base:=base) (mg:=mg) O5;have QJ:=xN (P:=l.prog) (w:=w) (base:=base) O6 GZ;have HN:=xU (P:=l.prog) (w:=w) (base:=base) O9 Fi QJ O7 LM O8;have KW:=vb (P:=l.prog) (w:=w) (base:=base) Pa HN HL GP HM;have QK:=uN (P:=l.prog) (w:=w) (base:=base) Pb HN HL GP HM;have QL:=C2 (P:=l.prog) (w:=w) (base:=base) Pe Fj;have KY:=xh (P:=l.prog) (w:=w) (base:=base) Pg Fw KW KC IY KD QL Pf LO;have QM:=CP (P:=l.prog) (w:=w) (base:=base) Ph KY KG IZ KH;have QN:=uk (P:=l.prog) (w:=w) (base:=base) Pl F8 F6 FO F7;have QO:=uf (P:=l.prog) (w:=w) (base:=base) Pp F8 F6 FO F7 HN HL GP HM;have QP:=xZ (P:=l.prog) (w:=w) (base:=base) Pt Fi Fo Fw F8 F6 FO F7;have Jg:=Aj (P:=l.prog) (w:=w) (base:=base) Px Fi F8 F6 FO F7 QP Pu LU Pw QO Pq LS Pr KY KG IZ KH;have QQ:=tR (P:=l.prog) (w:=w) (base:=base) PD KW KC IY KD;have KZ:=Cc (P:=l.prog) (w:=w) (base:=base) PJ QQ PF LX PH QK Pc LN Pd HN HL GP HM QM Pj LP Pk;have QR:=An (P:=l.prog) (w:=w) (base:=base) Py cF c cS Fg RN JT RK RM JU WI RO JV Qz RL;have QS:=CD (P:=l.prog) (w:=w) (base:=base) PL Fi Fo F8 F6 FO F7 QN Pn LQ Po Jg Ja HB Jb KZ KI Jc KJ;have QT:=BP (P:=l.prog) (w:=w) (base:=base) PQ Fi Fo F8 F6 FO F7 Jg Ja HB Jb KZ KI Jc KJ;have QU:=Cs (P:=l.prog) (w:=w) (base:=base) PY cF c FR F8 F6 FO F7 RN JT RK RM JU WI;have K0:=Dj (P:=l.prog) (w:=w) (base:=base) PV cB Fd RF Mj WK Mh;have QV:=BM (P:=l.prog) (w:=w) (base:=base) P2 cB Hk (di h178) Xd Ww Wy;have QW:=CA (P:=l.prog) (w:=w) (base:=base) P6 cF c cB FR Fg Fj F8 F6 FO F7 QT PR LZ PU RN JT RK RM JU WI Mj WK QA WL Mh QV P4 L8 P5 K0 KL Jd KN QU PZ L6 P1;exact Ah KO cF c cS cB Fi GG IU Fj FR Fg QI O3 LL O4 F8 F6 FO F7 QS PM LY PN Jg Ja HB Jb QR Pz LV PB MkB Xa Wj QW P7 L9 P8 Xb Wn Wo Xc Wr Wt W7 V6 V7 V8 (cf h156) RN JT RK RM JU WJ RO JV Qz RL Mj WK QA Mh K0 KL Jd KN W8 Wa Wb Wc
theorem D0 {l:OpenLaw}{q:u6}{loose:E4}{XP:(Str->Option Value)->Heap->Prop}{d:DefRec}(hn:l.most=some 63)(M5:d.params.defaults=[])(hd:d.name="law"):
 WalkO q loose XP vc l.row.toRowW d [] (λf vs=>PySem.call f vs):=by
 refine Hd.uw (n:=63) (k:=10) (x:="_law_script") (CX:=λw=>aN l.prog w) (sp:=λK=>vt K) (φ:=λK=>q0 K=tP) (tabs:=λK=>[]) hn (by decide) M5 ⟨rfl,by decide,by decide,rfl⟩ (λw h y=>y) ?_ (λw K mg fa h o X G e=>qp o X G (by rw[<-hd];exact e)) ?_ ?_
 ·intro w s₀ mg mb h K o Gr KX;exact⟨λr Xe=>(nomatch Xe),λr Xe=>(nomatch Xe)⟩
 ·intro K H a ns hl hO hS;refine⟨a,ns,rfl,?_,hl,λ_=>rfl⟩
  rcases hS with(hS|⟨o,hS⟩)|hS
  ·rcases hO.1 a with z|⟨o,xs,z⟩|⟨z,_⟩
   ·rw[z] at hS;cases hS
   ·rw[z] at hS;cases hS
   ·rw[z] at hS;cases hS
  ·exact .inl ⟨o,hS⟩
  ·exact .inr hS
 ·intro w H s e s' z;obtain⟨a,cls,a0,B,d,H',_,_,_,_,hE⟩:=z;exact hE.elim
end K80
open PySem PySem.W PyProof.Rows
set_option maxRecDepth 100000 in
set_option maxHeartbeats 0 in
theorem PySem.Challenge.cw_falsesums_k80_wishes_put_and_taken_back_holds : PySem.Challenge.rw_falsesums_k80_wishes_put_and_taken_back.Holds := by
 refine PySem.W.holds_law K80.sd1 λaew=>?_
 refine PySem.W.holds_open (r:=PySem.Challenge.rw_falsesums_k80_wishes_put_and_taken_back.row) (q:=K80.cP) (loose:=["Field","STEP"]) (Xt:=λs=>xlAt K80.cP K80.lv s&&recOk (PySem.Challenge.rw_falsesums_k80_wishes_put_and_taken_back.row.toRowW).records s) (XP:=XL K80.cP K80.lv)
  (Yf:=λs=>K80.q0 (Hd.uR K80.qG s.heap)) (Ya:=λ_=>K80.tP) (YP:=K80.vc) (N:=10452) ?hl K80.za K80.rp (λs e=>xl_of s (Bool.and_eq_true_iff.mp e).1) XL.keeps (by rfl) (by rfl) (by rfl) (λs e=>recFacts_of (Bool.and_eq_true_iff.mp e).2) (by rfl) (by assumption) (by decide +kernel) K80.sd3 ?hw ?hc
 case hw=>w_witness2
 case hl =>
  refine Hd.aak λw=>?_;obtain⟨⟨h,s⟩,e,e0⟩:=Option.map_eq_some_iff.mp (K80.ran0 w)
  injection e0 with yk1 e0_0
  injection e0_0 with yk2 e0_1
  injection e0_1 with yB2 e0_2
  have e1:=Hd.at_ (K80.ran1 w) e
  injection e1 with yA1 e1_0
  have e2:=Hd.at_ (K80.ran2 w) e
  injection e2 with yA3 e2_0
  have e3:=Hd.at_ (K80.ran3 w) e;have e4:=Hd.at_ (K80.ran4 w) e
  injection e4 with yC2 e4_0
  have e5:=Hd.at_ (K80.ran5 w) e;have e6:=Hd.at_ (K80.ran6 w) e
  injection e6 with yC4 e6_0
  injection e6_0 with yC6 e6_1
  have e7:=Hd.at_ (K80.ran7 w) e;have e8:=Hd.at_ (K80.ran8 w) e
  injection e8 with yA4 e8_0
  injection yk2 with z1 z2
  injection z2 with z2 z3
  exact⟨h,s,e,yk1,⟨z1,z2,z3⟩,yA1,yA3,yA4,e6_1,e3,yB2,e0_2,e1_0,e2_0,e8_0,yC2,e5,yC4,e7,yC6,((congrArg K80.q0 (Hd.Fun _ _)).trans e4_0)⟩
 case hc=>exact K80.D0 rfl rfl rfl
