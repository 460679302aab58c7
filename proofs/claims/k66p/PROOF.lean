import PyProof.Rows.All
import KE.KLam
import KE.KTryMore
import KE.KPairComp
import KE.KSortTup
import KE.KRevSl
import KE.LcSums
import PySem.Challenge.RW_falsesums_k66_what_is_a_likeness
set_option Elab.async false
set_option linter.all false
set_option maxRecDepth 100000
abbrev yf:=PySem.Value->PySem.Shared->Prop
abbrev vK:=PySem.Str->Option PySem.Value
abbrev CW:=PySem.Shared
abbrev zI:=PySem.FuncData
abbrev zr:=PySem.Program
abbrev DV:=Option PySem.Value
abbrev oN:=List PySem.Value
abbrev vd:=Array PySem.Value
abbrev qk:=List PySem.Expr
abbrev Bg:=List PySem.Str
abbrev Cw:=Option PySem.Addr
abbrev Ei:=Array (Option PySem.Value)
abbrev Cz:List PySem.Str:=["thing"]
abbrev qT:List PySem.Str:=["_law_pool_here","_law_many"]
abbrev FQ:List PySem.Str:=["field","terms"]
abbrev sJ:List PySem.Str:=["self","order"]
abbrev DL:List PySem.Str:=["self","field","places","noughts","uppers"]
abbrev we:List PySem.Str:=["self","field","terms"]
abbrev xj:List PySem.Str:=["one","other"]
abbrev rq:List PySem.Str:=["self","part","number"]
abbrev C7:List PySem.Str:=["_law_prime_here","_law_terms_here","_law_order"]
abbrev vD:List PySem.Str:=["_law_prime_here","_law_top","_law_bottom"]
abbrev vI:List PySem.Str:=["_law_prime_here","_law_terms_here"]
abbrev Az:List PySem.Str:=["field","places","part","wishes"]
abbrev zx:List PySem.Str:=["self","prime"]
abbrev vT:List PySem.Str:=["self","top","bottom"]
abbrev rY:List PySem.Str:=["self","one","other"]
abbrev rQ:List PySem.Str:=["_law_prime_here","_law_one","_law_other"]
abbrev Aq:List PySem.Str:=["self","other"]
abbrev Fp:List PySem.Str:=["field","thing"]
abbrev vt:List PySem.Str:=["field","places","thing"]
abbrev rV:List PySem.Str:=["field","places","uppers"]
abbrev ql:List PySem.Str:=["_law_product_here","_law_order"]
abbrev rB:List PySem.Str:=["_law_places","_law_thing"]
abbrev Ex:List PySem.Str:=["top","bottom"]
abbrev vG:List PySem.Str:=["_law_script","_law_k"]
abbrev Gd:List PySem.Str:=["_law_top","_law_bottom"]
abbrev vN:List PySem.Str:=["_law_pool_here"]
abbrev Ao:List PySem.Str:=["self","thing"]
abbrev qh:List PySem.Str:=["_law_pool_here","_law_prime_here"]
abbrev EE:List PySem.Str:=["_law_pool_here","_law_places","_law_most"]
abbrev F7:List PySem.Str:=["_law_pool_here","_law_prime_here","_law_places","_law_many","_law_most"]
abbrev Eo:List PySem.Str:=["_law_prime_here","_law_places","_law_noughts","_law_uppers"]
abbrev CL:List PySem.Str:=["system","thing"]
abbrev y7:List PySem.Str:=["_law_prime_here","_law_places","_law_ones","_law_others","_law_thing"]
abbrev yT:List PySem.Str:=["_law_pool_here","_law_prime_here","_law_places","_law_order","_law_many"]
abbrev AI:List PySem.Str:=["_law_pool_here","_law_order"]
namespace L2
open PySem
theorem FD:(1:Nat)<=sizeLine:=by decide
theorem nj:(2:Nat)<=sizeLine:=by decide
theorem aaa:(3:Nat)<=sizeLine:=by decide
theorem GT:(8:Nat)<=sizeLine:=by decide
def aN (s:Stmt)(j:Nat):Stmt:=match s with
 | .ClassDef _ _ _ body _ _ _ _ _ _ _=>body.getD j (.Pass ⟨0,0,0,0⟩)
 |_=>.Pass ⟨0,0,0,0⟩
def cM (s:Stmt):Arguments:=match s with
 | .FunctionDef _ a _ _ _ _ _ _ _ _=>a
 |_=>{posonlyargs:=[],args:=[],vararg:=none,kwonlyargs:=[],kw_defaults:=[],kwarg:=none,defaults:=[]}
def b9 (s:Stmt):List Stmt:=match s with
 | .FunctionDef _ _ b _ _ _ _ _ _ _=>b
 |_=>[]
def ak (s:Stmt):Scope:=match s with
 | .FunctionDef _ _ _ _ _ _ sc _ _ _=>sc
 |_=>{kind:=.function,names:=[],isGenerator:=false,isCoroutine:=false}
end L2
namespace Hd
open PySem PySem.W PyProof.Rows
def u6 (as:List Addr)(h:Heap):Frag:=as.filterMap λa=>(h.get? a).map λo=>(a,o)
theorem pA (h:Heap):∀as:List Addr,(u6 as h).In h
 |[],a,o,e=>by cases e
 |b::as,a,o,e=>by
  unfold u6 at e;rw[List.filterMap_cons] at e
  cases q:h.get? b with
  |none =>
   rw[q] at e;exact pA h as a o e
  |some u =>
   rw[q] at e;dsimp only[Option.map_some] at e;rw[List.lookup_cons] at e
   by_cases z:a=b
   ·subst z;simp only[beq_self_eq_true] at e;rw[q];exact e
   ·have:(a==b)=false:=by simpa using z
    simp only[this] at e;exact pA h as a o e
abbrev zN:=Str×Str×Arguments×FuncBody×Scope×Addr×List (Str×Addr)×Value×Addr
def Bs (fd:zI):zN:=(fd.name,fd.qualname,fd.params,fd.body,fd.scope,fd.globals,fd.closure,fd.defaults,fd.builtins)
def qD (K:Frag)(v:Option (Option Value)):Option FuncData:=match v with
 |some (some (.ref f))=>(match K.lookup f with
  |some ⟨_,_,.func fd,_⟩=>some fd
  |_=>none)
 |_=>none
def aQ (K:Frag)(v:Option (Option Value)):Option zN:=(qD K v).map Bs
def c6 (x qual:Str)(st:Stmt):Option zN:=some (x,qual,L2.cM st,.stmts (L2.b9 st),L2.ak st,mainGlobals,[],.none,builtinsNs)
def cB (v:Option (Option Value)):Addr:=match v with
 |some (some (.ref a))=>a
 |_=>0
def gL (v:Option (Option Value)):Bool:=match v with
 |some (some (.ref _))=>true
 |_=>false
variable {v:Option (Option Value)}
theorem cX (h:gL v=true):v=some (some (.ref (cB v))):=by
 unfold gL at h
 split at h
 ·rfl
 ·cases h
def cV (v:Option (Option Value)):Bool:=match v with
 |some none=>true
 |_=>false
theorem aX (h:cV v=true):v=some none:=by
 unfold cV at h
 split at h
 ·rfl
 ·cases h
def cU (K:Frag)(v:Option (Option Value))(qual:Str):Bool:=keepIn K (.ref (cB v))&&(match qD K v with
 |some fd=>codeIn K fd.code qual
 |none=>false)
abbrev gv (K:Frag)(x:Str):Option (Option Value):=nsIn K mainGlobals x
abbrev ga (K:Frag)(x:Str):Addr:=cB (nsIn K mainGlobals x)
abbrev fv (K:Frag)(c x:Str):Option (Option Value):=findIn K (.ref (cB (nsIn K mainGlobals c))) x
def iR (K:Frag)(v:Option (Option Value)):Option zN:=(qD K v).map λfd=>Bs {fd with defaults:=.none}
def E7 (K:Frag)(v:Option (Option Value)):Value:=match qD K v with
 |some fd=>fd.defaults
 |none=>.none
def oS (K:Frag)(v:Option (Option Value)):Addr:=match E7 K v with
 | .ref a=>a
 |_=>0
def rl (K:Frag)(v:Option (Option Value)):Bool:=match E7 K v with
 | .ref _=>true
 |_=>false
def rL (K:Frag)(T:Addr)(p:Value->Bool):Bool:=match K.lookup T with
 |some o=>(match o.data with
  | .seq a _=>(match a.toList with
    |[v]=>p v
    |_=>false)
  |_=>false)
 |none=>false
theorem i8 {K:Frag}{T:Addr}{p:Value->Bool}(h:rL K T p=true):∃o v n,K.lookup T=some o/\o.data=.seq #[v] n/\p v=true:=by
 unfold rL at h
 split at h
 ·rename_i o ho
  split at h
  ·rename_i a n hd
   split at h
   ·rename_i v hv
    have:a = #[v]:=by rw[<-Array.toArray_toList (xs:=a),hv]
    subst this;exact⟨o,v,n,ho,hd,h⟩
   ·cases h
  ·cases h
 ·cases h
def F5 (n:Int)(v:Value):Bool:=match v with
 | .int i _=>i==n
 |_=>false
theorem kA {n:Int}{v:Value}(h:F5 n v=true):∃t,v=.int n t:=by
 unfold F5 at h
 split at h
 ·rename_i i t
  have:i=n:=by simpa using h
  exact⟨t,by rw[this]⟩
 ·cases h
def vi (v:Value):Bool:=match v with
 | .none=>true
 |_=>false
theorem j4 {v:Value}(h:vi v=true):v=.none:=by
 unfold vi at h
 split at h
 ·rfl
 ·cases h
def sQ (v:Option (Option Value))(n:Int):Bool:=match v with
 |some (some u)=>F5 n u
 |_=>false
theorem ja {n:Int}(h:sQ v n=true):∃t,v=some (some (.int n t)):=by
 unfold sQ at h
 split at h
 ·obtain⟨t,rfl⟩:=kA h;exact⟨t,rfl⟩
 ·cases h
def t6:List Value->List Int->Bool
 |[],[]=>true
 |v::vs,n::ns=>F5 n v&&t6 vs ns
 |_,_=>false
def yS (K:Frag)(a:Addr)(ns:List Int):Bool:=match K.lookup a with
 |some o=>(match o.cls with
  | .type T=>T == "tuple"
  |_=>false)&&(match o.data with
  | .seq its _=>t6 its.toList ns&&decide (its.size<=sizeLine)
  |_=>false)
 |none=>false
def zh (K:Frag):Bool:=match K.lookup sysModules with
 |some o=>(match o.cls with
  | .type T=>T == "dict"
  |_=>false)
 |none=>false
def i9 (v:Option (Option Value))(s:String):Bool:=match v with
 |some (some (.builtin t))=>t==s
 |_=>false
theorem cp {s:String}(h:i9 v s=true):v=some (some (.builtin s)):=by
 unfold i9 at h
 split at h
 ·rename_i t
  have:t=s:=by simpa using h
  rw[this]
 ·cases h
def qm (v:Option Bool)(b:Bool):Bool:=match v with
 |some c=>c==b
 |none=>false
theorem fH {v:Option Bool}{b:Bool}(h:qm v b=true):v=some b:=by
 unfold qm at h
 split at h
 ·rename_i c
  have:c=b:=by simpa using h
  rw[this]
 ·cases h
def zS:List Obj->BT->Nat->Option BT
 |[],t,_=>some t
 |o::os,t,n=>match ((t.ins n o).get n).isSome with
  |true=>zS os (t.ins n o) (n+1)
  |false=>none
theorem uP (life:Life):∀(os:List Obj)(t t':BT)(n:Nat),zS os t n=some t'->(absHeap t' (n+os.length) life).objs=(absHeap t n life).objs++os.toArray
 |[],t,t',n,h=>by
  cases h
  simp
 |o::os,t,t',n,h=>by
  unfold zS at h
  cases q:((t.ins n o).get n).isSome with
  |false=>rw[q] at h;cases h
  |true =>
   rw[q] at h;have e:=uP life os _ _ _ h;rw[absHeap_ins q] at e
   have:n+1+os.length=n+(o::os).length:=by simp only[List.length_cons];omega
   rw[this] at e;rw[e];show((absHeap t n life).objs.push o)++os.toArray=_;rw[<-Array.append_singleton,Array.append_assoc];simp
def Fb (s:CW):Option SharedT:=(zS s.heap.objs.toList .nil 0).map λt=>⟨t,s.heap.objs.size,s.heap.life,s.gens,s.drawn,s.toks,s.os⟩
theorem aan {s:CW}{x:SharedT}(h:Fb s=some x):x.abs=s:=by
 unfold Fb at h;obtain⟨t,e,rfl⟩:=Option.map_eq_some_iff.mp h;have g:=uP s.heap.life _ _ _ _ e;obtain⟨⟨objs,life⟩,gens,drawn,toks,os⟩:=s
 have z:absHeap t objs.size life=⟨objs,life⟩:=by
  have a:(absHeap t objs.size life).objs=objs:=by
   have l:0+objs.toList.length=objs.size:=by simp
   rw[l] at g;rw[g];simp[absHeap,BT.list]
  exact congrArg (Heap.mk · life) a
 show Shared.mk _ _ _ _ _=_;rw[z]
def iq (tb:String->Option Builtin)(p:zr)(w:World)(n₀:Nat)(ann:DV):Nat->SharedT->Thread->Option SharedT
 |0,_,_=>none
 |n+1,s,t=>match through t with
  |true=>some s
  |false=>match stepOk n₀ ann t with
   |false=>none
   |true=>match stepT (denote tb) p w s t with
    |some (s',t')=>iq tb p w n₀ ann n s' t'
    |none=>none
section
variable {tb:String->Option Builtin}{p:zr}{w:World}{n₀:Nat}{ann:DV}
theorem lK:∀{n:Nat}{s s':SharedT}{t:Thread},iq tb p w n₀ ann n s t=some s'->topRun tb p w n₀ ann n s.abs t=some s'.abs
 |0,_,_,_,h=>by cases h
 |n+1,s,s',t,h=>by
  unfold iq at h;unfold topRun
  cases he:through t with
  |true=>rw[he] at h;cases h;rfl
  |false =>
   rw[he] at h
   cases hk:stepOk n₀ ann t with
   |false=>rw[hk] at h;cases h
   |true =>
    rw[hk] at h
    cases hs:stepT (denote tb) p w s t with
    |none=>rw[hs] at h;cases h
    |some r=>obtain⟨s₂,t₂⟩:=r;rw[hs] at h;rw[stepT_spec hs];exact lK h
end
def gF (tb:String->Option Builtin)(p:zr)(w:World)(N:Nat)(s₀:CW):Option SharedT :=
 match s₀.heap.isNs mainGlobals&&s₀.gens.size==0 with
 |true=>(Fb s₀).bind λx=>(iq tb p w s₀.heap.objs.size (s₀.heap.nsMap mainGlobals "__annotations__") N x (topStub p)).bind λs₁=>match staticsOk (importedModules p.main.body) s₀.heap s₁.abs.heap&&namesBound p s₁.abs.heap&&gensDone s₁.abs&&laidKept s₀.heap s₁.abs.heap with
  |true=>some s₁
  |false=>none
 |false=>none
variable {p:zr}{N:Nat}
theorem aac {tb:String->Option Builtin}{w:World}{s:CW}{y:SharedT}(h:gF tb p w N s=some y):topFrom tb p w N s=some y.abs:=by
 unfold gF at h;unfold topFrom
 cases q:(s.heap.isNs mainGlobals&&s.gens.size==0) with
 |false=>rw[q] at h;cases h
 |true =>
  rw[q] at h;obtain⟨x,ex,h⟩:=Option.bind_eq_some_iff.mp h;obtain⟨z,ez,h⟩:=Option.bind_eq_some_iff.mp h;have e:=lK ez;rw[aan ex] at e;dsimp only;rw[e];show(match (staticsOk (importedModules p.main.body) s.heap z.abs.heap&&namesBound p z.abs.heap&&gensDone z.abs&&laidKept s.heap z.abs.heap) with|true=>some z.abs|false=>none)=_
  split at h
  ·cases h
   rename_i q2
   simp only[q2]
  ·cases h
def cj (tb:String->Option Builtin)(p:zr)(w:World)(N:Nat):Option SharedT:=(fencedOpening tb p w N).bind (gF tb p w N)
theorem abg {tb:String->Option Builtin}{w:World}{y:SharedT}(h:cj tb p w N=some y):openEnds tb p w N=some y.abs:=by
 unfold cj at h;unfold openEnds;obtain⟨s,e,h⟩:=Option.bind_eq_some_iff.mp h;rw[e];exact aac h
theorem aae {q:zr}{loose:Bg}{Xt:Shared->Bool}{α:Type}{Yf:Shared->α}{Ya:World->α}
 (h1:∀w,(cj treeTable p w N).map (λs=>openSeen q loose (importedModules p.main.body) Xt true s.abs)=some (openGood q loose))
 (h2:∀w,(cj treeTable p w N).map (λs=>Yf s.abs)=some (Ya w)):LeftO p q loose Xt Yf Ya N:=λw=>by
 obtain⟨y,e,z⟩:=Option.map_eq_some_iff.mp (h1 w);have z2:=h2 w;rw[e] at z2;rw[abg e];show some (_,_)=_;have z3:Yf y.abs=Ya w:=Option.some.inj z2;rw[z,z3]
section
variable {p q:zr}{loose mods:Bg}{Xt:Shared->Bool}{α:Type}{Yf:Shared->α}{Ya:World->α}{N:Nat}
abbrev zy (q:zr)(s:CW):=(seen ((recsOf q).map (·.name)) (ownsOf q) [] {s with gens:=#[]},s.heap.bltView)
abbrev yn (q:zr)(loose mods:Bg)(Xt:Shared->Bool)(s:CW):Bool :=
 s.heap.keysOk (looseW q loose) ((recsOf q).map (·.name)) ((litsOf q).map (·.1)) ((clssOf q (looseW q loose)).map (·.name))&&s.heap.accountedOkI mods&&s.heap.isNs mainGlobals&&s.heap.isNs builtinsNs&&tablesOk q s.heap&&Xt s&&(if true then s.gens.size==0 else !leftWithCleanup s.gens)
abbrev yi (q:zr)(loose:Bg)(s:CW):=(tabsOk q s,pinSeenD q (drecsOf q) s,plainSeenE q (looseW q loose) s,plainSeenD q loose s,wideSeen q s,clsSeenW q loose s)
theorem aaZ
 (h1:∀w,(cj treeTable p w N).map (λs=>zy q s.abs)=some (expectedOf q,bltViewBooted))
 (h2:∀w,(cj treeTable p w N).map (λs=>yn q loose (importedModules p.main.body) Xt s.abs)=some true)
 (h3:∀w,(cj treeTable p w N).map (λs=>yi q loose s.abs)=some (true,pinGoodD (drecsOf q),plainGoodE q (looseW q loose),plainGoodD q loose,wideGood q,clsGoodW q loose))
 (h4:∀w,(cj treeTable p w N).map (λs=>Yf s.abs)=some (Ya w)):LeftO p q loose Xt Yf Ya N:=by
 refine aae (λw=>?_) h4;obtain⟨y,e,z1⟩:=Option.map_eq_some_iff.mp (h1 w);have z2:=h2 w;have z3:=h3 w;rw[e] at z2 z3 |-;have z2:yn q loose (importedModules p.main.body) Xt y.abs=true:=Option.some.inj z2;have z3:yi q loose y.abs=_:=Option.some.inj z3;show some (openSeen q loose (importedModules p.main.body) Xt true y.abs)=_;have e1:openSeen q loose (importedModules p.main.body) Xt true y.abs=((zy q y.abs).1,(zy q y.abs).2,yn q loose (importedModules p.main.body) Xt y.abs,yi q loose y.abs):=rfl;rw[e1,z1,z2,z3];rfl
end
def aad (K:Frag)(C f:Addr)(HI:oN)(newId:String):Bool :=
 match K.lookup C with
 |some ⟨.type "type",_,.cls cd,sl⟩ =>
  match cd.mro,sl.toList with
  | .ref D::tl,[_,_,_,_,some (.builtin made),_]=>(D==C)&&((made==newId)&&((!cd.hasDel)&&(tailIn K HI tl&&(nsOkIn K cd.ns&&(nsIn K cd.ns "__init__"==some (some (.ref f)))))))
  |_,_=>false
 |_=>false
def Bi:List Value->List Value
 | .ref _::r=>Bi r
 |l=>l
def ym (K:Frag)(C f:Addr)(HI Zj:oN)(newId:String):Bool :=
 keepIn K (.ref C)&&((clsIn K C).any (λcd=>cd.hasDict&&(Bi cd.mro==HI || Bi cd.mro==Zj))&&((K.lookup C).any (λo=>o.cls == .type "type")&&((K.lookup f).any (λo=>o.cls == .type "function")&&aad K C f HI newId)))
end Hd
namespace L2
open PySem
/-- an own class of exceptions without an __init__ -/
def vC (K:PySem.W.Frag)(C:Addr)(HI:oN)(newId:String):Bool :=
 ((K.lookup C).any λo=>o.cls == .type "type"&&(o.slots.size==6&&o.slots.toList[4]?==some (some (.builtin newId))))&&(PySem.W.clsIn K C).any λcd=>cd.mro.head?==some (.ref C)&&(!cd.hasDel&&(PySem.W.tailIn K HI cd.mro.tail&&(PySem.W.nsOkIn K cd.ns&&PySem.W.nsIn K cd.ns "__init__"==some none)))
end L2
namespace K66
open PySem L2 PySem.W
open Hd (gv ga fv cB gL cX cV aX i9 cp qm fH cU aQ iR c6 rl oS rL i8 vi j4 F5 kA sQ ja yS zh)
def aS (i:Nat):Stmt:=PySem.Challenge.pw_falsesums_k66_what_is_a_likeness.main.body.getD i (.Pass ⟨0,0,0,0⟩)
def BQ:List Int:=[2,3,5,7,11,13,17,19,23,29,31,37,41,43,47,53,59,61,67,71,73,79,83,89,97]
abbrev EH:List Value:=[.type "ValueError",.type "Exception",.type "BaseException",.type "object"]
abbrev yh:String:="ValueError.__new__"
def GL (K:Frag):Bool :=
 (cV (gv K "isinstance") &&
 (cV (gv K "int") &&
 (cV (gv K "bool") &&
 (cV (gv K "abs") &&
 (cV (gv K "len") &&
 (cV (gv K "tuple") &&
 (cV (gv K "all") &&
 (cV (gv K "zip") &&
 (cV (gv K "list") &&
 (cV (gv K "enumerate") &&
 (cV (gv K "sorted") &&
 (cV (gv K "max") &&
 (cV (gv K "min") &&
 (cV (gv K "range") &&
 (cV (gv K "set") &&
 (cV (gv K "repr")))))))))))))))))
def GH (K:Frag):Bool :=
 (gL (gv K "Sum") &&
 (gL (gv K "Field") &&
 (gL (gv K "System") &&
 (gL (gv K "NoField") &&
 (gL (gv K "NoSystem") &&
 (gL (gv K "NoOrder") &&
 (gL (gv K "PRIMES") &&
 (sQ (gv K "FRACTIONS") 0 &&
 (sQ (gv K "MOST_PLACES") 60 &&
 (sQ (gv K "MOST_WISHES") 200 &&
 (cU K (gv K "is_whole") "is_whole" &&
 (cU K (gv K "is_place") "is_place" &&
 (cU K (gv K "is_product") "is_product" &&
 (cU K (gv K "is_term") "is_term" &&
 (cU K (gv K "checked_terms") "checked_terms" &&
 (cU K (gv K "place_of_term") "place_of_term"))))))))))))))))
def GO (K:Frag):Bool :=
 (cU K (gv K "gathered") "gathered" &&
 (cU K (gv K "common_divisor") "common_divisor" &&
 (cU K (gv K "lowest") "lowest" &&
 (cU K (gv K "is_wish") "is_wish" &&
 (cU K (gv K "checked_wishes") "checked_wishes" &&
 (cU K (gv K "checked_uppers") "checked_uppers" &&
 (cU K (gv K "is_order") "is_order" &&
 (cU K (gv K "built") "built" &&
 (cU K (gv K "forms") "forms" &&
 (cU K (gv K "is_likeness") "is_likeness" &&
 (cU K (gv K "_law_pool") "_law_pool" &&
 (cU K (gv K "_law_take") "_law_take" &&
 (cU K (gv K "_law_low") "_law_low" &&
 (cU K (gv K "_law_made") "_law_made" &&
 (cU K (gv K "_law_plus") "_law_plus" &&
 (cU K (gv K "_law_row_key") "_law_row_key"))))))))))))))))
def GQ (K:Frag):Bool :=
 (cU K (gv K "_law_gathered") "_law_gathered" &&
 (cU K (gv K "_law_prime") "_law_prime" &&
 (cU K (gv K "_law_number") "_law_number" &&
 (cU K (gv K "_law_product") "_law_product" &&
 (cU K (gv K "_law_terms") "_law_terms" &&
 (cU K (gv K "_law_system") "_law_system" &&
 (cU K (gv K "_law_moved") "_law_moved" &&
 (cU K (gv K "_law_moved_terms") "_law_moved_terms" &&
 (cU K (gv K "_law_shuffled") "_law_shuffled" &&
 (cU K (gv K "_law_is_order") "_law_is_order" &&
 (cU K (gv K "_law_is_likeness") "_law_is_likeness" &&
 (cU K (gv K "_law_alike_wishes") "_law_alike_wishes" &&
 (cU K (gv K "_law_bent_order") "_law_bent_order" &&
 (cU K (gv K "law") "law" &&
 (cU K (fv K "Sum" "field") "Sum.field" &&
 (isFn K (.ref (cB (fv K "Sum" "field")))))))))))))))))))
def GE (K:Frag):Bool :=
 (cU K (fv K "Sum" "reach") "Sum.reach" &&
 (isFn K (.ref (cB (fv K "Sum" "reach"))) &&
 (cU K (fv K "Sum" "terms") "Sum.terms" &&
 (isFn K (.ref (cB (fv K "Sum" "terms"))) &&
 (cU K (fv K "Sum" "renamed") "Sum.renamed" &&
 (isFn K (.ref (cB (fv K "Sum" "renamed"))) &&
 (cU K (fv K "Field" "__eq__") "Field.__eq__" &&
 (isFn K (.ref (cB (fv K "Field" "__eq__"))) &&
 (cU K (fv K "Field" "plus") "Field.plus" &&
 (isFn K (.ref (cB (fv K "Field" "plus"))) &&
 (cU K (fv K "Field" "settled") "Field.settled" &&
 (isFn K (.ref (cB (fv K "Field" "settled"))) &&
 (cU K (fv K "Field" "is_number") "Field.is_number" &&
 (isFn K (.ref (cB (fv K "Field" "is_number"))) &&
 (cU K (fv K "Field" "prime") "Field.prime" &&
 (isFn K (.ref (cB (fv K "Field" "prime")))))))))))))))))))
def GN (K:Frag):Bool :=
 (cU K (fv K "System" "places") "System.places" &&
 (isFn K (.ref (cB (fv K "System" "places"))) &&
 (cU K (fv K "System" "noughts") "System.noughts" &&
 (isFn K (.ref (cB (fv K "System" "noughts"))) &&
 (cU K (fv K "System" "uppers") "System.uppers" &&
 (isFn K (.ref (cB (fv K "System" "uppers"))) &&
 (cU K (fv K "System" "renamed") "System.renamed" &&
 (isFn K (.ref (cB (fv K "System" "renamed"))) &&
 (cU K (fv K "NoSystem" "__init__") "NoSystem.__init__" &&
 (isFn K (.ref (cB (fv K "NoSystem" "__init__"))) &&
 (cU K (fv K "Sum" "__init__") "Sum.__init__" &&
 (isFn K (.ref (cB (fv K "Sum" "__init__"))) &&
 (rl K (fv K "Sum" "__init__") &&
 (rL K (oS K (fv K "Sum" "__init__")) (vi) &&
 (cU K (fv K "Field" "__init__") "Field.__init__" &&
 (isFn K (.ref (cB (fv K "Field" "__init__")))))))))))))))))))
def GV (K:Frag):Bool :=
 (rl K (fv K "Field" "__init__") &&
 (rL K (oS K (fv K "Field" "__init__")) (F5 0) &&
 (cU K (fv K "System" "__init__") "System.__init__" &&
 (isFn K (.ref (cB (fv K "System" "__init__"))) &&
 (rl K (fv K "System" "__init__") &&
 (rL K (oS K (fv K "System" "__init__")) (vi) &&
 (zh K &&
 (plainGet K (ga K "Field") Str.empty &&
 (hasDictIn K (ga K "Field") &&
 (plainOver K (ga K "Field") &&
 (i9 (fv K "Field" "__setattr__") "object.__setattr__" &&
 (cV (fv K "Field" "its_prime") &&
 (((clsIn K (ga K "Field")).isSome&&typeIn K (.ref (ga K "Field"))==some (.type "type")) &&
 (i9 (fv K "Field" "__class__") "object.__class__" &&
 (i9 (specialIn K (.builtin "object.__class__") "__get__") "getset_descriptor.__get__" &&
 (qm (takesIn K (.builtin "object.__class__")) true))))))))))))))))
def GI (K:Frag):Bool :=
 (qm (mroIn K (ga K "Field") (.type "object")) true &&
 (plainGet K (ga K "Sum") Str.empty &&
 (hasDictIn K (ga K "Sum") &&
 (plainOver K (ga K "Sum") &&
 (i9 (fv K "Sum" "__setattr__") "object.__setattr__" &&
 (cV (fv K "Sum" "its_field") &&
 (cV (fv K "Sum" "its_terms") &&
 (((clsIn K (ga K "Sum")).isSome&&typeIn K (.ref (ga K "Sum"))==some (.type "type")) &&
 (i9 (fv K "Sum" "__class__") "object.__class__" &&
 (qm (mroIn K (ga K "Sum") (.type "object")) true &&
 (plainGet K (ga K "System") Str.empty &&
 (hasDictIn K (ga K "System") &&
 (plainOver K (ga K "System") &&
 (i9 (fv K "System" "__setattr__") "object.__setattr__" &&
 (cV (fv K "System" "its_field") &&
 (cV (fv K "System" "its_places")))))))))))))))))
def Gx (K:Frag):Bool :=
 (cV (fv K "System" "its_noughts") &&
 (cV (fv K "System" "its_uppers") &&
 (((clsIn K (ga K "System")).isSome&&typeIn K (.ref (ga K "System"))==some (.type "type")) &&
 (i9 (fv K "System" "__class__") "object.__class__" &&
 (qm (mroIn K (ga K "System") (.type "object")) true &&
 (yS K (ga K "PRIMES") BQ &&
 (vC K (ga K "NoField") EH yh &&
 (vC K (ga K "NoOrder") EH yh &&
 (Hd.ym K (ga K "NoSystem") (cB (fv K "NoSystem" "__init__")) EH [.type "KeyError",.type "LookupError",.type "Exception",.type "BaseException",.type "object"] yh &&
 ((clsIn K (ga K "NoSystem")).isSome &&
 (i9 (fv K "NoSystem" "__getattribute__") "BaseException.__getattribute__" &&
 (cV (fv K "NoSystem" "__getattr__") &&
 (i9 (fv K "NoSystem" "__class__") "object.__class__" &&
 (qm (mroIn K (ga K "NoSystem") (.type "object")) true &&
 (qm (mroIn K (ga K "NoSystem") (.type "BaseException")) true &&
 (i9 (fv K "NoSystem" "__setattr__") "object.__setattr__"))))))))))))))))
def GR (K:Frag):Bool :=
 (cV (fv K "NoSystem" "part") &&
 (cV (fv K "NoSystem" "number") &&
 (makesIn K (ga K "Sum") &&
 (keepIn K (.ref (ga K "Sum")) &&
 (makesIn K (ga K "Field") &&
 (keepIn K (.ref (ga K "Field")) &&
 (makesIn K (ga K "System") &&
 (keepIn K (.ref (ga K "System"))))))))))
def rT (K:Frag):Bool:=GL K&&(GH K&&(GO K&&(GQ K&&(GE K&&(GN K&&(GV K&&(GI K&&(Gx K&&(GR K)))))))))
def su (K:Frag):Bool×List (Option Hd.zN):=(rT K,[aQ K (gv K "is_whole"),aQ K (gv K "is_place"),aQ K (gv K "is_product"),aQ K (gv K "is_term"),aQ K (gv K "checked_terms"),aQ K (gv K "place_of_term"),aQ K (gv K "gathered"),aQ K (gv K "common_divisor"),aQ K (gv K "lowest"),aQ K (gv K "is_wish"),aQ K (gv K "checked_wishes"),aQ K (gv K "checked_uppers"),aQ K (gv K "is_order"),aQ K (gv K "built"),aQ K (gv K "forms"),aQ K (gv K "is_likeness"),aQ K (gv K "_law_pool"),aQ K (gv K "_law_take"),aQ K (gv K "_law_low"),aQ K (gv K "_law_made"),aQ K (gv K "_law_plus"),aQ K (gv K "_law_row_key"),aQ K (gv K "_law_gathered"),aQ K (gv K "_law_prime"),aQ K (gv K "_law_number"),aQ K (gv K "_law_product"),aQ K (gv K "_law_terms"),aQ K (gv K "_law_system"),aQ K (gv K "_law_moved"),aQ K (gv K "_law_moved_terms"),aQ K (gv K "_law_shuffled"),aQ K (gv K "_law_is_order"),aQ K (gv K "_law_is_likeness"),aQ K (gv K "_law_alike_wishes"),aQ K (gv K "_law_bent_order"),aQ K (gv K "law"),aQ K (fv K "Sum" "field"),aQ K (fv K "Sum" "reach"),aQ K (fv K "Sum" "terms"),aQ K (fv K "Sum" "renamed"),aQ K (fv K "Field" "__eq__"),aQ K (fv K "Field" "plus"),aQ K (fv K "Field" "settled"),aQ K (fv K "Field" "is_number"),aQ K (fv K "Field" "prime"),aQ K (fv K "System" "places"),aQ K (fv K "System" "noughts"),aQ K (fv K "System" "uppers"),aQ K (fv K "System" "renamed"),aQ K (fv K "NoSystem" "__init__"),iR K (fv K "Sum" "__init__"),iR K (fv K "Field" "__init__"),iR K (fv K "System" "__init__")])
def wa:Bool×List (Option Hd.zN):=(true,[c6 "is_whole" "is_whole" ((aS 11)),c6 "is_place" "is_place" ((aS 12)),c6 "is_product" "is_product" ((aS 13)),c6 "is_term" "is_term" ((aS 33)),c6 "checked_terms" "checked_terms" ((aS 34)),c6 "place_of_term" "place_of_term" ((aS 35)),c6 "gathered" "gathered" ((aS 36)),c6 "common_divisor" "common_divisor" ((aS 21)),c6 "lowest" "lowest" ((aS 22)),c6 "is_wish" "is_wish" ((aS 42)),c6 "checked_wishes" "checked_wishes" ((aS 43)),c6 "checked_uppers" "checked_uppers" ((aS 44)),c6 "is_order" "is_order" ((aS 14)),c6 "built" "built" ((aS 39)),c6 "forms" "forms" ((aS 16)),c6 "is_likeness" "is_likeness" ((aS 17)),c6 "_law_pool" "_law_pool" ((aS 47)),c6 "_law_take" "_law_take" ((aS 48)),c6 "_law_low" "_law_low" ((aS 49)),c6 "_law_made" "_law_made" ((aS 50)),c6 "_law_plus" "_law_plus" ((aS 51)),c6 "_law_row_key" "_law_row_key" ((aS 52)),c6 "_law_gathered" "_law_gathered" ((aS 53)),c6 "_law_prime" "_law_prime" ((aS 54)),c6 "_law_number" "_law_number" ((aS 55)),c6 "_law_product" "_law_product" ((aS 56)),c6 "_law_terms" "_law_terms" ((aS 57)),c6 "_law_system" "_law_system" ((aS 58)),c6 "_law_moved" "_law_moved" ((aS 59)),c6 "_law_moved_terms" "_law_moved_terms" ((aS 60)),c6 "_law_shuffled" "_law_shuffled" ((aS 61)),c6 "_law_is_order" "_law_is_order" ((aS 62)),c6 "_law_is_likeness" "_law_is_likeness" ((aS 63)),c6 "_law_alike_wishes" "_law_alike_wishes" ((aS 64)),c6 "_law_bent_order" "_law_bent_order" ((aS 65)),c6 "law" "law" ((aS 66)),c6 "field" "Sum.field" (aN (aS 38) 5),c6 "reach" "Sum.reach" (aN (aS 38) 8),c6 "terms" "Sum.terms" (aN (aS 38) 6),c6 "renamed" "Sum.renamed" (aN (aS 38) 14),c6 "__eq__" "Field.__eq__" (aN (aS 24) 1),c6 "plus" "Field.plus" (aN (aS 24) 6),c6 "settled" "Field.settled" (aN (aS 24) 10),c6 "is_number" "Field.is_number" (aN (aS 24) 11),c6 "prime" "Field.prime" (aN (aS 24) 3),c6 "places" "System.places" (aN (aS 45) 4),c6 "noughts" "System.noughts" (aN (aS 45) 5),c6 "uppers" "System.uppers" (aN (aS 45) 6),c6 "renamed" "System.renamed" (aN (aS 45) 8),c6 "__init__" "NoSystem.__init__" (aN (aS 8) 0),c6 "__init__" "Sum.__init__" (aN (aS 38) 0),c6 "__init__" "Field.__init__" (aN (aS 24) 0),c6 "__init__" "System.__init__" (aN (aS 45) 0)])
def rP:List Addr:=[1,3,30,31,43,44,79,80,114,115,117,118,126,127,133,134,138,139,143,144,148,149,155,156,157,163,164,170,171,186,192,193,199,200,213,214,235,236,263,264,270,271,273,274,310,311,317,318,324,325,329,330,343,349,350,384,385,391,392,403,404,443,444,453,454,464,465,471,472,478,479,485,486,494,500,501,528,529,535,536,542,543,552,553,555,556,566,567,573,574,580,581,585,586,592,593,599,600,604,605,611,612,618,619,625,626,630,631,635,636,640,641,645,646,652,653,657,658,662,663,669,670,676,677,681,682]
def cE:Program:={PySem.Challenge.pw_falsesums_k66_what_is_a_likeness with main:={PySem.Challenge.pw_falsesums_k66_what_is_a_likeness.main with body:=[aS 0,aS 2,aS 3,aS 4,aS 5,aS 6,aS 7,aS 8,aS 10,aS 11,aS 12,aS 13,aS 14,aS 16,aS 17,aS 19,aS 20,aS 21,aS 22,aS 23,aS 24,aS 26,aS 27,aS 28,aS 29,aS 30,aS 31,aS 33,aS 34,aS 35,aS 36,aS 37,aS 38,aS 39,aS 41,aS 42,aS 43,aS 44,aS 45,aS 47,aS 48,aS 49,aS 50,aS 51,aS 52,aS 53,aS 54,aS 55,aS 56,aS 57,aS 58,aS 59,aS 60,aS 61,aS 62,aS 63,aS 64,aS 65,aS 66]} }
def lv:List (PySem.Str×WData):=[("STEP",.int 10000000000000000000000000000000000000000000000000000000000000000)]
end K66
namespace Hd
open PySem PySem.W PyProof.Rows
def bare (p:zr)(w:World)(N:Nat):Option (Heap×SharedT):=(fencedOpening treeTable p w N).bind λs₀=>match s₀.heap.isNs mainGlobals&&s₀.gens.size==0 with
 |true=>(Fb s₀).bind λx=>(iq treeTable p w s₀.heap.objs.size (s₀.heap.nsMap mainGlobals "__annotations__") N x (topStub p)).map λs₁=>(s₀.heap,s₁)
 |false=>none
theorem abp {p:zr}{w:World}{N:Nat}{h:Heap}{s:SharedT}(e:bare p w N=some (h,s))(c1:staticsOk (importedModules p.main.body) h s.abs.heap=true)(c2:namesBound p s.abs.heap=true)(c3:gensDone s.abs=true)(c4:laidKept h s.abs.heap=true):cj treeTable p w N=some s:=by
 unfold bare at e;obtain⟨s0,e0,e⟩:=Option.bind_eq_some_iff.mp e;unfold cj;rw[e0];show gF treeTable p w N s0=some s;unfold gF
 cases q:(s0.heap.isNs mainGlobals&&s0.gens.size==0) with
 |false=>rw[q] at e;cases e
 |true =>
  rw[q] at e;obtain⟨x,ex,e⟩:=Option.bind_eq_some_iff.mp e;obtain⟨s1,e1,e2⟩:=Option.map_eq_some_iff.mp e
  cases e2
  dsimp only;rw[ex];show Option.bind (iq _ _ _ _ _ _ _ _) _=_;rw[e1];show(match staticsOk (importedModules p.main.body) s0.heap s.abs.heap&&namesBound p s.abs.heap&&gensDone s.abs&&laidKept s0.heap s.abs.heap with|true=>some s|false=>none)=_;rw[c1,c2,c3,c4];rfl
def Dt (s:SharedT)(a:Addr):Option Obj:=match Nat.blt a s.n with
 |true=>alive ((s.tree.get a).getD default)
 |false=>none
theorem aaR (s:SharedT)(a:Addr):s.abs.heap.get? a=Dt s a:=by
 obtain⟨t,n,life,gens,drawn,toks,os⟩:=s;show(absHeap t n life).get? a=_;unfold Dt
 cases h:Nat.blt a n with
 |true =>
  have lt:a<n:=Nat.le_of_ble_eq_true h;unfold Heap.get?;rw[absHeap_at,if_pos lt];generalize (t.get a).getD default=o;obtain⟨c,d,dt,sl⟩:=o
  cases dt <;> rfl
 |false =>
  refine abs_get_none λz=>?_;have:Nat.blt a n=true:=Nat.ble_eq_true_of_le z;rw[this] at h
  cases h
def xC (as:List Addr)(s:SharedT):Frag:=as.filterMap λa=>(Dt s a).map λo=>(a,o)
theorem Fun (as:List Addr)(s:SharedT):u6 as s.abs.heap=xC as s:=by
 unfold u6 xC;congr 1
 funext a
 rw[aaR]
section
variable {p q:zr}{loose:Bg}{Xt:Shared->Bool}{α:Type}{Yf:Shared->α}{Ya:World->α}{N:Nat}
theorem aab (key:∀w,∃h s,bare p w N=some (h,s)/\staticsOk (importedModules p.main.body) h s.abs.heap=true/\(namesBound p s.abs.heap=true/\gensDone s.abs=true/\laidKept h s.abs.heap=true) /\
 (((recsOf q).take 45).map (·.name)).map (s.abs.heap.shapeAt mainGlobals)=((recsOf q).take 45).map (λd=>some d.shape)/\(((recsOf q).drop 45).map (·.name)).map (s.abs.heap.shapeAt mainGlobals)=((recsOf q).drop 45).map (λd=>some d.shape) /\
 ((ownsOf q).all (λo=>s.abs.heap.ownExcOk o.name o.chain o.bm o.newId&&s.abs.heap.quietOk o.name),s.abs.heap.isNs mainGlobals,s.abs.heap.isNs builtinsNs,s.abs.heap.noLimitOk&&s.abs.heap.noDigitsOk)=(true,true,true,true)/\s.abs.heap.bltView=bltViewBooted /\
 s.abs.heap.keysOk (looseW q loose) ((recsOf q).map (·.name)) ((litsOf q).map (·.1)) ((clssOf q (looseW q loose)).map (·.name))=true /\
 (s.abs.heap.accountedOkI (importedModules p.main.body)&&s.abs.heap.isNs mainGlobals&&s.abs.heap.isNs builtinsNs&&tablesOk q s.abs.heap)=true/\(Xt s.abs&&(if true then s.abs.gens.size==0 else !leftWithCleanup s.abs.gens))=true /\
 ((recsOf q).take 45).all (λd=>s.abs.heap.tab0Ok d.name)=true/\((recsOf q).drop 45).all (λd=>s.abs.heap.tab0Ok d.name)=true/\(s.abs.heap.bmainOk&&valsOk q s.abs.heap&&(!importsNone q || s.abs.heap.noSeerOk))=true/\pinSeenD q (drecsOf q) s.abs=pinGoodD (drecsOf q)/\plainSeenE q (looseW q loose) s.abs=plainGoodE q (looseW q loose)/\plainSeenD q loose s.abs=plainGoodD q loose/\wideSeen q s.abs=wideGood q/\clsSeenW q loose s.abs=clsGoodW q loose/\Yf s.abs=Ya w):LeftO p q loose Xt Yf Ya N:=by
 refine aaZ (λw=>?_) (λw=>?_) (λw=>?_) (λw=>?_)
 all_goals
  obtain⟨h,s,e,c1,⟨c2,c3,c4⟩,a1,a3,a4,a2,b1,b2,b3,d1,d7,d8,d2,d3,d4,d5,d6,y⟩:=key w;rw[abp e c1 c2 c3 c4];refine congrArg some ?_
 ·have a5:(((recsOf q).map (·.name)).map (s.abs.heap.shapeAt mainGlobals))=(recsOf q).map (λd=>some d.shape):=by
   conv=>lhs;rw[<-List.take_append_drop 45 (recsOf q)]
   conv=>rhs;rw[<-List.take_append_drop 45 (recsOf q)]
   rw[List.map_append,List.map_append,List.map_append,a1,a3]
  injection a4 with x1 a4
  injection a4 with x2 a4
  injection a4 with x3 x4
  show((⟨_,_,_,_,_,_,_⟩:Seen),_)=_;rw[a5,a2,x1,x2,x3,x4];rfl
 ·obtain⟨b2,x4⟩:=Bool.and_eq_true_iff.mp b2;obtain⟨b2,x3⟩:=Bool.and_eq_true_iff.mp b2;obtain⟨x1,x2⟩:=Bool.and_eq_true_iff.mp b2;obtain⟨x5,x6⟩:=Bool.and_eq_true_iff.mp b3;show(s.abs.heap.keysOk _ _ _ _&&s.abs.heap.accountedOkI _&&s.abs.heap.isNs mainGlobals&&s.abs.heap.isNs builtinsNs&&tablesOk q s.abs.heap&&Xt s.abs&&_)=true;rw[b1,x1,x2,x3,x4,x5,x6];rfl
 ·have t:tabsOk q s.abs=true:=by
   obtain⟨d8,x3⟩:=Bool.and_eq_true_iff.mp d8;obtain⟨x1,x2⟩:=Bool.and_eq_true_iff.mp d8
   have e1:(recsOf q).all (λd=>s.abs.heap.tab0Ok d.name)=true:=by
    rw[<-List.take_append_drop 45 (recsOf q),List.all_append,d1,d7];rfl
   unfold tabsOk;rw[e1,x1,x2,x3];rfl
  show(_,_,_,_,_,_)=_;rw[t,d2,d3,d4,d5,d6]
 ·exact y
theorem at_ {α β:Type}{x:Option α}{f:α->β}{v:β}{y:α}(h:x.map f=some v)(e:x=some y):f y=v:=by
 rw[e] at h;exact Option.some.inj h
end
end Hd
section
open PySem PySem.W PyProof.Rows
set_option maxRecDepth 100000 in
set_option maxHeartbeats 0 in
theorem K66.sd1:PySem.Challenge.rw_falsesums_k66_what_is_a_likeness.wellSaid=true:=by kernel_rfl
set_option maxRecDepth 100000 in
set_option maxHeartbeats 0 in
theorem K66.sd3:PySem.Challenge.rw_falsesums_k66_what_is_a_likeness.row.prog.bare:=⟨rfl,rfl,rfl,rfl,rfl,by decide +kernel⟩
set_option maxRecDepth 100000 in
set_option maxHeartbeats 0 in
theorem K66.ran0:∀w,(Hd.bare PySem.Challenge.rw_falsesums_k66_what_is_a_likeness.row.prog w 9580).map (λs=>(staticsOk (importedModules PySem.Challenge.rw_falsesums_k66_what_is_a_likeness.row.prog.main.body) s.1 s.2.abs.heap,(namesBound PySem.Challenge.rw_falsesums_k66_what_is_a_likeness.row.prog s.2.abs.heap,gensDone s.2.abs,laidKept s.1 s.2.abs.heap),(s.2.abs.heap.accountedOkI (importedModules PySem.Challenge.rw_falsesums_k66_what_is_a_likeness.row.prog.main.body)&&s.2.abs.heap.isNs mainGlobals&&s.2.abs.heap.isNs builtinsNs&&tablesOk K66.cE s.2.abs.heap),((λs=>xlAt K66.cE K66.lv s&&recOk (PySem.Challenge.rw_falsesums_k66_what_is_a_likeness.row.toRowW).records s) s.2.abs&&(if true then s.2.abs.gens.size==0 else !leftWithCleanup s.2.abs.gens))))=some (true,(true,true,true),true,true):=by
 intro w;kernel_rfl
set_option maxRecDepth 100000 in
set_option maxHeartbeats 0 in
theorem K66.ran1:∀w,(Hd.bare PySem.Challenge.rw_falsesums_k66_what_is_a_likeness.row.prog w 9580).map (λs=>((((recsOf K66.cE).take 45).map (·.name)).map (s.2.abs.heap.shapeAt mainGlobals),((recsOf K66.cE).take 45).all (λd=>s.2.abs.heap.tab0Ok d.name)))=some (((recsOf K66.cE).take 45).map (λd=>some d.shape),true):=by
 intro w;kernel_rfl
set_option maxRecDepth 100000 in
set_option maxHeartbeats 0 in
theorem K66.ran2:∀w,(Hd.bare PySem.Challenge.rw_falsesums_k66_what_is_a_likeness.row.prog w 9580).map (λs=>((((recsOf K66.cE).drop 45).map (·.name)).map (s.2.abs.heap.shapeAt mainGlobals),((recsOf K66.cE).drop 45).all (λd=>s.2.abs.heap.tab0Ok d.name)))=some (((recsOf K66.cE).drop 45).map (λd=>some d.shape),true):=by
 intro w;kernel_rfl
set_option maxRecDepth 100000 in
set_option maxHeartbeats 0 in
theorem K66.ran3:∀w,(Hd.bare PySem.Challenge.rw_falsesums_k66_what_is_a_likeness.row.prog w 9580).map (λs=>s.2.abs.heap.keysOk (looseW K66.cE ["Field","STEP"]) ((recsOf K66.cE).map (·.name)) ((litsOf K66.cE).map (·.1)) ((clssOf K66.cE (looseW K66.cE ["Field","STEP"])).map (·.name)))=some (true):=by
 intro w;kernel_rfl
set_option maxRecDepth 100000 in
set_option maxHeartbeats 0 in
theorem K66.ran4:∀w,(Hd.bare PySem.Challenge.rw_falsesums_k66_what_is_a_likeness.row.prog w 9580).map (λs=>(pinSeenD K66.cE (drecsOf K66.cE) s.2.abs,K66.su (Hd.xC K66.rP s.2)))=some (pinGoodD (drecsOf K66.cE),K66.wa):=by
 intro w;kernel_rfl
set_option maxRecDepth 100000 in
set_option maxHeartbeats 0 in
theorem K66.ran5:∀w,(Hd.bare PySem.Challenge.rw_falsesums_k66_what_is_a_likeness.row.prog w 9580).map (λs=>plainSeenE K66.cE (looseW K66.cE ["Field","STEP"]) s.2.abs)=some (plainGoodE K66.cE (looseW K66.cE ["Field","STEP"])):=by
 intro w;kernel_rfl
set_option maxRecDepth 100000 in
set_option maxHeartbeats 0 in
theorem K66.ran6:∀w,(Hd.bare PySem.Challenge.rw_falsesums_k66_what_is_a_likeness.row.prog w 9580).map (λs=>(plainSeenD K66.cE ["Field","STEP"] s.2.abs,clsSeenW K66.cE ["Field","STEP"] s.2.abs,s.2.abs.heap.bltView))=some (plainGoodD K66.cE ["Field","STEP"],clsGoodW K66.cE ["Field","STEP"],bltViewBooted):=by
 intro w;kernel_rfl
set_option maxRecDepth 100000 in
set_option maxHeartbeats 0 in
theorem K66.ran7:∀w,(Hd.bare PySem.Challenge.rw_falsesums_k66_what_is_a_likeness.row.prog w 9580).map (λs=>wideSeen K66.cE s.2.abs)=some (wideGood K66.cE):=by
 intro w;kernel_rfl
set_option maxRecDepth 100000 in
set_option maxHeartbeats 0 in
theorem K66.ran8:∀w,(Hd.bare PySem.Challenge.rw_falsesums_k66_what_is_a_likeness.row.prog w 9580).map (λs=>(((ownsOf K66.cE).all (λo=>s.2.abs.heap.ownExcOk o.name o.chain o.bm o.newId&&s.2.abs.heap.quietOk o.name),s.2.abs.heap.isNs mainGlobals,s.2.abs.heap.isNs builtinsNs,s.2.abs.heap.noLimitOk&&s.2.abs.heap.noDigitsOk),(s.2.abs.heap.bmainOk&&valsOk K66.cE s.2.abs.heap&&(!importsNone K66.cE || s.2.abs.heap.noSeerOk))))=some ((true,true,true,true),true):=by
 intro w;kernel_rfl
end
namespace L2
open PySem PySem.Spec PyProof.Rows
abbrev Key:=Sum Int Str
def om:Key->Value->Bool
 | .inl k,v=>Value.isInt k v
 | .inr x,v=>Value.isStrOf x v
def Fk (w:World):Key->Int
 | .inl k=>hashInt k
 | .inr x=>hashStr w x
theorem bz:∀{k:Key}{v:Value},om k v=true->(∃i t,k=Sum.inl i/\v=Value.int i t)\/(∃x t,k=Sum.inr x/\v=Value.str x t)
 | .inl i,v,h=>by
   obtain⟨t,e⟩:=Value.isInt_shape (k:=i) (v:=v) h;exact .inl ⟨i,t,rfl,e⟩
 | .inr x,v,h=>by
   obtain⟨t,e⟩:=Value.isStrOf_shape (x:=x) (v:=v) h;exact .inr ⟨x,t,rfl,e⟩
theorem aak (i:Int)(t:Tok):om (.inl i) (.int i t)=true:=by simp[om,Value.isInt]
theorem abm (x:Str)(t:Tok):om (.inr x) (.str x t)=true:=by simp[om,Value.isStrOf]
theorem abA (a b:Int):decide ((Sum.inl a:Key)=Sum.inl b)=(a==b):=by
 by_cases e:a=b
 ·subst e;simp
 ·have h:¬(Sum.inl a:Key)=Sum.inl b:=λq=>e (Sum.inl.inj q);rw[decide_eq_false h];exact(beq_eq_false_iff_ne.mpr e).symm
theorem aai (a b:Str):decide ((Sum.inr a:Key)=Sum.inr b)=decide (a=b):=by
 by_cases e:a=b
 ·subst e;simp
 ·have h:¬(Sum.inr a:Key)=Sum.inr b:=λq=>e (Sum.inr.inj q);rw[decide_eq_false h,decide_eq_false e]
theorem abu (a:Int)(b:Str):decide ((Sum.inl a:Key)=Sum.inr b)=false:=decide_eq_false (λq=>nomatch q)
theorem aal (a:Str)(b:Int):decide ((Sum.inr a:Key)=Sum.inl b)=false:=decide_eq_false (λq=>nomatch q)
def bx (prog:zr)(w:World):PySem.KeyKind prog w Key where
 is:=om
 hash:=Fk w
 inj:=λv a b ha hb=>by
  rcases bz ha with⟨i,t,rfl,rfl⟩|⟨x,t,rfl,rfl⟩
  ·rcases bz hb with⟨j,u,rfl,e⟩|⟨y,u,rfl,e⟩
   ·injection e with e1 _;rw[e1]
   ·exact nomatch e
  ·rcases bz hb with⟨j,u,rfl,e⟩|⟨y,u,rfl,e⟩
   ·exact nomatch e
   ·injection e with e1 _;rw[e1]
 byValue:=λk v h=>by
  rcases bz h with⟨i,t,rfl,rfl⟩|⟨x,t,rfl,rfl⟩ <;> rfl
 pyHash:=λhv h=>by
  rcases bz hv with⟨i,t,rfl,rfl⟩|⟨x,t,rfl,rfl⟩
  ·exact wpAny_pyHash_int h
  ·exact wpAny_pyHash_str h
 eqBool:=λhu hv h=>by
  rcases bz hu with⟨i,t,rfl,rfl⟩|⟨x,t,rfl,rfl⟩
  ·rcases bz hv with⟨j,u,rfl,rfl⟩|⟨y,u,rfl,rfl⟩
   ·rw[abA] at h;exact wpAny_eqBool_int h
   ·rw[abu] at h;exact SeqAt.EqAt.int_str i t y u _ _ _ _ h
  ·rcases bz hv with⟨j,u,rfl,rfl⟩|⟨y,u,rfl,rfl⟩
   ·rw[aal] at h;exact SeqAt.EqAt.str_int x t j u _ _ _ _ h
   ·rw[aai] at h;exact wpAny_eqBool_str h
 «strs»:=λk x t v h=>by
  rcases bz h with⟨i,u,rfl,e⟩|⟨y,u,rfl,e⟩
  ·exact nomatch e
  ·injection e with e1 _
   subst e1
   cases v <;> rfl
theorem abo (prog:zr)(w:World)(i:Int)(t:Tok):(bx prog w).is (.inl i) (.int i t)=true:=aak i t
theorem abG (prog:zr)(w:World)(x:Str)(t:Tok):(bx prog w).is (.inr x) (.str x t)=true:=abm x t
inductive V where
 |non|bl (b:Bool)|int (i:Int)|str (x:Str)|byt (b:Array UInt8)|flt (b:UInt64)|ref (a:Addr)|ty (n:String)
 deriving DecidableEq
def aD:V->Value->Prop
 | .non,u=>u=Value.none
 | .bl b,u=>u=Value.bool b
 | .int i,u=>∃t,u=Value.int i t
 | .str x,u=>∃t,u=Value.str x t
 | .byt b,u=>∃t,u=Value.bytes b t
 | .flt b,u=>∃t,u=Value.float b t
 | .ref a,u=>u=Value.ref a
 | .ty n,u=>u=Value.type n
abbrev aK:List V->List Value->Prop:=Paired aD
variable {us:oN}
theorem aK.length {xs:List V}(r:aK xs us):xs.length=us.length:=Paired.length r
theorem aK.get:∀{xs:List V}{us:oN}{i:Nat}{x:V},aK xs us->xs[i]?=some x->∃u,us[i]?=some u/\aD x u
 |_,_,_,_,.nil,e=>by simp at e
 |_,_,0,_,.cons r _,e=>by simp at e;subst e;exact⟨_,rfl,r⟩
 |_,_,i+1,x,.cons _ t,e=>by
  obtain⟨u,h1,h2⟩:=aK.get (i:=i) (x:=x) t (by simpa using e);exact⟨u,by simpa using h1,h2⟩
variable {u:Value}
theorem aK.set {x:V}(r:aD x u):∀{xs:List V}{us:oN}(i:Nat),aK xs us->aK (xs.set i x) (us.set i u)
 |_,_,_,.nil=>.nil
 |_,_,0,.cons _ t=>.cons r t
 |_,_,i+1,.cons q t=>.cons q (aK.set r i t)
theorem aK.append:∀{xs ys:List V}{us ws:oN},aK xs us->aK ys ws->aK (xs++ys) (us++ws)
 |_,_,_,_,.nil,s=>s
 |_,_,_,_,.cons r t,s=>.cons r (aK.append t s)
theorem aK.take:∀{xs:List V}{us:oN}(n:Nat),aK xs us->aK (xs.take n) (us.take n)
 |_,_,0,_=>.nil
 |_,_,_+1,.nil=>.nil
 |_,_,n+1,.cons r t=>.cons r (aK.take n t)
theorem aK.drop:∀{xs:List V}{us:oN}(n:Nat),aK xs us->aK (xs.drop n) (us.drop n)
 |_,_,0,r=>r
 |_,_,_+1,.nil=>.nil
 |_,_,n+1,.cons _ t=>aK.drop n t
def fb:Option V->Option Value->Prop
 |some v,some u=>aD v u
 |none,none=>True
 |_,_=>False
def KV {κ:Type}:List (κ×V)->List (κ×Value)->Prop:=Paired λ(p:κ×V)(q:κ×Value)=>p.1=q.1/\aD p.2 q.2
def kV:Key->V
 | .inl i=>.int i
 | .inr x=>.str x
inductive HO where
 /-- a list -/
 |lst (xs:List V)
 /-- a tuple (never changes) -/
 |tup (xs:List V)
 /-- a dict Nd keys are ints and texts;one Nd keys are tuples of ints and texts (KR empty one is both) -/
 |dK (Hh:List (Key×V))|dT (Hh:List (List Key×V))
 /-- a set of ints: its members,its size -/
 |set (S:Int->Bool)(n:Nat)
 /-- an instance of KR class at C,its dict at dx,its attributes -/
 |ins (C dx:Addr)(fs:List (Str×V))
 /-- KR dict of KR instance at x -/
 |own (x:Addr)
 /-- KR dict of an exception -/
 |xd (fs:List (Str×V))
 /-- a bound method,f of x -/
 |met (f x:Addr)
 /-- a range object lo,lo+1,.. below hi -/
 |rng (lo hi:Int)
 /-- a Nf Zk is known to KR object (KR R0;a dict while a loop walks it): read,never written while it is so -/
 |frz (o:Obj)(u:HO)
 /-- a code Ng table -/
 |tbl (ps:vd)
 /-- any other Nf,by Zl is true of its one object (a def of WT own: Zm a S n:=HO.ext λh=>..) -/
 |ext (φ:Heap->Prop)
abbrev Hp:=Addr->Option HO
def upd (H:Hp)(a:Addr)(o:HO):Hp:=λb=>if b=a then some o else H b
variable {H:Hp}{a:Addr}{o:HO}
theorem ae :upd H a o a=some o:=by unfold upd;rw[if_pos rfl]
variable {b:Addr}
theorem aq (h:b≠a):upd H a o b=H b:=by unfold upd;rw[if_neg h]
theorem tZ {u:HO}:upd (upd H a o) a u=upd H a u:=by
 funext b;unfold upd;split <;> rfl
theorem xv {u:HO}(h:H a=some o)(h':H b=some u)(d:o≠u):a≠b:=by
 intro e;subst e;rw[h] at h';exact d (Option.some.inj h')
theorem au (h:H a=some o)(h':H b=none):a≠b:=by
 intro e;subst e;rw[h] at h';cases h'
section
variable (P:zr)(w:World)
def bc (H:Hp)(h:Heap)(a:Addr):HO->Prop
 | .lst xs=>xs.length<=sizeLine/\∃(its:oN)(n:Nat),aK xs its/\h.get? a=some {cls:=.type "list",data:=.seq its.toArray n}
 | .tup xs=>xs.length<=sizeLine/\∃its:List Value,aK xs its/\IsTup h a its.toArray
 | .dK Hh=>Hh.length<=sizeLine/\(a==sysModules)=false/\∃vs,KV Hh vs/\h.DictOf (bx P w) a vs
 | .dT Hh=>Hh.length<=sizeLine/\(a==sysModules)=false/\∃xs:List (List Key×Addr×Value),
  Paired (λ(p:List Key×V)(q:List Key×Addr×Value)=>p.1=q.1/\H q.2.1=some (.tup (p.1.map kV))/\aD p.2 q.2.2) Hh xs /\
  ∃o es ep,h.get? a=some o/\o.ExactDict/\o.data=.dict es ep/\es.toList=xs.map (entryOfKey (tupleKind (bx P w)))/\(xs.map (·.1)).Nodup
 | .set S n=>h.SetOf (intKind P w) a S n
 | .ins C dx fs=>H dx=some (.own a)/\fs.length<=1000/\dx≠a/\h.get? a=some (PySem.W.instObj C dx) /\
  ∃mA,h.Ns1 dx mA/\(∀f,fb (fs.lookup f) (mA f))/\PySem.Within mA (fs.map (·.1))
 | .own _=>∃o,h.get? a=some o
 | .xd fs=>∃mA,h.Ns1 a mA/\∀f,fb (fs.lookup f) (mA f)
 | .rng lo hi=>∃t u v,h.get? a=some {cls:=.type "range",data:=.fields #[.int lo t,.int hi u,.int 1 v]}
 | .frz o u=>h.get? a=some o/\bc H h a u
 | .tbl ps=>h.get? a=some {cls:=.none,data:=.fields ps}
 | .met f x=>h.get? a=some (PySem.W.methodObj (.ref f) (.ref x))
 | .ext φ=>φ h/\(∃o,h.get? a=some o)/\∀h1 h2:Heap,φ h1->(∀o,h1.get? a=some o->h2.get? a=some o)->φ h2
def gu (H:Hp)(h:Heap):Prop:=∀a o,H a=some o->bc P w H h a o
end
section
variable {P:zr}{w:World}{H H':Hp}{h h':Heap}{a:Addr}{o:HO}
theorem bc.lt (x:bc P w H h a o):a<h.objs.size:=by
 cases o with
 |lst xs=>obtain⟨_,_,_,_,e⟩:=x;exact Heap.lt_size e
 |tup xs=>obtain⟨_,_,_,p⟩:=x;exact p.lt
 |dK Hh=>obtain⟨_,_,_,_,o,_,_,e,_⟩:=x;exact Heap.lt_size e
 |dT Hh=>obtain⟨_,_,_,_,o,_,_,e,_⟩:=x;exact Heap.lt_size e
 |set S n=>obtain⟨o,_,_,_,e,_⟩:=x;exact Heap.lt_size e
 |ins C dx fs=>obtain⟨_,_,_,e,_⟩:=x;exact Heap.lt_size e
 |own y=>obtain⟨_,e⟩:=x;exact Heap.lt_size e
 |xd fs=>obtain⟨_,⟨_,_,_,e,_⟩,_⟩:=x;exact Heap.lt_size e
 |rng lo hi=>obtain⟨_,_,_,e⟩:=x;exact Heap.lt_size e
 |frz ob u=>obtain⟨e,_⟩:=x;exact Heap.lt_size e
 |tbl ps=>exact Heap.lt_size (show h.get? a=some _ from x)
 |met f y=>exact Heap.lt_size (show h.get? a=some _ from x)
 |ext φ=>obtain⟨_,⟨_,e⟩,_⟩:=x;exact Heap.lt_size e
theorem Paired.aaP {α β:Type}{F G:α->β->Prop}:∀{l₁:List α}{l₂:List β},Paired F l₁ l₂->(∀a b,F a b->G a b)->Paired G l₁ l₂
 |_,_,.nil,_=>.nil
 |_,_,.cons r t,f=>.cons (f _ _ r) (Paired.aaP t f)
theorem bc.aa0 (x:bc P w H h a o)(k:∀b u,(b=a\/H b=some (.own a))->h.get? b=some u->h'.get? b=some u)
 (ho:∀b,H b=some (.own a)->H' b=some (.own a))(ht:∀b xs,H b=some (.tup xs)->H' b=some (.tup xs)):bc P w H' h' a o:=by
 induction o with
 |lst xs=>obtain⟨z,its,n,r,e⟩:=x;exact⟨z,its,n,r,k _ _ (.inl rfl) e⟩
 |tup xs=>obtain⟨z,its,r,ob,e,c⟩:=x;exact⟨z,its,r,ob,k _ _ (.inl rfl) e,c⟩
 |dK Hh=>obtain⟨z,y,vs,r,ob,es,ep,e,c⟩:=x;exact⟨z,y,vs,r,ob,es,ep,k _ _ (.inl rfl) e,c⟩
 |dT Hh =>
  obtain⟨z,y,xs,r,ob,es,ep,e,c⟩:=x;exact⟨z,y,xs,Paired.aaP r λp q z=>⟨z.1,ht _ _ z.2.1,z.2.2⟩,ob,es,ep,k _ _ (.inl rfl) e,c⟩
 |set S n=>obtain⟨ob,es,ep,t,e,c⟩:=x;exact⟨ob,es,ep,t,k _ _ (.inl rfl) e,c⟩
 |ins C dx fs =>
  obtain⟨d,z,ne,e,mA,⟨od,es,ep,e2,c⟩,r⟩:=x;exact⟨ho _ d,z,ne,k _ _ (.inl rfl) e,mA,⟨od,es,ep,k _ _ (.inr d) e2,c⟩,r⟩
 |own y=>obtain⟨ob,e⟩:=x;exact⟨ob,k _ _ (.inl rfl) e⟩
 |xd fs=>obtain⟨mA,⟨od,es,ep,e,c⟩,r⟩:=x;exact⟨mA,⟨od,es,ep,k _ _ (.inl rfl) e,c⟩,r⟩
 |rng lo hi=>obtain⟨t,u,v,e⟩:=x;exact⟨t,u,v,k _ _ (.inl rfl) e⟩
 |frz ob u ih=>obtain⟨e,q⟩:=x;exact⟨k _ _ (.inl rfl) e,ih q⟩
 |tbl ps =>
  have e:h.get? a=some {cls:=.none,data:=.fields ps}:=x;show h'.get? a=some {cls:=.none,data:=.fields ps};exact k a _ (.inl rfl) e
 |met f y =>
  have e:h.get? a=some (PySem.W.methodObj (.ref f) (.ref y)):=x;show h'.get? a=some (PySem.W.methodObj (.ref f) (.ref y));exact k a _ (.inl rfl) e
 |ext φ=>obtain⟨p,⟨o,e⟩,st⟩:=x;exact⟨st _ _ p λo q=>k _ _ (.inl rfl) q,⟨o,k _ _ (.inl rfl) e⟩,st⟩
theorem gu.lt (x:gu P w H h)(e:H a=some o):a<h.objs.size:=(x a o e).lt
theorem gu.fresh (x:gu P w H h)(e:h.objs.size<=a):H a=none:=by
 cases q:H a with
 |none=>rfl
 |some u=>exact absurd (Nat.lt_of_lt_of_le (x.lt q) e) (Nat.lt_irrefl _)
theorem gu.kept (x:gu P w H h)(k:∀b u,h.get? b=some u->h'.get? b=some u):gu P w H h':=λa o e =>
 (x a o e).aa0 (λb u _ q=>k b u q) (λ_ q=>q) λ_ _ q=>q
theorem gu.laid (x:gu P w H h)(k:∀b u,h.get? b=some u->h'.get? b=some u)(hp:h.objs.size<=a)(new:bc P w (upd H a o) h' a o):gu P w (upd H a o) h':=λb u e=>by
 have hn:=x.fresh hp
 by_cases hb:b=a
 ·subst hb;rw[ae] at e;cases e;exact new
 ·rw[aq hb] at e
  exact(x b u e).aa0 (λc v _ q=>k c v q) (λc q=>by rw[aq (au q hn)];exact q) λc xs q=>by rw[aq (au q hn)];exact q
end
def Rd (H:Hp)(a:Addr)(u:HO):Prop:=H a=some u\/∃o,H a=some (.frz o u)
variable {P:zr}{w:World}{h:Heap}
theorem Rd.ok {u:HO}(r:Rd H a u)(x:gu P w H h):bc P w H h a u:=by
 rcases r with r|⟨o,r⟩
 ·exact x a u r
 ·obtain⟨_,q⟩:=x a _ r;exact q
def DS:Option HO->Prop
 |some (.lst _)=>True
 |some (.dK _)=>True
 |some (.dT _)=>True
 |some (.set _ _)=>True
 |some (.ins _ _ _)=>True
 |some (.ext _)=>True
 |_=>False
section
variable {P:zr}{w:World}{H:Hp}{h h':Heap}{x e:Addr}{o':HO}
theorem gu.write (ok:gu P w H h)(mu:DS (H x))(he:e=x\/H e=some (.own x))(k:∀b u,b≠e->h.get? b=some u->h'.get? b=some u)(MO:∃u,h'.get? e=some u)
 (new:bc P w (upd H x o') h' x o'):gu P w (upd H x o') h':=λb u q=>by
 have Nh:∀c y,H c=some (.own y)->c≠x:=λc y r z=>by subst z;rw[r] at mu;exact mu
 have Sa:∀c xs,H c=some (.tup xs)->c≠x:=λc xs r z=>by subst z;rw[r] at mu;exact mu
 by_cases hb:b=x
 ·subst hb;rw[ae] at q;cases q;exact new
 ·rw[aq hb] at q
  by_cases LC:b=e
  ·have q':H b=some (.own x):=by
    rcases he with z|z
    ·exact absurd (LC.trans z) hb
    ·rw[LC];exact z
   rw[q] at q';cases q';obtain⟨v,hv⟩:=MO;exact⟨v,by rw[LC];exact hv⟩
  ·refine(ok b u q).aa0 (λc v hc r=>k c v ?_ r) (λc r=>by rw[aq (Nh c b r)];exact r) λc xs r=>by rw[aq (Sa c xs r)];exact r
   rcases hc with rfl|hc
   ·exact LC
   ·rintro rfl
    rcases he with z|z
    ·exact Nh c b hc z
    ·rw[hc] at z;cases z;exact hb rfl
end
structure Un (fs ex:List Addr)(H H':Hp)(h h':Heap):Prop where
 keep:∀b o,h.get? b=some o->H b=none->b∉fs->b∉ex->h'.get? b=some o
 slot:∀b o,h.get? b=some o->H b=none->b∈fs->b∉ex->∃sl,h'.get? b=some {o with slots:=sl}
 free:∀b o,h.get? b=some o->H b=none->b∉ex->H' b=none
 there:∀b o,h.get? b=some o->b∉ex->∃o',h'.get? b=some o'
 aaq:∀b xs,H b=some (.tup xs)->H' b=some (.tup xs)
 aap:∀b o u,H b=some (.frz o u)->H' b=some (.frz o u)
 aax:∀b ps,H b=some (.tbl ps)->∃more,H' b=some (.tbl (ps++more))
section
variable {fs Zn ex ex':List Addr}{H H1 H2:Hp}{h h1 h2 h':Heap}{a x e:Addr}{o:HO}
theorem Un.any (u:Un fs ex H H1 h h1){ob:Obj}(q:h.get? b=some ob)(n:H b=none)(hx:b∉ex):∃sl,h1.get? b=some {ob with slots:=sl}:=by
 by_cases hb:b∈fs
 ·exact u.slot b ob q n hb hx
 ·exact⟨ob.slots,u.keep b ob q n hb hx⟩
theorem Un.kept (k:∀b u,h.get? b=some u->h'.get? b=some u):Un fs ex H H h h' :=
 ⟨λb ob q _ _ _=>k b ob q,λb ob q _ _ _=>⟨ob.slots,k b ob q⟩,λ_ _ _ n _=>n,λb ob q _=>⟨ob,k b ob q⟩,λ_ _ q=>q,λ_ _ _ q=>q,λ_ ps q=>⟨#[],by rw[q];simp⟩⟩
theorem Un.refl:Un fs ex H H h h:=Un.kept λ_ _ q=>q
theorem Un.laid (k:∀b u,h.get? b=some u->h'.get? b=some u)(hp:h.objs.size<=a)(hn:H a=none):Un fs ex H (upd H a o) h h' where
 keep:=λb u q _ _ _=>k b u q
 slot:=λb u q _ _ _=>⟨u.slots,k b u q⟩
 free:=λb u q n _=>by rw[aq (Nat.ne_of_lt (Nat.lt_of_lt_of_le (Heap.lt_size q) hp))];exact n
 there:=λb u q _=>⟨u,k b u q⟩
 aaq:=λb xs q=>by rw[aq (au q hn)];exact q
 aap:=λb u xs q=>by rw[aq (au q hn)];exact q
 aax:=λb ps q=>⟨#[],by rw[aq (au q hn),q];simp⟩
theorem Un.write (mu:DS (H x))(he:e=x\/H e=some (.own x))(k:∀b u,b≠e->h.get? b=some u->h'.get? b=some u)(MO:∃u,h'.get? e=some u):Un fs ex H (upd H x o) h h':=by
 have hx:∀b,H b=none->b≠x:=λb n z=>by subst z;rw[n] at mu;exact mu
 have hb:∀b,H b=none->b≠e:=λb n z=>by
  subst z
  rcases he with r|r
  ·exact hx b n r
  ·rw[n] at r;cases r
 have hm:∀b u,H b=some u->¬DS (some u)->b≠x:=λb u q nm z=>by subst z;rw[q] at mu;exact nm mu
 refine⟨λb u q n _ _=>k b u (hb b n) q,λb u q n _ _=>⟨u.slots,k b u (hb b n) q⟩,λb u q n _=>by rw[aq (hx b n)];exact n,λb u q _=>?_,
  λb xs q=>by rw[aq (hm b _ q λz=>z)];exact q,λb u xs q=>by rw[aq (hm b _ q λz=>z)];exact q,λb ps q=>⟨#[],by rw[aq (hm b _ q λz=>z),q];simp⟩⟩
 by_cases LC:b=e
 ·subst LC;exact MO
 ·exact⟨u,k b u LC q⟩
end
def E6 (h:Heap)(H:Hp):List Addr:=(List.range h.objs.size).filter λa=>(H a).isSome
def mx (h:Heap)(H:Hp):Heap:=PySem.W.hideAll h (E6 h H)
theorem aao (h:Heap)(H:Hp):(mx h H).objs.size=h.objs.size:=PySem.W.hideAll_size _ _
theorem aag {o:Obj}(e:h.get? b=some o)(n:H b=none):(mx h H).get? b=some o :=
 PySem.W.hideAll_get _ e λhm=>by
  have q:(H b).isSome=true:=(List.mem_filter.mp hm).2;rw[n] at q;simp at q
theorem aaw {o:Obj}(e:(mx h H).get? b=some o):h.get? b=some o/\H b=none:=by
 have e':h.get? b=some o:=PySem.W.of_hideAll (E6 h H) e;refine⟨e',?_⟩
 cases q:H b with
 |none=>rfl
 |some x =>
  have hm:b∈E6 h H:=List.mem_filter.mpr ⟨List.mem_range.mpr (Heap.lt_size e'),by simp[q]⟩;have z:(mx h H).get? b=none:=PySem.W.hideAll_none (E6 h H) hm;rw[z] at e;cases e
structure Mod (K:PySem.W.Frag)(mg:vK)(base:Heap):Prop where
 kin:K.In base
 glob:base.Ns mainGlobals mg
 blt:∃mb,base.Ns builtinsNs mb/\∀x:Str,x ≠ "__name__"->mb x=bootBuiltins x
 nolimit:base.NoLimit
structure Cx where
 prog:Program
 w:World
 K:PySem.W.Frag
 mg:Str->Option Value
 base:Heap
 A:Around
 N:List Str
 s₀:Shared
 H₀:Hp
 env:Env
 outer:List Env
 stack:List Env
 ex:List Addr
 fn:Str->Bool
 calm:Bool
 pn:List (Addr×Obj)
 xe:Value->Shared->Prop
def eZ (l:List Env):List Addr:=l.filterMap (·.frame)
abbrev Cx.fs (X:Cx):List Addr:=eZ X.outer
def E8 (sc:Scope)(x:Str):Prop:=sc.names.lookup x=some .local\/sc.names.lookup x=some .cell\/sc.names.lookup x=some .free
def Er (sc:Scope)(x:Str):Prop:=sc.names.lookup x=some .local\/sc.names.lookup x=some .cell
def aaC (env:Env)(h:Heap)(m:vK)(x:Str)(u:Value):Prop :=
 (env.kindOf x=some .local/\m x=some u)\/((env.kindOf x=some .cell\/env.kindOf x=some .free)/\∃c,env.cells.lookup x=some c/\h.IsCell c (some u))
structure Cx.Ok (X:Cx):Prop where
 mod:Mod X.K X.mg X.base
 kind:X.env.scope.kind=.function
 glob:X.env.globals=mainGlobals
 blt:X.env.builtins=builtinsNs
 above:X.s₀.heap.objs.size<=X.env.locals
 inj:∀x y c,X.env.cells.lookup x=some c->X.env.cells.lookup y=some c->x=y
 has:∀x,(X.env.kindOf x=some .cell\/X.env.kindOf x=some .free)->∃c,X.env.cells.lookup x=some c
 cab:∀x c,X.fn x=true->X.env.cells.lookup x=some c->X.s₀.heap.objs.size<=c
 hd:X.calm=true->X.A.handled=none
 frames:X.A.frames=some X.stack
 stk:X.stack=X.outer\/(X.stack=X.env::X.outer/\X.env.frame=some X.env.locals)
 exf:∀b∈X.ex,b≠X.env.locals/\∀x c,X.env.cells.lookup x=some c->c≠b
 bs:∀b o,X.base.get? b=some o->X.s₀.heap.get? b=some o/\X.H₀ b=none
 bsz:X.base.objs.size<=X.s₀.heap.objs.size
 abq:∀b o,X.base.get? b=some o->b∉X.ex
 abB:∀b∈X.ex,b∉X.fs
 aav:X.s₀.heap.FunFrames X.base X.outer
 frf:∀b∈X.fs,X.H₀ b=none
structure Inv (X:Cx)(pins:List (Addr×Obj))(σ:List (Option V))(H:Hp)(s:CW):Prop where
 ok:X.Ok
 os:s.os=X.s₀.os
 bare:AllBare s.gens
 base:Un X.fs X.ex X.H₀ H X.s₀.heap s.heap
 loc:∃m,s.heap.Ns X.env.locals m/\∀(i:Nat)(x:Str)(v:V),X.N[i]?=some x->σ[i]?=some (some v)->E8 X.env.scope x->∃u,aD v u/\aaC X.env s.heap m x u
 cell:∀x c,X.env.cells.lookup x=some c->∃v,s.heap.IsCell c v
 free:H X.env.locals=none
 aar:∀x c,X.env.cells.lookup x=some c->H c=none
 pin:∀p∈X.pn++pins,s.heap.get? p.1=some p.2/\H p.1=none/\p.1≠X.env.locals/\p.1∉X.fs/\∀v,p.2.data≠.cell v
 hok:gu X.prog X.w H s.heap
 len:σ.length=X.N.length
variable {N:Bg}{i:Nat}{x:Str}{M:Model}{A:Around}{v:V}
section
variable {X:Cx}{pins:List (Addr×Obj)}{σ:List (Option V)}{H H':Hp}{s:CW}{h':Heap}
theorem Cx.Ok.acq (ok:X.Ok){o:Obj}(e:X.base.get? b=some o):b∉X.fs:=λhb=>by
 have:=(ok.aav.mem hb).1;rw[e] at this;cases this
theorem Inv.bs (I:Inv X pins σ H s):∀b o,X.base.get? b=some o->s.heap.get? b=some o/\H b=none:=λb o e =>
 ⟨I.base.keep b o (I.ok.bs b o e).1 (I.ok.bs b o e).2 (I.ok.acq e) (I.ok.abq b o e),I.base.free b o (I.ok.bs b o e).1 (I.ok.bs b o e).2 (I.ok.abq b o e)⟩
theorem Inv.bk (I:Inv X pins σ H s):∀b o,X.base.get? b=some o->s.heap.get? b=some o:=λb o e=>(I.bs b o e).1
theorem Inv.mod (I:Inv X pins σ H s):Mod X.K X.mg X.base:=I.ok.mod
theorem Inv.kIn (I:Inv X pins σ H s):X.K.In s.heap:=I.ok.mod.kin.keeps I.bk
theorem Inv.fr (I:Inv X pins σ H s):∃m,Fr X.base X.env.locals s.heap m :=
 let⟨m,hn,_⟩:=I.loc
 ⟨m,hn,I.bk,Nat.le_trans I.ok.bsz I.ok.above⟩
theorem Inv.lt (I:Inv X pins σ H s):X.env.locals<s.heap.objs.size:=let⟨_,hn,_⟩:=I.loc;hn.lt
theorem Inv.sz (I:Inv X pins σ H s):X.s₀.heap.objs.size<=s.heap.objs.size:=Nat.le_trans I.ok.above (Nat.le_of_lt I.lt)
theorem Inv.ab4 (I:Inv X pins σ H s)(h:s.heap.objs.size<=a):a∉X.fs:=λhb=>by
 obtain⟨_,o,ho,_⟩:=I.ok.aav.mem hb;exact absurd (Nat.lt_of_lt_of_le (Heap.lt_size ho) (Nat.le_trans I.sz h)) (Nat.lt_irrefl _)
theorem Inv.cne (I:Inv X pins σ H s):∀x c,X.env.cells.lookup x=some c->c≠X.env.locals:=λx c e z=>by
 obtain⟨v,o,ho,hd⟩:=I.cell x c e;obtain⟨m,⟨o',es,ep,HV,Sb,_⟩,_⟩:=I.loc;rw[z,HV] at ho;cases ho;rw[Sb] at hd;cases hd
theorem Inv.aav (I:Inv X pins σ H s):s.heap.FunFrames X.base X.outer:=by
 have all:∀(l:List Env),(∀b∈eZ l,b∈X.fs)->X.s₀.heap.FunFrames X.base l->s.heap.FunFrames X.base l:=by
  intro l
  induction l with
  |nil=>intro _ _;trivial
  |cons env r ih =>
   intro hs hl;obtain⟨hk,⟨L,o,hf,hn,ho,hd⟩,hr⟩:=hl;have hL:L∈X.fs:=hs L (by unfold eZ;rw[List.filterMap_cons,hf];exact List.mem_cons_self);obtain⟨sl,e⟩:=I.base.slot L o ho (I.ok.frf L hL) hL λz=>I.ok.abB L z hL;exact⟨hk,⟨L,_,hf,hn,e,hd⟩,ih (λb hb=>hs b (by unfold eZ;rw[List.filterMap_cons,hf];exact List.mem_cons_of_mem _ hb)) hr⟩
 exact all X.outer (λ_ hb=>hb) I.ok.aav
theorem Inv.stack (I:Inv X pins σ H s):s.heap.FunFrames X.base X.stack:=by
 rcases I.ok.stk with e|⟨e,hf⟩
 ·rw[e];exact I.aav
 ·rw[e];obtain⟨m,hn,_⟩:=I.loc;refine .cons (by rw[I.ok.kind];decide) hf hn ?_ I.aav;exact Heap.get?_none_of_le (Nat.le_trans I.ok.bsz I.ok.above)
theorem Inv.aay (I:Inv X pins σ H s):∀b∈eZ X.stack,b∈X.env.locals::X.fs:=λb hb=>by
 rcases I.ok.stk with e|⟨e,hf⟩
 ·rw[e] at hb;exact List.mem_cons_of_mem _ hb
 ·rw[e] at hb;unfold eZ at hb;rw[List.filterMap_cons,hf] at hb;exact hb
theorem Inv.aaE (I:Inv X pins σ H s):∀b∈eZ X.stack,H b=none:=λb hb=>by
 rcases List.mem_cons.mp (I.aay b hb) with e|hb
 ·rw[e];exact I.free
 ·obtain⟨_,o,ho,_⟩:=I.ok.aav.mem hb;exact I.base.free b o ho (I.ok.frf b hb) λz=>I.ok.abB b z hb
theorem Inv.step {g':Array GenState}{t':Nat}{d':Drawn}{ch:List Addr}(I:Inv X pins σ H s)
 (Km:∀b∈ch,(b∈X.ex\/X.s₀.heap.objs.size<=b)/\b≠X.env.locals/\(∀x c,X.env.cells.lookup x=some c->c≠b)/\∀p∈X.pn++pins,p.1≠b)
 (keep:∀b o,b≠X.env.locals->b∉X.fs->b∉ch->s.heap.get? b=some o->H b=none->h'.get? b=some o)
 (slot:∀b o,b≠X.env.locals->b∈X.fs->b∉ch->s.heap.get? b=some o->H b=none->∃sl,h'.get? b=some {o with slots:=sl})(free:∀b o,b∉ch->s.heap.get? b=some o->H b=none->H' b=none)
 (there:∀b o,b∉ch->s.heap.get? b=some o->∃o',h'.get? b=some o')
 (aaq:∀b xs,H b=some (.tup xs)->H' b=some (.tup xs))(aap:∀b o u,H b=some (.frz o u)->H' b=some (.frz o u))(aax:∀b ps,H b=some (.tbl ps)->∃more,H' b=some (.tbl (ps++more)))
 (ns:∀m,s.heap.Ns X.env.locals m->h'.Ns X.env.locals m)(hok:gu X.prog X.w H' h')(hg:AllBare g'):
 Inv X pins σ H' {s with heap:=h',gens:=g',drawn:=d',toks:=t'}:=by
 have WU:∀b o,X.s₀.heap.get? b=some o->b≠X.env.locals:=λb o e=>Nat.ne_of_lt (Nat.lt_of_lt_of_le (Heap.lt_size e) I.ok.above)
 have Q7:∀b o,X.s₀.heap.get? b=some o->b∉X.ex->b∉ch:=λb o e hx hb=>by
  rcases(Km b hb).1 with z|z
  ·exact hx z
  ·exact absurd (Nat.lt_of_lt_of_le (Heap.lt_size e) z) (Nat.lt_irrefl _)
 have cellK:∀x c,X.env.cells.lookup x=some c->∀v,s.heap.IsCell c v->h'.IsCell c v:=λx c e v ⟨o,ho,hd⟩=>by
  have Ni:c∉ch:=λz=>(Km c z).2.2.1 x c e rfl
  by_cases hc:c∈X.fs
  ·obtain⟨sl,q⟩:=slot c o (I.cne x c e) hc Ni ho (I.aar x c e);exact⟨_,q,hd⟩
  ·exact⟨o,keep c o (I.cne x c e) hc Ni ho (I.aar x c e),hd⟩
 refine⟨I.ok,I.os,hg,⟨λb o e n hb hx=>?_,λb o e n hb hx=>?_,λb o e n hx=>?_,λb o e hx=>?_,λb xs e=>aaq b xs (I.base.aaq b xs e),λb o xs e=>aap b o xs (I.base.aap b o xs e),λb ps e=>?_⟩,?_,λx c e=>?_,?_,λx c e=>?_,λp hp=>?_,hok,I.len⟩
 ·exact keep b o (WU b o e) hb (Q7 b o e hx) (I.base.keep b o e n hb hx) (I.base.free b o e n hx)
 ·obtain⟨sl,e1⟩:=I.base.slot b o e n hb hx;obtain⟨JC,e2⟩:=slot b _ (WU b o e) hb (Q7 b o e hx) e1 (I.base.free b o e n hx);exact⟨JC,e2⟩
 ·obtain⟨o',e1⟩:=I.base.there b o e hx;exact free b o' (Q7 b o e hx) e1 (I.base.free b o e n hx)
 ·obtain⟨o',e1⟩:=I.base.there b o e hx;exact there b o' (Q7 b o e hx) e1
 ·obtain⟨m1,e1⟩:=I.base.aax b ps e;obtain⟨m2,e2⟩:=aax b _ e1;exact⟨m1++m2,by rw[e2,Array.append_assoc]⟩
 ·obtain⟨m,hn,hl⟩:=I.loc;refine⟨m,ns m hn,λi x v e1 e2 e3=>?_⟩;obtain⟨u,r,l⟩:=hl i x v e1 e2 e3;refine⟨u,r,?_⟩
  rcases l with l|⟨k,c,e,z⟩
  ·exact .inl l
  ·exact .inr ⟨k,c,e,cellK x c e _ z⟩
 ·obtain⟨v,z⟩:=I.cell x c e;exact⟨v,cellK x c e v z⟩
 ·obtain⟨m,⟨o,_,_,ho,_⟩,_⟩:=I.loc;exact free _ o (λz=>(Km _ z).2.1 rfl) ho I.free
 ·obtain⟨v,o,ho,hd⟩:=I.cell x c e;exact free c o (λz=>(Km c z).2.2.1 x c e rfl) ho (I.aar x c e)
 ·obtain⟨e,n,ne,nf,d⟩:=I.pin p hp;have Ni:p.1∉ch:=λz=>(Km p.1 z).2.2.2 p hp rfl;exact⟨keep p.1 p.2 ne nf Ni e n,free p.1 p.2 Ni e n,ne,nf,d⟩
theorem Inv.un {t':Nat}(I:Inv X pins σ H s)(u:Un X.fs [] H H' s.heap h')(hok:gu X.prog X.w H' h'):Inv X pins σ H' {s with heap:=h',toks:=t'}:=by
 obtain⟨m,⟨o,es,ep,ho,r⟩,_⟩:=id I.loc;obtain⟨sl,hL⟩:=u.any ho I.free (by simp)
 exact I.step (g':=s.gens) (d':=s.drawn) (ch:=[]) (λ_ z=>nomatch z) (λb o _ hb _ e n=>u.keep b o e n hb (by simp)) (λb o _ hb _ e n=>u.slot b o e n hb (by simp)) (λb o _ e n=>u.free b o e n (by simp)) (λb o _ e=>u.there b o e (by simp)) u.aaq u.aap u.aax (λm' hm=>by
  obtain⟨o',Jj,LD,HV,r'⟩:=hm;rw[ho] at HV;cases HV
  exact⟨_,Jj,LD,hL,r'⟩) hok I.bare
theorem Inv.call {g':Array GenState}{t':Nat}{d':Drawn}{ch:List Addr}(I:Inv X pins σ H s)(u:Un (eZ X.stack) ch H H' s.heap h')(hok:gu X.prog X.w H' h')(hg:AllBare g')
 (Km:∀b∈ch,(b∈X.ex\/X.s₀.heap.objs.size<=b)/\b≠X.env.locals/\(∀x c,X.env.cells.lookup x=some c->c≠b)/\∀p∈X.pn++pins,p.1≠b):
 Inv X pins σ H' {s with heap:=h',gens:=g',drawn:=d',toks:=t'}:=by
 obtain⟨m,⟨o,es,ep,ho,r⟩,_⟩:=id I.loc;obtain⟨sl,hL⟩:=u.any ho I.free λz=>(Km _ z).2.1 rfl
 exact I.step (ch:=ch) Km (λb o hL hb hc e n=>u.keep b o e n (λz=>(List.mem_cons.mp (I.aay b z)).elim hL hb) hc) (λb o _ _ hc e n=>u.any e n hc) (λb o hc e n=>u.free b o e n hc) (λb o hc e=>u.there b o e hc) u.aaq u.aap u.aax (λm' hm=>by
  obtain⟨o',Jj,LD,HV,r'⟩:=hm;rw[ho] at HV;cases HV
  exact⟨_,Jj,LD,hL,r'⟩) hok hg
theorem Inv.turned {t':Nat}{it:Addr}(I:Inv X pins σ H s)(k:∀b o,b≠it->s.heap.get? b=some o->h'.get? b=some o)(hn:H it=none)(hL:it≠X.env.locals)
 (h1:it∈X.ex\/X.s₀.heap.objs.size<=it)(h2:∀x c,X.env.cells.lookup x=some c->c≠it)(h3:∀p∈X.pn++pins,p.1≠it):Inv X pins σ H {s with heap:=h',toks:=t'}:=by
 have KS:∀b u,H b=some u->b≠it:=λb u e z=>by rw[z,hn] at e;cases e
 refine I.step (g':=s.gens) (d':=s.drawn) (ch:=[it]) (λb hb=>?_) (λb o _ _ hc e _=>k b o (λz=>hc (by simp[z])) e) (λb o _ _ hc e _=>⟨o.slots,k b o (λz=>hc (by simp[z])) e⟩) (λ_ _ _ _ n=>n)
  (λb o hc e=>⟨o,k b o (λz=>hc (by simp[z])) e⟩) (λ_ _ e=>e) (λ_ _ _ e=>e) (λb ps e=>⟨#[],by rw[e];simp⟩) (λm hm=>?_) (λb u e=>?_) I.bare
 ·have e:b=it:=by simpa using hb
  subst e;exact⟨h1,hL,h2,h3⟩
 ·obtain⟨o,es,ep,ho,r⟩:=hm;exact⟨o,es,ep,k _ o (Ne.symm hL) ho,r⟩
 ·refine(I.hok b u e).aa0 (λc v hc q=>k c v ?_ q) (λ_ q=>q) λ_ _ q=>q
  rcases hc with z|z
  ·rw[z];exact KS b u e
  ·exact KS c _ z
theorem Inv.tok (I:Inv X pins σ H s)(t:Nat):Inv X pins σ H {s with toks:=t}:=I.un (h':=s.heap) (t':=t) Un.refl I.hok
theorem Inv.kept {t':Nat}(I:Inv X pins σ H s)(k:∀b u,s.heap.get? b=some u->h'.get? b=some u):Inv X pins σ H {s with heap:=h',toks:=t'}:=I.un (Un.kept k) (I.hok.kept k)
theorem Inv.laid {a:Addr}{o:HO}{t':Nat}(I:Inv X pins σ H s)(k:∀b u,s.heap.get? b=some u->h'.get? b=some u)(hp:s.heap.objs.size<=a)(new:bc X.prog X.w (upd H a o) h' a o):
 Inv X pins σ (upd H a o) {s with heap:=h',toks:=t'}:=I.un (Un.laid k hp (I.hok.fresh hp)) (I.hok.laid k hp new)
theorem Inv.write {x e:Addr}{o:HO}{t':Nat}(I:Inv X pins σ H s)(mu:DS (H x))(he:e=x\/H e=some (.own x))(k:∀b u,b≠e->s.heap.get? b=some u->h'.get? b=some u)(MO:∃u,h'.get? e=some u)
 (new:bc X.prog X.w (upd H x o) h' x o):Inv X pins σ (upd H x o) {s with heap:=h',toks:=t'}:=I.un (Un.write mu he k MO) (I.hok.write mu he k MO new)
theorem Inv.aaA {pins':List (Addr×Obj)}(I:Inv X pins σ H s)(h:∀p∈pins',s.heap.get? p.1=some p.2/\H p.1=none/\p.1≠X.env.locals/\p.1∉X.fs/\∀v,p.2.data≠.cell v):Inv X pins' σ H s :=
 ⟨I.ok,I.os,I.bare,I.base,I.loc,I.cell,I.free,I.aar,λp hp=>(List.mem_append.mp hp).elim (λz=>I.pin p (List.mem_append_left _ z)) (h p),I.hok,I.len⟩
theorem qG (hN:N.Nodup){j:Nat}(a:N[i]?=some x)(b:N[j]?=some x):i=j:=by
 obtain⟨h1,e1⟩:=List.getElem?_eq_some_iff.mp a;obtain⟨h2,e2⟩:=List.getElem?_eq_some_iff.mp b;exact(List.getElem_inj hN).mp (e1.trans e2.symm)
theorem nJ {E:yf}{Q:Unit->Shared->Prop}(I:Inv X pins σ H s)(hN:X.N.Nodup)(hi:X.N[i]?=some x)(hx:Er X.env.scope x)(r:aD v u)
 (h:∀s',Inv X pins (σ.set i (some v)) H s'->(∃a,Heap.SameBut a s.heap s'.heap/\(a=X.env.locals\/X.env.cells.lookup x=some a))->Q () s')(hf:X.fn x=true\/X.env.scope.names.lookup x=some .local:=by first|exact .inl rfl|exact .inr rfl|assumption):wpAny M A (storeName X.env x u) Q E s:=by
 obtain⟨m,hn,hl⟩:=id I.loc
 have Sd:(X.env.scope.kind == .class || (X.env.scope.kind == .module&&X.env.locals != X.env.globals))=false:=by rw[I.ok.kind];rfl
 have WV:i<σ.length:=by rw[I.len];exact(List.getElem?_eq_some_iff.mp hi).1
 have cne:=I.cne
 have tracked:∀{a:Addr}{h':Heap},(∃o,s.heap.get? a=some o/\H a=none)->Heap.SameBut a s.heap h'->gu X.prog X.w H h':=λ{a h'} ha hs b ob e=>by
  obtain⟨_,_,IV⟩:=ha;refine(I.hok b ob e).aa0 (λc w' hc q=>(hs.2 c ?_).trans q) (λ_ q=>q) λ_ _ q=>q;rintro rfl
  rcases hc with rfl|hc
  ·rw[IV] at e;cases e
  ·rw[IV] at hc;cases hc
 rcases hx with hk|hk
 ·refine wpAny_storeName_local hk hn (λh' Nj hs=>?_) Sd;obtain⟨oL,_,_,Zo,_⟩:=id hn;refine h _ ⟨I.ok,I.os,I.bare,⟨λb o e n hb hx=>?_,λb o e n hb hx=>?_,I.base.free,λb o e hx=>?_,I.base.aaq,I.base.aap,I.base.aax⟩,⟨_,Nj,λj y v' e1 e2 e3=>?_⟩,λy c e=>?_,I.free,I.aar,λp hp=>?_,tracked ⟨oL,Zo,I.free⟩ hs,by simpa using I.len⟩ ⟨_,hs,.inl rfl⟩
  ·exact(hs.2 b (Nat.ne_of_lt (Nat.lt_of_lt_of_le (Heap.lt_size e) I.ok.above))).trans (I.base.keep b o e n hb hx)
  ·obtain⟨sl,e1⟩:=I.base.slot b o e n hb hx;exact⟨sl,(hs.2 b (Nat.ne_of_lt (Nat.lt_of_lt_of_le (Heap.lt_size e) I.ok.above))).trans e1⟩
  ·obtain⟨o',e1⟩:=I.base.there b o e hx;exact⟨o',(hs.2 b (Nat.ne_of_lt (Nat.lt_of_lt_of_le (Heap.lt_size e) I.ok.above))).trans e1⟩
  ·by_cases hj:j=i
   ·subst hj;rw[hi] at e1;cases e1;rw[List.getElem?_set_self WV] at e2
    cases e2
    exact⟨u,r,.inl ⟨hk,by simp⟩⟩
   ·rw[List.getElem?_set_ne (Ne.symm hj)] at e2;obtain⟨u',r',q⟩:=hl j y v' e1 e2 e3;refine⟨u',r',?_⟩
    rcases q with⟨k,e⟩|⟨k,c,e,z⟩
    ·refine .inl ⟨k,?_⟩;have:y≠x:=λe=>hj (qG hN e1 (e▸hi));simp[this,e]
    ·exact .inr ⟨k,c,e,z.sameBut hs (cne y c e)⟩
  ·obtain⟨w',z⟩:=I.cell y c e;exact⟨w',z.sameBut hs (cne y c e)⟩
  ·obtain⟨e,n,ne,nf,d⟩:=I.pin p hp;exact⟨(hs.2 p.1 ne).trans e,n,ne,nf,d⟩
 ·have Se:X.fn x=true:=by
   rcases hf with z|z
   ·exact z
   ·rw[z] at hk;cases hk
  obtain⟨c,hc⟩:=I.ok.has x (.inl hk);obtain⟨w',z⟩:=I.cell x c hc;refine wpAny_storeName_cell I.ok.kind hk hc z (λh' HK hs=>?_);obtain⟨oc,WW,Sf⟩:=id z;refine h {s with heap:=h'} ⟨I.ok,I.os,I.bare,⟨λb o e n hb hx=>?_,λb o e n hb hx=>?_,I.base.free,λb o e hx=>?_,I.base.aaq,I.base.aap,I.base.aax⟩,⟨m,hn.sameBut hs (Ne.symm (cne x c hc)),λj y v' e1 e2 e3=>?_⟩,λy c' e=>?_,I.free,I.aar,λp hp=>?_,tracked ⟨oc,WW,I.aar x c hc⟩ hs,by simpa using I.len⟩ ⟨c,hs,.inr hc⟩
  ·exact(hs.2 b (Nat.ne_of_lt (Nat.lt_of_lt_of_le (Heap.lt_size e) (I.ok.cab x c Se hc)))).trans (I.base.keep b o e n hb hx)
  ·obtain⟨sl,e1⟩:=I.base.slot b o e n hb hx;exact⟨sl,(hs.2 b (Nat.ne_of_lt (Nat.lt_of_lt_of_le (Heap.lt_size e) (I.ok.cab x c Se hc)))).trans e1⟩
  ·obtain⟨o',e1⟩:=I.base.there b o e hx;exact⟨o',(hs.2 b (Nat.ne_of_lt (Nat.lt_of_lt_of_le (Heap.lt_size e) (I.ok.cab x c Se hc)))).trans e1⟩
  ·by_cases hj:j=i
   ·subst hj;rw[hi] at e1;cases e1;rw[List.getElem?_set_self WV] at e2
    cases e2
    exact⟨u,r,.inr ⟨.inl hk,c,hc,HK⟩⟩
   ·rw[List.getElem?_set_ne (Ne.symm hj)] at e2;obtain⟨u',r',q⟩:=hl j y v' e1 e2 e3;refine⟨u',r',?_⟩
    rcases q with q|⟨k,c',e,z'⟩
    ·exact .inl q
    ·refine .inr ⟨k,c',e,z'.sameBut hs ?_⟩;rintro rfl;exact hj (qG hN e1 (I.ok.inj _ _ _ e hc▸hi))
  ·by_cases WY:c'=c
   ·subst WY;exact⟨_,HK⟩
   ·obtain⟨w2,z2⟩:=I.cell y c' e;exact⟨w2,z2.sameBut hs WY⟩
  ·obtain⟨e,n,ne,nf,d⟩:=I.pin p hp;refine⟨(hs.2 p.1 ?_).trans e,n,ne,nf,d⟩;intro q;rw[q,WW] at e;have q':oc=p.2:=Option.some.inj e;exact d w' (by rw[<-q'];exact Sf)
theorem jh {E:yf}{Q:Unit->Shared->Prop}(I:Inv X pins σ H s)(hN:X.N.Nodup)(hi:X.N[i]?=some x)(hx:Er X.env.scope x)(r:aD v u)
 (h:∀s',Inv X pins (σ.set i (some v)) H s'->Q () s')(hf:X.fn x=true\/X.env.scope.names.lookup x=some .local:=by first|exact .inl rfl|exact .inr rfl|assumption):wpAny M A (storeName X.env x u) Q E s :=
 nJ I hN hi hx r (λs' I' _=>h s' I') hf
theorem Inv.ab5 {s':CW}{ch:List Addr}(I:Inv X pins σ H s)(ho:s'.os=s.os)(u:Un (eZ X.stack) ch H H' s.heap s'.heap)(hok:gu X.prog X.w H' s'.heap)(hg:AllBare s'.gens)
 (Km:∀b∈ch,(b∈X.ex\/X.s₀.heap.objs.size<=b)/\b≠X.env.locals/\(∀x c,X.env.cells.lookup x=some c->c≠b)/\∀p∈X.pn++pins,p.1≠b):Inv X pins σ H' s':=by
 obtain⟨h',g',d',t',o'⟩:=s';have e:o'=s.os:=ho;subst e;exact I.call (g':=g') (t':=t') (d':=d') u hok hg Km
end
abbrev XK:=Value->Option Addr->Hp->Prop
abbrev St:=List (Option V)
abbrev VK:=V->Hp->Prop
abbrev TE:=St->Hp->VK->Prop
abbrev TT:=St->Hp->(Bool->Hp->Prop)->Prop
abbrev TA:=St->Hp->(List V->Hp->Prop)->Prop
structure Ends where
 nx:St->Hp->Prop
 rt:VK
 bk:St->Hp->Prop:=λ_ _=>False
 ct:St->Hp->Prop:=λ_ _=>False
abbrev TS:=Ends->St->Hp->Prop
def EP (X:Cx)(pins:List (Addr×Obj))(σ:St)(Q:VK)(u:Value)(s':CW):Prop:=∃v H',Inv X pins σ H' s'/\aD v u/\Q v H'
def TP (X:Cx)(pins:List (Addr×Obj))(σ:St)(Q:Bool->Hp->Prop)(b:Bool)(s':CW):Prop:=∃H',Inv X pins σ H' s'/\Q b H'
def AP (X:Cx)(pins:List (Addr×Obj))(σ:St)(Q:List V->Hp->Prop)(us:oN)(s':CW):Prop:=∃vs H',Inv X pins σ H' s'/\aK vs us/\Q vs H'
def SP (X:Cx)(pins:List (Addr×Obj))(D:Ends)(f:Flow)(s':CW):Prop :=
 match f with
 | .next=>∃σ' H',Inv X pins σ' H' s'/\D.nx σ' H'
 | .brk=>∃σ' H',Inv X pins σ' H' s'/\D.bk σ' H'
 | .cont=>∃σ' H',Inv X pins σ' H' s'/\D.ct σ' H'
 | .ret u=>∃v σ' H',Inv X pins σ' H' s'/\aD v u/\D.rt v H'
def PE (X:Cx)(e:Expr)(t:TE):Prop :=
 ∀(pins:List (Addr×Obj))(s:CW)(σ:St)(H:Hp)(Q:VK),Inv X pins σ H s->t σ H Q->wpAny (model X.prog X.w) X.A (eval e X.env) (EP X pins σ Q) X.xe s
def PT (X:Cx)(e:Expr)(t:TT):Prop :=
 ∀(pins:List (Addr×Obj))(s:CW)(σ:St)(H:Hp)(Q:Bool->Hp->Prop),Inv X pins σ H s->t σ H Q->wpAny (model X.prog X.w) X.A (isTrue e X.env (eval e X.env)) (TP X pins σ Q) X.xe s
def PW (X:Cx)(e:Expr)(t:TT):Prop :=
 ∀(eG:Sem Value)(pins:List (Addr×Obj))(s:CW)(σ:St)(H:Hp)(Q:Bool->Hp->Prop),Inv X pins σ H s->t σ H Q->wpAny (model X.prog X.w) X.A (isTrue e X.env eG) (TP X pins σ Q) X.xe s
variable {X:Cx}{e:Expr}
theorem PW.pt {t:TT}(h:PW X e t):PT X e t:=h _
def PA (X:Cx)(es:qk)(t:TA):Prop :=
 ∀(pos:Pos)(pins:List (Addr×Obj))(s:CW)(σ:St)(H:Hp)(Q:List V->Hp->Prop),Inv X pins σ H s->t σ H Q->wpAny (model X.prog X.w) X.A (spliced (backTo pos (starEach es X.env))) (AP X pins σ Q) X.xe s
def PS (X:Cx)(st:Stmt)(t:TS):Prop :=
 ∀(pins:List (Addr×Obj))(s:CW)(σ:St)(H:Hp)(D:Ends),Inv X pins σ H s->t D σ H->wpAny (model X.prog X.w) X.A (exec st X.env) (SP X pins D) X.xe s
def rX (X:Cx)(st:List Stmt)(t:TS):Prop :=
 ∀(pins:List (Addr×Obj))(s:CW)(σ:St)(H:Hp)(D:Ends),Inv X pins σ H s->t D σ H->wpAny (model X.prog X.w) X.A (execs st X.env) (SP X pins D) X.xe s
variable {s:CW}
theorem bu {α:Type}{t:Sem α}{Q Q':α->Shared->Prop}{E:yf}(h:wpAny M A t Q E s)(hQ:∀a s,Q a s->Q' a s):wpAny M A t Q' E s:=wpAny_mono h hQ λ_ _ x=>x
variable {pins:List (Addr×Obj)}{σ:St}{op:CmpOp}
section
variable {X:Cx}
def cw (i:Nat):TE:=λσ H Q=>∃v,σ[i]?=some (some v)/\Q v H
def tC (v:V):TE:=λ_ H Q=>Q v H
theorem aaj {pos:Pos}(hN:X.N[i]?=some x)(hv:E8 X.env.scope x)(hd:(x==("__debug__":Str))=false:=by decide)(Ia:(x==("__classdict__":Str))=false:=by decide):PE X (.Name x pos) (cw i):=by
 intro pins s σ H Q I h;obtain⟨v,e,h⟩:=h;obtain⟨m,hn,hl⟩:=I.loc;obtain⟨u,r,l⟩:=hl i x v hN e hv;have fin:EP X pins σ Q u s:=⟨v,H,I,r,h⟩
 rcases l with⟨hk,hm⟩|⟨hk,c,hc,Js⟩
 ·exact wpAny_Name (wpAny_loadName_local I.ok.kind hk hn hm fin) hd
 ·rcases hk with hk|hk
  ·exact wpAny_Name (wpAny_loadName_cell I.ok.kind hk hc Js fin) hd
  ·exact wpAny_Name (wpAny_loadName_free I.ok.kind hk hc Js fin Ia) hd
theorem ar {i j pos}:PE X (.Constant (.int i) j pos) (tC (.int i)):=λ_ _ _ H _ I h=>wpAny_Constant_int ⟨.int i,H,I.tok _,⟨_,rfl⟩,h⟩
theorem dR {b j pos}:PE X (.Constant (.bool b) j pos) (tC (.bl b)):=λ_ _ _ H _ I h=>Constant_bool ⟨.bl b,H,I,rfl,h⟩
theorem gD {j pos}:PE X (.Constant .none j pos) (tC .non):=λ_ _ _ H _ I h=>Constant_none ⟨.non,H,I,rfl,h⟩
theorem gr {x j pos}:PE X (.Constant (.str x) j pos) (tC (.str x)):=λ_ _ _ H _ I h=>Calls.Constant_str ⟨.str x,H,I.tok _,⟨_,rfl⟩,h⟩
def Gl (X:Cx)(x:Str):Prop:=X.env.kindOf x=some .globalImplicit
theorem ia {E:yf}{pos:Pos}{Q:yf}(I:Inv X pins σ H s)(hg:Gl X x)(hm:X.mg x=some u)(h:Q u s)
 (hd:(x==("__debug__":Str))=false:=by decide):wpAny (model X.prog X.w) X.A (eval (.Name x pos) X.env) Q E s :=
 Calls.Name_function_global I.ok.kind hg (Calls.loadGlobal_global (by rw[I.ok.glob];exact I.mod.glob.keeps I.bk) hm h) hd
theorem dm {E:yf}{pos:Pos}{Q:yf}(I:Inv X pins σ H s)(hg:Gl X x)(hm:X.mg x=none)(hv:bootBuiltins x=some u)(h:Q u s)
 (hn:x ≠ "__name__":=by decide)(hd:(x==("__debug__":Str))=false:=by decide):wpAny (model X.prog X.w) X.A (eval (.Name x pos) X.env) Q E s:=by
 obtain⟨mb,h1,h2⟩:=I.mod.blt;exact Calls.Name_function_global I.ok.kind hg (Calls.loadGlobal_builtin (by rw[I.ok.glob];exact I.mod.glob.keeps I.bk) hm (by rw[I.ok.blt];exact h1.keeps I.bk) ((h2 x hn).trans hv) h) hd
theorem c5 {pos:Pos}(hg:Gl X x)(hm:X.mg x=some u)(r:aD v u)(hd:(x==("__debug__":Str))=false:=by decide):PE X (.Name x pos) (tC v):=
 λ_ _ _ H _ I h=>ia I hg hm ⟨v,H,I,r,h⟩ hd
theorem cA {pos:Pos}(hg:Gl X x)(hm:X.mg x=none)(hv:bootBuiltins x=some u)(r:aD v u)(hn:x ≠ "__name__":=by decide)(hd:(x==("__debug__":Str))=false:=by decide):PE X (.Name x pos) (tC v):=
 λ_ _ _ H _ I h=>dm I hg hm hv ⟨v,H,I,r,h⟩ hn hd
variable {a b:Expr}{ta tb:TE}{pos:Pos}
def PC (X:Cx)(op:CmpOp)(a b:Expr)(t:TE):Prop :=
 ∀(pins:List (Addr×Obj))(s:CW)(σ:St)(H:Hp)(Q:VK),Inv X pins σ H s->t σ H Q →
  wpAny (model X.prog X.w) X.A (eval a X.env) (λv s₁=>wpAny (model X.prog X.w) X.A (eval b X.env) (λu s₂=>wpAny (model X.prog X.w) X.A (compareOp op v u) (EP X pins σ Q) X.xe s₂) X.xe s₁) X.xe s
def tB (t:TE):TT:=λσ H Q=>t σ H λx H1=>∃c,x=.bl c/\Q c H1
theorem Cls {t:TE}(h:PC X op a b t)(h1:behindInMarks op b=false:=by first|exact Nk _ (by decide) (by decide)|rfl):PT X (.Compare a [op] [b] pos) (tB t):=by
 intro pins s σ H Q I hw;refine wpAny_isTrue_Compare1 (bu (h pins s σ H _ I hw) λv s1 h1=>bu h1 λu s2 h2=>bu h2 λc s3 z'=>?_) h1;obtain⟨x,H1,I1,r1,q1⟩:=z';obtain⟨d,rfl,q⟩:=q1
 cases r1
 exact wpAny_truthy_bool ⟨H1,I1,q⟩
theorem bD {t:TE}(h:PE X e t)(he:∀eG,isTrue e X.env eG=(do let v <-eG;standAt e.pos;holding [v] (truthy v)):=by intro _;rfl):PT X e (tB t):=by
 intro pins s σ H Q I hw;refine isTrue_plain (bu (h pins s σ H _ I hw) λv s1 z'=>?_) (he _);obtain⟨x,H1,I1,r1,q1⟩:=z';obtain⟨d,rfl,q⟩:=q1
 cases r1
 exact wpAny_truthy_bool ⟨H1,I1,q⟩
variable {tA Q8:TT}{rest:qk}
def EB (t u:TT):TT:=λσ H Q=>t σ H λc H1=>if c=true then u σ H1 Q else Q false H1
def aaD (t u:TT):TT:=λσ H Q=>t σ H λc H1=>if c=true then Q true H1 else u σ H1 Q
def abI (t:TT):TT:=λσ H Q=>t σ H λc H1=>Q (!c) H1
theorem oP (ha:PT X a tA):PW X (.BoolOp .And [a] pos) tA:=by
 intro wh pins s σ H Q I h;refine isTrue_and (bu (ha pins s σ H Q I h) λc s1 e=>?_)
 cases c with
 |true=>exact isTrue_and_nil e
 |false=>exact e
theorem cN (ha:PT X a tA):PW X (.BoolOp .Or [a] pos) tA:=by
 intro wh pins s σ H Q I h;refine isTrue_or (bu (ha pins s σ H Q I h) λc s1 e=>?_)
 cases c with
 |false=>exact isTrue_or_nil e
 |true=>exact e
theorem oz (ha:PT X a tA)(hb:PW X (.BoolOp .And (b::rest) pos) Q8):PW X (.BoolOp .And (a::b::rest) pos) (EB tA Q8):=by
 intro wh pins s σ H Q I h;refine isTrue_and (bu (ha pins s σ H _ I h) λc s1 z'=>?_);obtain⟨H1,I1,q1⟩:=z'
 cases c with
 |true=>exact hb wh pins s1 σ H1 Q I1 q1
 |false=>exact⟨H1,I1,q1⟩
theorem dO (ha:PT X a tA)(hb:PW X (.BoolOp .Or (b::rest) pos) Q8):PW X (.BoolOp .Or (a::b::rest) pos) (aaD tA Q8):=by
 intro wh pins s σ H Q I h;refine isTrue_or (bu (ha pins s σ H _ I h) λc s1 z'=>?_);obtain⟨H1,I1,q1⟩:=z'
 cases c with
 |true=>exact⟨H1,I1,q1⟩
 |false=>exact hb wh pins s1 σ H1 Q I1 q1
theorem bJ (ha:PT X a tA):PT X (.UnaryOp .Not a pos) (abI tA):=by
 intro pins s σ H Q I h;exact isTrue_not (ha pins s σ H (λc H1=>Q (!c) H1) I h)
def abz (ta tb:TE):TE:=λσ H Q=>ta σ H λx H1=>∃c,x=.bl c/\if c=true then tb σ H1 Q else Q (.bl false) H1
def aaH (ta:TE):TE:=λσ H Q=>ta σ H λx H1=>∃c,x=.bl c/\Q (.bl (!c)) H1
theorem gX {op}{t:TE}(h:PE X a t):PE X (.BoolOp op [a] pos) t:=λpins s σ H Q I hw=>BoolOp_one (h pins s σ H Q I hw)
theorem eU (ha:PE X a ta)(hb:PE X (.BoolOp .And (b::rest) pos) tb):PE X (.BoolOp .And (a::b::rest) pos) (abz ta tb):=by
 intro pins s σ H Q I h;refine BoolOp_and (bu (ha pins s σ H _ I h) λv s1 z'=>?_);obtain⟨x,H1,I1,r1,q1⟩:=z';obtain⟨c,rfl,q1⟩:=q1
 cases r1
 refine wpAny_truthy_bool ?_
 cases c with
 |true=>exact hb pins s1 σ H1 Q I1 q1
 |false=>exact⟨.bl false,H1,I1,rfl,q1⟩
theorem CXT (ha:PE X a ta):PE X (.UnaryOp .Not a pos) (aaH ta):=by
 intro pins s σ H Q I h;refine UnaryOp_ (bu (ha pins s σ H _ I h) λv s1 z'=>?_);obtain⟨x,H1,I1,r1,q1⟩:=z';obtain⟨c,rfl,q1⟩:=q1
 cases r1
 exact not_of (wpAny_truthy_bool ⟨.bl (!c),H1,I1,rfl,q1⟩)
end
def aO (K:PySem.W.Frag)(H:Hp)(a:Addr)(xs:List V):Prop :=
 Rd H a (.lst xs) \/
  ∃(o:Obj)(its:vd)(n:Nat),K.lookup a=some o/\o.cls=.type "list"/\o.dict=none/\o.data=.seq its n/\its.size<=sizeLine/\aK xs its.toList
def bw (K:PySem.W.Frag)(H:Hp)(a:Addr)(xs:List V):Prop :=
 Rd H a (.tup xs) \/
  ∃(o:Obj)(its:vd)(n:Nat),K.lookup a=some o/\o.cls=.type "tuple"/\o.data=.seq its n/\its.size<=sizeLine/\aK xs its.toList
def aaJ:Value->Option V
 | .none=>some .non
 | .bool b=>some (.bl b)
 | .int i _=>some (.int i)
 | .str x _=>some (.str x)
 | .bytes b _=>some (.byt b)
 | .float b _=>some (.flt b)
 | .ref a=>some (.ref a)
 | .type n=>some (.ty n)
 |_=>none
theorem aD.abs {x:V}(r:aD x u):aaJ u=some x:=by
 cases x with
 |non=>cases r;rfl
 |bl _=>cases r;rfl
 |int _=>obtain⟨t,rfl⟩:=r;rfl
 |str _=>obtain⟨t,rfl⟩:=r;rfl
 |byt _=>obtain⟨t,rfl⟩:=r;rfl
 |flt _=>obtain⟨t,rfl⟩:=r;rfl
 |ref _=>cases r;rfl
 |ty _=>cases r;rfl
variable {y:V}
theorem aD.inj {x:V}(r:aD x u)(q:aD y u):x=y:=Option.some.inj (r.abs.symm.trans q.abs)
theorem aK.inj:∀{xs ys:List V}{us:oN},aK xs us->aK ys us->xs=ys
 |_,_,_,.nil,.nil=>rfl
 |_,_,_,.cons r t,.cons r' t'=>by rw[r.inj r',aK.inj t t']
variable {K:PySem.W.Frag}
section
variable {X:Cx}{pins:List (Addr×Obj)}{σ:St}{H:Hp}{s:CW}{a:Addr}{xs ys:List V}
theorem aO.of (h:H a=some (.lst xs)):aO K H a xs:=.inl (.inl h)
theorem bw.of (h:H a=some (.tup xs)):bw K H a xs:=.inl (.inl h)
theorem Inv.list (I:Inv X pins σ H s)(h:aO X.K H a xs):∃its:List Value,aK xs its/\PlainL s.heap a its.toArray/\xs.length<=sizeLine:=by
 rcases h with h|⟨o,its,n,hk,hc,hd,hs,hz,r⟩
 ·obtain⟨z,its,n,r,e⟩:=h.ok I.hok;exact⟨its,r,⟨_,n,e,rfl,rfl,rfl⟩,z⟩
 ·refine⟨its.toList,r,⟨o,n,I.kIn a o hk,hc,hd,by simpa using hs⟩,?_⟩;have e:=r.length;simp only[Array.length_toList] at e;omega
theorem Inv.tuple (I:Inv X pins σ H s)(h:bw X.K H a xs):∃its:List Value,aK xs its/\IsTup s.heap a its.toArray/\xs.length<=sizeLine:=by
 rcases h with h|⟨o,its,n,hk,hc,hs,hz,r⟩
 ·obtain⟨z,its,r,p⟩:=h.ok I.hok;exact⟨its,r,p,z⟩
 ·refine⟨its.toList,r,⟨o,I.kIn a o hk,hc,n,by simpa using hs⟩,?_⟩;have e:=r.length;simp only[Array.length_toList] at e;omega
theorem Inv.aaQ (I:Inv X pins σ H s)(h:aO X.K H a xs)(h':aO X.K H a ys):xs=ys:=by
 obtain⟨its,r,⟨o,n,e,_,_,d⟩,_⟩:=I.list h;obtain⟨its',r',⟨o',n',e',_,_,d'⟩,_⟩:=I.list h';rw[e] at e';cases e';rw[d] at d'
 injection d' with d1 _
 have:its=its':=by simpa using congrArg Array.toList d1
 subst this;exact r.inj r'
theorem Inv.aaB (I:Inv X pins σ H s)(h:bw X.K H a xs)(h':bw X.K H a ys):xs=ys:=by
 obtain⟨its,r,⟨o,e,_,n,d⟩,_⟩:=I.tuple h;obtain⟨its',r',⟨o',e',_,n',d'⟩,_⟩:=I.tuple h';rw[e] at e';cases e';rw[d] at d'
 injection d' with d1 _
 have:its=its':=by simpa using congrArg Array.toList d1
 subst this;exact r.inj r'
end
abbrev Cx.aaV (X:Cx)(E:yf):Cx:={X with xe:=E}
abbrev Cx.nox (X:Cx):Cx:=X.aaV λ_ _=>False
theorem Cx.Ok.aaV (ok:X.Ok)(E:yf):(X.aaV E).Ok :=
 ⟨ok.mod,ok.kind,ok.glob,ok.blt,ok.above,ok.inj,ok.has,ok.cab,ok.hd,ok.frames,ok.stk,ok.exf,ok.bs,ok.bsz,ok.abq,ok.abB,ok.aav,ok.frf⟩
theorem Cx.Ok.aaz {E:yf}(ok:(X.aaV E).Ok):X.Ok :=
 ⟨ok.mod,ok.kind,ok.glob,ok.blt,ok.above,ok.inj,ok.has,ok.cab,ok.hd,ok.frames,ok.stk,ok.exf,ok.bs,ok.bsz,ok.abq,ok.abB,ok.aav,ok.frf⟩
section
variable {X:Cx}{pins:List (Addr×Obj)}{σ:St}{H:Hp}{s:CW}{E:yf}
theorem Inv.aaV (I:Inv X pins σ H s)(E:yf):Inv (X.aaV E) pins σ H s:=⟨I.ok.aaV E,I.os,I.bare,I.base,I.loc,I.cell,I.free,I.aar,I.pin,I.hok,I.len⟩
theorem Inv.aaz (I:Inv (X.aaV E) pins σ H s):Inv X pins σ H s:=⟨I.ok.aaz,I.os,I.bare,I.base,I.loc,I.cell,I.free,I.aar,I.pin,I.hok,I.len⟩
theorem SP.aaz {D:Ends}{f:Flow}{s':CW}(h:SP (X.aaV E) pins D f s'):SP X pins D f s':=by
 cases f with
 |next=>obtain⟨σ',H',I,q⟩:=h;exact⟨σ',H',I.aaz,q⟩
 |brk=>obtain⟨σ',H',I,q⟩:=h;exact⟨σ',H',I.aaz,q⟩
 |cont=>obtain⟨σ',H',I,q⟩:=h;exact⟨σ',H',I.aaz,q⟩
 |ret u=>obtain⟨v,σ',H',I,r,q⟩:=h;exact⟨v,σ',H',I.aaz,r,q⟩
theorem rX.nox {st:List Stmt}{t:TS}(h:rX X.nox st t):rX X st t:=λpins s σ H D I hw =>
 wpAny_mono (h pins s σ H D (I.aaV _) hw) (λ_ _ q=>q.aaz) λ_ _ z=>False.elim z
end
section
variable {X:Cx}{st:Stmt}{rest:List Stmt}{t u:TS}{e:Expr}{te:TE}{pos:Pos}
def wW:TS:=λD σ H=>D.nx σ H
def xI (t u:TS):TS:=λD σ H=>t {D with nx:=u D} σ H
theorem aE:rX X [] wW:=λ_ _ σ H _ I h=>wpAny_execs_nil ⟨σ,H,I,h⟩
theorem aj (h1:PS X st t)(h2:rX X rest u):rX X (st::rest) (xI t u):=by
 intro pins s σ H D I h;refine wpAny_execs_cons (bu (h1 pins s σ H {D with nx:=u D} I h) λf s1 q=>?_)
 cases f with
 |next =>
  obtain⟨σ',H',I',q⟩:=q;exact h2 pins s1 σ' H' D I' q
 |ret v=>exact q
 |brk=>exact q
 |cont=>exact q
theorem ao (h1:PS X st t):rX X [st] t:=by
 intro pins s σ H D I h;refine wpAny_execs_cons (bu (h1 pins s σ H D I h) λf s1 q=>?_)
 cases f with
 |next=>exact wpAny_execs_nil q
 |ret v=>exact q
 |brk=>exact q
 |cont=>exact q
theorem Inv.quiet (I:Inv X pins σ H s):interactive X.env=false:=by simp[interactive,I.ok.kind]
def aaK (te:TE):TS:=λD σ H=>te σ H λ_ H1=>D.nx σ H1
theorem pq (he:PE X e te)(hs:swapsWith e none pos.line X.env=pure false:=by rfl):PS X (.Expr e pos) (aaK te):=by
 intro pins s σ H D I h;exact wpAny_Expr_any (bu (he pins s σ H _ I h) λv s1 ⟨x,H1,I1,r1,q1⟩=>⟨σ,H1,I1,q1⟩) I.quiet hs
def Bo (te:TE):TS:=λD σ H=>te σ H D.rt
theorem aB (he:PE X e te):PS X (.Return (some e) pos) (Bo te):=by
 intro pins s σ H D I h;exact wpAny_Return_some (bu (he pins s σ H _ I h) λv s1 ⟨x,H1,I1,r1,q1⟩=>⟨x,σ,H1,I1,r1,q1⟩)
def xc (c:TT)(t u:TS):TS:=λD σ H=>c σ H λb H1=>if b=true then t D σ H1 else u D σ H1
theorem ba {c:Expr}{a b:List Stmt}{tc:TT}(hc:PT X c tc)(ha:rX X a t)(hb:rX X b u):PS X (.If c a b pos) (xc tc t u):=by
 intro pins s σ H D I h;refine wpAny_If (bu (hc pins s σ H _ I h) λd s1 z'=>?_);obtain⟨H1,I1,q1⟩:=z'
 cases d with
 |true=>exact ha pins s1 σ H1 D I1 q1
 |false=>exact hb pins s1 σ H1 D I1 q1
def abQ:TS:=λ_ _ _=>False
theorem qj:PS X st abQ:=λ_ _ _ _ _ _ h=>h.elim
end
abbrev TG:=V->St->Hp->(St->Hp->Prop)->Prop
abbrev wm:=List V->St->Hp->(St->Hp->Prop)->Prop
def PG (X:Cx)(target:Expr)(t:TG):Prop :=
 ∀(pins:List (Addr×Obj))(s:CW)(σ:St)(H:Hp)(v:V)(u:Value)(Q:St->Hp->Prop),Inv X pins σ H s->aD v u->t v σ H Q →
  wpAny (model X.prog X.w) X.A (assign target X.env u) (λ_ s'=>∃σ' H',Inv X pins σ' H' s'/\Q σ' H') X.xe s
def E3 (X:Cx)(ts:qk)(t:wm):Prop :=
 ∀(pins:List (Addr×Obj))(s:CW)(σ:St)(H:Hp)(vs:List V)(us:oN)(Q:St->Hp->Prop),Inv X pins σ H s->aK vs us->t vs σ H Q →
  wpAny (model X.prog X.w) X.A (assignInOrder ((assignEach ts X.env).map (·.2)) us) (λ_ s'=>∃σ' H',Inv X pins σ' H' s'/\Q σ' H') X.xe s
abbrev Cm:=V->V->V->Hp->(Hp->Prop)->Prop
def D5 (X:Cx)(t:Cm):Prop :=
 ∀(pins:List (Addr×Obj))(s:CW)(σ:St)(H:Hp)(o i v:V)(ov iv u:Value)(Q:Hp->Prop),Inv X pins σ H s->aD o ov->aD i iv->aD v u->t o i v H Q →
  wpAny (model X.prog X.w) X.A (setItem ov iv u) (λ_ s'=>∃H',Inv X pins σ H' s'/\Q H') X.xe s
variable {k:Nat}{tg:Expr}{g:TG}{ta:TA}{body:List Stmt}{tb:TS}
section
variable {X:Cx}{pos:Pos}
def bA (i:Nat):TG:=λv σ H Q=>Q (σ.set i (some v)) H
theorem aG {i:Nat}(hN:X.N.Nodup)(hi:X.N[i]?=some x)(hx:Er X.env.scope x)(hf:X.fn x=true\/X.env.scope.names.lookup x=some .local:=by first|exact .inl rfl|exact .inr rfl|assumption):PG X (.Name x pos) (bA i):=by
 intro pins s σ H v u Q I r h;exact wpAny_assign_Name (jh I hN hi hx r (λs' I'=>⟨_,H,I',h⟩) hf)
def As:wm:=λvs σ H Q=>vs=[]/\Q σ H
def eQ (t:TG)(u:wm):wm:=λvs σ H Q=>∃v r,vs=v::r/\t v σ H λσ' H'=>u r σ' H' Q
theorem dC:E3 X [] As:=by
 intro pins s σ H vs us Q I r h;obtain⟨e,h⟩:=h;subst e
 cases r
 exact assignInOrder_nil ⟨σ,H,I,h⟩
theorem bh {es:qk}{t:TG}{u:wm}(h1:PG X e t)(h2:E3 X es u)
 (hs:(assignEach (e::es) X.env).map (·.2)=assign e X.env::(assignEach es X.env).map (·.2):=by rfl):E3 X (e::es) (eQ t u):=by
 intro pins s σ H vs us Q I r h;obtain⟨v,vr,e1,h⟩:=h;subst e1
 cases r with
 |cons r rr =>
  rw[hs];refine assignInOrder_cons (bu (h1 pins s σ H _ _ _ I r h) λ_ s1 z'=>?_);obtain⟨σ1,H1,I1,q1⟩:=z';exact h2 pins s1 σ1 H1 _ _ Q I1 rr q1
def pY (K:PySem.W.Frag)(n:Nat)(t:wm):TG:=λv σ H Q=>∃a xs,v=.ref a/\bw K H a xs/\xs.length=n/\t xs σ H Q
theorem fG {es:qk}{t:wm}{n:Nat}(hc:X.calm=true)(h:E3 X es t)
 (hn:(assignEach es X.env).length=n:=by rfl)(Kt:(assignEach es X.env).findIdx? (·.1)=none:=by rfl):PG X (.Tuple es k pos) (pY X.K n t):=by
 intro pins s σ H v u Q I r hw;obtain⟨a,xs,e1,hq,hl,hw⟩:=hw;subst e1
 cases r
 obtain⟨its,rv,ht,hz⟩:=I.tuple hq;refine assign_Tuple_tuple (I.ok.hd hc) ht (by simp[hn,<-hl,rv.length]) Kt λh' hx=>?_;have I1:Inv X pins σ H {s with heap:=h'}:=I.kept (t':=s.toks) λb o e=>hx b o (Nat.ne_of_lt (Heap.lt_size e)) e;exact h pins _ σ H xs _ Q I1 (by simpa using rv) hw
def aaL (to ti:TE)(t:Cm):TG:=λv σ H Q=>to σ H λo H1=>ti σ H1 λi H2=>t o i v H2 λH3=>Q σ H3
theorem yO {o i:Expr}{to ti:TE}{t:Cm}(ho:PE X o to)(hi:PE X i ti)(hs:D5 X t)
 (ha:∀v,assign (.Subscript o i pos) X.env v=(do
  let ov <-holding [v] (eval o X.env)
  let iv <-holding [v,ov] (eval i X.env)
  standAt pos
  holding [v,ov,iv] (setItem ov iv v)
  release [v,ov,iv] []):=by intro _;rfl):PG X (.Subscript o i pos) (aaL to ti t):=by
 intro pins s σ H v u Q I r h;rw[ha];refine wpAny_bind (wpAny_holding (bu (ho pins s σ H _ I h) λov s1 z'=>?_));obtain⟨x,H1,I1,r1,q1⟩:=z';refine wpAny_bind (wpAny_holding (bu (hi pins s1 σ H1 _ I1 q1) λiv s2 z'=>?_));obtain⟨y,H2,I2,r2,q2⟩:=z';refine wpAny_bind (wpAny_standAt (wpAny_bind (wpAny_holding (bu (hs pins s2 σ H2 x y v ov iv u _ I2 r1 r2 r q2) λ_ s3 z'=>?_))));obtain⟨H3,I3,q3⟩:=z';exact wpAny_release ⟨σ,H3,I3,q3⟩
def vF (te:TE)(g:TG):TS:=λD σ H=>te σ H λx H1=>g x σ H1 D.nx
theorem tj {te:TE}(he:PE X e te)(hg:PG X tg g)(hs:swapsWithSole [tg] e pos.line X.env=pure false:=by rfl)(hw:swappedStores [tg] e X.env=pure none:=by rfl)
 (h1:(assignEach [tg] X.env).map (·.2)=[assign tg X.env]:=by rfl):PS X (.Assign [tg] e pos) (vF te g):=by
 intro pins s σ H D I h;refine wpAny_Assign_stores (bu (he pins s σ H _ I h) λv s1 z'=>?_) hs hw;obtain⟨x,H1,I1,r1,q1⟩:=z';rw[h1];exact bu (hg pins s1 σ H1 x v _ I1 r1 q1) λ_ s2 q=>q
theorem aM {i:Nat}{x:Str}{e:Expr}{te:TE}{pos':Pos}(hN:X.N.Nodup)(hi:X.N[i]?=some x)(hx:Er X.env.scope x)(he:PE X e te)(hs:swapsWith e (some (.Name x pos')) pos.line X.env=pure false:=by rfl)(hf:X.fn x=true\/X.env.scope.names.lookup x=some .local:=by first|exact .inl rfl|exact .inr rfl|assumption):
 PS X (.Assign [.Name x pos'] e pos) (vF te (bA i)):=by
 intro pins s σ H D I h;refine wpAny_Assign_Name (bu (he pins s σ H _ I h) λv s1 z'=>?_) hs;obtain⟨y,H1,I1,r1,q1⟩:=z';exact jh I1 hN hi hx r1 (λs2 I2=>⟨_,H1,I2,q1⟩) hf
def aaM (i j:Nat)(ta:TA):TS:=λD σ H=>ta σ H λvs H1=>∃v w,vs=[v,w]/\D.nx ((σ.set i (some v)).set j (some w)) H1
theorem yU {i j:Nat}{y:Str}{a b:Expr}{px py pt:Pos} {kt k2 Sg}(hc:X.calm=true)(hN:X.N.Nodup)(hi:X.N[i]?=some x)(hj:X.N[j]?=some y)(HW:i≠j)
 (hx:X.env.scope.names.lookup x=some .local)(hy:X.env.scope.names.lookup y=some .local)(ha:PA X [a,b] ta)
 (hw:swappedStores [.Tuple [.Name x px,.Name y py] kt pt] (.Tuple [a,b] k2 Sg) X.env=pure (some [x,y]))
 (hs:swapsWithSole [.Tuple [.Name x px,.Name y py] kt pt] (.Tuple [a,b] k2 Sg) pos.line X.env=pure false:=by rfl):
 PS X (.Assign [.Tuple [.Name x px,.Name y py] kt pt] (.Tuple [a,b] k2 Sg) pos) (aaM i j ta):=by
 intro pins s σ H D I h;rw[exec_Assign_arm];refine wpAny_bind (wpAny_standAt ?_);rw[hs];refine wpAny_bind (wpAny_pure ?_);rw[if_neg (by decide)];refine wpAny_bind (Tuple_ (bu (ha _ pins s σ H _ I h) λus s1 z'=>?_));obtain⟨vs,H1,I1,r1,q1⟩:=z';obtain⟨v,w,e1,q1⟩:=q1;subst e1
 obtain⟨u1,u2,rfl,rv,IA⟩:∃u1 u2,us=[u1,u2]/\aD v u1/\aD w u2:=by
  cases r1 with
  |cons p q =>
   cases q with
   |cons p' q' =>
    cases q'
    exact⟨_,_,rfl,p,p'⟩
 refine wpAny_newObj_type ?_ nj;have I2:Inv X pins σ H1 {s1 with heap:=s1.heap.push {cls:=.type "tuple",data:=.seq [u1,u2].toArray} }:=I1.kept (t':=s1.toks) λb o e=>Heap.get?_push_of_some _ e;rw[hw];refine wpAny_bind (wpAny_pure ?_);show wpAny (model X.prog X.w) X.A (do rule "assign.swapped-stores";let items <-unpackItems (.ref s1.heap.objs.size) 2 none;assignInOrder [λv=>bindName X.env y v,λv=>bindName X.env x v] items.reverse;pure Flow.next) _ _ _;refine wpAny_bind (wpAny_rule (wpAny_bind (unpackItems_tuple (items:=#[u1,u2]) (I.ok.hd hc) (IsTup.new s1.heap _) λh' IW=>?_)));have I3:=I2.kept (h':=h') (t':=s1.toks) λb o e=>IW b o (Nat.ne_of_lt (Heap.lt_size e)) e;show wpAny _ _ (assignInOrder [λv=>bindName X.env y v,λv=>bindName X.env x v] [u2,u1]>>=λ_=>pure Flow.next) _ _ _;refine wpAny_bind (assignInOrder_cons (wpAny_bindName (jh I3 hN hj (.inl hy) IA (λs2 I4=>?_) (.inr hy))));refine assignInOrder_cons (wpAny_bindName (jh I4 hN hi (.inl hx) rv (λs3 I5=>assignInOrder_nil (wpAny_pure ?_)) (.inr hx)));rw[List.set_comm _ _ (Ne.symm HW)] at I5;exact⟨_,H1,I5,q1⟩
def aaN (c:TT)(tb:TS):TS:=λD σ H=>∃W:Nat->St->Hp->Prop,(∃m,W m σ H)/\∀m σ H,W m σ H →
 c σ H λb H1=>if b=true then ∃N:St->Hp->Prop,(∀σ' H',N σ' H'->∃m',m'<m/\W m' σ' H')/\tb {D with nx:=N,ct:=N,bk:=D.nx} σ H1 else D.nx σ H1
theorem qQ {c:Expr}{tc:TT}(hp:PassesOwn (model X.prog X.w) X.A X.env X.xe)(hc:PT X c tc)(hb:rX X body tb):PS X (.While c body [] pos) (aaN tc tb):=by
 intro pins s σ H D I h;obtain⟨W,⟨m0,w0⟩,turn⟩:=h;refine wpAny_While (codeAny_whileLoop (λn s'=>∃σ' H',Inv X pins σ' H' s'/\W n σ' H') ?_ m0 ⟨σ,H,I,w0⟩);rintro n s1 ⟨σ1,H1,I1,w1⟩;refine wpAny_passesOwn hp (bu (hc pins s1 σ1 H1 _ I1 (turn n σ1 H1 w1)) λb s2 z'=>?_);obtain⟨H2,I2,q2⟩:=z'
 cases b with
 |true =>
  obtain⟨N,hN,q2⟩:=q2;rw[if_pos rfl];refine wpAny_passesOwn hp (bu (hb pins s2 σ1 H2 _ I2 q2) λf s3 q3=>?_)
  cases f with
  |next =>
   obtain⟨σ3,H3,I3,n3⟩:=q3;obtain⟨m',hm,w3⟩:=hN σ3 H3 n3;exact⟨m',hm,σ3,H3,I3,w3⟩
  |cont =>
   obtain⟨σ3,H3,I3,n3⟩:=q3;obtain⟨m',hm,w3⟩:=hN σ3 H3 n3;exact⟨m',hm,σ3,H3,I3,w3⟩
  |brk=>exact q3
  |ret v=>exact q3
 |false =>
  rw[if_neg Bool.false_ne_true];exact wpAny_execs_nil ⟨σ1,H2,I2,q2⟩
end
structure It where
 go:Nat->Hp->Prop
 yld:Nat->Hp->V->Hp->Prop
 stop:Nat->Hp->Prop
def df (X:Cx)(pins:List (Addr×Obj))(H:Hp)(b:Addr):Prop :=
 H b=none/\b≠X.env.locals/\b∉X.fs/\(b∈X.ex\/X.s₀.heap.objs.size<=b)/\(∀x c,X.env.cells.lookup x=some c->c≠b)/\∀p∈X.pn++pins,p.1≠b
variable {H':Hp}
theorem Inv.aaW (I:Inv X pins σ H s)(hb:s.heap.objs.size<=b)(hn:H' b=none):df X pins H' b:=by
 refine⟨hn,Nat.ne_of_gt (Nat.lt_of_lt_of_le I.lt hb),I.ab4 hb,.inr (Nat.le_trans I.sz hb),λx c e z=>?_,λp hp z=>?_⟩
 ·obtain⟨v,q⟩:=I.cell x c e;exact absurd (Nat.lt_of_lt_of_le q.lt (by rw[z];exact hb)) (Nat.lt_irrefl _)
 ·exact absurd (Nat.lt_of_lt_of_le (Heap.lt_size (I.pin p hp).1) (by rw[z];exact hb)) (Nat.lt_irrefl _)
structure Turn (P:zr)(w:World)(K:PySem.W.Frag)(tg:Expr)(J:It)(fp:List Addr)(it:Addr)(tn:Nat->Heap->Prop):Prop where
 mem:it∈fp
 obj:∀i h,tn i h->∀b∈fp,∃o,h.get? b=some o/\∀v,o.data≠.cell v
 keep:∀i h h',tn i h->(∀b∈fp,∀o,h.get? b=some o->h'.get? b=some o)->tn i h'
 item:∀(X:Cx),X.prog=P->X.w=w->X.K=K->X.calm=true->∀(i:Nat)(pins:List (Addr×Obj))(s:CW)(σ:St)(H:Hp)(E:yf),Inv X pins σ H s->(∀b∈fp,df X pins H b)->tn i s.heap->J.go i H →
  wpAny (model P w) X.A (pyNext (.ref it)) (λr s1=>∃u,r=some u /\
   wpAny (model P w) X.A (letOwnedTupleGo tg (.ref it) u) (λ_ s2=>∃x H',Inv X pins σ H' s2/\aD x u/\J.yld i H x H'/\tn (i+1) s2.heap/\∀b∈fp,H' b=none) E s1) E s
 done:∀(X:Cx),X.prog=P->X.w=w->X.K=K->X.calm=true->∀(i:Nat)(pins:List (Addr×Obj))(s:CW)(σ:St)(H:Hp)(E:yf),Inv X pins σ H s->(∀b∈fp,df X pins H b)->tn i s.heap->J.stop i H →
  wpAny (model P w) X.A (pyNext (.ref it)) (λr s1=>r=none/\Inv X pins σ H s1) E s
 self:∀(A:Around)(i:Nat)(s:CW)(Q:yf)(E:yf),tn i s.heap->Q (.ref it) s->wpAny (model P w) A (pyIter (.ref it)) Q E s
abbrev TI:=St->Hp->(It->Hp->Prop)->Prop
def GA (X:Cx)(pins:List (Addr×Obj))(σ:St)(tg:Expr)(R:It->Hp->Prop)(Q9:Value)(s2:CW):Prop :=
 ∃(it:Addr)(fp:List Addr)(tn:Nat->Heap->Prop)(J:It)(H':Hp),Q9=.ref it/\Inv X pins σ H' s2/\Turn X.prog X.w X.K tg J fp it tn/\tn 0 s2.heap/\(∀b∈fp,df X pins H' b)/\R J H'
def PI (X:Cx)(tg iter:Expr)(wi:TI):Prop :=
 ∀(pins:List (Addr×Obj))(s:CW)(σ:St)(H:Hp)(R:It->Hp->Prop),Inv X pins σ H s->wi σ H R →
  wpAny (model X.prog X.w) X.A (eval iter X.env) (λv s1=>wpAny (model X.prog X.w) X.A (pyIter v) (GA X pins σ tg R) X.xe s1) X.xe s
theorem uE {E:yf}{s:CW}{it:Addr}{o:Obj}{n:String}{vs:vd}{Q:Unit->Shared->Prop}(ho:s.heap.get? it=some o)(hc:o.cls=.type n)(hd:o.data=.fields vs)
 (hn:["enumerate","zip","dict_itemiterator","dict_reverseitemiterator","odict_iterator","itertools.zip_longest","itertools.pairwise"].contains n=false)(hQ:Q () s):wpAny M A (letOwnedTupleGo tg (.ref it) u) Q E s:=by
 unfold letOwnedTupleGo
 cases tg <;> first
  |exact wpAny_pure hQ
  |(cases u <;> first
   |exact wpAny_pure hQ
   |(refine wpAny_bind (wpAny_load ho ?_)
     rw[hc,hd];show wpAny M A (if(["enumerate","zip","dict_itemiterator","dict_reverseitemiterator","odict_iterator","itertools.zip_longest","itertools.pairwise"].contains n&&vs[0]?==some (rawInt _))=true then _ else _) Q E s;rw[if_neg (by intro h;rw[hn,Bool.false_and] at h;cases h)]
     exact wpAny_pure hQ))
def zD (K:PySem.W.Frag)(a:Addr):It :=
 ⟨λi H=>∃xs x,aO K H a xs/\xs[i]?=some x,λi H x H'=>H'=H/\∀xs,aO K H a xs->xs[i]?=some x,λi H=>∃xs,aO K H a xs/\xs.length<=i⟩
def FN (K:PySem.W.Frag)(a:Addr):It :=
 ⟨λi H=>∃xs x,bw K H a xs/\xs[i]?=some x,λi H x H'=>H'=H/\∀xs,bw K H a xs->xs[i]?=some x,λi H=>∃xs,bw K H a xs/\xs.length<=i⟩
def BI (lo:Int)(n:Nat):It:=⟨λi _=>i<n,λi H x H'=>H'=H/\x=.int (lo+i),λi _=>n<=i⟩
theorem TmX (a it:Addr):Turn P w K tg (zD K a) [it] it (λi h=>h.IsListIter it a i) where
 mem:=by simp
 obj:=λi h st b hb=>by
  have e:b=it:=by simpa using hb
  subst e;obtain⟨o,e,c,d⟩:=st;exact⟨o,e,λv z=>by rw[d] at z;cases z⟩
 keep:=λi h h' st k=>st.at λo e=>k it (by simp) o e
 item:=by
  intro X hP hw hK hc i pins s σ H E I hf st hg;subst hP hw hK;obtain⟨xs,x,hq,hx⟩:=hg;obtain⟨its,rv,p,hz⟩:=I.list hq;obtain⟨u,hu,ru⟩:=rv.get hx;obtain⟨f0,f1,f2,f3,f4,f5⟩:=hf it (by simp);refine wpAny_pyNext_list_item st p.isList (x:=u) (by simpa using hu) λh' Ik sb=>?_;have I1:Inv X pins σ H {s with heap:=h'}:=I.turned (t':=s.toks) (λb o hb e=>(sb.2 b hb).trans e) f0 f1 f3 f4 f5;obtain⟨o,e,c,d⟩:=id Ik;exact⟨u,rfl,uE (s:={s with heap:=h'}) e c d (by decide) ⟨x,H,I1,ru,⟨rfl,λys hy=>by rw[I.aaQ hy hq];exact hx⟩,Ik,λb hb=>(hf b hb).1⟩⟩
 done:=by
  intro X hP hw hK hc i pins s σ H E I hf st hg;subst hP hw hK;obtain⟨xs,hq,hx⟩:=hg;obtain⟨its,rv,p,hz⟩:=I.list hq;obtain⟨f0,f1,f2,f3,f4,f5⟩:=hf it (by simp);have hl:=rv.length;exact wpAny_pyNext_list_end (I.ok.hd hc) st p.isList (by simp;omega) λh' eb=>⟨rfl,I.turned (t':=s.toks) (λb o hb e=>eb b o hb e) f0 f1 f3 f4 f5⟩
 self:=λ_ _ _ _ _ st h=>wpAny_pyIter_listiter st h
theorem aaU (a it:Addr):Turn P w K tg (FN K a) [it] it (λi h=>h.IsTupleIter it a i) where
 mem:=by simp
 obj:=λi h st b hb=>by
  have e:b=it:=by simpa using hb
  subst e;obtain⟨o,e,c,d⟩:=st;exact⟨o,e,λv z=>by rw[d] at z;cases z⟩
 keep:=λi h h' st k=>st.at λo e=>k it (by simp) o e
 item:=by
  intro X hP hw hK hc i pins s σ H E I hf st hg;subst hP hw hK;obtain⟨xs,x,hq,hx⟩:=hg;obtain⟨its,rv,p,hz⟩:=I.tuple hq;obtain⟨u,hu,ru⟩:=rv.get hx;obtain⟨f0,f1,f2,f3,f4,f5⟩:=hf it (by simp);refine wpAny_pyNext_tuple_item st (show s.heap.IsTuple a its.toArray from p) (x:=u) (by simpa using hu) λh' Ik sb=>?_;have I1:Inv X pins σ H {s with heap:=h'}:=I.turned (t':=s.toks) (λb o hb e=>(sb.2 b hb).trans e) f0 f1 f3 f4 f5;obtain⟨o,e,c,d⟩:=id Ik;exact⟨u,rfl,uE (s:={s with heap:=h'}) e c d (by decide) ⟨x,H,I1,ru,⟨rfl,λys hy=>by rw[I.aaB hy hq];exact hx⟩,Ik,λb hb=>(hf b hb).1⟩⟩
 done:=by
  intro X hP hw hK hc i pins s σ H E I hf st hg;subst hP hw hK;obtain⟨xs,hq,hx⟩:=hg;obtain⟨its,rv,p,hz⟩:=I.tuple hq;obtain⟨f0,f1,f2,f3,f4,f5⟩:=hf it (by simp);have hl:=rv.length;exact wpAny_pyNext_tuple_end (I.ok.hd hc) st (show s.heap.IsTuple a its.toArray from p) (by simp;omega) λh' eb=>⟨rfl,I.turned (t':=s.toks) (λb o hb e=>eb b o hb e) f0 f1 f3 f4 f5⟩
 self:=λ_ _ _ _ _ st h=>wpAny_pyIter_tupleiter st h
theorem abJ (it:Addr)(lo:Int)(n:Nat):Turn P w K tg (BI lo n) [it] it (λi h=>IsRangeIter h it (lo+(i:Nat)*1) ((n:Int)-(i:Nat)) 1) where
 mem:=by simp
 obj:=λi h st b hb=>by
  have e:b=it:=by simpa using hb
  subst e
  exact⟨_,st,λv z=>by
   have z':Data.fields _=Data.cell v:=z
   cases z'⟩
 keep:=λi h h' st k=>k it (by simp) _ st
 item:=by
  intro X hP hw hK hc i pins s σ H E I hf st hg;subst hP hw hK;obtain⟨f0,f1,f2,f3,f4,f5⟩:=hf it (by simp);have W:=Walks.range (prog:=X.prog) (w:=X.w) (I.ok.hd hc) it lo 1 n;refine W.item i s _ _ hg st λv h' tk hv Ik kk=>?_;obtain⟨t,rfl⟩:=hv;have I1:Inv X pins σ H {s with heap:=h',toks:=tk}:=I.turned (λb o hb e=>kk b o (by simpa using hb) e) f0 f1 f3 f4 f5;refine⟨_,rfl,uE (s:={s with heap:=h',toks:=tk}) (n:="range_iterator") Ik rfl rfl (by decide) ⟨.int (lo+i),H,I1,⟨t,?_⟩,⟨rfl,rfl⟩,Ik,λb hb=>(hf b hb).1⟩⟩;rw[Int.mul_one]
 done:=by
  intro X hP hw hK hc i pins s σ H E I hf st hg;subst hP hw hK;obtain⟨f0,f1,f2,f3,f4,f5⟩:=hf it (by simp);exact wpAny_pyNext_range_end (I.ok.hd hc) st (by have:n<=i:=hg;omega) λh' eb=>⟨rfl,I.turned (t':=s.toks) (λb o hb e=>eb b o hb e) f0 f1 f3 f4 f5⟩
 self:=λ_ _ _ _ _ st h=>wpAny_pyIter_rangeiter st h
variable {pos:Pos}{fp:List Addr}
section
variable {X:Cx}{tg:Expr}
def abK (K:PySem.W.Frag)(tl:TE):TI:=λσ H R=>tl σ H λx H1=>∃a,x=.ref a/\(∃xs,aO K H1 a xs)/\R (zD K a) H1
def De (K:PySem.W.Frag)(tl:TE):TI:=λσ H R=>tl σ H λx H1=>∃a,x=.ref a/\(∃xs,bw K H1 a xs)/\R (FN K a) H1
theorem bY {l:Expr}{tl:TE}(hl:PE X l tl):PI X tg l (abK X.K tl):=by
 intro pins s σ H R I h;refine bu (hl pins s σ H _ I h) λv s1 z'=>?_;obtain⟨x,H1,I1,r1,q1⟩:=z';obtain⟨a,e,⟨xs,hq⟩,q⟩:=q1;subst e
 cases r1
 obtain⟨its,rv,p,hz⟩:=I1.list hq;refine wpAny_pyIter_list p.isList ?_;refine⟨s1.heap.objs.size,[s1.heap.objs.size],_,_,H1,rfl,I1.kept (t':=s1.toks) λb o e=>Heap.get?_push_of_some _ e,TmX a _,⟨_,Heap.get?_push_size _ rfl,rfl,rfl⟩,λb hb=>?_,q⟩
 have e:b=s1.heap.objs.size:=by simpa using hb
 subst e;exact I1.aaW (Nat.le_refl _) (I1.hok.fresh (Nat.le_refl _))
theorem wQ {l:Expr}{tl:TE}(hl:PE X l tl):PI X tg l (De X.K tl):=by
 intro pins s σ H R I h;refine bu (hl pins s σ H _ I h) λv s1 z'=>?_;obtain⟨x,H1,I1,r1,q1⟩:=z';obtain⟨a,e,⟨xs,hq⟩,q⟩:=q1;subst e
 cases r1
 obtain⟨its,rv,p,hz⟩:=I1.tuple hq;refine wpAny_pyIter_tuple (show s1.heap.IsTuple a its.toArray from p) ?_;refine⟨s1.heap.objs.size,[s1.heap.objs.size],_,_,H1,rfl,I1.kept (t':=s1.toks) λb o e=>Heap.get?_push_of_some _ e,aaU a _,⟨_,Heap.get?_push_size _ rfl,rfl,rfl⟩,λb hb=>?_,q⟩
 have e:b=s1.heap.objs.size:=by simpa using hb
 subst e;exact I1.aaW (Nat.le_refl _) (I1.hok.fresh (Nat.le_refl _))
theorem qw {R:It->Hp->Prop}{E:yf}{lo hi:Int}{t u v:Tok}{tk:Nat}(I:Inv X pins σ H s)(h1:-(2^62)<=lo)(h2:lo<2^62)(h3:-(2^62)<=hi)(h4:hi<2^62)
 (q:R (BI lo (hi-lo).toNat) H):wpAny (model X.prog X.w) X.A (pyIter (.ref s.heap.objs.size)) (GA X pins σ tg R) E {s with heap:=s.heap.push {cls:=.type "range",data:=.fields #[.int lo t,.int hi u,.int 1 v]},toks:=tk}:=by
 refine wpAny_pyIter_range (IsRange.new ..) (small_one h1 h2 h3 h4) ?_;have I1:Inv X pins σ H {s with heap:=s.heap.push {cls:=.type "range",data:=.fields #[.int lo t,.int hi u,.int 1 v]},toks:=tk}:=I.kept λb o e=>Heap.get?_push_of_some _ e
 refine⟨(s.heap.push {cls:=.type "range",data:=.fields #[.int lo t,.int hi u,.int 1 v]}).objs.size,[(s.heap.push {cls:=.type "range",data:=.fields #[.int lo t,.int hi u,.int 1 v]}).objs.size],_,_,H,rfl,
  I1.kept (t':=tk) λb o e=>Heap.get?_push_of_some _ e,abJ _ lo (hi-lo).toNat,?_,λb hb=>?_,q⟩
 ·have e1:lo+((0:Nat):Int)*1=lo:=by simp
  have e2:(((hi-lo).toNat:Nat):Int)-((0:Nat):Int)=Builtin.Range.rangeSize lo hi 1:=by rw[rangeSize_one];split <;> omega
  show IsRangeIter _ _ (lo+((0:Nat):Int)*1) ((((hi-lo).toNat:Nat):Int)-((0:Nat):Int)) 1;rw[e1,e2];exact Heap.get?_push_size _ rfl
 ·have e:b=(s.heap.push {cls:=.type "range",data:=.fields #[.int lo t,.int hi u,.int 1 v]}).objs.size:=by simpa using hb
  subst e;exact I1.aaW (Nat.le_refl _) (I1.hok.fresh (Nat.le_refl _))
def aaX (ta:TA):TI:=λσ H R=>ta σ H λvs H1=>∃j:Int,vs=[.int j]/\-(2^62)<=j/\j<2^62/\R (BI 0 j.toNat) H1
def TyX (ta:TA):TI:=λσ H R=>ta σ H λvs H1=>∃i j:Int,vs=[.int i,.int j]/\(-(2^62)<=i/\i<2^62/\-(2^62)<=j/\j<2^62)/\R (BI i (j-i).toNat) H1
theorem dj {a:Expr}{p:Pos}(hg:Gl X "range")(hm:X.mg "range"=none)(ha:PA X [a] ta)(hs:starEach [a] X.env=[(false,eval a X.env)]:=by rfl):PI X tg (.Call (.Name "range" p) [a] [] pos) (aaX ta):=by
 intro pins s σ H R I h;refine Call_ (dm I hg hm boot_range (PyProof.Rows.callWith_type1 (bu (ha pos pins s σ H _ I h) λus s1 z'=>?_) hs rfl));obtain⟨vs,H1,I1,r1,q1⟩:=z';obtain⟨j,e,q1,q2,q⟩:=q1;subst e
 cases r1 with
 |cons r rr =>
  cases rr
  obtain⟨t,rfl⟩:=r;exact call_range_1 (qw I1 (by omega) (by omega) q1 q2 (by simpa using q))
theorem abL {a b:Expr}{p:Pos}(hg:Gl X "range")(hm:X.mg "range"=none)(ha:PA X [a,b] ta)(hs:starEach [a,b] X.env=[(false,eval a X.env),(false,eval b X.env)]:=by rfl)(JN:starEach [b] X.env=[(false,eval b X.env)]:=by rfl):
 PI X tg (.Call (.Name "range" p) [a,b] [] pos) (TyX ta):=by
 intro pins s σ H R I h;refine Call_ (dm I hg hm boot_range (PyProof.Rows.callWith_type1 (bu (ha pos pins s σ H _ I h) λus s1 z'=>?_) (by rw[hs,JN]) (by rw[JN];rfl)));obtain⟨vs,H1,I1,r1,q1⟩:=z';obtain⟨i,j,e,⟨q1,q2,q3,q4⟩,q⟩:=q1;subst e
 cases r1 with
 |cons r rr =>
  cases rr with
  |cons r' rr =>
   cases rr
   obtain⟨t,rfl⟩:=r;obtain⟨t',rfl⟩:=r';exact call_range_2 (qw I1 q1 q2 q3 q4 q)
def isI (wi:TI)(g:TG)(tb:TS):TS:=λD σ H=>wi σ H λJ H1=>∃W:Nat->Nat->St->Hp->Prop,(∃m,W 0 m σ H1)/\∀i m σ H,W i m σ H →
 (J.stop i H/\D.nx σ H)\/(J.go i H/\∃N:St->Hp->Prop,(∀σ' H',N σ' H'->∃m',m'<m/\W (i+1) m' σ' H')/\∀x H',J.yld i H x H'->g x σ H' λσ2 H2=>tb {D with nx:=N,ct:=N,bk:=D.nx} σ2 H2)
def lE (fp:List Addr)(h:Heap):List (Addr×Obj):=fp.filterMap λb=>(h.get? b).map λo=>(b,o)
theorem gk {o:Obj}(hb:b∈fp)(e:h.get? b=some o):(b,o)∈lE fp h:=List.mem_filterMap.mpr ⟨b,hb,by rw[e];rfl⟩
theorem aau {p:Addr×Obj}(hp:p∈lE fp h):p.1∈fp/\h.get? p.1=some p.2:=by
 obtain⟨b,hb,e⟩:=List.mem_filterMap.mp hp
 cases q:h.get? b with
 |none=>rw[q] at e;cases e
 |some o =>
  rw[q] at e;have e':(b,o)=p:=Option.some.inj e;subst e';exact⟨hb,q⟩
theorem Inv.pinned (I:Inv X pins σ H s)(hf:∀b∈fp,df X pins H b)(ho:∀b∈fp,∃o,s.heap.get? b=some o/\∀v,o.data≠.cell v):Inv X (pins++lE fp s.heap) σ H s :=
 I.aaA λp hp=>(List.mem_append.mp hp).elim (λz=>I.pin p (List.mem_append_right _ z)) λz=>by
   obtain⟨hb,e⟩:=aau z;obtain⟨f0,f1,f2,_⟩:=hf p.1 hb;obtain⟨o,e',d⟩:=ho p.1 hb;rw[e] at e';cases e';exact⟨e,f0,f1,f2,d⟩
theorem Inv.aaF {pl:List (Addr×Obj)}(I:Inv X (pins++pl) σ H s):Inv X pins σ H s:=I.aaA λp hp=>I.pin p (List.mem_append_right _ (List.mem_append_left _ hp))
theorem eK {iter:Expr}{wi:TI}(hp:PassesOwn (model X.prog X.w) X.A X.env X.xe)(hc:X.calm=true)(hi:PI X tg iter wi)(hg:PG X tg g)(hb:rX X body tb)
 (hs:∀x,foldedSetIterable iter X.env x=pure x:=by intro _;rfl):PS X (.For tg iter body [] pos) (isI wi g tb):=by
 intro pins s σ H D I h;refine wpAny_For (bu (hi pins s σ H _ I h) λv s1 h1=>bu h1 λQ9 s2 h2=>?_) hs;obtain⟨it,fp,tn,J,H2,e,I2,T,Ku,f2,W,⟨m0,w0⟩,turn⟩:=h2;subst e;have LF:∀{H':Hp},(∀b∈fp,H' b=none)->∀b∈fp,df X pins H' b:=λhn b hb=>⟨hn b hb,(f2 b hb).2⟩;refine codeAny_forLoop_any (λn s'=>∃i σ' H',Inv X pins σ' H' s'/\tn i s'.heap/\(∀b∈fp,H' b=none)/\W i n σ' H') ?_ m0 ⟨0,σ,H2,I2,Ku,λb hb=>(f2 b hb).1,w0⟩;rintro n s3 ⟨i,σ3,H3,I3,WZ,W0,w3⟩
 rcases turn i n σ3 H3 w3 with⟨stop,qn⟩|⟨go,N,hN,step⟩
 ·refine wpAny_passesOwn hp (bu (T.done X rfl rfl rfl hc i pins s3 σ3 H3 X.xe I3 (LF W0) WZ stop) λr s4 z'=>?_);obtain⟨hr,I4⟩:=z';subst hr;exact wpAny_execs_nil ⟨σ3,H3,I4,qn⟩
 ·refine wpAny_passesOwn hp (bu (T.item X rfl rfl rfl hc i pins s3 σ3 H3 X.xe I3 (LF W0) WZ go) λr s4 z'=>?_);obtain⟨u,hr,h4⟩:=z';subst hr;refine wpAny_passesOwn hp (bu h4 λ_ s5 z'=>?_);obtain⟨x,H5,I5,r5,y5,Nl,Sh⟩:=z';have Zq:=I5.pinned (LF Sh) (T.obj _ _ Nl);refine wpAny_passesOwn hp (bu (hg _ s5 σ3 H5 x u _ Zq r5 (step x H5 y5)) λ_ s6 z'=>?_);obtain⟨σ6,H6,I6,q6⟩:=z';refine wpAny_passesOwn hp (bu (hb _ s6 σ6 H6 _ I6 q6) λf s7 q7=>?_)
  have again:∀{σ7:St}{H7:Hp},Inv X (pins++lE fp s5.heap) σ7 H7 s7->N σ7 H7->∃m,m<n/\∃i σ' H',Inv X pins σ' H' s7/\tn i s7.heap/\(∀b∈fp,H' b=none)/\W i m σ' H':=λ{σ7 H7} I7 n7=>by
   obtain⟨m',hm,w7⟩:=hN σ7 H7 n7;refine⟨m',hm,i+1,σ7,H7,I7.aaF,T.keep _ _ _ Nl λb hb o e=>(I7.pin (b,o) (List.mem_append_right _ (List.mem_append_right _ (gk hb e)))).1,λb hb=>?_,w7⟩;obtain⟨o,e,d⟩:=T.obj _ _ Nl b hb;exact(I7.pin (b,o) (List.mem_append_right _ (List.mem_append_right _ (gk hb e)))).2.1
  cases f with
  |next=>obtain⟨σ7,H7,I7,n7⟩:=q7;exact again I7 n7
  |cont=>obtain⟨σ7,H7,I7,n7⟩:=q7;exact again I7 n7
  |brk=>obtain⟨σ7,H7,I7,q7⟩:=q7;exact⟨σ7,H7,I7.aaF,q7⟩
  |ret v=>obtain⟨x7,σ7,H7,I7,r7,q7⟩:=q7;exact⟨x7,σ7,H7,I7.aaF,r7,q7⟩
end
theorem pV {a:Addr}{xs:List V}{D:Ends}(Pv:Nat->St->Hp->Prop)(h0:Pv 0 σ H)(hl:∀i σ H,i<=xs.length->Pv i σ H->aO K H a xs)
 (hs:∀i x σ H,xs[i]?=some x->Pv i σ H->g x σ H λσ2 H2=>tb {D with nx:=Pv (i+1),ct:=Pv (i+1),bk:=D.nx} σ2 H2)(hd:∀σ H,Pv xs.length σ H->D.nx σ H):
 ∃W:Nat->Nat->St->Hp->Prop,(∃m,W 0 m σ H)/\∀i m σ H,W i m σ H →
  ((zD K a).stop i H/\D.nx σ H)\/((zD K a).go i H/\∃N:St->Hp->Prop,(∀σ' H',N σ' H'->∃m',m'<m/\W (i+1) m' σ' H')/\∀x H',(zD K a).yld i H x H'->g x σ H' λσ2 H2=>tb {D with nx:=N,ct:=N,bk:=D.nx} σ2 H2):=by
 refine⟨λi m σ H=>m=xs.length-i/\i<=xs.length/\Pv i σ H,⟨xs.length,by simp,Nat.zero_le _,h0⟩,?_⟩;rintro i m σ H ⟨rfl,hi,p⟩;have q:=hl i σ H hi p
 by_cases Hx:i<xs.length
 ·refine .inr ⟨⟨xs,xs[i],q,by simp[Hx]⟩,Pv (i+1),λσ' H' p'=>⟨xs.length-(i+1),by omega,rfl,Hx,p'⟩,λx H' y=>?_⟩;obtain⟨e,y⟩:=y;subst e;exact hs i x σ _ (y xs q) p
 ·have e:i=xs.length:=by omega
  subst e;exact .inl ⟨⟨xs,q,Nat.le_refl _⟩,hd σ H p⟩
theorem dZ {lo:Int}{n:Nat}{D:Ends}(Pv:Nat->St->Hp->Prop)(h0:Pv 0 σ H)
 (hs:∀i σ H,i<n->Pv i σ H->g (.int (lo+i)) σ H λσ2 H2=>tb {D with nx:=Pv (i+1),ct:=Pv (i+1),bk:=D.nx} σ2 H2)(hd:∀σ H,Pv n σ H->D.nx σ H):
 ∃W:Nat->Nat->St->Hp->Prop,(∃m,W 0 m σ H)/\∀i m σ H,W i m σ H →
  ((BI lo n).stop i H/\D.nx σ H)\/((BI lo n).go i H/\∃N:St->Hp->Prop,(∀σ' H',N σ' H'->∃m',m'<m/\W (i+1) m' σ' H')/\∀x H',(BI lo n).yld i H x H'->g x σ H' λσ2 H2=>tb {D with nx:=N,ct:=N,bk:=D.nx} σ2 H2):=by
 refine⟨λi m σ H=>m=n-i/\i<=n/\Pv i σ H,⟨n,by simp,Nat.zero_le _,h0⟩,?_⟩;rintro i m σ H ⟨rfl,hi,p⟩
 by_cases Hx:i<n
 ·refine .inr ⟨Hx,Pv (i+1),λσ' H' p'=>⟨n-(i+1),by omega,rfl,Hx,p'⟩,λx H' y=>?_⟩;obtain⟨e,y⟩:=y;subst e y;exact hs i σ _ Hx p
 ·have e:i=n:=by omega
  subst e;exact .inl ⟨Nat.le_refl _,hd σ H p⟩
abbrev R2:=V->V->Hp->VK->Prop
def gB (X:Cx)(f:Value->Value->Sem Value)(r:R2):Prop :=
 ∀(pins:List (Addr×Obj))(s:CW)(σ:St)(H:Hp)(x y:V)(v u:Value)(Q:VK),Inv X pins σ H s->aD x v->aD y u->r x y H Q →
  wpAny (model X.prog X.w) X.A (f v u) (EP X pins σ Q) X.xe s
def Fw (X:Cx)(f:Value->Sem Value)(r:V->Hp->VK->Prop):Prop :=
 ∀(pins:List (Addr×Obj))(s:CW)(σ:St)(H:Hp)(x:V)(v:Value)(Q:VK),Inv X pins σ H s->aD x v->r x H Q →
  wpAny (model X.prog X.w) X.A (f v) (EP X pins σ Q) X.xe s
def cH (X:Cx)(f:Value)(r:List V->Hp->VK->Prop):Prop :=
 ∀(pins:List (Addr×Obj))(s:CW)(σ:St)(H:Hp)(xs:List V)(us:oN)(Q:VK),Inv X pins σ H s->aK xs us->r xs H Q →
  wpAny (model X.prog X.w) X.A (call f us) (EP X pins σ Q) X.xe s
def Gth (X:Cx)(r:V->Hp->(Bool->Hp->Prop)->Prop):Prop :=
 ∀(pins:List (Addr×Obj))(s:CW)(σ:St)(H:Hp)(x:V)(v:Value)(Q:Bool->Hp->Prop),Inv X pins σ H s->aD x v->r x H Q →
  wpAny (model X.prog X.w) X.A (truthy v) (TP X pins σ Q) X.xe s
def lW (r:R2)(ta tb:TE):TE:=λσ H Q=>ta σ H λx H1=>tb σ H1 λy H2=>r x y H2 Q
def aa5 (r:V->Hp->VK->Prop)(ta:TE):TE:=λσ H Q=>ta σ H λx H1=>r x H1 Q
def rI (C:Int->Int->Prop)(g:Int->Int->V):R2:=λx y H Q=>∃i j,x=.int i/\y=.int j/\C i j/\Q (g i j) H
def tV (g:Int->Int->V):R2:=λx y H Q=>∃i j,x=.int i/\y=.int j/\Q (g i j) H
def rU (g:Int->V):V->Hp->VK->Prop:=λx H Q=>∃i,x=.int i/\Q (g i) H
variable {f:Value->Value->Sem Value}
section
variable {X:Cx}{a b c:Expr}{ta tb tc:TE}{pos:Pos}
theorem C9 (ha:PE X a ta)(hb:PE X b tb){R:V->V->Hp->Prop}(I:Inv X pins σ H s)
 (h:ta σ H λx H1=>tb σ H1 λy H2=>R x y H2){Q:yf}
 (hf:∀v u s2 x y H2,Inv X pins σ H2 s2->aD x v->aD y u->R x y H2->wpAny (model X.prog X.w) X.A (f v u) Q X.xe s2):
 wpAny (model X.prog X.w) X.A (eval a X.env) (λv s₁=>wpAny (model X.prog X.w) X.A (eval b X.env) (λu s₂=>wpAny (model X.prog X.w) X.A (f v u) Q X.xe s₂) X.xe s₁) X.xe s:=by
 refine bu (ha pins s σ H _ I h) λv s1 z'=>?_;obtain⟨x,H1,I1,r1,q1⟩:=z';refine bu (hb pins s1 σ H1 _ I1 q1) λu s2 z'=>?_;obtain⟨y,H2,I2,r2,q2⟩:=z';exact hf v u s2 x y H2 I2 r1 r2 q2
theorem aL {op:Operator}{r:R2}(ho:gB X (binaryOp op) r)(ha:PE X a ta)(hb:PE X b tb):PE X (.BinOp a op b pos) (lW r ta tb):=by
 intro pins s σ H Q I h;exact wpAny_BinOp (C9 ha hb I h λv u s2 x y H2 I2 rx ry q=>ho pins s2 σ H2 x y v u Q I2 rx ry q)
theorem uZ {op:UnaryOp}{r:V->Hp->VK->Prop}(ho:Fw X (unaryOp op) r)(ha:PE X a ta):PE X (.UnaryOp op a pos) (aa5 r ta):=by
 intro pins s σ H Q I h;exact UnaryOp_ (bu (ha pins s σ H _ I h) λv s1 ⟨x,H1,I1,r1,q1⟩=>ho pins s1 σ H1 x v Q I1 r1 q1)
theorem Cf {C:Int->Int->Prop}{g:Int->Int->Int}
 (rule:∀(i j:Int)(t u:Tok)(s:CW)(Q:yf)(E:yf),C i j->Q (.int (g i j) s.toks) {s with toks:=s.toks+1}->wpAny (model X.prog X.w) X.A (f (.int i t) (.int j u)) Q E s):
 gB X f (rI C λi j=>.int (g i j)):=by
 intro pins s σ H x y v u Q I rx ry h;obtain⟨i,j,rfl,rfl,hc,q⟩:=h;obtain⟨t,rfl⟩:=rx;obtain⟨t',rfl⟩:=ry;exact rule i j t t' s _ _ hc ⟨.int (g i j),H,I.tok _,⟨_,rfl⟩,q⟩
theorem Et {g:Int->Int->Int}
 (rule:∀(i j:Int)(t u:Tok)(s:CW)(Q:yf)(E:yf),Q (.int (g i j) s.toks) {s with toks:=s.toks+1}->wpAny (model X.prog X.w) X.A (f (.int i t) (.int j u)) Q E s):
 gB X f (tV λi j=>.int (g i j)):=by
 intro pins s σ H x y v u Q I rx ry h;obtain⟨i,j,rfl,rfl,q⟩:=h;obtain⟨t,rfl⟩:=rx;obtain⟨t',rfl⟩:=ry;exact rule i j t t' s _ _ ⟨.int (g i j),H,I.tok _,⟨_,rfl⟩,q⟩
theorem zV {g:Int->Int->Bool}
 (rule:∀(i j:Int)(t u:Tok)(s:CW)(Q:yf)(E:yf),Q (.bool (g i j)) s->wpAny (model X.prog X.w) X.A (f (.int i t) (.int j u)) Q E s):
 gB X f (tV λi j=>.bl (g i j)):=by
 intro pins s σ H x y v u Q I rx ry h;obtain⟨i,j,rfl,rfl,q⟩:=h;obtain⟨t,rfl⟩:=rx;obtain⟨t',rfl⟩:=ry;exact rule i j t t' s _ _ ⟨.bl (g i j),H,I,rfl,q⟩
def aam (i j:Int):Prop:=0<j/\j<1073741824
def DE (i j:Int):Prop:=0<=j/\j<=1000000/\i.natAbs<2^64
def rF (i j:Int):Prop:=(-(2^64)<i/\i<2^64)\/(-(2^64)<j/\j<2^64)
theorem rF.ok {i j:Int}(h:rF i j):IntMulOk i j:=by
 rcases h with⟨h1,h2⟩|⟨h1,h2⟩
 ·exact .of_left (intBits_le_64 h1 h2)
 ·exact .of_right (intBits_le_64 h1 h2)
theorem cW:gB X (binaryOp .Add) (tV λi j=>.int (i+j)):=Et λ_ _ _ _ _ _ _ q=>add_int q
theorem zg:gB X (binaryOp .Sub) (tV λi j=>.int (i-j)):=Et λ_ _ _ _ _ _ _ q=>sub_int q
theorem jE:gB X (binaryOp .Mult) (rI rF λi j=>.int (i*j)):=Cf λ_ _ _ _ _ _ _ hc q=>mul_int q hc.ok
theorem aa6:gB X (binaryOp .FloorDiv) (rI aam λi j=>.int (i/j)):=Cf λi j _ _ _ _ _ hc q=>by
 have h1:(0:Int)<j:=hc.1;have h2:j<1073741824:=hc.2;exact floordiv_int (by omega) (by rw[Int.fdiv_eq_ediv_of_nonneg i (by omega)];exact q) (.inl (PyProof.noPylong_small (by omega)))
theorem dN:gB X (binaryOp .Mod) (rI (λ_ j=>0<j) λi j=>.int (i%j)):=Cf λi j _ _ _ _ _ hc q=>by
 have h1:(0:Int)<j:=hc;exact mod_int' (by omega) (by rw[Int.fmod_eq_emod_of_nonneg i (by omega)];exact q)
theorem uD:gB X (binaryOp .Mod) (rI (λ_ j=>j≠0) λi j=>.int (i.fmod j)):=Cf λ_ _ _ _ _ _ _ hc q=>mod_int' hc q
theorem yB:gB X (binaryOp .Pow) (rI DE λi j=>.int (i^j.toNat)):=Cf λ_ _ _ _ _ _ _ hc q=>pow_int_small hc.1 hc.2.1 hc.2.2 q
theorem abc {f:Value->Sem Value}{g:Int->Int}
 (rule:∀(i:Int)(t:Tok)(s:CW)(Q:yf)(E:yf),Q (.int (g i) s.toks) {s with toks:=s.toks+1}->wpAny (model X.prog X.w) X.A (f (.int i t)) Q E s):
 Fw X f (rU λi=>.int (g i)):=by
 intro pins s σ H x v Q I rx h;obtain⟨i,rfl,q⟩:=h;obtain⟨t,rfl⟩:=rx;exact rule i t s _ _ ⟨.int (g i),H,I.tok _,⟨_,rfl⟩,q⟩
theorem oO:Fw X (unaryOp .USub) (rU λi=>.int (-i)):=abc λ_ _ _ _ _ q=>neg_int q
end
def Ef:V->V->Bool
 | .non,.non=>true| .non,.int _=>true| .int _,.non=>true| .non,.bl _=>true| .bl _,.non=>true| .non,.str _=>true| .str _,.non=>true
 | .int _,.int _=>true| .bl _,.bl _=>true| .str _,.str _=>true| .byt _,.byt _=>true
 | .int _,.str _=>true| .str _,.int _=>true| .bl _,.str _=>true| .str _,.bl _=>true
 |_,_=>false
def xt:R2:=λx y H Q=>Ef x y=true/\Q (.bl (decide (x=y))) H
def rNe:R2:=λx y H Q=>Ef x y=true/\Q (.bl (!decide (x=y))) H
theorem ug {i j:Int}:decide (V.int i=V.int j)=(i==j):=by
 rw[Bool.eq_iff_iff];simp
theorem y9 {i j:Bool}:decide (V.bl i=V.bl j)=(i==j):=by
 rw[Bool.eq_iff_iff];simp
theorem uG {i j:Str}:decide (V.str i=V.str j)=(i==j):=by
 rw[Bool.eq_iff_iff];simp
theorem um {i j:Array UInt8}:decide (V.byt i=V.byt j)=(i.toList==j.toList):=by
 rw[Bool.eq_iff_iff]
 cases i
 cases j
 simp
variable {Q:VK}
section
variable {X:Cx}{a b c:Expr}{ta tb tc:TE}{pos:Pos}
theorem bg {k k':Bool}(I:Inv X pins σ H s)(q:Q (.bl k) H)(e:k=k'):EP X pins σ Q (.bool k') s:=by
 subst e;exact⟨.bl k,H,I,rfl,q⟩
theorem cR:gB X (compareOp .Eq) xt:=by
 intro pins s σ H x y v u Q I rx ry h;obtain⟨hs,q⟩:=h
 cases x with
 |non =>
  cases rx
  cases y with
  |non=>cases ry;exact PySem.EqNone.eq_none_none (bg I q (by simp))
  |bl j=>cases ry;exact PySem.EqNone.eq_none_bool (bg I q (by simp))
  |int j=>obtain⟨t',rfl⟩:=ry;exact PySem.EqNone.eq_none_int (bg I q (by simp))
  |str j=>obtain⟨t',rfl⟩:=ry;exact PySem.EqNone.eq_none_str (bg I q (by simp))
  |_=>exact absurd (show false=true from hs) Bool.false_ne_true
 |bl i =>
  cases rx
  cases y with
  |non=>cases ry;exact PySem.EqNone.eq_bool_none (bg I q (by simp))
  |bl j=>cases ry;exact eq_bool (bg I q y9)
  |str j=>obtain⟨t',rfl⟩:=ry;exact PySem.EqMixed.eq_bool_str (bg I q (by simp))
  |_=>exact absurd (show false=true from hs) Bool.false_ne_true
 |int i =>
  obtain⟨t,rfl⟩:=rx
  cases y with
  |non=>cases ry;exact PySem.EqNone.eq_int_none (bg I q (by simp))
  |int j=>obtain⟨t',rfl⟩:=ry;exact eq_int (bg I q ug)
  |str j=>obtain⟨t',rfl⟩:=ry;exact PySem.EqMixed.eq_int_str (bg I q (by simp))
  |_=>exact absurd (show false=true from hs) Bool.false_ne_true
 |str i =>
  obtain⟨t,rfl⟩:=rx
  cases y with
  |non=>cases ry;exact PySem.EqNone.eq_str_none (bg I q (by simp))
  |bl j=>cases ry;exact PySem.EqMixed.eq_str_bool (bg I q (by simp))
  |int j=>obtain⟨t',rfl⟩:=ry;exact PySem.EqMixed.eq_str_int (bg I q (by simp))
  |str j=>obtain⟨t',rfl⟩:=ry;exact eq_str (bg I q uG)
  |_=>exact absurd (show false=true from hs) Bool.false_ne_true
 |byt i =>
  obtain⟨t,rfl⟩:=rx
  cases y with
  |byt j=>obtain⟨t',rfl⟩:=ry;exact PySem.W.eq_bytes (bg I q um)
  |_=>exact absurd (show false=true from hs) Bool.false_ne_true
 |_=>cases y <;> exact absurd (show false=true from hs) Bool.false_ne_true
theorem jW:gB X (compareOp .NotEq) rNe:=by
 intro pins s σ H x y v u Q I rx ry h;obtain⟨hs,q⟩:=h
 cases x with
 |non =>
  cases rx
  cases y with
  |non=>cases ry;exact PySem.EqNone.ne_none_none (bg I q (by simp))
  |bl j=>cases ry;exact PySem.EqNone.ne_none_bool (bg I q (by simp))
  |int j=>obtain⟨t',rfl⟩:=ry;exact PySem.EqNone.ne_none_int (bg I q (by simp))
  |str j=>obtain⟨t',rfl⟩:=ry;exact PySem.EqNone.ne_none_str (bg I q (by simp))
  |_=>exact absurd (show false=true from hs) Bool.false_ne_true
 |bl i =>
  cases rx
  cases y with
  |non=>cases ry;exact PySem.EqNone.ne_bool_none (bg I q (by simp))
  |bl j=>cases ry;exact ne_bool (bg I q (congrArg not y9))
  |str j=>obtain⟨t',rfl⟩:=ry;exact PySem.EqMixed.ne_bool_str (bg I q (by simp))
  |_=>exact absurd (show false=true from hs) Bool.false_ne_true
 |int i =>
  obtain⟨t,rfl⟩:=rx
  cases y with
  |non=>cases ry;exact PySem.EqNone.ne_int_none (bg I q (by simp))
  |int j=>obtain⟨t',rfl⟩:=ry;exact ne_int (bg I q (congrArg not ug))
  |str j=>obtain⟨t',rfl⟩:=ry;exact PySem.EqMixed.ne_int_str (bg I q (by simp))
  |_=>exact absurd (show false=true from hs) Bool.false_ne_true
 |str i =>
  obtain⟨t,rfl⟩:=rx
  cases y with
  |non=>cases ry;exact PySem.EqNone.ne_str_none (bg I q (by simp))
  |bl j=>cases ry;exact PySem.EqMixed.ne_str_bool (bg I q (by simp))
  |int j=>obtain⟨t',rfl⟩:=ry;exact PySem.EqMixed.ne_str_int (bg I q (by simp))
  |str j=>obtain⟨t',rfl⟩:=ry;exact ne_str (bg I q (congrArg not uG))
  |_=>exact absurd (show false=true from hs) Bool.false_ne_true
 |byt i =>
  obtain⟨t,rfl⟩:=rx
  cases y with
  |byt j=>obtain⟨t',rfl⟩:=ry;exact PySem.W.ne_bytes (bg I q (congrArg not um))
  |_=>exact absurd (show false=true from hs) Bool.false_ne_true
 |_=>cases y <;> exact absurd (show false=true from hs) Bool.false_ne_true
theorem jP:gB X (compareOp .Lt) (tV λi j=>.bl (decide (i<j))):=zV λ_ _ _ _ _ _ _ q=>lt_int q
theorem pQ:gB X (compareOp .LtE) (tV λi j=>.bl (decide (i<=j))):=zV λ_ _ _ _ _ _ _ q=>le_int q
theorem tL:gB X (compareOp .Gt) (tV λi j=>.bl (decide (j<i))):=zV λ_ _ _ _ _ _ _ q=>gt_int q
theorem abf:gB X (compareOp .GtE) (tV λi j=>.bl (decide (j<=i))):=zV λ_ _ _ _ _ _ _ q=>ge_int q
theorem yd:gB X (compareOp .Is) (λx y H Q=>y=.non/\Q (.bl (decide (x=.non))) H):=by
 intro pins s σ H x y v u Q I rx ry h;obtain⟨rfl,q⟩:=h
 cases ry
 refine is_none_gen (bg I q ?_)
 cases x <;> first
  |(cases rx;rfl)
  |(obtain⟨t,rfl⟩:=rx;rfl)
theorem aF (b:Expr)(h:op ≠ .In:=by decide)(h2:op ≠ .NotIn:=by decide):behindInMarks op b=false:=by
 have e1:(op==CmpOp.In)=false:=by cases op <;> first|rfl|exact absurd rfl h
 have e2:(op==CmpOp.NotIn)=false:=by cases op <;> first|rfl|exact absurd rfl h2
 cases b <;> simp[behindInMarks,e1,e2]
theorem cz {op:CmpOp}{r:R2}(ho:gB X (compareOp op) r)(ha:PE X a ta)(hb:PE X b tb)(hm:behindInMarks op b=false):PE X (.Compare a [op] [b] pos) (lW r ta tb):=by
 intro pins s σ H Q I h;exact wpAny_Compare1 (C9 ha hb I h λv u s2 x y H2 I2 rx ry q=>ho pins s2 σ H2 x y v u Q I2 rx ry q) hm
def qJ (t:TE):TT:=λσ H Q=>t σ H λx H'=>∃k,x=.bl k/\Q k H'
theorem aH {op:CmpOp}{r:R2}(ho:gB X (compareOp op) r)(ha:PE X a ta)(hb:PE X b tb)(hm:behindInMarks op b=false):PT X (.Compare a [op] [b] pos) (qJ (lW r ta tb)):=by
 intro pins s σ H Q I h
 refine wpAny_isTrue_Compare1 (bu (ha pins s σ H _ I h) λv s1 ⟨x,H1,I1,r1,q1⟩=>bu (hb pins s1 σ H1 _ I1 q1) λu s2 ⟨y,H2,I2,r2,q2⟩ =>
  bu (ho pins s2 σ H2 x y v u _ I2 r1 r2 q2) λc s3 ⟨z,H3,I3,r3,k,e,q3⟩=>?_) hm
 subst e
 cases r3
 exact wpAny_truthy_bool ⟨H3,I3,q3⟩
def zt (r r':R2)(ta tb tc:TE):TE:=λσ H Q=>ta σ H λx H1=>tb σ H1 λy H2=>r x y H2 λz H3=>∃k,z=.bl k /\
 (if k=true then tc σ H3 λw' H4=>r' y w' H4 Q else Q (.bl false) H3)
theorem qv {LG:CmpOp}{r r':R2}(ho:gB X (compareOp op) r)(HV:gB X (compareOp LG) r')(ha:PE X a ta)(hb:PE X b tb)(hc:PE X c tc)
 (hm:lastMarks [op,LG] [b,c]=false:=by with_unfolding_all rfl):PE X (.Compare a [op,LG] [b,c] pos) (zt r r' ta tb tc):=by
 intro pins s σ H Q I h
 refine Compare_chain (bu (ha pins s σ H _ I h) λv s1 ⟨x,H1,I1,r1,q1⟩=>chain_link (bu (hb pins s1 σ H1 _ I1 q1) λu s2 ⟨y,H2,I2,r2,q2⟩ =>
  bu (ho pins s2 σ H2 x y v u _ I2 r1 r2 q2) λd s3 ⟨z,H3,I3,r3,k,e,q3⟩=>?_)) hm
 subst e
 cases r3
 refine wpAny_truthy_bool ?_
 cases k with
 |false=>exact ite_ff ⟨.bl false,H3,I3,rfl,q3⟩
 |true=>exact ite_tt (chain_last (bu (hc pins s3 σ H3 _ I3 q3) λw' s4 ⟨z',H4,I4,r4,q4⟩=>HV pins s4 σ H4 y z' u w' Q I4 r2 r4 q4))
theorem abP {LG:CmpOp}{r r':R2}(ho:gB X (compareOp op) r)(HV:gB X (compareOp LG) r')(ha:PE X a ta)(hb:PE X b tb)(hc:PE X c tc)
 (hm:lastMarks [op,LG] [b,c]=false:=by with_unfolding_all rfl):PT X (.Compare a [op,LG] [b,c] pos) (qJ (zt r r' ta tb tc)):=by
 intro pins s σ H Q I h
 refine isTrue_chain (bu (ha pins s σ H _ I h) λv s1 ⟨x,H1,I1,r1,q1⟩=>test_link (bu (hb pins s1 σ H1 _ I1 q1) λu s2 ⟨y,H2,I2,r2,q2⟩ =>
  bu (ho pins s2 σ H2 x y v u _ I2 r1 r2 q2) λd s3 ⟨z,H3,I3,r3,k,e,q3⟩=>?_)) hm
 subst e
 cases r3
 refine wpAny_truthy_bool ?_
 cases k with
 |false =>
  obtain⟨k',e',q'⟩:=q3
  cases e'
  exact ite_ff ⟨H3,I3,q'⟩
 |true =>
  refine ite_tt (test_last (bu (hc pins s3 σ H3 _ I3 q3) λw' s4 ⟨z',H4,I4,r4,q4⟩=>bu (HV pins s4 σ H4 y z' u w' _ I4 r2 r4 q4) λd' s5 ⟨z2,H5,I5,r5,k2,e2,q5⟩=>?_));subst e2
  cases r5
  exact wpAny_truthy_bool ⟨H5,I5,q5⟩
def Dl (K:PySem.W.Frag)(x:V)(H:Hp)(k:Bool):Prop :=
 match x with
 | .non=>k=false
 | .bl b=>k=b
 | .int i=>k=(i != 0)
 | .str y=>y.length<=sizeLine/\k=((y.length:Int) != 0)
 | .byt y=>y.size<=sizeLine/\k=((y.size:Int) != 0)
 | .ref p=>(∃xs,aO K H p xs/\k = !xs.isEmpty)\/(∃xs,bw K H p xs/\k = !xs.isEmpty)\/∃Hh,H p=some (.dK Hh)/\k = !Hh.isEmpty
 |_=>False
theorem abR {κ:Type}{Hh:List (κ×V)}{vs:List (κ×Value)}(r:KV Hh vs):(!vs.isEmpty) = !Hh.isEmpty:=by
 cases r <;> rfl
theorem lr {xs:List V}{its:oN}(r:aK xs its):(!its.toArray.isEmpty) = !xs.isEmpty:=by
 cases r <;> simp
theorem lq:(sizeLine:Nat)<2^63:=by rw[sizeLine_eq];decide
theorem abT:Gth X (λx H Q=>∃k,Dl X.K x H k/\Q k H):=by
 intro pins s σ H x v Q I rx h;obtain⟨k,e,q⟩:=h;have hl:=lq;have hs:sizeLine=16777216:=sizeLine_eq
 cases x with
 |non =>
  cases rx
  have e':k=false:=e;subst e';exact truthy_none ⟨H,I,q⟩
 |bl b =>
  cases rx
  have e':k=b:=e;subst e';exact wpAny_truthy_bool ⟨H,I,q⟩
 |int i =>
  obtain⟨t,rfl⟩:=rx;have e':k=(i != 0):=e;subst e';exact PySem.P.truthy_int ⟨H,I,q⟩
 |str y =>
  obtain⟨t,rfl⟩:=rx;obtain⟨hy,e'⟩:y.length<=sizeLine/\k=((y.length:Int) != 0):=e;subst e';exact PySem.P.truthy_str (by omega) ⟨H,I.tok _,q⟩
 |byt y =>
  obtain⟨t,rfl⟩:=rx;obtain⟨hy,e'⟩:y.size<=sizeLine/\k=((y.size:Int) != 0):=e;subst e';exact PySem.W.truthy_bytes (by omega) ⟨H,I.tok _,q⟩
 |ref p =>
  cases rx
  have e':(∃xs,aO X.K H p xs/\k = !xs.isEmpty)\/(∃xs,bw X.K H p xs/\k = !xs.isEmpty)\/∃Hh,H p=some (.dK Hh)/\k = !Hh.isEmpty:=e
  rcases e' with⟨xs,hx,e'⟩|⟨xs,hx,e'⟩|⟨Hh,hx,e'⟩
  ·subst e';obtain⟨its,r,pl,hz⟩:=I.list hx;have hlen:=r.length;exact wpAny_truthy_list pl.isList (by simp only[List.size_toArray];omega) ⟨H,I.tok _,by rw[lr r];exact q⟩
  ·subst e';obtain⟨its,r,pl,hz⟩:=I.tuple hx;have hlen:=r.length;exact truthy_tuple pl (by simp only[List.size_toArray];omega) ⟨H,I.tok _,by rw[lr r];exact q⟩
  ·subst e';obtain⟨hz,hS,vs,r,m⟩:Hh.length<=sizeLine/\(p==sysModules)=false/\∃vs,KV Hh vs/\s.heap.DictOf (bx X.prog X.w) p vs:=I.hok p _ hx;have hlen:Hh.length=vs.length:=Paired.length r;exact wpAny_truthy_dict hS m (by omega) ⟨H,I.tok _,by rw[abR r];exact q⟩
 |_=>exact(show False from e).elim
theorem k9 (ha:PE X a ta)(he:∀eG,isTrue a X.env eG=(do let v <-eG;standAt a.pos;holding [v] (truthy v))):
 PT X a (λσ H Q=>ta σ H λx H'=>∃k,Dl X.K x H' k/\Q k H'):=by
 intro pins s σ H Q I h;exact isTrue_plain (bu (ha pins s σ H _ I h) λv s1 ⟨x,H1,I1,r1,q1⟩=>abT pins s1 σ H1 x v Q I1 r1 q1) (he _)
theorem fE {x:V}(r:aK [x] us):∃u,us=[u]/\aD x u:=by
 cases r with
 |cons r1 r2=>cases r2;exact⟨_,rfl,r1⟩
theorem yD {x:V}(r:aK [x,y] us):∃u w',us=[u,w']/\aD x u/\aD y w':=by
 cases r with
 |cons r1 r2 =>
  cases r2 with
  |cons r3 r4=>cases r4;exact⟨_,_,rfl,r1,r3⟩
theorem lB:cH X (.builtin "abs") (λxs H Q=>∃i,xs=[.int i]/\Q (.int (if i<0 then -i else i)) H):=by
 intro pins s σ H xs us Q I r h;obtain⟨i,rfl,q⟩:=h;obtain⟨u,rfl,t,rfl⟩:=fE r;exact call_abs_int λu tk=>⟨.int (if i<0 then -i else i),H,I.tok _,⟨_,rfl⟩,q⟩
theorem TGs (hc:X.calm=true):cH X (.builtin "max") (λxs H Q=>∃i j,xs=[.int i,.int j]/\Q (.int (if j>i then j else i)) H):=by
 intro pins s σ H xs us Q I r h;obtain⟨i,j,rfl,q⟩:=h;obtain⟨u,w',rfl,⟨t,rfl⟩,⟨t',rfl⟩⟩:=yD r;refine max_two_ints (I.ok.hd hc) λh' tk k=>⟨_,H,I.kept k,?_,q⟩
 by_cases hj:j>i
 ·rw[if_pos hj,if_pos hj];exact⟨_,rfl⟩
 ·rw[if_neg hj,if_neg hj];exact⟨_,rfl⟩
theorem abe (hc:X.calm=true):cH X (.builtin "min") (λxs H Q=>∃i j,xs=[.int i,.int j]/\Q (.int (if j<i then j else i)) H):=by
 intro pins s σ H xs us Q I r h;obtain⟨i,j,rfl,q⟩:=h;obtain⟨u,w',rfl,⟨t,rfl⟩,⟨t',rfl⟩⟩:=yD r;refine min_two_ints (I.ok.hd hc) λh' tk k=>⟨_,H,I.kept k,?_,q⟩
 by_cases hj:j<i
 ·rw[if_pos hj,if_pos hj];exact⟨_,rfl⟩
 ·rw[if_neg hj,if_neg hj];exact⟨_,rfl⟩
theorem abZ:cH X (.type "int") (λxs H Q=>(∃i,xs=[.int i]/\Q (.int i) H)\/∃k,xs=[.bl k]/\Q (.int (if k then 1 else 0)) H):=by
 intro pins s σ H xs us Q I r h
 rcases h with⟨i,rfl,q⟩|⟨k,rfl,q⟩
 ·obtain⟨u,rfl,t,rfl⟩:=fE r;exact call_int_int ⟨.int i,H,I,⟨_,rfl⟩,q⟩
 ·obtain⟨u,rfl,r1⟩:=fE r
  cases r1
  exact call_int_bool ⟨.int (if k then 1 else 0),H,I.tok _,⟨_,rfl⟩,q⟩
end
structure vR (h:Heap)(x dx C:Addr)(mA:vK):Prop where
 obj:h.get? x=some (PySem.W.instObj C dx)
 ns:h.Ns1 dx mA
 ne:dx≠x
theorem ab0 {dx:Addr}{mA:vK}(n:h.Ns1 dx mA):∃od,h.get? dx=some od/\∀name,PySem.W.lookIn name od=some (mA name):=by
 obtain⟨o,es,ep,ho,hd,hk,_,hm⟩:=n;refine⟨o,ho,λname=>?_⟩;have e:=hm name;unfold nsFind findBy at e;rw[<-Array.find?_toList] at e;unfold PySem.W.lookIn;rw[hd];dsimp only
 split
 ·rename_i y q
  rw[q] at e;exact congrArg some e
 ·rename_i q
  rw[q] at e
  have a:es.toList.any (·.refKey)=false:=by
   rw[List.any_eq_false];intro y hy;obtain⟨z,t,Si⟩:=hk y (Array.mem_toList_iff.mp hy);simp[DictEntry.refKey,Si]
  have a':¬es.toList.any (·.refKey)=true:=by rw[a];exact Bool.false_ne_true
  rw[if_neg a'];exact congrArg some e
variable {C:Addr}
theorem vR.look {x dx:Addr}{mA:vK}(I:vR h x dx C mA):∃od,PySem.W.InstAt h x (PySem.W.instObj C dx) C (some od)/\∀name,PySem.W.lookIn name od=some (mA name):=
 let⟨od,ho,hl⟩:=ab0 I.ns
 ⟨od,⟨I.obj,rfl,rfl,ho⟩,hl⟩
variable {pl:Sem Bool}{kw:List (Str×Value)}
section
variable {prog:zr}{w:World}{A:Around}{E:yf}{s:CW}{K:PySem.W.Frag}{x dx C f:Addr}{mA:vK}{name:Str}{v:Value}
theorem ab1 {expr:Bool}{Q:yf}(X:K.In s.heap)(I:vR s.heap x dx C mA)(hg:PySem.W.plainGet K C name=true)(hh:PySem.W.hasDictIn K C=true)
 (ha:PySem.W.findIn K (.ref C) name=some none)(hv:mA name=some v)(Zr:PySem.W.handedIn v=true)(h:Q v {s with toks:=s.toks+1}):
 wpAny (model prog w) A (getAttr (.ref x) name expr) Q E s:=by
 obtain⟨od,J,hl⟩:=I.look;exact PySem.W.get_value X J (PySem.W.plainGet_of hg).1 (PySem.W.findObj_own hh ha rfl (by rw[hl,hv])) Zr h
theorem ab3 {Q:Value×List Value->Shared->Prop}(X:K.In s.heap)(I:vR s.heap x dx C mA)(hg:PySem.W.plainGet K C name=true)
 (hf:PySem.W.findIn K (.ref C) name=some (some (.ref f)))(ht:PySem.W.isFn K (.ref f)=true)(hv:mA name=none)(h:Q (.ref f,[.ref x]) s):
 wpAny (model prog w) A (getMethod (.ref x) name pl) Q E s:=by
 obtain⟨od,J,hl⟩:=I.look;exact PySem.W.method_fn X J (PySem.W.plainGet_of hg).1 (PySem.W.plainGet_of hg).2 hf (beq_iff_eq.mp ht) (by show(PySem.W.lookIn name od).map (·.isSome)=some false;rw[hl,hv];rfl) h
theorem Sig {ns:Bg}{Q:Unit->Shared->Prop}(X:K.In s.heap)(I:vR s.heap x dx C mA)
 (hs:PySem.W.findIn K (.ref C) "__setattr__"=some (some (.builtin "object.__setattr__")))(hp:PySem.W.plainOver K C=true)(ht:PySem.W.takerIn K C name=some none)(hh:PySem.W.hasDictIn K C=true)
 (hw:PySem.Within mA ns)(hsz:ns.length<=sizeLine)
 (h:∀h',vR h' x dx C (λy=>if y=name then some v else mA y)->Heap.SameBut dx s.heap h'->Q () {s with heap:=h',toks:=s.toks+2}):
 wpAny (model prog w) A (setAttr (.ref x) name v) Q E s:=by
 obtain⟨od,J,hl⟩:=I.look;refine PySem.W.set_plain X J hs (PySem.W.osa_open (s:={s with toks:=s.toks+1}) (r:=none) X J hp ht λb=>?_);obtain⟨cd,hc,Sb⟩:=PySem.W.any_some hh;have hx:s.heap.get? x=some ⟨.ref C,some dx,.plain,#[]⟩:=I.obj;refine wpAny_bind (wpAny_pure (wpAny_bind (wpAny_bind (wpAny_loadPart hx (wpAny_bind (PySem.W.Looks.here (s:={s with toks:=s.toks+1}) (PySem.W.looks_clsIn X hc) ?_))))));rw[Sb];refine wpAny_pure (a:=some dx) (wpAny_bind (wpAny_pure (wpAny_bind ?_)));refine wpAny_nsSet1 (s:={s with toks:=s.toks+1}) I.ns λh' Ra JN=>?_;obtain⟨oD,W3,W4,Nn,Np,JD⟩:=Ra.count (PySem.Within.cons name v hw);refine wpAny_bind (wpAny_lookBehind Nn (by rw[Np];exact pastItsLine_dict (Nat.le_trans JD (by rw[List.length_cons];omega))) ?_);exact wpAny_pure (h _ ⟨(JN.2 _ (Ne.symm I.ne)).trans I.obj,Ra,I.ne⟩ JN)
theorem aas {R:Result->Shared->Prop}{vs:oN}(X:K.In s.heap)(hm:PySem.W.makesIn K C=true)
 (hi:PySem.W.findIn K (.ref C) "__init__"=some (some (.ref f)))(hf:PySem.W.typeIn K (.ref f)=some (.type "function"))
 (h:codeAny (model prog w) (A.under (.builtin "type.__call__" ⟨.ref C::vs,kw⟩)) (.call (.ref f) ⟨.ref (s.heap.objs.size+1):: vs,kw⟩) (PySem.W.InitBack (s.heap.objs.size+1) R)
  {s with heap:=(s.heap.push PySem.W.emptyDict).push (PySem.W.instObj C s.heap.objs.size)}):
 codeAny (model prog w) A (.call (.ref C) ⟨vs,kw⟩) R s:=by
 obtain⟨hh,g,d,t,os⟩:=s;exact PySem.W.make_core (PySem.W.makes_of X hm) (PySem.W.looks_findIn X hi) (λself=>PySem.W.bind_fn X self hf) (.inl rfl) h
end
def cf (f:Str)(v:V):List (Str×V)->List (Str×V)
 |[]=>[(f,v)]
 |(g,x):: r=>if g=f then(g,v):: r else(g,x):: cf f v r
theorem gS (f g:Str)(v:V):∀fs:List (Str×V),(cf f v fs).lookup g=if g=f then some v else fs.lookup g
 |[]=>by
  show List.lookup g [(f,v)]=_
  by_cases h:g=f
  ·have hb:(g==f)=true:=beq_iff_eq.mpr h;simp only[List.lookup,hb,if_pos h]
  ·have hb:(g==f)=false:=beq_eq_false_iff_ne.mpr h;simp only[List.lookup,hb,if_neg h]
 |(k,x):: r=>by
  have ih:=gS f g v r;rw[show cf f v ((k,x):: r)=(if k=f then(k,v):: r else(k,x):: cf f v r) from rfl]
  by_cases hk:k=f
  ·rw[if_pos hk]
   by_cases h:g=k
   ·have hb:(g==k)=true:=beq_iff_eq.mpr h;simp only[List.lookup,hb,if_pos (h.trans hk)]
   ·have hb:(g==k)=false:=beq_eq_false_iff_ne.mpr h;simp only[List.lookup,hb,if_neg (λe:g=f=>h (e.trans hk.symm))]
  ·rw[if_neg hk]
   by_cases h:g=k
   ·have hb:(g==k)=true:=beq_iff_eq.mpr h;simp only[List.lookup,hb,if_neg (λe:g=f=>hk (h.symm.trans e))]
   ·have hb:(g==k)=false:=beq_eq_false_iff_ne.mpr h;simp only[List.lookup,hb];exact ih
theorem fV (f:Str)(v:V):∀fs:List (Str×V),f∈(cf f v fs).map (·.1)/\∀g,g∈fs.map (·.1)->g∈(cf f v fs).map (·.1)
 |[]=>⟨by simp[cf],λg h=>by simp at h⟩
 |(k,x):: r=>by
  obtain⟨i1,i2⟩:=fV f v r;rw[show cf f v ((k,x):: r)=(if k=f then(k,v):: r else(k,x):: cf f v r) from rfl]
  by_cases hk:k=f
  ·rw[if_pos hk];subst hk;exact⟨by simp,λg h=>by simpa using h⟩
  ·rw[if_neg hk];refine⟨?_,λg h=>?_⟩
   ·rw[List.map_cons];exact List.mem_cons_of_mem _ i1
   ·rw[List.map_cons] at h |-
    rcases List.mem_cons.mp h with e|e
    ·exact List.mem_cons.mpr (.inl e)
    ·exact List.mem_cons_of_mem _ (i2 g e)
theorem jV (f:Str)(v:V):∀fs:List (Str×V),(cf f v fs).length<=fs.length+1
 |[]=>by simp[cf]
 |(k,x):: r=>by
  have ih:=jV f v r;rw[show cf f v ((k,x):: r)=(if k=f then(k,v):: r else(k,x):: cf f v r) from rfl]
  by_cases hk:k=f
  ·rw[if_pos hk,List.length_cons,List.length_cons];omega
  ·rw[if_neg hk,List.length_cons,List.length_cons];omega
theorem fb.some_of {v:V}{o:DV}(r:fb (some v) o):∃u,o=some u/\aD v u:=by
 cases o with
 |none=>exact(show False from r).elim
 |some u=>exact⟨u,rfl,r⟩
theorem fb.none_of {o:DV}(r:fb none o):o=none:=by
 cases o with
 |none=>rfl
 |some u=>exact(show False from r).elim
theorem ab9 (r:aD v u):PySem.W.handedIn u=true:=by
 cases v with
 |non=>cases(show u=Value.none from r);rfl
 |bl b=>cases(show u=Value.bool b from r);rfl
 |int i=>obtain⟨t,e⟩:=(show ∃t,u=Value.int i t from r);cases e;rfl
 |str x=>obtain⟨t,e⟩:=(show ∃t,u=Value.str x t from r);cases e;rfl
 |byt b=>obtain⟨t,e⟩:=(show ∃t,u=Value.bytes b t from r);cases e;rfl
 |flt b=>obtain⟨t,e⟩:=(show ∃t,u=Value.float b t from r);cases e;rfl
 |ref a=>cases(show u=Value.ref a from r);rfl
 |ty n=>cases(show u=Value.type n from r);rfl
section
variable {P:zr}{w:World}{H H':Hp}{h h':Heap}{a C dx:Addr}{fs Zn:List (Str×V)}
theorem ik (hok:gu P w H h)(e:H a=some (.ins C dx fs)):∃mA,vR h a dx C mA/\(∀f,fb (fs.lookup f) (mA f))/\PySem.Within mA (fs.map (·.1))/\fs.length<=1000/\H dx=some (.own a):=by
 obtain⟨d,z,ne,ob,mA,n,r,q⟩:=(show bc P w H h a (.ins C dx fs) from hok a _ e);exact⟨mA,⟨ob,n,ne⟩,r,q,z,d⟩
end
structure B5 (K:PySem.W.Frag)(C:Addr):Prop where
 pg:PySem.W.plainGet K C Str.empty=true
 hd:PySem.W.hasDictIn K C=true
 po:PySem.W.plainOver K C=true
 sa:PySem.W.findIn K (.ref C) "__setattr__"=some (some (.builtin "object.__setattr__"))
theorem B5.get (c:B5 K C)(f:Str):PySem.W.plainGet K C f=true:=c.pg
def bV (K:PySem.W.Frag)(C:Addr)(f:Str):Prop:=PySem.W.findIn K (.ref C) f=some none
theorem bV.ab6 {f:Str}(n:bV K C f):PySem.W.takerIn K C f=some none:=by
 unfold PySem.W.takerIn;rw[show PySem.W.findIn K (.ref C) f=some none from n];rfl
structure Meth (K:PySem.W.Frag)(C:Addr)(m:Str)(f:Addr):Prop where
 at_:PySem.W.findIn K (.ref C) m=some (some (.ref f))
 fn:PySem.W.isFn K (.ref f)=true
 kp:PySem.W.keepIn K (.ref f)=true
section
variable {X:Cx}{pins:List (Addr×Obj)}{σ:St}{H:Hp}{s:CW}{a C dx:Addr}{fs:List (Str×V)}{f:Str}{v:V}{A:Around}{E:yf}
theorem acd {b:Bool}{Q:yf}(I:Inv X pins σ H s)(e:H a=some (.ins C dx fs))(c:B5 X.K C)(n:bV X.K C f)(l:fs.lookup f=some v)
 (h:∀u s',Inv X pins σ H s'->aD v u->Q u s'):wpAny (model X.prog X.w) A (getAttr (.ref a) f b) Q E s:=by
 obtain⟨mA,O,r,_,_,_⟩:=ik I.hok e;obtain⟨u,hu,ru⟩:=fb.some_of (v:=v) (o:=mA f) (by rw[<-l];exact r f);exact ab1 I.kIn O (c.get f) c.hd n hu (ab9 ru) (h u _ (I.tok _) ru)
theorem lA {m:Str}{g:Addr}{Q:Value×List Value->Shared->Prop}(I:Inv X pins σ H s)(e:H a=some (.ins C dx fs))(c:B5 X.K C)(k:Meth X.K C m g)(l:fs.lookup m=none)
 (h:Q (.ref g,[.ref a]) s):wpAny (model X.prog X.w) A (getMethod (.ref a) m pl) Q E s:=by
 obtain⟨mA,O,r,_,_,_⟩:=ik I.hok e;have hn:mA m=none:=fb.none_of (by rw[<-l];exact r m);exact ab3 I.kIn O (c.get m) k.at_ k.fn hn h
theorem ack {Q:Unit->Shared->Prop}(I:Inv X pins σ H s)(e:H a=some (.ins C dx fs))(c:B5 X.K C)(n:bV X.K C f)(hl:fs.length<1000)(ry:aD y u)
 (h:∀s',Inv X pins σ (upd H a (.ins C dx (cf f y fs))) s'->Q () s'):wpAny (model X.prog X.w) A (setAttr (.ref a) f u) Q E s:=by
 obtain⟨mA,O,r,wi,_,ho⟩:=ik I.hok e
 have hz:(fs.map (·.1)).length<=sizeLine:=by rw[List.length_map,sizeLine_eq];omega
 refine Sig I.kIn O c.sa c.po n.ab6 c.hd wi hz λh' O' sb=>h _ ?_;have hd:∃o,h'.get? dx=some o:=let⟨o,_,_,e',_⟩:=O'.ns;⟨o,e'⟩;refine I.write (x:=a) (e:=dx) (by rw[e];exact True.intro) (.inr ho) (λb q hb z=>(sb.2 b hb).trans z) hd ?_;refine⟨by rw[aq O.ne];exact ho,?_,O.ne,O'.obj,_,O'.ns,λg=>?_,λg hg=>?_⟩
 ·have:=jV f y fs;omega
 ·show fb ((cf f y fs).lookup g) (if g=f then some u else mA g);rw[gS]
  by_cases q:g=f
  ·rw[if_pos q,if_pos q];exact ry
  ·rw[if_neg q,if_neg q];exact r g
 ·by_cases q:g=f
  ·rw[q];exact(fV f y fs).1
  ·refine(fV f y fs).2 g (wi g λz=>hg ?_);show(if g=f then some u else mA g)=none;rw[if_neg q];exact z
theorem Inv.made (I:Inv X pins σ H s):Inv X pins σ (upd (upd H s.heap.objs.size (.own (s.heap.objs.size+1))) (s.heap.objs.size+1) (.ins C s.heap.objs.size []))
 {s with heap:=(s.heap.push PySem.W.emptyDict).push (PySem.W.instObj C s.heap.objs.size)}:=by
 have e1:(s.heap.push PySem.W.emptyDict).get? s.heap.objs.size=some PySem.W.emptyDict:=Heap.get?_push_size s.heap rfl
 have e2:((s.heap.push PySem.W.emptyDict).push (PySem.W.instObj C s.heap.objs.size)).get? (s.heap.objs.size+1)=some (PySem.W.instObj C s.heap.objs.size):=by
  have:=Heap.get?_push_size (s.heap.push PySem.W.emptyDict) (o:=PySem.W.instObj C s.heap.objs.size) rfl;rwa[Heap.size_push] at this
 have e3:(s.heap.push PySem.W.emptyDict).Ns s.heap.objs.size (λ_=>none):=⟨PySem.W.emptyDict,#[],_,e1,rfl,(λe he=>absurd he (by simp)),λ_=>rfl⟩;have I1:=I.laid (a:=s.heap.objs.size) (o:=.own (s.heap.objs.size+1)) (h':=s.heap.push PySem.W.emptyDict) (t':=s.toks) (λb u q=>Heap.get?_push_of_some _ q) (Nat.le_refl _) ⟨_,e1⟩;refine I1.laid (a:=s.heap.objs.size+1) (o:=.ins C s.heap.objs.size []) (t':=s.toks) (λb u q=>Heap.get?_push_of_some _ q) (Nat.le_of_eq (Heap.size_push _ _)) ?_;have ne:s.heap.objs.size≠s.heap.objs.size+1:=Nat.ne_of_lt (Nat.lt_succ_self _);refine⟨by rw[aq ne,ae],Nat.zero_le _,ne,e2,λ_=>none,(Heap.Ns1.of_empty e3).at λo q=>Heap.get?_push_of_some _ q,λ_=>True.intro,λy hy=>absurd rfl hy⟩
theorem acm {prog:zr}{env:Env}{f:Str}{s:CW}{Q:yf}(hb:attributeBase e f env (eval e env)=eval e env)
 (h:wpAny (model prog w) A (eval e env) (λo s₁=>wpAny (model prog w) A (getAttr o f true) Q E s₁) E s):wpAny (model prog w) A (eval (.Attribute e f pos) env) Q E s :=
 Attribute_any_ h (by rw[arm_eval_Attribute,hb])
end
def acn (K:PySem.W.Frag)(ta:TE)(f:Str):TE:=λσ H Q=>ta σ H λx H1=>∃a C dx fs v,x=.ref a/\H1 a=some (.ins C dx fs)/\B5 K C/\bV K C f/\fs.lookup f=some v/\Q v H1
def Gc (K:PySem.W.Frag)(ta tv:TE)(f:Str):TS:=λD σ H=>tv σ H λy H1=>ta σ H1 λx H2=>∃a C dx fs,x=.ref a/\H2 a=some (.ins C dx fs)/\B5 K C/\bV K C f/\fs.length<1000 /\
 D.nx σ (upd H2 a (.ins C dx (cf f y fs)))
section
variable {X:Cx}{o e value:Expr}{f:Str}{pos pos' Sj:Pos}{ta tv:TE}
theorem b7 (he:PE X e ta)(hb:attributeBase e f X.env (eval e X.env)=eval e X.env):PE X (.Attribute e f pos) (acn X.K ta f):=by
 intro pins s σ H Q I h;refine acm hb (bu (he pins s σ H _ I h) λu s1 z'=>?_);obtain⟨x,H1,I1,rx,a,C,dx,fs,v,ex,ea,c,n,l,q⟩:=z';subst ex;obtain rfl:u=Value.ref a:=rx;exact acd I1 ea c n l λu' s2 I2 ru=>⟨v,H1,I2,ru,q⟩
theorem gJ (ha:PE X o ta)(hv:PE X value tv)(hs:swapsWith value (some (.Attribute o f pos')) pos.line X.env=pure false):PS X (.Assign [.Attribute o f pos'] value pos) (Gc X.K ta tv f):=by
 intro pins s σ H D I h;refine plainObj_wpAny_Assign_Attribute (bu (hv pins s σ H _ I h) λu s1 ⟨y,H1,I1,ry,q⟩=>bu (ha pins s1 σ H1 _ I1 q) λov s2 z'=>?_) hs;obtain⟨x,H2,I2,rx,a,C,dx,fs,ex,ea,c,n,l,q2⟩:=z';subst ex;obtain rfl:ov=Value.ref a:=rx;exact ack I2 ea c n l ry λs3 I3=>⟨σ,_,I3,q2⟩
end
section
variable {X:Cx}{pins:List (Addr×Obj)}{σ:St}{H:Hp}{s:CW}{A:Around}{E:yf}{Q:yf}{c:Value}{b:Bool}
inductive Ek (K:PySem.W.Frag)(H:Hp):V->Value->Prop where
 |non:Ek K H .non (.type "NoneType")
 |bl (x:Bool):Ek K H (.bl x) (.type "bool")
 |int (i:Int):Ek K H (.int i) (.type "int")
 |str (x:Str):Ek K H (.str x) (.type "str")
 |flt (x:UInt64):Ek K H (.flt x) (.type "float")
 |lst {a:Addr}{xs:List V}(e:H a=some (.lst xs)):Ek K H (.ref a) (.type "list")
 |frz {a:Addr}{o:Obj}{xs:List V}(e:H a=some (.frz o (.lst xs))):Ek K H (.ref a) (.type "list")
 |tup {a:Addr}{xs:List V}(e:H a=some (.tup xs)):Ek K H (.ref a) (.type "tuple")
 |dK {a:Addr}{Hh:List (Key×V)}(e:H a=some (.dK Hh)):Ek K H (.ref a) (.type "dict")
 |dT {a:Addr}{Hh:List (List Key×V)}(e:H a=some (.dT Hh)):Ek K H (.ref a) (.type "dict")
 |ins {a C dx:Addr}{fs:List (Str×V)}(e:H a=some (.ins C dx fs))(cl:B5 K C)(ha:PySem.W.findIn K (.ref C) "__class__"=some (some (.builtin "object.__class__")))
  (hn:PySem.W.specialIn K (.builtin "object.__class__") "__get__"=some (some (.builtin "getset_descriptor.__get__")))(Sk:PySem.W.takesIn K (.builtin "object.__class__")=some true)
  (hm:PySem.W.mroIn K C (.type "object")=some true):Ek K H (.ref a) (.ref C)
theorem acp {x:V}{t:Value}(I:Inv X pins σ H s)(rx:aD x u)(ty:Ek X.K H x t)(e:PySem.W.kitOne X.K t c=some b)(h:∀tk,Q (.bool b) {s with toks:=tk}):
 wpAny (model X.prog X.w) A (call (.builtin "isinstance") [u,c]) Q E s:=by
 cases ty with
 |non=>cases(show u=Value.none from rx);exact PySem.W.kia_one PySem.W.kitx_none I.kIn True.intro e (λz=>nomatch z) h
 |bl y=>cases(show u=Value.bool y from rx);exact PySem.W.kia_one PySem.W.kitx_bool I.kIn True.intro e (λz=>nomatch z) h
 |int i=>obtain⟨t,q⟩:=(show ∃t,u=Value.int i t from rx);cases q;exact PySem.W.kia_one PySem.W.kitx_int I.kIn True.intro e (λz=>nomatch z) h
 |str y=>obtain⟨t,q⟩:=(show ∃t,u=Value.str y t from rx);cases q;exact PySem.W.kia_one PySem.W.kitx_str I.kIn True.intro e (λz=>nomatch z) h
 |flt y=>obtain⟨t,q⟩:=(show ∃t,u=Value.float y t from rx);cases q;exact PySem.W.kia_one PySem.W.kitx_float I.kIn True.intro e (λz=>nomatch z) h
 |@lst a xs ea =>
  cases(show u=Value.ref a from rx)
  obtain⟨_,_,n,_,h1⟩:=(show bc X.prog X.w H s.heap a (.lst xs) from I.hok a _ ea);exact PySem.W.kia_one PySem.W.kitx_list I.kIn ⟨_,h1,rfl⟩ e (λz=>nomatch z) h
 |@frz a ob xs ea =>
  cases(show u=Value.ref a from rx)
  obtain⟨_,_,_,n,_,h1⟩:=(show bc X.prog X.w H s.heap a (.frz ob (.lst xs)) from I.hok a _ ea);exact PySem.W.kia_one PySem.W.kitx_list I.kIn ⟨_,h1,rfl⟩ e (λz=>nomatch z) h
 |@tup a xs ea =>
  cases(show u=Value.ref a from rx)
  obtain⟨_,_,_,p⟩:=(show bc X.prog X.w H s.heap a (.tup xs) from I.hok a _ ea);obtain⟨o,h1,h2,_⟩:=p;exact PySem.W.kia_one PySem.W.kitx_tuple I.kIn ⟨o,h1,h2⟩ e (λz=>nomatch z) h
 |@dK a Hh ea =>
  cases(show u=Value.ref a from rx)
  obtain⟨_,_,vs,_,p⟩:=(show bc X.prog X.w H s.heap a (.dK Hh) from I.hok a _ ea);obtain⟨o,es,ep,h1,h2,_⟩:=p;exact PySem.W.kia_one PySem.W.kitx_dict I.kIn ⟨o,h1,h2.1⟩ e (λz=>nomatch z) h
 |@dT a Hh ea =>
  cases(show u=Value.ref a from rx)
  obtain⟨_,_,xs,_,o,es,ep,h1,h2,_⟩:=(show bc X.prog X.w H s.heap a (.dT Hh) from I.hok a _ ea);exact PySem.W.kia_one PySem.W.kitx_dict I.kIn ⟨o,h1,h2.1⟩ e (λz=>nomatch z) h
 |@ins a C dx fs ea cl ha hn Sk hm =>
  cases(show u=Value.ref a from rx)
  obtain⟨mA,O,_⟩:=ik I.hok ea;obtain⟨od,J,_⟩:=O.look;exact PySem.W.kia_one (PySem.W.kitx_own (cl.get _) cl.hd ha hn Sk hm) I.kIn J e (λz=>nomatch z) h
end
structure qL (k:Nat)(A:Around):Prop where
 hd:A.handled=none
 dp:A.depth+3*k+5<recursionLimit
 un:A.units+16*k+200<cLine
 gd:A.guards=some []
theorem qL.mono {j:Nat}(r:qL k A)(h:j<=k):qL j A:=⟨r.hd,by have:=r.dp;omega,by have:=r.un;omega,r.gd⟩
theorem qL.deeper (r:qL (k+1) A)(env:Env):qL k (A.deeper env):=
 ⟨r.hd,by have:=r.dp;show A.depth+1+3*k+5<_;omega,by have:=r.un;show A.units+3+16*k+200<_;omega,r.gd⟩
theorem qL.in1 (r:qL (k+1) A):qL k A.in1 :=
 ⟨r.hd,by have:=r.dp;show A.depth+3*k+5<_;omega,by have:=r.un;show A.units+1+16*k+200<_;omega,r.gd⟩
theorem acv :(A.under (.builtin "type.__call__" ⟨.ref C::us,kw⟩)).depth=A.depth+1:=by
 first|rfl|simp[Around.under,Code.weight,Code.isCreation,Code.isGuard,Code.isCaller,Code.frames,Code.isFrame,guardIds]
theorem acy :(A.under (.builtin "type.__call__" ⟨.ref C::us,kw⟩)).guards=A.guards:=by
 first|rfl|simp[Around.under,Code.guards,Code.isGuard,guardIds,pushGuards]
theorem acz :(A.under (.builtin "type.__call__" ⟨.ref C::us,kw⟩)).units=A.units+1:=by
 first|rfl|simp[Around.under,Code.cUnits,Code.frames,Code.isFrame]
theorem qL.make (r:qL (k+1) A)(C:Addr)(us:oN)(kw:List (Str×Value)):qL k (A.under (.builtin "type.__call__" ⟨.ref C::us,kw⟩)):=
 ⟨r.hd,by have:=r.dp;rw[acv];omega,by have:=r.un;rw[acz];omega,by rw[acy];exact r.gd⟩
theorem qL.depth (r:qL k A):A.depth<recursionLimit:=by have:=r.dp;omega
theorem qL.units (r:qL k A):A.units+64<cLine:=by have:=r.un;omega
theorem qL.aa1 (r:qL k A):A.units<cLine:=by have:=r.un;omega
def CP:TA:=λ_ H Q=>Q [] H
def bH (ta:TE)(tr:TA):TA:=λσ H Q=>ta σ H λx H1=>tr σ H1 λxs H2=>Q (x::xs) H2
section
variable {X:Cx}{e:Expr}{es:qk}{te:TE}{t:TA}{pos:Pos}
theorem ag:PA X [] CP:=λ_ _ _ _ H Q I h=>Calls.spliced_nil ⟨[],H,I,.nil,h⟩
theorem dS (ha:PE X e te)(hr:PA X es t)(hs:starEach (e::es) X.env=(false,eval e X.env):: starEach es X.env:=by rfl):PA X (e::es) (bH te t):=by
 intro pos pins s σ H Q I h;rw[hs];show wpAny _ _ (spliced ((false,eval e X.env):: backTo pos (starEach es X.env))) _ _ s;refine Calls.spliced_cons (bu (ha pins s σ H _ I h) λu s1 z'=>?_);obtain⟨x,H1,I1,r1,q1⟩:=z';exact bu (hr pos pins s1 σ H1 _ I1 q1) λus s2 ⟨xs,H2,I2,r2,q2⟩=>⟨x::xs,H2,I2,.cons r1 r2,q2⟩
def Dy (t:TA):TE:=λσ H Q=>t σ H λxs H1=>xs.length<=sizeLine/\∀p,H1 p=none->Q (.ref p) (upd H1 p (.tup xs))
def EJ (t:TA):TE:=λσ H Q=>t σ H λxs H1=>xs.length<=sizeLine/\∀p,H1 p=none->Q (.ref p) (upd H1 p (.lst xs))
theorem dw {x1}(h:PA X es t):PE X (.Tuple es x1 pos) (Dy t):=by
 intro pins s σ H Q I hq;refine wpAny_Tuple_spliced (bu (h pos pins s σ H _ I hq) λus s1 ⟨xs,H1,I1,r,z,q⟩=>⟨by rw[<-r.length];exact z,?_⟩);have hf:H1 s1.heap.objs.size=none:=I1.hok.fresh (Nat.le_refl _);refine⟨.ref s1.heap.objs.size,upd H1 s1.heap.objs.size (.tup xs),I1.laid (t':=s1.toks) (λb u e=>Heap.get?_push_of_some _ e) (Nat.le_refl _) ?_,rfl,q _ hf⟩;exact⟨z,us,r,⟨_,Heap.get?_push_size _ rfl,rfl,_,rfl⟩⟩
theorem cu (h:PA X es t):PE X (.List es pos) (EJ t):=by
 intro pins s σ H Q I hq;refine wpAny_List_spliced (bu (h pos pins s σ H _ I hq) λus s1 ⟨xs,H1,I1,r,z,q⟩=>⟨by rw[<-r.length];exact z,?_⟩);have hf:H1 s1.heap.objs.size=none:=I1.hok.fresh (Nat.le_refl _);refine⟨.ref s1.heap.objs.size,upd H1 s1.heap.objs.size (.lst xs),I1.laid (t':=s1.toks) (λb u e=>Heap.get?_push_of_some _ e) (Nat.le_refl _) ?_,rfl,q _ hf⟩;exact⟨z,us,0,r,Heap.get?_push_size _ rfl⟩
end
abbrev Sp:=List V->Hp->VK->XK->Prop
abbrev CH:=List Env->Hp->Shared->XK->Value->Shared->Prop
structure FX (P:zr)(w:World)(K:PySem.W.Frag)(mg:vK)(base:Heap)(A:Around)(outer:List Env)(s:CW)(H:Hp):Prop where
 frames:A.frames=some outer
 mod:Mod K mg base
 bs:∀b o,base.get? b=some o->s.heap.get? b=some o/\H b=none
 bsz:base.objs.size<=s.heap.objs.size
 aav:s.heap.FunFrames base outer
 frf:∀b∈eZ outer,H b=none
 hok:gu P w H s.heap
 bare:AllBare s.gens
def CE (outer:List Env)(P:zr)(w:World)(H:Hp)(s:CW)(Q:VK)(u:Value)(s':CW):Prop :=
 ∃v H',s'.os=s.os/\AllBare s'.gens/\Un (eZ outer) [] H H' s.heap s'.heap/\gu P w H' s'.heap/\aD v u/\Q v H'
def aaS (CX:CH)(outer:List Env)(P:zr)(w:World)(H:Hp)(s:CW)(Q:VK)(E:XK)(r:Result)(s':CW):Prop :=
 match r with
 | .ok (.ret u)=>CE outer P w H s Q u s'
 | .ok _=>False
 | .error e=>CX outer H s E e s'
structure Ha (P:zr)(w:World)(K:PySem.W.Frag)(mg:vK)(base:Heap)(CX:CH)(k:Nat)(f:Addr)(fd:zI)(ps:Bg)(sp:Sp):Prop where
 len:∀vs H Q E,sp vs H Q E->vs.length=ps.length
 run:∀(A:Around)(outer:List Env)(s:CW)(H:Hp)(args:Args)(us:oN)(vs:List V)(Q:VK)(E:XK),qL k A->FX P w K mg base A outer s H->BindsTo s fd args (ps.zip us)->aK vs us->sp vs H Q E →
  codeAny (model P w) A (.call (.ref f) args) (aaS CX outer P w H s Q E) s
variable {mg:vK}{base:Heap}{outer:List Env}
theorem FX.make (e:FX P w K mg base A outer s H)(C:Addr)(us:oN)(kw:List (Str×Value)):
 FX P w K mg base (A.under (.builtin "type.__call__" ⟨.ref C::us,kw⟩)) outer s H:=⟨by first|exact e.frames|(simpa[Around.under,Code.envs,Code.isFrame,pushEnvs] using e.frames),e.mod,e.bs,e.bsz,e.aav,e.frf,e.hok,e.bare⟩
theorem FX.in1 (e:FX P w K mg base A outer s H):
 FX P w K mg base A.in1 outer s H:=⟨e.frames,e.mod,e.bs,e.bsz,e.aav,e.frf,e.hok,e.bare⟩
section
variable {X:Cx}{pins:List (Addr×Obj)}{σ:St}{H:Hp}{s s':CW}
theorem Inv.abC (I:Inv X pins σ H s):FX X.prog X.w X.K X.mg X.base X.A X.stack s H :=
 ⟨I.ok.frames,I.ok.mod,I.bs,Nat.le_trans I.ok.bsz I.sz,I.stack,I.aaE,I.hok,I.bare⟩
theorem Inv.after (I:Inv X pins σ H s)(h:CE X.stack X.prog X.w H s Q u s'):EP X pins σ Q u s':=by
 obtain⟨v,H',os,bare,un,hok,r,q⟩:=h;obtain⟨hh,g,d,t,Zt⟩:=s';obtain rfl:Zt=s.os:=os;exact⟨v,H',I.call (h':=hh) (g':=g) (d':=d) (t':=t) (ch:=[]) un hok bare (λb z=>absurd z (by simp)),r,q⟩
end
def xA (sp:Sp)(dvs:List V)(E:XK)(t:TA):TE:=λσ H Q=>t σ H λvs H1=>sp (vs++dvs) H1 Q E
def tS (C:Addr)(m:Str)(sp:Sp)(dvs:List V)(E:XK)(ta:TE)(t:TA):TE:=λσ H Q=>ta σ H λx H1=>∃a dx fs,x=.ref a/\H1 a=some (.ins C dx fs)/\fs.lookup m=none /\
 t σ H1 λvs H2=>sp (x::(vs++dvs)) H2 Q E
def BJ (C:Addr)(sp:Sp)(dvs:List V)(E:XK)(t:TA):TE:=λσ H Q=>t σ H λvs H1=>∀x dx,H1 x=none->H1 dx=none->dx≠x →
 sp (.ref x::(vs++dvs)) (upd (upd H1 dx (.own x)) x (.ins C dx [])) (λv H2=>v=.non/\Q (.ref x) H2) E
def aA (K:PySem.W.Frag)(fd:zI)(ps:Bg)(ds:oN):Prop :=
 ∀(s:CW)(us:oN),K.In s.heap->(us++ds).length=ps.length->BindsTo s fd ⟨us,[]⟩ (ps.zip (us++ds))
variable {ps:Bg}
theorem aA.all {fd:zI}(h:∀us:List Value,us.length=ps.length->bindArgs fd ⟨us,[]⟩=pure (ps.zip us)):aA K fd ps []:=λs us _ hl=>by
 rw[List.append_nil] at hl |-;exact .of_eq (h us hl)
def fJ (CX:CH)(X:Cx)(E:XK):Prop:=∀(pins:List (Addr×Obj))(σ:St)(H:Hp)(s:CW)(e:Value)(s':CW),Inv X pins σ H s->CX X.stack H s E e s'->X.xe e s'
section
variable {X:Cx}{CX:CH}{k:Nat}{f C:Addr}{fd:zI}{ps:Bg}{sp:Sp}{dvs:List V}{ds:oN}{E:XK}{x m:Str}{p pos apos:Pos}{e o:Expr}{es:qk}{ta:TE}{t:TA}
theorem oM {us:oN}{vs:List V}(F:Ha X.prog X.w X.K X.mg X.base CX k f fd ps sp)(hr:qL k X.A)(hb:aA X.K fd ps ds)(hd:aK dvs ds)(hx:fJ CX X E)
 (I:Inv X pins σ H s)(r:aK vs us)(h:sp (vs++dvs) H Q E):wpAny (model X.prog X.w) X.A (call (.ref f) us) (EP X pins σ Q) X.xe s:=by
 have r2:aK (vs++dvs) (us++ds):=r.append hd
 have hl:(us++ds).length=ps.length:=by rw[<-r2.length];exact F.len _ _ _ _ h
 refine wpAny_call (codeAny_mono (F.run X.A X.stack s H ⟨us,[]⟩ (us++ds) (vs++dvs) Q E hr I.abC (hb s us I.kIn hl) r2 h) λr s' hq=>?_)
 cases r with
 |error e=>exact hx pins σ H s e s' I hq
 |ok fl =>
  cases fl with
  |ret u=>exact I.after hq
  |next=>exact False.elim hq
  |brk=>exact False.elim hq
  |cont=>exact False.elim hq
theorem av (F:Ha X.prog X.w X.K X.mg X.base CX k f fd ps sp)(hr:qL k X.A)(hg:Gl X x)(hm:X.mg x=some (.ref f))(hk:PySem.W.keepIn X.K (.ref f)=true)(hb:aA X.K fd ps ds)(hd:aK dvs ds)(hx:fJ CX X E)
 (ha:PA X (e::es) t)(JO:(x==("__debug__":Str))=false:=by decide)(he:starEach (e::es) X.env=(false,eval e X.env):: starEach es X.env:=by rfl)(IG:(backTo pos (starEach es X.env)).any (·.1)=false:=by rfl):
 PE X (.Call (.Name x p) (e::es) [] pos) (xA sp dvs E t):=by
 intro pins s σ H Q I h;refine wpAny_Call_Name_kw (ia I hg hm ?_ JO);refine PySem.W.callWith_K (h₀:=X.base) I.ok.mod.kin hk (bu (ha pos pins s σ H _ I h) λus s1 ⟨vs,H1,I1,r,q⟩=>⟨I1.kIn,?_⟩) he IG;exact oM F hr hb hd hx I1 r q
theorem ip (he:PE X o ta)(c:B5 X.K C)(hm:Meth X.K C m f)(F:Ha X.prog X.w X.K X.mg X.base CX k f fd ps sp)(hr:qL k X.A)(hb:aA X.K fd ps ds)(hd:aK dvs ds)(hx:fJ CX X E)(ha:PA X (e::es) t)
 (Kt:starEach (e::es) X.env=(false,eval e X.env):: starEach es X.env:=by rfl)(IG:(backTo pos (starEach es X.env)).any (·.1)=false:=by rfl)
 (ht:eval (.Call (.Attribute o m apos) (e::es) [] pos) X.env=(do
  let ov <-eval o X.env
  standAt apos.atName
  let(f,first) <-holding [ov] (getMethod ov m pl)
  callWith pos f first (backTo pos (starEach (e::es) X.env)) (backToKw pos (keywordEach [] X.env))):=by rfl):
 PE X (.Call (.Attribute o m apos) (e::es) [] pos) (tS C m sp dvs E ta t):=by
 intro pins s σ H Q I h;refine PySem.W.methodCall_KW (pl:=pl) (bu (he pins s σ H _ I h) λu s1 z'=>?_) ht;obtain⟨x,H1,I1,rx,a,dx,fs,ex,ea,l,q⟩:=z';subst ex;obtain rfl:u=Value.ref a:=rx;refine lA I1 ea c hm l ?_;refine PySem.W.callWith_K (first:=[.ref a]) (h₀:=X.base) I.ok.mod.kin hm.kp (bu (ha pos pins s1 σ H1 _ I1 q) λus s2 ⟨vs,H2,I2,r,q2⟩=>⟨I2.kIn,?_⟩) Kt IG;exact oM (us:=.ref a::us) (vs:=.ref a::vs) F hr hb hd hx I2 (.cons rfl r) q2
theorem bN (he:PE X o ta)(c:B5 X.K C)(hm:Meth X.K C m f)(F:Ha X.prog X.w X.K X.mg X.base CX k f fd ps sp)(hr:qL k X.A)(hb:aA X.K fd ps ds)(hd:aK dvs ds)(hx:fJ CX X E)
 (ht:eval (.Call (.Attribute o m apos) [] [] pos) X.env=(do
  let ov <-eval o X.env
  standAt apos.atName
  let(f,first) <-holding [ov] (getMethod ov m pl)
  callWith pos f first (backTo pos (starEach [] X.env)) (backToKw pos (keywordEach [] X.env))):=by rfl):
 PE X (.Call (.Attribute o m apos) [] [] pos) (tS C m sp dvs E ta CP):=by
 intro pins s σ H Q I h;refine PySem.W.methodCall_KW (pl:=pl) (bu (he pins s σ H _ I h) λu s1 z'=>?_) ht;obtain⟨x,H1,I1,rx,a,dx,fs,ex,ea,l,q⟩:=z';subst ex;obtain rfl:u=Value.ref a:=rx;refine lA I1 ea c hm l ?_;exact PySem.W.callWith_K0 (first:=[.ref a]) I1.kIn hm.kp (oM (us:=[.ref a]) (vs:=[.ref a]) F hr hb hd hx I1 (.cons rfl .nil) q)
structure Mk (K:PySem.W.Frag)(C f:Addr):Prop where
 makes:PySem.W.makesIn K C=true
 init:PySem.W.findIn K (.ref C) "__init__"=some (some (.ref f))
 fn:PySem.W.isFn K (.ref f)=true
 kp:PySem.W.keepIn K (.ref C)=true
theorem aaG {vs:List V}(M:Mk X.K C f)(F:Ha X.prog X.w X.K X.mg X.base CX k f fd ps sp)(hr:qL (k+1) X.A)(hb:aA X.K fd ps ds)(hd:aK dvs ds)
 (hx:fJ CX X E)(I:Inv X pins σ H s)(r:aK vs us)
 (h:∀x dx,H x=none->H dx=none->dx≠x->sp (.ref x::(vs++dvs)) (upd (upd H dx (.own x)) x (.ins C dx [])) (λv H2=>v=.non/\Q (.ref x) H2) E):
 wpAny (model X.prog X.w) X.A (call (.ref C) us) (EP X pins σ Q) X.xe s:=by
 have hq:=h (s.heap.objs.size+1) s.heap.objs.size (I.hok.fresh (Nat.le_succ _)) (I.hok.fresh (Nat.le_refl _)) (Nat.ne_of_lt (Nat.lt_succ_self _));have I2:=Inv.made (C:=C) I;have r2:aK (V.ref (s.heap.objs.size+1):: (vs++dvs)) (Value.ref (s.heap.objs.size+1):: (us++ds)):=.cons rfl (r.append hd)
 have hl:(Value.ref (s.heap.objs.size+1):: us++ds).length=ps.length:=by
  have e:=r2.length;rw[F.len _ _ _ _ hq] at e;exact e.symm
 refine wpAny_call (aas (f:=f) I.kIn M.makes M.init (beq_iff_eq.mp M.fn) (codeAny_mono (F.run _ X.stack _ _ ⟨Value.ref (s.heap.objs.size+1):: us,[]⟩ (Value.ref (s.heap.objs.size+1):: (us++ds)) _ _ E (hr.make C us [])
  (I2.abC.make C us []) (hb _ (Value.ref (s.heap.objs.size+1):: us) I2.kIn hl) r2 hq) λr s' JE=>?_))
 cases r with
 |error e=>exact hx pins σ _ _ e s' I2 JE
 |ok fl =>
  cases fl with
  |ret u =>
   obtain⟨v,H',I3,rv,ev,q3⟩:=I2.after JE;subst ev;exact⟨rv,⟨V.ref (s.heap.objs.size+1),H',I3,rfl,q3⟩⟩
  |next=>exact False.elim JE
  |brk=>exact False.elim JE
  |cont=>exact False.elim JE
theorem fX (M:Mk X.K C f)(F:Ha X.prog X.w X.K X.mg X.base CX k f fd ps sp)(hr:qL (k+1) X.A)(hg:Gl X x)(hm:X.mg x=some (.ref C))(hb:aA X.K fd ps ds)(hd:aK dvs ds)(hx:fJ CX X E)
 (ha:PA X (e::es) t)(JO:(x==("__debug__":Str))=false:=by decide)(he:starEach (e::es) X.env=(false,eval e X.env):: starEach es X.env:=by rfl)(IG:(backTo pos (starEach es X.env)).any (·.1)=false:=by rfl):
 PE X (.Call (.Name x p) (e::es) [] pos) (BJ C sp dvs E t):=by
 intro pins s σ H Q I h;refine wpAny_Call_Name_kw (ia I hg hm ?_ JO);refine PySem.W.callWith_K (h₀:=X.base) I.ok.mod.kin M.kp (bu (ha pos pins s σ H _ I h) λus s1 ⟨vs,H1,I1,r,q⟩=>⟨I1.kIn,?_⟩) he IG;exact aaG M F hr hb hd hx I1 r q
end
def PK (X:Cx)(Nq:List Keyword)(t:TA):Prop :=
 ∀(pos:Pos)(pins:List (Addr×Obj))(s:CW)(σ:St)(H:Hp)(Q:List V->Hp->Prop),Inv X pins σ H s->t σ H Q->wpAny (model X.prog X.w) X.A (evalAll ((backToKw pos (keywordEach Nq X.env)).map (·.2))) (AP X pins σ Q) X.xe s
section
variable {X:Cx}{CX:CH}{k:Nat}{f C:Addr}{fd:zI}{ps ks:Bg}{sp:Sp}{E:XK}{x m:Str}{p pos apos kpos:Pos}{e o:Expr}{es:qk}{Nq:List Keyword}{te ta:TE}{t tk:TA}{nm:Option Str}
theorem aaT:PK X [] CP:=λ_ _ _ _ H Q I h=>wpAny_evalAll_nil ⟨[],H,I,.nil,h⟩
theorem aat (ha:PE X e te)(hr:PK X Nq t):PK X (⟨nm,e,kpos⟩::Nq) (bH te t):=by
 intro pos pins s σ H Q I h;show wpAny _ _ (evalAll ((do let v <-eval e X.env;standAt pos;pure v):: (backToKw pos (keywordEach Nq X.env)).map (·.2))) _ _ s;refine wpAny_evalAll_cons (wpAny_bind (bu (ha pins s σ H _ I h) λu s1 ⟨x,H1,I1,r1,q1⟩=>wpAny_bind (wpAny_standAt (wpAny_pure ?_))));exact bu (hr pos pins s1 σ H1 _ I1 q1) λus s2 ⟨xs,H2,I2,r2,q2⟩=>⟨x::xs,H2,I2,.cons r1 r2,q2⟩
variable {g:List Value->List Value->List Value}{gV:List V->List V->List V}
end
structure yx (N P:Bg)(sc:Scope):Prop where
 kind:sc.kind=.function
 co:sc.isCoroutine=false
 gen:sc.isGenerator=false
 nd:N.Nodup
 pre:N.take P.length=P
 par:∀x∈P,sc.names.lookup x=some .local\/sc.names.lookup x=some .cell
 abS:∀y∈sc.names,y.2≠.free
theorem dJ {P:Bg}{sc:Scope}(h:sc.kind=.function/\sc.isCoroutine=false/\sc.isGenerator=false/\N.Nodup/\N.take P.length=P/\(∀x∈P,sc.names.lookup x=some .local\/sc.names.lookup x=some .cell)/\∀y∈sc.names,y.2≠.free):yx N P sc:=⟨h.1,h.2.1,h.2.2.1,h.2.2.2.1,h.2.2.2.2.1,h.2.2.2.2.2.1,h.2.2.2.2.2.2⟩
variable {kindOf:Str->Option NameKind}
theorem nV :∀{binds:List (Str×Value)}{m:vK},(∀v,(x,v)∉binds)->bindL kindOf binds m x=m x
 |[],_,_=>rfl
 |(n,v):: r,m,h=>by
  unfold bindL;rw[nV λw hw=>h w (List.mem_cons_of_mem _ hw)]
  split
  ·have:x≠n:=by rintro rfl;exact h v List.mem_cons_self
   simp[this]
  ·rfl
theorem og :∀{binds:List (Str×Value)}{m:vK},(∀v,(x,v)∉binds)->bindC kindOf binds m x=m x
 |[],_,_=>rfl
 |(n,v):: r,m,h=>by
  unfold bindC;rw[og λw hw=>h w (List.mem_cons_of_mem _ hw)]
  split
  ·rfl
  ·have:x≠n:=by rintro rfl;exact h v List.mem_cons_self
   simp[this]
theorem nZ {v:Value}:∀{P:Bg}{vs:oN}{i:Nat}{m:vK},P.Nodup->P[i]?=some x->vs[i]?=some v->kindOf x=some .local →
 bindL kindOf (P.zip vs) m x=some v
 |[],_,_,_,_,h,_,_=>by simp at h
 |_::_,[],_,_,_,_,h,_=>by simp at h
 |p::P,w::vs,0,m,nd,h1,h2,hk=>by
  simp at h1 h2;subst h1;subst h2;show bindL kindOf ((p,w):: P.zip vs) m p=_;unfold bindL;rw[nV λv hv=>(List.nodup_cons.mp nd).1 (List.of_mem_zip hv).1,if_pos hk];simp
 |p::P,w::vs,i+1,m,nd,h1,h2,hk=>by
  show bindL kindOf ((p,w):: P.zip vs) m x=_;unfold bindL;exact nZ (i:=i) (List.nodup_cons.mp nd).2 (by simpa using h1) (by simpa using h2) hk
theorem nX {v:Value}:∀{P:Bg}{vs:oN}{i:Nat}{m:vK},P.Nodup->P[i]?=some x->vs[i]?=some v->kindOf x≠some .local →
 bindC kindOf (P.zip vs) m x=some v
 |[],_,_,_,_,h,_,_=>by simp at h
 |_::_,[],_,_,_,_,h,_=>by simp at h
 |p::P,w::vs,0,m,nd,h1,h2,hk=>by
  simp at h1 h2;subst h1;subst h2;show bindC kindOf ((p,w):: P.zip vs) m p=_;unfold bindC;rw[og λv hv=>(List.nodup_cons.mp nd).1 (List.of_mem_zip hv).1,if_neg hk];simp
 |p::P,w::vs,i+1,m,nd,h1,h2,hk=>by
  show bindC kindOf ((p,w):: P.zip vs) m x=_;unfold bindC;exact nX (i:=i) (List.nodup_cons.mp nd).2 (by simpa using h1) (by simpa using h2) hk
def iA (N:Bg)(vs:List V):St:=vs.map some++List.replicate (N.length-vs.length) none
def fZ (CX:CH)(P:zr)(w:World)(K:PySem.W.Frag)(mg:vK)(base:Heap)(N:Bg)(qual:Str)(scope:Scope)(f:Addr)(cd:Value)(A:Around)(outer:List Env)(s:CW)(H:Hp)(E:XK):Cx where
 prog:=P
 w:=w
 K:=K
 mg:=mg
 base:=base
 A:=A.deeper (envOfC qual scope s.heap.objs.size f cd)
 N:=N
 s₀:=s
 H₀:=H
 env:=envOfC qual scope s.heap.objs.size f cd
 outer:=outer
 stack:=envOfC qual scope s.heap.objs.size f cd::outer
 ex:=[]
 calm:=true
 fn:=λ_=>true
 pn:=[]
 xe:=λe s'=>wpAny (model P w) (A.deeper (envOfC qual scope s.heap.objs.size f cd)) (leaving (envOfC qual scope s.heap.objs.size f cd) e) (λ_ Sl=>CX outer H s E e Sl) (λe' Sl=>CX outer H s E e' Sl) s'
theorem qX {sc:Scope}{n:Nat}(h:sc.names.lookup x=some .cell):∃c,(cellsFrom n sc.names []).lookup x=some c:=by
 have q:=PySem.W.cellsFrom_some sc.names n [] (.inl h);exact Option.isSome_iff_exists.mp q
theorem Bad {CX:CH}{qual:Str}{scope:Scope}{f:Addr}{cd:Value}{s1:CW}{E:XK}{vs:List V}
 (S:yx N ps scope)(hd:A.handled=none)(e0:FX P w K mg base A outer s H)(hl:vs.length=ps.length)(r:aK vs us)
 (x:InCallC s s.heap.objs.size (bindL (envOfC qual scope s.heap.objs.size f cd).kindOf (ps.zip us) λ_=>none) (cellsFrom (s.heap.objs.size+1) scope.names []) (bindC (envOfC qual scope s.heap.objs.size f cd).kindOf (ps.zip us) λ_=>none) s1):
 Inv (fZ CX P w K mg base N qual scope f cd A outer s H E) [] (iA N vs) H s1:=by
 have IG:ps.length<=N.length:=by have:=congrArg List.length S.pre;rw[List.length_take] at this;omega
 obtain⟨h1,tk,rfl,hk⟩:=x.done;have noA:∀b:Addr,b∉(fZ CX P w K mg base N qual scope f cd A outer s H E).ex:=λb z=>absurd (show b∈([]:List Addr) from z) (by simp)
 refine⟨⟨e0.mod,S.kind,rfl,rfl,Nat.le_refl _,λy z c h1 h2=>?_,λy hy=>?_,λy c _ h=>?_,λ_=>hd,Around.frames_deeper e0.frames,.inr ⟨rfl,rfl⟩,λb z=>absurd z (noA b),e0.bs,e0.bsz,λb _ _=>noA b,λb z=>absurd z (noA b),e0.aav,e0.frf⟩,
  rfl,e0.bare,Un.kept hk,⟨_,x.toInCall.ns,λi y v h1 h2 h3=>?_⟩,λy c h=>⟨_,x.cell y c h⟩,e0.hok.fresh (Nat.le_refl _),λy c h=>?_,λp hp=>absurd (show p∈([]:List (Addr×Obj)) from hp) (by simp),e0.hok.kept hk,?_⟩
 ·exact name_of_addr x.apart (PySem.mem_of_lookup h1) (PySem.mem_of_lookup h2)
 ·have hy:scope.names.lookup y=some .cell\/scope.names.lookup y=some .free:=hy
  rcases hy with hy|hy
  ·exact qX hy
  ·exact absurd rfl (S.abS _ (PySem.mem_of_lookup hy))
 ·exact Nat.le_of_lt (x.above y c (PySem.mem_of_lookup h))
 ·have hi:i<vs.length:=by
   unfold iA at h2
   by_cases hi:i<vs.length
   ·exact hi
   ·rw[List.getElem?_append_right (by simpa using hi)] at h2;rw[List.getElem?_replicate] at h2
    split at h2 <;> cases h2
  have ha:vs[i]?=some v:=by
   unfold iA at h2;rw[List.getElem?_append_left (by simpa using hi),List.getElem?_map] at h2
   cases e:vs[i]? with
   |none=>rw[e] at h2;cases h2
   |some a=>rw[e] at h2;cases h2;rfl
  obtain⟨u,hu,rv⟩:=r.get ha
  have hp:ps[i]?=some y:=by
   rw[<-S.pre,List.getElem?_take_of_lt (by omega)];exact h1
  have W5:ps.Nodup:=by rw[<-S.pre];exact S.nd.sublist (List.take_sublist _ _)
  refine⟨u,rv,?_⟩
  rcases S.par y (List.mem_of_getElem? hp) with k|k
  ·exact .inl ⟨k,nZ W5 hp hu k⟩
  ·obtain⟨c,e⟩:=qX (n:=s.heap.objs.size+1) k;refine .inr ⟨.inl k,c,e,?_⟩;have q:=x.cell y c e;rw[nX W5 hp hu (by show scope.names.lookup y≠_;rw[k];decide)] at q;exact q
 ·exact e0.hok.fresh (Nat.le_of_lt (x.above y c (PySem.mem_of_lookup h)))
 ·unfold iA;show _=N.length;rw[List.length_append,List.length_map,List.length_replicate];omega
theorem zB {CX:CH}{f:Addr}{name qual:Str}{params:Arguments}{scope:Scope}{dV kV doc pm Hn ct oc:Value}{an od:Cw}
 {HG:Ei}{sp:Sp}(lk:K.lookup f=some ⟨oc,od,.func (PySem.W.fnOf name qual params body scope dV kV doc pm an Hn ct),HG⟩)(Ia:PySem.W.codeIn K Hn qual=true)(S:yx N ps scope)
 (len:∀vs H Q E,sp vs H Q E->vs.length=ps.length)
 (Ic:∀(A:Around)(outer:List Env)(s:CW)(H:Hp)(vs:List V)(Q:VK)(E:XK),qL k (A.deeper (envOfC qual scope s.heap.objs.size f Hn))->sp vs H Q E →
  ∃t,rX (fZ CX P w K mg base N qual scope f Hn A outer s H E) body t/\t {nx:=λ_ H'=>Q .non H',rt:=Q} (iA N vs) H):
 Ha P w K mg base CX (k+1) f (PySem.W.fnOf name qual params body scope dV kV doc pm an Hn ct) ps sp:=by
 refine⟨len,λA outer s H args us vs Q E hr e0 hb r JK=>?_⟩;have hl:=len _ _ _ _ JK;have KX:K.In s.heap:=e0.mod.kin.keeps λb o e=>(e0.bs b o e).1;have lim:s.heap.NoLimit:=e0.mod.nolimit.keeps λb o e=>(e0.bs b o e).1
 have IX:∀y∈ps.zip us,scope.names.lookup y.1=some .local\/(scope.names.lookup y.1=some .cell/\((cellsFrom (s.heap.objs.size+1) scope.names []).lookup y.1).isSome=true):=λ⟨n,v⟩ hy=>by
  rcases S.par n (List.of_mem_zip hy).1 with q|q
  ·exact .inl q
  ·exact .inr ⟨q,PySem.W.cellsFrom_some _ _ _ (.inl q)⟩
 refine codeAny_call_function hr.depth (KX _ _ lk) rfl S.co S.gen rfl (PySem.W.codeRec_of KX Ia) (hb _ _ _ _ ?_);refine wpAny_newFunctionEnv_cells S.kind IX λenv he s1 x=>?_;subst he;refine⟨lim.keeps x.toInCall.keep,codeAny_func ?_⟩;obtain⟨t,ht,hq⟩:=Ic A outer s H vs Q E (hr.deeper _) JK;have I:Inv (fZ CX P w K mg base N qual scope f Hn A outer s H E) [] (iA N vs) H s1:=Bad S hr.hd e0 hl r x;refine wpAny_mono (ht [] s1 (iA N vs) H _ I hq) (λfl s' hs=>?_) λe s' hs=>hs
 have fin:∀{σ':St}{H':Hp}{v:V}{u:Value},Inv (fZ CX P w K mg base N qual scope f Hn A outer s H E) [] σ' H' s'->aD v u->Q v H'->CE outer P w H s Q u s' :=
  λ{σ' H' v u} J rv q=>⟨v,H',J.os,J.bare,J.base,J.hok,rv,q⟩
 cases fl with
 |ret u =>
  obtain⟨v,σ',H',J,rv,q⟩:=hs;exact fin J rv q
 |next =>
  obtain⟨σ',H',J,q⟩:=hs;exact fin (v:=V.non) (u:=Value.none) J rfl q
 |brk =>
  obtain⟨_,_,_,q⟩:=hs;exact False.elim q
 |cont =>
  obtain⟨_,_,_,q⟩:=hs;exact False.elim q
section
variable {X:Cx}{x:Str}{p pos:Pos}{e:Expr}{es:qk}{t:TA}{id T:String}{r:List V->Hp->VK->Prop}
def Cd (r:List V->Hp->VK->Prop)(t:TA):TE:=λσ H Q=>t σ H λvs H1=>r vs H1 Q
theorem az (hc:cH X (.builtin id) r)(hg:Gl X x)(hm:X.mg x=none)(hv:bootBuiltins x=some (.builtin id))(ha:PA X (e::es) t)(hn:x ≠ "__name__":=by decide)(JO:(x==("__debug__":Str))=false:=by decide)
 (he:starEach (e::es) X.env=(false,eval e X.env):: starEach es X.env:=by rfl)(IG:(backTo pos (starEach es X.env)).any (·.1)=false:=by rfl):PE X (.Call (.Name x p) (e::es) [] pos) (Cd r t):=by
 intro pins s σ H Q I h;refine wpAny_Call_Name_kw (dm I hg hm hv ?_ hn JO);exact PyProof.Rows.callWith_builtin1 (bu (ha pos pins s σ H _ I h) λus s1 ⟨vs,H1,I1,r1,q1⟩=>hc pins s1 σ H1 vs us Q I1 r1 q1) he IG
theorem bK (hc:cH X (.type T) r)(hg:Gl X x)(hm:X.mg x=none)(hv:bootBuiltins x=some (.type T))(ha:PA X (e::es) t)(hn:x ≠ "__name__":=by decide)(JO:(x==("__debug__":Str))=false:=by decide)
 (he:starEach (e::es) X.env=(false,eval e X.env):: starEach es X.env:=by rfl)(IG:(backTo pos (starEach es X.env)).any (·.1)=false:=by rfl):PE X (.Call (.Name x p) (e::es) [] pos) (Cd r t):=by
 intro pins s σ H Q I h;refine wpAny_Call_Name_kw (dm I hg hm hv ?_ hn JO);exact PyProof.Rows.callWith_type1 (bu (ha pos pins s σ H _ I h) λus s1 ⟨vs,H1,I1,r1,q1⟩=>hc pins s1 σ H1 vs us Q I1 r1 q1) he IG
end
section
variable {κ:Type} [DecidableEq κ]
def jA (Hh:List (κ×V))(k:κ):Option V:=(Hh.find? λkv=>decide (kv.1=k)).map (·.2)
def eW (Hh:List (κ×V))(k:κ)(v:V):List (κ×V):=
 if(Hh.any λkv=>decide (kv.1=k))=true then Hh.map (λkv=>if kv.1=k then(kv.1,v) else kv) else Hh++[(k,v)]
theorem iX {p:κ×V}{r:List (κ×V)}{k:κ}(e:p.1=k):jA (p::r) k=some p.2:=by simp[jA,List.find?_cons,e]
theorem gK {p:κ×V}{r:List (κ×V)}{k:κ}(e:¬p.1=k):jA (p::r) k=jA r k:=by simp[jA,List.find?_cons,e]
theorem kX (k:κ):∀Hh:List (κ×V),(Hh.any λkv=>decide (kv.1=k))=(jA Hh k).isSome
 |[]=>rfl
 |p::r=>by
  rw[List.any_cons]
  by_cases e:p.1=k
  ·simp only[iX e,decide_eq_true e,Bool.true_or,Option.isSome_some]
  ·rw[gK e,decide_eq_false e,Bool.false_or];exact kX k r
theorem gR (Hh:List (κ×V))(k:κ)(v:V):(eW Hh k v).length<=Hh.length+1:=by
 unfold eW
 split
 ·rw[List.length_map];omega
 ·rw[List.length_append,List.length_cons,List.length_nil];omega
theorem fb.aaI {o:Option V}{u:DV}(r:fb o u):o.isSome=u.isSome:=by
 cases o with
 |none=>cases u with
  |none=>rfl
  |some _=>exact(show False from r).elim
 |some _=>cases u with
  |none=>exact(show False from r).elim
  |some _=>rfl
theorem fb.getD {o:Option V}{u:DV}{d:V}{d':Value}(r:fb o u)(rd:aD d d'):aD (o.getD d) (u.getD d'):=by
 cases o with
 |none=>cases u with
  |none=>exact rd
  |some _=>exact(show False from r).elim
 |some _=>cases u with
  |none=>exact(show False from r).elim
  |some _=>exact r
theorem KV.val {Hh:List (κ×V)}{vs:List (κ×Value)}(r:KV Hh vs)(k:κ):fb (jA Hh k) (valueAt vs k):=by
 unfold KV at r
 induction r with
 |nil=>exact True.intro
 |@cons p q ps qs h t ih =>
  obtain⟨h1,h2⟩:=h
  by_cases e:p.1=k
  ·have e':q.1=k:=h1.symm.trans e
   have b:valueAt (q::qs) k=some q.2:=by simp[valueAt,List.find?_cons,e']
   rw[iX e,b];exact h2
  ·have e':¬q.1=k:=λz=>e (h1.trans z)
   have b:valueAt (q::qs) k=valueAt qs k:=by simp[valueAt,List.find?_cons,e']
   rw[gK e,b];exact ih
theorem KV.any {Hh:List (κ×V)}{vs:List (κ×Value)}(r:KV Hh vs)(k:κ):(Hh.any λkv=>decide (kv.1=k))=vs.any λkv=>decide (kv.1=k):=by
 unfold KV at r
 induction r with
 |nil=>rfl
 |cons h t ih=>rw[List.any_cons,List.any_cons,ih,h.1]
theorem KV.abU {Hh:List (κ×V)}{vs:List (κ×Value)}(r:KV Hh vs)(k:κ)(ry:aD y u):
 KV (Hh.map λkv=>if kv.1=k then(kv.1,y) else kv) (vs.map λkv=>if kv.1=k then(kv.1,u) else kv):=by
 unfold KV at r |-
 induction r with
 |nil=>exact .nil
 |@cons p q ps qs h t ih =>
  rw[List.map_cons,List.map_cons];refine .cons ?_ ih;obtain⟨h1,h2⟩:=h
  by_cases e:p.1=k
  ·rw[if_pos e,if_pos (h1.symm.trans e)];exact⟨h1,ry⟩
  ·rw[if_neg e,if_neg (λz=>e (h1.trans z))];exact⟨h1,h2⟩
theorem KV.put {Hh:List (κ×V)}{vs:List (κ×Value)}(r:KV Hh vs)(k:κ)(ry:aD y u):KV (eW Hh k y) (stored vs k u):=by
 unfold eW stored;rw[r.any k]
 by_cases e:(vs.any λkv=>decide (kv.1=k))=true
 ·rw[if_pos e,if_pos e];exact r.abU k ry
 ·rw[if_neg e,if_neg e];exact Paired.snoc r ⟨rfl,ry⟩
theorem KV.length {Hh:List (κ×V)}{vs:List (κ×Value)}(r:KV Hh vs):Hh.length=vs.length:=Paired.length r
end
theorem nY {k:Key}(r:aD (kV k) u):(bx P w).is k u=true:=by
 cases k with
 |inl i=>obtain⟨t,e⟩:=(show ∃t,u=Value.int i t from r);subst e;exact abo P w i t
 |inr x=>obtain⟨t,e⟩:=(show ∃t,u=Value.str x t from r);subst e;exact abG P w x t
theorem nH :∀{ks:List Key}{us:oN},aK (ks.map kV) us->ItemsAre (bx P w) ks us
 |[],_,r=>by rw[List.map_nil] at r;cases r;exact .nil
 |k::ks,_,r=>by
  rw[List.map_cons] at r
  cases r with
  |cons h t=>exact .cons (nY h) (nH t)
abbrev KT (H:Hp):List (List Key×V)->List (List Key×Addr×Value)->Prop:=Paired λp q=>p.1=q.1/\H q.2.1=some (.tup (p.1.map kV))/\aD p.2 q.2.2
variable {Hh:List (List Key×V)}{xs:List (List Key×Addr×Value)}
theorem KT.val (r:KT H Hh xs)(k:List Key):fb (jA Hh k) ((atKey xs k).map (·.2)):=by
 induction r with
 |nil=>exact True.intro
 |@cons p q ps qs h t ih =>
  obtain⟨h1,_,h2⟩:=h
  by_cases e:p.1=k
  ·have e':q.1=k:=h1.symm.trans e
   have b:atKey (q::qs) k=some q.2:=by simp[atKey,List.find?_cons,e']
   rw[iX e,b];exact h2
  ·have e':¬q.1=k:=λz=>e (h1.trans z)
   have b:atKey (q::qs) k=atKey qs k:=by simp[atKey,List.find?_cons,e']
   rw[gK e,b];exact ih
theorem KT.abU (r:KT H Hh xs)(k:List Key)(ry:aD y u):
 KT H (Hh.map λkv=>if kv.1=k then(kv.1,y) else kv) (xs.map (putAt k u)):=by
 induction r with
 |nil=>exact .nil
 |@cons p q ps qs h t ih =>
  rw[List.map_cons,List.map_cons];refine .cons ?_ ih;obtain⟨h1,h2,h3⟩:=h;unfold putAt
  by_cases e:p.1=k
  ·rw[if_pos e,if_pos (h1.symm.trans e)];exact⟨h1,h2,ry⟩
  ·rw[if_neg e,if_neg (λz=>e (h1.trans z))];exact⟨h1,h2,h3⟩
theorem KT.put (r:KT H Hh xs)(k:List Key)(hb:H b=some (.tup (k.map kV)))(ry:aD y u):
 KT H (eW Hh k y) (storedH xs k b u):=by
 have e:(Hh.any λkv=>decide (kv.1=k))=(atKey xs k).isSome:=by
  rw[kX,(r.val k).aaI,Option.isSome_map]
 unfold eW storedH;rw[e]
 by_cases q:(atKey xs k).isSome=true
 ·rw[if_pos q,if_pos q];exact r.abU k ry
 ·rw[if_neg q,if_neg q];exact Paired.snoc r ⟨rfl,hb,ry⟩
theorem KT.keeps (r:KT H Hh xs)(ht:∀b ys,H b=some (.tup ys)->H' b=some (.tup ys)):KT H' Hh xs :=
 Paired.aaP r λ_ _ z=>⟨z.1,ht _ _ z.2.1,z.2.2⟩
section
variable {P:zr}{w:World}{H:Hp}{h:Heap}{a:Addr}
theorem BO {u:HO}(ok:gu P w H h)(e:Rd H a u):bc P w H h a u:=e.ok ok
theorem ly {Hh:List (Key×V)}(ok:gu P w H h)(e:Rd H a (.dK Hh)):Hh.length<=sizeLine/\(a==sysModules)=false/\∃vs,KV Hh vs/\h.DictOf (bx P w) a vs :=
 show bc P w H h a (.dK Hh) from BO ok e
theorem wX {Hh:List (Key×V)}(ok:gu P w H h)(e:H a=some (.dK Hh)):Hh.length<=sizeLine/\(a==sysModules)=false/\∃vs,KV Hh vs/\h.DictOf (bx P w) a vs:=ly ok (.inl e)
theorem kK {ks:List Key}(ok:gu P w H h)(e:H a=some (.tup (ks.map kV))):(tupleKind (bx P w)).is h ks a:=by
 obtain⟨_,its,r,o,h1,h2,n,h3⟩:=(show bc P w H h a (.tup (ks.map kV)) from ok a _ e);exact⟨o,its.toArray,n,h1,h2,h3,by simpa using nH r⟩
theorem n5 (ok:gu P w H h)(e:Rd H a (.dT Hh)):Hh.length<=sizeLine/\(a==sysModules)=false /\
 ∃xs,KT H Hh xs/\h.DictOfH (tupleKind (bx P w)) a xs:=by
 obtain⟨z,y,xs,r,o,es,ep,h1,h2,h3,h4,h5⟩:=(show bc P w H h a (.dT Hh) from BO ok e);refine⟨z,y,xs,r,o,es,ep,h1,h2,h3,h4,λx hx=>?_,h5⟩
 have all:∀{l:List (List Key×V)}{m:List (List Key×Addr×Value)},KT H l m->∀x∈m,(tupleKind (bx P w)).is h x.1 x.2.1:=by
  intro l m q
  induction q with
  |nil=>intro x hx;exact nomatch hx
  |@cons p q ps qs hq t ih =>
   intro x hx
   rcases List.mem_cons.mp hx with e|hx
   ·subst e;exact kK ok (by rw[<-hq.1];exact hq.2.1)
   ·exact ih x hx
 exact all r x hx
theorem acA (ok:gu P w H h)(e:H a=some (.dT Hh)):Hh.length<=sizeLine/\(a==sysModules)=false /\
 ∃xs,KT H Hh xs/\h.DictOfH (tupleKind (bx P w)) a xs:=n5 ok (.inl e)
end
def jw (H:Hp)(a:Addr)(y:V)(r:Option V):Prop :=
 (∃Hh k,Rd H a (.dK Hh)/\y=kV k/\r=jA Hh k)\/∃Hh k b,Rd H a (.dT Hh)/\y=.ref b/\H b=some (.tup (k.map kV))/\r=jA Hh k
def qC (H:Hp)(a:Addr)(y v:V)(H':Hp):Prop :=
 (∃Hh k,H a=some (.dK Hh)/\y=kV k/\Hh.length<sizeLine/\H'=upd H a (.dK (eW Hh k v))) \/
 ∃Hh k b,H a=some (.dT Hh)/\y=.ref b/\H b=some (.tup (k.map kV))/\Hh.length<sizeLine/\H'=upd H a (.dT (eW Hh k v))
theorem jw.t {b:Addr}{k:List Key}(e:H a=some (.dT Hh))(eb:H b=some (.tup (k.map kV))):jw H a (.ref b) (jA Hh k):=.inr ⟨Hh,k,b,.inl e,rfl,eb,rfl⟩
theorem qC.t {b:Addr}{k:List Key}(e:H a=some (.dT Hh))(eb:H b=some (.tup (k.map kV)))(hl:Hh.length<sizeLine):
 qC H a (.ref b) v (upd H a (.dT (eW Hh k v))):=.inr ⟨Hh,k,b,e,rfl,eb,hl,rfl⟩
section
variable {X:Cx}{pins:List (Addr×Obj)}{σ:St}{H:Hp}{s:CW}{a:Addr}{y v:V}{u r:Value}{o:Option V}{A:Around}{E:yf}
theorem Inv.big (I:Inv X pins σ H s):sysModules<s.heap.objs.size:=by
 have h:mainGlobals<s.heap.objs.size:=(I.mod.glob.keeps I.bk).lt;exact Nat.lt_trans (by decide) h
theorem acB {Q:yf}(hu:A.units+1<cLine)(I:Inv X pins σ H s)(g:jw H a y (some v))(ry:aD y u)(h:∀w' s',Inv X pins σ H s'->aD v w'->Q w' s'):
 wpAny (model X.prog X.w) A (getItem (.ref a) u) Q E s:=by
 rcases g with⟨Hh,k,e,ey,l⟩|⟨Hh,k,b,e,ey,eb,l⟩
 ·subst ey;obtain⟨z,hd,vs,rel,dd⟩:=ly I.hok e;obtain⟨w',hw,IA⟩:=fb.some_of (v:=v) (o:=valueAt vs k) (by rw[l];exact rel.val k);exact wpAny_getItem_of (nY ry) dd.mapOf hw (h w' _ (I.tok _) IA)
 ·subst ey
  cases(show u=Value.ref b from ry)
  obtain⟨z,hd,xs,rel,dd⟩:=n5 I.hok e;obtain⟨w',hw,IA⟩:=fb.some_of (v:=v) (o:=(atKey xs k).map (·.2)) (by rw[l];exact rel.val k);obtain⟨p,hp,Kv⟩:=Option.map_eq_some_iff.mp hw;refine wpAny_getItem_heap (tupleKind_room_in1 hu) (kK I.hok eb) dd hp ?_;rw[Kv];exact h w' _ (I.tok _) IA
theorem acC {Q:yf}(hu:A.units+1<cLine)(I:Inv X pins σ H s)(g:jw H a y o)(ry:aD y u)(h:∀s',Inv X pins σ H s'->Q (.bool o.isSome) s'):
 wpAny (model X.prog X.w) A (compareOp .In u (.ref a)) Q E s:=by
 rcases g with⟨Hh,k,e,ey,l⟩|⟨Hh,k,b,e,ey,eb,l⟩
 ·subst ey;obtain⟨z,hd,vs,rel,dd⟩:=ly I.hok e;refine wpAny_in_of (nY ry) hd dd.mapOf ?_;rw[<-(rel.val k).aaI,<-l];exact h _ (I.tok _)
 ·subst ey
  cases(show u=Value.ref b from ry)
  obtain⟨z,hd,xs,rel,dd⟩:=n5 I.hok e;refine wpAny_in_heap (tupleKind_room_in1 hu) (kK I.hok eb) hd dd ?_;have q:=(rel.val k).aaI;rw[Option.isSome_map] at q;rw[<-q,<-l];exact h _ (I.tok _)
theorem oY {h':Heap}{t':Nat}{ob:HO}(I:Inv X pins σ H s)(mu:DS (H a))(hs:Heap.SameBut a s.heap h')(he:∃q,h'.get? a=some q)(new:bc X.prog X.w (upd H a ob) h' a ob):
 Inv X pins σ (upd H a ob) {s with heap:=h',toks:=t'}:=
 I.write (x:=a) (e:=a) mu (.inl rfl) (λb q hb z=>(hs.2 b hb).trans z) he new
theorem zq {h':Heap}{Hh:List (Key×V)}{vs:List (Key×Value)}(z:Hh.length<=sizeLine)(hd:(a==sysModules)=false)(rel:KV Hh vs)(dd:h'.DictOf (bx P w) a vs):
 bc P w H' h' a (.dK Hh):=⟨z,hd,vs,rel,dd⟩
theorem acD {Q:Unit->Shared->Prop}(hu:A.units+1<cLine)(I:Inv X pins σ H s)(g:qC H a y v H')(ry:aD y u)(rv:aD v r)(h:∀s',Inv X pins σ H' s'->Q () s'):
 wpAny (model X.prog X.w) A (setItem (.ref a) u r) Q E s:=by
 rcases g with⟨Hh,k,e,ey,l,eH⟩|⟨Hh,k,b,e,ey,eb,l,eH⟩
 ·subst ey eH;obtain⟨z,hd,vs,rel,dd⟩:=wX I.hok e
  have hz:vs.length<=sizeLine:=by rw[<-rel.length];exact z
  have hl:(eW Hh k v).length<=sizeLine:=by have:=gR Hh k v;omega
  refine wpAny_setItem_pairs (hsz:=hz) (nY ry) dd λh' LH hs=>h _ ?_;have he:∃q,h'.get? a=some q:=let⟨q,_,_,hq,_⟩:=LH;⟨q,hq⟩;exact oY I (by rw[e];exact True.intro) hs he (zq hl hd (rel.put k rv) LH)
 ·subst ey eH
  cases(show u=Value.ref b from ry)
  obtain⟨z,hd,xs,rel,dd⟩:=acA I.hok e
  have hz:xs.length<=sizeLine:=by rw[<-Paired.length rel];exact z
  have hl:(eW Hh k v).length<=sizeLine:=by have:=gR Hh k v;omega
  refine wpAny_setItem_heap (hsz:=hz) (tupleKind_room_in1 hu) (kK I.hok eb) dd λh' LH hs=>h _ ?_;obtain⟨q,es,ep,hq,h2,h3,h4,_,h5⟩:=LH;refine oY I (by rw[e];exact True.intro) hs ⟨q,hq⟩ ⟨hl,hd,_,(rel.put k eb rv).keeps λc ys ec=>?_,q,es,ep,hq,h2,h3,h4,h5⟩;rw[aq (xv ec e (λz=>nomatch z))];exact ec
end
def Ec (i:Expr):Prop:=∀ov iv,subscripted i false ov iv=operate [ov,iv] (getItem ov iv)
theorem acE {prog:zr}{E:yf}{env:Env}{value slice:Expr}{T id:String}{Q:yf}
 (hl:typeLookup (.type T) "__getitem__"=pure (some (.builtin id)))(hs:Ec slice)
 (h:wpAny (model prog w) A (eval value env) (λo s₁=>wpAny (model prog w) A (eval slice env) (λi s₂=>s₂.TypeIs o T/\wpAny (model prog w) A (getItem o i) Q E s₂) E s₁) E s):
 wpAny (model prog w) A (eval (.Subscript value slice pos) env) Q E s:=by
 refine Subscript_ (wpAny_mono h (λo s₁ h₁=>wpAny_mono h₁ (λi s₂ h₂=>?_) λ_ _ x=>x) λ_ _ x=>x);obtain⟨hT,h₂⟩:=h₂;unfold subscriptTail;refine wpAny_bind ?_;rw[getitemInPython_of_ne hT.not_modules];refine wpAny_bind (wpAny_specialOf hT hl ?_)
 have fin:wpAny (model prog w) A (subscripted slice false o i) (λr s₃=>wpAny (model prog w) A (letTemporaryGo value o r>>=λ_=>pure r) Q E s₃) E s₂:=by
  rw[hs o i];exact wpAny_operating (wpAny_mono h₂ (λr s₃ h₃=>wpAny_bind (wpAny_letTemporaryGo (wpAny_pure h₃))) λ_ _ x=>x)
 first
  |exact wpAny_pure (wpAny_bind fin)
  |exact wpAny_bind (wpAny_pure (wpAny_bind fin))
  |exact wpAny_bind fin
theorem acF {o:Option V}(I:Inv X pins σ H s)(g:jw H a y o):s.TypeIs (.ref a) "dict":=by
 rcases g with⟨Hh,k,e,_,_⟩|⟨Hh,k,b,e,_,_,_⟩
 ·obtain⟨_,_,vs,_,dd⟩:=ly I.hok e;exact dd.typeIs
 ·obtain⟨_,_,xs,_,dd⟩:=n5 I.hok e;exact dd.typeIs
def acG (td ty:TE):TE:=λσ H Q=>td σ H λx H1=>ty σ H1 λy H2=>∃a v,x=.ref a/\jw H2 a y (some v)/\Q v H2
def acH (ty td:TE):TE:=λσ H Q=>ty σ H λy H1=>td σ H1 λx H2=>∃a o,x=.ref a/\jw H2 a y o/\Q (.bl o.isSome) H2
def acI (td ty tv:TE):TS:=λD σ H=>tv σ H λv H1=>td σ H1 λx H2=>ty σ H2 λy H3=>∃a H4,x=.ref a/\qC H3 a y v H4/\D.nx σ H4
section
variable {X:Cx}{o i e value:Expr}{pos pos' Sj:Pos}{td ty tv:TE}
theorem oB (hu:X.A.units+1<cLine)(ho:PE X o td)(hi:PE X i ty)(hs:Ec i):PE X (.Subscript o i pos) (acG td ty):=by
 intro pins s σ H Q I h;refine acE PySem.F.slot_dict_getitem.lookup hs (bu (ho pins s σ H _ I h) λu s1 ⟨x,H1,I1,rx,q1⟩=>bu (hi pins s1 σ H1 _ I1 q1) λiv s2 z'=>?_);obtain⟨y,H2,I2,ry,a,v,ex,g,q2⟩:=z';subst ex;obtain rfl:u=Value.ref a:=rx;exact⟨acF I2 g,acB hu I2 g ry λw' s3 I3 IA=>⟨v,H2,I3,IA,q2⟩⟩
theorem acJ (hu:X.A.units+1<cLine)(hi:PE X i ty)(ho:PE X o td):PC X .In i o (acH ty td):=by
 intro pins s σ H Q I h;refine bu (hi pins s σ H _ I h) λiv s1 ⟨y,H1,I1,ry,q1⟩=>bu (ho pins s1 σ H1 _ I1 q1) λu s2 z'=>?_;obtain⟨x,H2,I2,rx,a,ov,ex,g,q2⟩:=z';subst ex;obtain rfl:u=Value.ref a:=rx;exact acC hu I2 g ry λs3 I3=>⟨.bl ov.isSome,H2,I3,rfl,q2⟩
theorem uF (hu:X.A.units+1<cLine)(ho:PE X o td)(hi:PE X i ty)(hv:PE X value tv)(hs:swapsWith value (some (.Subscript o i pos')) pos.line X.env=pure false):
 PS X (.Assign [.Subscript o i pos'] value pos) (acI td ty tv):=by
 intro pins s σ H D I h;refine wpAny_Assign_Subscript (bu (hv pins s σ H _ I h) λr s1 ⟨v,H1,I1,rv,q1⟩=>bu (ho pins s1 σ H1 _ I1 q1) λu s2 ⟨x,H2,I2,rx,q2⟩=>bu (hi pins s2 σ H2 _ I2 q2) λiv s3 z'=>?_) hs;obtain⟨y,H3,I3,ry,a,H4,ex,g,q3⟩:=z';subst ex;obtain rfl:u=Value.ref a:=rx;exact acD hu I3 g ry rv λs4 I4=>⟨σ,H4,I4,q3⟩
end
theorem pX (h:Heap)(hb:sysModules<h.objs.size):bc P w H (h.push {cls:=.type "dict",data:=.dict #[]}) h.objs.size (.dK []):=
 ⟨Nat.zero_le _,beq_eq_false_iff_ne.mpr (Ne.symm (Nat.ne_of_lt hb)),[],.nil,Heap.DictOf.new h⟩
theorem acK (h:Heap)(hb:sysModules<h.objs.size):bc P w H (h.push {cls:=.type "dict",data:=.dict #[]}) h.objs.size (.dT []):=
 ⟨Nat.zero_le _,beq_eq_false_iff_ne.mpr (Ne.symm (Nat.ne_of_lt hb)),[],.nil,_,#[],0,Heap.get?_push_size _ rfl,⟨rfl,rfl,rfl⟩,rfl,rfl,List.nodup_nil⟩
def abV:TE:=λ_ H Q=>∀p,H p=none->Q (.ref p) (upd H p (.dK []))
def abW:TE:=λ_ H Q=>∀p,H p=none->Q (.ref p) (upd H p (.dT []))
section
variable {X:Cx}{pos:Pos}
theorem acL:PE X (.Dict [] [] pos) abV:=λpins s σ H Q I h =>
 wpAny_Dict_empty ⟨.ref s.heap.objs.size,_,I.laid (a:=s.heap.objs.size) (o:=.dK []) (t':=s.toks) (λ_ _ q=>Heap.get?_push_of_some _ q) (Nat.le_refl _) (pX s.heap I.big),rfl,h _ (I.hok.fresh (Nat.le_refl _))⟩
theorem pN:PE X (.Dict [] [] pos) abW:=λpins s σ H Q I h =>
 wpAny_Dict_empty ⟨.ref s.heap.objs.size,_,I.laid (a:=s.heap.objs.size) (o:=.dT []) (t':=s.toks) (λ_ _ q=>Heap.get?_push_of_some _ q) (Nat.le_refl _) (acK s.heap I.big),rfl,h _ (I.hok.fresh (Nat.le_refl _))⟩
end
def tD:List (TE×TE)->St->Hp->(List (V×V)->Hp->Prop)->Prop
 |[],_,H,Q=>Q [] H
 |(tk,tv):: r,σ,H,Q=>tk σ H λx H1=>tv σ H1 λy H2=>tD r σ H2 λps H3=>Q ((x,y):: ps) H3
abbrev VV:List (V×V)->List (Value×Value)->Prop:=Paired λp q=>aD p.1 q.1/\aD p.2 q.2
def E9 (X:Cx)(pos:Pos)(keys:List (Option Expr))(values:qk)(Kw:List (TE×TE)):Prop :=
 ∀(pins:List (Addr×Obj))(s:CW)(σ:St)(H:Hp)(Q:List (V×V)->Hp->Prop),Inv X pins σ H s->tD Kw σ H Q →
  wpAny (model X.prog X.w) X.A (evalPairs (pairTrees keys values X.env pos)) (λvs s'=>∃ps H',Inv X pins σ H' s'/\VV ps vs/\Q ps H') X.xe s
theorem acM :E9 X pos [] [] []:=λpins s σ H Q I h=>pairTrees_nil_walk ⟨[],H,I,.nil,h⟩
theorem abh {k v:Expr}{ks:List (Option Expr)}{vs:qk}{tk tv:TE}{Kw:List (TE×TE)}(hk:PE X k tk)(hv:PE X v tv)(hr:E9 X pos ks vs Kw):
 E9 X pos (some k::ks) (v::vs) ((tk,tv):: Kw):=λpins s σ H Q I h =>
 pairTrees_cons_walk (bu (hk pins s σ H _ I h) λu s1 ⟨x,H1,I1,rx,q1⟩=>bu (hv pins s1 σ H1 _ I1 q1) λw2 s2 ⟨y,H2,I2,ry,q2⟩ =>
  bu (hr pins s2 σ H2 _ I2 q2) λws s3 ⟨ps,H3,I3,rel,q3⟩=>⟨(x,y):: ps,H3,I3,.cons ⟨rx,ry⟩ rel,q3⟩)
def lH (Hh more:List (Key×V)):List (Key×V):=more.foldl (λacc kv=>eW acc kv.1 kv.2) Hh
theorem KV.merge:∀{more:List (Key×V)}{rs:List (Key×Value)}{Hh:List (Key×V)}{vs:List (Key×Value)},KV more rs->KV Hh vs->KV (lH Hh more) (merged vs rs):=by
 intro more rs Hh vs r;unfold KV at r
 induction r generalizing Hh vs with
 |nil=>intro q;exact q
 |@cons p q ps qs h t ih =>
  intro r0
  have e:KV (eW Hh p.1 p.2) (stored vs q.1 q.2):=by
   have:=r0.put p.1 h.2;rw[<-h.1];exact this
  exact ih e
theorem iz:∀(more Hh:List (Key×V)),(lH Hh more).length<=Hh.length+more.length
 |[],Hh=>by show Hh.length<=Hh.length+0;omega
 |p::r,Hh=>by
  have h1:=iz r (eW Hh p.1 p.2);have h2:=gR Hh p.1 p.2;show(lH (eW Hh p.1 p.2) r).length<=_;rw[List.length_cons];omega
theorem kj {P:zr}{w:World}:∀{Hh:List (Key×V)}{ws:List (Value×Value)},VV (Hh.map λkv=>(kV kv.1,kv.2)) ws->∃rs,Carries (bx P w) ws rs/\KV Hh rs
 |[],_,r=>by rw[List.map_nil] at r;cases r;exact⟨[],True.intro,.nil⟩
 |p::Hh,_,r=>by
  rw[List.map_cons] at r
  cases r with
  |@cons a b as bs h t =>
   obtain⟨rs,c,q⟩:=kj (P:=P) (w:=w) t;obtain⟨b1,b2⟩:=b;exact⟨(p.1,b2):: rs,⟨nY h.1,rfl,c⟩,.cons ⟨rfl,h.2⟩ q⟩
def abi (Kw:List (TE×TE)):TE:=λσ H Q=>∀p,H p=none->tD Kw σ (upd H p (.dK [])) λps H2=>H2 p=some (.dK [])/\∃Hh:List (Key×V),ps=Hh.map (λkv=>(kV kv.1,kv.2))/\Hh.length<=15/\Q (.ref p) (upd H2 p (.dK (lH [] Hh)))
theorem abj {keys:List (Option Expr)}{values:qk}{Kw:List (TE×TE)}(h:E9 X pos keys values Kw)(Ie:keys.all (·.isSome)=true)(hl:keys.length=values.length)(h0:keys≠[])
 (h15:keys.length<=15):PE X (.Dict keys values pos) (abi Kw):=by
 intro pins s σ H Q I q;have hn:=I.hok.fresh (Nat.le_refl s.heap.objs.size);have I1:=I.laid (a:=s.heap.objs.size) (o:=.dK []) (h':=s.heap.push {cls:=.type "dict",data:=.dict #[]}) (t':=s.toks) (λ_ _ q=>Heap.get?_push_of_some _ q) (Nat.le_refl _) (pX s.heap I.big);refine wpAny_Dict_walk (knd:=bx X.prog X.w) Ie hl h0 h15 (bu (h pins _ σ _ _ I1 (q _ hn)) λws s2 z'=>?_);obtain⟨ps,H2,I2,rel,e,Hh,ep,lk,q2⟩:=z';subst ep;obtain⟨rs,c,rk⟩:=kj (P:=X.prog) (w:=X.w) rel;obtain⟨z,hd,vs0,r0,dd⟩:=wX I2.hok e
 cases r0
 refine⟨rs,c,dd,λh' LH hs=>⟨.ref s.heap.objs.size,_,?_,rfl,q2⟩⟩
 have hz:(lH [] Hh).length<=sizeLine:=by
  have h1:=iz Hh [];rw[List.length_nil] at h1;rw[sizeLine_eq];omega
 have he:∃q,h'.get? s.heap.objs.size=some q:=let⟨q,_,_,hq,_⟩:=LH;⟨q,hq⟩;exact oY I2 (by rw[e];exact True.intro) hs he (zq hz hd (rk.merge .nil) LH)
structure M2 (X:Cx)(o:Expr)(m:Str)(apos:Pos)(e f:Expr)(Hz:Pos):Prop where
 base:attributeBase o m X.env (eval o X.env)=eval o X.env
 few:((backTo Hz (starEach [e,f] X.env)).all (λx=>!x.1)&&(backToKw Hz (keywordEach [] X.env)).all (λx=>x.1.isSome)
  && decide (([e,f]:qk).length+([]:List Keyword).length+(if([]:List Keyword).isEmpty then 0 else 1)<30))=true
 line:(apos.endLine==Hz.line)=true
 trees:backTo Hz (starEach [e,f] X.env)=[(false,eval e X.env),(false,eval f X.env)]
def GM (H:Hp)(a:Addr):Prop:=(∃Hh,Rd H a (.dK Hh))\/∃Hh,Rd H a (.dT Hh)
theorem abk (I:Inv X pins σ H s)(d:GM H a):
 s.TypeIs (.ref a) "dict"/\(∀b,Value.ref a=.ref b->∃ob,s.heap.get? b=some ob/\ob.dict=none)/\(a==sysModules)=false:=by
 rcases d with⟨Hh,e⟩|⟨Hh,e⟩
 ·obtain⟨_,hd,vs,_,dd⟩:=ly I.hok e;refine⟨dd.typeIs,λb q=>?_,hd⟩
  cases q
  obtain⟨ob,_,_,h1,h2,_⟩:=dd;exact⟨ob,h1,h2.2.1⟩
 ·obtain⟨_,hd,xs,_,dd⟩:=n5 I.hok e;refine⟨dd.typeIs,λb q=>?_,hd⟩
  cases q
  obtain⟨ob,_,_,h1,h2,_⟩:=dd;exact⟨ob,h1,h2.2.1⟩
section
variable {X:Cx}{pins:List (Addr×Obj)}{σ:St}{H:Hp}{s:CW}{a:Addr}{y d:V}{u r:Value}{o:Option V}{A:Around}{E:yf}
theorem aaO {Q:yf}(hu:A.units+1<cLine)(I:Inv X pins σ H s)(g:jw H a y o)(ry:aD y u)(rd:aD d r)(h:∀w' s',Inv X pins σ H s'->aD (o.getD d) w'->Q w' s'):
 wpAny (model X.prog X.w) A (call (.builtin "dict.get") [.ref a,u,r]) Q E s:=by
 rcases g with⟨Hh,k,e,ey,l⟩|⟨Hh,k,b,e,ey,eb,l⟩
 ·subst ey;obtain⟨z,hd,vs,rel,dd⟩:=ly I.hok e;refine call_meetsIn PySem.F.slot_dict_get dd.typeIs PySem.F.entry_dict_get (PySem.F.args_dict_get_3 _ _ _) (meets_dict_get_default (bx X.prog X.w) a (nY ry) hd r) ⟨_,dd.mapOf,h _ _ (I.tok _) ?_⟩;rw[l];exact(rel.val k).getD rd
 ·subst ey
  cases(show u=Value.ref b from ry)
  obtain⟨z,hd,xs,rel,dd⟩:=n5 I.hok e;refine call_meetsIn PySem.F.slot_dict_get dd.typeIs PySem.F.entry_dict_get (PySem.F.args_dict_get_3 _ _ _) (meetsH_dict_get_default (tupleKind (bx X.prog X.w)) a b hd r) ⟨tupleKind_room_in1 hu,k,xs,kK I.hok eb,dd,h _ _ (I.tok _) ?_⟩;rw[l];exact(rel.val k).getD rd
end
def abl (td ty tx:TE):TE:=λσ H Q=>td σ H λx H1=>∃a,x=.ref a/\GM H1 a/\ty σ H1 λy H2=>tx σ H2 λz H3=>∃o,jw H3 a y o/\Q (o.getD z) H3
section
variable {X:Cx}{o e f:Expr}{apos Hz:Pos}{td ty tx:TE}
theorem abr (hu:X.A.units+1<cLine)(ho:PE X o td)(he:PE X e ty)(hf:PE X f tx)(m:M2 X o "get" apos e f Hz):PE X (.Call (.Attribute o "get" apos) [e,f] [] Hz) (abl td ty tx):=by
 intro pins s σ H Q I h;refine wpAny_Call_method m.base m.few m.line PySem.F.plainAttrs_dict PySem.F.slot_dict_get PySem.F.type_dict_get (bu (ho pins s σ H _ I h) λu s1 z'=>?_);obtain⟨x,H1,I1,rx,a,ex,d,q1⟩:=z';subst ex;obtain rfl:u=Value.ref a:=rx;obtain⟨t1,t2,_⟩:=abk I1 d;refine⟨t1,t2,?_⟩;rw[m.trees]
 refine Calls.callWith_builtin rfl (Calls.evalArgs_plain (Calls.spliced_cons (bu (he pins s1 σ H1 _ I1 q1) λiv s2 ⟨y,H2,I2,ry,q2⟩ =>
  Calls.spliced_cons (bu (hf pins s2 σ H2 _ I2 q2) λfv s3 ⟨z,H3,I3,rz,ov,g,q3⟩=>Calls.spliced_nil ?_))))
 exact aaO hu I3 g ry rz λw' s4 I4 IA=>⟨_,H3,I4,IA,q3⟩
end
end L2
namespace HT
open PySem PyProof.Rows
def cP:List Int->List Int->Bool
 |[],[]=>false
 |[],_::_=>true
 |_::_,[]=>false
 |x::xs,y::ys=>if x=y then cP xs ys else decide (x<y)
theorem eR (x y:Int)(xs ys:List Int):cP (x::xs) (y::ys)=if x=y then cP xs ys else decide (x<y):=rfl
theorem aa3:cP [] []=false:=rfl
theorem aa4 (y:Int)(ys:List Int):cP [] (y::ys)=true:=rfl
theorem abY (x:Int)(xs:List Int):cP (x::xs) []=false:=rfl
theorem rEq (A:Around)(s:CW)(a:Int)(t:Tok)(c:Int)(u:Tok):∃e,SeqAt.EqAt A s (.int a t) (.int c u) e/\(e=true↔a=c):=
 ⟨(a==c),SeqAt.EqAt.int_int a t c u,by simp⟩
theorem kq (A:Around)(s:CW)(a:Int)(t:Tok)(c:Int)(u:Tok)(prog:zr)(w:World)(E:yf)(Q:yf)(h:Q (.bool (decide (a<c))) s):
 wpAny (model prog w) A (richCompare .Lt (.int a t) (.int c u)) Q E s :=
 (PyProof.Rows.lt_int h:wpAny (model prog w) A (compareOp .Lt (.int a t) (.int c u)) Q E s)
section
open PySem.SeqAt
open PySem.AutoSeq1 (wpAny_loadPart')
open PySem.MeetsSeq PySem.MeetsSeq2 PySem.MeetsSeq3
theorem aa7 (l b:Addr)(items Hj:vd)(n n2:Nat)(dd Il:Cw)(sl Ib:Ei)(ns ms:List Int)(hi:IntsAre items.toList ns)(hj:IntsAre Hj.toList ms):
 Meets (Builtin.«tuple.__lt__» ⟨[.ref l,.ref b],[]⟩)
  (λ_ R s=>s.heap.get? l=some {cls:=.type "tuple",dict:=dd,data:=.seq items n,slots:=sl}/\s.heap.get? b=some {cls:=.type "tuple",dict:=Il,data:=.seq Hj n2,slots:=Ib} /\
   R (.ok (.ret (.bool (cP ns ms)))) s):=
 .of_wp λprog w A R s h=>by
  obtain⟨hp,g,d,tk,os⟩:=s;obtain⟨hl,hb,h⟩:=h;have f2:=AutoSeq1.sub_tuple_tuple
  have z1:items.size=ns.length:=by rw[<-hi.length];simp
  have z2:Hj.size=ms.length:=by rw[<-hj.length];simp
  wp_walk using wpAny_loadPart' hl,wpAny_loadPart' hb,wpAny_forIn_list _ (λrest b s'=>b.1=none/\s'=⟨hp,g,d,tk,os⟩/\∃(vs ws:oN)(MP MQ:List Int),rest=vs.zip ws /\
   IntsAre vs MP/\IntsAre ws MQ/\MP.length+Hj.size=MQ.length+items.size/\R (.ok (.ret (.bool (cP MP MQ)))) ⟨hp,g,d,tk,os⟩) _
  case turn =>
   rintro⟨y,x⟩ rest b s' ⟨HP,rfl,vs,ws,MP,MQ,hz,Sm,Rb,hlen,hR⟩
   cases Sm with
   |nil=>rw[List.zip_nil_left] at hz;cases hz
   |cons a t Sn =>
    cases Rb with
    |nil=>rw[List.zip_nil_right] at hz;cases hz
    |cons c u So =>
     rw[List.zip_cons_cons] at hz
     injection hz with Sq Jt
     injection Sq with hy hx
     subst hy hx;rw[eR] at hR;simp only[List.length_cons] at hlen;obtain⟨e,he,Nr⟩:=rEq A.in1 ⟨hp,g,d,tk,os⟩ a t c u;refine wpAny_bind (he prog w _ _ ?_)
     cases e with
     |true =>
      rw[if_pos (Nr.mp rfl)] at hR
      wp_walk
      exact⟨rfl,rfl,_,_,_,_,Jt,Sn,So,by omega,hR⟩
     |false =>
      rw[if_neg (λq=>absurd (Nr.mpr q) Bool.false_ne_true)] at hR;have Nt:=kq A.in1 ⟨hp,g,d,tk,os⟩ a t c u prog w
      wp_walk using Nt
      exact⟨_,rfl,by simpa using hR⟩
  case fin =>
   rintro⟨b1,b2⟩ s' ⟨HP,rfl,vs,ws,MP,MQ,hz,Sm,Rb,hlen,hR⟩;simp only at HP;subst HP
   have hv:cP MP MQ=decide (items.size<Hj.size):=by
    cases Sm with
    |nil =>
     cases Rb with
     |nil =>
      simp only[List.length_nil] at hlen;rw[aa3];exact(decide_eq_false (by omega)).symm
     |cons c u hw =>
      simp only[List.length_nil,List.length_cons] at hlen;rw[aa4];exact(decide_eq_true (by omega)).symm
    |cons a t hv =>
     cases Rb with
     |nil =>
      simp only[List.length_nil,List.length_cons] at hlen;rw[abY];exact(decide_eq_false (by omega)).symm
     |cons c u hw =>
      rw[List.zip_cons_cons] at hz
      cases hz
   rw[hv] at hR
   wp_walk
   exact⟨_,rfl,by simpa[Builtin.Tuple.tupleCompareSizes] using hR⟩
  case h =>
   exact⟨rfl,rfl,items.toList,Hj.toList,ns,ms,rfl,hi,hj,by omega,h⟩
end
section
variable {prog:zr}{w:World}{A:Around}{E:yf}{s:CW}
theorem abt {l b:Addr}{items Hj:vd}{ns ms:List Int}{Q:yf}(hl:IsTup s.heap l items)(hb:IsTup s.heap b Hj)(hi:IntsAre items.toList ns)(hj:IntsAre Hj.toList ms)
 (hu:A.units<cLine)(h:Q (.bool (cP ns ms)) s):wpAny (model prog w) A (compareOp .Lt (.ref l) (.ref b)) Q E s:=by
 obtain⟨⟨cls,dd,data,sl⟩,ho,hc,n,hd⟩:=id hl;obtain⟨⟨Kx,Il,data2,Ib⟩,Ju,Kn,n2,hd2⟩:=id hb;simp only at hc hd Kn hd2;subst hc hd Kn hd2
 exact richCompare_meets_room (op:=.Lt) ⟨_,ho,rfl⟩ ⟨_,Ju,rfl⟩ PySem.F.slot_tuple_lt PySem.F.entry_tuple_lt (PySem.F.args_tuple_lt_2 _ _) (aa7 l b items Hj n n2 dd Il sl Ib ns ms hi hj)
  ⟨ho,Ju,show Value.bool (cP ns ms)≠Value.notImplemented/\Q (.bool (cP ns ms)) s from⟨(λx=>nomatch x),h⟩⟩ hu
def da (n d:Nat):Option Int->Nat
 |none=>d
 |some v=>if v<0 then(v+(n:Int)).toNat else min v.toNat n
theorem qu (n d:Nat):da n d none=d:=rfl
theorem t7 (n d k:Nat):da n d (some (k:Int))=min k n:=by
 show(if(k:Int)<0 then((k:Int)+(n:Int)).toNat else min (k:Int).toNat n)=min k n;rw[if_neg (by omega),Int.toNat_natCast]
theorem aa8 (n d:Nat)(hd:d<=n)(o:Option Int):da n d o<=n:=by
 cases o with
 |none=>exact hd
 |some v =>
  show(if v<0 then(v+(n:Int)).toNat else min v.toNat n)<=n
  by_cases hv:v<0
  ·rw[if_pos hv];omega
  ·rw[if_neg hv];exact Nat.min_le_right _ _
theorem uy (v:Int)(n d:Nat):(if v<0 then max (v+(n:Int)) 0 else min v (n:Int))=((da n d (some v):Nat):Int):=by
 show(if v<0 then max (v+(n:Int)) 0 else min v (n:Int))=(((if v<0 then(v+(n:Int)).toNat else min v.toNat n):Nat):Int)
 by_cases hv:v<0
 ·simp only[if_pos hv];omega
 ·simp only[if_neg hv];omega
theorem aa9 (lo hi:Option Int)(n:Nat):Builtin.Slice.sliceAdjust lo hi 1 (n:Int)=(((da n 0 lo:Nat):Int),((da n n hi:Nat):Int)):=by
 have h1:¬((1:Int)<0):=by omega
 unfold Builtin.Slice.sliceAdjust;simp only[h1,if_false];refine Prod.ext ?_ ?_
 ·cases lo with
  |none=>rfl
  |some v=>exact uy v n 0
 ·cases hi with
  |none=>rfl
  |some v=>exact uy v n n
theorem abM (i j:Nat):Builtin.Slice.slicePlaces (i:Int) (j:Int) 1=j-i:=by
 unfold Builtin.Slice.slicePlaces
 have h1:(1:Int)>0:=by omega
 simp only[h1,if_true,Int.ediv_one]
 split <;> omega
theorem kQ {v:Value}{o:Option Int}{Q:Option Int->Shared->Prop}(p:IsPart v o)(h:Q o s):wpAny (model prog w) A (Builtin.Slice.slicePartIndex v) Q E s:=by
 cases p with
 |none=>exact slicePart_none h
 |int i t=>exact slicePart_int h
theorem fK {sl:Addr}{vl vu:Value}{lo hi:Option Int}{n:Nat}{Q:Int×Int×Nat->Shared->Prop}(hs:s.heap.IsSliceOf sl vl vu .none)(pl:IsPart vl lo)(pu:IsPart vu hi)
 (h:Q (((da n 0 lo:Nat):Int),1,da n n hi-da n 0 lo) s):wpAny (model prog w) A (Builtin.Slice.sliceApplied (.ref sl) (pure (n:Int))) Q E s:=by
 obtain⟨os,LI,Rc,Nu⟩:=id hs;unfold Builtin.Slice.sliceApplied Builtin.Slice.sliceFields;refine wpAny_bind (wpAny_bind (wpAny_field LI Nu (x:=vl) rfl (wpAny_bind (wpAny_field LI Nu (x:=vu) rfl (wpAny_bind (wpAny_field LI Nu (x:=.none) rfl (wpAny_pure ?_)))))));refine wpAny_bind (slicePart_none ?_);show wpAny _ _ (if((1:Int)==0)=true then _ else _) _ _ s;rw[if_neg (by decide)];refine wpAny_bind (kQ pl (wpAny_bind (kQ pu (wpAny_bind (wpAny_pure ?_)))));show wpAny _ _ (match Builtin.Slice.sliceAdjust lo hi 1 (n:Int) with|(lo,hi)=>pure (lo,(1:Int),Builtin.Slice.slicePlaces lo hi 1)) _ _ s;rw[aa9 lo hi n];show wpAny _ _ (pure (((da n 0 lo:Nat):Int),(1:Int),Builtin.Slice.slicePlaces ((da n 0 lo:Nat):Int) ((da n n hi:Nat):Int) 1)) _ _ s;rw[abM];exact wpAny_pure h
theorem aaY (xs:vd)(i k:Nat):((List.range k).filterMap λ(m:Nat)=>xs[((i:Int)+(m:Int)*1).toNat]?).toArray=((xs.toList.drop i).take k).toArray:=by
 have e:(λ(m:Nat)=>xs[((i:Int)+(m:Int)*1).toNat]?)=λm=>xs[i+m]?:=by
  funext m
  have:((i:Int)+(m:Int)*1).toNat=i+m:=by omega
  rw[this]
 rw[e];have:=pick_run xs i k;rw[List.filterMap_map] at this;have e2:((λx=>xs[x]?) ∘ λx=>i+x)=λm=>xs[i+m]?:=rfl;rw[e2] at this;rw[this]
theorem aca {t sl:Addr}{items:vd}{vl vu:Value}{lo hi:Option Int}{Q:yf}(ht:IsTup s.heap t items)(hs:s.heap.IsSliceOf sl vl vu .none)(pl:IsPart vl lo)(pu:IsPart vu hi)
 (hw:¬(da items.size 0 lo=0/\da items.size items.size hi=items.size))
 (h:Q (.ref s.heap.objs.size) {s with heap:=s.heap.push {cls:=.type "tuple",data:=.seq ((items.toList.drop (da items.size 0 lo)).take (da items.size items.size hi-da items.size 0 lo)).toArray} })
 (hsz:items.size<=sizeLine):wpAny (model prog w) A (getItem (.ref t) (.ref sl)) Q E s:=by
 have Jv:sizeOk (.seq ((items.toList.drop (da items.size 0 lo)).take (da items.size items.size hi-da items.size 0 lo)).toArray):=by
  show((items.toList.drop (da items.size 0 lo)).take (da items.size items.size hi-da items.size 0 lo)).toArray.size<=sizeLine;rw[List.size_toArray,List.length_take,List.length_drop,Array.length_toList];omega
 have hj:da items.size items.size hi<=items.size:=aa8 _ _ (Nat.le_refl _) hi;obtain⟨os,LI,Rc,Nu⟩:=id hs;have Ss:s.TypeIs (.ref sl) "slice":=⟨os,LI,Rc⟩;unfold getItem
 try with_reducible refine wpAny_holding ?_
 first|refine wpAny_bind (wpAny_pure ?_)|skip
 refine wpAny_bind (wpAny_sequenceKey ht.typeIs (by decide) ?_)
 refine wpAny_bind (wpAny_callSpecial?_slot (name:=Str.ofString "__getitem__") ht.typeIs PyProof.Rows.slot_tuple_getitem
  (wpAny_call_entry PyProof.Rows.slot_tuple_getitem ht.typeIs entry_tuple_getitem ?_ (args_tuple_getitem _ _)))
 show wpAny _ _ (Builtin.Tuple.tupleItemsOf (.ref t)>>=_) _ _ s;refine wpAny_bind (tupleItemsOf_ ht ?_);refine wpAny_bind (wpAny_typeOf Ss ?_);rw[if_pos (by decide)];refine wpAny_bind (fK hs pl pu ?_)
 have LJ:¬((((da items.size 0 lo:Nat):Int)==0&&(1:Int)==1&&(da items.size items.size hi-da items.size 0 lo)==items.size)=true):=by
  intro q;rw[Bool.and_eq_true,Bool.and_eq_true] at q;have q1:((da items.size 0 lo:Nat):Int)=0:=eq_of_beq q.1.1;have q2:da items.size items.size hi-da items.size 0 lo=items.size:=eq_of_beq q.2;exact hw ⟨by omega,by omega⟩
 show wpAny _ _ (if(((da items.size 0 lo:Nat):Int)==0&&(1:Int)==1&&(da items.size items.size hi-da items.size 0 lo)==items.size)=true then _ else _) _ _ s;rw[if_neg LJ,aaY]
 first
  |exact wpAny_bind (m:=Builtin.Tuple.tupleExact _) (wpAny_newObj_type (wpAny_pure ⟨_,rfl,wpAny_pure h⟩) Jv)
  |exact wpAny_bind (m:=Builtin.Tuple.tupleExact _) (wpAny_newObj_type (wpAny_bind (wpAny_pure (wpAny_pure ⟨_,rfl,wpAny_pure h⟩))) Jv)
  |exact wpAny_bind (wpAny_bind (m:=Builtin.Tuple.tupleExact _) (wpAny_newObj_type (wpAny_pure (wpAny_pure ⟨_,rfl,wpAny_pure h⟩)) Jv))
  |exact wpAny_bind (wpAny_bind (m:=Builtin.Tuple.tupleExact _) (wpAny_newObj_type (wpAny_pure ⟨_,rfl,wpAny_pure h⟩) Jv))
end
end HT
namespace L2
open PySem PySem.Spec PyProof.Rows
abbrev TO:=St->Hp->(Option Int->Hp->Prop)->Prop
def PO (X:Cx)(e:Option Expr)(t:TO):Prop :=
 ∀(pins:List (Addr×Obj))(s:CW)(σ:St)(H:Hp)(Q:Option Int->Hp->Prop),Inv X pins σ H s->t σ H Q →
  wpAny (model X.prog X.w) X.A (evalPart e X.env) (λu s'=>∃o H',Inv X pins σ H' s'/\IsPart u o/\Q o H') X.xe s
def abD:TO:=λ_ H Q=>Q none H
def abO (t:TE):TO:=λσ H Q=>t σ H λx H1=>∃i,x=.int i/\Q (some i) H1
theorem kI {ns:List Int}:∀{us:oN},aK (ns.map V.int) us->IntsAre us ns:=by
 induction ns with
 |nil=>intro us r;rw[List.map_nil] at r;cases r;exact .nil
 |cons n ns ih =>
  intro us r;rw[List.map_cons] at r
  cases r with
  |cons r1 r2 =>
   obtain⟨t,e⟩:=r1;subst e;exact .cons n t (ih r2)
section
variable {X:Cx}{e:Expr}{te:TE}{lo hi:Option Expr}{tl th:TO}{pos p2:Pos}
theorem fA:PO X none abD:=by
 intro pins s σ H Q I h;rw[evalPart_none];exact wpAny_pure ⟨none,H,I,.none,h⟩
theorem dX (h:PE X e te):PO X (some e) (abO te):=by
 intro pins s σ H Q I hw;rw[evalPart_some];refine bu (h pins s σ H _ I hw) λu s1 z'=>?_;obtain⟨x,H1,I1,r1,q1⟩:=z';obtain⟨i,rfl,q⟩:=q1;obtain⟨t,rfl⟩:=r1;exact⟨some i,H1,I1,.int i t,q⟩
def Fc (X:Cx)(r:V->Option Int->Option Int->Hp->VK->Prop):Prop :=
 ∀(pins:List (Addr×Obj))(s:CW)(σ:St)(H:Hp)(x:V)(v vl vu:Value)(lo hi:Option Int)(sl:Addr)(Q:VK),Inv X pins σ H s->aD x v->s.heap.IsSliceOf sl vl vu .none->IsPart vl lo->IsPart vu hi->r x lo hi H Q →
  ∃T id,typeLookup (.type T) "__getitem__"=pure (some (.builtin id))/\s.TypeIs v T/\wpAny (model X.prog X.w) X.A (getItem v (.ref sl)) (EP X pins σ Q) X.xe s
def ace (r:V->Option Int->Option Int->Hp->VK->Prop)(te:TE)(tl th:TO):TE:=λσ H Q=>te σ H λx H1=>tl σ H1 λl H2=>th σ H2 λu H3=>r x l u H3 Q
theorem dG {r:V->Option Int->Option Int->Hp->VK->Prop}(hr:Fc X r)(he:PE X e te)(hl:PO X lo tl)(hu:PO X hi th):PE X (.Subscript e (.Slice lo hi none p2) pos) (ace r te tl th):=by
 intro pins s σ H Q I h;refine Subscript_ (bu (he pins s σ H _ I h) λv s1 z'=>?_);obtain⟨x,H1,I1,r1,q1⟩:=z';refine wpAny_Slice (bu (hl pins s1 σ H1 _ I1 q1) λvl s2 ⟨l,H2,I2,pl,q2⟩=>bu (hu pins s2 σ H2 _ I2 q2) λvu s3 z'=>?_);obtain⟨u,H3,I3,pu,q3⟩:=z';rw[evalPart_none];refine wpAny_pure ?_;have I4:Inv X pins σ H3 {s3 with heap:=s3.heap.push {cls:=.type "slice",data:=.fields #[vl,vu,.none]} }:=I3.kept (t':=s3.toks) λb ob q=>Heap.get?_push_of_some _ q;obtain⟨T,id,hT,ht,hg⟩:=hr pins {s3 with heap:=s3.heap.push {cls:=.type "slice",data:=.fields #[vl,vu,.none]} } σ H3 x v vl vu l u s3.heap.objs.size Q I4 r1 (Heap.IsSliceOf.new ..) pl pu q3;show wpAny (model X.prog X.w) X.A (subscriptTail e (.Slice lo hi none p2) v (.ref s3.heap.objs.size)) (EP X pins σ Q) X.xe {s3 with heap:=s3.heap.push {cls:=.type "slice",data:=.fields #[vl,vu,.none]} };exact tail_any (ops:=[.ref s3.heap.objs.size,v]) ht hT hg (by with_unfolding_all rfl)
def gh (xs:List V)(lo hi:Option Int):List V:=(xs.drop (HT.da xs.length 0 lo)).take (HT.da xs.length xs.length hi-HT.da xs.length 0 lo)
theorem jQ (xs:List V)(lo hi:Option Int):(gh xs lo hi).length<=xs.length:=by
 unfold gh;rw[List.length_take,List.length_drop];omega
def acf (K:PySem.W.Frag):V->Option Int->Option Int->Hp->VK->Prop:=λx lo hi H Q=>∃a xs,x=.ref a/\bw K H a xs /\
 ¬(HT.da xs.length 0 lo=0/\HT.da xs.length xs.length hi=xs.length)/\∀p,H p=none->Q (.ref p) (upd H p (.tup (gh xs lo hi)))
theorem acg:Fc X (acf X.K):=by
 intro pins s σ H x v vl vu lo hi sl Q I rx hs pl pu h;obtain⟨a,xs,rfl,hx,hw,q⟩:=h
 cases rx
 obtain⟨its,r,ht,hz⟩:=I.tuple hx
 have hlen:its.toArray.size=xs.length:=by rw[List.size_toArray];exact r.length.symm
 refine⟨"tuple",_,PyProof.Rows.slot_tuple_getitem.lookup,ht.typeIs,?_⟩;refine HT.aca ht hs pl pu (by rw[hlen];exact hw) ?_ (by rw[hlen];exact hz);rw[hlen];refine⟨.ref s.heap.objs.size,_,I.laid (t':=s.toks) (o:=.tup (gh xs lo hi)) (λb ob q=>Heap.get?_push_of_some _ q) (Nat.le_refl _) ?_,rfl,q _ (I.hok.fresh (Nat.le_refl _))⟩;exact⟨Nat.le_trans (jQ xs lo hi) hz,_,(r.drop (HT.da xs.length 0 lo)).take (HT.da xs.length xs.length hi-HT.da xs.length 0 lo),IsTup.new _ _⟩
end
def wB (n:Nat)(i:Int):Option Nat:=if 0<=i then(if i<n then some i.toNat else none) else if -(n:Int)<=i then some (i+n).toNat else none
def ng {α:Type}(xs:List α)(i:Int):Option α:=(wB xs.length i).bind λj=>xs[j]?
variable {n:Nat}
theorem uB {i:Int}{j:Nat}(h:wB n i=some j):seqIndex? i n=some j/\j<n/\-(n:Int)<=i/\i<n:=by
 unfold wB at h
 by_cases h0:0<=i
 ·rw[if_pos h0] at h
  by_cases h1:i<n
  ·rw[if_pos h1] at h;have e:i.toNat=j:=Option.some.inj h;exact⟨by rw[seqIndex_of h0 h1,e],by omega,by omega,h1⟩
  ·rw[if_neg h1] at h;cases h
 ·rw[if_neg h0] at h
  by_cases h1:-(n:Int)<=i
  ·rw[if_pos h1] at h;have e:(i+n).toNat=j:=Option.some.inj h;exact⟨by rw[seqIndex_neg (by omega) h1,e],by omega,h1,by omega⟩
  ·rw[if_neg h1] at h;cases h
theorem uf {α:Type}{xs:List α}{i:Int}{v:α}(h:ng xs i=some v):∃j,seqIndex? i xs.length=some j/\xs[j]?=some v/\j<xs.length/\-(xs.length:Int)<=i/\i<xs.length:=by
 unfold ng at h
 cases e:wB xs.length i with
 |none=>rw[e] at h;cases h
 |some j =>
  rw[e] at h;obtain⟨h1,h2,h3,h4⟩:=uB e;exact⟨j,h1,h,h2,h3,h4⟩
theorem pE {α:Type}{xs:List α}{j:Nat}{v:α}(h:xs[j]?=some v):ng xs (j:Int)=some v:=by
 have hj:j<xs.length:=(List.getElem?_eq_some_iff.mp h).1
 have e:wB xs.length (j:Int)=some j:=by
  unfold wB;rw[if_pos (by omega),if_pos (by omega)];simp
 unfold ng;rw[e];exact h
def ach (b:Expr):Prop:=∀o i,subscripted b false o i=operate [o,i] (getItem o i)
def Df (X:Cx)(r:R2):Prop :=
 ∀(value slice:Expr)(pins:List (Addr×Obj))(s:CW)(σ:St)(H:Hp)(x y:V)(v u:Value)(Q:VK),Inv X pins σ H s->aD x v->aD y u->r x y H Q →
  subscripted slice false v u=operate [v,u] (getItem v u)->wpAny (model X.prog X.w) X.A (subscriptTail value slice v u) (EP X pins σ Q) X.xe s
def GF (X:Cx)(id:String)(r:V->List V->Hp->VK->Prop):Prop :=
 ∀(pins:List (Addr×Obj))(s:CW)(σ:St)(H:Hp)(x:V)(xs:List V)(v:Value)(us:oN)(Q:VK),Inv X pins σ H s->aD x v->aK xs us->r x xs H Q →
  wpAny (model X.prog X.w) X.A (call (.builtin id) (v::us)) (EP X pins σ Q) X.xe s
variable {pins:List (Addr×Obj)}{σ:St}{H:Hp}{s:CW}{its:oN}{x:V}{v:Value}
section
variable {X:Cx}{a b:Expr}{ta tb:TE}{pos:Pos}
theorem bq {r:R2}(hr:Df X r)(ha:PE X a ta)(hb:PE X b tb)(hs:ach b):PE X (.Subscript a b pos) (lW r ta tb):=by
 intro pins s σ H Q I h;exact Subscript_ (C9 ha hb I h λv u s2 x y H2 I2 rx ry q=>hr a b pins s2 σ H2 x y v u Q I2 rx ry q (hs _ _))
def BW (K:PySem.W.Frag):R2:=λx y H Q=>∃p xs i v,x=.ref p/\y=.int i/\aO K H p xs/\ng xs i=some v/\Q v H
def zM (K:PySem.W.Frag):R2:=λx y H Q=>∃p xs i v,x=.ref p/\y=.int i/\bw K H p xs/\ng xs i=some v/\Q v H
theorem cb:Df X (BW X.K):=by
 intro value slice pins s σ H x y v u Q I rx ry h hs;obtain⟨p,xs,i,z,rfl,rfl,hq,he,q⟩:=h
 cases rx
 obtain⟨t,rfl⟩:=ry;obtain⟨its,r,pl,hz⟩:=I.list hq;obtain⟨j,h1,h2,h3,h4,h5⟩:=uf he;obtain⟨w,ew,IA⟩:=r.get h2;have hl:=r.length;have hn:=lq;have fin:EP X pins σ Q w s:=⟨z,H,I,IA,q⟩
 by_cases h0:0<=i
 ·have hj:i.toNat=j:=by
   rw[seqIndex_of h0 h5] at h1;exact Option.some.inj h1
  exact item_listR pl.isList h0 (by omega) (by rw[hj];simpa using ew) fin hs
 ·have hj:(i+(its.toArray.size:Int)).toNat=j:=by
   rw[seqIndex_neg (by omega) h4] at h1;rw[List.size_toArray,<-hl];exact Option.some.inj h1
  exact subscriptTail_builtinR (x:=w) pl.isList.typeIs slot_list_getitem.lookup
   (wpAny_getItem_list_neg (Q:=λr s'=>r=w/\EP X pins σ Q r s') pl.isList (by omega) (by rw[List.size_toArray] <;> omega) (by omega) (by rw[hj];simpa using ew) ⟨rfl,fin⟩) hs
theorem bX:Df X (zM X.K):=by
 intro value slice pins s σ H x y v u Q I rx ry h hs;obtain⟨p,xs,i,z,rfl,rfl,hq,he,q⟩:=h
 cases rx
 obtain⟨t,rfl⟩:=ry;obtain⟨its,r,pl,hz⟩:=I.tuple hq;obtain⟨j,h1,h2,h3,h4,h5⟩:=uf he;obtain⟨w,ew,IA⟩:=r.get h2;have hl:=r.length;have hn:=lq;have fin:EP X pins σ Q w s:=⟨z,H,I,IA,q⟩
 exact subscriptTail_builtinR (x:=w) pl.typeIs slot_tuple_getitem.lookup
  (getItem_tuple (j:=j) (Q:=λr s'=>r=w/\EP X pins σ Q r s') pl (by omega) (by omega) (by rw[List.size_toArray,<-hl];exact h1) (by simpa using ew) ⟨rfl,fin⟩) hs
theorem aci (its:oN)(n j:Nat)(u:Value):Obj.mapSeq (·.setIfInBounds j u) {cls:=.type "list",data:=.seq its.toArray n}={cls:=.type "list",data:=.seq (its.set j u).toArray n}:=by
 simp[Obj.mapSeq]
theorem Inv.lst {p:Addr}{xs:List V}(I:Inv X pins σ H s)(h:H p=some (.lst xs)):
 ∃(its:oN)(n:Nat),aK xs its/\s.heap.get? p=some {cls:=.type "list",data:=.seq its.toArray n}/\xs.length<=sizeLine:=by
 obtain⟨z,its,n,r,e⟩:=I.hok p _ h;exact⟨its,n,r,e,z⟩
theorem Inv.abX {p:Addr}{xs ys:List V}{its':oN}{n':Nat}{f:Obj->Obj}(I:Inv X pins σ H s)(h:H p=some (.lst xs))
 (ho:s.heap.get? p=some {cls:=.type "list",data:=.seq its.toArray n})(hf:f {cls:=.type "list",data:=.seq its.toArray n}={cls:=.type "list",data:=.seq its'.toArray n'})(r:aK ys its')(hz:ys.length<=sizeLine)(t:Nat):
 Inv X pins σ (upd H p (.lst ys)) {s with heap:=s.heap.update p f,toks:=t}:=by
 have e:(s.heap.update p f).get? p=some {cls:=.type "list",data:=.seq its'.toArray n'}:=by
  rw[Heap.get?_update_self f ho (by rw[hf] <;> rfl),hf]
 refine I.write (x:=p) (e:=p) (by rw[h];trivial) (.inl rfl) (λb u hb q=>(Heap.get?_update_other _ _ (Ne.symm hb)).trans q) ⟨_,e⟩ ?_;exact⟨hz,its',n',r,e⟩
def ab7:V->V->V->Hp->(Hp->Prop)->Prop:=λo i v H Q=>∃p xs k j,o=.ref p/\i=.int k/\H p=some (.lst xs)/\wB xs.length k=some j/\Q (upd H p (.lst (xs.set j v)))
theorem qB:D5 X ab7:=by
 intro pins s σ H o i v ov iv u Q I ro ri rv h;obtain⟨p,xs,k,j,rfl,rfl,hp,hj,q⟩:=h
 cases ro
 obtain⟨t,rfl⟩:=ri;obtain⟨its,n,r,ho,hz⟩:=I.lst hp;obtain⟨h1,h2,h3,h4⟩:=uB hj;have hl:=r.length;have hn:=lq
 have I':Inv X pins σ (upd H p (.lst (xs.set j v))) {s with heap:=s.heap.update p (Obj.mapSeq (·.setIfInBounds j u))}:=
  I.abX hp ho (aci its n j u) (r.set rv j) (by rw[List.length_set];exact hz) s.toks
 by_cases h0:0<=k
 ·have hk:k.toNat=j:=by
   rw[seqIndex_of h0 h4] at h1;exact Option.some.inj h1
  exact PySem.W.ki_setAt ho h0 (by omega) (by rw[List.size_toArray,<-hl];exact h4) (by rw[hk];exact⟨_,I',q⟩)
 ·have hk:(k+(its.toArray.size:Int)).toNat=j:=by
   rw[seqIndex_neg (by omega) h3] at h1;rw[List.size_toArray,<-hl];exact Option.some.inj h1
  exact PySem.W.ki_setBack ho (by omega) (by rw[List.size_toArray,<-hl];exact h3) (by omega) (by rw[hk];exact⟨_,I',q⟩)
theorem acj (lo hi:Option Int)(n:Nat):(sliceBounds lo hi none n).1=((HT.da n 0 lo:Nat):Int)/\(sliceBounds lo hi none n).2.1=((HT.da n n hi:Nat):Int)/\(sliceBounds lo hi none n).2.2=1:=by
 refine⟨?_,?_,rfl⟩
 ·cases lo with
  |none=>simp[sliceBounds,HT.da]
  |some i =>
   simp only[sliceBounds,HT.da,Option.getD_none,show(1:Int)>0 by decide,if_true]
   by_cases h:i<0
   ·simp only[h,if_true] <;> omega
   ·simp only[h,if_false] <;> omega
 ·cases hi with
  |none=>simp[sliceBounds,HT.da]
  |some i =>
   simp only[sliceBounds,HT.da,Option.getD_none,show(1:Int)>0 by decide,if_true]
   by_cases h:i<0
   ·simp only[h,if_true] <;> omega
   ·simp only[h,if_false] <;> omega
theorem mJ (its:oN)(lo hi:Option Int):slicePick its.toArray lo hi none=((its.drop (HT.da its.length 0 lo)).take (HT.da its.length its.length hi-HT.da its.length 0 lo)).toArray:=by
 obtain⟨h1,h2,h3⟩:=acj lo hi its.toArray.size;unfold slicePick;rw[h1,h2,h3];simp only[sliceRange_one,pick_run,List.size_toArray] <;> rfl
def Fi (K:PySem.W.Frag):V->Option Int->Option Int->Hp->VK->Prop:=λx lo hi H Q=>∃a xs,x=.ref a/\aO K H a xs/\∀p,H p=none->Q (.ref p) (upd H p (.lst (gh xs lo hi)))
theorem gf:Fc X (Fi X.K):=by
 intro pins s σ H x v vl vu lo hi sl Q I rx hs pl pu h;obtain⟨a,xs,rfl,hx,q⟩:=h
 cases rx
 obtain⟨its,r,ht,hz⟩:=I.list hx;have hlen:=r.length;refine⟨"list",_,slot_list_getitem.lookup,ht.isList.typeIs,?_⟩;refine wpAny_getItem_list_slice ht.isList hs pl pu .none (by simp) ?_ (by rw[List.size_toArray] <;> omega);rw[mJ,<-hlen];refine⟨.ref s.heap.objs.size,_,I.laid (t':=s.toks) (o:=.lst (gh xs lo hi)) (λb ob q=>Heap.get?_push_of_some _ q) (Nat.le_refl _) ?_,rfl,q _ (I.hok.fresh (Nat.le_refl _))⟩;exact⟨Nat.le_trans (jQ xs lo hi) hz,_,0,(r.drop (HT.da xs.length 0 lo)).take (HT.da xs.length xs.length hi-HT.da xs.length 0 lo),Heap.get?_push_size _ rfl⟩
def iY:V->Bool
 | .non=>true
 | .bl _=>true
 | .int _=>true
 | .str _=>true
 |_=>false
def Bk:V->V->Bool
 | .non,.non=>true
 | .bl a,.bl b=>a==b
 | .bl a,.int b=>(if a then 1 else 0)==b
 | .int a,.bl b=>a==(if b then 1 else 0)
 | .int a,.int b=>a==b
 | .str a,.str b=>a==b
 |_,_=>false
theorem C6 {A:Around}{y:V}{u:Value}(ry:aD y u)(rx:aD x v)(fy:iY y=true)(fx:iY x=true):SeqAt.EqAt A s u v (Bk y x):=by
 cases y with
 |non =>
  cases ry
  cases x with
  |non=>cases rx;exact SeqAt.EqAt.same _
  |bl b=>cases rx;exact SeqAt.EqAt.none_bool b
  |int b=>obtain⟨t,rfl⟩:=rx;exact SeqAt.EqAt.none_int b t
  |str b=>obtain⟨t,rfl⟩:=rx;exact SeqAt.EqAt.none_str b t
  |_=>exact absurd (show false=true from fx) Bool.false_ne_true
 |bl a =>
  cases ry
  cases x with
  |non=>cases rx;exact SeqAt.EqAt.bool_none a
  |bl b=>cases rx;exact SeqAt.EqAt.bool_bool a b
  |int b=>obtain⟨t,rfl⟩:=rx;exact SeqAt.EqAt.bool_int a b t
  |str b=>obtain⟨t,rfl⟩:=rx;exact SeqAt.EqAt.bool_str a b t
  |_=>exact absurd (show false=true from fx) Bool.false_ne_true
 |int a =>
  obtain⟨t',rfl⟩:=ry
  cases x with
  |non=>cases rx;exact SeqAt.EqAt.int_none a t'
  |bl b=>cases rx;exact SeqAt.EqAt.int_bool a t' b
  |int b=>obtain⟨t,rfl⟩:=rx;exact SeqAt.EqAt.int_int a t' b t
  |str b=>obtain⟨t,rfl⟩:=rx;exact SeqAt.EqAt.int_str a t' b t
  |_=>exact absurd (show false=true from fx) Bool.false_ne_true
 |str a =>
  obtain⟨t',rfl⟩:=ry
  cases x with
  |non=>cases rx;exact SeqAt.EqAt.str_none a t'
  |bl b=>cases rx;exact SeqAt.EqAt.str_bool a t' b
  |int b=>obtain⟨t,rfl⟩:=rx;exact SeqAt.EqAt.str_int a t' b t
  |str b=>obtain⟨t,rfl⟩:=rx;exact SeqAt.EqAt.str_str a t' b t
  |_=>exact absurd (show false=true from fx) Bool.false_ne_true
 |_=>exact absurd (show false=true from fy) Bool.false_ne_true
def Bb (x:V)(u:Value):Bool:=match u with
 | .none=>Bk .non x
 | .bool b=>Bk (.bl b) x
 | .int i _=>Bk (.int i) x
 | .str z _=>Bk (.str z) x
 |_=>false
theorem yk {y:V}{u:Value}(r:aD y u)(f:iY y=true):Bb x u=Bk y x:=by
 cases y with
 |non=>cases r;rfl
 |bl b=>cases r;rfl
 |int i=>obtain⟨t,rfl⟩:=r;rfl
 |str z=>obtain⟨t,rfl⟩:=r;rfl
 |_=>exact absurd (show false=true from f) Bool.false_ne_true
theorem oJ :∀{xs:List V}{us:oN},aK xs us->xs.all iY=true->us.any (Bb x)=xs.any λy=>Bk y x
 |_,_,.nil,_=>rfl
 |y::xs,u::us,.cons r t,f=>by
  rw[List.all_cons,Bool.and_eq_true] at f;rw[List.any_cons,List.any_cons,yk r f.1,oJ t f.2]
theorem l8 {A:Around}(rx:aD x v)(fx:iY x=true):∀{xs:List V}{us:oN},aK xs us->xs.all iY=true->∀u∈us,SeqAt.EqAt A s u v (Bb x u)
 |_,_,.nil,_=>λu hu=>by cases hu
 |y::xs,u::us,.cons r t,f=>λu' hu=>by
  rw[List.all_cons,Bool.and_eq_true] at f
  rcases List.mem_cons.mp hu with rfl|hu
  ·rw[yk r f.1];exact C6 r rx f.1 fx
  ·exact l8 rx fx t f.2 u' hu
def Bt (x:V)(xs:List V):Bool:=xs.any λy=>Bk y x
def GS (K:PySem.W.Frag)(neg:Bool):R2:=λx y H Q=>∃p xs,y=.ref p/\(aO K H p xs\/bw K H p xs)/\iY x=true/\xs.all iY=true/\Q (.bl (if neg then !Bt x xs else Bt x xs)) H
theorem je:gB X (compareOp .NotIn) (GS X.K true):=by
 intro pins s σ H x y v u Q I rx ry h;obtain⟨p,xs,rfl,hq,fx,fs,q⟩:=h
 cases ry
 rcases hq with hq|hq
 ·obtain⟨its,r,pl,hz⟩:=I.list hq;refine SeqAt.notIn_listAt (Bb x) pl.isList (λw hw=>l8 rx fx r fs w (by simpa using hw)) ⟨.bl _,H,I,rfl,?_⟩;rw[show its.toArray.any (Bb x)=its.any (Bb x) by simp,oJ r fs];exact q
 ·obtain⟨its,r,pl,hz⟩:=I.tuple hq;refine SeqAt.notIn_tupleAt (Bb x) pl (λw hw=>l8 rx fx r fs w (by simpa using hw)) ⟨.bl _,H,I,rfl,?_⟩;rw[show its.toArray.any (Bb x)=its.any (Bb x) by simp,oJ r fs];exact q
theorem aW:cH X (.builtin "len") (λxs H Q=>∃p ys,xs=[.ref p]/\(aO X.K H p ys\/bw X.K H p ys)/\Q (.int ys.length) H):=by
 intro pins s σ H xs us Q I r h;obtain⟨p,ys,rfl,hq,q⟩:=h;obtain⟨u,rfl,rx⟩:=fE r
 cases rx
 have hn:=lq
 rcases hq with hq|hq
 ·obtain⟨its,r',pl,hz⟩:=I.list hq;have hlen:=r'.length;exact Calls.call_len_list pl.isList (by simp only[List.size_toArray] <;> omega) ⟨.int ys.length,H,I.tok _,⟨s.toks+1,by rw[List.size_toArray,hlen]⟩,q⟩
 ·obtain⟨its,r',pl,hz⟩:=I.tuple hq;have hlen:=r'.length;exact len_tuple pl (by simp only[List.size_toArray] <;> omega) ⟨.int ys.length,H,I.tok _,⟨s.toks+1,by rw[List.size_toArray,hlen]⟩,q⟩
theorem c8:cH X (.type "list") (λxs H Q=>∃p ys,xs=[.ref p]/\(aO X.K H p ys\/bw X.K H p ys)/\∀l,H l=none->Q (.ref l) (upd H l (.lst ys))):=by
 intro pins s σ H xs us Q I r h;obtain⟨p,ys,rfl,hq,q⟩:=h;obtain⟨u,rfl,rx⟩:=fE r
 cases rx
 have fin:∀(its:oN),aK ys its->ys.length<=sizeLine->∀(h':Heap)(c':Nat),(∀b o',s.heap.get? b=some o'->h'.get? b=some o') →
  h'.get? s.heap.objs.size=some {cls:=.type "list",dict:=none,data:=.seq its.toArray c',slots:=#[]}->EP X pins σ Q (.ref s.heap.objs.size) {s with heap:=h'}:=λits r' hz h' c' kp e =>
  ⟨.ref s.heap.objs.size,_,I.laid (t':=s.toks) kp (Nat.le_refl _) (show bc X.prog X.w _ h' _ (.lst ys) from⟨hz,its,c',r',e⟩),rfl,q _ (I.hok.fresh (Nat.le_refl _))⟩
 rcases hq with hq|hq
 ·obtain⟨its,r',pl,hz⟩:=I.list hq;have hlen:=r'.length;obtain⟨o,ho,hc,n,hd⟩:=pl.isList;exact call_list_seq p (.inl rfl) ho hc hd (λh' c' kp e=>fin its r' hz h' c' kp e) (by simp only[List.size_toArray] <;> omega)
 ·obtain⟨its,r',pl,hz⟩:=I.tuple hq;have hlen:=r'.length;obtain⟨o,ho,hc,n,hd⟩:=pl;exact call_list_seq p (.inr rfl) ho hc hd (λh' c' kp e=>fin its r' hz h' c' kp e) (by simp only[List.size_toArray] <;> omega)
theorem mr:cH X (.type "tuple") (λxs H Q=>∃p ys,xs=[.ref p]/\((aO X.K H p ys/\∀l,H l=none->Q (.ref l) (upd H l (.tup ys)))\/(bw X.K H p ys/\Q (.ref p) H))):=by
 intro pins s σ H xs us Q I r h;obtain⟨p,ys,rfl,h⟩:=h;obtain⟨u,rfl,rx⟩:=fE r
 cases rx
 rcases h with⟨hq,q⟩|⟨hq,q⟩
 ·obtain⟨its,r',pl,hz⟩:=I.list hq;have hlen:=r'.length;refine call_tuple_list pl.isList (λh' kp=>?_) (by simp only[List.size_toArray] <;> omega);have I1:Inv X pins σ H {s with heap:=h'}:=I.kept (t':=s.toks) kp
  have I2:Inv X pins σ (upd H h'.objs.size (.tup ys)) {s with heap:=h'.push {cls:=.type "tuple",data:=.seq its.toArray} }:=
   I1.laid (t':=s.toks) (λb o e=>Heap.get?_push_of_some _ e) (Nat.le_refl _) (show bc X.prog X.w _ _ _ (.tup ys) from⟨hz,its,r',IsTup.new _ _⟩)
  exact⟨.ref h'.objs.size,_,I2,rfl,q _ (I1.hok.fresh (Nat.le_refl _))⟩
 ·obtain⟨its,r',pl,hz⟩:=I.tuple hq;exact call_tuple_same pl ⟨.ref p,H,I,rfl,q⟩
def GC (K:PySem.W.Frag)(T:String)(x:V)(H:Hp):Prop:=match x with
 | .str _=>T="str"
 | .int _=>T="int"
 | .ref p=>(T="list"/\∃xs,aO K H p xs)\/(T="tuple"/\∃o,K.lookup p=some o/\o.cls=.type "tuple"/\o.dict=none) \/
  (T="dict"/\((∃Hh,H p=some (.dK Hh))\/∃Hh,H p=some (.dT Hh)))\/(T="set"/\∃S n,H p=some (.set S n))
 |_=>False
theorem Dk {T:String}(I:Inv X pins σ H s)(r:aD x v)(ty:GC X.K T x H):
 s.TypeIs v T/\∀a,v=.ref a->∃ob,s.heap.get? a=some ob/\ob.dict=none:=by
 cases x with
 |str z =>
  obtain⟨t,rfl⟩:=r
  cases(show T="str" from ty)
  exact⟨typeIs_str s z t,λ_ e=>nomatch e⟩
 |int i =>
  obtain⟨t,rfl⟩:=r
  cases(show T="int" from ty)
  exact⟨typeIs_int s i t,λ_ e=>nomatch e⟩
 |ref p =>
  cases r
  rcases ty with⟨rfl,xs,hq⟩|⟨rfl,o,hk,hc,hd⟩|⟨rfl,hk⟩|⟨rfl,S,n,hk⟩
  ·obtain⟨its,_,pl,_⟩:=I.list hq;refine⟨pl.isList.typeIs,λa e=>?_⟩
   cases e
   obtain⟨o,n,e,c,hd,_⟩:=pl;exact⟨o,e,hd⟩
  ·refine⟨⟨o,I.kIn p o hk,hc⟩,λa e=>?_⟩
   cases e
   exact⟨o,I.kIn _ o hk,hd⟩
  ·have z:∃o,s.heap.get? p=some o/\o.ExactDict:=by
    rcases hk with⟨Hh,hk⟩|⟨Hh,hk⟩
    ·obtain⟨_,_,_,_,o,_,_,e,ex,_⟩:=I.hok p _ hk;exact⟨o,e,ex⟩
    ·obtain⟨_,_,_,_,o,_,_,e,ex,_⟩:=I.hok p _ hk;exact⟨o,e,ex⟩
   obtain⟨o,e,ex⟩:=z;refine⟨⟨o,e,ex.1⟩,λa e2=>?_⟩
   cases e2
   exact⟨o,e,ex.2.1⟩
  ·obtain⟨o,_,_,_,e,ex,_⟩:=I.hok p _ hk;refine⟨⟨o,e,ex.1⟩,λa e2=>?_⟩
   cases e2
   exact⟨o,e,ex.2.1⟩
 |_=>exact False.elim ty
def GZ (K:PySem.W.Frag)(T:String)(r:V->List V->Hp->VK->Prop)(to:TE)(t:TA):TE:=λσ H Q=>to σ H λx H1=>GC K T x H1/\t σ H1 λxs H2=>r x xs H2 Q
variable {o e:Expr}{es:qk}{to:TE}{t:TA}{name:Str}{apos Hz:Pos}{T id:String}{r:V->List V->Hp->VK->Prop}
theorem xp (pa:PlainAttrs T)(slot:Slot T name id)(Zu:typeOf (.builtin id)=pure (.type "method_descriptor"))(hm:GF X id r)(ho:PE X o to)(ha:PA X (e::es) t)
 (JP:attributeBase o name X.env (eval o X.env)=eval o X.env:=by rfl)
 (Su:((backTo Hz (starEach (e::es) X.env)).all (λx=>!x.1)&&(backToKw Hz (keywordEach [] X.env)).all (λx=>x.1.isSome)
  && decide ((e::es).length+([]:List Keyword).length+(if([]:List Keyword).isEmpty then 0 else 1)<30))=true:=by rfl)
 (JQ:(apos.endLine==Hz.line)=true:=by rfl)(hs:starEach (e::es) X.env=(false,eval e X.env):: starEach es X.env:=by rfl)(LK:(backTo Hz (starEach es X.env)).any (·.1)=false:=by rfl):
 PE X (.Call (.Attribute o name apos) (e::es) [] Hz) (GZ X.K T r to t):=by
 intro pins s σ H Q I h;refine wpAny_Call_method_late JP Su JQ rfl (bu (ho pins s σ H _ I h) λv s1 z'=>?_);obtain⟨x,H1,I1,r1,ty,q1⟩:=z';obtain⟨h1,h2⟩:=Dk I1 r1 ty;refine⟨T,id,pa,slot,Zu,h1,h2,?_⟩;have hA:=ha Hz pins s1 σ H1 _ I1 q1;rw[hs] at hA |-;refine Calls.callWith_builtin (by show(false || (backTo Hz (starEach es X.env)).any (·.1))=false;rw[LK] <;> rfl) (Calls.evalArgs_plain ?_);exact bu hA λus s2 ⟨vs,H2,I2,r2,q2⟩=>hm pins s2 σ H2 x vs v us Q I2 r1 r2 q2
/- xs.append(e),list.index on a Nv tuple .. are GF facts of 06m -/
end
def Gz (X:Cx)(id:String)(r:V->List V->Hp->VK->Prop):Prop :=
 ∀(pins:List (Addr×Obj))(s:CW)(σ:St)(H:Hp)(x:V)(xs:List V)(v:Value)(us:oN)(Q:VK),Inv X pins σ H s->aD x v->aK xs us->r x xs H Q →
  wpAny (model X.prog X.w) X.A (call (.builtin id) (v::us)) (EP X pins σ Q) X.xe s
theorem aK.one:∀{x:V}{us:oN},aK [x] us->∃u,us=[u]/\aD x u
 |_,_,.cons r .nil=>⟨_,rfl,r⟩
section
variable {X:Cx}{pins:List (Addr×Obj)}{σ:St}{H:Hp}{s:CW}{l b:Addr}{xs ys zs:List V}
theorem Inv.ab8 {its':oN}{f:Array Value->Array Value}{t':Nat}(I:Inv X pins σ H s)(hH:H l=some (.lst xs))
 (e:s.heap.get? l=some {cls:=.type "list",data:=.seq its.toArray n})(hf:f its.toArray=its'.toArray)(hv:aK ys its')(hz:ys.length<=sizeLine):
 Inv X pins σ (upd H l (.lst ys)) {s with heap:=s.heap.update l (Obj.mapSeq f),toks:=t'}:=by
 have q:=PySem.IsL.update e f;rw[hf] at q;refine I.write (x:=l) (e:=l) (by rw[hH];exact trivial) (.inl rfl) (λb' u hb hu=>(Heap.get?_update_other s.heap (Obj.mapSeq f) (Ne.symm hb)).trans hu) ⟨_,q⟩ ?_;exact⟨hz,its',_,hv,q⟩
theorem Inv.acr {t':Nat}(I:Inv X pins σ H s)(hv:aK ys its)(hz:ys.length<=sizeLine):
 Inv X pins σ (upd H s.heap.objs.size (.lst ys)) {s with heap:=s.heap.push {cls:=.type "list",data:=.seq its.toArray},toks:=t'}:=
 I.laid (λ_ _ q=>Heap.get?_push_of_some _ q) (Nat.le_refl _) ⟨hz,its,0,hv,Heap.get?_push_size _ rfl⟩
theorem Inv.fresh (I:Inv X pins σ H s):H s.heap.objs.size=none:=I.hok.fresh (Nat.le_refl _)
theorem Inv.abE (I:Inv X pins σ H s)(hH:H l=some (.lst xs)):xs.length<=sizeLine/\∃(its:oN)(n:Nat),aK xs its/\xs.length=its.length/\s.heap.get? l=some {cls:=.type "list",data:=.seq its.toArray n}:=by
 obtain⟨z,its,n,r,e⟩:=I.hok l _ hH;exact⟨z,its,n,r,r.length,e⟩
end
section
variable {X:Cx}
def abF:V->List V->Hp->VK->Prop:=λx vs H Q=>∃l xs y,x=.ref l/\vs=[y]/\H l=some (.lst xs)/\xs.length<sizeLine/\Q .non (upd H l (.lst (xs++[y])))
theorem m5:Gz X "list.append" abF:=by
 intro pins s σ H x vs v us Q I rx rv h;obtain⟨l,xs,y,rfl,rfl,hH,hz,q⟩:=h
 cases rx
 obtain⟨u,rfl,ru⟩:=rv.one;obtain⟨z,its,n,r,hl,e⟩:=I.abE hH;refine call_meets F.slot_list_append ⟨_,e,rfl⟩ F.entry_list_append (F.args_list_append_2 _ _) (PySem.list_append l its.toArray n u (by rw[List.size_toArray];omega)) ⟨e,?_⟩;refine⟨.non,_,I.ab8 (its':=its++[u]) hH e (by simp) (r.append (.cons ru .nil)) ?_,rfl,q⟩;rw[List.length_append,List.length_singleton];omega
def acs:R2:=λx y H Q=>∃l b xs zs,x=.ref l/\y=.ref b/\H l=some (.lst xs)/\H b=some (.lst zs)/\xs.length+zs.length<=sizeLine/\∀p,H p=none->Q (.ref p) (upd H p (.lst (xs++zs)))
theorem Dg:gB X (binaryOp .Add) acs:=by
 intro pins s σ H x y v u Q I rx ry h;obtain⟨l,b,xs,zs,rfl,rfl,hH,hB,hz,q⟩:=h
 cases rx
 cases ry
 obtain⟨z,its,n,r,hl,e⟩:=I.abE hH;obtain⟨z2,Ht,n2,r2,Jk,e2⟩:=I.abE hB;refine PySem.P.add_list e e2 ?_ (by rw[List.size_toArray,List.size_toArray];omega)
 have ea:its.toArray++Ht.toArray=(its++Ht).toArray:=by simp
 rw[ea];exact⟨.ref _,_,I.acr (t':=s.toks) (r.append r2) (by rw[List.length_append];omega),rfl,q _ I.fresh⟩
end
end L2
namespace W6
open PySem PySem.W PySem.Calls PyProof.Rows
theorem j3 {P:Params}{h:Heap}:∀(ns:List Int)(vs:oN),WellAll P h vs (ns.map WData.int)->IntsAre vs ns:=by
 intro ns
 induction ns with
 |nil =>
  intro vs w;rw[List.map_nil] at w
  cases w
  exact .nil
 |cons n ns ih =>
  intro vs w;rw[List.map_cons] at w
  cases w with
  |cons a b =>
   cases a
   exact .cons _ _ (ih _ b)
theorem wj {l:OpenLaw}{n:Nat}(hn:l.most=some n){P:Params}{h:Heap}{args:List WData}{vals:oN}
 (Kz:l.row.toRowW.claim.pre args=true)(Sv:WellAll P h vals args):
 ∃a vs ns,vals=[Value.ref a]/\args=[WData.list (ns.map WData.int)]/\h.get? a=some {cls:=.type "list",data:=.seq vs.toArray}/\IntsAre vs ns/\ns.length<=n:=by
 have Zv:WShape.hasAll [] args [.list .int]=true:=(pre_splitW Kz).1;have hc:l.pre.holds [] {args:=args}=true:=(pre_splitW Kz).2;obtain⟨d,r,rfl,h1,h2⟩:=hasAllW_cons Zv;obtain rfl:=hasAllW_nil h2;obtain⟨xs,rfl,h3⟩:=hasW_list h1;obtain⟨ns,rfl⟩:=items_int h3
 have hlen:ns.length<=n:=by
  unfold OpenLaw.pre at hc
  have h4:(WTm.not (.lt (.lit (.int (n:Int))) (.len (.arg 0)))).holds [] {args:=[.list (ns.map .int)]}=true:=by
   have h4:=(holds_andW hc).1;rw[hn] at h4;exact h4
  have h5:=condW_of h4 (w_not (w_lt w_lit (w_len_list (w_arg rfl))));rw[List.length_map] at h5;refine Nat.le_of_not_lt λq=>?_
  have q':(n:Int)<((ns.length:Nat):Int):=by omega
  first
   |(rw[decide_eq_true q'] at h5;exact absurd h5 (by decide))
   |(simp at h5;omega)
 cases Sv with
 |cons w1 w2 =>
  cases w2
  cases w1 with
  |list ho Ie=>exact⟨_,_,ns,rfl,rfl,ho,j3 ns _ Ie,hlen⟩
theorem vX (l:OpenLaw)(args:List WData):l.row.toRowW.claim.post args (.bool true) args=true :=
 postW_of (r:=l.row.toRowW) (X:=(true==true))
  (show WShape.has [] (.bool true) .bool=true by first|rfl|decide|simp[WShape.has,WShape.arms,WShape.armsAll])
  (show(WTm.eq .res (.lit (.bool true))).value [] {args:=args,res:=some (.bool true),after:=args}=some (.bool (true==true)) from w_eq_bool (w_res rfl) w_lit) rfl
theorem p6 {l:OpenLaw}{n:Nat}{q:zr}{loose:Bg}{XP:(Str->Option Value)->Heap->Prop}{YP:World->Heap->Prop}{d:DefRec}
 (hn:l.most=some n)(Nw:d.params.defaults=[])
 (call:∀(w:World)(s₀ s₁:CW)(mg mb:vK)(fa:Addr)(o:Obj)(pm cd doc:Value)(a:Addr)(vs:oN)(ns:List Int),
  Ground q loose [] XP w s₀ mg mb s₁.heap->YP w s₁.heap →
  s₁.heap.get? fa=some o->o.data=.func (docDef d.name d.params d.body d.scope pm cd doc)->s₁.heap.CodeRec cd d.name->mg d.name=some (.ref fa) →
  s₁.heap.get? a=some {cls:=.type "list",data:=.seq vs.toArray}->IntsAre vs ns->ns.length<=n->s₁.gens = #[] →
  codeAny (model l.prog w) callerA (.call (.ref fa) ⟨[.ref a],[]⟩) (λr s'=>r=.ok (.ret (.bool true))/\OldK s₁.heap s'.heap/\s'.os=s₁.os/\AllBare s'.gens) s₁):
 WalkO q loose XP YP l.row.toRowW d [] (λf vs=>PySem.call f vs):=by
 intro w s₀ s₁ mg mb G Y fa o pm cd doc dV kV ho hd Ia hD Sw hg args vals as Kz Zw hrd Sv hlo;obtain rfl:dV=.none:=Dflts.none hD Nw;obtain rfl:kV=.none:=Dflts.noKw hD;obtain⟨a,vs,ns,rfl,rfl,LL,hints,hlen⟩:=wj hn Kz Sv;refine enter_call (codeAny_mono (call w s₀ s₁ mg mb fa o pm cd doc a vs ns G Y ho (fd_plain hd) Ia Sw LL hints hlen hg) λr s' hq=>?_);obtain⟨rfl,h2,h3,h4⟩:=hq;exact⟨.inl ⟨.bool true,.bool true,[],rfl,λ_=>rfl,.bool true,vX l _,λ_=>⟨List.Pairwise.nil,λ_ hm=>(nomatch hm)⟩⟩,h2,h3,h4⟩
end W6
namespace L2
open PySem PySem.Spec PyProof.Rows
theorem nv:∀{vs:oN}{ns:List Int},IntsAre vs ns->aK (ns.map V.int) vs
 |_,_,.nil=>.nil
 |_,_,.cons n t h=>.cons ⟨t,rfl⟩ (nv h)
structure zA (K:PySem.W.Frag)(x qual:Str)(st:Stmt)(f:Addr)(fd:zI):Prop where
 ex:∃(oc:Value)(od:Cw)(kV doc pm:Value)(an:Cw)(Hn ct:Value)(HG:Ei),
  fd=PySem.W.fnOf x qual (cM st) (b9 st) (ak st) .none kV doc pm an Hn ct/\K.lookup f=some ⟨oc,od,.func fd,HG⟩/\PySem.W.codeIn K Hn qual=true
 kp:PySem.W.keepIn K (.ref f)=true
variable {x qual:Str}{st:Stmt}{f:Addr}{fd:zI}{ps:Bg}
section
variable {P:zr}{w:World}{K:PySem.W.Frag}{mg:vK}{base:Heap}
theorem zA.binds (F:zA K x qual st f fd)
 (h:∀(kV doc pm:Value)(an:Cw)(Hn ct:Value)(us:oN),us.length=ps.length->bindArgs (PySem.W.fnOf x qual (cM st) (b9 st) (ak st) .none kV doc pm an Hn ct) ⟨us,[]⟩=pure (ps.zip us)):aA K fd ps []:=by
 obtain⟨oc,od,kV,doc,pm,an,Hn,ct,HG,rfl,lk,Ia⟩:=F.ex;exact .all (h kV doc pm an Hn ct)
theorem BV {oc:Value}{od an:Cw}{HG:Ei}{kV doc pm Hn ct:Value}(l:K.lookup f=some ⟨oc,od,.func (PySem.W.fnOf x qual (cM st) (b9 st) (ak st) .none kV doc pm an Hn ct),HG⟩)
 (c:PySem.W.codeIn K Hn qual=true)(k:PySem.W.keepIn K (.ref f)=true):zA K x qual st f (PySem.W.fnOf x qual (cM st) (b9 st) (ak st) .none kV doc pm an Hn ct):=⟨⟨oc,od,kV,doc,pm,an,Hn,ct,HG,rfl,l,c⟩,k⟩
end
theorem vc {n:Nat}(h:n<=1000):n<sizeLine:=Nat.lt_of_le_of_lt h (by decide)
section
variable {X:Cx}
theorem pv (i:Nat){pos:Pos}(hN:X.N[i]?=some x:=by rfl)(hv:E8 X.env.scope x:=by first|exact Or.inl rfl|exact Or.inr (Or.inl rfl)|exact Or.inr (Or.inr rfl))(hd:(x==("__debug__":Str))=false:=by decide)
 (Ia:(x==("__classdict__":Str))=false:=by decide):PE X (.Name x pos) (cw i):=aaj hN hv hd Ia
end
theorem a9 {A B:Prop}(h:B):if false=true then A else B:=by
 rw[if_neg Bool.false_ne_true];exact h
theorem aZ {A B:Prop}(h:A):if true=true then A else B:=by
 rw[if_pos rfl];exact h
theorem dI {c A B:Prop} [Decidable c](h1:c->A)(h2:¬c->B):if c then A else B:=by
 by_cases h:c
 ·rw[if_pos h];exact h1 h
 ·rw[if_neg h];exact h2 h
def aw (H H':Hp):Prop:=∀b o,H b=some o->H' b=some o
theorem aw.refl (H:Hp):aw H H:=λ_ _ h=>h
variable {H:Hp}
theorem aw.trans {H1 H2:Hp}(a:aw H H1)(b:aw H1 H2):aw H H2:=λc o h=>b c o (a c o h)
variable {P:zr}{w:World}{h:Heap}{a:Addr}
theorem fT {o:HO}(x:gu P w H h)(hn:H a=none)(new:bc P w (upd H a o) h a o):gu P w (upd H a o) h:=λb u e=>by
 by_cases hb:b=a
 ·subst hb;rw[ae] at e;cases e;exact new
 ·rw[aq hb] at e
  exact(x b u e).aa0 (λc v _ q=>q) (λc q=>by rw[aq (au q hn)];exact q) λc xs q=>by rw[aq (au q hn)];exact q
variable {env:Env}
section
variable {prog:zr}{w:World}{A:Around}{R:Result->Shared->Prop}{s:CW}
theorem ow {elt target iter:Expr}{ifs:qk}{scope:Scope}{pos:Pos}{it acc:Value}(I:Nat->Shared->Prop)
 (turn:∀n s,I n s->wpAny (model prog w) A (pyNext it) (λr s₁=>match r with
  |none=>R (.ok .next) s₁
  |some v=>wpAny (model prog w) A (letOwnedTupleGo target it v) (λ_ s₁=>wpAny (model prog w) A (assign target env v) (λ_ s₂ =>
   wpAny (model prog w) A (forIn ifs true λc r=>if r=true then do let ok <-isTrue c env (eval c env);pure (ForInStep.yield ok) else pure (ForInStep.yield r)) (λok s₃ =>
    if ok=true then wpAny (model prog w) A (eval elt env) (λx s₄ =>
     wpAny (model prog w) A (call (.builtin "list.append") [acc,x]) (λ_ s₅=>∃m,m<n/\I m s₅) (λ_ _=>False) s₄) (λ_ _=>False) s₃
    else ∃m,m<n/\I m s₃) (λ_ _=>False) s₂) (λ_ _=>False) s₁) (λ_ _=>False) s₁) (λ_ _=>False) s)
 (n:Nat)(h:I n s):
 codeAny (model prog w) A (.compLoop (.ListComp elt [⟨target,iter,ifs,0⟩] scope pos) 0 it acc env) R s:=by
 refine codeAny_loop rfl I (λn s hI=>?_) n h;show wpAny _ A ((compTurn (.ListComp elt [⟨target,iter,ifs,0⟩] scope pos) 0 it acc env).onRaise (λx=>do noteFrame x env;theTreesLotGoes x)) _ _ s;refine wpAny_noted ?_;rw[compTurn_list];refine wpAny_bind (wpAny_standAt (wpAny_bind (wpAny_mono (turn n s hI) (λr s₁ h₁=>?_) λ_ _ z=>False.elim z)))
 cases r with
 |none=>exact wpAny_pure h₁
 |some v =>
  refine wpAny_bind (wpAny_mono h₁ (λ_ s₁' Zx=>?_) λ_ _ z=>False.elim z);refine wpAny_bind (wpAny_mono Zx (λ_ s₂ h₂=>wpAny_bind (wpAny_mono h₂ (λok s₃ h₃=>?_) λ_ _ z=>False.elim z)) λ_ _ z=>False.elim z)
  cases ok with
  |false=>exact wpAny_pure ⟨rfl,h₃⟩
  |true =>
   exact wpAny_bind (wpAny_bind (wpAny_mono h₃ (λx s₄ h₄=>wpAny_bind (wpAny_mono h₄ (λ_ s₅ h₅=>wpAny_pure (wpAny_pure ⟨rfl,h₅⟩)) λ_ _ z=>False.elim z)) λ_ _ z=>False.elim z))
end
def gW (names:List (Str×NameKind))(env:Env):List (Str×Addr):=((names.filter λx=>x.2 == .free).map λx=>(x.1,(env.cells.lookup x.1).getD 0)).reverse
theorem mw {scope:Scope}(h:∀x∈scope.names,x.2=.free->∃c,env.cells.lookup x.1=some c):closureFor scope env=pure (gW scope.names env):=by
 have key:∀(names:List (Str×NameKind))(cs:List (Str×Addr)),(∀x∈names,x.2=.free->∃c,env.cells.lookup x.1=some c) →
  (forIn names cs (λ(x:Str×NameKind)(r:List (Str×Addr))=>if(x.2==NameKind.free)=true then(do let a <-cellOf env x.1;pure (ForInStep.yield ((x.1,a):: r))) else pure (ForInStep.yield r)):Sem (List (Str×Addr)))=pure (gW names env++cs):=by
  intro names
  induction names with
  |nil=>intro cs _;rfl
  |cons x r ih =>
   intro cs hn;rw[List.forIn_cons];obtain⟨n,k⟩:=x
   by_cases hk:k=.free
   ·subst hk;obtain⟨c,hc⟩:=hn (n,.free) List.mem_cons_self rfl
    have Zy:cellOf env n=pure c:=by unfold cellOf;rw[hc]
    simp only[beq_self_eq_true,if_true,Zy,pure_bind];rw[ih _ λy hy=>hn y (List.mem_cons_of_mem _ hy)];simp[gW,hc]
   ·have hb:(k==NameKind.free)=false:=by simpa using hk
    simp only[hb,Bool.false_eq_true,if_false,pure_bind];rw[ih _ λy hy=>hn y (List.mem_cons_of_mem _ hy)];simp[gW,hb]
 have z:=key scope.names [] h;rw[List.append_nil] at z;unfold closureFor
 first
  |exact z
  |(simp only[bind_pure];exact z)
  |(simp;exact z)
theorem qI {names:List (Str×NameKind)}(h:∀x∈names,x.2=.free->∃c,env.cells.lookup x.1=some c){c:Addr}(e:(gW names env).lookup x=some c):env.cells.lookup x=some c:=by
 have m:=PySem.mem_of_lookup e;unfold gW at m;rw[List.mem_reverse,List.mem_map] at m;obtain⟨y,hy,e'⟩:=m;rw[List.mem_filter] at hy;obtain⟨c',HK⟩:=h y hy.1 (by simpa using hy.2);rw[HK] at e'
 injection e' with e1 e2
 subst e1;rw[HK];exact congrArg some e2
theorem pS {names:List (Str×NameKind)}{env:Env}(hm:(x,NameKind.free)∈names):∃c,(gW names env).lookup x=some c:=by
 have m:∃c,(x,c)∈gW names env:=⟨(env.cells.lookup x).getD 0,by
  unfold gW;rw[List.mem_reverse,List.mem_map]
  exact⟨(x,.free),List.mem_filter.mpr ⟨hm,rfl⟩,rfl⟩⟩
 obtain⟨c,m⟩:=m
 cases q:(gW names env).lookup x with
 |some d=>exact⟨d,rfl⟩
 |none =>
  exfalso
  have:∀(l:List (Str×Addr)),(x,c)∈l->l.lookup x≠none:=by
   intro l
   induction l with
   |nil=>intro h;cases h
   |cons p r ih =>
    intro h;rw[List.lookup_cons]
    rcases List.mem_cons.mp h with h|h
    ·subst h;simp
    ·split
     ·simp
     ·exact ih h
  exact this _ m q
def gQ (X:Cx)(N:Bg)(scope:Scope)(C:Addr)(fp:List Addr)(s:CW)(H:Hp):Cx where
 prog:=X.prog
 w:=X.w
 K:=X.K
 mg:=X.mg
 base:=X.base
 A:=X.A
 N:=N
 s₀:=s
 H₀:=H
 env:=compEnvC scope (gW scope.names X.env) C X.env
 outer:=X.stack
 stack:=X.stack
 ex:=fp
 fn:=λ_=>false
 calm:=X.calm
 pn:=[]
 xe:=λ_ _=>False
def σC (nl:Nat)(js:List Nat)(σ:St):St:=List.replicate nl none++js.map λj=>(σ[j]?).join
structure CR (X:Cx)(N:Bg)(nl:Nat)(js:List Nat)(osc scope:Scope):Prop where
 out:X.env.scope=osc
 kind:scope.kind=.function
 cell:∀y∈scope.names,y.2≠.cell
 names:∀y∈scope.names,y.2=.local->scope.names.lookup y.1=some .local
 free:∀y∈scope.names,y.2=.free->osc.names.lookup y.1=some .cell\/osc.names.lookup y.1=some .free
 len:N.length=nl+js.length
 src:Paired (λj x=>X.N[j]?=some x/\(x,NameKind.free)∈scope.names) js (N.drop nl)
 acu:∀y∈scope.names,y.2=.free->scope.names.lookup y.1≠some .local
theorem gq {env:Env}:∀{names:List (Str×NameKind)}{x:Str}{k:NameKind},(∀y∈names,y.2≠.cell) →
 (names.map λ(n,k)=>if(k==NameKind.free&&env.scope.kind == .function&&env.kindOf n==some .cell) then(n,NameKind.cell) else(n,k)).lookup x=some k->(k=.cell\/k=.free)->(x,NameKind.free)∈names
 |[],_,_,_,h,_=>by simp at h
 |(n,k0):: r,x,k,hc,h,hk=>by
  have h:List.lookup x ((if(k0==NameKind.free&&env.scope.kind == .function&&env.kindOf n==some .cell)=true then(n,NameKind.cell) else(n,k0)):: r.map λ(n,k)=>if(k==NameKind.free&&env.scope.kind == .function&&env.kindOf n==some .cell) then(n,NameKind.cell) else(n,k))=some k:=h;have ih:=@gq env r x k λy hy=>hc y (List.mem_cons_of_mem _ hy)
  by_cases hx:x=n
  ·subst hx
   have LM:k0=.free:=by
    by_cases hb:(k0==NameKind.free&&env.scope.kind == .function&&env.kindOf x==some .cell)=true
    ·have:=(Bool.and_eq_true_iff.mp (Bool.and_eq_true_iff.mp hb).1).1;simpa using this
    ·rw[if_neg hb] at h;simp only[List.lookup_cons,beq_self_eq_true] at h;have e:k0=k:=Option.some.inj h
     rcases hk with z|z
     ·exact absurd (e.trans z) (hc (x,k0) List.mem_cons_self)
     ·exact e.trans z
   subst LM;exact List.mem_cons_self
  ·have hb:(x==n)=false:=by simpa using hx
   refine List.mem_cons_of_mem _ (ih ?_ hk)
   by_cases HK:(k0==NameKind.free&&env.scope.kind == .function&&env.kindOf n==some .cell)=true
   ·rw[if_pos HK] at h;simp only[List.lookup_cons,hb] at h;exact h
   ·rw[if_neg HK] at h;simp only[List.lookup_cons,hb] at h;exact h
variable {pins:List (Addr×Obj)}{σ:St}{s:CW}{C:Addr}{g:TG}{tt:TT}{te:TE}
section
variable {X:Cx}{tg iter elt:Expr}{ifs:qk}{scope osc:Scope}{pos:Pos}{N:Bg}{nl:Nat}{js:List Nat}
def ES (X:Cx)(ifs:qk)(t:TT):Prop :=
 ∀(pins:List (Addr×Obj))(s:CW)(σ:St)(H:Hp)(Q:Bool->Hp->Prop),Inv X pins σ H s->t σ H Q →
  wpAny (model X.prog X.w) X.A (forIn ifs true λc r=>if r=true then do let ok <-isTrue c X.env (eval c X.env);pure (ForInStep.yield ok) else pure (ForInStep.yield r)) (TP X pins σ Q) X.xe s
def DF:TT:=λ_ H Q=>Q true H
theorem bZ:ES X [] DF:=λ_ _ _ H _ I h=>wpAny_tests_nil ⟨H,I,h⟩
theorem iU {c:Expr}{t:TT}(h:PT X c t):ES X [c] t:=λpins s σ H Q I hw=>wpAny_tests_one (h pins s σ H Q I hw)
theorem dq {s:CW}{b:Addr}{h':Heap}(I:Inv X pins σ H s)(f:df X pins H b)(sb:Heap.SameBut b s.heap h'):Inv X pins σ H {s with heap:=h'}:=
 I.turned (t':=s.toks) (λc o hc e=>(sb.2 c hc).trans e) f.1 f.2.1 f.2.2.2.1 f.2.2.2.2.1 f.2.2.2.2.2
def hV (J:It)(g:TG)(tt:TT)(te:TE)(W:Nat->Nat->List V->St->Hp->Prop)(Fin:List V->Hp->Prop):Prop :=
 ∀i m xs σ' H',W i m xs σ' H'->xs.length<sizeLine/\((J.stop i H'/\Fin xs H') \/
  (J.go i H'/\∀x H2,J.yld i H' x H2->g x σ' H2 λσ3 H3=>tt σ3 H3 λb H4 =>
   if b=true then te σ3 H4 λy H5=>∃m',m'<m/\W (i+1) m' (xs++[y]) σ3 H5 else ∃m',m'<m/\W (i+1) m' xs σ3 H4))
theorem u9 {fp:List Addr}{h1:Heap}{tk:Nat}(S:CR X N nl js osc scope)(I:Inv X pins σ H s)(f:∀b∈fp,df X pins H b)(Nx:∀b∈fp,b<s.heap.objs.size)
 (hC:s.heap.objs.size<=C)(old:∀b o,s.heap.get? b=some o->h1.get? b=some o){m1:vK}(Rf:h1.Ns C m1):
 Inv (gQ X N scope C fp s H) [] (σC nl js σ) H {s with heap:=h1,toks:=tk}:=by
 have IV:∀y∈scope.names,y.2=.free->X.env.kindOf y.1=some .cell\/X.env.kindOf y.1=some .free:=λy hy hf=>by
  have:=S.free y hy hf;rw[<-S.out] at this;exact this
 have Jl:∀y∈scope.names,y.2=.free->∃c,X.env.cells.lookup y.1=some c:=λy hy hf=>I.ok.has y.1 (IV y hy hf);have sub:∀x c,(gW scope.names X.env).lookup x=some c->X.env.cells.lookup x=some c:=λx c e=>qI Jl e
 have Ny:∀b∈fp,b∉eZ X.stack:=λb hb z=>by
  rcases List.mem_cons.mp (I.aay b z) with q|q
  ·exact(f b hb).2.1 q
  ·exact(f b hb).2.2.1 q
 refine⟨⟨I.ok.mod,S.kind,I.ok.glob,I.ok.blt,hC,λx y c e1 e2=>I.ok.inj x y c (sub x c e1) (sub y c e2),λx hx=>?_,λx c z _=>absurd z (by show ¬(false=true);decide),I.ok.hd,I.ok.frames,.inl rfl,
  λb hb=>⟨Nat.ne_of_lt (Nat.lt_of_lt_of_le (Nx b hb) hC),λx c e=>(f b hb).2.2.2.2.1 x c (sub x c e)⟩,I.bs,Nat.le_trans I.ok.bsz I.sz,λb o e hb=>?_,Ny,I.stack,I.aaE⟩,
  rfl,I.bare,Un.kept old,⟨m1,Rf,λi x v e1 e2 e3=>?_⟩,λx c e=>?_,I.hok.fresh hC,λx c e=>I.aar x c (sub x c e),λp hp=>absurd (show p∈([]:List (Addr×Obj)) from hp) (by simp),I.hok.kept old,?_⟩
 ·have hx:(relabel scope X.env).names.lookup x=some .cell\/(relabel scope X.env).names.lookup x=some .free:=hx
  have m:(x,NameKind.free)∈scope.names:=by
   rcases hx with z|z
   ·exact gq S.cell z (.inl rfl)
   ·exact gq S.cell z (.inr rfl)
  exact pS m
 ·rcases(f b hb).2.2.2.1 with z|z
  ·exact I.ok.abq b o e z
  ·exact absurd (Nat.lt_of_lt_of_le (Heap.lt_size e) (Nat.le_trans I.ok.bsz z)) (Nat.lt_irrefl _)
 ·-- KR names
  have e1:N[i]?=some x:=e1;unfold σC at e2
  by_cases hi:i<nl
  ·rw[List.getElem?_append_left (by simpa using hi),List.getElem?_replicate] at e2
   split at e2 <;> cases e2
  ·obtain⟨k,rfl⟩:∃k,i=nl+k:=⟨i-nl,by omega⟩;rw[List.getElem?_append_right (by simp),List.length_replicate,Nat.add_sub_cancel_left,List.getElem?_map] at e2
   cases ej:js[k]? with
   |none=>rw[ej] at e2;cases e2
   |some j =>
    rw[ej] at e2;have e2:some ((σ[j]?).join)=some (some v):=e2;have e2:=Option.some.inj e2
    have e4:σ[j]?=some (some v):=by
     cases q:σ[j]? with
     |none=>rw[q] at e2;cases e2
     |some z=>rw[q] at e2;exact congrArg some e2
    have e5:(N.drop nl)[k]?=some x:=by rw[List.getElem?_drop];exact e1
    have gp:∀{l1:List Nat}{l2:Bg}{k:Nat}{j:Nat}{x:Str},Paired (λj x=>X.N[j]?=some x/\(x,NameKind.free)∈scope.names) l1 l2->l1[k]?=some j->l2[k]?=some x->X.N[j]?=some x/\(x,NameKind.free)∈scope.names:=by
     intro l1 l2 k j x p
     induction p generalizing k with
     |nil=>intro h;simp at h
     |cons r _ ih =>
      intro h1 h2
      cases k with
      |zero=>simp at h1 h2;subst h1;subst h2;exact r
      |succ k=>exact ih (by simpa using h1) (by simpa using h2)
    obtain⟨hx,hm⟩:=gp S.src ej e5;have hk:=IV (x,.free) hm rfl;obtain⟨m,hn,hl⟩:=I.loc
    have Zz:E8 X.env.scope x:=by
     rcases hk with z|z
     ·exact .inr (.inl z)
     ·exact .inr (.inr z)
    obtain⟨u,r,l⟩:=hl j x v hx e4 Zz;refine⟨u,r,?_⟩
    rcases l with⟨k1,_⟩|⟨_,c,hc,Js⟩
    ·exfalso
     rcases hk with z|z <;> (rw[z] at k1;cases k1)
    ·obtain⟨c',HK⟩:=pS (env:=X.env) hm;have:=sub x c' HK;rw[hc] at this
     cases this
     refine .inr ⟨?_,c,HK,?_⟩
     ·rcases e3 with z|z|z
      ·-- a name of KR Rg own: no
       exfalso
       have lk:scope.names.lookup x=some .local:=by
        have gen:∀(l:List (Str×NameKind)),(l.map λ(n,k)=>if(k==NameKind.free&&X.env.scope.kind == .function&&X.env.kindOf n==some .cell) then(n,NameKind.cell) else(n,k)).lookup x=some .local->l.lookup x=some .local:=by
         intro l
         induction l with
         |nil=>intro h;simp at h
         |cons p r ih =>
          obtain⟨n,k0⟩:=p;intro h;have h:List.lookup x ((if(k0==NameKind.free&&X.env.scope.kind == .function&&X.env.kindOf n==some .cell)=true then(n,NameKind.cell) else(n,k0)):: r.map λ(n,k)=>if(k==NameKind.free&&X.env.scope.kind == .function&&X.env.kindOf n==some .cell) then(n,NameKind.cell) else(n,k))=some .local:=h
          cases hb:x==n with
          |true =>
           by_cases HK:(k0==NameKind.free&&X.env.scope.kind == .function&&X.env.kindOf n==some .cell)=true
           ·rw[if_pos HK] at h;simp only[List.lookup_cons,hb] at h;cases h
           ·rw[if_neg HK] at h;simp only[List.lookup_cons,hb] at h |-;exact h
          |false =>
           simp only[List.lookup_cons,hb];refine ih ?_
           by_cases HK:(k0==NameKind.free&&X.env.scope.kind == .function&&X.env.kindOf n==some .cell)=true
           ·rw[if_pos HK] at h;simp only[List.lookup_cons,hb] at h;exact h
           ·rw[if_neg HK] at h;simp only[List.lookup_cons,hb] at h;exact h
        exact gen _ z
       exact S.acu (x,.free) hm rfl lk
      ·exact .inl z
      ·exact .inr z
     ·obtain⟨o,ho,hd⟩:=Js;exact⟨o,old _ _ ho,hd⟩
 ·obtain⟨v,o,ho,hd⟩:=I.cell x c (sub x c e);exact⟨v,o,old _ _ ho,hd⟩
 ·show(σC nl js σ).length=N.length;unfold σC;rw[List.length_append,List.length_replicate,List.length_map,S.len]
abbrev AY (ys:oN)(k:Nat):Obj:={cls:=.type "list",data:=.seq ys.toArray k}
theorem lF {J:It}{it:Addr}{fp:List Addr}{tn:Nat->Heap->Prop}{W:Nat->Nat->List V->St->Hp->Prop}{Fin:List V->Hp->Prop}
 {E:yf}{RR:Value->Addr->Result->Shared->Prop}
 (S:CR X N nl js osc scope)(hc:X.calm=true)(hg:∀C fp s H,PG (gQ X N scope C fp s H) tg g)(ht:∀C fp s H,ES (gQ X N scope C fp s H) ifs tt)(he:∀C fp s H,PE (gQ X N scope C fp s H) elt te)
 (I:Inv X pins σ H s)(T:Turn X.prog X.w X.K tg J fp it tn)(st:tn 0 s.heap)(f:∀b∈fp,df X pins H b)(w0:∃m,W 0 m [] (σC nl js σ) H)(hW:hV J g tt te W Fin)
 (ZA:∀(D C:Addr)(H':Hp)(s':CW)(xs:List V)(m:vK),Inv X pins σ (upd H' D (.lst xs)) s'->H' D=none->s'.heap.Ns C m->df X pins (upd H' D (.lst xs)) C->Fin xs H'->RR (.ref D) C (.ok .next) s'):
 wpAny (model X.prog X.w) X.A (newList []) (λacc s₃=>wpAny (model X.prog X.w) X.A (newFunctionEnv scope X.env.globals (gW scope.names X.env) [] X.env.qual none .none (some X.env)) (λNz s₄ =>
  codeAny (model X.prog X.w) X.A (.compStart (.ListComp elt [⟨tg,iter,ifs,0⟩] scope pos) 0 (.ref it) acc {Nz with scope:=relabel scope X.env}) (RR acc Nz.locals) s₄) E s₃) E s:=by
 have Nx:∀b∈fp,b<s.heap.objs.size:=λb hb=>by
  obtain⟨o,e,_⟩:=T.obj 0 _ st b hb;exact Heap.lt_size e
 refine wpAny_newObj_type (wpAny_newFunctionEnv S.cell (by intro y hy;simp at hy) (λh₁ LN KA=>?_) S.kind);dsimp only at LN KA |-;generalize Sx:s.heap.push {cls:=.type "list",dict:=none,data:=.seq ([]:oN).toArray}=H2 at LN KA |-
 have hC:H2.objs.size=s.heap.objs.size+1:=by rw[<-Sx,Heap.size_push]
 have Rh:s.heap.objs.size≠H2.objs.size:=by rw[hC];exact Nat.ne_of_lt (Nat.lt_succ_self _)
 have below:∀b,b<s.heap.objs.size->b≠H2.objs.size/\b≠s.heap.objs.size:=λb hb=>⟨by rw[hC];exact Nat.ne_of_lt (Nat.lt_succ_of_lt hb),Nat.ne_of_lt hb⟩;have old:∀b o,s.heap.get? b=some o->h₁.get? b=some o:=λb o e=>KA.extBut b o (below b (Heap.lt_size e)).1 (Heap.get?_push_of_some _ (Sx▸Heap.get?_push_of_some _ e));have Sy:h₁.get? s.heap.objs.size=some {cls:=.type "list",data:=.seq ([]:oN).toArray 0}:=KA.extBut _ _ Rh (Heap.get?_push_of_some _ (Sx▸Heap.get?_push_size _ rfl))
 have NA:s.heap.objs.size<=H2.objs.size:=by rw[hC];exact Nat.le_succ _
 have Jl:∀y∈scope.names,y.2=.free->∃c,X.env.cells.lookup y.1=some c:=λy hy hf=>by
  have z:=S.free y hy hf;rw[<-S.out] at z;exact I.ok.has y.1 z
 have sub:∀x c,(gW scope.names X.env).lookup x=some c->X.env.cells.lookup x=some c:=λx c e=>qI Jl e
 have ZC:∀x c,(gW scope.names X.env).lookup x=some c->c<s.heap.objs.size:=λx c e=>by
  obtain⟨v,q⟩:=I.cell x c (sub x c e);exact q.lt
 have Ny:∀b∈fp,b∉eZ X.stack:=λb hb z=>by
  rcases List.mem_cons.mp (I.aay b z) with q|q
  ·exact(f b hb).2.1 q
  ·exact(f b hb).2.2.1 q
 have W7:s.heap.objs.size∉eZ X.stack:=λz=>by
  rcases List.mem_cons.mp (I.aay _ z) with q|q
  ·exact absurd I.lt (by rw[<-q];exact Nat.lt_irrefl _)
  ·exact I.ab4 (Nat.le_refl _) q
 have W8:s.heap.objs.size∉fp:=λz=>Nat.lt_irrefl _ (Nx _ z)
 have Sz:∀{H':Hp}{ob:Obj},(∀b∈fp,H' b=none)->∀b∈fp,df (gQ X N scope H2.objs.size fp s H) [(s.heap.objs.size,ob)] H' b:=λ{H' ob} hn b hb =>
  ⟨hn b hb,(below b (Nx b hb)).1,Ny b hb,.inl hb,λx c e=>(f b hb).2.2.2.2.1 x c (sub x c e),λp hp z=>by
   have e:p=(s.heap.objs.size,ob):=by
    have:p∈[(s.heap.objs.size,ob)]:=hp;simpa using this
   subst e
   exact W8 (by rw[show s.heap.objs.size=b from z];exact hb)⟩
 have ZD:∀{H':Hp},H' s.heap.objs.size=none->df (gQ X N scope H2.objs.size fp s H) [] H' s.heap.objs.size:=λ{H'} hn =>
  ⟨hn,Rh,W7,.inr (Nat.le_refl _),λx c e=>Nat.ne_of_lt (ZC x c e),λp hp=>absurd (show p∈([]:List (Addr×Obj)) from hp) (by simp)⟩
 have NB:∀{σ':St}{H':Hp}{s':CW}{ys:oN}{k:Nat},Inv (gQ X N scope H2.objs.size fp s H) [] σ' H' s'->H' s.heap.objs.size=none->s'.heap.get? s.heap.objs.size=some (AY ys k) →
  Inv (gQ X N scope H2.objs.size fp s H) [(s.heap.objs.size,AY ys k)] σ' H' s':=λ{σ' H' s' ys k} I' hn hl=>I'.aaA λp hp=>by
  have e:p=(s.heap.objs.size,AY ys k):=by simpa using hp
  subst e;exact⟨hl,hn,Rh,W7,λv z=>by cases z⟩
 have loop:∀s₃:Shared,s₃={s with heap:=h₁,toks:=s.toks+([]:List (Str×Value)).length} →
  codeAny (model X.prog X.w) X.A (.compLoop (.ListComp elt [⟨tg,iter,ifs,0⟩] scope pos) 0 (.ref it) (.ref s.heap.objs.size) (compEnvC scope (gW scope.names X.env) H2.objs.size X.env))
   (RR (.ref s.heap.objs.size) H2.objs.size) s₃:=by
  rintro s₃ rfl;obtain⟨m0,w0⟩:=w0;have I0:Inv (gQ X N scope H2.objs.size fp s H) [] (σC nl js σ) H {s with heap:=h₁,toks:=s.toks+([]:List (Str×Value)).length}:=u9 S I f Nx NA old LN
  refine ow (λn s'=>∃i σ' H' xs ys k,Inv (gQ X N scope H2.objs.size fp s H) [(s.heap.objs.size,AY ys k)] σ' H' s'/\tn i s'.heap/\(∀b∈fp,H' b=none)/\aK xs ys/\W i n xs σ' H') ?_ m0
   ⟨0,σC nl js σ,H,[],[],0,NB I0 (I.hok.fresh (Nat.le_refl _)) Sy,T.keep _ _ _ st λb _ o e=>old b o e,λb hb=>(f b hb).1,.nil,w0⟩
  rintro n s' ⟨i,σ',H',xs,ys,k,I',Ik,W9,rv,w'⟩;obtain⟨hz,hw⟩:=hW i n xs σ' H' w'
  rcases hw with⟨stop,fin⟩|⟨go,step⟩
  ·refine wpAny_mono (T.done (gQ X N scope H2.objs.size fp s H) rfl rfl rfl hc i _ s' σ' H' (λ_ _=>False) I' (Sz W9) Ik stop) (λr s1 z'=>?_) λ_ _ z=>z;obtain⟨hr,I1⟩:=z';subst hr;obtain⟨p1,p2,_⟩:=I1.pin (s.heap.objs.size,AY ys k) (by show _∈([]:List (Addr×Obj))++[_];simp);have u1:Un (eZ X.stack) fp H H' s.heap s1.heap:=I1.base
   have u2:Un (eZ X.stack) fp H (upd H' s.heap.objs.size (.lst xs)) s.heap s1.heap:=⟨u1.keep,u1.slot,λb o e n hx=>by rw[aq (Nat.ne_of_lt (Heap.lt_size e))];exact u1.free b o e n hx,u1.there,
    λb zs e=>by rw[aq (au (u1.aaq b zs e) p2)];exact u1.aaq b zs e,λb o zs e=>by rw[aq (au (u1.aap b o zs e) p2)];exact u1.aap b o zs e,λb ps e=>by
     obtain⟨mo,q⟩:=u1.aax b ps e
     exact⟨mo,by rw[aq (au q p2)];exact q⟩⟩
   have hk:gu X.prog X.w (upd H' s.heap.objs.size (.lst xs)) s1.heap:=fT I1.hok p2 ⟨Nat.le_of_lt hz,ys,k,rv,p1⟩;have I3:Inv X pins σ (upd H' s.heap.objs.size (.lst xs)) s1:=I.ab5 I1.os u2 hk I1.bare λb hb=>⟨(f b hb).2.2.2.1,(f b hb).2.1,(f b hb).2.2.2.2.1,(f b hb).2.2.2.2.2⟩;obtain⟨mm,ZE,_⟩:=I1.loc
   have ZF:upd H' s.heap.objs.size (.lst xs) H2.objs.size=none:=by rw[aq (Ne.symm Rh)];exact I1.free
   exact ZA _ _ H' s1 xs mm I3 p2 ZE (I.aaW NA ZF) fin
  ·refine wpAny_mono (T.item (gQ X N scope H2.objs.size fp s H) rfl rfl rfl hc i _ s' σ' H' (λ_ _=>False) I' (Sz W9) Ik go) (λr s1 z'=>?_) λ_ _ z=>z;obtain⟨u,hr,h4⟩:=z';subst hr;refine wpAny_mono h4 (λ_ s2 z'=>?_) λ_ _ z=>z;obtain⟨x,Xa,I2,r2,y2,Ku,ZG⟩:=z';have ZH:=I2.pinned (Sz ZG) (T.obj _ _ Ku);refine wpAny_mono (hg _ _ _ _ _ s2 σ' Xa x u _ ZH r2 (step x Xa y2)) (λ_ s3 z'=>?_) λ_ _ z=>z;obtain⟨σ3,H3,I3,q3⟩:=z';refine wpAny_mono (ht _ _ _ _ _ s3 σ3 H3 _ I3 q3) (λok s4 z'=>?_) λ_ _ z=>z;obtain⟨H4,I4,q4⟩:=z'
   have back:∀{s5:CW}{H5:Hp},Inv (gQ X N scope H2.objs.size fp s H) ([(s.heap.objs.size,AY ys k)]++lE fp s2.heap) σ3 H5 s5->tn (i+1) s5.heap/\∀b∈fp,H5 b=none:=λ{s5 H5} I5 =>
    ⟨T.keep _ _ _ Ku λb hb o e=>(I5.pin (b,o) (List.mem_append_right _ (List.mem_append_right _ (gk hb e)))).1,λb hb=>by
     obtain⟨o,e,d⟩:=T.obj _ _ Ku b hb
     exact(I5.pin (b,o) (List.mem_append_right _ (List.mem_append_right _ (gk hb e)))).2.1⟩
   cases ok with
   |false =>
    rw[if_neg Bool.false_ne_true] at q4 |-;obtain⟨m',hm,w4⟩:=q4;exact⟨m',hm,i+1,σ3,H4,xs,ys,k,I4.aaF,(back I4).1,(back I4).2,rv,w4⟩
   |true =>
    rw[if_pos rfl] at q4 |-;refine wpAny_mono (he _ _ _ _ _ s4 σ3 H4 _ I4 q4) (λv s5 z'=>?_) λ_ _ z=>z;obtain⟨y,H5,I5,r5,m',hm,w5⟩:=z';obtain⟨p1,p2,_⟩:=I5.pin (s.heap.objs.size,AY ys k) (List.mem_append_right _ (List.mem_append_left _ (by simp)));obtain⟨Nl,Sh⟩:=back I5;refine append_at (its:=ys.toArray) p1 (λh' sb hD=>?_) (by rw[List.size_toArray,<-rv.length];exact Nat.le_of_lt hz);have I6:Inv (gQ X N scope H2.objs.size fp s H) [] σ3 H5 {s5 with heap:=h'}:=dq (I5.aaA (pins':=[]) λp hp=>absurd hp (by simp)) (ZD p2) sb;refine⟨m',hm,i+1,σ3,H5,xs++[y],ys++[v],k+1,NB I6 p2 ?_,T.keep _ _ _ Nl λb hb o e=>(sb.2 b λz=>W8 (z▸hb)).trans e,Sh,rv.append (.cons r5 .nil),w5⟩;rw[hD];show some _=some (AY (ys++[v]) (k+1));rw[AY,<-List.push_toArray]
 exact codeAny_compStart_list (loop _ rfl) (T.self X.A 0 _ _ _ (T.keep _ _ _ st λb _ o e=>old b o e) (loop _ rfl))
def w9 (wi:TI)(g:TG)(tt:TT)(te:TE)(nl:Nat)(js:List Nat):TE:=λσ H Q=>wi σ H λJ H1 =>
 ∃W:Nat->Nat->List V->St->Hp->Prop,(∃m,W 0 m [] (σC nl js σ) H1)/\hV J g tt te W λxs H'=>∀D,H' D=none->Q (.ref D) (upd H' D (.lst xs))
theorem lR (S:CR X N nl js osc scope)(I:Inv X pins σ H s):closureFor scope X.env=pure (gW scope.names X.env):=mw λy hy hf=>by
 have z:=S.free y hy hf;rw[<-S.out] at z;exact I.ok.has y.1 z
theorem bF {wi:TI}(S:CR X N nl js osc scope)(hc:X.calm=true)(hi:PI X tg iter wi)(hg:∀C fp s H,PG (gQ X N scope C fp s H) tg g)(ht:∀C fp s H,ES (gQ X N scope C fp s H) ifs tt)
 (he:∀C fp s H,PE (gQ X N scope C fp s H) elt te)(hs:∀x,foldedSetIterable iter X.env x=pure x:=by intro _;rfl):
 PE X (.ListComp elt [⟨tg,iter,ifs,0⟩] scope pos) (w9 wi g tt te nl js):=by
 intro pins s σ H Q I h;rw[eval_ListComp];refine wpAny_comprehension_free (use:=none) rfl hs (lR S I) S.kind S.names (bu (hi pins s σ H _ I h) λv s1 h1=>bu h1 λQ9 s2 h2=>?_);obtain⟨it,fp,tn,J,H2,e,I2,T,Ku,f2,W,w0,hW⟩:=h2;subst e;refine lF (RR:=λacc C=>compPost (model X.prog X.w) X.A X.xe none (EP X pins σ Q) acc C) S hc hg ht he I2 T Ku f2 w0 hW ?_;intro D C H' s' xs m I3 hD hn fC fin;exact⟨m,hn,λh' sb=>⟨.ref D,_,dq I3 fC sb,rfl,fin D hD⟩⟩
theorem oR {i:Nat}{y:Str}{py NC:Pos}{wi:TI}(S:CR X N nl js osc scope)(hc:X.calm=true)(hN:X.N.Nodup)(hy:X.N[i]?=some y)(hl:Er X.env.scope y)(hi:PI X tg iter wi)
 (hg:∀C fp s H,PG (gQ X N scope C fp s H) tg g)(ht:∀C fp s H,ES (gQ X N scope C fp s H) ifs tt)(he:∀C fp s H,PE (gQ X N scope C fp s H) elt te)
 (ZI:swapsWith (.ListComp elt [⟨tg,iter,ifs,0⟩] scope pos) (some (.Name y py)) NC.line X.env=pure true)(hs:∀x,foldedSetIterable iter X.env x=pure x:=by intro _;rfl)
 (hf:X.fn y=true\/X.env.scope.names.lookup y=some .local:=by first|exact .inl rfl|exact .inr rfl|assumption):
 PS X (.Assign [.Name y py] (.ListComp elt [⟨tg,iter,ifs,0⟩] scope pos) NC) (vF (w9 wi g tt te nl js) (bA i)):=by
 intro pins s σ H D I h;rw[exec_Assign_Name_used _ _ _ _ ZI];refine wpAny_bind (wpAny_standAt (wpAny_bind ?_));show wpAny _ X.A (do let _ <-comprehension (.ListComp elt [⟨tg,iter,ifs,0⟩] scope pos) scope X.env _ (newList []) false (eval iter X.env) (some (assign (.Name y py) X.env))) _ _ s
 refine wpAny_bind (wpAny_mono (wpAny_comprehension_free (use:=some (assign (.Name y py) X.env)) (Q:=λ_ s'=>SP X pins D .next s') rfl hs (lR S I) S.kind S.names
  (bu (hi pins s σ H _ I h) λv s1 h1=>bu h1 λQ9 s2 h2=>?_)) (λ_ s' hq=>wpAny_pure (wpAny_pure hq)) λ_ _ e=>e)
 obtain⟨it,fp,tn,J,H2,e,I2,T,Ku,f2,W,w0,hW⟩:=h2;subst e;refine lF (RR:=λacc C=>compPost (model X.prog X.w) X.A X.xe (some (assign (.Name y py) X.env)) (λ_ s'=>SP X pins D .next s') acc C) S hc hg ht he I2 T Ku f2 w0 hW ?_;intro Dd C H' s' xs m I3 hD hn fC fin;show wpAny _ X.A (assign (.Name y py) X.env (.ref Dd)) _ _ _;refine wpAny_assign_Name (nJ I3 hN hy hl (show aD (.ref Dd) (.ref Dd) from rfl) (λs4 I4 z'=>?_) hf);obtain⟨a,sb,ha⟩:=z';refine⟨m,hn.sameBut sb ?_,λh' ZJ=>⟨_,_,dq I4 fC ZJ,fin Dd hD⟩⟩
 rcases ha with z|z
 ·rw[z];exact fC.2.1
 ·exact λq=>fC.2.2.2.2.1 _ _ z q.symm
end
open PySem.W
def Hb (h B:Heap)(e:Addr)(cls a0 fl:Value)(d:Cw):Prop :=
 ∃(o:Obj)(vs:vd)(T:Addr)(oT:Obj)(ts:vd),h.get? e=some o/\o.dict=d/\(o.cls=cls/\vs[0]?=some a0)/\o.data=.fields vs/\vs[1]?=some (.ref T)/\B.get? T=none/\T≠e/\h.get? T=some oT/\oT.data=.fields ts/\ts[3]?=some fl
structure He (B:Heap)(l:List Env)(e:Addr)(cls a0 fl:Value)(d:Cw)(h:Heap):Prop where
 st:B.StaysIn h
 new:B.get? e=none
 fr:h.FunFrames B l
 tr:Hb h B e cls a0 fl d
variable {o:Obj}{vs:vd}
section
variable {M:Model}{A:Around}{E:yf}{s:CW}{B:Heap}{env:Env}{outer:List Env}{L e:Addr}{cls a0:Value}{d:Cw}{Q:Unit->Shared->Prop}
theorem t9 {hd:Value}{nx:Bool}(JR:A.frames=some (env::outer))(fr:s.heap.FunFrames B (env::outer))(hf:env.frame=some L)(st:B.StaysIn s.heap)(new:B.get? e=none)
 (he:s.heap.get? e=some o)(IP:o.dict=d)(hc:o.cls=cls)(hv:o.data=.fields vs)(h1:1<vs.size)(h0:vs[0]?=some a0)
 (h:∀h',He B (env::outer) e cls a0 (rawInt L) d h'->s.heap.UpToSlots h'->Q () {s with heap:=h'}):
 wpAny M A (do let a <-frameOf env;let pl <-entryPlaceOf L nx;let b <-EntryCells.newEntry hd a .none (rawInt L) .none pl;setField (.ref e) 1 b) Q E s:=by
 have nf:e∉(env::outer).filterMap (·.frame):=λm=>by
  obtain⟨_,o',HV,q⟩:=fr.mem m;rw[he] at HV;cases HV;exact q vs hv
 refine wpAny_bind (wpAny_frameOf_fun JR fr hf λg sl=>wpAny_bind (wpAny_entryPlaceOf λpl IG=>?_));unfold EntryCells.newEntry newFields;refine wpAny_bind (wpAny_newObj_type ?_ (IG.sizeOk5 _ _ _ _ _));have e1:g.get? e=some o:=(sl.2.1 e nf).trans he;have Xb:B.StaysIn g:=λb ob q=>(sl.2.1 b λm=>by rw[(fr.mem m).1] at q;cases q).trans (st b ob q);have ne:g.objs.size≠e:=Nat.ne_of_gt (Heap.lt_size e1);have dv:=Obj.data_mapFields hv (·.setIfInBounds 1 (Value.ref g.objs.size))
 have kp:∀(oT:Obj) b ob,b≠e->g.get? b=some ob->((g.push oT).update e (Obj.mapFields (·.setIfInBounds 1 (Value.ref g.objs.size)))).get? b=some ob:=λoT b ob hb q =>
  (Heap.get?_update_other _ _ (Ne.symm hb)).trans (Heap.get?_push_of_some _ q)
 have nr:∀b ob,s.heap.get? b=some ob->(∀ws,ob.data≠.fields ws)->b≠e:=λb ob q hn z=>by rw[z,he] at q;cases q;exact hn vs hv
 refine wpAny_setField (Heap.get?_push_of_some _ e1) hv h1 (h _ ⟨λb ob q=>kp _ b ob (λz=>by rw[z,new] at q;cases q) (Xb b ob q),new,fr.of_keeps λb ob q hn=>?_,?_⟩ λb ob q hn=>?_)
 ·obtain⟨z,q1⟩:=sl.2.2 b ob q;exact⟨_,kp _ b _ (nr b ob q hn) q1,rfl⟩
 ·refine⟨_,_,g.objs.size,_,_,Heap.get?_update_self _ (Heap.get?_push_of_some _ e1) (Obj.isFreed_of_fields dv),?_,⟨(Obj.cls_mapFields _ _).trans hc,by rw[Array.getElem?_setIfInBounds_ne (by decide)];exact h0⟩,dv,by simp[h1],Xb.fresh,ne,
   (Heap.get?_update_other _ _ (Ne.symm ne)).trans (Heap.get?_push_size g rfl),rfl,by first|(simp;done)|(rcases IG with rfl|⟨_,_,_,_,_,_,_,rfl⟩ <;> simp)⟩
  rw[<-IP]
  cases o
  dsimp only at hv;subst hv;rfl
 ·obtain⟨z,q1⟩:=sl.2.2 b ob q;exact⟨z,kp _ b _ (nr b ob q hn) q1⟩
theorem C3 (JR:A.frames=some (env::outer))(hf:env.frame=some L)(x:He B (env::outer) e cls a0 .none d s.heap)
 (h:∀h',He B (env::outer) e cls a0 (rawInt L) d h'->s.heap.UpToSlots h'->Q () {s with heap:=h'}):wpAny M A (noteFrame (.ref e) env) Q E s:=by
 obtain⟨o,vs,T,oT,ts,he,IP,⟨hc,h0⟩,hv,h1,nT,Te,hT,KU,h3⟩:=x.tr;unfold noteFrame;simp only[hf];refine wpAny_bind (wpAny_field he hv h1 ?_);rw[if_pos (by simp)];refine wpAny_bind (wpAny_field hT KU h3 ?_);rw[if_neg (by simp[rawInt])];refine wpAny_bind (wpAny_setField hT KU (Array.getElem?_eq_some_iff.mp h3).1 ?_);have ot:∀b,b≠T->(s.heap.update T (Obj.mapFields (·.setIfInBounds 3 Value.none))).get? b=s.heap.get? b:=λb hb=>Heap.get?_update_other _ _ (Ne.symm hb)
 have nr:∀b ob,s.heap.get? b=some ob->(∀ws,ob.data≠.fields ws)->b≠T:=λb ob q hn z=>by rw[z,hT] at q;cases q;exact hn ts KU
 refine t9 (s:={s with heap:=s.heap.update T (Obj.mapFields (·.setIfInBounds 3 Value.none))}) JR (x.fr.of_keeps λb ob q hn=>⟨ob,(ot b (nr b ob q hn)).trans q,rfl⟩) hf (λb ob q=>(ot b λz=>by rw[z,nT] at q;cases q).trans (x.st b ob q)) x.new
  ((ot e (Ne.symm Te)).trans he) IP hc hv (Array.getElem?_eq_some_iff.mp h1).1 h0 λh' y up=>h h' y λb ob q hn=>up b ob ((ot b (nr b ob q hn)).trans q) hn
theorem wM (JR:A.frames=some (env::outer))(fr:s.heap.FunFrames B (env::outer))(hf:env.frame=some L)(st:B.StaysIn s.heap)(new:B.get? e=none)
 (he:s.heap.get? e=some o)(IP:o.dict=d)(hc:o.cls=cls)(hv:o.data=.fields vs)(h1:vs[1]?=some .none)(h0:vs[0]?=some a0)
 (h:∀h',He B (env::outer) e cls a0 (rawInt L) d h'->s.heap.UpToSlots h'->Q () {s with heap:=h'}):wpAny M A (noteFrame (.ref e) env) Q E s:=by
 unfold noteFrame;simp only[hf];refine wpAny_bind (wpAny_field he hv h1 ?_);rw[if_neg (by decide)];exact t9 JR fr hf st new he IP hc hv (Array.getElem?_eq_some_iff.mp h1).1 h0 h
theorem qi {l:List Env}{fl:Value}(x:He B l e cls a0 fl d s.heap)(h:∀h',He B l e cls a0 .none d h'->s.heap.UpToSlots h'->Q () {s with heap:=h'}):wpAny M A (setFlight (.ref e) none) Q E s:=by
 obtain⟨o,vs,T,oT,ts,he,IP,hc,hv,h1,nT,Te,hT,KU,h3⟩:=x.tr;have z3:3<ts.size:=(Array.getElem?_eq_some_iff.mp h3).1;have ot:∀b,b≠T->(s.heap.update T (Obj.mapFields (·.setIfInBounds 3 Value.none))).get? b=s.heap.get? b:=λb hb=>Heap.get?_update_other _ _ (Ne.symm hb)
 have nr:∀b ob,s.heap.get? b=some ob->(∀ws,ob.data≠.fields ws)->b≠T:=λb ob q hn z=>by rw[z,hT] at q;cases q;exact hn ts KU
 unfold setFlight;refine wpAny_bind (wpAny_field he hv h1 ?_);rw[if_pos (by simp)];refine wpAny_setField hT KU z3 (h _ ⟨λb ob q=>(ot b λz=>by rw[z,nT] at q;cases q).trans (x.st b ob q),x.new,x.fr.of_keeps λb ob q hn=>⟨ob,(ot b (nr b ob q hn)).trans q,rfl⟩,?_⟩ λb ob q hn=>⟨ob.slots,(ot b (nr b ob q hn)).trans q⟩);exact⟨o,vs,T,_,_,(ot e (Ne.symm Te)).trans he,IP,hc,hv,h1,nT,Te,Heap.get?_update_self _ hT (Obj.isFreed_of_fields (Obj.data_mapFields KU _)),Obj.data_mapFields KU _,by simp[z3]⟩
theorem He.out {fl:Value}(x:He B (env::outer) e cls a0 fl d h):He B outer e cls a0 fl d h:=⟨x.st,x.new,x.fr.2.2,x.tr⟩
theorem AQ (JR:A.frames=some (env::outer))(hf:env.frame=some L)(x:He B (env::outer) e cls a0 .none d s.heap)
 (h:∀h',He B outer e cls a0 .none d h'->s.heap.UpToSlots h'->Q () {s with heap:=h'}):wpAny M A (leaving env (.ref e)) Q E s:=by
 unfold leaving;exact wpAny_bind (C3 JR hf x λg y up=>qi (s:={s with heap:=g}) y λg2 y2 SA=>h g2 y2.out (up.trans SA))
theorem oo (JR:A.frames=some (env::outer))(fr:s.heap.FunFrames B (env::outer))(hf:env.frame=some L)(st:B.StaysIn s.heap)(new:B.get? e=none)
 (he:s.heap.get? e=some o)(IP:o.dict=d)(hc:o.cls=cls)(hv:o.data=.fields vs)(h1:vs[1]?=some .none)(h0:vs[0]?=some a0)
 (h:∀h',He B outer e cls a0 .none d h'->s.heap.UpToSlots h'->Q () {s with heap:=h'}):wpAny M A (leaving env (.ref e)) Q E s:=by
 unfold leaving;exact wpAny_bind (wM JR fr hf st new he IP hc hv h1 h0 λg y up=>qi (s:={s with heap:=g}) y λg2 y2 SA=>h g2 y2.out (up.trans SA))
end
theorem bc.there {o:HO}(x:bc P w H h a o):∃ob,h.get? a=some ob:=by
 cases o with
 |lst xs=>obtain⟨_,_,_,_,e⟩:=x;exact⟨_,e⟩
 |tup xs=>obtain⟨_,_,_,ob,e,_⟩:=x;exact⟨_,e⟩
 |dK Hh=>obtain⟨_,_,_,_,o,_,_,e,_⟩:=x;exact⟨_,e⟩
 |dT Hh=>obtain⟨_,_,_,_,o,_,_,e,_⟩:=x;exact⟨_,e⟩
 |set S n=>obtain⟨o,_,_,_,e,_⟩:=x;exact⟨_,e⟩
 |ins C dx fs=>obtain⟨_,_,_,e,_⟩:=x;exact⟨_,e⟩
 |own y=>obtain⟨_,e⟩:=x;exact⟨_,e⟩
 |xd fs=>obtain⟨_,⟨_,_,_,e,_⟩,_⟩:=x;exact⟨_,e⟩
 |rng lo hi=>obtain⟨_,_,_,e⟩:=x;exact⟨_,e⟩
 |frz ob u=>obtain⟨e,_⟩:=x;exact⟨_,e⟩
 |tbl ps=>exact⟨_,(show h.get? a=some _ from x)⟩
 |met f y=>exact⟨_,(show h.get? a=some _ from x)⟩
 |ext φ=>obtain⟨_,⟨_,e⟩,_⟩:=x;exact⟨_,e⟩
structure EF (P:zr)(w:World)(l:List Env)(H₀:Hp)(h₀:Heap)(a:Addr)(cls:Value)(H:Hp)(h:Heap)(B:Heap)(a0:Value)(d:Cw):Prop where
 fly:He B l a cls a0 .none d h
 un:Un (eZ l) [] H₀ H h₀ h
 keep:∀b o,h₀.get? b=some o->H₀ b=none->b∉eZ l->B.get? b=some o
 there:∀b o,h₀.get? b=some o->b∉eZ l->∃o',B.get? b=some o'
 hok:gu P w H B
 new:H a=none
def aV (P:zr)(w:World):CH:=λouter H₀ s₀ E e s'=>∃(a:Addr)(cls a0:Value)(B:Heap)(d:Cw)(H:Hp),e=.ref a/\s'.os=s₀.os/\AllBare s'.gens/\EF P w outer H₀ s₀.heap a cls H s'.heap B a0 d/\E cls d H
variable {cls:Value}
section
variable {X:Cx}{pins:List (Addr×Obj)}{σ:St}{H H':Hp}{s s':CW}{P:zr}{w:World}
theorem cK {base:Heap}{l:List Env}(F:h.FunFrames base l){b:Addr}(hb:b∈eZ l)(e:h.get? b=some o):∀vs,o.data≠.fields vs:=by
 obtain⟨_,o',e',d⟩:=F.mem hb;rw[e] at e'
 cases e'
 exact d
theorem rn {outer:List Env}{h' Ko B:Heap}{e t:Addr}{args:oN}{d:Cw}(I:Inv X pins σ H s)(hex:X.ex=[])(Kt:X.stack=X.env::X.outer)(hm:Heap.MadeExcOf s.heap h' e cls args)
 (hB:B=PySem.W.hideAll s.heap (eZ X.stack))(hf:He B X.outer e cls (.ref t) .none d Ko)(Ri:h'.UpToSlots Ko):EF X.prog X.w X.outer X.H₀ X.s₀.heap e cls H Ko B (.ref t) d:=by
 subst hB;have st:=hf.st;have JL:∀b o,s.heap.get? b=some o->b∉eZ X.stack->(PySem.W.hideAll s.heap (eZ X.stack)).get? b=some o:=λb o e n=>PySem.W.hideAll_get _ e n
 have old:∀b o,X.s₀.heap.get? b=some o->b∉eZ X.outer->b∉eZ X.stack:=λb o e n z=>by
  rcases List.mem_cons.mp (I.aay b z) with q|q
  ·exact absurd (Nat.lt_of_lt_of_le (Heap.lt_size e) I.ok.above) (by rw[q];exact Nat.lt_irrefl _)
  ·exact n q
 have base:Un (eZ X.outer) [] X.H₀ H X.s₀.heap s.heap:=by
  have z:=I.base;rw[hex] at z;exact z
 refine⟨hf,⟨λb o e n hb _=>st b o (JL b o (base.keep b o e n hb (by simp)) (old b o e hb)),λb o e n hb _=>?_,base.free,λb o e _=>?_,base.aaq,base.aap,base.aax⟩,λb o e n hb=>JL b o (base.keep b o e n hb (by simp)) (old b o e hb),λb o e hb=>?_,λb u e=>?_,?_⟩
 ·obtain⟨sl,e1⟩:=base.slot b o e n hb (by simp);obtain⟨JC,e2⟩:=Ri b _ (hm.keeps b _ e1) (cK I.aav hb e1);exact⟨JC,e2⟩
 ·obtain⟨o',e1⟩:=base.there b o e (by simp)
  by_cases hb:b∈eZ X.outer
  ·obtain⟨JC,e2⟩:=Ri b _ (hm.keeps b _ e1) (cK I.aav hb e1);exact⟨_,e2⟩
  ·exact⟨o',st b o' (JL b o' e1 (old b o e hb))⟩
 ·obtain⟨o',e1⟩:=base.there b o e (by simp);exact⟨o',JL b o' e1 (old b o e hb)⟩
 ·exact(I.hok b u e).aa0 (λc v hc q=>JL c v q λz=>by
   have n:=I.aaE c z
   rcases hc with hc|hc
   ·rw[hc,e] at n;cases n
   ·rw[n] at hc;cases hc) (λ_ q=>q) λ_ _ q=>q
 ·cases q:H e with
  |none=>rfl
  |some u =>
   obtain⟨ob,e1⟩:=(I.hok e u q).there;rw[hm.new] at e1
   cases e1
theorem wF {Ko B:Heap}{a0:Value}{d:Cw}(I:Inv X pins σ H s)(hex:X.ex=[])(F:EF X.prog X.w X.stack H s.heap a cls H' s'.heap B a0 d)
 (hf:He B X.outer a cls a0 .none d Ko)(Ri:s'.heap.UpToSlots Ko):EF X.prog X.w X.outer X.H₀ X.s₀.heap a cls H' Ko B a0 d:=by
 have st:=hf.st
 have sub:∀b,b∈eZ X.outer->b∈eZ X.stack:=λb hb=>by
  rcases I.ok.stk with z|⟨z,JR⟩
  ·rw[z];exact hb
  ·rw[z];unfold eZ;rw[List.filterMap_cons,JR];exact List.mem_cons_of_mem _ hb
 have old:∀b o,X.s₀.heap.get? b=some o->b∉eZ X.outer->b∉eZ X.stack:=λb o e n z=>by
  rcases List.mem_cons.mp (I.aay b z) with q|q
  ·exact absurd (Nat.lt_of_lt_of_le (Heap.lt_size e) I.ok.above) (by rw[q];exact Nat.lt_irrefl _)
  ·exact n q
 have base:Un (eZ X.outer) [] X.H₀ H X.s₀.heap s.heap:=by
  have z:=I.base;rw[hex] at z;exact z
 have kB:∀b o,X.s₀.heap.get? b=some o->X.H₀ b=none->b∉eZ X.outer->B.get? b=some o:=λb o e n hb =>
  F.keep b o (base.keep b o e n hb (by simp)) (base.free b o e n (by simp)) (old b o e hb)
 have tB:∀b o,X.s₀.heap.get? b=some o->b∉eZ X.outer->∃o',B.get? b=some o':=λb o e hb=>by
  obtain⟨o',e1⟩:=base.there b o e (by simp);exact F.there b o' e1 (old b o e hb)
 have Ib:∀b o,s.heap.get? b=some o->H b=none->b∈eZ X.outer->∃sl,Ko.get? b=some {o with slots:=sl}:=λb o e n hb=>by
  obtain⟨sl,e1⟩:=F.un.slot b o e n (sub b hb) (by simp);obtain⟨JC,e2⟩:=Ri b _ e1 (λvs q=>cK I.aav hb e vs q);exact⟨JC,e2⟩
 refine⟨hf,⟨λb o e n hb _=>st b o (kB b o e n hb),λb o e n hb _=>?_,λb o e n _=>?_,λb o e _=>?_,λb xs e=>F.un.aaq b xs (base.aaq b xs e),λb o xs e=>F.un.aap b o xs (base.aap b o xs e),λb ps e=>?_⟩,kB,tB,F.hok,F.new⟩
 ·obtain⟨sl,e1⟩:=base.slot b o e n hb (by simp);obtain⟨JC,e2⟩:=Ib b _ e1 (base.free b o e n (by simp)) hb;exact⟨JC,e2⟩
 ·obtain⟨o',e1⟩:=base.there b o e (by simp);exact F.un.free b o' e1 (base.free b o e n (by simp)) (by simp)
 ·by_cases hb:b∈eZ X.outer
  ·obtain⟨o',e1⟩:=base.there b o e (by simp);have n:H b=none:=I.aaE b (sub b hb);obtain⟨sl,e2⟩:=Ib b o' e1 n hb;exact⟨_,e2⟩
  ·obtain⟨o',e1⟩:=tB b o e hb;exact⟨o',st b o' e1⟩
 ·obtain⟨m1,e1⟩:=base.aax b ps e;obtain⟨m2,e2⟩:=F.un.aax b _ e1;exact⟨m1++m2,by rw[e2,Array.append_assoc]⟩
end
theorem Dw {K:PySem.W.Frag}{cd:ClassData}(h:PySem.W.clsIn K C=some cd):∃c d s,K.lookup C=some ⟨c,d,.cls cd,s⟩:=by
 unfold PySem.W.clsIn at h
 cases ho:K.lookup C with
 |none=>rw[ho] at h;cases h
 |some o =>
  rw[ho] at h;obtain⟨c,d,x,s⟩:=o
  cases x <;> cases h
  exact⟨_,_,_,rfl⟩
theorem FA {α:Type}{l:List α}(h:l.length=6):∃a b c d e f,l=[a,b,c,d,e,f]:=by
 obtain⟨a,l,rfl⟩:=List.exists_cons_of_length_eq_add_one h;obtain⟨b,l,rfl⟩:=List.exists_cons_of_length_eq_add_one (Nat.succ.inj h);obtain⟨c,l,rfl⟩:=List.exists_cons_of_length_eq_add_one (Nat.succ.inj (Nat.succ.inj h));obtain⟨d,l,rfl⟩:=List.exists_cons_of_length_eq_add_one (Nat.succ.inj (Nat.succ.inj (Nat.succ.inj h)));obtain⟨e,l,rfl⟩:=List.exists_cons_of_length_eq_add_one (Nat.succ.inj (Nat.succ.inj (Nat.succ.inj (Nat.succ.inj h))));obtain⟨f,rfl⟩:=List.length_eq_one_iff.mp (Nat.succ.inj (Nat.succ.inj (Nat.succ.inj (Nat.succ.inj (Nat.succ.inj h)))));exact⟨a,b,c,d,e,f,rfl⟩
theorem AW {K:PySem.W.Frag}{HI:oN}{newId:String}(X:K.In h)(q:vC K C HI newId=true):
 ∃bm N nm qn bs hd sn sub ab col dd k0 k1 k2 k3 k5 mN,h.get? C=some (excClassObj nm qn C N bs bm hd sn sub ab col dd k0 k1 k2 k3 k5 newId)/\h.Ns N mN/\mN "__init__"=none/\OwnTail h HI bm:=by
 have q1:=Bool.and_eq_true_iff.mp q;obtain⟨cd,hc,q2⟩:=(Option.any_eq_true _ _).mp q1.2;obtain⟨c,dd,sl,ho⟩:=Dw hc;have q3:=Bool.and_eq_true_iff.mp q2;have q4:=Bool.and_eq_true_iff.mp q3.2;have q5:=Bool.and_eq_true_iff.mp q4.2;have q6:=Bool.and_eq_true_iff.mp q5.2
 have e1:(c == .type "type"&&(sl.size==6&&sl.toList[4]?==some (some (.builtin newId))))=true:=by
  have z:=q1.1;rw[ho] at z;exact z
 have e2:=Bool.and_eq_true_iff.mp e1;have e3:=Bool.and_eq_true_iff.mp e2.2;obtain⟨k0,k1,k2,k3,k4,k5,e⟩:=FA (l:=sl.toList) (eq_of_beq e3.1)
 have e4:k4=some (.builtin newId):=by
  have z:=eq_of_beq e3.2;rw[e] at z;exact Option.some.inj z
 have e5:sl = #[k0,k1,k2,k3,some (.builtin newId),k5]:=Array.toList_inj.mp (by rw[e,e4])
 have e6:cd.mro=.ref C::cd.mro.tail:=by
  obtain⟨r,z⟩:=List.head?_eq_some_iff.mp (eq_of_beq q3.1);rw[z];rfl
 have e7:cd.hasDel=false:=by simpa using q4.1
 refine⟨cd.mro.tail,cd.ns,cd.name,cd.qualname,cd.bases,cd.hasDict,cd.slotNames,cd.subclasses,cd.abstract,cd.collection,dd,k0,k1,k2,k3,k5,_,(X _ _ ho).trans ?_,.of_isNs (PySem.W.isNs_of_in X q6.1),PySem.W.nsMap_none_of_in X q6.1 (eq_of_beq q6.2),PySem.W.tail_of_in X q5.1⟩;rw[e5,eq_of_beq e2.1];show some (Obj.mk _ _ (.cls cd) _)=some (Obj.mk _ _ (.cls ⟨_,_,_,_,_,_,_,_,_,_,false⟩) _);rw[<-e6,<-e7]
def yj (X:Cx)(E:St->XK):Prop:=∀(pins:List (Addr×Obj))(σ:St)(H:Hp)(s:CW)(h':Heap)(e:Addr)(cls:Value)(args:oN),Inv X pins σ H s->Heap.MadeExcOf s.heap h' e cls args->E σ cls none H->X.xe (.ref e) {s with heap:=h'}
def Ce (C:Addr)(E:St->XK)(t:TA):TS:=λ_ σ H=>t σ H λvs H1=>vs.length<=sizeLine/\E σ (.ref C) none H1
section
variable {X:Cx}{E:St->XK}{x:Str}{C:Addr}{B newId IH:String}{HI:oN}{np Hz pos:Pos}{e:Expr}{es:qk}{t:TA}
theorem qy (FB:ExcBaseFacts B newId IH HI)(q:vC X.K C HI newId=true)(hc:X.calm=true)(hR:yj X E)(hg:Gl X x)(hm:X.mg x=some (.ref C))(ha:PA X (e::es) t)
 (he:starEach (e::es) X.env=(false,eval e X.env):: starEach es X.env:=by rfl)(IG:(backTo Hz (starEach es X.env)).any (·.1)=false:=by rfl)(hd:(x==("__debug__":Str))=false:=by decide):
 PS X (.Raise (some (.Call (.Name x np) (e::es) [] Hz)) none pos) (Ce C E t):=by
 intro pins s σ H D I h;obtain⟨bm,N,nm,qn,bs,hdct,sn,sub,ab,col,dd,k0,k1,k2,k3,k5,mN,hC,hN,ZK,T⟩:=AW I.ok.mod.kin q
 refine wpAny_Raise_call_subT (C:=C) (nm:=nm) (q:=qn) (N:=N) (bs:=bs) (bm:=bm) (hdct:=hdct) (sn:=sn) (sub:=sub) (ab:=ab) (col:=col) (dd:=dd) (k0:=k0) (k1:=k1) (k2:=k2) (k3:=k3) (k5:=k5)
  FB (mN:=mN) (T.hasType FB.hasBase) (I.ok.hd hc) (by rw[he];show(false || (backTo Hz (starEach es X.env)).any (·.1))=false;rw[IG];rfl) ZK (ia I hg hm ⟨rfl,?_⟩ hd)
 have z:=ha Hz pins s σ H _ I h;rw[he] at z |-;refine Calls.evalArgs_plain (wpAny_mono z (λus s₂ z'=>?_) λ_ _ y=>y);obtain⟨vs,H2,I2,rv,hl,hE⟩:=z';exact⟨rfl,by rw[<-rv.length];exact hl,I2.bk _ _ hC,hN.keeps I2.bk,T.keeps I2.bk,λh' e' ZL=>hR pins σ H2 s₂ h' e' _ _ I2 ZL hE⟩
end
section
variable {P:zr}{w:World}{K:PySem.W.Frag}{mg:vK}{base:Heap}{N:Bg}{qual:Str}{scope:Scope}{f:Addr}{cd:Value}{A:Around}{outer:List Env}{s:CW}{H:Hp}{E:XK}
theorem ml:yj (fZ (aV P w) P w K mg base N qual scope f cd A outer s H E) λ_=>E:=by
 intro pins σ H1 s1 h' e cls args I hm hE;have Kt:(fZ (aV P w) P w K mg base N qual scope f cd A outer s H E).stack=(fZ (aV P w) P w K mg base N qual scope f cd A outer s H E).env::outer:=rfl;have hl:=I.stack;obtain⟨t,he,htn,ht⟩:=hm.there;have hB:∀b o,(PySem.W.hideAll s1.heap (eZ (fZ (aV P w) P w K mg base N qual scope f cd A outer s H E).stack)).get? b=some o->s1.heap.get? b=some o:=λb o q=>PySem.W.of_hideAll _ q
 have nB:(PySem.W.hideAll s1.heap (eZ (fZ (aV P w) P w K mg base N qual scope f cd A outer s H E).stack)).get? e=none:=by
  cases q:(PySem.W.hideAll s1.heap (eZ (fZ (aV P w) P w K mg base N qual scope f cd A outer s H E).stack)).get? e with
  |none=>rfl
  |some o=>have z:=hB _ _ q;rw[hm.new] at z;cases z
 have SD:=PySem.W.funFrames_hide hl λenv he a ha=>List.mem_filterMap.mpr ⟨env,he,ha⟩
 refine oo (B:=PySem.W.hideAll s1.heap (eZ (fZ (aV P w) P w K mg base N qual scope f cd A outer s H E).stack)) (s:={s1 with heap:=h'}) (d:=none) (cls:=cls) (a0:=.ref t) I.ok.frames (SD.of_keeps λb o q _=>⟨o,hm.keeps b o q,rfl⟩) rfl
  (λb o q=>hm.keeps b o (hB b o q)) nB he rfl rfl rfl rfl rfl λKo x1 x4=>?_
 exact⟨e,cls,.ref t,_,none,H1,rfl,I.os,I.bare,rn (outer:=outer) I rfl rfl hm rfl x1 x4,hE⟩
theorem iP:fJ (aV P w) (fZ (aV P w) P w K mg base N qual scope f cd A outer s H E) E:=by
 intro pins σ H1 s1 e s' I hx;obtain⟨a,cls,a0,B,d,H',rfl,ho,hg,F,hE⟩:=hx;refine AQ (L:=s.heap.objs.size) I.ok.frames rfl F.fly λKo x1 x2=>?_;exact⟨a,cls,a0,B,d,H',rfl,ho.trans I.os,hg,wF I rfl F x1 x2,hE⟩
end
theorem af {X:Cx}:fJ (aV P w) X λ_ _ _=>False:=by
 intro pins σ H1 s1 e s' I hx;obtain⟨a,cls,a0,B,d,H',_,_,_,_,hE⟩:=hx;exact hE.elim
def Eh (a:Addr)(cls:Value):HO:=.ext λh=>∃o vs,h.get? a=some o/\o.cls=cls/\o.data=.fields vs
theorem tG (k:gu P w H h)(e:H a=some (Eh a cls)):∃o vs,h.get? a=some o/\o.cls=cls/\o.data=.fields vs:=(k a _ e).1
def eJ (vs:vd):Prop:=∃t:Addr,vs = #[.ref t,.none,.none,.none,.bool false,.none]
def gw (a:Addr)(cls:Value)(dx:Addr)(fr:Bool):HO:=.ext λh=>∃o vs,h.get? a=some o/\o.cls=cls/\o.data=.fields vs/\o.dict=some dx/\(fr=true->eJ vs)
structure Fx (K:Frag)(C:Addr):Prop where
 cls:(clsIn K C).isSome=true
 ga:findIn K (.ref C) "__getattribute__"=some (some (.builtin "BaseException.__getattribute__"))
 gx:findIn K (.ref C) "__getattr__"=some none
 ca:findIn K (.ref C) "__class__"=some (some (.builtin "object.__class__"))
 ob:mroIn K C (.type "object")=some true
 be:mroIn K C (.type "BaseException")=some true
section
variable {prog:zr}{w:World}{A:Around}{E:yf}{K:Frag}{x C:Addr}{ox:Obj}
theorem vZ {M:Model}{KW:Value}{Q:Unit->Shared->Prop}(X:K.In s.heap)(k:Fx K C)(e:s.heap.get? x=some ox)(hc:ox.cls=.ref C)(hq:Q () s):
 wpAny M A (checkBuiltinCall "BaseException.__getattribute__" ⟨[.ref x,KW],[]⟩) Q E s:=by
 obtain⟨hh,g,d,t,os⟩:=s;have L0:Looks M hh (typeOf (.ref x)) (.ref C):=hc▸(Looks.ld e).andThen .now;have L5:=looks_mroIn (M:=M) X k.be
 have hk:builtinKind "BaseException.__getattribute__"=some .slot:=by decide +kernel
 have LO:splitId "BaseException.__getattribute__"=some ("BaseException","__getattribute__"):=by decide +kernel
 have ha:=F.args_bexc_ga (.ref x) KW;simp only[checkBuiltinCall,hk,LO];unfold isInstance
 repeat (any_goals (first|assumption|lk|wp_step))
open Builtin Builtin.ObjectAttr Builtin.Getset_descriptor in
theorem my {R:Result->Shared->Prop}{tp:Value}(X:K.In s.heap)(k:Fx K C)(e:s.heap.get? x=some ox)(hc:ox.cls=.ref C)(h:R (.ok (.ret (.ref C))) s):
 codeAny (model prog w) A (.call (.builtin "getset_descriptor.__get__") ⟨[.builtin "object.__class__",.ref x,tp],[]⟩) R s:=by
 obtain⟨hh,g,dr,t,os⟩:=s;have L0:Looks (model prog w) hh (typeOf (.ref x)) (.ref C):=hc▸(Looks.ld e).andThen .now;have L1:=looks_mroIn (M:=model prog w) X k.ob;refine codeAny_call_builtin KF.slot_gs.plain KF.entry_gs (KF.slot_gs.check _ _ _ _ _ _ _ _ KF.type_class (KF.args_gs _ _ _) ?_);unfold Builtin.«getset_descriptor.__get__» descrGet;rw[dga_obj];refine wpAny_bind (wpAny_pure ?_);unfold descrGetter descrCheckInstance descrNameAndClass isInstance;simp only[KF.owner_class]
 repeat lk
 refine⟨Code.quiet_builtin _ (by decide +kernel),codeAny_builtin KF.entry_class ?_⟩;unfold Builtin.«object.__class__» shownTypeOf
 repeat lk
 exact h
theorem j2 {tk:Tok}{Q:PySem.Fin->Shared->Prop}(X:K.In s.heap)(k:Fx K C)(e:s.heap.get? x=some ox)(hc:ox.cls=.ref C)(hq:Q (.done (.ret (.ref C))) s):
 wpAny (model prog w) A (Builtin.«object.__getattribute__» ⟨[.ref x,.str "__class__" tk],[]⟩) Q E s:=by
 obtain⟨hh,g,d,t,os⟩:=s;have L0:Looks (model prog w) hh (typeOf (.ref x)) (.ref C):=hc▸(Looks.ld e).andThen .now;have L3:=looks_findIn (M:=model prog w) X k.ca;have f5:=F.typeOf_object_class;have f6:=F.slot_gs_get.lookup;have f7:=F.slot_gs_set.lookup
 repeat (any_goals (first|assumption|(with_reducible refine Looks.at (by assumption) ?_)|(with_reducible refine Looks.at L0 ?_)|wp_step))
 refine my X k e hc ?_
 repeat (any_goals (first|assumption|wp_step))
theorem oH {tk:Tok}{fill expr:Bool}{Q:yf}{s:CW}(X:K.In s.heap)(k:Fx K C)(e:s.heap.get? x=some ox)(hc:ox.cls=.ref C)(hq:Q (.ref C) s):
 wpAny (model prog w) A (getAttrBy (.ref x) (.str "__class__" tk) fill expr) Q E s:=by
 obtain⟨hh,g,d,t,os⟩:=s;have L0:Looks (model prog w) hh (typeOf (.ref x)) (.ref C):=hc▸(Looks.ld e).andThen .now;have L1:=looks_findIn (M:=model prog w) X k.ga;have L2:=looks_findIn (M:=model prog w) X k.gx;have f3:=F.attr_ValueError.ga.bind (.ref x)
 have hx0:(expr&&onTheHeap (Value.builtin "BaseException.__getattribute__"))=false:=by cases expr <;> rfl
 have Io:(Value.builtin "BaseException.__getattribute__"==Value.builtin "object.__getattribute__")=false:=by decide +kernel
 have hx1:(onTheHeap (Value.ref C)&&Value.builtin "BaseException.__getattribute__"==Value.builtin "object.__getattribute__")=false:=by rw[Io];rfl
 repeat (any_goals (first|assumption|(with_reducible refine Looks.at (by assumption) ?_)|(with_reducible refine Looks.at L0 ?_)|wp_step))
 refine codeAny_call_builtin F.attr_ValueError.ga.plain F.entry_bexc_ga (vZ X k e hc (j2 X k e hc ?_))
 repeat (any_goals (first|assumption|wp_step))
theorem wd {Q:Option Value->Shared->Prop}(X:K.In s.heap)(k:Fx K C)(e:s.heap.get? x=some ox)(hc:ox.cls=.ref C)(hq:Q (some (.ref C)) {s with toks:=s.toks+1}):
 wpAny (model prog w) A (getAttr? (.ref x) "__class__") Q E s:=by
 unfold getAttr? getAttrBy?;refine wpAny_bind (wpAny_mkText (wpAny_bind (wpAny_attempt (oH (s:={s with toks:=s.toks+1}) X k e hc ?_))));exact wpAny_pure hq
theorem yL (k:Fx K C):KitX K (.ref x) (.ref C) (λh=>∃o,h.get? x=some o/\o.cls=.ref C) where
 ty:=λ_ _ _ ⟨o,e,hc⟩=>hc▸(Looks.ld e).andThen .now
 it:=λ_ _ X _=>by
  have JD:=k.cls;unfold clsIn at JD
  split at JD
  ·rename_i c' d' ZM JC ho
   intro A' Q' E' s' kk q;unfold isType loadHead;exact wpAny_bind (wpAny_loadPart (kk _ _ (X _ _ ho)) (wpAny_pure q))
  ·cases JD
 ne:=λh tp dd its n sl X ZN=>by
  have JD:=k.cls;refine Bool.eq_false_iff.mpr λq=>?_;have e:C=tp:=Value.ref.inj (beq_iff_eq.mp q);subst e;unfold clsIn at JD
  split at JD
  ·rename_i c' d' ZM JC ho
   have z:=(X _ _ ho).symm.trans ZN
   cases z
  ·cases JD
 ca:=λX ⟨o,e,hc⟩ q=>wd X k e hc q
end
section
variable {X:Cx}{pins:List (Addr×Obj)}{σ:St}{H:Hp}{s:CW}
inductive EW (K:Frag)(H:Hp):V->Value->Prop where
 |of {x:V}{t:Value}(h:Ek K H x t):EW K H x t
 |exc {a C:Addr}(e:H a=some (Eh a (.ref C)))(k:Fx K C):EW K H (.ref a) (.ref C)
theorem Cy {A:Around}{E:yf}{Q:yf}{x:V}{u t c:Value}{b:Bool}(I:Inv X pins σ H s)(rx:aD x u)(ty:EW X.K H x t)(e:kitOne X.K t c=some b)(h:∀tk,Q (.bool b) {s with toks:=tk}):
 wpAny (model X.prog X.w) A (call (.builtin "isinstance") [u,c]) Q E s:=by
 cases ty with
 |of z=>exact acp I rx z e h
 |exc ea k =>
  rename_i a C
  cases(show u=Value.ref a from rx)
  obtain⟨o,vs,h1,h2,_⟩:=tG I.hok ea;exact kia_one (yL k) I.kIn ⟨o,h1,h2⟩ e (λz=>nomatch z) h
def EM:V->Value->Prop
 | .ty n,c=>c=.type n
 | .ref a,c=>c=.ref a
 |_,_=>False
theorem aY:cH X (.builtin "isinstance") (λxs H Q=>∃x c t cv b,xs=[x,c]/\EM c cv/\EW X.K H x t/\kitOne X.K t cv=some b/\Q (.bl b) H):=by
 intro pins s σ H xs us Q I r h;obtain⟨x,c,t,cv,b,rfl,hc,ty,e,q⟩:=h
 cases r with
 |cons r1 r2 =>
  cases r2 with
  |cons r2 r3 =>
   cases r3
   rename_i u uc
   have ZO:uc=cv:=by
    cases c with
    |ty n=>cases(show uc=Value.type n from r2);exact hc.symm
    |ref a=>cases(show uc=Value.ref a from r2);exact hc.symm
    |_=>exact hc.elim
   subst ZO;exact Cy I r1 ty e λtk=>⟨.bl b,H,I.tok tk,rfl,q⟩
end
variable {N:Bg}{k:Nat}{sp:Sp}
section
variable {P:zr}{w:World}{K:PySem.W.Frag}{mg:vK}{base:Heap}
theorem zA.okN (F:zA K x qual st f fd)(S:yx N ps (ak st))(len:∀vs H Q E,sp vs H Q E->vs.length=ps.length)
 (Ic:∀(Hn:Value)(A:Around)(outer:List Env)(s:CW)(H:Hp)(vs:List V)(Q:VK)(E:XK),qL k (A.deeper (envOfC qual (ak st) s.heap.objs.size f Hn))->sp vs H Q E →
  ∃t,rX (fZ (aV P w) P w K mg base N qual (ak st) f Hn A outer s H E).nox (b9 st) t/\t {nx:=λ_ H'=>Q .non H',rt:=Q} (iA N vs) H):Ha P w K mg base (aV P w) (k+1) f fd ps sp:=by
 obtain⟨oc,od,kV,doc,pm,an,Hn,ct,HG,rfl,lk,Ia⟩:=F.ex;refine zB lk Ia S len λA outer s H vs Q E hr JK=>?_;obtain⟨t,h,q⟩:=Ic Hn A outer s H vs Q E hr JK;exact⟨t,h.nox,q⟩
theorem zA.okE (F:zA K x qual st f fd)(S:yx N ps (ak st))(len:∀vs H Q E,sp vs H Q E->vs.length=ps.length)
 (Ic:∀(Hn:Value)(A:Around)(outer:List Env)(s:CW)(H:Hp)(vs:List V)(Q:VK)(E:XK),qL k (A.deeper (envOfC qual (ak st) s.heap.objs.size f Hn))->sp vs H Q E →
  ∃t,rX (fZ (aV P w) P w K mg base N qual (ak st) f Hn A outer s H E) (b9 st) t/\t {nx:=λ_ H'=>Q .non H',rt:=Q} (iA N vs) H):Ha P w K mg base (aV P w) (k+1) f fd ps sp:=by
 obtain⟨oc,od,kV,doc,pm,an,Hn,ct,HG,rfl,lk,Ia⟩:=F.ex;exact zB lk Ia S len λA outer s H vs Q E hr JK=>Ic Hn A outer s H vs Q E hr JK
end
section
variable {X:Cx}{pins:List (Addr×Obj)}{σ:St}{H:Hp}{s:CW}
theorem C1 {x:V}{u t:Value}(I:Inv X pins σ H s)(rx:aD x u)(ty:EW X.K H x t):Looks (model X.prog X.w) s.heap (typeOf u) t:=by
 cases ty with
 |of ty =>
  cases ty with
  |non=>cases(show u=Value.none from rx);exact kitx_none.ty _ _ I.kIn True.intro
  |bl y=>cases(show u=Value.bool y from rx);exact kitx_bool.ty _ _ I.kIn True.intro
  |int i=>obtain⟨t,q⟩:=(show ∃t,u=Value.int i t from rx);cases q;exact kitx_int.ty _ _ I.kIn True.intro
  |str y=>obtain⟨t,q⟩:=(show ∃t,u=Value.str y t from rx);cases q;exact kitx_str.ty _ _ I.kIn True.intro
  |flt y=>obtain⟨t,q⟩:=(show ∃t,u=Value.float y t from rx);cases q;exact kitx_float.ty _ _ I.kIn True.intro
  |@lst a xs ea =>
   cases(show u=Value.ref a from rx)
   obtain⟨_,_,n,_,h1⟩:=(show bc X.prog X.w H s.heap a (.lst xs) from I.hok a _ ea);exact kitx_list.ty _ _ I.kIn ⟨_,h1,rfl⟩
  |@frz a ob xs ea =>
   cases(show u=Value.ref a from rx)
   obtain⟨_,_,_,n,_,h1⟩:=(show bc X.prog X.w H s.heap a (.frz ob (.lst xs)) from I.hok a _ ea);exact kitx_list.ty _ _ I.kIn ⟨_,h1,rfl⟩
  |@tup a xs ea =>
   cases(show u=Value.ref a from rx)
   obtain⟨_,_,_,p⟩:=(show bc X.prog X.w H s.heap a (.tup xs) from I.hok a _ ea);obtain⟨o,h1,h2,_⟩:=p;exact kitx_tuple.ty _ _ I.kIn ⟨o,h1,h2⟩
  |@dK a Hh ea =>
   cases(show u=Value.ref a from rx)
   obtain⟨_,_,vs,_,p⟩:=(show bc X.prog X.w H s.heap a (.dK Hh) from I.hok a _ ea);obtain⟨o,es,ep,h1,h2,_⟩:=p;exact kitx_dict.ty _ _ I.kIn ⟨o,h1,h2.1⟩
  |@dT a Hh ea =>
   cases(show u=Value.ref a from rx)
   obtain⟨_,_,xs,_,o,es,ep,h1,h2,_⟩:=(show bc X.prog X.w H s.heap a (.dT Hh) from I.hok a _ ea);exact kitx_dict.ty _ _ I.kIn ⟨o,h1,h2.1⟩
  |@ins a C dx fs ea cl ha hn Sk hm =>
   cases(show u=Value.ref a from rx)
   obtain⟨mA,O,_⟩:=ik I.hok ea;obtain⟨od,J,_⟩:=O.look;exact J.type
 |exc ea k =>
  rename_i a C
  cases(show u=Value.ref a from rx)
  obtain⟨o,vs,h1,h2,_⟩:=tG I.hok ea;exact h2▸(Looks.ld h1).andThen .now
end
section
variable {X:Cx}{CX:CH}{k:Nat}{f C:Addr}{fd:zI}{ps:Bg}{sp:Sp}{E:XK}
def Cs (K:Frag)(C:Addr)(sp:Sp)(E:XK)(neg:Bool):R2:=λx y H Q=>∃p dx fs t,x=.ref p/\H p=some (.ins C dx fs)/\EW K H y t/\notFirst K C t=true/\sp [x,y] H (λv H'=>∃b,v=.bl b/\Q (.bl (b != neg)) H') E
theorem wR (hs:findIn X.K (.ref C) "__eq__"=some (some (.ref f)))(hf:isFn X.K (.ref f)=true)(F:Ha X.prog X.w X.K X.mg X.base CX k f fd ps sp)(hr:qL k X.A)(hb:aA X.K fd ps [])(hx:fJ CX X E):
 gB X (compareOp .Eq) (Cs X.K C sp E false):=by
 intro pins s σ H x y v u Q I rx ry h;obtain⟨p,dx,fs,t,rfl,ep,ty,hn,q⟩:=h
 cases(show v=Value.ref p from rx)
 obtain⟨mA,O,_⟩:=ik I.hok ep;obtain⟨od,J,_⟩:=O.look;obtain⟨m,Fm⟩:=I.fr;refine cmp_ofEq (cmp_K hr.aa1 Fm I.mod.kin J (C1 I ry ty) hn hs hf ?_);refine bu (oM (dvs:=[]) F hr hb .nil hx I (us:=[.ref p,u]) (vs:=[.ref p,y]) (.cons rx (.cons ry .nil)) q) λr s1 z'=>?_;obtain⟨z,H1,I1,rz,b,eb,q1⟩:=z';subst eb
 cases(show r=Value.bool b from rz)
 exact⟨.bl b,H1,I1,rfl,by simpa using q1⟩
end
section
variable {X:Cx}
def CM (K:PySem.W.Frag):R2:=λx y H Q=>∃p q xs,x=.ref p/\y=.ref q/\aO K H p xs/\aO K H q []/\Q (.bl (decide (xs=[]))) H
theorem yM (hr:qL k X.A):gB X (compareOp .Eq) (CM X.K):=by
 intro pins s σ H x y v u Q I rx ry h;obtain⟨p,q,xs,rfl,rfl,h1,h2,w⟩:=h
 cases(show v=Value.ref p from rx)
 cases(show u=Value.ref q from ry)
 obtain⟨its,r1,p1,_⟩:=I.list h1;obtain⟨Ht,r2,p2,_⟩:=I.list h2
 cases r2
 by_cases e:xs=[]
 ·subst e
  cases r1
  refine SeqAt.eq_listAt (e:=λ_=>true) p1.isList p2.isList rfl hr.aa1 (λj a b=>absurd a (by simp)) ⟨.bl true,H,I,?_,by simpa using w⟩;rfl
 ·refine SeqAt.eq_list_lengthsAt p1.isList p2.isList ?_ hr.aa1 ⟨.bl false,H,I,rfl,by simpa[e] using w⟩;have hl:=r1.length;have hx:xs.length≠0:=λz=>e (List.eq_nil_of_length_eq_zero z)
  have:its.toArray.size≠0:=by rw[List.size_toArray];omega
  simpa using this
end
def xM (tabs:List (Addr×Addr))(H:Hp):Prop:=(∀b,H b=none\/(∃o xs,H b=some (.frz o (.lst xs)))\/(H b=some (.tbl #[])/\∃c,(c,b)∈tabs))/\∀q∈tabs,H q.2=some (.tbl #[])
structure Ag (tabs:List (Addr×Addr))(mg:vK)(base:Heap):Prop where
 hd:∀q∈tabs,CodeHd base q.1 q.2
 bm:∃bm ob,mg "__builtins__"=some (.ref bm)/\bm≠builtinsNs/\base.get? bm=some ob/\ob.cls=.type "module"/\ob.dict=some builtinsNs/\ob.data=.plain
variable {K:Frag}
theorem vE {mg mb:vK}{CX:CH}{fa:Addr}{s₁:CW}{vs:oN}{ns:List Int}{tabs:List (Addr×Addr)}
 (KX:K.In s₁.heap)(Rf:s₁.heap.Ns mainGlobals mg)(hb:s₁.heap.Ns builtinsNs mb)(ZP:∀x:Str,x ≠ "__name__"->mb x=bootBuiltins x)(SE:s₁.heap.NoLimit)(hg:s₁.gens = #[])
 (ha:s₁.heap.get? a=some {cls:=.type "list",data:=.seq vs.toArray})(hi:IntsAre vs ns)(hl:ns.length<=sizeLine)(hr:qL k callerA)(hT:TabsAt tabs s₁.heap)(ZQ:∀q∈tabs,K.lookup q.2=none)
 (ZR:∃bm ob,mg "__builtins__"=some (.ref bm)/\bm≠builtinsNs/\s₁.heap.get? bm=some ob/\ob.cls=.type "module"/\ob.dict=some builtinsNs/\ob.data=.plain)
 (F:∀base:Heap,K.In base->base.Ns mainGlobals mg->Ag tabs mg base->Ha P w K mg base CX k fa fd [x] sp)(ND:∀(s:CW)(u:Value),BindsTo s fd ⟨[u],[]⟩ [(x,u)])
 (JK:∀H:Hp,xM tabs H->aO K H a (ns.map V.int)->sp [.ref a] H (λv _=>v=.bl true) λ_ _ _=>False)
 (SG:∀H e s',CX [] H s₁ (λ_ _ _=>False) e s'->False):
 codeAny (model P w) callerA (.call (.ref fa) ⟨[.ref a],[]⟩) (λr s'=>r=.ok (.ret (.bool true))/\OldK s₁.heap s'.heap/\s'.os=s₁.os/\AllBare s'.gens) s₁:=by
 have rv:=nv hi;have SH:=hi.length;have qm:∀b,(∃c,(c,b)∈tabs)->s₁.heap.get? b=some (tabObj #[]):=λb ⟨c,hc⟩=>(hT _ hc).2
 have core:∀H:Hp,xM tabs H->aO K H a (ns.map V.int)->gu P w H s₁.heap->(∀b,H b≠none->b=a\/∃c,(c,b)∈tabs)->(H a≠none->K.lookup a=none) →
  codeAny (model P w) callerA (.call (.ref fa) ⟨[.ref a],[]⟩) (λr s'=>r=.ok (.ret (.bool true))/\OldK s₁.heap s'.heap/\s'.os=s₁.os/\AllBare s'.gens) s₁:=by
  intro H hO hS hok hA hK;have base_of:∀{b:Addr}{o:Obj},s₁.heap.get? b=some o->H b=none->(mx s₁.heap H).get? b=some o:=λe n=>aag e n
  have Xc:∀{b:Addr}{o:Obj},s₁.heap.get? b=some o->o.cls≠.none->(∀its n,o.data≠.seq its n)->H b=none:=λ{b o} e d1 d2=>by
   cases q:H b with
   |none=>rfl
   |some u =>
    rcases hA b (by rw[q];simp) with e'|e'
    ·subst e';rw[ha] at e;cases e;exact absurd rfl (d2 _ _)
    ·rw[qm b e'] at e;cases e;exact absurd rfl d1
  have noA:∀{b:Addr}{o:Obj}{es:Array DictEntry}{ep:Nat},s₁.heap.get? b=some o->o.data=.dict es ep->H b=none:=λ{b o es ep} e d=>by
   cases q:H b with
   |none=>rfl
   |some u =>
    rcases hA b (by rw[q];simp) with e'|e'
    ·subst e';rw[ha] at e;cases e;have d':Data.seq vs.toArray _=Data.dict es ep:=d
     cases d'
    ·rw[qm b e'] at e;cases e;have d':Data.fields #[]=Data.dict es ep:=d
     cases d'
  have Rj:∀{b:Addr}{m:vK},s₁.heap.Ns b m->(mx s₁.heap H).Ns b m:=λ{b m} ⟨o,es,ep,e,d,r⟩=>⟨o,es,ep,base_of e (noA e d),d,r⟩
  have Xd:K.In (mx s₁.heap H):=λb o e=>base_of (KX b o e) (by
   cases q:H b with
   |none=>rfl
   |some u =>
    rcases hA b (by rw[q];simp) with e'|⟨c,e'⟩
    ·subst e';rw[hK (by rw[q];simp)] at e;cases e
    ·have z:=ZQ _ e'
     rw[z] at e;cases e)
  have hM:Mod K mg (mx s₁.heap H):=⟨Xd,Rj Rf,⟨mb,Rj hb,ZP⟩,let⟨mc,h1,h2⟩:=SE;⟨mc,Rj h1,h2⟩⟩
  have ZS:Ag tabs mg (mx s₁.heap H):=by
   refine⟨λq hq=>?_,?_⟩
   ·obtain⟨o,ws,file,tf,flags,tg,ZT,text,tt,e1,r1,r2,r3⟩:=(hT q hq).1;exact⟨o,ws,file,tf,flags,tg,ZT,text,tt,base_of e1 (Xc e1 (by rw[r1];intro z;cases z) (λits n z=>by rw[r2] at z;cases z)),r1,r2,r3⟩
   ·obtain⟨bm,ob,b1,b2,b3,b4,b5,b6⟩:=ZR;exact⟨bm,ob,b1,b2,base_of b3 (Xc b3 (by rw[b4];intro z;cases z) (λits n z=>by rw[b6] at z;cases z)),b4,b5,b6⟩
  have e0:FX P w K mg (mx s₁.heap H) callerA [] s₁ H:=⟨rfl,hM,λb o e=>aaw e,Nat.le_of_eq (aao _ _),trivial,λb hb=>absurd (show b∈([]:List Addr) from hb) (by simp),hok,.of_eq hg⟩;refine codeAny_mono ((F _ Xd (Rj Rf) ZS).run callerA [] s₁ H ⟨[.ref a],[]⟩ [.ref a] [.ref a] _ _ hr e0 (ND s₁ (.ref a)) (.cons rfl .nil) (JK H hO hS)) λr s' h=>?_
  cases r with
  |error e=>exact(SG H e s' h).elim
  |ok fl =>
   cases fl with
   |next=>exact False.elim h
   |brk=>exact False.elim h
   |cont=>exact False.elim h
   |ret u =>
    obtain⟨v,H',os,bare,un,NG,r',q⟩:=h;have q':v=.bl true:=q;subst q';obtain rfl:u=Value.bool true:=r';refine⟨rfl,⟨λb o e=>?_,λb o e=>un.there b o e (by simp)⟩,os,bare⟩
    cases q:H b with
    |none=>exact .inl (un.keep b o e q (by intro z;exact absurd (show b∈([]:List Addr) from z) (by simp)) (by simp))
    |some u =>
     rcases hO.1 b with z|⟨ob,xs,z⟩|⟨z,c,hc⟩
     ·rw[q] at z;cases z
     ·have z2:=un.aap b ob _ z;obtain⟨e1,_⟩:=hok b _ z;obtain⟨e2,_⟩:=NG b _ z2;rw[e] at e1;cases e1;exact .inl e2
     ·obtain⟨more,z2⟩:=un.aax b _ z;have e2:s'.heap.get? b=some {cls:=.none,data:=.fields (#[]++more)}:=NG b _ z2;have e1:=qm b ⟨c,hc⟩;rw[e] at e1;cases e1;exact .inr (.inl ⟨((hT _ hc).1.tab (hT _ hc).2).isCodeTable,rfl,#[],more,rfl,e2⟩)
 have aT:∀c,(c,a)∉tabs:=λc hc=>by
  have z:=qm a ⟨c,hc⟩;rw[ha] at z
  cases z
 have NH:∀b,Decidable (∃c,(c,b)∈tabs):=λb=>Classical.propDecidable _
 cases hk:K.lookup a with
 |some o =>
  have e:=KX a o hk;rw[ha] at e
  cases e
  refine core (λb=>@ite _ (∃c,(c,b)∈tabs) (NH b) (some (.tbl #[])) none) ⟨λb=>?_,λq hq=>?_⟩ (.inr ⟨_,vs.toArray,_,hk,rfl,rfl,rfl,by rw[List.size_toArray,SH];exact hl,by simpa using rv⟩) (λb u z=>?_) (λb z=>?_) λz=>?_
  ·by_cases hb:∃c,(c,b)∈tabs
   ·exact .inr (.inr ⟨if_pos hb,hb⟩)
   ·exact .inl (if_neg hb)
  ·exact if_pos ⟨q.1,hq⟩
  ·by_cases hb:∃c,(c,b)∈tabs
   ·have z':=(if_pos hb).symm.trans z
    cases z'
    exact qm b hb
   ·have z':=(if_neg hb).symm.trans z
    cases z'
  ·by_cases hb:∃c,(c,b)∈tabs
   ·exact .inr hb
   ·exact absurd (if_neg hb) z
  ·exact absurd (if_neg λ⟨c,hc⟩=>aT c hc) z
 |none =>
  refine core (λb=>if b=a then some (.frz {cls:=.type "list",data:=.seq vs.toArray} (.lst (ns.map V.int))) else @ite _ (∃c,(c,b)∈tabs) (NH b) (some (.tbl #[])) none) ⟨λb=>?_,λq hq=>?_⟩ (.inl (.inr ⟨{cls:=.type "list",data:=.seq vs.toArray},if_pos rfl⟩)) (λb u z=>?_) (λb z=>?_) λ_=>hk
  ·by_cases hb:b=a
   ·exact .inr (.inl ⟨_,_,if_pos hb⟩)
   ·by_cases ht:∃c,(c,b)∈tabs
    ·exact .inr (.inr ⟨(if_neg hb).trans (if_pos ht),ht⟩)
    ·exact .inl ((if_neg hb).trans (if_neg ht))
  ·have hb:q.2≠a:=λz=>aT q.1 (by rw[<-z];exact hq);exact(if_neg hb).trans (if_pos ⟨q.1,hq⟩)
  ·by_cases hb:b=a
   ·have z':=(if_pos hb).symm.trans z
    cases z'
    subst hb;exact⟨ha,by rw[List.length_map];exact hl,vs,_,rv,ha⟩
   ·have z':=(if_neg hb).symm.trans z
    by_cases ht:∃c,(c,b)∈tabs
    ·have z2:=(if_pos ht).symm.trans z'
     cases z2
     exact qm b ht
    ·have z2:=(if_neg ht).symm.trans z'
     cases z2
  ·by_cases hb:b=a
   ·exact .inl hb
   ·by_cases ht:∃c,(c,b)∈tabs
    ·exact .inr ht
    ·exact absurd ((if_neg hb).trans (if_neg ht)) z
structure Fg (K:Frag)(x qual:Str)(st:Stmt)(f:Addr)(fd:zI)(T:Addr):Prop where
 ex:∃(oc:Value)(od:Cw)(kV doc pm:Value)(an:Cw)(Hn ct:Value)(HG:Ei),
  fd=fnOf x qual (cM st) (b9 st) (ak st) (.ref T) kV doc pm an Hn ct/\K.lookup f=some ⟨oc,od,.func fd,HG⟩/\codeIn K Hn qual=true
 kp:keepIn K (.ref f)=true
section
variable {P:zr}{w:World}{K:Frag}{mg:vK}{base:Heap}
theorem Fg.okE {T:Addr}(F:Fg K x qual st f fd T)(S:yx N ps (ak st))(len:∀vs H Q E,sp vs H Q E->vs.length=ps.length)
 (Ic:∀(Hn:Value)(A:Around)(outer:List Env)(s:CW)(H:Hp)(vs:List V)(Q:VK)(E:XK),qL k (A.deeper (envOfC qual (ak st) s.heap.objs.size f Hn))->sp vs H Q E →
  ∃t,rX (fZ (aV P w) P w K mg base N qual (ak st) f Hn A outer s H E) (b9 st) t/\t {nx:=λ_ H'=>Q .non H',rt:=Q} (iA N vs) H):Ha P w K mg base (aV P w) (k+1) f fd ps sp:=by
 obtain⟨oc,od,kV,doc,pm,an,Hn,ct,HG,rfl,lk,Ia⟩:=F.ex;exact zB lk Ia S len λA outer s H vs Q E hr JK=>Ic Hn A outer s H vs Q E hr JK
theorem Br {T:Addr}{oc:Value}{od an:Cw}{HG:Ei}{kV doc pm Hn ct:Value}(l:K.lookup f=some ⟨oc,od,.func (fnOf x qual (cM st) (b9 st) (ak st) (.ref T) kV doc pm an Hn ct),HG⟩)
 (c:codeIn K Hn qual=true)(k:keepIn K (.ref f)=true):Fg K x qual st f (fnOf x qual (cM st) (b9 st) (ak st) (.ref T) kV doc pm an Hn ct) T:=⟨⟨oc,od,kV,doc,pm,an,Hn,ct,HG,rfl,l,c⟩,k⟩
end
def gm:Expr->Bool
 | .Starred _ _=>true
 |_=>false
theorem aU {e:Expr}{rest:qk}(h:gm e=false):starEach (e::rest) env=(false,eval e env):: starEach rest env:=by
 cases e <;> first|rfl|cases h
section
variable {X:Cx}{e:Expr}{es:qk}{te:TE}{t:TA}
theorem ah (ha:PE X e te)(hr:PA X es t)(h:gm e=false:=by rfl):PA X (e::es) (bH te t):=dS ha hr (aU h)
end
inductive D where
 |non|bl (b:Bool)|int (i:Int)|str (x:Str)|lst (ds:List D)|tup (ds:List D)
mutual
def aC (K:Frag)(H:Hp):D->V->Prop
 | .non,v=>v=.non
 | .bl b,v=>v=.bl b
 | .int i,v=>v=.int i
 | .str x,v=>v=.str x
 | .lst ds,v=>∃a xs,v=.ref a/\aO K H a xs/\aI K H ds xs
 | .tup ds,v=>∃a xs,v=.ref a/\bw K H a xs/\aI K H ds xs
def aI (K:Frag)(H:Hp):List D->List V->Prop
 |[],xs=>xs=[]
 |d::ds,xs=>∃y ys,xs=y::ys/\aC K H d y/\aI K H ds ys
end
mutual
def dY:D->D->Bool
 | .non,.non=>true
 | .bl a,.bl b=>a==b
 | .bl a,.int b=>(if a then 1 else 0)==b
 | .int a,.bl b=>a==(if b then 1 else 0)
 | .int a,.int b=>a==b
 | .str a,.str b=>a==b
 | .lst a,.lst b=>eX a b
 | .tup a,.tup b=>eX a b
 |_,_=>false
def eX:List D->List D->Bool
 |[],[]=>true
 |a::as,b::bs=>dY a b&&eX as bs
 |_,_=>false
end
mutual
def dM:D->Nat
 | .lst ds=>cL ds+1
 | .tup ds=>cL ds+1
 |_=>0
def cL:List D->Nat
 |[]=>0
 |d::ds=>max (dM d) (cL ds)
end
theorem pH:∀{ds:List D}{d:D},d∈ds->dM d<=cL ds
 |e::ds,d,h=>by
  unfold cL
  rcases List.mem_cons.mp h with rfl|h
  ·exact Nat.le_max_left _ _
  ·exact Nat.le_trans (pH h) (Nat.le_max_right _ _)
theorem iC:∀(as bs:List D),eX as bs=((List.range (min as.length bs.length)).all (λj=>dY (as.getD j .non) (bs.getD j .non))&&as.length==bs.length)
 |[],[]=>rfl
 |[],b::bs=>by simp;rfl
 |a::as,[]=>by simp;rfl
 |a::as,b::bs=>by
  show(dY a b&&eX as bs)=_;rw[iC as bs]
  have e:min (a::as).length (b::bs).length=min as.length bs.length+1:=by simp[Nat.succ_min_succ]
  rw[e,List.range_succ_eq_map,List.all_cons,List.all_map]
  have h1:((a::as).length==(b::bs).length)=(as.length==bs.length):=by simp
  rw[h1,Bool.and_assoc];rfl
theorem aI.len :∀{ds:List D}{xs:List V},aI K H ds xs->ds.length=xs.length
 |[],xs,h=>by
  have h:xs=[]:=by unfold aI at h;exact h
  rw[h];rfl
 |d::ds,xs,h=>by
  unfold aI at h;obtain⟨y,ys,rfl,_,h⟩:=h;simp[aI.len h]
theorem aI.get :∀{ds:List D}{xs:List V}{j:Nat}(hj:j<xs.length),aI K H ds xs->aC K H (ds.getD j .non) xs[j]/\ds.getD j .non∈ds
 |[],xs,j,hj,h=>by
  have h:xs=[]:=by unfold aI at h;exact h
  subst h;exact absurd hj (by simp)
 |d::ds,xs,j,hj,h=>by
  unfold aI at h;obtain⟨y,ys,rfl,hd,h⟩:=h
  cases j with
  |zero=>exact⟨hd,List.mem_cons_self⟩
  |succ j =>
   obtain⟨h1,h2⟩:=aI.get (j:=j) (by simpa using hj) h;exact⟨h1,List.mem_cons_of_mem _ h2⟩
mutual
theorem cq:∀d:D,dY d d=true
 | .non=>rfl
 | .bl b=>beq_self_eq_true b
 | .int i=>beq_self_eq_true i
 | .str x=>beq_self_eq_true x
 | .lst ds=>jt ds
 | .tup ds=>jt ds
theorem jt:∀ds:List D,eX ds ds=true
 |[]=>rfl
 |d::ds=>by show(dY d d&&eX ds ds)=true;rw[cq d,jt ds];rfl
end
section
variable {X:Cx}{pins:List (Addr×Obj)}{σ:St}{H:Hp}{s:CW}
theorem gY (I:Inv X pins σ H s){xs ys:List V}(h1:aO X.K H a xs)(h2:bw X.K H a ys):False:=by
 obtain⟨its,_,p1,_⟩:=I.list h1;obtain⟨Ht,_,p2,_⟩:=I.tuple h2;exact SeqAt.ne_of_list_tuple p1.isList (show s.heap.IsTuple a Ht.toArray from p2) rfl
mutual
theorem kF (I:Inv X pins σ H s):∀(d e:D)(v:V),aC X.K H d v->aC X.K H e v->dY d e=true
 | .non,e,v,h1,h2=>by
   unfold aC at h1;subst h1
   cases e <;> unfold aC at h2 <;> first|(obtain⟨_,_,z,_⟩:=h2;cases z;done)|rfl|(cases h2;done)
 | .bl b,e,v,h1,h2=>by
   unfold aC at h1;subst h1
   cases e <;> unfold aC at h2 <;> first|(obtain⟨_,_,z,_⟩:=h2;cases z;done)|(cases h2;exact cq _)|(cases h2;done)
 | .int b,e,v,h1,h2=>by
   unfold aC at h1;subst h1
   cases e <;> unfold aC at h2 <;> first|(obtain⟨_,_,z,_⟩:=h2;cases z;done)|(cases h2;exact cq _)|(cases h2;done)
 | .str b,e,v,h1,h2=>by
   unfold aC at h1;subst h1
   cases e <;> unfold aC at h2 <;> first|(obtain⟨_,_,z,_⟩:=h2;cases z;done)|(cases h2;exact cq _)|(cases h2;done)
 | .lst ds,e,v,h1,h2=>by
   unfold aC at h1;obtain⟨a,xs,rfl,q,r⟩:=h1
   cases e with
   |lst es =>
    unfold aC at h2;obtain⟨b,ys,z,q2,r2⟩:=h2
    cases z
    have e:=I.aaQ q q2;subst e;exact jx I ds es xs r r2
   |tup es =>
    unfold aC at h2;obtain⟨b,ys,z,q2,r2⟩:=h2
    cases z
    exact(gY I q q2).elim
   |_=>unfold aC at h2;cases h2
 | .tup ds,e,v,h1,h2=>by
   unfold aC at h1;obtain⟨a,xs,rfl,q,r⟩:=h1
   cases e with
   |tup es =>
    unfold aC at h2;obtain⟨b,ys,z,q2,r2⟩:=h2
    cases z
    have e:=I.aaB q q2;subst e;exact jx I ds es xs r r2
   |lst es =>
    unfold aC at h2;obtain⟨b,ys,z,q2,r2⟩:=h2
    cases z
    exact(gY I q2 q).elim
   |_=>unfold aC at h2;cases h2
theorem jx (I:Inv X pins σ H s):∀(ds es:List D)(xs:List V),aI X.K H ds xs->aI X.K H es xs->eX ds es=true
 |[],es,xs,h1,h2=>by
  unfold aI at h1;subst h1
  cases es with
  |nil=>rfl
  |cons e es=>unfold aI at h2;obtain⟨_,_,z,_⟩:=h2;cases z
 |d::ds,es,xs,h1,h2=>by
  unfold aI at h1;obtain⟨y,ys,rfl,hd,h1⟩:=h1
  cases es with
  |nil=>unfold aI at h2;cases h2
  |cons e es =>
   unfold aI at h2;obtain⟨_,_,z,he,h2⟩:=h2
   cases z
   show(dY d e&&eX ds es)=true;rw[kF I d e y hd he,jx I ds es ys h1 h2];rfl
end
theorem lX (I:Inv X pins σ H s)(n:Nat)(ih:n≠0->∀(A:Around)(d e:D)(x y:V)(u v:Value),dM d<=n-1->A.units+(n-1)<cLine->aC X.K H d x->aC X.K H e y->aD x u->aD y v->SeqAt.EqAt A s u v (dY d e))
 (SI:n≠0)(A:Around)(hu:A.units+n<cLine){ds es:List D}{xs ys:List V}{its Ht:oN}(r1:aI X.K H ds xs)(r2:aI X.K H es ys)(rv:aK xs its)(HS:aK ys Ht)(hn:cL ds<=n-1):
 ∀j (h1:j<its.toArray.size)(h2:j<Ht.toArray.size),SeqAt.EqAt A.in1 s its.toArray[j] Ht.toArray[j] (dY (ds.getD j .non) (es.getD j .non)):=by
 intro j h1 h2
 have e1:j<xs.length:=by rw[rv.length];simpa using h1
 have e2:j<ys.length:=by rw[HS.length];simpa using h2
 obtain⟨d1,m1⟩:=r1.get e1;obtain⟨d2,m2⟩:=r2.get e2;obtain⟨u,ZU,ru⟩:=rv.get (List.getElem?_eq_getElem e1);obtain⟨v,ZV,ZW⟩:=HS.get (List.getElem?_eq_getElem e2)
 have z1:its.toArray[j]=u:=by
  have:=List.getElem?_eq_some_iff.mp ZU;obtain⟨_,q⟩:=this;simpa using q
 have z2:Ht.toArray[j]=v:=by
  have:=List.getElem?_eq_some_iff.mp ZV;obtain⟨_,q⟩:=this;simpa using q
 rw[z1,z2];exact ih SI A.in1 _ _ _ _ _ _ (Nat.le_trans (pH m1) hn) (by show A.units+1+(n-1)<cLine;omega) d1 d2 ru ZW
theorem m6 (I:Inv X pins σ H s)(n:Nat)(ih:n≠0->∀(A:Around)(d e:D)(x y:V)(u v:Value),dM d<=n-1->A.units+(n-1)<cLine->aC X.K H d x->aC X.K H e y->aD x u->aD y v->SeqAt.EqAt A s u v (dY d e))
 (A:Around)(d e:D)(x y:V)(u v:Value)(hn:dM d<=n)(hu:A.units+n<cLine)(h1:aC X.K H d x)(h2:aC X.K H e y)(rx:aD x u)(ry:aD y v):
 SeqAt.RcAt A s u v (dY d e)/\SeqAt.EqAt A s u v (dY d e)/\SeqAt.RcNeAt A s u v (!dY d e):=by
 have Hw:A.units<cLine:=by omega
 cases d with
 |non =>
  unfold aC at h1;subst h1
  cases rx
  cases e with
  |non =>
   unfold aC at h2;subst h2
   cases ry
   exact⟨.none_none,.same _,.none_none⟩
  |bl q =>
   unfold aC at h2;subst h2
   cases ry
   exact⟨.none_bool q,.none_bool q,.none_bool q⟩
  |int q =>
   unfold aC at h2;subst h2;obtain⟨tq,rfl⟩:=ry;exact⟨.none_int q tq,.none_int q tq,.none_int q tq⟩
  |str q =>
   unfold aC at h2;subst h2;obtain⟨tq,rfl⟩:=ry;exact⟨.none_str q tq,.none_str q tq,.none_str q tq⟩
  |lst es =>
   unfold aC at h2;obtain⟨b,ys,rfl,q2,r2⟩:=h2
   cases ry
   obtain⟨Ht,HS,p2,_⟩:=I.list q2;exact⟨.none_list  p2.isList Hw,.none_list  p2.isList Hw,.none_list  p2.isList Hw⟩
  |tup es =>
   unfold aC at h2;obtain⟨b,ys,rfl,q2,r2⟩:=h2
   cases ry
   obtain⟨Ht,HS,p2,_⟩:=I.tuple q2;have p2:s.heap.IsTuple b Ht.toArray:=p2;exact⟨.none_tuple  p2 Hw,.none_tuple  p2 Hw,.none_tuple  p2 Hw⟩
 |bl p =>
  unfold aC at h1;subst h1
  cases rx
  cases e with
  |non =>
   unfold aC at h2;subst h2
   cases ry
   exact⟨.bool_none p,.bool_none p,.bool_none p⟩
  |bl q =>
   unfold aC at h2;subst h2
   cases ry
   exact⟨.bool_bool p q,.bool_bool p q,.bool_bool p q⟩
  |int q =>
   unfold aC at h2;subst h2;obtain⟨tq,rfl⟩:=ry;exact⟨.bool_int p q tq,.bool_int p q tq,.bool_int p q tq⟩
  |str q =>
   unfold aC at h2;subst h2;obtain⟨tq,rfl⟩:=ry;exact⟨.bool_str p q tq,.bool_str p q tq,.bool_str p q tq⟩
  |lst es =>
   unfold aC at h2;obtain⟨b,ys,rfl,q2,r2⟩:=h2
   cases ry
   obtain⟨Ht,HS,p2,_⟩:=I.list q2;exact⟨.bool_list p p2.isList Hw,.bool_list p p2.isList Hw,.bool_list p p2.isList Hw⟩
  |tup es =>
   unfold aC at h2;obtain⟨b,ys,rfl,q2,r2⟩:=h2
   cases ry
   obtain⟨Ht,HS,p2,_⟩:=I.tuple q2;have p2:s.heap.IsTuple b Ht.toArray:=p2;exact⟨.bool_tuple p p2 Hw,.bool_tuple p p2 Hw,.bool_tuple p p2 Hw⟩
 |int p =>
  unfold aC at h1;subst h1;obtain⟨tp,rfl⟩:=rx
  cases e with
  |non =>
   unfold aC at h2;subst h2
   cases ry
   exact⟨.int_none p tp,.int_none p tp,.int_none p tp⟩
  |bl q =>
   unfold aC at h2;subst h2
   cases ry
   exact⟨.int_bool p tp q,.int_bool p tp q,.int_bool p tp q⟩
  |int q =>
   unfold aC at h2;subst h2;obtain⟨tq,rfl⟩:=ry;exact⟨.int_int p tp q tq,.int_int p tp q tq,.int_int p tp q tq⟩
  |str q =>
   unfold aC at h2;subst h2;obtain⟨tq,rfl⟩:=ry;exact⟨.int_str p tp q tq,.int_str p tp q tq,.int_str p tp q tq⟩
  |lst es =>
   unfold aC at h2;obtain⟨b,ys,rfl,q2,r2⟩:=h2
   cases ry
   obtain⟨Ht,HS,p2,_⟩:=I.list q2;exact⟨.int_list p tp p2.isList Hw,.int_list p tp p2.isList Hw,.int_list p tp p2.isList Hw⟩
  |tup es =>
   unfold aC at h2;obtain⟨b,ys,rfl,q2,r2⟩:=h2
   cases ry
   obtain⟨Ht,HS,p2,_⟩:=I.tuple q2;have p2:s.heap.IsTuple b Ht.toArray:=p2;exact⟨.int_tuple p tp p2 Hw,.int_tuple p tp p2 Hw,.int_tuple p tp p2 Hw⟩
 |str p =>
  unfold aC at h1;subst h1;obtain⟨tp,rfl⟩:=rx
  cases e with
  |non =>
   unfold aC at h2;subst h2
   cases ry
   exact⟨.str_none p tp,.str_none p tp,.str_none p tp⟩
  |bl q =>
   unfold aC at h2;subst h2
   cases ry
   exact⟨.str_bool p tp q,.str_bool p tp q,.str_bool p tp q⟩
  |int q =>
   unfold aC at h2;subst h2;obtain⟨tq,rfl⟩:=ry;exact⟨.str_int p tp q tq,.str_int p tp q tq,.str_int p tp q tq⟩
  |str q =>
   unfold aC at h2;subst h2;obtain⟨tq,rfl⟩:=ry;exact⟨.str_str p tp q tq,.str_str p tp q tq,.str_str p tp q tq⟩
  |lst es =>
   unfold aC at h2;obtain⟨b,ys,rfl,q2,r2⟩:=h2
   cases ry
   obtain⟨Ht,HS,p2,_⟩:=I.list q2;exact⟨.str_list p tp p2.isList Hw,.str_list p tp p2.isList Hw,.str_list p tp p2.isList Hw⟩
  |tup es =>
   unfold aC at h2;obtain⟨b,ys,rfl,q2,r2⟩:=h2
   cases ry
   obtain⟨Ht,HS,p2,_⟩:=I.tuple q2;have p2:s.heap.IsTuple b Ht.toArray:=p2;exact⟨.str_tuple p tp p2 Hw,.str_tuple p tp p2 Hw,.str_tuple p tp p2 Hw⟩
 |lst ds =>
  unfold aC at h1;obtain⟨a,xs,rfl,q1,r1⟩:=id h1
  cases rx
  obtain⟨its,rv,p1,_⟩:=I.list q1;have p1:s.heap.IsList a its.toArray:=p1.isList
  cases e with
  |non =>
   unfold aC at h2;subst h2
   cases ry
   exact⟨.list_none  p1 Hw,.list_none  p1 Hw,.list_none  p1 Hw⟩
  |bl q =>
   unfold aC at h2;subst h2
   cases ry
   exact⟨.list_bool q p1 Hw,.list_bool q p1 Hw,.list_bool q p1 Hw⟩
  |int q =>
   unfold aC at h2;subst h2;obtain⟨tq,rfl⟩:=ry;exact⟨.list_int q tq p1 Hw,.list_int q tq p1 Hw,.list_int q tq p1 Hw⟩
  |str q =>
   unfold aC at h2;subst h2;obtain⟨tq,rfl⟩:=ry;exact⟨.list_str q tq p1 Hw,.list_str q tq p1 Hw,.list_str q tq p1 Hw⟩
  |lst es =>
   unfold aC at h2;obtain⟨b,ys,rfl,q2,r2⟩:=id h2
   cases ry
   obtain⟨Ht,HS,p2,_⟩:=I.list q2;have p2:s.heap.IsList b Ht.toArray:=p2.isList;have el:=lX I n ih (by unfold dM at hn;omega) A hu r1 r2 rv HS (by unfold dM at hn;omega)
   have l1:its.toArray.size=ds.length:=by rw[List.size_toArray,<-rv.length,r1.len]
   have l2:Ht.toArray.size=es.length:=by rw[List.size_toArray,<-HS.length,r2.len]
   have dr:=iC ds es
   have key:SeqAt.RcAt A s (.ref a) (.ref b) (eX ds es)/\SeqAt.RcNeAt A s (.ref a) (.ref b) (!eX ds es):=by
    by_cases hl:ds.length=es.length
    ·have hs:its.toArray.size=Ht.toArray.size:=by rw[l1,l2,hl]
     have z:(List.range its.toArray.size).all (λj=>dY (ds.getD j .non) (es.getD j .non))=eX ds es:=by rw[dr,l1,hl];simp
     have c1:=SeqAt.RcAt.lists p1 p2 hs Hw el;have c2:=SeqAt.RcNeAt.lists p1 p2 hs Hw el;rw[z] at c1 c2;exact⟨c1,c2⟩
    ·have z:eX ds es=false:=by rw[dr];simp[hl]
     have hs:(its.toArray.size != Ht.toArray.size)=true:=by rw[l1,l2];simpa using hl
     rw[z];exact⟨SeqAt.RcAt.lists_lengths p1 p2 hs Hw,SeqAt.RcNeAt.lists_lengths p1 p2 hs Hw⟩
   have LP:dY (.lst ds) (.lst es)=eX ds es:=rfl
   by_cases LQ:a=b
   ·subst LQ;have z:=kF I (.lst ds) (.lst es) (.ref a) (by unfold aC;exact⟨a,xs,rfl,q1,r1⟩) (by unfold aC;exact⟨a,ys,rfl,q2,r2⟩);refine⟨by rw[LP];exact key.1,by rw[z];exact .same _,by rw[LP];exact key.2⟩
   ·rw[LP];exact⟨key.1,.of_refs LQ key.1,key.2⟩
  |tup es =>
   unfold aC at h2;obtain⟨b,ys,rfl,q2,r2⟩:=id h2
   cases ry
   obtain⟨Ht,HS,p2,_⟩:=I.tuple q2;have p2:s.heap.IsTuple b Ht.toArray:=p2;exact⟨.list_tuple p1 p2 Hw,.list_tuple p1 p2 Hw,.list_tuple p1 p2 Hw⟩
 |tup ds =>
  unfold aC at h1;obtain⟨a,xs,rfl,q1,r1⟩:=id h1
  cases rx
  obtain⟨its,rv,p1,_⟩:=I.tuple q1;have p1:s.heap.IsTuple a its.toArray:=p1
  cases e with
  |non =>
   unfold aC at h2;subst h2
   cases ry
   exact⟨.tuple_none  p1 Hw,.tuple_none  p1 Hw,.tuple_none  p1 Hw⟩
  |bl q =>
   unfold aC at h2;subst h2
   cases ry
   exact⟨.tuple_bool q p1 Hw,.tuple_bool q p1 Hw,.tuple_bool q p1 Hw⟩
  |int q =>
   unfold aC at h2;subst h2;obtain⟨tq,rfl⟩:=ry;exact⟨.tuple_int q tq p1 Hw,.tuple_int q tq p1 Hw,.tuple_int q tq p1 Hw⟩
  |str q =>
   unfold aC at h2;subst h2;obtain⟨tq,rfl⟩:=ry;exact⟨.tuple_str q tq p1 Hw,.tuple_str q tq p1 Hw,.tuple_str q tq p1 Hw⟩
  |lst es =>
   unfold aC at h2;obtain⟨b,ys,rfl,q2,r2⟩:=id h2
   cases ry
   obtain⟨Ht,HS,p2,_⟩:=I.list q2;have p2:s.heap.IsList b Ht.toArray:=p2.isList;exact⟨.tuple_list p1 p2 Hw,.tuple_list p1 p2 Hw,.tuple_list p1 p2 Hw⟩
  |tup es =>
   unfold aC at h2;obtain⟨b,ys,rfl,q2,r2⟩:=id h2
   cases ry
   obtain⟨Ht,HS,p2,_⟩:=I.tuple q2;have p2:s.heap.IsTuple b Ht.toArray:=p2;have el:=lX I n ih (by unfold dM at hn;omega) A hu r1 r2 rv HS (by unfold dM at hn;omega)
   have l1:its.toArray.size=ds.length:=by rw[List.size_toArray,<-rv.length,r1.len]
   have l2:Ht.toArray.size=es.length:=by rw[List.size_toArray,<-HS.length,r2.len]
   have dr:=iC ds es
   have key:SeqAt.RcAt A s (.ref a) (.ref b) (eX ds es)/\SeqAt.RcNeAt A s (.ref a) (.ref b) (!eX ds es):=by
    have z:((List.range (min its.toArray.size Ht.toArray.size)).all (λj=>dY (ds.getD j .non) (es.getD j .non))&&its.toArray.size==Ht.toArray.size)=eX ds es:=by rw[dr,l1,l2]
    have c1:=SeqAt.RcAt.tuples p1 p2 Hw el;have c2:=SeqAt.RcNeAt.tuples p1 p2 Hw el;rw[z] at c1 c2;exact⟨c1,c2⟩
   have LP:dY (.tup ds) (.tup es)=eX ds es:=rfl
   by_cases LQ:a=b
   ·subst LQ;have z:=kF I (.tup ds) (.tup es) (.ref a) (by unfold aC;exact⟨a,xs,rfl,q1,r1⟩) (by unfold aC;exact⟨a,ys,rfl,q2,r2⟩);refine⟨by rw[LP];exact key.1,by rw[z];exact .same _,by rw[LP];exact key.2⟩
   ·rw[LP];exact⟨key.1,.of_refs LQ key.1,key.2⟩
theorem ij (I:Inv X pins σ H s):∀(n:Nat)(A:Around)(d e:D)(x y:V)(u v:Value),dM d<=n->A.units+n<cLine->aC X.K H d x->aC X.K H e y->aD x u->aD y v →
 SeqAt.RcAt A s u v (dY d e)/\SeqAt.EqAt A s u v (dY d e)/\SeqAt.RcNeAt A s u v (!dY d e):=by
 intro n
 induction n with
 |zero=>exact λA d e x y u v hn hu h1 h2 rx ry=>m6 I 0 (λz=>absurd z (by simp)) A d e x y u v hn hu h1 h2 rx ry
 |succ n ih=>exact λA d e x y u v hn hu h1 h2 rx ry=>m6 I (n+1) (λ_ A d e x y u v hn hu h1 h2 rx ry=>(ih A d e x y u v hn hu h1 h2 rx ry).2.1) A d e x y u v hn hu h1 h2 rx ry
end
section
variable {X:Cx}
def Ep (K:Frag)(neg:Bool):R2:=λx y H Q=>∃d e,aC K H d x/\aC K H e y/\dM d<=32/\Q (.bl (dY d e != neg)) H
theorem rK (hr:qL k X.A):gB X (compareOp .Eq) (Ep X.K false):=by
 intro pins s σ H x y v u Q I rx ry h;obtain⟨d,e,h1,h2,hd,q⟩:=h;have z:=(ij I 32 X.A d e x y v u hd (by have:=hr.units;omega) h1 h2 rx ry).1;exact z X.prog X.w X.xe _ ⟨.bl (dY d e),H,I,rfl,by simpa using q⟩
theorem iN (hr:qL k X.A):gB X (compareOp .NotEq) (Ep X.K true):=by
 intro pins s σ H x y v u Q I rx ry h;obtain⟨d,e,h1,h2,hd,q⟩:=h;have z:=(ij I 32 X.A d e x y v u hd (by have:=hr.units;omega) h1 h2 rx ry).2.2
 exact z X.prog X.w X.xe _ ⟨.bl (!dY d e),H,I,rfl,by
  have e1:(dY d e != true) = !dY d e:=by cases dY d e <;> rfl
  rw[e1] at q
  exact q⟩
end
end L2
namespace Nm
def eP (a b:Int):Int:=(Int.gcd a b:Int)
def dv (t b:Int):Int:=if b<0 then -(eP t b) else eP t b
def fW (t b:Int):Int:=t.fdiv (dv t b)
def c7 (t b:Int):Int:=b.fdiv (dv t b)
variable {b:Int}
theorem iV {t:Int}(h:b≠0):0<eP t b:=by
 unfold eP;have:0<Int.gcd t b:=Int.gcd_pos_of_ne_zero_right _ h;omega
theorem nC {t:Int}(h:b≠0):dv t b≠0:=by
 have:=iV (t:=t) h;unfold dv
 split <;> omega
theorem Ft {t:Int}:dv t b ∣ t:=by
 unfold dv eP
 split
 ·exact Int.neg_dvd.mpr (Int.gcd_dvd_left ..)
 ·exact Int.gcd_dvd_left ..
theorem F9 {t:Int}:dv t b ∣ b:=by
 unfold dv eP
 split
 ·exact Int.neg_dvd.mpr (Int.gcd_dvd_right ..)
 ·exact Int.gcd_dvd_right ..
theorem qR {a:Int}(h:b ∣ a)(hb:b≠0):a.fdiv b*b=a:=by
 obtain⟨c,rfl⟩:=h;rw[Int.mul_fdiv_cancel_left _ hb,Int.mul_comm]
theorem ye {t:Int}(h:b≠0):fW t b*dv t b=t:=qR Ft (nC h)
theorem qE {t:Int}(h:b≠0):c7 t b*dv t b=b:=qR F9 (nC h)
theorem oU {t:Int}(h:b≠0):0<c7 t b:=by
 have e:=qE (t:=t) h;have g:=iV (t:=t) h
 by_cases hb:b<0
 ·have hd:dv t b = -(eP t b):=by unfold dv;rw[if_pos hb]
  rw[hd] at e
  by_cases hl:0<c7 t b
  ·exact hl
  ·have:0<=c7 t b * -(eP t b):=by
    have:=Int.mul_nonneg_of_nonpos_of_nonpos (a:=c7 t b) (b:=-(eP t b)) (by omega) (by omega);exact this
   omega
 ·have hd:dv t b=eP t b:=by unfold dv;rw[if_neg hb]
  rw[hd] at e
  by_cases hl:0<c7 t b
  ·exact hl
  ·have:c7 t b*eP t b<=0:=Int.mul_nonpos_of_nonpos_of_nonneg (by omega) (by omega);omega
theorem nI {t:Int}:(dv t b).natAbs=Int.gcd t b:=by
 unfold dv eP
 split <;> simp
theorem uS {t:Int}(h:b≠0):Int.gcd (fW t b) (c7 t b)=1:=by
 have e1:=ye (t:=t) h;have e2:=qE (t:=t) h;have g:0<Int.gcd t b:=Int.gcd_pos_of_ne_zero_right _ h;have e3:Int.gcd (fW t b*dv t b) (c7 t b*dv t b)=Int.gcd (fW t b) (c7 t b)*(dv t b).natAbs:=Int.gcd_mul_right ..;rw[e1,e2,nI] at e3
 have:Int.gcd (fW t b) (c7 t b)*Int.gcd t b=1*Int.gcd t b:=by omega
 exact Nat.eq_of_mul_eq_mul_right g this
theorem rM {t t' b':Int}(h:b≠0)(hp:0<b')(hg:Int.gcd t' b'=1)(he:t*b'=t'*b):fW t b=t'/\c7 t b=b':=by
 have e1:=ye (t:=t) h;have e2:=qE (t:=t) h;have g:=nC (t:=t) h;have lp:=oU (t:=t) h;have lg:=uS (t:=t) h
 have e3:fW t b*b'=t'*c7 t b:=by
  have z:(fW t b*b')*dv t b=(t'*c7 t b)*dv t b:=by
   rw[Int.mul_right_comm,e1,he,Int.mul_assoc,e2]
  exact Int.eq_of_mul_eq_mul_right g z
 have n3:(fW t b).natAbs*b'.natAbs=t'.natAbs*(c7 t b).natAbs:=by
  have:=congrArg Int.natAbs e3;rw[Int.natAbs_mul,Int.natAbs_mul] at this;exact this
 have c1:Nat.Coprime (c7 t b).natAbs (fW t b).natAbs:=by
  rw[Nat.coprime_comm];exact lg
 have c2:Nat.Coprime b'.natAbs t'.natAbs:=by
  rw[Nat.coprime_comm];exact hg
 have d1:(c7 t b).natAbs ∣ b'.natAbs:=c1.dvd_of_dvd_mul_left ⟨t'.natAbs,by rw[n3,Nat.mul_comm]⟩;have d2:b'.natAbs ∣ (c7 t b).natAbs:=c2.dvd_of_dvd_mul_left ⟨(fW t b).natAbs,by rw[<-n3,Nat.mul_comm]⟩;have e4:(c7 t b).natAbs=b'.natAbs:=Nat.dvd_antisymm d1 d2
 have e5:c7 t b=b':=by omega
 refine⟨?_,e5⟩;rw[e5] at e3;exact Int.eq_of_mul_eq_mul_right (by omega) e3
theorem qp {t b:Int}(hp:0<b)(hg:Int.gcd t b=1):fW t b=t/\c7 t b=b:=rM (by omega) hp hg rfl
theorem pU (a b:Int):Int.gcd b (a.fmod b)=Int.gcd a b:=by
 rw[Int.fmod_def,Int.gcd_comm a b]
 first
  |exact Int.gcd_sub_mul_left_right ..
  |simp
theorem ua (a b:Int)(h:b≠0):(a.fmod b).natAbs<b.natAbs:=by
 by_cases hb:0<b
 ·have h1:=Int.fmod_lt_of_pos a hb;have h2:=Int.fmod_nonneg_of_pos a hb;omega
 ·have e:a.fmod b = -((-a).fmod (-b)):=by
   have:=Int.fmod_def a b;rw[Int.neg_fmod_neg];omega
  have h1:=Int.fmod_lt_of_pos (-a) (b:=-b) (by omega);have h2:=Int.fmod_nonneg_of_pos (-a) (b:=-b) (by omega);omega
def ab (b:Int):Int:=if b<0 then -b else b
theorem kZ (b:Int):ab b=(b.natAbs:Int):=by unfold ab;split <;> omega
theorem B8 (a b:Int):Int.gcd (ab a) (ab b)=Int.gcd a b:=by
 rw[kZ,kZ];simp[Int.gcd]
def B (n:Nat)(i:Int):Prop:=i.natAbs<2^n
variable {n:Nat}{i:Int}
theorem B.mono {m:Nat}(h:B n i)(hn:n<=m):B m i:=Nat.lt_of_lt_of_le h (Nat.pow_le_pow_right (by decide) hn)
variable {j:Int}
theorem B.mul {m:Nat}(h:B n i)(k:B m j):B (n+m) (i*j):=by
 unfold B at *;rw[Int.natAbs_mul,Nat.pow_add];exact Nat.mul_lt_mul'' h k
theorem B.add (h:B n i)(k:B n j):B (n+1) (i+j):=by
 unfold B at *;rw[Nat.pow_succ];have:=Int.natAbs_add_le i j;omega
theorem B.le (h:B n i)(k:j.natAbs<=i.natAbs):B n j:=Nat.lt_of_le_of_lt k h
theorem rp {x d y:Int}(e:x*d=y)(hd:d≠0):x.natAbs<=y.natAbs:=by
 have:x.natAbs*d.natAbs=y.natAbs:=by rw[<-Int.natAbs_mul,e]
 have h1:1<=d.natAbs:=by omega
 calc x.natAbs=x.natAbs*1:=(Nat.mul_one _).symm
  _<=x.natAbs*d.natAbs:=Nat.mul_le_mul_left _ h1
  _=y.natAbs:=this
theorem zY {t:Int}(h:b≠0):(fW t b).natAbs<=t.natAbs:=rp (ye h) (nC h)
theorem Bl {t:Int}(h:b≠0):(c7 t b).natAbs<=b.natAbs:=rp (qE h) (nC h)
theorem BL {t:Int}(h:b≠0):(dv t b).natAbs<=b.natAbs:=by
 have e:=qE (t:=t) h;have lp:=oU (t:=t) h;exact rp (x:=dv t b) (d:=c7 t b) (by rw[Int.mul_comm];exact e) (by omega)
theorem Dp {t:Int}(h:b≠0):(eP t b).natAbs<=b.natAbs:=by
 have e:=BL (t:=t) h;rw[nI] at e;unfold eP;simpa using e
structure Num (p t b:Int):Prop where
 pos:0<b
 red:Int.gcd t b=1
 pr:p≠0->b=1/\0<=t/\t<p
variable {p:Int}
theorem Num.ofP {t:Int}(h0:0<=t)(h1:t<p):Num p t 1:=⟨by decide,by simp,λ_=>⟨rfl,h0,h1⟩⟩
theorem Num.low {t:Int}(h:b≠0):Num 0 (fW t b) (c7 t b):=⟨oU h,uS h,λz=>absurd rfl z⟩
def iD (p t b:Int):Int:=if p=0 then fW t b else t%p
def iL (p t b:Int):Int:=if p=0 then c7 t b else 1
theorem Num.set {t:Int}(hp:0<=p)(h:b≠0):Num p (iD p t b) (iL p t b):=by
 unfold iD iL
 by_cases z:p=0
 ·subst z;simp only[if_true];exact Num.low h
 ·simp only[z,if_false];exact Num.ofP (Int.emod_nonneg _ z) (Int.emod_lt_of_pos _ (by omega))
theorem Num.self {t:Int}(n:Num p t b)(hp:0<=p):iD p t b=t/\iL p t b=b:=by
 unfold iD iL
 by_cases z:p=0
 ·simp only[z,if_true];exact qp n.pos n.red
 ·simp only[z,if_false];obtain⟨h1,h2,h3⟩:=n.pr z;exact⟨Int.emod_eq_of_lt h2 h3,h1.symm⟩
end Nm
namespace L2
open PySem PySem.Spec PyProof.Rows PySem.W
variable {i:Int}
theorem BM (h:Nm.B 9000 i):i.natAbs.log2<9000:=by
 by_cases z:i.natAbs=0
 ·rw[z];decide
 ·exact(Nat.log2_lt z).mpr h
theorem xk (h:Nm.B 9000 i):Builtin.Int.intBits i<=2^20:=by
 have l:=BM h;unfold Builtin.Int.intBits
 split
 ·exact Nat.zero_le _
 ·have:(9000:Nat)<=2^20:=by decide
  omega
section
variable {X:Cx}
theorem gZ:gB X (binaryOp .FloorDiv) (rI (λ_ j=>j≠0/\Nm.B 9000 j) λi j=>.int (i.fdiv j)):=Cf λ_ _ _ _ _ _ _ hc q=>floordiv_int hc.1 q (.inl (PyProof.noPylong_of_log2 (BM hc.2)))
theorem dB:gB X (binaryOp .Mult) (rI (λi j=>Nm.B 9000 i/\Nm.B 9000 j) λi j=>.int (i*j)):=Cf λ_ _ _ _ _ _ _ hc q=>mul_int q (IntMulOk.of_bits (xk hc.1) (xk hc.2))
end
def Ci:Expr->Option Int
 | .Constant (.int i) _ _=>some i
 |_=>none
theorem AN {e:Expr}(h:Ci e=some i):∃k p,e = .Constant (.int i) k p:=by
 unfold Ci at h
 split at h
 ·cases h
  exact⟨_,_,rfl⟩
 ·cases h
def uk:List Expr->Option (List Int)
 |[]=>some []
 |e::es=>(Ci e).bind λi=>(uk es).map (i :: ·)
def ER (ns:List Int):TA:=λ_ H Q=>Q (ns.map V.int) H
theorem tI {X:Cx}:∀{es:qk}{ns:List Int},uk es=some ns->PA X es (ER ns)
 |[],ns,h=>by
  cases h
  exact ag
 |x::es,ns,h=>by
  unfold uk at h;obtain⟨i,hi,h⟩:=Option.bind_eq_some_iff.mp h;obtain⟨ms,e,rfl⟩:=Option.map_eq_some_iff.mp h;obtain⟨k,p,rfl⟩:=AN hi;exact ah (ar (j:=k) (pos:=p)) (tI e)
def EC (ns:List Int):TE:=λ_ H Q=>∀p,H p=none->Q (.ref p) (upd H p (.lst (ns.map V.int)))
theorem oQ {X:Cx}{es:qk}{pos:Pos}{ns:List Int}(h:uk es=some ns)(hl:ns.length<=1000):PE X (.List es pos) (EC ns):=by
 intro pins s σ H Q I q;refine cu (tI h) pins s σ H Q I ?_;refine⟨?_,q⟩;rw[List.length_map];exact Nat.le_of_lt (vc hl)
end L2
namespace K66
open PySem L2 PySem.W Nm
abbrev DP:Stmt:=(aS 21)
abbrev uh:Stmt:=(aS 22)
def dW (t b:Int):HO:=.tup [.int t,.int b]
def wJ:Sp:=λvs H Q _=>∃a b:Int,vs=[.int a,.int b]/\Q (.int (eP a b)) H
def mZ:Sp:=λvs H Q _=>∃t b:Int,vs=[.int t,.int b]/\b≠0/\B 9000 b/\∀p,H p=none->Q (.ref p) (upd H p (dW (fW t b) (c7 t b)))
variable {p:Int}
theorem m8 (h:p∈BQ):2<=p/\p<=97:=by
 have:∀q∈BQ,2<=q/\q<=97:=by decide
 exact this p h
variable {P:zr}{w:World}{K:PySem.W.Frag}{mg:vK}{base:Heap}
theorem BF:yx xj xj (ak DP):=dJ (by decide +kernel)
variable {f:Addr}{fd:zI}
theorem Di (F:zA K "common_divisor" "common_divisor" DP f fd)(mA:mg "abs"=none):Ha P w K mg base (aV P w) 1 f fd xj wJ:=by
 refine F.okN BF (λvs H Q E h=>?_) (λHn A outer s H vs Q E hr h=>?_)
 ·obtain⟨a,b,rfl,_⟩:=h;rfl
 ·obtain⟨a,b,rfl,q⟩:=h
  refine⟨_,aj (qQ PassesOwn.never (k9 (pv 1) (λ_=>rfl)) (ao (yU (i:=0) (j:=1) rfl BF.nd rfl rfl (by decide) rfl rfl (ah (pv 1) (ah (aL uD (pv 0) (pv 1)) ag)) rfl)))
   (ao (aB (az lB (by rfl) mA (by rfl) (ah (pv 0) ag)))),?_⟩
  refine⟨λm σ H'=>∃c d:Int,σ=[some (.int c),some (.int d)]/\H'=H/\m=d.natAbs/\Int.gcd c d=Int.gcd a b,⟨_,a,b,rfl,rfl,rfl,rfl⟩,?_⟩;rintro m σ H' ⟨c,d,rfl,rfl,rfl,hg⟩;refine⟨_,rfl,_,rfl,?_⟩;refine dI (λh=>?_) (λh=>?_)
  ·have hd:d≠0:=by simpa using h
   refine⟨λσ' NI=>∃c' d':Int,σ'=[some (.int c'),some (.int d')]/\NI=H'/\d'.natAbs<d.natAbs/\Int.gcd c' d'=Int.gcd a b,λσ' NI ⟨c',d',e1,e2,e3,e4⟩=>⟨_,e3,c',d',e1,e2,rfl,e4⟩,?_⟩;refine⟨_,rfl,_,rfl,_,rfl,_,_,rfl,rfl,hd,_,_,rfl,d,c.fmod d,rfl,rfl,ua c d hd,?_⟩;rw[pU,hg]
  ·have hd:d=0:=by simpa using h
   subst hd;refine⟨_,rfl,c,rfl,?_⟩
   have e:(if c<0 then -c else c)=eP a b:=by
    unfold eP;rw[<-hg];have:=kZ c;unfold ab at this;rw[this];simp
   rw[e];exact q
theorem kn:yx ["top","bottom","divisor"] Ex (ak uh):=dJ (by decide +kernel)
theorem vw {fg:Addr}{IY:zI}(F:zA K "lowest" "lowest" uh f fd)(FG:Ha P w K mg base (aV P w) 1 fg IY xj wJ)(bG:L2.aA K IY xj [])(mG:mg "common_divisor"=some (.ref fg))(kG:keepIn K (.ref fg)=true):
 Ha P w K mg base (aV P w) 2 f fd Ex mZ:=by
 refine F.okN kn (λvs H Q E h=>?_) (λHn A outer s H vs Q E hr h=>?_)
 ·obtain⟨a,b,rfl,_⟩:=h;rfl
 ·obtain⟨t,b,rfl,hb,hB,q⟩:=h
  refine⟨_,aj (ba (aH cR (pv 1) ar (aF _)) (ao (aB (dw (ah (pv 0) (ah ar ag))))) aE)
   (aj (aM (i:=2) kn.nd rfl (Or.inl rfl) (av FG hr (by rfl) mG kG bG .nil af (ah (pv 0) (ah (pv 1) ag))))
   (aj (ba (aH jP (pv 1) ar (aF _)) (ao (aM (i:=2) kn.nd rfl (Or.inl rfl) (uZ oO (pv 2)))) aE)
   (ao (aB (dw (ah (aL gZ (pv 0) (pv 2)) (ah (aL gZ (pv 1) (pv 2)) ag))))))),?_⟩
  refine⟨_,rfl,rfl,_,rfl,?_⟩;refine dI (λh=>?_) (λh=>?_)
  ·have e:b=1:=by simpa using h
   subst e;have z:=qp (t:=t) (b:=1) (by decide) (by simp);refine⟨_,rfl,nj,λp hp=>?_⟩;have y:=q p hp;rw[z.1,z.2] at y;exact y
  ·refine⟨_,rfl,_,rfl,t,b,rfl,?_⟩;refine⟨_,rfl,_,_,rfl,rfl,_,rfl,?_⟩;have gp:=iV (t:=t) hb
   have fin:∀d:Int,d=dv t b->Dy (bH (lW (rI (λ_ j=>j≠0/\Nm.B 9000 j) λi j=>V.int (i.fdiv j)) (cw 0) (cw 2)) (bH (lW (rI (λ_ j=>j≠0/\Nm.B 9000 j) λi j=>V.int (i.fdiv j)) (cw 1) (cw 2)) CP)) [some (.int t),some (.int b),some (.int d)] H Q:=by
    intro d hd
    have Rk:d≠0:=by rw[hd];exact nC hb
    have Xe:B 9000 d:=by rw[hd];exact hB.le (BL hb)
    refine⟨_,rfl,_,rfl,_,_,rfl,rfl,⟨Rk,Xe⟩,_,rfl,_,rfl,_,_,rfl,rfl,⟨Rk,Xe⟩,nj,λp hp=>?_⟩;have y:=q p hp;unfold fW c7 at y;rw[<-hd] at y;exact y
   refine dI (λh2=>?_) (λh2=>?_)
   ·have e:b<0:=by simpa using h2
    exact⟨_,rfl,_,rfl,fin _ (by unfold dv;rw[if_pos e])⟩
   ·have e:¬b<0:=by simpa using h2
    exact fin _ (by unfold dv;rw[if_neg e])
abbrev yE:Stmt:=(aS 11)
abbrev y6:Stmt:=aN (aS 24) 0
inductive Th (H:Hp):V->String->Prop where
 |non:Th H .non "NoneType"
 |bl (b:Bool):Th H (.bl b) "bool"
 |int (i:Int):Th H (.int i) "int"
 |str (x:Str):Th H (.str x) "str"
 |lst {a:Addr}{xs:List V}(e:H a=some (.lst xs)):Th H (.ref a) "list"
 |tup {a:Addr}{xs:List V}(e:H a=some (.tup xs)):Th H (.ref a) "tuple"
 |dK {a:Addr}{Hh:List (Key×V)}(e:H a=some (.dK Hh)):Th H (.ref a) "dict"
variable {K:Frag}{H:Hp}{x:V}{T:String}
theorem Th.ty (h:Th H x T):EW K H x (.type T):=by
 cases h with
 |non=>exact .of .non
 |bl b=>exact .of (.bl b)
 |int i=>exact .of (.int i)
 |str x=>exact .of (.str x)
 |lst e=>exact .of (.lst e)
 |tup e=>exact .of (.tup e)
 |dK e=>exact .of (.dK e)
def eG:V->Bool
 | .int _=>true
 |_=>false
def En:V->Bool
 | .int _=>true
 | .bl _=>true
 |_=>false
theorem Th.isInt (h:Th H x T):kitOne K (.type T) (.type "int")=some (En x):=by cases h <;> rfl
theorem Th.isBool (h:Th H x T)(hi:En x=true):kitOne K (.type T) (.type "bool")=some (!eG x):=by
 cases h with
 |int i=>rfl
 |bl b=>rfl
 |_=>cases hi
def xJ:Sp:=λvs H Q _=>∃x T,vs=[x]/\Th H x T/\Q (.bl (eG x)) H
structure CB (mg:vK):Prop where
 isi:mg "isinstance"=none
 int:mg "int"=none
 bool:mg "bool"=none
theorem AS:yx Cz Cz (ak yE):=dJ (by decide +kernel)
theorem xw (F:zA K "is_whole" "is_whole" yE f fd)(n:CB mg):Ha P w K mg base (aV P w) 1 f fd Cz xJ:=by
 refine F.okN AS (λvs H Q E h=>?_) (λHn A outer s H vs Q E hr h=>?_)
 ·obtain⟨x,T,rfl,_⟩:=h;rfl
 ·obtain⟨x,T,rfl,th,q⟩:=h
  refine⟨_,ao (aB (eU (az aY (by rfl) n.isi (by rfl) (dS (pv 0) (dS (cA (by rfl) n.int (by rfl) (show aD (.ty "int") (.type "int") from rfl)) ag)))
   (gX (CXT (az aY (by rfl) n.isi (by rfl) (dS (pv 0) (dS (cA (by rfl) n.bool (by rfl) (show aD (.ty "bool") (.type "bool") from rfl)) ag))))))),?_⟩
  refine⟨_,rfl,x,.ty "int",_,_,_,rfl,rfl,th.ty,th.isInt,_,rfl,?_⟩;refine dI (λhi=>?_) (λhi=>?_)
  ·refine⟨_,rfl,x,.ty "bool",_,_,_,rfl,rfl,th.ty,th.isBool hi,_,rfl,?_⟩;simpa using q
  ·have e:eG x=false:=by
    cases th <;> first|rfl|exact absurd rfl hi
   rw[e] at q;exact q
def jU (i:Int):Bool:=i==0 || BQ.any λp=>p==i
def good:V->Bool
 | .int i=>jU i
 |_=>false
def cJ (i:Int):List (Str×V):=[("its_prime",.int i)]
def sX (C NF:Addr):Sp:=λvs H Q E=>∃(p dx:Addr)(x:V)(T:String),vs=[.ref p,x]/\Th H x T/\H p=some (.ins C dx [])/\(good x=true->Q .non (upd H p (.ins C dx [("its_prime",x)])))/\(good x=false->E (.ref NF) none H)
structure xV (K:Frag)(mg:vK)(C:Addr):Prop where
 cl:B5 K C
 nP:bV K C "its_prime"
 mgC:mg "Field"=some (.ref C)
 isC:((clsIn K C).isSome&&typeIn K (.ref C)==some (.type "type"))=true
 ca:findIn K (.ref C) "__class__"=some (some (.builtin "object.__class__"))
 sp:specialIn K (.builtin "object.__class__") "__get__"=some (some (.builtin "getset_descriptor.__get__"))
 tk:takesIn K (.builtin "object.__class__")=some true
 ob:mroIn K C (.type "object")=some true
variable {mg:vK}{C:Addr}
theorem xV.ty (c:xV K mg C){p dx:Addr}{fs:List (Str×V)}(e:H p=some (.ins C dx fs)):EW K H (.ref p) (.ref C):=.of (.ins e c.cl c.ca c.sp c.tk c.ob)
theorem xV.is (c:xV K mg C):kitOne K (.ref C) (.ref C)=some true:=by
 unfold kitOne;rw[if_pos (by simp)]
theorem xV.no (c:xV K mg C)(h:Th H x T):kitOne K (.type T) (.ref C)=some false:=by
 show(if(Value.type T==Value.ref C)=true then some true else(if((clsIn K C).isSome&&typeIn K (.ref C)==some (.type "type"))=true then subIn K (.type T) (.ref C) else none))=some false;rw[if_neg (by intro z;cases beq_iff_eq.mp z),if_pos c.isC]
 cases h <;> rfl
theorem lh (i:Int):Bt (.int i) (BQ.map V.int)=BQ.any λp=>p==i:=by
 unfold Bt;rw[List.any_map];rfl
theorem BR:yx zx zx (ak y6):=dJ (by decide +kernel)
theorem A3 {fw NF aP T:Addr}{Jw:zI}{tF:Tok}(F:Fg K "__init__" "Field.__init__" y6 f fd T)(c:xV K mg C)(FW:Ha P w K mg base (aV P w) 1 fw Jw Cz xJ)(bW:aA K Jw Cz [])(mW:mg "is_whole"=some (.ref fw))(kW:keepIn K (.ref fw)=true)
 (mF:mg "FRACTIONS"=some (.int 0 tF))(mP:mg "PRIMES"=some (.ref aP))(hP:∀H:Hp,bw K H aP (BQ.map V.int))(mN:mg "NoField"=some (.ref NF))(qN:vC K NF EH yh=true):Ha P w K mg base (aV P w) 2 f fd zx (sX C NF):=by
 refine F.okE BR (λvs H Q E h=>?_) (λHn A outer s H vs Q E hr h=>?_)
 ·obtain⟨p,dx,x,T,rfl,_⟩:=h;rfl
 ·obtain⟨p,dx,x,T,rfl,th,hp,hq,hE⟩:=h
  refine⟨_,aj (ba (PW.pt (dO (bJ (bD (av FW hr (by rfl) mW kW bW .nil af (dS (pv 1) ag))))
   (cN (PW.pt (oz (aH jW (pv 1) (c5 (by rfl) mF (show aD (.int 0) (.int 0 tF) from⟨_,rfl⟩)) (aF _)) (oP (aH je (pv 1) (c5 (by rfl) mP (show aD (.ref aP) (.ref aP) from rfl)) (by rfl))))))))
   (ao (qy PySem.F.excBase_ValueError qN rfl ml (by rfl) mN (dS gr ag))) aE)
   (ao (gJ (pv 0) (pv 1) rfl)),?_⟩
  have fin:good x=true->∃(a C' Xf:Addr)(fs:List (Str×V)),V.ref p=.ref a/\H a=some (.ins C' Xf fs)/\B5 K C'/\bV K C' "its_prime"/\fs.length<1000/\Q .non (upd H a (.ins C' Xf (cf "its_prime" x fs))):=λg=>⟨p,C,dx,[],rfl,hp,c.cl,c.nP,by decide,hq g⟩;refine⟨_,rfl,x,T,rfl,th,_,rfl,?_⟩
  cases th with
  |int i =>
   refine a9 ?_;refine⟨_,rfl,rfl,_,rfl,?_⟩;refine dI (λh0=>?_) (λh0=>?_)
   ·refine⟨_,rfl,aP,_,rfl,.inr (hP _),rfl,rfl,_,rfl,?_⟩;refine dI (λh1=>?_) (λh1=>?_)
    ·refine⟨by decide,hE ?_⟩
     have e1:¬i=0:=by simpa using h0
     have e2:Bt (.int i) (BQ.map V.int)=false:=by simpa using h1
     rw[lh] at e2;show jU i=false;unfold jU;rw[e2];simpa using e1
    ·have e2:Bt (.int i) (BQ.map V.int)=true:=by simpa using h1
     rw[lh] at e2;exact⟨_,rfl,_,rfl,fin (by show jU i=true;unfold jU;rw[e2];simp)⟩
   ·have e1:i=0:=by simpa using h0
    exact a9 ⟨_,rfl,_,rfl,fin (by show jU i=true;rw[e1];rfl)⟩
  |_=>exact aZ (aZ ⟨by decide,hE rfl⟩)
abbrev By:Stmt:=aN (aS 24) 6
abbrev qH:Stmt:=aN (aS 24) 10
def FP (p:Int):Prop:=p=0\/p∈BQ
theorem FP.nn (h:FP p):0<=p:=by
 rcases h with h|h
 ·omega
 ·have:=m8 h;omega
theorem FP.two (h:FP p)(z:p≠0):p∈BQ/\2<=p/\p<=97:=by
 rcases h with h|h
 ·exact absurd h z
 ·exact⟨h,m8 h⟩
def nk (C:Addr):Sp:=λvs H Q _=>∃(s dx:Addr)(p t b:Int),vs=[.ref s,.int t,.int b]/\H s=some (.ins C dx (cJ p))/\FP p/\B 9000 b/\b≠0/\∀a,H a=none->Q (.ref a) (upd H a (dW (iD p t b) (iL p t b)))
def Bw (C:Addr)(g:Int->Int->Int->Int->Int):Sp:=λvs H Q _=>∃(s dx a1 a2:Addr)(p t1 b1 t2 b2:Int),vs=[.ref s,.ref a1,.ref a2]/\H s=some (.ins C dx (cJ p))/\FP p/\H a1=some (dW t1 b1)/\H a2=some (dW t2 b2) /\
 B 4000 t1/\B 4000 b1/\B 4000 t2/\B 4000 b2/\b1≠0/\b2≠0/\∀a,H a=none->Q (.ref a) (upd H a (dW (iD p (g t1 b1 t2 b2) (b1*b2)) (iL p (g t1 b1 t2 b2) (b1*b2))))
def mh (t1 b1 t2 b2:Int):Int:=t1*b2+t2*b1
theorem wA:yx vT vT (ak qH):=dJ (by decide +kernel)
theorem sk {fl:Addr}{JS:zI}{tF:Tok}(F:zA K "settled" "Field.settled" qH f fd)(c:xV K mg C)(mF:mg "FRACTIONS"=some (.int 0 tF))
 (FL:Ha P w K mg base (aV P w) 2 fl JS Ex mZ)(bL:L2.aA K JS Ex [])(mL:mg "lowest"=some (.ref fl))(kL:keepIn K (.ref fl)=true):
 Ha P w K mg base (aV P w) 3 f fd vT (nk C):=by
 refine F.okN wA (λvs H Q E h=>?_) (λHn A outer s H vs Q E hr h=>?_)
 ·obtain⟨s,dx,p,t,b,rfl,_⟩:=h;rfl
 ·obtain⟨s,dx,p,t,b,rfl,hs,hp,hB,hb,q⟩:=h
  refine⟨_,aj (ba (aH cR (b7 (pv 0) rfl) (c5 (by rfl) mF (show aD (.int 0) (.int 0 tF) from⟨_,rfl⟩)) (aF _))
   (ao (aB (av FL hr (by rfl) mL kL bL .nil af (ah (pv 1) (ah (pv 2) ag))))) aE)
   (ao (aB (dw (ah (aL dN (pv 1) (b7 (pv 0) rfl)) (ah ar ag))))),?_⟩
  refine⟨_,rfl,s,C,dx,_,_,rfl,hs,c.cl,c.nP,rfl,rfl,_,rfl,?_⟩;refine dI (λh=>?_) (λh=>?_)
  ·have HQ:p=0:=by simpa using h
   refine⟨_,rfl,_,rfl,t,b,rfl,hb,hB,λa ha=>?_⟩;have y:=q a ha;unfold iD iL at y;rw[if_pos HQ,if_pos HQ] at y;exact y
  ·have HQ:p≠0:=by simpa using h
   obtain⟨Rl,p2,SJ⟩:=hp.two HQ;refine⟨_,rfl,_,rfl,s,C,dx,_,_,rfl,hs,c.cl,c.nP,rfl,_,_,rfl,rfl,(by show(0:Int)<p;omega),nj,λa ha=>?_⟩;have y:=q a ha;unfold iD iL at y;rw[if_neg HQ,if_neg HQ] at y;exact y
theorem a0 (x y:V):ng [x,y] 0=some x:=rfl
theorem a1 (x y:V):ng [x,y] 1=some y:=rfl
theorem Da:yx rY rY (ak By):=dJ (by decide +kernel)
theorem xq {a b:Int}(h:a≠0)(k:b≠0):a*b≠0:=Int.mul_ne_zero h k
theorem Bc {fs:Addr}{NJ:zI}(F:zA K "plus" "Field.plus" By f fd)(c:xV K mg C)(FS:Ha P w K mg base (aV P w) 3 fs NJ vT (nk C))(bS:L2.aA K NJ vT [])(mS:L2.Meth K C "settled" fs):
 Ha P w K mg base (aV P w) 4 f fd rY (Bw C mh):=by
 refine F.okN Da (λvs H Q E h=>?_) (λHn A outer s H vs Q E hr h=>?_)
 ·obtain⟨s,dx,a1,a2,p,t1,b1,t2,b2,rfl,_⟩:=h;rfl
 ·obtain⟨s,dx,x1,x2,p,t1,b1,t2,b2,rfl,hs,hp,h1,h2,B1,B2,B3,B4,n1,n2,q⟩:=h;refine⟨_,ao (aB (ip (pv 0) c.cl mS FS hr bS .nil af (ah (aL cW (aL dB (bq bX (pv 1) ar (λ_ _=>rfl)) (bq bX (pv 2) ar (λ_ _=>rfl))) (aL dB (bq bX (pv 2) ar (λ_ _=>rfl)) (bq bX (pv 1) ar (λ_ _=>rfl)))) (ah (aL dB (bq bX (pv 1) ar (λ_ _=>rfl)) (bq bX (pv 2) ar (λ_ _=>rfl))) ag)))),?_⟩;refine⟨_,rfl,s,dx,_,rfl,hs,rfl,?_⟩;refine⟨_,rfl,x1,_,0,_,rfl,rfl,bw.of h1,a0 _ _,_,rfl,x2,_,1,_,rfl,rfl,bw.of h2,a1 _ _,_,_,rfl,rfl,⟨B1.mono (by decide),B4.mono (by decide)⟩,?_⟩;refine⟨_,rfl,x2,_,0,_,rfl,rfl,bw.of h2,a0 _ _,_,rfl,x1,_,1,_,rfl,rfl,bw.of h1,a1 _ _,_,_,rfl,rfl,⟨B3.mono (by decide),B2.mono (by decide)⟩,_,_,rfl,rfl,?_⟩;refine⟨_,rfl,x1,_,1,_,rfl,rfl,bw.of h1,a1 _ _,_,rfl,x2,_,1,_,rfl,rfl,bw.of h2,a1 _ _,_,_,rfl,rfl,⟨B2.mono (by decide),B4.mono (by decide)⟩,?_⟩;exact⟨s,dx,p,_,_,rfl,hs,hp,(B2.mul B4).mono (by decide),xq n1 n2,q⟩
abbrev BK:Stmt:=(aS 47)
abbrev BG:Stmt:=(aS 48)
theorem ai {a:Addr}{o:HO}(h:H a=none):aw H (upd H a o):=λb u e=>by rw[aq (au e h)];exact e
def wH (K:PySem.W.Frag):Sp:=λvs H Q _=>∃(a:Addr)(ns:List Int)(k:Int),vs=[.ref a,.int k]/\aO K H a (ns.map V.int)/\ns.length<=63/\0<=k/\k<=63 /\
 ∀(p:Addr)(l r:Int),H p=none->0<=r->r<2147483647->Q (.ref p) (upd H p (.lst [.int l,.int r]))
def v8:Sp:=λvs H Q _=>∃(p:Addr)(l r m:Int),vs=[.ref p,.int m]/\H p=some (.lst [.int l,.int r])/\0<=r/\r<2147483647/\0<m/\m<18446744073709551616 /\
 ∀(z l' r':Int),0<=z->z<m->0<=r'->r'<2147483647->Q (.int z) (upd H p (.lst [.int l',.int r']))
theorem lJ:yx ["_law_script","_law_k","_law_cell","_law_seed"] vG (ak BK):=dJ (by decide +kernel)
theorem xQ:yx ["_law_pool_here","_law_many","_law_found"] qT (ak BG):=dJ (by decide +kernel)
theorem qo {Q:VK}{k c:Int}{x y:Option V}(LM:0<=k)(SK:k<=63)(q:∀(p:Addr)(l r:Int),H p=none->0<=r->r<2147483647->Q (.ref p) (upd H p (.lst [.int l,.int r]))):
 xI (vF (lW (rI (λ_ j=>0<j) λi j=>.int (i%j)) (lW (rI rF λi j=>.int (i*j)) (lW (tV λi j=>.int (i+j)) (lW (tV λi j=>.int (i+j)) (lW (rI (λ_ j=>0<j) λi j=>.int (i%j)) (cw 2) (tC (.int 2147483629))) (lW (rI rF λi j=>.int (i*j)) (lW (rI rF λi j=>.int (i*j)) (tC (.int 7919)) (cw 1)) (cw 1))) (tC (.int 11))) (tC (.int 48271))) (tC (.int 2147483647))) (bA 3))
  (xI (xc (qJ (lW (tV λi j=>.bl (decide (i<j))) (cw 2) (lW (rI DE λi j=>.int (i^j.toNat)) (tC (.int 10)) (tC (.int 18))))) (vF (tC (.int 0)) (bA 2)) wW)
  (Bo (EJ (bH (cw 2) (bH (lW (tV λi j=>.int (i+j)) (lW (rI (λ_ j=>0<j) λi j=>.int (i%j)) (lW (rI rF λi j=>.int (i*j)) (cw 3) (cw 3)) (tC (.int 2147483587))) (tC (.int 1))) CP)))))
  {nx:=λ_ H'=>Q .non H',rt:=Q} [x,some (.int k),some (.int c),y] H:=by
 have e1:∀t:Int,0<=t%2147483647/\t%2147483647<2147483647:=λt=>⟨Int.emod_nonneg _ (by decide),Int.emod_lt_of_pos _ (by decide)⟩;have e2:∀t:Int,0<=t%2147483587/\t%2147483587<2147483587:=λt=>⟨Int.emod_nonneg _ (by decide),Int.emod_lt_of_pos _ (by decide)⟩;refine⟨_,rfl,_,_,rfl,rfl,(by show(0:Int)<2147483629;decide),_,rfl,_,_,rfl,rfl,.inl ⟨by decide,by decide⟩,_,rfl,_,_,rfl,rfl,.inl ⟨by omega,by omega⟩,_,_,rfl,rfl,_,_,rfl,rfl,_,_,rfl,rfl,.inr ⟨by decide,by decide⟩,_,_,rfl,rfl,(by show(0:Int)<2147483647;decide),?_⟩;refine⟨_,rfl,_,_,rfl,rfl,⟨by decide,by decide,by decide⟩,_,_,rfl,rfl,_,rfl,?_⟩;refine dI (λh=>?_) (λh=>?_)
 ·refine⟨_,rfl,_,rfl,_,rfl,_,_,rfl,rfl,.inl ⟨by have:=e1 ((c%2147483629+7919*k*k+11)*48271);omega,by have:=e1 ((c%2147483629+7919*k*k+11)*48271);omega⟩,_,_,rfl,rfl,(by show(0:Int)<2147483587;decide),_,_,rfl,rfl,nj,λp hp=>?_⟩;exact q p _ _ hp (by have:=e2 (((c%2147483629+7919*k*k+11)*48271%2147483647)*((c%2147483629+7919*k*k+11)*48271%2147483647));omega) (by have:=e2 (((c%2147483629+7919*k*k+11)*48271%2147483647)*((c%2147483629+7919*k*k+11)*48271%2147483647));omega)
 ·refine⟨_,rfl,_,rfl,_,rfl,_,_,rfl,rfl,.inl ⟨by have:=e1 ((c%2147483629+7919*k*k+11)*48271);omega,by have:=e1 ((c%2147483629+7919*k*k+11)*48271);omega⟩,_,_,rfl,rfl,(by show(0:Int)<2147483587;decide),_,_,rfl,rfl,nj,λp hp=>?_⟩;exact q p _ _ hp (by have:=e2 (((c%2147483629+7919*k*k+11)*48271%2147483647)*((c%2147483629+7919*k*k+11)*48271%2147483647));omega) (by have:=e2 (((c%2147483629+7919*k*k+11)*48271%2147483647)*((c%2147483629+7919*k*k+11)*48271%2147483647));omega)
theorem zL (F:zA K "_law_pool" "_law_pool" BK f fd)(Hr:mg "len"=none):Ha P w K mg base (aV P w) 1 f fd vG (wH K):=by
 refine F.okN lJ (λvs H Q E h=>?_) (λHn A outer s H vs Q E hr h=>?_)
 ·obtain⟨a,ns,k,rfl,_⟩:=h;rfl
 ·obtain⟨a,ns,k,rfl,hS,hn,LM,SK,q⟩:=h
  refine⟨_,(aj (@aM _ _ 2 _ _ _ _ lJ.nd rfl (Or.inl rfl) ar rfl (Or.inl rfl))
   (aj (ba (@aH _ _ _ _ _ _ _ _ jP (pv 1) (az aW (by rfl) Hr PySem.boot_len (@ah _ _ _ _ _ (pv 0) ag rfl)) (aF _)) (ao (@aM _ _ 2 _ _ _ _ lJ.nd rfl (Or.inl rfl) (@bq _ _ _ _ _ _ _ cb (pv 0) (pv 1) (λ_ _=>rfl)) rfl (Or.inl rfl))) aE)
   (aj (@aM _ _ 3 _ _ _ _ lJ.nd rfl (Or.inl rfl) (@aL _ _ _ _ _ _ _ _ dN (@aL _ _ _ _ _ _ _ _ jE (@aL _ _ _ _ _ _ _ _ cW (@aL _ _ _ _ _ _ _ _ cW (@aL _ _ _ _ _ _ _ _ dN (pv 2) ar) (@aL _ _ _ _ _ _ _ _ jE (@aL _ _ _ _ _ _ _ _ jE ar (pv 1)) (pv 1))) ar) ar) ar) rfl (Or.inl rfl))
   (aj (ba (@aH _ _ _ _ _ _ _ _ jP (pv 2) (@aL _ _ _ _ _ _ _ _ yB ar ar) (aF _)) (ao (@aM _ _ 2 _ _ _ _ lJ.nd rfl (Or.inl rfl) ar rfl (Or.inl rfl))) aE)
   (ao (aB (@cu _ _ _ _ (@ah _ _ _ _ _ (pv 2) (@ah _ _ _ _ _ (@aL _ _ _ _ _ _ _ _ cW (@aL _ _ _ _ _ _ _ _ dN (@aL _ _ _ _ _ _ _ _ jE (pv 3) (pv 3)) ar) ar) ag rfl) rfl)))))))),?_⟩
  refine⟨_,rfl,_,rfl,a,_,rfl,.inl hS,_,_,rfl,rfl,_,rfl,?_⟩;refine dI (λh=>?_) (λh=>qo LM SK q)
  have Hx:k.toNat<ns.length:=by
   have h1:=of_decide_eq_true h;rw[List.length_map] at h1;omega
  have e:((k.toNat:Nat):Int)=k:=by omega
  have z:=pE (xs:=ns.map V.int) (j:=k.toNat) (v:=V.int ns[k.toNat]) (by rw[List.getElem?_map];simp[Hx]);rw[e] at z;exact⟨_,rfl,_,rfl,a,_,k,_,rfl,rfl,hS,z,qo LM SK q⟩
theorem Au (F:zA K "_law_take" "_law_take" BG f fd):Ha P w K mg base (aV P w) 1 f fd qT v8:=by
 refine F.okN xQ (λvs H Q E h=>?_) (λHn A outer s H vs Q E hr h=>?_)
 ·obtain⟨p,l,r,m,rfl,_⟩:=h;rfl
 ·obtain⟨p,l,r,m,rfl,hp,Rm,Hu,Rn,hm1,q⟩:=h
  refine⟨_,(aj (ba (@aH _ _ _ _ _ _ _ _ tL (@bq _ _ _ _ _ _ _ cb (pv 0) ar (λ_ _=>rfl)) ar (aF _)) (aj (@aM _ _ 2 _ _ _ _ xQ.nd rfl (Or.inl rfl) (@aL _ _ _ _ _ _ _ _ dN (@bq _ _ _ _ _ _ _ cb (pv 0) ar (λ_ _=>rfl)) (pv 1)) rfl (Or.inl rfl))
   (aj (tj (@aL _ _ _ _ _ _ _ _ gZ (@bq _ _ _ _ _ _ _ cb (pv 0) ar (λ_ _=>rfl)) (pv 1)) (yO (pv 0) ar qB))
   (ao (aB (pv 2))))) aE)
   (aj (tj (@aL _ _ _ _ _ _ _ _ dN (@aL _ _ _ _ _ _ _ _ cW (@aL _ _ _ _ _ _ _ _ jE (@bq _ _ _ _ _ _ _ cb (pv 0) ar (λ_ _=>rfl)) ar) ar) ar) (yO (pv 0) ar qB))
   (ao (aB (@aL _ _ _ _ _ _ _ _ dN (@aL _ _ _ _ _ _ _ _ aa6 (@aL _ _ _ _ _ _ _ _ dN (@aL _ _ _ _ _ _ _ _ jE (@bq _ _ _ _ _ _ _ cb (pv 0) ar (λ_ _=>rfl)) (@bq _ _ _ _ _ _ _ cb (pv 0) ar (λ_ _=>rfl))) ar) ar) (pv 1)))))),?_⟩
  have i0:∀x y:V,ng [x,y] 0=some x:=λ_ _=>rfl;have i1:∀x y:V,ng [x,y] 1=some y:=λ_ _=>rfl;have n0:wB [V.int l,V.int r].length 0=some 0:=rfl;have n1:∀x y:V,wB [x,y].length 1=some 1:=λ_ _=>rfl;refine⟨_,rfl,p,_,0,_,rfl,rfl,aO.of hp,i0 _ _,_,_,rfl,rfl,_,rfl,?_⟩;refine dI (λh=>?_) (λh=>?_)
  ·refine⟨_,rfl,p,_,0,_,rfl,rfl,aO.of hp,i0 _ _,_,rfl,_,_,rfl,rfl,Rn,?_⟩;refine⟨_,rfl,p,_,0,_,rfl,rfl,aO.of hp,i0 _ _,_,rfl,_,_,rfl,rfl,⟨by omega,(show B 64 m from(by show m.natAbs<2^64;omega)).mono (by decide)⟩,_,rfl,p,_,0,0,rfl,rfl,hp,n0,?_⟩;exact⟨_,rfl,q _ _ _ (Int.emod_nonneg _ (by omega)) (Int.emod_lt_of_pos _ Rn) Rm Hu⟩
  ·have e1:∀t:Int,0<=t%2147483647/\t%2147483647<2147483647:=λt=>⟨Int.emod_nonneg _ (by decide),Int.emod_lt_of_pos _ (by decide)⟩;refine⟨_,rfl,p,_,1,_,rfl,rfl,aO.of hp,i1 _ _,_,_,rfl,rfl,.inl ⟨by omega,by omega⟩,_,_,rfl,rfl,_,_,rfl,rfl,(by show(0:Int)<2147483647;decide),_,rfl,p,_,1,1,rfl,rfl,hp,n1 _ _,?_⟩;refine⟨_,rfl,p,_,1,_,rfl,rfl,aO.of ae,i1 _ _,_,rfl,p,_,1,_,rfl,rfl,aO.of ae,i1 _ _,_,_,rfl,rfl,.inl ⟨by omega,by omega⟩,_,_,rfl,rfl,(by show(0:Int)<2147483629;decide),_,_,rfl,rfl,⟨by decide,by decide⟩,_,rfl,_,_,rfl,rfl,Rn,?_⟩;exact q _ _ _ (Int.emod_nonneg _ (by omega)) (Int.emod_lt_of_pos _ Rn) (e1 _).1 (e1 _).2
end K66
namespace L2
open PySem
variable {H:Hp}
theorem mD {σ:St}{A B:Hp->Prop}(h:A H):DF σ H λb H4=>if b=true then A H4 else B H4:=h
variable {tt:TT}{te:TE}{rest:St}
theorem kh {J:It}{n:Nat}{at_:Nat->V->Prop}{F:List V->Hp->Prop}(Pv:Nat->List V->Hp->Prop)(h0:Pv 0 [] H)
 (hz:∀i ys H',i<=n->Pv i ys H'->ys.length<sizeLine/\(i<n->J.go i H')/\(i=n->J.stop i H')/\∀x H2,J.yld i H' x H2->H2=H'/\at_ i x)
 (hs:∀i x ys H' (N:List V->Hp->Prop),i<n->at_ i x->Pv i ys H'->(∀zs H5,Pv (i+1) zs H5->N zs H5) →
  tt (some x::rest) H' λb H4=>if b=true then te (some x::rest) H4 λy H5=>N (ys++[y]) H5 else N ys H4)
 (hd:∀ys H',Pv n ys H'->F ys H'):
 ∃W:Nat->Nat->List V->St->Hp->Prop,(∃m,W 0 m [] (none::rest) H)/\hV J (bA 0) tt te W F:=by
 refine⟨λi m ys σ H'=>m=n-i/\i<=n/\Pv i ys H'/\∃o,σ=o::rest,⟨n,by simp,Nat.zero_le _,h0,none,rfl⟩,?_⟩;rintro i m ys σ H' ⟨rfl,hi,p,o,rfl⟩;obtain⟨z1,z2,z3,z4⟩:=hz i ys H' hi p;refine⟨z1,?_⟩
 by_cases Hx:i<n
 ·refine .inr ⟨z2 Hx,λx H2 hy=>?_⟩;obtain⟨rfl,hx⟩:=z4 x H2 hy;exact hs i x ys H2 (λzs H5=>∃m',m'<n-i/\m'=n-(i+1)/\i+1<=n/\Pv (i+1) zs H5/\∃o',(some x::rest:St)=o'::rest) Hx hx p λzs H5 h=>⟨n-(i+1),by omega,rfl,Hx,h,_,rfl⟩
 ·have:i=n:=by omega
  subst this;exact .inl ⟨z3 rfl,hd ys H' p⟩
variable {K:PySem.W.Frag}
theorem qW {a:Addr}{xs:List V}{F:List V->Hp->Prop}(Pv:Nat->List V->Hp->Prop)(h0:Pv 0 [] H)
 (hz:∀i ys H',i<=xs.length->Pv i ys H'->ys.length<sizeLine/\bw K H' a xs)
 (hs:∀i x ys H' (N:List V->Hp->Prop),i<xs.length->xs[i]?=some x->Pv i ys H'->(∀zs H5,Pv (i+1) zs H5->N zs H5) →
  tt (some x::rest) H' λb H4=>if b=true then te (some x::rest) H4 λy H5=>N (ys++[y]) H5 else N ys H4)
 (hd:∀ys H',Pv xs.length ys H'->F ys H'):
 ∃W:Nat->Nat->List V->St->Hp->Prop,(∃m,W 0 m [] (none::rest) H)/\hV (FN K a) (bA 0) tt te W F:=by
 refine kh (n:=xs.length) (at_:=λi x=>xs[i]?=some x) Pv h0 (λi ys H' hi p=>?_) hs hd;obtain⟨z1,z2⟩:=hz i ys H' hi p;exact⟨z1,λh=>⟨xs,xs[i],z2,by simp[h]⟩,λh=>⟨xs,z2,by omega⟩,λx H2 hy=>⟨hy.1,hy.2 xs z2⟩⟩
theorem fR {a:Addr}{xs:List V}{rest:St}{F:List V->Hp->Prop}(Pv:Nat->List V->Hp->Prop)(h0:Pv 0 [] H)
 (hz:∀i ys H',i<=xs.length->Pv i ys H'->ys.length<sizeLine/\aO K H' a xs)
 (hs:∀i x ys H' (N:List V->Hp->Prop),i<xs.length->xs[i]?=some x->Pv i ys H'->(∀zs H5,Pv (i+1) zs H5->N zs H5) →
  tt (some x::rest) H' λb H4=>if b=true then te (some x::rest) H4 λy H5=>N (ys++[y]) H5 else N ys H4)
 (hd:∀ys H',Pv xs.length ys H'->F ys H'):
 ∃W:Nat->Nat->List V->St->Hp->Prop,(∃m,W 0 m [] (none::rest) H)/\hV (zD K a) (bA 0) tt te W F:=by
 refine kh (n:=xs.length) (at_:=λi x=>xs[i]?=some x) Pv h0 (λi ys H' hi p=>?_) hs hd;obtain⟨z1,z2⟩:=hz i ys H' hi p;exact⟨z1,λh=>⟨xs,xs[i],z2,by simp[h]⟩,λh=>⟨xs,z2,by omega⟩,λx H2 hy=>⟨hy.1,hy.2 xs z2⟩⟩
theorem qO {lo:Int}{n:Nat}{rest:St}{F:List V->Hp->Prop}(Pv:Nat->List V->Hp->Prop)(h0:Pv 0 [] H)
 (hz:∀i ys H',i<=n->Pv i ys H'->ys.length<sizeLine)
 (hs:∀i ys H' (N:List V->Hp->Prop),i<n->Pv i ys H'->(∀zs H5,Pv (i+1) zs H5->N zs H5) →
  tt (some (.int (lo+i)):: rest) H' λb H4=>if b=true then te (some (.int (lo+i)):: rest) H4 λy H5=>N (ys++[y]) H5 else N ys H4)
 (hd:∀ys H',Pv n ys H'->F ys H'):
 ∃W:Nat->Nat->List V->St->Hp->Prop,(∃m,W 0 m [] (none::rest) H)/\hV (BI lo n) (bA 0) tt te W F:=by
 refine kh (n:=n) (at_:=λi x=>x=.int (lo+i)) Pv h0 (λi ys H' hi p=>?_) (λi x ys H' N h1 h2=>by subst h2;exact hs i ys H' N h1) hd;exact⟨hz i ys H' hi p,λh=>h,λh=>by show n<=i;omega,λx H2 hy=>hy⟩
theorem nc {a:Addr}{xs:List V}{F:List V->Hp->Prop}(Pv:Nat->List V->Hp->Prop)(h0:Pv 0 [] H)
 (hz:∀i ys H',i<=xs.length->Pv i ys H'->ys.length<sizeLine/\aO K H' a xs)
 (hs:∀i x ys H',i<xs.length->xs[i]?=some x->Pv i ys H' →
  ∃b u v,x=.ref b/\bw K H' b [u,v]/\∀(N:List V->Hp->Prop),(∀zs H5,Pv (i+1) zs H5->N zs H5)->tt (some u::some v::rest) H' λb H4=>if b=true then te (some u::some v::rest) H4 λy H5=>N (ys++[y]) H5 else N ys H4)
 (hd:∀ys H',Pv xs.length ys H'->F ys H'):
 ∃W:Nat->Nat->List V->St->Hp->Prop,(∃m,W 0 m [] (none::none::rest) H)/\hV (zD K a) (pY K 2 (eQ (bA 0) (eQ (bA 1) As))) tt te W F:=by
 refine⟨λi m ys σ H'=>m=xs.length-i/\i<=xs.length/\Pv i ys H'/\∃o o2,σ=o::o2::rest,⟨xs.length,by simp,Nat.zero_le _,h0,none,none,rfl⟩,?_⟩;rintro i m ys σ H' ⟨rfl,hi,p,o,o2,rfl⟩;obtain⟨z1,z2⟩:=hz i ys H' hi p;refine⟨z1,?_⟩
 by_cases Hx:i<xs.length
 ·refine .inr ⟨⟨xs,xs[i],z2,by simp[Hx]⟩,λx H2 hy=>?_⟩;obtain⟨rfl,hx⟩:=hy;obtain⟨b,u,v,rfl,hb,h⟩:=hs i x ys H2 Hx (hx xs z2) p;exact⟨_,[u,v],rfl,hb,rfl,_,_,rfl,_,_,rfl,rfl,h (λzs H5=>∃m',m'<xs.length-i/\m'=xs.length-(i+1)/\i+1<=xs.length/\Pv (i+1) zs H5/\∃o o2,(some u::some v::rest:St)=o::o2::rest) λzs H5 h=>⟨xs.length-(i+1),by omega,rfl,Hx,h,_,_,rfl⟩⟩
 ·have:i=xs.length:=by omega
  subst this;exact .inl ⟨⟨xs,z2,Nat.le_refl _⟩,hd ys H' p⟩
end L2
namespace K66
open PySem L2 PySem.W Nm
abbrev Bx:Stmt:=(aS 49)
abbrev xE:Stmt:=(aS 50)
abbrev wY:Stmt:=(aS 51)
def BE (H:Hp)(Q:VK)(t b:Int):Prop:=∀(H':Hp)(a:Addr),aw H H'->H' a=some (dW t b)->Q (.ref a) H'
variable {H:Hp}{b:Int}
theorem BE.of {H':Hp}{Q:VK}{t:Int}(q:BE H Q t b)(S:aw H H'):∀a,H' a=none->Q (.ref a) (upd H' a (dW t b)):=λa ha=>q _ a (S.trans (ai ha)) ae
def rR:Sp:=λvs H Q _=>∃t b:Int,vs=[.int t,.int b]/\b≠0/\B 9000 b/\B 9000 t/\BE H Q (fW t b) (c7 t b)
def CT:Sp:=λvs H Q _=>∃p t b:Int,vs=[.int p,.int t,.int b]/\FP p/\b≠0/\B 9000 b/\B 9000 t/\(((p≠0->b=1)/\BE H Q (iD p t b) (iL p t b))\/(p≠0/\(b=2\/b=3)/\b%p≠0/\∀v,0<=v->v<p->BE H Q v 1))
def xS (g:Int->Int->Int->Int->Int):Sp:=λvs H Q _=>∃(p t1 b1 t2 b2:Int)(a1 a2:Addr),vs=[.int p,.ref a1,.ref a2]/\FP p/\H a1=some (dW t1 b1)/\H a2=some (dW t2 b2)/\B 4000 t1/\B 4000 b1/\B 4000 t2/\B 4000 b2/\b1≠0/\b2≠0/\(p≠0->b1*b2=1) /\
 BE H Q (iD p (g t1 b1 t2 b2) (b1*b2)) (iL p (g t1 b1 t2 b2) (b1*b2))
theorem lL:yx ["_law_top","_law_bottom","_law_one","_law_other"] Gd (ak Bx):=dJ (by decide +kernel)
theorem xT:yx ["_law_prime_here","_law_top","_law_bottom","_law_back"] vD (ak xE):=dJ (by decide +kernel)
theorem Ae:yx rQ rQ (ak wY):=dJ (by decide +kernel)
def fj (p b:Int)(n:Nat):List Int:=((List.range n).map λi:Nat=>1+(i:Int)).filter λk=>b*k%p==1
theorem k7 (p b:Int)(n:Nat):fj p b (n+1)=fj p b n++[1+(n:Int)].filter λk=>b*k%p==1:=by
 unfold fj;rw[List.range_succ,List.map_append,List.filter_append];rfl
variable {p:Int}
theorem u7 {n:Nat}(h:b*(1+(n:Int))%p=1):fj p b (n+1)=fj p b n++[1+(n:Int)]:=by
 rw[k7];simp[h]
theorem yC {n:Nat}(h:¬b*(1+(n:Int))%p=1):fj p b (n+1)=fj p b n:=by
 rw[k7];simp[h]
theorem wb (p b:Int)(n:Nat):(fj p b n).length<=n:=by
 unfold fj;refine Nat.le_trans (List.length_filter_le _ _) ?_;simp
theorem yc {p b v:Int}{n:Nat}(hn:p-1<=n)(v1:v<p)(v0:0<v)(hv:b*v%p=1):∃z rest,fj p b n=z::rest/\0<=z/\z<n+1/\b*z%p=1:=by
 have mem:v∈fj p b n:=List.mem_filter.mpr ⟨List.mem_map.mpr ⟨(v-1).toNat,List.mem_range.mpr (by omega),by omega⟩,by simp[hv]⟩
 cases e:fj p b n with
 |nil=>rw[e] at mem;cases mem
 |cons z rest =>
  have mz:z∈fj p b n:=by rw[e];exact List.mem_cons_self
  obtain⟨m1,m2⟩:=List.mem_filter.mp mz;obtain⟨i,hi,rfl⟩:=List.mem_map.mp m1;have:=List.mem_range.mp hi;exact⟨_,rest,rfl,by omega,by omega,by simpa using m2⟩
theorem zF (hp:p∈BQ)(b0:0<b)(b4:b<4)(hb:b%p≠0):∃v,0<v/\v<p/\b*v%p=1:=by
 have key:∀q∈BQ,∀c∈[(1:Int),2,3],c%q≠0->((List.range 97).any λi:Nat=>decide (1+(i:Int)<q)&&(c*(1+(i:Int))%q==1))=true:=by decide +kernel
 have z:=key p hp b (by simp;omega) hb;obtain⟨i,_,hi⟩:=List.any_eq_true.mp z;rw[Bool.and_eq_true] at hi;exact⟨1+(i:Int),by omega,of_decide_eq_true hi.1,by simpa using hi.2⟩
variable {P:zr}{w:World}{K:PySem.W.Frag}{mg:vK}{base:Heap}
theorem BH (c:Int):(if c<0 then -c else c)=ab c:=rfl
variable {f:Addr}{fd:zI}
theorem Ar (F:zA K "_law_low" "_law_low" Bx f fd)(IZ:mg "abs"=none):Ha P w K mg base (aV P w) 1 f fd Gd rR:=by
 refine F.okN lL (λvs H Q E h=>?_) (λHn A outer s H vs Q E hr h=>?_)
 ·obtain⟨a,b,rfl,_⟩:=h;rfl
 ·obtain⟨t,b,rfl,hb,hB,hT,q⟩:=h
  refine⟨_,(aj (@aM _ _ 2 _ _ _ _ lL.nd rfl (Or.inl rfl) (az lB (by rfl) IZ (by rfl) (@ah _ _ _ _ _ (pv 0) ag rfl)) rfl (Or.inl rfl))
   (aj (@aM _ _ 3 _ _ _ _ lL.nd rfl (Or.inl rfl) (az lB (by rfl) IZ (by rfl) (@ah _ _ _ _ _ (pv 1) ag rfl)) rfl (Or.inl rfl))
   (aj (qQ PassesOwn.never (@aH _ _ _ _ _ _ _ _ tL (pv 3) ar (aF _)) (ao (yU (i:=2) (j:=3) rfl lL.nd rfl rfl (by decide) rfl rfl (@ah _ _ _ _ _ (pv 3) (@ah _ _ _ _ _ (@aL _ _ _ _ _ _ _ _ uD (pv 2) (pv 3)) ag rfl) rfl) rfl)))
   (aj (ba (@aH _ _ _ _ _ _ _ _ jP (pv 1) ar (aF _)) (ao (@aM _ _ 2 _ _ _ _ lL.nd rfl (Or.inl rfl) (@aL _ _ _ _ _ _ _ _ zg ar (pv 2)) rfl (Or.inl rfl))) aE)
   (ao (aB (@dw _ _ _ _ _ (@ah _ _ _ _ _ (@aL _ _ _ _ _ _ _ _ gZ (pv 0) (pv 2)) (@ah _ _ _ _ _ (@aL _ _ _ _ _ _ _ _ gZ (pv 1) (pv 2)) ag rfl) rfl)))))))),?_⟩
  refine⟨_,rfl,t,rfl,_,rfl,b,rfl,?_⟩;rw[BH,BH];refine⟨λm σ H'=>∃c d:Int,σ=[some (.int t),some (.int b),some (.int c),some (.int d)]/\H'=H/\m=d.natAbs/\Int.gcd c d=Int.gcd t b/\0<=c/\0<=d,⟨_,ab t,ab b,rfl,rfl,rfl,B8 t b,by rw[kZ];omega,by rw[kZ];omega⟩,?_⟩;rintro m σ H' ⟨c,d,rfl,rfl,rfl,hg,hc0,Rk⟩;refine⟨_,rfl,_,_,rfl,rfl,_,rfl,?_⟩;refine dI (λh=>?_) (λh=>?_)
  ·have hd:d≠0:=by have:=of_decide_eq_true h;omega
   refine⟨λσ' NI=>∃c' d':Int,σ'=[some (.int t),some (.int b),some (.int c'),some (.int d')]/\NI=H'/\d'.natAbs<d.natAbs/\Int.gcd c' d'=Int.gcd t b/\0<=c'/\0<=d',λσ' NI ⟨c',d',e1,e2,e3,e4,e5,e6⟩=>⟨_,e3,c',d',e1,e2,rfl,e4,e5,e6⟩,?_⟩;exact⟨_,rfl,_,rfl,_,rfl,_,_,rfl,rfl,hd,_,_,rfl,d,c.fmod d,rfl,rfl,ua c d hd,by rw[pU,hg],Rk,Int.fmod_nonneg_of_pos c (by omega)⟩
  ·have hd:d=0:=by
    have:¬d>0:=by simpa using h
    omega
   subst hd
   have eg:c=eP t b:=by
    unfold eP;rw[<-hg];simp;omega
   have gp:=iV (t:=t) hb;have Ro:B 9000 (eP t b):=hB.le (Dp hb);subst eg;unfold fW c7 dv at q;refine⟨_,rfl,_,_,rfl,rfl,_,rfl,?_⟩;refine dI (λh2=>?_) (λh2=>?_)
   ·have h2:=of_decide_eq_true h2;rw[if_pos h2] at q;refine⟨_,rfl,_,_,rfl,rfl,?_⟩;dsimp only;rw[Int.zero_sub]
    have hn:B 9000 (-(eP t b)):=by unfold B at Ro |-;rw[Int.natAbs_neg];exact Ro
    exact⟨_,rfl,_,rfl,_,_,rfl,rfl,⟨by omega,hn⟩,_,rfl,_,rfl,_,_,rfl,rfl,⟨by omega,hn⟩,nj,q.of (aw.refl _)⟩
   ·have h2:¬b<0:=by simpa using h2
    rw[if_neg h2] at q;exact⟨_,rfl,_,rfl,_,_,rfl,rfl,⟨by omega,Ro⟩,_,rfl,_,rfl,_,_,rfl,rfl,⟨by omega,Ro⟩,nj,q.of (aw.refl _)⟩
theorem An {fl:Addr}{JS:zI}(F:zA K "_law_made" "_law_made" xE f fd)(Hl:mg "range"=none)(FL:Ha P w K mg base (aV P w) 1 fl JS Gd rR)(bL:L2.aA K JS Gd [])(mL:mg "_law_low"=some (.ref fl))(kL:keepIn K (.ref fl)=true):
 Ha P w K mg base (aV P w) 2 f fd vD CT:=by
 refine F.okN xT (λvs H Q E h=>?_) (λHn A outer s H vs Q E hr h=>?_)
 ·obtain⟨p,t,b,rfl,_⟩:=h;rfl
 ·obtain⟨p,t,b,rfl,hp,hb,hB,hT,hq⟩:=h;have Hu:qL 1 _:=hr
  refine⟨_,(aj (ba (@aH _ _ _ _ _ _ _ _ cR (pv 0) ar (aF _)) (ao (aB (av FL Hu (by rfl) mL kL bL .nil af (@ah _ _ _ _ _ (pv 1) (@ah _ _ _ _ _ (pv 2) ag rfl) rfl)))) aE)
   (aj (@aM _ _ 3 _ _ _ _ xT.nd rfl (Or.inl rfl) (@bq _ _ _ _ _ _ _ cb (bF (N:=["_law_k","_law_prime_here","_law_bottom"]) (nl:=1) (js:=[0,2]) (osc:=ak xE) ⟨rfl,rfl,by decide +kernel,by decide +kernel,by decide +kernel,rfl,(.cons ⟨rfl,by decide +kernel⟩ (.cons ⟨rfl,by decide +kernel⟩ .nil)),by decide +kernel⟩ rfl
    (abL (by rfl) Hl (@ah _ _ _ _ _ ar (@ah _ _ _ _ _ (pv 0) ag rfl) rfl))
    (λCq fq sq Hq=>aG (i:=0) (by show(["_law_k","_law_prime_here","_law_bottom"]:Bg).Nodup;decide +kernel) rfl (Or.inl rfl) (Or.inr rfl))
    (λCq fq sq Hq=>(iU (@aH _ _ _ _ _ _ _ _ cR (@aL _ _ _ _ _ _ _ _ dN (@aL _ _ _ _ _ _ _ _ dB (pv 2) (pv 0)) (pv 1)) ar (aF _))))
    (λCq fq sq Hq=>(pv 0))) ar (λ_ _=>rfl)) rfl (Or.inl rfl))
   (ao (aB (@dw _ _ _ _ _ (@ah _ _ _ _ _ (@aL _ _ _ _ _ _ _ _ dN (@aL _ _ _ _ _ _ _ _ dB (pv 1) (pv 3)) (pv 0)) (@ah _ _ _ _ _ ar ag rfl) rfl)))))),?_⟩
  refine⟨_,rfl,rfl,_,rfl,?_⟩;refine dI (λh=>?_) (λh=>?_)
  ·have HQ:p=0:=by simpa using h
   rcases hq with⟨_,q⟩|⟨z,_⟩
   ·unfold iD iL at q;rw[if_pos HQ,if_pos HQ] at q;exact⟨_,rfl,_,rfl,t,b,rfl,hb,hB,hT,q⟩
   ·exact absurd HQ z
  ·have HQ:p≠0:=by simpa using h
   obtain⟨Rl,p2,SJ⟩:=hp.two HQ
   have bb:0<b/\b<4/\b%p≠0:=by
    rcases hq with⟨h1,_⟩|⟨_,h23,h,_⟩
    ·have:=h1 HQ;subst this;refine⟨by decide,by decide,?_⟩;rw[Int.emod_eq_of_lt (by decide) (by omega)];decide
    ·exact⟨by omega,by omega,h⟩
   have JE:∀v,0<=v->v<p->b*v%p=1->BE H Q (t*v%p) 1:=by
    intro v v0 v1 hv
    rcases hq with⟨h1,q⟩|⟨_,_,_,q⟩
    ·have:=h1 HQ;subst this;rw[Int.one_mul,Int.emod_eq_of_lt v0 v1] at hv;subst hv;unfold iD iL at q;rw[if_neg HQ,if_neg HQ] at q;rw[Int.mul_one];exact q
    ·exact q _ (Int.emod_nonneg _ (by omega)) (Int.emod_lt_of_pos _ (by omega))
   obtain⟨v,v0,v1,hv⟩:=zF Rl bb.1 bb.2.1 bb.2.2;refine⟨_,rfl,_,_,rfl,⟨by omega,by omega,by omega,by omega⟩,?_⟩;have bp:∀{i:Int},0<=i->i<128->B 9000 i:=λh0 h1=>Nat.lt_of_lt_of_le (by omega:_<2^8) (Nat.pow_le_pow_right (by decide) (by decide));refine qO (lo:=1) (n:=(p-1).toNat) (rest:=[some (.int p),some (.int b)]) (λi us H'=>H'=H/\us=(fj p b i).map V.int) ⟨rfl,rfl⟩ (λi us H' hi h=>?_) (λi us H' M hi h hM=>?_) (λus H' h=>?_)
   ·rw[h.2,List.length_map];exact Nat.lt_of_le_of_lt (wb _ _ _) (Nat.lt_of_le_of_lt (by omega:i<=97) (by decide))
   ·obtain⟨rfl,rfl⟩:=h;refine⟨_,rfl,_,rfl,_,_,rfl,rfl,⟨bp (by omega) (by omega),bp (by omega) (by omega)⟩,_,rfl,_,_,rfl,rfl,(by show(0:Int)<p;omega),rfl,_,rfl,?_⟩
    by_cases Rp:b*(1+(i:Int))%p=1
    ·rw[decide_eq_true (show V.int (b*(1+(i:Int))%p)=V.int 1 by rw[Rp])];refine aZ ⟨_,rfl,hM _ _ ⟨rfl,?_⟩⟩;rw[u7 Rp,List.map_append];rfl
    ·rw[decide_eq_false (show ¬V.int (b*(1+(i:Int))%p)=V.int 1 from λz=>Rp (by injection z))];refine a9 (hM _ _ ⟨rfl,?_⟩);rw[yC Rp]
   ·obtain⟨rfl,rfl⟩:=h;intro L hL;obtain⟨z,rest,ez,z0,z1,hz⟩:=yc (n:=(p-1).toNat) (b:=b) (p:=p) (v:=v) (by omega) v1 v0 hv;rw[ez];have S:=ai (o:=.lst ((z::rest).map V.int)) hL;refine⟨L,_,0,.int z,rfl,rfl,aO.of ae,pE (xs:=(z::rest).map V.int) (j:=0) rfl,?_⟩;exact⟨_,rfl,_,rfl,_,_,rfl,rfl,⟨hT,bp z0 (by omega)⟩,_,rfl,_,_,rfl,rfl,(by show(0:Int)<p;omega),nj,(JE z z0 (by omega) hz).of S⟩
theorem yF {fl:Addr}{JS:zI}(F:zA K "_law_plus" "_law_plus" wY f fd)(FM:Ha P w K mg base (aV P w) 2 fl JS vD CT)(bM:L2.aA K JS vD [])(mM:mg "_law_made"=some (.ref fl))(kM:keepIn K (.ref fl)=true):
 Ha P w K mg base (aV P w) 3 f fd rQ (xS mh):=by
 refine F.okN Ae (λvs H Q E h=>?_) (λHn A outer s H vs Q E hr h=>?_)
 ·obtain⟨p,t1,b1,t2,b2,x1,x2,rfl,_⟩:=h;rfl
 ·obtain⟨p,t1,b1,t2,b2,x1,x2,rfl,hp,h1,h2,B1,B2,B3,B4,n1,n2,hb,q⟩:=h;have HL:qL 2 _:=hr;refine⟨_,(ao (aB (av FM HL (by rfl) mM kM bM .nil af (@ah _ _ _ _ _ (pv 0) (@ah _ _ _ _ _ (@aL _ _ _ _ _ _ _ _ cW (@aL _ _ _ _ _ _ _ _ dB (@bq _ _ _ _ _ _ _ bX (pv 1) ar (λ_ _=>rfl)) (@bq _ _ _ _ _ _ _ bX (pv 2) ar (λ_ _=>rfl))) (@aL _ _ _ _ _ _ _ _ dB (@bq _ _ _ _ _ _ _ bX (pv 2) ar (λ_ _=>rfl)) (@bq _ _ _ _ _ _ _ bX (pv 1) ar (λ_ _=>rfl)))) (@ah _ _ _ _ _ (@aL _ _ _ _ _ _ _ _ dB (@bq _ _ _ _ _ _ _ bX (pv 1) ar (λ_ _=>rfl)) (@bq _ _ _ _ _ _ _ bX (pv 2) ar (λ_ _=>rfl))) ag rfl) rfl) rfl)))),?_⟩;refine⟨_,rfl,?_⟩;refine⟨_,rfl,x1,_,0,_,rfl,rfl,bw.of h1,a0 _ _,_,rfl,x2,_,1,_,rfl,rfl,bw.of h2,a1 _ _,_,_,rfl,rfl,⟨B1.mono (by decide),B4.mono (by decide)⟩,?_⟩;refine⟨_,rfl,x2,_,0,_,rfl,rfl,bw.of h2,a0 _ _,_,rfl,x1,_,1,_,rfl,rfl,bw.of h1,a1 _ _,_,_,rfl,rfl,⟨B3.mono (by decide),B2.mono (by decide)⟩,_,_,rfl,rfl,?_⟩;refine⟨_,rfl,x1,_,1,_,rfl,rfl,bw.of h1,a1 _ _,_,rfl,x2,_,1,_,rfl,rfl,bw.of h2,a1 _ _,_,_,rfl,rfl,⟨B2.mono (by decide),B4.mono (by decide)⟩,?_⟩;exact⟨p,_,_,rfl,hp,xq n1 n2,(B2.mul B4).mono (by decide),((B1.mul B4).add (B3.mul B2)).mono (by decide),.inl ⟨hb,q⟩⟩
abbrev xY:Stmt:=(aS 54)
def aR (H:Hp)(r:Addr):Prop:=∃l x:Int,H r=some (.lst [.int l,.int x])/\0<=x/\x<2147483647
def SameBut (r:Addr)(H H':Hp):Prop:=∀b o,H b=some o->b≠r->H' b=some o
theorem SameBut.trans {r:Addr}{H1 H2:Hp}(a:SameBut r H H1)(b:SameBut r H1 H2):SameBut r H H2:=λc o e n=>b c o (a c o e n) n
theorem SameBut.of {r:Addr}{H1:Hp}(a:aw H H1):SameBut r H H1:=λc o e _=>a c o e
theorem SameBut.upd {r:Addr}{o:HO}:SameBut r H (upd H r o):=λb u e n=>by rw[aq n];exact e
def Dq:Sp:=λvs H Q _=>∃r:Addr,vs=[.ref r]/\aR H r/\∀(p:Int)(H':Hp),FP p->aR H' r->SameBut r H H'->Q (.int p) H'
def rh:Sp:=λvs H Q _=>∃(r:Addr)(p:Int),vs=[.ref r,.int p]/\FP p/\aR H r/\∀(a:Addr)(t b:Int)(H':Hp),Num p t b->B 45 t->B 45 b->H' a=some (dW t b)->aR H' r->SameBut r H H'->Q (.ref a) H'
theorem Fd {K:Frag}{a:Addr}{t:Int}(h:H a=some (dW t b)):aC K H (.tup [.int t,.int b]) (.ref a):=by
 unfold aC;refine⟨a,_,rfl,bw.of h,?_⟩;unfold aI;refine⟨_,_,rfl,by unfold aC;rfl,?_⟩;unfold aI;refine⟨_,_,rfl,by unfold aC;rfl,?_⟩;unfold aI;rfl
theorem Fy (t b:Int):dM (.tup [.int t,.int b])=1:=by simp[dM,cL]
end K66
namespace L2
open PySem PySem.Spec PyProof.Rows PySem.W
def E1:V->Bool->Prop
 | .bl b,c=>c=b
 | .int i,c=>c=(i != 0)
 |_,_=>False
theorem bt {α β:Type}{R:α->β->Prop}:∀{l:List α}{m:List β}{i:Nat}{a:α},Paired R l m->l[i]?=some a->∃b,m[i]?=some b/\R a b
 |[],_,i,a,h,e=>by simp at e
 |x::l,_,i,a,h,e=>by
  cases h with
  |cons h1 h2 =>
   cases i with
   |zero=>simp at e;subst e;exact⟨_,rfl,h1⟩
   |succ i=>simpa using bt h2 (by simpa using e)
theorem kD {α β:Type}{R:α->β->Prop}:∀{l:List α}{m:List β}{i:Nat}{b:β},Paired R l m->m[i]?=some b->∃a,l[i]?=some a/\R a b
 |[],m,i,b,h,e=>by cases h;simp at e
 |x::l,_,i,b,h,e=>by
  cases h with
  |cons h1 h2 =>
   cases i with
   |zero=>simp at e;subst e;exact⟨_,rfl,h1⟩
   |succ i=>simpa using kD h2 (by simpa using e)
section
variable {X:Cx}
theorem C5 {A:Around}{Q:Bool->Shared->Prop}{E:yf}{s:CW}{y:V}{c:Bool}{u:Value}(t:E1 y c)(r:aD y u)(h:Q c s):wpAny (model X.prog X.w) A (truthy u) Q E s:=by
 cases y with
 |bl b =>
  cases(show u=Value.bool b from r)
  cases(show c=b from t)
  exact wpAny_truthy_bool h
 |int i =>
  obtain⟨k,rfl⟩:=(show ∃k,u=Value.int i k from r)
  cases(show c=(i != 0) from t)
  exact PyProof.Rows.truthy_int h
 |_=>exact t.elim
theorem lY (hc:X.calm=true):cH X (.builtin "all") (λxs H Q=>∃l ys bs,xs=[.ref l]/\aO X.K H l ys/\Paired E1 ys bs/\Q (.bl (bs.all id)) H):=by
 intro pins s σ H xs us Q I r h;obtain⟨l,ys,bs,rfl,hl,hp,q⟩:=h;obtain⟨u,rfl,ru⟩:=fE r
 cases(show u=Value.ref l from ru)
 obtain⟨its,rv,pl,hz⟩:=I.list hl
 have Hx:l<s.heap.objs.size:=by obtain⟨o,n,e,_⟩:=pl;exact Heap.lt_size e
 refine call_all_walk (wpAny_pyIter_list pl.isList ?_)
 refine⟨s.heap.objs.size,[s.heap.objs.size,l],[s.heap.objs.size],its.toArray.size,_,_,λi=>(bs[i]?).getD true,rfl,Walks.list (A:=X.A.in1) (I.ok.hd hc) _ l (Nat.ne_of_lt Hx) its.toArray,
  ⟨⟨_,Heap.get?_push_size _ rfl,rfl,rfl⟩,pl.isList.push _⟩,λi v s' Q' E' hP hQ=>?_,λh' tk hk=>?_⟩
 ·have e:its[i]?=some v:=by simpa using hP
  obtain⟨y,ey,ry⟩:=kD rv e;obtain⟨b,eb,tb⟩:=bt hp ey;simp only[eb,Option.getD_some] at hQ;exact C5 tb ry hQ
 ·have n:its.toArray.size=bs.length:=by rw[List.size_toArray,<-rv.length,hp.length]
  have e:((List.range its.toArray.size).all λi=>(bs[i]?).getD true)=bs.all id:=by rw[n];exact LSm.range_all bs
  rw[e];exact⟨.bl (bs.all id),H,I.kept (t':=tk) (LSm.kept_iter hk),rfl,q⟩
end
end L2
namespace Srt
open PySem PySem.W PyProof.Rows
structure Pm (n:Nat)(r:Nat->Nat)(p:Array Nat):Prop where
 size:p.size=n
 lt:∀k,k<n->p.getD k 0<n
 ne:∀k l,k<n->l<n->k≠l->r (p.getD k 0)≠r (p.getD l 0)
 perm:p.Perm (List.range n).toArray
variable {p:Array Nat}{k m:Nat}
section
variable {n:Nat}{r:Nat->Nat}
theorem Pm.nq {n:Nat}{r:Nat->Nat}(P:Pm n r p)(k l:Nat)(hk:k<n)(hl:l<n)(h:k≠l):p.getD k 0≠p.getD l 0:=λz=>P.ne k l hk hl h (by rw[z])
theorem getD_some (h:k<p.size):p[k]?=some (p.getD k 0):=by simp[Array.getD,h]
theorem uR (inj:∀i j,i<n->j<n->i≠j->r i≠r j)(hp:p.Perm (List.range n).toArray):Pm n r p:=by
 have hl:p.toList.Perm (List.range n):=by simpa using hp.toList
 have hs:p.size=n:=by rw[<-Array.length_toList,hl.length_eq,List.length_range]
 have Hx:∀k,k<n->p.getD k 0<n:=λk hk=>by
  have hm:p.getD k 0∈p.toList:=by
   rw[show p.getD k 0=p[k]'(by omega) by simp[Array.getD,hs,hk]];exact Array.mem_toList_iff.mpr (Array.getElem_mem _)
  exact List.mem_range.mp (hl.mem_iff.mp hm)
 refine⟨hs,Hx,λk l hk IB HU=>inj _ _ (Hx k hk) (Hx l IB) λe=>HU ?_,hp⟩;have nd:p.toList.Nodup:=hl.nodup_iff.mpr List.nodup_range
 have e1:p.toList[k]'(by simp;omega)=p.toList[l]'(by simp;omega):=by
  rw[show p.getD k 0=p[k]'(by omega) by simp[Array.getD,hs,hk],show p.getD l 0=p[l]'(by omega) by simp[Array.getD,hs,IB]] at e;simpa using e
 have pw:=List.pairwise_iff_getElem.mp (show p.toList.Pairwise (· ≠ ·) from nd)
 rcases Nat.lt_trichotomy k l with z|z|z
 ·exact absurd e1 (pw k l _ _ z)
 ·exact z
 ·exact absurd e1.symm (pw l k _ _ z)
def Up (r:Nat->Nat)(p:Array Nat)(m:Nat):Prop:=∀i j,i<j->j<m->r (p.getD i 0)<r (p.getD j 0)
def Dn (r:Nat->Nat)(p:Array Nat)(m:Nat):Prop:=∀i j,i<j->j<m->r (p.getD j 0)<r (p.getD i 0)
theorem Up.succ (h:Up r p m)(h1:1<=m)(e:r (p.getD (m-1) 0)<r (p.getD m 0)):Up r p (m+1):=λi j HW hj=>by
 by_cases z:j=m
 ·subst z
  by_cases z2:i=j-1
  ·subst z2;exact e
  ·exact Nat.lt_trans (h i (j-1) (by omega) (by omega)) e
 ·exact h i j HW (by omega)
theorem Dn.succ (h:Dn r p m)(h1:1<=m)(e:r (p.getD m 0)<r (p.getD (m-1) 0)):Dn r p (m+1):=λi j HW hj=>by
 by_cases z:j=m
 ·subst z
  by_cases z2:i=j-1
  ·subst z2;exact e
  ·exact Nat.lt_trans e (h i (j-1) (by omega) (by omega))
 ·exact h i j HW (by omega)
theorem kc (hm:m<=p.size)(hk:k<p.size):(kas_rev p 0 m).getD k 0=if k<m then p.getD (m-1-k) 0 else p.getD k 0:=by
 have e:=getElem?_mirror_all (xs:=p) (i:=0) hm k;have hs:(kas_rev p 0 m).size=p.size:=mirror_size _ _ _ _;have e2:(kas_rev p 0 m)[k]?=some ((kas_rev p 0 m).getD k 0):=getD_some (by rw[hs];exact hk)
 have e3:(kas_rev p 0 m)[k]?=if 0<=k/\k<m then p[0+m-1-k]? else p[k]?:=e
 rw[e2] at e3
 by_cases h:k<m
 ·rw[if_pos ⟨Nat.zero_le _,h⟩,show 0+m-1-k=m-1-k by omega,getD_some (by omega)] at e3;rw[if_pos h];exact Option.some.inj e3
 ·rw[if_neg (λz=>h z.2),getD_some hk] at e3;rw[if_neg h];exact Option.some.inj e3
theorem Dn.rev (h:Dn r p m)(hm:m<=p.size):Up r (kas_rev p 0 m) m:=λi j HW hj=>by
 rw[kc hm (by omega),kc hm (by omega),if_pos (by omega),if_pos hj];exact h _ _ (by omega) (by omega)
variable {cmp:Nat->Nat->(Bool->Shared->Prop)->Shared->Prop}{s:CW}
theorem sm (hc:∀i j C,i<n->j<n->i≠j->C (decide (r i<r j)) s->cmp i j C s)(P:Pm n r p){Q:Nat->Shared->Prop}:∀(f m:Nat),1<=m->m+f=n->Up r p m →
 (∀m',m<=m'->m'<=n->Up r p m'->(m'<n->r (p.getD m' 0)<r (p.getD (m'-1) 0))->Q m' s)->(kas_asc p f m).kasWp cmp Q s
 |0,m,h1,hm,hu,hQ=>hQ m (Nat.le_refl _) (by omega) hu λh=>by omega
 |f+1,m,h1,hm,hu,hQ=>by
  refine hc _ _ _ (P.lt m (by omega)) (P.lt (m-1) (by omega)) (P.nq m (m-1) (by omega) (by omega) (by omega)) ?_;show((if decide (r (p.getD m 0)<r (p.getD (m-1) 0))=true then KasT.ret m else kas_asc p f (m+1)).kasWp cmp Q s)
  by_cases h:r (p.getD m 0)<r (p.getD (m-1) 0)
  ·rw[if_pos (decide_eq_true h)];exact hQ m (Nat.le_refl _) (by omega) hu λ_=>h
  ·rw[if_neg (by simpa using h)];have ne:=P.ne m (m-1) (by omega) (by omega) (by omega);exact sm hc P f (m+1) (by omega) (by omega) (hu.succ h1 (by omega)) λm' h2=>hQ m' (by omega)
theorem uq (hc:∀i j C,i<n->j<n->i≠j->C (decide (r i<r j)) s->cmp i j C s)(P:Pm n r p){Q:Array Nat×Nat×Nat->Shared->Prop}:∀(f m:Nat),1<=m->m+f=n->Dn r p m →
 (∀m',m<=m'->m'<=n->Dn r p m'->Q (p,m',0) s)->(kas_desc f p m 0).kasWp cmp Q s
 |0,m,h1,hm,hu,hQ=>hQ m (Nat.le_refl _) (by omega) hu
 |f+1,m,h1,hm,hu,hQ=>by
  refine hc _ _ _ (P.lt m (by omega)) (P.lt (m-1) (by omega)) (P.nq m (m-1) (by omega) (by omega) (by omega)) ?_
  by_cases h:r (p.getD m 0)<r (p.getD (m-1) 0)
  ·rw[decide_eq_true h];exact uq hc P f (m+1) (by omega) (by omega) (hu.succ h1 h) λm' h2=>hQ m' (by omega)
  ·rw[decide_eq_false h];refine hc _ _ _ (P.lt (m-1) (by omega)) (P.lt m (by omega)) (P.nq (m-1) m (by omega) (by omega) (by omega)) ?_;have ne:=P.ne m (m-1) (by omega) (by omega) (by omega);rw[decide_eq_true (show r (p.getD (m-1) 0)<r (p.getD m 0) by omega)];exact hQ m (Nat.le_refl _) (by omega) hu
theorem zd (inj:∀i j,i<n->j<n->i≠j->r i≠r j)(hc:∀i j C,i<n->j<n->i≠j->C (decide (r i<r j)) s->cmp i j C s)(P:Pm n r p){Q:Nat×Array Nat->Shared->Prop}(h1:1<=m)(hm:m<=n)(hd:Dn r p m)
 (hQ:∀m' p',m'<=n->1<=m'->Pm n r p'->Up r p' m'->Q (m',p') s):(kas_tail3 m n p).kasWp cmp Q s:=by
 unfold kas_tail3;rw[KasT.kasWp_bind];have P':Pm n r (kas_rev p 0 m):=uR inj ((mirror_perm _ _ _ _).trans P.perm);exact sm hc P' (n-m) m h1 (by omega) (hd.rev (by rw[P.size];exact hm)) λm' h2 h3 h4 _=>hQ m' _ h3 (by omega) P' h4
theorem yp (inj:∀i j,i<n->j<n->i≠j->r i≠r j)(hc:∀i j C,i<n->j<n->i≠j->C (decide (r i<r j)) s->cmp i j C s)(h0:1<=n)(P:Pm n r p){Q:Nat×Array Nat->Shared->Prop}
 (hQ:∀m' p',m'<=n->1<=m'->Pm n r p'->Up r p' m'->Q (m',p') s):(kas_count n p).kasWp cmp Q s:=by
 unfold kas_count;rw[KasT.kasWp_bind];refine sm hc P (n-1) 1 (Nat.le_refl _) (by omega) (λi j HW hj=>by omega) λm h1 h2 h3 h4=>?_
 by_cases e:m=n
 ·subst e;rw[if_pos (by simp)];exact hQ _ _ (Nat.le_refl _) h1 P h3
 ·rw[if_neg (by simpa using e)]
  by_cases h5:m>1
  ·rw[if_pos h5];refine hc _ _ _ (P.lt 0 (by omega)) (P.lt (m-1) (by omega)) (P.nq 0 (m-1) (by omega) (by omega) (by omega)) ?_;rw[decide_eq_true (h3 0 (m-1) (by omega) (by omega))];exact hQ _ _ h2 h1 P h3
  ·rw[if_neg h5]
   have e1:m=1:=by omega
   subst e1;unfold kas_descPart;rw[KasT.kasWp_bind];have d2:Dn r p (1+1):=Dn.succ (λi j HW hj=>by omega) (Nat.le_refl _) (h4 (by omega));refine uq hc P (n-(1+1)) (1+1) (by omega) (by omega) d2 λm' h6 h7 h8=>?_;show((if 0>0 then _ else kas_tail3 m' n p).kasWp cmp Q s);rw[if_neg (by omega)];exact zd inj hc P (by omega) h7 h8 hQ
theorem kE (hc:∀i j C,i<n->j<n->i≠j->C (decide (r i<r j)) s->cmp i j C s)(P:Pm n r p){Q:Nat->Shared->Prop}(hk:k<n)(hu:Up r p k):∀(f l q:Nat),l<=q->q<=k->q-l<=f->(∀j,j<l->r (p.getD j 0)<r (p.getD k 0))->(∀j,q<=j->j<k->r (p.getD k 0)<r (p.getD j 0)) →
 (∀l',l'<=k->(∀j,j<l'->r (p.getD j 0)<r (p.getD k 0))->(∀j,l'<=j->j<k->r (p.getD k 0)<r (p.getD j 0))->Q l' s)->(kas_place p k f l q).kasWp cmp Q s
 |0,l,q,h1,h2,h3,h4,h5,hQ=>hQ l (by omega) h4 λj h6 h7=>h5 j (by omega) h7
 |f+1,l,q,h1,h2,h3,h4,h5,hQ=>by
  unfold kas_place
  by_cases h:l ≥ q
  ·rw[if_pos h];exact hQ l (by omega) h4 λj h6 h7=>h5 j (by omega) h7
  ·rw[if_neg h];refine hc _ _ _ (P.lt k hk) (P.lt ((l+q)/2) (by omega)) (P.nq k ((l+q)/2) hk (by omega) (by omega)) ?_;have ne:=P.ne k ((l+q)/2) hk (by omega) (by omega)
   by_cases z:r (p.getD k 0)<r (p.getD ((l+q)/2) 0)
   ·rw[decide_eq_true z];refine kE hc P hk hu f l ((l+q)/2) (by omega) (by omega) (by omega) h4 (λj h6 h7=>?_) hQ
    by_cases e:j=(l+q)/2
    ·subst e;exact z
    ·exact Nat.lt_trans z (hu _ _ (by omega) h7)
   ·rw[decide_eq_false z];refine kE hc P hk hu f ((l+q)/2+1) q (by omega) h2 (by omega) (λj h6=>?_) h5 hQ
    by_cases e:j=(l+q)/2
    ·subst e;omega
    ·have:=hu j ((l+q)/2) (by omega) (by omega);omega
theorem j5 {l j:Nat}(hk:k<p.size)(hl:l<=k)(hj:j<p.size):(bubble p k (k-l)).getD j 0=if j=l then p.getD k 0 else if l<j/\j<=k then p.getD (j-1) 0 else p.getD j 0:=by
 have e:=getElem?_bubble hk (k-l) (by omega) j;rw[show k-(k-l)=l by omega,getD_some (by rw[bubble_size];exact hj)] at e
 by_cases h1:j=l
 ·rw[if_pos h1,getD_some hk] at e;rw[if_pos h1];exact Option.some.inj e
 ·rw[if_neg h1] at e |-
  by_cases h2:l<j/\j<=k
  ·rw[if_pos h2,getD_some (by omega)] at e;rw[if_pos h2];exact Option.some.inj e
  ·rw[if_neg h2,getD_some hj] at e;rw[if_neg h2];exact Option.some.inj e
theorem wI (inj:∀i j,i<n->j<n->i≠j->r i≠r j)(hc:∀i j C,i<n->j<n->i≠j->C (decide (r i<r j)) s->cmp i j C s){Q:Array Nat->Shared->Prop}(hQ:∀p',Pm n r p'->Up r p' n->Q p' s):∀(f:Nat)(p:Array Nat)(k:Nat),Pm n r p->k+f=n->Up r p k->(kas_bin f p k).kasWp cmp Q s
 |0,p,k,P,hk,hu=>hQ p P (by rw[<-hk];exact hu)
 |f+1,p,k,P,hk,hu=>by
  unfold kas_bin;rw[KasT.kasWp_bind];refine kE hc P (by omega) hu k 0 k (Nat.zero_le _) (Nat.le_refl _) (by omega) (λj h=>by omega) (λj h1 h2=>by omega) λl h1 h2 h3=>?_;have P':Pm n r (bubble p k (k-l)):=uR inj ((bubble_perm _ _ _).trans P.perm);refine wI inj hc hQ f _ (k+1) P' (by omega) λi j HW hj=>?_;have sz:=P.size;rw[j5 (by omega) h1 (by omega),j5 (by omega) h1 (by omega)]
  by_cases e1:i=l
  ·rw[if_pos e1,if_neg (by omega),if_pos ⟨by omega,by omega⟩];exact h3 _ (by omega) (by omega)
  ·rw[if_neg e1]
   by_cases e2:j=l
   ·rw[if_pos e2,if_neg (by omega)];exact h2 _ (by omega)
   ·rw[if_neg e2]
    by_cases e3:l<j
    ·rw[if_pos (show l<j/\j<=k from⟨e3,by omega⟩)]
     by_cases e4:l<i
     ·rw[if_pos ⟨e4,by omega⟩];exact hu _ _ (by omega) (by omega)
     ·rw[if_neg (by omega)];exact hu _ _ (by omega) (by omega)
    ·rw[if_neg (by omega),if_neg (by omega)];exact hu _ _ HW (by omega)
theorem zX (inj:∀i j,i<n->j<n->i≠j->r i≠r j)(hc:∀i j C,i<n->j<n->i≠j->C (decide (r i<r j)) s->cmp i j C s)(h0:1<=n){Q:Array Nat->Shared->Prop}(hQ:∀p',Pm n r p'->Up r p' n->Q p' s):(kas_sort n).kasWp cmp Q s:=by
 unfold kas_sort;rw[KasT.kasWp_bind];refine yp inj hc h0 (uR inj (Array.Perm.refl _)) λm p h1 h2 P hu=>?_;show((if m<n then kas_bin (n-max m 1) p (max m 1) else KasT.ret p).kasWp cmp Q s)
 by_cases h:m<n
 ·rw[if_pos h,show max m 1=m by omega];exact wI inj hc hQ _ _ _ P (by omega) hu
 ·rw[if_neg h]
  have e:m=n:=by omega
  subst e;exact hQ p P hu
end
end Srt
namespace L2
open PySem PySem.Spec PyProof.Rows PySem.W
end L2
namespace Srt
open PySem PySem.W PyProof.Rows
section
variable {prog:zr}{w:World}{A:Around}{E:yf}{s:CW}
def AX (prog:zr)(w:World)(A:Around)(ks:oN)(r:Nat->Nat)(s:CW):Prop :=
 ∃κ,(∀Q:SortKind->Shared->Prop,Q κ s->wpAny (model prog w) A (keyKind' ks.toArray) Q (λ_ _=>False) s)/\∀i j C,i<ks.length->j<ks.length->i≠j->C (decide (r i<r j)) s->kas_ask prog w A κ ks i j C s
def cG (vs:oN)(p:Array Nat):List Value:=p.toList.map λi=>vs.getD i Value.none
theorem qd (vs:oN):cG vs (List.range vs.length).toArray=vs:=by
 unfold cG;apply List.ext_getElem
 ·simp
 ·intro i h1 h2;simp[h2]
theorem cZ {n:Nat}(h:n<64):n<=sizeLine:=by rw[sizeLine_eq];omega
def xy (a:Addr)(h h':Heap):Prop:=∀b o,b≠a->h.get? b=some o->h'.get? b=some o
theorem Al {h:Heap}{a:Addr}{o1 o2:Obj}{g:Obj->Obj}:xy a h (((h.update a g).push o1).push o2):=λb o hb e=>by
 refine Heap.get?_push_of_some _ (Heap.get?_push_of_some _ ?_);rw[Heap.get?_update_ne _ _ _ _ hb];exact e
end
open L2
abbrev Ky:=Int×List Int
def mq (a b:Ky):Bool:=if a.1=b.1 then HT.cP a.2 b.2 else decide (a.1<b.1)
theorem lP:∀xs:List Int,HT.cP xs xs=false
 |[]=>rfl
 |x::xs=>by rw[HT.eR,if_pos rfl];exact lP xs
theorem nO:∀{xs ys zs:List Int},HT.cP xs ys=true->HT.cP ys zs=true->HT.cP xs zs=true
 |[],[],_,h,_=>by cases h
 |[],y::ys,[],_,h=>by cases h
 |[],y::ys,z::zs,_,_=>rfl
 |x::xs,[],_,h,_=>by cases h
 |x::xs,y::ys,[],_,h=>by cases h
 |x::xs,y::ys,z::zs,h1,h2=>by
  rw[HT.eR] at h1 h2 |-
  by_cases e1:x=y
  ·rw[if_pos e1] at h1
   by_cases e2:y=z
   ·rw[if_pos e2] at h2;rw[if_pos (e1.trans e2)];exact nO h1 h2
   ·rw[if_neg e2] at h2;rw[e1,if_neg e2];exact h2
  ·rw[if_neg e1] at h1;have l1:=of_decide_eq_true h1
   by_cases e2:y=z
   ·rw[<-e2,if_neg e1];exact h1
   ·rw[if_neg e2] at h2;have l2:=of_decide_eq_true h2;rw[if_neg (by omega)];exact decide_eq_true (by omega)
theorem nK:∀{xs ys:List Int},xs≠ys->HT.cP xs ys=true\/HT.cP ys xs=true
 |[],[],h=>absurd rfl h
 |[],y::ys,_=>.inl rfl
 |x::xs,[],_=>.inr rfl
 |x::xs,y::ys,h=>by
  rw[HT.eR,HT.eR]
  by_cases e:x=y
  ·subst e;rw[if_pos rfl,if_pos rfl];exact nK λz=>h (by rw[z])
  ·rw[if_neg e,if_neg (Ne.symm e)];simp only[decide_eq_true_eq];omega
theorem lS (a:Ky):mq a a=false:=by unfold mq;rw[if_pos rfl];exact lP _
theorem jB {a b c:Ky}(h1:mq a b=true)(h2:mq b c=true):mq a c=true:=by
 unfold mq at h1 h2 |-
 by_cases e1:a.1=b.1
 ·rw[if_pos e1] at h1
  by_cases e2:b.1=c.1
  ·rw[if_pos e2] at h2;rw[if_pos (e1.trans e2)];exact nO h1 h2
  ·rw[if_neg e2] at h2;rw[e1,if_neg e2];exact h2
 ·rw[if_neg e1] at h1;have l1:=of_decide_eq_true h1
  by_cases e2:b.1=c.1
  ·rw[<-e2,if_neg e1];exact h1
  ·rw[if_neg e2] at h2;have l2:=of_decide_eq_true h2;rw[if_neg (by omega)];exact decide_eq_true (by omega)
theorem jK {a b:Ky}(h:a≠b):mq a b=true\/mq b a=true:=by
 unfold mq
 by_cases e:a.1=b.1
 ·rw[if_pos e,if_pos e.symm];exact nK λz=>h (Prod.ext e z)
 ·rw[if_neg e,if_neg (Ne.symm e)];simp only[decide_eq_true_eq];omega
def cD (ks:List Ky)(i:Nat):Ky:=ks.getD i (0,[])
def rk (ks:List Ky)(i:Nat):Nat:=(List.range ks.length).countP λj=>mq (cD ks j) (cD ks i)
theorem jC {α:Type}{p q:α->Bool}:∀{l:List α},(∀x∈l,p x=true->q x=true)->(∃x∈l,q x=true/\p x=false)->l.countP p<l.countP q
 |[],_,⟨x,hx,_⟩=>by cases hx
 |a::l,h,⟨x,hx,h1,h2⟩=>by
  have le:∀l':List α,(∀x∈l',p x=true->q x=true)->l'.countP p<=l'.countP q:=λl' h'=>List.countP_mono_left h';rw[List.countP_cons,List.countP_cons]
  rcases List.mem_cons.mp hx with rfl|hx
  ·rw[if_pos h1,if_neg (by rw[h2];exact Bool.false_ne_true)];have:=le l λx hx=>h x (List.mem_cons_of_mem _ hx);omega
  ·have ih:=jC (l:=l) (λx hx=>h x (List.mem_cons_of_mem _ hx)) ⟨x,hx,h1,h2⟩;have h0:=h a List.mem_cons_self
   cases e:p a with
   |false=>simp only[Bool.false_eq_true,if_false];omega
   |true=>rw[h0 e];simp only[if_true];omega
variable {ks:List Ky}
theorem jn {i j:Nat}(hi:i<ks.length)(h:mq (cD ks i) (cD ks j)=true):rk ks i<rk ks j :=
 jC (λl _ hl=>jB hl h) ⟨i,List.mem_range.mpr hi,h,lS _⟩
theorem wK {i j:Nat}(hi:i<ks.length)(hj:j<ks.length):decide (rk ks i<rk ks j)=mq (cD ks i) (cD ks j):=by
 cases e:mq (cD ks i) (cD ks j) with
 |true=>exact decide_eq_true (jn hi e)
 |false =>
  refine decide_eq_false λz=>?_
  by_cases k:cD ks i=cD ks j
  ·unfold rk at z;rw[k] at z;exact Nat.lt_irrefl _ z
  ·rcases jK k with h|h
   ·rw[e] at h;cases h
   ·exact Nat.lt_asymm z (jn hj h)
theorem Cv (nd:ks.Nodup):∀i j,i<ks.length->j<ks.length->i≠j->rk ks i≠rk ks j:=λi j hi hj HU z=>by
 have k:cD ks i≠cD ks j:=λe=>by
  have e':ks[i]=ks[j]:=by
   unfold cD at e;simpa[hi,hj] using e
  have pw:=List.pairwise_iff_getElem.mp (show ks.Pairwise (· ≠ ·) from nd)
  rcases Nat.lt_or_gt_of_ne HU with l|l
  ·exact pw i j _ _ l e'
  ·exact pw j i _ _ l e'.symm
 rcases jK k with h|h
 ·have:=jn hi h;omega
 ·have:=jn hj h;omega
def uv (K:Frag)(H:Hp)(x:V)(k:Ky):Prop:=∃a b rest,x=.ref a/\bw K H a (.int k.1 :: .ref b::rest)/\bw K H b (k.2.map V.int)
def dU (K:Frag)(H:Hp):List V->List Ky->Prop
 |[],[]=>True
 |x::xs,k::ks=>uv K H x k/\dU K H xs ks
 |_,_=>False
variable {K:Frag}{H:Hp}
theorem dU.len :∀{xs:List V}{ks:List Ky},dU K H xs ks->xs.length=ks.length
 |[],[],_=>rfl
 |_::_,_::_,⟨_,r⟩=>congrArg (·+1) r.len
 |[],_::_,h=>h.elim
 |_::_,[],h=>h.elim
theorem dU.get :∀{xs:List V}{ks:List Ky}{i:Nat}{x:V},dU K H xs ks->xs[i]?=some x->uv K H x (cD ks i)
 |x::xs,k::ks,0,y,⟨h,_⟩,e=>by simp at e;subst e;exact h
 |x::xs,k::ks,i+1,y,⟨_,r⟩,e=>by
  have:=r.get (i:=i) (x:=y) (by simpa using e);simpa[cD] using this
 |[],[],i,y,_,e=>by simp at e
 |[],_::_,_,_,h,_=>h.elim
 |_::_,[],_,_,h,_=>h.elim
theorem du :∀ns:List Int,aI K H (ns.map D.int) (ns.map V.int)
 |[]=>by unfold aI;rfl
 |n::ns=>by unfold aI;exact⟨_,_,rfl,by unfold aC;rfl,du ns⟩
theorem jb (ns:List Int):dM (.tup (ns.map D.int))<=1:=by
 unfold dM
 have:∀ms:List Int,cL (ms.map D.int)=0:=λms=>by
  induction ms with
  |nil=>unfold cL;rfl
  |cons m ms ih=>rw[List.map_cons];unfold cL;rw[ih];unfold dM;rfl
 rw[this];omega
theorem iW:∀ns ms:List Int,eX (ns.map D.int) (ms.map D.int)=decide (ns=ms)
 |[],[]=>by simp;rfl
 |[],m::ms=>by simp;rfl
 |n::ns,[]=>by simp;rfl
 |n::ns,m::ms=>by
  show((n==m)&&eX (ns.map D.int) (ms.map D.int))=_;rw[iW ns ms]
  by_cases e:n=m
  ·subst e;simp
  ·simp[e]
section
variable {X:Cx}{pins:List (Addr×Obj)}{σ:L2.St}{H:Hp}{s:CW}
theorem Bm {A:Around}{x y:V}{u v:Value}{k j:Ky}{C:Bool->Shared->Prop}{E:yf}(I:Inv X pins σ H s)(hA:A.units+2<cLine)(hx:uv X.K H x k)(hy:uv X.K H y j)(rx:aD x u)(ry:aD y v)(ne:k≠j)(h:C (mq k j) s):
 wpAny (model X.prog X.w) A (keyLt' (tuples' true) u v) C E s:=by
 obtain⟨a,b,rest,rfl,h1,h2⟩:=hx;obtain⟨a',b',Xg,rfl,KC,MR⟩:=hy
 cases(show u=Value.ref a from rx)
 cases(show v=Value.ref a' from ry)
 obtain⟨its,r1,⟨o1,g1,_,n1,d1⟩,_⟩:=I.tuple h1;obtain⟨its',Rq,⟨o1',ZX,_,Xh,NK⟩,_⟩:=I.tuple KC;refine kat_lt g1 d1 ZX NK ?_
 cases r1 with
 |cons q1 r1 =>
  cases r1 with
  |cons q2 r1 =>
   cases Rq with
   |cons ZY Rq =>
    cases Rq with
    |cons ZZ Rq =>
     obtain⟨t,rfl⟩:=q1;obtain⟨t',rfl⟩:=ZY
     rename_i w2 _ Z0 _
     cases(show w2=Value.ref b from q2)
     cases(show Z0=Value.ref b' from ZZ)
     show KatLex _ _ _ _ _ _ ((Value.int k.1 t,Value.int j.1 t'):: (Value.ref b,Value.ref b'):: _) 0 s;refine kat_cons (SeqAt.EqAt.int_int k.1 t j.1 t' X.prog X.w _ _ ?_)
     have klt_def:mq k j=if k.1=j.1 then HT.cP k.2 j.2 else decide (k.1<j.1):=rfl
     refine kat_go (λe=>kat_yes ?_) λe=>kat_no ?_
     ·have e1:k.1=j.1:=by simpa using e
      have n2:k.2≠j.2:=λz=>ne (Prod.ext e1 z);have dd:=(ij I 1 A (.tup (k.2.map D.int)) (.tup (j.2.map D.int)) (.ref b) (.ref b') (.ref b) (.ref b') (jb _) (by omega) (by unfold aC;exact⟨b,_,rfl,h2,du _⟩) (by unfold aC;exact⟨b',_,rfl,MR,du _⟩) rfl rfl).2.1;have e2:dY (.tup (k.2.map D.int)) (.tup (j.2.map D.int))=false:=(iW _ _).trans (decide_eq_false n2);rw[e2] at dd;refine kat_cons (dd X.prog X.w _ _ (kat_no ?_));rw[klt_def,if_pos e1] at h;obtain⟨Ht,p2,t2,_⟩:=I.tuple h2;obtain⟨Xi,Z1,Z2,_⟩:=I.tuple MR;exact kat_one _ _ (HT.abt t2 Z2 (kI p2) (kI Z1) (by omega) h)
     ·have e1:k.1≠j.1:=by simpa using e
      rw[klt_def,if_neg e1] at h;exact oneLt_int h
theorem AC (I:Inv X pins σ H s)(xs:List V):∀(ks:List Ky)(us:oN),dU X.K H xs ks->aK xs us->∃fs:List Value,KatTups s.heap us fs/\fs.length=us.length/\∀f∈fs,∃i t,f=Value.int i t:=by
 induction xs with
 |nil =>
  intro ks us _ r
  cases r
  exact⟨[],.nil,rfl,λf hf=>by cases hf⟩
 |cons x xs ih =>
  intro ks us h r
  cases ks with
  |nil=>exact h.elim
  |cons k ks =>
   cases r with
   |cons rx rv =>
    rename_i u us
    obtain⟨⟨a,b,rest,e,h1,_⟩,hr⟩:=h;obtain⟨fs,t,hl,hf⟩:=ih ks us hr rv;subst e
    cases(show u=Value.ref a from rx)
    obtain⟨its,r1,⟨o1,g1,c1,n1,d1⟩,_⟩:=I.tuple h1
    cases r1 with
    |cons q1 r1 =>
     obtain⟨tk,rfl⟩:=q1;refine⟨Value.int k.1 tk::fs,.cons g1 c1 d1 rfl t,by simp[hl],λf LS=>?_⟩
     rcases List.mem_cons.mp LS with rfl|z
     ·exact⟨_,_,rfl⟩
     ·exact hf f z
theorem rO {A:Around}{xs:List V}{us:oN}(I:Inv X pins σ H s)(hA:A.units+2<cLine)(hk:dU X.K H xs ks)(rv:aK xs us)(nd:ks.Nodup)(h2:2<=us.length):AX X.prog X.w A us (rk ks) s:=by
 obtain⟨fs,t,hl,hf⟩:=AC I xs ks us hk rv;have AV:=hk.len;have vH:=rv.length;refine⟨tuples' true,λQ hq=>kat_kind (T:=Value.type "int") t (by omega) (λv hv=>?_) (by decide) hq,λi j C hi hj HU hc=>?_⟩
 ·obtain⟨i,tk,rfl⟩:=hf v hv;exact .now
 ·have gi:∃x,xs[i]?=some x/\aD x (us.getD i .none):=by
   have NL:i<xs.length:=by omega
   obtain⟨u,e,r⟩:=rv.get (i:=i) (x:=xs[i]) (by simp[NL]);refine⟨xs[i],by simp[NL],?_⟩;rw[List.getD_eq_getElem?_getD,e];exact r
  have gj:∃x,xs[j]?=some x/\aD x (us.getD j .none):=by
   have KY:j<xs.length:=by omega
   obtain⟨u,e,r⟩:=rv.get (i:=j) (x:=xs[j]) (by simp[KY]);refine⟨xs[j],by simp[KY],?_⟩;rw[List.getD_eq_getElem?_getD,e];exact r
  obtain⟨x,ex,rx⟩:=gi;obtain⟨y,ey,ry⟩:=gj;rw[wK (by omega) (by omega)] at hc
  have Z3:cD ks i≠cD ks j:=λz=>by
   have e':ks[i]'(by omega)=ks[j]'(by omega):=by
    unfold cD at z;simpa[show i<ks.length by omega,show j<ks.length by omega] using z
   have pw:=List.pairwise_iff_getElem.mp (show ks.Pairwise (· ≠ ·) from nd)
   rcases Nat.lt_or_gt_of_ne HU with l|l
   ·exact pw i j _ _ l e'
   ·exact pw j i _ _ l e'.symm
  exact Bm I hA (hk.get ex) (hk.get ey) rx ry Z3 hc
end
end Srt
namespace L2
open PySem PySem.Spec PyProof.Rows PySem.W
section
variable {X:Cx}{pins:List (Addr×Obj)}{σ:St}{H:Hp}{s:CW}{h':Heap}
theorem Inv.aba (I:Inv X pins σ H s){a:Addr}(hp:s.heap.get? a=none):H a=none:=by
 cases q:H a with
 |none=>rfl
 |some u =>
  obtain⟨ob,e1⟩:=(I.hok a u q).there;rw[hp] at e1
  cases e1
theorem Inv.newObj {a:Addr}{o:HO}{t':Nat}(I:Inv X pins σ H s)(k:∀b u,s.heap.get? b=some u->h'.get? b=some u)(hp:s.heap.get? a=none)(new:bc X.prog X.w (upd H a o) h' a o):
 Inv X pins σ (upd H a o) {s with heap:=h',toks:=t'}:=by
 have hn:=I.aba hp
 have nb:∀b u,s.heap.get? b=some u->b≠a:=λb u e z=>by rw[z,hp] at e;cases e
 exact I.un ⟨λb u q _ _ _=>k b u q,λb u q _ _ _=>⟨u.slots,k b u q⟩,λb u q n _=>by rw[aq (nb b u q)];exact n,λb u q _=>⟨u,k b u q⟩,
  λb xs q=>by rw[aq (au q hn)];exact q,λb u xs q=>by rw[aq (au q hn)];exact q,λb ps q=>⟨#[],by rw[aq (au q hn),q];simp⟩⟩ (fT (I.hok.kept k) hn new)
end
section
variable {X:Cx}{x:Str}{C:Addr}{B newId IH:String}{HI:oN}{p pos:Pos}{e:Expr}{es:qk}{t:TA}{r:List V->Hp->VK->Prop}
theorem yJ (hc:cH X (.ref C) r)(kp:keepIn X.K (.ref C)=true)(hg:Gl X x)(hm:X.mg x=some (.ref C))(ha:PA X (e::es) t)(JO:(x==("__debug__":Str))=false:=by decide)
 (he:starEach (e::es) X.env=(false,eval e X.env):: starEach es X.env:=by rfl)(IG:(backTo pos (starEach es X.env)).any (·.1)=false:=by rfl):PE X (.Call (.Name x p) (e::es) [] pos) (Cd r t):=by
 intro pins s σ H Q I h;refine wpAny_Call_Name_kw (ia I hg hm ?_ JO);exact PySem.W.callWith_K (h₀:=X.base) I.ok.mod.kin kp (bu (ha pos pins s σ H _ I h) λus s1 ⟨vs,H1,I1,r1,q1⟩=>⟨I1.kIn,hc pins s1 σ H1 vs us Q I1 r1 q1⟩) he IG
end
variable {o:Obj}
section
variable {P:zr}{w:World}{A:Around}{E:yf}{hp:Heap}{gs:Array GenState}{dr:Drawn}{tk:Nat}{os:OsState}
variable {nm qn:Str}{C N fI:Addr}{bs bm HI KZ:oN}{hdct ab:Bool}{sn:Bg}{sub:oN}{col:Option Bool}{dd:Cw}{k0 k1 k2 k3 k5:DV}{B Bn newId Z4 IH K0:String}{mN:vK}{us:oN}{oI:Obj}
def dE (hp:Heap)(C:Addr)(us:oN):Heap:=(hp.push {cls:=.type "tuple",data:=.seq us.toArray}).push {cls:=.ref C,data:=.fields #[.ref hp.objs.size,.none,.none,.none,.bool false,.none]}
theorem cx {b:Addr}(e:hp.get? b=some o):(dE hp C us).get? b=some o:=Heap.get?_push_of_some _ (Heap.get?_push_of_some _ e)
theorem jR:(dE hp C us).get? (hp.objs.size+1)=some {cls:=.ref C,data:=.fields #[.ref hp.objs.size,.none,.none,.none,.bool false,.none]}:=by
 unfold dE
 heap_get
theorem mK:Heap.MadeExcOf hp (dE hp C us) (hp.objs.size+1) (.ref C) us :=
 ⟨λb o e=>cx e,Heap.get?_none_of_le (Nat.le_succ _),hp.objs.size,jR,Heap.get?_none_of_le (Nat.le_refl _),Heap.get?_push_of_some _ (Heap.get?_push_at rfl rfl)⟩
structure xf (B:String)(HI:oN):Prop where
 mro:mroOf (.type B)=pure HI
 look:∃y,typeLookup (.type B) "__init__"=pure y
 noA:HI.contains (.type "AttributeError")=false
 noN:HI.contains (.type "NameError")=false
theorem zm {R:Result->Shared->Prop}(Fn:ExcBaseFacts Bn newId K0 KZ)(K1:HI.contains (.type Bn)=true)(FB:xf B HI)(T:OwnTail hp HI bm)(hC:hp.get? C=some (excClassObj nm qn C N bs bm hdct sn sub ab col dd k0 k1 k2 k3 k5 newId))
 (hq:R (.ok (.ret (.ref (hp.objs.size+1)))) ⟨dE hp C us,gs,dr,tk,os⟩)(Jt:us.length<=sizeLine):codeAny (model P w) A (.builtin newId ⟨.ref C::us,[]⟩) R ⟨hp,gs,dr,tk,os⟩:=by
 have isB:(Value.ref C::bm).contains (.type Bn)=true:=by rw[List.contains_cons,T.hasType K1];simp
 have SM:(Value.ref C::bm).contains (.type "AttributeError")=false:=by rw[List.contains_cons,T.hasType FB.noA];simp
 have SN:(Value.ref C::bm).contains (.type "NameError")=false:=by rw[List.contains_cons,T.hasType FB.noN];simp
 have Xj:=Fn.ends;refine codeAny_builtinAt Fn.entry ?_;unfold Builtin.«BaseException.__new__»;refine PySem.wpAt_bind ?_;show PySem.wpAt _ _ _ (stack>>=_) _ _ _;refine PySem.wpAt_bind (PySem.wpAt_stack λp below=>PySem.wpAt_of_wpAny ?_)
 wp_walk
 refine PySem.wpAt_of_wpAny ?_;rw[Fn.owner]
 repeat (first|(with_reducible refine wpAny_madeHere_exc Fn.canon hC ?_)|(with_reducible refine wpAny_loadPart_at hC ?_)|(with_reducible refine wpAny_isSubtype_exc hC ?_;first|rw[isB]|rw[SM]|rw[SN])|wp_step)
 show R _ _;rw[Heap.size_push];exact hq
theorem lQ (Fn:ExcBaseFacts Bn newId K0 KZ)(K1:HI.contains (.type Bn)=true)(FB:xf B HI)(T:OwnTail hp HI bm){Q:PySem.Fin->Shared->Prop}
 (hC:hp.get? C=some (excClassObj nm qn C N bs bm hdct sn sub ab col dd k0 k1 k2 k3 k5 newId))(hN:hp.Ns N mN)(hi:mN "__init__"=some (.ref fI))(eI:hp.get? fI=some oI)(cI:oI.cls=.type "function")(hl:us.length<=sizeLine)
 (hq:∀h' e,Heap.MadeExcOf hp h' e (.ref C) us->wpAny (model P w) A (call (.ref fI) (.ref e::us)) (λr s'=>r=.none/\Q (.done (.ret (.ref e))) s') E ⟨h',gs,dr,tk,os⟩):
 wpAny (model P w) A (Builtin.«type.__call__» ⟨.ref C::us,[]⟩) Q E ⟨hp,gs,dr,tk,os⟩:=by
 repeat (first|(with_reducible refine wpAny_loadPart_at hC ?_)|(with_reducible refine wpAny_madeBy_exc hC ?_)|wp_step)
 refine codeAny_call_builtin_code (Code.quiet_builtin _ Fn.quiet) (wpAny_check_new_subU Fn K1 T hC (zm Fn K1 FB T hC ?_ hl));show wpAny _ _ _ _ _ ⟨dE hp C us,gs,dr,tk,os⟩;have gC:=cx (C:=C) (us:=us) hC;have gI:=cx (C:=C) (us:=us) eI;have gN:(dE hp C us).Ns N mN:=hN.keeps λb o e=>cx e;have gT:OwnTail (dE hp C us) HI bm:=T.keeps λb o e=>cx e;have gE:=jR (hp:=hp) (C:=C) (us:=us)
 have self:(Value.ref C::bm).contains (.ref C)=true:=by simp
 unfold isInstance
 repeat (first|(with_reducible refine wpAny_loadPart_at gE ?_)|(with_reducible refine wpAny_isSubtype_exc gC ?_;rw[self])|wp_step)
 show wpAny _ _ (typeLookup (.ref C) _) _ _ _;obtain⟨y,look⟩:=FB.look;refine wpAny_typeLookup_tail gC gN gT FB.mro look ?_;rw[hi];refine wpAny_holding (wpAny_bind ?_);unfold bindSpecial;refine wpAny_bind (wpAny_typeOf (T:="function") ⟨_,gI,cI⟩ ?_);rw[if_pos (by decide)];refine wpAny_pure (wpAny_bind (wpAny_mono (hq _ _ mK) (λr s' z=>?_) λ_ _ x=>x));obtain⟨rfl,z⟩:=z
 wp_walk
 exact z
theorem mY (Fn:ExcBaseFacts Bn newId K0 KZ)(K1:HI.contains (.type Bn)=true)(FB:xf B HI)(T:OwnTail hp HI bm){Q:yf}
 (hC:hp.get? C=some (excClassObj nm qn C N bs bm hdct sn sub ab col dd k0 k1 k2 k3 k5 newId))(hN:hp.Ns N mN)(hi:mN "__init__"=some (.ref fI))(eI:hp.get? fI=some oI)(cI:oI.cls=.type "function")(hl:us.length<=sizeLine)
 (hq:∀h' e,Heap.MadeExcOf hp h' e (.ref C) us->wpAny (model P w) (A.under (.builtin "type.__call__" ⟨.ref C::us,[]⟩)) (call (.ref fI) (.ref e::us)) (λr s'=>r=.none/\Q (.ref e) s') E ⟨h',gs,dr,tk,os⟩):
 wpAny (model P w) A (call (.ref C) us) Q E ⟨hp,gs,dr,tk,os⟩:=by
 have t1:=tc_lookup;have t2:=tc_bind (.ref C);have hT:(⟨hp,gs,dr,tk,os⟩:CW).TypeIs (.ref C) "type":=⟨_,hC,rfl⟩;refine wpAny_call (codeAny_of_tree ?_);show wpAny _ _ (callAny (.ref C) _) _ _ _
 repeat (any_goals (first|assumption|(with_reducible refine wpAny_loadPart_at hC ?_)|wp_step))
 exact⟨rfl,codeAny_call_builtin_at (Code.quiet_builtin _ (by decide +kernel)) entry_typeCall (wpAny_check_type_call_sub hC (lQ Fn K1 FB T hC hN hi eI cI hl λh' e hm=>hq h' e hm))⟩
end
theorem rG:xf "ValueError" [.type "ValueError",.type "Exception",.type "BaseException",.type "object"] :=
 ⟨by rw[mroOf_type];kernel_rfl,⟨_,PySem.F.excBase_ValueError.init.lookup⟩,by decide +kernel,by decide +kernel⟩
def qV (a:Addr)(cls:Value):HO:=.ext λh=>∃o vs,h.get? a=some o/\o.cls=cls/\o.data=.fields vs/\o.dict=none/\eJ vs
def de (dx:Addr)(fs:List (Str×V)):HO:=.ext λh=>∃mA,h.Ns1 dx mA/\(∀f,fb (fs.lookup f) (mA f))/\Within mA (fs.map (·.1))
variable {vs:vd}
section
variable {P:zr}{w:World}{H:Hp}{h:Heap}{a dx:Addr}{cls:Value}{fs:List (Str×V)}{fr:Bool}
theorem zT (e:h.get? a=some o)(hc:o.cls=cls)(hd:o.data=.fields vs)(hn:o.dict=none)(hu:eJ vs):bc P w H h a (qV a cls):=
 ⟨⟨o,vs,e,hc,hd,hn,hu⟩,⟨o,e⟩,λh1 h2 ⟨o,vs,e,hc,hd,hn,hu⟩ k=>⟨o,vs,k o e,hc,hd,hn,hu⟩⟩
theorem zR (e:h.get? a=some o)(hc:o.cls=cls)(hd:o.data=.fields vs)(hn:o.dict=some dx)(hu:fr=true->eJ vs):bc P w H h a (gw a cls dx fr):=
 ⟨⟨o,vs,e,hc,hd,hn,hu⟩,⟨o,e⟩,λh1 h2 ⟨o,vs,e,hc,hd,hn,hu⟩ k=>⟨o,vs,k o e,hc,hd,hn,hu⟩⟩
theorem Bp (k:gu P w H h)(e:H a=some (qV a cls)):∃o vs,h.get? a=some o/\o.cls=cls/\o.data=.fields vs/\o.dict=none/\eJ vs:=(k a _ e).1
theorem oE (k:gu P w H h)(e:H a=some (gw a cls dx fr)):∃o vs,h.get? a=some o/\o.cls=cls/\o.data=.fields vs/\o.dict=some dx/\(fr=true->eJ vs):=(k a _ e).1
theorem Bd (k:gu P w H h)(e:H dx=some (de dx fs)):∃mA,h.Ns1 dx mA/\(∀f,fb (fs.lookup f) (mA f))/\Within mA (fs.map (·.1)):=(k dx _ e).1
theorem uU {mA:vK}(n:h.Ns1 dx mA)(r:∀f,fb (fs.lookup f) (mA f))(wi:Within mA (fs.map (·.1))):bc P w H h dx (de dx fs):=by
 refine⟨⟨mA,n,r,wi⟩,?_,λh1 h2 ⟨m,n,r,wi⟩ k=>⟨m,?_,r,wi⟩⟩
 ·obtain⟨o,es,ep,e,_⟩:=n;exact⟨o,e⟩
 ·obtain⟨o,es,ep,e,rest⟩:=n;exact⟨o,es,ep,k o e,rest⟩
end
def pJ (K:Frag)(C f:Addr)(HI:oN)(newId:String):Bool :=
 match K.lookup C with
 |some ⟨.type "type",_,.cls cd,sl⟩ =>
  match cd.mro,sl.toList with
  | .ref D::tl,[_,_,_,_,some (.builtin made),_]=>(D==C)&&((made==newId)&&((!cd.hasDel)&&(tailIn K HI tl&&(nsOkIn K cd.ns&&(nsIn K cd.ns "__init__"==some (some (.ref f)))))))
  |_,_=>false
 |_=>false
theorem CZ {K:Frag}{h:Heap}{N:Addr}{m:vK}{n:Str}{v:Value}(X:K.In h)(G:h.Ns N m)(e:nsIn K N n=some (some v)):m n=some v:=by
 obtain⟨o,es,ep,ho,hd,z,hf⟩:=G;unfold nsIn at e
 split at e
 ·rename_i q
  have w:=(X _ _ q).symm.trans ho
  cases w
  cases hd
  rw[<-hf]
  split at e
  ·rename_i en he
   have e2:en.val=v:=Option.some.inj (Option.some.inj e);simp only[nsFind,findBy,<-Array.find?_toList,he];exact congrArg some e2
  ·split at e <;> cases e
 ·cases e
theorem xx {K:Frag}{h:Heap}{C f:Addr}{HI:oN}{newId:String}(X:K.In h)(q:pJ K C f HI newId=true):
 ∃bm N nm qn bs hd sn sub ab col dd k0 k1 k2 k3 k5 mN,h.get? C=some (excClassObj nm qn C N bs bm hd sn sub ab col dd k0 k1 k2 k3 k5 newId)/\h.Ns N mN/\mN "__init__"=some (.ref f)/\OwnTail h HI bm:=by
 unfold pJ at q
 split at q
 ·rename_i dd cd sl ho
  split at q
  ·rename_i D tl k0 k1 k2 k3 made k5 hm hs
   rw[Bool.and_eq_true,Bool.and_eq_true,Bool.and_eq_true,Bool.and_eq_true,Bool.and_eq_true] at q;obtain⟨q1,q2,q3,q4,q5,q6⟩:=q;have q1:=eq_of_beq q1;have q2:=eq_of_beq q2;subst q1 q2;obtain⟨nm,bs,mro,ns,qn,hd,sn,sub,ab,col,wz⟩:=cd
   have q7:wz=false:=by simpa using q3
   dsimp only at hm;subst hm q7
   have Z5:sl = #[k0,k1,k2,k3,some (.builtin made),k5]:=by
    obtain⟨l⟩:=sl;simp only at hs;rw[hs]
   subst Z5;have G:h.Ns ns _:=.of_isNs (isNs_of_in X q5);exact⟨tl,ns,nm,qn,bs,hd,sn,sub,ab,col,dd,k0,k1,k2,k3,k5,_,X _ _ ho,G,CZ X G (eq_of_beq q6),tail_of_in X q4⟩
  ·cases q
 ·cases q
section
variable {X:Cx}{CX:CH}{k:Nat}{f C:Addr}{fd:zI}{ps:Bg}{sp:Sp}{E:XK}{B Bn newId Z4 IH K0:String}{HI KZ:oN}{oI:Obj}
def qz (C:Addr)(sp:Sp)(E:XK):List V->Hp->VK->Prop:=λvs H Q=>vs.length<=sizeLine/\∀a,H a=none->sp (.ref a::vs) (upd H a (qV a (.ref C))) (λv H2=>v=.non/\Q (.ref a) H2) E
theorem wx (Fn:ExcBaseFacts Bn newId K0 KZ)(K1:HI.contains (.type Bn)=true)(FB:xf B HI)(q:pJ X.K C f HI newId=true)(lI:X.K.lookup f=some oI)(cI:oI.cls=.type "function")
 (F:Ha X.prog X.w X.K X.mg X.base CX k f fd ps sp)(hr:qL (k+1) X.A)(hb:aA X.K fd ps [])(hx:fJ CX X E):cH X (.ref C) (qz C sp E):=by
 intro pins s σ H vs us Q I r ⟨hl,h⟩;obtain⟨bm,N,nm,qn,bs,hdct,sn,sub,ab,col,dd,k0,k1,k2,k3,k5,mN,hC,hN,hi,T⟩:=xx I.kIn q
 have IB:us.length<=sizeLine:=by rw[<-r.length];exact hl
 refine mY Fn K1 FB T hC hN hi (I.kIn _ _ lI) cI IB λh' a hm=>?_;obtain⟨t,h1,h2,h3⟩:=hm.there;have I2:=I.newObj (t':=s.toks) (o:=qV a (.ref C)) hm.keeps hm.new (zT h1 rfl rfl rfl ⟨t,rfl⟩);have hq:=h a (I.aba hm.new);have r2:aK (V.ref a::vs) (Value.ref a::us):=.cons rfl r
 have Jk:(Value.ref a::us++[]).length=ps.length:=by
  have e:=r2.length;rw[F.len _ _ _ _ hq] at e;rw[List.append_nil];exact e.symm
 have Xk:=hb _ (Value.ref a::us) I2.kIn Jk;rw[List.append_nil] at Xk;refine wpAny_call (codeAny_mono (F.run _ X.stack _ _ ⟨Value.ref a::us,[]⟩ (Value.ref a::us) _ _ E (hr.make C us []) (I2.abC.make C us []) Xk r2 hq) λres s' JE=>?_)
 cases res with
 |error e=>exact hx pins σ _ _ e s' I2 JE
 |ok fl =>
  cases fl with
  |ret u =>
   obtain⟨v,H',I3,rv,ev,q3⟩:=I2.after JE;subst ev;exact⟨rv,⟨V.ref a,H',I3,rfl,q3⟩⟩
  |next=>exact False.elim JE
  |brk=>exact False.elim JE
  |cont=>exact False.elim JE
end
def iT:List Value->List Value
 | .ref _::r=>iT r
 |l=>l
abbrev A4:List Value:=[.type "ValueError",.type "Exception",.type "BaseException",.type "object"]
abbrev zW:List Value:=[.type "KeyError",.type "LookupError",.type "Exception",.type "BaseException",.type "object"]
theorem qf (self:Value)(l:oN):refuseLoop self "__setattr__" l=refuseLoop self "__setattr__" (iT l):=by
 induction l with
 |nil=>rfl
 |cons v r ih =>
  cases v with
  |ref c=>rw[refuseLoop_ref];exact ih
  |_=>rfl
theorem vn (self:Value):refuseLoop self "__setattr__" A4=pure ():=by kernel_rfl
theorem vz (self:Value):refuseLoop self "__setattr__" zW=pure ():=by kernel_rfl
structure Fs (K:Frag)(C:Addr):Prop where
 ek:Fx K C
 ok:((clsIn K C).any λcd=>cd.hasDict&&(iT cd.mro==A4 || iT cd.mro==zW))=true
 sa:findIn K (.ref C) "__setattr__"=some (some (.builtin "object.__setattr__"))
section
variable {P:zr}{w:World}{A:Around}{E:yf}{K:Frag}{C x dx:Addr}{s:CW}{ox:Obj}{od:Option Obj}{name:Str}{v:Value}{mA:vK}
theorem Fs.cd (k:Fs K C):∃cd,clsIn K C=some cd/\cd.hasDict=true/\∀self,refuseLoop self "__setattr__" cd.mro=pure ():=by
 obtain⟨cd,hc,z⟩:=any_some k.ok;rw[Bool.and_eq_true] at z;refine⟨cd,hc,z.1,λself=>?_⟩;rw[qf]
 rcases Bool.or_eq_true _ _▸z.2 with q|q
 ·rw[eq_of_beq q];exact vn self
 ·rw[eq_of_beq q];exact vz self
theorem uX {R:Result->Shared->Prop}{tk:Tok}(X:K.In s.heap)(k:Fs K C)(J:InstAt s.heap x ox C od)(hn:findIn K (.ref C) name=some none)
 (h:wpAny (model P w) A.in1 (Builtin.ObjectAttr.storeInOwnDict (.ref x) (.ref C) (.str name tk) name v false)
  (λfin s'=>match fin with| .done f=>R (.ok f) s'| .again c'=>c'.quiet=true/\codeAny (model P w) A c' R s') (λe s'=>R (.error e) s') s):
 codeAny (model P w) A (.call (.builtin "object.__setattr__") ⟨[.ref x,.str name tk,v],[]⟩) R s:=by
 have SF:=PySem.F.store_object;obtain⟨cd,hc,hh,hp⟩:=k.cd;have sub:Looks (model P w) s.heap (isInstance (.ref x) (.type "object")) true:=J.type.andThen (looks_mroIn X k.ek.ob);have hm:Looks (model P w) s.heap (mroOf (.ref C)) cd.mro:=(looks_clsIn X hc).andThen .now;refine codeAny_call_builtin SF.slot.plain SF.entry (@check_slot (model P w) _ _ s "object.__setattr__" "object" "__setattr__" (.ref x) [.str name tk,v] [] _ SF.kind SF.split sub (SF.args (.ref x) (.str name tk) v) ?_);rw[osa_eq,refuse_eq];refine wpAny_bind (wpAny_bind (J.type.here (wpAny_bind (hm.here ?_))));rw[hp];refine wpAny_pure (wpAny_bind (J.type.here (wpAny_bind ((looks_findIn X hn).here (wpAny_bind ?_)))));exact wpAny_pure h
theorem yW {Q:Unit->Shared->Prop}(X:K.In s.heap)(k:Fs K C)(hx:s.heap.get? x=some ox)(hc:ox.cls=.ref C)(hd:ox.data=.fields vs)(ho:ox.dict=none)(hn:findIn K (.ref C) name=some none)
 (h:∀h',h'.Ns1 s.heap.objs.size (λy=>if y=name then some v else none)->h'.get? x=some {ox with dict:=some s.heap.objs.size}->(∀b o,b≠x->s.heap.get? b=some o->h'.get? b=some o)->Q () {s with heap:=h',toks:=s.toks+2}):
 wpAny (model P w) A (setAttr (.ref x) name v) Q E s:=by
 have J:InstAt s.heap x ox C none:=⟨hx,hc,by unfold notCls;rw[hd],by rw[ho];trivial⟩;refine set_plain X J k.sa (uX (s:={s with toks:=s.toks+1}) X k J hn ?_);obtain⟨cd,Ia,hh,_⟩:=k.cd;obtain⟨oc,Xl,SO,HG⟩:=ox;dsimp only at hc hd ho;subst hc hd ho;refine wpAny_bind (wpAny_pure (wpAny_bind (wpAny_bind (wpAny_loadPart hx (wpAny_bind (PySem.W.Looks.here (s:={s with toks:=s.toks+1}) (PySem.W.looks_clsIn X Ia) ?_))))));rw[hh];show wpAny _ _ (alloc _>>=λd=>update x _>>=λ_=>dictMade _ x d) _ _ _;have HU:x≠s.heap.objs.size:=Nat.ne_of_lt (Heap.lt_size hx);have e1:(s.heap.push {cls:=.type "dict",data:=.dict #[]}).get? x=some ⟨.ref C,none,.fields vs,HG⟩:=Heap.get?_push_of_some _ hx;refine wpAny_bind (wpAny_alloc' (wpAny_bind (wpAny_update' e1 ?_)));show wpAny _ _ (pure (some s.heap.objs.size)) _ _ _;refine wpAny_pure ?_
 have e2:((s.heap.push {cls:=.type "dict",data:=.dict #[]}).update x λo=>{cls:=o.cls,dict:=some s.heap.objs.size,data:=o.data,slots:=o.slots}).get? s.heap.objs.size=some {cls:=.type "dict",data:=.dict #[]}:=
  (Heap.get?_update_ne _ _ _ _ HU.symm).trans (Heap.get?_push_at rfl rfl)
 have e3:((s.heap.push {cls:=.type "dict",data:=.dict #[]}).update x λo=>{cls:=o.cls,dict:=some s.heap.objs.size,data:=o.data,slots:=o.slots}).get? x=some ⟨.ref C,some s.heap.objs.size,.fields vs,HG⟩ :=
  Heap.get?_update_self _ e1 rfl
 have e4:((s.heap.push {cls:=.type "dict",data:=.dict #[]}).update x λo=>{cls:=o.cls,dict:=some s.heap.objs.size,data:=o.data,slots:=o.slots}).Ns s.heap.objs.size (λ_=>none):=
  ⟨_,#[],_,e2,rfl,λe he=>absurd he (by simp),λ_=>rfl⟩
 show wpAny _ _ (Builtin.ObjectAttr.storeInDict s.heap.objs.size (.str name s.toks) name v) _ _ _;unfold Builtin.ObjectAttr.storeInDict Builtin.ObjectAttr.newKeyGuard;refine wpAny_bind (wpAny_pure (wpAny_bind (wpAny_nsSet1 (Heap.Ns1.of_empty e4) λh' n2 sb=>?_)));obtain⟨oD,W3,W4,Nn,Np,JD⟩:=n2.count (Within.cons name v Within.nil);refine wpAny_bind (wpAny_lookBehind Nn (by rw[Np];exact pastItsLine_dict (Nat.le_trans JD (by rw[List.length_cons,List.length_nil,sizeLine_eq];omega))) ?_);refine wpAny_pure (h h' n2 ((sb.2 x HU).trans e3) λb o hb e=>(sb.2 b (Nat.ne_of_lt (Heap.lt_size e))).trans ((Heap.get?_update_ne _ _ _ _ hb).trans (Heap.get?_push_of_some _ e)))
theorem y8 {Q:Unit->Shared->Prop}{ns:Bg}(X:K.In s.heap)(k:Fs K C)(hx:s.heap.get? x=some ox)(hc:ox.cls=.ref C)(hd:ox.data=.fields vs)(ho:ox.dict=some dx)(nx:s.heap.Ns1 dx mA)(hn:findIn K (.ref C) name=some none)
 (hw:Within mA ns)(hsz:ns.length<=sizeLine)
 (h:∀h',h'.Ns1 dx (λy=>if y=name then some v else mA y)->Heap.SameBut dx s.heap h'->Q () {s with heap:=h',toks:=s.toks+2}):
 wpAny (model P w) A (setAttr (.ref x) name v) Q E s:=by
 obtain⟨o2,es,ep,e2,rest⟩:=id nx;have J:InstAt s.heap x ox C (some o2):=⟨hx,hc,by unfold notCls;rw[hd],by rw[ho];exact e2⟩;refine set_plain X J k.sa (uX (s:={s with toks:=s.toks+1}) X k J hn ?_);obtain⟨cd,Ia,hh,_⟩:=k.cd;obtain⟨oc,Xl,SO,HG⟩:=ox;dsimp only at hc hd ho;subst hc hd ho;refine wpAny_bind (wpAny_pure (wpAny_bind (wpAny_bind (wpAny_loadPart hx (wpAny_bind (PySem.W.Looks.here (s:={s with toks:=s.toks+1}) (PySem.W.looks_clsIn X Ia) ?_))))));rw[hh];refine wpAny_pure (a:=some dx) (wpAny_bind (wpAny_pure (wpAny_bind ?_)));refine wpAny_nsSet1 (s:={s with toks:=s.toks+1}) nx λh' n2 sb=>?_;obtain⟨oD,W3,W4,Nn,Np,JD⟩:=n2.count (Within.cons name v hw);refine wpAny_bind (wpAny_lookBehind Nn (by rw[Np];exact pastItsLine_dict (Nat.le_trans JD (by rw[List.length_cons];omega))) ?_);exact wpAny_pure (h _ n2 sb)
end
section
variable {X:Cx}{pins:List (Addr×Obj)}{σ:St}{H:Hp}{s:CW}{A:Around}{E:yf}{a dx C:Addr}{fs:List (Str×V)}{f:Str}{v:V}{fr:Bool}
theorem pB {y:V}{u:Value}{Q:Unit->Shared->Prop}(I:Inv X pins σ H s)(e:H a=some (qV a (.ref C)))(k:Fs X.K C)(n:bV X.K C f)(ry:aD y u)
 (h:∀dx s',H dx=none->dx≠a->Inv X pins σ (upd (upd H dx (de dx [(f,y)])) a (gw a (.ref C) dx true)) s'->Q () s'):wpAny (model X.prog X.w) A (setAttr (.ref a) f u) Q E s:=by
 obtain⟨o,vs,ho,hc,hd,hx,hu⟩:=Bp I.hok e;refine yW I.kIn k ho hc hd hx n λh' n2 Io hk=>?_;have HU:s.heap.objs.size≠a:=λz=>absurd (Heap.lt_size ho) (by rw[z];exact Nat.lt_irrefl _);have SI:H s.heap.objs.size=none:=I.hok.fresh (Nat.le_refl _);refine h _ _ SI HU ?_;obtain⟨oc,Xl,SO,HG⟩:=o;dsimp only at hc hd hx;subst hc hd hx;have m1:(h'.update a λ_=>⟨.ref C,none,.fields vs,HG⟩).get? a=some ⟨.ref C,none,.fields vs,HG⟩:=Heap.get?_update_self _ Io rfl;have m2:∀b,b≠a->(h'.update a λ_=>⟨.ref C,none,.fields vs,HG⟩).get? b=h'.get? b:=λb hb=>Heap.get?_update_ne _ _ _ _ hb
 have Z6:(h'.update a λ_=>⟨.ref C,none,.fields vs,HG⟩).Ns1 s.heap.objs.size (λy=>if y=f then some u else none):=by
  obtain⟨o2,es,ep,e2,rest⟩:=n2;exact⟨o2,es,ep,(m2 _ HU).trans e2,rest⟩
 have rel:∀g,fb ([(f,y)].lookup g) (if g=f then some u else none):=λg=>by
  by_cases q:g=f
  ·rw[if_pos q,q];simp only[List.lookup,beq_self_eq_true];exact ry
  ·rw[if_neg q]
   have:(g==f)=false:=by simpa using q
   simp only[List.lookup,this];exact True.intro
 have wi:Within (λg=>if g=f then some u else none) ([(f,y)].map (·.1)):=λg hg=>by
  by_cases q:g=f
  ·rw[q];simp
  ·exact absurd (if_neg q) hg
 have I1:=I.laid (a:=s.heap.objs.size) (o:=de s.heap.objs.size [(f,y)]) (h':=h'.update a λ_=>⟨.ref C,none,.fields vs,HG⟩) (t':=s.toks+2) (λb z q=>by
  by_cases hb:b=a
  ·subst hb;rw[ho] at q
   cases q
   exact m1
  ·exact(m2 b hb).trans (hk b z hb q)) (Nat.le_refl _) (uU Z6 rel wi)
 exact I1.write (x:=a) (e:=a) (by rw[aq (Ne.symm HU),e];exact True.intro) (.inl rfl) (λb z hb q=>(m2 b hb).symm.trans q) ⟨_,Io⟩ (zR Io rfl rfl rfl λ_=>hu)
theorem pF {y:V}{u:Value}{Q:Unit->Shared->Prop}(I:Inv X pins σ H s)(e:H a=some (gw a (.ref C) dx fr))(ed:H dx=some (de dx fs))(k:Fs X.K C)(n:bV X.K C f)(hl:fs.length<1000)(ry:aD y u)
 (h:∀s',Inv X pins σ (upd H dx (de dx (cf f y fs))) s'->Q () s'):wpAny (model X.prog X.w) A (setAttr (.ref a) f u) Q E s:=by
 obtain⟨o,vs,ho,hc,hd,hx,hu⟩:=oE I.hok e;obtain⟨mA,ns,r,wi⟩:=Bd I.hok ed
 have hz:(fs.map (·.1)).length<=sizeLine:=by rw[List.length_map,sizeLine_eq];omega
 refine y8 I.kIn k ho hc hd hx ns n wi hz λh' n2 sb=>h _ ?_;have hd2:∃o,h'.get? dx=some o:=let⟨o,_,_,e',_⟩:=n2;⟨o,e'⟩;refine I.write (x:=dx) (e:=dx) (by rw[ed];exact True.intro) (.inl rfl) (λb q hb z=>(sb.2 b hb).trans z) hd2 (uU n2 (λg=>?_) λg hg=>?_)
 ·rw[gS]
  by_cases q:g=f
  ·rw[if_pos q,if_pos q];exact ry
  ·rw[if_neg q,if_neg q];exact r g
 ·by_cases q:g=f
  ·rw[q];exact(fV f y fs).1
  ·refine(fV f y fs).2 g (wi g λz=>hg ?_);rw[if_neg q];exact z
end
def CC (K:Frag)(ta tv:TE)(f:Str):TS:=λD σ H=>tv σ H λy H1=>ta σ H1 λx H2=>∃a C,x=.ref a/\H2 a=some (qV a (.ref C))/\Fs K C/\bV K C f/\∀dx,H2 dx=none->dx≠a->D.nx σ (upd (upd H2 dx (de dx [(f,y)])) a (gw a (.ref C) dx true))
def Cr (K:Frag)(ta tv:TE)(f:Str):TS:=λD σ H=>tv σ H λy H1=>ta σ H1 λx H2=>∃a C dx fr fs,x=.ref a/\H2 a=some (gw a (.ref C) dx fr)/\H2 dx=some (de dx fs)/\Fs K C/\bV K C f/\fs.length<1000/\D.nx σ (upd H2 dx (de dx (cf f y fs)))
section
variable {X:Cx}{o e value:Expr}{f:Str}{pos pos':Pos}{ta tv:TE}
theorem xW (ha:PE X o ta)(hv:PE X value tv)(hs:swapsWith value (some (.Attribute o f pos')) pos.line X.env=pure false):PS X (.Assign [.Attribute o f pos'] value pos) (CC X.K ta tv f):=by
 intro pins s σ H D I h;refine plainObj_wpAny_Assign_Attribute (bu (hv pins s σ H _ I h) λu s1 ⟨y,H1,I1,ry,q⟩=>bu (ha pins s1 σ H1 _ I1 q) λov s2 z'=>?_) hs;obtain⟨x,H2,I2,rx,a,C,ex,ea,k,n,q2⟩:=z';subst ex
 cases(show ov=Value.ref a from rx)
 exact pB I2 ea k n ry λdx s3 hn ne I3=>⟨σ,_,I3,q2 dx hn ne⟩
theorem yy (ha:PE X o ta)(hv:PE X value tv)(hs:swapsWith value (some (.Attribute o f pos')) pos.line X.env=pure false):PS X (.Assign [.Attribute o f pos'] value pos) (Cr X.K ta tv f):=by
 intro pins s σ H D I h;refine plainObj_wpAny_Assign_Attribute (bu (hv pins s σ H _ I h) λu s1 ⟨y,H1,I1,ry,q⟩=>bu (ha pins s1 σ H1 _ I1 q) λov s2 z'=>?_) hs;obtain⟨x,H2,I2,rx,a,C,dx,fr,fs,ex,ea,ed,k,n,hl,q2⟩:=z';subst ex
 cases(show ov=Value.ref a from rx)
 exact pF I2 ea ed k n hl ry λs3 I3=>⟨σ,_,I3,q2⟩
end
def fQ (K:Frag)(C:Addr):Prop:=∃oC,K.lookup C=some oC/\oC.cls=.type "type"
section
variable {M:Model}{A:Around}{E:yf}{K:Frag}{s:CW}{env:Env}
theorem vM {x:Sem Value}{Q:Flow->Shared->Prop}(hh:A.handled=none)
 (h:wpAny M A x (λv s₁=>∃e oe C vs,v=.ref e/\K.In s₁.heap/\Fx K C/\fQ K C/\s₁.heap.get? e=some oe/\oe.cls=.ref C/\oe.data=.fields vs/\eJ vs/\E (.ref e) s₁) E s):
 wpAny M A (raiseStmt env (some x) none) Q E s:=by
 unfold raiseStmt;refine wpAny_bind (wpAny_mono h (λv s₁ h₁=>?_) λ_ _ x=>x);obtain⟨e,oe,C,vs,rfl,X,k,⟨oC,lC,cC⟩,he,hc,hd,⟨t,rfl⟩,hE⟩:=h₁;obtain⟨hp,g,d,tk,os⟩:=s₁;obtain⟨oc,od,SO,HG⟩:=oe;dsimp only at hc hd;subst hc hd;have L0:Looks M hp (typeOf (.ref e)) (.ref C):=(Looks.ld he).andThen .now;have L1:=looks_mroIn (M:=M) X k.be;have hC:hp.get? C=some oC:=X _ _ lC
 repeat (first|(with_reducible refine wpAny_loadPart_at he ?_)|(with_reducible refine wpAny_loadPart_at hC ?_;rw[cC])|(with_reducible refine Looks.at L0 ?_)|(with_reducible refine Looks.at L1 ?_)|wp_step)
 exact wpAny_raiseNew_none hh hE
end
section
variable {X:Cx}{pins pins':List (Addr×Obj)}{σ:St}{H:Hp}{s:CW}{XE:yf}{a dx C:Addr}
def Ap (K:Frag)(R:St->Addr->Addr->Addr->Hp->Prop)(te:TE):TS:=λ_ σ H=>te σ H λv H1=>∃a C dx,v=.ref a/\H1 a=some (gw a (.ref C) dx true)/\Fx K C/\fQ K C/\R σ a C dx H1
theorem fM {R:St->Addr->Addr->Addr->Hp->Prop}{e:Expr}{te:TE}{pos:Pos}(hc:X.calm=true)(hR:∀pins σ H s a C dx,Inv X pins σ H s->H a=some (gw a (.ref C) dx true)->R σ a C dx H->X.xe (.ref a) s)(he:PE X e te):
 PS X (.Raise (some e) none pos) (Ap X.K R te):=by
 intro pins s σ H D I h;rw[arm_exec_Raise];refine wpAny_bind (wpAny_standAt (vM (K:=X.K) (I.ok.hd hc) (wpAny_bind (bu (he pins s σ H _ I h) λu s1 ⟨v,H1,I1,rv,a,C,dx,ev,ea,k,tc,r⟩=>wpAny_bind (wpAny_standAt (wpAny_pure ?_))))));subst ev
 cases(show u=Value.ref a from rv)
 obtain⟨oe,vs,h1,h2,h3,_,h5⟩:=oE I1.hok ea;exact⟨a,oe,C,vs,rfl,I1.kIn,k,tc,h1,h2,h3,h5 rfl,hR pins σ H1 s1 a C dx I1 ea r⟩
end
end L2
namespace Srt
open PySem PySem.W PyProof.Rows L2
section
variable {α:Type}
def mV (k:Ky)(x:α):List (Ky×α)->List (Ky×α)
 |[]=>[(k,x)]
 |(j,y):: r=>if mq k j=true then(k,x):: (j,y):: r else(j,y):: mV k x r
def di:List (Ky×α)->List (Ky×α)
 |[]=>[]
 |(k,x):: r=>mV k x (di r)
theorem jN (k:Ky)(x:α):∀l:List (Ky×α),(mV k x l).Perm ((k,x):: l)
 |[]=>.refl _
 |(j,y):: r=>by
  unfold mV
  split
  ·exact .refl _
  ·exact((jN k x r).cons _).trans (.swap _ _ _)
theorem dA:∀l:List (Ky×α),(di l).Perm l
 |[]=>.refl _
 |(k,x):: r=>(jN k x _).trans ((dA r).cons _)
def BU (l:List (Ky×α)):Prop:=l.Pairwise λa b=>mq a.1 b.1=true
theorem tJ {k:Ky}{x:α}:∀{l:List (Ky×α)},BU l->(∀p∈l,p.1≠k)->BU (mV k x l)
 |[],_,_=>List.pairwise_singleton _ _
 |(j,y):: r,h,hn=>by
  obtain⟨h1,h2⟩:=List.pairwise_cons.mp h;unfold mV
  by_cases e:mq k j=true
  ·rw[if_pos e];refine List.pairwise_cons.mpr ⟨λp hp=>?_,h⟩
   rcases List.mem_cons.mp hp with rfl|hp
   ·exact e
   ·exact jB e (h1 p hp)
  ·rw[if_neg e];have jk:mq j k=true:=(jK (hn _ List.mem_cons_self)).resolve_right e;refine List.pairwise_cons.mpr ⟨λp hp=>?_,tJ h2 λp hp=>hn p (List.mem_cons_of_mem _ hp)⟩
   rcases List.mem_cons.mp ((jN k x r).mem_iff.mp hp) with rfl|hp
   ·exact jk
   ·exact h1 p hp
theorem lu:∀{l:List (Ky×α)},(l.map (·.1)).Nodup->BU (di l)
 |[],_=>.nil
 |(k,x):: r,h=>by
  obtain⟨h1,h2⟩:=List.nodup_cons.mp h;exact tJ (lu h2) λp hp z=>h1 (z▸List.mem_map_of_mem (f:=(·.1)) ((dA r).mem_iff.mp hp))
theorem nM:∀{l1 l2:List (Ky×α)},BU l1->BU l2->l1.Perm l2->l1=l2
 |[],l2,_,_,p=>(List.nil_perm.mp p).symm
 |a::l1,[],_,_,p=>(List.nil_perm.mp p.symm)
 |a::l1,b::l2,h1,h2,p=>by
  obtain⟨u1,v1⟩:=List.pairwise_cons.mp h1;obtain⟨u2,v2⟩:=List.pairwise_cons.mp h2
  have e:a=b:=by
   rcases List.mem_cons.mp (p.mem_iff.mp List.mem_cons_self) with z|z
   ·exact z
   ·rcases List.mem_cons.mp (p.mem_iff.mpr (List.mem_cons_self (a:=b) (l:=l2))) with w|w
    ·exact w.symm
    ·have c1:=u2 a z;have c2:=u1 b w;have c3:=jB c1 c2;rw[lS] at c3
     cases c3
  subst e;rw[nM v1 v2 (List.Perm.cons_inv p)]
theorem qc {l1 l2:List (Ky×α)}(nd:(l2.map (·.1)).Nodup)(h:BU l1)(p:l1.Perm l2):l1=di l2:=nM h (lu nd) (p.trans (dA l2).symm)
end
def vY (xs:List V)(p:Array Nat):List V:=p.toList.map λi=>xs.getD i .non
theorem xH {xs:List V}{us:oN}(rv:aK xs us){n:Nat}{r:Nat->Nat}{p:Array Nat}(P:Pm n r p)(hn:n<=xs.length):aK (vY xs p) (cG us p):=by
 have key:∀l:List Nat,(∀i∈l,i<xs.length)->aK (l.map λi=>xs.getD i .non) (l.map λi=>us.getD i Value.none):=by
  intro l
  induction l with
  |nil=>intro _;exact .nil
  |cons i l ih =>
   intro h;have hi:=h i List.mem_cons_self;obtain⟨u,e,r⟩:=rv.get (i:=i) (x:=xs[i]) (by simp[hi]);refine .cons ?_ (ih λj hj=>h j (List.mem_cons_of_mem _ hj));show aD (xs.getD i .non) (us.getD i Value.none);rw[List.getD_eq_getElem?_getD,List.getD_eq_getElem?_getD,e,show xs[i]?=some xs[i] by simp[hi]];exact r
 refine key p.toList λi hi=>?_
 have z:i∈(List.range n):=by
  have pl:p.toList.Perm (List.range n):=by simpa using P.perm.toList
  exact pl.mem_iff.mp hi
 have:=List.mem_range.mp z;omega
theorem yV {xs:List V}{ks:List Ky}(hl:xs.length=ks.length)(nd:ks.Nodup){p:Array Nat}(P:Pm xs.length (rk ks) p)(U:Up (rk ks) p xs.length):vY xs p=(di (ks.zip xs)).map (·.2):=by
 have pl:p.toList.Perm (List.range xs.length):=by simpa using P.perm.toList
 have e1:(List.range xs.length).map (λi=>(cD ks i,xs.getD i V.non))=ks.zip xs:=by
  apply List.ext_getElem
  ·simp[hl]
  ·intro i h1 h2
   have hi:i<xs.length:=by simpa using h1
   have hk:i<ks.length:=by omega
   simp[cD,hi,hk]
 have z:p.toList.map (λi=>(cD ks i,xs.getD i V.non))=di (ks.zip xs):=by
  refine qc ?_ ?_ ?_
  ·rw[List.map_fst_zip (by omega)];exact nd
  ·unfold BU;rw[List.pairwise_map];refine List.pairwise_iff_getElem.mpr λi j hi hj HW=>?_;have sz:=P.size;rw[Array.length_toList] at hi hj;have u:=U i j HW (by omega)
   have gi:p.getD i 0=p.toList[i]:=by simp[Array.getD,hi]
   have gj:p.getD j 0=p.toList[j]:=by simp[Array.getD,hj]
   rw[gi,gj] at u
   have bi:p.toList[i]<ks.length:=by rw[<-gi,<-hl];exact P.lt i (by omega)
   have bj:p.toList[j]<ks.length:=by rw[<-gj,<-hl];exact P.lt j (by omega)
   rw[<-wK bi bj];exact decide_eq_true u
  ·exact(pl.map _).trans (by rw[e1])
 rw[<-z,List.map_map];rfl
end Srt
namespace L2
open PySem PySem.Spec PyProof.Rows PySem.W
theorem jc:∀{ns:List Int}{us:oN},aK (ns.map V.int) us->IntsAre us ns
 |[],us,r=>by cases r;exact .nil
 |n::ns,us,r=>by
  rw[List.map_cons] at r
  cases r with
  |cons h t =>
   obtain⟨k,rfl⟩:=(show ∃k,_=Value.int n k from h);exact .cons n k (jc t)
theorem yz:∀{us:oN}{ns:List Int},IntsAre us ns->aK (ns.map V.int) us
 |_,_,.nil=>.nil
 |_,_,.cons n t h=>.cons ⟨t,rfl⟩ (yz h)
section
variable {X:Cx}
theorem sg:cH X (.builtin "sorted") (λxs H Q=>∃(l:Addr)(ns:List Int),xs=[.ref l]/\aO X.K H l (ns.map V.int)/\ns.length<64/\∀(D:Addr)(ms:List Int),H D=none->ms.Perm ns->ms.Pairwise (· <= ·)->Q (.ref D) (upd H D (.lst (ms.map V.int)))):=by
 intro pins s σ H xs us Q I r h;obtain⟨l,ns,rfl,hl,h64,q⟩:=h;obtain⟨u,rfl,ru⟩:=fE r
 cases(show u=Value.ref l from ru)
 obtain⟨its,rv,pl,hz⟩:=I.list hl;have e1:=rv.length;rw[List.length_map] at e1;refine sorted_ints pl.isList (jc rv) (by omega) λout ms a1 a2 a3=>?_;obtain⟨c,hc⟩:=sortedAll_at s.heap its out
 have fr:s.heap.get? (s.heap.objs.size+1)=none:=by
  cases e:s.heap.get? (s.heap.objs.size+1) with
  |none=>rfl
  |some o=>exact absurd (Heap.lt_size e) (Nat.not_lt.mpr (Nat.le_succ _))
 have hlen:(ms.map V.int).length<=sizeLine:=by
  rw[List.length_map,a2.length_eq];exact Nat.le_trans (Nat.le_of_lt h64) (by decide)
 exact⟨.ref _,_,I.newObj (t':=s.toks) (o:=.lst (ms.map V.int)) (λ_ _ e=>sortedAll_old e) fr ⟨hlen,out.toList,c,yz a1,by simpa using hc⟩,rfl,q _ ms (I.aba fr) a2 a3⟩
def mX (ns:List Int):Nat:=(firstMet (λi=>ns.getD i 0) ns.length).length
def Ak (K:Frag)(ta:TE):TE:=λσ H Q=>bH ta CP σ H λvs H1=>∃(l:Addr)(ns:List Int),vs=[.ref l]/\aO K H1 l (ns.map V.int)/\ns.length<4000/\Q (.int (mX ns)) H1
theorem wg {e:Expr}{ta:TE}{p p2 pos Jm:Pos}(ha:PE X e ta)(hc:X.calm=true)(SQ:Gl X "len")(SR:X.mg "len"=none)(Z7:Gl X "set")(Z8:X.mg "set"=none)(hs:gm e=false:=by rfl):
 PE X (.Call (.Name "len" p) [.Call (.Name "set" p2) [e] [] Jm] [] pos) (Ak X.K ta):=by
 intro pins s σ H Q I h;refine wpAny_Call_Name_kw (dm I SQ SR (by rfl) ?_ (by decide) (by decide));refine callWith_builtin1 ?_ (aU rfl) rfl;rw[aU rfl];show wpAny _ _ (spliced ((false,eval (.Call (.Name "set" p2) [e] [] Jm) X.env):: backTo pos (starEach [] X.env))) _ _ s;refine Calls.spliced_cons ?_;refine wpAny_Call_Name_kw (dm I Z7 Z8 (by rfl) ?_ (by decide) (by decide));refine callWith_type1 (bu (ah ha ag hs Jm pins s σ H _ I h) λus s1 z'=>?_) (aU hs) rfl;obtain⟨vs,H1,I1,r1,l,ns,hv,hq,hz,q⟩:=z';subst hv;obtain⟨u,rfl,ru⟩:=fE r1
 cases(show u=Value.ref l from ru)
 obtain⟨its,rv,pl,Xm⟩:=I1.list hq;have e1:=rv.length;rw[List.length_map] at e1;refine call_set_list (I.ok.hd hc) pl.isList (by simpa using jc rv) (by rw[List.size_toArray];show its.length+1<4096;omega) λh' tk hS old=>?_;obtain⟨o,es,ep,t,ho,hx,hd,_,_,_,hf,hn⟩:=hS;have SS:∀b o,s1.heap.get? b=some o->h'.get? b=some o:=λb o e=>old b o (Heap.lt_size e) e;have I2:Inv X pins σ H1 {s1 with heap:=h',toks:=tk}:=I1.kept (t':=tk) SS
 have en:es.size=mX ns:=by rw[hn];unfold mX;rw[List.size_toArray,<-e1]
 have le:mX ns<=ns.length:=firstMet_length_le _ _;refine Calls.spliced_nil ?_;refine call_len_set (s:={s1 with heap:=h',toks:=tk}) ho hx hd hf (by rw[en];omega) ?_;exact⟨.int (mX ns),H1,I2.tok _,⟨_,by rw[en]⟩,q⟩
end
theorem uN:∀(ns acc:List Int),(ns.foldl step_dedup acc).length<=acc.length+ns.length
 |[],acc=>by simp
 |n::ns,acc=>by
  have h:=uN ns (step_dedup acc n)
  have e:(step_dedup acc n).length<=acc.length+1:=by
   unfold step_dedup
   split
   ·omega
   ·simp
  simp only[List.foldl_cons,List.length_cons];omega
theorem ux:∀(ns acc:List Int),acc.Nodup->((ns.foldl step_dedup acc).length=acc.length+ns.length↔(acc++ns).Nodup)
 |[],acc,h=>by simp[h]
 |n::ns,acc,h=>by
  by_cases q:acc.any (·==n)=true
  ·have e:step_dedup acc n=acc:=by unfold step_dedup;rw[if_pos q]
   have m:n∈acc:=by simpa using q
   have l:=uN ns acc;constructor
   ·intro z;rw[List.foldl_cons,e,List.length_cons] at z;omega
   ·intro z;exact absurd rfl ((List.nodup_append.mp z).2.2 n m n List.mem_cons_self)
  ·have e:step_dedup acc n=acc++[n]:=by unfold step_dedup;rw[if_neg q]
   have m:n∉acc:=by simpa using q
   have nd:(acc++[n]).Nodup:=by
    refine List.nodup_append.mpr ⟨h,by simp,λa ha b hb z=>?_⟩
    have:b=n:=by simpa using hb
    subst this;subst z;exact m ha
   have ih:=ux ns (acc++[n]) nd;rw[List.foldl_cons,e];rw[List.append_assoc] at ih;simp only[List.length_append,List.length_cons,List.length_nil] at ih |-;rw[<-(show acc++([n]++ns)=acc++n::ns from rfl),<-ih];constructor <;> intro z <;> omega
theorem tU (ns:List Int):mX ns=ns.length↔ns.Nodup:=by
 have e:(List.range ns.length).map (λi=>ns.getD i 0)=ns:=by
  apply List.ext_getElem
  ·simp
  ·intro i h1 h2;simp[h2]
 unfold mX firstMet;rw[e];simpa using ux ns [] List.nodup_nil
def yw (K:Frag):List V->Hp->VK->Prop:=λxs H Q=>∃p ys,xs=[.ref p]/\((aO K H p ys/\∀l,H l=none->Q (.ref l) (upd H l (.tup ys)))\/(bw K H p ys/\Q (.ref p) H))
def tY (K:Frag):List V->Hp->VK->Prop:=λxs H Q=>∃p ys,xs=[.ref p]/\(aO K H p ys\/bw K H p ys)/\∀l,H l=none->Q (.ref l) (upd H l (.lst ys))
def zi (K:Frag):List V->Hp->VK->Prop:=λxs H Q=>∃(l:Addr)(ns:List Int),xs=[.ref l]/\aO K H l (ns.map V.int)/\ns.length<64/\∀(D:Addr)(ms:List Int),H D=none->ms.Perm ns->ms.Pairwise (· <= ·)->Q (.ref D) (upd H D (.lst (ms.map V.int)))
variable {K:Frag}
section
variable {X:Cx}
theorem eC (hK:X.K=K):cH X (.type "tuple") (yw K):=by subst hK;exact mr
theorem ou {K:Frag}(hK:X.K=K):cH X (.type "list") (tY K):=by subst hK;exact c8
theorem ir (hK:X.K=K):cH X (.builtin "sorted") (zi K):=by subst hK;exact sg
theorem BD (hK:X.K=K):Df X (BW K):=by subst hK;exact cb
variable {tg l:Expr}{tl:TE}
theorem BN (hK:X.K=K)(hl:PE X l tl):PI X tg l (De K tl):=by subst hK;exact wQ hl
def CK (K:PySem.W.Frag):R2:=λx y H Q=>∃p q xs,x=.ref p/\y=.ref q/\aO K H p xs/\aO K H q []/\Q (.bl (!decide (xs=[]))) H
theorem xK {k:Nat}(hr:qL k X.A):gB X (compareOp .NotEq) (CK X.K):=by
 intro pins s σ H x y v u Q I rx ry h;obtain⟨p,q,xs,rfl,rfl,h1,h2,w⟩:=h
 by_cases e:xs=[]
 ·subst e;refine iN hr pins s σ H _ _ v u Q I rx ry ⟨.lst [],.lst [],?_,?_,by decide,w⟩
  ·unfold aC;exact⟨p,[],rfl,h1,by unfold aI;rfl⟩
  ·unfold aC;exact⟨q,[],rfl,h2,by unfold aI;rfl⟩
 ·cases(show v=Value.ref p from rx)
  cases(show u=Value.ref q from ry)
  obtain⟨its,r1,p1,_⟩:=I.list h1;obtain⟨Ht,r2,p2,_⟩:=I.list h2
  cases r2
  have hl:=r1.length;have hx:xs.length≠0:=λz=>e (List.eq_nil_of_length_eq_zero z)
  have hs:(its.toArray.size != ([]:oN).toArray.size)=true:=by
   have:its.toArray.size≠0:=by rw[List.size_toArray];omega
   simpa using this
  exact SeqAt.RcNeAt.lists_lengths p1.isList p2.isList hs hr.aa1 X.prog X.w X.xe _ ⟨.bl true,H,I,rfl,by simpa[e] using w⟩
end
end L2
namespace HT
open PySem PyProof.Rows
section
variable {prog:zr}{w:World}{A:Around}{E:yf}{s:CW}
theorem ix {t sl:Addr}{items:vd}{vl vu:Value}{lo hi:Option Int}{Q:yf}(ht:IsTup s.heap t items)(hs:s.heap.IsSliceOf sl vl vu .none)(pl:IsPart vl lo)(pu:IsPart vu hi)
 (h0:da items.size 0 lo=0)(h1:da items.size items.size hi=items.size)(h:Q (.ref t) s):wpAny (model prog w) A (getItem (.ref t) (.ref sl)) Q E s:=by
 obtain⟨os,LI,Rc,Nu⟩:=id hs;have Ss:s.TypeIs (.ref sl) "slice":=⟨os,LI,Rc⟩;unfold getItem
 try with_reducible refine wpAny_holding ?_
 first|refine wpAny_bind (wpAny_pure ?_)|skip
 refine wpAny_bind (wpAny_sequenceKey ht.typeIs (by decide) ?_)
 refine wpAny_bind (wpAny_callSpecial?_slot (name:=Str.ofString "__getitem__") ht.typeIs PyProof.Rows.slot_tuple_getitem
  (wpAny_call_entry PyProof.Rows.slot_tuple_getitem ht.typeIs entry_tuple_getitem ?_ (args_tuple_getitem _ _)))
 show wpAny _ _ (Builtin.Tuple.tupleItemsOf (.ref t)>>=_) _ _ s;refine wpAny_bind (tupleItemsOf_ ht ?_);refine wpAny_bind (wpAny_typeOf Ss ?_);rw[if_pos (by decide)];refine wpAny_bind (fK hs pl pu ?_);rw[h0,h1]
 have Jn:((((0:Nat):Int)==0&&(1:Int)==1&&(items.size-0)==items.size)=true):=by simp
 dsimp only;rw[if_pos Jn];show wpAny _ _ (Builtin.Tuple.tupleIsExact (.ref t)>>=_) _ _ s;refine wpAny_bind ?_;unfold Builtin.Tuple.tupleIsExact;refine wpAny_bind (wpAny_typeOf ht.typeIs (wpAny_pure ?_));rw[if_pos (by decide)];refine wpAny_bind (wpAny_rule ?_);exact wpAny_pure ⟨_,rfl,wpAny_pure h⟩
end
end HT
namespace L2
open PySem PySem.Spec PyProof.Rows PySem.W
variable {X:Cx}
def Gb (K:Frag):V->Option Int->Option Int->Hp->VK->Prop:=λx lo hi H Q=>∃a xs,x=.ref a/\bw K H a xs/\(gh xs lo hi=xs->Q (.ref a) H)/\∀p,H p=none->Q (.ref p) (upd H p (.tup (gh xs lo hi)))
theorem zG:Fc X (Gb X.K):=by
 intro pins s σ H x v vl vu lo hi sl Q I rx hs pl pu h;obtain⟨a,xs,rfl,hx,h1,h2⟩:=h
 by_cases hw:HT.da xs.length 0 lo=0/\HT.da xs.length xs.length hi=xs.length
 ·cases rx
  obtain⟨its,r,ht,hz⟩:=I.tuple hx
  have hlen:its.toArray.size=xs.length:=by rw[List.size_toArray];exact r.length.symm
  refine⟨"tuple",_,PyProof.Rows.slot_tuple_getitem.lookup,ht.typeIs,?_⟩;refine HT.ix ht hs pl pu (by rw[hlen];exact hw.1) (by rw[hlen];exact hw.2) ?_;refine⟨.ref a,H,I,rfl,h1 ?_⟩;unfold gh;rw[hw.1,hw.2];simp
 ·exact acg pins s σ H (.ref a) v vl vu lo hi sl Q I rx hs pl pu ⟨a,xs,rfl,hx,hw,h2⟩
section
variable {X:Cx}
theorem xG {H:Hp}{p:Addr}{o:HO}(h:H p=none):aw H (upd H p o):=λb u e=>by rw[aq (au e h)];exact e
def sR:R2:=λx y H Q=>∃a b xs ys,x=.ref a/\y=.ref b/\H a=some (.lst xs)/\H b=some (.lst ys)/\xs.length+ys.length<=sizeLine/\∀p H',H p=none->aw H H'->H' p=some (.lst (xs++ys))->Q (.ref p) H'
theorem ic:gB X (binaryOp .Add) sR:=by
 intro pins s σ H x y v u Q I rx ry h;obtain⟨a,b,xs,ys,rfl,rfl,ha,hb,hz,q⟩:=h;exact Dg pins s σ H _ _ v u Q I rx ry ⟨a,b,xs,ys,rfl,rfl,ha,hb,hz,λp hp=>q p _ hp (xG hp) ae⟩
end
end L2
namespace K66
open PySem L2 PySem.W Nm
theorem tQ {xs:List Int}{w:Int}(h0:0<=w)(h1:w<xs.length):∃x∈xs,ng (xs.map V.int) w=some (.int x):=by
 have hl:w.toNat<xs.length:=by omega
 refine⟨xs[w.toNat],List.getElem_mem hl,?_⟩;have z:=pE (xs:=xs.map V.int) (j:=w.toNat) (v:=V.int xs[w.toNat]) (by rw[List.getElem?_map];simp[hl])
 have e:((w.toNat:Nat):Int)=w:=by omega
 rw[e] at z;exact z
variable {P:zr}{w:World}{K:PySem.W.Frag}{mg:vK}{base:Heap}
abbrev CD:List Int:=[0,0,0,0,0,2,3,5,7,11,13,17,19,23,29,31,37,41,43,47,53,59,61,67,71,73,79,83,89]
theorem qY:yx ["_law_pool_here","_law_some"] vN (ak xY):=dJ (by decide +kernel)
set_option maxHeartbeats 1000000 in
theorem vh {f ft:Addr}{fd HR:zI}(F:zA K "_law_prime" "_law_prime" xY f fd)(FT:Ha P w K mg base (aV P w) 1 ft HR qT v8)(bT:L2.aA K HR qT [])(mT:mg "_law_take"=some (.ref ft))(kT:keepIn K (.ref ft)=true):
 Ha P w K mg base (aV P w) 2 f fd vN Dq:=by
 refine F.okN qY (λvs H Q E h=>?_) (λHn A outer s H vs Q E hr h=>?_)
 ·obtain⟨r,rfl,_⟩:=h;rfl
 ·obtain⟨r,rfl,⟨l,x,hR,x0,x1⟩,q⟩:=h
  refine⟨_,@aj _ _ _ _ _ (@aM _ _ 1 _ _ _ _ qY.nd rfl (Or.inl rfl) (@oQ _ _ _ CD rfl (by decide)) rfl (Or.inl rfl))
   (@ao _ _ _ (@aB _ _ _ _ (@bq _ _ _ _ _ _ _ cb (@aL _ _ _ _ _ _ _ _ ic (pv 1) (@oQ _ _ _ [97] rfl (by decide))) (av FT hr (by rfl) mT kT bT .nil af (@ah _ _ _ _ _ (pv 0) (@ah _ _ _ _ _ ar ag rfl) rfl)) (λ_ _=>rfl)))),?_⟩
  intro m hm;have S1:=ai (o:=.lst (CD.map V.int)) hm;have e1:upd H m (.lst (CD.map V.int)) m=some (.lst (CD.map V.int)):=ae;generalize upd H m _=H1 at S1 e1 |-;refine⟨_,rfl,λm2 Rr=>?_⟩;have S2:=ai (o:=.lst ([97].map V.int)) Rr;refine⟨m,m2,_,_,rfl,rfl,S2 _ _ e1,ae,by decide,λm3 H3 _ S3 e3=>?_⟩;have S:=S1.trans (S2.trans S3);refine⟨_,rfl,r,l,x,30,rfl,S _ _ hR,x0,x1,by decide,by decide,λz l2 r2 z0 z1 g0 g1=>?_⟩;obtain⟨y,hy,K2⟩:=tQ (xs:=CD++[97]) z0 (by have:(CD++[97]).length=30:=rfl;omega);have nm:m3≠r:=xv e3 (S _ _ hR) (by intro z;cases z)
  rw[List.map_append] at K2
  refine⟨m3,_,z,_,rfl,rfl,aO.of (by rw[aq nm];exact e3),K2,?_⟩
  have all:∀y∈CD++[97],y=0\/y∈BQ:=by decide
  exact q y _ (all y hy) ⟨l2,r2,ae,g0,g1⟩ ((SameBut.of S).trans SameBut.upd)
abbrev oh:Stmt:=aN (aS 24) 11
variable {H:Hp}{x:V}
theorem Th.same {H':Hp}{T:String}(h:Th H x T)(s:aw H H'):Th H' x T:=by
 cases h with
 |non=>exact .non
 |bl b=>exact .bl b
 |int i=>exact .int i
 |str x=>exact .str x
 |lst e=>exact .lst (s _ _ e)
 |tup e=>exact .tup (s _ _ e)
 |dK e=>exact .dK (s _ _ e)
inductive TX (H:Hp):V->Option (V×V)->Prop where
 |no {x:V}{T:String}:Th H x T->T ≠ "tuple"->TX H x none
 |odd {a:Addr}{xs:List V}:H a=some (.tup xs)->xs.length≠2->TX H (.ref a) none
 |two {a:Addr}{y z:V}{Ty Tz:String}:H a=some (.tup [y,z])->Th H y Ty->Th H z Tz->TX H (.ref a) (some (y,z))
theorem TX.same {H':Hp}{o:Option (V×V)}(h:TX H x o)(s:aw H H'):TX H' x o:=by
 cases h with
 |no th n=>exact .no (th.same s) n
 |odd e n=>exact .odd (s _ _ e) n
 |two e h1 h2=>exact .two (s _ _ e) (h1.same s) (h2.same s)
def yo (p:Int):Option (V×V)->Bool
 |some (.int t,.int b)=>if p=0 then decide (1<=b)&&decide (Int.gcd t b=1) else decide (b=1)&&(decide (0<=t)&&decide (t<p))
 |_=>false
theorem Th.isTup {K:Frag}{T:String}(h:Th H x T):kitOne K (.type T) (.type "tuple")=some (decide (T="tuple")):=by cases h <;> rfl
def ll (C:Addr):Sp:=λvs H Q _=>∃(s dx:Addr)(p:Int)(x:V)(o:Option (V×V)),vs=[.ref s,x]/\H s=some (.ins C dx (cJ p))/\FP p/\TX H x o/\Q (.bl (yo p o)) H
theorem iI:yx ["self","thing","top","bottom"] Ao (ak oh):=dJ (by decide +kernel)
theorem qe {f C fg fw:Addr}{fd IY Jw:zI}{tF:Tok}(F:zA K "is_number" "Field.is_number" oh f fd)(c:xV K mg C)(mF:mg "FRACTIONS"=some (.int 0 tF))(n:CB mg)(mT:mg "tuple"=none)(mN:mg "len"=none)
 (FG:Ha P w K mg base (aV P w) 1 fg IY xj wJ)(bG:L2.aA K IY xj [])(mG:mg "common_divisor"=some (.ref fg))(kG:keepIn K (.ref fg)=true)
 (FW:Ha P w K mg base (aV P w) 1 fw Jw Cz xJ)(bW:L2.aA K Jw Cz [])(mW:mg "is_whole"=some (.ref fw))(kW:keepIn K (.ref fw)=true):Ha P w K mg base (aV P w) 2 f fd Ao (ll C):=by
 refine F.okN iI (λvs H Q E h=>?_) (λHn A outer s H vs Q E hr h=>?_)
 ·obtain⟨s,dx,p,x,o,rfl,_⟩:=h;rfl
 ·obtain⟨s,dx,p,x,o,rfl,hs,hp,tx,q⟩:=h
  refine⟨_,aj (ba (PW.pt (dO (bJ (bD (az aY (by rfl) n.isi (by rfl) (ah (pv 1) (ah (cA (by rfl) mT (by rfl) (show aD (.ty "tuple") (.type "tuple") from rfl)) ag)))))
   (cN (aH jW (az aW (by rfl) mN PySem.boot_len (ah (pv 1) ag)) ar (aF _))))) (ao (aB dR)) aE)
   (aj (tj (pv 1) (fG rfl (bh (aG (i:=2) iI.nd rfl (Or.inl rfl)) (bh (aG (i:=3) iI.nd rfl (Or.inl rfl)) dC))))
   (aj (ba (PW.pt (dO (bJ (bD (av FW hr (by rfl) mW kW bW .nil af (ah (pv 2) ag)))) (cN (bJ (bD (av FW hr (by rfl) mW kW bW .nil af (ah (pv 3) ag))))))) (ao (aB dR)) aE)
   (aj (ba (aH cR (b7 (pv 0) rfl) (c5 (by rfl) mF (show aD (.int 0) (.int 0 tF) from⟨_,rfl⟩)) (aF _))
    (ao (aB (eU (cz abf (pv 3) ar (aF _)) (gX (cz cR (av FG hr (by rfl) mG kG bG .nil af (ah (pv 2) (ah (pv 3) ag))) ar (aF _)))))) aE)
   (ao (aB (eU (cz cR (pv 3) ar (aF _)) (gX (qv pQ jP ar (pv 2) (b7 (pv 0) rfl))))))))),?_⟩
  cases tx with
  |@no x T th ne =>
   refine⟨_,rfl,x,.ty "tuple",_,_,_,rfl,rfl,th.ty,th.isTup,_,rfl,?_⟩;rw[decide_eq_false ne];exact aZ (aZ q)
  |@odd a xs ha hl =>
   refine⟨_,rfl,.ref a,.ty "tuple",_,_,_,rfl,rfl,.of (.tup ha),rfl,_,rfl,a9 ?_⟩;refine⟨_,rfl,a,_,rfl,.inr (bw.of ha),rfl,_,rfl,?_⟩;refine dI (λ_=>q) (λh=>absurd (by simp;omega) h)
  |@two a y z Ty Tz ha hy hz =>
   refine⟨_,rfl,.ref a,.ty "tuple",_,_,_,rfl,rfl,.of (.tup ha),rfl,_,rfl,a9 ?_⟩;refine⟨_,rfl,a,_,rfl,.inr (bw.of ha),rfl,_,rfl,?_⟩;refine dI (λh=>absurd h (by simp)) (λ_=>?_);refine⟨_,rfl,a,_,rfl,bw.of ha,rfl,_,_,rfl,_,_,rfl,rfl,?_⟩;refine⟨_,rfl,y,Ty,rfl,hy,_,rfl,?_⟩
   cases e1:eG y with
   |false =>
    have z1:yo p (some (y,z))=false:=by cases y <;> first|rfl|cases e1
    rw[z1] at q;exact aZ (aZ q)
   |true =>
    refine a9 ⟨_,rfl,z,Tz,rfl,hz,_,rfl,?_⟩
    cases e2:eG z with
    |false =>
     have z1:yo p (some (y,z))=false:=by cases y <;> cases z <;> first|rfl|cases e2
     rw[z1] at q;exact aZ q
    |true =>
     have z1:∃t,y=.int t:=by cases y <;> first|exact⟨_,rfl⟩|cases e1
     have z2:∃b,z=.int b:=by cases z <;> first|exact⟨_,rfl⟩|cases e2
     obtain⟨t,rfl⟩:=z1;obtain⟨b,rfl⟩:=z2;refine a9 ?_;refine⟨_,rfl,s,C,dx,_,_,rfl,hs,c.cl,c.nP,rfl,rfl,_,rfl,?_⟩;refine dI (λh=>?_) (λh=>?_)
     ·have HQ:p=0:=by simpa using h
      have z1:yo p (some (.int t,.int b))=(decide (1<=b)&&decide (Int.gcd t b=1)):=by simp[yo,HQ]
      rw[z1] at q;refine⟨_,rfl,_,_,rfl,rfl,_,rfl,?_⟩;refine dI (λh1=>?_) (λh1=>?_)
      ·refine⟨_,rfl,_,rfl,t,b,rfl,rfl,?_⟩
       have e3:decide (V.int (eP t b)=V.int 1)=decide (Int.gcd t b=1):=by
        unfold eP
        by_cases g:Int.gcd t b=1
        ·simp[g]
        ·have:¬((Int.gcd t b:Nat):Int)=1:=by omega
         simp[g,this]
       have KC:decide (1<=b)=true:=h1;rw[KC,Bool.true_and,<-e3] at q;exact q
      ·have KC:decide (1<=b)=false:=by simpa using h1
       rw[KC,Bool.false_and] at q;exact q
     ·have HQ:p≠0:=by simpa using h
      have z1:yo p (some (.int t,.int b))=(decide (b=1)&&(decide (0<=t)&&decide (t<p))):=by simp[yo,HQ]
      rw[z1] at q;refine⟨_,rfl,rfl,_,rfl,?_⟩;refine dI (λh1=>?_) (λh1=>?_)
      ·have KC:decide (b=1)=true:=by simpa using h1
       rw[KC,Bool.true_and] at q;refine⟨_,rfl,_,_,rfl,rfl,_,rfl,?_⟩;refine dI (λh2=>?_) (λh2=>?_)
       ·refine⟨_,rfl,s,C,dx,_,_,rfl,hs,c.cl,c.nP,rfl,_,_,rfl,rfl,?_⟩;have MR:decide (0<=t)=true:=h2;rw[MR,Bool.true_and] at q;exact q
       ·have MR:decide (0<=t)=false:=by simpa using h2
        rw[MR,Bool.false_and] at q;exact q
      ·have KC:decide (b=1)=false:=by simpa using h1
       rw[KC,Bool.false_and] at q;exact q
end K66
namespace KD
open PySem PySem.W PyProof.Rows
variable {i:Nat}
section
variable {prog:zr}{w:World}{A:Around}{E:yf}{s:CW}{d it:Addr}{es:Array DictEntry}{ep:Nat}{o:Obj}
structure Raw (h:Heap)(d:Addr)(es:Array DictEntry)(ep:Nat):Prop where
 ex:∃o,h.get? d=some o/\o.ExactDict/\o.data=.dict es ep
theorem Raw.ty (r:Raw s.heap d es ep):s.TypeIs (.ref d) "dict":=let⟨o,h,x,_⟩:=r.ex;⟨o,h,x.1⟩
theorem Raw.keep {h h':Heap}(r:Raw h d es ep)(k:∀o,h.get? d=some o->h'.get? d=some o):Raw h' d es ep:=let⟨o,h1,x⟩:=r.ex;⟨o,k o h1,x⟩
theorem tw {Q:yf}(r:Raw s.heap d es ep)(hd:(d==sysModules)=false)(h:Q (.ref s.heap.objs.size) {s with heap:=s.heap.push {cls:=.type "dict_items",data:=.fields #[.ref d]} }):
 wpAny (model prog w) A (call (.builtin "dict.items") [.ref d]) Q E s:=by
 refine wpAny_call_entry F.slot_dict_items r.ty F.entry_dict_items ?_ (F.args_dict_items_1 _);unfold Builtin.«dict.items» Builtin.Dict.noArgs;refine wpAny_bind (wpAny_bind (wpAny_notOrdered_dict r.ty (wpAny_pure ?_)));show wpAny _ _ (Builtin.Dict.showsAll d>>=_) _ _ s;unfold Builtin.Dict.showsAll;rw[if_neg (by rw[hd];exact Bool.false_ne_true)];exact wpAny_bind (wpAny_pure (wpAny_bind (wpAny_newObj_type (wpAny_pure ⟨_,rfl,h⟩))))
theorem rW {v:Addr}{Q:yf}(hv:s.heap.IsItemsView v d)(r:Raw s.heap d es ep)
 (hQ:Q (.ref s.heap.objs.size) {s with heap:=s.heap.push {cls:=.type "dict_itemiterator",data:=.fields #[.none,.bool false,.ref d,.int 0 0,.int es.size 0,.int ep 0,.none,.none]} }):wpAny (model prog w) A (pyIter (.ref v)) Q E s:=by
 obtain⟨ov,g1,g2,g3⟩:=id hv;obtain⟨o,h1,h2,h3⟩:=r.ex;refine wpAny_pyIter_slot hv.typeIs F.slot_dict_items_iter (wpAny_call_entry F.slot_dict_items_iter hv.typeIs F.entry_dict_items_iter ?_ (F.args_dict_items_iter_1 _));unfold Builtin.«dict_items.__iter__» Builtin.Dict_items.dictOf;refine wpAny_bind (wpAny_pure (wpAny_bind (wpAny_bind (wpAny_field g1 g3 (x:=.ref d) rfl (wpAny_pure (wpAny_bind ?_))))));unfold Builtin.Dict_items.newIterator;refine wpAny_bind (wpAny_dictEntries h1 h3 (wpAny_bind (wpAny_dictEpoch h1 h3 ?_)));simp only[show Builtin.Dict_items.ownsTuple "dict_itemiterator"=true from by decide,if_true];refine wpAny_newObj_type (wpAny_pure ⟨_,rfl,"dict_itemiterator",_,⟨_,Heap.get?_push_size _ rfl,rfl⟩,F.slot_dict_itemiterator_next.lookup,?_⟩) (by simp only[sizeOk,Builtin.Dict_items.ownedTupleFields,List.size_toArray,List.length_append,List.length_cons,List.length_nil,sizeLine_eq];omega);simpa[rawInt,Builtin.Dict_items.ownedTupleFields] using hQ
theorem sS {ok ov:Value}{Q:Option Value->Shared->Prop}(hit:IsItemIter s.heap it d i es.size ep ok ov)(r:Raw s.heap d es ep)(hi:i<es.size)
 (hQ:∀h',IsItemIterOut h' it d (i+1) es.size ep es[i].key es[i].val s.heap.objs.size->h'.get? s.heap.objs.size=some {cls:=.type "tuple",data:=.seq #[es[i].key,es[i].val]}->h'.objs.size=s.heap.objs.size+1 →
  (∀b o,b≠it->s.heap.get? b=some o->h'.get? b=some o)->Q (some (.ref s.heap.objs.size)) {s with heap:=h'}):wpAny (model prog w) A (pyNext (.ref it)) Q E s:=by
 obtain⟨hp,g,dr,tk,os⟩:=s;obtain⟨o,h1,h2,h3⟩:=r.ex;have hT:Shared.TypeIs ⟨hp,g,dr,tk,os⟩ (.ref it) "dict_itemiterator":=⟨_,hit,rfl⟩;unfold pyNext;refine wpAny_bind (wpAny_attempt (wpAny_callSpecial?_slot (name:=Str.ofString "__next__") hT F.slot_dict_itemiterator_next (wpAny_call_entry F.slot_dict_itemiterator_next hT F.entry_dict_itemiterator_next ?_ (F.args_dict_itemiterator_next_1 _))));refine wpAny_bind (wpAny_pure (wpAny_bind (wpAny_bind ?_)))
 first|refine wpAny_bind (wpAny_typeNameOfWhole_itemiter hT (wpAny_pure (wpAny_bind (wpAny_fieldsOf hit rfl ?_))))|refine wpAny_bind (wpAny_typeNameOf_itemiter hT (wpAny_pure (wpAny_bind (wpAny_fieldsOf hit rfl ?_))))
 simp only[show Builtin.Dict_items.ownsTuple "dict_itemiterator"=true from by decide,if_true];show wpAny _ _ (if(Value.ref d==Value.none)=true then _ else _) _ _ _;rw[if_neg (show ¬((Value.ref d==Value.none)=true) from Bool.false_ne_true)];refine wpAny_bind (wpAny_pure (wpAny_bind (wpAny_dictEntries h1 h3 ?_)));rw[if_neg (by simp)];refine wpAny_bind (wpAny_pure (wpAny_bind (wpAny_dictEpoch h1 h3 ?_)));rw[if_neg (by simp)];refine wpAny_pure ?_;simp only[show ¬((i:Int)<0) from by omega,if_false,Int.toNat_natCast,Array.getElem?_eq_getElem hi];refine wpAny_bind ?_
 first|refine wpAny_bind (wpAny_typeNameOfWhole_itemiter hT (wpAny_pure (wpAny_bind (wpAny_isOneOf_itemiter hT ?_))))|refine wpAny_bind (wpAny_typeNameOf_itemiter hT (wpAny_pure (wpAny_bind (wpAny_isOneOf_itemiter hT ?_))))
 show wpAny _ _ (setField (.ref it) 3 (rawInt ((i:Int)+1))>>=_) _ _ ⟨hp,g,dr,tk,os⟩;refine wpAny_bind (wpAny_setField_rec hit (by simp) λk1 e1 (b1:Heap.SameBut it hp k1)=>?_)
 have q1:IsItemIter k1 it d (i+1) es.size ep ok ov:=by
  unfold IsItemIter;rw[show((i+1:Nat):Int)=(i:Int)+1 by omega];simpa[rawInt] using e1
 have t1:Shared.TypeIs ⟨k1,g,dr,tk,os⟩ (.ref it) "dict_itemiterator":=⟨_,q1,rfl⟩;refine wpAny_bind (wpAny_holding (wpAny_bind (wpAny_isOneOf_itemiter t1 (wpAny_bind (wpAny_isOneOf_itemiter t1 ?_)))));show wpAny _ _ (Builtin.Dict_items.pairFromOwner (.ref it) 6 es[i].key es[i].val) _ _ ⟨k1,g,dr,tk,os⟩;unfold Builtin.Dict_items.pairFromOwner;refine wpAny_bind (wpAny_newTuple ?_);have q2:IsItemIter (k1.push {cls:=.type "tuple",data:=.seq #[es[i].key,es[i].val]}) it d (i+1) es.size ep ok ov:=Heap.get?_push_of_some _ q1;have z1:k1.objs.size=hp.objs.size:=b1.1;have ne:hp.objs.size≠it:=Nat.ne_of_gt (Heap.lt_size hit)
 have w2:(k1.push {cls:=.type "tuple",data:=.seq #[es[i].key,es[i].val]}).get? hp.objs.size=some {cls:=.type "tuple",data:=.seq #[es[i].key,es[i].val]}:=by rw[<-z1];exact Heap.get?_push_size _ rfl
 have z2:(k1.push {cls:=.type "tuple",data:=.seq #[es[i].key,es[i].val]}).objs.size=hp.objs.size+1:=by rw[Heap.size_push,z1]
 have p2:∀b o,b≠it->hp.get? b=some o->(k1.push {cls:=.type "tuple",data:=.seq #[es[i].key,es[i].val]}).get? b=some o:=λb o hb e=>Heap.get?_push_of_some _ (b1.extBut b o hb e);show wpAny _ _ (Builtin.Dict_items.ownedTupleIsFree (.ref it)>>=_) _ _ ⟨k1.push {cls:=.type "tuple",data:=.seq #[es[i].key,es[i].val]},g,dr,tk,os⟩;rw[z1];generalize k1.push {cls:=.type "tuple",data:=.seq #[es[i].key,es[i].val]}=k2 at q2 w2 z2 p2 |-;unfold Builtin.Dict_items.ownedTupleIsFree;refine wpAny_bind (wpAny_bind (wpAny_field q2 rfl (x:=.none) rfl (wpAny_pure ?_)));simp only[if_true];refine wpAny_bind (wpAny_field q2 rfl (x:=ok) rfl (wpAny_bind (wpAny_field q2 rfl (x:=ov) rfl (wpAny_bind (wpAny_setField_rec q2 (by simp) λk3 e3 (b3:Heap.SameBut it k2 k3)=>?_)))));have q3:IsItemIter k3 it d (i+1) es.size ep es[i].key ov:=e3;refine wpAny_bind (wpAny_setField_rec q3 (by simp) λk4 e4 (b4:Heap.SameBut it k3 k4)=>?_);have q4:IsItemIter k4 it d (i+1) es.size ep es[i].key es[i].val:=e4;refine wpAny_bind (wpAny_setField_rec q4 (by simp) λk5 e5 (b5:Heap.SameBut it k4 k5)=>?_);have q5:IsItemIterOut k5 it d (i+1) es.size ep es[i].key es[i].val hp.objs.size:=e5;refine wpAny_bind (wpAny_setField_rec q5 (by simp) λk6 e6 (b6:Heap.SameBut it k5 k6)=>?_);have q6:IsItemIterOut k6 it d (i+1) es.size ep es[i].key es[i].val hp.objs.size:=e6;have go:∀b o,b≠it->k2.get? b=some o->k6.get? b=some o:=λb o hb e=>b6.extBut b o hb (b5.extBut b o hb (b4.extBut b o hb (b3.extBut b o hb e)));exact wpAny_bind (wpAny_letGo (wpAny_pure (wpAny_pure ⟨_,rfl,wpAny_pure (hQ k6 q6 (go _ _ ne w2) (by show k6.objs.size=hp.objs.size+1;rw[b6.1,b5.1,b4.1,b3.1,z2]) λb o hb e=>go b o hb (p2 b o hb e))⟩)))
theorem v7 {ok ov:Value}{Q:Option Value->Shared->Prop}(hh:A.handled=none)(hit:IsItemIter s.heap it d i es.size ep ok ov)(r:Raw s.heap d es ep)(hi:es.size<=i)
 (hQ:∀h',Heap.ExtBut it s.heap h'->Q none {s with heap:=h'}):wpAny (model prog w) A (pyNext (.ref it)) Q E s:=by
 obtain⟨o,h1,h2,h3⟩:=r.ex;have hT:s.TypeIs (.ref it) "dict_itemiterator":=⟨_,hit,rfl⟩;unfold pyNext;refine wpAny_bind (wpAny_attempt (wpAny_callSpecial?_slot (name:=Str.ofString "__next__") hT F.slot_dict_itemiterator_next (wpAny_call_entry F.slot_dict_itemiterator_next hT F.entry_dict_itemiterator_next ?_ (F.args_dict_itemiterator_next_1 _))));refine wpAny_bind (wpAny_pure (wpAny_bind (wpAny_bind ?_)))
 first|refine wpAny_bind (wpAny_typeNameOfWhole_itemiter hT (wpAny_pure (wpAny_bind (wpAny_fieldsOf hit rfl ?_))))|refine wpAny_bind (wpAny_typeNameOf_itemiter hT (wpAny_pure (wpAny_bind (wpAny_fieldsOf hit rfl ?_))))
 simp only[show Builtin.Dict_items.ownsTuple "dict_itemiterator"=true from by decide,if_true];show wpAny _ _ (if(Value.ref d==Value.none)=true then _ else _) _ _ _;rw[if_neg (show ¬((Value.ref d==Value.none)=true) from Bool.false_ne_true)];refine wpAny_bind (wpAny_pure (wpAny_bind (wpAny_dictEntries h1 h3 ?_)));rw[if_neg (by simp)];refine wpAny_bind (wpAny_pure (wpAny_bind (wpAny_dictEpoch h1 h3 ?_)));rw[if_neg (by simp)];refine wpAny_pure ?_;simp only[show ¬((i:Int)<0) from by omega,if_false,Int.toNat_natCast,Array.getElem?_eq_none hi];refine wpAny_bind ?_
 first|refine wpAny_bind (wpAny_typeNameOfWhole_itemiter hT (wpAny_pure ?_))|refine wpAny_bind (wpAny_typeNameOf_itemiter hT (wpAny_pure ?_))
 show wpAny _ _ (setField (.ref it) 2 .none>>=_) _ _ s;refine wpAny_bind (wpAny_setField hit rfl (by simp) ?_);show wpAny _ _ (newExc (.type "StopIteration") []>>=_) _ _ _;refine wpAny_bind ?_;simp only[newExc,newTuple];refine wpAny_bind (wpAny_newObj_type (wpAny_bind (m:=firstArgMember _ _) (wpAny_of_eq (a:=Value.none) (by first|rfl|(simp only[firstArgMember];rfl)) (wpAny_newObj_type ?_ (by size_fits)))) (by size_fits));simp only[raiseNew];refine wpAny_bind (wpAny_handled ?_);rw[show A.in1.handled=none from hh];refine wpAny_bind (wpAny_pure (wpAny_throw ?_));refine wpAny_bind (wpAny_isInstance (T:="StopIteration") (b:=true) ⟨_,Heap.get?_push_size _ rfl,rfl⟩ isSubtype_stop ?_);exact wpAny_pure (hQ _ (((Heap.SameBut.update ..).extBut.push _).push _))
theorem vP {Q:yf}(r:Raw s.heap d es ep)(hd:(d==sysModules)=false)
 (hQ:Q (.ref s.heap.objs.size) {s with heap:=s.heap.push {cls:=.type "dict_keyiterator",data:=.fields #[.ref d,.int 0 0,.int es.size 0,.int ep 0]} }):wpAny (model prog w) A (pyIter (.ref d)) Q E s:=by
 obtain⟨o,h1,h2,h3⟩:=r.ex;refine wpAny_pyIter_slot r.ty F.slot_dict_iter (wpAny_call_entry F.slot_dict_iter r.ty F.entry_dict_iter ?_ (F.args_dict_iter_1 _));unfold Builtin.«dict.__iter__» Builtin.Dict.dictSlotNone;refine wpAny_bind (wpAny_bind (wpAny_notOrdered_dict r.ty (?_:wpAny _ _ (pure (Value.ref d)) _ _ s)));refine wpAny_pure ?_;show wpAny _ _ (Builtin.Dict.showsAll d>>=_) _ _ s;unfold Builtin.Dict.showsAll;rw[if_neg (by rw[hd];exact Bool.false_ne_true)];refine wpAny_bind (wpAny_pure (wpAny_bind (wpAny_dictEntries h1 h3 (wpAny_bind (wpAny_dictEpoch h1 h3 (wpAny_bind (wpAny_newObj_type (wpAny_pure ⟨_,rfl,"dict_keyiterator",_,⟨_,Heap.get?_push_size _ rfl,rfl⟩,F.slot_dict_keyiterator_next.lookup,?_⟩))))))));simpa[rawInt] using hQ
theorem vQ {Q:Option Value->Shared->Prop}(hit:s.heap.IsKeyIter it d i es.size ep)(r:Raw s.heap d es ep)(hi:i<es.size)
 (hQ:∀h',h'.IsKeyIter it d (i+1) es.size ep->Heap.SameBut it s.heap h'->Q (some es[i].key) {s with heap:=h'}):wpAny (model prog w) A (pyNext (.ref it)) Q E s:=by
 obtain⟨oi,g1,g2,g3⟩:=id hit;obtain⟨o,h1,h2,h3⟩:=r.ex;have hT:=hit.typeIs;unfold pyNext;refine wpAny_bind (wpAny_attempt (wpAny_callSpecial?_slot (name:=Str.ofString "__next__") hT F.slot_dict_keyiterator_next (wpAny_call_entry F.slot_dict_keyiterator_next hT F.entry_dict_keyiterator_next ?_ (F.args_dict_keyiterator_next_1 _))));refine wpAny_bind (wpAny_pure (wpAny_bind (wpAny_bind ?_)))
 first|refine wpAny_bind (wpAny_typeNameOfWhole_keyiter hT (wpAny_pure (wpAny_bind (wpAny_fieldsOf g1 g3 ?_))))|refine wpAny_bind (wpAny_typeNameOf_keyiter hT (wpAny_pure (wpAny_bind (wpAny_fieldsOf g1 g3 ?_))))
 simp only[show Builtin.Dict_items.ownsTuple "dict_keyiterator"=false from by decide,Bool.false_eq_true,if_false];show wpAny _ _ (if(Value.ref d==Value.none)=true then _ else _) _ _ _;rw[if_neg (show ¬((Value.ref d==Value.none)=true) from Bool.false_ne_true)];refine wpAny_bind (wpAny_pure (wpAny_bind (wpAny_dictEntries h1 h3 ?_)));rw[if_neg (by simp)];refine wpAny_bind (wpAny_pure (wpAny_bind (wpAny_dictEpoch h1 h3 ?_)));rw[if_neg (by simp)];refine wpAny_pure ?_;simp only[show ¬((i:Int)<0) from by omega,if_false,Int.toNat_natCast,Array.getElem?_eq_getElem hi];refine wpAny_bind ?_
 first|refine wpAny_bind (wpAny_typeNameOfWhole_keyiter hT (wpAny_pure (wpAny_bind (wpAny_isOneOf_keyiter hT ?_))))|refine wpAny_bind (wpAny_typeNameOf_keyiter hT (wpAny_pure (wpAny_bind (wpAny_isOneOf_keyiter hT ?_))))
 show wpAny _ _ (setField (.ref it) 1 (rawInt ((i:Int)+1))>>=_) _ _ s;refine wpAny_bind (wpAny_setField g1 g3 (by simp) ?_);have q1:(s.heap.update it (Obj.mapFields (·.setIfInBounds 1 (rawInt ((i:Int)+1))))).IsKeyIter it d (i+1) es.size ep:=⟨_,Heap.get?_update_self _ g1 (Obj.isFreed_of_fields (Obj.data_mapFields g3 _)),(Obj.cls_mapFields ..).trans g2,by rw[Obj.data_mapFields g3];simp[rawInt]⟩;refine wpAny_bind (wpAny_holding (wpAny_bind (wpAny_isOneOf_keyiter (s:={s with heap:=s.heap.update it (Obj.mapFields (·.setIfInBounds 1 (rawInt ((i:Int)+1))))}) q1.typeIs (?_:wpAny _ _ (pure es[i].key) _ _ _))));exact wpAny_pure (wpAny_pure ⟨_,rfl,wpAny_pure (hQ _ q1 (Heap.SameBut.update ..))⟩)
theorem yN {Q:Option Value->Shared->Prop}(hh:A.handled=none)(hit:s.heap.IsKeyIter it d i es.size ep)(r:Raw s.heap d es ep)(hi:es.size<=i)
 (hQ:∀h',Heap.ExtBut it s.heap h'->Q none {s with heap:=h'}):wpAny (model prog w) A (pyNext (.ref it)) Q E s:=by
 obtain⟨oi,g1,g2,g3⟩:=id hit;obtain⟨o,h1,h2,h3⟩:=r.ex;have hT:=hit.typeIs;unfold pyNext;refine wpAny_bind (wpAny_attempt (wpAny_callSpecial?_slot (name:=Str.ofString "__next__") hT F.slot_dict_keyiterator_next (wpAny_call_entry F.slot_dict_keyiterator_next hT F.entry_dict_keyiterator_next ?_ (F.args_dict_keyiterator_next_1 _))));refine wpAny_bind (wpAny_pure (wpAny_bind (wpAny_bind ?_)))
 first|refine wpAny_bind (wpAny_typeNameOfWhole_keyiter hT (wpAny_pure (wpAny_bind (wpAny_fieldsOf g1 g3 ?_))))|refine wpAny_bind (wpAny_typeNameOf_keyiter hT (wpAny_pure (wpAny_bind (wpAny_fieldsOf g1 g3 ?_))))
 simp only[show Builtin.Dict_items.ownsTuple "dict_keyiterator"=false from by decide,Bool.false_eq_true,if_false];show wpAny _ _ (if(Value.ref d==Value.none)=true then _ else _) _ _ _;rw[if_neg (show ¬((Value.ref d==Value.none)=true) from Bool.false_ne_true)];refine wpAny_bind (wpAny_pure (wpAny_bind (wpAny_dictEntries h1 h3 ?_)));rw[if_neg (by simp)];refine wpAny_bind (wpAny_pure (wpAny_bind (wpAny_dictEpoch h1 h3 ?_)));rw[if_neg (by simp)];refine wpAny_pure ?_;simp only[show ¬((i:Int)<0) from by omega,if_false,Int.toNat_natCast,Array.getElem?_eq_none hi];refine wpAny_bind ?_
 first|refine wpAny_bind (wpAny_typeNameOfWhole_keyiter hT (wpAny_pure ?_))|refine wpAny_bind (wpAny_typeNameOf_keyiter hT (wpAny_pure ?_))
 show wpAny _ _ (setField (.ref it) 0 .none>>=_) _ _ s;refine wpAny_bind (wpAny_setField g1 g3 (by simp) ?_);show wpAny _ _ (newExc (.type "StopIteration") []>>=_) _ _ _;refine wpAny_bind ?_;simp only[newExc,newTuple];refine wpAny_bind (wpAny_newObj_type (wpAny_bind (m:=firstArgMember _ _) (wpAny_of_eq (a:=Value.none) (by first|rfl|(simp only[firstArgMember];rfl)) (wpAny_newObj_type ?_ (by size_fits)))) (by size_fits));simp only[raiseNew];refine wpAny_bind (wpAny_handled ?_);rw[show A.in1.handled=none from hh];refine wpAny_bind (wpAny_pure (wpAny_throw ?_));refine wpAny_bind (wpAny_isInstance (T:="StopIteration") (b:=true) ⟨_,Heap.get?_push_size _ rfl,rfl⟩ isSubtype_stop ?_);exact wpAny_pure (hQ _ (((Heap.SameBut.update ..).extBut.push _).push _))
end
end KD
namespace L2
open PySem PySem.Spec PyProof.Rows PySem.W
abbrev pL (o:Obj)(Hh:List (List Key×V)):HO:=.frz o (.dT Hh)
def Fv (d:Addr)(o:Obj)(Hh:List (List Key×V)):It :=
 ⟨λi H=>i<Hh.length/\H d=some (pL o Hh),λi H x H'=>∃p b k v,Hh[i]?=some (k,v)/\H p=none/\H b=some (.tup (k.map kV))/\x=.ref p/\H'=upd H p (.tup [.ref b,v]),λi H=>Hh.length<=i/\H d=some (pL o Hh)⟩
def Fl (d:Addr)(o:Obj)(Hh:List (List Key×V)):It :=
 ⟨λi H=>i<Hh.length/\H d=some (pL o Hh),λi H x H'=>∃b k v,Hh[i]?=some (k,v)/\H b=some (.tup (k.map kV))/\x=.ref b/\H'=H,λi H=>Hh.length<=i/\H d=some (pL o Hh)⟩
theorem k8 {α β:Type}{R:α->β->Prop}:∀{l:List α}{m:List β}{i:Nat}{a:α},Paired R l m->l[i]?=some a->∃b,m[i]?=some b/\R a b
 |_,_,_,_,.nil,e=>by simp at e
 |_,_,0,_,.cons r _,e=>by simp at e;subst e;exact⟨_,rfl,r⟩
 |_,_,i+1,a,.cons _ t,e=>by
  obtain⟨b,h1,h2⟩:=k8 (i:=i) (a:=a) t (by simpa using e);exact⟨b,by simpa using h1,h2⟩
section
variable {X:Cx}{pins:List (Addr×Obj)}{σ:St}{H:Hp}{s:CW}{d:Addr}{o:Obj}{Hh:List (List Key×V)}
theorem jF (I:Inv X pins σ H s)(e:H d=some (pL o Hh)):∃es ep,o.data=.dict es ep/\KD.Raw s.heap d es ep/\es.size=Hh.length/\(d==sysModules)=false /\
 ∀(i:Nat)(hi:i<es.size) k v,Hh[i]?=some (k,v)->∃b,es[i].key=.ref b/\H b=some (.tup (k.map kV))/\aD v es[i].val:=by
 obtain⟨h0,z,y,xs,r,o',es,ep,h1,h2,h3,h4,h5⟩:=(show bc X.prog X.w H s.heap d (pL o Hh) from I.hok d _ e);rw[h0] at h1
 cases h1
 have hl:es.size=Hh.length:=by
  rw[<-Array.length_toList,h4,List.length_map];exact(Paired.length r).symm
 refine⟨es,ep,h3,⟨_,h0,h2,h3⟩,hl,y,λi hi k v hk=>?_⟩;obtain⟨q,hq,e1,e2,e3⟩:=k8 r hk
 have z1:es.toList[i]?=some (entryOfKey (tupleKind (bx X.prog X.w)) q):=by rw[h4,List.getElem?_map,hq];rfl
 have z2:es[i]=entryOfKey (tupleKind (bx X.prog X.w)) q:=by
  have z3:es.toList[i]?=some es[i]:=by simp[hi]
  rw[z3] at z1;exact Option.some.inj z1
 rw[z2];exact⟨q.2.1,rfl,e2,e3⟩
theorem Inv.freeze (I:Inv X pins σ H s)(e:H d=some (.dT Hh)):∃o,s.heap.get? d=some o/\Inv X pins σ (upd H d (pL o Hh)) s:=by
 obtain⟨z,y,xs,r,o,es,ep,h1,h2⟩:=(show bc X.prog X.w H s.heap d (.dT Hh) from I.hok d _ e);refine⟨o,h1,I.write (t':=s.toks) (h':=s.heap) (x:=d) (e:=d) (o:=pL o Hh) (by rw[e];exact True.intro) (.inl rfl) (λ_ _ _ q=>q) ⟨o,h1⟩ ⟨h1,z,y,xs,?_,o,es,ep,h1,h2⟩⟩;exact Paired.aaP r λp q w=>⟨w.1,by rw[aq (xv w.2.1 e (by intro z;cases z))];exact w.2.1,w.2.2⟩
end
variable {P:zr}{w:World}{K:Frag}{elts:qk}{x1:Nat}{tp:Pos}
theorem rN (d it:Addr)(o:Obj)(Hh:List (List Key×V))(es:Array DictEntry)(ep:Nat)(ho:o.data=.dict es ep):Turn P w K (.Tuple elts x1 tp) (Fv d o Hh) [it] it (λi h=>∃ok ov,IsItemIter h it d i es.size ep ok ov) where
 mem:=by simp
 obj:=λi h st b hb=>by
  have e:b=it:=by simpa using hb
  subst e;obtain⟨ok,ov,e⟩:=st;exact⟨_,e,λv z=>by cases z⟩
 keep:=λi h h' st k=>let⟨ok,ov,e⟩:=st;⟨ok,ov,k it (by simp) _ e⟩
 item:=by
  intro X hP hw hK hc i pins s σ H E I hf st hg;subst hP hw hK;obtain⟨Hx,hd⟩:=hg;obtain⟨ok,ov,hit⟩:=st;obtain⟨Jj,LD,HV,raw,hl,hm,NM⟩:=jF I hd;rw[ho] at HV
  cases HV
  obtain⟨f0,f1,f2,f3,f4,f5⟩:=hf it (by simp)
  have hi:i<es.size:=by omega
  refine KD.sS hit raw hi λh' q1 q2 q3 q4=>?_;obtain⟨⟨k,v⟩,hk⟩:∃kv,Hh[i]?=some kv:=⟨Hh[i],by simp[Hx]⟩;obtain⟨b,eb,hb,rv⟩:=NM i hi k v hk;refine⟨_,rfl,wpAny_letOwnedTupleGo_items (s:={s with heap:=h'}) q1 λh2 q5 q6=>?_⟩;have KS:s.heap.objs.size≠it:=Nat.ne_of_gt (Heap.lt_size hit);have I1:Inv X pins σ H {s with heap:=h2}:=I.turned (t':=s.toks) (λb o hb e=>(q6.2 b hb).trans (q4 b o hb e)) f0 f1 f3 f4 f5;have tup:h2.get? s.heap.objs.size=some {cls:=.type "tuple",data:=.seq #[es[i].key,es[i].val]}:=(q6.2 _ KS).trans q2;have fr:H s.heap.objs.size=none:=I.hok.fresh (Nat.le_refl _)
  have I2:Inv X pins σ (upd H s.heap.objs.size (.tup [.ref b,v])) {s with heap:=h2}:=by
   refine⟨I1.ok,I1.os,I1.bare,?_,I1.loc,I1.cell,?_,λx c e=>?_,λp hp=>?_,fT I1.hok fr ⟨by show 2<=sizeLine;decide,[.ref b,es[i].val],.cons rfl (.cons rv .nil),?_⟩,I1.len⟩
   ·have u:=I1.base;refine⟨u.keep,u.slot,λb' o' e n hx=>?_,u.there,λb' xs e=>?_,λb' o' u' e=>?_,λb' ps e=>?_⟩
    ·have ne:b'≠s.heap.objs.size:=Nat.ne_of_lt (Nat.lt_of_lt_of_le (Heap.lt_size e) I.sz);rw[aq ne];exact u.free b' o' e n hx
    ·rw[aq (au (u.aaq b' xs e) fr)];exact u.aaq b' xs e
    ·rw[aq (au (u.aap b' o' u' e) fr)];exact u.aap b' o' u' e
    ·obtain⟨m,q⟩:=u.aax b' ps e;exact⟨m,by rw[aq (au q fr)];exact q⟩
   ·rw[aq (Nat.ne_of_lt I.lt)];exact I1.free
   ·obtain⟨v',q⟩:=I.cell x c e;rw[aq (Nat.ne_of_lt q.lt)];exact I1.aar x c e
   ·obtain⟨e,n,r⟩:=I1.pin p hp;have lt:p.1<s.heap.objs.size:=Heap.lt_size (I.pin p hp).1;exact⟨e,by rw[aq (Nat.ne_of_lt lt)];exact n,r⟩
   ·exact⟨_,tup,rfl,0,by rw[<-eb]⟩
  refine⟨.ref s.heap.objs.size,_,I2,rfl,⟨s.heap.objs.size,b,k,v,hk,fr,hb,rfl,rfl⟩,⟨_,_,q5⟩,λb' HP=>?_⟩
  have e:b'=it:=by simpa using HP
  subst e;rw[aq (Ne.symm KS)];exact f0
 done:=by
  intro X hP hw hK hc i pins s σ H E I hf st hg;subst hP hw hK;obtain⟨Hx,hd⟩:=hg;obtain⟨ok,ov,hit⟩:=st;obtain⟨Jj,LD,HV,raw,hl,hm,NM⟩:=jF I hd;rw[ho] at HV
  cases HV
  obtain⟨f0,f1,f2,f3,f4,f5⟩:=hf it (by simp);exact KD.v7 (I.ok.hd hc) hit raw (by omega) λh' eb=>⟨rfl,I.turned (t':=s.toks) (λb o hb e=>eb b o hb e) f0 f1 f3 f4 f5⟩
 self:=λA i s Q E st h=>by
  obtain⟨ok,ov,hit⟩:=st;exact kcp_self hit h
theorem vm {tg:Expr}(d it:Addr)(o:Obj)(Hh:List (List Key×V))(es:Array DictEntry)(ep:Nat)(ho:o.data=.dict es ep):Turn P w K tg (Fl d o Hh) [it] it (λi h=>h.IsKeyIter it d i es.size ep) where
 mem:=by simp
 obj:=λi h st b hb=>by
  have e:b=it:=by simpa using hb
  subst e;obtain⟨o,e,c,d⟩:=st;exact⟨o,e,λv z=>by rw[d] at z;cases z⟩
 keep:=λi h h' st k=>st.at λo e=>k it (by simp) o e
 item:=by
  intro X hP hw hK hc i pins s σ H E I hf st hg;subst hP hw hK;obtain⟨Hx,hd⟩:=hg;obtain⟨Jj,LD,HV,raw,hl,hm,NM⟩:=jF I hd;rw[ho] at HV
  cases HV
  obtain⟨f0,f1,f2,f3,f4,f5⟩:=hf it (by simp)
  have hi:i<es.size:=by omega
  refine KD.vQ st raw hi λh' q1 q2=>?_;obtain⟨⟨k,v⟩,hk⟩:∃kv,Hh[i]?=some kv:=⟨Hh[i],by simp[Hx]⟩;obtain⟨b,eb,hb,rv⟩:=NM i hi k v hk;have I1:Inv X pins σ H {s with heap:=h'}:=I.turned (t':=s.toks) (λb o hb e=>(q2.2 b hb).trans e) f0 f1 f3 f4 f5;obtain⟨oi,e,c,dd⟩:=id q1;exact⟨_,rfl,uE (s:={s with heap:=h'}) e c dd (by decide) ⟨.ref b,H,I1,eb,⟨b,k,v,hk,hb,rfl,rfl⟩,q1,λb hb=>(hf b hb).1⟩⟩
 done:=by
  intro X hP hw hK hc i pins s σ H E I hf st hg;subst hP hw hK;obtain⟨Hx,hd⟩:=hg;obtain⟨Jj,LD,HV,raw,hl,hm,NM⟩:=jF I hd;rw[ho] at HV
  cases HV
  obtain⟨f0,f1,f2,f3,f4,f5⟩:=hf it (by simp);exact KD.yN (I.ok.hd hc) st raw (by omega) λh' eb=>⟨rfl,I.turned (t':=s.toks) (λb o hb e=>eb b o hb e) f0 f1 f3 f4 f5⟩
 self:=λ_ _ _ _ _ st h=>wpAny_pyIter_keyiter st h
def FH (H1:Hp)(d:Addr)(Hh:List (List Key×V))(R:Obj->Hp->Prop):Prop:=(∃o,H1 d=some (pL o Hh)/\R o H1)\/(H1 d=some (.dT Hh)/\∀o,R o (upd H1 d (pL o Hh)))
def CO (td:TE):TI:=λσ H R=>td σ H λx H1=>∃d Hh,x=.ref d/\FH H1 d Hh λo H2=>R (Fv d o Hh) H2
def EK (td:TE):TI:=λσ H R=>td σ H λx H1=>∃d Hh,x=.ref d/\FH H1 d Hh λo H2=>R (Fl d o Hh) H2
section
variable {X:Cx}{pins:List (Addr×Obj)}{σ:St}{H:Hp}{s:CW}
theorem yR {d:Addr}{Hh:List (List Key×V)}{R:Obj->Hp->Prop}(I:Inv X pins σ H s)(h:FH H d Hh R):∃o H2,Inv X pins σ H2 s/\H2 d=some (pL o Hh)/\R o H2:=by
 rcases h with⟨o,e,r⟩|⟨e,r⟩
 ·exact⟨o,H,I,e,r⟩
 ·obtain⟨o,_,I2⟩:=I.freeze e;exact⟨o,_,I2,ae,r o⟩
theorem xm {oe:Expr}{td:TE}{apos Hz:Pos}(ho:PE X oe td)(JP:attributeBase oe "items" X.env (eval oe X.env)=eval oe X.env:=by rfl)(JQ:(apos.endLine==Hz.line)=true:=by rfl):
 PI X (.Tuple elts x1 tp) (.Call (.Attribute oe "items" apos) [] [] Hz) (CO td):=by
 intro pins s σ H R I h;refine wpAny_Call_method0_late JP JQ (bu (ho pins s σ H _ I h) λv s1 z'=>?_);obtain⟨x,H1,I1,r1,d,Hh,ex,fz⟩:=z';subst ex
 cases(show v=Value.ref d from r1)
 obtain⟨o,H2,I2,hd,rr⟩:=yR I1 fz;obtain⟨es,ep,SU,raw,hl,hm,_⟩:=jF I2 hd;refine⟨"dict","dict.items",PySem.F.plainAttrs_dict,PySem.F.slot_dict_items,PySem.F.type_dict_items,raw.ty,λa e=>?_,Calls.callWith_builtin rfl (PySem.evalArgs_none (KD.tw raw hm ?_))⟩
 ·cases e
  obtain⟨o',h1,h2,_⟩:=raw.ex;exact⟨o',h1,h2.2.1⟩
 ·have I3:Inv X pins σ H2 {s1 with heap:=s1.heap.push {cls:=.type "dict_items",data:=.fields #[.ref d]} }:=I2.kept (t':=s1.toks) λb ob q=>Heap.get?_push_of_some _ q;refine KD.rW (s:={s1 with heap:=s1.heap.push {cls:=.type "dict_items",data:=.fields #[.ref d]} }) ⟨_,Heap.get?_push_size _ rfl,rfl,rfl⟩ (raw.keep λo e=>Heap.get?_push_of_some _ e) ?_;generalize s1.heap.push {cls:=.type "dict_items",data:=.fields #[.ref d]}=h2 at I3 |-;refine⟨h2.objs.size,[h2.objs.size],_,Fv d o Hh,H2,rfl,I3.kept (t':=s1.toks) λb ob q=>Heap.get?_push_of_some _ q,rN d _ o Hh es ep SU,⟨_,_,Heap.get?_push_size _ rfl⟩,λb hb=>?_,rr⟩
  have e:b=h2.objs.size:=by simpa using hb
  subst e;exact I3.aaW (Nat.le_refl _) (I3.hok.fresh (Nat.le_refl _))
theorem Bh {tg oe:Expr}{td:TE}(ho:PE X oe td):PI X tg oe (EK td):=by
 intro pins s σ H R I h;refine bu (ho pins s σ H _ I h) λv s1 z'=>?_;obtain⟨x,H1,I1,r1,d,Hh,ex,fz⟩:=z';subst ex
 cases(show v=Value.ref d from r1)
 obtain⟨o,H2,I2,hd,rr⟩:=yR I1 fz;obtain⟨es,ep,SU,raw,hl,hm,_⟩:=jF I2 hd;refine KD.vP raw hm ⟨s1.heap.objs.size,[s1.heap.objs.size],_,Fl d o Hh,H2,rfl,I2.kept (t':=s1.toks) λb ob q=>Heap.get?_push_of_some _ q,vm d _ o Hh es ep SU,⟨_,Heap.get?_push_size _ rfl,rfl,rfl⟩,λb hb=>?_,rr⟩
 have e:b=s1.heap.objs.size:=by simpa using hb
 subst e;exact I2.aaW (Nat.le_refl _) (I2.hok.fresh (Nat.le_refl _))
theorem Inv.abN {s2:CW}{T:Addr}{xs:List V}{its:oN}(I:Inv X pins σ H s)(I1:Inv X pins σ H s2)(hT:s.heap.objs.size<=T)(e:s2.heap.get? T=some {cls:=.type "tuple",data:=.seq its.toArray})(r:aK xs its)(hz:xs.length<=sizeLine):
 Inv X pins σ (upd H T (.tup xs)) s2:=by
 have fr:H T=none:=I.hok.fresh hT;refine⟨I1.ok,I1.os,I1.bare,?_,I1.loc,I1.cell,?_,λx c e=>?_,λp hp=>?_,fT I1.hok fr ⟨hz,its,r,⟨_,e,rfl,0,rfl⟩⟩,I1.len⟩
 ·have u:=I1.base;refine⟨u.keep,u.slot,λb' o' e n hx=>?_,u.there,λb' xs e=>?_,λb' o' u' e=>?_,λb' ps e=>?_⟩
  ·have ne:b'≠T:=Nat.ne_of_lt (Nat.lt_of_lt_of_le (Heap.lt_size e) (Nat.le_trans I.sz hT));rw[aq ne];exact u.free b' o' e n hx
  ·rw[aq (au (u.aaq b' xs e) fr)];exact u.aaq b' xs e
  ·rw[aq (au (u.aap b' o' u' e) fr)];exact u.aap b' o' u' e
  ·obtain⟨m,q⟩:=u.aax b' ps e;exact⟨m,by rw[aq (au q fr)];exact q⟩
 ·rw[aq (Nat.ne_of_lt (Nat.lt_of_lt_of_le I.lt hT))];exact I1.free
 ·obtain⟨v',q⟩:=I.cell x c e;rw[aq (Nat.ne_of_lt (Nat.lt_of_lt_of_le q.lt hT))];exact I1.aar x c e
 ·obtain⟨e,n,r⟩:=I1.pin p hp;have lt:p.1<s.heap.objs.size:=Heap.lt_size (I.pin p hp).1;exact⟨e,by rw[aq (Nat.ne_of_lt (Nat.lt_of_lt_of_le lt hT))];exact n,r⟩
theorem Inv.aa2 {h':Heap}{t':Nat}{ch:List Addr}(I:Inv X pins σ H s)(k:∀b o,b∉ch->s.heap.get? b=some o->h'.get? b=some o)(hf:∀b∈ch,df X pins H b):Inv X pins σ H {s with heap:=h',toks:=t'}:=by
 have KS:∀b u,H b=some u->b∉ch:=λb u e z=>by rw[(hf b z).1] at e;cases e
 refine I.step (g':=s.gens) (d':=s.drawn) (ch:=ch) (λb hb=>?_) (λb o _ _ hc e _=>k b o hc e) (λb o _ _ hc e _=>⟨o.slots,k b o hc e⟩) (λ_ _ _ _ n=>n)
  (λb o hc e=>⟨o,k b o hc e⟩) (λ_ _ e=>e) (λ_ _ _ e=>e) (λb ps e=>⟨#[],by rw[e];simp⟩) (λm hm=>?_) (λb u e=>?_) I.bare
 ·obtain⟨f0,f1,f2,f3,f4,f5⟩:=hf b hb;exact⟨f3,f1,f4,f5⟩
 ·obtain⟨o,es,ep,ho,r⟩:=hm;exact⟨o,es,ep,k _ o (λz=>(hf _ z).2.1 rfl) ho,r⟩
 ·refine(I.hok b u e).aa0 (λc v hc q=>k c v ?_ q) (λ_ q=>q) λ_ _ q=>q
  rcases hc with z|z
  ·rw[z];exact KS b u e
  ·exact KS c _ z
end
def Ff (K:Frag)(a:Addr):It :=
 ⟨λi H=>∃xs x,aO K H a xs/\xs[i]?=some x,λi H x H'=>∃T y,(∀xs,aO K H a xs->xs[i]?=some y)/\H T=none/\x=.ref T/\H'=upd H T (.tup [.int i,y]),λi H=>∃xs,aO K H a xs/\xs.length<=i⟩
theorem wk (a e it:Addr)(HU:e≠it):Turn P w K (.Tuple elts x1 tp) (Ff K a) [e,it] e (λi h=>∃old,IsEnum h e it i old/\h.IsListIter it a i) where
 mem:=by simp
 obj:=λi h st b hb=>by
  obtain⟨old,h1,o,h2,_,h3⟩:=st
  rcases(by simpa using hb:b=e\/b=it) with z|z
  ·subst z;exact⟨_,h1,λv z=>by cases z⟩
  ·subst z;exact⟨o,h2,λv z=>by rw[h3] at z;cases z⟩
 keep:=λi h h' st k=>let⟨old,h1,h2⟩:=st;⟨old,k e (by simp) _ h1,h2.at λo q=>k it (by simp) o q⟩
 item:=by
  intro X hP hw hK hc i pins s σ H E I hf st hg;subst hP hw hK;obtain⟨xs,x,hq,hx⟩:=hg;obtain⟨its,rv,p,hz⟩:=I.list hq;obtain⟨u,hu,ru⟩:=rv.get hx;obtain⟨old,he,hit⟩:=st;refine wpAny_pyNext_enum_item he hit p.isList (x:=u) (by simpa using hu) HU λh' q1 q2 q3 q4 q5=>?_;refine⟨_,rfl,wpAny_letOwnedTupleGo_enum (s:={s with heap:=h',toks:=s.toks+1}) q1 λh2 q6 q7=>?_⟩;have Xn:s.heap.objs.size≠e:=Nat.ne_of_gt (Heap.lt_size he)
  have I1:Inv X pins σ H {s with heap:=h2,toks:=s.toks+1}:=I.aa2 (t':=s.toks+1) (ch:=[e,it]) (λb o hb z=>by
   have HP:b≠e/\b≠it:=by simpa using hb
   exact(q7.2 b HP.1).trans (q5 b o HP.1 HP.2 z)) hf
  have tup:h2.get? s.heap.objs.size=some {cls:=.type "tuple",data:=.seq #[.int i s.toks,u]}:=(q7.2 _ Xn).trans q3;have fr:H s.heap.objs.size=none:=I.hok.fresh (Nat.le_refl _);have I2:=I.abN (xs:=[.int i,x]) (its:=[.int i s.toks,u]) I1 (Nat.le_refl _) tup (.cons ⟨_,rfl⟩ (.cons ru .nil)) nj;refine⟨.ref s.heap.objs.size,_,I2,rfl,⟨s.heap.objs.size,x,λys hy=>by rw[I.aaQ hy hq];exact hx,fr,rfl,rfl⟩,⟨u,q6,q2.at λo q=>(q7.2 _ (Ne.symm HU)).trans q⟩,λb hb=>?_⟩
  have nb:b≠s.heap.objs.size:=by
   rcases(by simpa using hb:b=e\/b=it) with z|z
   ·subst z;exact Ne.symm Xn
   ·subst z;obtain⟨o,q,_⟩:=hit;exact Nat.ne_of_lt (Heap.lt_size q)
  rw[aq nb];exact(hf b hb).1
 done:=by
  intro X hP hw hK hc i pins s σ H E I hf st hg;subst hP hw hK;obtain⟨xs,hq,hx⟩:=hg;obtain⟨its,rv,p,hz⟩:=I.list hq;have hl:=rv.length;obtain⟨old,he,hit⟩:=st;obtain⟨f0,f1,f2,f3,f4,f5⟩:=hf it (by simp);exact wpAny_pyNext_enum_end (I.ok.hd hc) he hit p.isList (by simp;omega) λh' eb=>⟨rfl,I.turned (t':=s.toks) (λb o hb e=>eb b o hb e) f0 f1 f3 f4 f5⟩
 self:=λ_ _ _ _ _ st h=>let⟨old,h1,_⟩:=st;wpAny_pyIter_enum h1 h
def EI (K:Frag)(tl:TE):TI:=λσ H R=>bH tl CP σ H λvs H1=>∃a xs,vs=[.ref a]/\aO K H1 a xs/\R (Ff K a) H1
theorem tT {X:Cx}{l:Expr}{tl:TE}{p pos:Pos}(hl:PE X l tl)(hg:Gl X "enumerate")(hm:X.mg "enumerate"=none)(hs:gm l=false:=by rfl):
 PI X (.Tuple elts x1 tp) (.Call (.Name "enumerate" p) [l] [] pos) (EI X.K tl):=by
 intro pins s σ H R I h;refine wpAny_Call_Name_kw (dm I hg hm (by rfl) ?_ (by decide) (by decide));refine PyProof.Rows.callWith_type1 (bu (ah hl ag hs pos pins s σ H _ I h) λus s1 z'=>?_) (aU hs) rfl;obtain⟨vs,H1,I1,r1,a,xs,hv,hq,rr⟩:=z';subst hv;obtain⟨u,rfl,ru⟩:=fE r1
 cases(show u=Value.ref a from ru)
 obtain⟨its,rv,pl,hz⟩:=I1.list hq;refine call_enumerate_list pl.isList λh' q1 q2 q3 q4=>?_;have I2:Inv X pins σ H1 {s1 with heap:=h'}:=I1.kept (t':=s1.toks) q4;refine wpAny_pyIter_enum (s:={s1 with heap:=h'}) q1 ?_;refine⟨s1.heap.objs.size+1,[s1.heap.objs.size+1,s1.heap.objs.size],_,Ff X.K a,H1,rfl,I2,wk a _ _ (Nat.succ_ne_self _),⟨_,q1,q2⟩,λb hb=>?_,rr⟩
 have HP:s1.heap.objs.size<=b:=by
  rcases(by simpa using hb:b=s1.heap.objs.size+1\/b=s1.heap.objs.size) with z|z
  ·rw[z];exact Nat.le_succ _
  ·rw[z];exact Nat.le_refl _
 exact I1.aaW HP (I1.hok.fresh HP)
end L2
namespace Zp
open PySem PyProof.Rows
section
variable {prog:zr}{w:World}{A:Around}{E:yf}{s:CW}
theorem lj {it t:Addr}{i:Nat}{items:vd}{x:Value}{Q:yf}(hit:s.heap.IsTupleIter it t i)(ht:s.heap.IsTuple t items)(hx:items[i]?=some x)
 (hQ:∀h',h'.IsTupleIter it t (i+1)->Heap.SameBut it s.heap h'->Q x {s with heap:=h'}):wpAny (model prog w) A (Builtin.SmallTypes.nextOf (.ref it)) Q E s:=by
 obtain⟨o,ho,hc,hd⟩:=id hit;obtain⟨ol,SV,_,nl,SX⟩:=ht;unfold Builtin.SmallTypes.nextOf;refine wpAny_bind (wpAny_callSpecial?_slot (name:=Str.ofString "__next__") hit.typeIs F.slot_tuple_iterator_next (wpAny_call_entry F.slot_tuple_iterator_next hit.typeIs F.entry_tuple_iterator_next ?_ (F.args_tuple_iterator_next_1 _)));show wpAny _ _ (field (.ref it) 0>>=_) _ _ s;refine wpAny_bind (wpAny_field ho hd (x:=.ref t) rfl ?_);show wpAny _ _ (if(Value.ref t==Value.none)=true then _ else _) _ _ s;rw[if_neg (show ¬((Value.ref t==Value.none)=true) from Bool.false_ne_true)];show wpAny _ _ (field (.ref it) 1>>=_) _ _ s;refine wpAny_bind (wpAny_field ho hd (x:=.int i 0) rfl ?_);show wpAny _ _ (seqItems? (.ref t)>>=_) _ _ s;refine wpAny_bind (wpAny_seqItems SV SX ?_);simp only[Int.toNat_natCast,hx];refine wpAny_bind (wpAny_setField ho hd (by simp) (wpAny_pure ⟨x,rfl,wpAny_pure (hQ _ ?_ (Heap.SameBut.update ..))⟩));exact⟨_,Heap.get?_update_self _ ho (Obj.isFreed_of_fields (Obj.data_mapFields hd _)),(Obj.cls_mapFields ..).trans hc,by rw[Obj.data_mapFields hd];simp[rawInt]⟩
theorem uV {it t:Addr}{i:Nat}{items:vd}{Q:yf}(hh:A.handled=none)(hit:s.heap.IsTupleIter it t i)(ht:s.heap.IsTuple t items)(hx:items[i]?=none)
 (hE:∀h' e,Heap.ExtBut it s.heap h'->(∃o,h'.get? e=some o/\o.cls=.type "StopIteration")->E (.ref e) {s with heap:=h'}):wpAny (model prog w) A (Builtin.SmallTypes.nextOf (.ref it)) Q E s:=by
 obtain⟨o,ho,hc,hd⟩:=id hit;obtain⟨ol,SV,_,nl,SX⟩:=ht;unfold Builtin.SmallTypes.nextOf;refine wpAny_bind (wpAny_callSpecial?_slot (name:=Str.ofString "__next__") hit.typeIs F.slot_tuple_iterator_next (wpAny_call_entry F.slot_tuple_iterator_next hit.typeIs F.entry_tuple_iterator_next ?_ (F.args_tuple_iterator_next_1 _)));show wpAny _ _ (field (.ref it) 0>>=_) _ _ s;refine wpAny_bind (wpAny_field ho hd (x:=.ref t) rfl ?_);show wpAny _ _ (if(Value.ref t==Value.none)=true then _ else _) _ _ s;rw[if_neg (show ¬((Value.ref t==Value.none)=true) from Bool.false_ne_true)];show wpAny _ _ (field (.ref it) 1>>=_) _ _ s;refine wpAny_bind (wpAny_field ho hd (x:=.int i 0) rfl ?_);show wpAny _ _ (seqItems? (.ref t)>>=_) _ _ s;refine wpAny_bind (wpAny_seqItems SV SX ?_);simp only[Int.toNat_natCast,hx];refine wpAny_bind (wpAny_rule (wpAny_bind (wpAny_setField ho hd (by simp) ?_)));show wpAny _ _ (newExc (.type "StopIteration") []>>=_) _ _ _;refine wpAny_bind ?_;simp only[newExc,newTuple];refine wpAny_bind (wpAny_newObj_type ?_ (by size_fits));refine wpAny_bind (m:=firstArgMember _ _) (wpAny_of_eq (a:=Value.none) (by first|rfl|(simp only[firstArgMember];rfl)) ?_);refine wpAny_newObj_type ?_ (by size_fits);simp only[raiseNew];refine wpAny_bind (wpAny_handled ?_)
 first|rw[show A.in1.handled=none from hh]|rw[hh]
 refine wpAny_bind (wpAny_pure (wpAny_throw ?_));exact hE _ _ (((Heap.SameBut.update ..).extBut.push _).push _) ⟨_,Heap.get?_push_size _ rfl,rfl⟩
end
structure Apart (z TI TO i1 i2 l1 l2:Addr):Prop where
 TIz:TI≠z
 TOz:TO≠z
 i1z:i1≠z
 i2z:i2≠z
 TITO:TI≠TO
 TIi1:TI≠i1
 TIi2:TI≠i2
 TOi1:TO≠i1
 TOi2:TO≠i2
 i12:i1≠i2
 l1n:l1 ∉ [z,TO,i1,i2]
 l2n:l2 ∉ [z,TO,i1,i2]
structure Zs (h:Heap)(z TI TO i1 i2 l1 l2:Addr)(k:Nat):Prop where
 hz:IsZip h z TI TO .none
 hTI:IsPair h TI (.ref i1) (.ref i2)
 Ru:∃a b,IsPair h TO a b
 h1:h.IsTupleIter i1 l1 k
 h2:h.IsTupleIter i2 l2 k
theorem ie {h h':Heap}{i l:Addr}{k:Nat}(x:h.IsTupleIter i l k)(q:∀o,h.get? i=some o->h'.get? i=some o):h'.IsTupleIter i l k:=let⟨o,a,b⟩:=x;⟨o,q o a,b⟩
section
variable {prog:zr}{w:World}{A:Around}{E:yf}{s:CW}{z TI TO i1 i2 l1 l2:Addr}{k:Nat}{xs ys:vd}{x y:Value}
theorem item {Q:yf}(D:Apart z TI TO i1 i2 l1 l2)(Z:Zs s.heap z TI TO i1 i2 l1 l2 k)(Jo:s.heap.IsTuple l1 xs)(Jk:s.heap.IsTuple l2 ys)(hx:xs[k]?=some x)(hy:ys[k]?=some y)
 (hQ:∀h',IsZip h' z TI TO (rawInt s.heap.objs.size)->(∃a b,IsPair h' TO a b)->h'.IsTupleIter i1 l1 (k+1)->h'.IsTupleIter i2 l2 (k+1)->IsPair h' s.heap.objs.size x y →
  (∀c o,c ∉ [z,TO,i1,i2]->s.heap.get? c=some o->h'.get? c=some o)->Q (.ref s.heap.objs.size) {s with heap:=h'}):
 wpAny (model prog w) A (Builtin.«zip.__next__» ⟨[.ref z],[]⟩) (λfin s'=>∃v,fin=.done (.ret v)/\Q v s') E s:=by
 obtain⟨hz,hTI,⟨a,b,Ru⟩,h1,h2⟩:=Z
 have n1:l1≠z/\l1≠TO/\l1≠i1/\l1≠i2:=by simpa using D.l1n
 have n2:l2≠z/\l2≠TO/\l2≠i1/\l2≠i2:=by simpa using D.l2n
 show wpAny _ _ (field (.ref z) 2>>=_) _ _ _;refine wpAny_bind (wpAny_field hz rfl (x:=.bool false) rfl ?_);show wpAny _ _ (field (.ref z) 3>>=_) _ _ _;refine wpAny_bind (wpAny_field hz rfl (x:=.ref TI) rfl ?_);refine wpAny_bind (wpAny_seqItems hTI rfl ?_);show wpAny _ _ (Builtin.SmallTypes.ownedTupleIsFree (.ref z)>>=_) _ _ _;refine wpAny_bind ?_;unfold Builtin.SmallTypes.ownedTupleIsFree;refine wpAny_bind (wpAny_field hz rfl (x:=.none) rfl (wpAny_pure ?_));simp only[if_true];refine wpAny_bind (wpAny_rule ?_);refine wpAny_bind (wpAny_field hz rfl (x:=.ref TO) rfl ?_);refine wpAny_bind (wpAny_setField_rec hz (by simp) λg1 JT s1=>?_)
 replace JT:IsZip g1 z TI TO .ellipsis:=JT
 refine wpAny_bind ?_;simp only[List.zipIdx_cons,List.zipIdx_nil,List.forIn_cons,List.forIn_nil];refine wpAny_bind (wpAny_bind (wpAny_onRaise ?_));show wpAny _ _ (Builtin.SmallTypes.nextOf (.ref i1)>>=_) _ _ _;refine wpAny_bind (lj (h1.extBut s1.extBut D.i1z) (Jo.extBut s1.extBut n1.1) hx λg2 a2 s2=>wpAny_pure ?_);have t2:IsPair g2 TO a b:=s2.extBut _ _ D.TOi1 (s1.extBut _ _ D.TOz Ru);refine wpAny_bind (wpAny_seqItems t2 rfl ?_);refine wpAny_bind (wpAny_updateSeq_pair t2 λg3 t3 s3=>?_)
 replace t3:IsPair g3 TO x b:=t3
 refine wpAny_bind (wpAny_letGo (wpAny_pure ?_));refine wpAny_bind (wpAny_bind (wpAny_onRaise ?_));show wpAny _ _ (Builtin.SmallTypes.nextOf (.ref i2)>>=_) _ _ _;refine wpAny_bind (lj (((h2.extBut s1.extBut D.i2z).extBut s2.extBut D.i12.symm).extBut s3.extBut D.TOi2.symm) (((Jk.extBut s1.extBut n2.1).extBut s2.extBut n2.2.2.1).extBut s3.extBut n2.2.1) hy λg4 a4 s4=>wpAny_pure ?_);have t4:IsPair g4 TO x b:=s4.extBut _ _ D.TOi2 t3;refine wpAny_bind (wpAny_seqItems t4 rfl ?_);refine wpAny_bind (wpAny_updateSeq_pair t4 λg5 t5 s5=>?_)
 replace t5:IsPair g5 TO x y:=t5
 refine wpAny_bind (wpAny_letGo (wpAny_pure (wpAny_pure ?_)));refine wpAny_bind (wpAny_seqItems t5 rfl ?_);refine wpAny_bind (wpAny_newTuple ?_)
 have sz:g5.objs.size=s.heap.objs.size:=by rw[s5.1,s4.1,s3.1,s2.1,s1.1]
 have z5:IsZip g5 z TI TO .ellipsis:=s5.extBut _ _ D.TOz.symm (s4.extBut _ _ D.i2z.symm (s3.extBut _ _ D.TOz.symm (s2.extBut _ _ D.i1z.symm JT)))
 have k5:∀c o,c ∉ [z,TO,i1,i2]->s.heap.get? c=some o->g5.get? c=some o:=λc o hc e=>by
  have HK:c≠z/\c≠TO/\c≠i1/\c≠i2:=by simpa using hc
  exact s5.extBut _ _ HK.2.1 (s4.extBut _ _ HK.2.2.2 (s3.extBut _ _ HK.2.1 (s2.extBut _ _ HK.2.2.1 (s1.extBut _ _ HK.1 e))))
 have a5:g5.IsTupleIter i1 l1 (k+1):=((a2.extBut s3.extBut D.TOi1.symm).extBut s4.extBut D.i12).extBut s5.extBut D.TOi1.symm;have b5:g5.IsTupleIter i2 l2 (k+1):=a4.extBut s5.extBut D.TOi2.symm;have Xo:z<g5.objs.size:=Heap.lt_size z5;show wpAny _ _ (Builtin.SmallTypes.ownedTupleHandOut (.ref z) (.ref g5.objs.size)>>=_) _ _ _;refine wpAny_bind ?_;unfold Builtin.SmallTypes.ownedTupleHandOut;have z6:IsZip (g5.push {cls:=.type "tuple",data:=.seq #[x,y]}) z TI TO .ellipsis:=Heap.get?_push_of_some _ z5;refine wpAny_bind (wpAny_setField_rec z6 (by simp) λg7 z7 s7=>?_)
 replace z7:IsZip g7 z TI TO (rawInt g5.objs.size):=z7
 refine wpAny_setField_rec z7 (by simp) λg8 z8 s8=>?_
 replace z8:IsZip g8 z TI TO (rawInt g5.objs.size):=z8
 have up:∀c o,c≠z->g5.get? c=some o->g8.get? c=some o:=λc o c1 e=>s8.extBut _ _ c1 (s7.extBut _ _ c1 (Heap.get?_push_of_some _ e));have t8:IsPair g8 g5.objs.size x y:=s8.extBut _ _ (Nat.ne_of_gt Xo) (s7.extBut _ _ (Nat.ne_of_gt Xo) (Heap.get?_push_size _ rfl));rw[sz] at z8 t8;refine wpAny_pure ⟨_,rfl,?_⟩;show Q (.ref g5.objs.size) _;rw[sz];exact hQ g8 z8 ⟨x,y,up _ _ D.TOz t5⟩ (ie a5 λo e=>up _ o D.i1z e) (ie b5 λo e=>up _ o D.i2z e) t8 λc o hc e=>up c o (λq=>hc (by simp[q])) (k5 c o hc e)
theorem Gf {Q:Fin->Shared->Prop}(hh:A.handled=none)(D:Apart z TI TO i1 i2 l1 l2)(Z:Zs s.heap z TI TO i1 i2 l1 l2 k)(Jo:s.heap.IsTuple l1 xs)(Jk:s.heap.IsTuple l2 ys)(LU:xs[k]?=none\/ys[k]?=none)
 (hE:∀h' e,(∀c o,c ∉ [z,TO,i1,i2]->s.heap.get? c=some o->h'.get? c=some o)->(∃o,h'.get? e=some o/\o.cls=.type "StopIteration")->E (.ref e) {s with heap:=h'}):
 wpAny (model prog w) A (Builtin.«zip.__next__» ⟨[.ref z],[]⟩) Q E s:=by
 obtain⟨hz,hTI,⟨a,b,Ru⟩,h1,h2⟩:=Z
 have n1:l1≠z/\l1≠TO/\l1≠i1/\l1≠i2:=by simpa using D.l1n
 have n2:l2≠z/\l2≠TO/\l2≠i1/\l2≠i2:=by simpa using D.l2n
 show wpAny _ _ (field (.ref z) 2>>=_) _ _ _;refine wpAny_bind (wpAny_field hz rfl (x:=.bool false) rfl ?_);show wpAny _ _ (field (.ref z) 3>>=_) _ _ _;refine wpAny_bind (wpAny_field hz rfl (x:=.ref TI) rfl ?_);refine wpAny_bind (wpAny_seqItems hTI rfl ?_);show wpAny _ _ (Builtin.SmallTypes.ownedTupleIsFree (.ref z)>>=_) _ _ _;refine wpAny_bind ?_;unfold Builtin.SmallTypes.ownedTupleIsFree;refine wpAny_bind (wpAny_field hz rfl (x:=.none) rfl (wpAny_pure ?_));simp only[if_true];refine wpAny_bind (wpAny_rule ?_);refine wpAny_bind (wpAny_field hz rfl (x:=.ref TO) rfl ?_);refine wpAny_bind (wpAny_setField_rec hz (by simp) λg1 JT s1=>?_)
 replace JT:IsZip g1 z TI TO .ellipsis:=JT
 refine wpAny_bind ?_;simp only[List.zipIdx_cons,List.zipIdx_nil,List.forIn_cons,List.forIn_nil];refine wpAny_bind (wpAny_bind (wpAny_onRaise ?_));show wpAny _ _ (Builtin.SmallTypes.nextOf (.ref i1)>>=_) _ _ _
 cases hx:xs[k]? with
 |none =>
  refine wpAny_bind (uV hh (h1.extBut s1.extBut D.i1z) (Jo.extBut s1.extBut n1.1) hx λg2 e s2 he=>?_);obtain⟨oe,LV,NN⟩:=he;have z2:IsZip g2 z TI TO .ellipsis:=s2 _ _ D.i1z.symm JT
  have ez:e≠z:=λq=>by subst q;rw[z2] at LV;cases LV;simp at NN
  refine wpAny_setField_rec z2 (by simp) λg3 _ s3=>hE g3 e (λc o hc q=>?_) ⟨oe,s3.extBut _ _ ez LV,NN⟩
  have HK:c≠z/\c≠TO/\c≠i1/\c≠i2:=by simpa using hc
  exact s3.extBut _ _ HK.1 (s2 _ _ HK.2.2.1 (s1.extBut _ _ HK.1 q))
 |some x =>
  have hy:ys[k]?=none:=by
   rcases LU with h|h
   ·rw[hx] at h;cases h
   ·exact h
  refine wpAny_bind (lj (h1.extBut s1.extBut D.i1z) (Jo.extBut s1.extBut n1.1) hx λg2 a2 s2=>wpAny_pure ?_);have t2:IsPair g2 TO a b:=s2.extBut _ _ D.TOi1 (s1.extBut _ _ D.TOz Ru);refine wpAny_bind (wpAny_seqItems t2 rfl ?_);refine wpAny_bind (wpAny_updateSeq_pair t2 λg3 t3 s3=>?_);refine wpAny_bind (wpAny_letGo (wpAny_pure ?_));refine wpAny_bind (wpAny_bind (wpAny_onRaise ?_));show wpAny _ _ (Builtin.SmallTypes.nextOf (.ref i2)>>=_) _ _ _;refine wpAny_bind (uV hh (((h2.extBut s1.extBut D.i2z).extBut s2.extBut D.i12.symm).extBut s3.extBut D.TOi2.symm) (((Jk.extBut s1.extBut n2.1).extBut s2.extBut n2.2.2.1).extBut s3.extBut n2.2.1) hy λg4 e s4 he=>?_);obtain⟨oe,LV,NN⟩:=he;have z4:IsZip g4 z TI TO .ellipsis:=s4 _ _ D.i2z.symm (s3.extBut _ _ D.TOz.symm (s2.extBut _ _ D.i1z.symm JT))
  have ez:e≠z:=λq=>by subst q;rw[z4] at LV;cases LV;simp at NN
  refine wpAny_setField_rec z4 (by simp) λg5 _ s5=>hE g5 e (λc o hc q=>?_) ⟨oe,s5.extBut _ _ ez LV,NN⟩
  have HK:c≠z/\c≠TO/\c≠i1/\c≠i2:=by simpa using hc
  exact s5.extBut _ _ HK.1 (s4 _ _ HK.2.2.2 (s3.extBut _ _ HK.2.1 (s2.extBut _ _ HK.2.2.1 (s1.extBut _ _ HK.1 q))))
theorem wu {Q:Option Value->Shared->Prop}(D:Apart z TI TO i1 i2 l1 l2)(Z:Zs s.heap z TI TO i1 i2 l1 l2 k)(Jo:s.heap.IsTuple l1 xs)(Jk:s.heap.IsTuple l2 ys)(hx:xs[k]?=some x)(hy:ys[k]?=some y)
 (hQ:∀h',IsZip h' z TI TO (rawInt s.heap.objs.size)->(∃a b,IsPair h' TO a b)->h'.IsTupleIter i1 l1 (k+1)->h'.IsTupleIter i2 l2 (k+1)->IsPair h' s.heap.objs.size x y →
  (∀c o,c ∉ [z,TO,i1,i2]->s.heap.get? c=some o->h'.get? c=some o)->Q (some (.ref s.heap.objs.size)) {s with heap:=h'}):
 wpAny (model prog w) A (pyNext (.ref z)) Q E s:=by
 have hT:s.TypeIs (.ref z) "zip":=⟨_,Z.hz,rfl⟩;unfold pyNext
 exact wpAny_bind (wpAny_attempt (wpAny_callSpecial?_slot (name:=Str.ofString "__next__") hT F.slot_zip_next
  (wpAny_call_entry F.slot_zip_next hT F.entry_zip_next (item D Z Jo Jk hx hy λh' a1 a2 a3 a4 a5 a6=>wpAny_pure (hQ h' a1 a2 a3 a4 a5 a6)) (F.args_zip_next_1 _))))
theorem wy {Q:Option Value->Shared->Prop}(hh:A.handled=none)(D:Apart z TI TO i1 i2 l1 l2)(Z:Zs s.heap z TI TO i1 i2 l1 l2 k)(Jo:s.heap.IsTuple l1 xs)(Jk:s.heap.IsTuple l2 ys)(LU:xs[k]?=none\/ys[k]?=none)
 (hQ:∀h',(∀c o,c ∉ [z,TO,i1,i2]->s.heap.get? c=some o->h'.get? c=some o)->Q none {s with heap:=h'}):wpAny (model prog w) A (pyNext (.ref z)) Q E s:=by
 have hT:s.TypeIs (.ref z) "zip":=⟨_,Z.hz,rfl⟩;unfold pyNext
 refine wpAny_bind (wpAny_attempt (wpAny_callSpecial?_slot (name:=Str.ofString "__next__") hT F.slot_zip_next
  (wpAny_call_entry F.slot_zip_next hT F.entry_zip_next (Gf hh D Z Jo Jk LU λh' e hk he=>?_) (F.args_zip_next_1 _))))
 obtain⟨o,ho,hc⟩:=he;refine wpAny_bind (wpAny_isInstance (T:="StopIteration") (b:=true) ⟨o,ho,hc⟩ isSubtype_stop ?_);exact wpAny_pure (hQ _ hk)
end
abbrev g1 (h:Heap)(l1:Addr):Heap:=h.push {cls:=.type "tuple_iterator",data:=.fields #[.ref l1,.int 0 0]}
abbrev g2 (h:Heap)(l1 l2:Addr):Heap:=(g1 h l1).push {cls:=.type "tuple_iterator",data:=.fields #[.ref l2,.int 0 0]}
abbrev g3 (h:Heap)(l1 l2:Addr):Heap:=(g2 h l1 l2).push {cls:=.type "tuple",data:=.seq #[.ref h.objs.size,.ref (g1 h l1).objs.size]}
abbrev g4 (h:Heap)(l1 l2:Addr):Heap:=(g3 h l1 l2).push {cls:=.type "tuple",data:=.seq #[.none,.none]}
abbrev g5 (h:Heap)(l1 l2:Addr):Heap:=(g4 h l1 l2).push {cls:=.type "zip",data:=.fields #[.none,.bool false,.bool false,.ref (g2 h l1 l2).objs.size,.ref (g3 h l1 l2).objs.size]}
theorem vj (l1 l2:Addr)(xs ys:vd):
 Meets (Builtin.«zip.__new__» ⟨[.type "zip",.ref l1,.ref l2],[]⟩) (λ_ R s=>s.heap.IsTuple l1 xs/\s.heap.IsTuple l2 ys/\R (.ok (.ret (.ref (g4 s.heap l1 l2).objs.size))) {s with heap:=g5 s.heap l1 l2}):=
 .of_wp λprog w A R s h=>by
  obtain⟨hp,g,d,tk,os⟩:=s;obtain⟨Jo,Jk,h⟩:=h;have Z9:=sub_zip;have hL1:Heap.IsTuple (Shared.heap ⟨hp,g,d,tk,os⟩) l1 xs:=Jo;have NP:Heap.IsTuple (Shared.heap ⟨hp.push {cls:=.type "tuple_iterator",data:=.fields #[.ref l1,.int 0 0]},g,d,tk,os⟩) l2 ys:=Heap.IsTuple.push Jk _
  wp_walk using wpAny_pyIter_tuple hL1,wpAny_pyIter_tuple NP
  exact⟨_,rfl,h⟩
section
variable {prog:zr}{w:World}{A:Around}{E:yf}{s:CW}
theorem DZ {l1 l2:Addr}{xs ys:vd}{Q:yf}(Jo:s.heap.IsTuple l1 xs)(Jk:s.heap.IsTuple l2 ys)
 (h:∀h',Zs h' (s.heap.objs.size+4) (s.heap.objs.size+2) (s.heap.objs.size+3) s.heap.objs.size (s.heap.objs.size+1) l1 l2 0->(∀c o,s.heap.get? c=some o->h'.get? c=some o)->Q (.ref (s.heap.objs.size+4)) {s with heap:=h'}):
 wpAny (model prog w) A (call (.type "zip") [.ref l1,.ref l2]) Q E s:=by
 refine callType_new F.called_zip (by decide) (F.typeCall_zip_2 _ _) (F.newCall_zip_2 _ _) (λobj=>F.args_object_init_3 obj _ _) F.entry_zip_new (vj l1 l2 xs ys) ⟨Jo,Jk,?_⟩;have z1:(g1 s.heap l1).objs.size=s.heap.objs.size+1:=Heap.size_push ..
 have z2:(g2 s.heap l1 l2).objs.size=s.heap.objs.size+2:=by rw[Heap.size_push,z1]
 have z3:(g3 s.heap l1 l2).objs.size=s.heap.objs.size+3:=by rw[Heap.size_push,z2]
 have z4:(g4 s.heap l1 l2).objs.size=s.heap.objs.size+4:=by rw[Heap.size_push,z3]
 have q5:(g5 s.heap l1 l2).get? (g4 s.heap l1 l2).objs.size=some _:=Heap.get?_push_size _ rfl;have q4:(g5 s.heap l1 l2).get? (g3 s.heap l1 l2).objs.size=some _:=Heap.get?_push_of_some _ (Heap.get?_push_size _ rfl);have q3:(g5 s.heap l1 l2).get? (g2 s.heap l1 l2).objs.size=some _:=Heap.get?_push_of_some _ (Heap.get?_push_of_some _ (Heap.get?_push_size _ rfl));have q2:(g5 s.heap l1 l2).get? (g1 s.heap l1).objs.size=some _:=Heap.get?_push_of_some _ (Heap.get?_push_of_some _ (Heap.get?_push_of_some _ (Heap.get?_push_size _ rfl)));have q1:(g5 s.heap l1 l2).get? s.heap.objs.size=some _:=Heap.get?_push_of_some _ (Heap.get?_push_of_some _ (Heap.get?_push_of_some _ (Heap.get?_push_of_some _ (Heap.get?_push_size _ rfl))));show _/\_;rw[z2,z3,z4] at q5;rw[z1,z2] at q3;rw[z3] at q4;rw[z1] at q2;rw[z4];exact⟨⟨_,q5,rfl⟩,h _ ⟨q5,q3,⟨_,_,q4⟩,⟨_,q1,rfl,rfl⟩,⟨_,q2,rfl,rfl⟩⟩ λc o e=>Heap.get?_push_of_some _ (Heap.get?_push_of_some _ (Heap.get?_push_of_some _ (Heap.get?_push_of_some _ (Heap.get?_push_of_some _ e))))⟩
end
theorem cn {a b:Nat}(h:a≠b):(a:Addr)≠b:=h
theorem yI (n a b:Nat)(ha:a<n)(hb:b<n):Apart (n+4) (n+2) (n+3) n (n+1) a b:=by
 refine⟨cn ?_,cn ?_,cn ?_,cn ?_,cn ?_,cn ?_,cn ?_,cn ?_,cn ?_,cn ?_,?_,?_⟩
 any_goals omega
 ·simp only[List.mem_cons,List.not_mem_nil,or_false,not_or];exact⟨cn (by omega),cn (by omega),cn (by omega),cn (by omega)⟩
 ·simp only[List.mem_cons,List.not_mem_nil,or_false,not_or];exact⟨cn (by omega),cn (by omega),cn (by omega),cn (by omega)⟩
end Zp
namespace L2
open PySem PySem.Spec PyProof.Rows PySem.W
def E5 (K:Frag)(a b:Addr):It :=
 ⟨λi H=>∃xs ys x y,bw K H a xs/\bw K H b ys/\xs[i]?=some x/\ys[i]?=some y,
  λi H v H'=>∃T x y,(∀xs,bw K H a xs->xs[i]?=some x)/\(∀ys,bw K H b ys->ys[i]?=some y)/\H T=none/\v=.ref T/\H'=upd H T (.tup [x,y]),
  λi H=>∃xs ys,bw K H a xs/\bw K H b ys/\(xs.length<=i\/ys.length<=i)⟩
theorem yr {P:zr}{w:World}{K:Frag}{elts:qk}{x1:Nat}{tp:Pos}{a b z TI TO i1 i2:Addr}(D:Zp.Apart z TI TO i1 i2 a b):
 Turn P w K (.Tuple elts x1 tp) (E5 K a b) [z,TO,i1,i2,TI] z (λi h=>Zp.Zs h z TI TO i1 i2 a b i) where
 mem:=by simp
 obj:=λi h st c hb=>by
  obtain⟨h1,h2,⟨_,_,h3⟩,⟨o4,h4,_,d4⟩,⟨o5,h5,_,d5⟩⟩:=st
  rcases(by simpa using hb:c=z\/c=TO\/c=i1\/c=i2\/c=TI) with q|q|q|q|q
  ·subst q;exact⟨_,h1,λv q=>by cases q⟩
  ·subst q;exact⟨_,h3,λv q=>by cases q⟩
  ·subst q;exact⟨_,h4,λv q=>by rw[d4] at q;cases q⟩
  ·subst q;exact⟨_,h5,λv q=>by rw[d5] at q;cases q⟩
  ·subst q;exact⟨_,h2,λv q=>by cases q⟩
 keep:=λi h h' st k=>by
  obtain⟨h1,h2,⟨_,_,h3⟩,h4,h5⟩:=st;exact⟨k z (by simp) _ h1,k TI (by simp) _ h2,⟨_,_,k TO (by simp) _ h3⟩,Zp.ie h4 λo q=>k i1 (by simp) o q,Zp.ie h5 λo q=>k i2 (by simp) o q⟩
 item:=by
  intro X hP hw hK hc i pins s σ H E I hf st hg;subst hP hw hK;obtain⟨xs,ys,x,y,hq,hr,hx,hy⟩:=hg;obtain⟨its,rv,p,hz⟩:=I.tuple hq;obtain⟨NQ,IA,p',Xp⟩:=I.tuple hr;obtain⟨u,hu,ru⟩:=rv.get hx;obtain⟨v,hv,SY⟩:=IA.get hy;refine Zp.wu D st (show s.heap.IsTuple a its.toArray from p) (show s.heap.IsTuple b NQ.toArray from p') (x:=u) (y:=v) (by simpa using hu) (by simpa using hv) λh' q1 q2 q3 q4 q5 q6=>?_;refine⟨_,rfl,wpAny_letOwnedTupleGo_zip (s:={s with heap:=h'}) q1 λh2 q7 q8=>?_⟩;have lt:∀c o,s.heap.get? c=some o->c≠s.heap.objs.size:=λc o e=>Nat.ne_of_lt (Heap.lt_size e)
  have I1:Inv X pins σ H {s with heap:=h2}:=I.aa2 (t':=s.toks) (ch:=[z,TO,i1,i2]) (λc o hc e=>(q8.2 c λq=>hc (by simp[q])).trans (q6 c o hc e)) λc hc=>hf c (by
   rcases(by simpa using hc:c=z\/c=TO\/c=i1\/c=i2) with q|q|q|q <;> simp[q])
  have nz:s.heap.objs.size≠z:=Ne.symm (lt z _ st.hz);have tup:h2.get? s.heap.objs.size=some {cls:=.type "tuple",data:=.seq #[u,v]}:=(q8.2 _ nz).trans q5;have fr:H s.heap.objs.size=none:=I.hok.fresh (Nat.le_refl _);have I2:=I.abN (xs:=[x,y]) (its:=[u,v]) I1 (Nat.le_refl _) tup (.cons ru (.cons SY .nil)) nj;have up:∀c o,c≠z->h'.get? c=some o->h2.get? c=some o:=λc o hc e=>(q8.2 c hc).trans e;obtain⟨aa,bb,q2⟩:=q2;have S0:IsPair h' TI (.ref i1) (.ref i2):=q6 TI _ (by simp only[List.mem_cons,List.not_mem_nil,or_false,not_or];exact⟨D.TIz,D.TITO,D.TIi1,D.TIi2⟩) st.hTI
  refine⟨.ref s.heap.objs.size,_,I2,rfl,⟨s.heap.objs.size,x,y,λzs S5=>by rw[I.aaB S5 hq];exact hx,λzs S5=>by rw[I.aaB S5 hr];exact hy,fr,rfl,rfl⟩,
   ⟨q7,up _ _ D.TIz S0,⟨aa,bb,up _ _ D.TOz q2⟩,Zp.ie q3 λo e=>up _ o D.i1z e,Zp.ie q4 λo e=>up _ o D.i2z e⟩,λc hb=>?_⟩
  have nb:c≠s.heap.objs.size:=by
   obtain⟨h1,h2,⟨_,_,h3⟩,⟨o4,h4,_,d4⟩,⟨o5,h5,_,d5⟩⟩:=st
   rcases(by simpa using hb:c=z\/c=TO\/c=i1\/c=i2\/c=TI) with q|q|q|q|q <;> subst q
   ·exact lt _ _ h1
   ·exact lt _ _ h3
   ·exact lt _ _ h4
   ·exact lt _ _ h5
   ·exact lt _ _ h2
  rw[aq nb];exact(hf c hb).1
 done:=by
  intro X hP hw hK hc i pins s σ H E I hf st hg;subst hP hw hK;obtain⟨xs,ys,hq,hr,hx⟩:=hg;obtain⟨its,rv,p,hz⟩:=I.tuple hq;obtain⟨NQ,IA,p',Xp⟩:=I.tuple hr;have l1:=rv.length;have l2:=IA.length
  refine Zp.wy (I.ok.hd hc) D st (show s.heap.IsTuple a its.toArray from p) (show s.heap.IsTuple b NQ.toArray from p') (by
   rcases hx with q|q
   ·left;simp;omega
   ·right;simp;omega) λh' q=>⟨rfl,?_⟩
  exact I.aa2 (t':=s.toks) (ch:=[z,TO,i1,i2]) q λc hc=>hf c (by
   rcases(by simpa using hc:c=z\/c=TO\/c=i1\/c=i2) with q|q|q|q <;> simp[q])
 self:=λ_ _ _ _ _ st h=>wpAny_pyIter_zip st.hz h
def Gk (K:Frag)(ta tb:TE):TI:=λσ H R=>bH ta (bH tb CP) σ H λvs H1=>∃a b xs ys,vs=[.ref a,.ref b]/\bw K H1 a xs/\bw K H1 b ys/\R (E5 K a b) H1
theorem CG {X:Cx}{ea eb:Expr}{ta tb:TE}{elts:qk}{x1:Nat}{tp p pos:Pos}(ha:PE X ea ta)(hb:PE X eb tb)(hg:Gl X "zip")(hm:X.mg "zip"=none)(hs:gm ea=false:=by rfl)(K3:gm eb=false:=by rfl):
 PI X (.Tuple elts x1 tp) (.Call (.Name "zip" p) [ea,eb] [] pos) (Gk X.K ta tb):=by
 intro pins s σ H R I h;refine wpAny_Call_Name_kw (dm I hg hm (by rfl) ?_ (by decide) (by decide));refine PyProof.Rows.callWith_type1 (bu (ah ha (ah hb ag K3) hs pos pins s σ H _ I h) λus s1 z'=>?_) (aU hs) (by rw[aU K3];rfl);obtain⟨vs,H1,I1,r1,a,b,xs,ys,hv,hq,hr,rr⟩:=z';subst hv;obtain⟨u,u',rfl,ru,SY⟩:=yD r1
 cases(show u=Value.ref a from ru)
 cases(show u'=Value.ref b from SY)
 obtain⟨its,rv,pl,hz⟩:=I1.tuple hq;obtain⟨NQ,IA,Xq,Xp⟩:=I1.tuple hr;refine Zp.DZ (show s1.heap.IsTuple a its.toArray from pl) (show s1.heap.IsTuple b NQ.toArray from Xq) λh' q1 q4=>?_;have I2:Inv X pins σ H1 {s1 with heap:=h'}:=I1.kept (t':=s1.toks) q4
 have la:a<s1.heap.objs.size:=by obtain⟨o,e,_⟩:=pl;exact Heap.lt_size e
 have lb:b<s1.heap.objs.size:=by obtain⟨o,e,_⟩:=Xq;exact Heap.lt_size e
 refine wpAny_pyIter_zip (s:={s1 with heap:=h'}) q1.hz ?_;refine⟨s1.heap.objs.size+4,[s1.heap.objs.size+4,s1.heap.objs.size+3,s1.heap.objs.size,s1.heap.objs.size+1,s1.heap.objs.size+2],_,E5 X.K a b,H1,rfl,I2,yr (Zp.yI _ _ _ la lb),q1,λc hc=>?_,rr⟩
 have HP:s1.heap.objs.size<=c:=by
  rcases(by simpa using hc:c=s1.heap.objs.size+4\/c=s1.heap.objs.size+3\/c=s1.heap.objs.size\/c=s1.heap.objs.size+1\/c=s1.heap.objs.size+2) with q|q|q|q|q <;> rw[q]
  ·exact Nat.le_add_right _ _
  ·exact Nat.le_add_right _ _
  ·exact Nat.le_refl _
  ·exact Nat.le_add_right _ _
  ·exact Nat.le_add_right _ _
 exact I1.aaW HP (I1.hok.fresh HP)
end L2
namespace K66
open PySem L2 PySem.W
abbrev Gw:Stmt:=aN (aS 24) 1
abbrev uA:Stmt:=aN (aS 24) 3
abbrev yX:Stmt:=(aS 12)
abbrev iZ:Stmt:=(aS 13)
def EN (C:Addr):Sp:=λvs H Q _=>∃(p dx:Addr)(i:Int)(y:V),vs=[.ref p,y]/\H p=some (.ins C dx (cJ i)) /\
 ((∃q dy j,y=.ref q/\H q=some (.ins C dy (cJ j))/\Q (.bl (decide (i=j))) H)\/∃T,Th H y T/\Q (.bl false) H)
def tW (C:Addr):Sp:=λvs H Q _=>∃(p dx:Addr)(i:Int),vs=[.ref p]/\H p=some (.ins C dx (cJ i))/\Q (.int i) H
def br:V->Bool
 | .int i=>decide (0<=i)&&decide (i<60)
 |_=>false
def mQ:Sp:=λvs H Q _=>∃x T,vs=[x]/\Th H x T/\Q (.bl (br x)) H
variable {P:zr}{w:World}{K:PySem.W.Frag}{mg:vK}{base:Heap}
theorem Gg:yx Aq Aq (ak Gw):=dJ (by decide +kernel)
variable {f C:Addr}{fd:zI}
theorem EX (F:zA K "__eq__" "Field.__eq__" Gw f fd)(c:xV K mg C)(n:CB mg):Ha P w K mg base (aV P w) 1 f fd Aq (EN C):=by
 refine F.okN Gg (λvs H Q E h=>?_) (λHn A outer s H vs Q E hr h=>?_)
 ·obtain⟨p,dx,i,y,rfl,_⟩:=h;rfl
 ·obtain⟨p,dx,i,y,rfl,hp,h⟩:=h
  refine⟨_,ao (aB (eU (az aY (by rfl) n.isi (by rfl) (dS (pv 1) (dS (c5 (by rfl) c.mgC (show aD (.ref C) (.ref C) from rfl)) ag)))
   (gX (cz cR (b7 (pv 0) rfl) (b7 (pv 1) rfl) (aF _))))),?_⟩
  rcases h with⟨q,dy,j,rfl,hq,z⟩|⟨T,th,z⟩
  ·refine⟨_,rfl,.ref q,.ref C,_,_,_,rfl,rfl,c.ty hq,c.is,_,rfl,?_⟩;refine aZ ?_;refine⟨_,rfl,p,C,dx,_,_,rfl,hp,c.cl,c.nP,rfl,_,rfl,q,C,dy,_,_,rfl,hq,c.cl,c.nP,rfl,rfl,?_⟩
   have e:decide (V.int i=V.int j)=decide (i=j):=by simp
   rw[e];exact z
  ·exact⟨_,rfl,y,.ref C,_,_,_,rfl,rfl,th.ty,c.no th,_,rfl,a9 z⟩
theorem zo:yx ["self"] ["self"] (ak uA):=dJ (by decide +kernel)
theorem wN (F:zA K "prime" "Field.prime" uA f fd)(c:xV K mg C):Ha P w K mg base (aV P w) 1 f fd ["self"] (tW C):=by
 refine F.okN zo (λvs H Q E h=>?_) (λHn A outer s H vs Q E hr h=>?_)
 ·obtain⟨p,dx,i,rfl,_⟩:=h;rfl
 ·obtain⟨p,dx,i,rfl,hp,q⟩:=h;exact⟨_,ao (aB (b7 (pv 0) rfl)),_,rfl,p,C,dx,_,_,rfl,hp,c.cl,c.nP,rfl,q⟩
theorem A6:yx Cz Cz (ak yX):=dJ (by decide +kernel)
theorem zj {fw:Addr}{Jw:zI}{tM:Tok}(F:zA K "is_place" "is_place" yX f fd)(mMP:mg "MOST_PLACES"=some (.int 60 tM))
 (FW:Ha P w K mg base (aV P w) 1 fw Jw Cz xJ)(bW:L2.aA K Jw Cz [])(mW:mg "is_whole"=some (.ref fw))(kW:keepIn K (.ref fw)=true):Ha P w K mg base (aV P w) 2 f fd Cz mQ:=by
 refine F.okN A6 (λvs H Q E h=>?_) (λHn A outer s H vs Q E hr h=>?_)
 ·obtain⟨x,T,rfl,_⟩:=h;rfl
 ·obtain⟨x,T,rfl,th,q⟩:=h;have Hu:qL 1 _:=hr.mono (by decide);refine⟨_,ao (aB (eU (av FW Hu (by rfl) mW kW bW .nil af (@ah _ _ _ _ _ (pv 0) ag rfl)) (gX (qv pQ jP ar (pv 0) (c5 (by rfl) mMP (show aD (.int 60) (.int 60 tM) from⟨_,rfl⟩)))))),?_⟩;refine⟨_,rfl,x,T,rfl,th,_,rfl,?_⟩
  cases e:eG x with
  |false =>
   have z:br x=false:=by cases x <;> first|rfl|cases e
   rw[z] at q;exact a9 q
  |true =>
   have z1:∃i,x=.int i:=by cases x <;> first|exact⟨_,rfl⟩|cases e
   obtain⟨i,rfl⟩:=z1;refine aZ ?_;refine⟨_,rfl,_,_,rfl,rfl,_,rfl,?_⟩;refine dI (λh=>?_) (λh=>?_)
   ·refine⟨_,_,rfl,rfl,?_⟩;have h':decide (0<=i)=true:=h
    have z:br (.int i)=decide (i<60):=by show(decide (0<=i)&&decide (i<60))=_;rw[h',Bool.true_and]
    rw[z] at q;exact q
   ·have h':decide (0<=i)=false:=by simpa using h
    have z:br (.int i)=false:=by show(decide (0<=i)&&decide (i<60))=_;rw[h',Bool.false_and]
    rw[z] at q;exact q
inductive PX (H:Hp):V->Option (List V)->Prop where
 |no {x:V}{T:String}:Th H x T->T ≠ "tuple"->PX H x none
 |tup {a:Addr}{xs:List V}:H a=some (.tup xs)->xs.length<4000->(∀y∈xs,∃T,Th H y T)->PX H (.ref a) (some xs)
def Eg:V->V->Bool
 | .int a,.int b=>decide (a<b)
 |_,_=>false
def jX (xs:List V):Bool:=(xs.zip (xs.drop 1)).all λp=>Eg p.1 p.2
def lM:Option (List V)->Bool
 |none=>false
 |some xs=>xs.all br&&jX xs
def xP:Sp:=λvs H Q _=>∃x o,vs=[x]/\PX H x o/\∀H',aw H H'->Q (.bl (lM o)) H'
theorem EY (xs:List V):gh xs (some 1) none=xs.drop 1:=by
 unfold gh HT.da
 cases xs with
 |nil=>rfl
 |cons x xs=>simp
theorem vJ:yx Cz Cz (ak iZ):=dJ (by decide +kernel)
theorem oZ:∀bs:List Bool,Paired E1 (bs.map V.bl) bs
 |[]=>.nil
 |b::bs=>.cons rfl (oZ bs)
theorem rZ {fp:Addr}{IC:zI}(F:zA K "is_product" "is_product" iZ f fd)(Hg:mg "isinstance"=none)(Ho:mg "tuple"=none)(Ig:mg "all"=none)(JU:mg "zip"=none)
 (FP:Ha P w K mg base (aV P w) 2 fp IC Cz mQ)(bP:L2.aA K IC Cz [])(mP:mg "is_place"=some (.ref fp))(kP:keepIn K (.ref fp)=true):Ha P w K mg base (aV P w) 3 f fd Cz xP:=by
 refine F.okN vJ (λvs H Q E h=>?_) (λHn A outer s H vs Q E hr h=>?_)
 ·obtain⟨x,o,rfl,_⟩:=h;rfl
 ·obtain⟨x,o,rfl,px,q⟩:=h;have HL:qL 2 _:=hr.mono (by decide)
  refine⟨_,(aj (ba (PW.pt (dO (bJ (bD (az aY (by rfl) Hg (by rfl) (@ah _ _ _ _ _ (pv 0) (@ah _ _ _ _ _ (cA (by rfl) Ho (by rfl) (show aD (.ty "tuple") (.type "tuple") from rfl)) ag rfl) rfl)))) (cN (bJ (bD (az (lY rfl) (by rfl) Ig (by rfl) (@ah _ _ _ _ _ (bF (N:=["place"]) (nl:=1) (js:=[]) (osc:=ak iZ) ⟨rfl,rfl,by decide +kernel,by decide +kernel,by decide +kernel,rfl,.nil,by decide +kernel⟩ rfl
   (wQ (pv 0))
   (λC fp s H=>aG (i:=0) (by show(["place"]:Bg).Nodup;decide +kernel) rfl (Or.inl rfl) (Or.inr rfl))
   (λC fp s H=>bZ)
   (λC fp s H=>(av FP HL (by rfl) mP kP bP .nil af (@ah _ _ _ _ _ (pv 0) ag rfl)))) ag rfl))))))) (ao (aB dR)) aE)
   (ao (aB (az (lY rfl) (by rfl) Ig (by rfl) (@ah _ _ _ _ _ (bF (g:=pY K 2 (eQ (bA 0) (eQ (bA 1) As))) (N:=["place","later"]) (nl:=2) (js:=[]) (osc:=ak iZ) ⟨rfl,rfl,by decide +kernel,by decide +kernel,by decide +kernel,rfl,.nil,by decide +kernel⟩ rfl
    (CG (pv 0) (dG zG (pv 0) (dX ar) fA) (by rfl) JU)
    (λC fp s H=>(fG (X:=gQ _ ["place","later"] _ C fp s H) rfl (bh (aG (X:=gQ _ ["place","later"] _ C fp s H) (i:=0) (by show(["place","later"]:Bg).Nodup;decide +kernel) rfl (Or.inl rfl) (Or.inr rfl)) (bh (aG (X:=gQ _ ["place","later"] _ C fp s H) (i:=1) (by show(["place","later"]:Bg).Nodup;decide +kernel) rfl (Or.inl rfl) (Or.inr rfl)) dC))))
    (λC fp s H=>bZ)
    (λC fp s H=>(@cz _ _ _ _ _ _ _ _ jP (pv 0) (pv 1) (aF _)))) ag rfl))))),?_⟩
  cases px with
  |@no x T th ne =>
   refine⟨_,rfl,x,.ty "tuple",_,_,_,rfl,rfl,th.ty,th.isTup,_,rfl,?_⟩;rw[decide_eq_false ne];exact aZ (aZ (q _ (aw.refl _)))
  |@tup a xs ha hl MT =>
   refine⟨_,rfl,.ref a,.ty "tuple",_,_,_,rfl,rfl,.of (.tup ha),rfl,_,rfl,a9 ?_⟩;have Xr:∀n,n<=xs.length->n<sizeLine:=λn hn=>Nat.lt_of_le_of_lt hn (Nat.lt_trans hl (by decide));refine⟨_,rfl,a,rfl,⟨xs,bw.of ha⟩,?_⟩;refine⟨λi m ys σ' H'=>m=xs.length-i/\i<=xs.length/\ys=((xs.take i).map br).map V.bl/\H=H'/\∃o,σ'=[o],⟨xs.length,by simp,Nat.zero_le _,by simp,rfl,none,rfl⟩,?_⟩;rintro i m ys σ' H' ⟨rfl,hi,rfl,rfl,o,rfl⟩;refine⟨Xr _ (by simp;omega),?_⟩
   by_cases Hx:i<xs.length
   ·refine .inr ⟨⟨xs,xs[i],bw.of ha,by simp[Hx]⟩,λy H2 hy=>?_⟩;obtain⟨rfl,hy⟩:=hy;have ey:=hy xs (bw.of ha);obtain⟨T,th⟩:=MT y (List.mem_of_getElem? ey);dsimp only[DF,bA];refine aZ ⟨_,rfl,y,T,rfl,th,xs.length-(i+1),by omega,rfl,Hx,?_,rfl,_,rfl⟩
    have e2:xs.take (i+1)=xs.take i++[y]:=by
     rw[List.take_add_one,ey];rfl
    rw[e2];simp
   ·have ei:i=xs.length:=by omega
    subst ei;refine .inl ⟨⟨xs,bw.of ha,Nat.le_refl _⟩,λD hD=>?_⟩;rw[List.take_length];refine⟨D,_,xs.map br,rfl,aO.of ae,oZ _,_,rfl,?_⟩;have sD:aw H (upd H D (.lst ((xs.map br).map V.bl))):=ai hD
    cases hp:(xs.map br).all id with
    |false =>
     have z:lM (some xs)=false:=by
      show(xs.all br&&jX xs)=_
      have:xs.all br=false:=by rw[<-hp,List.all_map];rfl
      rw[this,Bool.false_and]
     rw[z] at q;exact aZ (q _ sD)
    |true =>
     refine a9 ?_
     have z:lM (some xs)=jX xs:=by
      show(xs.all br&&jX xs)=_
      have:xs.all br=true:=by rw[<-hp,List.all_map];rfl
      rw[this,Bool.true_and]
     rw[z] at q;generalize upd H D (.lst ((xs.map br).map V.bl))=H1 at sD |-;have IJ:=sD _ _ ha
     have hint:∀y∈xs,∃n,y=V.int n:=λy hy=>by
      have:br y=true:=List.all_eq_true.mp hp _ (List.mem_map_of_mem hy)
      cases y <;> first|exact⟨_,rfl⟩|cases this
     have key:∀(b:Addr)(H2:Hp),aw H H2->H2 a=some (.tup xs)->H2 b=some (.tup (xs.drop 1)) →
      ∃W:Nat->Nat->List V->St->Hp->Prop,(∃m,W 0 m [] [none,none] H2)/\hV (E5 K a b) (pY K 2 (eQ (bA 0) (eQ (bA 1) As))) DF (lW (tV λi j=>V.bl (decide (i<j))) (cw 0) (cw 1)) W
       λys H'=>∀D,H' D=none->∃l zs bs,[V.ref D]=[V.ref l]/\aO K (upd H' D (.lst ys)) l zs/\Paired E1 zs bs/\Q (.bl (bs.all id)) (upd H' D (.lst ys)):=by
      intro b H2 s2 h2a h2b;refine⟨λi m ys σ' H'=>m=(xs.drop 1).length-i/\i<=(xs.drop 1).length/\ys=(((xs.zip (xs.drop 1)).take i).map λp=>Eg p.1 p.2).map V.bl/\aw H2 H'/\∃o1 o2,σ'=[o1,o2],⟨(xs.drop 1).length,by simp,Nat.zero_le _,by simp,aw.refl _,none,none,rfl⟩,?_⟩;rintro i m ys σ' H' ⟨rfl,hi,rfl,sH,o1,o2,rfl⟩;have LY:=sH _ _ h2a;have HP:=sH _ _ h2b;refine⟨Xr _ (by simp;omega),?_⟩
      by_cases Hx:i<(xs.drop 1).length
      ·have S6:i<xs.length:=by rw[List.length_drop] at Hx;omega
       refine .inr ⟨⟨xs,xs.drop 1,xs[i],(xs.drop 1)[i],bw.of LY,bw.of HP,by simp[S6],by rw[List.getElem?_eq_getElem Hx]⟩,λv H3 hv=>?_⟩;obtain⟨T,x,y,hx,hy,hT,rfl,rfl⟩:=hv;have ex:=hx xs (bw.of LY);have ey:=hy (xs.drop 1) (bw.of HP);obtain⟨n,rfl⟩:=hint x (List.mem_of_getElem? ex);obtain⟨k,rfl⟩:=hint y (List.mem_of_mem_drop (List.mem_of_getElem? ey));refine⟨T,_,rfl,bw.of ae,rfl,_,_,rfl,_,_,rfl,rfl,?_⟩;dsimp only[DF];refine aZ ⟨_,rfl,_,rfl,n,k,rfl,rfl,(xs.drop 1).length-(i+1),by omega,rfl,Hx,?_,λc u e=>?_,_,_,rfl⟩
       ·have ez:(xs.zip (xs.drop 1))[i]?=some (V.int n,V.int k):=by
         rw[List.getElem?_zip_eq_some];exact⟨ex,ey⟩
        have e2:(xs.zip (xs.drop 1)).take (i+1)=(xs.zip (xs.drop 1)).take i++[(V.int n,V.int k)]:=by
         rw[List.take_add_one,ez];rfl
        rw[e2];simp[Eg]
       ·rw[aq (au (sH _ _ e) hT)];exact sH _ _ e
      ·have ei:i=(xs.drop 1).length:=by omega
       subst ei;refine .inl ⟨⟨xs,xs.drop 1,bw.of LY,bw.of HP,.inr (Nat.le_refl _)⟩,λD' NR=>?_⟩
       have et:(xs.zip (xs.drop 1)).take (xs.drop 1).length=xs.zip (xs.drop 1):=by
        apply List.take_of_length_le;rw[List.length_zip];exact Nat.min_le_right _ _
       rw[et];refine⟨D',_,(xs.zip (xs.drop 1)).map λp=>Eg p.1 p.2,rfl,aO.of ae,oZ _,?_⟩
       have er:((xs.zip (xs.drop 1)).map λp=>Eg p.1 p.2).all id=jX xs:=by rw[List.all_map];rfl
       rw[er];refine q _ λc u e=>?_;have e1:=sH _ _ (s2 _ _ e);rw[aq (au e1 NR)];exact e1
     refine⟨_,rfl,_,rfl,1,rfl,a,xs,rfl,bw.of IJ,λe=>?_,λp Xs=>?_⟩
     ·rw[EY] at e;exact⟨a,a,xs,xs.drop 1,rfl,bw.of IJ,bw.of (by rw[e];exact IJ),key a H1 sD IJ (by rw[e];exact IJ)⟩
     ·rw[EY];have np:a≠p:=au IJ Xs;exact⟨a,p,xs,xs.drop 1,rfl,bw.of (by rw[aq np];exact IJ),bw.of ae,key p _ (λc u e=>by rw[aq (au (sD _ _ e) Xs)];exact sD _ _ e) (by rw[aq np];exact IJ) ae⟩
abbrev Bu:Stmt:=(aS 33)
theorem PX.same {H H':Hp}{x:V}{o:Option (List V)}(h:PX H x o)(s:aw H H'):PX H' x o:=by
 cases h with
 |no th n=>exact .no (th.same s) n
 |tup e l h=>exact .tup (s _ _ e) l λy hy=>let⟨T,t⟩:=h y hy;⟨T,t.same s⟩
inductive v3 (p:Int)(H:Hp):V->Bool->Prop where
 |no {x:V}{T:String}:Th H x T->T ≠ "tuple"->v3 p H x false
 |odd {a:Addr}{xs:List V}:H a=some (.tup xs)->xs.length≠2->v3 p H (.ref a) false
 |two {a:Addr}{y z:V}{o:Option (List V)}{o2:Option (V×V)}:H a=some (.tup [y,z])->PX H y o->TX H z o2->v3 p H (.ref a) (lM o&&yo p o2)
theorem v3.same {p:Int}{H H':Hp}{x:V}{b:Bool}(h:v3 p H x b)(s:aw H H'):v3 p H' x b:=by
 cases h with
 |no th n=>exact .no (th.same s) n
 |odd e n=>exact .odd (s _ _ e) n
 |two e h1 h2=>exact .two (s _ _ e) (h1.same s) (h2.same s)
def yG (C:Addr):Sp:=λvs H Q _=>∃(s dx:Addr)(p:Int)(x:V)(b:Bool),vs=[.ref s,x]/\H s=some (.ins C dx (cJ p))/\FP p/\v3 p H x b/\∀H',aw H H'->Q (.bl b) H'
theorem Ca:yx Fp Fp (ak Bu):=dJ (by decide +kernel)
theorem zP {fp fi:Addr}{IC NS:zI}(F:zA K "is_term" "is_term" Bu f fd)(c:xV K mg C)(Hg:mg "isinstance"=none)(Ho:mg "tuple"=none)(Hr:mg "len"=none)
 (FP':Ha P w K mg base (aV P w) 3 fp IC Cz xP)(bP:L2.aA K IC Cz [])(mP:mg "is_product"=some (.ref fp))(kP:keepIn K (.ref fp)=true)
 (FI:Ha P w K mg base (aV P w) 2 fi NS Ao (ll C))(bI:L2.aA K NS Ao [])(mI:L2.Meth K C "is_number" fi):Ha P w K mg base (aV P w) 4 f fd Fp (yG C):=by
 refine F.okN Ca (λvs H Q E h=>?_) (λHn A outer s H vs Q E hr h=>?_)
 ·obtain⟨s,dx,p,x,b,rfl,_⟩:=h;rfl
 ·obtain⟨s0,dx,p,x,b,rfl,hs,hp,tx,q⟩:=h;have IQ:qL 3 _:=hr.mono (by decide);have HL:qL 2 _:=hr.mono (by decide)
  refine⟨_,ao (aB (eU (az aY (by rfl) Hg (by rfl) (@ah _ _ _ _ _ (pv 1) (@ah _ _ _ _ _ (cA (by rfl) Ho (by rfl) (show aD (.ty "tuple") (.type "tuple") from rfl)) ag rfl) rfl))
   (eU (@cz _ _ _ _ _ _ _ _ cR (az aW (by rfl) Hr PySem.boot_len (@ah _ _ _ _ _ (pv 1) ag rfl)) ar (aF _))
   (eU (av FP' IQ (by rfl) mP kP bP .nil af (@ah _ _ _ _ _ (@bq _ _ _ _ _ _ _ bX (pv 1) ar (λ_ _=>rfl)) ag rfl))
   (gX (ip (pv 0) c.cl mI FI HL bI .nil af (@ah _ _ _ _ _ (@bq _ _ _ _ _ _ _ bX (pv 1) ar (λ_ _=>rfl)) ag rfl))))))),?_⟩
  cases tx with
  |@no x T th ne =>
   refine⟨_,rfl,x,.ty "tuple",_,_,_,rfl,rfl,th.ty,th.isTup,_,rfl,?_⟩;rw[decide_eq_false ne];exact a9 (q _ (aw.refl _))
  |@odd a xs ha hl =>
   refine⟨_,rfl,.ref a,.ty "tuple",_,_,_,rfl,rfl,.of (.tup ha),rfl,_,rfl,aZ ?_⟩;refine⟨_,rfl,a,_,rfl,.inr (bw.of ha),rfl,_,rfl,?_⟩;refine dI (λh=>absurd h (by simp;omega)) (λh=>?_);exact q _ (aw.refl _)
  |@two a y z o o2 ha hy hz =>
   refine⟨_,rfl,.ref a,.ty "tuple",_,_,_,rfl,rfl,.of (.tup ha),rfl,_,rfl,aZ ?_⟩;refine⟨_,rfl,a,_,rfl,.inr (bw.of ha),rfl,_,rfl,aZ ?_⟩;refine⟨_,rfl,a,_,0,y,rfl,rfl,bw.of ha,rfl,y,o,rfl,hy,λH' sH=>⟨_,rfl,?_⟩⟩;have K3:=sH _ _ hs;have LY:=sH _ _ ha
   cases e:lM o with
   |false =>
    rw[e,Bool.false_and] at q;exact a9 (q _ sH)
   |true =>
    rw[e,Bool.true_and] at q;refine aZ ⟨_,rfl,s0,dx,_,rfl,K3,rfl,_,rfl,a,_,1,z,rfl,rfl,bw.of LY,rfl,s0,dx,p,z,o2,rfl,K3,hp,hz.same sH,q _ sH⟩
abbrev qF:Stmt:=(aS 34)
abbrev qt:Stmt:=(aS 35)
def ny (C:Addr):Sp:=λvs H Q _=>∃(s dx:Addr)(p:Int)(x:V),vs=[.ref s,x]/\H s=some (.ins C dx (cJ p))/\FP p /\
 ((x=.non/\∀l,H l=none->Q (.ref l) (upd H l (.lst [])))\/∃l ys,x=.ref l/\H l=some (.lst ys)/\ys.length<4000/\(∀y∈ys,v3 p H y true)/\∀H',aw H H'->Q (.ref l) H')
def Ab:Sp:=λvs H Q _=>∃(a b:Addr)(z:V)(xs:List V),vs=[.ref a]/\H a=some (.tup [.ref b,z])/\H b=some (.tup xs)/\∀t,H t=none->Q (.ref t) (upd H t (.tup [.int xs.length,.ref b]))
theorem jI:yx ["field","terms","number","thing"] FQ (ak qF):=dJ (by decide +kernel)
theorem vy:yx ["term"] ["term"] (ak qt):=dJ (by decide +kernel)
theorem rm (F:zA K "place_of_term" "place_of_term" qt f fd)(Hr:mg "len"=none):Ha P w K mg base (aV P w) 1 f fd ["term"] Ab:=by
 refine F.okN vy (λvs H Q E h=>?_) (λHn A outer s H vs Q E hr h=>?_)
 ·obtain⟨a,b,z,xs,rfl,_⟩:=h;rfl
 ·obtain⟨a,b,z,xs,rfl,ha,hb,q⟩:=h;refine⟨_,(ao (aB (@dw _ _ _ _ _ (@ah _ _ _ _ _ (az aW (by rfl) Hr PySem.boot_len (@ah _ _ _ _ _ (@bq _ _ _ _ _ _ _ bX (pv 0) ar (λ_ _=>rfl)) ag rfl)) (@ah _ _ _ _ _ (@bq _ _ _ _ _ _ _ bX (pv 0) ar (λ_ _=>rfl)) ag rfl) rfl)))),?_⟩;refine⟨_,rfl,a,_,0,_,rfl,rfl,bw.of ha,rfl,b,xs,rfl,.inr (bw.of hb),_,rfl,a,_,0,_,rfl,rfl,bw.of ha,rfl,nj,λt ht=>q t ht⟩
theorem sN {ft:Addr}{HR:zI}(F:zA K "checked_terms" "checked_terms" qF f fd)(Hg:mg "isinstance"=none)(Hm:mg "list"=none)(Hv:mg "enumerate"=none)
 (FT:Ha P w K mg base (aV P w) 4 ft HR Fp (yG C))(bT:L2.aA K HR Fp [])(mT:mg "is_term"=some (.ref ft))(kT:keepIn K (.ref ft)=true):Ha P w K mg base (aV P w) 5 f fd FQ (ny C):=by
 refine F.okN jI (λvs H Q E h=>?_) (λHn A outer s H vs Q E hr h=>?_)
 ·obtain⟨s,dx,p,x,rfl,_⟩:=h;rfl
 ·obtain⟨s0,dx,p,x,rfl,hs,hp,h⟩:=h;have JM:qL 4 _:=hr.mono (by decide)
  refine⟨_,(aj (ba (@aH _ _ _ _ _ _ _ _ yd (pv 1) gD (aF _)) (ao (aB (@cu _ _ _ _ ag))) aE)
   (aj (ba (bJ (bD (az aY (by rfl) Hg (by rfl) (@ah _ _ _ _ _ (pv 1) (@ah _ _ _ _ _ (cA (by rfl) Hm (by rfl) (show aD (.ty "list") (.type "list") from rfl)) ag rfl) rfl)))) (ao (qj)) aE)
   (aj (eK PassesOwn.never rfl (tT (pv 1) (by rfl) Hv) (fG rfl (bh (aG (i:=2) jI.nd rfl (Or.inl rfl)) (bh (aG (i:=3) jI.nd rfl (Or.inl rfl)) dC)))
   (ao (ba (bJ (bD (av FT JM (by rfl) mT kT bT .nil af (@ah _ _ _ _ _ (pv 0) (@ah _ _ _ _ _ (pv 3) ag rfl) rfl)))) (ao (qj)) aE)))
   (ao (aB (pv 1)))))),?_⟩
  rcases h with⟨rfl,q⟩|⟨l,ys,rfl,hl,hlen,Kp,q⟩
  ·refine⟨_,rfl,rfl,_,rfl,?_⟩;exact aZ ⟨Nat.zero_le _,λl hl=>q l hl⟩
  ·refine⟨_,rfl,rfl,_,rfl,a9 ?_⟩;refine⟨_,rfl,.ref l,.ty "list",_,_,_,rfl,rfl,.of (.lst hl),rfl,_,rfl,a9 ?_⟩;refine⟨_,rfl,l,ys,rfl,aO.of hl,?_⟩;refine⟨λi m σ' H'=>m=ys.length-i/\i<=ys.length/\aw H H'/\∃o1 o2,σ'=[some (.ref s0),some (.ref l),o1,o2],⟨ys.length,by simp,Nat.zero_le _,aw.refl _,none,none,rfl⟩,?_⟩;rintro i m σ' H' ⟨rfl,hi,sH,o1,o2,rfl⟩;have IB:=sH _ _ hl
   by_cases Hx:i<ys.length
   ·refine .inr ⟨⟨ys,ys[i],aO.of IB,by simp[Hx]⟩,λσ' H'=>i+1<=ys.length/\aw H H'/\∃o1 o2,σ'=[some (.ref s0),some (.ref l),o1,o2],?_,λv H2 hv=>?_⟩
    ·rintro σ' H' ⟨h1,h2,h3⟩;exact⟨ys.length-(i+1),by omega,rfl,h1,h2,h3⟩
    ·obtain⟨T,y,hy,hT,rfl,rfl⟩:=hv;have ey:=hy ys (aO.of IB)
     have s2:aw H (upd H' T (.tup [.int i,y])):=λc u e=>by
      rw[aq (au (sH _ _ e) hT)];exact sH _ _ e
     have ty:=(Kp y (List.mem_of_getElem? ey)).same s2;refine⟨T,_,rfl,bw.of ae,rfl,_,_,rfl,_,_,rfl,rfl,?_⟩;refine⟨_,rfl,_,rfl,s0,dx,p,y,true,rfl,s2 _ _ hs,hp,ty,λH3 s3=>⟨_,rfl,a9 ?_⟩⟩;exact⟨Hx,λc u e=>s3 _ _ (s2 _ _ e),_,_,rfl⟩
   ·refine .inl ⟨⟨ys,aO.of IB,by omega⟩,?_⟩;exact⟨_,rfl,q _ sH⟩
end K66
namespace Srt
open PySem PySem.W PyProof.Rows L2
def nG (sp:Sp):List V->Hp->(List V->Hp->Prop)->Prop
 |[],H,R=>R [] H
 |x::xs,H,R=>sp [x] H (λk H1=>nG sp xs H1 λks H2=>R (k::ks) H2) λ_ _ _=>False
variable {b:Addr}{ob:Obj}
section
variable {X:Cx}{pins:List (Addr×Obj)}{σ:L2.St}{H:Hp}{s:CW}
theorem v9 {D:Addr}{o:HO}(I:Inv X pins σ H s)(f:df X pins H D)(hD:X.s₀.heap.objs.size<=D)(new:bc X.prog X.w (upd H D o) s.heap D o):Inv X pins σ (upd H D o) s:=by
 obtain⟨f0,f1,f2,f3,f4,f5⟩:=f;have u:=I.base;refine⟨I.ok,I.os,I.bare,⟨u.keep,u.slot,λb' o' e n hx=>?_,u.there,λb' xs e=>?_,λb' o' u' e=>?_,λb' ps e=>?_⟩,I.loc,I.cell,?_,λx c e=>?_,λp hp=>?_,fT I.hok f0 new,I.len⟩
 ·rw[aq (Nat.ne_of_lt (Nat.lt_of_lt_of_le (Heap.lt_size e) hD))];exact u.free b' o' e n hx
 ·rw[aq (au (u.aaq b' xs e) f0)];exact u.aaq b' xs e
 ·rw[aq (au (u.aap b' o' u' e) f0)];exact u.aap b' o' u' e
 ·obtain⟨m,q⟩:=u.aax b' ps e;exact⟨m,by rw[aq (au q f0)];exact q⟩
 ·rw[aq (Ne.symm f1)];exact I.free
 ·rw[aq (f4 x c e)];exact I.aar x c e
 ·obtain⟨e,n,r⟩:=I.pin p hp;exact⟨e,by rw[aq (f5 p hp)];exact n,r⟩
theorem AZ {c:Addr}(f:df X pins H b)(h:c≠b):df X (pins++[(c,ob)]) H b:=by
 obtain⟨f0,f1,f2,f3,f4,f5⟩:=f;refine⟨f0,f1,f2,f3,f4,λp hp=>?_⟩;rw[<-List.append_assoc] at hp
 rcases List.mem_append.mp hp with z|z
 ·exact f5 p z
 ·have e:p=(c,ob):=by simpa using z
  subst e;exact h
theorem oW {H':Hp}(f:df X pins H b)(h:H' b=none):df X pins H' b:=⟨h,f.2⟩
theorem tN (I:Inv X pins σ H s)(f:df X pins H b)(e:s.heap.get? b=some ob)(d:∀v,ob.data≠.cell v):Inv X (pins++[(b,ob)]) σ H s:=I.aaA λp hp=>by
 rcases List.mem_append.mp hp with z|z
 ·exact I.pin p (List.mem_append_right _ z)
 ·have e1:p=(b,ob):=by simpa using z
  subst e1;exact⟨e,f.1,f.2.1,f.2.2.1,d⟩
theorem oj (I:Inv X (pins++[(b,ob)]) σ H s):Inv X pins σ H s:=I.aaA λp hp=>I.pin p (List.mem_append_right _ (List.mem_append_left _ hp))
theorem yu (I:Inv X (pins++[(b,ob)]) σ H s):s.heap.get? b=some ob/\H b=none:=by
 obtain⟨e,n,_⟩:=I.pin (b,ob) (List.mem_append_right _ (List.mem_append_right _ (by simp)));exact⟨e,n⟩
end
theorem kr {c:String}{xs:vd}{n:Nat}:∀v,(seqObj c xs n).data≠.cell v:=λv z=>by cases z
variable {H:Hp}{s:CW}{Q:VK}
section
variable {X:Cx}{pins:List (Addr×Obj)}{σ:L2.St}{k:Nat}{f:Addr}{fd:zI}{ps:Bg}{sp:Sp}{A:Around}{E:yf}
theorem xB {x:V}{u:Value}(F:Ha X.prog X.w X.K X.mg X.base (aV X.prog X.w) k f fd ps sp)(hr:qL k A)(hA:∀H s,Inv X pins σ H s->FX X.prog X.w X.K X.mg X.base A X.stack s H)(hb:aA X.K fd ps [])(I:Inv X pins σ H s)(r:aD x u)(h:sp [x] H Q λ_ _ _=>False):
 wpAny (model X.prog X.w) A (call (.ref f) [u]) (EP X pins σ Q) (λ_ _=>False) s:=by
 have hl:([u]:oN).length+([]:oN).length=ps.length:=by have:=F.len _ _ _ _ h;simpa using this
 have bd:=hb s [u] I.kIn hl;rw[List.append_nil] at bd;refine wpAny_call (codeAny_mono (F.run A X.stack s H ⟨[u],[]⟩ [u] [x] Q _ hr (hA H s I) bd (.cons r .nil) h) λres s' hq=>?_)
 cases res with
 |error e =>
  obtain⟨a,cls,a0,B,d,H',_,_,_,_,hE⟩:=hq;exact hE.elim
 |ok fl =>
  cases fl with
  |ret v=>exact I.after hq
  |next=>exact False.elim hq
  |brk=>exact False.elim hq
  |cont=>exact False.elim hq
end
abbrev md (X:Cx)(xs:List V)(Q:VK):List V->Hp->Prop:=λks H2=>∃kz,dU X.K H2 ks kz/\kz.Nodup/\∀D,H2 D=none->Q (.ref D) (upd H2 D (.lst ((di (kz.zip xs)).map (·.2))))
variable {xs:List V}
section
variable {X:Cx}{pins:List (Addr×Obj)}{σ:L2.St}{k:Nat}{f:Addr}{fd:zI}{ps:Bg}{sp:Sp}{A:Around}{E:yf}
theorem zQ {ks vs:oN}(h:ks.length=vs.length):((ks.toArray.zip vs.toArray).map (·.2))=vs.toArray:=by
 apply Array.toList_inj.mp;rw[Array.toList_map,ksk_zip];simp only[List.toList_toArray] at *;exact List.map_snd_zip (by omega)
theorem wo {D kS:Addr}{e1 c:Nat}{kV:List V}{us ks:oN}{P:PySem.Fin->Shared->Prop}(hA:A.units+2<cLine)(hD:X.s₀.heap.objs.size<=D)(fD:df X pins H D)(fS:df X pins H kS)(ne:kS≠D)
 (I:Inv X pins σ H s)(eD:s.heap.get? D=some (seqObj "list" #[] e1))(eS:s.heap.get? kS=some (seqObj "list" ks.toArray c))(rx:aK xs us)(LZ:aK kV ks)(hl:kV.length=xs.length)(h64:xs.length<64)(w:md X xs Q kV H)
 (hP:∀s',EP X pins σ Q (.ref D) s'->P (.done (.ret .none)) s'):wpAny (model X.prog X.w) A (ksk_end D false us.toArray e1 (.ref kS) ks.toArray) P E s:=by
 obtain⟨kz,hk,nd,q⟩:=w;have l1:=rx.length;have l2:=LZ.length;have l3:=hk.len;have inj:=Cv nd
 have fin:∀p,Pm xs.length (rk kz) p->Up (rk kz) p xs.length->∀st:SortSt,(arrOf st).map (·.2)=(cG us p).toArray->failedOf st=none->wpAny (model X.prog X.w) A (ksk_tail D false e1 (.ref kS) st) P E s:=λp pm up st NT hf=>by
  have S7:=xH rx pm (Nat.le_refl _);rw[yV (by omega) nd pm up] at S7
  have hlen:((di (kz.zip xs)).map (·.2)).length<=sizeLine:=by
   rw[List.length_map,(dA _).length_eq,List.length_zip];exact Nat.le_trans (Nat.min_le_right _ _) (cZ h64)
  have S8:(cG us p).toArray.size<=sizeLine:=by rw[List.size_toArray,<-S7.length];exact hlen
  have NU:=Heap.SameBut.update s.heap kS (Obj.mapSeq λ_=>(#[]:vd));have K4:(s.heap.update kS (Obj.mapSeq λ_=>(#[]:vd))).get? D=some (seqObj "list" #[] e1):=(NU.2 D (Ne.symm ne)).trans eD;have I1:Inv X pins σ H {s with heap:=s.heap.update kS (Obj.mapSeq λ_=>(#[]:vd))}:=dq I fS NU;unfold ksk_tail;dsimp only;rw[NT];refine wpAny_bind (listUpdate_at eS rfl (wpAny_bind (wpAny_letGo ?_)) (by rw[List.size_toArray,<-l2,hl];exact cZ h64) (Nat.zero_le _));generalize s.heap.update kS (Obj.mapSeq λ_=>(#[]:vd))=h1 at K4 I1 |-;have Ih:=Heap.SameBut.update h1 D (Obj.mapSeq λ_=>(cG us p).toArray);obtain⟨c2,Kn⟩:∃c2,(h1.update D (Obj.mapSeq λ_=>(cG us p).toArray)).get? D=some (seqObj "list" (cG us p).toArray c2):=⟨_,get?_update_seq K4 λ_=>(cG us p).toArray⟩;have I2:Inv X pins σ H {s with heap:=h1.update D (Obj.mapSeq λ_=>(cG us p).toArray)}:=dq (s:={s with heap:=h1}) I1 fD Ih;have I3:=v9 (o:=.lst ((di (kz.zip xs)).map (·.2))) I2 fD hD ⟨hlen,_,c2,S7,Kn⟩;refine wpAny_bind (seqEpoch_at K4 rfl (wpAny_bind (listUpdate_at K4 rfl ?_ (Nat.zero_le _) (Nat.le_succ_of_le S8))));rw[hf];simp only[bne_self_eq_false,Bool.false_eq_true,if_false];exact wpAny_pure (hP _ ⟨.ref D,_,I3,rfl,q D fD.1⟩)
 have P0:Pm xs.length (rk kz) (List.range xs.length).toArray:=uR (λi j hi hj=>inj i j (by omega) (by omega)) (Array.Perm.refl _);unfold ksk_end;dsimp only;rw[if_neg Bool.false_ne_true];simp only[Bool.false_eq_true,if_false]
 by_cases h2:us.toArray.size<2
 ·have small:xs.length<2:=by rw[l1];simpa using h2
  rw[if_pos h2,if_pos h2];refine wpAny_bind (wpAny_pure ?_);rw[StateT.run_pure];refine wpAny_bind (wpAny_pure ?_);refine fin (List.range xs.length).toArray P0 (λi j HW hj=>by omega) _ ?_ rfl;show(ks.toArray.zip us.toArray).map (·.2)=_;rw[zQ (by omega),l1,qd]
 ·have big:2<=us.length:=by simpa using h2
  rw[if_neg h2,if_neg h2];obtain⟨κ,IX,L6⟩:=rO (A:=A) I hA hk LZ nd (by omega);refine wpAny_bind (wpAny_mono (IX (λκ' s0=>(kas_sort us.length).kasWp (kas_ask X.prog X.w A κ' ks) (λp s'=>s'=s/\Pm us.length (rk kz) p/\Up (rk kz) p us.length) s0) (zX (n:=us.length) (r:=rk kz) (λi j hi hj=>inj i j (by omega) (by omega)) (λi j C hi hj=>L6 i j C (by omega) (by omega)) (by omega) λp pm up=>⟨rfl,pm,up⟩)) (λκ' s0 hw=>?_) λ_ _ x=>x.elim);refine wpAny_bind (wpAny_mono (kat_run (κ:=κ') (Q:=λIk s'=>∃p:Array Nat,arrOf Ik=p.map (kas_item (ks.toArray.zip us.toArray))/\failedOf Ik=none/\s'=s/\Pm us.length (rk kz) p/\Up (rk kz) p us.length) (by omega) big (by omega) (λp' Ik s' _ a2 a3 a4=>⟨p',a2,a3,a4⟩) hw) ?_ λ_ _ e=>e);rintro⟨⟨⟩,Ik⟩ s' ⟨p,NT,hf,rfl,pm,up⟩;exact fin p (by rw[l1];exact pm) (by rw[l1];exact up) Ik (kat_snds (by omega) NT) hf
theorem wO {α:Type}{l:List α}{j:Nat}{x:α}(h:l[j]?=some x):l.drop j=x::l.drop (j+1):=by
 obtain⟨hj,e⟩:=List.getElem?_eq_some_iff.mp h;rw[List.drop_eq_getElem_cons hj,e]
theorem mB {D:Addr}{n:Nat}{us:oN}{P:PySem.Fin->Shared->Prop}(F:Ha X.prog X.w X.K X.mg X.base (aV X.prog X.w) k f fd ps sp)(hr:qL k A)(hE:∀pins' H s,Inv X pins' σ H s->FX X.prog X.w X.K X.mg X.base A X.stack s H)(hb:aA X.K fd ps [])
 (hD:X.s₀.heap.objs.size<=D)(fD:df X pins H D)(I:Inv X pins σ H s)(eD:s.heap.get? D=some (seqObj "list" us.toArray n))(rx:aK xs us)(h64:xs.length<64)(h:nG sp xs H (md X xs Q))
 (hP:∀s',EP X pins σ Q (.ref D) s'->P (.done (.ret .none)) s'):wpAny (model X.prog X.w) A (ksk_tree D (.ref f) false) P E s:=by
 have l1:=rx.length
 have s64:us.toArray.size<=sizeLine:=by rw[List.size_toArray,<-l1];exact cZ h64
 obtain⟨e1,K4⟩:∃e1,(s.heap.update D (Obj.mapSeq λ_=>(#[]:vd))).get? D=some (seqObj "list" #[] e1):=⟨_,get?_update_seq eD λ_=>#[]⟩;have I1:Inv X pins σ H {s with heap:=s.heap.update D (Obj.mapSeq λ_=>(#[]:vd))}:=dq I fD (Heap.SameBut.update _ _ _);unfold ksk_tree;refine wpAny_bind (listItems_at eD rfl (wpAny_bind (listUpdate_at eD rfl (wpAny_bind (seqEpoch_at K4 rfl (wpAny_bind (wpAny_newTuple ?_ (by show us.length<=_;rw[<-l1];exact cZ h64))))) s64 (Nat.zero_le _))));refine wpAny_bind (wpAny_newList (wpAny_holding ?_) (Nat.zero_le _));generalize s.heap.update D (Obj.mapSeq λ_=>(#[]:vd))=h1 at K4 I1 |-;dsimp only;have I2:Inv X pins σ H {s with heap:=h1.push (seqObj "tuple" us.toArray 0)}:=I1.kept (t':=s.toks) λb o q=>Heap.get?_push_of_some _ q;have IS:(h1.push (seqObj "tuple" us.toArray 0)).get? D=some (seqObj "list" #[] e1):=Heap.get?_push_of_some _ K4;show wpAny (model X.prog X.w) A (ksk_rest D (.ref f) false us.toArray e1 (.ref (h1.push (seqObj "tuple" us.toArray 0)).objs.size)) P E {s with heap:=(h1.push (seqObj "tuple" us.toArray 0)).push (seqObj "list" #[] 0)};generalize h1.push (seqObj "tuple" us.toArray 0)=h2 at I2 IS |-;have ne:h2.objs.size≠D:=Nat.ne_of_gt (Heap.lt_size IS);have S9:df X pins H h2.objs.size:=I2.aaW (Nat.le_refl _) (I2.hok.fresh (Nat.le_refl _));have I3:Inv X pins σ H {s with heap:=h2.push (seqObj "list" #[] 0)}:=I2.kept (t':=s.toks) λb o q=>Heap.get?_push_of_some _ q;have MU:(h2.push (seqObj "list" #[] 0)).get? D=some (seqObj "list" #[] e1):=Heap.get?_push_of_some _ IS;have NV:(h2.push (seqObj "list" #[] 0)).get? h2.objs.size=some (seqObj "list" ([]:oN).toArray 0):=Heap.get?_push_size _ rfl;have fD':∀{H':Hp},H' D=none->df X pins H' D:=λz=>oW fD z;have Ta:∀{H':Hp},H' h2.objs.size=none->df X pins H' h2.objs.size:=λz=>oW S9 z;generalize h2.objs.size=kS at ne S9 NV Ta |-;unfold ksk_rest;refine wpAny_bind (wpAny_rule ?_);rw[List.forIn_toArray]
 let II:Nat->Shared->Prop:=λj s'=>∃(H':Hp)(c:Nat)(kV:List V)(ks:oN),Inv X (pins++[(D,seqObj "list" #[] e1)]) σ H' s'/\s'.heap.get? kS=some (seqObj "list" ks.toArray c)/\H' kS=none/\aK kV ks/\kV.length=j/\nG sp (xs.drop j) H' λk2 H2=>md X xs Q (kV++k2) H2
 have I4:Inv X (pins++[(D,seqObj "list" #[] e1)]) σ H {s with heap:=h2.push (seqObj "list" #[] 0)}:=tN I3 fD MU kr;refine wpAny_bind (wpAny_mono (ksk_fold (E:=E) (Q:=λ_ s'=>II us.length s') II us 0 {s with heap:=h2.push (seqObj "list" #[] 0)} ⟨H,0,[],[],I4,NV,S9.1,.nil,rfl,by simpa using h⟩ (λj u s' hu hI=>?_) λs' hd=>by simpa using hd) (λ_ s' hI=>?_) λ_ _ e=>e)
 ·rw[Nat.zero_add] at hI |-;obtain⟨H',c,kV,ks,J,eS,nS,LZ,hl,t⟩:=hI;have hj:j<us.length:=(List.getElem?_eq_some_iff.mp hu).1;obtain⟨x,hx⟩:∃x,xs[j]?=some x:=⟨xs[j]'(by omega),by simp[show j<xs.length by omega]⟩;obtain⟨u',Xu,rx'⟩:=rx.get hx;rw[hu] at Xu
  cases Xu
  rw[wO hx] at t;have Xv:df X (pins++[(D,seqObj "list" #[] e1)]) H' kS:=AZ (Ta nS) (Ne.symm ne);have J2:=tN J Xv eS kr;refine wpAny_bind (wpAny_attempt (wpAny_mono (xB F hr (hE _) hb J2 rx' t) (λkv s2 hk=>?_) λ_ _ z=>z.elim));obtain⟨v,H2,J3,rv,t2⟩:=hk;obtain⟨K5,Xw⟩:=yu J3;have J4:=oj J3;have fS2:df X (pins++[(D,seqObj "list" #[] e1)]) H2 kS:=oW Xv Xw
  have ea:ks.toArray.push kv=(ks++[kv]).toArray:=by simp
  obtain⟨c2,Kn⟩:∃c2,(s2.heap.update kS (Obj.mapSeq (·.push kv))).get? kS=some (seqObj "list" (ks++[kv]).toArray c2):=⟨_,by rw[<-ea];exact get?_update_seq K5 (·.push kv)⟩;have lk:=LZ.length;refine wpAny_bind (listUpdate_at K5 rfl ?_ (by rw[List.size_toArray];exact cZ (by omega)) (Nat.le_trans (Nat.le_of_eq (Array.size_push ..)) (by rw[List.size_toArray];exact Nat.succ_le_succ (cZ (by omega)))));refine wpAny_pure ⟨rfl,H2,c2,kV++[v],ks++[kv],dq J4 fS2 (Heap.SameBut.update _ _ _),Kn,Xw,LZ.append (.cons rv .nil),by simp[hl],?_⟩
  have e:∀k2:List V,kV++[v]++k2=kV++v::k2:=λk2=>by simp
  simp only[e];exact t2
 ·obtain⟨H',c,kV,ks,J,eS,nS,LZ,hl,t⟩:=hI;rw[<-l1,List.drop_length] at t
  have w:md X xs Q kV H':=by
   have z:md X xs Q (kV++[]) H':=t;rwa[List.append_nil] at z
  obtain⟨Tb,nD⟩:=yu J;refine wpAny_bind (listItems_at eS rfl ?_);exact wo (by have:=hr.units;omega) hD (fD' nD) (Ta nS) ne (oj J) Tb eS rx LZ (by omega) h64 w hP
theorem si {l:Addr}(F:Ha X.prog X.w X.K X.mg X.base (aV X.prog X.w) k f fd ps sp)(hr:qL (k+2) X.A)(hb:aA X.K fd ps [])
 (I:Inv X pins σ H s)(hl:aO X.K H l xs)(h64:xs.length<64)(h:nG sp xs H (md X xs Q)):wpAny (model X.prog X.w) X.A (call (.builtin "sorted") [.ref l] [(Str.ofString "key",.ref f)]) (EP X pins σ Q) E s:=by
 obtain⟨us,rx,pl,_⟩:=I.list hl;have l1:=rx.length;refine call_function_entry_kw kind_sorted plain_sorted entry_sorted (ksk_s1 _ _) ?_;unfold Builtin.«sorted»;refine wpAny_bind (m:=checkCount "sorted" 1 1 _) (wpAny_pure (wpAny_bind (collect_list pl.isList (wpAny_bind (wpAny_newList ?_ (cZ (by omega)))) (cZ (by omega)))))
 have sz:((s.heap.push (seqObj "list" #[] 0)).update s.heap.objs.size (Obj.mapSeq (·++us.toArray))).objs.size=s.heap.objs.size+1:=by rw[Heap.size_update];exact size_push' _ _
 have L7:(((s.heap.push (seqObj "list" #[] 0)).update s.heap.objs.size (Obj.mapSeq (·++us.toArray))).push (seqObj "list" us.toArray 0)).get? (s.heap.objs.size+1)=some (seqObj "list" us.toArray 0):=by
  rw[<-sz];exact Heap.get?_push_size _ rfl
 have old:∀b o,s.heap.get? b=some o->(((s.heap.push (seqObj "list" #[] 0)).update s.heap.objs.size (Obj.mapSeq (·++us.toArray))).push (seqObj "list" us.toArray 0)).get? b=some o:=λb o q=>by
  have lt:b<s.heap.objs.size:=Heap.lt_size q;refine Heap.get?_push_of_some _ ?_;rw[Heap.get?_update_ne _ _ _ _ (Nat.ne_of_lt lt)];exact Heap.get?_push_of_some _ q
 show wpAny _ _ _ _ _ {s with heap:=((s.heap.push (seqObj "list" #[] 0)).update s.heap.objs.size (Obj.mapSeq (·++us.toArray))).push (seqObj "list" us.toArray 0)};rw[sz];generalize ((s.heap.push (seqObj "list" #[] 0)).update s.heap.objs.size (Obj.mapSeq (·++us.toArray))).push (seqObj "list" us.toArray 0)=h5 at L7 old |-;have I5:Inv X pins σ H {s with heap:=h5}:=I.kept (t':=s.toks) old;have fD:df X pins H (s.heap.objs.size+1):=I.aaW (Nat.le_succ _) (I.hok.fresh (Nat.le_succ _));refine wpAny_bind (wpAny_holding (wpAny_call_entry_kw slot_list_sort ⟨_,L7,rfl⟩ entry_list_sort ?body (ksk_l1 _ _)))
 case body =>
  show wpAny (model X.prog X.w) X.A.in1.in1 (Builtin.«list.sort» ⟨[.ref (s.heap.objs.size+1)],[(Str.ofString "key",.ref f)]⟩) _ _ _;rw[ksk_t1];exact mB (A:=X.A.in1.in1) F hr.in1.in1 (λpins' H' s' J=>J.abC.in1.in1) hb (Nat.le_trans I.sz (Nat.le_succ _)) fD I5 L7 rx h64 h λs' q=>⟨_,rfl,wpAny_pure ⟨_,rfl,q⟩⟩
end
def CU (X:Cx)(sp:Sp)(ta:TE):TE:=λσ H Q=>bH ta CP σ H λvs H1=>∃l xs,vs=[.ref l]/\aO X.K H1 l xs/\xs.length<64/\nG sp xs H1 (md X xs Q)
section
variable {X:Cx}{k:Nat}{f:Addr}{fd:zI}{ps:Bg}{sp:Sp}{e:Expr}{ta:TE}{x:Str}{p p2 kpos pos:Pos}
theorem pO (F:Ha X.prog X.w X.K X.mg X.base (aV X.prog X.w) k f fd ps sp)(hr:qL (k+2) X.A)(hb:aA X.K fd ps [])(hg:Gl X "sorted")(hm:X.mg "sorted"=none)(hgf:Gl X x)(hmf:X.mg x=some (.ref f))(ha:PE X e ta)(hs:gm e=false:=by rfl)(hd:(x==("__debug__":Str))=false:=by decide):
 PE X (.Call (.Name "sorted" p) [e] [⟨some "key",.Name x p2,kpos⟩] pos) (CU X sp ta):=by
 intro pins s σ H Q I h;refine wpAny_Call_Name_kw (dm I hg hm (by rfl) ?_ (by decide) (by decide));refine callWith_builtin_kwB (by rw[aU hs];rfl) rfl (evalArgs_kw2 rfl ?_ (aU hs));refine bu (ah ha ag hs pos pins s σ H _ I h) λus s1 z'=>?_;obtain⟨vs,H1,I1,r1,⟨l,xs,hv,hl,h64,ht⟩⟩:=z';subst hv
 cases r1 with
 |cons ra rb =>
  cases rb
  cases ra
  refine kwAll_cons (ia I1 hgf hmf (kwAll_nil ?_) hd);exact si F hr hb I1 hl h64 ht
end
end Srt
namespace K66
open PySem L2 PySem.W Nm Srt
variable {n:Nat}{p:Int}
theorem zb {t b:Int}(hp:FP p)(h:B n t)(hb:b≠0)(hn:7<=n):B n (iD p t b):=by
 unfold iD
 by_cases z:p=0
 ·rw[if_pos z];exact h.le (zY hb)
 ·rw[if_neg z];obtain⟨_,p2,SJ⟩:=hp.two z;have h0:=Int.emod_nonneg t (b:=p) (by omega);have h1:=Int.emod_lt_of_pos t (b:=p) (by omega)
  have:B 7 (t%p):=by
   show(t%p).natAbs<2^7;omega
  exact this.mono hn
theorem yt {n:Nat}{t b:Int}(h:B n b)(hb:b≠0)(hn:1<=n):B n (iL p t b):=by
 unfold iL
 by_cases z:p=0
 ·rw[if_pos z];exact h.le (Bl hb)
 ·rw[if_neg z];exact(show B 1 (1:Int) from(by show(1:Int).natAbs<2^1;decide)).mono hn
abbrev Tm:=List Int×Int×Int
def fP (p:Int)(a b:Int×Int):Int×Int:=(iD p (mh a.1 a.2 b.1 b.2) (a.2*b.2),iL p (mh a.1 a.2 b.1 b.2) (a.2*b.2))
def Gn (p:Int)(n:Nat)(a:Int×Int):Prop:=Num p a.1 a.2/\B n a.1/\B n a.2
theorem Gn.ne {a:Int×Int}(h:Gn p n a):a.2≠0:=by have:=h.1.pos;omega
theorem v5 {m:Nat}{a b:Int×Int}(hp:FP p)(ha:Gn p n a)(hb:Gn p m b)(h7:7<=n+m+1):Gn p (n+m+1) (fP p a b):=by
 have nz:a.2*b.2≠0:=Int.mul_ne_zero ha.ne hb.ne;refine⟨Num.set hp.nn nz,zb hp ?_ nz h7,(yt (n:=n+m) (ha.2.2.mul hb.2.2) nz (by omega)).mono (by omega)⟩;have h1:B (n+m) (a.1*b.2):=ha.2.1.mul hb.2.2;have h2:B (n+m) (b.1*a.2):=(hb.2.1.mul ha.2.2).mono (by omega);exact h1.add h2
theorem va {b:Int×Int}(hp:FP p)(hb:Gn p n b):fP p (0,1) b=b:=by
 obtain⟨h1,h2⟩:=hb.1.self hp.nn;unfold fP mh
 have e1:(0:Int)*b.2+b.1*1=b.1:=by omega
 have e2:(1:Int)*b.2=b.2:=by omega
 rw[e1,e2,h1,h2]
def gb (p:Int)(d:List Tm)(t:Tm):List Tm:=if d.any (λe=>decide (e.1=t.1))=true then d.map (λe=>if e.1=t.1 then(e.1,fP p e.2 t.2) else e) else d++[t]
def Hc (p:Int)(ts:List Tm):List Tm:=ts.foldl (gb p) []
def nR (p:Int)(n:Nat)(d:List Tm):Prop:=∀e∈d,Gn p n e.2
variable {d:List Tm}
theorem vU {m:Nat}{t:Tm}(hp:FP p)(hd:nR p n d)(ht:Gn p m t.2)(h7:7<=n+m+1):nR p (n+m+1) (gb p d t):=by
 have up:∀e∈d,Gn p (n+m+1) e.2:=λe he=>⟨(hd e he).1,(hd e he).2.1.mono (by omega),(hd e he).2.2.mono (by omega)⟩;unfold gb
 split
 ·intro e he;obtain⟨e0,h0,rfl⟩:=List.mem_map.mp he
  by_cases q:e0.1=t.1
  ·rw[if_pos q];exact v5 hp (hd e0 h0) ht h7
  ·rw[if_neg q];exact up e0 h0
 ·intro e he
  rcases List.mem_append.mp he with he|he
  ·exact up e he
  ·have:e=t:=by simpa using he
   subst this;exact⟨ht.1,ht.2.1.mono (by omega),ht.2.2.mono (by omega)⟩
theorem vO {t:Tm}(hd:(d.map (·.1)).Nodup):((gb p d t).map (·.1)).Nodup:=by
 unfold gb
 split
 ·rw[List.map_map]
  have:((λe:Tm=>e.1) ∘ λe=>if e.1=t.1 then(e.1,fP p e.2 t.2) else e)=λe=>e.1:=by
   funext e
   show(if e.1=t.1 then(e.1,fP p e.2 t.2) else e).1=e.1
   split <;> rfl
  rw[this];exact hd
 ·rename_i q
  rw[List.map_append];refine List.nodup_append.mpr ⟨hd,by simp,λa ha b hb z=>?_⟩
  have:b=t.1:=by simpa using hb
  subst this;subst z;obtain⟨e,he,e1⟩:=List.mem_map.mp ha;exact q (List.any_eq_true.mpr ⟨e,he,by simpa using e1⟩)
theorem yH {t:Tm}:(gb p d t).length<=d.length+1:=by
 unfold gb
 split <;> simp
def keyOf (t:Tm):Ky:=(t.1.length,t.1)
def bo (d:List Tm):List Tm:=(di ((d.filter λe=>e.2.1 != 0).map λe=>(keyOf e,e))).map (·.2)
theorem jy (p:Int)(ts:List Tm)(t:Tm):Hc p (ts++[t])=gb p (Hc p ts) t:=by
 unfold Hc;rw[List.foldl_append];rfl
theorem dk {m:Nat}(hp:FP p):∀(n:Nat)(ts:List Tm),ts.length=n->(∀t∈ts,Gn p m t.2)->nR p ((m+1)*n+7) (Hc p ts)/\((Hc p ts).map (·.1)).Nodup/\(Hc p ts).length<=n
 |0,ts,hn,_=>by
  have:ts=[]:=List.length_eq_zero_iff.mp hn;subst this;refine And.intro (λe he=>?_) (And.intro List.nodup_nil (Nat.le_refl 0));exact absurd (show e∈([]:List Tm) from he) (by simp)
 |n+1,ts,hn,h=>by
  obtain⟨Rv,t,rfl⟩:∃Rv t,ts=Rv++[t]:=by
   have HU:ts≠[]:=by intro z;rw[z] at hn;cases hn
   exact⟨ts.dropLast,ts.getLast HU,(List.dropLast_concat_getLast HU).symm⟩
  have hl:Rv.length=n:=by simpa using hn
  obtain⟨g1,g2,g3⟩:=dk hp n Rv hl λt ht=>h t (List.mem_append_left _ ht);rw[jy];have gt:=h t (List.mem_append_right _ (by simp));have e2:(m+1)*(n+1)=(m+1)*n+(m+1):=Nat.mul_succ _ _;refine⟨λe he=>?_,vO g2,Nat.le_trans yH (by omega)⟩;have:=vU hp g1 gt (by omega) e he;exact⟨this.1,this.2.1.mono (by omega),this.2.2.mono (by omega)⟩
abbrev Gq:Stmt:=(aS 55)
theorem zw:yx ["_law_pool_here","_law_prime_here","_law_top","_law_bottom"] qh (ak Gq):=dJ (by decide +kernel)
variable {P:zr}{w:World}{K:PySem.W.Frag}{mg:vK}{base:Heap}
theorem vp {f ft fm:Addr}{fd HR JV:zI}(F:zA K "_law_number" "_law_number" Gq f fd)
 (Ip:Ha P w K mg base (aV P w) 1 ft HR qT v8)(Iq:L2.aA K HR qT [])(Ir:mg "_law_take"=some (.ref ft))(Iu:keepIn K (.ref ft)=true)
 (FM:Ha P w K mg base (aV P w) 2 fm JV vD CT)(bM:L2.aA K JV vD [])(mM:mg "_law_made"=some (.ref fm))(kM:keepIn K (.ref fm)=true):
 Ha P w K mg base (aV P w) 3 f fd qh rh:=by
 refine F.okN zw (λvs H Q E h=>?_) (λHn A outer s H vs Q E hr h=>?_)
 ·obtain⟨r,p,rfl,_⟩:=h;rfl
 ·obtain⟨r,p,rfl,hp,⟨l,x,hR,x0,x1⟩,q⟩:=h;have HL:qL 2 _:=hr;have Hu:qL 1 _:=HL.mono (by decide)
  refine⟨_,(aj (@aM _ _ 2 _ _ _ _ zw.nd rfl (Or.inl rfl) (@aL _ _ _ _ _ _ _ _ zg (av Ip Hu (by rfl) Ir Iu Iq .nil af (@ah _ _ _ _ _ (pv 0) (@ah _ _ _ _ _ ar ag rfl) rfl)) ar) rfl (Or.inl rfl))
   (aj (@aM _ _ 3 _ _ _ _ zw.nd rfl (Or.inl rfl) (@bq _ _ _ _ _ _ _ cb (@oQ _ _ _ [1,1,2,3] rfl (by decide)) (av Ip Hu (by rfl) Ir Iu Iq .nil af (@ah _ _ _ _ _ (pv 0) (@ah _ _ _ _ _ ar ag rfl) rfl)) (λ_ _=>rfl)) rfl (Or.inl rfl))
   (aj (ba (@aH _ _ _ _ _ _ _ _ cR (av Ip Hu (by rfl) Ir Iu Iq .nil af (@ah _ _ _ _ _ (pv 0) (@ah _ _ _ _ _ ar ag rfl) rfl)) ar (aF _)) (ao (@aM _ _ 2 _ _ _ _ zw.nd rfl (Or.inl rfl) (@aL _ _ _ _ _ _ _ _ dB (pv 2) (@aL _ _ _ _ _ _ _ _ cW (@aL _ _ _ _ _ _ _ _ yB ar ar) (av Ip Hu (by rfl) Ir Iu Iq .nil af (@ah _ _ _ _ _ (pv 0) (@ah _ _ _ _ _ ar ag rfl) rfl)))) rfl (Or.inl rfl))) aE)
   (aj (ba (PW.pt (oz (@aH _ _ _ _ _ _ _ _ tL (pv 1) ar (aF _)) (oP (@aH _ _ _ _ _ _ _ _ cR (@aL _ _ _ _ _ _ _ _ dN (pv 3) (pv 1)) ar (aF _))))) (ao (@aM _ _ 3 _ _ _ _ zw.nd rfl (Or.inl rfl) ar rfl (Or.inl rfl))) aE)
   (ao (aB (av FM HL (by rfl) mM kM bM .nil af (@ah _ _ _ _ _ (pv 1) (@ah _ _ _ _ _ (pv 2) (@ah _ _ _ _ _ (pv 3) ag rfl) rfl) rfl)))))))),?_⟩
  have fin:∀(T b:Int)(H':Hp),T.natAbs<2^44->0<b->b<4->aR H' r->SameBut r H H' →
   xI (xc (EB (qJ (lW (tV λi j=>.bl (decide (j<i))) (cw 1) (tC (.int 0)))) (qJ (lW xt (lW (rI (λ_ j=>0<j) λi j=>.int (i%j)) (cw 3) (cw 1)) (tC (.int 0))))) (vF (tC (.int 1)) (bA 3)) wW) (Bo (xA CT [] (λ_ _ _=>False) (bH (cw 1) (bH (cw 2) (bH (cw 3) CP))))) {nx:=λ_ H'=>Q .non H',rt:=Q} [some (.ref r),some (.int p),some (.int T),some (.int b)] H':=by
   intro T b H' hT b0 b4 R S;have bB:∀{z:Int},z.natAbs<2^44->B 9000 z:=λh=>Nat.lt_of_lt_of_le h (Nat.pow_le_pow_right (by decide) (by decide))
   have bo:∀(t b:Int)(H2:Hp)(a:Addr),Num p t b->B 45 t->B 45 b->aw H' H2->H2 a=some (dW t b)->Q (.ref a) H2:=λt b H2 a n B1 B2 S2 e=>by
    refine q a t b H2 n B1 B2 e ?_ (S.trans (SameBut.of S2));obtain⟨l,x,e,z⟩:=R;exact⟨l,x,S2 _ _ e,z⟩
   have one:∀b:Int,0<b->b<4->(p≠0->b=1\/b%p≠0)->Bo (xA CT [] (λ_ _ _=>False) (bH (cw 1) (bH (cw 2) (bH (cw 3) CP)))) {nx:=λ_ H'=>Q .non H',rt:=Q} [some (.ref r),some (.int p),some (.int T),some (.int b)] H':=by
    intro b b0 b4 hb;refine⟨_,rfl,_,rfl,_,rfl,p,T,b,rfl,hp,by omega,bB (by omega),bB hT,?_⟩
    have Tc:b≠0:=by omega
    have small:∀v:Int,0<=v->v<p->BE H' Q v 1:=λv v0 v1 H2 a S2 e=>by
     have HQ:p≠0:=by omega
     obtain⟨_,p2,SJ⟩:=hp.two HQ;exact bo v 1 H2 a (Num.ofP v0 v1) (by show v.natAbs<2^45;omega) (by show(1:Int).natAbs<2^45;decide) S2 e
    by_cases h1:p≠0->b=1
    ·refine .inl ⟨h1,λH2 a S2 e=>?_⟩;have B1:B 45 T:=(show B 44 T from hT).mono (by decide);have B2:B 45 b:=(by show b.natAbs<2^45;omega);exact bo _ _ H2 a (Num.set hp.nn Tc) (zb hp B1 Tc (by decide)) (yt B2 Tc (by decide)) S2 e
    ·have HQ:p≠0:=λz=>h1 λy=>absurd z y;have h1:b≠1:=λz=>h1 λ_=>z;exact .inr ⟨HQ,by omega,(hb HQ).resolve_left h1,small⟩
   refine⟨_,rfl,_,_,rfl,rfl,_,rfl,?_⟩;refine dI (λh=>?_) (λh=>?_)
   ·have HQ:0<p:=by simpa using h
    refine⟨_,rfl,_,rfl,_,_,rfl,rfl,HQ,rfl,_,rfl,?_⟩;refine dI (λh=>?_) (λh=>?_)
    ·exact one 1 (by decide) (by decide) λ_=>.inl rfl
    ·exact one b b0 b4 λ_=>.inr (by simpa using h)
   ·have HQ:¬0<p:=by simpa using h
    exact one b b0 b4 λz=>absurd hp.nn (by omega)
  refine⟨_,rfl,r,l,x,19,rfl,hR,x0,x1,by decide,by decide,λz l2 r2 z0 z1 g0 g1=>?_⟩;refine⟨_,_,rfl,rfl,λm hm=>?_⟩;have NU:SameBut r H (upd H r (.lst [.int l2,.int r2])):=SameBut.upd;have e1:upd H r (.lst [.int l2,.int r2]) r=some (.lst [.int l2,.int r2]):=ae;generalize upd H r (.lst [.int l2,.int r2])=H1 at hm NU e1 |-;have s2:=ai (o:=.lst ([1,1,2,3].map V.int)) hm;have em:upd H1 m (.lst ([1,1,2,3].map V.int)) m=some (.lst ([1,1,2,3].map V.int)):=ae;have e2:=s2 _ _ e1;have nm:m≠r:=(au e1 hm).symm;have Ih:SameBut r H (upd H1 m (.lst ([1,1,2,3].map V.int))):=NU.trans (SameBut.of s2);generalize upd H1 m _=H2 at em e2 Ih |-;refine⟨_,rfl,r,l2,r2,4,rfl,e2,g0,g1,by decide,by decide,λv l3 r3 v0 v1 k0 k1=>?_⟩;obtain⟨b,hb,K2⟩:=tQ (xs:=[1,1,2,3]) v0 v1
  have bb:∀b∈([1,1,2,3]:List Int),0<b/\b<4:=by decide
  obtain⟨b0,b4⟩:=bb b hb;have IL:SameBut r H2 (upd H2 r (.lst [.int l3,.int r3])):=SameBut.upd;refine⟨m,_,v,_,rfl,rfl,aO.of (IL _ _ em nm),K2,?_⟩;have e3:upd H2 r (.lst [.int l3,.int r3]) r=some (.lst [.int l3,.int r3]):=ae;have Jh:=Ih.trans IL;generalize upd H2 r (.lst [.int l3,.int r3])=H3 at e3 Jh |-;refine⟨_,rfl,r,l3,r3,8,rfl,e3,k0,k1,by decide,by decide,λy l4 r4 y0 y1 j0 j1=>⟨rfl,_,rfl,?_⟩⟩;have e4:upd H3 r (.lst [.int l4,.int r4]) r=some (.lst [.int l4,.int r4]):=ae;have Jx:SameBut r H (upd H3 r (.lst [.int l4,.int r4])):=Jh.trans SameBut.upd;generalize upd H3 r (.lst [.int l4,.int r4])=H4 at e4 Jx |-;refine dI (λh=>?_) (λh=>?_)
  ·refine⟨_,rfl,_,_,rfl,rfl,⟨by decide,by decide,by decide⟩,_,rfl,r,l4,r4,1000,rfl,e4,j0,j1,by decide,by decide,λu l5 r5 u0 u1 i0 i1=>?_⟩
   have Xx:(10:Int)^(12:Int).toNat=1000000000000:=by decide
   have bB:∀{z:Int},z.natAbs<2^44->B 9000 z:=λh=>Nat.lt_of_lt_of_le h (Nat.pow_le_pow_right (by decide) (by decide));refine⟨_,_,rfl,rfl,_,_,rfl,rfl,⟨bB (by omega),bB (by rw[Xx];omega)⟩,?_⟩;refine fin _ b _ ?_ b0 b4 ⟨l5,r5,ae,i0,i1⟩ (Jx.trans SameBut.upd);rw[Xx,Int.natAbs_mul]
   have h1:(z-9).natAbs<=9:=by omega
   have h2:(1000000000000+u).natAbs<=1000000001000:=by omega
   exact Nat.lt_of_le_of_lt (Nat.mul_le_mul h1 h2) (by decide)
  ·exact fin (z-9) b H4 (by omega) b0 b4 ⟨l4,r4,e4,j0,j1⟩ Jx
end K66
namespace St
open PySem
open PyProof.Rows
end St
namespace L2
open PySem PySem.Spec PyProof.Rows PySem.W
end L2
namespace K66
open PySem L2 PySem.W Nm
abbrev GK:Stmt:=(aS 56)
theorem Ai:yx ["_law_pool_here","_law_places","_law_most","_law_found","_law_turn","_law_place"] EE (ak GK):=dJ (by decide +kernel)
theorem xo (k:Int):∀ks:List Int,Bt (.int k) (ks.map V.int)=decide (k∈ks)
 |[]=>rfl
 |x::ks=>by
  have ih:=xo k ks;unfold Bt at ih |-;rw[List.map_cons,List.any_cons,ih]
  have e:Bk (.int x) (.int k)=decide (x=k):=by
   show(x==k)=_
   by_cases z:x=k <;> simp[z]
  rw[e]
  by_cases z:x=k
  ·simp[z]
  ·by_cases y:k∈ks
   ·simp[y]
   ·simp[y,z,Ne.symm z]
theorem vB (ks:List Int):(ks.map V.int).all iY=true:=by
 rw[List.all_eq_true];intro x hx;obtain⟨k,_,rfl⟩:=List.mem_map.mp hx;rfl
def i5:Sp:=λvs H Q _=>∃(r:Addr)(n most:Int),vs=[.ref r,.int n,.int most]/\aR H r/\0<n/\n<=60/\0<=most/\most<=10 /\
 ∀(a:Addr)(ks:List Int)(H':Hp),ks.Pairwise (· < ·)->(∀k∈ks,0<=k/\k<n)->(ks.length:Int)<=most->H' a=some (.tup (ks.map V.int))->aR H' r->SameBut r H H'->Q (.ref a) H'
variable {P:zr}{w:World}{K:PySem.W.Frag}{mg:vK}{base:Heap}
variable {f:Addr}{fd:zI}
theorem AO {ft:Addr}{HR:zI}(F:zA K "_law_product" "_law_product" GK f fd)(Hl:mg "range"=none)(Ho:mg "tuple"=none)(Hi:mg "sorted"=none)
 (Ip:Ha P w K mg base (aV P w) 1 ft HR qT v8)(Iq:L2.aA K HR qT [])(Ir:mg "_law_take"=some (.ref ft))(Iu:keepIn K (.ref ft)=true):
 Ha P w K mg base (aV P w) 3 f fd EE i5:=by
 refine F.okN Ai (λvs H Q E h=>?_) (λHn A outer s H vs Q E hr h=>?_)
 ·obtain⟨r,n,most,rfl,_⟩:=h;rfl
 ·obtain⟨r,n,most,rfl,⟨l,x,hR,x0,x1⟩,n0,I8,m0,m10,q⟩:=h;have Hu:qL 1 _:=hr.mono (by decide)
  refine⟨_,(aj (@aM _ _ 3 _ _ _ _ Ai.nd rfl (Or.inl rfl) (@cu _ _ _ _ ag) rfl (Or.inl rfl))
   (aj (eK PassesOwn.never rfl (dj (by rfl) Hl (@ah _ _ _ _ _ (av Ip Hu (by rfl) Ir Iu Iq .nil af (@ah _ _ _ _ _ (pv 0) (@ah _ _ _ _ _ (@aL _ _ _ _ _ _ _ _ cW (pv 2) ar) ag rfl) rfl)) ag rfl)) (aG (i:=4) Ai.nd rfl (Or.inl rfl))
   (aj (@aM _ _ 5 _ _ _ _ Ai.nd rfl (Or.inl rfl) (av Ip Hu (by rfl) Ir Iu Iq .nil af (@ah _ _ _ _ _ (pv 0) (@ah _ _ _ _ _ (pv 1) ag rfl) rfl)) rfl (Or.inl rfl))
   (ao (ba (@aH _ _ _ _ _ _ _ _ (show gB _ _ (GS K true) from je) (pv 5) (pv 3) (by rfl)) (ao (pq (xp PySem.F.plainAttrs_list PySem.F.slot_list_append PySem.F.type_list_append m5 (pv 3) (@ah _ _ _ _ _ (pv 5) ag rfl)))) aE))))
   (ao (aB (bK (eC rfl) (by rfl) Ho (by rfl) (@ah _ _ _ _ _ (az (ir rfl) (by rfl) Hi (by rfl) (@ah _ _ _ _ _ (pv 3) ag rfl)) ag rfl)))))),?_⟩
  refine⟨Nat.zero_le _,λD hD=>?_⟩;have Jy:D≠r:=(au hR hD).symm;have s1:=ai (o:=.lst []) hD;have eD:upd H D (.lst []) D=some (.lst []):=ae;have e1:=s1 _ _ hR;refine⟨_,rfl,_,rfl,_,_,rfl,rfl,r,l,x,most+1,rfl,e1,x0,x1,by omega,by omega,λz l2 r2 z0 z1 g0 g1=>?_⟩;have R2:aR (upd (upd H D (.lst [])) r (.lst [.int l2,.int r2])) r:=⟨l2,r2,ae,g0,g1⟩;have Ih:SameBut r H (upd (upd H D (.lst [])) r (.lst [.int l2,.int r2])):=(SameBut.of s1).trans SameBut.upd
  have IS:upd (upd H D (.lst [])) r (.lst [.int l2,.int r2]) D=some (.lst []):=by rw[aq Jy];exact eD
  generalize upd (upd H D (.lst [])) r (.lst [.int l2,.int r2])=H2 at R2 Ih IS |-;refine⟨z,rfl,by omega,by omega,?_⟩;refine dZ (lo:=0) (n:=z.toNat) (λi σ H'=>(∃o4 o5,σ=[some (.ref r),some (.int n),some (.int most),some (.ref D),o4,o5])/\aR H' r/\SameBut r H H'/\∃ks:List Int,H' D=some (.lst (ks.map V.int))/\ks.Nodup/\(∀k∈ks,0<=k/\k<n)/\ks.length<=i) ⟨⟨_,_,rfl⟩,R2,Ih,[],IS,List.nodup_nil,λk hk=>(nomatch hk),Nat.le_refl _⟩ ?_ ?_
  ·rintro i σ H' hi ⟨⟨o4,o5,rfl⟩,⟨l3,r3,e3,k0,k1⟩,sb,ks,hk,nd,pl,kl⟩;refine⟨_,rfl,_,rfl,r,l3,r3,n,rfl,e3,k0,k1,n0,by omega,λv l4 r4 v0 v1 j0 j1=>?_⟩;have R4:aR (upd H' r (.lst [.int l4,.int r4])) r:=⟨l4,r4,ae,j0,j1⟩;have Jh:SameBut r H (upd H' r (.lst [.int l4,.int r4])):=sb.trans SameBut.upd
   have NW:upd H' r (.lst [.int l4,.int r4]) D=some (.lst (ks.map V.int)):=by rw[aq Jy];exact hk
   generalize upd H' r (.lst [.int l4,.int r4])=H4 at R4 Jh NW |-;refine⟨_,rfl,_,rfl,D,_,rfl,.inl (aO.of NW),rfl,vB ks,?_⟩;rw[xo];refine⟨_,rfl,?_⟩
   by_cases hm:v∈ks
   ·rw[decide_eq_true hm];refine a9 ⟨⟨_,_,rfl⟩,R4,Jh,ks,NW,nd,pl,by omega⟩
   ·rw[decide_eq_false hm];refine aZ ⟨_,rfl,.inl ⟨rfl,_,aO.of NW⟩,_,rfl,D,_,_,rfl,rfl,NW,?_,?_⟩
    ·rw[List.length_map];exact Nat.lt_of_le_of_lt (by omega:ks.length<=11) (by decide)
    ·obtain⟨l5,r5,e5,i0,i1⟩:=R4;refine⟨⟨_,_,rfl⟩,⟨l5,r5,by rw[aq Jy.symm];exact e5,i0,i1⟩,λb u e nb=>?_,ks++[v],?_,?_,?_,?_⟩
     ·rw[aq (au e hD)];exact Jh b u e nb
     ·rw[ae,List.map_append];rfl
     ·refine List.nodup_append.mpr ⟨nd,by simp,λa ha b hb z=>hm ?_⟩
      have:b=v:=by simpa using hb
      rw[<-this,<-z];exact ha
     ·intro k hk
      rcases List.mem_append.mp hk with h|h
      ·exact pl k h
      ·have:k=v:=by simpa using h
       omega
     ·rw[List.length_append];have:[v].length=1:=rfl;omega
  ·rintro σ H' ⟨⟨o4,o5,rfl⟩,R3,sb,ks,hk,nd,pl,kl⟩;refine⟨_,rfl,D,ks,rfl,aO.of hk,by omega,λD2 ms Im perm NX=>?_⟩;refine⟨D2,_,rfl,.inl ⟨aO.of ae,λa ha=>?_⟩⟩;have s5:=(ai (o:=.lst (ms.map V.int)) Im).trans (ai (o:=.tup (ms.map V.int)) ha);obtain⟨l5,r5,e5,i0,i1⟩:=R3;refine q a ms _ ?_ (λk hk=>pl k (perm.mem_iff.mp hk)) (by rw[perm.length_eq];omega) ae ⟨l5,r5,s5 _ _ e5,i0,i1⟩ (sb.trans (SameBut.of s5));have nd2:=perm.nodup_iff.mpr nd
   exact(List.pairwise_and_iff.mpr ⟨NX,nd2⟩).imp λ⟨h1,h2⟩=>by omega
open Srt
abbrev jZ (ks:List Int):List Key:=ks.map Sum.inl
theorem jJ (ks:List Int):(jZ ks).map kV=ks.map V.int:=by unfold jZ;rw[List.map_map];rfl
theorem pz {a b:List Int}(h:jZ a=jZ b):a=b:=by
 have e:(jZ a).map kV=(jZ b).map kV:=by rw[h]
 rw[jJ,jJ] at e
 have inj:∀{x y:List Int},x.map V.int=y.map V.int->x=y:=by
  intro x
  induction x with
  |nil=>intro y h;cases y with
   |nil=>rfl
   |cons c y=>simp at h
  |cons b x ih=>intro y h;cases y with
   |nil=>simp at h
   |cons c y =>
    rw[List.map_cons,List.map_cons] at h
    injection h with h1 h2
    injection h1 with h1
    rw[h1,ih h2]
 exact inj e
def DC (H:Hp)(y:V)(t:Tm):Prop:=∃a pr nu,y=.ref a/\H a=some (.tup [.ref pr,.ref nu])/\H pr=some (.tup (t.1.map V.int))/\H nu=some (dW t.2.1 t.2.2)
abbrev bf (H:Hp):List V->List Tm->Prop:=Paired (DC H)
abbrev DR (H:Hp):List (List Key×V)->List Tm->Prop:=Paired λkv e=>kv.1=jZ e.1/\∃a,kv.2=.ref a/\H a=some (dW e.2.1 e.2.2)
def aJ (H H':Hp):Prop:=∀b xs,H b=some (.tup xs)->H' b=some (.tup xs)
variable {H H':Hp}
theorem aJ.of (s:aw H H'):aJ H H':=λb xs e=>s b _ e
theorem aJ.trans {H1 H2:Hp}(a:aJ H H1)(b:aJ H1 H2):aJ H H2:=λc xs e=>b c xs (a c xs e)
theorem aJ.upd {d:Addr}{o:HO}(h:∀xs,H d≠some (.tup xs)):aJ H (upd H d o):=λb xs e=>by
 have:b≠d:=λz=>h xs (z▸e);rw[aq this];exact e
theorem DC.keep {y:V}{t:Tm}(h:DC H y t)(k:aJ H H'):DC H' y t:=let⟨a,pr,nu,e,h1,h2,h3⟩:=h;⟨a,pr,nu,e,k _ _ h1,k _ _ h2,k _ _ h3⟩
theorem bf.keep {ys:List V}{ts:List Tm}(h:bf H ys ts)(k:aJ H H'):bf H' ys ts:=Paired.aaP h λ_ _ z=>z.keep k
variable {Hh:List (List Key×V)}{d:List Tm}
theorem DR.keep (h:DR H Hh d)(k:aJ H H'):DR H' Hh d:=Paired.aaP h λ_ _ z=>⟨z.1,let⟨a,e,h⟩:=z.2;⟨a,e,k _ _ h⟩⟩
theorem uO (k:List Int):∀{Hh:List (List Key×V)}{d:List Tm},DR H Hh d->d.any (λe=>decide (e.1=k))=false->jA Hh (jZ k)=none
 |_,_,.nil,_=>rfl
 |_,_,.cons (a:=kv) (b:=e) h t,q=>by
  rw[List.any_cons,Bool.or_eq_false_iff] at q
  have ne:¬kv.1=jZ k:=λz=>by
   have:e.1=k:=pz (h.1.symm.trans z);simp[this] at q
  rw[gK ne];exact uO k t q.2
theorem ku (k:List Int):∀{Hh:List (List Key×V)}{d:List Tm},DR H Hh d->d.any (λe=>decide (e.1=k))=true->∃e∈d,e.1=k/\∃a,jA Hh (jZ k)=some (.ref a)/\H a=some (dW e.2.1 e.2.2)
 |_,_,.nil,q=>by simp at q
 |_,_,.cons (a:=kv) (b:=e) h t,q=>by
  by_cases z:e.1=k
  ·obtain⟨a,e1,ha⟩:=h.2;refine⟨e,List.mem_cons_self,z,a,?_,ha⟩;rw[iX (by rw[h.1,z]),e1]
  ·have ne:¬kv.1=jZ k:=λw=>z (pz (h.1.symm.trans w));rw[List.any_cons,decide_eq_false z,Bool.false_or] at q;obtain⟨e',m,z',a,h1,h2⟩:=ku k t q;exact⟨e',List.mem_cons_of_mem _ m,z',a,by rw[gK ne];exact h1,h2⟩
theorem C2 (k:List Int)(h:DR H Hh d):(Hh.any λkv=>decide (kv.1=jZ k))=d.any λe=>decide (e.1=k):=by
 rw[kX]
 cases q:d.any λe=>decide (e.1=k) with
 |false=>rw[uO k h q];rfl
 |true =>
  obtain⟨_,_,_,a,e,_⟩:=ku k h q;rw[e];rfl
variable {p:Int}
theorem xb {t:Tm}{a:Addr}(h:DR H Hh d)(nd:(d.map (·.1)).Nodup)
 (LJ:d.any (λe=>decide (e.1=t.1))=false->H a=some (dW t.2.1 t.2.2))(Jn:∀e∈d,e.1=t.1->H a=some (dW (fP p e.2 t.2).1 (fP p e.2 t.2).2)):DR H (eW Hh (jZ t.1) (.ref a)) (gb p d t):=by
 unfold eW gb;rw[C2 t.1 h]
 by_cases q:d.any (λe=>decide (e.1=t.1))=true
 ·rw[if_pos q,if_pos q]
  have go:∀{Hh:List (List Key×V)}{d:List Tm},DR H Hh d->(∀e∈d,e.1=t.1->H a=some (dW (fP p e.2 t.2).1 (fP p e.2 t.2).2)) →
   DR H (Hh.map λkv=>if kv.1=jZ t.1 then(kv.1,V.ref a) else kv) (d.map λe=>if e.1=t.1 then(e.1,fP p e.2 t.2) else e):=by
   intro Hh d h
   induction h with
   |nil=>intro _;exact .nil
   |@cons kv e ks es h0 ht ih =>
    intro hy;rw[List.map_cons,List.map_cons];refine .cons ?_ (ih λe' m=>hy e' (List.mem_cons_of_mem _ m))
    by_cases z:e.1=t.1
    ·rw[if_pos z,if_pos (by rw[h0.1,z])];exact⟨h0.1,a,rfl,hy e List.mem_cons_self z⟩
    ·rw[if_neg z,if_neg (λw=>z (pz (h0.1.symm.trans w)))];exact h0
  exact go h Jn
 ·have q':d.any (λe=>decide (e.1=t.1))=false:=Bool.eq_false_iff.mpr q;rw[if_neg q,if_neg q];exact Paired.snoc h ⟨rfl,a,rfl,LJ q'⟩
abbrev xO:Stmt:=(aS 36)
structure Fz (p:Int)(ts:List Tm):Prop where
 len:ts.length<4000
 num:∀t∈ts,Gn p 4000 t.2
 steps:∀i,i<=ts.length->nR p 4000 (Hc p (ts.take i))
 few:((Hc p ts).filter λe=>e.2.1 != 0).length<64
theorem Fz.of {ts:List Tm}{m:Nat}(hp:FP p)(h64:ts.length<64)(hG:∀t∈ts,Gn p m t.2)(hm:(m+1)*ts.length+7<=4000)(Rr:m<=4000):Fz p ts:=by
 refine⟨by omega,λt ht=>⟨(hG t ht).1,(hG t ht).2.1.mono Rr,(hG t ht).2.2.mono Rr⟩,λi hi=>?_,?_⟩
 ·obtain⟨g1,g2,g3⟩:=dk (m:=m) hp i (ts.take i) (by simp;omega) λt ht=>hG t (List.mem_of_mem_take ht);intro e he;have b:=g1 e he;have le:(m+1)*i+7<=4000:=Nat.le_trans (Nat.add_le_add_right (Nat.mul_le_mul_left _ hi) _) hm;exact⟨b.1,b.2.1.mono le,b.2.2.mono le⟩
 ·exact Nat.lt_of_le_of_lt (Nat.le_trans (List.length_filter_le _ _) (dk (m:=m) hp ts.length ts rfl hG).2.2) h64
def pK (C:Addr):Sp:=λvs H Q _=>∃(s dx l:Addr)(p:Int)(ys:List V)(ts:List Tm),vs=[.ref s,.ref l]/\H s=some (.ins C dx (cJ p))/\FP p/\H l=some (.lst ys)/\bf H ys ts/\Fz p ts /\
 ∀H' D zs,aw H H'->H D=none->H' D=some (.lst zs)->bf H' zs (bo (Hc p ts))->Q (.ref D) H'
theorem none_of {a:Addr}(s:aw H H')(h:H' a=none):H a=none:=by
 cases e:H a with
 |none=>rfl
 |some o=>rw[s _ _ e] at h;cases h
theorem jv:yx ["field","terms","totals","product","number","kept"] FQ (ak xO):=dJ (by decide +kernel)
theorem ni {α β:Type}{R:α->β->Prop}{k:Ky}{x:α}{y:β}(h:R x y):∀{l:List (Ky×α)}{m:List (Ky×β)},Paired (λa b=>a.1=b.1/\R a.2 b.2) l m->Paired (λa b=>a.1=b.1/\R a.2 b.2) (mV k x l) (mV k y m)
 |_,_,.nil=>.cons ⟨rfl,h⟩ .nil
 |_,_,.cons (a:=(j,u)) (b:=(j',v)) (l₁:=r) (l₂:=r') h0 t=>by
  obtain⟨e,h1⟩:=h0;have e:j=j':=e;subst e;show Paired _ (if mq k j=true then(k,x):: (j,u):: r else(j,u):: mV k x r) (if mq k j=true then(k,y):: (j,v):: r' else(j,v):: mV k y r')
  by_cases z:mq k j=true
  ·rw[if_pos z,if_pos z];exact .cons ⟨rfl,h⟩ (.cons ⟨rfl,h1⟩ t)
  ·rw[if_neg z,if_neg z];exact .cons ⟨rfl,h1⟩ (ni h t)
theorem iB {α β:Type}{R:α->β->Prop}:∀{l:List (Ky×α)}{m:List (Ky×β)},Paired (λa b=>a.1=b.1/\R a.2 b.2) l m->Paired (λa b=>a.1=b.1/\R a.2 b.2) (di l) (di m)
 |_,_,.nil=>.nil
 |_,_,.cons (a:=(j,u)) (b:=(j',v)) (l₁:=r) (l₂:=r') h0 t=>by
  obtain⟨e,h1⟩:=h0;have e:j=j':=e;subst e;exact ni h1 (iB t)
theorem kg {α β:Type}{R:α->β->Prop}:∀{l:List (Ky×α)}{m:List (Ky×β)},Paired (λa b=>a.1=b.1/\R a.2 b.2) l m->Paired R (l.map (·.2)) (m.map (·.2))
 |_,_,.nil=>.nil
 |_,_,.cons h t=>.cons h.2 (kg t)
theorem kY {R:V->Tm->Prop}:∀{xs:List V}{es:List Tm},Paired R xs es->Paired (λa b=>a.1=b.1/\R a.2 b.2) ((es.map keyOf).zip xs) (es.map λe=>(keyOf e,e))
 |_,_,.nil=>.nil
 |_,_,.cons h t=>.cons ⟨rfl,h⟩ (kY t)
theorem ju:∀{xs:List V}{es:List Tm}{H:Hp}{R:List V->Hp->Prop},bf H xs es →
 (∀ks H2,aw H H2->Paired (λx e=>∃a b,x=.ref a/\H2 a=some (.tup [.int e.1.length,.ref b])/\H2 b=some (.tup (e.1.map V.int))) ks es->R ks H2)->nG Ab xs H R
 |_,_,H,R,.nil,h=>h [] H (aw.refl _) .nil
 |_,_,H,R,.cons (b:=e) h0 t,h=>by
  obtain⟨a,pr,nu,rfl,ha,IT,Jp⟩:=h0;refine⟨a,pr,.ref nu,_,rfl,ha,IT,λtt htt=>?_⟩;rw[List.length_map];have sU:aw H (upd H tt (.tup [.int e.1.length,.ref pr])):=ai htt;refine ju (bf.keep t (aJ.of sU)) λks H2 s2 hk=>h _ H2 (λb u z=>s2 _ _ (sU _ _ z)) (.cons ⟨tt,pr,rfl,s2 _ _ ae,s2 _ _ (sU _ _ IT)⟩ hk)
theorem ko {K:Frag}:∀{ks:List V}{es:List Tm},Paired (λx e=>∃a b,x=.ref a/\H a=some (.tup [.int e.1.length,.ref b])/\H b=some (.tup (e.1.map V.int))) ks es->dU K H ks (es.map keyOf)
 |_,_,.nil=>True.intro
 |_,_,.cons h t=>by
  obtain⟨a,b,rfl,h1,h2⟩:=h;exact⟨⟨a,b,[],rfl,bw.of h1,bw.of h2⟩,ko t⟩
theorem uQ (h:(d.map (·.1)).Nodup)(f:Tm->Bool):((d.filter f).map keyOf).Nodup:=by
 have h1:((d.filter f).map (·.1)).Nodup:=h.sublist (List.filter_sublist.map _)
 have e:(d.filter f).map keyOf=((d.filter f).map (·.1)).map λk=>((k.length:Int),k):=by rw[List.map_map];rfl
 rw[e];unfold List.Nodup at h1 |-;rw[List.pairwise_map];exact h1.imp λh z=>h (Prod.mk.inj z).2
theorem iQ (h:(d.map (·.1)).Nodup):∀{e e':Tm},e∈d->e'∈d->e.1=e'.1->e=e':=by
 induction d with
 |nil=>intro e e' h1;exact nomatch h1
 |cons a d ih =>
  rw[List.map_cons,List.nodup_cons] at h;intro e e' h1 h2 z
  rcases List.mem_cons.mp h1 with h3|h3
  ·rcases List.mem_cons.mp h2 with h4|h4
   ·rw[h3,h4]
   ·exact absurd (by rw[<-h3,z];exact List.mem_map_of_mem (f:=(·.1)) h4) h.1
  ·rcases List.mem_cons.mp h2 with h4|h4
   ·exact absurd (by rw[<-h4,<-z];exact List.mem_map_of_mem (f:=(·.1)) h3) h.1
   ·exact ih h.2 h3 h4 z
theorem AR {fp fo C:Addr}{IC I9:zI}(F:zA K "gathered" "gathered" xO f fd)(c:xV K mg C)(Hi:mg "sorted"=none)
 (FPl:Ha P w K mg base (aV P w) 4 fp IC rY (Bw C mh))(bPl:L2.aA K IC rY [])(mPl:L2.Meth K C "plus" fp)
 (Td:Ha P w K mg base (aV P w) 1 fo I9 ["term"] Ab)(Tf:L2.aA K I9 ["term"] [])(Ti:mg "place_of_term"=some (.ref fo)):Ha P w K mg base (aV P w) 5 f fd FQ (pK C):=by
 refine F.okN jv (λvs H Q E h=>?_) (λHn A outer s H vs Q E hr h=>?_)
 ·obtain⟨s,dx,l,p,ys,ts,rfl,_⟩:=h;rfl
 ·obtain⟨s0,dx,l,p,ys,ts,rfl,hs,hp,hl,K6,G,q⟩:=h;have h64:=G.len;have hG:=G.num;have JM:qL 4 _:=hr.mono (by decide);have Tj:qL 3 _:=hr.mono (by decide);have hu:=(hr.units:_+64<cLine)
  replace hu:=Nat.lt_of_le_of_lt (Nat.add_le_add_left (by decide:1<=64) _) hu
  refine⟨_,(aj (@aM _ _ 2 _ _ _ _ jv.nd rfl (Or.inl rfl) pN rfl (Or.inl rfl))
   (aj (eK PassesOwn.never rfl (bY (pv 1)) (fG rfl (bh (aG (i:=3) jv.nd rfl (Or.inl rfl)) (bh (aG (i:=4) jv.nd rfl (Or.inl rfl)) dC)))
   (aj (ba (Cls (acJ hu (pv 3) (pv 2))) (ao (@aM _ _ 4 _ _ _ _ jv.nd rfl (Or.inl rfl) (ip (pv 0) c.cl mPl FPl JM bPl .nil af (@ah _ _ _ _ _ (oB hu (pv 2) (pv 3) (λ_ _=>rfl)) (@ah _ _ _ _ _ (pv 4) ag rfl) rfl)) rfl (Or.inl rfl))) aE)
   (ao (uF hu (pv 2) (pv 3) (pv 4) (by rfl)))))
   (aj (oR (i:=5) (g:=pY K 2 (eQ (bA 0) (eQ (bA 1) As))) (N:=["product","number"]) (nl:=2) (js:=[]) (osc:=ak xO) ⟨rfl,rfl,by decide +kernel,by decide +kernel,by decide +kernel,rfl,.nil,by decide +kernel⟩ rfl jv.nd rfl (Or.inl rfl)
    (xm (pv 2))
    (λC fp s H=>(fG (X:=gQ _ ["product","number"] _ C fp s H) rfl (bh (aG (X:=gQ _ ["product","number"] _ C fp s H) (i:=0) (by show(["product","number"]:Bg).Nodup;decide +kernel) rfl (Or.inl rfl) (Or.inr rfl)) (bh (aG (X:=gQ _ ["product","number"] _ C fp s H) (i:=1) (by show(["product","number"]:Bg).Nodup;decide +kernel) rfl (Or.inl rfl) (Or.inr rfl)) dC))))
    (λC fp s H=>(iU (@aH _ _ _ _ _ _ _ _ jW (@bq _ _ _ _ _ _ _ (show Df _ (zM K) from bX) (pv 1) ar (λ_ _=>rfl)) ar (aF _))))
    (λC fp s H=>(@dw _ _ _ _ _ (@ah _ _ _ _ _ (pv 0) (@ah _ _ _ _ _ (pv 1) ag rfl) rfl))) (by rfl))
   (ao (aB (pO Td Tj Tf (by rfl) Hi (by rfl) Ti (pv 5))))))),?_⟩
  have hlen:=K6.length
  have gg:∀i,i<=ts.length->nR p 4000 (Hc p (ts.take i))/\((Hc p (ts.take i)).map (·.1)).Nodup/\(Hc p (ts.take i)).length<=i:=λi hi=>by
   obtain⟨_,g2,g3⟩:=dk (m:=4000) hp i (ts.take i) (by simp;omega) λt ht=>hG t (List.mem_of_mem_take ht);exact⟨G.steps i hi,g2,g3⟩
  refine λdd IP=>?_;have s1:aw H (upd H dd (.dT [])):=ai IP;refine⟨_,rfl,l,rfl,⟨ys,aO.of (s1 _ _ hl)⟩,?_⟩
  refine⟨λi m σ' H'=>m=ts.length-i/\i<=ts.length/\aw H H'/\(∃Hh,H' dd=some (.dT Hh)/\DR H' Hh (Hc p (ts.take i)))/\∃o3 o4,σ'=[some (.ref s0),some (.ref l),some (.ref dd),o3,o4,none],
   ⟨ts.length,by simp,Nat.zero_le _,s1,⟨[],ae,.nil⟩,none,none,rfl⟩,?_⟩
  rintro i m' σ' H' ⟨rfl,hi,sH,⟨Hh,hd,dr⟩,o3,o4,rfl⟩;have IB:=sH _ _ hl;have K3:=sH _ _ hs;obtain⟨gd,JW,gl⟩:=gg i hi
  by_cases Hx:i<ts.length
  ·have hly:i<ys.length:=by omega
   refine .inr ⟨⟨ys,ys[i],aO.of IB,by simp[hly]⟩,λσ' H'=>i+1<=ts.length/\aw H H'/\(∃Hh,H' dd=some (.dT Hh)/\DR H' Hh (Hc p (ts.take (i+1))))/\∃o3 o4,σ'=[some (.ref s0),some (.ref l),some (.ref dd),o3,o4,none],?_,λy H2 hy=>?_⟩
   ·rintro σ' H' ⟨h1,h2,h3,h4⟩;exact⟨ts.length-(i+1),by omega,rfl,h1,h2,h3,h4⟩
   ·obtain⟨rfl,hy⟩:=hy;obtain⟨t,et,tr⟩:=bt K6 (hy ys (aO.of IB));obtain⟨a,pr,nu,rfl,ha,IT,Jp⟩:=tr.keep (aJ.of sH);have gt:=hG t (List.mem_of_getElem? et)
    have Jz:ts.take (i+1)=ts.take i++[t]:=by rw[List.take_add_one,et];rfl
    have Ja:∀H3:Hp,aJ H2 H3->H3 pr=some (.tup ((jZ t.1).map kV)):=λH3 k=>by rw[jJ];exact k _ _ IT
    have fin:∀(H3:Hp)(an:Addr),aw H H3->aJ H2 H3->H3 dd=some (.dT Hh)->((Hc p (ts.take i)).any (λe=>decide (e.1=t.1))=false->H3 an=some (dW t.2.1 t.2.2)) →
     (∀e∈Hc p (ts.take i),e.1=t.1->H3 an=some (dW (fP p e.2 t.2).1 (fP p e.2 t.2).2)) →
     aw H (upd H3 dd (.dT (eW Hh (jZ t.1) (.ref an))))/\∃JX,(upd H3 dd (.dT (eW Hh (jZ t.1) (.ref an)))) dd=some (.dT JX)/\DR (upd H3 dd (.dT (eW Hh (jZ t.1) (.ref an)))) JX (Hc p (ts.take (i+1))):=by
     intro H3 an s3 k3 h3 LJ Jn;refine⟨λb u e=>by rw[aq (au e IP)];exact s3 b u e,_,ae,?_⟩;rw[Jz,jy];exact(xb (dr.keep k3) JW LJ Jn).keep (aJ.upd λxs z=>by rw[h3] at z;cases z)
    have JY:Hh.length<sizeLine:=by
     rw[dr.length];exact Nat.lt_of_le_of_lt gl (Nat.lt_trans (Nat.lt_of_le_of_lt hi h64) (by decide))
    refine⟨a,_,rfl,bw.of ha,rfl,_,_,rfl,_,_,rfl,rfl,?_⟩;refine⟨_,rfl,_,rfl,dd,_,rfl,jw.t hd (Ja _ λ_ _ e=>e),_,rfl,?_⟩
    cases hq:(Hc p (ts.take i)).any (λe=>decide (e.1=t.1)) with
    |false =>
     rw[uO t.1 dr hq];refine a9 ?_;refine⟨_,rfl,_,rfl,_,rfl,dd,_,rfl,qC.t hd (Ja _ λ_ _ e=>e) JY,?_⟩
     obtain⟨f1,f2⟩:=fin H2 nu sH (λ_ _ e=>e) hd (λ_=>Jp) λe he z=>by
      have:(Hc p (ts.take i)).any (λe=>decide (e.1=t.1))=true:=List.any_eq_true.mpr ⟨e,he,by simpa using z⟩;rw[hq] at this;cases this
     exact⟨Hx,f1,f2,_,_,rfl⟩
    |true =>
     obtain⟨e,he,ek,a0,hv,Tn⟩:=ku t.1 dr hq;rw[hv];refine aZ ?_;have ge:=gd e he
     refine⟨_,rfl,s0,dx,_,rfl,K3,rfl,_,rfl,_,rfl,dd,_,rfl,(by rw[<-hv];exact jw.t hd (Ja _ λ_ _ e=>e)),_,rfl,s0,dx,a0,nu,p,e.2.1,e.2.2,t.2.1,t.2.2,rfl,K3,hp,Tn,Jp,
      ge.2.1,ge.2.2,gt.2.1,gt.2.2,ge.ne,gt.ne,λa1 IJ=>?_⟩
     have sU:aw H2 (upd H2 a1 (dW (fP p e.2 t.2).1 (fP p e.2 t.2).2)):=ai IJ;refine⟨_,rfl,_,rfl,_,rfl,dd,_,rfl,qC.t (sU _ _ hd) (Ja _ (aJ.of sU)) JY,?_⟩
     obtain⟨f1,f2⟩:=fin _ a1 (λb u z=>sU _ _ (sH _ _ z)) (aJ.of sU) (sU _ _ hd) (λz=>by rw[hq] at z;cases z) λe' NY z=>by
      have:e'=e:=iQ JW NY he (z.trans ek.symm);subst this;exact ae
     exact⟨Hx,f1,f2,_,_,rfl⟩
  ·have ei:i=ts.length:=by omega
   subst ei;refine .inl ⟨⟨ys,aO.of IB,by omega⟩,?_⟩;rw[List.take_length] at dr gd JW gl;refine⟨_,rfl,dd,Hh,rfl,.inr ⟨hd,λo=>?_⟩⟩
   have sF:aw H (upd H' dd (pL o Hh)):=λb u e=>by rw[aq (au e IP)];exact sH b u e
   have To:DR (upd H' dd (pL o Hh)) Hh (Hc p ts):=dr.keep (aJ.upd λxs z=>by rw[hd] at z;cases z);have kl:Hh.length=(Hc p ts).length:=dr.length
   refine⟨λi m xs σ' H2=>m=(Hc p ts).length-i/\i<=(Hc p ts).length/\aw H H2/\H2 dd=some (pL o Hh)/\DR H2 Hh (Hc p ts)/\bf H2 xs (((Hc p ts).take i).filter λe=>e.2.1 != 0)/\∃o1 o2,σ'=[o1,o2],
    ⟨(Hc p ts).length,by simp,Nat.zero_le _,sF,ae,To,.nil,none,none,rfl⟩,?_⟩
   rintro i m' xs σ' H2 ⟨rfl,Tp,s2,hd2,K7,Io,o1,o2,rfl⟩
   have xl:xs.length<=(Hc p ts).length:=by
    rw[Io.length];exact Nat.le_trans (List.length_filter_le _ _) (by simp;omega)
   refine⟨Nat.lt_of_le_of_lt (Nat.le_trans xl gl) (Nat.lt_trans h64 (by decide)),?_⟩
   by_cases Jb:i<(Hc p ts).length
   ·refine .inr ⟨⟨by omega,hd2⟩,λx H3 hx=>?_⟩;obtain⟨pp,b,k,v,hk,Rl,hb,rfl,rfl⟩:=hx;obtain⟨e,ee,ek,a,ev,ha⟩:=bt K7 hk;have ek:k=jZ e.1:=ek;have ev:v=.ref a:=ev;subst ek;subst ev;have sP:aw H2 (upd H2 pp (.tup [.ref b,.ref a])):=ai Rl
    have Jz:(Hc p ts).take (i+1)=(Hc p ts).take i++[e]:=by rw[List.take_add_one,ee];rfl
    rw[jJ] at hb;refine⟨pp,_,rfl,bw.of ae,rfl,_,_,rfl,_,_,rfl,rfl,?_⟩;refine⟨_,rfl,a,_,0,_,rfl,rfl,bw.of (sP _ _ ha),rfl,rfl,_,rfl,?_⟩;have dP:upd H2 pp (.tup [.ref b,.ref a]) dd=some (pL o Hh):=sP _ _ hd2
    cases hz:(e.2.1 != 0) with
    |true =>
     have z:(!decide (V.int e.2.1=V.int 0))=true:=by
      have:e.2.1≠0:=by simpa using hz
      simp[this]
     rw[z];refine aZ ⟨_,rfl,_,rfl,nj,λt' Tq=>?_⟩;have sT:aw (upd H2 pp (.tup [.ref b,.ref a])) (upd (upd H2 pp (.tup [.ref b,.ref a])) t' (.tup [.ref b,.ref a])):=ai Tq;have sA:aw H2 (upd (upd H2 pp (.tup [.ref b,.ref a])) t' (.tup [.ref b,.ref a])):=λc u e=>sT _ _ (sP _ _ e);refine⟨(Hc p ts).length-(i+1),by omega,rfl,Jb,λc u e=>sA _ _ (s2 _ _ e),sA _ _ hd2,K7.keep (aJ.of sA),?_,_,_,rfl⟩;rw[Jz,List.filter_append]
     have ef:[e].filter (λe=>e.2.1 != 0)=[e]:=by simp[hz]
     rw[ef];exact Paired.snoc (bf.keep Io (aJ.of sA)) ⟨t',b,a,rfl,ae,sA _ _ hb,sA _ _ ha⟩
    |false =>
     have z:(!decide (V.int e.2.1=V.int 0))=false:=by
      have:e.2.1=0:=by simpa using hz
      simp[this]
     rw[z];refine a9 ⟨(Hc p ts).length-(i+1),by omega,rfl,Jb,λc u e=>sP _ _ (s2 _ _ e),sP _ _ hd2,K7.keep (aJ.of sP),?_,_,_,rfl⟩;rw[Jz,List.filter_append]
     have ef:[e].filter (λe=>e.2.1 != 0)=[]:=by simp[hz]
     rw[ef,List.append_nil];exact bf.keep Io (aJ.of sP)
   ·have Tr:i=(Hc p ts).length:=by omega
    subst Tr;refine .inl ⟨⟨by omega,hd2⟩,λD hD=>?_⟩;rw[List.take_length] at Io;have sD:aw H2 (upd H2 D (.lst xs)):=ai hD;refine⟨_,rfl,D,xs,rfl,aO.of ae,(by rw[Io.length];exact G.few),?_⟩;refine ju (bf.keep Io (aJ.of sD)) λks H3 s3 hk=>?_;refine⟨_,ko hk,uQ JW _,λD2 Im=>?_⟩;have sE:aw H3 (upd H3 D2 (.lst ((di ((((Hc p ts).filter λe=>e.2.1 != 0).map keyOf).zip xs)).map (·.2)))):=ai Im;refine q _ D2 _ (λc u e=>sE _ _ (s3 _ _ (sD _ _ (s2 _ _ e)))) (none_of (λc u e=>s3 _ _ (sD _ _ (s2 _ _ e))) Im) ae ?_;have Ts:bf H3 xs ((Hc p ts).filter λe=>e.2.1 != 0):=bf.keep Io (aJ.of λc u e=>s3 _ _ (sD _ _ e));exact bf.keep (kg (iB (kY Ts))) (aJ.of sE)
abbrev Gv:Stmt:=(aS 52)
abbrev Cg:Stmt:=(aS 53)
def me:Sp:=λvs H Q _=>∃(l:Addr)(p:Int)(ys:List V)(ts:List Tm),vs=[.int p,.ref l]/\FP p/\H l=some (.lst ys)/\bf H ys ts/\Fz p ts /\
 ∀H' D zs,aw H H'->H D=none->H' D=some (.lst zs)->bf H' zs (bo (Hc p ts))->Q (.ref D) H'
theorem F8:yx ["_law_row"] ["_law_row"] (ak Gv):=dJ (by decide +kernel)
theorem uK:yx ["_law_prime_here","_law_terms_here","_law_found","_law_product_here","_law_number_here"] vI (ak Cg):=dJ (by decide +kernel)
theorem DJ (F:zA K "_law_row_key" "_law_row_key" Gv f fd)(Hr:mg "len"=none):Ha P w K mg base (aV P w) 1 f fd ["_law_row"] Ab:=by
 refine F.okN F8 (λvs H Q E h=>?_) (λHn A outer s H vs Q E hr h=>?_)
 ·obtain⟨a,b,z,xs,rfl,_⟩:=h;rfl
 ·obtain⟨a,b,z,xs,rfl,ha,hb,q⟩:=h;refine⟨_,(ao (aB (@dw _ _ _ _ _ (@ah _ _ _ _ _ (az aW (by rfl) Hr PySem.boot_len (@ah _ _ _ _ _ (@bq _ _ _ _ _ _ _ bX (pv 0) ar (λ_ _=>rfl)) ag rfl)) (@ah _ _ _ _ _ (@bq _ _ _ _ _ _ _ bX (pv 0) ar (λ_ _=>rfl)) ag rfl) rfl)))),?_⟩;refine⟨_,rfl,a,_,0,_,rfl,rfl,bw.of ha,rfl,b,xs,rfl,.inr (bw.of hb),_,rfl,a,_,0,_,rfl,rfl,bw.of ha,rfl,nj,λt ht=>q t ht⟩
theorem yY {fl fk:Addr}{JS Xy:zI}(F:zA K "_law_gathered" "_law_gathered" Cg f fd)(Hi:mg "sorted"=none)
 (FLp:Ha P w K mg base (aV P w) 3 fl JS rQ (xS mh))(bLp:L2.aA K JS rQ [])(mLp:mg "_law_plus"=some (.ref fl))(kLp:keepIn K (.ref fl)=true)
 (FRk:Ha P w K mg base (aV P w) 1 fk Xy ["_law_row"] Ab)(bRk:L2.aA K Xy ["_law_row"] [])(mRk:mg "_law_row_key"=some (.ref fk)):
 Ha P w K mg base (aV P w) 4 f fd vI me:=by
 refine F.okN uK (λvs H Q E h=>?_) (λHn A outer s H vs Q E hr h=>?_)
 ·obtain⟨l,p,ys,ts,rfl,_⟩:=h;rfl
 ·obtain⟨l,p,ys,ts,rfl,hp,hl,K6,G,q⟩:=h;have h64:=G.len;have hG:=G.num;have IQ:qL 3 _:=hr.mono (by decide);have Tj:qL 3 _:=hr.mono (by decide);have hu:=(hr.units:_+64<cLine)
  replace hu:=Nat.lt_of_le_of_lt (Nat.add_le_add_left (by decide:1<=64) _) hu
  refine⟨_,(aj (@aM _ _ 2 _ _ _ _ uK.nd rfl (Or.inr rfl) pN rfl (Or.inl rfl))
   (aj (eK PassesOwn.never rfl (bY (pv 1)) (fG rfl (bh (aG (i:=3) uK.nd rfl (Or.inl rfl)) (bh (aG (i:=4) uK.nd rfl (Or.inl rfl)) dC)))
   (ao (uF hu (pv 2) (pv 3) (av FLp IQ (by rfl) mLp kLp bLp .nil af (@ah _ _ _ _ _ (pv 0) (@ah _ _ _ _ _ (abr hu (pv 2) (pv 3) (@dw _ _ _ _ _ (@ah _ _ _ _ _ ar (@ah _ _ _ _ _ ar ag rfl) rfl)) ⟨rfl,rfl,rfl,rfl⟩) (@ah _ _ _ _ _ (pv 4) ag rfl) rfl) rfl)) (by rfl))))
   (ao (aB (pO FRk Tj bRk (by rfl) Hi (by rfl) mRk (bF (N:=["_law_product_here","_law_found"]) (nl:=1) (js:=[2]) (osc:=ak Cg) ⟨rfl,rfl,by decide +kernel,by decide +kernel,by decide +kernel,rfl,(.cons ⟨rfl,by decide +kernel⟩ .nil),by decide +kernel⟩ rfl
    (Bh (pv 2))
    (λCq fq sq Hq=>aG (i:=0) (by show(["_law_product_here","_law_found"]:Bg).Nodup;decide +kernel) rfl (Or.inl rfl) (Or.inr rfl))
    (λCq fq sq Hq=>(iU (@aH _ _ _ _ _ _ _ _ jW (@bq _ _ _ _ _ _ _ (show Df _ (zM K) from bX) (oB hu (pv 1) (pv 0) (λ_ _=>rfl)) ar (λ_ _=>rfl)) ar (aF _))))
    (λCq fq sq Hq=>(@dw _ _ _ _ _ (@ah _ _ _ _ _ (pv 0) (@ah _ _ _ _ _ (oB hu (pv 1) (pv 0) (λ_ _=>rfl)) ag rfl) rfl))))))))),?_⟩
  have hlen:=K6.length
  have gg:∀i,i<=ts.length->nR p 4000 (Hc p (ts.take i))/\((Hc p (ts.take i)).map (·.1)).Nodup/\(Hc p (ts.take i)).length<=i:=λi hi=>by
   obtain⟨_,g2,g3⟩:=dk (m:=4000) hp i (ts.take i) (by simp;omega) λt ht=>hG t (List.mem_of_mem_take ht);exact⟨G.steps i hi,g2,g3⟩
  have one:∀{n:Nat}{a:Int×Int},Gn p n a->p≠0->a.2=1:=λh z=>(h.1.pr z).1;refine λdd IP=>?_;have s1:aw H (upd H dd (.dT [])):=ai IP;refine⟨_,rfl,l,rfl,⟨ys,aO.of (s1 _ _ hl)⟩,?_⟩;refine pV (xs:=ys) (λi σ' H'=>aw H H'/\(∃Hh,H' dd=some (.dT Hh)/\DR H' Hh (Hc p (ts.take i)))/\∃o3 o4,σ'=[some (.int p),some (.ref l),some (.ref dd),o3,o4]) ⟨s1,⟨[],ae,.nil⟩,none,none,rfl⟩ (λi σ' H' _ h=>aO.of (h.1 _ _ hl)) (λi x σ' H2 hx h=>?_) (λσ' H' h=>?_)
  ·obtain⟨sH,⟨Hh,hd,dr⟩,o3,o4,rfl⟩:=h;obtain⟨t,et,tr⟩:=bt K6 hx;have hi:i<ts.length:=(List.getElem?_eq_some_iff.mp et).1;obtain⟨gd,JW,gl⟩:=gg i (by omega);obtain⟨a,pr,nu,rfl,ha,IT,Jp⟩:=tr.keep (aJ.of sH);have gt:=hG t (List.mem_of_getElem? et)
   have Jz:ts.take (i+1)=ts.take i++[t]:=by rw[List.take_add_one,et];rfl
   have Ja:∀H3:Hp,aJ H2 H3->H3 pr=some (.tup ((jZ t.1).map kV)):=λH3 k=>by rw[jJ];exact k _ _ IT
   have JY:Hh.length<sizeLine:=by
    rw[dr.length];exact Nat.lt_of_le_of_lt gl (Nat.lt_trans (Nat.lt_trans hi h64) (by decide))
   have fin:∀(H3:Hp)(an:Addr),aw H2 H3->((Hc p (ts.take i)).any (λe=>decide (e.1=t.1))=false->H3 an=some (dW t.2.1 t.2.2))->(∀e∈Hc p (ts.take i),e.1=t.1->H3 an=some (dW (fP p e.2 t.2).1 (fP p e.2 t.2).2)) →
    aw H (upd H3 dd (.dT (eW Hh (jZ t.1) (.ref an))))/\∃JX,(upd H3 dd (.dT (eW Hh (jZ t.1) (.ref an)))) dd=some (.dT JX)/\DR (upd H3 dd (.dT (eW Hh (jZ t.1) (.ref an)))) JX (Hc p (ts.take (i+1))):=by
    intro H3 an s3 LJ Jn;refine⟨λb u e=>by rw[aq (au e IP)];exact s3 b u (sH b u e),_,ae,?_⟩;rw[Jz,jy];exact(xb (dr.keep (aJ.of s3)) JW LJ Jn).keep (aJ.upd λxs z=>by rw[s3 _ _ hd] at z;cases z)
   refine⟨a,_,rfl,bw.of ha,rfl,_,_,rfl,_,_,rfl,rfl,?_⟩;refine⟨_,rfl,_,rfl,dd,rfl,.inr ⟨Hh,.inl hd⟩,_,rfl,nj,λt0 ht0=>?_⟩;have sZ:aw H2 (upd H2 t0 (.tup [.int 0,.int 1])):=ai ht0;refine⟨_,jw.t (sZ _ _ hd) (Ja _ (aJ.of sZ)),?_⟩
   cases hq:(Hc p (ts.take i)).any (λe=>decide (e.1=t.1)) with
   |false =>
    rw[uO t.1 dr hq];refine⟨_,rfl,p,0,1,t.2.1,t.2.2,t0,nu,rfl,hp,ae,sZ _ _ Jp,(by unfold B;decide),(by show(1:Nat)<2^4000;exact Nat.one_lt_two_pow (by decide)),gt.2.1,gt.2.2,(by decide),gt.ne,λz=>by rw[one gt z];decide,λH3 an s3 h3=>?_⟩;have ez:fP p (0,1) t.2=t.2:=va hp gt;have sA:aw H2 H3:=sZ.trans s3;refine⟨_,rfl,_,rfl,dd,_,rfl,qC.t (sA _ _ hd) (Ja _ (aJ.of sA)) JY,?_⟩
    obtain⟨f1,f2⟩:=fin H3 an sA (λ_=>by
     have:H3 an=some (dW (fP p (0,1) t.2).1 (fP p (0,1) t.2).2):=h3;rw[ez] at this
     exact this) λe he z=>by
     have:(Hc p (ts.take i)).any (λe=>decide (e.1=t.1))=true:=List.any_eq_true.mpr ⟨e,he,by simpa using z⟩;rw[hq] at this;cases this
    exact⟨f1,f2,_,_,rfl⟩
   |true =>
    obtain⟨e,he,ek,a0,hv,Tn⟩:=ku t.1 dr hq;rw[hv];have ge:=gd e he;refine⟨_,rfl,p,e.2.1,e.2.2,t.2.1,t.2.2,a0,nu,rfl,hp,sZ _ _ Tn,sZ _ _ Jp,ge.2.1,ge.2.2,gt.2.1,gt.2.2,ge.ne,gt.ne,λz=>by rw[one gt z,one ge z];decide,λH3 an s3 h3=>?_⟩;have sA:aw H2 H3:=sZ.trans s3;refine⟨_,rfl,_,rfl,dd,_,rfl,qC.t (sA _ _ hd) (Ja _ (aJ.of sA)) JY,?_⟩
    obtain⟨f1,f2⟩:=fin H3 an sA (λz=>by rw[hq] at z;cases z) λe' NY z=>by
     have:e'=e:=iQ JW NY he (z.trans ek.symm);subst this;exact h3
    exact⟨f1,f2,_,_,rfl⟩
  ·obtain⟨sH,⟨Hh,hd,dr⟩,o3,o4,rfl⟩:=h;obtain⟨gd,JW,gl⟩:=gg ts.length (Nat.le_refl _);rw[hlen] at dr;rw[List.take_length] at dr gd JW gl;refine⟨_,rfl,dd,Hh,rfl,.inr ⟨hd,λo=>?_⟩⟩
   have sF:aw H (upd H' dd (pL o Hh)):=λb u e=>by rw[aq (au e IP)];exact sH b u e
   have To:DR (upd H' dd (pL o Hh)) Hh (Hc p ts):=dr.keep (aJ.upd λxs z=>by rw[hd] at z;cases z);have kl:Hh.length=(Hc p ts).length:=dr.length
   refine⟨λi m xs σ' H2=>m=(Hc p ts).length-i/\i<=(Hc p ts).length/\aw H H2/\H2 dd=some (pL o Hh)/\DR H2 Hh (Hc p ts)/\bf H2 xs (((Hc p ts).take i).filter λe=>e.2.1 != 0)/\∃o1,σ'=[o1,some (.ref dd)],
    ⟨(Hc p ts).length,by simp,Nat.zero_le _,sF,ae,To,.nil,none,rfl⟩,?_⟩
   rintro i m' xs σ' H2 ⟨rfl,Tp,s2,hd2,K7,Io,o1,rfl⟩
   have xl:xs.length<=(Hc p ts).length:=by
    rw[Io.length];exact Nat.le_trans (List.length_filter_le _ _) (by simp;omega)
   refine⟨Nat.lt_of_le_of_lt (Nat.le_trans xl gl) (Nat.lt_trans h64 (by decide)),?_⟩
   by_cases Jb:i<(Hc p ts).length
   ·refine .inr ⟨⟨by omega,hd2⟩,λx H3 hx=>?_⟩;obtain⟨b,k,v,hk,hb,rfl,rfl⟩:=hx;obtain⟨e,ee,ek,_⟩:=bt K7 hk;have ek:k=jZ e.1:=ek;subst ek;have he:=List.mem_of_getElem? ee
    have Jz:(Hc p ts).take (i+1)=(Hc p ts).take i++[e]:=by rw[List.take_add_one,ee];rfl
    obtain⟨e',NY,ek',a,hv,ha⟩:=ku e.1 K7 (List.any_eq_true.mpr ⟨e,he,by simp⟩);have:e'=e:=iQ JW NY he ek';subst this;have dg:jw H3 dd (.ref b) (some (.ref a)):=.inr ⟨Hh,jZ e'.1,b,.inr ⟨o,hd2⟩,rfl,hb,hv.symm⟩;have HP:=hb;rw[jJ] at HP;refine⟨_,rfl,_,rfl,dd,.ref a,rfl,dg,a,_,0,_,rfl,rfl,bw.of ha,rfl,rfl,_,rfl,?_⟩
    cases hz:(e'.2.1 != 0) with
    |true =>
     have z:(!decide (V.int e'.2.1=V.int 0))=true:=by
      have:e'.2.1≠0:=by simpa using hz
      simp[this]
     rw[z];refine aZ ⟨_,rfl,_,rfl,_,rfl,dd,.ref a,rfl,dg,nj,λt' Tq=>?_⟩;have sA:aw H3 (upd H3 t' (.tup [.ref b,.ref a])):=ai Tq;refine⟨(Hc p ts).length-(i+1),by omega,rfl,Jb,s2.trans sA,sA _ _ hd2,K7.keep (aJ.of sA),?_,_,rfl⟩;rw[Jz,List.filter_append]
     have ef:[e'].filter (λe=>e.2.1 != 0)=[e']:=by simp[hz]
     rw[ef];exact Paired.snoc (bf.keep Io (aJ.of sA)) ⟨t',b,a,rfl,ae,sA _ _ HP,sA _ _ ha⟩
    |false =>
     have z:(!decide (V.int e'.2.1=V.int 0))=false:=by
      have:e'.2.1=0:=by simpa using hz
      simp[this]
     rw[z];refine a9 ⟨(Hc p ts).length-(i+1),by omega,rfl,Jb,s2,hd2,K7,?_,_,rfl⟩;rw[Jz,List.filter_append]
     have ef:[e'].filter (λe=>e.2.1 != 0)=[]:=by simp[hz]
     rw[ef,List.append_nil];exact Io
   ·have Tr:i=(Hc p ts).length:=by omega
    subst Tr;refine .inl ⟨⟨by omega,hd2⟩,λD hD=>?_⟩;rw[List.take_length] at Io;have sD:aw H2 (upd H2 D (.lst xs)):=ai hD;refine⟨D,xs,rfl,aO.of ae,(by rw[Io.length];exact G.few),?_⟩;refine ju (bf.keep Io (aJ.of sD)) λks H3 s3 hk=>?_;refine⟨_,ko hk,uQ JW _,λD2 Im=>?_⟩;have sE:aw H3 (upd H3 D2 (.lst ((di ((((Hc p ts).filter λe=>e.2.1 != 0).map keyOf).zip xs)).map (·.2)))):=ai Im;refine q _ D2 _ (λc u e=>sE _ _ (s3 _ _ (sD _ _ (s2 _ _ e)))) (none_of (λc u e=>s3 _ _ (sD _ _ (s2 _ _ e))) Im) ae ?_;have Ts:bf H3 xs ((Hc p ts).filter λe=>e.2.1 != 0):=bf.keep Io (aJ.of λc u e=>s3 _ _ (sD _ _ e));exact bf.keep (kg (iB (kY Ts))) (aJ.of sE)
abbrev oK:Stmt:=aN (aS 38) 0
def DB (ks:List Int):Prop:=lM (some (ks.map V.int))=true/\ks.length<4000
theorem A5 {t b:Int}(n:Num p t b):yo p (some (.int t,.int b))=true:=by
 unfold yo;dsimp only
 by_cases z:p=0
 ·rw[if_pos z,n.red];have:=n.pos;simp;omega
 ·rw[if_neg z];obtain⟨h1,h2,h3⟩:=n.pr z;simp[h1,h2,h3]
theorem DY {n:Nat}{y:V}{t:Tm}(h:DC H y t)(g:Gn p n t.2)(pd:DB t.1):v3 p H y true:=by
 obtain⟨a,pr,nu,rfl,ha,IT,Jp⟩:=h
 have e:v3 p H (.ref a) (lM (some (t.1.map V.int))&&yo p (some (.int t.2.1,.int t.2.2))):=.two ha (.tup IT (by rw[List.length_map];exact pd.2) λy hy=>by
  obtain⟨k,_,rfl⟩:=List.mem_map.mp hy
  exact⟨_,.int k⟩) (.two Jp (.int _) (.int _))
 rw[pd.1,A5 g.1] at e;exact e
theorem xr {n:Nat}:∀{ys:List V}{ts:List Tm},bf H ys ts->(∀t∈ts,Gn p n t.2/\DB t.1)->∀y∈ys,v3 p H y true
 |_,_,.nil,_,y,hy=>nomatch hy
 |_,_,.cons h t,g,y,hy=>by
  rcases List.mem_cons.mp hy with rfl|hy
  ·exact DY h (g _ List.mem_cons_self).1 (g _ List.mem_cons_self).2
  ·exact xr t (λt ht=>g t (List.mem_cons_of_mem _ ht)) y hy
structure C0 (K:Frag)(mg:vK)(C:Addr):Prop where
 cl:B5 K C
 nF:bV K C "its_field"
 nT:bV K C "its_terms"
 mgC:mg "Sum"=some (.ref C)
def qr (fl D:Addr):List (Str×V):=[("its_field",.ref fl),("its_terms",.ref D)]
def i4 (C CF:Addr):Sp:=λvs H Q _=>∃(s dx fl Hs:Addr)(p:Int)(x:V)(ts:List Tm),vs=[.ref s,.ref fl,x]/\H s=some (.ins C dx [])/\H fl=some (.ins CF Hs (cJ p))/\FP p /\
 ((x=.non/\ts=[])\/∃l ys,x=.ref l/\H l=some (.lst ys)/\bf H ys ts)/\Fz p ts/\(∀t∈ts,DB t.1) /\
 ∀H' D zs,SameBut s H H'->H D=none->H' s=some (.ins C dx (qr fl D))->H' D=some (.lst zs)->bf H' zs (bo (Hc p ts))->Q .non H'
theorem Av:yx we we (ak oK):=dJ (by decide +kernel)
theorem xi {fg fc C CF T:Addr}{IY K8:zI}(F:Fg K "__init__" "Sum.__init__" oK f fd T)(c:C0 K mg C)
 (FG:Ha P w K mg base (aV P w) 5 fg IY FQ (pK CF))(bG:L2.aA K IY FQ [])(mG:mg "gathered"=some (.ref fg))(kG:keepIn K (.ref fg)=true)
 (FC:Ha P w K mg base (aV P w) 5 fc K8 FQ (ny CF))(bC:L2.aA K K8 FQ [])(mC:mg "checked_terms"=some (.ref fc))(kC:keepIn K (.ref fc)=true):
 Ha P w K mg base (aV P w) 6 f fd we (i4 C CF):=by
 refine F.okE Av (λvs H Q E h=>?_) (λHn A outer s H vs Q E hr h=>?_)
 ·obtain⟨s,dx,fl,Hs,p,x,ts,rfl,_⟩:=h;rfl
 ·obtain⟨s0,dx,fl,Hs,p,x,ts,rfl,hs,hf,hp,hx,G,hP,q⟩:=h;have hG:∀t∈ts,Gn p 4000 t.2/\DB t.1:=λt ht=>⟨G.num t ht,hP t ht⟩;have Iv:qL 5 _:=hr.mono (by decide);refine⟨_,aj (gJ (pv 0) (pv 1) rfl) (ao (gJ (pv 0) (av FG Iv (by rfl) mG kG bG .nil af (@ah _ _ _ _ _ (pv 1) (@ah _ _ _ _ _ (av FC Iv (by rfl) mC kC bC .nil af (@ah _ _ _ _ _ (pv 1) (@ah _ _ _ _ _ (pv 2) ag rfl) rfl)) ag rfl) rfl)) rfl)),?_⟩;refine⟨_,rfl,_,rfl,s0,C,dx,_,rfl,hs,c.cl,c.nF,by decide,?_⟩
  have Ny:fl≠s0:=λz=>by
   rw[z,hs] at hf
   injection hf with hf
   injection hf with _ _ hf
   cases hf
  have Tt:upd H s0 (.ins C dx (cf "its_field" (.ref fl) [])) fl=some (.ins CF Hs (cJ p)):=by rw[aq Ny];exact hf
  have kT:aJ H (upd H s0 (.ins C dx (cf "its_field" (.ref fl) []))):=aJ.upd λxs z=>by rw[hs] at z;cases z
  have fin:∀(H2:Hp)(l:Addr)(ys:List V),aw (upd H s0 (.ins C dx (cf "its_field" (.ref fl) []))) H2->H2 l=some (.lst ys)->bf H2 ys ts->pK CF [.ref fl,.ref l] H2 (λy H1=>cw 0 [some (.ref s0),some (.ref fl),some x] H1 λx2 H2=>∃a C dx fs,x2=.ref a/\H2 a=some (.ins C dx fs)/\B5 K C/\bV K C "its_terms"/\fs.length<1000 /\
   Q .non (upd H2 a (.ins C dx (cf "its_terms" y fs)))) λ_ _ _=>False:=by
   intro H2 l ys s2 hl ht;refine⟨fl,Hs,l,p,ys,ts,rfl,s2 _ _ Tt,hp,hl,ht,G,λH3 D zs s3 h0 hD hz=>?_⟩;have L8:H3 s0=some (.ins C dx (cf "its_field" (.ref fl) [])):=s3 _ _ (s2 _ _ ae);refine⟨_,rfl,s0,C,dx,_,rfl,L8,c.cl,c.nT,(by show 1<1000;decide),?_⟩
   have nD:D≠s0:=λz=>by rw[z,L8] at hD;cases hD
   refine q _ D zs (λb u e nb=>?_) (none_of (λc u e=>e) (by
    cases e:H D with
    |none=>rfl
    |some u=>rw[s2 D u (by rw[aq nD];exact e)] at h0;cases h0)) ae (by rw[aq nD];exact hD) (bf.keep hz (aJ.upd λxs z=>by rw[L8] at z;cases z))
   rw[aq nb];exact s3 _ _ (s2 _ _ (by rw[aq nb];exact e))
  rcases hx with⟨rfl,rfl⟩|⟨l,ys,rfl,hl,ht⟩
  ·refine⟨_,rfl,_,rfl,_,rfl,fl,Hs,p,.non,rfl,Tt,hp,.inl ⟨rfl,λl hl=>?_⟩⟩;exact fin _ l [] (ai hl) ae .nil
  ·have nl:l≠s0:=λz=>by rw[z,hs] at hl;cases hl
   have Jo:upd H s0 (.ins C dx (cf "its_field" (.ref fl) [])) l=some (.lst ys):=by rw[aq nl];exact hl
   have Xz:=bf.keep ht kT;refine⟨_,rfl,_,rfl,_,rfl,fl,Hs,p,.ref l,rfl,Tt,hp,.inr ⟨l,ys,rfl,Jo,?_,xr Xz hG,λH2 s2=>?_⟩⟩
   ·rw[ht.length];have:=G.len;omega
   ·exact fin _ l ys s2 (s2 _ _ Jo) (bf.keep Xz (aJ.of s2))
end K66
namespace Mx
open PySem PyProof.Rows
def jY:Option Int->List Int->Option Int
 |b,[]=>b
 |none,n::ns=>jY (some n) ns
 |some m,n::ns=>jY (some (if n>m then n else m)) ns
def kept (c:Nat):Option (Int×Tok)->Obj
 |none=>{cls:=.type "list",dict:=none,data:=.seq #[] c,slots:=#[]}
 |some (m,t)=>{cls:=.type "list",dict:=none,data:=.seq #[.int m t,.int m t] c,slots:=#[]}
section
variable {prog:zr}{w:World}{A:Around}{E:yf}{s:CW}{R:Result->Shared->Prop}
theorem Aw {a b:Int}{t u:Tok}{Q:yf}(h:Q (.bool (decide (a>b))) s):wpAny (model prog w) A (richCompare .Gt (.int a t) (.int b u)) Q E s :=
 CmpOf.ints_gt (P:=λi v=>∃t,v=.int (if i=0 then a else b) t) (λi=>if i=0 then a else b) (λ{_ _} h=>h) 0 1 _ _ s Q E ⟨t,by simp⟩ ⟨u,by simp⟩ (by simpa using h)
theorem BX (a v:Value):argsOk "max" ⟨[a],[(Str.ofString "default",v)]⟩:=by unfold argsOk;kernel_rfl
theorem loop {I l S:Addr}{items:vd}{d:Value}(hh:A.handled=none)(K9:S≠I)(NZ:S≠l)(MV:l≠I):∀(ns:List Int)(i:Nat)(s:CW)(b:Option (Int×Tok))(c:Nat),
 s.heap.IsListIter I l i->s.heap.IsList l items->IntsAre (items.toList.drop i) ns->s.heap.get? S=some (kept c b) →
 (∀v h' tk,(match jY (b.map (·.1)) ns with|none=>v=d|some m=>∃t,v=.int m t)->(∀x o,x≠I->x≠S->s.heap.get? x=some o->h'.get? x=some o)->R (.ok (.ret v)) {s with heap:=h',toks:=tk}) →
 codeAny (model prog w) A (.builtin "max.loop" ⟨[.ref I,.none,.ref S],[(Str.ofString "default",d)]⟩) R s
 |[],i,s,b,c,hit,hl,hn,hS,hR=>by
  have hx:items[i]?=none:=by
   have e:items.toList.drop i=[]:=by cases hq:items.toList.drop i with
    |nil=>rfl
    |cons x r=>rw[hq] at hn;cases hn
   have:=List.drop_eq_nil_iff.mp e;simp at this |-;omega
  refine codeAny_builtin F.entry_max_loop ?_;rw[Around.under_plainId F.plain_max_loop _]
  cases b with
  |none =>
   show wpAny _ A.in1 (seqItems? (.ref S)>>=_) _ _ s;refine wpAny_bind (wpAny_seqItems hS rfl ?_);show wpAny _ A.in1 (tryCatch (pyNext (.ref I)) _>>=_) _ _ s;refine wpAny_bind (wpAny_tryCatch (wpAny_pyNext_list_end hh hit hl hx λh' eb=>?_));refine wpAny_bind (wpAny_rule (wpAny_pure ?_));exact hR d h' s.toks rfl λx o h1 _ e=>eb x o h1 e
  |some p =>
   obtain⟨m,t⟩:=p;show wpAny _ A.in1 (seqItems? (.ref S)>>=_) _ _ s;refine wpAny_bind (wpAny_seqItems hS rfl ?_);show wpAny _ A.in1 (tryCatch (pyNext (.ref I)) _>>=_) _ _ s;refine wpAny_bind (wpAny_tryCatch (wpAny_pyNext_list_end hh hit hl hx λh' eb=>?_));have JZ:=eb S _ K9 hS;show wpAny _ A.in1 (updateSeq S (λ_=>#[])>>=_) _ _ _;refine wpAny_bind (wpAny_updateSeq JZ rfl (wpAny_bind (wpAny_letGo (wpAny_pure ?_))));exact hR _ _ s.toks ⟨t,rfl⟩ λx o h1 h2 e=>(Heap.get?_update_other _ _ (Ne.symm h2)).trans (eb x o h1 e)
 |n::ns,i,s,b,c,hit,hl,hn,hS,hR=>by
  have Jc:(toString "max"++toString ".loop":String)="max.loop":=by decide
  obtain⟨t,hx,Nj⟩:∃t,items[i]?=some (.int n t)/\IntsAre (items.toList.drop (i+1)) ns:=by
   cases hq:items.toList.drop i with
   |nil=>rw[hq] at hn;cases hn
   |cons x r =>
    rw[hq] at hn
    cases hn with
    |cons _ t hr =>
     refine⟨t,?_,?_⟩
     ·have:(items.toList.drop i)[0]?=some (Value.int n t):=by rw[hq];rfl
      simpa using this
     ·have:items.toList.drop (i+1)=(items.toList.drop i).drop 1:=by rw[List.drop_drop,Nat.add_comm]
      rw[this,hq];exact hr
  refine codeAny_builtin F.entry_max_loop ?_;rw[Around.under_plainId F.plain_max_loop _]
  cases b with
  |none =>
   show wpAny _ A.in1 (seqItems? (.ref S)>>=_) _ _ s;refine wpAny_bind (wpAny_seqItems hS rfl ?_);show wpAny _ A.in1 (tryCatch (pyNext (.ref I)) _>>=_) _ _ s;refine wpAny_bind (wpAny_tryCatch (wpAny_pyNext_list_item hit hl hx λh' KG sb=>?_));have JZ:=(sb.2 S K9).trans hS;show wpAny _ A.in1 (updateSeq S (λ_=>#[.int n t,.int n t])>>=_) _ _ _;refine wpAny_bind (wpAny_updateSeq JZ rfl ?_);rw[Jc];refine wpAny_pure ⟨plainId_quiet F.plain_max_loop _,?_⟩;have up:∀x o,x≠S->h'.get? x=some o->(h'.update S (Obj.mapSeq λ_=>#[.int n t,.int n t])).get? x=some o:=λx o hx e=>(Heap.get?_update_other _ _ (Ne.symm hx)).trans e;refine loop hh K9 NZ MV ns (i+1) _ (some (n,t)) _ (KG.at λo e=>up I o (Ne.symm K9) e) ((hl.extBut sb.extBut MV).at λo e=>up l o (Ne.symm NZ) e) Nj (Heap.get?_update_self _ JZ rfl) λv h2 tk hv hk=>?_;exact hR v h2 tk hv λx o h1 h3 e=>hk x o h1 h3 (up x o h3 ((sb.2 x h1).trans e))
  |some p =>
   obtain⟨m,u⟩:=p;show wpAny _ A.in1 (seqItems? (.ref S)>>=_) _ _ s;refine wpAny_bind (wpAny_seqItems hS rfl ?_);show wpAny _ A.in1 (tryCatch (pyNext (.ref I)) _>>=_) _ _ s;refine wpAny_bind (wpAny_tryCatch (wpAny_pyNext_list_item hit hl hx λh' KG sb=>?_));have JZ:=(sb.2 S K9).trans hS;show wpAny _ A.in1 (tryCatch (holding [.int n t,.int n t] (richCompare .Gt (.int n t) (.int m u)>>=_)) _>>=_) _ _ _;refine wpAny_bind (wpAny_tryCatch (wpAny_holding (wpAny_bind (Aw ?_))));refine wpAny_bind (wpAny_holding (wpAny_truthy_bool ?_));refine wpAny_bind (wpAny_letGo (wpAny_pure ?_))
   by_cases hb:n>m
   ·simp only[decide_eq_true hb,if_true];refine wpAny_bind (wpAny_updateSeq JZ rfl (wpAny_bind (wpAny_letGo ?_)));rw[Jc];refine wpAny_pure ⟨plainId_quiet F.plain_max_loop _,?_⟩;have up:∀x o,x≠S->h'.get? x=some o->(h'.update S (Obj.mapSeq λ_=>#[.int n t,.int n t])).get? x=some o:=λx o hx e=>(Heap.get?_update_other _ _ (Ne.symm hx)).trans e;refine loop hh K9 NZ MV ns (i+1) _ (some (n,t)) _ (KG.at λo e=>up I o (Ne.symm K9) e) ((hl.extBut sb.extBut MV).at λo e=>up l o (Ne.symm NZ) e) Nj (Heap.get?_update_self _ JZ rfl) λv h2 tk hv hk=>?_;refine hR v h2 tk ?_ λx o h1 h3 e=>hk x o h1 h3 (up x o h3 ((sb.2 x h1).trans e));simpa only[Option.map_some,jY,if_pos hb] using hv
   ·simp only[decide_eq_false hb,Bool.false_eq_true,if_false];refine wpAny_bind (wpAny_letGo ?_);rw[Jc];refine wpAny_pure ⟨plainId_quiet F.plain_max_loop _,?_⟩;refine loop hh K9 NZ MV ns (i+1) _ (some (m,u)) c KG (hl.extBut sb.extBut MV) Nj JZ λv h2 tk hv hk=>?_;refine hR v h2 tk ?_ λx o h1 h3 e=>hk x o h1 h3 ((sb.2 x h1).trans e);simpa only[Option.map_some,jY,if_neg hb] using hv
theorem AM {id:String}{b:Builtin}{args:oN}{kw:List (Str×Value)}{Q:yf}(hk:builtinKind id=none)(hp:plainId id=true)(hb:entryFor table id=some b)(ha:argsOk id ⟨args,kw⟩)
 (hc:wpAny (model prog w) A.in1 (b ⟨args,kw⟩) (λfin s'=>match fin with
  | .done f=>(match (Except.ok f:Result) with| .ok (.ret v)=>Q v s'| .ok _=>False| .error e=>E e s')
  | .again c'=>c'.quiet=true/\codeAny (model prog w) A c' (λr s'=>match r with| .ok (.ret v)=>Q v s'| .ok _=>False| .error e=>E e s') s') E s):
 wpAny (model prog w) A (call (.builtin id) args kw) Q E s:=by
 refine wpAny_call (codeAny_call_builtin hp hb ?_);simp only[checkBuiltinCall,hk]
 cases Tu:Manifest.signature? id with
 |none=>exact wpAny_pure hc
 |some Bs =>
  have LY:Bind.checkArgs id Bs ⟨args,kw⟩=pure ():=by simpa only[argsOk,Tu] using ha
  simp only[LY];exact wpAny_pure hc
theorem BY {l:Addr}{items:vd}{ns:List Int}{d:Value}{Q:yf}(hh:A.handled=none)(hl:s.heap.IsList l items)(hn:IntsAre items.toList ns)
 (hQ:∀v h' tk,(match jY none ns with|none=>v=d|some m=>∃t,v=.int m t)->(∀x o,s.heap.get? x=some o->h'.get? x=some o)->Q v {s with heap:=h',toks:=tk}):
 wpAny (model prog w) A (call (.builtin "max") [.ref l] [(Str.ofString "default",d)]) Q E s:=by
 have Jc:(toString "max"++toString ".loop":String)="max.loop":=by decide
 refine AM F.kind_max F.plain_max F.entry_max (BX _ _) ?_;show wpAny _ A.in1 (Builtin.Builtins.bindParams "max" ["key","default"] 0 ⟨[],[(Str.ofString "default",d)]⟩>>=_) _ _ s;refine wpAny_bind (wpAny_of_eq (show Builtin.Builtins.bindParams "max" ["key","default"] 0 ⟨[],[(Str.ofString "default",d)]⟩=pure [none,some d] from rfl) ?_);refine wpAny_bind (wpAny_pure ?_);refine wpAny_bind (wpAny_pyIter_list hl ?_);refine wpAny_bind (wpAny_newObj_type ?_);rw[Jc]
 have lt:l<s.heap.objs.size:=by obtain⟨o,e,_⟩:=hl;exact Heap.lt_size e
 have sz:(s.heap.push {cls:=.type "list_iterator",data:=.fields #[.ref l,.int 0 0]}).objs.size=s.heap.objs.size+1:=Heap.size_push ..;have g2:∀x o,s.heap.get? x=some o->((s.heap.push {cls:=.type "list_iterator",data:=.fields #[.ref l,.int 0 0]}).push {cls:=.type "list",data:=.seq #[]}).get? x=some o:=λx o e=>Heap.get?_push_of_some _ (Heap.get?_push_of_some _ e);refine wpAny_pure ⟨plainId_quiet F.plain_max_loop _,loop (items:=items) hh ?_ ?_ (Nat.ne_of_lt lt) ns 0 _ none 0 ⟨_,Heap.get?_push_of_some _ (Heap.get?_push_size _ rfl),rfl,rfl⟩ (hl.at λo e=>g2 l o e) (by simpa using hn) (Heap.get?_push_size _ rfl) λv h' tk hv hk=>?_⟩
 ·show(s.heap.push _).objs.size≠s.heap.objs.size;rw[sz];exact Nat.succ_ne_self _
 ·show(s.heap.push _).objs.size≠l;rw[sz];exact Nat.ne_of_gt (Nat.lt_succ_of_lt lt)
 ·refine hQ v h' tk hv λx o e=>hk x o (Nat.ne_of_lt (Heap.lt_size e)) ?_ (g2 x o e);show x≠(s.heap.push _).objs.size;rw[sz];exact Nat.ne_of_lt (Nat.lt_succ_of_lt (Heap.lt_size e))
end
end Mx
namespace L2
open PySem PySem.Spec PyProof.Rows PySem.W
section
variable {X:Cx}{e d:Expr}{ta td:TE}{p kpos pos:Pos}
def Ea (K:Frag)(ta td:TE):TE:=λσ H Q=>bH ta CP σ H λvs H1=>bH td CP σ H1 λds H2=>∃(l:Addr)(ns:List Int)(dv:V),vs=[.ref l]/\ds=[dv]/\aO K H2 l (ns.map V.int)/\Q (match Mx.jY none ns with|none=>dv|some m=>.int m) H2
theorem AL (ha:PE X e ta)(hd:PE X d td)(hc:X.calm=true)(hg:Gl X "max")(hm:X.mg "max"=none)(hs:gm e=false:=by rfl):PE X (.Call (.Name "max" p) [e] [⟨some "default",d,kpos⟩] pos) (Ea X.K ta td):=by
 intro pins s σ H Q I h;refine wpAny_Call_Name_kw (dm I hg hm (by rfl) ?_ (by decide) (by decide));refine callWith_builtin_kwB (by rw[aU hs];rfl) rfl (evalArgs_kw2 rfl ?_ (aU hs));refine bu (ah ha ag hs pos pins s σ H _ I h) λus s1 z'=>?_;obtain⟨vs,H1,I1,r1,h1⟩:=z';refine bu (aat (nm:=some "default") (kpos:=kpos) hd aaT pos pins s1 σ H1 _ I1 h1) λws s2 z'=>?_;obtain⟨ds,H2,I2,r2,l,ns,dv,e1,e2,hl,q⟩:=z';subst e1 e2;obtain⟨u,rfl,ru⟩:=fE r1
 cases(show u=Value.ref l from ru)
 obtain⟨w',rfl,IA⟩:=fE r2;obtain⟨its,rv,pl,hz⟩:=I2.list hl;show wpAny _ X.A (call (.builtin "max") [.ref l] [(Str.ofString "default",w')]) _ _ s2;refine Mx.BY (I.ok.hd hc) pl.isList (by simpa using jc rv) λv h' tk hv hk=>?_;refine⟨_,H2,I2.kept (t':=tk) hk,?_,q⟩
 cases hb:Mx.jY none ns with
 |none=>rw[hb] at hv;cases hv;exact IA
 |some m=>rw[hb] at hv;obtain⟨t,rfl⟩:=hv;exact⟨t,rfl⟩
end
end L2
namespace K66
open PySem L2 PySem.W Nm Srt
abbrev uM:Stmt:=aN (aS 38) 5
abbrev uJ:Stmt:=aN (aS 38) 6
abbrev sj:Stmt:=aN (aS 38) 8
structure GX (C CF:Addr)(H:Hp)(s:Addr)(p:Int)(ts:List Tm):Prop where
 ex:∃dx fl Hs D zs,H s=some (.ins C dx (qr fl D))/\H fl=some (.ins CF Hs (cJ p))/\H D=some (.lst zs)/\bf H zs ts
def p7 (C CF:Addr):Sp:=λvs H Q _=>∃(s dx fl D:Addr),vs=[.ref s]/\H s=some (.ins C dx (qr fl D))/\Q (.ref fl) H
def iS (C CF:Addr):Sp:=λvs H Q _=>∃(s dx fl D:Addr)(zs:List V),vs=[.ref s]/\H s=some (.ins C dx (qr fl D))/\H D=some (.lst zs)/\∀l,H l=none->Q (.ref l) (upd H l (.lst zs))
theorem zv:yx ["self"] ["self"] (ak uM):=dJ (by decide +kernel)
theorem xZ:yx ["self"] ["self"] (ak uJ):=dJ (by decide +kernel)
variable {P:zr}{w:World}{K:PySem.W.Frag}{mg:vK}{base:Heap}
variable {f C:Addr}{fd:zI}
theorem vg {CF:Addr}(F:zA K "field" "Sum.field" uM f fd)(c:C0 K mg C):Ha P w K mg base (aV P w) 1 f fd ["self"] (p7 C CF):=by
 refine F.okN zv (λvs H Q E h=>?_) (λHn A outer s H vs Q E hr h=>?_)
 ·obtain⟨s,dx,fl,D,rfl,_⟩:=h;rfl
 ·obtain⟨s0,dx,fl,D,rfl,hs,q⟩:=h;exact⟨_,ao (aB (b7 (pv 0) rfl)),_,rfl,s0,C,dx,_,_,rfl,hs,c.cl,c.nF,rfl,q⟩
theorem vW {CF:Addr}(F:zA K "terms" "Sum.terms" uJ f fd)(c:C0 K mg C)(Hm:mg "list"=none):Ha P w K mg base (aV P w) 1 f fd ["self"] (iS C CF):=by
 refine F.okN xZ (λvs H Q E h=>?_) (λHn A outer s H vs Q E hr h=>?_)
 ·obtain⟨s,dx,fl,D,zs,rfl,_⟩:=h;rfl
 ·obtain⟨s0,dx,fl,D,zs,rfl,hs,hD,q⟩:=h;refine⟨_,ao (aB (bK c8 (by rfl) Hm (by rfl) (@ah _ _ _ _ _ (b7 (pv 0) rfl) ag rfl))),?_⟩;exact⟨_,rfl,s0,C,dx,_,_,rfl,hs,c.cl,c.nT,rfl,D,zs,rfl,.inl (aO.of hD),λl hl=>q l hl⟩
def iy (t:Tm):Int:=t.1.getLastD 0+1
def gP (ts:List Tm):Int:=(Mx.jY none ((ts.filter λt=>!t.1.isEmpty).map iy)).getD 0
def oA (C:Addr):Sp:=λvs H Q _=>∃(s dx fl D:Addr)(zs:List V)(ts:List Tm),vs=[.ref s]/\H s=some (.ins C dx (qr fl D))/\H D=some (.lst zs)/\bf H zs ts/\ts.length<4000/\(∀t∈ts,t.1.length<4000)/\∀H',aw H H'->Q (.int (gP ts)) H'
theorem z9:yx ["self"] ["self"] (ak sj):=dJ (by decide +kernel)
theorem Ay {ks:List Int}(h:ks≠[]):ng (ks.map V.int) (-1)=some (.int (ks.getLastD 0)):=by
 have hl:0<ks.length:=List.length_pos_iff.mpr h;unfold ng wB;rw[List.length_map,if_neg (by decide),if_pos (by omega)];show(ks.map V.int)[((-1:Int)+(ks.length:Int)).toNat]?=_
 have e:((-1:Int)+(ks.length:Int)).toNat=ks.length-1:=by omega
 rw[e,List.getElem?_map,List.getElem?_eq_getElem (by omega)]
 have g:ks.getLastD 0=ks[ks.length-1]'(by omega):=by
  rw[List.getLastD_eq_getLast?,List.getLast?_eq_getElem?,List.getElem?_eq_getElem (by omega)];rfl
 rw[g];rfl
theorem ya (F:zA K "reach" "Sum.reach" sj f fd)(c:C0 K mg C)(ID:mg "max"=none):Ha P w K mg base (aV P w) 1 f fd ["self"] (oA C):=by
 refine F.okN z9 (λvs H Q E h=>?_) (λHn A outer s H vs Q E hr h=>?_)
 ·obtain⟨s,dx,fl,D,zs,ts,rfl,_⟩:=h;rfl
 ·obtain⟨s0,dx,fl,D,zs,ts,rfl,hs,hD,hz,hl,Jk,q⟩:=h
  refine⟨_,ao (aB (AL (bF (g:=pY K 2 (eQ (bA 0) (eQ (bA 1) As))) (N:=["product","number"]) (nl:=2) (js:=[]) (osc:=ak sj) ⟨rfl,rfl,by decide +kernel,by decide +kernel,by decide +kernel,rfl,.nil,by decide +kernel⟩ rfl
   (bY (b7 (pv 0) rfl))
   (λC fp s H=>(fG (X:=gQ _ ["product","number"] _ C fp s H) rfl (bh (aG (X:=gQ _ ["product","number"] _ C fp s H) (i:=0) (by show(["product","number"]:Bg).Nodup;decide +kernel) rfl (Or.inl rfl) (Or.inr rfl)) (bh (aG (X:=gQ _ ["product","number"] _ C fp s H) (i:=1) (by show(["product","number"]:Bg).Nodup;decide +kernel) rfl (Or.inl rfl) (Or.inr rfl)) dC))))
   (λC fp s H=>iU (show PT _ _ (λσ H Q=>cw 0 σ H λx H'=>∃k,Dl K x H' k/\Q k H') from k9 (pv 0) (λ_=>rfl)))
   (λC fp s H=>(@aL _ _ _ _ _ _ _ _ cW (@bq _ _ _ _ _ _ _ (show Df _ (zM K) from bX) (pv 0) (uZ oO ar) (λ_ _=>rfl)) ar))) ar rfl (by rfl) ID)),?_⟩
  refine⟨_,rfl,s0,C,dx,_,_,rfl,hs,c.cl,c.nT,rfl,D,rfl,⟨zs,aO.of hD⟩,?_⟩;refine⟨λi m xs σ' H'=>m=zs.length-i/\i<=zs.length/\aw H H'/\xs=(((ts.take i).filter λt=>!t.1.isEmpty).map iy).map V.int/\∃o1 o2,σ'=[o1,o2],⟨zs.length,by simp,Nat.zero_le _,aw.refl _,rfl,none,none,rfl⟩,?_⟩;rintro i m xs σ' H' ⟨rfl,hi,sH,rfl,o1,o2,rfl⟩;have zl:=hz.length;have NR:=sH _ _ hD;refine⟨?_,?_⟩
  ·rw[List.length_map,List.length_map];exact Nat.lt_of_le_of_lt (List.length_filter_le _ _) (Nat.lt_of_le_of_lt (by simp;omega) (Nat.lt_trans hl (by decide)))
  by_cases Hx:i<zs.length
  ·refine .inr ⟨⟨zs,zs[i],aO.of NR,by simp[Hx]⟩,λy H2 hy=>?_⟩;obtain⟨rfl,hy⟩:=hy;obtain⟨t,et,tr⟩:=bt hz (hy zs (aO.of NR));obtain⟨a,pr,nu,rfl,ha,IT,Jp⟩:=tr.keep (aJ.of sH)
   have Jz:ts.take (i+1)=ts.take i++[t]:=by rw[List.take_add_one,et];rfl
   refine⟨a,_,rfl,bw.of ha,rfl,_,_,rfl,_,_,rfl,rfl,?_⟩;refine⟨_,rfl,!t.1.isEmpty,.inr (.inl ⟨_,bw.of IT,by simp⟩),?_⟩
   cases hb:t.1.isEmpty with
   |false =>
    have ne:t.1≠[]:=by intro z;rw[z] at hb;cases hb
    refine aZ ⟨_,rfl,_,rfl,pr,_,-1,_,rfl,rfl,bw.of IT,Ay ne,_,_,rfl,rfl,zs.length-(i+1),by omega,rfl,Hx,sH,?_,_,_,rfl⟩;rw[Jz,List.filter_append];simp[hb,iy]
   |true =>
    refine a9 ⟨zs.length-(i+1),by omega,rfl,Hx,sH,?_,_,_,rfl⟩;rw[Jz,List.filter_append];simp[hb]
  ·have ei:i=zs.length:=by omega
   subst ei;refine .inl ⟨⟨zs,aO.of NR,Nat.le_refl _⟩,λL hL=>?_⟩;rw[zl,List.take_length];refine⟨L,_,.int 0,rfl,rfl,aO.of ae,?_⟩;have q':=q _ (λb u z=>by rw[aq (au (sH _ _ z) hL)];exact sH _ _ z:aw H (upd H' L (.lst (((ts.filter λt=>!t.1.isEmpty).map iy).map V.int))));unfold gP at q';show Q _ (upd H' L (.lst (((ts.filter λt=>!t.1.isEmpty).map iy).map V.int)));generalize upd H' L (.lst (((ts.filter λt=>!t.1.isEmpty).map iy).map V.int))=H9 at q' |-;generalize Mx.jY none ((ts.filter λt=>!t.1.isEmpty).map iy)=ob at q' |-
   cases ob <;> exact q'
abbrev Dv:Stmt:=(aS 57)
theorem Bv:yx ["_law_pool_here","_law_prime_here","_law_places","_law_many","_law_most","_law_rows"] F7 (ak Dv):=dJ (by decide +kernel)
theorem ur:∀{ks:List Int},ks.Pairwise (· < ·)->jX (ks.map V.int)=true
 |[],_=>rfl
 |[k],_=>rfl
 |a::b::ks,h=>by
  obtain⟨h1,h2⟩:=List.pairwise_cons.mp h;have ih:=ur h2;unfold jX at ih |-;have e:((a::b::ks).map V.int).zip (((a::b::ks).map V.int).drop 1)=(V.int a,V.int b):: (((b::ks).map V.int).zip (((b::ks).map V.int).drop 1)):=rfl;rw[e,List.all_cons,ih,Bool.and_true];exact decide_eq_true (h1 b List.mem_cons_self)
theorem CJ {ks:List Int}(h:ks.Pairwise (· < ·))(hb:∀k∈ks,0<=k/\k<60)(hl:ks.length<4000):DB ks:=by
 refine⟨?_,hl⟩;show((ks.map V.int).all br&&jX (ks.map V.int))=true;rw[ur h,Bool.and_true,List.all_map,List.all_eq_true];intro k hk;obtain⟨h0,h1⟩:=hb k hk;show(decide (0<=k)&&decide (k<60))=true;rw[decide_eq_true h0,decide_eq_true h1];rfl
theorem fU (d:List Tm):(bo d).Perm (d.filter λe=>e.2.1 != 0):=by
 have z:=(dA ((d.filter λe=>e.2.1 != 0).map λe=>(keyOf e,e))).map (·.2);rw[List.map_map] at z;have e:(λx:Ky×Tm=>x.2) ∘ (λe:Tm=>(keyOf e,e))=id:=rfl;rw[e,List.map_id] at z;exact z
variable {d:List Tm}
theorem gO {e:Tm}(h:e∈bo d):e∈d:=(List.mem_filter.mp ((fU d).mem_iff.mp h)).1
theorem jo (d:List Tm):(bo d).length<=d.length:=by
 rw[(fU d).length_eq];exact List.length_filter_le _ _
variable {p:Int}
theorem yA {t e:Tm}(h:e∈gb p d t):(∃x∈d,e.1=x.1)\/e.1=t.1:=by
 unfold gb at h
 split at h
 ·obtain⟨x,hx,rfl⟩:=List.mem_map.mp h;refine .inl ⟨x,hx,?_⟩
  split <;> rfl
 ·rcases List.mem_append.mp h with h|h
  ·exact .inl ⟨e,h,rfl⟩
  ·have:e=t:=by simpa using h
   exact .inr (by rw[this])
theorem qA :∀(ts d:List Tm)(e:Tm),e∈ts.foldl (gb p) d->(∃x∈d,e.1=x.1)\/∃x∈ts,e.1=x.1
 |[],d,e,h=>.inl ⟨e,h,rfl⟩
 |t::ts,d,e,h=>by
  rcases qA ts (gb p d t) e h with⟨x,hx,ex⟩|⟨x,hx,ex⟩
  ·rcases yA hx with⟨y,hy,ey⟩|ey
   ·exact .inl ⟨y,hy,ex.trans ey⟩
   ·exact .inr ⟨t,List.mem_cons_self,ex.trans ey⟩
  ·exact .inr ⟨x,List.mem_cons_of_mem _ hx,ex⟩
variable {ts:List Tm}
theorem vk {t:Tm}(h:t∈bo (Hc p ts)):∃x∈ts,t.1=x.1:=by
 rcases qA ts [] t (gO h) with⟨x,hx,_⟩|h
 ·exact nomatch hx
 ·exact h
theorem n9:∀(ns:List Int)(b:Int),∃m,Mx.jY (some b) ns=some m/\(m=b\/m∈ns)
 |[],b=>⟨b,rfl,.inl rfl⟩
 |n::ns,b=>by
  obtain⟨m,e,h1⟩:=n9 ns (if n>b then n else b);refine⟨m,e,?_⟩
  rcases h1 with h1|h1
  ·by_cases h:n>b
   ·rw[if_pos h] at h1;exact .inr (by rw[h1];exact .head _)
   ·rw[if_neg h] at h1;exact .inl h1
  ·exact .inr (.tail _ h1)
theorem p8 {many:Int}(hm:0<=many)(h:∀t∈ts,∀k∈t.1,k<many):gP ts<=many:=by
 unfold gP
 have hl:∀a∈(ts.filter λt=>!t.1.isEmpty).map iy,a<=many:=by
  intro a ha;obtain⟨t,ht,rfl⟩:=List.mem_map.mp ha;obtain⟨h1,h2⟩:=List.mem_filter.mp ht
  have ne:t.1≠[]:=by intro z;rw[z] at h2;cases h2
  unfold iy;have:=h t h1 (t.1.getLastD 0) (by rw[List.getLastD_eq_getLast?,List.getLast?_eq_some_getLast ne];exact List.getLast_mem ne);omega
 cases e:(ts.filter λt=>!t.1.isEmpty).map iy with
 |nil=>exact hm
 |cons b ns =>
  rw[e] at hl;obtain⟨m,em,h1⟩:=n9 ns b;have e':Mx.jY none (b::ns)=some m:=em;rw[e'];show m<=many
  rcases h1 with h1|h1
  ·rw[h1];exact hl b (.head _)
  ·exact hl m (.tail _ h1)
def zC (m:Nat)(p n:Int)(t:Tm):Prop:=Gn p m t.2/\t.1.Pairwise (· < ·)/\(∀k∈t.1,0<=k/\k<n)/\t.1.length<=3
variable {m:Nat}{n:Int}
theorem zC.mono {m':Nat}{t:Tm}(h:zC m p n t)(k:m<=m'):zC m' p n t:=⟨⟨h.1.1,h.1.2.1.mono k,h.1.2.2.mono k⟩,h.2⟩
structure Wi (m l:Nat)(p n:Int)(ts:List Tm):Prop where
 nd:(ts.map (·.1)).Nodup
 tm:∀t∈ts,zC m p n t
 len:ts.length<=l
variable {l:Nat}
theorem Wi.mono {m' l':Nat}(h:Wi m l p n ts)(k:m<=m')(j:l<=l'):Wi m' l' p n ts:=⟨h.nd,λt ht=>(h.tm t ht).mono k,Nat.le_trans h.len j⟩
theorem zJ (hp:FP p)(h:∀t∈ts,zC m p n t)(hl:ts.length<=l):Wi ((m+1)*l+7) l p n (bo (Hc p ts)):=by
 obtain⟨g1,g2,g3⟩:=dk (m:=m) hp ts.length ts rfl λt ht=>(h t ht).1;refine⟨?_,λt ht=>?_,Nat.le_trans (jo _) (Nat.le_trans g3 hl)⟩
 ·exact((fU _).map (·.1)).nodup_iff.mpr (g2.sublist (List.filter_sublist.map _))
 ·obtain⟨x,hx,ex⟩:=vk ht;obtain⟨n1,n2,n3⟩:=g1 t (gO ht);have le:(m+1)*ts.length+7<=(m+1)*l+7:=Nat.add_le_add_right (Nat.mul_le_mul_left _ hl) _;obtain⟨_,h2,h3,h4⟩:=h x hx;exact⟨⟨n1,n2.mono le,n3.mono le⟩,by rw[ex];exact⟨h2,h3,h4⟩⟩
theorem pG :∀(ts d:List Tm),((d++ts).map (·.1)).Nodup->ts.foldl (gb p) d=d++ts
 |[],d,_=>(List.append_nil d).symm
 |t::ts,d,h=>by
  have e:gb p d t=d++[t]:=by
   unfold gb;rw[if_neg];intro z;obtain⟨x,hx,ex⟩:=List.any_eq_true.mp z;have ex:x.1=t.1:=of_decide_eq_true ex;rw[List.map_append,List.nodup_append] at h;exact h.2.2 x.1 (List.mem_map_of_mem (f:=(·.1)) hx) t.1 (by simp) ex
  show ts.foldl (gb p) (gb p d t)=_;rw[e,pG ts (d++[t]) (by simpa using h),List.append_assoc];rfl
theorem Wi.Hc (h:Wi m l p n ts):Hc p ts=ts:=pG ts [] h.nd
theorem Wi.gth {m l:Nat}{n:Int}(h:Wi m l p n ts)(hm:m<=4000)(hl:l<64):Fz p ts:=by
 have len:=h.len;refine⟨by omega,λt ht=>((h.tm t ht).mono hm).1,λi hi=>?_,?_⟩
 ·have nd:((ts.take i).map (·.1)).Nodup:=h.nd.sublist ((List.take_sublist i ts).map _);have e:K66.Hc p (ts.take i)=ts.take i:=pG _ [] nd;rw[e];exact λt ht=>((h.tm t (List.mem_of_mem_take ht)).mono hm).1
 ·rw[h.Hc];exact Nat.lt_of_le_of_lt (List.length_filter_le _ _) (by omega)
theorem Wi.prd (h:Wi m l p n ts)(hn:n<=60):∀t∈ts,DB t.1:=λt ht=>by
 obtain⟨_,h2,h3,h4⟩:=h.tm t ht;exact CJ h2 (λk hk=>⟨(h3 k hk).1,by have:=(h3 k hk).2;omega⟩) (by omega)
variable {H H':Hp}
theorem aR.abb {r:Addr}(h:aR H r)(s:SameBut r H H'):aJ H H':=λb xs e=>s b _ e λz=>by
 obtain⟨l,x,e',_⟩:=h;rw[z,e'] at e
 cases e
theorem aR.same {r:Addr}(h:aR H r)(s:aw H H'):aR H' r:=let⟨l,x,e,z⟩:=h;⟨l,x,s _ _ e,z⟩
theorem ue (nd:(d.map (·.1)).Nodup):((bo d).map (·.1)).Nodup:=by
 refine((fU d).map (·.1)).nodup_iff.mpr ?_;exact List.Nodup.sublist (List.Sublist.map _ List.filter_sublist) nd
theorem uo (nd:(ts.map (·.1)).Nodup):((ts.map λe=>(keyOf e,e)).map (·.1)).Nodup:=by
 rw[List.map_map];have e:((λx:Ky×Tm=>x.1) ∘ λe:Tm=>(keyOf e,e))=keyOf:=rfl;rw[e];unfold List.Nodup at nd |-;rw[List.pairwise_map] at nd |-;refine nd.imp λh z=>h ?_;unfold keyOf at z;injection z
theorem jq (nd:(d.map (·.1)).Nodup):bo (bo d)=bo d:=by
 have nf:((d.filter λe=>e.2.1 != 0).map (·.1)).Nodup:=List.Nodup.sublist (List.Sublist.map _ List.filter_sublist) nd;have up:=lu (uo nf)
 have e:(bo d).map (λe=>(keyOf e,e))=di ((d.filter λe=>e.2.1 != 0).map λe=>(keyOf e,e)):=by
  unfold bo;rw[List.map_map]
  have:∀x∈di ((d.filter λe=>e.2.1 != 0).map λe=>(keyOf e,e)),((λe:Tm=>(keyOf e,e)) ∘ λx:Ky×Tm=>x.2) x=x:=λx hx=>by
   have m:=(dA _).mem_iff.mp hx;obtain⟨t,_,rfl⟩:=List.mem_map.mp m;rfl
  rw[List.map_congr_left this,List.map_id']
 have ef:(bo d).filter (λe=>e.2.1 != 0)=bo d:=List.filter_eq_self.mpr λt ht=>(List.mem_filter.mp ((fU d).mem_iff.mp ht)).2
 have e2:di ((bo d).map λe=>(keyOf e,e))=(bo d).map λe=>(keyOf e,e):=by
  rw[<-e] at up;exact(qc (uo (ue nd)) up (List.Perm.refl _)).symm
 show(di (((bo d).filter λe=>e.2.1 != 0).map λe=>(keyOf e,e))).map (·.2)=bo d;rw[ef,e2,List.map_map];exact List.map_id _
def Ee:Sp:=λvs H Q _=>∃(r:Addr)(p n many most:Int),vs=[.ref r,.int p,.int n,.int many,.int most]/\aR H r/\FP p/\0<n/\n<=60/\0<=many/\many<=4/\0<=most/\most<=3 /\
 ∀(D:Addr)(ys:List V)(ts:List Tm)(H':Hp),H D=none->H' D=some (.lst ys)->bf H' ys ts->Wi 191 4 p n ts->bo ts=ts->aR H' r->SameBut r H H'->Q (.ref D) H'
theorem CY {ft fp fn fg:Addr}{HR IC N0 IY:zI}(F:zA K "_law_terms" "_law_terms" Dv f fd)(Hl:mg "range"=none)
 (Ip:Ha P w K mg base (aV P w) 1 ft HR qT v8)(Iq:L2.aA K HR qT [])(Ir:mg "_law_take"=some (.ref ft))(Iu:keepIn K (.ref ft)=true)
 (FPr:Ha P w K mg base (aV P w) 3 fp IC EE i5)(bPr:L2.aA K IC EE [])(mPr:mg "_law_product"=some (.ref fp))(kPr:keepIn K (.ref fp)=true)
 (FNm:Ha P w K mg base (aV P w) 3 fn N0 qh rh)(bNm:L2.aA K N0 qh [])(mNm:mg "_law_number"=some (.ref fn))(kNm:keepIn K (.ref fn)=true)
 (FG:Ha P w K mg base (aV P w) 4 fg IY vI me)(bG:L2.aA K IY vI [])(mG:mg "_law_gathered"=some (.ref fg))(kG:keepIn K (.ref fg)=true):
 Ha P w K mg base (aV P w) 5 f fd F7 Ee:=by
 refine F.okN Bv (λvs H Q E h=>?_) (λHn A outer s H vs Q E hr h=>?_)
 ·obtain⟨r,p,n,many,most,rfl,_⟩:=h;rfl
 ·obtain⟨r,p,n,many,most,rfl,⟨l,x,hR,x0,x1⟩,hp,n0,I8,m0,m4,o0,o3,q⟩:=h;have JM:qL 4 _:=hr;have IQ:qL 3 _:=JM.mono (by decide);have Hu:qL 1 _:=JM.mono (by decide)
  refine⟨_,(aj (oR (i:=5) (N:=["_law_k","_law_pool_here","_law_prime_here","_law_places","_law_most"]) (nl:=1) (js:=[0,1,2,4]) (osc:=ak Dv) ⟨rfl,rfl,by decide +kernel,by decide +kernel,by decide +kernel,rfl,(.cons ⟨rfl,by decide +kernel⟩ (.cons ⟨rfl,by decide +kernel⟩ (.cons ⟨rfl,by decide +kernel⟩ (.cons ⟨rfl,by decide +kernel⟩ .nil)))),by decide +kernel⟩ rfl Bv.nd rfl (Or.inl rfl)
   (dj (by rfl) Hl (@ah _ _ _ _ _ (av Ip Hu (by rfl) Ir Iu Iq .nil af (@ah _ _ _ _ _ (pv 0) (@ah _ _ _ _ _ (@aL _ _ _ _ _ _ _ _ cW (pv 3) ar) ag rfl) rfl)) ag rfl))
   (λCq fq sq Hq=>aG (i:=0) (by show(["_law_k","_law_pool_here","_law_prime_here","_law_places","_law_most"]:Bg).Nodup;decide +kernel) rfl (Or.inl rfl) (Or.inr rfl))
   (λCq fq sq Hq=>bZ)
   (λCq fq sq Hq=>(@dw _ _ _ _ _ (@ah _ _ _ _ _ (av FPr IQ (by rfl) mPr kPr bPr .nil af (@ah _ _ _ _ _ (pv 1) (@ah _ _ _ _ _ (pv 3) (@ah _ _ _ _ _ (pv 4) ag rfl) rfl) rfl)) (@ah _ _ _ _ _ (av FNm IQ (by rfl) mNm kNm bNm .nil af (@ah _ _ _ _ _ (pv 1) (@ah _ _ _ _ _ (pv 2) ag rfl) rfl)) ag rfl) rfl))) (by rfl))
   (ao (aB (av FG JM (by rfl) mG kG bG .nil af (@ah _ _ _ _ _ (pv 1) (@ah _ _ _ _ _ (pv 5) ag rfl) rfl))))),?_⟩
  refine⟨_,rfl,_,rfl,_,_,rfl,rfl,r,l,x,many+1,rfl,hR,x0,x1,by omega,by omega,λz l2 r2 z0 z1 g0 g1=>?_⟩;have R2:aR (upd H r (.lst [.int l2,.int r2])) r:=⟨l2,r2,ae,g0,g1⟩;have Ih:SameBut r H (upd H r (.lst [.int l2,.int r2])):=SameBut.upd;generalize upd H r (.lst [.int l2,.int r2])=H2 at R2 Ih |-;refine⟨z,rfl,by omega,by omega,?_⟩;refine qO (lo:=0) (n:=z.toNat) (rest:=[some (.ref r),some (.int p),some (.int n),some (.int most)]) (λi us H'=>aR H' r/\SameBut r H H'/\∃ts,bf H' us ts/\(∀t∈ts,zC 45 p n t)/\ts.length=i) ⟨R2,Ih,[],.nil,λt ht=>(nomatch ht),rfl⟩ (λi us H' hi h=>?_) (λi us H' M hi h hM=>?_) (λus H' h=>?_)
  ·obtain⟨_,_,ts,h1,_,h3⟩:=h;rw[h1.length,h3];exact Nat.lt_of_le_of_lt (by omega:i<=5) (by decide)
  ·obtain⟨R3,IL,ts,ht,tg,tl⟩:=h;refine mD ⟨_,rfl,_,rfl,_,rfl,r,n,most,rfl,R3,n0,I8,o0,by omega,λa ks H4 pw pl kl ha R4 Jh=>?_⟩;refine⟨_,rfl,_,rfl,r,p,rfl,hp,R4,λan t b H5 hn B1 B2 hb R5 Jx=>?_⟩;refine⟨nj,λT hT=>hM _ _ ?_⟩;have sU:=ai (o:=.tup [.ref a,.ref an]) hT;have k4:=R3.abb Jh;have k5:=R4.abb Jx;refine⟨R5.same sU,IL.trans (Jh.trans (Jx.trans (SameBut.of sU))),ts++[(ks,t,b)],Paired.snoc (bf.keep ht (k4.trans (k5.trans (aJ.of sU)))) ⟨T,a,an,rfl,ae,sU _ _ (k5 _ _ ha),sU _ _ hb⟩,λu hu=>?_,by rw[List.length_append,tl];rfl⟩
   rcases List.mem_append.mp hu with h|h
   ·exact tg u h
   ·have:u=(ks,t,b):=by simpa using h
    subst this;exact⟨⟨hn,B1,B2⟩,pw,pl,by show ks.length<=3;omega⟩
  ·obtain⟨R3,IL,ts,ht,tg,tl⟩:=h;intro L hL;have sL:=ai (o:=.lst us) hL
   have tl4:ts.length<=4:=by omega
   refine⟨_,rfl,_,rfl,L,p,us,ts,rfl,hp,ae,bf.keep ht (aJ.of sL),Fz.of hp (m:=45) (by omega) (λt ht=>(tg t ht).1) (by omega) (by decide),λH6 D zs s6 hD e6 h6=>?_⟩;have s7:=sL.trans s6
   have Jy:D≠r:=by
    obtain⟨l9,r9,e9,_⟩:=R3.same sL;exact(au e9 hD).symm
   have MW:H D=none:=by
    cases e:H D with
    |none=>rfl
    |some u=>rw[sL _ _ (IL _ _ e Jy)] at hD;cases hD
   exact q D zs _ H6 MW e6 h6 (zJ hp tg tl4) (jq (dk (m:=45) hp ts.length ts rfl λt ht=>(tg t ht).1).2.1) (R3.same s7) (IL.trans (SameBut.of s7))
abbrev za:Stmt:=(aS 39)
theorem A7 (p:Int):Fz p []:=Wi.gth (m:=45) (l:=1) (n:=1) ⟨List.nodup_nil,λt ht=>(nomatch ht),Nat.zero_le _⟩ (by decide) (by decide)
def sO (C CF:Addr)(H0 H:Hp)(s:Addr)(p:Int)(ts:List Tm):Prop:=∃dx fl Hs D zs,H s=some (.ins C dx (qr fl D))/\H fl=some (.ins CF Hs (cJ p))/\H D=some (.lst zs)/\bf H zs ts/\H0 D=none
variable {CF:Addr}
theorem sO.r {H0:Hp}{s:Addr}(h:sO C CF H0 H s p ts):GX C CF H s p ts:=let⟨dx,fl,Hs,D,zs,h1,h2,h3,h4,_⟩:=h;⟨dx,fl,Hs,D,zs,h1,h2,h3,h4⟩
theorem BA {a:Addr}(s:aw H H')(h:H' a=none):H a=none:=by
 cases z:H a with
 |none=>rfl
 |some o=>rw[s _ _ z] at h;cases h
theorem sO.of {H0 H1:Hp}{s:Addr}(h:sO C CF H1 H s p ts)(k:aw H0 H1):sO C CF H0 H s p ts:=let⟨dx,fl,Hs,D,zs,h1,h2,h3,h4,h5⟩:=h;⟨dx,fl,Hs,D,zs,h1,h2,h3,h4,BA k h5⟩
def uT (C CF:Addr):Sp:=λvs H Q _=>∃(fl Hs l:Addr)(p:Int)(ys:List V)(ts:List Tm),vs=[.ref fl,.ref l]/\H fl=some (.ins CF Hs (cJ p))/\FP p/\H l=some (.lst ys)/\bf H ys ts/\Fz p ts/\∀H' s,aw H H'->sO C CF H H' s p (bo (Hc p ts))->Q (.ref s) H'
theorem tK:yx ["field","terms","one"] FQ (ak za):=dJ (by decide +kernel)
theorem wU {fg fI:Addr}{IY XA:zI}(F:zA K "built" "built" za f fd)(c:C0 K mg C)(M:Mk K C fI)
 (FI:Ha P w K mg base (aV P w) 6 fI XA we (i4 C CF))(bI:L2.aA K XA we [Value.none])
 (FG:Ha P w K mg base (aV P w) 5 fg IY FQ (pK CF))(bG:L2.aA K IY FQ [])(mG:mg "gathered"=some (.ref fg))(kG:keepIn K (.ref fg)=true):
 Ha P w K mg base (aV P w) 8 f fd FQ (uT C CF):=by
 refine F.okN tK (λvs H Q E h=>?_) (λHn A outer s H vs Q E hr h=>?_)
 ·obtain⟨fl,Hs,l,p,ys,ts,rfl,_⟩:=h;rfl
 ·obtain⟨fl,Hs,l,p,ys,ts,rfl,hf,hp,hl,ht,G,q⟩:=h;have Iv:qL 5 _:=hr.mono (by decide)
  refine⟨_,aj (@aM _ _ 2 _ _ _ _ tK.nd rfl (Or.inl rfl) (fX (dvs:=[.non]) M FI hr (by rfl) c.mgC bI (.cons rfl .nil) af (@ah _ _ _ _ _ (pv 0) ag rfl)) rfl (Or.inl rfl))
   (aj (gJ (pv 2) (av FG Iv (by rfl) mG kG bG .nil af (@ah _ _ _ _ _ (pv 0) (@ah _ _ _ _ _ (pv 1) ag rfl) rfl)) rfl)
   (ao (aB (pv 2)))),?_⟩
  refine⟨_,rfl,λx dx hx hdx ne=>?_⟩
  have s0:∀b u,H b=some u->upd (upd H dx (.own x)) x (.ins C dx []) b=some u:=λb u e=>by
   rw[aq (au e hx),aq (au e hdx)];exact e
  refine⟨x,dx,fl,Hs,p,.non,[],rfl,ae,s0 _ _ hf,hp,.inl ⟨rfl,rfl⟩,A7 p,(λt ht=>nomatch ht),λH1 D0 zs0 sb _ N5 MW hz0=>⟨rfl,?_⟩⟩;have s1:aw H H1:=λb u e=>sb _ _ (s0 _ _ e) (au e hx);refine⟨_,rfl,_,rfl,fl,Hs,l,p,ys,ts,rfl,s1 _ _ hf,hp,s1 _ _ hl,bf.keep ht (aJ.of s1),G,λH2 D zs s2 nD0 hD hz=>?_⟩;have JN:=s2 _ _ N5;refine⟨_,rfl,x,C,dx,_,rfl,JN,c.cl,c.nT,(by show 2<1000;decide),?_⟩
  have nD:D≠x:=λz=>by rw[z,JN] at hD;cases hD
  have s3:aw H (upd H2 x (.ins C dx (cf "its_terms" (.ref D) (cf "its_terms" (.ref D0) (cf "its_field" (.ref fl) []))))):=λb u e=>by
   rw[aq (au e hx)];exact s2 _ _ (s1 _ _ e)
  exact⟨_,rfl,q _ x s3 ⟨dx,fl,Hs,D,zs,ae,s3 _ _ hf,by rw[aq nD];exact hD,bf.keep hz (aJ.upd λxs z=>by rw[JN] at z;cases z),BA s1 nD0⟩⟩
end K66
namespace L2
open PySem PySem.Spec PyProof.Rows PySem.W
section
variable {X:Cx}
def cg:Int->Nat->List Int
 |_,0=>[]
 |i,n+1=>i::cg (i+1) n
theorem jj:∀(n:Nat)(i:Int),(cg i n).length=n
 |0,_=>rfl
 |n+1,i=>by show(cg (i+1) n).length+1=n+1;rw[jj n]
theorem lV:∀(n:Nat)(i x:Int),x∈cg i n->i<=x/\x<i+n
 |0,i,x,h=>nomatch h
 |n+1,i,x,h=>by
  rcases List.mem_cons.mp h with rfl|h
  ·omega
  ·have:=lV n (i+1) x h;omega
theorem pI:∀(n:Nat)(i:Int),(cg i n).Pairwise (· < ·)
 |0,_=>.nil
 |n+1,i=>List.pairwise_cons.mpr ⟨λx hx=>by have:=lV n (i+1) x hx;omega,pI n (i+1)⟩
theorem qP:∀(us:oN)(i:Int),(∀(j:Nat)(v:Value),us[j]?=some v->∃t,v=Value.int (i+(j:Nat)) t)->aK ((cg i us.length).map V.int) us
 |[],_,_=>.nil
 |u::us,i,h=>by
  obtain⟨t,e⟩:=h 0 u rfl;refine .cons ⟨t,by rw[e];simp⟩ (qP us (i+1) λj v hv=>?_);obtain⟨t,e⟩:=h (j+1) v (by simpa using hv);refine⟨t,?_⟩;rw[e];congr 1;omega
end
end L2
namespace K66
open PySem L2 PySem.W Nm Srt
structure GW (K:Frag)(mg:vK)(C:Addr):Prop where
 c:C0 K mg C
 isC:((clsIn K C).isSome&&typeIn K (.ref C)==some (.type "type"))=true
 ca:findIn K (.ref C) "__class__"=some (some (.builtin "object.__class__"))
 sp:specialIn K (.builtin "object.__class__") "__get__"=some (some (.builtin "getset_descriptor.__get__"))
 tk:takesIn K (.builtin "object.__class__")=some true
 ob:mroIn K C (.type "object")=some true
variable {K:Frag}{mg:vK}{C:Addr}{H:Hp}
theorem GW.ty (c:GW K mg C){p dx:Addr}{fs:List (Str×V)}(e:H p=some (.ins C dx fs)):EW K H (.ref p) (.ref C):=.of (.ins e c.c.cl c.ca c.sp c.tk c.ob)
theorem GW.is (c:GW K mg C):kitOne K (.ref C) (.ref C)=some true:=by
 unfold kitOne;rw[if_pos (by simp)]
theorem GW.no (c:GW K mg C){x:V}{T:String}(h:Th H x T):kitOne K (.type T) (.ref C)=some false:=by
 show(if(Value.type T==Value.ref C)=true then some true else(if((clsIn K C).isSome&&typeIn K (.ref C)==some (.type "type"))=true then subIn K (.type T) (.ref C) else none))=some false;rw[if_neg (by intro z;cases beq_iff_eq.mp z),if_pos c.isC]
 cases h <;> rfl
theorem AD :notFirst K C (.ref C)=true:=by unfold notFirst;simp
def j8 (t:Tm):D:=.tup [.tup (t.1.map D.int),.tup [.int t.2.1,.int t.2.2]]
theorem BC :∀ns:List Int,aI K H (ns.map D.int) (ns.map V.int)
 |[]=>by unfold aI;rfl
 |n::ns=>by
  show aI K H (.int n::ns.map D.int) (.int n::ns.map V.int);unfold aI;exact⟨_,_,rfl,(by unfold aC;rfl),BC ns⟩
theorem Ed:∀ns:List Int,cL (ns.map D.int)=0
 |[]=>by simp[cL]
 |n::ns=>by rw[List.map_cons];unfold cL;rw[Ed ns];simp[dM]
theorem Ac {y:V}{t:Tm}(h:DC H y t):aC K H (j8 t) y:=by
 obtain⟨a,pr,nu,rfl,ha,IT,Jp⟩:=h;unfold j8 aC;refine⟨a,_,rfl,bw.of ha,?_⟩;unfold aI;refine⟨_,_,rfl,(by unfold aC;exact⟨pr,_,rfl,bw.of IT,BC _⟩),?_⟩;unfold aI;refine⟨_,_,rfl,Fd Jp,?_⟩;unfold aI;rfl
theorem jf :∀{ys:List V}{ts:List Tm},bf H ys ts->aI K H (ts.map j8) ys
 |_,_,.nil=>by unfold aI;rfl
 |_,_,.cons (b:=t) h r=>by
  show aI K H (j8 t::_) _;unfold aI;exact⟨_,_,rfl,Ac h,jf r⟩
theorem jm:∀ts:List Tm,cL (ts.map j8)<=2
 |[]=>by unfold cL;decide
 |t::ts=>by
  show cL (j8 t::ts.map j8)<=2;unfold cL;have:=jm ts
  have h:dM (j8 t)=2:=by
   unfold j8 dM cL cL cL;rw[Fy,show dM (.tup (t.1.map D.int))=1 from by unfold dM;rw[Ed]];rfl
  omega
theorem GX.same {CF:Addr}{H':Hp}{s:Addr}{p:Int}{ts:List Tm}(h:GX C CF H s p ts)(k:aw H H'):GX C CF H' s p ts:=by
 obtain⟨dx,fl,Hs,D,zs,h1,h2,h3,h4⟩:=h.ex;exact⟨dx,fl,Hs,D,zs,k _ _ h1,k _ _ h2,k _ _ h3,bf.keep h4 (aJ.of k)⟩
end K66
namespace L2
open PySem PySem.Spec PyProof.Rows PySem.W
def wz (H:Hp)(a:Addr):Hp:=λb=>if b=a then none else H b
theorem ky (H:Hp)(a:Addr):wz H a a=none:=if_pos rfl
theorem gU {H:Hp}{a b:Addr}(h:b≠a):wz H a b=H b:=if_neg h
section
variable {P:zr}{w:World}{K:PySem.W.Frag}{mg:vK}{base:Heap}{N:Bg}{qual:Str}{scope:Scope}{f:Addr}{cd:Value}{A:Around}{outer:List Env}{s:CW}{H:Hp}{E:XK}
theorem dH:∀(pins:List (Addr×Obj))(σ:St)(H1:Hp)(s1:CW)(a C dx:Addr),Inv (fZ (aV P w) P w K mg base N qual scope f cd A outer s H E) pins σ H1 s1->H1 a=some (gw a (.ref C) dx true) →
 (H a=none/\E (.ref C) (some dx) (wz H1 a))->(fZ (aV P w) P w K mg base N qual scope f cd A outer s H E).xe (.ref a) s1:=by
 intro pins σ H1 s1 a C dx I ea ⟨hn,hE⟩;obtain⟨o,vs,h1,h2,h3,h4,h5⟩:=oE I.hok ea;obtain⟨t,rfl⟩:=h5 rfl;have bs:Un (eZ outer) [] H H1 s.heap s1.heap:=I.base
 have nS:s.heap.get? a=none:=by
  cases q:s.heap.get? a with
  |none=>rfl
  |some ob=>have z:=bs.free a ob q hn (by simp);rw[ea] at z;cases z
 generalize Kt:eZ (fZ (aV P w) P w K mg base N qual scope f cd A outer s H E).stack=fs
 have XB:∀b u,H1 b=some u->b∉fs:=λb u e z=>by rw[I.aaE b (Kt▸z)] at e;cases e
 have JL:∀b ob,s1.heap.get? b=some ob->b≠a->b∉fs->(hideAll s1.heap (a::fs)).get? b=some ob:=λb ob e n1 n2=>hideAll_get _ e (by simp[n1,n2]);have ofB:∀b ob,(hideAll s1.heap (a::fs)).get? b=some ob->s1.heap.get? b=some ob:=λb ob q=>of_hideAll _ q;have nB:(hideAll s1.heap (a::fs)).get? a=none:=hideAll_none _ List.mem_cons_self;have SD:s1.heap.FunFrames (hideAll s1.heap (a::fs)) _:=funFrames_hide I.stack λenv he b hb=>List.mem_cons_of_mem _ (Kt▸List.mem_filterMap.mpr ⟨env,he,hb⟩)
 have J0:∀b ob,s.heap.get? b=some ob->b≠a:=λb ob e z=>by rw[z,nS] at e;cases e
 have old:∀b ob,s.heap.get? b=some ob->b∉eZ outer->b∉fs:=λb ob e n z=>by
  rcases List.mem_cons.mp (I.aay b (Kt▸z)) with q|q
  ·exact absurd (Nat.lt_of_lt_of_le (Heap.lt_size e) I.ok.above) (by rw[q];exact Nat.lt_irrefl _)
  ·exact n q
 refine oo (B:=hideAll s1.heap (a::fs)) (d:=some dx) (cls:=.ref C) (a0:=.ref t) I.ok.frames SD rfl ofB nB h1 h4 h2 h3 rfl rfl λg x up=>?_
 refine⟨a,.ref C,.ref t,_,some dx,wz H1 a,rfl,I.os,I.bare,⟨x,⟨λb ob e n hb _=>x.st b ob (JL b ob (bs.keep b ob e n hb (by simp)) (J0 b ob e) (old b ob e hb)),λb ob e n hb _=>?_,λb ob e n _=>?_,λb ob e _=>?_,λb xs e=>?_,λb ob u e=>?_,λb ps e=>?_⟩,
  λb ob e n hb=>JL b ob (bs.keep b ob e n hb (by simp)) (J0 b ob e) (old b ob e hb),λb ob e hb=>?_,λb u e=>?_,ky _ _⟩,hE⟩
 ·obtain⟨sl,e1⟩:=bs.slot b ob e n hb (by simp);obtain⟨JC,e2⟩:=up b _ e1 λws q=>cK I.aav hb e1 ws q;exact⟨JC,e2⟩
 ·rw[gU (J0 b ob e)];exact bs.free b ob e n (by simp)
 ·obtain⟨o',e1⟩:=bs.there b ob e (by simp)
  by_cases hb:b∈eZ outer
  ·obtain⟨JC,e2⟩:=up b _ e1 λws q=>cK I.aav hb e1 ws q;exact⟨_,e2⟩
  ·exact⟨o',x.st b o' (JL b o' e1 (J0 b ob e) (old b ob e hb))⟩
 ·have z:=bs.aaq b xs e;rw[gU λq=>by rw[q,ea] at z;cases z];exact z
 ·have z:=bs.aap b ob u e;rw[gU λq=>by rw[q,ea] at z;cases z];exact z
 ·obtain⟨m,z⟩:=bs.aax b ps e;exact⟨m,by rw[gU λq=>by rw[q,ea] at z;cases z];exact z⟩
 ·obtain⟨o',e1⟩:=bs.there b ob e (by simp);exact⟨o',JL b o' e1 (J0 b ob e) (old b ob e hb)⟩
 ·have hb:b≠a:=λz=>by rw[z,ky] at e;cases e
  rw[gU hb] at e;refine(I.hok b u e).aa0 (λc v hc q=>?_) (λc q=>?_) λc xs q=>?_
  ·rcases hc with rfl|hc
   ·exact JL c v q hb (XB c u e)
   ·exact JL c v q (λz=>by rw[z,ea] at hc;cases hc) (XB c _ hc)
  ·rw[gU λz=>by rw[z,ea] at q;cases q];exact q
  ·rw[gU λz=>by rw[z,ea] at q;cases q];exact q
end
structure IK (P:zr)(w:World)(K:Frag)(mg:vK)(base:Heap)(x:Str)(C:Addr)(ps:Bg)(sp:Sp):Prop where
 m:mg x=some (.ref C)
 kp:keepIn K (.ref C)=true
 s:Fs K C
 k:Fx K C
 tc:fQ K C
 call:∃f fd oI B Bn newId K0 HI KZ,ExcBaseFacts Bn newId K0 KZ/\HI.contains (.type Bn)=true/\xf B HI/\pJ K C f HI newId=true/\K.lookup f=some oI/\oI.cls=.type "function"/\Ha P w K mg base (aV P w) 1 f fd ps sp/\aA K fd ps []
def never:XK:=λ_ _ _=>False
section
variable {X:Cx}{x:Str}{C:Addr}{ps:Bg}{sp:Sp}{e:Expr}{es:qk}{t:TA}{p pos:Pos}{H:Hp}{Q:VK}{fld:Str}{v:V}
theorem IK.acb (k:IK X.prog X.w X.K X.mg X.base x C ps sp)(hr:qL 2 X.A):cH X (.ref C) (qz C sp never):=by
 obtain⟨f,fd,oI,B,Bn,nw,K0,HI,KZ,a1,a2,a3,a4,a5,a6,a7,a8⟩:=k.call;exact wx a1 a2 a3 a4 a5 a6 a7 hr a8 af
theorem pT (k:IK X.prog X.w X.K X.mg X.base x C ps sp)(hr:qL 2 X.A)(hg:Gl X x)(ha:PA X (e::es) t)(hs:gm e=false:=by rfl)(IG:(backTo pos (starEach es X.env)).any (·.1)=false:=by rfl)(JO:(x==("__debug__":Str))=false:=by decide):
 PE X (.Call (.Name x p) (e::es) [] pos) (Cd (qz C sp never) t):=yJ (k.acb hr) k.kp hg k.m ha JO (aU hs) IG
end
end L2
namespace K66
open PySem L2 PySem.W Nm Srt
abbrev DK:Stmt:=(aS 42)
structure SW (C CF:Addr)(H:Hp)(s:Addr)(p:Int)(ts:List Tm):Prop where
 r:GX C CF H s p ts
 fp:FP p
 few:ts.length<64
 pl:∀t∈ts,t.1.length<4000
def dD (H H':Hp):Prop:=∀b u,H b=some u->(∀C dx,u≠.ins C dx [])->H' b=some u
variable {H H':Hp}
theorem dD.of (s:aw H H'):dD H H':=λb u e _=>s b u e
variable {s C:Addr}
theorem dD.but {dx:Addr}(h:SameBut s H H')(e:H s=some (.ins C dx [])):dD H H':=λb u eb n=>h b u eb λz=>by
 rw[z,e] at eb
 cases eb
 exact n _ _ rfl
variable {x:V}
theorem Th.aah {T:String}(h:Th H x T)(k:dD H H'):Th H' x T:=by
 cases h with
 |non=>exact .non
 |bl b=>exact .bl b
 |int i=>exact .int i
 |str y=>exact .str y
 |lst e=>exact .lst (k _ _ e λ_ _ z=>by cases z)
 |tup e=>exact .tup (k _ _ e λ_ _ z=>by cases z)
 |dK e=>exact .dK (k _ _ e λ_ _ z=>by cases z)
theorem dD.abb (k:dD H H'):aJ H H':=λb xs e=>k b _ e λ_ _ z=>by cases z
variable {CF:Addr}{p:Int}{ts:List Tm}
theorem SW.aah (h:SW C CF H s p ts)(k:dD H H'):SW C CF H' s p ts:=by
 obtain⟨dx,fl,Hs,D,zs,h1,h2,h3,h4⟩:=h.r.ex;exact⟨⟨dx,fl,Hs,D,zs,k _ _ h1 (λ_ _ z=>by injection z with _ _ z;exact absurd z (by simp[qr])),k _ _ h2 (λ_ _ z=>by injection z with _ _ z;exact absurd z (by simp[cJ])),k _ _ h3 (λ_ _ z=>by cases z),bf.keep h4 k.abb⟩,h.fp,h.few,h.pl⟩
inductive WX (C CF:Addr)(p n:Int)(H:Hp):V->Bool->Prop where
 |sum {s:Addr}{p':Int}{ts:List Tm}:SW C CF H s p' ts->WX C CF p n H (.ref s) (decide (p'=p)&&decide (gP ts<=n))
 |oth {x:V}{T:String}:Th H x T->WX C CF p n H x false
variable {n:Int}
theorem WX.aah {b:Bool}(h:WX C CF p n H x b)(k:dD H H'):WX C CF p n H' x b:=by
 cases h with
 |sum s=>exact .sum (s.aah k)
 |oth t=>exact .oth (t.aah k)
def Bz (C CF:Addr):Sp:=λvs H Q _=>∃(fl Hs:Addr)(p n:Int)(y:V)(b:Bool),vs=[.ref fl,.int n,y]/\H fl=some (.ins CF Hs (cJ p))/\WX C CF p n H y b/\∀H',aw H H'->Q (.bl b) H'
theorem D3:yx vt vt (ak DK):=dJ (by decide +kernel)
variable {P:zr}{w:World}{K:PySem.W.Frag}{mg:vK}{base:Heap}
variable {f:Addr}{fd:zI}
theorem Dz {fe ff fr:Addr}{XC N6 J1:zI}(F:zA K "is_wish" "is_wish" DK f fd)(c:GW K mg C)(cF:xV K mg CF)(Hg:mg "isinstance"=none)
 (FE:Ha P w K mg base (aV P w) 1 fe XC Aq (EN CF))(bE:L2.aA K XC Aq [])(nE:findIn K (.ref CF) "__eq__"=some (some (.ref fe)))(iE:isFn K (.ref fe)=true)
 (FSf:Ha P w K mg base (aV P w) 1 ff N6 ["self"] (p7 C CF))(bSf:L2.aA K N6 ["self"] [])(mSf:Meth K C "field" ff)
 (FRe:Ha P w K mg base (aV P w) 1 fr J1 ["self"] (oA C))(bRe:L2.aA K J1 ["self"] [])(mRe:Meth K C "reach" fr):
 Ha P w K mg base (aV P w) 2 f fd vt (Bz C CF):=by
 refine F.okN D3 (λvs H Q E h=>?_) (λHn A outer s H vs Q E hr h=>?_)
 ·obtain⟨fl,Hs,p,n,y,b,rfl,_⟩:=h;rfl
 ·obtain⟨fl,Hs,p,n,y,b,rfl,hf,hw,q⟩:=h;have Hu:qL 1 _:=hr.mono (by decide);refine⟨_,(ao (aB (eU (az aY (by rfl) Hg (by rfl) (@ah _ _ _ _ _ (pv 2) (@ah _ _ _ _ _ (c5 (by rfl) c.c.mgC (show aD (.ref C) (.ref C) from rfl)) ag rfl) rfl)) (eU (@cz _ _ _ _ _ _ _ _ (wR nE iE FE Hu bE af) (bN (pv 2) c.c.cl mSf FSf Hu bSf .nil af) (pv 0) (aF _)) (gX (@cz _ _ _ _ _ _ _ _ pQ (bN (pv 2) c.c.cl mRe FRe Hu bRe .nil af) (pv 1) (aF _))))))),?_⟩
  cases hw with
  |oth th=>exact⟨_,rfl,y,.ref C,_,_,_,rfl,rfl,th.ty,c.no th,_,rfl,a9 (q _ (aw.refl _))⟩
  |@sum s p' ts S =>
   obtain⟨dx,Rw,N7,D,zs,h1,h2,h3,h4⟩:=S.r.ex;refine⟨_,rfl,.ref s,.ref C,_,_,_,rfl,rfl,c.ty h1,c.is,_,rfl,aZ ?_⟩;refine⟨_,rfl,s,dx,_,rfl,h1,rfl,s,dx,Rw,D,rfl,h1,_,rfl,?_⟩;refine⟨Rw,N7,_,.ref CF,rfl,h2,cF.ty hf,AD,Rw,N7,p',.ref fl,rfl,h2,.inl ⟨fl,Hs,p,rfl,hf,_,rfl,?_⟩⟩
   cases e:decide (p'=p) with
   |false =>
    refine⟨_,rfl,a9 ?_⟩;have q':=q _ (aw.refl _);rw[e] at q';exact q'
   |true =>
    refine⟨_,rfl,aZ ?_⟩;refine⟨_,rfl,s,dx,_,rfl,h1,rfl,s,dx,Rw,D,zs,ts,rfl,h1,h3,h4,Nat.lt_trans S.few (by decide),S.pl,λH' sH=>⟨_,rfl,_,_,rfl,rfl,?_⟩⟩;have q':=q _ sH;rw[e] at q';exact q'
abbrev rD:Stmt:=(aS 14)
inductive LX (H:Hp):V->Option (List V)->Prop where
 |no {x:V}{T:String}:Th H x T->T ≠ "list"->LX H x none
 |lst {a:Addr}{xs:List V}:H a=some (.lst xs)->xs.length<4000->(∀y∈xs,∃T,Th H y T)->LX H (.ref a) (some xs)
theorem Th.abd {K:Frag}{T:String}(h:Th H x T):kitOne K (.type T) (.type "list")=some (decide (T="list")):=by cases h <;> rfl
def jG:Option (List V)->Bool
 |none=>false
 |some xs=>xs.all br&&decide xs.Nodup
theorem tX {xs:List V}(h:xs.all br=true):∃ns:List Int,xs=ns.map V.int:=by
 induction xs with
 |nil=>exact⟨[],rfl⟩
 |cons x xs ih =>
  rw[List.all_cons,Bool.and_eq_true] at h;obtain⟨ns,rfl⟩:=ih h.2
  have:∃n,x=V.int n:=by
   have:=h.1
   cases x <;> first|exact⟨_,rfl⟩|cases this
  obtain⟨n,rfl⟩:=this;exact⟨n::ns,rfl⟩
variable {ns:List Int}
theorem iO :(ns.map V.int).Nodup↔ns.Nodup:=by
 unfold List.Nodup;rw[List.pairwise_map];constructor
 ·intro h;exact h.imp λh z=>h (by rw[z])
 ·intro h;exact h.imp λh z=>h (by injection z)
def CA:Sp:=λvs H Q _=>∃x o,vs=[x]/\LX H x o/\∀H',aw H H'->Q (.bl (jG o)) H'
theorem Bf:yx Cz Cz (ak rD):=dJ (by decide +kernel)
theorem zc {fp:Addr}{IC:zI}(F:zA K "is_order" "is_order" rD f fd)(Hg:mg "isinstance"=none)(Hm:mg "list"=none)(Ig:mg "all"=none)(Hr:mg "len"=none)(J5:mg "set"=none)
 (FP:Ha P w K mg base (aV P w) 2 fp IC Cz mQ)(bP:L2.aA K IC Cz [])(mP:mg "is_place"=some (.ref fp))(kP:keepIn K (.ref fp)=true):Ha P w K mg base (aV P w) 3 f fd Cz CA:=by
 refine F.okN Bf (λvs H Q E h=>?_) (λHn A outer s H vs Q E hr h=>?_)
 ·obtain⟨x,o,rfl,_⟩:=h;rfl
 ·obtain⟨x,o,rfl,px,q⟩:=h;have HL:qL 2 _:=hr.mono (by decide)
  refine⟨_,(aj (ba (PW.pt (dO (bJ (bD (az aY (by rfl) Hg (by rfl) (@ah _ _ _ _ _ (pv 0) (@ah _ _ _ _ _ (cA (by rfl) Hm (by rfl) (show aD (.ty "list") (.type "list") from rfl)) ag rfl) rfl)))) (cN (bJ (bD (az (lY rfl) (by rfl) Ig (by rfl) (@ah _ _ _ _ _ (bF (N:=["place"]) (nl:=1) (js:=[]) (osc:=ak rD) ⟨rfl,rfl,by decide +kernel,by decide +kernel,by decide +kernel,rfl,.nil,by decide +kernel⟩ rfl
   (bY (pv 0))
   (λC fp s H=>aG (i:=0) (by show(["place"]:Bg).Nodup;decide +kernel) rfl (Or.inl rfl) (Or.inr rfl))
   (λC fp s H=>bZ)
   (λC fp s H=>(av FP HL (by rfl) mP kP bP .nil af (@ah _ _ _ _ _ (pv 0) ag rfl)))) ag rfl))))))) (ao (aB dR)) aE)
   (ao (aB (@cz _ _ _ _ _ _ _ _ cR (wg (pv 0) rfl (by rfl) Hr (by rfl) J5) (az aW (by rfl) Hr PySem.boot_len (@ah _ _ _ _ _ (pv 0) ag rfl)) (aF _))))),?_⟩
  cases px with
  |@no x T th ne =>
   refine⟨_,rfl,x,.ty "list",_,_,_,rfl,rfl,th.ty,th.abd,_,rfl,?_⟩;rw[decide_eq_false ne];exact aZ (aZ (q _ (aw.refl _)))
  |@lst a xs ha hl MT =>
   refine⟨_,rfl,.ref a,.ty "list",_,_,_,rfl,rfl,.of (.lst ha),rfl,_,rfl,a9 ?_⟩;refine⟨_,rfl,a,rfl,⟨xs,aO.of ha⟩,?_⟩;refine⟨λi m ys σ' H'=>m=xs.length-i/\i<=xs.length/\ys=((xs.take i).map br).map V.bl/\H=H'/\∃o,σ'=[o],⟨xs.length,by simp,Nat.zero_le _,by simp,rfl,none,rfl⟩,?_⟩;rintro i m ys σ' H' ⟨rfl,hi,rfl,rfl,o,rfl⟩;refine⟨Nat.lt_of_le_of_lt (by simp;omega) (Nat.lt_trans hl (by decide)),?_⟩
   by_cases Hx:i<xs.length
   ·refine .inr ⟨⟨xs,xs[i],aO.of ha,by simp[Hx]⟩,λy H2 hy=>?_⟩;obtain⟨rfl,hy⟩:=hy;have ey:=hy xs (aO.of ha);obtain⟨T,th⟩:=MT y (List.mem_of_getElem? ey);dsimp only[DF,bA];refine aZ ⟨_,rfl,y,T,rfl,th,xs.length-(i+1),by omega,rfl,Hx,?_,rfl,_,rfl⟩
    have e2:xs.take (i+1)=xs.take i++[y]:=by
     rw[List.take_add_one,ey];rfl
    rw[e2];simp
   ·have ei:i=xs.length:=by omega
    subst ei;refine .inl ⟨⟨xs,aO.of ha,Nat.le_refl _⟩,λD hD=>?_⟩;rw[List.take_length];refine⟨D,_,xs.map br,rfl,aO.of ae,oZ _,_,rfl,?_⟩;have sD:aw H (upd H D (.lst ((xs.map br).map V.bl))):=ai hD
    cases hp:(xs.map br).all id with
    |false =>
     have z:jG (some xs)=false:=by
      show(xs.all br&&decide xs.Nodup)=_
      have:xs.all br=false:=by rw[<-hp,List.all_map];rfl
      rw[this,Bool.false_and]
     rw[z] at q;exact aZ (q _ sD)
    |true =>
     refine a9 ?_
     have XD:xs.all br=true:=by rw[<-hp,List.all_map];rfl
     have z:jG (some xs)=decide xs.Nodup:=by
      show(xs.all br&&decide xs.Nodup)=_;rw[XD,Bool.true_and]
     rw[z] at q;obtain⟨ns,rfl⟩:=tX XD;have IJ:=sD _ _ ha;refine⟨_,rfl,a,ns,rfl,aO.of IJ,by rw[List.length_map] at hl;exact hl,_,rfl,a,_,rfl,.inl (aO.of IJ),rfl,?_⟩;rw[List.length_map]
     have e:decide (V.int (mX ns:Int)=V.int (ns.length:Int))=decide (ns.map V.int).Nodup:=by
      by_cases nd:ns.Nodup
      ·rw[decide_eq_true (iO.mpr nd),(tU ns).mpr nd];simp
      ·rw[decide_eq_false (λz=>nd (iO.mp z))];have:mX ns≠ns.length:=λz=>nd ((tU ns).mp z)
       have:¬((mX ns:Nat):Int)=(ns.length:Int):=by omega
       simp[this]
     rw[e];exact q _ sD
abbrev i6:Stmt:=aN (aS 38) 14
def GY (sc osc:Scope):Scope:={sc with names:=sc.names.map λ(n,k)=>if(k == .free&&osc.kind == .function&&osc.names.lookup n==some .cell) then(n,.cell) else(n,k)}
def mH (ns:List Int):List Int:=ns.mergeSort λa b=>decide (a<=b)
theorem uz {ms:List Int}(p:ms.Perm ns)(h:ms.Pairwise (· <= ·)):ms=mH ns:=by
 have h2:(mH ns).Pairwise (· <= ·):=by
  have z:=List.pairwise_mergeSort (le:=λa b:Int=>decide (a<=b)) (by simp;intro a b c;omega) (by simp;intro a b;omega) ns;exact z.imp λh=>of_decide_eq_true h
 exact List.Perm.eq_of_pairwise (le:=λa b:Int=>a<=b) (λa b _ _ h1 h2=>Int.le_antisymm h1 h2) h h2 (p.trans (List.mergeSort_perm ns _).symm)
def xa (ns:List Int)(t:Tm):Tm:=(mH (t.1.map λk=>ns.getD k.toNat 0),t.2)
variable {k:Int}
theorem x8 {bs:List Int}(h0:0<=k)(h1:k<(bs.length:Int)):ng (bs.map V.int) k=some (.int (bs.getD k.toNat 0)):=by
 unfold ng wB;rw[List.length_map,if_pos h0,if_pos h1];show(bs.map V.int)[k.toNat]?=_
 have hk:k.toNat<bs.length:=by omega
 rw[List.getElem?_map,List.getElem?_eq_getElem hk,List.getD_eq_getElem?_getD,List.getElem?_eq_getElem hk];rfl
structure Dh (C CF:Addr)(H:Hp)(s dx fl Hs D:Addr)(p:Int)(zs:List V)(ts:List Tm):Prop where
 hs:H s=some (.ins C dx (qr fl D))
 hf:H fl=some (.ins CF Hs (cJ p))
 hp:FP p
 hD:H D=some (.lst zs)
 hz:bf H zs ts
theorem Dh.same {dx fl Hs D:Addr}{zs:List V}(h:Dh C CF H s dx fl Hs D p zs ts)(e:aw H H'):Dh C CF H' s dx fl Hs D p zs ts :=
 ⟨e _ _ h.hs,e _ _ h.hf,h.hp,e _ _ h.hD,bf.keep h.hz (aJ.of e)⟩
structure B7 (ns:List Int)(n:Int):Prop where
 len:(ns.length:Int)=n
 hi:n<=60
 nd:ns.Nodup
 pl:∀k∈ns,0<=k/\k<n
 pm:ns.Perm (cg 0 n.toNat)
theorem B7.of (n0:0<=n)(hi:n<=60)(pm:ns.Perm (cg 0 n.toNat)):B7 ns n:=by
 refine⟨by rw[pm.length_eq,jj];omega,hi,pm.nodup_iff.mpr ((pI _ _).imp λh=>Int.ne_of_lt h),λk hk=>?_,pm⟩;have:=lV _ _ _ (pm.mem_iff.mp hk);omega
theorem B7.all (h:B7 ns n):jG (some (ns.map V.int))=true:=by
 show((ns.map V.int).all br&&decide (ns.map V.int).Nodup)=true;rw[Bool.and_eq_true];refine⟨List.all_eq_true.mpr λy hy=>?_,decide_eq_true (iO.mpr h.nd)⟩;obtain⟨b,hb,rfl⟩:=List.mem_map.mp hy;have:=h.pl b hb;have:=h.hi;show(decide (0<=b)&&decide (b<60))=true;rw[Bool.and_eq_true];exact⟨decide_eq_true (by omega),decide_eq_true (by omega)⟩
theorem B7.get (h:B7 ns n)(k0:0<=k)(k1:k<n):ns.getD k.toNat 0∈ns:=by
 have hl:=h.len
 have hk:k.toNat<ns.length:=by omega
 rw[List.getD_eq_getElem?_getD,List.getElem?_eq_getElem hk];exact List.getElem_mem hk
theorem B7.inj (h:B7 ns n){j:Int}(j0:0<=j)(j1:j<n)(k0:0<=k)(k1:k<n)(e:ns.getD j.toNat 0=ns.getD k.toNat 0):j=k:=by
 have hl:=h.len
 have hj:j.toNat<ns.length:=by omega
 have hk:k.toNat<ns.length:=by omega
 rw[List.getD_eq_getElem?_getD,List.getD_eq_getElem?_getD,List.getElem?_eq_getElem hj,List.getElem?_eq_getElem hk] at e;have e:ns[j.toNat]=ns[k.toNat]:=e;have pw:=List.pairwise_iff_getElem.mp (show ns.Pairwise (· ≠ ·) from h.nd)
 rcases Nat.lt_trichotomy j.toNat k.toNat with z|z|z
 ·exact absurd e (pw _ _ hj hk z)
 ·omega
 ·exact absurd e.symm (pw _ _ hk hj z)
theorem fL (xs:List Int):(mH xs).Perm xs:=List.mergeSort_perm xs _
theorem A9 (xs:List Int):(mH xs).Pairwise (· <= ·):=by
 have z:=List.pairwise_mergeSort (le:=λa b:Int=>decide (a<=b)) (by simp;intro a b c;omega) (by simp;intro a b;omega) xs;exact z.imp λh=>of_decide_eq_true h
theorem ve {as bs:List Int}(ha:as.Pairwise (· < ·))(hb:bs.Pairwise (· < ·))(h:∀x,x∈as↔x∈bs):as=bs :=
 List.Perm.eq_of_pairwise (le:=λa b:Int=>a<b) (λa b _ _ h1 h2=>by omega) ha hb ((List.perm_ext_iff_of_nodup (ha.imp λh=>Int.ne_of_lt h) (hb.imp λh=>Int.ne_of_lt h)).mpr h)
theorem vb (O:B7 ns n){ks:List Int}(hp:ks.Pairwise (· < ·))(hr:∀k∈ks,0<=k/\k<n):(ks.map λk=>ns.getD k.toNat 0).Nodup:=by
 unfold List.Nodup;rw[List.pairwise_map];refine List.Pairwise.imp_of_mem (λha hb h=>?_) hp;intro e;have:=O.inj (hr _ ha).1 (hr _ ha).2 (hr _ hb).1 (hr _ hb).2 e;omega
variable {m:Nat}
theorem Dr (O:B7 ns n){t:Tm}(h:zC m p n t):zC m p n (xa ns t):=by
 obtain⟨h1,h2,h3,h4⟩:=h;refine⟨h1,?_,λk hk=>?_,?_⟩
 ·have nd:(mH (t.1.map λk=>ns.getD k.toNat 0)).Nodup:=(fL _).nodup_iff.mpr (vb O h2 h3);exact List.Pairwise.imp₂ (λa b h1 h2=>(by omega)) (A9 _) nd
 ·have hk:=(fL _).mem_iff.mp hk;obtain⟨j,hj,rfl⟩:=List.mem_map.mp hk;exact O.pl _ (O.get (h3 j hj).1 (h3 j hj).2)
 ·show(mH _).length<=3;rw[(fL _).length_eq,List.length_map];exact h4
theorem Aj (O:B7 ns n){t u:Tm}(ht:zC m p n t)(hu:zC m p n u)(e:(xa ns t).1=(xa ns u).1):t.1=u.1:=by
 obtain⟨_,t2,t3,_⟩:=ht;obtain⟨_,u2,u3,_⟩:=hu;have e:mH (t.1.map λk=>ns.getD k.toNat 0)=mH (u.1.map λk=>ns.getD k.toNat 0):=e;have pm:(t.1.map λk=>ns.getD k.toNat 0).Perm (u.1.map λk=>ns.getD k.toNat 0):=((fL _).symm.trans (by rw[e])).trans (fL _);refine ve t2 u2 λx=>⟨λhx=>?_,λhx=>?_⟩
 ·have:=pm.mem_iff.mp (List.mem_map_of_mem (f:=λk=>ns.getD k.toNat 0) hx);obtain⟨y,hy,ey⟩:=List.mem_map.mp this;rw[<-O.inj (u3 y hy).1 (u3 y hy).2 (t3 x hx).1 (t3 x hx).2 ey];exact hy
 ·have:=pm.mem_iff.mpr (List.mem_map_of_mem (f:=λk=>ns.getD k.toNat 0) hx);obtain⟨y,hy,ey⟩:=List.mem_map.mp this;rw[<-O.inj (t3 y hy).1 (t3 y hy).2 (u3 x hx).1 (u3 x hx).2 ey];exact hy
theorem lD {l:Nat}(O:B7 ns n)(W:Wi m l p n ts):Wi m l p n (ts.map (xa ns)):=by
 refine⟨?_,λt ht=>?_,by rw[List.length_map];exact W.len⟩
 ·rw[List.map_map];unfold List.Nodup;rw[List.pairwise_map];have nd:=W.nd;unfold List.Nodup at nd;rw[List.pairwise_map] at nd;exact List.Pairwise.imp_of_mem (λha hb h e=>h (Aj O (W.tm _ ha) (W.tm _ hb) e)) nd
 ·obtain⟨u,hu,rfl⟩:=List.mem_map.mp ht;exact Dr O (W.tm u hu)
def jM (C CF:Addr):Sp:=λvs H Q _=>∃(s a:Addr)(p n:Int)(ts:List Tm)(m l:Nat)(ns:List Int),vs=[.ref s,.ref a]/\GX C CF H s p ts/\FP p/\Wi m l p n ts/\m<=4000/\l<64/\H a=some (.lst (ns.map V.int))/\B7 ns n /\
 ∀H' u,aw H H'->sO C CF H H' u p (bo (ts.map (xa ns)))->Q (.ref u) H'
theorem wq:yx sJ sJ (ak i6):=dJ (by decide +kernel)
theorem sx {NO fo fr fu:Addr}{I9 J1 La:zI}(F:zA K "renamed" "Sum.renamed" i6 f fd)(c:C0 K mg C)(Hr:mg "len"=none)(Ho:mg "tuple"=none)(Hi:mg "sorted"=none)
 (FO:Ha P w K mg base (aV P w) 3 fo I9 Cz CA)(bO:L2.aA K I9 Cz [])(mO:mg "is_order"=some (.ref fo))(kO:keepIn K (.ref fo)=true)
 (FR:Ha P w K mg base (aV P w) 1 fr J1 ["self"] (oA C))(bR:L2.aA K J1 ["self"] [])(mR:L2.Meth K C "reach" fr)
 (FU:Ha P w K mg base (aV P w) 8 fu La FQ (uT C CF))(bU:L2.aA K La FQ [])(mU:mg "built"=some (.ref fu))(kU:keepIn K (.ref fu)=true)
 (mN:mg "NoOrder"=some (.ref NO))(qN:vC K NO EH yh=true):Ha P w K mg base (aV P w) 9 f fd sJ (jM C CF):=by
 refine F.okE wq (λvs H Q E h=>?_) (λHn A outer s H vs Q E hr h=>?_)
 ·obtain⟨s,a,p,n,ts,m,l,ns,rfl,_⟩:=h;rfl
 ·obtain⟨s0,a,p,n,ts,m,l,ns,rfl,Sr,hp,L,hm,hn,ha,hb,q⟩:=h;obtain⟨dx,fl,Hs,D,zs,S1,S2,S3,S4⟩:=Sr.ex;have S:Dh C CF H s0 dx fl Hs D p zs ts:=⟨S1,S2,hp,S3,S4⟩;clear S1 S2 S3 S4;have Tv:qL 8 _:=hr.mono (by decide);have IQ:qL 3 _:=hr.mono (by decide);have Hu:qL 1 _:=hr.mono (by decide);have Hx:=L.len;have hG:∀t∈ts,t.1.Pairwise (· < ·)/\(∀k∈t.1,0<=k)/\t.1.length<64:=λt ht=>⟨(L.tm t ht).2.1,λk hk=>((L.tm t ht).2.2.1 k hk).1,Nat.lt_of_le_of_lt (L.tm t ht).2.2.2 (by decide)⟩;have h5:=hb.len;have h60:=hb.hi;have hrc:gP ts<=n:=p8 (by omega) λt ht k hk=>((L.tm t ht).2.2.1 k hk).2;have Wr:=lD hb L;have hgt:=Wr.gth hm hn
  refine⟨_,(aj (ba (PW.pt (dO (bJ (bD (av FO IQ (by rfl) mO kO bO .nil af (@ah _ _ _ _ _ (pv 1) ag rfl)))) (cN (@aH _ _ _ _ _ _ _ _ jP (az aW (by rfl) Hr PySem.boot_len (@ah _ _ _ _ _ (pv 1) ag rfl)) (bN (pv 0) c.cl mR FR Hu bR .nil af) (aF _))))) (ao (qy PySem.F.excBase_ValueError qN rfl ml (by rfl) mN (@ah _ _ _ _ _ gr ag rfl))) aE)
   (ao (aB (av FU Tv (by rfl) mU kU bU .nil af (@ah _ _ _ _ _ (b7 (pv 0) rfl) (@ah _ _ _ _ _ (bF (g:=pY K 2 (eQ (bA 0) (eQ (bA 1) As))) (te:=Dy (bH (Cd (yw K) (bH (Cd (zi K) (bH (w9 (De K (cw 0)) (bA 0) DF (lW (BW K) (cw 1) (cw 0)) 1 [2]) CP)) CP)) (bH (cw 1) CP))) (N:=["product","number","order"]) (nl:=2) (js:=[1]) (osc:=ak i6) ⟨rfl,rfl,by decide +kernel,by decide +kernel,by decide +kernel,rfl,(.cons ⟨rfl,by decide +kernel⟩ .nil),by decide +kernel⟩ rfl
    (bY (b7 (pv 0) rfl))
    (λC fp s H=>(fG (X:=gQ _ ["product","number","order"] _ C fp s H) rfl (bh (aG (X:=gQ _ ["product","number","order"] _ C fp s H) (i:=0) (by show(["product","number","order"]:Bg).Nodup;decide +kernel) rfl (Or.inl rfl) (Or.inr rfl)) (bh (aG (X:=gQ _ ["product","number","order"] _ C fp s H) (i:=1) (by show(["product","number","order"]:Bg).Nodup;decide +kernel) rfl (Or.inl rfl) (Or.inr rfl)) dC))))
    (λC fp s H=>bZ)
    (λC fp s H=>(@dw _ _ _ _ _ (@ah _ _ _ _ _ (bK (eC rfl) (by rfl) Ho (by rfl) (@ah _ _ _ _ _ (az (ir rfl) (by rfl) Hi (by rfl) (@ah _ _ _ _ _ (bF (N:=["place","order"]) (nl:=1) (js:=[2]) (osc:=GY _ (ak i6)) ⟨rfl,rfl,by decide +kernel,by decide +kernel,by decide +kernel,rfl,(.cons ⟨rfl,by decide +kernel⟩ .nil),by decide +kernel⟩ rfl
    (BN rfl (pv 0))
    (λC fp s H=>aG (i:=0) (by show(["place","order"]:Bg).Nodup;decide +kernel) rfl (Or.inl rfl) (Or.inr rfl))
    (λC fp s H=>bZ)
    (λC fp s H=>(@bq _ _ _ _ _ _ _ (BD rfl) (pv 1) (pv 0) (λ_ _=>rfl)))) ag rfl)) ag rfl)) (@ah _ _ _ _ _ (pv 1) ag rfl) rfl)))) ag rfl) rfl))))),?_⟩
  refine⟨_,rfl,.ref a,some (ns.map V.int),rfl,.lst ha (by rw[List.length_map];omega) (λy hy=>?_),λH1 s1=>⟨_,rfl,?_⟩⟩
  ·obtain⟨b,_,rfl⟩:=List.mem_map.mp hy;exact⟨_,.int b⟩
  rw[hb.all];refine a9 ?_;have IJ:=s1 _ _ ha;have S1:=S.same s1;refine⟨_,rfl,a,ns.map V.int,rfl,.inl (aO.of IJ),_,rfl,s0,dx,_,rfl,S1.hs,rfl,s0,dx,fl,D,zs,ts,rfl,S1.hs,S1.hD,S1.hz,by omega,λt ht=>by have:=(hG t ht).2.2;omega,λH2 s2=>?_⟩;refine⟨_,_,rfl,rfl,_,rfl,?_⟩;have IU:=s1.trans s2;refine dI (λh=>?_) (λh=>?_)
  ·have h':(((ns.map V.int).length:Nat):Int)<gP ts:=by simpa using h
   rw[List.length_map] at h';omega
  ·have S2:=S.same IU;have hlen:=S.hz.length;refine⟨_,rfl,s0,C,dx,_,_,rfl,S2.hs,c.cl,c.nF,rfl,_,rfl,s0,C,dx,_,_,rfl,S2.hs,c.cl,c.nT,rfl,D,rfl,⟨zs,aO.of S2.hD⟩,?_⟩;refine nc (xs:=zs) (λi ys H'=>aw H H'/\bf H' ys ((ts.take i).map (xa ns))) ⟨IU,.nil⟩ (λi ys H' hi h=>?_) (λi y ys H' hi hy h=>?_) (λys H' h=>?_)
   ·refine⟨?_,aO.of (h.1 _ _ S.hD)⟩;rw[h.2.length,List.length_map];exact Nat.lt_of_le_of_lt (by simp;omega) (Nat.lt_trans hn (by decide))
   ·obtain⟨sH,Kp⟩:=h;obtain⟨t,et,tr⟩:=bt S.hz hy;obtain⟨at_,pr,nu,rfl,K2,IT,Jp⟩:=tr.keep (aJ.of sH);have tm:=List.mem_of_getElem? et;obtain⟨pw,k0,kl⟩:=hG t tm
    have Jz:ts.take (i+1)=ts.take i++[t]:=by rw[List.take_add_one,et];rfl
    have haH:=sH _ _ ha;refine⟨at_,.ref pr,.ref nu,rfl,bw.of K2,λN k=>mD ?_⟩;refine⟨_,rfl,pr,rfl,⟨_,bw.of IT⟩,?_⟩;refine qW (xs:=t.1.map V.int) (λj us H3=>H'=H3/\us=((t.1.take j).map λk=>ns.getD k.toNat 0).map V.int) ⟨rfl,rfl⟩ (λj us H3 hj h=>?_) (λj x us H3 N hj hx h k=>?_) (λus H3 h=>?_)
    ·obtain⟨rfl,rfl⟩:=h;exact⟨Nat.lt_of_le_of_lt (by simp;omega) (Nat.lt_trans kl (by decide)),bw.of IT⟩
    ·obtain⟨rfl,rfl⟩:=h
     have KY:j<t.1.length:=by simpa using hj
     have ex:t.1[j]?=some t.1[j]:=by simp[KY]
     have ev:x=.int t.1[j]:=by
      rw[List.getElem?_map,ex] at hx;exact(Option.some.inj hx).symm
     subst ev;have km:=List.getElem_mem KY;have k1:=((L.tm t tm).2.2.1 _ km).2
     have ek:t.1.take (j+1)=t.1.take j++[t.1[j]]:=by rw[List.take_add_one,ex];rfl
     refine mD ⟨_,rfl,_,rfl,a,_,_,_,rfl,rfl,aO.of haH,x8 (k0 _ km) (by omega),k _ _ ⟨rfl,?_⟩⟩;rw[ek,List.map_append,List.map_append];rfl
    ·obtain⟨rfl,rfl⟩:=h;intro L hL;rw[List.length_map,List.take_length];have sL:aw H' (upd H' L (.lst ((t.1.map λk=>ns.getD k.toNat 0).map V.int))):=ai hL;refine⟨L,_,rfl,aO.of ae,by rw[List.length_map];exact kl,λD2 ms Im perm NX=>?_⟩;have em:=uz perm NX;subst em;refine⟨D2,_,rfl,.inl ⟨aO.of ae,λa2 Kq=>?_⟩⟩;refine⟨_,rfl,nj,λtu Rx=>k _ _ ?_⟩;have s5:=((sL.trans (ai Im)).trans (ai Kq)).trans (ai (o:=.tup [.ref a2,.ref nu]) Rx);refine⟨sH.trans s5,?_⟩;rw[Jz,List.map_append];refine Paired.snoc (bf.keep Kp (aJ.of s5)) ⟨tu,a2,nu,rfl,ae,?_,s5 _ _ Jp⟩;rw[aq (au ae Rx)];exact ae
   ·obtain⟨sH,Kp⟩:=h;rw[hlen,List.take_length] at Kp;intro L hL;have sL:aw H' (upd H' L (.lst ys)):=ai hL;have sA:=sH.trans sL;exact⟨fl,Hs,L,p,ys,_,rfl,sA _ _ S.hf,S.hp,ae,bf.keep Kp (aJ.of sL),hgt,λH9 s' s9 e9=>q H9 s' (sA.trans s9) (by rw[Wr.Hc] at e9;exact e9.of sA)⟩
end K66
namespace L2
open PySem PySem.W PySem.Spec PyProof.Rows
def fY (C:Addr)(f g:Str):Sp:=λvs H Q _=>∃(a:Addr)(x y:V),vs=[.ref a,x,y]/\H a=some (qV a (.ref C))/\∀dx,H dx=none->dx≠a->Q .non (upd (upd H dx (de dx [(f,x),(g,y)])) a (gw a (.ref C) dx true))
section
variable {C:Addr}{H:Hp}{Q:VK}{fld Jd:Str}{v v2:V}
theorem Cn (h:∀a dx,H a=none->H dx=none->dx≠a->Q (.ref a) (upd (upd H dx (de dx [(fld,v),(Jd,v2)])) a (gw a (.ref C) dx true))):qz C (fY C fld Jd) never [v,v2] H Q:=by
 refine⟨(by decide:(2:Nat)<=sizeLine),λa ha=>⟨a,v,v2,rfl,ae,λdx hn ne=>⟨rfl,?_⟩⟩⟩;rw[aq ne] at hn;have z:=h a dx ha hn ne
 have c:upd (upd (upd H a (qV a (.ref C))) dx (de dx [(fld,v),(Jd,v2)])) a (gw a (.ref C) dx true)=upd (upd H dx (de dx [(fld,v),(Jd,v2)])) a (gw a (.ref C) dx true):=by
  funext b
  by_cases h2:b=a
  ·subst h2;rw[ae,ae]
  ·rw[aq h2,aq h2]
   by_cases h1:b=dx
   ·subst h1;rw[ae,ae]
   ·rw[aq h1,aq h1,aq h2]
 rw[c];exact z
theorem gG {K:Frag}{E:XK}{H₀:Hp}(hk:Fx K C)(ht:fQ K C)(h0:∀a,H a=none->H₀ a=none)(h:∀dx,H dx=none->E (.ref C) (some dx) (upd H dx (de dx [(fld,v),(Jd,v2)]))):
 qz C (fY C fld Jd) never [v,v2] H λx H1=>∃a C' dx,x=.ref a/\H1 a=some (gw a (.ref C') dx true)/\Fx K C'/\fQ K C'/\H₀ a=none/\E (.ref C') (some dx) (wz H1 a):=by
 refine Cn λa dx ha hd ne=>⟨a,C,dx,rfl,ae,hk,ht,h0 a ha,?_⟩
 have c:wz (upd (upd H dx (de dx [(fld,v),(Jd,v2)])) a (gw a (.ref C) dx true)) a=upd H dx (de dx [(fld,v),(Jd,v2)]):=by
  funext b
  by_cases h2:b=a
  ·subst h2;rw[ky,aq (Ne.symm ne),ha]
  ·rw[gU h2,aq h2]
 rw[c];exact h dx hd
end
end L2
namespace K66
open PySem L2 PySem.W Nm Srt
abbrev xh:Stmt:=aN (aS 8) 0
abbrev GJ:Stmt:=(aS 43)
theorem Ah:yx rq rq (ak xh):=dJ (by decide +kernel)
theorem CV:yx ["field","places","part","wishes","number","wish"] Az (ak GJ):=dJ (by decide +kernel)
variable {H:Hp}{x:V}
abbrev f9 (CN:Addr)(H:Hp)(E:XK)(part:String)(v:V):Prop:=∀d H',aw H H'->H' d=some (de d [("part",.str part),("number",v)])->E (.ref CN) (some d) H'
inductive LW (C CF:Addr)(p n:Int)(H:Hp):V->V->Prop where
 |no {x:V}{T:String}:Th H x T->T ≠ "list"->LW C CF p n H x .non
 |long {l:Addr}{ys:List V}:H l=some (.lst ys)->200<ys.length->LW C CF p n H (.ref l) .non
 |at {l:Addr}{ys:List V}{k:Nat}{y:V}:H l=some (.lst ys)->ys.length<=200->(∀i y,i<k->ys[i]?=some y->WX C CF p n H y true)->ys[k]?=some y->WX C CF p n H y false->LW C CF p n H (.ref l) (.int k)
variable {C CF:Addr}{p n:Int}{H':Hp}{v:V}
theorem LW.aah (h:LW C CF p n H x v)(k:dD H H'):LW C CF p n H' x v:=by
 cases h with
 |no t e=>exact .no (t.aah k) e
 |long e l=>exact .long (k _ _ e λ_ _ z=>by cases z) l
 | «at» e l a b c=>exact .at (k _ _ e λ_ _ z=>by cases z) l (λi y hi hy=>(a i y hi hy).aah k) b (c.aah k)
structure LR (C CF:Addr)(p n:Int)(H:Hp)(x:V)(as:List Addr):Prop where
 e:∃l,x=.ref l/\H l=some (.lst (as.map V.ref))
 len:as.length<=200
 wi:∀a∈as,WX C CF p n H (.ref a) true
theorem LR.aah {as:List Addr}(h:LR C CF p n H x as)(k:dD H H'):LR C CF p n H' x as:=by
 obtain⟨l,e,hl⟩:=h.e;exact⟨⟨l,e,k _ _ hl λ_ _ z=>by cases z⟩,h.len,λa ha=>(h.wi a ha).aah k⟩
def zH (C CF CN:Addr):Sp:=λvs H Q E=>∃(fl Hs:Addr)(p n:Int)(part:String)(x:V),vs=[.ref fl,.int n,.str part,x]/\H fl=some (.ins CF Hs (cJ p)) /\
 ((∃as,LR C CF p n H x as/\∀H' D,aw H H'->H D=none->H' D=some (.lst (as.map V.ref))->Q (.ref D) H')\/∃v,LW C CF p n H x v/\f9 CN H E part v)
variable {P:zr}{w:World}{K:PySem.W.Frag}{mg:vK}{base:Heap}
variable {f:Addr}{fd:zI}
theorem ze (F:zA K "__init__" "NoSystem.__init__" xh f fd)(k:Fs K C)(n1:bV K C "part")(n2:bV K C "number"):Ha P w K mg base (aV P w) 1 f fd rq (fY C "part" "number"):=by
 refine F.okN Ah (λvs H Q E h=>?_) (λHn A outer s H vs Q E hr h=>?_)
 ·obtain⟨a,x,y,rfl,_⟩:=h;rfl
 ·obtain⟨a,x,y,rfl,e,q⟩:=h;refine⟨_,aj (xW (pv 0) (pv 1) rfl) (ao (yy (pv 0) (pv 2) rfl)),?_⟩;refine⟨_,rfl,_,rfl,a,C,rfl,e,k,n1,λdx hn ne=>?_⟩
  have e2:(upd (upd H dx (de dx [("part",x)])) a (gw a (.ref C) dx true)) dx=some (de dx [("part",x)]):=by rw[aq ne,ae]
  refine⟨_,rfl,_,rfl,a,C,dx,true,_,rfl,ae,e2,k,n2,(by decide:(1:Nat)<1000),?_⟩;have z:=q dx hn ne
  have c:upd (upd (upd H dx (de dx [("part",x)])) a (gw a (.ref C) dx true)) dx (de dx (cf "number" y [("part",x)]))=upd (upd H dx (de dx [("part",x),("number",y)])) a (gw a (.ref C) dx true):=by
   funext b
   by_cases h1:b=dx
   ·subst h1;rw[ae,aq ne,ae];rfl
   ·rw[aq h1]
    by_cases h2:b=a
    ·subst h2;rw[ae,ae]
    ·rw[aq h2,aq h1,aq h2,aq h1]
  rw[c];exact z
variable {CN:Addr}
theorem DM {fw:Addr}{Jw:zI}{XF:Tok}(F:zA K "checked_wishes" "checked_wishes" GJ f fd)(Hg:mg "isinstance"=none)(Hm:mg "list"=none)(Hv:mg "enumerate"=none)(Hr:mg "len"=none)(Tw:mg "MOST_WISHES"=some (.int 200 XF))
 (kN:IK P w K mg base "NoSystem" CN rq (fY CN "part" "number"))
 (FW:Ha P w K mg base (aV P w) 2 fw Jw vt (Bz C CF))(bW:L2.aA K Jw vt [])(mW:mg "is_wish"=some (.ref fw))(kW:keepIn K (.ref fw)=true):Ha P w K mg base (aV P w) 3 f fd Az (zH C CF CN):=by
 refine F.okE CV (λvs H Q E h=>?_) (λHn A outer s H vs Q E hr h=>?_)
 ·obtain⟨fl,Hs,p,n,part,x,rfl,_⟩:=h;rfl
 ·obtain⟨fl,Hs,p,n,part,x,rfl,hf,h⟩:=h;have IQ:qL 2 _:=hr.mono (by decide);have HL:qL 2 _:=hr.mono (by decide)
  refine⟨_,(aj (ba (PW.pt (dO (bJ (bD (az aY (by rfl) Hg (by rfl) (@ah _ _ _ _ _ (pv 3) (@ah _ _ _ _ _ (cA (by rfl) Hm (by rfl) (show aD (.ty "list") (.type "list") from rfl)) ag rfl) rfl)))) (cN (@aH _ _ _ _ _ _ _ _ tL (az aW (by rfl) Hr PySem.boot_len (@ah _ _ _ _ _ (pv 3) ag rfl)) (c5 (by rfl) Tw (show aD (.int 200) (.int 200 XF) from⟨_,rfl⟩)) (aF _))))) (ao (fM (R:=λ_ a C dx H1=>H a=none/\E (.ref C) (some dx) (wz H1 a)) rfl dH (pT kN HL (by rfl) (@ah _ _ _ _ _ (pv 2) (@ah _ _ _ _ _ gD ag rfl) rfl)))) aE)
   (aj (eK (by passes_own) rfl (tT (pv 3) (by rfl) Hv) (fG rfl (bh (aG (i:=4) CV.nd rfl (Or.inl rfl)) (bh (aG (i:=5) CV.nd rfl (Or.inl rfl)) dC)))
   (ao (ba (bJ (bD (av FW IQ (by rfl) mW kW bW .nil af (@ah _ _ _ _ _ (pv 0) (@ah _ _ _ _ _ (pv 1) (@ah _ _ _ _ _ (pv 5) ag rfl) rfl) rfl)))) (ao (fM (R:=λ_ a C dx H1=>H a=none/\E (.ref C) (some dx) (wz H1 a)) rfl dH (pT kN HL (by rfl) (@ah _ _ _ _ _ (pv 2) (@ah _ _ _ _ _ (pv 4) ag rfl) rfl)))) aE)))
   (ao (aB (bK c8 (by rfl) Hm (by rfl) (@ah _ _ _ _ _ (pv 3) ag rfl)))))),?_⟩
  have h:(∃T,Th H x T/\T ≠ "list"/\f9 CN H E part .non)\/(∃l ys,x=.ref l/\H l=some (.lst ys)/\200<ys.length/\f9 CN H E part .non) \/
   ∃(l:Addr)(ys:List V)(k:Nat),x=.ref l/\H l=some (.lst ys)/\ys.length<=200/\(∀i y,i<k->ys[i]?=some y->WX C CF p n H y true) /\
    ((k=ys.length/\∀H' D,aw H H'->H D=none->H' D=some (.lst ys)->Q (.ref D) H')\/∃y,ys[k]?=some y/\WX C CF p n H y false/\f9 CN H E part (.int k)):=by
   rcases h with⟨as,r,q⟩|⟨v,w',q⟩
   ·obtain⟨l,rfl,hl⟩:=r.e;refine .inr (.inr ⟨l,_,(as.map V.ref).length,rfl,hl,by rw[List.length_map];exact r.len,λi y _ e=>?_,.inl ⟨rfl,q⟩⟩);rw[List.getElem?_map] at e;obtain⟨a,ea,rfl⟩:=Option.map_eq_some_iff.mp e;exact r.wi a (List.mem_of_getElem? ea)
   ·cases w' with
    |no t e=>exact .inl ⟨_,t,e,q⟩
    |long e l=>exact .inr (.inl ⟨_,_,rfl,e,l,q⟩)
    | «at» e l a b c=>exact .inr (.inr ⟨_,_,_,rfl,e,l,a,.inr ⟨_,b,c,q⟩⟩)
  rcases h with⟨T,ht,hk,q⟩|⟨l,ys,rfl,hl,hlen,q⟩|⟨l,ys,k,rfl,hl,hlen,Kp,h⟩
  ·refine⟨_,rfl,x,.ty "list",.type T,_,false,rfl,rfl,ht.ty,(by rw[ht.abd,decide_eq_false hk]),_,rfl,aZ ?_⟩;exact aZ ⟨_,rfl,gG kN.k kN.tc (λa ha=>ha) λdx hd=>q dx _ (ai hd) ae⟩
  ·refine⟨_,rfl,.ref l,.ty "list",_,_,_,rfl,rfl,.of (.lst hl),rfl,_,rfl,a9 ?_⟩;refine⟨_,rfl,l,ys,rfl,.inl (aO.of hl),_,_,rfl,rfl,_,rfl,?_⟩;rw[decide_eq_true (by omega:(200:Int)<(ys.length:Int))];exact aZ ⟨_,rfl,gG kN.k kN.tc (λa ha=>ha) λdx hd=>q dx _ (ai hd) ae⟩
  ·refine⟨_,rfl,.ref l,.ty "list",_,_,_,rfl,rfl,.of (.lst hl),rfl,_,rfl,a9 ?_⟩;refine⟨_,rfl,l,ys,rfl,.inl (aO.of hl),_,_,rfl,rfl,_,rfl,?_⟩;rw[decide_eq_false (by omega:¬(200:Int)<(ys.length:Int))];refine a9 ?_;refine⟨_,rfl,l,ys,rfl,aO.of hl,?_⟩
   have hk:k<=ys.length:=by
    rcases h with⟨h,_⟩|⟨y,h,_⟩
    ·omega
    ·exact Nat.le_of_lt (List.getElem?_eq_some_iff.mp h).1
   refine⟨λi m σ' H'=>m=ys.length-i/\i<=k/\aw H H'/\∃o1 o2,σ'=[some (.ref fl),some (.int n),some (.str part),some (.ref l),o1,o2],⟨ys.length,by simp,Nat.zero_le _,aw.refl _,none,none,rfl⟩,?_⟩;rintro i m σ' H' ⟨rfl,hi,sH,o1,o2,rfl⟩;have IB:=sH _ _ hl
   by_cases Hx:i<ys.length
   ·refine .inr ⟨⟨ys,ys[i],aO.of IB,by simp[Hx]⟩,λσ' H'=>i+1<=k/\aw H H'/\∃o1 o2,σ'=[some (.ref fl),some (.int n),some (.str part),some (.ref l),o1,o2],?_,λv H2 hv=>?_⟩
    ·rintro σ' H' ⟨h1,h2,h3⟩;exact⟨ys.length-(i+1),by omega,rfl,h1,h2,h3⟩
    ·obtain⟨T,y,hy,hT,rfl,rfl⟩:=hv;have ey:=hy ys (aO.of IB)
     have s2:aw H (upd H' T (.tup [.int i,y])):=λc u e=>by
      rw[aq (au (sH _ _ e) hT)];exact sH _ _ e
     refine⟨T,_,rfl,bw.of ae,rfl,_,_,rfl,_,_,rfl,rfl,?_⟩
     by_cases XG:i<k
     ·have ty:=(Kp i y XG ey).aah (.of s2);refine⟨_,rfl,_,rfl,_,rfl,fl,Hs,p,n,y,true,rfl,s2 _ _ hf,ty,λH3 s3=>⟨_,rfl,a9 ?_⟩⟩;exact⟨XG,λc u e=>s3 _ _ (s2 _ _ e),_,_,rfl⟩
     ·have ei:i=k:=by omega
      rcases h with⟨h,_⟩|⟨y',h,ty,q⟩
      ·omega
      ·have e2:y=y':=by rw[<-ei,ey] at h;exact Option.some.inj h
       subst e2;refine⟨_,rfl,_,rfl,_,rfl,fl,Hs,p,n,y,false,rfl,s2 _ _ hf,ty.aah (.of s2),λH3 s3=>⟨_,rfl,aZ ?_⟩⟩;have s4:aw H H3:=λc u e=>s3 _ _ (s2 _ _ e);refine⟨_,rfl,_,rfl,gG kN.k kN.tc (λa ha=>?_) λdx hd=>?_⟩
       ·cases z:H a with
        |none=>rfl
        |some u=>rw[s4 _ _ z] at ha;cases ha
       ·subst ei;exact q dx _ (s4.trans (ai hd)) ae
   ·refine .inl ⟨⟨ys,aO.of IB,by omega⟩,?_⟩
    rcases h with⟨h,q⟩|⟨y',h,_⟩
    ·refine⟨_,rfl,l,ys,rfl,.inl (aO.of IB),λD hD=>?_⟩;exact q _ D (sH.trans (ai hD)) (none_of sH hD) ae
    ·have:=(List.getElem?_eq_some_iff.mp h).1;omega
abbrev GB:Stmt:=(aS 44)
theorem F6:yx rV rV (ak GB):=dJ (by decide +kernel)
def UR (C CF:Addr)(p n:Int)(H:Hp)(y:V)(bs:List Addr):Prop:=(y=.non/\bs=[])\/(LR C CF p n H y bs/\(bs≠[]->p=0))
def UW (C CF:Addr)(p n:Int)(H:Hp)(y v:V):Prop:=(∃l ys,y=.ref l/\H l=some (.lst ys)/\ys≠[]/\p≠0/\v=.non)\/(y≠.non/\LW C CF p n H y v/\∀l ys,y=.ref l->H l=some (.lst ys)->ys≠[]->p=0)
variable {y:V}
theorem UR.aah {bs:List Addr}(h:UR C CF p n H y bs)(k:dD H H'):UR C CF p n H' y bs:=by
 rcases h with h|⟨h,e⟩
 ·exact .inl h
 ·exact .inr ⟨h.aah k,e⟩
theorem LW.lst (h:LW C CF p n H y v):(∃T,Th H y T/\T ≠ "list")\/∃l ys,y=.ref l/\H l=some (.lst ys):=by
 cases h with
 |no t e=>exact .inl ⟨_,t,e⟩
 |long e _=>exact .inr ⟨_,_,rfl,e⟩
 | «at» e _ _ _ _=>exact .inr ⟨_,_,rfl,e⟩
theorem UW.aah (h:UW C CF p n H y v)(k:dD H H'):UW C CF p n H' y v:=by
 rcases h with⟨l,ys,e,hl,h⟩|⟨a,b,c⟩
 ·exact .inl ⟨l,ys,e,k _ _ hl (λ_ _ z=>by cases z),h⟩
 ·refine .inr ⟨a,b.aah k,λl ys e hl n=>?_⟩
  rcases b.lst with⟨T,t,ne⟩|⟨l',ys',e',IB⟩
  ·subst e
   cases t with
   |lst e=>exact absurd rfl ne
   |tup e=>rw[k _ _ e (λ_ _ z=>by cases z)] at hl;cases hl
   |dK e=>rw[k _ _ e (λ_ _ z=>by cases z)] at hl;cases hl
  ·subst e'
   cases e
   have:=k _ _ IB (λ_ _ z=>by cases z);rw[hl] at this
   cases this
   exact c _ _ rfl IB n
def Em (C CF CN:Addr):Sp:=λvs H Q E=>∃(fl Hs:Addr)(p n:Int)(y:V),vs=[.ref fl,.int n,y]/\H fl=some (.ins CF Hs (cJ p)) /\
 ((∃bs,UR C CF p n H y bs/\∀H' D,aw H H'->H D=none->H' D=some (.lst (bs.map V.ref))->Q (.ref D) H')\/∃v,UW C CF p n H y v/\f9 CN H E "uppers" v)
theorem D4 {fc fp:Addr}{K8 IC:zI}{XH:Tok}(F:zA K "checked_uppers" "checked_uppers" GB f fd)(cF:xV K mg CF)(Hg:mg "isinstance"=none)(Hm:mg "list"=none)(Tx:mg "FRACTIONS"=some (.int 0 XH))
 (kN:IK P w K mg base "NoSystem" CN rq (fY CN "part" "number"))
 (FFp:Ha P w K mg base (aV P w) 1 fp IC ["self"] (tW CF))(bFp:L2.aA K IC ["self"] [])(mFp:Meth K CF "prime" fp)
 (FC:Ha P w K mg base (aV P w) 3 fc K8 Az (zH C CF CN))(bC:L2.aA K K8 Az [])(mC:mg "checked_wishes"=some (.ref fc))(kC:keepIn K (.ref fc)=true):Ha P w K mg base (aV P w) 4 f fd rV (Em C CF CN):=by
 refine F.okE F6 (λvs H Q E h=>?_) (λHn A outer s H vs Q E hr h=>?_)
 ·obtain⟨fl,Hs,p,n,y,rfl,_⟩:=h;rfl
 ·obtain⟨fl,Hs,p,n,y,rfl,hf,h⟩:=h;have IQ:qL 3 _:=hr.mono (by decide);have HL:qL 2 _:=hr.mono (by decide);have Hu:qL 1 _:=hr.mono (by decide)
  refine⟨_,(aj (ba (@aH _ _ _ _ _ _ _ _ yd (pv 2) gD (aF _)) (ao (aB (@cu _ _ _ _ ag))) aE)
   (aj (ba (PW.pt (oz (bD (az aY (by rfl) Hg (by rfl) (@ah _ _ _ _ _ (pv 2) (@ah _ _ _ _ _ (cA (by rfl) Hm (by rfl) (show aD (.ty "list") (.type "list") from rfl)) ag rfl) rfl))) (oz (k9 (pv 2) (λ_=>rfl)) (oP (@aH _ _ _ _ _ _ _ _ jW (bN (pv 0) cF.cl mFp FFp Hu bFp .nil af) (c5 (by rfl) Tx (show aD (.int 0) (.int 0 XH) from⟨_,rfl⟩)) (aF _)))))) (ao (fM (R:=λ_ a C dx H1=>H a=none/\E (.ref C) (some dx) (wz H1 a)) rfl dH (pT kN HL (by rfl) (@ah _ _ _ _ _ gr (@ah _ _ _ _ _ gD ag rfl) rfl)))) aE)
   (ao (aB (av FC IQ (by rfl) mC kC bC .nil iP (@ah _ _ _ _ _ (pv 0) (@ah _ _ _ _ _ (pv 1) (@ah _ _ _ _ _ gr (@ah _ _ _ _ _ (pv 2) ag rfl) rfl) rfl) rfl)))))),?_⟩
  by_cases hy:y=.non
  ·subst hy
   rcases h with⟨bs,r,q⟩|⟨v,w',q⟩
   ·rcases r with⟨_,rfl⟩|⟨r,_⟩
    ·exact⟨_,rfl,rfl,_,rfl,aZ ⟨Nat.zero_le _,λl hl=>q _ l (ai hl) hl ae⟩⟩
    ·obtain⟨l,e,_⟩:=r.e
     cases e
   ·rcases w' with⟨l,_,e,_⟩|⟨e,_⟩
    ·cases e
    ·exact absurd rfl e
  ·refine⟨_,rfl,rfl,decide (y=.non),rfl,?_⟩;rw[decide_eq_false hy];refine a9 ?_
   have h:(∃l ys,y=.ref l/\H l=some (.lst ys)/\ys≠[]/\p≠0/\f9 CN H E "uppers" .non) \/
    (zH C CF CN [.ref fl,.int n,.str "uppers",y] H Q E/\((∃T,Th H y T/\T ≠ "list")\/∃l ys,y=.ref l/\H l=some (.lst ys)/\(ys≠[]->p=0))):=by
    rcases h with⟨bs,r,q⟩|⟨v,w',q⟩
    ·rcases r with⟨e,_⟩|⟨r,z⟩
     ·exact absurd e hy
     ·obtain⟨l,e,hl⟩:=r.e;exact .inr ⟨⟨fl,Hs,p,n,"uppers",y,rfl,hf,.inl ⟨bs,r,q⟩⟩,.inr ⟨l,_,e,hl,λne=>z λe=>ne (by rw[e];rfl)⟩⟩
    ·rcases w' with⟨l,ys,e,hl,n,z,rfl⟩|⟨_,b,c⟩
     ·exact .inl ⟨l,ys,e,hl,n,z,q⟩
     ·refine .inr ⟨⟨fl,Hs,p,n,"uppers",y,rfl,hf,.inr ⟨v,b,q⟩⟩,?_⟩
      rcases b.lst with h|⟨l,ys,e,hl⟩
      ·exact .inl h
      ·exact .inr ⟨l,ys,e,hl,c l ys e hl⟩
   rcases h with⟨l,ys,rfl,hl,ne,hp,q⟩|⟨go,⟨T,th,hT⟩|⟨l,ys,rfl,hl,hp⟩⟩
   ·refine⟨_,rfl,.ref l,.ty "list",_,_,_,rfl,rfl,.of (.lst hl),rfl,_,rfl,aZ ?_⟩;refine⟨_,rfl,!ys.isEmpty,.inl ⟨_,aO.of hl,rfl⟩,?_⟩
    rw[show(!ys.isEmpty)=true from by cases ys with
     |nil=>exact absurd rfl ne
     |cons=>rfl]
    refine aZ ⟨_,rfl,fl,Hs,_,rfl,hf,rfl,fl,Hs,p,rfl,hf,rfl,_,rfl,?_⟩;rw[show(!decide (V.int p=V.int 0))=true from by simp[hp]];exact aZ (gG kN.k kN.tc (λa ha=>ha) λdx hd=>q dx _ (ai hd) ae)
   ·refine⟨_,rfl,y,.ty "list",.type T,_,false,rfl,rfl,th.ty,(by rw[th.abd,decide_eq_false hT]),_,rfl,a9 (a9 ?_)⟩;exact⟨_,rfl,_,rfl,_,rfl,go⟩
   ·refine⟨_,rfl,.ref l,.ty "list",_,_,_,rfl,rfl,.of (.lst hl),rfl,_,rfl,aZ ?_⟩;refine⟨_,rfl,!ys.isEmpty,.inl ⟨_,aO.of hl,rfl⟩,?_⟩
    cases ys with
    |nil=>exact a9 (a9 ⟨_,rfl,_,rfl,_,rfl,go⟩)
    |cons z zs =>
     refine aZ ⟨_,rfl,fl,Hs,_,rfl,hf,rfl,fl,Hs,p,rfl,hf,rfl,_,rfl,?_⟩;rw[show(!decide (V.int p=V.int 0))=false from by simp[hp]];exact a9 ⟨_,rfl,_,rfl,_,rfl,go⟩
abbrev E4:Stmt:=aN (aS 45) 0
theorem Gi:yx DL DL (ak E4):=dJ (by decide +kernel)
structure Ga (K:Frag)(mg:vK)(C:Addr):Prop where
 cl:B5 K C
 nF:bV K C "its_field"
 nP:bV K C "its_places"
 nN:bV K C "its_noughts"
 nU:bV K C "its_uppers"
 mgC:mg "System"=some (.ref C)
 isC:((clsIn K C).isSome&&typeIn K (.ref C)==some (.type "type"))=true
 ca:findIn K (.ref C) "__class__"=some (some (.builtin "object.__class__"))
 sp:specialIn K (.builtin "object.__class__") "__get__"=some (some (.builtin "getset_descriptor.__get__"))
 tk:takesIn K (.builtin "object.__class__")=some true
 ob:mroIn K C (.type "object")=some true
def Ds (fl:Addr)(n:Int)(A B:Addr):List (Str×V):=[("its_field",.ref fl),("its_places",.int n),("its_noughts",.ref A),("its_uppers",.ref B)]
def yg:V->Bool
 | .int i=>decide (1<=i)&&decide (i<=60)
 |_=>false
inductive vv (C CF:Addr)(p n:Int)(H:Hp):V->V->V->V->String->V->Prop where
 |f {f m x y:V}{T:String}:Th H f T->vv C CF p n H f m x y "field" .non
 |n {fl Hs:Addr}{m x y:V}{T:String}:H fl=some (.ins CF Hs (cJ p))->Th H m T->yg m=false->vv C CF p n H (.ref fl) m x y "places" .non
 |l {fl Hs:Addr}{x y v:V}:H fl=some (.ins CF Hs (cJ p))->1<=n->n<=60->LW C CF p n H x v->vv C CF p n H (.ref fl) (.int n) x y "noughts" v
 |u {fl Hs:Addr}{x y v:V}{as:List Addr}:H fl=some (.ins CF Hs (cJ p))->1<=n->n<=60->LR C CF p n H x as->UW C CF p n H y v->vv C CF p n H (.ref fl) (.int n) x y "uppers" v
structure Rt (C CF:Addr)(p n:Int)(H:Hp)(f m x y:V)(fl:Addr)(as bs:List Addr):Prop where
 f:∃Hs,f=.ref fl/\H fl=some (.ins CF Hs (cJ p))
 m:m=.int n
 n1:1<=n
 n2:n<=60
 l:LR C CF p n H x as
 u:UR C CF p n H y bs
theorem Rt.aah {f m:V}{fl:Addr}{as bs:List Addr}(h:Rt C CF p n H f m x y fl as bs)(k:dD H H'):Rt C CF p n H' f m x y fl as bs:=by
 obtain⟨Hs,e,hf⟩:=h.f;exact⟨⟨Hs,e,k _ _ hf λ_ _ z=>by injection z with _ _ z;exact absurd z (by simp[cJ])⟩,h.m,h.n1,h.n2,h.l.aah k,h.u.aah k⟩
def AF (CS C CF CN:Addr):Sp:=λvs H Q E=>∃(s dx:Addr)(f m x y:V)(p n:Int),vs=[.ref s,f,m,x,y]/\H s=some (.ins CS dx []) /\
 ((∃fl as bs,Rt C CF p n H f m x y fl as bs/\∀H' A B,SameBut s H H'->H A=none->H B=none->A≠B->H' s=some (.ins CS dx (Ds fl n A B))->H' A=some (.lst (as.map V.ref))->H' B=some (.lst (bs.map V.ref))->Q .non H') \/
  ∃part v,vv C CF p n H f m x y part v/\∀d H',SameBut s H H'->H' d=some (de d [("part",.str part),("number",v)])->E (.ref CN) (some d) H')
theorem aw.but (s:Addr)(h:aw H H'):SameBut s H H':=λb u e _=>h b u e
theorem pM (h:yg x=false):eG x=false\/∃i,x=.int i/\¬(1<=i/\i<=60):=by
 cases x with
 |int i =>
  refine .inr ⟨i,rfl,λz'=>?_⟩;obtain⟨a,b⟩:=z';have:(decide (1<=i)&&decide (i<=60))=false:=h;rw[decide_eq_true a,decide_eq_true b] at this
  cases this
 |_=>exact .inl rfl
theorem D9 {fc fu fw CS T:Addr}{K8 La Jw:zI}{XI:Tok}(F:Fg K "__init__" "System.__init__" E4 f fd T)(cS:Ga K mg CS)(cF:xV K mg CF)(Hg:mg "isinstance"=none)(TB:mg "MOST_PLACES"=some (.int 60 XI))
 (kN:IK P w K mg base "NoSystem" CN rq (fY CN "part" "number"))
 (FW:Ha P w K mg base (aV P w) 1 fw Jw Cz xJ)(bW:L2.aA K Jw Cz [])(mW:mg "is_whole"=some (.ref fw))(kW:keepIn K (.ref fw)=true)
 (FC:Ha P w K mg base (aV P w) 3 fc K8 Az (zH C CF CN))(bC:L2.aA K K8 Az [])(mC:mg "checked_wishes"=some (.ref fc))(kC:keepIn K (.ref fc)=true)
 (FU:Ha P w K mg base (aV P w) 4 fu La rV (Em C CF CN))(bU:L2.aA K La rV [])(mU:mg "checked_uppers"=some (.ref fu))(kU:keepIn K (.ref fu)=true):
 Ha P w K mg base (aV P w) 5 f fd DL (AF CS C CF CN):=by
 refine F.okE Gi (λvs H Q E h=>?_) (λHn A outer s H vs Q E hr h=>?_)
 ·obtain⟨s,dx,f,m,x,y,p,n,rfl,_⟩:=h;rfl
 ·obtain⟨s0,dx,f,m,x,y,p,n,rfl,hs,h⟩:=h;have Iv:qL 4 _:=hr.mono (by decide);have JM:qL 3 _:=hr.mono (by decide);have HL:qL 2 _:=hr.mono (by decide);have Hu:qL 1 _:=hr.mono (by decide)
  refine⟨_,(aj (ba (bJ (bD (az aY (by rfl) Hg (by rfl) (@ah _ _ _ _ _ (pv 1) (@ah _ _ _ _ _ (c5 (by rfl) cF.mgC (show aD (.ref CF) (.ref CF) from rfl)) ag rfl) rfl)))) (ao (fM (R:=λ_ a C dx H1=>H a=none/\E (.ref C) (some dx) (wz H1 a)) rfl dH (pT kN HL (by rfl) (@ah _ _ _ _ _ gr (@ah _ _ _ _ _ gD ag rfl) rfl)))) aE)
   (aj (ba (PW.pt (dO (bJ (bD (av FW Hu (by rfl) mW kW bW .nil af (@ah _ _ _ _ _ (pv 2) ag rfl)))) (cN (bJ (abP pQ pQ ar (pv 2) (c5 (by rfl) TB (show aD (.int 60) (.int 60 XI) from⟨_,rfl⟩))))))) (ao (fM (R:=λ_ a C dx H1=>H a=none/\E (.ref C) (some dx) (wz H1 a)) rfl dH (pT kN HL (by rfl) (@ah _ _ _ _ _ gr (@ah _ _ _ _ _ gD ag rfl) rfl)))) aE)
   (aj (gJ (pv 0) (pv 1) rfl)
   (aj (gJ (pv 0) (pv 2) rfl)
   (aj (gJ (pv 0) (av FC JM (by rfl) mC kC bC .nil iP (@ah _ _ _ _ _ (pv 1) (@ah _ _ _ _ _ (pv 2) (@ah _ _ _ _ _ gr (@ah _ _ _ _ _ (pv 3) ag rfl) rfl) rfl) rfl)) rfl)
   (ao (gJ (pv 0) (av FU Iv (by rfl) mU kU bU .nil iP (@ah _ _ _ _ _ (pv 1) (@ah _ _ _ _ _ (pv 2) (@ah _ _ _ _ _ (pv 4) ag rfl) rfl) rfl)) rfl))))))),?_⟩
  have ki:∀{H':Hp},SameBut s0 H H'->dD H H':=λz=>dD.but z hs;have N8:∀{part:String}{v:V}{H1:Hp},SameBut s0 H H1->(∀d H',SameBut s0 H H'->H' d=some (de d [("part",.str part),("number",v)])->E (.ref CN) (some d) H')->f9 CN H1 E part v:=λs1 q d H' s2 hd=>q d H' (λb u e nb=>s2 b u (s1 b u e nb)) hd
  have h:(∃T,Th H f T/\∀d H',SameBut s0 H H'->H' d=some (de d [("part",.str "field"),("number",.non)])->E (.ref CN) (some d) H') \/
   (∃fl Hs T,f=.ref fl/\H fl=some (.ins CF Hs (cJ p))/\Th H m T/\yg m=false/\∀d H',SameBut s0 H H'->H' d=some (de d [("part",.str "places"),("number",.non)])->E (.ref CN) (some d) H') \/
   ∃fl Hs,f=.ref fl/\H fl=some (.ins CF Hs (cJ p))/\m=.int n/\1<=n/\n<=60 /\
   ((∃v,LW C CF p n H x v/\∀d H',SameBut s0 H H'->H' d=some (de d [("part",.str "noughts"),("number",v)])->E (.ref CN) (some d) H') \/
    ∃as,LR C CF p n H x as/\((∃bs,UR C CF p n H y bs/\∀H' A B,SameBut s0 H H'->H A=none->H B=none->A≠B->H' s0=some (.ins CS dx (Ds fl n A B))->H' A=some (.lst (as.map V.ref))->H' B=some (.lst (bs.map V.ref))->Q .non H') \/
     ∃v,UW C CF p n H y v/\∀d H',SameBut s0 H H'->H' d=some (de d [("part",.str "uppers"),("number",v)])->E (.ref CN) (some d) H')):=by
   rcases h with⟨fl,as,bs,r,q⟩|⟨part,v,bad,q⟩
   ·obtain⟨Hs,rfl,hf⟩:=r.f;exact .inr (.inr ⟨fl,Hs,rfl,hf,r.m,r.n1,r.n2,.inr ⟨as,r.l,.inl ⟨bs,r.u,q⟩⟩⟩)
   ·cases bad with
    |f t=>exact .inl ⟨_,t,q⟩
    |n e t g=>exact .inr (.inl ⟨_,_,_,rfl,e,t,g,q⟩)
    |l e a b l=>exact .inr (.inr ⟨_,_,rfl,e,rfl,a,b,.inl ⟨_,l,q⟩⟩)
    |u e a b l u=>exact .inr (.inr ⟨_,_,rfl,e,rfl,a,b,.inr ⟨_,l,.inr ⟨_,u,q⟩⟩⟩)
  rcases h with⟨T,th,q⟩|⟨fl,Hs,T,rfl,hf,th,g,q⟩|⟨fl,Hs,rfl,hf,rfl,n1,n2,h⟩
  ·refine⟨_,rfl,f,.ref CF,_,_,_,rfl,rfl,th.ty,cF.no th,_,rfl,aZ ?_⟩;exact gG kN.k kN.tc (λa ha=>ha) λdx hd=>q dx _ (aw.but s0 (ai hd)) ae
  ·refine⟨_,rfl,.ref fl,.ref CF,_,_,_,rfl,rfl,cF.ty hf,cF.is,_,rfl,a9 ?_⟩
   rcases pM g with hw|⟨i,rfl,hi⟩
   ·refine⟨_,rfl,_,_,rfl,th,_,rfl,?_⟩;rw[hw];exact aZ (aZ (gG kN.k kN.tc (λa ha=>ha) λdx hd=>q dx _ (aw.but s0 (ai hd)) ae))
   ·refine⟨_,rfl,_,_,rfl,th,_,rfl,a9 ?_⟩;refine⟨_,rfl,_,_,rfl,rfl,_,rfl,?_⟩;refine dI (λh1=>?_) (λh1=>?_)
    ·have h1:decide (1<=i)=true:=h1;refine⟨_,_,rfl,rfl,_,rfl,?_⟩;rw[decide_eq_false (λh2=>hi ⟨of_decide_eq_true h1,h2⟩)];exact aZ (gG kN.k kN.tc (λa ha=>ha) λdx hd=>q dx _ (aw.but s0 (ai hd)) ae)
    ·have h1:decide (1<=i)=false:=by simpa using h1
     refine⟨_,rfl,?_⟩;exact aZ (gG kN.k kN.tc (λa ha=>ha) λdx hd=>q dx _ (aw.but s0 (ai hd)) ae)
  ·refine⟨_,rfl,.ref fl,.ref CF,_,_,_,rfl,rfl,cF.ty hf,cF.is,_,rfl,a9 ?_⟩;refine⟨_,rfl,_,_,rfl,.int n,_,rfl,a9 ?_⟩;refine⟨_,rfl,_,_,rfl,rfl,_,rfl,?_⟩;rw[decide_eq_true n1];refine aZ ⟨_,_,rfl,rfl,_,rfl,?_⟩;rw[decide_eq_true n2];refine a9 ?_;refine⟨_,rfl,_,rfl,s0,CS,dx,_,rfl,hs,cS.cl,cS.nF,by decide,?_⟩;refine⟨_,rfl,_,rfl,s0,CS,dx,_,rfl,ae,cS.cl,cS.nP,(by show 1<1000;decide),?_⟩
   have s1:SameBut s0 H (upd (upd H s0 (.ins CS dx (cf "its_field" (.ref fl) []))) s0 (.ins CS dx (cf "its_places" (.int n) (cf "its_field" (.ref fl) [])))):=λb u e nb=>by rw[aq nb,aq nb];exact e
   have N5:upd (upd H s0 (.ins CS dx (cf "its_field" (.ref fl) []))) s0 (.ins CS dx (cf "its_places" (.int n) (cf "its_field" (.ref fl) []))) s0=some (.ins CS dx [("its_field",.ref fl),("its_places",.int n)]):=ae;generalize upd (upd H s0 _) s0 _=H1 at s1 N5
   have kf:∀{H':Hp},dD H H'->H' fl=some (.ins CF Hs (cJ p)):=λk=>k _ _ hf λ_ _ z=>by injection z with _ _ z;exact absurd z (by simp[cJ])
   refine⟨_,rfl,_,rfl,_,rfl,fl,Hs,p,n,"noughts",x,rfl,kf (ki s1),?_⟩
   rcases h with⟨v,hv,q⟩|⟨as,la,h⟩
   ·exact .inr ⟨v,hv.aah (ki s1),N8 s1 q⟩
   ·refine .inl ⟨as,la.aah (ki s1),λH2 D s2 fD hD=>?_⟩;have JN:=s2 _ _ N5
    have nD:D≠s0:=λz=>by rw[z,N5] at fD;cases fD
    refine⟨_,rfl,s0,CS,dx,_,rfl,JN,cS.cl,cS.nN,(by show 2<1000;decide),?_⟩;have L8:upd H2 s0 (.ins CS dx (cf "its_noughts" (.ref D) [("its_field",.ref fl),("its_places",.int n)])) s0=some (.ins CS dx [("its_field",.ref fl),("its_places",.int n),("its_noughts",.ref D)]):=ae
    have s3:SameBut s0 H (upd H2 s0 (.ins CS dx (cf "its_noughts" (.ref D) [("its_field",.ref fl),("its_places",.int n)]))):=λb u e nb=>by rw[aq nb];exact s2 _ _ (s1 b u e nb)
    have TC:upd H2 s0 (.ins CS dx (cf "its_noughts" (.ref D) [("its_field",.ref fl),("its_places",.int n)])) D=some (.lst (as.map V.ref)):=by rw[aq nD];exact hD
    have fD0:H D=none:=by
     cases e:H D with
     |none=>rfl
     |some u=>rw[s1 D u e nD] at fD;cases fD
    generalize upd H2 s0 _=H3 at s3 L8 TC;refine⟨_,rfl,_,rfl,_,rfl,fl,Hs,p,n,y,rfl,kf (ki s3),?_⟩
    rcases h with⟨bs,ub,q⟩|⟨v,hv,q⟩
    ·refine .inl ⟨bs,ub.aah (ki s3),λH4 B s4 fB hB=>?_⟩;have hs4:=s4 _ _ L8
     have nB:B≠s0:=λz=>by rw[z,L8] at fB;cases fB
     have nBD:D≠B:=λz=>by rw[<-z,TC] at fB;cases fB
     refine⟨_,rfl,s0,CS,dx,_,rfl,hs4,cS.cl,cS.nU,(by show 3<1000;decide),?_⟩;refine q _ D B (λb u e nb=>by rw[aq nb];exact s4 _ _ (s3 b u e nb)) fD0 ?_ nBD ae (by rw[aq nD];exact s4 _ _ TC) (by rw[aq nB];exact hB)
     cases e:H B with
     |none=>rfl
     |some u=>rw[s3 B u e nB] at fB;cases fB
    ·exact .inr ⟨v,hv.aah (ki s3),N8 s3 q⟩
end K66
namespace L2
open PySem PySem.Spec PyProof.Rows PySem.W
end L2
namespace K66
open PySem L2 PySem.W Nm Srt
abbrev GG:Stmt:=aN (aS 45) 4
abbrev Gy:Stmt:=aN (aS 45) 5
abbrev GP:Stmt:=aN (aS 45) 6
theorem FZ:yx ["self"] ["self"] (ak GG):=dJ (by decide +kernel)
theorem FK:yx ["self"] ["self"] (ak Gy):=dJ (by decide +kernel)
theorem Fj:yx ["self"] ["self"] (ak GP):=dJ (by decide +kernel)
structure rf (CS CF:Addr)(H:Hp)(s fl:Addr)(p n:Int)(as bs:List Addr):Prop where
 ex:∃dx Hs A B,H s=some (.ins CS dx (Ds fl n A B))/\H fl=some (.ins CF Hs (cJ p))/\H A=some (.lst (as.map V.ref))/\H B=some (.lst (bs.map V.ref))
 l1:as.length<=200
 l2:bs.length<=200
variable {CS CF s fl:Addr}{H H':Hp}{p n:Int}{as:List Addr}
theorem rf.same {bs:List Addr}(h:rf CS CF H s fl p n as bs)(k:aw H H'):rf CS CF H' s fl p n as bs:=by
 obtain⟨dx,Hs,A,B,h1,h2,h3,h4⟩:=h.ex;exact⟨⟨dx,Hs,A,B,k _ _ h1,k _ _ h2,k _ _ h3,k _ _ h4⟩,h.l1,h.l2⟩
def D6 (CS CF:Addr):Sp:=λvs H Q _=>∃(s fl:Addr)(p n:Int)(as bs:List Addr),vs=[.ref s]/\rf CS CF H s fl p n as bs/\Q (.int n) H
def Co (CS CF:Addr):Sp:=λvs H Q _=>∃(s fl:Addr)(p n:Int)(as bs:List Addr),vs=[.ref s]/\rf CS CF H s fl p n as bs/\∀l,H l=none->Q (.ref l) (upd H l (.lst (as.map V.ref)))
def Cu (CS CF:Addr):Sp:=λvs H Q _=>∃(s fl:Addr)(p n:Int)(as bs:List Addr),vs=[.ref s]/\rf CS CF H s fl p n as bs/\∀l,H l=none->Q (.ref l) (upd H l (.lst (bs.map V.ref)))
variable {P:zr}{w:World}{K:PySem.W.Frag}{mg:vK}{base:Heap}
variable {f:Addr}{fd:zI}
theorem EG {CF:Addr}(F:zA K "places" "System.places" GG f fd)(cS:Ga K mg CS):Ha P w K mg base (aV P w) 1 f fd ["self"] (D6 CS CF):=by
 refine F.okN FZ (λvs H Q E h=>?_) (λHn A outer s H vs Q E hr h=>?_)
 ·obtain⟨s,fl,p,n,as,bs,rfl,_⟩:=h;rfl
 ·obtain⟨s,fl,p,n,as,bs,rfl,S,q⟩:=h;obtain⟨dx,Hs,A,B,h1,h2,h3,h4⟩:=S.ex;refine⟨_,(ao (aB (b7 (pv 0) rfl))),?_⟩;exact⟨_,rfl,s,CS,dx,_,_,rfl,h1,cS.cl,cS.nP,rfl,q⟩
theorem Eu {CF:Addr}(F:zA K "noughts" "System.noughts" Gy f fd)(cS:Ga K mg CS)(Hm:mg "list"=none):Ha P w K mg base (aV P w) 1 f fd ["self"] (Co CS CF):=by
 refine F.okN FK (λvs H Q E h=>?_) (λHn A outer s H vs Q E hr h=>?_)
 ·obtain⟨s,fl,p,n,as,bs,rfl,_⟩:=h;rfl
 ·obtain⟨s,fl,p,n,as,bs,rfl,S,q⟩:=h;obtain⟨dx,Hs,A,B,h1,h2,h3,h4⟩:=S.ex;refine⟨_,(ao (aB (bK c8 (by rfl) Hm (by rfl) (@ah _ _ _ _ _ (b7 (pv 0) rfl) ag rfl)))),?_⟩;exact⟨_,rfl,s,CS,dx,_,_,rfl,h1,cS.cl,cS.nN,rfl,A,_,rfl,.inl (aO.of h3),q⟩
theorem DW {CF:Addr}(F:zA K "uppers" "System.uppers" GP f fd)(cS:Ga K mg CS)(Hm:mg "list"=none):Ha P w K mg base (aV P w) 1 f fd ["self"] (Cu CS CF):=by
 refine F.okN Fj (λvs H Q E h=>?_) (λHn A outer s H vs Q E hr h=>?_)
 ·obtain⟨s,fl,p,n,as,bs,rfl,_⟩:=h;rfl
 ·obtain⟨s,fl,p,n,as,bs,rfl,S,q⟩:=h;obtain⟨dx,Hs,A,B,h1,h2,h3,h4⟩:=S.ex;refine⟨_,(ao (aB (bK c8 (by rfl) Hm (by rfl) (@ah _ _ _ _ _ (b7 (pv 0) rfl) ag rfl)))),?_⟩;exact⟨_,rfl,s,CS,dx,_,_,rfl,h1,cS.cl,cS.nU,rfl,B,_,rfl,.inl (aO.of h4),q⟩
abbrev zE:Stmt:=(aS 58)
theorem xX:yx ["_law_prime_here","_law_places","_law_noughts","_law_uppers","_law_field","_law_sums"] Eo (ak zE):=dJ (by decide +kernel)
variable {dx:Addr}{u:HO}
theorem n6 {o:HO}(h1:H s=none)(h2:H dx=none)(ne:dx≠s)(k:SameBut s (upd (upd H dx o) s u) H'):aw H H':=λb v e=>by
 have b1:b≠s:=au e h1;have b2:b≠dx:=au e h2;exact k b v (by rw[aq b1,aq b2];exact e) b1
theorem FP.good (h:FP p):good (.int p)=true:=by
 show jU p=true;unfold jU
 rcases h with h|h
 ·rw[h];rfl
 ·have:(BQ.any λq=>q==p)=true:=by
   rw[List.any_eq_true];exact⟨p,h,by simp⟩
  rw[this];simp
def uY (H:Hp)(y:V)(ts:List Tm):Prop:=∃a zs,y=.ref a/\H a=some (.lst zs)/\bf H zs ts
variable {ts:List Tm}
theorem uY.same {y:V}(h:uY H y ts)(k:aw H H'):uY H' y ts:=let⟨a,zs,e,h1,h2⟩:=h;⟨a,zs,e,k _ _ h1,bf.keep h2 (aJ.of k)⟩
abbrev dF (H:Hp):List V->List (List Tm)->Prop:=Paired (uY H)
variable {Hk:List (List Tm)}
theorem dF.same {ys:List V}(h:dF H ys Hk)(k:aw H H'):dF H' ys Hk:=Paired.aaP h λ_ _ z=>z.same k
abbrev ph (C CF:Addr)(H:Hp)(p:Int):List Addr->List (List Tm)->Prop:=Paired λa ts=>GX C CF H a p (bo ts)
variable {C:Addr}
theorem ph.same (h:ph C CF H p as Hk)(k:aw H H'):ph C CF H' p as Hk:=Paired.aaP h λ_ _ z=>z.same k
abbrev Ws (p n:Int)(Hk:List (List Tm)):Prop:=∀ts∈Hk,Wi 3930 5 p n ts
theorem Ez (hp:FP p)(n0:0<=n)(W:Wi 3930 5 p n ts)(h:GX C CF H s p (bo ts)):WX C CF p n H (.ref s) true:=by
 have l:=Nat.le_trans (jo ts) W.len;have sw:SW C CF H s p (bo ts):=⟨h,hp,by omega,λt ht=>by have:=(W.tm t (gO ht)).2.2.2;omega⟩;have r:gP (bo ts)<=n:=p8 n0 λt ht k hk=>((W.tm t (gO ht)).2.2.1 k hk).2;have:=WX.sum (p:=p) (n:=n) sw;rw[decide_eq_true rfl,decide_eq_true r] at this;exact this
theorem qU {L:Addr}(hp:FP p)(n0:0<=n)(hL:H L=some (.lst (as.map V.ref)))(hs:ph C CF H p as Hk)(W:Ws p n Hk)(few:Hk.length<=200):LR C CF p n H (.ref L) as:=by
 refine⟨⟨L,rfl,hL⟩,by rw[hs.length];exact few,λa ha=>?_⟩;obtain⟨i,hi⟩:=List.mem_iff_getElem?.mp ha;obtain⟨ts,et,z⟩:=bt hs hi;exact Ez hp n0 (W ts (List.mem_of_getElem? et)) z
def fh (F:List Addr)(H:Hp):Hp:=λc=>if c∈F then none else H c
variable {F:List Addr}
theorem bQ :aw (fh F H) H:=λc u e=>by
 unfold fh at e
 by_cases h:c∈F
 ·rw[if_pos h] at e;cases e
 ·rw[if_neg h] at e;exact e
variable {c:Addr}
theorem pW (e:fh F H c=some u):c∉F:=λh=>by
 unfold fh at e;rw[if_pos h] at e
 cases e
theorem c9 (e:H c=some u)(n:c∉F):fh F H c=some u:=by
 unfold fh;rw[if_neg n];exact e
theorem qg (s:∀c u,H c=some u->c∉F->H' c=some u):aw (fh F H) (fh F H'):=λc u e=>c9 (s c u (bQ _ _ e) (pW e)) (pW e)
theorem ck {F:List Addr}(s:aw H H'):aw (fh F H) (fh F H'):=qg λc u e _=>s c u e
def jD (F:List Addr)(H:Hp):Prop:=∀c∈F,∃u,H c=some u/\∀xs,u≠.tup xs
theorem jD.same (L:jD F H)(s:aw H H'):jD F H':=λc hc=>let⟨u,e,n⟩:=L c hc;⟨u,s _ _ e,n⟩
theorem jD.not (L:jD F H)(h:H c=none):c∉F:=λhc=>by
 obtain⟨u,e,_⟩:=L c hc;rw[h] at e
 cases e
theorem jD.tup (L:jD F H):aJ H (fh F H):=λc xs e=>c9 e λhc=>by
 obtain⟨u,e',n⟩:=L c hc;rw[e] at e'
 cases e'
 exact n _ rfl
variable {Hs:Addr}
section
variable {C CF CS CN:Addr}{H:Hp}{Q:Hp->Prop}{E:XK}{F:List Addr}
theorem ED (Lv:jD F H){l:Addr}{m l5:Nat}{ys:List V}(hf:fh F H fl=some (.ins CF Hs (cJ p)))(hp:FP p)(hl:H l=some (.lst ys))(ht:bf H ys ts)(hn:n<=60)(W:Wi m l5 p n ts)(hm:m<=4000)(h5:l5<64)
 {x:Addr}(h1:H x=none)(h2:H dx=none)(ne:dx≠x)(q:∀H',aw H H'->GX C CF (fh F H') x p (bo ts)->Q H'):
 i4 C CF [.ref x,.ref fl,.ref l] (upd (upd H dx (.own x)) x (.ins C dx [])) (λv H2=>v=.non/\Q H2) E:=by
 have hS:aw H (upd (upd H dx (.own x)) x (.ins C dx [])):=(ai h2).trans (ai (by rw[aq (Ne.symm ne)];exact h1));refine⟨x,dx,fl,Hs,p,.ref l,ts,rfl,ae,hS _ _ (bQ _ _ hf),hp,.inr ⟨l,ys,rfl,hS _ _ hl,bf.keep ht (aJ.of hS)⟩,W.gth hm h5,W.prd hn,λH' D zs k nD hs hD hz=>⟨rfl,?_⟩⟩;have sH:=n6 h1 h2 ne k;rw[W.Hc] at hz;exact q H' sH ⟨dx,fl,Hs,D,zs,c9 hs (Lv.not h1),ck sH _ _ hf,c9 hD (Lv.not (none_of hS nD)),bf.keep hz (Lv.same sH).tup⟩
theorem FJ (Lv:jD F H){f m x y:V}{bs:List Addr}(r:Rt C CF p n H f m x y fl as bs)(N9:fl∉F)(h1:H s=none)(h2:H dx=none)(ne:dx≠s)(q:∀H',aw H H'->rf CS CF (fh F H') s fl p n as bs->Q H'):
 AF CS C CF CN [.ref s,f,m,x,y] (upd (upd H dx (.own s)) s (.ins CS dx [])) (λv H2=>v=.non/\Q H2) E:=by
 have hS:aw H (upd (upd H dx (.own s)) s (.ins CS dx [])):=(ai h2).trans (ai (by rw[aq (Ne.symm ne)];exact h1));refine⟨s,dx,f,m,x,y,p,n,rfl,ae,.inl ⟨fl,as,bs,r.aah (.of hS),λH' A B k nA nB _ hs hA hB=>⟨rfl,?_⟩⟩⟩;have sH:=n6 h1 h2 ne k;obtain⟨Hs,_,hf⟩:=r.f;refine q H' sH ⟨⟨dx,Hs,A,B,c9 hs (Lv.not h1),c9 (sH _ _ hf) N9,c9 hA (Lv.not (none_of hS nA)),c9 hB (Lv.not (none_of hS nB))⟩,r.l.len,?_⟩
 rcases r.u with⟨_,e⟩|⟨u,_⟩
 ·rw[e];exact Nat.zero_le _
 ·exact u.len
theorem sI {TF:Addr}(hf:H fl=none)(hd:H Hs=none)(ne:Hs≠fl)(hp:FP p)(q:∀H',aw H H'->H' fl=some (.ins CF Hs (cJ p))->Q H'):
 sX CF TF [.ref fl,.int p] (upd (upd H Hs (.own fl)) fl (.ins CF Hs [])) (λv H2=>v=.non/\Q H2) E:=by
 refine⟨fl,Hs,.int p,"int",rfl,.int p,ae,λ_=>⟨rfl,?_⟩,λg=>by rw[hp.good] at g;cases g⟩;rw[tZ];exact q _ ((ai hd).trans (ai (by rw[aq (Ne.symm ne)];exact hf))) ae
theorem nt (Lv:jD F H){K:PySem.W.Frag}{A:Addr}{xs:List V}{G:List V->Hp->Prop}(hA:H A=some (.lst xs))(hx:dF H xs Hk)(W:Ws p n Hk)(few:Hk.length<=200)(hp:FP p)(hn:n<=60)(hf:fh F H fl=some (.ins CF Hs (cJ p)))
 (q:∀H' as,aw H H'->ph C CF (fh F H') p as Hk->G (as.map V.ref) H'):
 ∃W':Nat->Nat->List V->St->Hp->Prop,(∃m,W' 0 m [] (none :: [some (.ref fl)]) H)/\hV (zD K A) (bA 0) DF (BJ C (i4 C CF) [] (λ_ _ _=>False) (bH (cw 1) (bH (Cd (tY K) (bH (cw 0) CP)) CP))) W' G:=by
 have xl:=hx.length;refine fR (a:=A) (xs:=xs) (rest:=[some (.ref fl)]) (λj us H'=>aw H H'/\∃as:List Addr,us=as.map V.ref/\ph C CF (fh F H') p as (Hk.take j)) ⟨aw.refl _,[],rfl,.nil⟩ (λj us H' hj h=>?_) (λj x us H' M hj IW h hM=>?_) (λus H' h=>?_)
 ·obtain⟨sH,as,rfl,hS⟩:=h;refine⟨?_,aO.of (sH _ _ hA)⟩;rw[List.length_map,hS.length,List.length_take];exact Nat.lt_of_le_of_lt (by omega:_<=200) (by decide)
 ·obtain⟨sH,as,rfl,hS⟩:=h;obtain⟨ts,et,z⟩:=bt hx IW;obtain⟨a,zs,rfl,ha,hz⟩:=z.same sH;have w:=W ts (List.mem_of_getElem? et);refine mD ⟨_,rfl,_,rfl,a,zs,rfl,.inl (aO.of ha),λl hl=>?_⟩;have s2:=ai (o:=.lst zs) hl;have el:upd H' l (.lst zs) l=some (.lst zs):=ae;change CP _ (upd H' l (.lst zs)) _;generalize upd H' l (.lst zs)=H2 at s2 el |-;refine λs dx h1 h2 ne=>?_;refine ED (Lv.same (sH.trans s2)) (ck (sH.trans s2) _ _ hf) hp el (bf.keep hz (aJ.of s2)) hn w (by decide) (by decide) h1 h2 ne λH3 s3 hs=>?_;refine hM _ _ ⟨sH.trans (s2.trans s3),as++[s],by rw[List.map_append];rfl,?_⟩;rw[List.take_add_one,et];exact Paired.snoc (hS.same (ck (s2.trans s3))) hs
 ·obtain⟨sH,as,rfl,hS⟩:=h;rw[xl,List.take_length] at hS;exact q H' as sH hS
end
def BP (CS C CF:Addr):Sp:=λvs H Q _=>∃(F:List Addr)(A B:Addr)(p n:Int)(xs ys:List V)(Hk Hy:List (List Tm)),vs=[.int p,.int n,.ref A,.ref B]/\jD F H/\FP p/\1<=n/\n<=60/\H A=some (.lst xs)/\dF H xs Hk/\H B=some (.lst ys)/\dF H ys Hy/\Ws p n Hk/\Ws p n Hy/\Hk.length<=200/\Hy.length<=200/\(Hy≠[]->p=0) /\
 ∀H' sy fl as bs,aw H H'->rf CS CF (fh F H') sy fl p n as bs->ph C CF (fh F H') p as Hk->ph C CF (fh F H') p bs Hy->Q (.ref sy) H'
theorem Cb {fi fs fy CN TF:Addr}{NS NJ MX:zI}(F:zA K "_law_system" "_law_system" zE f fd)(cF:xV K mg CF)(cS:C0 K mg C)(cY:Ga K mg CS)(Hm:mg "list"=none)
 (MF:Mk K CF fi)(FFI:Ha P w K mg base (aV P w) 2 fi NS zx (sX CF TF))(TH:L2.aA K NS zx [])
 (MS:Mk K C fs)(XJ:Ha P w K mg base (aV P w) 6 fs NJ we (i4 C CF))(Oc:L2.aA K NJ we [])
 (MY:Mk K CS fy)(Ry:Ha P w K mg base (aV P w) 5 fy MX DL (AF CS C CF CN))(TJ:L2.aA K MX DL [.none])(L9:L2.aA K MX DL []):
 Ha P w K mg base (aV P w) 8 f fd Eo (BP CS C CF):=by
 refine F.okN xX (λvs H Q E h=>?_) (λHn A outer s H vs Q E hr h=>?_)
 ·obtain⟨F,A,B,p,n,xs,ys,Hk,Hy,rfl,_⟩:=h;rfl
 ·obtain⟨F,A0,B0,p,n,xs,ys,Hk,Hy,rfl,Lv,hp,n1,I8,hA,hx,hB,hy,W1,W2,f1,f2,u0,q⟩:=h;have Ma:qL 7 _:=hr;have Lb:qL 6 _:=Ma.mono (by decide);have IQ:qL 3 _:=Ma.mono (by decide);have Hu:qL 1 _:=Ma.mono (by decide)
  refine⟨_,(aj (@aM _ _ 4 _ _ _ _ xX.nd rfl (Or.inr rfl) (fX MF FFI IQ (by rfl) cF.mgC TH .nil af (@ah _ _ _ _ _ (pv 0) ag rfl)) rfl (Or.inl rfl))
   (aj (oR (i:=5) (N:=["_law_terms_here","_law_field"]) (nl:=1) (js:=[4]) (osc:=ak zE) ⟨rfl,rfl,by decide +kernel,by decide +kernel,by decide +kernel,rfl,(.cons ⟨rfl,by decide +kernel⟩ .nil),by decide +kernel⟩ rfl xX.nd rfl (Or.inl rfl)
    (bY (pv 2))
    (λCq fq sq Hq=>aG (i:=0) (by show(["_law_terms_here","_law_field"]:Bg).Nodup;decide +kernel) rfl (Or.inl rfl) (Or.inr rfl))
    (λCq fq sq Hq=>bZ)
    (λCq fq sq Hq=>(fX MS XJ Ma (by rfl) cS.mgC Oc .nil af (@ah _ _ _ _ _ (pv 1) (@ah _ _ _ _ _ (bK (ou (K:=K) rfl) (by rfl) Hm (by rfl) (@ah _ _ _ _ _ (pv 0) ag rfl)) ag rfl) rfl))) (by rfl))
   (aj (ba (@aH _ _ _ _ _ _ _ _ (yM hr) (pv 3) (@cu _ _ _ _ ag) (aF _)) (ao (aB (fX (dvs:=[.non]) MY Ry Lb (by rfl) cY.mgC TJ (.cons rfl .nil) af (@ah _ _ _ _ _ (pv 4) (@ah _ _ _ _ _ (pv 1) (@ah _ _ _ _ _ (pv 5) ag rfl) rfl) rfl) (by decide) (aU rfl) (by rw[aU rfl,aU rfl];rfl)))) aE)
   (ao (aB (fX MY Ry Lb (by rfl) cY.mgC L9 .nil af (@ah _ _ _ _ _ (pv 4) (@ah _ _ _ _ _ (pv 1) (@ah _ _ _ _ _ (pv 5) (@ah _ _ _ _ _ (bF (N:=["_law_terms_here","_law_field"]) (nl:=1) (js:=[4]) (osc:=ak zE) ⟨rfl,rfl,by decide +kernel,by decide +kernel,by decide +kernel,rfl,(.cons ⟨rfl,by decide +kernel⟩ .nil),by decide +kernel⟩ rfl
    (bY (pv 3))
    (λCq fq sq Hq=>aG (i:=0) (by show(["_law_terms_here","_law_field"]:Bg).Nodup;decide +kernel) rfl (Or.inl rfl) (Or.inr rfl))
    (λCq fq sq Hq=>bZ)
    (λCq fq sq Hq=>(fX MS XJ Ma (by rfl) cS.mgC Oc .nil af (@ah _ _ _ _ _ (pv 1) (@ah _ _ _ _ _ (bK (ou (K:=K) rfl) (by rfl) Hm (by rfl) (@ah _ _ _ _ _ (pv 0) ag rfl)) ag rfl) rfl)))) ag rfl) rfl) rfl) rfl))))))),?_⟩
  refine⟨_,rfl,λfl Hs h1 h2 ne=>?_⟩;refine sI h1 h2 ne hp λH1 s1 hf=>?_;have N9:fl∉F:=Lv.not h1;have hf:=c9 hf N9;have L1:=Lv.same s1;refine⟨_,rfl,A0,rfl,⟨_,aO.of (s1 _ _ hA)⟩,?_⟩;refine nt L1 (s1 _ _ hA) (hx.same s1) W1 f1 hp I8 hf λH2 as s2 hS=>?_;intro L hL;have s3:=ai (o:=.lst (as.map V.ref)) hL;have eL:upd H2 L (.lst (as.map V.ref)) L=some (.lst (as.map V.ref)):=ae;generalize upd H2 L _=H3 at s3 eL |-;have IE:=s1.trans (s2.trans s3);have hf3:=ck (F:=F) (s2.trans s3) _ _ hf;have hS:=hS.same (ck s3);refine⟨_,rfl,Nat.zero_le _,λe he=>?_⟩;have s4:=ai (o:=.lst []) he;have ee:upd H3 e (.lst []) e=some (.lst []):=ae;generalize upd H3 e _=H4 at s4 ee |-;have KH:=IE.trans s4;have L4:=Lv.same KH;have hy4:=hy.same KH;have TK:=ck (F:=F) s4 _ _ hf3;have XM:=s4 _ _ eL;have Lc:=hS.same (ck s4)
  have n0:0<=n:=by omega
  have yl:=hy.length;refine⟨B0,e,ys,rfl,rfl,aO.of (KH _ _ hB),aO.of ee,_,rfl,?_⟩
  by_cases z:ys=[]
  ·have zu:Hy=[]:=by
    rw[z] at yl;exact List.length_eq_zero_iff.mp yl.symm
   rw[decide_eq_true z];refine aZ ⟨_,rfl,_,rfl,_,rfl,λs dx g1 g2 gn=>?_⟩;refine FJ L4 (n:=n) (as:=as) (bs:=[]) ⟨⟨Hs,rfl,bQ _ _ TK⟩,rfl,n1,I8,qU hp n0 XM (Lc.same bQ) W1 f1,.inl ⟨rfl,rfl⟩⟩ N9 g1 g2 gn λH5 s5 hY=>?_;exact q H5 s fl as [] (KH.trans s5) hY (Lc.same (ck s5)) (by rw[zu];exact .nil)
  ·rw[decide_eq_false z];refine a9 ⟨_,rfl,_,rfl,_,rfl,_,rfl,B0,rfl,⟨_,aO.of (KH _ _ hB)⟩,?_⟩;refine nt L4 (KH _ _ hB) hy4 W2 f2 hp I8 TK λH5 bs s5 hT=>?_;intro M hM;have s6:=ai (o:=.lst (bs.map V.ref)) hM;have eM:upd H5 M (.lst (bs.map V.ref)) M=some (.lst (bs.map V.ref)):=ae;change CP _ (upd H5 M (.lst (bs.map V.ref))) _;generalize upd H5 M _=H6 at s6 eM |-;have Ld:=s5.trans s6;have p0:=u0 λz'=>z (by rw[z'] at yl;exact List.length_eq_zero_iff.mp yl);refine λs dx g1 g2 gn=>?_;refine FJ (L4.same Ld) (n:=n) (as:=as) (bs:=bs) ⟨⟨Hs,rfl,Ld _ _ (bQ _ _ TK)⟩,rfl,n1,I8,qU hp n0 (Ld _ _ XM) (Lc.same (bQ.trans Ld)) W1 f1,.inr ⟨qU hp n0 eM (hT.same (bQ.trans s6)) W2 f2,λ_=>p0⟩⟩ N9 g1 g2 gn λH7 s7 hY=>?_;exact q H7 s fl as bs (KH.trans (Ld.trans s7)) hY (Lc.same (ck (Ld.trans s7))) (hT.same (ck (s6.trans s7)))
end K66
namespace L2
open PySem PySem.Spec PyProof.Rows PySem.W
section
variable {X:Cx}
def vq (ta:TA):TE:=λσ H Q=>ta σ H λvs H1=>∃j:Int,vs=[.int j]/\(-(2^62)<=j/\j<2^62)/\j.toNat<=4000/\∀D,H1 D=none->Q (.ref D) (upd H1 D (.lst ((cg 0 j.toNat).map V.int)))
theorem gH {a:Expr}{ta:TA}{p p2 pos Jm:Pos}(ha:PA X [a] ta)(hc:X.calm=true)(SQ:Gl X "list")(SR:X.mg "list"=none)(hgr:Gl X "range")(hmr:X.mg "range"=none)(hs:starEach [a] X.env=[(false,eval a X.env)]:=by rfl):
 PE X (.Call (.Name "list" p) [.Call (.Name "range" p2) [a] [] Jm] [] pos) (vq ta):=by
 intro pins s σ H Q I h;refine wpAny_Call_Name_kw (dm I SQ SR (by rfl) ?_ (by decide) (by decide));refine callWith_type1 ?_ (aU rfl) rfl;rw[aU rfl];show wpAny _ _ (spliced ((false,eval (.Call (.Name "range" p2) [a] [] Jm) X.env):: backTo pos (starEach [] X.env))) _ _ s;refine Calls.spliced_cons ?_;refine wpAny_Call_Name_kw (dm I hgr hmr boot_range ?_ (by decide) (by decide));refine callWith_type1 (bu (ha Jm pins s σ H _ I h) λus s1 z'=>?_) hs rfl;obtain⟨vs,H1,I1,r1,q1⟩:=z';obtain⟨j,e,⟨q1,q2⟩,hz,q⟩:=q1;subst e
 cases r1 with
 |cons r rr =>
  cases rr
  obtain⟨t,rfl⟩:=r;refine call_range_1 ?_;refine Calls.spliced_nil ?_;have I2:Inv X pins σ H1 {s1 with heap:=s1.heap.push {cls:=.type "range",data:=.fields #[.int 0 s1.toks,.int j t,.int 1 (s1.toks+1)]},toks:=s1.toks+1+1}:=I1.kept λb o e=>Heap.get?_push_of_some _ e;refine call_list_range (n:=j.toNat) (I.ok.hd hc) (IsRange.new ..) (small_one (by decide) (by decide) q1 q2) (by rw[rangeSize_one];split <;> omega) (Nat.le_trans hz (by decide)) λh' tk acc c hk hD hI=>?_
  have fr:(s1.heap.push {cls:=.type "range",data:=.fields #[.int 0 s1.toks,.int j t,.int 1 (s1.toks+1)]}).get? (s1.heap.push {cls:=.type "range",data:=.fields #[.int 0 s1.toks,.int j t,.int 1 (s1.toks+1)]}).objs.size=none:=by
   cases e:(s1.heap.push {cls:=.type "range",data:=.fields #[.int 0 s1.toks,.int j t,.int 1 (s1.toks+1)]}).get? (s1.heap.push {cls:=.type "range",data:=.fields #[.int 0 s1.toks,.int j t,.int 1 (s1.toks+1)]}).objs.size with
   |none=>rfl
   |some o=>exact absurd (Heap.lt_size e) (Nat.lt_irrefl _)
  have hv:aK ((cg 0 j.toNat).map V.int) acc.toList:=by
   have z:=qP acc.toList 0 λk v hv=>by
    obtain⟨t,e⟩:=hI.2 k v (by simpa using hv);exact⟨t,by rw[e];simp⟩
   rw[Array.length_toList,hI.1] at z;exact z
  exact⟨.ref _,_,I2.newObj (t':=tk) (o:=.lst ((cg 0 j.toNat).map V.int)) hk fr ⟨by rw[List.length_map,jj];exact Nat.le_trans hz (by decide),acc.toList,c,hv,by simpa using hD⟩,rfl,q _ (I2.aba fr)⟩
end
end L2
namespace PySem.F
end PySem.F
namespace L2
open PySem PySem.Spec PyProof.Rows PySem.W
end L2
namespace ZpL
open PySem PyProof.Rows
end ZpL
namespace L2
open PySem PySem.Spec PyProof.Rows PySem.W
end L2
namespace Dcb
open PySem PyProof.Rows
end Dcb
namespace L2
open PySem PySem.Spec PyProof.Rows
end L2
namespace Dcc
open PySem PySem.Calls PyProof.Rows PySem.Spec
end Dcc
namespace L2
open PySem PySem.Spec PyProof.Rows PySem.W
end L2
namespace PySem.F
end PySem.F
namespace L2
open PySem PySem.Spec PyProof.Rows PySem.W
def acx:TS:=λ_ _ _=>False
section
variable {X:Cx}{pins:List (Addr×Obj)}{σ:St}{A:Around}{H:Hp}{s:CW}{E:yf}
theorem DQ {st:Stmt}:PS X st acx:=λ_ _ _ _ _ _ h=>h.elim
end
end L2
namespace K66
open PySem L2 PySem.W Nm Srt
abbrev uH:Stmt:=aN (aS 45) 8
theorem Do:yx sJ sJ (ak uH):=dJ (by decide +kernel)
variable {m l:Nat}{p n:Int}{ts:List Tm}
theorem pZ (W:Wi m l p n ts):Wi m l p n (bo ts):=⟨ue W.nd,λt ht=>W.tm t (gO ht),Nat.le_trans (jo ts) W.len⟩
variable {ns:List Int}
theorem kx (O:B7 ns n){ms:List Int}(perm:ms.Perm ns)(up:ms.Pairwise (· <= ·)):ms=cg 0 n.toNat :=
 List.Perm.eq_of_pairwise (le:=λa b:Int=>a<=b) (λa b _ _ h1 h2=>Int.le_antisymm h1 h2) up ((pI _ _).imp λh=>Int.le_of_lt h) (perm.trans O.pm)
theorem DU {H:Hp}:jD [] H:=λc hc=>(nomatch hc)
def mv (ns:List Int)(ts:List Tm):List Tm:=bo ((bo ts).map (xa ns))
theorem DI (O:B7 ns n)(W:Wi m l p n ts):Wi m l p n (mv ns ts):=pZ (lD O (pZ W))
theorem ui (O:B7 ns n)(W:Wi m l p n ts):bo (mv ns ts)=mv ns ts:=jq (lD O (pZ W)).nd
theorem tR (O:B7 ns n){Hk:List (List Tm)}(W:Ws p n Hk):Ws p n (Hk.map (mv ns)):=λt ht=>by
 obtain⟨u,hu,rfl⟩:=List.mem_map.mp ht;exact DI O (W u hu)
theorem i7 {C CF:Addr}{H:Hp}{K:PySem.W.Frag}{A a:Addr}{as:List Addr}{Hk:List (List Tm)}{n:Int}{G:List V->Hp->Prop}(hA:H A=some (.lst (as.map V.ref)))(hS:ph C CF H p as Hk)(W:Ws p n Hk)(few:Hk.length<=200)(hp:FP p)(ha:H a=some (.lst (ns.map V.int)))(O:B7 ns n)
 (q:∀H' IF,aw H H'->ph C CF H' p IF (Hk.map (mv ns))->G (IF.map V.ref) H'):
 ∃W':Nat->Nat->List V->St->Hp->Prop,(∃m,W' 0 m [] (none :: [some (.ref a)]) H)/\hV (zD K A) (bA 0) DF (tS C "renamed" (jM C CF) [] (λ_ _ _=>False) (cw 0) (bH (cw 1) CP)) W' G:=by
 have al:=hS.length;refine fR (a:=A) (xs:=as.map V.ref) (rest:=[some (.ref a)]) (λj us H'=>aw H H'/\∃bs:List Addr,us=bs.map V.ref/\ph C CF H' p bs ((Hk.take j).map (mv ns))) ⟨aw.refl _,[],rfl,.nil⟩ (λj us H' hj h=>?_) (λj x us H' M hj IW h hM=>?_) (λus H' h=>?_)
 ·obtain⟨sH,bs,rfl,hT⟩:=h;refine⟨?_,aO.of (sH _ _ hA)⟩;rw[List.length_map,hT.length,List.length_map,List.length_take];exact Nat.lt_of_le_of_lt (by omega:_<=200) (by decide)
 ·obtain⟨sH,bs,rfl,hT⟩:=h;rw[List.getElem?_map] at IW;obtain⟨c,ec,rfl⟩:=Option.map_eq_some_iff.mp IW;obtain⟨ts,et,z⟩:=bt hS ec;have w:=W ts (List.mem_of_getElem? et);have z:=z.same sH;obtain⟨dx,fl,Hs,D,zs,S1,S2,S3,S4⟩:=z.ex;refine mD ⟨_,rfl,c,dx,_,rfl,S1,rfl,_,rfl,?_⟩;refine⟨c,a,p,n,bo ts,3930,5,ns,rfl,z,hp,pZ w,by decide,by decide,sH _ _ ha,O,λH2 u s2 hu=>?_⟩;refine hM _ _ ⟨sH.trans s2,bs++[u],by rw[List.map_append];rfl,?_⟩;rw[List.take_add_one,et,Option.toList_some,List.map_append];refine Paired.snoc (hT.same s2) ?_;rw[ui O w];exact hu.r
 ·obtain⟨sH,bs,rfl,hT⟩:=h;rw[List.length_map,al,List.take_length] at hT;exact q H' bs sH hT
def yP (CS C CF:Addr):Sp:=λvs H Q _=>∃(s fl a:Addr)(p n:Int)(as bs:List Addr)(Hk Hy:List (List Tm))(ns:List Int),vs=[.ref s,.ref a]/\rf CS CF H s fl p n as bs/\FP p/\1<=n/\H a=some (.lst (ns.map V.int))/\B7 ns n/\ph C CF H p as Hk/\ph C CF H p bs Hy/\Ws p n Hk/\Ws p n Hy/\(Hy≠[]->p=0) /\
 ∀H' y IF Je,aw H H'->rf CS CF H' y fl p n IF Je->ph C CF H' p IF (Hk.map (mv ns))->ph C CF H' p Je (Hy.map (mv ns))->Q (.ref y) H'
variable {P:zr}{w:World}{K:PySem.W.Frag}{mg:vK}{base:Heap}
theorem Ad {f fo fr fy C CF CS CN:Addr}{fd I9 J1 MX:zI}(F:zA K "renamed" "System.renamed" uH f fd)(cS:C0 K mg C)(cY:Ga K mg CS)(Hi:mg "sorted"=none)(Hm:mg "list"=none)(Hl:mg "range"=none)
 (FO:Ha P w K mg base (aV P w) 3 fo I9 Cz CA)(bO:L2.aA K I9 Cz [])(mO:mg "is_order"=some (.ref fo))(kO:keepIn K (.ref fo)=true)
 (XN:Ha P w K mg base (aV P w) 9 fr J1 sJ (jM C CF))(XO:L2.aA K J1 sJ [])(XQ:Meth K C "renamed" fr)
 (MY:Mk K CS fy)(Ry:Ha P w K mg base (aV P w) 5 fy MX DL (AF CS C CF CN))(L9:L2.aA K MX DL []):
 Ha P w K mg base (aV P w) 10 f fd sJ (yP CS C CF):=by
 refine F.okE Do (λvs H Q E h=>?_) (λHn A outer s H vs Q E hr h=>?_)
 ·obtain⟨s,fl,a,p,n,as,bs,Hk,Hy,ns,rfl,_⟩:=h;rfl
 ·obtain⟨s0,fl,a,p,n,as,bs,Hk,Hy,ns,rfl,Y,hp,n1,ha,O,hS,hT,W1,W2,u0,q⟩:=h;have Rz:qL 9 _:=hr;have Lb:qL 6 _:=Rz.mono (by decide);have IQ:qL 3 _:=Rz.mono (by decide)
  refine⟨_,(aj (ba (PW.pt (dO (bJ (bD (av FO IQ (by rfl) mO kO bO .nil af (@ah _ _ _ _ _ (pv 1) ag rfl)))) (cN (@aH _ _ _ _ _ _ _ _ (iN hr) (az (ir rfl) (by rfl) Hi (by rfl) (@ah _ _ _ _ _ (pv 1) ag rfl)) (gH (@ah _ _ _ _ _ (b7 (pv 0) rfl) ag rfl) rfl (by rfl) Hm (by rfl) Hl) (aF _))))) (ao DQ) aE)
   (ao (aB (fX MY Ry Lb (by rfl) cY.mgC L9 .nil af (@ah _ _ _ _ _ (b7 (pv 0) rfl) (@ah _ _ _ _ _ (b7 (pv 0) rfl) (@ah _ _ _ _ _ (bF (N:=["nought","order"]) (nl:=1) (js:=[1]) (osc:=ak uH) ⟨rfl,rfl,by decide +kernel,by decide +kernel,by decide +kernel,rfl,(.cons ⟨rfl,by decide +kernel⟩ .nil),by decide +kernel⟩ rfl
    (bY (b7 (pv 0) rfl))
    (λCq fq sq Hq=>aG (i:=0) (by show(["nought","order"]:Bg).Nodup;decide +kernel) rfl (Or.inl rfl) (Or.inr rfl))
    (λCq fq sq Hq=>bZ)
    (λCq fq sq Hq=>(ip (pv 0) cS.cl XQ XN Rz XO .nil af (@ah _ _ _ _ _ (pv 1) ag rfl)))) (@ah _ _ _ _ _ (bF (N:=["upper","order"]) (nl:=1) (js:=[1]) (osc:=ak uH) ⟨rfl,rfl,by decide +kernel,by decide +kernel,by decide +kernel,rfl,(.cons ⟨rfl,by decide +kernel⟩ .nil),by decide +kernel⟩ rfl
    (bY (b7 (pv 0) rfl))
    (λCq fq sq Hq=>aG (i:=0) (by show(["upper","order"]:Bg).Nodup;decide +kernel) rfl (Or.inl rfl) (Or.inr rfl))
    (λCq fq sq Hq=>bZ)
    (λCq fq sq Hq=>(ip (pv 0) cS.cl XQ XN Rz XO .nil af (@ah _ _ _ _ _ (pv 1) ag rfl)))) ag rfl) rfl) rfl) rfl))))),?_⟩
  obtain⟨JF,Hs,A1,B1,hY,hf,hA,hB⟩:=Y.ex;have h60:=O.hi;have hl:=O.len;have al:=hS.length;have bl:=hT.length;have y1:=Y.l1;have y2:=Y.l2;refine⟨_,rfl,.ref a,some (ns.map V.int),rfl,.lst ha (by rw[List.length_map];omega) (λy hy=>?_),λH1 s1=>⟨_,rfl,?_⟩⟩
  ·obtain⟨b,_,rfl⟩:=List.mem_map.mp hy;exact⟨_,.int b⟩
  rw[O.all];refine a9 ?_;refine⟨_,rfl,a,ns,rfl,aO.of (s1 _ _ ha),by omega,λD1 ms hD perm up=>?_⟩;have em:=kx O perm up;subst em;have s2:=ai (o:=.lst ((cg 0 n.toNat).map V.int)) hD;have eD:upd H1 D1 (.lst ((cg 0 n.toNat).map V.int)) D1=some (.lst ((cg 0 n.toNat).map V.int)):=ae;generalize upd H1 D1 _=H2 at s2 eD |-;have IU:=s1.trans s2;refine⟨_,rfl,s0,CS,JF,_,_,rfl,IU _ _ hY,cY.cl,cY.nP,rfl,n,rfl,⟨by omega,by omega⟩,by omega,λD2 Im=>?_⟩;have s3:=ai (o:=.lst ((cg 0 n.toNat).map V.int)) Im;have IS:upd H2 D2 (.lst ((cg 0 n.toNat).map V.int)) D2=some (.lst ((cg 0 n.toNat).map V.int)):=ae;generalize upd H2 D2 _=H3 at s3 IS |-;have IE:=IU.trans s3;have eD:=s3 _ _ eD
  have dl:∀{c:Addr},H3 c=some (.lst ((cg 0 n.toNat).map V.int))->aC K H3 (.lst ((cg 0 n.toNat).map L2.D.int)) (.ref c):=λ{c} e=>by
   unfold aC;exact⟨c,_,rfl,aO.of e,du _⟩
  refine⟨_,_,dl eD,dl IS,(by unfold dM;have:=jb (cg 0 n.toNat);unfold dM at this;omega),_,rfl,?_⟩;rw[cq];refine a9 ?_;refine⟨_,rfl,s0,CS,JF,_,_,rfl,IE _ _ hY,cY.cl,cY.nF,rfl,_,rfl,s0,CS,JF,_,_,rfl,IE _ _ hY,cY.cl,cY.nP,rfl,?_⟩;refine⟨_,rfl,s0,CS,JF,_,_,rfl,IE _ _ hY,cY.cl,cY.nN,rfl,A1,rfl,⟨_,aO.of (IE _ _ hA)⟩,?_⟩;refine i7 (n:=n) (IE _ _ hA) (hS.same IE) W1 (by omega) hp (IE _ _ ha) O λH4 IF s4 JZ=>?_;intro L hL;have s5:=ai (o:=.lst (IF.map V.ref)) hL;have eL:upd H4 L (.lst (IF.map V.ref)) L=some (.lst (IF.map V.ref)):=ae;change bH _ _ _ (upd H4 L (.lst (IF.map V.ref))) _;generalize upd H4 L _=H5 at s5 eL |-;have Le:=IE.trans (s4.trans s5);refine⟨_,rfl,s0,CS,JF,_,_,rfl,Le _ _ hY,cY.cl,cY.nU,rfl,B1,rfl,⟨_,aO.of (Le _ _ hB)⟩,?_⟩;refine i7 (n:=n) (Le _ _ hB) (hT.same Le) W2 (by omega) hp (Le _ _ ha) O λH6 Je s6 TL=>?_;intro M hM;have s7:=ai (o:=.lst (Je.map V.ref)) hM;have eM:upd H6 M (.lst (Je.map V.ref)) M=some (.lst (Je.map V.ref)):=ae;change CP _ (upd H6 M (.lst (Je.map V.ref))) _;generalize upd H6 M _=H7 at s7 eM |-;have RD:=Le.trans (s6.trans s7)
  have n0:0<=n:=by omega
  refine λy dy g1 g2 gn=>?_;refine FJ DU (n:=n) (as:=IF) (bs:=Je) ⟨⟨Hs,rfl,RD _ _ hf⟩,rfl,n1,h60,qU hp n0 ((s6.trans s7) _ _ eL) (JZ.same (s5.trans (s6.trans s7))) (tR O W1) (by rw[List.length_map];omega),.inr ⟨qU hp n0 eM (TL.same s7) (tR O W2) (by rw[List.length_map];omega),λz=>u0 λe=>z ?_⟩⟩ (λh=>(nomatch h)) g1 g2 gn λH8 s8 hY8=>?_
  ·have:=TL.length;rw[e] at this;exact List.length_eq_zero_iff.mp this
  ·exact q H8 y IF Je (RD.trans s8) (hY8.same bQ) (JZ.same ((s5.trans (s6.trans s7)).trans s8)) (TL.same (s7.trans s8))
end K66
namespace Srt
open PySem PySem.W PyProof.Rows
structure Pw (n:Nat)(p:Array Nat):Prop where
 size:p.size=n
 lt:∀k,k<n->p.getD k 0<n
 perm:p.Perm (List.range n).toArray
variable {p:Array Nat}{m i k:Nat}
section
variable {n:Nat}{r:Nat->Nat}
theorem uC (hp:p.Perm (List.range n).toArray):Pw n p:=by
 have hl:p.toList.Perm (List.range n):=by simpa using hp.toList
 have hs:p.size=n:=by rw[<-Array.length_toList,hl.length_eq,List.length_range]
 refine⟨hs,λk hk=>?_,hp⟩
 have hm:p.getD k 0∈p.toList:=by
  rw[show p.getD k 0=p[k]'(by omega) by simp[Array.getD,hs,hk]];exact Array.mem_toList_iff.mpr (Array.getElem_mem _)
 exact List.mem_range.mp (hl.mem_iff.mp hm)
def mn (r:Nat->Nat)(p:Array Nat)(m:Nat):Prop:=∀i j,i<j->j<m->r (p.getD i 0)<=r (p.getD j 0)
def wD (r:Nat->Nat)(p:Array Nat)(m:Nat):Prop:=∀i j,i<j->j<m->r (p.getD j 0)<=r (p.getD i 0)
theorem mn.succ (h:mn r p m)(h1:1<=m)(e:r (p.getD (m-1) 0)<=r (p.getD m 0)):mn r p (m+1):=λi j HW hj=>by
 by_cases z:j=m
 ·subst z
  by_cases z2:i=j-1
  ·subst z2;exact e
  ·exact Nat.le_trans (h i (j-1) (by omega) (by omega)) e
 ·exact h i j HW (by omega)
theorem wD.succ (h:wD r p m)(h1:1<=m)(e:r (p.getD m 0)<=r (p.getD (m-1) 0)):wD r p (m+1):=λi j HW hj=>by
 by_cases z:j=m
 ·subst z
  by_cases z2:i=j-1
  ·subst z2;exact e
  ·exact Nat.le_trans e (h i (j-1) (by omega) (by omega))
 ·exact h i j HW (by omega)
theorem zp (hm:m<=p.size)(hk:k<p.size):(kas_rev p i m).getD k 0=if i<=k/\k<m then p.getD (i+m-1-k) 0 else p.getD k 0:=by
 have e:=getElem?_mirror_all (xs:=p) (i:=i) hm k;have hs:(kas_rev p i m).size=p.size:=mirror_size _ _ _ _;have e2:(kas_rev p i m)[k]?=some ((kas_rev p i m).getD k 0):=getD_some (by rw[hs];exact hk)
 have e3:(kas_rev p i m)[k]?=if i<=k/\k<m then p[i+m-1-k]? else p[k]?:=e
 rw[e2] at e3
 by_cases h:i<=k/\k<m
 ·rw[if_pos h,getD_some (by omega)] at e3;rw[if_pos h];exact Option.some.inj e3
 ·rw[if_neg h,getD_some hk] at e3;rw[if_neg h];exact Option.some.inj e3
theorem Pw.rev (P:Pw n p)(i m:Nat):Pw n (kas_rev p i m):=uC ((mirror_perm _ _ _ _).trans P.perm)
theorem wD.rev (h:wD r p m)(hm:m<=p.size):mn r (kas_rev p 0 m) m:=λi j HW hj=>by
 rw[kc hm (by omega),kc hm (by omega),if_pos (by omega),if_pos hj];exact h _ _ (by omega) (by omega)
theorem fO (hm:m<=p.size)(e:∀k,i<=k->k<m->r (p.getD k 0)=r (p.getD (m-1) 0))(hk:k<p.size):r ((kas_rev p i m).getD k 0)=r (p.getD k 0):=by
 rw[zp hm hk]
 by_cases h:i<=k/\k<m
 ·rw[if_pos h,e _ (by omega) (by omega),e k h.1 h.2]
 ·rw[if_neg h]
theorem wD.turn {l:Nat}(h:wD r p l)(hm:m<=p.size)(hl:l<=p.size)(e:∀k,i<=k->k<m->r (p.getD k 0)=r (p.getD (m-1) 0)):wD r (kas_rev p i m) l:=λa b LQ hb=>by
 rw[fO hm e (by omega),fO hm e (by omega)];exact h a b LQ hb
variable {cmp:Nat->Nat->(Bool->Shared->Prop)->Shared->Prop}{s:CW}
theorem Dm (hc:∀i j C,i<n->j<n->C (decide (r i<r j)) s->cmp i j C s)(P:Pw n p){Q:Nat->Shared->Prop}:∀(f m:Nat),1<=m->m+f=n->mn r p m →
 (∀m',m<=m'->m'<=n->mn r p m'->(m'<n->r (p.getD m' 0)<r (p.getD (m'-1) 0))->Q m' s)->(kas_asc p f m).kasWp cmp Q s
 |0,m,h1,hm,hu,hQ=>hQ m (Nat.le_refl _) (by omega) hu λh=>by omega
 |f+1,m,h1,hm,hu,hQ=>by
  refine hc _ _ _ (P.lt m (by omega)) (P.lt (m-1) (by omega)) ?_;show((if decide (r (p.getD m 0)<r (p.getD (m-1) 0))=true then KasT.ret m else kas_asc p f (m+1)).kasWp cmp Q s)
  by_cases h:r (p.getD m 0)<r (p.getD (m-1) 0)
  ·rw[if_pos (decide_eq_true h)];exact hQ m (Nat.le_refl _) (by omega) hu λ_=>h
  ·rw[if_neg (by simpa using h)];exact Dm hc P f (m+1) (by omega) (by omega) (hu.succ h1 (by omega)) λm' h2=>hQ m' (by omega)
def CI (r:Nat->Nat)(p:Array Nat)(m q:Nat):Prop:=q<m/\∀k,m-(q+1)<=k->k<m->r (p.getD k 0)=r (p.getD (m-1) 0)
theorem wL (h:1<=m):CI r p m 0:=⟨by omega,λk h1 h2=>by rw[show k=m-1 by omega]⟩
theorem tP (hc:∀i j C,i<n->j<n->C (decide (r i<r j)) s->cmp i j C s){Q:Array Nat×Nat×Nat->Shared->Prop}:∀(f:Nat)(p:Array Nat)(m q:Nat),Pw n p->1<=m->m+f=n->wD r p m->CI r p m q →
 (∀p' m' q',Pw n p'->m<=m'->m'<=n->wD r p' m'->CI r p' m' q'->Q (p',m',q') s)->(kas_desc f p m q).kasWp cmp Q s
 |0,p,m,q,P,h1,hm,hu,ht,hQ=>hQ p m q P (Nat.le_refl _) (by omega) hu ht
 |f+1,p,m,q,P,h1,hm,hu,ht,hQ=>by
  refine hc _ _ _ (P.lt m (by omega)) (P.lt (m-1) (by omega)) ?_;have sz:=P.size
  by_cases h:r (p.getD m 0)<r (p.getD (m-1) 0)
  ·rw[decide_eq_true h];show((if q>0 then kas_desc f (kas_rev p (m-(q+1)) m) (m+1) 0 else kas_desc f p (m+1) 0).kasWp cmp Q s);have d2:=hu.succ h1 (Nat.le_of_lt h)
   by_cases hq:q>0
   ·rw[if_pos hq];exact tP hc f _ (m+1) 0 (P.rev _ _) (by omega) (by omega) (d2.turn (by omega) (by omega) ht.2) (wL (by omega)) λp' m' q' a b=>hQ p' m' q' a (by omega)
   ·rw[if_neg hq];exact tP hc f _ (m+1) 0 P (by omega) (by omega) d2 (wL (by omega)) λp' m' q' a b=>hQ p' m' q' a (by omega)
  ·rw[decide_eq_false h];refine hc _ _ _ (P.lt (m-1) (by omega)) (P.lt m (by omega)) ?_
   by_cases h3:r (p.getD (m-1) 0)<r (p.getD m 0)
   ·rw[decide_eq_true h3];exact hQ p m q P (Nat.le_refl _) (by omega) hu ht
   ·rw[decide_eq_false h3]
    have e:r (p.getD m 0)=r (p.getD (m-1) 0):=by omega
    refine tP hc f p (m+1) (q+1) P (by omega) (by omega) (hu.succ h1 (by omega)) ⟨by have:=ht.1;omega,λk k1 k2=>?_⟩ λp' m' q' a b=>hQ p' m' q' a (by omega);rw[show m+1-1=m by omega]
    by_cases z:k=m
    ·rw[z]
    ·rw[ht.2 k (by have:=ht.1;omega) (by omega),e]
theorem xn (hc:∀i j C,i<n->j<n->C (decide (r i<r j)) s->cmp i j C s)(P:Pw n p){Q:Nat×Array Nat->Shared->Prop}(h1:1<=m)(hm:m<=n)(hd:wD r p m)
 (hQ:∀m' p',m'<=n->1<=m'->Pw n p'->mn r p' m'->Q (m',p') s):(kas_tail3 m n p).kasWp cmp Q s:=by
 unfold kas_tail3;rw[KasT.kasWp_bind];have P':=P.rev 0 m;exact Dm hc P' (n-m) m h1 (by omega) (hd.rev (by rw[P.size];exact hm)) λm' h2 h3 h4 _=>hQ m' _ h3 (by omega) P' h4
theorem oq (hc:∀i j C,i<n->j<n->C (decide (r i<r j)) s->cmp i j C s)(P:Pw n p){Q:Nat×Array Nat->Shared->Prop}(h1:1<=m)(hm:m<n)(hd:wD r p m)(e:r (p.getD m 0)<r (p.getD (m-1) 0))
 (hQ:∀m' p',m'<=n->1<=m'->Pw n p'->mn r p' m'->Q (m',p') s):(kas_descPart m n p).kasWp cmp Q s:=by
 unfold kas_descPart;rw[KasT.kasWp_bind];refine tP hc (n-(m+1)) p (m+1) 0 P (by omega) (by omega) (hd.succ h1 (Nat.le_of_lt e)) (wL (by omega)) λp' m' q' P' h2 h3 h4 h5=>?_;have sz:=P'.size;show((if q'>0 then kas_tail3 m' n (kas_rev p' (m'-(q'+1)) m') else kas_tail3 m' n p').kasWp cmp Q s)
 by_cases hq:q'>0
 ·rw[if_pos hq];exact xn hc (P'.rev _ _) (by omega) h3 (h4.turn (by omega) (by omega) h5.2) hQ
 ·rw[if_neg hq];exact xn hc P' (by omega) h3 h4 hQ
theorem BS (hc:∀i j C,i<n->j<n->C (decide (r i<r j)) s->cmp i j C s)(h0:1<=n)(P:Pw n p){Q:Nat×Array Nat->Shared->Prop}
 (hQ:∀m' p',m'<=n->1<=m'->Pw n p'->mn r p' m'->Q (m',p') s):(kas_count n p).kasWp cmp Q s:=by
 unfold kas_count;rw[KasT.kasWp_bind];have sz:=P.size;refine Dm hc P (n-1) 1 (Nat.le_refl _) (by omega) (λi j HW hj=>by omega) λm h1 h2 h3 h4=>?_
 by_cases e:m=n
 ·subst e;rw[if_pos (by simp)];exact hQ _ _ (Nat.le_refl _) h1 P h3
 ·rw[if_neg (by simpa using e)]
  by_cases h5:m>1
  ·rw[if_pos h5];refine hc _ _ _ (P.lt 0 (by omega)) (P.lt (m-1) (by omega)) ?_
   by_cases h6:r (p.getD 0 0)<r (p.getD (m-1) 0)
   ·rw[decide_eq_true h6];exact hQ _ _ h2 h1 P h3
   ·rw[decide_eq_false h6];show((kas_descPart m n (kas_rev p 0 m)).kasWp cmp Q s)
    have al:∀k,0<=k->k<m->r (p.getD k 0)=r (p.getD (m-1) 0):=λk _ hk=>by
     have a1:r (p.getD 0 0)<=r (p.getD k 0):=by
      by_cases z:k=0
      ·rw[z];exact Nat.le_refl _
      ·exact h3 0 k (by omega) hk
     have a2:r (p.getD k 0)<=r (p.getD (m-1) 0):=by
      by_cases z:k=m-1
      ·rw[z];exact Nat.le_refl _
      ·exact h3 k (m-1) (by omega) (by omega)
     omega
    refine oq hc (P.rev 0 m) h1 (by omega) (λi j HW hj=>?_) ?_ hQ
    ·rw[fO (by omega) al (by omega),fO (by omega) al (by omega),al j (by omega) hj,al i (by omega) (by omega)];exact Nat.le_refl _
    ·rw[fO (by omega) al (by omega),fO (by omega) al (by omega)];exact h4 (by omega)
  ·rw[if_neg h5];exact oq hc P h1 (by omega) (λi j HW hj=>by omega) (h4 (by omega)) hQ
theorem se (hc:∀i j C,i<n->j<n->C (decide (r i<r j)) s->cmp i j C s)(P:Pw n p){Q:Nat->Shared->Prop}(hk:k<n)(hu:mn r p k):∀(f l q:Nat),l<=q->q<=k->q-l<=f->(∀j,j<l->r (p.getD j 0)<=r (p.getD k 0))->(∀j,q<=j->j<k->r (p.getD k 0)<=r (p.getD j 0)) →
 (∀l',l'<=k->(∀j,j<l'->r (p.getD j 0)<=r (p.getD k 0))->(∀j,l'<=j->j<k->r (p.getD k 0)<=r (p.getD j 0))->Q l' s)->(kas_place p k f l q).kasWp cmp Q s
 |0,l,q,h1,h2,h3,h4,h5,hQ=>hQ l (by omega) h4 λj h6 h7=>h5 j (by omega) h7
 |f+1,l,q,h1,h2,h3,h4,h5,hQ=>by
  unfold kas_place
  by_cases h:l ≥ q
  ·rw[if_pos h];exact hQ l (by omega) h4 λj h6 h7=>h5 j (by omega) h7
  ·rw[if_neg h];refine hc _ _ _ (P.lt k hk) (P.lt ((l+q)/2) (by omega)) ?_
   by_cases z:r (p.getD k 0)<r (p.getD ((l+q)/2) 0)
   ·rw[decide_eq_true z];refine se hc P hk hu f l ((l+q)/2) (by omega) (by omega) (by omega) h4 (λj h6 h7=>?_) hQ
    by_cases e:j=(l+q)/2
    ·subst e;omega
    ·have:=hu ((l+q)/2) j (by omega) h7;omega
   ·rw[decide_eq_false z];refine se hc P hk hu f ((l+q)/2+1) q (by omega) h2 (by omega) (λj h6=>?_) h5 hQ
    by_cases e:j=(l+q)/2
    ·subst e;omega
    ·have:=hu j ((l+q)/2) (by omega) (by omega);omega
theorem Eb (hc:∀i j C,i<n->j<n->C (decide (r i<r j)) s->cmp i j C s){Q:Array Nat->Shared->Prop}(hQ:∀p',Pw n p'->mn r p' n->Q p' s):∀(f:Nat)(p:Array Nat)(k:Nat),Pw n p->k+f=n->mn r p k->(kas_bin f p k).kasWp cmp Q s
 |0,p,k,P,hk,hu=>hQ p P (by rw[<-hk];exact hu)
 |f+1,p,k,P,hk,hu=>by
  unfold kas_bin;rw[KasT.kasWp_bind];refine se hc P (by omega) hu k 0 k (Nat.zero_le _) (Nat.le_refl _) (by omega) (λj h=>by omega) (λj h1 h2=>by omega) λl h1 h2 h3=>?_;have P':Pw n (bubble p k (k-l)):=uC ((bubble_perm _ _ _).trans P.perm);refine Eb hc hQ f _ (k+1) P' (by omega) λi j HW hj=>?_;have sz:=P.size;rw[j5 (by omega) h1 (by omega),j5 (by omega) h1 (by omega)]
  by_cases e1:i=l
  ·rw[if_pos e1,if_neg (by omega),if_pos ⟨by omega,by omega⟩];exact h3 _ (by omega) (by omega)
  ·rw[if_neg e1]
   by_cases e2:j=l
   ·rw[if_pos e2,if_neg (by omega)];exact h2 _ (by omega)
   ·rw[if_neg e2]
    by_cases e3:l<j
    ·rw[if_pos (show l<j/\j<=k from⟨e3,by omega⟩)]
     by_cases e4:l<i
     ·rw[if_pos ⟨e4,by omega⟩];exact hu _ _ (by omega) (by omega)
     ·rw[if_neg (by omega)]
      by_cases e5:i=j-1
      ·subst e5;exact Nat.le_refl _
      ·exact hu _ _ (by omega) (by omega)
    ·rw[if_neg (by omega),if_neg (by omega)];exact hu _ _ HW (by omega)
theorem EV (hc:∀i j C,i<n->j<n->C (decide (r i<r j)) s->cmp i j C s)(h0:1<=n){Q:Array Nat->Shared->Prop}(hQ:∀p',Pw n p'->mn r p' n->Q p' s):(kas_sort n).kasWp cmp Q s:=by
 unfold kas_sort;rw[KasT.kasWp_bind];refine BS hc h0 (uC (Array.Perm.refl _)) λm p h1 h2 P hu=>?_;show((if m<n then kas_bin (n-max m 1) p (max m 1) else KasT.ret p).kasWp cmp Q s)
 by_cases h:m<n
 ·rw[if_pos h,show max m 1=m by omega];exact Eb hc hQ _ _ _ P (by omega) hu
 ·rw[if_neg h]
  have e:m=n:=by omega
  subst e;exact hQ p P hu
end
variable {vs:oN}
section
variable {prog:zr}{w:World}{A:Around}{E:yf}{s:CW}
def lG (prog:zr)(w:World)(A:Around)(ks:oN)(r:Nat->Nat)(s:CW):Prop :=
 ∃κ,(∀Q:SortKind->Shared->Prop,Q κ s->wpAny (model prog w) A (keyKind' ks.toArray) Q (λ_ _=>False) s)/\∀i j C,i<ks.length->j<ks.length->C (decide (r i<r j)) s->kas_ask prog w A κ ks i j C s
theorem sY (P:Pw vs.length p):(cG vs p).length=vs.length:=by
 unfold cG;rw[List.length_map,Array.length_toList,P.size]
theorem mE {a:Addr}{n:Nat}{r:Nat->Nat}{P:PySem.Fin->Shared->Prop}(ho:s.heap.get? a=some (seqObj "list" vs.toArray n))(h64:vs.length<64)
 (hk:2<=vs.length->∀h',xy a s.heap h'->lG prog w A vs r {s with heap:=h'})
 (hP:∀h' p c,xy a s.heap h'->h'.get? a=some (seqObj "list" (cG vs p).toArray c)->Pw vs.length p->mn r p vs.length->P (.done (.ret .none)) {s with heap:=h'}):
 wpAny (model prog w) A (Builtin.«list.sort» ⟨[.ref a],[]⟩) P E s:=by
 have ha:a<s.heap.objs.size:=Heap.lt_size ho;obtain⟨e1,XR⟩:∃e1,(s.heap.update a (Obj.mapSeq λ_=>(#[]:vd))).get? a=some (seqObj "list" #[] e1):=⟨_,get?_update_seq ho λ_=>#[]⟩;rw[list_sort_plain];refine wpAny_bind (listItems_at ho rfl (wpAny_bind (listUpdate_at ho rfl (wpAny_bind (seqEpoch_at XR rfl (wpAny_bind (wpAny_newTuple (wpAny_bind (wpAny_newList ?_ (Nat.zero_le _))) (cZ h64))))) (by rw[List.size_toArray];exact cZ h64) (Nat.zero_le _))));refine wpAny_holding (?_:wpAny (model prog w) A _ P E {s with heap:=((s.heap.update a (Obj.mapSeq λ_=>(#[]:vd))).push (seqObj "tuple" vs.toArray 0)).push (seqObj "list" #[] 0)});have kp:xy a s.heap (((s.heap.update a (Obj.mapSeq λ_=>(#[]:vd))).push (seqObj "tuple" vs.toArray 0)).push (seqObj "list" #[] 0)):=Al;have MZ:(((s.heap.update a (Obj.mapSeq λ_=>(#[]:vd))).push (seqObj "tuple" vs.toArray 0)).push (seqObj "list" #[] 0)).get? a=some (seqObj "list" #[] e1):=Heap.get?_push_of_some _ (Heap.get?_push_of_some _ XR);generalize ((s.heap.update a (Obj.mapSeq λ_=>(#[]:vd))).push (seqObj "tuple" vs.toArray 0)).push (seqObj "list" #[] 0)=h6 at kp MZ |-
 have fin:∀p,Pw vs.length p->mn r p vs.length->P (.done (.ret .none)) {s with heap:=h6.update a (Obj.mapSeq λ_=>(cG vs p).toArray)}:=λp pm up=>by
  obtain⟨c2,Kn⟩:∃c2,(h6.update a (Obj.mapSeq λ_=>(cG vs p).toArray)).get? a=some (seqObj "list" (cG vs p).toArray c2):=⟨_,get?_update_seq MZ λ_=>(cG vs p).toArray⟩;exact hP _ p c2 (λb o hb e=>by rw[Heap.get?_update_ne _ _ _ _ hb];exact kp b o hb e) Kn pm up
 have last:∀p,Pw vs.length p->(List.toArray (cG vs p)).size<=sizeLine:=λp pm=>by rw[List.size_toArray,sY pm];exact cZ h64
 dsimp only
 by_cases h2:vs.toArray.size<2
 ·have small:vs.length<2:=by simpa using h2
  rw[if_pos h2,if_pos h2];refine wpAny_bind (wpAny_pure ?_);rw[StateT.run_pure];refine wpAny_bind (wpAny_pure ?_)
  have hm:(arrOf (SortSt.mk' general' (vs.toArray.zip vs.toArray) #[] 7 none)).map (·.2)=(cG vs (List.range vs.length).toArray).toArray:=by
   rw[qd];show(vs.toArray.zip vs.toArray).map (·.2)=vs.toArray;apply Array.toList_inj.mp;simp[List.map_snd_zip]
  have P0:Pw vs.length (List.range vs.length).toArray:=uC (Array.Perm.refl _)
  have U0:mn r (List.range vs.length).toArray vs.length:=λi j HW hj=>by omega
  dsimp only;rw[hm];refine wpAny_bind (seqEpoch_at MZ rfl (wpAny_bind (listUpdate_at MZ rfl ?_ (Nat.zero_le _) (Nat.le_succ_of_le (last _ P0)))));simp only[bne_self_eq_false,Bool.false_eq_true,if_false];exact wpAny_pure (fin _ P0 U0)
 ·have big:2<=vs.length:=by simpa using h2
  rw[if_neg h2,if_neg h2];obtain⟨κ,IX,L6⟩:=hk big h6 kp;refine wpAny_bind (wpAny_mono (IX (λκ' s0=>(kas_sort vs.length).kasWp (kas_ask prog w A κ' vs) (λp s'=>s'={s with heap:=h6}/\Pw vs.length p/\mn r p vs.length) s0) (EV (n:=vs.length) (r:=r) L6 (by omega) (Q:=λp s'=>s'={s with heap:=h6}/\Pw vs.length p/\mn r p vs.length) λp pm up=>⟨rfl,pm,up⟩)) (λκ' s0 hw=>?_) λ_ _ x=>x.elim);refine wpAny_bind (wpAny_mono (kat_run (κ:=κ') (Q:=λIk s'=>∃p:Array Nat,arrOf Ik=p.map (kas_item (vs.toArray.zip vs.toArray))/\failedOf Ik=none/\s'={s with heap:=h6}/\Pw vs.length p/\mn r p vs.length) rfl big h64 (λp' Ik s' _ a2 a3 a4=>⟨p',a2,a3,a4⟩) hw) ?_ λ_ _ e=>e);rintro⟨⟨⟩,Ik⟩ s' ⟨p,NT,hf,rfl,pm,up⟩;dsimp only;rw[kat_snds rfl NT];refine wpAny_bind (seqEpoch_at MZ rfl (wpAny_bind (listUpdate_at MZ rfl ?_ (Nat.zero_le _) (Nat.le_succ_of_le (last _ pm)))));rw[hf];simp only[bne_self_eq_false,Bool.false_eq_true,if_false];exact wpAny_pure (fin p pm up)
theorem tE {l:Addr}{r:Nat->Nat}{Q:yf}(hl:s.heap.IsList l vs.toArray)(h64:vs.length<64)
 (hk:2<=vs.length->∀h',(∀b o,s.heap.get? b=some o->h'.get? b=some o)->lG prog w A.in1.in1 vs r {s with heap:=h'})
 (hQ:∀h' D p c,(∀b o,s.heap.get? b=some o->h'.get? b=some o)->s.heap.get? D=none->h'.get? D=some (seqObj "list" (cG vs p).toArray c)->Pw vs.length p->mn r p vs.length->Q (.ref D) {s with heap:=h'}):
 wpAny (model prog w) A (call (.builtin "sorted") [.ref l]) Q E s:=by
 refine Calls.call_function_entry kind_sorted plain_sorted entry_sorted (args_sorted1 _) ?_;unfold Builtin.«sorted»;refine wpAny_bind (m:=checkCount "sorted" 1 1 _) (wpAny_pure (wpAny_bind (collect_list hl (wpAny_bind (wpAny_newList ?_ (cZ h64))) (cZ h64))))
 have sz:((s.heap.push (seqObj "list" #[] 0)).update s.heap.objs.size (Obj.mapSeq (·++vs.toArray))).objs.size=s.heap.objs.size+1:=by rw[Heap.size_update];exact size_push' _ _
 have L7:(((s.heap.push (seqObj "list" #[] 0)).update s.heap.objs.size (Obj.mapSeq (·++vs.toArray))).push (seqObj "list" vs.toArray 0)).get? (s.heap.objs.size+1)=some (seqObj "list" vs.toArray 0):=by
  rw[<-sz];exact Heap.get?_push_size _ rfl
 have old:∀b o,s.heap.get? b=some o->(((s.heap.push (seqObj "list" #[] 0)).update s.heap.objs.size (Obj.mapSeq (·++vs.toArray))).push (seqObj "list" vs.toArray 0)).get? b=some o:=λb o q=>by
  have lt:b<s.heap.objs.size:=Heap.lt_size q;refine Heap.get?_push_of_some _ ?_;rw[Heap.get?_update_ne _ _ _ _ (Nat.ne_of_lt lt)];exact Heap.get?_push_of_some _ q
 have new:s.heap.get? (s.heap.objs.size+1)=none:=Heap.get?_none_of_le (Nat.le_succ _);show wpAny _ _ _ _ _ {s with heap:=((s.heap.push (seqObj "list" #[] 0)).update s.heap.objs.size (Obj.mapSeq (·++vs.toArray))).push (seqObj "list" vs.toArray 0)};rw[sz];generalize ((s.heap.push (seqObj "list" #[] 0)).update s.heap.objs.size (Obj.mapSeq (·++vs.toArray))).push (seqObj "list" vs.toArray 0)=h5 at L7 old |-;have kp:∀h',xy (s.heap.objs.size+1) h5 h'->∀b o,s.heap.get? b=some o->h'.get? b=some o:=λh' k b o q=>k b o (λz=>by rw[z,new] at q;cases q) (old b o q);refine wpAny_bind (wpAny_holding (wpAny_call_entry slot_list_sort ⟨_,L7,rfl⟩ entry_list_sort (mE (s:={s with heap:=h5}) (r:=r) L7 h64 (λb h' k=>hk b h' (kp h' k)) λh' p c k e pm up=>⟨_,rfl,?_⟩) (args_list_sort _)));exact wpAny_pure ⟨_,rfl,hQ h' _ p c (kp h' k) new e pm up⟩
end
end Srt
namespace L2
open PySem PySem.W PyProof.Rows
mutual
def jO:D->D->Bool
 | .int a,.int b=>decide (a<b)
 | .tup a,.tup b=>cc a b
 | .lst a,.lst b=>cc a b
 |_,_=>false
def cc:List D->List D->Bool
 |[],[]=>false
 |[],_::_=>true
 |_::_,[]=>false
 |a::as,b::bs=>if dY a b=true then cc as bs else jO a b
end
mutual
def rj:D->D->Bool
 | .int _,.int _=>true
 | .tup a,.tup b=>cO a b
 | .lst a,.lst b=>cO a b
 |_,_=>false
def cO:List D->List D->Bool
 |a::as,b::bs=>(dY a b || rj a b)&&cO as bs
 |_,_=>true
end
def E2 (A:Around)(s:CW)(y x:Value)(b:Bool):Prop:=∀(prog:zr)(w:World)(E:yf)(Q:yf),Q (.bool b) s->wpAny (model prog w) A (richCompare .Lt y x) Q E s
inductive EL (A:Around)(s:CW):List Value->List Value->List D->List D->Prop
 |abv {ws:oN}{es:List D}:ws.length=es.length->EL A s [] ws [] es
 |abw {vs:oN}{ds:List D}:vs.length=ds.length->EL A s vs [] ds []
 |cons {v w:Value}{vs ws:oN}{d e:D}{ds es:List D}:SeqAt.EqAt A s v w (dY d e)->(dY d e=false->E2 A s v w (jO d e))->EL A s vs ws ds es->EL A s (v::vs) (w::ws) (d::ds) (e::es)
theorem EL.len {A:Around}{s:CW}{vs ws:oN}{ds es:List D}(h:EL A s vs ws ds es):vs.length=ds.length/\ws.length=es.length:=by
 induction h with
 |abv h=>exact⟨rfl,h⟩
 |abw h=>exact⟨h,rfl⟩
 |cons _ _ _ ih=>exact⟨congrArg (·+1) ih.1,congrArg (·+1) ih.2⟩
section
open PySem.SeqAt
open PySem.AutoSeq1 (wpAny_loadPart')
open PySem.MeetsSeq PySem.MeetsSeq2 PySem.MeetsSeq3
theorem jT (l b:Addr)(items Hj:vd)(n n2:Nat)(dd Il:Cw)(sl Ib:Ei)(ds es:List D):
 Meets (Builtin.«tuple.__lt__» ⟨[.ref l,.ref b],[]⟩)
  (λA R s=>s.heap.get? l=some {cls:=.type "tuple",dict:=dd,data:=.seq items n,slots:=sl}/\s.heap.get? b=some {cls:=.type "tuple",dict:=Il,data:=.seq Hj n2,slots:=Ib} /\
   EL A.in1 s items.toList Hj.toList ds es/\R (.ok (.ret (.bool (cc ds es)))) s):=
 .of_wp λprog w A R s h=>by
  obtain⟨hp,g,d,tk,os⟩:=s;obtain⟨hl,hb,XT,h⟩:=h;have f2:=AutoSeq1.sub_tuple_tuple
  wp_walk using wpAny_loadPart' hl,wpAny_loadPart' hb,wpAny_forIn_list _ (λrest b s'=>b.1=none/\s'=⟨hp,g,d,tk,os⟩/\∃(vs ws:oN)(Mb Jj:List D),rest=vs.zip ws /\
   EL A.in1 ⟨hp,g,d,tk,os⟩ vs ws Mb Jj/\Mb.length+Hj.size=Jj.length+items.size/\R (.ok (.ret (.bool (cc Mb Jj)))) ⟨hp,g,d,tk,os⟩) _
  case turn =>
   rintro⟨y,x⟩ rest b s' ⟨HP,rfl,vs,ws,Mb,Jj,hz,Mc,hlen,hR⟩
   cases Mc with
   |abv _=>rw[List.zip_nil_left] at hz;cases hz
   |abw _=>rw[List.zip_nil_right] at hz;cases hz
   |cons he Hx hr =>
    rename_i v' w' vs ws d1 e1 ds es
    rw[List.zip_cons_cons] at hz
    injection hz with Sq Jt
    injection Sq with hy hx
    subst hy hx;simp only[List.length_cons] at hlen;refine wpAny_bind (he prog w _ _ ?_);unfold cc at hR
    cases e:dY d1 e1 with
    |true =>
     rw[if_pos e] at hR
     wp_walk
     exact⟨rfl,rfl,_,_,_,_,Jt,hr,by omega,hR⟩
    |false =>
     rw[if_neg (by rw[e];exact Bool.false_ne_true)] at hR;have Nt:=λE Q=>Hx e prog w E Q
     wp_walk using Nt
     exact⟨_,rfl,by simpa using hR⟩
  case fin =>
   rintro⟨b1,b2⟩ s' ⟨HP,rfl,vs,ws,Mb,Jj,hz,Mc,hlen,hR⟩;simp only at HP;subst HP
   have hv:cc Mb Jj=decide (items.size<Hj.size):=by
    cases Mc with
    |abv hw =>
     cases Jj with
     |nil =>
      simp only[List.length_nil] at hlen;unfold cc;exact(decide_eq_false (by omega)).symm
     |cons c u =>
      simp only[List.length_nil,List.length_cons] at hlen;unfold cc;exact(decide_eq_true (by omega)).symm
    |abw hw =>
     cases Mb with
     |nil =>
      simp only[List.length_nil] at hlen;unfold cc;exact(decide_eq_false (by omega)).symm
     |cons c u =>
      simp only[List.length_nil,List.length_cons] at hlen;unfold cc;exact(decide_eq_false (by omega)).symm
    |cons _ _ _ =>
     rw[List.zip_cons_cons] at hz
     cases hz
   rw[hv] at hR
   wp_walk
   exact⟨_,rfl,by simpa[Builtin.Tuple.tupleCompareSizes] using hR⟩
  case h =>
   have z:=XT.len;simp only[Array.length_toList] at z;exact⟨rfl,rfl,items.toList,Hj.toList,ds,es,rfl,XT,by omega,h⟩
theorem sV (l b:Addr)(items Hj:vd)(n n2:Nat)(dd Il:Cw)(sl Ib:Ei)(k:Nat):
 ∀(i:Nat)(ds es:List D),i<=items.size->i<=Hj.size->items.size-i=k->Meets (Builtin.«list.__eq__.loop» ⟨[.ref l,.ref b,rawInt i,rawInt 0],[]⟩)
  (λA R s=>s.heap.get? l=some {cls:=.type "list",dict:=dd,data:=.seq items n,slots:=sl}/\s.heap.get? b=some {cls:=.type "list",dict:=Il,data:=.seq Hj n2,slots:=Ib} /\
   EL A.in1 s (items.toList.drop i) (Hj.toList.drop i) ds es/\R (.ok (.ret (.bool (cc ds es)))) s):=by
 induction k with
 |zero =>
  intro i ds es hi Tp hk prog w A R s h;obtain⟨hp,g,d,tk,os⟩:=s;obtain⟨hl,hb,he,h⟩:=h
  wp_walk using wpAny_loadPart' hl,wpAny_loadPart' hb
  have e1:items[((i:Nat):Int).toNat]?=none:=by simp;omega
  have len:=he.len;simp only[List.length_drop,Array.length_toList] at len;have TM:ds=[]:=List.length_eq_zero_iff.mp (by omega);subst TM
  have hv:cc [] es=decide (items.size<Hj.size):=by
   cases es with
   |nil =>
    simp only[List.length_nil] at len;unfold cc;exact(decide_eq_false (by omega)).symm
   |cons e es =>
    simp only[List.length_cons] at len;unfold cc;exact(decide_eq_true (by omega)).symm
  rw[hv] at h;rw[e1]
  wp_walk using wpAny_loadPart' hl,wpAny_loadPart' hb
  exact h
 |succ k ih =>
  intro i ds es hi Tp hk prog w A R s h;obtain⟨hp,g,d,tk,os⟩:=s;obtain⟨hl,hb,he,h⟩:=h
  wp_walk using wpAny_loadPart' hl,wpAny_loadPart' hb
  have Hx:i<items.size:=by omega
  have e1:items[((i:Nat):Int).toNat]?=some items[i]:=by simp[Hx]
  have len:=he.len;simp only[List.length_drop,Array.length_toList] at len
  by_cases Jb:i<Hj.size
  ·have e2:Hj[((i:Nat):Int).toNat]?=some Hj[i]:=by simp[Jb]
   have hc:((i:Int)+1)=((i+1:Nat):Int):=by push_cast;rfl
   have d1:items.toList.drop i=items[i]::items.toList.drop (i+1):=by rw[List.drop_eq_getElem_cons (by simpa using Hx)];simp
   have d2:Hj.toList.drop i=Hj[i]::Hj.toList.drop (i+1):=by rw[List.drop_eq_getElem_cons (by simpa using Jb)];simp
   rw[d1,d2] at he
   cases he with
   |cons hq TN hr =>
    rename_i dh eh ds es
    rw[e1,e2];refine wpAny_bind (hq prog w _ _ ?_);unfold cc at h
    cases HP:dY dh eh with
    |true =>
     rw[if_pos HP] at h
     wp_walk
     rw[hc]
     exact⟨plainId_quiet plain_eq_loop _,codeAny_builtin entry_eq_loop (by
      rw[Around.under_plainId plain_eq_loop _]
      exact ih (i+1) ds es (by omega) (by omega) (by omega) prog w A R _ ⟨hl,hb,hr,h⟩)⟩
    |false =>
     rw[if_neg (by rw[HP];exact Bool.false_ne_true)] at h;have Nt:=λE Q=>TN HP prog w E Q
     wp_walk using wpAny_loadPart' hl,wpAny_loadPart' hb
     rw[e1,e2]
     wp_walk using Nt
     simpa using h
  ·have e2:Hj[((i:Nat):Int).toNat]?=none:=by simp;omega
   have TQ:es=[]:=List.length_eq_zero_iff.mp (by omega);subst TQ
   have hv:cc ds []=decide (items.size<Hj.size):=by
    cases ds with
    |nil=>simp only[List.length_nil] at len;omega
    |cons d ds =>
     unfold cc;exact(decide_eq_false (by omega)).symm
   rw[hv] at h;rw[e1,e2]
   wp_walk using wpAny_loadPart' hl,wpAny_loadPart' hb
   exact h
theorem kR (l b:Addr)(items Hj:vd)(n n2:Nat)(dd Il:Cw)(sl Ib:Ei)(ds es:List D):
 Meets (Builtin.«list.__lt__» ⟨[.ref l,.ref b],[]⟩)
  (λA R s=>s.heap.get? l=some {cls:=.type "list",dict:=dd,data:=.seq items n,slots:=sl}/\s.heap.get? b=some {cls:=.type "list",dict:=Il,data:=.seq Hj n2,slots:=Ib} /\
   EL A.in1 s items.toList Hj.toList ds es/\R (.ok (.ret (.bool (cc ds es)))) s):=by
 intro prog w A R s h;obtain⟨hp,g,d,tk,os⟩:=s;obtain⟨hl,hb,he,h⟩:=h;have f3:=AutoSeq1.sub_list_list
 wp_walk using wpAny_loadPart' hl,wpAny_loadPart' hb
 exact⟨plainId_quiet plain_eq_loop _,codeAny_builtin entry_eq_loop (by
  rw[Around.under_plainId plain_eq_loop _]
  exact sV l b items Hj n n2 dd Il sl Ib _ 0 ds es (Nat.zero_le _) (Nat.zero_le _) rfl prog w A R _ ⟨hl,hb,he,h⟩)⟩
end
section
variable {X:Cx}{pins:List (Addr×Obj)}{σ:St}{H:Hp}{s:CW}
theorem nW (I:Inv X pins σ H s)(n:Nat)(A:Around)(hu:A.units+n<cLine)
 (ih:∀(d e:D)(x y:V)(u v:Value),dM d<=n->rj d e=true->aC X.K H d x->aC X.K H e y->aD x u->aD y v->E2 A s u v (jO d e)):
 ∀(ds es:List D)(xs ys:List V)(us vs:oN),cL ds<=n->cO ds es=true->aI X.K H ds xs->aI X.K H es ys->aK xs us->aK ys vs->EL A s us vs ds es
 |[],es,xs,ys,us,vs,hn,hc,h1,h2,r1,r2=>by
  unfold aI at h1;subst h1
  cases r1
  exact .abv (by rw[<-r2.length,h2.len])
 |d::ds,[],xs,ys,us,vs,hn,hc,h1,h2,r1,r2=>by
  unfold aI at h2;subst h2
  cases r2
  exact .abw (by rw[<-r1.length,h1.len])
 |d::ds,e::es,xs,ys,us,vs,hn,hc,h1,h2,r1,r2=>by
  unfold aI at h1 h2;obtain⟨x,xs,rfl,h1,k1⟩:=h1;obtain⟨y,ys,rfl,h2,k2⟩:=h2
  cases r1 with
  |cons a1 r1 =>
   cases r2 with
   |cons a2 r2 =>
    unfold cL at hn;unfold cO at hc;obtain⟨c1,c2⟩:=Bool.and_eq_true_iff.mp hc;refine .cons (ij I n A d e x y _ _ (by omega) hu h1 h2 a1 a2).2.1 (λz=>ih d e x y _ _ (by omega) ?_ h1 h2 a1 a2) (nW I n A hu ih ds es xs ys _ _ (by omega) c2 k1 k2 r1 r2);rw[z] at c1;simpa using c1
theorem j7 (I:Inv X pins σ H s):∀(n:Nat)(A:Around)(d e:D)(x y:V)(u v:Value),dM d<=n->A.units+n<cLine->rj d e=true->aC X.K H d x->aC X.K H e y->aD x u->aD y v->E2 A s u v (jO d e):=by
 intro n
 induction n with
 |zero =>
  intro A d e x y u v hn hu hc h1 h2 rx ry
  cases d <;> cases e <;> first|(exact absurd hc Bool.false_ne_true)|skip
  ·unfold aC at h1 h2;subst h1 h2;obtain⟨t,rfl⟩:=rx;obtain⟨t',rfl⟩:=ry;exact λprog w E Q q=>HT.kq A s _ t _ t' prog w E Q q
  ·unfold dM at hn;omega
  ·unfold dM at hn;omega
 |succ n ih =>
  intro A d e x y u v hn hu hc h1 h2 rx ry
  have hi:A.in1.units+n<cLine:=by have:A.in1.units=A.units+1:=rfl;omega
  cases d <;> cases e <;> first|(exact absurd hc Bool.false_ne_true)|skip
  ·unfold aC at h1 h2;subst h1 h2;obtain⟨t,rfl⟩:=rx;obtain⟨t',rfl⟩:=ry;exact λprog w E Q q=>HT.kq A s _ t _ t' prog w E Q q
  ·rename_i ds es
   unfold aC at h1 h2;obtain⟨a,xs,rfl,q1,k1⟩:=h1;obtain⟨b,ys,rfl,q2,k2⟩:=h2
   cases rx
   cases ry
   obtain⟨its,rv,p1,_⟩:=I.list q1;obtain⟨Ht,HS,p2,_⟩:=I.list q2;have el:=nW I n A.in1 hi (λd e x y u v hn hc h1 h2 rx ry=>ih A.in1 d e x y u v hn hi hc h1 h2 rx ry) ds es xs ys its Ht (by unfold dM at hn;omega) hc k1 k2 rv HS;obtain⟨⟨cls,dd,data,sl⟩,ho,JG,n1,hd⟩:=p1.isList;obtain⟨⟨Kx,Il,data2,Ib⟩,Ju,Ii,n2,hd2⟩:=p2.isList;simp only at JG hd Ii hd2;subst JG hd Ii hd2;intro prog w E Q q
   exact richCompare_meets_room (op:=.Lt) ⟨_,ho,rfl⟩ ⟨_,Ju,rfl⟩ PySem.F.slot_list_lt PySem.F.entry_list_lt (PySem.F.args_list_lt_2 _ _) (kR a b its.toArray Ht.toArray n1 n2 dd Il sl Ib ds es)
    ⟨ho,Ju,el,show Value.bool (cc ds es)≠Value.notImplemented/\Q (.bool (cc ds es)) s from⟨(λx=>nomatch x),q⟩⟩ (by omega)
  ·rename_i ds es
   unfold aC at h1 h2;obtain⟨a,xs,rfl,q1,k1⟩:=h1;obtain⟨b,ys,rfl,q2,k2⟩:=h2
   cases rx
   cases ry
   obtain⟨its,rv,p1,_⟩:=I.tuple q1;obtain⟨Ht,HS,p2,_⟩:=I.tuple q2;have el:=nW I n A.in1 hi (λd e x y u v hn hc h1 h2 rx ry=>ih A.in1 d e x y u v hn hi hc h1 h2 rx ry) ds es xs ys its Ht (by unfold dM at hn;omega) hc k1 k2 rv HS;obtain⟨⟨cls,dd,data,sl⟩,ho,JG,n1,hd⟩:=p1;obtain⟨⟨Kx,Il,data2,Ib⟩,Ju,Ii,n2,hd2⟩:=p2;simp only at JG hd Ii hd2;subst JG hd Ii hd2;intro prog w E Q q
   exact richCompare_meets_room (op:=.Lt) ⟨_,ho,rfl⟩ ⟨_,Ju,rfl⟩ PySem.F.slot_tuple_lt PySem.F.entry_tuple_lt (PySem.F.args_tuple_lt_2 _ _) (jT a b its.toArray Ht.toArray n1 n2 dd Il sl Ib ds es)
    ⟨ho,Ju,el,show Value.bool (cc ds es)≠Value.notImplemented/\Q (.bool (cc ds es)) s from⟨(λx=>nomatch x),q⟩⟩ (by omega)
end
end L2
namespace Srt
open PySem PySem.W PyProof.Rows L2
variable {u:Value}{ds es:List D}
section
variable {prog:zr}{w:World}{A:Around}{E:yf}{s:CW}
theorem rg {v:Value}{b:Bool}{Q:Bool->Shared->Prop}(h:E2 A s u v b)(q:Q b s):wpAny (model prog w) A (keyLt' general' u v) Q E s:=by
 show wpAny _ _ (oneLt' false u v) _ _ _;exact kat_one u v (h prog w E (W.BoolBack Q) q)
theorem vo {fin:Bool}{Q:Bool->Shared->Prop}{vs ws:oN}(h:EL A s vs ws ds es):∀i:Nat,fin=decide (ds.length<es.length)->Q (cc ds es) s->KatLex prog w A false fin Q (vs.zip ws) i s:=by
 induction h with
 |abv hl =>
  rename_i ws es
  intro i hf q;rw[List.zip_nil_left];refine kat_nil ?_;rw[hf]
  cases es with
  |nil=>exact q
  |cons e es=>exact q
 |abw hl =>
  rename_i vs ds
  intro i hf q;rw[List.zip_nil_right];refine kat_nil ?_;rw[hf]
  cases ds with
  |nil=>exact q
  |cons e es=>exact q
 |cons hq Hx _ ih =>
  rename_i v w' vs ws d e ds es _
  intro i hf q;rw[List.zip_cons_cons];refine kat_cons (hq prog w _ _ ?_);unfold cc at q
  cases z:dY d e with
  |true =>
   rw[if_pos z] at q;refine kat_yes (ih (i+1) ?_ q);rw[hf,List.length_cons,List.length_cons];exact decide_eq_decide.mpr (by omega)
  |false =>
   rw[if_neg (by rw[z];exact Bool.false_ne_true)] at q;exact kat_no (kat_one _ _ (Hx z prog w _ (W.BoolBack Q) q))
theorem sr {l b:Addr}{items Hj:vd}{n n2:Nat}{dd Il:Cw}{sl Ib:Ei}{Q:Bool->Shared->Prop}(hl:s.heap.get? l=some {cls:=.type "tuple",dict:=dd,data:=.seq items n,slots:=sl})(hb:s.heap.get? b=some {cls:=.type "tuple",dict:=Il,data:=.seq Hj n2,slots:=Ib})
 (el:EL A.in1 s items.toList Hj.toList ds es)(hu:A.units<cLine)(q:Q (cc ds es) s):wpAny (model prog w) A (keyLt' oneType' (.ref l) (.ref b)) Q E s:=by
 rw[keyLt'_oneType,oneLt'_eq];simp only[if_true];refine wpAny_bind (wpAny_cRoomFor hu ?_);refine wpAny_bind (wpAny_callSpecialIfBound?_slot (T:="tuple") ⟨_,hl,rfl⟩ PySem.F.slot_tuple_lt (call_meets PySem.F.slot_tuple_lt ⟨_,hl,rfl⟩ PySem.F.entry_tuple_lt (PySem.F.args_tuple_lt_2 _ _) (jT l b items Hj n n2 dd Il sl Ib ds es) ⟨hl,hb,el,?_⟩));exact wpAny_truthy_bool q
theorem rC {l b:Addr}{items Hj:vd}{n n2:Nat}{dd Il:Cw}{sl Ib:Ei}{Q:Bool->Shared->Prop}(hl:s.heap.get? l=some {cls:=.type "list",dict:=dd,data:=.seq items n,slots:=sl})(hb:s.heap.get? b=some {cls:=.type "list",dict:=Il,data:=.seq Hj n2,slots:=Ib})
 (el:EL A.in1 s items.toList Hj.toList ds es)(hu:A.units<cLine)(q:Q (cc ds es) s):wpAny (model prog w) A (keyLt' oneType' (.ref l) (.ref b)) Q E s:=by
 rw[keyLt'_oneType,oneLt'_eq];simp only[if_true];refine wpAny_bind (wpAny_cRoomFor hu ?_);refine wpAny_bind (wpAny_callSpecialIfBound?_slot (T:="list") ⟨_,hl,rfl⟩ PySem.F.slot_list_lt (call_meets PySem.F.slot_list_lt ⟨_,hl,rfl⟩ PySem.F.entry_list_lt (PySem.F.args_list_lt_2 _ _) (kR l b items Hj n n2 dd Il sl Ib ds es) ⟨hl,hb,el,?_⟩));exact wpAny_truthy_bool q
end
def Cj (h:Heap)(u:Value):Prop:=∃a o xs n,u=.ref a/\h.get? a=some o/\o.cls=.type "tuple"/\o.data=.seq xs n/\∀f,xs[0]?=some f->∃b o',f=.ref b/\h.get? b=some o'/\o'.cls=.type "tuple"
def iw (h:Heap):Value->Option Value
 | .ref a=>match h.get? a with
   |some o=>match o.data with
    | .seq xs _=>xs[0]?
    |_=>none
   |none=>none
 |_=>none
section
variable {M:Model}{A:Around}{E:yf}{s:CW}
theorem ke {α β:Type}{f:α->Sem β}{g:α->β}:∀(l:List α){Q:List β->Shared->Prop},(∀v∈l,∀(Q':β->Shared->Prop),Q' (g v) s->wpAny M A (f v) Q' E s)->Q (l.map g) s->wpAny M A (l.mapM f) Q E s
 |[],_,_,h=>by rw[List.mapM_nil];exact wpAny_pure h
 |x::l,Q,hf,h=>by
  rw[List.mapM_cons];exact wpAny_bind (hf x (.head _) _ (wpAny_bind (ke l (Q:=λbs s'=>wpAny M A (pure (g x::bs)) Q E s') (λv hv=>hf v (.tail _ hv)) (wpAny_pure h))))
theorem jz (h:Cj s.heap u){Q:Option Value->Shared->Prop}(q:Q (iw s.heap u) s):wpAny M A (firstOfTuple' u) Q E s:=by
 obtain⟨a,o,xs,n,rfl,ho,hc,hd,_⟩:=h
 have e:iw s.heap (.ref a)=xs[0]?:=by
  simp only[iw,ho,hd]
 rw[e] at q;rw[kas_first_eq];refine wpAny_bind (Looks.here (show Looks M s.heap (typeOf (.ref a)) o.cls from(Looks.ld ho).andThen .now) ?_);rw[hc,if_neg (by first|decide|simp)];exact wpAny_bind (listItems_at ho hd (wpAny_pure q))
theorem pP (h:∃b o',u=.ref b/\s.heap.get? b=some o'/\o'.cls=.type "tuple"){Q:yf}(q:Q (.type "tuple") s):wpAny M A (typeOf u) Q E s:=by
 obtain⟨a,o,rfl,ho,hc⟩:=h;refine Looks.here (show Looks M s.heap (typeOf (.ref a)) o.cls from(Looks.ld ho).andThen .now) ?_;rw[hc];exact q
theorem xR {us:oN}(h2:2<=us.length)(ht:∀u∈us,Cj s.heap u):∃κ,(κ=general'\/κ=oneType'\/κ=tuples' false)/\∀Q:SortKind->Shared->Prop,Q κ s->wpAny M A (keyKind' us.toArray) Q E s:=by
 obtain⟨v₁,v₂,rest,rfl⟩:∃v₁ v₂ rest,us=v₁::v₂::rest:=by
  match us,h2 with
  |[],h2=>simp at h2
  |[_],h2=>simp at h2
  |v₁::v₂::rest,_=>exact⟨v₁,v₂,rest,rfl⟩
 by_cases Ie:(((v₁::v₂::rest).map (iw s.heap)).toArray.all λx=>x.isSome)=true
 ·refine⟨tuples' false,.inr (.inr rfl),λQ q=>?_⟩;rw[kat_kind_eq,List.mapM_toArray,map_eq_pure_bind];refine wpAny_bind (wpAny_bind (ke (g:=iw s.heap) _ (λv hv Q' hq=>jz (ht v hv) hq) (wpAny_pure ?_)));rw[if_pos Ie];refine wpAny_bind (wpAny_rule ?_)
  have K6:∀f∈((v₁::v₂::rest).map (iw s.heap)).filterMap id,∃b o',f=.ref b/\s.heap.get? b=some o'/\o'.cls=.type "tuple":=λf hf=>by
   obtain⟨x,hx,e⟩:=List.mem_filterMap.mp hf;obtain⟨u,hu,e2⟩:=List.mem_map.mp hx;obtain⟨a,o,xs,n,rfl,ho,hc,hd,TR⟩:=ht u hu
   have e3:iw s.heap (.ref a)=xs[0]?:=by
    simp only[iw,ho,hd]
   refine TR f ?_;rw[<-e3,e2];exact e
  have HU:((v₁::v₂::rest).map (iw s.heap)).filterMap id≠[]:=λz=>by
   have h1:(iw s.heap v₁).isSome=true:=by
    rw[List.all_toArray] at Ie;exact List.all_eq_true.mp Ie _ (List.mem_map_of_mem (.head _))
   obtain⟨f,hf⟩:=Option.isSome_iff_exists.mp h1;rw[List.map_cons,hf] at z;simp at z
  have hfm:(((v₁::v₂::rest).map (iw s.heap)).toArray.filterMap id)=(((v₁::v₂::rest).map (iw s.heap)).filterMap id).toArray:=by simp
  rw[hfm];generalize ((v₁::v₂::rest).map (iw s.heap)).filterMap id=fs at K6 HU |-
  obtain⟨f₁,fr,rfl⟩:∃f₁ fr,fs=f₁::fr:=by
   match fs,HU with
   |f₁::fr,_=>exact⟨f₁,fr,rfl⟩
  rw[oneTypeOnly'_eq,List.mapM_toArray,map_eq_pure_bind];refine wpAny_bind (wpAny_bind (wpAny_bind (kas_mapM (r:=Value.type "tuple") _ (λv hv Q' hq=>pP (K6 v hv) hq) (wpAny_pure ?_))))
  have J6:((List.map (λ_=>Value.type "tuple") (f₁::fr)).toArray.all λx=>x==Value.type "tuple")=true:=by
   simp only[List.all_toArray,List.all_map,List.all_eq_true];intro _ _;rfl
  have h0:(List.map (λ_=>Value.type "tuple") (f₁::fr)).toArray[0]?=some (Value.type "tuple"):=by simp
  rw[h0];simp only[J6,if_true];exact wpAny_pure (wpAny_pure q)
 ·by_cases h1:((((v₁::v₂::rest).map (iw s.heap)).toArray[0]?).bind id).isSome=true
  ·refine⟨general',.inl rfl,λQ q=>?_⟩;rw[kat_kind_eq,List.mapM_toArray,map_eq_pure_bind];refine wpAny_bind (wpAny_bind (ke (g:=iw s.heap) _ (λv hv Q' hq=>jz (ht v hv) hq) (wpAny_pure ?_)));rw[if_neg Ie,if_pos h1];exact wpAny_pure q
  ·refine⟨oneType',.inr (.inl rfl),λQ q=>?_⟩;rw[kat_kind_eq,List.mapM_toArray,map_eq_pure_bind];refine wpAny_bind (wpAny_bind (ke (g:=iw s.heap) _ (λv hv Q' hq=>jz (ht v hv) hq) (wpAny_pure ?_)));rw[if_neg Ie,if_neg h1];rw[oneTypeOnly'_eq,List.mapM_toArray,map_eq_pure_bind];refine wpAny_bind (wpAny_bind (wpAny_bind (kas_mapM (r:=Value.type "tuple") _ (λv hv Q' hq=>?_) (wpAny_pure ?_))))
   ·obtain⟨a,o,xs,n,rfl,ho,hc,_⟩:=ht v hv;exact pP ⟨a,o,rfl,ho,hc⟩ hq
   have J6:((List.map (λ_=>Value.type "tuple") (v₁::v₂::rest)).toArray.all λx=>x==Value.type "tuple")=true:=by
    simp only[List.all_toArray,List.all_map,List.all_eq_true];intro _ _;rfl
   have h0:(List.map (λ_=>Value.type "tuple") (v₁::v₂::rest)).toArray[0]?=some (Value.type "tuple"):=by simp
   rw[h0];simp only[J6,if_true];exact wpAny_pure (wpAny_pure q)
end
end Srt
namespace L2
open PySem PySem.W PyProof.Rows Srt
mutual
def wC:D->Bool
 | .int _=>true
 | .tup a=>eY a
 | .lst a=>eY a
 |_=>false
def eY:List D->Bool
 |[]=>true
 |a::as=>wC a&&eY as
end
mutual
theorem jH:∀d e:D,wC d=true->dY d e=true->wC e=true->d=e
 | .int a,e,_,h,h2=>by
   cases e <;> first|(exact absurd h Bool.false_ne_true)|(exact absurd h2 Bool.false_ne_true)|skip
   exact congrArg D.int (eq_of_beq h)
 | .tup a,e,hp,h,h2=>by
   cases e <;> first|(exact absurd h Bool.false_ne_true)|(exact absurd h2 Bool.false_ne_true)|skip
   exact congrArg D.tup (j6 a _ hp h h2)
 | .lst a,e,hp,h,h2=>by
   cases e <;> first|(exact absurd h Bool.false_ne_true)|(exact absurd h2 Bool.false_ne_true)|skip
   exact congrArg D.lst (j6 a _ hp h h2)
 | .non,_,h,_,_=>nomatch h
 | .bl _,_,h,_,_=>nomatch h
 | .str _,_,h,_,_=>nomatch h
theorem j6:∀ds es:List D,eY ds=true->eX ds es=true->eY es=true->ds=es
 |[],[],_,_,_=>rfl
 |[],_::_,_,h,_=>nomatch h
 |_::_,[],_,h,_=>nomatch h
 |d::ds,e::es,hp,h,h2=>by
  unfold eY at hp h2;unfold eX at h;obtain⟨p1,p2⟩:=Bool.and_eq_true_iff.mp hp;obtain⟨q1,q2⟩:=Bool.and_eq_true_iff.mp h2;obtain⟨h1,h3⟩:=Bool.and_eq_true_iff.mp h;rw[jH d e p1 h1 q1,j6 ds es p2 h3 q2]
end
mutual
theorem mf:∀d:D,jO d d=false
 | .int a=>by unfold jO;exact decide_eq_false (by omega)
 | .tup a=>by unfold jO;exact gz a
 | .lst a=>by unfold jO;exact gz a
 | .non=>rfl
 | .bl _=>rfl
 | .str _=>rfl
theorem gz:∀ds:List D,cc ds ds=false
 |[]=>rfl
 |d::ds=>by
  unfold cc;rw[if_pos (cq d)];exact gz ds
end
mutual
theorem jL:∀a b c:D,wC a=true->wC b=true->wC c=true->jO a b=true->jO b c=true->jO a c=true
 | .int a,b,c,_,_,_,h1,h2=>by
   cases b <;> first|(exact absurd h1 Bool.false_ne_true)|skip
   cases c <;> first|(exact absurd h2 Bool.false_ne_true)|skip
   unfold jO at h1 h2 |-;have h1:=of_decide_eq_true h1;have h2:=of_decide_eq_true h2;exact decide_eq_true (by omega)
 | .tup a,b,c,pa,pb,pc,h1,h2=>by
   cases b <;> first|(exact absurd h1 Bool.false_ne_true)|skip
   cases c <;> first|(exact absurd h2 Bool.false_ne_true)|skip
   unfold jO at h1 h2 |-;exact iH a _ _ pa pb pc h1 h2
 | .lst a,b,c,pa,pb,pc,h1,h2=>by
   cases b <;> first|(exact absurd h1 Bool.false_ne_true)|skip
   cases c <;> first|(exact absurd h2 Bool.false_ne_true)|skip
   unfold jO at h1 h2 |-;exact iH a _ _ pa pb pc h1 h2
 | .non,_,_,h,_,_,_,_=>nomatch h
 | .bl _,_,_,h,_,_,_,_=>nomatch h
 | .str _,_,_,h,_,_,_,_=>nomatch h
theorem iH:∀as bs cs:List D,eY as=true->eY bs=true->eY cs=true->cc as bs=true->cc bs cs=true->cc as cs=true
 |[],[],cs,_,_,_,h,_=>nomatch h
 |[],_::_,[],_,_,_,_,h=>nomatch h
 |[],_::_,_::_,_,_,_,_,_=>rfl
 |_::_,[],_,_,_,_,h,_=>nomatch h
 |_::_,_::_,[],_,_,_,_,h=>nomatch h
 |a::as,b::bs,c::cs,pa,pb,pc,h1,h2=>by
  unfold eY at pa pb pc;obtain⟨p1,p2⟩:=Bool.and_eq_true_iff.mp pa;obtain⟨q1,q2⟩:=Bool.and_eq_true_iff.mp pb;obtain⟨r1,r2⟩:=Bool.and_eq_true_iff.mp pc;unfold cc at h1 h2 |-
  by_cases e1:dY a b=true
  ·have e:=jH a b p1 e1 q1;subst e;rw[if_pos e1] at h1
   by_cases e2:dY a c=true
   ·rw[if_pos e2] at h2 |-;exact iH as bs cs p2 q2 r2 h1 h2
   ·rw[if_neg e2] at h2 |-;exact h2
  ·rw[if_neg e1] at h1
   by_cases e2:dY b c=true
   ·have e:=jH b c q1 e2 r1;subst e;rw[if_neg e1];exact h1
   ·rw[if_neg e2] at h2;have h3:=jL a b c p1 q1 r1 h1 h2
    by_cases e3:dY a c=true
    ·have e:=jH a c p1 e3 r1;subst e;rw[mf a] at h3
     cases h3
    ·rw[if_neg e3];exact h3
end
mutual
theorem jr:∀a b:D,wC a=true->wC b=true->rj a b=true->a≠b->jO a b=true\/jO b a=true
 | .int a,b,_,_,h,ne=>by
   cases b <;> first|(exact absurd h Bool.false_ne_true)|skip
   rename_i b _
   unfold jO
   by_cases z:a<b
   ·exact .inl (decide_eq_true z)
   ·refine .inr (decide_eq_true ?_);have:a≠b:=λe=>ne (congrArg D.int e);omega
 | .tup a,b,pa,pb,h,ne=>by
   cases b <;> first|(exact absurd h Bool.false_ne_true)|skip
   unfold jO;exact iK a _ pa pb h λe=>ne (congrArg D.tup e)
 | .lst a,b,pa,pb,h,ne=>by
   cases b <;> first|(exact absurd h Bool.false_ne_true)|skip
   unfold jO;exact iK a _ pa pb h λe=>ne (congrArg D.lst e)
 | .non,_,h,_,_,_=>nomatch h
 | .bl _,_,h,_,_,_=>nomatch h
 | .str _,_,h,_,_,_=>nomatch h
theorem iK:∀as bs:List D,eY as=true->eY bs=true->cO as bs=true->as≠bs->cc as bs=true\/cc bs as=true
 |[],[],_,_,_,ne=>absurd rfl ne
 |[],_::_,_,_,_,_=>.inl rfl
 |_::_,[],_,_,_,_=>.inr rfl
 |a::as,b::bs,pa,pb,h,ne=>by
  unfold eY at pa pb;obtain⟨p1,p2⟩:=Bool.and_eq_true_iff.mp pa;obtain⟨q1,q2⟩:=Bool.and_eq_true_iff.mp pb;unfold cO at h;obtain⟨c1,c2⟩:=Bool.and_eq_true_iff.mp h;unfold cc
  by_cases e:a=b
  ·subst e;rw[if_pos (cq a),if_pos (cq a)];exact iK as bs p2 q2 c2 λz=>ne (by rw[z])
  ·have n1:¬dY a b=true:=λz=>e (jH a b p1 z q1);have n2:¬dY b a=true:=λz=>e (jH b a q1 z p1).symm;rw[if_neg n1,if_neg n2]
   rcases Bool.or_eq_true_iff.mp c1 with z|z
   ·exact absurd z n1
   ·exact jr a b p1 q1 z e
end
def vV (ds:List D):Prop:=∀a∈ds,∀b∈ds,wC a=true/\rj a b=true
variable {ds:List D}
theorem Ba (O:vV ds){i j k:D}(hi:i∈ds)(hj:j∈ds)(hk:k∈ds)(h1:jO k j=true)(h2:jO i j=false):jO k i=true:=by
 have pi:=(O i hi i hi).1;have pj:=(O j hj j hj).1;have pk:=(O k hk k hk).1
 by_cases e:i=j
 ·rw[e];exact h1
 ·rcases jr i j pi pj (O i hi j hj).2 e with z|z
  ·rw[z] at h2;cases h2
  ·exact jL k j i pk pj pi h1 z
def q9 (ds:List D)(i:Nat):D:=ds.getD i .non
def DA (ds:List D)(i:Nat):Nat:=(List.range ds.length).countP λj=>jO (q9 ds j) (q9 ds i)
theorem cy {i:Nat}(h:i<ds.length):q9 ds i∈ds:=by
 unfold q9;rw[List.getD_eq_getElem?_getD,List.getElem?_eq_getElem h];exact List.getElem_mem h
theorem oX (O:vV ds){i j:Nat}(hi:i<ds.length)(hj:j<ds.length):decide (DA ds i<DA ds j)=jO (q9 ds i) (q9 ds j):=by
 cases e:jO (q9 ds i) (q9 ds j) with
 |true =>
  refine decide_eq_true (jC (λx hx h=>?_) ⟨i,List.mem_range.mpr hi,e,mf _⟩);have hx:=List.mem_range.mp hx;exact jL _ _ _ (O _ (cy hx) _ (cy hx)).1 (O _ (cy hi) _ (cy hi)).1 (O _ (cy hj) _ (cy hj)).1 h e
 |false =>
  refine decide_eq_false (Nat.not_lt.mpr ?_);refine List.countP_mono_left λx hx h=>?_;have hx:=List.mem_range.mp hx;exact Ba O (cy hi) (cy hj) (cy hx) h e
end L2
namespace Srt
open PySem PySem.W PyProof.Rows L2
def Kd (ds:List D):Prop:=(∀d∈ds,∃es,d=.tup es/\∀e,es[0]?=some e->∃fs,e=.tup fs)\/∀d∈ds,∃es,d=.lst es
def Ck (ds:List D):Prop:=ds.Pairwise λa b=>jO b a=false
theorem sd {as:List D}:∀{bs:List D},vV as->Ck as->Ck bs->as.Perm bs->as=bs:=by
 induction as with
 |nil=>intro bs _ _ _ p;exact(List.nil_perm.mp p).symm
 |cons a as ih =>
  intro bs O ha hb p
  cases bs with
  |nil=>exact absurd p.length_eq (by simp)
  |cons b bs =>
   obtain⟨a1,a2⟩:=List.pairwise_cons.mp ha;obtain⟨b1,b2⟩:=List.pairwise_cons.mp hb
   have e:a=b:=by
    have m1:b∈a::as:=p.mem_iff.mpr (.head _);have m2:a∈b::bs:=p.mem_iff.mp (.head _)
    rcases List.mem_cons.mp m1 with z|z
    ·exact z.symm
    ·rcases List.mem_cons.mp m2 with y|y
     ·exact y
     ·have h1:=a1 b z;have h2:=b1 a y
      by_cases e:a=b
      ·exact e
      ·rcases jr a b (O a (.head _) a (.head _)).1 (O b m1 b m1).1 (O a (.head _) b m1).2 e with q|q
       ·rw[h2] at q;cases q
       ·rw[h1] at q;cases q
   subst e;rw[ih (λx hx y hy=>O x (.tail _ hx) y (.tail _ hy)) a2 b2 (List.Perm.cons_inv p)]
variable {xs:List V}{us:oN}{n:Nat}{p:Array Nat}
theorem vf (rv:aK xs us)(P:Pw n p)(hn:n<=xs.length):aK (vY xs p) (cG us p):=by
 have key:∀l:List Nat,(∀i∈l,i<xs.length)->aK (l.map λi=>xs.getD i .non) (l.map λi=>us.getD i Value.none):=by
  intro l
  induction l with
  |nil=>intro _;exact .nil
  |cons i l ih =>
   intro h;have hi:=h i List.mem_cons_self;obtain⟨u,e,r⟩:=rv.get (i:=i) (x:=xs[i]) (by simp[hi]);refine .cons ?_ (ih λj hj=>h j (List.mem_cons_of_mem _ hj));show aD (xs.getD i .non) (us.getD i Value.none);rw[List.getD_eq_getElem?_getD,List.getD_eq_getElem?_getD,e,show xs[i]?=some xs[i] by simp[hi]];exact r
 refine key p.toList λi hi=>?_
 have z:i∈(List.range n):=by
  have pl:p.toList.Perm (List.range n):=by simpa using P.perm.toList
  exact pl.mem_iff.mp hi
 have:=List.mem_range.mp z;omega
variable {K:Frag}{ds:List D}
theorem Bj {H:Hp}(h:aI K H ds xs){i:Nat}(hi:i<xs.length):aC K H (q9 ds i) (xs.getD i .non):=by
 have:=(h.get hi).1;rw[List.getD_eq_getElem?_getD,List.getElem?_eq_getElem hi];exact this
theorem nh {H:Hp}(h:aI K H ds xs):∀l:List Nat,(∀i∈l,i<xs.length)->aI K H (l.map (q9 ds)) (l.map λi=>xs.getD i .non)
 |[],_=>by unfold aI;rfl
 |i::l,hl=>by
  rw[List.map_cons,List.map_cons];unfold aI;exact⟨_,_,rfl,Bj h (hl i (.head _)),nh h l λj hj=>hl j (.tail _ hj)⟩
variable {es:List D}{x:V}{u:Value}{A:Around}
section
variable {X:Cx}{pins:List (Addr×Obj)}{σ:L2.St}{H:Hp}{s:CW}
theorem A8 (I:Inv X pins σ H s)(h:aC X.K H (.tup es) x)(r:aD x u)(hf:∀e,es[0]?=some e->∃fs,e=.tup fs):Cj s.heap u:=by
 unfold aC at h;obtain⟨a,xs,rfl,q,k⟩:=h
 cases r
 obtain⟨its,rv,⟨o,ho,hc,n,hd⟩,_⟩:=I.tuple q;refine⟨a,o,its.toArray,n,rfl,ho,hc,hd,λf LS=>?_⟩
 have LS:its[0]?=some f:=by simpa using LS
 cases rv with
 |nil=>simp at LS
 |cons r1 r2 =>
  cases es with
  |nil =>
   unfold aI at k
   cases k
  |cons e es =>
   unfold aI at k;obtain⟨y,ys,ek,k1,_⟩:=k
   cases ek
   obtain⟨fs,rfl⟩:=hf e rfl;unfold aC at k1;obtain⟨b,zs,rfl,q2,_⟩:=k1;obtain⟨Ht,_,⟨o2,Ju,Kn,_⟩,_⟩:=I.tuple q2
   cases r1
   simp only[List.getElem?_cons_zero,Option.some.injEq] at LS;exact⟨b,o2,LS.symm,Ju,Kn⟩
theorem yv (I:Inv X pins σ H s)(hA:A.units+(n+1)<cLine){κ:SortKind}{fs:List D}{y:V}{v:Value}(hκ:κ=general'\/κ=oneType'\/κ=tuples' false)(h1:aC X.K H (.tup es) x)(h2:aC X.K H (.tup fs) y)(r1:aD x u)(r2:aD y v)(hn:cL es<=n)(hc:cO es fs=true)
 {C:Bool->Shared->Prop}(q:C (cc es fs) s):wpAny (model X.prog X.w) A (keyLt' κ u v) C (λ_ _=>False) s:=by
 have ld:=j7 I (n+1) A (.tup es) (.tup fs) x y u v (by unfold dM;omega) hA hc h1 h2 r1 r2
 rcases hκ with rfl|rfl|rfl
 ·exact rg ld q
 ·unfold aC at h1 h2;obtain⟨a,xs,rfl,q1,k1⟩:=h1;obtain⟨b,ys,rfl,q2,k2⟩:=h2
  cases r1
  cases r2
  obtain⟨its,rv,p1,_⟩:=I.tuple q1;obtain⟨Ht,HS,p2,_⟩:=I.tuple q2;have el:=nW I n A.in1 (by show A.units+1+n<cLine;omega) (λd e x y u v hn hc h1 h2 rx ry=>j7 I n A.in1 d e x y u v hn (by show A.units+1+n<cLine;omega) hc h1 h2 rx ry) es fs xs ys its Ht hn hc k1 k2 rv HS;obtain⟨⟨cls,dd,data,sl⟩,ho,JG,n1,hd⟩:=p1;obtain⟨⟨Kx,Il,data2,Ib⟩,Ju,Ii,n2,hd2⟩:=p2;simp only at JG hd Ii hd2;subst JG hd Ii hd2;exact sr ho Ju el (by omega) q
 ·unfold aC at h1 h2;obtain⟨a,xs,rfl,q1,k1⟩:=h1;obtain⟨b,ys,rfl,q2,k2⟩:=h2
  cases r1
  cases r2
  obtain⟨its,rv,⟨o1,g1,c1,n1,d1⟩,_⟩:=I.tuple q1;obtain⟨Ht,HS,⟨o2,g2,c2,n2,d2⟩,_⟩:=I.tuple q2;have el:=nW I n A (by omega) (λd e x y u v hn hc h1 h2 rx ry=>j7 I n A d e x y u v hn (by omega) hc h1 h2 rx ry) es fs xs ys its Ht hn hc k1 k2 rv HS;refine kat_lt g1 d1 g2 d2 ?_;have len:=el.len;exact vo el 0 (by rw[List.size_toArray,List.size_toArray,len.1,len.2]) q
theorem Af (I:Inv X pins σ H s)(hA:A.units+(n+1)<cLine){fs:List D}{y:V}{v:Value}(h1:aC X.K H (.lst es) x)(h2:aC X.K H (.lst fs) y)(r1:aD x u)(r2:aD y v)(hn:cL es<=n)(hc:cO es fs=true)
 {C:Bool->Shared->Prop}(q:C (cc es fs) s):wpAny (model X.prog X.w) A (keyLt' oneType' u v) C (λ_ _=>False) s:=by
 unfold aC at h1 h2;obtain⟨a,xs,rfl,q1,k1⟩:=h1;obtain⟨b,ys,rfl,q2,k2⟩:=h2
 cases r1
 cases r2
 obtain⟨its,rv,p1,_⟩:=I.list q1;obtain⟨Ht,HS,p2,_⟩:=I.list q2;have el:=nW I n A.in1 (by show A.units+1+n<cLine;omega) (λd e x y u v hn hc h1 h2 rx ry=>j7 I n A.in1 d e x y u v hn (by show A.units+1+n<cLine;omega) hc h1 h2 rx ry) es fs xs ys its Ht hn hc k1 k2 rv HS;obtain⟨⟨cls,dd,data,sl⟩,ho,JG,n1,hd⟩:=p1.isList;obtain⟨⟨Kx,Il,data2,Ib⟩,Ju,Ii,n2,hd2⟩:=p2.isList;simp only at JG hd Ii hd2;subst JG hd Ii hd2;exact rC ho Ju el (by omega) q
theorem zk (rv:aK xs us)(hd:aI X.K H ds xs)(hu:u∈us):∃d∈ds,∃x,aC X.K H d x/\aD x u:=by
 obtain⟨i,hi⟩:=List.mem_iff_getElem?.mp hu;have hl:i<us.length:=(List.getElem?_eq_some_iff.mp hi).1
 have lx:i<xs.length:=by rw[rv.length];exact hl
 obtain⟨u',e,r⟩:=rv.get (i:=i) (x:=xs[i]) (by simp[lx]);rw[hi] at e
 cases e
 exact⟨_,(hd.get lx).2,_,(hd.get lx).1,r⟩
theorem yZ {n:Nat}(I:Inv X pins σ H s)(hA:A.units+(n+1)<cLine)(hd:aI X.K H ds xs)(hn:cL ds<=n+1)(rv:aK xs us)(O:vV ds)(kd:Kd ds)(h2:2<=us.length):lG X.prog X.w A us (DA ds) s:=by
 have AV:=hd.len;have vH:=rv.length
 have at_:∀i,i<us.length->∃x,aC X.K H (q9 ds i) x/\aD x (us.getD i .none):=λi hi=>by
  have NL:i<xs.length:=by omega
  obtain⟨u,e,r⟩:=rv.get (i:=i) (x:=xs[i]) (by simp[NL]);refine⟨xs[i],(hd.get NL).1,?_⟩;rw[List.getD_eq_getElem?_getD,e];exact r
 have dn:∀d∈ds,dM d<=n+1:=λd h=>Nat.le_trans (pH h) hn
 rcases kd with kd|kd
 ·obtain⟨κ,hκ,ask⟩:=xR (M:=model X.prog X.w) (A:=A) (E:=λ_ _=>False) (s:=s) h2 λu hu=>by
   obtain⟨d,hm,x,h,r⟩:=zk rv hd hu;obtain⟨es,rfl,hf⟩:=kd d hm;exact A8 I h r hf
  refine⟨κ,ask,λi j C hi hj hc=>?_⟩;obtain⟨x,hx,rx⟩:=at_ i hi;obtain⟨y,hy,ry⟩:=at_ j hj;rw[oX O (by omega) (by omega)] at hc;have mi:q9 ds i∈ds:=cy (by omega);have mj:q9 ds j∈ds:=cy (by omega);have cm:=(O _ mi _ mj).2;have d1:=dn _ mi;obtain⟨es,e1,_⟩:=kd _ mi;obtain⟨fs,e2,_⟩:=kd _ mj;rw[e1] at hx hc cm d1;rw[e2] at hy hc cm;unfold dM at d1;exact yv I hA hκ hx hy rx ry (by omega) cm hc
 ·refine⟨oneType',λQ hq=>kas_kind (T:=Value.type "list") h2 (λu hu=>?_) (by decide) (by decide) hq,λi j C hi hj hc=>?_⟩
  ·obtain⟨d,hm,x,h,r⟩:=zk rv hd hu;obtain⟨es,rfl⟩:=kd d hm;unfold aC at h;obtain⟨a,zs,rfl,q,_⟩:=h
   cases r
   obtain⟨its,_,p1,_⟩:=I.list q;obtain⟨o,ho,JG,n1,IP⟩:=p1.isList;rw[<-JG]
   exact show Looks (model X.prog X.w) s.heap (typeOf (.ref a)) o.cls from(Looks.ld ho).andThen .now
  ·obtain⟨x,hx,rx⟩:=at_ i hi;obtain⟨y,hy,ry⟩:=at_ j hj;rw[oX O (by omega) (by omega)] at hc;have mi:q9 ds i∈ds:=cy (by omega);have mj:q9 ds j∈ds:=cy (by omega);have cm:=(O _ mi _ mj).2;have d1:=dn _ mi;obtain⟨es,e1⟩:=kd _ mi;obtain⟨fs,e2⟩:=kd _ mj;rw[e1] at hx hc cm d1;rw[e2] at hy hc cm;unfold dM at d1;exact Af I hA hx hy rx ry (by omega) cm hc
end
theorem xU {α:Type}{ds:List α}{d0:α}(P:Pw ds.length p):(p.toList.map λi=>ds.getD i d0).Perm ds:=by
 have pl:p.toList.Perm (List.range ds.length):=by simpa using P.perm.toList
 have e1:(List.range ds.length).map (λi=>ds.getD i d0)=ds:=by
  apply List.ext_getElem
  ·simp
  ·intro i h1 h2;simp[h2]
 have:=pl.map (λi=>ds.getD i d0);rw[e1] at this;exact this
theorem Aa (O:vV ds)(P:Pw ds.length p)(U:mn (DA ds) p ds.length):Ck (p.toList.map (q9 ds)):=by
 unfold Ck;rw[List.pairwise_map];refine List.pairwise_iff_getElem.mpr λi j hi hj HW=>?_;have sz:=P.size;rw[Array.length_toList] at hi hj;have u:=U i j HW (by omega)
 have gi:p.getD i 0=p.toList[i]:=by simp[Array.getD,hi]
 have gj:p.getD j 0=p.toList[j]:=by simp[Array.getD,hj]
 rw[gi,gj] at u
 have bi:p.toList[i]<ds.length:=by rw[<-gi];exact P.lt i (by omega)
 have bj:p.toList[j]<ds.length:=by rw[<-gj];exact P.lt j (by omega)
 rw[<-oX O bj bi];exact decide_eq_false (by omega)
def Dc (K:Frag):List V->Hp->VK->Prop:=λvs H Q=>∃l xs ds,vs=[.ref l]/\aO K H l xs/\xs.length<64/\aI K H ds xs/\cL ds<=16/\vV ds/\Kd ds /\
 ∀(D:Addr)(ys:List V)(es:List L2.D),H D=none->ys.length=xs.length->aI K H es ys->es.Perm ds->Ck es->Q (.ref D) (upd H D (.lst ys))
section
variable {X:Cx}{k:Nat}
theorem hX (hK:X.K=K)(hr:qL (k+2) X.A):cH X (.builtin "sorted") (Dc K):=by
 subst hK;intro pins s σ H vs us Q I r h;obtain⟨l,xs,ds,rfl,hl,h64,hd,hn,O,kd,q⟩:=h;obtain⟨u,rfl,ru⟩:=fE r
 cases(show u=Value.ref l from ru)
 obtain⟨its,rv,pl,hz⟩:=I.list hl;have ln:=rv.length;have ld:=hd.len;refine tE (r:=DA ds) pl.isList (by omega) (λh2 h' kp=>?_) λh' D p c kp hD e pm up=>?_
 ·exact yZ (n:=15) (s:={s with heap:=h'}) (I.kept (t':=s.toks) kp) (by have:=(hr.in1.in1).units;omega) hd hn rv O kd h2
 ·have ed:its.length=ds.length:=by omega
  have XU:Pw ds.length p:=by rw[<-ed];exact pm
  have up':mn (DA ds) p ds.length:=by rw[<-ed];exact up
  have TU:Pw xs.length p:=by rw[ln];exact pm
  have hv:=vf rv TU (Nat.le_refl _)
  have hlen:(vY xs p).length=xs.length:=by
   unfold vY;rw[List.length_map,Array.length_toList,TU.size]
  have hb:∀i∈p.toList,i<xs.length:=λi hi=>by
   have pl:p.toList.Perm (List.range xs.length):=by simpa using TU.perm.toList
   exact List.mem_range.mp (pl.mem_iff.mp hi)
  exact⟨.ref D,_,I.newObj (t':=s.toks) (o:=.lst (vY xs p)) kp hD ⟨by rw[hlen];exact cZ h64,_,c,hv,e⟩,rfl,q D _ _ (I.aba hD) hlen (nh hd p.toList hb) (xU XU) (Aa O XU up')⟩
end
end Srt
namespace K66
open PySem L2 PySem.W Nm Srt
abbrev Fo:Stmt:=(aS 16)
theorem Ge:yx ["wishes"] ["wishes"] (ak Fo):=dJ (by decide +kernel)
def dQ (ts:List Tm):L2.D:=.tup (ts.map j8)
def fF (ts:List Tm):L2.D:=.lst (ts.map j8)
theorem qK:∀ns:List Int,eY (ns.map D.int)=true
 |[]=>rfl
 |n::ns=>by
  rw[List.map_cons];unfold eY wC;rw[qK ns];rfl
theorem lU:∀ns ms:List Int,cO (ns.map D.int) (ms.map D.int)=true
 |[],_=>by unfold cO;rfl
 |_::_,[]=>by unfold cO;rfl
 |n::ns,m::ms=>by
  rw[List.map_cons,List.map_cons];unfold cO;rw[lU ns ms];unfold rj;simp
theorem Ct (t:Tm):wC (j8 t)=true:=by
 show(eY (t.1.map D.int)&&(eY [D.int t.2.1,D.int t.2.2]&&true))=true;rw[qK];rfl
theorem Du (t u:Tm):rj (j8 t) (j8 u)=true:=by
 show((_ || cO (t.1.map D.int) (u.1.map D.int))&&((_ || cO [D.int t.2.1,D.int t.2.2] [D.int u.2.1,D.int u.2.2])&&true))=true;rw[lU];have:cO [D.int t.2.1,D.int t.2.2] [D.int u.2.1,D.int u.2.2]=true:=lU [t.2.1,t.2.2] [u.2.1,u.2.2];rw[this];simp
theorem pf:∀ts:List Tm,eY (ts.map j8)=true
 |[]=>rfl
 |t::ts=>by
  rw[List.map_cons];unfold eY;rw[Ct,pf ts];rfl
theorem pD:∀ts us:List Tm,cO (ts.map j8) (us.map j8)=true
 |[],_=>by unfold cO;rfl
 |_::_,[]=>by unfold cO;rfl
 |t::ts,u::us=>by
  rw[List.map_cons,List.map_cons];unfold cO;rw[pD ts us,Du];simp
theorem cT (Hk:List (List Tm)):vV (Hk.map dQ):=λa ha b hb=>by
 obtain⟨t,_,rfl⟩:=List.mem_map.mp ha;obtain⟨u,_,rfl⟩:=List.mem_map.mp hb;exact⟨pf t,pD t u⟩
theorem ib (Hk:List (List Tm)):vV (Hk.map fF):=λa ha b hb=>by
 obtain⟨t,_,rfl⟩:=List.mem_map.mp ha;obtain⟨u,_,rfl⟩:=List.mem_map.mp hb;exact⟨pf t,pD t u⟩
theorem jg (Hk:List (List Tm)):Kd (Hk.map dQ):=.inl λd hd=>by
 obtain⟨t,_,rfl⟩:=List.mem_map.mp hd;refine⟨_,rfl,λe he=>?_⟩
 cases t with
 |nil=>cases he
 |cons t ts =>
  rw[List.map_cons] at he;simp only[List.getElem?_cons_zero,Option.some.injEq] at he;exact⟨_,he.symm⟩
theorem qa (Hk:List (List Tm)):Kd (Hk.map fF):=.inr λd hd=>by
 obtain⟨t,_,rfl⟩:=List.mem_map.mp hd;exact⟨_,rfl⟩
theorem iG {as bs xs ys:List L2.D}(Oa:vV as)(Ob:vV bs)(px:xs.Perm as)(py:ys.Perm bs)(ax:Ck xs)(ay:Ck ys):(dY (.lst xs) (.lst ys)=true↔as.Perm bs):=by
 have ox:vV xs:=λa ha b hb=>Oa a (px.mem_iff.mp ha) b (px.mem_iff.mp hb);have oy:vV ys:=λa ha b hb=>Ob a (py.mem_iff.mp ha) b (py.mem_iff.mp hb)
 have pl:∀zs:List L2.D,vV zs->eY zs=true:=λzs o=>by
  have:∀l:List L2.D,(∀d∈l,wC d=true)->eY l=true:=λl=>by
   induction l with
   |nil=>intro _;rfl
   |cons d l ih =>
    intro h;unfold eY;rw[h d (.head _),ih λe he=>h e (.tail _ he)];rfl
  exact this zs λd hd=>(o d hd d hd).1
 constructor
 ·intro h;have e:xs=ys:=j6 xs ys (pl xs ox) h (pl ys oy);subst e;exact px.symm.trans py
 ·intro h;have e:xs=ys:=sd ox ax ay ((px.trans h).trans py.symm);subst e;exact cq _
def DD (H:Hp)(x:V)(ts:List Tm):Prop:=∃t zs,x=.ref t/\H t=some (.tup zs)/\bf H zs ts
variable {H H':Hp}
theorem DD.same {x:V}{ts:List Tm}(h:DD H x ts)(k:aw H H'):DD H' x ts:=let⟨t,zs,e,h1,h2⟩:=h;⟨t,zs,e,k _ _ h1,bf.keep h2 (aJ.of k)⟩
def EU (C CF:Addr):Sp:=λvs H Q _=>∃(A:Addr)(p:Int)(as:List Addr)(Hk:List (List Tm)),vs=[.ref A]/\H A=some (.lst (as.map V.ref))/\ph C CF H p as Hk/\Hk.length<=200/\(∀ts∈Hk,ts.length<=5) /\
 ∀H' D ys,aw H H'->H' D=some (.lst ys)->Paired (DD H') ys (Hk.map bo)->Q (.ref D) H'
variable {P:zr}{w:World}{K:PySem.W.Frag}{mg:vK}{base:Heap}
theorem EZ {f ft C CF:Addr}{fd HR:zI}(F:zA K "forms" "forms" Fo f fd)(cS:C0 K mg C)(Ho:mg "tuple"=none)
 (RE:Ha P w K mg base (aV P w) 1 ft HR ["self"] (iS C CF))(RF:L2.aA K HR ["self"] [])(RG:Meth K C "terms" ft):
 Ha P w K mg base (aV P w) 2 f fd ["wishes"] (EU C CF):=by
 refine F.okN Ge (λvs H Q E h=>?_) (λHn A outer s H vs Q E hr h=>?_)
 ·obtain⟨A,p,as,Hk,rfl,_⟩:=h;rfl
 ·obtain⟨A0,p,as,Hk,rfl,hA,hS,few,l5,q⟩:=h;have Hu:qL 1 _:=hr
  refine⟨_,(ao (aB (bF (N:=["wish"]) (nl:=1) (js:=[]) (osc:=ak Fo) ⟨rfl,rfl,by decide +kernel,by decide +kernel,by decide +kernel,rfl,.nil,by decide +kernel⟩ rfl
   (bY (pv 0))
   (λCq fq sq Hq=>aG (i:=0) (by show(["wish"]:Bg).Nodup;decide +kernel) rfl (Or.inl rfl) (Or.inr rfl))
   (λCq fq sq Hq=>bZ)
   (λCq fq sq Hq=>(bK (eC rfl) (by rfl) Ho (by rfl) (@ah _ _ _ _ _ (bN (pv 0) cS.cl RG RE Hu RF .nil af) ag rfl)))))),?_⟩
  refine⟨_,rfl,A0,rfl,⟨_,aO.of hA⟩,?_⟩;have al:=hS.length;refine fR (a:=A0) (xs:=as.map V.ref) (rest:=[]) (λj us H'=>aw H H'/\Paired (DD H') us ((Hk.take j).map bo)) ⟨aw.refl _,.nil⟩ (λj us H' hj h=>?_) (λj x us H' M hj IW h hM=>?_) (λus H' h=>?_)
  ·obtain⟨sH,hT⟩:=h;refine⟨?_,aO.of (sH _ _ hA)⟩;rw[hT.length,List.length_map,List.length_take];exact Nat.lt_of_le_of_lt (by omega:_<=200) (by decide)
  ·obtain⟨sH,hT⟩:=h;rw[List.getElem?_map] at IW;obtain⟨c,ec,rfl⟩:=Option.map_eq_some_iff.mp IW;obtain⟨ts,et,z⟩:=bt hS ec;obtain⟨dx,fl,Hs,D1,zs,S1,S2,S3,S4⟩:=(z.same sH).ex;refine mD ⟨_,rfl,c,dx,_,rfl,S1,rfl,c,dx,fl,D1,zs,rfl,S1,S3,λl hl=>?_⟩;have s2:=ai (o:=.lst zs) hl;have el:upd H' l (.lst zs) l=some (.lst zs):=ae;change CP _ (upd H' l (.lst zs)) _;generalize upd H' l _=H2 at s2 el |-;refine⟨l,zs,rfl,.inl ⟨aO.of el,λt ht=>?_⟩⟩;have s3:=ai (o:=.tup zs) ht;refine hM _ _ ⟨sH.trans (s2.trans s3),?_⟩;rw[List.take_add_one,et,Option.toList_some,List.map_append];exact Paired.snoc (Paired.aaP hT λ_ _ z=>z.same (s2.trans s3)) ⟨t,zs,rfl,ae,bf.keep S4 (aJ.of (s2.trans s3))⟩
  ·obtain⟨sH,hT⟩:=h;rw[List.length_map,al,List.take_length] at hT;intro L hL;have s2:=ai (o:=.lst us) hL;exact q _ L us (sH.trans s2) ae (Paired.aaP hT λ_ _ z=>z.same s2)
abbrev GD:Stmt:=(aS 17)
theorem DO:yx ["system","thing","renamed"] CL (ak GD):=dJ (by decide +kernel)
def C4 (n:Int)(Hk Hy:List (List Tm))(o:Option (List V)):Prop:=∃ns:List Int,o=some (ns.map V.int)/\B7 ns n/\(Hk.map (mv ns)).Perm (Hk.map bo)/\(Hy.map (mv ns)).Perm (Hy.map bo)
variable {xs:List V}
theorem qb (h:jG (some xs)=true):∃ns:List Int,xs=ns.map V.int:=tX (Bool.and_eq_true_iff.mp h).1
theorem fN {as bs:List Int}(h:as.map V.int=bs.map V.int):as=bs:=by
 have:=congrArg (λl:List V=>l.map λv=>match v with| .int i=>i|_=>0) h;simpa[List.map_map,Function.comp_def] using this
theorem jd {α β:Type}{f:α->β}(inj:∀a b,f a=f b->a=b):∀{as bs:List α},(as.map f).Perm (bs.map f)->as.Perm bs:=by
 intro as
 induction as with
 |nil=>intro bs h;have:=h.length_eq;simp at this;rw[List.length_eq_zero_iff.mp this.symm]
 |cons a as ih =>
  intro bs h;have m:f a∈bs.map f:=h.mem_iff.mp (.head _);obtain⟨b,hb,e⟩:=List.mem_map.mp m;have e:=inj _ _ e;subst e;obtain⟨l1,l2,rfl⟩:=List.append_of_mem hb;refine((ih ?_).cons b).trans List.perm_middle.symm
  have h2:(f b::as.map f).Perm (f b::(l1++l2).map f):=by
   refine h.trans ?_;rw[List.map_append,List.map_cons,List.map_append];exact List.perm_middle
  exact h2.cons_inv
theorem zK {t u:Tm}(h:j8 t=j8 u):t=u:=by
 obtain⟨k,a,b⟩:=t;obtain⟨j,c,d⟩:=u;unfold j8 at h
 injection h with h
 injection h with h1 h2
 injection h1 with h1
 injection h2 with h2 _
 injection h2 with h2
 injection h2 with h2 h3
 injection h3 with h3 _
 injection h2 with h2
 injection h3 with h3
 have h1:k=j:=by
  have:=congrArg (λl:List L2.D=>l.map λv=>match v with| .int i=>i|_=>0) h1;simpa[List.map_map,Function.comp_def] using this
 have h2:a=c:=h2;have h3:b=d:=h3;rw[h1,h2,h3]
theorem oV:∀{ts us:List Tm},ts.map j8=us.map j8->ts=us
 |[],[],_=>rfl
 |[],_::_,h=>by cases h
 |_::_,[],h=>by cases h
 |t::ts,u::us,h=>by
  rw[List.map_cons,List.map_cons] at h
  injection h with h1 h2
  rw[zK h1,oV h2]
theorem ma {as bs:List (List Tm)}:(as.map dQ).Perm (bs.map dQ)↔as.Perm bs:=⟨jd λa b h=>oV (by injection h),λh=>h.map _⟩
theorem rE {as bs:List (List Tm)}:(as.map fF).Perm (bs.map fF)↔as.Perm bs:=⟨jd λa b h=>oV (by injection h),λh=>h.map _⟩
variable {K:PySem.W.Frag}
theorem eE :∀{ys:List V}{Hk:List (List Tm)},Paired (DD H) ys Hk->aI K H (Hk.map dQ) ys
 |_,_,.nil=>by rw[List.map_nil];unfold aI;rfl
 |_,_,.cons h t=>by
  rw[List.map_cons];unfold aI;obtain⟨a,zs,rfl,h1,h2⟩:=h;refine⟨_,_,rfl,?_,eE t⟩;unfold dQ aC;exact⟨a,zs,rfl,bw.of h1,jf h2⟩
theorem eV:∀Hk:List (List Tm),cL (Hk.map dQ)<=16
 |[]=>by rw[List.map_nil];unfold cL;omega
 |t::Hk=>by
  rw[List.map_cons];unfold cL;have h1:=eV Hk
  have h2:dM (dQ t)<=3:=by
   unfold dQ dM;have:=jm t;omega
  omega
theorem kb {k:Nat}:∀{es:List L2.D},(∀d∈es,dM d<=k)->cL es<=k
 |[],_=>Nat.zero_le _
 |e::es,h=>by
  unfold cL;have h1:=h e (.head _);have h2:=kb (es:=es) λd hd=>h d (.tail _ hd);omega
theorem wZ (t:List Tm):dM (dQ t)<=3:=by
 unfold dQ dM;have:=jm t;omega
theorem l0 {es:List L2.D}{Hk:List (List Tm)}(h:es.Perm (Hk.map dQ)):dM (.lst es)<=32:=by
 unfold dM
 have:=kb (k:=3) (es:=es) λd hd=>by
  obtain⟨t,_,rfl⟩:=List.mem_map.mp (h.mem_iff.mp hd);exact wZ t
 omega
theorem uI {p n:Int}{ns:List Int}(O:B7 ns n){Hk:List (List Tm)}(W:Ws p n Hk):(Hk.map (mv ns)).map bo=Hk.map (mv ns):=by
 rw[List.map_map];exact List.map_congr_left λt ht=>ui O (W t ht)
variable {a:Addr}
theorem yQ (s:aw H H')(h:aO K H a xs):aO K H' a xs:=by
 rcases h with(h|⟨o,h⟩)|h
 ·exact .inl (.inl (s _ _ h))
 ·exact .inl (.inr ⟨o,s _ _ h⟩)
 ·exact .inr h
theorem w8 (s:aw H H')(h:bw K H a xs):bw K H' a xs:=by
 rcases h with(h|⟨o,h⟩)|h
 ·exact .inl (.inl (s _ _ h))
 ·exact .inl (.inr ⟨o,s _ _ h⟩)
 ·exact .inr h
mutual
theorem wc (s:aw H H'):∀(d:L2.D)(x:V),aC K H d x->aC K H' d x
 | .non,x,h=>by unfold aC at h |-;exact h
 | .bl _,x,h=>by unfold aC at h |-;exact h
 | .int _,x,h=>by unfold aC at h |-;exact h
 | .str _,x,h=>by unfold aC at h |-;exact h
 | .lst ds,x,h=>by
   unfold aC at h |-;obtain⟨a,xs,e,h1,h2⟩:=h;exact⟨a,xs,e,yQ s h1,b8 s ds xs h2⟩
 | .tup ds,x,h=>by
   unfold aC at h |-;obtain⟨a,xs,e,h1,h2⟩:=h;exact⟨a,xs,e,w8 s h1,b8 s ds xs h2⟩
theorem b8 (s:aw H H'):∀(ds:List L2.D)(xs:List V),aI K H ds xs->aI K H' ds xs
 |[],xs,h=>by unfold aI at h |-;exact h
 |d::ds,xs,h=>by
  unfold aI at h |-;obtain⟨y,ys,e,h1,h2⟩:=h;exact⟨y,ys,e,wc s d y h1,b8 s ds ys h2⟩
end
theorem dz {zs:List V}{es:List L2.D}(s:aw H H')(e:H' a=some (.lst zs))(h:aI K H es zs):aC K H' (.lst es) (.ref a):=by
 unfold aC;exact⟨a,zs,rfl,aO.of e,b8 s _ _ h⟩
def ET (CS C CF:Addr):Sp:=λvs H Q _=>∃(s fl:Addr)(p n:Int)(as bs:List Addr)(Hk Hy:List (List Tm))(x:V)(o:Option (List V)),vs=[.ref s,x]/\rf CS CF H s fl p n as bs/\FP p/\1<=n/\n<=60/\LX H x o/\(∀xs,o=some xs->xs.length<64)/\ph C CF H p as Hk/\ph C CF H p bs Hy/\Ws p n Hk/\Ws p n Hy/\Hk.length<64/\Hy.length<64/\(Hy≠[]->p=0) /\
 ∀H' b,aw H H'->(b=true↔C4 n Hk Hy o)->Q (.bl b) H'
theorem DX {f fo fp fn fu fr ff C CF CS:Addr}{fd I9 IC N0 La J1 N6:zI}(F:zA K "is_likeness" "is_likeness" GD f fd)(cY:Ga K mg CS)(Hi:mg "sorted"=none)(Hm:mg "list"=none)(Hl:mg "range"=none)
 (FO:Ha P w K mg base (aV P w) 3 fo I9 Cz CA)(bO:L2.aA K I9 Cz [])(mO:mg "is_order"=some (.ref fo))(kO:keepIn K (.ref fo)=true)
 (FYp:Ha P w K mg base (aV P w) 1 fp IC ["self"] (D6 CS CF))(bYp:L2.aA K IC ["self"] [])(mYp:Meth K CS "places" fp)
 (RH:Ha P w K mg base (aV P w) 1 fn N0 ["self"] (Co CS CF))(RI:L2.aA K N0 ["self"] [])(RJ:Meth K CS "noughts" fn)
 (RK:Ha P w K mg base (aV P w) 1 fu La ["self"] (Cu CS CF))(RL:L2.aA K La ["self"] [])(RM:Meth K CS "uppers" fu)
 (FYr:Ha P w K mg base (aV P w) 10 fr J1 sJ (yP CS C CF))(bYr:L2.aA K J1 sJ [])(mYr:Meth K CS "renamed" fr)
 (RN:Ha P w K mg base (aV P w) 2 ff N6 ["wishes"] (EU C CF))(RO:L2.aA K N6 ["wishes"] [])(RP:mg "forms"=some (.ref ff))(RQ:keepIn K (.ref ff)=true):
 Ha P w K mg base (aV P w) 11 f fd CL (ET CS C CF):=by
 refine F.okN DO (λvs H Q E h=>?_) (λHn A outer s H vs Q E hr h=>?_)
 ·obtain⟨s,fl,p,n,as,bs,Hk,Hy,x,o,rfl,_⟩:=h;rfl
 ·obtain⟨s0,fl,p,n,as,bs,Hk,Hy,x,o,rfl,Y,hp,n1,I8,hx,ox,hS,hT,W1,W2,f1,f2,u0,q⟩:=h;have J7:qL 10 _:=hr;have Iv:qL (3+2) _:=J7.mono (by decide);have IQ:qL 3 _:=J7.mono (by decide);have HL:qL 2 _:=J7.mono (by decide);have Hu:qL 1 _:=J7.mono (by decide)
  refine⟨_,(aj (ba (PW.pt (dO (bJ (bD (av FO IQ (by rfl) mO kO bO .nil af (@ah _ _ _ _ _ (pv 1) ag rfl)))) (cN (@aH _ _ _ _ _ _ _ _ (iN Hu) (az (ir rfl) (by rfl) Hi (by rfl) (@ah _ _ _ _ _ (pv 1) ag rfl)) (gH (@ah _ _ _ _ _ (bN (pv 0) cY.cl mYp FYp Hu bYp .nil af) ag rfl) rfl (by rfl) Hm (by rfl) Hl) (aF _))))) (ao (aB dR)) aE)
   (aj (@aM _ _ 2 _ _ _ _ DO.nd rfl (Or.inl rfl) (ip (pv 0) cY.cl mYr FYr J7 bYr .nil af (@ah _ _ _ _ _ (pv 1) ag rfl)) rfl (Or.inl rfl))
   (ao (aB (eU (@cz _ _ _ _ _ _ _ _ (rK Hu) (az (hX (k:=3) rfl Iv) (by rfl) Hi (by rfl) (@ah _ _ _ _ _ (av RN HL (by rfl) RP RQ RO .nil af (@ah _ _ _ _ _ (bN (pv 2) cY.cl RJ RH Hu RI .nil af) ag rfl)) ag rfl)) (az (hX (k:=3) rfl Iv) (by rfl) Hi (by rfl) (@ah _ _ _ _ _ (av RN HL (by rfl) RP RQ RO .nil af (@ah _ _ _ _ _ (bN (pv 0) cY.cl RJ RH Hu RI .nil af) ag rfl)) ag rfl)) (aF _)) (gX (@cz _ _ _ _ _ _ _ _ (rK Hu) (az (hX (k:=3) rfl Iv) (by rfl) Hi (by rfl) (@ah _ _ _ _ _ (av RN HL (by rfl) RP RQ RO .nil af (@ah _ _ _ _ _ (bN (pv 2) cY.cl RM RK Hu RL .nil af) ag rfl)) ag rfl)) (az (hX (k:=3) rfl Iv) (by rfl) Hi (by rfl) (@ah _ _ _ _ _ (av RN HL (by rfl) RP RQ RO .nil af (@ah _ _ _ _ _ (bN (pv 0) cY.cl RM RK Hu RL .nil af) ag rfl)) ag rfl)) (aF _)))))))),?_⟩
  obtain⟨JF,Hs,A1,B1,hY,hf,hA,hB⟩:=Y.ex;refine⟨_,rfl,x,o,rfl,hx,λH1 s1=>⟨_,rfl,?_⟩⟩
  cases ob:jG o with
  |false =>
   refine aZ (aZ (q _ _ s1 ⟨λh=>(nomatch h),?_⟩));rintro⟨ns,rfl,O,_⟩;rw[O.all] at ob
   cases ob
  |true =>
   refine a9 ?_
   cases hx with
   |no _ _=>cases ob
   |@lst a xs ha hl MT =>
    obtain⟨ns,rfl⟩:=qb ob;have Od:=ox _ rfl;rw[List.length_map] at Od;refine⟨_,rfl,a,ns,rfl,aO.of (s1 _ _ ha),Od,λD1 ms hD perm up=>?_⟩;have s2:=ai (o:=.lst (ms.map V.int)) hD;have eD:upd H1 D1 (.lst (ms.map V.int)) D1=some (.lst (ms.map V.int)):=ae;generalize upd H1 D1 _=H2 at s2 eD |-;have IU:=s1.trans s2;refine⟨_,rfl,s0,JF,_,rfl,IU _ _ hY,rfl,s0,fl,p,n,as,bs,rfl,Y.same IU,?_⟩;refine⟨n,rfl,⟨by omega,by omega⟩,by omega,λD2 Im=>?_⟩;have s3:=ai (o:=.lst ((cg 0 n.toNat).map V.int)) Im;have IS:upd H2 D2 (.lst ((cg 0 n.toNat).map V.int)) D2=some (.lst ((cg 0 n.toNat).map V.int)):=ae;generalize upd H2 D2 _=H3 at s3 IS |-;have IE:=IU.trans s3;have eD:=s3 _ _ eD
    have dl:∀{c:Addr}{ks:List Int},H3 c=some (.lst (ks.map V.int))->aC K H3 (.lst (ks.map L2.D.int)) (.ref c):=λ{c ks} e=>by
     unfold aC;exact⟨c,_,rfl,aO.of e,du _⟩
    refine⟨_,_,dl eD,dl IS,(by unfold dM;have:=jb ms;unfold dM at this;omega),_,rfl,?_⟩;have ed:dY (.lst (ms.map L2.D.int)) (.lst ((cg 0 n.toNat).map L2.D.int))=decide (ms=cg 0 n.toNat):=iW _ _;rw[ed]
    by_cases em:¬ms=cg 0 n.toNat
    ·rw[decide_eq_false em];refine aZ (q _ _ IE ⟨λh=>(nomatch h),?_⟩);rintro⟨ks,ek,O,_⟩;have ek:=fN (Option.some.inj ek);subst ek;exact absurd (kx O perm up) em
    have em:=Classical.not_not.mp em;rw[decide_eq_true em];refine a9 ?_;subst em;have O:B7 ns n:=.of (by omega) I8 perm.symm;refine⟨_,rfl,s0,JF,_,rfl,IE _ _ hY,rfl,_,rfl,s0,fl,a,p,n,as,bs,Hk,Hy,ns,rfl,Y.same IE,hp,n1,IE _ _ ha,O,hS.same IE,hT.same IE,W1,W2,u0,λH4 y IF Je s4 Y4 Lc hT4=>?_⟩;obtain⟨XW,_,_,_,XX,_⟩:=Y4.ex
    have lt1:(Hk.map (mv ns)).length<64:=by rw[List.length_map];exact f1
    have lt2:(Hy.map (mv ns)).length<64:=by rw[List.length_map];exact f2
    have m1:=uI O W1;have m2:=uI O W2;have v1:=tR O W1;have v2:=tR O W2;have s04:=IE.trans s4;refine⟨_,rfl,y,XW,_,rfl,XX,rfl,y,fl,p,n,IF,Je,rfl,Y4,λN1 hN=>?_⟩;have t1:=ai (o:=.lst (IF.map V.ref)) hN;have eN:upd H4 N1 (.lst (IF.map V.ref)) N1=some (.lst (IF.map V.ref)):=ae;change CP _ (upd H4 N1 (.lst (IF.map V.ref))) _;generalize upd H4 N1 _=Ga1 at t1 eN |-;refine⟨N1,p,IF,Hk.map (mv ns),rfl,eN,Lc.same t1,(by omega),(λt ht=>(v1 t ht).len),λXY F1 ys1 t2 eF XZ=>?_⟩;refine⟨F1,ys1,((Hk.map (mv ns)).map bo).map dQ,rfl,aO.of eF,by rw[XZ.length,List.length_map];have:=(by omega);first|omega|exact this,eE XZ,eV _,cT _,jg _,λS1 Md Oe TV zl1 KI J8 IJ=>?_⟩;have t3:=ai (o:=.lst Md) TV;have Of:upd XY S1 (.lst Md) S1=some (.lst Md):=ae;generalize upd XY S1 _=TY at t3 Of |-;have u1:=t1.trans (t2.trans t3);have KI:=b8 t3 _ _ KI;clear t1 t2 t3 eN eF;have RS:=s04.trans u1;refine⟨_,rfl,s0,JF,_,rfl,(RS _ _ hY),rfl,s0,fl,p,n,as,bs,rfl,(Y.same RS),λN2 hN=>?_⟩;have t1:=ai (o:=.lst (as.map V.ref)) hN;have eN:upd TY N2 (.lst (as.map V.ref)) N2=some (.lst (as.map V.ref)):=ae;change CP _ (upd TY N2 (.lst (as.map V.ref))) _;generalize upd TY N2 _=Ga2 at t1 eN |-;refine⟨N2,p,as,Hk,rfl,eN,(hS.same RS).same t1,(by omega),(λt ht=>(W1 t ht).len),λX0 F2 ys2 t2 eF X1=>?_⟩;refine⟨F2,ys2,((Hk).map bo).map dQ,rfl,aO.of eF,by rw[X1.length,List.length_map];have:=(by omega);first|omega|exact this,eE X1,eV _,cT _,jg _,λS2 Me Og TZ zl2 hd2 Kv Kq=>?_⟩;have t3:=ai (o:=.lst Me) TZ;have K5:upd X0 S2 (.lst Me) S2=some (.lst Me):=ae;generalize upd X0 S2 _=T1 at t3 K5 |-;have u2:=t1.trans (t2.trans t3);have hd2:=b8 t3 _ _ hd2;clear t1 t2 t3 eN eF;have X2:=RS.trans u2;have T2:=u1.trans u2;have Jf:=iG (cT _) (cT _) J8 Kv IJ Kq;rw[m1,ma] at Jf;refine⟨_,_,dz u2 (u2 _ _ Of) KI,dz (aw.refl _) K5 hd2,l0 J8,?_⟩
    by_cases d1:¬dY (.lst Oe) (.lst Og)=true
    ·have NK:dY (.lst Oe) (.lst Og)=false:=by simpa using d1
     rw[NK];refine⟨false,rfl,a9 (q _ _ X2 ⟨λh=>(nomatch h),?_⟩)⟩;rintro⟨ks,ek,_,h1,_⟩;have ek:=fN (Option.some.inj ek);subst ek;exact absurd (Jf.mpr h1) d1
    have d1:=Classical.not_not.mp d1;rw[d1];refine⟨true,rfl,aZ ?_⟩;refine⟨_,rfl,y,XW,_,rfl,(T2 _ _ XX),rfl,y,fl,p,n,IF,Je,rfl,(Y4.same T2),λN3 hN=>?_⟩;have t1:=ai (o:=.lst (Je.map V.ref)) hN;have eN:upd T1 N3 (.lst (Je.map V.ref)) N3=some (.lst (Je.map V.ref)):=ae;change CP _ (upd T1 N3 (.lst (Je.map V.ref))) _;generalize upd T1 N3 _=Ga3 at t1 eN |-;refine⟨N3,p,Je,Hy.map (mv ns),rfl,eN,(hT4.same T2).same t1,(by omega),(λt ht=>(v2 t ht).len),λX3 F3 ys3 t2 eF X4=>?_⟩;refine⟨F3,ys3,((Hy.map (mv ns)).map bo).map dQ,rfl,aO.of eF,by rw[X4.length,List.length_map];have:=(by omega);first|omega|exact this,eE X4,eV _,cT _,jg _,λS3 T3 es3 hS3 zl3 T4 X5 JH=>?_⟩;have t3:=ai (o:=.lst T3) hS3;have NV:upd X3 S3 (.lst T3) S3=some (.lst T3):=ae;generalize upd X3 S3 _=T5 at t3 NV |-;have u3:=t1.trans (t2.trans t3);have T4:=b8 t3 _ _ T4;clear t1 t2 t3 eN eF;have RT:=X2.trans u3;refine⟨_,rfl,s0,JF,_,rfl,(RT _ _ hY),rfl,s0,fl,p,n,as,bs,rfl,(Y.same RT),λN4 hN=>?_⟩;have t1:=ai (o:=.lst (bs.map V.ref)) hN;have eN:upd T5 N4 (.lst (bs.map V.ref)) N4=some (.lst (bs.map V.ref)):=ae;change CP _ (upd T5 N4 (.lst (bs.map V.ref))) _;generalize upd T5 N4 _=Ga4 at t1 eN |-;refine⟨N4,p,bs,Hy,rfl,eN,(hT.same RT).same t1,(by omega),(λt ht=>(W2 t ht).len),λX6 F4 ys4 t2 eF X7=>?_⟩;refine⟨F4,ys4,((Hy).map bo).map dQ,rfl,aO.of eF,by rw[X7.length,List.length_map];have:=(by omega);first|omega|exact this,eE X7,eV _,cT _,jg _,λS4 T6 es4 Lc zl4 T7 T8 ha4=>?_⟩;have t3:=ai (o:=.lst T6) Lc;have X8:upd X6 S4 (.lst T6) S4=some (.lst T6):=ae;generalize upd X6 S4 _=Gc4 at t3 X8 |-;have u4:=t1.trans (t2.trans t3);have T7:=b8 t3 _ _ T7;clear t1 t2 t3 eN eF;have Mf:=iG (cT _) (cT _) X5 T8 JH ha4;rw[m2,ma] at Mf;refine⟨_,_,dz u4 (u4 _ _ NV) T4,dz (aw.refl _) X8 T7,l0 X5,?_⟩;refine q _ _ (RT.trans u4) ⟨λh=>⟨ns,rfl,O,Jf.mp d1,Mf.mp ?_⟩,?_⟩
    ·simpa using h
    ·rintro⟨ks,ek,_,_,h2⟩;have ek:=fN (Option.some.inj ek);subst ek;rw[Mf.mpr h2];rfl
end K66
namespace L2
open PySem PySem.W PyProof.Rows
section
variable {X:Cx}
def abH:V->List V->Hp->VK->Prop:=λx vs H Q=>∃l xs i y,x=.ref l/\vs=[.int i,y]/\H l=some (.lst xs)/\0<=i/\i<=(xs.length:Int)/\xs.length<sizeLine/\Q .non (upd H l (.lst (xs.take i.toNat++y::xs.drop i.toNat)))
theorem vx:Gz X "list.insert" abH:=by
 intro pins s σ H x vs v us Q I rx rv h;obtain⟨l,xs,i,y,rfl,rfl,hH,h1,h2,hz,q⟩:=h
 cases rx
 cases rv with
 |cons r1 rv =>
  cases rv with
  |cons r2 rv =>
   cases rv
   obtain⟨t,rfl⟩:=r1
   rename_i w
   obtain⟨z,its,n,r,hl,e⟩:=I.abE hH
   have sl:sizeLine<2^62:=by decide
   have T9:¬(!Builtin.List.listFitsIndex i)=true:=by
    rw[fitsIndex_both (by omega) (by omega)];exact Bool.false_ne_true
   refine call_meets F.slot_list_insert ⟨_,e,rfl⟩ F.entry_list_insert (F.args_list_insert_3 _ _ _) (AutoSeq1.list_insert_list_int_val_1 l its.toArray n i t w T9 (by rw[List.size_toArray];omega)) ⟨e,?_⟩;refine⟨.non,_,I.ab8 (its':=its.take i.toNat++w::its.drop i.toNat) hH e ?_ ((r.take _).append (.cons r2 (r.drop _))) ?_,rfl,q⟩
   ·have hk:(if i<0 then(i+(its.toArray.size:Int)).toNat else min i.toNat its.toArray.size)=i.toNat:=by
     rw[if_neg (by omega),List.size_toArray,<-hl];omega
    show((its.toArray.extract 0 (if i<0 then(i+(its.toArray.size:Int)).toNat else min i.toNat its.toArray.size)).push w++its.toArray.extract (if i<0 then(i+(its.toArray.size:Int)).toNat else min i.toNat its.toArray.size))=_;rw[hk];apply Array.toList_inj.mp;simp[Array.toList_extract,List.extract_eq_take_drop];exact List.take_of_length_le (by rw[List.length_drop];exact Nat.le_refl _)
   ·rw[List.length_append,List.length_cons,List.length_take,List.length_drop];omega
end
end L2
namespace K66
open PySem L2 PySem.W Nm Srt
abbrev Gu:Stmt:=(aS 61)
theorem B9:yx ["_law_pool_here","_law_many","_law_found","_law_one"] qT (ak Gu):=dJ (by decide +kernel)
theorem m7:∀(n:Nat)(i:Int),cg i (n+1)=cg i n++[i+n]
 |0,i=>by
  show [i]=[i+(0:Nat)];simp
 |n+1,i=>by
  show i::cg (i+1) (n+1)=i::(cg (i+1) n++[i+(n+1:Nat)]);rw[m7 n (i+1)];congr 2;simp;omega
def Hf:Sp:=λvs H Q _=>∃(r:Addr)(n:Int),vs=[.ref r,.int n]/\aR H r/\1<=n/\n<=60/\∀H' D ns,H D=none->H' D=some (.lst (ns.map V.int))->B7 ns n->aR H' r->SameBut r H H'->Q (.ref D) H'
variable {P:zr}{w:World}{K:PySem.W.Frag}{mg:vK}{base:Heap}
variable {f:Addr}{fd:zI}
theorem EA {ft:Addr}{HR:zI}(F:zA K "_law_shuffled" "_law_shuffled" Gu f fd)(Hl:mg "range"=none)(Hr:mg "len"=none)
 (Ip:Ha P w K mg base (aV P w) 1 ft HR qT v8)(Iq:L2.aA K HR qT [])(Ir:mg "_law_take"=some (.ref ft))(Iu:keepIn K (.ref ft)=true):
 Ha P w K mg base (aV P w) 2 f fd qT Hf:=by
 refine F.okN B9 (λvs H Q E h=>?_) (λHn A outer s H vs Q E hr h=>?_)
 ·obtain⟨r,n,rfl,_⟩:=h;rfl
 ·obtain⟨r,n,rfl,R,n1,I8,q⟩:=h;have Hu:qL 1 _:=hr
  refine⟨_,(aj (@aM _ _ 2 _ _ _ _ B9.nd rfl (Or.inl rfl) (@cu _ _ _ _ ag) rfl (Or.inl rfl))
   (aj (eK PassesOwn.never rfl (dj (by rfl) Hl (@ah _ _ _ _ _ (pv 1) ag rfl)) (aG (i:=3) B9.nd rfl (Or.inl rfl))
   (ao (pq (xp PySem.F.plainAttrs_list PySem.F.slot_list_insert PySem.F.type_list_insert vx (pv 2) (@ah _ _ _ _ _ (av Ip Hu (by rfl) Ir Iu Iq .nil af (@ah _ _ _ _ _ (pv 0) (@ah _ _ _ _ _ (@aL _ _ _ _ _ _ _ _ cW (az aW (by rfl) Hr PySem.boot_len (@ah _ _ _ _ _ (pv 2) ag rfl)) ar) ag rfl) rfl)) (@ah _ _ _ _ _ (pv 3) ag rfl) rfl)))))
   (ao (aB (pv 2))))),?_⟩
  refine⟨Nat.zero_le _,λD hD=>?_⟩;have s1:=ai (o:=.lst []) hD;have eD:upd H D (.lst []) D=some (.lst (([]:List Int).map V.int)):=ae;have R1:=R.same s1
  have Jy:D≠r:=by
   obtain⟨l,x,e,_⟩:=R;exact(au e hD).symm
  generalize upd H D _=H1 at s1 eD R1 |-;refine⟨_,rfl,n,rfl,by omega,by omega,?_⟩;refine dZ (lo:=0) (n:=n.toNat) (λi σ H'=>(∃o3,σ=[some (.ref r),some (.int n),some (.ref D),o3])/\aR H' r/\SameBut r H H'/\∃ns:List Int,H' D=some (.lst (ns.map V.int))/\ns.Perm (cg 0 i)) ⟨⟨_,rfl⟩,R1,SameBut.of s1,[],eD,List.Perm.refl _⟩ ?_ ?_
  ·rintro i σ H2 hi ⟨⟨o3,rfl⟩,R2,Ih,ns,e2,pm⟩;have ln:=pm.length_eq;rw[jj] at ln;obtain⟨l2,x2,er,b0,b1⟩:=R2
   have le:(ns.map V.int).length=i:=by rw[List.length_map];exact ln
   refine⟨_,rfl,.inl ⟨rfl,_,aO.of e2⟩,_,rfl,_,rfl,D,_,rfl,.inl (aO.of e2),_,_,rfl,rfl,?_⟩;refine⟨r,l2,x2,((ns.map V.int).length:Int)+1,rfl,er,b0,b1,by omega,by omega,λz l3 r3 z0 z1 g0 g1=>?_⟩
   have e3:upd H2 r (.lst [.int l3,.int r3]) D=some (.lst (ns.map V.int)):=by rw[aq Jy];exact e2
   refine⟨_,rfl,D,ns.map V.int,z,.int (0+(i:Int)),rfl,rfl,e3,z0,by omega,Nat.lt_of_le_of_lt (by omega:(ns.map V.int).length<=60) (by decide),?_⟩;refine⟨⟨_,rfl⟩,⟨l3,r3,by rw[aq Jy.symm];exact ae,g0,g1⟩,λb u e nb=>?_,ns.take z.toNat++(0+(i:Int)):: ns.drop z.toNat,?_,?_⟩
   ·rw[aq (au e hD),aq nb];exact Ih b u e nb
   ·rw[ae,List.map_append,List.map_cons,List.map_take,List.map_drop]
   ·rw[m7];refine List.perm_middle.trans ?_;rw[List.take_append_drop];exact(pm.cons _).trans (List.perm_append_comm (l₁:=[0+(i:Int)]))
  ·rintro σ H2 ⟨⟨o3,rfl⟩,R2,Ih,ns,e2,pm⟩;exact⟨_,rfl,q H2 D ns hD e2 (.of (by omega) I8 pm) R2 Ih⟩
abbrev Gm:Stmt:=(aS 59)
theorem Fq:yx ql ql (ak Gm):=dJ (by decide +kernel)
def Gh:Sp:=λvs H Q _=>∃(t a:Addr)(ks ns:List Int)(n:Int),vs=[.ref t,.ref a]/\H t=some (.tup (ks.map V.int))/\H a=some (.lst (ns.map V.int))/\B7 ns n/\(∀k∈ks,0<=k/\k<n)/\ks.length<=3 /\
 ∀H' t',aw H H'->H' t'=some (.tup ((mH (ks.map λk=>ns.getD k.toNat 0)).map V.int))->Q (.ref t') H'
theorem E0 (F:zA K "_law_moved" "_law_moved" Gm f fd)(Ho:mg "tuple"=none)(Hi:mg "sorted"=none):
 Ha P w K mg base (aV P w) 1 f fd ql Gh:=by
 refine F.okN Fq (λvs H Q E h=>?_) (λHn A outer s H vs Q E hr h=>?_)
 ·obtain⟨t,a,ks,ns,n,rfl,_⟩:=h;rfl
 ·obtain⟨t,a,ks,ns,n,rfl,ht,ha,O,hk,l3,q⟩:=h;have hl:=O.len
  refine⟨_,(ao (aB (bK (eC rfl) (by rfl) Ho (by rfl) (@ah _ _ _ _ _ (az (ir rfl) (by rfl) Hi (by rfl) (@ah _ _ _ _ _ (bF (N:=["_law_place","_law_order"]) (nl:=1) (js:=[1]) (osc:=ak Gm) ⟨rfl,rfl,by decide +kernel,by decide +kernel,by decide +kernel,rfl,(.cons ⟨rfl,by decide +kernel⟩ .nil),by decide +kernel⟩ rfl
   (BN rfl (pv 0))
   (λCq fq sq Hq=>aG (i:=0) (by show(["_law_place","_law_order"]:Bg).Nodup;decide +kernel) rfl (Or.inl rfl) (Or.inr rfl))
   (λCq fq sq Hq=>bZ)
   (λCq fq sq Hq=>(@bq _ _ _ _ _ _ _ (BD rfl) (pv 1) (pv 0) (λ_ _=>rfl)))) ag rfl)) ag rfl)))),?_⟩
  refine⟨_,rfl,t,rfl,⟨_,bw.of ht⟩,?_⟩;refine qW (xs:=ks.map V.int) (λj us H3=>H3=H/\us=((ks.take j).map λk=>ns.getD k.toNat 0).map V.int) ⟨rfl,rfl⟩ (λj us H3 hj h=>?_) (λj x us H3 N hj hx h k=>?_) (λus H3 h=>?_)
  ·obtain⟨rfl,rfl⟩:=h;exact⟨Nat.lt_of_le_of_lt (by simp;omega:_<=3) (by decide),bw.of ht⟩
  ·obtain⟨rfl,rfl⟩:=h
   have KY:j<ks.length:=by simpa using hj
   have ex:ks[j]?=some ks[j]:=by simp[KY]
   have ev:x=.int ks[j]:=by
    rw[List.getElem?_map,ex] at hx;exact(Option.some.inj hx).symm
   subst ev;have km:=hk _ (List.getElem_mem KY);refine mD ⟨_,rfl,_,rfl,a,_,_,_,rfl,rfl,aO.of ha,x8 km.1 (by omega),k _ _ ⟨rfl,?_⟩⟩;rw[List.take_add_one,ex,List.map_append,List.map_append];rfl
  ·obtain⟨rfl,rfl⟩:=h;intro L hL;rw[List.length_map,List.take_length];have sL:=ai (o:=.lst ((ks.map λk=>ns.getD k.toNat 0).map V.int)) hL;refine⟨L,_,rfl,aO.of ae,by rw[List.length_map];omega,λD2 ms Im perm NX=>?_⟩;have em:=uz perm NX;subst em;refine⟨D2,_,rfl,.inl ⟨aO.of ae,λa2 Kq=>?_⟩⟩;exact q _ a2 ((sL.trans (ai Im)).trans (ai Kq)) ae
abbrev FF:Stmt:=(aS 60)
theorem FY:yx C7 C7 (ak FF):=dJ (by decide +kernel)
def lz:Sp:=λvs H Q _=>∃(l a:Addr)(p n:Int)(ys:List V)(ts:List Tm)(ns:List Int)(m j:Nat),vs=[.int p,.ref l,.ref a]/\FP p/\H l=some (.lst ys)/\bf H ys ts/\Wi m j p n ts/\m<=4000/\j<64/\H a=some (.lst (ns.map V.int))/\B7 ns n /\
 ∀H' D zs,aw H H'->H D=none->H' D=some (.lst zs)->bf H' zs (bo (ts.map (xa ns)))->Q (.ref D) H'
variable {fm:Addr}{JV:zI}
theorem EO {fg:Addr}{IY:zI}(F:zA K "_law_moved_terms" "_law_moved_terms" FF f fd)
 (FMv:Ha P w K mg base (aV P w) 1 fm JV ql Gh)(bMv:L2.aA K JV ql [])(mMv:mg "_law_moved"=some (.ref fm))(kMv:keepIn K (.ref fm)=true)
 (FG:Ha P w K mg base (aV P w) 4 fg IY vI me)(bG:L2.aA K IY vI [])(mG:mg "_law_gathered"=some (.ref fg))(kG:keepIn K (.ref fg)=true):
 Ha P w K mg base (aV P w) 5 f fd C7 lz:=by
 refine F.okN FY (λvs H Q E h=>?_) (λHn A outer s H vs Q E hr h=>?_)
 ·obtain⟨l,a,p,n,ys,ts,ns,m,j,rfl,_⟩:=h;rfl
 ·obtain⟨l,a,p,n,ys,ts,ns,m,j,rfl,hp,hl,hz,W,hm,hj,ha,O,q⟩:=h;have JM:qL 4 _:=hr;have Hu:qL 1 _:=JM.mono (by decide);have zl:=hz.length;have tl:=W.len;have Wr:=lD O W
  refine⟨_,(ao (aB (av FG JM (by rfl) mG kG bG .nil af (@ah _ _ _ _ _ (pv 0) (@ah _ _ _ _ _ (bF (g:=(pY K 2 (eQ (bA 0) (eQ (bA 1) As)))) (N:=["_law_product_here","_law_number_here","_law_order"]) (nl:=2) (js:=[2]) (osc:=ak FF) ⟨rfl,rfl,by decide +kernel,by decide +kernel,by decide +kernel,rfl,(.cons ⟨rfl,by decide +kernel⟩ .nil),by decide +kernel⟩ rfl
   (bY (pv 1))
   (λCq fq sq Hq=>(fG (X:=gQ _ ["_law_product_here","_law_number_here","_law_order"] _ Cq fq sq Hq) rfl (bh (aG (X:=gQ _ ["_law_product_here","_law_number_here","_law_order"] _ Cq fq sq Hq) (i:=0) (by show(["_law_product_here","_law_number_here","_law_order"]:Bg).Nodup;decide +kernel) rfl (Or.inl rfl) (Or.inr rfl)) (bh (aG (X:=gQ _ ["_law_product_here","_law_number_here","_law_order"] _ Cq fq sq Hq) (i:=1) (by show(["_law_product_here","_law_number_here","_law_order"]:Bg).Nodup;decide +kernel) rfl (Or.inl rfl) (Or.inr rfl)) dC))))
   (λCq fq sq Hq=>bZ)
   (λCq fq sq Hq=>(@dw _ _ _ _ _ (@ah _ _ _ _ _ (av FMv Hu (by rfl) mMv kMv bMv .nil af (@ah _ _ _ _ _ (pv 0) (@ah _ _ _ _ _ (pv 2) ag rfl) rfl)) (@ah _ _ _ _ _ (pv 1) ag rfl) rfl)))) ag rfl) rfl)))),?_⟩
  refine⟨_,rfl,_,rfl,l,rfl,⟨ys,aO.of hl⟩,?_⟩;refine nc (xs:=ys) (λi us H'=>aw H H'/\bf H' us ((ts.take i).map (xa ns))) ⟨aw.refl _,.nil⟩ (λi us H' hi h=>?_) (λi y us H' hi hy h=>?_) (λus H' h=>?_)
  ·obtain⟨sH,hu⟩:=h;refine⟨?_,aO.of (sH _ _ hl)⟩;rw[hu.length,List.length_map,List.length_take];exact Nat.lt_of_le_of_lt (by omega:_<=63) (by decide)
  ·obtain⟨sH,hu⟩:=h;obtain⟨t,et,tr⟩:=bt hz hy;obtain⟨at_,pr,nu,rfl,K2,IT,Jp⟩:=tr.keep (aJ.of sH);have tm:=W.tm t (List.mem_of_getElem? et);refine⟨at_,.ref pr,.ref nu,rfl,bw.of K2,λN k=>mD ?_⟩;refine⟨_,rfl,_,rfl,pr,a,t.1,ns,n,rfl,IT,sH _ _ ha,O,tm.2.2.1,tm.2.2.2,λH2 t' s2 et'=>?_⟩;refine⟨_,rfl,nj,λtu Rx=>k _ _ ?_⟩;have s3:=ai (o:=.tup [.ref t',.ref nu]) Rx;refine⟨sH.trans (s2.trans s3),?_⟩;rw[List.take_add_one,et,Option.toList_some,List.map_append];exact Paired.snoc (bf.keep hu (aJ.of (s2.trans s3))) ⟨tu,t',nu,rfl,ae,s3 _ _ et',(s2.trans s3) _ _ Jp⟩
  ·obtain⟨sH,hu⟩:=h;rw[zl,List.take_length] at hu;intro L hL;have sL:=ai (o:=.lst us) hL;refine⟨L,p,us,_,rfl,hp,ae,bf.keep hu (aJ.of sL),Wr.gth hm hj,λH6 D zs s6 hD e6 h6=>?_⟩;rw[Wr.Hc] at h6;exact q H6 D zs (sH.trans (sL.trans s6)) (none_of (sH.trans sL) hD) e6 h6
abbrev Fu:Stmt:=(aS 62)
theorem Gj:yx rB rB (ak Fu):=dJ (by decide +kernel)
def FV (K:PySem.W.Frag):List V->Hp->VK->Prop:=λxs H Q=>∃x c t cv b,xs=[x,c]/\EM c cv/\EW K H x t/\kitOne K t cv=some b/\Q (.bl b) H
variable {K:PySem.W.Frag}
theorem qq {X:Cx}(hK:X.K=K):cH X (.builtin "isinstance") (FV K):=by subst hK;exact aY
variable {H:Hp}{x:V}{T:String}
theorem Th.F5 (h:Th H x T):kitOne K (.type T) (.type "int")=some (decide (T="int") || decide (T="bool")):=by cases h <;> rfl
theorem Th.isB (h:Th H x T):kitOne K (.type T) (.type "bool")=some (decide (T="bool")):=by cases h <;> rfl
def Es:V->Bool
 | .int _=>false
 |_=>true
theorem Th.odd (h:Th H x T):(!(decide (T="int") || decide (T="bool")) || decide (T="bool"))=Es x:=by cases h <;> rfl
theorem qx:∀{xs:List V},(∀y∈xs,∃k,y=V.int k)->∃ns:List Int,xs=ns.map V.int
 |[],_=>⟨[],rfl⟩
 |x::xs,h=>by
  obtain⟨k,rfl⟩:=h x (.head _);obtain⟨ks,rfl⟩:=qx (xs:=xs) λy hy=>h y (.tail _ hy);exact⟨k::ks,rfl⟩
def BZ:Sp:=λvs H Q _=>∃(n:Int)(x:V)(o:Option (List V)),vs=[.int n,x]/\1<=n/\n<=60/\LX H x o/\(∀xs,o=some xs->xs.length<64) /\
 ∀H' b,aw H H'->(b=true ↔ ∃ns:List Int,o=some (ns.map V.int)/\B7 ns n)->Q (.bl b) H'
theorem Ew (F:zA K "_law_is_order" "_law_is_order" Fu f fd)(Hg:mg "isinstance"=none)(Hm:mg "list"=none)(Hr:mg "len"=none)(Ij:mg "int"=none)(HN:mg "bool"=none)(Hi:mg "sorted"=none)(Hl:mg "range"=none):
 Ha P w K mg base (aV P w) 2 f fd rB BZ:=by
 refine F.okN Gj (λvs H Q E h=>?_) (λHn A outer s H vs Q E hr h=>?_)
 ·obtain⟨n,x,o,rfl,_⟩:=h;rfl
 ·obtain⟨n,x,o,rfl,n1,I8,hx,ox,q⟩:=h;have Hu:qL 1 _:=hr
  refine⟨_,(aj (ba (PW.pt (dO (bJ (bD (az aY (by rfl) Hg (by rfl) (@ah _ _ _ _ _ (pv 1) (@ah _ _ _ _ _ (cA (by rfl) Hm (by rfl) (show aD (.ty "list") (.type "list") from rfl)) ag rfl) rfl)))) (cN (@aH _ _ _ _ _ _ _ _ jW (az aW (by rfl) Hr PySem.boot_len (@ah _ _ _ _ _ (pv 1) ag rfl)) (pv 0) (aF _))))) (ao (aB dR)) aE)
   (aj (ba (@aH _ _ _ _ _ _ _ _ (xK Hu) (bF (N:=["_law_one"]) (nl:=1) (js:=[]) (osc:=ak Fu) ⟨rfl,rfl,by decide +kernel,by decide +kernel,by decide +kernel,rfl,.nil,by decide +kernel⟩ rfl
    (bY (pv 1))
    (λCq fq sq Hq=>aG (i:=0) (by show(["_law_one"]:Bg).Nodup;decide +kernel) rfl (Or.inl rfl) (Or.inr rfl))
    (λCq fq sq Hq=>(iU (PW.pt (dO (bJ (bD (az (qq rfl) (by rfl) Hg (by rfl) (@ah _ _ _ _ _ (pv 0) (@ah _ _ _ _ _ (cA (by rfl) Ij (by rfl) (show aD (.ty "int") (.type "int") from rfl)) ag rfl) rfl)))) (cN (bD (az (qq rfl) (by rfl) Hg (by rfl) (@ah _ _ _ _ _ (pv 0) (@ah _ _ _ _ _ (cA (by rfl) HN (by rfl) (show aD (.ty "bool") (.type "bool") from rfl)) ag rfl) rfl))))))))
    (λCq fq sq Hq=>(pv 0))) (@cu _ _ _ _ ag) (aF _)) (ao (aB dR)) aE)
   (ao (aB (@cz _ _ _ _ _ _ _ _ (rK Hu) (az (ir rfl) (by rfl) Hi (by rfl) (@ah _ _ _ _ _ (pv 1) ag rfl)) (gH (@ah _ _ _ _ _ (pv 0) ag rfl) rfl (by rfl) Hm (by rfl) Hl) (aF _)))))),?_⟩
  cases hx with
  |@no x T th ne =>
   refine⟨_,rfl,x,.ty "list",_,_,_,rfl,rfl,th.ty,th.abd,_,rfl,?_⟩;rw[decide_eq_false ne];exact aZ (aZ (q _ _ (aw.refl _) ⟨λh=>(nomatch h),by rintro⟨ns,e,_⟩;cases e⟩))
  |@lst a xs ha hl MT =>
   have Od:=ox _ rfl;refine⟨_,rfl,.ref a,.ty "list",_,_,_,rfl,rfl,.of (.lst ha),rfl,_,rfl,a9 ?_⟩;refine⟨_,rfl,a,xs,rfl,.inl (aO.of ha),_,rfl,rfl,_,rfl,?_⟩
   by_cases el:¬V.int xs.length=V.int n
   ·rw[decide_eq_false el];refine aZ (q _ _ (aw.refl _) ⟨λh=>(nomatch h),?_⟩);rintro⟨ns,e,O⟩
    cases e
    refine absurd ?_ el;rw[List.length_map,O.len]
   have el:=Classical.not_not.mp el;rw[decide_eq_true el];refine a9 ⟨_,rfl,a,rfl,⟨xs,aO.of ha⟩,?_⟩;refine fR (a:=a) (xs:=xs) (rest:=[]) (λj us H'=>H'=H/\us=(xs.take j).filter Es) ⟨rfl,rfl⟩ (λj us H' hj h=>?_) (λj x us H' M hj IW h hM=>?_) (λus H' h=>?_)
   ·obtain⟨rfl,rfl⟩:=h;refine⟨Nat.lt_of_le_of_lt (Nat.le_trans (List.length_filter_le _ _) (by rw[List.length_take];omega:_<=64)) (by decide),aO.of ha⟩
   ·obtain⟨rfl,rfl⟩:=h;obtain⟨T,th⟩:=MT x (List.mem_of_getElem? IW)
    have nx:(xs.take (j+1)).filter Es=(xs.take j).filter Es++[x].filter Es:=by rw[List.take_add_one,IW,Option.toList_some,List.filter_append]
    have od:=th.odd;refine⟨_,rfl,x,.ty "int",_,_,_,rfl,rfl,th.ty,th.F5,_,rfl,?_⟩
    cases b1:(decide (T="int") || decide (T="bool")) with
    |false =>
     rw[b1] at od
     have od:Es x=true:=by simpa using od.symm
     refine aZ (aZ ⟨_,rfl,hM _ _ ⟨rfl,?_⟩⟩);rw[nx,List.filter_cons_of_pos od];rfl
    |true =>
     refine a9 ⟨_,rfl,x,.ty "bool",_,_,_,rfl,rfl,th.ty,th.isB,_,rfl,?_⟩;rw[b1] at od
     cases b2:decide (T="bool") with
     |true =>
      rw[b2] at od
      have od:Es x=true:=by simpa using od.symm
      refine aZ ⟨_,rfl,hM _ _ ⟨rfl,?_⟩⟩;rw[nx,List.filter_cons_of_pos od];rfl
     |false =>
      rw[b2] at od
      have od:Es x=false:=by simpa using od.symm
      refine a9 (hM _ _ ⟨rfl,?_⟩);rw[nx,List.filter_cons_of_neg (by rw[od];exact Bool.false_ne_true)];simp
   ·obtain⟨rfl,rfl⟩:=h;rw[List.take_length];intro D0 MW;have s1:=ai (o:=.lst (xs.filter Es)) MW;have e0:upd H' D0 (.lst (xs.filter Es)) D0=some (.lst (xs.filter Es)):=ae;generalize upd H' D0 _=H1 at s1 e0 |-;refine⟨Nat.zero_le _,λe he=>?_⟩;have s2:=ai (o:=.lst []) he;have ee:upd H1 e (.lst []) e=some (.lst []):=ae;have e0:=s2 _ _ e0;generalize upd H1 e _=H2 at s2 ee e0 |-;have IU:=s1.trans s2;refine⟨D0,e,_,rfl,rfl,aO.of e0,aO.of ee,_,rfl,?_⟩
    have none_odd:∀ks:List Int,(ks.map V.int).filter Es=[]:=λks=>List.filter_eq_nil_iff.mpr λy hy=>by
     obtain⟨k,_,rfl⟩:=List.mem_map.mp hy;exact Bool.false_ne_true
    by_cases fl:¬xs.filter Es=[]
    ·rw[decide_eq_false fl];refine aZ (q _ _ IU ⟨λh=>(nomatch h),?_⟩);rintro⟨ns,ek,O⟩
     cases ek
     exact absurd (none_odd ns) fl
    have fl:=Classical.not_not.mp fl;rw[decide_eq_true fl];refine a9 ?_
    have allI:∃ns:List Int,xs=ns.map V.int:=by
     have Ie:∀y∈xs,∃k,y=V.int k:=λy hy=>by
      have:=List.filter_eq_nil_iff.mp fl y hy
      cases y <;> first|exact⟨_,rfl⟩|exact absurd rfl this
     exact qx Ie
    obtain⟨ns,rfl⟩:=allI;rw[List.length_map] at Od;refine⟨_,rfl,a,ns,rfl,aO.of (IU _ _ ha),Od,λD1 ms hD perm up=>?_⟩;have s3:=ai (o:=.lst (ms.map V.int)) hD;have eD:upd H2 D1 (.lst (ms.map V.int)) D1=some (.lst (ms.map V.int)):=ae;generalize upd H2 D1 _=H3 at s3 eD |-;refine⟨_,rfl,n,rfl,⟨by omega,by omega⟩,by omega,λD2 Im=>?_⟩;have s4:=ai (o:=.lst ((cg 0 n.toNat).map V.int)) Im;have IS:upd H3 D2 (.lst ((cg 0 n.toNat).map V.int)) D2=some (.lst ((cg 0 n.toNat).map V.int)):=ae;generalize upd H3 D2 _=H4 at s4 IS |-;have eD:=s4 _ _ eD
    have dl:∀{c:Addr}{ks:List Int},H4 c=some (.lst (ks.map V.int))->aC K H4 (.lst (ks.map L2.D.int)) (.ref c):=λ{c ks} e=>by
     unfold aC;exact⟨c,_,rfl,aO.of e,du _⟩
    refine⟨_,_,dl eD,dl IS,(by unfold dM;have:=jb ms;unfold dM at this;omega),?_⟩;have ed:dY (.lst (ms.map L2.D.int)) (.lst ((cg 0 n.toNat).map L2.D.int))=decide (ms=cg 0 n.toNat):=iW _ _;rw[ed];refine q _ _ (IU.trans (s3.trans s4)) ⟨λh=>⟨ns,rfl,.of (by omega) I8 ?_⟩,?_⟩
    ·have h:ms=cg 0 n.toNat:=by simpa using h
     rw[<-h];exact perm.symm
    ·rintro⟨ks,ek,O⟩;have ek:=fN (Option.some.inj ek);subst ek;rw[decide_eq_true (kx O perm up)];rfl
abbrev Fe:Stmt:=(aS 63)
theorem DG:yx ["_law_prime_here","_law_places","_law_ones","_law_others","_law_thing","_law_some"] y7 (ak Fe):=dJ (by decide +kernel)
def uW (ns:List Int)(ts:List Tm):List Tm:=bo (ts.map (xa ns))
theorem gc :∀{ys:List V}{Hk:List (List Tm)},dF H ys Hk->aI K H (Hk.map fF) ys
 |_,_,.nil=>by rw[List.map_nil];unfold aI;rfl
 |_,_,.cons h t=>by
  rw[List.map_cons];unfold aI;obtain⟨a,zs,rfl,h1,h2⟩:=h;refine⟨_,_,rfl,?_,gc t⟩;unfold fF aC;exact⟨a,zs,rfl,aO.of h1,jf h2⟩
theorem oa (t:List Tm):dM (fF t)<=3:=by
 unfold fF dM;have:=jm t;omega
theorem iF (Hk:List (List Tm)):cL (Hk.map fF)<=16:=Nat.le_trans (kb (k:=3) λd hd=>by
 obtain⟨t,_,rfl⟩:=List.mem_map.mp hd
 exact oa t) (by decide)
variable {Hk:List (List Tm)}
theorem pR {es:List L2.D}(h:es.Perm (Hk.map fF)):dM (.lst es)<=32:=by
 unfold dM
 have:=kb (k:=3) (es:=es) λd hd=>by
  obtain⟨t,_,rfl⟩:=List.mem_map.mp (h.mem_iff.mp hd);exact oa t
 omega
def AK:Sp:=λvs H Q _=>∃(p n:Int)(A B:Addr)(xs ys:List V)(Hk Hy:List (List Tm))(x:V)(o:Option (List V)),vs=[.int p,.int n,.ref A,.ref B,x]/\FP p/\1<=n/\n<=60/\LX H x o/\(∀xs,o=some xs->xs.length<64)/\H A=some (.lst xs)/\dF H xs Hk/\H B=some (.lst ys)/\dF H ys Hy/\Ws p n Hk/\Ws p n Hy/\Hk.length<64/\Hy.length<64 /\
 ∀H' b,aw H H'->(b=true ↔ ∃ns:List Int,o=some (ns.map V.int)/\B7 ns n/\Hk.Perm (Hk.map (uW ns))/\Hy.Perm (Hy.map (uW ns)))->Q (.bl b) H'
theorem Ey {fo:Addr}{I9:zI}(F:zA K "_law_is_likeness" "_law_is_likeness" Fe f fd)(Hi:mg "sorted"=none)
 (FIO:Ha P w K mg base (aV P w) 2 fo I9 rB BZ)(bIO:L2.aA K I9 rB [])(mIO:mg "_law_is_order"=some (.ref fo))(kIO:keepIn K (.ref fo)=true)
 (Ua:Ha P w K mg base (aV P w) 5 fm JV C7 lz)(Ub:L2.aA K JV C7 [])(Uc:mg "_law_moved_terms"=some (.ref fm))(Ud:keepIn K (.ref fm)=true):
 Ha P w K mg base (aV P w) 6 f fd y7 AK:=by
 refine F.okN DG (λvs H Q E h=>?_) (λHn A outer s H vs Q E hr h=>?_)
 ·obtain⟨p,n,A0,B0,xs,ys,Hk,Hy,x,o,rfl,_⟩:=h;rfl
 ·obtain⟨p,n,A0,B0,xs,ys,Hk,Hy,x,o,rfl,hp,n1,I8,hx,ox,hA,hxs,hB,Kp,W1,W2,f1,f2,q⟩:=h;have Iv:qL (3+2) _:=hr;have HL:qL 2 _:=Iv.mono (by decide);have Hu:qL 1 _:=Iv.mono (by decide)
  refine⟨_,(aj (ba (bJ (bD (av FIO HL (by rfl) mIO kIO bIO .nil af (@ah _ _ _ _ _ (pv 1) (@ah _ _ _ _ _ (pv 4) ag rfl) rfl)))) (ao (aB dR)) aE)
   (aj (eK PassesOwn.never rfl (bY (@cu _ _ _ _ (@ah _ _ _ _ _ (pv 2) (@ah _ _ _ _ _ (pv 3) ag rfl) rfl))) (aG (i:=5) DG.nd rfl (Or.inl rfl))
   (ao (ba (@aH _ _ _ _ _ _ _ _ (iN Hu) (az (hX (k:=3) rfl Iv) (by rfl) Hi (by rfl) (@ah _ _ _ _ _ (pv 5) ag rfl)) (az (hX (k:=3) rfl Iv) (by rfl) Hi (by rfl) (@ah _ _ _ _ _ (bF (N:=["_law_terms_here","_law_prime_here","_law_thing"]) (nl:=1) (js:=[0,4]) (osc:=ak Fe) ⟨rfl,rfl,by decide +kernel,by decide +kernel,by decide +kernel,rfl,(.cons ⟨rfl,by decide +kernel⟩ (.cons ⟨rfl,by decide +kernel⟩ .nil)),by decide +kernel⟩ rfl
    (bY (pv 5))
    (λCq fq sq Hq=>aG (i:=0) (by show(["_law_terms_here","_law_prime_here","_law_thing"]:Bg).Nodup;decide +kernel) rfl (Or.inl rfl) (Or.inr rfl))
    (λCq fq sq Hq=>bZ)
    (λCq fq sq Hq=>(av Ua Iv (by rfl) Uc Ud Ub .nil af (@ah _ _ _ _ _ (pv 1) (@ah _ _ _ _ _ (pv 0) (@ah _ _ _ _ _ (pv 2) ag rfl) rfl) rfl)))) ag rfl)) (aF _)) (ao (aB dR)) aE)))
   (ao (aB dR)))),?_⟩
  refine⟨_,rfl,_,rfl,n,x,o,rfl,n1,I8,hx,ox,λH1 b s1 hb=>⟨_,rfl,?_⟩⟩
  cases b with
  |false =>
   refine aZ (q _ _ s1 ⟨λh=>(nomatch h),?_⟩);rintro⟨ns,e,O,_⟩;exact absurd (hb.mpr ⟨ns,e,O⟩) Bool.false_ne_true
  |true =>
   refine a9 ?_;obtain⟨ns,eo,O⟩:=hb.mp rfl
   cases hx with
   |no _ _=>cases eo
   |@lst a xs0 ha _ _ =>
    cases eo
    refine⟨_,rfl,_,rfl,nj,λL hL=>?_⟩;have s2:=ai (o:=.lst [.ref A0,.ref B0]) hL;have eL:upd H1 L (.lst [.ref A0,.ref B0]) L=some (.lst [.ref A0,.ref B0]):=ae;generalize upd H1 L _=H2 at s2 eL |-;have IU:=s1.trans s2;refine⟨L,rfl,⟨_,aO.of eL⟩,?_⟩;refine pV (a:=L) (xs:=[.ref A0,.ref B0]) (λi σ H'=>(∃o5,σ=[some (.int p),some (.int n),some (.ref A0),some (.ref B0),some (.ref a),o5])/\aw H2 H'/\(1<=i->Hk.Perm (Hk.map (uW ns)))/\(2<=i->Hy.Perm (Hy.map (uW ns)))) ⟨⟨_,rfl⟩,aw.refl _,λh=>(nomatch h),λh=>(nomatch h)⟩ (λi σ H' hi h=>aO.of (h.2.1 _ _ eL)) ?_ ?_
    ·rintro i x σ H' IW ⟨⟨o5,rfl⟩,sH,k1,k2⟩;have Ue:=IU.trans sH
     have key:∃(Z:Addr)(zs:List V)(J9:List (List Tm)),x=.ref Z/\H Z=some (.lst zs)/\dF H zs J9/\Ws p n J9/\J9.length<64/\(J9.Perm (J9.map (uW ns))->(1<=i+1->Hk.Perm (Hk.map (uW ns)))/\(2<=i+1->Hy.Perm (Hy.map (uW ns))))/\(¬J9.Perm (J9.map (uW ns))->∀G,aw H G->Q (.bl false) G):=by
      match i,IW with
      |0,h =>
       cases h
       refine⟨A0,xs,Hk,rfl,hA,hxs,W1,f1,λh=>⟨λ_=>h,λz=>by omega⟩,λh G sG=>q G false sG ⟨λh=>(nomatch h),?_⟩⟩;rintro⟨ks,ek,_,h1,_⟩;have ek:=fN (Option.some.inj ek);subst ek;exact absurd h1 h
      |1,h =>
       cases h
       refine⟨B0,ys,Hy,rfl,hB,Kp,W2,f2,λh=>⟨λ_=>k1 (Nat.le_refl _),λ_=>h⟩,λh G sG=>q G false sG ⟨λh=>(nomatch h),?_⟩⟩;rintro⟨ks,ek,_,_,h1⟩;have ek:=fN (Option.some.inj ek);subst ek;exact absurd h1 h
      |i+2,h=>cases h
     obtain⟨Z,zs,J9,rfl,hZ,X9,W,fv,yes,no⟩:=key;have zl:=X9.length;have Ug:=Ue _ _ hZ;have JT:=X9.same Ue;refine⟨_,rfl,Z,zs,J9.map fF,rfl,aO.of Ug,by omega,gc JT,iF _,ib _,qa _,λS1 Md Oe TV zl1 KI J8 IJ=>?_⟩;have t1:=ai (o:=.lst Md) TV;have Of:upd H' S1 (.lst Md) S1=some (.lst Md):=ae;generalize upd H' S1 _=G1 at t1 Of |-;have Yb:=Ue.trans t1;have KI:=b8 t1 _ _ KI;have Xm:=JT.same t1;refine⟨_,rfl,Z,rfl,⟨_,aO.of (t1 _ _ Ug)⟩,?_⟩;refine fR (a:=Z) (xs:=zs) (rest:=[some (.int p),some (.ref a)]) (λj us G=>aw G1 G/\dF G us ((J9.take j).map (uW ns))) ⟨aw.refl _,.nil⟩ (λj us G hj h=>?_) (λj y us G M hj hy h hM=>?_) (λus G h=>?_)
     ·obtain⟨sG,hu⟩:=h;refine⟨?_,aO.of (sG _ _ (t1 _ _ Ug))⟩;rw[hu.length,List.length_map,List.length_take];exact Nat.lt_of_le_of_lt (by omega:_<=64) (by decide)
     ·obtain⟨sG,hu⟩:=h;obtain⟨ts,et,z⟩:=bt Xm hy;obtain⟨l,qs,rfl,hl,hq⟩:=z.same sG;have w:=W ts (List.mem_of_getElem? et);refine mD ⟨_,rfl,_,rfl,_,rfl,l,a,p,n,qs,ts,ns,3930,5,rfl,hp,hl,hq,w,by decide,by decide,(Yb.trans sG) _ _ ha,O,λG2 D2 rs s3 _ eD hr=>?_⟩;refine hM _ _ ⟨sG.trans s3,?_⟩;rw[List.take_add_one,et,Option.toList_some,List.map_append];exact Paired.snoc (hu.same s3) ⟨D2,rs,rfl,eD,hr⟩
     ·obtain⟨sG,hu⟩:=h;rw[zl,List.take_length] at hu;intro L2 NP;have t2:=ai (o:=.lst us) NP;have M0:upd G L2 (.lst us) L2=some (.lst us):=ae;have ul:=hu.length;rw[List.length_map] at ul;have hu:=hu.same t2;generalize upd G L2 _=G3 at t2 M0 hu |-;refine⟨L2,us,(J9.map (uW ns)).map fF,rfl,aO.of M0,by omega,gc hu,iF _,ib _,qa _,λS2 Me Og TZ zl2 hd2 Kv Kq=>?_⟩;have t3:=ai (o:=.lst Me) TZ;have K5:upd G3 S2 (.lst Me) S2=some (.lst Me):=ae;generalize upd G3 S2 _=G4 at t3 K5 |-;have u:=sG.trans (t2.trans t3);have Jf:=iG (ib _) (ib _) J8 Kv IJ Kq;rw[rE] at Jf;refine⟨_,_,dz u (u _ _ Of) KI,dz t3 K5 hd2,pR J8,_,rfl,?_⟩;have sF:=Yb.trans u
      by_cases d1:¬dY (.lst Oe) (.lst Og)=true
      ·have NK:dY (.lst Oe) (.lst Og)=false:=by simpa using d1
       rw[NK];exact aZ (no (λh=>d1 (Jf.mpr h)) _ sF)
      ·have d1:=Classical.not_not.mp d1;rw[d1];exact a9 ⟨⟨_,rfl⟩,sH.trans (t1.trans u),(yes (Jf.mp d1)).1,(yes (Jf.mp d1)).2⟩
    ·rintro σ H' ⟨⟨o5,rfl⟩,sH,k1,k2⟩;exact q _ true (IU.trans sH) ⟨λ_=>⟨ns,rfl,O,k1 (by show 1<=2;decide),k2 (by show 2<=2;decide)⟩,λ_=>rfl⟩
abbrev GU:Stmt:=(aS 64)
theorem sf:yx ["_law_pool_here","_law_prime_here","_law_places","_law_order","_law_many","_law_found","_law_turn","_law_terms_here","_law_other","_law_again"] yT (ak GU):=dJ (by decide +kernel)
variable {H':Hp}{y:V}{ts:List Tm}
theorem uY.but {r:Addr}(h:uY H y ts)(R:aR H r)(s:SameBut r H H'):uY H' y ts:=by
 obtain⟨a,zs,e,h1,h2⟩:=h;refine⟨a,zs,e,s _ _ h1 λz=>?_,bf.keep h2 (R.abb s)⟩;obtain⟨l,x,e',_⟩:=R;rw[z,e'] at h1
 cases h1
 cases h2 with
 |cons h t =>
  obtain⟨_,_,_,e,_⟩:=h
  cases e
theorem dF.but {r:Addr}{ys:List V}(h:dF H ys Hk)(R:aR H r)(s:SameBut r H H'):dF H' ys Hk:=Paired.aaP h λ_ _ z=>z.but R s
theorem jl (xs:List V)(j:Nat):gh xs none (some (j:Int))=xs.take j:=by
 unfold gh;rw[HT.qu,HT.t7,List.drop_zero,Nat.sub_zero];exact(List.take_eq_take_iff.mpr (by omega))
theorem uY.abx {D:Addr}{xs:List V}(h:uY H y ts)(eD:H D=some (.lst xs))(n:y≠.ref D)(s:SameBut D H H'):uY H' y ts:=by
 obtain⟨a,zs,rfl,h1,h2⟩:=h;refine⟨a,zs,rfl,s _ _ h1 λz=>n (by rw[z]),bf.keep h2 λb xs e=>s _ _ e λz=>?_⟩;rw[z,eD] at e
 cases e
theorem dF.abx {D:Addr}{ys:List V}{xs:List V}(h:dF H ys Hk)(eD:H D=some (.lst xs))(n:∀y∈ys,y≠.ref D)(s:SameBut D H H'):dF H' ys Hk:=by
 induction h with
 |nil=>exact .nil
 |cons h t ih=>exact .cons (h.abx eD (n _ (.head _)) s) (ih λy hy=>n y (.tail _ hy))
theorem Paired.aby {A B:Type}{R:A->B->Prop}:∀{xs:List A}{ys:List B},Paired R xs ys->∀i,Paired R (xs.take i) (ys.take i)
 |_,_,.nil,i=>by rw[List.take_nil,List.take_nil];exact .nil
 |_,_,.cons h t,0=>.nil
 |_,_,.cons h t,i+1=>.cons h (Paired.aby t i)
theorem Dx {c:TT}{t u:TS}{D:Ends}{σ:L2.St}(hc:∀Q':Bool->Hp->Prop,(∀b,Q' b H)->c σ H Q')(ht:t D σ H)(hu:u D σ H):xc c t u D σ H:=hc _ λb=>by
 cases b with
 |true=>exact aZ ht
 |false=>exact a9 hu
theorem q0 (h:uY H y ts):aC K H (.lst (ts.map j8)) y:=by
 obtain⟨a,zs,rfl,h1,h2⟩:=h;exact dz (aw.refl _) h1 (jf h2)
theorem Be (ts:List Tm):dM (.lst (ts.map j8))<=32:=by
 unfold dM;have:=jm ts;omega
def Wt (p n:Int)(Hk:List (List Tm)):Prop:=∀ts∈Hk,Wi 191 4 p n ts/\bo ts=ts
def sW:Sp:=λvs H Q _=>∃(r a:Addr)(p n many:Int)(ns:List Int),vs=[.ref r,.int p,.int n,.ref a,.int many]/\aR H r/\FP p/\1<=n/\n<=60/\H a=some (.lst (ns.map V.int))/\B7 ns n/\a≠r/\0<=many/\many<=3 /\
 ∀H' D xs Hk,H D=none->H' D=some (.lst xs)->dF H' xs Hk->Wt p n Hk->Hk.length<=8->(many=0->Hk=[])->aR H' r->SameBut r H H'->Q (.ref D) H'
theorem DN {ft fv:Addr}{HR Yc:zI}(F:zA K "_law_alike_wishes" "_law_alike_wishes" GU f fd)(Hl:mg "range"=none)
 (Ip:Ha P w K mg base (aV P w) 1 ft HR qT v8)(Iq:L2.aA K HR qT [])(Ir:mg "_law_take"=some (.ref ft))(Iu:keepIn K (.ref ft)=true)
 (Uh:Ha P w K mg base (aV P w) 5 fm JV F7 Ee)(Ui:L2.aA K JV F7 [])(Uj:mg "_law_terms"=some (.ref fm))(Uk:keepIn K (.ref fm)=true)
 (Ua:Ha P w K mg base (aV P w) 5 fv Yc C7 lz)(Ub:L2.aA K Yc C7 [])(Uc:mg "_law_moved_terms"=some (.ref fv))(Ud:keepIn K (.ref fv)=true):
 Ha P w K mg base (aV P w) 6 f fd yT sW:=by
 refine F.okN sf (λvs H Q E h=>?_) (λHn A outer s H vs Q E hr h=>?_)
 ·obtain⟨r,a,p,n,many,ns,rfl,_⟩:=h;rfl
 ·obtain⟨r,a,p,n,many,ns,rfl,R,hp,n1,I8,ha,O,Oh,m0,m3,q⟩:=h;have Iv:qL 5 _:=hr;have Hu:qL 1 _:=Iv.mono (by decide)
  refine⟨_,(aj (@aM _ _ 5 _ _ _ _ sf.nd rfl (Or.inl rfl) (@cu _ _ _ _ ag) rfl (Or.inl rfl))
   (aj (eK PassesOwn.never rfl (dj (by rfl) Hl (@ah _ _ _ _ _ (av Ip Hu (by rfl) Ir Iu Iq .nil af (@ah _ _ _ _ _ (pv 0) (@ah _ _ _ _ _ (@aL _ _ _ _ _ _ _ _ cW (pv 4) ar) ag rfl) rfl)) ag rfl)) (aG (i:=6) sf.nd rfl (Or.inl rfl))
   (aj (@aM _ _ 7 _ _ _ _ sf.nd rfl (Or.inl rfl) (av Uh Iv (by rfl) Uj Uk Ui .nil af (@ah _ _ _ _ _ (pv 0) (@ah _ _ _ _ _ (pv 1) (@ah _ _ _ _ _ (pv 2) (@ah _ _ _ _ _ ar (@ah _ _ _ _ _ ar ag rfl) rfl) rfl) rfl) rfl)) rfl (Or.inl rfl))
   (aj (@aM _ _ 8 _ _ _ _ sf.nd rfl (Or.inl rfl) (pv 7) rfl (Or.inl rfl))
   (ao (eK PassesOwn.never rfl (dj (by rfl) Hl (@ah _ _ _ _ _ ar ag rfl)) (aG (i:=9) sf.nd rfl (Or.inl rfl))
   (ao (ba (PW.pt (dO (@aH _ _ _ _ _ _ _ _ cR (pv 9) ar (aF _)) (cN (@aH _ _ _ _ _ _ _ _ (iN Hu) (pv 8) (pv 7) (aF _))))) (aj (pq (xp PySem.F.plainAttrs_list PySem.F.slot_list_append PySem.F.type_list_append m5 (pv 5) (@ah _ _ _ _ _ (pv 8) ag rfl)))
   (ao (@aM _ _ 8 _ _ _ _ sf.nd rfl (Or.inl rfl) (av Ua Iv (by rfl) Uc Ud Ub .nil af (@ah _ _ _ _ _ (pv 1) (@ah _ _ _ _ _ (pv 8) (@ah _ _ _ _ _ (pv 3) ag rfl) rfl) rfl)) rfl (Or.inl rfl)))) aE)))))))
   (ao (aB (dG gf (pv 5) fA (dX ar)))))),?_⟩
  refine⟨Nat.zero_le _,λD hD=>?_⟩;have s1:=ai (o:=.lst []) hD;have eD:upd H D (.lst []) D=some (.lst []):=ae;have R1:=R.same s1
  have Jy:D≠r:=by
   obtain⟨l,x,e,_⟩:=R;exact(au e hD).symm
  have nDa:a≠D:=au ha hD;generalize upd H D _=H1 at s1 eD R1 |-;obtain⟨l1,x1,Ul,c0,c1⟩:=R1;refine⟨_,rfl,_,rfl,_,_,rfl,rfl,r,l1,x1,many+1,rfl,Ul,c0,c1,by omega,by omega,λz l2 r2 z0 z1 g0 g1=>?_⟩
  have IS:upd H1 r (.lst [.int l2,.int r2]) D=some (.lst []):=by rw[aq Jy];exact eD
  have R2:aR (upd H1 r (.lst [.int l2,.int r2])) r:=⟨l2,r2,ae,g0,g1⟩;have Ih:SameBut r H (upd H1 r (.lst [.int l2,.int r2])):=(SameBut.of s1).trans SameBut.upd;generalize upd H1 r (.lst [.int l2,.int r2])=H2 at R2 Ih IS |-;refine⟨z,rfl,by omega,by omega,?_⟩;refine dZ (lo:=0) (n:=z.toNat) (λi σ H'=>(∃o6 o7 o8 o9,σ=[some (.ref r),some (.int p),some (.int n),some (.ref a),some (.int many),some (.ref D),o6,o7,o8,o9])/\aR H' r/\SameBut r H H'/\∃xs Hk,H' D=some (.lst xs)/\dF H' xs Hk/\(∀y∈xs,y≠.ref D)/\Wt p n Hk/\Hk.length<=6*i) ⟨⟨_,_,_,_,rfl⟩,R2,Ih,[],[],IS,.nil,λy h=>(nomatch h),λt h=>(nomatch h),Nat.zero_le _⟩ ?_ ?_
  ·rintro i σ H3 hi ⟨⟨o6,o7,o8,o9,rfl⟩,R3,IL,xs,Hk,MU,hx,nx,W,tl⟩;refine⟨_,rfl,_,rfl,_,rfl,r,p,n,3,2,rfl,R3,hp,by omega,I8,by decide,by decide,by decide,by decide,λT ys ts H4 hT eT ht Wi0 td R4 Jh=>?_⟩;have Tb:=Jh _ _ MU Jy;have Yd:T≠D:=(au MU hT).symm;have hx4:=hx.but R3 Jh;have lT:uY H4 (.ref T) ts:=⟨T,ys,rfl,eT,ht⟩;refine⟨_,rfl,6,rfl,by decide,by decide,?_⟩;refine dZ (lo:=0) (n:=6) (λj σ H'=>(∃O o9,σ=[some (.ref r),some (.int p),some (.int n),some (.ref a),some (.int many),some (.ref D),some (.int (0+(i:Int))),some (.ref T),some (.ref O),o9]/\O≠D/\∃us,uY H' (.ref O) us/\Wi 191 4 p n us/\bo us=us)/\aR H' r/\SameBut r H H'/\uY H' (.ref T) ts/\∃xs Hk,H' D=some (.lst xs)/\dF H' xs Hk/\(∀y∈xs,y≠.ref D)/\Wt p n Hk/\Hk.length<=6*i+j) ⟨⟨T,_,rfl,Yd,ts,lT,Wi0,td⟩,R4,IL.trans Jh,lT,xs,Hk,Tb,hx4,nx,W,tl⟩ ?_ ?_
   ·rintro j σ H5 hj ⟨⟨Q5,o9,rfl,Ye,us,lO,WO,tO⟩,R5,Jx,lT,xs,Hk,M1,hx,nx,W,tl⟩;have ha5:=Jx _ _ ha Oh;have hz:=hx.length
    have i3:i<=3:=by omega
    refine Dx (λQ' hq=>?_) ?_ ?_
    ·refine⟨_,rfl,rfl,_,rfl,?_⟩;generalize decide (V.int (0+(j:Int))=V.int 0)=c
     cases c with
     |true=>exact aZ (hq true)
     |false =>
     refine a9 ?_;exact⟨_,rfl,_,rfl,_,_,q0 lO,q0 lT,Be us,_,rfl,hq _⟩
    ·refine⟨_,rfl,.inl ⟨rfl,_,aO.of M1⟩,_,rfl,D,xs,.ref Q5,rfl,rfl,M1,Nat.lt_of_le_of_lt (by omega:_<=30) (by decide),?_⟩;have Oi:upd H5 D (.lst (xs++[.ref Q5])) D=some (.lst (xs++[.ref Q5])):=ae;have RU:SameBut D H5 (upd H5 D (.lst (xs++[.ref Q5]))):=SameBut.upd
     have R6:aR (upd H5 D (.lst (xs++[.ref Q5]))) r:=by
      obtain⟨l9,x9,e9,k0,k1⟩:=R5;exact⟨l9,x9,by rw[aq Jy.symm];exact e9,k0,k1⟩
     have nQ:V.ref Q5≠.ref D:=λz=>Ye (by injection z);have nT:V.ref T≠.ref D:=λz=>Yd (by injection z);have Yg:=lO.abx M1 nQ RU;have Yh:=lT.abx M1 nT RU;have Oj:=hx.abx M1 nx RU;have Ol:=RU _ _ ha5 nDa
     have JA:SameBut r H (upd H5 D (.lst (xs++[.ref Q5]))):=λb u e nb=>by
      rw[aq (au e hD)];exact Jx b u e nb
     generalize upd H5 D _=H6 at Oi R6 Yg Yh Oj Ol JA |-;obtain⟨Oa,qs,eo,h1,h2⟩:=Yg
     cases eo
     refine⟨_,rfl,_,rfl,_,rfl,Q5,a,p,n,qs,us,ns,191,4,rfl,hp,h1,h2,WO,by decide,by decide,Ol,O,λH7 D7 rs s7 nD7 eD7 Ma=>?_⟩;have Wr:=lD O WO;refine⟨⟨D7,_,rfl,(au Oi nD7).symm,bo (us.map (xa ns)),⟨D7,rs,rfl,eD7,Ma⟩,pZ Wr,jq Wr.nd⟩,R6.same s7,JA.trans (SameBut.of s7),Yh.same s7,xs++[.ref Q5],Hk++[us],s7 _ _ Oi,?_,?_,?_,?_⟩
     ·exact Paired.snoc (Oj.same s7) ⟨Q5,qs,rfl,s7 _ _ h1,bf.keep h2 (aJ.of s7)⟩
     ·intro y hy
      rcases List.mem_append.mp hy with h|h
      ·exact nx y h
      ·rw[List.mem_singleton.mp h];exact nQ
     ·intro t ht
      rcases List.mem_append.mp ht with h|h
      ·exact W t h
      ·rw[List.mem_singleton.mp h];exact⟨WO,tO⟩
     ·rw[List.length_append];show Hk.length+1<=_;omega
    ·exact⟨⟨Q5,_,rfl,Ye,us,lO,WO,tO⟩,R5,Jx,lT,xs,Hk,M1,hx,nx,W,by omega⟩
   ·rintro σ H6 ⟨⟨Q5,o9,rfl,_,_⟩,R6,JA,_,xs,Hk,Oi,hx,nx,W,tl⟩;exact⟨⟨_,_,_,_,rfl⟩,R6,JA,xs,Hk,Oi,hx,nx,W,by omega⟩
  ·rintro σ H3 ⟨⟨o6,o7,o8,o9,rfl⟩,R3,IL,xs,Hk,MU,hx,nx,W,tl⟩;refine⟨_,rfl,8,rfl,D,xs,rfl,aO.of MU,λD2 Im=>?_⟩;have ec:gh xs none (some 8)=xs.take 8:=jl xs 8;rw[ec];have s4:=ai (o:=.lst (xs.take 8)) Im
   have MW:H D2=none:=by
    cases e:H D2 with
    |none=>rfl
    |some u =>
     have:D2≠r:=λz=>by
      obtain⟨l9,r9,e9,_⟩:=R3;rw[<-z,Im] at e9
      cases e9
     rw[IL _ _ e this] at Im
     cases Im
   refine q _ D2 (xs.take 8) (Hk.take 8) MW ae (dF.same (Paired.aby hx 8) s4) (λt ht=>W t (List.mem_of_mem_take ht)) (by rw[List.length_take];omega) (λm=>?_) (R3.same s4) (IL.trans (SameBut.of s4))
   have:z.toNat=0:=by omega
   rw[this] at tl;rw[List.length_eq_zero_iff.mp (Nat.le_zero.mp tl)];rfl
end K66
namespace L2
open PySem PySem.Spec PyProof.Rows PySem.W
mutual
def il (K:Frag)(H:Hp):PyData->V->Prop
 | .none,v=>v=.non
 | .bool b,v=>v=.bl b
 | .int i,v=>v=.int i
 | .str x,v=>v=.str x
 | .list ds,v=>∃a xs,v=.ref a/\aO K H a xs/\iJ K H ds xs
 | .tuple ds,v=>∃a xs,v=.ref a/\bw K H a xs/\iJ K H ds xs
 | .dict Hh,v=>Hh=[]/\∃a,v=.ref a/\Rd H a (.dK [])
def iJ (K:Frag)(H:Hp):List PyData->List V->Prop
 |[],xs=>xs=[]
 |d::ds,xs=>∃y ys,xs=y::ys/\il K H d y/\iJ K H ds ys
end
def rA (K:Frag):Prop:=∃o,K.lookup sysModules=some o/\o.cls=.type "dict"
section
variable {X:Cx}{pins:List (Addr×Obj)}{σ:St}{H:Hp}{s:CW}
theorem Ax (I:Inv X pins σ H s)(hS:rA X.K){a:Addr}{o:Obj}(e:s.heap.get? a=some o){T:String}(hc:o.cls=.type T)(hT:T ≠ "dict"):a≠sysModules:=by
 rintro rfl;obtain⟨o',l,c⟩:=hS;have e':=I.kIn _ _ l;rw[e] at e'
 cases e'
 rw[hc] at c
 injection c with c
 exact hT c
mutual
theorem qM (I:Inv X pins σ H s)(hS:rA X.K):∀(d:PyData)(v:V)(u:Value),il X.K H d v->aD v u->∃as,Reads s.heap u d as/\sysModules∉as
 | .none,v,u,h,r=>by
   unfold il at h;subst h
   cases(show u=Value.none from r)
   exact⟨_,.none,by simp⟩
 | .bool b,v,u,h,r=>by
   unfold il at h;subst h
   cases(show u=Value.bool b from r)
   exact⟨_,.bool b,by simp⟩
 | .int i,v,u,h,r=>by
   unfold il at h;subst h;obtain⟨t,rfl⟩:=(show ∃t,u=Value.int i t from r);exact⟨_,.int i t,by simp⟩
 | .str x,v,u,h,r=>by
   unfold il at h;subst h;obtain⟨t,rfl⟩:=(show ∃t,u=Value.str x t from r);exact⟨_,.str x t,by simp⟩
 | .list ds,v,u,h,r=>by
   unfold il at h;obtain⟨a,xs,rfl,hl,hd⟩:=h
   cases(show u=Value.ref a from r)
   obtain⟨its,rv,⟨o,n,e,hc,_,Mg⟩,_⟩:=I.list hl;obtain⟨as,ra,na⟩:=gM I hS ds xs its hd rv
   exact⟨_,.list e hc Mg (by simpa using ra),by
    have:=Ax I hS e hc (by decide);simp only[List.mem_cons,not_or]
    exact⟨Ne.symm this,na⟩⟩
 | .tuple ds,v,u,h,r=>by
   unfold il at h;obtain⟨a,xs,rfl,hl,hd⟩:=h
   cases(show u=Value.ref a from r)
   obtain⟨its,rv,⟨o,e,hc,n,Mg⟩,_⟩:=I.tuple hl;obtain⟨as,ra,na⟩:=gM I hS ds xs its hd rv;exact⟨_,.tuple e hc Mg (by simpa using ra),na⟩
 | .dict Hh,v,u,h,r=>by
   unfold il at h;obtain⟨rfl,a,rfl,hl⟩:=h
   cases(show u=Value.ref a from r)
   obtain⟨_,HU,vs,kv,⟨o,es,ep,e,hx,Mg,_,pr,_⟩⟩:=ly I.hok hl
   have hv:vs=[]:=by cases kv;rfl
   subst hv
   have Om:es.toList=[]:=by
    cases hq:es.toList with
    |nil=>rfl
    |cons x l=>rw[hq] at pr;cases pr
   refine⟨[a]++[]++[],.dict e hx.1 Mg (by rw[Om];exact .nil) (by rw[Om];exact .nil),?_⟩;simp only[List.append_nil,List.mem_singleton];intro q;rw[q] at HU;simp at HU
theorem gM (I:Inv X pins σ H s)(hS:rA X.K):∀(ds:List PyData)(vs:List V)(us:oN),iJ X.K H ds vs->aK vs us->∃as,ReadsAll s.heap us ds as/\sysModules∉as
 |[],vs,us,h,r=>by
  unfold iJ at h;subst h
  cases r
  exact⟨_,.nil,by simp⟩
 |d::ds,vs,us,h,r=>by
  unfold iJ at h;obtain⟨y,ys,rfl,h1,h2⟩:=h
  cases r with
  |cons r1 r2 =>
   obtain⟨as,ra,na⟩:=qM I hS d y _ h1 r1;obtain⟨bs,rb,nb⟩:=gM I hS ds ys _ h2 r2;exact⟨_,.cons ra rb,by simp only[List.mem_append,not_or];exact⟨na,nb⟩⟩
end
end
mutual
def wt:PyData->Nat
 | .none=>4
 | .bool _=>5
 | .int _=>1921
 | .str x=>(reprText x).length
 | .list xs=>A2 xs+2
 | .tuple xs=>A2 xs+3
 | .dict _=>2
def A2:List PyData->Nat
 |[]=>0
 |x::xs=>wt x+2+A2 xs
end
theorem jS:∀(ts:Bg)(k:Nat)(acc:Str),(textFrom k acc ts).length<=acc.length+(ts.map λt=>t.length+2).sum
 |[],k,acc=>by simp[textFrom]
 |t::ts,k,acc=>by
  unfold textFrom;have h:=jS ts (k+1) (acc++(if k>0 then ", " else "":String)++t)
  have e:(acc++((if k>0 then ", " else "":String):Str)++t).length<=acc.length+2+t.length:=by
   rw[Str.length_append,Str.length_append]
   have:(((if k>0 then ", " else "":String):Str)).length<=2:=by
    split
    ·decide
    ·decide
   omega
  simp only[List.map_cons,List.sum_cons];omega
theorem uw:∀(ts:Bg),(Str.join ", " ts).length<=(ts.map λt=>t.length+2).sum
 |[]=>by
  show(Str.empty).length<=_;simp[Str.empty,Str.length]
 |[t]=>by
  show t.length<=_;simp
 |t::u::ts=>by
  show(t++(", ":String)++Str.join ", " (u::ts)).length<=_;rw[Str.length_append,Str.length_append];have h:=uw (u::ts)
  have e:(((", ":String):Str)).length=2:=by decide
  simp only[List.map_cons,List.sum_cons] at h |-;omega
mutual
theorem ji:∀(d:PyData)(K:Frag)(H:Hp)(v:V),il K H d v->d.showable=true->d.shown.length<=wt d
 | .none,_,_,_,_,_=>by unfold PyData.shown wt;decide
 | .bool b,_,_,_,_,_=>by unfold PyData.shown wt;cases b <;> decide
 | .int i,_,_,_,_,h=>by
   unfold PyData.showable at h;unfold PyData.shown wt;exact int_text_len_1921 (of_decide_eq_true h)
 | .str x,_,_,_,_,_=>by unfold PyData.shown wt;exact Nat.le_refl _
 | .list xs,K,H,v,r,h=>by
   unfold il at r;obtain⟨a,vs,_,_,r⟩:=r;unfold PyData.showable at h;unfold PyData.shown wt listText;have e:=jS (PyData.shownAll xs) 0 (("[":String):Str);have f:=gA xs K H vs r h;rw[Str.length_append]
   have l1:((("[":String):Str)).length=1:=by decide
   have l2:((("]":String):Str)).length=1:=by decide
   omega
 | .tuple xs,K,H,v,r,h=>by
   unfold il at r;obtain⟨a,vs,_,_,r⟩:=r;unfold PyData.showable at h;unfold PyData.shown wt tupleText;have e:=uw (PyData.shownAll xs);have f:=gA xs K H vs r h;rw[Str.length_append,Str.length_append]
   have l1:((("(":String):Str)).length=1:=by decide
   have l2:((((if(PyData.shownAll xs).length==1 then ",)" else ")":String)):Str)).length<=2:=by
    split
    ·decide
    ·decide
   omega
 | .dict Hh,K,H,v,r,h=>by
   unfold il at r;obtain⟨rfl,_⟩:=r;unfold PyData.shown wt;decide
theorem gA:∀(ds:List PyData)(K:Frag)(H:Hp)(vs:List V),iJ K H ds vs->PyData.showableAll ds=true->((PyData.shownAll ds).map λt=>t.length+2).sum<=A2 ds
 |[],_,_,_,_,_=>by unfold PyData.shownAll A2;simp
 |d::ds,K,H,vs,r,h=>by
  unfold iJ at r;obtain⟨y,ys,_,r1,r2⟩:=r;unfold PyData.showableAll at h;rw[Bool.and_eq_true] at h;unfold PyData.shownAll A2;have a:=ji d K H y r1 h.1;have b:=gA ds K H ys r2 h.2;simp only[List.map_cons,List.sum_cons];omega
end
def Gp (K:Frag)(H:Hp)(d:PyData)(v:V):Prop:=il K H d v\/∃(a:Addr)(i j:Int),v=.ref a/\d=.dict [(.int i,.int j)]/\H a=some (.dK [(.inl i,.int j)])
section
variable {X:Cx}{pins:List (Addr×Obj)}{σ:St}{H:Hp}{s:CW}
theorem vS (I:Inv X pins σ H s)(hS:rA X.K){d:PyData}{v:V}{u:Value}(h:Gp X.K H d v)(r:aD v u):∃as,Reads s.heap u d as/\sysModules∉as:=by
 rcases h with h|⟨a,i,j,rfl,rfl,ha⟩
 ·exact qM I hS d v u h r
 ·cases(show u=Value.ref a from r)
  obtain⟨_,HU,vs,kv,⟨o,es,ep,e,hx,Mg,_,pr,_⟩⟩:=wX I.hok ha
  cases kv with
  |cons h t =>
   cases t
   generalize Om:es.toList=l at pr
   cases pr with
   |@cons en b _ _ h1 h2 t =>
    cases t
    rcases bz h1 with⟨i',t',e2,e1⟩|⟨_,_,e2,_⟩
    ·have e3:i=i':=by
      have:=h.1;rw[e2] at this;injection this
     subst e3;obtain⟨t2,e4⟩:=(show ∃t,_=Value.int j t from h.2);refine⟨[a]++[]++[],.dict e hx.1 Mg ?_ ?_,?_⟩
     ·rw[Om];show ReadsAll _ [en.key] [.int i] [];rw[e1];exact .cons (.int i t') .nil
     ·rw[Om];show ReadsAll _ [en.val] [.int j] [];rw[h2,e4];exact .cons (.int j t2) .nil
     ·simp only[List.append_nil,List.mem_singleton];intro q;rw[q] at HU;simp at HU
    ·have:=h.1;rw[e2] at this
     cases this
theorem kJ {k:Nat}(hr:qL k X.A)(hS:rA X.K):cH X (.builtin "repr") (λxs H Q=>∃x d,xs=[x]/\Gp X.K H d x/\d.showable=true/\d.depth<=60/\d.shown.length<=sizeLine/\Q (.str d.shown) H):=by
 intro pins s σ H vs us Q I r h;obtain⟨x,d,rfl,hd,hs,hdp,hz,q⟩:=h;obtain⟨u,rfl,ru⟩:=fE r;obtain⟨as,ra,na⟩:=vS I hS hd ru;have fin:∀(t:Tok)(n:Nat),EP X pins σ Q (Value.str d.shown t) {heap:=s.heap,gens:=s.gens,drawn:=s.drawn,toks:=n,os:=s.os}:=λt n=>⟨.str d.shown,H,I.tok n,⟨t,rfl⟩,q⟩
 cases ra with
 |none=>exact PySem.P.repr_of_none (by simpa[PyData.shown] using fin _ _)
 |bool b=>exact PySem.P.repr_of_bool (by simpa[PyData.shown] using fin _ _)
 |int i t=>exact PySem.P.repr_of_int (of_decide_eq_true (by simpa[PyData.showable] using hs)) (by simpa[PyData.shown] using fin _ _)
 |str x t=>exact PySem.P.repr_of_str (by simpa[PyData.shown] using fin _ _) (by simpa[PyData.shown] using hz)
 |list h1 h2 h3 h4=>exact repr_of_reads' (.list h1 h2 h3 h4) hs (λ_=>na) hr.gd (by have:=hr.units;omega) (λ_ _ e=>e) (λh' u tk hk=>⟨.str _,H,I.kept (t':=tk) hk,⟨u,rfl⟩,q⟩) hz
 |tuple h1 h2 h3 h4=>exact repr_of_reads' (.tuple h1 h2 h3 h4) hs (λ_=>na) hr.gd (by have:=hr.units;omega) (λ_ _ e=>e) (λh' u tk hk=>⟨.str _,H,I.kept (t':=tk) hk,⟨u,rfl⟩,q⟩) hz
 |dict h1 h2 h3 h4 h5=>exact repr_of_reads' (.dict h1 h2 h3 h4 h5) hs (λ_=>na) hr.gd (by have:=hr.units;omega) (λ_ _ e=>e) (λh' u tk hk=>⟨.str _,H,I.kept (t':=tk) hk,⟨u,rfl⟩,q⟩) hz
end
section
variable {X:Cx}
def Fh (K:Frag)(te:TE)(ts:TO):TE:=λσ H Q=>te σ H λx H1=>ts σ H1 λst H2=>st=some (-1)/\∃a xs,x=.ref a/\aO K H2 a xs/\∀p,H2 p=none->Q (.ref p) (upd H2 p (.lst xs.reverse))
theorem yq {xs:List V}{us:oN}(r:aK xs us):aK xs.reverse us.reverse:=by
 induction r with
 |nil=>exact .nil
 |cons h t ih=>rw[List.reverse_cons,List.reverse_cons];exact ih.append (.cons h .nil)
theorem B6 {e st:Expr}{te:TE}{ts:TO}{p2 pos:Pos}(he:PE X e te)(hs:PO X (some st) ts):PE X (.Subscript e (.Slice none none (some st) p2) pos) (Fh X.K te ts):=by
 intro pins s σ H Q I h;refine Subscript_ (bu (he pins s σ H _ I h) λv s1 z'=>?_);obtain⟨x,H1,I1,r1,q1⟩:=z';refine wpAny_Slice ?_;rw[evalPart_none];refine wpAny_pure (wpAny_pure ?_);refine bu (hs pins s1 σ H1 _ I1 q1) λvs s3 z'=>?_;obtain⟨o,H3,I3,po,q3⟩:=z';obtain⟨eo,a,xs,ex,hq,q⟩:=q3;subst eo ex
 cases(show v=Value.ref a from r1)
 have I4:Inv X pins σ H3 {s3 with heap:=s3.heap.push {cls:=.type "slice",data:=.fields #[.none,.none,vs]} }:=I3.kept (t':=s3.toks) λb ob q=>Heap.get?_push_of_some _ q;obtain⟨its,r,ht,hz⟩:=I4.list hq;have hlen:=r.length
 refine(show wpAny (model X.prog X.w) X.A (subscriptTail e (.Slice none none (some st) p2) (.ref a) (.ref s3.heap.objs.size)) (EP X pins σ Q) X.xe {s3 with heap:=s3.heap.push {cls:=.type "slice",data:=.fields #[.none,.none,vs]} } from
  tail_any (ops:=[.ref a,.ref s3.heap.objs.size]) ht.isList.typeIs slot_list_getitem.lookup ?_ (by with_unfolding_all rfl))
 refine wpAny_getItem_list_slice ht.isList (Heap.IsSliceOf.new ..) .none .none po (by decide) ?_ (by rw[List.size_toArray] <;> omega);rw[krv_pick];refine⟨.ref _,_,I4.laid (t':=s3.toks) (o:=.lst xs.reverse) (λb ob q=>Heap.get?_push_of_some _ q) (Nat.le_refl _) ?_,rfl,q _ (I4.hok.fresh (Nat.le_refl _))⟩;exact⟨by rw[List.length_reverse];exact hz,_,0,by simpa using yq r,Heap.get?_push_size _ rfl⟩
end
end L2
namespace K66
open PySem L2 PySem.W Nm Srt
abbrev Gs:Stmt:=(aS 65)
theorem AU:yx ["_law_pool_here","_law_order","_law_at","_law_way","_law_odd"] AI (ak Gs):=dJ (by decide +kernel)
structure El (H:Hp)(y:V)(d:PyData):Prop where
 rd:∀K,il K H d y
 th:∃T,Th H y T
 sh:d.showable=true
 dp:d.depth<=2
 wt:wt d<=2000
variable {K:PySem.W.Frag}{H:Hp}
theorem pe :∀{xs:List V}{ds:List PyData},Paired (El H) xs ds->iJ K H ds xs
 |_,_,.nil=>by unfold iJ;rfl
 |_,_,.cons h t=>by unfold iJ;exact⟨_,_,rfl,h.rd K,pe t⟩
theorem rH :∀{xs:List V}{ds:List PyData},Paired (El H) xs ds->PyData.showableAll ds=true/\PyData.depthAll ds<=2/\A2 ds<=2002*xs.length
 |_,_,.nil=>⟨by unfold PyData.showableAll;rfl,by unfold PyData.depthAll;decide,by unfold A2;exact Nat.zero_le _⟩
 |_,_,.cons h t=>by
  obtain⟨a,b,c⟩:=rH t;unfold PyData.showableAll PyData.depthAll A2;refine⟨by rw[h.sh,a];rfl,Nat.max_le.mpr ⟨h.dp,b⟩,?_⟩;have:=h.wt;rw[List.length_cons];omega
theorem xF :∀{xs:List V}{ds:List PyData},Paired (El H) xs ds->∀y∈xs,∃T,Th H y T
 |_,_,.nil,_,h=>nomatch h
 |_,_,.cons h t,y,hy=>by
  rcases List.mem_cons.mp hy with rfl|hy
  ·exact h.th
  ·exact xF t y hy
theorem iM (H:Hp){i:Int}(h:i.natAbs<4096):El H (.int i) (.int i):=
 ⟨λK=>by unfold il;rfl,⟨_,.int i⟩,by
  unfold PyData.showable;refine decide_eq_true ?_
  by_cases z:i.natAbs=0
  ·rw[z];decide
  ·have:=(Nat.log2_lt z (k:=12)).mpr h
   omega,by unfold PyData.depth;omega,by unfold wt;omega⟩
theorem iu (H:Hp):∀{ns:List Int},(∀k∈ns,k.natAbs<4096)->Paired (El H) (ns.map V.int) (ns.map PyData.int)
 |[],_=>.nil
 |n::ns,h=>.cons (iM H (h n (.head _))) (iu H λk hk=>h k (.tail _ hk))
theorem xg (H:Hp)(b:Bool):El H (.bl b) (.bool b):=⟨λK=>by unfold il;rfl,⟨_,.bl b⟩,by unfold PyData.showable;rfl,by unfold PyData.depth;omega,by unfold wt;omega⟩
theorem xD (H:Hp):El H .non .none:=⟨λK=>by unfold il;rfl,⟨_,.non⟩,by unfold PyData.showable;rfl,by unfold PyData.depth;omega,by unfold wt;omega⟩
theorem wV (H:Hp){x:Str}(h:(reprText x).length<=2000):El H (.str x) (.str x):=⟨λK=>by unfold il;rfl,⟨_,.str x⟩,by unfold PyData.showable;rfl,by unfold PyData.depth;omega,by unfold wt;exact h⟩
variable {a:Addr}
theorem AE (h:H a=some (.lst [.int 0])):El H (.ref a) (.list [.int 0]):=⟨λK=>by unfold il;exact⟨a,_,rfl,aO.of h,pe (.cons (iM H (i:=0) (by decide)) .nil)⟩,⟨_,.lst h⟩,by decide +kernel,by decide +kernel,by decide +kernel⟩
variable {H':Hp}
theorem rJ {u:HO}(h:Rd H a u)(s:aw H H'):Rd H' a u:=h.imp (s _ _) λ⟨o,e⟩=>⟨o,s _ _ e⟩
mutual
theorem oF (s:aw H H'):∀(d:PyData)(v:V),il K H d v->il K H' d v
 | .none,v,h=>by unfold il at h |-;exact h
 | .bool _,v,h=>by unfold il at h |-;exact h
 | .int _,v,h=>by unfold il at h |-;exact h
 | .str _,v,h=>by unfold il at h |-;exact h
 | .list ds,v,h=>by
   unfold il at h |-;obtain⟨a,xs,e,q,t⟩:=h;exact⟨a,xs,e,q.imp (λq=>rJ q s) id,lZ s ds xs t⟩
 | .tuple ds,v,h=>by
   unfold il at h |-;obtain⟨a,xs,e,q,t⟩:=h;exact⟨a,xs,e,q.imp (λq=>rJ q s) id,lZ s ds xs t⟩
 | .dict Hh,v,h=>by
   unfold il at h |-;obtain⟨z,a,e,q⟩:=h;exact⟨z,a,e,rJ q s⟩
theorem lZ (s:aw H H'):∀(ds:List PyData)(vs:List V),iJ K H ds vs->iJ K H' ds vs
 |[],vs,h=>by unfold iJ at h |-;exact h
 |d::ds,vs,h=>by
  unfold iJ at h |-;obtain⟨y,ys,e,a,b⟩:=h;exact⟨y,ys,e,oF s d y a,lZ s ds ys b⟩
end
structure Tg (H:Hp)(x:V)(o:Option (List V))(d:PyData):Prop where
 lx:LX H x o
 few:∀xs,o=some xs->xs.length<64
 rd:∀K,Gp K H d x
 sh:d.showable=true
 dp:d.depth<=60
 sz:d.shown.length<=sizeLine
variable {o:Option (List V)}
theorem LX.same {x:V}(h:LX H x o)(s:aw H H'):LX H' x o:=by
 cases h with
 |no t n=>exact .no (t.same s) n
 |lst e l t=>exact .lst (s _ _ e) l λy hy=>let⟨T,t⟩:=t y hy;⟨T,t.same s⟩
variable {d:PyData}
theorem Tg.same {x:V}(h:Tg H x o d)(s:aw H H'):Tg H' x o d:=by
 refine⟨h.lx.same s,h.few,λK=>?_,h.sh,h.dp,h.sz⟩
 rcases h.rd K with h|⟨a,i,j,e,e',ha⟩
 ·exact .inl (oF s _ _ h)
 ·exact .inr ⟨a,i,j,e,e',s _ _ ha⟩
variable {xs:List V}
theorem hJ {ds:List PyData}(ha:H a=some (.lst xs))(h:Paired (El H) xs ds)(few:xs.length<64):Tg H (.ref a) (some xs) (.list ds):=by
 obtain⟨s1,s2,s3⟩:=rH h
 have rd:∀K,il K H (.list ds) (.ref a):=λK=>by unfold il;exact⟨a,xs,rfl,aO.of ha,pe h⟩
 have sh:(PyData.list ds).showable=true:=by unfold PyData.showable;exact s1
 refine⟨.lst ha (by omega) (xF h),λys e=>by cases e;exact few,λK=>.inl (rd K),sh,by unfold PyData.depth;omega,?_⟩;refine Nat.le_trans (ji _ ([]:PySem.W.Frag) H _ (rd _) sh) ?_;unfold wt;rw[sizeLine_eq];omega
theorem uj {y:V}(h:El H y d)(n:¬Th H y "list"):Tg H y none d:=by
 obtain⟨T,t⟩:=h.th;refine⟨.no t λz=>n (z▸t),λys e=>(nomatch e),λK=>.inl (h.rd K),h.sh,Nat.le_trans h.dp (by decide),?_⟩;refine Nat.le_trans (ji _ ([]:PySem.W.Frag) H _ (h.rd _) h.sh) ?_;have:=h.wt;rw[sizeLine_eq];omega
theorem C8 {ds:List PyData}(ha:H a=some (.tup xs))(h:Paired (El H) xs ds)(few:xs.length<64):Tg H (.ref a) none (.tuple ds):=by
 obtain⟨s1,s2,s3⟩:=rH h
 have rd:∀K,il K H (.tuple ds) (.ref a):=λK=>by unfold il;exact⟨a,xs,rfl,bw.of ha,pe h⟩
 have sh:(PyData.tuple ds).showable=true:=by unfold PyData.showable;exact s1
 refine⟨.no (.tup ha) (by decide),λys e=>(nomatch e),λK=>.inl (rd K),sh,by unfold PyData.depth;omega,?_⟩;refine Nat.le_trans (ji _ ([]:PySem.W.Frag) H _ (rd _) sh) ?_;unfold wt;rw[sizeLine_eq];omega
theorem zZ (ha:H a=some (.dK [])):Tg H (.ref a) none (.dict []):=
 ⟨.no (.dK ha) (by decide),λys e=>(nomatch e),λK=>.inl (by unfold il;exact⟨rfl,a,rfl,.inl ha⟩),by decide +kernel,by decide +kernel,by decide +kernel⟩
theorem AJ (ha:H a=some (.dK [(.inl 0,.int 0)])):Tg H (.ref a) none (.dict [(.int 0,.int 0)]):=
 ⟨.no (.dK ha) (by decide),λys e=>(nomatch e),λK=>.inr ⟨a,0,0,rfl,rfl,ha⟩,by decide +kernel,by decide +kernel,by decide +kernel⟩
theorem uL {v:V}{T:String}(h:Th H v T)(n:∀a,v≠.ref a):T ≠ "list":=by
 cases h with
 |lst e=>exact absurd rfl (n _)
 |tup e=>exact absurd rfl (n _)
 |dK e=>exact absurd rfl (n _)
 |_=>decide
theorem El.same {y:V}(h:El H y d)(s:aw H H'):El H' y d:=⟨λK=>oF s _ _ (h.rd K),let⟨T,t⟩:=h.th;⟨T,t.same s⟩,h.sh,h.dp,h.wt⟩
theorem ig {A B:Type}{R:A->B->Prop}:∀{xs us:List A}{ys vs:List B},Paired R xs ys->Paired R us vs->Paired R (xs++us) (ys++vs)
 |_,_,_,_,.nil,h=>h
 |_,_,_,_,.cons a t,h=>.cons a (ig t h)
theorem kH (xs:List V)(j:Nat):gh xs (some (j:Int)) none=xs.drop j:=by
 unfold gh;rw[HT.qu,HT.t7,List.take_of_length_le (by rw[List.length_drop];omega)]
 by_cases h:j<=xs.length
 ·rw[Nat.min_eq_left h]
 ·rw[Nat.min_eq_right (by omega),List.drop_eq_nil_of_le (Nat.le_refl _),List.drop_eq_nil_of_le (by omega)]
def oG:Sp:=λvs H Q _=>∃(r a:Addr)(n:Int)(ns:List Int),vs=[.ref r,.ref a]/\aR H r/\1<=n/\n<=8/\H a=some (.lst (ns.map V.int))/\B7 ns n/\a≠r /\
 ∀H' x o d,Tg H' x o d->aR H' r->SameBut r H H'->Q x H'
variable {P:zr}{w:World}{K:PySem.W.Frag}{mg:vK}{base:Heap}
theorem D8 {f ft:Addr}{fd HR:zI}(F:zA K "_law_bent_order" "_law_bent_order" Gs f fd)(Hr:mg "len"=none)(Ho:mg "tuple"=none)
 (Ip:Ha P w K mg base (aV P w) 1 ft HR qT v8)(Iq:L2.aA K HR qT [])(Ir:mg "_law_take"=some (.ref ft))(Iu:keepIn K (.ref ft)=true):
 Ha P w K mg base (aV P w) 2 f fd AI oG:=by
 refine F.okN AU (λvs H Q E h=>?_) (λHn A outer s H vs Q E hr h=>?_)
 ·obtain⟨r,a,n,ns,rfl,_⟩:=h;rfl
 ·obtain⟨r,a,n,ns,rfl,R,n1,n8,ha,O,Oh,q⟩:=h;have Hu:qL 1 _:=hr
  refine⟨_,(aj (@aM _ _ 2 _ _ _ _ AU.nd rfl (Or.inl rfl) (av Ip Hu (by rfl) Ir Iu Iq .nil af (@ah _ _ _ _ _ (pv 0) (@ah _ _ _ _ _ (az aW (by rfl) Hr PySem.boot_len (@ah _ _ _ _ _ (pv 1) ag rfl)) ag rfl) rfl)) rfl (Or.inl rfl))
   (aj (@aM _ _ 3 _ _ _ _ AU.nd rfl (Or.inl rfl) (av Ip Hu (by rfl) Ir Iu Iq .nil af (@ah _ _ _ _ _ (pv 0) (@ah _ _ _ _ _ ar ag rfl) rfl)) rfl (Or.inl rfl))
   (aj (ba (@aH _ _ _ _ _ _ _ _ cR (pv 3) ar (aF _)) (aj (@aM _ _ 4 _ _ _ _ AU.nd rfl (Or.inl rfl) (@bq _ _ _ _ _ _ _ cb (@cu _ _ _ _ (@ah _ _ _ _ _ (@bq _ _ _ _ _ _ _ cb (pv 1) ar (λ_ _=>rfl)) (@ah _ _ _ _ _ (az aW (by rfl) Hr PySem.boot_len (@ah _ _ _ _ _ (pv 1) ag rfl)) (@ah _ _ _ _ _ (uZ oO ar) (@ah _ _ _ _ _ dR (@ah _ _ _ _ _ gD (@ah _ _ _ _ _ gr (@ah _ _ _ _ _ (@cu _ _ _ _ (@ah _ _ _ _ _ ar ag rfl)) (@ah _ _ _ _ _ dR ag rfl) rfl) rfl) rfl) rfl) rfl) rfl) rfl)) (av Ip Hu (by rfl) Ir Iu Iq .nil af (@ah _ _ _ _ _ (pv 0) (@ah _ _ _ _ _ ar ag rfl) rfl)) (λ_ _=>rfl)) rfl (Or.inl rfl))
   (ao (aB (@aL _ _ _ _ _ _ _ _ ic (@aL _ _ _ _ _ _ _ _ ic (dG gf (pv 1) fA (dX (pv 2))) (@cu _ _ _ _ (@ah _ _ _ _ _ (pv 4) ag rfl))) (dG gf (pv 1) (dX (@aL _ _ _ _ _ _ _ _ cW (pv 2) ar)) fA))))) aE)
   (aj (ba (@aH _ _ _ _ _ _ _ _ cR (pv 3) ar (aF _)) (ao (aB (@aL _ _ _ _ _ _ _ _ ic (pv 1) (@cu _ _ _ _ (@ah _ _ _ _ _ (az aW (by rfl) Hr PySem.boot_len (@ah _ _ _ _ _ (pv 1) ag rfl)) ag rfl))))) aE)
   (aj (ba (@aH _ _ _ _ _ _ _ _ cR (pv 3) ar (aF _)) (ao (aB (dG gf (pv 1) (dX ar) fA))) aE)
   (aj (ba (@aH _ _ _ _ _ _ _ _ cR (pv 3) ar (aF _)) (ao (aB (@bq _ _ _ _ _ _ _ cb (@cu _ _ _ _ (@ah _ _ _ _ _ (bK (eC rfl) (by rfl) Ho (by rfl) (@ah _ _ _ _ _ (pv 1) ag rfl)) (@ah _ _ _ _ _ gD (@ah _ _ _ _ _ acL (@ah _ _ _ _ _ gr (@ah _ _ _ _ _ ar (@ah _ _ _ _ _ dR (@ah _ _ _ _ _ (abj (abh ar ar acM) rfl rfl (by simp) (by decide)) (@ah _ _ _ _ _ (@cu _ _ _ _ ag) ag rfl) rfl) rfl) rfl) rfl) rfl) rfl) rfl)) (av Ip Hu (by rfl) Ir Iu Iq .nil af (@ah _ _ _ _ _ (pv 0) (@ah _ _ _ _ _ ar ag rfl) rfl)) (λ_ _=>rfl)))) aE)
   (aj (ba (@aH _ _ _ _ _ _ _ _ cR (pv 3) ar (aF _)) (ao (aB (B6 (pv 1) (dX (uZ oO ar))))) aE)
   (ao (aB (@aL _ _ _ _ _ _ _ _ ic (dG gf (pv 1) (dX (pv 2)) fA) (dG gf (pv 1) fA (dX (pv 2))))))))))))),?_⟩
  obtain⟨l1,x1,Ul,c0,c1⟩:=R;have ln:=O.len;have lx:(ns.map V.int).length=ns.length:=List.length_map ..;refine⟨_,rfl,_,rfl,a,_,rfl,.inl (aO.of ha),?_⟩;refine⟨r,l1,x1,((ns.map V.int).length:Int),rfl,Ul,c0,c1,by omega,by omega,λat_ l2 r2 z0 z1 g0 g1=>?_⟩
  have Kq:upd H r (.lst [.int l2,.int r2]) a=some (.lst (ns.map V.int)):=by rw[aq Oh];exact ha
  have M3:upd H r (.lst [.int l2,.int r2]) r=some (.lst [.int l2,.int r2]):=ae;have Ih:SameBut r H (upd H r (.lst [.int l2,.int r2])):=SameBut.upd;generalize upd H r (.lst [.int l2,.int r2])=H2 at Kq M3 Ih |-;refine⟨_,rfl,r,l2,r2,6,rfl,M3,g0,g1,by decide,by decide,λway l3 r3 w0 w1 g2 g3=>?_⟩
  have JH:upd H2 r (.lst [.int l3,.int r3]) a=some (.lst (ns.map V.int)):=by rw[aq Oh];exact Kq
  have Oo:upd H2 r (.lst [.int l3,.int r3]) r=some (.lst [.int l3,.int r3]):=ae;have IL:SameBut r H (upd H2 r (.lst [.int l3,.int r3])):=Ih.trans SameBut.upd;generalize upd H2 r (.lst [.int l3,.int r3])=H3 at JH Oo IL |-;have fin:∀H' x o d,Tg H' x o d->aw H3 H'->Q x H':=λH' x o d t s=>q H' x o d t (aR.same ⟨l3,r3,Oo,g2,g3⟩ s) (IL.trans (SameBut.of s));have Oq:∀H' x o d l' r',Tg H' x o d->SameBut r H3 H'->H' r=some (.lst [.int l',.int r'])->0<=r'->r'<2147483647->Q x H':=λH' x o d l' r' t s e k0 k1=>q H' x o d t ⟨l',r',e,k0,k1⟩ (IL.trans s);obtain⟨j,rfl⟩:=Int.eq_ofNat_of_zero_le z0
  have all:=λG=>iu G (ns:=ns) λk hk=>by
   have:=O.pl k hk;omega
  have cut:∀j:Nat,∀G,Paired (El G) ((ns.map V.int).take j) ((ns.take j).map PyData.int):=λj G=>by
   rw[<-List.map_take]
   exact iu G λk hk=>by
    have:=O.pl k (List.mem_of_mem_take hk);omega
  have Mh:∀j:Nat,∀G,Paired (El G) ((ns.map V.int).drop j) ((ns.drop j).map PyData.int):=λj G=>by
   rw[<-List.map_drop]
   exact iu G λk hk=>by
    have:=O.pl k (List.mem_of_mem_drop hk);omega
  have k64:(64:Nat)<=sizeLine:=by decide
  obtain⟨k0,LM,e0⟩:∃k0∈ns,ng (ns.map V.int) 0=some (.int k0):=by
   cases ns with
   |nil=>simp at ln;omega
   |cons k ks=>exact⟨k,.head _,by unfold ng wB;simp⟩
  refine⟨_,rfl,rfl,_,rfl,?_⟩;generalize decide (V.int way=V.int 0)=c
  cases c with
  |true =>
   refine aZ ?_;refine⟨_,rfl,a,_,0,_,rfl,rfl,aO.of JH,e0,?_⟩;refine⟨_,rfl,a,_,rfl,.inl (aO.of JH),_,rfl,FD,λl hl=>?_⟩;have s4:=ai (o:=.lst [.int 0]) hl;have el:upd H3 l (.lst [.int 0]) l=some (.lst [.int 0]):=ae;have nlr:l≠r:=(au Oo hl).symm;have Um:=s4 _ _ Oo;generalize upd H3 l _=H4 at s4 el Um |-;refine⟨GT,λL hL=>?_⟩;generalize RV:([V.int k0,V.int _,V.int _,V.bl true,V.non,V.str "0",V.ref l,V.bl false]:List V)=XS;have s5:=ai (o:=.lst XS) hL;have eL:upd H4 L (.lst XS) L=some (.lst XS):=ae;have nLr:L≠r:=(au Um hL).symm;have Yi:=s5 _ _ Um;have Yj:=s5 _ _ el;generalize upd H4 L _=H5 at s5 eL Yi Yj |-;refine⟨_,rfl,r,l3,r3,8,rfl,Yi,g2,g3,by decide,by decide,λz l6 r6 z0 z1 g4 g5=>?_⟩
   have Yk:upd H5 r (.lst [.int l6,.int r6]) L=some (.lst XS):=by rw[aq nLr];exact eL
   have Yl:upd H5 r (.lst [.int l6,.int r6]) l=some (.lst [.int 0]):=by rw[aq nlr];exact Yj
   have Ot:upd H5 r (.lst [.int l6,.int r6]) r=some (.lst [.int l6,.int r6]):=ae;have JA:SameBut r H3 (upd H5 r (.lst [.int l6,.int r6])):=(SameBut.of (s4.trans s5)).trans SameBut.upd;generalize upd H5 r _=H6 at Yk Yl Ot JA |-
   obtain⟨v,d,hv,hd⟩:∃v d,ng XS z=some v/\El H6 v d:=by
    subst RV
    have zz:z=0\/z=1\/z=2\/z=3\/z=4\/z=5\/z=6\/z=7:=by omega
    rcases zz with rfl|rfl|rfl|rfl|rfl|rfl|rfl|rfl
    ·exact⟨_,_,rfl,iM _ (by have:=O.pl _ LM;omega)⟩
    ·exact⟨_,_,rfl,iM _ (by omega)⟩
    ·exact⟨_,_,rfl,iM _ (by decide)⟩
    ·exact⟨_,_,rfl,xg _ _⟩
    ·exact⟨_,_,rfl,xD _⟩
    ·exact⟨_,_,rfl,wV _ (by decide +kernel)⟩
    ·exact⟨_,_,rfl,AE Yl⟩
    ·exact⟨_,_,rfl,xg _ _⟩
   refine⟨L,_,z,v,rfl,rfl,aO.of Yk,hv,?_⟩;have Ol:=JA _ _ JH Oh;refine⟨_,rfl,_,rfl,_,rfl,a,_,rfl,aO.of Ol,λp1 J8=>?_⟩;rw[jl];have s7:=ai (o:=.lst ((ns.map V.int).take j)) J8;have e7:upd H6 p1 (.lst ((ns.map V.int).take j)) p1=some (.lst ((ns.map V.int).take j)):=ae;generalize upd H6 p1 _=H7 at s7 e7 |-;refine⟨_,rfl,FD,λp2 Kv=>?_⟩;have s8:=ai (o:=.lst [v]) Kv;have e8:upd H7 p2 (.lst [v]) p2=some (.lst [v]):=ae;generalize upd H7 p2 _=H8 at s8 e8 |-;refine⟨p1,p2,_,_,rfl,rfl,s8 _ _ e7,e8,by rw[List.length_take];show _+1<=_;omega,λp3 H9 h3 s9 e9=>?_⟩;refine⟨_,rfl,_,rfl,_,_,rfl,rfl,_,rfl,a,_,rfl,aO.of ((s7.trans (s8.trans s9)) _ _ Ol),λp4 T8=>?_⟩;have ec:gh (ns.map V.int) (some ((j:Int)+1)) none=(ns.map V.int).drop (j+1):=kH _ (j+1);rw[ec];have Ou:=ai (o:=.lst ((ns.map V.int).drop (j+1))) T8;have Ym:upd H9 p4 (.lst ((ns.map V.int).drop (j+1))) p4=some (.lst ((ns.map V.int).drop (j+1))):=ae;generalize upd H9 p4 _=HA at Ou Ym |-;refine⟨p3,p4,_,_,rfl,rfl,Ou _ _ e9,Ym,by rw[List.length_append,List.length_take,List.length_drop];show _+1+_<=_;omega,λp5 G h5 Uo e11=>?_⟩;have sG:=s7.trans (s8.trans (s9.trans (Ou.trans Uo)));exact Oq G _ _ _ l6 r6 (hJ e11 (ig (ig (cut j G) (.cons (hd.same sG) .nil)) (Mh (j+1) G)) (by rw[List.length_append,List.length_append,List.length_take,List.length_drop];show _+1+_<_;omega)) (JA.trans (SameBut.of sG)) (sG _ _ Ot) g4 g5
  |false =>
  refine a9 ?_;refine⟨_,rfl,rfl,_,rfl,?_⟩;generalize decide (V.int way=V.int 1)=c
  cases c with
  |true =>
   refine aZ ?_;refine⟨_,rfl,_,rfl,a,_,rfl,.inl (aO.of JH),FD,λp hp=>?_⟩;have s4:=ai (o:=.lst [.int (ns.map V.int).length]) hp;have e4:upd H3 p (.lst [.int (ns.map V.int).length]) p=some (.lst [.int (ns.map V.int).length]):=ae;change sR _ _ (upd H3 p (.lst [.int (ns.map V.int).length])) _;generalize upd H3 p _=H4 at s4 e4 |-;refine⟨a,p,_,_,rfl,rfl,s4 _ _ JH,e4,by show _+1<=_;omega,λp3 G h3 s9 e9=>?_⟩;exact fin G _ _ _ (hJ e9 (ig (all G) (.cons (iM G (by omega)) .nil)) (by rw[List.length_append];show _+1<_;omega)) (s4.trans s9)
  |false =>
  refine a9 ?_;refine⟨_,rfl,rfl,_,rfl,?_⟩;generalize decide (V.int way=V.int 2)=c
  cases c with
  |true =>
   refine aZ ?_;refine⟨_,rfl,_,rfl,a,_,rfl,aO.of JH,λp hp=>?_⟩;have ec:gh (ns.map V.int) (some 1) none=(ns.map V.int).drop 1:=kH _ 1;rw[ec];exact fin _ _ _ _ (hJ ae (Mh 1 _) (by rw[List.length_drop];omega)) (ai hp)
  |false =>
  refine a9 ?_;refine⟨_,rfl,rfl,_,rfl,?_⟩;generalize decide (V.int way=V.int 3)=c
  cases c with
  |true =>
   refine aZ ?_;refine⟨_,rfl,a,_,rfl,.inl ⟨aO.of JH,λt ht=>?_⟩⟩;have s4:=ai (o:=.tup (ns.map V.int)) ht;have e4:upd H3 t (.tup (ns.map V.int)) t=some (.tup (ns.map V.int)):=ae;generalize upd H3 t _=H4 at s4 e4 |-;refine λd1 KI=>?_;have s5:=ai (o:=.dK []) KI;have e5:upd H4 d1 (.dK []) d1=some (.dK []):=ae;generalize upd H4 d1 _=H5 at s5 e5 |-;refine λd2 hd2=>⟨ae,[(.inl 0,.int 0)],rfl,by decide,?_⟩;rw[tZ];change bH _ _ _ (upd H5 d2 (.dK [(.inl 0,.int 0)])) _;have s6:=ai (o:=.dK [(.inl 0,.int 0)]) hd2;have e6:upd H5 d2 (.dK [(.inl 0,.int 0)]) d2=some (.dK [(.inl 0,.int 0)]):=ae;generalize upd H5 d2 _=H6 at s6 e6 |-;refine⟨Nat.zero_le _,λm hm=>?_⟩;have s7:=ai (o:=.lst []) hm;have e7:upd H6 m (.lst []) m=some (.lst []):=ae;generalize upd H6 m _=H7 at s7 e7 |-;refine⟨GT,λL hL=>?_⟩;generalize RV:([V.ref t,V.non,V.ref d1,V.str "01",V.int 0,V.bl true,V.ref d2,V.ref m]:List V)=XS;have s8:=ai (o:=.lst XS) hL;have eL:upd H7 L (.lst XS) L=some (.lst XS):=ae;generalize upd H7 L _=H8 at s8 eL |-;have RW:=s4.trans (s5.trans (s6.trans (s7.trans s8)));have Uq:=RW _ _ Oo;refine⟨_,rfl,r,l3,r3,8,rfl,Uq,g2,g3,by decide,by decide,λz l6 r6 z0 z1 g4 g5=>?_⟩;have Ji:SameBut r H8 (upd H8 r (.lst [.int l6,.int r6])):=SameBut.upd;have Yn:upd H8 r (.lst [.int l6,.int r6]) r=some (.lst [.int l6,.int r6]):=ae;generalize upd H8 r _=H9 at Ji Yn |-
   have ne:∀b u,H8 b=some u->(∀xs,u≠.lst xs)->H9 b=some u:=λb u e n=>Ji _ _ e λz=>by
    rw[z,Uq] at e
    cases e
    exact n _ rfl
   have nL:∀b xs,H8 b=some (.lst xs)->xs.length≠2->H9 b=some (.lst xs):=λb xs e n=>Ji _ _ e λz=>by
    rw[z,Uq] at e
    cases e
    exact n rfl
   have eL9:=nL _ _ eL (by rw[<-RV];show(8:Nat)≠2;decide);have e9:=ne _ _ ((s5.trans (s6.trans (s7.trans s8))) _ _ e4) (λxs z=>nomatch z);have d9:=ne _ _ ((s6.trans (s7.trans s8)) _ _ e5) (λxs z=>nomatch z);have d8:=ne _ _ ((s7.trans s8) _ _ e6) (λxs z=>nomatch z);have m9:=nL _ _ (s8 _ _ e7) (by decide)
   obtain⟨v,o,d,hv,hd⟩:∃v o d,ng XS z=some v/\Tg H9 v o d:=by
    subst RV
    have zz:z=0\/z=1\/z=2\/z=3\/z=4\/z=5\/z=6\/z=7:=by omega
    rcases zz with rfl|rfl|rfl|rfl|rfl|rfl|rfl|rfl
    ·exact⟨_,_,_,rfl,C8 e9 (all H9) (by omega)⟩
    ·exact⟨_,_,_,rfl,uj (xD _) (λh=>uL h (λa z=>by cases z) rfl)⟩
    ·exact⟨_,_,_,rfl,zZ d9⟩
    ·exact⟨_,_,_,rfl,uj (wV _ (by decide +kernel)) (λh=>uL h (λa z=>by cases z) rfl)⟩
    ·exact⟨_,_,_,rfl,uj (iM _ (by decide)) (λh=>uL h (λa z=>by cases z) rfl)⟩
    ·exact⟨_,_,_,rfl,uj (xg _ _) (λh=>uL h (λa z=>by cases z) rfl)⟩
    ·exact⟨_,_,_,rfl,AJ d8⟩
    ·exact⟨_,_,_,rfl,hJ m9 .nil (by decide)⟩
   exact⟨L,_,z,v,rfl,rfl,aO.of eL9,hv,Oq _ _ _ _ l6 r6 hd ((SameBut.of RW).trans Ji) Yn g4 g5⟩
  |false =>
  refine a9 ?_;refine⟨_,rfl,rfl,_,rfl,?_⟩;generalize decide (V.int way=V.int 4)=c
  cases c with
  |true =>
   refine aZ ?_;refine⟨_,rfl,_,rfl,_,rfl,rfl,a,_,rfl,aO.of JH,λp hp=>?_⟩
   exact fin _ _ _ _ (hJ ae (ds:=ns.reverse.map PyData.int) (by
    rw[<-List.map_reverse]
    exact iu _ λk hk=>by
     have:=O.pl k (List.mem_reverse.mp hk)
     omega) (by rw[List.length_reverse];omega)) (ai hp)
  |false =>
  refine a9 ?_;unfold wW;refine⟨_,rfl,_,rfl,_,rfl,a,_,rfl,aO.of JH,λp1 J8=>?_⟩;rw[kH];have s4:=ai (o:=.lst ((ns.map V.int).drop j)) J8;have e4:upd H3 p1 (.lst ((ns.map V.int).drop j)) p1=some (.lst ((ns.map V.int).drop j)):=ae;generalize upd H3 p1 _=H4 at s4 e4 |-;refine⟨_,rfl,_,rfl,_,rfl,a,_,rfl,aO.of (s4 _ _ JH),λp2 Kv=>?_⟩;rw[jl];have s5:=ai (o:=.lst ((ns.map V.int).take j)) Kv;have e5:upd H4 p2 (.lst ((ns.map V.int).take j)) p2=some (.lst ((ns.map V.int).take j)):=ae;generalize upd H4 p2 _=H5 at s5 e5 |-;refine⟨p1,p2,_,_,rfl,rfl,s5 _ _ e4,e5,by rw[List.length_take,List.length_drop];omega,λp3 G h3 s9 e9=>?_⟩;exact fin G _ _ _ (hJ e9 (ig (Mh j G) (cut j G)) (by rw[List.length_append,List.length_take,List.length_drop];omega)) (s4.trans (s5.trans s9))
abbrev Am:Stmt:=(aS 66)
def zf (K:Frag)(H:Hp)(a:Addr)(ns:List Int):Prop:=(∃o,H a=some (.frz o (.lst (ns.map V.int))))\/∃(o:Obj)(its:vd)(n:Nat),K.lookup a=some o/\o.cls=.type "list"/\o.dict=none/\o.data=.seq its n/\its.size<=sizeLine/\L2.aK (ns.map V.int) its.toList
variable {ns:List Int}
theorem zf.sq {K:Frag}(h:zf K H a ns):aO K H a (ns.map V.int):=by
 rcases h with⟨o,h⟩|h
 ·exact .inl (.inr ⟨o,h⟩)
 ·exact .inr h
theorem zf.same {K:Frag}(h:zf K H a ns)(S:aw H H'):zf K H' a ns:=by
 rcases h with⟨o,h⟩|h
 ·exact .inl ⟨o,S _ _ h⟩
 ·exact .inr h
theorem zf.but {K:Frag}{r:Addr}(h:zf K H a ns)(R:aR H r)(S:SameBut r H H'):zf K H' a ns:=by
 rcases h with⟨o,h⟩|h
 ·refine .inl ⟨o,S _ _ h λz=>?_⟩;obtain⟨l,x,e,_⟩:=R;rw[z,e] at h
  cases h
 ·exact .inr h
theorem AH {a b:TS}{D:Ends}{σ:L2.St}(R:L2.St->Hp->Prop)(h:∀D':Ends,(∀σ' H',R σ' H'->D'.nx σ' H')->a D' σ H)(fin:∀σ' H',R σ' H'->b D σ' H'):xI a b D σ H:=h {D with nx:=b D} fin
theorem hU {r b:Addr}(R:aR H r)(h:H b=none):b≠r:=λz=>by
 obtain⟨l,x,e,_⟩:=R;rw[z,e] at h
 cases h
theorem w6 {r:Addr}(s:SameBut r H H'):aw (fh [r] H) (fh [r] H'):=qg λc u e n=>s c u e (by simpa using n)
variable {Hk:List (List Tm)}
theorem vA {n:Int}{Hy:List (List Tm)}(h1:∀t∈Hk,bo t=t)(h2:∀t∈Hy,bo t=t):
 (C4 n Hk Hy o ↔ ∃ns:List Int,o=some (ns.map V.int)/\B7 ns n/\Hk.Perm (Hk.map (uW ns))/\Hy.Perm (Hy.map (uW ns))):=by
 have k:∀{ts:List (List Tm)},(∀t∈ts,bo t=t)->∀ns,ts.map (mv ns)=ts.map (uW ns)/\ts.map bo=ts:=λ{ts} h ns=>by
  refine⟨List.map_congr_left λt ht=>?_,?_⟩
  ·unfold mv uW;rw[h t ht]
  ·have z:ts.map bo=ts.map id:=List.map_congr_left λt ht=>h t ht;rw[z,List.map_id]
 unfold C4;constructor
 ·rintro⟨ns,e,O,p,q⟩;rw[(k h1 ns).1,(k h1 ns).2] at p;rw[(k h2 ns).1,(k h2 ns).2] at q;exact⟨ns,e,O,p.symm,q.symm⟩
 ·rintro⟨ns,e,O,p,q⟩;refine⟨ns,e,O,?_,?_⟩
  ·rw[(k h1 ns).1,(k h1 ns).2];exact p.symm
  ·rw[(k h2 ns).1,(k h2 ns).2];exact q.symm
theorem lN {C CF A:Addr}{p:Int}{as:List Addr}{G:List V->Hp->Prop}(hA:H A=some (.lst (as.map V.ref)))(hS:ph C CF H p as Hk)(few:Hk.length<=200)(td:∀t∈Hk,bo t=t)
 (q:∀H' us,aw H H'->dF H' us Hk->G us H'):
 ∃W':Nat->Nat->List V->L2.St->Hp->Prop,(∃m,W' 0 m [] (none :: []) H)/\hV (zD K A) (bA 0) DF (tS C "terms" (iS C CF) [] (λ_ _ _=>False) (cw 0) CP) W' G:=by
 have al:=hS.length;refine fR (a:=A) (xs:=as.map V.ref) (rest:=[]) (λj us H'=>aw H H'/\dF H' us (Hk.take j)) ⟨aw.refl _,.nil⟩ (λj us H' hj h=>?_) (λj x us H' M hj IW h hM=>?_) (λus H' h=>?_)
 ·obtain⟨sH,hT⟩:=h;refine⟨?_,aO.of (sH _ _ hA)⟩;rw[hT.length,List.length_take];exact Nat.lt_of_le_of_lt (by omega:_<=200) (by decide)
 ·obtain⟨sH,hT⟩:=h;rw[List.getElem?_map] at IW;obtain⟨c,ec,rfl⟩:=Option.map_eq_some_iff.mp IW;obtain⟨ts,et,z⟩:=bt hS ec;obtain⟨dx,fl,Hs,D1,zs,S1,S2,S3,S4⟩:=(z.same sH).ex;rw[td ts (List.mem_of_getElem? et)] at S4;refine mD ⟨_,rfl,c,dx,_,rfl,S1,rfl,c,dx,fl,D1,zs,rfl,S1,S3,λl hl=>?_⟩;have s2:=ai (o:=.lst zs) hl;refine hM _ _ ⟨sH.trans s2,?_⟩;rw[List.take_add_one,et,Option.toList_some];exact Paired.snoc (hT.same s2) ⟨l,zs,rfl,ae,bf.keep S4 (aJ.of s2)⟩
 ·obtain⟨sH,hT⟩:=h;rw[List.length_map,al,List.take_length] at hT;exact q H' us sH hT
theorem j9 (e:H a=some (.lst xs))(h:dF H xs Hk):aC K H (.lst (Hk.map fF)) (.ref a):=by
 unfold aC;exact⟨a,xs,rfl,aO.of e,gc h⟩
theorem wG (Hk:List (List Tm)):dM (.lst (Hk.map fF))<=32:=by
 unfold dM;have:=iF Hk;omega
def yK (K:Frag):Sp:=λvs H Q _=>∃(a:Addr)(ns:List Int),vs=[.ref a]/\zf K H a ns/\ns.length<=63/\∀H',Q (.bl true) H'
theorem eu:yx ["_law_script","_law_k","_law_pool_here","_law_prime_here","_law_places","_law_order","_law_ones","_law_others","_law_system_here","_law_turn","_law_thing","_law_kept","_law_found","_law_due"] ["_law_script"] (ak Am):=dJ (by decide +kernel)
theorem Cp {f fo ft Ur Us Ut Uu Uv Uw Ux fst Yo Yp C CF CS:Addr}{fd I9 HR Ov Ow Ox Oy Oz OA OB OC OE OF:zI}(F:zA K "law" "law" Am f fd)(cS:C0 K mg C)(cY:Ga K mg CS)(KJ:rA K)
 (Hl:mg "range"=none)(ID:mg "max"=none)(Ka:mg "min"=none)(Hr:mg "len"=none)(Ij:mg "int"=none)(IM:mg "repr"=none)(Hg:mg "isinstance"=none)(HN:mg "bool"=none)
 (Td:Ha P w K mg base (aV P w) 1 fo I9 vG (wH K))(Tf:L2.aA K I9 vG [])(Ti:mg "_law_pool"=some (.ref fo))(kPo:keepIn K (.ref fo)=true)
 (Ip:Ha P w K mg base (aV P w) 1 ft HR qT v8)(Iq:L2.aA K HR qT [])(Ir:mg "_law_take"=some (.ref ft))(Iu:keepIn K (.ref ft)=true)
 (FPm:Ha P w K mg base (aV P w) 2 Ur Ov vN Dq)(bPm:L2.aA K Ov vN [])(mPm:mg "_law_prime"=some (.ref Ur))(kPm:keepIn K (.ref Ur)=true)
 (Yq:Ha P w K mg base (aV P w) 2 Us Ow qT Hf)(Yr:L2.aA K Ow qT [])(Ys:mg "_law_shuffled"=some (.ref Us))(Yt:keepIn K (.ref Us)=true)
 (Yu:Ha P w K mg base (aV P w) 6 Ut Ox yT sW)(Yv:L2.aA K Ox yT [])(Yw:mg "_law_alike_wishes"=some (.ref Ut))(Yx:keepIn K (.ref Ut)=true)
 (Uy:Ha P w K mg base (aV P w) 8 Uu Oy Eo (BP CS C CF))(Uz:L2.aA K Oy Eo [])(UA:mg "_law_system"=some (.ref Uu))(UB:keepIn K (.ref Uu)=true)
 (FBO:Ha P w K mg base (aV P w) 2 Uv Oz AI oG)(bBO:L2.aA K Oz AI [])(mBO:mg "_law_bent_order"=some (.ref Uv))(kBO:keepIn K (.ref Uv)=true)
 (FIL:Ha P w K mg base (aV P w) 11 Uw OA CL (ET CS C CF))(bIL:L2.aA K OA CL [])(mIL:mg "is_likeness"=some (.ref Uw))(kIL:keepIn K (.ref Uw)=true)
 (FLL:Ha P w K mg base (aV P w) 6 Ux OB y7 AK)(bLL:L2.aA K OB y7 [])(mLL:mg "_law_is_likeness"=some (.ref Ux))(kLL:keepIn K (.ref Ux)=true)
 (RE:Ha P w K mg base (aV P w) 1 fst OC ["self"] (iS C CF))(RF:L2.aA K OC ["self"] [])(RG:Meth K C "terms" fst)
 (RH:Ha P w K mg base (aV P w) 1 Yo OE ["self"] (Co CS CF))(RI:L2.aA K OE ["self"] [])(RJ:Meth K CS "noughts" Yo)
 (RK:Ha P w K mg base (aV P w) 1 Yp OF ["self"] (Cu CS CF))(RL:L2.aA K OF ["self"] [])(RM:Meth K CS "uppers" Yp):
 Ha P w K mg base (aV P w) 12 f fd ["_law_script"] (yK K):=by
 refine F.okN eu (λvs H Q E h=>?_) (λHn A outer s H vs Q E hr h=>?_)
 ·obtain⟨a,ns,rfl,_⟩:=h;rfl
 ·obtain⟨a,ns,rfl,Yy,hlen,fin⟩:=h;have Kb:qL 11 _:=hr;have Tv:qL 8 _:=Kb.mono (by decide);have Lb:qL 6 _:=Kb.mono (by decide);have HL:qL 2 _:=Kb.mono (by decide);have Hu:qL 1 _:=Kb.mono (by decide)
  refine⟨_,(@aj _ _ _ _ _ (eK PassesOwn.never rfl (dj (by rfl) Hl (@ah _ _ _ _ _ (az (TGs rfl) (by rfl) ID (by rfl) (@ah _ _ _ _ _ ar (@ah _ _ _ _ _ (az (abe rfl) (by rfl) Ka (by rfl) (@ah _ _ _ _ _ (az aW (by rfl) Hr PySem.boot_len (@ah _ _ _ _ _ (pv 0) ag rfl)) (@ah _ _ _ _ _ ar ag rfl) rfl)) ag rfl) rfl)) ag rfl)) (aG (i:=1) eu.nd rfl (Or.inl rfl))
   (@aj _ _ _ _ _ (@aM _ _ 2 _ _ _ _ eu.nd rfl (Or.inl rfl) (av Td Hu (by rfl) Ti kPo Tf .nil af (@ah _ _ _ _ _ (pv 0) (@ah _ _ _ _ _ (pv 1) ag rfl) rfl)) rfl (Or.inl rfl))
   (@aj _ _ _ _ _ (@aM _ _ 3 _ _ _ _ eu.nd rfl (Or.inl rfl) (av FPm HL (by rfl) mPm kPm bPm .nil af (@ah _ _ _ _ _ (pv 2) ag rfl)) rfl (Or.inl rfl))
   (@aj _ _ _ _ _ (@aM _ _ 4 _ _ _ _ eu.nd rfl (Or.inl rfl) (@aL _ _ _ _ _ _ _ _ cW ar (av Ip Hu (by rfl) Ir Iu Iq .nil af (@ah _ _ _ _ _ (pv 2) (@ah _ _ _ _ _ ar ag rfl) rfl))) rfl (Or.inl rfl))
   (@aj _ _ _ _ _ (@aM _ _ 5 _ _ _ _ eu.nd rfl (Or.inl rfl) (av Yq HL (by rfl) Ys Yt Yr .nil af (@ah _ _ _ _ _ (pv 2) (@ah _ _ _ _ _ (pv 4) ag rfl) rfl)) rfl (Or.inl rfl))
   (@aj _ _ _ _ _ (@aM _ _ 6 _ _ _ _ eu.nd rfl (Or.inl rfl) (av Yu Lb (by rfl) Yw Yx Yv .nil af (@ah _ _ _ _ _ (pv 2) (@ah _ _ _ _ _ (pv 3) (@ah _ _ _ _ _ (pv 4) (@ah _ _ _ _ _ (pv 5) (@ah _ _ _ _ _ ar ag rfl) rfl) rfl) rfl) rfl)) rfl (Or.inl rfl))
   (@aj _ _ _ _ _ (@aM _ _ 7 _ _ _ _ eu.nd rfl (Or.inl rfl) (av Yu Lb (by rfl) Yw Yx Yv .nil af (@ah _ _ _ _ _ (pv 2) (@ah _ _ _ _ _ (pv 3) (@ah _ _ _ _ _ (pv 4) (@ah _ _ _ _ _ (pv 5) (@ah _ _ _ _ _ (@aL _ _ _ _ _ _ _ _ dB ar (bK abZ (by rfl) Ij (by rfl) (@ah _ _ _ _ _ (@cz _ _ _ _ _ _ _ _ cR (pv 3) ar (aF _)) ag rfl))) ag rfl) rfl) rfl) rfl) rfl)) rfl (Or.inl rfl))
   (@aj _ _ _ _ _ (ba (@aH _ _ _ _ _ _ _ _ cR (av Ip Hu (by rfl) Ir Iu Iq .nil af (@ah _ _ _ _ _ (pv 2) (@ah _ _ _ _ _ ar ag rfl) rfl)) ar (aF _)) (@ao _ _ _ (@aM _ _ 6 _ _ _ _ eu.nd rfl (Or.inl rfl) (@aL _ _ _ _ _ _ _ _ ic (pv 6) (dG gf (pv 6) fA (dX ar))) rfl (Or.inl rfl))) aE)
   (@aj _ _ _ _ _ (@aM _ _ 8 _ _ _ _ eu.nd rfl (Or.inl rfl) (av Uy Tv (by rfl) UA UB Uz .nil af (@ah _ _ _ _ _ (pv 3) (@ah _ _ _ _ _ (pv 4) (@ah _ _ _ _ _ (pv 6) (@ah _ _ _ _ _ (pv 7) ag rfl) rfl) rfl) rfl)) rfl (Or.inl rfl))
   (@aj _ _ _ _ _ (eK PassesOwn.never rfl (dj (by rfl) Hl (@ah _ _ _ _ _ ar ag rfl)) (aG (i:=9) eu.nd rfl (Or.inl rfl))
   (@aj _ _ _ _ _ (@aM _ _ 10 _ _ _ _ eu.nd rfl (Or.inl rfl) (@bq _ _ _ _ _ _ _ cb (@cu _ _ _ _ (@ah _ _ _ _ _ (pv 5) (@ah _ _ _ _ _ (av Yq HL (by rfl) Ys Yt Yr .nil af (@ah _ _ _ _ _ (pv 2) (@ah _ _ _ _ _ (pv 4) ag rfl) rfl)) (@ah _ _ _ _ _ (av FBO HL (by rfl) mBO kBO bBO .nil af (@ah _ _ _ _ _ (pv 2) (@ah _ _ _ _ _ (pv 5) ag rfl) rfl)) ag rfl) rfl) rfl)) (@aL _ _ _ _ _ _ _ _ dN (pv 9) ar) (λ_ _=>rfl)) rfl (Or.inl rfl))
   (@aj _ _ _ _ _ (@aM _ _ 11 _ _ _ _ eu.nd rfl (Or.inl rfl) (az (kJ Hu KJ) (by rfl) IM (by rfl) (@ah _ _ _ _ _ (pv 10) ag rfl)) rfl (Or.inl rfl))
   (@aj _ _ _ _ _ (@aM _ _ 12 _ _ _ _ eu.nd rfl (Or.inl rfl) (av FIL Kb (by rfl) mIL kIL bIL .nil af (@ah _ _ _ _ _ (pv 8) (@ah _ _ _ _ _ (pv 10) ag rfl) rfl)) rfl (Or.inl rfl))
   (@aj _ _ _ _ _ (@aM _ _ 13 _ _ _ _ eu.nd rfl (Or.inl rfl) (av FLL Lb (by rfl) mLL kLL bLL .nil af (@ah _ _ _ _ _ (pv 3) (@ah _ _ _ _ _ (pv 4) (@ah _ _ _ _ _ (pv 6) (@ah _ _ _ _ _ (pv 7) (@ah _ _ _ _ _ (pv 10) ag rfl) rfl) rfl) rfl) rfl)) rfl (Or.inl rfl))
   (@ao _ _ _ (ba (PW.pt (dO (bJ (bD (az aY (by rfl) Hg (by rfl) (@ah _ _ _ _ _ (pv 12) (@ah _ _ _ _ _ (cA (by rfl) HN (by rfl) (show aD (.ty "bool") (.type "bool") from rfl)) ag rfl) rfl)))) (dO (@aH _ _ _ _ _ _ _ _ jW (pv 12) (pv 13) (aF _)) (cN (@aH _ _ _ _ _ _ _ _ jW (az (kJ Hu KJ) (by rfl) IM (by rfl) (@ah _ _ _ _ _ (pv 10) ag rfl)) (pv 11) (aF _)))))) (@ao _ _ _ (aB dR)) aE)))))))
   (@ao _ _ _ (ba (PW.pt (dO (@aH _ _ _ _ _ _ _ _ (iN Hu) (bF (N:=["_law_one"]) (nl:=1) (js:=[]) (osc:=ak Am) ⟨rfl,rfl,by decide +kernel,by decide +kernel,by decide +kernel,rfl,.nil,by decide +kernel⟩ rfl
    (bY (bN (pv 8) cY.cl RJ RH Hu RI .nil af))
    (λCq fq sq Hq=>aG (i:=0) (by show(["_law_one"]:Bg).Nodup;decide +kernel) rfl (Or.inl rfl) (Or.inr rfl))
    (λCq fq sq Hq=>bZ)
    (λCq fq sq Hq=>(bN (pv 0) cS.cl RG RE Hu RF .nil af))) (pv 6) (aF _)) (cN (@aH _ _ _ _ _ _ _ _ (iN Hu) (bF (N:=["_law_one"]) (nl:=1) (js:=[]) (osc:=ak Am) ⟨rfl,rfl,by decide +kernel,by decide +kernel,by decide +kernel,rfl,.nil,by decide +kernel⟩ rfl
    (bY (bN (pv 8) cY.cl RM RK Hu RL .nil af))
    (λCq fq sq Hq=>aG (i:=0) (by show(["_law_one"]:Bg).Nodup;decide +kernel) rfl (Or.inl rfl) (Or.inr rfl))
    (λCq fq sq Hq=>bZ)
    (λCq fq sq Hq=>(bN (pv 0) cS.cl RG RE Hu RF .nil af))) (pv 7) (aF _))))) (@ao _ _ _ (aB dR)) aE))))))))))))
   (@ao _ _ _ (aB dR))),?_⟩
  refine⟨_,rfl,a,_,rfl,.inl Yy.sq,_,_,rfl,_,_,rfl,_,rfl,?_,?_,?_⟩
  ·rw[List.length_map]
   split <;> split <;> omega
  ·rw[List.length_map]
   split <;> split <;> omega
  refine dZ (lo:=0) (λi σ H'=>(∃o1 o2 o3 o4 o5 o6 o7 o8 o9 M4 M5 M6 M7,σ=[some (.ref a),o1,o2,o3,o4,o5,o6,o7,o8,o9,M4,M5,M6,M7])/\zf K H' a ns) ⟨⟨_,_,_,_,_,_,_,_,_,_,_,_,_,rfl⟩,Yy⟩ ?_ ?_
  ·rintro i σ G0 hi ⟨⟨o1,o2,o3,o4,o5,o6,o7,o8,o9,M4,M5,M6,M7,rfl⟩,UC⟩
   have ab2:i<40:=by
    rw[List.length_map] at hi
    split at hi <;> split at hi <;> omega
   clear hi;refine⟨_,rfl,_,rfl,a,ns,0+(i:Int),rfl,UC.sq,hlen,by omega,by omega,λr l1 r1 Rm Hu HL=>?_⟩;have S1:=ai (o:=.lst [.int l1,.int r1]) Rm;have UD:=UC.same S1;have R1:aR (upd G0 r (.lst [.int l1,.int r1])) r:=⟨l1,r1,ae,Hu,HL⟩;generalize (upd G0 r (.lst [.int l1,.int r1]))=G1 at UD R1 |-;clear S1 UC Rm Hu HL;refine⟨_,rfl,r,rfl,R1,λp G2 hp R2 Ih=>?_⟩;have Yz:=UD.but R1 Ih;obtain⟨l2,x2,M3,c0,c1⟩:=R2;refine⟨_,rfl,r,l2,x2,4,rfl,M3,c0,c1,by decide,by decide,λz l3 r3 z0 z1 g0 g1=>?_⟩;have IL:SameBut r G2 (upd G2 r (.lst [.int l3,.int r3])):=SameBut.upd;have UE:=Yz.but ⟨l2,x2,M3,c0,c1⟩ IL;have R3:aR (upd G2 r (.lst [.int l3,.int r3])) r:=⟨l3,r3,ae,g0,g1⟩;generalize upd G2 r (.lst [.int l3,.int r3])=G3 at UE R3 |-;clear IL UD Yz Ih M3;refine⟨_,_,rfl,rfl,?_⟩
   have n1:1<=1+z:=by omega
   have n4:1+z<=4:=by omega
   refine⟨_,rfl,_,rfl,r,1+z,rfl,R3,n1,by omega,λG4 O os hO eO OO R4 Jh=>?_⟩;have YA:=UE.but R3 Jh;have KL:O≠r:=hU R3 hO;refine⟨_,rfl,_,rfl,_,rfl,_,rfl,r,O,p,1+z,3,os,rfl,R4,hp,n1,by omega,eO,OO,KL,by decide,by decide,λG5 A xs Hk hA eA hx Wx xl x0 R5 Jx=>?_⟩;have YB:=YA.but R4 Jx;have M8:A≠r:=hU R4 hA;have UG:=Jx _ _ eO KL;refine⟨_,rfl,_,rfl,_,rfl,_,rfl,?_⟩
   have hm:∀c:Bool,0<=2*(if c=true then(1:Int) else 0)/\2*(if c=true then(1:Int) else 0)<=3/\(c=false->2*(if c=true then(1:Int) else 0)=0)/\B 9000 (if c=true then(1:Int) else 0):=by
    have b1:B 9000 (1:Int):=Nat.one_lt_two_pow (by decide);have b0:B 9000 (0:Int):=Nat.two_pow_pos _;intro c
    cases c
    ·exact⟨by decide,by decide,λ_=>rfl,b0⟩
    ·exact⟨by decide,by decide,λh=>(nomatch h),b1⟩
   have b2:B 9000 (2:Int):=Nat.lt_of_lt_of_le (by decide:2<2^2) (Nat.pow_le_pow_right (by decide) (by decide));obtain⟨m0,m3,mz,mb⟩:=hm (decide (V.int p=V.int 0));refine⟨_,rfl,rfl,.inr ⟨_,rfl,_,_,rfl,rfl,⟨b2,mb⟩,?_⟩⟩;refine⟨r,O,p,1+z,_,os,rfl,R5,hp,n1,by omega,UG,OO,KL,m0,m3,λG6 Bq ys Hy hB eB hy Wy yl y0 R6 JA=>?_⟩;have YC:=YB.but R5 JA;have UH:Bq≠r:=hU R5 hB;have YD:=JA _ _ UG KL;have YE:=JA _ _ eA M8;have Oj:=hx.but R5 JA;have up:Hy≠[]->p=0:=λh=>Classical.byContradiction λHQ=>h (y0 (mz (decide_eq_false λe=>HQ (by injection e))));clear y0 m0 m3 mz mb b2 hm hA hB YB YA UE Jh Jx JA R3 R4 R5 eO UG eA hx hO x0;dsimp only[bA];refine AH (a:=xc _ _ _) (λσ' H'=>∃(A:Addr)(xs:List V)(Hk:List (List Tm)),σ'=[some (.ref a),some (.int (0+(i:Int))),some (.ref r),some (.int p),some (.int (1+z)),some (.ref O),some (.ref A),some (.ref Bq),o8,o9,M4,M5,M6,M7]/\aR H' r/\zf K H' a ns/\H' O=some (.lst (os.map V.int))/\A≠r/\H' A=some (.lst xs)/\dF H' xs Hk/\Wt p (1+z) Hk/\Hk.length<=9/\H' Bq=some (.lst ys)/\dF H' ys Hy) (λD' hD=>?_) (λσ' G7 hR=>?_)
   ·obtain⟨l6,x6,Ot,c0,c1⟩:=R6;refine⟨_,rfl,r,l6,x6,4,rfl,Ot,c0,c1,by decide,by decide,λz7 l7 r7 z0 z1 g0 g1=>?_⟩;have R6:aR G6 r:=⟨l6,x6,Ot,c0,c1⟩;have Mi:SameBut r G6 (upd G6 r (.lst [.int l7,.int r7])):=SameBut.upd;have R7:aR (upd G6 r (.lst [.int l7,.int r7])) r:=⟨l7,r7,ae,g0,g1⟩;generalize upd G6 r (.lst [.int l7,.int r7])=G7 at Mi R7 |-;have Mj:=Mi _ _ YE M8;have Ml:=Oj.but R6 Mi;have M9:=Mi _ _ eB UH;have Na:=hy.but R6 Mi;have OG:=Mi _ _ YD KL;have OH:=YC.but R6 Mi;refine⟨rfl,_,rfl,?_⟩;generalize decide (V.int z7=V.int 0)=c
    cases c with
    |false=>exact a9 (hD _ _ ⟨A,xs,Hk,rfl,R7,OH,OG,M8,Mj,Ml,Wx,by omega,M9,Na⟩)
    |true =>
     refine aZ ?_;refine⟨_,rfl,_,rfl,1,rfl,A,xs,rfl,aO.of Mj,λp1 J8=>?_⟩;have ec:gh xs none (some 1)=xs.take 1:=jl xs 1;rw[ec];have s8:=ai (o:=.lst (xs.take 1)) J8;have e8:upd G7 p1 (.lst (xs.take 1)) p1=some (.lst (xs.take 1)):=ae;generalize upd G7 p1 _=G8 at s8 e8 |-;have xl':=Ml.length;refine⟨A,p1,_,_,rfl,rfl,s8 _ _ Mj,e8,Nat.le_trans (by rw[List.length_take];omega:_<=64) (by decide),λp3 G9 h3 s9 e9=>?_⟩;have Nb:=s8.trans s9;have R9:=R7.same Nb;have RX:=Ml.same Nb;refine hD _ _ ⟨p3,xs++xs.take 1,Hk++Hk.take 1,rfl,R9,OH.same Nb,Nb _ _ OG,hU (R7.same s8) h3,e9,ig RX (Paired.aby RX 1),λt ht=>?_,?_,Nb _ _ M9,Na.same Nb⟩
     ·rcases List.mem_append.mp ht with h|h
      ·exact Wx t h
      ·exact Wx t (List.mem_of_mem_take h)
     ·rw[List.length_append,List.length_take];omega
   ·obtain⟨A,xs,Hk,rfl,R7,OH,OG,M8,Mj,Ml,Wx,tl,M9,Na⟩:=hR;clear R6 YC YD YE Oj eB hy xl;have w1:Ws p (1+z) Hk:=λt ht=>(Wx t ht).1.mono (by decide) (by decide);have w2:Ws p (1+z) Hy:=λt ht=>(Wy t ht).1.mono (by decide) (by decide)
    have lv:jD [r] G7:=λc hc=>by
     obtain⟨l,x,e,_⟩:=R7;rw[List.mem_singleton.mp hc];exact⟨_,e,λxs z=>nomatch z⟩
    refine⟨_,rfl,_,rfl,_,rfl,_,rfl,[r],A,Bq,p,1+z,xs,ys,Hk,Hy,rfl,lv,hp,n1,by omega,Mj,Ml,M9,Na,w1,w2,by omega,by omega,up,λG8 sy fl as bs s8 hY UI UJ=>?_⟩;have sb8:SameBut r G7 G8:=SameBut.of s8;have R8:=R7.same s8;have YF:=OH.same s8;have eO8:=s8 _ _ OG;have UK:=s8 _ _ Mj;have UL:=Ml.same s8;have UM:=s8 _ _ M9;have UN:=Na.same s8;clear sb8 s8 lv R7 OH OG Mj Ml M9 Na;have t1:∀t∈Hk,bo t=t:=λt ht=>(Wx t ht).2;have t2:∀t∈Hy,bo t=t:=λt ht=>(Wy t ht).2;refine⟨6,rfl,by decide,by decide,?_⟩;refine dZ (lo:=0) (n:=6) (λj σ H'=>(∃o9 M4 M5 M6 M7,σ=[some (.ref a),some (.int (0+(i:Int))),some (.ref r),some (.int p),some (.int (1+z)),some (.ref O),some (.ref A),some (.ref Bq),some (.ref sy),o9,M4,M5,M6,M7])/\aR H' r/\SameBut r G8 H') ⟨⟨_,_,_,_,_,rfl⟩,R8,λb u e _=>e⟩ ?_ ?_
    ·rintro j σ H9 hj ⟨⟨p9,p10,p11,p12,p13,rfl⟩,R9,Ji⟩;have YG:=Ji _ _ eO8 KL;refine⟨_,rfl,_,rfl,_,rfl,r,1+z,rfl,R9,n1,by omega,λHA D ds hD eD OD RA UO=>?_⟩;have Jy:D≠r:=hU R9 hD;have UP:=UO _ _ YG KL;refine⟨_,rfl,_,rfl,r,O,1+z,os,rfl,RA,n1,by omega,UP,OO,KL,λHB x o d tx RB RY=>?_⟩;refine⟨aaa,λL hL=>?_⟩;have sC:=ai (o:=.lst [.ref O,.ref D,x]) hL;have eL:upd HB L (.lst [.ref O,.ref D,x]) L=some (.lst [.ref O,.ref D,x]):=ae;have RC:=RB.same sC;have YH:=sC _ _ (RY _ _ UP KL);have UQ:=sC _ _ (RY _ _ eD Jy);have tx:=tx.same sC;have Mm:SameBut r G8 (upd HB L (.lst [.ref O,.ref D,x])):=((Ji.trans UO).trans RY).trans (SameBut.of sC);generalize upd HB L _=HC at eL RC YH UQ tx Mm |-;clear sC hL RY UO RA RB UP YG eD hD R9 Ji
     have all:∀{ks:List Int},B7 ks (1+z)->Paired (El HC) (ks.map V.int) (ks.map PyData.int):=λ{ks} h=>iu HC λk hk=>by
      have:=h.pl k hk;omega
     have few:∀{ks:List Int},B7 ks (1+z)->(ks.map V.int).length<64:=λ{ks} h=>by
      rw[List.length_map];have:=h.len;omega
     obtain⟨v,o,d,hv,tv⟩:∃v o d,ng [V.ref O,V.ref D,x] ((0+(j:Int))%3)=some v/\Tg HC v o d:=by
      have zz:(0+(j:Int))%3=0\/(0+(j:Int))%3=1\/(0+(j:Int))%3=2:=by omega
      rcases zz with e|e|e <;> rw[e]
      ·exact⟨_,_,_,rfl,hJ YH (all OO) (few OO)⟩
      ·exact⟨_,_,_,rfl,hJ UQ (all OD) (few OD)⟩
      ·exact⟨_,_,_,rfl,tx⟩
     refine⟨_,rfl,_,_,rfl,rfl,(by show(0:Int)<3;decide),L,_,_,v,rfl,rfl,aO.of eL,hv,?_⟩;clear tx hv eL UQ OD;have d8:=w6 Mm;have OI:=(hY.same d8).same bQ;have Mn:=(UI.same d8).same bQ;have Mo:=(UJ.same d8).same bQ;refine⟨_,rfl,v,d,rfl,tv.rd _,tv.sh,tv.dp,tv.sz,?_⟩;refine⟨_,rfl,_,rfl,sy,fl,p,1+z,as,bs,Hk,Hy,v,o,rfl,OI,hp,n1,by omega,tv.lx,tv.few,Mn,Mo,w1,w2,by omega,by omega,up,λHD b s4 hb=>?_⟩;have US:=tv.same s4;refine⟨_,rfl,_,rfl,_,rfl,_,rfl,_,rfl,p,1+z,A,Bq,xs,ys,Hk,Hy,v,o,rfl,hp,n1,by omega,US.lx,US.few,s4 _ _ (Mm _ _ UK M8),(UL.but R8 Mm).same s4,s4 _ _ (Mm _ _ UM UH),(UN.but R8 Mm).same s4,w1,w2,by omega,by omega,λHE c s5 hc=>?_⟩
     have ebc:b=c:=by
      rw[vA t1 t2,<-hc] at hb;exact Bool.eq_iff_iff.mpr hb
     subst ebc;have RZ:=US.same s5
     have Xh:(!decide (V.bl b=V.bl b))=false:=by simp
     have n2':(!decide (V.str d.shown=V.str d.shown))=false:=by simp
     refine⟨_,rfl,.bl b,.ty "bool",_,_,_,rfl,rfl,.of (.bl b),rfl,_,rfl,a9 ?_⟩;refine⟨_,rfl,_,rfl,rfl,_,rfl,?_⟩;rw[Xh];refine a9 ?_;refine⟨_,rfl,v,d,rfl,RZ.rd _,RZ.sh,RZ.dp,RZ.sz,_,rfl,rfl,_,rfl,?_⟩;rw[n2'];refine a9 ?_;exact⟨⟨_,_,_,_,_,rfl⟩,RC.same (s4.trans s5),Mm.trans (SameBut.of (s4.trans s5))⟩
    ·rintro σ H9 ⟨⟨p9,p10,p11,p12,p13,rfl⟩,R9,Ji⟩;have d9:=w6 Ji;have sc9:=YF.but R8 Ji;have eA9:=Ji _ _ UK M8;have RX:=UL.but R8 Ji;have eB9:=Ji _ _ UM UH;have hy9:=UN.but R8 Ji;have OI:=(hY.same d9).same bQ;have Mn:=(UI.same d9).same bQ;have Mo:=(UJ.same d9).same bQ;clear d9 Ji UK UL UM UN YF hY UI UJ;obtain⟨JF,Hs,AA,BB,y1,y2,y3,y4⟩:=OI.ex;refine⟨_,rfl,sy,JF,_,rfl,y1,rfl,sy,fl,p,1+z,as,bs,rfl,OI,λL hL=>?_⟩;have sA:=ai (o:=.lst (as.map V.ref)) hL;have eL:upd H9 L (.lst (as.map V.ref)) L=some (.lst (as.map V.ref)):=ae;generalize upd H9 L _=HA at sA eL |-;refine⟨L,rfl,⟨_,aO.of eL⟩,?_⟩;refine lN eL (Mn.same sA) (by omega) t1 λHB us sB hus M hM=>?_;have sM:=ai (o:=.lst us) hM;have eM:upd HB M (.lst us) M=some (.lst us):=ae;generalize upd HB M _=HC at sM eM |-;have Nc:=sA.trans (sB.trans sM);refine⟨_,rfl,_,_,j9 eM (hus.same sM),j9 (Nc _ _ eA9) (RX.same Nc),wG _,_,rfl,?_⟩;rw[cq];refine a9 ?_;have UT:=OI.same Nc;refine⟨_,rfl,sy,JF,_,rfl,Nc _ _ y1,rfl,sy,fl,p,1+z,as,bs,rfl,UT,λL2 NP=>?_⟩;have sD:=ai (o:=.lst (bs.map V.ref)) NP;have M0:upd HC L2 (.lst (bs.map V.ref)) L2=some (.lst (bs.map V.ref)):=ae;generalize upd HC L2 _=HD at sD M0 |-;refine⟨L2,rfl,⟨_,aO.of M0⟩,?_⟩;refine lN M0 (Mo.same (Nc.trans sD)) (by omega) t2 λHE UU sE UX M2 hM2=>?_;have UY:=ai (o:=.lst UU) hM2;have YI:upd HE M2 (.lst UU) M2=some (.lst UU):=ae;generalize upd HE M2 _=HF at UY YI |-;have UZ:=Nc.trans (sD.trans (sE.trans UY));refine⟨_,rfl,_,_,j9 YI (UX.same UY),j9 (UZ _ _ eB9) (hy9.same UZ),wG _,_,rfl,?_⟩;rw[cq];exact a9 ⟨⟨_,_,_,_,_,_,_,_,_,_,_,_,_,rfl⟩,sc9.same UZ⟩
  ·rintro σ G0 ⟨⟨o1,o2,o3,o4,o5,o6,o7,o8,o9,M4,M5,M6,M7,rfl⟩,_⟩;exact fin G0
end K66
namespace Hd
open PySem PySem.W PyProof.Rows
def qS (K:Frag)(x qual:Str)(st:Stmt)(f:Addr):Prop:=∃(oc:Value)(od:Cw)(kV doc pm:Value)(an:Cw)(Hn ct:Value)(HG:Ei),
 K.lookup f=some ⟨oc,od,.func (fnOf x qual (L2.cM st) (L2.b9 st) (L2.ak st) .none kV doc pm an Hn ct),HG⟩/\codeIn K Hn qual=true/\keepIn K (.ref f)=true
variable {K:Frag}{x qual:Str}{st:Stmt}
theorem rS {v:Option (Option Value)}(h:aQ K v=c6 x qual st)(b:cU K v qual=true):v=some (some (.ref (cB v)))/\qS K x qual st (cB v):=by
 unfold aQ at h;obtain⟨fd,e,s⟩:=Option.map_eq_some_iff.mp (show(qD K v).map Bs=some _ from h);unfold cU at b;rw[e] at b;rw[Bool.and_eq_true] at b;unfold qD at e
 split at e
 ·rename_i f
  split at e
  ·rename_i oc od fd' HG hl
   cases e
   refine⟨rfl,oc,od,fd.kwdefaults,fd.doc,fd.pyModule,fd.annotations,fd.code,fd.closureTuple,HG,?_,b.2,b.1⟩;show K.lookup f=_;rw[hl];obtain⟨n,q,p,bd,sc,g,c,dv,kv,dc,pm,an,cd,ct,bl⟩:=fd;unfold Bs at s;simp only[Prod.mk.injEq] at s;obtain⟨rfl,rfl,rfl,rfl,rfl,rfl,rfl,rfl,rfl⟩:=s;rfl
  ·cases e
 ·cases e
variable {f:Addr}
theorem qS.fn (d:qS K x qual st f):∃fd,L2.zA K x qual st f fd:=by
 obtain⟨oc,od,kV,doc,pm,an,Hn,ct,HG,l,c,k⟩:=d;exact⟨_,L2.BV l c k⟩
theorem qS.keep (d:qS K x qual st f):keepIn K (.ref f)=true:=by
 obtain⟨oc,od,kV,doc,pm,an,Hn,ct,HG,l,c,k⟩:=d;exact k
def xu (K:Frag)(x qual:Str)(st:Stmt)(f T:Addr):Prop:=∃(oc:Value)(od:Cw)(kV doc pm:Value)(an:Cw)(Hn ct:Value)(HG:Ei),
 K.lookup f=some ⟨oc,od,.func (fnOf x qual (L2.cM st) (L2.b9 st) (L2.ak st) (.ref T) kV doc pm an Hn ct),HG⟩/\codeIn K Hn qual=true/\keepIn K (.ref f)=true
theorem ka {v:Option (Option Value)}(h:iR K v=c6 x qual st)(b:cU K v qual=true)(d:rl K v=true):v=some (some (.ref (cB v)))/\xu K x qual st (cB v) (oS K v):=by
 unfold iR at h;obtain⟨fd,e,s⟩:=Option.map_eq_some_iff.mp (show(qD K v).map (λfd=>Bs {fd with defaults:=.none})=some _ from h)
 have hd:fd.defaults=.ref (oS K v):=by
  unfold rl E7 at d;unfold oS E7;rw[e] at d |-;dsimp only at d |-
  cases q:fd.defaults with
  |ref a=>rfl
  |_=>rw[q] at d;cases d
 unfold cU at b;rw[e] at b;rw[Bool.and_eq_true] at b;generalize oS K v=T at hd;unfold qD at e
 split at e
 ·rename_i f
  split at e
  ·rename_i oc od fd' HG hl
   cases e
   refine⟨rfl,oc,od,fd.kwdefaults,fd.doc,fd.pyModule,fd.annotations,fd.code,fd.closureTuple,HG,?_,b.2,b.1⟩;show K.lookup f=_;rw[hl];obtain⟨n,q,p,bd,sc,g,c,dv,kv,dc,pm,an,cd,ct,bl⟩:=fd;unfold Bs at s;simp only[Prod.mk.injEq] at s;have hd:dv=.ref T:=hd;subst hd;obtain⟨rfl,rfl,rfl,rfl,rfl,rfl,rfl,_,rfl⟩:=s;rfl
  ·cases e
 ·cases e
theorem xu.fn {T:Addr}(d:xu K x qual st f T):∃fd,L2.Fg K x qual st f fd T:=by
 obtain⟨oc,od,kV,doc,pm,an,Hn,ct,HG,l,c,k⟩:=d;exact⟨_,L2.Br l c k⟩
theorem xu.keep {T:Addr}(d:xu K x qual st f T):keepIn K (.ref f)=true:=by
 obtain⟨oc,od,kV,doc,pm,an,Hn,ct,HG,l,c,k⟩:=d;exact k
theorem qZ:∀{vs:oN}{ns:List Int},t6 vs ns=true->L2.aK (ns.map L2.V.int) vs
 |[],[],_=>.nil
 |v::vs,n::ns,h=>by
  unfold t6 at h;rw[Bool.and_eq_true] at h;obtain⟨t,rfl⟩:=kA h.1;exact .cons ⟨t,rfl⟩ (qZ h.2)
 |[],_::_,h=>by cases h
 |_::_,[],h=>by cases h
theorem tH {a:Addr}{ns:List Int}(h:yS K a ns=true)(H:L2.Hp):L2.bw K H a (ns.map L2.V.int):=by
 unfold yS at h
 split at h
 ·rename_i o ho
  rw[Bool.and_eq_true] at h;obtain⟨h1,h2⟩:=h
  split at h1
  ·rename_i T hT
   split at h2
   ·rename_i its n hd
    rw[Bool.and_eq_true] at h2
    have:T="tuple":=by simpa using h1
    subst this;exact .inr ⟨o,its,n,ho,hT,hd,of_decide_eq_true h2.2,qZ h2.1⟩
   ·cases h2
  ·cases h1
 ·cases h
theorem uu (h:zh K=true):L2.rA K:=by
 unfold zh at h
 split at h
 ·rename_i o ho
  split at h
  ·rename_i T hT
   have:T="dict":=by simpa using h
   subst this;exact⟨o,ho,hT⟩
  ·cases h
 ·cases h
open L2 in
theorem vL {l:OpenLaw}{n k:Nat}{q:zr}{loose:Bg}{XP:(Str->Option Value)->Heap->Prop}{YP:World->Heap->Prop}{d:DefRec}{CX:World->CH}{sp:Frag->Sp}{x:Str}{φ:Frag->Prop}{tabs:Frag->List (Addr×Addr)}
 (hn:l.most=some n)(Ra:n<=sizeLine)(Nw:d.params.defaults=[])(hr:qL k callerA)
 (hY:∀(w:World)(h:Heap),YP w h->∃K:Frag,φ K/\K.In h)
 (hT:∀(w:World)(s₀:CW)(mg mb:vK)(h:Heap)(K:Frag),φ K->Ground q loose [] XP w s₀ mg mb h->K.In h->TabsAt (tabs K) h/\∀r∈tabs K,K.lookup r.2=none)
 (F:∀(w:World)(K:Frag)(mg:vK)(fa:Addr)(h:Heap),φ K->K.In h->h.Ns mainGlobals mg->mg d.name=some (.ref fa) →
  ∃fd:FuncData,(∀(s:CW)(u:Value),BindsTo s fd ⟨[u],[]⟩ [(x,u)])/\∀base:Heap,K.In base->base.Ns mainGlobals mg->Ag (tabs K) mg base->Ha l.prog w K mg base (CX w) k fa fd [x] (sp K))
 (JK:∀(K:Frag)(H:Hp)(a:Addr)(ns:List Int),ns.length<=n->xM (tabs K) H->aO K H a (ns.map V.int)->sp K [.ref a] H (λv _=>v=.bl true) λ_ _ _=>False)
 (SG:∀(w:World)(H:Hp)(s:CW)(e:Value)(s':CW),CX w [] H s (λ_ _ _=>False) e s'->False):
 WalkO q loose XP YP l.row.toRowW d [] (λf vs=>PySem.call f vs):=by
 refine W6.p6 hn Nw λw s₀ s₁ mg mb fa o pm cd doc a vs ns G Y ho hd Ia Sw LL hints hlen hg=>?_;obtain⟨K,hφ,KX⟩:=hY w _ Y;obtain⟨fd,hb,hF⟩:=F w K mg fa _ hφ KX G.T.g Sw;obtain⟨t1,t2⟩:=hT w s₀ mg mb _ K hφ G KX;exact vE KX G.T.g G.T.b G.T.builtins G.T.nolimit hg LL hints (Nat.le_trans hlen Ra) hr t1 t2 G.T.bmain hF hb (λH hO hS=>JK K H a ns hlen hO hS) λH e s'=>SG w H s₁ e s'
open L2
theorem zO (l:oN):Bi l=iT l:=by
 induction l with
 |nil=>rfl
 |cons v r ih =>
  cases v with
  |ref a=>exact ih
  |_=>rfl
theorem yb {α:Type}{o:Option α}{p:α->Bool}(h:o.any p=true):∃v,o=some v/\p v=true:=by
 cases o with
 |none=>cases h
 |some v=>exact⟨v,rfl,h⟩
section
variable {P:zr}{w:World}{K:Frag}{mg:vK}{base:Heap}{x:Str}{C f:Addr}{fd:zI}{ps:Bg}{sp:Sp}
theorem u5 (h:ym K C f A4 zW "ValueError.__new__"=true)(k:Fx K C)(sa:findIn K (.ref C) "__setattr__"=some (some (.builtin "object.__setattr__"))):Fs K C:=by
 simp only[ym,Bool.and_eq_true] at h;refine⟨k,?_,sa⟩;obtain⟨cd,e,q⟩:=yb h.2.1;rw[e];rw[zO] at q;exact q
theorem Ej (hm:mg x=some (.ref C))(h:ym K C f A4 zW "ValueError.__new__"=true)(k:Fx K C)(sa:findIn K (.ref C) "__setattr__"=some (some (.builtin "object.__setattr__")))(F:Ha P w K mg base (aV P w) 1 f fd ps sp)(b:L2.aA K fd ps []):IK P w K mg base x C ps sp:=by
 have s:=u5 h k sa;simp only[ym,Bool.and_eq_true] at h;obtain⟨h0,_,h4,h5,h6⟩:=h;obtain⟨oC,e1,e2⟩:=yb h4;obtain⟨oI,e3,e4⟩:=yb h5;exact⟨hm,h0,s,k,⟨oC,e1,eq_of_beq e2⟩,⟨f,fd,oI,_,_,_,_,_,_,PySem.F.excBase_ValueError,by decide +kernel,rG,h6,e3,eq_of_beq e4,F,b⟩⟩
end
end Hd
namespace K66
open PySem L2 PySem.W Nm
open Hd (gv ga fv cB gL cX cV aX i9 cp qm fH cU aQ iR c6 rl oS rL i8 vi j4 F5 kA sQ ja yS zh rS ka tH uu)
section
variable {α:Type}{M:List α->Prop}
theorem AV (h:∀a,M [a]):∀us:List α,us.length=1->M us
 |[a],_=>h a
theorem vH (h:∀a b,M [a,b]):∀us:List α,us.length=2->M us
 |[a,b],_=>h a b
theorem pC (h:∀a b c,M [a,b,c]):∀us:List α,us.length=3->M us
 |[a,b,c],_=>h a b c
theorem DH (h:∀a b c d,M [a,b,c,d]):∀us:List α,us.length=4->M us
 |[a,b,c,d],_=>h a b c d
theorem Cc (h:∀a b c d e,M [a,b,c,d,e]):∀us:List α,us.length=5->M us
 |[a,b,c,d,e],_=>h a b c d e
end
section
variable {K:Frag}{f T:Addr}{fd:zI}{oT:Obj}{t:Tok}{n:Nat}
theorem DT (F:Fg K "__init__" "Field.__init__" y6 f fd T)(lT:K.lookup T=some oT)(dT:oT.data=.seq #[.int 0 t] n):L2.aA K fd zx []:=by
 obtain⟨oc,od,kV,doc,pm,an,Hn,ct,HG,rfl,lk,Ia⟩:=F.ex;intro s us KX hl
 cases us with
 |nil=>simp at hl
 |cons a0 r1 =>
  cases r1 with
  |nil=>simp at hl
  |cons a1 r2 =>
   cases r2 with
   |nil=>exact binds_K KX rfl lT dT rfl rfl
   |cons a r=>simp at hl
theorem Dj (F:Fg K "__init__" "Sum.__init__" oK f fd T)(lT:K.lookup T=some oT)(dT:oT.data=.seq #[.none] n):L2.aA K fd we []:=by
 obtain⟨oc,od,kV,doc,pm,an,Hn,ct,HG,rfl,lk,Ia⟩:=F.ex;intro s us KX hl
 cases us with
 |nil=>simp at hl
 |cons a0 r1 =>
  cases r1 with
  |nil=>simp at hl
  |cons a1 r2 =>
   cases r2 with
   |nil=>simp at hl
   |cons a2 r3 =>
    cases r3 with
    |nil=>exact binds_K KX rfl lT dT rfl rfl
    |cons a r=>simp at hl
theorem AB (F:Fg K "__init__" "Sum.__init__" oK f fd T)(lT:K.lookup T=some oT)(dT:oT.data=.seq #[.none] n):L2.aA K fd we [.none]:=by
 obtain⟨oc,od,kV,doc,pm,an,Hn,ct,HG,rfl,lk,Ia⟩:=F.ex;intro s us KX hl
 cases us with
 |nil=>simp at hl
 |cons a0 r1 =>
  cases r1 with
  |nil=>simp at hl
  |cons a1 r2 =>
   cases r2 with
   |nil=>exact binds_K KX rfl lT dT rfl rfl
   |cons a r=>simp at hl
theorem CQ (F:Fg K "__init__" "System.__init__" E4 f fd T)(lT:K.lookup T=some oT)(dT:oT.data=.seq #[.none] n):L2.aA K fd DL []:=by
 obtain⟨oc,od,kV,doc,pm,an,Hn,ct,HG,rfl,lk,Ia⟩:=F.ex;intro s us KX hl
 cases us with
 |nil=>simp at hl
 |cons a0 r1 =>
  cases r1 with
  |nil=>simp at hl
  |cons a1 r2 =>
   cases r2 with
   |nil=>simp at hl
   |cons a2 r3 =>
    cases r3 with
    |nil=>simp at hl
    |cons a3 r4 =>
     cases r4 with
     |nil=>simp at hl
     |cons a4 r5 =>
      cases r5 with
      |nil=>exact binds_K KX rfl lT dT rfl rfl
      |cons a r=>simp at hl
theorem AG (F:Fg K "__init__" "System.__init__" E4 f fd T)(lT:K.lookup T=some oT)(dT:oT.data=.seq #[.none] n):L2.aA K fd DL [.none]:=by
 obtain⟨oc,od,kV,doc,pm,an,Hn,ct,HG,rfl,lk,Ia⟩:=F.ex;intro s us KX hl
 cases us with
 |nil=>simp at hl
 |cons a0 r1 =>
  cases r1 with
  |nil=>simp at hl
  |cons a1 r2 =>
   cases r2 with
   |nil=>simp at hl
   |cons a2 r3 =>
    cases r3 with
    |nil=>simp at hl
    |cons a3 r4 =>
     cases r4 with
     |nil=>exact binds_K KX rfl lT dT rfl rfl
     |cons a r=>simp at hl
end
section
variable {K:Frag}{x qual n:Str}{st:Stmt}{ps:Bg}
theorem gy {mg:vK}{h:Heap}(X:K.In h)(G:h.Ns mainGlobals mg)(s:aQ K (gv K n)=c6 x qual st)(b:cU K (gv K n) qual=true)(hb:∀(kV doc pm:Value)(an:Cw)(Hn ct:Value)(us:oN),us.length=ps.length->bindArgs (PySem.W.fnOf x qual (cM st) (b9 st) (ak st) .none kV doc pm an Hn ct) ⟨us,[]⟩=pure (ps.zip us)):∃fd,zA K x qual st (ga K n) fd/\L2.aA K fd ps []/\mg n=some (.ref (ga K n))/\keepIn K (.ref (ga K n))=true:=by
 obtain⟨e,d⟩:=rS s b;obtain⟨fd,F⟩:=d.fn;exact⟨fd,F,F.binds hb,mg_of X G e,d.keep⟩
theorem ud {c:Str}(s:aQ K (fv K c n)=c6 x qual st)(b:cU K (fv K c n) qual=true)(i:isFn K (.ref (cB (fv K c n)))=true)(hb:∀(kV doc pm:Value)(an:Cw)(Hn ct:Value)(us:oN),us.length=ps.length->bindArgs (PySem.W.fnOf x qual (cM st) (b9 st) (ak st) .none kV doc pm an Hn ct) ⟨us,[]⟩=pure (ps.zip us)):∃fd,zA K x qual st (cB (fv K c n)) fd/\L2.aA K fd ps []/\L2.Meth K (ga K c) n (cB (fv K c n))/\findIn K (.ref (ga K c)) n=some (some (.ref (cB (fv K c n))))/\isFn K (.ref (cB (fv K c n)))=true:=by
 obtain⟨e,d⟩:=rS s b;obtain⟨fd,F⟩:=d.fn;exact⟨fd,F,F.binds hb,⟨e,i,d.keep⟩,e,i⟩
end
def xN (_:World)(h:Heap):Prop:=∃K:Frag,su K=wa/\K.In h
theorem zU (w:World)(s:CW)(e:su (Hd.u6 rP s.heap)=wa):xN w s.heap:=⟨_,e,Hd.pA _ _⟩
theorem r8 (w:World)(h h':Heap)(y:xN w h)(k:∀(b:Addr)(o:Obj),h.get? b=some o->h'.get? b=some o):xN w h':=let⟨K,e,i⟩:=y;⟨K,e,λa o q=>k a o (i a o q)⟩
set_option maxHeartbeats 0 in
theorem sv {l:OpenLaw}{w:World}{K:Frag}{mg:vK}{h:Heap}{fa:Addr}(o:su K=wa)(X:K.In h)(G:h.Ns mainGlobals mg)(hfa:mg "law"=some (.ref fa)):
 ∃fd:FuncData,(∀(s:CW)(v:Value),BindsTo s fd ⟨[v],[]⟩ [("_law_script",v)])/\∀base:Heap,K.In base->base.Ns mainGlobals mg->Ag [] mg base->Ha l.prog w K mg base (aV l.prog w) 12 fa fd ["_law_script"] (yK K):=by
 obtain⟨o1,o2⟩:=Prod.mk.inj (show(rT K,_)=(true,_) from o);simp only[List.cons.injEq,and_true] at o2;obtain⟨s0,s1,s2,s3,s4,s5,s6,s7,s8,s9,Ou,Uo,IU,IE,KH,Le,s16,RD,s18,s19,s20,s21,s22,s23,s24,s25,s26,s27,s28,s29,s30,s31,s32,s33,s34,s35,s36,s37,RW,s39,s40,s41,s42,s43,s44,s45,Ld,s47,s48,s49,s50,s51,s52⟩:=o2;unfold rT at o1;simp only[Bool.and_eq_true] at o1;obtain⟨g0,g1,g2,g3,g4,g5,g6,g7,g8,g9⟩:=o1;unfold GL at g0;simp only[Bool.and_eq_true] at g0;obtain⟨h0,h1,h2,h3,h4,h5,h6,h7,h8,h9,h10,h11,h12,h13,h14,h15⟩:=g0;unfold GH at g1;simp only[Bool.and_eq_true] at g1;obtain⟨h16,h17,h18,h19,h20,h21,h22,h23,h24,h25,h26,h27,h28,h29,h30,h31⟩:=g1;unfold GO at g2;simp only[Bool.and_eq_true] at g2;obtain⟨h32,h33,h34,h35,h36,h37,h38,h39,h40,h41,h42,h43,h44,h45,h46,h47⟩:=g2;unfold GQ at g3;simp only[Bool.and_eq_true] at g3;obtain⟨h48,h49,h50,h51,h52,h53,h54,h55,h56,h57,h58,h59,h60,h61,h62,h63⟩:=g3;unfold GE at g4;simp only[Bool.and_eq_true] at g4;obtain⟨h64,h65,h66,h67,h68,h69,h70,h71,h72,h73,h74,h75,h76,h77,h78,h79⟩:=g4;unfold GN at g5;simp only[Bool.and_eq_true] at g5;obtain⟨h80,h81,h82,h83,h84,h85,h86,h87,h88,h89,h90,h91,h92,h93,h94,h95⟩:=g5;unfold GV at g6;simp only[Bool.and_eq_true] at g6;obtain⟨h96,h97,h98,h99,h100,h101,h102,h103,h104,h105,h106,h107,h108,h109,h110,h111⟩:=g6;unfold GI at g7;simp only[Bool.and_eq_true] at g7;obtain⟨h112,h113,h114,h115,h116,h117,h118,h119,h120,h121,h122,h123,h124,h125,h126,h127⟩:=g7;unfold Gx at g8;simp only[Bool.and_eq_true] at g8;obtain⟨h128,h129,h130,h131,h132,h133,h134,h135,h136,h137,h138,h139,h140,h141,h142,h143⟩:=g8;unfold GR at g9;simp only[Bool.and_eq_true] at g9;obtain⟨h144,h145,h146,h147,h148,h149,h150,h151⟩:=g9;have m:=λ{n:Str}{v:Value}(e:nsIn K mainGlobals n=some (some v))=>mg_of X G e;have m0:=λ{n:Str}(e:nsIn K mainGlobals n=some none)=>mg_none_of X G e;have Hg:=m0 (aX h0);have Ij:=m0 (aX h1);have HN:=m0 (aX h2);have IZ:=m0 (aX h3);have Hr:=m0 (aX h4);have Ho:=m0 (aX h5);have Ig:=m0 (aX h6);have JU:=m0 (aX h7);have Hm:=m0 (aX h8);have Hv:=m0 (aX h9);have Hi:=m0 (aX h10);have ID:=m0 (aX h11);have Ka:=m0 (aX h12);have Hl:=m0 (aX h13);have J5:=m0 (aX h14);have IM:=m0 (aX h15);have OJ:=m (cX h16);have KN:=m (cX h17);have Kc:=m (cX h18);have JI:=m (cX h19);have Jq:=m (cX h20);have JJ:=m (cX h21);have Ke:=m (cX h22);obtain⟨Lf,Jg⟩:=ja h23;have HH:=m Jg;obtain⟨Kr,Iw⟩:=ja h24;have HM:=m Iw;obtain⟨Ks,Iy⟩:=ja h25;have Iz:=m Iy;obtain⟨YJ,U1,KO,JB,KP⟩:=gy X G (ps:=["thing"]) s0 h26 λ_ _ _ _ _ _=>AV λ_=>rfl;obtain⟨YK,U2,OK,Lg,OL⟩:=gy X G (ps:=["thing"]) s1 h27 λ_ _ _ _ _ _=>AV λ_=>rfl;obtain⟨YL,U3,U4,OM,U5⟩:=gy X G (ps:=["thing"]) s2 h28 λ_ _ _ _ _ _=>AV λ_=>rfl;obtain⟨YM,U6,U7,ON,U8⟩:=gy X G (ps:=["field","thing"]) s3 h29 λ_ _ _ _ _ _=>vH λ_ _=>rfl;obtain⟨YN,U9,Va,OP,Vb⟩:=gy X G (ps:=["field","terms"]) s4 h30 λ_ _ _ _ _ _=>vH λ_ _=>rfl;obtain⟨YO,Vc,Vd,OQ,acU⟩:=gy X G (ps:=["term"]) s5 h31 λ_ _ _ _ _ _=>AV λ_=>rfl;obtain⟨YQ,Ve,OR,Lh,OS⟩:=gy X G (ps:=["field","terms"]) s6 h32 λ_ _ _ _ _ _=>vH λ_ _=>rfl;obtain⟨YR,Vf,OT,Li,OU⟩:=gy X G (ps:=["one","other"]) s7 h33 λ_ _ _ _ _ _=>vH λ_ _=>rfl;obtain⟨YS,Vg,Vh,OV,Vi⟩:=gy X G (ps:=["top","bottom"]) s8 h34 λ_ _ _ _ _ _=>vH λ_ _=>rfl;obtain⟨YT,Vj,Vk,OW,Vl⟩:=gy X G (ps:=["field","places","thing"]) s9 h35 λ_ _ _ _ _ _=>pC λ_ _ _=>rfl;obtain⟨Vm,OX,Lj,Kf,Lk⟩:=gy X G (ps:=["field","places","part","wishes"]) Ou h36 λ_ _ _ _ _ _=>DH λ_ _ _ _=>rfl;obtain⟨Vn,OY,OZ,Mp,O0⟩:=gy X G (ps:=["field","places","uppers"]) Uo h37 λ_ _ _ _ _ _=>pC λ_ _ _=>rfl;obtain⟨Vo,O1,Kg,Jr,Kh⟩:=gy X G (ps:=["thing"]) IU h38 λ_ _ _ _ _ _=>AV λ_=>rfl;obtain⟨Vp,O2,O3,Mq,O4⟩:=gy X G (ps:=["field","terms"]) IE h39 λ_ _ _ _ _ _=>vH λ_ _=>rfl;obtain⟨Vq,O5,O6,Mr,O7⟩:=gy X G (ps:=["wishes"]) KH h40 λ_ _ _ _ _ _=>AV λ_=>rfl;obtain⟨Vr,O8,O9,Ms,Pa⟩:=gy X G (ps:=["system","thing"]) Le h41 λ_ _ _ _ _ _=>vH λ_ _=>rfl;obtain⟨Vs,Pb,Pc,Mt,Pd⟩:=gy X G (ps:=["_law_script","_law_k"]) s16 h42 λ_ _ _ _ _ _=>vH λ_ _=>rfl;obtain⟨Vt,Pe,HX,HJ,HY⟩:=gy X G (ps:=["_law_pool_here","_law_many"]) RD h43 λ_ _ _ _ _ _=>vH λ_ _=>rfl;obtain⟨Vu,Pf,Pg,Mu,Ph⟩:=gy X G (ps:=["_law_top","_law_bottom"]) s18 h44 λ_ _ _ _ _ _=>vH λ_ _=>rfl;obtain⟨Vv,Pj,Ll,Ki,Lm⟩:=gy X G (ps:=["_law_prime_here","_law_top","_law_bottom"]) s19 h45 λ_ _ _ _ _ _=>pC λ_ _ _=>rfl;obtain⟨Vw,Pk,Pl,Mv,Pn⟩:=gy X G (ps:=["_law_prime_here","_law_one","_law_other"]) s20 h46 λ_ _ _ _ _ _=>pC λ_ _ _=>rfl;obtain⟨Vx,Po,Pp,Mw,YU⟩:=gy X G (ps:=["_law_row"]) s21 h47 λ_ _ _ _ _ _=>AV λ_=>rfl;obtain⟨Vy,Pq,Ln,Kj,Lo⟩:=gy X G (ps:=["_law_prime_here","_law_terms_here"]) s22 h48 λ_ _ _ _ _ _=>vH λ_ _=>rfl;obtain⟨Vz,Pr,Pt,My,Pu⟩:=gy X G (ps:=["_law_pool_here"]) s23 h49 λ_ _ _ _ _ _=>AV λ_=>rfl;obtain⟨VA,Px,Py,Mz,Pz⟩:=gy X G (ps:=["_law_pool_here","_law_prime_here"]) s24 h50 λ_ _ _ _ _ _=>vH λ_ _=>rfl;obtain⟨VB,PB,PD,MA,PF⟩:=gy X G (ps:=["_law_pool_here","_law_places","_law_most"]) s25 h51 λ_ _ _ _ _ _=>pC λ_ _ _=>rfl;obtain⟨VC,PH,PJ,MB,PL⟩:=gy X G (ps:=["_law_pool_here","_law_prime_here","_law_places","_law_many","_law_most"]) s26 h52 λ_ _ _ _ _ _=>Cc λ_ _ _ _ _=>rfl;obtain⟨VD,PM,PN,MC,PQ⟩:=gy X G (ps:=["_law_prime_here","_law_places","_law_noughts","_law_uppers"]) s27 h53 λ_ _ _ _ _ _=>DH λ_ _ _ _=>rfl;obtain⟨VE,PR,PU,MD,PV⟩:=gy X G (ps:=["_law_product_here","_law_order"]) s28 h54 λ_ _ _ _ _ _=>vH λ_ _=>rfl;obtain⟨VF,PY,Lp,Kk,Lq⟩:=gy X G (ps:=["_law_prime_here","_law_terms_here","_law_order"]) s29 h55 λ_ _ _ _ _ _=>pC λ_ _ _=>rfl;obtain⟨VG,PZ,P1,ME,P2⟩:=gy X G (ps:=["_law_pool_here","_law_many"]) s30 h56 λ_ _ _ _ _ _=>vH λ_ _=>rfl;obtain⟨VH,P4,P5,MG,P6⟩:=gy X G (ps:=["_law_places","_law_thing"]) s31 h57 λ_ _ _ _ _ _=>vH λ_ _=>rfl;obtain⟨VI,P7,P8,MH,P9⟩:=gy X G (ps:=["_law_prime_here","_law_places","_law_ones","_law_others","_law_thing"]) s32 h58 λ_ _ _ _ _ _=>Cc λ_ _ _ _ _=>rfl;obtain⟨VJ,Qa,Qb,MI,Qc⟩:=gy X G (ps:=["_law_pool_here","_law_prime_here","_law_places","_law_order","_law_many"]) s33 h59 λ_ _ _ _ _ _=>Cc λ_ _ _ _ _=>rfl;obtain⟨VL,Qd,Qe,MJ,Qf⟩:=gy X G (ps:=["_law_pool_here","_law_order"]) s34 h60 λ_ _ _ _ _ _=>vH λ_ _=>rfl;obtain⟨MK,Lr,YV,ML,YW⟩:=gy X G (ps:=["_law_script"]) s35 h61 λ_ _ _ _ _ _=>AV λ_=>rfl;obtain⟨YX,VM,VN,VO,acV,acW⟩:=ud (ps:=["self"]) s36 h62 h63 λ_ _ _ _ _ _=>AV λ_=>rfl;obtain⟨YY,VP,Qg,Qh,acX,acY⟩:=ud (ps:=["self"]) s37 h64 h65 λ_ _ _ _ _ _=>AV λ_=>rfl;obtain⟨YZ,VQ,Qi,Qj,acZ,ac0⟩:=ud (ps:=["self"]) RW h66 h67 λ_ _ _ _ _ _=>AV λ_=>rfl;obtain⟨Y0,VR,VS,VT,ac1,ac2⟩:=ud (ps:=["self","order"]) s39 h68 h69 λ_ _ _ _ _ _=>vH λ_ _=>rfl;obtain⟨Y1,VU,VW,ac3,VX,VY⟩:=ud (ps:=["self","other"]) s40 h70 h71 λ_ _ _ _ _ _=>vH λ_ _=>rfl;obtain⟨Y2,VZ,V0,V1,ac4,ac5⟩:=ud (ps:=["self","one","other"]) s41 h72 h73 λ_ _ _ _ _ _=>pC λ_ _ _=>rfl;obtain⟨Y3,V2,V3,V4,ac6,ac7⟩:=ud (ps:=["self","top","bottom"]) s42 h74 h75 λ_ _ _ _ _ _=>pC λ_ _ _=>rfl;obtain⟨Y5,V5,V6,V7,ac8,ac9⟩:=ud (ps:=["self","thing"]) s43 h76 h77 λ_ _ _ _ _ _=>vH λ_ _=>rfl;obtain⟨Y6,V8,V9,Wa,ada,adb⟩:=ud (ps:=["self"]) s44 h78 h79 λ_ _ _ _ _ _=>AV λ_=>rfl;obtain⟨Y7,Wb,Wc,Wd,ade,adf⟩:=ud (ps:=["self"]) s45 h80 h81 λ_ _ _ _ _ _=>AV λ_=>rfl;obtain⟨Y8,We,Qk,Ql,adg,adh⟩:=ud (ps:=["self"]) Ld h82 h83 λ_ _ _ _ _ _=>AV λ_=>rfl;obtain⟨Y9,Wf,Qm,Qn,adi,adj⟩:=ud (ps:=["self"]) s47 h84 h85 λ_ _ _ _ _ _=>AV λ_=>rfl;obtain⟨Za,Wg,Wh,Wj,adk,adl⟩:=ud (ps:=["self","order"]) s48 h86 h87 λ_ _ _ _ _ _=>vH λ_ _=>rfl;obtain⟨Zb,Wk,Wl,adm,adn,ado⟩:=ud (ps:=["self","part","number"]) s49 h88 h89 λ_ _ _ _ _ _=>pC λ_ _ _=>rfl;obtain⟨Qo,Qp⟩:=ka s50 h90 h92;have Wm:=h91;have adp:L2.Meth K _ "__init__" _:=⟨Qo,h91,Qp.keep⟩;obtain⟨Zc,MM⟩:=Qp.fn;obtain⟨adq,ads,adt,Ls,Lu,Qq⟩:=i8 h93;obtain⟨Qr,Qs⟩:=ka s51 h94 h96;have Wn:=h95;have adu:L2.Meth K _ "__init__" _:=⟨Qr,h95,Qs.keep⟩;obtain⟨Zd,Qt⟩:=Qs.fn;obtain⟨adv,adw,adx,Qu,Qv,Qw⟩:=i8 h97;obtain⟨Qx,Qy⟩:=ka s52 h98 h100;have Wo:=h99;have ady:L2.Meth K _ "__init__" _:=⟨Qx,h99,Qy.keep⟩;obtain⟨Ze,MN⟩:=Qy.fn;obtain⟨adz,adA,adB,Lw,Lx,Qz⟩:=i8 h101;have Wq:=hfa.symm.trans ML
 cases Wq
 have QA:=j4 Qq;subst QA;obtain⟨adC,QB⟩:=kA Qw;subst QB;have QC:=j4 Qz;subst QC;have bSI:=Dj MM Ls Lu;have Wu:=AB MM Ls Lu;have bFI:=DT Qt Qu Qv;have Zf:=CQ MN Lw Lx;have Wv:=AG MN Lw Lx;have N:CB mg:=⟨Hg,Ij,HN⟩;have KJ:=uu h102;have cF:xV K mg (ga K "Field"):=⟨⟨h103,h104,h105,cp h106⟩,aX h107,KN,(Bool.and_eq_true_iff.mpr h108),cp h109,cp h110,fH h111,fH h112⟩;have c:C0 K mg (ga K "Sum"):=⟨⟨h113,h114,h115,cp h116⟩,aX h117,aX h118,OJ⟩;have cQ:GW K mg (ga K "Sum"):=⟨c,(Bool.and_eq_true_iff.mpr h119),cp h120,cp h110,fH h111,fH h121⟩;have cS:Ga K mg (ga K "System"):=⟨⟨h122,h123,h124,cp h125⟩,aX h126,aX h127,aX h128,aX h129,Kc,(Bool.and_eq_true_iff.mpr h130),cp h131,cp h110,fH h111,fH h132⟩;have hP:=tH h133;have Zg:Fx K (ga K "NoSystem"):=⟨h137,cp h138,aX h139,cp h140,fH h141,fH h142⟩;have QD:findIn K (.ref (ga K "NoSystem")) "__setattr__"=some (some (.builtin "object.__setattr__")):=cp h143;have sNS:Fs K (ga K "NoSystem"):=Hd.u5 h136 Zg QD;refine⟨MK,λs v=>?_,λbase _ _ BT=>?_⟩
 ·obtain⟨oc,od,kV,doc,pm,an,Hn,ct,HG,rfl,lk,Ia⟩:=Lr.ex;exact .of_eq rfl
 have KQ:=xw (P:=l.prog) (w:=w) (base:=base) U1 N;have QE:=Di (P:=l.prog) (w:=w) (base:=base) Vf IZ;have Ww:=vw (P:=l.prog) (w:=w) (base:=base) Vg QE OT Li OU;have Wz:=sk (P:=l.prog) (w:=w) (base:=base) V2 cF HH Ww Vh OV Vi;have WA:=Bc (P:=l.prog) (w:=w) (base:=base) VZ cF Wz V3 V4;have WB:=A3 (P:=l.prog) (w:=w) (base:=base) Qt cF KQ KO JB KP HH Ke hP JI h134;have WC:=qe (P:=l.prog) (w:=w) (base:=base) V5 cF HH N Ho Hr QE OT Li OU KQ KO JB KP;have WD:=EX (P:=l.prog) (w:=w) (base:=base) VU cF N;have WE:=wN (P:=l.prog) (w:=w) (base:=base) V8 cF;have QF:=zj (P:=l.prog) (w:=w) (base:=base) U2 HM KQ KO JB KP;have WG:=rZ (P:=l.prog) (w:=w) (base:=base) U3 Hg Ho Ig JU QF OK Lg OL;have WH:=zP (P:=l.prog) (w:=w) (base:=base) U6 cF Hg Ho Hr WG U4 OM U5 WC V6 V7;have WI:=rm (P:=l.prog) (w:=w) (base:=base) Vc Hr;have WJ:=sN (P:=l.prog) (w:=w) (base:=base) U9 Hg Hm Hv WH U7 ON U8;have QG:=AR (P:=l.prog) (w:=w) (base:=base) Ve cF Hi WA V0 V1 WI Vd OQ;have QH:=xi (P:=l.prog) (w:=w) (base:=base) MM c QG OR Lh OS WJ Va OP Vb;have Zh:L2.Mk K _ _:=⟨h146,Qo,Wm,h147⟩;have MkF:L2.Mk K _ _:=⟨h148,Qr,Wn,h149⟩;have Zi:L2.Mk K _ _:=⟨h150,Qx,Wo,h151⟩;have WK:=vg (P:=l.prog) (w:=w) (base:=base) (CF:=ga K "Field") VM c;have QI:=ya (P:=l.prog) (w:=w) (base:=base) VP c ID;have QJ:=vW (P:=l.prog) (w:=w) (base:=base) (CF:=ga K "Field") VQ c Hm;have WL:IK l.prog w K mg base "NoSystem" (ga K "NoSystem") rq (fY (ga K "NoSystem") "part" "number"):=Hd.Ej Jq h136 Zg QD (ze Wk sNS (aX h144) (aX h145)) Wl;have WM:=Dz (P:=l.prog) (w:=w) (base:=base) Vj cQ cF Hg WD VW VX VY WK VN VO QI Qg Qh;have Ly:=DM (P:=l.prog) (w:=w) (base:=base) OX Hg Hm Hv Hr Iz WL WM Vk OW Vl;have QK:=D4 (P:=l.prog) (w:=w) (base:=base) OY cF Hg Hm HH WL WE V9 Wa Ly Lj Kf Lk;have QL:=D9 (P:=l.prog) (w:=w) (base:=base) MN cS cF Hg HM WL KQ KO JB KP Ly Lj Kf Lk QK OZ Mp O0;have WN:=EG (P:=l.prog) (w:=w) (base:=base) (CF:=ga K "Field") Wb cS;have QM:=Eu (P:=l.prog) (w:=w) (base:=base) (CF:=ga K "Field") We cS Hm;have QN:=DW (P:=l.prog) (w:=w) (base:=base) (CF:=ga K "Field") Wf cS Hm;have Kl:=zc (P:=l.prog) (w:=w) (base:=base) O1 Hg Hm Ig Hr J5 QF OK Lg OL;have QO:=wU (P:=l.prog) (w:=w) (base:=base) O2 c Zh QH Wu QG OR Lh OS;have WQ:=sx (P:=l.prog) (w:=w) (base:=base) VR c Hr Ho Hi Kl Kg Jr Kh QI Qg Qh QO O3 Mq O4 JJ h135;have WR:=Ad (P:=l.prog) (w:=w) (base:=base) Wg c cS Hi Hm Hl Kl Kg Jr Kh WQ VS VT Zi QL Zf;have QP:=EZ (P:=l.prog) (w:=w) (base:=base) O5 c Ho QJ Qi Qj;have QQ:=DX (P:=l.prog) (w:=w) (base:=base) O8 cS Hi Hm Hl Kl Kg Jr Kh WN Wc Wd QM Qk Ql QN Qm Qn WR Wh Wj QP O6 Mr O7;have QR:=zL (P:=l.prog) (w:=w) (base:=base) Pb Hr;have HZ:=Au (P:=l.prog) (w:=w) (base:=base) (mg:=mg) Pe;have QS:=Ar (P:=l.prog) (w:=w) (base:=base) Pf IZ;have Lz:=An (P:=l.prog) (w:=w) (base:=base) Pj Hl QS Pg Mu Ph;have QT:=yF (P:=l.prog) (w:=w) (base:=base) Pk Lz Ll Ki Lm;have QU:=DJ (P:=l.prog) (w:=w) (base:=base) Po Hr;have LA:=yY (P:=l.prog) (w:=w) (base:=base) Pq Hi QT Pl Mv Pn QU Pp Mw;have QV:=vh (P:=l.prog) (w:=w) (base:=base) Pr HZ HX HJ HY;have QW:=vp (P:=l.prog) (w:=w) (base:=base) Px HZ HX HJ HY Lz Ll Ki Lm;have QX:=AO (P:=l.prog) (w:=w) (base:=base) PB Hl Ho Hi HZ HX HJ HY;have QY:=CY (P:=l.prog) (w:=w) (base:=base) PH Hl HZ HX HJ HY QX PD MA PF QW Py Mz Pz LA Ln Kj Lo;have QZ:=Cb (P:=l.prog) (w:=w) (base:=base) PM cF c cS Hm MkF WB bFI Zh QH bSI Zi QL Wv Zf;have Q0:=E0 (P:=l.prog) (w:=w) (base:=base) PR Ho Hi;have LB:=EO (P:=l.prog) (w:=w) (base:=base) PY Q0 PU MD PV LA Ln Kj Lo;have Q1:=EA (P:=l.prog) (w:=w) (base:=base) PZ Hl Hr HZ HX HJ HY;have Q2:=Ew (P:=l.prog) (w:=w) (base:=base) P4 Hg Hm Hr Ij HN Hi Hl;have Q3:=Ey (P:=l.prog) (w:=w) (base:=base) P7 Hi Q2 P5 MG P6 LB Lp Kk Lq;have Q4:=DN (P:=l.prog) (w:=w) (base:=base) Qa Hl HZ HX HJ HY QY PJ MB PL LB Lp Kk Lq;have Q6:=D8 (P:=l.prog) (w:=w) (base:=base) Qd Hr Ho HZ HX HJ HY;exact Cp Lr c cS KJ Hl ID Ka Hr Ij IM Hg HN QR Pc Mt Pd HZ HX HJ HY QV Pt My Pu Q1 P1 ME P2 Q4 Qb MI Qc QZ PN MC PQ Q6 Qe MJ Qf QQ O9 Ms Pa Q3 P8 MH P9 QJ Qi Qj QM Qk Ql QN Qm Qn
theorem F0 {l:OpenLaw}{q:zr}{loose:Bg}{XP:(Str->Option Value)->Heap->Prop}{d:DefRec}(hn:l.most=some 63)(Nw:d.params.defaults=[])(hd:d.name="law"):
 WalkO q loose XP xN l.row.toRowW d [] (λf vs=>PySem.call f vs):=by
 refine Hd.vL (n:=63) (k:=12) (x:="_law_script") (CX:=λw=>aV l.prog w) (sp:=λK=>yK K) (φ:=λK=>su K=wa) (tabs:=λK=>[]) hn (by decide) Nw ⟨rfl,by decide,by decide,rfl⟩ (λw h y=>y) ?_ (λw K mg fa h o X G e=>sv o X G (by rw[<-hd];exact e)) ?_ ?_
 ·intro w s₀ mg mb h K o Gr KX;exact⟨λr WS=>(nomatch WS),λr WS=>(nomatch WS)⟩
 ·intro K H a ns hl hO hS;refine⟨a,ns,rfl,?_,hl,λ_=>rfl⟩
  rcases hS with(hS|⟨o,hS⟩)|hS
  ·rcases hO.1 a with z|⟨o,xs,z⟩|⟨z,_⟩
   ·rw[z] at hS;cases hS
   ·rw[z] at hS;cases hS
   ·rw[z] at hS;cases hS
  ·exact .inl ⟨o,hS⟩
  ·exact .inr hS
 ·intro w H s e s' z;obtain⟨a,cls,a0,B,d,H',_,_,_,_,hE⟩:=z;exact hE.elim
end K66
open PySem PySem.W PyProof.Rows
set_option maxRecDepth 100000 in
set_option maxHeartbeats 0 in
theorem PySem.Challenge.cw_falsesums_k66_what_is_a_likeness_holds : PySem.Challenge.rw_falsesums_k66_what_is_a_likeness.Holds := by
 refine PySem.W.holds_law K66.sd1 λadH=>?_
 refine PySem.W.holds_open (r:=PySem.Challenge.rw_falsesums_k66_what_is_a_likeness.row) (q:=K66.cE) (loose:=["Field","STEP"]) (Xt:=λs=>xlAt K66.cE K66.lv s&&recOk (PySem.Challenge.rw_falsesums_k66_what_is_a_likeness.row.toRowW).records s) (XP:=XL K66.cE K66.lv)
  (Yf:=λs=>K66.su (Hd.u6 K66.rP s.heap)) (Ya:=λ_=>K66.wa) (YP:=K66.xN) (N:=9580) ?hl K66.zU K66.r8 (λs e=>xl_of s (Bool.and_eq_true_iff.mp e).1) XL.keeps (by rfl) (by rfl) (by rfl) (λs e=>recFacts_of (Bool.and_eq_true_iff.mp e).2) (by rfl) (by assumption) (by decide +kernel) K66.sd3 ?hw ?hc
 case hw=>w_witness2
 case hl =>
  refine Hd.aab λw=>?_;obtain⟨⟨h,s⟩,e,e0⟩:=Option.map_eq_some_iff.mp (K66.ran0 w)
  injection e0 with yk1 e0_0
  injection e0_0 with yk2 e0_1
  injection e0_1 with yB2 e0_2
  have e1:=Hd.at_ (K66.ran1 w) e
  injection e1 with yA1 e1_0
  have e2:=Hd.at_ (K66.ran2 w) e
  injection e2 with yA3 e2_0
  have e3:=Hd.at_ (K66.ran3 w) e;have e4:=Hd.at_ (K66.ran4 w) e
  injection e4 with yC2 e4_0
  have e5:=Hd.at_ (K66.ran5 w) e;have e6:=Hd.at_ (K66.ran6 w) e
  injection e6 with yC4 e6_0
  injection e6_0 with yC6 e6_1
  have e7:=Hd.at_ (K66.ran7 w) e;have e8:=Hd.at_ (K66.ran8 w) e
  injection e8 with yA4 e8_0
  injection yk2 with z1 z2
  injection z2 with z2 z3
  exact⟨h,s,e,yk1,⟨z1,z2,z3⟩,yA1,yA3,yA4,e6_1,e3,yB2,e0_2,e1_0,e2_0,e8_0,yC2,e5,yC4,e7,yC6,((congrArg K66.su (Hd.Fun _ _)).trans e4_0)⟩
 case hc=>exact K66.F0 rfl rfl rfl
