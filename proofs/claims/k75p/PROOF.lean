import PyProof.Rows.All
import KE.KLam
import KE.KTryMore
import KE.KPairComp
import KE.KSortTup
import KE.KRevSl
import KE.LcSums
import PySem.Challenge.RW_falsesums_k75_odd_sums_round_webs
set_option Elab.async false
set_option linter.all false
set_option maxRecDepth 100000
abbrev pL:=PySem.Value->PySem.Shared->Prop
abbrev vW:=PySem.Str->Option PySem.Value
abbrev GB:=PySem.Shared
abbrev EK:=PySem.FuncData
abbrev vB:=PySem.Program
abbrev zd:=Option PySem.Value
abbrev nv:=List PySem.Value
abbrev t6:=Array PySem.Value
abbrev DN:=List PySem.Stmt
abbrev Bj:=List PySem.Expr
abbrev zF:=List PySem.Str
abbrev BY:=Option PySem.Addr
abbrev Ds:=Array (Option PySem.Value)
abbrev vb:List PySem.Str:=["thing"]
abbrev zp:List PySem.Str:=["self","top","bottom"]
abbrev yT:List PySem.Str:=["edges","odd"]
abbrev GD:List PySem.Str:=["_law_prime","_law_one","_law_other"]
abbrev uQ:List PySem.Str:=["self","prime"]
abbrev uC:List PySem.Str:=["field","terms"]
abbrev E8:List PySem.Str:=["_law_prime","_law_terms"]
abbrev GG:List PySem.Str:=["one","other"]
abbrev rj:List PySem.Str:=["self","other"]
abbrev FH:List PySem.Str:=["self","field","terms"]
abbrev wL:List PySem.Str:=["top","bottom"]
abbrev zV:List PySem.Str:=["_law_pool_here","_law_many"]
abbrev v5:List PySem.Str:=["_law_prime","_law_top","_law_bottom"]
abbrev qr:List PySem.Str:=["self","one","other"]
abbrev zE:List PySem.Str:=["field","thing"]
abbrev EY:List PySem.Str:=["field","places","thing"]
abbrev E7:List PySem.Str:=["field","places","uppers"]
abbrev uS:List PySem.Str:=["self","field","places","noughts","uppers"]
abbrev tV:List PySem.Str:=["_law_terms"]
abbrev rh:List PySem.Str:=["field","top"]
abbrev pK:List PySem.Str:=["_law_system","_law_prime","_law_places","_law_ones"]
abbrev rg:List PySem.Str:=["field","places","top"]
abbrev vG:List PySem.Str:=["number","prime"]
abbrev BC:List PySem.Str:=["_law_script","_law_k"]
abbrev zS:List PySem.Str:=["_law_top","_law_bottom"]
abbrev tX:List PySem.Str:=["self","thing"]
abbrev CV:List PySem.Str:=["field","places","part","wishes"]
abbrev DB:List PySem.Str:=["_law_prime","_law_places","_law_noughts","_law_degree_here","_law_sums"]
abbrev tQ:List PySem.Str:=["_law_edges","_law_odd"]
abbrev Fi:List PySem.Str:=["_law_pool_here","_law_most"]
namespace L2
open PySem
theorem vm:(1:Nat)<=sizeLine:=by decide
theorem gc:(2:Nat)<=sizeLine:=by decide
theorem aaq:(3:Nat)<=sizeLine:=by decide
def aQ (s:Stmt)(j:Nat):Stmt:=match s with
 | .ClassDef _ _ _ body _ _ _ _ _ _ _=>body.getD j (.Pass ⟨0,0,0,0⟩)
 |_=>.Pass ⟨0,0,0,0⟩
def cP (s:Stmt):Arguments:=match s with
 | .FunctionDef _ a _ _ _ _ _ _ _ _=>a
 |_=>{posonlyargs:=[],args:=[],vararg:=none,kwonlyargs:=[],kw_defaults:=[],kwarg:=none,defaults:=[]}
def cc (s:Stmt):List Stmt:=match s with
 | .FunctionDef _ _ b _ _ _ _ _ _ _=>b
 |_=>[]
def ai (s:Stmt):Scope:=match s with
 | .FunctionDef _ _ _ _ _ _ sc _ _ _=>sc
 |_=>{kind:=.function,names:=[],isGenerator:=false,isCoroutine:=false}
end L2
namespace Hd
open PySem PySem.W PyProof.Rows
def ux (as:List Addr)(h:Heap):Frag:=as.filterMap λa=>(h.get? a).map λo=>(a,o)
theorem ny (h:Heap):∀as:List Addr,(ux as h).In h
 |[],a,o,e=>by cases e
 |b::as,a,o,e=>by
  unfold ux at e;rw[List.filterMap_cons] at e
  cases q:h.get? b with
  |none =>
   rw[q] at e;exact ny h as a o e
  |some u =>
   rw[q] at e;dsimp only[Option.map_some] at e;rw[List.lookup_cons] at e
   by_cases z:a=b
   ·subst z;simp only[beq_self_eq_true] at e;rw[q];exact e
   ·have:(a==b)=false:=by simpa using z
    simp only[this] at e;exact ny h as a o e
abbrev qh:=Str×Str×Arguments×FuncBody×Scope×Addr×List (Str×Addr)×Value×Addr
def Ai (fd:EK):qh:=(fd.name,fd.qualname,fd.params,fd.body,fd.scope,fd.globals,fd.closure,fd.defaults,fd.builtins)
def oH (K:Frag)(v:Option (Option Value)):Option FuncData:=match v with
 |some (some (.ref f))=>(match K.lookup f with
  |some ⟨_,_,.func fd,_⟩=>some fd
  |_=>none)
 |_=>none
def aR (K:Frag)(v:Option (Option Value)):Option qh:=(oH K v).map Ai
def dj (x qual:Str)(st:Stmt):Option qh:=some (x,qual,L2.cP st,.stmts (L2.cc st),L2.ai st,mainGlobals,[],.none,builtinsNs)
def cL (v:Option (Option Value)):Addr:=match v with
 |some (some (.ref a))=>a
 |_=>0
def gM (v:Option (Option Value)):Bool:=match v with
 |some (some (.ref _))=>true
 |_=>false
theorem dA {v:Option (Option Value)}(h:gM v=true):v=some (some (.ref (cL v))):=by
 unfold gM at h
 split at h
 ·rfl
 ·cases h
def du (v:Option (Option Value)):Bool:=match v with
 |some none=>true
 |_=>false
theorem bq {v:Option (Option Value)}(h:du v=true):v=some none:=by
 unfold du at h
 split at h
 ·rfl
 ·cases h
def da (K:Frag)(v:Option (Option Value))(qual:Str):Bool:=keepIn K (.ref (cL v))&&(match oH K v with
 |some fd=>codeIn K fd.code qual
 |none=>false)
abbrev gv (K:Frag)(x:Str):Option (Option Value):=nsIn K mainGlobals x
abbrev ga (K:Frag)(x:Str):Addr:=cL (nsIn K mainGlobals x)
abbrev fv (K:Frag)(c x:Str):Option (Option Value):=findIn K (.ref (cL (nsIn K mainGlobals c))) x
def f9 (K:Frag)(v:Option (Option Value)):Option qh:=(oH K v).map λfd=>Ai {fd with defaults:=.none}
def ED (K:Frag)(v:Option (Option Value)):Value:=match oH K v with
 |some fd=>fd.defaults
 |none=>.none
def lF (K:Frag)(v:Option (Option Value)):Addr:=match ED K v with
 | .ref a=>a
 |_=>0
def pP (K:Frag)(v:Option (Option Value)):Bool:=match ED K v with
 | .ref _=>true
 |_=>false
def oy (K:Frag)(T:Addr)(p:Value->Bool):Bool:=match K.lookup T with
 |some o=>(match o.data with
  | .seq a _=>(match a.toList with
    |[v]=>p v
    |_=>false)
  |_=>false)
 |none=>false
theorem gu {K:Frag}{T:Addr}{p:Value->Bool}(h:oy K T p=true):∃o v n,K.lookup T=some o/\o.data=.seq #[v] n/\p v=true:=by
 unfold oy at h
 split at h
 ·rename_i o ho
  split at h
  ·rename_i a n hd
   split at h
   ·rename_i v hv
    have:a = #[v]:=by rw[<-Array.toArray_toList (xs:=a),hv]
    subst this;exact⟨o,v,n,ho,hd,h⟩
   ·cases h
  ·cases h
 ·cases h
def FZ (n:Int)(v:Value):Bool:=match v with
 | .int i _=>i==n
 |_=>false
theorem jb {n:Int}{v:Value}(h:FZ n v=true):∃t,v=.int n t:=by
 unfold FZ at h
 split at h
 ·rename_i i t
  have:i=n:=by simpa using h
  exact⟨t,by rw[this]⟩
 ·cases h
def uV (v:Value):Bool:=match v with
 | .none=>true
 |_=>false
theorem jE {v:Value}(h:uV v=true):v=.none:=by
 unfold uV at h
 split at h
 ·rfl
 ·cases h
def rA (v:Option (Option Value))(n:Int):Bool:=match v with
 |some (some u)=>FZ n u
 |_=>false
theorem hX {v:Option (Option Value)}{n:Int}(h:rA v n=true):∃t,v=some (some (.int n t)):=by
 unfold rA at h
 split at h
 ·obtain⟨t,rfl⟩:=jb h;exact⟨t,rfl⟩
 ·cases h
def tO:List Value->List Int->Bool
 |[],[]=>true
 |v::vs,n::ns=>FZ n v&&tO vs ns
 |_,_=>false
def vL (K:Frag)(a:Addr)(ns:List Int):Bool:=match K.lookup a with
 |some o=>(match o.cls with
  | .type T=>T == "tuple"
  |_=>false)&&(match o.data with
  | .seq its _=>tO its.toList ns&&decide (its.size<=sizeLine)
  |_=>false)
 |none=>false
def jz (v:Option (Option Value))(s:String):Bool:=match v with
 |some (some (.builtin t))=>t==s
 |_=>false
theorem cO {v:Option (Option Value)}{s:String}(h:jz v s=true):v=some (some (.builtin s)):=by
 unfold jz at h
 split at h
 ·rename_i t
  have:t=s:=by simpa using h
  rw[this]
 ·cases h
def p6 (v:Option Bool)(b:Bool):Bool:=match v with
 |some c=>c==b
 |none=>false
theorem fY {v:Option Bool}{b:Bool}(h:p6 v b=true):v=some b:=by
 unfold p6 at h
 split at h
 ·rename_i c
  have:c=b:=by simpa using h
  rw[this]
 ·cases h
def zu:List Obj->BT->Nat->Option BT
 |[],t,_=>some t
 |o::os,t,n=>match ((t.ins n o).get n).isSome with
  |true=>zu os (t.ins n o) (n+1)
  |false=>none
theorem rK (life:Life):∀(os:List Obj)(t t':BT)(n:Nat),zu os t n=some t'->(absHeap t' (n+os.length) life).objs=(absHeap t n life).objs++os.toArray
 |[],t,t',n,h=>by
  cases h
  simp
 |o::os,t,t',n,h=>by
  unfold zu at h
  cases q:((t.ins n o).get n).isSome with
  |false=>rw[q] at h;cases h
  |true =>
   rw[q] at h;have e:=rK life os _ _ _ h;rw[absHeap_ins q] at e
   have:n+1+os.length=n+(o::os).length:=by simp only[List.length_cons];omega
   rw[this] at e;rw[e];show((absHeap t n life).objs.push o)++os.toArray=_;rw[<-Array.append_singleton,Array.append_assoc];simp
def EC (s:GB):Option SharedT:=(zu s.heap.objs.toList .nil 0).map λt=>⟨t,s.heap.objs.size,s.heap.life,s.gens,s.drawn,s.toks,s.os⟩
theorem aab {s:GB}{x:SharedT}(h:EC s=some x):x.abs=s:=by
 unfold EC at h;obtain⟨t,e,rfl⟩:=Option.map_eq_some_iff.mp h;have g:=rK s.heap.life _ _ _ _ e;obtain⟨⟨objs,life⟩,gens,drawn,toks,os⟩:=s
 have z:absHeap t objs.size life=⟨objs,life⟩:=by
  have a:(absHeap t objs.size life).objs=objs:=by
   have l:0+objs.toList.length=objs.size:=by simp
   rw[l] at g;rw[g];simp[absHeap,BT.list]
  exact congrArg (Heap.mk · life) a
 show Shared.mk _ _ _ _ _=_;rw[z]
def gr (tb:String->Option Builtin)(p:vB)(w:World)(n₀:Nat)(ann:zd):Nat->SharedT->Thread->Option SharedT
 |0,_,_=>none
 |n+1,s,t=>match through t with
  |true=>some s
  |false=>match stepOk n₀ ann t with
   |false=>none
   |true=>match stepT (denote tb) p w s t with
    |some (s',t')=>gr tb p w n₀ ann n s' t'
    |none=>none
section
variable {tb:String->Option Builtin}{p:vB}{w:World}{n₀:Nat}{ann:zd}
theorem jT:∀{n:Nat}{s s':SharedT}{t:Thread},gr tb p w n₀ ann n s t=some s'->topRun tb p w n₀ ann n s.abs t=some s'.abs
 |0,_,_,_,h=>by cases h
 |n+1,s,s',t,h=>by
  unfold gr at h;unfold topRun
  cases he:through t with
  |true=>rw[he] at h;cases h;rfl
  |false =>
   rw[he] at h
   cases hk:stepOk n₀ ann t with
   |false=>rw[hk] at h;cases h
   |true =>
    rw[hk] at h
    cases hs:stepT (denote tb) p w s t with
    |none=>rw[hs] at h;cases h
    |some r=>obtain⟨s₂,t₂⟩:=r;rw[hs] at h;rw[stepT_spec hs];exact jT h
end
def fT (tb:String->Option Builtin)(p:vB)(w:World)(N:Nat)(s₀:GB):Option SharedT :=
 match s₀.heap.isNs mainGlobals&&s₀.gens.size==0 with
 |true=>(EC s₀).bind λx=>(gr tb p w s₀.heap.objs.size (s₀.heap.nsMap mainGlobals "__annotations__") N x (topStub p)).bind λs₁=>match staticsOk (importedModules p.main.body) s₀.heap s₁.abs.heap&&namesBound p s₁.abs.heap&&gensDone s₁.abs&&laidKept s₀.heap s₁.abs.heap with
  |true=>some s₁
  |false=>none
 |false=>none
variable {p:vB}{N:Nat}
theorem aad {tb:String->Option Builtin}{w:World}{s:GB}{y:SharedT}(h:fT tb p w N s=some y):topFrom tb p w N s=some y.abs:=by
 unfold fT at h;unfold topFrom
 cases q:(s.heap.isNs mainGlobals&&s.gens.size==0) with
 |false=>rw[q] at h;cases h
 |true =>
  rw[q] at h;obtain⟨x,ex,h⟩:=Option.bind_eq_some_iff.mp h;obtain⟨z,ez,h⟩:=Option.bind_eq_some_iff.mp h;have e:=jT ez;rw[aab ex] at e;dsimp only;rw[e];show(match (staticsOk (importedModules p.main.body) s.heap z.abs.heap&&namesBound p z.abs.heap&&gensDone z.abs&&laidKept s.heap z.abs.heap) with|true=>some z.abs|false=>none)=_
  split at h
  ·cases h
   rename_i q2
   simp only[q2]
  ·cases h
def ck (tb:String->Option Builtin)(p:vB)(w:World)(N:Nat):Option SharedT:=(fencedOpening tb p w N).bind (fT tb p w N)
theorem aa4 {tb:String->Option Builtin}{w:World}{y:SharedT}(h:ck tb p w N=some y):openEnds tb p w N=some y.abs:=by
 unfold ck at h;unfold openEnds;obtain⟨s,e,h⟩:=Option.bind_eq_some_iff.mp h;rw[e];exact aad h
theorem aac {q:vB}{loose:zF}{Xt:Shared->Bool}{α:Type}{Yf:Shared->α}{Ya:World->α}
 (h1:∀w,(ck treeTable p w N).map (λs=>openSeen q loose (importedModules p.main.body) Xt true s.abs)=some (openGood q loose))
 (h2:∀w,(ck treeTable p w N).map (λs=>Yf s.abs)=some (Ya w)):LeftO p q loose Xt Yf Ya N:=λw=>by
 obtain⟨y,e,z⟩:=Option.map_eq_some_iff.mp (h1 w);have z2:=h2 w;rw[e] at z2;rw[aa4 e];show some (_,_)=_;have z3:Yf y.abs=Ya w:=Option.some.inj z2;rw[z,z3]
section
variable {p q:vB}{loose mods:zF}{Xt:Shared->Bool}{α:Type}{Yf:Shared->α}{Ya:World->α}{N:Nat}
abbrev xu (q:vB)(s:GB):=(seen ((recsOf q).map (·.name)) (ownsOf q) [] {s with gens:=#[]},s.heap.bltView)
abbrev vv (q:vB)(loose mods:zF)(Xt:Shared->Bool)(s:GB):Bool :=
 s.heap.keysOk (looseW q loose) ((recsOf q).map (·.name)) ((litsOf q).map (·.1)) ((clssOf q (looseW q loose)).map (·.name))&&s.heap.accountedOkI mods&&s.heap.isNs mainGlobals&&s.heap.isNs builtinsNs&&tablesOk q s.heap&&Xt s&&(if true then s.gens.size==0 else !leftWithCleanup s.gens)
abbrev ye (q:vB)(loose:zF)(s:GB):=(tabsOk q s,pinSeenD q (drecsOf q) s,plainSeenE q (looseW q loose) s,plainSeenD q loose s,wideSeen q s,clsSeenW q loose s)
theorem aaZ
 (h1:∀w,(ck treeTable p w N).map (λs=>xu q s.abs)=some (expectedOf q,bltViewBooted))
 (h2:∀w,(ck treeTable p w N).map (λs=>vv q loose (importedModules p.main.body) Xt s.abs)=some true)
 (h3:∀w,(ck treeTable p w N).map (λs=>ye q loose s.abs)=some (true,pinGoodD (drecsOf q),plainGoodE q (looseW q loose),plainGoodD q loose,wideGood q,clsGoodW q loose))
 (h4:∀w,(ck treeTable p w N).map (λs=>Yf s.abs)=some (Ya w)):LeftO p q loose Xt Yf Ya N:=by
 refine aac (λw=>?_) h4;obtain⟨y,e,z1⟩:=Option.map_eq_some_iff.mp (h1 w);have z2:=h2 w;have z3:=h3 w;rw[e] at z2 z3 |-;have z2:vv q loose (importedModules p.main.body) Xt y.abs=true:=Option.some.inj z2;have z3:ye q loose y.abs=_:=Option.some.inj z3;show some (openSeen q loose (importedModules p.main.body) Xt true y.abs)=_;have e1:openSeen q loose (importedModules p.main.body) Xt true y.abs=((xu q y.abs).1,(xu q y.abs).2,vv q loose (importedModules p.main.body) Xt y.abs,ye q loose y.abs):=rfl;rw[e1,z1,z2,z3];rfl
end
end Hd
namespace L2
open PySem
/-- an own class of exceptions without an __init__ -/
def p7 (K:PySem.W.Frag)(C:Addr)(Lp:nv)(newId:String):Bool :=
 ((K.lookup C).any λo=>o.cls == .type "type"&&(o.slots.size==6&&o.slots.toList[4]?==some (some (.builtin newId))))&&(PySem.W.clsIn K C).any λcd=>cd.mro.head?==some (.ref C)&&(!cd.hasDel&&(PySem.W.tailIn K Lp cd.mro.tail&&(PySem.W.nsOkIn K cd.ns&&PySem.W.nsIn K cd.ns "__init__"==some none)))
end L2
namespace K75
open PySem L2 PySem.W
open Hd (gv ga fv cL gM dA du bq jz cO p6 fY da aR f9 dj pP lF oy gu uV jE FZ jb rA hX vL)
def aO (i:Nat):Stmt:=PySem.Challenge.pw_falsesums_k75_odd_sums_round_webs.main.body.getD i (.Pass ⟨0,0,0,0⟩)
def cV:List Int:=[2,3,5,7,11,13,17,19,23,29,31,37,41,43,47,53,59,61,67,71,73,79,83,89,97]
abbrev CN:List Value:=[.type "ValueError",.type "Exception",.type "BaseException",.type "object"]
abbrev xZ:String:="ValueError.__new__"
def Gf (K:Frag):Bool :=
 (du (gv K "isinstance") &&
 (du (gv K "int") &&
 (du (gv K "bool") &&
 (du (gv K "ValueError") &&
 (du (gv K "abs") &&
 (du (gv K "len") &&
 (du (gv K "tuple") &&
 (du (gv K "all") &&
 (du (gv K "zip") &&
 (du (gv K "list") &&
 (du (gv K "enumerate") &&
 (du (gv K "sorted") &&
 (du (gv K "max") &&
 (du (gv K "min") &&
 (du (gv K "set") &&
 (du (gv K "range")))))))))))))))))
def F3 (K:Frag):Bool :=
 (gM (gv K "Sum") &&
 (gM (gv K "Field") &&
 (gM (gv K "System") &&
 (gM (gv K "NoNumber") &&
 (gM (gv K "NoField") &&
 (gM (gv K "PRIMES") &&
 (rA (gv K "FRACTIONS") 0 &&
 (rA (gv K "MOST_PLACES") 60 &&
 (rA (gv K "MOST_WISHES") 200 &&
 (da K (gv K "is_whole") "is_whole" &&
 (da K (gv K "is_place") "is_place" &&
 (da K (gv K "is_product") "is_product" &&
 (da K (gv K "is_term") "is_term" &&
 (da K (gv K "checked_terms") "checked_terms" &&
 (da K (gv K "place_of_term") "place_of_term" &&
 (da K (gv K "gathered") "gathered"))))))))))))))))
def Gj (K:Frag):Bool :=
 (da K (gv K "common_divisor") "common_divisor" &&
 (da K (gv K "lowest") "lowest" &&
 (da K (gv K "inverse") "inverse" &&
 (da K (gv K "is_wish") "is_wish" &&
 (da K (gv K "checked_wishes") "checked_wishes" &&
 (da K (gv K "checked_uppers") "checked_uppers" &&
 (da K (gv K "number_sum") "number_sum" &&
 (da K (gv K "is_edge") "is_edge" &&
 (da K (gv K "checked_web") "checked_web" &&
 (da K (gv K "places_sum") "places_sum" &&
 (da K (gv K "web") "web" &&
 (da K (gv K "web_showing") "web_showing" &&
 (da K (gv K "_law_pool") "_law_pool" &&
 (da K (gv K "_law_take") "_law_take" &&
 (da K (gv K "_law_low") "_law_low" &&
 (da K (gv K "_law_made") "_law_made"))))))))))))))))
def Ge (K:Frag):Bool :=
 (da K (gv K "_law_plus") "_law_plus" &&
 (da K (gv K "_law_times") "_law_times" &&
 (da K (gv K "_law_row_key") "_law_row_key" &&
 (da K (gv K "_law_gathered") "_law_gathered" &&
 (da K (gv K "_law_multiplied") "_law_multiplied" &&
 (da K (gv K "_law_degree") "_law_degree" &&
 (da K (gv K "_law_is_showing") "_law_is_showing" &&
 (da K (gv K "_law_web") "_law_web" &&
 (da K (gv K "_law_web_drawn") "_law_web_drawn" &&
 (da K (gv K "_law_is_system") "_law_is_system" &&
 (da K (gv K "law") "law" &&
 (da K (fv K "Sum" "field") "Sum.field" &&
 (isFn K (.ref (cL (fv K "Sum" "field"))) &&
 (da K (fv K "Sum" "terms") "Sum.terms" &&
 (isFn K (.ref (cL (fv K "Sum" "terms"))) &&
 (da K (fv K "Sum" "reach") "Sum.reach"))))))))))))))))
def F6 (K:Frag):Bool :=
 (isFn K (.ref (cL (fv K "Sum" "reach"))) &&
 (da K (fv K "Field" "__eq__") "Field.__eq__" &&
 (isFn K (.ref (cL (fv K "Field" "__eq__"))) &&
 (da K (fv K "Field" "plus") "Field.plus" &&
 (isFn K (.ref (cL (fv K "Field" "plus"))) &&
 (da K (fv K "Field" "settled") "Field.settled" &&
 (isFn K (.ref (cL (fv K "Field" "settled"))) &&
 (da K (fv K "Field" "is_number") "Field.is_number" &&
 (isFn K (.ref (cL (fv K "Field" "is_number"))) &&
 (da K (fv K "Field" "prime") "Field.prime" &&
 (isFn K (.ref (cL (fv K "Field" "prime"))) &&
 (da K (fv K "Field" "quotient") "Field.quotient" &&
 (isFn K (.ref (cL (fv K "Field" "quotient"))) &&
 (da K (fv K "System" "field") "System.field" &&
 (isFn K (.ref (cL (fv K "System" "field"))) &&
 (da K (fv K "System" "places") "System.places"))))))))))))))))
def Gu (K:Frag):Bool :=
 (isFn K (.ref (cL (fv K "System" "places"))) &&
 (da K (fv K "System" "noughts") "System.noughts" &&
 (isFn K (.ref (cL (fv K "System" "noughts"))) &&
 (da K (fv K "System" "uppers") "System.uppers" &&
 (isFn K (.ref (cL (fv K "System" "uppers"))) &&
 (da K (fv K "Sum" "__init__") "Sum.__init__" &&
 (isFn K (.ref (cL (fv K "Sum" "__init__"))) &&
 (pP K (fv K "Sum" "__init__") &&
 (oy K (lF K (fv K "Sum" "__init__")) (uV) &&
 (da K (fv K "Field" "__init__") "Field.__init__" &&
 (isFn K (.ref (cL (fv K "Field" "__init__"))) &&
 (pP K (fv K "Field" "__init__") &&
 (oy K (lF K (fv K "Field" "__init__")) (FZ 0) &&
 (da K (fv K "Field" "made") "Field.made" &&
 (isFn K (.ref (cL (fv K "Field" "made"))) &&
 (pP K (fv K "Field" "made")))))))))))))))))
def Gd (K:Frag):Bool :=
 (oy K (lF K (fv K "Field" "made")) (FZ 1) &&
 (da K (fv K "System" "__init__") "System.__init__" &&
 (isFn K (.ref (cL (fv K "System" "__init__"))) &&
 (pP K (fv K "System" "__init__") &&
 (oy K (lF K (fv K "System" "__init__")) (uV) &&
 (plainGet K (ga K "Field") Str.empty &&
 (hasDictIn K (ga K "Field") &&
 (plainOver K (ga K "Field") &&
 (jz (fv K "Field" "__setattr__") "object.__setattr__" &&
 (du (fv K "Field" "its_prime") &&
 (((clsIn K (ga K "Field")).isSome&&typeIn K (.ref (ga K "Field"))==some (.type "type")) &&
 (jz (fv K "Field" "__class__") "object.__class__" &&
 (jz (specialIn K (.builtin "object.__class__") "__get__") "getset_descriptor.__get__" &&
 (p6 (takesIn K (.builtin "object.__class__")) true &&
 (p6 (mroIn K (ga K "Field") (.type "object")) true &&
 (plainGet K (ga K "Sum") Str.empty))))))))))))))))
def F5 (K:Frag):Bool :=
 (hasDictIn K (ga K "Sum") &&
 (plainOver K (ga K "Sum") &&
 (jz (fv K "Sum" "__setattr__") "object.__setattr__" &&
 (du (fv K "Sum" "its_field") &&
 (du (fv K "Sum" "its_terms") &&
 (((clsIn K (ga K "Sum")).isSome&&typeIn K (.ref (ga K "Sum"))==some (.type "type")) &&
 (jz (fv K "Sum" "__class__") "object.__class__" &&
 (p6 (mroIn K (ga K "Sum") (.type "object")) true &&
 (plainGet K (ga K "System") Str.empty &&
 (hasDictIn K (ga K "System") &&
 (plainOver K (ga K "System") &&
 (jz (fv K "System" "__setattr__") "object.__setattr__" &&
 (du (fv K "System" "its_field") &&
 (du (fv K "System" "its_places") &&
 (du (fv K "System" "its_noughts") &&
 (du (fv K "System" "its_uppers")))))))))))))))))
def Gh (K:Frag):Bool :=
 (((clsIn K (ga K "System")).isSome&&typeIn K (.ref (ga K "System"))==some (.type "type")) &&
 (jz (fv K "System" "__class__") "object.__class__" &&
 (p6 (mroIn K (ga K "System") (.type "object")) true &&
 (vL K (ga K "PRIMES") cV &&
 (p7 K (ga K "NoField") CN xZ &&
 (p7 K (ga K "NoNumber") CN xZ &&
 (jz (fv K "Field" "__ne__") "object.__ne__" &&
 (makesIn K (ga K "Sum") &&
 (keepIn K (.ref (ga K "Sum")) &&
 (makesIn K (ga K "Field") &&
 (keepIn K (.ref (ga K "Field")) &&
 (makesIn K (ga K "System") &&
 (keepIn K (.ref (ga K "System")))))))))))))))
def qT (K:Frag):Bool:=Gf K&&(F3 K&&(Gj K&&(Ge K&&(F6 K&&(Gu K&&(Gd K&&(F5 K&&(Gh K))))))))
def qy (K:Frag):Bool×List (Option Hd.qh):=(qT K,[aR K (gv K "is_whole"),aR K (gv K "is_place"),aR K (gv K "is_product"),aR K (gv K "is_term"),aR K (gv K "checked_terms"),aR K (gv K "place_of_term"),aR K (gv K "gathered"),aR K (gv K "common_divisor"),aR K (gv K "lowest"),aR K (gv K "inverse"),aR K (gv K "is_wish"),aR K (gv K "checked_wishes"),aR K (gv K "checked_uppers"),aR K (gv K "number_sum"),aR K (gv K "is_edge"),aR K (gv K "checked_web"),aR K (gv K "places_sum"),aR K (gv K "web"),aR K (gv K "web_showing"),aR K (gv K "_law_pool"),aR K (gv K "_law_take"),aR K (gv K "_law_low"),aR K (gv K "_law_made"),aR K (gv K "_law_plus"),aR K (gv K "_law_times"),aR K (gv K "_law_row_key"),aR K (gv K "_law_gathered"),aR K (gv K "_law_multiplied"),aR K (gv K "_law_degree"),aR K (gv K "_law_is_showing"),aR K (gv K "_law_web"),aR K (gv K "_law_web_drawn"),aR K (gv K "_law_is_system"),aR K (gv K "law"),aR K (fv K "Sum" "field"),aR K (fv K "Sum" "terms"),aR K (fv K "Sum" "reach"),aR K (fv K "Field" "__eq__"),aR K (fv K "Field" "plus"),aR K (fv K "Field" "settled"),aR K (fv K "Field" "is_number"),aR K (fv K "Field" "prime"),aR K (fv K "Field" "quotient"),aR K (fv K "System" "field"),aR K (fv K "System" "places"),aR K (fv K "System" "noughts"),aR K (fv K "System" "uppers"),f9 K (fv K "Sum" "__init__"),f9 K (fv K "Field" "__init__"),f9 K (fv K "Field" "made"),f9 K (fv K "System" "__init__")])
def uL:Bool×List (Option Hd.qh):=(true,[dj "is_whole" "is_whole" ((aO 11)),dj "is_place" "is_place" ((aO 12)),dj "is_product" "is_product" ((aO 13)),dj "is_term" "is_term" ((aO 29)),dj "checked_terms" "checked_terms" ((aO 30)),dj "place_of_term" "place_of_term" ((aO 31)),dj "gathered" "gathered" ((aO 32)),dj "common_divisor" "common_divisor" ((aO 17)),dj "lowest" "lowest" ((aO 18)),dj "inverse" "inverse" ((aO 19)),dj "is_wish" "is_wish" ((aO 39)),dj "checked_wishes" "checked_wishes" ((aO 40)),dj "checked_uppers" "checked_uppers" ((aO 41)),dj "number_sum" "number_sum" ((aO 44)),dj "is_edge" "is_edge" ((aO 46)),dj "checked_web" "checked_web" ((aO 47)),dj "places_sum" "places_sum" ((aO 45)),dj "web" "web" ((aO 48)),dj "web_showing" "web_showing" ((aO 49)),dj "_law_pool" "_law_pool" ((aO 51)),dj "_law_take" "_law_take" ((aO 52)),dj "_law_low" "_law_low" ((aO 53)),dj "_law_made" "_law_made" ((aO 54)),dj "_law_plus" "_law_plus" ((aO 55)),dj "_law_times" "_law_times" ((aO 56)),dj "_law_row_key" "_law_row_key" ((aO 57)),dj "_law_gathered" "_law_gathered" ((aO 58)),dj "_law_multiplied" "_law_multiplied" ((aO 59)),dj "_law_degree" "_law_degree" ((aO 60)),dj "_law_is_showing" "_law_is_showing" ((aO 61)),dj "_law_web" "_law_web" ((aO 62)),dj "_law_web_drawn" "_law_web_drawn" ((aO 64)),dj "_law_is_system" "_law_is_system" ((aO 63)),dj "law" "law" ((aO 65)),dj "field" "Sum.field" (aQ (aO 35) 5),dj "terms" "Sum.terms" (aQ (aO 35) 6),dj "reach" "Sum.reach" (aQ (aO 35) 8),dj "__eq__" "Field.__eq__" (aQ (aO 20) 1),dj "plus" "Field.plus" (aQ (aO 20) 6),dj "settled" "Field.settled" (aQ (aO 20) 10),dj "is_number" "Field.is_number" (aQ (aO 20) 11),dj "prime" "Field.prime" (aQ (aO 20) 3),dj "quotient" "Field.quotient" (aQ (aO 20) 5),dj "field" "System.field" (aQ (aO 42) 3),dj "places" "System.places" (aQ (aO 42) 4),dj "noughts" "System.noughts" (aQ (aO 42) 5),dj "uppers" "System.uppers" (aQ (aO 42) 6),dj "__init__" "Sum.__init__" (aQ (aO 35) 0),dj "__init__" "Field.__init__" (aQ (aO 20) 0),dj "made" "Field.made" (aQ (aO 20) 4),dj "__init__" "System.__init__" (aQ (aO 42) 0)])
def p9:List Addr:=[3,30,31,43,44,55,56,126,127,133,134,138,139,140,146,147,153,154,160,161,169,175,176,182,183,196,197,198,204,205,211,212,218,219,246,247,253,254,256,257,293,294,300,301,307,308,312,313,333,339,340,374,375,381,382,393,394,443,444,461,462,468,469,475,476,484,490,491,511,512,518,519,525,526,532,533,547,548,558,559,563,564,570,571,575,576,580,581,585,586,592,593,599,600,606,607,611,612,618,619,625,626,632,633,637,638,644,645,649,650,654,655,659,660,664,665,669,670,674,675]
def cK:Program:={PySem.Challenge.pw_falsesums_k75_odd_sums_round_webs with main:={PySem.Challenge.pw_falsesums_k75_odd_sums_round_webs.main with body:=[aO 0,aO 2,aO 3,aO 4,aO 5,aO 6,aO 7,aO 8,aO 10,aO 11,aO 12,aO 13,aO 15,aO 16,aO 17,aO 18,aO 19,aO 20,aO 22,aO 23,aO 24,aO 25,aO 26,aO 27,aO 29,aO 30,aO 31,aO 32,aO 33,aO 34,aO 35,aO 36,aO 38,aO 39,aO 40,aO 41,aO 42,aO 44,aO 45,aO 46,aO 47,aO 48,aO 49,aO 51,aO 52,aO 53,aO 54,aO 55,aO 56,aO 57,aO 58,aO 59,aO 60,aO 61,aO 62,aO 63,aO 64,aO 65]} }
def lv:List (PySem.Str×WData):=[("STEP",.int 10000000000000000000000000000000000000000000000000000000000000000)]
end K75
namespace Hd
open PySem PySem.W PyProof.Rows
def bare (p:vB)(w:World)(N:Nat):Option (Heap×SharedT):=(fencedOpening treeTable p w N).bind λs₀=>match s₀.heap.isNs mainGlobals&&s₀.gens.size==0 with
 |true=>(EC s₀).bind λx=>(gr treeTable p w s₀.heap.objs.size (s₀.heap.nsMap mainGlobals "__annotations__") N x (topStub p)).map λs₁=>(s₀.heap,s₁)
 |false=>none
theorem abg {p:vB}{w:World}{N:Nat}{h:Heap}{s:SharedT}(e:bare p w N=some (h,s))(c1:staticsOk (importedModules p.main.body) h s.abs.heap=true)(c2:namesBound p s.abs.heap=true)(c3:gensDone s.abs=true)(c4:laidKept h s.abs.heap=true):ck treeTable p w N=some s:=by
 unfold bare at e;obtain⟨s0,e0,e⟩:=Option.bind_eq_some_iff.mp e;unfold ck;rw[e0];show fT treeTable p w N s0=some s;unfold fT
 cases q:(s0.heap.isNs mainGlobals&&s0.gens.size==0) with
 |false=>rw[q] at e;cases e
 |true =>
  rw[q] at e;obtain⟨x,ex,e⟩:=Option.bind_eq_some_iff.mp e;obtain⟨s1,e1,e2⟩:=Option.map_eq_some_iff.mp e
  cases e2
  dsimp only;rw[ex];show Option.bind (gr _ _ _ _ _ _ _ _) _=_;rw[e1];show(match staticsOk (importedModules p.main.body) s0.heap s.abs.heap&&namesBound p s.abs.heap&&gensDone s.abs&&laidKept s0.heap s.abs.heap with|true=>some s|false=>none)=_;rw[c1,c2,c3,c4];rfl
def BE (s:SharedT)(a:Addr):Option Obj:=match Nat.blt a s.n with
 |true=>alive ((s.tree.get a).getD default)
 |false=>none
theorem aaa (s:SharedT)(a:Addr):s.abs.heap.get? a=BE s a:=by
 obtain⟨t,n,life,gens,drawn,toks,os⟩:=s;show(absHeap t n life).get? a=_;unfold BE
 cases h:Nat.blt a n with
 |true =>
  have lt:a<n:=Nat.le_of_ble_eq_true h;unfold Heap.get?;rw[absHeap_at,if_pos lt];generalize (t.get a).getD default=o;obtain⟨c,d,dt,sl⟩:=o
  cases dt <;> rfl
 |false =>
  refine abs_get_none λz=>?_;have:Nat.blt a n=true:=Nat.ble_eq_true_of_le z;rw[this] at h
  cases h
def wG (as:List Addr)(s:SharedT):Frag:=as.filterMap λa=>(BE s a).map λo=>(a,o)
theorem Fun (as:List Addr)(s:SharedT):ux as s.abs.heap=wG as s:=by
 unfold ux wG;congr 1
 funext a
 rw[aaa]
section
variable {p q:vB}{loose:zF}{Xt:Shared->Bool}{α:Type}{Yf:Shared->α}{Ya:World->α}{N:Nat}
theorem aaj (key:∀w,∃h s,bare p w N=some (h,s)/\staticsOk (importedModules p.main.body) h s.abs.heap=true/\(namesBound p s.abs.heap=true/\gensDone s.abs=true/\laidKept h s.abs.heap=true) /\
 (((recsOf q).take 45).map (·.name)).map (s.abs.heap.shapeAt mainGlobals)=((recsOf q).take 45).map (λd=>some d.shape)/\(((recsOf q).drop 45).map (·.name)).map (s.abs.heap.shapeAt mainGlobals)=((recsOf q).drop 45).map (λd=>some d.shape) /\
 ((ownsOf q).all (λo=>s.abs.heap.ownExcOk o.name o.chain o.bm o.newId&&s.abs.heap.quietOk o.name),s.abs.heap.isNs mainGlobals,s.abs.heap.isNs builtinsNs,s.abs.heap.noLimitOk&&s.abs.heap.noDigitsOk)=(true,true,true,true)/\s.abs.heap.bltView=bltViewBooted /\
 s.abs.heap.keysOk (looseW q loose) ((recsOf q).map (·.name)) ((litsOf q).map (·.1)) ((clssOf q (looseW q loose)).map (·.name))=true /\
 (s.abs.heap.accountedOkI (importedModules p.main.body)&&s.abs.heap.isNs mainGlobals&&s.abs.heap.isNs builtinsNs&&tablesOk q s.abs.heap)=true/\(Xt s.abs&&(if true then s.abs.gens.size==0 else !leftWithCleanup s.abs.gens))=true /\
 ((recsOf q).take 45).all (λd=>s.abs.heap.tab0Ok d.name)=true/\((recsOf q).drop 45).all (λd=>s.abs.heap.tab0Ok d.name)=true/\(s.abs.heap.bmainOk&&valsOk q s.abs.heap&&(!importsNone q || s.abs.heap.noSeerOk))=true/\pinSeenD q (drecsOf q) s.abs=pinGoodD (drecsOf q)/\plainSeenE q (looseW q loose) s.abs=plainGoodE q (looseW q loose)/\plainSeenD q loose s.abs=plainGoodD q loose/\wideSeen q s.abs=wideGood q/\clsSeenW q loose s.abs=clsGoodW q loose/\Yf s.abs=Ya w):LeftO p q loose Xt Yf Ya N:=by
 refine aaZ (λw=>?_) (λw=>?_) (λw=>?_) (λw=>?_)
 all_goals
  obtain⟨h,s,e,c1,⟨c2,c3,c4⟩,a1,a3,a4,a2,b1,b2,b3,d1,d7,d8,d2,d3,d4,d5,d6,y⟩:=key w;rw[abg e c1 c2 c3 c4];refine congrArg some ?_
 ·have a5:(((recsOf q).map (·.name)).map (s.abs.heap.shapeAt mainGlobals))=(recsOf q).map (λd=>some d.shape):=by
   conv=>lhs;rw[<-List.take_append_drop 45 (recsOf q)]
   conv=>rhs;rw[<-List.take_append_drop 45 (recsOf q)]
   rw[List.map_append,List.map_append,List.map_append,a1,a3]
  injection a4 with x1 a4
  injection a4 with x2 a4
  injection a4 with x3 x4
  show((⟨_,_,_,_,_,_,_⟩:Seen),_)=_;rw[a5,a2,x1,x2,x3,x4];rfl
 ·obtain⟨b2,x4⟩:=Bool.and_eq_true_iff.mp b2;obtain⟨b2,x3⟩:=Bool.and_eq_true_iff.mp b2;obtain⟨x1,x2⟩:=Bool.and_eq_true_iff.mp b2;obtain⟨x5,x6⟩:=Bool.and_eq_true_iff.mp b3;show(s.abs.heap.keysOk _ _ _ _&&s.abs.heap.accountedOkI _&&s.abs.heap.isNs mainGlobals&&s.abs.heap.isNs builtinsNs&&tablesOk q s.abs.heap&&Xt s.abs&&_)=true;rw[b1,x1,x2,x3,x4,x5,x6];rfl
 ·have t:tabsOk q s.abs=true:=by
   obtain⟨d8,x3⟩:=Bool.and_eq_true_iff.mp d8;obtain⟨x1,x2⟩:=Bool.and_eq_true_iff.mp d8
   have e1:(recsOf q).all (λd=>s.abs.heap.tab0Ok d.name)=true:=by
    rw[<-List.take_append_drop 45 (recsOf q),List.all_append,d1,d7];rfl
   unfold tabsOk;rw[e1,x1,x2,x3];rfl
  show(_,_,_,_,_,_)=_;rw[t,d2,d3,d4,d5,d6]
 ·exact y
theorem at_ {α β:Type}{x:Option α}{f:α->β}{v:β}{y:α}(h:x.map f=some v)(e:x=some y):f y=v:=by
 rw[e] at h;exact Option.some.inj h
end
end Hd
section
open PySem PySem.W PyProof.Rows
set_option maxRecDepth 100000 in
set_option maxHeartbeats 0 in
theorem K75.sd1:PySem.Challenge.rw_falsesums_k75_odd_sums_round_webs.wellSaid=true:=by kernel_rfl
set_option maxRecDepth 100000 in
set_option maxHeartbeats 0 in
theorem K75.sd3:PySem.Challenge.rw_falsesums_k75_odd_sums_round_webs.row.prog.bare:=⟨rfl,rfl,rfl,rfl,rfl,by decide +kernel⟩
set_option maxRecDepth 100000 in
set_option maxHeartbeats 0 in
theorem K75.ran0:∀w,(Hd.bare PySem.Challenge.rw_falsesums_k75_odd_sums_round_webs.row.prog w 9492).map (λs=>(staticsOk (importedModules PySem.Challenge.rw_falsesums_k75_odd_sums_round_webs.row.prog.main.body) s.1 s.2.abs.heap,(namesBound PySem.Challenge.rw_falsesums_k75_odd_sums_round_webs.row.prog s.2.abs.heap,gensDone s.2.abs,laidKept s.1 s.2.abs.heap),(s.2.abs.heap.accountedOkI (importedModules PySem.Challenge.rw_falsesums_k75_odd_sums_round_webs.row.prog.main.body)&&s.2.abs.heap.isNs mainGlobals&&s.2.abs.heap.isNs builtinsNs&&tablesOk K75.cK s.2.abs.heap),((λs=>xlAt K75.cK K75.lv s&&recOk (PySem.Challenge.rw_falsesums_k75_odd_sums_round_webs.row.toRowW).records s) s.2.abs&&(if true then s.2.abs.gens.size==0 else !leftWithCleanup s.2.abs.gens))))=some (true,(true,true,true),true,true):=by
 intro w;kernel_rfl
set_option maxRecDepth 100000 in
set_option maxHeartbeats 0 in
theorem K75.ran1:∀w,(Hd.bare PySem.Challenge.rw_falsesums_k75_odd_sums_round_webs.row.prog w 9492).map (λs=>((((recsOf K75.cK).take 45).map (·.name)).map (s.2.abs.heap.shapeAt mainGlobals),((recsOf K75.cK).take 45).all (λd=>s.2.abs.heap.tab0Ok d.name)))=some (((recsOf K75.cK).take 45).map (λd=>some d.shape),true):=by
 intro w;kernel_rfl
set_option maxRecDepth 100000 in
set_option maxHeartbeats 0 in
theorem K75.ran2:∀w,(Hd.bare PySem.Challenge.rw_falsesums_k75_odd_sums_round_webs.row.prog w 9492).map (λs=>((((recsOf K75.cK).drop 45).map (·.name)).map (s.2.abs.heap.shapeAt mainGlobals),((recsOf K75.cK).drop 45).all (λd=>s.2.abs.heap.tab0Ok d.name)))=some (((recsOf K75.cK).drop 45).map (λd=>some d.shape),true):=by
 intro w;kernel_rfl
set_option maxRecDepth 100000 in
set_option maxHeartbeats 0 in
theorem K75.ran3:∀w,(Hd.bare PySem.Challenge.rw_falsesums_k75_odd_sums_round_webs.row.prog w 9492).map (λs=>s.2.abs.heap.keysOk (looseW K75.cK ["Field","STEP"]) ((recsOf K75.cK).map (·.name)) ((litsOf K75.cK).map (·.1)) ((clssOf K75.cK (looseW K75.cK ["Field","STEP"])).map (·.name)))=some (true):=by
 intro w;kernel_rfl
set_option maxRecDepth 100000 in
set_option maxHeartbeats 0 in
theorem K75.ran4:∀w,(Hd.bare PySem.Challenge.rw_falsesums_k75_odd_sums_round_webs.row.prog w 9492).map (λs=>(pinSeenD K75.cK (drecsOf K75.cK) s.2.abs,K75.qy (Hd.wG K75.p9 s.2)))=some (pinGoodD (drecsOf K75.cK),K75.uL):=by
 intro w;kernel_rfl
set_option maxRecDepth 100000 in
set_option maxHeartbeats 0 in
theorem K75.ran5:∀w,(Hd.bare PySem.Challenge.rw_falsesums_k75_odd_sums_round_webs.row.prog w 9492).map (λs=>plainSeenE K75.cK (looseW K75.cK ["Field","STEP"]) s.2.abs)=some (plainGoodE K75.cK (looseW K75.cK ["Field","STEP"])):=by
 intro w;kernel_rfl
set_option maxRecDepth 100000 in
set_option maxHeartbeats 0 in
theorem K75.ran6:∀w,(Hd.bare PySem.Challenge.rw_falsesums_k75_odd_sums_round_webs.row.prog w 9492).map (λs=>(plainSeenD K75.cK ["Field","STEP"] s.2.abs,clsSeenW K75.cK ["Field","STEP"] s.2.abs,s.2.abs.heap.bltView))=some (plainGoodD K75.cK ["Field","STEP"],clsGoodW K75.cK ["Field","STEP"],bltViewBooted):=by
 intro w;kernel_rfl
set_option maxRecDepth 100000 in
set_option maxHeartbeats 0 in
theorem K75.ran7:∀w,(Hd.bare PySem.Challenge.rw_falsesums_k75_odd_sums_round_webs.row.prog w 9492).map (λs=>wideSeen K75.cK s.2.abs)=some (wideGood K75.cK):=by
 intro w;kernel_rfl
set_option maxRecDepth 100000 in
set_option maxHeartbeats 0 in
theorem K75.ran8:∀w,(Hd.bare PySem.Challenge.rw_falsesums_k75_odd_sums_round_webs.row.prog w 9492).map (λs=>(((ownsOf K75.cK).all (λo=>s.2.abs.heap.ownExcOk o.name o.chain o.bm o.newId&&s.2.abs.heap.quietOk o.name),s.2.abs.heap.isNs mainGlobals,s.2.abs.heap.isNs builtinsNs,s.2.abs.heap.noLimitOk&&s.2.abs.heap.noDigitsOk),(s.2.abs.heap.bmainOk&&valsOk K75.cK s.2.abs.heap&&(!importsNone K75.cK || s.2.abs.heap.noSeerOk))))=some ((true,true,true,true),true):=by
 intro w;kernel_rfl
end
namespace L2
open PySem PySem.Spec PyProof.Rows
abbrev Key:=Sum Int Str
def l9:Key->Value->Bool
 | .inl k,v=>Value.isInt k v
 | .inr x,v=>Value.isStrOf x v
def aaX (w:World):Key->Int
 | .inl k=>hashInt k
 | .inr x=>hashStr w x
theorem bR:∀{k:Key}{v:Value},l9 k v=true->(∃i t,k=Sum.inl i/\v=Value.int i t)\/(∃x t,k=Sum.inr x/\v=Value.str x t)
 | .inl i,v,h=>by
   obtain⟨t,e⟩:=Value.isInt_shape (k:=i) (v:=v) h;exact .inl ⟨i,t,rfl,e⟩
 | .inr x,v,h=>by
   obtain⟨t,e⟩:=Value.isStrOf_shape (x:=x) (v:=v) h;exact .inr ⟨x,t,rfl,e⟩
theorem aa6 (i:Int)(t:Tok):l9 (.inl i) (.int i t)=true:=by simp[l9,Value.isInt]
theorem abk (x:Str)(t:Tok):l9 (.inr x) (.str x t)=true:=by simp[l9,Value.isStrOf]
theorem abf (a b:Int):decide ((Sum.inl a:Key)=Sum.inl b)=(a==b):=by
 by_cases e:a=b
 ·subst e;simp
 ·have h:¬(Sum.inl a:Key)=Sum.inl b:=λq=>e (Sum.inl.inj q);rw[decide_eq_false h];exact(beq_eq_false_iff_ne.mpr e).symm
theorem aaf (a b:Str):decide ((Sum.inr a:Key)=Sum.inr b)=decide (a=b):=by
 by_cases e:a=b
 ·subst e;simp
 ·have h:¬(Sum.inr a:Key)=Sum.inr b:=λq=>e (Sum.inr.inj q);rw[decide_eq_false h,decide_eq_false e]
theorem abi (a:Int)(b:Str):decide ((Sum.inl a:Key)=Sum.inr b)=false:=decide_eq_false (λq=>nomatch q)
theorem aap (a:Str)(b:Int):decide ((Sum.inr a:Key)=Sum.inl b)=false:=decide_eq_false (λq=>nomatch q)
def bN (prog:vB)(w:World):PySem.KeyKind prog w Key where
 is:=l9
 hash:=aaX w
 inj:=λv a b ha hb=>by
  rcases bR ha with⟨i,t,rfl,rfl⟩|⟨x,t,rfl,rfl⟩
  ·rcases bR hb with⟨j,u,rfl,e⟩|⟨y,u,rfl,e⟩
   ·injection e with e1 _;rw[e1]
   ·exact nomatch e
  ·rcases bR hb with⟨j,u,rfl,e⟩|⟨y,u,rfl,e⟩
   ·exact nomatch e
   ·injection e with e1 _;rw[e1]
 byValue:=λk v h=>by
  rcases bR h with⟨i,t,rfl,rfl⟩|⟨x,t,rfl,rfl⟩ <;> rfl
 pyHash:=λhv h=>by
  rcases bR hv with⟨i,t,rfl,rfl⟩|⟨x,t,rfl,rfl⟩
  ·exact wpAny_pyHash_int h
  ·exact wpAny_pyHash_str h
 eqBool:=λhu hv h=>by
  rcases bR hu with⟨i,t,rfl,rfl⟩|⟨x,t,rfl,rfl⟩
  ·rcases bR hv with⟨j,u,rfl,rfl⟩|⟨y,u,rfl,rfl⟩
   ·rw[abf] at h;exact wpAny_eqBool_int h
   ·rw[abi] at h;exact SeqAt.EqAt.int_str i t y u _ _ _ _ h
  ·rcases bR hv with⟨j,u,rfl,rfl⟩|⟨y,u,rfl,rfl⟩
   ·rw[aap] at h;exact SeqAt.EqAt.str_int x t j u _ _ _ _ h
   ·rw[aaf] at h;exact wpAny_eqBool_str h
 «strs»:=λk x t v h=>by
  rcases bR h with⟨i,u,rfl,e⟩|⟨y,u,rfl,e⟩
  ·exact nomatch e
  ·injection e with e1 _
   subst e1
   cases v <;> rfl
theorem aas (prog:vB)(w:World)(i:Int)(t:Tok):(bN prog w).is (.inl i) (.int i t)=true:=aa6 i t
theorem Gth (prog:vB)(w:World)(x:Str)(t:Tok):(bN prog w).is (.inr x) (.str x t)=true:=abk x t
inductive V where
 |non|bl (b:Bool)|int (i:Int)|str (x:Str)|byt (b:Array UInt8)|flt (b:UInt64)|ref (a:Addr)|ty (n:String)
 deriving DecidableEq
def aE:V->Value->Prop
 | .non,u=>u=Value.none
 | .bl b,u=>u=Value.bool b
 | .int i,u=>∃t,u=Value.int i t
 | .str x,u=>∃t,u=Value.str x t
 | .byt b,u=>∃t,u=Value.bytes b t
 | .flt b,u=>∃t,u=Value.float b t
 | .ref a,u=>u=Value.ref a
 | .ty n,u=>u=Value.type n
abbrev aL:List V->List Value->Prop:=Paired aE
variable {us:nv}
theorem aL.length {xs:List V}(r:aL xs us):xs.length=us.length:=Paired.length r
theorem aL.get:∀{xs:List V}{us:nv}{i:Nat}{x:V},aL xs us->xs[i]?=some x->∃u,us[i]?=some u/\aE x u
 |_,_,_,_,.nil,e=>by simp at e
 |_,_,0,_,.cons r _,e=>by simp at e;subst e;exact⟨_,rfl,r⟩
 |_,_,i+1,x,.cons _ t,e=>by
  obtain⟨u,h1,h2⟩:=aL.get (i:=i) (x:=x) t (by simpa using e);exact⟨u,by simpa using h1,h2⟩
variable {u:Value}
theorem aL.set {x:V}(r:aE x u):∀{xs:List V}{us:nv}(i:Nat),aL xs us->aL (xs.set i x) (us.set i u)
 |_,_,_,.nil=>.nil
 |_,_,0,.cons _ t=>.cons r t
 |_,_,i+1,.cons q t=>.cons q (aL.set r i t)
theorem aL.append:∀{xs ys:List V}{us ws:nv},aL xs us->aL ys ws->aL (xs++ys) (us++ws)
 |_,_,_,_,.nil,s=>s
 |_,_,_,_,.cons r t,s=>.cons r (aL.append t s)
theorem aL.take:∀{xs:List V}{us:nv}(n:Nat),aL xs us->aL (xs.take n) (us.take n)
 |_,_,0,_=>.nil
 |_,_,_+1,.nil=>.nil
 |_,_,n+1,.cons r t=>.cons r (aL.take n t)
theorem aL.drop:∀{xs:List V}{us:nv}(n:Nat),aL xs us->aL (xs.drop n) (us.drop n)
 |_,_,0,r=>r
 |_,_,_+1,.nil=>.nil
 |_,_,n+1,.cons _ t=>aL.drop n t
def fO:Option V->Option Value->Prop
 |some v,some u=>aE v u
 |none,none=>True
 |_,_=>False
def KV {κ:Type}:List (κ×V)->List (κ×Value)->Prop:=Paired λ(p:κ×V)(q:κ×Value)=>p.1=q.1/\aE p.2 q.2
def kV:Key->V
 | .inl i=>.int i
 | .inr x=>.str x
inductive HO where
 /-- a list -/
 |lst (xs:List V)
 /-- a tuple (never changes) -/
 |tup (xs:List V)
 /-- a dict M7 keys are ints and texts;one M7 keys are tuples of ints and texts (JW empty one is both) -/
 |dK (GH:List (Key×V))|dT (GH:List (List Key×V))
 /-- a set of ints: its members,its size -/
 |set (S:Int->Bool)(n:Nat)
 /-- an instance of JW class at C,its dict at dx,its attributes -/
 |ins (C dx:Addr)(fs:List (Str×V))
 /-- JW dict of JW instance at x -/
 |own (x:Addr)
 /-- JW dict of an exception -/
 |xd (fs:List (Str×V))
 /-- a bound method,f of x -/
 |met (f x:Addr)
 /-- a range object lo,lo+1,.. below hi -/
 |rng (lo hi:Int)
 /-- a M8 Yr is known to JW object (JW RG;a dict while a iA Ax it): read,never written while it is so -/
 |frz (o:Obj)(u:HO)
 /-- a code M9 table -/
 |tbl (ps:t6)
 /-- any other M8,by Ys is true of its one object (a def of V9 own: Yt a S n:=HO.ext λh=>..) -/
 |ext (φ:Heap->Prop)
abbrev Hp:=Addr->Option HO
def upd (H:Hp)(a:Addr)(o:HO):Hp:=λb=>if b=a then some o else H b
variable {H:Hp}{a:Addr}{o:HO}
theorem ae :upd H a o a=some o:=by unfold upd;rw[if_pos rfl]
variable {b:Addr}
theorem ar (h:b≠a):upd H a o b=H b:=by unfold upd;rw[if_neg h]
theorem abt {u:HO}:upd (upd H a o) a u=upd H a u:=by
 funext b;unfold upd;split <;> rfl
theorem Aw {u:HO}(h:H a=some o)(h':H b=some u)(d:o≠u):a≠b:=by
 intro e;subst e;rw[h] at h';exact d (Option.some.inj h')
theorem au (h:H a=some o)(h':H b=none):a≠b:=by
 intro e;subst e;rw[h] at h';cases h'
section
variable (P:vB)(w:World)
def bt (H:Hp)(h:Heap)(a:Addr):HO->Prop
 | .lst xs=>xs.length<=sizeLine/\∃(its:nv)(n:Nat),aL xs its/\h.get? a=some {cls:=.type "list",data:=.seq its.toArray n}
 | .tup xs=>xs.length<=sizeLine/\∃its:List Value,aL xs its/\IsTup h a its.toArray
 | .dK GH=>GH.length<=sizeLine/\(a==sysModules)=false/\∃vs,KV GH vs/\h.DictOf (bN P w) a vs
 | .dT GH=>GH.length<=sizeLine/\(a==sysModules)=false/\∃xs:List (List Key×Addr×Value),
  Paired (λ(p:List Key×V)(q:List Key×Addr×Value)=>p.1=q.1/\H q.2.1=some (.tup (p.1.map kV))/\aE p.2 q.2.2) GH xs /\
  ∃o es ep,h.get? a=some o/\o.ExactDict/\o.data=.dict es ep/\es.toList=xs.map (entryOfKey (tupleKind (bN P w)))/\(xs.map (·.1)).Nodup
 | .set S n=>h.SetOf (intKind P w) a S n
 | .ins C dx fs=>H dx=some (.own a)/\fs.length<=1000/\dx≠a/\h.get? a=some (PySem.W.instObj C dx) /\
  ∃mA,h.Ns1 dx mA/\(∀f,fO (fs.lookup f) (mA f))/\PySem.Within mA (fs.map (·.1))
 | .own _=>∃o,h.get? a=some o
 | .xd fs=>∃mA,h.Ns1 a mA/\∀f,fO (fs.lookup f) (mA f)
 | .rng lo hi=>∃t u v,h.get? a=some {cls:=.type "range",data:=.fields #[.int lo t,.int hi u,.int 1 v]}
 | .frz o u=>h.get? a=some o/\bt H h a u
 | .tbl ps=>h.get? a=some {cls:=.none,data:=.fields ps}
 | .met f x=>h.get? a=some (PySem.W.methodObj (.ref f) (.ref x))
 | .ext φ=>φ h/\(∃o,h.get? a=some o)/\∀h1 h2:Heap,φ h1->(∀o,h1.get? a=some o->h2.get? a=some o)->φ h2
def fR (H:Hp)(h:Heap):Prop:=∀a o,H a=some o->bt P w H h a o
end
section
variable {P:vB}{w:World}{H H':Hp}{h h':Heap}{a:Addr}{o:HO}
theorem bt.lt (x:bt P w H h a o):a<h.objs.size:=by
 cases o with
 |lst xs=>obtain⟨_,_,_,_,e⟩:=x;exact Heap.lt_size e
 |tup xs=>obtain⟨_,_,_,p⟩:=x;exact p.lt
 |dK GH=>obtain⟨_,_,_,_,o,_,_,e,_⟩:=x;exact Heap.lt_size e
 |dT GH=>obtain⟨_,_,_,_,o,_,_,e,_⟩:=x;exact Heap.lt_size e
 |set S n=>obtain⟨o,_,_,_,e,_⟩:=x;exact Heap.lt_size e
 |ins C dx fs=>obtain⟨_,_,_,e,_⟩:=x;exact Heap.lt_size e
 |own y=>obtain⟨_,e⟩:=x;exact Heap.lt_size e
 |xd fs=>obtain⟨_,⟨_,_,_,e,_⟩,_⟩:=x;exact Heap.lt_size e
 |rng lo hi=>obtain⟨_,_,_,e⟩:=x;exact Heap.lt_size e
 |frz ob u=>obtain⟨e,_⟩:=x;exact Heap.lt_size e
 |tbl ps=>exact Heap.lt_size (show h.get? a=some _ from x)
 |met f y=>exact Heap.lt_size (show h.get? a=some _ from x)
 |ext φ=>obtain⟨_,⟨_,e⟩,_⟩:=x;exact Heap.lt_size e
theorem Paired.aat {α β:Type}{F G:α->β->Prop}:∀{l₁:List α}{l₂:List β},Paired F l₁ l₂->(∀a b,F a b->G a b)->Paired G l₁ l₂
 |_,_,.nil,_=>.nil
 |_,_,.cons r t,f=>.cons (f _ _ r) (Paired.aat t f)
theorem bt.aa1 (x:bt P w H h a o)(k:∀b u,(b=a\/H b=some (.own a))->h.get? b=some u->h'.get? b=some u)
 (ho:∀b,H b=some (.own a)->H' b=some (.own a))(ht:∀b xs,H b=some (.tup xs)->H' b=some (.tup xs)):bt P w H' h' a o:=by
 induction o with
 |lst xs=>obtain⟨z,its,n,r,e⟩:=x;exact⟨z,its,n,r,k _ _ (.inl rfl) e⟩
 |tup xs=>obtain⟨z,its,r,ob,e,c⟩:=x;exact⟨z,its,r,ob,k _ _ (.inl rfl) e,c⟩
 |dK GH=>obtain⟨z,y,vs,r,ob,es,ep,e,c⟩:=x;exact⟨z,y,vs,r,ob,es,ep,k _ _ (.inl rfl) e,c⟩
 |dT GH =>
  obtain⟨z,y,xs,r,ob,es,ep,e,c⟩:=x;exact⟨z,y,xs,Paired.aat r λp q z=>⟨z.1,ht _ _ z.2.1,z.2.2⟩,ob,es,ep,k _ _ (.inl rfl) e,c⟩
 |set S n=>obtain⟨ob,es,ep,t,e,c⟩:=x;exact⟨ob,es,ep,t,k _ _ (.inl rfl) e,c⟩
 |ins C dx fs =>
  obtain⟨d,z,ne,e,mA,⟨od,es,ep,e2,c⟩,r⟩:=x;exact⟨ho _ d,z,ne,k _ _ (.inl rfl) e,mA,⟨od,es,ep,k _ _ (.inr d) e2,c⟩,r⟩
 |own y=>obtain⟨ob,e⟩:=x;exact⟨ob,k _ _ (.inl rfl) e⟩
 |xd fs=>obtain⟨mA,⟨od,es,ep,e,c⟩,r⟩:=x;exact⟨mA,⟨od,es,ep,k _ _ (.inl rfl) e,c⟩,r⟩
 |rng lo hi=>obtain⟨t,u,v,e⟩:=x;exact⟨t,u,v,k _ _ (.inl rfl) e⟩
 |frz ob u ih=>obtain⟨e,q⟩:=x;exact⟨k _ _ (.inl rfl) e,ih q⟩
 |tbl ps =>
  have e:h.get? a=some {cls:=.none,data:=.fields ps}:=x;show h'.get? a=some {cls:=.none,data:=.fields ps};exact k a _ (.inl rfl) e
 |met f y =>
  have e:h.get? a=some (PySem.W.methodObj (.ref f) (.ref y)):=x;show h'.get? a=some (PySem.W.methodObj (.ref f) (.ref y));exact k a _ (.inl rfl) e
 |ext φ=>obtain⟨p,⟨o,e⟩,st⟩:=x;exact⟨st _ _ p λo q=>k _ _ (.inl rfl) q,⟨o,k _ _ (.inl rfl) e⟩,st⟩
theorem fR.lt (x:fR P w H h)(e:H a=some o):a<h.objs.size:=(x a o e).lt
theorem fR.fresh (x:fR P w H h)(e:h.objs.size<=a):H a=none:=by
 cases q:H a with
 |none=>rfl
 |some u=>exact absurd (Nat.lt_of_lt_of_le (x.lt q) e) (Nat.lt_irrefl _)
theorem fR.kept (x:fR P w H h)(k:∀b u,h.get? b=some u->h'.get? b=some u):fR P w H h':=λa o e =>
 (x a o e).aa1 (λb u _ q=>k b u q) (λ_ q=>q) λ_ _ q=>q
theorem fR.laid (x:fR P w H h)(k:∀b u,h.get? b=some u->h'.get? b=some u)(hp:h.objs.size<=a)(new:bt P w (upd H a o) h' a o):fR P w (upd H a o) h':=λb u e=>by
 have hn:=x.fresh hp
 by_cases hb:b=a
 ·subst hb;rw[ae] at e;cases e;exact new
 ·rw[ar hb] at e
  exact(x b u e).aa1 (λc v _ q=>k c v q) (λc q=>by rw[ar (au q hn)];exact q) λc xs q=>by rw[ar (au q hn)];exact q
end
def Rd (H:Hp)(a:Addr)(u:HO):Prop:=H a=some u\/∃o,H a=some (.frz o u)
variable {P:vB}{w:World}{h:Heap}
theorem Rd.ok {u:HO}(r:Rd H a u)(x:fR P w H h):bt P w H h a u:=by
 rcases r with r|⟨o,r⟩
 ·exact x a u r
 ·obtain⟨_,q⟩:=x a _ r;exact q
def DH:Option HO->Prop
 |some (.lst _)=>True
 |some (.dK _)=>True
 |some (.dT _)=>True
 |some (.set _ _)=>True
 |some (.ins _ _ _)=>True
 |some (.ext _)=>True
 |_=>False
section
variable {P:vB}{w:World}{H:Hp}{h h':Heap}{x e:Addr}{o':HO}
theorem fR.write (ok:fR P w H h)(mu:DH (H x))(he:e=x\/H e=some (.own x))(k:∀b u,b≠e->h.get? b=some u->h'.get? b=some u)(MJ:∃u,h'.get? e=some u)
 (new:bt P w (upd H x o') h' x o'):fR P w (upd H x o') h':=λb u q=>by
 have Na:∀c y,H c=some (.own y)->c≠x:=λc y r z=>by subst z;rw[r] at mu;exact mu
 have RH:∀c xs,H c=some (.tup xs)->c≠x:=λc xs r z=>by subst z;rw[r] at mu;exact mu
 by_cases hb:b=x
 ·subst hb;rw[ae] at q;cases q;exact new
 ·rw[ar hb] at q
  by_cases Lq:b=e
  ·have q':H b=some (.own x):=by
    rcases he with z|z
    ·exact absurd (Lq.trans z) hb
    ·rw[Lq];exact z
   rw[q] at q';cases q';obtain⟨v,hv⟩:=MJ;exact⟨v,by rw[Lq];exact hv⟩
  ·refine(ok b u q).aa1 (λc v hc r=>k c v ?_ r) (λc r=>by rw[ar (Na c b r)];exact r) λc xs r=>by rw[ar (RH c xs r)];exact r
   rcases hc with rfl|hc
   ·exact Lq
   ·rintro rfl
    rcases he with z|z
    ·exact Na c b hc z
    ·rw[hc] at z;cases z;exact hb rfl
end
structure Un (fs ex:List Addr)(H H':Hp)(h h':Heap):Prop where
 keep:∀b o,h.get? b=some o->H b=none->b∉fs->b∉ex->h'.get? b=some o
 slot:∀b o,h.get? b=some o->H b=none->b∈fs->b∉ex->∃sl,h'.get? b=some {o with slots:=sl}
 free:∀b o,h.get? b=some o->H b=none->b∉ex->H' b=none
 there:∀b o,h.get? b=some o->b∉ex->∃o',h'.get? b=some o'
 aao:∀b xs,H b=some (.tup xs)->H' b=some (.tup xs)
 aal:∀b o u,H b=some (.frz o u)->H' b=some (.frz o u)
 aau:∀b ps,H b=some (.tbl ps)->∃more,H' b=some (.tbl (ps++more))
section
variable {fs Yu ex ex':List Addr}{H H1 H2:Hp}{h h1 h2 h':Heap}{a x e:Addr}{o:HO}
theorem Un.any (u:Un fs ex H H1 h h1){ob:Obj}(q:h.get? b=some ob)(n:H b=none)(hx:b∉ex):∃sl,h1.get? b=some {ob with slots:=sl}:=by
 by_cases hb:b∈fs
 ·exact u.slot b ob q n hb hx
 ·exact⟨ob.slots,u.keep b ob q n hb hx⟩
theorem Un.kept (k:∀b u,h.get? b=some u->h'.get? b=some u):Un fs ex H H h h' :=
 ⟨λb ob q _ _ _=>k b ob q,λb ob q _ _ _=>⟨ob.slots,k b ob q⟩,λ_ _ _ n _=>n,λb ob q _=>⟨ob,k b ob q⟩,λ_ _ q=>q,λ_ _ _ q=>q,λ_ ps q=>⟨#[],by rw[q];simp⟩⟩
theorem Un.refl:Un fs ex H H h h:=Un.kept λ_ _ q=>q
theorem Un.laid (k:∀b u,h.get? b=some u->h'.get? b=some u)(hp:h.objs.size<=a)(hn:H a=none):Un fs ex H (upd H a o) h h' where
 keep:=λb u q _ _ _=>k b u q
 slot:=λb u q _ _ _=>⟨u.slots,k b u q⟩
 free:=λb u q n _=>by rw[ar (Nat.ne_of_lt (Nat.lt_of_lt_of_le (Heap.lt_size q) hp))];exact n
 there:=λb u q _=>⟨u,k b u q⟩
 aao:=λb xs q=>by rw[ar (au q hn)];exact q
 aal:=λb u xs q=>by rw[ar (au q hn)];exact q
 aau:=λb ps q=>⟨#[],by rw[ar (au q hn),q];simp⟩
theorem Un.write (mu:DH (H x))(he:e=x\/H e=some (.own x))(k:∀b u,b≠e->h.get? b=some u->h'.get? b=some u)(MJ:∃u,h'.get? e=some u):Un fs ex H (upd H x o) h h':=by
 have hx:∀b,H b=none->b≠x:=λb n z=>by subst z;rw[n] at mu;exact mu
 have hb:∀b,H b=none->b≠e:=λb n z=>by
  subst z
  rcases he with r|r
  ·exact hx b n r
  ·rw[n] at r;cases r
 have hm:∀b u,H b=some u->¬DH (some u)->b≠x:=λb u q nm z=>by subst z;rw[q] at mu;exact nm mu
 refine⟨λb u q n _ _=>k b u (hb b n) q,λb u q n _ _=>⟨u.slots,k b u (hb b n) q⟩,λb u q n _=>by rw[ar (hx b n)];exact n,λb u q _=>?_,
  λb xs q=>by rw[ar (hm b _ q λz=>z)];exact q,λb u xs q=>by rw[ar (hm b _ q λz=>z)];exact q,λb ps q=>⟨#[],by rw[ar (hm b _ q λz=>z),q];simp⟩⟩
 by_cases Lq:b=e
 ·subst Lq;exact MJ
 ·exact⟨u,k b u Lq q⟩
end
def EJ (h:Heap)(H:Hp):List Addr:=(List.range h.objs.size).filter λa=>(H a).isSome
def lK (h:Heap)(H:Hp):Heap:=PySem.W.hideAll h (EJ h H)
theorem aax (h:Heap)(H:Hp):(lK h H).objs.size=h.objs.size:=PySem.W.hideAll_size _ _
theorem aay {o:Obj}(e:h.get? b=some o)(n:H b=none):(lK h H).get? b=some o :=
 PySem.W.hideAll_get _ e λhm=>by
  have q:(H b).isSome=true:=(List.mem_filter.mp hm).2;rw[n] at q;simp at q
theorem abu {o:Obj}(e:(lK h H).get? b=some o):h.get? b=some o/\H b=none:=by
 have e':h.get? b=some o:=PySem.W.of_hideAll (EJ h H) e;refine⟨e',?_⟩
 cases q:H b with
 |none=>rfl
 |some x =>
  have hm:b∈EJ h H:=List.mem_filter.mpr ⟨List.mem_range.mpr (Heap.lt_size e'),by simp[q]⟩;have z:(lK h H).get? b=none:=PySem.W.hideAll_none (EJ h H) hm;rw[z] at e;cases e
structure Mod (K:PySem.W.Frag)(mg:vW)(base:Heap):Prop where
 kin:K.In base
 glob:base.Ns mainGlobals mg
 blt:∃mb,base.Ns builtinsNs mb/\∀x:Str,x ≠ "__name__"->mb x=bootBuiltins x
 nolimit:base.NoLimit
structure Cx where
 prog:Program
 w:World
 K:PySem.W.Frag
 mg:Str->Option Value
 base:Heap
 A:Around
 N:List Str
 s₀:Shared
 H₀:Hp
 env:Env
 outer:List Env
 stack:List Env
 ex:List Addr
 fn:Str->Bool
 calm:Bool
 pn:List (Addr×Obj)
 xe:Value->Shared->Prop
def dG (l:List Env):List Addr:=l.filterMap (·.frame)
abbrev Cx.fs (X:Cx):List Addr:=dG X.outer
def Ef (sc:Scope)(x:Str):Prop:=sc.names.lookup x=some .local\/sc.names.lookup x=some .cell\/sc.names.lookup x=some .free
def CI (sc:Scope)(x:Str):Prop:=sc.names.lookup x=some .local\/sc.names.lookup x=some .cell
def isI (env:Env)(h:Heap)(m:vW)(x:Str)(u:Value):Prop :=
 (env.kindOf x=some .local/\m x=some u)\/((env.kindOf x=some .cell\/env.kindOf x=some .free)/\∃c,env.cells.lookup x=some c/\h.IsCell c (some u))
structure Cx.Ok (X:Cx):Prop where
 mod:Mod X.K X.mg X.base
 kind:X.env.scope.kind=.function
 glob:X.env.globals=mainGlobals
 blt:X.env.builtins=builtinsNs
 above:X.s₀.heap.objs.size<=X.env.locals
 inj:∀x y c,X.env.cells.lookup x=some c->X.env.cells.lookup y=some c->x=y
 has:∀x,(X.env.kindOf x=some .cell\/X.env.kindOf x=some .free)->∃c,X.env.cells.lookup x=some c
 cab:∀x c,X.fn x=true->X.env.cells.lookup x=some c->X.s₀.heap.objs.size<=c
 hd:X.calm=true->X.A.handled=none
 frames:X.A.frames=some X.stack
 stk:X.stack=X.outer\/(X.stack=X.env::X.outer/\X.env.frame=some X.env.locals)
 exf:∀b∈X.ex,b≠X.env.locals/\∀x c,X.env.cells.lookup x=some c->c≠b
 bs:∀b o,X.base.get? b=some o->X.s₀.heap.get? b=some o/\X.H₀ b=none
 bsz:X.base.objs.size<=X.s₀.heap.objs.size
 abh:∀b o,X.base.get? b=some o->b∉X.ex
 aby:∀b∈X.ex,b∉X.fs
 aaC:X.s₀.heap.FunFrames X.base X.outer
 frf:∀b∈X.fs,X.H₀ b=none
structure Inv (X:Cx)(pins:List (Addr×Obj))(σ:List (Option V))(H:Hp)(s:GB):Prop where
 ok:X.Ok
 os:s.os=X.s₀.os
 bare:AllBare s.gens
 base:Un X.fs X.ex X.H₀ H X.s₀.heap s.heap
 loc:∃m,s.heap.Ns X.env.locals m/\∀(i:Nat)(x:Str)(v:V),X.N[i]?=some x->σ[i]?=some (some v)->Ef X.env.scope x->∃u,aE v u/\isI X.env s.heap m x u
 cell:∀x c,X.env.cells.lookup x=some c->∃v,s.heap.IsCell c v
 free:H X.env.locals=none
 aam:∀x c,X.env.cells.lookup x=some c->H c=none
 pin:∀p∈X.pn++pins,s.heap.get? p.1=some p.2/\H p.1=none/\p.1≠X.env.locals/\p.1∉X.fs/\∀v,p.2.data≠.cell v
 hok:fR X.prog X.w H s.heap
 len:σ.length=X.N.length
variable {N:zF}{i:Nat}{x:Str}{M:Model}{A:Around}
section
variable {X:Cx}{pins:List (Addr×Obj)}{σ:List (Option V)}{H H':Hp}{s:GB}{h':Heap}
theorem Cx.Ok.ac1 (ok:X.Ok){o:Obj}(e:X.base.get? b=some o):b∉X.fs:=λhb=>by
 have:=(ok.aaC.mem hb).1;rw[e] at this;cases this
theorem Inv.bs (I:Inv X pins σ H s):∀b o,X.base.get? b=some o->s.heap.get? b=some o/\H b=none:=λb o e =>
 ⟨I.base.keep b o (I.ok.bs b o e).1 (I.ok.bs b o e).2 (I.ok.ac1 e) (I.ok.abh b o e),I.base.free b o (I.ok.bs b o e).1 (I.ok.bs b o e).2 (I.ok.abh b o e)⟩
theorem Inv.bk (I:Inv X pins σ H s):∀b o,X.base.get? b=some o->s.heap.get? b=some o:=λb o e=>(I.bs b o e).1
theorem Inv.mod (I:Inv X pins σ H s):Mod X.K X.mg X.base:=I.ok.mod
theorem Inv.kIn (I:Inv X pins σ H s):X.K.In s.heap:=I.ok.mod.kin.keeps I.bk
theorem Inv.fr (I:Inv X pins σ H s):∃m,Fr X.base X.env.locals s.heap m :=
 let⟨m,hn,_⟩:=I.loc
 ⟨m,hn,I.bk,Nat.le_trans I.ok.bsz I.ok.above⟩
theorem Inv.lt (I:Inv X pins σ H s):X.env.locals<s.heap.objs.size:=let⟨_,hn,_⟩:=I.loc;hn.lt
theorem Inv.sz (I:Inv X pins σ H s):X.s₀.heap.objs.size<=s.heap.objs.size:=Nat.le_trans I.ok.above (Nat.le_of_lt I.lt)
theorem Inv.abz (I:Inv X pins σ H s)(h:s.heap.objs.size<=a):a∉X.fs:=λhb=>by
 obtain⟨_,o,ho,_⟩:=I.ok.aaC.mem hb;exact absurd (Nat.lt_of_lt_of_le (Heap.lt_size ho) (Nat.le_trans I.sz h)) (Nat.lt_irrefl _)
theorem Inv.cne (I:Inv X pins σ H s):∀x c,X.env.cells.lookup x=some c->c≠X.env.locals:=λx c e z=>by
 obtain⟨v,o,ho,hd⟩:=I.cell x c e;obtain⟨m,⟨o',es,ep,Hr,RI,_⟩,_⟩:=I.loc;rw[z,Hr] at ho;cases ho;rw[RI] at hd;cases hd
theorem Inv.aaC (I:Inv X pins σ H s):s.heap.FunFrames X.base X.outer:=by
 have all:∀(l:List Env),(∀b∈dG l,b∈X.fs)->X.s₀.heap.FunFrames X.base l->s.heap.FunFrames X.base l:=by
  intro l
  induction l with
  |nil=>intro _ _;trivial
  |cons env r ih =>
   intro hs hl;obtain⟨hk,⟨L,o,hf,hn,ho,hd⟩,hr⟩:=hl;have hL:L∈X.fs:=hs L (by unfold dG;rw[List.filterMap_cons,hf];exact List.mem_cons_self);obtain⟨sl,e⟩:=I.base.slot L o ho (I.ok.frf L hL) hL λz=>I.ok.aby L z hL;exact⟨hk,⟨L,_,hf,hn,e,hd⟩,ih (λb hb=>hs b (by unfold dG;rw[List.filterMap_cons,hf];exact List.mem_cons_of_mem _ hb)) hr⟩
 exact all X.outer (λ_ hb=>hb) I.ok.aaC
theorem Inv.stack (I:Inv X pins σ H s):s.heap.FunFrames X.base X.stack:=by
 rcases I.ok.stk with e|⟨e,hf⟩
 ·rw[e];exact I.aaC
 ·rw[e];obtain⟨m,hn,_⟩:=I.loc;refine .cons (by rw[I.ok.kind];decide) hf hn ?_ I.aaC;exact Heap.get?_none_of_le (Nat.le_trans I.ok.bsz I.ok.above)
theorem Inv.aak (I:Inv X pins σ H s):∀b∈dG X.stack,b∈X.env.locals::X.fs:=λb hb=>by
 rcases I.ok.stk with e|⟨e,hf⟩
 ·rw[e] at hb;exact List.mem_cons_of_mem _ hb
 ·rw[e] at hb;unfold dG at hb;rw[List.filterMap_cons,hf] at hb;exact hb
theorem Inv.aaG (I:Inv X pins σ H s):∀b∈dG X.stack,H b=none:=λb hb=>by
 rcases List.mem_cons.mp (I.aak b hb) with e|hb
 ·rw[e];exact I.free
 ·obtain⟨_,o,ho,_⟩:=I.ok.aaC.mem hb;exact I.base.free b o ho (I.ok.frf b hb) λz=>I.ok.aby b z hb
theorem Inv.step {g':Array GenState}{t':Nat}{d':Drawn}{ch:List Addr}(I:Inv X pins σ H s)
 (JX:∀b∈ch,(b∈X.ex\/X.s₀.heap.objs.size<=b)/\b≠X.env.locals/\(∀x c,X.env.cells.lookup x=some c->c≠b)/\∀p∈X.pn++pins,p.1≠b)
 (keep:∀b o,b≠X.env.locals->b∉X.fs->b∉ch->s.heap.get? b=some o->H b=none->h'.get? b=some o)
 (slot:∀b o,b≠X.env.locals->b∈X.fs->b∉ch->s.heap.get? b=some o->H b=none->∃sl,h'.get? b=some {o with slots:=sl})(free:∀b o,b∉ch->s.heap.get? b=some o->H b=none->H' b=none)
 (there:∀b o,b∉ch->s.heap.get? b=some o->∃o',h'.get? b=some o')
 (aao:∀b xs,H b=some (.tup xs)->H' b=some (.tup xs))(aal:∀b o u,H b=some (.frz o u)->H' b=some (.frz o u))(aau:∀b ps,H b=some (.tbl ps)->∃more,H' b=some (.tbl (ps++more)))
 (ns:∀m,s.heap.Ns X.env.locals m->h'.Ns X.env.locals m)(hok:fR X.prog X.w H' h')(hg:AllBare g'):
 Inv X pins σ H' {s with heap:=h',gens:=g',drawn:=d',toks:=t'}:=by
 have Wa:∀b o,X.s₀.heap.get? b=some o->b≠X.env.locals:=λb o e=>Nat.ne_of_lt (Nat.lt_of_lt_of_le (Heap.lt_size e) I.ok.above)
 have QY:∀b o,X.s₀.heap.get? b=some o->b∉X.ex->b∉ch:=λb o e hx hb=>by
  rcases(JX b hb).1 with z|z
  ·exact hx z
  ·exact absurd (Nat.lt_of_lt_of_le (Heap.lt_size e) z) (Nat.lt_irrefl _)
 have cellK:∀x c,X.env.cells.lookup x=some c->∀v,s.heap.IsCell c v->h'.IsCell c v:=λx c e v ⟨o,ho,hd⟩=>by
  have Nb:c∉ch:=λz=>(JX c z).2.2.1 x c e rfl
  by_cases hc:c∈X.fs
  ·obtain⟨sl,q⟩:=slot c o (I.cne x c e) hc Nb ho (I.aam x c e);exact⟨_,q,hd⟩
  ·exact⟨o,keep c o (I.cne x c e) hc Nb ho (I.aam x c e),hd⟩
 refine⟨I.ok,I.os,hg,⟨λb o e n hb hx=>?_,λb o e n hb hx=>?_,λb o e n hx=>?_,λb o e hx=>?_,λb xs e=>aao b xs (I.base.aao b xs e),λb o xs e=>aal b o xs (I.base.aal b o xs e),λb ps e=>?_⟩,?_,λx c e=>?_,?_,λx c e=>?_,λp hp=>?_,hok,I.len⟩
 ·exact keep b o (Wa b o e) hb (QY b o e hx) (I.base.keep b o e n hb hx) (I.base.free b o e n hx)
 ·obtain⟨sl,e1⟩:=I.base.slot b o e n hb hx;obtain⟨JY,e2⟩:=slot b _ (Wa b o e) hb (QY b o e hx) e1 (I.base.free b o e n hx);exact⟨JY,e2⟩
 ·obtain⟨o',e1⟩:=I.base.there b o e hx;exact free b o' (QY b o e hx) e1 (I.base.free b o e n hx)
 ·obtain⟨o',e1⟩:=I.base.there b o e hx;exact there b o' (QY b o e hx) e1
 ·obtain⟨m1,e1⟩:=I.base.aau b ps e;obtain⟨m2,e2⟩:=aau b _ e1;exact⟨m1++m2,by rw[e2,Array.append_assoc]⟩
 ·obtain⟨m,hn,hl⟩:=I.loc;refine⟨m,ns m hn,λi x v e1 e2 e3=>?_⟩;obtain⟨u,r,l⟩:=hl i x v e1 e2 e3;refine⟨u,r,?_⟩
  rcases l with l|⟨k,c,e,z⟩
  ·exact .inl l
  ·exact .inr ⟨k,c,e,cellK x c e _ z⟩
 ·obtain⟨v,z⟩:=I.cell x c e;exact⟨v,cellK x c e v z⟩
 ·obtain⟨m,⟨o,_,_,ho,_⟩,_⟩:=I.loc;exact free _ o (λz=>(JX _ z).2.1 rfl) ho I.free
 ·obtain⟨v,o,ho,hd⟩:=I.cell x c e;exact free c o (λz=>(JX c z).2.2.1 x c e rfl) ho (I.aam x c e)
 ·obtain⟨e,n,ne,nf,d⟩:=I.pin p hp;have Nb:p.1∉ch:=λz=>(JX p.1 z).2.2.2 p hp rfl;exact⟨keep p.1 p.2 ne nf Nb e n,free p.1 p.2 Nb e n,ne,nf,d⟩
theorem Inv.un {t':Nat}(I:Inv X pins σ H s)(u:Un X.fs [] H H' s.heap h')(hok:fR X.prog X.w H' h'):Inv X pins σ H' {s with heap:=h',toks:=t'}:=by
 obtain⟨m,⟨o,es,ep,ho,r⟩,_⟩:=id I.loc;obtain⟨sl,hL⟩:=u.any ho I.free (by simp)
 exact I.step (g':=s.gens) (d':=s.drawn) (ch:=[]) (λ_ z=>nomatch z) (λb o _ hb _ e n=>u.keep b o e n hb (by simp)) (λb o _ hb _ e n=>u.slot b o e n hb (by simp)) (λb o _ e n=>u.free b o e n (by simp)) (λb o _ e=>u.there b o e (by simp)) u.aao u.aal u.aau (λm' hm=>by
  obtain⟨o',es',Ki,Hr,r'⟩:=hm;rw[ho] at Hr;cases Hr
  exact⟨_,es',Ki,hL,r'⟩) hok I.bare
theorem Inv.call {g':Array GenState}{t':Nat}{d':Drawn}{ch:List Addr}(I:Inv X pins σ H s)(u:Un (dG X.stack) ch H H' s.heap h')(hok:fR X.prog X.w H' h')(hg:AllBare g')
 (JX:∀b∈ch,(b∈X.ex\/X.s₀.heap.objs.size<=b)/\b≠X.env.locals/\(∀x c,X.env.cells.lookup x=some c->c≠b)/\∀p∈X.pn++pins,p.1≠b):
 Inv X pins σ H' {s with heap:=h',gens:=g',drawn:=d',toks:=t'}:=by
 obtain⟨m,⟨o,es,ep,ho,r⟩,_⟩:=id I.loc;obtain⟨sl,hL⟩:=u.any ho I.free λz=>(JX _ z).2.1 rfl
 exact I.step (ch:=ch) JX (λb o hL hb hc e n=>u.keep b o e n (λz=>(List.mem_cons.mp (I.aak b z)).elim hL hb) hc) (λb o _ _ hc e n=>u.any e n hc) (λb o hc e n=>u.free b o e n hc) (λb o hc e=>u.there b o e hc) u.aao u.aal u.aau (λm' hm=>by
  obtain⟨o',es',Ki,Hr,r'⟩:=hm;rw[ho] at Hr;cases Hr
  exact⟨_,es',Ki,hL,r'⟩) hok hg
theorem Inv.turned {t':Nat}{it:Addr}(I:Inv X pins σ H s)(k:∀b o,b≠it->s.heap.get? b=some o->h'.get? b=some o)(hn:H it=none)(hL:it≠X.env.locals)
 (h1:it∈X.ex\/X.s₀.heap.objs.size<=it)(h2:∀x c,X.env.cells.lookup x=some c->c≠it)(h3:∀p∈X.pn++pins,p.1≠it):Inv X pins σ H {s with heap:=h',toks:=t'}:=by
 have KI:∀b u,H b=some u->b≠it:=λb u e z=>by rw[z,hn] at e;cases e
 refine I.step (g':=s.gens) (d':=s.drawn) (ch:=[it]) (λb hb=>?_) (λb o _ _ hc e _=>k b o (λz=>hc (by simp[z])) e) (λb o _ _ hc e _=>⟨o.slots,k b o (λz=>hc (by simp[z])) e⟩) (λ_ _ _ _ n=>n)
  (λb o hc e=>⟨o,k b o (λz=>hc (by simp[z])) e⟩) (λ_ _ e=>e) (λ_ _ _ e=>e) (λb ps e=>⟨#[],by rw[e];simp⟩) (λm hm=>?_) (λb u e=>?_) I.bare
 ·have e:b=it:=by simpa using hb
  subst e;exact⟨h1,hL,h2,h3⟩
 ·obtain⟨o,es,ep,ho,r⟩:=hm;exact⟨o,es,ep,k _ o (Ne.symm hL) ho,r⟩
 ·refine(I.hok b u e).aa1 (λc v hc q=>k c v ?_ q) (λ_ q=>q) λ_ _ q=>q
  rcases hc with z|z
  ·rw[z];exact KI b u e
  ·exact KI c _ z
theorem Inv.tok (I:Inv X pins σ H s)(t:Nat):Inv X pins σ H {s with toks:=t}:=I.un (h':=s.heap) (t':=t) Un.refl I.hok
theorem Inv.kept {t':Nat}(I:Inv X pins σ H s)(k:∀b u,s.heap.get? b=some u->h'.get? b=some u):Inv X pins σ H {s with heap:=h',toks:=t'}:=I.un (Un.kept k) (I.hok.kept k)
theorem Inv.laid {a:Addr}{o:HO}{t':Nat}(I:Inv X pins σ H s)(k:∀b u,s.heap.get? b=some u->h'.get? b=some u)(hp:s.heap.objs.size<=a)(new:bt X.prog X.w (upd H a o) h' a o):
 Inv X pins σ (upd H a o) {s with heap:=h',toks:=t'}:=I.un (Un.laid k hp (I.hok.fresh hp)) (I.hok.laid k hp new)
theorem Inv.write {x e:Addr}{o:HO}{t':Nat}(I:Inv X pins σ H s)(mu:DH (H x))(he:e=x\/H e=some (.own x))(k:∀b u,b≠e->s.heap.get? b=some u->h'.get? b=some u)(MJ:∃u,h'.get? e=some u)
 (new:bt X.prog X.w (upd H x o) h' x o):Inv X pins σ (upd H x o) {s with heap:=h',toks:=t'}:=I.un (Un.write mu he k MJ) (I.hok.write mu he k MJ new)
theorem Inv.aah {pins':List (Addr×Obj)}(I:Inv X pins σ H s)(h:∀p∈pins',s.heap.get? p.1=some p.2/\H p.1=none/\p.1≠X.env.locals/\p.1∉X.fs/\∀v,p.2.data≠.cell v):Inv X pins' σ H s :=
 ⟨I.ok,I.os,I.bare,I.base,I.loc,I.cell,I.free,I.aam,λp hp=>(List.mem_append.mp hp).elim (λz=>I.pin p (List.mem_append_left _ z)) (h p),I.hok,I.len⟩
theorem pG (hN:N.Nodup){j:Nat}(a:N[i]?=some x)(b:N[j]?=some x):i=j:=by
 obtain⟨h1,e1⟩:=List.getElem?_eq_some_iff.mp a;obtain⟨h2,e2⟩:=List.getElem?_eq_some_iff.mp b;exact(List.getElem_inj hN).mp (e1.trans e2.symm)
theorem je {E:pL}{v:V}{Q:Unit->Shared->Prop}(I:Inv X pins σ H s)(hN:X.N.Nodup)(hi:X.N[i]?=some x)(hx:CI X.env.scope x)(r:aE v u)
 (h:∀s',Inv X pins (σ.set i (some v)) H s'->(∃a,Heap.SameBut a s.heap s'.heap/\(a=X.env.locals\/X.env.cells.lookup x=some a))->Q () s')(hf:X.fn x=true\/X.env.scope.names.lookup x=some .local:=by first|exact .inl rfl|exact .inr rfl|assumption):wpAny M A (storeName X.env x u) Q E s:=by
 obtain⟨m,hn,hl⟩:=id I.loc
 have RJ:(X.env.scope.kind == .class || (X.env.scope.kind == .module&&X.env.locals != X.env.globals))=false:=by rw[I.ok.kind];rfl
 have Wb:i<σ.length:=by rw[I.len];exact(List.getElem?_eq_some_iff.mp hi).1
 have cne:=I.cne
 have tracked:∀{a:Addr}{h':Heap},(∃o,s.heap.get? a=some o/\H a=none)->Heap.SameBut a s.heap h'->fR X.prog X.w H h':=λ{a h'} ha hs b ob e=>by
  obtain⟨_,_,Hs⟩:=ha;refine(I.hok b ob e).aa1 (λc w' hc q=>(hs.2 c ?_).trans q) (λ_ q=>q) λ_ _ q=>q;rintro rfl
  rcases hc with rfl|hc
  ·rw[Hs] at e;cases e
  ·rw[Hs] at hc;cases hc
 rcases hx with hk|hk
 ·refine wpAny_storeName_local hk hn (λh' Nc hs=>?_) RJ;obtain⟨oL,_,_,Yv,_⟩:=id hn;refine h _ ⟨I.ok,I.os,I.bare,⟨λb o e n hb hx=>?_,λb o e n hb hx=>?_,I.base.free,λb o e hx=>?_,I.base.aao,I.base.aal,I.base.aau⟩,⟨_,Nc,λj y v' e1 e2 e3=>?_⟩,λy c e=>?_,I.free,I.aam,λp hp=>?_,tracked ⟨oL,Yv,I.free⟩ hs,by simpa using I.len⟩ ⟨_,hs,.inl rfl⟩
  ·exact(hs.2 b (Nat.ne_of_lt (Nat.lt_of_lt_of_le (Heap.lt_size e) I.ok.above))).trans (I.base.keep b o e n hb hx)
  ·obtain⟨sl,e1⟩:=I.base.slot b o e n hb hx;exact⟨sl,(hs.2 b (Nat.ne_of_lt (Nat.lt_of_lt_of_le (Heap.lt_size e) I.ok.above))).trans e1⟩
  ·obtain⟨o',e1⟩:=I.base.there b o e hx;exact⟨o',(hs.2 b (Nat.ne_of_lt (Nat.lt_of_lt_of_le (Heap.lt_size e) I.ok.above))).trans e1⟩
  ·by_cases hj:j=i
   ·subst hj;rw[hi] at e1;cases e1;rw[List.getElem?_set_self Wb] at e2
    cases e2
    exact⟨u,r,.inl ⟨hk,by simp⟩⟩
   ·rw[List.getElem?_set_ne (Ne.symm hj)] at e2;obtain⟨u',r',q⟩:=hl j y v' e1 e2 e3;refine⟨u',r',?_⟩
    rcases q with⟨k,e⟩|⟨k,c,e,z⟩
    ·refine .inl ⟨k,?_⟩;have:y≠x:=λe=>hj (pG hN e1 (e▸hi));simp[this,e]
    ·exact .inr ⟨k,c,e,z.sameBut hs (cne y c e)⟩
  ·obtain⟨w',z⟩:=I.cell y c e;exact⟨w',z.sameBut hs (cne y c e)⟩
  ·obtain⟨e,n,ne,nf,d⟩:=I.pin p hp;exact⟨(hs.2 p.1 ne).trans e,n,ne,nf,d⟩
 ·have RK:X.fn x=true:=by
   rcases hf with z|z
   ·exact z
   ·rw[z] at hk;cases hk
  obtain⟨c,hc⟩:=I.ok.has x (.inl hk);obtain⟨w',z⟩:=I.cell x c hc;refine wpAny_storeName_cell I.ok.kind hk hc z (λh' GV hs=>?_);obtain⟨oc,Wc,RL⟩:=id z;refine h {s with heap:=h'} ⟨I.ok,I.os,I.bare,⟨λb o e n hb hx=>?_,λb o e n hb hx=>?_,I.base.free,λb o e hx=>?_,I.base.aao,I.base.aal,I.base.aau⟩,⟨m,hn.sameBut hs (Ne.symm (cne x c hc)),λj y v' e1 e2 e3=>?_⟩,λy c' e=>?_,I.free,I.aam,λp hp=>?_,tracked ⟨oc,Wc,I.aam x c hc⟩ hs,by simpa using I.len⟩ ⟨c,hs,.inr hc⟩
  ·exact(hs.2 b (Nat.ne_of_lt (Nat.lt_of_lt_of_le (Heap.lt_size e) (I.ok.cab x c RK hc)))).trans (I.base.keep b o e n hb hx)
  ·obtain⟨sl,e1⟩:=I.base.slot b o e n hb hx;exact⟨sl,(hs.2 b (Nat.ne_of_lt (Nat.lt_of_lt_of_le (Heap.lt_size e) (I.ok.cab x c RK hc)))).trans e1⟩
  ·obtain⟨o',e1⟩:=I.base.there b o e hx;exact⟨o',(hs.2 b (Nat.ne_of_lt (Nat.lt_of_lt_of_le (Heap.lt_size e) (I.ok.cab x c RK hc)))).trans e1⟩
  ·by_cases hj:j=i
   ·subst hj;rw[hi] at e1;cases e1;rw[List.getElem?_set_self Wb] at e2
    cases e2
    exact⟨u,r,.inr ⟨.inl hk,c,hc,GV⟩⟩
   ·rw[List.getElem?_set_ne (Ne.symm hj)] at e2;obtain⟨u',r',q⟩:=hl j y v' e1 e2 e3;refine⟨u',r',?_⟩
    rcases q with q|⟨k,c',e,z'⟩
    ·exact .inl q
    ·refine .inr ⟨k,c',e,z'.sameBut hs ?_⟩;rintro rfl;exact hj (pG hN e1 (I.ok.inj _ _ _ e hc▸hi))
  ·by_cases Wd:c'=c
   ·subst Wd;exact⟨_,GV⟩
   ·obtain⟨w2,z2⟩:=I.cell y c' e;exact⟨w2,z2.sameBut hs Wd⟩
  ·obtain⟨e,n,ne,nf,d⟩:=I.pin p hp;refine⟨(hs.2 p.1 ?_).trans e,n,ne,nf,d⟩;intro q;rw[q,Wc] at e;have q':oc=p.2:=Option.some.inj e;exact d w' (by rw[<-q'];exact RL)
theorem iB {E:pL}{v:V}{Q:Unit->Shared->Prop}(I:Inv X pins σ H s)(hN:X.N.Nodup)(hi:X.N[i]?=some x)(hx:CI X.env.scope x)(r:aE v u)
 (h:∀s',Inv X pins (σ.set i (some v)) H s'->Q () s')(hf:X.fn x=true\/X.env.scope.names.lookup x=some .local:=by first|exact .inl rfl|exact .inr rfl|assumption):wpAny M A (storeName X.env x u) Q E s :=
 je I hN hi hx r (λs' I' _=>h s' I') hf
theorem Inv.abl {s':GB}{ch:List Addr}(I:Inv X pins σ H s)(ho:s'.os=s.os)(u:Un (dG X.stack) ch H H' s.heap s'.heap)(hok:fR X.prog X.w H' s'.heap)(hg:AllBare s'.gens)
 (JX:∀b∈ch,(b∈X.ex\/X.s₀.heap.objs.size<=b)/\b≠X.env.locals/\(∀x c,X.env.cells.lookup x=some c->c≠b)/\∀p∈X.pn++pins,p.1≠b):Inv X pins σ H' s':=by
 obtain⟨h',g',d',t',o'⟩:=s';have e:o'=s.os:=ho;subst e;exact I.call (g':=g') (t':=t') (d':=d') u hok hg JX
end
abbrev XK:=Value->Option Addr->Hp->Prop
abbrev St:=List (Option V)
abbrev VK:=V->Hp->Prop
abbrev TE:=St->Hp->VK->Prop
abbrev TT:=St->Hp->(Bool->Hp->Prop)->Prop
abbrev TA:=St->Hp->(List V->Hp->Prop)->Prop
structure Ends where
 nx:St->Hp->Prop
 rt:VK
 bk:St->Hp->Prop:=λ_ _=>False
 ct:St->Hp->Prop:=λ_ _=>False
abbrev TS:=Ends->St->Hp->Prop
def EP (X:Cx)(pins:List (Addr×Obj))(σ:St)(Q:VK)(u:Value)(s':GB):Prop:=∃v H',Inv X pins σ H' s'/\aE v u/\Q v H'
def TP (X:Cx)(pins:List (Addr×Obj))(σ:St)(Q:Bool->Hp->Prop)(b:Bool)(s':GB):Prop:=∃H',Inv X pins σ H' s'/\Q b H'
def AP (X:Cx)(pins:List (Addr×Obj))(σ:St)(Q:List V->Hp->Prop)(us:nv)(s':GB):Prop:=∃vs H',Inv X pins σ H' s'/\aL vs us/\Q vs H'
def SP (X:Cx)(pins:List (Addr×Obj))(D:Ends)(f:Flow)(s':GB):Prop :=
 match f with
 | .next=>∃σ' H',Inv X pins σ' H' s'/\D.nx σ' H'
 | .brk=>∃σ' H',Inv X pins σ' H' s'/\D.bk σ' H'
 | .cont=>∃σ' H',Inv X pins σ' H' s'/\D.ct σ' H'
 | .ret u=>∃v σ' H',Inv X pins σ' H' s'/\aE v u/\D.rt v H'
def PE (X:Cx)(e:Expr)(t:TE):Prop :=
 ∀(pins:List (Addr×Obj))(s:GB)(σ:St)(H:Hp)(Q:VK),Inv X pins σ H s->t σ H Q->wpAny (model X.prog X.w) X.A (eval e X.env) (EP X pins σ Q) X.xe s
def PT (X:Cx)(e:Expr)(t:TT):Prop :=
 ∀(pins:List (Addr×Obj))(s:GB)(σ:St)(H:Hp)(Q:Bool->Hp->Prop),Inv X pins σ H s->t σ H Q->wpAny (model X.prog X.w) X.A (isTrue e X.env (eval e X.env)) (TP X pins σ Q) X.xe s
def PW (X:Cx)(e:Expr)(t:TT):Prop :=
 ∀(dk:Sem Value)(pins:List (Addr×Obj))(s:GB)(σ:St)(H:Hp)(Q:Bool->Hp->Prop),Inv X pins σ H s->t σ H Q->wpAny (model X.prog X.w) X.A (isTrue e X.env dk) (TP X pins σ Q) X.xe s
variable {X:Cx}{e:Expr}
theorem PW.pt {t:TT}(h:PW X e t):PT X e t:=h _
def PA (X:Cx)(es:Bj)(t:TA):Prop :=
 ∀(pos:Pos)(pins:List (Addr×Obj))(s:GB)(σ:St)(H:Hp)(Q:List V->Hp->Prop),Inv X pins σ H s->t σ H Q->wpAny (model X.prog X.w) X.A (spliced (backTo pos (starEach es X.env))) (AP X pins σ Q) X.xe s
def PS (X:Cx)(st:Stmt)(t:TS):Prop :=
 ∀(pins:List (Addr×Obj))(s:GB)(σ:St)(H:Hp)(D:Ends),Inv X pins σ H s->t D σ H->wpAny (model X.prog X.w) X.A (exec st X.env) (SP X pins D) X.xe s
def pV (X:Cx)(st:DN)(t:TS):Prop :=
 ∀(pins:List (Addr×Obj))(s:GB)(σ:St)(H:Hp)(D:Ends),Inv X pins σ H s->t D σ H->wpAny (model X.prog X.w) X.A (execs st X.env) (SP X pins D) X.xe s
variable {s:GB}
theorem bA {α:Type}{t:Sem α}{Q Q':α->Shared->Prop}{E:pL}(h:wpAny M A t Q E s)(hQ:∀a s,Q a s->Q' a s):wpAny M A t Q' E s:=wpAny_mono h hQ λ_ _ x=>x
variable {pins:List (Addr×Obj)}{σ:St}{op:CmpOp}
section
variable {X:Cx}
def d9 (i:Nat):TE:=λσ H Q=>∃v,σ[i]?=some (some v)/\Q v H
def tC (v:V):TE:=λ_ H Q=>Q v H
theorem Cls {pos:Pos}(hN:X.N[i]?=some x)(hv:Ef X.env.scope x)(hd:(x==("__debug__":Str))=false:=by decide)(HM:(x==("__classdict__":Str))=false:=by decide):PE X (.Name x pos) (d9 i):=by
 intro pins s σ H Q I h;obtain⟨v,e,h⟩:=h;obtain⟨m,hn,hl⟩:=I.loc;obtain⟨u,r,l⟩:=hl i x v hN e hv;have fin:EP X pins σ Q u s:=⟨v,H,I,r,h⟩
 rcases l with⟨hk,hm⟩|⟨hk,c,hc,HN⟩
 ·exact wpAny_Name (wpAny_loadName_local I.ok.kind hk hn hm fin) hd
 ·rcases hk with hk|hk
  ·exact wpAny_Name (wpAny_loadName_cell I.ok.kind hk hc HN fin) hd
  ·exact wpAny_Name (wpAny_loadName_free I.ok.kind hk hc HN fin HM) hd
theorem ao {i j pos}:PE X (.Constant (.int i) j pos) (tC (.int i)):=λ_ _ _ H _ I h=>wpAny_Constant_int ⟨.int i,H,I.tok _,⟨_,rfl⟩,h⟩
theorem fX {b j pos}:PE X (.Constant (.bool b) j pos) (tC (.bl b)):=λ_ _ _ H _ I h=>Constant_bool ⟨.bl b,H,I,rfl,h⟩
theorem ya {j pos}:PE X (.Constant .none j pos) (tC .non):=λ_ _ _ H _ I h=>Constant_none ⟨.non,H,I,rfl,h⟩
theorem kQ {x j pos}:PE X (.Constant (.str x) j pos) (tC (.str x)):=λ_ _ _ H _ I h=>Calls.Constant_str ⟨.str x,H,I.tok _,⟨_,rfl⟩,h⟩
def Gl (X:Cx)(x:Str):Prop:=X.env.kindOf x=some .globalImplicit
theorem iu {E:pL}{pos:Pos}{Q:pL}(I:Inv X pins σ H s)(hg:Gl X x)(hm:X.mg x=some u)(h:Q u s)
 (hd:(x==("__debug__":Str))=false:=by decide):wpAny (model X.prog X.w) X.A (eval (.Name x pos) X.env) Q E s :=
 Calls.Name_function_global I.ok.kind hg (Calls.loadGlobal_global (by rw[I.ok.glob];exact I.mod.glob.keeps I.bk) hm h) hd
theorem cT {E:pL}{pos:Pos}{Q:pL}(I:Inv X pins σ H s)(hg:Gl X x)(hm:X.mg x=none)(hv:bootBuiltins x=some u)(h:Q u s)
 (hn:x ≠ "__name__":=by decide)(hd:(x==("__debug__":Str))=false:=by decide):wpAny (model X.prog X.w) X.A (eval (.Name x pos) X.env) Q E s:=by
 obtain⟨mb,h1,h2⟩:=I.mod.blt;exact Calls.Name_function_global I.ok.kind hg (Calls.loadGlobal_builtin (by rw[I.ok.glob];exact I.mod.glob.keeps I.bk) hm (by rw[I.ok.blt];exact h1.keeps I.bk) ((h2 x hn).trans hv) h) hd
theorem cB {v:V}{pos:Pos}(hg:Gl X x)(hm:X.mg x=some u)(r:aE v u)(hd:(x==("__debug__":Str))=false:=by decide):PE X (.Name x pos) (tC v):=
 λ_ _ _ H _ I h=>iu I hg hm ⟨v,H,I,r,h⟩ hd
theorem c9 {v:V}{pos:Pos}(hg:Gl X x)(hm:X.mg x=none)(hv:bootBuiltins x=some u)(r:aE v u)(hn:x ≠ "__name__":=by decide)(hd:(x==("__debug__":Str))=false:=by decide):PE X (.Name x pos) (tC v):=
 λ_ _ _ H _ I h=>cT I hg hm hv ⟨v,H,I,r,h⟩ hn hd
variable {a b:Expr}{ta tb:TE}{pos:Pos}
def PC (X:Cx)(op:CmpOp)(a b:Expr)(t:TE):Prop :=
 ∀(pins:List (Addr×Obj))(s:GB)(σ:St)(H:Hp)(Q:VK),Inv X pins σ H s->t σ H Q →
  wpAny (model X.prog X.w) X.A (eval a X.env) (λv s₁=>wpAny (model X.prog X.w) X.A (eval b X.env) (λu s₂=>wpAny (model X.prog X.w) X.A (compareOp op v u) (EP X pins σ Q) X.xe s₂) X.xe s₁) X.xe s
def tB (t:TE):TT:=λσ H Q=>t σ H λx H1=>∃c,x=.bl c/\Q c H1
theorem aaE {t:TE}(h:PC X op a b t)(h1:behindInMarks op b=false:=by first|exact Nd _ (by decide) (by decide)|rfl):PT X (.Compare a [op] [b] pos) (tB t):=by
 intro pins s σ H Q I hw;refine wpAny_isTrue_Compare1 (bA (h pins s σ H _ I hw) λv s1 h1=>bA h1 λu s2 h2=>bA h2 λc s3 z'=>?_) h1;obtain⟨x,H1,I1,r1,q1⟩:=z';obtain⟨d,rfl,q⟩:=q1
 cases r1
 exact wpAny_truthy_bool ⟨H1,I1,q⟩
theorem bJ {t:TE}(h:PE X e t)(he:∀dk,isTrue e X.env dk=(do let v <-dk;standAt e.pos;holding [v] (truthy v)):=by intro _;rfl):PT X e (tB t):=by
 intro pins s σ H Q I hw;refine isTrue_plain (bA (h pins s σ H _ I hw) λv s1 z'=>?_) (he _);obtain⟨x,H1,I1,r1,q1⟩:=z';obtain⟨d,rfl,q⟩:=q1
 cases r1
 exact wpAny_truthy_bool ⟨H1,I1,q⟩
variable {tA QZ:TT}{rest:Bj}
def aaF (t u:TT):TT:=λσ H Q=>t σ H λc H1=>if c=true then u σ H1 Q else Q false H1
def abx (t u:TT):TT:=λσ H Q=>t σ H λc H1=>if c=true then Q true H1 else u σ H1 Q
def Web (t:TT):TT:=λσ H Q=>t σ H λc H1=>Q (!c) H1
theorem nQ (ha:PT X a tA):PW X (.BoolOp .And [a] pos) tA:=by
 intro wh pins s σ H Q I h;refine isTrue_and (bA (ha pins s σ H Q I h) λc s1 e=>?_)
 cases c with
 |true=>exact isTrue_and_nil e
 |false=>exact e
theorem cR (ha:PT X a tA):PW X (.BoolOp .Or [a] pos) tA:=by
 intro wh pins s σ H Q I h;refine isTrue_or (bA (ha pins s σ H Q I h) λc s1 e=>?_)
 cases c with
 |false=>exact isTrue_or_nil e
 |true=>exact e
theorem p8 (ha:PT X a tA)(hb:PW X (.BoolOp .And (b::rest) pos) QZ):PW X (.BoolOp .And (a::b::rest) pos) (aaF tA QZ):=by
 intro wh pins s σ H Q I h;refine isTrue_and (bA (ha pins s σ H _ I h) λc s1 z'=>?_);obtain⟨H1,I1,q1⟩:=z'
 cases c with
 |true=>exact hb wh pins s1 σ H1 Q I1 q1
 |false=>exact⟨H1,I1,q1⟩
theorem dz (ha:PT X a tA)(hb:PW X (.BoolOp .Or (b::rest) pos) QZ):PW X (.BoolOp .Or (a::b::rest) pos) (abx tA QZ):=by
 intro wh pins s σ H Q I h;refine isTrue_or (bA (ha pins s σ H _ I h) λc s1 z'=>?_);obtain⟨H1,I1,q1⟩:=z'
 cases c with
 |true=>exact⟨H1,I1,q1⟩
 |false=>exact hb wh pins s1 σ H1 Q I1 q1
theorem bB (ha:PT X a tA):PT X (.UnaryOp .Not a pos) (Web tA):=by
 intro pins s σ H Q I h;exact isTrue_not (ha pins s σ H (λc H1=>Q (!c) H1) I h)
def aaK (ta tb:TE):TE:=λσ H Q=>ta σ H λx H1=>∃c,x=.bl c/\if c=true then tb σ H1 Q else Q (.bl false) H1
def CXT (ta:TE):TE:=λσ H Q=>ta σ H λx H1=>∃c,x=.bl c/\Q (.bl (!c)) H1
theorem fF {op}{t:TE}(h:PE X a t):PE X (.BoolOp op [a] pos) t:=λpins s σ H Q I hw=>BoolOp_one (h pins s σ H Q I hw)
theorem cC (ha:PE X a ta)(hb:PE X (.BoolOp .And (b::rest) pos) tb):PE X (.BoolOp .And (a::b::rest) pos) (aaK ta tb):=by
 intro pins s σ H Q I h;refine BoolOp_and (bA (ha pins s σ H _ I h) λv s1 z'=>?_);obtain⟨x,H1,I1,r1,q1⟩:=z';obtain⟨c,rfl,q1⟩:=q1
 cases r1
 refine wpAny_truthy_bool ?_
 cases c with
 |true=>exact hb pins s1 σ H1 Q I1 q1
 |false=>exact⟨.bl false,H1,I1,rfl,q1⟩
theorem aaM (ha:PE X a ta):PE X (.UnaryOp .Not a pos) (CXT ta):=by
 intro pins s σ H Q I h;refine UnaryOp_ (bA (ha pins s σ H _ I h) λv s1 z'=>?_);obtain⟨x,H1,I1,r1,q1⟩:=z';obtain⟨c,rfl,q1⟩:=q1
 cases r1
 exact not_of (wpAny_truthy_bool ⟨.bl (!c),H1,I1,rfl,q1⟩)
end
def aN (K:PySem.W.Frag)(H:Hp)(a:Addr)(xs:List V):Prop :=
 Rd H a (.lst xs) \/
  ∃(o:Obj)(its:t6)(n:Nat),K.lookup a=some o/\o.cls=.type "list"/\o.dict=none/\o.data=.seq its n/\its.size<=sizeLine/\aL xs its.toList
def bo (K:PySem.W.Frag)(H:Hp)(a:Addr)(xs:List V):Prop :=
 Rd H a (.tup xs) \/
  ∃(o:Obj)(its:t6)(n:Nat),K.lookup a=some o/\o.cls=.type "tuple"/\o.data=.seq its n/\its.size<=sizeLine/\aL xs its.toList
def aaN:Value->Option V
 | .none=>some .non
 | .bool b=>some (.bl b)
 | .int i _=>some (.int i)
 | .str x _=>some (.str x)
 | .bytes b _=>some (.byt b)
 | .float b _=>some (.flt b)
 | .ref a=>some (.ref a)
 | .type n=>some (.ty n)
 |_=>none
theorem aE.abs {x:V}(r:aE x u):aaN u=some x:=by
 cases x with
 |non=>cases r;rfl
 |bl _=>cases r;rfl
 |int _=>obtain⟨t,rfl⟩:=r;rfl
 |str _=>obtain⟨t,rfl⟩:=r;rfl
 |byt _=>obtain⟨t,rfl⟩:=r;rfl
 |flt _=>obtain⟨t,rfl⟩:=r;rfl
 |ref _=>cases r;rfl
 |ty _=>cases r;rfl
variable {y:V}
theorem aE.inj {x:V}(r:aE x u)(q:aE y u):x=y:=Option.some.inj (r.abs.symm.trans q.abs)
theorem aL.inj:∀{xs ys:List V}{us:nv},aL xs us->aL ys us->xs=ys
 |_,_,_,.nil,.nil=>rfl
 |_,_,_,.cons r t,.cons r' t'=>by rw[r.inj r',aL.inj t t']
variable {K:PySem.W.Frag}
section
variable {X:Cx}{pins:List (Addr×Obj)}{σ:St}{H:Hp}{s:GB}{a:Addr}{xs ys:List V}
theorem aN.of (h:H a=some (.lst xs)):aN K H a xs:=.inl (.inl h)
theorem bo.of (h:H a=some (.tup xs)):bo K H a xs:=.inl (.inl h)
theorem Inv.list (I:Inv X pins σ H s)(h:aN X.K H a xs):∃its:List Value,aL xs its/\PlainL s.heap a its.toArray/\xs.length<=sizeLine:=by
 rcases h with h|⟨o,its,n,hk,hc,hd,hs,hz,r⟩
 ·obtain⟨z,its,n,r,e⟩:=h.ok I.hok;exact⟨its,r,⟨_,n,e,rfl,rfl,rfl⟩,z⟩
 ·refine⟨its.toList,r,⟨o,n,I.kIn a o hk,hc,hd,by simpa using hs⟩,?_⟩;have e:=r.length;simp only[Array.length_toList] at e;omega
theorem Inv.tuple (I:Inv X pins σ H s)(h:bo X.K H a xs):∃its:List Value,aL xs its/\IsTup s.heap a its.toArray/\xs.length<=sizeLine:=by
 rcases h with h|⟨o,its,n,hk,hc,hs,hz,r⟩
 ·obtain⟨z,its,r,p⟩:=h.ok I.hok;exact⟨its,r,p,z⟩
 ·refine⟨its.toList,r,⟨o,I.kIn a o hk,hc,n,by simpa using hs⟩,?_⟩;have e:=r.length;simp only[Array.length_toList] at e;omega
theorem Inv.aav (I:Inv X pins σ H s)(h:aN X.K H a xs)(h':aN X.K H a ys):xs=ys:=by
 obtain⟨its,r,⟨o,n,e,_,_,d⟩,_⟩:=I.list h;obtain⟨its',r',⟨o',n',e',_,_,d'⟩,_⟩:=I.list h';rw[e] at e';cases e';rw[d] at d'
 injection d' with d1 _
 have:its=its':=by simpa using congrArg Array.toList d1
 subst this;exact r.inj r'
theorem Inv.aaA (I:Inv X pins σ H s)(h:bo X.K H a xs)(h':bo X.K H a ys):xs=ys:=by
 obtain⟨its,r,⟨o,e,_,n,d⟩,_⟩:=I.tuple h;obtain⟨its',r',⟨o',e',_,n',d'⟩,_⟩:=I.tuple h';rw[e] at e';cases e';rw[d] at d'
 injection d' with d1 _
 have:its=its':=by simpa using congrArg Array.toList d1
 subst this;exact r.inj r'
end
abbrev Cx.aaS (X:Cx)(E:pL):Cx:={X with xe:=E}
abbrev Cx.nox (X:Cx):Cx:=X.aaS λ_ _=>False
theorem Cx.Ok.aaS (ok:X.Ok)(E:pL):(X.aaS E).Ok :=
 ⟨ok.mod,ok.kind,ok.glob,ok.blt,ok.above,ok.inj,ok.has,ok.cab,ok.hd,ok.frames,ok.stk,ok.exf,ok.bs,ok.bsz,ok.abh,ok.aby,ok.aaC,ok.frf⟩
theorem Cx.Ok.aaw {E:pL}(ok:(X.aaS E).Ok):X.Ok :=
 ⟨ok.mod,ok.kind,ok.glob,ok.blt,ok.above,ok.inj,ok.has,ok.cab,ok.hd,ok.frames,ok.stk,ok.exf,ok.bs,ok.bsz,ok.abh,ok.aby,ok.aaC,ok.frf⟩
section
variable {X:Cx}{pins:List (Addr×Obj)}{σ:St}{H:Hp}{s:GB}{E:pL}
theorem Inv.aaS (I:Inv X pins σ H s)(E:pL):Inv (X.aaS E) pins σ H s:=⟨I.ok.aaS E,I.os,I.bare,I.base,I.loc,I.cell,I.free,I.aam,I.pin,I.hok,I.len⟩
theorem Inv.aaw (I:Inv (X.aaS E) pins σ H s):Inv X pins σ H s:=⟨I.ok.aaw,I.os,I.bare,I.base,I.loc,I.cell,I.free,I.aam,I.pin,I.hok,I.len⟩
theorem SP.aaw {D:Ends}{f:Flow}{s':GB}(h:SP (X.aaS E) pins D f s'):SP X pins D f s':=by
 cases f with
 |next=>obtain⟨σ',H',I,q⟩:=h;exact⟨σ',H',I.aaw,q⟩
 |brk=>obtain⟨σ',H',I,q⟩:=h;exact⟨σ',H',I.aaw,q⟩
 |cont=>obtain⟨σ',H',I,q⟩:=h;exact⟨σ',H',I.aaw,q⟩
 |ret u=>obtain⟨v,σ',H',I,r,q⟩:=h;exact⟨v,σ',H',I.aaw,r,q⟩
theorem pV.nox {st:DN}{t:TS}(h:pV X.nox st t):pV X st t:=λpins s σ H D I hw =>
 wpAny_mono (h pins s σ H D (I.aaS _) hw) (λ_ _ q=>q.aaw) λ_ _ z=>False.elim z
end
section
variable {X:Cx}{st:Stmt}{rest:DN}{t u:TS}{e:Expr}{te:TE}{pos:Pos}
def BV:TS:=λD σ H=>D.nx σ H
def BH (t u:TS):TS:=λD σ H=>t {D with nx:=u D} σ H
theorem aM:pV X [] BV:=λ_ _ σ H _ I h=>wpAny_execs_nil ⟨σ,H,I,h⟩
theorem aj (h1:PS X st t)(h2:pV X rest u):pV X (st::rest) (BH t u):=by
 intro pins s σ H D I h;refine wpAny_execs_cons (bA (h1 pins s σ H {D with nx:=u D} I h) λf s1 q=>?_)
 cases f with
 |next =>
  obtain⟨σ',H',I',q⟩:=q;exact h2 pins s1 σ' H' D I' q
 |ret v=>exact q
 |brk=>exact q
 |cont=>exact q
theorem aq (h1:PS X st t):pV X [st] t:=by
 intro pins s σ H D I h;refine wpAny_execs_cons (bA (h1 pins s σ H D I h) λf s1 q=>?_)
 cases f with
 |next=>exact wpAny_execs_nil q
 |ret v=>exact q
 |brk=>exact q
 |cont=>exact q
theorem Inv.quiet (I:Inv X pins σ H s):interactive X.env=false:=by simp[interactive,I.ok.kind]
def Do (te:TE):TS:=λD σ H=>te σ H λ_ H1=>D.nx σ H1
theorem jF (he:PE X e te)(hs:swapsWith e none pos.line X.env=pure false:=by rfl):PS X (.Expr e pos) (Do te):=by
 intro pins s σ H D I h;exact wpAny_Expr_any (bA (he pins s σ H _ I h) λv s1 ⟨x,H1,I1,r1,q1⟩=>⟨σ,H1,I1,q1⟩) I.quiet hs
def Ec (te:TE):TS:=λD σ H=>te σ H D.rt
theorem aA (he:PE X e te):PS X (.Return (some e) pos) (Ec te):=by
 intro pins s σ H D I h;exact wpAny_Return_some (bA (he pins s σ H _ I h) λv s1 ⟨x,H1,I1,r1,q1⟩=>⟨x,σ,H1,I1,r1,q1⟩)
def DS (c:TT)(t u:TS):TS:=λD σ H=>c σ H λb H1=>if b=true then t D σ H1 else u D σ H1
theorem bw {c:Expr}{a b:DN}{tc:TT}(hc:PT X c tc)(ha:pV X a t)(hb:pV X b u):PS X (.If c a b pos) (DS tc t u):=by
 intro pins s σ H D I h;refine wpAny_If (bA (hc pins s σ H _ I h) λd s1 z'=>?_);obtain⟨H1,I1,q1⟩:=z'
 cases d with
 |true=>exact ha pins s1 σ H1 D I1 q1
 |false=>exact hb pins s1 σ H1 D I1 q1
def abK:TS:=λ_ _ _=>False
theorem oo:PS X st abK:=λ_ _ _ _ _ _ h=>h.elim
end
abbrev TG:=V->St->Hp->(St->Hp->Prop)->Prop
abbrev Bx:=List V->St->Hp->(St->Hp->Prop)->Prop
def PG (X:Cx)(target:Expr)(t:TG):Prop :=
 ∀(pins:List (Addr×Obj))(s:GB)(σ:St)(H:Hp)(v:V)(u:Value)(Q:St->Hp->Prop),Inv X pins σ H s->aE v u->t v σ H Q →
  wpAny (model X.prog X.w) X.A (assign target X.env u) (λ_ s'=>∃σ' H',Inv X pins σ' H' s'/\Q σ' H') X.xe s
def EB (X:Cx)(ts:Bj)(t:Bx):Prop :=
 ∀(pins:List (Addr×Obj))(s:GB)(σ:St)(H:Hp)(vs:List V)(us:nv)(Q:St->Hp->Prop),Inv X pins σ H s->aL vs us->t vs σ H Q →
  wpAny (model X.prog X.w) X.A (assignInOrder ((assignEach ts X.env).map (·.2)) us) (λ_ s'=>∃σ' H',Inv X pins σ' H' s'/\Q σ' H') X.xe s
abbrev B5:=V->V->V->Hp->(Hp->Prop)->Prop
def De (X:Cx)(t:B5):Prop :=
 ∀(pins:List (Addr×Obj))(s:GB)(σ:St)(H:Hp)(o i v:V)(ov iv u:Value)(Q:Hp->Prop),Inv X pins σ H s->aE o ov->aE i iv->aE v u->t o i v H Q →
  wpAny (model X.prog X.w) X.A (setItem ov iv u) (λ_ s'=>∃H',Inv X pins σ H' s'/\Q H') X.xe s
variable {k:Nat}{g:TG}{ta:TA}{tb:TS}
section
variable {X:Cx}{pos:Pos}
def bg (i:Nat):TG:=λv σ H Q=>Q (σ.set i (some v)) H
theorem av {i:Nat}(hN:X.N.Nodup)(hi:X.N[i]?=some x)(hx:CI X.env.scope x)(hf:X.fn x=true\/X.env.scope.names.lookup x=some .local:=by first|exact .inl rfl|exact .inr rfl|assumption):PG X (.Name x pos) (bg i):=by
 intro pins s σ H v u Q I r h;exact wpAny_assign_Name (iB I hN hi hx r (λs' I'=>⟨_,H,I',h⟩) hf)
def ve:Bx:=λvs σ H Q=>vs=[]/\Q σ H
def bD (t:TG)(u:Bx):Bx:=λvs σ H Q=>∃v r,vs=v::r/\t v σ H λσ' H'=>u r σ' H' Q
theorem bz:EB X [] ve:=by
 intro pins s σ H vs us Q I r h;obtain⟨e,h⟩:=h;subst e
 cases r
 exact assignInOrder_nil ⟨σ,H,I,h⟩
theorem aB {es:Bj}{t:TG}{u:Bx}(h1:PG X e t)(h2:EB X es u)
 (hs:(assignEach (e::es) X.env).map (·.2)=assign e X.env::(assignEach es X.env).map (·.2):=by rfl):EB X (e::es) (bD t u):=by
 intro pins s σ H vs us Q I r h;obtain⟨v,vr,e1,h⟩:=h;subst e1
 cases r with
 |cons r rr =>
  rw[hs];refine assignInOrder_cons (bA (h1 pins s σ H _ _ _ I r h) λ_ s1 z'=>?_);obtain⟨σ1,H1,I1,q1⟩:=z';exact h2 pins s1 σ1 H1 _ _ Q I1 rr q1
def gq (K:PySem.W.Frag)(n:Nat)(t:Bx):TG:=λv σ H Q=>∃a xs,v=.ref a/\bo K H a xs/\xs.length=n/\t xs σ H Q
theorem bZ {es:Bj}{t:Bx}{n:Nat}(hc:X.calm=true)(h:EB X es t)
 (hn:(assignEach es X.env).length=n:=by rfl)(Nf:(assignEach es X.env).findIdx? (·.1)=none:=by rfl):PG X (.Tuple es k pos) (gq X.K n t):=by
 intro pins s σ H v u Q I r hw;obtain⟨a,xs,e1,hq,hl,hw⟩:=hw;subst e1
 cases r
 obtain⟨its,rv,ht,hz⟩:=I.tuple hq;refine assign_Tuple_tuple (I.ok.hd hc) ht (by simp[hn,<-hl,rv.length]) Nf λh' hx=>?_;have I1:Inv X pins σ H {s with heap:=h'}:=I.kept (t':=s.toks) λb o e=>hx b o (Nat.ne_of_lt (Heap.lt_size e)) e;exact h pins _ σ H xs _ Q I1 (by simpa using rv) hw
def aag (to ti:TE)(t:B5):TG:=λv σ H Q=>to σ H λo H1=>ti σ H1 λi H2=>t o i v H2 λH3=>Q σ H3
theorem vx {o i:Expr}{to ti:TE}{t:B5}(ho:PE X o to)(hi:PE X i ti)(hs:De X t)
 (ha:∀v,assign (.Subscript o i pos) X.env v=(do
  let ov <-holding [v] (eval o X.env)
  let iv <-holding [v,ov] (eval i X.env)
  standAt pos
  holding [v,ov,iv] (setItem ov iv v)
  release [v,ov,iv] []):=by intro _;rfl):PG X (.Subscript o i pos) (aag to ti t):=by
 intro pins s σ H v u Q I r h;rw[ha];refine wpAny_bind (wpAny_holding (bA (ho pins s σ H _ I h) λov s1 z'=>?_));obtain⟨x,H1,I1,r1,q1⟩:=z';refine wpAny_bind (wpAny_holding (bA (hi pins s1 σ H1 _ I1 q1) λiv s2 z'=>?_));obtain⟨y,H2,I2,r2,q2⟩:=z';refine wpAny_bind (wpAny_standAt (wpAny_bind (wpAny_holding (bA (hs pins s2 σ H2 x y v ov iv u _ I2 r1 r2 r q2) λ_ s3 z'=>?_))));obtain⟨H3,I3,q3⟩:=z';exact wpAny_release ⟨σ,H3,I3,q3⟩
def tR (te:TE)(g:TG):TS:=λD σ H=>te σ H λx H1=>g x σ H1 D.nx
theorem nK {tg:Expr}{te:TE}(he:PE X e te)(hg:PG X tg g)(hs:swapsWithSole [tg] e pos.line X.env=pure false:=by rfl)(hw:swappedStores [tg] e X.env=pure none:=by rfl)
 (h1:(assignEach [tg] X.env).map (·.2)=[assign tg X.env]:=by rfl):PS X (.Assign [tg] e pos) (tR te g):=by
 intro pins s σ H D I h;refine wpAny_Assign_stores (bA (he pins s σ H _ I h) λv s1 z'=>?_) hs hw;obtain⟨x,H1,I1,r1,q1⟩:=z';rw[h1];exact bA (hg pins s1 σ H1 x v _ I1 r1 q1) λ_ s2 q=>q
theorem aY {i:Nat}{x:Str}{e:Expr}{te:TE}{pos':Pos}(hN:X.N.Nodup)(hi:X.N[i]?=some x)(hx:CI X.env.scope x)(he:PE X e te)(hs:swapsWith e (some (.Name x pos')) pos.line X.env=pure false:=by rfl)(hf:X.fn x=true\/X.env.scope.names.lookup x=some .local:=by first|exact .inl rfl|exact .inr rfl|assumption):
 PS X (.Assign [.Name x pos'] e pos) (tR te (bg i)):=by
 intro pins s σ H D I h;refine wpAny_Assign_Name (bA (he pins s σ H _ I h) λv s1 z'=>?_) hs;obtain⟨y,H1,I1,r1,q1⟩:=z';exact iB I1 hN hi hx r1 (λs2 I2=>⟨_,H1,I2,q1⟩) hf
def TmX (i j:Nat)(ta:TA):TS:=λD σ H=>ta σ H λvs H1=>∃v w,vs=[v,w]/\D.nx ((σ.set i (some v)).set j (some w)) H1
theorem iP {i j:Nat}{y:Str}{a b:Expr}{px py pt:Pos} {kt k2 RM}(hc:X.calm=true)(hN:X.N.Nodup)(hi:X.N[i]?=some x)(hj:X.N[j]?=some y)(IA:i≠j)
 (hx:X.env.scope.names.lookup x=some .local)(hy:X.env.scope.names.lookup y=some .local)(ha:PA X [a,b] ta)
 (hw:swappedStores [.Tuple [.Name x px,.Name y py] kt pt] (.Tuple [a,b] k2 RM) X.env=pure (some [x,y]))
 (hs:swapsWithSole [.Tuple [.Name x px,.Name y py] kt pt] (.Tuple [a,b] k2 RM) pos.line X.env=pure false:=by rfl):
 PS X (.Assign [.Tuple [.Name x px,.Name y py] kt pt] (.Tuple [a,b] k2 RM) pos) (TmX i j ta):=by
 intro pins s σ H D I h;rw[exec_Assign_arm];refine wpAny_bind (wpAny_standAt ?_);rw[hs];refine wpAny_bind (wpAny_pure ?_);rw[if_neg (by decide)];refine wpAny_bind (Tuple_ (bA (ha _ pins s σ H _ I h) λus s1 z'=>?_));obtain⟨vs,H1,I1,r1,q1⟩:=z';obtain⟨v,w,e1,q1⟩:=q1;subst e1
 obtain⟨u1,u2,rfl,rv,Hv⟩:∃u1 u2,us=[u1,u2]/\aE v u1/\aE w u2:=by
  cases r1 with
  |cons p q =>
   cases q with
   |cons p' q' =>
    cases q'
    exact⟨_,_,rfl,p,p'⟩
 refine wpAny_newObj_type ?_ gc;have I2:Inv X pins σ H1 {s1 with heap:=s1.heap.push {cls:=.type "tuple",data:=.seq [u1,u2].toArray} }:=I1.kept (t':=s1.toks) λb o e=>Heap.get?_push_of_some _ e;rw[hw];refine wpAny_bind (wpAny_pure ?_);show wpAny (model X.prog X.w) X.A (do rule "assign.swapped-stores";let items <-unpackItems (.ref s1.heap.objs.size) 2 none;assignInOrder [λv=>bindName X.env y v,λv=>bindName X.env x v] items.reverse;pure Flow.next) _ _ _;refine wpAny_bind (wpAny_rule (wpAny_bind (unpackItems_tuple (items:=#[u1,u2]) (I.ok.hd hc) (IsTup.new s1.heap _) λh' Yw=>?_)));have I3:=I2.kept (h':=h') (t':=s1.toks) λb o e=>Yw b o (Nat.ne_of_lt (Heap.lt_size e)) e;show wpAny _ _ (assignInOrder [λv=>bindName X.env y v,λv=>bindName X.env x v] [u2,u1]>>=λ_=>pure Flow.next) _ _ _;refine wpAny_bind (assignInOrder_cons (wpAny_bindName (iB I3 hN hj (.inl hy) Hv (λs2 I4=>?_) (.inr hy))));refine assignInOrder_cons (wpAny_bindName (iB I4 hN hi (.inl hx) rv (λs3 I5=>assignInOrder_nil (wpAny_pure ?_)) (.inr hx)));rw[List.set_comm _ _ (Ne.symm IA)] at I5;exact⟨_,H1,I5,q1⟩
def aaR (c:TT)(tb:TS):TS:=λD σ H=>∃W:Nat->St->Hp->Prop,(∃m,W m σ H)/\∀m σ H,W m σ H →
 c σ H λb H1=>if b=true then ∃N:St->Hp->Prop,(∀σ' H',N σ' H'->∃m',m'<m/\W m' σ' H')/\tb {D with nx:=N,ct:=N,bk:=D.nx} σ H1 else D.nx σ H1
theorem jQ {c:Expr}{body:DN}{tc:TT}(hp:PassesOwn (model X.prog X.w) X.A X.env X.xe)(hc:PT X c tc)(hb:pV X body tb):PS X (.While c body [] pos) (aaR tc tb):=by
 intro pins s σ H D I h;obtain⟨W,⟨m0,w0⟩,turn⟩:=h;refine wpAny_While (codeAny_whileLoop (λn s'=>∃σ' H',Inv X pins σ' H' s'/\W n σ' H') ?_ m0 ⟨σ,H,I,w0⟩);rintro n s1 ⟨σ1,H1,I1,w1⟩;refine wpAny_passesOwn hp (bA (hc pins s1 σ1 H1 _ I1 (turn n σ1 H1 w1)) λb s2 z'=>?_);obtain⟨H2,I2,q2⟩:=z'
 cases b with
 |true =>
  obtain⟨N,hN,q2⟩:=q2;rw[if_pos rfl];refine wpAny_passesOwn hp (bA (hb pins s2 σ1 H2 _ I2 q2) λf s3 q3=>?_)
  cases f with
  |next =>
   obtain⟨σ3,H3,I3,n3⟩:=q3;obtain⟨m',hm,w3⟩:=hN σ3 H3 n3;exact⟨m',hm,σ3,H3,I3,w3⟩
  |cont =>
   obtain⟨σ3,H3,I3,n3⟩:=q3;obtain⟨m',hm,w3⟩:=hN σ3 H3 n3;exact⟨m',hm,σ3,H3,I3,w3⟩
  |brk=>exact q3
  |ret v=>exact q3
 |false =>
  rw[if_neg Bool.false_ne_true];exact wpAny_execs_nil ⟨σ1,H2,I2,q2⟩
end
structure It where
 go:Nat->Hp->Prop
 yld:Nat->Hp->V->Hp->Prop
 stop:Nat->Hp->Prop
def cg (X:Cx)(pins:List (Addr×Obj))(H:Hp)(b:Addr):Prop :=
 H b=none/\b≠X.env.locals/\b∉X.fs/\(b∈X.ex\/X.s₀.heap.objs.size<=b)/\(∀x c,X.env.cells.lookup x=some c->c≠b)/\∀p∈X.pn++pins,p.1≠b
variable {H':Hp}
theorem Inv.aaJ (I:Inv X pins σ H s)(hb:s.heap.objs.size<=b)(hn:H' b=none):cg X pins H' b:=by
 refine⟨hn,Nat.ne_of_gt (Nat.lt_of_lt_of_le I.lt hb),I.abz hb,.inr (Nat.le_trans I.sz hb),λx c e z=>?_,λp hp z=>?_⟩
 ·obtain⟨v,q⟩:=I.cell x c e;exact absurd (Nat.lt_of_lt_of_le q.lt (by rw[z];exact hb)) (Nat.lt_irrefl _)
 ·exact absurd (Nat.lt_of_lt_of_le (Heap.lt_size (I.pin p hp).1) (by rw[z];exact hb)) (Nat.lt_irrefl _)
structure Turn (P:vB)(w:World)(K:PySem.W.Frag)(tg:Expr)(J:It)(fp:List Addr)(it:Addr)(tn:Nat->Heap->Prop):Prop where
 mem:it∈fp
 obj:∀i h,tn i h->∀b∈fp,∃o,h.get? b=some o/\∀v,o.data≠.cell v
 keep:∀i h h',tn i h->(∀b∈fp,∀o,h.get? b=some o->h'.get? b=some o)->tn i h'
 item:∀(X:Cx),X.prog=P->X.w=w->X.K=K->X.calm=true->∀(i:Nat)(pins:List (Addr×Obj))(s:GB)(σ:St)(H:Hp)(E:pL),Inv X pins σ H s->(∀b∈fp,cg X pins H b)->tn i s.heap->J.go i H →
  wpAny (model P w) X.A (pyNext (.ref it)) (λr s1=>∃u,r=some u /\
   wpAny (model P w) X.A (letOwnedTupleGo tg (.ref it) u) (λ_ s2=>∃x H',Inv X pins σ H' s2/\aE x u/\J.yld i H x H'/\tn (i+1) s2.heap/\∀b∈fp,H' b=none) E s1) E s
 done:∀(X:Cx),X.prog=P->X.w=w->X.K=K->X.calm=true->∀(i:Nat)(pins:List (Addr×Obj))(s:GB)(σ:St)(H:Hp)(E:pL),Inv X pins σ H s->(∀b∈fp,cg X pins H b)->tn i s.heap->J.stop i H →
  wpAny (model P w) X.A (pyNext (.ref it)) (λr s1=>r=none/\Inv X pins σ H s1) E s
 self:∀(A:Around)(i:Nat)(s:GB)(Q:pL)(E:pL),tn i s.heap->Q (.ref it) s->wpAny (model P w) A (pyIter (.ref it)) Q E s
abbrev TI:=St->Hp->(It->Hp->Prop)->Prop
def F8 (X:Cx)(pins:List (Addr×Obj))(σ:St)(tg:Expr)(R:It->Hp->Prop)(Lr:Value)(s2:GB):Prop :=
 ∃(it:Addr)(fp:List Addr)(tn:Nat->Heap->Prop)(J:It)(H':Hp),Lr=.ref it/\Inv X pins σ H' s2/\Turn X.prog X.w X.K tg J fp it tn/\tn 0 s2.heap/\(∀b∈fp,cg X pins H' b)/\R J H'
def PI (X:Cx)(tg iter:Expr)(wi:TI):Prop :=
 ∀(pins:List (Addr×Obj))(s:GB)(σ:St)(H:Hp)(R:It->Hp->Prop),Inv X pins σ H s->wi σ H R →
  wpAny (model X.prog X.w) X.A (eval iter X.env) (λv s1=>wpAny (model X.prog X.w) X.A (pyIter v) (F8 X pins σ tg R) X.xe s1) X.xe s
theorem sM {E:pL}{s:GB}{tg:Expr}{it:Addr}{o:Obj}{n:String}{vs:t6}{Q:Unit->Shared->Prop}(ho:s.heap.get? it=some o)(hc:o.cls=.type n)(hd:o.data=.fields vs)
 (hn:["enumerate","zip","dict_itemiterator","dict_reverseitemiterator","odict_iterator","itertools.zip_longest","itertools.pairwise"].contains n=false)(hQ:Q () s):wpAny M A (letOwnedTupleGo tg (.ref it) u) Q E s:=by
 unfold letOwnedTupleGo
 cases tg <;> first
  |exact wpAny_pure hQ
  |(cases u <;> first
   |exact wpAny_pure hQ
   |(refine wpAny_bind (wpAny_load ho ?_)
     rw[hc,hd];show wpAny M A (if(["enumerate","zip","dict_itemiterator","dict_reverseitemiterator","odict_iterator","itertools.zip_longest","itertools.pairwise"].contains n&&vs[0]?==some (rawInt _))=true then _ else _) Q E s;rw[if_neg (by intro h;rw[hn,Bool.false_and] at h;cases h)]
     exact wpAny_pure hQ))
def zC (K:PySem.W.Frag)(a:Addr):It :=
 ⟨λi H=>∃xs x,aN K H a xs/\xs[i]?=some x,λi H x H'=>H'=H/\∀xs,aN K H a xs->xs[i]?=some x,λi H=>∃xs,aN K H a xs/\xs.length<=i⟩
def Gs (K:PySem.W.Frag)(a:Addr):It :=
 ⟨λi H=>∃xs x,bo K H a xs/\xs[i]?=some x,λi H x H'=>H'=H/\∀xs,bo K H a xs->xs[i]?=some x,λi H=>∃xs,bo K H a xs/\xs.length<=i⟩
def AO (lo:Int)(n:Nat):It:=⟨λi _=>i<n,λi H x H'=>H'=H/\x=.int (lo+i),λi _=>n<=i⟩
theorem abA {tg:Expr}(a it:Addr):Turn P w K tg (zC K a) [it] it (λi h=>h.IsListIter it a i) where
 mem:=by simp
 obj:=λi h st b hb=>by
  have e:b=it:=by simpa using hb
  subst e;obtain⟨o,e,c,d⟩:=st;exact⟨o,e,λv z=>by rw[d] at z;cases z⟩
 keep:=λi h h' st k=>st.at λo e=>k it (by simp) o e
 item:=by
  intro X hP hw hK hc i pins s σ H E I hf st hg;subst hP hw hK;obtain⟨xs,x,hq,hx⟩:=hg;obtain⟨its,rv,p,hz⟩:=I.list hq;obtain⟨u,hu,ru⟩:=rv.get hx;obtain⟨f0,f1,f2,f3,f4,f5⟩:=hf it (by simp);refine wpAny_pyNext_list_item st p.isList (x:=u) (by simpa using hu) λh' Hz sb=>?_;have I1:Inv X pins σ H {s with heap:=h'}:=I.turned (t':=s.toks) (λb o hb e=>(sb.2 b hb).trans e) f0 f1 f3 f4 f5;obtain⟨o,e,c,d⟩:=id Hz;exact⟨u,rfl,sM (s:={s with heap:=h'}) e c d (by decide) ⟨x,H,I1,ru,⟨rfl,λys hy=>by rw[I.aav hy hq];exact hx⟩,Hz,λb hb=>(hf b hb).1⟩⟩
 done:=by
  intro X hP hw hK hc i pins s σ H E I hf st hg;subst hP hw hK;obtain⟨xs,hq,hx⟩:=hg;obtain⟨its,rv,p,hz⟩:=I.list hq;obtain⟨f0,f1,f2,f3,f4,f5⟩:=hf it (by simp);have hl:=rv.length;exact wpAny_pyNext_list_end (I.ok.hd hc) st p.isList (by simp;omega) λh' eb=>⟨rfl,I.turned (t':=s.toks) (λb o hb e=>eb b o hb e) f0 f1 f3 f4 f5⟩
 self:=λ_ _ _ _ _ st h=>wpAny_pyIter_listiter st h
theorem TyX {tg:Expr}(a it:Addr):Turn P w K tg (Gs K a) [it] it (λi h=>h.IsTupleIter it a i) where
 mem:=by simp
 obj:=λi h st b hb=>by
  have e:b=it:=by simpa using hb
  subst e;obtain⟨o,e,c,d⟩:=st;exact⟨o,e,λv z=>by rw[d] at z;cases z⟩
 keep:=λi h h' st k=>st.at λo e=>k it (by simp) o e
 item:=by
  intro X hP hw hK hc i pins s σ H E I hf st hg;subst hP hw hK;obtain⟨xs,x,hq,hx⟩:=hg;obtain⟨its,rv,p,hz⟩:=I.tuple hq;obtain⟨u,hu,ru⟩:=rv.get hx;obtain⟨f0,f1,f2,f3,f4,f5⟩:=hf it (by simp);refine wpAny_pyNext_tuple_item st (show s.heap.IsTuple a its.toArray from p) (x:=u) (by simpa using hu) λh' Hz sb=>?_;have I1:Inv X pins σ H {s with heap:=h'}:=I.turned (t':=s.toks) (λb o hb e=>(sb.2 b hb).trans e) f0 f1 f3 f4 f5;obtain⟨o,e,c,d⟩:=id Hz;exact⟨u,rfl,sM (s:={s with heap:=h'}) e c d (by decide) ⟨x,H,I1,ru,⟨rfl,λys hy=>by rw[I.aaA hy hq];exact hx⟩,Hz,λb hb=>(hf b hb).1⟩⟩
 done:=by
  intro X hP hw hK hc i pins s σ H E I hf st hg;subst hP hw hK;obtain⟨xs,hq,hx⟩:=hg;obtain⟨its,rv,p,hz⟩:=I.tuple hq;obtain⟨f0,f1,f2,f3,f4,f5⟩:=hf it (by simp);have hl:=rv.length;exact wpAny_pyNext_tuple_end (I.ok.hd hc) st (show s.heap.IsTuple a its.toArray from p) (by simp;omega) λh' eb=>⟨rfl,I.turned (t':=s.toks) (λb o hb e=>eb b o hb e) f0 f1 f3 f4 f5⟩
 self:=λ_ _ _ _ _ st h=>wpAny_pyIter_tupleiter st h
theorem aaT {tg:Expr}(it:Addr)(lo:Int)(n:Nat):Turn P w K tg (AO lo n) [it] it (λi h=>IsRangeIter h it (lo+(i:Nat)*1) ((n:Int)-(i:Nat)) 1) where
 mem:=by simp
 obj:=λi h st b hb=>by
  have e:b=it:=by simpa using hb
  subst e
  exact⟨_,st,λv z=>by
   have z':Data.fields _=Data.cell v:=z
   cases z'⟩
 keep:=λi h h' st k=>k it (by simp) _ st
 item:=by
  intro X hP hw hK hc i pins s σ H E I hf st hg;subst hP hw hK;obtain⟨f0,f1,f2,f3,f4,f5⟩:=hf it (by simp);have W:=Walks.range (prog:=X.prog) (w:=X.w) (I.ok.hd hc) it lo 1 n;refine W.item i s _ _ hg st λv h' tk hv Hz kk=>?_;obtain⟨t,rfl⟩:=hv;have I1:Inv X pins σ H {s with heap:=h',toks:=tk}:=I.turned (λb o hb e=>kk b o (by simpa using hb) e) f0 f1 f3 f4 f5;refine⟨_,rfl,sM (s:={s with heap:=h',toks:=tk}) (n:="range_iterator") Hz rfl rfl (by decide) ⟨.int (lo+i),H,I1,⟨t,?_⟩,⟨rfl,rfl⟩,Hz,λb hb=>(hf b hb).1⟩⟩;rw[Int.mul_one]
 done:=by
  intro X hP hw hK hc i pins s σ H E I hf st hg;subst hP hw hK;obtain⟨f0,f1,f2,f3,f4,f5⟩:=hf it (by simp);exact wpAny_pyNext_range_end (I.ok.hd hc) st (by have:n<=i:=hg;omega) λh' eb=>⟨rfl,I.turned (t':=s.toks) (λb o hb e=>eb b o hb e) f0 f1 f3 f4 f5⟩
 self:=λ_ _ _ _ _ st h=>wpAny_pyIter_rangeiter st h
variable {pos:Pos}{fp:List Addr}
section
variable {X:Cx}{tg:Expr}
def aaU (K:PySem.W.Frag)(tl:TE):TI:=λσ H R=>tl σ H λx H1=>∃a,x=.ref a/\(∃xs,aN K H1 a xs)/\R (zC K a) H1
def Ba (K:PySem.W.Frag)(tl:TE):TI:=λσ H R=>tl σ H λx H1=>∃a,x=.ref a/\(∃xs,bo K H1 a xs)/\R (Gs K a) H1
theorem bu {l:Expr}{tl:TE}(hl:PE X l tl):PI X tg l (aaU X.K tl):=by
 intro pins s σ H R I h;refine bA (hl pins s σ H _ I h) λv s1 z'=>?_;obtain⟨x,H1,I1,r1,q1⟩:=z';obtain⟨a,e,⟨xs,hq⟩,q⟩:=q1;subst e
 cases r1
 obtain⟨its,rv,p,hz⟩:=I1.list hq;refine wpAny_pyIter_list p.isList ?_;refine⟨s1.heap.objs.size,[s1.heap.objs.size],_,_,H1,rfl,I1.kept (t':=s1.toks) λb o e=>Heap.get?_push_of_some _ e,abA a _,⟨_,Heap.get?_push_size _ rfl,rfl,rfl⟩,λb hb=>?_,q⟩
 have e:b=s1.heap.objs.size:=by simpa using hb
 subst e;exact I1.aaJ (Nat.le_refl _) (I1.hok.fresh (Nat.le_refl _))
theorem wF {l:Expr}{tl:TE}(hl:PE X l tl):PI X tg l (Ba X.K tl):=by
 intro pins s σ H R I h;refine bA (hl pins s σ H _ I h) λv s1 z'=>?_;obtain⟨x,H1,I1,r1,q1⟩:=z';obtain⟨a,e,⟨xs,hq⟩,q⟩:=q1;subst e
 cases r1
 obtain⟨its,rv,p,hz⟩:=I1.tuple hq;refine wpAny_pyIter_tuple (show s1.heap.IsTuple a its.toArray from p) ?_;refine⟨s1.heap.objs.size,[s1.heap.objs.size],_,_,H1,rfl,I1.kept (t':=s1.toks) λb o e=>Heap.get?_push_of_some _ e,TyX a _,⟨_,Heap.get?_push_size _ rfl,rfl,rfl⟩,λb hb=>?_,q⟩
 have e:b=s1.heap.objs.size:=by simpa using hb
 subst e;exact I1.aaJ (Nat.le_refl _) (I1.hok.fresh (Nat.le_refl _))
theorem oV {R:It->Hp->Prop}{E:pL}{lo hi:Int}{t u v:Tok}{tk:Nat}(I:Inv X pins σ H s)(h1:-(2^62)<=lo)(h2:lo<2^62)(h3:-(2^62)<=hi)(h4:hi<2^62)
 (q:R (AO lo (hi-lo).toNat) H):wpAny (model X.prog X.w) X.A (pyIter (.ref s.heap.objs.size)) (F8 X pins σ tg R) E {s with heap:=s.heap.push {cls:=.type "range",data:=.fields #[.int lo t,.int hi u,.int 1 v]},toks:=tk}:=by
 refine wpAny_pyIter_range (IsRange.new ..) (small_one h1 h2 h3 h4) ?_;have I1:Inv X pins σ H {s with heap:=s.heap.push {cls:=.type "range",data:=.fields #[.int lo t,.int hi u,.int 1 v]},toks:=tk}:=I.kept λb o e=>Heap.get?_push_of_some _ e
 refine⟨(s.heap.push {cls:=.type "range",data:=.fields #[.int lo t,.int hi u,.int 1 v]}).objs.size,[(s.heap.push {cls:=.type "range",data:=.fields #[.int lo t,.int hi u,.int 1 v]}).objs.size],_,_,H,rfl,
  I1.kept (t':=tk) λb o e=>Heap.get?_push_of_some _ e,aaT _ lo (hi-lo).toNat,?_,λb hb=>?_,q⟩
 ·have e1:lo+((0:Nat):Int)*1=lo:=by simp
  have e2:(((hi-lo).toNat:Nat):Int)-((0:Nat):Int)=Builtin.Range.rangeSize lo hi 1:=by rw[rangeSize_one];split <;> omega
  show IsRangeIter _ _ (lo+((0:Nat):Int)*1) ((((hi-lo).toNat:Nat):Int)-((0:Nat):Int)) 1;rw[e1,e2];exact Heap.get?_push_size _ rfl
 ·have e:b=(s.heap.push {cls:=.type "range",data:=.fields #[.int lo t,.int hi u,.int 1 v]}).objs.size:=by simpa using hb
  subst e;exact I1.aaJ (Nat.le_refl _) (I1.hok.fresh (Nat.le_refl _))
def aba (ta:TA):TI:=λσ H R=>ta σ H λvs H1=>∃j:Int,vs=[.int j]/\-(2^62)<=j/\j<2^62/\R (AO 0 j.toNat) H1
def abj (ta:TA):TI:=λσ H R=>ta σ H λvs H1=>∃i j:Int,vs=[.int i,.int j]/\(-(2^62)<=i/\i<2^62/\-(2^62)<=j/\j<2^62)/\R (AO i (j-i).toNat) H1
theorem gy {a:Expr}{p:Pos}(hg:Gl X "range")(hm:X.mg "range"=none)(ha:PA X [a] ta)(hs:starEach [a] X.env=[(false,eval a X.env)]:=by rfl):PI X tg (.Call (.Name "range" p) [a] [] pos) (aba ta):=by
 intro pins s σ H R I h;refine Call_ (cT I hg hm boot_range (PyProof.Rows.callWith_type1 (bA (ha pos pins s σ H _ I h) λus s1 z'=>?_) hs rfl));obtain⟨vs,H1,I1,r1,q1⟩:=z';obtain⟨j,e,q1,q2,q⟩:=q1;subst e
 cases r1 with
 |cons r rr =>
  cases rr
  obtain⟨t,rfl⟩:=r;exact call_range_1 (oV I1 (by omega) (by omega) q1 q2 (by simpa using q))
theorem abE {a b:Expr}{p:Pos}(hg:Gl X "range")(hm:X.mg "range"=none)(ha:PA X [a,b] ta)(hs:starEach [a,b] X.env=[(false,eval a X.env),(false,eval b X.env)]:=by rfl)(Ls:starEach [b] X.env=[(false,eval b X.env)]:=by rfl):
 PI X tg (.Call (.Name "range" p) [a,b] [] pos) (abj ta):=by
 intro pins s σ H R I h;refine Call_ (cT I hg hm boot_range (PyProof.Rows.callWith_type1 (bA (ha pos pins s σ H _ I h) λus s1 z'=>?_) (by rw[hs,Ls]) (by rw[Ls];rfl)));obtain⟨vs,H1,I1,r1,q1⟩:=z';obtain⟨i,j,e,⟨q1,q2,q3,q4⟩,q⟩:=q1;subst e
 cases r1 with
 |cons r rr =>
  cases rr with
  |cons r' rr =>
   cases rr
   obtain⟨t,rfl⟩:=r;obtain⟨t',rfl⟩:=r';exact call_range_2 (oV I1 q1 q2 q3 q4 q)
def abF (wi:TI)(g:TG)(tb:TS):TS:=λD σ H=>wi σ H λJ H1=>∃W:Nat->Nat->St->Hp->Prop,(∃m,W 0 m σ H1)/\∀i m σ H,W i m σ H →
 (J.stop i H/\D.nx σ H)\/(J.go i H/\∃N:St->Hp->Prop,(∀σ' H',N σ' H'->∃m',m'<m/\W (i+1) m' σ' H')/\∀x H',J.yld i H x H'->g x σ H' λσ2 H2=>tb {D with nx:=N,ct:=N,bk:=D.nx} σ2 H2)
def c8 (fp:List Addr)(h:Heap):List (Addr×Obj):=fp.filterMap λb=>(h.get? b).map λo=>(b,o)
theorem b0 {o:Obj}(hb:b∈fp)(e:h.get? b=some o):(b,o)∈c8 fp h:=List.mem_filterMap.mpr ⟨b,hb,by rw[e];rfl⟩
theorem mO {p:Addr×Obj}(hp:p∈c8 fp h):p.1∈fp/\h.get? p.1=some p.2:=by
 obtain⟨b,hb,e⟩:=List.mem_filterMap.mp hp
 cases q:h.get? b with
 |none=>rw[q] at e;cases e
 |some o =>
  rw[q] at e;have e':(b,o)=p:=Option.some.inj e;subst e';exact⟨hb,q⟩
theorem Inv.pinned (I:Inv X pins σ H s)(hf:∀b∈fp,cg X pins H b)(ho:∀b∈fp,∃o,s.heap.get? b=some o/\∀v,o.data≠.cell v):Inv X (pins++c8 fp s.heap) σ H s :=
 I.aah λp hp=>(List.mem_append.mp hp).elim (λz=>I.pin p (List.mem_append_right _ z)) λz=>by
   obtain⟨hb,e⟩:=mO z;obtain⟨f0,f1,f2,_⟩:=hf p.1 hb;obtain⟨o,e',d⟩:=ho p.1 hb;rw[e] at e';cases e';exact⟨e,f0,f1,f2,d⟩
theorem Inv.aai {pl:List (Addr×Obj)}(I:Inv X (pins++pl) σ H s):Inv X pins σ H s:=I.aah λp hp=>I.pin p (List.mem_append_right _ (List.mem_append_left _ hp))
theorem dZ {iter:Expr}{body:DN}{wi:TI}{g:TG}{tb:TS}{pos:Pos}(hp:PassesOwn (model X.prog X.w) X.A X.env X.xe)(hc:X.calm=true)(hi:PI X tg iter wi)(hg:PG X tg g)(hb:pV X body tb)
 (hs:∀x,foldedSetIterable iter X.env x=pure x:=by intro _;rfl):PS X (.For tg iter body [] pos) (abF wi g tb):=by
 intro pins s σ H D I h;refine wpAny_For (bA (hi pins s σ H _ I h) λv s1 h1=>bA h1 λLr s2 h2=>?_) hs;obtain⟨it,fp,tn,J,H2,e,I2,T,HG,f2,W,⟨m0,w0⟩,turn⟩:=h2;subst e;have Lu:∀{H':Hp},(∀b∈fp,H' b=none)->∀b∈fp,cg X pins H' b:=λhn b hb=>⟨hn b hb,(f2 b hb).2⟩;refine codeAny_forLoop_any (λn s'=>∃i σ' H',Inv X pins σ' H' s'/\tn i s'.heap/\(∀b∈fp,H' b=none)/\W i n σ' H') ?_ m0 ⟨0,σ,H2,I2,HG,λb hb=>(f2 b hb).1,w0⟩;rintro n s3 ⟨i,σ3,H3,I3,We,Wf,w3⟩
 rcases turn i n σ3 H3 w3 with⟨stop,qn⟩|⟨go,N,hN,step⟩
 ·refine wpAny_passesOwn hp (bA (T.done X rfl rfl rfl hc i pins s3 σ3 H3 X.xe I3 (Lu Wf) We stop) λr s4 z'=>?_);obtain⟨hr,I4⟩:=z';subst hr;exact wpAny_execs_nil ⟨σ3,H3,I4,qn⟩
 ·refine wpAny_passesOwn hp (bA (T.item X rfl rfl rfl hc i pins s3 σ3 H3 X.xe I3 (Lu Wf) We go) λr s4 z'=>?_);obtain⟨u,hr,h4⟩:=z';subst hr;refine wpAny_passesOwn hp (bA h4 λ_ s5 z'=>?_);obtain⟨x,H5,I5,r5,y5,Lv,Ng⟩:=z';have Yx:=I5.pinned (Lu Ng) (T.obj _ _ Lv);refine wpAny_passesOwn hp (bA (hg _ s5 σ3 H5 x u _ Yx r5 (step x H5 y5)) λ_ s6 z'=>?_);obtain⟨σ6,H6,I6,q6⟩:=z';refine wpAny_passesOwn hp (bA (hb _ s6 σ6 H6 _ I6 q6) λf s7 q7=>?_)
  have again:∀{σ7:St}{H7:Hp},Inv X (pins++c8 fp s5.heap) σ7 H7 s7->N σ7 H7->∃m,m<n/\∃i σ' H',Inv X pins σ' H' s7/\tn i s7.heap/\(∀b∈fp,H' b=none)/\W i m σ' H':=λ{σ7 H7} I7 n7=>by
   obtain⟨m',hm,w7⟩:=hN σ7 H7 n7;refine⟨m',hm,i+1,σ7,H7,I7.aai,T.keep _ _ _ Lv λb hb o e=>(I7.pin (b,o) (List.mem_append_right _ (List.mem_append_right _ (b0 hb e)))).1,λb hb=>?_,w7⟩;obtain⟨o,e,d⟩:=T.obj _ _ Lv b hb;exact(I7.pin (b,o) (List.mem_append_right _ (List.mem_append_right _ (b0 hb e)))).2.1
  cases f with
  |next=>obtain⟨σ7,H7,I7,n7⟩:=q7;exact again I7 n7
  |cont=>obtain⟨σ7,H7,I7,n7⟩:=q7;exact again I7 n7
  |brk=>obtain⟨σ7,H7,I7,q7⟩:=q7;exact⟨σ7,H7,I7.aai,q7⟩
  |ret v=>obtain⟨x7,σ7,H7,I7,r7,q7⟩:=q7;exact⟨x7,σ7,H7,I7.aai,r7,q7⟩
end
theorem hZ {K:PySem.W.Frag}{a:Addr}{xs:List V}{D:Ends}(Pv:Nat->St->Hp->Prop)(h0:Pv 0 σ H)(hl:∀i σ H,i<=xs.length->Pv i σ H->aN K H a xs)
 (hs:∀i x σ H,xs[i]?=some x->Pv i σ H->g x σ H λσ2 H2=>tb {D with nx:=Pv (i+1),ct:=Pv (i+1),bk:=D.nx} σ2 H2)(hd:∀σ H,Pv xs.length σ H->D.nx σ H):
 ∃W:Nat->Nat->St->Hp->Prop,(∃m,W 0 m σ H)/\∀i m σ H,W i m σ H →
  ((zC K a).stop i H/\D.nx σ H)\/((zC K a).go i H/\∃N:St->Hp->Prop,(∀σ' H',N σ' H'->∃m',m'<m/\W (i+1) m' σ' H')/\∀x H',(zC K a).yld i H x H'->g x σ H' λσ2 H2=>tb {D with nx:=N,ct:=N,bk:=D.nx} σ2 H2):=by
 refine⟨λi m σ H=>m=xs.length-i/\i<=xs.length/\Pv i σ H,⟨xs.length,by simp,Nat.zero_le _,h0⟩,?_⟩;rintro i m σ H ⟨rfl,hi,p⟩;have q:=hl i σ H hi p
 by_cases GR:i<xs.length
 ·refine .inr ⟨⟨xs,xs[i],q,by simp[GR]⟩,Pv (i+1),λσ' H' p'=>⟨xs.length-(i+1),by omega,rfl,GR,p'⟩,λx H' y=>?_⟩;obtain⟨e,y⟩:=y;subst e;exact hs i x σ _ (y xs q) p
 ·have e:i=xs.length:=by omega
  subst e;exact .inl ⟨⟨xs,q,Nat.le_refl _⟩,hd σ H p⟩
theorem jm {lo:Int}{n:Nat}{D:Ends}(Pv:Nat->St->Hp->Prop)(h0:Pv 0 σ H)
 (hs:∀i σ H,i<n->Pv i σ H->g (.int (lo+i)) σ H λσ2 H2=>tb {D with nx:=Pv (i+1),ct:=Pv (i+1),bk:=D.nx} σ2 H2)(hd:∀σ H,Pv n σ H->D.nx σ H):
 ∃W:Nat->Nat->St->Hp->Prop,(∃m,W 0 m σ H)/\∀i m σ H,W i m σ H →
  ((AO lo n).stop i H/\D.nx σ H)\/((AO lo n).go i H/\∃N:St->Hp->Prop,(∀σ' H',N σ' H'->∃m',m'<m/\W (i+1) m' σ' H')/\∀x H',(AO lo n).yld i H x H'->g x σ H' λσ2 H2=>tb {D with nx:=N,ct:=N,bk:=D.nx} σ2 H2):=by
 refine⟨λi m σ H=>m=n-i/\i<=n/\Pv i σ H,⟨n,by simp,Nat.zero_le _,h0⟩,?_⟩;rintro i m σ H ⟨rfl,hi,p⟩
 by_cases GR:i<n
 ·refine .inr ⟨GR,Pv (i+1),λσ' H' p'=>⟨n-(i+1),by omega,rfl,GR,p'⟩,λx H' y=>?_⟩;obtain⟨e,y⟩:=y;subst e y;exact hs i σ _ GR p
 ·have e:i=n:=by omega
  subst e;exact .inl ⟨Nat.le_refl _,hd σ H p⟩
abbrev R2:=V->V->Hp->VK->Prop
def dC (X:Cx)(f:Value->Value->Sem Value)(r:R2):Prop :=
 ∀(pins:List (Addr×Obj))(s:GB)(σ:St)(H:Hp)(x y:V)(v u:Value)(Q:VK),Inv X pins σ H s->aE x v->aE y u->r x y H Q →
  wpAny (model X.prog X.w) X.A (f v u) (EP X pins σ Q) X.xe s
def E5 (X:Cx)(f:Value->Sem Value)(r:V->Hp->VK->Prop):Prop :=
 ∀(pins:List (Addr×Obj))(s:GB)(σ:St)(H:Hp)(x:V)(v:Value)(Q:VK),Inv X pins σ H s->aE x v->r x H Q →
  wpAny (model X.prog X.w) X.A (f v) (EP X pins σ Q) X.xe s
def eX (X:Cx)(f:Value)(r:List V->Hp->VK->Prop):Prop :=
 ∀(pins:List (Addr×Obj))(s:GB)(σ:St)(H:Hp)(xs:List V)(us:nv)(Q:VK),Inv X pins σ H s->aL xs us->r xs H Q →
  wpAny (model X.prog X.w) X.A (call f us) (EP X pins σ Q) X.xe s
def abL (X:Cx)(r:V->Hp->(Bool->Hp->Prop)->Prop):Prop :=
 ∀(pins:List (Addr×Obj))(s:GB)(σ:St)(H:Hp)(x:V)(v:Value)(Q:Bool->Hp->Prop),Inv X pins σ H s->aE x v->r x H Q →
  wpAny (model X.prog X.w) X.A (truthy v) (TP X pins σ Q) X.xe s
def nG (r:R2)(ta tb:TE):TE:=λσ H Q=>ta σ H λx H1=>tb σ H1 λy H2=>r x y H2 Q
def aa2 (r:V->Hp->VK->Prop)(ta:TE):TE:=λσ H Q=>ta σ H λx H1=>r x H1 Q
def rI (C:Int->Int->Prop)(g:Int->Int->V):R2:=λx y H Q=>∃i j,x=.int i/\y=.int j/\C i j/\Q (g i j) H
def ug (g:Int->Int->V):R2:=λx y H Q=>∃i j,x=.int i/\y=.int j/\Q (g i j) H
def rU (g:Int->V):V->Hp->VK->Prop:=λx H Q=>∃i,x=.int i/\Q (g i) H
variable {f:Value->Value->Sem Value}
section
variable {X:Cx}{a b c:Expr}{ta tb tc:TE}{pos:Pos}
theorem Cm (ha:PE X a ta)(hb:PE X b tb){R:V->V->Hp->Prop}(I:Inv X pins σ H s)
 (h:ta σ H λx H1=>tb σ H1 λy H2=>R x y H2){Q:pL}
 (hf:∀v u s2 x y H2,Inv X pins σ H2 s2->aE x v->aE y u->R x y H2->wpAny (model X.prog X.w) X.A (f v u) Q X.xe s2):
 wpAny (model X.prog X.w) X.A (eval a X.env) (λv s₁=>wpAny (model X.prog X.w) X.A (eval b X.env) (λu s₂=>wpAny (model X.prog X.w) X.A (f v u) Q X.xe s₂) X.xe s₁) X.xe s:=by
 refine bA (ha pins s σ H _ I h) λv s1 z'=>?_;obtain⟨x,H1,I1,r1,q1⟩:=z';refine bA (hb pins s1 σ H1 _ I1 q1) λu s2 z'=>?_;obtain⟨y,H2,I2,r2,q2⟩:=z';exact hf v u s2 x y H2 I2 r1 r2 q2
theorem aD {op:Operator}{r:R2}(ho:dC X (binaryOp op) r)(ha:PE X a ta)(hb:PE X b tb):PE X (.BinOp a op b pos) (nG r ta tb):=by
 intro pins s σ H Q I h;exact wpAny_BinOp (Cm ha hb I h λv u s2 x y H2 I2 rx ry q=>ho pins s2 σ H2 x y v u Q I2 rx ry q)
theorem wR {op:UnaryOp}{r:V->Hp->VK->Prop}(ho:E5 X (unaryOp op) r)(ha:PE X a ta):PE X (.UnaryOp op a pos) (aa2 r ta):=by
 intro pins s σ H Q I h;exact UnaryOp_ (bA (ha pins s σ H _ I h) λv s1 ⟨x,H1,I1,r1,q1⟩=>ho pins s1 σ H1 x v Q I1 r1 q1)
theorem AY {C:Int->Int->Prop}{g:Int->Int->Int}
 (rule:∀(i j:Int)(t u:Tok)(s:GB)(Q:pL)(E:pL),C i j->Q (.int (g i j) s.toks) {s with toks:=s.toks+1}->wpAny (model X.prog X.w) X.A (f (.int i t) (.int j u)) Q E s):
 dC X f (rI C λi j=>.int (g i j)):=by
 intro pins s σ H x y v u Q I rx ry h;obtain⟨i,j,rfl,rfl,hc,q⟩:=h;obtain⟨t,rfl⟩:=rx;obtain⟨t',rfl⟩:=ry;exact rule i j t t' s _ _ hc ⟨.int (g i j),H,I.tok _,⟨_,rfl⟩,q⟩
theorem Eb {g:Int->Int->Int}
 (rule:∀(i j:Int)(t u:Tok)(s:GB)(Q:pL)(E:pL),Q (.int (g i j) s.toks) {s with toks:=s.toks+1}->wpAny (model X.prog X.w) X.A (f (.int i t) (.int j u)) Q E s):
 dC X f (ug λi j=>.int (g i j)):=by
 intro pins s σ H x y v u Q I rx ry h;obtain⟨i,j,rfl,rfl,q⟩:=h;obtain⟨t,rfl⟩:=rx;obtain⟨t',rfl⟩:=ry;exact rule i j t t' s _ _ ⟨.int (g i j),H,I.tok _,⟨_,rfl⟩,q⟩
theorem yL {g:Int->Int->Bool}
 (rule:∀(i j:Int)(t u:Tok)(s:GB)(Q:pL)(E:pL),Q (.bool (g i j)) s->wpAny (model X.prog X.w) X.A (f (.int i t) (.int j u)) Q E s):
 dC X f (ug λi j=>.bl (g i j)):=by
 intro pins s σ H x y v u Q I rx ry h;obtain⟨i,j,rfl,rfl,q⟩:=h;obtain⟨t,rfl⟩:=rx;obtain⟨t',rfl⟩:=ry;exact rule i j t t' s _ _ ⟨.bl (g i j),H,I,rfl,q⟩
def aan (i j:Int):Prop:=0<j/\j<1073741824
def CW (i j:Int):Prop:=0<=j/\j<=1000000/\i.natAbs<2^64
def rf (i j:Int):Prop:=(-(2^64)<i/\i<2^64)\/(-(2^64)<j/\j<2^64)
theorem rf.ok {i j:Int}(h:rf i j):IntMulOk i j:=by
 rcases h with⟨h1,h2⟩|⟨h1,h2⟩
 ·exact .of_left (intBits_le_64 h1 h2)
 ·exact .of_right (intBits_le_64 h1 h2)
theorem dn:dC X (binaryOp .Add) (ug λi j=>.int (i+j)):=Eb λ_ _ _ _ _ _ _ q=>add_int q
theorem nZ:dC X (binaryOp .Sub) (ug λi j=>.int (i-j)):=Eb λ_ _ _ _ _ _ _ q=>sub_int q
theorem fA:dC X (binaryOp .Mult) (rI rf λi j=>.int (i*j)):=AY λ_ _ _ _ _ _ _ hc q=>mul_int q hc.ok
theorem aa3:dC X (binaryOp .FloorDiv) (rI aan λi j=>.int (i/j)):=AY λi j _ _ _ _ _ hc q=>by
 have h1:(0:Int)<j:=hc.1;have h2:j<1073741824:=hc.2;exact floordiv_int (by omega) (by rw[Int.fdiv_eq_ediv_of_nonneg i (by omega)];exact q) (.inl (PyProof.noPylong_small (by omega)))
theorem cx:dC X (binaryOp .Mod) (rI (λ_ j=>0<j) λi j=>.int (i%j)):=AY λi j _ _ _ _ _ hc q=>by
 have h1:(0:Int)<j:=hc;exact mod_int' (by omega) (by rw[Int.fmod_eq_emod_of_nonneg i (by omega)];exact q)
theorem rD:dC X (binaryOp .Mod) (rI (λ_ j=>j≠0) λi j=>.int (i.fmod j)):=AY λ_ _ _ _ _ _ _ hc q=>mod_int' hc q
theorem yi:dC X (binaryOp .Pow) (rI CW λi j=>.int (i^j.toNat)):=AY λ_ _ _ _ _ _ _ hc q=>pow_int_small hc.1 hc.2.1 hc.2.2 q
theorem abI {f:Value->Sem Value}{g:Int->Int}
 (rule:∀(i:Int)(t:Tok)(s:GB)(Q:pL)(E:pL),Q (.int (g i) s.toks) {s with toks:=s.toks+1}->wpAny (model X.prog X.w) X.A (f (.int i t)) Q E s):
 E5 X f (rU λi=>.int (g i)):=by
 intro pins s σ H x v Q I rx h;obtain⟨i,rfl,q⟩:=h;obtain⟨t,rfl⟩:=rx;exact rule i t s _ _ ⟨.int (g i),H,I.tok _,⟨_,rfl⟩,q⟩
theorem pZ:E5 X (unaryOp .USub) (rU λi=>.int (-i)):=abI λ_ _ _ _ _ q=>neg_int q
end
def Dq:V->V->Bool
 | .non,.non=>true| .non,.int _=>true| .int _,.non=>true| .non,.bl _=>true| .bl _,.non=>true| .non,.str _=>true| .str _,.non=>true
 | .int _,.int _=>true| .bl _,.bl _=>true| .str _,.str _=>true| .byt _,.byt _=>true
 | .int _,.str _=>true| .str _,.int _=>true| .bl _,.str _=>true| .str _,.bl _=>true
 |_,_=>false
def rEq:R2:=λx y H Q=>Dq x y=true/\Q (.bl (decide (x=y))) H
def rNe:R2:=λx y H Q=>Dq x y=true/\Q (.bl (!decide (x=y))) H
theorem dw {i j:Int}:decide (V.int i=V.int j)=(i==j):=by
 rw[Bool.eq_iff_iff];simp
theorem xV {i j:Bool}:decide (V.bl i=V.bl j)=(i==j):=by
 rw[Bool.eq_iff_iff];simp
theorem sX {i j:Str}:decide (V.str i=V.str j)=(i==j):=by
 rw[Bool.eq_iff_iff];simp
theorem sj {i j:Array UInt8}:decide (V.byt i=V.byt j)=(i.toList==j.toList):=by
 rw[Bool.eq_iff_iff]
 cases i
 cases j
 simp
variable {Q:VK}
section
variable {X:Cx}{a b c:Expr}{ta tb tc:TE}{pos:Pos}
theorem br {k k':Bool}(I:Inv X pins σ H s)(q:Q (.bl k) H)(e:k=k'):EP X pins σ Q (.bool k') s:=by
 subst e;exact⟨.bl k,H,I,rfl,q⟩
theorem dF:dC X (compareOp .Eq) rEq:=by
 intro pins s σ H x y v u Q I rx ry h;obtain⟨hs,q⟩:=h
 cases x with
 |non =>
  cases rx
  cases y with
  |non=>cases ry;exact PySem.EqNone.eq_none_none (br I q (by simp))
  |bl j=>cases ry;exact PySem.EqNone.eq_none_bool (br I q (by simp))
  |int j=>obtain⟨t',rfl⟩:=ry;exact PySem.EqNone.eq_none_int (br I q (by simp))
  |str j=>obtain⟨t',rfl⟩:=ry;exact PySem.EqNone.eq_none_str (br I q (by simp))
  |_=>exact absurd (show false=true from hs) Bool.false_ne_true
 |bl i =>
  cases rx
  cases y with
  |non=>cases ry;exact PySem.EqNone.eq_bool_none (br I q (by simp))
  |bl j=>cases ry;exact eq_bool (br I q xV)
  |str j=>obtain⟨t',rfl⟩:=ry;exact PySem.EqMixed.eq_bool_str (br I q (by simp))
  |_=>exact absurd (show false=true from hs) Bool.false_ne_true
 |int i =>
  obtain⟨t,rfl⟩:=rx
  cases y with
  |non=>cases ry;exact PySem.EqNone.eq_int_none (br I q (by simp))
  |int j=>obtain⟨t',rfl⟩:=ry;exact eq_int (br I q dw)
  |str j=>obtain⟨t',rfl⟩:=ry;exact PySem.EqMixed.eq_int_str (br I q (by simp))
  |_=>exact absurd (show false=true from hs) Bool.false_ne_true
 |str i =>
  obtain⟨t,rfl⟩:=rx
  cases y with
  |non=>cases ry;exact PySem.EqNone.eq_str_none (br I q (by simp))
  |bl j=>cases ry;exact PySem.EqMixed.eq_str_bool (br I q (by simp))
  |int j=>obtain⟨t',rfl⟩:=ry;exact PySem.EqMixed.eq_str_int (br I q (by simp))
  |str j=>obtain⟨t',rfl⟩:=ry;exact eq_str (br I q sX)
  |_=>exact absurd (show false=true from hs) Bool.false_ne_true
 |byt i =>
  obtain⟨t,rfl⟩:=rx
  cases y with
  |byt j=>obtain⟨t',rfl⟩:=ry;exact PySem.W.eq_bytes (br I q sj)
  |_=>exact absurd (show false=true from hs) Bool.false_ne_true
 |_=>cases y <;> exact absurd (show false=true from hs) Bool.false_ne_true
theorem fM:dC X (compareOp .NotEq) rNe:=by
 intro pins s σ H x y v u Q I rx ry h;obtain⟨hs,q⟩:=h
 cases x with
 |non =>
  cases rx
  cases y with
  |non=>cases ry;exact PySem.EqNone.ne_none_none (br I q (by simp))
  |bl j=>cases ry;exact PySem.EqNone.ne_none_bool (br I q (by simp))
  |int j=>obtain⟨t',rfl⟩:=ry;exact PySem.EqNone.ne_none_int (br I q (by simp))
  |str j=>obtain⟨t',rfl⟩:=ry;exact PySem.EqNone.ne_none_str (br I q (by simp))
  |_=>exact absurd (show false=true from hs) Bool.false_ne_true
 |bl i =>
  cases rx
  cases y with
  |non=>cases ry;exact PySem.EqNone.ne_bool_none (br I q (by simp))
  |bl j=>cases ry;exact ne_bool (br I q (congrArg not xV))
  |str j=>obtain⟨t',rfl⟩:=ry;exact PySem.EqMixed.ne_bool_str (br I q (by simp))
  |_=>exact absurd (show false=true from hs) Bool.false_ne_true
 |int i =>
  obtain⟨t,rfl⟩:=rx
  cases y with
  |non=>cases ry;exact PySem.EqNone.ne_int_none (br I q (by simp))
  |int j=>obtain⟨t',rfl⟩:=ry;exact ne_int (br I q (congrArg not dw))
  |str j=>obtain⟨t',rfl⟩:=ry;exact PySem.EqMixed.ne_int_str (br I q (by simp))
  |_=>exact absurd (show false=true from hs) Bool.false_ne_true
 |str i =>
  obtain⟨t,rfl⟩:=rx
  cases y with
  |non=>cases ry;exact PySem.EqNone.ne_str_none (br I q (by simp))
  |bl j=>cases ry;exact PySem.EqMixed.ne_str_bool (br I q (by simp))
  |int j=>obtain⟨t',rfl⟩:=ry;exact PySem.EqMixed.ne_str_int (br I q (by simp))
  |str j=>obtain⟨t',rfl⟩:=ry;exact ne_str (br I q (congrArg not sX))
  |_=>exact absurd (show false=true from hs) Bool.false_ne_true
 |byt i =>
  obtain⟨t,rfl⟩:=rx
  cases y with
  |byt j=>obtain⟨t',rfl⟩:=ry;exact PySem.W.ne_bytes (br I q (congrArg not sj))
  |_=>exact absurd (show false=true from hs) Bool.false_ne_true
 |_=>cases y <;> exact absurd (show false=true from hs) Bool.false_ne_true
theorem kJ:dC X (compareOp .Lt) (ug λi j=>.bl (decide (i<j))):=yL λ_ _ _ _ _ _ _ q=>lt_int q
theorem jK:dC X (compareOp .LtE) (ug λi j=>.bl (decide (i<=j))):=yL λ_ _ _ _ _ _ _ q=>le_int q
theorem rG:dC X (compareOp .Gt) (ug λi j=>.bl (decide (j<i))):=yL λ_ _ _ _ _ _ _ q=>gt_int q
theorem xP:dC X (compareOp .GtE) (ug λi j=>.bl (decide (j<=i))):=yL λ_ _ _ _ _ _ _ q=>ge_int q
theorem xn:dC X (compareOp .Is) (λx y H Q=>y=.non/\Q (.bl (decide (x=.non))) H):=by
 intro pins s σ H x y v u Q I rx ry h;obtain⟨rfl,q⟩:=h
 cases ry
 refine is_none_gen (br I q ?_)
 cases x <;> first
  |(cases rx;rfl)
  |(obtain⟨t,rfl⟩:=rx;rfl)
theorem aG (b:Expr)(h:op ≠ .In:=by decide)(h2:op ≠ .NotIn:=by decide):behindInMarks op b=false:=by
 have e1:(op==CmpOp.In)=false:=by cases op <;> first|rfl|exact absurd rfl h
 have e2:(op==CmpOp.NotIn)=false:=by cases op <;> first|rfl|exact absurd rfl h2
 cases b <;> simp[behindInMarks,e1,e2]
theorem bH {op:CmpOp}{r:R2}(ho:dC X (compareOp op) r)(ha:PE X a ta)(hb:PE X b tb)(hm:behindInMarks op b=false):PE X (.Compare a [op] [b] pos) (nG r ta tb):=by
 intro pins s σ H Q I h;exact wpAny_Compare1 (Cm ha hb I h λv u s2 x y H2 I2 rx ry q=>ho pins s2 σ H2 x y v u Q I2 rx ry q) hm
def w9 (t:TE):TT:=λσ H Q=>t σ H λx H'=>∃k,x=.bl k/\Q k H'
theorem aH {op:CmpOp}{r:R2}(ho:dC X (compareOp op) r)(ha:PE X a ta)(hb:PE X b tb)(hm:behindInMarks op b=false):PT X (.Compare a [op] [b] pos) (w9 (nG r ta tb)):=by
 intro pins s σ H Q I h
 refine wpAny_isTrue_Compare1 (bA (ha pins s σ H _ I h) λv s1 ⟨x,H1,I1,r1,q1⟩=>bA (hb pins s1 σ H1 _ I1 q1) λu s2 ⟨y,H2,I2,r2,q2⟩ =>
  bA (ho pins s2 σ H2 x y v u _ I2 r1 r2 q2) λc s3 ⟨z,H3,I3,r3,k,e,q3⟩=>?_) hm
 subst e
 cases r3
 exact wpAny_truthy_bool ⟨H3,I3,q3⟩
def vy (r r':R2)(ta tb tc:TE):TE:=λσ H Q=>ta σ H λx H1=>tb σ H1 λy H2=>r x y H2 λz H3=>∃k,z=.bl k /\
 (if k=true then tc σ H3 λw' H4=>r' y w' H4 Q else Q (.bl false) H3)
theorem oG {Lw:CmpOp}{r r':R2}(ho:dC X (compareOp op) r)(Hr:dC X (compareOp Lw) r')(ha:PE X a ta)(hb:PE X b tb)(hc:PE X c tc)
 (hm:lastMarks [op,Lw] [b,c]=false:=by with_unfolding_all rfl):PE X (.Compare a [op,Lw] [b,c] pos) (vy r r' ta tb tc):=by
 intro pins s σ H Q I h
 refine Compare_chain (bA (ha pins s σ H _ I h) λv s1 ⟨x,H1,I1,r1,q1⟩=>chain_link (bA (hb pins s1 σ H1 _ I1 q1) λu s2 ⟨y,H2,I2,r2,q2⟩ =>
  bA (ho pins s2 σ H2 x y v u _ I2 r1 r2 q2) λd s3 ⟨z,H3,I3,r3,k,e,q3⟩=>?_)) hm
 subst e
 cases r3
 refine wpAny_truthy_bool ?_
 cases k with
 |false=>exact ite_ff ⟨.bl false,H3,I3,rfl,q3⟩
 |true=>exact ite_tt (chain_last (bA (hc pins s3 σ H3 _ I3 q3) λw' s4 ⟨z',H4,I4,r4,q4⟩=>Hr pins s4 σ H4 y z' u w' Q I4 r2 r4 q4))
theorem oX {Lw:CmpOp}{r r':R2}(ho:dC X (compareOp op) r)(Hr:dC X (compareOp Lw) r')(ha:PE X a ta)(hb:PE X b tb)(hc:PE X c tc)
 (hm:lastMarks [op,Lw] [b,c]=false:=by with_unfolding_all rfl):PT X (.Compare a [op,Lw] [b,c] pos) (w9 (vy r r' ta tb tc)):=by
 intro pins s σ H Q I h
 refine isTrue_chain (bA (ha pins s σ H _ I h) λv s1 ⟨x,H1,I1,r1,q1⟩=>test_link (bA (hb pins s1 σ H1 _ I1 q1) λu s2 ⟨y,H2,I2,r2,q2⟩ =>
  bA (ho pins s2 σ H2 x y v u _ I2 r1 r2 q2) λd s3 ⟨z,H3,I3,r3,k,e,q3⟩=>?_)) hm
 subst e
 cases r3
 refine wpAny_truthy_bool ?_
 cases k with
 |false =>
  obtain⟨k',e',q'⟩:=q3
  cases e'
  exact ite_ff ⟨H3,I3,q'⟩
 |true =>
  refine ite_tt (test_last (bA (hc pins s3 σ H3 _ I3 q3) λw' s4 ⟨z',H4,I4,r4,q4⟩=>bA (Hr pins s4 σ H4 y z' u w' _ I4 r2 r4 q4) λd' s5 ⟨z2,H5,I5,r5,k2,e2,q5⟩=>?_));subst e2
  cases r5
  exact wpAny_truthy_bool ⟨H5,I5,q5⟩
def Be (K:PySem.W.Frag)(x:V)(H:Hp)(k:Bool):Prop :=
 match x with
 | .non=>k=false
 | .bl b=>k=b
 | .int i=>k=(i != 0)
 | .str y=>y.length<=sizeLine/\k=((y.length:Int) != 0)
 | .byt y=>y.size<=sizeLine/\k=((y.size:Int) != 0)
 | .ref p=>(∃xs,aN K H p xs/\k = !xs.isEmpty)\/(∃xs,bo K H p xs/\k = !xs.isEmpty)\/∃GH,H p=some (.dK GH)/\k = !GH.isEmpty
 |_=>False
theorem abJ {κ:Type}{GH:List (κ×V)}{vs:List (κ×Value)}(r:KV GH vs):(!vs.isEmpty) = !GH.isEmpty:=by
 cases r <;> rfl
theorem lj {xs:List V}{its:nv}(r:aL xs its):(!its.toArray.isEmpty) = !xs.isEmpty:=by
 cases r <;> simp
theorem kH:(sizeLine:Nat)<2^63:=by rw[sizeLine_eq];decide
theorem TGs:abL X (λx H Q=>∃k,Be X.K x H k/\Q k H):=by
 intro pins s σ H x v Q I rx h;obtain⟨k,e,q⟩:=h;have hl:=kH;have hs:sizeLine=16777216:=sizeLine_eq
 cases x with
 |non =>
  cases rx
  have e':k=false:=e;subst e';exact truthy_none ⟨H,I,q⟩
 |bl b =>
  cases rx
  have e':k=b:=e;subst e';exact wpAny_truthy_bool ⟨H,I,q⟩
 |int i =>
  obtain⟨t,rfl⟩:=rx;have e':k=(i != 0):=e;subst e';exact PySem.P.truthy_int ⟨H,I,q⟩
 |str y =>
  obtain⟨t,rfl⟩:=rx;obtain⟨hy,e'⟩:y.length<=sizeLine/\k=((y.length:Int) != 0):=e;subst e';exact PySem.P.truthy_str (by omega) ⟨H,I.tok _,q⟩
 |byt y =>
  obtain⟨t,rfl⟩:=rx;obtain⟨hy,e'⟩:y.size<=sizeLine/\k=((y.size:Int) != 0):=e;subst e';exact PySem.W.truthy_bytes (by omega) ⟨H,I.tok _,q⟩
 |ref p =>
  cases rx
  have e':(∃xs,aN X.K H p xs/\k = !xs.isEmpty)\/(∃xs,bo X.K H p xs/\k = !xs.isEmpty)\/∃GH,H p=some (.dK GH)/\k = !GH.isEmpty:=e
  rcases e' with⟨xs,hx,e'⟩|⟨xs,hx,e'⟩|⟨GH,hx,e'⟩
  ·subst e';obtain⟨its,r,pl,hz⟩:=I.list hx;have hlen:=r.length;exact wpAny_truthy_list pl.isList (by simp only[List.size_toArray];omega) ⟨H,I.tok _,by rw[lj r];exact q⟩
  ·subst e';obtain⟨its,r,pl,hz⟩:=I.tuple hx;have hlen:=r.length;exact truthy_tuple pl (by simp only[List.size_toArray];omega) ⟨H,I.tok _,by rw[lj r];exact q⟩
  ·subst e';obtain⟨hz,hS,vs,r,m⟩:GH.length<=sizeLine/\(p==sysModules)=false/\∃vs,KV GH vs/\s.heap.DictOf (bN X.prog X.w) p vs:=I.hok p _ hx;have hlen:GH.length=vs.length:=Paired.length r;exact wpAny_truthy_dict hS m (by omega) ⟨H,I.tok _,by rw[abJ r];exact q⟩
 |_=>exact(show False from e).elim
theorem oA (ha:PE X a ta)(he:∀dk,isTrue a X.env dk=(do let v <-dk;standAt a.pos;holding [v] (truthy v))):
 PT X a (λσ H Q=>ta σ H λx H'=>∃k,Be X.K x H' k/\Q k H'):=by
 intro pins s σ H Q I h;exact isTrue_plain (bA (ha pins s σ H _ I h) λv s1 ⟨x,H1,I1,r1,q1⟩=>TGs pins s1 σ H1 x v Q I1 r1 q1) (he _)
theorem eK {x:V}(r:aL [x] us):∃u,us=[u]/\aE x u:=by
 cases r with
 |cons r1 r2=>cases r2;exact⟨_,rfl,r1⟩
theorem rL {x:V}(r:aL [x,y] us):∃u w',us=[u,w']/\aE x u/\aE y w':=by
 cases r with
 |cons r1 r2 =>
  cases r2 with
  |cons r3 r4=>cases r4;exact⟨_,_,rfl,r1,r3⟩
theorem kj:eX X (.builtin "abs") (λxs H Q=>∃i,xs=[.int i]/\Q (.int (if i<0 then -i else i)) H):=by
 intro pins s σ H xs us Q I r h;obtain⟨i,rfl,q⟩:=h;obtain⟨u,rfl,t,rfl⟩:=eK r;exact call_abs_int λu tk=>⟨.int (if i<0 then -i else i),H,I.tok _,⟨_,rfl⟩,q⟩
theorem aa5 (hc:X.calm=true):eX X (.builtin "max") (λxs H Q=>∃i j,xs=[.int i,.int j]/\Q (.int (if j>i then j else i)) H):=by
 intro pins s σ H xs us Q I r h;obtain⟨i,j,rfl,q⟩:=h;obtain⟨u,w',rfl,⟨t,rfl⟩,⟨t',rfl⟩⟩:=rL r;refine max_two_ints (I.ok.hd hc) λh' tk k=>⟨_,H,I.kept k,?_,q⟩
 by_cases hj:j>i
 ·rw[if_pos hj,if_pos hj];exact⟨_,rfl⟩
 ·rw[if_neg hj,if_neg hj];exact⟨_,rfl⟩
theorem aaD (hc:X.calm=true):eX X (.builtin "min") (λxs H Q=>∃i j,xs=[.int i,.int j]/\Q (.int (if j<i then j else i)) H):=by
 intro pins s σ H xs us Q I r h;obtain⟨i,j,rfl,q⟩:=h;obtain⟨u,w',rfl,⟨t,rfl⟩,⟨t',rfl⟩⟩:=rL r;refine min_two_ints (I.ok.hd hc) λh' tk k=>⟨_,H,I.kept k,?_,q⟩
 by_cases hj:j<i
 ·rw[if_pos hj,if_pos hj];exact⟨_,rfl⟩
 ·rw[if_neg hj,if_neg hj];exact⟨_,rfl⟩
theorem gG:eX X (.type "int") (λxs H Q=>(∃i,xs=[.int i]/\Q (.int i) H)\/∃k,xs=[.bl k]/\Q (.int (if k then 1 else 0)) H):=by
 intro pins s σ H xs us Q I r h
 rcases h with⟨i,rfl,q⟩|⟨k,rfl,q⟩
 ·obtain⟨u,rfl,t,rfl⟩:=eK r;exact call_int_int ⟨.int i,H,I,⟨_,rfl⟩,q⟩
 ·obtain⟨u,rfl,r1⟩:=eK r
  cases r1
  exact call_int_bool ⟨.int (if k then 1 else 0),H,I.tok _,⟨_,rfl⟩,q⟩
end
structure uy (h:Heap)(x dx C:Addr)(mA:vW):Prop where
 obj:h.get? x=some (PySem.W.instObj C dx)
 ns:h.Ns1 dx mA
 ne:dx≠x
theorem aa7 {dx:Addr}{mA:vW}(n:h.Ns1 dx mA):∃od,h.get? dx=some od/\∀name,PySem.W.lookIn name od=some (mA name):=by
 obtain⟨o,es,ep,ho,hd,hk,_,hm⟩:=n;refine⟨o,ho,λname=>?_⟩;have e:=hm name;unfold nsFind findBy at e;rw[<-Array.find?_toList] at e;unfold PySem.W.lookIn;rw[hd];dsimp only
 split
 ·rename_i y q
  rw[q] at e;exact congrArg some e
 ·rename_i q
  rw[q] at e
  have a:es.toList.any (·.refKey)=false:=by
   rw[List.any_eq_false];intro y hy;obtain⟨z,t,RN⟩:=hk y (Array.mem_toList_iff.mp hy);simp[DictEntry.refKey,RN]
  have a':¬es.toList.any (·.refKey)=true:=by rw[a];exact Bool.false_ne_true
  rw[if_neg a'];exact congrArg some e
variable {C:Addr}
theorem uy.look {x dx:Addr}{mA:vW}(I:uy h x dx C mA):∃od,PySem.W.InstAt h x (PySem.W.instObj C dx) C (some od)/\∀name,PySem.W.lookIn name od=some (mA name):=
 let⟨od,ho,hl⟩:=aa7 I.ns
 ⟨od,⟨I.obj,rfl,rfl,ho⟩,hl⟩
variable {pl:Sem Bool}{kw:List (Str×Value)}
section
variable {prog:vB}{w:World}{A:Around}{E:pL}{s:GB}{K:PySem.W.Frag}{x dx C f:Addr}{mA:vW}{name:Str}{v:Value}
theorem aa0 {expr:Bool}{Q:pL}(X:K.In s.heap)(I:uy s.heap x dx C mA)(hg:PySem.W.plainGet K C name=true)(hh:PySem.W.hasDictIn K C=true)
 (ha:PySem.W.findIn K (.ref C) name=some none)(hv:mA name=some v)(Yy:PySem.W.handedIn v=true)(h:Q v {s with toks:=s.toks+1}):
 wpAny (model prog w) A (getAttr (.ref x) name expr) Q E s:=by
 obtain⟨od,J,hl⟩:=I.look;exact PySem.W.get_value X J (PySem.W.plainGet_of hg).1 (PySem.W.findObj_own hh ha rfl (by rw[hl,hv])) Yy h
theorem abT {Q:Value×List Value->Shared->Prop}(X:K.In s.heap)(I:uy s.heap x dx C mA)(hg:PySem.W.plainGet K C name=true)
 (hf:PySem.W.findIn K (.ref C) name=some (some (.ref f)))(ht:PySem.W.isFn K (.ref f)=true)(hv:mA name=none)(h:Q (.ref f,[.ref x]) s):
 wpAny (model prog w) A (getMethod (.ref x) name pl) Q E s:=by
 obtain⟨od,J,hl⟩:=I.look;exact PySem.W.method_fn X J (PySem.W.plainGet_of hg).1 (PySem.W.plainGet_of hg).2 hf (beq_iff_eq.mp ht) (by show(PySem.W.lookIn name od).map (·.isSome)=some false;rw[hl,hv];rfl) h
theorem abU {ns:zF}{Q:Unit->Shared->Prop}(X:K.In s.heap)(I:uy s.heap x dx C mA)
 (hs:PySem.W.findIn K (.ref C) "__setattr__"=some (some (.builtin "object.__setattr__")))(hp:PySem.W.plainOver K C=true)(ht:PySem.W.takerIn K C name=some none)(hh:PySem.W.hasDictIn K C=true)
 (hw:PySem.Within mA ns)(hsz:ns.length<=sizeLine)
 (h:∀h',uy h' x dx C (λy=>if y=name then some v else mA y)->Heap.SameBut dx s.heap h'->Q () {s with heap:=h',toks:=s.toks+2}):
 wpAny (model prog w) A (setAttr (.ref x) name v) Q E s:=by
 obtain⟨od,J,hl⟩:=I.look;refine PySem.W.set_plain X J hs (PySem.W.osa_open (s:={s with toks:=s.toks+1}) (r:=none) X J hp ht λb=>?_);obtain⟨cd,hc,RI⟩:=PySem.W.any_some hh;have hx:s.heap.get? x=some ⟨.ref C,some dx,.plain,#[]⟩:=I.obj;refine wpAny_bind (wpAny_pure (wpAny_bind (wpAny_bind (wpAny_loadPart hx (wpAny_bind (PySem.W.Looks.here (s:={s with toks:=s.toks+1}) (PySem.W.looks_clsIn X hc) ?_))))));rw[RI];refine wpAny_pure (a:=some dx) (wpAny_bind (wpAny_pure (wpAny_bind ?_)));refine wpAny_nsSet1 (s:={s with toks:=s.toks+1}) I.ns λh' MK Ls=>?_;obtain⟨oD,esD,epD,Yz,YA,Kj⟩:=MK.count (PySem.Within.cons name v hw);refine wpAny_bind (wpAny_lookBehind Yz (by rw[YA];exact pastItsLine_dict (Nat.le_trans Kj (by rw[List.length_cons];omega))) ?_);exact wpAny_pure (h _ ⟨(Ls.2 _ (Ne.symm I.ne)).trans I.obj,MK,I.ne⟩ Ls)
theorem acG {R:Result->Shared->Prop}{vs:nv}(X:K.In s.heap)(hm:PySem.W.makesIn K C=true)
 (hi:PySem.W.findIn K (.ref C) "__init__"=some (some (.ref f)))(hf:PySem.W.typeIn K (.ref f)=some (.type "function"))
 (h:codeAny (model prog w) (A.under (.builtin "type.__call__" ⟨.ref C::vs,kw⟩)) (.call (.ref f) ⟨.ref (s.heap.objs.size+1):: vs,kw⟩) (PySem.W.InitBack (s.heap.objs.size+1) R)
  {s with heap:=(s.heap.push PySem.W.emptyDict).push (PySem.W.instObj C s.heap.objs.size)}):
 codeAny (model prog w) A (.call (.ref C) ⟨vs,kw⟩) R s:=by
 obtain⟨hh,g,d,t,os⟩:=s;exact PySem.W.make_core (PySem.W.makes_of X hm) (PySem.W.looks_findIn X hi) (λself=>PySem.W.bind_fn X self hf) (.inl rfl) h
end
def cH (f:Str)(v:V):List (Str×V)->List (Str×V)
 |[]=>[(f,v)]
 |(g,x):: r=>if g=f then(g,v):: r else(g,x):: cH f v r
theorem jr (f g:Str)(v:V):∀fs:List (Str×V),(cH f v fs).lookup g=if g=f then some v else fs.lookup g
 |[]=>by
  show List.lookup g [(f,v)]=_
  by_cases h:g=f
  ·have hb:(g==f)=true:=beq_iff_eq.mpr h;simp only[List.lookup,hb,if_pos h]
  ·have hb:(g==f)=false:=beq_eq_false_iff_ne.mpr h;simp only[List.lookup,hb,if_neg h]
 |(k,x):: r=>by
  have ih:=jr f g v r;rw[show cH f v ((k,x):: r)=(if k=f then(k,v):: r else(k,x):: cH f v r) from rfl]
  by_cases hk:k=f
  ·rw[if_pos hk]
   by_cases h:g=k
   ·have hb:(g==k)=true:=beq_iff_eq.mpr h;simp only[List.lookup,hb,if_pos (h.trans hk)]
   ·have hb:(g==k)=false:=beq_eq_false_iff_ne.mpr h;simp only[List.lookup,hb,if_neg (λe:g=f=>h (e.trans hk.symm))]
  ·rw[if_neg hk]
   by_cases h:g=k
   ·have hb:(g==k)=true:=beq_iff_eq.mpr h;simp only[List.lookup,hb,if_neg (λe:g=f=>hk (h.symm.trans e))]
   ·have hb:(g==k)=false:=beq_eq_false_iff_ne.mpr h;simp only[List.lookup,hb];exact ih
theorem jd (f:Str)(v:V):∀fs:List (Str×V),f∈(cH f v fs).map (·.1)/\∀g,g∈fs.map (·.1)->g∈(cH f v fs).map (·.1)
 |[]=>⟨by simp[cH],λg h=>by simp at h⟩
 |(k,x):: r=>by
  obtain⟨i1,i2⟩:=jd f v r;rw[show cH f v ((k,x):: r)=(if k=f then(k,v):: r else(k,x):: cH f v r) from rfl]
  by_cases hk:k=f
  ·rw[if_pos hk];subst hk;exact⟨by simp,λg h=>by simpa using h⟩
  ·rw[if_neg hk];refine⟨?_,λg h=>?_⟩
   ·rw[List.map_cons];exact List.mem_cons_of_mem _ i1
   ·rw[List.map_cons] at h |-
    rcases List.mem_cons.mp h with e|e
    ·exact List.mem_cons.mpr (.inl e)
    ·exact List.mem_cons_of_mem _ (i2 g e)
theorem jn (f:Str)(v:V):∀fs:List (Str×V),(cH f v fs).length<=fs.length+1
 |[]=>by simp[cH]
 |(k,x):: r=>by
  have ih:=jn f v r;rw[show cH f v ((k,x):: r)=(if k=f then(k,v):: r else(k,x):: cH f v r) from rfl]
  by_cases hk:k=f
  ·rw[if_pos hk,List.length_cons,List.length_cons];omega
  ·rw[if_neg hk,List.length_cons,List.length_cons];omega
theorem fO.some_of {v:V}{o:zd}(r:fO (some v) o):∃u,o=some u/\aE v u:=by
 cases o with
 |none=>exact(show False from r).elim
 |some u=>exact⟨u,rfl,r⟩
theorem fO.none_of {o:zd}(r:fO none o):o=none:=by
 cases o with
 |none=>rfl
 |some u=>exact(show False from r).elim
theorem ac0 {v:V}(r:aE v u):PySem.W.handedIn u=true:=by
 cases v with
 |non=>cases(show u=Value.none from r);rfl
 |bl b=>cases(show u=Value.bool b from r);rfl
 |int i=>obtain⟨t,e⟩:=(show ∃t,u=Value.int i t from r);cases e;rfl
 |str x=>obtain⟨t,e⟩:=(show ∃t,u=Value.str x t from r);cases e;rfl
 |byt b=>obtain⟨t,e⟩:=(show ∃t,u=Value.bytes b t from r);cases e;rfl
 |flt b=>obtain⟨t,e⟩:=(show ∃t,u=Value.float b t from r);cases e;rfl
 |ref a=>cases(show u=Value.ref a from r);rfl
 |ty n=>cases(show u=Value.type n from r);rfl
section
variable {P:vB}{w:World}{H H':Hp}{h h':Heap}{a C dx:Addr}{fs Yu:List (Str×V)}
theorem fh (hok:fR P w H h)(e:H a=some (.ins C dx fs)):∃mA,uy h a dx C mA/\(∀f,fO (fs.lookup f) (mA f))/\PySem.Within mA (fs.map (·.1))/\fs.length<=1000/\H dx=some (.own a):=by
 obtain⟨d,z,ne,ob,mA,n,r,q⟩:=(show bt P w H h a (.ins C dx fs) from hok a _ e);exact⟨mA,⟨ob,n,ne⟩,r,q,z,d⟩
end
structure BB (K:PySem.W.Frag)(C:Addr):Prop where
 pg:PySem.W.plainGet K C Str.empty=true
 hd:PySem.W.hasDictIn K C=true
 po:PySem.W.plainOver K C=true
 sa:PySem.W.findIn K (.ref C) "__setattr__"=some (some (.builtin "object.__setattr__"))
theorem BB.get (c:BB K C)(f:Str):PySem.W.plainGet K C f=true:=c.pg
def cU (K:PySem.W.Frag)(C:Addr)(f:Str):Prop:=PySem.W.findIn K (.ref C) f=some none
theorem cU.acJ {f:Str}(n:cU K C f):PySem.W.takerIn K C f=some none:=by
 unfold PySem.W.takerIn;rw[show PySem.W.findIn K (.ref C) f=some none from n];rfl
structure Meth (K:PySem.W.Frag)(C:Addr)(m:Str)(f:Addr):Prop where
 at_:PySem.W.findIn K (.ref C) m=some (some (.ref f))
 fn:PySem.W.isFn K (.ref f)=true
 kp:PySem.W.keepIn K (.ref f)=true
section
variable {X:Cx}{pins:List (Addr×Obj)}{σ:St}{H:Hp}{s:GB}{a C dx:Addr}{fs:List (Str×V)}{f:Str}{v:V}{A:Around}{E:pL}
theorem Sig {b:Bool}{Q:pL}(I:Inv X pins σ H s)(e:H a=some (.ins C dx fs))(c:BB X.K C)(n:cU X.K C f)(l:fs.lookup f=some v)
 (h:∀u s',Inv X pins σ H s'->aE v u->Q u s'):wpAny (model X.prog X.w) A (getAttr (.ref a) f b) Q E s:=by
 obtain⟨mA,O,r,_,_,_⟩:=fh I.hok e;obtain⟨u,hu,ru⟩:=fO.some_of (v:=v) (o:=mA f) (by rw[<-l];exact r f);exact aa0 I.kIn O (c.get f) c.hd n hu (ac0 ru) (h u _ (I.tok _) ru)
theorem ky {m:Str}{g:Addr}{Q:Value×List Value->Shared->Prop}(I:Inv X pins σ H s)(e:H a=some (.ins C dx fs))(c:BB X.K C)(k:Meth X.K C m g)(l:fs.lookup m=none)
 (h:Q (.ref g,[.ref a]) s):wpAny (model X.prog X.w) A (getMethod (.ref a) m pl) Q E s:=by
 obtain⟨mA,O,r,_,_,_⟩:=fh I.hok e;have hn:mA m=none:=fO.none_of (by rw[<-l];exact r m);exact abT I.kIn O (c.get m) k.at_ k.fn hn h
theorem acI {Q:Unit->Shared->Prop}(I:Inv X pins σ H s)(e:H a=some (.ins C dx fs))(c:BB X.K C)(n:cU X.K C f)(hl:fs.length<1000)(ry:aE y u)
 (h:∀s',Inv X pins σ (upd H a (.ins C dx (cH f y fs))) s'->Q () s'):wpAny (model X.prog X.w) A (setAttr (.ref a) f u) Q E s:=by
 obtain⟨mA,O,r,wi,_,ho⟩:=fh I.hok e
 have hz:(fs.map (·.1)).length<=sizeLine:=by rw[List.length_map,sizeLine_eq];omega
 refine abU I.kIn O c.sa c.po n.acJ c.hd wi hz λh' O' sb=>h _ ?_;have hd:∃o,h'.get? dx=some o:=let⟨o,_,_,e',_⟩:=O'.ns;⟨o,e'⟩;refine I.write (x:=a) (e:=dx) (by rw[e];exact True.intro) (.inr ho) (λb q hb z=>(sb.2 b hb).trans z) hd ?_;refine⟨by rw[ar O.ne];exact ho,?_,O.ne,O'.obj,_,O'.ns,λg=>?_,λg hg=>?_⟩
 ·have:=jn f y fs;omega
 ·show fO ((cH f y fs).lookup g) (if g=f then some u else mA g);rw[jr]
  by_cases q:g=f
  ·rw[if_pos q,if_pos q];exact ry
  ·rw[if_neg q,if_neg q];exact r g
 ·by_cases q:g=f
  ·rw[q];exact(jd f y fs).1
  ·refine(jd f y fs).2 g (wi g λz=>hg ?_);show(if g=f then some u else mA g)=none;rw[if_neg q];exact z
theorem Inv.made (I:Inv X pins σ H s):Inv X pins σ (upd (upd H s.heap.objs.size (.own (s.heap.objs.size+1))) (s.heap.objs.size+1) (.ins C s.heap.objs.size []))
 {s with heap:=(s.heap.push PySem.W.emptyDict).push (PySem.W.instObj C s.heap.objs.size)}:=by
 have e1:(s.heap.push PySem.W.emptyDict).get? s.heap.objs.size=some PySem.W.emptyDict:=Heap.get?_push_size s.heap rfl
 have e2:((s.heap.push PySem.W.emptyDict).push (PySem.W.instObj C s.heap.objs.size)).get? (s.heap.objs.size+1)=some (PySem.W.instObj C s.heap.objs.size):=by
  have:=Heap.get?_push_size (s.heap.push PySem.W.emptyDict) (o:=PySem.W.instObj C s.heap.objs.size) rfl;rwa[Heap.size_push] at this
 have e3:(s.heap.push PySem.W.emptyDict).Ns s.heap.objs.size (λ_=>none):=⟨PySem.W.emptyDict,#[],_,e1,rfl,(λe he=>absurd he (by simp)),λ_=>rfl⟩;have I1:=I.laid (a:=s.heap.objs.size) (o:=.own (s.heap.objs.size+1)) (h':=s.heap.push PySem.W.emptyDict) (t':=s.toks) (λb u q=>Heap.get?_push_of_some _ q) (Nat.le_refl _) ⟨_,e1⟩;refine I1.laid (a:=s.heap.objs.size+1) (o:=.ins C s.heap.objs.size []) (t':=s.toks) (λb u q=>Heap.get?_push_of_some _ q) (Nat.le_of_eq (Heap.size_push _ _)) ?_;have ne:s.heap.objs.size≠s.heap.objs.size+1:=Nat.ne_of_lt (Nat.lt_succ_self _);refine⟨by rw[ar ne,ae],Nat.zero_le _,ne,e2,λ_=>none,(Heap.Ns1.of_empty e3).at λo q=>Heap.get?_push_of_some _ q,λ_=>True.intro,λy hy=>absurd rfl hy⟩
theorem acO {prog:vB}{env:Env}{f:Str}{s:GB}{Q:pL}(hb:attributeBase e f env (eval e env)=eval e env)
 (h:wpAny (model prog w) A (eval e env) (λo s₁=>wpAny (model prog w) A (getAttr o f true) Q E s₁) E s):wpAny (model prog w) A (eval (.Attribute e f pos) env) Q E s :=
 Attribute_any_ h (by rw[arm_eval_Attribute,hb])
end
def acY (K:PySem.W.Frag)(ta:TE)(f:Str):TE:=λσ H Q=>ta σ H λx H1=>∃a C dx fs v,x=.ref a/\H1 a=some (.ins C dx fs)/\BB K C/\cU K C f/\fs.lookup f=some v/\Q v H1
def acZ (K:PySem.W.Frag)(ta tv:TE)(f:Str):TS:=λD σ H=>tv σ H λy H1=>ta σ H1 λx H2=>∃a C dx fs,x=.ref a/\H2 a=some (.ins C dx fs)/\BB K C/\cU K C f/\fs.length<1000 /\
 D.nx σ (upd H2 a (.ins C dx (cH f y fs)))
section
variable {X:Cx}{o e value:Expr}{f:Str}{pos pos' RO:Pos}{ta tv:TE}
theorem cp (he:PE X e ta)(hb:attributeBase e f X.env (eval e X.env)=eval e X.env):PE X (.Attribute e f pos) (acY X.K ta f):=by
 intro pins s σ H Q I h;refine acO hb (bA (he pins s σ H _ I h) λu s1 z'=>?_);obtain⟨x,H1,I1,rx,a,C,dx,fs,v,ex,ea,c,n,l,q⟩:=z';subst ex;obtain rfl:u=Value.ref a:=rx;exact Sig I1 ea c n l λu' s2 I2 ru=>⟨v,H1,I2,ru,q⟩
theorem g9 (ha:PE X o ta)(hv:PE X value tv)(hs:swapsWith value (some (.Attribute o f pos')) pos.line X.env=pure false):PS X (.Assign [.Attribute o f pos'] value pos) (acZ X.K ta tv f):=by
 intro pins s σ H D I h;refine plainObj_wpAny_Assign_Attribute (bA (hv pins s σ H _ I h) λu s1 ⟨y,H1,I1,ry,q⟩=>bA (ha pins s1 σ H1 _ I1 q) λov s2 z'=>?_) hs;obtain⟨x,H2,I2,rx,a,C,dx,fs,ex,ea,c,n,l,q2⟩:=z';subst ex;obtain rfl:ov=Value.ref a:=rx;exact acI I2 ea c n l ry λs3 I3=>⟨σ,_,I3,q2⟩
end
section
variable {X:Cx}{pins:List (Addr×Obj)}{σ:St}{H:Hp}{s:GB}{A:Around}{E:pL}{Q:pL}{c:Value}{b:Bool}
inductive Ek (K:PySem.W.Frag)(H:Hp):V->Value->Prop where
 |non:Ek K H .non (.type "NoneType")
 |bl (x:Bool):Ek K H (.bl x) (.type "bool")
 |int (i:Int):Ek K H (.int i) (.type "int")
 |str (x:Str):Ek K H (.str x) (.type "str")
 |flt (x:UInt64):Ek K H (.flt x) (.type "float")
 |lst {a:Addr}{xs:List V}(e:H a=some (.lst xs)):Ek K H (.ref a) (.type "list")
 |frz {a:Addr}{o:Obj}{xs:List V}(e:H a=some (.frz o (.lst xs))):Ek K H (.ref a) (.type "list")
 |tup {a:Addr}{xs:List V}(e:H a=some (.tup xs)):Ek K H (.ref a) (.type "tuple")
 |dK {a:Addr}{GH:List (Key×V)}(e:H a=some (.dK GH)):Ek K H (.ref a) (.type "dict")
 |dT {a:Addr}{GH:List (List Key×V)}(e:H a=some (.dT GH)):Ek K H (.ref a) (.type "dict")
 |ins {a C dx:Addr}{fs:List (Str×V)}(e:H a=some (.ins C dx fs))(cl:BB K C)(ha:PySem.W.findIn K (.ref C) "__class__"=some (some (.builtin "object.__class__")))
  (hn:PySem.W.specialIn K (.builtin "object.__class__") "__get__"=some (some (.builtin "getset_descriptor.__get__")))(Nh:PySem.W.takesIn K (.builtin "object.__class__")=some true)
  (hm:PySem.W.mroIn K C (.type "object")=some true):Ek K H (.ref a) (.ref C)
theorem ac4 {x:V}{t:Value}(I:Inv X pins σ H s)(rx:aE x u)(ty:Ek X.K H x t)(e:PySem.W.kitOne X.K t c=some b)(h:∀tk,Q (.bool b) {s with toks:=tk}):
 wpAny (model X.prog X.w) A (call (.builtin "isinstance") [u,c]) Q E s:=by
 cases ty with
 |non=>cases(show u=Value.none from rx);exact PySem.W.kia_one PySem.W.kitx_none I.kIn True.intro e (λz=>nomatch z) h
 |bl y=>cases(show u=Value.bool y from rx);exact PySem.W.kia_one PySem.W.kitx_bool I.kIn True.intro e (λz=>nomatch z) h
 |int i=>obtain⟨t,q⟩:=(show ∃t,u=Value.int i t from rx);cases q;exact PySem.W.kia_one PySem.W.kitx_int I.kIn True.intro e (λz=>nomatch z) h
 |str y=>obtain⟨t,q⟩:=(show ∃t,u=Value.str y t from rx);cases q;exact PySem.W.kia_one PySem.W.kitx_str I.kIn True.intro e (λz=>nomatch z) h
 |flt y=>obtain⟨t,q⟩:=(show ∃t,u=Value.float y t from rx);cases q;exact PySem.W.kia_one PySem.W.kitx_float I.kIn True.intro e (λz=>nomatch z) h
 |@lst a xs ea =>
  cases(show u=Value.ref a from rx)
  obtain⟨_,_,n,_,h1⟩:=(show bt X.prog X.w H s.heap a (.lst xs) from I.hok a _ ea);exact PySem.W.kia_one PySem.W.kitx_list I.kIn ⟨_,h1,rfl⟩ e (λz=>nomatch z) h
 |@frz a ob xs ea =>
  cases(show u=Value.ref a from rx)
  obtain⟨_,_,_,n,_,h1⟩:=(show bt X.prog X.w H s.heap a (.frz ob (.lst xs)) from I.hok a _ ea);exact PySem.W.kia_one PySem.W.kitx_list I.kIn ⟨_,h1,rfl⟩ e (λz=>nomatch z) h
 |@tup a xs ea =>
  cases(show u=Value.ref a from rx)
  obtain⟨_,_,_,p⟩:=(show bt X.prog X.w H s.heap a (.tup xs) from I.hok a _ ea);obtain⟨o,h1,h2,_⟩:=p;exact PySem.W.kia_one PySem.W.kitx_tuple I.kIn ⟨o,h1,h2⟩ e (λz=>nomatch z) h
 |@dK a GH ea =>
  cases(show u=Value.ref a from rx)
  obtain⟨_,_,vs,_,p⟩:=(show bt X.prog X.w H s.heap a (.dK GH) from I.hok a _ ea);obtain⟨o,es,ep,h1,h2,_⟩:=p;exact PySem.W.kia_one PySem.W.kitx_dict I.kIn ⟨o,h1,h2.1⟩ e (λz=>nomatch z) h
 |@dT a GH ea =>
  cases(show u=Value.ref a from rx)
  obtain⟨_,_,xs,_,o,es,ep,h1,h2,_⟩:=(show bt X.prog X.w H s.heap a (.dT GH) from I.hok a _ ea);exact PySem.W.kia_one PySem.W.kitx_dict I.kIn ⟨o,h1,h2.1⟩ e (λz=>nomatch z) h
 |@ins a C dx fs ea cl ha hn Nh hm =>
  cases(show u=Value.ref a from rx)
  obtain⟨mA,O,_⟩:=fh I.hok ea;obtain⟨od,J,_⟩:=O.look;exact PySem.W.kia_one (PySem.W.kitx_own (cl.get _) cl.hd ha hn Nh hm) I.kIn J e (λz=>nomatch z) h
end
structure wK (k:Nat)(A:Around):Prop where
 hd:A.handled=none
 dp:A.depth+3*k+5<recursionLimit
 un:A.units+16*k+200<cLine
 gd:A.guards=some []
theorem wK.mono {j:Nat}(r:wK k A)(h:j<=k):wK j A:=⟨r.hd,by have:=r.dp;omega,by have:=r.un;omega,r.gd⟩
theorem wK.deeper (r:wK (k+1) A)(env:Env):wK k (A.deeper env):=
 ⟨r.hd,by have:=r.dp;show A.depth+1+3*k+5<_;omega,by have:=r.un;show A.units+3+16*k+200<_;omega,r.gd⟩
theorem wK.in1 (r:wK (k+1) A):wK k A.in1 :=
 ⟨r.hd,by have:=r.dp;show A.depth+3*k+5<_;omega,by have:=r.un;show A.units+1+16*k+200<_;omega,r.gd⟩
theorem ac6 :(A.under (.builtin "type.__call__" ⟨.ref C::us,kw⟩)).depth=A.depth+1:=by
 first|rfl|simp[Around.under,Code.weight,Code.isCreation,Code.isGuard,Code.isCaller,Code.frames,Code.isFrame,guardIds]
theorem ac7 :(A.under (.builtin "type.__call__" ⟨.ref C::us,kw⟩)).guards=A.guards:=by
 first|rfl|simp[Around.under,Code.guards,Code.isGuard,guardIds,pushGuards]
theorem ac8 :(A.under (.builtin "type.__call__" ⟨.ref C::us,kw⟩)).units=A.units+1:=by
 first|rfl|simp[Around.under,Code.cUnits,Code.frames,Code.isFrame]
theorem wK.make (r:wK (k+1) A)(C:Addr)(us:nv)(kw:List (Str×Value)):wK k (A.under (.builtin "type.__call__" ⟨.ref C::us,kw⟩)):=
 ⟨r.hd,by have:=r.dp;rw[ac6];omega,by have:=r.un;rw[ac8];omega,by rw[ac7];exact r.gd⟩
theorem wK.depth (r:wK k A):A.depth<recursionLimit:=by have:=r.dp;omega
theorem wK.units (r:wK k A):A.units+64<cLine:=by have:=r.un;omega
theorem wK.aaY (r:wK k A):A.units<cLine:=by have:=r.un;omega
def Br:TA:=λ_ H Q=>Q [] H
def dm (ta:TE)(tr:TA):TA:=λσ H Q=>ta σ H λx H1=>tr σ H1 λxs H2=>Q (x::xs) H2
section
variable {X:Cx}{e:Expr}{es:Bj}{te:TE}{t:TA}{pos:Pos}
theorem af:PA X [] Br:=λ_ _ _ _ H Q I h=>Calls.spliced_nil ⟨[],H,I,.nil,h⟩
theorem bF (ha:PE X e te)(hr:PA X es t)(hs:starEach (e::es) X.env=(false,eval e X.env):: starEach es X.env:=by rfl):PA X (e::es) (dm te t):=by
 intro pos pins s σ H Q I h;rw[hs];show wpAny _ _ (spliced ((false,eval e X.env):: backTo pos (starEach es X.env))) _ _ s;refine Calls.spliced_cons (bA (ha pins s σ H _ I h) λu s1 z'=>?_);obtain⟨x,H1,I1,r1,q1⟩:=z';exact bA (hr pos pins s1 σ H1 _ I1 q1) λus s2 ⟨xs,H2,I2,r2,q2⟩=>⟨x::xs,H2,I2,.cons r1 r2,q2⟩
def CO (t:TA):TE:=λσ H Q=>t σ H λxs H1=>xs.length<=sizeLine/\∀p,H1 p=none->Q (.ref p) (upd H1 p (.tup xs))
def BZ (t:TA):TE:=λσ H Q=>t σ H λxs H1=>xs.length<=sizeLine/\∀p,H1 p=none->Q (.ref p) (upd H1 p (.lst xs))
theorem bh {x1}(h:PA X es t):PE X (.Tuple es x1 pos) (CO t):=by
 intro pins s σ H Q I hq;refine wpAny_Tuple_spliced (bA (h pos pins s σ H _ I hq) λus s1 ⟨xs,H1,I1,r,z,q⟩=>⟨by rw[<-r.length];exact z,?_⟩);have hf:H1 s1.heap.objs.size=none:=I1.hok.fresh (Nat.le_refl _);refine⟨.ref s1.heap.objs.size,upd H1 s1.heap.objs.size (.tup xs),I1.laid (t':=s1.toks) (λb u e=>Heap.get?_push_of_some _ e) (Nat.le_refl _) ?_,rfl,q _ hf⟩;exact⟨z,us,r,⟨_,Heap.get?_push_size _ rfl,rfl,_,rfl⟩⟩
theorem cu (h:PA X es t):PE X (.List es pos) (BZ t):=by
 intro pins s σ H Q I hq;refine wpAny_List_spliced (bA (h pos pins s σ H _ I hq) λus s1 ⟨xs,H1,I1,r,z,q⟩=>⟨by rw[<-r.length];exact z,?_⟩);have hf:H1 s1.heap.objs.size=none:=I1.hok.fresh (Nat.le_refl _);refine⟨.ref s1.heap.objs.size,upd H1 s1.heap.objs.size (.lst xs),I1.laid (t':=s1.toks) (λb u e=>Heap.get?_push_of_some _ e) (Nat.le_refl _) ?_,rfl,q _ hf⟩;exact⟨z,us,0,r,Heap.get?_push_size _ rfl⟩
end
abbrev Sp:=List V->Hp->VK->XK->Prop
abbrev D0:=List Env->Hp->Shared->XK->Value->Shared->Prop
structure BP (P:vB)(w:World)(K:PySem.W.Frag)(mg:vW)(base:Heap)(A:Around)(outer:List Env)(s:GB)(H:Hp):Prop where
 frames:A.frames=some outer
 mod:Mod K mg base
 bs:∀b o,base.get? b=some o->s.heap.get? b=some o/\H b=none
 bsz:base.objs.size<=s.heap.objs.size
 aaC:s.heap.FunFrames base outer
 frf:∀b∈dG outer,H b=none
 hok:fR P w H s.heap
 bare:AllBare s.gens
def CE (outer:List Env)(P:vB)(w:World)(H:Hp)(s:GB)(Q:VK)(u:Value)(s':GB):Prop :=
 ∃v H',s'.os=s.os/\AllBare s'.gens/\Un (dG outer) [] H H' s.heap s'.heap/\fR P w H' s'.heap/\aE v u/\Q v H'
def aar (CX:D0)(outer:List Env)(P:vB)(w:World)(H:Hp)(s:GB)(Q:VK)(E:XK)(r:Result)(s':GB):Prop :=
 match r with
 | .ok (.ret u)=>CE outer P w H s Q u s'
 | .ok _=>False
 | .error e=>CX outer H s E e s'
structure Bp (P:vB)(w:World)(K:PySem.W.Frag)(mg:vW)(base:Heap)(CX:D0)(k:Nat)(f:Addr)(fd:EK)(ps:zF)(sp:Sp):Prop where
 len:∀vs H Q E,sp vs H Q E->vs.length=ps.length
 run:∀(A:Around)(outer:List Env)(s:GB)(H:Hp)(args:Args)(us:nv)(vs:List V)(Q:VK)(E:XK),wK k A->BP P w K mg base A outer s H->BindsTo s fd args (ps.zip us)->aL vs us->sp vs H Q E →
  codeAny (model P w) A (.call (.ref f) args) (aar CX outer P w H s Q E) s
variable {mg:vW}{base:Heap}{outer:List Env}
theorem BP.make (e:BP P w K mg base A outer s H)(C:Addr)(us:nv)(kw:List (Str×Value)):
 BP P w K mg base (A.under (.builtin "type.__call__" ⟨.ref C::us,kw⟩)) outer s H:=⟨by first|exact e.frames|(simpa[Around.under,Code.envs,Code.isFrame,pushEnvs] using e.frames),e.mod,e.bs,e.bsz,e.aaC,e.frf,e.hok,e.bare⟩
theorem BP.in1 (e:BP P w K mg base A outer s H):
 BP P w K mg base A.in1 outer s H:=⟨e.frames,e.mod,e.bs,e.bsz,e.aaC,e.frf,e.hok,e.bare⟩
section
variable {X:Cx}{pins:List (Addr×Obj)}{σ:St}{H:Hp}{s s':GB}
theorem Inv.abB (I:Inv X pins σ H s):BP X.prog X.w X.K X.mg X.base X.A X.stack s H :=
 ⟨I.ok.frames,I.ok.mod,I.bs,Nat.le_trans I.ok.bsz I.sz,I.stack,I.aaG,I.hok,I.bare⟩
theorem Inv.after (I:Inv X pins σ H s)(h:CE X.stack X.prog X.w H s Q u s'):EP X pins σ Q u s':=by
 obtain⟨v,H',os,bare,un,hok,r,q⟩:=h;obtain⟨hh,g,d,t,YB⟩:=s';obtain rfl:YB=s.os:=os;exact⟨v,H',I.call (h':=hh) (g':=g) (d':=d) (t':=t) (ch:=[]) un hok bare (λb z=>absurd z (by simp)),r,q⟩
end
def Az (sp:Sp)(dvs:List V)(E:XK)(t:TA):TE:=λσ H Q=>t σ H λvs H1=>sp (vs++dvs) H1 Q E
def Aq (C:Addr)(m:Str)(sp:Sp)(dvs:List V)(E:XK)(ta:TE)(t:TA):TE:=λσ H Q=>ta σ H λx H1=>∃a dx fs,x=.ref a/\H1 a=some (.ins C dx fs)/\fs.lookup m=none /\
 t σ H1 λvs H2=>sp (x::(vs++dvs)) H2 Q E
def aaI (C:Addr)(sp:Sp)(dvs:List V)(E:XK)(t:TA):TE:=λσ H Q=>t σ H λvs H1=>∀x dx,H1 x=none->H1 dx=none->dx≠x →
 sp (.ref x::(vs++dvs)) (upd (upd H1 dx (.own x)) x (.ins C dx [])) (λv H2=>v=.non/\Q (.ref x) H2) E
def ay (K:PySem.W.Frag)(fd:EK)(ps:zF)(ds:nv):Prop :=
 ∀(s:GB)(us:nv),K.In s.heap->(us++ds).length=ps.length->BindsTo s fd ⟨us,[]⟩ (ps.zip (us++ds))
variable {ps:zF}
theorem ay.all {fd:EK}(h:∀us:List Value,us.length=ps.length->bindArgs fd ⟨us,[]⟩=pure (ps.zip us)):ay K fd ps []:=λs us _ hl=>by
 rw[List.append_nil] at hl |-;exact .of_eq (h us hl)
def dU (CX:D0)(X:Cx)(E:XK):Prop:=∀(pins:List (Addr×Obj))(σ:St)(H:Hp)(s:GB)(e:Value)(s':GB),Inv X pins σ H s->CX X.stack H s E e s'->X.xe e s'
section
variable {X:Cx}{CX:D0}{k:Nat}{f C:Addr}{fd:EK}{ps:zF}{sp:Sp}{dvs:List V}{ds:nv}{E:XK}{x m:Str}{p pos apos:Pos}{e o:Expr}{es:Bj}{ta:TE}{t:TA}
theorem nM {us:nv}{vs:List V}(F:Bp X.prog X.w X.K X.mg X.base CX k f fd ps sp)(hr:wK k X.A)(hb:ay X.K fd ps ds)(hd:aL dvs ds)(hx:dU CX X E)
 (I:Inv X pins σ H s)(r:aL vs us)(h:sp (vs++dvs) H Q E):wpAny (model X.prog X.w) X.A (call (.ref f) us) (EP X pins σ Q) X.xe s:=by
 have r2:aL (vs++dvs) (us++ds):=r.append hd
 have hl:(us++ds).length=ps.length:=by rw[<-r2.length];exact F.len _ _ _ _ h
 refine wpAny_call (codeAny_mono (F.run X.A X.stack s H ⟨us,[]⟩ (us++ds) (vs++dvs) Q E hr I.abB (hb s us I.kIn hl) r2 h) λr s' hq=>?_)
 cases r with
 |error e=>exact hx pins σ H s e s' I hq
 |ok fl =>
  cases fl with
  |ret u=>exact I.after hq
  |next=>exact False.elim hq
  |brk=>exact False.elim hq
  |cont=>exact False.elim hq
theorem ax (F:Bp X.prog X.w X.K X.mg X.base CX k f fd ps sp)(hr:wK k X.A)(hg:Gl X x)(hm:X.mg x=some (.ref f))(hk:PySem.W.keepIn X.K (.ref f)=true)(hb:ay X.K fd ps ds)(hd:aL dvs ds)(hx:dU CX X E)
 (ha:PA X (e::es) t)(Lx:(x==("__debug__":Str))=false:=by decide)(he:starEach (e::es) X.env=(false,eval e X.env):: starEach es X.env:=by rfl)(IB:(backTo pos (starEach es X.env)).any (·.1)=false:=by rfl):
 PE X (.Call (.Name x p) (e::es) [] pos) (Az sp dvs E t):=by
 intro pins s σ H Q I h;refine wpAny_Call_Name_kw (iu I hg hm ?_ Lx);refine PySem.W.callWith_K (h₀:=X.base) I.ok.mod.kin hk (bA (ha pos pins s σ H _ I h) λus s1 ⟨vs,H1,I1,r,q⟩=>⟨I1.kIn,?_⟩) he IB;exact nM F hr hb hd hx I1 r q
theorem fb (he:PE X o ta)(c:BB X.K C)(hm:Meth X.K C m f)(F:Bp X.prog X.w X.K X.mg X.base CX k f fd ps sp)(hr:wK k X.A)(hb:ay X.K fd ps ds)(hd:aL dvs ds)(hx:dU CX X E)(ha:PA X (e::es) t)
 (Nf:starEach (e::es) X.env=(false,eval e X.env):: starEach es X.env:=by rfl)(IB:(backTo pos (starEach es X.env)).any (·.1)=false:=by rfl)
 (ht:eval (.Call (.Attribute o m apos) (e::es) [] pos) X.env=(do
  let ov <-eval o X.env
  standAt apos.atName
  let(f,first) <-holding [ov] (getMethod ov m pl)
  callWith pos f first (backTo pos (starEach (e::es) X.env)) (backToKw pos (keywordEach [] X.env))):=by rfl):
 PE X (.Call (.Attribute o m apos) (e::es) [] pos) (Aq C m sp dvs E ta t):=by
 intro pins s σ H Q I h;refine PySem.W.methodCall_KW (pl:=pl) (bA (he pins s σ H _ I h) λu s1 z'=>?_) ht;obtain⟨x,H1,I1,rx,a,dx,fs,ex,ea,l,q⟩:=z';subst ex;obtain rfl:u=Value.ref a:=rx;refine ky I1 ea c hm l ?_;refine PySem.W.callWith_K (first:=[.ref a]) (h₀:=X.base) I.ok.mod.kin hm.kp (bA (ha pos pins s1 σ H1 _ I1 q) λus s2 ⟨vs,H2,I2,r,q2⟩=>⟨I2.kIn,?_⟩) Nf IB;exact nM (us:=.ref a::us) (vs:=.ref a::vs) F hr hb hd hx I2 (.cons rfl r) q2
theorem cI (he:PE X o ta)(c:BB X.K C)(hm:Meth X.K C m f)(F:Bp X.prog X.w X.K X.mg X.base CX k f fd ps sp)(hr:wK k X.A)(hb:ay X.K fd ps ds)(hd:aL dvs ds)(hx:dU CX X E)
 (ht:eval (.Call (.Attribute o m apos) [] [] pos) X.env=(do
  let ov <-eval o X.env
  standAt apos.atName
  let(f,first) <-holding [ov] (getMethod ov m pl)
  callWith pos f first (backTo pos (starEach [] X.env)) (backToKw pos (keywordEach [] X.env))):=by rfl):
 PE X (.Call (.Attribute o m apos) [] [] pos) (Aq C m sp dvs E ta Br):=by
 intro pins s σ H Q I h;refine PySem.W.methodCall_KW (pl:=pl) (bA (he pins s σ H _ I h) λu s1 z'=>?_) ht;obtain⟨x,H1,I1,rx,a,dx,fs,ex,ea,l,q⟩:=z';subst ex;obtain rfl:u=Value.ref a:=rx;refine ky I1 ea c hm l ?_;exact PySem.W.callWith_K0 (first:=[.ref a]) I1.kIn hm.kp (nM (us:=[.ref a]) (vs:=[.ref a]) F hr hb hd hx I1 (.cons rfl .nil) q)
structure Mk (K:PySem.W.Frag)(C f:Addr):Prop where
 makes:PySem.W.makesIn K C=true
 init:PySem.W.findIn K (.ref C) "__init__"=some (some (.ref f))
 fn:PySem.W.isFn K (.ref f)=true
 kp:PySem.W.keepIn K (.ref C)=true
theorem ac9 {vs:List V}(M:Mk X.K C f)(F:Bp X.prog X.w X.K X.mg X.base CX k f fd ps sp)(hr:wK (k+1) X.A)(hb:ay X.K fd ps ds)(hd:aL dvs ds)
 (hx:dU CX X E)(I:Inv X pins σ H s)(r:aL vs us)
 (h:∀x dx,H x=none->H dx=none->dx≠x->sp (.ref x::(vs++dvs)) (upd (upd H dx (.own x)) x (.ins C dx [])) (λv H2=>v=.non/\Q (.ref x) H2) E):
 wpAny (model X.prog X.w) X.A (call (.ref C) us) (EP X pins σ Q) X.xe s:=by
 have hq:=h (s.heap.objs.size+1) s.heap.objs.size (I.hok.fresh (Nat.le_succ _)) (I.hok.fresh (Nat.le_refl _)) (Nat.ne_of_lt (Nat.lt_succ_self _));have I2:=Inv.made (C:=C) I;have r2:aL (V.ref (s.heap.objs.size+1):: (vs++dvs)) (Value.ref (s.heap.objs.size+1):: (us++ds)):=.cons rfl (r.append hd)
 have hl:(Value.ref (s.heap.objs.size+1):: us++ds).length=ps.length:=by
  have e:=r2.length;rw[F.len _ _ _ _ hq] at e;exact e.symm
 refine wpAny_call (acG (f:=f) I.kIn M.makes M.init (beq_iff_eq.mp M.fn) (codeAny_mono (F.run _ X.stack _ _ ⟨Value.ref (s.heap.objs.size+1):: us,[]⟩ (Value.ref (s.heap.objs.size+1):: (us++ds)) _ _ E (hr.make C us [])
  (I2.abB.make C us []) (hb _ (Value.ref (s.heap.objs.size+1):: us) I2.kIn hl) r2 hq) λr s' Ni=>?_))
 cases r with
 |error e=>exact hx pins σ _ _ e s' I2 Ni
 |ok fl =>
  cases fl with
  |ret u =>
   obtain⟨v,H',I3,rv,ev,q3⟩:=I2.after Ni;subst ev;exact⟨rv,⟨V.ref (s.heap.objs.size+1),H',I3,rfl,q3⟩⟩
  |next=>exact False.elim Ni
  |brk=>exact False.elim Ni
  |cont=>exact False.elim Ni
theorem gA (M:Mk X.K C f)(F:Bp X.prog X.w X.K X.mg X.base CX k f fd ps sp)(hr:wK (k+1) X.A)(hg:Gl X x)(hm:X.mg x=some (.ref C))(hb:ay X.K fd ps ds)(hd:aL dvs ds)(hx:dU CX X E)
 (ha:PA X (e::es) t)(Lx:(x==("__debug__":Str))=false:=by decide)(he:starEach (e::es) X.env=(false,eval e X.env):: starEach es X.env:=by rfl)(IB:(backTo pos (starEach es X.env)).any (·.1)=false:=by rfl):
 PE X (.Call (.Name x p) (e::es) [] pos) (aaI C sp dvs E t):=by
 intro pins s σ H Q I h;refine wpAny_Call_Name_kw (iu I hg hm ?_ Lx);refine PySem.W.callWith_K (h₀:=X.base) I.ok.mod.kin M.kp (bA (ha pos pins s σ H _ I h) λus s1 ⟨vs,H1,I1,r,q⟩=>⟨I1.kIn,?_⟩) he IB;exact ac9 M F hr hb hd hx I1 r q
end
def PK (X:Cx)(Nj:List Keyword)(t:TA):Prop :=
 ∀(pos:Pos)(pins:List (Addr×Obj))(s:GB)(σ:St)(H:Hp)(Q:List V->Hp->Prop),Inv X pins σ H s->t σ H Q->wpAny (model X.prog X.w) X.A (evalAll ((backToKw pos (keywordEach Nj X.env)).map (·.2))) (AP X pins σ Q) X.xe s
section
variable {X:Cx}{CX:D0}{k:Nat}{f C:Addr}{fd:EK}{ps ks:zF}{sp:Sp}{E:XK}{x m:Str}{p pos apos kpos:Pos}{e o:Expr}{es:Bj}{Nj:List Keyword}{te ta:TE}{t tk:TA}{nm:Option Str}
theorem ada:PK X [] Br:=λ_ _ _ _ H Q I h=>wpAny_evalAll_nil ⟨[],H,I,.nil,h⟩
theorem adb (ha:PE X e te)(hr:PK X Nj t):PK X (⟨nm,e,kpos⟩::Nj) (dm te t):=by
 intro pos pins s σ H Q I h;show wpAny _ _ (evalAll ((do let v <-eval e X.env;standAt pos;pure v):: (backToKw pos (keywordEach Nj X.env)).map (·.2))) _ _ s;refine wpAny_evalAll_cons (wpAny_bind (bA (ha pins s σ H _ I h) λu s1 ⟨x,H1,I1,r1,q1⟩=>wpAny_bind (wpAny_standAt (wpAny_pure ?_))));exact bA (hr pos pins s1 σ H1 _ I1 q1) λus s2 ⟨xs,H2,I2,r2,q2⟩=>⟨x::xs,H2,I2,.cons r1 r2,q2⟩
variable {g:List Value->List Value->List Value}{gV:List V->List V->List V}
end
structure yJ (N P:zF)(sc:Scope):Prop where
 kind:sc.kind=.function
 co:sc.isCoroutine=false
 gen:sc.isGenerator=false
 nd:N.Nodup
 pre:N.take P.length=P
 par:∀x∈P,sc.names.lookup x=some .local\/sc.names.lookup x=some .cell
 abM:∀y∈sc.names,y.2≠.free
theorem dE {P:zF}{sc:Scope}(h:sc.kind=.function/\sc.isCoroutine=false/\sc.isGenerator=false/\N.Nodup/\N.take P.length=P/\(∀x∈P,sc.names.lookup x=some .local\/sc.names.lookup x=some .cell)/\∀y∈sc.names,y.2≠.free):yJ N P sc:=⟨h.1,h.2.1,h.2.2.1,h.2.2.2.1,h.2.2.2.2.1,h.2.2.2.2.2.1,h.2.2.2.2.2.2⟩
variable {kindOf:Str->Option NameKind}
theorem lX :∀{binds:List (Str×Value)}{m:vW},(∀v,(x,v)∉binds)->bindL kindOf binds m x=m x
 |[],_,_=>rfl
 |(n,v):: r,m,h=>by
  unfold bindL;rw[lX λw hw=>h w (List.mem_cons_of_mem _ hw)]
  split
  ·have:x≠n:=by rintro rfl;exact h v List.mem_cons_self
   simp[this]
  ·rfl
theorem mn :∀{binds:List (Str×Value)}{m:vW},(∀v,(x,v)∉binds)->bindC kindOf binds m x=m x
 |[],_,_=>rfl
 |(n,v):: r,m,h=>by
  unfold bindC;rw[mn λw hw=>h w (List.mem_cons_of_mem _ hw)]
  split
  ·rfl
  ·have:x≠n:=by rintro rfl;exact h v List.mem_cons_self
   simp[this]
theorem lU {v:Value}:∀{P:zF}{vs:nv}{i:Nat}{m:vW},P.Nodup->P[i]?=some x->vs[i]?=some v->kindOf x=some .local →
 bindL kindOf (P.zip vs) m x=some v
 |[],_,_,_,_,h,_,_=>by simp at h
 |_::_,[],_,_,_,_,h,_=>by simp at h
 |p::P,w::vs,0,m,nd,h1,h2,hk=>by
  simp at h1 h2;subst h1;subst h2;show bindL kindOf ((p,w):: P.zip vs) m p=_;unfold bindL;rw[lX λv hv=>(List.nodup_cons.mp nd).1 (List.of_mem_zip hv).1,if_pos hk];simp
 |p::P,w::vs,i+1,m,nd,h1,h2,hk=>by
  show bindL kindOf ((p,w):: P.zip vs) m x=_;unfold bindL;exact lU (i:=i) (List.nodup_cons.mp nd).2 (by simpa using h1) (by simpa using h2) hk
theorem mj {v:Value}:∀{P:zF}{vs:nv}{i:Nat}{m:vW},P.Nodup->P[i]?=some x->vs[i]?=some v->kindOf x≠some .local →
 bindC kindOf (P.zip vs) m x=some v
 |[],_,_,_,_,h,_,_=>by simp at h
 |_::_,[],_,_,_,_,h,_=>by simp at h
 |p::P,w::vs,0,m,nd,h1,h2,hk=>by
  simp at h1 h2;subst h1;subst h2;show bindC kindOf ((p,w):: P.zip vs) m p=_;unfold bindC;rw[mn λv hv=>(List.nodup_cons.mp nd).1 (List.of_mem_zip hv).1,if_neg hk];simp
 |p::P,w::vs,i+1,m,nd,h1,h2,hk=>by
  show bindC kindOf ((p,w):: P.zip vs) m x=_;unfold bindC;exact mj (i:=i) (List.nodup_cons.mp nd).2 (by simpa using h1) (by simpa using h2) hk
def gL (N:zF)(vs:List V):St:=vs.map some++List.replicate (N.length-vs.length) none
def gI (CX:D0)(P:vB)(w:World)(K:PySem.W.Frag)(mg:vW)(base:Heap)(N:zF)(qual:Str)(scope:Scope)(f:Addr)(cd:Value)(A:Around)(outer:List Env)(s:GB)(H:Hp)(E:XK):Cx where
 prog:=P
 w:=w
 K:=K
 mg:=mg
 base:=base
 A:=A.deeper (envOfC qual scope s.heap.objs.size f cd)
 N:=N
 s₀:=s
 H₀:=H
 env:=envOfC qual scope s.heap.objs.size f cd
 outer:=outer
 stack:=envOfC qual scope s.heap.objs.size f cd::outer
 ex:=[]
 calm:=true
 fn:=λ_=>true
 pn:=[]
 xe:=λe s'=>wpAny (model P w) (A.deeper (envOfC qual scope s.heap.objs.size f cd)) (leaving (envOfC qual scope s.heap.objs.size f cd) e) (λ_ RP=>CX outer H s E e RP) (λe' RP=>CX outer H s E e' RP) s'
theorem ph {sc:Scope}{n:Nat}(h:sc.names.lookup x=some .cell):∃c,(cellsFrom n sc.names []).lookup x=some c:=by
 have q:=PySem.W.cellsFrom_some sc.names n [] (.inl h);exact Option.isSome_iff_exists.mp q
theorem ade {CX:D0}{qual:Str}{scope:Scope}{f:Addr}{cd:Value}{s1:GB}{E:XK}{vs:List V}
 (S:yJ N ps scope)(hd:A.handled=none)(e0:BP P w K mg base A outer s H)(hl:vs.length=ps.length)(r:aL vs us)
 (x:InCallC s s.heap.objs.size (bindL (envOfC qual scope s.heap.objs.size f cd).kindOf (ps.zip us) λ_=>none) (cellsFrom (s.heap.objs.size+1) scope.names []) (bindC (envOfC qual scope s.heap.objs.size f cd).kindOf (ps.zip us) λ_=>none) s1):
 Inv (gI CX P w K mg base N qual scope f cd A outer s H E) [] (gL N vs) H s1:=by
 have IB:ps.length<=N.length:=by have:=congrArg List.length S.pre;rw[List.length_take] at this;omega
 obtain⟨h1,tk,rfl,hk⟩:=x.done;have Nk:∀b:Addr,b∉(gI CX P w K mg base N qual scope f cd A outer s H E).ex:=λb z=>absurd (show b∈([]:List Addr) from z) (by simp)
 refine⟨⟨e0.mod,S.kind,rfl,rfl,Nat.le_refl _,λy z c h1 h2=>?_,λy hy=>?_,λy c _ h=>?_,λ_=>hd,Around.frames_deeper e0.frames,.inr ⟨rfl,rfl⟩,λb z=>absurd z (Nk b),e0.bs,e0.bsz,λb _ _=>Nk b,λb z=>absurd z (Nk b),e0.aaC,e0.frf⟩,
  rfl,e0.bare,Un.kept hk,⟨_,x.toInCall.ns,λi y v h1 h2 h3=>?_⟩,λy c h=>⟨_,x.cell y c h⟩,e0.hok.fresh (Nat.le_refl _),λy c h=>?_,λp hp=>absurd (show p∈([]:List (Addr×Obj)) from hp) (by simp),e0.hok.kept hk,?_⟩
 ·exact name_of_addr x.apart (PySem.mem_of_lookup h1) (PySem.mem_of_lookup h2)
 ·have hy:scope.names.lookup y=some .cell\/scope.names.lookup y=some .free:=hy
  rcases hy with hy|hy
  ·exact ph hy
  ·exact absurd rfl (S.abM _ (PySem.mem_of_lookup hy))
 ·exact Nat.le_of_lt (x.above y c (PySem.mem_of_lookup h))
 ·have hi:i<vs.length:=by
   unfold gL at h2
   by_cases hi:i<vs.length
   ·exact hi
   ·rw[List.getElem?_append_right (by simpa using hi)] at h2;rw[List.getElem?_replicate] at h2
    split at h2 <;> cases h2
  have ha:vs[i]?=some v:=by
   unfold gL at h2;rw[List.getElem?_append_left (by simpa using hi),List.getElem?_map] at h2
   cases e:vs[i]? with
   |none=>rw[e] at h2;cases h2
   |some a=>rw[e] at h2;cases h2;rfl
  obtain⟨u,hu,rv⟩:=r.get ha
  have hp:ps[i]?=some y:=by
   rw[<-S.pre,List.getElem?_take_of_lt (by omega)];exact h1
  have Wg:ps.Nodup:=by rw[<-S.pre];exact S.nd.sublist (List.take_sublist _ _)
  refine⟨u,rv,?_⟩
  rcases S.par y (List.mem_of_getElem? hp) with k|k
  ·exact .inl ⟨k,lU Wg hp hu k⟩
  ·obtain⟨c,e⟩:=ph (n:=s.heap.objs.size+1) k;refine .inr ⟨.inl k,c,e,?_⟩;have q:=x.cell y c e;rw[mj Wg hp hu (by show scope.names.lookup y≠_;rw[k];decide)] at q;exact q
 ·exact e0.hok.fresh (Nat.le_of_lt (x.above y c (PySem.mem_of_lookup h)))
 ·unfold gL;show _=N.length;rw[List.length_append,List.length_map,List.length_replicate];omega
theorem vF {CX:D0}{f:Addr}{name qual:Str}{params:Arguments}{body:DN}{scope:Scope}{dV kV doc pm GN ct oc:Value}{an od:BY}
 {Hi:Ds}{sp:Sp}(lk:K.lookup f=some ⟨oc,od,.func (PySem.W.fnOf name qual params body scope dV kV doc pm an GN ct),Hi⟩)(HM:PySem.W.codeIn K GN qual=true)(S:yJ N ps scope)
 (len:∀vs H Q E,sp vs H Q E->vs.length=ps.length)
 (HB:∀(A:Around)(outer:List Env)(s:GB)(H:Hp)(vs:List V)(Q:VK)(E:XK),wK k (A.deeper (envOfC qual scope s.heap.objs.size f GN))->sp vs H Q E →
  ∃t,pV (gI CX P w K mg base N qual scope f GN A outer s H E) body t/\t {nx:=λ_ H'=>Q .non H',rt:=Q} (gL N vs) H):
 Bp P w K mg base CX (k+1) f (PySem.W.fnOf name qual params body scope dV kV doc pm an GN ct) ps sp:=by
 refine⟨len,λA outer s H args us vs Q E hr e0 hb r Jd=>?_⟩;have hl:=len _ _ _ _ Jd;have KX:K.In s.heap:=e0.mod.kin.keeps λb o e=>(e0.bs b o e).1;have lim:s.heap.NoLimit:=e0.mod.nolimit.keeps λb o e=>(e0.bs b o e).1
 have Jj:∀y∈ps.zip us,scope.names.lookup y.1=some .local\/(scope.names.lookup y.1=some .cell/\((cellsFrom (s.heap.objs.size+1) scope.names []).lookup y.1).isSome=true):=λ⟨n,v⟩ hy=>by
  rcases S.par n (List.of_mem_zip hy).1 with q|q
  ·exact .inl q
  ·exact .inr ⟨q,PySem.W.cellsFrom_some _ _ _ (.inl q)⟩
 refine codeAny_call_function hr.depth (KX _ _ lk) rfl S.co S.gen rfl (PySem.W.codeRec_of KX HM) (hb _ _ _ _ ?_);refine wpAny_newFunctionEnv_cells S.kind Jj λenv he s1 x=>?_;subst he;refine⟨lim.keeps x.toInCall.keep,codeAny_func ?_⟩;obtain⟨t,ht,hq⟩:=HB A outer s H vs Q E (hr.deeper _) Jd;have I:Inv (gI CX P w K mg base N qual scope f GN A outer s H E) [] (gL N vs) H s1:=ade S hr.hd e0 hl r x;refine wpAny_mono (ht [] s1 (gL N vs) H _ I hq) (λfl s' hs=>?_) λe s' hs=>hs
 have fin:∀{σ':St}{H':Hp}{v:V}{u:Value},Inv (gI CX P w K mg base N qual scope f GN A outer s H E) [] σ' H' s'->aE v u->Q v H'->CE outer P w H s Q u s' :=
  λ{σ' H' v u} J rv q=>⟨v,H',J.os,J.bare,J.base,J.hok,rv,q⟩
 cases fl with
 |ret u =>
  obtain⟨v,σ',H',J,rv,q⟩:=hs;exact fin J rv q
 |next =>
  obtain⟨σ',H',J,q⟩:=hs;exact fin (v:=V.non) (u:=Value.none) J rfl q
 |brk =>
  obtain⟨_,_,_,q⟩:=hs;exact False.elim q
 |cont =>
  obtain⟨_,_,_,q⟩:=hs;exact False.elim q
section
variable {X:Cx}{x:Str}{p pos:Pos}{e:Expr}{es:Bj}{t:TA}{id T:String}{r:List V->Hp->VK->Prop}
def EI (r:List V->Hp->VK->Prop)(t:TA):TE:=λσ H Q=>t σ H λvs H1=>r vs H1 Q
theorem az (hc:eX X (.builtin id) r)(hg:Gl X x)(hm:X.mg x=none)(hv:bootBuiltins x=some (.builtin id))(ha:PA X (e::es) t)(hn:x ≠ "__name__":=by decide)(Lx:(x==("__debug__":Str))=false:=by decide)
 (he:starEach (e::es) X.env=(false,eval e X.env):: starEach es X.env:=by rfl)(IB:(backTo pos (starEach es X.env)).any (·.1)=false:=by rfl):PE X (.Call (.Name x p) (e::es) [] pos) (EI r t):=by
 intro pins s σ H Q I h;refine wpAny_Call_Name_kw (cT I hg hm hv ?_ hn Lx);exact PyProof.Rows.callWith_builtin1 (bA (ha pos pins s σ H _ I h) λus s1 ⟨vs,H1,I1,r1,q1⟩=>hc pins s1 σ H1 vs us Q I1 r1 q1) he IB
theorem b8 (hc:eX X (.type T) r)(hg:Gl X x)(hm:X.mg x=none)(hv:bootBuiltins x=some (.type T))(ha:PA X (e::es) t)(hn:x ≠ "__name__":=by decide)(Lx:(x==("__debug__":Str))=false:=by decide)
 (he:starEach (e::es) X.env=(false,eval e X.env):: starEach es X.env:=by rfl)(IB:(backTo pos (starEach es X.env)).any (·.1)=false:=by rfl):PE X (.Call (.Name x p) (e::es) [] pos) (EI r t):=by
 intro pins s σ H Q I h;refine wpAny_Call_Name_kw (cT I hg hm hv ?_ hn Lx);exact PyProof.Rows.callWith_type1 (bA (ha pos pins s σ H _ I h) λus s1 ⟨vs,H1,I1,r1,q1⟩=>hc pins s1 σ H1 vs us Q I1 r1 q1) he IB
end
section
variable {κ:Type} [DecidableEq κ]
def iZ (GH:List (κ×V))(k:κ):Option V:=(GH.find? λkv=>decide (kv.1=k)).map (·.2)
def fI (GH:List (κ×V))(k:κ)(v:V):List (κ×V):=
 if(GH.any λkv=>decide (kv.1=k))=true then GH.map (λkv=>if kv.1=k then(kv.1,v) else kv) else GH++[(k,v)]
theorem ix {p:κ×V}{r:List (κ×V)}{k:κ}(e:p.1=k):iZ (p::r) k=some p.2:=by simp[iZ,List.find?_cons,e]
theorem gm {p:κ×V}{r:List (κ×V)}{k:κ}(e:¬p.1=k):iZ (p::r) k=iZ r k:=by simp[iZ,List.find?_cons,e]
theorem kZ (k:κ):∀GH:List (κ×V),(GH.any λkv=>decide (kv.1=k))=(iZ GH k).isSome
 |[]=>rfl
 |p::r=>by
  rw[List.any_cons]
  by_cases e:p.1=k
  ·simp only[ix e,decide_eq_true e,Bool.true_or,Option.isSome_some]
  ·rw[gm e,decide_eq_false e,Bool.false_or];exact kZ k r
theorem jw (GH:List (κ×V))(k:κ)(v:V):(fI GH k v).length<=GH.length+1:=by
 unfold fI
 split
 ·rw[List.length_map];omega
 ·rw[List.length_append,List.length_cons,List.length_nil];omega
theorem fO.aaL {o:Option V}{u:zd}(r:fO o u):o.isSome=u.isSome:=by
 cases o with
 |none=>cases u with
  |none=>rfl
  |some _=>exact(show False from r).elim
 |some _=>cases u with
  |none=>exact(show False from r).elim
  |some _=>rfl
theorem fO.getD {o:Option V}{u:zd}{d:V}{d':Value}(r:fO o u)(rd:aE d d'):aE (o.getD d) (u.getD d'):=by
 cases o with
 |none=>cases u with
  |none=>exact rd
  |some _=>exact(show False from r).elim
 |some _=>cases u with
  |none=>exact(show False from r).elim
  |some _=>exact r
theorem KV.val {GH:List (κ×V)}{vs:List (κ×Value)}(r:KV GH vs)(k:κ):fO (iZ GH k) (valueAt vs k):=by
 unfold KV at r
 induction r with
 |nil=>exact True.intro
 |@cons p q ps qs h t ih =>
  obtain⟨h1,h2⟩:=h
  by_cases e:p.1=k
  ·have e':q.1=k:=h1.symm.trans e
   have b:valueAt (q::qs) k=some q.2:=by simp[valueAt,List.find?_cons,e']
   rw[ix e,b];exact h2
  ·have e':¬q.1=k:=λz=>e (h1.trans z)
   have b:valueAt (q::qs) k=valueAt qs k:=by simp[valueAt,List.find?_cons,e']
   rw[gm e,b];exact ih
theorem KV.any {GH:List (κ×V)}{vs:List (κ×Value)}(r:KV GH vs)(k:κ):(GH.any λkv=>decide (kv.1=k))=vs.any λkv=>decide (kv.1=k):=by
 unfold KV at r
 induction r with
 |nil=>rfl
 |cons h t ih=>rw[List.any_cons,List.any_cons,ih,h.1]
theorem KV.abN {GH:List (κ×V)}{vs:List (κ×Value)}(r:KV GH vs)(k:κ)(ry:aE y u):
 KV (GH.map λkv=>if kv.1=k then(kv.1,y) else kv) (vs.map λkv=>if kv.1=k then(kv.1,u) else kv):=by
 unfold KV at r |-
 induction r with
 |nil=>exact .nil
 |@cons p q ps qs h t ih =>
  rw[List.map_cons,List.map_cons];refine .cons ?_ ih;obtain⟨h1,h2⟩:=h
  by_cases e:p.1=k
  ·rw[if_pos e,if_pos (h1.symm.trans e)];exact⟨h1,ry⟩
  ·rw[if_neg e,if_neg (λz=>e (h1.trans z))];exact⟨h1,h2⟩
theorem KV.put {GH:List (κ×V)}{vs:List (κ×Value)}(r:KV GH vs)(k:κ)(ry:aE y u):KV (fI GH k y) (stored vs k u):=by
 unfold fI stored;rw[r.any k]
 by_cases e:(vs.any λkv=>decide (kv.1=k))=true
 ·rw[if_pos e,if_pos e];exact r.abN k ry
 ·rw[if_neg e,if_neg e];exact Paired.snoc r ⟨rfl,ry⟩
theorem KV.length {GH:List (κ×V)}{vs:List (κ×Value)}(r:KV GH vs):GH.length=vs.length:=Paired.length r
end
theorem pR {k:Key}(r:aE (kV k) u):(bN P w).is k u=true:=by
 cases k with
 |inl i=>obtain⟨t,e⟩:=(show ∃t,u=Value.int i t from r);subst e;exact aas P w i t
 |inr x=>obtain⟨t,e⟩:=(show ∃t,u=Value.str x t from r);subst e;exact Gth P w x t
theorem mi :∀{ks:List Key}{us:nv},aL (ks.map kV) us->ItemsAre (bN P w) ks us
 |[],_,r=>by rw[List.map_nil] at r;cases r;exact .nil
 |k::ks,_,r=>by
  rw[List.map_cons] at r
  cases r with
  |cons h t=>exact .cons (pR h) (mi t)
abbrev KT (H:Hp):List (List Key×V)->List (List Key×Addr×Value)->Prop:=Paired λp q=>p.1=q.1/\H q.2.1=some (.tup (p.1.map kV))/\aE p.2 q.2.2
variable {GH:List (List Key×V)}{xs:List (List Key×Addr×Value)}
theorem KT.val (r:KT H GH xs)(k:List Key):fO (iZ GH k) ((atKey xs k).map (·.2)):=by
 induction r with
 |nil=>exact True.intro
 |@cons p q ps qs h t ih =>
  obtain⟨h1,_,h2⟩:=h
  by_cases e:p.1=k
  ·have e':q.1=k:=h1.symm.trans e
   have b:atKey (q::qs) k=some q.2:=by simp[atKey,List.find?_cons,e']
   rw[ix e,b];exact h2
  ·have e':¬q.1=k:=λz=>e (h1.trans z)
   have b:atKey (q::qs) k=atKey qs k:=by simp[atKey,List.find?_cons,e']
   rw[gm e,b];exact ih
theorem KT.abN (r:KT H GH xs)(k:List Key)(ry:aE y u):
 KT H (GH.map λkv=>if kv.1=k then(kv.1,y) else kv) (xs.map (putAt k u)):=by
 induction r with
 |nil=>exact .nil
 |@cons p q ps qs h t ih =>
  rw[List.map_cons,List.map_cons];refine .cons ?_ ih;obtain⟨h1,h2,h3⟩:=h;unfold putAt
  by_cases e:p.1=k
  ·rw[if_pos e,if_pos (h1.symm.trans e)];exact⟨h1,h2,ry⟩
  ·rw[if_neg e,if_neg (λz=>e (h1.trans z))];exact⟨h1,h2,h3⟩
theorem KT.put (r:KT H GH xs)(k:List Key)(hb:H b=some (.tup (k.map kV)))(ry:aE y u):
 KT H (fI GH k y) (storedH xs k b u):=by
 have e:(GH.any λkv=>decide (kv.1=k))=(atKey xs k).isSome:=by
  rw[kZ,(r.val k).aaL,Option.isSome_map]
 unfold fI storedH;rw[e]
 by_cases q:(atKey xs k).isSome=true
 ·rw[if_pos q,if_pos q];exact r.abN k ry
 ·rw[if_neg q,if_neg q];exact Paired.snoc r ⟨rfl,hb,ry⟩
theorem KT.keeps (r:KT H GH xs)(ht:∀b ys,H b=some (.tup ys)->H' b=some (.tup ys)):KT H' GH xs :=
 Paired.aat r λ_ _ z=>⟨z.1,ht _ _ z.2.1,z.2.2⟩
section
variable {P:vB}{w:World}{H:Hp}{h:Heap}{a:Addr}
theorem AI {u:HO}(ok:fR P w H h)(e:Rd H a u):bt P w H h a u:=e.ok ok
theorem l8 {GH:List (Key×V)}(ok:fR P w H h)(e:Rd H a (.dK GH)):GH.length<=sizeLine/\(a==sysModules)=false/\∃vs,KV GH vs/\h.DictOf (bN P w) a vs :=
 show bt P w H h a (.dK GH) from AI ok e
theorem adf {GH:List (Key×V)}(ok:fR P w H h)(e:H a=some (.dK GH)):GH.length<=sizeLine/\(a==sysModules)=false/\∃vs,KV GH vs/\h.DictOf (bN P w) a vs:=l8 ok (.inl e)
theorem jU {ks:List Key}(ok:fR P w H h)(e:H a=some (.tup (ks.map kV))):(tupleKind (bN P w)).is h ks a:=by
 obtain⟨_,its,r,o,h1,h2,n,h3⟩:=(show bt P w H h a (.tup (ks.map kV)) from ok a _ e);exact⟨o,its.toArray,n,h1,h2,h3,by simpa using mi r⟩
theorem lY (ok:fR P w H h)(e:Rd H a (.dT GH)):GH.length<=sizeLine/\(a==sysModules)=false /\
 ∃xs,KT H GH xs/\h.DictOfH (tupleKind (bN P w)) a xs:=by
 obtain⟨z,y,xs,r,o,es,ep,h1,h2,h3,h4,h5⟩:=(show bt P w H h a (.dT GH) from AI ok e);refine⟨z,y,xs,r,o,es,ep,h1,h2,h3,h4,λx hx=>?_,h5⟩
 have all:∀{l:List (List Key×V)}{m:List (List Key×Addr×Value)},KT H l m->∀x∈m,(tupleKind (bN P w)).is h x.1 x.2.1:=by
  intro l m q
  induction q with
  |nil=>intro x hx;exact nomatch hx
  |@cons p q ps qs hq t ih =>
   intro x hx
   rcases List.mem_cons.mp hx with e|hx
   ·subst e;exact jU ok (by rw[<-hq.1];exact hq.2.1)
   ·exact ih x hx
 exact all r x hx
theorem adg (ok:fR P w H h)(e:H a=some (.dT GH)):GH.length<=sizeLine/\(a==sysModules)=false /\
 ∃xs,KT H GH xs/\h.DictOfH (tupleKind (bN P w)) a xs:=lY ok (.inl e)
end
def jh (H:Hp)(a:Addr)(y:V)(r:Option V):Prop :=
 (∃GH k,Rd H a (.dK GH)/\y=kV k/\r=iZ GH k)\/∃GH k b,Rd H a (.dT GH)/\y=.ref b/\H b=some (.tup (k.map kV))/\r=iZ GH k
def oW (H:Hp)(a:Addr)(y v:V)(H':Hp):Prop :=
 (∃GH k,H a=some (.dK GH)/\y=kV k/\GH.length<sizeLine/\H'=upd H a (.dK (fI GH k v))) \/
 ∃GH k b,H a=some (.dT GH)/\y=.ref b/\H b=some (.tup (k.map kV))/\GH.length<sizeLine/\H'=upd H a (.dT (fI GH k v))
theorem jh.t {b:Addr}{k:List Key}(e:H a=some (.dT GH))(eb:H b=some (.tup (k.map kV))):jh H a (.ref b) (iZ GH k):=.inr ⟨GH,k,b,.inl e,rfl,eb,rfl⟩
theorem oW.t {b:Addr}{k:List Key}{v:V}(e:H a=some (.dT GH))(eb:H b=some (.tup (k.map kV)))(hl:GH.length<sizeLine):
 oW H a (.ref b) v (upd H a (.dT (fI GH k v))):=.inr ⟨GH,k,b,e,rfl,eb,hl,rfl⟩
section
variable {X:Cx}{pins:List (Addr×Obj)}{σ:St}{H:Hp}{s:GB}{a:Addr}{y v:V}{u r:Value}{o:Option V}{A:Around}{E:pL}
theorem Inv.big (I:Inv X pins σ H s):sysModules<s.heap.objs.size:=by
 have h:mainGlobals<s.heap.objs.size:=(I.mod.glob.keeps I.bk).lt;exact Nat.lt_trans (by decide) h
theorem adh {Q:pL}(hu:A.units+1<cLine)(I:Inv X pins σ H s)(g:jh H a y (some v))(ry:aE y u)(h:∀w' s',Inv X pins σ H s'->aE v w'->Q w' s'):
 wpAny (model X.prog X.w) A (getItem (.ref a) u) Q E s:=by
 rcases g with⟨GH,k,e,ey,l⟩|⟨GH,k,b,e,ey,eb,l⟩
 ·subst ey;obtain⟨z,hd,vs,rel,dd⟩:=l8 I.hok e;obtain⟨w',hw,Hv⟩:=fO.some_of (v:=v) (o:=valueAt vs k) (by rw[l];exact rel.val k);exact wpAny_getItem_of (pR ry) dd.mapOf hw (h w' _ (I.tok _) Hv)
 ·subst ey
  cases(show u=Value.ref b from ry)
  obtain⟨z,hd,xs,rel,dd⟩:=lY I.hok e;obtain⟨w',hw,Hv⟩:=fO.some_of (v:=v) (o:=(atKey xs k).map (·.2)) (by rw[l];exact rel.val k);obtain⟨p,hp,ML⟩:=Option.map_eq_some_iff.mp hw;refine wpAny_getItem_heap (tupleKind_room_in1 hu) (jU I.hok eb) dd hp ?_;rw[ML];exact h w' _ (I.tok _) Hv
theorem adi {Q:pL}(hu:A.units+1<cLine)(I:Inv X pins σ H s)(g:jh H a y o)(ry:aE y u)(h:∀s',Inv X pins σ H s'->Q (.bool o.isSome) s'):
 wpAny (model X.prog X.w) A (compareOp .In u (.ref a)) Q E s:=by
 rcases g with⟨GH,k,e,ey,l⟩|⟨GH,k,b,e,ey,eb,l⟩
 ·subst ey;obtain⟨z,hd,vs,rel,dd⟩:=l8 I.hok e;refine wpAny_in_of (pR ry) hd dd.mapOf ?_;rw[<-(rel.val k).aaL,<-l];exact h _ (I.tok _)
 ·subst ey
  cases(show u=Value.ref b from ry)
  obtain⟨z,hd,xs,rel,dd⟩:=lY I.hok e;refine wpAny_in_heap (tupleKind_room_in1 hu) (jU I.hok eb) hd dd ?_;have q:=(rel.val k).aaL;rw[Option.isSome_map] at q;rw[<-q,<-l];exact h _ (I.tok _)
theorem tE {h':Heap}{t':Nat}{ob:HO}(I:Inv X pins σ H s)(mu:DH (H a))(hs:Heap.SameBut a s.heap h')(he:∃q,h'.get? a=some q)(new:bt X.prog X.w (upd H a ob) h' a ob):
 Inv X pins σ (upd H a ob) {s with heap:=h',toks:=t'}:=
 I.write (x:=a) (e:=a) mu (.inl rfl) (λb q hb z=>(hs.2 b hb).trans z) he new
theorem abb {h':Heap}{GH:List (Key×V)}{vs:List (Key×Value)}(z:GH.length<=sizeLine)(hd:(a==sysModules)=false)(rel:KV GH vs)(dd:h'.DictOf (bN P w) a vs):
 bt P w H' h' a (.dK GH):=⟨z,hd,vs,rel,dd⟩
theorem abc {Q:Unit->Shared->Prop}(hu:A.units+1<cLine)(I:Inv X pins σ H s)(g:oW H a y v H')(ry:aE y u)(rv:aE v r)(h:∀s',Inv X pins σ H' s'->Q () s'):
 wpAny (model X.prog X.w) A (setItem (.ref a) u r) Q E s:=by
 rcases g with⟨GH,k,e,ey,l,eH⟩|⟨GH,k,b,e,ey,eb,l,eH⟩
 ·subst ey eH;obtain⟨z,hd,vs,rel,dd⟩:=adf I.hok e
  have hz:vs.length<=sizeLine:=by rw[<-rel.length];exact z
  have hl:(fI GH k v).length<=sizeLine:=by have:=jw GH k v;omega
  refine wpAny_setItem_pairs (hsz:=hz) (pR ry) dd λh' Q0 hs=>h _ ?_;have he:∃q,h'.get? a=some q:=let⟨q,_,_,hq,_⟩:=Q0;⟨q,hq⟩;exact tE I (by rw[e];exact True.intro) hs he (abb hl hd (rel.put k rv) Q0)
 ·subst ey eH
  cases(show u=Value.ref b from ry)
  obtain⟨z,hd,xs,rel,dd⟩:=adg I.hok e
  have hz:xs.length<=sizeLine:=by rw[<-Paired.length rel];exact z
  have hl:(fI GH k v).length<=sizeLine:=by have:=jw GH k v;omega
  refine wpAny_setItem_heap (hsz:=hz) (tupleKind_room_in1 hu) (jU I.hok eb) dd λh' Q0 hs=>h _ ?_;obtain⟨q,es,ep,hq,h2,h3,h4,_,h5⟩:=Q0;refine tE I (by rw[e];exact True.intro) hs ⟨q,hq⟩ ⟨hl,hd,_,(rel.put k eb rv).keeps λc ys ec=>?_,q,es,ep,hq,h2,h3,h4,h5⟩;rw[ar (Aw ec e (λz=>nomatch z))];exact ec
end
def Dr (i:Expr):Prop:=∀ov iv,subscripted i false ov iv=operate [ov,iv] (getItem ov iv)
theorem abd {prog:vB}{E:pL}{env:Env}{value slice:Expr}{T id:String}{Q:pL}
 (hl:typeLookup (.type T) "__getitem__"=pure (some (.builtin id)))(hs:Dr slice)
 (h:wpAny (model prog w) A (eval value env) (λo s₁=>wpAny (model prog w) A (eval slice env) (λi s₂=>s₂.TypeIs o T/\wpAny (model prog w) A (getItem o i) Q E s₂) E s₁) E s):
 wpAny (model prog w) A (eval (.Subscript value slice pos) env) Q E s:=by
 refine Subscript_ (wpAny_mono h (λo s₁ h₁=>wpAny_mono h₁ (λi s₂ h₂=>?_) λ_ _ x=>x) λ_ _ x=>x);obtain⟨hT,h₂⟩:=h₂;unfold subscriptTail;refine wpAny_bind ?_;rw[getitemInPython_of_ne hT.not_modules];refine wpAny_bind (wpAny_specialOf hT hl ?_)
 have fin:wpAny (model prog w) A (subscripted slice false o i) (λr s₃=>wpAny (model prog w) A (letTemporaryGo value o r>>=λ_=>pure r) Q E s₃) E s₂:=by
  rw[hs o i];exact wpAny_operating (wpAny_mono h₂ (λr s₃ h₃=>wpAny_bind (wpAny_letTemporaryGo (wpAny_pure h₃))) λ_ _ x=>x)
 first
  |exact wpAny_pure (wpAny_bind fin)
  |exact wpAny_bind (wpAny_pure (wpAny_bind fin))
  |exact wpAny_bind fin
theorem aaP {o:Option V}(I:Inv X pins σ H s)(g:jh H a y o):s.TypeIs (.ref a) "dict":=by
 rcases g with⟨GH,k,e,_,_⟩|⟨GH,k,b,e,_,_,_⟩
 ·obtain⟨_,_,vs,_,dd⟩:=l8 I.hok e;exact dd.typeIs
 ·obtain⟨_,_,xs,_,dd⟩:=lY I.hok e;exact dd.typeIs
def abn (td ty:TE):TE:=λσ H Q=>td σ H λx H1=>ty σ H1 λy H2=>∃a v,x=.ref a/\jh H2 a y (some v)/\Q v H2
def aaQ (ty td:TE):TE:=λσ H Q=>ty σ H λy H1=>td σ H1 λx H2=>∃a o,x=.ref a/\jh H2 a y o/\Q (.bl o.isSome) H2
def aa8 (td ty tv:TE):TS:=λD σ H=>tv σ H λv H1=>td σ H1 λx H2=>ty σ H2 λy H3=>∃a H4,x=.ref a/\oW H3 a y v H4/\D.nx σ H4
section
variable {X:Cx}{o i e value:Expr}{pos pos' RO:Pos}{td ty tv:TE}
theorem mY (hu:X.A.units+1<cLine)(ho:PE X o td)(hi:PE X i ty)(hs:Dr i):PE X (.Subscript o i pos) (abn td ty):=by
 intro pins s σ H Q I h;refine abd PySem.F.slot_dict_getitem.lookup hs (bA (ho pins s σ H _ I h) λu s1 ⟨x,H1,I1,rx,q1⟩=>bA (hi pins s1 σ H1 _ I1 q1) λiv s2 z'=>?_);obtain⟨y,H2,I2,ry,a,v,ex,g,q2⟩:=z';subst ex;obtain rfl:u=Value.ref a:=rx;exact⟨aaP I2 g,adh hu I2 g ry λw' s3 I3 Hv=>⟨v,H2,I3,Hv,q2⟩⟩
theorem aa9 (hu:X.A.units+1<cLine)(hi:PE X i ty)(ho:PE X o td):PC X .In i o (aaQ ty td):=by
 intro pins s σ H Q I h;refine bA (hi pins s σ H _ I h) λiv s1 ⟨y,H1,I1,ry,q1⟩=>bA (ho pins s1 σ H1 _ I1 q1) λu s2 z'=>?_;obtain⟨x,H2,I2,rx,a,ov,ex,g,q2⟩:=z';subst ex;obtain rfl:u=Value.ref a:=rx;exact adi hu I2 g ry λs3 I3=>⟨.bl ov.isSome,H2,I3,rfl,q2⟩
theorem rN (hu:X.A.units+1<cLine)(ho:PE X o td)(hi:PE X i ty)(hv:PE X value tv)(hs:swapsWith value (some (.Subscript o i pos')) pos.line X.env=pure false):
 PS X (.Assign [.Subscript o i pos'] value pos) (aa8 td ty tv):=by
 intro pins s σ H D I h;refine wpAny_Assign_Subscript (bA (hv pins s σ H _ I h) λr s1 ⟨v,H1,I1,rv,q1⟩=>bA (ho pins s1 σ H1 _ I1 q1) λu s2 ⟨x,H2,I2,rx,q2⟩=>bA (hi pins s2 σ H2 _ I2 q2) λiv s3 z'=>?_) hs;obtain⟨y,H3,I3,ry,a,H4,ex,g,q3⟩:=z';subst ex;obtain rfl:u=Value.ref a:=rx;exact abc hu I3 g ry rv λs4 I4=>⟨σ,H4,I4,q3⟩
end
theorem abv (h:Heap)(hb:sysModules<h.objs.size):bt P w H (h.push {cls:=.type "dict",data:=.dict #[]}) h.objs.size (.dT []):=
 ⟨Nat.zero_le _,beq_eq_false_iff_ne.mpr (Ne.symm (Nat.ne_of_lt hb)),[],.nil,_,#[],0,Heap.get?_push_size _ rfl,⟨rfl,rfl,rfl⟩,rfl,rfl,List.nodup_nil⟩
def abO:TE:=λ_ H Q=>∀p,H p=none->Q (.ref p) (upd H p (.dT []))
section
variable {X:Cx}{pos:Pos}
theorem pJ:PE X (.Dict [] [] pos) abO:=λpins s σ H Q I h =>
 wpAny_Dict_empty ⟨.ref s.heap.objs.size,_,I.laid (a:=s.heap.objs.size) (o:=.dT []) (t':=s.toks) (λ_ _ q=>Heap.get?_push_of_some _ q) (Nat.le_refl _) (abv s.heap I.big),rfl,h _ (I.hok.fresh (Nat.le_refl _))⟩
end
structure M2 (X:Cx)(o:Expr)(m:Str)(apos:Pos)(e f:Expr)(GY:Pos):Prop where
 base:attributeBase o m X.env (eval o X.env)=eval o X.env
 few:((backTo GY (starEach [e,f] X.env)).all (λx=>!x.1)&&(backToKw GY (keywordEach [] X.env)).all (λx=>x.1.isSome)
  && decide (([e,f]:Bj).length+([]:List Keyword).length+(if([]:List Keyword).isEmpty then 0 else 1)<30))=true
 line:(apos.endLine==GY.line)=true
 trees:backTo GY (starEach [e,f] X.env)=[(false,eval e X.env),(false,eval f X.env)]
def F9 (H:Hp)(a:Addr):Prop:=(∃GH,Rd H a (.dK GH))\/∃GH,Rd H a (.dT GH)
theorem PrT (I:Inv X pins σ H s)(d:F9 H a):
 s.TypeIs (.ref a) "dict"/\(∀b,Value.ref a=.ref b->∃ob,s.heap.get? b=some ob/\ob.dict=none)/\(a==sysModules)=false:=by
 rcases d with⟨GH,e⟩|⟨GH,e⟩
 ·obtain⟨_,hd,vs,_,dd⟩:=l8 I.hok e;refine⟨dd.typeIs,λb q=>?_,hd⟩
  cases q
  obtain⟨ob,_,_,h1,h2,_⟩:=dd;exact⟨ob,h1,h2.2.1⟩
 ·obtain⟨_,hd,xs,_,dd⟩:=lY I.hok e;refine⟨dd.typeIs,λb q=>?_,hd⟩
  cases q
  obtain⟨ob,_,_,h1,h2,_⟩:=dd;exact⟨ob,h1,h2.2.1⟩
section
variable {X:Cx}{pins:List (Addr×Obj)}{σ:St}{H:Hp}{s:GB}{a:Addr}{y d:V}{u r:Value}{o:Option V}{A:Around}{E:pL}
theorem abS {Q:pL}(hu:A.units+1<cLine)(I:Inv X pins σ H s)(g:jh H a y o)(ry:aE y u)(rd:aE d r)(h:∀w' s',Inv X pins σ H s'->aE (o.getD d) w'->Q w' s'):
 wpAny (model X.prog X.w) A (call (.builtin "dict.get") [.ref a,u,r]) Q E s:=by
 rcases g with⟨GH,k,e,ey,l⟩|⟨GH,k,b,e,ey,eb,l⟩
 ·subst ey;obtain⟨z,hd,vs,rel,dd⟩:=l8 I.hok e;refine call_meetsIn PySem.F.slot_dict_get dd.typeIs PySem.F.entry_dict_get (PySem.F.args_dict_get_3 _ _ _) (meets_dict_get_default (bN X.prog X.w) a (pR ry) hd r) ⟨_,dd.mapOf,h _ _ (I.tok _) ?_⟩;rw[l];exact(rel.val k).getD rd
 ·subst ey
  cases(show u=Value.ref b from ry)
  obtain⟨z,hd,xs,rel,dd⟩:=lY I.hok e;refine call_meetsIn PySem.F.slot_dict_get dd.typeIs PySem.F.entry_dict_get (PySem.F.args_dict_get_3 _ _ _) (meetsH_dict_get_default (tupleKind (bN X.prog X.w)) a b hd r) ⟨tupleKind_room_in1 hu,k,xs,jU I.hok eb,dd,h _ _ (I.tok _) ?_⟩;rw[l];exact(rel.val k).getD rd
end
def abG (td ty tx:TE):TE:=λσ H Q=>td σ H λx H1=>∃a,x=.ref a/\F9 H1 a/\ty σ H1 λy H2=>tx σ H2 λz H3=>∃o,jh H3 a y o/\Q (o.getD z) H3
section
variable {X:Cx}{o e f:Expr}{apos GY:Pos}{td ty tx:TE}
theorem aaV (hu:X.A.units+1<cLine)(ho:PE X o td)(he:PE X e ty)(hf:PE X f tx)(m:M2 X o "get" apos e f GY):PE X (.Call (.Attribute o "get" apos) [e,f] [] GY) (abG td ty tx):=by
 intro pins s σ H Q I h;refine wpAny_Call_method m.base m.few m.line PySem.F.plainAttrs_dict PySem.F.slot_dict_get PySem.F.type_dict_get (bA (ho pins s σ H _ I h) λu s1 z'=>?_);obtain⟨x,H1,I1,rx,a,ex,d,q1⟩:=z';subst ex;obtain rfl:u=Value.ref a:=rx;obtain⟨t1,t2,_⟩:=PrT I1 d;refine⟨t1,t2,?_⟩;rw[m.trees]
 refine Calls.callWith_builtin rfl (Calls.evalArgs_plain (Calls.spliced_cons (bA (he pins s1 σ H1 _ I1 q1) λiv s2 ⟨y,H2,I2,ry,q2⟩ =>
  Calls.spliced_cons (bA (hf pins s2 σ H2 _ I2 q2) λfv s3 ⟨z,H3,I3,rz,ov,g,q3⟩=>Calls.spliced_nil ?_))))
 exact abS hu I3 g ry rz λw' s4 I4 Hv=>⟨_,H3,I4,Hv,q3⟩
end
end L2
namespace HT
open PySem PyProof.Rows
def cX:List Int->List Int->Bool
 |[],[]=>false
 |[],_::_=>true
 |_::_,[]=>false
 |x::xs,y::ys=>if x=y then cX xs ys else decide (x<y)
theorem d0 (x y:Int)(xs ys:List Int):cX (x::xs) (y::ys)=if x=y then cX xs ys else decide (x<y):=rfl
theorem abp:cX [] []=false:=rfl
theorem abe (y:Int)(ys:List Int):cX [] (y::ys)=true:=rfl
theorem aaW (x:Int)(xs:List Int):cX (x::xs) []=false:=rfl
theorem acQ (A:Around)(s:GB)(a:Int)(t:Tok)(c:Int)(u:Tok):∃e,SeqAt.EqAt A s (.int a t) (.int c u) e/\(e=true↔a=c):=
 ⟨(a==c),SeqAt.EqAt.int_int a t c u,by simp⟩
theorem acR (A:Around)(s:GB)(a:Int)(t:Tok)(c:Int)(u:Tok)(prog:vB)(w:World)(E:pL)(Q:pL)(h:Q (.bool (decide (a<c))) s):
 wpAny (model prog w) A (richCompare .Lt (.int a t) (.int c u)) Q E s :=
 (PyProof.Rows.lt_int h:wpAny (model prog w) A (compareOp .Lt (.int a t) (.int c u)) Q E s)
section
open PySem.SeqAt
open PySem.AutoSeq1 (wpAny_loadPart')
open PySem.MeetsSeq PySem.MeetsSeq2 PySem.MeetsSeq3
theorem acS (l b:Addr)(items He:t6)(n n2:Nat)(dd KJ:BY)(sl Jk:Ds)(ns ms:List Int)(hi:IntsAre items.toList ns)(hj:IntsAre He.toList ms):
 Meets (Builtin.«tuple.__lt__» ⟨[.ref l,.ref b],[]⟩)
  (λ_ R s=>s.heap.get? l=some {cls:=.type "tuple",dict:=dd,data:=.seq items n,slots:=sl}/\s.heap.get? b=some {cls:=.type "tuple",dict:=KJ,data:=.seq He n2,slots:=Jk} /\
   R (.ok (.ret (.bool (cX ns ms)))) s):=
 .of_wp λprog w A R s h=>by
  obtain⟨hp,g,d,tk,os⟩:=s;obtain⟨hl,hb,h⟩:=h;have f2:=AutoSeq1.sub_tuple_tuple
  have z1:items.size=ns.length:=by rw[<-hi.length];simp
  have z2:He.size=ms.length:=by rw[<-hj.length];simp
  wp_walk using wpAny_loadPart' hl,wpAny_loadPart' hb,wpAny_forIn_list _ (λrest b s'=>b.1=none/\s'=⟨hp,g,d,tk,os⟩/\∃(vs ws:nv)(KL MM:List Int),rest=vs.zip ws /\
   IntsAre vs KL/\IntsAre ws MM/\KL.length+He.size=MM.length+items.size/\R (.ok (.ret (.bool (cX KL MM)))) ⟨hp,g,d,tk,os⟩) _
  case turn =>
   rintro⟨y,x⟩ rest b s' ⟨Hj,rfl,vs,ws,KL,MM,hz,RQ,Q1,hlen,hR⟩
   cases RQ with
   |nil=>rw[List.zip_nil_left] at hz;cases hz
   |cons a t RS =>
    cases Q1 with
    |nil=>rw[List.zip_nil_right] at hz;cases hz
    |cons c u RT =>
     rw[List.zip_cons_cons] at hz
     injection hz with YC Nl
     injection YC with hy hx
     subst hy hx;rw[d0] at hR;simp only[List.length_cons] at hlen;obtain⟨e,he,Nn⟩:=acQ A.in1 ⟨hp,g,d,tk,os⟩ a t c u;refine wpAny_bind (he prog w _ _ ?_)
     cases e with
     |true =>
      rw[if_pos (Nn.mp rfl)] at hR
      wp_walk
      exact⟨rfl,rfl,_,_,_,_,Nl,RS,RT,by omega,hR⟩
     |false =>
      rw[if_neg (λq=>absurd (Nn.mpr q) Bool.false_ne_true)] at hR;have YD:=acR A.in1 ⟨hp,g,d,tk,os⟩ a t c u prog w
      wp_walk using YD
      exact⟨_,rfl,by simpa using hR⟩
  case fin =>
   rintro⟨b1,b2⟩ s' ⟨Hj,rfl,vs,ws,KL,MM,hz,RQ,Q1,hlen,hR⟩;simp only at Hj;subst Hj
   have hv:cX KL MM=decide (items.size<He.size):=by
    cases RQ with
    |nil =>
     cases Q1 with
     |nil =>
      simp only[List.length_nil] at hlen;rw[abp];exact(decide_eq_false (by omega)).symm
     |cons c u hw =>
      simp only[List.length_nil,List.length_cons] at hlen;rw[abe];exact(decide_eq_true (by omega)).symm
    |cons a t hv =>
     cases Q1 with
     |nil =>
      simp only[List.length_nil,List.length_cons] at hlen;rw[aaW];exact(decide_eq_false (by omega)).symm
     |cons c u hw =>
      rw[List.zip_cons_cons] at hz
      cases hz
   rw[hv] at hR
   wp_walk
   exact⟨_,rfl,by simpa[Builtin.Tuple.tupleCompareSizes] using hR⟩
  case h =>
   exact⟨rfl,rfl,items.toList,He.toList,ns,ms,rfl,hi,hj,by omega,h⟩
end
section
variable {prog:vB}{w:World}{A:Around}{E:pL}{s:GB}
theorem acT {l b:Addr}{items He:t6}{ns ms:List Int}{Q:pL}(hl:IsTup s.heap l items)(hb:IsTup s.heap b He)(hi:IntsAre items.toList ns)(hj:IntsAre He.toList ms)
 (hu:A.units<cLine)(h:Q (.bool (cX ns ms)) s):wpAny (model prog w) A (compareOp .Lt (.ref l) (.ref b)) Q E s:=by
 obtain⟨⟨cls,dd,data,sl⟩,ho,hc,n,hd⟩:=id hl;obtain⟨⟨Np,KJ,data2,Jk⟩,IZ,Je,n2,hd2⟩:=id hb;simp only at hc hd Je hd2;subst hc hd Je hd2
 exact richCompare_meets_room (op:=.Lt) ⟨_,ho,rfl⟩ ⟨_,IZ,rfl⟩ PySem.F.slot_tuple_lt PySem.F.entry_tuple_lt (PySem.F.args_tuple_lt_2 _ _) (acS l b items He n n2 dd KJ sl Jk ns ms hi hj)
  ⟨ho,IZ,show Value.bool (cX ns ms)≠Value.notImplemented/\Q (.bool (cX ns ms)) s from⟨(λx=>nomatch x),h⟩⟩ hu
theorem acU {t b:Addr}{vs ws:nv}{Q:pL}(ht:IsTup s.heap t vs.toArray)(hb:IsTup s.heap b ws.toArray)(hv:vs≠[])
 (h1:ws=[]->Q (.ref t) s)(h2:ws≠[]->Q (.ref s.heap.objs.size) {s with heap:=s.heap.push {cls:=.type "tuple",data:=.seq (vs++ws).toArray} })
 (hsz:vs.length+ws.length<=sizeLine):wpAny (model prog w) A (binaryOp .Add (.ref t) (.ref b)) Q E s:=by
 obtain⟨⟨cls,dd,data,sl⟩,ho,hc,n,hd⟩:=id ht;obtain⟨⟨Np,KJ,data2,Jk⟩,IZ,Je,n2,hd2⟩:=id hb;simp only at hc hd Je hd2;subst hc hd Je hd2
 have e:vs.toArray++ws.toArray=(vs++ws).toArray:=by simp
 by_cases hw:ws=[]
 ·exact concat_meets ⟨_,ho,rfl⟩ ⟨_,IZ,rfl⟩ noFill_tuple_add seq_tuple_add PySem.F.slot_tuple_add PySem.F.entry_tuple_add (PySem.F.args_tuple_add_2 _ _)
   (tuple_addW1 t b vs.toArray ws.toArray n n2 dd KJ sl Jk (by simpa using hv) (by simp[hw])) ⟨ho,IZ,h1 hw⟩
 ·refine concat_meets ⟨_,ho,rfl⟩ ⟨_,IZ,rfl⟩ noFill_tuple_add seq_tuple_add PySem.F.slot_tuple_add PySem.F.entry_tuple_add (PySem.F.args_tuple_add_2 _ _)
   (tuple_addW2 t b vs.toArray ws.toArray n n2 dd KJ sl Jk (by simpa using hv) (by simpa using hw) (by rw[List.size_toArray,List.size_toArray];exact hsz)) ⟨ho,IZ,?_⟩
  rw[e];exact h2 hw
def eh (n d:Nat):Option Int->Nat
 |none=>d
 |some v=>if v<0 then(v+(n:Int)).toNat else min v.toNat n
theorem acV (n d:Nat)(hd:d<=n)(o:Option Int):eh n d o<=n:=by
 cases o with
 |none=>exact hd
 |some v =>
  show(if v<0 then(v+(n:Int)).toNat else min v.toNat n)<=n
  by_cases hv:v<0
  ·rw[if_pos hv];omega
  ·rw[if_neg hv];exact Nat.min_le_right _ _
theorem sJ (v:Int)(n d:Nat):(if v<0 then max (v+(n:Int)) 0 else min v (n:Int))=((eh n d (some v):Nat):Int):=by
 show(if v<0 then max (v+(n:Int)) 0 else min v (n:Int))=(((if v<0 then(v+(n:Int)).toNat else min v.toNat n):Nat):Int)
 by_cases hv:v<0
 ·simp only[if_pos hv];omega
 ·simp only[if_neg hv];omega
theorem acW (lo hi:Option Int)(n:Nat):Builtin.Slice.sliceAdjust lo hi 1 (n:Int)=(((eh n 0 lo:Nat):Int),((eh n n hi:Nat):Int)):=by
 have h1:¬((1:Int)<0):=by omega
 unfold Builtin.Slice.sliceAdjust;simp only[h1,if_false];refine Prod.ext ?_ ?_
 ·cases lo with
  |none=>rfl
  |some v=>exact sJ v n 0
 ·cases hi with
  |none=>rfl
  |some v=>exact sJ v n n
theorem qp (i j:Nat):Builtin.Slice.slicePlaces (i:Int) (j:Int) 1=j-i:=by
 unfold Builtin.Slice.slicePlaces
 have h1:(1:Int)>0:=by omega
 simp only[h1,if_true,Int.ediv_one]
 split <;> omega
theorem jP {v:Value}{o:Option Int}{Q:Option Int->Shared->Prop}(p:IsPart v o)(h:Q o s):wpAny (model prog w) A (Builtin.Slice.slicePartIndex v) Q E s:=by
 cases p with
 |none=>exact slicePart_none h
 |int i t=>exact slicePart_int h
theorem eV {sl:Addr}{vl vu:Value}{lo hi:Option Int}{n:Nat}{Q:Int×Int×Nat->Shared->Prop}(hs:s.heap.IsSliceOf sl vl vu .none)(pl:IsPart vl lo)(pu:IsPart vu hi)
 (h:Q (((eh n 0 lo:Nat):Int),1,eh n n hi-eh n 0 lo) s):wpAny (model prog w) A (Builtin.Slice.sliceApplied (.ref sl) (pure (n:Int))) Q E s:=by
 obtain⟨os,Ly,Q2,Nq⟩:=id hs;unfold Builtin.Slice.sliceApplied Builtin.Slice.sliceFields;refine wpAny_bind (wpAny_bind (wpAny_field Ly Nq (x:=vl) rfl (wpAny_bind (wpAny_field Ly Nq (x:=vu) rfl (wpAny_bind (wpAny_field Ly Nq (x:=.none) rfl (wpAny_pure ?_)))))));refine wpAny_bind (slicePart_none ?_);show wpAny _ _ (if((1:Int)==0)=true then _ else _) _ _ s;rw[if_neg (by decide)];refine wpAny_bind (jP pl (wpAny_bind (jP pu (wpAny_bind (wpAny_pure ?_)))));show wpAny _ _ (match Builtin.Slice.sliceAdjust lo hi 1 (n:Int) with|(lo,hi)=>pure (lo,(1:Int),Builtin.Slice.slicePlaces lo hi 1)) _ _ s;rw[acW lo hi n];show wpAny _ _ (pure (((eh n 0 lo:Nat):Int),(1:Int),Builtin.Slice.slicePlaces ((eh n 0 lo:Nat):Int) ((eh n n hi:Nat):Int) 1)) _ _ s;rw[qp];exact wpAny_pure h
theorem yb (xs:t6)(i k:Nat):((List.range k).filterMap λ(m:Nat)=>xs[((i:Int)+(m:Int)*1).toNat]?).toArray=((xs.toList.drop i).take k).toArray:=by
 have e:(λ(m:Nat)=>xs[((i:Int)+(m:Int)*1).toNat]?)=λm=>xs[i+m]?:=by
  funext m
  have:((i:Int)+(m:Int)*1).toNat=i+m:=by omega
  rw[this]
 rw[e];have:=pick_run xs i k;rw[List.filterMap_map] at this;have e2:((λx=>xs[x]?) ∘ λx=>i+x)=λm=>xs[i+m]?:=rfl;rw[e2] at this;rw[this]
theorem ia {t sl:Addr}{items:t6}{vl vu:Value}{lo hi:Option Int}{Q:pL}(ht:IsTup s.heap t items)(hs:s.heap.IsSliceOf sl vl vu .none)(pl:IsPart vl lo)(pu:IsPart vu hi)
 (hw:¬(eh items.size 0 lo=0/\eh items.size items.size hi=items.size))
 (h:Q (.ref s.heap.objs.size) {s with heap:=s.heap.push {cls:=.type "tuple",data:=.seq ((items.toList.drop (eh items.size 0 lo)).take (eh items.size items.size hi-eh items.size 0 lo)).toArray} })
 (hsz:items.size<=sizeLine):wpAny (model prog w) A (getItem (.ref t) (.ref sl)) Q E s:=by
 have IS:sizeOk (.seq ((items.toList.drop (eh items.size 0 lo)).take (eh items.size items.size hi-eh items.size 0 lo)).toArray):=by
  show((items.toList.drop (eh items.size 0 lo)).take (eh items.size items.size hi-eh items.size 0 lo)).toArray.size<=sizeLine;rw[List.size_toArray,List.length_take,List.length_drop,Array.length_toList];omega
 have hj:eh items.size items.size hi<=items.size:=acV _ _ (Nat.le_refl _) hi;obtain⟨os,Ly,Q2,Nq⟩:=id hs;have RU:s.TypeIs (.ref sl) "slice":=⟨os,Ly,Q2⟩;unfold getItem
 try with_reducible refine wpAny_holding ?_
 first|refine wpAny_bind (wpAny_pure ?_)|skip
 refine wpAny_bind (wpAny_sequenceKey ht.typeIs (by decide) ?_)
 refine wpAny_bind (wpAny_callSpecial?_slot (name:=Str.ofString "__getitem__") ht.typeIs PyProof.Rows.slot_tuple_getitem
  (wpAny_call_entry PyProof.Rows.slot_tuple_getitem ht.typeIs entry_tuple_getitem ?_ (args_tuple_getitem _ _)))
 show wpAny _ _ (Builtin.Tuple.tupleItemsOf (.ref t)>>=_) _ _ s;refine wpAny_bind (tupleItemsOf_ ht ?_);refine wpAny_bind (wpAny_typeOf RU ?_);rw[if_pos (by decide)];refine wpAny_bind (eV hs pl pu ?_)
 have Lz:¬((((eh items.size 0 lo:Nat):Int)==0&&(1:Int)==1&&(eh items.size items.size hi-eh items.size 0 lo)==items.size)=true):=by
  intro q;rw[Bool.and_eq_true,Bool.and_eq_true] at q;have q1:((eh items.size 0 lo:Nat):Int)=0:=eq_of_beq q.1.1;have q2:eh items.size items.size hi-eh items.size 0 lo=items.size:=eq_of_beq q.2;exact hw ⟨by omega,by omega⟩
 show wpAny _ _ (if(((eh items.size 0 lo:Nat):Int)==0&&(1:Int)==1&&(eh items.size items.size hi-eh items.size 0 lo)==items.size)=true then _ else _) _ _ s;rw[if_neg Lz,yb]
 first
  |exact wpAny_bind (m:=Builtin.Tuple.tupleExact _) (wpAny_newObj_type (wpAny_pure ⟨_,rfl,wpAny_pure h⟩) IS)
  |exact wpAny_bind (m:=Builtin.Tuple.tupleExact _) (wpAny_newObj_type (wpAny_bind (wpAny_pure (wpAny_pure ⟨_,rfl,wpAny_pure h⟩))) IS)
  |exact wpAny_bind (wpAny_bind (m:=Builtin.Tuple.tupleExact _) (wpAny_newObj_type (wpAny_pure (wpAny_pure ⟨_,rfl,wpAny_pure h⟩)) IS))
  |exact wpAny_bind (wpAny_bind (m:=Builtin.Tuple.tupleExact _) (wpAny_newObj_type (wpAny_pure ⟨_,rfl,wpAny_pure h⟩) IS))
end
end HT
namespace L2
open PySem PySem.Spec PyProof.Rows
abbrev TO:=St->Hp->(Option Int->Hp->Prop)->Prop
def PO (X:Cx)(e:Option Expr)(t:TO):Prop :=
 ∀(pins:List (Addr×Obj))(s:GB)(σ:St)(H:Hp)(Q:Option Int->Hp->Prop),Inv X pins σ H s->t σ H Q →
  wpAny (model X.prog X.w) X.A (evalPart e X.env) (λu s'=>∃o H',Inv X pins σ H' s'/\IsPart u o/\Q o H') X.xe s
def abC:TO:=λ_ H Q=>Q none H
def C5 (t:TE):TO:=λσ H Q=>t σ H λx H1=>∃i,x=.int i/\Q (some i) H1
theorem jY {ns:List Int}:∀{us:nv},aL (ns.map V.int) us->IntsAre us ns:=by
 induction ns with
 |nil=>intro us r;rw[List.map_nil] at r;cases r;exact .nil
 |cons n ns ih =>
  intro us r;rw[List.map_cons] at r
  cases r with
  |cons r1 r2 =>
   obtain⟨t,e⟩:=r1;subst e;exact .cons n t (ih r2)
variable {xs:List V}
section
variable {X:Cx}{e:Expr}{te:TE}{lo hi:Option Expr}{tl th:TO}{pos p2:Pos}
theorem yX:PO X none abC:=by
 intro pins s σ H Q I h;rw[evalPart_none];exact wpAny_pure ⟨none,H,I,.none,h⟩
theorem rE (h:PE X e te):PO X (some e) (C5 te):=by
 intro pins s σ H Q I hw;rw[evalPart_some];refine bA (h pins s σ H _ I hw) λu s1 z'=>?_;obtain⟨x,H1,I1,r1,q1⟩:=z';obtain⟨i,rfl,q⟩:=q1;obtain⟨t,rfl⟩:=r1;exact⟨some i,H1,I1,.int i t,q⟩
def EN (X:Cx)(r:V->Option Int->Option Int->Hp->VK->Prop):Prop :=
 ∀(pins:List (Addr×Obj))(s:GB)(σ:St)(H:Hp)(x:V)(v vl vu:Value)(lo hi:Option Int)(sl:Addr)(Q:VK),Inv X pins σ H s->aE x v->s.heap.IsSliceOf sl vl vu .none->IsPart vl lo->IsPart vu hi->r x lo hi H Q →
  ∃T id,typeLookup (.type T) "__getitem__"=pure (some (.builtin id))/\s.TypeIs v T/\wpAny (model X.prog X.w) X.A (getItem v (.ref sl)) (EP X pins σ Q) X.xe s
def Gv (r:V->Option Int->Option Int->Hp->VK->Prop)(te:TE)(tl th:TO):TE:=λσ H Q=>te σ H λx H1=>tl σ H1 λl H2=>th σ H2 λu H3=>r x l u H3 Q
theorem wI {r:V->Option Int->Option Int->Hp->VK->Prop}(hr:EN X r)(he:PE X e te)(hl:PO X lo tl)(hu:PO X hi th):PE X (.Subscript e (.Slice lo hi none p2) pos) (Gv r te tl th):=by
 intro pins s σ H Q I h;refine Subscript_ (bA (he pins s σ H _ I h) λv s1 z'=>?_);obtain⟨x,H1,I1,r1,q1⟩:=z';refine wpAny_Slice (bA (hl pins s1 σ H1 _ I1 q1) λvl s2 ⟨l,H2,I2,pl,q2⟩=>bA (hu pins s2 σ H2 _ I2 q2) λvu s3 z'=>?_);obtain⟨u,H3,I3,pu,q3⟩:=z';rw[evalPart_none];refine wpAny_pure ?_;have I4:Inv X pins σ H3 {s3 with heap:=s3.heap.push {cls:=.type "slice",data:=.fields #[vl,vu,.none]} }:=I3.kept (t':=s3.toks) λb ob q=>Heap.get?_push_of_some _ q;obtain⟨T,id,hT,ht,hg⟩:=hr pins {s3 with heap:=s3.heap.push {cls:=.type "slice",data:=.fields #[vl,vu,.none]} } σ H3 x v vl vu l u s3.heap.objs.size Q I4 r1 (Heap.IsSliceOf.new ..) pl pu q3;show wpAny (model X.prog X.w) X.A (subscriptTail e (.Slice lo hi none p2) v (.ref s3.heap.objs.size)) (EP X pins σ Q) X.xe {s3 with heap:=s3.heap.push {cls:=.type "slice",data:=.fields #[vl,vu,.none]} };exact tail_any (ops:=[.ref s3.heap.objs.size,v]) ht hT hg (by with_unfolding_all rfl)
def ni (xs:List V)(lo hi:Option Int):List V:=(xs.drop (HT.eh xs.length 0 lo)).take (HT.eh xs.length xs.length hi-HT.eh xs.length 0 lo)
theorem pO (xs:List V)(lo hi:Option Int):(ni xs lo hi).length<=xs.length:=by
 unfold ni;rw[List.length_take,List.length_drop];omega
def Fy (K:PySem.W.Frag):V->Option Int->Option Int->Hp->VK->Prop:=λx lo hi H Q=>∃a xs,x=.ref a/\bo K H a xs /\
 ¬(HT.eh xs.length 0 lo=0/\HT.eh xs.length xs.length hi=xs.length)/\∀p,H p=none->Q (.ref p) (upd H p (.tup (ni xs lo hi)))
theorem BK:EN X (Fy X.K):=by
 intro pins s σ H x v vl vu lo hi sl Q I rx hs pl pu h;obtain⟨a,xs,rfl,hx,hw,q⟩:=h
 cases rx
 obtain⟨its,r,ht,hz⟩:=I.tuple hx
 have hlen:its.toArray.size=xs.length:=by rw[List.size_toArray];exact r.length.symm
 refine⟨"tuple",_,PyProof.Rows.slot_tuple_getitem.lookup,ht.typeIs,?_⟩;refine HT.ia ht hs pl pu (by rw[hlen];exact hw) ?_ (by rw[hlen];exact hz);rw[hlen];refine⟨.ref s.heap.objs.size,_,I.laid (t':=s.toks) (o:=.tup (ni xs lo hi)) (λb ob q=>Heap.get?_push_of_some _ q) (Nat.le_refl _) ?_,rfl,q _ (I.hok.fresh (Nat.le_refl _))⟩;exact⟨Nat.le_trans (pO xs lo hi) hz,_,(r.drop (HT.eh xs.length 0 lo)).take (HT.eh xs.length xs.length hi-HT.eh xs.length 0 lo),IsTup.new _ _⟩
def Ex (K:PySem.W.Frag):R2:=λx y H Q=>∃a b xs ys,x=.ref a/\y=.ref b/\bo K H a xs/\bo K H b ys/\xs≠[]/\xs.length+ys.length<=sizeLine /\
 (ys=[]->Q (.ref a) H)/\(ys≠[]->∀p,H p=none->Q (.ref p) (upd H p (.tup (xs++ys))))
theorem aL.aaO {us:nv}(r:aL xs us):us=[]↔xs=[]:=by
 cases r with
 |nil=>simp
 |cons _ _=>simp
theorem yM:dC X (binaryOp .Add) (Ex X.K):=by
 intro pins s σ H x y v u Q I rx ry h;obtain⟨a,b,xs,ys,rfl,rfl,ha,hb,hx,hz,q1,q2⟩:=h
 cases rx
 cases ry
 obtain⟨its,r1,p1,_⟩:=I.tuple ha;obtain⟨GP,r2,p2,_⟩:=I.tuple hb;refine HT.acU p1 p2 (λz=>hx (r1.aaO.mp z)) (λz=>⟨.ref a,H,I,rfl,q1 (r2.aaO.mp z)⟩) (λz=>?_) (by rw[<-r1.length,<-r2.length];exact hz);refine⟨.ref s.heap.objs.size,_,I.laid (t':=s.toks) (o:=.tup (xs++ys)) (λb ob q=>Heap.get?_push_of_some _ q) (Nat.le_refl _) ?_,rfl,q2 (λw=>z (r2.aaO.mpr w)) _ (I.hok.fresh (Nat.le_refl _))⟩;exact⟨by rw[List.length_append];exact hz,_,r1.append r2,IsTup.new _ _⟩
end
def yo (n:Nat)(i:Int):Option Nat:=if 0<=i then(if i<n then some i.toNat else none) else if -(n:Int)<=i then some (i+n).toNat else none
def qx {α:Type}(xs:List α)(i:Int):Option α:=(yo xs.length i).bind λj=>xs[j]?
variable {n:Nat}
theorem tN {i:Int}{j:Nat}(h:yo n i=some j):seqIndex? i n=some j/\j<n/\-(n:Int)<=i/\i<n:=by
 unfold yo at h
 by_cases h0:0<=i
 ·rw[if_pos h0] at h
  by_cases h1:i<n
  ·rw[if_pos h1] at h;have e:i.toNat=j:=Option.some.inj h;exact⟨by rw[seqIndex_of h0 h1,e],by omega,by omega,h1⟩
  ·rw[if_neg h1] at h;cases h
 ·rw[if_neg h0] at h
  by_cases h1:-(n:Int)<=i
  ·rw[if_pos h1] at h;have e:(i+n).toNat=j:=Option.some.inj h;exact⟨by rw[seqIndex_neg (by omega) h1,e],by omega,h1,by omega⟩
  ·rw[if_neg h1] at h;cases h
theorem sQ {α:Type}{xs:List α}{i:Int}{v:α}(h:qx xs i=some v):∃j,seqIndex? i xs.length=some j/\xs[j]?=some v/\j<xs.length/\-(xs.length:Int)<=i/\i<xs.length:=by
 unfold qx at h
 cases e:yo xs.length i with
 |none=>rw[e] at h;cases h
 |some j =>
  rw[e] at h;obtain⟨h1,h2,h3,h4⟩:=tN e;exact⟨j,h1,h,h2,h3,h4⟩
theorem si {α:Type}{xs:List α}{j:Nat}{v:α}(h:xs[j]?=some v):qx xs (j:Int)=some v:=by
 have hj:j<xs.length:=(List.getElem?_eq_some_iff.mp h).1
 have e:yo xs.length (j:Int)=some j:=by
  unfold yo;rw[if_pos (by omega),if_pos (by omega)];simp
 unfold qx;rw[e];exact h
def zZ (b:Expr):Prop:=∀o i,subscripted b false o i=operate [o,i] (getItem o i)
def CC (X:Cx)(r:R2):Prop :=
 ∀(value slice:Expr)(pins:List (Addr×Obj))(s:GB)(σ:St)(H:Hp)(x y:V)(v u:Value)(Q:VK),Inv X pins σ H s->aE x v->aE y u->r x y H Q →
  subscripted slice false v u=operate [v,u] (getItem v u)->wpAny (model X.prog X.w) X.A (subscriptTail value slice v u) (EP X pins σ Q) X.xe s
def EL (X:Cx)(id:String)(r:V->List V->Hp->VK->Prop):Prop :=
 ∀(pins:List (Addr×Obj))(s:GB)(σ:St)(H:Hp)(x:V)(xs:List V)(v:Value)(us:nv)(Q:VK),Inv X pins σ H s->aE x v->aL xs us->r x xs H Q →
  wpAny (model X.prog X.w) X.A (call (.builtin id) (v::us)) (EP X pins σ Q) X.xe s
variable {pins:List (Addr×Obj)}{σ:St}{H:Hp}{s:GB}{its:nv}{x:V}
section
variable {X:Cx}{a b:Expr}{ta tb:TE}{pos:Pos}
theorem aZ {r:R2}(hr:CC X r)(ha:PE X a ta)(hb:PE X b tb)(hs:zZ b):PE X (.Subscript a b pos) (nG r ta tb):=by
 intro pins s σ H Q I h;exact Subscript_ (Cm ha hb I h λv u s2 x y H2 I2 rx ry q=>hr a b pins s2 σ H2 x y v u Q I2 rx ry q (hs _ _))
def Fz (K:PySem.W.Frag):R2:=λx y H Q=>∃p xs i v,x=.ref p/\y=.int i/\aN K H p xs/\qx xs i=some v/\Q v H
def zz (K:PySem.W.Frag):R2:=λx y H Q=>∃p xs i v,x=.ref p/\y=.int i/\bo K H p xs/\qx xs i=some v/\Q v H
theorem cz:CC X (Fz X.K):=by
 intro value slice pins s σ H x y v u Q I rx ry h hs;obtain⟨p,xs,i,z,rfl,rfl,hq,he,q⟩:=h
 cases rx
 obtain⟨t,rfl⟩:=ry;obtain⟨its,r,pl,hz⟩:=I.list hq;obtain⟨j,h1,h2,h3,h4,h5⟩:=sQ he;obtain⟨w,ew,Hv⟩:=r.get h2;have hl:=r.length;have hn:=kH;have fin:EP X pins σ Q w s:=⟨z,H,I,Hv,q⟩
 by_cases h0:0<=i
 ·have hj:i.toNat=j:=by
   rw[seqIndex_of h0 h5] at h1;exact Option.some.inj h1
  exact item_listR pl.isList h0 (by omega) (by rw[hj];simpa using ew) fin hs
 ·have hj:(i+(its.toArray.size:Int)).toNat=j:=by
   rw[seqIndex_neg (by omega) h4] at h1;rw[List.size_toArray,<-hl];exact Option.some.inj h1
  exact subscriptTail_builtinR (x:=w) pl.isList.typeIs slot_list_getitem.lookup
   (wpAny_getItem_list_neg (Q:=λr s'=>r=w/\EP X pins σ Q r s') pl.isList (by omega) (by rw[List.size_toArray] <;> omega) (by omega) (by rw[hj];simpa using ew) ⟨rfl,fin⟩) hs
theorem a9:CC X (zz X.K):=by
 intro value slice pins s σ H x y v u Q I rx ry h hs;obtain⟨p,xs,i,z,rfl,rfl,hq,he,q⟩:=h
 cases rx
 obtain⟨t,rfl⟩:=ry;obtain⟨its,r,pl,hz⟩:=I.tuple hq;obtain⟨j,h1,h2,h3,h4,h5⟩:=sQ he;obtain⟨w,ew,Hv⟩:=r.get h2;have hl:=r.length;have hn:=kH;have fin:EP X pins σ Q w s:=⟨z,H,I,Hv,q⟩
 exact subscriptTail_builtinR (x:=w) pl.typeIs slot_tuple_getitem.lookup
  (getItem_tuple (j:=j) (Q:=λr s'=>r=w/\EP X pins σ Q r s') pl (by omega) (by omega) (by rw[List.size_toArray,<-hl];exact h1) (by simpa using ew) ⟨rfl,fin⟩) hs
theorem q9 (its:nv)(n j:Nat)(u:Value):Obj.mapSeq (·.setIfInBounds j u) {cls:=.type "list",data:=.seq its.toArray n}={cls:=.type "list",data:=.seq (its.set j u).toArray n}:=by
 simp[Obj.mapSeq]
theorem Inv.lst {p:Addr}(I:Inv X pins σ H s)(h:H p=some (.lst xs)):
 ∃(its:nv)(n:Nat),aL xs its/\s.heap.get? p=some {cls:=.type "list",data:=.seq its.toArray n}/\xs.length<=sizeLine:=by
 obtain⟨z,its,n,r,e⟩:=I.hok p _ h;exact⟨its,n,r,e,z⟩
theorem Inv.abP {p:Addr}{ys:List V}{its':nv}{n':Nat}{f:Obj->Obj}(I:Inv X pins σ H s)(h:H p=some (.lst xs))
 (ho:s.heap.get? p=some {cls:=.type "list",data:=.seq its.toArray n})(hf:f {cls:=.type "list",data:=.seq its.toArray n}={cls:=.type "list",data:=.seq its'.toArray n'})(r:aL ys its')(hz:ys.length<=sizeLine)(t:Nat):
 Inv X pins σ (upd H p (.lst ys)) {s with heap:=s.heap.update p f,toks:=t}:=by
 have e:(s.heap.update p f).get? p=some {cls:=.type "list",data:=.seq its'.toArray n'}:=by
  rw[Heap.get?_update_self f ho (by rw[hf] <;> rfl),hf]
 refine I.write (x:=p) (e:=p) (by rw[h];trivial) (.inl rfl) (λb u hb q=>(Heap.get?_update_other _ _ (Ne.symm hb)).trans q) ⟨_,e⟩ ?_;exact⟨hz,its',n',r,e⟩
def acK:V->V->V->Hp->(Hp->Prop)->Prop:=λo i v H Q=>∃p xs k j,o=.ref p/\i=.int k/\H p=some (.lst xs)/\yo xs.length k=some j/\Q (upd H p (.lst (xs.set j v)))
theorem pQ:De X acK:=by
 intro pins s σ H o i v ov iv u Q I ro ri rv h;obtain⟨p,xs,k,j,rfl,rfl,hp,hj,q⟩:=h
 cases ro
 obtain⟨t,rfl⟩:=ri;obtain⟨its,n,r,ho,hz⟩:=I.lst hp;obtain⟨h1,h2,h3,h4⟩:=tN hj;have hl:=r.length;have hn:=kH
 have I':Inv X pins σ (upd H p (.lst (xs.set j v))) {s with heap:=s.heap.update p (Obj.mapSeq (·.setIfInBounds j u))}:=
  I.abP hp ho (q9 its n j u) (r.set rv j) (by rw[List.length_set];exact hz) s.toks
 by_cases h0:0<=k
 ·have hk:k.toNat=j:=by
   rw[seqIndex_of h0 h4] at h1;exact Option.some.inj h1
  exact PySem.W.ki_setAt ho h0 (by omega) (by rw[List.size_toArray,<-hl];exact h4) (by rw[hk];exact⟨_,I',q⟩)
 ·have hk:(k+(its.toArray.size:Int)).toNat=j:=by
   rw[seqIndex_neg (by omega) h3] at h1;rw[List.size_toArray,<-hl];exact Option.some.inj h1
  exact PySem.W.ki_setBack ho (by omega) (by rw[List.size_toArray,<-hl];exact h3) (by omega) (by rw[hk];exact⟨_,I',q⟩)
def iJ:V->Bool
 | .non=>true
 | .bl _=>true
 | .int _=>true
 | .str _=>true
 |_=>false
def zr:V->V->Bool
 | .non,.non=>true
 | .bl a,.bl b=>a==b
 | .bl a,.int b=>(if a then 1 else 0)==b
 | .int a,.bl b=>a==(if b then 1 else 0)
 | .int a,.int b=>a==b
 | .str a,.str b=>a==b
 |_,_=>false
theorem A3 {A:Around}{y:V}{u v:Value}(ry:aE y u)(rx:aE x v)(fy:iJ y=true)(fx:iJ x=true):SeqAt.EqAt A s u v (zr y x):=by
 cases y with
 |non =>
  cases ry
  cases x with
  |non=>cases rx;exact SeqAt.EqAt.same _
  |bl b=>cases rx;exact SeqAt.EqAt.none_bool b
  |int b=>obtain⟨t,rfl⟩:=rx;exact SeqAt.EqAt.none_int b t
  |str b=>obtain⟨t,rfl⟩:=rx;exact SeqAt.EqAt.none_str b t
  |_=>exact absurd (show false=true from fx) Bool.false_ne_true
 |bl a =>
  cases ry
  cases x with
  |non=>cases rx;exact SeqAt.EqAt.bool_none a
  |bl b=>cases rx;exact SeqAt.EqAt.bool_bool a b
  |int b=>obtain⟨t,rfl⟩:=rx;exact SeqAt.EqAt.bool_int a b t
  |str b=>obtain⟨t,rfl⟩:=rx;exact SeqAt.EqAt.bool_str a b t
  |_=>exact absurd (show false=true from fx) Bool.false_ne_true
 |int a =>
  obtain⟨t',rfl⟩:=ry
  cases x with
  |non=>cases rx;exact SeqAt.EqAt.int_none a t'
  |bl b=>cases rx;exact SeqAt.EqAt.int_bool a t' b
  |int b=>obtain⟨t,rfl⟩:=rx;exact SeqAt.EqAt.int_int a t' b t
  |str b=>obtain⟨t,rfl⟩:=rx;exact SeqAt.EqAt.int_str a t' b t
  |_=>exact absurd (show false=true from fx) Bool.false_ne_true
 |str a =>
  obtain⟨t',rfl⟩:=ry
  cases x with
  |non=>cases rx;exact SeqAt.EqAt.str_none a t'
  |bl b=>cases rx;exact SeqAt.EqAt.str_bool a t' b
  |int b=>obtain⟨t,rfl⟩:=rx;exact SeqAt.EqAt.str_int a t' b t
  |str b=>obtain⟨t,rfl⟩:=rx;exact SeqAt.EqAt.str_str a t' b t
  |_=>exact absurd (show false=true from fx) Bool.false_ne_true
 |_=>exact absurd (show false=true from fy) Bool.false_ne_true
def qI (x:V)(u:Value):Bool:=match u with
 | .none=>zr .non x
 | .bool b=>zr (.bl b) x
 | .int i _=>zr (.int i) x
 | .str z _=>zr (.str z) x
 |_=>false
theorem wq {y:V}{u:Value}(r:aE y u)(f:iJ y=true):qI x u=zr y x:=by
 cases y with
 |non=>cases r;rfl
 |bl b=>cases r;rfl
 |int i=>obtain⟨t,rfl⟩:=r;rfl
 |str z=>obtain⟨t,rfl⟩:=r;rfl
 |_=>exact absurd (show false=true from f) Bool.false_ne_true
theorem iH :∀{xs:List V}{us:nv},aL xs us->xs.all iJ=true->us.any (qI x)=xs.any λy=>zr y x
 |_,_,.nil,_=>rfl
 |y::xs,u::us,.cons r t,f=>by
  rw[List.all_cons,Bool.and_eq_true] at f;rw[List.any_cons,List.any_cons,wq r f.1,iH t f.2]
theorem gk {A:Around}{v:Value}(rx:aE x v)(fx:iJ x=true):∀{xs:List V}{us:nv},aL xs us->xs.all iJ=true->∀u∈us,SeqAt.EqAt A s u v (qI x u)
 |_,_,.nil,_=>λu hu=>by cases hu
 |y::xs,u::us,.cons r t,f=>λu' hu=>by
  rw[List.all_cons,Bool.and_eq_true] at f
  rcases List.mem_cons.mp hu with rfl|hu
  ·rw[wq r f.1];exact A3 r rx f.1 fx
  ·exact gk rx fx t f.2 u' hu
def iK (x:V)(xs:List V):Bool:=xs.any λy=>zr y x
def Ah (K:PySem.W.Frag)(neg:Bool):R2:=λx y H Q=>∃p xs,y=.ref p/\(aN K H p xs\/bo K H p xs)/\iJ x=true/\xs.all iJ=true/\Q (.bl (if neg then !iK x xs else iK x xs)) H
theorem eJ:dC X (compareOp .In) (Ah X.K false):=by
 intro pins s σ H x y v u Q I rx ry h;obtain⟨p,xs,rfl,hq,fx,fs,q⟩:=h
 cases ry
 rcases hq with hq|hq
 ·obtain⟨its,r,pl,hz⟩:=I.list hq;refine SeqAt.in_listAt (qI x) pl.isList (λw hw=>gk rx fx r fs w (by simpa using hw)) ⟨.bl _,H,I,rfl,?_⟩;rw[show its.toArray.any (qI x)=its.any (qI x) by simp,iH r fs];exact q
 ·obtain⟨its,r,pl,hz⟩:=I.tuple hq;refine SeqAt.in_tupleAt (qI x) pl (λw hw=>gk rx fx r fs w (by simpa using hw)) ⟨.bl _,H,I,rfl,?_⟩;rw[show its.toArray.any (qI x)=its.any (qI x) by simp,iH r fs];exact q
theorem iy:dC X (compareOp .NotIn) (Ah X.K true):=by
 intro pins s σ H x y v u Q I rx ry h;obtain⟨p,xs,rfl,hq,fx,fs,q⟩:=h
 cases ry
 rcases hq with hq|hq
 ·obtain⟨its,r,pl,hz⟩:=I.list hq;refine SeqAt.notIn_listAt (qI x) pl.isList (λw hw=>gk rx fx r fs w (by simpa using hw)) ⟨.bl _,H,I,rfl,?_⟩;rw[show its.toArray.any (qI x)=its.any (qI x) by simp,iH r fs];exact q
 ·obtain⟨its,r,pl,hz⟩:=I.tuple hq;refine SeqAt.notIn_tupleAt (qI x) pl (λw hw=>gk rx fx r fs w (by simpa using hw)) ⟨.bl _,H,I,rfl,?_⟩;rw[show its.toArray.any (qI x)=its.any (qI x) by simp,iH r fs];exact q
theorem aJ:eX X (.builtin "len") (λxs H Q=>∃p ys,xs=[.ref p]/\(aN X.K H p ys\/bo X.K H p ys)/\Q (.int ys.length) H):=by
 intro pins s σ H xs us Q I r h;obtain⟨p,ys,rfl,hq,q⟩:=h;obtain⟨u,rfl,rx⟩:=eK r
 cases rx
 have hn:=kH
 rcases hq with hq|hq
 ·obtain⟨its,r',pl,hz⟩:=I.list hq;have hlen:=r'.length;exact Calls.call_len_list pl.isList (by simp only[List.size_toArray] <;> omega) ⟨.int ys.length,H,I.tok _,⟨s.toks+1,by rw[List.size_toArray,hlen]⟩,q⟩
 ·obtain⟨its,r',pl,hz⟩:=I.tuple hq;have hlen:=r'.length;exact len_tuple pl (by simp only[List.size_toArray] <;> omega) ⟨.int ys.length,H,I.tok _,⟨s.toks+1,by rw[List.size_toArray,hlen]⟩,q⟩
theorem cA:eX X (.type "list") (λxs H Q=>∃p ys,xs=[.ref p]/\(aN X.K H p ys\/bo X.K H p ys)/\∀l,H l=none->Q (.ref l) (upd H l (.lst ys))):=by
 intro pins s σ H xs us Q I r h;obtain⟨p,ys,rfl,hq,q⟩:=h;obtain⟨u,rfl,rx⟩:=eK r
 cases rx
 have fin:∀(its:nv),aL ys its->ys.length<=sizeLine->∀(h':Heap)(c':Nat),(∀b o',s.heap.get? b=some o'->h'.get? b=some o') →
  h'.get? s.heap.objs.size=some {cls:=.type "list",dict:=none,data:=.seq its.toArray c',slots:=#[]}->EP X pins σ Q (.ref s.heap.objs.size) {s with heap:=h'}:=λits r' hz h' c' kp e =>
  ⟨.ref s.heap.objs.size,_,I.laid (t':=s.toks) kp (Nat.le_refl _) (show bt X.prog X.w _ h' _ (.lst ys) from⟨hz,its,c',r',e⟩),rfl,q _ (I.hok.fresh (Nat.le_refl _))⟩
 rcases hq with hq|hq
 ·obtain⟨its,r',pl,hz⟩:=I.list hq;have hlen:=r'.length;obtain⟨o,ho,hc,n,hd⟩:=pl.isList;exact call_list_seq p (.inl rfl) ho hc hd (λh' c' kp e=>fin its r' hz h' c' kp e) (by simp only[List.size_toArray] <;> omega)
 ·obtain⟨its,r',pl,hz⟩:=I.tuple hq;have hlen:=r'.length;obtain⟨o,ho,hc,n,hd⟩:=pl;exact call_list_seq p (.inr rfl) ho hc hd (λh' c' kp e=>fin its r' hz h' c' kp e) (by simp only[List.size_toArray] <;> omega)
theorem lA:eX X (.type "tuple") (λxs H Q=>∃p ys,xs=[.ref p]/\((aN X.K H p ys/\∀l,H l=none->Q (.ref l) (upd H l (.tup ys)))\/(bo X.K H p ys/\Q (.ref p) H))):=by
 intro pins s σ H xs us Q I r h;obtain⟨p,ys,rfl,h⟩:=h;obtain⟨u,rfl,rx⟩:=eK r
 cases rx
 rcases h with⟨hq,q⟩|⟨hq,q⟩
 ·obtain⟨its,r',pl,hz⟩:=I.list hq;have hlen:=r'.length;refine call_tuple_list pl.isList (λh' kp=>?_) (by simp only[List.size_toArray] <;> omega);have I1:Inv X pins σ H {s with heap:=h'}:=I.kept (t':=s.toks) kp
  have I2:Inv X pins σ (upd H h'.objs.size (.tup ys)) {s with heap:=h'.push {cls:=.type "tuple",data:=.seq its.toArray} }:=
   I1.laid (t':=s.toks) (λb o e=>Heap.get?_push_of_some _ e) (Nat.le_refl _) (show bt X.prog X.w _ _ _ (.tup ys) from⟨hz,its,r',IsTup.new _ _⟩)
  exact⟨.ref h'.objs.size,_,I2,rfl,q _ (I1.hok.fresh (Nat.le_refl _))⟩
 ·obtain⟨its,r',pl,hz⟩:=I.tuple hq;exact call_tuple_same pl ⟨.ref p,H,I,rfl,q⟩
def E1 (K:PySem.W.Frag)(T:String)(x:V)(H:Hp):Prop:=match x with
 | .str _=>T="str"
 | .int _=>T="int"
 | .ref p=>(T="list"/\∃xs,aN K H p xs)\/(T="tuple"/\∃o,K.lookup p=some o/\o.cls=.type "tuple"/\o.dict=none) \/
  (T="dict"/\((∃GH,H p=some (.dK GH))\/∃GH,H p=some (.dT GH)))\/(T="set"/\∃S n,H p=some (.set S n))
 |_=>False
theorem we {T:String}{v:Value}(I:Inv X pins σ H s)(r:aE x v)(ty:E1 X.K T x H):
 s.TypeIs v T/\∀a,v=.ref a->∃ob,s.heap.get? a=some ob/\ob.dict=none:=by
 cases x with
 |str z =>
  obtain⟨t,rfl⟩:=r
  cases(show T="str" from ty)
  exact⟨typeIs_str s z t,λ_ e=>nomatch e⟩
 |int i =>
  obtain⟨t,rfl⟩:=r
  cases(show T="int" from ty)
  exact⟨typeIs_int s i t,λ_ e=>nomatch e⟩
 |ref p =>
  cases r
  rcases ty with⟨rfl,xs,hq⟩|⟨rfl,o,hk,hc,hd⟩|⟨rfl,hk⟩|⟨rfl,S,n,hk⟩
  ·obtain⟨its,_,pl,_⟩:=I.list hq;refine⟨pl.isList.typeIs,λa e=>?_⟩
   cases e
   obtain⟨o,n,e,c,hd,_⟩:=pl;exact⟨o,e,hd⟩
  ·refine⟨⟨o,I.kIn p o hk,hc⟩,λa e=>?_⟩
   cases e
   exact⟨o,I.kIn _ o hk,hd⟩
  ·have z:∃o,s.heap.get? p=some o/\o.ExactDict:=by
    rcases hk with⟨GH,hk⟩|⟨GH,hk⟩
    ·obtain⟨_,_,_,_,o,_,_,e,ex,_⟩:=I.hok p _ hk;exact⟨o,e,ex⟩
    ·obtain⟨_,_,_,_,o,_,_,e,ex,_⟩:=I.hok p _ hk;exact⟨o,e,ex⟩
   obtain⟨o,e,ex⟩:=z;refine⟨⟨o,e,ex.1⟩,λa e2=>?_⟩
   cases e2
   exact⟨o,e,ex.2.1⟩
  ·obtain⟨o,_,_,_,e,ex,_⟩:=I.hok p _ hk;refine⟨⟨o,e,ex.1⟩,λa e2=>?_⟩
   cases e2
   exact⟨o,e,ex.2.1⟩
 |_=>exact False.elim ty
def F0 (K:PySem.W.Frag)(T:String)(r:V->List V->Hp->VK->Prop)(to:TE):TE:=λσ H Q=>to σ H λx H1=>E1 K T x H1/\r x [] H1 Q
def GF (K:PySem.W.Frag)(T:String)(r:V->List V->Hp->VK->Prop)(to:TE)(t:TA):TE:=λσ H Q=>to σ H λx H1=>E1 K T x H1/\t σ H1 λxs H2=>r x xs H2 Q
variable {o e:Expr}{es:Bj}{to:TE}{t:TA}{name:Str}{apos GY:Pos}{T id:String}{r:V->List V->Hp->VK->Prop}
theorem Bu (pa:PlainAttrs T)(slot:Slot T name id)(RV:typeOf (.builtin id)=pure (.type "method_descriptor"))(hm:EL X id r)(ho:PE X o to)
 (HX:attributeBase o name X.env (eval o X.env)=eval o X.env:=by rfl)(HY:(apos.endLine==GY.line)=true:=by rfl):PE X (.Call (.Attribute o name apos) [] [] GY) (F0 X.K T r to):=by
 intro pins s σ H Q I h;refine wpAny_Call_method0_late HX HY (bA (ho pins s σ H _ I h) λv s1 z'=>?_);obtain⟨x,H1,I1,r1,ty,q1⟩:=z';obtain⟨h1,h2⟩:=we I1 r1 ty;exact⟨T,id,pa,slot,RV,h1,h2,Calls.callWith_builtin rfl (PySem.evalArgs_none (hm pins s1 σ H1 x [] v [] Q I1 r1 .nil q1))⟩
theorem wV (pa:PlainAttrs T)(slot:Slot T name id)(RV:typeOf (.builtin id)=pure (.type "method_descriptor"))(hm:EL X id r)(ho:PE X o to)(ha:PA X (e::es) t)
 (HX:attributeBase o name X.env (eval o X.env)=eval o X.env:=by rfl)
 (RW:((backTo GY (starEach (e::es) X.env)).all (λx=>!x.1)&&(backToKw GY (keywordEach [] X.env)).all (λx=>x.1.isSome)
  && decide ((e::es).length+([]:List Keyword).length+(if([]:List Keyword).isEmpty then 0 else 1)<30))=true:=by rfl)
 (HY:(apos.endLine==GY.line)=true:=by rfl)(hs:starEach (e::es) X.env=(false,eval e X.env):: starEach es X.env:=by rfl)(LA:(backTo GY (starEach es X.env)).any (·.1)=false:=by rfl):
 PE X (.Call (.Attribute o name apos) (e::es) [] GY) (GF X.K T r to t):=by
 intro pins s σ H Q I h;refine wpAny_Call_method_late HX RW HY rfl (bA (ho pins s σ H _ I h) λv s1 z'=>?_);obtain⟨x,H1,I1,r1,ty,q1⟩:=z';obtain⟨h1,h2⟩:=we I1 r1 ty;refine⟨T,id,pa,slot,RV,h1,h2,?_⟩;have hA:=ha GY pins s1 σ H1 _ I1 q1;rw[hs] at hA |-;refine Calls.callWith_builtin (by show(false || (backTo GY (starEach es X.env)).any (·.1))=false;rw[LA] <;> rfl) (Calls.evalArgs_plain ?_);exact bA hA λus s2 ⟨vs,H2,I2,r2,q2⟩=>hm pins s2 σ H2 x vs v us Q I2 r1 r2 q2
/- xs.append(e),list.index on a Nr tuple .. are EL facts of 06m -/
end
def F7 (X:Cx)(id:String)(r:V->List V->Hp->VK->Prop):Prop :=
 ∀(pins:List (Addr×Obj))(s:GB)(σ:St)(H:Hp)(x:V)(xs:List V)(v:Value)(us:nv)(Q:VK),Inv X pins σ H s->aE x v->aL xs us->r x xs H Q →
  wpAny (model X.prog X.w) X.A (call (.builtin id) (v::us)) (EP X pins σ Q) X.xe s
theorem aL.one:∀{x:V}{us:nv},aL [x] us->∃u,us=[u]/\aE x u
 |_,_,.cons r .nil=>⟨_,rfl,r⟩
theorem aL.zero:∀{us:nv},aL [] us->us=[]
 |_,.nil=>rfl
theorem aL.rep {us:nv}(h:aL xs us):∀k:Nat,aL (List.replicate k xs).flatten (List.replicate k us).flatten
 |0=>.nil
 |k+1=>by
  rw[List.replicate_succ,List.replicate_succ,List.flatten_cons,List.flatten_cons];exact aL.append h (aL.rep h k)
theorem lR (its:nv):∀(k:Nat)(acc:nv),
 List.foldl (λx1 x2=>x1++x2) acc.toArray (List.replicate k its.toArray)=(acc++(List.replicate k its).flatten).toArray
 |0,acc=>by simp
 |k+1,acc=>by
  have e:acc.toArray++its.toArray=(acc++its).toArray:=by simp
  have e2:(acc++its)++(List.replicate k its).flatten=acc++(List.replicate (k+1) its).flatten:=by
   rw[List.replicate_succ,List.flatten_cons,List.append_assoc]
  rw[<-e2,<-lR its k (acc++its),<-e,List.replicate_succ,List.foldl_cons]
section
variable {X:Cx}{pins:List (Addr×Obj)}{σ:St}{H:Hp}{s:GB}{l b:Addr}{xs ys zs:List V}
theorem Inv.acL {its':nv}{f:Array Value->Array Value}{t':Nat}(I:Inv X pins σ H s)(hH:H l=some (.lst xs))
 (e:s.heap.get? l=some {cls:=.type "list",data:=.seq its.toArray n})(hf:f its.toArray=its'.toArray)(hv:aL ys its')(hz:ys.length<=sizeLine):
 Inv X pins σ (upd H l (.lst ys)) {s with heap:=s.heap.update l (Obj.mapSeq f),toks:=t'}:=by
 have q:=PySem.IsL.update e f;rw[hf] at q;refine I.write (x:=l) (e:=l) (by rw[hH];exact trivial) (.inl rfl) (λb' u hb hu=>(Heap.get?_update_other s.heap (Obj.mapSeq f) (Ne.symm hb)).trans hu) ⟨_,q⟩ ?_;exact⟨hz,its',_,hv,q⟩
theorem Inv.acM {t':Nat}(I:Inv X pins σ H s)(hv:aL ys its)(hz:ys.length<=sizeLine):
 Inv X pins σ (upd H s.heap.objs.size (.lst ys)) {s with heap:=s.heap.push {cls:=.type "list",data:=.seq its.toArray},toks:=t'}:=
 I.laid (λ_ _ q=>Heap.get?_push_of_some _ q) (Nat.le_refl _) ⟨hz,its,0,hv,Heap.get?_push_size _ rfl⟩
theorem Inv.fresh (I:Inv X pins σ H s):H s.heap.objs.size=none:=I.hok.fresh (Nat.le_refl _)
theorem Inv.abm (I:Inv X pins σ H s)(hH:H l=some (.lst xs)):xs.length<=sizeLine/\∃(its:nv)(n:Nat),aL xs its/\xs.length=its.length/\s.heap.get? l=some {cls:=.type "list",data:=.seq its.toArray n}:=by
 obtain⟨z,its,n,r,e⟩:=I.hok l _ hH;exact⟨z,its,n,r,r.length,e⟩
theorem xB (h:n<=sizeLine):Builtin.List.listTooLong n=false:=by
 unfold Builtin.List.listTooLong;exact decide_eq_false (by omega)
end
section
variable {X:Cx}
def abD:V->List V->Hp->VK->Prop:=λx vs H Q=>∃l xs y,x=.ref l/\vs=[y]/\H l=some (.lst xs)/\xs.length<sizeLine/\Q .non (upd H l (.lst (xs++[y])))
theorem i4:F7 X "list.append" abD:=by
 intro pins s σ H x vs v us Q I rx rv h;obtain⟨l,xs,y,rfl,rfl,hH,hz,q⟩:=h
 cases rx
 obtain⟨u,rfl,ru⟩:=rv.one;obtain⟨z,its,n,r,hl,e⟩:=I.abm hH;refine call_meets F.slot_list_append ⟨_,e,rfl⟩ F.entry_list_append (F.args_list_append_2 _ _) (PySem.list_append l its.toArray n u (by rw[List.size_toArray];omega)) ⟨e,?_⟩;refine⟨.non,_,I.acL (its':=its++[u]) hH e (by simp) (r.append (.cons ru .nil)) ?_,rfl,q⟩;rw[List.length_append,List.length_singleton];omega
def abQ:V->List V->Hp->VK->Prop:=λx vs H Q=>∃l xs,x=.ref l/\vs=[]/\H l=some (.lst xs)/\Q .non (upd H l (.lst []))
theorem wA:F7 X "list.clear" abQ:=by
 intro pins s σ H x vs v us Q I rx rv h;obtain⟨l,xs,rfl,rfl,hH,q⟩:=h
 cases rx
 have Q3:=rv.zero;subst Q3;obtain⟨z,its,n,r,hl,e⟩:=I.abm hH;refine call_meets F.slot_list_clear ⟨_,e,rfl⟩ F.entry_list_clear (F.args_list_clear_1 _) (AutoSeq1.list_clear_list_0 l its.toArray n (by rw[List.size_toArray];omega)) ⟨e,?_⟩;exact⟨.non,_,I.acL (its':=[]) (ys:=[]) hH e rfl .nil (Nat.zero_le _),rfl,q⟩
def ac2:R2:=λx y H Q=>∃l b xs zs,x=.ref l/\y=.ref b/\H l=some (.lst xs)/\H b=some (.lst zs)/\xs.length+zs.length<=sizeLine/\∀p,H p=none->Q (.ref p) (upd H p (.lst (xs++zs)))
theorem Bo:dC X (binaryOp .Add) ac2:=by
 intro pins s σ H x y v u Q I rx ry h;obtain⟨l,b,xs,zs,rfl,rfl,hH,hB,hz,q⟩:=h
 cases rx
 cases ry
 obtain⟨z,its,n,r,hl,e⟩:=I.abm hH;obtain⟨z2,GP,n2,r2,Hy,e2⟩:=I.abm hB;refine PySem.P.add_list e e2 ?_ (by rw[List.size_toArray,List.size_toArray];omega)
 have ea:its.toArray++GP.toArray=(its++GP).toArray:=by simp
 rw[ea];exact⟨.ref _,_,I.acM (t':=s.toks) (r.append r2) (by rw[List.length_append];omega),rfl,q _ I.fresh⟩
def ac3:R2:=λx y H Q=>∃l k xs,x=.ref l/\y=.int k/\H l=some (.lst xs)/\-(2^63)<=k/\k<2^63/\xs.length*k.toNat<=sizeLine /\
 ∀p,H p=none->Q (.ref p) (upd H p (.lst (List.replicate k.toNat xs).flatten))
theorem Ad {α:Type}(xs:List α)(k:Nat):(List.replicate k xs).flatten.length=k*xs.length:=by
 induction k with
 |zero=>simp
 |succ k ih=>rw[List.replicate_succ,List.flatten_cons,List.length_append,ih,Nat.succ_mul,Nat.add_comm]
theorem xH:dC X (binaryOp .Mult) ac3:=by
 intro pins s σ H x y v u Q I rx ry h;obtain⟨l,k,xs,rfl,rfl,hH,h1,h2,hz,q⟩:=h
 cases rx
 obtain⟨t,rfl⟩:=ry;obtain⟨z,its,n,r,hl,e⟩:=I.abm hH
 have hlen:its.toArray.size*k.toNat<=sizeLine:=by rw[List.size_toArray,<-hl];exact hz
 have RX:¬its.toArray.size*k.toNat>(2^63-1)/8:=by
  have:(sizeLine:Nat)<=(2^63-1)/8:=by decide
  omega
 have RY:¬(!Builtin.List.listFitsIndex k)=true:=by
  rw[fitsIndex_both h1 h2];exact Bool.false_ne_true
 have Nt:¬Builtin.List.listTooLong (its.toArray.size*k.toNat)=true:=by
  rw[xB hlen];exact Bool.false_ne_true
 have RZ:List.foldl (λx1 x2=>x1++x2) #[] (List.replicate (if its.toArray.isEmpty=true then 0 else k.toNat) its.toArray)=(List.replicate k.toNat its).flatten.toArray:=by
  have f0:∀m:Nat,List.foldl (λx1 x2=>x1++x2) #[] (List.replicate m its.toArray)=(List.replicate m its).flatten.toArray:=λm=>by
   have:=lR its m [];rw[List.nil_append] at this;exact this
  rw[f0]
  cases its with
  |nil=>simp
  |cons a r'=>rw[if_neg (by simp)]
 refine wpAny_binaryOp_repeat_ref (T:="list") (U:="int") (by decide) ⟨_,e,rfl⟩ (λs'=>typeIs_int s' k t) noFill_list_mul F.fills_int_mul F.slot_int_rmul repeat_list F.slot_int_index.lookup
  (call_meets F.slot_int_rmul (typeIs_int s k t) F.entry_int_rmul (F.args_int_rmul_2 _ _) (int___rmul___int_list k t l its.toArray n)
   ⟨e,rfl,⟨_,e,rfl⟩,call_meets F.slot_list_mul ⟨_,e,rfl⟩ F.entry_list_mul (F.args_list_mul_2 _ _) (AutoListH.list___mul___list_int_3 l its.toArray n k t RY RX Nt) ⟨e,?_⟩⟩)
 rw[RZ];exact⟨.ref _,_,I.acM (t':=s.toks) (r.rep k.toNat) (by rw[Ad,Nat.mul_comm];exact hz),rfl,q _ I.fresh⟩
end
end L2
namespace Wh
open PySem PySem.W PySem.Calls PyProof.Rows
theorem jC {P:Params}{h:Heap}:∀(ns:List Int)(vs:nv),WellAll P h vs (ns.map WData.int)->IntsAre vs ns:=by
 intro ns
 induction ns with
 |nil =>
  intro vs w;rw[List.map_nil] at w
  cases w
  exact .nil
 |cons n ns ih =>
  intro vs w;rw[List.map_cons] at w
  cases w with
  |cons a b =>
   cases a
   exact .cons _ _ (ih _ b)
theorem vf {l:OpenLaw}{n:Nat}(hn:l.most=some n){P:Params}{h:Heap}{args:List WData}{vals:nv}
 (Kk:l.row.toRowW.claim.pre args=true)(R0:WellAll P h vals args):
 ∃a vs ns,vals=[Value.ref a]/\args=[WData.list (ns.map WData.int)]/\h.get? a=some {cls:=.type "list",data:=.seq vs.toArray}/\IntsAre vs ns/\ns.length<=n:=by
 have YE:WShape.hasAll [] args [.list .int]=true:=(pre_splitW Kk).1;have hc:l.pre.holds [] {args:=args}=true:=(pre_splitW Kk).2;obtain⟨d,r,rfl,h1,h2⟩:=hasAllW_cons YE;obtain rfl:=hasAllW_nil h2;obtain⟨xs,rfl,h3⟩:=hasW_list h1;obtain⟨ns,rfl⟩:=items_int h3
 have hlen:ns.length<=n:=by
  unfold OpenLaw.pre at hc
  have h4:(WTm.not (.lt (.lit (.int (n:Int))) (.len (.arg 0)))).holds [] {args:=[.list (ns.map .int)]}=true:=by
   have h4:=(holds_andW hc).1;rw[hn] at h4;exact h4
  have h5:=condW_of h4 (w_not (w_lt w_lit (w_len_list (w_arg rfl))));rw[List.length_map] at h5;refine Nat.le_of_not_lt λq=>?_
  have q':(n:Int)<((ns.length:Nat):Int):=by omega
  first
   |(rw[decide_eq_true q'] at h5;exact absurd h5 (by decide))
   |(simp at h5;omega)
 cases R0 with
 |cons w1 w2 =>
  cases w2
  cases w1 with
  |list ho R7=>exact⟨_,_,ns,rfl,rfl,ho,jC ns _ R7,hlen⟩
theorem uH (l:OpenLaw)(args:List WData):l.row.toRowW.claim.post args (.bool true) args=true :=
 postW_of (r:=l.row.toRowW) (X:=(true==true))
  (show WShape.has [] (.bool true) .bool=true by first|rfl|decide|simp[WShape.has,WShape.arms,WShape.armsAll])
  (show(WTm.eq .res (.lit (.bool true))).value [] {args:=args,res:=some (.bool true),after:=args}=some (.bool (true==true)) from w_eq_bool (w_res rfl) w_lit) rfl
theorem oj {l:OpenLaw}{n:Nat}{q:vB}{loose:zF}{XP:(Str->Option Value)->Heap->Prop}{YP:World->Heap->Prop}{d:DefRec}
 (hn:l.most=some n)(Nu:d.params.defaults=[])
 (call:∀(w:World)(s₀ s₁:GB)(mg mb:vW)(fa:Addr)(o:Obj)(pm cd doc:Value)(a:Addr)(vs:nv)(ns:List Int),
  Ground q loose [] XP w s₀ mg mb s₁.heap->YP w s₁.heap →
  s₁.heap.get? fa=some o->o.data=.func (docDef d.name d.params d.body d.scope pm cd doc)->s₁.heap.CodeRec cd d.name->mg d.name=some (.ref fa) →
  s₁.heap.get? a=some {cls:=.type "list",data:=.seq vs.toArray}->IntsAre vs ns->ns.length<=n->s₁.gens = #[] →
  codeAny (model l.prog w) callerA (.call (.ref fa) ⟨[.ref a],[]⟩) (λr s'=>r=.ok (.ret (.bool true))/\OldK s₁.heap s'.heap/\s'.os=s₁.os/\AllBare s'.gens) s₁):
 WalkO q loose XP YP l.row.toRowW d [] (λf vs=>PySem.call f vs):=by
 intro w s₀ s₁ mg mb G Y fa o pm cd doc dV kV ho hd HM hD Sa hg args vals as Kk YF hrd R0 hlo;obtain rfl:dV=.none:=Dflts.none hD Nu;obtain rfl:kV=.none:=Dflts.noKw hD;obtain⟨a,vs,ns,rfl,rfl,LB,hints,hlen⟩:=vf hn Kk R0;refine enter_call (codeAny_mono (call w s₀ s₁ mg mb fa o pm cd doc a vs ns G Y ho (fd_plain hd) HM Sa LB hints hlen hg) λr s' hq=>?_);obtain⟨rfl,h2,h3,h4⟩:=hq;exact⟨.inl ⟨.bool true,.bool true,[],rfl,λ_=>rfl,.bool true,uH l _,λ_=>⟨List.Pairwise.nil,λ_ hm=>(nomatch hm)⟩⟩,h2,h3,h4⟩
end Wh
namespace L2
open PySem PySem.Spec PyProof.Rows
theorem lO:∀{vs:nv}{ns:List Int},IntsAre vs ns->aL (ns.map V.int) vs
 |_,_,.nil=>.nil
 |_,_,.cons n t h=>.cons ⟨t,rfl⟩ (lO h)
structure vM (K:PySem.W.Frag)(x qual:Str)(st:Stmt)(f:Addr)(fd:EK):Prop where
 ex:∃(oc:Value)(od:BY)(kV doc pm:Value)(an:BY)(GN ct:Value)(Hi:Ds),
  fd=PySem.W.fnOf x qual (cP st) (cc st) (ai st) .none kV doc pm an GN ct/\K.lookup f=some ⟨oc,od,.func fd,Hi⟩/\PySem.W.codeIn K GN qual=true
 kp:PySem.W.keepIn K (.ref f)=true
variable {x qual:Str}{st:Stmt}{f:Addr}{fd:EK}{ps:zF}
section
variable {P:vB}{w:World}{K:PySem.W.Frag}{mg:vW}{base:Heap}
theorem vM.binds (F:vM K x qual st f fd)
 (h:∀(kV doc pm:Value)(an:BY)(GN ct:Value)(us:nv),us.length=ps.length->bindArgs (PySem.W.fnOf x qual (cP st) (cc st) (ai st) .none kV doc pm an GN ct) ⟨us,[]⟩=pure (ps.zip us)):ay K fd ps []:=by
 obtain⟨oc,od,kV,doc,pm,an,GN,ct,Hi,rfl,lk,HM⟩:=F.ex;exact .all (h kV doc pm an GN ct)
theorem AQ {oc:Value}{od an:BY}{Hi:Ds}{kV doc pm GN ct:Value}(l:K.lookup f=some ⟨oc,od,.func (PySem.W.fnOf x qual (cP st) (cc st) (ai st) .none kV doc pm an GN ct),Hi⟩)
 (c:PySem.W.codeIn K GN qual=true)(k:PySem.W.keepIn K (.ref f)=true):vM K x qual st f (PySem.W.fnOf x qual (cP st) (cc st) (ai st) .none kV doc pm an GN ct):=⟨⟨oc,od,kV,doc,pm,an,GN,ct,Hi,rfl,l,c⟩,k⟩
end
section
variable {X:Cx}
theorem pv (i:Nat){pos:Pos}(hN:X.N[i]?=some x:=by rfl)(hv:Ef X.env.scope x:=by first|exact Or.inl rfl|exact Or.inr (Or.inl rfl)|exact Or.inr (Or.inr rfl))(hd:(x==("__debug__":Str))=false:=by decide)
 (HM:(x==("__classdict__":Str))=false:=by decide):PE X (.Name x pos) (d9 i):=Cls hN hv hd HM
end
theorem bx {A B:Prop}(h:B):if false=true then A else B:=by
 rw[if_neg Bool.false_ne_true];exact h
theorem b7 {A B:Prop}(h:A):if true=true then A else B:=by
 rw[if_pos rfl];exact h
theorem dD {c A B:Prop} [Decidable c](h1:c->A)(h2:¬c->B):if c then A else B:=by
 by_cases h:c
 ·rw[if_pos h];exact h1 h
 ·rw[if_neg h];exact h2 h
def aC (H H':Hp):Prop:=∀b o,H b=some o->H' b=some o
theorem aC.refl (H:Hp):aC H H:=λ_ _ h=>h
variable {H:Hp}
theorem aC.trans {H1 H2:Hp}(a:aC H H1)(b:aC H1 H2):aC H H2:=λc o h=>b c o (a c o h)
variable {P:vB}{w:World}{h:Heap}{a:Addr}
theorem dQ {o:HO}(x:fR P w H h)(hn:H a=none)(new:bt P w (upd H a o) h a o):fR P w (upd H a o) h:=λb u e=>by
 by_cases hb:b=a
 ·subst hb;rw[ae] at e;cases e;exact new
 ·rw[ar hb] at e
  exact(x b u e).aa1 (λc v _ q=>q) (λc q=>by rw[ar (au q hn)];exact q) λc xs q=>by rw[ar (au q hn)];exact q
variable {env:Env}
section
variable {prog:vB}{w:World}{A:Around}{R:Result->Shared->Prop}{s:GB}
theorem hU {elt target iter:Expr}{ifs:Bj}{scope:Scope}{pos:Pos}{it acc:Value}(I:Nat->Shared->Prop)
 (turn:∀n s,I n s->wpAny (model prog w) A (pyNext it) (λr s₁=>match r with
  |none=>R (.ok .next) s₁
  |some v=>wpAny (model prog w) A (letOwnedTupleGo target it v) (λ_ s₁=>wpAny (model prog w) A (assign target env v) (λ_ s₂ =>
   wpAny (model prog w) A (forIn ifs true λc r=>if r=true then do let ok <-isTrue c env (eval c env);pure (ForInStep.yield ok) else pure (ForInStep.yield r)) (λok s₃ =>
    if ok=true then wpAny (model prog w) A (eval elt env) (λx s₄ =>
     wpAny (model prog w) A (call (.builtin "list.append") [acc,x]) (λ_ s₅=>∃m,m<n/\I m s₅) (λ_ _=>False) s₄) (λ_ _=>False) s₃
    else ∃m,m<n/\I m s₃) (λ_ _=>False) s₂) (λ_ _=>False) s₁) (λ_ _=>False) s₁) (λ_ _=>False) s)
 (n:Nat)(h:I n s):
 codeAny (model prog w) A (.compLoop (.ListComp elt [⟨target,iter,ifs,0⟩] scope pos) 0 it acc env) R s:=by
 refine codeAny_loop rfl I (λn s hI=>?_) n h;show wpAny _ A ((compTurn (.ListComp elt [⟨target,iter,ifs,0⟩] scope pos) 0 it acc env).onRaise (λx=>do noteFrame x env;theTreesLotGoes x)) _ _ s;refine wpAny_noted ?_;rw[compTurn_list];refine wpAny_bind (wpAny_standAt (wpAny_bind (wpAny_mono (turn n s hI) (λr s₁ h₁=>?_) λ_ _ z=>False.elim z)))
 cases r with
 |none=>exact wpAny_pure h₁
 |some v =>
  refine wpAny_bind (wpAny_mono h₁ (λ_ Wi Nv=>?_) λ_ _ z=>False.elim z);refine wpAny_bind (wpAny_mono Nv (λ_ s₂ h₂=>wpAny_bind (wpAny_mono h₂ (λok s₃ h₃=>?_) λ_ _ z=>False.elim z)) λ_ _ z=>False.elim z)
  cases ok with
  |false=>exact wpAny_pure ⟨rfl,h₃⟩
  |true =>
   exact wpAny_bind (wpAny_bind (wpAny_mono h₃ (λx s₄ h₄=>wpAny_bind (wpAny_mono h₄ (λ_ s₅ h₅=>wpAny_pure (wpAny_pure ⟨rfl,h₅⟩)) λ_ _ z=>False.elim z)) λ_ _ z=>False.elim z))
end
def dh (names:List (Str×NameKind))(env:Env):List (Str×Addr):=((names.filter λx=>x.2 == .free).map λx=>(x.1,(env.cells.lookup x.1).getD 0)).reverse
theorem gQ {scope:Scope}(h:∀x∈scope.names,x.2=.free->∃c,env.cells.lookup x.1=some c):closureFor scope env=pure (dh scope.names env):=by
 have key:∀(names:List (Str×NameKind))(cs:List (Str×Addr)),(∀x∈names,x.2=.free->∃c,env.cells.lookup x.1=some c) →
  (forIn names cs (λ(x:Str×NameKind)(r:List (Str×Addr))=>if(x.2==NameKind.free)=true then(do let a <-cellOf env x.1;pure (ForInStep.yield ((x.1,a):: r))) else pure (ForInStep.yield r)):Sem (List (Str×Addr)))=pure (dh names env++cs):=by
  intro names
  induction names with
  |nil=>intro cs _;rfl
  |cons x r ih =>
   intro cs hn;rw[List.forIn_cons];obtain⟨n,k⟩:=x
   by_cases hk:k=.free
   ·subst hk;obtain⟨c,hc⟩:=hn (n,.free) List.mem_cons_self rfl
    have YG:cellOf env n=pure c:=by unfold cellOf;rw[hc]
    simp only[beq_self_eq_true,if_true,YG,pure_bind];rw[ih _ λy hy=>hn y (List.mem_cons_of_mem _ hy)];simp[dh,hc]
   ·have hb:(k==NameKind.free)=false:=by simpa using hk
    simp only[hb,Bool.false_eq_true,if_false,pure_bind];rw[ih _ λy hy=>hn y (List.mem_cons_of_mem _ hy)];simp[dh,hb]
 have z:=key scope.names [] h;rw[List.append_nil] at z;unfold closureFor
 first
  |exact z
  |(simp only[bind_pure];exact z)
  |(simp;exact z)
theorem eP {names:List (Str×NameKind)}(h:∀x∈names,x.2=.free->∃c,env.cells.lookup x.1=some c){c:Addr}(e:(dh names env).lookup x=some c):env.cells.lookup x=some c:=by
 have m:=PySem.mem_of_lookup e;unfold dh at m;rw[List.mem_reverse,List.mem_map] at m;obtain⟨y,hy,e'⟩:=m;rw[List.mem_filter] at hy;obtain⟨c',GV⟩:=h y hy.1 (by simpa using hy.2);rw[GV] at e'
 injection e' with e1 e2
 subst e1;rw[GV];exact congrArg some e2
theorem iC {names:List (Str×NameKind)}{env:Env}(hm:(x,NameKind.free)∈names):∃c,(dh names env).lookup x=some c:=by
 have m:∃c,(x,c)∈dh names env:=⟨(env.cells.lookup x).getD 0,by
  unfold dh;rw[List.mem_reverse,List.mem_map]
  exact⟨(x,.free),List.mem_filter.mpr ⟨hm,rfl⟩,rfl⟩⟩
 obtain⟨c,m⟩:=m
 cases q:(dh names env).lookup x with
 |some d=>exact⟨d,rfl⟩
 |none =>
  exfalso
  have:∀(l:List (Str×Addr)),(x,c)∈l->l.lookup x≠none:=by
   intro l
   induction l with
   |nil=>intro h;cases h
   |cons p r ih =>
    intro h;rw[List.lookup_cons]
    rcases List.mem_cons.mp h with h|h
    ·subst h;simp
    ·split
     ·simp
     ·exact ih h
  exact this _ m q
def bY (X:Cx)(N:zF)(scope:Scope)(C:Addr)(fp:List Addr)(s:GB)(H:Hp):Cx where
 prog:=X.prog
 w:=X.w
 K:=X.K
 mg:=X.mg
 base:=X.base
 A:=X.A
 N:=N
 s₀:=s
 H₀:=H
 env:=compEnvC scope (dh scope.names X.env) C X.env
 outer:=X.stack
 stack:=X.stack
 ex:=fp
 fn:=λ_=>false
 calm:=X.calm
 pn:=[]
 xe:=λ_ _=>False
def σC (nl:Nat)(js:List Nat)(σ:St):St:=List.replicate nl none++js.map λj=>(σ[j]?).join
structure uR (X:Cx)(N:zF)(nl:Nat)(js:List Nat)(osc scope:Scope):Prop where
 out:X.env.scope=osc
 kind:scope.kind=.function
 cell:∀y∈scope.names,y.2≠.cell
 names:∀y∈scope.names,y.2=.local->scope.names.lookup y.1=some .local
 free:∀y∈scope.names,y.2=.free->osc.names.lookup y.1=some .cell\/osc.names.lookup y.1=some .free
 len:N.length=nl+js.length
 src:Paired (λj x=>X.N[j]?=some x/\(x,NameKind.free)∈scope.names) js (N.drop nl)
 abR:∀y∈scope.names,y.2=.free->scope.names.lookup y.1≠some .local
theorem fJ {env:Env}:∀{names:List (Str×NameKind)}{x:Str}{k:NameKind},(∀y∈names,y.2≠.cell) →
 (names.map λ(n,k)=>if(k==NameKind.free&&env.scope.kind == .function&&env.kindOf n==some .cell) then(n,NameKind.cell) else(n,k)).lookup x=some k->(k=.cell\/k=.free)->(x,NameKind.free)∈names
 |[],_,_,_,h,_=>by simp at h
 |(n,k0):: r,x,k,hc,h,hk=>by
  have h:List.lookup x ((if(k0==NameKind.free&&env.scope.kind == .function&&env.kindOf n==some .cell)=true then(n,NameKind.cell) else(n,k0)):: r.map λ(n,k)=>if(k==NameKind.free&&env.scope.kind == .function&&env.kindOf n==some .cell) then(n,NameKind.cell) else(n,k))=some k:=h;have ih:=@fJ env r x k λy hy=>hc y (List.mem_cons_of_mem _ hy)
  by_cases hx:x=n
  ·subst hx
   have Nw:k0=.free:=by
    by_cases hb:(k0==NameKind.free&&env.scope.kind == .function&&env.kindOf x==some .cell)=true
    ·have:=(Bool.and_eq_true_iff.mp (Bool.and_eq_true_iff.mp hb).1).1;simpa using this
    ·rw[if_neg hb] at h;simp only[List.lookup_cons,beq_self_eq_true] at h;have e:k0=k:=Option.some.inj h
     rcases hk with z|z
     ·exact absurd (e.trans z) (hc (x,k0) List.mem_cons_self)
     ·exact e.trans z
   subst Nw;exact List.mem_cons_self
  ·have hb:(x==n)=false:=by simpa using hx
   refine List.mem_cons_of_mem _ (ih ?_ hk)
   by_cases GV:(k0==NameKind.free&&env.scope.kind == .function&&env.kindOf n==some .cell)=true
   ·rw[if_pos GV] at h;simp only[List.lookup_cons,hb] at h;exact h
   ·rw[if_neg GV] at h;simp only[List.lookup_cons,hb] at h;exact h
variable {pins:List (Addr×Obj)}{σ:St}{s:GB}{C:Addr}{g:TG}{tt:TT}{te:TE}
section
variable {X:Cx}{tg iter elt:Expr}{ifs:Bj}{scope osc:Scope}{pos:Pos}{N:zF}{nl:Nat}{js:List Nat}
def xp (X:Cx)(ifs:Bj)(t:TT):Prop :=
 ∀(pins:List (Addr×Obj))(s:GB)(σ:St)(H:Hp)(Q:Bool->Hp->Prop),Inv X pins σ H s->t σ H Q →
  wpAny (model X.prog X.w) X.A (forIn ifs true λc r=>if r=true then do let ok <-isTrue c X.env (eval c X.env);pure (ForInStep.yield ok) else pure (ForInStep.yield r)) (TP X pins σ Q) X.xe s
def GC:TT:=λ_ H Q=>Q true H
theorem bK:xp X [] GC:=λ_ _ _ H _ I h=>wpAny_tests_nil ⟨H,I,h⟩
theorem dJ {c:Expr}{t:TT}(h:PT X c t):xp X [c] t:=λpins s σ H Q I hw=>wpAny_tests_one (h pins s σ H Q I hw)
theorem cj {s:GB}{b:Addr}{h':Heap}(I:Inv X pins σ H s)(f:cg X pins H b)(sb:Heap.SameBut b s.heap h'):Inv X pins σ H {s with heap:=h'}:=
 I.turned (t':=s.toks) (λc o hc e=>(sb.2 c hc).trans e) f.1 f.2.1 f.2.2.2.1 f.2.2.2.2.1 f.2.2.2.2.2
def gK (J:It)(g:TG)(tt:TT)(te:TE)(W:Nat->Nat->List V->St->Hp->Prop)(Fin:List V->Hp->Prop):Prop :=
 ∀i m xs σ' H',W i m xs σ' H'->xs.length<sizeLine/\((J.stop i H'/\Fin xs H') \/
  (J.go i H'/\∀x H2,J.yld i H' x H2->g x σ' H2 λσ3 H3=>tt σ3 H3 λb H4 =>
   if b=true then te σ3 H4 λy H5=>∃m',m'<m/\W (i+1) m' (xs++[y]) σ3 H5 else ∃m',m'<m/\W (i+1) m' xs σ3 H4))
theorem mz {fp:List Addr}{h1:Heap}{tk:Nat}(S:uR X N nl js osc scope)(I:Inv X pins σ H s)(f:∀b∈fp,cg X pins H b)(HZ:∀b∈fp,b<s.heap.objs.size)
 (hC:s.heap.objs.size<=C)(old:∀b o,s.heap.get? b=some o->h1.get? b=some o){m1:vW}(IC:h1.Ns C m1):
 Inv (bY X N scope C fp s H) [] (σC nl js σ) H {s with heap:=h1,toks:=tk}:=by
 have Hs:∀y∈scope.names,y.2=.free->X.env.kindOf y.1=some .cell\/X.env.kindOf y.1=some .free:=λy hy hf=>by
  have:=S.free y hy hf;rw[<-S.out] at this;exact this
 have GZ:∀y∈scope.names,y.2=.free->∃c,X.env.cells.lookup y.1=some c:=λy hy hf=>I.ok.has y.1 (Hs y hy hf);have sub:∀x c,(dh scope.names X.env).lookup x=some c->X.env.cells.lookup x=some c:=λx c e=>eP GZ e
 have Jl:∀b∈fp,b∉dG X.stack:=λb hb z=>by
  rcases List.mem_cons.mp (I.aak b z) with q|q
  ·exact(f b hb).2.1 q
  ·exact(f b hb).2.2.1 q
 refine⟨⟨I.ok.mod,S.kind,I.ok.glob,I.ok.blt,hC,λx y c e1 e2=>I.ok.inj x y c (sub x c e1) (sub y c e2),λx hx=>?_,λx c z _=>absurd z (by show ¬(false=true);decide),I.ok.hd,I.ok.frames,.inl rfl,
  λb hb=>⟨Nat.ne_of_lt (Nat.lt_of_lt_of_le (HZ b hb) hC),λx c e=>(f b hb).2.2.2.2.1 x c (sub x c e)⟩,I.bs,Nat.le_trans I.ok.bsz I.sz,λb o e hb=>?_,Jl,I.stack,I.aaG⟩,
  rfl,I.bare,Un.kept old,⟨m1,IC,λi x v e1 e2 e3=>?_⟩,λx c e=>?_,I.hok.fresh hC,λx c e=>I.aam x c (sub x c e),λp hp=>absurd (show p∈([]:List (Addr×Obj)) from hp) (by simp),I.hok.kept old,?_⟩
 ·have hx:(relabel scope X.env).names.lookup x=some .cell\/(relabel scope X.env).names.lookup x=some .free:=hx
  have m:(x,NameKind.free)∈scope.names:=by
   rcases hx with z|z
   ·exact fJ S.cell z (.inl rfl)
   ·exact fJ S.cell z (.inr rfl)
  exact iC m
 ·rcases(f b hb).2.2.2.1 with z|z
  ·exact I.ok.abh b o e z
  ·exact absurd (Nat.lt_of_lt_of_le (Heap.lt_size e) (Nat.le_trans I.ok.bsz z)) (Nat.lt_irrefl _)
 ·-- JW names
  have e1:N[i]?=some x:=e1;unfold σC at e2
  by_cases hi:i<nl
  ·rw[List.getElem?_append_left (by simpa using hi),List.getElem?_replicate] at e2
   split at e2 <;> cases e2
  ·obtain⟨k,rfl⟩:∃k,i=nl+k:=⟨i-nl,by omega⟩;rw[List.getElem?_append_right (by simp),List.length_replicate,Nat.add_sub_cancel_left,List.getElem?_map] at e2
   cases ej:js[k]? with
   |none=>rw[ej] at e2;cases e2
   |some j =>
    rw[ej] at e2;have e2:some ((σ[j]?).join)=some (some v):=e2;have e2:=Option.some.inj e2
    have e4:σ[j]?=some (some v):=by
     cases q:σ[j]? with
     |none=>rw[q] at e2;cases e2
     |some z=>rw[q] at e2;exact congrArg some e2
    have e5:(N.drop nl)[k]?=some x:=by rw[List.getElem?_drop];exact e1
    have gp:∀{l1:List Nat}{l2:zF}{k:Nat}{j:Nat}{x:Str},Paired (λj x=>X.N[j]?=some x/\(x,NameKind.free)∈scope.names) l1 l2->l1[k]?=some j->l2[k]?=some x->X.N[j]?=some x/\(x,NameKind.free)∈scope.names:=by
     intro l1 l2 k j x p
     induction p generalizing k with
     |nil=>intro h;simp at h
     |cons r _ ih =>
      intro h1 h2
      cases k with
      |zero=>simp at h1 h2;subst h1;subst h2;exact r
      |succ k=>exact ih (by simpa using h1) (by simpa using h2)
    obtain⟨hx,hm⟩:=gp S.src ej e5;have hk:=Hs (x,.free) hm rfl;obtain⟨m,hn,hl⟩:=I.loc
    have Sb:Ef X.env.scope x:=by
     rcases hk with z|z
     ·exact .inr (.inl z)
     ·exact .inr (.inr z)
    obtain⟨u,r,l⟩:=hl j x v hx e4 Sb;refine⟨u,r,?_⟩
    rcases l with⟨k1,_⟩|⟨_,c,hc,HN⟩
    ·exfalso
     rcases hk with z|z <;> (rw[z] at k1;cases k1)
    ·obtain⟨c',GV⟩:=iC (env:=X.env) hm;have:=sub x c' GV;rw[hc] at this
     cases this
     refine .inr ⟨?_,c,GV,?_⟩
     ·rcases e3 with z|z|z
      ·-- a name of JW Kl own: no
       exfalso
       have lk:scope.names.lookup x=some .local:=by
        have gen:∀(l:List (Str×NameKind)),(l.map λ(n,k)=>if(k==NameKind.free&&X.env.scope.kind == .function&&X.env.kindOf n==some .cell) then(n,NameKind.cell) else(n,k)).lookup x=some .local->l.lookup x=some .local:=by
         intro l
         induction l with
         |nil=>intro h;simp at h
         |cons p r ih =>
          obtain⟨n,k0⟩:=p;intro h;have h:List.lookup x ((if(k0==NameKind.free&&X.env.scope.kind == .function&&X.env.kindOf n==some .cell)=true then(n,NameKind.cell) else(n,k0)):: r.map λ(n,k)=>if(k==NameKind.free&&X.env.scope.kind == .function&&X.env.kindOf n==some .cell) then(n,NameKind.cell) else(n,k))=some .local:=h
          cases hb:x==n with
          |true =>
           by_cases GV:(k0==NameKind.free&&X.env.scope.kind == .function&&X.env.kindOf n==some .cell)=true
           ·rw[if_pos GV] at h;simp only[List.lookup_cons,hb] at h;cases h
           ·rw[if_neg GV] at h;simp only[List.lookup_cons,hb] at h |-;exact h
          |false =>
           simp only[List.lookup_cons,hb];refine ih ?_
           by_cases GV:(k0==NameKind.free&&X.env.scope.kind == .function&&X.env.kindOf n==some .cell)=true
           ·rw[if_pos GV] at h;simp only[List.lookup_cons,hb] at h;exact h
           ·rw[if_neg GV] at h;simp only[List.lookup_cons,hb] at h;exact h
        exact gen _ z
       exact S.abR (x,.free) hm rfl lk
      ·exact .inl z
      ·exact .inr z
     ·obtain⟨o,ho,hd⟩:=HN;exact⟨o,old _ _ ho,hd⟩
 ·obtain⟨v,o,ho,hd⟩:=I.cell x c (sub x c e);exact⟨v,o,old _ _ ho,hd⟩
 ·show(σC nl js σ).length=N.length;unfold σC;rw[List.length_append,List.length_replicate,List.length_map,S.len]
abbrev n8 (ys:nv)(k:Nat):Obj:={cls:=.type "list",data:=.seq ys.toArray k}
theorem j3 {J:It}{it:Addr}{fp:List Addr}{tn:Nat->Heap->Prop}{W:Nat->Nat->List V->St->Hp->Prop}{Fin:List V->Hp->Prop}
 {E:pL}{RR:Value->Addr->Result->Shared->Prop}
 (S:uR X N nl js osc scope)(hc:X.calm=true)(hg:∀C fp s H,PG (bY X N scope C fp s H) tg g)(ht:∀C fp s H,xp (bY X N scope C fp s H) ifs tt)(he:∀C fp s H,PE (bY X N scope C fp s H) elt te)
 (I:Inv X pins σ H s)(T:Turn X.prog X.w X.K tg J fp it tn)(st:tn 0 s.heap)(f:∀b∈fp,cg X pins H b)(w0:∃m,W 0 m [] (σC nl js σ) H)(hW:gK J g tt te W Fin)
 (Nx:∀(D C:Addr)(H':Hp)(s':GB)(xs:List V)(m:vW),Inv X pins σ (upd H' D (.lst xs)) s'->H' D=none->s'.heap.Ns C m->cg X pins (upd H' D (.lst xs)) C->Fin xs H'->RR (.ref D) C (.ok .next) s'):
 wpAny (model X.prog X.w) X.A (newList []) (λacc s₃=>wpAny (model X.prog X.w) X.A (newFunctionEnv scope X.env.globals (dh scope.names X.env) [] X.env.qual none .none (some X.env)) (λIe s₄ =>
  codeAny (model X.prog X.w) X.A (.compStart (.ListComp elt [⟨tg,iter,ifs,0⟩] scope pos) 0 (.ref it) acc {Ie with scope:=relabel scope X.env}) (RR acc Ie.locals) s₄) E s₃) E s:=by
 have HZ:∀b∈fp,b<s.heap.objs.size:=λb hb=>by
  obtain⟨o,e,_⟩:=T.obj 0 _ st b hb;exact Heap.lt_size e
 refine wpAny_newObj_type (wpAny_newFunctionEnv S.cell (by intro y hy;simp at hy) (λh₁ HC Hl=>?_) S.kind);dsimp only at HC Hl |-;generalize Jm:s.heap.push {cls:=.type "list",dict:=none,data:=.seq ([]:nv).toArray}=H2 at HC Hl |-
 have hC:H2.objs.size=s.heap.objs.size+1:=by rw[<-Jm,Heap.size_push]
 have IT:s.heap.objs.size≠H2.objs.size:=by rw[hC];exact Nat.ne_of_lt (Nat.lt_succ_self _)
 have below:∀b,b<s.heap.objs.size->b≠H2.objs.size/\b≠s.heap.objs.size:=λb hb=>⟨by rw[hC];exact Nat.ne_of_lt (Nat.lt_succ_of_lt hb),Nat.ne_of_lt hb⟩;have old:∀b o,s.heap.get? b=some o->h₁.get? b=some o:=λb o e=>Hl.extBut b o (below b (Heap.lt_size e)).1 (Heap.get?_push_of_some _ (Jm▸Heap.get?_push_of_some _ e));have Jn:h₁.get? s.heap.objs.size=some {cls:=.type "list",data:=.seq ([]:nv).toArray 0}:=Hl.extBut _ _ IT (Heap.get?_push_of_some _ (Jm▸Heap.get?_push_size _ rfl))
 have HH:s.heap.objs.size<=H2.objs.size:=by rw[hC];exact Nat.le_succ _
 have GZ:∀y∈scope.names,y.2=.free->∃c,X.env.cells.lookup y.1=some c:=λy hy hf=>by
  have z:=S.free y hy hf;rw[<-S.out] at z;exact I.ok.has y.1 z
 have sub:∀x c,(dh scope.names X.env).lookup x=some c->X.env.cells.lookup x=some c:=λx c e=>eP GZ e
 have Ny:∀x c,(dh scope.names X.env).lookup x=some c->c<s.heap.objs.size:=λx c e=>by
  obtain⟨v,q⟩:=I.cell x c (sub x c e);exact q.lt
 have Jl:∀b∈fp,b∉dG X.stack:=λb hb z=>by
  rcases List.mem_cons.mp (I.aak b z) with q|q
  ·exact(f b hb).2.1 q
  ·exact(f b hb).2.2.1 q
 have Km:s.heap.objs.size∉dG X.stack:=λz=>by
  rcases List.mem_cons.mp (I.aak _ z) with q|q
  ·exact absurd I.lt (by rw[<-q];exact Nat.lt_irrefl _)
  ·exact I.abz (Nat.le_refl _) q
 have KN:s.heap.objs.size∉fp:=λz=>Nat.lt_irrefl _ (HZ _ z)
 have Jo:∀{H':Hp}{ob:Obj},(∀b∈fp,H' b=none)->∀b∈fp,cg (bY X N scope H2.objs.size fp s H) [(s.heap.objs.size,ob)] H' b:=λ{H' ob} hn b hb =>
  ⟨hn b hb,(below b (HZ b hb)).1,Jl b hb,.inl hb,λx c e=>(f b hb).2.2.2.2.1 x c (sub x c e),λp hp z=>by
   have e:p=(s.heap.objs.size,ob):=by
    have:p∈[(s.heap.objs.size,ob)]:=hp;simpa using this
   subst e
   exact KN (by rw[show s.heap.objs.size=b from z];exact hb)⟩
 have Ko:∀{H':Hp},H' s.heap.objs.size=none->cg (bY X N scope H2.objs.size fp s H) [] H' s.heap.objs.size:=λ{H'} hn =>
  ⟨hn,IT,Km,.inr (Nat.le_refl _),λx c e=>Nat.ne_of_lt (Ny x c e),λp hp=>absurd (show p∈([]:List (Addr×Obj)) from hp) (by simp)⟩
 have ID:∀{σ':St}{H':Hp}{s':GB}{ys:nv}{k:Nat},Inv (bY X N scope H2.objs.size fp s H) [] σ' H' s'->H' s.heap.objs.size=none->s'.heap.get? s.heap.objs.size=some (n8 ys k) →
  Inv (bY X N scope H2.objs.size fp s H) [(s.heap.objs.size,n8 ys k)] σ' H' s':=λ{σ' H' s' ys k} I' hn hl=>I'.aah λp hp=>by
  have e:p=(s.heap.objs.size,n8 ys k):=by simpa using hp
  subst e;exact⟨hl,hn,IT,Km,λv z=>by cases z⟩
 have iA:∀s₃:Shared,s₃={s with heap:=h₁,toks:=s.toks+([]:List (Str×Value)).length} →
  codeAny (model X.prog X.w) X.A (.compLoop (.ListComp elt [⟨tg,iter,ifs,0⟩] scope pos) 0 (.ref it) (.ref s.heap.objs.size) (compEnvC scope (dh scope.names X.env) H2.objs.size X.env))
   (RR (.ref s.heap.objs.size) H2.objs.size) s₃:=by
  rintro s₃ rfl;obtain⟨m0,w0⟩:=w0;have I0:Inv (bY X N scope H2.objs.size fp s H) [] (σC nl js σ) H {s with heap:=h₁,toks:=s.toks+([]:List (Str×Value)).length}:=mz S I f HZ HH old HC
  refine hU (λn s'=>∃i σ' H' xs ys k,Inv (bY X N scope H2.objs.size fp s H) [(s.heap.objs.size,n8 ys k)] σ' H' s'/\tn i s'.heap/\(∀b∈fp,H' b=none)/\aL xs ys/\W i n xs σ' H') ?_ m0
   ⟨0,σC nl js σ,H,[],[],0,ID I0 (I.hok.fresh (Nat.le_refl _)) Jn,T.keep _ _ _ st λb _ o e=>old b o e,λb hb=>(f b hb).1,.nil,w0⟩
  rintro n s' ⟨i,σ',H',xs,ys,k,I',Hz,KO,rv,w'⟩;obtain⟨hz,hw⟩:=hW i n xs σ' H' w'
  rcases hw with⟨stop,fin⟩|⟨go,step⟩
  ·refine wpAny_mono (T.done (bY X N scope H2.objs.size fp s H) rfl rfl rfl hc i _ s' σ' H' (λ_ _=>False) I' (Jo KO) Hz stop) (λr s1 z'=>?_) λ_ _ z=>z;obtain⟨hr,I1⟩:=z';subst hr;obtain⟨p1,p2,_⟩:=I1.pin (s.heap.objs.size,n8 ys k) (by show _∈([]:List (Addr×Obj))++[_];simp);have u1:Un (dG X.stack) fp H H' s.heap s1.heap:=I1.base
   have u2:Un (dG X.stack) fp H (upd H' s.heap.objs.size (.lst xs)) s.heap s1.heap:=⟨u1.keep,u1.slot,λb o e n hx=>by rw[ar (Nat.ne_of_lt (Heap.lt_size e))];exact u1.free b o e n hx,u1.there,
    λb zs e=>by rw[ar (au (u1.aao b zs e) p2)];exact u1.aao b zs e,λb o zs e=>by rw[ar (au (u1.aal b o zs e) p2)];exact u1.aal b o zs e,λb ps e=>by
     obtain⟨mo,q⟩:=u1.aau b ps e
     exact⟨mo,by rw[ar (au q p2)];exact q⟩⟩
   have hk:fR X.prog X.w (upd H' s.heap.objs.size (.lst xs)) s1.heap:=dQ I1.hok p2 ⟨Nat.le_of_lt hz,ys,k,rv,p1⟩;have I3:Inv X pins σ (upd H' s.heap.objs.size (.lst xs)) s1:=I.abl I1.os u2 hk I1.bare λb hb=>⟨(f b hb).2.2.2.1,(f b hb).2.1,(f b hb).2.2.2.2.1,(f b hb).2.2.2.2.2⟩;obtain⟨mm,Nz,_⟩:=I1.loc
   have Sd:upd H' s.heap.objs.size (.lst xs) H2.objs.size=none:=by rw[ar (Ne.symm IT)];exact I1.free
   exact Nx _ _ H' s1 xs mm I3 p2 Nz (I.aaJ HH Sd) fin
  ·refine wpAny_mono (T.item (bY X N scope H2.objs.size fp s H) rfl rfl rfl hc i _ s' σ' H' (λ_ _=>False) I' (Jo KO) Hz go) (λr s1 z'=>?_) λ_ _ z=>z;obtain⟨u,hr,h4⟩:=z';subst hr;refine wpAny_mono h4 (λ_ s2 z'=>?_) λ_ _ z=>z;obtain⟨x,KP,I2,r2,y2,HG,NA⟩:=z';have NB:=I2.pinned (Jo NA) (T.obj _ _ HG);refine wpAny_mono (hg _ _ _ _ _ s2 σ' KP x u _ NB r2 (step x KP y2)) (λ_ s3 z'=>?_) λ_ _ z=>z;obtain⟨σ3,H3,I3,q3⟩:=z';refine wpAny_mono (ht _ _ _ _ _ s3 σ3 H3 _ I3 q3) (λok s4 z'=>?_) λ_ _ z=>z;obtain⟨H4,I4,q4⟩:=z'
   have back:∀{s5:GB}{H5:Hp},Inv (bY X N scope H2.objs.size fp s H) ([(s.heap.objs.size,n8 ys k)]++c8 fp s2.heap) σ3 H5 s5->tn (i+1) s5.heap/\∀b∈fp,H5 b=none:=λ{s5 H5} I5 =>
    ⟨T.keep _ _ _ HG λb hb o e=>(I5.pin (b,o) (List.mem_append_right _ (List.mem_append_right _ (b0 hb e)))).1,λb hb=>by
     obtain⟨o,e,d⟩:=T.obj _ _ HG b hb
     exact(I5.pin (b,o) (List.mem_append_right _ (List.mem_append_right _ (b0 hb e)))).2.1⟩
   cases ok with
   |false =>
    rw[if_neg Bool.false_ne_true] at q4 |-;obtain⟨m',hm,w4⟩:=q4;exact⟨m',hm,i+1,σ3,H4,xs,ys,k,I4.aai,(back I4).1,(back I4).2,rv,w4⟩
   |true =>
    rw[if_pos rfl] at q4 |-;refine wpAny_mono (he _ _ _ _ _ s4 σ3 H4 _ I4 q4) (λv s5 z'=>?_) λ_ _ z=>z;obtain⟨y,H5,I5,r5,m',hm,w5⟩:=z';obtain⟨p1,p2,_⟩:=I5.pin (s.heap.objs.size,n8 ys k) (List.mem_append_right _ (List.mem_append_left _ (by simp)));obtain⟨Lv,Ng⟩:=back I5;refine append_at (its:=ys.toArray) p1 (λh' sb hD=>?_) (by rw[List.size_toArray,<-rv.length];exact Nat.le_of_lt hz);have I6:Inv (bY X N scope H2.objs.size fp s H) [] σ3 H5 {s5 with heap:=h'}:=cj (I5.aah (pins':=[]) λp hp=>absurd hp (by simp)) (Ko p2) sb;refine⟨m',hm,i+1,σ3,H5,xs++[y],ys++[v],k+1,ID I6 p2 ?_,T.keep _ _ _ Lv λb hb o e=>(sb.2 b λz=>KN (z▸hb)).trans e,Ng,rv.append (.cons r5 .nil),w5⟩;rw[hD];show some _=some (n8 (ys++[v]) (k+1));rw[n8,<-List.push_toArray]
 exact codeAny_compStart_list (iA _ rfl) (T.self X.A 0 _ _ _ (T.keep _ _ _ st λb _ o e=>old b o e) (iA _ rfl))
def xg (wi:TI)(g:TG)(tt:TT)(te:TE)(nl:Nat)(js:List Nat):TE:=λσ H Q=>wi σ H λJ H1 =>
 ∃W:Nat->Nat->List V->St->Hp->Prop,(∃m,W 0 m [] (σC nl js σ) H1)/\gK J g tt te W λxs H'=>∀D,H' D=none->Q (.ref D) (upd H' D (.lst xs))
theorem gS (S:uR X N nl js osc scope)(I:Inv X pins σ H s):closureFor scope X.env=pure (dh scope.names X.env):=gQ λy hy hf=>by
 have z:=S.free y hy hf;rw[<-S.out] at z;exact I.ok.has y.1 z
theorem bX {wi:TI}(S:uR X N nl js osc scope)(hc:X.calm=true)(hi:PI X tg iter wi)(hg:∀C fp s H,PG (bY X N scope C fp s H) tg g)(ht:∀C fp s H,xp (bY X N scope C fp s H) ifs tt)
 (he:∀C fp s H,PE (bY X N scope C fp s H) elt te)(hs:∀x,foldedSetIterable iter X.env x=pure x:=by intro _;rfl):
 PE X (.ListComp elt [⟨tg,iter,ifs,0⟩] scope pos) (xg wi g tt te nl js):=by
 intro pins s σ H Q I h;rw[eval_ListComp];refine wpAny_comprehension_free (use:=none) rfl hs (gS S I) S.kind S.names (bA (hi pins s σ H _ I h) λv s1 h1=>bA h1 λLr s2 h2=>?_);obtain⟨it,fp,tn,J,H2,e,I2,T,HG,f2,W,w0,hW⟩:=h2;subst e;refine j3 (RR:=λacc C=>compPost (model X.prog X.w) X.A X.xe none (EP X pins σ Q) acc C) S hc hg ht he I2 T HG f2 w0 hW ?_;intro D C H' s' xs m I3 hD hn fC fin;exact⟨m,hn,λh' sb=>⟨.ref D,_,cj I3 fC sb,rfl,fin D hD⟩⟩
theorem fH {i:Nat}{y:Str}{py Jp:Pos}{wi:TI}(S:uR X N nl js osc scope)(hc:X.calm=true)(hN:X.N.Nodup)(hy:X.N[i]?=some y)(hl:CI X.env.scope y)(hi:PI X tg iter wi)
 (hg:∀C fp s H,PG (bY X N scope C fp s H) tg g)(ht:∀C fp s H,xp (bY X N scope C fp s H) ifs tt)(he:∀C fp s H,PE (bY X N scope C fp s H) elt te)
 (Se:swapsWith (.ListComp elt [⟨tg,iter,ifs,0⟩] scope pos) (some (.Name y py)) Jp.line X.env=pure true)(hs:∀x,foldedSetIterable iter X.env x=pure x:=by intro _;rfl)
 (hf:X.fn y=true\/X.env.scope.names.lookup y=some .local:=by first|exact .inl rfl|exact .inr rfl|assumption):
 PS X (.Assign [.Name y py] (.ListComp elt [⟨tg,iter,ifs,0⟩] scope pos) Jp) (tR (xg wi g tt te nl js) (bg i)):=by
 intro pins s σ H D I h;rw[exec_Assign_Name_used _ _ _ _ Se];refine wpAny_bind (wpAny_standAt (wpAny_bind ?_));show wpAny _ X.A (do let _ <-comprehension (.ListComp elt [⟨tg,iter,ifs,0⟩] scope pos) scope X.env _ (newList []) false (eval iter X.env) (some (assign (.Name y py) X.env))) _ _ s
 refine wpAny_bind (wpAny_mono (wpAny_comprehension_free (use:=some (assign (.Name y py) X.env)) (Q:=λ_ s'=>SP X pins D .next s') rfl hs (gS S I) S.kind S.names
  (bA (hi pins s σ H _ I h) λv s1 h1=>bA h1 λLr s2 h2=>?_)) (λ_ s' hq=>wpAny_pure (wpAny_pure hq)) λ_ _ e=>e)
 obtain⟨it,fp,tn,J,H2,e,I2,T,HG,f2,W,w0,hW⟩:=h2;subst e;refine j3 (RR:=λacc C=>compPost (model X.prog X.w) X.A X.xe (some (assign (.Name y py) X.env)) (λ_ s'=>SP X pins D .next s') acc C) S hc hg ht he I2 T HG f2 w0 hW ?_;intro Dd C H' s' xs m I3 hD hn fC fin;show wpAny _ X.A (assign (.Name y py) X.env (.ref Dd)) _ _ _;refine wpAny_assign_Name (je I3 hN hy hl (show aE (.ref Dd) (.ref Dd) from rfl) (λs4 I4 z'=>?_) hf);obtain⟨a,sb,ha⟩:=z';refine⟨m,hn.sameBut sb ?_,λh' LC=>⟨_,_,cj I4 fC LC,fin Dd hD⟩⟩
 rcases ha with z|z
 ·rw[z];exact fC.2.1
 ·exact λq=>fC.2.2.2.2.1 _ _ z q.symm
end
open PySem.W
def Gz (h B:Heap)(e:Addr)(cls a0 fl:Value)(d:BY):Prop :=
 ∃(o:Obj)(vs:t6)(T:Addr)(oT:Obj)(ts:t6),h.get? e=some o/\o.dict=d/\(o.cls=cls/\vs[0]?=some a0)/\o.data=.fields vs/\vs[1]?=some (.ref T)/\B.get? T=none/\T≠e/\h.get? T=some oT/\oT.data=.fields ts/\ts[3]?=some fl
structure AR (B:Heap)(l:List Env)(e:Addr)(cls a0 fl:Value)(d:BY)(h:Heap):Prop where
 st:B.StaysIn h
 new:B.get? e=none
 fr:h.FunFrames B l
 tr:Gz h B e cls a0 fl d
variable {o:Obj}{vs:t6}
section
variable {M:Model}{A:Around}{E:pL}{s:GB}{B:Heap}{env:Env}{outer:List Env}{L e:Addr}{cls a0:Value}{d:BY}{Q:Unit->Shared->Prop}
theorem sS {hd:Value}{nx:Bool}(Jq:A.frames=some (env::outer))(fr:s.heap.FunFrames B (env::outer))(hf:env.frame=some L)(st:B.StaysIn s.heap)(new:B.get? e=none)
 (he:s.heap.get? e=some o)(Ig:o.dict=d)(hc:o.cls=cls)(hv:o.data=.fields vs)(h1:1<vs.size)(h0:vs[0]?=some a0)
 (h:∀h',AR B (env::outer) e cls a0 (rawInt L) d h'->s.heap.UpToSlots h'->Q () {s with heap:=h'}):
 wpAny M A (do let a <-frameOf env;let pl <-entryPlaceOf L nx;let b <-EntryCells.newEntry hd a .none (rawInt L) .none pl;setField (.ref e) 1 b) Q E s:=by
 have nf:e∉(env::outer).filterMap (·.frame):=λm=>by
  obtain⟨_,o',Hr,q⟩:=fr.mem m;rw[he] at Hr;cases Hr;exact q vs hv
 refine wpAny_bind (wpAny_frameOf_fun Jq fr hf λg sl=>wpAny_bind (wpAny_entryPlaceOf λpl IB=>?_));unfold EntryCells.newEntry newFields;refine wpAny_bind (wpAny_newObj_type ?_ (IB.sizeOk5 _ _ _ _ _));have e1:g.get? e=some o:=(sl.2.1 e nf).trans he;have Wj:B.StaysIn g:=λb ob q=>(sl.2.1 b λm=>by rw[(fr.mem m).1] at q;cases q).trans (st b ob q);have ne:g.objs.size≠e:=Nat.ne_of_gt (Heap.lt_size e1);have dv:=Obj.data_mapFields hv (·.setIfInBounds 1 (Value.ref g.objs.size))
 have kp:∀(oT:Obj) b ob,b≠e->g.get? b=some ob->((g.push oT).update e (Obj.mapFields (·.setIfInBounds 1 (Value.ref g.objs.size)))).get? b=some ob:=λoT b ob hb q =>
  (Heap.get?_update_other _ _ (Ne.symm hb)).trans (Heap.get?_push_of_some _ q)
 have nr:∀b ob,s.heap.get? b=some ob->(∀ws,ob.data≠.fields ws)->b≠e:=λb ob q hn z=>by rw[z,he] at q;cases q;exact hn vs hv
 refine wpAny_setField (Heap.get?_push_of_some _ e1) hv h1 (h _ ⟨λb ob q=>kp _ b ob (λz=>by rw[z,new] at q;cases q) (Wj b ob q),new,fr.of_keeps λb ob q hn=>?_,?_⟩ λb ob q hn=>?_)
 ·obtain⟨z,q1⟩:=sl.2.2 b ob q;exact⟨_,kp _ b _ (nr b ob q hn) q1,rfl⟩
 ·refine⟨_,_,g.objs.size,_,_,Heap.get?_update_self _ (Heap.get?_push_of_some _ e1) (Obj.isFreed_of_fields dv),?_,⟨(Obj.cls_mapFields _ _).trans hc,by rw[Array.getElem?_setIfInBounds_ne (by decide)];exact h0⟩,dv,by simp[h1],Wj.fresh,ne,
   (Heap.get?_update_other _ _ (Ne.symm ne)).trans (Heap.get?_push_size g rfl),rfl,by first|(simp;done)|(rcases IB with rfl|⟨_,_,_,_,_,_,_,rfl⟩ <;> simp)⟩
  rw[<-Ig]
  cases o
  dsimp only at hv;subst hv;rfl
 ·obtain⟨z,q1⟩:=sl.2.2 b ob q;exact⟨z,kp _ b _ (nr b ob q hn) q1⟩
theorem Bc (Jq:A.frames=some (env::outer))(hf:env.frame=some L)(x:AR B (env::outer) e cls a0 .none d s.heap)
 (h:∀h',AR B (env::outer) e cls a0 (rawInt L) d h'->s.heap.UpToSlots h'->Q () {s with heap:=h'}):wpAny M A (noteFrame (.ref e) env) Q E s:=by
 obtain⟨o,vs,T,oT,ts,he,Ig,⟨hc,h0⟩,hv,h1,nT,Te,hT,KQ,h3⟩:=x.tr;unfold noteFrame;simp only[hf];refine wpAny_bind (wpAny_field he hv h1 ?_);rw[if_pos (by simp)];refine wpAny_bind (wpAny_field hT KQ h3 ?_);rw[if_neg (by simp[rawInt])];refine wpAny_bind (wpAny_setField hT KQ (Array.getElem?_eq_some_iff.mp h3).1 ?_);have ot:∀b,b≠T->(s.heap.update T (Obj.mapFields (·.setIfInBounds 3 Value.none))).get? b=s.heap.get? b:=λb hb=>Heap.get?_update_other _ _ (Ne.symm hb)
 have nr:∀b ob,s.heap.get? b=some ob->(∀ws,ob.data≠.fields ws)->b≠T:=λb ob q hn z=>by rw[z,hT] at q;cases q;exact hn ts KQ
 refine sS (s:={s with heap:=s.heap.update T (Obj.mapFields (·.setIfInBounds 3 Value.none))}) Jq (x.fr.of_keeps λb ob q hn=>⟨ob,(ot b (nr b ob q hn)).trans q,rfl⟩) hf (λb ob q=>(ot b λz=>by rw[z,nT] at q;cases q).trans (x.st b ob q)) x.new
  ((ot e (Ne.symm Te)).trans he) Ig hc hv (Array.getElem?_eq_some_iff.mp h1).1 h0 λh' y up=>h h' y λb ob q hn=>up b ob ((ot b (nr b ob q hn)).trans q) hn
theorem xa (Jq:A.frames=some (env::outer))(fr:s.heap.FunFrames B (env::outer))(hf:env.frame=some L)(st:B.StaysIn s.heap)(new:B.get? e=none)
 (he:s.heap.get? e=some o)(Ig:o.dict=d)(hc:o.cls=cls)(hv:o.data=.fields vs)(h1:vs[1]?=some .none)(h0:vs[0]?=some a0)
 (h:∀h',AR B (env::outer) e cls a0 (rawInt L) d h'->s.heap.UpToSlots h'->Q () {s with heap:=h'}):wpAny M A (noteFrame (.ref e) env) Q E s:=by
 unfold noteFrame;simp only[hf];refine wpAny_bind (wpAny_field he hv h1 ?_);rw[if_neg (by decide)];exact sS Jq fr hf st new he Ig hc hv (Array.getElem?_eq_some_iff.mp h1).1 h0 h
theorem oE {l:List Env}{fl:Value}(x:AR B l e cls a0 fl d s.heap)(h:∀h',AR B l e cls a0 .none d h'->s.heap.UpToSlots h'->Q () {s with heap:=h'}):wpAny M A (setFlight (.ref e) none) Q E s:=by
 obtain⟨o,vs,T,oT,ts,he,Ig,hc,hv,h1,nT,Te,hT,KQ,h3⟩:=x.tr;have z3:3<ts.size:=(Array.getElem?_eq_some_iff.mp h3).1;have ot:∀b,b≠T->(s.heap.update T (Obj.mapFields (·.setIfInBounds 3 Value.none))).get? b=s.heap.get? b:=λb hb=>Heap.get?_update_other _ _ (Ne.symm hb)
 have nr:∀b ob,s.heap.get? b=some ob->(∀ws,ob.data≠.fields ws)->b≠T:=λb ob q hn z=>by rw[z,hT] at q;cases q;exact hn ts KQ
 unfold setFlight;refine wpAny_bind (wpAny_field he hv h1 ?_);rw[if_pos (by simp)];refine wpAny_setField hT KQ z3 (h _ ⟨λb ob q=>(ot b λz=>by rw[z,nT] at q;cases q).trans (x.st b ob q),x.new,x.fr.of_keeps λb ob q hn=>⟨ob,(ot b (nr b ob q hn)).trans q,rfl⟩,?_⟩ λb ob q hn=>⟨ob.slots,(ot b (nr b ob q hn)).trans q⟩);exact⟨o,vs,T,_,_,(ot e (Ne.symm Te)).trans he,Ig,hc,hv,h1,nT,Te,Heap.get?_update_self _ hT (Obj.isFreed_of_fields (Obj.data_mapFields KQ _)),Obj.data_mapFields KQ _,by simp[z3]⟩
theorem AR.out {fl:Value}(x:AR B (env::outer) e cls a0 fl d h):AR B outer e cls a0 fl d h:=⟨x.st,x.new,x.fr.2.2,x.tr⟩
theorem zI (Jq:A.frames=some (env::outer))(hf:env.frame=some L)(x:AR B (env::outer) e cls a0 .none d s.heap)
 (h:∀h',AR B outer e cls a0 .none d h'->s.heap.UpToSlots h'->Q () {s with heap:=h'}):wpAny M A (leaving env (.ref e)) Q E s:=by
 unfold leaving;exact wpAny_bind (Bc Jq hf x λg y up=>oE (s:={s with heap:=g}) y λg2 y2 Sf=>h g2 y2.out (up.trans Sf))
theorem uO (Jq:A.frames=some (env::outer))(fr:s.heap.FunFrames B (env::outer))(hf:env.frame=some L)(st:B.StaysIn s.heap)(new:B.get? e=none)
 (he:s.heap.get? e=some o)(Ig:o.dict=d)(hc:o.cls=cls)(hv:o.data=.fields vs)(h1:vs[1]?=some .none)(h0:vs[0]?=some a0)
 (h:∀h',AR B outer e cls a0 .none d h'->s.heap.UpToSlots h'->Q () {s with heap:=h'}):wpAny M A (leaving env (.ref e)) Q E s:=by
 unfold leaving;exact wpAny_bind (xa Jq fr hf st new he Ig hc hv h1 h0 λg y up=>oE (s:={s with heap:=g}) y λg2 y2 Sf=>h g2 y2.out (up.trans Sf))
end
theorem bt.there {o:HO}(x:bt P w H h a o):∃ob,h.get? a=some ob:=by
 cases o with
 |lst xs=>obtain⟨_,_,_,_,e⟩:=x;exact⟨_,e⟩
 |tup xs=>obtain⟨_,_,_,ob,e,_⟩:=x;exact⟨_,e⟩
 |dK GH=>obtain⟨_,_,_,_,o,_,_,e,_⟩:=x;exact⟨_,e⟩
 |dT GH=>obtain⟨_,_,_,_,o,_,_,e,_⟩:=x;exact⟨_,e⟩
 |set S n=>obtain⟨o,_,_,_,e,_⟩:=x;exact⟨_,e⟩
 |ins C dx fs=>obtain⟨_,_,_,e,_⟩:=x;exact⟨_,e⟩
 |own y=>obtain⟨_,e⟩:=x;exact⟨_,e⟩
 |xd fs=>obtain⟨_,⟨_,_,_,e,_⟩,_⟩:=x;exact⟨_,e⟩
 |rng lo hi=>obtain⟨_,_,_,e⟩:=x;exact⟨_,e⟩
 |frz ob u=>obtain⟨e,_⟩:=x;exact⟨_,e⟩
 |tbl ps=>exact⟨_,(show h.get? a=some _ from x)⟩
 |met f y=>exact⟨_,(show h.get? a=some _ from x)⟩
 |ext φ=>obtain⟨_,⟨_,e⟩,_⟩:=x;exact⟨_,e⟩
structure A5 (P:vB)(w:World)(l:List Env)(H₀:Hp)(h₀:Heap)(a:Addr)(cls:Value)(H:Hp)(h:Heap)(B:Heap)(a0:Value)(d:BY):Prop where
 fly:AR B l a cls a0 .none d h
 un:Un (dG l) [] H₀ H h₀ h
 keep:∀b o,h₀.get? b=some o->H₀ b=none->b∉dG l->B.get? b=some o
 there:∀b o,h₀.get? b=some o->b∉dG l->∃o',B.get? b=some o'
 hok:fR P w H B
 new:H a=none
def bf (P:vB)(w:World):D0:=λouter H₀ s₀ E e s'=>∃(a:Addr)(cls a0:Value)(B:Heap)(d:BY)(H:Hp),e=.ref a/\s'.os=s₀.os/\AllBare s'.gens/\A5 P w outer H₀ s₀.heap a cls H s'.heap B a0 d/\E cls d H
variable {cls:Value}
section
variable {X:Cx}{pins:List (Addr×Obj)}{σ:St}{H H':Hp}{s s':GB}{P:vB}{w:World}
theorem eG {base:Heap}{l:List Env}(F:h.FunFrames base l){b:Addr}(hb:b∈dG l)(e:h.get? b=some o):∀vs,o.data≠.fields vs:=by
 obtain⟨_,o',e',d⟩:=F.mem hb;rw[e] at e'
 cases e'
 exact d
theorem ql {outer:List Env}{h' JZ B:Heap}{e t:Addr}{args:nv}{d:BY}(I:Inv X pins σ H s)(hex:X.ex=[])(Nf:X.stack=X.env::X.outer)(hm:Heap.MadeExcOf s.heap h' e cls args)
 (hB:B=PySem.W.hideAll s.heap (dG X.stack))(hf:AR B X.outer e cls (.ref t) .none d JZ)(Q4:h'.UpToSlots JZ):A5 X.prog X.w X.outer X.H₀ X.s₀.heap e cls H JZ B (.ref t) d:=by
 subst hB;have st:=hf.st;have NC:∀b o,s.heap.get? b=some o->b∉dG X.stack->(PySem.W.hideAll s.heap (dG X.stack)).get? b=some o:=λb o e n=>PySem.W.hideAll_get _ e n
 have old:∀b o,X.s₀.heap.get? b=some o->b∉dG X.outer->b∉dG X.stack:=λb o e n z=>by
  rcases List.mem_cons.mp (I.aak b z) with q|q
  ·exact absurd (Nat.lt_of_lt_of_le (Heap.lt_size e) I.ok.above) (by rw[q];exact Nat.lt_irrefl _)
  ·exact n q
 have base:Un (dG X.outer) [] X.H₀ H X.s₀.heap s.heap:=by
  have z:=I.base;rw[hex] at z;exact z
 refine⟨hf,⟨λb o e n hb _=>st b o (NC b o (base.keep b o e n hb (by simp)) (old b o e hb)),λb o e n hb _=>?_,base.free,λb o e _=>?_,base.aao,base.aal,base.aau⟩,λb o e n hb=>NC b o (base.keep b o e n hb (by simp)) (old b o e hb),λb o e hb=>?_,λb u e=>?_,?_⟩
 ·obtain⟨sl,e1⟩:=base.slot b o e n hb (by simp);obtain⟨JY,e2⟩:=Q4 b _ (hm.keeps b _ e1) (eG I.aaC hb e1);exact⟨JY,e2⟩
 ·obtain⟨o',e1⟩:=base.there b o e (by simp)
  by_cases hb:b∈dG X.outer
  ·obtain⟨JY,e2⟩:=Q4 b _ (hm.keeps b _ e1) (eG I.aaC hb e1);exact⟨_,e2⟩
  ·exact⟨o',st b o' (NC b o' e1 (old b o e hb))⟩
 ·obtain⟨o',e1⟩:=base.there b o e (by simp);exact⟨o',NC b o' e1 (old b o e hb)⟩
 ·exact(I.hok b u e).aa1 (λc v hc q=>NC c v q λz=>by
   have n:=I.aaG c z
   rcases hc with hc|hc
   ·rw[hc,e] at n;cases n
   ·rw[n] at hc;cases hc) (λ_ q=>q) λ_ _ q=>q
 ·cases q:H e with
  |none=>rfl
  |some u =>
   obtain⟨ob,e1⟩:=(I.hok e u q).there;rw[hm.new] at e1
   cases e1
theorem xS {JZ B:Heap}{a0:Value}{d:BY}(I:Inv X pins σ H s)(hex:X.ex=[])(F:A5 X.prog X.w X.stack H s.heap a cls H' s'.heap B a0 d)
 (hf:AR B X.outer a cls a0 .none d JZ)(Q4:s'.heap.UpToSlots JZ):A5 X.prog X.w X.outer X.H₀ X.s₀.heap a cls H' JZ B a0 d:=by
 have st:=hf.st
 have sub:∀b,b∈dG X.outer->b∈dG X.stack:=λb hb=>by
  rcases I.ok.stk with z|⟨z,Jq⟩
  ·rw[z];exact hb
  ·rw[z];unfold dG;rw[List.filterMap_cons,Jq];exact List.mem_cons_of_mem _ hb
 have old:∀b o,X.s₀.heap.get? b=some o->b∉dG X.outer->b∉dG X.stack:=λb o e n z=>by
  rcases List.mem_cons.mp (I.aak b z) with q|q
  ·exact absurd (Nat.lt_of_lt_of_le (Heap.lt_size e) I.ok.above) (by rw[q];exact Nat.lt_irrefl _)
  ·exact n q
 have base:Un (dG X.outer) [] X.H₀ H X.s₀.heap s.heap:=by
  have z:=I.base;rw[hex] at z;exact z
 have kB:∀b o,X.s₀.heap.get? b=some o->X.H₀ b=none->b∉dG X.outer->B.get? b=some o:=λb o e n hb =>
  F.keep b o (base.keep b o e n hb (by simp)) (base.free b o e n (by simp)) (old b o e hb)
 have tB:∀b o,X.s₀.heap.get? b=some o->b∉dG X.outer->∃o',B.get? b=some o':=λb o e hb=>by
  obtain⟨o',e1⟩:=base.there b o e (by simp);exact F.there b o' e1 (old b o e hb)
 have Jk:∀b o,s.heap.get? b=some o->H b=none->b∈dG X.outer->∃sl,JZ.get? b=some {o with slots:=sl}:=λb o e n hb=>by
  obtain⟨sl,e1⟩:=F.un.slot b o e n (sub b hb) (by simp);obtain⟨JY,e2⟩:=Q4 b _ e1 (λvs q=>eG I.aaC hb e vs q);exact⟨JY,e2⟩
 refine⟨hf,⟨λb o e n hb _=>st b o (kB b o e n hb),λb o e n hb _=>?_,λb o e n _=>?_,λb o e _=>?_,λb xs e=>F.un.aao b xs (base.aao b xs e),λb o xs e=>F.un.aal b o xs (base.aal b o xs e),λb ps e=>?_⟩,kB,tB,F.hok,F.new⟩
 ·obtain⟨sl,e1⟩:=base.slot b o e n hb (by simp);obtain⟨JY,e2⟩:=Jk b _ e1 (base.free b o e n (by simp)) hb;exact⟨JY,e2⟩
 ·obtain⟨o',e1⟩:=base.there b o e (by simp);exact F.un.free b o' e1 (base.free b o e n (by simp)) (by simp)
 ·by_cases hb:b∈dG X.outer
  ·obtain⟨o',e1⟩:=base.there b o e (by simp);have n:H b=none:=I.aaG b (sub b hb);obtain⟨sl,e2⟩:=Jk b o' e1 n hb;exact⟨_,e2⟩
  ·obtain⟨o',e1⟩:=tB b o e hb;exact⟨o',st b o' e1⟩
 ·obtain⟨m1,e1⟩:=base.aau b ps e;obtain⟨m2,e2⟩:=F.un.aau b _ e1;exact⟨m1++m2,by rw[e2,Array.append_assoc]⟩
end
theorem Cz {K:PySem.W.Frag}{cd:ClassData}(h:PySem.W.clsIn K C=some cd):∃c d s,K.lookup C=some ⟨c,d,.cls cd,s⟩:=by
 unfold PySem.W.clsIn at h
 cases ho:K.lookup C with
 |none=>rw[ho] at h;cases h
 |some o =>
  rw[ho] at h;obtain⟨c,d,x,s⟩:=o
  cases x <;> cases h
  exact⟨_,_,_,rfl⟩
theorem EO {α:Type}{l:List α}(h:l.length=6):∃a b c d e f,l=[a,b,c,d,e,f]:=by
 obtain⟨a,l,rfl⟩:=List.exists_cons_of_length_eq_add_one h;obtain⟨b,l,rfl⟩:=List.exists_cons_of_length_eq_add_one (Nat.succ.inj h);obtain⟨c,l,rfl⟩:=List.exists_cons_of_length_eq_add_one (Nat.succ.inj (Nat.succ.inj h));obtain⟨d,l,rfl⟩:=List.exists_cons_of_length_eq_add_one (Nat.succ.inj (Nat.succ.inj (Nat.succ.inj h)));obtain⟨e,l,rfl⟩:=List.exists_cons_of_length_eq_add_one (Nat.succ.inj (Nat.succ.inj (Nat.succ.inj (Nat.succ.inj h))));obtain⟨f,rfl⟩:=List.length_eq_one_iff.mp (Nat.succ.inj (Nat.succ.inj (Nat.succ.inj (Nat.succ.inj (Nat.succ.inj h)))));exact⟨a,b,c,d,e,f,rfl⟩
theorem yI {K:PySem.W.Frag}{Lp:nv}{newId:String}(X:K.In h)(q:p7 K C Lp newId=true):
 ∃bm N nm qn bs hd sn sub ab col dd k0 k1 k2 k3 k5 mN,h.get? C=some (excClassObj nm qn C N bs bm hd sn sub ab col dd k0 k1 k2 k3 k5 newId)/\h.Ns N mN/\mN "__init__"=none/\OwnTail h Lp bm:=by
 have q1:=Bool.and_eq_true_iff.mp q;obtain⟨cd,hc,q2⟩:=(Option.any_eq_true _ _).mp q1.2;obtain⟨c,dd,sl,ho⟩:=Cz hc;have q3:=Bool.and_eq_true_iff.mp q2;have q4:=Bool.and_eq_true_iff.mp q3.2;have q5:=Bool.and_eq_true_iff.mp q4.2;have q6:=Bool.and_eq_true_iff.mp q5.2
 have e1:(c == .type "type"&&(sl.size==6&&sl.toList[4]?==some (some (.builtin newId))))=true:=by
  have z:=q1.1;rw[ho] at z;exact z
 have e2:=Bool.and_eq_true_iff.mp e1;have e3:=Bool.and_eq_true_iff.mp e2.2;obtain⟨k0,k1,k2,k3,k4,k5,e⟩:=EO (l:=sl.toList) (eq_of_beq e3.1)
 have e4:k4=some (.builtin newId):=by
  have z:=eq_of_beq e3.2;rw[e] at z;exact Option.some.inj z
 have e5:sl = #[k0,k1,k2,k3,some (.builtin newId),k5]:=Array.toList_inj.mp (by rw[e,e4])
 have e6:cd.mro=.ref C::cd.mro.tail:=by
  obtain⟨r,z⟩:=List.head?_eq_some_iff.mp (eq_of_beq q3.1);rw[z];rfl
 have e7:cd.hasDel=false:=by simpa using q4.1
 refine⟨cd.mro.tail,cd.ns,cd.name,cd.qualname,cd.bases,cd.hasDict,cd.slotNames,cd.subclasses,cd.abstract,cd.collection,dd,k0,k1,k2,k3,k5,_,(X _ _ ho).trans ?_,.of_isNs (PySem.W.isNs_of_in X q6.1),PySem.W.nsMap_none_of_in X q6.1 (eq_of_beq q6.2),PySem.W.tail_of_in X q5.1⟩;rw[e5,eq_of_beq e2.1];show some (Obj.mk _ _ (.cls cd) _)=some (Obj.mk _ _ (.cls ⟨_,_,_,_,_,_,_,_,_,_,false⟩) _);rw[<-e6,<-e7]
def xb (X:Cx)(E:St->XK):Prop:=∀(pins:List (Addr×Obj))(σ:St)(H:Hp)(s:GB)(h':Heap)(e:Addr)(cls:Value)(args:nv),Inv X pins σ H s->Heap.MadeExcOf s.heap h' e cls args->E σ cls none H->X.xe (.ref e) {s with heap:=h'}
def BG (C:Addr)(E:St->XK)(t:TA):TS:=λ_ σ H=>t σ H λvs H1=>vs.length<=sizeLine/\E σ (.ref C) none H1
section
variable {X:Cx}{E:St->XK}{x:Str}{C:Addr}{B newId LD:String}{Lp:nv}{np GY pos:Pos}{e:Expr}{es:Bj}{t:TA}
theorem iz (FB:ExcBaseFacts B newId LD Lp)(q:p7 X.K C Lp newId=true)(hc:X.calm=true)(hR:xb X E)(hg:Gl X x)(hm:X.mg x=some (.ref C))(ha:PA X (e::es) t)
 (he:starEach (e::es) X.env=(false,eval e X.env):: starEach es X.env:=by rfl)(IB:(backTo GY (starEach es X.env)).any (·.1)=false:=by rfl)(hd:(x==("__debug__":Str))=false:=by decide):
 PS X (.Raise (some (.Call (.Name x np) (e::es) [] GY)) none pos) (BG C E t):=by
 intro pins s σ H D I h;obtain⟨bm,N,nm,qn,bs,hdct,sn,sub,ab,col,dd,k0,k1,k2,k3,k5,mN,hC,hN,YH,T⟩:=yI I.ok.mod.kin q
 refine wpAny_Raise_call_subT (C:=C) (nm:=nm) (q:=qn) (N:=N) (bs:=bs) (bm:=bm) (hdct:=hdct) (sn:=sn) (sub:=sub) (ab:=ab) (col:=col) (dd:=dd) (k0:=k0) (k1:=k1) (k2:=k2) (k3:=k3) (k5:=k5)
  FB (mN:=mN) (T.hasType FB.hasBase) (I.ok.hd hc) (by rw[he];show(false || (backTo GY (starEach es X.env)).any (·.1))=false;rw[IB];rfl) YH (iu I hg hm ⟨rfl,?_⟩ hd)
 have z:=ha GY pins s σ H _ I h;rw[he] at z |-;refine Calls.evalArgs_plain (wpAny_mono z (λus s₂ z'=>?_) λ_ _ y=>y);obtain⟨vs,H2,I2,rv,hl,hE⟩:=z';exact⟨rfl,by rw[<-rv.length];exact hl,I2.bk _ _ hC,hN.keeps I2.bk,T.keeps I2.bk,λh' e' Q5=>hR pins σ H2 s₂ h' e' _ _ I2 Q5 hE⟩
end
section
variable {P:vB}{w:World}{K:PySem.W.Frag}{mg:vW}{base:Heap}{N:zF}{qual:Str}{scope:Scope}{f:Addr}{cd:Value}{A:Around}{outer:List Env}{s:GB}{H:Hp}{E:XK}
theorem fK:xb (gI (bf P w) P w K mg base N qual scope f cd A outer s H E) λ_=>E:=by
 intro pins σ H1 s1 h' e cls args I hm hE;have Nf:(gI (bf P w) P w K mg base N qual scope f cd A outer s H E).stack=(gI (bf P w) P w K mg base N qual scope f cd A outer s H E).env::outer:=rfl;have hl:=I.stack;obtain⟨t,he,htn,ht⟩:=hm.there;have hB:∀b o,(PySem.W.hideAll s1.heap (dG (gI (bf P w) P w K mg base N qual scope f cd A outer s H E).stack)).get? b=some o->s1.heap.get? b=some o:=λb o q=>PySem.W.of_hideAll _ q
 have nB:(PySem.W.hideAll s1.heap (dG (gI (bf P w) P w K mg base N qual scope f cd A outer s H E).stack)).get? e=none:=by
  cases q:(PySem.W.hideAll s1.heap (dG (gI (bf P w) P w K mg base N qual scope f cd A outer s H E).stack)).get? e with
  |none=>rfl
  |some o=>have z:=hB _ _ q;rw[hm.new] at z;cases z
 have YI:=PySem.W.funFrames_hide hl λenv he a ha=>List.mem_filterMap.mpr ⟨env,he,ha⟩
 refine uO (B:=PySem.W.hideAll s1.heap (dG (gI (bf P w) P w K mg base N qual scope f cd A outer s H E).stack)) (s:={s1 with heap:=h'}) (d:=none) (cls:=cls) (a0:=.ref t) I.ok.frames (YI.of_keeps λb o q _=>⟨o,hm.keeps b o q,rfl⟩) rfl
  (λb o q=>hm.keeps b o (hB b o q)) nB he rfl rfl rfl rfl rfl λJZ x1 x4=>?_
 exact⟨e,cls,.ref t,_,none,H1,rfl,I.os,I.bare,ql (outer:=outer) I rfl rfl hm rfl x1 x4,hE⟩
theorem qU:dU (bf P w) (gI (bf P w) P w K mg base N qual scope f cd A outer s H E) E:=by
 intro pins σ H1 s1 e s' I hx;obtain⟨a,cls,a0,B,d,H',rfl,ho,hg,F,hE⟩:=hx;refine zI (L:=s.heap.objs.size) I.ok.frames rfl F.fly λJZ x1 x2=>?_;exact⟨a,cls,a0,B,d,H',rfl,ho.trans I.os,hg,xS I rfl F x1 x2,hE⟩
end
theorem ag {X:Cx}:dU (bf P w) X λ_ _ _=>False:=by
 intro pins σ H1 s1 e s' I hx;obtain⟨a,cls,a0,B,d,H',_,_,_,_,hE⟩:=hx;exact hE.elim
def Dp (a:Addr)(cls:Value):HO:=.ext λh=>∃o vs,h.get? a=some o/\o.cls=cls/\o.data=.fields vs
theorem r8 (k:fR P w H h)(e:H a=some (Dp a cls)):∃o vs,h.get? a=some o/\o.cls=cls/\o.data=.fields vs:=(k a _ e).1
structure uk (K:Frag)(C:Addr):Prop where
 cls:(clsIn K C).isSome=true
 ga:findIn K (.ref C) "__getattribute__"=some (some (.builtin "BaseException.__getattribute__"))
 gx:findIn K (.ref C) "__getattr__"=some none
 ca:findIn K (.ref C) "__class__"=some (some (.builtin "object.__class__"))
 ob:mroIn K C (.type "object")=some true
 be:mroIn K C (.type "BaseException")=some true
section
variable {prog:vB}{w:World}{A:Around}{E:pL}{K:Frag}{x C:Addr}{ox:Obj}
theorem u4 {M:Model}{KR:Value}{Q:Unit->Shared->Prop}(X:K.In s.heap)(k:uk K C)(e:s.heap.get? x=some ox)(hc:ox.cls=.ref C)(hq:Q () s):
 wpAny M A (checkBuiltinCall "BaseException.__getattribute__" ⟨[.ref x,KR],[]⟩) Q E s:=by
 obtain⟨hh,g,d,t,os⟩:=s;have L0:Looks M hh (typeOf (.ref x)) (.ref C):=hc▸(Looks.ld e).andThen .now;have L5:=looks_mroIn (M:=M) X k.be
 have hk:builtinKind "BaseException.__getattribute__"=some .slot:=by decide +kernel
 have IE:splitId "BaseException.__getattribute__"=some ("BaseException","__getattribute__"):=by decide +kernel
 have ha:=F.args_bexc_ga (.ref x) KR;simp only[checkBuiltinCall,hk,IE];unfold isInstance
 repeat (any_goals (first|assumption|lk|wp_step))
open Builtin Builtin.ObjectAttr Builtin.Getset_descriptor in
theorem lN {R:Result->Shared->Prop}{tp:Value}(X:K.In s.heap)(k:uk K C)(e:s.heap.get? x=some ox)(hc:ox.cls=.ref C)(h:R (.ok (.ret (.ref C))) s):
 codeAny (model prog w) A (.call (.builtin "getset_descriptor.__get__") ⟨[.builtin "object.__class__",.ref x,tp],[]⟩) R s:=by
 obtain⟨hh,g,dr,t,os⟩:=s;have L0:Looks (model prog w) hh (typeOf (.ref x)) (.ref C):=hc▸(Looks.ld e).andThen .now;have L1:=looks_mroIn (M:=model prog w) X k.ob;refine codeAny_call_builtin KF.slot_gs.plain KF.entry_gs (KF.slot_gs.check _ _ _ _ _ _ _ _ KF.type_class (KF.args_gs _ _ _) ?_);unfold Builtin.«getset_descriptor.__get__» descrGet;rw[dga_obj];refine wpAny_bind (wpAny_pure ?_);unfold descrGetter descrCheckInstance descrNameAndClass isInstance;simp only[KF.owner_class]
 repeat lk
 refine⟨Code.quiet_builtin _ (by decide +kernel),codeAny_builtin KF.entry_class ?_⟩;unfold Builtin.«object.__class__» shownTypeOf
 repeat lk
 exact h
theorem jA {tk:Tok}{Q:PySem.Fin->Shared->Prop}(X:K.In s.heap)(k:uk K C)(e:s.heap.get? x=some ox)(hc:ox.cls=.ref C)(hq:Q (.done (.ret (.ref C))) s):
 wpAny (model prog w) A (Builtin.«object.__getattribute__» ⟨[.ref x,.str "__class__" tk],[]⟩) Q E s:=by
 obtain⟨hh,g,d,t,os⟩:=s;have L0:Looks (model prog w) hh (typeOf (.ref x)) (.ref C):=hc▸(Looks.ld e).andThen .now;have L3:=looks_findIn (M:=model prog w) X k.ca;have f5:=F.typeOf_object_class;have f6:=F.slot_gs_get.lookup;have f7:=F.slot_gs_set.lookup
 repeat (any_goals (first|assumption|(with_reducible refine Looks.at (by assumption) ?_)|(with_reducible refine Looks.at L0 ?_)|wp_step))
 refine lN X k e hc ?_
 repeat (any_goals (first|assumption|wp_step))
theorem nh {tk:Tok}{fill expr:Bool}{Q:pL}{s:GB}(X:K.In s.heap)(k:uk K C)(e:s.heap.get? x=some ox)(hc:ox.cls=.ref C)(hq:Q (.ref C) s):
 wpAny (model prog w) A (getAttrBy (.ref x) (.str "__class__" tk) fill expr) Q E s:=by
 obtain⟨hh,g,d,t,os⟩:=s;have L0:Looks (model prog w) hh (typeOf (.ref x)) (.ref C):=hc▸(Looks.ld e).andThen .now;have L1:=looks_findIn (M:=model prog w) X k.ga;have L2:=looks_findIn (M:=model prog w) X k.gx;have f3:=F.attr_ValueError.ga.bind (.ref x)
 have hx0:(expr&&onTheHeap (Value.builtin "BaseException.__getattribute__"))=false:=by cases expr <;> rfl
 have Ih:(Value.builtin "BaseException.__getattribute__"==Value.builtin "object.__getattribute__")=false:=by decide +kernel
 have ND:(onTheHeap (Value.ref C)&&Value.builtin "BaseException.__getattribute__"==Value.builtin "object.__getattribute__")=false:=by rw[Ih];rfl
 repeat (any_goals (first|assumption|(with_reducible refine Looks.at (by assumption) ?_)|(with_reducible refine Looks.at L0 ?_)|wp_step))
 refine codeAny_call_builtin F.attr_ValueError.ga.plain F.entry_bexc_ga (u4 X k e hc (jA X k e hc ?_))
 repeat (any_goals (first|assumption|wp_step))
theorem u7 {Q:Option Value->Shared->Prop}(X:K.In s.heap)(k:uk K C)(e:s.heap.get? x=some ox)(hc:ox.cls=.ref C)(hq:Q (some (.ref C)) {s with toks:=s.toks+1}):
 wpAny (model prog w) A (getAttr? (.ref x) "__class__") Q E s:=by
 unfold getAttr? getAttrBy?;refine wpAny_bind (wpAny_mkText (wpAny_bind (wpAny_attempt (nh (s:={s with toks:=s.toks+1}) X k e hc ?_))));exact wpAny_pure hq
theorem vV (k:uk K C):KitX K (.ref x) (.ref C) (λh=>∃o,h.get? x=some o/\o.cls=.ref C) where
 ty:=λ_ _ _ ⟨o,e,hc⟩=>hc▸(Looks.ld e).andThen .now
 it:=λ_ _ X _=>by
  have Kj:=k.cls;unfold clsIn at Kj
  split at Kj
  ·rename_i c' d' YJ JY ho
   intro A' Q' E' s' kk q;unfold isType loadHead;exact wpAny_bind (wpAny_loadPart (kk _ _ (X _ _ ho)) (wpAny_pure q))
  ·cases Kj
 ne:=λh tp dd its n sl X YK=>by
  have Kj:=k.cls;refine Bool.eq_false_iff.mpr λq=>?_;have e:C=tp:=Value.ref.inj (beq_iff_eq.mp q);subst e;unfold clsIn at Kj
  split at Kj
  ·rename_i c' d' YJ JY ho
   have z:=(X _ _ ho).symm.trans YK
   cases z
  ·cases Kj
 ca:=λX ⟨o,e,hc⟩ q=>u7 X k e hc q
end
section
variable {X:Cx}{pins:List (Addr×Obj)}{σ:St}{H:Hp}{s:GB}
inductive qB (K:Frag)(H:Hp):V->Value->Prop where
 |of {x:V}{t:Value}(h:Ek K H x t):qB K H x t
 |exc {a C:Addr}(e:H a=some (Dp a (.ref C)))(k:uk K C):qB K H (.ref a) (.ref C)
theorem Cj {A:Around}{E:pL}{Q:pL}{x:V}{u t c:Value}{b:Bool}(I:Inv X pins σ H s)(rx:aE x u)(ty:qB X.K H x t)(e:kitOne X.K t c=some b)(h:∀tk,Q (.bool b) {s with toks:=tk}):
 wpAny (model X.prog X.w) A (call (.builtin "isinstance") [u,c]) Q E s:=by
 cases ty with
 |of z=>exact ac4 I rx z e h
 |exc ea k =>
  rename_i a C
  cases(show u=Value.ref a from rx)
  obtain⟨o,vs,h1,h2,_⟩:=r8 I.hok ea;exact kia_one (vV k) I.kIn ⟨o,h1,h2⟩ e (λz=>nomatch z) h
def Fl:V->Value->Prop
 | .ty n,c=>c=.type n
 | .ref a,c=>c=.ref a
 |_,_=>False
theorem ba:eX X (.builtin "isinstance") (λxs H Q=>∃x c t cv b,xs=[x,c]/\Fl c cv/\qB X.K H x t/\kitOne X.K t cv=some b/\Q (.bl b) H):=by
 intro pins s σ H xs us Q I r h;obtain⟨x,c,t,cv,b,rfl,hc,ty,e,q⟩:=h
 cases r with
 |cons r1 r2 =>
  cases r2 with
  |cons r2 r3 =>
   cases r3
   rename_i u uc
   have YL:uc=cv:=by
    cases c with
    |ty n=>cases(show uc=Value.type n from r2);exact hc.symm
    |ref a=>cases(show uc=Value.ref a from r2);exact hc.symm
    |_=>exact hc.elim
   subst YL;exact Cj I r1 ty e λtk=>⟨.bl b,H,I.tok tk,rfl,q⟩
end
variable {N:zF}{k:Nat}{sp:Sp}
section
variable {P:vB}{w:World}{K:PySem.W.Frag}{mg:vW}{base:Heap}
theorem vM.okN (F:vM K x qual st f fd)(S:yJ N ps (ai st))(len:∀vs H Q E,sp vs H Q E->vs.length=ps.length)
 (HB:∀(GN:Value)(A:Around)(outer:List Env)(s:GB)(H:Hp)(vs:List V)(Q:VK)(E:XK),wK k (A.deeper (envOfC qual (ai st) s.heap.objs.size f GN))->sp vs H Q E →
  ∃t,pV (gI (bf P w) P w K mg base N qual (ai st) f GN A outer s H E).nox (cc st) t/\t {nx:=λ_ H'=>Q .non H',rt:=Q} (gL N vs) H):Bp P w K mg base (bf P w) (k+1) f fd ps sp:=by
 obtain⟨oc,od,kV,doc,pm,an,GN,ct,Hi,rfl,lk,HM⟩:=F.ex;refine vF lk HM S len λA outer s H vs Q E hr Jd=>?_;obtain⟨t,h,q⟩:=HB GN A outer s H vs Q E hr Jd;exact⟨t,h.nox,q⟩
theorem vM.okE (F:vM K x qual st f fd)(S:yJ N ps (ai st))(len:∀vs H Q E,sp vs H Q E->vs.length=ps.length)
 (HB:∀(GN:Value)(A:Around)(outer:List Env)(s:GB)(H:Hp)(vs:List V)(Q:VK)(E:XK),wK k (A.deeper (envOfC qual (ai st) s.heap.objs.size f GN))->sp vs H Q E →
  ∃t,pV (gI (bf P w) P w K mg base N qual (ai st) f GN A outer s H E) (cc st) t/\t {nx:=λ_ H'=>Q .non H',rt:=Q} (gL N vs) H):Bp P w K mg base (bf P w) (k+1) f fd ps sp:=by
 obtain⟨oc,od,kV,doc,pm,an,GN,ct,Hi,rfl,lk,HM⟩:=F.ex;exact vF lk HM S len λA outer s H vs Q E hr Jd=>HB GN A outer s H vs Q E hr Jd
end
section
variable {X:Cx}{pins:List (Addr×Obj)}{σ:St}{H:Hp}{s:GB}
theorem wY {x:V}{u t:Value}(I:Inv X pins σ H s)(rx:aE x u)(ty:qB X.K H x t):Looks (model X.prog X.w) s.heap (typeOf u) t:=by
 cases ty with
 |of ty =>
  cases ty with
  |non=>cases(show u=Value.none from rx);exact kitx_none.ty _ _ I.kIn True.intro
  |bl y=>cases(show u=Value.bool y from rx);exact kitx_bool.ty _ _ I.kIn True.intro
  |int i=>obtain⟨t,q⟩:=(show ∃t,u=Value.int i t from rx);cases q;exact kitx_int.ty _ _ I.kIn True.intro
  |str y=>obtain⟨t,q⟩:=(show ∃t,u=Value.str y t from rx);cases q;exact kitx_str.ty _ _ I.kIn True.intro
  |flt y=>obtain⟨t,q⟩:=(show ∃t,u=Value.float y t from rx);cases q;exact kitx_float.ty _ _ I.kIn True.intro
  |@lst a xs ea =>
   cases(show u=Value.ref a from rx)
   obtain⟨_,_,n,_,h1⟩:=(show bt X.prog X.w H s.heap a (.lst xs) from I.hok a _ ea);exact kitx_list.ty _ _ I.kIn ⟨_,h1,rfl⟩
  |@frz a ob xs ea =>
   cases(show u=Value.ref a from rx)
   obtain⟨_,_,_,n,_,h1⟩:=(show bt X.prog X.w H s.heap a (.frz ob (.lst xs)) from I.hok a _ ea);exact kitx_list.ty _ _ I.kIn ⟨_,h1,rfl⟩
  |@tup a xs ea =>
   cases(show u=Value.ref a from rx)
   obtain⟨_,_,_,p⟩:=(show bt X.prog X.w H s.heap a (.tup xs) from I.hok a _ ea);obtain⟨o,h1,h2,_⟩:=p;exact kitx_tuple.ty _ _ I.kIn ⟨o,h1,h2⟩
  |@dK a GH ea =>
   cases(show u=Value.ref a from rx)
   obtain⟨_,_,vs,_,p⟩:=(show bt X.prog X.w H s.heap a (.dK GH) from I.hok a _ ea);obtain⟨o,es,ep,h1,h2,_⟩:=p;exact kitx_dict.ty _ _ I.kIn ⟨o,h1,h2.1⟩
  |@dT a GH ea =>
   cases(show u=Value.ref a from rx)
   obtain⟨_,_,xs,_,o,es,ep,h1,h2,_⟩:=(show bt X.prog X.w H s.heap a (.dT GH) from I.hok a _ ea);exact kitx_dict.ty _ _ I.kIn ⟨o,h1,h2.1⟩
  |@ins a C dx fs ea cl ha hn Nh hm =>
   cases(show u=Value.ref a from rx)
   obtain⟨mA,O,_⟩:=fh I.hok ea;obtain⟨od,J,_⟩:=O.look;exact J.type
 |exc ea k =>
  rename_i a C
  cases(show u=Value.ref a from rx)
  obtain⟨o,vs,h1,h2,_⟩:=r8 I.hok ea;exact h2▸(Looks.ld h1).andThen .now
end
variable {K:Frag}
section
variable {X:Cx}{CX:D0}{k:Nat}{f C:Addr}{fd:EK}{ps:zF}{sp:Sp}{E:XK}
def wX (K:Frag)(C:Addr)(sp:Sp)(E:XK)(neg:Bool):R2:=λx y H Q=>∃p dx fs t,x=.ref p/\H p=some (.ins C dx fs)/\qB K H y t/\notFirst K C t=true/\sp [x,y] H (λv H'=>∃b,v=.bl b/\Q (.bl (b != neg)) H') E
theorem ym (hs:findIn X.K (.ref C) "__eq__"=some (some (.ref f)))(hf:isFn X.K (.ref f)=true)(F:Bp X.prog X.w X.K X.mg X.base CX k f fd ps sp)(hr:wK k X.A)(hb:ay X.K fd ps [])(hx:dU CX X E):
 dC X (compareOp .Eq) (wX X.K C sp E false):=by
 intro pins s σ H x y v u Q I rx ry h;obtain⟨p,dx,fs,t,rfl,ep,ty,hn,q⟩:=h
 cases(show v=Value.ref p from rx)
 obtain⟨mA,O,_⟩:=fh I.hok ep;obtain⟨od,J,_⟩:=O.look;obtain⟨m,Fm⟩:=I.fr;refine cmp_ofEq (cmp_K hr.aaY Fm I.mod.kin J (wY I ry ty) hn hs hf ?_);refine bA (nM (dvs:=[]) F hr hb .nil hx I (us:=[.ref p,u]) (vs:=[.ref p,y]) (.cons rx (.cons ry .nil)) q) λr s1 z'=>?_;obtain⟨z,H1,I1,rz,b,eb,q1⟩:=z';subst eb
 cases(show r=Value.bool b from rz)
 exact⟨.bl b,H1,I1,rfl,by simpa using q1⟩
theorem yz {Q:VK}{us:nv}{vs:List V}(F:Bp X.prog X.w X.K X.mg X.base CX k f fd ps sp)(hr:wK (k+1) X.A)(hb:ay X.K fd ps [])(hx:dU CX X E)
 (I:Inv X pins σ H s)(r:aL vs us)(h:sp vs H Q E):wpAny (model X.prog X.w) X.A.in1 (call (.ref f) us) (EP X pins σ Q) X.xe s:=by
 have hl:us.length=ps.length:=by rw[<-r.length];exact F.len _ _ _ _ h
 have Hj:=hb s us I.kIn (by rw[List.append_nil];exact hl);rw[List.append_nil] at Hj;refine wpAny_call (codeAny_mono (F.run X.A.in1 X.stack s H ⟨us,[]⟩ us vs Q E hr.in1 I.abB.in1 Hj r h) λr s' hq=>?_)
 cases r with
 |error e=>exact hx pins σ H s e s' I hq
 |ok fl =>
  cases fl with
  |ret u=>exact I.after hq
  |next=>exact False.elim hq
  |brk=>exact False.elim hq
  |cont=>exact False.elim hq
theorem wH {M:Model}{A:Around}{E':pL}{x:Addr}{b:Value}{ox:Obj}{od:Option Obj}{Q:Unit->Shared->Prop}(X:K.In s.heap)(J:InstAt s.heap x ox C od)(hm:mroIn K C (.type "object")=some true)(hq:Q () s):
 wpAny M A (checkBuiltinCall "object.__ne__" ⟨[.ref x,b],[]⟩) Q E' s:=by
 obtain⟨hh,g,d,t,os⟩:=s;have L0:=J.type (M:=M);have L5:=looks_mroIn (M:=M) X hm;have hk:=F.cmpKind_ne;have IE:=F.cmpSplit_ne;have ha:=F.cmpArgs_ne (.ref x) b;simp only[checkBuiltinCall,hk,IE];unfold isInstance
 repeat (any_goals (first|assumption|lk|wp_step))
theorem xc (hs:findIn X.K (.ref C) "__eq__"=some (some (.ref f)))(hf:isFn X.K (.ref f)=true)(IC:findIn X.K (.ref C) "__ne__"=some (some (.builtin "object.__ne__")))(hm:mroIn X.K C (.type "object")=some true)
 (F:Bp X.prog X.w X.K X.mg X.base CX k f fd ps sp)(hr:wK (k+1) X.A)(hb:ay X.K fd ps [])(hx:dU CX X E):
 dC X (compareOp .NotEq) (wX X.K C sp E true):=by
 intro pins s σ H x y v u Q I rx ry h;obtain⟨p,dx,fs,t,rfl,ep,ty,hn,q⟩:=h
 cases(show v=Value.ref p from rx)
 obtain⟨mA,O,_⟩:=fh I.hok ep;obtain⟨od,J,_⟩:=O.look;have hu:X.A.units+64<cLine:=hr.units
 have NG:wpAny (model X.prog X.w) X.A.in1 (call (.ref f) [.ref p,u]) (λr s'=>∃b,r=.bool b/\EP X pins σ Q (.bool (!b)) s') X.xe s:=by
  refine wpAny_mono (yz F hr hb hx I (us:=[.ref p,u]) (vs:=[.ref p,y]) (.cons rx (.cons ry .nil)) q) (λr s1 z'=>?_) λ_ _ e=>e;obtain⟨z,H1,I1,rz,b,eb,q1⟩:=z';subst eb
  cases(show r=Value.bool b from rz)
  exact⟨b,rfl,.bl (!b),H1,I1,rfl,by simpa using q1⟩
 have entry:wpAny (model X.prog X.w) X.A.in1 (Builtin.«object.__ne__» ⟨[.ref p,u],[]⟩) (λfin s'=>∃b,fin=.done (.ret (.bool (!b)))/\EP X pins σ Q (.bool (!b)) s') X.xe s:=by
  unfold Builtin.«object.__ne__»;refine wpAny_bind (m:=slotArgs "__ne__" 1 _) (wpAny_pure ?_);refine wpAny_bind (wpAny_cRoomFor (by show X.A.units+1<cLine;omega) ?_);refine wpAny_bind (ifBound_K I.kIn J hs hf (wpAny_mono NG (λr s1 z=>?_) λ_ _ e=>e));obtain⟨b,rfl,q1⟩:=z;exact wpAny_bind (wpAny_truthy_bool (wpAny_pure ⟨b,rfl,q1⟩))
 have S:=PySem.F.cmp_object.ne
 have inner:wpAny (model X.prog X.w) X.A (callSpecialIfBound? (.ref p) "__ne__" [u]) (λr s'=>∃b,r=some (.bool (!b))/\EP X pins σ Q (.bool (!b)) s') X.xe s:=by
  simp only[callSpecialIfBound?,bindSpecialIfBound?];refine wpAny_holding (wpAny_bind (wpAny_bind (wpAny_bind (J.type.here ((looks_findIn I.kIn IC).here ?_)))));simp only[S.bind];refine wpAny_bind (wpAny_askSetting (wpAny_ite ?_))
  have fin:wpAny (model X.prog X.w) X.A (call (.builtin "object.__ne__") ([.ref p]++[u])>>=λv=>pure (some v)) (λr s'=>∃b,r=some (.bool (!b))/\EP X pins σ Q (.bool (!b)) s') X.xe s:=by
   refine wpAny_bind (wpAny_call (codeAny_call_builtin S.plain PySem.F.cmpEntry_ne (wH I.kIn J hm (wpAny_mono entry (λfin s1 z=>?_) λ_ _ e=>e))));obtain⟨b,rfl,q1⟩:=z;exact wpAny_pure ⟨b,rfl,q1⟩
  split
  ·exact wpAny_bind (wpAny_pure (wpAny_pure fin))
  ·exact wpAny_tryCatch (wpAny_bind (wpAny_pure (wpAny_pure fin)))
 have one:wpAny (model X.prog X.w) X.A (tryCompare (.ref p) "__ne__" u) (λr s'=>∃v,r=some v/\EP X pins σ Q v s') X.xe s:=by
  unfold tryCompare;refine wpAny_bind (wpAny_mono inner (λr s1 z=>?_) λ_ _ e=>e);obtain⟨b,rfl,q1⟩:=z;exact wpAny_pure ⟨_,rfl,q1⟩
 refine cmp_ofNotEq ?_;unfold richCompare;simp only[oneThing_ref];refine wpAny_holding (wpAny_bind (wpAny_cRoomFor (by omega) ?_));rw[cmpInfo_NotEq];dsimp only;refine wpAny_bind (J.type.here (wpAny_bind ((wY I ry ty).here ?_)))
 split
 ·rename_i qq
  have e:subIn X.K t (.ref C)=some false:=by
   rcases Bool.or_eq_true_iff.mp hn with e|e
   ·rw[beq_iff_eq.mp e] at qq;simp at qq
   ·exact beq_iff_eq.mp e
  refine wpAny_bind ((looks_subIn I.kIn e).here ?_);simp only[Bool.false_eq_true,if_false];refine wpAny_bind (wpAny_mono one (λr s' z=>?_) λ_ _ e=>e);obtain⟨v,rfl,hq⟩:=z;exact wpAny_pure hq
 ·refine wpAny_bind (wpAny_pure ?_);simp only[Bool.false_eq_true,if_false];refine wpAny_bind (wpAny_mono one (λr s' z=>?_) λ_ _ e=>e);obtain⟨v,rfl,hq⟩:=z;exact wpAny_pure hq
end
section
variable {X:Cx}
def Cc (K:PySem.W.Frag):R2:=λx y H Q=>∃p q xs,x=.ref p/\y=.ref q/\aN K H p xs/\aN K H q []/\Q (.bl (decide (xs=[]))) H
theorem vt (hr:wK k X.A):dC X (compareOp .Eq) (Cc X.K):=by
 intro pins s σ H x y v u Q I rx ry h;obtain⟨p,q,xs,rfl,rfl,h1,h2,w⟩:=h
 cases(show v=Value.ref p from rx)
 cases(show u=Value.ref q from ry)
 obtain⟨its,r1,p1,_⟩:=I.list h1;obtain⟨GP,r2,p2,_⟩:=I.list h2
 cases r2
 by_cases e:xs=[]
 ·subst e
  cases r1
  refine SeqAt.eq_listAt (e:=λ_=>true) p1.isList p2.isList rfl hr.aaY (λj a b=>absurd a (by simp)) ⟨.bl true,H,I,?_,by simpa using w⟩;rfl
 ·refine SeqAt.eq_list_lengthsAt p1.isList p2.isList ?_ hr.aaY ⟨.bl false,H,I,rfl,by simpa[e] using w⟩;have hl:=r1.length;have hx:xs.length≠0:=λz=>e (List.eq_nil_of_length_eq_zero z)
  have:its.toArray.size≠0:=by rw[List.size_toArray];omega
  simpa using this
end
def xo (tabs:List (Addr×Addr))(H:Hp):Prop:=(∀b,H b=none\/(∃o xs,H b=some (.frz o (.lst xs)))\/(H b=some (.tbl #[])/\∃c,(c,b)∈tabs))/\∀q∈tabs,H q.2=some (.tbl #[])
structure uD (tabs:List (Addr×Addr))(mg:vW)(base:Heap):Prop where
 hd:∀q∈tabs,CodeHd base q.1 q.2
 bm:∃bm ob,mg "__builtins__"=some (.ref bm)/\bm≠builtinsNs/\base.get? bm=some ob/\ob.cls=.type "module"/\ob.dict=some builtinsNs/\ob.data=.plain
theorem uZ {mg mb:vW}{CX:D0}{fa:Addr}{s₁:GB}{vs:nv}{ns:List Int}{tabs:List (Addr×Addr)}
 (KX:K.In s₁.heap)(IC:s₁.heap.Ns mainGlobals mg)(hb:s₁.heap.Ns builtinsNs mb)(YM:∀x:Str,x ≠ "__name__"->mb x=bootBuiltins x)(Sg:s₁.heap.NoLimit)(hg:s₁.gens = #[])
 (ha:s₁.heap.get? a=some {cls:=.type "list",data:=.seq vs.toArray})(hi:IntsAre vs ns)(hl:ns.length<=sizeLine)(hr:wK k callerA)(hT:TabsAt tabs s₁.heap)(YN:∀q∈tabs,K.lookup q.2=none)
 (YO:∃bm ob,mg "__builtins__"=some (.ref bm)/\bm≠builtinsNs/\s₁.heap.get? bm=some ob/\ob.cls=.type "module"/\ob.dict=some builtinsNs/\ob.data=.plain)
 (F:∀base:Heap,K.In base->base.Ns mainGlobals mg->uD tabs mg base->Bp P w K mg base CX k fa fd [x] sp)(NH:∀(s:GB)(u:Value),BindsTo s fd ⟨[u],[]⟩ [(x,u)])
 (Jd:∀H:Hp,xo tabs H->aN K H a (ns.map V.int)->sp [.ref a] H (λv _=>v=.bl true) λ_ _ _=>False)
 (Sh:∀H e s',CX [] H s₁ (λ_ _ _=>False) e s'->False):
 codeAny (model P w) callerA (.call (.ref fa) ⟨[.ref a],[]⟩) (λr s'=>r=.ok (.ret (.bool true))/\OldK s₁.heap s'.heap/\s'.os=s₁.os/\AllBare s'.gens) s₁:=by
 have rv:=lO hi;have Si:=hi.length;have p6:∀b,(∃c,(c,b)∈tabs)->s₁.heap.get? b=some (tabObj #[]):=λb ⟨c,hc⟩=>(hT _ hc).2
 have core:∀H:Hp,xo tabs H->aN K H a (ns.map V.int)->fR P w H s₁.heap->(∀b,H b≠none->b=a\/∃c,(c,b)∈tabs)->(H a≠none->K.lookup a=none) →
  codeAny (model P w) callerA (.call (.ref fa) ⟨[.ref a],[]⟩) (λr s'=>r=.ok (.ret (.bool true))/\OldK s₁.heap s'.heap/\s'.os=s₁.os/\AllBare s'.gens) s₁:=by
  intro H hO hS hok hA hK;have base_of:∀{b:Addr}{o:Obj},s₁.heap.get? b=some o->H b=none->(lK s₁.heap H).get? b=some o:=λe n=>aay e n
  have Wk:∀{b:Addr}{o:Obj},s₁.heap.get? b=some o->o.cls≠.none->(∀its n,o.data≠.seq its n)->H b=none:=λ{b o} e d1 d2=>by
   cases q:H b with
   |none=>rfl
   |some u =>
    rcases hA b (by rw[q];simp) with e'|e'
    ·subst e';rw[ha] at e;cases e;exact absurd rfl (d2 _ _)
    ·rw[p6 b e'] at e;cases e;exact absurd rfl d1
  have Nk:∀{b:Addr}{o:Obj}{es:Array DictEntry}{ep:Nat},s₁.heap.get? b=some o->o.data=.dict es ep->H b=none:=λ{b o es ep} e d=>by
   cases q:H b with
   |none=>rfl
   |some u =>
    rcases hA b (by rw[q];simp) with e'|e'
    ·subst e';rw[ha] at e;cases e;have d':Data.seq vs.toArray _=Data.dict es ep:=d
     cases d'
    ·rw[p6 b e'] at e;cases e;have d':Data.fields #[]=Data.dict es ep:=d
     cases d'
  have Q6:∀{b:Addr}{m:vW},s₁.heap.Ns b m->(lK s₁.heap H).Ns b m:=λ{b m} ⟨o,es,ep,e,d,r⟩=>⟨o,es,ep,base_of e (Nk e d),d,r⟩
  have Wl:K.In (lK s₁.heap H):=λb o e=>base_of (KX b o e) (by
   cases q:H b with
   |none=>rfl
   |some u =>
    rcases hA b (by rw[q];simp) with e'|⟨c,e'⟩
    ·subst e';rw[hK (by rw[q];simp)] at e;cases e
    ·have z:=YN _ e'
     rw[z] at e;cases e)
  have hM:Mod K mg (lK s₁.heap H):=⟨Wl,Q6 IC,⟨mb,Q6 hb,YM⟩,let⟨mc,h1,h2⟩:=Sg;⟨mc,Q6 h1,h2⟩⟩
  have YQ:uD tabs mg (lK s₁.heap H):=by
   refine⟨λq hq=>?_,?_⟩
   ·obtain⟨o,ws,file,tf,flags,tg,YR,text,tt,e1,r1,r2,r3⟩:=(hT q hq).1;exact⟨o,ws,file,tf,flags,tg,YR,text,tt,base_of e1 (Wk e1 (by rw[r1];intro z;cases z) (λits n z=>by rw[r2] at z;cases z)),r1,r2,r3⟩
   ·obtain⟨bm,ob,b1,b2,b3,b4,b5,b6⟩:=YO;exact⟨bm,ob,b1,b2,base_of b3 (Wk b3 (by rw[b4];intro z;cases z) (λits n z=>by rw[b6] at z;cases z)),b4,b5,b6⟩
  have e0:BP P w K mg (lK s₁.heap H) callerA [] s₁ H:=⟨rfl,hM,λb o e=>abu e,Nat.le_of_eq (aax _ _),trivial,λb hb=>absurd (show b∈([]:List Addr) from hb) (by simp),hok,.of_eq hg⟩;refine codeAny_mono ((F _ Wl (Q6 IC) YQ).run callerA [] s₁ H ⟨[.ref a],[]⟩ [.ref a] [.ref a] _ _ hr e0 (NH s₁ (.ref a)) (.cons rfl .nil) (Jd H hO hS)) λr s' h=>?_
  cases r with
  |error e=>exact(Sh H e s' h).elim
  |ok fl =>
   cases fl with
   |next=>exact False.elim h
   |brk=>exact False.elim h
   |cont=>exact False.elim h
   |ret u =>
    obtain⟨v,H',os,bare,un,NJ,r',q⟩:=h;have q':v=.bl true:=q;subst q';obtain rfl:u=Value.bool true:=r';refine⟨rfl,⟨λb o e=>?_,λb o e=>un.there b o e (by simp)⟩,os,bare⟩
    cases q:H b with
    |none=>exact .inl (un.keep b o e q (by intro z;exact absurd (show b∈([]:List Addr) from z) (by simp)) (by simp))
    |some u =>
     rcases hO.1 b with z|⟨ob,xs,z⟩|⟨z,c,hc⟩
     ·rw[q] at z;cases z
     ·have z2:=un.aal b ob _ z;obtain⟨e1,_⟩:=hok b _ z;obtain⟨e2,_⟩:=NJ b _ z2;rw[e] at e1;cases e1;exact .inl e2
     ·obtain⟨more,z2⟩:=un.aau b _ z;have e2:s'.heap.get? b=some {cls:=.none,data:=.fields (#[]++more)}:=NJ b _ z2;have e1:=p6 b ⟨c,hc⟩;rw[e] at e1;cases e1;exact .inr (.inl ⟨((hT _ hc).1.tab (hT _ hc).2).isCodeTable,rfl,#[],more,rfl,e2⟩)
 have aT:∀c,(c,a)∉tabs:=λc hc=>by
  have z:=p6 a ⟨c,hc⟩;rw[ha] at z
  cases z
 have NK:∀b,Decidable (∃c,(c,b)∈tabs):=λb=>Classical.propDecidable _
 cases hk:K.lookup a with
 |some o =>
  have e:=KX a o hk;rw[ha] at e
  cases e
  refine core (λb=>@ite _ (∃c,(c,b)∈tabs) (NK b) (some (.tbl #[])) none) ⟨λb=>?_,λq hq=>?_⟩ (.inr ⟨_,vs.toArray,_,hk,rfl,rfl,rfl,by rw[List.size_toArray,Si];exact hl,by simpa using rv⟩) (λb u z=>?_) (λb z=>?_) λz=>?_
  ·by_cases hb:∃c,(c,b)∈tabs
   ·exact .inr (.inr ⟨if_pos hb,hb⟩)
   ·exact .inl (if_neg hb)
  ·exact if_pos ⟨q.1,hq⟩
  ·by_cases hb:∃c,(c,b)∈tabs
   ·have z':=(if_pos hb).symm.trans z
    cases z'
    exact p6 b hb
   ·have z':=(if_neg hb).symm.trans z
    cases z'
  ·by_cases hb:∃c,(c,b)∈tabs
   ·exact .inr hb
   ·exact absurd (if_neg hb) z
  ·exact absurd (if_neg λ⟨c,hc⟩=>aT c hc) z
 |none =>
  refine core (λb=>if b=a then some (.frz {cls:=.type "list",data:=.seq vs.toArray} (.lst (ns.map V.int))) else @ite _ (∃c,(c,b)∈tabs) (NK b) (some (.tbl #[])) none) ⟨λb=>?_,λq hq=>?_⟩ (.inl (.inr ⟨{cls:=.type "list",data:=.seq vs.toArray},if_pos rfl⟩)) (λb u z=>?_) (λb z=>?_) λ_=>hk
  ·by_cases hb:b=a
   ·exact .inr (.inl ⟨_,_,if_pos hb⟩)
   ·by_cases ht:∃c,(c,b)∈tabs
    ·exact .inr (.inr ⟨(if_neg hb).trans (if_pos ht),ht⟩)
    ·exact .inl ((if_neg hb).trans (if_neg ht))
  ·have hb:q.2≠a:=λz=>aT q.1 (by rw[<-z];exact hq);exact(if_neg hb).trans (if_pos ⟨q.1,hq⟩)
  ·by_cases hb:b=a
   ·have z':=(if_pos hb).symm.trans z
    cases z'
    subst hb;exact⟨ha,by rw[List.length_map];exact hl,vs,_,rv,ha⟩
   ·have z':=(if_neg hb).symm.trans z
    by_cases ht:∃c,(c,b)∈tabs
    ·have z2:=(if_pos ht).symm.trans z'
     cases z2
     exact p6 b ht
    ·have z2:=(if_neg ht).symm.trans z'
     cases z2
  ·by_cases hb:b=a
   ·exact .inl hb
   ·by_cases ht:∃c,(c,b)∈tabs
    ·exact .inr ht
    ·exact absurd ((if_neg hb).trans (if_neg ht)) z
structure Fx (K:Frag)(x qual:Str)(st:Stmt)(f:Addr)(fd:EK)(T:Addr):Prop where
 ex:∃(oc:Value)(od:BY)(kV doc pm:Value)(an:BY)(GN ct:Value)(Hi:Ds),
  fd=fnOf x qual (cP st) (cc st) (ai st) (.ref T) kV doc pm an GN ct/\K.lookup f=some ⟨oc,od,.func fd,Hi⟩/\codeIn K GN qual=true
 kp:keepIn K (.ref f)=true
section
variable {P:vB}{w:World}{K:Frag}{mg:vW}{base:Heap}
theorem Fx.okE {T:Addr}(F:Fx K x qual st f fd T)(S:yJ N ps (ai st))(len:∀vs H Q E,sp vs H Q E->vs.length=ps.length)
 (HB:∀(GN:Value)(A:Around)(outer:List Env)(s:GB)(H:Hp)(vs:List V)(Q:VK)(E:XK),wK k (A.deeper (envOfC qual (ai st) s.heap.objs.size f GN))->sp vs H Q E →
  ∃t,pV (gI (bf P w) P w K mg base N qual (ai st) f GN A outer s H E) (cc st) t/\t {nx:=λ_ H'=>Q .non H',rt:=Q} (gL N vs) H):Bp P w K mg base (bf P w) (k+1) f fd ps sp:=by
 obtain⟨oc,od,kV,doc,pm,an,GN,ct,Hi,rfl,lk,HM⟩:=F.ex;exact vF lk HM S len λA outer s H vs Q E hr Jd=>HB GN A outer s H vs Q E hr Jd
theorem zO {T:Addr}{oc:Value}{od an:BY}{Hi:Ds}{kV doc pm GN ct:Value}(l:K.lookup f=some ⟨oc,od,.func (fnOf x qual (cP st) (cc st) (ai st) (.ref T) kV doc pm an GN ct),Hi⟩)
 (c:codeIn K GN qual=true)(k:keepIn K (.ref f)=true):Fx K x qual st f (fnOf x qual (cP st) (cc st) (ai st) (.ref T) kV doc pm an GN ct) T:=⟨⟨oc,od,kV,doc,pm,an,GN,ct,Hi,rfl,l,c⟩,k⟩
end
def dB:Expr->Bool
 | .Starred _ _=>true
 |_=>false
theorem aK {e:Expr}{rest:Bj}(h:dB e=false):starEach (e::rest) env=(false,eval e env):: starEach rest env:=by
 cases e <;> first|rfl|cases h
section
variable {X:Cx}{e:Expr}{es:Bj}{te:TE}{t:TA}
theorem ak (ha:PE X e te)(hr:PA X es t)(h:dB e=false:=by rfl):PA X (e::es) (dm te t):=bF ha hr (aK h)
end
inductive D where
 |non|bl (b:Bool)|int (i:Int)|str (x:Str)|lst (ds:List D)|tup (ds:List D)
mutual
def aI (K:Frag)(H:Hp):D->V->Prop
 | .non,v=>v=.non
 | .bl b,v=>v=.bl b
 | .int i,v=>v=.int i
 | .str x,v=>v=.str x
 | .lst ds,v=>∃a xs,v=.ref a/\aN K H a xs/\aV K H ds xs
 | .tup ds,v=>∃a xs,v=.ref a/\bo K H a xs/\aV K H ds xs
def aV (K:Frag)(H:Hp):List D->List V->Prop
 |[],xs=>xs=[]
 |d::ds,xs=>∃y ys,xs=y::ys/\aI K H d y/\aV K H ds ys
end
mutual
def iN:D->D->Bool
 | .non,.non=>true
 | .bl a,.bl b=>a==b
 | .bl a,.int b=>(if a then 1 else 0)==b
 | .int a,.bl b=>a==(if b then 1 else 0)
 | .int a,.int b=>a==b
 | .str a,.str b=>a==b
 | .lst a,.lst b=>eU a b
 | .tup a,.tup b=>eU a b
 |_,_=>false
def eU:List D->List D->Bool
 |[],[]=>true
 |a::as,b::bs=>iN a b&&eU as bs
 |_,_=>false
end
mutual
def gF:D->Nat
 | .lst ds=>cZ ds+1
 | .tup ds=>cZ ds+1
 |_=>0
def cZ:List D->Nat
 |[]=>0
 |d::ds=>max (gF d) (cZ ds)
end
theorem sV:∀{ds:List D}{d:D},d∈ds->gF d<=cZ ds
 |e::ds,d,h=>by
  unfold cZ
  rcases List.mem_cons.mp h with rfl|h
  ·exact Nat.le_max_left _ _
  ·exact Nat.le_trans (sV h) (Nat.le_max_right _ _)
theorem hJ:∀(as bs:List D),eU as bs=((List.range (min as.length bs.length)).all (λj=>iN (as.getD j .non) (bs.getD j .non))&&as.length==bs.length)
 |[],[]=>rfl
 |[],b::bs=>by simp;rfl
 |a::as,[]=>by simp;rfl
 |a::as,b::bs=>by
  show(iN a b&&eU as bs)=_;rw[hJ as bs]
  have e:min (a::as).length (b::bs).length=min as.length bs.length+1:=by simp[Nat.succ_min_succ]
  rw[e,List.range_succ_eq_map,List.all_cons,List.all_map]
  have h1:((a::as).length==(b::bs).length)=(as.length==bs.length):=by simp
  rw[h1,Bool.and_assoc];rfl
theorem aV.len :∀{ds:List D}{xs:List V},aV K H ds xs->ds.length=xs.length
 |[],xs,h=>by
  have h:xs=[]:=by unfold aV at h;exact h
  rw[h];rfl
 |d::ds,xs,h=>by
  unfold aV at h;obtain⟨y,ys,rfl,_,h⟩:=h;simp[aV.len h]
theorem aV.get :∀{ds:List D}{xs:List V}{j:Nat}(hj:j<xs.length),aV K H ds xs->aI K H (ds.getD j .non) xs[j]/\ds.getD j .non∈ds
 |[],xs,j,hj,h=>by
  have h:xs=[]:=by unfold aV at h;exact h
  subst h;exact absurd hj (by simp)
 |d::ds,xs,j,hj,h=>by
  unfold aV at h;obtain⟨y,ys,rfl,hd,h⟩:=h
  cases j with
  |zero=>exact⟨hd,List.mem_cons_self⟩
  |succ j =>
   obtain⟨h1,h2⟩:=aV.get (j:=j) (by simpa using hj) h;exact⟨h1,List.mem_cons_of_mem _ h2⟩
mutual
theorem dY:∀d:D,iN d d=true
 | .non=>rfl
 | .bl b=>beq_self_eq_true b
 | .int i=>beq_self_eq_true i
 | .str x=>beq_self_eq_true x
 | .lst ds=>iX ds
 | .tup ds=>iX ds
theorem iX:∀ds:List D,eU ds ds=true
 |[]=>rfl
 |d::ds=>by show(iN d d&&eU ds ds)=true;rw[dY d,iX ds];rfl
end
section
variable {X:Cx}{pins:List (Addr×Obj)}{σ:St}{H:Hp}{s:GB}
theorem fV (I:Inv X pins σ H s){xs ys:List V}(h1:aN X.K H a xs)(h2:bo X.K H a ys):False:=by
 obtain⟨its,_,p1,_⟩:=I.list h1;obtain⟨GP,_,p2,_⟩:=I.tuple h2;exact SeqAt.ne_of_list_tuple p1.isList (show s.heap.IsTuple a GP.toArray from p2) rfl
mutual
theorem j9 (I:Inv X pins σ H s):∀(d e:D)(v:V),aI X.K H d v->aI X.K H e v->iN d e=true
 | .non,e,v,h1,h2=>by
   unfold aI at h1;subst h1
   cases e <;> unfold aI at h2 <;> first|(obtain⟨_,_,z,_⟩:=h2;cases z;done)|rfl|(cases h2;done)
 | .bl b,e,v,h1,h2=>by
   unfold aI at h1;subst h1
   cases e <;> unfold aI at h2 <;> first|(obtain⟨_,_,z,_⟩:=h2;cases z;done)|(cases h2;exact dY _)|(cases h2;done)
 | .int b,e,v,h1,h2=>by
   unfold aI at h1;subst h1
   cases e <;> unfold aI at h2 <;> first|(obtain⟨_,_,z,_⟩:=h2;cases z;done)|(cases h2;exact dY _)|(cases h2;done)
 | .str b,e,v,h1,h2=>by
   unfold aI at h1;subst h1
   cases e <;> unfold aI at h2 <;> first|(obtain⟨_,_,z,_⟩:=h2;cases z;done)|(cases h2;exact dY _)|(cases h2;done)
 | .lst ds,e,v,h1,h2=>by
   unfold aI at h1;obtain⟨a,xs,rfl,q,r⟩:=h1
   cases e with
   |lst es =>
    unfold aI at h2;obtain⟨b,ys,z,q2,r2⟩:=h2
    cases z
    have e:=I.aav q q2;subst e;exact i6 I ds es xs r r2
   |tup es =>
    unfold aI at h2;obtain⟨b,ys,z,q2,r2⟩:=h2
    cases z
    exact(fV I q q2).elim
   |_=>unfold aI at h2;cases h2
 | .tup ds,e,v,h1,h2=>by
   unfold aI at h1;obtain⟨a,xs,rfl,q,r⟩:=h1
   cases e with
   |tup es =>
    unfold aI at h2;obtain⟨b,ys,z,q2,r2⟩:=h2
    cases z
    have e:=I.aaA q q2;subst e;exact i6 I ds es xs r r2
   |lst es =>
    unfold aI at h2;obtain⟨b,ys,z,q2,r2⟩:=h2
    cases z
    exact(fV I q2 q).elim
   |_=>unfold aI at h2;cases h2
theorem i6 (I:Inv X pins σ H s):∀(ds es:List D)(xs:List V),aV X.K H ds xs->aV X.K H es xs->eU ds es=true
 |[],es,xs,h1,h2=>by
  unfold aV at h1;subst h1
  cases es with
  |nil=>rfl
  |cons e es=>unfold aV at h2;obtain⟨_,_,z,_⟩:=h2;cases z
 |d::ds,es,xs,h1,h2=>by
  unfold aV at h1;obtain⟨y,ys,rfl,hd,h1⟩:=h1
  cases es with
  |nil=>unfold aV at h2;cases h2
  |cons e es =>
   unfold aV at h2;obtain⟨_,_,z,he,h2⟩:=h2
   cases z
   show(iN d e&&eU ds es)=true;rw[j9 I d e y hd he,i6 I ds es ys h1 h2];rfl
end
theorem kh (I:Inv X pins σ H s)(n:Nat)(ih:n≠0->∀(A:Around)(d e:D)(x y:V)(u v:Value),gF d<=n-1->A.units+(n-1)<cLine->aI X.K H d x->aI X.K H e y->aE x u->aE y v->SeqAt.EqAt A s u v (iN d e))
 (YS:n≠0)(A:Around)(hu:A.units+n<cLine){ds es:List D}{xs ys:List V}{its GP:nv}(r1:aV X.K H ds xs)(r2:aV X.K H es ys)(rv:aL xs its)(HU:aL ys GP)(hn:cZ ds<=n-1):
 ∀j (h1:j<its.toArray.size)(h2:j<GP.toArray.size),SeqAt.EqAt A.in1 s its.toArray[j] GP.toArray[j] (iN (ds.getD j .non) (es.getD j .non)):=by
 intro j h1 h2
 have e1:j<xs.length:=by rw[rv.length];simpa using h1
 have e2:j<ys.length:=by rw[HU.length];simpa using h2
 obtain⟨d1,m1⟩:=r1.get e1;obtain⟨d2,m2⟩:=r2.get e2;obtain⟨u,Sj,ru⟩:=rv.get (List.getElem?_eq_getElem e1);obtain⟨v,YT,YU⟩:=HU.get (List.getElem?_eq_getElem e2)
 have z1:its.toArray[j]=u:=by
  have:=List.getElem?_eq_some_iff.mp Sj;obtain⟨_,q⟩:=this;simpa using q
 have z2:GP.toArray[j]=v:=by
  have:=List.getElem?_eq_some_iff.mp YT;obtain⟨_,q⟩:=this;simpa using q
 rw[z1,z2];exact ih YS A.in1 _ _ _ _ _ _ (Nat.le_trans (sV m1) hn) (by show A.units+1+(n-1)<cLine;omega) d1 d2 ru YU
theorem lP (I:Inv X pins σ H s)(n:Nat)(ih:n≠0->∀(A:Around)(d e:D)(x y:V)(u v:Value),gF d<=n-1->A.units+(n-1)<cLine->aI X.K H d x->aI X.K H e y->aE x u->aE y v->SeqAt.EqAt A s u v (iN d e))
 (A:Around)(d e:D)(x y:V)(u v:Value)(hn:gF d<=n)(hu:A.units+n<cLine)(h1:aI X.K H d x)(h2:aI X.K H e y)(rx:aE x u)(ry:aE y v):
 SeqAt.RcAt A s u v (iN d e)/\SeqAt.EqAt A s u v (iN d e)/\SeqAt.RcNeAt A s u v (!iN d e):=by
 have GW:A.units<cLine:=by omega
 cases d with
 |non =>
  unfold aI at h1;subst h1
  cases rx
  cases e with
  |non =>
   unfold aI at h2;subst h2
   cases ry
   exact⟨.none_none,.same _,.none_none⟩
  |bl q =>
   unfold aI at h2;subst h2
   cases ry
   exact⟨.none_bool q,.none_bool q,.none_bool q⟩
  |int q =>
   unfold aI at h2;subst h2;obtain⟨tq,rfl⟩:=ry;exact⟨.none_int q tq,.none_int q tq,.none_int q tq⟩
  |str q =>
   unfold aI at h2;subst h2;obtain⟨tq,rfl⟩:=ry;exact⟨.none_str q tq,.none_str q tq,.none_str q tq⟩
  |lst es =>
   unfold aI at h2;obtain⟨b,ys,rfl,q2,r2⟩:=h2
   cases ry
   obtain⟨GP,HU,p2,_⟩:=I.list q2;exact⟨.none_list  p2.isList GW,.none_list  p2.isList GW,.none_list  p2.isList GW⟩
  |tup es =>
   unfold aI at h2;obtain⟨b,ys,rfl,q2,r2⟩:=h2
   cases ry
   obtain⟨GP,HU,p2,_⟩:=I.tuple q2;have p2:s.heap.IsTuple b GP.toArray:=p2;exact⟨.none_tuple  p2 GW,.none_tuple  p2 GW,.none_tuple  p2 GW⟩
 |bl p =>
  unfold aI at h1;subst h1
  cases rx
  cases e with
  |non =>
   unfold aI at h2;subst h2
   cases ry
   exact⟨.bool_none p,.bool_none p,.bool_none p⟩
  |bl q =>
   unfold aI at h2;subst h2
   cases ry
   exact⟨.bool_bool p q,.bool_bool p q,.bool_bool p q⟩
  |int q =>
   unfold aI at h2;subst h2;obtain⟨tq,rfl⟩:=ry;exact⟨.bool_int p q tq,.bool_int p q tq,.bool_int p q tq⟩
  |str q =>
   unfold aI at h2;subst h2;obtain⟨tq,rfl⟩:=ry;exact⟨.bool_str p q tq,.bool_str p q tq,.bool_str p q tq⟩
  |lst es =>
   unfold aI at h2;obtain⟨b,ys,rfl,q2,r2⟩:=h2
   cases ry
   obtain⟨GP,HU,p2,_⟩:=I.list q2;exact⟨.bool_list p p2.isList GW,.bool_list p p2.isList GW,.bool_list p p2.isList GW⟩
  |tup es =>
   unfold aI at h2;obtain⟨b,ys,rfl,q2,r2⟩:=h2
   cases ry
   obtain⟨GP,HU,p2,_⟩:=I.tuple q2;have p2:s.heap.IsTuple b GP.toArray:=p2;exact⟨.bool_tuple p p2 GW,.bool_tuple p p2 GW,.bool_tuple p p2 GW⟩
 |int p =>
  unfold aI at h1;subst h1;obtain⟨tp,rfl⟩:=rx
  cases e with
  |non =>
   unfold aI at h2;subst h2
   cases ry
   exact⟨.int_none p tp,.int_none p tp,.int_none p tp⟩
  |bl q =>
   unfold aI at h2;subst h2
   cases ry
   exact⟨.int_bool p tp q,.int_bool p tp q,.int_bool p tp q⟩
  |int q =>
   unfold aI at h2;subst h2;obtain⟨tq,rfl⟩:=ry;exact⟨.int_int p tp q tq,.int_int p tp q tq,.int_int p tp q tq⟩
  |str q =>
   unfold aI at h2;subst h2;obtain⟨tq,rfl⟩:=ry;exact⟨.int_str p tp q tq,.int_str p tp q tq,.int_str p tp q tq⟩
  |lst es =>
   unfold aI at h2;obtain⟨b,ys,rfl,q2,r2⟩:=h2
   cases ry
   obtain⟨GP,HU,p2,_⟩:=I.list q2;exact⟨.int_list p tp p2.isList GW,.int_list p tp p2.isList GW,.int_list p tp p2.isList GW⟩
  |tup es =>
   unfold aI at h2;obtain⟨b,ys,rfl,q2,r2⟩:=h2
   cases ry
   obtain⟨GP,HU,p2,_⟩:=I.tuple q2;have p2:s.heap.IsTuple b GP.toArray:=p2;exact⟨.int_tuple p tp p2 GW,.int_tuple p tp p2 GW,.int_tuple p tp p2 GW⟩
 |str p =>
  unfold aI at h1;subst h1;obtain⟨tp,rfl⟩:=rx
  cases e with
  |non =>
   unfold aI at h2;subst h2
   cases ry
   exact⟨.str_none p tp,.str_none p tp,.str_none p tp⟩
  |bl q =>
   unfold aI at h2;subst h2
   cases ry
   exact⟨.str_bool p tp q,.str_bool p tp q,.str_bool p tp q⟩
  |int q =>
   unfold aI at h2;subst h2;obtain⟨tq,rfl⟩:=ry;exact⟨.str_int p tp q tq,.str_int p tp q tq,.str_int p tp q tq⟩
  |str q =>
   unfold aI at h2;subst h2;obtain⟨tq,rfl⟩:=ry;exact⟨.str_str p tp q tq,.str_str p tp q tq,.str_str p tp q tq⟩
  |lst es =>
   unfold aI at h2;obtain⟨b,ys,rfl,q2,r2⟩:=h2
   cases ry
   obtain⟨GP,HU,p2,_⟩:=I.list q2;exact⟨.str_list p tp p2.isList GW,.str_list p tp p2.isList GW,.str_list p tp p2.isList GW⟩
  |tup es =>
   unfold aI at h2;obtain⟨b,ys,rfl,q2,r2⟩:=h2
   cases ry
   obtain⟨GP,HU,p2,_⟩:=I.tuple q2;have p2:s.heap.IsTuple b GP.toArray:=p2;exact⟨.str_tuple p tp p2 GW,.str_tuple p tp p2 GW,.str_tuple p tp p2 GW⟩
 |lst ds =>
  unfold aI at h1;obtain⟨a,xs,rfl,q1,r1⟩:=id h1
  cases rx
  obtain⟨its,rv,p1,_⟩:=I.list q1;have p1:s.heap.IsList a its.toArray:=p1.isList
  cases e with
  |non =>
   unfold aI at h2;subst h2
   cases ry
   exact⟨.list_none  p1 GW,.list_none  p1 GW,.list_none  p1 GW⟩
  |bl q =>
   unfold aI at h2;subst h2
   cases ry
   exact⟨.list_bool q p1 GW,.list_bool q p1 GW,.list_bool q p1 GW⟩
  |int q =>
   unfold aI at h2;subst h2;obtain⟨tq,rfl⟩:=ry;exact⟨.list_int q tq p1 GW,.list_int q tq p1 GW,.list_int q tq p1 GW⟩
  |str q =>
   unfold aI at h2;subst h2;obtain⟨tq,rfl⟩:=ry;exact⟨.list_str q tq p1 GW,.list_str q tq p1 GW,.list_str q tq p1 GW⟩
  |lst es =>
   unfold aI at h2;obtain⟨b,ys,rfl,q2,r2⟩:=id h2
   cases ry
   obtain⟨GP,HU,p2,_⟩:=I.list q2;have p2:s.heap.IsList b GP.toArray:=p2.isList;have el:=kh I n ih (by unfold gF at hn;omega) A hu r1 r2 rv HU (by unfold gF at hn;omega)
   have l1:its.toArray.size=ds.length:=by rw[List.size_toArray,<-rv.length,r1.len]
   have l2:GP.toArray.size=es.length:=by rw[List.size_toArray,<-HU.length,r2.len]
   have dr:=hJ ds es
   have key:SeqAt.RcAt A s (.ref a) (.ref b) (eU ds es)/\SeqAt.RcNeAt A s (.ref a) (.ref b) (!eU ds es):=by
    by_cases hl:ds.length=es.length
    ·have hs:its.toArray.size=GP.toArray.size:=by rw[l1,l2,hl]
     have z:(List.range its.toArray.size).all (λj=>iN (ds.getD j .non) (es.getD j .non))=eU ds es:=by rw[dr,l1,hl];simp
     have c1:=SeqAt.RcAt.lists p1 p2 hs GW el;have c2:=SeqAt.RcNeAt.lists p1 p2 hs GW el;rw[z] at c1 c2;exact⟨c1,c2⟩
    ·have z:eU ds es=false:=by rw[dr];simp[hl]
     have hs:(its.toArray.size != GP.toArray.size)=true:=by rw[l1,l2];simpa using hl
     rw[z];exact⟨SeqAt.RcAt.lists_lengths p1 p2 hs GW,SeqAt.RcNeAt.lists_lengths p1 p2 hs GW⟩
   have LF:iN (.lst ds) (.lst es)=eU ds es:=rfl
   by_cases KS:a=b
   ·subst KS;have z:=j9 I (.lst ds) (.lst es) (.ref a) (by unfold aI;exact⟨a,xs,rfl,q1,r1⟩) (by unfold aI;exact⟨a,ys,rfl,q2,r2⟩);refine⟨by rw[LF];exact key.1,by rw[z];exact .same _,by rw[LF];exact key.2⟩
   ·rw[LF];exact⟨key.1,.of_refs KS key.1,key.2⟩
  |tup es =>
   unfold aI at h2;obtain⟨b,ys,rfl,q2,r2⟩:=id h2
   cases ry
   obtain⟨GP,HU,p2,_⟩:=I.tuple q2;have p2:s.heap.IsTuple b GP.toArray:=p2;exact⟨.list_tuple p1 p2 GW,.list_tuple p1 p2 GW,.list_tuple p1 p2 GW⟩
 |tup ds =>
  unfold aI at h1;obtain⟨a,xs,rfl,q1,r1⟩:=id h1
  cases rx
  obtain⟨its,rv,p1,_⟩:=I.tuple q1;have p1:s.heap.IsTuple a its.toArray:=p1
  cases e with
  |non =>
   unfold aI at h2;subst h2
   cases ry
   exact⟨.tuple_none  p1 GW,.tuple_none  p1 GW,.tuple_none  p1 GW⟩
  |bl q =>
   unfold aI at h2;subst h2
   cases ry
   exact⟨.tuple_bool q p1 GW,.tuple_bool q p1 GW,.tuple_bool q p1 GW⟩
  |int q =>
   unfold aI at h2;subst h2;obtain⟨tq,rfl⟩:=ry;exact⟨.tuple_int q tq p1 GW,.tuple_int q tq p1 GW,.tuple_int q tq p1 GW⟩
  |str q =>
   unfold aI at h2;subst h2;obtain⟨tq,rfl⟩:=ry;exact⟨.tuple_str q tq p1 GW,.tuple_str q tq p1 GW,.tuple_str q tq p1 GW⟩
  |lst es =>
   unfold aI at h2;obtain⟨b,ys,rfl,q2,r2⟩:=id h2
   cases ry
   obtain⟨GP,HU,p2,_⟩:=I.list q2;have p2:s.heap.IsList b GP.toArray:=p2.isList;exact⟨.tuple_list p1 p2 GW,.tuple_list p1 p2 GW,.tuple_list p1 p2 GW⟩
  |tup es =>
   unfold aI at h2;obtain⟨b,ys,rfl,q2,r2⟩:=id h2
   cases ry
   obtain⟨GP,HU,p2,_⟩:=I.tuple q2;have p2:s.heap.IsTuple b GP.toArray:=p2;have el:=kh I n ih (by unfold gF at hn;omega) A hu r1 r2 rv HU (by unfold gF at hn;omega)
   have l1:its.toArray.size=ds.length:=by rw[List.size_toArray,<-rv.length,r1.len]
   have l2:GP.toArray.size=es.length:=by rw[List.size_toArray,<-HU.length,r2.len]
   have dr:=hJ ds es
   have key:SeqAt.RcAt A s (.ref a) (.ref b) (eU ds es)/\SeqAt.RcNeAt A s (.ref a) (.ref b) (!eU ds es):=by
    have z:((List.range (min its.toArray.size GP.toArray.size)).all (λj=>iN (ds.getD j .non) (es.getD j .non))&&its.toArray.size==GP.toArray.size)=eU ds es:=by rw[dr,l1,l2]
    have c1:=SeqAt.RcAt.tuples p1 p2 GW el;have c2:=SeqAt.RcNeAt.tuples p1 p2 GW el;rw[z] at c1 c2;exact⟨c1,c2⟩
   have LF:iN (.tup ds) (.tup es)=eU ds es:=rfl
   by_cases KS:a=b
   ·subst KS;have z:=j9 I (.tup ds) (.tup es) (.ref a) (by unfold aI;exact⟨a,xs,rfl,q1,r1⟩) (by unfold aI;exact⟨a,ys,rfl,q2,r2⟩);refine⟨by rw[LF];exact key.1,by rw[z];exact .same _,by rw[LF];exact key.2⟩
   ·rw[LF];exact⟨key.1,.of_refs KS key.1,key.2⟩
theorem ji (I:Inv X pins σ H s):∀(n:Nat)(A:Around)(d e:D)(x y:V)(u v:Value),gF d<=n->A.units+n<cLine->aI X.K H d x->aI X.K H e y->aE x u->aE y v →
 SeqAt.RcAt A s u v (iN d e)/\SeqAt.EqAt A s u v (iN d e)/\SeqAt.RcNeAt A s u v (!iN d e):=by
 intro n
 induction n with
 |zero=>exact λA d e x y u v hn hu h1 h2 rx ry=>lP I 0 (λz=>absurd z (by simp)) A d e x y u v hn hu h1 h2 rx ry
 |succ n ih=>exact λA d e x y u v hn hu h1 h2 rx ry=>lP I (n+1) (λ_ A d e x y u v hn hu h1 h2 rx ry=>(ih A d e x y u v hn hu h1 h2 rx ry).2.1) A d e x y u v hn hu h1 h2 rx ry
end
section
variable {X:Cx}
def vh (K:Frag)(neg:Bool):R2:=λx y H Q=>∃d e,aI K H d x/\aI K H e y/\gF d<=32/\Q (.bl (iN d e != neg)) H
theorem xy (hr:wK k X.A):dC X (compareOp .Eq) (vh X.K false):=by
 intro pins s σ H x y v u Q I rx ry h;obtain⟨d,e,h1,h2,hd,q⟩:=h;have z:=(ji I 32 X.A d e x y v u hd (by have:=hr.units;omega) h1 h2 rx ry).1;exact z X.prog X.w X.xe _ ⟨.bl (iN d e),H,I,rfl,by simpa using q⟩
theorem qi (hr:wK k X.A):dC X (compareOp .NotEq) (vh X.K true):=by
 intro pins s σ H x y v u Q I rx ry h;obtain⟨d,e,h1,h2,hd,q⟩:=h;have z:=(ji I 32 X.A d e x y v u hd (by have:=hr.units;omega) h1 h2 rx ry).2.2
 exact z X.prog X.w X.xe _ ⟨.bl (!iN d e),H,I,rfl,by
  have e1:(iN d e != true) = !iN d e:=by cases iN d e <;> rfl
  rw[e1] at q
  exact q⟩
end
end L2
namespace Nm
def dS (a b:Int):Int:=(Int.gcd a b:Int)
def dv (t b:Int):Int:=if b<0 then -(dS t b) else dS t b
def dW (t b:Int):Int:=t.fdiv (dv t b)
def cD (t b:Int):Int:=b.fdiv (dv t b)
variable {b:Int}
theorem ib {t:Int}(h:b≠0):0<dS t b:=by
 unfold dS;have:0<Int.gcd t b:=Int.gcd_pos_of_ne_zero_right _ h;omega
theorem lQ {t:Int}(h:b≠0):dv t b≠0:=by
 have:=ib (t:=t) h;unfold dv
 split <;> omega
theorem Fb {t:Int}:dv t b ∣ t:=by
 unfold dv dS
 split
 ·exact Int.neg_dvd.mpr (Int.gcd_dvd_left ..)
 ·exact Int.gcd_dvd_left ..
theorem E4 {t:Int}:dv t b ∣ b:=by
 unfold dv dS
 split
 ·exact Int.neg_dvd.mpr (Int.gcd_dvd_right ..)
 ·exact Int.gcd_dvd_right ..
theorem oQ {a:Int}(h:b ∣ a)(hb:b≠0):a.fdiv b*b=a:=by
 obtain⟨c,rfl⟩:=h;rw[Int.mul_fdiv_cancel_left _ hb,Int.mul_comm]
theorem sW {t:Int}(h:b≠0):dW t b*dv t b=t:=oQ Fb (lQ h)
theorem mq {t:Int}(h:b≠0):cD t b*dv t b=b:=oQ E4 (lQ h)
theorem nR {t:Int}(h:b≠0):0<cD t b:=by
 have e:=mq (t:=t) h;have g:=ib (t:=t) h
 by_cases hb:b<0
 ·have hd:dv t b = -(dS t b):=by unfold dv;rw[if_pos hb]
  rw[hd] at e
  by_cases hl:0<cD t b
  ·exact hl
  ·have:0<=cD t b * -(dS t b):=by
    have:=Int.mul_nonneg_of_nonpos_of_nonpos (a:=cD t b) (b:=-(dS t b)) (by omega) (by omega);exact this
   omega
 ·have hd:dv t b=dS t b:=by unfold dv;rw[if_neg hb]
  rw[hd] at e
  by_cases hl:0<cD t b
  ·exact hl
  ·have:cD t b*dS t b<=0:=Int.mul_nonpos_of_nonpos_of_nonneg (by omega) (by omega);omega
theorem mh {t:Int}:(dv t b).natAbs=Int.gcd t b:=by
 unfold dv dS
 split <;> simp
theorem tJ {t:Int}(h:b≠0):Int.gcd (dW t b) (cD t b)=1:=by
 have e1:=sW (t:=t) h;have e2:=mq (t:=t) h;have g:0<Int.gcd t b:=Int.gcd_pos_of_ne_zero_right _ h;have e3:Int.gcd (dW t b*dv t b) (cD t b*dv t b)=Int.gcd (dW t b) (cD t b)*(dv t b).natAbs:=Int.gcd_mul_right ..;rw[e1,e2,mh] at e3
 have:Int.gcd (dW t b) (cD t b)*Int.gcd t b=1*Int.gcd t b:=by omega
 exact Nat.eq_of_mul_eq_mul_right g this
theorem k9 {t t' b':Int}(h:b≠0)(hp:0<b')(hg:Int.gcd t' b'=1)(he:t*b'=t'*b):dW t b=t'/\cD t b=b':=by
 have e1:=sW (t:=t) h;have e2:=mq (t:=t) h;have g:=lQ (t:=t) h;have lp:=nR (t:=t) h;have lg:=tJ (t:=t) h
 have e3:dW t b*b'=t'*cD t b:=by
  have z:(dW t b*b')*dv t b=(t'*cD t b)*dv t b:=by
   rw[Int.mul_right_comm,e1,he,Int.mul_assoc,e2]
  exact Int.eq_of_mul_eq_mul_right g z
 have n3:(dW t b).natAbs*b'.natAbs=t'.natAbs*(cD t b).natAbs:=by
  have:=congrArg Int.natAbs e3;rw[Int.natAbs_mul,Int.natAbs_mul] at this;exact this
 have c1:Nat.Coprime (cD t b).natAbs (dW t b).natAbs:=by
  rw[Nat.coprime_comm];exact lg
 have c2:Nat.Coprime b'.natAbs t'.natAbs:=by
  rw[Nat.coprime_comm];exact hg
 have d1:(cD t b).natAbs ∣ b'.natAbs:=c1.dvd_of_dvd_mul_left ⟨t'.natAbs,by rw[n3,Nat.mul_comm]⟩;have d2:b'.natAbs ∣ (cD t b).natAbs:=c2.dvd_of_dvd_mul_left ⟨(dW t b).natAbs,by rw[<-n3,Nat.mul_comm]⟩;have e4:(cD t b).natAbs=b'.natAbs:=Nat.dvd_antisymm d1 d2
 have e5:cD t b=b':=by omega
 refine⟨?_,e5⟩;rw[e5] at e3;exact Int.eq_of_mul_eq_mul_right (by omega) e3
theorem lu {t b:Int}(hp:0<b)(hg:Int.gcd t b=1):dW t b=t/\cD t b=b:=k9 (by omega) hp hg rfl
theorem jS (a b:Int):Int.gcd b (a.fmod b)=Int.gcd a b:=by
 rw[Int.fmod_def,Int.gcd_comm a b]
 first
  |exact Int.gcd_sub_mul_left_right ..
  |simp
theorem sY (a b:Int)(h:b≠0):(a.fmod b).natAbs<b.natAbs:=by
 by_cases hb:0<b
 ·have h1:=Int.fmod_lt_of_pos a hb;have h2:=Int.fmod_nonneg_of_pos a hb;omega
 ·have e:a.fmod b = -((-a).fmod (-b)):=by
   have:=Int.fmod_def a b;rw[Int.neg_fmod_neg];omega
  have h1:=Int.fmod_lt_of_pos (-a) (b:=-b) (by omega);have h2:=Int.fmod_nonneg_of_pos (-a) (b:=-b) (by omega);omega
def ab (b:Int):Int:=if b<0 then -b else b
theorem kg (b:Int):ab b=(b.natAbs:Int):=by unfold ab;split <;> omega
theorem BN (a b:Int):Int.gcd (ab a) (ab b)=Int.gcd a b:=by
 rw[kg,kg];simp[Int.gcd]
def B (n:Nat)(i:Int):Prop:=i.natAbs<2^n
variable {n:Nat}{i:Int}
theorem B.mono {m:Nat}(h:B n i)(hn:n<=m):B m i:=Nat.lt_of_lt_of_le h (Nat.pow_le_pow_right (by decide) hn)
variable {j:Int}
theorem B.mul {m:Nat}(h:B n i)(k:B m j):B (n+m) (i*j):=by
 unfold B at *;rw[Int.natAbs_mul,Nat.pow_add];exact Nat.mul_lt_mul'' h k
theorem B.add (h:B n i)(k:B n j):B (n+1) (i+j):=by
 unfold B at *;rw[Nat.pow_succ];have:=Int.natAbs_add_le i j;omega
theorem B.le (h:B n i)(k:j.natAbs<=i.natAbs):B n j:=Nat.lt_of_le_of_lt k h
theorem qC {x d y:Int}(e:x*d=y)(hd:d≠0):x.natAbs<=y.natAbs:=by
 have:x.natAbs*d.natAbs=y.natAbs:=by rw[<-Int.natAbs_mul,e]
 have h1:1<=d.natAbs:=by omega
 calc x.natAbs=x.natAbs*1:=(Nat.mul_one _).symm
  _<=x.natAbs*d.natAbs:=Nat.mul_le_mul_left _ h1
  _=y.natAbs:=this
theorem yD {t:Int}(h:b≠0):(dW t b).natAbs<=t.natAbs:=qC (sW h) (lQ h)
theorem yE {t:Int}(h:b≠0):(cD t b).natAbs<=b.natAbs:=qC (mq h) (lQ h)
theorem Ar {t:Int}(h:b≠0):(dv t b).natAbs<=b.natAbs:=by
 have e:=mq (t:=t) h;have lp:=nR (t:=t) h;exact qC (x:=dv t b) (d:=cD t b) (by rw[Int.mul_comm];exact e) (by omega)
theorem Bw {t:Int}(h:b≠0):(dS t b).natAbs<=b.natAbs:=by
 have e:=Ar (t:=t) h;rw[mh] at e;unfold dS;simpa using e
structure Num (p t b:Int):Prop where
 pos:0<b
 red:Int.gcd t b=1
 pr:p≠0->b=1/\0<=t/\t<p
theorem Num.ofP {p t:Int}(h0:0<=t)(h1:t<p):Num p t 1:=⟨by decide,by simp,λ_=>⟨rfl,h0,h1⟩⟩
theorem Num.low {t:Int}(h:b≠0):Num 0 (dW t b) (cD t b):=⟨nR h,tJ h,λz=>absurd rfl z⟩
def cN (p t b:Int):Int:=if p=0 then dW t b else t%p
def c5 (p t b:Int):Int:=if p=0 then cD t b else 1
theorem Num.set {p t:Int}(hp:0<=p)(h:b≠0):Num p (cN p t b) (c5 p t b):=by
 unfold cN c5
 by_cases z:p=0
 ·subst z;simp only[if_true];exact Num.low h
 ·simp only[z,if_false];exact Num.ofP (Int.emod_nonneg _ z) (Int.emod_lt_of_pos _ (by omega))
theorem Num.self {p t:Int}(n:Num p t b)(hp:0<=p):cN p t b=t/\c5 p t b=b:=by
 unfold cN c5
 by_cases z:p=0
 ·simp only[z,if_true];exact lu n.pos n.red
 ·simp only[z,if_false];obtain⟨h1,h2,h3⟩:=n.pr z;exact⟨Int.emod_eq_of_lt h2 h3,h1.symm⟩
theorem B0 {p t t' b':Int}(h:b≠0)(n:Num p t' b')(hp:0<=p)(e0:p=0->t*b'=t'*b)(e1:p≠0->t%p=t'%p):cN p t b=t'/\c5 p t b=b':=by
 unfold cN c5
 by_cases z:p=0
 ·simp only[z,if_true];exact k9 h n.pos n.red (e0 z)
 ·simp only[z,if_false];obtain⟨h1,h2,h3⟩:=n.pr z;exact⟨by rw[e1 z];exact Int.emod_eq_of_lt h2 h3,h1.symm⟩
end Nm
namespace L2
open PySem PySem.Spec PyProof.Rows PySem.W
theorem Al {i:Int}(h:Nm.B 9000 i):i.natAbs.log2<9000:=by
 by_cases z:i.natAbs=0
 ·rw[z];decide
 ·exact(Nat.log2_lt z).mpr h
theorem vn {i:Int}(h:Nm.B 9000 i):Builtin.Int.intBits i<=2^20:=by
 have l:=Al h;unfold Builtin.Int.intBits
 split
 ·exact Nat.zero_le _
 ·have:(9000:Nat)<=2^20:=by decide
  omega
section
variable {X:Cx}
theorem eI:dC X (binaryOp .FloorDiv) (rI (λ_ j=>j≠0/\Nm.B 9000 j) λi j=>.int (i.fdiv j)):=AY λ_ _ _ _ _ _ _ hc q=>floordiv_int hc.1 q (.inl (PyProof.noPylong_of_log2 (Al hc.2)))
theorem cw:dC X (binaryOp .Mult) (rI (λi j=>Nm.B 9000 i/\Nm.B 9000 j) λi j=>.int (i*j)):=AY λ_ _ _ _ _ _ _ hc q=>mul_int q (IntMulOk.of_bits (vn hc.1) (vn hc.2))
end
end L2
namespace K75
open PySem L2 PySem.W Nm
abbrev Ed:Stmt:=(aO 17)
abbrev tL:Stmt:=(aO 18)
abbrev pb:Stmt:=(aO 19)
def bO (t b:Int):HO:=.tup [.int t,.int b]
def DK:Sp:=λvs H Q _=>∃a b:Int,vs=[.int a,.int b]/\Q (.int (dS a b)) H
def EW:Sp:=λvs H Q _=>∃t b:Int,vs=[.int t,.int b]/\b≠0/\B 9000 b/\∀p,H p=none->Q (.ref p) (upd H p (bO (dW t b) (cD t b)))
def yg:Sp:=λvs H Q _=>∃m p:Int,vs=[.int m,.int p]/\p∈cV/\m%p≠0/\∀v,0<=v->v<p->(v*m)%p=1->Q (.int v) H
variable {p:Int}
theorem eN (h:p∈cV):2<=p/\p<=97:=by
 have:∀q∈cV,2<=q/\q<=97:=by decide
 exact this p h
theorem ud {r:Int}(h:p∈cV)(h0:0<r)(h1:r<p):Int.gcd p r=1:=by
 have key:∀q∈cV,∀k:_root_.Fin 98,0<k.val->((k.val:Nat):Int)<q->Int.gcd q ((k.val:Nat):Int)=1:=by decide +kernel
 have hp:=eN h;have z:=key p h ⟨r.toNat,by omega⟩
 have e:((r.toNat:Nat):Int)=r:=by omega
 simp only[e] at z;exact z (by omega) h1
variable {P:vB}{w:World}{K:PySem.W.Frag}{mg:vW}{base:Heap}
theorem AN:yJ GG GG (ai Ed):=dE (by decide +kernel)
variable {f:Addr}{fd:EK}
theorem Cv (F:vM K "common_divisor" "common_divisor" Ed f fd)(mA:mg "abs"=none):Bp P w K mg base (bf P w) 1 f fd GG DK:=by
 refine F.okN AN (λvs H Q E h=>?_) (λGN A outer s H vs Q E hr h=>?_)
 ·obtain⟨a,b,rfl,_⟩:=h;rfl
 ·obtain⟨a,b,rfl,q⟩:=h
  refine⟨_,aj (jQ PassesOwn.never (oA (pv 1) (λ_=>rfl)) (aq (iP (i:=0) (j:=1) rfl AN.nd rfl rfl (by decide) rfl rfl (ak (pv 1) (ak (aD rD (pv 0) (pv 1)) af)) rfl)))
   (aq (aA (az kj (by rfl) mA (by rfl) (ak (pv 0) af)))),?_⟩
  refine⟨λm σ H'=>∃c d:Int,σ=[some (.int c),some (.int d)]/\H'=H/\m=d.natAbs/\Int.gcd c d=Int.gcd a b,⟨_,a,b,rfl,rfl,rfl,rfl⟩,?_⟩;rintro m σ H' ⟨c,d,rfl,rfl,rfl,hg⟩;refine⟨_,rfl,_,rfl,?_⟩;refine dD (λh=>?_) (λh=>?_)
  ·have hd:d≠0:=by simpa using h
   refine⟨λσ' Ho=>∃c' d':Int,σ'=[some (.int c'),some (.int d')]/\Ho=H'/\d'.natAbs<d.natAbs/\Int.gcd c' d'=Int.gcd a b,λσ' Ho ⟨c',d',e1,e2,e3,e4⟩=>⟨_,e3,c',d',e1,e2,rfl,e4⟩,?_⟩;refine⟨_,rfl,_,rfl,_,rfl,_,_,rfl,rfl,hd,_,_,rfl,d,c.fmod d,rfl,rfl,sY c d hd,?_⟩;rw[jS,hg]
  ·have hd:d=0:=by simpa using h
   subst hd;refine⟨_,rfl,c,rfl,?_⟩
   have e:(if c<0 then -c else c)=dS a b:=by
    unfold dS;rw[<-hg];have:=kg c;unfold ab at this;rw[this];simp
   rw[e];exact q
theorem kR:yJ ["top","bottom","divisor"] wL (ai tL):=dE (by decide +kernel)
theorem ua {fg:Addr}{Ii:EK}(F:vM K "lowest" "lowest" tL f fd)(FG:Bp P w K mg base (bf P w) 1 fg Ii GG DK)(bG:L2.ay K Ii GG [])(mG:mg "common_divisor"=some (.ref fg))(kG:keepIn K (.ref fg)=true):
 Bp P w K mg base (bf P w) 2 f fd wL EW:=by
 refine F.okN kR (λvs H Q E h=>?_) (λGN A outer s H vs Q E hr h=>?_)
 ·obtain⟨a,b,rfl,_⟩:=h;rfl
 ·obtain⟨t,b,rfl,hb,hB,q⟩:=h
  refine⟨_,aj (bw (aH dF (pv 1) ao (aG _)) (aq (aA (bh (ak (pv 0) (ak ao af))))) aM)
   (aj (aY (i:=2) kR.nd rfl (Or.inl rfl) (ax FG hr (by rfl) mG kG bG .nil ag (ak (pv 0) (ak (pv 1) af))))
   (aj (bw (aH kJ (pv 1) ao (aG _)) (aq (aY (i:=2) kR.nd rfl (Or.inl rfl) (wR pZ (pv 2)))) aM)
   (aq (aA (bh (ak (aD eI (pv 0) (pv 2)) (ak (aD eI (pv 1) (pv 2)) af))))))),?_⟩
  refine⟨_,rfl,rfl,_,rfl,?_⟩;refine dD (λh=>?_) (λh=>?_)
  ·have e:b=1:=by simpa using h
   subst e;have z:=lu (t:=t) (b:=1) (by decide) (by simp);refine⟨_,rfl,gc,λp hp=>?_⟩;have y:=q p hp;rw[z.1,z.2] at y;exact y
  ·refine⟨_,rfl,_,rfl,t,b,rfl,?_⟩;refine⟨_,rfl,_,_,rfl,rfl,_,rfl,?_⟩;have gp:=ib (t:=t) hb
   have fin:∀d:Int,d=dv t b->CO (dm (nG (rI (λ_ j=>j≠0/\Nm.B 9000 j) λi j=>V.int (i.fdiv j)) (d9 0) (d9 2)) (dm (nG (rI (λ_ j=>j≠0/\Nm.B 9000 j) λi j=>V.int (i.fdiv j)) (d9 1) (d9 2)) Br)) [some (.int t),some (.int b),some (.int d)] H Q:=by
    intro d hd
    have KU:d≠0:=by rw[hd];exact lQ hb
    have Wm:B 9000 d:=by rw[hd];exact hB.le (Ar hb)
    refine⟨_,rfl,_,rfl,_,_,rfl,rfl,⟨KU,Wm⟩,_,rfl,_,rfl,_,_,rfl,rfl,⟨KU,Wm⟩,gc,λp hp=>?_⟩;have y:=q p hp;unfold dW cD at y;rw[<-hd] at y;exact y
   refine dD (λh2=>?_) (λh2=>?_)
   ·have e:b<0:=by simpa using h2
    exact⟨_,rfl,_,rfl,fin _ (by unfold dv;rw[if_pos e])⟩
   ·have e:¬b<0:=by simpa using h2
    exact fin _ (by unfold dv;rw[if_neg e])
structure Eu (m p r s l ls:Int):Prop where
 r0:0<r
 rl:r<l
 lp:l<=p
 g:Int.gcd l r=1
 e1:∃k,s*m-r=p*k
 e2:∃k,ls*m-l=p*k
theorem Eu.step {m r s l ls:Int}(h:Eu m p r s l ls)(h1:r≠1):Eu m p (l-l.fdiv r*r) (ls-l.fdiv r*s) r s/\(l-l.fdiv r*r).toNat<r.toNat:=by
 obtain⟨r0,rl,lp,g,⟨k1,e1⟩,⟨k2,e2⟩⟩:=h
 have em:l-l.fdiv r*r=l.fmod r:=by rw[Int.fmod_def,Int.mul_comm]
 have a:=Int.fmod_lt_of_pos l r0;have b:=Int.fmod_nonneg_of_pos l r0
 have gg:Int.gcd r (l.fmod r)=1:=by rw[jS,g]
 have nz:l.fmod r≠0:=by
  intro z;rw[z] at gg;simp at gg;omega
 rw[em];refine⟨⟨by omega,a,by omega,gg,⟨k2-l.fdiv r*k1,?_⟩,⟨k1,e1⟩⟩,by omega⟩;rw[<-em];generalize l.fdiv r=q
 have:(ls-q*s)*m-(l-q*r)=(ls*m-l)-q*(s*m-r):=by
  rw[Int.sub_mul,Int.mul_sub,Int.mul_assoc];omega
 rw[this,e1,e2,Int.mul_sub,Int.mul_left_comm]
theorem Eu.fin {m s l ls:Int}(h:Eu m p 1 s l ls)(hp:2<=p):0<=s%p/\s%p<p/\(s%p*m)%p=1:=by
 obtain⟨_,_,_,_,⟨k1,e1⟩,_⟩:=h;refine⟨Int.emod_nonneg _ (by omega),Int.emod_lt_of_pos _ (by omega),?_⟩
 have e:s*m=p*k1+1:=by omega
 rw[Int.mul_emod,Int.emod_emod,<-Int.mul_emod,e,Int.mul_add_emod_self_left];exact Int.emod_eq_of_lt (by omega) (by omega)
abbrev NI:List Str:=["number","prime","rest","share","last","last_share","many"]
theorem dO:yJ NI vG (ai pb):=dE (by decide +kernel)
theorem qf (F:vM K "inverse" "inverse" pb f fd):Bp P w K mg base (bf P w) 1 f fd vG yg:=by
 refine F.okN dO (λvs H Q E h=>?_) (λGN A outer s H vs Q E hr h=>?_)
 ·obtain⟨a,b,rfl,_⟩:=h;rfl
 ·obtain⟨m,p,rfl,hp,hm,q⟩:=h;have ML:=eN hp
  refine⟨_,aj (iP (i:=2) (j:=3) rfl dO.nd rfl rfl (by decide) rfl rfl (ak (aD cx (pv 0) (pv 1)) (ak ao af)) rfl)
   (aj (iP (i:=4) (j:=5) rfl dO.nd rfl rfl (by decide) rfl rfl (ak (pv 1) (ak ao af)) rfl)
   (aj (jQ PassesOwn.never (aH fM (pv 2) ao (aG _))
    (aj (aY (i:=6) dO.nd rfl (Or.inl rfl) (aD eI (pv 4) (pv 2)))
    (aj (iP (i:=4) (j:=2) rfl dO.nd rfl rfl (by decide) rfl rfl (ak (pv 2) (ak (aD nZ (pv 4) (aD fA (pv 6) (pv 2))) af)) rfl)
    (aq (iP (i:=5) (j:=3) rfl dO.nd rfl rfl (by decide) rfl rfl (ak (pv 3) (ak (aD nZ (pv 5) (aD fA (pv 6) (pv 3))) af)) rfl)))))
   (aq (aA (aD cx (pv 3) (pv 1)))))),?_⟩
  refine⟨_,rfl,_,rfl,_,_,rfl,rfl,(by show(0:Int)<p;omega),_,_,rfl,?_⟩;refine⟨_,rfl,_,_,rfl,?_⟩;have r0:0<=m%p:=Int.emod_nonneg _ (by omega);have r1:m%p<p:=Int.emod_lt_of_pos _ (by omega)
  have E0:Eu m p (m%p) 1 p 0:=by
   refine⟨by omega,r1,Int.le_refl _,ud hp (by omega) r1,⟨m/p,?_⟩,⟨-1,by omega⟩⟩;have:=Int.emod_add_mul_ediv m p;omega
  refine⟨λn σ H'=>∃(r s l ls:Int)(o:Option V),σ=[some (.int m),some (.int p),some (.int r),some (.int s),some (.int l),some (.int ls),o]/\H'=H/\n=r.toNat/\Eu m p r s l ls,⟨_,_,_,_,_,_,rfl,rfl,rfl,E0⟩,?_⟩;rintro n σ H' ⟨r,s,l,ls,o,rfl,rfl,rfl,E⟩;refine⟨_,rfl,rfl,_,rfl,?_⟩;refine dD (λh=>?_) (λh=>?_)
  ·have GU:r≠1:=by simpa using h
   obtain⟨E',lt⟩:=E.step GU;have e0:=E.r0;have e1:=E.rl;have e2:=E.lp;have q0:0<=l.fdiv r:=Int.fdiv_nonneg (by omega) (by omega)
   have q1:l.fdiv r<=l:=by
    rw[Int.fdiv_eq_ediv_of_nonneg _ (by omega)];exact Int.ediv_le_self _ (by omega)
   refine⟨λσ' Ho=>∃(r' s' l' Q7:Int)(o:Option V),σ'=[some (.int m),some (.int p),some (.int r'),some (.int s'),some (.int l'),some (.int Q7),o]/\Ho=H'/\r'.toNat<r.toNat/\Eu m p r' s' l' Q7,λσ' Ho ⟨r',s',l',Q7,o',z1,z2,z3,z4⟩=>⟨_,z3,r',s',l',Q7,o',z1,z2,rfl,z4⟩,?_⟩;refine⟨_,rfl,_,rfl,_,_,rfl,rfl,⟨by omega,?_⟩,?_⟩
   ·have:r.natAbs<2^7:=by omega
    exact(show B 7 r from this).mono (by decide)
   ·refine⟨_,rfl,_,rfl,_,rfl,_,rfl,_,_,rfl,rfl,.inl ⟨by omega,by omega⟩,_,_,rfl,rfl,_,_,rfl,?_⟩;refine⟨_,rfl,_,rfl,_,rfl,_,rfl,_,_,rfl,rfl,.inl ⟨by omega,by omega⟩,_,_,rfl,rfl,_,_,rfl,?_⟩;exact⟨_,_,_,_,_,rfl,rfl,lt,E'⟩
  ·have GU:r=1:=by simpa using h
   subst GU;obtain⟨f0,f1,f2⟩:=E.fin ML.1;exact⟨_,rfl,_,rfl,_,_,rfl,rfl,(by show(0:Int)<p;omega),q _ f0 f1 f2⟩
abbrev vz:Stmt:=(aO 11)
abbrev xG:Stmt:=aQ (aO 20) 0
inductive Th (H:Hp):V->String->Prop where
 |non:Th H .non "NoneType"
 |bl (b:Bool):Th H (.bl b) "bool"
 |int (i:Int):Th H (.int i) "int"
 |str (x:Str):Th H (.str x) "str"
 |lst {a:Addr}{xs:List V}(e:H a=some (.lst xs)):Th H (.ref a) "list"
 |tup {a:Addr}{xs:List V}(e:H a=some (.tup xs)):Th H (.ref a) "tuple"
 |dK {a:Addr}{GH:List (Key×V)}(e:H a=some (.dK GH)):Th H (.ref a) "dict"
variable {K:Frag}{H:Hp}{x:V}
theorem Th.ty {T:String}(h:Th H x T):qB K H x (.type T):=by
 cases h with
 |non=>exact .of .non
 |bl b=>exact .of (.bl b)
 |int i=>exact .of (.int i)
 |str x=>exact .of (.str x)
 |lst e=>exact .of (.lst e)
 |tup e=>exact .of (.tup e)
 |dK e=>exact .of (.dK e)
def dk:V->Bool
 | .int _=>true
 |_=>false
def Dx:V->Bool
 | .int _=>true
 | .bl _=>true
 |_=>false
theorem Th.isInt {T:String}(h:Th H x T):kitOne K (.type T) (.type "int")=some (Dx x):=by cases h <;> rfl
theorem Th.isBool {T:String}(h:Th H x T)(hi:Dx x=true):kitOne K (.type T) (.type "bool")=some (!dk x):=by
 cases h with
 |int i=>rfl
 |bl b=>rfl
 |_=>cases hi
def FY:Sp:=λvs H Q _=>∃x T,vs=[x]/\Th H x T/\Q (.bl (dk x)) H
structure yr (mg:vW):Prop where
 isi:mg "isinstance"=none
 int:mg "int"=none
 bool:mg "bool"=none
theorem y4:yJ vb vb (ai vz):=dE (by decide +kernel)
theorem wt (F:vM K "is_whole" "is_whole" vz f fd)(n:yr mg):Bp P w K mg base (bf P w) 1 f fd vb FY:=by
 refine F.okN y4 (λvs H Q E h=>?_) (λGN A outer s H vs Q E hr h=>?_)
 ·obtain⟨x,T,rfl,_⟩:=h;rfl
 ·obtain⟨x,T,rfl,th,q⟩:=h
  refine⟨_,aq (aA (cC (az ba (by rfl) n.isi (by rfl) (bF (pv 0) (bF (c9 (by rfl) n.int (by rfl) (show aE (.ty "int") (.type "int") from rfl)) af)))
   (fF (aaM (az ba (by rfl) n.isi (by rfl) (bF (pv 0) (bF (c9 (by rfl) n.bool (by rfl) (show aE (.ty "bool") (.type "bool") from rfl)) af))))))),?_⟩
  refine⟨_,rfl,x,.ty "int",_,_,_,rfl,rfl,th.ty,th.isInt,_,rfl,?_⟩;refine dD (λhi=>?_) (λhi=>?_)
  ·refine⟨_,rfl,x,.ty "bool",_,_,_,rfl,rfl,th.ty,th.isBool hi,_,rfl,?_⟩;simpa using q
  ·have e:dk x=false:=by
    cases th <;> first|rfl|exact absurd rfl hi
   rw[e] at q;exact q
def jv (i:Int):Bool:=i==0 || cV.any λp=>p==i
def good:V->Bool
 | .int i=>jv i
 |_=>false
def df (i:Int):List (Str×V):=[("its_prime",.int i)]
def jJ (C NF:Addr):Sp:=λvs H Q E=>∃(p dx:Addr)(x:V)(T:String),vs=[.ref p,x]/\Th H x T/\H p=some (.ins C dx [])/\(good x=true->Q .non (upd H p (.ins C dx [("its_prime",x)])))/\(good x=false->E (.ref NF) none H)
structure BJ (K:Frag)(mg:vW)(C:Addr):Prop where
 cl:BB K C
 nP:cU K C "its_prime"
 mgC:mg "Field"=some (.ref C)
 isC:((clsIn K C).isSome&&typeIn K (.ref C)==some (.type "type"))=true
 ca:findIn K (.ref C) "__class__"=some (some (.builtin "object.__class__"))
 sp:specialIn K (.builtin "object.__class__") "__get__"=some (some (.builtin "getset_descriptor.__get__"))
 tk:takesIn K (.builtin "object.__class__")=some true
 ob:mroIn K C (.type "object")=some true
variable {mg:vW}{C:Addr}
theorem BJ.ty (c:BJ K mg C){p dx:Addr}{fs:List (Str×V)}(e:H p=some (.ins C dx fs)):qB K H (.ref p) (.ref C):=.of (.ins e c.cl c.ca c.sp c.tk c.ob)
theorem BJ.is (c:BJ K mg C):kitOne K (.ref C) (.ref C)=some true:=by
 unfold kitOne;rw[if_pos (by simp)]
theorem BJ.no (c:BJ K mg C){T:String}(h:Th H x T):kitOne K (.type T) (.ref C)=some false:=by
 show(if(Value.type T==Value.ref C)=true then some true else(if((clsIn K C).isSome&&typeIn K (.ref C)==some (.type "type"))=true then subIn K (.type T) (.ref C) else none))=some false;rw[if_neg (by intro z;cases beq_iff_eq.mp z),if_pos c.isC]
 cases h <;> rfl
theorem kE (i:Int):iK (.int i) (cV.map V.int)=cV.any λp=>p==i:=by
 unfold iK;rw[List.any_map];rfl
theorem Ci:yJ uQ uQ (ai xG):=dE (by decide +kernel)
variable {tF:Tok}
theorem zm {fw NF aP T:Addr}{HD:EK}(F:Fx K "__init__" "Field.__init__" xG f fd T)(c:BJ K mg C)(FW:Bp P w K mg base (bf P w) 1 fw HD vb FY)(bW:ay K HD vb [])(mW:mg "is_whole"=some (.ref fw))(kW:keepIn K (.ref fw)=true)
 (mF:mg "FRACTIONS"=some (.int 0 tF))(mP:mg "PRIMES"=some (.ref aP))(hP:∀H:Hp,bo K H aP (cV.map V.int))(mN:mg "NoField"=some (.ref NF))(qN:p7 K NF CN xZ=true):Bp P w K mg base (bf P w) 2 f fd uQ (jJ C NF):=by
 refine F.okE Ci (λvs H Q E h=>?_) (λGN A outer s H vs Q E hr h=>?_)
 ·obtain⟨p,dx,x,T,rfl,_⟩:=h;rfl
 ·obtain⟨p,dx,x,T,rfl,th,hp,hq,hE⟩:=h
  refine⟨_,aj (bw (PW.pt (dz (bB (bJ (ax FW hr (by rfl) mW kW bW .nil ag (bF (pv 1) af))))
   (cR (PW.pt (p8 (aH fM (pv 1) (cB (by rfl) mF (show aE (.int 0) (.int 0 tF) from⟨_,rfl⟩)) (aG _)) (nQ (aH iy (pv 1) (cB (by rfl) mP (show aE (.ref aP) (.ref aP) from rfl)) (by rfl))))))))
   (aq (iz PySem.F.excBase_ValueError qN rfl fK (by rfl) mN (bF kQ af))) aM)
   (aq (g9 (pv 0) (pv 1) rfl)),?_⟩
  have fin:good x=true->∃(a C' Wn:Addr)(fs:List (Str×V)),V.ref p=.ref a/\H a=some (.ins C' Wn fs)/\BB K C'/\cU K C' "its_prime"/\fs.length<1000/\Q .non (upd H a (.ins C' Wn (cH "its_prime" x fs))):=λg=>⟨p,C,dx,[],rfl,hp,c.cl,c.nP,by decide,hq g⟩;refine⟨_,rfl,x,T,rfl,th,_,rfl,?_⟩
  cases th with
  |int i =>
   refine bx ?_;refine⟨_,rfl,rfl,_,rfl,?_⟩;refine dD (λh0=>?_) (λh0=>?_)
   ·refine⟨_,rfl,aP,_,rfl,.inr (hP _),rfl,rfl,_,rfl,?_⟩;refine dD (λh1=>?_) (λh1=>?_)
    ·refine⟨by decide,hE ?_⟩
     have e1:¬i=0:=by simpa using h0
     have e2:iK (.int i) (cV.map V.int)=false:=by simpa using h1
     rw[kE] at e2;show jv i=false;unfold jv;rw[e2];simpa using e1
    ·have e2:iK (.int i) (cV.map V.int)=true:=by simpa using h1
     rw[kE] at e2;exact⟨_,rfl,_,rfl,fin (by show jv i=true;unfold jv;rw[e2];simp)⟩
   ·have e1:i=0:=by simpa using h0
    exact bx ⟨_,rfl,_,rfl,fin (by show jv i=true;rw[e1];rfl)⟩
  |_=>exact b7 (b7 ⟨by decide,hE rfl⟩)
abbrev Av:Stmt:=aQ (aO 20) 5
abbrev AD:Stmt:=aQ (aO 20) 6
abbrev oI:Stmt:=aQ (aO 20) 10
def FP (p:Int):Prop:=p=0\/p∈cV
theorem FP.nn (h:FP p):0<=p:=by
 rcases h with h|h
 ·omega
 ·have:=eN h;omega
theorem FP.two (h:FP p)(z:p≠0):p∈cV/\2<=p/\p<=97:=by
 rcases h with h|h
 ·exact absurd h z
 ·exact⟨h,eN h⟩
def qz (C NN:Addr):Sp:=λvs H Q E=>∃(s dx:Addr)(p t b:Int),vs=[.ref s,.int t,.int b]/\H s=some (.ins C dx (df p))/\FP p/\B 9000 b /\
 (p=0->b=0->E (.ref NN) none H)/\(p=0->b≠0->∀a,H a=none->Q (.ref a) (upd H a (bO (dW t b) (cD t b)))) /\
 (p≠0->b%p=0->E (.ref NN) none H)/\(p≠0->b%p≠0->∀v,0<=v->v<p->(v*b)%p=1->∀a,H a=none->Q (.ref a) (upd H a (bO (t*v%p) 1)))
def mE (C:Addr):Sp:=λvs H Q _=>∃(s dx:Addr)(p t b:Int),vs=[.ref s,.int t,.int b]/\H s=some (.ins C dx (df p))/\FP p/\B 9000 b/\b≠0/\∀a,H a=none->Q (.ref a) (upd H a (bO (cN p t b) (c5 p t b)))
def As (C:Addr)(g:Int->Int->Int->Int->Int):Sp:=λvs H Q _=>∃(s dx a1 a2:Addr)(p t1 b1 t2 b2:Int),vs=[.ref s,.ref a1,.ref a2]/\H s=some (.ins C dx (df p))/\FP p/\H a1=some (bO t1 b1)/\H a2=some (bO t2 b2) /\
 B 4000 t1/\B 4000 b1/\B 4000 t2/\B 4000 b2/\b1≠0/\b2≠0/\∀a,H a=none->Q (.ref a) (upd H a (bO (cN p (g t1 b1 t2 b2) (b1*b2)) (c5 p (g t1 b1 t2 b2) (b1*b2))))
def jq (t1 b1 t2 b2:Int):Int:=t1*b2+t2*b1
def m9 (t1 b1 t2 b2:Int):Int:=t1*t2
theorem Ck:yJ zp zp (ai Av):=dE (by decide +kernel)
theorem zv {NN fl fv:Addr}{Ij NL:EK}(F:vM K "quotient" "Field.quotient" Av f fd)(c:BJ K mg C)(mF:mg "FRACTIONS"=some (.int 0 tF))(mN:mg "NoNumber"=some (.ref NN))(qN:p7 K NN CN xZ=true)
 (FL:Bp P w K mg base (bf P w) 2 fl Ij wL EW)(bL:L2.ay K Ij wL [])(mL:mg "lowest"=some (.ref fl))(kL:keepIn K (.ref fl)=true)
 (FV:Bp P w K mg base (bf P w) 1 fv NL vG yg)(bV:L2.ay K NL vG [])(mV:mg "inverse"=some (.ref fv))(kV:keepIn K (.ref fv)=true):
 Bp P w K mg base (bf P w) 3 f fd zp (qz C NN):=by
 refine F.okE Ck (λvs H Q E h=>?_) (λGN A outer s H vs Q E hr h=>?_)
 ·obtain⟨s,dx,p,t,b,rfl,_⟩:=h;rfl
 ·obtain⟨s,dx,p,t,b,rfl,hs,hp,hB,q1,q2,q3,q4⟩:=h;have GU:wK 1 _:=hr.mono (by decide)
  refine⟨_,aj (bw (aH dF (cp (pv 0) rfl) (cB (by rfl) mF (show aE (.int 0) (.int 0 tF) from⟨_,rfl⟩)) (aG _))
   (aj (bw (aH dF (pv 2) ao (aG _)) (aq (iz PySem.F.excBase_ValueError qN rfl fK (by rfl) mN (ak kQ af))) aM)
   (aq (aA (ax FL hr (by rfl) mL kL bL .nil ag (ak (pv 1) (ak (pv 2) af)))))) aM)
   (aj (bw (aH dF (aD cx (pv 2) (cp (pv 0) rfl)) ao (aG _)) (aq (iz PySem.F.excBase_ValueError qN rfl fK (by rfl) mN (ak kQ af))) aM)
   (aq (aA (bh (ak (aD cx (aD fA (pv 1) (ax FV GU (by rfl) mV kV bV .nil ag (ak (pv 2) (ak (cp (pv 0) rfl) af)))) (cp (pv 0) rfl)) (ak ao af)))))),?_⟩
  refine⟨_,rfl,s,C,dx,_,_,rfl,hs,c.cl,c.nP,rfl,rfl,_,rfl,?_⟩;refine dD (λh=>?_) (λh=>?_)
  ·have Hw:p=0:=by simpa using h
   refine⟨_,rfl,rfl,_,rfl,?_⟩;refine dD (λh2=>?_) (λh2=>?_)
   ·have hb:b=0:=by simpa using h2
    exact⟨by decide,q1 Hw hb⟩
   ·have hb:b≠0:=by simpa using h2
    exact⟨_,rfl,_,rfl,t,b,rfl,hb,hB,q2 Hw hb⟩
  ·have Hw:p≠0:=by simpa using h
   obtain⟨MN,p2,Q8⟩:=hp.two Hw;refine⟨_,rfl,_,rfl,s,C,dx,_,_,rfl,hs,c.cl,c.nP,rfl,_,_,rfl,rfl,(by show(0:Int)<p;omega),rfl,_,rfl,?_⟩;refine dD (λh2=>?_) (λh2=>?_)
   ·have hb:b%p=0:=by simpa using h2
    exact⟨by decide,q3 Hw hb⟩
   ·have hb:b%p≠0:=by simpa using h2
    refine⟨_,rfl,_,rfl,_,rfl,s,C,dx,_,_,rfl,hs,c.cl,c.nP,rfl,b,p,rfl,MN,hb,λv v0 v1 v2=>?_⟩;refine⟨_,_,rfl,rfl,.inr ⟨by omega,by omega⟩,_,rfl,s,C,dx,_,_,rfl,hs,c.cl,c.nP,rfl,_,_,rfl,rfl,(by show(0:Int)<p;omega),gc,λa ha=>q4 Hw hb v v0 v1 v2 a ha⟩
theorem tY:yJ zp zp (ai oI):=dE (by decide +kernel)
theorem pX {fl:Addr}{Ij:EK}(F:vM K "settled" "Field.settled" oI f fd)(c:BJ K mg C)(mF:mg "FRACTIONS"=some (.int 0 tF))
 (FL:Bp P w K mg base (bf P w) 2 fl Ij wL EW)(bL:L2.ay K Ij wL [])(mL:mg "lowest"=some (.ref fl))(kL:keepIn K (.ref fl)=true):
 Bp P w K mg base (bf P w) 3 f fd zp (mE C):=by
 refine F.okN tY (λvs H Q E h=>?_) (λGN A outer s H vs Q E hr h=>?_)
 ·obtain⟨s,dx,p,t,b,rfl,_⟩:=h;rfl
 ·obtain⟨s,dx,p,t,b,rfl,hs,hp,hB,hb,q⟩:=h
  refine⟨_,aj (bw (aH dF (cp (pv 0) rfl) (cB (by rfl) mF (show aE (.int 0) (.int 0 tF) from⟨_,rfl⟩)) (aG _))
   (aq (aA (ax FL hr (by rfl) mL kL bL .nil ag (ak (pv 1) (ak (pv 2) af))))) aM)
   (aq (aA (bh (ak (aD cx (pv 1) (cp (pv 0) rfl)) (ak ao af))))),?_⟩
  refine⟨_,rfl,s,C,dx,_,_,rfl,hs,c.cl,c.nP,rfl,rfl,_,rfl,?_⟩;refine dD (λh=>?_) (λh=>?_)
  ·have Hw:p=0:=by simpa using h
   refine⟨_,rfl,_,rfl,t,b,rfl,hb,hB,λa ha=>?_⟩;have y:=q a ha;unfold cN c5 at y;rw[if_pos Hw,if_pos Hw] at y;exact y
  ·have Hw:p≠0:=by simpa using h
   obtain⟨MN,p2,Q8⟩:=hp.two Hw;refine⟨_,rfl,_,rfl,s,C,dx,_,_,rfl,hs,c.cl,c.nP,rfl,_,_,rfl,rfl,(by show(0:Int)<p;omega),gc,λa ha=>?_⟩;have y:=q a ha;unfold cN c5 at y;rw[if_neg Hw,if_neg Hw] at y;exact y
theorem a0 (x y:V):qx [x,y] 0=some x:=rfl
theorem a1 (x y:V):qx [x,y] 1=some y:=rfl
theorem BI:yJ qr qr (ai AD):=dE (by decide +kernel)
theorem qG {a b:Int}(h:a≠0)(k:b≠0):a*b≠0:=Int.mul_ne_zero h k
theorem yC {fs:Addr}{KW:EK}(F:vM K "plus" "Field.plus" AD f fd)(c:BJ K mg C)(FS:Bp P w K mg base (bf P w) 3 fs KW zp (mE C))(bS:L2.ay K KW zp [])(mS:L2.Meth K C "settled" fs):
 Bp P w K mg base (bf P w) 4 f fd qr (As C jq):=by
 refine F.okN BI (λvs H Q E h=>?_) (λGN A outer s H vs Q E hr h=>?_)
 ·obtain⟨s,dx,a1,a2,p,t1,b1,t2,b2,rfl,_⟩:=h;rfl
 ·obtain⟨s,dx,x1,x2,p,t1,b1,t2,b2,rfl,hs,hp,h1,h2,B1,B2,B3,B4,n1,n2,q⟩:=h;refine⟨_,aq (aA (fb (pv 0) c.cl mS FS hr bS .nil ag (ak (aD dn (aD cw (aZ a9 (pv 1) ao (λ_ _=>rfl)) (aZ a9 (pv 2) ao (λ_ _=>rfl))) (aD cw (aZ a9 (pv 2) ao (λ_ _=>rfl)) (aZ a9 (pv 1) ao (λ_ _=>rfl)))) (ak (aD cw (aZ a9 (pv 1) ao (λ_ _=>rfl)) (aZ a9 (pv 2) ao (λ_ _=>rfl))) af)))),?_⟩;refine⟨_,rfl,s,dx,_,rfl,hs,rfl,?_⟩;refine⟨_,rfl,x1,_,0,_,rfl,rfl,bo.of h1,a0 _ _,_,rfl,x2,_,1,_,rfl,rfl,bo.of h2,a1 _ _,_,_,rfl,rfl,⟨B1.mono (by decide),B4.mono (by decide)⟩,?_⟩;refine⟨_,rfl,x2,_,0,_,rfl,rfl,bo.of h2,a0 _ _,_,rfl,x1,_,1,_,rfl,rfl,bo.of h1,a1 _ _,_,_,rfl,rfl,⟨B3.mono (by decide),B2.mono (by decide)⟩,_,_,rfl,rfl,?_⟩;refine⟨_,rfl,x1,_,1,_,rfl,rfl,bo.of h1,a1 _ _,_,rfl,x2,_,1,_,rfl,rfl,bo.of h2,a1 _ _,_,_,rfl,rfl,⟨B2.mono (by decide),B4.mono (by decide)⟩,?_⟩;exact⟨s,dx,p,_,_,rfl,hs,hp,(B2.mul B4).mono (by decide),qG n1 n2,q⟩
abbrev AE:Stmt:=(aO 51)
abbrev AH:Stmt:=(aO 52)
theorem ah {a:Addr}{o:HO}(h:H a=none):aC H (upd H a o):=λb u e=>by rw[ar (au e h)];exact e
def yn (K:PySem.W.Frag):Sp:=λvs H Q _=>∃(a:Addr)(ns:List Int)(k:Int),vs=[.ref a,.int k]/\aN K H a (ns.map V.int)/\ns.length<=63/\0<=k/\k<=63 /\
 ∀(p:Addr)(l r:Int),H p=none->0<=r->r<2147483647->Q (.ref p) (upd H p (.lst [.int l,.int r]))
def DF:Sp:=λvs H Q _=>∃(p:Addr)(l r m:Int),vs=[.ref p,.int m]/\H p=some (.lst [.int l,.int r])/\0<=r/\r<2147483647/\0<m/\m<18446744073709551616 /\
 ∀(z l' r':Int),0<=z->z<m->0<=r'->r'<2147483647->Q (.int z) (upd H p (.lst [.int l',.int r']))
theorem jO:yJ ["_law_script","_law_k","_law_cell","_law_seed"] BC (ai AE):=dE (by decide +kernel)
theorem vI:yJ ["_law_pool_here","_law_many","_law_found"] zV (ai AH):=dE (by decide +kernel)
theorem pz {Q:VK}{k c:Int}{x y:Option V}(Nw:0<=k)(Sk:k<=63)(q:∀(p:Addr)(l r:Int),H p=none->0<=r->r<2147483647->Q (.ref p) (upd H p (.lst [.int l,.int r]))):
 BH (tR (nG (rI (λ_ j=>0<j) λi j=>.int (i%j)) (nG (rI rf λi j=>.int (i*j)) (nG (ug λi j=>.int (i+j)) (nG (ug λi j=>.int (i+j)) (nG (rI (λ_ j=>0<j) λi j=>.int (i%j)) (d9 2) (tC (.int 2147483629))) (nG (rI rf λi j=>.int (i*j)) (nG (rI rf λi j=>.int (i*j)) (tC (.int 7919)) (d9 1)) (d9 1))) (tC (.int 11))) (tC (.int 48271))) (tC (.int 2147483647))) (bg 3))
  (BH (DS (w9 (nG (ug λi j=>.bl (decide (i<j))) (d9 2) (nG (rI CW λi j=>.int (i^j.toNat)) (tC (.int 10)) (tC (.int 18))))) (tR (tC (.int 0)) (bg 2)) BV)
  (Ec (BZ (dm (d9 2) (dm (nG (ug λi j=>.int (i+j)) (nG (rI (λ_ j=>0<j) λi j=>.int (i%j)) (nG (rI rf λi j=>.int (i*j)) (d9 3) (d9 3)) (tC (.int 2147483587))) (tC (.int 1))) Br)))))
  {nx:=λ_ H'=>Q .non H',rt:=Q} [x,some (.int k),some (.int c),y] H:=by
 have e1:∀t:Int,0<=t%2147483647/\t%2147483647<2147483647:=λt=>⟨Int.emod_nonneg _ (by decide),Int.emod_lt_of_pos _ (by decide)⟩;have e2:∀t:Int,0<=t%2147483587/\t%2147483587<2147483587:=λt=>⟨Int.emod_nonneg _ (by decide),Int.emod_lt_of_pos _ (by decide)⟩;refine⟨_,rfl,_,_,rfl,rfl,(by show(0:Int)<2147483629;decide),_,rfl,_,_,rfl,rfl,.inl ⟨by decide,by decide⟩,_,rfl,_,_,rfl,rfl,.inl ⟨by omega,by omega⟩,_,_,rfl,rfl,_,_,rfl,rfl,_,_,rfl,rfl,.inr ⟨by decide,by decide⟩,_,_,rfl,rfl,(by show(0:Int)<2147483647;decide),?_⟩;refine⟨_,rfl,_,_,rfl,rfl,⟨by decide,by decide,by decide⟩,_,_,rfl,rfl,_,rfl,?_⟩;refine dD (λh=>?_) (λh=>?_)
 ·refine⟨_,rfl,_,rfl,_,rfl,_,_,rfl,rfl,.inl ⟨by have:=e1 ((c%2147483629+7919*k*k+11)*48271);omega,by have:=e1 ((c%2147483629+7919*k*k+11)*48271);omega⟩,_,_,rfl,rfl,(by show(0:Int)<2147483587;decide),_,_,rfl,rfl,gc,λp hp=>?_⟩;exact q p _ _ hp (by have:=e2 (((c%2147483629+7919*k*k+11)*48271%2147483647)*((c%2147483629+7919*k*k+11)*48271%2147483647));omega) (by have:=e2 (((c%2147483629+7919*k*k+11)*48271%2147483647)*((c%2147483629+7919*k*k+11)*48271%2147483647));omega)
 ·refine⟨_,rfl,_,rfl,_,rfl,_,_,rfl,rfl,.inl ⟨by have:=e1 ((c%2147483629+7919*k*k+11)*48271);omega,by have:=e1 ((c%2147483629+7919*k*k+11)*48271);omega⟩,_,_,rfl,rfl,(by show(0:Int)<2147483587;decide),_,_,rfl,rfl,gc,λp hp=>?_⟩;exact q p _ _ hp (by have:=e2 (((c%2147483629+7919*k*k+11)*48271%2147483647)*((c%2147483629+7919*k*k+11)*48271%2147483647));omega) (by have:=e2 (((c%2147483629+7919*k*k+11)*48271%2147483647)*((c%2147483629+7919*k*k+11)*48271%2147483647));omega)
theorem Ag (F:vM K "_law_pool" "_law_pool" AE f fd)(GJ:mg "len"=none):Bp P w K mg base (bf P w) 1 f fd BC (yn K):=by
 refine F.okN jO (λvs H Q E h=>?_) (λGN A outer s H vs Q E hr h=>?_)
 ·obtain⟨a,ns,k,rfl,_⟩:=h;rfl
 ·obtain⟨a,ns,k,rfl,hS,hn,Nw,Sk,q⟩:=h
  refine⟨_,(aj (@aY _ _ 2 _ _ _ _ jO.nd rfl (Or.inl rfl) ao rfl (Or.inl rfl))
   (aj (bw (@aH _ _ _ _ _ _ _ _ kJ (pv 1) (az aJ (by rfl) GJ PySem.boot_len (@ak _ _ _ _ _ (pv 0) af rfl)) (aG _)) (aq (@aY _ _ 2 _ _ _ _ jO.nd rfl (Or.inl rfl) (@aZ _ _ _ _ _ _ _ cz (pv 0) (pv 1) (λ_ _=>rfl)) rfl (Or.inl rfl))) aM)
   (aj (@aY _ _ 3 _ _ _ _ jO.nd rfl (Or.inl rfl) (@aD _ _ _ _ _ _ _ _ cx (@aD _ _ _ _ _ _ _ _ fA (@aD _ _ _ _ _ _ _ _ dn (@aD _ _ _ _ _ _ _ _ dn (@aD _ _ _ _ _ _ _ _ cx (pv 2) ao) (@aD _ _ _ _ _ _ _ _ fA (@aD _ _ _ _ _ _ _ _ fA ao (pv 1)) (pv 1))) ao) ao) ao) rfl (Or.inl rfl))
   (aj (bw (@aH _ _ _ _ _ _ _ _ kJ (pv 2) (@aD _ _ _ _ _ _ _ _ yi ao ao) (aG _)) (aq (@aY _ _ 2 _ _ _ _ jO.nd rfl (Or.inl rfl) ao rfl (Or.inl rfl))) aM)
   (aq (aA (@cu _ _ _ _ (@ak _ _ _ _ _ (pv 2) (@ak _ _ _ _ _ (@aD _ _ _ _ _ _ _ _ dn (@aD _ _ _ _ _ _ _ _ cx (@aD _ _ _ _ _ _ _ _ fA (pv 3) (pv 3)) ao) ao) af rfl) rfl)))))))),?_⟩
  refine⟨_,rfl,_,rfl,a,_,rfl,.inl hS,_,_,rfl,rfl,_,rfl,?_⟩;refine dD (λh=>?_) (λh=>pz Nw Sk q)
  have GR:k.toNat<ns.length:=by
   have h1:=of_decide_eq_true h;rw[List.length_map] at h1;omega
  have e:((k.toNat:Nat):Int)=k:=by omega
  have z:=si (xs:=ns.map V.int) (j:=k.toNat) (v:=V.int ns[k.toNat]) (by rw[List.getElem?_map];simp[GR]);rw[e] at z;exact⟨_,rfl,_,rfl,a,_,k,_,rfl,rfl,hS,z,pz Nw Sk q⟩
theorem yx (F:vM K "_law_take" "_law_take" AH f fd):Bp P w K mg base (bf P w) 1 f fd zV DF:=by
 refine F.okN vI (λvs H Q E h=>?_) (λGN A outer s H vs Q E hr h=>?_)
 ·obtain⟨p,l,r,m,rfl,_⟩:=h;rfl
 ·obtain⟨p,l,r,m,rfl,hp,Sl,GU,Q9,hm1,q⟩:=h
  refine⟨_,(aj (bw (@aH _ _ _ _ _ _ _ _ rG (@aZ _ _ _ _ _ _ _ cz (pv 0) ao (λ_ _=>rfl)) ao (aG _)) (aj (@aY _ _ 2 _ _ _ _ vI.nd rfl (Or.inl rfl) (@aD _ _ _ _ _ _ _ _ cx (@aZ _ _ _ _ _ _ _ cz (pv 0) ao (λ_ _=>rfl)) (pv 1)) rfl (Or.inl rfl))
   (aj (nK (@aD _ _ _ _ _ _ _ _ eI (@aZ _ _ _ _ _ _ _ cz (pv 0) ao (λ_ _=>rfl)) (pv 1)) (vx (pv 0) ao pQ))
   (aq (aA (pv 2))))) aM)
   (aj (nK (@aD _ _ _ _ _ _ _ _ cx (@aD _ _ _ _ _ _ _ _ dn (@aD _ _ _ _ _ _ _ _ fA (@aZ _ _ _ _ _ _ _ cz (pv 0) ao (λ_ _=>rfl)) ao) ao) ao) (vx (pv 0) ao pQ))
   (aq (aA (@aD _ _ _ _ _ _ _ _ cx (@aD _ _ _ _ _ _ _ _ aa3 (@aD _ _ _ _ _ _ _ _ cx (@aD _ _ _ _ _ _ _ _ fA (@aZ _ _ _ _ _ _ _ cz (pv 0) ao (λ_ _=>rfl)) (@aZ _ _ _ _ _ _ _ cz (pv 0) ao (λ_ _=>rfl))) ao) ao) (pv 1)))))),?_⟩
  have i0:∀x y:V,qx [x,y] 0=some x:=λ_ _=>rfl;have i1:∀x y:V,qx [x,y] 1=some y:=λ_ _=>rfl;have n0:yo [V.int l,V.int r].length 0=some 0:=rfl;have n1:∀x y:V,yo [x,y].length 1=some 1:=λ_ _=>rfl;refine⟨_,rfl,p,_,0,_,rfl,rfl,aN.of hp,i0 _ _,_,_,rfl,rfl,_,rfl,?_⟩;refine dD (λh=>?_) (λh=>?_)
  ·refine⟨_,rfl,p,_,0,_,rfl,rfl,aN.of hp,i0 _ _,_,rfl,_,_,rfl,rfl,Q9,?_⟩;refine⟨_,rfl,p,_,0,_,rfl,rfl,aN.of hp,i0 _ _,_,rfl,_,_,rfl,rfl,⟨by omega,(show B 64 m from(by show m.natAbs<2^64;omega)).mono (by decide)⟩,_,rfl,p,_,0,0,rfl,rfl,hp,n0,?_⟩;exact⟨_,rfl,q _ _ _ (Int.emod_nonneg _ (by omega)) (Int.emod_lt_of_pos _ Q9) Sl GU⟩
  ·have e1:∀t:Int,0<=t%2147483647/\t%2147483647<2147483647:=λt=>⟨Int.emod_nonneg _ (by decide),Int.emod_lt_of_pos _ (by decide)⟩;refine⟨_,rfl,p,_,1,_,rfl,rfl,aN.of hp,i1 _ _,_,_,rfl,rfl,.inl ⟨by omega,by omega⟩,_,_,rfl,rfl,_,_,rfl,rfl,(by show(0:Int)<2147483647;decide),_,rfl,p,_,1,1,rfl,rfl,hp,n1 _ _,?_⟩;refine⟨_,rfl,p,_,1,_,rfl,rfl,aN.of ae,i1 _ _,_,rfl,p,_,1,_,rfl,rfl,aN.of ae,i1 _ _,_,_,rfl,rfl,.inl ⟨by omega,by omega⟩,_,_,rfl,rfl,(by show(0:Int)<2147483629;decide),_,_,rfl,rfl,⟨by decide,by decide⟩,_,rfl,_,_,rfl,rfl,Q9,?_⟩;exact q _ _ _ (Int.emod_nonneg _ (by omega)) (Int.emod_lt_of_pos _ Q9) (e1 _).1 (e1 _).2
end K75
namespace L2
open PySem
variable {H:Hp}
theorem ku {σ:St}{A B:Hp->Prop}(h:A H):GC σ H λb H4=>if b=true then A H4 else B H4:=h
variable {tt:TT}{te:TE}
theorem oR {J:It}{n:Nat}{at_:Nat->V->Prop}{rest:St}{F:List V->Hp->Prop}(Pv:Nat->List V->Hp->Prop)(h0:Pv 0 [] H)
 (hz:∀i ys H',i<=n->Pv i ys H'->ys.length<sizeLine/\(i<n->J.go i H')/\(i=n->J.stop i H')/\∀x H2,J.yld i H' x H2->H2=H'/\at_ i x)
 (hs:∀i x ys H' (N:List V->Hp->Prop),i<n->at_ i x->Pv i ys H'->(∀zs H5,Pv (i+1) zs H5->N zs H5) →
  tt (some x::rest) H' λb H4=>if b=true then te (some x::rest) H4 λy H5=>N (ys++[y]) H5 else N ys H4)
 (hd:∀ys H',Pv n ys H'->F ys H'):
 ∃W:Nat->Nat->List V->St->Hp->Prop,(∃m,W 0 m [] (none::rest) H)/\gK J (bg 0) tt te W F:=by
 refine⟨λi m ys σ H'=>m=n-i/\i<=n/\Pv i ys H'/\∃o,σ=o::rest,⟨n,by simp,Nat.zero_le _,h0,none,rfl⟩,?_⟩;rintro i m ys σ H' ⟨rfl,hi,p,o,rfl⟩;obtain⟨z1,z2,z3,z4⟩:=hz i ys H' hi p;refine⟨z1,?_⟩
 by_cases GR:i<n
 ·refine .inr ⟨z2 GR,λx H2 hy=>?_⟩;obtain⟨rfl,hx⟩:=z4 x H2 hy;exact hs i x ys H2 (λzs H5=>∃m',m'<n-i/\m'=n-(i+1)/\i+1<=n/\Pv (i+1) zs H5/\∃o',(some x::rest:St)=o'::rest) GR hx p λzs H5 h=>⟨n-(i+1),by omega,rfl,GR,h,_,rfl⟩
 ·have:i=n:=by omega
  subst this;exact .inl ⟨z3 rfl,hd ys H' p⟩
theorem c6 {K:PySem.W.Frag}{a:Addr}{xs:List V}{rest:St}{F:List V->Hp->Prop}(Pv:Nat->List V->Hp->Prop)(h0:Pv 0 [] H)
 (hz:∀i ys H',i<=xs.length->Pv i ys H'->ys.length<sizeLine/\aN K H' a xs)
 (hs:∀i x ys H' (N:List V->Hp->Prop),i<xs.length->xs[i]?=some x->Pv i ys H'->(∀zs H5,Pv (i+1) zs H5->N zs H5) →
  tt (some x::rest) H' λb H4=>if b=true then te (some x::rest) H4 λy H5=>N (ys++[y]) H5 else N ys H4)
 (hd:∀ys H',Pv xs.length ys H'->F ys H'):
 ∃W:Nat->Nat->List V->St->Hp->Prop,(∃m,W 0 m [] (none::rest) H)/\gK (zC K a) (bg 0) tt te W F:=by
 refine oR (n:=xs.length) (at_:=λi x=>xs[i]?=some x) Pv h0 (λi ys H' hi p=>?_) hs hd;obtain⟨z1,z2⟩:=hz i ys H' hi p;exact⟨z1,λh=>⟨xs,xs[i],z2,by simp[h]⟩,λh=>⟨xs,z2,by omega⟩,λx H2 hy=>⟨hy.1,hy.2 xs z2⟩⟩
theorem oP {lo:Int}{n:Nat}{rest:St}{F:List V->Hp->Prop}(Pv:Nat->List V->Hp->Prop)(h0:Pv 0 [] H)
 (hz:∀i ys H',i<=n->Pv i ys H'->ys.length<sizeLine)
 (hs:∀i ys H' (N:List V->Hp->Prop),i<n->Pv i ys H'->(∀zs H5,Pv (i+1) zs H5->N zs H5) →
  tt (some (.int (lo+i)):: rest) H' λb H4=>if b=true then te (some (.int (lo+i)):: rest) H4 λy H5=>N (ys++[y]) H5 else N ys H4)
 (hd:∀ys H',Pv n ys H'->F ys H'):
 ∃W:Nat->Nat->List V->St->Hp->Prop,(∃m,W 0 m [] (none::rest) H)/\gK (AO lo n) (bg 0) tt te W F:=by
 refine oR (n:=n) (at_:=λi x=>x=.int (lo+i)) Pv h0 (λi ys H' hi p=>?_) (λi x ys H' N h1 h2=>by subst h2;exact hs i ys H' N h1) hd;exact⟨hz i ys H' hi p,λh=>h,λh=>by show n<=i;omega,λx H2 hy=>hy⟩
theorem gC {K:PySem.W.Frag}{a:Addr}{xs:List V}{rest:St}{F:List V->Hp->Prop}(Pv:Nat->List V->Hp->Prop)(h0:Pv 0 [] H)
 (hz:∀i ys H',i<=xs.length->Pv i ys H'->ys.length<sizeLine/\aN K H' a xs)
 (hs:∀i x ys H',i<xs.length->xs[i]?=some x->Pv i ys H' →
  ∃b u v,x=.ref b/\bo K H' b [u,v]/\∀(N:List V->Hp->Prop),(∀zs H5,Pv (i+1) zs H5->N zs H5)->tt (some u::some v::rest) H' λb H4=>if b=true then te (some u::some v::rest) H4 λy H5=>N (ys++[y]) H5 else N ys H4)
 (hd:∀ys H',Pv xs.length ys H'->F ys H'):
 ∃W:Nat->Nat->List V->St->Hp->Prop,(∃m,W 0 m [] (none::none::rest) H)/\gK (zC K a) (gq K 2 (bD (bg 0) (bD (bg 1) ve))) tt te W F:=by
 refine⟨λi m ys σ H'=>m=xs.length-i/\i<=xs.length/\Pv i ys H'/\∃o o2,σ=o::o2::rest,⟨xs.length,by simp,Nat.zero_le _,h0,none,none,rfl⟩,?_⟩;rintro i m ys σ H' ⟨rfl,hi,p,o,o2,rfl⟩;obtain⟨z1,z2⟩:=hz i ys H' hi p;refine⟨z1,?_⟩
 by_cases GR:i<xs.length
 ·refine .inr ⟨⟨xs,xs[i],z2,by simp[GR]⟩,λx H2 hy=>?_⟩;obtain⟨rfl,hx⟩:=hy;obtain⟨b,u,v,rfl,hb,h⟩:=hs i x ys H2 GR (hx xs z2) p;exact⟨_,[u,v],rfl,hb,rfl,_,_,rfl,_,_,rfl,rfl,h (λzs H5=>∃m',m'<xs.length-i/\m'=xs.length-(i+1)/\i+1<=xs.length/\Pv (i+1) zs H5/\∃o o2,(some u::some v::rest:St)=o::o2::rest) λzs H5 h=>⟨xs.length-(i+1),by omega,rfl,GR,h,_,_,rfl⟩⟩
 ·have:i=xs.length:=by omega
  subst this;exact .inl ⟨⟨xs,z2,Nat.le_refl _⟩,hd ys H' p⟩
end L2
namespace K75
open PySem L2 PySem.W Nm
abbrev AC:Stmt:=(aO 53)
abbrev xU:Stmt:=(aO 54)
abbrev xf:Stmt:=(aO 55)
abbrev sR:Stmt:=(aO 56)
def CQ (H:Hp)(Q:VK)(t b:Int):Prop:=∀(H':Hp)(a:Addr),aC H H'->H' a=some (bO t b)->Q (.ref a) H'
variable {H:Hp}
theorem CQ.of {H':Hp}{Q:VK}{t b:Int}(q:CQ H Q t b)(S:aC H H'):∀a,H' a=none->Q (.ref a) (upd H' a (bO t b)):=λa ha=>q _ a (S.trans (ah ha)) ae
def lL:Sp:=λvs H Q _=>∃t b:Int,vs=[.int t,.int b]/\b≠0/\B 9000 b/\B 9000 t/\CQ H Q (dW t b) (cD t b)
def Cr:Sp:=λvs H Q _=>∃p t b:Int,vs=[.int p,.int t,.int b]/\FP p/\b≠0/\B 9000 b/\B 9000 t/\(p≠0->b=1)/\CQ H Q (cN p t b) (c5 p t b)
def ng (g:Int->Int->Int->Int->Int):Sp:=λvs H Q _=>∃(p t1 b1 t2 b2:Int)(a1 a2:Addr),vs=[.int p,.ref a1,.ref a2]/\FP p/\H a1=some (bO t1 b1)/\H a2=some (bO t2 b2)/\B 4000 t1/\B 4000 b1/\B 4000 t2/\B 4000 b2/\b1≠0/\b2≠0/\(p≠0->b1*b2=1) /\
 CQ H Q (cN p (g t1 b1 t2 b2) (b1*b2)) (c5 p (g t1 b1 t2 b2) (b1*b2))
theorem lq:yJ ["_law_top","_law_bottom","_law_one","_law_other"] zS (ai AC):=dE (by decide +kernel)
theorem xk:yJ ["_law_prime","_law_top","_law_bottom","_law_back"] v5 (ai xU):=dE (by decide +kernel)
theorem y8:yJ GD GD (ai xf):=dE (by decide +kernel)
theorem xF:yJ GD GD (ai sR):=dE (by decide +kernel)
variable {P:vB}{w:World}{K:PySem.W.Frag}{mg:vW}{base:Heap}
theorem An (c:Int):(if c<0 then -c else c)=ab c:=rfl
variable {f:Addr}{fd:EK}
theorem zy (F:vM K "_law_low" "_law_low" AC f fd)(Ik:mg "abs"=none):Bp P w K mg base (bf P w) 1 f fd zS lL:=by
 refine F.okN lq (λvs H Q E h=>?_) (λGN A outer s H vs Q E hr h=>?_)
 ·obtain⟨a,b,rfl,_⟩:=h;rfl
 ·obtain⟨t,b,rfl,hb,hB,hT,q⟩:=h
  refine⟨_,(aj (@aY _ _ 2 _ _ _ _ lq.nd rfl (Or.inl rfl) (az kj (by rfl) Ik (by rfl) (@ak _ _ _ _ _ (pv 0) af rfl)) rfl (Or.inl rfl))
   (aj (@aY _ _ 3 _ _ _ _ lq.nd rfl (Or.inl rfl) (az kj (by rfl) Ik (by rfl) (@ak _ _ _ _ _ (pv 1) af rfl)) rfl (Or.inl rfl))
   (aj (jQ PassesOwn.never (@aH _ _ _ _ _ _ _ _ rG (pv 3) ao (aG _)) (aq (iP (i:=2) (j:=3) rfl lq.nd rfl rfl (by decide) rfl rfl (@ak _ _ _ _ _ (pv 3) (@ak _ _ _ _ _ (@aD _ _ _ _ _ _ _ _ rD (pv 2) (pv 3)) af rfl) rfl) rfl)))
   (aj (bw (@aH _ _ _ _ _ _ _ _ kJ (pv 1) ao (aG _)) (aq (@aY _ _ 2 _ _ _ _ lq.nd rfl (Or.inl rfl) (@aD _ _ _ _ _ _ _ _ nZ ao (pv 2)) rfl (Or.inl rfl))) aM)
   (aq (aA (@bh _ _ _ _ _ (@ak _ _ _ _ _ (@aD _ _ _ _ _ _ _ _ eI (pv 0) (pv 2)) (@ak _ _ _ _ _ (@aD _ _ _ _ _ _ _ _ eI (pv 1) (pv 2)) af rfl) rfl)))))))),?_⟩
  refine⟨_,rfl,t,rfl,_,rfl,b,rfl,?_⟩;rw[An,An];refine⟨λm σ H'=>∃c d:Int,σ=[some (.int t),some (.int b),some (.int c),some (.int d)]/\H'=H/\m=d.natAbs/\Int.gcd c d=Int.gcd t b/\0<=c/\0<=d,⟨_,ab t,ab b,rfl,rfl,rfl,BN t b,by rw[kg];omega,by rw[kg];omega⟩,?_⟩;rintro m σ H' ⟨c,d,rfl,rfl,rfl,hg,hc0,KU⟩;refine⟨_,rfl,_,_,rfl,rfl,_,rfl,?_⟩;refine dD (λh=>?_) (λh=>?_)
  ·have hd:d≠0:=by have:=of_decide_eq_true h;omega
   refine⟨λσ' Ho=>∃c' d':Int,σ'=[some (.int t),some (.int b),some (.int c'),some (.int d')]/\Ho=H'/\d'.natAbs<d.natAbs/\Int.gcd c' d'=Int.gcd t b/\0<=c'/\0<=d',λσ' Ho ⟨c',d',e1,e2,e3,e4,e5,e6⟩=>⟨_,e3,c',d',e1,e2,rfl,e4,e5,e6⟩,?_⟩;exact⟨_,rfl,_,rfl,_,rfl,_,_,rfl,rfl,hd,_,_,rfl,d,c.fmod d,rfl,rfl,sY c d hd,by rw[jS,hg],KU,Int.fmod_nonneg_of_pos c (by omega)⟩
  ·have hd:d=0:=by
    have:¬d>0:=by simpa using h
    omega
   subst hd
   have eg:c=dS t b:=by
    unfold dS;rw[<-hg];simp;omega
   have gp:=ib (t:=t) hb;have Ra:B 9000 (dS t b):=hB.le (Bw hb);subst eg;unfold dW cD dv at q;refine⟨_,rfl,_,_,rfl,rfl,_,rfl,?_⟩;refine dD (λh2=>?_) (λh2=>?_)
   ·have h2:=of_decide_eq_true h2;rw[if_pos h2] at q;refine⟨_,rfl,_,_,rfl,rfl,?_⟩;dsimp only;rw[Int.zero_sub]
    have hn:B 9000 (-(dS t b)):=by unfold B at Ra |-;rw[Int.natAbs_neg];exact Ra
    exact⟨_,rfl,_,rfl,_,_,rfl,rfl,⟨by omega,hn⟩,_,rfl,_,rfl,_,_,rfl,rfl,⟨by omega,hn⟩,gc,q.of (aC.refl _)⟩
   ·have h2:¬b<0:=by simpa using h2
    rw[if_neg h2] at q;exact⟨_,rfl,_,rfl,_,_,rfl,rfl,⟨by omega,Ra⟩,_,rfl,_,rfl,_,_,rfl,rfl,⟨by omega,Ra⟩,gc,q.of (aC.refl _)⟩
variable {fl:Addr}{Ij:EK}
theorem zG (F:vM K "_law_made" "_law_made" xU f fd)(GX:mg "range"=none)(FL:Bp P w K mg base (bf P w) 1 fl Ij zS lL)(bL:L2.ay K Ij zS [])(mL:mg "_law_low"=some (.ref fl))(kL:keepIn K (.ref fl)=true):
 Bp P w K mg base (bf P w) 2 f fd v5 Cr:=by
 refine F.okN xk (λvs H Q E h=>?_) (λGN A outer s H vs Q E hr h=>?_)
 ·obtain⟨p,t,b,rfl,_⟩:=h;rfl
 ·obtain⟨p,t,b,rfl,hp,hb,hB,hT,h1,q⟩:=h;have GU:wK 1 _:=hr
  refine⟨_,(aj (bw (@aH _ _ _ _ _ _ _ _ dF (pv 0) ao (aG _)) (aq (aA (ax FL GU (by rfl) mL kL bL .nil ag (@ak _ _ _ _ _ (pv 1) (@ak _ _ _ _ _ (pv 2) af rfl) rfl)))) aM)
   (aj (@aY _ _ 3 _ _ _ _ xk.nd rfl (Or.inl rfl) (@aZ _ _ _ _ _ _ _ cz (bX (N:=["_law_k","_law_prime","_law_bottom"]) (nl:=1) (js:=[0,2]) (osc:=ai xU) ⟨rfl,rfl,by decide +kernel,by decide +kernel,by decide +kernel,rfl,(.cons ⟨rfl,by decide +kernel⟩ (.cons ⟨rfl,by decide +kernel⟩ .nil)),by decide +kernel⟩ rfl
    (abE (by rfl) GX (@ak _ _ _ _ _ ao (@ak _ _ _ _ _ (pv 0) af rfl) rfl))
    (λCq fq sq Hq=>av (i:=0) (by show(["_law_k","_law_prime","_law_bottom"]:zF).Nodup;decide +kernel) rfl (Or.inl rfl) (Or.inr rfl))
    (λCq fq sq Hq=>(dJ (@aH _ _ _ _ _ _ _ _ dF (@aD _ _ _ _ _ _ _ _ cx (@aD _ _ _ _ _ _ _ _ cw (pv 2) (pv 0)) (pv 1)) ao (aG _))))
    (λCq fq sq Hq=>(pv 0))) ao (λ_ _=>rfl)) rfl (Or.inl rfl))
   (aq (aA (@bh _ _ _ _ _ (@ak _ _ _ _ _ (@aD _ _ _ _ _ _ _ _ cx (@aD _ _ _ _ _ _ _ _ cw (pv 1) (pv 3)) (pv 0)) (@ak _ _ _ _ _ ao af rfl) rfl)))))),?_⟩
  refine⟨_,rfl,rfl,_,rfl,?_⟩;refine dD (λh=>?_) (λh=>?_)
  ·have Hw:p=0:=by simpa using h
   unfold cN c5 at q;rw[if_pos Hw,if_pos Hw] at q;exact⟨_,rfl,_,rfl,t,b,rfl,hb,hB,hT,q⟩
  ·have Hw:p≠0:=by simpa using h
   obtain⟨MN,p2,Q8⟩:=hp.two Hw;have Rb:=h1 Hw;subst Rb;refine⟨_,rfl,_,_,rfl,⟨by omega,by omega,by omega,by omega⟩,?_⟩;have bp:∀{i:Int},0<=i->i<128->B 9000 i:=λh0 h1=>Nat.lt_of_lt_of_le (by omega:_<2^8) (Nat.pow_le_pow_right (by decide) (by decide));refine oP (lo:=1) (n:=(p-1).toNat) (rest:=[some (.int p),some (.int 1)]) (λi us H'=>H'=H/\us=if i=0 then [] else [.int 1]) ⟨rfl,rfl⟩ (λi us H' hi h=>?_) (λi us H' M hi h hM=>?_) (λus H' h=>?_)
   ·rw[h.2]
    split
    ·exact(by decide:0<sizeLine)
    ·exact(by decide:1<sizeLine)
   ·obtain⟨rfl,rfl⟩:=h;refine⟨_,rfl,_,rfl,_,_,rfl,rfl,⟨bp (by decide) (by decide),bp (by omega) (by omega)⟩,_,rfl,_,_,rfl,rfl,(by show(0:Int)<p;omega),rfl,_,rfl,?_⟩;dsimp only;rw[Int.one_mul];have em:=Int.emod_eq_of_lt (a:=1+(i:Int)) (b:=p) (by omega) (by omega)
    by_cases Wo:i=0
    ·subst Wo;rw[decide_eq_true (show V.int ((1+((0:Nat):Int))%p)=V.int 1 by rw[em];rfl)];exact b7 ⟨_,rfl,hM _ _ ⟨rfl,rfl⟩⟩
    ·rw[decide_eq_false (show ¬V.int ((1+(i:Int))%p)=V.int 1 from λz=>by rw[em] at z;injection z with z;omega)];refine bx (hM _ _ ⟨rfl,?_⟩);rw[if_neg Wo,if_neg (by omega)]
   ·obtain⟨rfl,rfl⟩:=h;rw[if_neg (by omega)];intro L hL;have S:=ah (o:=.lst [.int 1]) hL;refine⟨L,_,0,_,rfl,rfl,aN.of ae,rfl,?_⟩;unfold cN c5 at q;rw[if_neg Hw,if_neg Hw] at q;refine⟨_,rfl,_,rfl,_,_,rfl,rfl,⟨hT,bp (by decide) (by decide)⟩,_,rfl,_,_,rfl,rfl,(by show(0:Int)<p;omega),gc,?_⟩;rw[Int.mul_one];exact q.of S
theorem xJ (F:vM K "_law_plus" "_law_plus" xf f fd)(FM:Bp P w K mg base (bf P w) 2 fl Ij v5 Cr)(bM:L2.ay K Ij v5 [])(mM:mg "_law_made"=some (.ref fl))(kM:keepIn K (.ref fl)=true):
 Bp P w K mg base (bf P w) 3 f fd GD (ng jq):=by
 refine F.okN y8 (λvs H Q E h=>?_) (λGN A outer s H vs Q E hr h=>?_)
 ·obtain⟨p,t1,b1,t2,b2,x1,x2,rfl,_⟩:=h;rfl
 ·obtain⟨p,t1,b1,t2,b2,x1,x2,rfl,hp,h1,h2,B1,B2,B3,B4,n1,n2,hb,q⟩:=h;have HV:wK 2 _:=hr;refine⟨_,(aq (aA (ax FM HV (by rfl) mM kM bM .nil ag (@ak _ _ _ _ _ (pv 0) (@ak _ _ _ _ _ (@aD _ _ _ _ _ _ _ _ dn (@aD _ _ _ _ _ _ _ _ cw (@aZ _ _ _ _ _ _ _ a9 (pv 1) ao (λ_ _=>rfl)) (@aZ _ _ _ _ _ _ _ a9 (pv 2) ao (λ_ _=>rfl))) (@aD _ _ _ _ _ _ _ _ cw (@aZ _ _ _ _ _ _ _ a9 (pv 2) ao (λ_ _=>rfl)) (@aZ _ _ _ _ _ _ _ a9 (pv 1) ao (λ_ _=>rfl)))) (@ak _ _ _ _ _ (@aD _ _ _ _ _ _ _ _ cw (@aZ _ _ _ _ _ _ _ a9 (pv 1) ao (λ_ _=>rfl)) (@aZ _ _ _ _ _ _ _ a9 (pv 2) ao (λ_ _=>rfl))) af rfl) rfl) rfl)))),?_⟩;refine⟨_,rfl,?_⟩;refine⟨_,rfl,x1,_,0,_,rfl,rfl,bo.of h1,a0 _ _,_,rfl,x2,_,1,_,rfl,rfl,bo.of h2,a1 _ _,_,_,rfl,rfl,⟨B1.mono (by decide),B4.mono (by decide)⟩,?_⟩;refine⟨_,rfl,x2,_,0,_,rfl,rfl,bo.of h2,a0 _ _,_,rfl,x1,_,1,_,rfl,rfl,bo.of h1,a1 _ _,_,_,rfl,rfl,⟨B3.mono (by decide),B2.mono (by decide)⟩,_,_,rfl,rfl,?_⟩;refine⟨_,rfl,x1,_,1,_,rfl,rfl,bo.of h1,a1 _ _,_,rfl,x2,_,1,_,rfl,rfl,bo.of h2,a1 _ _,_,_,rfl,rfl,⟨B2.mono (by decide),B4.mono (by decide)⟩,?_⟩;exact⟨p,_,_,rfl,hp,qG n1 n2,(B2.mul B4).mono (by decide),((B1.mul B4).add (B3.mul B2)).mono (by decide),hb,q⟩
theorem uN (F:vM K "_law_times" "_law_times" sR f fd)(FM:Bp P w K mg base (bf P w) 2 fl Ij v5 Cr)(bM:L2.ay K Ij v5 [])(mM:mg "_law_made"=some (.ref fl))(kM:keepIn K (.ref fl)=true):
 Bp P w K mg base (bf P w) 3 f fd GD (ng m9):=by
 refine F.okN xF (λvs H Q E h=>?_) (λGN A outer s H vs Q E hr h=>?_)
 ·obtain⟨p,t1,b1,t2,b2,x1,x2,rfl,_⟩:=h;rfl
 ·obtain⟨p,t1,b1,t2,b2,x1,x2,rfl,hp,h1,h2,B1,B2,B3,B4,n1,n2,hb,q⟩:=h;have HV:wK 2 _:=hr;refine⟨_,(aq (aA (ax FM HV (by rfl) mM kM bM .nil ag (@ak _ _ _ _ _ (pv 0) (@ak _ _ _ _ _ (@aD _ _ _ _ _ _ _ _ cw (@aZ _ _ _ _ _ _ _ a9 (pv 1) ao (λ_ _=>rfl)) (@aZ _ _ _ _ _ _ _ a9 (pv 2) ao (λ_ _=>rfl))) (@ak _ _ _ _ _ (@aD _ _ _ _ _ _ _ _ cw (@aZ _ _ _ _ _ _ _ a9 (pv 1) ao (λ_ _=>rfl)) (@aZ _ _ _ _ _ _ _ a9 (pv 2) ao (λ_ _=>rfl))) af rfl) rfl) rfl)))),?_⟩;refine⟨_,rfl,?_⟩;refine⟨_,rfl,x1,_,0,_,rfl,rfl,bo.of h1,a0 _ _,_,rfl,x2,_,0,_,rfl,rfl,bo.of h2,a0 _ _,_,_,rfl,rfl,⟨B1.mono (by decide),B3.mono (by decide)⟩,?_⟩;refine⟨_,rfl,x1,_,1,_,rfl,rfl,bo.of h1,a1 _ _,_,rfl,x2,_,1,_,rfl,rfl,bo.of h2,a1 _ _,_,_,rfl,rfl,⟨B2.mono (by decide),B4.mono (by decide)⟩,?_⟩;exact⟨p,_,_,rfl,hp,qG n1 n2,(B2.mul B4).mono (by decide),(B1.mul B3).mono (by decide),hb,q⟩
def cq (H:Hp)(r:Addr):Prop:=∃l x:Int,H r=some (.lst [.int l,.int x])/\0<=x/\x<2147483647
def SameBut (r:Addr)(H H':Hp):Prop:=∀b o,H b=some o->b≠r->H' b=some o
theorem SameBut.trans {r:Addr}{H1 H2:Hp}(a:SameBut r H H1)(b:SameBut r H1 H2):SameBut r H H2:=λc o e n=>b c o (a c o e n) n
theorem SameBut.of {r:Addr}{H1:Hp}(a:aC H H1):SameBut r H H1:=λc o e _=>a c o e
theorem SameBut.upd {r:Addr}{o:HO}:SameBut r H (upd H r o):=λb u e n=>by rw[ar n];exact e
theorem E9 {K:Frag}{a:Addr}{t b:Int}(h:H a=some (bO t b)):aI K H (.tup [.int t,.int b]) (.ref a):=by
 unfold aI;refine⟨a,_,rfl,bo.of h,?_⟩;unfold aV;refine⟨_,_,rfl,by unfold aI;rfl,?_⟩;unfold aV;refine⟨_,_,rfl,by unfold aI;rfl,?_⟩;unfold aV;rfl
theorem ER (t b:Int):gF (.tup [.int t,.int b])=1:=by simp[gF,cZ]
end K75
namespace L2
open PySem PySem.Spec PyProof.Rows PySem.W
def EA:V->Bool->Prop
 | .bl b,c=>c=b
 | .int i,c=>c=(i != 0)
 |_,_=>False
theorem aW {α β:Type}{R:α->β->Prop}:∀{l:List α}{m:List β}{i:Nat}{a:α},Paired R l m->l[i]?=some a->∃b,m[i]?=some b/\R a b
 |[],_,i,a,h,e=>by simp at e
 |x::l,_,i,a,h,e=>by
  cases h with
  |cons h1 h2 =>
   cases i with
   |zero=>simp at e;subst e;exact⟨_,rfl,h1⟩
   |succ i=>simpa using aW h2 (by simpa using e)
theorem jI {α β:Type}{R:α->β->Prop}:∀{l:List α}{m:List β}{i:Nat}{b:β},Paired R l m->m[i]?=some b->∃a,l[i]?=some a/\R a b
 |[],m,i,b,h,e=>by cases h;simp at e
 |x::l,_,i,b,h,e=>by
  cases h with
  |cons h1 h2 =>
   cases i with
   |zero=>simp at e;subst e;exact⟨_,rfl,h1⟩
   |succ i=>simpa using jI h2 (by simpa using e)
section
variable {X:Cx}
theorem BX {A:Around}{Q:Bool->Shared->Prop}{E:pL}{s:GB}{y:V}{c:Bool}{u:Value}(t:EA y c)(r:aE y u)(h:Q c s):wpAny (model X.prog X.w) A (truthy u) Q E s:=by
 cases y with
 |bl b =>
  cases(show u=Value.bool b from r)
  cases(show c=b from t)
  exact wpAny_truthy_bool h
 |int i =>
  obtain⟨k,rfl⟩:=(show ∃k,u=Value.int i k from r)
  cases(show c=(i != 0) from t)
  exact PyProof.Rows.truthy_int h
 |_=>exact t.elim
theorem iG (hc:X.calm=true):eX X (.builtin "all") (λxs H Q=>∃l ys bs,xs=[.ref l]/\aN X.K H l ys/\Paired EA ys bs/\Q (.bl (bs.all id)) H):=by
 intro pins s σ H xs us Q I r h;obtain⟨l,ys,bs,rfl,hl,hp,q⟩:=h;obtain⟨u,rfl,ru⟩:=eK r
 cases(show u=Value.ref l from ru)
 obtain⟨its,rv,pl,hz⟩:=I.list hl
 have GR:l<s.heap.objs.size:=by obtain⟨o,n,e,_⟩:=pl;exact Heap.lt_size e
 refine call_all_walk (wpAny_pyIter_list pl.isList ?_)
 refine⟨s.heap.objs.size,[s.heap.objs.size,l],[s.heap.objs.size],its.toArray.size,_,_,λi=>(bs[i]?).getD true,rfl,Walks.list (A:=X.A.in1) (I.ok.hd hc) _ l (Nat.ne_of_lt GR) its.toArray,
  ⟨⟨_,Heap.get?_push_size _ rfl,rfl,rfl⟩,pl.isList.push _⟩,λi v s' Q' E' hP hQ=>?_,λh' tk hk=>?_⟩
 ·have e:its[i]?=some v:=by simpa using hP
  obtain⟨y,ey,ry⟩:=jI rv e;obtain⟨b,eb,tb⟩:=aW hp ey;simp only[eb,Option.getD_some] at hQ;exact BX tb ry hQ
 ·have n:its.toArray.size=bs.length:=by rw[List.size_toArray,<-rv.length,hp.length]
  have e:((List.range its.toArray.size).all λi=>(bs[i]?).getD true)=bs.all id:=by rw[n];exact LSm.range_all bs
  rw[e];exact⟨.bl (bs.all id),H,I.kept (t':=tk) (LSm.kept_iter hk),rfl,q⟩
end
end L2
namespace Srt
open PySem PySem.W PyProof.Rows
structure Pm (n:Nat)(r:Nat->Nat)(p:Array Nat):Prop where
 size:p.size=n
 lt:∀k,k<n->p.getD k 0<n
 ne:∀k l,k<n->l<n->k≠l->r (p.getD k 0)≠r (p.getD l 0)
 perm:p.Perm (List.range n).toArray
variable {p:Array Nat}{k m:Nat}
section
variable {n:Nat}{r:Nat->Nat}
theorem Pm.nq {n:Nat}{r:Nat->Nat}(P:Pm n r p)(k l:Nat)(hk:k<n)(hl:l<n)(h:k≠l):p.getD k 0≠p.getD l 0:=λz=>P.ne k l hk hl h (by rw[z])
theorem getD_some (h:k<p.size):p[k]?=some (p.getD k 0):=by simp[Array.getD,h]
theorem tm (inj:∀i j,i<n->j<n->i≠j->r i≠r j)(hp:p.Perm (List.range n).toArray):Pm n r p:=by
 have hl:p.toList.Perm (List.range n):=by simpa using hp.toList
 have hs:p.size=n:=by rw[<-Array.length_toList,hl.length_eq,List.length_range]
 have GR:∀k,k<n->p.getD k 0<n:=λk hk=>by
  have hm:p.getD k 0∈p.toList:=by
   rw[show p.getD k 0=p[k]'(by omega) by simp[Array.getD,hs,hk]];exact Array.mem_toList_iff.mpr (Array.getElem_mem _)
  exact List.mem_range.mp (hl.mem_iff.mp hm)
 refine⟨hs,GR,λk l hk IF HQ=>inj _ _ (GR k hk) (GR l IF) λe=>HQ ?_,hp⟩;have nd:p.toList.Nodup:=hl.nodup_iff.mpr List.nodup_range
 have e1:p.toList[k]'(by simp;omega)=p.toList[l]'(by simp;omega):=by
  rw[show p.getD k 0=p[k]'(by omega) by simp[Array.getD,hs,hk],show p.getD l 0=p[l]'(by omega) by simp[Array.getD,hs,IF]] at e;simpa using e
 have pw:=List.pairwise_iff_getElem.mp (show p.toList.Pairwise (· ≠ ·) from nd)
 rcases Nat.lt_trichotomy k l with z|z|z
 ·exact absurd e1 (pw k l _ _ z)
 ·exact z
 ·exact absurd e1.symm (pw l k _ _ z)
def Up (r:Nat->Nat)(p:Array Nat)(m:Nat):Prop:=∀i j,i<j->j<m->r (p.getD i 0)<r (p.getD j 0)
def Dn (r:Nat->Nat)(p:Array Nat)(m:Nat):Prop:=∀i j,i<j->j<m->r (p.getD j 0)<r (p.getD i 0)
theorem Up.succ (h:Up r p m)(h1:1<=m)(e:r (p.getD (m-1) 0)<r (p.getD m 0)):Up r p (m+1):=λi j IA hj=>by
 by_cases z:j=m
 ·subst z
  by_cases z2:i=j-1
  ·subst z2;exact e
  ·exact Nat.lt_trans (h i (j-1) (by omega) (by omega)) e
 ·exact h i j IA (by omega)
theorem Dn.succ (h:Dn r p m)(h1:1<=m)(e:r (p.getD m 0)<r (p.getD (m-1) 0)):Dn r p (m+1):=λi j IA hj=>by
 by_cases z:j=m
 ·subst z
  by_cases z2:i=j-1
  ·subst z2;exact e
  ·exact Nat.lt_trans e (h i (j-1) (by omega) (by omega))
 ·exact h i j IA (by omega)
theorem sm (hm:m<=p.size)(hk:k<p.size):(kas_rev p 0 m).getD k 0=if k<m then p.getD (m-1-k) 0 else p.getD k 0:=by
 have e:=getElem?_mirror_all (xs:=p) (i:=0) hm k;have hs:(kas_rev p 0 m).size=p.size:=mirror_size _ _ _ _;have e2:(kas_rev p 0 m)[k]?=some ((kas_rev p 0 m).getD k 0):=getD_some (by rw[hs];exact hk)
 have e3:(kas_rev p 0 m)[k]?=if 0<=k/\k<m then p[0+m-1-k]? else p[k]?:=e
 rw[e2] at e3
 by_cases h:k<m
 ·rw[if_pos ⟨Nat.zero_le _,h⟩,show 0+m-1-k=m-1-k by omega,getD_some (by omega)] at e3;rw[if_pos h];exact Option.some.inj e3
 ·rw[if_neg (λz=>h z.2),getD_some hk] at e3;rw[if_neg h];exact Option.some.inj e3
theorem Dn.rev (h:Dn r p m)(hm:m<=p.size):Up r (kas_rev p 0 m) m:=λi j IA hj=>by
 rw[sm hm (by omega),sm hm (by omega),if_pos (by omega),if_pos hj];exact h _ _ (by omega) (by omega)
variable {cmp:Nat->Nat->(Bool->Shared->Prop)->Shared->Prop}{s:GB}
theorem qV (hc:∀i j C,i<n->j<n->i≠j->C (decide (r i<r j)) s->cmp i j C s)(P:Pm n r p){Q:Nat->Shared->Prop}:∀(f m:Nat),1<=m->m+f=n->Up r p m →
 (∀m',m<=m'->m'<=n->Up r p m'->(m'<n->r (p.getD m' 0)<r (p.getD (m'-1) 0))->Q m' s)->(kas_asc p f m).kasWp cmp Q s
 |0,m,h1,hm,hu,hQ=>hQ m (Nat.le_refl _) (by omega) hu λh=>by omega
 |f+1,m,h1,hm,hu,hQ=>by
  refine hc _ _ _ (P.lt m (by omega)) (P.lt (m-1) (by omega)) (P.nq m (m-1) (by omega) (by omega) (by omega)) ?_;show((if decide (r (p.getD m 0)<r (p.getD (m-1) 0))=true then KasT.ret m else kas_asc p f (m+1)).kasWp cmp Q s)
  by_cases h:r (p.getD m 0)<r (p.getD (m-1) 0)
  ·rw[if_pos (decide_eq_true h)];exact hQ m (Nat.le_refl _) (by omega) hu λ_=>h
  ·rw[if_neg (by simpa using h)];have ne:=P.ne m (m-1) (by omega) (by omega) (by omega);exact qV hc P f (m+1) (by omega) (by omega) (hu.succ h1 (by omega)) λm' h2=>hQ m' (by omega)
theorem rJ (hc:∀i j C,i<n->j<n->i≠j->C (decide (r i<r j)) s->cmp i j C s)(P:Pm n r p){Q:Array Nat×Nat×Nat->Shared->Prop}:∀(f m:Nat),1<=m->m+f=n->Dn r p m →
 (∀m',m<=m'->m'<=n->Dn r p m'->Q (p,m',0) s)->(kas_desc f p m 0).kasWp cmp Q s
 |0,m,h1,hm,hu,hQ=>hQ m (Nat.le_refl _) (by omega) hu
 |f+1,m,h1,hm,hu,hQ=>by
  refine hc _ _ _ (P.lt m (by omega)) (P.lt (m-1) (by omega)) (P.nq m (m-1) (by omega) (by omega) (by omega)) ?_
  by_cases h:r (p.getD m 0)<r (p.getD (m-1) 0)
  ·rw[decide_eq_true h];exact rJ hc P f (m+1) (by omega) (by omega) (hu.succ h1 h) λm' h2=>hQ m' (by omega)
  ·rw[decide_eq_false h];refine hc _ _ _ (P.lt (m-1) (by omega)) (P.lt m (by omega)) (P.nq (m-1) m (by omega) (by omega) (by omega)) ?_;have ne:=P.ne m (m-1) (by omega) (by omega) (by omega);rw[decide_eq_true (show r (p.getD (m-1) 0)<r (p.getD m 0) by omega)];exact hQ m (Nat.le_refl _) (by omega) hu
theorem wk (inj:∀i j,i<n->j<n->i≠j->r i≠r j)(hc:∀i j C,i<n->j<n->i≠j->C (decide (r i<r j)) s->cmp i j C s)(P:Pm n r p){Q:Nat×Array Nat->Shared->Prop}(h1:1<=m)(hm:m<=n)(hd:Dn r p m)
 (hQ:∀m' p',m'<=n->1<=m'->Pm n r p'->Up r p' m'->Q (m',p') s):(kas_tail3 m n p).kasWp cmp Q s:=by
 unfold kas_tail3;rw[KasT.kasWp_bind];have P':Pm n r (kas_rev p 0 m):=tm inj ((mirror_perm _ _ _ _).trans P.perm);exact qV hc P' (n-m) m h1 (by omega) (hd.rev (by rw[P.size];exact hm)) λm' h2 h3 h4 _=>hQ m' _ h3 (by omega) P' h4
theorem wZ (inj:∀i j,i<n->j<n->i≠j->r i≠r j)(hc:∀i j C,i<n->j<n->i≠j->C (decide (r i<r j)) s->cmp i j C s)(h0:1<=n)(P:Pm n r p){Q:Nat×Array Nat->Shared->Prop}
 (hQ:∀m' p',m'<=n->1<=m'->Pm n r p'->Up r p' m'->Q (m',p') s):(kas_count n p).kasWp cmp Q s:=by
 unfold kas_count;rw[KasT.kasWp_bind];refine qV hc P (n-1) 1 (Nat.le_refl _) (by omega) (λi j IA hj=>by omega) λm h1 h2 h3 h4=>?_
 by_cases e:m=n
 ·subst e;rw[if_pos (by simp)];exact hQ _ _ (Nat.le_refl _) h1 P h3
 ·rw[if_neg (by simpa using e)]
  by_cases h5:m>1
  ·rw[if_pos h5];refine hc _ _ _ (P.lt 0 (by omega)) (P.lt (m-1) (by omega)) (P.nq 0 (m-1) (by omega) (by omega) (by omega)) ?_;rw[decide_eq_true (h3 0 (m-1) (by omega) (by omega))];exact hQ _ _ h2 h1 P h3
  ·rw[if_neg h5]
   have e1:m=1:=by omega
   subst e1;unfold kas_descPart;rw[KasT.kasWp_bind];have d2:Dn r p (1+1):=Dn.succ (λi j IA hj=>by omega) (Nat.le_refl _) (h4 (by omega));refine rJ hc P (n-(1+1)) (1+1) (by omega) (by omega) d2 λm' h6 h7 h8=>?_;show((if 0>0 then _ else kas_tail3 m' n p).kasWp cmp Q s);rw[if_neg (by omega)];exact wk inj hc P (by omega) h7 h8 hQ
theorem kd (hc:∀i j C,i<n->j<n->i≠j->C (decide (r i<r j)) s->cmp i j C s)(P:Pm n r p){Q:Nat->Shared->Prop}(hk:k<n)(hu:Up r p k):∀(f l q:Nat),l<=q->q<=k->q-l<=f->(∀j,j<l->r (p.getD j 0)<r (p.getD k 0))->(∀j,q<=j->j<k->r (p.getD k 0)<r (p.getD j 0)) →
 (∀l',l'<=k->(∀j,j<l'->r (p.getD j 0)<r (p.getD k 0))->(∀j,l'<=j->j<k->r (p.getD k 0)<r (p.getD j 0))->Q l' s)->(kas_place p k f l q).kasWp cmp Q s
 |0,l,q,h1,h2,h3,h4,h5,hQ=>hQ l (by omega) h4 λj h6 h7=>h5 j (by omega) h7
 |f+1,l,q,h1,h2,h3,h4,h5,hQ=>by
  unfold kas_place
  by_cases h:l ≥ q
  ·rw[if_pos h];exact hQ l (by omega) h4 λj h6 h7=>h5 j (by omega) h7
  ·rw[if_neg h];refine hc _ _ _ (P.lt k hk) (P.lt ((l+q)/2) (by omega)) (P.nq k ((l+q)/2) hk (by omega) (by omega)) ?_;have ne:=P.ne k ((l+q)/2) hk (by omega) (by omega)
   by_cases z:r (p.getD k 0)<r (p.getD ((l+q)/2) 0)
   ·rw[decide_eq_true z];refine kd hc P hk hu f l ((l+q)/2) (by omega) (by omega) (by omega) h4 (λj h6 h7=>?_) hQ
    by_cases e:j=(l+q)/2
    ·subst e;exact z
    ·exact Nat.lt_trans z (hu _ _ (by omega) h7)
   ·rw[decide_eq_false z];refine kd hc P hk hu f ((l+q)/2+1) q (by omega) h2 (by omega) (λj h6=>?_) h5 hQ
    by_cases e:j=(l+q)/2
    ·subst e;omega
    ·have:=hu j ((l+q)/2) (by omega) (by omega);omega
theorem rH {l j:Nat}(hk:k<p.size)(hl:l<=k)(hj:j<p.size):(bubble p k (k-l)).getD j 0=if j=l then p.getD k 0 else if l<j/\j<=k then p.getD (j-1) 0 else p.getD j 0:=by
 have e:=getElem?_bubble hk (k-l) (by omega) j;rw[show k-(k-l)=l by omega,getD_some (by rw[bubble_size];exact hj)] at e
 by_cases h1:j=l
 ·rw[if_pos h1,getD_some hk] at e;rw[if_pos h1];exact Option.some.inj e
 ·rw[if_neg h1] at e |-
  by_cases h2:l<j/\j<=k
  ·rw[if_pos h2,getD_some (by omega)] at e;rw[if_pos h2];exact Option.some.inj e
  ·rw[if_neg h2,getD_some hj] at e;rw[if_neg h2];exact Option.some.inj e
theorem yd (inj:∀i j,i<n->j<n->i≠j->r i≠r j)(hc:∀i j C,i<n->j<n->i≠j->C (decide (r i<r j)) s->cmp i j C s){Q:Array Nat->Shared->Prop}(hQ:∀p',Pm n r p'->Up r p' n->Q p' s):∀(f:Nat)(p:Array Nat)(k:Nat),Pm n r p->k+f=n->Up r p k->(kas_bin f p k).kasWp cmp Q s
 |0,p,k,P,hk,hu=>hQ p P (by rw[<-hk];exact hu)
 |f+1,p,k,P,hk,hu=>by
  unfold kas_bin;rw[KasT.kasWp_bind];refine kd hc P (by omega) hu k 0 k (Nat.zero_le _) (Nat.le_refl _) (by omega) (λj h=>by omega) (λj h1 h2=>by omega) λl h1 h2 h3=>?_;have P':Pm n r (bubble p k (k-l)):=tm inj ((bubble_perm _ _ _).trans P.perm);refine yd inj hc hQ f _ (k+1) P' (by omega) λi j IA hj=>?_;have sz:=P.size;rw[rH (by omega) h1 (by omega),rH (by omega) h1 (by omega)]
  by_cases e1:i=l
  ·rw[if_pos e1,if_neg (by omega),if_pos ⟨by omega,by omega⟩];exact h3 _ (by omega) (by omega)
  ·rw[if_neg e1]
   by_cases e2:j=l
   ·rw[if_pos e2,if_neg (by omega)];exact h2 _ (by omega)
   ·rw[if_neg e2]
    by_cases e3:l<j
    ·rw[if_pos (show l<j/\j<=k from⟨e3,by omega⟩)]
     by_cases e4:l<i
     ·rw[if_pos ⟨e4,by omega⟩];exact hu _ _ (by omega) (by omega)
     ·rw[if_neg (by omega)];exact hu _ _ (by omega) (by omega)
    ·rw[if_neg (by omega),if_neg (by omega)];exact hu _ _ IA (by omega)
theorem yt (inj:∀i j,i<n->j<n->i≠j->r i≠r j)(hc:∀i j C,i<n->j<n->i≠j->C (decide (r i<r j)) s->cmp i j C s)(h0:1<=n){Q:Array Nat->Shared->Prop}(hQ:∀p',Pm n r p'->Up r p' n->Q p' s):(kas_sort n).kasWp cmp Q s:=by
 unfold kas_sort;rw[KasT.kasWp_bind];refine wZ inj hc h0 (tm inj (Array.Perm.refl _)) λm p h1 h2 P hu=>?_;show((if m<n then kas_bin (n-max m 1) p (max m 1) else KasT.ret p).kasWp cmp Q s)
 by_cases h:m<n
 ·rw[if_pos h,show max m 1=m by omega];exact yd inj hc hQ _ _ _ P (by omega) hu
 ·rw[if_neg h]
  have e:m=n:=by omega
  subst e;exact hQ p P hu
end
end Srt
namespace L2
open PySem PySem.Spec PyProof.Rows PySem.W
end L2
namespace Srt
open PySem PySem.W PyProof.Rows
section
variable {prog:vB}{w:World}{A:Around}{E:pL}{s:GB}
def yB (prog:vB)(w:World)(A:Around)(ks:nv)(r:Nat->Nat)(s:GB):Prop :=
 ∃κ,(∀Q:SortKind->Shared->Prop,Q κ s->wpAny (model prog w) A (keyKind' ks.toArray) Q (λ_ _=>False) s)/\∀i j C,i<ks.length->j<ks.length->i≠j->C (decide (r i<r j)) s->kas_ask prog w A κ ks i j C s
def gP (vs:nv)(p:Array Nat):List Value:=p.toList.map λi=>vs.getD i Value.none
theorem xE (vs:nv):gP vs (List.range vs.length).toArray=vs:=by
 unfold gP;apply List.ext_getElem
 ·simp
 ·intro i h1 h2;simp[h2]
theorem gh {n:Nat}(h:n<64):n<=sizeLine:=by rw[sizeLine_eq];omega
end
open L2
abbrev Ky:=Int×List Int
def lz (a b:Ky):Bool:=if a.1=b.1 then HT.cX a.2 b.2 else decide (a.1<b.1)
theorem j4:∀xs:List Int,HT.cX xs xs=false
 |[]=>rfl
 |x::xs=>by rw[HT.d0,if_pos rfl];exact j4 xs
theorem mf:∀{xs ys zs:List Int},HT.cX xs ys=true->HT.cX ys zs=true->HT.cX xs zs=true
 |[],[],_,h,_=>by cases h
 |[],y::ys,[],_,h=>by cases h
 |[],y::ys,z::zs,_,_=>rfl
 |x::xs,[],_,h,_=>by cases h
 |x::xs,y::ys,[],_,h=>by cases h
 |x::xs,y::ys,z::zs,h1,h2=>by
  rw[HT.d0] at h1 h2 |-
  by_cases e1:x=y
  ·rw[if_pos e1] at h1
   by_cases e2:y=z
   ·rw[if_pos e2] at h2;rw[if_pos (e1.trans e2)];exact mf h1 h2
   ·rw[if_neg e2] at h2;rw[e1,if_neg e2];exact h2
  ·rw[if_neg e1] at h1;have l1:=of_decide_eq_true h1
   by_cases e2:y=z
   ·rw[<-e2,if_neg e1];exact h1
   ·rw[if_neg e2] at h2;have l2:=of_decide_eq_true h2;rw[if_neg (by omega)];exact decide_eq_true (by omega)
theorem mK:∀{xs ys:List Int},xs≠ys->HT.cX xs ys=true\/HT.cX ys xs=true
 |[],[],h=>absurd rfl h
 |[],y::ys,_=>.inl rfl
 |x::xs,[],_=>.inr rfl
 |x::xs,y::ys,h=>by
  rw[HT.d0,HT.d0]
  by_cases e:x=y
  ·subst e;rw[if_pos rfl,if_pos rfl];exact mK λz=>h (by rw[z])
  ·rw[if_neg e,if_neg (Ne.symm e)];simp only[decide_eq_true_eq];omega
theorem lh (a:Ky):lz a a=false:=by unfold lz;rw[if_pos rfl];exact j4 _
theorem i5 {a b c:Ky}(h1:lz a b=true)(h2:lz b c=true):lz a c=true:=by
 unfold lz at h1 h2 |-
 by_cases e1:a.1=b.1
 ·rw[if_pos e1] at h1
  by_cases e2:b.1=c.1
  ·rw[if_pos e2] at h2;rw[if_pos (e1.trans e2)];exact mf h1 h2
  ·rw[if_neg e2] at h2;rw[e1,if_neg e2];exact h2
 ·rw[if_neg e1] at h1;have l1:=of_decide_eq_true h1
  by_cases e2:b.1=c.1
  ·rw[<-e2,if_neg e1];exact h1
  ·rw[if_neg e2] at h2;have l2:=of_decide_eq_true h2;rw[if_neg (by omega)];exact decide_eq_true (by omega)
theorem i8 {a b:Ky}(h:a≠b):lz a b=true\/lz b a=true:=by
 unfold lz
 by_cases e:a.1=b.1
 ·rw[if_pos e,if_pos e.symm];exact mK λz=>h (Prod.ext e z)
 ·rw[if_neg e,if_neg (Ne.symm e)];simp only[decide_eq_true_eq];omega
def cJ (ks:List Ky)(i:Nat):Ky:=ks.getD i (0,[])
def rk (ks:List Ky)(i:Nat):Nat:=(List.range ks.length).countP λj=>lz (cJ ks j) (cJ ks i)
theorem lV {α:Type}{p q:α->Bool}:∀{l:List α},(∀x∈l,p x=true->q x=true)->(∃x∈l,q x=true/\p x=false)->l.countP p<l.countP q
 |[],_,⟨x,hx,_⟩=>by cases hx
 |a::l,h,⟨x,hx,h1,h2⟩=>by
  have le:∀l':List α,(∀x∈l',p x=true->q x=true)->l'.countP p<=l'.countP q:=λl' h'=>List.countP_mono_left h';rw[List.countP_cons,List.countP_cons]
  rcases List.mem_cons.mp hx with rfl|hx
  ·rw[if_pos h1,if_neg (by rw[h2];exact Bool.false_ne_true)];have:=le l λx hx=>h x (List.mem_cons_of_mem _ hx);omega
  ·have ih:=lV (l:=l) (λx hx=>h x (List.mem_cons_of_mem _ hx)) ⟨x,hx,h1,h2⟩;have h0:=h a List.mem_cons_self
   cases e:p a with
   |false=>simp only[Bool.false_eq_true,if_false];omega
   |true=>rw[h0 e];simp only[if_true];omega
variable {ks:List Ky}
theorem ik {i j:Nat}(hi:i<ks.length)(h:lz (cJ ks i) (cJ ks j)=true):rk ks i<rk ks j :=
 lV (λl _ hl=>i5 hl h) ⟨i,List.mem_range.mpr hi,h,lh _⟩
theorem xi {i j:Nat}(hi:i<ks.length)(hj:j<ks.length):decide (rk ks i<rk ks j)=lz (cJ ks i) (cJ ks j):=by
 cases e:lz (cJ ks i) (cJ ks j) with
 |true=>exact decide_eq_true (ik hi e)
 |false =>
  refine decide_eq_false λz=>?_
  by_cases k:cJ ks i=cJ ks j
  ·unfold rk at z;rw[k] at z;exact Nat.lt_irrefl _ z
  ·rcases i8 k with h|h
   ·rw[e] at h;cases h
   ·exact Nat.lt_asymm z (ik hj h)
theorem Ca (nd:ks.Nodup):∀i j,i<ks.length->j<ks.length->i≠j->rk ks i≠rk ks j:=λi j hi hj HQ z=>by
 have k:cJ ks i≠cJ ks j:=λe=>by
  have e':ks[i]=ks[j]:=by
   unfold cJ at e;simpa[hi,hj] using e
  have pw:=List.pairwise_iff_getElem.mp (show ks.Pairwise (· ≠ ·) from nd)
  rcases Nat.lt_or_gt_of_ne HQ with l|l
  ·exact pw i j _ _ l e'
  ·exact pw j i _ _ l e'.symm
 rcases i8 k with h|h
 ·have:=ik hi h;omega
 ·have:=ik hj h;omega
def sL (K:Frag)(H:Hp)(x:V)(k:Ky):Prop:=∃a b rest,x=.ref a/\bo K H a (.int k.1 :: .ref b::rest)/\bo K H b (k.2.map V.int)
def dI (K:Frag)(H:Hp):List V->List Ky->Prop
 |[],[]=>True
 |x::xs,k::ks=>sL K H x k/\dI K H xs ks
 |_,_=>False
variable {K:Frag}{H:Hp}
theorem dI.len :∀{xs:List V}{ks:List Ky},dI K H xs ks->xs.length=ks.length
 |[],[],_=>rfl
 |_::_,_::_,⟨_,r⟩=>congrArg (·+1) r.len
 |[],_::_,h=>h.elim
 |_::_,[],h=>h.elim
theorem dI.get :∀{xs:List V}{ks:List Ky}{i:Nat}{x:V},dI K H xs ks->xs[i]?=some x->sL K H x (cJ ks i)
 |x::xs,k::ks,0,y,⟨h,_⟩,e=>by simp at e;subst e;exact h
 |x::xs,k::ks,i+1,y,⟨_,r⟩,e=>by
  have:=r.get (i:=i) (x:=y) (by simpa using e);simpa[cJ] using this
 |[],[],i,y,_,e=>by simp at e
 |[],_::_,_,_,h,_=>h.elim
 |_::_,[],_,_,h,_=>h.elim
theorem gZ :∀ns:List Int,aV K H (ns.map D.int) (ns.map V.int)
 |[]=>by unfold aV;rfl
 |n::ns=>by unfold aV;exact⟨_,_,rfl,by unfold aI;rfl,gZ ns⟩
theorem wd (ns:List Int):gF (.tup (ns.map D.int))<=1:=by
 unfold gF
 have:∀ms:List Int,cZ (ms.map D.int)=0:=λms=>by
  induction ms with
  |nil=>unfold cZ;rfl
  |cons m ms ih=>rw[List.map_cons];unfold cZ;rw[ih];unfold gF;rfl
 rw[this];omega
theorem pI:∀ns ms:List Int,eU (ns.map D.int) (ms.map D.int)=decide (ns=ms)
 |[],[]=>by simp;rfl
 |[],m::ms=>by simp;rfl
 |n::ns,[]=>by simp;rfl
 |n::ns,m::ms=>by
  show((n==m)&&eU (ns.map D.int) (ms.map D.int))=_;rw[pI ns ms]
  by_cases e:n=m
  ·subst e;simp
  ·simp[e]
section
variable {X:Cx}{pins:List (Addr×Obj)}{σ:L2.St}{H:Hp}{s:GB}
theorem zK {A:Around}{x y:V}{u v:Value}{k j:Ky}{C:Bool->Shared->Prop}{E:pL}(I:Inv X pins σ H s)(hA:A.units+2<cLine)(hx:sL X.K H x k)(hy:sL X.K H y j)(rx:aE x u)(ry:aE y v)(ne:k≠j)(h:C (lz k j) s):
 wpAny (model X.prog X.w) A (keyLt' (tuples' true) u v) C E s:=by
 obtain⟨a,b,rest,rfl,h1,h2⟩:=hx;obtain⟨a',b',Wq,rfl,Kp,MO⟩:=hy
 cases(show u=Value.ref a from rx)
 cases(show v=Value.ref a' from ry)
 obtain⟨its,r1,⟨o1,g1,_,n1,d1⟩,_⟩:=I.tuple h1;obtain⟨its',Rc,⟨o1',Sm,_,n1',YV⟩,_⟩:=I.tuple Kp;refine kat_lt g1 d1 Sm YV ?_
 cases r1 with
 |cons q1 r1 =>
  cases r1 with
  |cons q2 r1 =>
   cases Rc with
   |cons YW Rc =>
    cases Rc with
    |cons YX Rc =>
     obtain⟨t,rfl⟩:=q1;obtain⟨t',rfl⟩:=YW
     rename_i w2 _ YY _
     cases(show w2=Value.ref b from q2)
     cases(show YY=Value.ref b' from YX)
     show KatLex _ _ _ _ _ _ ((Value.int k.1 t,Value.int j.1 t'):: (Value.ref b,Value.ref b'):: _) 0 s;refine kat_cons (SeqAt.EqAt.int_int k.1 t j.1 t' X.prog X.w _ _ ?_)
     have klt_def:lz k j=if k.1=j.1 then HT.cX k.2 j.2 else decide (k.1<j.1):=rfl
     refine kat_go (λe=>kat_yes ?_) λe=>kat_no ?_
     ·have e1:k.1=j.1:=by simpa using e
      have n2:k.2≠j.2:=λz=>ne (Prod.ext e1 z);have dd:=(ji I 1 A (.tup (k.2.map D.int)) (.tup (j.2.map D.int)) (.ref b) (.ref b') (.ref b) (.ref b') (wd _) (by omega) (by unfold aI;exact⟨b,_,rfl,h2,gZ _⟩) (by unfold aI;exact⟨b',_,rfl,MO,gZ _⟩) rfl rfl).2.1;have e2:iN (.tup (k.2.map D.int)) (.tup (j.2.map D.int))=false:=(pI _ _).trans (decide_eq_false n2);rw[e2] at dd;refine kat_cons (dd X.prog X.w _ _ (kat_no ?_));rw[klt_def,if_pos e1] at h;obtain⟨GP,p2,t2,_⟩:=I.tuple h2;obtain⟨Wr,YZ,Y0,_⟩:=I.tuple MO;exact kat_one _ _ (HT.acT t2 Y0 (jY p2) (jY YZ) (by omega) h)
     ·have e1:k.1≠j.1:=by simpa using e
      rw[klt_def,if_neg e1] at h;exact oneLt_int h
theorem zR (I:Inv X pins σ H s)(xs:List V):∀(ks:List Ky)(us:nv),dI X.K H xs ks->aL xs us->∃fs:List Value,KatTups s.heap us fs/\fs.length=us.length/\∀f∈fs,∃i t,f=Value.int i t:=by
 induction xs with
 |nil =>
  intro ks us _ r
  cases r
  exact⟨[],.nil,rfl,λf hf=>by cases hf⟩
 |cons x xs ih =>
  intro ks us h r
  cases ks with
  |nil=>exact h.elim
  |cons k ks =>
   cases r with
   |cons rx rv =>
    rename_i u us
    obtain⟨⟨a,b,rest,e,h1,_⟩,hr⟩:=h;obtain⟨fs,t,hl,hf⟩:=ih ks us hr rv;subst e
    cases(show u=Value.ref a from rx)
    obtain⟨its,r1,⟨o1,g1,c1,n1,d1⟩,_⟩:=I.tuple h1
    cases r1 with
    |cons q1 r1 =>
     obtain⟨tk,rfl⟩:=q1;refine⟨Value.int k.1 tk::fs,.cons g1 c1 d1 rfl t,by simp[hl],λf Y1=>?_⟩
     rcases List.mem_cons.mp Y1 with rfl|z
     ·exact⟨_,_,rfl⟩
     ·exact hf f z
theorem qv {A:Around}{xs:List V}{us:nv}(I:Inv X pins σ H s)(hA:A.units+2<cLine)(hk:dI X.K H xs ks)(rv:aL xs us)(nd:ks.Nodup)(h2:2<=us.length):yB X.prog X.w A us (rk ks) s:=by
 obtain⟨fs,t,hl,hf⟩:=zR I xs ks us hk rv;have xO:=hk.len;have oK:=rv.length;refine⟨tuples' true,λQ hq=>kat_kind (T:=Value.type "int") t (by omega) (λv hv=>?_) (by decide) hq,λi j C hi hj HQ hc=>?_⟩
 ·obtain⟨i,tk,rfl⟩:=hf v hv;exact .now
 ·have gi:∃x,xs[i]?=some x/\aE x (us.getD i .none):=by
   have Sn:i<xs.length:=by omega
   obtain⟨u,e,r⟩:=rv.get (i:=i) (x:=xs[i]) (by simp[Sn]);refine⟨xs[i],by simp[Sn],?_⟩;rw[List.getD_eq_getElem?_getD,e];exact r
  have gj:∃x,xs[j]?=some x/\aE x (us.getD j .none):=by
   have Rf:j<xs.length:=by omega
   obtain⟨u,e,r⟩:=rv.get (i:=j) (x:=xs[j]) (by simp[Rf]);refine⟨xs[j],by simp[Rf],?_⟩;rw[List.getD_eq_getElem?_getD,e];exact r
  obtain⟨x,ex,rx⟩:=gi;obtain⟨y,ey,ry⟩:=gj;rw[xi (by omega) (by omega)] at hc
  have Y2:cJ ks i≠cJ ks j:=λz=>by
   have e':ks[i]'(by omega)=ks[j]'(by omega):=by
    unfold cJ at z;simpa[show i<ks.length by omega,show j<ks.length by omega] using z
   have pw:=List.pairwise_iff_getElem.mp (show ks.Pairwise (· ≠ ·) from nd)
   rcases Nat.lt_or_gt_of_ne HQ with l|l
   ·exact pw i j _ _ l e'
   ·exact pw j i _ _ l e'.symm
  exact zK I hA (hk.get ex) (hk.get ey) rx ry Y2 hc
end
end Srt
namespace L2
open PySem PySem.Spec PyProof.Rows PySem.W
section
variable {X:Cx}{pins:List (Addr×Obj)}{σ:St}{H:Hp}{s:GB}{h':Heap}
theorem Inv.abq (I:Inv X pins σ H s){a:Addr}(hp:s.heap.get? a=none):H a=none:=by
 cases q:H a with
 |none=>rfl
 |some u =>
  obtain⟨ob,e1⟩:=(I.hok a u q).there;rw[hp] at e1
  cases e1
theorem Inv.newObj {a:Addr}{o:HO}{t':Nat}(I:Inv X pins σ H s)(k:∀b u,s.heap.get? b=some u->h'.get? b=some u)(hp:s.heap.get? a=none)(new:bt X.prog X.w (upd H a o) h' a o):
 Inv X pins σ (upd H a o) {s with heap:=h',toks:=t'}:=by
 have hn:=I.abq hp
 have nb:∀b u,s.heap.get? b=some u->b≠a:=λb u e z=>by rw[z,hp] at e;cases e
 exact I.un ⟨λb u q _ _ _=>k b u q,λb u q _ _ _=>⟨u.slots,k b u q⟩,λb u q n _=>by rw[ar (nb b u q)];exact n,λb u q _=>⟨u,k b u q⟩,
  λb xs q=>by rw[ar (au q hn)];exact q,λb u xs q=>by rw[ar (au q hn)];exact q,λb ps q=>⟨#[],by rw[ar (au q hn),q];simp⟩⟩ (dQ (I.hok.kept k) hn new)
end
end L2
namespace Srt
open PySem PySem.W PyProof.Rows L2
section
variable {α:Type}
def lJ (k:Ky)(x:α):List (Ky×α)->List (Ky×α)
 |[]=>[(k,x)]
 |(j,y):: r=>if lz k j=true then(k,x):: (j,y):: r else(j,y):: lJ k x r
def dH:List (Ky×α)->List (Ky×α)
 |[]=>[]
 |(k,x):: r=>lJ k x (dH r)
theorem iT (k:Ky)(x:α):∀l:List (Ky×α),(lJ k x l).Perm ((k,x):: l)
 |[]=>.refl _
 |(j,y):: r=>by
  unfold lJ
  split
  ·exact .refl _
  ·exact((iT k x r).cons _).trans (.swap _ _ _)
theorem dq:∀l:List (Ky×α),(dH l).Perm l
 |[]=>.refl _
 |(k,x):: r=>(iT k x _).trans ((dq r).cons _)
def A1 (l:List (Ky×α)):Prop:=l.Pairwise λa b=>lz a.1 b.1=true
theorem sf {k:Ky}{x:α}:∀{l:List (Ky×α)},A1 l->(∀p∈l,p.1≠k)->A1 (lJ k x l)
 |[],_,_=>List.pairwise_singleton _ _
 |(j,y):: r,h,hn=>by
  obtain⟨h1,h2⟩:=List.pairwise_cons.mp h;unfold lJ
  by_cases e:lz k j=true
  ·rw[if_pos e];refine List.pairwise_cons.mpr ⟨λp hp=>?_,h⟩
   rcases List.mem_cons.mp hp with rfl|hp
   ·exact e
   ·exact i5 e (h1 p hp)
  ·rw[if_neg e];have jk:lz j k=true:=(i8 (hn _ List.mem_cons_self)).resolve_right e;refine List.pairwise_cons.mpr ⟨λp hp=>?_,sf h2 λp hp=>hn p (List.mem_cons_of_mem _ hp)⟩
   rcases List.mem_cons.mp ((iT k x r).mem_iff.mp hp) with rfl|hp
   ·exact jk
   ·exact h1 p hp
theorem kO:∀{l:List (Ky×α)},(l.map (·.1)).Nodup->A1 (dH l)
 |[],_=>.nil
 |(k,x):: r,h=>by
  obtain⟨h1,h2⟩:=List.nodup_cons.mp h;exact sf (kO h2) λp hp z=>h1 (z▸List.mem_map_of_mem (f:=(·.1)) ((dq r).mem_iff.mp hp))
theorem lZ:∀{l1 l2:List (Ky×α)},A1 l1->A1 l2->l1.Perm l2->l1=l2
 |[],l2,_,_,p=>(List.nil_perm.mp p).symm
 |a::l1,[],_,_,p=>(List.nil_perm.mp p.symm)
 |a::l1,b::l2,h1,h2,p=>by
  obtain⟨u1,v1⟩:=List.pairwise_cons.mp h1;obtain⟨u2,v2⟩:=List.pairwise_cons.mp h2
  have e:a=b:=by
   rcases List.mem_cons.mp (p.mem_iff.mp List.mem_cons_self) with z|z
   ·exact z
   ·rcases List.mem_cons.mp (p.mem_iff.mpr (List.mem_cons_self (a:=b) (l:=l2))) with w|w
    ·exact w.symm
    ·have c1:=u2 a z;have c2:=u1 b w;have c3:=i5 c1 c2;rw[lh] at c3
     cases c3
  subst e;rw[lZ v1 v2 (List.Perm.cons_inv p)]
theorem ow {l1 l2:List (Ky×α)}(nd:(l2.map (·.1)).Nodup)(h:A1 l1)(p:l1.Perm l2):l1=dH l2:=lZ h (kO nd) (p.trans (dq l2).symm)
theorem pC {l1 l2:List (Ky×α)}(nd:(l2.map (·.1)).Nodup)(p:l1.Perm l2):dH l1=dH l2:=by
 refine ow nd (kO ?_) ((dq l1).trans p);exact(p.map (·.1)).nodup_iff.mpr nd
end
def Da (xs:List V)(p:Array Nat):List V:=p.toList.map λi=>xs.getD i .non
theorem xA {xs:List V}{us:nv}(rv:aL xs us){n:Nat}{r:Nat->Nat}{p:Array Nat}(P:Pm n r p)(hn:n<=xs.length):aL (Da xs p) (gP us p):=by
 have key:∀l:List Nat,(∀i∈l,i<xs.length)->aL (l.map λi=>xs.getD i .non) (l.map λi=>us.getD i Value.none):=by
  intro l
  induction l with
  |nil=>intro _;exact .nil
  |cons i l ih =>
   intro h;have hi:=h i List.mem_cons_self;obtain⟨u,e,r⟩:=rv.get (i:=i) (x:=xs[i]) (by simp[hi]);refine .cons ?_ (ih λj hj=>h j (List.mem_cons_of_mem _ hj));show aE (xs.getD i .non) (us.getD i Value.none);rw[List.getD_eq_getElem?_getD,List.getD_eq_getElem?_getD,e,show xs[i]?=some xs[i] by simp[hi]];exact r
 refine key p.toList λi hi=>?_
 have z:i∈(List.range n):=by
  have pl:p.toList.Perm (List.range n):=by simpa using P.perm.toList
  exact pl.mem_iff.mp hi
 have:=List.mem_range.mp z;omega
theorem wz {xs:List V}{ks:List Ky}(hl:xs.length=ks.length)(nd:ks.Nodup){p:Array Nat}(P:Pm xs.length (rk ks) p)(U:Up (rk ks) p xs.length):Da xs p=(dH (ks.zip xs)).map (·.2):=by
 have pl:p.toList.Perm (List.range xs.length):=by simpa using P.perm.toList
 have e1:(List.range xs.length).map (λi=>(cJ ks i,xs.getD i V.non))=ks.zip xs:=by
  apply List.ext_getElem
  ·simp[hl]
  ·intro i h1 h2
   have hi:i<xs.length:=by simpa using h1
   have hk:i<ks.length:=by omega
   simp[cJ,hi,hk]
 have z:p.toList.map (λi=>(cJ ks i,xs.getD i V.non))=dH (ks.zip xs):=by
  refine ow ?_ ?_ ?_
  ·rw[List.map_fst_zip (by omega)];exact nd
  ·unfold A1;rw[List.pairwise_map];refine List.pairwise_iff_getElem.mpr λi j hi hj IA=>?_;have sz:=P.size;rw[Array.length_toList] at hi hj;have u:=U i j IA (by omega)
   have gi:p.getD i 0=p.toList[i]:=by simp[Array.getD,hi]
   have gj:p.getD j 0=p.toList[j]:=by simp[Array.getD,hj]
   rw[gi,gj] at u
   have bi:p.toList[i]<ks.length:=by rw[<-gi,<-hl];exact P.lt i (by omega)
   have bj:p.toList[j]<ks.length:=by rw[<-gj,<-hl];exact P.lt j (by omega)
   rw[<-xi bi bj];exact decide_eq_true u
  ·exact(pl.map _).trans (by rw[e1])
 rw[<-z,List.map_map];rfl
end Srt
namespace L2
open PySem PySem.Spec PyProof.Rows PySem.W
theorem eY:∀{ns:List Int}{us:nv},aL (ns.map V.int) us->IntsAre us ns
 |[],us,r=>by cases r;exact .nil
 |n::ns,us,r=>by
  rw[List.map_cons] at r
  cases r with
  |cons h t =>
   obtain⟨k,rfl⟩:=(show ∃k,_=Value.int n k from h);exact .cons n k (eY t)
theorem qX:∀{us:nv}{ns:List Int},IntsAre us ns->aL (ns.map V.int) us
 |_,_,.nil=>.nil
 |_,_,.cons n t h=>.cons ⟨t,rfl⟩ (qX h)
section
variable {X:Cx}
theorem uW (hc:X.calm=true):eX X (.builtin "max") (λxs H Q=>∃(l:Addr)(ns:List Int),xs=[.ref l]/\aN X.K H l (ns.map V.int)/\ns≠[]/\∀m,m∈ns->(∀a∈ns,a<=m)->Q (.int m) H):=by
 intro pins s σ H xs us Q I r h;obtain⟨l,ns,rfl,hl,HQ,q⟩:=h;obtain⟨u,rfl,ru⟩:=eK r
 cases(show u=Value.ref l from ru)
 obtain⟨its,rv,pl,hz⟩:=I.list hl;have hi:=eY rv;obtain⟨xs,e⟩:=hi.allInts.items
 have IC:ns=xs.toList.map (·.1):=by rw[<-hi.numsOf,<-nums_intItems,<-e]
 have hsz:0<xs.size:=by
  have h3:0<ns.length:=List.length_pos_iff.mpr HQ;rw[IC,List.length_map,Array.length_toList] at h3;exact h3
 have Hy:=pl.isList;rw[e] at Hy;refine max_intList (I.ok.hd hc) Hy hsz λv h' tk hv hk=>?_;obtain⟨t,rfl⟩:=intItems_at hv;obtain⟨h1,h2⟩:=argBest_gt (numAt xs) (xs.size-1);refine⟨.int _,H,I.kept (t':=tk) hk,⟨t,rfl⟩,q _ ?_ λa ha=>?_⟩
 ·rw[IC,numAt_eq];exact getD_mem (by rw[List.length_map,Array.length_toList];omega)
 ·rw[IC] at ha;obtain⟨j,hj,rfl⟩:=mem_getD ha;rw[List.length_map,Array.length_toList] at hj;rw[<-numAt_eq];exact h2 j (by omega)
def u9 (ns:List Int):Nat:=(firstMet (λi=>ns.getD i 0) ns.length).length
def yN (K:Frag)(ta:TE):TE:=λσ H Q=>dm ta Br σ H λvs H1=>∃(l:Addr)(ns:List Int),vs=[.ref l]/\aN K H1 l (ns.map V.int)/\ns.length<4000/\Q (.int (u9 ns)) H1
theorem uI {e:Expr}{ta:TE}{p p2 pos HI:Pos}(ha:PE X e ta)(hc:X.calm=true)(NM:Gl X "len")(NO:X.mg "len"=none)(So:Gl X "set")(MP:X.mg "set"=none)(hs:dB e=false:=by rfl):
 PE X (.Call (.Name "len" p) [.Call (.Name "set" p2) [e] [] HI] [] pos) (yN X.K ta):=by
 intro pins s σ H Q I h;refine wpAny_Call_Name_kw (cT I NM NO (by rfl) ?_ (by decide) (by decide));refine callWith_builtin1 ?_ (aK rfl) rfl;rw[aK rfl];show wpAny _ _ (spliced ((false,eval (.Call (.Name "set" p2) [e] [] HI) X.env):: backTo pos (starEach [] X.env))) _ _ s;refine Calls.spliced_cons ?_;refine wpAny_Call_Name_kw (cT I So MP (by rfl) ?_ (by decide) (by decide));refine callWith_type1 (bA (ak ha af hs HI pins s σ H _ I h) λus s1 z'=>?_) (aK hs) rfl;obtain⟨vs,H1,I1,r1,l,ns,hv,hq,hz,q⟩:=z';subst hv;obtain⟨u,rfl,ru⟩:=eK r1
 cases(show u=Value.ref l from ru)
 obtain⟨its,rv,pl,Ws⟩:=I1.list hq;have e1:=rv.length;rw[List.length_map] at e1;refine call_set_list (I.ok.hd hc) pl.isList (by simpa using eY rv) (by rw[List.size_toArray];show its.length+1<4096;omega) λh' tk hS old=>?_;obtain⟨o,es,ep,t,ho,hx,hd,_,_,_,hf,hn⟩:=hS;have Kq:∀b o,s1.heap.get? b=some o->h'.get? b=some o:=λb o e=>old b o (Heap.lt_size e) e;have I2:Inv X pins σ H1 {s1 with heap:=h',toks:=tk}:=I1.kept (t':=tk) Kq
 have en:es.size=u9 ns:=by rw[hn];unfold u9;rw[List.size_toArray,<-e1]
 have le:u9 ns<=ns.length:=firstMet_length_le _ _;refine Calls.spliced_nil ?_;refine call_len_set (s:={s1 with heap:=h',toks:=tk}) ho hx hd hf (by rw[en];omega) ?_;exact⟨.int (u9 ns),H1,I2.tok _,⟨_,by rw[en]⟩,q⟩
end
def zN (K:Frag):List V->Hp->VK->Prop:=λxs H Q=>∃p ys,xs=[.ref p]/\(aN K H p ys\/bo K H p ys)/\Q (.int ys.length) H
section
variable {X:Cx}
theorem tW {K:Frag}(hK:X.K=K):eX X (.builtin "len") (zN K):=by subst hK;exact aJ
variable {tg l:Expr}{tl:TE}
def qJ (K:PySem.W.Frag):R2:=λx y H Q=>∃p q xs,x=.ref p/\y=.ref q/\aN K H p xs/\aN K H q []/\Q (.bl (!decide (xs=[]))) H
theorem pk {k:Nat}(hr:wK k X.A):dC X (compareOp .NotEq) (qJ X.K):=by
 intro pins s σ H x y v u Q I rx ry h;obtain⟨p,q,xs,rfl,rfl,h1,h2,w⟩:=h
 by_cases e:xs=[]
 ·subst e;refine qi hr pins s σ H _ _ v u Q I rx ry ⟨.lst [],.lst [],?_,?_,by decide,w⟩
  ·unfold aI;exact⟨p,[],rfl,h1,by unfold aV;rfl⟩
  ·unfold aI;exact⟨q,[],rfl,h2,by unfold aV;rfl⟩
 ·cases(show v=Value.ref p from rx)
  cases(show u=Value.ref q from ry)
  obtain⟨its,r1,p1,_⟩:=I.list h1;obtain⟨GP,r2,p2,_⟩:=I.list h2
  cases r2
  have hl:=r1.length;have hx:xs.length≠0:=λz=>e (List.eq_nil_of_length_eq_zero z)
  have hs:(its.toArray.size != ([]:nv).toArray.size)=true:=by
   have:its.toArray.size≠0:=by rw[List.size_toArray];omega
   simpa using this
  exact SeqAt.RcNeAt.lists_lengths p1.isList p2.isList hs hr.aaY X.prog X.w X.xe _ ⟨.bl true,H,I,rfl,by simpa[e] using w⟩
end
end L2
namespace HT
open PySem PyProof.Rows
section
variable {prog:vB}{w:World}{A:Around}{E:pL}{s:GB}
theorem gJ {t sl:Addr}{items:t6}{vl vu:Value}{lo hi:Option Int}{Q:pL}(ht:IsTup s.heap t items)(hs:s.heap.IsSliceOf sl vl vu .none)(pl:IsPart vl lo)(pu:IsPart vu hi)
 (h0:eh items.size 0 lo=0)(h1:eh items.size items.size hi=items.size)(h:Q (.ref t) s):wpAny (model prog w) A (getItem (.ref t) (.ref sl)) Q E s:=by
 obtain⟨os,Ly,Q2,Nq⟩:=id hs;have RU:s.TypeIs (.ref sl) "slice":=⟨os,Ly,Q2⟩;unfold getItem
 try with_reducible refine wpAny_holding ?_
 first|refine wpAny_bind (wpAny_pure ?_)|skip
 refine wpAny_bind (wpAny_sequenceKey ht.typeIs (by decide) ?_)
 refine wpAny_bind (wpAny_callSpecial?_slot (name:=Str.ofString "__getitem__") ht.typeIs PyProof.Rows.slot_tuple_getitem
  (wpAny_call_entry PyProof.Rows.slot_tuple_getitem ht.typeIs entry_tuple_getitem ?_ (args_tuple_getitem _ _)))
 show wpAny _ _ (Builtin.Tuple.tupleItemsOf (.ref t)>>=_) _ _ s;refine wpAny_bind (tupleItemsOf_ ht ?_);refine wpAny_bind (wpAny_typeOf RU ?_);rw[if_pos (by decide)];refine wpAny_bind (eV hs pl pu ?_);rw[h0,h1]
 have IG:((((0:Nat):Int)==0&&(1:Int)==1&&(items.size-0)==items.size)=true):=by simp
 dsimp only;rw[if_pos IG];show wpAny _ _ (Builtin.Tuple.tupleIsExact (.ref t)>>=_) _ _ s;refine wpAny_bind ?_;unfold Builtin.Tuple.tupleIsExact;refine wpAny_bind (wpAny_typeOf ht.typeIs (wpAny_pure ?_));rw[if_pos (by decide)];refine wpAny_bind (wpAny_rule ?_);exact wpAny_pure ⟨_,rfl,wpAny_pure h⟩
end
end HT
namespace L2
open PySem PySem.Spec PyProof.Rows PySem.W
variable {X:Cx}
def Fj (K:Frag):V->Option Int->Option Int->Hp->VK->Prop:=λx lo hi H Q=>∃a xs,x=.ref a/\bo K H a xs/\(ni xs lo hi=xs->Q (.ref a) H)/\∀p,H p=none->Q (.ref p) (upd H p (.tup (ni xs lo hi)))
theorem yy:EN X (Fj X.K):=by
 intro pins s σ H x v vl vu lo hi sl Q I rx hs pl pu h;obtain⟨a,xs,rfl,hx,h1,h2⟩:=h
 by_cases hw:HT.eh xs.length 0 lo=0/\HT.eh xs.length xs.length hi=xs.length
 ·cases rx
  obtain⟨its,r,ht,hz⟩:=I.tuple hx
  have hlen:its.toArray.size=xs.length:=by rw[List.size_toArray];exact r.length.symm
  refine⟨"tuple",_,PyProof.Rows.slot_tuple_getitem.lookup,ht.typeIs,?_⟩;refine HT.gJ ht hs pl pu (by rw[hlen];exact hw.1) (by rw[hlen];exact hw.2) ?_;refine⟨.ref a,H,I,rfl,h1 ?_⟩;unfold ni;rw[hw.1,hw.2];simp
 ·exact BK pins s σ H (.ref a) v vl vu lo hi sl Q I rx hs pl pu ⟨a,xs,rfl,hx,hw,h2⟩
section
variable {X:Cx}
theorem wy {H:Hp}{p:Addr}{o:HO}(h:H p=none):aC H (upd H p o):=λb u e=>by rw[ar (au e h)];exact e
def acN:R2:=λx y H Q=>∃a b xs ys,x=.ref a/\y=.ref b/\H a=some (.lst xs)/\H b=some (.lst ys)/\xs.length+ys.length<=sizeLine/\∀p H',H p=none->aC H H'->H' p=some (.lst (xs++ys))->Q (.ref p) H'
theorem fE:dC X (binaryOp .Add) acN:=by
 intro pins s σ H x y v u Q I rx ry h;obtain⟨a,b,xs,ys,rfl,rfl,ha,hb,hz,q⟩:=h;exact Bo pins s σ H _ _ v u Q I rx ry ⟨a,b,xs,ys,rfl,rfl,ha,hb,hz,λp hp=>q p _ hp (wy hp) ae⟩
end
end L2
namespace K75
open PySem L2 PySem.W Nm
abbrev xK:Stmt:=aQ (aO 20) 4
abbrev my:Stmt:=aQ (aO 20) 11
variable {H:Hp}{x:V}
theorem Th.same {H':Hp}{T:String}(h:Th H x T)(s:aC H H'):Th H' x T:=by
 cases h with
 |non=>exact .non
 |bl b=>exact .bl b
 |int i=>exact .int i
 |str x=>exact .str x
 |lst e=>exact .lst (s _ _ e)
 |tup e=>exact .tup (s _ _ e)
 |dK e=>exact .dK (s _ _ e)
inductive TX (H:Hp):V->Option (V×V)->Prop where
 |no {x:V}{T:String}:Th H x T->T ≠ "tuple"->TX H x none
 |odd {a:Addr}{xs:List V}:H a=some (.tup xs)->xs.length≠2->TX H (.ref a) none
 |two {a:Addr}{y z:V}{Ty Tz:String}:H a=some (.tup [y,z])->Th H y Ty->Th H z Tz->TX H (.ref a) (some (y,z))
theorem TX.same {H':Hp}{o:Option (V×V)}(h:TX H x o)(s:aC H H'):TX H' x o:=by
 cases h with
 |no th n=>exact .no (th.same s) n
 |odd e n=>exact .odd (s _ _ e) n
 |two e h1 h2=>exact .two (s _ _ e) (h1.same s) (h2.same s)
def xC (p:Int):Option (V×V)->Bool
 |some (.int t,.int b)=>if p=0 then decide (1<=b)&&decide (Int.gcd t b=1) else decide (b=1)&&(decide (0<=t)&&decide (t<p))
 |_=>false
theorem Th.isTup {K:Frag}{T:String}(h:Th H x T):kitOne K (.type T) (.type "tuple")=some (decide (T="tuple")):=by cases h <;> rfl
def mZ (C NN:Addr):Sp:=λvs H Q E=>∃(s dx:Addr)(p:Int)(x y:V)(Tx Ty:String),vs=[.ref s,x,y]/\H s=some (.ins C dx (df p))/\Th H x Tx/\Th H y Ty/\(∀t b,x=.int t->y=.int b->qz C NN [.ref s,.int t,.int b] H Q E)/\((dk x&&dk y)=false->E (.ref NN) none H)
def ll (C:Addr):Sp:=λvs H Q _=>∃(s dx:Addr)(p:Int)(x:V)(o:Option (V×V)),vs=[.ref s,x]/\H s=some (.ins C dx (df p))/\FP p/\TX H x o/\Q (.bl (xC p o)) H
variable {P:vB}{w:World}{K:PySem.W.Frag}{mg:vW}{base:Heap}
theorem B6:yJ zp zp (ai xK):=dE (by decide +kernel)
theorem Ae {f C NN fq fw T:Addr}{fd Wt HD:EK}(F:Fx K "made" "Field.made" xK f fd T)(c:BJ K mg C)(mN:mg "NoNumber"=some (.ref NN))(qN:p7 K NN CN xZ=true)
 (FQ:Bp P w K mg base (bf P w) 3 fq Wt zp (qz C NN))(bQ:L2.ay K Wt zp [])(mQ:L2.Meth K C "quotient" fq)
 (FW:Bp P w K mg base (bf P w) 1 fw HD vb FY)(bW:L2.ay K HD vb [])(mW:mg "is_whole"=some (.ref fw))(kW:keepIn K (.ref fw)=true):Bp P w K mg base (bf P w) 4 f fd zp (mZ C NN):=by
 refine F.okE B6 (λvs H Q E h=>?_) (λGN A outer s H vs Q E hr h=>?_)
 ·obtain⟨s,dx,p,x,y,Tx,Ty,rfl,_⟩:=h;rfl
 ·obtain⟨s,dx,p,x,y,Tx,Ty,rfl,hs,hx,hy,q,qE⟩:=h;have GU:wK 1 _:=hr.mono (by decide)
  refine⟨_,aj (bw (PW.pt (dz (bB (bJ (ax FW GU (by rfl) mW kW bW .nil ag (ak (pv 1) af)))) (cR (bB (bJ (ax FW GU (by rfl) mW kW bW .nil ag (ak (pv 2) af)))))))
   (aq (iz PySem.F.excBase_ValueError qN rfl fK (by rfl) mN (ak kQ af))) aM)
   (aq (aA (fb (E:=E) (pv 0) c.cl mQ FQ hr bQ .nil qU (ak (pv 1) (ak (pv 2) af))))),?_⟩
  refine⟨_,rfl,x,Tx,rfl,hx,_,rfl,?_⟩
  cases e1:dk x with
  |false=>exact b7 (b7 ⟨by decide,qE (by rw[e1];rfl)⟩)
  |true =>
   refine bx ⟨_,rfl,y,Ty,rfl,hy,_,rfl,?_⟩
   cases e2:dk y with
   |false=>exact b7 ⟨by decide,qE (by rw[e1,e2];rfl)⟩
   |true =>
    have z1:∃t,x=.int t:=by cases x <;> first|exact⟨_,rfl⟩|cases e1
    have z2:∃b,y=.int b:=by cases y <;> first|exact⟨_,rfl⟩|cases e2
    obtain⟨t,rfl⟩:=z1;obtain⟨b,rfl⟩:=z2;exact bx ⟨_,rfl,s,dx,_,rfl,hs,rfl,_,rfl,_,rfl,q t b rfl rfl⟩
theorem gY:yJ ["self","thing","top","bottom"] tX (ai my):=dE (by decide +kernel)
theorem pf {f C fg fw:Addr}{fd Ii HD:EK}{tF:Tok}(F:vM K "is_number" "Field.is_number" my f fd)(c:BJ K mg C)(mF:mg "FRACTIONS"=some (.int 0 tF))(n:yr mg)(mT:mg "tuple"=none)(mN:mg "len"=none)
 (FG:Bp P w K mg base (bf P w) 1 fg Ii GG DK)(bG:L2.ay K Ii GG [])(mG:mg "common_divisor"=some (.ref fg))(kG:keepIn K (.ref fg)=true)
 (FW:Bp P w K mg base (bf P w) 1 fw HD vb FY)(bW:L2.ay K HD vb [])(mW:mg "is_whole"=some (.ref fw))(kW:keepIn K (.ref fw)=true):Bp P w K mg base (bf P w) 2 f fd tX (ll C):=by
 refine F.okN gY (λvs H Q E h=>?_) (λGN A outer s H vs Q E hr h=>?_)
 ·obtain⟨s,dx,p,x,o,rfl,_⟩:=h;rfl
 ·obtain⟨s,dx,p,x,o,rfl,hs,hp,tx,q⟩:=h
  refine⟨_,aj (bw (PW.pt (dz (bB (bJ (az ba (by rfl) n.isi (by rfl) (ak (pv 1) (ak (c9 (by rfl) mT (by rfl) (show aE (.ty "tuple") (.type "tuple") from rfl)) af)))))
   (cR (aH fM (az aJ (by rfl) mN PySem.boot_len (ak (pv 1) af)) ao (aG _))))) (aq (aA fX)) aM)
   (aj (nK (pv 1) (bZ rfl (aB (av (i:=2) gY.nd rfl (Or.inl rfl)) (aB (av (i:=3) gY.nd rfl (Or.inl rfl)) bz))))
   (aj (bw (PW.pt (dz (bB (bJ (ax FW hr (by rfl) mW kW bW .nil ag (ak (pv 2) af)))) (cR (bB (bJ (ax FW hr (by rfl) mW kW bW .nil ag (ak (pv 3) af))))))) (aq (aA fX)) aM)
   (aj (bw (aH dF (cp (pv 0) rfl) (cB (by rfl) mF (show aE (.int 0) (.int 0 tF) from⟨_,rfl⟩)) (aG _))
    (aq (aA (cC (bH xP (pv 3) ao (aG _)) (fF (bH dF (ax FG hr (by rfl) mG kG bG .nil ag (ak (pv 2) (ak (pv 3) af))) ao (aG _)))))) aM)
   (aq (aA (cC (bH dF (pv 3) ao (aG _)) (fF (oG jK kJ ao (pv 2) (cp (pv 0) rfl))))))))),?_⟩
  cases tx with
  |@no x T th ne =>
   refine⟨_,rfl,x,.ty "tuple",_,_,_,rfl,rfl,th.ty,th.isTup,_,rfl,?_⟩;rw[decide_eq_false ne];exact b7 (b7 q)
  |@odd a xs ha hl =>
   refine⟨_,rfl,.ref a,.ty "tuple",_,_,_,rfl,rfl,.of (.tup ha),rfl,_,rfl,bx ?_⟩;refine⟨_,rfl,a,_,rfl,.inr (bo.of ha),rfl,_,rfl,?_⟩;refine dD (λ_=>q) (λh=>absurd (by simp;omega) h)
  |@two a y z Ty Tz ha hy hz =>
   refine⟨_,rfl,.ref a,.ty "tuple",_,_,_,rfl,rfl,.of (.tup ha),rfl,_,rfl,bx ?_⟩;refine⟨_,rfl,a,_,rfl,.inr (bo.of ha),rfl,_,rfl,?_⟩;refine dD (λh=>absurd h (by simp)) (λ_=>?_);refine⟨_,rfl,a,_,rfl,bo.of ha,rfl,_,_,rfl,_,_,rfl,rfl,?_⟩;refine⟨_,rfl,y,Ty,rfl,hy,_,rfl,?_⟩
   cases e1:dk y with
   |false =>
    have z1:xC p (some (y,z))=false:=by cases y <;> first|rfl|cases e1
    rw[z1] at q;exact b7 (b7 q)
   |true =>
    refine bx ⟨_,rfl,z,Tz,rfl,hz,_,rfl,?_⟩
    cases e2:dk z with
    |false =>
     have z1:xC p (some (y,z))=false:=by cases y <;> cases z <;> first|rfl|cases e2
     rw[z1] at q;exact b7 q
    |true =>
     have z1:∃t,y=.int t:=by cases y <;> first|exact⟨_,rfl⟩|cases e1
     have z2:∃b,z=.int b:=by cases z <;> first|exact⟨_,rfl⟩|cases e2
     obtain⟨t,rfl⟩:=z1;obtain⟨b,rfl⟩:=z2;refine bx ?_;refine⟨_,rfl,s,C,dx,_,_,rfl,hs,c.cl,c.nP,rfl,rfl,_,rfl,?_⟩;refine dD (λh=>?_) (λh=>?_)
     ·have Hw:p=0:=by simpa using h
      have z1:xC p (some (.int t,.int b))=(decide (1<=b)&&decide (Int.gcd t b=1)):=by simp[xC,Hw]
      rw[z1] at q;refine⟨_,rfl,_,_,rfl,rfl,_,rfl,?_⟩;refine dD (λh1=>?_) (λh1=>?_)
      ·refine⟨_,rfl,_,rfl,t,b,rfl,rfl,?_⟩
       have e3:decide (V.int (dS t b)=V.int 1)=decide (Int.gcd t b=1):=by
        unfold dS
        by_cases g:Int.gcd t b=1
        ·simp[g]
        ·have:¬((Int.gcd t b:Nat):Int)=1:=by omega
         simp[g,this]
       have Kp:decide (1<=b)=true:=h1;rw[Kp,Bool.true_and,<-e3] at q;exact q
      ·have Kp:decide (1<=b)=false:=by simpa using h1
       rw[Kp,Bool.false_and] at q;exact q
     ·have Hw:p≠0:=by simpa using h
      have z1:xC p (some (.int t,.int b))=(decide (b=1)&&(decide (0<=t)&&decide (t<p))):=by simp[xC,Hw]
      rw[z1] at q;refine⟨_,rfl,rfl,_,rfl,?_⟩;refine dD (λh1=>?_) (λh1=>?_)
      ·have Kp:decide (b=1)=true:=by simpa using h1
       rw[Kp,Bool.true_and] at q;refine⟨_,rfl,_,_,rfl,rfl,_,rfl,?_⟩;refine dD (λh2=>?_) (λh2=>?_)
       ·refine⟨_,rfl,s,C,dx,_,_,rfl,hs,c.cl,c.nP,rfl,_,_,rfl,rfl,?_⟩;have MO:decide (0<=t)=true:=h2;rw[MO,Bool.true_and] at q;exact q
       ·have MO:decide (0<=t)=false:=by simpa using h2
        rw[MO,Bool.false_and] at q;exact q
      ·have Kp:decide (b=1)=false:=by simpa using h1
       rw[Kp,Bool.false_and] at q;exact q
end K75
namespace Kr
open PySem PySem.W PyProof.Rows
variable {i:Nat}
section
variable {prog:vB}{w:World}{A:Around}{E:pL}{s:GB}{d it:Addr}{es:Array DictEntry}{ep:Nat}{o:Obj}
structure Raw (h:Heap)(d:Addr)(es:Array DictEntry)(ep:Nat):Prop where
 ex:∃o,h.get? d=some o/\o.ExactDict/\o.data=.dict es ep
theorem Raw.ty (r:Raw s.heap d es ep):s.TypeIs (.ref d) "dict":=let⟨o,h,x,_⟩:=r.ex;⟨o,h,x.1⟩
theorem Raw.keep {h h':Heap}(r:Raw h d es ep)(k:∀o,h.get? d=some o->h'.get? d=some o):Raw h' d es ep:=let⟨o,h1,x⟩:=r.ex;⟨o,k o h1,x⟩
theorem qP {Q:pL}(r:Raw s.heap d es ep)(hd:(d==sysModules)=false)(h:Q (.ref s.heap.objs.size) {s with heap:=s.heap.push {cls:=.type "dict_items",data:=.fields #[.ref d]} }):
 wpAny (model prog w) A (call (.builtin "dict.items") [.ref d]) Q E s:=by
 refine wpAny_call_entry F.slot_dict_items r.ty F.entry_dict_items ?_ (F.args_dict_items_1 _);unfold Builtin.«dict.items» Builtin.Dict.noArgs;refine wpAny_bind (wpAny_bind (wpAny_notOrdered_dict r.ty (wpAny_pure ?_)));show wpAny _ _ (Builtin.Dict.showsAll d>>=_) _ _ s;unfold Builtin.Dict.showsAll;rw[if_neg (by rw[hd];exact Bool.false_ne_true)];exact wpAny_bind (wpAny_pure (wpAny_bind (wpAny_newObj_type (wpAny_pure ⟨_,rfl,h⟩))))
theorem rC {v:Addr}{Q:pL}(hv:s.heap.IsItemsView v d)(r:Raw s.heap d es ep)
 (hQ:Q (.ref s.heap.objs.size) {s with heap:=s.heap.push {cls:=.type "dict_itemiterator",data:=.fields #[.none,.bool false,.ref d,.int 0 0,.int es.size 0,.int ep 0,.none,.none]} }):wpAny (model prog w) A (pyIter (.ref v)) Q E s:=by
 obtain⟨ov,g1,g2,g3⟩:=id hv;obtain⟨o,h1,h2,h3⟩:=r.ex;refine wpAny_pyIter_slot hv.typeIs F.slot_dict_items_iter (wpAny_call_entry F.slot_dict_items_iter hv.typeIs F.entry_dict_items_iter ?_ (F.args_dict_items_iter_1 _));unfold Builtin.«dict_items.__iter__» Builtin.Dict_items.dictOf;refine wpAny_bind (wpAny_pure (wpAny_bind (wpAny_bind (wpAny_field g1 g3 (x:=.ref d) rfl (wpAny_pure (wpAny_bind ?_))))));unfold Builtin.Dict_items.newIterator;refine wpAny_bind (wpAny_dictEntries h1 h3 (wpAny_bind (wpAny_dictEpoch h1 h3 ?_)));simp only[show Builtin.Dict_items.ownsTuple "dict_itemiterator"=true from by decide,if_true];refine wpAny_newObj_type (wpAny_pure ⟨_,rfl,"dict_itemiterator",_,⟨_,Heap.get?_push_size _ rfl,rfl⟩,F.slot_dict_itemiterator_next.lookup,?_⟩) (by simp only[sizeOk,Builtin.Dict_items.ownedTupleFields,List.size_toArray,List.length_append,List.length_cons,List.length_nil,sizeLine_eq];omega);simpa[rawInt,Builtin.Dict_items.ownedTupleFields] using hQ
theorem qK {ok ov:Value}{Q:Option Value->Shared->Prop}(cW:IsItemIter s.heap it d i es.size ep ok ov)(r:Raw s.heap d es ep)(hi:i<es.size)
 (hQ:∀h',IsItemIterOut h' it d (i+1) es.size ep es[i].key es[i].val s.heap.objs.size->h'.get? s.heap.objs.size=some {cls:=.type "tuple",data:=.seq #[es[i].key,es[i].val]}->h'.objs.size=s.heap.objs.size+1 →
  (∀b o,b≠it->s.heap.get? b=some o->h'.get? b=some o)->Q (some (.ref s.heap.objs.size)) {s with heap:=h'}):wpAny (model prog w) A (pyNext (.ref it)) Q E s:=by
 obtain⟨hp,g,dr,tk,os⟩:=s;obtain⟨o,h1,h2,h3⟩:=r.ex;have hT:Shared.TypeIs ⟨hp,g,dr,tk,os⟩ (.ref it) "dict_itemiterator":=⟨_,cW,rfl⟩;unfold pyNext;refine wpAny_bind (wpAny_attempt (wpAny_callSpecial?_slot (name:=Str.ofString "__next__") hT F.slot_dict_itemiterator_next (wpAny_call_entry F.slot_dict_itemiterator_next hT F.entry_dict_itemiterator_next ?_ (F.args_dict_itemiterator_next_1 _))));refine wpAny_bind (wpAny_pure (wpAny_bind (wpAny_bind ?_)))
 first|refine wpAny_bind (wpAny_typeNameOfWhole_itemiter hT (wpAny_pure (wpAny_bind (wpAny_fieldsOf cW rfl ?_))))|refine wpAny_bind (wpAny_typeNameOf_itemiter hT (wpAny_pure (wpAny_bind (wpAny_fieldsOf cW rfl ?_))))
 simp only[show Builtin.Dict_items.ownsTuple "dict_itemiterator"=true from by decide,if_true];show wpAny _ _ (if(Value.ref d==Value.none)=true then _ else _) _ _ _;rw[if_neg (show ¬((Value.ref d==Value.none)=true) from Bool.false_ne_true)];refine wpAny_bind (wpAny_pure (wpAny_bind (wpAny_dictEntries h1 h3 ?_)));rw[if_neg (by simp)];refine wpAny_bind (wpAny_pure (wpAny_bind (wpAny_dictEpoch h1 h3 ?_)));rw[if_neg (by simp)];refine wpAny_pure ?_;simp only[show ¬((i:Int)<0) from by omega,if_false,Int.toNat_natCast,Array.getElem?_eq_getElem hi];refine wpAny_bind ?_
 first|refine wpAny_bind (wpAny_typeNameOfWhole_itemiter hT (wpAny_pure (wpAny_bind (wpAny_isOneOf_itemiter hT ?_))))|refine wpAny_bind (wpAny_typeNameOf_itemiter hT (wpAny_pure (wpAny_bind (wpAny_isOneOf_itemiter hT ?_))))
 show wpAny _ _ (setField (.ref it) 3 (rawInt ((i:Int)+1))>>=_) _ _ ⟨hp,g,dr,tk,os⟩;refine wpAny_bind (wpAny_setField_rec cW (by simp) λk1 e1 (b1:Heap.SameBut it hp k1)=>?_)
 have q1:IsItemIter k1 it d (i+1) es.size ep ok ov:=by
  unfold IsItemIter;rw[show((i+1:Nat):Int)=(i:Int)+1 by omega];simpa[rawInt] using e1
 have t1:Shared.TypeIs ⟨k1,g,dr,tk,os⟩ (.ref it) "dict_itemiterator":=⟨_,q1,rfl⟩;refine wpAny_bind (wpAny_holding (wpAny_bind (wpAny_isOneOf_itemiter t1 (wpAny_bind (wpAny_isOneOf_itemiter t1 ?_)))));show wpAny _ _ (Builtin.Dict_items.pairFromOwner (.ref it) 6 es[i].key es[i].val) _ _ ⟨k1,g,dr,tk,os⟩;unfold Builtin.Dict_items.pairFromOwner;refine wpAny_bind (wpAny_newTuple ?_);have q2:IsItemIter (k1.push {cls:=.type "tuple",data:=.seq #[es[i].key,es[i].val]}) it d (i+1) es.size ep ok ov:=Heap.get?_push_of_some _ q1;have z1:k1.objs.size=hp.objs.size:=b1.1;have ne:hp.objs.size≠it:=Nat.ne_of_gt (Heap.lt_size cW)
 have w2:(k1.push {cls:=.type "tuple",data:=.seq #[es[i].key,es[i].val]}).get? hp.objs.size=some {cls:=.type "tuple",data:=.seq #[es[i].key,es[i].val]}:=by rw[<-z1];exact Heap.get?_push_size _ rfl
 have z2:(k1.push {cls:=.type "tuple",data:=.seq #[es[i].key,es[i].val]}).objs.size=hp.objs.size+1:=by rw[Heap.size_push,z1]
 have p2:∀b o,b≠it->hp.get? b=some o->(k1.push {cls:=.type "tuple",data:=.seq #[es[i].key,es[i].val]}).get? b=some o:=λb o hb e=>Heap.get?_push_of_some _ (b1.extBut b o hb e);show wpAny _ _ (Builtin.Dict_items.ownedTupleIsFree (.ref it)>>=_) _ _ ⟨k1.push {cls:=.type "tuple",data:=.seq #[es[i].key,es[i].val]},g,dr,tk,os⟩;rw[z1];generalize k1.push {cls:=.type "tuple",data:=.seq #[es[i].key,es[i].val]}=k2 at q2 w2 z2 p2 |-;unfold Builtin.Dict_items.ownedTupleIsFree;refine wpAny_bind (wpAny_bind (wpAny_field q2 rfl (x:=.none) rfl (wpAny_pure ?_)));simp only[if_true];refine wpAny_bind (wpAny_field q2 rfl (x:=ok) rfl (wpAny_bind (wpAny_field q2 rfl (x:=ov) rfl (wpAny_bind (wpAny_setField_rec q2 (by simp) λk3 e3 (b3:Heap.SameBut it k2 k3)=>?_)))));have q3:IsItemIter k3 it d (i+1) es.size ep es[i].key ov:=e3;refine wpAny_bind (wpAny_setField_rec q3 (by simp) λk4 e4 (b4:Heap.SameBut it k3 k4)=>?_);have q4:IsItemIter k4 it d (i+1) es.size ep es[i].key es[i].val:=e4;refine wpAny_bind (wpAny_setField_rec q4 (by simp) λk5 e5 (b5:Heap.SameBut it k4 k5)=>?_);have q5:IsItemIterOut k5 it d (i+1) es.size ep es[i].key es[i].val hp.objs.size:=e5;refine wpAny_bind (wpAny_setField_rec q5 (by simp) λk6 e6 (b6:Heap.SameBut it k5 k6)=>?_);have q6:IsItemIterOut k6 it d (i+1) es.size ep es[i].key es[i].val hp.objs.size:=e6;have go:∀b o,b≠it->k2.get? b=some o->k6.get? b=some o:=λb o hb e=>b6.extBut b o hb (b5.extBut b o hb (b4.extBut b o hb (b3.extBut b o hb e)));exact wpAny_bind (wpAny_letGo (wpAny_pure (wpAny_pure ⟨_,rfl,wpAny_pure (hQ k6 q6 (go _ _ ne w2) (by show k6.objs.size=hp.objs.size+1;rw[b6.1,b5.1,b4.1,b3.1,z2]) λb o hb e=>go b o hb (p2 b o hb e))⟩)))
theorem uJ {ok ov:Value}{Q:Option Value->Shared->Prop}(hh:A.handled=none)(cW:IsItemIter s.heap it d i es.size ep ok ov)(r:Raw s.heap d es ep)(hi:es.size<=i)
 (hQ:∀h',Heap.ExtBut it s.heap h'->Q none {s with heap:=h'}):wpAny (model prog w) A (pyNext (.ref it)) Q E s:=by
 obtain⟨o,h1,h2,h3⟩:=r.ex;have hT:s.TypeIs (.ref it) "dict_itemiterator":=⟨_,cW,rfl⟩;unfold pyNext;refine wpAny_bind (wpAny_attempt (wpAny_callSpecial?_slot (name:=Str.ofString "__next__") hT F.slot_dict_itemiterator_next (wpAny_call_entry F.slot_dict_itemiterator_next hT F.entry_dict_itemiterator_next ?_ (F.args_dict_itemiterator_next_1 _))));refine wpAny_bind (wpAny_pure (wpAny_bind (wpAny_bind ?_)))
 first|refine wpAny_bind (wpAny_typeNameOfWhole_itemiter hT (wpAny_pure (wpAny_bind (wpAny_fieldsOf cW rfl ?_))))|refine wpAny_bind (wpAny_typeNameOf_itemiter hT (wpAny_pure (wpAny_bind (wpAny_fieldsOf cW rfl ?_))))
 simp only[show Builtin.Dict_items.ownsTuple "dict_itemiterator"=true from by decide,if_true];show wpAny _ _ (if(Value.ref d==Value.none)=true then _ else _) _ _ _;rw[if_neg (show ¬((Value.ref d==Value.none)=true) from Bool.false_ne_true)];refine wpAny_bind (wpAny_pure (wpAny_bind (wpAny_dictEntries h1 h3 ?_)));rw[if_neg (by simp)];refine wpAny_bind (wpAny_pure (wpAny_bind (wpAny_dictEpoch h1 h3 ?_)));rw[if_neg (by simp)];refine wpAny_pure ?_;simp only[show ¬((i:Int)<0) from by omega,if_false,Int.toNat_natCast,Array.getElem?_eq_none hi];refine wpAny_bind ?_
 first|refine wpAny_bind (wpAny_typeNameOfWhole_itemiter hT (wpAny_pure ?_))|refine wpAny_bind (wpAny_typeNameOf_itemiter hT (wpAny_pure ?_))
 show wpAny _ _ (setField (.ref it) 2 .none>>=_) _ _ s;refine wpAny_bind (wpAny_setField cW rfl (by simp) ?_);show wpAny _ _ (newExc (.type "StopIteration") []>>=_) _ _ _;refine wpAny_bind ?_;simp only[newExc,newTuple];refine wpAny_bind (wpAny_newObj_type (wpAny_bind (m:=firstArgMember _ _) (wpAny_of_eq (a:=Value.none) (by first|rfl|(simp only[firstArgMember];rfl)) (wpAny_newObj_type ?_ (by size_fits)))) (by size_fits));simp only[raiseNew];refine wpAny_bind (wpAny_handled ?_);rw[show A.in1.handled=none from hh];refine wpAny_bind (wpAny_pure (wpAny_throw ?_));refine wpAny_bind (wpAny_isInstance (T:="StopIteration") (b:=true) ⟨_,Heap.get?_push_size _ rfl,rfl⟩ isSubtype_stop ?_);exact wpAny_pure (hQ _ (((Heap.SameBut.update ..).extBut.push _).push _))
theorem uE {Q:pL}(r:Raw s.heap d es ep)(hd:(d==sysModules)=false)
 (hQ:Q (.ref s.heap.objs.size) {s with heap:=s.heap.push {cls:=.type "dict_keyiterator",data:=.fields #[.ref d,.int 0 0,.int es.size 0,.int ep 0]} }):wpAny (model prog w) A (pyIter (.ref d)) Q E s:=by
 obtain⟨o,h1,h2,h3⟩:=r.ex;refine wpAny_pyIter_slot r.ty F.slot_dict_iter (wpAny_call_entry F.slot_dict_iter r.ty F.entry_dict_iter ?_ (F.args_dict_iter_1 _));unfold Builtin.«dict.__iter__» Builtin.Dict.dictSlotNone;refine wpAny_bind (wpAny_bind (wpAny_notOrdered_dict r.ty (?_:wpAny _ _ (pure (Value.ref d)) _ _ s)));refine wpAny_pure ?_;show wpAny _ _ (Builtin.Dict.showsAll d>>=_) _ _ s;unfold Builtin.Dict.showsAll;rw[if_neg (by rw[hd];exact Bool.false_ne_true)];refine wpAny_bind (wpAny_pure (wpAny_bind (wpAny_dictEntries h1 h3 (wpAny_bind (wpAny_dictEpoch h1 h3 (wpAny_bind (wpAny_newObj_type (wpAny_pure ⟨_,rfl,"dict_keyiterator",_,⟨_,Heap.get?_push_size _ rfl,rfl⟩,F.slot_dict_keyiterator_next.lookup,?_⟩))))))));simpa[rawInt] using hQ
theorem t9 {Q:Option Value->Shared->Prop}(cW:s.heap.IsKeyIter it d i es.size ep)(r:Raw s.heap d es ep)(hi:i<es.size)
 (hQ:∀h',h'.IsKeyIter it d (i+1) es.size ep->Heap.SameBut it s.heap h'->Q (some es[i].key) {s with heap:=h'}):wpAny (model prog w) A (pyNext (.ref it)) Q E s:=by
 obtain⟨oi,g1,g2,g3⟩:=id cW;obtain⟨o,h1,h2,h3⟩:=r.ex;have hT:=cW.typeIs;unfold pyNext;refine wpAny_bind (wpAny_attempt (wpAny_callSpecial?_slot (name:=Str.ofString "__next__") hT F.slot_dict_keyiterator_next (wpAny_call_entry F.slot_dict_keyiterator_next hT F.entry_dict_keyiterator_next ?_ (F.args_dict_keyiterator_next_1 _))));refine wpAny_bind (wpAny_pure (wpAny_bind (wpAny_bind ?_)))
 first|refine wpAny_bind (wpAny_typeNameOfWhole_keyiter hT (wpAny_pure (wpAny_bind (wpAny_fieldsOf g1 g3 ?_))))|refine wpAny_bind (wpAny_typeNameOf_keyiter hT (wpAny_pure (wpAny_bind (wpAny_fieldsOf g1 g3 ?_))))
 simp only[show Builtin.Dict_items.ownsTuple "dict_keyiterator"=false from by decide,Bool.false_eq_true,if_false];show wpAny _ _ (if(Value.ref d==Value.none)=true then _ else _) _ _ _;rw[if_neg (show ¬((Value.ref d==Value.none)=true) from Bool.false_ne_true)];refine wpAny_bind (wpAny_pure (wpAny_bind (wpAny_dictEntries h1 h3 ?_)));rw[if_neg (by simp)];refine wpAny_bind (wpAny_pure (wpAny_bind (wpAny_dictEpoch h1 h3 ?_)));rw[if_neg (by simp)];refine wpAny_pure ?_;simp only[show ¬((i:Int)<0) from by omega,if_false,Int.toNat_natCast,Array.getElem?_eq_getElem hi];refine wpAny_bind ?_
 first|refine wpAny_bind (wpAny_typeNameOfWhole_keyiter hT (wpAny_pure (wpAny_bind (wpAny_isOneOf_keyiter hT ?_))))|refine wpAny_bind (wpAny_typeNameOf_keyiter hT (wpAny_pure (wpAny_bind (wpAny_isOneOf_keyiter hT ?_))))
 show wpAny _ _ (setField (.ref it) 1 (rawInt ((i:Int)+1))>>=_) _ _ s;refine wpAny_bind (wpAny_setField g1 g3 (by simp) ?_);have q1:(s.heap.update it (Obj.mapFields (·.setIfInBounds 1 (rawInt ((i:Int)+1))))).IsKeyIter it d (i+1) es.size ep:=⟨_,Heap.get?_update_self _ g1 (Obj.isFreed_of_fields (Obj.data_mapFields g3 _)),(Obj.cls_mapFields ..).trans g2,by rw[Obj.data_mapFields g3];simp[rawInt]⟩;refine wpAny_bind (wpAny_holding (wpAny_bind (wpAny_isOneOf_keyiter (s:={s with heap:=s.heap.update it (Obj.mapFields (·.setIfInBounds 1 (rawInt ((i:Int)+1))))}) q1.typeIs (?_:wpAny _ _ (pure es[i].key) _ _ _))));exact wpAny_pure (wpAny_pure ⟨_,rfl,wpAny_pure (hQ _ q1 (Heap.SameBut.update ..))⟩)
theorem vK {Q:Option Value->Shared->Prop}(hh:A.handled=none)(cW:s.heap.IsKeyIter it d i es.size ep)(r:Raw s.heap d es ep)(hi:es.size<=i)
 (hQ:∀h',Heap.ExtBut it s.heap h'->Q none {s with heap:=h'}):wpAny (model prog w) A (pyNext (.ref it)) Q E s:=by
 obtain⟨oi,g1,g2,g3⟩:=id cW;obtain⟨o,h1,h2,h3⟩:=r.ex;have hT:=cW.typeIs;unfold pyNext;refine wpAny_bind (wpAny_attempt (wpAny_callSpecial?_slot (name:=Str.ofString "__next__") hT F.slot_dict_keyiterator_next (wpAny_call_entry F.slot_dict_keyiterator_next hT F.entry_dict_keyiterator_next ?_ (F.args_dict_keyiterator_next_1 _))));refine wpAny_bind (wpAny_pure (wpAny_bind (wpAny_bind ?_)))
 first|refine wpAny_bind (wpAny_typeNameOfWhole_keyiter hT (wpAny_pure (wpAny_bind (wpAny_fieldsOf g1 g3 ?_))))|refine wpAny_bind (wpAny_typeNameOf_keyiter hT (wpAny_pure (wpAny_bind (wpAny_fieldsOf g1 g3 ?_))))
 simp only[show Builtin.Dict_items.ownsTuple "dict_keyiterator"=false from by decide,Bool.false_eq_true,if_false];show wpAny _ _ (if(Value.ref d==Value.none)=true then _ else _) _ _ _;rw[if_neg (show ¬((Value.ref d==Value.none)=true) from Bool.false_ne_true)];refine wpAny_bind (wpAny_pure (wpAny_bind (wpAny_dictEntries h1 h3 ?_)));rw[if_neg (by simp)];refine wpAny_bind (wpAny_pure (wpAny_bind (wpAny_dictEpoch h1 h3 ?_)));rw[if_neg (by simp)];refine wpAny_pure ?_;simp only[show ¬((i:Int)<0) from by omega,if_false,Int.toNat_natCast,Array.getElem?_eq_none hi];refine wpAny_bind ?_
 first|refine wpAny_bind (wpAny_typeNameOfWhole_keyiter hT (wpAny_pure ?_))|refine wpAny_bind (wpAny_typeNameOf_keyiter hT (wpAny_pure ?_))
 show wpAny _ _ (setField (.ref it) 0 .none>>=_) _ _ s;refine wpAny_bind (wpAny_setField g1 g3 (by simp) ?_);show wpAny _ _ (newExc (.type "StopIteration") []>>=_) _ _ _;refine wpAny_bind ?_;simp only[newExc,newTuple];refine wpAny_bind (wpAny_newObj_type (wpAny_bind (m:=firstArgMember _ _) (wpAny_of_eq (a:=Value.none) (by first|rfl|(simp only[firstArgMember];rfl)) (wpAny_newObj_type ?_ (by size_fits)))) (by size_fits));simp only[raiseNew];refine wpAny_bind (wpAny_handled ?_);rw[show A.in1.handled=none from hh];refine wpAny_bind (wpAny_pure (wpAny_throw ?_));refine wpAny_bind (wpAny_isInstance (T:="StopIteration") (b:=true) ⟨_,Heap.get?_push_size _ rfl,rfl⟩ isSubtype_stop ?_);exact wpAny_pure (hQ _ (((Heap.SameBut.update ..).extBut.push _).push _))
end
end Kr
namespace L2
open PySem PySem.Spec PyProof.Rows PySem.W
abbrev og (o:Obj)(GH:List (List Key×V)):HO:=.frz o (.dT GH)
def EV (d:Addr)(o:Obj)(GH:List (List Key×V)):It :=
 ⟨λi H=>i<GH.length/\H d=some (og o GH),λi H x H'=>∃p b k v,GH[i]?=some (k,v)/\H p=none/\H b=some (.tup (k.map kV))/\x=.ref p/\H'=upd H p (.tup [.ref b,v]),λi H=>GH.length<=i/\H d=some (og o GH)⟩
def Fd (d:Addr)(o:Obj)(GH:List (List Key×V)):It :=
 ⟨λi H=>i<GH.length/\H d=some (og o GH),λi H x H'=>∃b k v,GH[i]?=some (k,v)/\H b=some (.tup (k.map kV))/\x=.ref b/\H'=H,λi H=>GH.length<=i/\H d=some (og o GH)⟩
theorem kx {α β:Type}{R:α->β->Prop}:∀{l:List α}{m:List β}{i:Nat}{a:α},Paired R l m->l[i]?=some a->∃b,m[i]?=some b/\R a b
 |_,_,_,_,.nil,e=>by simp at e
 |_,_,0,_,.cons r _,e=>by simp at e;subst e;exact⟨_,rfl,r⟩
 |_,_,i+1,a,.cons _ t,e=>by
  obtain⟨b,h1,h2⟩:=kx (i:=i) (a:=a) t (by simpa using e);exact⟨b,by simpa using h1,h2⟩
section
variable {X:Cx}{pins:List (Addr×Obj)}{σ:St}{H:Hp}{s:GB}{d:Addr}{o:Obj}{GH:List (List Key×V)}
theorem iO (I:Inv X pins σ H s)(e:H d=some (og o GH)):∃es ep,o.data=.dict es ep/\Kr.Raw s.heap d es ep/\es.size=GH.length/\(d==sysModules)=false /\
 ∀(i:Nat)(hi:i<es.size) k v,GH[i]?=some (k,v)->∃b,es[i].key=.ref b/\H b=some (.tup (k.map kV))/\aE v es[i].val:=by
 obtain⟨h0,z,y,xs,r,o',es,ep,h1,h2,h3,h4,h5⟩:=(show bt X.prog X.w H s.heap d (og o GH) from I.hok d _ e);rw[h0] at h1
 cases h1
 have hl:es.size=GH.length:=by
  rw[<-Array.length_toList,h4,List.length_map];exact(Paired.length r).symm
 refine⟨es,ep,h3,⟨_,h0,h2,h3⟩,hl,y,λi hi k v hk=>?_⟩;obtain⟨q,hq,e1,e2,e3⟩:=kx r hk
 have z1:es.toList[i]?=some (entryOfKey (tupleKind (bN X.prog X.w)) q):=by rw[h4,List.getElem?_map,hq];rfl
 have z2:es[i]=entryOfKey (tupleKind (bN X.prog X.w)) q:=by
  have z3:es.toList[i]?=some es[i]:=by simp[hi]
  rw[z3] at z1;exact Option.some.inj z1
 rw[z2];exact⟨q.2.1,rfl,e2,e3⟩
theorem Inv.freeze (I:Inv X pins σ H s)(e:H d=some (.dT GH)):∃o,s.heap.get? d=some o/\Inv X pins σ (upd H d (og o GH)) s:=by
 obtain⟨z,y,xs,r,o,es,ep,h1,h2⟩:=(show bt X.prog X.w H s.heap d (.dT GH) from I.hok d _ e);refine⟨o,h1,I.write (t':=s.toks) (h':=s.heap) (x:=d) (e:=d) (o:=og o GH) (by rw[e];exact True.intro) (.inl rfl) (λ_ _ _ q=>q) ⟨o,h1⟩ ⟨h1,z,y,xs,?_,o,es,ep,h1,h2⟩⟩;exact Paired.aat r λp q w=>⟨w.1,by rw[ar (Aw w.2.1 e (by intro z;cases z))];exact w.2.1,w.2.2⟩
end
variable {P:vB}{w:World}{K:Frag}{elts:Bj}{x1:Nat}{tp:Pos}
theorem qg (d it:Addr)(o:Obj)(GH:List (List Key×V))(es:Array DictEntry)(ep:Nat)(ho:o.data=.dict es ep):Turn P w K (.Tuple elts x1 tp) (EV d o GH) [it] it (λi h=>∃ok ov,IsItemIter h it d i es.size ep ok ov) where
 mem:=by simp
 obj:=λi h st b hb=>by
  have e:b=it:=by simpa using hb
  subst e;obtain⟨ok,ov,e⟩:=st;exact⟨_,e,λv z=>by cases z⟩
 keep:=λi h h' st k=>let⟨ok,ov,e⟩:=st;⟨ok,ov,k it (by simp) _ e⟩
 item:=by
  intro X hP hw hK hc i pins s σ H E I hf st hg;subst hP hw hK;obtain⟨GR,hd⟩:=hg;obtain⟨ok,ov,cW⟩:=st;obtain⟨es',Ki,Hr,raw,hl,hm,NP⟩:=iO I hd;rw[ho] at Hr
  cases Hr
  obtain⟨f0,f1,f2,f3,f4,f5⟩:=hf it (by simp)
  have hi:i<es.size:=by omega
  refine Kr.qK cW raw hi λh' q1 q2 q3 q4=>?_;obtain⟨⟨k,v⟩,hk⟩:∃kv,GH[i]?=some kv:=⟨GH[i],by simp[GR]⟩;obtain⟨b,eb,hb,rv⟩:=NP i hi k v hk;refine⟨_,rfl,wpAny_letOwnedTupleGo_items (s:={s with heap:=h'}) q1 λh2 q5 q6=>?_⟩;have KI:s.heap.objs.size≠it:=Nat.ne_of_gt (Heap.lt_size cW);have I1:Inv X pins σ H {s with heap:=h2}:=I.turned (t':=s.toks) (λb o hb e=>(q6.2 b hb).trans (q4 b o hb e)) f0 f1 f3 f4 f5;have tup:h2.get? s.heap.objs.size=some {cls:=.type "tuple",data:=.seq #[es[i].key,es[i].val]}:=(q6.2 _ KI).trans q2;have fr:H s.heap.objs.size=none:=I.hok.fresh (Nat.le_refl _)
  have I2:Inv X pins σ (upd H s.heap.objs.size (.tup [.ref b,v])) {s with heap:=h2}:=by
   refine⟨I1.ok,I1.os,I1.bare,?_,I1.loc,I1.cell,?_,λx c e=>?_,λp hp=>?_,dQ I1.hok fr ⟨by show 2<=sizeLine;decide,[.ref b,es[i].val],.cons rfl (.cons rv .nil),?_⟩,I1.len⟩
   ·have u:=I1.base;refine⟨u.keep,u.slot,λb' o' e n hx=>?_,u.there,λb' xs e=>?_,λb' o' u' e=>?_,λb' ps e=>?_⟩
    ·have ne:b'≠s.heap.objs.size:=Nat.ne_of_lt (Nat.lt_of_lt_of_le (Heap.lt_size e) I.sz);rw[ar ne];exact u.free b' o' e n hx
    ·rw[ar (au (u.aao b' xs e) fr)];exact u.aao b' xs e
    ·rw[ar (au (u.aal b' o' u' e) fr)];exact u.aal b' o' u' e
    ·obtain⟨m,q⟩:=u.aau b' ps e;exact⟨m,by rw[ar (au q fr)];exact q⟩
   ·rw[ar (Nat.ne_of_lt I.lt)];exact I1.free
   ·obtain⟨v',q⟩:=I.cell x c e;rw[ar (Nat.ne_of_lt q.lt)];exact I1.aam x c e
   ·obtain⟨e,n,r⟩:=I1.pin p hp;have lt:p.1<s.heap.objs.size:=Heap.lt_size (I.pin p hp).1;exact⟨e,by rw[ar (Nat.ne_of_lt lt)];exact n,r⟩
   ·exact⟨_,tup,rfl,0,by rw[<-eb]⟩
  refine⟨.ref s.heap.objs.size,_,I2,rfl,⟨s.heap.objs.size,b,k,v,hk,fr,hb,rfl,rfl⟩,⟨_,_,q5⟩,λb' Hj=>?_⟩
  have e:b'=it:=by simpa using Hj
  subst e;rw[ar (Ne.symm KI)];exact f0
 done:=by
  intro X hP hw hK hc i pins s σ H E I hf st hg;subst hP hw hK;obtain⟨GR,hd⟩:=hg;obtain⟨ok,ov,cW⟩:=st;obtain⟨es',Ki,Hr,raw,hl,hm,NP⟩:=iO I hd;rw[ho] at Hr
  cases Hr
  obtain⟨f0,f1,f2,f3,f4,f5⟩:=hf it (by simp);exact Kr.uJ (I.ok.hd hc) cW raw (by omega) λh' eb=>⟨rfl,I.turned (t':=s.toks) (λb o hb e=>eb b o hb e) f0 f1 f3 f4 f5⟩
 self:=λA i s Q E st h=>by
  obtain⟨ok,ov,cW⟩:=st;exact kcp_self cW h
theorem uB {tg:Expr}(d it:Addr)(o:Obj)(GH:List (List Key×V))(es:Array DictEntry)(ep:Nat)(ho:o.data=.dict es ep):Turn P w K tg (Fd d o GH) [it] it (λi h=>h.IsKeyIter it d i es.size ep) where
 mem:=by simp
 obj:=λi h st b hb=>by
  have e:b=it:=by simpa using hb
  subst e;obtain⟨o,e,c,d⟩:=st;exact⟨o,e,λv z=>by rw[d] at z;cases z⟩
 keep:=λi h h' st k=>st.at λo e=>k it (by simp) o e
 item:=by
  intro X hP hw hK hc i pins s σ H E I hf st hg;subst hP hw hK;obtain⟨GR,hd⟩:=hg;obtain⟨es',Ki,Hr,raw,hl,hm,NP⟩:=iO I hd;rw[ho] at Hr
  cases Hr
  obtain⟨f0,f1,f2,f3,f4,f5⟩:=hf it (by simp)
  have hi:i<es.size:=by omega
  refine Kr.t9 st raw hi λh' q1 q2=>?_;obtain⟨⟨k,v⟩,hk⟩:∃kv,GH[i]?=some kv:=⟨GH[i],by simp[GR]⟩;obtain⟨b,eb,hb,rv⟩:=NP i hi k v hk;have I1:Inv X pins σ H {s with heap:=h'}:=I.turned (t':=s.toks) (λb o hb e=>(q2.2 b hb).trans e) f0 f1 f3 f4 f5;obtain⟨oi,e,c,dd⟩:=id q1;exact⟨_,rfl,sM (s:={s with heap:=h'}) e c dd (by decide) ⟨.ref b,H,I1,eb,⟨b,k,v,hk,hb,rfl,rfl⟩,q1,λb hb=>(hf b hb).1⟩⟩
 done:=by
  intro X hP hw hK hc i pins s σ H E I hf st hg;subst hP hw hK;obtain⟨GR,hd⟩:=hg;obtain⟨es',Ki,Hr,raw,hl,hm,NP⟩:=iO I hd;rw[ho] at Hr
  cases Hr
  obtain⟨f0,f1,f2,f3,f4,f5⟩:=hf it (by simp);exact Kr.vK (I.ok.hd hc) st raw (by omega) λh' eb=>⟨rfl,I.turned (t':=s.toks) (λb o hb e=>eb b o hb e) f0 f1 f3 f4 f5⟩
 self:=λ_ _ _ _ _ st h=>wpAny_pyIter_keyiter st h
def Ff (H1:Hp)(d:Addr)(GH:List (List Key×V))(R:Obj->Hp->Prop):Prop:=(∃o,H1 d=some (og o GH)/\R o H1)\/(H1 d=some (.dT GH)/\∀o,R o (upd H1 d (og o GH)))
def B8 (td:TE):TI:=λσ H R=>td σ H λx H1=>∃d GH,x=.ref d/\Ff H1 d GH λo H2=>R (EV d o GH) H2
def DP (td:TE):TI:=λσ H R=>td σ H λx H1=>∃d GH,x=.ref d/\Ff H1 d GH λo H2=>R (Fd d o GH) H2
section
variable {X:Cx}{pins:List (Addr×Obj)}{σ:St}{H:Hp}{s:GB}
theorem wB {d:Addr}{GH:List (List Key×V)}{R:Obj->Hp->Prop}(I:Inv X pins σ H s)(h:Ff H d GH R):∃o H2,Inv X pins σ H2 s/\H2 d=some (og o GH)/\R o H2:=by
 rcases h with⟨o,e,r⟩|⟨e,r⟩
 ·exact⟨o,H,I,e,r⟩
 ·obtain⟨o,_,I2⟩:=I.freeze e;exact⟨o,_,I2,ae,r o⟩
theorem wQ {oe:Expr}{td:TE}{apos GY:Pos}(ho:PE X oe td)(HX:attributeBase oe "items" X.env (eval oe X.env)=eval oe X.env:=by rfl)(HY:(apos.endLine==GY.line)=true:=by rfl):
 PI X (.Tuple elts x1 tp) (.Call (.Attribute oe "items" apos) [] [] GY) (B8 td):=by
 intro pins s σ H R I h;refine wpAny_Call_method0_late HX HY (bA (ho pins s σ H _ I h) λv s1 z'=>?_);obtain⟨x,H1,I1,r1,d,GH,ex,fz⟩:=z';subst ex
 cases(show v=Value.ref d from r1)
 obtain⟨o,H2,I2,hd,rr⟩:=wB I1 fz;obtain⟨es,ep,Sq,raw,hl,hm,_⟩:=iO I2 hd;refine⟨"dict","dict.items",PySem.F.plainAttrs_dict,PySem.F.slot_dict_items,PySem.F.type_dict_items,raw.ty,λa e=>?_,Calls.callWith_builtin rfl (PySem.evalArgs_none (Kr.qP raw hm ?_))⟩
 ·cases e
  obtain⟨o',h1,h2,_⟩:=raw.ex;exact⟨o',h1,h2.2.1⟩
 ·have I3:Inv X pins σ H2 {s1 with heap:=s1.heap.push {cls:=.type "dict_items",data:=.fields #[.ref d]} }:=I2.kept (t':=s1.toks) λb ob q=>Heap.get?_push_of_some _ q;refine Kr.rC (s:={s1 with heap:=s1.heap.push {cls:=.type "dict_items",data:=.fields #[.ref d]} }) ⟨_,Heap.get?_push_size _ rfl,rfl,rfl⟩ (raw.keep λo e=>Heap.get?_push_of_some _ e) ?_;generalize s1.heap.push {cls:=.type "dict_items",data:=.fields #[.ref d]}=h2 at I3 |-;refine⟨h2.objs.size,[h2.objs.size],_,EV d o GH,H2,rfl,I3.kept (t':=s1.toks) λb ob q=>Heap.get?_push_of_some _ q,qg d _ o GH es ep Sq,⟨_,_,Heap.get?_push_size _ rfl⟩,λb hb=>?_,rr⟩
  have e:b=h2.objs.size:=by simpa using hb
  subst e;exact I3.aaJ (Nat.le_refl _) (I3.hok.fresh (Nat.le_refl _))
theorem zX {tg oe:Expr}{td:TE}(ho:PE X oe td):PI X tg oe (DP td):=by
 intro pins s σ H R I h;refine bA (ho pins s σ H _ I h) λv s1 z'=>?_;obtain⟨x,H1,I1,r1,d,GH,ex,fz⟩:=z';subst ex
 cases(show v=Value.ref d from r1)
 obtain⟨o,H2,I2,hd,rr⟩:=wB I1 fz;obtain⟨es,ep,Sq,raw,hl,hm,_⟩:=iO I2 hd;refine Kr.uE raw hm ⟨s1.heap.objs.size,[s1.heap.objs.size],_,Fd d o GH,H2,rfl,I2.kept (t':=s1.toks) λb ob q=>Heap.get?_push_of_some _ q,uB d _ o GH es ep Sq,⟨_,Heap.get?_push_size _ rfl,rfl,rfl⟩,λb hb=>?_,rr⟩
 have e:b=s1.heap.objs.size:=by simpa using hb
 subst e;exact I2.aaJ (Nat.le_refl _) (I2.hok.fresh (Nat.le_refl _))
theorem Inv.abr {s2:GB}{T:Addr}{xs:List V}{its:nv}(I:Inv X pins σ H s)(I1:Inv X pins σ H s2)(hT:s.heap.objs.size<=T)(e:s2.heap.get? T=some {cls:=.type "tuple",data:=.seq its.toArray})(r:aL xs its)(hz:xs.length<=sizeLine):
 Inv X pins σ (upd H T (.tup xs)) s2:=by
 have fr:H T=none:=I.hok.fresh hT;refine⟨I1.ok,I1.os,I1.bare,?_,I1.loc,I1.cell,?_,λx c e=>?_,λp hp=>?_,dQ I1.hok fr ⟨hz,its,r,⟨_,e,rfl,0,rfl⟩⟩,I1.len⟩
 ·have u:=I1.base;refine⟨u.keep,u.slot,λb' o' e n hx=>?_,u.there,λb' xs e=>?_,λb' o' u' e=>?_,λb' ps e=>?_⟩
  ·have ne:b'≠T:=Nat.ne_of_lt (Nat.lt_of_lt_of_le (Heap.lt_size e) (Nat.le_trans I.sz hT));rw[ar ne];exact u.free b' o' e n hx
  ·rw[ar (au (u.aao b' xs e) fr)];exact u.aao b' xs e
  ·rw[ar (au (u.aal b' o' u' e) fr)];exact u.aal b' o' u' e
  ·obtain⟨m,q⟩:=u.aau b' ps e;exact⟨m,by rw[ar (au q fr)];exact q⟩
 ·rw[ar (Nat.ne_of_lt (Nat.lt_of_lt_of_le I.lt hT))];exact I1.free
 ·obtain⟨v',q⟩:=I.cell x c e;rw[ar (Nat.ne_of_lt (Nat.lt_of_lt_of_le q.lt hT))];exact I1.aam x c e
 ·obtain⟨e,n,r⟩:=I1.pin p hp;have lt:p.1<s.heap.objs.size:=Heap.lt_size (I.pin p hp).1;exact⟨e,by rw[ar (Nat.ne_of_lt (Nat.lt_of_lt_of_le lt hT))];exact n,r⟩
theorem Inv.aaH {h':Heap}{t':Nat}{ch:List Addr}(I:Inv X pins σ H s)(k:∀b o,b∉ch->s.heap.get? b=some o->h'.get? b=some o)(hf:∀b∈ch,cg X pins H b):Inv X pins σ H {s with heap:=h',toks:=t'}:=by
 have KI:∀b u,H b=some u->b∉ch:=λb u e z=>by rw[(hf b z).1] at e;cases e
 refine I.step (g':=s.gens) (d':=s.drawn) (ch:=ch) (λb hb=>?_) (λb o _ _ hc e _=>k b o hc e) (λb o _ _ hc e _=>⟨o.slots,k b o hc e⟩) (λ_ _ _ _ n=>n)
  (λb o hc e=>⟨o,k b o hc e⟩) (λ_ _ e=>e) (λ_ _ _ e=>e) (λb ps e=>⟨#[],by rw[e];simp⟩) (λm hm=>?_) (λb u e=>?_) I.bare
 ·obtain⟨f0,f1,f2,f3,f4,f5⟩:=hf b hb;exact⟨f3,f1,f4,f5⟩
 ·obtain⟨o,es,ep,ho,r⟩:=hm;exact⟨o,es,ep,k _ o (λz=>(hf _ z).2.1 rfl) ho,r⟩
 ·refine(I.hok b u e).aa1 (λc v hc q=>k c v ?_ q) (λ_ q=>q) λ_ _ q=>q
  rcases hc with z|z
  ·rw[z];exact KI b u e
  ·exact KI c _ z
end
def EE (K:Frag)(a:Addr):It :=
 ⟨λi H=>∃xs x,aN K H a xs/\xs[i]?=some x,λi H x H'=>∃T y,(∀xs,aN K H a xs->xs[i]?=some y)/\H T=none/\x=.ref T/\H'=upd H T (.tup [.int i,y]),λi H=>∃xs,aN K H a xs/\xs.length<=i⟩
theorem uG (a e it:Addr)(HQ:e≠it):Turn P w K (.Tuple elts x1 tp) (EE K a) [e,it] e (λi h=>∃old,IsEnum h e it i old/\h.IsListIter it a i) where
 mem:=by simp
 obj:=λi h st b hb=>by
  obtain⟨old,h1,o,h2,_,h3⟩:=st
  rcases(by simpa using hb:b=e\/b=it) with z|z
  ·subst z;exact⟨_,h1,λv z=>by cases z⟩
  ·subst z;exact⟨o,h2,λv z=>by rw[h3] at z;cases z⟩
 keep:=λi h h' st k=>let⟨old,h1,h2⟩:=st;⟨old,k e (by simp) _ h1,h2.at λo q=>k it (by simp) o q⟩
 item:=by
  intro X hP hw hK hc i pins s σ H E I hf st hg;subst hP hw hK;obtain⟨xs,x,hq,hx⟩:=hg;obtain⟨its,rv,p,hz⟩:=I.list hq;obtain⟨u,hu,ru⟩:=rv.get hx;obtain⟨old,he,cW⟩:=st;refine wpAny_pyNext_enum_item he cW p.isList (x:=u) (by simpa using hu) HQ λh' q1 q2 q3 q4 q5=>?_;refine⟨_,rfl,wpAny_letOwnedTupleGo_enum (s:={s with heap:=h',toks:=s.toks+1}) q1 λh2 q6 q7=>?_⟩;have Wu:s.heap.objs.size≠e:=Nat.ne_of_gt (Heap.lt_size he)
  have I1:Inv X pins σ H {s with heap:=h2,toks:=s.toks+1}:=I.aaH (t':=s.toks+1) (ch:=[e,it]) (λb o hb z=>by
   have Hj:b≠e/\b≠it:=by simpa using hb
   exact(q7.2 b Hj.1).trans (q5 b o Hj.1 Hj.2 z)) hf
  have tup:h2.get? s.heap.objs.size=some {cls:=.type "tuple",data:=.seq #[.int i s.toks,u]}:=(q7.2 _ Wu).trans q3;have fr:H s.heap.objs.size=none:=I.hok.fresh (Nat.le_refl _);have I2:=I.abr (xs:=[.int i,x]) (its:=[.int i s.toks,u]) I1 (Nat.le_refl _) tup (.cons ⟨_,rfl⟩ (.cons ru .nil)) gc;refine⟨.ref s.heap.objs.size,_,I2,rfl,⟨s.heap.objs.size,x,λys hy=>by rw[I.aav hy hq];exact hx,fr,rfl,rfl⟩,⟨u,q6,q2.at λo q=>(q7.2 _ (Ne.symm HQ)).trans q⟩,λb hb=>?_⟩
  have nb:b≠s.heap.objs.size:=by
   rcases(by simpa using hb:b=e\/b=it) with z|z
   ·subst z;exact Ne.symm Wu
   ·subst z;obtain⟨o,q,_⟩:=cW;exact Nat.ne_of_lt (Heap.lt_size q)
  rw[ar nb];exact(hf b hb).1
 done:=by
  intro X hP hw hK hc i pins s σ H E I hf st hg;subst hP hw hK;obtain⟨xs,hq,hx⟩:=hg;obtain⟨its,rv,p,hz⟩:=I.list hq;have hl:=rv.length;obtain⟨old,he,cW⟩:=st;obtain⟨f0,f1,f2,f3,f4,f5⟩:=hf it (by simp);exact wpAny_pyNext_enum_end (I.ok.hd hc) he cW p.isList (by simp;omega) λh' eb=>⟨rfl,I.turned (t':=s.toks) (λb o hb e=>eb b o hb e) f0 f1 f3 f4 f5⟩
 self:=λ_ _ _ _ _ st h=>let⟨old,h1,_⟩:=st;wpAny_pyIter_enum h1 h
def AG (K:Frag)(tl:TE):TI:=λσ H R=>dm tl Br σ H λvs H1=>∃a xs,vs=[.ref a]/\aN K H1 a xs/\R (EE K a) H1
theorem jD {X:Cx}{l:Expr}{tl:TE}{p pos:Pos}(hl:PE X l tl)(hg:Gl X "enumerate")(hm:X.mg "enumerate"=none)(hs:dB l=false:=by rfl):
 PI X (.Tuple elts x1 tp) (.Call (.Name "enumerate" p) [l] [] pos) (AG X.K tl):=by
 intro pins s σ H R I h;refine wpAny_Call_Name_kw (cT I hg hm (by rfl) ?_ (by decide) (by decide));refine PyProof.Rows.callWith_type1 (bA (ak hl af hs pos pins s σ H _ I h) λus s1 z'=>?_) (aK hs) rfl;obtain⟨vs,H1,I1,r1,a,xs,hv,hq,rr⟩:=z';subst hv;obtain⟨u,rfl,ru⟩:=eK r1
 cases(show u=Value.ref a from ru)
 obtain⟨its,rv,pl,hz⟩:=I1.list hq;refine call_enumerate_list pl.isList λh' q1 q2 q3 q4=>?_;have I2:Inv X pins σ H1 {s1 with heap:=h'}:=I1.kept (t':=s1.toks) q4;refine wpAny_pyIter_enum (s:={s1 with heap:=h'}) q1 ?_;refine⟨s1.heap.objs.size+1,[s1.heap.objs.size+1,s1.heap.objs.size],_,EE X.K a,H1,rfl,I2,uG a _ _ (Nat.succ_ne_self _),⟨_,q1,q2⟩,λb hb=>?_,rr⟩
 have Hj:s1.heap.objs.size<=b:=by
  rcases(by simpa using hb:b=s1.heap.objs.size+1\/b=s1.heap.objs.size) with z|z
  ·rw[z];exact Nat.le_succ _
  ·rw[z];exact Nat.le_refl _
 exact I1.aaJ Hj (I1.hok.fresh Hj)
end L2
namespace Zp
open PySem PyProof.Rows
section
variable {prog:vB}{w:World}{A:Around}{E:pL}{s:GB}
theorem j5 {it t:Addr}{i:Nat}{items:t6}{x:Value}{Q:pL}(cW:s.heap.IsTupleIter it t i)(ht:s.heap.IsTuple t items)(hx:items[i]?=some x)
 (hQ:∀h',h'.IsTupleIter it t (i+1)->Heap.SameBut it s.heap h'->Q x {s with heap:=h'}):wpAny (model prog w) A (Builtin.SmallTypes.nextOf (.ref it)) Q E s:=by
 obtain⟨o,ho,hc,hd⟩:=id cW;obtain⟨ol,NQ,_,nl,Sr⟩:=ht;unfold Builtin.SmallTypes.nextOf;refine wpAny_bind (wpAny_callSpecial?_slot (name:=Str.ofString "__next__") cW.typeIs F.slot_tuple_iterator_next (wpAny_call_entry F.slot_tuple_iterator_next cW.typeIs F.entry_tuple_iterator_next ?_ (F.args_tuple_iterator_next_1 _)));show wpAny _ _ (field (.ref it) 0>>=_) _ _ s;refine wpAny_bind (wpAny_field ho hd (x:=.ref t) rfl ?_);show wpAny _ _ (if(Value.ref t==Value.none)=true then _ else _) _ _ s;rw[if_neg (show ¬((Value.ref t==Value.none)=true) from Bool.false_ne_true)];show wpAny _ _ (field (.ref it) 1>>=_) _ _ s;refine wpAny_bind (wpAny_field ho hd (x:=.int i 0) rfl ?_);show wpAny _ _ (seqItems? (.ref t)>>=_) _ _ s;refine wpAny_bind (wpAny_seqItems NQ Sr ?_);simp only[Int.toNat_natCast,hx];refine wpAny_bind (wpAny_setField ho hd (by simp) (wpAny_pure ⟨x,rfl,wpAny_pure (hQ _ ?_ (Heap.SameBut.update ..))⟩));exact⟨_,Heap.get?_update_self _ ho (Obj.isFreed_of_fields (Obj.data_mapFields hd _)),(Obj.cls_mapFields ..).trans hc,by rw[Obj.data_mapFields hd];simp[rawInt]⟩
theorem rY {it t:Addr}{i:Nat}{items:t6}{Q:pL}(hh:A.handled=none)(cW:s.heap.IsTupleIter it t i)(ht:s.heap.IsTuple t items)(hx:items[i]?=none)
 (hE:∀h' e,Heap.ExtBut it s.heap h'->(∃o,h'.get? e=some o/\o.cls=.type "StopIteration")->E (.ref e) {s with heap:=h'}):wpAny (model prog w) A (Builtin.SmallTypes.nextOf (.ref it)) Q E s:=by
 obtain⟨o,ho,hc,hd⟩:=id cW;obtain⟨ol,NQ,_,nl,Sr⟩:=ht;unfold Builtin.SmallTypes.nextOf;refine wpAny_bind (wpAny_callSpecial?_slot (name:=Str.ofString "__next__") cW.typeIs F.slot_tuple_iterator_next (wpAny_call_entry F.slot_tuple_iterator_next cW.typeIs F.entry_tuple_iterator_next ?_ (F.args_tuple_iterator_next_1 _)));show wpAny _ _ (field (.ref it) 0>>=_) _ _ s;refine wpAny_bind (wpAny_field ho hd (x:=.ref t) rfl ?_);show wpAny _ _ (if(Value.ref t==Value.none)=true then _ else _) _ _ s;rw[if_neg (show ¬((Value.ref t==Value.none)=true) from Bool.false_ne_true)];show wpAny _ _ (field (.ref it) 1>>=_) _ _ s;refine wpAny_bind (wpAny_field ho hd (x:=.int i 0) rfl ?_);show wpAny _ _ (seqItems? (.ref t)>>=_) _ _ s;refine wpAny_bind (wpAny_seqItems NQ Sr ?_);simp only[Int.toNat_natCast,hx];refine wpAny_bind (wpAny_rule (wpAny_bind (wpAny_setField ho hd (by simp) ?_)));show wpAny _ _ (newExc (.type "StopIteration") []>>=_) _ _ _;refine wpAny_bind ?_;simp only[newExc,newTuple];refine wpAny_bind (wpAny_newObj_type ?_ (by size_fits));refine wpAny_bind (m:=firstArgMember _ _) (wpAny_of_eq (a:=Value.none) (by first|rfl|(simp only[firstArgMember];rfl)) ?_);refine wpAny_newObj_type ?_ (by size_fits);simp only[raiseNew];refine wpAny_bind (wpAny_handled ?_)
 first|rw[show A.in1.handled=none from hh]|rw[hh]
 refine wpAny_bind (wpAny_pure (wpAny_throw ?_));exact hE _ _ (((Heap.SameBut.update ..).extBut.push _).push _) ⟨_,Heap.get?_push_size _ rfl,rfl⟩
end
structure Apart (z TI TO i1 i2 l1 l2:Addr):Prop where
 TIz:TI≠z
 TOz:TO≠z
 i1z:i1≠z
 i2z:i2≠z
 TITO:TI≠TO
 TIi1:TI≠i1
 TIi2:TI≠i2
 TOi1:TO≠i1
 TOi2:TO≠i2
 i12:i1≠i2
 l1n:l1 ∉ [z,TO,i1,i2]
 l2n:l2 ∉ [z,TO,i1,i2]
structure Zs (h:Heap)(z TI TO i1 i2 l1 l2:Addr)(k:Nat):Prop where
 hz:IsZip h z TI TO .none
 hTI:IsPair h TI (.ref i1) (.ref i2)
 Ks:∃a b,IsPair h TO a b
 h1:h.IsTupleIter i1 l1 k
 h2:h.IsTupleIter i2 l2 k
theorem de {h h':Heap}{i l:Addr}{k:Nat}(x:h.IsTupleIter i l k)(q:∀o,h.get? i=some o->h'.get? i=some o):h'.IsTupleIter i l k:=let⟨o,a,b⟩:=x;⟨o,q o a,b⟩
section
variable {prog:vB}{w:World}{A:Around}{E:pL}{s:GB}{z TI TO i1 i2 l1 l2:Addr}{k:Nat}{xs ys:t6}{x y:Value}
theorem item {Q:pL}(D:Apart z TI TO i1 i2 l1 l2)(Z:Zs s.heap z TI TO i1 i2 l1 l2 k)(Hn:s.heap.IsTuple l1 xs)(Hy:s.heap.IsTuple l2 ys)(hx:xs[k]?=some x)(hy:ys[k]?=some y)
 (hQ:∀h',IsZip h' z TI TO (rawInt s.heap.objs.size)->(∃a b,IsPair h' TO a b)->h'.IsTupleIter i1 l1 (k+1)->h'.IsTupleIter i2 l2 (k+1)->IsPair h' s.heap.objs.size x y →
  (∀c o,c ∉ [z,TO,i1,i2]->s.heap.get? c=some o->h'.get? c=some o)->Q (.ref s.heap.objs.size) {s with heap:=h'}):
 wpAny (model prog w) A (Builtin.«zip.__next__» ⟨[.ref z],[]⟩) (λfin s'=>∃v,fin=.done (.ret v)/\Q v s') E s:=by
 obtain⟨hz,hTI,⟨a,b,Ks⟩,h1,h2⟩:=Z
 have n1:l1≠z/\l1≠TO/\l1≠i1/\l1≠i2:=by simpa using D.l1n
 have n2:l2≠z/\l2≠TO/\l2≠i1/\l2≠i2:=by simpa using D.l2n
 show wpAny _ _ (field (.ref z) 2>>=_) _ _ _;refine wpAny_bind (wpAny_field hz rfl (x:=.bool false) rfl ?_);show wpAny _ _ (field (.ref z) 3>>=_) _ _ _;refine wpAny_bind (wpAny_field hz rfl (x:=.ref TI) rfl ?_);refine wpAny_bind (wpAny_seqItems hTI rfl ?_);show wpAny _ _ (Builtin.SmallTypes.ownedTupleIsFree (.ref z)>>=_) _ _ _;refine wpAny_bind ?_;unfold Builtin.SmallTypes.ownedTupleIsFree;refine wpAny_bind (wpAny_field hz rfl (x:=.none) rfl (wpAny_pure ?_));simp only[if_true];refine wpAny_bind (wpAny_rule ?_);refine wpAny_bind (wpAny_field hz rfl (x:=.ref TO) rfl ?_);refine wpAny_bind (wpAny_setField_rec hz (by simp) λg1 KY s1=>?_)
 replace KY:IsZip g1 z TI TO .ellipsis:=KY
 refine wpAny_bind ?_;simp only[List.zipIdx_cons,List.zipIdx_nil,List.forIn_cons,List.forIn_nil];refine wpAny_bind (wpAny_bind (wpAny_onRaise ?_));show wpAny _ _ (Builtin.SmallTypes.nextOf (.ref i1)>>=_) _ _ _;refine wpAny_bind (j5 (h1.extBut s1.extBut D.i1z) (Hn.extBut s1.extBut n1.1) hx λg2 a2 s2=>wpAny_pure ?_);have t2:IsPair g2 TO a b:=s2.extBut _ _ D.TOi1 (s1.extBut _ _ D.TOz Ks);refine wpAny_bind (wpAny_seqItems t2 rfl ?_);refine wpAny_bind (wpAny_updateSeq_pair t2 λg3 t3 s3=>?_)
 replace t3:IsPair g3 TO x b:=t3
 refine wpAny_bind (wpAny_letGo (wpAny_pure ?_));refine wpAny_bind (wpAny_bind (wpAny_onRaise ?_));show wpAny _ _ (Builtin.SmallTypes.nextOf (.ref i2)>>=_) _ _ _;refine wpAny_bind (j5 (((h2.extBut s1.extBut D.i2z).extBut s2.extBut D.i12.symm).extBut s3.extBut D.TOi2.symm) (((Hy.extBut s1.extBut n2.1).extBut s2.extBut n2.2.2.1).extBut s3.extBut n2.2.1) hy λg4 a4 s4=>wpAny_pure ?_);have t4:IsPair g4 TO x b:=s4.extBut _ _ D.TOi2 t3;refine wpAny_bind (wpAny_seqItems t4 rfl ?_);refine wpAny_bind (wpAny_updateSeq_pair t4 λg5 t5 s5=>?_)
 replace t5:IsPair g5 TO x y:=t5
 refine wpAny_bind (wpAny_letGo (wpAny_pure (wpAny_pure ?_)));refine wpAny_bind (wpAny_seqItems t5 rfl ?_);refine wpAny_bind (wpAny_newTuple ?_)
 have sz:g5.objs.size=s.heap.objs.size:=by rw[s5.1,s4.1,s3.1,s2.1,s1.1]
 have z5:IsZip g5 z TI TO .ellipsis:=s5.extBut _ _ D.TOz.symm (s4.extBut _ _ D.i2z.symm (s3.extBut _ _ D.TOz.symm (s2.extBut _ _ D.i1z.symm KY)))
 have k5:∀c o,c ∉ [z,TO,i1,i2]->s.heap.get? c=some o->g5.get? c=some o:=λc o hc e=>by
  have GV:c≠z/\c≠TO/\c≠i1/\c≠i2:=by simpa using hc
  exact s5.extBut _ _ GV.2.1 (s4.extBut _ _ GV.2.2.2 (s3.extBut _ _ GV.2.1 (s2.extBut _ _ GV.2.2.1 (s1.extBut _ _ GV.1 e))))
 have a5:g5.IsTupleIter i1 l1 (k+1):=((a2.extBut s3.extBut D.TOi1.symm).extBut s4.extBut D.i12).extBut s5.extBut D.TOi1.symm;have b5:g5.IsTupleIter i2 l2 (k+1):=a4.extBut s5.extBut D.TOi2.symm;have Wv:z<g5.objs.size:=Heap.lt_size z5;show wpAny _ _ (Builtin.SmallTypes.ownedTupleHandOut (.ref z) (.ref g5.objs.size)>>=_) _ _ _;refine wpAny_bind ?_;unfold Builtin.SmallTypes.ownedTupleHandOut;have z6:IsZip (g5.push {cls:=.type "tuple",data:=.seq #[x,y]}) z TI TO .ellipsis:=Heap.get?_push_of_some _ z5;refine wpAny_bind (wpAny_setField_rec z6 (by simp) λg7 z7 s7=>?_)
 replace z7:IsZip g7 z TI TO (rawInt g5.objs.size):=z7
 refine wpAny_setField_rec z7 (by simp) λg8 z8 s8=>?_
 replace z8:IsZip g8 z TI TO (rawInt g5.objs.size):=z8
 have up:∀c o,c≠z->g5.get? c=some o->g8.get? c=some o:=λc o c1 e=>s8.extBut _ _ c1 (s7.extBut _ _ c1 (Heap.get?_push_of_some _ e));have t8:IsPair g8 g5.objs.size x y:=s8.extBut _ _ (Nat.ne_of_gt Wv) (s7.extBut _ _ (Nat.ne_of_gt Wv) (Heap.get?_push_size _ rfl));rw[sz] at z8 t8;refine wpAny_pure ⟨_,rfl,?_⟩;show Q (.ref g5.objs.size) _;rw[sz];exact hQ g8 z8 ⟨x,y,up _ _ D.TOz t5⟩ (de a5 λo e=>up _ o D.i1z e) (de b5 λo e=>up _ o D.i2z e) t8 λc o hc e=>up c o (λq=>hc (by simp[q])) (k5 c o hc e)
theorem FX {Q:Fin->Shared->Prop}(hh:A.handled=none)(D:Apart z TI TO i1 i2 l1 l2)(Z:Zs s.heap z TI TO i1 i2 l1 l2 k)(Hn:s.heap.IsTuple l1 xs)(Hy:s.heap.IsTuple l2 ys)(Jr:xs[k]?=none\/ys[k]?=none)
 (hE:∀h' e,(∀c o,c ∉ [z,TO,i1,i2]->s.heap.get? c=some o->h'.get? c=some o)->(∃o,h'.get? e=some o/\o.cls=.type "StopIteration")->E (.ref e) {s with heap:=h'}):
 wpAny (model prog w) A (Builtin.«zip.__next__» ⟨[.ref z],[]⟩) Q E s:=by
 obtain⟨hz,hTI,⟨a,b,Ks⟩,h1,h2⟩:=Z
 have n1:l1≠z/\l1≠TO/\l1≠i1/\l1≠i2:=by simpa using D.l1n
 have n2:l2≠z/\l2≠TO/\l2≠i1/\l2≠i2:=by simpa using D.l2n
 show wpAny _ _ (field (.ref z) 2>>=_) _ _ _;refine wpAny_bind (wpAny_field hz rfl (x:=.bool false) rfl ?_);show wpAny _ _ (field (.ref z) 3>>=_) _ _ _;refine wpAny_bind (wpAny_field hz rfl (x:=.ref TI) rfl ?_);refine wpAny_bind (wpAny_seqItems hTI rfl ?_);show wpAny _ _ (Builtin.SmallTypes.ownedTupleIsFree (.ref z)>>=_) _ _ _;refine wpAny_bind ?_;unfold Builtin.SmallTypes.ownedTupleIsFree;refine wpAny_bind (wpAny_field hz rfl (x:=.none) rfl (wpAny_pure ?_));simp only[if_true];refine wpAny_bind (wpAny_rule ?_);refine wpAny_bind (wpAny_field hz rfl (x:=.ref TO) rfl ?_);refine wpAny_bind (wpAny_setField_rec hz (by simp) λg1 KY s1=>?_)
 replace KY:IsZip g1 z TI TO .ellipsis:=KY
 refine wpAny_bind ?_;simp only[List.zipIdx_cons,List.zipIdx_nil,List.forIn_cons,List.forIn_nil];refine wpAny_bind (wpAny_bind (wpAny_onRaise ?_));show wpAny _ _ (Builtin.SmallTypes.nextOf (.ref i1)>>=_) _ _ _
 cases hx:xs[k]? with
 |none =>
  refine wpAny_bind (rY hh (h1.extBut s1.extBut D.i1z) (Hn.extBut s1.extBut n1.1) hx λg2 e s2 he=>?_);obtain⟨oe,LG,NR⟩:=he;have z2:IsZip g2 z TI TO .ellipsis:=s2 _ _ D.i1z.symm KY
  have ez:e≠z:=λq=>by subst q;rw[z2] at LG;cases LG;simp at NR
  refine wpAny_setField_rec z2 (by simp) λg3 _ s3=>hE g3 e (λc o hc q=>?_) ⟨oe,s3.extBut _ _ ez LG,NR⟩
  have GV:c≠z/\c≠TO/\c≠i1/\c≠i2:=by simpa using hc
  exact s3.extBut _ _ GV.1 (s2 _ _ GV.2.2.1 (s1.extBut _ _ GV.1 q))
 |some x =>
  have hy:ys[k]?=none:=by
   rcases Jr with h|h
   ·rw[hx] at h;cases h
   ·exact h
  refine wpAny_bind (j5 (h1.extBut s1.extBut D.i1z) (Hn.extBut s1.extBut n1.1) hx λg2 a2 s2=>wpAny_pure ?_);have t2:IsPair g2 TO a b:=s2.extBut _ _ D.TOi1 (s1.extBut _ _ D.TOz Ks);refine wpAny_bind (wpAny_seqItems t2 rfl ?_);refine wpAny_bind (wpAny_updateSeq_pair t2 λg3 t3 s3=>?_);refine wpAny_bind (wpAny_letGo (wpAny_pure ?_));refine wpAny_bind (wpAny_bind (wpAny_onRaise ?_));show wpAny _ _ (Builtin.SmallTypes.nextOf (.ref i2)>>=_) _ _ _;refine wpAny_bind (rY hh (((h2.extBut s1.extBut D.i2z).extBut s2.extBut D.i12.symm).extBut s3.extBut D.TOi2.symm) (((Hy.extBut s1.extBut n2.1).extBut s2.extBut n2.2.2.1).extBut s3.extBut n2.2.1) hy λg4 e s4 he=>?_);obtain⟨oe,LG,NR⟩:=he;have z4:IsZip g4 z TI TO .ellipsis:=s4 _ _ D.i2z.symm (s3.extBut _ _ D.TOz.symm (s2.extBut _ _ D.i1z.symm KY))
  have ez:e≠z:=λq=>by subst q;rw[z4] at LG;cases LG;simp at NR
  refine wpAny_setField_rec z4 (by simp) λg5 _ s5=>hE g5 e (λc o hc q=>?_) ⟨oe,s5.extBut _ _ ez LG,NR⟩
  have GV:c≠z/\c≠TO/\c≠i1/\c≠i2:=by simpa using hc
  exact s5.extBut _ _ GV.1 (s4 _ _ GV.2.2.2 (s3.extBut _ _ GV.2.1 (s2.extBut _ _ GV.2.2.1 (s1.extBut _ _ GV.1 q))))
theorem jc {Q:Option Value->Shared->Prop}(D:Apart z TI TO i1 i2 l1 l2)(Z:Zs s.heap z TI TO i1 i2 l1 l2 k)(Hn:s.heap.IsTuple l1 xs)(Hy:s.heap.IsTuple l2 ys)(hx:xs[k]?=some x)(hy:ys[k]?=some y)
 (hQ:∀h',IsZip h' z TI TO (rawInt s.heap.objs.size)->(∃a b,IsPair h' TO a b)->h'.IsTupleIter i1 l1 (k+1)->h'.IsTupleIter i2 l2 (k+1)->IsPair h' s.heap.objs.size x y →
  (∀c o,c ∉ [z,TO,i1,i2]->s.heap.get? c=some o->h'.get? c=some o)->Q (some (.ref s.heap.objs.size)) {s with heap:=h'}):
 wpAny (model prog w) A (pyNext (.ref z)) Q E s:=by
 have hT:s.TypeIs (.ref z) "zip":=⟨_,Z.hz,rfl⟩;unfold pyNext
 exact wpAny_bind (wpAny_attempt (wpAny_callSpecial?_slot (name:=Str.ofString "__next__") hT F.slot_zip_next
  (wpAny_call_entry F.slot_zip_next hT F.entry_zip_next (item D Z Hn Hy hx hy λh' a1 a2 a3 a4 a5 a6=>wpAny_pure (hQ h' a1 a2 a3 a4 a5 a6)) (F.args_zip_next_1 _))))
theorem iQ {Q:Option Value->Shared->Prop}(hh:A.handled=none)(D:Apart z TI TO i1 i2 l1 l2)(Z:Zs s.heap z TI TO i1 i2 l1 l2 k)(Hn:s.heap.IsTuple l1 xs)(Hy:s.heap.IsTuple l2 ys)(Jr:xs[k]?=none\/ys[k]?=none)
 (hQ:∀h',(∀c o,c ∉ [z,TO,i1,i2]->s.heap.get? c=some o->h'.get? c=some o)->Q none {s with heap:=h'}):wpAny (model prog w) A (pyNext (.ref z)) Q E s:=by
 have hT:s.TypeIs (.ref z) "zip":=⟨_,Z.hz,rfl⟩;unfold pyNext
 refine wpAny_bind (wpAny_attempt (wpAny_callSpecial?_slot (name:=Str.ofString "__next__") hT F.slot_zip_next
  (wpAny_call_entry F.slot_zip_next hT F.entry_zip_next (FX hh D Z Hn Hy Jr λh' e hk he=>?_) (F.args_zip_next_1 _))))
 obtain⟨o,ho,hc⟩:=he;refine wpAny_bind (wpAny_isInstance (T:="StopIteration") (b:=true) ⟨o,ho,hc⟩ isSubtype_stop ?_);exact wpAny_pure (hQ _ hk)
end
abbrev g1 (h:Heap)(l1:Addr):Heap:=h.push {cls:=.type "tuple_iterator",data:=.fields #[.ref l1,.int 0 0]}
abbrev g2 (h:Heap)(l1 l2:Addr):Heap:=(g1 h l1).push {cls:=.type "tuple_iterator",data:=.fields #[.ref l2,.int 0 0]}
abbrev g3 (h:Heap)(l1 l2:Addr):Heap:=(g2 h l1 l2).push {cls:=.type "tuple",data:=.seq #[.ref h.objs.size,.ref (g1 h l1).objs.size]}
abbrev g4 (h:Heap)(l1 l2:Addr):Heap:=(g3 h l1 l2).push {cls:=.type "tuple",data:=.seq #[.none,.none]}
abbrev g5 (h:Heap)(l1 l2:Addr):Heap:=(g4 h l1 l2).push {cls:=.type "zip",data:=.fields #[.none,.bool false,.bool false,.ref (g2 h l1 l2).objs.size,.ref (g3 h l1 l2).objs.size]}
theorem vg (l1 l2:Addr)(xs ys:t6):
 Meets (Builtin.«zip.__new__» ⟨[.type "zip",.ref l1,.ref l2],[]⟩) (λ_ R s=>s.heap.IsTuple l1 xs/\s.heap.IsTuple l2 ys/\R (.ok (.ret (.ref (g4 s.heap l1 l2).objs.size))) {s with heap:=g5 s.heap l1 l2}):=
 .of_wp λprog w A R s h=>by
  obtain⟨hp,g,d,tk,os⟩:=s;obtain⟨Hn,Hy,h⟩:=h;have Y3:=sub_zip;have Js:Heap.IsTuple (Shared.heap ⟨hp,g,d,tk,os⟩) l1 xs:=Hn;have NS:Heap.IsTuple (Shared.heap ⟨hp.push {cls:=.type "tuple_iterator",data:=.fields #[.ref l1,.int 0 0]},g,d,tk,os⟩) l2 ys:=Heap.IsTuple.push Hy _
  wp_walk using wpAny_pyIter_tuple Js,wpAny_pyIter_tuple NS
  exact⟨_,rfl,h⟩
section
variable {prog:vB}{w:World}{A:Around}{E:pL}{s:GB}
theorem vo {l1 l2:Addr}{xs ys:t6}{Q:pL}(Hn:s.heap.IsTuple l1 xs)(Hy:s.heap.IsTuple l2 ys)
 (h:∀h',Zs h' (s.heap.objs.size+4) (s.heap.objs.size+2) (s.heap.objs.size+3) s.heap.objs.size (s.heap.objs.size+1) l1 l2 0->(∀c o,s.heap.get? c=some o->h'.get? c=some o)->Q (.ref (s.heap.objs.size+4)) {s with heap:=h'}):
 wpAny (model prog w) A (call (.type "zip") [.ref l1,.ref l2]) Q E s:=by
 refine callType_new F.called_zip (by decide) (F.typeCall_zip_2 _ _) (F.newCall_zip_2 _ _) (λobj=>F.args_object_init_3 obj _ _) F.entry_zip_new (vg l1 l2 xs ys) ⟨Hn,Hy,?_⟩;have z1:(g1 s.heap l1).objs.size=s.heap.objs.size+1:=Heap.size_push ..
 have z2:(g2 s.heap l1 l2).objs.size=s.heap.objs.size+2:=by rw[Heap.size_push,z1]
 have z3:(g3 s.heap l1 l2).objs.size=s.heap.objs.size+3:=by rw[Heap.size_push,z2]
 have z4:(g4 s.heap l1 l2).objs.size=s.heap.objs.size+4:=by rw[Heap.size_push,z3]
 have q5:(g5 s.heap l1 l2).get? (g4 s.heap l1 l2).objs.size=some _:=Heap.get?_push_size _ rfl;have q4:(g5 s.heap l1 l2).get? (g3 s.heap l1 l2).objs.size=some _:=Heap.get?_push_of_some _ (Heap.get?_push_size _ rfl);have q3:(g5 s.heap l1 l2).get? (g2 s.heap l1 l2).objs.size=some _:=Heap.get?_push_of_some _ (Heap.get?_push_of_some _ (Heap.get?_push_size _ rfl));have q2:(g5 s.heap l1 l2).get? (g1 s.heap l1).objs.size=some _:=Heap.get?_push_of_some _ (Heap.get?_push_of_some _ (Heap.get?_push_of_some _ (Heap.get?_push_size _ rfl)));have q1:(g5 s.heap l1 l2).get? s.heap.objs.size=some _:=Heap.get?_push_of_some _ (Heap.get?_push_of_some _ (Heap.get?_push_of_some _ (Heap.get?_push_of_some _ (Heap.get?_push_size _ rfl))));show _/\_;rw[z2,z3,z4] at q5;rw[z1,z2] at q3;rw[z3] at q4;rw[z1] at q2;rw[z4];exact⟨⟨_,q5,rfl⟩,h _ ⟨q5,q3,⟨_,_,q4⟩,⟨_,q1,rfl,rfl⟩,⟨_,q2,rfl,rfl⟩⟩ λc o e=>Heap.get?_push_of_some _ (Heap.get?_push_of_some _ (Heap.get?_push_of_some _ (Heap.get?_push_of_some _ (Heap.get?_push_of_some _ e))))⟩
end
theorem aX {a b:Nat}(h:a≠b):(a:Addr)≠b:=h
theorem j8 (n a b:Nat)(ha:a<n)(hb:b<n):Apart (n+4) (n+2) (n+3) n (n+1) a b:=by
 refine⟨aX ?_,aX ?_,aX ?_,aX ?_,aX ?_,aX ?_,aX ?_,aX ?_,aX ?_,aX ?_,?_,?_⟩
 any_goals omega
 ·simp only[List.mem_cons,List.not_mem_nil,or_false,not_or];exact⟨aX (by omega),aX (by omega),aX (by omega),aX (by omega)⟩
 ·simp only[List.mem_cons,List.not_mem_nil,or_false,not_or];exact⟨aX (by omega),aX (by omega),aX (by omega),aX (by omega)⟩
end Zp
namespace L2
open PySem PySem.Spec PyProof.Rows PySem.W
def EF (K:Frag)(a b:Addr):It :=
 ⟨λi H=>∃xs ys x y,bo K H a xs/\bo K H b ys/\xs[i]?=some x/\ys[i]?=some y,
  λi H v H'=>∃T x y,(∀xs,bo K H a xs->xs[i]?=some x)/\(∀ys,bo K H b ys->ys[i]?=some y)/\H T=none/\v=.ref T/\H'=upd H T (.tup [x,y]),
  λi H=>∃xs ys,bo K H a xs/\bo K H b ys/\(xs.length<=i\/ys.length<=i)⟩
theorem xw {P:vB}{w:World}{K:Frag}{elts:Bj}{x1:Nat}{tp:Pos}{a b z TI TO i1 i2:Addr}(D:Zp.Apart z TI TO i1 i2 a b):
 Turn P w K (.Tuple elts x1 tp) (EF K a b) [z,TO,i1,i2,TI] z (λi h=>Zp.Zs h z TI TO i1 i2 a b i) where
 mem:=by simp
 obj:=λi h st c hb=>by
  obtain⟨h1,h2,⟨_,_,h3⟩,⟨o4,h4,_,d4⟩,⟨o5,h5,_,d5⟩⟩:=st
  rcases(by simpa using hb:c=z\/c=TO\/c=i1\/c=i2\/c=TI) with q|q|q|q|q
  ·subst q;exact⟨_,h1,λv q=>by cases q⟩
  ·subst q;exact⟨_,h3,λv q=>by cases q⟩
  ·subst q;exact⟨_,h4,λv q=>by rw[d4] at q;cases q⟩
  ·subst q;exact⟨_,h5,λv q=>by rw[d5] at q;cases q⟩
  ·subst q;exact⟨_,h2,λv q=>by cases q⟩
 keep:=λi h h' st k=>by
  obtain⟨h1,h2,⟨_,_,h3⟩,h4,h5⟩:=st;exact⟨k z (by simp) _ h1,k TI (by simp) _ h2,⟨_,_,k TO (by simp) _ h3⟩,Zp.de h4 λo q=>k i1 (by simp) o q,Zp.de h5 λo q=>k i2 (by simp) o q⟩
 item:=by
  intro X hP hw hK hc i pins s σ H E I hf st hg;subst hP hw hK;obtain⟨xs,ys,x,y,hq,hr,hx,hy⟩:=hg;obtain⟨its,rv,p,hz⟩:=I.tuple hq;obtain⟨KZ,Hv,p',NT⟩:=I.tuple hr;obtain⟨u,hu,ru⟩:=rv.get hx;obtain⟨v,hv,LI⟩:=Hv.get hy;refine Zp.jc D st (show s.heap.IsTuple a its.toArray from p) (show s.heap.IsTuple b KZ.toArray from p') (x:=u) (y:=v) (by simpa using hu) (by simpa using hv) λh' q1 q2 q3 q4 q5 q6=>?_;refine⟨_,rfl,wpAny_letOwnedTupleGo_zip (s:={s with heap:=h'}) q1 λh2 q7 q8=>?_⟩;have lt:∀c o,s.heap.get? c=some o->c≠s.heap.objs.size:=λc o e=>Nat.ne_of_lt (Heap.lt_size e)
  have I1:Inv X pins σ H {s with heap:=h2}:=I.aaH (t':=s.toks) (ch:=[z,TO,i1,i2]) (λc o hc e=>(q8.2 c λq=>hc (by simp[q])).trans (q6 c o hc e)) λc hc=>hf c (by
   rcases(by simpa using hc:c=z\/c=TO\/c=i1\/c=i2) with q|q|q|q <;> simp[q])
  have nz:s.heap.objs.size≠z:=Ne.symm (lt z _ st.hz);have tup:h2.get? s.heap.objs.size=some {cls:=.type "tuple",data:=.seq #[u,v]}:=(q8.2 _ nz).trans q5;have fr:H s.heap.objs.size=none:=I.hok.fresh (Nat.le_refl _);have I2:=I.abr (xs:=[x,y]) (its:=[u,v]) I1 (Nat.le_refl _) tup (.cons ru (.cons LI .nil)) gc;have up:∀c o,c≠z->h'.get? c=some o->h2.get? c=some o:=λc o hc e=>(q8.2 c hc).trans e;obtain⟨aa,bb,q2⟩:=q2;have LJ:IsPair h' TI (.ref i1) (.ref i2):=q6 TI _ (by simp only[List.mem_cons,List.not_mem_nil,or_false,not_or];exact⟨D.TIz,D.TITO,D.TIi1,D.TIi2⟩) st.hTI
  refine⟨.ref s.heap.objs.size,_,I2,rfl,⟨s.heap.objs.size,x,y,λzs J0=>by rw[I.aaA J0 hq];exact hx,λzs J0=>by rw[I.aaA J0 hr];exact hy,fr,rfl,rfl⟩,
   ⟨q7,up _ _ D.TIz LJ,⟨aa,bb,up _ _ D.TOz q2⟩,Zp.de q3 λo e=>up _ o D.i1z e,Zp.de q4 λo e=>up _ o D.i2z e⟩,λc hb=>?_⟩
  have nb:c≠s.heap.objs.size:=by
   obtain⟨h1,h2,⟨_,_,h3⟩,⟨o4,h4,_,d4⟩,⟨o5,h5,_,d5⟩⟩:=st
   rcases(by simpa using hb:c=z\/c=TO\/c=i1\/c=i2\/c=TI) with q|q|q|q|q <;> subst q
   ·exact lt _ _ h1
   ·exact lt _ _ h3
   ·exact lt _ _ h4
   ·exact lt _ _ h5
   ·exact lt _ _ h2
  rw[ar nb];exact(hf c hb).1
 done:=by
  intro X hP hw hK hc i pins s σ H E I hf st hg;subst hP hw hK;obtain⟨xs,ys,hq,hr,hx⟩:=hg;obtain⟨its,rv,p,hz⟩:=I.tuple hq;obtain⟨KZ,Hv,p',NT⟩:=I.tuple hr;have l1:=rv.length;have l2:=Hv.length
  refine Zp.iQ (I.ok.hd hc) D st (show s.heap.IsTuple a its.toArray from p) (show s.heap.IsTuple b KZ.toArray from p') (by
   rcases hx with q|q
   ·left;simp;omega
   ·right;simp;omega) λh' q=>⟨rfl,?_⟩
  exact I.aaH (t':=s.toks) (ch:=[z,TO,i1,i2]) q λc hc=>hf c (by
   rcases(by simpa using hc:c=z\/c=TO\/c=i1\/c=i2) with q|q|q|q <;> simp[q])
 self:=λ_ _ _ _ _ st h=>wpAny_pyIter_zip st.hz h
def EZ (K:Frag)(ta tb:TE):TI:=λσ H R=>dm ta (dm tb Br) σ H λvs H1=>∃a b xs ys,vs=[.ref a,.ref b]/\bo K H1 a xs/\bo K H1 b ys/\R (EF K a b) H1
theorem BS {X:Cx}{ea eb:Expr}{ta tb:TE}{elts:Bj}{x1:Nat}{tp p pos:Pos}(ha:PE X ea ta)(hb:PE X eb tb)(hg:Gl X "zip")(hm:X.mg "zip"=none)(hs:dB ea=false:=by rfl)(Jt:dB eb=false:=by rfl):
 PI X (.Tuple elts x1 tp) (.Call (.Name "zip" p) [ea,eb] [] pos) (EZ X.K ta tb):=by
 intro pins s σ H R I h;refine wpAny_Call_Name_kw (cT I hg hm (by rfl) ?_ (by decide) (by decide));refine PyProof.Rows.callWith_type1 (bA (ak ha (ak hb af Jt) hs pos pins s σ H _ I h) λus s1 z'=>?_) (aK hs) (by rw[aK Jt];rfl);obtain⟨vs,H1,I1,r1,a,b,xs,ys,hv,hq,hr,rr⟩:=z';subst hv;obtain⟨u,u',rfl,ru,LI⟩:=rL r1
 cases(show u=Value.ref a from ru)
 cases(show u'=Value.ref b from LI)
 obtain⟨its,rv,pl,hz⟩:=I1.tuple hq;obtain⟨KZ,Hv,NU,NT⟩:=I1.tuple hr;refine Zp.vo (show s1.heap.IsTuple a its.toArray from pl) (show s1.heap.IsTuple b KZ.toArray from NU) λh' q1 q4=>?_;have I2:Inv X pins σ H1 {s1 with heap:=h'}:=I1.kept (t':=s1.toks) q4
 have la:a<s1.heap.objs.size:=by obtain⟨o,e,_⟩:=pl;exact Heap.lt_size e
 have lb:b<s1.heap.objs.size:=by obtain⟨o,e,_⟩:=NU;exact Heap.lt_size e
 refine wpAny_pyIter_zip (s:={s1 with heap:=h'}) q1.hz ?_;refine⟨s1.heap.objs.size+4,[s1.heap.objs.size+4,s1.heap.objs.size+3,s1.heap.objs.size,s1.heap.objs.size+1,s1.heap.objs.size+2],_,EF X.K a b,H1,rfl,I2,xw (Zp.j8 _ _ _ la lb),q1,λc hc=>?_,rr⟩
 have Hj:s1.heap.objs.size<=c:=by
  rcases(by simpa using hc:c=s1.heap.objs.size+4\/c=s1.heap.objs.size+3\/c=s1.heap.objs.size\/c=s1.heap.objs.size+1\/c=s1.heap.objs.size+2) with q|q|q|q|q <;> rw[q]
  ·exact Nat.le_add_right _ _
  ·exact Nat.le_add_right _ _
  ·exact Nat.le_refl _
  ·exact Nat.le_add_right _ _
  ·exact Nat.le_add_right _ _
 exact I1.aaJ Hj (I1.hok.fresh Hj)
end L2
namespace K75
open PySem L2 PySem.W
abbrev Gp:Stmt:=aQ (aO 20) 1
abbrev sI:Stmt:=aQ (aO 20) 3
abbrev vA:Stmt:=(aO 12)
abbrev ip:Stmt:=(aO 13)
def Cg (C:Addr):Sp:=λvs H Q _=>∃(p dx:Addr)(i:Int)(y:V),vs=[.ref p,y]/\H p=some (.ins C dx (df i)) /\
 ((∃q dy j,y=.ref q/\H q=some (.ins C dy (df j))/\Q (.bl (decide (i=j))) H)\/∃T,Th H y T/\Q (.bl false) H)
def rS (C:Addr):Sp:=λvs H Q _=>∃(p dx:Addr)(i:Int),vs=[.ref p]/\H p=some (.ins C dx (df i))/\Q (.int i) H
def cG:V->Bool
 | .int i=>decide (0<=i)&&decide (i<60)
 |_=>false
def jM:Sp:=λvs H Q _=>∃x T,vs=[x]/\Th H x T/\Q (.bl (cG x)) H
variable {P:vB}{w:World}{K:PySem.W.Frag}{mg:vW}{base:Heap}
theorem FD:yJ rj rj (ai Gp):=dE (by decide +kernel)
variable {f C:Addr}{fd:EK}
theorem Ey (F:vM K "__eq__" "Field.__eq__" Gp f fd)(c:BJ K mg C)(n:yr mg):Bp P w K mg base (bf P w) 1 f fd rj (Cg C):=by
 refine F.okN FD (λvs H Q E h=>?_) (λGN A outer s H vs Q E hr h=>?_)
 ·obtain⟨p,dx,i,y,rfl,_⟩:=h;rfl
 ·obtain⟨p,dx,i,y,rfl,hp,h⟩:=h
  refine⟨_,aq (aA (cC (az ba (by rfl) n.isi (by rfl) (bF (pv 1) (bF (cB (by rfl) c.mgC (show aE (.ref C) (.ref C) from rfl)) af)))
   (fF (bH dF (cp (pv 0) rfl) (cp (pv 1) rfl) (aG _))))),?_⟩
  rcases h with⟨q,dy,j,rfl,hq,z⟩|⟨T,th,z⟩
  ·refine⟨_,rfl,.ref q,.ref C,_,_,_,rfl,rfl,c.ty hq,c.is,_,rfl,?_⟩;refine b7 ?_;refine⟨_,rfl,p,C,dx,_,_,rfl,hp,c.cl,c.nP,rfl,_,rfl,q,C,dy,_,_,rfl,hq,c.cl,c.nP,rfl,rfl,?_⟩
   have e:decide (V.int i=V.int j)=decide (i=j):=by simp
   rw[e];exact z
  ·exact⟨_,rfl,y,.ref C,_,_,_,rfl,rfl,th.ty,c.no th,_,rfl,bx z⟩
theorem xq:yJ ["self"] ["self"] (ai sI):=dE (by decide +kernel)
theorem wC (F:vM K "prime" "Field.prime" sI f fd)(c:BJ K mg C):Bp P w K mg base (bf P w) 1 f fd ["self"] (rS C):=by
 refine F.okN xq (λvs H Q E h=>?_) (λGN A outer s H vs Q E hr h=>?_)
 ·obtain⟨p,dx,i,rfl,_⟩:=h;rfl
 ·obtain⟨p,dx,i,rfl,hp,q⟩:=h;exact⟨_,aq (aA (cp (pv 0) rfl)),_,rfl,p,C,dx,_,_,rfl,hp,c.cl,c.nP,rfl,q⟩
theorem yH:yJ vb vb (ai vA):=dE (by decide +kernel)
theorem wD {fw:Addr}{HD:EK}{tM:Tok}(F:vM K "is_place" "is_place" vA f fd)(Y4:mg "MOST_PLACES"=some (.int 60 tM))
 (FW:Bp P w K mg base (bf P w) 1 fw HD vb FY)(bW:L2.ay K HD vb [])(mW:mg "is_whole"=some (.ref fw))(kW:keepIn K (.ref fw)=true):Bp P w K mg base (bf P w) 2 f fd vb jM:=by
 refine F.okN yH (λvs H Q E h=>?_) (λGN A outer s H vs Q E hr h=>?_)
 ·obtain⟨x,T,rfl,_⟩:=h;rfl
 ·obtain⟨x,T,rfl,th,q⟩:=h;have GU:wK 1 _:=hr.mono (by decide);refine⟨_,aq (aA (cC (ax FW GU (by rfl) mW kW bW .nil ag (@ak _ _ _ _ _ (pv 0) af rfl)) (fF (oG jK kJ ao (pv 0) (cB (by rfl) Y4 (show aE (.int 60) (.int 60 tM) from⟨_,rfl⟩)))))),?_⟩;refine⟨_,rfl,x,T,rfl,th,_,rfl,?_⟩
  cases e:dk x with
  |false =>
   have z:cG x=false:=by cases x <;> first|rfl|cases e
   rw[z] at q;exact bx q
  |true =>
   have z1:∃i,x=.int i:=by cases x <;> first|exact⟨_,rfl⟩|cases e
   obtain⟨i,rfl⟩:=z1;refine b7 ?_;refine⟨_,rfl,_,_,rfl,rfl,_,rfl,?_⟩;refine dD (λh=>?_) (λh=>?_)
   ·refine⟨_,_,rfl,rfl,?_⟩;have h':decide (0<=i)=true:=h
    have z:cG (.int i)=decide (i<60):=by show(decide (0<=i)&&decide (i<60))=_;rw[h',Bool.true_and]
    rw[z] at q;exact q
   ·have h':decide (0<=i)=false:=by simpa using h
    have z:cG (.int i)=false:=by show(decide (0<=i)&&decide (i<60))=_;rw[h',Bool.false_and]
    rw[z] at q;exact q
inductive PX (H:Hp):V->Option (List V)->Prop where
 |no {x:V}{T:String}:Th H x T->T ≠ "tuple"->PX H x none
 |tup {a:Addr}{xs:List V}:H a=some (.tup xs)->xs.length<4000->(∀y∈xs,∃T,Th H y T)->PX H (.ref a) (some xs)
def DJ:V->V->Bool
 | .int a,.int b=>decide (a<b)
 |_,_=>false
def ju (xs:List V):Bool:=(xs.zip (xs.drop 1)).all λp=>DJ p.1 p.2
def ka:Option (List V)->Bool
 |none=>false
 |some xs=>xs.all cG&&ju xs
def j7:Sp:=λvs H Q _=>∃x o,vs=[x]/\PX H x o/\∀H',aC H H'->Q (.bl (ka o)) H'
theorem DW (xs:List V):ni xs (some 1) none=xs.drop 1:=by
 unfold ni HT.eh
 cases xs with
 |nil=>rfl
 |cons x xs=>simp
theorem uw:yJ vb vb (ai ip):=dE (by decide +kernel)
theorem kn:∀bs:List Bool,Paired EA (bs.map V.bl) bs
 |[]=>.nil
 |b::bs=>.cons rfl (kn bs)
theorem qt {fp:Addr}{IU:EK}(F:vM K "is_product" "is_product" ip f fd)(GI:mg "isinstance"=none)(GS:mg "tuple"=none)(Ht:mg "all"=none)(HP:mg "zip"=none)
 (FP:Bp P w K mg base (bf P w) 2 fp IU vb jM)(bP:L2.ay K IU vb [])(mP:mg "is_place"=some (.ref fp))(kP:keepIn K (.ref fp)=true):Bp P w K mg base (bf P w) 3 f fd vb j7:=by
 refine F.okN uw (λvs H Q E h=>?_) (λGN A outer s H vs Q E hr h=>?_)
 ·obtain⟨x,o,rfl,_⟩:=h;rfl
 ·obtain⟨x,o,rfl,px,q⟩:=h;have HV:wK 2 _:=hr.mono (by decide)
  refine⟨_,(aj (bw (PW.pt (dz (bB (bJ (az ba (by rfl) GI (by rfl) (@ak _ _ _ _ _ (pv 0) (@ak _ _ _ _ _ (c9 (by rfl) GS (by rfl) (show aE (.ty "tuple") (.type "tuple") from rfl)) af rfl) rfl)))) (cR (bB (bJ (az (iG rfl) (by rfl) Ht (by rfl) (@ak _ _ _ _ _ (bX (N:=["place"]) (nl:=1) (js:=[]) (osc:=ai ip) ⟨rfl,rfl,by decide +kernel,by decide +kernel,by decide +kernel,rfl,.nil,by decide +kernel⟩ rfl
   (wF (pv 0))
   (λC fp s H=>av (i:=0) (by show(["place"]:zF).Nodup;decide +kernel) rfl (Or.inl rfl) (Or.inr rfl))
   (λC fp s H=>bK)
   (λC fp s H=>(ax FP HV (by rfl) mP kP bP .nil ag (@ak _ _ _ _ _ (pv 0) af rfl)))) af rfl))))))) (aq (aA fX)) aM)
   (aq (aA (az (iG rfl) (by rfl) Ht (by rfl) (@ak _ _ _ _ _ (bX (g:=gq K 2 (bD (bg 0) (bD (bg 1) ve))) (N:=["place","later"]) (nl:=2) (js:=[]) (osc:=ai ip) ⟨rfl,rfl,by decide +kernel,by decide +kernel,by decide +kernel,rfl,.nil,by decide +kernel⟩ rfl
    (BS (pv 0) (wI yy (pv 0) (rE ao) yX) (by rfl) HP)
    (λC fp s H=>(bZ (X:=bY _ ["place","later"] _ C fp s H) rfl (aB (av (X:=bY _ ["place","later"] _ C fp s H) (i:=0) (by show(["place","later"]:zF).Nodup;decide +kernel) rfl (Or.inl rfl) (Or.inr rfl)) (aB (av (X:=bY _ ["place","later"] _ C fp s H) (i:=1) (by show(["place","later"]:zF).Nodup;decide +kernel) rfl (Or.inl rfl) (Or.inr rfl)) bz))))
    (λC fp s H=>bK)
    (λC fp s H=>(@bH _ _ _ _ _ _ _ _ kJ (pv 0) (pv 1) (aG _)))) af rfl))))),?_⟩
  cases px with
  |@no x T th ne =>
   refine⟨_,rfl,x,.ty "tuple",_,_,_,rfl,rfl,th.ty,th.isTup,_,rfl,?_⟩;rw[decide_eq_false ne];exact b7 (b7 (q _ (aC.refl _)))
  |@tup a xs ha hl Y5 =>
   refine⟨_,rfl,.ref a,.ty "tuple",_,_,_,rfl,rfl,.of (.tup ha),rfl,_,rfl,bx ?_⟩;have Ww:∀n,n<=xs.length->n<sizeLine:=λn hn=>Nat.lt_of_le_of_lt hn (Nat.lt_trans hl (by decide));refine⟨_,rfl,a,rfl,⟨xs,bo.of ha⟩,?_⟩;refine⟨λi m ys σ' H'=>m=xs.length-i/\i<=xs.length/\ys=((xs.take i).map cG).map V.bl/\H=H'/\∃o,σ'=[o],⟨xs.length,by simp,Nat.zero_le _,by simp,rfl,none,rfl⟩,?_⟩;rintro i m ys σ' H' ⟨rfl,hi,rfl,rfl,o,rfl⟩;refine⟨Ww _ (by simp;omega),?_⟩
   by_cases GR:i<xs.length
   ·refine .inr ⟨⟨xs,xs[i],bo.of ha,by simp[GR]⟩,λy H2 hy=>?_⟩;obtain⟨rfl,hy⟩:=hy;have ey:=hy xs (bo.of ha);obtain⟨T,th⟩:=Y5 y (List.mem_of_getElem? ey);dsimp only[GC,bg];refine b7 ⟨_,rfl,y,T,rfl,th,xs.length-(i+1),by omega,rfl,GR,?_,rfl,_,rfl⟩
    have e2:xs.take (i+1)=xs.take i++[y]:=by
     rw[List.take_add_one,ey];rfl
    rw[e2];simp
   ·have ei:i=xs.length:=by omega
    subst ei;refine .inl ⟨⟨xs,bo.of ha,Nat.le_refl _⟩,λD hD=>?_⟩;rw[List.take_length];refine⟨D,_,xs.map cG,rfl,aN.of ae,kn _,_,rfl,?_⟩;have sD:aC H (upd H D (.lst ((xs.map cG).map V.bl))):=ah hD
    cases hp:(xs.map cG).all id with
    |false =>
     have z:ka (some xs)=false:=by
      show(xs.all cG&&ju xs)=_
      have:xs.all cG=false:=by rw[<-hp,List.all_map];rfl
      rw[this,Bool.false_and]
     rw[z] at q;exact b7 (q _ sD)
    |true =>
     refine bx ?_
     have z:ka (some xs)=ju xs:=by
      show(xs.all cG&&ju xs)=_
      have:xs.all cG=true:=by rw[<-hp,List.all_map];rfl
      rw[this,Bool.true_and]
     rw[z] at q;generalize upd H D (.lst ((xs.map cG).map V.bl))=H1 at sD |-;have J5:=sD _ _ ha
     have hint:∀y∈xs,∃n,y=V.int n:=λy hy=>by
      have:cG y=true:=List.all_eq_true.mp hp _ (List.mem_map_of_mem hy)
      cases y <;> first|exact⟨_,rfl⟩|cases this
     have key:∀(b:Addr)(H2:Hp),aC H H2->H2 a=some (.tup xs)->H2 b=some (.tup (xs.drop 1)) →
      ∃W:Nat->Nat->List V->St->Hp->Prop,(∃m,W 0 m [] [none,none] H2)/\gK (EF K a b) (gq K 2 (bD (bg 0) (bD (bg 1) ve))) GC (nG (ug λi j=>V.bl (decide (i<j))) (d9 0) (d9 1)) W
       λys H'=>∀D,H' D=none->∃l zs bs,[V.ref D]=[V.ref l]/\aN K (upd H' D (.lst ys)) l zs/\Paired EA zs bs/\Q (.bl (bs.all id)) (upd H' D (.lst ys)):=by
      intro b H2 s2 Y6 Y7;refine⟨λi m ys σ' H'=>m=(xs.drop 1).length-i/\i<=(xs.drop 1).length/\ys=(((xs.zip (xs.drop 1)).take i).map λp=>DJ p.1 p.2).map V.bl/\aC H2 H'/\∃o1 o2,σ'=[o1,o2],⟨(xs.drop 1).length,by simp,Nat.zero_le _,by simp,aC.refl _,none,none,rfl⟩,?_⟩;rintro i m ys σ' H' ⟨rfl,hi,rfl,sH,o1,o2,rfl⟩;have LK:=sH _ _ Y6;have Hj:=sH _ _ Y7;refine⟨Ww _ (by simp;omega),?_⟩
      by_cases GR:i<(xs.drop 1).length
      ·have Ss:i<xs.length:=by rw[List.length_drop] at GR;omega
       refine .inr ⟨⟨xs,xs.drop 1,xs[i],(xs.drop 1)[i],bo.of LK,bo.of Hj,by simp[Ss],by rw[List.getElem?_eq_getElem GR]⟩,λv H3 hv=>?_⟩;obtain⟨T,x,y,hx,hy,hT,rfl,rfl⟩:=hv;have ex:=hx xs (bo.of LK);have ey:=hy (xs.drop 1) (bo.of Hj);obtain⟨n,rfl⟩:=hint x (List.mem_of_getElem? ex);obtain⟨k,rfl⟩:=hint y (List.mem_of_mem_drop (List.mem_of_getElem? ey));refine⟨T,_,rfl,bo.of ae,rfl,_,_,rfl,_,_,rfl,rfl,?_⟩;dsimp only[GC];refine b7 ⟨_,rfl,_,rfl,n,k,rfl,rfl,(xs.drop 1).length-(i+1),by omega,rfl,GR,?_,λc u e=>?_,_,_,rfl⟩
       ·have ez:(xs.zip (xs.drop 1))[i]?=some (V.int n,V.int k):=by
         rw[List.getElem?_zip_eq_some];exact⟨ex,ey⟩
        have e2:(xs.zip (xs.drop 1)).take (i+1)=(xs.zip (xs.drop 1)).take i++[(V.int n,V.int k)]:=by
         rw[List.take_add_one,ez];rfl
        rw[e2];simp[DJ]
       ·rw[ar (au (sH _ _ e) hT)];exact sH _ _ e
      ·have ei:i=(xs.drop 1).length:=by omega
       subst ei;refine .inl ⟨⟨xs,xs.drop 1,bo.of LK,bo.of Hj,.inr (Nat.le_refl _)⟩,λD' LL=>?_⟩
       have et:(xs.zip (xs.drop 1)).take (xs.drop 1).length=xs.zip (xs.drop 1):=by
        apply List.take_of_length_le;rw[List.length_zip];exact Nat.min_le_right _ _
       rw[et];refine⟨D',_,(xs.zip (xs.drop 1)).map λp=>DJ p.1 p.2,rfl,aN.of ae,kn _,?_⟩
       have er:((xs.zip (xs.drop 1)).map λp=>DJ p.1 p.2).all id=ju xs:=by rw[List.all_map];rfl
       rw[er];refine q _ λc u e=>?_;have e1:=sH _ _ (s2 _ _ e);rw[ar (au e1 LL)];exact e1
     refine⟨_,rfl,_,rfl,1,rfl,a,xs,rfl,bo.of J5,λe=>?_,λp Wx=>?_⟩
     ·rw[DW] at e;exact⟨a,a,xs,xs.drop 1,rfl,bo.of J5,bo.of (by rw[e];exact J5),key a H1 sD J5 (by rw[e];exact J5)⟩
     ·rw[DW];have np:a≠p:=au J5 Wx;exact⟨a,p,xs,xs.drop 1,rfl,bo.of (by rw[ar np];exact J5),bo.of ae,key p _ (λc u e=>by rw[ar (au (sD _ _ e) Wx)];exact sD _ _ e) (by rw[ar np];exact J5) ae⟩
abbrev Aj:Stmt:=(aO 29)
theorem PX.same {H H':Hp}{x:V}{o:Option (List V)}(h:PX H x o)(s:aC H H'):PX H' x o:=by
 cases h with
 |no th n=>exact .no (th.same s) n
 |tup e l h=>exact .tup (s _ _ e) l λy hy=>let⟨T,t⟩:=h y hy;⟨T,t.same s⟩
inductive E6 (p:Int)(H:Hp):V->Bool->Prop where
 |no {x:V}{T:String}:Th H x T->T ≠ "tuple"->E6 p H x false
 |odd {a:Addr}{xs:List V}:H a=some (.tup xs)->xs.length≠2->E6 p H (.ref a) false
 |two {a:Addr}{y z:V}{o:Option (List V)}{o2:Option (V×V)}:H a=some (.tup [y,z])->PX H y o->TX H z o2->E6 p H (.ref a) (ka o&&xC p o2)
theorem E6.same {p:Int}{H H':Hp}{x:V}{b:Bool}(h:E6 p H x b)(s:aC H H'):E6 p H' x b:=by
 cases h with
 |no th n=>exact .no (th.same s) n
 |odd e n=>exact .odd (s _ _ e) n
 |two e h1 h2=>exact .two (s _ _ e) (h1.same s) (h2.same s)
def yh (C:Addr):Sp:=λvs H Q _=>∃(s dx:Addr)(p:Int)(x:V)(b:Bool),vs=[.ref s,x]/\H s=some (.ins C dx (df p))/\FP p/\E6 p H x b/\∀H',aC H H'->Q (.bl b) H'
theorem Cn:yJ zE zE (ai Aj):=dE (by decide +kernel)
theorem Ab {fp fi:Addr}{IU IV:EK}(F:vM K "is_term" "is_term" Aj f fd)(c:BJ K mg C)(GI:mg "isinstance"=none)(GS:mg "tuple"=none)(GJ:mg "len"=none)
 (Y8:Bp P w K mg base (bf P w) 3 fp IU vb j7)(bP:L2.ay K IU vb [])(mP:mg "is_product"=some (.ref fp))(kP:keepIn K (.ref fp)=true)
 (FI:Bp P w K mg base (bf P w) 2 fi IV tX (ll C))(bI:L2.ay K IV tX [])(mI:L2.Meth K C "is_number" fi):Bp P w K mg base (bf P w) 4 f fd zE (yh C):=by
 refine F.okN Cn (λvs H Q E h=>?_) (λGN A outer s H vs Q E hr h=>?_)
 ·obtain⟨s,dx,p,x,b,rfl,_⟩:=h;rfl
 ·obtain⟨s0,dx,p,x,b,rfl,hs,hp,tx,q⟩:=h;have IH:wK 3 _:=hr.mono (by decide);have HV:wK 2 _:=hr.mono (by decide)
  refine⟨_,aq (aA (cC (az ba (by rfl) GI (by rfl) (@ak _ _ _ _ _ (pv 1) (@ak _ _ _ _ _ (c9 (by rfl) GS (by rfl) (show aE (.ty "tuple") (.type "tuple") from rfl)) af rfl) rfl))
   (cC (@bH _ _ _ _ _ _ _ _ dF (az aJ (by rfl) GJ PySem.boot_len (@ak _ _ _ _ _ (pv 1) af rfl)) ao (aG _))
   (cC (ax Y8 IH (by rfl) mP kP bP .nil ag (@ak _ _ _ _ _ (@aZ _ _ _ _ _ _ _ a9 (pv 1) ao (λ_ _=>rfl)) af rfl))
   (fF (fb (pv 0) c.cl mI FI HV bI .nil ag (@ak _ _ _ _ _ (@aZ _ _ _ _ _ _ _ a9 (pv 1) ao (λ_ _=>rfl)) af rfl))))))),?_⟩
  cases tx with
  |@no x T th ne =>
   refine⟨_,rfl,x,.ty "tuple",_,_,_,rfl,rfl,th.ty,th.isTup,_,rfl,?_⟩;rw[decide_eq_false ne];exact bx (q _ (aC.refl _))
  |@odd a xs ha hl =>
   refine⟨_,rfl,.ref a,.ty "tuple",_,_,_,rfl,rfl,.of (.tup ha),rfl,_,rfl,b7 ?_⟩;refine⟨_,rfl,a,_,rfl,.inr (bo.of ha),rfl,_,rfl,?_⟩;refine dD (λh=>absurd h (by simp;omega)) (λh=>?_);exact q _ (aC.refl _)
  |@two a y z o o2 ha hy hz =>
   refine⟨_,rfl,.ref a,.ty "tuple",_,_,_,rfl,rfl,.of (.tup ha),rfl,_,rfl,b7 ?_⟩;refine⟨_,rfl,a,_,rfl,.inr (bo.of ha),rfl,_,rfl,b7 ?_⟩;refine⟨_,rfl,a,_,0,y,rfl,rfl,bo.of ha,rfl,y,o,rfl,hy,λH' sH=>⟨_,rfl,?_⟩⟩;have Jt:=sH _ _ hs;have LK:=sH _ _ ha
   cases e:ka o with
   |false =>
    rw[e,Bool.false_and] at q;exact bx (q _ sH)
   |true =>
    rw[e,Bool.true_and] at q;refine b7 ⟨_,rfl,s0,dx,_,rfl,Jt,rfl,_,rfl,a,_,1,z,rfl,rfl,bo.of LK,rfl,s0,dx,p,z,o2,rfl,Jt,hp,hz.same sH,q _ sH⟩
abbrev pE:Stmt:=(aO 30)
abbrev pD:Stmt:=(aO 31)
def lW (C:Addr):Sp:=λvs H Q _=>∃(s dx:Addr)(p:Int)(x:V),vs=[.ref s,x]/\H s=some (.ins C dx (df p))/\FP p /\
 ((x=.non/\∀l,H l=none->Q (.ref l) (upd H l (.lst [])))\/∃l ys,x=.ref l/\H l=some (.lst ys)/\ys.length<4000/\(∀y∈ys,E6 p H y true)/\∀H',aC H H'->Q (.ref l) H')
def CR:Sp:=λvs H Q _=>∃(a b:Addr)(z:V)(xs:List V),vs=[.ref a]/\H a=some (.tup [.ref b,z])/\H b=some (.tup xs)/\∀t,H t=none->Q (.ref t) (upd H t (.tup [.int xs.length,.ref b]))
theorem ja:yJ ["field","terms","number","thing"] uC (ai pE):=dE (by decide +kernel)
theorem ur:yJ ["term"] ["term"] (ai pD):=dE (by decide +kernel)
theorem pY (F:vM K "place_of_term" "place_of_term" pD f fd)(GJ:mg "len"=none):Bp P w K mg base (bf P w) 1 f fd ["term"] CR:=by
 refine F.okN ur (λvs H Q E h=>?_) (λGN A outer s H vs Q E hr h=>?_)
 ·obtain⟨a,b,z,xs,rfl,_⟩:=h;rfl
 ·obtain⟨a,b,z,xs,rfl,ha,hb,q⟩:=h;refine⟨_,(aq (aA (@bh _ _ _ _ _ (@ak _ _ _ _ _ (az aJ (by rfl) GJ PySem.boot_len (@ak _ _ _ _ _ (@aZ _ _ _ _ _ _ _ a9 (pv 0) ao (λ_ _=>rfl)) af rfl)) (@ak _ _ _ _ _ (@aZ _ _ _ _ _ _ _ a9 (pv 0) ao (λ_ _=>rfl)) af rfl) rfl)))),?_⟩;refine⟨_,rfl,a,_,0,_,rfl,rfl,bo.of ha,rfl,b,xs,rfl,.inr (bo.of hb),_,rfl,a,_,0,_,rfl,rfl,bo.of ha,rfl,gc,λt ht=>q t ht⟩
theorem qR {ft:Addr}{IW:EK}(F:vM K "checked_terms" "checked_terms" pE f fd)(GI:mg "isinstance"=none)(GO:mg "list"=none)(GK:mg "enumerate"=none)
 (FT:Bp P w K mg base (bf P w) 4 ft IW zE (yh C))(bT:L2.ay K IW zE [])(mT:mg "is_term"=some (.ref ft))(kT:keepIn K (.ref ft)=true):Bp P w K mg base (bf P w) 5 f fd uC (lW C):=by
 refine F.okN ja (λvs H Q E h=>?_) (λGN A outer s H vs Q E hr h=>?_)
 ·obtain⟨s,dx,p,x,rfl,_⟩:=h;rfl
 ·obtain⟨s0,dx,p,x,rfl,hs,hp,h⟩:=h;have HR:wK 4 _:=hr.mono (by decide)
  refine⟨_,(aj (bw (@aH _ _ _ _ _ _ _ _ xn (pv 1) ya (aG _)) (aq (aA (@cu _ _ _ _ af))) aM)
   (aj (bw (bB (bJ (az ba (by rfl) GI (by rfl) (@ak _ _ _ _ _ (pv 1) (@ak _ _ _ _ _ (c9 (by rfl) GO (by rfl) (show aE (.ty "list") (.type "list") from rfl)) af rfl) rfl)))) (aq (oo)) aM)
   (aj (dZ PassesOwn.never rfl (jD (pv 1) (by rfl) GK) (bZ rfl (aB (av (i:=2) ja.nd rfl (Or.inl rfl)) (aB (av (i:=3) ja.nd rfl (Or.inl rfl)) bz)))
   (aq (bw (bB (bJ (ax FT HR (by rfl) mT kT bT .nil ag (@ak _ _ _ _ _ (pv 0) (@ak _ _ _ _ _ (pv 3) af rfl) rfl)))) (aq (oo)) aM)))
   (aq (aA (pv 1)))))),?_⟩
  rcases h with⟨rfl,q⟩|⟨l,ys,rfl,hl,hlen,Rg,q⟩
  ·refine⟨_,rfl,rfl,_,rfl,?_⟩;exact b7 ⟨Nat.zero_le _,λl hl=>q l hl⟩
  ·refine⟨_,rfl,rfl,_,rfl,bx ?_⟩;refine⟨_,rfl,.ref l,.ty "list",_,_,_,rfl,rfl,.of (.lst hl),rfl,_,rfl,bx ?_⟩;refine⟨_,rfl,l,ys,rfl,aN.of hl,?_⟩;refine⟨λi m σ' H'=>m=ys.length-i/\i<=ys.length/\aC H H'/\∃o1 o2,σ'=[some (.ref s0),some (.ref l),o1,o2],⟨ys.length,by simp,Nat.zero_le _,aC.refl _,none,none,rfl⟩,?_⟩;rintro i m σ' H' ⟨rfl,hi,sH,o1,o2,rfl⟩;have IF:=sH _ _ hl
   by_cases GR:i<ys.length
   ·refine .inr ⟨⟨ys,ys[i],aN.of IF,by simp[GR]⟩,λσ' H'=>i+1<=ys.length/\aC H H'/\∃o1 o2,σ'=[some (.ref s0),some (.ref l),o1,o2],?_,λv H2 hv=>?_⟩
    ·rintro σ' H' ⟨h1,h2,h3⟩;exact⟨ys.length-(i+1),by omega,rfl,h1,h2,h3⟩
    ·obtain⟨T,y,hy,hT,rfl,rfl⟩:=hv;have ey:=hy ys (aN.of IF)
     have s2:aC H (upd H' T (.tup [.int i,y])):=λc u e=>by
      rw[ar (au (sH _ _ e) hT)];exact sH _ _ e
     have ty:=(Rg y (List.mem_of_getElem? ey)).same s2;refine⟨T,_,rfl,bo.of ae,rfl,_,_,rfl,_,_,rfl,rfl,?_⟩;refine⟨_,rfl,_,rfl,s0,dx,p,y,true,rfl,s2 _ _ hs,hp,ty,λH3 s3=>⟨_,rfl,bx ?_⟩⟩;exact⟨GR,λc u e=>s3 _ _ (s2 _ _ e),_,_,rfl⟩
   ·refine .inl ⟨⟨ys,aN.of IF,by omega⟩,?_⟩;exact⟨_,rfl,q _ sH⟩
end K75
namespace Srt
open PySem PySem.W PyProof.Rows L2
def md (sp:Sp):List V->Hp->(List V->Hp->Prop)->Prop
 |[],H,R=>R [] H
 |x::xs,H,R=>sp [x] H (λk H1=>md sp xs H1 λks H2=>R (k::ks) H2) λ_ _ _=>False
variable {b:Addr}{ob:Obj}
section
variable {X:Cx}{pins:List (Addr×Obj)}{σ:L2.St}{H:Hp}{s:GB}
theorem u5 {D:Addr}{o:HO}(I:Inv X pins σ H s)(f:cg X pins H D)(hD:X.s₀.heap.objs.size<=D)(new:bt X.prog X.w (upd H D o) s.heap D o):Inv X pins σ (upd H D o) s:=by
 obtain⟨f0,f1,f2,f3,f4,f5⟩:=f;have u:=I.base;refine⟨I.ok,I.os,I.bare,⟨u.keep,u.slot,λb' o' e n hx=>?_,u.there,λb' xs e=>?_,λb' o' u' e=>?_,λb' ps e=>?_⟩,I.loc,I.cell,?_,λx c e=>?_,λp hp=>?_,dQ I.hok f0 new,I.len⟩
 ·rw[ar (Nat.ne_of_lt (Nat.lt_of_lt_of_le (Heap.lt_size e) hD))];exact u.free b' o' e n hx
 ·rw[ar (au (u.aao b' xs e) f0)];exact u.aao b' xs e
 ·rw[ar (au (u.aal b' o' u' e) f0)];exact u.aal b' o' u' e
 ·obtain⟨m,q⟩:=u.aau b' ps e;exact⟨m,by rw[ar (au q f0)];exact q⟩
 ·rw[ar (Ne.symm f1)];exact I.free
 ·rw[ar (f4 x c e)];exact I.aam x c e
 ·obtain⟨e,n,r⟩:=I.pin p hp;exact⟨e,by rw[ar (f5 p hp)];exact n,r⟩
theorem zQ {c:Addr}(f:cg X pins H b)(h:c≠b):cg X (pins++[(c,ob)]) H b:=by
 obtain⟨f0,f1,f2,f3,f4,f5⟩:=f;refine⟨f0,f1,f2,f3,f4,λp hp=>?_⟩;rw[<-List.append_assoc] at hp
 rcases List.mem_append.mp hp with z|z
 ·exact f5 p z
 ·have e:p=(c,ob):=by simpa using z
  subst e;exact h
theorem nC {H':Hp}(f:cg X pins H b)(h:H' b=none):cg X pins H' b:=⟨h,f.2⟩
theorem rO (I:Inv X pins σ H s)(f:cg X pins H b)(e:s.heap.get? b=some ob)(d:∀v,ob.data≠.cell v):Inv X (pins++[(b,ob)]) σ H s:=I.aah λp hp=>by
 rcases List.mem_append.mp hp with z|z
 ·exact I.pin p (List.mem_append_right _ z)
 ·have e1:p=(b,ob):=by simpa using z
  subst e1;exact⟨e,f.1,f.2.1,f.2.2.1,d⟩
theorem l7 (I:Inv X (pins++[(b,ob)]) σ H s):Inv X pins σ H s:=I.aah λp hp=>I.pin p (List.mem_append_right _ (List.mem_append_left _ hp))
theorem v8 (I:Inv X (pins++[(b,ob)]) σ H s):s.heap.get? b=some ob/\H b=none:=by
 obtain⟨e,n,_⟩:=I.pin (b,ob) (List.mem_append_right _ (List.mem_append_right _ (by simp)));exact⟨e,n⟩
end
theorem kF {c:String}{xs:t6}{n:Nat}:∀v,(seqObj c xs n).data≠.cell v:=λv z=>by cases z
variable {H:Hp}{s:GB}{Q:VK}
section
variable {X:Cx}{pins:List (Addr×Obj)}{σ:L2.St}{k:Nat}{f:Addr}{fd:EK}{ps:zF}{sp:Sp}{A:Around}{E:pL}
theorem xY {x:V}{u:Value}(F:Bp X.prog X.w X.K X.mg X.base (bf X.prog X.w) k f fd ps sp)(hr:wK k A)(hA:∀H s,Inv X pins σ H s->BP X.prog X.w X.K X.mg X.base A X.stack s H)(hb:ay X.K fd ps [])(I:Inv X pins σ H s)(r:aE x u)(h:sp [x] H Q λ_ _ _=>False):
 wpAny (model X.prog X.w) A (call (.ref f) [u]) (EP X pins σ Q) (λ_ _=>False) s:=by
 have hl:([u]:nv).length+([]:nv).length=ps.length:=by have:=F.len _ _ _ _ h;simpa using this
 have bd:=hb s [u] I.kIn hl;rw[List.append_nil] at bd;refine wpAny_call (codeAny_mono (F.run A X.stack s H ⟨[u],[]⟩ [u] [x] Q _ hr (hA H s I) bd (.cons r .nil) h) λres s' hq=>?_)
 cases res with
 |error e =>
  obtain⟨a,cls,a0,B,d,H',_,_,_,_,hE⟩:=hq;exact hE.elim
 |ok fl =>
  cases fl with
  |ret v=>exact I.after hq
  |next=>exact False.elim hq
  |brk=>exact False.elim hq
  |cont=>exact False.elim hq
end
abbrev j6 (X:Cx)(xs:List V)(Q:VK):List V->Hp->Prop:=λks H2=>∃kz,dI X.K H2 ks kz/\kz.Nodup/\∀D,H2 D=none->Q (.ref D) (upd H2 D (.lst ((dH (kz.zip xs)).map (·.2))))
variable {xs:List V}
section
variable {X:Cx}{pins:List (Addr×Obj)}{σ:L2.St}{k:Nat}{f:Addr}{fd:EK}{ps:zF}{sp:Sp}{A:Around}{E:pL}
theorem zJ {ks vs:nv}(h:ks.length=vs.length):((ks.toArray.zip vs.toArray).map (·.2))=vs.toArray:=by
 apply Array.toList_inj.mp;rw[Array.toList_map,ksk_zip];simp only[List.toList_toArray] at *;exact List.map_snd_zip (by omega)
theorem ui {D kS:Addr}{e1 c:Nat}{kV:List V}{us ks:nv}{P:PySem.Fin->Shared->Prop}(hA:A.units+2<cLine)(hD:X.s₀.heap.objs.size<=D)(fD:cg X pins H D)(fS:cg X pins H kS)(ne:kS≠D)
 (I:Inv X pins σ H s)(eD:s.heap.get? D=some (seqObj "list" #[] e1))(eS:s.heap.get? kS=some (seqObj "list" ks.toArray c))(rx:aL xs us)(LM:aL kV ks)(hl:kV.length=xs.length)(h64:xs.length<64)(w:j6 X xs Q kV H)
 (hP:∀s',EP X pins σ Q (.ref D) s'->P (.done (.ret .none)) s'):wpAny (model X.prog X.w) A (ksk_end D false us.toArray e1 (.ref kS) ks.toArray) P E s:=by
 obtain⟨kz,hk,nd,q⟩:=w;have l1:=rx.length;have l2:=LM.length;have l3:=hk.len;have inj:=Ca nd
 have fin:∀p,Pm xs.length (rk kz) p->Up (rk kz) p xs.length->∀st:SortSt,(arrOf st).map (·.2)=(gP us p).toArray->failedOf st=none->wpAny (model X.prog X.w) A (ksk_tail D false e1 (.ref kS) st) P E s:=λp pm up st Su hf=>by
  have Sv:=xA rx pm (Nat.le_refl _);rw[wz (by omega) nd pm up] at Sv
  have hlen:((dH (kz.zip xs)).map (·.2)).length<=sizeLine:=by
   rw[List.length_map,(dq _).length_eq,List.length_zip];exact Nat.le_trans (Nat.min_le_right _ _) (gh h64)
  have Kt:(gP us p).toArray.size<=sizeLine:=by rw[List.size_toArray,<-Sv.length];exact hlen
  have Ku:=Heap.SameBut.update s.heap kS (Obj.mapSeq λ_=>(#[]:t6));have K0:(s.heap.update kS (Obj.mapSeq λ_=>(#[]:t6))).get? D=some (seqObj "list" #[] e1):=(Ku.2 D (Ne.symm ne)).trans eD;have I1:Inv X pins σ H {s with heap:=s.heap.update kS (Obj.mapSeq λ_=>(#[]:t6))}:=cj I fS Ku;unfold ksk_tail;dsimp only;rw[Su];refine wpAny_bind (listUpdate_at eS rfl (wpAny_bind (wpAny_letGo ?_)) (by rw[List.size_toArray,<-l2,hl];exact gh h64) (Nat.zero_le _));generalize s.heap.update kS (Obj.mapSeq λ_=>(#[]:t6))=h1 at K0 I1 |-;have Rh:=Heap.SameBut.update h1 D (Obj.mapSeq λ_=>(gP us p).toArray);obtain⟨c2,Je⟩:∃c2,(h1.update D (Obj.mapSeq λ_=>(gP us p).toArray)).get? D=some (seqObj "list" (gP us p).toArray c2):=⟨_,get?_update_seq K0 λ_=>(gP us p).toArray⟩;have I2:Inv X pins σ H {s with heap:=h1.update D (Obj.mapSeq λ_=>(gP us p).toArray)}:=cj (s:={s with heap:=h1}) I1 fD Rh;have I3:=u5 (o:=.lst ((dH (kz.zip xs)).map (·.2))) I2 fD hD ⟨hlen,_,c2,Sv,Je⟩;refine wpAny_bind (seqEpoch_at K0 rfl (wpAny_bind (listUpdate_at K0 rfl ?_ (Nat.zero_le _) (Nat.le_succ_of_le Kt))));rw[hf];simp only[bne_self_eq_false,Bool.false_eq_true,if_false];exact wpAny_pure (hP _ ⟨.ref D,_,I3,rfl,q D fD.1⟩)
 have P0:Pm xs.length (rk kz) (List.range xs.length).toArray:=tm (λi j hi hj=>inj i j (by omega) (by omega)) (Array.Perm.refl _);unfold ksk_end;dsimp only;rw[if_neg Bool.false_ne_true];simp only[Bool.false_eq_true,if_false]
 by_cases h2:us.toArray.size<2
 ·have small:xs.length<2:=by rw[l1];simpa using h2
  rw[if_pos h2,if_pos h2];refine wpAny_bind (wpAny_pure ?_);rw[StateT.run_pure];refine wpAny_bind (wpAny_pure ?_);refine fin (List.range xs.length).toArray P0 (λi j IA hj=>by omega) _ ?_ rfl;show(ks.toArray.zip us.toArray).map (·.2)=_;rw[zJ (by omega),l1,xE]
 ·have big:2<=us.length:=by simpa using h2
  rw[if_neg h2,if_neg h2];obtain⟨κ,Jj,Sw⟩:=qv (A:=A) I hA hk LM nd (by omega);refine wpAny_bind (wpAny_mono (Jj (λκ' s0=>(kas_sort us.length).kasWp (kas_ask X.prog X.w A κ' ks) (λp s'=>s'=s/\Pm us.length (rk kz) p/\Up (rk kz) p us.length) s0) (yt (n:=us.length) (r:=rk kz) (λi j hi hj=>inj i j (by omega) (by omega)) (λi j C hi hj=>Sw i j C (by omega) (by omega)) (by omega) λp pm up=>⟨rfl,pm,up⟩)) (λκ' s0 hw=>?_) λ_ _ x=>x.elim);refine wpAny_bind (wpAny_mono (kat_run (κ:=κ') (Q:=λHz s'=>∃p:Array Nat,arrOf Hz=p.map (kas_item (ks.toArray.zip us.toArray))/\failedOf Hz=none/\s'=s/\Pm us.length (rk kz) p/\Up (rk kz) p us.length) (by omega) big (by omega) (λp' Hz s' _ a2 a3 a4=>⟨p',a2,a3,a4⟩) hw) ?_ λ_ _ e=>e);rintro⟨⟨⟩,Hz⟩ s' ⟨p,Su,hf,rfl,pm,up⟩;exact fin p (by rw[l1];exact pm) (by rw[l1];exact up) Hz (kat_snds (by omega) Su) hf
theorem wM {α:Type}{l:List α}{j:Nat}{x:α}(h:l[j]?=some x):l.drop j=x::l.drop (j+1):=by
 obtain⟨hj,e⟩:=List.getElem?_eq_some_iff.mp h;rw[List.drop_eq_getElem_cons hj,e]
theorem lI {D:Addr}{n:Nat}{us:nv}{P:PySem.Fin->Shared->Prop}(F:Bp X.prog X.w X.K X.mg X.base (bf X.prog X.w) k f fd ps sp)(hr:wK k A)(hE:∀pins' H s,Inv X pins' σ H s->BP X.prog X.w X.K X.mg X.base A X.stack s H)(hb:ay X.K fd ps [])
 (hD:X.s₀.heap.objs.size<=D)(fD:cg X pins H D)(I:Inv X pins σ H s)(eD:s.heap.get? D=some (seqObj "list" us.toArray n))(rx:aL xs us)(h64:xs.length<64)(h:md sp xs H (j6 X xs Q))
 (hP:∀s',EP X pins σ Q (.ref D) s'->P (.done (.ret .none)) s'):wpAny (model X.prog X.w) A (ksk_tree D (.ref f) false) P E s:=by
 have l1:=rx.length
 have Y9:us.toArray.size<=sizeLine:=by rw[List.size_toArray,<-l1];exact gh h64
 obtain⟨e1,K0⟩:∃e1,(s.heap.update D (Obj.mapSeq λ_=>(#[]:t6))).get? D=some (seqObj "list" #[] e1):=⟨_,get?_update_seq eD λ_=>#[]⟩;have I1:Inv X pins σ H {s with heap:=s.heap.update D (Obj.mapSeq λ_=>(#[]:t6))}:=cj I fD (Heap.SameBut.update _ _ _);unfold ksk_tree;refine wpAny_bind (listItems_at eD rfl (wpAny_bind (listUpdate_at eD rfl (wpAny_bind (seqEpoch_at K0 rfl (wpAny_bind (wpAny_newTuple ?_ (by show us.length<=_;rw[<-l1];exact gh h64))))) Y9 (Nat.zero_le _))));refine wpAny_bind (wpAny_newList (wpAny_holding ?_) (Nat.zero_le _));generalize s.heap.update D (Obj.mapSeq λ_=>(#[]:t6))=h1 at K0 I1 |-;dsimp only;have I2:Inv X pins σ H {s with heap:=h1.push (seqObj "tuple" us.toArray 0)}:=I1.kept (t':=s.toks) λb o q=>Heap.get?_push_of_some _ q;have Sx:(h1.push (seqObj "tuple" us.toArray 0)).get? D=some (seqObj "list" #[] e1):=Heap.get?_push_of_some _ K0;show wpAny (model X.prog X.w) A (ksk_rest D (.ref f) false us.toArray e1 (.ref (h1.push (seqObj "tuple" us.toArray 0)).objs.size)) P E {s with heap:=(h1.push (seqObj "tuple" us.toArray 0)).push (seqObj "list" #[] 0)};generalize h1.push (seqObj "tuple" us.toArray 0)=h2 at I2 Sx |-;have ne:h2.objs.size≠D:=Nat.ne_of_gt (Heap.lt_size Sx);have Sy:cg X pins H h2.objs.size:=I2.aaJ (Nat.le_refl _) (I2.hok.fresh (Nat.le_refl _));have I3:Inv X pins σ H {s with heap:=h2.push (seqObj "list" #[] 0)}:=I2.kept (t':=s.toks) λb o q=>Heap.get?_push_of_some _ q;have Za:(h2.push (seqObj "list" #[] 0)).get? D=some (seqObj "list" #[] e1):=Heap.get?_push_of_some _ Sx;have Wy:(h2.push (seqObj "list" #[] 0)).get? h2.objs.size=some (seqObj "list" ([]:nv).toArray 0):=Heap.get?_push_size _ rfl;have Zb:∀{H':Hp},H' D=none->cg X pins H' D:=λz=>nC fD z;have Sz:∀{H':Hp},H' h2.objs.size=none->cg X pins H' h2.objs.size:=λz=>nC Sy z;generalize h2.objs.size=kS at ne Sy Wy Sz |-;unfold ksk_rest;refine wpAny_bind (wpAny_rule ?_);rw[List.forIn_toArray]
 let II:Nat->Shared->Prop:=λj s'=>∃(H':Hp)(c:Nat)(kV:List V)(ks:nv),Inv X (pins++[(D,seqObj "list" #[] e1)]) σ H' s'/\s'.heap.get? kS=some (seqObj "list" ks.toArray c)/\H' kS=none/\aL kV ks/\kV.length=j/\md sp (xs.drop j) H' λk2 H2=>j6 X xs Q (kV++k2) H2
 have I4:Inv X (pins++[(D,seqObj "list" #[] e1)]) σ H {s with heap:=h2.push (seqObj "list" #[] 0)}:=rO I3 fD Za kF;refine wpAny_bind (wpAny_mono (ksk_fold (E:=E) (Q:=λ_ s'=>II us.length s') II us 0 {s with heap:=h2.push (seqObj "list" #[] 0)} ⟨H,0,[],[],I4,Wy,Sy.1,.nil,rfl,by simpa using h⟩ (λj u s' hu hI=>?_) λs' hd=>by simpa using hd) (λ_ s' hI=>?_) λ_ _ e=>e)
 ·rw[Nat.zero_add] at hI |-;obtain⟨H',c,kV,ks,J,eS,nS,LM,hl,t⟩:=hI;have hj:j<us.length:=(List.getElem?_eq_some_iff.mp hu).1;obtain⟨x,hx⟩:∃x,xs[j]?=some x:=⟨xs[j]'(by omega),by simp[show j<xs.length by omega]⟩;obtain⟨u',Wz,Zc⟩:=rx.get hx;rw[hu] at Wz
  cases Wz
  rw[wM hx] at t;have WA:cg X (pins++[(D,seqObj "list" #[] e1)]) H' kS:=zQ (Sz nS) (Ne.symm ne);have J2:=rO J WA eS kF;refine wpAny_bind (wpAny_attempt (wpAny_mono (xY F hr (hE _) hb J2 Zc t) (λkv s2 hk=>?_) λ_ _ z=>z.elim));obtain⟨v,H2,J3,rv,t2⟩:=hk;obtain⟨WB,WC⟩:=v8 J3;have J4:=l7 J3;have Zd:cg X (pins++[(D,seqObj "list" #[] e1)]) H2 kS:=nC WA WC
  have ea:ks.toArray.push kv=(ks++[kv]).toArray:=by simp
  obtain⟨c2,Je⟩:∃c2,(s2.heap.update kS (Obj.mapSeq (·.push kv))).get? kS=some (seqObj "list" (ks++[kv]).toArray c2):=⟨_,by rw[<-ea];exact get?_update_seq WB (·.push kv)⟩;have lk:=LM.length;refine wpAny_bind (listUpdate_at WB rfl ?_ (by rw[List.size_toArray];exact gh (by omega)) (Nat.le_trans (Nat.le_of_eq (Array.size_push ..)) (by rw[List.size_toArray];exact Nat.succ_le_succ (gh (by omega)))));refine wpAny_pure ⟨rfl,H2,c2,kV++[v],ks++[kv],cj J4 Zd (Heap.SameBut.update _ _ _),Je,WC,LM.append (.cons rv .nil),by simp[hl],?_⟩
  have e:∀k2:List V,kV++[v]++k2=kV++v::k2:=λk2=>by simp
  simp only[e];exact t2
 ·obtain⟨H',c,kV,ks,J,eS,nS,LM,hl,t⟩:=hI;rw[<-l1,List.drop_length] at t
  have w:j6 X xs Q kV H':=by
   have z:j6 X xs Q (kV++[]) H':=t;rwa[List.append_nil] at z
  obtain⟨Ze,nD⟩:=v8 J;refine wpAny_bind (listItems_at eS rfl ?_);exact ui (by have:=hr.units;omega) hD (Zb nD) (Sz nS) ne (l7 J) Ze eS rx LM (by omega) h64 w hP
theorem qQ {l:Addr}(F:Bp X.prog X.w X.K X.mg X.base (bf X.prog X.w) k f fd ps sp)(hr:wK (k+2) X.A)(hb:ay X.K fd ps [])
 (I:Inv X pins σ H s)(hl:aN X.K H l xs)(h64:xs.length<64)(h:md sp xs H (j6 X xs Q)):wpAny (model X.prog X.w) X.A (call (.builtin "sorted") [.ref l] [(Str.ofString "key",.ref f)]) (EP X pins σ Q) E s:=by
 obtain⟨us,rx,pl,_⟩:=I.list hl;have l1:=rx.length;refine call_function_entry_kw kind_sorted plain_sorted entry_sorted (ksk_s1 _ _) ?_;unfold Builtin.«sorted»;refine wpAny_bind (m:=checkCount "sorted" 1 1 _) (wpAny_pure (wpAny_bind (collect_list pl.isList (wpAny_bind (wpAny_newList ?_ (gh (by omega)))) (gh (by omega)))))
 have sz:((s.heap.push (seqObj "list" #[] 0)).update s.heap.objs.size (Obj.mapSeq (·++us.toArray))).objs.size=s.heap.objs.size+1:=by rw[Heap.size_update];exact size_push' _ _
 have SA:(((s.heap.push (seqObj "list" #[] 0)).update s.heap.objs.size (Obj.mapSeq (·++us.toArray))).push (seqObj "list" us.toArray 0)).get? (s.heap.objs.size+1)=some (seqObj "list" us.toArray 0):=by
  rw[<-sz];exact Heap.get?_push_size _ rfl
 have old:∀b o,s.heap.get? b=some o->(((s.heap.push (seqObj "list" #[] 0)).update s.heap.objs.size (Obj.mapSeq (·++us.toArray))).push (seqObj "list" us.toArray 0)).get? b=some o:=λb o q=>by
  have lt:b<s.heap.objs.size:=Heap.lt_size q;refine Heap.get?_push_of_some _ ?_;rw[Heap.get?_update_ne _ _ _ _ (Nat.ne_of_lt lt)];exact Heap.get?_push_of_some _ q
 show wpAny _ _ _ _ _ {s with heap:=((s.heap.push (seqObj "list" #[] 0)).update s.heap.objs.size (Obj.mapSeq (·++us.toArray))).push (seqObj "list" us.toArray 0)};rw[sz];generalize ((s.heap.push (seqObj "list" #[] 0)).update s.heap.objs.size (Obj.mapSeq (·++us.toArray))).push (seqObj "list" us.toArray 0)=h5 at SA old |-;have I5:Inv X pins σ H {s with heap:=h5}:=I.kept (t':=s.toks) old;have fD:cg X pins H (s.heap.objs.size+1):=I.aaJ (Nat.le_succ _) (I.hok.fresh (Nat.le_succ _));refine wpAny_bind (wpAny_holding (wpAny_call_entry_kw slot_list_sort ⟨_,SA,rfl⟩ entry_list_sort ?body (ksk_l1 _ _)))
 case body =>
  show wpAny (model X.prog X.w) X.A.in1.in1 (Builtin.«list.sort» ⟨[.ref (s.heap.objs.size+1)],[(Str.ofString "key",.ref f)]⟩) _ _ _;rw[ksk_t1];exact lI (A:=X.A.in1.in1) F hr.in1.in1 (λpins' H' s' J=>J.abB.in1.in1) hb (Nat.le_trans I.sz (Nat.le_succ _)) fD I5 SA rx h64 h λs' q=>⟨_,rfl,wpAny_pure ⟨_,rfl,q⟩⟩
end
def Ce (X:Cx)(sp:Sp)(ta:TE):TE:=λσ H Q=>dm ta Br σ H λvs H1=>∃l xs,vs=[.ref l]/\aN X.K H1 l xs/\xs.length<64/\md sp xs H1 (j6 X xs Q)
section
variable {X:Cx}{k:Nat}{f:Addr}{fd:EK}{ps:zF}{sp:Sp}{e:Expr}{ta:TE}{x:Str}{p p2 kpos pos:Pos}
theorem pF (F:Bp X.prog X.w X.K X.mg X.base (bf X.prog X.w) k f fd ps sp)(hr:wK (k+2) X.A)(hb:ay X.K fd ps [])(hg:Gl X "sorted")(hm:X.mg "sorted"=none)(Zf:Gl X x)(Zg:X.mg x=some (.ref f))(ha:PE X e ta)(hs:dB e=false:=by rfl)(hd:(x==("__debug__":Str))=false:=by decide):
 PE X (.Call (.Name "sorted" p) [e] [⟨some "key",.Name x p2,kpos⟩] pos) (Ce X sp ta):=by
 intro pins s σ H Q I h;refine wpAny_Call_Name_kw (cT I hg hm (by rfl) ?_ (by decide) (by decide));refine callWith_builtin_kwB (by rw[aK hs];rfl) rfl (evalArgs_kw2 rfl ?_ (aK hs));refine bA (ak ha af hs pos pins s σ H _ I h) λus s1 z'=>?_;obtain⟨vs,H1,I1,r1,⟨l,xs,hv,hl,h64,ht⟩⟩:=z';subst hv
 cases r1 with
 |cons ra rb =>
  cases rb
  cases ra
  refine kwAll_cons (iu I1 Zf Zg (kwAll_nil ?_) hd);exact qQ F hr hb I1 hl h64 ht
end
end Srt
namespace K75
open PySem L2 PySem.W Nm Srt
variable {n:Nat}{p:Int}
theorem AS {t b:Int}(hp:FP p)(h:B n t)(hb:b≠0)(hn:7<=n):B n (cN p t b):=by
 unfold cN
 by_cases z:p=0
 ·rw[if_pos z];exact h.le (yD hb)
 ·rw[if_neg z];obtain⟨_,p2,Q8⟩:=hp.two z;have h0:=Int.emod_nonneg t (b:=p) (by omega);have h1:=Int.emod_lt_of_pos t (b:=p) (by omega)
  have:B 7 (t%p):=by
   show(t%p).natAbs<2^7;omega
  exact this.mono hn
theorem Bd {n:Nat}{t b:Int}(h:B n b)(hb:b≠0)(hn:1<=n):B n (c5 p t b):=by
 unfold c5
 by_cases z:p=0
 ·rw[if_pos z];exact h.le (yE hb)
 ·rw[if_neg z];exact(show B 1 (1:Int) from(by show(1:Int).natAbs<2^1;decide)).mono hn
abbrev Tm:=List Int×Int×Int
def di (p:Int)(a b:Int×Int):Int×Int:=(cN p (jq a.1 a.2 b.1 b.2) (a.2*b.2),c5 p (jq a.1 a.2 b.1 b.2) (a.2*b.2))
def Gn (p:Int)(n:Nat)(a:Int×Int):Prop:=Num p a.1 a.2/\B n a.1/\B n a.2
theorem Gn.ne {a:Int×Int}(h:Gn p n a):a.2≠0:=by have:=h.1.pos;omega
theorem uA {m:Nat}{a b:Int×Int}(hp:FP p)(ha:Gn p n a)(hb:Gn p m b)(h7:7<=n+m+1):Gn p (n+m+1) (di p a b):=by
 have nz:a.2*b.2≠0:=Int.mul_ne_zero ha.ne hb.ne;refine⟨Num.set hp.nn nz,AS hp ?_ nz h7,(Bd (n:=n+m) (ha.2.2.mul hb.2.2) nz (by omega)).mono (by omega)⟩;have h1:B (n+m) (a.1*b.2):=ha.2.1.mul hb.2.2;have h2:B (n+m) (b.1*a.2):=(hb.2.1.mul ha.2.2).mono (by omega);exact h1.add h2
theorem t7 {b:Int×Int}(hp:FP p)(hb:Gn p n b):di p (0,1) b=b:=by
 obtain⟨h1,h2⟩:=hb.1.self hp.nn;unfold di jq
 have e1:(0:Int)*b.2+b.1*1=b.1:=by omega
 have e2:(1:Int)*b.2=b.2:=by omega
 rw[e1,e2,h1,h2]
def cE (p:Int)(d:List Tm)(t:Tm):List Tm:=if d.any (λe=>decide (e.1=t.1))=true then d.map (λe=>if e.1=t.1 then(e.1,di p e.2 t.2) else e) else d++[t]
def aS (p:Int)(ts:List Tm):List Tm:=ts.foldl (cE p) []
def mr (p:Int)(n:Nat)(d:List Tm):Prop:=∀e∈d,Gn p n e.2
variable {d:List Tm}
theorem ub {m:Nat}{t:Tm}(hp:FP p)(hd:mr p n d)(ht:Gn p m t.2)(h7:7<=n+m+1):mr p (n+m+1) (cE p d t):=by
 have up:∀e∈d,Gn p (n+m+1) e.2:=λe he=>⟨(hd e he).1,(hd e he).2.1.mono (by omega),(hd e he).2.2.mono (by omega)⟩;unfold cE
 split
 ·intro e he;obtain⟨e0,h0,rfl⟩:=List.mem_map.mp he
  by_cases q:e0.1=t.1
  ·rw[if_pos q];exact uA hp (hd e0 h0) ht h7
  ·rw[if_neg q];exact up e0 h0
 ·intro e he
  rcases List.mem_append.mp he with he|he
  ·exact up e he
  ·have:e=t:=by simpa using he
   subst this;exact⟨ht.1,ht.2.1.mono (by omega),ht.2.2.mono (by omega)⟩
theorem ma {t:Tm}(hd:(d.map (·.1)).Nodup):((cE p d t).map (·.1)).Nodup:=by
 unfold cE
 split
 ·rw[List.map_map]
  have:((λe:Tm=>e.1) ∘ λe=>if e.1=t.1 then(e.1,di p e.2 t.2) else e)=λe=>e.1:=by
   funext e
   show(if e.1=t.1 then(e.1,di p e.2 t.2) else e).1=e.1
   split <;> rfl
  rw[this];exact hd
 ·rename_i q
  rw[List.map_append];refine List.nodup_append.mpr ⟨hd,by simp,λa ha b hb z=>?_⟩
  have:b=t.1:=by simpa using hb
  subst this;subst z;obtain⟨e,he,e1⟩:=List.mem_map.mp ha;exact q (List.any_eq_true.mpr ⟨e,he,by simpa using e1⟩)
theorem xt {t:Tm}:(cE p d t).length<=d.length+1:=by
 unfold cE
 split <;> simp
def fN (t:Tm):Ky:=(t.1.length,t.1)
def fZ (d:List Tm):List Tm:=(dH ((d.filter λe=>e.2.1 != 0).map λe=>(fN e,e))).map (·.2)
theorem jl (p:Int)(ts:List Tm)(t:Tm):aS p (ts++[t])=cE p (aS p ts) t:=by
 unfold aS;rw[List.foldl_append];rfl
theorem eW {m:Nat}(hp:FP p):∀(n:Nat)(ts:List Tm),ts.length=n->(∀t∈ts,Gn p m t.2)->mr p ((m+1)*n+7) (aS p ts)/\((aS p ts).map (·.1)).Nodup/\(aS p ts).length<=n
 |0,ts,hn,_=>by
  have:ts=[]:=List.length_eq_zero_iff.mp hn;subst this;refine And.intro (λe he=>?_) (And.intro List.nodup_nil (Nat.le_refl 0));exact absurd (show e∈([]:List Tm) from he) (by simp)
 |n+1,ts,hn,h=>by
  obtain⟨Ri,t,rfl⟩:∃Ri t,ts=Ri++[t]:=by
   have HQ:ts≠[]:=by intro z;rw[z] at hn;cases hn
   exact⟨ts.dropLast,ts.getLast HQ,(List.dropLast_concat_getLast HQ).symm⟩
  have hl:Ri.length=n:=by simpa using hn
  obtain⟨g1,g2,g3⟩:=eW hp n Ri hl λt ht=>h t (List.mem_append_left _ ht);rw[jl];have gt:=h t (List.mem_append_right _ (by simp));have e2:(m+1)*(n+1)=(m+1)*n+(m+1):=Nat.mul_succ _ _;refine⟨λe he=>?_,ma g2,Nat.le_trans xt (by omega)⟩;have:=ub hp g1 gt (by omega) e he;exact⟨this.1,this.2.1.mono (by omega),this.2.2.mono (by omega)⟩
end K75
namespace Nm
open Lean.Grind in
structure Val (p:Int)(R:Type) [CommRing R](v:Int×Int->R):Prop where
 zero:v (0,1)=0
 one:v (1,1)=1
 set:∀{t b:Int}{a c:Int×Int},Num p a.1 a.2->Num p c.1 c.2->(t=a.1*c.2+c.1*a.2->b=a.2*c.2->v (cN p t b,c5 p t b)=v a+v c)/\(t=a.1*c.1->b=a.2*c.2->v (cN p t b,c5 p t b)=v a*v c)
 inj:∀{a c:Int×Int},Num p a.1 a.2->Num p c.1 c.2->v a=v c->a=c
theorem i9 {t b:Int}(h:b≠0):cN 0 t b*b=t*c5 0 t b:=by
 have e1:=sW (t:=t) h;have e2:=mq (t:=t) h;show dW t b*b=t*cD t b;generalize dW t b=x at *;generalize cD t b=y at *;generalize dv t b=d at *;subst e1;subst e2;grind
theorem yK:Val 0 Rat (λa=>Rat.divInt a.1 a.2) where
 zero:=by decide +kernel
 one:=by decide +kernel
 set:=by
  intro t b a c na nc
  have ha:a.2≠0:=by have:=na.pos;omega
  have hc:c.2≠0:=by have:=nc.pos;omega
  have hb:a.2*c.2≠0:=Int.mul_ne_zero ha hc;refine⟨λet eb=>?_,λet eb=>?_⟩
  ·subst eb;subst et
   have hs:c5 0 (a.1*c.2+c.1*a.2) (a.2*c.2)≠0:=by have:=(Num.set (p:=0) (t:=a.1*c.2+c.1*a.2) (Int.le_refl 0) hb).pos;omega
   show Rat.divInt _ _=Rat.divInt _ _+Rat.divInt _ _;rw[Rat.divInt_add_divInt _ _ ha hc,Rat.divInt_eq_divInt_iff hs hb];exact i9 hb
  ·subst eb;subst et
   have hs:c5 0 (a.1*c.1) (a.2*c.2)≠0:=by have:=(Num.set (p:=0) (t:=a.1*c.1) (Int.le_refl 0) hb).pos;omega
   show Rat.divInt _ _=Rat.divInt _ _*Rat.divInt _ _;rw[Rat.divInt_mul_divInt,Rat.divInt_eq_divInt_iff hs hb];exact i9 hb
 inj:=by
  intro a c na nc e
  have ha:a.2≠0:=by have:=na.pos;omega
  have hc:c.2≠0:=by have:=nc.pos;omega
  have e:=(Rat.divInt_eq_divInt_iff ha hc).mp e;obtain⟨h1,h2⟩:=B0 (p:=0) ha nc (Int.le_refl 0) (λ_=>e) (λz=>absurd rfl z);obtain⟨g1,g2⟩:=na.self (Int.le_refl 0);exact Prod.ext (g1.symm.trans h1) (g2.symm.trans h2)
theorem yq {n:Nat} [NeZero n](h2:2<=n):Val (n:Int) (Fin n) (λa=>Fin.ofNat n a.1.toNat) where
 zero:=rfl
 one:=rfl
 set:=by
  intro t b a c na nc
  have hz:(n:Int)≠0:=by omega
  obtain⟨a2,a0,a1⟩:=na.pr hz;obtain⟨c2,c0,c1⟩:=nc.pr hz
  have key:∀x y z:Int,0<=x->0<=y->0<=z->z=x+y->(z%(n:Int)).toNat%n=(x.toNat%n+y.toNat%n)%n:=by
   intro x y z hx hy hz e;obtain⟨x,rfl⟩:∃m:Nat,x=(m:Int):=⟨x.toNat,by omega⟩;obtain⟨y,rfl⟩:∃m:Nat,y=(m:Int):=⟨y.toNat,by omega⟩;subst e;rw[show((x:Int)+(y:Int))%(n:Int)=(((x+y)%n:Nat):Int) from by push_cast;rfl];rw[Int.toNat_natCast,Int.toNat_natCast,Int.toNat_natCast,Nat.mod_mod,Nat.add_mod]
  have SD:∀x y z:Int,0<=x->0<=y->z=x*y->(z%(n:Int)).toNat%n=(x.toNat%n)*(y.toNat%n)%n:=by
   intro x y z hx hy e;obtain⟨x,rfl⟩:∃m:Nat,x=(m:Int):=⟨x.toNat,by omega⟩;obtain⟨y,rfl⟩:∃m:Nat,y=(m:Int):=⟨y.toNat,by omega⟩;subst e;rw[show((x:Int)*(y:Int))%(n:Int)=(((x*y)%n:Nat):Int) from by push_cast;rfl];rw[Int.toNat_natCast,Int.toNat_natCast,Int.toNat_natCast,Nat.mod_mod,Nat.mul_mod]
  refine⟨λet eb=>?_,λet eb=>?_⟩
  ·apply Fin.ext;show(cN (n:Int) t b).toNat%n=(a.1.toNat%n+c.1.toNat%n)%n;unfold cN;rw[if_neg hz];exact key a.1 c.1 t a0 c0 (by rw[et,a2,c2];omega) (by rw[et,a2,c2];omega)
  ·apply Fin.ext;show(cN (n:Int) t b).toNat%n=(a.1.toNat%n)*(c.1.toNat%n)%n;unfold cN;rw[if_neg hz];exact SD a.1 c.1 t a0 c0 et
 inj:=by
  intro a c na nc e
  have hz:(n:Int)≠0:=by omega
  obtain⟨a2,a0,a1⟩:=na.pr hz;obtain⟨c2,c0,c1⟩:=nc.pr hz;have e:a.1.toNat%n=c.1.toNat%n:=congrArg Fin.val e;rw[Nat.mod_eq_of_lt (by omega),Nat.mod_eq_of_lt (by omega)] at e;exact Prod.ext (by omega) (by omega)
theorem BR {p:Int}(hp:p=0\/2<=p):∃(R:Type)(i:Lean.Grind.CommRing R)(v:Int×Int->R),@Val p R i v:=by
 rcases hp with rfl|hp
 ·exact⟨Rat,_,_,yK⟩
 ·obtain⟨n,rfl⟩:∃n:Nat,p=(n:Int):=⟨p.toNat,by omega⟩;have:NeZero n:=⟨by omega⟩;exact⟨Fin n,_,_,yq (by omega)⟩
end Nm
namespace K75
open PySem L2 PySem.W Nm Srt
variable {d ts:List Tm}
section
variable {p:Int}{R:Type} [Lean.Grind.CommRing R]{v:Int×Int->R}
def S (v:Int×Int->R):List Tm->(List Int->R)->R
 |[],_=>0
 |t::ts,F=>v t.2*F t.1+S v ts F
theorem gf (a b:List Tm)(F:List Int->R):S v (a++b) F=S v a F+S v b F:=by
 induction a with
 |nil=>show S v b F=0+S v b F;grind
 |cons t a ih =>
  show v t.2*F t.1+S v (a++b) F=v t.2*F t.1+S v a F+S v b F;rw[ih];grind
theorem Bv {a b:List Tm}(h:a.Perm b)(F:List Int->R):S v a F=S v b F:=by
 induction h with
 |nil=>rfl
 |cons x _ ih=>show _+_=_+_;rw[ih]
 |swap x y l =>
  show v y.2*F y.1+(v x.2*F x.1+S v l F)=v x.2*F x.1+(v y.2*F y.1+S v l F);grind
 |trans _ _ i1 i2=>exact i1.trans i2
def cb (p:Int)(d:List Tm):Prop:=∀e∈d,Num p e.2.1 e.2.2
theorem wJ {a b:Int×Int}(hp:0<=p)(ha:Num p a.1 a.2)(hb:Num p b.1 b.2):Num p (di p a b).1 (di p a b).2 :=
 Num.set hp (Int.mul_ne_zero (by have:=ha.pos;omega) (by have:=hb.pos;omega))
theorem wN {t:Tm}(hp:0<=p)(hd:cb p d)(ht:Num p t.2.1 t.2.2):cb p (cE p d t):=by
 intro e he;unfold cE at he
 split at he
 ·obtain⟨e0,h0,rfl⟩:=List.mem_map.mp he
  by_cases q:e0.1=t.1
  ·rw[if_pos q];exact wJ hp (hd e0 h0) ht
  ·rw[if_neg q];exact hd e0 h0
 ·rcases List.mem_append.mp he with he|he
  ·exact hd e he
  ·have:e=t:=by simpa using he
   rw[this];exact ht
theorem DL (V:Val p R v){x:Int×Int}(hx:Num p x.1 x.2)(k:List Int)(F:List Int->R):∀{d:List Tm},cb p d->(d.map (·.1)).Nodup →
 S v (d.map λe=>if e.1=k then(e.1,di p e.2 x) else e) F=S v d F+(if d.any (λe=>decide (e.1=k))=true then v x*F k else 0)
 |[],_,_=>by show(0:R)=0+0;grind
 |e::d,hn,hd=>by
  rw[List.map_cons] at hd;obtain⟨h1,h2⟩:=List.nodup_cons.mp hd;have MK:cb p d:=λe he=>hn e (List.mem_cons_of_mem _ he);have ih:=DL V hx k F MK h2;rw[List.map_cons,List.any_cons]
  by_cases q:e.1=k
  ·have no:d.any (λe=>decide (e.1=k))=false:=by
    rw[List.any_eq_false];intro e' Ju z
    have:e'.1=k:=by simpa using z
    exact h1 (List.mem_map.mpr ⟨e',Ju,by rw[this,q]⟩)
   rw[no,if_neg (by simp)] at ih;rw[if_pos q,no,decide_eq_true q];have ev:v (di p e.2 x)=v e.2+v x:=(V.set (hn e List.mem_cons_self) hx).1 rfl rfl;show v (di p e.2 x)*F e.1+S v (d.map _) F=v e.2*F e.1+S v d F+v x*F k;rw[ih,ev,q];grind
  ·rw[if_neg q,decide_eq_false q,Bool.false_or];show v e.2*F e.1+S v (d.map _) F=v e.2*F e.1+S v d F+_;rw[ih];grind
theorem A0 (V:Val p R v){t:Tm}(hn:cb p d)(ht:Num p t.2.1 t.2.2)(hd:(d.map (·.1)).Nodup)(F:List Int->R):S v (cE p d t) F=S v d F+v t.2*F t.1:=by
 unfold cE
 split
 ·rename_i q
  rw[DL V ht t.1 F hn hd,if_pos q]
 ·rw[gf];show S v d F+(v t.2*F t.1+0)=_;grind
theorem rQ (V:Val p R v)(hp:0<=p)(F:List Int->R):∀(ts d:List Tm),cb p ts->cb p d->(d.map (·.1)).Nodup →
 S v (ts.foldl (cE p) d) F=S v d F+S v ts F/\cb p (ts.foldl (cE p) d)/\((ts.foldl (cE p) d).map (·.1)).Nodup
 |[],d,_,hn,hd=>⟨by show S v d F=S v d F+0;grind,hn,hd⟩
 |t::ts,d,ht,hn,hd=>by
  have h1:=ht t List.mem_cons_self;obtain⟨i1,i2⟩:=rQ V hp F ts (cE p d t) (λe he=>ht e (List.mem_cons_of_mem _ he)) (wN hp hn h1) (ma hd);refine⟨?_,i2⟩;show S v (ts.foldl (cE p) (cE p d t)) F=S v d F+(v t.2*F t.1+S v ts F);rw[i1,A0 V hn h1 hd];grind
theorem gw (V:Val p R v)(hp:0<=p)(h:cb p ts)(F:List Int->R):S v (aS p ts) F=S v ts F/\cb p (aS p ts)/\((aS p ts).map (·.1)).Nodup:=by
 obtain⟨h1,h2⟩:=rQ V hp F ts [] h (λe he=>nomatch he) List.nodup_nil;refine⟨?_,h2⟩;show S v (ts.foldl (cE p) []) F=_;rw[h1];show(0:R)+S v ts F=S v ts F;grind
theorem xD {t b:Int}(h:Num p t b)(z:t=0):b=1:=by
 have:=h.red;have:=h.pos;rw[z,Int.gcd_zero_left] at *;omega
theorem pB (V:Val p R v)(F:List Int->R):∀{d:List Tm},cb p d->S v (d.filter λe=>e.2.1 != 0) F=S v d F
 |[],_=>rfl
 |e::d,h=>by
  have ih:=pB V F (d:=d) λe he=>h e (List.mem_cons_of_mem _ he)
  by_cases q:e.2.1=0
  ·rw[List.filter_cons_of_neg (by simp[q]),ih];have e2:e.2=(0,1):=Prod.ext q (xD (h e List.mem_cons_self) q);show _=v e.2*F e.1+S v d F;rw[e2,V.zero];grind
  ·rw[List.filter_cons_of_pos (by simp[q])];show v e.2*F e.1+S v _ F=v e.2*F e.1+S v d F;rw[ih]
theorem dM (d:List Tm):(fZ d).Perm (d.filter λe=>e.2.1 != 0):=by
 unfold fZ;have h:=(dq ((d.filter λe=>e.2.1 != 0).map λe=>(fN e,e))).map (·.2);rw[List.map_map] at h;have e:((λx:Ky×Tm=>x.2) ∘ λe=>(fN e,e))=id:=rfl;rw[e,List.map_id] at h;exact h
theorem Bg (V:Val p R v)(h:cb p d)(F:List Int->R):S v (fZ d) F=S v d F:=by
 rw[Bv (dM d),pB V F h]
theorem w6 (h:cb p d):cb p (fZ d):=λe he=>h e (List.mem_filter.mp ((dM d).mem_iff.mp he)).1
theorem Et (V:Val p R v)(hp:0<=p)(h:cb p ts)(F:List Int->R):S v (fZ (aS p ts)) F=S v ts F:=by
 obtain⟨h1,h2,_⟩:=gw V hp h F;rw[Bg V h2,h1]
theorem Cf (V:Val p R v)(hp:0<=p)(h:cb p ts):cb p (fZ (aS p ts)):=w6 (gw V hp h λ_=>0).2.1
def dl (k:List Int):List Int->R:=λi=>if i=k then 1 else 0
theorem BA {k:List Int}:∀{d:List Tm},k∉d.map (·.1)->S v d (dl k)=0
 |[],_=>rfl
 |e::d,h=>by
  rw[List.map_cons,List.mem_cons,not_or] at h;show v e.2*(if e.1=k then 1 else 0)+S v d (dl k)=0;rw[if_neg (λz=>h.1 z.symm),BA h.2];grind
theorem BF:∀{d:List Tm}{e:Tm},(d.map (·.1)).Nodup->e∈d->S v d (dl e.1)=v e.2
 |x::d,e,hd,he=>by
  rw[List.map_cons] at hd;obtain⟨h1,h2⟩:=List.nodup_cons.mp hd;show v x.2*(if x.1=e.1 then 1 else 0)+S v d (dl e.1)=v e.2
  rcases List.mem_cons.mp he with rfl|he
  ·rw[if_pos rfl,BA h1];grind
  ·rw[if_neg (λz=>h1 (List.mem_map.mpr ⟨e,he,z.symm⟩)),BF h2 he];grind
theorem pN (V:Val p R v){c:List Tm}(hn:cb p d)(hd:(d.map (·.1)).Nodup)(cn:cb p c)(cd:(c.map (·.1)).Nodup)(h:∀F:List Int->R,S v d F=S v c F){e:Tm}(he:e∈d.filter λe=>e.2.1 != 0):e∈c.filter λe=>e.2.1 != 0:=by
 obtain⟨h1,h2⟩:=List.mem_filter.mp he;refine List.mem_filter.mpr ⟨?_,h2⟩;have e1:=BF (v:=v) hd h1;rw[h] at e1
 by_cases k:e.1∈c.map (·.1)
 ·obtain⟨e',Ju,ek⟩:=List.mem_map.mp k;have e2:=BF (v:=v) cd Ju;rw[ek,e1] at e2;have e3:=V.inj (hn e h1) (cn e' Ju) e2;have:e=e':=Prod.ext ek.symm e3;rw[this];exact Ju
 ·rw[BA k] at e1;have e3:=V.inj (a:=(0,1)) (c:=e.2) ⟨by decide,by decide,λz=>⟨rfl,by decide,?_⟩⟩ (hn e h1) (V.zero.trans e1)
  ·rw[<-e3] at h2;exact absurd h2 (by decide)
  ·have:=((hn e h1).pr z).2;show(0:Int)<p;omega
theorem oZ (h:(d.map (·.1)).Nodup):d.Nodup:=by
 induction d with
 |nil=>exact List.nodup_nil
 |cons e d ih =>
  rw[List.map_cons] at h;obtain⟨h1,h2⟩:=List.nodup_cons.mp h;exact List.nodup_cons.mpr ⟨λz=>h1 (List.mem_map.mpr ⟨e,z,rfl⟩),ih h2⟩
theorem zj (V:Val p R v){c:List Tm}(hn:cb p d)(hd:(d.map (·.1)).Nodup)(cn:cb p c)(cd:(c.map (·.1)).Nodup)(h:∀F:List Int->R,S v d F=S v c F):fZ d=fZ c:=by
 have nd:=(oZ hd).filter (λe:Tm=>e.2.1 != 0);have nc:=(oZ cd).filter (λe:Tm=>e.2.1 != 0);have pm:(d.filter λe=>e.2.1 != 0).Perm (c.filter λe=>e.2.1 != 0):=(List.perm_ext_iff_of_nodup nd nc).mpr λe=>⟨pN V hn hd cn cd h,pN V cn cd hn hd λF=>(h F).symm⟩;unfold fZ;congr 1;refine pC ?_ (pm.map _);rw[List.map_map];have cf:((c.filter λe=>e.2.1 != 0).map (·.1)).Nodup:=cd.sublist (List.filter_sublist.map _);generalize (c.filter λe=>e.2.1 != 0)=l at cf
 induction l with
 |nil=>exact List.nodup_nil
 |cons e l ih =>
  rw[List.map_cons] at cf |-;obtain⟨h1,h2⟩:=List.nodup_cons.mp cf;refine List.nodup_cons.mpr ⟨λz=>?_,ih h2⟩;obtain⟨x,hx,ex⟩:=List.mem_map.mp z;have ex:fN x=fN e:=ex;exact h1 (List.mem_map.mpr ⟨x,hx,congrArg Prod.snd ex⟩)
theorem Ao (V:Val p R v)(hp:0<=p){us:List Tm}(ht:cb p ts)(hu:cb p us)(h:∀F:List Int->R,S v ts F=S v us F):fZ (aS p ts)=fZ (aS p us):=by
 obtain⟨_,t1,t2⟩:=gw V hp ht λ_=>0;obtain⟨_,u1,u2⟩:=gw V hp hu λ_=>0
 exact zj V t1 t2 u1 u2 λF=>by rw[(gw V hp ht F).1,(gw V hp hu F).1,h]
end
end K75
namespace St
open PySem
abbrev T:=SetTable
def Up (xs:Array Nat):Prop:=∀i j,i<j->j<xs.size->xs.getD i 0<xs.getD j 0
def EG (xs:Array Nat)(j r:Nat):Prop:=r<=xs.size/\(∀k,k<r->xs.getD k 0<j)/\∀k,r<=k->k<xs.size->j<=xs.getD k 0
variable {xs:Array Nat}{k:Nat}
theorem wo {d e:Nat}(h:k<xs.size):xs.getD k d=xs.getD k e:=by
 simp[Array.getD,h]
variable {j:Nat}
theorem Bl (u:Up xs):∀(f lo hi:Nat),lo<=hi->hi<=xs.size->hi-lo<=f->(∀k,k<lo->xs.getD k 0<j)->(∀k,hi<=k->k<xs.size->j<=xs.getD k 0) →
 EG xs j (SetTable.below.go xs j f lo hi):=by
 intro f
 induction f with
 |zero =>
  intro lo hi h1 h2 h3 h4 h5
  have e:lo=hi:=by omega
  subst e;exact⟨h2,h4,h5⟩
 |succ f ih =>
  intro lo hi h1 h2 h3 h4 h5;unfold SetTable.below.go
  by_cases h:lo<hi
  ·rw[if_pos h]
   have hm:(lo+hi)/2<xs.size:=by omega
   have e:xs.getD ((lo+hi)/2) j=xs.getD ((lo+hi)/2) 0:=wo hm;dsimp only;rw[e]
   by_cases g:xs.getD ((lo+hi)/2) 0<j
   ·rw[if_pos g];refine ih _ _ (by omega) h2 (by omega) (λk hk=>?_) h5
    rcases Nat.lt_or_ge k ((lo+hi)/2) with q|q
    ·exact Nat.lt_trans (u _ _ q hm) g
    ·have:k=(lo+hi)/2:=by omega
     rw[this];exact g
   ·rw[if_neg g];refine ih _ _ (by omega) (by omega) (by omega) h4 (λk hk Rj=>?_)
    rcases Nat.lt_or_ge ((lo+hi)/2) k with q|q
    ·exact Nat.le_trans (Nat.not_lt.mp g) (Nat.le_of_lt (u _ _ q Rj))
    ·have:k=(lo+hi)/2:=by omega
     rw[this];exact Nat.not_lt.mp g
  ·rw[if_neg h]
   have e:lo=hi:=by omega
   subst e;exact⟨h2,h4,h5⟩
theorem eQ (u:Up xs)(j:Nat):EG xs j (SetTable.below xs j):=
 Bl u _ _ _ (Nat.zero_le _) (Nat.le_refl _) (by omega) (λk hk=>absurd hk (Nat.not_lt_zero _)) (λk h1 h2=>absurd h1 (by omega))
theorem rm {r q:Nat}(a:EG xs j r)(b:EG xs j q):r=q:=by
 rcases Nat.lt_trichotomy r q with h|h|h
 ·have h1:=b.2.1 r h;have h2:=a.2.2 r (Nat.le_refl _) (Nat.lt_of_lt_of_le h b.1);omega
 ·exact h
 ·have h1:=a.2.1 q h;have h2:=b.2.2 q (Nat.le_refl _) (Nat.lt_of_lt_of_le h a.1);omega
theorem rB (u:Up xs):SetTable.below xs 0=0 :=
 rm (eQ u 0) ⟨Nat.zero_le _,λk hk=>absurd hk (Nat.not_lt_zero _),λ_ _ _=>Nat.zero_le _⟩
variable {i:Nat}
theorem rq (u:Up xs)(h:i<xs.size):SetTable.below xs (xs.getD i 0+1)=i+1:=by
 refine rm (eQ u _) ⟨h,λk hk=>?_,λk h1 h2=>?_⟩
 ·rcases Nat.lt_or_ge k i with q|q
  ·exact Nat.lt_succ_of_lt (u _ _ q h)
  ·have:k=i:=by omega
   rw[this];exact Nat.lt_succ_self _
 ·exact u _ _ (by omega) h2
theorem qL (h:i<xs.size):xs[i]?=some (xs.getD i 0):=by
 simp[Array.getD,h]
def vk (xs:Array Nat)(j:Nat):Prop:=∃k,k<xs.size/\xs.getD k 0=j
theorem mD {t:T}(u:Up t.place)(h:vk t.place j):∃i,t.slot j=.live i:=by
 obtain⟨k,hk,rfl⟩:=h
 have hb:SetTable.below t.place (t.place.getD k 0)=k:=by
  refine rm (eQ u _) ⟨Nat.le_of_lt hk,λq hq=>u _ _ hq hk,λq h1 h2=>?_⟩
  rcases Nat.lt_or_ge k q with g|g
  ·exact Nat.le_of_lt (u _ _ g h2)
  ·have:q=k:=by omega
   rw[this];exact Nat.le_refl _
 refine⟨k,?_⟩;unfold SetTable.slot;dsimp only;rw[hb,qL hk];simp
theorem jj {t:T}(u:Up t.place)(d:t.dummies = #[])(h:¬vk t.place j):t.slot j=.empty:=by
 unfold SetTable.slot;dsimp only
 have e:(t.place[SetTable.below t.place j]?==some j)=false:=by
  rcases Nat.lt_or_ge (SetTable.below t.place j) t.place.size with g|g
  ·rw[qL g];have:t.place.getD (SetTable.below t.place j) 0≠j:=λq=>h ⟨_,g,q⟩;simpa using this
  ·rw[Array.getElem?_eq_none g];rfl
 have e2:SetTable.has t.dummies j=false:=by rw[d];simp[SetTable.has]
 rw[e,e2];rfl
theorem eE {α:Type}(xs:Array α)(p:Nat)(x:α)(h:p<=xs.size):(SetTable.insertAt xs p x).size=xs.size+1:=by
 rw[<-Array.length_toList,SetTable.toList_insertAt];simp;omega
theorem gO {p x:Nat}(h:p<=xs.size):(SetTable.insertAt xs p x).getD k 0=if k<p then xs.getD k 0 else if k=p then x else xs.getD (k-1) 0:=by
 have e:∀(ys:Array Nat)(k:Nat),ys.getD k 0=(ys.toList[k]?).getD 0:=by
  intro ys k;rw[Array.getElem?_toList,Array.getD_eq_getD_getElem?]
 rw[e,e,e,SetTable.toList_insertAt]
 have hl:(xs.toList.take p).length=p:=by simp[h]
 by_cases g:k<p
 ·rw[if_pos g,List.getElem?_append_left (by omega),List.getElem?_take_of_lt g]
 ·rw[if_neg g,List.getElem?_append_right (by omega),hl]
  by_cases g2:k=p
  ·subst g2;simp
  ·rw[if_neg g2];obtain⟨q,hq⟩:∃q,k=p+(q+1):=⟨k-p-1,by omega⟩;subst hq;rw[show p+(q+1)-p=q+1 from by omega,List.getElem?_cons_succ,List.getElem?_drop,show p+(q+1)-1=p+q from by omega]
theorem uT (u:Up xs)(h:¬vk xs j):Up (SetTable.insertAt xs (SetTable.below xs j) j):=by
 obtain⟨c1,c2,c3⟩:=eQ u j;generalize SetTable.below xs j=p at c1 c2 c3;intro a b KS hb;rw[eE _ _ _ c1] at hb;rw[gO c1,gO c1];have gt:∀k,p<=k->k<xs.size->j<xs.getD k 0:=λk h1 h2=>Nat.lt_of_le_of_ne (c3 k h1 h2) λe=>h ⟨k,h2,e.symm⟩
 by_cases ha:a<p
 ·rw[if_pos ha]
  by_cases Rb:b<p
  ·rw[if_pos Rb];exact u _ _ KS (by omega)
  ·rw[if_neg Rb]
   by_cases WD:b=p
   ·rw[if_pos WD];exact c2 _ ha
   ·rw[if_neg WD];exact Nat.lt_trans (c2 _ ha) (gt _ (by omega) (by omega))
 ·rw[if_neg ha]
  by_cases WE:a=p
  ·rw[if_pos WE,if_neg (by omega),if_neg (by omega)];exact gt _ (by omega) (by omega)
  ·rw[if_neg WE,if_neg (by omega),if_neg (by omega)];exact u _ _ (by omega) (by omega)
def it (m:Nat):Nat->Nat->Nat
 |0,x=>x
 |n+1,x=>it m n ((x*5+1)%m)
theorem qF (m a:Nat):∀b x,it m (b+a) x=it m a (it m b x):=by
 intro b
 induction b with
 |zero=>intro x;rw[Nat.zero_add];rfl
 |succ b ih=>intro x;rw[Nat.succ_add];exact ih _
def round (m:Nat):Bool:=it m m 0==0&&(List.range m).all λy=>(List.range m).any λn=>it m n 0==y
variable {m:Nat}
theorem Dv (h:round m=true){x y:Nat}(hx:x<m)(hy:y<m):∃n,n<m/\it m n x=y:=by
 obtain⟨h1,h2⟩:=Bool.and_eq_true_iff.mp h
 have h0:it m m 0=0:=by simpa using h1
 have on:∀y,y<m->∃n,n<m/\it m n 0=y:=λy hy=>by
  have h3:=List.all_eq_true.mp h2 y (List.mem_range.mpr hy);obtain⟨n,hn,e⟩:=List.any_eq_true.mp h3;exact⟨n,List.mem_range.mp hn,by simpa using e⟩
 obtain⟨a,ha,rfl⟩:=on x hx;obtain⟨b,hb,rfl⟩:=on y hy
 rcases Nat.lt_or_ge b a with g|g
 ·refine⟨(m-a)+b,by omega,?_⟩
  have e:it m (m-a) (it m a 0)=0:=by rw[<-qF,show a+(m-a)=m from by omega,h0]
  rw[qF,e]
 ·exact⟨b-a,by omega,by rw[<-qF,show a+(b-a)=b from by omega]⟩
theorem A6:round 8=true:=by decide +kernel
theorem zw:round 32=true:=by decide +kernel
theorem vZ:round 128=true:=by decide +kernel
def ko (k:Nat):Prop:=k=7\/k=31\/k=127
theorem ko.round (h:ko k):St.round (k+1)=true:=by
 rcases h with rfl|rfl|rfl
 ·exact A6
 ·exact zw
 ·exact vZ
def lp (mask:Nat):Nat->Nat->Nat->Nat×Nat
 |0,i,p=>(i,p)
 |n+1,i,p=>lp mask n (SetTable.leap mask i p).1 (SetTable.leap mask i p).2
theorem BU (mask a:Nat):∀b i p,lp mask (b+a) i p=lp mask a (lp mask b i p).1 (lp mask b i p).2:=by
 intro b
 induction b with
 |zero=>intro i p;rw[Nat.zero_add];rfl
 |succ b ih=>intro i p;rw[Nat.succ_add];exact ih _ _
theorem Fw (mask:Nat):∀n i p,(lp mask n i p).2=p/32^n:=by
 intro n
 induction n with
 |zero=>intro i p;show p=_;rw[Nat.pow_zero,Nat.div_one]
 |succ n ih =>
  intro i p;show(lp mask n _ _).2=_;rw[ih];show p/32/32^n=_;rw[Nat.div_div_eq_div_mul,Nat.pow_succ,Nat.mul_comm]
theorem CM (mask:Nat):∀n i p,i<mask+1->(lp mask n i p).1<mask+1:=by
 intro n
 induction n with
 |zero=>intro i p h;exact h
 |succ n ih=>intro i p h;exact ih _ _ (Nat.mod_lt _ (Nat.succ_pos _))
theorem C8 (mask:Nat):∀n i,(lp mask n i 0).1=it (mask+1) n i:=by
 intro n
 induction n with
 |zero=>intro i;rfl
 |succ n ih=>intro i;exact ih _
variable {mask:Nat}
theorem AM (hm:ko mask){p y:Nat}(hi:i<mask+1)(hp:p<2^64)(hy:y<mask+1):∃n,n<mask+15/\(lp mask n i p).1=y:=by
 have e:(lp mask 13 i p).2=0:=by
  rw[Fw];exact Nat.div_eq_of_lt (Nat.lt_trans hp (by decide))
 obtain⟨n,hn,h⟩:=Dv hm.round (CM mask 13 i p hi) hy;refine⟨13+n,by omega,?_⟩;rw[BU,e,C8,h]
theorem tH (h:Int):SetTable.bits h<2^64:=by
 unfold SetTable.bits;have h1:0<=h%(2^64:Int):=Int.emod_nonneg _ (by decide);have h2:h%(2^64:Int)<2^64:=Int.emod_lt_of_pos _ (by decide);omega
theorem vH (h:i<mask+1):SetTable.runEnd mask i<mask+1/\i<=SetTable.runEnd mask i/\SetTable.runEnd mask i<=i+9:=by
 unfold SetTable.runEnd
 split <;> omega
variable {owner:Array (Option Nat)}
theorem yw :∀(n f i p y:Nat),i<mask+1->n<f->(lp mask n i p).1=y->owner.getD y (some 0)=none →
 ∃j,SetTable.layClean.free mask owner f i p=some j/\owner.getD j (some 0)=none:=by
 intro n
 induction n with
 |zero =>
  intro f i p y hi hf hy ho;obtain⟨f,rfl⟩:∃g,f=g+1:=⟨f-1,by omega⟩
  cases(show i=y from hy)
  unfold SetTable.layClean.free
  cases e:(List.range (SetTable.runEnd mask i+1-i)).find? λk=>(owner.getD (i+k) (some 0)).isNone with
  |some k =>
   have:=List.find?_some e;exact⟨i+k,rfl,by simpa using this⟩
  |none =>
   have h0:=List.find?_eq_none.mp e 0 (List.mem_range.mpr (by have:=vH hi;omega));rw[Nat.add_zero,ho] at h0;exact absurd rfl h0
 |succ n ih =>
  intro f i p y hi hf hy ho;obtain⟨f,rfl⟩:∃g,f=g+1:=⟨f-1,by omega⟩;unfold SetTable.layClean.free
  cases e:(List.range (SetTable.runEnd mask i+1-i)).find? λk=>(owner.getD (i+k) (some 0)).isNone with
  |some k =>
   have:=List.find?_some e;exact⟨i+k,rfl,by simpa using this⟩
  |none=>exact ih f _ _ y (Nat.mod_lt _ (Nat.succ_pos _)) (by omega) hy ho
theorem uF {t:T}{h:Int}(u:Up t.place)(d:t.dummies = #[]){F:Nat}:∀(k f:Nat)(p:SetTable.Probe),p.more=k->p.dummy=none->k+1+F=f →
 (∀q:SetTable.Probe,q.j=q.i->q.more=SetTable.runEnd t.mask q.i-q.i->q.dummy=none->(q.i,q.perturb)=SetTable.leap t.mask p.i p.perturb->∃j,SetTable.probe.go t (λ_=>h+1) h F q=some (.empty j none)/\¬vk t.place j) →
 ∃j,SetTable.probe.go t (λ_=>h+1) h f p=some (.empty j none)/\¬vk t.place j:=by
 intro k
 induction k with
 |zero =>
  intro f p hk hd hf hn;obtain⟨f,rfl⟩:∃g,f=g+1:=⟨f-1,by omega⟩
  have hF:F=f:=by omega
  subst hF;unfold SetTable.probe.go
  by_cases g:vk t.place p.j
  ·obtain⟨i,e⟩:=mD u g;rw[e];dsimp only;rw[if_neg (by simp;omega)];refine hn _ ?_ ?_ ?_ ?_ <;> unfold SetTable.advance <;> rw[if_neg (by omega)]
   ·exact hd
  ·rw[jj u d g];exact⟨_,by rw[hd],g⟩
 |succ k ih =>
  intro f p hk hd hf hn;obtain⟨f,rfl⟩:∃g,f=g+1:=⟨f-1,by omega⟩;unfold SetTable.probe.go
  by_cases g:vk t.place p.j
  ·obtain⟨i,e⟩:=mD u g;rw[e];dsimp only;rw[if_neg (by simp;omega)]
   have ea:t.advance p={p with j:=p.j+1,more:=p.more-1}:=by unfold SetTable.advance;rw[if_pos (by omega)]
   rw[ea];exact ih f _ (by show p.more-1=k;omega) hd (by omega) hn
  ·rw[jj u d g];exact⟨_,by rw[hd],g⟩
theorem vR {t:T}{h:Int}(u:Up t.place)(d:t.dummies = #[]):∀(n f:Nat)(p:SetTable.Probe)(y:Nat),p.i<t.mask+1->p.j=p.i->p.more=SetTable.runEnd t.mask p.i-p.i->p.dummy=none →
 10*n<f->(lp t.mask n p.i p.perturb).1=y->¬vk t.place y->∃j,SetTable.probe.go t (λ_=>h+1) h f p=some (.empty j none)/\¬vk t.place j:=by
 intro n
 induction n with
 |zero =>
  intro f p y hi hj hm hd hf hy hn;obtain⟨f,rfl⟩:∃g,f=g+1:=⟨f-1,by omega⟩;have e:p.j=y:=hj.trans hy;unfold SetTable.probe.go;rw[e,jj u d hn];exact⟨_,by rw[hd],hn⟩
 |succ n ih =>
  intro f p y hi hj hm hd hf hy hn;have hr:=vH hi;refine uF u d (F:=f-(p.more+1)) p.more f p rfl hd (by omega) λq q1 q2 q3 q4=>?_;have e1:q.i=(SetTable.leap t.mask p.i p.perturb).1:=congrArg Prod.fst q4;have e2:q.perturb=(SetTable.leap t.mask p.i p.perturb).2:=congrArg Prod.snd q4;refine ih _ q y (by rw[e1];exact Nat.mod_lt _ (Nat.succ_pos _)) q1 q2 q3 (by omega) ?_ hn;rw[e1,e2];exact hy
theorem Bk (u:Up xs):∀m,(∀y,y<m+1->vk xs y)->∃k,k<xs.size/\xs.getD k 0=m/\m<=k:=by
 intro m
 induction m with
 |zero=>intro h;obtain⟨k,hk,e⟩:=h 0 (by omega);exact⟨k,hk,e,Nat.zero_le _⟩
 |succ m ih =>
  intro h;obtain⟨k,hk,e,hl⟩:=ih λy hy=>h y (by omega);obtain⟨q,hq,e2⟩:=h (m+1) (by omega);refine⟨q,hq,e2,?_⟩
  rcases Nat.lt_trichotomy k q with g|g|g
  ·omega
  ·subst g;omega
  ·have:=u _ _ g hk;omega
theorem wx (u:Up xs)(h:xs.size<m+1):∃y,y<m+1/\¬vk xs y:=by
 refine Classical.byContradiction λn=>?_;obtain⟨k,hk,_,hl⟩:=Bk u m λy hy=>Classical.byContradiction λg=>n ⟨y,hy,g⟩;omega
theorem tT {t:T}(hm:ko t.mask)(u:Up t.place)(d:t.dummies = #[])(hs:t.place.size<t.mask+1)(h:Int):∃j,t.freeSlot h=some (j,false)/\¬vk t.place j:=by
 obtain⟨y,hy,hn⟩:=wx u hs;have hi:SetTable.bits h%(t.mask+1)<t.mask+1:=Nat.mod_lt _ (Nat.succ_pos _);obtain⟨n,hl,e⟩:=AM hm hi (tH h) hy;obtain⟨j,e2,hj⟩:=vR (h:=h) u d n (10*SetTable.turns t.mask) (t.probeStart h) y hi rfl rfl rfl (by unfold SetTable.turns;omega) e hn;refine⟨j,?_,hj⟩;unfold SetTable.freeSlot SetTable.probe;rw[e2];rfl
def zB (owner:Array (Option Nat))(m:Nat):List Nat:=(List.range m).filterMap λj=>owner.getD j none
structure Laid (owner:Array (Option Nat))(m k:Nat):Prop where
 size:owner.size=m
 all:(zB owner m).Perm (List.range k)
theorem uh (h:owner.getD j (some 0)=none):j<owner.size/\owner.getD j none=none:=by
 rcases Nat.lt_or_ge j owner.size with g|g
 ·refine⟨g,?_⟩;rw[<-h];simp[Array.getD,g]
 ·simp[Array.getD,Nat.not_lt.mpr g] at h
theorem oO {α β:Type}{f:α->Option β}:∀{l:List α},(∀x,x∈l->f x≠none)->(l.filterMap f).length=l.length
 |[],_=>rfl
 |x::l,h=>by
  obtain⟨y,e⟩:=Option.ne_none_iff_exists'.mp (h x List.mem_cons_self);rw[List.filterMap_cons_some e,List.length_cons,List.length_cons,oO λz hz=>h z (List.mem_cons_of_mem _ hz)]
theorem Laid.wx (L:Laid owner m k)(h:k<m):∃y,y<m/\owner.getD y (some 0)=none:=by
 refine Classical.byContradiction λn=>?_
 have e:(zB owner m).length=m:=by
  unfold zB;rw[oO,List.length_range];intro y hy e;have J0:=List.mem_range.mp hy;refine n ⟨y,J0,?_⟩;rw[<-e];simp[Array.getD,L.size,J0]
 rw[L.all.length_eq,List.length_range] at e;omega
theorem kr {α β:Type}{f g:α->Option β}:∀{l:List α},(∀x,x∈l->f x=g x)->l.filterMap f=l.filterMap g
 |[],_=>rfl
 |x::l,h=>by
  rw[List.filterMap_cons,List.filterMap_cons,h x List.mem_cons_self,kr λz hz=>h z (List.mem_cons_of_mem _ hz)]
theorem zL (hs:owner.size=m)(hj:j<m)(ho:owner.getD j none=none):(zB (owner.setIfInBounds j (some k)) m).Perm (k::zB owner m):=by
 obtain⟨a,b,e⟩:=List.append_of_mem (List.mem_range.mpr hj);have nd:(a++j::b).Nodup:=e▸List.nodup_range
 have na:∀x,x∈a->x≠j:=λx hx q=>by
  rw[List.nodup_append] at nd;exact nd.2.2 x hx j List.mem_cons_self q
 have nb:∀x,x∈b->x≠j:=λx hx q=>by
  rw[List.nodup_append] at nd;exact(List.nodup_cons.mp nd.2.1).1 (q▸hx)
 have ne:∀x,x≠j->(owner.setIfInBounds j (some k)).getD x none=owner.getD x none:=λx hx=>by
  rw[Array.getD_eq_getD_getElem?,Array.getD_eq_getD_getElem?,Array.getElem?_setIfInBounds_ne (Ne.symm hx)]
 have ej:(owner.setIfInBounds j (some k)).getD j none=some k:=by
  rw[Array.getD_eq_getD_getElem?,Array.getElem?_setIfInBounds_self_of_lt (by omega)];rfl
 unfold zB;rw[e,List.filterMap_append,List.filterMap_append,List.filterMap_cons,List.filterMap_cons,ej,ho];dsimp only;rw[kr λx hx=>ne x (na x hx),kr λx hx=>ne x (nb x hx)];exact List.perm_middle
theorem uM (hm:ko mask):∀(hs:List Int)(owner:Array (Option Nat))(k:Nat),Laid owner (mask+1) k->k+hs.length<mask+1 →
 ∃Jv,hs.foldl (λacc h=>do
  let(owner,k) <-acc
  let j <-SetTable.layClean.free mask owner (SetTable.turns mask) (SetTable.bits h%(mask+1)) (SetTable.bits h)
  pure (owner.setIfInBounds j (some k),k+1)) (some (owner,k))=some (Jv,k+hs.length)/\Laid Jv (mask+1) (k+hs.length):=by
 intro hs
 induction hs with
 |nil=>intro owner k L _;exact⟨owner,rfl,L⟩
 |cons h hs ih =>
  intro owner k L hl;rw[List.length_cons] at hl;obtain⟨y,hy,ho⟩:=L.wx (by omega);have hi:SetTable.bits h%(mask+1)<mask+1:=Nat.mod_lt _ (Nat.succ_pos _);obtain⟨n,hn,e⟩:=AM hm hi (tH h) hy;obtain⟨j,ej,hj⟩:=yw n (SetTable.turns mask) _ _ y hi (by unfold SetTable.turns;omega) e ho;obtain⟨j1,j2⟩:=uh hj
  have L':Laid (owner.setIfInBounds j (some k)) (mask+1) (k+1):=by
   refine⟨by rw[Array.size_setIfInBounds];exact L.size,(zL L.size (by rw[<-L.size];exact j1) j2).trans ?_⟩;rw[List.range_succ];exact(List.Perm.cons k L.all).trans (List.perm_append_singleton k _).symm
  obtain⟨o',e',l'⟩:=ih _ _ L' (by omega);refine⟨o',?_,by rw[List.length_cons,show k+(hs.length+1)=k+1+hs.length from by omega];exact l'⟩;rw[List.foldl_cons,List.length_cons,show k+(hs.length+1)=k+1+hs.length from by omega];show List.foldl _ ((SetTable.layClean.free mask owner (SetTable.turns mask) (SetTable.bits h%(mask+1)) (SetTable.bits h)).bind _) hs=_;rw[ej];exact e'
theorem xj (m:Nat):zB (Array.replicate m none) m=[]:=by
 unfold zB;rw[List.filterMap_eq_nil_iff];intro j hj;have Rf:=List.mem_range.mp hj;simp[Array.getD,Rf]
theorem p4 (hm:ko mask)(hs:Array Int)(h:hs.size<mask+1):∃owner,SetTable.layClean mask hs=some owner/\Laid owner (mask+1) hs.size:=by
 obtain⟨o,e,l⟩:=uM hm hs.toList (Array.replicate (mask+1) none) 0 ⟨Array.size_replicate,by rw[xj];exact List.Perm.refl _⟩ (by rw[Array.length_toList];omega);rw[Array.length_toList,Nat.zero_add] at e l;refine⟨o,?_,l⟩;unfold SetTable.layClean;rw[<-Array.foldl_toList];rw[e];rfl
theorem DG {l:List Nat}(h:l.Pairwise (· < ·)):Up l.toArray:=by
 intro i j IA hj;rw[List.size_toArray] at hj;have:=List.pairwise_iff_getElem.mp h i j (by omega) hj IA;rw[show l.toArray.getD i 0=l[i] from by simp[Array.getD,show i<l.length from by omega],show l.toArray.getD j 0=l[j] from by simp[Array.getD,hj]];exact this
theorem pA {t:T}{hs:Array Int}{wanted:Nat}(em:SetTable.sizeAbove wanted-1=mask)(hm:ko mask)(h:hs.size<mask+1):
 ∃t' order,t.relaid hs wanted=some (t',order)/\t'.mask=mask/\t'.dummies = #[]/\t'.led=t.led/\t'.plain=t.plain/\Up t'.place/\t'.place.size=hs.size/\order.toList.Perm (List.range hs.size):=by
 obtain⟨o,e,l⟩:=p4 hm hs h;unfold SetTable.relaid SetTable.laid;rw[em,e];refine⟨_,_,rfl,rfl,rfl,rfl,rfl,?_,?_,?_⟩
 ·dsimp only;rw[List.map_filterMap];refine DG (List.Pairwise.filterMap _ (λa a' Zh b hb b' Hj=>?_) (List.pairwise_lt_range (n:=mask+1)))
  cases ea:o.getD a none with
  |none=>rw[ea] at hb;cases hb
  |some x =>
   cases WG:o.getD a' none with
   |none=>rw[WG] at Hj;cases Hj
   |some x' =>
    rw[ea] at hb;rw[WG] at Hj
    cases hb;cases Hj
    exact Zh
 ·have e1:=l.all.length_eq;rw[List.length_range] at e1;dsimp only;rw[List.size_toArray,List.length_map,<-e1];unfold zB;rw[show(λj=>o.getD j none)=(λj=>((o.getD j none).map (j,·)).map Prod.snd) from funext λj=>by cases o.getD j none <;> rfl,<-List.map_filterMap,List.length_map]
 ·dsimp only;rw[List.map_filterMap]
  have e2:(λx=>Option.map (λx=>x.snd) (Option.map (λx_1=>(x,x_1)) (o.getD x none)))=λj=>o.getD j none:=funext λj=>by cases o.getD j none <;> rfl
  rw[e2];exact l.all
structure Ok (led:Bool)(n:Nat)(t:T):Prop where
 mask:ko t.mask
 room:n*5<t.mask*3
 size:t.place.size=n
 up:Up t.place
 dum:t.dummies = #[]
 plain:t.plain=true
 led:t.led=led
variable {led:Bool}{n:Nat}
theorem Ok.fits {t:T}(o:Ok led n t):t.fits n=true:=by
 have h1:=o.room;have h2:=o.size;simp only[SetTable.fits,SetTable.fill,Bool.and_eq_true,beq_iff_eq,decide_eq_true_eq,o.dum];refine⟨h2,?_⟩;rw[h2,Array.size_empty];omega
theorem Ok.fresh (led:Bool):Ok led 0 (.fresh 0 0 led):=
 ⟨.inl rfl,by show 0*5<7*3;decide,rfl,λi j _ h=>absurd h (Nat.not_lt_zero _),rfl,rfl,rfl⟩
theorem y7 {t:T}(o:Ok led n t){es:Array (Int×Value)}(he:es.size=n)(h:Int)(x:Value):∃es' t',layNew t es h x=(es',t',false,false)/\es'.size=n+1 /\
 ko t'.mask/\t'.mask=t.mask/\t'.place.size=n+1/\Up t'.place/\t'.dummies = #[]/\t'.plain=true/\t'.led=led/\t'.fits (n+1)=true:=by
 have hr:=o.room;have hs:=o.size;obtain⟨j,ej,hj⟩:=tT o.mask o.up o.dum (by rw[hs];omega) h;have c:=eQ o.up j
 have e1:(SetTable.insertAt t.place (SetTable.below t.place j) j).size=n+1:=by rw[eE _ _ _ c.1,hs]
 have e2:(SetTable.insertAt es (SetTable.below t.place j) (h,x)).size=n+1:=by rw[eE _ _ _ (by have:=c.1;omega),he]
 have e3:SetTable.has t.dummies j=false:=by rw[o.dum];simp[SetTable.has]
 have ep:t.put j=({t with place:=SetTable.insertAt t.place (SetTable.below t.place j) j},SetTable.below t.place j):=by
  unfold SetTable.put;dsimp only;rw[e3];rfl
 have ef:SetTable.fits {t with place:=SetTable.insertAt t.place (SetTable.below t.place j) j} (n+1)=true:=by
  simp only[SetTable.fits,SetTable.fill,Bool.and_eq_true,beq_iff_eq,decide_eq_true_eq,o.dum];refine⟨e1,?_⟩;rw[e1,Array.size_empty];omega
 refine⟨SetTable.insertAt es (SetTable.below t.place j) (h,x),{t with place:=SetTable.insertAt t.place (SetTable.below t.place j) j},?_,e2,o.mask,rfl,e1,uT o.up hj,o.dum,o.plain,o.led,ef⟩;unfold layNew;rw[ej];dsimp only;rw[ep];dsimp only;unfold SetTable.orStandIn;rw[e2,ef];rfl
theorem yY:SetTable.sizeAbove (SetTable.grown 5)-1=31:=by decide
theorem zg:SetTable.sizeAbove (SetTable.grown 19)-1=127:=by decide
theorem uK {t:T}(hn:n<76)(hm:ko t.mask)(hr:n*5<t.mask*3)(hs:t.place.size=n+1)(d:t.dummies = #[])(hp:t.plain=true)(hl:t.led=led)
 {es:Array (Int×Value)}(he:es.size=n+1)(hf:t.tooFull=true):∃es' t',relayAll t es (SetTable.grown es.size)=(es',t',false)/\es'.size=n+1/\Ok led (n+1) t':=by
 have full:(n+1)*5 ≥ t.mask*3:=by
  have:=hf;simp only[SetTable.tooFull,SetTable.fill,hs,d,Array.size_empty,decide_eq_true_eq] at this;omega
 have two:(t.mask=7/\n+1=5)\/(t.mask=31/\n+1=19):=by
  rcases hm with e|e|e <;> omega
 obtain⟨mask,em,Q5,GR,NV⟩:∃mask,SetTable.sizeAbove (SetTable.grown es.size)-1=mask/\ko mask/\n+1<mask+1/\(n+1)*5<mask*3:=by
  rw[he]
  rcases two with⟨_,e⟩|⟨_,e⟩
  ·exact⟨31,by rw[e];exact yY,.inr (.inl rfl),by omega,by omega⟩
  ·exact⟨127,by rw[e];exact zg,.inr (.inr rfl),by omega,by omega⟩
 have e0:(es.map (·.1)).size=n+1:=by rw[Array.size_map];exact he
 obtain⟨t',order,er,m1,m2,m3,m4,m5,m6,m7⟩:=pA (t:=t) (hs:=es.map (·.1)) em Q5 (by rw[e0];exact GR);rw[e0] at m6 m7
 have es':(order.filterMap (es[·]?)).size=n+1:=by
  have:=(m7.filterMap (λi=>es[i]?)).length_eq;rw[<-he,filterMap_getElem?_range] at this;rw[<-Array.length_toList,Array.toList_filterMap];refine this.trans ?_;rw[Array.length_toList,he]
 have O:Ok led (n+1) t':=⟨by rw[m1];exact Q5,by rw[m1];exact NV,m6,m5,m2,m4.trans hp,m3.trans hl⟩;refine⟨order.filterMap (es[·]?),t',?_,es',O⟩;unfold relayAll;rw[er];dsimp only
 have c:coversAll order es.size=true:=by unfold coversAll;rw[he];exact List.isPerm_iff.mpr m7
 rw[es',c,O.fits];rfl
open PyProof.Rows
def num:Value->Int
 | .int n _=>n
 |_=>0
abbrev Ent:=Int×Value
def EM (e:Ent):Prop:=∃n t,e=(hashInt n,.int n t)
structure ES (es:Array Ent)(ns:List Int):Prop where
 FZ:∀e,e∈es.toList->EM e
 perm:(es.toList.map λe=>num e.2).Perm ns
abbrev iU (es:Array Ent)(ep:Nat)(t:T):Obj:={cls:=.type "set",dict:=none,data:=.set es ep t,slots:=#[]}
def iS (led:Bool)(h:Heap)(a:Addr)(ns:List Int):Prop:=∃es ep t,h.get? a=some (iU es ep t)/\ES es ns/\es.size=ns.length/\Ok led ns.length t
theorem oJ:∀{vs:nv},(∀v,v∈vs->∃n t,v=.int n t)->IntsAre vs (vs.map num)
 |[],_=>.nil
 |v::vs,h=>by
  obtain⟨n,t,rfl⟩:=h v List.mem_cons_self;exact .cons n t (oJ λu hu=>h u (List.mem_cons_of_mem _ hu))
variable {es:Array Ent}{ns:List Int}{h:Heap}{a:Addr}{ep:Nat}
section
variable {prog:vB}{w:World}{A:Around}{E:pL}{s:GB}
theorem ES.elems (c:ES es ns):ElemsOf (intKind prog w) es.toList:=by
 intro e he;obtain⟨n,t,rfl⟩:=c.FZ e he;exact⟨⟨n,intKind_is _ _ _ _,rfl⟩,rfl⟩
theorem ES.has (c:ES es ns)(k:Int):(∃e,e∈es.toList/\(intKind prog w).is k e.2=true)↔k∈ns:=by
 rw[<-c.perm.mem_iff,List.mem_map];constructor
 ·rintro⟨e,he,hk⟩;obtain⟨n,t,rfl⟩:=c.FZ e he;refine⟨_,he,?_⟩;exact(intKind prog w).inj (.int n t) n k (intKind_is _ _ _ _) hk
 ·rintro⟨e,he,hk⟩;obtain⟨n,t,rfl⟩:=c.FZ e he
  cases(show n=k from hk)
  exact⟨_,he,intKind_is _ _ _ _⟩
theorem ES.push {es':Array Ent}(c:ES es ns){k:Int}{tk:Tok}(p:es'.toList.Perm (es.toList++[(hashInt k,.int k tk)])):ES es' (ns++[k]):=by
 refine⟨λe he=>?_,?_⟩
 ·rcases List.mem_append.mp (p.mem_iff.mp he) with h|h
  ·exact c.FZ e h
  ·rw[List.mem_singleton] at h;exact⟨k,tk,h⟩
 ·refine(p.map _).trans ?_;rw[List.map_append];exact c.perm.append (List.Perm.refl _)
theorem ES.abH {es':Array Ent}(c:ES es ns)(p:es'.toList.Perm es.toList):ES es' ns :=
 ⟨λe he=>c.FZ e (p.mem_iff.mp he),(p.map _).trans c.perm⟩
theorem pT {k:Int}(h:k∈ns):step_dedup ns k=ns:=by
 unfold step_dedup;rw[if_pos (List.any_eq_true.mpr ⟨k,h,by simp⟩)]
theorem iV {k:Int}(h:k∉ns):step_dedup ns k=ns++[k]:=by
 unfold step_dedup;rw[if_neg λg=>?_];obtain⟨x,hx,e⟩:=List.any_eq_true.mp g;exact h ((by simpa using e:x=k)▸hx)
theorem sg {es':Array Ent}{t t':T}(ho:h.get? a=some (iU es ep t)):(h.update a (Obj.putSet es' t')).get? a=some (iU es' (ep+1) t'):=
 Heap.get?_update_self (Obj.putSet es' t') ho rfl
theorem Ay {k:Int}{tk:Tok}{Q:Bool->Shared->Prop}(S:iS led s.heap a ns)(hn:ns.length<76)
 (hQ:∀b h',Heap.SameBut a s.heap h'->iS led h' a (step_dedup ns k)->Q b {s with heap:=h'}):wpAny (model prog w) A (setAddHashed a (.int k tk) (hashInt k)) Q E s:=by
 obtain⟨es,ep,t,ho,c,hz,O⟩:=S
 have hf:t.fits es.size=true:=by rw[hz];exact O.fits
 have WH:ElemsOf (intKind prog w) es.toList:=c.elems
 have hb:es.size<scanBound:=by show _<4096;omega
 unfold setAddHashed setAddHashedIn;refine wpAny_holding (wpAny_bind (wpAny_setState_of ho rfl hf ?_));dsimp only;rw[byScan_of (knd:=intKind prog w) rfl hb WH,if_pos rfl];unfold setAddByScan;refine wpAny_bind (wpAny_bind (wpAny_rule (wpAny_bind (wpAny_setScan_of (knd:=intKind prog w) (intKind_is _ _ k tk) ho rfl hf WH ?_))))
 cases hr:List.findIdx? (λe=>(intKind prog w).is k e.2) es.toList with
 |some j =>
  obtain⟨hj,Zi,_⟩:=List.findIdx?_eq_some_iff_getElem.mp hr;have hk:k∈ns:=(c.has (prog:=prog) (w:=w) k).mp ⟨_,List.getElem_mem hj,Zi⟩;refine wpAny_pure (wpAny_pure ?_);have:=hQ false s.heap (Heap.SameBut.refl a s.heap) (by rw[pT hk];exact⟨es,ep,t,ho,c,hz,O⟩)
  cases s;exact this
 |none =>
  have hk:k∉ns:=λh=>by
   obtain⟨e,he,hp⟩:=(c.has (prog:=prog) (w:=w) k).mpr h;have:=List.findIdx?_eq_none_iff.mp hr e he;rw[hp] at this;cases this
  obtain⟨MQ,t1,eL,z1,m1,m2,p1,u1,d1,SE,l1,f1⟩:=y7 O hz (hashInt k) (.int k tk);have hp:=layNew_perm t es (hashInt k) (.int k tk);rw[eL,Array.toList_push] at hp;have c1:ES MQ (ns++[k]):=c.push hp;dsimp only;rw[eL];dsimp only;refine wpAny_bind (wpAny_pure ?_);rw[SE,if_pos rfl,hashByValue_scannable 8 (x:=.int k tk) rfl];refine wpAny_bind (wpAny_pure ?_);rw[if_pos (show plainKind (.int k tk)=true from rfl)]
  have len:(ns++[k]).length=ns.length+1:=by rw[List.length_append];rfl
  refine wpAny_bind (wpAny_storeSet_of ho rfl ?_ (fits_of_scanBound (by rw[z1];show _<4096;omega)));have LN:=sg (es':=MQ) (t':=t1) ho;have Ku:=Heap.SameBut.update s.heap a (Obj.putSet MQ t1)
  by_cases Jw:t1.tooFull=true
  ·obtain⟨Jf,t2,eR,z2,O2⟩:=uK hn m1 (by rw[m2];exact O.room) p1 d1 SE l1 z1 Jw;have ML:=relayAll_perm t1 MQ (SetTable.grown MQ.size);rw[eR] at ML;rw[if_pos (by rw[Jw];rfl)];rw[eR];dsimp only;refine wpAny_bind (wpAny_pure ?_);refine wpAny_bind (wpAny_storeSet_of LN rfl ?_ (fits_of_scanBound (by rw[z2];show _<4096;omega)));refine wpAny_pure (wpAny_pure (hQ true _ (Ku.trans (Heap.SameBut.update _ a _)) ?_));rw[iV hk];exact⟨Jf,_,t2,sg LN,c1.abH ML,by rw[len];exact z2,by rw[len];exact O2⟩
  ·have WI:t1.tooFull=false:=by simpa using Jw
   rw[if_neg (by rw[WI];decide)];refine wpAny_pure (wpAny_pure (hQ true _ Ku ?_));rw[iV hk];refine⟨MQ,_,t1,LN,c1,by rw[len];exact z1,?_⟩;rw[len];refine⟨m1,?_,p1,u1,d1,SE,l1⟩;simp only[SetTable.tooFull,SetTable.fill,p1,d1,Array.size_empty,decide_eq_false_iff_not] at WI;omega
end
abbrev own (w:World):Bool:=!w.params.followText "set-order"
abbrev GE:Array GenState->Array GenState->Prop:=λa b=>b=a
structure Src (prog:vB)(w:World)(c:String)(its:t6)(Is:Heap->Addr->Prop)(MR:Addr->Obj):Prop where
 type:∀h l,Is h l->∃o,h.get? l=some o/\o.cls=.type c
 keep:∀h h' l,Is h l->(∀o,h.get? l=some o->h'.get? l=some o)->Is h' l
 iter:∀(A:Around)(s:GB) l (Q:pL)(E:pL),Is s.heap l->Q (.ref s.heap.objs.size) {s with heap:=s.heap.push (MR l)}->wpAny (model prog w) A (pyIter (.ref l)) Q E s
 walk:∀(A:Around) I l,A.handled=none->l≠I->∃G,WalksS prog w A I [I,l] [I] GE its.size (λi v=>its[i]?=some v) G/\∀s:Shared,Is s.heap l->s.heap.get? I=some (MR l)->G 0 s
 abw:∀(h:Heap) l,(h.push (MR l)).get? h.objs.size=some (MR l)
 s1:isSubtype (.type c) (.type "set")=pure false
 s2:isSubtype (.type c) (.type "frozenset")=pure false
 nd:(Value.type c==Value.type "dict")=false
section
variable {prog:vB}{w:World}{A:Around}{E:pL}{s:GB}
abbrev ic (w:World):Obj:=iU #[] 0 (.fresh 0 0 (own w))
theorem C4 (v:Value){Q:pL}(h:Q (.ref s.heap.objs.size) {s with heap:=s.heap.push (ic w)}):
 codeAny (model prog w) A (.call (.builtin "set.__new__") ⟨[.type "set",v],[]⟩) (wants Q E) s:=by
 refine codeAny_of_tree (show wpAny _ A.in1 (checkBuiltinCall "set.__new__" ⟨[.type "set",v],[]⟩>>=λ_=>again (.builtin "set.__new__" ⟨[.type "set",v],[]⟩)) _ _ s from ?_);refine wpAny_bind (wpAny_of_eq (F.newCall_set_1 v) (wpAny_pure ⟨plainId_quiet F.plain_set_new _,codeAny_builtin F.entry_set_new ?_⟩));rw[Around.under_plainId F.plain_set_new _];unfold Builtin.«set.__new__» Builtin.Frozenset.newClass;have su:=sub_set_self
 cases s
 dsimp only
 wp_walk
 refine wpAny_askSetting (wpAny_pure ?_);dsimp only[newObj];exact wpAny_bind (wpAny_alloc (wpAny_pure (wpAny_pure h)))
end
theorem xm (prog:vB)(w:World)(its:t6):Src prog w "list" its (λh l=>h.IsList l its) (λl=>{cls:=.type "list_iterator",data:=.fields #[.ref l,.int 0 0]}) where
 type:=λh l ⟨o,e,c,_⟩=>⟨o,e,c⟩
 keep:=λh h' l ⟨o,e,r⟩ k=>⟨o,k o e,r⟩
 iter:=λA s l Q E hl h=>wpAny_pyIter_list hl h
 walk:=λA I l hh HQ=>⟨_,(Walks.list hh I l HQ its).toS,λs hl e=>⟨⟨_,e,rfl,rfl⟩,hl⟩⟩
 abw:=λh l=>Heap.get?_push_size _ rfl
 s1:=F.sub_list_set
 s2:=F.sub_list_frozenset
 nd:=by decide
theorem zW (prog:vB)(w:World)(its:t6):Src prog w "tuple" its (λh l=>h.IsTuple l its) (λl=>{cls:=.type "tuple_iterator",data:=.fields #[.ref l,.int 0 0]}) where
 type:=λh l ⟨o,e,c,_⟩=>⟨o,e,c⟩
 keep:=λh h' l ⟨o,e,r⟩ k=>⟨o,k o e,r⟩
 iter:=λA s l Q E hl h=>wpAny_pyIter_tuple hl h
 walk:=λA I l hh HQ=>⟨_,(Walks.tuple hh I l HQ its).toS,λs hl e=>⟨⟨_,e,rfl,rfl⟩,hl⟩⟩
 abw:=λh l=>Heap.get?_push_size _ rfl
 s1:=by rw[isSubtype_type];kernel_rfl
 s2:=by rw[isSubtype_type];kernel_rfl
 nd:=by decide
theorem qO {α:Type}{l:List α}(h:i<l.length):(l[i]::l.eraseIdx i).Perm l:=by
 rw[List.eraseIdx_eq_take_drop_succ];refine(List.perm_middle).symm.trans ?_;rw[<-List.drop_eq_getElem_cons h,List.take_append_drop]
theorem yF {α:Type}(f:Nat->Nat):∀(n k:Nat)(l:List α)(out:Array α),n=l.length->(pickOrder.go f n k l out).toList.Perm (out.toList++l):=by
 intro n
 induction n with
 |zero =>
  intro k l out h
  cases l with
  |nil=>unfold pickOrder.go;rw[List.append_nil]
  |cons x l=>cases h
 |succ n ih =>
  intro k l out h;unfold pickOrder.go;have hl:f k%l.length<l.length:=Nat.mod_lt _ (by omega);rw[List.getElem?_eq_getElem hl];dsimp only;refine(ih (k+1) _ _ (by rw[List.length_eraseIdx_of_lt hl];omega)).trans ?_;rw[Array.toList_push,List.append_assoc];exact List.Perm.append_left _ (qO hl)
theorem uv {α:Type}(f:Nat->Nat)(xs:Array α):(pickOrder f xs).toList.Perm xs.toList:=by
 have:=yF f xs.size 0 xs.toList #[] (by rw[Array.length_toList]);exact this
def vj (w:World)(a:Addr)(ep:Nat)(es:Array Ent):Array Ent:=if w.params.followText "set-order" then pickOrder (w.params.setOrder a ep) es else es
theorem jZ (w:World)(a:Addr)(ep:Nat)(es:Array Ent):(vj w a ep es).toList.Perm es.toList:=by
 unfold vj
 split
 ·exact uv _ _
 ·exact List.Perm.refl _
def gR (w:World)(t:T)(i:Nat):Nat:=if w.params.followText "set-order" then 0 else if i=0 then 0 else t.place.getD (i-1) 0+1
abbrev vi (w:World)(t:T)(a:Addr)(n ep i:Nat):Obj:={cls:=.type "set_iterator",data:=.fields #[rawInt (gR w t i),rawInt i,.ref a,rawInt n,rawInt ep]}
theorem gH:Slot "set_iterator" "__next__" "set_iterator.__next__" :=
 .of (owner:="set_iterator") (n:="__next__") (by rw[typeLookup_type,builtinLookup_eq_fast];kernel_rfl) (by decide +kernel) (by decide +kernel) (by decide +kernel) (by first|exact .inl (by decide +kernel)|exact .inr (by decide +kernel)) (by rw[isSubtype_type];kernel_rfl)
theorem rP:entryFor table "set_iterator.__next__"=some Builtin.«set_iterator.__next__»:=entryFor_of_tree (by kernel_rfl)
theorem tD (a:Value):argsOk "set_iterator.__next__" ⟨[a],[]⟩:=by unfold argsOk;kernel_rfl
theorem sd:Slot "set_iterator" "__iter__" "set_iterator.__iter__" :=
 .of (owner:="set_iterator") (n:="__iter__") (by rw[typeLookup_type,builtinLookup_eq_fast];kernel_rfl) (by decide +kernel) (by decide +kernel) (by decide +kernel) (by first|exact .inl (by decide +kernel)|exact .inr (by decide +kernel)) (by rw[isSubtype_type];kernel_rfl)
theorem Ac:entryFor table "set_iterator.__iter__"=some Builtin.«dict_keyiterator.__iter__» :=
 entryFor_alias (id':="dict_keyiterator.__iter__") (by kernel_rfl) rfl (by decide +kernel) (by kernel_rfl)
theorem yV (a:Value):argsOk "set_iterator.__iter__" ⟨[a],[]⟩:=by unfold argsOk;kernel_rfl
theorem oM:entryFor table "set.__iter__"=some Builtin.«frozenset.__iter__» :=
 entryFor_alias (id':="frozenset.__iter__") (by kernel_rfl) rfl (by decide +kernel) (by kernel_rfl)
variable {I:Addr}
section
variable {prog:vB}{w:World}{A:Around}{E:pL}{s:GB}
theorem jR {t:T}{Q:(Array Ent×Nat×T)->Shared->Prop}(ho:s.heap.get? a=some (iU es ep t))(O:Ok led n t)(hz:es.size=n)(h:Q (es,ep,t) s):
 wpAny (model prog w) A (setState a) Q E s:=wpAny_setState_of ho rfl (by rw[hz];exact O.fits) h
theorem p5 {Q:Bool->Shared->Prop}(h:Q (w.params.followText "set-order") s):wpAny (model prog w) A setsByText Q E s:=by
 unfold setsByText;exact wpAny_bind (wpAny_askSetting (wpAny_pure h))
theorem rM {t:T}{Q:Option (Value×Nat)->Shared->Prop}(ho:s.heap.get? a=some (iU es ep t))(O:Ok (own w) n t)(hz:es.size=n)(hi:i<=n)
 (h:Q (((vj w a ep es)[i]?).map λe=>(e.2,gR w t (i+1))) s):wpAny (model prog w) A (setNext a (gR w t i) i ep) Q E s:=by
 unfold setNext;refine wpAny_bind (jR ho O hz ?_);dsimp only;refine wpAny_bind (p5 ?_)
 by_cases ht:w.params.followText "set-order"=true
 ·rw[if_pos ht,if_neg (by simp)];unfold setWalk;refine wpAny_bind (wpAny_bind (jR ho O hz ?_));dsimp only;refine wpAny_bind (p5 ?_);rw[if_pos ht];refine wpAny_bind (wpAny_askSetting (wpAny_pure (wpAny_pure ?_)));simp only[vj,gR,ht,if_true] at h |-;exact h
 ·rw[if_neg ht]
  have hd:(!t.plain&&decide (es.size>1))=false:=by rw[O.plain];rfl
  show wpAny _ _ (if(!t.plain&&decide (es.size>1))=true then _ else _) _ _ _;rw[hd,if_neg (by decide)]
  have SF:t.led=true:=by rw[O.led];simp[own,ht]
  refine wpAny_bind ?_;show wpAny _ _ (if(!t.led&&!es.isEmpty)=true then _ else _) _ _ _;rw[SF,if_neg (by simp)];refine wpAny_pure ?_
  have eb:SetTable.below t.place (gR w t i)=i:=by
   unfold gR;rw[if_neg ht]
   by_cases h0:i=0
   ·rw[if_pos h0,h0];exact rB O.up
   ·rw[if_neg h0,rq O.up (by rw[O.size];omega)];omega
  refine wpAny_pure ?_;rw[eb]
  have eo:vj w a ep es=es:=by unfold vj;rw[if_neg ht]
  rw[eo] at h
  rcases Nat.lt_or_ge i n with g|g
  ·have e1:es[i]?=some (es[i]'(by omega)):=by simp[show i<es.size from by omega]
   have e2:t.place[i]?=some (t.place.getD i 0):=qL (by rw[O.size];exact g);rw[e1] at h;rw[e1,e2]
   have e3:gR w t (i+1)=t.place.getD i 0+1:=by unfold gR;rw[if_neg ht,if_neg (by omega)];rfl
   rw[e3] at h;exact h
  ·have e1:es[i]?=none:=Array.getElem?_eq_none (by omega);rw[e1] at h |-;exact h
theorem yu {t:T}{x:Ent}{Q:Option Value->Shared->Prop}(ho:s.heap.get? a=some (iU es ep t))(hI:s.heap.get? I=some (vi w t a n ep i))(O:Ok (own w) n t)(hz:es.size=n)
 (hi:i<n)(hx:(vj w a ep es)[i]?=some x)(hQ:∀h',h'.get? I=some (vi w t a n ep (i+1))->Heap.SameBut I s.heap h'->Q (some x.2) {s with heap:=h'}):
 wpAny (model prog w) A (pyNext (.ref I)) Q E s:=by
 have tI:s.TypeIs (.ref I) "set_iterator":=⟨_,hI,rfl⟩;unfold pyNext;refine wpAny_bind (wpAny_attempt (wpAny_callSpecial?_slot (name:=Str.ofString "__next__") tI gH (wpAny_call_entry gH tI rP ?_ (tD _))));unfold Builtin.«set_iterator.__next__»;refine wpAny_bind (m:=slotArgs "__next__" 0 _) (wpAny_pure ?_);refine wpAny_bind (wpAny_fieldsOf hI rfl ?_);dsimp only[rawInt];refine wpAny_bind (wpAny_setEntries_of ho rfl (by rw[hz];exact O.fits) ?_);rw[if_neg (by rw[hz];simp)];simp only[Int.toNat_natCast];refine wpAny_bind (rM ho O hz (Nat.le_of_lt hi) ?_);rw[hx];dsimp only[Option.map];refine wpAny_bind (wpAny_setField_rec hI (by simp) λh1 o1 b1=>?_);refine wpAny_bind (wpAny_setField_rec (s:={s with heap:=h1}) o1 (by simp) λh2 o2 b2=>?_);refine wpAny_pure ⟨_,rfl,wpAny_pure (hQ h2 ?_ (b1.trans b2))⟩;rw[o2];rfl
theorem Cp {t:T}{Q:Option Value->Shared->Prop}(hh:A.handled=none)(ho:s.heap.get? a=some (iU es ep t))(hI:s.heap.get? I=some (vi w t a n ep n))(O:Ok (own w) n t)(hz:es.size=n)
 (hQ:∀h',Heap.ExtBut I s.heap h'->Q none {s with heap:=h'}):wpAny (model prog w) A (pyNext (.ref I)) Q E s:=by
 have tI:s.TypeIs (.ref I) "set_iterator":=⟨_,hI,rfl⟩;have hx:(vj w a ep es)[n]?=none:=Array.getElem?_eq_none (by rw[<-Array.length_toList,(jZ w a ep es).length_eq,Array.length_toList,hz];exact Nat.le_refl _);unfold pyNext;refine wpAny_bind (wpAny_attempt (wpAny_callSpecial?_slot (name:=Str.ofString "__next__") tI gH (wpAny_call_entry gH tI rP ?_ (tD _))));unfold Builtin.«set_iterator.__next__»;refine wpAny_bind (m:=slotArgs "__next__" 0 _) (wpAny_pure ?_);refine wpAny_bind (wpAny_fieldsOf hI rfl ?_);dsimp only[rawInt];refine wpAny_bind (wpAny_setEntries_of ho rfl (by rw[hz];exact O.fits) ?_);rw[if_neg (by rw[hz];simp)];simp only[Int.toNat_natCast];refine wpAny_bind (rM ho O hz (Nat.le_refl _) ?_);rw[hx];dsimp only[Option.map];refine wpAny_bind (wpAny_setField hI rfl (by simp) ?_);refine wpAny_bind (m:=newExc (.type "StopIteration") []) ?_;unfold newExc newTuple;refine wpAny_bind (wpAny_newObj_type ?_ (by size_fits));refine wpAny_bind (m:=firstArgMember _ _) (wpAny_of_eq (a:=Value.none) rfl ?_);refine wpAny_newObj_type ?_ (by size_fits);unfold raiseNew;refine wpAny_bind (wpAny_handled ?_);rw[show A.in1.handled=none from hh];refine wpAny_bind (wpAny_pure (wpAny_throw ?_));refine wpAny_bind (wpAny_isInstance (b:=true) (T:="StopIteration") ⟨_,Heap.get?_push_size _ rfl,rfl⟩ isSubtype_stop ?_);refine wpAny_pure (hQ _ ?_);exact((Heap.SameBut.update ..).extBut.push _).push _
theorem Ax {es:Array Ent}{ep:Nat}{t:T}(hh:A.handled=none)(HQ:a≠I)(O:Ok (own w) n t)(hz:es.size=n):
 WalksS prog w A I [I,a] [I] GE n (λi v=>((vj w a ep es)[i]?).map Prod.snd=some v) (λi s=>s.heap.get? a=some (iU es ep t)/\s.heap.get? I=some (vi w t a n ep i)) where
 sub:=λb hb=>by simp at hb;simp[hb]
 grefl:=λ_=>rfl
 gtrans:=λ_ _ _ h1 h2=>h2.trans h1
 frame:=λi s h' tk g _ k=>⟨k a (by simp) _ g.1,k I (by simp) _ g.2⟩
 item:=λi s Q E hi g hQ=>by
  have hl:i<(vj w a ep es).size:=by rw[<-Array.length_toList,(jZ w a ep es).length_eq,Array.length_toList,hz];exact hi
  have hx:(vj w a ep es)[i]?=some ((vj w a ep es)[i]):=by simp[hl]
  refine yu g.1 g.2 O hz hi hx λh' o b=>hQ _ _ (by rw[hx];rfl) ⟨b.extBut a _ HQ g.1,o⟩ ⟨λc o hc e=>b.extBut c o (λh=>hc (by simp[h])) e,rfl,rfl,rfl,Nat.le_refl _⟩
 done:=λs Q E g hQ=>Cp hh g.1 g.2 O hz λh' k=>hQ _ ⟨λc o hc e=>k c o (λh=>hc (by simp[h])) e,rfl,rfl,rfl,Nat.le_refl _⟩
 self:=λi s Q E g hQ=>by
  have tI:s.TypeIs (.ref I) "set_iterator":=⟨_,g.2,rfl⟩;refine wpAny_pyIter_slot tI sd (wpAny_call_entry sd tI Ac ?_ (yV _));exact wpAny_pure ⟨_,rfl,"set_iterator",_,tI,gH.lookup,hQ⟩
theorem Bt {t:T}{Q:pL}(ho:s.heap.get? a=some (iU es ep t))(O:Ok (own w) n t)(hz:es.size=n)
 (h:Q (.ref s.heap.objs.size) {s with heap:=s.heap.push (vi w t a n ep 0)}):wpAny (model prog w) A (pyIter (.ref a)) Q E s:=by
 have ta:s.TypeIs (.ref a) "set":=⟨_,ho,rfl⟩
 have hf:t.fits es.size=true:=by rw[hz];exact O.fits
 refine wpAny_pyIter_slot ta F.slot_set_iter (wpAny_call_entry F.slot_set_iter ta oM ?_ (F.args_set_iter_1 _));unfold Builtin.«frozenset.__iter__» Builtin.Frozenset.slot0;refine wpAny_bind (m:=slotArgs "__iter__" 0 _>>=_) (wpAny_bind (wpAny_pure (wpAny_pure ?_)));unfold Builtin.Frozenset.sizeOf;refine wpAny_bind (wpAny_bind (wpAny_setEntries_of ho rfl hf (wpAny_pure ?_)))
 have Zj:gR w t 0=0:=by unfold gR;split <;> rfl
 unfold setDrawn;refine wpAny_bind (wpAny_bind (jR ho O hz ?_));dsimp only;refine wpAny_bind (p5 (wpAny_pure ?_))
 have hd:(!w.params.followText "set-order"&&(!t.plain&&decide (es.size>1)))=false:=by rw[O.plain];simp
 refine(show wpAny _ _ (if(!w.params.followText "set-order"&&(!t.plain&&decide (es.size>1)))=true then _ else _) _ _ _ from ?_);rw[hd,if_neg (by decide)];refine wpAny_bind (wpAny_pure (wpAny_bind (wpAny_setEpoch_of ho rfl hf ?_)));refine wpAny_bind (wpAny_newObj_type (wpAny_pure ⟨_,rfl,"set_iterator",_,⟨_,Heap.get?_push_size _ rfl,rfl⟩,gH.lookup,?_⟩));rw[hz];unfold vi at h;rw[Zj] at h;exact h
end
abbrev iD (xs:t6)(c:Nat):Obj:={cls:=.type "list",dict:=none,data:=.seq xs c,slots:=#[]}
section
variable {prog:vB}{w:World}{A:Around}{E:pL}{s:GB}
theorem yj:typeLookup (.type "set") "__len__"=pure (some (.builtin "set.__len__")):=F.slot_set_len.lookup
theorem pS {α:Type}{c:Bool}{x y:Sem α}{Q:α->Shared->Prop}(h:c=true)(g:wpAny (model prog w) A x Q E s):wpAny (model prog w) A (if c=true then x else y) Q E s:=by
 rw[if_pos h];exact g
theorem BW {Q:Bool->Shared->Prop}(ta:s.TypeIs (.ref a) "set")(h:Q false s):wpAny (model prog w) A (Builtin.List.listLengthHint (.ref a)) Q E s:=by
 unfold Builtin.List.listLengthHint;refine wpAny_bind (wpAny_specialOf ta yj ?_);dsimp only;rw[show splitId "set.__len__"=some ("set","__len__") from by decide +kernel];dsimp only;refine wpAny_bind (wpAny_isInstance ta sub_set_self ?_);rw[if_neg (by decide)];exact pS (by decide +kernel) (wpAny_bind (wpAny_typeOf ta (wpAny_pure h)))
theorem zk {P:Array Ent}(c:ES es ns)(p:P.toList.Perm es.toList){acc:t6}(hz:es.size=n)(h:ItemsOf (λi v=>(P[i]?).map Prod.snd=some v) acc n):
 ∃ms,IntsAre acc.toList ms/\ms.Perm ns:=by
 have hP:P.toList.length=n:=by rw[p.length_eq,Array.length_toList,hz]
 have e:acc.toList=P.toList.map Prod.snd:=by
  refine List.ext_getElem? λi=>?_;rw[List.getElem?_map,Array.getElem?_toList,Array.getElem?_toList]
  rcases Nat.lt_or_ge i n with g|g
  ·have ha:acc[i]?=some (acc[i]'(by rw[h.1];exact g)):=by simp[h.1,g]
   rw[ha,h.2 i _ ha]
  ·rw[Array.getElem?_eq_none (by rw[h.1];exact g),Array.getElem?_eq_none (by rw[<-Array.length_toList,hP];exact g)];rfl
 have c':ES P ns:=c.abH p;refine⟨_,oJ (vs:=acc.toList) λv hv=>?_,?_⟩
 ·rw[e] at hv;obtain⟨x,hx,rfl⟩:=List.mem_map.mp hv;obtain⟨k,t,rfl⟩:=c'.FZ x hx;exact⟨k,t,rfl⟩
 ·rw[e,List.map_map];exact c'.perm
set_option maxHeartbeats 3000000 in
theorem vd {Q:List Value->Shared->Prop}(hh:A.handled=none)(S:iS (own w) s.heap a ns)(hn:ns.length<4000)
 (hQ:∀(h':Heap)(tk:Nat)(vs:nv)(ms:List Int),IntsAre vs ms->ms.Perm ns->(∀b o,s.heap.get? b=some o->h'.get? b=some o)->s.toks<=tk->Q vs {s with heap:=h',toks:=tk}):
 wpAny (model prog w) A (collect (.ref a)) Q E s:=by
 obtain⟨es,ep,t,ho,c,hz,O⟩:=S;have GR:a<s.heap.objs.size:=Heap.lt_size ho;unfold collect;refine wpAny_bind (wpAny_runValue (codeAny_builtin PySem.F.entry_proto_collect ?_));rw[Around.under_plainId PySem.F.plain_proto_collect _];refine wpAny_bind (m:=newList []) (wpAny_newObj_type ?_);refine wpAny_pure ⟨plainId_quiet PySem.F.plain_list_iadd _,codeAny_builtin PySem.F.entry_list_iadd ?_⟩;rw[Around.under_plainId PySem.F.plain_list_iadd _];refine(show wpAny _ A.in1 (Builtin.List.listExtendWith (.ref s.heap.objs.size) (.ref a) (.ref s.heap.objs.size)) _ _ _ from ?_);unfold Builtin.List.listExtendWith;have LN:(s.heap.push (iD #[] 0)).get? a=some (iU es ep t):=Heap.get?_push_of_some _ ho;refine wpAny_bind (wpAny_typeOf (T:="set") ⟨_,LN,rfl⟩ ?_)
 rw[if_neg (by
  have:Builtin.List.listSameRef (.ref s.heap.objs.size) (.ref a)=false:=by
   simp only[Builtin.List.listSameRef,beq_eq_false_iff_ne];exact Nat.ne_of_gt GR
  rw[this];decide)]
 refine wpAny_bind (Bt (s:={s with heap:=s.heap.push (iD #[] 0)}) LN O hz ?_);have IZ:((s.heap.push (iD #[] 0)).push (vi w t a ns.length ep 0)).get? a=some (iU es ep t):=Heap.get?_push_of_some _ LN;refine wpAny_bind (wpAny_holding (BW ⟨_,IZ,rfl⟩ ?_));have Zk:((s.heap.push (iD #[] 0)).push (vi w t a ns.length ep 0)).get? (s.heap.push (iD #[] 0)).objs.size=some (vi w t a ns.length ep 0):=Heap.get?_push_size _ rfl;have WJ:((s.heap.push (iD #[] 0)).push (vi w t a ns.length ep 0)).get? s.heap.objs.size=some (iD #[] 0):=Heap.get?_push_of_some _ (Heap.get?_push_size _ rfl);have vm:(s.heap.push (iD #[] 0)).objs.size=s.heap.objs.size+1:=Heap.size_push _ _;refine pS (by decide +kernel) (wpAny_bind (wpAny_rule (wpAny_bind ?_)));refine(show wpAny _ A.in1 (updateSeq s.heap.objs.size (·.push .none)>>=λ_=>updateSeq s.heap.objs.size (·.pop)) _ _ _ from wpAny_bind (wpAny_updateSeq WJ rfl ?_));have Js:=Heap.get?_update_self (Obj.mapSeq (·.push Value.none)) WJ rfl;refine wpAny_updateSeq Js rfl ?_;have NS:=Heap.get?_update_self (Obj.mapSeq (·.pop)) Js rfl
 have up:∀b o,b≠s.heap.objs.size->((s.heap.push (iD #[] 0)).push (vi w t a ns.length ep 0)).get? b=some o →
  ((((s.heap.push (iD #[] 0)).push (vi w t a ns.length ep 0)).update s.heap.objs.size (Obj.mapSeq (·.push Value.none))).update s.heap.objs.size (Obj.mapSeq (·.pop))).get? b=some o :=
  λb o hb e=>(Heap.get?_update_other _ _ (Ne.symm hb)).trans ((Heap.get?_update_other _ _ (Ne.symm hb)).trans e)
 have nI:a≠(s.heap.push (iD #[] 0)).objs.size:=by rw[vm];exact Nat.ne_of_lt (Nat.lt_succ_of_lt GR)
 have nL:(s.heap.push (iD #[] 0)).objs.size≠s.heap.objs.size:=by rw[vm];exact Nat.succ_ne_self _
 have W:=Ax (prog:=prog) (A:=A.in1) (ep:=ep) (es:=es) (by simp[hh]) nI O hz
 refine wpAny_pure ⟨plainId_quiet PySem.F.plain_extend_loop _,codeAny_extend_loopS W (by rw[sizeLine_eq];omega) s.heap.objs.size (by
  simp only[List.mem_cons,List.not_mem_nil,or_false,not_or];exact⟨nL.symm,Nat.ne_of_gt GR⟩) _ ns.length 0 _ _ _ rfl (Nat.zero_le _) ⟨up _ _ (Nat.ne_of_lt GR) IZ,up _ _ nL Zk⟩ NS (ItemsOf.nil _) λz acc c' m oz it=>?_⟩
 refine wpAny_bind (wpAny_load oz (wpAny_pure ?_));obtain⟨ms,i1,i2⟩:=zk c (jZ w a ep es) hz it
 have ez:z={s with heap:=z.heap,toks:=z.toks}:=by
  have e1:z.gens=s.gens:=m.gens;have e2:z.drawn=s.drawn:=m.drawn;have e3:z.os=s.os:=m.os
  cases z;cases e1;cases e2;cases e3;rfl
 rw[ez];refine hQ z.heap z.toks acc.toList ms i1 i2 (λb o e=>?_) m.toks;have hb:=Heap.lt_size e;refine m.heap b o ?_ (up b o (Nat.ne_of_lt hb) (Heap.get?_push_of_some _ (Heap.get?_push_of_some _ e)));simp only[List.mem_cons,List.not_mem_nil,or_false,not_or];refine⟨Nat.ne_of_lt hb,?_⟩;rw[vm];exact Nat.ne_of_lt (Nat.lt_succ_of_lt hb)
theorem tZ {D:Addr}{vs:nv}{c:Nat}(out:t6)(e:h.get? D=some (seqObj "list" vs.toArray c)):∃c',(sortedHeap h D vs out).get? D=some (iD out c'):=by
 have hD:=Heap.lt_size e;have e1:=get?_update_seq e (λ_=>#[]);unfold sortedHeap;have e2:(((h.update D (Obj.mapSeq λ_=>#[])).push (seqObj "tuple" vs.toArray 0)).push (seqObj "list" #[] 0)).get? D=_:=Heap.get?_push_of_some _ (Heap.get?_push_of_some _ e1);exact⟨_,get?_update_seq e2 λ_=>out⟩
theorem qZ {D b:Addr}{vs:nv}{out:t6}{o:Obj}(hb:b≠D)(e:h.get? b=some o):(sortedHeap h D vs out).get? b=some o:=by
 unfold sortedHeap;refine(Heap.get?_update_other _ _ (Ne.symm hb)).trans (Heap.get?_push_of_some _ (Heap.get?_push_of_some _ ((Heap.get?_update_other _ _ (Ne.symm hb)).trans e)))
theorem oC {Q:pL}(hh:A.handled=none)(S:iS (own w) s.heap a ns)(h64:ns.length<64)
 (h:∀(h':Heap)(tk:Nat)(D:Addr)(out:t6)(ms:List Int)(c:Nat),IntsAre out.toList ms->ms.Perm ns->ms.Pairwise (· <= ·)->h'.get? D=some (iD out c)->s.heap.get? D=none →
  (∀b o,s.heap.get? b=some o->h'.get? b=some o)->s.toks<=tk->Q (.ref D) {s with heap:=h',toks:=tk}):wpAny (model prog w) A (call (.builtin "sorted") [.ref a]) Q E s:=by
 refine Calls.call_function_entry kind_sorted plain_sorted entry_sorted (args_sorted1 _) ?_;unfold Builtin.«sorted»;refine wpAny_bind (m:=checkCount "sorted" 1 1 _) (wpAny_pure ?_);refine wpAny_bind (vd (by simpa using hh) S (by omega) λh1 tk vs ms i1 i2 k1 t1=>?_)
 have hv:vs.length<64:=by
  have:=i1.length;rw[this,i2.length_eq];exact h64
 refine wpAny_bind (m:=newList vs) (wpAny_newList ?_ (hsz:=by rw[sizeLine_eq];omega));have oD:(h1.push (seqObj "list" vs.toArray 0)).get? h1.objs.size=some (seqObj "list" vs.toArray 0):=Heap.get?_push_size _ rfl
 have fr:s.heap.get? h1.objs.size=none:=by
  cases e:s.heap.get? h1.objs.size with
  |none=>rfl
  |some o=>exact absurd (Heap.lt_size (k1 _ _ e)) (Nat.lt_irrefl _)
 refine wpAny_bind (wpAny_holding (wpAny_call_entry slot_list_sort ⟨_,oD,rfl⟩ entry_list_sort (list_sort_tree oD i1 hv λout KL a1 a2 a3=>⟨_,rfl,?_⟩) (args_list_sort _)));obtain⟨c,oc⟩:=tZ out oD;refine wpAny_pure ⟨_,rfl,h _ tk _ out KL c a1 (a2.trans i2) a3 oc fr (λb o e=>?_) t1⟩;exact qZ (λq=>by rw[q,fr] at e;cases e) (Heap.get?_push_of_some _ (k1 b o e))
end
end St
namespace L2
open PySem PySem.Spec PyProof.Rows PySem.W
def eM (ns:List Int):List Int:=firstMet (λi=>ns.getD i 0) ns.length
theorem gE (ns:List Int):eM ns=ns.foldl step_dedup []:=by
 have e:(List.range ns.length).map (λi=>ns.getD i 0)=ns:=by
  apply List.ext_getElem
  ·simp
  ·intro i h1 h2;simp[h2]
 unfold eM firstMet;rw[e]
theorem gs:∀(ns acc:List Int),acc.Nodup->(ns.foldl step_dedup acc).Nodup/\∀x,x∈ns.foldl step_dedup acc↔x∈acc\/x∈ns
 |[],acc,h=>⟨h,λx=>by simp⟩
 |n::ns,acc,h=>by
  rw[List.foldl_cons]
  by_cases q:n∈acc
  ·rw[St.pT q];obtain⟨a,b⟩:=gs ns acc h;refine⟨a,λx=>(b x).trans ⟨λz=>z.imp id (List.mem_cons_of_mem _),λz=>?_⟩⟩
   rcases z with z|z
   ·exact .inl z
   ·rcases List.mem_cons.mp z with rfl|z
    ·exact .inl q
    ·exact .inr z
  ·rw[St.iV q]
   have nd:(acc++[n]).Nodup:=by
    refine List.nodup_append.mpr ⟨h,by simp,λa ha b hb z=>?_⟩;rw[List.mem_singleton] at hb;exact q (hb▸z▸ha)
   obtain⟨a,b⟩:=gs ns (acc++[n]) nd;refine⟨a,λx=>(b x).trans ?_⟩;rw[List.mem_append,List.mem_singleton,List.mem_cons,or_assoc]
theorem gU (ns:List Int):(eM ns).Nodup:=by rw[gE];exact(gs ns [] List.nodup_nil).1
theorem iw (ns:List Int)(x:Int):x∈eM ns↔x∈ns:=by
 rw[gE,(gs ns [] List.nodup_nil).2];simp
theorem sh (ns:List Int):(eM ns).length<=ns.length:=firstMet_length_le _ _
theorem AJ {ms:List Int}(h:ms.Pairwise (· <= ·))(d:ms.Nodup):ms.Pairwise (· < ·):=
 (List.Pairwise.and h d).imp λ⟨a,b⟩=>Int.lt_iff_le_and_ne.mpr ⟨a,b⟩
theorem nj:∀{xs ys:List Int},xs.Pairwise (· < ·)->ys.Pairwise (· < ·)->(∀x,x∈xs↔x∈ys)->xs=ys
 |[],[],_,_,_=>rfl
 |[],y::ys,_,_,h=>absurd ((h y).mpr List.mem_cons_self) (by simp)
 |x::xs,[],_,_,h=>absurd ((h x).mp List.mem_cons_self) (by simp)
 |x::xs,y::ys,a,b,h=>by
  obtain⟨a1,a2⟩:=List.pairwise_cons.mp a;obtain⟨b1,b2⟩:=List.pairwise_cons.mp b
  have e:x=y:=by
   rcases List.mem_cons.mp ((h x).mp List.mem_cons_self) with e|e
   ·exact e
   ·rcases List.mem_cons.mp ((h y).mpr List.mem_cons_self) with e2|e2
    ·exact e2.symm
    ·have:=b1 _ e;have:=a1 _ e2;omega
  subst e;rw[nj a2 b2 λz=>⟨λhz=>?_,λhz=>?_⟩]
  ·rcases List.mem_cons.mp ((h z).mp (List.mem_cons_of_mem _ hz)) with e|e
   ·have:=a1 _ hz;omega
   ·exact e
  ·rcases List.mem_cons.mp ((h z).mpr (List.mem_cons_of_mem _ hz)) with e|e
   ·have:=b1 _ hz;omega
   ·exact e
end L2
namespace K75
open PySem L2 PySem.W Nm Srt
def nW (x:Int):List Int->List Int
 |[]=>[x]
 |y::l=>if x<y then x::y::l else if x=y then y::l else y::nW x l
def jo:List Int->List Int
 |[]=>[]
 |x::l=>nW x (jo l)
theorem kA {x z:Int}:∀{l:List Int},z∈nW x l↔z=x\/z∈l
 |[]=>by simp[nW]
 |y::l=>by
  unfold nW
  by_cases h:x<y
  ·rw[if_pos h];simp
  ·rw[if_neg h]
   by_cases g:x=y
   ·rw[if_pos g,g];simp
   ·rw[if_neg g,List.mem_cons,kA (l:=l),List.mem_cons];constructor
    ·rintro(h|h|h)
     ·exact .inr (.inl h)
     ·exact .inl h
     ·exact .inr (.inr h)
    ·rintro(h|h|h)
     ·exact .inr (.inl h)
     ·exact .inl h
     ·exact .inr (.inr h)
theorem rZ {x:Int}:∀{l:List Int},l.Pairwise (· < ·)->(nW x l).Pairwise (· < ·)
 |[],_=>by simp[nW]
 |y::l,h=>by
  obtain⟨h1,h2⟩:=List.pairwise_cons.mp h;unfold nW
  by_cases g:x<y
  ·rw[if_pos g];refine List.pairwise_cons.mpr ⟨λz hz=>?_,h⟩
   rcases List.mem_cons.mp hz with rfl|hz
   ·exact g
   ·have:=h1 z hz;omega
  ·rw[if_neg g]
   by_cases e:x=y
   ·rw[if_pos e];exact h
   ·rw[if_neg e];refine List.pairwise_cons.mpr ⟨λz hz=>?_,rZ h2⟩
    rcases kA.mp hz with rfl|hz
    ·omega
    ·exact h1 z hz
theorem xx:∀l:List Int,(jo l).Pairwise (· < ·)
 |[]=>List.Pairwise.nil
 |x::l=>rZ (xx l)
theorem rW {z:Int}:∀{l:List Int},z∈jo l↔z∈l
 |[]=>Iff.rfl
 |x::l=>by
  show z∈nW x (jo l)↔_;rw[kA,rW,List.mem_cons]
theorem Cu {l m:List Int}(h:m.Pairwise (· < ·))(e:∀z,z∈m↔z∈l):m=jo l:=nj h (xx l) λz=>by rw[rW,e]
def nt (p:Int)(a b:Int×Int):Int×Int:=(cN p (m9 a.1 a.2 b.1 b.2) (a.2*b.2),c5 p (m9 a.1 a.2 b.1 b.2) (a.2*b.2))
def fQ (p:Int)(a b:List Tm):List Tm:=a.flatMap λx=>b.map λy=>(jo (x.1++y.1),nt p x.2 y.2)
abbrev tg (p:Int)(ts:List Tm):List Tm:=fZ (aS p ts)
variable {a b:Int×Int}
section
variable {p:Int}{R:Type} [Lean.Grind.CommRing R]{v:Int×Int->R}
theorem wO (hp:0<=p)(ha:Num p a.1 a.2)(hb:Num p b.1 b.2):Num p (nt p a b).1 (nt p a b).2 :=
 Num.set hp (Int.mul_ne_zero (by have:=ha.pos;omega) (by have:=hb.pos;omega))
theorem v9 (V:Val p R v)(ha:Num p a.1 a.2)(hb:Num p b.1 b.2):v (nt p a b)=v a*v b:=(V.set ha hb).2 rfl rfl
theorem hV (hp:0<=p){a b:List Tm}(ha:cb p a)(hb:cb p b):cb p (fQ p a b):=λe he=>by
 obtain⟨x,hx,he⟩:=List.mem_flatMap.mp he;obtain⟨y,hy,rfl⟩:=List.mem_map.mp he;exact wO hp (ha x hx) (hb y hy)
theorem AK (V:Val p R v){x:Tm}(hx:Num p x.2.1 x.2.2)(F:List Int->R):∀{b:List Tm},cb p b->S v (b.map λy=>(jo (x.1++y.1),nt p x.2 y.2)) F=v x.2*S v b (λj=>F (jo (x.1++j)))
 |[],_=>by show(0:R)=v x.2*0;grind
 |y::b,h=>by
  have ih:=AK V hx F (b:=b) λe he=>h e (List.mem_cons_of_mem _ he);show v (nt p x.2 y.2)*F (jo (x.1++y.1))+S v (b.map _) F=v x.2*(v y.2*F (jo (x.1++y.1))+S v b (λj=>F (jo (x.1++j))));rw[ih,v9 V hx (h y List.mem_cons_self)];grind
theorem A9 (V:Val p R v){a b:List Tm}(ha:cb p a)(hb:cb p b)(F:List Int->R):S v (fQ p a b) F=S v a (λi=>S v b (λj=>F (jo (i++j)))):=by
 induction a with
 |nil=>rfl
 |cons x a ih =>
  have ih:=ih λe he=>ha e (List.mem_cons_of_mem _ he)
  have e:fQ p (x::a) b=(b.map λy=>(jo (x.1++y.1),nt p x.2 y.2))++fQ p a b:=by simp[fQ]
  rw[e,gf,AK V (ha x List.mem_cons_self) F hb,ih];rfl
end
section
variable {p:Int}{a b c:List Tm}
theorem FP.v {p:Int}(hp:FP p):∃(R:Type)(i:Lean.Grind.CommRing R)(v:Int×Int->R),@Val p R i v:=BR (by
 rcases hp with h|h
 ·exact .inl h
 ·exact .inr (eN h).1)
theorem FP.tn {p:Int}(hp:FP p){a:List Tm}(ha:cb p a):cb p (tg p a):=by
 obtain⟨R,i,v,V⟩:=hp.v;exact Cf V hp.nn ha
end
abbrev jB (ks:List Int):List Key:=ks.map Sum.inl
theorem iY (ks:List Int):(jB ks).map kV=ks.map V.int:=by unfold jB;rw[List.map_map];rfl
theorem nH {a b:List Int}(h:jB a=jB b):a=b:=by
 have e:(jB a).map kV=(jB b).map kV:=by rw[h]
 rw[iY,iY] at e
 have inj:∀{x y:List Int},x.map V.int=y.map V.int->x=y:=by
  intro x
  induction x with
  |nil=>intro y h;cases y with
   |nil=>rfl
   |cons c y=>simp at h
  |cons b x ih=>intro y h;cases y with
   |nil=>simp at h
   |cons c y =>
    rw[List.map_cons,List.map_cons] at h
    injection h with h1 h2
    injection h1 with h1
    rw[h1,ih h2]
 exact inj e
def CG (H:Hp)(y:V)(t:Tm):Prop:=∃a pr nu,y=.ref a/\H a=some (.tup [.ref pr,.ref nu])/\H pr=some (.tup (t.1.map V.int))/\H nu=some (bO t.2.1 t.2.2)
abbrev aU (H:Hp):List V->List Tm->Prop:=Paired (CG H)
abbrev DR (H:Hp):List (List Key×V)->List Tm->Prop:=Paired λkv e=>kv.1=jB e.1/\∃a,kv.2=.ref a/\H a=some (bO e.2.1 e.2.2)
def aF (H H':Hp):Prop:=∀b xs,H b=some (.tup xs)->H' b=some (.tup xs)
variable {H H':Hp}
theorem aF.of (s:aC H H'):aF H H':=λb xs e=>s b _ e
theorem aF.trans {H1 H2:Hp}(a:aF H H1)(b:aF H1 H2):aF H H2:=λc xs e=>b c xs (a c xs e)
theorem aF.upd {d:Addr}{o:HO}(h:∀xs,H d≠some (.tup xs)):aF H (upd H d o):=λb xs e=>by
 have:b≠d:=λz=>h xs (z▸e);rw[ar this];exact e
theorem CG.keep {y:V}{t:Tm}(h:CG H y t)(k:aF H H'):CG H' y t:=let⟨a,pr,nu,e,h1,h2,h3⟩:=h;⟨a,pr,nu,e,k _ _ h1,k _ _ h2,k _ _ h3⟩
variable {ts:List Tm}
theorem aU.keep {ys:List V}(h:aU H ys ts)(k:aF H H'):aU H' ys ts:=Paired.aat h λ_ _ z=>z.keep k
variable {GH:List (List Key×V)}{d:List Tm}
theorem DR.keep (h:DR H GH d)(k:aF H H'):DR H' GH d:=Paired.aat h λ_ _ z=>⟨z.1,let⟨a,e,h⟩:=z.2;⟨a,e,k _ _ h⟩⟩
theorem sO (k:List Int):∀{GH:List (List Key×V)}{d:List Tm},DR H GH d->d.any (λe=>decide (e.1=k))=false->iZ GH (jB k)=none
 |_,_,.nil,_=>rfl
 |_,_,.cons (a:=kv) (b:=e) h t,q=>by
  rw[List.any_cons,Bool.or_eq_false_iff] at q
  have ne:¬kv.1=jB k:=λz=>by
   have:e.1=k:=nH (h.1.symm.trans z);simp[this] at q
  rw[gm ne];exact sO k t q.2
theorem ke (k:List Int):∀{GH:List (List Key×V)}{d:List Tm},DR H GH d->d.any (λe=>decide (e.1=k))=true->∃e∈d,e.1=k/\∃a,iZ GH (jB k)=some (.ref a)/\H a=some (bO e.2.1 e.2.2)
 |_,_,.nil,q=>by simp at q
 |_,_,.cons (a:=kv) (b:=e) h t,q=>by
  by_cases z:e.1=k
  ·obtain⟨a,e1,ha⟩:=h.2;refine⟨e,List.mem_cons_self,z,a,?_,ha⟩;rw[ix (by rw[h.1,z]),e1]
  ·have ne:¬kv.1=jB k:=λw=>z (nH (h.1.symm.trans w));rw[List.any_cons,decide_eq_false z,Bool.false_or] at q;obtain⟨e',m,z',a,h1,h2⟩:=ke k t q;exact⟨e',List.mem_cons_of_mem _ m,z',a,by rw[gm ne];exact h1,h2⟩
theorem AX (k:List Int)(h:DR H GH d):(GH.any λkv=>decide (kv.1=jB k))=d.any λe=>decide (e.1=k):=by
 rw[kZ]
 cases q:d.any λe=>decide (e.1=k) with
 |false=>rw[sO k h q];rfl
 |true =>
  obtain⟨_,_,_,a,e,_⟩:=ke k h q;rw[e];rfl
variable {p:Int}
theorem xM {t:Tm}{a:Addr}(h:DR H GH d)(nd:(d.map (·.1)).Nodup)
 (Lz:d.any (λe=>decide (e.1=t.1))=false->H a=some (bO t.2.1 t.2.2))(IG:∀e∈d,e.1=t.1->H a=some (bO (di p e.2 t.2).1 (di p e.2 t.2).2)):DR H (fI GH (jB t.1) (.ref a)) (cE p d t):=by
 unfold fI cE;rw[AX t.1 h]
 by_cases q:d.any (λe=>decide (e.1=t.1))=true
 ·rw[if_pos q,if_pos q]
  have go:∀{GH:List (List Key×V)}{d:List Tm},DR H GH d->(∀e∈d,e.1=t.1->H a=some (bO (di p e.2 t.2).1 (di p e.2 t.2).2)) →
   DR H (GH.map λkv=>if kv.1=jB t.1 then(kv.1,V.ref a) else kv) (d.map λe=>if e.1=t.1 then(e.1,di p e.2 t.2) else e):=by
   intro GH d h
   induction h with
   |nil=>intro _;exact .nil
   |@cons kv e ks es h0 ht ih =>
    intro hy;rw[List.map_cons,List.map_cons];refine .cons ?_ (ih λe' m=>hy e' (List.mem_cons_of_mem _ m))
    by_cases z:e.1=t.1
    ·rw[if_pos z,if_pos (by rw[h0.1,z])];exact⟨h0.1,a,rfl,hy e List.mem_cons_self z⟩
    ·rw[if_neg z,if_neg (λw=>z (nH (h0.1.symm.trans w)))];exact h0
  exact go h IG
 ·have q':d.any (λe=>decide (e.1=t.1))=false:=Bool.eq_false_iff.mpr q;rw[if_neg q,if_neg q];exact Paired.snoc h ⟨rfl,a,rfl,Lz q'⟩
abbrev xT:Stmt:=(aO 32)
structure pH (p:Int)(ts:List Tm):Prop where
 len:ts.length<4000
 num:∀t∈ts,Gn p 4000 t.2
 steps:∀i,i<=ts.length->mr p 4000 (aS p (ts.take i))
 few:((aS p ts).filter λe=>e.2.1 != 0).length<64
theorem pH.of {m:Nat}(hp:FP p)(h64:ts.length<64)(hG:∀t∈ts,Gn p m t.2)(hm:(m+1)*ts.length+7<=4000)(WK:m<=4000):pH p ts:=by
 refine⟨by omega,λt ht=>⟨(hG t ht).1,(hG t ht).2.1.mono WK,(hG t ht).2.2.mono WK⟩,λi hi=>?_,?_⟩
 ·obtain⟨g1,g2,g3⟩:=eW (m:=m) hp i (ts.take i) (by simp;omega) λt ht=>hG t (List.mem_of_mem_take ht);intro e he;have b:=g1 e he;have le:(m+1)*i+7<=4000:=Nat.le_trans (Nat.add_le_add_right (Nat.mul_le_mul_left _ hi) _) hm;exact⟨b.1,b.2.1.mono le,b.2.2.mono le⟩
 ·exact Nat.lt_of_le_of_lt (Nat.le_trans (List.length_filter_le _ _) (eW (m:=m) hp ts.length ts rfl hG).2.2) h64
def p3 (C:Addr):Sp:=λvs H Q _=>∃(s dx l:Addr)(p:Int)(ys:List V)(ts:List Tm),vs=[.ref s,.ref l]/\H s=some (.ins C dx (df p))/\FP p/\H l=some (.lst ys)/\aU H ys ts/\pH p ts /\
 ∀H' D zs,aC H H'->H D=none->H' D=some (.lst zs)->aU H' zs (fZ (aS p ts))->Q (.ref D) H'
theorem none_of {a:Addr}(s:aC H H')(h:H' a=none):H a=none:=by
 cases e:H a with
 |none=>rfl
 |some o=>rw[s _ _ e] at h;cases h
theorem iW:yJ ["field","terms","totals","product","number","kept"] uC (ai xT):=dE (by decide +kernel)
theorem mw {α β:Type}{R:α->β->Prop}{k:Ky}{x:α}{y:β}(h:R x y):∀{l:List (Ky×α)}{m:List (Ky×β)},Paired (λa b=>a.1=b.1/\R a.2 b.2) l m->Paired (λa b=>a.1=b.1/\R a.2 b.2) (lJ k x l) (lJ k y m)
 |_,_,.nil=>.cons ⟨rfl,h⟩ .nil
 |_,_,.cons (a:=(j,u)) (b:=(j',v)) (l₁:=r) (l₂:=r') h0 t=>by
  obtain⟨e,h1⟩:=h0;have e:j=j':=e;subst e;show Paired _ (if lz k j=true then(k,x):: (j,u):: r else(j,u):: lJ k x r) (if lz k j=true then(k,y):: (j,v):: r' else(j,v):: lJ k y r')
  by_cases z:lz k j=true
  ·rw[if_pos z,if_pos z];exact .cons ⟨rfl,h⟩ (.cons ⟨rfl,h1⟩ t)
  ·rw[if_neg z,if_neg z];exact .cons ⟨rfl,h1⟩ (mw h t)
theorem gT {α β:Type}{R:α->β->Prop}:∀{l:List (Ky×α)}{m:List (Ky×β)},Paired (λa b=>a.1=b.1/\R a.2 b.2) l m->Paired (λa b=>a.1=b.1/\R a.2 b.2) (dH l) (dH m)
 |_,_,.nil=>.nil
 |_,_,.cons (a:=(j,u)) (b:=(j',v)) (l₁:=r) (l₂:=r') h0 t=>by
  obtain⟨e,h1⟩:=h0;have e:j=j':=e;subst e;exact mw h1 (gT t)
theorem kX {α β:Type}{R:α->β->Prop}:∀{l:List (Ky×α)}{m:List (Ky×β)},Paired (λa b=>a.1=b.1/\R a.2 b.2) l m->Paired R (l.map (·.2)) (m.map (·.2))
 |_,_,.nil=>.nil
 |_,_,.cons h t=>.cons h.2 (kX t)
theorem kY {R:V->Tm->Prop}:∀{xs:List V}{es:List Tm},Paired R xs es->Paired (λa b=>a.1=b.1/\R a.2 b.2) ((es.map fN).zip xs) (es.map λe=>(fN e,e))
 |_,_,.nil=>.nil
 |_,_,.cons h t=>.cons ⟨rfl,h⟩ (kY t)
theorem iM:∀{xs:List V}{es:List Tm}{H:Hp}{R:List V->Hp->Prop},aU H xs es →
 (∀ks H2,aC H H2->Paired (λx e=>∃a b,x=.ref a/\H2 a=some (.tup [.int e.1.length,.ref b])/\H2 b=some (.tup (e.1.map V.int))) ks es->R ks H2)->md CR xs H R
 |_,_,H,R,.nil,h=>h [] H (aC.refl _) .nil
 |_,_,H,R,.cons (b:=e) h0 t,h=>by
  obtain⟨a,pr,nu,rfl,ha,HS,IJ⟩:=h0;refine⟨a,pr,.ref nu,_,rfl,ha,HS,λtt SG=>?_⟩;rw[List.length_map];have sU:aC H (upd H tt (.tup [.int e.1.length,.ref pr])):=ah SG;refine iM (aU.keep t (aF.of sU)) λks H2 s2 hk=>h _ H2 (λb u z=>s2 _ _ (sU _ _ z)) (.cons ⟨tt,pr,rfl,s2 _ _ ae,s2 _ _ (sU _ _ HS)⟩ hk)
theorem kI {K:Frag}:∀{ks:List V}{es:List Tm},Paired (λx e=>∃a b,x=.ref a/\H a=some (.tup [.int e.1.length,.ref b])/\H b=some (.tup (e.1.map V.int))) ks es->dI K H ks (es.map fN)
 |_,_,.nil=>True.intro
 |_,_,.cons h t=>by
  obtain⟨a,b,rfl,h1,h2⟩:=h;exact⟨⟨a,b,[],rfl,bo.of h1,bo.of h2⟩,kI t⟩
theorem sx (h:(d.map (·.1)).Nodup)(f:Tm->Bool):((d.filter f).map fN).Nodup:=by
 have h1:((d.filter f).map (·.1)).Nodup:=h.sublist (List.filter_sublist.map _)
 have e:(d.filter f).map fN=((d.filter f).map (·.1)).map λk=>((k.length:Int),k):=by rw[List.map_map];rfl
 rw[e];unfold List.Nodup at h1 |-;rw[List.pairwise_map];exact h1.imp λh z=>h (Prod.mk.inj z).2
theorem gW (h:(d.map (·.1)).Nodup):∀{e e':Tm},e∈d->e'∈d->e.1=e'.1->e=e':=by
 induction d with
 |nil=>intro e e' h1;exact nomatch h1
 |cons a d ih =>
  rw[List.map_cons,List.nodup_cons] at h;intro e e' h1 h2 z
  rcases List.mem_cons.mp h1 with h3|h3
  ·rcases List.mem_cons.mp h2 with h4|h4
   ·rw[h3,h4]
   ·exact absurd (by rw[<-h3,z];exact List.mem_map_of_mem (f:=(·.1)) h4) h.1
  ·rcases List.mem_cons.mp h2 with h4|h4
   ·exact absurd (by rw[<-h4,<-z];exact List.mem_map_of_mem (f:=(·.1)) h3) h.1
   ·exact ih h.2 h3 h4 z
variable {P:vB}{w:World}{K:PySem.W.Frag}{mg:vW}{base:Heap}
variable {f:Addr}{fd:EK}
theorem zM {fp fo C:Addr}{IU NW:EK}(F:vM K "gathered" "gathered" xT f fd)(c:BJ K mg C)(GL:mg "sorted"=none)
 (Zl:Bp P w K mg base (bf P w) 4 fp IU qr (As C jq))(Zm:L2.ay K IU qr [])(Zn:L2.Meth K C "plus" fp)
 (SH:Bp P w K mg base (bf P w) 1 fo NW ["term"] CR)(SJ:L2.ay K NW ["term"] [])(SK:mg "place_of_term"=some (.ref fo)):Bp P w K mg base (bf P w) 5 f fd uC (p3 C):=by
 refine F.okN iW (λvs H Q E h=>?_) (λGN A outer s H vs Q E hr h=>?_)
 ·obtain⟨s,dx,l,p,ys,ts,rfl,_⟩:=h;rfl
 ·obtain⟨s0,dx,l,p,ys,ts,rfl,hs,hp,hl,NX,G,q⟩:=h;have h64:=G.len;have hG:=G.num;have HR:wK 4 _:=hr.mono (by decide);have SM:wK 3 _:=hr.mono (by decide);have hu:=(hr.units:_+64<cLine)
  replace hu:=Nat.lt_of_le_of_lt (Nat.add_le_add_left (by decide:1<=64) _) hu
  refine⟨_,(aj (@aY _ _ 2 _ _ _ _ iW.nd rfl (Or.inl rfl) pJ rfl (Or.inl rfl))
   (aj (dZ PassesOwn.never rfl (bu (pv 1)) (bZ rfl (aB (av (i:=3) iW.nd rfl (Or.inl rfl)) (aB (av (i:=4) iW.nd rfl (Or.inl rfl)) bz)))
   (aj (bw (aaE (aa9 hu (pv 3) (pv 2))) (aq (@aY _ _ 4 _ _ _ _ iW.nd rfl (Or.inl rfl) (fb (pv 0) c.cl Zn Zl HR Zm .nil ag (@ak _ _ _ _ _ (mY hu (pv 2) (pv 3) (λ_ _=>rfl)) (@ak _ _ _ _ _ (pv 4) af rfl) rfl)) rfl (Or.inl rfl))) aM)
   (aq (rN hu (pv 2) (pv 3) (pv 4) (by rfl)))))
   (aj (fH (i:=5) (g:=gq K 2 (bD (bg 0) (bD (bg 1) ve))) (N:=["product","number"]) (nl:=2) (js:=[]) (osc:=ai xT) ⟨rfl,rfl,by decide +kernel,by decide +kernel,by decide +kernel,rfl,.nil,by decide +kernel⟩ rfl iW.nd rfl (Or.inl rfl)
    (wQ (pv 2))
    (λC fp s H=>(bZ (X:=bY _ ["product","number"] _ C fp s H) rfl (aB (av (X:=bY _ ["product","number"] _ C fp s H) (i:=0) (by show(["product","number"]:zF).Nodup;decide +kernel) rfl (Or.inl rfl) (Or.inr rfl)) (aB (av (X:=bY _ ["product","number"] _ C fp s H) (i:=1) (by show(["product","number"]:zF).Nodup;decide +kernel) rfl (Or.inl rfl) (Or.inr rfl)) bz))))
    (λC fp s H=>(dJ (@aH _ _ _ _ _ _ _ _ fM (@aZ _ _ _ _ _ _ _ (show CC _ (zz K) from a9) (pv 1) ao (λ_ _=>rfl)) ao (aG _))))
    (λC fp s H=>(@bh _ _ _ _ _ (@ak _ _ _ _ _ (pv 0) (@ak _ _ _ _ _ (pv 1) af rfl) rfl))) (by rfl))
   (aq (aA (pF SH SM SJ (by rfl) GL (by rfl) SK (pv 5))))))),?_⟩
  have hlen:=NX.length
  have gg:∀i,i<=ts.length->mr p 4000 (aS p (ts.take i))/\((aS p (ts.take i)).map (·.1)).Nodup/\(aS p (ts.take i)).length<=i:=λi hi=>by
   obtain⟨_,g2,g3⟩:=eW (m:=4000) hp i (ts.take i) (by simp;omega) λt ht=>hG t (List.mem_of_mem_take ht);exact⟨G.steps i hi,g2,g3⟩
  refine λdd Ig=>?_;have s1:aC H (upd H dd (.dT [])):=ah Ig;refine⟨_,rfl,l,rfl,⟨ys,aN.of (s1 _ _ hl)⟩,?_⟩
  refine⟨λi m σ' H'=>m=ts.length-i/\i<=ts.length/\aC H H'/\(∃GH,H' dd=some (.dT GH)/\DR H' GH (aS p (ts.take i)))/\∃o3 o4,σ'=[some (.ref s0),some (.ref l),some (.ref dd),o3,o4,none],
   ⟨ts.length,by simp,Nat.zero_le _,s1,⟨[],ae,.nil⟩,none,none,rfl⟩,?_⟩
  rintro i m' σ' H' ⟨rfl,hi,sH,⟨GH,hd,dr⟩,o3,o4,rfl⟩;have IF:=sH _ _ hl;have Jt:=sH _ _ hs;obtain⟨gd,Jx,gl⟩:=gg i hi
  by_cases GR:i<ts.length
  ·have Zo:i<ys.length:=by omega
   refine .inr ⟨⟨ys,ys[i],aN.of IF,by simp[Zo]⟩,λσ' H'=>i+1<=ts.length/\aC H H'/\(∃GH,H' dd=some (.dT GH)/\DR H' GH (aS p (ts.take (i+1))))/\∃o3 o4,σ'=[some (.ref s0),some (.ref l),some (.ref dd),o3,o4,none],?_,λy H2 hy=>?_⟩
   ·rintro σ' H' ⟨h1,h2,h3,h4⟩;exact⟨ts.length-(i+1),by omega,rfl,h1,h2,h3,h4⟩
   ·obtain⟨rfl,hy⟩:=hy;obtain⟨t,et,tr⟩:=aW NX (hy ys (aN.of IF));obtain⟨a,pr,nu,rfl,ha,HS,IJ⟩:=tr.keep (aF.of sH);have gt:=hG t (List.mem_of_getElem? et)
    have Il:ts.take (i+1)=ts.take i++[t]:=by rw[List.take_add_one,et];rfl
    have Im:∀H3:Hp,aF H2 H3->H3 pr=some (.tup ((jB t.1).map kV)):=λH3 k=>by rw[iY];exact k _ _ HS
    have fin:∀(H3:Hp)(an:Addr),aC H H3->aF H2 H3->H3 dd=some (.dT GH)->((aS p (ts.take i)).any (λe=>decide (e.1=t.1))=false->H3 an=some (bO t.2.1 t.2.2)) →
     (∀e∈aS p (ts.take i),e.1=t.1->H3 an=some (bO (di p e.2 t.2).1 (di p e.2 t.2).2)) →
     aC H (upd H3 dd (.dT (fI GH (jB t.1) (.ref an))))/\∃Jy,(upd H3 dd (.dT (fI GH (jB t.1) (.ref an)))) dd=some (.dT Jy)/\DR (upd H3 dd (.dT (fI GH (jB t.1) (.ref an)))) Jy (aS p (ts.take (i+1))):=by
     intro H3 an s3 k3 h3 Lz IG;refine⟨λb u e=>by rw[ar (au e Ig)];exact s3 b u e,_,ae,?_⟩;rw[Il,jl];exact(xM (dr.keep k3) Jx Lz IG).keep (aF.upd λxs z=>by rw[h3] at z;cases z)
    have Jz:GH.length<sizeLine:=by
     rw[dr.length];exact Nat.lt_of_le_of_lt gl (Nat.lt_trans (Nat.lt_of_le_of_lt hi h64) (by decide))
    refine⟨a,_,rfl,bo.of ha,rfl,_,_,rfl,_,_,rfl,rfl,?_⟩;refine⟨_,rfl,_,rfl,dd,_,rfl,jh.t hd (Im _ λ_ _ e=>e),_,rfl,?_⟩
    cases hq:(aS p (ts.take i)).any (λe=>decide (e.1=t.1)) with
    |false =>
     rw[sO t.1 dr hq];refine bx ?_;refine⟨_,rfl,_,rfl,_,rfl,dd,_,rfl,oW.t hd (Im _ λ_ _ e=>e) Jz,?_⟩
     obtain⟨f1,f2⟩:=fin H2 nu sH (λ_ _ e=>e) hd (λ_=>IJ) λe he z=>by
      have:(aS p (ts.take i)).any (λe=>decide (e.1=t.1))=true:=List.any_eq_true.mpr ⟨e,he,by simpa using z⟩;rw[hq] at this;cases this
     exact⟨GR,f1,f2,_,_,rfl⟩
    |true =>
     obtain⟨e,he,ek,a0,hv,SN⟩:=ke t.1 dr hq;rw[hv];refine b7 ?_;have ge:=gd e he
     refine⟨_,rfl,s0,dx,_,rfl,Jt,rfl,_,rfl,_,rfl,dd,_,rfl,(by rw[<-hv];exact jh.t hd (Im _ λ_ _ e=>e)),_,rfl,s0,dx,a0,nu,p,e.2.1,e.2.2,t.2.1,t.2.2,rfl,Jt,hp,SN,IJ,
      ge.2.1,ge.2.2,gt.2.1,gt.2.2,ge.ne,gt.ne,λa1 J5=>?_⟩
     have sU:aC H2 (upd H2 a1 (bO (di p e.2 t.2).1 (di p e.2 t.2).2)):=ah J5;refine⟨_,rfl,_,rfl,_,rfl,dd,_,rfl,oW.t (sU _ _ hd) (Im _ (aF.of sU)) Jz,?_⟩
     obtain⟨f1,f2⟩:=fin _ a1 (λb u z=>sU _ _ (sH _ _ z)) (aF.of sU) (sU _ _ hd) (λz=>by rw[hq] at z;cases z) λe' Ju z=>by
      have:e'=e:=gW Jx Ju he (z.trans ek.symm);subst this;exact ae
     exact⟨GR,f1,f2,_,_,rfl⟩
  ·have ei:i=ts.length:=by omega
   subst ei;refine .inl ⟨⟨ys,aN.of IF,by omega⟩,?_⟩;rw[List.take_length] at dr gd Jx gl;refine⟨_,rfl,dd,GH,rfl,.inr ⟨hd,λo=>?_⟩⟩
   have sF:aC H (upd H' dd (og o GH)):=λb u e=>by rw[ar (au e Ig)];exact sH b u e
   have SO:DR (upd H' dd (og o GH)) GH (aS p ts):=dr.keep (aF.upd λxs z=>by rw[hd] at z;cases z);have kl:GH.length=(aS p ts).length:=dr.length
   refine⟨λi m xs σ' H2=>m=(aS p ts).length-i/\i<=(aS p ts).length/\aC H H2/\H2 dd=some (og o GH)/\DR H2 GH (aS p ts)/\aU H2 xs (((aS p ts).take i).filter λe=>e.2.1 != 0)/\∃o1 o2,σ'=[o1,o2],
    ⟨(aS p ts).length,by simp,Nat.zero_le _,sF,ae,SO,.nil,none,none,rfl⟩,?_⟩
   rintro i m' xs σ' H2 ⟨rfl,Zq,s2,hd2,K1,Ih,o1,o2,rfl⟩
   have xl:xs.length<=(aS p ts).length:=by
    rw[Ih.length];exact Nat.le_trans (List.length_filter_le _ _) (by simp;omega)
   refine⟨Nat.lt_of_le_of_lt (Nat.le_trans xl gl) (Nat.lt_trans h64 (by decide)),?_⟩
   by_cases JA:i<(aS p ts).length
   ·refine .inr ⟨⟨by omega,hd2⟩,λx H3 hx=>?_⟩;obtain⟨pp,b,k,v,hk,MN,hb,rfl,rfl⟩:=hx;obtain⟨e,ee,ek,a,ev,ha⟩:=aW K1 hk;have ek:k=jB e.1:=ek;have ev:v=.ref a:=ev;subst ek;subst ev;have sP:aC H2 (upd H2 pp (.tup [.ref b,.ref a])):=ah MN
    have Il:(aS p ts).take (i+1)=(aS p ts).take i++[e]:=by rw[List.take_add_one,ee];rfl
    rw[iY] at hb;refine⟨pp,_,rfl,bo.of ae,rfl,_,_,rfl,_,_,rfl,rfl,?_⟩;refine⟨_,rfl,a,_,0,_,rfl,rfl,bo.of (sP _ _ ha),rfl,rfl,_,rfl,?_⟩;have dP:upd H2 pp (.tup [.ref b,.ref a]) dd=some (og o GH):=sP _ _ hd2
    cases hz:(e.2.1 != 0) with
    |true =>
     have z:(!decide (V.int e.2.1=V.int 0))=true:=by
      have:e.2.1≠0:=by simpa using hz
      simp[this]
     rw[z];refine b7 ⟨_,rfl,_,rfl,gc,λt' SQ=>?_⟩;have sT:aC (upd H2 pp (.tup [.ref b,.ref a])) (upd (upd H2 pp (.tup [.ref b,.ref a])) t' (.tup [.ref b,.ref a])):=ah SQ;have sA:aC H2 (upd (upd H2 pp (.tup [.ref b,.ref a])) t' (.tup [.ref b,.ref a])):=λc u e=>sT _ _ (sP _ _ e);refine⟨(aS p ts).length-(i+1),by omega,rfl,JA,λc u e=>sA _ _ (s2 _ _ e),sA _ _ hd2,K1.keep (aF.of sA),?_,_,_,rfl⟩;rw[Il,List.filter_append]
     have ef:[e].filter (λe=>e.2.1 != 0)=[e]:=by simp[hz]
     rw[ef];exact Paired.snoc (aU.keep Ih (aF.of sA)) ⟨t',b,a,rfl,ae,sA _ _ hb,sA _ _ ha⟩
    |false =>
     have z:(!decide (V.int e.2.1=V.int 0))=false:=by
      have:e.2.1=0:=by simpa using hz
      simp[this]
     rw[z];refine bx ⟨(aS p ts).length-(i+1),by omega,rfl,JA,λc u e=>sP _ _ (s2 _ _ e),sP _ _ hd2,K1.keep (aF.of sP),?_,_,_,rfl⟩;rw[Il,List.filter_append]
     have ef:[e].filter (λe=>e.2.1 != 0)=[]:=by simp[hz]
     rw[ef,List.append_nil];exact aU.keep Ih (aF.of sP)
   ·have SS:i=(aS p ts).length:=by omega
    subst SS;refine .inl ⟨⟨by omega,hd2⟩,λD hD=>?_⟩;rw[List.take_length] at Ih;have sD:aC H2 (upd H2 D (.lst xs)):=ah hD;refine⟨_,rfl,D,xs,rfl,aN.of ae,(by rw[Ih.length];exact G.few),?_⟩;refine iM (aU.keep Ih (aF.of sD)) λks H3 s3 hk=>?_;refine⟨_,kI hk,sx Jx _,λD2 K2=>?_⟩;have sE:aC H3 (upd H3 D2 (.lst ((dH ((((aS p ts).filter λe=>e.2.1 != 0).map fN).zip xs)).map (·.2)))):=ah K2;refine q _ D2 _ (λc u e=>sE _ _ (s3 _ _ (sD _ _ (s2 _ _ e)))) (none_of (λc u e=>s3 _ _ (sD _ _ (s2 _ _ e))) K2) ae ?_;have MT:aU H3 xs ((aS p ts).filter λe=>e.2.1 != 0):=aU.keep Ih (aF.of λc u e=>s3 _ _ (sD _ _ e));exact aU.keep (kX (gT (kY MT))) (aF.of sE)
structure Cd (p D M:Int)(a:Int×Int):Prop where
 num:Num p a.1 a.2
 d:p=0->∃k:Int,a.2*k=D/\((a.1*k).natAbs:Int)<=M
variable {M:Int}
theorem Cd.mono {D M':Int}(h:Cd p D M a)(m:M<=M'):Cd p D M' a:=⟨h.num,λz=>by
 obtain⟨k,e,l⟩:=h.d z
 exact⟨k,e,Int.le_trans l m⟩⟩
variable {N:Int}
theorem Cd.add {D:Int}(hp:FP p)(ha:Cd p D M a)(hb:Cd p D N b):Cd p D (M+N) (di p a b):=by
 have na:=ha.num.pos;have nb:=hb.num.pos;have nz:a.2*b.2≠0:=Int.mul_ne_zero (by omega) (by omega);refine⟨Num.set hp.nn nz,λz=>?_⟩;subst z;obtain⟨x,ex,lx⟩:=ha.d rfl;obtain⟨y,ey,ly⟩:=hb.d rfl;have cr:=i9 (t:=a.1*b.2+b.1*a.2) nz;have nm:Num 0 (cN 0 (a.1*b.2+b.1*a.2) (a.2*b.2)) (c5 0 (a.1*b.2+b.1*a.2) (a.2*b.2)):=Num.set (Int.le_refl 0) nz;show ∃k,c5 0 (a.1*b.2+b.1*a.2) (a.2*b.2)*k=D/\(((cN 0 (a.1*b.2+b.1*a.2) (a.2*b.2))*k).natAbs:Int)<=M+N;generalize cN 0 (a.1*b.2+b.1*a.2) (a.2*b.2)=t at cr nm |-;generalize c5 0 (a.1*b.2+b.1*a.2) (a.2*b.2)=u at cr nm |-;obtain⟨a1,a2⟩:=a;obtain⟨b1,b2⟩:=b;dsimp only at *
 have e1:t*D=(a1*x+b1*y)*u:=by
  refine Int.eq_of_mul_eq_mul_right nz ?_
  have h1:(a1*b2+b1*a2)*D=(a1*x+b1*y)*(a2*b2):=by
   have:(a1*b2+b1*a2)*D=a1*b2*D+b1*a2*D:=by grind
   rw[this]
   have p1:a1*b2*D=a1*x*(a2*b2):=by rw[<-ex];grind
   have p2:b1*a2*D=b1*y*(a2*b2):=by rw[<-ey];grind
   rw[p1,p2];grind
  have:t*D*(a2*b2)=t*(a2*b2)*D:=by grind
  rw[this,cr]
  have:(a1*b2+b1*a2)*u*D=(a1*b2+b1*a2)*D*u:=by grind
  rw[this,h1];grind
 have dv:u ∣ D:=by
  have g:Int.gcd u t=1:=by rw[Int.gcd_comm];exact nm.red
  have h1:u ∣ t*D:=⟨a1*x+b1*y,by rw[e1];grind⟩;have h2:=Int.natAbs_dvd_natAbs.mpr h1;rw[Int.natAbs_mul] at h2;exact Int.natAbs_dvd_natAbs.mp (Nat.Coprime.dvd_of_dvd_mul_left (show Nat.Coprime u.natAbs t.natAbs from g) h2)
 obtain⟨k,ek⟩:=dv;refine⟨k,ek.symm,?_⟩;have up:=nm.pos
 have e2:t*k=a1*x+b1*y:=by
  refine Int.eq_of_mul_eq_mul_right (show u≠0 by omega) ?_;rw[<-e1,ek];grind
 rw[e2];have:=Int.natAbs_add_le (a1*x) (b1*y);omega
theorem FP.bits (hp:FP p)(z:p≠0){t b:Int}(h:Num p t b):B 7 t/\B 7 b:=by
 obtain⟨_,_,Q8⟩:=hp.two z;obtain⟨h1,h2,h3⟩:=h.pr z;constructor
 ·show t.natAbs<2^7;omega
 ·show b.natAbs<2^7;omega
variable {n:Nat}
theorem Cd.gn {D:Int}(hp:FP p)(h:Cd p D M a)(h7:7<=n)(Rk:D≠0)(hD:B n D)(hM:B n M):Gn p n a:=by
 by_cases z:p=0
 ·obtain⟨k,e,l⟩:=h.d z;have kz:k≠0:=λw=>Rk (by rw[<-e,w,Int.mul_zero])
  have k1:1<=k.natAbs:=by omega
  refine⟨h.num,?_,?_⟩
  ·have:(a.1*k).natAbs<=M.natAbs:=by omega
   rw[Int.natAbs_mul] at this;exact hM.le (Nat.le_trans (Nat.le_mul_of_pos_right _ k1) this)
  ·rw[<-e] at hD;refine hD.le ?_;rw[Int.natAbs_mul];exact Nat.le_mul_of_pos_right _ k1
 ·obtain⟨h1,h2⟩:=hp.bits z h.num;exact⟨h.num,h1.mono h7,h2.mono h7⟩
theorem yO {D:Int}{t:Tm}(hp:FP p)(hN:0<=N)(hM:0<=M)(hd:∀e∈d,Cd p D M e.2)(ht:Cd p D N t.2):∀e∈cE p d t,Cd p D (M+N) e.2:=by
 intro e he;unfold cE at he
 split at he
 ·obtain⟨e0,h0,rfl⟩:=List.mem_map.mp he
  by_cases q:e0.1=t.1
  ·rw[if_pos q];exact(hd e0 h0).add hp ht
  ·rw[if_neg q];exact(hd e0 h0).mono (by omega)
 ·rcases List.mem_append.mp he with he|he
  ·exact(hd e he).mono (by omega)
  ·have:e=t:=by simpa using he
   rw[this];exact ht.mono (by omega)
theorem sk {D:Int}(hp:FP p)(hN:0<=N):∀(ts d:List Tm)(M:Int),0<=M->(∀e∈d,Cd p D M e.2)->(∀t∈ts,Cd p D N t.2)->∀e∈ts.foldl (cE p) d,Cd p D (M+N*ts.length) e.2
 |[],d,M,hM,hd,_,e,he=>(hd e he).mono (by simp)
 |t::ts,d,M,hM,hd,ht,e,he=>by
  have:=sk hp hN ts (cE p d t) (M+N) (by omega) (yO hp hN hM hd (ht t List.mem_cons_self)) (λt h=>ht t (List.mem_cons_of_mem _ h)) e he;refine this.mono ?_;rw[List.length_cons];push_cast;rw[Int.mul_add];omega
theorem z9 {D:Int}{ts:List Tm}(hp:FP p)(hN:0<=N)(h:∀t∈ts,Cd p D N t.2):∀e∈aS p ts,Cd p D (N*ts.length) e.2:=λe he=>by
 have:=sk hp hN ts [] 0 (Int.le_refl 0) (λe h=>nomatch h) h e he;rwa[Int.zero_add] at this
theorem pH.cd {D:Int}(hp:FP p)(hN:0<=N)(h:∀t∈ts,Cd p D N t.2)(Rk:D≠0)(hD:B 4000 D)(hM:B 4000 (N*ts.length))(len:ts.length<4000)(few:((aS p ts).filter λe=>e.2.1 != 0).length<64):pH p ts:=by
 have up:∀i:Nat,i<=ts.length->B 4000 (N*(i:Int)):=λi hi=>hM.le (by
  rw[Int.natAbs_mul,Int.natAbs_mul]
  exact Nat.mul_le_mul_left _ (by omega))
 refine⟨len,λt ht=>?_,λi hi e he=>?_,few⟩
 ·by_cases z:ts.length=0
  ·rw[List.length_eq_zero_iff.mp z] at ht
   exact nomatch ht
  ·refine(h t ht).gn hp (by decide) Rk hD ?_;have:=up 1 (by omega);simpa using this
 ·have g:=z9 (ts:=ts.take i) hp hN (λt ht=>h t (List.mem_of_mem_take ht)) e he;rw[List.length_take,Nat.min_eq_left hi] at g;exact g.gn hp (by decide) Rk hD (up i hi)
def cm (p k:Int):Int×Int:=(cN p k 1,c5 p k 1)
theorem iq (hp:FP p)(k:Int):Num p (cm p k).1 (cm p k).2:=Num.set hp.nn (by decide)
theorem dN (k:Int):cm 0 k=(k,1):=by
 have z:=lu (t:=k) (b:=1) (by decide) (by simp);show(dW k 1,cD k 1)=_;rw[z.1,z.2]
theorem cy (h:p≠0)(k:Int):cm p k=(k%p,1):=by
 unfold cm cN c5;rw[if_neg h,if_neg h]
theorem vD (a b:Int):di p (cm p a) (cm p b)=cm p (a+b):=by
 by_cases h:p=0
 ·subst h;rw[dN,dN];show(cN 0 (a*1+b*1) (1*1),c5 0 (a*1+b*1) (1*1))=cm 0 (a+b);rw[Int.mul_one,Int.mul_one];rfl
 ·rw[cy h,cy h,cy h];unfold di jq cN c5;rw[if_neg h,if_neg h,Int.mul_one,Int.mul_one,<-Int.add_emod]
theorem Bn (p:Int):cm p 0=(0,1):=by
 by_cases h:p=0
 ·subst h;exact dN 0
 ·rw[cy h,Int.zero_emod]
theorem n5 (hp:FP p):cm p 1=(1,1):=by
 by_cases h:p=0
 ·subst h;exact dN 1
 ·rw[cy h,Int.emod_eq_of_lt (by decide) (by have:=(hp.two h).2.1;omega)]
section
variable {p:Int}{R:Type} [Lean.Grind.CommRing R]{v:Int×Int->R}
theorem AW (V:Val p R v)(hp:FP p)(a b:Int):v (cm p (a+b))=v (cm p a)+v (cm p b):=by
 rw[<-vD];exact(V.set (iq hp a) (iq hp b)).1 rfl rfl
end
theorem eZ (hp:FP p):Num p 1 1:=⟨by decide,by decide,λz=>⟨rfl,by decide,by have:=(hp.two z).2.1;omega⟩⟩
abbrev Gk:Stmt:=(aO 57)
abbrev AU:Stmt:=(aO 58)
def pj:Sp:=λvs H Q _=>∃(l:Addr)(p:Int)(ys:List V)(ts:List Tm),vs=[.int p,.ref l]/\FP p/\H l=some (.lst ys)/\aU H ys ts/\pH p ts /\
 ∀H' D zs,aC H H'->H D=none->H' D=some (.lst zs)->aU H' zs (fZ (aS p ts))->Q (.ref D) H'
theorem FF:yJ ["_law_row"] ["_law_row"] (ai Gk):=dE (by decide +kernel)
theorem sG:yJ ["_law_prime","_law_terms","_law_found","_law_product","_law_number"] E8 (ai AU):=dE (by decide +kernel)
theorem Dc (F:vM K "_law_row_key" "_law_row_key" Gk f fd)(GJ:mg "len"=none):Bp P w K mg base (bf P w) 1 f fd ["_law_row"] CR:=by
 refine F.okN FF (λvs H Q E h=>?_) (λGN A outer s H vs Q E hr h=>?_)
 ·obtain⟨a,b,z,xs,rfl,_⟩:=h;rfl
 ·obtain⟨a,b,z,xs,rfl,ha,hb,q⟩:=h;refine⟨_,(aq (aA (@bh _ _ _ _ _ (@ak _ _ _ _ _ (az aJ (by rfl) GJ PySem.boot_len (@ak _ _ _ _ _ (@aZ _ _ _ _ _ _ _ a9 (pv 0) ao (λ_ _=>rfl)) af rfl)) (@ak _ _ _ _ _ (@aZ _ _ _ _ _ _ _ a9 (pv 0) ao (λ_ _=>rfl)) af rfl) rfl)))),?_⟩;refine⟨_,rfl,a,_,0,_,rfl,rfl,bo.of ha,rfl,b,xs,rfl,.inr (bo.of hb),_,rfl,a,_,0,_,rfl,rfl,bo.of ha,rfl,gc,λt ht=>q t ht⟩
theorem xI {fl fk:Addr}{Ij WL:EK}(F:vM K "_law_gathered" "_law_gathered" AU f fd)(GL:mg "sorted"=none)
 (Zr:Bp P w K mg base (bf P w) 3 fl Ij GD (ng jq))(Zt:L2.ay K Ij GD [])(Zu:mg "_law_plus"=some (.ref fl))(Zv:keepIn K (.ref fl)=true)
 (Zw:Bp P w K mg base (bf P w) 1 fk WL ["_law_row"] CR)(Zx:L2.ay K WL ["_law_row"] [])(Zy:mg "_law_row_key"=some (.ref fk)):
 Bp P w K mg base (bf P w) 4 f fd E8 pj:=by
 refine F.okN sG (λvs H Q E h=>?_) (λGN A outer s H vs Q E hr h=>?_)
 ·obtain⟨l,p,ys,ts,rfl,_⟩:=h;rfl
 ·obtain⟨l,p,ys,ts,rfl,hp,hl,NX,G,q⟩:=h;have h64:=G.len;have hG:=G.num;have IH:wK 3 _:=hr.mono (by decide);have SM:wK 3 _:=hr.mono (by decide);have hu:=(hr.units:_+64<cLine)
  replace hu:=Nat.lt_of_le_of_lt (Nat.add_le_add_left (by decide:1<=64) _) hu
  refine⟨_,(aj (@aY _ _ 2 _ _ _ _ sG.nd rfl (Or.inr rfl) pJ rfl (Or.inl rfl))
   (aj (dZ PassesOwn.never rfl (bu (pv 1)) (bZ rfl (aB (av (i:=3) sG.nd rfl (Or.inl rfl)) (aB (av (i:=4) sG.nd rfl (Or.inl rfl)) bz)))
   (aq (rN hu (pv 2) (pv 3) (ax Zr IH (by rfl) Zu Zv Zt .nil ag (@ak _ _ _ _ _ (pv 0) (@ak _ _ _ _ _ (aaV hu (pv 2) (pv 3) (@bh _ _ _ _ _ (@ak _ _ _ _ _ ao (@ak _ _ _ _ _ ao af rfl) rfl)) ⟨rfl,rfl,rfl,rfl⟩) (@ak _ _ _ _ _ (pv 4) af rfl) rfl) rfl)) (by rfl))))
   (aq (aA (pF Zw SM Zx (by rfl) GL (by rfl) Zy (bX (N:=["_law_product","_law_found"]) (nl:=1) (js:=[2]) (osc:=ai AU) ⟨rfl,rfl,by decide +kernel,by decide +kernel,by decide +kernel,rfl,(.cons ⟨rfl,by decide +kernel⟩ .nil),by decide +kernel⟩ rfl
    (zX (pv 2))
    (λCq fq sq Hq=>av (i:=0) (by show(["_law_product","_law_found"]:zF).Nodup;decide +kernel) rfl (Or.inl rfl) (Or.inr rfl))
    (λCq fq sq Hq=>(dJ (@aH _ _ _ _ _ _ _ _ fM (@aZ _ _ _ _ _ _ _ (show CC _ (zz K) from a9) (mY hu (pv 1) (pv 0) (λ_ _=>rfl)) ao (λ_ _=>rfl)) ao (aG _))))
    (λCq fq sq Hq=>(@bh _ _ _ _ _ (@ak _ _ _ _ _ (pv 0) (@ak _ _ _ _ _ (mY hu (pv 1) (pv 0) (λ_ _=>rfl)) af rfl) rfl))))))))),?_⟩
  have hlen:=NX.length
  have gg:∀i,i<=ts.length->mr p 4000 (aS p (ts.take i))/\((aS p (ts.take i)).map (·.1)).Nodup/\(aS p (ts.take i)).length<=i:=λi hi=>by
   obtain⟨_,g2,g3⟩:=eW (m:=4000) hp i (ts.take i) (by simp;omega) λt ht=>hG t (List.mem_of_mem_take ht);exact⟨G.steps i hi,g2,g3⟩
  have one:∀{n:Nat}{a:Int×Int},Gn p n a->p≠0->a.2=1:=λh z=>(h.1.pr z).1;refine λdd Ig=>?_;have s1:aC H (upd H dd (.dT [])):=ah Ig;refine⟨_,rfl,l,rfl,⟨ys,aN.of (s1 _ _ hl)⟩,?_⟩;refine hZ (xs:=ys) (λi σ' H'=>aC H H'/\(∃GH,H' dd=some (.dT GH)/\DR H' GH (aS p (ts.take i)))/\∃o3 o4,σ'=[some (.int p),some (.ref l),some (.ref dd),o3,o4]) ⟨s1,⟨[],ae,.nil⟩,none,none,rfl⟩ (λi σ' H' _ h=>aN.of (h.1 _ _ hl)) (λi x σ' H2 hx h=>?_) (λσ' H' h=>?_)
  ·obtain⟨sH,⟨GH,hd,dr⟩,o3,o4,rfl⟩:=h;obtain⟨t,et,tr⟩:=aW NX hx;have hi:i<ts.length:=(List.getElem?_eq_some_iff.mp et).1;obtain⟨gd,Jx,gl⟩:=gg i (by omega);obtain⟨a,pr,nu,rfl,ha,HS,IJ⟩:=tr.keep (aF.of sH);have gt:=hG t (List.mem_of_getElem? et)
   have Il:ts.take (i+1)=ts.take i++[t]:=by rw[List.take_add_one,et];rfl
   have Im:∀H3:Hp,aF H2 H3->H3 pr=some (.tup ((jB t.1).map kV)):=λH3 k=>by rw[iY];exact k _ _ HS
   have Jz:GH.length<sizeLine:=by
    rw[dr.length];exact Nat.lt_of_le_of_lt gl (Nat.lt_trans (Nat.lt_trans hi h64) (by decide))
   have fin:∀(H3:Hp)(an:Addr),aC H2 H3->((aS p (ts.take i)).any (λe=>decide (e.1=t.1))=false->H3 an=some (bO t.2.1 t.2.2))->(∀e∈aS p (ts.take i),e.1=t.1->H3 an=some (bO (di p e.2 t.2).1 (di p e.2 t.2).2)) →
    aC H (upd H3 dd (.dT (fI GH (jB t.1) (.ref an))))/\∃Jy,(upd H3 dd (.dT (fI GH (jB t.1) (.ref an)))) dd=some (.dT Jy)/\DR (upd H3 dd (.dT (fI GH (jB t.1) (.ref an)))) Jy (aS p (ts.take (i+1))):=by
    intro H3 an s3 Lz IG;refine⟨λb u e=>by rw[ar (au e Ig)];exact s3 b u (sH b u e),_,ae,?_⟩;rw[Il,jl];exact(xM (dr.keep (aF.of s3)) Jx Lz IG).keep (aF.upd λxs z=>by rw[s3 _ _ hd] at z;cases z)
   refine⟨a,_,rfl,bo.of ha,rfl,_,_,rfl,_,_,rfl,rfl,?_⟩;refine⟨_,rfl,_,rfl,dd,rfl,.inr ⟨GH,.inl hd⟩,_,rfl,gc,λt0 LO=>?_⟩;have sZ:aC H2 (upd H2 t0 (.tup [.int 0,.int 1])):=ah LO;refine⟨_,jh.t (sZ _ _ hd) (Im _ (aF.of sZ)),?_⟩
   cases hq:(aS p (ts.take i)).any (λe=>decide (e.1=t.1)) with
   |false =>
    rw[sO t.1 dr hq];refine⟨_,rfl,p,0,1,t.2.1,t.2.2,t0,nu,rfl,hp,ae,sZ _ _ IJ,(by unfold B;decide),(by show(1:Nat)<2^4000;exact Nat.one_lt_two_pow (by decide)),gt.2.1,gt.2.2,(by decide),gt.ne,λz=>by rw[one gt z];decide,λH3 an s3 h3=>?_⟩;have ez:di p (0,1) t.2=t.2:=t7 hp gt;have sA:aC H2 H3:=sZ.trans s3;refine⟨_,rfl,_,rfl,dd,_,rfl,oW.t (sA _ _ hd) (Im _ (aF.of sA)) Jz,?_⟩
    obtain⟨f1,f2⟩:=fin H3 an sA (λ_=>by
     have:H3 an=some (bO (di p (0,1) t.2).1 (di p (0,1) t.2).2):=h3;rw[ez] at this
     exact this) λe he z=>by
     have:(aS p (ts.take i)).any (λe=>decide (e.1=t.1))=true:=List.any_eq_true.mpr ⟨e,he,by simpa using z⟩;rw[hq] at this;cases this
    exact⟨f1,f2,_,_,rfl⟩
   |true =>
    obtain⟨e,he,ek,a0,hv,SN⟩:=ke t.1 dr hq;rw[hv];have ge:=gd e he;refine⟨_,rfl,p,e.2.1,e.2.2,t.2.1,t.2.2,a0,nu,rfl,hp,sZ _ _ SN,sZ _ _ IJ,ge.2.1,ge.2.2,gt.2.1,gt.2.2,ge.ne,gt.ne,λz=>by rw[one gt z,one ge z];decide,λH3 an s3 h3=>?_⟩;have sA:aC H2 H3:=sZ.trans s3;refine⟨_,rfl,_,rfl,dd,_,rfl,oW.t (sA _ _ hd) (Im _ (aF.of sA)) Jz,?_⟩
    obtain⟨f1,f2⟩:=fin H3 an sA (λz=>by rw[hq] at z;cases z) λe' Ju z=>by
     have:e'=e:=gW Jx Ju he (z.trans ek.symm);subst this;exact h3
    exact⟨f1,f2,_,_,rfl⟩
  ·obtain⟨sH,⟨GH,hd,dr⟩,o3,o4,rfl⟩:=h;obtain⟨gd,Jx,gl⟩:=gg ts.length (Nat.le_refl _);rw[hlen] at dr;rw[List.take_length] at dr gd Jx gl;refine⟨_,rfl,dd,GH,rfl,.inr ⟨hd,λo=>?_⟩⟩
   have sF:aC H (upd H' dd (og o GH)):=λb u e=>by rw[ar (au e Ig)];exact sH b u e
   have SO:DR (upd H' dd (og o GH)) GH (aS p ts):=dr.keep (aF.upd λxs z=>by rw[hd] at z;cases z);have kl:GH.length=(aS p ts).length:=dr.length
   refine⟨λi m xs σ' H2=>m=(aS p ts).length-i/\i<=(aS p ts).length/\aC H H2/\H2 dd=some (og o GH)/\DR H2 GH (aS p ts)/\aU H2 xs (((aS p ts).take i).filter λe=>e.2.1 != 0)/\∃o1,σ'=[o1,some (.ref dd)],
    ⟨(aS p ts).length,by simp,Nat.zero_le _,sF,ae,SO,.nil,none,rfl⟩,?_⟩
   rintro i m' xs σ' H2 ⟨rfl,Zq,s2,hd2,K1,Ih,o1,rfl⟩
   have xl:xs.length<=(aS p ts).length:=by
    rw[Ih.length];exact Nat.le_trans (List.length_filter_le _ _) (by simp;omega)
   refine⟨Nat.lt_of_le_of_lt (Nat.le_trans xl gl) (Nat.lt_trans h64 (by decide)),?_⟩
   by_cases JA:i<(aS p ts).length
   ·refine .inr ⟨⟨by omega,hd2⟩,λx H3 hx=>?_⟩;obtain⟨b,k,v,hk,hb,rfl,rfl⟩:=hx;obtain⟨e,ee,ek,_⟩:=aW K1 hk;have ek:k=jB e.1:=ek;subst ek;have he:=List.mem_of_getElem? ee
    have Il:(aS p ts).take (i+1)=(aS p ts).take i++[e]:=by rw[List.take_add_one,ee];rfl
    obtain⟨e',Ju,Zz,a,hv,ha⟩:=ke e.1 K1 (List.any_eq_true.mpr ⟨e,he,by simp⟩);have:e'=e:=gW Jx Ju he Zz;subst this;have dg:jh H3 dd (.ref b) (some (.ref a)):=.inr ⟨GH,jB e'.1,b,.inr ⟨o,hd2⟩,rfl,hb,hv.symm⟩;have Hj:=hb;rw[iY] at Hj;refine⟨_,rfl,_,rfl,dd,.ref a,rfl,dg,a,_,0,_,rfl,rfl,bo.of ha,rfl,rfl,_,rfl,?_⟩
    cases hz:(e'.2.1 != 0) with
    |true =>
     have z:(!decide (V.int e'.2.1=V.int 0))=true:=by
      have:e'.2.1≠0:=by simpa using hz
      simp[this]
     rw[z];refine b7 ⟨_,rfl,_,rfl,_,rfl,dd,.ref a,rfl,dg,gc,λt' SQ=>?_⟩;have sA:aC H3 (upd H3 t' (.tup [.ref b,.ref a])):=ah SQ;refine⟨(aS p ts).length-(i+1),by omega,rfl,JA,s2.trans sA,sA _ _ hd2,K1.keep (aF.of sA),?_,_,rfl⟩;rw[Il,List.filter_append]
     have ef:[e'].filter (λe=>e.2.1 != 0)=[e']:=by simp[hz]
     rw[ef];exact Paired.snoc (aU.keep Ih (aF.of sA)) ⟨t',b,a,rfl,ae,sA _ _ Hj,sA _ _ ha⟩
    |false =>
     have z:(!decide (V.int e'.2.1=V.int 0))=false:=by
      have:e'.2.1=0:=by simpa using hz
      simp[this]
     rw[z];refine bx ⟨(aS p ts).length-(i+1),by omega,rfl,JA,s2,hd2,K1,?_,_,rfl⟩;rw[Il,List.filter_append]
     have ef:[e'].filter (λe=>e.2.1 != 0)=[]:=by simp[hz]
     rw[ef,List.append_nil];exact Ih
   ·have SS:i=(aS p ts).length:=by omega
    subst SS;refine .inl ⟨⟨by omega,hd2⟩,λD hD=>?_⟩;rw[List.take_length] at Ih;have sD:aC H2 (upd H2 D (.lst xs)):=ah hD;refine⟨D,xs,rfl,aN.of ae,(by rw[Ih.length];exact G.few),?_⟩;refine iM (aU.keep Ih (aF.of sD)) λks H3 s3 hk=>?_;refine⟨_,kI hk,sx Jx _,λD2 K2=>?_⟩;have sE:aC H3 (upd H3 D2 (.lst ((dH ((((aS p ts).filter λe=>e.2.1 != 0).map fN).zip xs)).map (·.2)))):=ah K2;refine q _ D2 _ (λc u e=>sE _ _ (s3 _ _ (sD _ _ (s2 _ _ e)))) (none_of (λc u e=>s3 _ _ (sD _ _ (s2 _ _ e))) K2) ae ?_;have MT:aU H3 xs ((aS p ts).filter λe=>e.2.1 != 0):=aU.keep Ih (aF.of λc u e=>s3 _ _ (sD _ _ e));exact aU.keep (kX (gT (kY MT))) (aF.of sE)
abbrev rn:Stmt:=aQ (aO 35) 0
def B9 (ks:List Int):Prop:=ka (some (ks.map V.int))=true/\ks.length<4000
theorem zD {t b:Int}(n:Num p t b):xC p (some (.int t,.int b))=true:=by
 unfold xC;dsimp only
 by_cases z:p=0
 ·rw[if_pos z,n.red];have:=n.pos;simp;omega
 ·rw[if_neg z];obtain⟨h1,h2,h3⟩:=n.pr z;simp[h1,h2,h3]
theorem Dg {y:V}{t:Tm}(h:CG H y t)(g:Gn p n t.2)(pd:B9 t.1):E6 p H y true:=by
 obtain⟨a,pr,nu,rfl,ha,HS,IJ⟩:=h
 have e:E6 p H (.ref a) (ka (some (t.1.map V.int))&&xC p (some (.int t.2.1,.int t.2.2))):=.two ha (.tup HS (by rw[List.length_map];exact pd.2) λy hy=>by
  obtain⟨k,_,rfl⟩:=List.mem_map.mp hy
  exact⟨_,.int k⟩) (.two IJ (.int _) (.int _))
 rw[pd.1,zD g.1] at e;exact e
theorem wj :∀{ys:List V}{ts:List Tm},aU H ys ts->(∀t∈ts,Gn p n t.2/\B9 t.1)->∀y∈ys,E6 p H y true
 |_,_,.nil,_,y,hy=>nomatch hy
 |_,_,.cons h t,g,y,hy=>by
  rcases List.mem_cons.mp hy with rfl|hy
  ·exact Dg h (g _ List.mem_cons_self).1 (g _ List.mem_cons_self).2
  ·exact wj t (λt ht=>g t (List.mem_cons_of_mem _ ht)) y hy
structure A8 (K:Frag)(mg:vW)(C:Addr):Prop where
 cl:BB K C
 nF:cU K C "its_field"
 nT:cU K C "its_terms"
 mgC:mg "Sum"=some (.ref C)
def uf (fl D:Addr):List (Str×V):=[("its_field",.ref fl),("its_terms",.ref D)]
def jG (C CF:Addr):Sp:=λvs H Q _=>∃(s dx fl GQ:Addr)(p:Int)(x:V)(ts:List Tm),vs=[.ref s,.ref fl,x]/\H s=some (.ins C dx [])/\H fl=some (.ins CF GQ (df p))/\FP p /\
 ((x=.non/\ts=[])\/∃l ys,x=.ref l/\H l=some (.lst ys)/\aU H ys ts)/\pH p ts/\(∀t∈ts,B9 t.1) /\
 ∀H' D zs,SameBut s H H'->H D=none->H' s=some (.ins C dx (uf fl D))->H' D=some (.lst zs)->aU H' zs (fZ (aS p ts))->Q .non H'
theorem yv:yJ FH FH (ai rn):=dE (by decide +kernel)
theorem xN {fg fc C CF T:Addr}{Ii JB:EK}(F:Fx K "__init__" "Sum.__init__" rn f fd T)(c:A8 K mg C)
 (FG:Bp P w K mg base (bf P w) 5 fg Ii uC (p3 CF))(bG:L2.ay K Ii uC [])(mG:mg "gathered"=some (.ref fg))(kG:keepIn K (.ref fg)=true)
 (FC:Bp P w K mg base (bf P w) 5 fc JB uC (lW CF))(bC:L2.ay K JB uC [])(mC:mg "checked_terms"=some (.ref fc))(kC:keepIn K (.ref fc)=true):
 Bp P w K mg base (bf P w) 6 f fd FH (jG C CF):=by
 refine F.okE yv (λvs H Q E h=>?_) (λGN A outer s H vs Q E hr h=>?_)
 ·obtain⟨s,dx,fl,GQ,p,x,ts,rfl,_⟩:=h;rfl
 ·obtain⟨s0,dx,fl,GQ,p,x,ts,rfl,hs,hf,hp,hx,G,hP,q⟩:=h;have hG:∀t∈ts,Gn p 4000 t.2/\B9 t.1:=λt ht=>⟨G.num t ht,hP t ht⟩;have K3:wK 5 _:=hr.mono (by decide);refine⟨_,aj (g9 (pv 0) (pv 1) rfl) (aq (g9 (pv 0) (ax FG K3 (by rfl) mG kG bG .nil ag (@ak _ _ _ _ _ (pv 1) (@ak _ _ _ _ _ (ax FC K3 (by rfl) mC kC bC .nil ag (@ak _ _ _ _ _ (pv 1) (@ak _ _ _ _ _ (pv 2) af rfl) rfl)) af rfl) rfl)) rfl)),?_⟩;refine⟨_,rfl,_,rfl,s0,C,dx,_,rfl,hs,c.cl,c.nF,by decide,?_⟩
  have Jl:fl≠s0:=λz=>by
   rw[z,hs] at hf
   injection hf with hf
   injection hf with _ _ hf
   cases hf
  have LP:upd H s0 (.ins C dx (cH "its_field" (.ref fl) [])) fl=some (.ins CF GQ (df p)):=by rw[ar Jl];exact hf
  have kT:aF H (upd H s0 (.ins C dx (cH "its_field" (.ref fl) []))):=aF.upd λxs z=>by rw[hs] at z;cases z
  have fin:∀(H2:Hp)(l:Addr)(ys:List V),aC (upd H s0 (.ins C dx (cH "its_field" (.ref fl) []))) H2->H2 l=some (.lst ys)->aU H2 ys ts->p3 CF [.ref fl,.ref l] H2 (λy H1=>d9 0 [some (.ref s0),some (.ref fl),some x] H1 λx2 H2=>∃a C dx fs,x2=.ref a/\H2 a=some (.ins C dx fs)/\BB K C/\cU K C "its_terms"/\fs.length<1000 /\
   Q .non (upd H2 a (.ins C dx (cH "its_terms" y fs)))) λ_ _ _=>False:=by
   intro H2 l ys s2 hl ht;refine⟨fl,GQ,l,p,ys,ts,rfl,s2 _ _ LP,hp,hl,ht,G,λH3 D zs s3 h0 hD hz=>?_⟩;have LQ:H3 s0=some (.ins C dx (cH "its_field" (.ref fl) [])):=s3 _ _ (s2 _ _ ae);refine⟨_,rfl,s0,C,dx,_,rfl,LQ,c.cl,c.nT,(by show 1<1000;decide),?_⟩
   have nD:D≠s0:=λz=>by rw[z,LQ] at hD;cases hD
   refine q _ D zs (λb u e nb=>?_) (none_of (λc u e=>e) (by
    cases e:H D with
    |none=>rfl
    |some u=>rw[s2 D u (by rw[ar nD];exact e)] at h0;cases h0)) ae (by rw[ar nD];exact hD) (aU.keep hz (aF.upd λxs z=>by rw[LQ] at z;cases z))
   rw[ar nb];exact s3 _ _ (s2 _ _ (by rw[ar nb];exact e))
  rcases hx with⟨rfl,rfl⟩|⟨l,ys,rfl,hl,ht⟩
  ·refine⟨_,rfl,_,rfl,_,rfl,fl,GQ,p,.non,rfl,LP,hp,.inl ⟨rfl,λl hl=>?_⟩⟩;exact fin _ l [] (ah hl) ae .nil
  ·have nl:l≠s0:=λz=>by rw[z,hs] at hl;cases hl
   have Hn:upd H s0 (.ins C dx (cH "its_field" (.ref fl) [])) l=some (.lst ys):=by rw[ar nl];exact hl
   have Iz:=aU.keep ht kT;refine⟨_,rfl,_,rfl,_,rfl,fl,GQ,p,.ref l,rfl,LP,hp,.inr ⟨l,ys,rfl,Hn,?_,wj Iz hG,λH2 s2=>?_⟩⟩
   ·rw[ht.length];have:=G.len;omega
   ·exact fin _ l ys s2 (s2 _ _ Hn) (aU.keep Iz (aF.of s2))
end K75
namespace Mx
open PySem PyProof.Rows
def jx:Option Int->List Int->Option Int
 |b,[]=>b
 |none,n::ns=>jx (some n) ns
 |some m,n::ns=>jx (some (if n>m then n else m)) ns
def kept (c:Nat):Option (Int×Tok)->Obj
 |none=>{cls:=.type "list",dict:=none,data:=.seq #[] c,slots:=#[]}
 |some (m,t)=>{cls:=.type "list",dict:=none,data:=.seq #[.int m t,.int m t] c,slots:=#[]}
section
variable {prog:vB}{w:World}{A:Around}{E:pL}{s:GB}{R:Result->Shared->Prop}
theorem Af {a b:Int}{t u:Tok}{Q:pL}(h:Q (.bool (decide (a>b))) s):wpAny (model prog w) A (richCompare .Gt (.int a t) (.int b u)) Q E s :=
 CmpOf.ints_gt (P:=λi v=>∃t,v=.int (if i=0 then a else b) t) (λi=>if i=0 then a else b) (λ{_ _} h=>h) 0 1 _ _ s Q E ⟨t,by simp⟩ ⟨u,by simp⟩ (by simpa using h)
theorem AZ (a v:Value):argsOk "max" ⟨[a],[(Str.ofString "default",v)]⟩:=by unfold argsOk;kernel_rfl
theorem iA {I l S:Addr}{items:t6}{d:Value}(hh:A.handled=none)(K4:S≠I)(NY:S≠l)(MU:l≠I):∀(ns:List Int)(i:Nat)(s:GB)(b:Option (Int×Tok))(c:Nat),
 s.heap.IsListIter I l i->s.heap.IsList l items->IntsAre (items.toList.drop i) ns->s.heap.get? S=some (kept c b) →
 (∀v h' tk,(match jx (b.map (·.1)) ns with|none=>v=d|some m=>∃t,v=.int m t)->(∀x o,x≠I->x≠S->s.heap.get? x=some o->h'.get? x=some o)->R (.ok (.ret v)) {s with heap:=h',toks:=tk}) →
 codeAny (model prog w) A (.builtin "max.loop" ⟨[.ref I,.none,.ref S],[(Str.ofString "default",d)]⟩) R s
 |[],i,s,b,c,cW,hl,hn,hS,hR=>by
  have hx:items[i]?=none:=by
   have e:items.toList.drop i=[]:=by cases hq:items.toList.drop i with
    |nil=>rfl
    |cons x r=>rw[hq] at hn;cases hn
   have:=List.drop_eq_nil_iff.mp e;simp at this |-;omega
  refine codeAny_builtin F.entry_max_loop ?_;rw[Around.under_plainId F.plain_max_loop _]
  cases b with
  |none =>
   show wpAny _ A.in1 (seqItems? (.ref S)>>=_) _ _ s;refine wpAny_bind (wpAny_seqItems hS rfl ?_);show wpAny _ A.in1 (tryCatch (pyNext (.ref I)) _>>=_) _ _ s;refine wpAny_bind (wpAny_tryCatch (wpAny_pyNext_list_end hh cW hl hx λh' eb=>?_));refine wpAny_bind (wpAny_rule (wpAny_pure ?_));exact hR d h' s.toks rfl λx o h1 _ e=>eb x o h1 e
  |some p =>
   obtain⟨m,t⟩:=p;show wpAny _ A.in1 (seqItems? (.ref S)>>=_) _ _ s;refine wpAny_bind (wpAny_seqItems hS rfl ?_);show wpAny _ A.in1 (tryCatch (pyNext (.ref I)) _>>=_) _ _ s;refine wpAny_bind (wpAny_tryCatch (wpAny_pyNext_list_end hh cW hl hx λh' eb=>?_));have K5:=eb S _ K4 hS;show wpAny _ A.in1 (updateSeq S (λ_=>#[])>>=_) _ _ _;refine wpAny_bind (wpAny_updateSeq K5 rfl (wpAny_bind (wpAny_letGo (wpAny_pure ?_))));exact hR _ _ s.toks ⟨t,rfl⟩ λx o h1 h2 e=>(Heap.get?_update_other _ _ (Ne.symm h2)).trans (eb x o h1 e)
 |n::ns,i,s,b,c,cW,hl,hn,hS,hR=>by
  have Io:(toString "max"++toString ".loop":String)="max.loop":=by decide
  obtain⟨t,hx,Nc⟩:∃t,items[i]?=some (.int n t)/\IntsAre (items.toList.drop (i+1)) ns:=by
   cases hq:items.toList.drop i with
   |nil=>rw[hq] at hn;cases hn
   |cons x r =>
    rw[hq] at hn
    cases hn with
    |cons _ t hr =>
     refine⟨t,?_,?_⟩
     ·have:(items.toList.drop i)[0]?=some (Value.int n t):=by rw[hq];rfl
      simpa using this
     ·have:items.toList.drop (i+1)=(items.toList.drop i).drop 1:=by rw[List.drop_drop,Nat.add_comm]
      rw[this,hq];exact hr
  refine codeAny_builtin F.entry_max_loop ?_;rw[Around.under_plainId F.plain_max_loop _]
  cases b with
  |none =>
   show wpAny _ A.in1 (seqItems? (.ref S)>>=_) _ _ s;refine wpAny_bind (wpAny_seqItems hS rfl ?_);show wpAny _ A.in1 (tryCatch (pyNext (.ref I)) _>>=_) _ _ s;refine wpAny_bind (wpAny_tryCatch (wpAny_pyNext_list_item cW hl hx λh' Kv sb=>?_));have K5:=(sb.2 S K4).trans hS;show wpAny _ A.in1 (updateSeq S (λ_=>#[.int n t,.int n t])>>=_) _ _ _;refine wpAny_bind (wpAny_updateSeq K5 rfl ?_);rw[Io];refine wpAny_pure ⟨plainId_quiet F.plain_max_loop _,?_⟩;have up:∀x o,x≠S->h'.get? x=some o->(h'.update S (Obj.mapSeq λ_=>#[.int n t,.int n t])).get? x=some o:=λx o hx e=>(Heap.get?_update_other _ _ (Ne.symm hx)).trans e;refine iA hh K4 NY MU ns (i+1) _ (some (n,t)) _ (Kv.at λo e=>up I o (Ne.symm K4) e) ((hl.extBut sb.extBut MU).at λo e=>up l o (Ne.symm NY) e) Nc (Heap.get?_update_self _ K5 rfl) λv h2 tk hv hk=>?_;exact hR v h2 tk hv λx o h1 h3 e=>hk x o h1 h3 (up x o h3 ((sb.2 x h1).trans e))
  |some p =>
   obtain⟨m,u⟩:=p;show wpAny _ A.in1 (seqItems? (.ref S)>>=_) _ _ s;refine wpAny_bind (wpAny_seqItems hS rfl ?_);show wpAny _ A.in1 (tryCatch (pyNext (.ref I)) _>>=_) _ _ s;refine wpAny_bind (wpAny_tryCatch (wpAny_pyNext_list_item cW hl hx λh' Kv sb=>?_));have K5:=(sb.2 S K4).trans hS;show wpAny _ A.in1 (tryCatch (holding [.int n t,.int n t] (richCompare .Gt (.int n t) (.int m u)>>=_)) _>>=_) _ _ _;refine wpAny_bind (wpAny_tryCatch (wpAny_holding (wpAny_bind (Af ?_))));refine wpAny_bind (wpAny_holding (wpAny_truthy_bool ?_));refine wpAny_bind (wpAny_letGo (wpAny_pure ?_))
   by_cases hb:n>m
   ·simp only[decide_eq_true hb,if_true];refine wpAny_bind (wpAny_updateSeq K5 rfl (wpAny_bind (wpAny_letGo ?_)));rw[Io];refine wpAny_pure ⟨plainId_quiet F.plain_max_loop _,?_⟩;have up:∀x o,x≠S->h'.get? x=some o->(h'.update S (Obj.mapSeq λ_=>#[.int n t,.int n t])).get? x=some o:=λx o hx e=>(Heap.get?_update_other _ _ (Ne.symm hx)).trans e;refine iA hh K4 NY MU ns (i+1) _ (some (n,t)) _ (Kv.at λo e=>up I o (Ne.symm K4) e) ((hl.extBut sb.extBut MU).at λo e=>up l o (Ne.symm NY) e) Nc (Heap.get?_update_self _ K5 rfl) λv h2 tk hv hk=>?_;refine hR v h2 tk ?_ λx o h1 h3 e=>hk x o h1 h3 (up x o h3 ((sb.2 x h1).trans e));simpa only[Option.map_some,jx,if_pos hb] using hv
   ·simp only[decide_eq_false hb,Bool.false_eq_true,if_false];refine wpAny_bind (wpAny_letGo ?_);rw[Io];refine wpAny_pure ⟨plainId_quiet F.plain_max_loop _,?_⟩;refine iA hh K4 NY MU ns (i+1) _ (some (m,u)) c Kv (hl.extBut sb.extBut MU) Nc K5 λv h2 tk hv hk=>?_;refine hR v h2 tk ?_ λx o h1 h3 e=>hk x o h1 h3 ((sb.2 x h1).trans e);simpa only[Option.map_some,jx,if_neg hb] using hv
theorem yP {id:String}{b:Builtin}{args:nv}{kw:List (Str×Value)}{Q:pL}(hk:builtinKind id=none)(hp:plainId id=true)(hb:entryFor table id=some b)(ha:argsOk id ⟨args,kw⟩)
 (hc:wpAny (model prog w) A.in1 (b ⟨args,kw⟩) (λfin s'=>match fin with
  | .done f=>(match (Except.ok f:Result) with| .ok (.ret v)=>Q v s'| .ok _=>False| .error e=>E e s')
  | .again c'=>c'.quiet=true/\codeAny (model prog w) A c' (λr s'=>match r with| .ok (.ret v)=>Q v s'| .ok _=>False| .error e=>E e s') s') E s):
 wpAny (model prog w) A (call (.builtin id) args kw) Q E s:=by
 refine wpAny_call (codeAny_call_builtin hp hb ?_);simp only[checkBuiltinCall,hk]
 cases SU:Manifest.signature? id with
 |none=>exact wpAny_pure hc
 |some Ai =>
  have LK:Bind.checkArgs id Ai ⟨args,kw⟩=pure ():=by simpa only[argsOk,SU] using ha
  simp only[LK];exact wpAny_pure hc
theorem Bm {l:Addr}{items:t6}{ns:List Int}{d:Value}{Q:pL}(hh:A.handled=none)(hl:s.heap.IsList l items)(hn:IntsAre items.toList ns)
 (hQ:∀v h' tk,(match jx none ns with|none=>v=d|some m=>∃t,v=.int m t)->(∀x o,s.heap.get? x=some o->h'.get? x=some o)->Q v {s with heap:=h',toks:=tk}):
 wpAny (model prog w) A (call (.builtin "max") [.ref l] [(Str.ofString "default",d)]) Q E s:=by
 have Io:(toString "max"++toString ".loop":String)="max.loop":=by decide
 refine yP F.kind_max F.plain_max F.entry_max (AZ _ _) ?_;show wpAny _ A.in1 (Builtin.Builtins.bindParams "max" ["key","default"] 0 ⟨[],[(Str.ofString "default",d)]⟩>>=_) _ _ s;refine wpAny_bind (wpAny_of_eq (show Builtin.Builtins.bindParams "max" ["key","default"] 0 ⟨[],[(Str.ofString "default",d)]⟩=pure [none,some d] from rfl) ?_);refine wpAny_bind (wpAny_pure ?_);refine wpAny_bind (wpAny_pyIter_list hl ?_);refine wpAny_bind (wpAny_newObj_type ?_);rw[Io]
 have lt:l<s.heap.objs.size:=by obtain⟨o,e,_⟩:=hl;exact Heap.lt_size e
 have sz:(s.heap.push {cls:=.type "list_iterator",data:=.fields #[.ref l,.int 0 0]}).objs.size=s.heap.objs.size+1:=Heap.size_push ..;have g2:∀x o,s.heap.get? x=some o->((s.heap.push {cls:=.type "list_iterator",data:=.fields #[.ref l,.int 0 0]}).push {cls:=.type "list",data:=.seq #[]}).get? x=some o:=λx o e=>Heap.get?_push_of_some _ (Heap.get?_push_of_some _ e);refine wpAny_pure ⟨plainId_quiet F.plain_max_loop _,iA (items:=items) hh ?_ ?_ (Nat.ne_of_lt lt) ns 0 _ none 0 ⟨_,Heap.get?_push_of_some _ (Heap.get?_push_size _ rfl),rfl,rfl⟩ (hl.at λo e=>g2 l o e) (by simpa using hn) (Heap.get?_push_size _ rfl) λv h' tk hv hk=>?_⟩
 ·show(s.heap.push _).objs.size≠s.heap.objs.size;rw[sz];exact Nat.succ_ne_self _
 ·show(s.heap.push _).objs.size≠l;rw[sz];exact Nat.ne_of_gt (Nat.lt_succ_of_lt lt)
 ·refine hQ v h' tk hv λx o e=>hk x o (Nat.ne_of_lt (Heap.lt_size e)) ?_ (g2 x o e);show x≠(s.heap.push _).objs.size;rw[sz];exact Nat.ne_of_lt (Nat.lt_succ_of_lt (Heap.lt_size e))
end
end Mx
namespace L2
open PySem PySem.Spec PyProof.Rows PySem.W
section
variable {X:Cx}{e d:Expr}{ta td:TE}{p kpos pos:Pos}
def Du (K:Frag)(ta td:TE):TE:=λσ H Q=>dm ta Br σ H λvs H1=>dm td Br σ H1 λds H2=>∃(l:Addr)(ns:List Int)(dv:V),vs=[.ref l]/\ds=[dv]/\aN K H2 l (ns.map V.int)/\Q (match Mx.jx none ns with|none=>dv|some m=>.int m) H2
theorem zc (ha:PE X e ta)(hd:PE X d td)(hc:X.calm=true)(hg:Gl X "max")(hm:X.mg "max"=none)(hs:dB e=false:=by rfl):PE X (.Call (.Name "max" p) [e] [⟨some "default",d,kpos⟩] pos) (Du X.K ta td):=by
 intro pins s σ H Q I h;refine wpAny_Call_Name_kw (cT I hg hm (by rfl) ?_ (by decide) (by decide));refine callWith_builtin_kwB (by rw[aK hs];rfl) rfl (evalArgs_kw2 rfl ?_ (aK hs));refine bA (ak ha af hs pos pins s σ H _ I h) λus s1 z'=>?_;obtain⟨vs,H1,I1,r1,h1⟩:=z';refine bA (adb (nm:=some "default") (kpos:=kpos) hd ada pos pins s1 σ H1 _ I1 h1) λws s2 z'=>?_;obtain⟨ds,H2,I2,r2,l,ns,dv,e1,e2,hl,q⟩:=z';subst e1 e2;obtain⟨u,rfl,ru⟩:=eK r1
 cases(show u=Value.ref l from ru)
 obtain⟨w',rfl,Hv⟩:=eK r2;obtain⟨its,rv,pl,hz⟩:=I2.list hl;show wpAny _ X.A (call (.builtin "max") [.ref l] [(Str.ofString "default",w')]) _ _ s2;refine Mx.Bm (I.ok.hd hc) pl.isList (by simpa using eY rv) λv h' tk hv hk=>?_;refine⟨_,H2,I2.kept (t':=tk) hk,?_,q⟩
 cases hb:Mx.jx none ns with
 |none=>rw[hb] at hv;cases hv;exact Hv
 |some m=>rw[hb] at hv;obtain⟨t,rfl⟩:=hv;exact⟨t,rfl⟩
end
theorem mx:∀(ns:List Int)(m:Int),∃b,Mx.jx (some m) ns=some b/\(b=m\/b∈ns)/\m<=b/\∀a∈ns,a<=b
 |[],m=>⟨m,rfl,.inl rfl,Int.le_refl _,λa h=>nomatch h⟩
 |n::ns,m=>by
  obtain⟨b,h1,h2,h3,h4⟩:=mx ns (if n>m then n else m);refine⟨b,h1,?_,?_,λa ha=>?_⟩
  ·rcases h2 with q|q
   ·by_cases z:n>m
    ·rw[if_pos z] at q;exact .inr (by simp[q])
    ·rw[if_neg z] at q;exact .inl q
   ·exact .inr (List.mem_cons_of_mem _ q)
  ·split at h3 <;> omega
  ·rcases List.mem_cons.mp ha with rfl|ha
   ·split at h3 <;> omega
   ·exact h4 a ha
theorem uX {ns:List Int}(h:ns≠[]):∃b,Mx.jx none ns=some b/\b∈ns/\∀a∈ns,a<=b:=by
 cases ns with
 |nil=>exact absurd rfl h
 |cons n ns =>
  obtain⟨b,h1,h2,h3,h4⟩:=mx ns n;refine⟨b,h1,?_,λa ha=>?_⟩
  ·rcases h2 with q|q
   ·simp[q]
   ·exact List.mem_cons_of_mem _ q
  ·rcases List.mem_cons.mp ha with rfl|ha
   ·exact h3
   ·exact h4 a ha
end L2
namespace K75
open PySem L2 PySem.W Nm Srt
abbrev tj:Stmt:=aQ (aO 35) 5
abbrev rV:Stmt:=aQ (aO 35) 6
abbrev qA:Stmt:=aQ (aO 35) 8
structure qe (C CF:Addr)(H:Hp)(s:Addr)(p:Int)(ts:List Tm):Prop where
 ex:∃dx fl GQ D zs,H s=some (.ins C dx (uf fl D))/\H fl=some (.ins CF GQ (df p))/\H D=some (.lst zs)/\aU H zs ts
def kN (C CF:Addr):Sp:=λvs H Q _=>∃(s dx fl D:Addr),vs=[.ref s]/\H s=some (.ins C dx (uf fl D))/\Q (.ref fl) H
def lr (C CF:Addr):Sp:=λvs H Q _=>∃(s dx fl D:Addr)(zs:List V),vs=[.ref s]/\H s=some (.ins C dx (uf fl D))/\H D=some (.lst zs)/\∀l,H l=none->Q (.ref l) (upd H l (.lst zs))
theorem xW:yJ ["self"] ["self"] (ai tj):=dE (by decide +kernel)
theorem xr:yJ ["self"] ["self"] (ai rV):=dE (by decide +kernel)
variable {P:vB}{w:World}{K:PySem.W.Frag}{mg:vW}{base:Heap}
variable {f C:Addr}{fd:EK}
theorem uP {CF:Addr}(F:vM K "field" "Sum.field" tj f fd)(c:A8 K mg C):Bp P w K mg base (bf P w) 1 f fd ["self"] (kN C CF):=by
 refine F.okN xW (λvs H Q E h=>?_) (λGN A outer s H vs Q E hr h=>?_)
 ·obtain⟨s,dx,fl,D,rfl,_⟩:=h;rfl
 ·obtain⟨s0,dx,fl,D,rfl,hs,q⟩:=h;exact⟨_,aq (aA (cp (pv 0) rfl)),_,rfl,s0,C,dx,_,_,rfl,hs,c.cl,c.nF,rfl,q⟩
theorem uz {CF:Addr}(F:vM K "terms" "Sum.terms" rV f fd)(c:A8 K mg C)(GO:mg "list"=none):Bp P w K mg base (bf P w) 1 f fd ["self"] (lr C CF):=by
 refine F.okN xr (λvs H Q E h=>?_) (λGN A outer s H vs Q E hr h=>?_)
 ·obtain⟨s,dx,fl,D,zs,rfl,_⟩:=h;rfl
 ·obtain⟨s0,dx,fl,D,zs,rfl,hs,hD,q⟩:=h;refine⟨_,aq (aA (b8 cA (by rfl) GO (by rfl) (@ak _ _ _ _ _ (cp (pv 0) rfl) af rfl))),?_⟩;exact⟨_,rfl,s0,C,dx,_,_,rfl,hs,c.cl,c.nT,rfl,D,zs,rfl,.inl (aN.of hD),λl hl=>q l hl⟩
structure yR (K:Frag)(mg:vW)(C:Addr):Prop where
 c:A8 K mg C
 isC:((clsIn K C).isSome&&typeIn K (.ref C)==some (.type "type"))=true
 ca:findIn K (.ref C) "__class__"=some (some (.builtin "object.__class__"))
 sp:specialIn K (.builtin "object.__class__") "__get__"=some (some (.builtin "getset_descriptor.__get__"))
 tk:takesIn K (.builtin "object.__class__")=some true
 ob:mroIn K C (.type "object")=some true
variable {K:Frag}{mg:vW}{H:Hp}
theorem yR.ty (c:yR K mg C){p dx:Addr}{fs:List (Str×V)}(e:H p=some (.ins C dx fs)):qB K H (.ref p) (.ref C):=.of (.ins e c.c.cl c.ca c.sp c.tk c.ob)
theorem yR.is (c:yR K mg C):kitOne K (.ref C) (.ref C)=some true:=by
 unfold kitOne;rw[if_pos (by simp)]
variable {x:V}
theorem yR.no (c:yR K mg C){T:String}(h:Th H x T):kitOne K (.type T) (.ref C)=some false:=by
 show(if(Value.type T==Value.ref C)=true then some true else(if((clsIn K C).isSome&&typeIn K (.ref C)==some (.type "type"))=true then subIn K (.type T) (.ref C) else none))=some false;rw[if_neg (by intro z;cases beq_iff_eq.mp z),if_pos c.isC]
 cases h <;> rfl
theorem rF :notFirst K C (.ref C)=true:=by unfold notFirst;simp
def yp (t:Tm):D:=.tup [.tup (t.1.map D.int),.tup [.int t.2.1,.int t.2.2]]
theorem se :∀ns:List Int,aV K H (ns.map D.int) (ns.map V.int)
 |[]=>by unfold aV;rfl
 |n::ns=>by
  show aV K H (.int n::ns.map D.int) (.int n::ns.map V.int);unfold aV;exact⟨_,_,rfl,(by unfold aI;rfl),se ns⟩
theorem zY:∀ns:List Int,cZ (ns.map D.int)=0
 |[]=>by simp[cZ]
 |n::ns=>by rw[List.map_cons];unfold cZ;rw[zY ns];simp[gF]
theorem y6 {y:V}{t:Tm}(h:CG H y t):aI K H (yp t) y:=by
 obtain⟨a,pr,nu,rfl,ha,HS,IJ⟩:=h;unfold yp aI;refine⟨a,_,rfl,bo.of ha,?_⟩;unfold aV;refine⟨_,_,rfl,(by unfold aI;exact⟨pr,_,rfl,bo.of HS,se _⟩),?_⟩;unfold aV;refine⟨_,_,rfl,E9 IJ,?_⟩;unfold aV;rfl
theorem oN :∀{ys:List V}{ts:List Tm},aU H ys ts->aV K H (ts.map yp) ys
 |_,_,.nil=>by unfold aV;rfl
 |_,_,.cons (b:=t) h r=>by
  show aV K H (yp t::_) _;unfold aV;exact⟨_,_,rfl,y6 h,oN r⟩
theorem nJ:∀ts:List Tm,cZ (ts.map yp)<=2
 |[]=>by unfold cZ;decide
 |t::ts=>by
  show cZ (yp t::ts.map yp)<=2;unfold cZ;have:=nJ ts
  have h:gF (yp t)=2:=by
   unfold yp gF cZ cZ cZ;rw[ER,show gF (.tup (t.1.map D.int))=1 from by unfold gF;rw[zY]];rfl
  omega
abbrev lE (ts:List Tm):D:=.lst (ts.map yp)
theorem kK {a:Addr}{ys:List V}{ts:List Tm}(e:H a=some (.lst ys))(h:aU H ys ts):aI K H (lE ts) (.ref a):=by
 unfold aI;exact⟨a,ys,rfl,aN.of e,oN h⟩
theorem zt (ts:List Tm):gF (lE ts)<=32:=by
 unfold gF;have:=nJ ts;omega
variable {CF s:Addr}{H':Hp}{p:Int}
theorem qe.same {ts:List Tm}(h:qe C CF H s p ts)(k:aC H H'):qe C CF H' s p ts:=by
 obtain⟨dx,fl,GQ,D,zs,h1,h2,h3,h4⟩:=h.ex;exact⟨dx,fl,GQ,D,zs,k _ _ h1,k _ _ h2,k _ _ h3,aU.keep h4 (aF.of k)⟩
def iI (t:Tm):Int:=t.1.getLastD 0+1
def i7 (ts:List Tm):Int:=(Mx.jx none ((ts.filter λt=>!t.1.isEmpty).map iI)).getD 0
def tG (C:Addr):Sp:=λvs H Q _=>∃(s dx fl D:Addr)(zs:List V)(ts:List Tm),vs=[.ref s]/\H s=some (.ins C dx (uf fl D))/\H D=some (.lst zs)/\aU H zs ts/\ts.length<4000/\(∀t∈ts,t.1.length<4000)/\∀H',aC H H'->Q (.int (i7 ts)) H'
theorem zP:yJ ["self"] ["self"] (ai qA):=dE (by decide +kernel)
theorem zh {ks:List Int}(h:ks≠[]):qx (ks.map V.int) (-1)=some (.int (ks.getLastD 0)):=by
 have hl:0<ks.length:=List.length_pos_iff.mpr h;unfold qx yo;rw[List.length_map,if_neg (by decide),if_pos (by omega)];show(ks.map V.int)[((-1:Int)+(ks.length:Int)).toNat]?=_
 have e:((-1:Int)+(ks.length:Int)).toNat=ks.length-1:=by omega
 rw[e,List.getElem?_map,List.getElem?_eq_getElem (by omega)]
 have g:ks.getLastD 0=ks[ks.length-1]'(by omega):=by
  rw[List.getLastD_eq_getLast?,List.getLast?_eq_getElem?,List.getElem?_eq_getElem (by omega)];rfl
 rw[g];rfl
theorem vQ (F:vM K "reach" "Sum.reach" qA f fd)(c:A8 K mg C)(Hm:mg "max"=none):Bp P w K mg base (bf P w) 1 f fd ["self"] (tG C):=by
 refine F.okN zP (λvs H Q E h=>?_) (λGN A outer s H vs Q E hr h=>?_)
 ·obtain⟨s,dx,fl,D,zs,ts,rfl,_⟩:=h;rfl
 ·obtain⟨s0,dx,fl,D,zs,ts,rfl,hs,hD,hz,hl,Hy,q⟩:=h
  refine⟨_,aq (aA (zc (bX (g:=gq K 2 (bD (bg 0) (bD (bg 1) ve))) (N:=["product","number"]) (nl:=2) (js:=[]) (osc:=ai qA) ⟨rfl,rfl,by decide +kernel,by decide +kernel,by decide +kernel,rfl,.nil,by decide +kernel⟩ rfl
   (bu (cp (pv 0) rfl))
   (λC fp s H=>(bZ (X:=bY _ ["product","number"] _ C fp s H) rfl (aB (av (X:=bY _ ["product","number"] _ C fp s H) (i:=0) (by show(["product","number"]:zF).Nodup;decide +kernel) rfl (Or.inl rfl) (Or.inr rfl)) (aB (av (X:=bY _ ["product","number"] _ C fp s H) (i:=1) (by show(["product","number"]:zF).Nodup;decide +kernel) rfl (Or.inl rfl) (Or.inr rfl)) bz))))
   (λC fp s H=>dJ (show PT _ _ (λσ H Q=>d9 0 σ H λx H'=>∃k,Be K x H' k/\Q k H') from oA (pv 0) (λ_=>rfl)))
   (λC fp s H=>(@aD _ _ _ _ _ _ _ _ dn (@aZ _ _ _ _ _ _ _ (show CC _ (zz K) from a9) (pv 0) (wR pZ ao) (λ_ _=>rfl)) ao))) ao rfl (by rfl) Hm)),?_⟩
  refine⟨_,rfl,s0,C,dx,_,_,rfl,hs,c.cl,c.nT,rfl,D,rfl,⟨zs,aN.of hD⟩,?_⟩;refine⟨λi m xs σ' H'=>m=zs.length-i/\i<=zs.length/\aC H H'/\xs=(((ts.take i).filter λt=>!t.1.isEmpty).map iI).map V.int/\∃o1 o2,σ'=[o1,o2],⟨zs.length,by simp,Nat.zero_le _,aC.refl _,rfl,none,none,rfl⟩,?_⟩;rintro i m xs σ' H' ⟨rfl,hi,sH,rfl,o1,o2,rfl⟩;have zl:=hz.length;have LL:=sH _ _ hD;refine⟨?_,?_⟩
  ·rw[List.length_map,List.length_map];exact Nat.lt_of_le_of_lt (List.length_filter_le _ _) (Nat.lt_of_le_of_lt (by simp;omega) (Nat.lt_trans hl (by decide)))
  by_cases GR:i<zs.length
  ·refine .inr ⟨⟨zs,zs[i],aN.of LL,by simp[GR]⟩,λy H2 hy=>?_⟩;obtain⟨rfl,hy⟩:=hy;obtain⟨t,et,tr⟩:=aW hz (hy zs (aN.of LL));obtain⟨a,pr,nu,rfl,ha,HS,IJ⟩:=tr.keep (aF.of sH)
   have Il:ts.take (i+1)=ts.take i++[t]:=by rw[List.take_add_one,et];rfl
   refine⟨a,_,rfl,bo.of ha,rfl,_,_,rfl,_,_,rfl,rfl,?_⟩;refine⟨_,rfl,!t.1.isEmpty,.inr (.inl ⟨_,bo.of HS,by simp⟩),?_⟩
   cases hb:t.1.isEmpty with
   |false =>
    have ne:t.1≠[]:=by intro z;rw[z] at hb;cases hb
    refine b7 ⟨_,rfl,_,rfl,pr,_,-1,_,rfl,rfl,bo.of HS,zh ne,_,_,rfl,rfl,zs.length-(i+1),by omega,rfl,GR,sH,?_,_,_,rfl⟩;rw[Il,List.filter_append];simp[hb,iI]
   |true =>
    refine bx ⟨zs.length-(i+1),by omega,rfl,GR,sH,?_,_,_,rfl⟩;rw[Il,List.filter_append];simp[hb]
  ·have ei:i=zs.length:=by omega
   subst ei;refine .inl ⟨⟨zs,aN.of LL,Nat.le_refl _⟩,λL hL=>?_⟩;rw[zl,List.take_length];refine⟨L,_,.int 0,rfl,rfl,aN.of ae,?_⟩;have q':=q _ (λb u z=>by rw[ar (au (sH _ _ z) hL)];exact sH _ _ z:aC H (upd H' L (.lst (((ts.filter λt=>!t.1.isEmpty).map iI).map V.int))));unfold i7 at q';show Q _ (upd H' L (.lst (((ts.filter λt=>!t.1.isEmpty).map iI).map V.int)));generalize upd H' L (.lst (((ts.filter λt=>!t.1.isEmpty).map iI).map V.int))=H9 at q' |-;generalize Mx.jx none ((ts.filter λt=>!t.1.isEmpty).map iI)=ob at q' |-
   cases ob <;> exact q'
abbrev CU:Stmt:=(aO 39)
structure SW (C CF:Addr)(H:Hp)(s:Addr)(p:Int)(ts:List Tm):Prop where
 r:qe C CF H s p ts
 fp:FP p
 few:ts.length<64
 pl:∀t∈ts,t.1.length<4000
def eB (H H':Hp):Prop:=∀b u,H b=some u->(∀C dx,u≠.ins C dx [])->H' b=some u
theorem eB.of (s:aC H H'):eB H H':=λb u e _=>s b u e
theorem eB.but {dx:Addr}(h:SameBut s H H')(e:H s=some (.ins C dx [])):eB H H':=λb u eb n=>h b u eb λz=>by
 rw[z,e] at eb
 cases eb
 exact n _ _ rfl
theorem Th.aaz {T:String}(h:Th H x T)(k:eB H H'):Th H' x T:=by
 cases h with
 |non=>exact .non
 |bl b=>exact .bl b
 |int i=>exact .int i
 |str y=>exact .str y
 |lst e=>exact .lst (k _ _ e λ_ _ z=>by cases z)
 |tup e=>exact .tup (k _ _ e λ_ _ z=>by cases z)
 |dK e=>exact .dK (k _ _ e λ_ _ z=>by cases z)
theorem eB.acP (k:eB H H'):aF H H':=λb xs e=>k b _ e λ_ _ z=>by cases z
theorem SW.aaz {ts:List Tm}(h:SW C CF H s p ts)(k:eB H H'):SW C CF H' s p ts:=by
 obtain⟨dx,fl,GQ,D,zs,h1,h2,h3,h4⟩:=h.r.ex;exact⟨⟨dx,fl,GQ,D,zs,k _ _ h1 (λ_ _ z=>by injection z with _ _ z;exact absurd z (by simp[uf])),k _ _ h2 (λ_ _ z=>by injection z with _ _ z;exact absurd z (by simp[df])),k _ _ h3 (λ_ _ z=>by cases z),aU.keep h4 k.acP⟩,h.fp,h.few,h.pl⟩
inductive WX (C CF:Addr)(p n:Int)(H:Hp):V->Bool->Prop where
 |sum {s:Addr}{p':Int}{ts:List Tm}:SW C CF H s p' ts->WX C CF p n H (.ref s) (decide (p'=p)&&decide (i7 ts<=n))
 |oth {x:V}{T:String}:Th H x T->WX C CF p n H x false
theorem WX.aaz {n:Int}{b:Bool}(h:WX C CF p n H x b)(k:eB H H'):WX C CF p n H' x b:=by
 cases h with
 |sum s=>exact .sum (s.aaz k)
 |oth t=>exact .oth (t.aaz k)
def Au (C CF:Addr):Sp:=λvs H Q _=>∃(fl GQ:Addr)(p n:Int)(y:V)(b:Bool),vs=[.ref fl,.int n,y]/\H fl=some (.ins CF GQ (df p))/\WX C CF p n H y b/\∀H',aC H H'->Q (.bl b) H'
theorem En:yJ EY EY (ai CU):=dE (by decide +kernel)
theorem Cs {fe ff fr:Addr}{JC WM NZ:EK}(F:vM K "is_wish" "is_wish" CU f fd)(c:yR K mg C)(cF:BJ K mg CF)(GI:mg "isinstance"=none)
 (FE:Bp P w K mg base (bf P w) 1 fe JC rj (Cg CF))(bE:L2.ay K JC rj [])(nE:findIn K (.ref CF) "__eq__"=some (some (.ref fe)))(iE:isFn K (.ref fe)=true)
 (ZA:Bp P w K mg base (bf P w) 1 ff WM ["self"] (kN C CF))(ZC:L2.ay K WM ["self"] [])(ZD:Meth K C "field" ff)
 (ZE:Bp P w K mg base (bf P w) 1 fr NZ ["self"] (tG C))(ZF:L2.ay K NZ ["self"] [])(ZG:Meth K C "reach" fr):
 Bp P w K mg base (bf P w) 2 f fd EY (Au C CF):=by
 refine F.okN En (λvs H Q E h=>?_) (λGN A outer s H vs Q E hr h=>?_)
 ·obtain⟨fl,GQ,p,n,y,b,rfl,_⟩:=h;rfl
 ·obtain⟨fl,GQ,p,n,y,b,rfl,hf,hw,q⟩:=h;have GU:wK 1 _:=hr.mono (by decide);refine⟨_,(aq (aA (cC (az ba (by rfl) GI (by rfl) (@ak _ _ _ _ _ (pv 2) (@ak _ _ _ _ _ (cB (by rfl) c.c.mgC (show aE (.ref C) (.ref C) from rfl)) af rfl) rfl)) (cC (@bH _ _ _ _ _ _ _ _ (ym nE iE FE GU bE ag) (cI (pv 2) c.c.cl ZD ZA GU ZC .nil ag) (pv 0) (aG _)) (fF (@bH _ _ _ _ _ _ _ _ jK (cI (pv 2) c.c.cl ZG ZE GU ZF .nil ag) (pv 1) (aG _))))))),?_⟩
  cases hw with
  |oth th=>exact⟨_,rfl,y,.ref C,_,_,_,rfl,rfl,th.ty,c.no th,_,rfl,bx (q _ (aC.refl _))⟩
  |@sum s p' ts S =>
   obtain⟨dx,Rl,N0,D,zs,h1,h2,h3,h4⟩:=S.r.ex;refine⟨_,rfl,.ref s,.ref C,_,_,_,rfl,rfl,c.ty h1,c.is,_,rfl,b7 ?_⟩;refine⟨_,rfl,s,dx,_,rfl,h1,rfl,s,dx,Rl,D,rfl,h1,_,rfl,?_⟩;refine⟨Rl,N0,_,.ref CF,rfl,h2,cF.ty hf,rF,Rl,N0,p',.ref fl,rfl,h2,.inl ⟨fl,GQ,p,rfl,hf,_,rfl,?_⟩⟩
   cases e:decide (p'=p) with
   |false =>
    refine⟨_,rfl,bx ?_⟩;have q':=q _ (aC.refl _);rw[e] at q';exact q'
   |true =>
    refine⟨_,rfl,b7 ?_⟩;refine⟨_,rfl,s,dx,_,rfl,h1,rfl,s,dx,Rl,D,zs,ts,rfl,h1,h3,h4,Nat.lt_trans S.few (by decide),S.pl,λH' sH=>⟨_,rfl,_,_,rfl,rfl,?_⟩⟩;have q':=q _ sH;rw[e] at q';exact q'
end K75
namespace L2
open PySem PySem.Spec PyProof.Rows PySem.W
end L2
namespace PySem.F
end PySem.F
namespace L2
open PySem PySem.Spec PyProof.Rows PySem.W
end L2
namespace J6
open PySem PyProof.Rows
structure Zs (h:Heap)(z TI TO i1 i2 l1 l2:Addr)(k:Nat):Prop where
 hz:IsZip h z TI TO .none
 hTI:IsPair h TI (.ref i1) (.ref i2)
 Ks:∃a b,IsPair h TO a b
 h1:h.IsListIter i1 l1 k
 h2:h.IsListIter i2 l2 k
theorem de {h h':Heap}{i l:Addr}{k:Nat}(x:h.IsListIter i l k)(q:∀o,h.get? i=some o->h'.get? i=some o):h'.IsListIter i l k:=let⟨o,a,b⟩:=x;⟨o,q o a,b⟩
theorem j8 (n a b:Nat)(ha:a<n)(hb:b<n):ZipApart (n+4) (n+2) (n+3) n (n+1) a b:=by
 refine⟨Zp.aX ?_,Zp.aX ?_,Zp.aX ?_,Zp.aX ?_,Zp.aX ?_,Zp.aX ?_,Zp.aX ?_,Zp.aX ?_,Zp.aX ?_,Zp.aX ?_,Zp.aX ?_,Zp.aX ?_,Zp.aX ?_,Zp.aX ?_,Zp.aX ?_,Zp.aX ?_,Zp.aX ?_,Zp.aX ?_⟩ <;> omega
section
variable {prog:vB}{w:World}{A:Around}{E:pL}{s:GB}{z TI TO i1 i2 l1 l2:Addr}{k:Nat}{xs ys:t6}{x y:Value}
theorem jc {Q:Option Value->Shared->Prop}(D:ZipApart z TI TO i1 i2 l1 l2)(Z:Zs s.heap z TI TO i1 i2 l1 l2 k)(Hn:s.heap.IsList l1 xs)(Hy:s.heap.IsList l2 ys)(hx:xs[k]?=some x)(hy:ys[k]?=some y)
 (hQ:∀h',IsZip h' z TI TO (rawInt s.heap.objs.size)->(∃a b,IsPair h' TO a b)->h'.IsListIter i1 l1 (k+1)->h'.IsListIter i2 l2 (k+1)->IsPair h' s.heap.objs.size x y →
  (∀c o,c ∉ [z,TO,i1,i2]->s.heap.get? c=some o->h'.get? c=some o)->Q (some (.ref s.heap.objs.size)) {s with heap:=h'}):
 wpAny (model prog w) A (pyNext (.ref z)) Q E s:=by
 obtain⟨hz,hTI,⟨a,b,Ks⟩,h1,h2⟩:=Z
 exact wpAny_pyNext_zip_item D hz hTI Ks h1 h2 Hn Hy hx hy λh' a1 a2 a3 a4 a5 a6 a7=>hQ h' a1 ⟨_,_,a2⟩ a3 a4 a5 λc o hc e=>by
  have GV:c≠z/\c≠TO/\c≠i1/\c≠i2:=by simpa using hc
  exact a7 c o GV.1 GV.2.1 GV.2.2.1 GV.2.2.2 e
theorem iQ {Q:Option Value->Shared->Prop}(hh:A.handled=none)(D:ZipApart z TI TO i1 i2 l1 l2)(Z:Zs s.heap z TI TO i1 i2 l1 l2 k)(Hn:s.heap.IsList l1 xs)(Hy:s.heap.IsList l2 ys)(Jr:xs[k]?=none\/ys[k]?=none)
 (hQ:∀h',(∀c o,c ∉ [z,TO,i1,i2]->s.heap.get? c=some o->h'.get? c=some o)->Q none {s with heap:=h'}):wpAny (model prog w) A (pyNext (.ref z)) Q E s:=by
 obtain⟨hz,hTI,⟨a,b,Ks⟩,h1,h2⟩:=Z
 exact wpAny_pyNext_zip_end hh D hz hTI Ks h1 h2 Hn Hy Jr λh' a7=>hQ h' λc o hc e=>by
  have GV:c≠z/\c≠TO/\c≠i1/\c≠i2:=by simpa using hc
  exact a7 c o GV.1 GV.2.1 GV.2.2.1 GV.2.2.2 e
theorem vo {Q:pL}(Hn:s.heap.IsList l1 xs)(Hy:s.heap.IsList l2 ys)
 (h:∀h',Zs h' (s.heap.objs.size+4) (s.heap.objs.size+2) (s.heap.objs.size+3) s.heap.objs.size (s.heap.objs.size+1) l1 l2 0->(∀c o,s.heap.get? c=some o->h'.get? c=some o)->Q (.ref (s.heap.objs.size+4)) {s with heap:=h'}):
 wpAny (model prog w) A (call (.type "zip") [.ref l1,.ref l2]) Q E s :=
 call_zip_2 Hn Hy λh' a1 a2 a3 a4 a5 _ a7=>h h' ⟨a1,a2,⟨_,_,a3⟩,a4,a5⟩ a7
end
end J6
namespace L2
open PySem PySem.Spec PyProof.Rows PySem.W
def uq (K:Frag)(a b:Addr):It :=
 ⟨λi H=>∃xs ys x y,aN K H a xs/\aN K H b ys/\xs[i]?=some x/\ys[i]?=some y,
  λi H v H'=>∃T x y,(∀xs,aN K H a xs->xs[i]?=some x)/\(∀ys,aN K H b ys->ys[i]?=some y)/\H T=none/\v=.ref T/\H'=upd H T (.tup [x,y]),
  λi H=>∃xs ys,aN K H a xs/\aN K H b ys/\(xs.length<=i\/ys.length<=i)⟩
theorem uY {P:vB}{w:World}{K:Frag}{elts:Bj}{x1:Nat}{tp:Pos}{a b z TI TO i1 i2:Addr}(D:ZipApart z TI TO i1 i2 a b):
 Turn P w K (.Tuple elts x1 tp) (uq K a b) [z,TO,i1,i2,TI] z (λi h=>J6.Zs h z TI TO i1 i2 a b i) where
 mem:=by simp
 obj:=λi h st c hb=>by
  obtain⟨h1,h2,⟨_,_,h3⟩,⟨o4,h4,_,d4⟩,⟨o5,h5,_,d5⟩⟩:=st
  rcases(by simpa using hb:c=z\/c=TO\/c=i1\/c=i2\/c=TI) with q|q|q|q|q
  ·subst q;exact⟨_,h1,λv q=>by cases q⟩
  ·subst q;exact⟨_,h3,λv q=>by cases q⟩
  ·subst q;exact⟨_,h4,λv q=>by rw[d4] at q;cases q⟩
  ·subst q;exact⟨_,h5,λv q=>by rw[d5] at q;cases q⟩
  ·subst q;exact⟨_,h2,λv q=>by cases q⟩
 keep:=λi h h' st k=>by
  obtain⟨h1,h2,⟨_,_,h3⟩,h4,h5⟩:=st;exact⟨k z (by simp) _ h1,k TI (by simp) _ h2,⟨_,_,k TO (by simp) _ h3⟩,J6.de h4 λo q=>k i1 (by simp) o q,J6.de h5 λo q=>k i2 (by simp) o q⟩
 item:=by
  intro X hP hw hK hc i pins s σ H E I hf st hg;subst hP hw hK;obtain⟨xs,ys,x,y,hq,hr,hx,hy⟩:=hg;obtain⟨its,rv,p,hz⟩:=I.list hq;obtain⟨KZ,Hv,p',NT⟩:=I.list hr;obtain⟨u,hu,ru⟩:=rv.get hx;obtain⟨v,hv,LI⟩:=Hv.get hy;refine J6.jc D st p.isList p'.isList (x:=u) (y:=v) (by simpa using hu) (by simpa using hv) λh' q1 q2 q3 q4 q5 q6=>?_;refine⟨_,rfl,wpAny_letOwnedTupleGo_zip (s:={s with heap:=h'}) q1 λh2 q7 q8=>?_⟩;have lt:∀c o,s.heap.get? c=some o->c≠s.heap.objs.size:=λc o e=>Nat.ne_of_lt (Heap.lt_size e)
  have I1:Inv X pins σ H {s with heap:=h2}:=I.aaH (t':=s.toks) (ch:=[z,TO,i1,i2]) (λc o hc e=>(q8.2 c λq=>hc (by simp[q])).trans (q6 c o hc e)) λc hc=>hf c (by
   rcases(by simpa using hc:c=z\/c=TO\/c=i1\/c=i2) with q|q|q|q <;> simp[q])
  have nz:s.heap.objs.size≠z:=Ne.symm (lt z _ st.hz);have tup:h2.get? s.heap.objs.size=some {cls:=.type "tuple",data:=.seq #[u,v]}:=(q8.2 _ nz).trans q5;have fr:H s.heap.objs.size=none:=I.hok.fresh (Nat.le_refl _);have I2:=I.abr (xs:=[x,y]) (its:=[u,v]) I1 (Nat.le_refl _) tup (.cons ru (.cons LI .nil)) gc;have up:∀c o,c≠z->h'.get? c=some o->h2.get? c=some o:=λc o hc e=>(q8.2 c hc).trans e;obtain⟨aa,bb,q2⟩:=q2;have LJ:IsPair h' TI (.ref i1) (.ref i2):=q6 TI _ (by simp only[List.mem_cons,List.not_mem_nil,or_false,not_or];exact⟨D.TIz,D.TITO,D.TIi1,D.TIi2⟩) st.hTI
  refine⟨.ref s.heap.objs.size,_,I2,rfl,⟨s.heap.objs.size,x,y,λzs J0=>by rw[I.aav J0 hq];exact hx,λzs J0=>by rw[I.aav J0 hr];exact hy,fr,rfl,rfl⟩,
   ⟨q7,up _ _ D.TIz LJ,⟨aa,bb,up _ _ D.TOz q2⟩,J6.de q3 λo e=>up _ o D.i1z e,J6.de q4 λo e=>up _ o D.i2z e⟩,λc hb=>?_⟩
  have nb:c≠s.heap.objs.size:=by
   obtain⟨h1,h2,⟨_,_,h3⟩,⟨o4,h4,_,d4⟩,⟨o5,h5,_,d5⟩⟩:=st
   rcases(by simpa using hb:c=z\/c=TO\/c=i1\/c=i2\/c=TI) with q|q|q|q|q <;> subst q
   ·exact lt _ _ h1
   ·exact lt _ _ h3
   ·exact lt _ _ h4
   ·exact lt _ _ h5
   ·exact lt _ _ h2
  rw[ar nb];exact(hf c hb).1
 done:=by
  intro X hP hw hK hc i pins s σ H E I hf st hg;subst hP hw hK;obtain⟨xs,ys,hq,hr,hx⟩:=hg;obtain⟨its,rv,p,hz⟩:=I.list hq;obtain⟨KZ,Hv,p',NT⟩:=I.list hr;have l1:=rv.length;have l2:=Hv.length
  refine J6.iQ (I.ok.hd hc) D st p.isList p'.isList (by
   rcases hx with q|q
   ·left;simp;omega
   ·right;simp;omega) λh' q=>⟨rfl,?_⟩
  exact I.aaH (t':=s.toks) (ch:=[z,TO,i1,i2]) q λc hc=>hf c (by
   rcases(by simpa using hc:c=z\/c=TO\/c=i1\/c=i2) with q|q|q|q <;> simp[q])
 self:=λ_ _ _ _ _ st h=>wpAny_pyIter_zip st.hz h
def Dl (K:Frag)(ta tb:TE):TI:=λσ H R=>dm ta (dm tb Br) σ H λvs H1=>∃a b xs ys,vs=[.ref a,.ref b]/\aN K H1 a xs/\aN K H1 b ys/\R (uq K a b) H1
theorem zx {X:Cx}{ea eb:Expr}{ta tb:TE}{elts:Bj}{x1:Nat}{tp p pos:Pos}(ha:PE X ea ta)(hb:PE X eb tb)(hg:Gl X "zip")(hm:X.mg "zip"=none)(hs:dB ea=false:=by rfl)(Jt:dB eb=false:=by rfl):
 PI X (.Tuple elts x1 tp) (.Call (.Name "zip" p) [ea,eb] [] pos) (Dl X.K ta tb):=by
 intro pins s σ H R I h;refine wpAny_Call_Name_kw (cT I hg hm (by rfl) ?_ (by decide) (by decide));refine PyProof.Rows.callWith_type1 (bA (ak ha (ak hb af Jt) hs pos pins s σ H _ I h) λus s1 z'=>?_) (aK hs) (by rw[aK Jt];rfl);obtain⟨vs,H1,I1,r1,a,b,xs,ys,hv,hq,hr,rr⟩:=z';subst hv;obtain⟨u,u',rfl,ru,LI⟩:=rL r1
 cases(show u=Value.ref a from ru)
 cases(show u'=Value.ref b from LI)
 obtain⟨its,rv,pl,hz⟩:=I1.list hq;obtain⟨KZ,Hv,NU,NT⟩:=I1.list hr;refine J6.vo pl.isList NU.isList λh' q1 q4=>?_;have I2:Inv X pins σ H1 {s1 with heap:=h'}:=I1.kept (t':=s1.toks) q4
 have la:a<s1.heap.objs.size:=by obtain⟨o,e,_⟩:=pl.isList;exact Heap.lt_size e
 have lb:b<s1.heap.objs.size:=by obtain⟨o,e,_⟩:=NU.isList;exact Heap.lt_size e
 refine wpAny_pyIter_zip (s:={s1 with heap:=h'}) q1.hz ?_;refine⟨s1.heap.objs.size+4,[s1.heap.objs.size+4,s1.heap.objs.size+3,s1.heap.objs.size,s1.heap.objs.size+1,s1.heap.objs.size+2],_,uq X.K a b,H1,rfl,I2,uY (J6.j8 _ _ _ la lb),q1,λc hc=>?_,rr⟩
 have Hj:s1.heap.objs.size<=c:=by
  rcases(by simpa using hc:c=s1.heap.objs.size+4\/c=s1.heap.objs.size+3\/c=s1.heap.objs.size\/c=s1.heap.objs.size+1\/c=s1.heap.objs.size+2) with q|q|q|q|q <;> rw[q]
  ·exact Nat.le_add_right _ _
  ·exact Nat.le_add_right _ _
  ·exact Nat.le_refl _
  ·exact Nat.le_add_right _ _
  ·exact Nat.le_add_right _ _
 exact I1.aaJ Hj (I1.hok.fresh Hj)
end L2
namespace ZH
open PySem PyProof.Rows
end ZH
namespace L2
open PySem PySem.Spec PyProof.Rows
end L2
namespace ZI
open PySem PySem.Calls PyProof.Rows PySem.Spec
end ZI
namespace L2
open PySem PySem.Spec PyProof.Rows PySem.W
end L2
namespace PySem.F
end PySem.F
namespace L2
open PySem PySem.Spec PyProof.Rows PySem.W
def ac5:TT:=λ_ _ _=>False
def vP:TS:=λ_ _ _=>False
section
variable {X:Cx}{pins:List (Addr×Obj)}{σ:St}{A:Around}{H:Hp}{s:GB}{E:pL}
theorem DM {e:Expr}:PT X e ac5:=λ_ _ _ _ _ _ h=>h.elim
theorem jV {st:Stmt}:PS X st vP:=λ_ _ _ _ _ _ h=>h.elim
theorem BQ {st:DN}:pV X st vP:=λ_ _ _ _ _ _ h=>h.elim
end
end L2
namespace K75
open PySem L2 PySem.W Nm Srt
abbrev F1:Stmt:=(aO 40)
theorem A4:yJ ["field","places","part","wishes","number","wish"] CV (ai F1):=dE (by decide +kernel)
structure LR (C CF:Addr)(p n:Int)(H:Hp)(x:V)(as:List Addr):Prop where
 e:∃l,x=.ref l/\H l=some (.lst (as.map V.ref))
 len:as.length<=200
 wi:∀a∈as,WX C CF p n H (.ref a) true
variable {C CF:Addr}
theorem LR.aaz {p n:Int}{H H':Hp}{x:V}{as:List Addr}(h:LR C CF p n H x as)(k:eB H H'):LR C CF p n H' x as:=by
 obtain⟨l,e,hl⟩:=h.e;exact⟨⟨l,e,k _ _ hl λ_ _ z=>by cases z⟩,h.len,λa ha=>(h.wi a ha).aaz k⟩
def Ei (C CF:Addr):Sp:=λvs H Q E=>∃(fl GQ:Addr)(p n:Int)(part:String)(x:V)(as:List Addr),vs=[.ref fl,.int n,.str part,x]/\H fl=some (.ins CF GQ (df p))/\LR C CF p n H x as/\∀H' D,aC H H'->H D=none->H' D=some (.lst (as.map V.ref))->Q (.ref D) H'
variable {P:vB}{w:World}{K:PySem.W.Frag}{mg:vW}{base:Heap}
variable {f:Addr}{fd:EK}
theorem Ej {fw:Addr}{HD:EK}{WN:Tok}(F:vM K "checked_wishes" "checked_wishes" F1 f fd)(GI:mg "isinstance"=none)(GO:mg "list"=none)(GK:mg "enumerate"=none)(GJ:mg "len"=none)(SV:mg "MOST_WISHES"=some (.int 200 WN))
 (FW:Bp P w K mg base (bf P w) 2 fw HD EY (Au C CF))(bW:L2.ay K HD EY [])(mW:mg "is_wish"=some (.ref fw))(kW:keepIn K (.ref fw)=true):Bp P w K mg base (bf P w) 3 f fd CV (Ei C CF):=by
 refine F.okN A4 (λvs H Q E h=>?_) (λGN A outer s H vs Q E hr h=>?_)
 ·obtain⟨fl,GQ,p,n,part,x,as,rfl,_⟩:=h;rfl
 ·obtain⟨fl,GQ,p,n,part,x,as,rfl,hf,r,q⟩:=h;have IH:wK 2 _:=hr.mono (by decide)
  refine⟨_,(aj (bw (PW.pt (dz (bB (bJ (az ba (by rfl) GI (by rfl) (@ak _ _ _ _ _ (pv 3) (@ak _ _ _ _ _ (c9 (by rfl) GO (by rfl) (show aE (.ty "list") (.type "list") from rfl)) af rfl) rfl)))) (cR (@aH _ _ _ _ _ _ _ _ rG (az aJ (by rfl) GJ PySem.boot_len (@ak _ _ _ _ _ (pv 3) af rfl)) (cB (by rfl) SV (show aE (.int 200) (.int 200 WN) from⟨_,rfl⟩)) (aG _))))) (aq jV) aM)
   (aj (dZ (by passes_own) rfl (jD (pv 3) (by rfl) GK) (bZ rfl (aB (av (i:=4) A4.nd rfl (Or.inl rfl)) (aB (av (i:=5) A4.nd rfl (Or.inl rfl)) bz)))
   (aq (bw (bB (bJ (ax FW IH (by rfl) mW kW bW .nil ag (@ak _ _ _ _ _ (pv 0) (@ak _ _ _ _ _ (pv 1) (@ak _ _ _ _ _ (pv 5) af rfl) rfl) rfl)))) (aq jV) aM)))
   (aq (aA (b8 cA (by rfl) GO (by rfl) (@ak _ _ _ _ _ (pv 3) af rfl)))))),?_⟩
  obtain⟨l,rfl,hl⟩:=r.e;have hlen:=r.len
  have Rg:∀i y,(as.map V.ref)[i]?=some y->WX C CF p n H y true:=λi y e=>by
   rw[List.getElem?_map] at e;obtain⟨a,ea,rfl⟩:=Option.map_eq_some_iff.mp e;exact r.wi a (List.mem_of_getElem? ea)
  rw[<-List.length_map (as:=as) (f:=V.ref)] at hlen;generalize as.map V.ref=ys at hl Rg hlen q;refine⟨_,rfl,.ref l,.ty "list",_,_,_,rfl,rfl,.of (.lst hl),rfl,_,rfl,bx ?_⟩;refine⟨_,rfl,l,ys,rfl,.inl (aN.of hl),_,_,rfl,rfl,_,rfl,?_⟩;rw[decide_eq_false (by omega:¬(200:Int)<(ys.length:Int))];refine bx ?_;refine⟨_,rfl,l,ys,rfl,aN.of hl,?_⟩;refine⟨λi m σ' H'=>m=ys.length-i/\i<=ys.length/\aC H H'/\∃o1 o2,σ'=[some (.ref fl),some (.int n),some (.str part),some (.ref l),o1,o2],⟨ys.length,by simp,Nat.zero_le _,aC.refl _,none,none,rfl⟩,?_⟩;rintro i m σ' H' ⟨rfl,hi,sH,o1,o2,rfl⟩;have IF:=sH _ _ hl
  by_cases GR:i<ys.length
  ·refine .inr ⟨⟨ys,ys[i],aN.of IF,by simp[GR]⟩,λσ' H'=>i+1<=ys.length/\aC H H'/\∃o1 o2,σ'=[some (.ref fl),some (.int n),some (.str part),some (.ref l),o1,o2],?_,λv H2 hv=>?_⟩
   ·rintro σ' H' ⟨h1,h2,h3⟩;exact⟨ys.length-(i+1),by omega,rfl,h1,h2,h3⟩
   ·obtain⟨T,y,hy,hT,rfl,rfl⟩:=hv;have ey:=hy ys (aN.of IF);have s2:aC H (upd H' T (.tup [.int i,y])):=sH.trans (ah hT);refine⟨T,_,rfl,bo.of ae,rfl,_,_,rfl,_,_,rfl,rfl,?_⟩;refine⟨_,rfl,_,rfl,_,rfl,fl,GQ,p,n,y,true,rfl,s2 _ _ hf,(Rg i y ey).aaz (.of s2),λH3 s3=>⟨_,rfl,bx ?_⟩⟩;exact⟨GR,λc u e=>s3 _ _ (s2 _ _ e),_,_,rfl⟩
  ·refine .inl ⟨⟨ys,aN.of IF,by omega⟩,?_⟩;refine⟨_,rfl,l,ys,rfl,.inl (aN.of IF),λD hD=>?_⟩;exact q _ D (sH.trans (ah hD)) (none_of sH hD) ae
abbrev Gg:Stmt:=(aO 41)
theorem Ft:yJ E7 E7 (ai Gg):=dE (by decide +kernel)
def vC:Sp:=λvs H Q E=>∃x y:V,vs=[x,y,.non]/\∀D,H D=none->Q (.ref D) (upd H D (.lst []))
theorem DV (F:vM K "checked_uppers" "checked_uppers" Gg f fd):Bp P w K mg base (bf P w) 1 f fd E7 vC:=by
 refine F.okN Ft (λvs H Q E h=>?_) (λGN A outer s H vs Q E hr h=>?_)
 ·obtain⟨x,y,rfl,_⟩:=h;rfl
 ·obtain⟨x,y,rfl,q⟩:=h;refine⟨_,aj (bw (@aH _ _ _ _ _ _ _ _ xn (pv 2) ya (aG _)) (aq (aA (@cu _ _ _ _ af))) aM) BQ,?_⟩;exact⟨_,rfl,rfl,_,rfl,b7 ⟨Nat.zero_le _,λl hl=>q l hl⟩⟩
abbrev Fv:Stmt:=aQ (aO 42) 0
theorem FR:yJ uS uS (ai Fv):=dE (by decide +kernel)
structure Fh (K:Frag)(mg:vW)(C:Addr):Prop where
 cl:BB K C
 nF:cU K C "its_field"
 nP:cU K C "its_places"
 nN:cU K C "its_noughts"
 nU:cU K C "its_uppers"
 mgC:mg "System"=some (.ref C)
 isC:((clsIn K C).isSome&&typeIn K (.ref C)==some (.type "type"))=true
 ca:findIn K (.ref C) "__class__"=some (some (.builtin "object.__class__"))
 sp:specialIn K (.builtin "object.__class__") "__get__"=some (some (.builtin "getset_descriptor.__get__"))
 tk:takesIn K (.builtin "object.__class__")=some true
 ob:mroIn K C (.type "object")=some true
def Em (fl:Addr)(n:Int)(A B:Addr):List (Str×V):=[("its_field",.ref fl),("its_places",.int n),("its_noughts",.ref A),("its_uppers",.ref B)]
structure Rt (C CF:Addr)(p n:Int)(H:Hp)(x:V)(fl:Addr)(as:List Addr):Prop where
 f:∃GQ,H fl=some (.ins CF GQ (df p))
 n1:1<=n
 n2:n<=60
 l:LR C CF p n H x as
theorem Rt.aaz {p n:Int}{H H':Hp}{x:V}{fl:Addr}{as:List Addr}(h:Rt C CF p n H x fl as)(k:eB H H'):Rt C CF p n H' x fl as:=by
 obtain⟨GQ,hf⟩:=h.f;exact⟨⟨GQ,k _ _ hf λ_ _ z=>by injection z with _ _ z;exact absurd z (by simp[df])⟩,h.n1,h.n2,h.l.aaz k⟩
def Bq (CS C CF:Addr):Sp:=λvs H Q E=>∃(s dx fl:Addr)(x:V)(p n:Int)(as:List Addr),vs=[.ref s,.ref fl,.int n,x,.non]/\H s=some (.ins CS dx []) /\
 Rt C CF p n H x fl as/\∀H' A B,SameBut s H H'->H A=none->H B=none->A≠B->H' s=some (.ins CS dx (Em fl n A B))->H' A=some (.lst (as.map V.ref))->H' B=some (.lst [])->Q .non H'
theorem CY {fc fu fw CS T:Addr}{JB WO HD:EK}{WQ:Tok}(F:Fx K "__init__" "System.__init__" Fv f fd T)(cS:Fh K mg CS)(cF:BJ K mg CF)(GI:mg "isinstance"=none)(LS:mg "MOST_PLACES"=some (.int 60 WQ))
 (FW:Bp P w K mg base (bf P w) 1 fw HD vb FY)(bW:L2.ay K HD vb [])(mW:mg "is_whole"=some (.ref fw))(kW:keepIn K (.ref fw)=true)
 (FC:Bp P w K mg base (bf P w) 3 fc JB CV (Ei C CF))(bC:L2.ay K JB CV [])(mC:mg "checked_wishes"=some (.ref fc))(kC:keepIn K (.ref fc)=true)
 (FU:Bp P w K mg base (bf P w) 1 fu WO E7 vC)(bU:L2.ay K WO E7 [])(mU:mg "checked_uppers"=some (.ref fu))(kU:keepIn K (.ref fu)=true):
 Bp P w K mg base (bf P w) 5 f fd uS (Bq CS C CF):=by
 refine F.okE FR (λvs H Q E h=>?_) (λGN A outer s H vs Q E hr h=>?_)
 ·obtain⟨s,dx,fl,x,p,n,as,rfl,_⟩:=h;rfl
 ·obtain⟨s0,dx,fl,x,p,n,as,rfl,hs,rt,q⟩:=h;obtain⟨GQ,hf⟩:=rt.f;have n1:=rt.n1;have n2:=rt.n2;have la:=rt.l;have HR:wK 3 _:=hr.mono (by decide);have GU:wK 1 _:=hr.mono (by decide)
  refine⟨_,(aj (bw (bB (bJ (az ba (by rfl) GI (by rfl) (@ak _ _ _ _ _ (pv 1) (@ak _ _ _ _ _ (cB (by rfl) cF.mgC (show aE (.ref CF) (.ref CF) from rfl)) af rfl) rfl)))) (aq jV) aM)
   (aj (bw (PW.pt (dz (bB (bJ (ax FW GU (by rfl) mW kW bW .nil ag (@ak _ _ _ _ _ (pv 2) af rfl)))) (cR (bB (oX jK jK ao (pv 2) (cB (by rfl) LS (show aE (.int 60) (.int 60 WQ) from⟨_,rfl⟩))))))) (aq jV) aM)
   (aj (g9 (pv 0) (pv 1) rfl)
   (aj (g9 (pv 0) (pv 2) rfl)
   (aj (g9 (pv 0) (ax FC HR (by rfl) mC kC bC .nil ag (@ak _ _ _ _ _ (pv 1) (@ak _ _ _ _ _ (pv 2) (@ak _ _ _ _ _ kQ (@ak _ _ _ _ _ (pv 3) af rfl) rfl) rfl) rfl)) rfl)
   (aq (g9 (pv 0) (ax FU GU (by rfl) mU kU bU .nil ag (@ak _ _ _ _ _ (pv 1) (@ak _ _ _ _ _ (pv 2) (@ak _ _ _ _ _ (pv 4) af rfl) rfl) rfl)) rfl))))))),?_⟩
  have ki:∀{H':Hp},SameBut s0 H H'->eB H H':=λz=>eB.but z hs;refine⟨_,rfl,.ref fl,.ref CF,_,_,_,rfl,rfl,cF.ty hf,cF.is,_,rfl,bx ?_⟩;refine⟨_,rfl,_,_,rfl,.int n,_,rfl,bx ?_⟩;refine⟨_,rfl,_,_,rfl,rfl,_,rfl,?_⟩;rw[decide_eq_true n1];refine b7 ⟨_,_,rfl,rfl,_,rfl,?_⟩;rw[decide_eq_true n2];refine bx ?_;refine⟨_,rfl,_,rfl,s0,CS,dx,_,rfl,hs,cS.cl,cS.nF,by decide,?_⟩;refine⟨_,rfl,_,rfl,s0,CS,dx,_,rfl,ae,cS.cl,cS.nP,(by show 1<1000;decide),?_⟩
  have s1:SameBut s0 H (upd (upd H s0 (.ins CS dx (cH "its_field" (.ref fl) []))) s0 (.ins CS dx (cH "its_places" (.int n) (cH "its_field" (.ref fl) [])))):=λb u e nb=>by rw[ar nb,ar nb];exact e
  have SX:upd (upd H s0 (.ins CS dx (cH "its_field" (.ref fl) []))) s0 (.ins CS dx (cH "its_places" (.int n) (cH "its_field" (.ref fl) []))) s0=some (.ins CS dx [("its_field",.ref fl),("its_places",.int n)]):=ae;generalize upd (upd H s0 _) s0 _=H1 at s1 SX
  have kf:∀{H':Hp},eB H H'->H' fl=some (.ins CF GQ (df p)):=λk=>k _ _ hf λ_ _ z=>by injection z with _ _ z;exact absurd z (by simp[df])
  refine⟨_,rfl,_,rfl,_,rfl,fl,GQ,p,n,"noughts",x,as,rfl,kf (ki s1),la.aaz (ki s1),λH2 D s2 fD hD=>?_⟩;have Ls:=s2 _ _ SX
  have nD:D≠s0:=λz=>by rw[z,SX] at fD;cases fD
  refine⟨_,rfl,s0,CS,dx,_,rfl,Ls,cS.cl,cS.nN,(by show 2<1000;decide),?_⟩;have LQ:upd H2 s0 (.ins CS dx (cH "its_noughts" (.ref D) [("its_field",.ref fl),("its_places",.int n)])) s0=some (.ins CS dx [("its_field",.ref fl),("its_places",.int n),("its_noughts",.ref D)]):=ae
  have s3:SameBut s0 H (upd H2 s0 (.ins CS dx (cH "its_noughts" (.ref D) [("its_field",.ref fl),("its_places",.int n)]))):=λb u e nb=>by rw[ar nb];exact s2 _ _ (s1 b u e nb)
  have N1:upd H2 s0 (.ins CS dx (cH "its_noughts" (.ref D) [("its_field",.ref fl),("its_places",.int n)])) D=some (.lst (as.map V.ref)):=by rw[ar nD];exact hD
  have ZJ:H D=none:=by
   cases e:H D with
   |none=>rfl
   |some u=>rw[s1 D u e nD] at fD;cases fD
  generalize upd H2 s0 _=H3 at s3 LQ N1;refine⟨_,rfl,_,rfl,_,rfl,_,_,rfl,λB fB=>?_⟩;have s4:=ah (o:=.lst []) fB;have hB:upd H3 B (.lst []) B=some (.lst []):=ae;generalize upd H3 B (.lst [])=H4 at s4 hB |-;have ZK:=s4 _ _ LQ
  have nB:B≠s0:=λz=>by rw[z,LQ] at fB;cases fB
  have ZL:D≠B:=λz=>by rw[<-z,N1] at fB;cases fB
  refine⟨_,rfl,s0,CS,dx,_,rfl,ZK,cS.cl,cS.nU,(by show 3<1000;decide),?_⟩;refine q _ D B (λb u e nb=>by rw[ar nb];exact s4 _ _ (s3 b u e nb)) ZJ ?_ ZL ae (by rw[ar nD];exact s4 _ _ N1) (by rw[ar nB];exact hB)
  cases e:H B with
  |none=>rfl
  |some u=>rw[s3 B u e nB] at fB;cases fB
end K75
namespace L2
open PySem PySem.Spec PyProof.Rows PySem.W
end L2
namespace K75
open PySem L2 PySem.W Nm Srt
abbrev Ga:Stmt:=aQ (aO 42) 3
abbrev Gb:Stmt:=aQ (aO 42) 4
abbrev Gq:Stmt:=aQ (aO 42) 5
abbrev F4:Stmt:=aQ (aO 42) 6
theorem Fc:yJ ["self"] ["self"] (ai Ga):=dE (by decide +kernel)
theorem Fe:yJ ["self"] ["self"] (ai Gb):=dE (by decide +kernel)
theorem Fk:yJ ["self"] ["self"] (ai Gq):=dE (by decide +kernel)
theorem Fg:yJ ["self"] ["self"] (ai F4):=dE (by decide +kernel)
structure Dt (CS CF:Addr)(H:Hp)(s fl:Addr)(p n:Int)(as bs:List Addr):Prop where
 ex:∃dx GQ A B,H s=some (.ins CS dx (Em fl n A B))/\H fl=some (.ins CF GQ (df p))/\H A=some (.lst (as.map V.ref))/\H B=some (.lst (bs.map V.ref))
 l1:as.length<=200
 l2:bs.length<=200
variable {CS CF fl:Addr}{H:Hp}{p:Int}
theorem Dt.same {H':Hp}{s:Addr}{n:Int}{as bs:List Addr}(h:Dt CS CF H s fl p n as bs)(k:aC H H'):Dt CS CF H' s fl p n as bs:=by
 obtain⟨dx,GQ,A,B,h1,h2,h3,h4⟩:=h.ex;exact⟨⟨dx,GQ,A,B,k _ _ h1,k _ _ h2,k _ _ h3,k _ _ h4⟩,h.l1,h.l2⟩
variable {C dx:Addr}
theorem Fh.ty {K:Frag}{mg:vW}(c:Fh K mg C){p:Addr}{fs:List (Str×V)}(e:H p=some (.ins C dx fs)):qB K H (.ref p) (.ref C):=.of (.ins e c.cl c.ca c.sp c.tk c.ob)
theorem Fh.is {K:Frag}{mg:vW}(c:Fh K mg C):kitOne K (.ref C) (.ref C)=some true:=by
 unfold kitOne;rw[if_pos (by simp)]
def CT (CS CF:Addr):Sp:=λvs H Q _=>∃(s fl:Addr)(p n:Int)(as bs:List Addr),vs=[.ref s]/\Dt CS CF H s fl p n as bs/\Q (.ref fl) H
def Dy (CS CF:Addr):Sp:=λvs H Q _=>∃(s fl:Addr)(p n:Int)(as bs:List Addr),vs=[.ref s]/\Dt CS CF H s fl p n as bs/\Q (.int n) H
def DO (CS CF:Addr):Sp:=λvs H Q _=>∃(s fl:Addr)(p n:Int)(as bs:List Addr),vs=[.ref s]/\Dt CS CF H s fl p n as bs/\∀l,H l=none->Q (.ref l) (upd H l (.lst (as.map V.ref)))
def Es (CS CF:Addr):Sp:=λvs H Q _=>∃(s fl:Addr)(p n:Int)(as bs:List Addr),vs=[.ref s]/\Dt CS CF H s fl p n as bs/\∀l,H l=none->Q (.ref l) (upd H l (.lst (bs.map V.ref)))
variable {P:vB}{w:World}{K:PySem.W.Frag}{mg:vW}{base:Heap}
variable {f:Addr}{fd:EK}
theorem DT {CF:Addr}(F:vM K "field" "System.field" Ga f fd)(cS:Fh K mg CS):Bp P w K mg base (bf P w) 1 f fd ["self"] (CT CS CF):=by
 refine F.okN Fc (λvs H Q E h=>?_) (λGN A outer s H vs Q E hr h=>?_)
 ·obtain⟨s,fl,p,n,as,bs,rfl,_⟩:=h;rfl
 ·obtain⟨s,fl,p,n,as,bs,rfl,S,q⟩:=h;obtain⟨dx,GQ,A,B,h1,h2,h3,h4⟩:=S.ex;refine⟨_,(aq (aA (cp (pv 0) rfl))),?_⟩;exact⟨_,rfl,s,CS,dx,_,_,rfl,h1,cS.cl,cS.nF,rfl,q⟩
theorem Eh {CF:Addr}(F:vM K "places" "System.places" Gb f fd)(cS:Fh K mg CS):Bp P w K mg base (bf P w) 1 f fd ["self"] (Dy CS CF):=by
 refine F.okN Fe (λvs H Q E h=>?_) (λGN A outer s H vs Q E hr h=>?_)
 ·obtain⟨s,fl,p,n,as,bs,rfl,_⟩:=h;rfl
 ·obtain⟨s,fl,p,n,as,bs,rfl,S,q⟩:=h;obtain⟨dx,GQ,A,B,h1,h2,h3,h4⟩:=S.ex;refine⟨_,(aq (aA (cp (pv 0) rfl))),?_⟩;exact⟨_,rfl,s,CS,dx,_,_,rfl,h1,cS.cl,cS.nP,rfl,q⟩
theorem CL {CF:Addr}(F:vM K "noughts" "System.noughts" Gq f fd)(cS:Fh K mg CS)(GO:mg "list"=none):Bp P w K mg base (bf P w) 1 f fd ["self"] (DO CS CF):=by
 refine F.okN Fk (λvs H Q E h=>?_) (λGN A outer s H vs Q E hr h=>?_)
 ·obtain⟨s,fl,p,n,as,bs,rfl,_⟩:=h;rfl
 ·obtain⟨s,fl,p,n,as,bs,rfl,S,q⟩:=h;obtain⟨dx,GQ,A,B,h1,h2,h3,h4⟩:=S.ex;refine⟨_,(aq (aA (b8 cA (by rfl) GO (by rfl) (@ak _ _ _ _ _ (cp (pv 0) rfl) af rfl)))),?_⟩;exact⟨_,rfl,s,CS,dx,_,_,rfl,h1,cS.cl,cS.nN,rfl,A,_,rfl,.inl (aN.of h3),q⟩
theorem Ea {CF:Addr}(F:vM K "uppers" "System.uppers" F4 f fd)(cS:Fh K mg CS)(GO:mg "list"=none):Bp P w K mg base (bf P w) 1 f fd ["self"] (Es CS CF):=by
 refine F.okN Fg (λvs H Q E h=>?_) (λGN A outer s H vs Q E hr h=>?_)
 ·obtain⟨s,fl,p,n,as,bs,rfl,_⟩:=h;rfl
 ·obtain⟨s,fl,p,n,as,bs,rfl,S,q⟩:=h;obtain⟨dx,GQ,A,B,h1,h2,h3,h4⟩:=S.ex;refine⟨_,(aq (aA (b8 cA (by rfl) GO (by rfl) (@ak _ _ _ _ _ (cp (pv 0) rfl) af rfl)))),?_⟩;exact⟨_,rfl,s,CS,dx,_,_,rfl,h1,cS.cl,cS.nU,rfl,B,_,rfl,.inl (aN.of h4),q⟩
theorem tK:∀{ks:List Int},ks.Pairwise (· < ·)->ju (ks.map V.int)=true
 |[],_=>rfl
 |[k],_=>rfl
 |a::b::ks,h=>by
  obtain⟨h1,h2⟩:=List.pairwise_cons.mp h;have ih:=tK h2;unfold ju at ih |-;have e:((a::b::ks).map V.int).zip (((a::b::ks).map V.int).drop 1)=(V.int a,V.int b):: (((b::ks).map V.int).zip (((b::ks).map V.int).drop 1)):=rfl;rw[e,List.all_cons,ih,Bool.and_true];exact decide_eq_true (h1 b List.mem_cons_self)
variable {ks:List Int}
theorem qo (h:ks.Pairwise (· < ·))(hb:∀k∈ks,0<=k/\k<60)(hl:ks.length<4000):B9 ks:=by
 refine⟨?_,hl⟩;show((ks.map V.int).all cG&&ju (ks.map V.int))=true;rw[tK h,Bool.and_true,List.all_map,List.all_eq_true];intro k hk;obtain⟨h0,h1⟩:=hb k hk;show(decide (0<=k)&&decide (k<60))=true;rw[decide_eq_true h0,decide_eq_true h1];rfl
theorem ir {α β:Type}{R:α->β->Prop}:∀{l:List α}{m:List β}{l':List α}{m':List β},Paired R l m->Paired R l' m'->Paired R (l++l') (m++m')
 |_,_,_,_,.nil,h=>h
 |_,_,_,_,.cons a t,h=>.cons a (ir t h)
theorem wm {NN:Addr}{Q:VK}{E:XK}{GQ:Addr}{k:Int}(hf:H fl=some (.ins CF GQ (df p)))(hp:FP p)(q:∀a,H a=none->Q (.ref a) (upd H a (bO (cm p k).1 (cm p k).2))):mZ CF NN [.ref fl,.int k,.int 1] H Q E:=by
 refine⟨fl,GQ,p,.int k,.int 1,"int","int",rfl,hf,.int k,.int 1,λt b e1 e2=>?_,λz=>by cases z⟩
 cases e1
 cases e2
 refine⟨fl,GQ,p,k,1,rfl,hf,hp,(by show(1:Int).natAbs<2^9000;exact Nat.lt_of_lt_of_le (by decide:(1:Int).natAbs<2^1) (Nat.pow_le_pow_right (by decide) (by decide))),λ_ z=>absurd z (by decide),λz _ a ha=>?_,λz y=>?_,λz _ u u0 u1 u2 a ha=>?_⟩
 ·subst z;exact q a ha
 ·have:=(hp.two z).2.1;rw[Int.emod_eq_of_lt (by decide) (by omega)] at y
  cases y
 ·rw[Int.mul_one,Int.emod_eq_of_lt u0 u1] at u2;subst u2;rw[Int.mul_one];have:=q a ha;rw[cy z] at this;exact this
theorem me {H':Hp}{s:Addr}{o u:HO}(h1:H s=none)(h2:H dx=none)(ne:dx≠s)(k:SameBut s (upd (upd H dx o) s u) H'):aC H H':=λb v e=>by
 have b1:b≠s:=au e h1;have b2:b≠dx:=au e h2;exact k b v (by rw[ar b1,ar b2];exact e) b1
theorem Ap {Q:Hp->Prop}{E:XK}{GQ l:Addr}{ys:List V}{ts:List Tm}(hf:H fl=some (.ins CF GQ (df p)))(hp:FP p)(hl:H l=some (.lst ys))(ht:aU H ys ts)(G:pH p ts)(P:∀t∈ts,B9 t.1)
 {x:Addr}(h1:H x=none)(h2:H dx=none)(ne:dx≠x)(q:∀H',aC H H'->qe C CF H' x p (tg p ts)->Q H'):
 jG C CF [.ref x,.ref fl,.ref l] (upd (upd H dx (.own x)) x (.ins C dx [])) (λv H2=>v=.non/\Q H2) E:=by
 have hS:aC H (upd (upd H dx (.own x)) x (.ins C dx [])):=(ah h2).trans (ah (by rw[ar (Ne.symm ne)];exact h1));refine⟨x,dx,fl,GQ,p,.ref l,ts,rfl,ae,hS _ _ hf,hp,.inr ⟨l,ys,rfl,hS _ _ hl,aU.keep ht (aF.of hS)⟩,G,P,λH' D zs k _ hs hD hz=>⟨rfl,?_⟩⟩;have sH:=me h1 h2 ne k;exact q H' sH ⟨dx,fl,GQ,D,zs,hs,sH _ _ hf,hD,hz⟩
theorem yA (hp:FP p){k:Int}(hk:k.natAbs<128):Gn p 8 (cm p k):=by
 refine⟨iq hp k,?_,?_⟩
 ·by_cases z:p=0
  ·subst z;rw[dN];show k.natAbs<2^8;omega
  ·have:=hp.two z;rw[cy z];have h1:=Int.emod_nonneg k z;have h2:=Int.emod_lt_of_pos k (show 0<p by omega);show(k%p).natAbs<2^8;omega
 ·by_cases z:p=0
  ·subst z;rw[dN];show(1:Int).natAbs<2^8;decide
  ·rw[cy z];show(1:Int).natAbs<2^8;decide
abbrev Eg:=List (Int×Int)
def iL (es:Eg):List Int:=es.map (·.1)++es.map (·.2)
def cW (es:Eg)(k:Int)(i:Nat):Bool:=k==(es.getD i (0,0)).1 || k==(es.getD i (0,0)).2
def yf (es:Eg)(k:Int):List Nat:=(List.range es.length).filter (cW es k)
def kt (od:List Int)(k:Int):Int:=if k∈od then 1 else 0
structure FA (es:Eg)(od:List Int):Prop where
 lo:1<=es.length
 hi:es.length<=60
 ne:∀e∈es,e.1≠e.2/\0<=e.1/\0<=e.2
 sub:∀k∈od,k∈iL es
 nd:od.Nodup
 odd:od.length%2=1
 few:∃nm:List Int,nm.length<=7/\∀k∈iL es,k∈nm
structure Kn (es:Eg)(ks:List Int):Prop where
 up:ks.Pairwise (· < ·)
 mem:∀x,x∈ks↔x∈iL es
variable {es:Eg}
theorem Kn.eq {ms:List Int}(h:Kn es ks)(g:Kn es ms):ks=ms:=nj h.up g.up λx=>(h.mem x).trans (g.mem x).symm
theorem dX {α:Type} [BEq α] [LawfulBEq α]:∀{l m:List α},l.Nodup->(∀x∈l,x∈m)->l.length<=m.length
 |[],m,_,_=>Nat.zero_le _
 |x::l,m,h,hm=>by
  obtain⟨h1,h2⟩:=List.nodup_cons.mp h;have hx:=hm x List.mem_cons_self;have ih:=dX (l:=l) (m:=m.erase x) h2 λy hy=>(List.mem_erase_of_ne (λ(e:y=x)=>h1 (by rw[<-e];exact hy))).mpr (hm y (List.mem_cons_of_mem _ hy));have e:=List.length_erase_of_mem hx;have p:0<m.length:=List.length_pos_of_mem hx;rw[List.length_cons];omega
theorem Kn.nd (h:Kn es ks):ks.Nodup:=h.up.imp λz=>Int.ne_of_lt z
theorem Kn.len {od:List Int}(h:Kn es ks)(w:FA es od):ks.length<=7:=by
 obtain⟨nm,l,m⟩:=w.few;exact Nat.le_trans (dX h.nd λx hx=>m x ((h.mem x).mp hx)) l
def rT (es:Eg)(k:Int):List Tm:=(yf es k).map λi:Nat=>([(i:Int)],((1,1):Int×Int))
def wT (es:Eg)(od:List Int)(k:Int):List Tm:=rT es k++[([],cm 2 (kt od k))]
def CD (es:Eg)(od:List Int)(k:Int):List Tm:=rT es k++if k∈od then [([],((1,1):Int×Int))] else []
theorem F2:FP 2:=.inr (by decide)
theorem qu (es:Eg)(k:Int):cb 2 (rT es k):=λt ht=>by
 obtain⟨i,_,rfl⟩:=List.mem_map.mp ht;exact eZ F2
theorem jf (es:Eg)(od:List Int)(k:Int):cb 2 (wT es od k):=λt ht=>by
 rcases List.mem_append.mp ht with ht|ht
 ·exact qu es k t ht
 ·rw[List.mem_singleton.mp ht];exact iq F2 _
section
variable {R:Type} [Lean.Grind.CommRing R]{v:Int×Int->R}
def ls {α:Type}:List α->(α->R)->R
 |[],_=>0
 |x::l,f=>f x+ls l f
theorem kD {α:Type}(f g:α->R):∀l:List α,ls l (λx=>f x+g x)=ls l f+ls l g
 |[]=>by show(0:R)=0+0;grind
 |x::l=>by show f x+g x+ls l (λx=>f x+g x)=_+ls l f+(_+ls l g);rw[kD f g l];grind
theorem jH {α:Type}:∀l:List α,ls l (λ_=>(0:R))=0
 |[]=>rfl
 |x::l=>by show(0:R)+ls l _=0;rw[jH l];grind
theorem sC {α β:Type}(f:α->β->R)(m:List β):∀l:List α,ls l (λx=>ls m (f x))=ls m (λy=>ls l λx=>f x y)
 |[]=>(jH m).symm
 |x::l=>by show ls m (f x)+ls l (λx=>ls m (f x))=ls m (λy=>f x y+ls l λx=>f x y);rw[sC f m l,kD]
theorem dR {α:Type}{f g:α->R}:∀{l:List α},(∀x∈l,f x=g x)->ls l f=ls l g
 |[],_=>rfl
 |x::l,h=>by show f x+ls l f=g x+ls l g;rw[h x List.mem_cons_self,dR λy hy=>h y (List.mem_cons_of_mem _ hy)]
theorem sr (c:R)(a:Int):∀{l:List Int},l.Nodup->ls l (λk=>if k=a then c else 0)=if a∈l then c else 0
 |[],_=>rfl
 |x::l,h=>by
  obtain⟨h1,h2⟩:=List.nodup_cons.mp h;show(if x=a then c else 0)+ls l _=_;rw[sr c a h2]
  by_cases z:x=a
  ·subst z;rw[if_pos rfl,if_neg h1,if_pos List.mem_cons_self];grind
  ·rw[if_neg z]
   by_cases y:a∈l
   ·rw[if_pos y,if_pos (List.mem_cons_of_mem _ y)];grind
   ·rw[if_neg y,if_neg λq=>(List.mem_cons.mp q).elim (λe=>z e.symm) y];grind
theorem Ak (c:R)(hk:ks.Nodup):∀{od:List Int},od.Nodup->(∀k∈od,k∈ks)->ls ks (λk=>if k∈od then c else 0)=ls od (λ_=>c)
 |[],_,_=>by
  rw[dR (g:=λ_=>0) λk _=>if_neg (List.not_mem_nil)];exact jH ks
 |a::od,h,hs=>by
  obtain⟨h1,h2⟩:=List.nodup_cons.mp h
  have e:ls ks (λk=>if k∈a::od then c else 0)=ls ks (λk=>(if k=a then c else 0)+if k∈od then c else 0):=dR λk _=>by
   by_cases z:k=a
   ·subst z;rw[if_pos List.mem_cons_self,if_pos rfl,if_neg h1];grind
   ·rw[if_neg z]
    by_cases y:k∈od
    ·rw[if_pos (List.mem_cons_of_mem _ y),if_pos y];grind
    ·rw[if_neg λq=>(List.mem_cons.mp q).elim z y,if_neg y];grind
  rw[e,kD,sr c a hk,if_pos (hs a List.mem_cons_self),Ak c hk h2 λk hk=>hs k (List.mem_cons_of_mem _ hk)];rfl
theorem two (V:Val 2 R v)(c:R):c+c=0:=by
 have h:=AW V F2 1 1;rw[n5 F2,V.one,show(1:Int)+1=2 from rfl,show cm 2 2=(0,1) by decide,V.zero] at h;grind
theorem xh (V:Val 2 R v)(c:R):∀l:List Int,ls l (λ_=>c)=if l.length%2=1 then c else 0
 |[]=>rfl
 |x::l=>by
  show c+ls l _=_;rw[xh V c l,List.length_cons];have t:=two V c
  by_cases z:l.length%2=1
  ·rw[if_pos z,if_neg (by omega)];exact t
  ·rw[if_neg z,if_pos (by omega)];grind
theorem DA (V:Val 2 R v)(es:Eg)(k:Int)(F:List Int->R):S v (rT es k) F=ls (List.range es.length) (λi=>if cW es k i=true then F [(i:Int)] else 0):=by
 unfold rT yf
 induction List.range es.length with
 |nil=>rfl
 |cons i l ih =>
  show _=(if cW es k i=true then F [(i:Int)] else 0)+ls l _;rw[<-ih]
  by_cases z:cW es k i=true
  ·rw[List.filter_cons_of_pos z,if_pos z];show v (1,1)*F [(i:Int)]+_=_;rw[V.one];grind
  ·rw[List.filter_cons_of_neg z,if_neg z];grind
theorem DE (V:Val 2 R v)(es:Eg)(od:List Int)(k:Int)(F:List Int->R):S v (wT es od k) F=ls (List.range es.length) (λi=>if cW es k i=true then F [(i:Int)] else 0)+if k∈od then F [] else 0:=by
 unfold wT;rw[gf,DA V];show _+(v (cm 2 (kt od k))*F []+0)=_;unfold kt
 by_cases z:k∈od
 ·rw[if_pos z,if_pos z,n5 F2,V.one];grind
 ·rw[if_neg z,if_neg z,Bn,V.zero];grind
theorem BM (V:Val 2 R v)(es:Eg)(od:List Int)(k:Int)(F:List Int->R):S v (tg 2 (fQ 2 (tg 2 (wT es od k)) [([],((1,1):Int×Int))])) F=ls (List.range es.length) (λi=>if cW es k i=true then F [(i:Int)] else 0)+if k∈od then F [] else 0:=by
 have hb:cb 2 [([],((1,1):Int×Int))]:=λt ht=>by rw[List.mem_singleton.mp ht];exact eZ F2
 have hw:=jf es od k;rw[Et V F2.nn (hV F2.nn (F2.tn hw) hb),A9 V (F2.tn hw) hb,Et V F2.nn hw];show S v (wT es od k) (λi=>v (1,1)*F (jo (i++[]))+0)=_;rw[DE V,V.one];have e:∀i:Nat,jo ([(i:Int)]++[])=[(i:Int)]:=λi=>rfl;rw[dR (g:=λi=>if cW es k i=true then F [(i:Int)] else 0) λi _=>by rw[e];split <;> grind];have:jo ([]++[])=[]:=rfl;rw[this]
 split <;> grind
theorem rR (h:Int->List Tm)(F:List Int->R):∀ks:List Int,S v (ks.flatMap h) F=ls ks (λk=>S v (h k) F)
 |[]=>rfl
 |k::ks=>by
  rw[List.flatMap_cons,gf,rR h F ks];rfl
end
def pU (es:Eg)(od ks:List Int):List (List Tm×List Tm):=ks.map λk=>(tg 2 (wT es od k),[([],((1,1):Int×Int))])
def ue (p:Int)(l:List (List Tm×List Tm)):List Tm:=l.flatMap λx=>tg p (fQ p x.1 x.2)
theorem nk (es:Eg)(od ks:List Int):ue 2 (pU es od ks)=ks.flatMap λk=>tg 2 (fQ 2 (tg 2 (wT es od k)) [([],((1,1):Int×Int))]):=by
 simp[ue,pU,List.flatMap_map]
theorem oh (hp:FP p):tg p [([],((1,1):Int×Int))]=[([],(1,1))]:=by
 have e:aS p [(([]:List Int),((1,1):Int×Int))]=[([],(1,1))]:=rfl;show fZ (aS p _)=_;rw[e];exact List.perm_singleton.mp (dM [(([]:List Int),((1,1):Int×Int))])
theorem rX {od:List Int}(w:FA es od)(hk:Kn es ks):tg 2 (ue 2 (pU es od ks))=[([],(1,1))]:=by
 obtain⟨R,iR,v,V⟩:=F2.v
 have h1:cb 2 [([],((1,1):Int×Int))]:=λt ht=>by rw[List.mem_singleton.mp ht];exact eZ F2
 have h0:cb 2 (ue 2 (pU es od ks)):=by
  intro t ht;rw[nk] at ht;obtain⟨k,_,ht⟩:=List.mem_flatMap.mp ht;exact F2.tn (hV F2.nn (F2.tn (jf es od k)) h1) t ht
 rw[<-oh F2];refine Ao V F2.nn h0 h1 λF=>?_;rw[nk,rR];rw[dR (g:=λk=>ls (List.range es.length) (λi=>if cW es k i=true then F [(i:Int)] else 0)+if k∈od then F [] else 0) λk _=>BM V es od k F];rw[kD,sC,Ak (F []) hk.nd w.nd λk SY=>(hk.mem k).mpr (w.sub k SY),xh V,if_pos w.odd];rw[dR (g:=λ_=>(0:R)) λi hi=>?_,jH]
 ·show _=v (1,1)*F []+0;rw[V.one];grind
 ·have hi:=List.mem_range.mp hi
  have em:es.getD i (0,0)∈es:=by simp[List.getD,hi]
  obtain⟨ne,_,_⟩:=w.ne _ em;unfold cW;generalize es.getD i (0,0)=e at em ne;have h1:e.1∈ks:=(hk.mem _).mpr (List.mem_append_left _ (List.mem_map.mpr ⟨e,em,rfl⟩));have h2:e.2∈ks:=(hk.mem _).mpr (List.mem_append_right _ (List.mem_map.mpr ⟨e,em,rfl⟩));rw[dR (g:=λk=>(if k=e.1 then F [(i:Int)] else 0)+if k=e.2 then F [(i:Int)] else 0) λk _=>?_,kD,sr _ _ hk.nd,sr _ _ hk.nd,if_pos h1,if_pos h2]
  ·exact two V _
  ·by_cases z:k=e.1
   ·rw[if_pos (by simp[z]),if_pos z,if_neg (by rw[z];exact ne)];grind
   ·by_cases y:k=e.2
    ·rw[if_pos (by simp[y]),if_neg z,if_pos y];grind
    ·rw[if_neg (by simp[z,y]),if_neg z,if_neg y];grind
end K75
namespace L2
open PySem PySem.Spec PyProof.Rows
section
variable {prog:vB}{w:World}{A:Around}{E:pL}{s:GB}
theorem xv {t b:Addr}{ws:nv}{Q:pL}(ht:IsTup s.heap t #[])(hb:IsTup s.heap b ws.toArray)(h:Q (.ref b) s):wpAny (model prog w) A (binaryOp .Add (.ref t) (.ref b)) Q E s:=by
 obtain⟨⟨cls,dd,data,sl⟩,ho,hc,n,hd⟩:=id ht;obtain⟨⟨Np,KJ,data2,Jk⟩,IZ,Je,n2,hd2⟩:=id hb;simp only at hc hd Je hd2;subst hc hd Je hd2
 exact concat_meets ⟨_,ho,rfl⟩ ⟨_,IZ,rfl⟩ noFill_tuple_add seq_tuple_add PySem.F.slot_tuple_add PySem.F.entry_tuple_add (PySem.F.args_tuple_add_2 _ _)
  (tuple_addW0 t b #[] ws.toArray n n2 dd KJ sl Jk (by rfl)) ⟨ho,IZ,h⟩
end
section
variable {X:Cx}
def AL (K:PySem.W.Frag):R2:=λx y H Q=>∃a b xs ys,x=.ref a/\y=.ref b/\bo K H a xs/\bo K H b ys/\xs.length+ys.length<=sizeLine /\
 (xs=[]->Q (.ref b) H)/\(xs≠[]->ys=[]->Q (.ref a) H)/\(xs≠[]->ys≠[]->∀p,H p=none->Q (.ref p) (upd H p (.tup (xs++ys))))
theorem yQ:dC X (binaryOp .Add) (AL X.K):=by
 intro pins s σ H x y v u Q I rx ry h;obtain⟨a,b,xs,ys,rfl,rfl,ha,hb,hz,q0,q1,q2⟩:=h
 by_cases hx:xs=[]
 ·cases rx
  cases ry
  obtain⟨its,r1,p1,_⟩:=I.tuple ha;obtain⟨GP,r2,p2,_⟩:=I.tuple hb;have:its=[]:=r1.aaO.mpr hx;subst this;exact xv p1 p2 ⟨.ref b,H,I,rfl,q0 hx⟩
 ·exact yM pins s σ H _ _ v u Q I rx ry ⟨a,b,xs,ys,rfl,rfl,ha,hb,hx,hz,q1 hx,q2 hx⟩
end
end L2
namespace St
open PySem PyProof.Rows
section
variable {prog:vB}{w:World}{A:Around}{R:Result->Shared->Prop}{I:Addr}{fp wr:List Addr}{n:Nat}{P:Nat->Value->Prop}{G:Nat->Shared->Prop}
theorem qS {led:Bool}(W:WalksS prog w A.in1 I fp wr GE n P G)(a:Addr)(ha:a∉fp)(val:Nat->Int)(hv:∀i v,P i v->∃t,v=.int (val i) t)(hn:∀i,i<=n->(firstMet val i).length<76):
 ∀(k i:Nat)(s:GB),n-i=k->i<=n->G i s->iS led s.heap a (firstMet val i) →
  (∀z,Moved (a::wr) GE s z->iS led z.heap a (firstMet val n)->R (.ok (.ret .none)) z) →
  codeAny (model prog w) A (.builtin "set.update.loop" ⟨[.ref a,.ref I],[]⟩) R s:=by
 have aw:a∉wr:=λh=>ha (W.sub _ h);have up:∀b,b∈wr->b∈a::wr:=λb hb=>List.mem_cons_of_mem _ hb;have mv:∀{y z:GB}{ns:List Int},Moved wr GE y z->iS led y.heap a ns->iS led z.heap a ns:=λm ⟨es,ep,t,o,r⟩=>⟨es,ep,t,m.heap a _ aw o,r⟩;intro k
 induction k with
 |zero =>
  intro i s hk hi g S hR
  cases(show i=n by omega)
  refine codeAny_builtin PyProof.Rows.F.entry_set_update_loop ?_;rw[Around.under_plainId PyProof.Rows.F.plain_set_update_loop _];refine wpAny_bind (m:=pyNext (.ref I)) ?_;exact W.done s _ _ g λz m=>wpAny_pure (hR z (m.mono up) (mv m S))
 |succ k ih =>
  intro i s hk hi g S hR;refine codeAny_builtin PyProof.Rows.F.entry_set_update_loop ?_;rw[Around.under_plainId PyProof.Rows.F.plain_set_update_loop _];refine wpAny_bind (m:=pyNext (.ref I)) ?_;refine W.item i s _ _ (by omega) g λv z hp g1 m=>?_;obtain⟨t,rfl⟩:=hv i v hp;refine wpAny_bind (m:=holding [Value.int (val i) t] (setAdd a (.int (val i) t))) (wpAny_holding ?_);unfold setAdd;refine wpAny_holding (wpAny_bind ((intKind prog w).pyHash (k:=val i) (intKind_is _ _ _ _) ?_));refine Ay (s:={z with toks:=z.toks+1}) (show iS led z.heap a _ from mv m S) (hn i (by omega)) λb h' sb S1=>?_;rw[<-firstMet_succ] at S1;refine wpAny_pure ⟨plainId_quiet PyProof.Rows.F.plain_set_update_loop _,ih (i+1) _ (by omega) (by omega) (W.frame _ z _ _ g1 (Nat.le_succ _) λb hb o e=>?_) S1 λy m1 S2=>?_⟩
  ·rw[sb.2 b λh:b=a=>ha (h▸hb)];exact e
  ·refine hR y (Moved.trans W.gtrans ((m.mono up).then_heap (Nat.le_succ _) λb o hb e=>?_) m1) S2;rw[sb.2 b λh:b=a=>hb (by rw[h];exact List.mem_cons_self)];exact e
end
section
variable {prog:vB}{w:World}{A:Around}{E:pL}{s:GB}
set_option maxHeartbeats 3200000 in
theorem mB {c:String}{its:t6}{Is:Heap->Addr->Prop}{MR:Addr->Obj}(X:Src prog w c its Is MR){l:Addr}{ns:List Int}{Q:pL}
 (hh:A.handled=none)(hl:Is s.heap l)(hi:IntsAre its.toList ns)(hb:∀i,i<=its.size->(firstMet (λi=>ns.getD i 0) i).length<76)
 (h:∀(h':Heap)(tk:Nat),iS (own w) h' s.heap.objs.size (firstMet (λi=>ns.getD i 0) its.size)->(∀b o,b<s.heap.objs.size->s.heap.get? b=some o->h'.get? b=some o) →
  s.toks<=tk->Q (.ref s.heap.objs.size) {s with heap:=h',toks:=tk}):
 wpAny (model prog w) A (call (.type "set") [.ref l]) Q E s:=by
 obtain⟨_,_,mro⟩:=F.called_set.mro;have made:=F.called_set.made;have su:=F.called_set.sub;refine wpAny_call (codeAny_of_tree (show wpAny _ _ (callAny (.type "set") _) _ _ _ from wpAny_pure ⟨Code.quiet_builtin _ (by decide +kernel),codeAny_builtin F.entry_type_call ?_⟩));rw[Around.under_plain (weight_type_call_type "set" [.ref l] []) rfl];have k1:=F.called_set.notType;have k2:=F.called_set.canCreate;have k3:=F.typeCall_set_1 (.ref l)
 repeat (any_goals (first|assumption|wp_step))
 refine codeAny_mono (C4 (.ref l) (E:=E) (Q:=λv z=>v=.ref s.heap.objs.size/\z={s with heap:=s.heap.push (ic w)}) ⟨rfl,rfl⟩) λr z hr=>?_
 cases r with
 |error e=>exact hr
 |ok fl =>
  cases fl with
  |ret obj =>
   obtain⟨rfl,rfl⟩:=hr;have oS:(s.heap.push (ic w)).get? s.heap.objs.size=some (ic w):=Heap.get?_push_size _ rfl;have tS:Shared.TypeIs {s with heap:=s.heap.push (ic w)} (.ref s.heap.objs.size) "set":=⟨_,oS,rfl⟩;have k4:=F.called_set.init.lookup;have k5:=F.called_set.init.bind (.ref s.heap.objs.size)
   repeat (any_goals (first|assumption|wp_step))
   refine codeAny_mono (codeAny_call_builtin (R:=wants (λv z=>v=.none/\∃h' tk,z={s with heap:=h',toks:=tk}/\iS (own w) h' s.heap.objs.size (firstMet (λi=>ns.getD i 0) its.size) /\
    (∀b o,b<s.heap.objs.size->s.heap.get? b=some o->h'.get? b=some o)/\s.toks<=tk) E) F.called_set.init.plain F.entry_set_init (check_set_init_1 tS ?_)) λr z hr=>?_
   ·have lS:Is (s.heap.push (ic w)) l:=X.keep _ _ _ hl λo e=>Heap.get?_push_of_some _ e;obtain⟨⟨oc,od,oda,Hi⟩,NQ,WR⟩:=X.type _ _ lS;dsimp only at WR;subst WR
    have GR:l<s.heap.objs.size:=by
     obtain⟨o,e,_⟩:=X.type _ _ hl;exact Heap.lt_size e
    have tl:Shared.TypeIs {s with heap:=s.heap.push (ic w)} (.ref l) c:=⟨_,NQ,rfl⟩;have k6:=X.s1;have k7:=X.s2;have k8:=X.nd;unfold Builtin.«set.__init__» noKeywords Builtin.Frozenset.updateFrom;generalize ZM:pyIter=PI
    wp_walk
    subst ZM;refine X.iter _ _ _ _ _ lS ?_;refine wpAny_bind (wpAny_runValue ?_)
    have h3:A.in1.in1.in1.handled=none:=by simp[hh]
    have nI:l≠(s.heap.push (ic w)).objs.size:=by rw[Heap.size_push];exact Nat.ne_of_lt (Nat.lt_succ_of_lt GR)
    have nf:s.heap.objs.size ∉ [(s.heap.push (ic w)).objs.size,l]:=by
     rw[Heap.size_push];simp only[List.mem_cons,List.not_mem_nil,or_false,not_or];exact⟨Nat.ne_of_lt (Nat.lt_succ_self _),Nat.ne_of_gt GR⟩
    obtain⟨G,W,g0⟩:=X.walk A.in1.in1.in1 _ l h3 nI
    refine qS W s.heap.objs.size nf (λi=>ns.getD i 0) (λi v e=>IntsAre.int_at hi i v (by rw[Array.getElem?_toList];exact e)) hb (its.size-0) 0 _ rfl (Nat.zero_le _)
     (g0 _ (X.keep _ _ _ lS λo e=>Heap.get?_push_of_some _ e) (X.abw _ _)) ⟨#[],0,_,Heap.get?_push_of_some _ oS,⟨λe he=>by simp at he,List.Perm.refl _⟩,rfl,Ok.fresh _⟩ ?_
    intro z m S
    have LU:∀b o,b<s.heap.objs.size->s.heap.get? b=some o->z.heap.get? b=some o:=λb o hb e=>by
     refine m.heap b o ?_ (Heap.get?_push_of_some _ (Heap.get?_push_of_some _ e));rw[Heap.size_push];simp only[List.mem_cons,List.not_mem_nil,or_false,not_or];exact⟨Nat.ne_of_lt hb,Nat.ne_of_lt (Nat.lt_succ_of_lt hb)⟩
    have ez:z={s with heap:=z.heap,toks:=z.toks}:=by
     have e1:z.gens=s.gens:=m.gens;have e2:z.drawn=s.drawn:=m.drawn;have e3:z.os=s.os:=m.os
     cases z;cases e1;cases e2;cases e3;rfl
    refine wpAny_pure (show wpAny _ _ (ret Value.none) _ _ _ from wpAny_pure ⟨rfl,z.heap,z.toks,ez,S,LU,m.toks⟩)
   ·cases r with
    |error e=>exact hr
    |ok fl =>
     cases fl with
     |ret v =>
      obtain⟨rfl,h',tk,rfl,S,LU,Nh⟩:=hr
      repeat (any_goals (first|assumption|wp_step))
      exact h h' tk S LU Nh
     |_=>exact hr.elim
  |_=>exact hr.elim
end
end St
namespace L2
open PySem PySem.Spec PyProof.Rows PySem.W
theorem pM (ns:List Int){i:Nat}(h:i<=ns.length):(firstMet (λi=>ns.getD i 0) i).length<=(eM ns).length:=by
 have mono:∀k,(firstMet (λi=>ns.getD i 0) i).length<=(firstMet (λi=>ns.getD i 0) (i+k)).length:=λk=>by
  induction k with
  |zero=>exact Nat.le_refl _
  |succ k ih =>
   refine Nat.le_trans ih ?_;rw[show i+(k+1)=(i+k)+1 from rfl,firstMet_succ];unfold step_dedup
   split
   ·exact Nat.le_refl _
   ·rw[List.length_append];exact Nat.le_add_right _ _
 have:=mono (ns.length-i);rw[show i+(ns.length-i)=ns.length by omega] at this;exact this
def Bf (K:Frag)(ta:TE):TE:=λσ H Q=>dm ta Br σ H λvs H1=>∃(l:Addr)(ns:List Int),vs=[.ref l]/\(aN K H1 l (ns.map V.int)\/bo K H1 l (ns.map V.int))/\(eM ns).length<64 /\
 ∀(D:Addr)(ms:List Int),H1 D=none->ms.Pairwise (· < ·)->(∀x,x∈ms↔x∈ns)->Q (.ref D) (upd H1 D (.lst (ms.map V.int)))
section
variable {X:Cx}
theorem jW {e:Expr}{ta:TE}{p p2 pos HI:Pos}{K:Frag}(hK:X.K=K)(ha:PE X e ta)(hc:X.calm=true)(NM:Gl X "sorted")(NO:X.mg "sorted"=none)(So:Gl X "set")(MP:X.mg "set"=none)(hs:dB e=false:=by rfl):
 PE X (.Call (.Name "sorted" p) [.Call (.Name "set" p2) [e] [] HI] [] pos) (Bf K ta):=by
 subst hK;intro pins s σ H Q I h;refine wpAny_Call_Name_kw (cT I NM NO (by rfl) ?_ (by decide) (by decide));refine callWith_builtin1 ?_ (aK rfl) rfl;rw[aK rfl];show wpAny _ _ (spliced ((false,eval (.Call (.Name "set" p2) [e] [] HI) X.env):: backTo pos (starEach [] X.env))) _ _ s;refine Calls.spliced_cons ?_;refine wpAny_Call_Name_kw (cT I So MP (by rfl) ?_ (by decide) (by decide));refine callWith_type1 (bA (ak ha af hs HI pins s σ H _ I h) λus s1 z'=>?_) (aK hs) rfl;obtain⟨vs,H1,I1,r1,l,ns,hv,hq,hz,q⟩:=z';subst hv;obtain⟨u,rfl,ru⟩:=eK r1
 cases(show u=Value.ref l from ru)
 have hd:=I.ok.hd hc
 have fin:∀(h':Heap)(tk:Nat),St.iS (St.own X.w) h' s1.heap.objs.size (eM ns)->(∀b o,b<s1.heap.objs.size->s1.heap.get? b=some o->h'.get? b=some o) →
  wpAny (model X.prog X.w) X.A (call (.builtin "sorted") [.ref s1.heap.objs.size]) (EP X pins σ Q) X.xe {s1 with heap:=h',toks:=tk}:=by
  intro h' tk S old;have I2:Inv X pins σ H1 {s1 with heap:=h',toks:=tk}:=I1.kept (t':=tk) λb o e=>old b o (Heap.lt_size e) e;refine St.oC (s:={s1 with heap:=h',toks:=tk}) hd S hz λh2 S0 D out ms c i1 i2 i3 oD fr k2 _=>?_
  have hlen:(ms.map V.int).length<=sizeLine:=by
   rw[List.length_map,i2.length_eq,sizeLine_eq];omega
  exact⟨.ref D,_,I2.newObj (t':=S0) (o:=.lst (ms.map V.int)) k2 fr ⟨hlen,out.toList,c,qX i1,by simpa using oD⟩,rfl,
   q D ms (I2.abq fr) (AJ i3 (i2.symm.nodup (gU ns))) λx=>(i2.mem_iff).trans (iw ns x)⟩
 rcases hq with hq|hq
 ·obtain⟨its,rv,pl,Ws⟩:=I1.list hq;have e1:=rv.length;rw[List.length_map] at e1;refine St.mB (St.xm X.prog X.w its.toArray) hd pl.isList (by simpa using eY rv) (λi hi=>Nat.lt_of_le_of_lt (pM ns (by rw[List.size_toArray,<-e1] at hi;exact hi)) (by omega)) λh' tk S old _=>?_
  have es:its.toArray.size=ns.length:=by rw[List.size_toArray];exact e1.symm
  rw[es] at S;exact Calls.spliced_nil (fin h' tk S old)
 ·obtain⟨its,rv,pl,Ws⟩:=I1.tuple hq;have e1:=rv.length;rw[List.length_map] at e1;refine St.mB (St.zW X.prog X.w its.toArray) hd pl (by simpa using eY rv) (λi hi=>Nat.lt_of_le_of_lt (pM ns (by rw[List.size_toArray,<-e1] at hi;exact hi)) (by omega)) λh' tk S old _=>?_
  have es:its.toArray.size=ns.length:=by rw[List.size_toArray];exact e1.symm
  rw[es] at S;exact Calls.spliced_nil (fin h' tk S old)
end
end L2
namespace K75
open PySem L2 PySem.W Nm Srt
abbrev Gc:Stmt:=(aO 59)
abbrev Fn:Stmt:=(aO 60)
def CJ (t:Tm):Prop:=t.1.Pairwise (· < ·)/\t.1.length<32
def lC:Sp:=λvs H Q _=>∃(p:Int)(la lb:Addr)(ys us:List V)(a b:List Tm),vs=[.int p,.ref la,.ref lb]/\FP p/\H la=some (.lst ys)/\aU H ys a/\H lb=some (.lst us)/\aU H us b/\a.length*b.length<4000 /\
 (∀t∈a,Gn p 4000 t.2/\CJ t)/\(∀t∈b,Gn p 4000 t.2/\CJ t)/\pH p (fQ p a b)/\∀H' D zs,aC H H'->H D=none->H' D=some (.lst zs)->aU H' zs (tg p (fQ p a b))->Q (.ref D) H'
def qw:Sp:=λvs H Q _=>∃(l:Addr)(ys:List V)(ts:List Tm),vs=[.ref l]/\H l=some (.lst ys)/\aU H ys ts/\ts.length<=1000/\∀(m:Int)(H':Hp),aC H H'->0<=m->(m=0\/∃t∈ts,m=t.1.length)->Q (.int m) H'
theorem uU:yJ ["_law_prime","_law_one","_law_other","_law_found","_law_product","_law_number","_law_more","_law_factor"] GD (ai Gc):=dE (by decide +kernel)
theorem Fs:yJ tV tV (ai Fn):=dE (by decide +kernel)
theorem yG {K:Frag}{a b:Addr}{xs ys:List V}{H:Hp}{Q:VK}(ha:H a=some (.tup xs))(hb:H b=some (.tup ys))(hz:xs.length+ys.length<=sizeLine)(q:∀l H',aC H H'->H' l=some (.tup (xs++ys))->Q (.ref l) H'):AL K (.ref a) (.ref b) H Q :=
 ⟨a,b,xs,ys,rfl,rfl,bo.of ha,bo.of hb,hz,λh=>q b H (aC.refl _) (by rw[hb,h];rfl),λ_ h=>q a H (aC.refl _) (by rw[ha,h,List.append_nil]),λ_ _ l hl=>q l _ (ah hl) ae⟩
theorem uo (p:Int)(a b:List Tm)(x:Tm):fQ p (a++[x]) b=fQ p a b++b.map λy=>(jo (x.1++y.1),nt p x.2 y.2):=by simp[fQ]
theorem ie (p:Int)(a b:List Tm):(fQ p a b).length=a.length*b.length:=by
 unfold fQ;rw[List.length_flatMap];simp only[List.length_map];rw[List.map_const',List.sum_replicate_nat]
variable {P:vB}{w:World}{K:PySem.W.Frag}{mg:vW}{base:Heap}
set_option maxHeartbeats 1000000 in
theorem yk {f fm fg:Addr}{fd JD Ii:EK}(F:vM K "_law_multiplied" "_law_multiplied" Gc f fd)(GS:mg "tuple"=none)(GL:mg "sorted"=none)(Hh:mg "set"=none)
 (FM:Bp P w K mg base (bf P w) 3 fm JD GD (ng m9))(bM:L2.ay K JD GD [])(mM:mg "_law_times"=some (.ref fm))(kM:keepIn K (.ref fm)=true)
 (FG:Bp P w K mg base (bf P w) 4 fg Ii E8 pj)(bG:L2.ay K Ii E8 [])(mG:mg "_law_gathered"=some (.ref fg))(kG:keepIn K (.ref fg)=true):
 Bp P w K mg base (bf P w) 5 f fd GD lC:=by
 refine F.okN uU (λvs H Q E h=>?_) (λGN A outer s H vs Q E hr h=>?_)
 ·obtain⟨p,la,lb,ys,us,a,b,rfl,_⟩:=h;rfl
 ·obtain⟨p,la,lb,ys,us,a,b,rfl,hp,WS,WT,WU,WV,KS,ga,gb,G,q⟩:=h;have HR:wK 4 _:=hr;have IH:wK 3 _:=HR.mono (by decide)
  refine⟨_,(aj (@aY _ _ 3 _ _ _ _ uU.nd rfl (Or.inl rfl) (@cu _ _ _ _ af) rfl (Or.inl rfl))
   (aj (dZ PassesOwn.never rfl (bu (pv 1)) (bZ rfl (aB (av (i:=4) uU.nd rfl (Or.inl rfl)) (aB (av (i:=5) uU.nd rfl (Or.inl rfl)) bz)))
   (aq (dZ PassesOwn.never rfl (bu (pv 2)) (bZ rfl (aB (av (i:=6) uU.nd rfl (Or.inl rfl)) (aB (av (i:=7) uU.nd rfl (Or.inl rfl)) bz)))
   (aq (jF (wV PySem.F.plainAttrs_list PySem.F.slot_list_append PySem.F.type_list_append i4 (pv 3) (@ak _ _ _ _ _ (@bh _ _ _ _ _ (@ak _ _ _ _ _ (b8 lA (by rfl) GS (by rfl) (@ak _ _ _ _ _ (jW rfl (@aD _ _ _ _ _ _ _ _ yQ (pv 4) (pv 6)) rfl (by rfl) GL (by rfl) Hh) af rfl)) (@ak _ _ _ _ _ (ax FM IH (by rfl) mM kM bM .nil ag (@ak _ _ _ _ _ (pv 0) (@ak _ _ _ _ _ (pv 5) (@ak _ _ _ _ _ (pv 7) af rfl) rfl) rfl)) af rfl) rfl)) af rfl)))))))
   (aq (aA (ax FG HR (by rfl) mG kG bG .nil ag (@ak _ _ _ _ _ (pv 0) (@ak _ _ _ _ _ (pv 3) af rfl) rfl)))))),?_⟩
  refine⟨Nat.zero_le _,λL hL=>?_⟩;have s1:=ah (o:=.lst []) hL;have e1:upd H L (.lst []) L=some (.lst []):=ae;generalize upd H L _=H1 at s1 e1 |-;have za:=WT.length;have zb:=WV.length;refine⟨_,rfl,la,rfl,⟨_,aN.of (s1 _ _ WS)⟩,?_⟩;refine hZ (K:=K) (a:=la) (xs:=ys) (λi σ H'=>aC H H'/\(∃ws,H' L=some (.lst ws)/\aU H' ws (fQ p (a.take i) b))/\∃o4 o5 o6 o7,σ=[some (.int p),some (.ref la),some (.ref lb),some (.ref L),o4,o5,o6,o7]) ⟨s1,⟨[],e1,.nil⟩,_,_,_,_,rfl⟩ (λj σ H' _ h=>aN.of (h.1 _ _ WS)) ?_ ?_
  ·rintro i y σ H2 hy ⟨s2,⟨ws,eL,hw⟩,o4,o5,o6,o7,rfl⟩;obtain⟨x,ex,at_,pr,nu,rfl,Rm,HS,IJ⟩:=aW WT hy;have gx:=ga x (List.mem_of_getElem? ex);have hi:i<a.length:=(List.getElem?_eq_some_iff.mp ex).1
   have Il:a.take (i+1)=a.take i++[x]:=by rw[List.take_add_one,ex];rfl
   refine⟨at_,_,rfl,bo.of (s2 _ _ Rm),rfl,_,_,rfl,_,_,rfl,rfl,?_⟩;refine⟨_,rfl,lb,rfl,⟨_,aN.of (s2 _ _ WU)⟩,?_⟩;refine hZ (K:=K) (a:=lb) (xs:=us) (λj σ H'=>aC H H'/\(∃ws,H' L=some (.lst ws)/\aU H' ws (fQ p (a.take i) b++(b.take j).map λy=>(jo (x.1++y.1),nt p x.2 y.2)))/\∃o6 o7,σ=[some (.int p),some (.ref la),some (.ref lb),some (.ref L),some (.ref pr),some (.ref nu),o6,o7]) ⟨s2,⟨ws,eL,by simpa using hw⟩,_,_,rfl⟩ (λj σ H' _ h=>aN.of (h.1 _ _ WU)) ?_ ?_
   ·rintro j y σ H3 hy ⟨s3,⟨ws,eL,hw⟩,o6,o7,rfl⟩;obtain⟨z,ez,at2,pr2,ZN,rfl,S3,S6,S7⟩:=aW WV hy;have gz:=gb z (List.mem_of_getElem? ez);have hj:j<b.length:=(List.getElem?_eq_some_iff.mp ez).1
    have S8:b.take (j+1)=b.take j++[z]:=by rw[List.take_add_one,ez];rfl
    refine⟨at2,_,rfl,bo.of (s3 _ _ S3),rfl,_,_,rfl,_,_,rfl,rfl,?_⟩
    have Hn:(x.1.map V.int).length+(z.1.map V.int).length<64:=by
     rw[List.length_map,List.length_map];have:=gx.2.2;have:=gz.2.2;omega
    refine⟨_,rfl,.inl ⟨rfl,_,aN.of eL⟩,?_⟩;refine⟨_,rfl,_,rfl,yG (s3 _ _ HS) (s3 _ _ S6) (Nat.le_trans (Nat.le_of_lt Hn) (by decide)) λl H4 s4 el=>?_⟩;refine⟨l,x.1++z.1,rfl,.inr (bo.of (by rw[el,List.map_append])),Nat.lt_of_le_of_lt (sh _) (by rw[List.length_append];simpa using Hn),λD ms hD pw mem=>?_⟩;have em:ms=jo (x.1++z.1):=Cu pw mem;subst em;refine⟨D,_,rfl,.inl ⟨aN.of ae,λtu WW=>?_⟩⟩;have s5:=(ah (o:=.lst ((jo (x.1++z.1)).map V.int)) hD).trans (ah (o:=.tup ((jo (x.1++z.1)).map V.int)) WW);have e5:upd (upd H4 D (.lst ((jo (x.1++z.1)).map V.int))) tu (.tup ((jo (x.1++z.1)).map V.int)) tu=some (.tup ((jo (x.1++z.1)).map V.int)):=ae;generalize upd (upd H4 D (.lst ((jo (x.1++z.1)).map V.int))) tu (.tup ((jo (x.1++z.1)).map V.int))=H5 at s5 e5 |-;have N2:=s4.trans s5;have S9:=s3.trans N2;have ZO:=N2 _ _ eL;clear hD WW;refine⟨_,rfl,_,rfl,_,rfl,p,x.2.1,x.2.2,z.2.1,z.2.2,nu,ZN,rfl,hp,S9 _ _ IJ,S9 _ _ S7,gx.1.2.1,gx.1.2.2,gz.1.2.1,gz.1.2.2,gx.1.ne,gz.1.ne,(λw=>by rw[(gx.1.1.pr w).1,(gz.1.1.pr w).1];rfl),λH6 an s6 e6=>?_⟩;refine⟨gc,λtt SG=>?_⟩;have s7:=ah (o:=.tup [.ref tu,.ref an]) SG;have e7:upd H6 tt (.tup [.ref tu,.ref an]) tt=some (.tup [.ref tu,.ref an]):=ae;generalize upd H6 tt _=H7 at s7 e7 |-;have IX:=s6.trans s7;have WY:=IX _ _ ZO
    have wl:ws.length<4000:=by
     rw[hw.length,List.length_append,ie,List.length_map,List.length_take,List.length_take]
     have h1:min i a.length=i:=by omega
     have h2:min j b.length=j:=by omega
     rw[h1,h2];have h3:(i+1)*b.length<=a.length*b.length:=Nat.mul_le_mul_right _ (by omega);rw[Nat.succ_mul] at h3;omega
    refine⟨L,ws,.ref tt,rfl,rfl,WY,Nat.lt_of_lt_of_le wl (by decide),?_⟩
    have kL:aF H7 (upd H7 L (.lst (ws++[.ref tt]))):=aF.upd λxs w=>by rw[WY] at w;cases w
    have ZP:aF H3 H7:=aF.of (N2.trans IX);refine⟨λc u e=>?_,⟨_,ae,?_⟩,_,_,rfl⟩
    ·rw[ar (au e hL)];exact IX _ _ (S9 _ _ e)
    ·rw[S8,List.map_append,<-List.append_assoc];exact Paired.snoc (aU.keep hw (ZP.trans kL)) ⟨tt,tu,an,rfl,kL _ _ e7,kL _ _ (IX _ _ e5),kL _ _ (s7 _ _ e6)⟩
   ·rintro σ H3 ⟨s3,⟨ws,eL,hw⟩,o6,o7,rfl⟩;refine⟨s3,⟨ws,eL,?_⟩,_,_,_,_,rfl⟩;rw[Il,uo];rw[zb,List.take_length] at hw;exact hw
  ·rintro σ H2 ⟨s2,⟨ws,eL,hw⟩,o4,o5,o6,o7,rfl⟩;rw[za,List.take_length] at hw;exact⟨_,rfl,_,rfl,L,p,ws,_,rfl,hp,eL,hw,G,λH' D zs s3 nD hD hz=>q H' D zs (s2.trans s3) (none_of s2 nD) hD hz⟩
theorem DQ {f:Addr}{fd:EK}(F:vM K "_law_degree" "_law_degree" Fn f fd)(Hm:mg "max"=none)(GJ:mg "len"=none):Bp P w K mg base (bf P w) 1 f fd tV qw:=by
 refine F.okN Fs (λvs H Q E h=>?_) (λGN A outer s H vs Q E hr h=>?_)
 ·obtain⟨l,ys,ts,rfl,_⟩:=h;rfl
 ·obtain⟨l,ys,ts,rfl,hl,ht,tl,q⟩:=h
  refine⟨_,(aq (aA (az (uW rfl) (by rfl) Hm (by rfl) (@ak _ _ _ _ _ (@aD _ _ _ _ _ _ _ _ fE (@cu _ _ _ _ (@ak _ _ _ _ _ ao af rfl)) (bX (g:=(gq K 2 (bD (bg 0) (bD (bg 1) ve)))) (N:=["_law_product","_law_number"]) (nl:=2) (js:=[]) (osc:=ai Fn) ⟨rfl,rfl,by decide +kernel,by decide +kernel,by decide +kernel,rfl,.nil,by decide +kernel⟩ rfl
   (bu (pv 0))
   (λCq fq sq Hq=>(bZ (X:=bY _ ["_law_product","_law_number"] _ Cq fq sq Hq) rfl (aB (av (X:=bY _ ["_law_product","_law_number"] _ Cq fq sq Hq) (i:=0) (by show(["_law_product","_law_number"]:zF).Nodup;decide +kernel) rfl (Or.inl rfl) (Or.inr rfl)) (aB (av (X:=bY _ ["_law_product","_law_number"] _ Cq fq sq Hq) (i:=1) (by show(["_law_product","_law_number"]:zF).Nodup;decide +kernel) rfl (Or.inl rfl) (Or.inr rfl)) bz))))
   (λCq fq sq Hq=>bK)
   (λCq fq sq Hq=>(az (tW (K:=K) rfl) (by rfl) GJ PySem.boot_len (@ak _ _ _ _ _ (pv 0) af rfl))))) af rfl)))),?_⟩
  refine⟨vm,λL hL=>?_⟩;have s0:=ah (o:=.lst [.int 0]) hL;have e0:upd H L (.lst [.int 0]) L=some (.lst [.int 0]):=ae;generalize upd H L _=H0 at s0 e0 |-;refine⟨_,rfl,l,rfl,⟨ys,aN.of (s0 _ _ hl)⟩,?_⟩;have yl:=ht.length;refine gC (xs:=ys) (rest:=[]) (λi us H'=>aC H0 H'/\us=((ts.take i).map λt=>(t.1.length:Int)).map V.int) ⟨aC.refl _,rfl⟩ (λi us H' hi h=>?_) (λi x us H' hi hx h=>?_) (λus H' h=>?_)
  ·refine⟨?_,aN.of (h.1 _ _ (s0 _ _ hl))⟩;rw[h.2,List.length_map,List.length_map,List.length_take];exact Nat.lt_of_le_of_lt (by omega:_<=1000) (by decide)
  ·obtain⟨s1,rfl⟩:=h;obtain⟨t,et,a,pr,nu,rfl,ha,HS,IJ⟩:=aW (aU.keep ht (aF.of (s0.trans s1))) hx;refine⟨a,.ref pr,.ref nu,rfl,bo.of ha,λN hN=>ku ⟨_,rfl,pr,_,rfl,.inr (bo.of HS),hN _ _ ⟨s1,?_⟩⟩⟩;rw[List.take_add_one,et,List.map_append,List.map_append,List.length_map];rfl
  ·obtain⟨s1,rfl⟩:=h;intro D hD;rw[yl,List.take_length];have s2:=ah (o:=.lst ((ts.map λt=>(t.1.length:Int)).map V.int)) hD;refine⟨L,D,_,_,rfl,rfl,s2 _ _ (s1 _ _ e0),ae,?_,λpp H5 MN s5 e5=>?_⟩
   ·rw[List.length_map,List.length_map];exact Nat.le_trans (by show 1+ts.length<=2000;omega) (by decide)
   refine⟨pp,0::(ts.map λt=>(t.1.length:Int)),rfl,aN.of (by rw[e5];rfl),by simp,λm hm Ta=>?_⟩;refine q m H5 (s0.trans (s1.trans (s2.trans s5))) (Ta 0 (by simp)) ?_
   rcases List.mem_cons.mp hm with h|h
   ·exact .inl h
   ·obtain⟨t,h1,h2⟩:=List.mem_map.mp h;exact .inr ⟨t,h1,h2.symm⟩
variable {p:Int}
theorem w8 {d:List Tm}{t e:Tm}(h:e∈cE p d t):(∃x∈d,e.1=x.1)\/e.1=t.1:=by
 unfold cE at h
 split at h
 ·obtain⟨x,hx,rfl⟩:=List.mem_map.mp h;refine .inl ⟨x,hx,?_⟩
  split <;> rfl
 ·rcases List.mem_append.mp h with h|h
  ·exact .inl ⟨e,h,rfl⟩
  ·have:e=t:=by simpa using h
   exact .inr (by rw[this])
theorem oq :∀(ts d:List Tm)(e:Tm),e∈ts.foldl (cE p) d->(∃x∈d,e.1=x.1)\/∃x∈ts,e.1=x.1
 |[],d,e,h=>.inl ⟨e,h,rfl⟩
 |t::ts,d,e,h=>by
  rcases oq ts (cE p d t) e h with⟨x,hx,ex⟩|⟨x,hx,ex⟩
  ·rcases w8 hx with⟨y,hy,ey⟩|ey
   ·exact .inl ⟨y,hy,ex.trans ey⟩
   ·exact .inr ⟨t,List.mem_cons_self,ex.trans ey⟩
  ·exact .inr ⟨x,List.mem_cons_of_mem _ hx,ex⟩
theorem y3 {raw:List Tm}{t:Tm}(h:t∈tg p raw):∃x∈raw,t.1=x.1:=by
 rcases oq raw [] t (List.mem_filter.mp ((dM _).mem_iff.mp h)).1 with⟨x,hx,_⟩|⟨x,hx,e⟩
 ·exact nomatch hx
 ·exact⟨x,hx,e⟩
theorem pq {p:Int}:∀(ts d:List Tm),(ts.foldl (cE p) d).length<=d.length+ts.length
 |[],d=>Nat.le_refl _
 |t::ts,d=>by
  have h:=pq (p:=p) ts (cE p d t)
  have:(cE p d t).length<=d.length+1:=by
   unfold cE
   split
   ·rw[List.length_map];omega
   ·rw[List.length_append];exact Nat.le_refl _
  rw[List.foldl_cons,List.length_cons];omega
theorem pe (p:Int)(ts:List Tm):(aS p ts).length<=ts.length:=by
 have:=pq (p:=p) ts [];rw[List.length_nil,Nat.zero_add] at this;exact this
theorem nA (p:Int)(ts:List Tm):(tg p ts).length<=ts.length:=by
 rw[(dM _).length_eq];exact Nat.le_trans (List.length_filter_le _ _) (pe p ts)
theorem EH {i:Int}(h:i.natAbs<2^40):B 4000 i:=Nat.lt_of_lt_of_le h (Nat.pow_le_pow_right (by decide) (by decide))
theorem wu {a:Int×Int}(h:Num 2 a.1 a.2):Cd 2 1 1 a:=⟨h,λz=>by cases z⟩
theorem vS {a:Int×Int}(h:Num 2 a.1 a.2):Gn 2 4000 a:=(wu h).gn F2 (by decide) (by decide) (EH (by decide)) (EH (by decide))
theorem vY {ts:List Tm}(h:cb 2 ts)(l:ts.length<4000)(few:((aS 2 ts).filter λe=>e.2.1 != 0).length<64):pH 2 ts :=
 pH.cd F2 (by decide) (λt ht=>wu (h t ht)) (by decide) (EH (by decide)) (EH (by rw[Int.one_mul,Int.natAbs_natCast];exact Nat.lt_trans l (by decide))) l few
theorem n4 {ts:List Tm}(h:cb 2 ts)(l:ts.length<64):pH 2 ts:=vY h (by omega) (Nat.lt_of_le_of_lt (List.length_filter_le _ _) (Nat.lt_of_le_of_lt (pe 2 ts) l))
variable {es:Eg}{k:Int}
theorem Am {i:Nat}(h:i∈yf es k):i<es.length:=List.mem_range.mp (List.mem_filter.mp h).1
theorem qY (es:Eg)(k:Int):(rT es k).length<=es.length:=by
 unfold rT yf;rw[List.length_map];exact Nat.le_trans (List.length_filter_le _ _) (by rw[List.length_range];exact Nat.le_refl _)
theorem qc (es:Eg)(od:List Int)(k:Int):(wT es od k).length<=es.length+1:=by
 unfold wT;rw[List.length_append];exact Nat.succ_le_succ (qY es k)
variable {od:List Int}
theorem Bz {t:Tm}(h:t∈wT es od k):t.1=[]\/∃i:Nat,i<es.length/\t.1=[(i:Int)]:=by
 rcases List.mem_append.mp h with h|h
 ·obtain⟨i,hi,rfl⟩:=List.mem_map.mp h;exact .inr ⟨i,Am hi,rfl⟩
 ·rw[List.mem_singleton.mp h];exact .inl rfl
theorem qH {t:Tm}(h:t∈tg 2 (wT es od k)):t.1=[]\/∃i:Nat,i<es.length/\t.1=[(i:Int)]:=by
 obtain⟨x,hx,e⟩:=y3 h;rw[e];exact Bz hx
theorem wU {t:Tm}{n:Nat}(h:t.1=[]\/∃i:Nat,i<n/\t.1=[(i:Int)]):CJ t/\t.1.length<=1/\∀k∈t.1,0<=k/\k<n:=by
 rcases h with e|⟨i,hi,e⟩
 ·rw[CJ,e];exact⟨⟨.nil,by decide⟩,by decide,λk hk=>nomatch hk⟩
 ·rw[CJ,e];exact⟨⟨List.pairwise_singleton _ _,by show 1<32;decide⟩,Nat.le_refl _,λk hk=>by rw[List.mem_singleton.mp hk];omega⟩
theorem zH (es:Eg)(od:List Int)(k:Int):tg 2 (CD es od k)=tg 2 (wT es od k):=by
 obtain⟨R,iR,v,V⟩:=F2.v
 have h1:cb 2 (CD es od k):=λt ht=>by
  rcases List.mem_append.mp ht with ht|ht
  ·exact qu es k t ht
  ·split at ht
   ·rw[List.mem_singleton.mp ht];exact eZ F2
   ·exact nomatch ht
 refine Ao V F2.nn h1 (jf es od k) λF=>?_;rw[DE V];unfold CD;rw[gf,DA V]
 split
 ·show _+(v (1,1)*F []+0)=_;rw[V.one];grind
 ·rfl
theorem BO (k:Int)(h:es.length<=60):pH 2 (CD es od k):=by
 refine n4 (λt ht=>?_) ?_
 ·rcases List.mem_append.mp ht with ht|ht
  ·exact qu es k t ht
  ·split at ht
   ·rw[List.mem_singleton.mp ht];exact eZ F2
   ·exact nomatch ht
 ·unfold CD;rw[List.length_append];have:=qY es k
  split
  ·show _+1<64;omega
  ·show _+0<64;omega
theorem Dh (k:Int)(h:es.length<=60):pH 2 (wT es od k):=n4 (jf es od k) (by have:=qc es od k;omega)
structure Bs (x:List Tm×List Tm):Prop where
 a:∀t∈x.1,Gn 2 4000 t.2/\CJ t/\t.1.length<=1
 len:x.1.length<=61
 b:x.2=[([],(1,1))]
 th:pH 2 (fQ 2 x.1 x.2)
theorem vE:cb 2 [([],((1,1):Int×Int))]:=λt ht=>by rw[List.mem_singleton.mp ht];exact eZ F2
theorem zU (k:Int)(h:es.length<=60):Bs (tg 2 (wT es od k),[([],(1,1))]):=by
 have l:(tg 2 (wT es od k)).length<=61:=Nat.le_trans (nA _ _) (by have:=qc es od k;omega);have n:=F2.tn (jf es od k);refine⟨λt ht=>?_,l,rfl,?_⟩
 ·have ht:t∈tg 2 (wT es od k):=ht;have q:=wU (qH ht);exact⟨vS (n t ht),q.1,q.2.1⟩
 ·refine n4 (hV F2.nn n vE) ?_;rw[ie];show(tg 2 (wT es od k)).length*1<64;omega
theorem vN {ks:List Int}(h:es.length<=60)(x:List Tm×List Tm)(hx:x∈pU es od ks):Bs x:=by
 obtain⟨k,_,e⟩:=List.mem_map.mp hx;rw[<-e];exact zU k h
theorem oY {α β:Type}{f:α->List β}{n:Nat}:∀{l:List α},(∀x∈l,(f x).length<=n)->(l.flatMap f).length<=n*l.length
 |[],_=>Nat.zero_le _
 |x::l,h=>by
  rw[List.flatMap_cons,List.length_append,List.length_cons,Nat.mul_succ];have:=oY (l:=l) λy hy=>h y (List.mem_cons_of_mem _ hy);have:=h x List.mem_cons_self;omega
theorem BD {ks:List Int}(w:FA es od)(hk:Kn es ks):pH 2 (ue 2 (pU es od ks)):=by
 have one:=rX w hk;have k7:=hk.len w
 have len:(ue 2 (pU es od ks)).length<=61*7:=by
  refine Nat.le_trans (oY (n:=61) λx hx=>?_) (Nat.mul_le_mul_left _ (by unfold pU;rw[List.length_map];exact k7));have P:=vN w.hi x hx;refine Nat.le_trans (nA _ _) ?_;rw[ie,P.b];have:=P.len;show x.1.length*1<=61;omega
 refine vY (λt ht=>?_) (by omega) ?_
 ·rw[nk] at ht;obtain⟨k,_,ht⟩:=List.mem_flatMap.mp ht;exact F2.tn (hV F2.nn (F2.tn (jf es od k)) vE) t ht
 ·have e:=(dM (aS 2 (ue 2 (pU es od ks)))).length_eq;rw[<-e];have:fZ (aS 2 (ue 2 (pU es od ks)))=[([],(1,1))]:=one;rw[this];decide
end K75
namespace L2
open PySem PySem.Spec PyProof.Rows
section
variable {prog:vB}{w:World}{A:Around}{R:Result->Shared->Prop}{s:GB}
theorem nY (elt:Expr)(g0:Comprehension)(target iter:Expr)(ifs:Bj)(scope:Scope)(pos:Pos)(it acc:Value)(env:Env):
 compTurn (.SetComp elt [g0,⟨target,iter,ifs,0⟩] scope pos) 1 it acc env=(do
  standAt iter.pos
  match <-pyNext it with
  |none=>pure (.done .next)
  |some v=>do
   letOwnedTupleGo target it v
   assign target env v
   let ok <-forIn ifs true λc r=>if r=true then do let ok <-PySem.isTrue c env (eval c env);pure (ForInStep.yield ok) else pure (ForInStep.yield r)
   if ok=true then do
    let _ <-(do
     let x <-eval elt env
     standAt elt.pos
     let _ <-call (Value.builtin "set.add") [acc,x]
     pure ())
    again (.compLoop (.SetComp elt [g0,⟨target,iter,ifs,0⟩] scope pos) 1 it acc env)
   else again (.compLoop (.SetComp elt [g0,⟨target,iter,ifs,0⟩] scope pos) 1 it acc env)):=by
 unfold compTurn;rfl
theorem lD (elt t0 i0:Expr)(t1 i1:Expr)(J7 if1:Bj)(scope:Scope)(pos:Pos)(it acc:Value)(env:Env):
 compTurn (.SetComp elt [⟨t0,i0,J7,0⟩,⟨t1,i1,if1,0⟩] scope pos) 0 it acc env=(do
  standAt i0.pos
  match <-pyNext it with
  |none=>pure (.done .next)
  |some v=>do
   letOwnedTupleGo t0 it v
   assign t0 env v
   let ok <-forIn J7 true λc r=>if r=true then do let ok <-PySem.isTrue c env (eval c env);pure (ForInStep.yield ok) else pure (ForInStep.yield r)
   if ok=true then do
    let x <-eval i1 env
    standAt i1.pos
    let x <-foldedSetIterable i1 env x
    let y <-holding [x] (pyIter x)
    let _ <-runOwn (.compStart (.SetComp elt [⟨t0,i0,J7,0⟩,⟨t1,i1,if1,0⟩] scope pos) 1 y acc env) env
    again (.compLoop (.SetComp elt [⟨t0,i0,J7,0⟩,⟨t1,i1,if1,0⟩] scope pos) 0 it acc env)
   else again (.compLoop (.SetComp elt [⟨t0,i0,J7,0⟩,⟨t1,i1,if1,0⟩] scope pos) 0 it acc env)):=by
 unfold compTurn;rfl
theorem m8 {elt target iter:Expr}{g0:Comprehension}{ifs:Bj}{scope:Scope}{pos:Pos}{it acc:Value}{env:Env}(I:Nat->Shared->Prop)
 (turn:∀n s,I n s->wpAny (model prog w) A (pyNext it) (λr s₁=>match r with
  |none=>R (.ok .next) s₁
  |some v=>wpAny (model prog w) A (letOwnedTupleGo target it v) (λ_ s₁=>wpAny (model prog w) A (assign target env v) (λ_ s₂ =>
   wpAny (model prog w) A (forIn ifs true λc r=>if r=true then do let ok <-isTrue c env (eval c env);pure (ForInStep.yield ok) else pure (ForInStep.yield r)) (λok s₃ =>
    if ok=true then wpAny (model prog w) A (eval elt env) (λx s₄ =>
     wpAny (model prog w) A (call (.builtin "set.add") [acc,x]) (λ_ s₅=>∃m,m<n/\I m s₅) (λ_ _=>False) s₄) (λ_ _=>False) s₃
    else ∃m,m<n/\I m s₃) (λ_ _=>False) s₂) (λ_ _=>False) s₁) (λ_ _=>False) s₁) (λ_ _=>False) s)
 (n:Nat)(h:I n s):
 codeAny (model prog w) A (.compLoop (.SetComp elt [g0,⟨target,iter,ifs,0⟩] scope pos) 1 it acc env) R s:=by
 refine codeAny_loop rfl I (λn s hI=>?_) n h;show wpAny _ A ((compTurn (.SetComp elt [g0,⟨target,iter,ifs,0⟩] scope pos) 1 it acc env).onRaise (λx=>do noteFrame x env;theTreesLotGoes x)) _ _ s;refine wpAny_noted ?_;rw[nY];refine wpAny_bind (wpAny_standAt (wpAny_bind (wpAny_mono (turn n s hI) (λr s₁ h₁=>?_) λ_ _ z=>False.elim z)))
 cases r with
 |none=>exact wpAny_pure h₁
 |some v =>
  refine wpAny_bind (wpAny_mono h₁ (λ_ Wi Nv=>?_) λ_ _ z=>False.elim z);refine wpAny_bind (wpAny_mono Nv (λ_ s₂ h₂=>wpAny_bind (wpAny_mono h₂ (λok s₃ h₃=>?_) λ_ _ z=>False.elim z)) λ_ _ z=>False.elim z)
  cases ok with
  |false=>exact wpAny_pure ⟨rfl,h₃⟩
  |true =>
   exact wpAny_bind (wpAny_bind (wpAny_mono h₃ (λx s₄ h₄=>wpAny_bind (wpAny_standAt (wpAny_bind (wpAny_mono h₄ (λ_ s₅ h₅=>wpAny_pure (wpAny_pure ⟨rfl,h₅⟩)) λ_ _ z=>False.elim z)))) λ_ _ z=>False.elim z))
theorem lB {elt t0 i0 t1 i1:Expr}{J7 if1:Bj}{scope:Scope}{pos:Pos}{it acc:Value}{env:Env}(I:Nat->Shared->Prop)(N3:∀x,foldedSetIterable i1 env x=pure x)
 (turn:∀n s,I n s->wpAny (model prog w) A (pyNext it) (λr s₁=>match r with
  |none=>R (.ok .next) s₁
  |some v=>wpAny (model prog w) A (letOwnedTupleGo t0 it v) (λ_ s₁=>wpAny (model prog w) A (assign t0 env v) (λ_ s₂ =>
   wpAny (model prog w) A (forIn J7 true λc r=>if r=true then do let ok <-isTrue c env (eval c env);pure (ForInStep.yield ok) else pure (ForInStep.yield r)) (λok s₃ =>
    if ok=true then wpAny (model prog w) A (eval i1 env) (λx s₄ =>
     wpAny (model prog w) A (holding [x] (pyIter x)) (λy s₅=>wpAny (model prog w) A (runOwn (.compStart (.SetComp elt [⟨t0,i0,J7,0⟩,⟨t1,i1,if1,0⟩] scope pos) 1 y acc env) env) (λ_ s₆=>∃m,m<n/\I m s₆) (λ_ _=>False) s₅) (λ_ _=>False) s₄) (λ_ _=>False) s₃
    else ∃m,m<n/\I m s₃) (λ_ _=>False) s₂) (λ_ _=>False) s₁) (λ_ _=>False) s₁) (λ_ _=>False) s)
 (n:Nat)(h:I n s):
 codeAny (model prog w) A (.compLoop (.SetComp elt [⟨t0,i0,J7,0⟩,⟨t1,i1,if1,0⟩] scope pos) 0 it acc env) R s:=by
 refine codeAny_loop rfl I (λn s hI=>?_) n h;show wpAny _ A ((compTurn (.SetComp elt [⟨t0,i0,J7,0⟩,⟨t1,i1,if1,0⟩] scope pos) 0 it acc env).onRaise (λx=>do noteFrame x env;theTreesLotGoes x)) _ _ s;refine wpAny_noted ?_;rw[lD];refine wpAny_bind (wpAny_standAt (wpAny_bind (wpAny_mono (turn n s hI) (λr s₁ h₁=>?_) λ_ _ z=>False.elim z)))
 cases r with
 |none=>exact wpAny_pure h₁
 |some v =>
  refine wpAny_bind (wpAny_mono h₁ (λ_ Wi Nv=>?_) λ_ _ z=>False.elim z);refine wpAny_bind (wpAny_mono Nv (λ_ s₂ h₂=>wpAny_bind (wpAny_mono h₂ (λok s₃ h₃=>?_) λ_ _ z=>False.elim z)) λ_ _ z=>False.elim z)
  cases ok with
  |false=>exact wpAny_pure ⟨rfl,h₃⟩
  |true =>
   refine wpAny_bind (wpAny_mono h₃ (λx s₄ h₄=>?_) λ_ _ z=>False.elim z);refine wpAny_bind (wpAny_standAt ?_);rw[N3];refine wpAny_bind (wpAny_pure ?_);exact wpAny_bind (wpAny_mono h₄ (λy s₅ h₅=>wpAny_bind (wpAny_mono h₅ (λ_ s₆ h₆=>wpAny_pure ⟨rfl,h₆⟩) λ_ _ z=>False.elim z)) λ_ _ z=>False.elim z)
theorem fP {elt target iter g0 ifs scope pos it acc env}
 (h0:codeAny (model prog w) A (.compLoop (.SetComp elt [g0,⟨target,iter,ifs,0⟩] scope pos) 1 it acc env) R s)
 (h:wpAny (model prog w) A (pyIter it) (λLV s'=>codeAny (model prog w) A (.compLoop (.SetComp elt [g0,⟨target,iter,ifs,0⟩] scope pos) 1 LV acc env) R s')
  (notedBy (model prog w) A env λx s'=>R (.error x) s') s):
 codeAny (model prog w) A (.compStart (.SetComp elt [g0,⟨target,iter,ifs,0⟩] scope pos) 1 it acc env) R s:=by
 refine codeAny_of_tree ?_;show wpAny _ _ ((compStart (.SetComp elt [g0,⟨target,iter,ifs,0⟩] scope pos) 1 it acc env).onRaise (λx=>do noteFrame x env;standAt theWindowsPlace)) _ _ s;refine wpAny_notedAt ?_;unfold compStart;show wpAny _ _ (ask>>=_) _ _ s;refine wpAny_bind (wpAny_askSetting (wpAny_ite ?_))
 split
 ·first
   |exact wpAny_bind (wpAny_pure (wpAny_pure (And.intro rfl h0)))
   |exact wpAny_pure (And.intro rfl h0)
 ·first
   |exact wpAny_bind (wpAny_rule (wpAny_bind (wpAny_standAt (wpAny_bind (wpAny_mono h (λLV s' h'=>wpAny_pure (And.intro rfl h')) λ_ _ x=>x)))))
   |(refine wpAny_bind (wpAny_rule ?_);show wpAny _ _ (standAt iter.pos>>=_) _ _ s;exact wpAny_bind (wpAny_standAt (wpAny_bind (wpAny_mono h (λLV s' h'=>wpAny_pure (And.intro rfl h')) λ_ _ x=>x))))
end
def jt (led:Bool)(o:Obj)(ns:List Int):Prop:=∃es ep t,o=St.iU es ep t/\St.ES es ns/\es.size=ns.length/\St.Ok led ns.length t
theorem sv (w:World):jt (St.own w) (St.ic w) (eM []):=⟨#[],0,_,rfl,⟨λe he=>by simp at he,List.Perm.refl _⟩,rfl,St.Ok.fresh _⟩
theorem um (xs:List Int)(k:Int):eM (xs++[k])=step_dedup (eM xs) k:=by rw[gE,gE,List.foldl_append];rfl
section
variable {prog:vB}{w:World}{A:Around}{R:Result->Shared->Prop}{E:pL}{s:GB}
theorem uj {Q:pL}(h:Q (.ref s.heap.objs.size) {s with heap:=s.heap.push (St.ic w)}):wpAny (model prog w) A (newSet (.type "set")) Q E s:=by
 unfold newSet
 cases s
 dsimp only
 wp_walk
 refine wpAny_askSetting (wpAny_pure ?_);dsimp only[newObj];exact wpAny_bind (wpAny_alloc (wpAny_pure h))
theorem CA {led:Bool}{a:Addr}{ob:Obj}{ns:List Int}{k:Int}{tk:Tok}{Q:pL}(ho:s.heap.get? a=some ob)(S:jt led ob ns)(hn:ns.length<76)
 (h:∀h' on,Heap.SameBut a s.heap h'->h'.get? a=some on->jt led on (step_dedup ns k)->Q .none {s with heap:=h',toks:=s.toks+1}):wpAny (model prog w) A (call (.builtin "set.add") [.ref a,.int k tk]) Q E s:=by
 obtain⟨es,ep,t,rfl,c,hz,O⟩:=S;refine wpAny_call_entry F.slot_set_add ⟨_,ho,rfl⟩ F.entry_set_add ?_ (F.args_set_add_2 _ _);unfold Builtin.«set.add» Builtin.Frozenset.oneOther;simp only[List.isEmpty_nil,bind_assoc];unfold Builtin.Frozenset.addrOf setAdd;refine wpAny_bind (wpAny_pure ?_)
 try dsimp only
 refine wpAny_bind (wpAny_pure ?_)
 try dsimp only
 refine wpAny_bind ?_;refine wpAny_holding ?_;refine wpAny_bind ((intKind prog w).pyHash (k:=k) (intKind_is _ _ _ _) ?_);refine St.Ay (s:={s with toks:=s.toks+1}) ⟨es,ep,t,ho,c,hz,O⟩ hn λb h' sb S1=>?_;show wpAny _ _ (ret Value.none) _ _ _;obtain⟨es',Ki,t',e',c',z',O'⟩:=S1;exact wpAny_pure ⟨_,rfl,h h' _ sb e' ⟨es',Ki,t',rfl,c',z',O'⟩⟩
theorem fG {elt target iter ifs rest scope pos it acc env}
 (h0:codeAny (model prog w) A (.compLoop (.SetComp elt (⟨target,iter,ifs,0⟩::rest) scope pos) 0 it acc env) R s)
 (h:wpAny (model prog w) A (pyIter it) (λLV s'=>codeAny (model prog w) A (.compLoop (.SetComp elt (⟨target,iter,ifs,0⟩::rest) scope pos) 0 LV acc env) R s')
  (notedBy (model prog w) A env λx s'=>R (.error x) s') s):
 codeAny (model prog w) A (.compStart (.SetComp elt (⟨target,iter,ifs,0⟩::rest) scope pos) 0 it acc env) R s:=by
 refine codeAny_of_tree ?_;show wpAny _ _ ((compStart (.SetComp elt (⟨target,iter,ifs,0⟩::rest) scope pos) 0 it acc env).onRaise (λx=>do noteFrame x env;standAt theWindowsPlace)) _ _ s;refine wpAny_notedAt ?_;unfold compStart;show wpAny _ _ (ask>>=_) _ _ s;refine wpAny_bind (wpAny_askSetting (wpAny_ite ?_))
 split
 ·first
   |exact wpAny_bind (wpAny_pure (wpAny_pure (And.intro rfl h0)))
   |exact wpAny_pure (And.intro rfl h0)
 ·first
   |exact wpAny_bind (wpAny_rule (wpAny_bind (wpAny_standAt (wpAny_bind (wpAny_mono h (λLV s' h'=>wpAny_pure (And.intro rfl h')) λ_ _ x=>x)))))
   |(refine wpAny_bind (wpAny_rule ?_);show wpAny _ _ (standAt iter.pos>>=_) _ _ s;exact wpAny_bind (wpAny_standAt (wpAny_bind (wpAny_mono h (λLV s' h'=>wpAny_pure (And.intro rfl h')) λ_ _ x=>x))))
end
section
variable {X:Cx}{tg iter elt J8 Hk:Expr}{ifs Ip:Bj}{scope osc:Scope}{pos:Pos}{N:zF}{nl:Nat}{js:List Nat}
def Bi (J:It)(g:TG)(tt:TT)(te:TE)(W:Nat->Nat->List Int->St->Hp->Prop)(Fin:List Int->St->Hp->Prop):Prop :=
 ∀i m xs σ' H',W i m xs σ' H'->(eM xs).length<64/\((J.stop i H'/\Fin xs σ' H') \/
  (J.go i H'/\∀x H2,J.yld i H' x H2->g x σ' H2 λσ3 H3=>tt σ3 H3 λb H4 =>
   if b=true then te σ3 H4 λy H5=>∃k,y=.int k/\∃m',m'<m/\W (i+1) m' (xs++[k]) σ3 H5 else ∃m',m'<m/\W (i+1) m' xs σ3 H4))
def nV (J:It)(g:TG)(tt:TT)(wi1:TI)(g1:TG)(Kw:TT)(te:TE)(W:Nat->Nat->List Int->St->Hp->Prop)(Fin:List Int->Hp->Prop):Prop :=
 ∀i m xs σ' H',W i m xs σ' H'->(eM xs).length<64/\((J.stop i H'/\Fin xs H') \/
  (J.go i H'/\∀x H2,J.yld i H' x H2->g x σ' H2 λσ3 H3=>tt σ3 H3 λb H4 =>
   if b=true then wi1 σ3 H4 λJ1 H5=>∃W1:Nat->Nat->List Int->St->Hp->Prop,(∃m1,W1 0 m1 xs σ3 H5)/\Bi J1 g1 Kw te W1 λys σ6 H6=>∃m',m'<m/\W (i+1) m' ys σ6 H6
   else ∃m',m'<m/\W (i+1) m' xs σ3 H4))
theorem mX {pins:List (Addr×Obj)}{σ:St}{H:Hp}{s:GB}{J:It}{it:Addr}{fp:List Addr}{tn:Nat->Heap->Prop}{g g1:TG}{tt Kw:TT}{wi1:TI}{te:TE}{W:Nat->Nat->List Int->St->Hp->Prop}{Fin:List Int->Hp->Prop}
 {E:pL}{RR:Value->Addr->Result->Shared->Prop}
 (S:uR X N nl js osc scope)(hc:X.calm=true)(hg:∀C fp s H,PG (bY X N scope C fp s H) tg g)(ht:∀C fp s H,xp (bY X N scope C fp s H) ifs tt)(Tb:∀C fp s H,PI (bY X N scope C fp s H) J8 Hk wi1)(Tc:∀C fp s H,PG (bY X N scope C fp s H) J8 g1)(Iz:∀C fp s H,xp (bY X N scope C fp s H) Ip Kw)(he:∀C fp s H,PE (bY X N scope C fp s H) elt te)
 (I:Inv X pins σ H s)(T:Turn X.prog X.w X.K tg J fp it tn)(st:tn 0 s.heap)(f:∀b∈fp,cg X pins H b)(w0:∃m,W 0 m [] (σC nl js σ) H)(hW:nV J g tt wi1 g1 Kw te W Fin)(LP:∀env x,foldedSetIterable Hk env x=pure x)
 (Nx:∀(D C:Addr)(H':Hp)(s':GB)(xs:List Int)(m:vW)(ob:Obj),Inv X pins σ H' s'->H' D=none->s'.heap.get? D=some ob->jt (St.own X.w) ob (eM xs)->D≠C->s'.heap.Ns C m->cg X pins H' C->(eM xs).length<64->Fin xs H'->RR (.ref D) C (.ok .next) s'):
 wpAny (model X.prog X.w) X.A (newSet (.type "set")) (λacc s₃=>wpAny (model X.prog X.w) X.A (newFunctionEnv scope X.env.globals (dh scope.names X.env) [] X.env.qual none .none (some X.env)) (λIe s₄ =>
  codeAny (model X.prog X.w) X.A (.compStart (.SetComp elt [⟨tg,iter,ifs,0⟩,⟨J8,Hk,Ip,0⟩] scope pos) 0 (.ref it) acc {Ie with scope:=relabel scope X.env}) (RR acc Ie.locals) s₄) E s₃) E s:=by
 have HZ:∀b∈fp,b<s.heap.objs.size:=λb hb=>by
  obtain⟨o,e,_⟩:=T.obj 0 _ st b hb;exact Heap.lt_size e
 refine uj ?_;refine(wpAny_newFunctionEnv S.cell (by intro y hy;simp at hy) (λh₁ HC Hl=>?_) S.kind);dsimp only at HC Hl |-;generalize Jm:s.heap.push (St.ic X.w)=H2 at HC Hl |-
 have hC:H2.objs.size=s.heap.objs.size+1:=by rw[<-Jm,Heap.size_push]
 have IT:s.heap.objs.size≠H2.objs.size:=by rw[hC];exact Nat.ne_of_lt (Nat.lt_succ_self _)
 have below:∀b,b<s.heap.objs.size->b≠H2.objs.size/\b≠s.heap.objs.size:=λb hb=>⟨by rw[hC];exact Nat.ne_of_lt (Nat.lt_succ_of_lt hb),Nat.ne_of_lt hb⟩;have old:∀b o,s.heap.get? b=some o->h₁.get? b=some o:=λb o e=>Hl.extBut b o (below b (Heap.lt_size e)).1 (Heap.get?_push_of_some _ (Jm▸Heap.get?_push_of_some _ e));have Jn:h₁.get? s.heap.objs.size=some (St.ic X.w):=Hl.extBut _ _ IT (Heap.get?_push_of_some _ (Jm▸Heap.get?_push_size _ rfl))
 have HH:s.heap.objs.size<=H2.objs.size:=by rw[hC];exact Nat.le_succ _
 have GZ:∀y∈scope.names,y.2=.free->∃c,X.env.cells.lookup y.1=some c:=λy hy hf=>by
  have z:=S.free y hy hf;rw[<-S.out] at z;exact I.ok.has y.1 z
 have sub:∀x c,(dh scope.names X.env).lookup x=some c->X.env.cells.lookup x=some c:=λx c e=>eP GZ e
 have Ny:∀x c,(dh scope.names X.env).lookup x=some c->c<s.heap.objs.size:=λx c e=>by
  obtain⟨v,q⟩:=I.cell x c (sub x c e);exact q.lt
 have Jl:∀b∈fp,b∉dG X.stack:=λb hb z=>by
  rcases List.mem_cons.mp (I.aak b z) with q|q
  ·exact(f b hb).2.1 q
  ·exact(f b hb).2.2.1 q
 have Km:s.heap.objs.size∉dG X.stack:=λz=>by
  rcases List.mem_cons.mp (I.aak _ z) with q|q
  ·exact absurd I.lt (by rw[<-q];exact Nat.lt_irrefl _)
  ·exact I.abz (Nat.le_refl _) q
 have KN:s.heap.objs.size∉fp:=λz=>Nat.lt_irrefl _ (HZ _ z)
 have Jo:∀{H':Hp}{ob:Obj},(∀b∈fp,H' b=none)->∀b∈fp,cg (bY X N scope H2.objs.size fp s H) [(s.heap.objs.size,ob)] H' b:=λ{H' ob} hn b hb =>
  ⟨hn b hb,(below b (HZ b hb)).1,Jl b hb,.inl hb,λx c e=>(f b hb).2.2.2.2.1 x c (sub x c e),λp hp z=>by
   have e:p=(s.heap.objs.size,ob):=by
    have:p∈[(s.heap.objs.size,ob)]:=hp;simpa using this
   subst e
   exact KN (by rw[show s.heap.objs.size=b from z];exact hb)⟩
 have Ko:∀{H':Hp},H' s.heap.objs.size=none->cg (bY X N scope H2.objs.size fp s H) [] H' s.heap.objs.size:=λ{H'} hn =>
  ⟨hn,IT,Km,.inr (Nat.le_refl _),λx c e=>Nat.ne_of_lt (Ny x c e),λp hp=>absurd (show p∈([]:List (Addr×Obj)) from hp) (by simp)⟩
 have ID:∀{σ':St}{H':Hp}{s':GB}{ob:Obj},Inv (bY X N scope H2.objs.size fp s H) [] σ' H' s'->H' s.heap.objs.size=none->s'.heap.get? s.heap.objs.size=some ob->(∃ns,jt (St.own X.w) ob ns) →
  Inv (bY X N scope H2.objs.size fp s H) [(s.heap.objs.size,ob)] σ' H' s':=λ{σ' H' s' ob} I' hn hl sA=>I'.aah λp hp=>by
  have e:p=(s.heap.objs.size,ob):=by simpa using hp
  subst e;exact⟨hl,hn,IT,Km,λv z=>let⟨_,es,ep,t,e,_⟩:=sA;by rw[e] at z;cases z⟩
 have iA:∀s₃:Shared,s₃={s with heap:=h₁,toks:=s.toks+([]:List (Str×Value)).length} →
  codeAny (model X.prog X.w) X.A (.compLoop (.SetComp elt [⟨tg,iter,ifs,0⟩,⟨J8,Hk,Ip,0⟩] scope pos) 0 (.ref it) (.ref s.heap.objs.size) (compEnvC scope (dh scope.names X.env) H2.objs.size X.env))
   (RR (.ref s.heap.objs.size) H2.objs.size) s₃:=by
  rintro s₃ rfl;obtain⟨m0,w0⟩:=w0;have I0:Inv (bY X N scope H2.objs.size fp s H) [] (σC nl js σ) H {s with heap:=h₁,toks:=s.toks+([]:List (Str×Value)).length}:=mz S I f HZ HH old HC
  refine lB (λn s'=>∃i σ' H' xs ob,Inv (bY X N scope H2.objs.size fp s H) [(s.heap.objs.size,ob)] σ' H' s'/\tn i s'.heap/\(∀b∈fp,H' b=none)/\jt (St.own X.w) ob (eM xs)/\W i n xs σ' H') (LP _) ?_ m0
   ⟨0,σC nl js σ,H,[],St.ic X.w,ID I0 (I.hok.fresh (Nat.le_refl _)) Jn ⟨[],sv X.w⟩,T.keep _ _ _ st λb _ o e=>old b o e,λb hb=>(f b hb).1,sv X.w,w0⟩
  rintro n s' ⟨i,σ',H',xs,ob,I',Hz,KO,rv,w'⟩;obtain⟨hz,hw⟩:=hW i n xs σ' H' w'
  rcases hw with⟨stop,fin⟩|⟨go,step⟩
  ·refine wpAny_mono (T.done (bY X N scope H2.objs.size fp s H) rfl rfl rfl hc i _ s' σ' H' (λ_ _=>False) I' (Jo KO) Hz stop) (λr s1 z'=>?_) λ_ _ z=>z;obtain⟨hr,I1⟩:=z';subst hr;obtain⟨p1,p2,_⟩:=I1.pin (s.heap.objs.size,ob) (by show _∈([]:List (Addr×Obj))++[_];simp);have u1:Un (dG X.stack) fp H H' s.heap s1.heap:=I1.base;have I3:Inv X pins σ H' s1:=I.abl I1.os u1 I1.hok I1.bare λb hb=>⟨(f b hb).2.2.2.1,(f b hb).2.1,(f b hb).2.2.2.2.1,(f b hb).2.2.2.2.2⟩;obtain⟨mm,Nz,_⟩:=I1.loc;exact Nx _ _ H' s1 xs mm ob I3 p2 p1 rv IT Nz (I.aaJ HH I1.free) hz fin
  ·refine wpAny_mono (T.item (bY X N scope H2.objs.size fp s H) rfl rfl rfl hc i _ s' σ' H' (λ_ _=>False) I' (Jo KO) Hz go) (λr s1 z'=>?_) λ_ _ z=>z;obtain⟨u,hr,h4⟩:=z';subst hr;refine wpAny_mono h4 (λ_ s2 z'=>?_) λ_ _ z=>z;obtain⟨x,KP,I2,r2,y2,HG,NA⟩:=z';have NB:=I2.pinned (Jo NA) (T.obj _ _ HG);refine wpAny_mono (hg _ _ _ _ _ s2 σ' KP x u _ NB r2 (step x KP y2)) (λ_ s3 z'=>?_) λ_ _ z=>z;obtain⟨σ3,H3,I3,q3⟩:=z';refine wpAny_mono (ht _ _ _ _ _ s3 σ3 H3 _ I3 q3) (λok s4 z'=>?_) λ_ _ z=>z;obtain⟨H4,I4,q4⟩:=z'
   have JE:∀{s5:GB}{H5:Hp}{σ5:St}{WZ:Obj},Inv (bY X N scope H2.objs.size fp s H) ([(s.heap.objs.size,WZ)]++c8 fp s2.heap) σ5 H5 s5->tn (i+1) s5.heap/\∀b∈fp,H5 b=none:=λ{s5 H5 σ5 WZ} I5 =>
    ⟨T.keep _ _ _ HG λb hb o e=>(I5.pin (b,o) (List.mem_append_right _ (List.mem_append_right _ (b0 hb e)))).1,λb hb=>by
     obtain⟨o,e,d⟩:=T.obj _ _ HG b hb
     exact(I5.pin (b,o) (List.mem_append_right _ (List.mem_append_right _ (b0 hb e)))).2.1⟩
   cases ok with
   |false =>
    rw[if_neg Bool.false_ne_true] at q4 |-;obtain⟨m',hm,w4⟩:=q4;exact⟨m',hm,i+1,σ3,H4,xs,ob,I4.aai,(JE I4).1,(JE I4).2,rv,w4⟩
   |true =>
    rw[if_pos rfl] at q4 |-;refine wpAny_mono (Tb _ _ _ _ _ s4 σ3 H4 _ I4 q4) (λv s5 h5=>wpAny_holding (wpAny_mono h5 (λLr s6 h6=>?_) λ_ _ z=>z)) λ_ _ z=>z;obtain⟨ZQ,MV,W0,J1,H6,e,I6,T1,W3,f6,W1,⟨m1,w1⟩,ZR⟩:=h6;subst e;have pl:∀{s7:GB}{H7:Hp}{σ7:St}{JF:Obj},Inv (bY X N scope H2.objs.size fp s H) ([(s.heap.objs.size,JF)]++c8 fp s2.heap) σ7 H7 s7->∀p∈c8 fp s2.heap,s7.heap.get? p.1=some p.2/\H7 p.1=none/\p.1≠H2.objs.size/\p.1∉dG X.stack/\∀v,p.2.data≠.cell v:=λI7 p hp=>I7.pin p (List.mem_append_right _ (List.mem_append_right _ hp))
    have Td:∀{H7:Hp}{JF:Obj},(∀b∈MV,H7 b=none)->∀b∈MV,cg (bY X N scope H2.objs.size fp s H) ([(s.heap.objs.size,JF)]++c8 fp s2.heap) H7 b:=λ{H7 JF} hn b hb=>by
     obtain⟨g0,Sm,g2,g3,g4,g5⟩:=f6 b hb;refine⟨hn b hb,Sm,g2,g3,g4,λp hp=>?_⟩
     rcases List.mem_append.mp (show p∈[(s.heap.objs.size,JF)]++c8 fp s2.heap from hp) with z|z
     ·have e:p=(s.heap.objs.size,JF):=by simpa using z
      subst e;exact g5 (s.heap.objs.size,ob) (List.mem_append_right _ (List.mem_append_left _ (by simp)))
     ·exact g5 p (List.mem_append_right _ (List.mem_append_right _ z))
    refine wpAny_runOwn ?_;show codeAny _ X.A _ _ s6
    have K6:codeAny (model X.prog X.w) X.A (.compLoop (.SetComp elt [⟨tg,iter,ifs,0⟩,⟨J8,Hk,Ip,0⟩] scope pos) 1 (.ref ZQ) (.ref s.heap.objs.size) (compEnvC scope (dh scope.names X.env) H2.objs.size X.env))
     (λr s'=>match r with
      | .ok f=>∃m,m<n/\∃i σ' H' xs ob,Inv (bY X N scope H2.objs.size fp s H) [(s.heap.objs.size,ob)] σ' H' s'/\tn i s'.heap/\(∀b∈fp,H' b=none)/\jt (St.own X.w) ob (eM xs)/\W i m xs σ' H'
      | .error e=>cameBackBy (model X.prog X.w) X.A (compEnvC scope (dh scope.names X.env) H2.objs.size X.env) (λ_ _=>False) e s') s6:=by
     refine m8 (λn' s'=>∃j σ' H' W4 W5,Inv (bY X N scope H2.objs.size fp s H) ([(s.heap.objs.size,W5)]++c8 fp s2.heap) σ' H' s'/\W0 j s'.heap/\(∀b∈MV,H' b=none)/\jt (St.own X.w) W5 (eM W4)/\W1 j n' W4 σ' H') ?_ m1
      ⟨0,σ3,H6,xs,ob,I6,W3,λb hb=>(f6 b hb).1,rv,w1⟩
     rintro n' s7 ⟨j,σ7,H7,Rn,JF,I7,W6,W7,Tf,w7⟩;obtain⟨ZS,ZT⟩:=ZR j n' Rn σ7 H7 w7
     rcases ZT with⟨stop,m',hm,fin⟩|⟨go,step⟩
     ·refine wpAny_mono (T1.done (bY X N scope H2.objs.size fp s H) rfl rfl rfl hc j _ s7 σ7 H7 (λ_ _=>False) I7 (Td W7) W6 stop) (λr s8 z'=>?_) λ_ _ z=>z;obtain⟨hr,I8⟩:=z';subst hr;have bk:=JE I8;exact⟨m',hm,i+1,σ7,H7,Rn,JF,I8.aai,bk.1,bk.2,Tf,fin⟩
     ·refine wpAny_mono (T1.item (bY X N scope H2.objs.size fp s H) rfl rfl rfl hc j _ s7 σ7 H7 (λ_ _=>False) I7 (Td W7) W6 go) (λr s8 z'=>?_) λ_ _ z=>z;obtain⟨u8,hr,h8⟩:=z';subst hr;refine wpAny_mono h8 (λ_ s9 z'=>?_) λ_ _ z=>z;obtain⟨x9,H9,I9,r9,y9,Tg,ZU⟩:=z';have ZV:=I9.pinned (Td ZU) (T1.obj _ _ Tg);refine wpAny_mono (Tc _ _ _ _ _ s9 σ7 H9 x9 u8 _ ZV r9 (step x9 H9 y9)) (λ_ sa z'=>?_) λ_ _ z=>z;obtain⟨σa,Ha,Ia,qa⟩:=z';refine wpAny_mono (Iz _ _ _ _ _ sa σa Ha _ Ia qa) (λok sb z'=>?_) λ_ _ z=>z;obtain⟨Hb,Ib,qb⟩:=z'
      have JG:∀{sc:GB}{Hc:Hp},Inv (bY X N scope H2.objs.size fp s H) (([(s.heap.objs.size,JF)]++c8 fp s2.heap)++c8 MV s9.heap) σa Hc sc->W0 (j+1) sc.heap/\∀b∈MV,Hc b=none:=λ{sc Hc} Ic =>
       ⟨T1.keep _ _ _ Tg λb hb o e=>(Ic.pin (b,o) (List.mem_append_right _ (List.mem_append_right _ (b0 hb e)))).1,λb hb=>by
        obtain⟨o,e,d⟩:=T1.obj _ _ Tg b hb
        exact(Ic.pin (b,o) (List.mem_append_right _ (List.mem_append_right _ (b0 hb e)))).2.1⟩
      cases ok with
      |false =>
       rw[if_neg Bool.false_ne_true] at qb |-;obtain⟨m',hm,wb⟩:=qb;exact⟨m',hm,j+1,σa,Hb,Rn,JF,Ib.aai,(JG Ib).1,(JG Ib).2,Tf,wb⟩
      |true =>
       rw[if_pos rfl] at qb |-;refine wpAny_mono (he _ _ _ _ _ sb σa Hb _ Ib qb) (λvc sc z'=>?_) λ_ _ z=>z;obtain⟨yc,Hc,Ic,rc,kc,ec,m',hm,wc⟩:=z';obtain⟨ZW,ZX⟩:=JG Ic;have Id:=Ic.aai;obtain⟨p1,p2,_⟩:=Id.pin (s.heap.objs.size,JF) (List.mem_append_right _ (List.mem_append_left _ (by simp)));have ZY:s.heap.objs.size∉MV:=λhb=>(f6 _ hb).2.2.2.2.2 (s.heap.objs.size,ob) (List.mem_append_right _ (List.mem_append_left _ (by simp))) rfl;subst ec;obtain⟨tk,rfl⟩:=(show ∃t,vc=Value.int kc t from rc);refine CA p1 Tf (Nat.lt_trans ZS (by decide)) λh' W8 LC LL sN=>?_;have ZZ:Inv (bY X N scope H2.objs.size fp s H) [] σa Hc {sc with heap:=h',toks:=sc.toks+1}:=(Id.aah (pins':=[]) λp hp=>absurd hp (by simp)).turned (λc o hc e=>(LC.2 c hc).trans e) (Ko p2).1 (Ko p2).2.1 (Ko p2).2.2.2.1 (Ko p2).2.2.2.2.1 (Ko p2).2.2.2.2.2;refine⟨m',hm,j+1,σa,Hc,Rn++[kc],W8,ZZ.aah λp hp=>?_,T1.keep _ _ _ ZW λb hb o e=>(LC.2 b λz=>ZY (z▸hb)).trans e,ZX,by rw[um];exact sN,wc⟩
       rcases List.mem_append.mp hp with z|z
       ·have e:p=(s.heap.objs.size,W8):=by simpa using z
        subst e;exact⟨LL,p2,IT,Km,λv z=>let⟨es,ep,t,e,_⟩:=sN;by rw[e] at z;cases z⟩
       ·obtain⟨a1,a2,a3,a4,a5⟩:=pl Id p z;exact⟨(LC.2 p.1 λe=>KN (e▸(mO z).1)).trans a1,a2,a3,a4,a5⟩
    exact fP K6 (T1.self X.A 0 _ _ _ W3 K6)
 exact fG (iA _ rfl) (T.self X.A 0 _ _ _ (T.keep _ _ _ st λb _ o e=>old b o e) (iA _ rfl))
def Cb (wi:TI)(g:TG)(tt:TT)(wi1:TI)(g1:TG)(Kw:TT)(te:TE)(nl:Nat)(js:List Nat):TE:=λσ H Q=>wi σ H λJ H1 =>
 ∃W:Nat->Nat->List Int->St->Hp->Prop,(∃m,W 0 m [] (σC nl js σ) H1)/\nV J g tt wi1 g1 Kw te W λxs H'=>∀(D:Addr)(ms:List Int),H' D=none->ms.Pairwise (· < ·)->(∀x,x∈ms↔x∈xs)->Q (.ref D) (upd H' D (.lst (ms.map V.int)))
theorem vX {wi wi1:TI}{g g1:TG}{tt Kw:TT}{te:TE}{p HI:Pos}(S:uR X N nl js osc scope)(hc:X.calm=true)(NM:Gl X "sorted")(NO:X.mg "sorted"=none)(hi:PI X tg iter wi)(hg:∀C fp s H,PG (bY X N scope C fp s H) tg g)(ht:∀C fp s H,xp (bY X N scope C fp s H) ifs tt)
 (Tb:∀C fp s H,PI (bY X N scope C fp s H) J8 Hk wi1)(Tc:∀C fp s H,PG (bY X N scope C fp s H) J8 g1)(Iz:∀C fp s H,xp (bY X N scope C fp s H) Ip Kw)
 (he:∀C fp s H,PE (bY X N scope C fp s H) elt te)(hs:∀x,foldedSetIterable iter X.env x=pure x:=by intro _;rfl)(LP:∀env x,foldedSetIterable Hk env x=pure x:=by intro _ _;rfl):
 PE X (.Call (.Name "sorted" p) [.SetComp elt [⟨tg,iter,ifs,0⟩,⟨J8,Hk,Ip,0⟩] scope pos] [] HI) (Cb wi g tt wi1 g1 Kw te nl js):=by
 intro pins s σ H Q I h;refine wpAny_Call_Name_kw (cT I NM NO (by rfl) ?_ (by decide) (by decide));refine callWith_builtin1 ?_ (aK rfl) rfl;rw[aK rfl];show wpAny _ _ (spliced ((false,eval (.SetComp elt [⟨tg,iter,ifs,0⟩,⟨J8,Hk,Ip,0⟩] scope pos) X.env):: backTo HI (starEach [] X.env))) _ _ s;refine Calls.spliced_cons ?_;show wpAny _ _ (comprehension (.SetComp elt [⟨tg,iter,ifs,0⟩,⟨J8,Hk,Ip,0⟩] scope pos) scope X.env _ (newSet (.type "set")) false (eval iter X.env)) _ _ s;refine wpAny_comprehension_free (use:=none) rfl hs (gS S I) S.kind S.names (bA (hi pins s σ H _ I h) λv s1 h1=>bA h1 λLr s2 h2=>?_);obtain⟨it,fp,tn,J,H2,e,I2,T,HG,f2,W,w0,hW⟩:=h2;subst e;refine mX (RR:=λacc C=>compPost (model X.prog X.w) X.A X.xe none _ acc C) S hc hg ht Tb Tc Iz he I2 T HG f2 w0 hW LP ?_;intro D C H' s' xs m ob I3 hD oD sA Z0 hn fC hz fin;refine⟨m,hn,λh' sb=>?_⟩;have I4:=cj I3 fC sb;obtain⟨es,ep,t,rfl,c,z,O⟩:=sA;have SI:St.iS (St.own X.w) h' D (eM xs):=⟨es,ep,t,(sb.2 D Z0).trans oD,c,z,O⟩;refine Calls.spliced_nil ?_;have hd:=I.ok.hd hc;refine St.oC (s:={s' with heap:=h'}) hd SI hz λh2 S0 D2 out ms c2 i1 i2 i3 Z1 fr k2 _=>?_
 have hlen:(ms.map V.int).length<=sizeLine:=by
  rw[List.length_map,i2.length_eq,sizeLine_eq];omega
 exact⟨.ref D2,_,I4.newObj (t':=S0) (o:=.lst (ms.map V.int)) k2 fr ⟨hlen,out.toList,c2,qX i1,by simpa using Z1⟩,rfl,
  fin D2 ms (I4.abq fr) (AJ i3 (i2.symm.nodup (gU xs))) λx=>(i2.mem_iff).trans (iw xs x)⟩
end
end L2
namespace K75
open PySem L2 PySem.W Nm Srt
abbrev Gi:Stmt:=(aO 46)
abbrev Er:Stmt:=(aO 47)
theorem FN:yJ vb vb (ai Gi):=dE (by decide +kernel)
theorem Dz:yJ ["edges","odd","knots"] yT (ai Er):=dE (by decide +kernel)
def oa (H:Hp)(ys:List V)(es:Eg):Prop:=Paired (λy (e:Int×Int)=>∃a,y=.ref a/\H a=some (bO e.1 e.2)) ys es
variable {es:Eg}
theorem oa.same {H H':Hp}{ys:List V}(h:oa H ys es)(k:aC H H'):oa H' ys es:=Paired.aat h λ_ _ ⟨a,e,g⟩=>⟨a,e,k _ _ g⟩
def zi:Sp:=λvs H Q _=>∃(a:Addr)(e:Int×Int),vs=[.ref a]/\H a=some (bO e.1 e.2)/\e.1≠e.2/\0<=e.1/\0<=e.2/\Q (.bl true) H
def Cy:Sp:=λvs H Q _=>∃(a b:Addr)(ys:List V)(es:Eg)(od:List Int),vs=[.ref a,.ref b]/\H a=some (.lst ys)/\oa H ys es/\H b=some (.lst (od.map V.int))/\FA es od /\
 ∀H' D ks,aC H H'->H' D=some (.lst (ks.map V.int))->Kn es ks->Q (.ref D) H'
def gN (es:Eg):List Int:=es.flatMap λe=>[e.1,e.2]
theorem mH {k:Int}:k∈gN es↔k∈iL es:=by
 unfold gN iL;rw[List.mem_flatMap,List.mem_append,List.mem_map,List.mem_map];constructor
 ·rintro⟨e,he,hk⟩
  rcases List.mem_cons.mp hk with z|z
  ·exact .inl ⟨e,he,z.symm⟩
  ·exact .inr ⟨e,he,(List.mem_singleton.mp z).symm⟩
 ·rintro(⟨e,he,rfl⟩|⟨e,he,rfl⟩)
  ·exact⟨e,he,List.mem_cons_self⟩
  ·exact⟨e,he,List.mem_cons_of_mem _ (List.mem_singleton.mpr rfl)⟩
theorem ij {xs nm:List Int}(h:∀x∈xs,x∈nm):(eM xs).length<=nm.length:=dX (gU xs) λx hx=>h x ((iw xs x).mp hx)
theorem ze {K:PySem.W.Frag}{a:Addr}{ys:List V}{H:Hp}{F:List Int->Hp->Prop}(ha:H a=some (.lst ys))(hy:oa H ys es)(few:∃nm:List Int,nm.length<=7/\∀k∈iL es,k∈nm)(q:F (gN es) H):
 ∃W:Nat->Nat->List Int->St->Hp->Prop,(∃m,W 0 m [] [none,none] H)/\nV (zC K a) (bg 0) GC (Ba K (d9 0)) (bg 1) GC (d9 1) W F:=by
 obtain⟨nm,n7,hn⟩:=few;have yl:=hy.length
 have sub:∀{i:Nat}{x:Int},x∈gN (es.take i)->x∈nm:=λ{i x} hx=>hn x (mH.mp (by
  obtain⟨e,he,z⟩:=List.mem_flatMap.mp hx
  exact List.mem_flatMap.mpr ⟨e,List.mem_of_mem_take he,z⟩))
 refine⟨λi m xs σ H'=>m=ys.length-i/\i<=ys.length/\H'=H/\xs=gN (es.take i)/\∃o o2,σ=[o,o2],⟨ys.length,by simp,Nat.zero_le _,rfl,rfl,_,_,rfl⟩,?_⟩;rintro i m xs σ H' ⟨rfl,hi,rfl,rfl,o,o2,rfl⟩;refine⟨Nat.lt_of_le_of_lt (ij λx hx=>sub hx) (by omega),?_⟩
 by_cases GR:i<ys.length
 ·refine .inr ⟨⟨ys,ys[i],aN.of ha,by simp[GR]⟩,λx H2 hx=>?_⟩;obtain⟨rfl,hx⟩:=hx;obtain⟨e,ee,t,rfl,ht⟩:=aW hy (hx ys (aN.of ha))
  have Il:gN (es.take (i+1))=gN (es.take i)++[e.1,e.2]:=by
   rw[List.take_add_one,ee];unfold gN;rw[List.flatMap_append];rfl
  have Ti:∀{j:Nat}{x:Int},x∈gN (es.take i)++[e.1,e.2].take j->x∈nm:=λ{j x} hx=>sub (i:=i+1) (by
   rw[Il]
   rcases List.mem_append.mp hx with z|z
   ·exact List.mem_append_left _ z
   ·exact List.mem_append_right _ (List.mem_of_mem_take z))
  refine⟨_,rfl,t,rfl,⟨_,bo.of ht⟩,λj m xs σ H'=>m=2-j/\j<=2/\H'=H2/\xs=gN (es.take i)++[e.1,e.2].take j/\∃o2,σ=[some (.ref t),o2],⟨2,by simp,by decide,rfl,by simp,_,rfl⟩,?_⟩;rintro j m xs σ H' ⟨rfl,hj,rfl,rfl,o3,rfl⟩;refine⟨Nat.lt_of_le_of_lt (ij λx hx=>Ti hx) (by omega),?_⟩
  by_cases Z2:j<2
  ·have ej:∃k,[e.1,e.2][j]?=some k/\[V.int e.1,V.int e.2][j]?=some (V.int k):=by
    rcases(by omega:j=0\/j=1) with rfl|rfl
    ·exact⟨_,rfl,rfl⟩
    ·exact⟨_,rfl,rfl⟩
   obtain⟨k,k1,k2⟩:=ej;refine .inr ⟨⟨_,_,bo.of ht,k2⟩,λx H3 hx=>?_⟩;obtain⟨rfl,hx⟩:=hx;have hx:=hx _ (bo.of ht);rw[k2] at hx
   cases hx
   refine⟨_,rfl,k,rfl,2-(j+1),by omega,rfl,Z2,rfl,?_,_,rfl⟩;rw[List.take_add_one,k1,List.append_assoc];rfl
  ·have:j=2:=by omega
   subst this;exact .inl ⟨⟨_,bo.of ht,Nat.le_refl _⟩,ys.length-(i+1),by omega,rfl,GR,rfl,Il.symm,_,_,rfl⟩
 ·have:i=ys.length:=by omega
  subst this;refine .inl ⟨⟨ys,aN.of ha,Nat.le_refl _⟩,?_⟩;rw[yl,List.take_length];exact q
theorem jg (k:Int):∀ks:List Int,iK (.int k) (ks.map V.int)=decide (k∈ks)
 |[]=>rfl
 |x::ks=>by
  have ih:=jg k ks;unfold iK at ih |-;rw[List.map_cons,List.any_cons,ih]
  have e:zr (.int x) (.int k)=decide (x=k):=by
   show(x==k)=_
   by_cases z:x=k <;> simp[z]
  rw[e]
  by_cases z:x=k
  ·simp[z]
  ·by_cases y:k∈ks
   ·simp[y]
   ·simp[y,z,Ne.symm z]
theorem AV {k:Int}{ks:List Int}(h:k∈ks):iK (.int k) (ks.map V.int)=true:=by rw[jg];exact decide_eq_true h
theorem gB (ks:List Int):(ks.map V.int).all iJ=true:=by
 rw[List.all_eq_true];intro x hx;obtain⟨k,_,rfl⟩:=List.mem_map.mp hx;rfl
theorem Bh {ns:List Int}(h:ns.Nodup):u9 ns=ns.length:=Nat.le_antisymm (sh ns) (dX h λx hx=>(iw ns x).mpr hx)
variable {P:vB}{w:World}{K:PySem.W.Frag}{mg:vW}{base:Heap}
variable {f:Addr}{fd:EK}
theorem C7 {fw:Addr}{HD:EK}(F:vM K "is_edge" "is_edge" Gi f fd)(Hu:mg "isinstance"=none)(GS:mg "tuple"=none)(GJ:mg "len"=none)
 (FW:Bp P w K mg base (bf P w) 1 fw HD vb FY)(bW:L2.ay K HD vb [])(mW:mg "is_whole"=some (.ref fw))(kW:keepIn K (.ref fw)=true):Bp P w K mg base (bf P w) 2 f fd vb zi:=by
 refine F.okN FN (λvs H Q E h=>?_) (λGN A outer s H vs Q E hr h=>?_)
 ·obtain⟨a,e,rfl,_⟩:=h;rfl
 ·obtain⟨a,⟨x,y⟩,rfl,ha,ne,x0,y0,q⟩:=h;have ha:H a=some (bO x y):=ha;have GU:wK 1 _:=hr
  refine⟨_,(aj (bw (PW.pt (dz (bB (bJ (az ba (by rfl) Hu (by rfl) (bF (pv 0) (bF (c9 (by rfl) GS (by rfl) (show aE (.ty "tuple") (.type "tuple") from rfl)) af))))) (cR (@aH _ _ _ _ _ _ _ _ fM (az aJ (by rfl) GJ PySem.boot_len (@ak _ _ _ _ _ (pv 0) af rfl)) ao (aG _))))) (aq (aA fX)) aM)
   (aq (aA (cC (ax FW GU (by rfl) mW kW bW .nil ag (@ak _ _ _ _ _ (@aZ _ _ _ _ _ _ _ a9 (pv 0) ao (λ_ _=>rfl)) af rfl)) (cC (ax FW GU (by rfl) mW kW bW .nil ag (@ak _ _ _ _ _ (@aZ _ _ _ _ _ _ _ a9 (pv 0) ao (λ_ _=>rfl)) af rfl)) (cC (@bH _ _ _ _ _ _ _ _ xP (@aZ _ _ _ _ _ _ _ a9 (pv 0) ao (λ_ _=>rfl)) ao (aG _)) (cC (@bH _ _ _ _ _ _ _ _ xP (@aZ _ _ _ _ _ _ _ a9 (pv 0) ao (λ_ _=>rfl)) ao (aG _)) (fF (@bH _ _ _ _ _ _ _ _ fM (@aZ _ _ _ _ _ _ _ a9 (pv 0) ao (λ_ _=>rfl)) (@aZ _ _ _ _ _ _ _ a9 (pv 0) ao (λ_ _=>rfl)) (aG _)))))))))),?_⟩
  refine⟨_,rfl,.ref a,.ty "tuple",_,_,true,rfl,rfl,.of (.tup ha),rfl,_,rfl,bx ?_⟩;refine⟨_,rfl,a,_,rfl,.inr (bo.of ha),rfl,_,rfl,bx ?_⟩;refine⟨_,rfl,a,_,0,_,rfl,rfl,bo.of ha,a0 _ _,.int x,"int",rfl,.int x,_,rfl,b7 ?_⟩;refine⟨_,rfl,a,_,1,_,rfl,rfl,bo.of ha,a1 _ _,.int y,"int",rfl,.int y,_,rfl,b7 ?_⟩;refine⟨_,rfl,a,_,0,_,rfl,rfl,bo.of ha,a0 _ _,_,_,rfl,rfl,_,rfl,?_⟩;rw[decide_eq_true (show(0:Int)<=x from x0)];refine b7 ⟨_,rfl,a,_,1,_,rfl,rfl,bo.of ha,a1 _ _,_,_,rfl,rfl,_,rfl,?_⟩;rw[decide_eq_true (show(0:Int)<=y from y0)];refine b7 ⟨_,rfl,a,_,0,_,rfl,rfl,bo.of ha,a0 _ _,_,rfl,a,_,1,_,rfl,rfl,bo.of ha,a1 _ _,rfl,?_⟩;rw[decide_eq_false (show ¬V.int x=V.int y from λz=>ne (by injection z))];exact q
theorem DC {fe fw:Addr}{JC HD:EK}{tP:Tok}(F:vM K "checked_web" "checked_web" Er f fd)(Hu:mg "isinstance"=none)(GO:mg "list"=none)(GJ:mg "len"=none)(Ht:mg "all"=none)(GL:mg "sorted"=none)(Hh:mg "set"=none)(LS:mg "MOST_PLACES"=some (.int 60 tP))
 (Z3:Bp P w K mg base (bf P w) 2 fe JC vb zi)(Z4:L2.ay K JC vb [])(Z5:mg "is_edge"=some (.ref fe))(Z6:keepIn K (.ref fe)=true)
 (FW:Bp P w K mg base (bf P w) 1 fw HD vb FY)(bW:L2.ay K HD vb [])(mW:mg "is_whole"=some (.ref fw))(kW:keepIn K (.ref fw)=true):Bp P w K mg base (bf P w) 3 f fd yT Cy:=by
 refine F.okN Dz (λvs H Q E h=>?_) (λGN A outer s H vs Q E hr h=>?_)
 ·obtain⟨a,b,ys,es,od,rfl,_⟩:=h;rfl
 ·obtain⟨a,b,ys,es,od,rfl,ha,hy,hb,W,q⟩:=h;have HV:wK 2 _:=hr;have GU:wK 1 _:=HV.mono (by decide)
  refine⟨_,(aj (bw (PW.pt (dz (bB (bJ (az ba (by rfl) Hu (by rfl) (bF (pv 0) (bF (c9 (by rfl) GO (by rfl) (show aE (.ty "list") (.type "list") from rfl)) af))))) (dz (bB (oX jK jK ao (az aJ (by rfl) GJ PySem.boot_len (@ak _ _ _ _ _ (pv 0) af rfl)) (cB (by rfl) LS (show aE (.int 60) (.int 60 tP) from⟨_,rfl⟩)))) (cR (bB (bJ (az (iG rfl) (by rfl) Ht (by rfl) (@ak _ _ _ _ _ (bX (N:=["edge"]) (nl:=1) (js:=[]) (osc:=ai Er) ⟨rfl,rfl,by decide +kernel,by decide +kernel,by decide +kernel,rfl,.nil,by decide +kernel⟩ rfl
   (bu (pv 0))
   (λCq fq sq Hq=>av (i:=0) (by show(["edge"]:zF).Nodup;decide +kernel) rfl (Or.inl rfl) (Or.inr rfl))
   (λCq fq sq Hq=>bK)
   (λCq fq sq Hq=>(ax Z3 HV (by rfl) Z5 Z6 Z4 .nil ag (@ak _ _ _ _ _ (pv 0) af rfl)))) af rfl)))))))) (aq jV) aM)
   (aj (@aY _ _ 2 _ _ _ _ Dz.nd rfl (Or.inr rfl) (vX (wi1:=Ba K (d9 0)) (N:=["edge","knot"]) (nl:=2) (js:=[]) (osc:=ai Er) ⟨rfl,rfl,by decide +kernel,by decide +kernel,by decide +kernel,rfl,.nil,by decide +kernel⟩ rfl (by rfl) GL (bu (pv 0)) (λCq fq sq Hq=>av (i:=0) (by show(["edge","knot"]:zF).Nodup;decide +kernel) rfl (Or.inl rfl) (Or.inr rfl)) (λCq fq sq Hq=>bK) (λCq fq sq Hq=>(wF (X:=bY _ ["edge","knot"] _ Cq fq sq Hq) (pv (X:=bY _ ["edge","knot"] _ Cq fq sq Hq) 0))) (λCq fq sq Hq=>av (i:=1) (by show(["edge","knot"]:zF).Nodup;decide +kernel) rfl (Or.inl rfl) (Or.inr rfl)) (λCq fq sq Hq=>bK) (λCq fq sq Hq=>pv 1)) rfl (Or.inl rfl))
   (aj (bw (PW.pt (dz (bB (bJ (az ba (by rfl) Hu (by rfl) (bF (pv 1) (bF (c9 (by rfl) GO (by rfl) (show aE (.ty "list") (.type "list") from rfl)) af))))) (cR (bB (bJ (az (iG rfl) (by rfl) Ht (by rfl) (@ak _ _ _ _ _ (bX (N:=["knot","knots"]) (nl:=1) (js:=[2]) (osc:=ai Er) ⟨rfl,rfl,by decide +kernel,by decide +kernel,by decide +kernel,rfl,(.cons ⟨rfl,by decide +kernel⟩ .nil),by decide +kernel⟩ rfl
    (bu (pv 1))
    (λCq fq sq Hq=>av (i:=0) (by show(["knot","knots"]:zF).Nodup;decide +kernel) rfl (Or.inl rfl) (Or.inr rfl))
    (λCq fq sq Hq=>bK)
    (λCq fq sq Hq=>(cC (ax FW GU (by rfl) mW kW bW .nil ag (@ak _ _ _ _ _ (pv 0) af rfl)) (fF (@bH _ _ _ _ _ _ _ _ (show dC _ _ (Ah K false) from eJ) (pv 0) (pv 1) (by rfl)))))) af rfl))))))) (aq jV) aM)
   (aj (bw (PW.pt (dz (@aH _ _ _ _ _ _ _ _ fM (uI (pv 1) rfl (by rfl) GJ (by rfl) Hh) (az aJ (by rfl) GJ PySem.boot_len (@ak _ _ _ _ _ (pv 1) af rfl)) (aG _)) (cR (@aH _ _ _ _ _ _ _ _ dF (@aD _ _ _ _ _ _ _ _ cx (az aJ (by rfl) GJ PySem.boot_len (@ak _ _ _ _ _ (pv 1) af rfl)) ao) ao (aG _))))) (aq jV) aM)
   (aq (aA (pv 2))))))),?_⟩
  have yl:=hy.length;refine⟨_,rfl,.ref a,.ty "list",_,_,true,rfl,rfl,.of (.lst ha),rfl,_,rfl,bx ?_⟩;refine⟨_,rfl,a,_,rfl,.inl (aN.of ha),_,_,rfl,rfl,_,rfl,?_⟩;rw[yl,decide_eq_true (show(1:Int)<=(es.length:Nat) from by have:=W.lo;omega)];refine b7 ⟨_,_,rfl,rfl,_,rfl,?_⟩;rw[decide_eq_true (show((es.length:Nat):Int)<=60 from by have:=W.hi;omega)];refine bx ?_;refine⟨_,rfl,a,rfl,⟨_,aN.of ha⟩,?_⟩;refine c6 (a:=a) (xs:=ys) (rest:=[]) (λj us H'=>H'=H/\us=(List.replicate j true).map V.bl) ⟨rfl,rfl⟩ (λj us H' hj h=>?_) (λj x us H' M hj hx h hM=>?_) (λus H' h=>?_)
  ·obtain⟨rfl,rfl⟩:=h;refine⟨?_,aN.of ha⟩;rw[List.length_map,List.length_replicate];exact Nat.lt_of_le_of_lt (Nat.le_trans hj (by rw[yl];exact W.hi)) (by decide)
  ·obtain⟨rfl,rfl⟩:=h;obtain⟨e,ee,t,rfl,ht⟩:=aW hy hx;obtain⟨h1,h2,h3⟩:=W.ne e (List.mem_of_getElem? ee);refine ku ⟨_,rfl,t,e,rfl,ht,h1,h2,h3,hM _ _ ⟨rfl,?_⟩⟩;rw[List.replicate_succ',List.map_append];rfl
  obtain⟨rfl,rfl⟩:=h;intro D1 Z7;have s1:=ah (o:=.lst ((List.replicate ys.length true).map V.bl)) Z7;refine⟨D1,_,List.replicate ys.length true,rfl,aN.of ae,kn _,_,rfl,?_⟩;rw[show(List.replicate ys.length true).all id=true from by simp];refine bx ?_;generalize upd H' D1 _=H1 at s1 |-;refine⟨_,rfl,a,rfl,⟨_,aN.of (s1 _ _ ha)⟩,?_⟩;refine ze (s1 _ _ ha) (hy.same s1) W.few λD2 ks K2 up mem=>?_;have hk:Kn es ks:=⟨up,λx=>(mem x).trans mH⟩;have s2:=ah (o:=.lst (ks.map V.int)) K2;have e2:upd H1 D2 (.lst (ks.map V.int)) D2=some (.lst (ks.map V.int)):=ae;generalize upd H1 D2 _=H2 at s2 e2 |-;have J9:=s1.trans s2;refine⟨_,rfl,.ref b,.ty "list",_,_,true,rfl,rfl,.of (.lst (J9 _ _ hb)),rfl,_,rfl,bx ?_⟩;refine⟨_,rfl,b,rfl,⟨_,aN.of (J9 _ _ hb)⟩,?_⟩;have ol:od.length<=7:=Nat.le_trans (dX W.nd λk SY=>(hk.mem k).mpr (W.sub k SY)) (hk.len W);refine c6 (a:=b) (xs:=od.map V.int) (rest:=[some (.ref D2)]) (λj us H'=>H'=H2/\us=(List.replicate j true).map V.bl) ⟨rfl,rfl⟩ (λj us H' hj h=>?_) (λj x us H' M hj hx h hM=>?_) (λus H' h=>?_)
  ·obtain⟨rfl,rfl⟩:=h;rw[List.length_map] at hj;refine⟨?_,aN.of (J9 _ _ hb)⟩;rw[List.length_map,List.length_replicate];exact Nat.lt_of_le_of_lt (by omega:_<=7) (by decide)
  ·obtain⟨rfl,rfl⟩:=h;rw[List.getElem?_map] at hx;obtain⟨k,ek,rfl⟩:=Option.map_eq_some_iff.mp hx;have N4:iK (.int k) (ks.map V.int)=true:=AV ((hk.mem k).mpr (W.sub k (List.mem_of_getElem? ek)));refine ku ⟨_,rfl,.int k,"int",rfl,.int k,_,rfl,b7 ⟨_,rfl,_,rfl,D2,_,rfl,.inl (aN.of e2),rfl,gB ks,?_⟩⟩;rw[N4];refine hM _ _ ⟨rfl,?_⟩;rw[List.replicate_succ',List.map_append];rfl
  obtain⟨rfl,rfl⟩:=h;rw[List.length_map];intro D3 N1;have s3:=ah (o:=.lst ((List.replicate od.length true).map V.bl)) N1;refine⟨D3,_,List.replicate od.length true,rfl,aN.of ae,kn _,_,rfl,?_⟩;rw[show(List.replicate od.length true).all id=true from by simp];refine bx ?_;have e3:=s3 _ _ e2;generalize upd H' D3 _=H3 at s3 e3 |-;have Kx:=J9.trans s3;refine⟨_,rfl,b,od,rfl,aN.of (Kx _ _ hb),by omega,?_⟩;refine⟨_,rfl,b,_,rfl,.inl (aN.of (Kx _ _ hb)),rfl,_,rfl,?_⟩;rw[dw,Bh W.nd,List.length_map,show(((od.length:Nat):Int)==(od.length:Nat))=true from by simp];refine bx ?_;refine⟨_,rfl,b,_,rfl,.inl (aN.of (Kx _ _ hb)),_,_,rfl,rfl,(show(0:Int)<2 by decide),rfl,_,rfl,?_⟩;rw[dw,List.length_map,show(((od.length:Nat):Int)%2==0)=false from by have:=W.odd;simp;omega];exact bx ⟨_,rfl,q _ D2 ks Kx e3 hk⟩
abbrev Gm:Stmt:=(aO 44)
theorem FK:yJ rh rh (ai Gm):=dE (by decide +kernel)
def C3 (C CF:Addr):Sp:=λvs H Q _=>∃(fl GQ:Addr)(p k:Int),vs=[.ref fl,.int k]/\H fl=some (.ins CF GQ (df p))/\FP p/\k.natAbs<128/\∀H' x,aC H H'->qe C CF H' x p (tg p [([],cm p k)])->Q (.ref x) H'
theorem D8 {fm fs C CF NN:Addr}{JD KW:EK}{tM:Tok}(F:vM K "number_sum" "number_sum" Gm f fd)(cF:BJ K mg CF)(cS:A8 K mg C)(MS:Mk K C fs)
 (Ro:Bp P w K mg base (bf P w) 4 fm JD zp (mZ CF NN))(Rp:L2.ay K JD zp [.int 1 tM])(Rq:L2.Meth K CF "made" fm)
 (Tj:Bp P w K mg base (bf P w) 6 fs KW FH (jG C CF))(LW:L2.ay K KW FH []):Bp P w K mg base (bf P w) 8 f fd rh (C3 C CF):=by
 refine F.okN FK (λvs H Q E h=>?_) (λGN A outer s H vs Q E hr h=>?_)
 ·obtain⟨fl,GQ,p,k,rfl,_⟩:=h;rfl
 ·obtain⟨fl,GQ,p,k,rfl,hf,hp,hk,q⟩:=h;have HR:wK 4 _:=hr.mono (by decide);have Tn:wK 7 _:=hr;refine⟨_,(aq (aA (gA MS Tj Tn (by rfl) cS.mgC LW .nil ag (@ak _ _ _ _ _ (pv 0) (@ak _ _ _ _ _ (@cu _ _ _ _ (@ak _ _ _ _ _ (@bh _ _ _ _ _ (@ak _ _ _ _ _ (@bh _ _ _ _ _ af) (@ak _ _ _ _ _ (fb (dvs:=[.int 1]) (pv 0) cF.cl Rq Ro HR Rp (.cons ⟨_,rfl⟩ .nil) ag (@ak _ _ _ _ _ (pv 1) af rfl)) af rfl) rfl)) af rfl)) af rfl) rfl)))),?_⟩;refine⟨_,rfl,Nat.zero_le _,λt0 LO=>?_⟩;have s1:=ah (o:=.tup []) LO;have e1:upd H t0 (.tup []) t0=some (.tup []):=ae;generalize upd H t0 _=H1 at s1 e1 |-;refine⟨_,rfl,fl,GQ,_,rfl,s1 _ _ hf,rfl,?_⟩;refine⟨_,rfl,wm (s1 _ _ hf) hp λx1 h1=>?_⟩;have s2:=ah (o:=bO (cm p k).1 (cm p k).2) h1;have e2:upd H1 x1 (bO (cm p k).1 (cm p k).2) x1=some (bO (cm p k).1 (cm p k).2):=ae;change Br _ (upd H1 x1 (bO (cm p k).1 (cm p k).2)) _;generalize upd H1 x1 _=H2 at s2 e2 |-;refine⟨gc,λt2 Jg=>?_⟩;have s3:=ah (o:=.tup [.ref t0,.ref x1]) Jg;have e3:upd H2 t2 (.tup [.ref t0,.ref x1]) t2=some (.tup [.ref t0,.ref x1]):=ae;change Br _ (upd H2 t2 (.tup [.ref t0,.ref x1])) _;generalize upd H2 t2 _=H3 at s3 e3 |-;refine⟨vm,λL hL=>?_⟩;have s4:=ah (o:=.lst [.ref t2]) hL;have e4:upd H3 L (.lst [.ref t2]) L=some (.lst [.ref t2]):=ae;change Br _ (upd H3 L (.lst [.ref t2])) _;generalize upd H3 L _=H4 at s4 e4 |-;have Rr:=s3.trans s4;have HW:=s2.trans Rr;refine λx dx hx LX ne=>?_;exact Ap (ts:=[([],cm p k)]) ((s1.trans HW) _ _ hf) hp e4 (.cons ⟨t2,t0,x1,rfl,s4 _ _ e3,HW _ _ e1,Rr _ _ e2⟩ .nil) (pH.of (m:=8) hp (show 1<64 by decide) (λt m=>by rw[List.mem_singleton.mp m];exact yA hp hk) (show 9*1+7<=4000 by decide) (by decide)) (λt m=>by rw[List.mem_singleton.mp m];exact qo .nil (λi hi=>nomatch hi) (by show 0<4000;decide)) hx LX ne λH7 s7 hS=>q _ _ ((s1.trans HW).trans s7) hS
end K75
namespace L2
open PySem PySem.Spec PyProof.Rows PySem.W
theorem vp {K:PySem.W.Frag}{a b:Addr}{xs ys:List V}{g:TG}{tb:TS}{D:Ends}{σ:St}{H:Hp}(Pv:Nat->St->Hp->Prop)(le:ys.length=xs.length)(h0:Pv 0 σ H)(hl:∀i σ H,i<=xs.length->Pv i σ H->aN K H a xs/\aN K H b ys)
 (hs:∀i x y T σ H,xs[i]?=some x->ys[i]?=some y->H T=none->Pv i σ H->g (.ref T) σ (upd H T (.tup [x,y])) λσ2 H2=>tb {D with nx:=Pv (i+1),ct:=Pv (i+1),bk:=D.nx} σ2 H2)(hd:∀σ H,Pv xs.length σ H->D.nx σ H):
 ∃W:Nat->Nat->St->Hp->Prop,(∃m,W 0 m σ H)/\∀i m σ H,W i m σ H →
  ((uq K a b).stop i H/\D.nx σ H)\/((uq K a b).go i H/\∃N:St->Hp->Prop,(∀σ' H',N σ' H'->∃m',m'<m/\W (i+1) m' σ' H')/\∀x H',(uq K a b).yld i H x H'->g x σ H' λσ2 H2=>tb {D with nx:=N,ct:=N,bk:=D.nx} σ2 H2):=by
 refine⟨λi m σ H=>m=xs.length-i/\i<=xs.length/\Pv i σ H,⟨xs.length,by simp,Nat.zero_le _,h0⟩,?_⟩;rintro i m σ H ⟨rfl,hi,p⟩;have q:=hl i σ H hi p
 by_cases GR:i<xs.length
 ·refine .inr ⟨⟨xs,ys,xs[i],ys[i],q.1,q.2,by simp[GR],by simp[le,GR]⟩,Pv (i+1),λσ' H' p'=>⟨xs.length-(i+1),by omega,rfl,GR,p'⟩,λx H' y=>?_⟩;obtain⟨T,u,v,hu,hv,hT,rfl,rfl⟩:=y;exact hs i u v T σ _ (hu xs q.1) (hv ys q.2) hT p
 ·have e:i=xs.length:=by omega
  subst e;exact .inl ⟨⟨xs,ys,q.1,q.2,.inl (Nat.le_refl _)⟩,hd σ H p⟩
end L2
namespace K75
open PySem L2 PySem.W Nm Srt
abbrev E3:Stmt:=(aO 61)
theorem qj:yJ ["_law_prime","_law_places","_law_noughts","_law_degree_here","_law_sums","_law_total","_law_terms","_law_one","_law_more","_law_far"] DB (ai E3):=dE (by decide +kernel)
def qm (H:Hp)(y:V)(ts:List Tm):Prop:=∃r ys,y=.ref r/\H r=some (.lst ys)/\aU H ys ts
variable {H:Hp}
theorem qm.same {H':Hp}{y:V}{ts:List Tm}(h:qm H y ts)(k:aC H H'):qm H' y ts:=let⟨r,ys,a,b,c⟩:=h;⟨r,ys,a,k _ _ b,aU.keep c (aF.of k)⟩
abbrev lG (C CF:Addr)(p:Int)(H:Hp):List Addr->List (List Tm)->Prop:=Paired (λs ts=>qe C CF H s p ts)
variable {C CF:Addr}{p:Int}
theorem lG.same {H':Hp}{ys:List Addr}{ts:List (List Tm)}(h:lG C CF p H ys ts)(k:aC H H'):lG C CF p H' ys ts:=Paired.aat h λ_ _ z=>qe.same z k
def C0 (C CF:Addr):Sp:=λvs H Q _=>∃(n:Int)(ln ls:Addr)(ns:List V)(us:List Addr)(l:List (List Tm×List Tm)),vs=[.int 2,.int n,.ref ln,.int 1,.ref ls]/\H ln=some (.lst ns)/\Paired (qm H) ns (l.map (·.1))/\H ls=some (.lst (us.map V.ref))/\lG C CF 2 H us (l.map (·.2)) /\
 (∀x∈l,Bs x)/\l.length<=7/\pH 2 (ue 2 l)/\tg 2 (ue 2 l)=[([],(1,1))]/\∀H',aC H H'->Q (.bl true) H'
variable {P:vB}{w:World}{K:PySem.W.Frag}{mg:vW}{base:Heap}
set_option maxHeartbeats 1000000 in
theorem D4 {f ft fi fp fe fm fg:Addr}{fd IW IV IU JC JD Ii:EK}(F:vM K "_law_is_showing" "_law_is_showing" E3 f fd)(cF:BJ K mg CF)(cS:A8 K mg C)(Hu:mg "isinstance"=none)(GO:mg "list"=none)(GJ:mg "len"=none)(HP:mg "zip"=none)
 (To:Bp P w K mg base (bf P w) 1 ft IW ["self"] (lr C CF))(Tp:L2.ay K IW ["self"] [])(Tq:L2.Meth K C "terms" ft)
 (Z8:Bp P w K mg base (bf P w) 1 fi IV ["self"] (kN C CF))(Z9:L2.ay K IV ["self"] [])(mFi:L2.Meth K C "field" fi)
 (FPm:Bp P w K mg base (bf P w) 1 fp IU ["self"] (rS CF))(bPm:L2.ay K IU ["self"] [])(mPm:L2.Meth K CF "prime" fp)
 (W9:Bp P w K mg base (bf P w) 1 fe JC tV qw)(Xa:L2.ay K JC tV [])(Xb:mg "_law_degree"=some (.ref fe))(Xc:keepIn K (.ref fe)=true)
 (FMu:Bp P w K mg base (bf P w) 5 fm JD GD lC)(bMu:L2.ay K JD GD [])(mMu:mg "_law_multiplied"=some (.ref fm))(kMu:keepIn K (.ref fm)=true)
 (FG:Bp P w K mg base (bf P w) 4 fg Ii E8 pj)(bG:L2.ay K Ii E8 [])(mG:mg "_law_gathered"=some (.ref fg))(kG:keepIn K (.ref fg)=true):
 Bp P w K mg base (bf P w) 6 f fd DB (C0 C CF):=by
 refine F.okN qj (λvs H Q E h=>?_) (λGN A outer s H vs Q E hr h=>?_)
 ·obtain⟨n,ln,ls,ns,us,l,rfl,_⟩:=h;rfl
 ·obtain⟨n,ln,ls,ns,us,l,rfl,Tr,IC,Ru,Q3,pr,l15,G,one,q⟩:=h;have hp:=F2;obtain⟨p,ep⟩:∃p:Int,p=2:=⟨_,rfl⟩;have K3:wK 5 _:=hr;have HR:wK 4 _:=K3.mono (by decide);have GU:wK 1 _:=K3.mono (by decide)
  refine⟨_,(aj (bw (PW.pt (dz (bB (bJ (az ba (by rfl) Hu (by rfl) (bF (pv 4) (bF (c9 (by rfl) GO (by rfl) (show aE (.ty "list") (.type "list") from rfl)) af))))) (cR (@aH _ _ _ _ _ _ _ _ fM (az aJ (by rfl) GJ PySem.boot_len (@ak _ _ _ _ _ (pv 4) af rfl)) (az aJ (by rfl) GJ PySem.boot_len (@ak _ _ _ _ _ (pv 2) af rfl)) (aG _))))) (aq (aA fX)) aM)
   (aj (@aY _ _ 5 _ _ _ _ qj.nd rfl (Or.inl rfl) (@cu _ _ _ _ af) rfl (Or.inl rfl))
   (aj (dZ PassesOwn.never rfl (@zx _ _ _ _ _ _ _ _ _ _ (pv 2) (pv 4) (by rfl) HP rfl rfl) (bZ rfl (aB (av (i:=6) qj.nd rfl (Or.inl rfl)) (aB (av (i:=7) qj.nd rfl (Or.inl rfl)) bz)))
   (aj (@aY _ _ 8 _ _ _ _ qj.nd rfl (Or.inl rfl) (cI (pv 7) cS.cl Tq To GU Tp .nil ag) rfl (Or.inl rfl))
   (aj (fH (i:=9) (g:=(gq K 2 (bD (bg 0) (bD (bg 1) ve)))) (N:=["_law_product","_law_number","_law_places"]) (nl:=2) (js:=[1]) (osc:=ai E3) ⟨rfl,rfl,by decide +kernel,by decide +kernel,by decide +kernel,rfl,(.cons ⟨rfl,by decide +kernel⟩ .nil),by decide +kernel⟩ rfl qj.nd rfl (Or.inl rfl)
    (bu (pv 8))
    (λCq fq sq Hq=>(bZ (X:=bY _ ["_law_product","_law_number","_law_places"] _ Cq fq sq Hq) rfl (aB (av (X:=bY _ ["_law_product","_law_number","_law_places"] _ Cq fq sq Hq) (i:=0) (by show(["_law_product","_law_number","_law_places"]:zF).Nodup;decide +kernel) rfl (Or.inl rfl) (Or.inr rfl)) (aB (av (X:=bY _ ["_law_product","_law_number","_law_places"] _ Cq fq sq Hq) (i:=1) (by show(["_law_product","_law_number","_law_places"]:zF).Nodup;decide +kernel) rfl (Or.inl rfl) (Or.inr rfl)) bz))))
    (λCq fq sq Hq=>(dJ (PW.pt (p8 (@aH _ _ _ _ _ _ _ _ (show dC _ _ (vh K true) from qi GU) (pv 0) (@bh _ _ _ _ _ af) (aG _)) (nQ DM)))))
    (λCq fq sq Hq=>(pv 0)) (by rfl))
   (aj (bw (PW.pt (dz (@aH _ _ _ _ _ _ _ _ fM (cI (cI (pv 7) cS.cl mFi Z8 GU Z9 .nil ag) cF.cl mPm FPm GU bPm .nil ag) (pv 0) (aG _)) (cR (@aH _ _ _ _ _ _ _ _ (show dC _ _ (qJ K) from pk GU) (pv 9) (@cu _ _ _ _ af) (aG _))))) (aq (aA fX)) aM)
   (aj (bw (PW.pt (p8 (@aH _ _ _ _ _ _ _ _ (show dC _ _ (qJ K) from pk GU) (pv 8) (@cu _ _ _ _ af) (aG _)) (nQ (@aH _ _ _ _ _ _ _ _ rG (@aD _ _ _ _ _ _ _ _ dn (ax W9 GU (by rfl) Xb Xc Xa .nil ag (@ak _ _ _ _ _ (pv 8) af rfl)) (ax W9 GU (by rfl) Xb Xc Xa .nil ag (@ak _ _ _ _ _ (pv 6) af rfl))) (pv 3) (aG _))))) (aq (aA fX)) aM)
   (aq (@aY _ _ 5 _ _ _ _ qj.nd rfl (Or.inl rfl) (@aD _ _ _ _ _ _ _ _ fE (pv 5) (ax FMu K3 (by rfl) mMu kMu bMu .nil ag (@ak _ _ _ _ _ (pv 0) (@ak _ _ _ _ _ (pv 6) (@ak _ _ _ _ _ (pv 8) af rfl) rfl) rfl))) rfl (Or.inl rfl))))))))
   (aq (aA (@bH _ _ _ _ _ _ _ _ (show dC _ _ (vh K false) from xy GU) (ax FG HR (by rfl) mG kG bG .nil ag (@ak _ _ _ _ _ (pv 0) (@ak _ _ _ _ _ (pv 5) af rfl) rfl)) (@cu _ _ _ _ (@ak _ _ _ _ _ (@bh _ _ _ _ _ (@ak _ _ _ _ _ (@bh _ _ _ _ _ af) (@ak _ _ _ _ _ (@bh _ _ _ _ _ (@ak _ _ _ _ _ ao (@ak _ _ _ _ _ ao af rfl) rfl)) af rfl) rfl)) af rfl)) (aG _))))))),?_⟩
  have nl:=IC.length;have ul:=Q3.length;rw[List.length_map] at nl ul;refine⟨_,rfl,.ref ls,.ty "list",_,_,true,rfl,rfl,.of (.lst Ru),rfl,_,rfl,bx ?_⟩;refine⟨_,rfl,ls,_,rfl,.inl (aN.of Ru),_,rfl,ln,_,rfl,.inl (aN.of Tr),rfl,_,rfl,?_⟩;rw[dw,List.length_map,nl,ul,show((l.length:Int)==(l.length:Int))=true from by simp];refine bx ?_;refine⟨Nat.zero_le _,λL hL=>?_⟩;have s1:=ah (o:=.lst []) hL;have e1:upd H L (.lst []) L=some (.lst []):=ae;generalize upd H L _=H1 at s1 e1 |-;refine⟨_,rfl,_,rfl,ln,ls,ns,_,rfl,aN.of (s1 _ _ Tr),aN.of (s1 _ _ Ru),?_⟩;refine vp (xs:=ns) (ys:=us.map V.ref) (λi σ H'=>aC H H'/\(∃L ws,H' L=some (.lst ws)/\aU H' ws (ue 2 (l.take i))/\ws.length<=61*i/\∃o6 o7 o8 o9,σ=[some (.int 2),some (.int n),some (.ref ln),some (.int 1),some (.ref ls),some (.ref L),o6,o7,o8,o9])) (by rw[List.length_map];omega) ⟨s1,L,[],e1,.nil,Nat.le_refl _,_,_,_,_,rfl⟩ (λi σ H' _ h=>⟨aN.of (h.1 _ _ Tr),aN.of (h.1 _ _ Ru)⟩) ?_ ?_
  ·rintro i y z T σ H2 hy hz hT ⟨s2,L,ws,hL,hw,wl,o6,o7,o8,o9,rfl⟩
   have hk:i<l.length:=by
    have:=(List.getElem?_eq_some_iff.mp hy).1;omega
   have ex:l[i]?=some l[i]:=List.getElem?_eq_getElem hk;obtain⟨ND,x9,hc,th⟩:=pr l[i] (List.getElem_mem hk);obtain⟨ts,et,LR⟩:=aW IC hy;rw[List.getElem?_map,ex] at et
   cases et
   rw[List.getElem?_map] at hz;obtain⟨u,eu,rfl⟩:=Option.map_eq_some_iff.mp hz;obtain⟨ts,et,SR⟩:=aW Q3 eu;rw[List.getElem?_map,ex] at et
   cases et
   generalize l[i]=x at ex ND x9 hc th LR SR;obtain⟨x1,x2⟩:=x;have hc:x2=[([],(1,1))]:=hc;subst hc;have s3:=ah (o:=.tup [y,.ref u]) hT;have eT:upd H2 T (.tup [y,.ref u]) T=some (.tup [y,.ref u]):=ae;generalize upd H2 T _=H3 at s3 eT |-;have sA:=s2.trans s3;obtain⟨r,rs,rfl,MW,MX⟩:=LR.same sA;obtain⟨dx,fl,GQ,Dd,zs,k1,k2,k3,k4⟩:=(SR.same sA).ex;have hw:=aU.keep hw (aF.of s3);have hL:=s3 _ _ hL;have x9:x1.length<=61:=x9;have MX:aU H3 rs x1:=MX;clear hT s2 s3 LR SR;refine⟨T,_,rfl,bo.of eT,rfl,_,_,rfl,_,_,rfl,rfl,?_⟩;refine⟨_,rfl,u,dx,_,rfl,k1,rfl,u,dx,fl,Dd,zs,rfl,k1,k3,λlm hlm=>?_⟩;have s4:=ah (o:=.lst zs) hlm;have e4:upd H3 lm (.lst zs) lm=some (.lst zs):=ae;generalize upd H3 lm _=H4 at s4 e4 |-;have k4:=aU.keep k4 (aF.of s4);have zl:zs.length=1:=k4.length;refine⟨_,rfl,lm,rfl,⟨_,aN.of e4⟩,?_⟩;refine gC (xs:=zs) (rest:=[some (.int n)]) (λi us H'=>aC H4 H'/\us=[]) ⟨aC.refl _,rfl⟩ (λi us H' hi h=>?_) (λi x us H' hi hx h=>?_) (λus H' h=>?_)
   ·rw[h.2];exact⟨by decide,aN.of (h.1 _ _ e4)⟩
   ·obtain⟨s5,rfl⟩:=h;obtain⟨t,et,a,pr,nu,rfl,ha,HS,IJ⟩:=aW (aU.keep k4 (aF.of s5)) hx
    have et:t=([],(1,1)):=by
     have:=List.mem_of_getElem? et;exact List.mem_singleton.mp this
    subst et;refine⟨a,.ref pr,.ref nu,rfl,bo.of ha,λN hN=>?_⟩;refine⟨_,rfl,Nat.zero_le _,λt0 LO=>?_⟩;have s6:=ah (o:=.tup []) LO;refine⟨.tup [],.tup [],⟨pr,[],rfl,bo.of (s6 _ _ HS),rfl⟩,⟨t0,[],rfl,bo.of ae,rfl⟩,(by decide),_,rfl,bx (bx (hN _ _ ⟨s5.trans s6,rfl⟩))⟩
   obtain⟨s5,rfl⟩:=h;intro lf hlf;have s6:=ah (o:=.lst []) hlf;have e6:upd H' lf (.lst []) lf=some (.lst []):=ae;generalize upd H' lf _=H6 at s6 e6 |-;have Rv:=s5.trans s6;have MZ:=s4.trans Rv;refine⟨_,rfl,u,dx,_,rfl,MZ _ _ k1,rfl,u,dx,fl,Dd,rfl,MZ _ _ k1,?_⟩;refine⟨fl,GQ,_,rfl,MZ _ _ k2,rfl,fl,GQ,2,rfl,MZ _ _ k2,_,rfl,rfl,_,rfl,?_⟩;rw[dw,show((2:Int)==2)=true from by simp];refine bx ⟨_,rfl,Nat.zero_le _,λl0 Ts=>?_⟩;have s7:=ah (o:=.lst []) Ts;have e7:upd H6 l0 (.lst []) l0=some (.lst []):=ae;generalize upd H6 l0 _=H7 at s7 e7 |-;refine⟨lf,l0,[],rfl,rfl,aN.of (s7 _ _ e6),aN.of e7,_,rfl,bx ?_⟩;refine⟨_,rfl,Nat.zero_le _,λl1 Hn=>?_⟩;have s8:=ah (o:=.lst []) Hn;have e8:upd H7 l1 (.lst []) l1=some (.lst []):=ae;generalize upd H7 l1 _=H8 at s8 e8 |-;have LY:=Rv.trans (s7.trans s8)
   have zn:zs≠[]:=λz=>by rw[z] at zl;cases zl
   refine⟨lm,l1,zs,rfl,rfl,aN.of (LY _ _ e4),aN.of e8,_,rfl,?_⟩;rw[decide_eq_false zn];refine b7 ⟨_,rfl,lm,zs,_,rfl,LY _ _ e4,aU.keep k4 (aF.of LY),by show 1<=1000;decide,λm1 H9 s9 m0 hm=>?_⟩
   have m1e:m1=0:=by
    rcases hm with h|⟨t,h,h'⟩
    ·exact h
    ·rw[List.mem_singleton.mp h] at h';exact h'
   subst m1e;have N5:=s4.trans (LY.trans s9)
   have rl:rs.length<=1000:=by have:=MX.length;omega
   refine⟨_,rfl,r,rs,_,rfl,N5 _ _ MW,aU.keep MX (aF.of N5),by have:=MX.length;omega,λm2 M0 Iq m0 hm=>?_⟩
   have m2l:m2<=1:=by
    rcases hm with h|⟨t,h,h'⟩
    ·omega
    ·have:=(ND t h).2.2;omega
   refine⟨_,_,rfl,rfl,_,rfl,_,_,rfl,rfl,_,rfl,?_⟩;rw[decide_eq_false (by omega:¬1<0+m2)];refine bx ?_;have LZ:=N5.trans Iq;have N6:=LY.trans (s9.trans Iq);refine⟨_,rfl,_,rfl,_,rfl,_,rfl,2,r,lm,rs,zs,x1,_,rfl,hp,LZ _ _ MW,aU.keep MX (aF.of LZ),N6 _ _ e4,aU.keep k4 (aF.of N6),by show x1.length*1<4000;omega,λt h=>⟨(ND t h).1,(ND t h).2.1⟩,λt h=>?_,th,λTt Dm ms Ja nD hD MP=>?_⟩
   ·rw[List.mem_singleton.mp h];exact⟨vS (eZ F2),.nil,by show 0<32;decide⟩
   have L6:=LZ.trans Ja
   have ml:ms.length<=61:=by
    rw[MP.length];refine Nat.le_trans (nA _ _) ?_;rw[ie];show x1.length*1<=61;omega
   have il:i<=6:=by omega
   refine⟨L,Dm,ws,ms,rfl,rfl,L6 _ _ hL,hD,Nat.le_trans (by omega:_<=500) (by decide),λL2 Jh _ Hx Ka=>?_⟩;refine⟨sA.trans (L6.trans Hx),L2,_,Ka,?_,by rw[List.length_append];omega,_,_,_,_,rfl⟩;rw[List.take_add_one,ex];unfold ue;rw[List.flatMap_append];refine ir (aU.keep hw (aF.of (L6.trans Hx))) ?_;rw[Option.toList_some,List.flatMap_singleton];exact aU.keep MP (aF.of Hx)
  ·rintro σ H2 ⟨s2,L,ws,hL,hw,wl,o6,o7,o8,o9,rfl⟩;rw[nl,List.take_length] at hw;refine⟨_,rfl,_,rfl,L,2,ws,_,rfl,hp,hL,hw,G,λH3 D zs s3 nD hD hz=>?_⟩;refine⟨Nat.zero_le _,λt1 Iz=>?_⟩;have s4:=ah (o:=.tup []) Iz;have e4:upd H3 t1 (.tup []) t1=some (.tup []):=ae;generalize upd H3 t1 _=H4 at s4 e4 |-;refine⟨gc,λt2 Jg=>?_⟩;have s5:=ah (o:=.tup [.int 1,.int 1]) Jg;have e5:upd H4 t2 (.tup [.int 1,.int 1]) t2=some (bO 1 1):=ae;generalize upd H4 t2 _=H5 at s5 e5 |-;refine⟨gc,λt3 ht3=>?_⟩;have s6:=ah (o:=.tup [.ref t1,.ref t2]) ht3;have e6:upd H5 t3 (.tup [.ref t1,.ref t2]) t3=some (.tup [.ref t1,.ref t2]):=ae;generalize upd H5 t3 _=H6 at s6 e6 |-;refine⟨vm,λt4 Rw=>?_⟩;have s7:=ah (o:=.lst [.ref t3]) Rw;have e7:upd H6 t4 (.lst [.ref t3]) t4=some (.lst [.ref t3]):=ae;generalize upd H6 t4 _=H7 at s7 e7 |-;have N7:=s4.trans (s5.trans (s6.trans s7));have hz:aU H3 zs (tg 2 (ue 2 l)):=hz;rw[one] at hz;refine⟨_,_,kK (N7 _ _ hD) (aU.keep hz (aF.of N7)),kK (ts:=[([],(1,1))]) e7 (.cons ⟨t3,t1,t2,rfl,s7 _ _ e6,s7 _ _ (s6 _ _ (s5 _ _ e4)),s7 _ _ (s6 _ _ e5)⟩ .nil),zt _,?_⟩;rw[dY];exact q H7 (s2.trans (s3.trans N7))
abbrev Fo:Stmt:=(aO 63)
theorem FJ:yJ pK pK (ai Fo):=dE (by decide +kernel)
theorem FP.good (h:FP p):good (.int p)=true:=by
 show jv p=true;unfold jv
 rcases h with h|h
 ·rw[h];rfl
 ·have:(cV.any λq=>q==p)=true:=by
   rw[List.any_eq_true];exact⟨p,h,by simp⟩
  rw[this];simp
theorem gX {L7 fl GQ:Addr}{Q:Hp->Prop}{E:XK}(hf:H fl=none)(hd:H GQ=none)(ne:GQ≠fl)(hp:FP p)(q:∀H',aC H H'->H' fl=some (.ins CF GQ (df p))->Q H'):
 jJ CF L7 [.ref fl,.int p] (upd (upd H GQ (.own fl)) fl (.ins CF GQ [])) (λv H2=>v=.non/\Q H2) E:=by
 refine⟨fl,GQ,.int p,"int",rfl,.int p,ae,λ_=>⟨rfl,?_⟩,λg=>by rw[hp.good] at g;cases g⟩;rw[abt];exact q _ ((ah hd).trans (ah (by rw[ar (Ne.symm ne)];exact hf))) ae
theorem nX {K:Frag}:∀{ys:List V}{Ir:List (List Tm)},Paired (qm H) ys Ir->aV K H (Ir.map lE) ys
 |_,_,.nil=>by unfold aV;rfl
 |_,_,.cons (b:=t) h r=>by
  show aV K H (lE t::_) _;unfold aV;obtain⟨l,zs,h1,h2,h3⟩:=h;subst h1;exact⟨_,_,rfl,kK h2 h3,nX r⟩
theorem xX:∀Ir:List (List Tm),cZ (Ir.map lE)<=31
 |[]=>by unfold cZ;decide
 |t::Ir=>by
  show cZ (lE t::Ir.map lE)<=31;unfold cZ;have:=xX Ir
  have h:gF (lE t)<=3:=by
   unfold gF;have:=nJ t;omega
  omega
def Ez (CS C CF:Addr):Sp:=λvs H Q _=>∃(sy fl ln:Addr)(p n:Int)(as:List Addr)(ns:List V)(Ir:List (List Tm)),vs=[.ref sy,.int p,.int n,.ref ln]/\Dt CS CF H sy fl p n as []/\FP p/\lG C CF p H as Ir/\H ln=some (.lst ns)/\Paired (qm H) ns Ir/\Ir.length<=60/\∀H',aC H H'->Q (.bl true) H'
set_option maxHeartbeats 1000000 in
theorem DZ {f f1 f2 f3 f4 ft fe fi CS L7:Addr}{fd Xd Xe Xf Xg IW JC IV:EK}(F:vM K "_law_is_system" "_law_is_system" Fo f fd)(cY:Fh K mg CS)(cF:BJ K mg CF)(cS:A8 K mg C)(Hu:mg "isinstance"=none)
 (FYf:Bp P w K mg base (bf P w) 1 f1 Xd ["self"] (CT CS CF))(bYf:L2.ay K Xd ["self"] [])(mYf:L2.Meth K CS "field" f1)
 (FYp:Bp P w K mg base (bf P w) 1 f2 Xe ["self"] (Dy CS CF))(bYp:L2.ay K Xe ["self"] [])(mYp:L2.Meth K CS "places" f2)
 (FYn:Bp P w K mg base (bf P w) 1 f3 Xf ["self"] (DO CS CF))(bYn:L2.ay K Xf ["self"] [])(mYn:L2.Meth K CS "noughts" f3)
 (FYu:Bp P w K mg base (bf P w) 1 f4 Xg ["self"] (Es CS CF))(bYu:L2.ay K Xg ["self"] [])(mYu:L2.Meth K CS "uppers" f4)
 (To:Bp P w K mg base (bf P w) 1 ft IW ["self"] (lr C CF))(Tp:L2.ay K IW ["self"] [])(Tq:L2.Meth K C "terms" ft)
 (FE:Bp P w K mg base (bf P w) 1 fe JC rj (Cg CF))(bE:L2.ay K JC rj [])(nE:findIn K (.ref CF) "__eq__"=some (some (.ref fe)))(iE:isFn K (.ref fe)=true)(nNe:findIn K (.ref CF) "__ne__"=some (some (.builtin "object.__ne__")))
 (MF:Mk K CF fi)(FFI:Bp P w K mg base (bf P w) 2 fi IV uQ (jJ CF L7))(JH:L2.ay K IV uQ []):
 Bp P w K mg base (bf P w) 4 f fd pK (Ez CS C CF):=by
 refine F.okN FJ (λvs H Q E h=>?_) (λGN A outer s H vs Q E hr h=>?_)
 ·obtain⟨sy,fl,ln,p,n,as,ns,Ir,rfl,_⟩:=h;rfl
 ·obtain⟨sy,fl,ln,p,n,as,ns,Ir,rfl,Y,hp,hs,hl,hn,t60,q⟩:=h;have IH:wK 3 _:=hr;have HV:wK 2 _:=hr.mono (by decide);have GU:wK 1 _:=hr.mono (by decide)
  refine⟨_,(aj (bw (PW.pt (dz (bB (bJ (az ba (by rfl) Hu (by rfl) (bF (pv 0) (bF (cB (by rfl) cY.mgC (show aE (.ref CS) (.ref CS) from rfl)) af))))) (dz (@aH _ _ _ _ _ _ _ _ (xc nE iE nNe cF.ob FE HV bE ag) (cI (pv 0) cY.cl mYf FYf GU bYf .nil ag) (gA MF FFI IH (by rfl) cF.mgC JH .nil ag (@ak _ _ _ _ _ (pv 1) af rfl)) (aG _)) (cR (@aH _ _ _ _ _ _ _ _ fM (cI (pv 0) cY.cl mYp FYp GU bYp .nil ag) (pv 2) (aG _)))))) (aq (aA fX)) aM)
   (aq (aA (cC (@bH _ _ _ _ _ _ _ _ (show dC _ _ (vh K false) from xy GU) (bX (N:=["_law_one"]) (nl:=1) (js:=[]) (osc:=ai Fo) ⟨rfl,rfl,by decide +kernel,by decide +kernel,by decide +kernel,rfl,.nil,by decide +kernel⟩ rfl
    (bu (cI (pv 0) cY.cl mYn FYn GU bYn .nil ag))
    (λCq fq sq Hq=>av (i:=0) (by show(["_law_one"]:zF).Nodup;decide +kernel) rfl (Or.inl rfl) (Or.inr rfl))
    (λCq fq sq Hq=>bK)
    (λCq fq sq Hq=>(cI (pv 0) cS.cl Tq To GU Tp .nil ag))) (pv 3) (aG _)) (@bH _ _ _ _ _ _ _ _ (vt GU) (cI (pv 0) cY.cl mYu FYu GU bYu .nil ag) (@cu _ _ _ _ af) (aG _)))))),?_⟩
  obtain⟨dx,GQ,Aa,Bb,h1,h2,h3,h4⟩:=Y.ex;refine⟨_,rfl,.ref sy,.ref CS,_,_,true,rfl,rfl,cY.ty h1,cY.is,_,rfl,bx ?_⟩;refine⟨_,rfl,sy,dx,_,rfl,h1,rfl,sy,fl,p,n,as,[],rfl,Y,?_⟩;refine⟨_,rfl,λx dx2 hx LX ne=>?_⟩;refine gX hx LX ne hp λH1 s1 e1=>?_;refine⟨fl,GQ,_,.ref CF,rfl,s1 _ _ h2,cF.ty e1,rF,fl,GQ,p,.ref x,rfl,s1 _ _ h2,.inl ⟨x,dx2,p,rfl,e1,_,rfl,_,rfl,?_⟩⟩;rw[decide_eq_true (rfl:p=p)];refine bx ⟨_,rfl,sy,dx,_,rfl,s1 _ _ h1,rfl,sy,fl,p,n,as,[],rfl,Y.same s1,_,rfl,rfl,_,rfl,?_⟩;rw[dw,show(n==n)=true from by simp];refine bx ?_;refine⟨_,rfl,sy,dx,_,rfl,s1 _ _ h1,rfl,sy,fl,p,n,as,[],rfl,Y.same s1,λl0 Ts=>?_⟩;have s2:=ah (o:=.lst (as.map V.ref)) Ts;have e2:upd H1 l0 (.lst (as.map V.ref)) l0=some (.lst (as.map V.ref)):=ae;generalize upd H1 l0 _=H2 at s2 e2 |-;have J9:=s1.trans s2;have al:=hs.length;refine⟨l0,rfl,⟨_,aN.of e2⟩,?_⟩;refine c6 (a:=l0) (xs:=as.map V.ref) (rest:=[]) (λj us H'=>aC H2 H'/\Paired (qm H') us (Ir.take j)) ⟨aC.refl _,.nil⟩ (λj us H' hj h=>?_) (λj x us H' M hj hx h hM=>?_) (λus H' h=>?_)
  ·refine⟨?_,aN.of (h.1 _ _ e2)⟩;rw[h.2.length,List.length_take];exact Nat.lt_of_le_of_lt (by omega:_<=60) (by decide)
  ·obtain⟨s3,hu⟩:=h;rw[List.getElem?_map] at hx;obtain⟨u,eu,rfl⟩:=Option.map_eq_some_iff.mp hx;obtain⟨ts,et,S⟩:=aW hs eu;obtain⟨Xh,fl2,aaB,Dd,zs,k1,k2,k3,k4⟩:=(S.same (J9.trans s3)).ex;refine ku ⟨_,rfl,u,Xh,_,rfl,k1,rfl,u,Xh,fl2,Dd,zs,rfl,k1,k3,λl hl=>hM _ _ ?_⟩;have s4:=ah (o:=.lst zs) hl;refine⟨s3.trans s4,?_⟩;rw[List.take_add_one,et];exact Paired.snoc (Paired.aat hu λ_ _ z=>z.same s4) ⟨l,zs,rfl,ae,aU.keep k4 (aF.of s4)⟩
  obtain⟨s3,hu⟩:=h;rw[List.length_map,al,List.take_length] at hu;intro D hD;have s4:=ah (o:=.lst us) hD;have e4:upd H' D (.lst us) D=some (.lst us):=ae;have hu:=Paired.aat hu λ_ _ z=>qm.same z s4;generalize upd H' D _=H4 at s4 e4 hu |-;have Kb:=J9.trans (s3.trans s4)
  have d1:aI K H4 (.lst (Ir.map lE)) (.ref D):=by unfold aI;exact⟨D,us,rfl,aN.of e4,nX hu⟩
  have d2:aI K H4 (.lst (Ir.map lE)) (.ref ln):=by unfold aI;exact⟨ln,ns,rfl,aN.of (Kb _ _ hl),nX (Paired.aat hn λ_ _ z=>qm.same z Kb)⟩
  refine⟨_,rfl,_,_,d1,d2,(by unfold gF;have:=xX Ir;omega),_,rfl,?_⟩;rw[dY];refine b7 ⟨_,rfl,sy,dx,_,rfl,Kb _ _ h1,rfl,sy,fl,p,n,as,[],rfl,Y.same Kb,λl1 Hn=>?_⟩;have s5:=ah (o:=.lst []) Hn;have e5:upd H4 l1 (.lst []) l1=some (.lst []):=ae;change BZ Br _ (upd H4 l1 (.lst [])) _;generalize upd H4 l1 _=H5 at s5 e5 |-;refine⟨Nat.zero_le _,λl2 Hy=>?_⟩;have s6:=ah (o:=.lst []) Hy;exact⟨l1,l2,[],rfl,rfl,aN.of (s6 _ _ e5),aN.of ae,q _ (Kb.trans (s5.trans s6))⟩
end K75
namespace L2
open PySem PySem.Spec PyProof.Rows
theorem cM:∀(names:List (Str×NameKind))(n:Nat)(acc:List (Str×Addr)),cellsFrom n names acc=cellsFrom n names []++acc
 |[],_,_=>rfl
 |(x,k):: r,n,acc=>by
  unfold cellsFrom
  split
  ·rw[cM r (n+1) ((x,n):: acc),cM r (n+1) [(x,n)],List.append_assoc];rfl
  ·exact cM r n acc
theorem eF:∀(names:List (Str×NameKind))(n:Nat){x:Str}{c:Addr},(x,c)∈cellsFrom n names []->(x,NameKind.cell)∈names
 |[],_,_,_,h=>nomatch h
 |(y,k):: r,n,x,c,h=>by
  unfold cellsFrom at h
  split at h
  ·rename_i hk
   rw[cM] at h
   rcases List.mem_append.mp h with h|h
   ·exact List.mem_cons_of_mem _ (eF r (n+1) h)
   ·have e:=List.mem_singleton.mp h
    have hk:k=.cell:=by simpa using hk
    cases e
    subst hk;exact List.mem_cons_self
  ·exact List.mem_cons_of_mem _ (eF r n h)
def jy (X:Cx)(scope:Scope)(C:Addr):List (Str×Addr):=cellsFrom (C+1) scope.names []++dh scope.names X.env
def fU (X:Cx)(N:zF)(scope:Scope)(C:Addr)(fp:List Addr)(s:GB)(H:Hp):Cx :=
 {bY X N scope C fp s H with env:=compEnvC scope (jy X scope C) C X.env,fn:=λx=>scope.names.lookup x==some .cell}
structure C9 (X:Cx)(N:zF)(nl:Nat)(js:List Nat)(osc scope:Scope):Prop where
 out:X.env.scope=osc
 kind:scope.kind=.function
 cell:∀y∈scope.names,y.2=.free->(y.1,NameKind.cell)∉scope.names
 names:∀y∈scope.names,y.2=.local->scope.names.lookup y.1=some .local
 free:∀y∈scope.names,y.2=.free->osc.names.lookup y.1=some .cell\/osc.names.lookup y.1=some .free
 len:N.length=nl+js.length
 src:Paired (λj x=>X.N[j]?=some x/\(x,NameKind.free)∈scope.names) js (N.drop nl)
 abR:∀y∈scope.names,y.2=.free->scope.names.lookup y.1≠some .local
variable {scope:Scope}
theorem jN {X:Cx}{N:zF}{nl:Nat}{js:List Nat}{osc:Scope}{C:Addr}(S:C9 X N nl js osc scope)(h:∀y∈scope.names,y.2=.free->∃c,X.env.cells.lookup y.1=some c)(x:Str)(c:Addr)(e:(jy X scope C).lookup x=some c):
 X.env.cells.lookup x=some c\/(cellsFrom (C+1) scope.names []).lookup x=some c:=by
 unfold jy at e;rw[List.lookup_append] at e
 cases q:(cellsFrom (C+1) scope.names []).lookup x with
 |none=>rw[q] at e;exact .inl (eP h e)
 |some c2=>rw[q] at e;exact .inr e
theorem vO {X:Cx}{C:Addr}{x:Str}(h:(x,NameKind.free)∈scope.names\/scope.names.lookup x=some .cell):∃c,(jy X scope C).lookup x=some c:=by
 unfold jy;rw[List.lookup_append]
 cases q:(cellsFrom (C+1) scope.names []).lookup x with
 |some c=>exact⟨c,rfl⟩
 |none =>
  rcases h with h|h
  ·exact iC h
  ·obtain⟨c,e⟩:=Option.isSome_iff_exists.mp (PySem.W.cellsFrom_some scope.names (C+1) [] (.inl h));rw[q] at e
   cases e
theorem fW {env:Env}:∀{names:List (Str×NameKind)}{x:Str}{k:NameKind},
 (names.map λ(n,k)=>if(k==NameKind.free&&env.scope.kind == .function&&env.kindOf n==some .cell) then(n,NameKind.cell) else(n,k)).lookup x=some k->(k=.cell\/k=.free)->(x,NameKind.free)∈names\/names.lookup x=some .cell
 |[],_,_,h,_=>by simp at h
 |(n,k0):: r,x,k,h,hk=>by
  have h:List.lookup x ((if(k0==NameKind.free&&env.scope.kind == .function&&env.kindOf n==some .cell)=true then(n,NameKind.cell) else(n,k0)):: r.map λ(n,k)=>if(k==NameKind.free&&env.scope.kind == .function&&env.kindOf n==some .cell) then(n,NameKind.cell) else(n,k))=some k:=h;have ih:=@fW env r x k
  by_cases hx:x=n
  ·subst hx
   by_cases hb:(k0==NameKind.free&&env.scope.kind == .function&&env.kindOf x==some .cell)=true
   ·have:=(Bool.and_eq_true_iff.mp (Bool.and_eq_true_iff.mp hb).1).1
    have e:k0=.free:=by simpa using this
    subst e;exact .inl List.mem_cons_self
   ·rw[if_neg hb] at h;simp only[List.lookup_cons,beq_self_eq_true] at h;have e:k0=k:=Option.some.inj h;subst e
    rcases hk with z|z
    ·subst z;exact .inr (by simp)
    ·subst z;exact .inl List.mem_cons_self
  ·have hb:(x==n)=false:=by simpa using hx
   have z:(x,NameKind.free)∈r\/r.lookup x=some .cell:=by
    refine ih ?_ hk
    by_cases GV:(k0==NameKind.free&&env.scope.kind == .function&&env.kindOf n==some .cell)=true
    ·rw[if_pos GV] at h;simp only[List.lookup_cons,hb] at h;exact h
    ·rw[if_neg GV] at h;simp only[List.lookup_cons,hb] at h;exact h
   exact z.imp (List.mem_cons_of_mem _) λz=>by simp only[List.lookup_cons,hb];exact z
variable {s:GB}
theorem mR {M:Model}{A:Around}{E:pL}{globals:Addr}{closure:List (Str×Addr)}{qual:Str}{outer:Env}{Q:Env->Shared->Prop}
 (hQ:∀h':Heap,h'.Ns s.heap.objs.size (λ_=>none)->(∀b o,s.heap.get? b=some o->h'.get? b=some o)->CellsOk h' (s.heap.objs.size+1) (cellsFrom (s.heap.objs.size+1) scope.names []) →
  Q (newEnv scope s.heap.objs.size globals (cellsFrom (s.heap.objs.size+1) scope.names []++closure) qual none .none (some outer) builtinsNs) {s with heap:=h'}):
 wpAny M A (newFunctionEnv scope globals closure [] qual none .none (some outer)) Q E s:=by
 simp only[newFunctionEnv,Option.isSome_some,if_true];refine wpAny_bind (wpAny_alloc ?_);refine wpAny_bind (wpAny_layCells _ (λname kind cells=>by cases hkc:kind==NameKind.cell <;> simp[hkc]) _ _ _ _ ?_);have ok:=cellsFrom_ok scope.names (s.heap.push {cls:=.type "dict",data:=.dict #[]}) (s.heap.objs.size+1) [] ⟨λ_ _ hm=>(nomatch hm),List.Pairwise.nil⟩ (by rw[Heap.size_push];exact Nat.le_refl _);rw[Heap.size_push] at ok;rw[show({s with heap:=s.heap.push {cls:=.type "dict",data:=.dict #[]} }:GB).heap.objs.size=s.heap.objs.size+1 from Heap.size_push ..,cM];refine wpAny_bind ?_;rw[List.forIn_nil];exact wpAny_pure (wpAny_pure (hQ _ ((Heap.Ns.new s.heap (.type "dict")).keeps (pushCells_keeps _ _)) (λb o e=>pushCells_keeps _ _ b o (Heap.get?_push_of_some _ e)) ok))
variable {pins:List (Addr×Obj)}{σ:St}{H:Hp}
section
variable {X:Cx}{tg iter elt:Expr}{ifs:Bj}{scope osc:Scope}{pos:Pos}{N:zF}{nl:Nat}{js:List Nat}
theorem qk {fp:List Addr}{h1:Heap}{C:Addr}{tk:Nat}(S:C9 X N nl js osc scope)(I:Inv X pins σ H s)(f:∀b∈fp,cg X pins H b)(HZ:∀b∈fp,b<s.heap.objs.size)
 (hC:s.heap.objs.size<=C)(old:∀b o,s.heap.get? b=some o->h1.get? b=some o){m1:vW}(IC:h1.Ns C m1)(Xi:CellsOk h1 (C+1) (cellsFrom (C+1) scope.names [])):
 Inv (fU X N scope C fp s H) [] (σC nl js σ) H {s with heap:=h1,toks:=tk}:=by
 have Hs:∀y∈scope.names,y.2=.free->X.env.kindOf y.1=some .cell\/X.env.kindOf y.1=some .free:=λy hy hf=>by
  have:=S.free y hy hf;rw[<-S.out] at this;exact this
 have GZ:∀y∈scope.names,y.2=.free->∃c,X.env.cells.lookup y.1=some c:=λy hy hf=>I.ok.has y.1 (Hs y hy hf);have sub:∀x c,(dh scope.names X.env).lookup x=some c->X.env.cells.lookup x=some c:=λx c e=>eP GZ e;have cs:=jN (X:=X) (C:=C) S GZ;have own:=λ{x c}(e:(cellsFrom (C+1) scope.names []).lookup x=some c)=>Xi.empty x c (PySem.mem_of_lookup e);have ext:∀{x c},(jy X scope C).lookup x=some c->X.env.cells.lookup x=some c\/C<c:=λ{x c} e=>(cs x c e).imp id λz=>(own z).2
 have Kq:∀{x c},X.env.cells.lookup x=some c->c<s.heap.objs.size:=λ{x c} e=>by
  obtain⟨v,q⟩:=I.cell x c e;exact q.lt
 have Jl:∀b∈fp,b∉dG X.stack:=λb hb z=>by
  rcases List.mem_cons.mp (I.aak b z) with q|q
  ·exact(f b hb).2.1 q
  ·exact(f b hb).2.2.1 q
 refine⟨⟨I.ok.mod,S.kind,I.ok.glob,I.ok.blt,hC,λx y c e1 e2=>?_,λx hx=>?_,λx c z e=>?_,I.ok.hd,I.ok.frames,.inl rfl,
  λb hb=>⟨Nat.ne_of_lt (Nat.lt_of_lt_of_le (HZ b hb) hC),λx c e=>(ext e).elim (λz=>(f b hb).2.2.2.2.1 x c z) λz=>Nat.ne_of_gt (Nat.lt_of_lt_of_le (HZ b hb) (Nat.le_trans hC (Nat.le_of_lt z)))⟩,I.bs,Nat.le_trans I.ok.bsz I.sz,λb o e hb=>?_,Jl,I.stack,I.aaG⟩,
  rfl,I.bare,Un.kept old,⟨m1,IC,λi x v e1 e2 e3=>?_⟩,λx c e=>?_,I.hok.fresh hC,λx c e=>(ext e).elim (λz=>I.aam x c z) λz=>I.hok.fresh (Nat.le_trans hC (Nat.le_of_lt z)),λp hp=>absurd (show p∈([]:List (Addr×Obj)) from hp) (by simp),I.hok.kept old,?_⟩
 ·rcases cs x c e1 with z1|z1 <;> rcases cs y c e2 with z2|z2
  ·exact I.ok.inj x y c z1 z2
  ·exact absurd (Nat.lt_of_lt_of_le (Kq z1) (Nat.le_trans hC (Nat.le_of_lt (own z2).2))) (Nat.lt_irrefl _)
  ·exact absurd (Nat.lt_of_lt_of_le (Kq z2) (Nat.le_trans hC (Nat.le_of_lt (own z1).2))) (Nat.lt_irrefl _)
  ·exact PySem.name_of_addr Xi.apart (PySem.mem_of_lookup z1) (PySem.mem_of_lookup z2)
 ·have hx:(relabel scope X.env).names.lookup x=some .cell\/(relabel scope X.env).names.lookup x=some .free:=hx
  have m:(x,NameKind.free)∈scope.names\/scope.names.lookup x=some .cell:=by
   rcases hx with z|z
   ·exact fW z (.inl rfl)
   ·exact fW z (.inr rfl)
  exact vO m
 ·have z:scope.names.lookup x=some .cell:=eq_of_beq z;obtain⟨c',GV⟩:=Option.isSome_iff_exists.mp (PySem.W.cellsFrom_some scope.names (C+1) [] (.inl z));have e:(jy X scope C).lookup x=some c:=e;unfold jy at e;rw[List.lookup_append,GV] at e
  cases e
  exact Nat.le_trans hC (Nat.le_of_lt (own GV).2)
 ·rcases(f b hb).2.2.2.1 with z|z
  ·exact I.ok.abh b o e z
  ·exact absurd (Nat.lt_of_lt_of_le (Heap.lt_size e) (Nat.le_trans I.ok.bsz z)) (Nat.lt_irrefl _)
 ·-- JW names
  have e1:N[i]?=some x:=e1;unfold σC at e2
  by_cases hi:i<nl
  ·rw[List.getElem?_append_left (by simpa using hi),List.getElem?_replicate] at e2
   split at e2 <;> cases e2
  ·obtain⟨k,rfl⟩:∃k,i=nl+k:=⟨i-nl,by omega⟩;rw[List.getElem?_append_right (by simp),List.length_replicate,Nat.add_sub_cancel_left,List.getElem?_map] at e2
   cases ej:js[k]? with
   |none=>rw[ej] at e2;cases e2
   |some j =>
    rw[ej] at e2;have e2:some ((σ[j]?).join)=some (some v):=e2;have e2:=Option.some.inj e2
    have e4:σ[j]?=some (some v):=by
     cases q:σ[j]? with
     |none=>rw[q] at e2;cases e2
     |some z=>rw[q] at e2;exact congrArg some e2
    have e5:(N.drop nl)[k]?=some x:=by rw[List.getElem?_drop];exact e1
    have gp:∀{l1:List Nat}{l2:zF}{k:Nat}{j:Nat}{x:Str},Paired (λj x=>X.N[j]?=some x/\(x,NameKind.free)∈scope.names) l1 l2->l1[k]?=some j->l2[k]?=some x->X.N[j]?=some x/\(x,NameKind.free)∈scope.names:=by
     intro l1 l2 k j x p
     induction p generalizing k with
     |nil=>intro h;simp at h
     |cons r _ ih =>
      intro h1 h2
      cases k with
      |zero=>simp at h1 h2;subst h1;subst h2;exact r
      |succ k=>exact ih (by simpa using h1) (by simpa using h2)
    obtain⟨hx,hm⟩:=gp S.src ej e5;have hk:=Hs (x,.free) hm rfl;obtain⟨m,hn,hl⟩:=I.loc
    have Sb:Ef X.env.scope x:=by
     rcases hk with z|z
     ·exact .inr (.inl z)
     ·exact .inr (.inr z)
    obtain⟨u,r,l⟩:=hl j x v hx e4 Sb;refine⟨u,r,?_⟩
    rcases l with⟨k1,_⟩|⟨_,c,hc,HN⟩
    ·exfalso
     rcases hk with z|z <;> (rw[z] at k1;cases k1)
    ·obtain⟨c',GV⟩:=iC (env:=X.env) hm;have:=sub x c' GV;rw[hc] at this
     cases this
     have GV:(jy X scope C).lookup x=some c:=by
      unfold jy;rw[List.lookup_append]
      cases q:(cellsFrom (C+1) scope.names []).lookup x with
      |none=>exact GV
      |some c2=>exact absurd (eF scope.names (C+1) (PySem.mem_of_lookup q)) (S.cell (x,.free) hm rfl)
     refine .inr ⟨?_,c,GV,?_⟩
     ·rcases e3 with z|z|z
      ·-- a name of JW Kl own: no
       exfalso
       have lk:scope.names.lookup x=some .local:=by
        have gen:∀(l:List (Str×NameKind)),(l.map λ(n,k)=>if(k==NameKind.free&&X.env.scope.kind == .function&&X.env.kindOf n==some .cell) then(n,NameKind.cell) else(n,k)).lookup x=some .local->l.lookup x=some .local:=by
         intro l
         induction l with
         |nil=>intro h;simp at h
         |cons p r ih =>
          obtain⟨n,k0⟩:=p;intro h;have h:List.lookup x ((if(k0==NameKind.free&&X.env.scope.kind == .function&&X.env.kindOf n==some .cell)=true then(n,NameKind.cell) else(n,k0)):: r.map λ(n,k)=>if(k==NameKind.free&&X.env.scope.kind == .function&&X.env.kindOf n==some .cell) then(n,NameKind.cell) else(n,k))=some .local:=h
          cases hb:x==n with
          |true =>
           by_cases GV:(k0==NameKind.free&&X.env.scope.kind == .function&&X.env.kindOf n==some .cell)=true
           ·rw[if_pos GV] at h;simp only[List.lookup_cons,hb] at h;cases h
           ·rw[if_neg GV] at h;simp only[List.lookup_cons,hb] at h |-;exact h
          |false =>
           simp only[List.lookup_cons,hb];refine ih ?_
           by_cases GV:(k0==NameKind.free&&X.env.scope.kind == .function&&X.env.kindOf n==some .cell)=true
           ·rw[if_pos GV] at h;simp only[List.lookup_cons,hb] at h;exact h
           ·rw[if_neg GV] at h;simp only[List.lookup_cons,hb] at h;exact h
        exact gen _ z
       exact S.abR (x,.free) hm rfl lk
      ·exact .inl z
      ·exact .inr z
     ·obtain⟨o,ho,hd⟩:=HN;exact⟨o,old _ _ ho,hd⟩
 ·rcases cs x c e with z|z
  ·obtain⟨v,o,ho,hd⟩:=I.cell x c z;exact⟨v,o,old _ _ ho,hd⟩
  ·exact⟨none,(own z).1⟩
 ·show(σC nl js σ).length=N.length;unfold σC;rw[List.length_append,List.length_replicate,List.length_map,S.len]
theorem oU {J:It}{it:Addr}{fp:List Addr}{tn:Nat->Heap->Prop}{g:TG}{tt:TT}{te:TE}{W:Nat->Nat->List V->St->Hp->Prop}{Fin:List V->Hp->Prop}
 {E:pL}{RR:Value->Addr->Result->Shared->Prop}
 (S:C9 X N nl js osc scope)(hc:X.calm=true)(hg:∀C fp s H,PG (fU X N scope C fp s H) tg g)(ht:∀C fp s H,xp (fU X N scope C fp s H) ifs tt)(he:∀C fp s H,PE (fU X N scope C fp s H) elt te)
 (I:Inv X pins σ H s)(T:Turn X.prog X.w X.K tg J fp it tn)(st:tn 0 s.heap)(f:∀b∈fp,cg X pins H b)(w0:∃m,W 0 m [] (σC nl js σ) H)(hW:gK J g tt te W Fin)
 (Nx:∀(D C:Addr)(H':Hp)(s':GB)(xs:List V)(m:vW),Inv X pins σ (upd H' D (.lst xs)) s'->H' D=none->s'.heap.Ns C m->cg X pins (upd H' D (.lst xs)) C->Fin xs H'->RR (.ref D) C (.ok .next) s'):
 wpAny (model X.prog X.w) X.A (newList []) (λacc s₃=>wpAny (model X.prog X.w) X.A (newFunctionEnv scope X.env.globals (dh scope.names X.env) [] X.env.qual none .none (some X.env)) (λIe s₄ =>
  codeAny (model X.prog X.w) X.A (.compStart (.ListComp elt [⟨tg,iter,ifs,0⟩] scope pos) 0 (.ref it) acc {Ie with scope:=relabel scope X.env}) (RR acc Ie.locals) s₄) E s₃) E s:=by
 have HZ:∀b∈fp,b<s.heap.objs.size:=λb hb=>by
  obtain⟨o,e,_⟩:=T.obj 0 _ st b hb;exact Heap.lt_size e
 refine wpAny_newObj_type (mR λh₁ HC Hl Rx=>?_);dsimp only at HC Hl Rx |-;generalize Jm:s.heap.push {cls:=.type "list",dict:=none,data:=.seq ([]:nv).toArray}=H2 at HC Hl Rx |-
 have hC:H2.objs.size=s.heap.objs.size+1:=by rw[<-Jm,Heap.size_push]
 have IT:s.heap.objs.size≠H2.objs.size:=by rw[hC];exact Nat.ne_of_lt (Nat.lt_succ_self _)
 have below:∀b,b<s.heap.objs.size->b≠H2.objs.size/\b≠s.heap.objs.size:=λb hb=>⟨by rw[hC];exact Nat.ne_of_lt (Nat.lt_succ_of_lt hb),Nat.ne_of_lt hb⟩;have old:∀b o,s.heap.get? b=some o->h₁.get? b=some o:=λb o e=>Hl b o (Jm▸Heap.get?_push_of_some _ e);have Jn:h₁.get? s.heap.objs.size=some {cls:=.type "list",data:=.seq ([]:nv).toArray 0}:=Hl _ _ (Jm▸Heap.get?_push_size _ rfl)
 have HH:s.heap.objs.size<=H2.objs.size:=by rw[hC];exact Nat.le_succ _
 have GZ:∀y∈scope.names,y.2=.free->∃c,X.env.cells.lookup y.1=some c:=λy hy hf=>by
  have z:=S.free y hy hf;rw[<-S.out] at z;exact I.ok.has y.1 z
 have sub:∀x c,(dh scope.names X.env).lookup x=some c->X.env.cells.lookup x=some c:=λx c e=>eP GZ e;have cs:=jN (X:=X) (C:=H2.objs.size) S GZ;have ext:∀{x c},(jy X scope H2.objs.size).lookup x=some c->X.env.cells.lookup x=some c\/H2.objs.size<c:=λ{x c} e=>(cs x c e).imp id λz=>(Rx.empty x c (PySem.mem_of_lookup z)).2
 have Ny:∀x c,X.env.cells.lookup x=some c->c<s.heap.objs.size:=λx c e=>by
  obtain⟨v,q⟩:=I.cell x c e;exact q.lt
 have Jl:∀b∈fp,b∉dG X.stack:=λb hb z=>by
  rcases List.mem_cons.mp (I.aak b z) with q|q
  ·exact(f b hb).2.1 q
  ·exact(f b hb).2.2.1 q
 have Km:s.heap.objs.size∉dG X.stack:=λz=>by
  rcases List.mem_cons.mp (I.aak _ z) with q|q
  ·exact absurd I.lt (by rw[<-q];exact Nat.lt_irrefl _)
  ·exact I.abz (Nat.le_refl _) q
 have KN:s.heap.objs.size∉fp:=λz=>Nat.lt_irrefl _ (HZ _ z)
 have Jo:∀{H':Hp}{ob:Obj},(∀b∈fp,H' b=none)->∀b∈fp,cg (fU X N scope H2.objs.size fp s H) [(s.heap.objs.size,ob)] H' b:=λ{H' ob} hn b hb =>
  ⟨hn b hb,(below b (HZ b hb)).1,Jl b hb,.inl hb,λx c e=>(ext e).elim (λz=>(f b hb).2.2.2.2.1 x c z) λz=>Nat.ne_of_gt (Nat.lt_trans (Nat.lt_of_lt_of_le (HZ b hb) HH) z),λp hp z=>by
   have e:p=(s.heap.objs.size,ob):=by
    have:p∈[(s.heap.objs.size,ob)]:=hp;simpa using this
   subst e
   exact KN (by rw[show s.heap.objs.size=b from z];exact hb)⟩
 have Ko:∀{H':Hp},H' s.heap.objs.size=none->cg (fU X N scope H2.objs.size fp s H) [] H' s.heap.objs.size:=λ{H'} hn =>
  ⟨hn,IT,Km,.inr (Nat.le_refl _),λx c e=>(ext e).elim (λz=>Nat.ne_of_lt (Ny x c z)) λz=>Nat.ne_of_gt (Nat.lt_of_le_of_lt HH z),λp hp=>absurd (show p∈([]:List (Addr×Obj)) from hp) (by simp)⟩
 have ID:∀{σ':St}{H':Hp}{s':GB}{ys:nv}{k:Nat},Inv (fU X N scope H2.objs.size fp s H) [] σ' H' s'->H' s.heap.objs.size=none->s'.heap.get? s.heap.objs.size=some (n8 ys k) →
  Inv (fU X N scope H2.objs.size fp s H) [(s.heap.objs.size,n8 ys k)] σ' H' s':=λ{σ' H' s' ys k} I' hn hl=>I'.aah λp hp=>by
  have e:p=(s.heap.objs.size,n8 ys k):=by simpa using hp
  subst e;exact⟨hl,hn,IT,Km,λv z=>by cases z⟩
 have iA:∀s₃:Shared,s₃={s with heap:=h₁} →
  codeAny (model X.prog X.w) X.A (.compLoop (.ListComp elt [⟨tg,iter,ifs,0⟩] scope pos) 0 (.ref it) (.ref s.heap.objs.size) (compEnvC scope (jy X scope H2.objs.size) H2.objs.size X.env))
   (RR (.ref s.heap.objs.size) H2.objs.size) s₃:=by
  rintro s₃ rfl;obtain⟨m0,w0⟩:=w0;have I0:Inv (fU X N scope H2.objs.size fp s H) [] (σC nl js σ) H {s with heap:=h₁}:=qk (tk:=s.toks) S I f HZ HH old HC Rx
  refine hU (λn s'=>∃i σ' H' xs ys k,Inv (fU X N scope H2.objs.size fp s H) [(s.heap.objs.size,n8 ys k)] σ' H' s'/\tn i s'.heap/\(∀b∈fp,H' b=none)/\aL xs ys/\W i n xs σ' H') ?_ m0
   ⟨0,σC nl js σ,H,[],[],0,ID I0 (I.hok.fresh (Nat.le_refl _)) Jn,T.keep _ _ _ st λb _ o e=>old b o e,λb hb=>(f b hb).1,.nil,w0⟩
  rintro n s' ⟨i,σ',H',xs,ys,k,I',Hz,KO,rv,w'⟩;obtain⟨hz,hw⟩:=hW i n xs σ' H' w'
  rcases hw with⟨stop,fin⟩|⟨go,step⟩
  ·refine wpAny_mono (T.done (fU X N scope H2.objs.size fp s H) rfl rfl rfl hc i _ s' σ' H' (λ_ _=>False) I' (Jo KO) Hz stop) (λr s1 z'=>?_) λ_ _ z=>z;obtain⟨hr,I1⟩:=z';subst hr;obtain⟨p1,p2,_⟩:=I1.pin (s.heap.objs.size,n8 ys k) (by show _∈([]:List (Addr×Obj))++[_];simp);have u1:Un (dG X.stack) fp H H' s.heap s1.heap:=I1.base
   have u2:Un (dG X.stack) fp H (upd H' s.heap.objs.size (.lst xs)) s.heap s1.heap:=⟨u1.keep,u1.slot,λb o e n hx=>by rw[ar (Nat.ne_of_lt (Heap.lt_size e))];exact u1.free b o e n hx,u1.there,
    λb zs e=>by rw[ar (au (u1.aao b zs e) p2)];exact u1.aao b zs e,λb o zs e=>by rw[ar (au (u1.aal b o zs e) p2)];exact u1.aal b o zs e,λb ps e=>by
     obtain⟨mo,q⟩:=u1.aau b ps e
     exact⟨mo,by rw[ar (au q p2)];exact q⟩⟩
   have hk:fR X.prog X.w (upd H' s.heap.objs.size (.lst xs)) s1.heap:=dQ I1.hok p2 ⟨Nat.le_of_lt hz,ys,k,rv,p1⟩;have I3:Inv X pins σ (upd H' s.heap.objs.size (.lst xs)) s1:=I.abl I1.os u2 hk I1.bare λb hb=>⟨(f b hb).2.2.2.1,(f b hb).2.1,(f b hb).2.2.2.2.1,(f b hb).2.2.2.2.2⟩;obtain⟨mm,Nz,_⟩:=I1.loc
   have Sd:upd H' s.heap.objs.size (.lst xs) H2.objs.size=none:=by rw[ar (Ne.symm IT)];exact I1.free
   exact Nx _ _ H' s1 xs mm I3 p2 Nz (I.aaJ HH Sd) fin
  ·refine wpAny_mono (T.item (fU X N scope H2.objs.size fp s H) rfl rfl rfl hc i _ s' σ' H' (λ_ _=>False) I' (Jo KO) Hz go) (λr s1 z'=>?_) λ_ _ z=>z;obtain⟨u,hr,h4⟩:=z';subst hr;refine wpAny_mono h4 (λ_ s2 z'=>?_) λ_ _ z=>z;obtain⟨x,KP,I2,r2,y2,HG,NA⟩:=z';have NB:=I2.pinned (Jo NA) (T.obj _ _ HG);refine wpAny_mono (hg _ _ _ _ _ s2 σ' KP x u _ NB r2 (step x KP y2)) (λ_ s3 z'=>?_) λ_ _ z=>z;obtain⟨σ3,H3,I3,q3⟩:=z';refine wpAny_mono (ht _ _ _ _ _ s3 σ3 H3 _ I3 q3) (λok s4 z'=>?_) λ_ _ z=>z;obtain⟨H4,I4,q4⟩:=z'
   have back:∀{s5:GB}{H5:Hp},Inv (fU X N scope H2.objs.size fp s H) ([(s.heap.objs.size,n8 ys k)]++c8 fp s2.heap) σ3 H5 s5->tn (i+1) s5.heap/\∀b∈fp,H5 b=none:=λ{s5 H5} I5 =>
    ⟨T.keep _ _ _ HG λb hb o e=>(I5.pin (b,o) (List.mem_append_right _ (List.mem_append_right _ (b0 hb e)))).1,λb hb=>by
     obtain⟨o,e,d⟩:=T.obj _ _ HG b hb
     exact(I5.pin (b,o) (List.mem_append_right _ (List.mem_append_right _ (b0 hb e)))).2.1⟩
   cases ok with
   |false =>
    rw[if_neg Bool.false_ne_true] at q4 |-;obtain⟨m',hm,w4⟩:=q4;exact⟨m',hm,i+1,σ3,H4,xs,ys,k,I4.aai,(back I4).1,(back I4).2,rv,w4⟩
   |true =>
    rw[if_pos rfl] at q4 |-;refine wpAny_mono (he _ _ _ _ _ s4 σ3 H4 _ I4 q4) (λv s5 z'=>?_) λ_ _ z=>z;obtain⟨y,H5,I5,r5,m',hm,w5⟩:=z';obtain⟨p1,p2,_⟩:=I5.pin (s.heap.objs.size,n8 ys k) (List.mem_append_right _ (List.mem_append_left _ (by simp)));obtain⟨Lv,Ng⟩:=back I5;refine append_at (its:=ys.toArray) p1 (λh' sb hD=>?_) (by rw[List.size_toArray,<-rv.length];exact Nat.le_of_lt hz);have I6:Inv (fU X N scope H2.objs.size fp s H) [] σ3 H5 {s5 with heap:=h'}:=cj (I5.aah (pins':=[]) λp hp=>absurd hp (by simp)) (Ko p2) sb;refine⟨m',hm,i+1,σ3,H5,xs++[y],ys++[v],k+1,ID I6 p2 ?_,T.keep _ _ _ Lv λb hb o e=>(sb.2 b λz=>KN (z▸hb)).trans e,Ng,rv.append (.cons r5 .nil),w5⟩;rw[hD];show some _=some (n8 (ys++[v]) (k+1));rw[n8,<-List.push_toArray]
 exact codeAny_compStart_list (iA _ rfl) (T.self X.A 0 _ _ _ (T.keep _ _ _ st λb _ o e=>old b o e) (iA _ rfl))
theorem om (S:C9 X N nl js osc scope)(I:Inv X pins σ H s):closureFor scope X.env=pure (dh scope.names X.env):=gQ λy hy hf=>by
 have z:=S.free y hy hf;rw[<-S.out] at z;exact I.ok.has y.1 z
theorem vU {i:Nat}{y:Str}{py Jp:Pos}{wi:TI}{g:TG}{tt:TT}{te:TE}(S:C9 X N nl js osc scope)(hc:X.calm=true)(hN:X.N.Nodup)(hy:X.N[i]?=some y)(hl:CI X.env.scope y)(hi:PI X tg iter wi)
 (hg:∀C fp s H,PG (fU X N scope C fp s H) tg g)(ht:∀C fp s H,xp (fU X N scope C fp s H) ifs tt)(he:∀C fp s H,PE (fU X N scope C fp s H) elt te)
 (Se:swapsWith (.ListComp elt [⟨tg,iter,ifs,0⟩] scope pos) (some (.Name y py)) Jp.line X.env=pure true)(hs:∀x,foldedSetIterable iter X.env x=pure x:=by intro _;rfl)
 (hf:X.fn y=true\/X.env.scope.names.lookup y=some .local:=by first|exact .inl rfl|exact .inr rfl|assumption):
 PS X (.Assign [.Name y py] (.ListComp elt [⟨tg,iter,ifs,0⟩] scope pos) Jp) (tR (xg wi g tt te nl js) (bg i)):=by
 intro pins s σ H D I h;rw[exec_Assign_Name_used _ _ _ _ Se];refine wpAny_bind (wpAny_standAt (wpAny_bind ?_));show wpAny _ X.A (do let _ <-comprehension (.ListComp elt [⟨tg,iter,ifs,0⟩] scope pos) scope X.env _ (newList []) false (eval iter X.env) (some (assign (.Name y py) X.env))) _ _ s
 refine wpAny_bind (wpAny_mono (wpAny_comprehension_free (use:=some (assign (.Name y py) X.env)) (Q:=λ_ s'=>SP X pins D .next s') rfl hs (om S I) S.kind S.names
  (bA (hi pins s σ H _ I h) λv s1 h1=>bA h1 λLr s2 h2=>?_)) (λ_ s' hq=>wpAny_pure (wpAny_pure hq)) λ_ _ e=>e)
 obtain⟨it,fp,tn,J,H2,e,I2,T,HG,f2,W,w0,hW⟩:=h2;subst e;refine oU (RR:=λacc C=>compPost (model X.prog X.w) X.A X.xe (some (assign (.Name y py) X.env)) (λ_ s'=>SP X pins D .next s') acc C) S hc hg ht he I2 T HG f2 w0 hW ?_;intro Dd C H' s' xs m I3 hD hn fC fin;show wpAny _ X.A (assign (.Name y py) X.env (.ref Dd)) _ _ _;refine wpAny_assign_Name (je I3 hN hy hl (show aE (.ref Dd) (.ref Dd) from rfl) (λs4 I4 z'=>?_) hf);obtain⟨a,sb,ha⟩:=z';refine⟨m,hn.sameBut sb ?_,λh' LC=>⟨_,_,cj I4 fC LC,fin Dd hD⟩⟩
 rcases ha with z|z
 ·rw[z];exact fC.2.1
 ·exact λq=>fC.2.2.2.2.1 _ _ z q.symm
end
open PySem.W
theorem DU {X:Cx}{K:PySem.W.Frag}(hK:X.K=K){l:Expr}{tl:TE}{elts:Bj}{x1:Nat}{tp p pos:Pos}(hl:PE X l tl)(hg:Gl X "enumerate")(hm:X.mg "enumerate"=none)(hs:dB l=false:=by rfl):
 PI X (.Tuple elts x1 tp) (.Call (.Name "enumerate" p) [l] [] pos) (AG K tl):=by
 subst hK;exact jD hl hg hm hs
end L2
namespace K75
open PySem L2 PySem.W Nm Srt
variable {H:Hp}
theorem jL {K:PySem.W.Frag}{a:Addr}{xs:List V}{tt:TT}{te:TE}{rest:St}{F:List V->Hp->Prop}(Pv:Nat->List V->Hp->Prop)(h0:Pv 0 [] H)
 (hz:∀i ys H',i<=xs.length->Pv i ys H'->ys.length<sizeLine/\aN K H' a xs)
 (hs:∀i x ys H' T (N:List V->Hp->Prop),i<xs.length->xs[i]?=some x->Pv i ys H'->H' T=none->(∀zs H5,Pv (i+1) zs H5->N zs H5) →
  tt (some (.int i):: some x::rest) (upd H' T (.tup [.int i,x])) λb H4=>if b=true then te (some (.int i):: some x::rest) H4 λy H5=>N (ys++[y]) H5 else N ys H4)
 (hd:∀ys H',Pv xs.length ys H'->F ys H'):
 ∃W:Nat->Nat->List V->St->Hp->Prop,(∃m,W 0 m [] (none::none::rest) H)/\gK (EE K a) (gq K 2 (bD (bg 0) (bD (bg 1) ve))) tt te W F:=by
 refine⟨λi m ys σ H'=>m=xs.length-i/\i<=xs.length/\Pv i ys H'/\∃o o2,σ=o::o2::rest,⟨xs.length,by simp,Nat.zero_le _,h0,none,none,rfl⟩,?_⟩;rintro i m ys σ H' ⟨rfl,hi,p,o,o2,rfl⟩;obtain⟨z1,z2⟩:=hz i ys H' hi p;refine⟨z1,?_⟩
 by_cases GR:i<xs.length
 ·refine .inr ⟨⟨xs,xs[i],z2,by simp[GR]⟩,λv H2 hy=>?_⟩;obtain⟨T,x,hx,hT,rfl,rfl⟩:=hy
  exact⟨T,[.int i,x],rfl,bo.of ae,rfl,_,_,rfl,_,_,rfl,rfl,hs i x ys H' T (λzs H5=>∃m',m'<xs.length-i/\m'=xs.length-(i+1)/\i+1<=xs.length/\Pv (i+1) zs H5/\∃o o2,(some (.int i):: some x::rest:St)=o::o2::rest) GR (hx xs z2) p hT
   λzs H5 h=>⟨xs.length-(i+1),by omega,rfl,GR,h,_,_,rfl⟩⟩
 ·have:i=xs.length:=by omega
  subst this;exact .inl ⟨⟨xs,z2,Nat.le_refl _⟩,hd ys H' p⟩
abbrev EX:Stmt:=(aO 45)
abbrev CH:Stmt:=(aO 48)
abbrev Fp:Stmt:=(aO 49)
theorem Fq:yJ rg rg (ai EX):=dE (by decide +kernel)
theorem zq:yJ ["edges","odd","knots","field","noughts"] yT (ai CH):=dE (by decide +kernel)
theorem Fu:yJ yT yT (ai Fp):=dE (by decide +kernel)
def Gx (scope osc:Scope):Scope:={scope with names:=scope.names.map λ(n,k)=>if(k == .free&&osc.kind == .function&&osc.names.lookup n==some .cell) then(n,.cell) else(n,k)}
def Dj (d:Scope):Stmt->Scope
 | .Assign _ (.ListComp _ _ sc _) _=>sc
 | .Return (some (.ListComp _ _ sc _)) _=>sc
 |_=>d
def ET (s:Stmt)(i:Nat):Stmt:=match s with
 | .FunctionDef _ _ b _ _ _ _ _ _ _=>(b[i]?).getD s
 |_=>s
def Gy:Scope:=Gx (Dj (ai CH) (ET CH 2)) (ai CH)
def CK (p:Int)(ks:List Int)(aO:Int):List Tm:=(ks.map λk=>([k],((1,1):Int×Int)))++[([],cm p aO)]
theorem zo {p:Int}{ks:List Int}{aO:Int}(b:∀k∈ks,0<=k/\k<60):∀t∈CK p ks aO,B9 t.1:=λt h=>by
 rcases List.mem_append.mp h with h|h
 ·obtain⟨k,hk,rfl⟩:=List.mem_map.mp h;exact qo (List.pairwise_singleton _ _) (λi hi=>by rw[List.mem_singleton.mp hi];exact b k hk) (by show 1<4000;decide)
 ·rw[List.mem_singleton.mp h];exact qo .nil (λi hi=>nomatch hi) (by show 0<4000;decide)
theorem v7 (es:Eg)(od:List Int)(k:Int):CK 2 ((yf es k).map λi:Nat=>(i:Int)) (kt od k)=wT es od k:=by simp[CK,wT,rT,Function.comp_def]
def CZ (C CF:Addr):Sp:=λvs H Q _=>∃(fl GQ l:Addr)(p aO:Int)(ks:List Int),vs=[.ref fl,.ref l,.int aO]/\H fl=some (.ins CF GQ (df p))/\FP p/\H l=some (.lst (ks.map V.int))/\(∀k∈ks,0<=k/\k<60)/\ks.length<=60/\pH p (CK p ks aO) /\
 ∀H' x,aC H H'->qe C CF H' x p (tg p (CK p ks aO))->Q (.ref x) H'
theorem vT {ts:List Tm}{n:Int}(hn:0<=n)(h:∀t∈ts,∀k∈t.1,k<n):i7 ts<=n:=by
 unfold i7
 by_cases ne:(ts.filter λt=>!t.1.isEmpty).map iI=[]
 ·rw[ne];exact hn
 ·obtain⟨b,e,b1,b2⟩:=uX ne;rw[e];show b<=n;obtain⟨t,ht,rfl⟩:=List.mem_map.mp b1;obtain⟨Iz,Jg⟩:=List.mem_filter.mp ht
  have ne1:t.1≠[]:=by intro z;rw[z] at Jg;cases Jg
  have:t.1.getLastD 0∈t.1:=by
   rw[List.getLastD_eq_getLast?,List.getLast?_eq_some_getLast ne1];exact List.getLast_mem ne1
  have:=h t Iz _ this;unfold iI;omega
variable {es:Eg}
theorem vw {k:Int}{i:Nat}{e:Int×Int}(h:es[i]?=some e):iK (.int k) [.int e.1,.int e.2]=cW es k i:=by
 have z:=jg k [e.1,e.2];have y:iK (.int k) [.int e.1,.int e.2]=iK (.int k) ([e.1,e.2].map V.int):=rfl;rw[y,z];unfold cW
 have:es.getD i (0,0)=e:=by rw[List.getD_eq_getElem?_getD,h];rfl
 rw[this]
 by_cases a:k=e.1
 ·simp[a]
 ·by_cases b:k=e.2 <;> simp[a,b]
variable {C CF:Addr}
theorem GA {CS:Addr}{Q:Hp->Prop}{E:XK}{x:V}{fl:Addr}{p n:Int}{as:List Addr}(r:Rt C CF p n H x fl as){s dx:Addr}(h1:H s=none)(h2:H dx=none)(ne:dx≠s)(q:∀H',aC H H'->Dt CS CF H' s fl p n as []->Q H'):
 Bq CS C CF [.ref s,.ref fl,.int n,x,.non] (upd (upd H dx (.own s)) s (.ins CS dx [])) (λv H2=>v=.non/\Q H2) E:=by
 have hS:aC H (upd (upd H dx (.own s)) s (.ins CS dx [])):=(ah h2).trans (ah (by rw[ar (Ne.symm ne)];exact h1));refine⟨s,dx,fl,x,p,n,as,rfl,ae,r.aaz (.of hS),λH' A B k _ _ _ hs hA hB=>⟨rfl,?_⟩⟩;have sH:=me h1 h2 ne k;obtain⟨GQ,hf⟩:=r.f;exact q H' sH ⟨⟨dx,GQ,A,B,hs,sH _ _ hf,hA,hB⟩,r.l.len,Nat.zero_le _⟩
def qW (es:Eg)(od ks:List Int):List (List Tm):=ks.map λk=>tg 2 (wT es od k)
theorem Ee {s:Addr}{od:List Int}{k:Int}(w:FA es od)(h:qe C CF H s 2 (tg 2 (wT es od k))):WX C CF 2 (es.length:Nat) H (.ref s) true:=by
 have l:(tg 2 (wT es od k)).length<=61:=Nat.le_trans (nA _ _) (by have:=qc es od k;have:=w.hi;omega);have sw:SW C CF H s 2 (tg 2 (wT es od k)):=⟨h,F2,by omega,λt ht=>by have:=(wU (qH ht)).2.1;omega⟩;have r:i7 (tg 2 (wT es od k))<=(es.length:Nat):=vT (by omega) λt ht i hi=>((wU (qH ht)).2.2 i hi).2;have:=WX.sum (p:=2) (n:=((es.length:Nat):Int)) sw;rw[decide_eq_true rfl,decide_eq_true r] at this;exact this
theorem Gw {fl GQ D:Addr}{as:List Addr}{od ks:List Int}(w:FA es od)(hk:Kn es ks)(hf:H fl=some (.ins CF GQ (df 2)))(hD:H D=some (.lst (as.map V.ref)))(S:lG C CF 2 H as (qW es od ks)):Rt C CF 2 (es.length:Nat) H (.ref D) fl as:=by
 have:=w.lo;have:=w.hi;have k7:=hk.len w;refine⟨⟨GQ,hf⟩,by omega,by omega,⟨⟨D,rfl,hD⟩,by rw[S.length];unfold qW;rw[List.length_map];omega,λu hu=>?_⟩⟩;obtain⟨i,hi⟩:=List.mem_iff_getElem?.mp hu;obtain⟨ts,et,hs⟩:=aW S hi;obtain⟨k,_,e⟩:=List.mem_map.mp (List.mem_of_getElem? et);rw[<-e] at hs;exact Ee w hs
def CP (CS C CF:Addr):Sp:=λvs H Q _=>∃(a b:Addr)(ys:List V)(es:Eg)(od:List Int),vs=[.ref a,.ref b]/\H a=some (.lst ys)/\oa H ys es/\H b=some (.lst (od.map V.int))/\FA es od /\
 ∀H' sy fl as ks,aC H H'->Kn es ks->Dt CS CF H' sy fl 2 (es.length:Nat) as []->lG C CF 2 H' as (qW es od ks)->Q (.ref sy) H'
def Di (C CF:Addr):Sp:=λvs H Q _=>∃(a b:Addr)(ys:List V)(es:Eg)(od:List Int),vs=[.ref a,.ref b]/\H a=some (.lst ys)/\oa H ys es/\H b=some (.lst (od.map V.int))/\FA es od /\
 ∀H' D us ks,aC H H'->H D=none->Kn es ks->H' D=some (.lst (us.map V.ref))->lG C CF 2 H' us (ks.map λ_=>[([],((1,1):Int×Int))])->Q (.ref D) H'
variable {P:vB}{w:World}{K:PySem.W.Frag}{mg:vW}{base:Heap}
variable {f:Addr}{fd:EK}
theorem C6 {fm fs NN:Addr}{JD KW:EK}{tM:Tok}(F:vM K "places_sum" "places_sum" EX f fd)(cF:BJ K mg CF)(cS:A8 K mg C)(MS:Mk K C fs)
 (Ro:Bp P w K mg base (bf P w) 4 fm JD zp (mZ CF NN))(Rp:L2.ay K JD zp [.int 1 tM])(Rq:L2.Meth K CF "made" fm)
 (Tj:Bp P w K mg base (bf P w) 6 fs KW FH (jG C CF))(LW:L2.ay K KW FH []):Bp P w K mg base (bf P w) 8 f fd rg (CZ C CF):=by
 refine F.okN Fq (λvs H Q E h=>?_) (λGN A outer s H vs Q E hr h=>?_)
 ·obtain⟨fl,GQ,l,p,aO,ks,rfl,_⟩:=h;rfl
 ·obtain⟨fl,GQ,l,p,aO,ks,rfl,hf,hp,hl,hk,kl,G,q⟩:=h;have HR:wK 4 _:=hr.mono (by decide);have Tn:wK 7 _:=hr
  refine⟨_,(aq (aA (gA MS Tj Tn (by rfl) cS.mgC LW .nil ag (@ak _ _ _ _ _ (pv 0) (@ak _ _ _ _ _ (@aD _ _ _ _ _ _ _ _ fE (bX (N:=["place","field"]) (nl:=1) (js:=[0]) (osc:=ai EX) ⟨rfl,rfl,by decide +kernel,by decide +kernel,by decide +kernel,rfl,(.cons ⟨rfl,by decide +kernel⟩ .nil),by decide +kernel⟩ rfl
   (bu (pv 1))
   (λCq fq sq Hq=>av (i:=0) (by show(["place","field"]:zF).Nodup;decide +kernel) rfl (Or.inl rfl) (Or.inr rfl))
   (λCq fq sq Hq=>bK)
   (λCq fq sq Hq=>(@bh _ _ _ _ _ (@ak _ _ _ _ _ (@bh _ _ _ _ _ (@ak _ _ _ _ _ (pv 0) af rfl)) (@ak _ _ _ _ _ (fb (dvs:=[.int 1]) (pv 1) cF.cl Rq Ro HR Rp (.cons ⟨_,rfl⟩ .nil) ag (@ak _ _ _ _ _ ao af rfl)) af rfl) rfl)))) (@cu _ _ _ _ (@ak _ _ _ _ _ (@bh _ _ _ _ _ (@ak _ _ _ _ _ (@bh _ _ _ _ _ af) (@ak _ _ _ _ _ (fb (dvs:=[.int 1]) (pv 0) cF.cl Rq Ro HR Rp (.cons ⟨_,rfl⟩ .nil) ag (@ak _ _ _ _ _ (pv 2) af rfl)) af rfl) rfl)) af rfl))) af rfl) rfl)))),?_⟩
  refine⟨_,rfl,_,rfl,l,rfl,⟨_,aN.of hl⟩,?_⟩;refine c6 (a:=l) (xs:=ks.map V.int) (rest:=[some (.ref fl)]) (λj us H'=>aC H H'/\aU H' us ((ks.take j).map λk=>([k],((1,1):Int×Int)))) ⟨aC.refl _,.nil⟩ (λj us H' hj h=>?_) (λj x us H' M hj hx h hM=>?_) (λus H' h=>?_)
  ·refine⟨?_,aN.of (h.1 _ _ hl)⟩;rw[h.2.length,List.length_map,List.length_take];exact Nat.lt_of_le_of_lt (by omega:_<=60) (by decide)
  ·obtain⟨s1,hu⟩:=h;rw[List.getElem?_map] at hx;obtain⟨k,ek,rfl⟩:=Option.map_eq_some_iff.mp hx;refine ku ⟨_,rfl,vm,λt1 Iz=>?_⟩;have s2:=ah (o:=.tup [.int k]) Iz;have e2:upd H' t1 (.tup [.int k]) t1=some (.tup [.int k]):=ae;generalize upd H' t1 _=H2 at s2 e2 |-;have Xj:=s2 _ _ (s1 _ _ hf);refine⟨_,rfl,fl,GQ,_,rfl,Xj,rfl,?_⟩;refine wm Xj hp λa ha=>?_;rw[n5 hp];have s3:=ah (o:=bO 1 1) ha;have e3:upd H2 a (bO 1 1) a=some (bO 1 1):=ae;generalize upd H2 a _=H3 at s3 e3 |-;refine⟨gc,λt2 Jg=>hM _ _ ?_⟩;have s4:=ah (o:=.tup [.ref t1,.ref a]) Jg;have sA:=s2.trans (s3.trans s4);refine⟨s1.trans sA,?_⟩;rw[List.take_add_one,ek,List.map_append];exact Paired.snoc (aU.keep hu (aF.of sA)) ⟨t2,t1,a,rfl,ae,s4 _ _ (s3 _ _ e2),s4 _ _ e3⟩
  ·obtain⟨s1,hu⟩:=h;rw[List.length_map,List.take_length] at hu;intro D hD;have s2:=ah (o:=.lst us) hD;have e2:upd H' D (.lst us) D=some (.lst us):=ae;generalize upd H' D _=H2 at s2 e2 |-;refine⟨Nat.zero_le _,λt1 Iz=>?_⟩;have s3:=ah (o:=.tup []) Iz;have e3:upd H2 t1 (.tup []) t1=some (.tup []):=ae;generalize upd H2 t1 _=H3 at s3 e3 |-;have Xk:=s3 _ _ (s2 _ _ (s1 _ _ hf));refine⟨_,rfl,fl,GQ,_,rfl,Xk,rfl,_,rfl,?_⟩;refine wm Xk hp λa ha=>?_;have s4:=ah (o:=bO (cm p aO).1 (cm p aO).2) ha;have e4:upd H3 a (bO (cm p aO).1 (cm p aO).2) a=some (bO (cm p aO).1 (cm p aO).2):=ae;generalize upd H3 a _=H4 at s4 e4 |-;refine⟨gc,λt2 Jg=>?_⟩;have s5:=ah (o:=.tup [.ref t1,.ref a]) Jg;have e5:upd H4 t2 (.tup [.ref t1,.ref a]) t2=some (.tup [.ref t1,.ref a]):=ae;generalize upd H4 t2 _=H5 at s5 e5 |-;refine⟨vm,λL hL=>?_⟩;have s6:=ah (o:=.lst [.ref t2]) hL;have ul:=hu.length;rw[List.length_map] at ul;have Ry:=s3.trans (s4.trans s5);refine⟨D,L,us,_,rfl,rfl,s6 _ _ (Ry _ _ e2),ae,Nat.le_trans (by show us.length+1<=61;omega) (by decide),λD2 H7 K2 s7 e7=>?_⟩;have IX:=s6.trans s7;have sA:=s2.trans (Ry.trans IX);refine λx dx hx LX ne=>?_;refine Ap (ts:=CK p ks aO) (sA _ _ (s1 _ _ hf)) hp e7 ?_ G (zo hk) hx LX ne λH8 s8 hs=>q H8 x (s1.trans (sA.trans s8)) hs;exact ir (aU.keep hu (aF.of sA)) (.cons ⟨t2,t1,a,rfl,IX _ _ e5,(s4.trans (s5.trans IX)) _ _ e3,(s5.trans IX) _ _ e4⟩ .nil)
theorem Dw {fc fp fi fy CS L7:Addr}{JB IU IV N8:EK}(F:vM K "web" "web" CH f fd)(cF:BJ K mg CF)(cS:A8 K mg C)(cY:Fh K mg CS)(MY:Mk K CS fy)(GJ:mg "len"=none)(Hg:mg "int"=none)(GK:mg "enumerate"=none)
 (Tu:Bp P w K mg base (bf P w) 3 fc JB yT Cy)(Tv:L2.ay K JB yT [])(Tw:mg "checked_web"=some (.ref fc))(TB:keepIn K (.ref fc)=true)
 (FPs:Bp P w K mg base (bf P w) 8 fp IU rg (CZ C CF))(bPs:L2.ay K IU rg [])(mPs:mg "places_sum"=some (.ref fp))(kPs:keepIn K (.ref fp)=true)
 (MF:Mk K CF fi)(FFI:Bp P w K mg base (bf P w) 2 fi IV uQ (jJ CF L7))(JH:L2.ay K IV uQ [])
 (FYI:Bp P w K mg base (bf P w) 5 fy N8 uS (Bq CS C CF))(TC:L2.ay K N8 uS [.none]):Bp P w K mg base (bf P w) 9 f fd yT (CP CS C CF):=by
 refine F.okN zq (λvs H Q E h=>?_) (λGN A outer s H vs Q E hr h=>?_)
 ·obtain⟨a,b,ys,es,od,rfl,_⟩:=h;rfl
 ·obtain⟨a,b,ys,es,od,rfl,ha,hy,hb,W,q⟩:=h;have M3:wK 8 _:=hr;have TF:wK 6 _:=M3.mono (by decide);have IH:wK 3 _:=M3.mono (by decide)
  refine⟨_,(aj (@aY _ _ 2 _ _ _ _ zq.nd rfl (Or.inl rfl) (ax Tu IH (by rfl) Tw TB Tv .nil ag (@ak _ _ _ _ _ (pv 0) (@ak _ _ _ _ _ (pv 1) af rfl) rfl)) rfl (Or.inl rfl))
   (aj (@aY _ _ 3 _ _ _ _ zq.nd rfl (Or.inr rfl) (gA MF FFI IH (by rfl) cF.mgC JH .nil ag (@ak _ _ _ _ _ ao af rfl)) rfl (Or.inl rfl))
   (aj (vU (i:=4) (N:=["knot","edges","odd","field"]) (nl:=1) (js:=[0,1,3]) (osc:=ai CH) ⟨rfl,rfl,by decide +kernel,by decide +kernel,by decide +kernel,rfl,(.cons ⟨rfl,by decide +kernel⟩ (.cons ⟨rfl,by decide +kernel⟩ (.cons ⟨rfl,by decide +kernel⟩ .nil))),by decide +kernel⟩ rfl zq.nd rfl (Or.inl rfl) (bu (pv 2)) (λCq fq sq Hq=>av (i:=0) (by show(["knot","edges","odd","field"]:zF).Nodup;decide +kernel) rfl (Or.inr rfl) (Or.inl rfl)) (λCq fq sq Hq=>bK) (λCq fq sq Hq=>(ax FPs M3 (by rfl) mPs kPs bPs .nil ag (@ak _ _ _ _ _ (pv 3) (@ak _ _ _ _ _ (bX (g:=gq K 2 (bD (bg 0) (bD (bg 1) ve))) (N:=["place","edge","knot"]) (nl:=2) (js:=[0]) (osc:=Gy) ⟨rfl,rfl,by decide +kernel,by decide +kernel,by decide +kernel,rfl,(.cons ⟨rfl,by decide +kernel⟩ .nil),by decide +kernel⟩ rfl (DU (K:=K) rfl (pv 1) (by rfl) (by exact GK)) (λCq fq sq Hq=>(bZ (X:=bY _ ["place","edge","knot"] _ Cq fq sq Hq) rfl (aB (av (X:=bY _ ["place","edge","knot"] _ Cq fq sq Hq) (i:=0) (by show(["place","edge","knot"]:zF).Nodup;decide +kernel) rfl (Or.inl rfl) (Or.inr rfl)) (aB (av (X:=bY _ ["place","edge","knot"] _ Cq fq sq Hq) (i:=1) (by show(["place","edge","knot"]:zF).Nodup;decide +kernel) rfl (Or.inl rfl) (Or.inr rfl)) bz)))) (λCq fq sq Hq=>(dJ (@aH _ _ _ _ _ _ _ _ (show dC _ _ (Ah K false) from eJ) (pv 2) (pv 1) (by rfl)))) (λCq fq sq Hq=>(pv 0))) (@ak _ _ _ _ _ (b8 gG (by rfl) Hg (by rfl) (@ak _ _ _ _ _ (@bH _ _ _ _ _ _ _ _ (show dC _ _ (Ah K false) from eJ) (pv 0) (pv 2) (by rfl)) af rfl)) af rfl) rfl) rfl))) (by rfl))
   (aq (aA (gA (dvs:=[.non]) MY FYI TF (by rfl) cY.mgC TC (.cons rfl .nil) ag (@ak _ _ _ _ _ (pv 3) (@ak _ _ _ _ _ (az aJ (by rfl) GJ PySem.boot_len (@ak _ _ _ _ _ (pv 0) af rfl)) (@ak _ _ _ _ _ (pv 4) af rfl) rfl) rfl) (by decide) (aK rfl) (by rw[aK rfl,aK rfl];rfl))))))),?_⟩
  have Kz:=W.hi;have yl:=hy.length;refine⟨_,rfl,_,rfl,a,b,ys,es,od,rfl,ha,hy,hb,W,λH1 Dk ks s1 eD hk=>?_⟩;refine λfl GQ TH KU TJ=>?_;refine gX TH KU TJ F2 λH2 s2 hf=>?_;have J9:=s1.trans s2;refine⟨_,rfl,Dk,rfl,⟨_,aN.of (s2 _ _ eD)⟩,?_⟩;have k7:=hk.len W;refine c6 (a:=Dk) (xs:=ks.map V.int) (rest:=[some (.ref a),some (.ref b),some (.ref fl)]) (λj us H'=>aC H2 H'/\∃as:List Addr,us=as.map V.ref/\lG C CF 2 H' as (qW es od (ks.take j))) ⟨aC.refl _,[],rfl,.nil⟩ (λj us H' hj h=>?_) (λj x us H' M hj hx h hM=>?_) (λus H' h=>?_)
  ·obtain⟨sH,as,rfl,hS⟩:=h;rw[List.length_map] at hj;refine⟨?_,aN.of (sH _ _ (s2 _ _ eD))⟩;rw[List.length_map,hS.length];unfold qW;rw[List.length_map,List.length_take];exact Nat.lt_of_le_of_lt (by omega:_<=7) (by decide)
  ·obtain⟨sH,as,rfl,hS⟩:=h;rw[List.getElem?_map] at hx;obtain⟨k,ek,rfl⟩:=Option.map_eq_some_iff.mp hx;have Rz:=J9.trans sH;have hyH:=hy.same Rz;refine ku ⟨_,rfl,_,rfl,a,ys,rfl,aN.of (Rz _ _ ha),?_⟩;refine jL (a:=a) (xs:=ys) (rest:=[some (.int k)]) (λi vs Ho=>aC H' Ho/\vs=(((List.range i).filter (cW es k)).map λi:Nat=>(i:Int)).map V.int) ⟨aC.refl _,rfl⟩ (λi vs Ho hi h=>?_) (λi x vs Ho T N hi hx h hT hN=>?_) (λvs Ho h=>?_)
   ·obtain⟨s3,rfl⟩:=h;refine⟨?_,aN.of (s3 _ _ (Rz _ _ ha))⟩;rw[List.length_map,List.length_map];exact Nat.lt_of_le_of_lt (Nat.le_trans (List.length_filter_le _ _) (by rw[List.length_range];omega:_<=60)) (by decide)
   ·obtain⟨s3,rfl⟩:=h;obtain⟨e,ee,t,rfl,ht⟩:=aW hyH hx;have s4:=ah (o:=.tup [.int i,.ref t]) hT;have Rw:=s4 _ _ (s3 _ _ ht);generalize upd Ho T _=H4 at s4 Rw |-;refine⟨_,rfl,_,rfl,t,_,rfl,.inr (bo.of Rw),rfl,rfl,_,rfl,?_⟩;have hh:iK (.int k) [.int e.1,.int e.2]=cW es k i:=vw ee;have hh:(if false=true then !iK (.int k) [.int e.1,.int e.2] else iK (.int k) [.int e.1,.int e.2])=cW es k i:=hh;rw[hh]
    cases z:cW es k i with
    |true =>
     refine b7 ⟨_,rfl,hN _ _ ⟨s3.trans s4,?_⟩⟩;rw[List.range_succ,List.filter_append,List.filter_cons_of_pos z,List.map_append,List.map_append];rfl
    |false =>
     refine bx (hN _ _ ⟨s3.trans s4,?_⟩);rw[List.range_succ,List.filter_append,List.filter_cons_of_neg (by rw[z];decide)];simp
   ·obtain⟨s3,rfl⟩:=h;rw[yl];intro L hL;have s4:=ah (o:=.lst (((yf es k).map λi:Nat=>(i:Int)).map V.int)) hL;have e4:upd Ho L (.lst (((yf es k).map λi:Nat=>(i:Int)).map V.int)) L=some (.lst (((yf es k).map λi:Nat=>(i:Int)).map V.int)):=ae;change dm _ _ _ (upd Ho L (.lst (((yf es k).map λi:Nat=>(i:Int)).map V.int))) _;generalize upd Ho L _=H4 at s4 e4 |-;have M4:=s3.trans s4;have Kb:=Rz.trans M4;refine⟨_,rfl,_,rfl,b,_,rfl,.inl (aN.of (Kb _ _ hb)),rfl,gB od,.inr ⟨_,rfl,?_⟩⟩
    have N4:(if(if false=true then !iK (.int k) (od.map V.int) else iK (.int k) (od.map V.int))=true then(1:Int) else 0)=kt od k:=by
     show(if iK (.int k) (od.map V.int)=true then(1:Int) else 0)=kt od k;rw[jg];unfold kt
     by_cases z:k∈od <;> simp[z]
    rw[N4]
    have rl:(yf es k).length<=60:=by
     unfold yf;exact Nat.le_trans (List.length_filter_le _ _) (by rw[List.length_range];exact Kz)
    refine⟨fl,GQ,L,2,kt od k,_,rfl,(sH.trans M4) _ _ hf,F2,e4,λi hi=>?_,by rw[List.length_map];exact rl,by rw[v7];exact Dh k Kz,λH5 x s5 Xl=>hM _ _ ⟨sH.trans (M4.trans s5),as++[x],by rw[List.map_append];rfl,?_⟩⟩
    ·obtain⟨j,hj,rfl⟩:=List.mem_map.mp hi;have:=Am hj;omega
    ·rw[v7] at Xl;rw[List.take_add_one,ek];unfold qW;rw[List.map_append];exact Paired.snoc (hS.same (M4.trans s5)) Xl
  ·obtain⟨sH,as,rfl,hS⟩:=h;rw[List.length_map,List.take_length] at hS;intro D hD;have s3:=ah (o:=.lst (as.map V.ref)) hD;have e3:upd H' D (.lst (as.map V.ref)) D=some (.lst (as.map V.ref)):=ae;have hS:=hS.same s3;generalize upd H' D _=H3 at s3 e3 hS |-;have RA:=sH.trans s3;have Kx:=J9.trans RA;refine⟨_,rfl,_,rfl,a,_,rfl,.inl (aN.of (Kx _ _ ha)),_,rfl,?_⟩;rw[yl];refine λx dx hx LX ne=>?_;exact GA (Gw W hk (RA _ _ hf) e3 hS) hx LX ne λH4 s4 hyy=>q H4 x fl as ks (Kx.trans s4) hk hyy (hS.same s4)
theorem Ep {fc fn fi L7:Addr}{JB N9 IV:EK}(F:vM K "web_showing" "web_showing" Fp f fd)(cF:BJ K mg CF)
 (Tu:Bp P w K mg base (bf P w) 3 fc JB yT Cy)(Tv:L2.ay K JB yT [])(Tw:mg "checked_web"=some (.ref fc))(TB:keepIn K (.ref fc)=true)
 (FNs:Bp P w K mg base (bf P w) 8 fn N9 rh (C3 C CF))(bNs:L2.ay K N9 rh [])(mNs:mg "number_sum"=some (.ref fn))(kNs:keepIn K (.ref fn)=true)
 (MF:Mk K CF fi)(FFI:Bp P w K mg base (bf P w) 2 fi IV uQ (jJ CF L7))(JH:L2.ay K IV uQ []):Bp P w K mg base (bf P w) 9 f fd yT (Di C CF):=by
 refine F.okN Fu (λvs H Q E h=>?_) (λGN A outer s H vs Q E hr h=>?_)
 ·obtain⟨a,b,ys,es,od,rfl,_⟩:=h;rfl
 ·obtain⟨a,b,ys,es,od,rfl,ha,hy,hb,W,q⟩:=h;have M3:wK 8 _:=hr;have IH:wK 3 _:=M3.mono (by decide)
  refine⟨_,(aq (aA (bX (N:=["knot"]) (nl:=1) (js:=[]) (osc:=ai Fp) ⟨rfl,rfl,by decide +kernel,by decide +kernel,by decide +kernel,rfl,.nil,by decide +kernel⟩ rfl
   (bu (ax Tu IH (by rfl) Tw TB Tv .nil ag (@ak _ _ _ _ _ (pv 0) (@ak _ _ _ _ _ (pv 1) af rfl) rfl)))
   (λCq fq sq Hq=>av (i:=0) (by show(["knot"]:zF).Nodup;decide +kernel) rfl (Or.inl rfl) (Or.inr rfl))
   (λCq fq sq Hq=>bK)
   (λCq fq sq Hq=>(ax FNs M3 (by rfl) mNs kNs bNs .nil ag (@ak _ _ _ _ _ (gA MF FFI IH (by rfl) cF.mgC JH .nil ag (@ak _ _ _ _ _ ao af rfl)) (@ak _ _ _ _ _ ao af rfl) rfl)))))),?_⟩
  refine⟨_,rfl,_,rfl,a,b,ys,es,od,rfl,ha,hy,hb,W,λH1 Dk ks s1 eD hk=>?_⟩;refine⟨Dk,rfl,⟨_,aN.of eD⟩,?_⟩;have k7:=hk.len W;refine c6 (a:=Dk) (xs:=ks.map V.int) (rest:=[]) (λj us H'=>aC H1 H'/\∃as:List Addr,us=as.map V.ref/\lG C CF 2 H' as ((ks.take j).map λ_=>[([],((1,1):Int×Int))])) ⟨aC.refl _,[],rfl,.nil⟩ (λj us H' hj h=>?_) (λj x us H' M hj hx h hM=>?_) (λus H' h=>?_)
  ·obtain⟨sH,as,rfl,hS⟩:=h;rw[List.length_map] at hj;refine⟨?_,aN.of (sH _ _ eD)⟩;rw[List.length_map,hS.length,List.length_map,List.length_take];exact Nat.lt_of_le_of_lt (by omega:_<=7) (by decide)
  ·obtain⟨sH,as,rfl,hS⟩:=h;rw[List.getElem?_map] at hx;obtain⟨k,ek,rfl⟩:=Option.map_eq_some_iff.mp hx;refine ku λfl GQ TH KU TJ=>?_;refine gX TH KU TJ F2 λH2 s2 hf=>?_;refine⟨fl,GQ,2,1,rfl,hf,F2,by decide,λH3 x s3 MT=>hM _ _ ⟨sH.trans (s2.trans s3),as++[x],by rw[List.map_append];rfl,?_⟩⟩;rw[n5 F2,oh F2] at MT;rw[List.take_add_one,ek,List.map_append];exact Paired.snoc (hS.same (s2.trans s3)) MT
  ·obtain⟨sH,as,rfl,hS⟩:=h;rw[List.length_map,List.take_length] at hS;intro D hD;have s3:=ah (o:=.lst (as.map V.ref)) hD;exact q _ D as ks (s1.trans (sH.trans s3)) (none_of (s1.trans sH) hD) hk ae (hS.same s3)
end K75
namespace PySem
open Sem (wp)
open Builtin
namespace AutoSeq1
end AutoSeq1
end PySem
namespace L2
open PySem PySem.Spec PyProof.Rows
end L2
namespace K75
open PySem L2 PySem.W Nm Srt
abbrev DD:Stmt:=(aO 62)
theorem wW:yJ ["_law_edges","_law_odd","_law_knots","_law_found","_law_knot","_law_terms"] tQ (ai DD):=dE (by decide +kernel)
def By (L:Addr)(H:Hp)(y:V)(ts:List Tm):Prop:=∃r ys,r≠L/\y=.ref r/\H r=some (.lst ys)/\aU H ys ts
variable {H:Hp}
theorem By.r {L:Addr}{y:V}{ts:List Tm}(h:By L H y ts):qm H y ts:=let⟨r,ys,_,a,b,c⟩:=h;⟨r,ys,a,b,c⟩
theorem By.but {L:Addr}{H':Hp}{y:V}{ts:List Tm}{ws:List V}(h:By L H y ts)(hL:H L=some (.lst ws))(k:SameBut L H H'):By L H' y ts:=let⟨r,ys,n,a,b,c⟩:=h;⟨r,ys,n,a,k _ _ b n,aU.keep c λb xs e=>k _ _ e λz=>by rw[z,hL] at e;cases e⟩
def Cw:Sp:=λvs H Q _=>∃(a b:Addr)(ys:List V)(es:Eg)(od:List Int),vs=[.ref a,.ref b]/\H a=some (.lst ys)/\oa H ys es/\H b=some (.lst (od.map V.int))/\FA es od /\
 ∀H' D ns ks,aC H H'->Kn es ks->H' D=some (.lst ns)->Paired (qm H') ns (qW es od ks)->Q (.ref D) H'
variable {es:Eg}
theorem ig {K:PySem.W.Frag}{a:Addr}{ys:List V}{F:List V->Hp->Prop}(f:Int×Int->Int)(i:Nat)(hi:∀e:Int×Int,(i=0/\f e=e.1)\/(i=1/\f e=e.2))(ha:H a=some (.lst ys))(hy:oa H ys es)(n:es.length<=60)(q:F ((es.map f).map V.int) H):
 ∃W:Nat->Nat->List V->St->Hp->Prop,(∃m,W 0 m [] (none::none::([]:St)) H)/\gK (zC K a) (gq K 2 (bD (bg 0) (bD (bg 1) ve))) GC (d9 i) W F:=by
 have yl:=hy.length;refine gC (a:=a) (xs:=ys) (rest:=[]) (λj us H'=>H'=H/\us=((es.take j).map f).map V.int) ⟨rfl,rfl⟩ (λj us H' hj h=>?_) (λj x us H' hj hx h=>?_) (λus H' h=>?_)
 ·obtain⟨rfl,rfl⟩:=h;refine⟨?_,aN.of ha⟩;rw[List.length_map,List.length_map,List.length_take];exact Nat.lt_of_le_of_lt (by omega:_<=60) (by decide)
 ·obtain⟨rfl,rfl⟩:=h;obtain⟨e,ee,t,rfl,ht⟩:=aW hy hx;refine⟨t,.int e.1,.int e.2,rfl,bo.of ht,λN hN=>ku ?_⟩
  have fin:((es.take (j+1)).map f).map V.int=((es.take j).map f).map V.int++[.int (f e)]:=by
   rw[List.take_add_one,ee,List.map_append,List.map_append];rfl
  rcases hi e with⟨rfl,z⟩|⟨rfl,z⟩
  ·exact⟨_,rfl,hN _ _ ⟨rfl,by rw[fin,z]⟩⟩
  ·exact⟨_,rfl,hN _ _ ⟨rfl,by rw[fin,z]⟩⟩
 ·obtain⟨rfl,rfl⟩:=h;rw[yl,List.take_length];exact q
variable {P:vB}{w:World}{K:PySem.W.Frag}{mg:vW}{base:Heap}
set_option maxHeartbeats 1000000 in
theorem DX {f fg:Addr}{fd Ii:EK}(F:vM K "_law_web" "_law_web" DD f fd)(GL:mg "sorted"=none)(Hh:mg "set"=none)(GK:mg "enumerate"=none)(Hg:mg "int"=none)
 (FG:Bp P w K mg base (bf P w) 4 fg Ii E8 pj)(bG:L2.ay K Ii E8 [])(mG:mg "_law_gathered"=some (.ref fg))(kG:keepIn K (.ref fg)=true):Bp P w K mg base (bf P w) 5 f fd tQ Cw:=by
 refine F.okN wW (λvs H Q E h=>?_) (λGN A outer s H vs Q E hr h=>?_)
 ·obtain⟨a,b,ys,es,od,rfl,_⟩:=h;rfl
 ·obtain⟨a,b,ys,es,od,rfl,ha,hy,hb,W,q⟩:=h;have HR:wK 4 _:=hr
  refine⟨_,(aj (@aY _ _ 2 _ _ _ _ wW.nd rfl (Or.inl rfl) (jW rfl (@aD _ _ _ _ _ _ _ _ fE (bX (g:=(gq K 2 (bD (bg 0) (bD (bg 1) ve)))) (N:=["_law_one","_law_other"]) (nl:=2) (js:=[]) (osc:=ai DD) ⟨rfl,rfl,by decide +kernel,by decide +kernel,by decide +kernel,rfl,.nil,by decide +kernel⟩ rfl
   (bu (pv 0))
   (λCq fq sq Hq=>(bZ (X:=bY _ ["_law_one","_law_other"] _ Cq fq sq Hq) rfl (aB (av (X:=bY _ ["_law_one","_law_other"] _ Cq fq sq Hq) (i:=0) (by show(["_law_one","_law_other"]:zF).Nodup;decide +kernel) rfl (Or.inl rfl) (Or.inr rfl)) (aB (av (X:=bY _ ["_law_one","_law_other"] _ Cq fq sq Hq) (i:=1) (by show(["_law_one","_law_other"]:zF).Nodup;decide +kernel) rfl (Or.inl rfl) (Or.inr rfl)) bz))))
   (λCq fq sq Hq=>bK)
   (λCq fq sq Hq=>(pv 0))) (bX (g:=(gq K 2 (bD (bg 0) (bD (bg 1) ve)))) (N:=["_law_one","_law_other"]) (nl:=2) (js:=[]) (osc:=ai DD) ⟨rfl,rfl,by decide +kernel,by decide +kernel,by decide +kernel,rfl,.nil,by decide +kernel⟩ rfl
   (bu (pv 0))
   (λCq fq sq Hq=>(bZ (X:=bY _ ["_law_one","_law_other"] _ Cq fq sq Hq) rfl (aB (av (X:=bY _ ["_law_one","_law_other"] _ Cq fq sq Hq) (i:=0) (by show(["_law_one","_law_other"]:zF).Nodup;decide +kernel) rfl (Or.inl rfl) (Or.inr rfl)) (aB (av (X:=bY _ ["_law_one","_law_other"] _ Cq fq sq Hq) (i:=1) (by show(["_law_one","_law_other"]:zF).Nodup;decide +kernel) rfl (Or.inl rfl) (Or.inr rfl)) bz))))
   (λCq fq sq Hq=>bK)
   (λCq fq sq Hq=>(pv 1)))) rfl (by rfl) GL (by rfl) Hh) rfl (Or.inl rfl))
   (aj (@aY _ _ 3 _ _ _ _ wW.nd rfl (Or.inl rfl) (@cu _ _ _ _ af) rfl (Or.inl rfl))
   (aj (dZ PassesOwn.never rfl (bu (pv 2)) (av (i:=4) wW.nd rfl (Or.inr rfl))
   (aj (fH (i:=5) (g:=(gq K 2 (bD (bg 0) (bD (bg 1) ve)))) (N:=["_law_place","_law_edge","_law_knot"]) (nl:=2) (js:=[4]) (osc:=ai DD) ⟨rfl,rfl,by decide +kernel,by decide +kernel,by decide +kernel,rfl,(.cons ⟨rfl,by decide +kernel⟩ .nil),by decide +kernel⟩ rfl wW.nd rfl (Or.inl rfl)
    (jD (pv 0) (by rfl) GK)
    (λCq fq sq Hq=>(bZ (X:=bY _ ["_law_place","_law_edge","_law_knot"] _ Cq fq sq Hq) rfl (aB (av (X:=bY _ ["_law_place","_law_edge","_law_knot"] _ Cq fq sq Hq) (i:=0) (by show(["_law_place","_law_edge","_law_knot"]:zF).Nodup;decide +kernel) rfl (Or.inl rfl) (Or.inr rfl)) (aB (av (X:=bY _ ["_law_place","_law_edge","_law_knot"] _ Cq fq sq Hq) (i:=1) (by show(["_law_place","_law_edge","_law_knot"]:zF).Nodup;decide +kernel) rfl (Or.inl rfl) (Or.inr rfl)) bz))))
    (λCq fq sq Hq=>(dJ (@aH _ _ _ _ _ _ _ _ (show dC _ _ (Ah K false) from eJ) (pv 2) (pv 1) (by rfl))))
    (λCq fq sq Hq=>(@bh _ _ _ _ _ (@ak _ _ _ _ _ (@bh _ _ _ _ _ (@ak _ _ _ _ _ (pv 0) af rfl)) (@ak _ _ _ _ _ (@bh _ _ _ _ _ (@ak _ _ _ _ _ ao (@ak _ _ _ _ _ ao af rfl) rfl)) af rfl) rfl))) (by rfl))
   (aq (jF (wV PySem.F.plainAttrs_list PySem.F.slot_list_append PySem.F.type_list_append i4 (pv 3) (@ak _ _ _ _ _ (ax FG HR (by rfl) mG kG bG .nil ag (@ak _ _ _ _ _ ao (@ak _ _ _ _ _ (@aD _ _ _ _ _ _ _ _ fE (pv 5) (@aD _ _ _ _ _ _ _ _ xH (@cu _ _ _ _ (@ak _ _ _ _ _ (@bh _ _ _ _ _ (@ak _ _ _ _ _ (@bh _ _ _ _ _ af) (@ak _ _ _ _ _ (@bh _ _ _ _ _ (@ak _ _ _ _ _ ao (@ak _ _ _ _ _ ao af rfl) rfl)) af rfl) rfl)) af rfl)) (b8 gG (by rfl) Hg (by rfl) (@ak _ _ _ _ _ (@bH _ _ _ _ _ _ _ _ (show dC _ _ (Ah K false) from eJ) (pv 4) (pv 1) (by rfl)) af rfl)))) af rfl) rfl)) af rfl))))))
   (aq (aA (pv 3)))))),?_⟩
  have Kz:=W.hi;have yl:=hy.length;refine⟨_,rfl,a,rfl,⟨_,aN.of ha⟩,?_⟩;refine ig (·.1) 0 (λe=>.inl ⟨rfl,rfl⟩) ha hy Kz λL1 Js=>?_;have s1:=ah (o:=.lst ((es.map (·.1)).map V.int)) Js;have e1:upd H L1 (.lst ((es.map (·.1)).map V.int)) L1=some (.lst ((es.map (·.1)).map V.int)):=ae;generalize upd H L1 _=H1 at s1 e1 |-;refine⟨_,rfl,a,rfl,⟨_,aN.of (s1 _ _ ha)⟩,?_⟩;refine ig (·.2) 1 (λe=>.inr ⟨rfl,rfl⟩) (s1 _ _ ha) (hy.same s1) Kz λL2 NS=>?_;have s2:=ah (o:=.lst ((es.map (·.2)).map V.int)) NS;have e2:upd H1 L2 (.lst ((es.map (·.2)).map V.int)) L2=some (.lst ((es.map (·.2)).map V.int)):=ae;generalize upd H1 L2 _=H2 at s2 e2 |-;refine⟨L1,L2,_,_,rfl,rfl,s2 _ _ e1,e2,?_,λD3 H3 n3 s3 e3=>?_⟩
  ·rw[List.length_map,List.length_map,List.length_map,List.length_map];exact Nat.le_trans (by omega:_<=120) (by decide)
  rw[<-List.map_append] at e3;have Kx:=s1.trans (s2.trans s3);refine⟨D3,iL es,rfl,.inl (aN.of e3),?_,λDk ks M5 up mem=>?_⟩
  ·obtain⟨nm,n7,hn⟩:=W.few;exact Nat.lt_of_le_of_lt (ij hn) (by omega)
  have hk:Kn es ks:=⟨up,mem⟩;have k7:=hk.len W;have s4:=ah (o:=.lst (ks.map V.int)) M5;have e4:upd H3 Dk (.lst (ks.map V.int)) Dk=some (.lst (ks.map V.int)):=ae;generalize upd H3 Dk _=H4 at s4 e4 |-;have Kb:=Kx.trans s4;refine⟨Nat.zero_le _,λL hL=>?_⟩;have s5:=ah (o:=.lst []) hL;have e5:upd H4 L (.lst []) L=some (.lst []):=ae;have TK:=s5 _ _ e4;generalize upd H4 L _=H5 at s5 e5 TK |-;have nL:Dk≠L:=au e4 hL;have L0:=none_of Kb hL;refine⟨_,rfl,Dk,rfl,⟨_,aN.of TK⟩,?_⟩;refine hZ (xs:=ks.map V.int) (λj σ H'=>aC H H'/\H' Dk=some (.lst (ks.map V.int))/\(∃ns,H' L=some (.lst ns)/\Paired (By L H') ns (qW es od (ks.take j)))/\∃o4 o5,σ=[some (.ref a),some (.ref b),some (.ref Dk),some (.ref L),o4,o5]) ⟨Kb.trans s5,TK,⟨[],e5,.nil⟩,_,_,rfl⟩ (λj σ H' _ h=>aN.of h.2.1) ?_ ?_
  ·rintro j x σ H6 hx ⟨s6,Xm,⟨ns,RB,hS⟩,o4,o5,rfl⟩;rw[List.getElem?_map] at hx;obtain⟨k,ek,rfl⟩:=Option.map_eq_some_iff.mp hx;have hy6:=hy.same s6;refine⟨_,rfl,a,ys,rfl,aN.of (s6 _ _ ha),?_⟩;refine jL (a:=a) (xs:=ys) (rest:=[some (.int k)]) (λi vs Ho=>aC H6 Ho/\aU Ho vs (((List.range i).filter (cW es k)).map λi:Nat=>([(i:Int)],((1,1):Int×Int)))) ⟨aC.refl _,.nil⟩ (λi vs Ho hi h=>?_) (λi x vs Ho T N hi hx h hT hN=>?_) (λvs Ho h=>?_)
   ·obtain⟨s7,hv⟩:=h;refine⟨?_,aN.of (s7 _ _ (s6 _ _ ha))⟩;rw[hv.length,List.length_map];exact Nat.lt_of_le_of_lt (Nat.le_trans (List.length_filter_le _ _) (by rw[List.length_range];omega:_<=60)) (by decide)
   ·obtain⟨s7,hv⟩:=h;obtain⟨e,ee,t,rfl,ht⟩:=aW hy6 hx;have s8:=ah (o:=.tup [.int i,.ref t]) hT;have Xn:=s8 _ _ (s7 _ _ ht);generalize upd Ho T _=H8 at s8 Xn |-;refine⟨_,rfl,_,rfl,t,_,rfl,.inr (bo.of Xn),rfl,rfl,_,rfl,?_⟩;have hh:iK (.int k) [.int e.1,.int e.2]=cW es k i:=vw ee;have hh:(if false=true then !iK (.int k) [.int e.1,.int e.2] else iK (.int k) [.int e.1,.int e.2])=cW es k i:=hh;rw[hh]
    cases z:cW es k i with
    |true =>
     refine b7 ⟨_,rfl,vm,λu1 Sj=>?_⟩;have z1:=ah (o:=.tup [.int i]) Sj;have f1:upd H8 u1 (.tup [.int i]) u1=some (.tup [.int i]):=ae;generalize upd H8 u1 _=G1 at z1 f1 |-;refine⟨gc,λu2 hu2=>?_⟩;have z2:=ah (o:=.tup [.int 1,.int 1]) hu2;have f2:upd G1 u2 (.tup [.int 1,.int 1]) u2=some (bO 1 1):=ae;generalize upd G1 u2 _=G2 at z2 f2 |-;refine⟨gc,λu3 hu3=>hN _ _ ?_⟩;have z3:=ah (o:=.tup [.ref u1,.ref u2]) hu3;have zA:=s8.trans (z1.trans (z2.trans z3));refine⟨s7.trans zA,?_⟩;rw[List.range_succ,List.filter_append,List.filter_cons_of_pos z,List.map_append];exact Paired.snoc (aU.keep hv (aF.of zA)) ⟨u3,u1,u2,rfl,ae,z3 _ _ (z2 _ _ f1),z3 _ _ f2⟩
    |false =>
     refine bx (hN _ _ ⟨s7.trans s8,?_⟩);rw[List.range_succ,List.filter_append,List.filter_cons_of_neg (by rw[z];decide)];have hv:=aU.keep hv (aF.of s8);simpa using hv
   ·obtain⟨s7,hv⟩:=h;rw[yl] at hv;have hv:aU Ho vs (rT es k):=hv;intro Lt hLt;have s8:=ah (o:=.lst vs) hLt;have e8:upd Ho Lt (.lst vs) Lt=some (.lst vs):=ae;have hv:=aU.keep hv (aF.of s8);generalize upd Ho Lt _=H8 at s8 e8 hv |-;have TL:=s7.trans s8;have Xo:=TL _ _ RB;refine⟨_,rfl,.inl ⟨rfl,_,aN.of Xo⟩,?_⟩;refine⟨_,rfl,Nat.zero_le _,λt0 LO=>?_⟩;have s9:=ah (o:=.tup []) LO;have e9:upd H8 t0 (.tup []) t0=some (.tup []):=ae;generalize upd H8 t0 _=H9 at s9 e9 |-;refine⟨gc,λt1 Iz=>?_⟩;have Iq:=ah (o:=.tup [.int 1,.int 1]) Iz;have K7:upd H9 t1 (.tup [.int 1,.int 1]) t1=some (bO 1 1):=ae;generalize upd H9 t1 _=M0 at Iq K7 |-;refine⟨gc,λt2 Jg=>?_⟩;have Ja:=ah (o:=.tup [.ref t0,.ref t1]) Jg;have Oa:upd M0 t2 (.tup [.ref t0,.ref t1]) t2=some (.tup [.ref t0,.ref t1]):=ae;generalize upd M0 t2 _=Tt at Ja Oa |-;refine⟨vm,λl3 hl3=>?_⟩;have Hx:=ah (o:=.lst [.ref t2]) hl3;have Ka:upd Tt l3 (.lst [.ref t2]) l3=some (.lst [.ref t2]):=ae;generalize upd Tt l3 _=Jh at Hx Ka |-;have Ob:=s9.trans (Iq.trans (Ja.trans Hx));have TM:=TL.trans Ob;refine⟨_,rfl,_,rfl,b,_,rfl,.inl (aN.of (TM _ _ (s6 _ _ hb))),rfl,gB od,.inr ⟨_,rfl,?_⟩⟩
    have N4:(if(if false=true then !iK (.int k) (od.map V.int) else iK (.int k) (od.map V.int))=true then(1:Int) else 0)=kt od k:=by
     show(if iK (.int k) (od.map V.int)=true then(1:Int) else 0)=kt od k;rw[jg];unfold kt
     by_cases z:k∈od <;> simp[z]
    rw[N4]
    have kb:kt od k=0\/kt od k=1:=by
     unfold kt
     split
     ·exact .inr rfl
     ·exact .inl rfl
    refine⟨l3,kt od k,[.ref t2],rfl,rfl,Ka,by omega,by omega,by show 1*(kt od k).toNat<=sizeLine;exact Nat.le_trans (by omega:_<=1) (by decide),λL4 hL4=>?_⟩;have IK:=ah (o:=.lst (List.replicate (kt od k).toNat [V.ref t2]).flatten) hL4;have L8:upd Jh L4 (.lst (List.replicate (kt od k).toNat [V.ref t2]).flatten) L4=some (.lst (List.replicate (kt od k).toNat [V.ref t2]).flatten):=ae;generalize upd Jh L4 _=TN at IK L8 |-;have Oc:=Ob.trans IK
    have h4:aU TN (List.replicate (kt od k).toNat [V.ref t2]).flatten (if k∈od then [([],((1,1):Int×Int))] else []):=by
     unfold kt
     by_cases z:k∈od
     ·rw[if_pos z,if_pos z];have TQ:=Iq.trans (Ja.trans (Hx.trans IK));have TR:=Ja.trans (Hx.trans IK);have TU:=Hx.trans IK;exact .cons ⟨t2,t0,t1,rfl,TU _ _ Oa,TQ _ _ e9,TR _ _ K7⟩ .nil
     ·rw[if_neg z,if_neg z];exact .nil
    have l4:(List.replicate (kt od k).toNat [V.ref t2]).flatten.length<=1:=by
     have:=h4.length;rw[this]
     split <;> simp
    generalize (List.replicate (kt od k).toNat [V.ref t2]).flatten=zs4 at L8 h4 l4
    have lv:vs.length<=60:=by
     rw[hv.length];exact Nat.le_trans (qY es k) Kz
    refine⟨Lt,L4,vs,zs4,rfl,rfl,Oc _ _ e8,L8,Nat.le_trans (by omega:_<=61) (by decide),λD5 RC nD5 HW K8=>?_⟩;have L9:=Oc.trans HW;refine⟨D5,2,_,CD es od k,rfl,F2,K8,ir (aU.keep hv (aF.of L9)) (aU.keep h4 (aF.of HW)),BO k Kz,λMa D6 z6 Ji n6 K9 h15=>?_⟩
    have h15:aU Ma z6 (tg 2 (wT es od k)):=by
     rw[<-zH];exact h15
    have JI:=TL.trans (L9.trans Ji);have Mb:=JI _ _ RB
    have nD:D6≠L:=λz=>by
     rw[z] at n6;rw[(L9 _ _ Xo)] at n6
     cases n6
    have sb:SameBut L Ma (upd Ma L (.lst (ns++[.ref D6]))):=SameBut.upd;have al:=hS.length;refine⟨L,ns,.ref D6,rfl,rfl,Mb,Nat.lt_of_le_of_lt (?_:_<=7) (by decide),λc v e=>sb _ _ ((s6.trans JI) _ _ e) (au e L0),sb _ _ (JI _ _ Xm) nL,⟨_,ae,?_⟩,_,_,rfl⟩
    ·rw[al];unfold qW;rw[List.length_map,List.length_take];omega
    rw[List.take_add_one,ek];unfold qW;rw[List.map_append];exact Paired.snoc (Paired.aat hS λ_ _ z=>(show By L Ma _ _ from let⟨r,ys,n,a,b,c⟩:=z;⟨r,ys,n,a,JI _ _ b,aU.keep c (aF.of JI)⟩).but Mb sb) ⟨D6,z6,nD,rfl,by rw[ar nD];exact K9,aU.keep h15 λb xs e=>sb _ _ e λz=>by rw[z,Mb] at e;cases e⟩
  ·rintro σ H6 ⟨s6,Xm,⟨ns,RB,hS⟩,o4,o5,rfl⟩;rw[List.length_map,List.take_length] at hS;exact⟨_,rfl,q H6 L ns ks s6 hk RB (Paired.aat hS λ_ _ z=>z.r)⟩
def AF (cs:List Int):Prop:=∀i:Nat,i<cs.length->4*(i:Int)<=cs.getD i 0/\cs.getD i 0<4*(i:Int)+4
variable {cs:List Int}{z:Int}
theorem AF.snoc (h:AF cs)(h0:0<=z)(h1:z<4):AF (cs++[z+4*(0+(cs.length:Int))]):=λi hi=>by
 rw[List.length_append] at hi;have hi:i<cs.length+1:=hi
 by_cases z:i<cs.length
 ·have:=h i z;rw[List.getD_eq_getElem?_getD,List.getElem?_append_left z,<-List.getD_eq_getElem?_getD];exact this
 ·have:i=cs.length:=by omega
  subst this;rw[List.getD_eq_getElem?_getD,List.getElem?_append_right (Nat.le_refl _),Nat.sub_self];show 4*(cs.length:Int)<=_+4*(0+(cs.length:Int))/\_+4*(0+(cs.length:Int))<_;omega
theorem Ct (h0:0<=z)(h1:z<(cs.length:Nat)):qx (cs.map V.int) z=some (.int (cs.getD z.toNat 0)):=by
 have e:z=(z.toNat:Nat):=by omega
 have hi:z.toNat<cs.length:=by omega
 have:=si (xs:=cs.map V.int) (j:=z.toNat) (v:=V.int (cs.getD z.toNat 0)) (by
  rw[List.getElem?_map,List.getElem?_eq_getElem hi]
  simp[List.getD,hi])
 rw[<-e] at this;exact this
theorem j0 {i:Nat}(hi:i<cs.length):cs.getD i 0∈cs:=by simp[List.getD,hi]
theorem AF.all (h:AF cs){k:Int}(hk:k∈cs):0<=k/\k<4*(cs.length:Int):=by
 obtain⟨i,hi,e⟩:=List.getElem_of_mem hk;have:=h i hi;rw[show cs.getD i 0=k by rw[<-e];simp[List.getD,hi]] at this;omega
def D7 (cs:List Int)(es:Eg):Prop:=∀e∈es,e.1∈cs/\e.2∈cs/\e.1≠e.2
theorem D7.snoc {i j:Nat}(n:AF cs)(h:D7 cs es)(hi:i<cs.length)(hj:j<cs.length)(ne:i≠j):D7 cs (es++[(cs.getD i 0,cs.getD j 0)]):=λe he=>by
 rcases List.mem_append.mp he with he|he
 ·exact h e he
 ·rw[List.mem_singleton.mp he];have a:=n i hi;have b:=n j hj
  exact⟨j0 hi,j0 hj,λz=>by
   have z:cs.getD i 0=cs.getD j 0:=z
   omega⟩
theorem wg {n y:Int}(h0:0<=z)(h1:z<n)(h2:0<=y)(h3:y<n-1):0<=(z+1+y)%n/\(z+1+y)%n<n/\z≠(z+1+y)%n:=by
 refine⟨Int.emod_nonneg _ (by omega),Int.emod_lt_of_pos _ (by omega),λe=>?_⟩
 by_cases w:z+1+y<n
 ·rw[Int.emod_eq_of_lt (by omega) w] at e;omega
 ·have:(z+1+y)%n=(z+1+y-n)%n:=by rw[Int.sub_emod_right]
  rw[this,Int.emod_eq_of_lt (by omega) (by omega)] at e;omega
theorem oa.but {r:Addr}{H':Hp}{ys zs:List V}(h:oa H ys es)(hr:H r=some (.lst zs))(k:∀b o,H b=some o->b≠r->H' b=some o):oa H' ys es:=Paired.aat h λ_ _ ⟨a,e,g⟩=>⟨a,e,k _ _ g λz=>by rw[z,hr] at g;cases g⟩
def lH (od:List Int)(l:Int):List Int:=od.filter (· != l)++if l∈od then [] else [l]
theorem yU {ks od:List Int}{l:Int}(nd:od.Nodup)(sub:∀k∈od,k∈ks)(ev:od.length%2=0)(hl:l∈ks):(lH od l).Nodup/\(∀k∈lH od l,k∈ks)/\(lH od l).length%2=1:=by
 unfold lH
 by_cases z:l∈od
 ·rw[if_pos z,List.append_nil,<-nd.erase_eq_filter];have e:=List.length_erase_of_mem z;have p:0<od.length:=List.length_pos_of_mem z;exact⟨nd.erase _,λk hk=>sub k (List.mem_of_mem_erase hk),by omega⟩
 ·rw[if_neg z]
  have e:od.filter (· != l)=od:=List.filter_eq_self.mpr λk hk=>by
   have:k≠l:=λe=>z (by rw[<-e];exact hk);simp[this]
  rw[e];refine⟨List.nodup_append.mpr ⟨nd,(by simp),λa ha b hb=>?_⟩,λk hk=>?_,by rw[List.length_append];show(od.length+1)%2=1;omega⟩
  ·rw[List.mem_singleton.mp hb];exact λe=>z (by rw[<-e];exact ha)
  ·rcases List.mem_append.mp hk with hk|hk
   ·exact sub k hk
   ·rw[List.mem_singleton.mp hk];exact hl
theorem mJ {od:List Int}(n:AF cs)(c7:cs.length<=7)(h:D7 cs es)(e1:1<=es.length)(e60:es.length<=60)(nd:od.Nodup)(sub:∀k∈od,k∈iL es)(o:od.length%2=1):FA es od.reverse:=by
 refine⟨e1,e60,λe he=>?_,λk hk=>sub k (List.mem_reverse.mp hk),(List.reverse_perm od).nodup_iff.mpr nd,by rw[List.length_reverse];exact o,cs,c7,λk hk=>?_⟩
 ·obtain⟨a,b,c⟩:=h e he;exact⟨c,(n.all a).1,(n.all b).1⟩
 ·rcases List.mem_append.mp hk with hk|hk
  ·obtain⟨e,he,z⟩:=List.mem_map.mp hk;rw[<-z];exact(h e he).1
  ·obtain⟨e,he,z⟩:=List.mem_map.mp hk;rw[<-z];exact(h e he).2.1
end K75
namespace L2
open PySem PySem.Spec PyProof.Rows PySem.W
section
variable {X:Cx}
def EU (K:Frag)(te:TE)(ts:TO):TE:=λσ H Q=>te σ H λx H1=>ts σ H1 λst H2=>st=some (-1)/\∃a xs,x=.ref a/\aN K H2 a xs/\∀p,H2 p=none->Q (.ref p) (upd H2 p (.lst xs.reverse))
theorem vJ {xs:List V}{us:nv}(r:aL xs us):aL xs.reverse us.reverse:=by
 induction r with
 |nil=>exact .nil
 |cons h t ih=>rw[List.reverse_cons,List.reverse_cons];exact ih.append (.cons h .nil)
theorem A7 {e st:Expr}{te:TE}{ts:TO}{p2 pos:Pos}(he:PE X e te)(hs:PO X (some st) ts):PE X (.Subscript e (.Slice none none (some st) p2) pos) (EU X.K te ts):=by
 intro pins s σ H Q I h;refine Subscript_ (bA (he pins s σ H _ I h) λv s1 z'=>?_);obtain⟨x,H1,I1,r1,q1⟩:=z';refine wpAny_Slice ?_;rw[evalPart_none];refine wpAny_pure (wpAny_pure ?_);refine bA (hs pins s1 σ H1 _ I1 q1) λvs s3 z'=>?_;obtain⟨o,H3,I3,po,q3⟩:=z';obtain⟨eo,a,xs,ex,hq,q⟩:=q3;subst eo ex
 cases(show v=Value.ref a from r1)
 have I4:Inv X pins σ H3 {s3 with heap:=s3.heap.push {cls:=.type "slice",data:=.fields #[.none,.none,vs]} }:=I3.kept (t':=s3.toks) λb ob q=>Heap.get?_push_of_some _ q;obtain⟨its,r,ht,hz⟩:=I4.list hq;have hlen:=r.length
 refine(show wpAny (model X.prog X.w) X.A (subscriptTail e (.Slice none none (some st) p2) (.ref a) (.ref s3.heap.objs.size)) (EP X pins σ Q) X.xe {s3 with heap:=s3.heap.push {cls:=.type "slice",data:=.fields #[.none,.none,vs]} } from
  tail_any (ops:=[.ref a,.ref s3.heap.objs.size]) ht.isList.typeIs slot_list_getitem.lookup ?_ (by with_unfolding_all rfl))
 refine wpAny_getItem_list_slice ht.isList (Heap.IsSliceOf.new ..) .none .none po (by decide) ?_ (by rw[List.size_toArray] <;> omega);rw[krv_pick];refine⟨.ref _,_,I4.laid (t':=s3.toks) (o:=.lst xs.reverse) (λb ob q=>Heap.get?_push_of_some _ q) (Nat.le_refl _) ?_,rfl,q _ (I4.hok.fresh (Nat.le_refl _))⟩;exact⟨by rw[List.length_reverse];exact hz,_,0,by simpa using vJ r,Heap.get?_push_size _ rfl⟩
end
end L2
namespace K75
open PySem L2 PySem.W Nm Srt
abbrev B7:Stmt:=(aO 64)
theorem jX:yJ ["_law_pool_here","_law_most","_law_many","_law_names","_law_edges","_law_turn","_law_one","_law_other","_law_knots","_law_odd","_law_last"] Fi (ai B7):=dE (by decide +kernel)
def qD:Sp:=λvs H Q _=>∃(r:Addr)(n:Nat),vs=[.ref r,.int n]/\cq H r/\1<=n/\n<=60/\∀H' t a b ys es od,H' t=some (.tup [.ref a,.ref b])->H' a=some (.lst ys)->oa H' ys es->H' b=some (.lst (od.map V.int))->FA es od->(∀e∈es,e.1<32/\e.2<32)->cq H' r->SameBut r H H'->a≠r->b≠r->Q (.ref t) H'
variable {P:vB}{w:World}{K:PySem.W.Frag}{mg:vW}{base:Heap}
set_option maxHeartbeats 2000000 in
theorem El {f ft:Addr}{fd IW:EK}(F:vM K "_law_web_drawn" "_law_web_drawn" B7 f fd)(GX:mg "range"=none)(GJ:mg "len"=none)(GL:mg "sorted"=none)(Hh:mg "set"=none)(Hg:mg "int"=none)
 (Kc:Bp P w K mg base (bf P w) 1 ft IW zV DF)(Kd:L2.ay K IW zV [])(Ke:mg "_law_take"=some (.ref ft))(Kf:keepIn K (.ref ft)=true):Bp P w K mg base (bf P w) 2 f fd Fi qD:=by
 refine F.okN jX (λvs H Q E h=>?_) (λGN A outer s H vs Q E hr h=>?_)
 ·obtain⟨r,n,rfl,_⟩:=h;rfl
 ·obtain⟨r,n,rfl,hR,n1,Xp,q⟩:=h;have GU:wK 1 _:=hr
  refine⟨_,(aj (@aY _ _ 2 _ _ _ _ jX.nd rfl (Or.inl rfl) (@aD _ _ _ _ _ _ _ _ dn ao (ax Kc GU (by rfl) Ke Kf Kd .nil ag (@ak _ _ _ _ _ (pv 0) (@ak _ _ _ _ _ ao af rfl) rfl))) rfl (Or.inl rfl))
   (aj (fH (i:=3) (N:=["_law_k","_law_pool_here"]) (nl:=1) (js:=[0]) (osc:=ai B7) ⟨rfl,rfl,by decide +kernel,by decide +kernel,by decide +kernel,rfl,(.cons ⟨rfl,by decide +kernel⟩ .nil),by decide +kernel⟩ rfl jX.nd rfl (Or.inl rfl)
    (gy (by rfl) GX (@ak _ _ _ _ _ (pv 2) af rfl))
    (λCq fq sq Hq=>av (i:=0) (by show(["_law_k","_law_pool_here"]:zF).Nodup;decide +kernel) rfl (Or.inl rfl) (Or.inr rfl))
    (λCq fq sq Hq=>bK)
    (λCq fq sq Hq=>(@aD _ _ _ _ _ _ _ _ dn (ax Kc GU (by rfl) Ke Kf Kd .nil ag (@ak _ _ _ _ _ (pv 1) (@ak _ _ _ _ _ ao af rfl) rfl)) (@aD _ _ _ _ _ _ _ _ cw ao (pv 0)))) (by rfl))
   (aj (@aY _ _ 4 _ _ _ _ jX.nd rfl (Or.inl rfl) (@cu _ _ _ _ af) rfl (Or.inl rfl))
   (aj (dZ PassesOwn.never rfl (gy (by rfl) GX (@ak _ _ _ _ _ (@aD _ _ _ _ _ _ _ _ dn ao (ax Kc GU (by rfl) Ke Kf Kd .nil ag (@ak _ _ _ _ _ (pv 0) (@ak _ _ _ _ _ (pv 1) af rfl) rfl))) af rfl)) (av (i:=5) jX.nd rfl (Or.inl rfl))
   (aj (@aY _ _ 6 _ _ _ _ jX.nd rfl (Or.inl rfl) (ax Kc GU (by rfl) Ke Kf Kd .nil ag (@ak _ _ _ _ _ (pv 0) (@ak _ _ _ _ _ (pv 2) af rfl) rfl)) rfl (Or.inl rfl))
   (aj (@aY _ _ 7 _ _ _ _ jX.nd rfl (Or.inl rfl) (@aD _ _ _ _ _ _ _ _ cx (@aD _ _ _ _ _ _ _ _ dn (@aD _ _ _ _ _ _ _ _ dn (pv 6) ao) (ax Kc GU (by rfl) Ke Kf Kd .nil ag (@ak _ _ _ _ _ (pv 0) (@ak _ _ _ _ _ (@aD _ _ _ _ _ _ _ _ nZ (pv 2) ao) af rfl) rfl))) (pv 2)) rfl (Or.inl rfl))
   (aq (jF (wV PySem.F.plainAttrs_list PySem.F.slot_list_append PySem.F.type_list_append i4 (pv 4) (@ak _ _ _ _ _ (@bh _ _ _ _ _ (@ak _ _ _ _ _ (@aZ _ _ _ _ _ _ _ cz (pv 3) (pv 6) (λ_ _=>rfl)) (@ak _ _ _ _ _ (@aZ _ _ _ _ _ _ _ cz (pv 3) (pv 7) (λ_ _=>rfl)) af rfl) rfl)) af rfl)))))))
   (aj (@aY _ _ 8 _ _ _ _ jX.nd rfl (Or.inl rfl) (jW rfl (@aD _ _ _ _ _ _ _ _ fE (bX (g:=(gq K 2 (bD (bg 0) (bD (bg 1) ve)))) (N:=["_law_one","_law_other"]) (nl:=2) (js:=[]) (osc:=ai B7) ⟨rfl,rfl,by decide +kernel,by decide +kernel,by decide +kernel,rfl,.nil,by decide +kernel⟩ rfl
    (bu (pv 4))
    (λCq fq sq Hq=>(bZ (X:=bY _ ["_law_one","_law_other"] _ Cq fq sq Hq) rfl (aB (av (X:=bY _ ["_law_one","_law_other"] _ Cq fq sq Hq) (i:=0) (by show(["_law_one","_law_other"]:zF).Nodup;decide +kernel) rfl (Or.inl rfl) (Or.inr rfl)) (aB (av (X:=bY _ ["_law_one","_law_other"] _ Cq fq sq Hq) (i:=1) (by show(["_law_one","_law_other"]:zF).Nodup;decide +kernel) rfl (Or.inl rfl) (Or.inr rfl)) bz))))
    (λCq fq sq Hq=>bK)
    (λCq fq sq Hq=>(pv 0))) (bX (g:=(gq K 2 (bD (bg 0) (bD (bg 1) ve)))) (N:=["_law_one","_law_other"]) (nl:=2) (js:=[]) (osc:=ai B7) ⟨rfl,rfl,by decide +kernel,by decide +kernel,by decide +kernel,rfl,.nil,by decide +kernel⟩ rfl
    (bu (pv 4))
    (λCq fq sq Hq=>(bZ (X:=bY _ ["_law_one","_law_other"] _ Cq fq sq Hq) rfl (aB (av (X:=bY _ ["_law_one","_law_other"] _ Cq fq sq Hq) (i:=0) (by show(["_law_one","_law_other"]:zF).Nodup;decide +kernel) rfl (Or.inl rfl) (Or.inr rfl)) (aB (av (X:=bY _ ["_law_one","_law_other"] _ Cq fq sq Hq) (i:=1) (by show(["_law_one","_law_other"]:zF).Nodup;decide +kernel) rfl (Or.inl rfl) (Or.inr rfl)) bz))))
    (λCq fq sq Hq=>bK)
    (λCq fq sq Hq=>(pv 1)))) rfl (by rfl) GL (by rfl) Hh) rfl (Or.inl rfl))
   (aj (fH (i:=9) (N:=["_law_knot","_law_pool_here"]) (nl:=1) (js:=[0]) (osc:=ai B7) ⟨rfl,rfl,by decide +kernel,by decide +kernel,by decide +kernel,rfl,(.cons ⟨rfl,by decide +kernel⟩ .nil),by decide +kernel⟩ rfl jX.nd rfl (Or.inl rfl)
    (bu (pv 8))
    (λCq fq sq Hq=>av (i:=0) (by show(["_law_knot","_law_pool_here"]:zF).Nodup;decide +kernel) rfl (Or.inl rfl) (Or.inr rfl))
    (λCq fq sq Hq=>(dJ (@aH _ _ _ _ _ _ _ _ dF (ax Kc GU (by rfl) Ke Kf Kd .nil ag (@ak _ _ _ _ _ (pv 1) (@ak _ _ _ _ _ ao af rfl) rfl)) ao (aG _))))
    (λCq fq sq Hq=>(pv 0)) (by rfl))
   (aj (bw (@aH _ _ _ _ _ _ _ _ dF (@aD _ _ _ _ _ _ _ _ cx (az aJ (by rfl) GJ PySem.boot_len (@ak _ _ _ _ _ (pv 9) af rfl)) ao) ao (aG _)) (aj (@aY _ _ 10 _ _ _ _ jX.nd rfl (Or.inr rfl) (@aZ _ _ _ _ _ _ _ cz (pv 8) (ax Kc GU (by rfl) Ke Kf Kd .nil ag (@ak _ _ _ _ _ (pv 0) (@ak _ _ _ _ _ (az aJ (by rfl) GJ PySem.boot_len (@ak _ _ _ _ _ (pv 8) af rfl)) af rfl) rfl)) (λ_ _=>rfl)) rfl (Or.inl rfl))
   (aq (@aY _ _ 9 _ _ _ _ jX.nd rfl (Or.inl rfl) (@aD _ _ _ _ _ _ _ _ fE (bX (N:=["_law_knot","_law_last"]) (nl:=1) (js:=[10]) (osc:=ai B7) ⟨rfl,rfl,by decide +kernel,by decide +kernel,by decide +kernel,rfl,(.cons ⟨rfl,by decide +kernel⟩ .nil),by decide +kernel⟩ rfl
    (bu (pv 9))
    (λCq fq sq Hq=>av (i:=0) (by show(["_law_knot","_law_last"]:zF).Nodup;decide +kernel) rfl (Or.inl rfl) (Or.inr rfl))
    (λCq fq sq Hq=>(dJ (@aH _ _ _ _ _ _ _ _ fM (pv 0) (pv 1) (aG _))))
    (λCq fq sq Hq=>(pv 0))) (@aD _ _ _ _ _ _ _ _ xH (@cu _ _ _ _ (@ak _ _ _ _ _ (pv 10) af rfl)) (b8 gG (by rfl) Hg (by rfl) (@ak _ _ _ _ _ (@bH _ _ _ _ _ _ _ _ (show dC _ _ (Ah K true) from iy) (pv 10) (pv 9) (by rfl)) af rfl)))) rfl (Or.inl rfl)))) aM)
   (aq (aA (@bh _ _ _ _ _ (@ak _ _ _ _ _ (pv 4) (@ak _ _ _ _ _ (A7 (pv 9) (rE (wR pZ ao))) af rfl) rfl))))))))))),?_⟩
  have b9:∀{x:Int},x.natAbs<2^8->B 9000 x:=λh=>Nat.lt_of_lt_of_le h (Nat.pow_le_pow_right (by decide) (by decide));obtain⟨a0,x0,h0,p0,p1⟩:=hR;refine⟨_,rfl,r,a0,x0,6,rfl,h0,p0,p1,by decide,by decide,λz a1 x1 z0 z1 y0 y1=>?_⟩;have R1:cq (upd H r (.lst [.int a1,.int x1])) r:=⟨a1,x1,ae,y0,y1⟩;have Ku:SameBut r H (upd H r (.lst [.int a1,.int x1])):=SameBut.upd;generalize upd H r _=H1 at R1 Ku |-;refine⟨_,_,rfl,rfl,?_⟩;obtain⟨m,em,lo,hi⟩:∃m:Nat,2+z=(m:Int)/\2<=m/\m<=7:=⟨(2+z).toNat,by omega,by omega,by omega⟩;show bg 2 (.int (2+z)) _ _ _;rw[em];clear em z0 z1 y0 y1 p0 p1 h0;refine⟨_,rfl,(m:Int),rfl,by omega,by omega,?_⟩;refine oP (lo:=0) (n:=(m:Int).toNat) (rest:=[some (.ref r)]) (λj us H'=>cq H' r/\SameBut r H H'/\∃cs:List Int,us=cs.map V.int/\AF cs/\cs.length=j) ⟨R1,Ku,[],rfl,(λi hi=>nomatch hi),rfl⟩ (λj us H' hj h=>?_) (λj us H' M hj h hM=>?_) (λus H' h=>?_)
  ·obtain⟨_,_,l,rfl,_,rfl⟩:=h;rw[List.length_map];exact Nat.lt_of_le_of_lt (by omega:_<=60) (by decide)
  ·obtain⟨⟨a,x,Jb,x0,x1⟩,sb,cs,rfl,hc,rfl⟩:=h;refine ku ⟨_,rfl,r,a,x,4,rfl,Jb,x0,x1,by decide,by decide,λz a2 x2 z0 z1 y0 y1=>?_⟩;refine⟨_,rfl,_,_,rfl,rfl,⟨b9 (by decide),b9 (by omega)⟩,_,_,rfl,rfl,hM _ _ ⟨⟨a2,x2,ae,y0,y1⟩,sb.trans SameBut.upd,cs++[z+4*(0+(cs.length:Int))],by rw[List.map_append];rfl,hc.snoc z0 z1,by rw[List.length_append];rfl⟩⟩
  obtain⟨R2,Rh,cs,rfl,hc,cl⟩:=h;rw[Int.toNat_natCast] at cl;intro L1 Js
  have RD:L1≠r:=λz=>by
   obtain⟨_,_,e,_⟩:=R2;rw[z,e] at Js;cases Js
  have s3:=ah (o:=.lst (cs.map V.int)) Js;have e3:upd H' L1 (.lst (cs.map V.int)) L1=some (.lst (cs.map V.int)):=ae;have R3:cq (upd H' L1 (.lst (cs.map V.int))) r:=let⟨a,x,e,z⟩:=R2;⟨a,x,s3 _ _ e,z⟩;have RE:=Rh.trans (SameBut.of s3);generalize upd H' L1 _=H3 at e3 R3 RE |-;clear s3 Js R2 Rh R1 Ku;refine⟨Nat.zero_le _,λL hL=>?_⟩
  have Mc:L≠r:=λz=>by
   obtain⟨_,_,e,_⟩:=R3;rw[z,e] at hL;cases hL
  have n1L:L1≠L:=au e3 hL;have s4:=ah (o:=.lst []) hL;have e4:upd H3 L (.lst []) L=some (.lst []):=ae;have K8:=s4 _ _ e3;have R4:cq (upd H3 L (.lst [])) r:=let⟨a,x,e,z⟩:=R3;⟨a,x,s4 _ _ e,z⟩;have TV:=RE.trans (SameBut.of s4);have LH:∀c o,H c=some o->c≠r->c≠L:=λc o e n=>au (RE _ _ e n) hL;generalize upd H3 L _=H4 at e4 K8 R4 TV |-;clear s4 R3 RE e3 hL;obtain⟨a,x,Jb,x0,x1⟩:=R4;refine⟨_,rfl,_,rfl,r,a,x,(n:Int),rfl,Jb,x0,x1,by omega,by omega,λz a2 x2 z0 z1 y0 y1=>?_⟩;have R5:cq (upd H4 r (.lst [.int a2,.int x2])) r:=⟨a2,x2,ae,y0,y1⟩;have TY:SameBut r H (upd H4 r (.lst [.int a2,.int x2])):=TV.trans SameBut.upd
  have e5:upd H4 r (.lst [.int a2,.int x2]) L=some (.lst []):=by rw[ar Mc];exact e4
  have K9:upd H4 r (.lst [.int a2,.int x2]) L1=some (.lst (cs.map V.int)):=by rw[ar RD];exact K8
  generalize upd H4 r _=H5 at R5 TY e5 K9 |-;clear Jb x0 x1 y0 y1 e4 K8 TV;refine⟨_,_,rfl,rfl,_,rfl,by omega,by omega,?_⟩;refine jm (lo:=0) (n:=(1+z).toNat) (λi σ H'=>cq H' r/\SameBut r H H'/\H' L1=some (.lst (cs.map V.int))/\(∃ys es,H' L=some (.lst ys)/\oa H' ys es/\D7 cs es/\es.length=i)/\∃o5 o6 o7,σ=[some (.ref r),some (.int n),some (.int m),some (.ref L1),some (.ref L),o5,o6,o7,none,none,none]) ⟨R5,TY,K9,⟨[],[],e5,.nil,(λe he=>nomatch he),rfl⟩,_,_,_,rfl⟩ ?_ ?_
  ·rintro i σ H6 hi6 ⟨⟨a,x,Jb,x0,x1⟩,JJ,M6,⟨ys,es,e6,hy,hE,rfl⟩,o5,o6,o7,rfl⟩;refine⟨_,rfl,_,rfl,r,a,x,(m:Int),rfl,Jb,x0,x1,by omega,by omega,λz6 a7 x7 z0 z1 y0 y1=>?_⟩;have Xq:upd H6 r (.lst [.int a7,.int x7]) r=some (.lst [.int a7,.int x7]):=ae;have Xr:SameBut r H6 (upd H6 r (.lst [.int a7,.int x7])):=SameBut.upd;generalize upd H6 r _=H7 at Xq Xr |-;refine⟨_,rfl,_,_,rfl,rfl,_,rfl,_,rfl,_,_,rfl,rfl,r,a7,x7,(m:Int)-1,rfl,Xq,y0,y1,by omega,by omega,λz7 a8 x8 w0 w1 v0 v1=>?_⟩;have R8:cq (upd H7 r (.lst [.int a8,.int x8])) r:=⟨a8,x8,ae,v0,v1⟩;have Od:SameBut r H6 (upd H7 r (.lst [.int a8,.int x8])):=Xr.trans SameBut.upd;generalize upd H7 r _=H8 at R8 Od |-;obtain⟨u0,u1,une⟩:=wg z0 z1 w0 w1;obtain⟨z8,Xs⟩:∃z8,(z6+1+z7)%(m:Int)=z8:=⟨_,rfl⟩;rw[Xs] at u0 u1 une;refine⟨_,_,rfl,rfl,_,rfl,_,_,rfl,rfl,(by show(0:Int)<m;omega),?_⟩;show bg 7 (.int ((z6+1+z7)%(m:Int))) _ _ _;rw[Xs];have e8:=Od _ _ e6 Mc;have TZ:=Od _ _ M6 RD;refine⟨_,rfl,.inl ⟨rfl,_,aN.of e8⟩,?_⟩;refine⟨_,rfl,_,rfl,L1,_,z6,_,rfl,rfl,aN.of TZ,Ct z0 (by rw[cl];exact z1),_,rfl,_,rfl,L1,_,z8,_,rfl,rfl,aN.of TZ,Ct u0 (by rw[cl];exact u1),gc,λT hT=>?_⟩;have s9:=ah (o:=bO (cs.getD z6.toNat 0) (cs.getD z8.toNat 0)) hT;have e9:upd H8 T (bO (cs.getD z6.toNat 0) (cs.getD z8.toNat 0)) T=some (bO (cs.getD z6.toNat 0) (cs.getD z8.toNat 0)):=ae;change Br _ (upd H8 T (bO (cs.getD z6.toNat 0) (cs.getD z8.toNat 0))) _;generalize upd H8 T _=H9 at s9 e9 |-;have T3:=s9 _ _ e8;have hy9:=(hy.but Jb Od).same s9;have sb:SameBut L H9 (upd H9 L (.lst (ys++[.ref T]))):=SameBut.upd;have yl:=hy.length
   have nT:T≠L:=λz=>by rw[z,T3] at e9;cases e9
   refine⟨L,ys,.ref T,rfl,rfl,T3,Nat.lt_of_le_of_lt (by omega:_<=60) (by decide),?_,λc o e n=>sb _ _ (s9 _ _ (Od _ _ (JJ _ _ e n) n)) (LH c o e n),sb _ _ (s9 _ _ TZ) n1L,⟨_,_,ae,Paired.snoc (hy9.but T3 sb) ⟨T,rfl,sb _ _ e9 nT⟩,hE.snoc hc (by omega) (by omega) (by omega),by rw[List.length_append];rfl⟩,_,_,_,rfl⟩;obtain⟨b,y,e,z⟩:=R8;exact⟨b,y,sb _ _ (s9 _ _ e) (Ne.symm Mc),z⟩
  rintro σ H6 ⟨R6,JJ,M6,⟨ys,es,e6,hy,hE,el⟩,o5,o6,o7,rfl⟩
  have T4:1<=es.length:=by omega
  have KA:es.length<=60:=by omega
  clear el z0 z1 e5 K9 R5 TY;refine⟨_,rfl,L,rfl,⟨_,aN.of e6⟩,?_⟩;refine ig (·.1) 0 (λe=>.inl ⟨rfl,rfl⟩) e6 hy KA λM1 Xu=>?_;have s7:=ah (o:=.lst ((es.map (·.1)).map V.int)) Xu;have e7:upd H6 M1 (.lst ((es.map (·.1)).map V.int)) M1=some (.lst ((es.map (·.1)).map V.int)):=ae;generalize upd H6 M1 _=H7 at s7 e7 |-;refine⟨_,rfl,L,rfl,⟨_,aN.of (s7 _ _ e6)⟩,?_⟩;refine ig (·.2) 1 (λe=>.inr ⟨rfl,rfl⟩) (s7 _ _ e6) (hy.same s7) KA λM2 Xv=>?_;have s8:=ah (o:=.lst ((es.map (·.2)).map V.int)) Xv;have e8:upd H7 M2 (.lst ((es.map (·.2)).map V.int)) M2=some (.lst ((es.map (·.2)).map V.int)):=ae;generalize upd H7 M2 _=H8 at s8 e8 |-;refine⟨M1,M2,_,_,rfl,rfl,s8 _ _ e7,e8,?_,λD9 H9 n9 s9 e9=>?_⟩
  ·rw[List.length_map,List.length_map,List.length_map,List.length_map];exact Nat.le_trans (by omega:_<=120) (by decide)
  rw[<-List.map_append] at e9
  have nm:∀k∈iL es,k∈cs:=λk hk=>by
   rcases List.mem_append.mp hk with hk|hk
   ·obtain⟨e,he,z⟩:=List.mem_map.mp hk;rw[<-z];exact(hE e he).1
   ·obtain⟨e,he,z⟩:=List.mem_map.mp hk;rw[<-z];exact(hE e he).2.1
  refine⟨D9,iL es,rfl,.inl (aN.of e9),Nat.lt_of_le_of_lt (ij nm) (by omega),λDk ks M5 up mem=>?_⟩;have hk:Kn es ks:=⟨up,mem⟩;have k7:ks.length<=7:=Nat.le_trans (dX hk.nd λx hx=>nm x ((mem x).mp hx)) (by omega)
  have k1:0<ks.length:=by
   cases es with
   |nil=>exact absurd T4 (by decide)
   |cons e es=>exact List.length_pos_of_mem ((mem e.1).mpr List.mem_cons_self)
  have R9:cq H9 r:=let⟨a,x,e,z⟩:=R6;⟨a,x,(s7.trans (s8.trans s9)) _ _ e,z⟩
  have T5:Dk≠r:=λz=>by
   obtain⟨_,_,e,_⟩:=R9;rw[z,e] at M5
   cases M5
  have Iq:=ah (o:=.lst (ks.map V.int)) M5;have K7:upd H9 Dk (.lst (ks.map V.int)) Dk=some (.lst (ks.map V.int)):=ae;generalize upd H9 Dk _=M0 at Iq K7 |-;have JK:=s7.trans (s8.trans (s9.trans Iq));have T6:cq M0 r:=let⟨a,x,e,z⟩:=R6;⟨a,x,JK _ _ e,z⟩;have Oe:=JJ.trans (SameBut.of JK);have Of:=JK _ _ e6;have Og:=hy.same JK
  have Oh:∀e∈es,e.1<32/\e.2<32:=λe he=>by
   obtain⟨u1,u2,_⟩:=hE e he;have v1:=(hc.all u1).2;have v2:=(hc.all u2).2;omega
  clear s7 s8 s9 Iq JK R6 JJ e6 hy e7 e8 e9 Xu Xv n9 M5 M6 R9;refine⟨_,rfl,Dk,rfl,⟨_,aN.of K7⟩,?_⟩;refine c6 (a:=Dk) (xs:=ks.map V.int) (rest:=[some (.ref r)]) (λj us H'=>cq H' r/\SameBut r M0 H'/\∃os:List Int,us=os.map V.int/\os.Sublist (ks.take j)) ⟨T6,λc v e _=>e,[],rfl,List.nil_sublist _⟩ (λj us H' hj h=>?_) (λj x us H' M hj hx h hM=>?_) (λus H' h=>?_)
  ·obtain⟨_,sb,os,rfl,sub⟩:=h;have:=sub.length_le;rw[List.length_take] at this;rw[List.length_map];exact⟨Nat.lt_of_le_of_lt (by omega:_<=60) (by decide),aN.of (sb _ _ K7 T5)⟩
  ·obtain⟨⟨a,x0,Jb,x1,x2⟩,sb,os,rfl,sub⟩:=h;rw[List.getElem?_map] at hx;obtain⟨k,ek,rfl⟩:=Option.map_eq_some_iff.mp hx;refine⟨_,rfl,r,a,x0,2,rfl,Jb,x1,x2,by decide,by decide,λz a2 x3 z0 z1 y0 y1=>?_⟩;refine⟨rfl,_,rfl,?_⟩
   show if decide (V.int z=V.int 0)=true then d9 0 _ _ _ else M _ _
   have R2:cq (upd H' r (.lst [.int a2,.int x3])) r:=⟨a2,x3,ae,y0,y1⟩;rw[dw]
   by_cases hz:z=0
   ·rw[if_pos (by simp[hz])];refine⟨_,rfl,hM _ _ ⟨R2,sb.trans SameBut.upd,os++[k],by rw[List.map_append];rfl,?_⟩⟩;rw[List.take_add_one,ek];exact sub.append (List.Sublist.refl _)
   ·rw[if_neg (by simp[hz])];refine hM _ _ ⟨R2,sb.trans SameBut.upd,os,rfl,?_⟩;rw[List.take_add_one];exact sub.trans (List.sublist_append_left _ _)
  obtain⟨T7,JL,os,rfl,sub⟩:=h;rw[List.length_map,List.take_length] at sub
  have Oi:oa H' ys es:=by
   obtain⟨a,x,e,z⟩:=T6;exact Og.but e JL
  have Oj:=JL _ _ Of Mc;have Oa:=JL _ _ K7 T5;have Xw:=Oe.trans JL;have Xx:os.Nodup:=hk.nd.sublist sub;have Ol:∀k∈os,k∈ks:=λk hk=>sub.subset hk;have Kt:os.length<=7:=Nat.le_trans sub.length_le k7;clear T6 JL Og Of K7 Oe sub;intro O hO
  have nO:O≠r:=λz=>by
   obtain⟨_,_,e,_⟩:=T7;rw[z,e] at hO;cases hO
  have Hx:=ah (o:=.lst (os.map V.int)) hO;have Ka:upd H' O (.lst (os.map V.int)) O=some (.lst (os.map V.int)):=ae;generalize upd H' O _=Jh at Hx Ka |-;have T8:cq Jh r:=let⟨a,x,e,z⟩:=T7;⟨a,x,Hx _ _ e,z⟩;have Md:=Xw.trans (SameBut.of Hx);have Me:=Oi.same Hx;have Mf:=Hx _ _ Oj;have Mg:=Hx _ _ Oa;clear Hx T7 Xw Oi Oj Oa hO;refine⟨_,rfl,O,_,rfl,.inl (aN.of Ka),_,_,rfl,rfl,(show(0:Int)<2 by decide),rfl,_,rfl,?_⟩;rw[List.length_map,dw]
  by_cases ev:os.length%2=0
  ·rw[show(((os.length:Nat):Int)%2==0)=true from by simp;omega];obtain⟨a,x,Jb,x0,x1⟩:=T8;refine b7 ⟨_,rfl,_,rfl,_,rfl,Dk,_,rfl,.inl (aN.of Mg),r,a,x,_,rfl,Jb,x0,x1,by rw[List.length_map];omega,by rw[List.length_map];omega,λz a2 x2 z0 z1 y0 y1=>?_⟩;rw[List.length_map] at z1;have Xy:cq (upd Jh r (.lst [.int a2,.int x2])) r:=⟨a2,x2,ae,y0,y1⟩;have Iu:SameBut r Jh (upd Jh r (.lst [.int a2,.int x2])):=SameBut.upd;generalize upd Jh r _=TN at Xy Iu |-;have T9:=Me.but Jb Iu;have Ua:=Iu _ _ Mf Mc;have Ub:=Iu _ _ Mg T5;have L8:=Iu _ _ Ka nO;have Iu:=Md.trans Iu;clear Jb x0 x1 y0 y1 Me Mf Mg Ka Md;refine⟨Dk,_,z,_,rfl,rfl,aN.of Ub,Ct z0 z1,?_⟩;have lm:ks.getD z.toNat 0∈ks:=j0 (by omega);generalize ks.getD z.toNat 0=la at lm |-;refine⟨_,rfl,O,rfl,⟨_,aN.of L8⟩,?_⟩;refine c6 (a:=O) (xs:=os.map V.int) (rest:=[some (.int la)]) (λj us H'=>H'=TN/\us=((os.take j).filter (· != la)).map V.int) ⟨rfl,rfl⟩ (λj us H' hj h=>?_) (λj x us H' M hj hx h hM=>?_) (λus H' h=>?_)
   ·obtain⟨rfl,rfl⟩:=h;have:=List.length_filter_le (· != la) (os.take j);rw[List.length_take] at this;rw[List.length_map];exact⟨Nat.lt_of_le_of_lt (by omega:_<=60) (by decide),aN.of L8⟩
   ·obtain⟨rfl,rfl⟩:=h;rw[List.getElem?_map] at hx;obtain⟨k,ek,rfl⟩:=Option.map_eq_some_iff.mp hx;refine⟨_,rfl,_,rfl,rfl,_,rfl,?_⟩
    show if(!decide (V.int k=V.int la))=true then d9 0 _ _ _ else M _ _
    rw[dw]
    by_cases hz:k=la
    ·rw[if_neg (by simp[hz])];refine hM _ _ ⟨rfl,?_⟩;rw[List.take_add_one,ek,List.filter_append];simp[hz]
    ·rw[if_pos (by simp[hz])];refine⟨_,rfl,hM _ _ ⟨rfl,?_⟩⟩;rw[List.take_add_one,ek,List.filter_append];simp[hz]
   obtain⟨rfl,rfl⟩:=h;rw[List.length_map,List.take_length];intro D hD;have HW:=ah (o:=.lst ((os.filter (· != la)).map V.int)) hD;have K8:upd H' D (.lst ((os.filter (· != la)).map V.int)) D=some (.lst ((os.filter (· != la)).map V.int)):=ae;generalize upd H' D _=RC at HW K8 |-;refine⟨_,rfl,vm,λd hd=>?_⟩;have Ji:=ah (o:=.lst [.int la]) hd;have K9:upd RC d (.lst [.int la]) d=some (.lst [.int la]):=ae;change EI _ _ _ (upd RC d (.lst [.int la])) _;generalize upd RC d _=Ma at Ji K9 |-;have Om:=HW.trans Ji;refine⟨_,rfl,_,rfl,O,_,rfl,.inl (aN.of (Om _ _ L8)),rfl,gB os,.inr ⟨_,rfl,?_⟩⟩;obtain⟨kk,kq⟩:∃kk:Int,(if(if true=true then !iK (.int la) (os.map V.int) else iK (.int la) (os.map V.int))=true then(1:Int) else 0)=kk:=⟨_,rfl⟩
   have Xz:kk=if la∈os then 0 else 1:=by
    rw[<-kq];show(if(!iK (.int la) (os.map V.int))=true then(1:Int) else 0)=_;rw[jg]
    by_cases z:la∈os <;> simp[z]
   rw[kq]
   have kb:kk=0\/kk=1:=by
    rw[Xz]
    split
    ·exact .inl rfl
    ·exact .inr rfl
   refine⟨d,kk,[.int la],rfl,rfl,K9,by omega,by omega,by show 1*kk.toNat<=sizeLine;exact Nat.le_trans (by omega:_<=1) (by decide),λd2 hd2=>?_⟩
   have rp:(List.replicate kk.toNat [V.int la]).flatten=(if la∈os then [] else [la]).map V.int:=by
    rw[Xz]
    by_cases z:la∈os
    ·rw[if_pos z,if_pos z];rfl
    ·rw[if_neg z,if_neg z];rfl
   rw[rp];have Oo:=ah (o:=.lst ((if la∈os then [] else [la]).map V.int)) hd2;have M6:upd Ma d2 (.lst ((if la∈os then [] else [la]).map V.int)) d2=some (.lst ((if la∈os then [] else [la]).map V.int)):=ae;generalize upd Ma d2 _=H16 at Oo M6 |-;have l1:=List.length_filter_le (· != la) os;refine⟨D,d2,_,_,rfl,rfl,(Ji.trans Oo) _ _ K8,M6,?_,λO2 Oq nO2 Uc RF=>?_⟩
   ·rw[List.length_map,List.length_map]
    have:(if la∈os then [] else [la]).length<=1:=by split <;> simp
    exact Nat.le_trans (by omega:_<=60) (by decide)
   rw[<-List.map_append] at RF;have RF:Oq O2=some (.lst ((lH os la).map V.int)):=RF;obtain⟨g1,g2,g3⟩:=yU Xx Ol ev lm;have KC:=Om.trans (Oo.trans Uc);have XA:cq Oq r:=let⟨a,x,e,z⟩:=Xy;⟨a,x,KC _ _ e,z⟩;refine⟨_,rfl,_,rfl,_,rfl,_,rfl,rfl,O2,_,rfl,aN.of RF,λp hp=>?_⟩;rw[<-List.map_reverse];have t1:=ah (o:=.lst ((lH os la).reverse.map V.int)) hp;have f1:upd Oq p (.lst ((lH os la).reverse.map V.int)) p=some (.lst ((lH os la).reverse.map V.int)):=ae;change Br _ (upd Oq p (.lst ((lH os la).reverse.map V.int))) _;generalize upd Oq p _=HA at t1 f1 |-;refine⟨gc,λT hT=>?_⟩;have t2:=ah (o:=.tup [.ref L,.ref p]) hT;have tt:=t1.trans t2
   refine q _ T L p ys es (lH os la).reverse ae (tt _ _ (KC _ _ Ua)) ((T9.same KC).same tt) (t2 _ _ f1) (mJ hc (by omega) hE T4 KA g1 (λk hk=>(mem k).mp (g2 k hk)) g3) Oh ?_ ((Iu.trans (SameBut.of KC)).trans (SameBut.of tt)) Mc (λz=>by
    obtain⟨_,_,e,_⟩:=XA
    rw[z,e] at hp;cases hp)
   exact let⟨a,x,e,z⟩:=XA;⟨a,x,tt _ _ e,z⟩
  ·rw[show(((os.length:Nat):Int)%2==0)=false from by simp;omega];refine bx ?_;refine⟨_,rfl,_,rfl,_,rfl,_,rfl,rfl,O,_,rfl,aN.of Ka,λp hp=>?_⟩;rw[<-List.map_reverse];have t1:=ah (o:=.lst (os.reverse.map V.int)) hp;have f1:upd Jh p (.lst (os.reverse.map V.int)) p=some (.lst (os.reverse.map V.int)):=ae;change Br _ (upd Jh p (.lst (os.reverse.map V.int))) _;generalize upd Jh p _=HA at t1 f1 |-;refine⟨gc,λT hT=>?_⟩;have t2:=ah (o:=.tup [.ref L,.ref p]) hT;have tt:=t1.trans t2
   refine q _ T L p ys es os.reverse ae (tt _ _ Mf) (Me.same tt) (t2 _ _ f1) (mJ hc (by omega) hE T4 KA Xx (λk hk=>(mem k).mp (Ol k hk)) (by omega)) Oh ?_ ((Md).trans (SameBut.of tt)) Mc (λz=>by
    obtain⟨_,_,e,_⟩:=T8
    rw[z,e] at hp;cases hp)
   exact let⟨a,x,e,z⟩:=T8;⟨a,x,tt _ _ e,z⟩
def km (c:Int)(es:Eg):Eg:=es.map λe=>(e.1*c,e.2*c)
theorem oF (c:Int)(es:Eg):iL (km c es)=(iL es).map (·*c):=by
 unfold iL km;rw[List.map_map,List.map_map,List.map_append,List.map_map,List.map_map];rfl
theorem FA.mul {es:Eg}{od:List Int}(w:FA es od){c:Int}(hc:0<c):FA (km c es) (od.map (·*c)):=by
 refine⟨by unfold km;rw[List.length_map];exact w.lo,by unfold km;rw[List.length_map];exact w.hi,λe he=>?_,λk hk=>?_,?_,by rw[List.length_map];exact w.odd,?_⟩
 ·obtain⟨d,hd,z⟩:=List.mem_map.mp he;obtain⟨a,b,b2⟩:=w.ne d hd;rw[<-z];exact⟨λz=>a (Int.eq_of_mul_eq_mul_right (by omega) z),Int.mul_nonneg b (by omega),Int.mul_nonneg b2 (by omega)⟩
 ·obtain⟨x,hx,z⟩:=List.mem_map.mp hk;rw[oF,<-z];exact List.mem_map.mpr ⟨x,w.sub x hx,rfl⟩
 ·exact List.pairwise_map.mpr (w.nd.imp λne z=>ne (Int.eq_of_mul_eq_mul_right (by omega) z))
 ·obtain⟨nm,l,m⟩:=w.few;refine⟨nm.map (·*c),by rw[List.length_map];exact l,λk hk=>?_⟩;rw[oF] at hk;obtain⟨x,hx,z⟩:=List.mem_map.mp hk;rw[<-z];exact List.mem_map.mpr ⟨x,m x hx,rfl⟩
theorem u6 (c:Int)(es:Eg){i:Nat}{e:Int×Int}(h:es[i]?=some e):km c (es.take (i+1))=km c (es.take i)++[(e.1*c,e.2*c)]:=by
 unfold km;rw[List.take_add_one,h,List.map_append];rfl
theorem zT (es:Eg)(od ks:List Int):(pU es od ks).map (·.1)=qW es od ks:=by simp[pU,qW,Function.comp_def]
theorem yZ (es:Eg)(od ks:List Int):(pU es od ks).map (·.2)=ks.map λ_=>[([],((1,1):Int×Int))]:=by simp[pU,Function.comp_def]
def eD (e:Int×Int):D:=.tup [.int e.1,.int e.2]
variable {K:Frag}{H:Hp}
theorem AA :∀{ys:List V}{es:Eg},oa H ys es->aV K H (es.map eD) ys
 |[],[],_=>by rw[List.map_nil];unfold aV;rfl
 |_::_,_::_,.cons ⟨a,e,g⟩ t=>by
  rw[List.map_cons];unfold aV;exact⟨_,_,rfl,by rw[e];unfold eD aI;exact⟨a,_,rfl,bo.of g,se [_,_]⟩,AA t⟩
theorem Ew:∀es:Eg,cZ (es.map eD)<=1
 |[]=>by rw[List.map_nil];unfold cZ;exact Nat.zero_le _
 |e::es=>by
  rw[List.map_cons];unfold cZ;have:=Ew es
  have h:gF (eD e)=1:=by unfold eD gF;rw[show [D.int e.1,D.int e.2]=[e.1,e.2].map D.int from rfl,zY]
  omega
def uu (es:Eg)(od:List Int):D:=.tup [.lst (es.map eD),.lst (od.map D.int)]
variable {a:Addr}
theorem AB {t b:Addr}{ys:List V}{es:Eg}{od:List Int}(ht:H t=some (.tup [.ref a,.ref b]))(ha:H a=some (.lst ys))(hy:oa H ys es)(hb:H b=some (.lst (od.map V.int))):aI K H (uu es od) (.ref t):=by
 unfold uu aI;refine⟨t,_,rfl,bo.of ht,?_⟩;unfold aV;refine⟨_,_,rfl,by unfold aI;exact⟨a,_,rfl,aN.of ha,AA hy⟩,?_⟩;unfold aV;refine⟨_,_,rfl,by unfold aI;exact⟨b,_,rfl,aN.of hb,se od⟩,?_⟩;unfold aV;rfl
theorem E2 (es:Eg)(od:List Int):gF (uu es od)<=32:=by
 have h1:=Ew es;have h2:=zY od
 have e1:gF (.lst (es.map eD))<=2:=by unfold gF;omega
 have e2:gF (.lst (od.map D.int))=1:=by unfold gF;rw[h2]
 unfold uu gF;unfold cZ;unfold cZ;unfold cZ;omega
abbrev zf:Stmt:=(aO 65)
def xR (K:Frag)(H:Hp)(a:Addr)(ns:List Int):Prop:=(∃o,H a=some (.frz o (.lst (ns.map V.int))))\/∃(o:Obj)(its:t6)(n:Nat),K.lookup a=some o/\o.cls=.type "list"/\o.dict=none/\o.data=.seq its n/\its.size<=sizeLine/\L2.aL (ns.map V.int) its.toList
variable {ns:List Int}
theorem xR.sq (h:xR K H a ns):aN K H a (ns.map V.int):=by
 rcases h with⟨o,h⟩|h
 ·exact .inl (.inr ⟨o,h⟩)
 ·exact .inr h
theorem xR.same {H':Hp}(h:xR K H a ns)(S:aC H H'):xR K H' a ns:=by
 rcases h with⟨o,h⟩|h
 ·exact .inl ⟨o,S _ _ h⟩
 ·exact .inr h
theorem xR.but {H':Hp}{r:Addr}(h:xR K H a ns)(R:cq H r)(S:SameBut r H H'):xR K H' a ns:=by
 rcases h with⟨o,h⟩|h
 ·refine .inl ⟨o,S _ _ h λz=>?_⟩;obtain⟨l,x,e,_⟩:=R;rw[z,e] at h
  cases h
 ·exact .inr h
def xQ (K:Frag):Sp:=λvs H Q _=>∃(a:Addr)(ns:List Int),vs=[.ref a]/\xR K H a ns/\ns.length<=63/\∀H',Q (.bl true) H'
theorem DY {z:Int}(h0:0<=z)(h1:z<3):∃c:Int,0<c/\c.natAbs<2^68/\qx [V.int 1,V.int 1,V.int ((10:Int)^(20:Int).toNat)] z=some (.int c):=by
 rcases(by omega:z=0\/z=1\/z=2) with e|e|e <;> rw[e]
 ·exact⟨1,by decide,by decide,rfl⟩
 ·exact⟨1,by decide,by decide,rfl⟩
 ·exact⟨(10:Int)^(20:Int).toNat,by decide,by decide,rfl⟩
theorem fL:yJ ["_law_script","_law_k","_law_pool_here","_law_edges","_law_odd","_law_by","_law_handed","_law_ones","_law_turn","_law_found"] ["_law_script"] (ai zf):=dE (by decide +kernel)
set_option maxHeartbeats 4000000 in
theorem BL {f fo ft fn fr fy fj fv fx CS C CF:Addr}{fd NW IW N9 NZ N8 XB NL XC:EK}(F:vM K "law" "law" zf f fd)(GX:mg "range"=none)(Hm:mg "max"=none)(JM:mg "min"=none)(GJ:mg "len"=none)(Hg:mg "int"=none)(GO:mg "list"=none)
 (SH:Bp P w K mg base (bf P w) 1 fo NW BC (yn K))(SJ:L2.ay K NW BC [])(SK:mg "_law_pool"=some (.ref fo))(kPo:keepIn K (.ref fo)=true)
 (Kc:Bp P w K mg base (bf P w) 1 ft IW zV DF)(Kd:L2.ay K IW zV [])(Ke:mg "_law_take"=some (.ref ft))(Kf:keepIn K (.ref ft)=true)
 (FWD:Bp P w K mg base (bf P w) 2 fv NL Fi qD)(bWD:L2.ay K NL Fi [])(mWD:mg "_law_web_drawn"=some (.ref fv))(kWD:keepIn K (.ref fv)=true)
 (FLW:Bp P w K mg base (bf P w) 5 fx XC tQ Cw)(bLW:L2.ay K XC tQ [])(mLW:mg "_law_web"=some (.ref fx))(kLW:keepIn K (.ref fx)=true)
 (FWe:Bp P w K mg base (bf P w) 9 fn N9 yT (CP CS C CF))(bWe:L2.ay K N9 yT [])(mWe:mg "web"=some (.ref fn))(kWe:keepIn K (.ref fn)=true)
 (FWs:Bp P w K mg base (bf P w) 9 fr NZ yT (Di C CF))(bWs:L2.ay K NZ yT [])(mWs:mg "web_showing"=some (.ref fr))(kWs:keepIn K (.ref fr)=true)
 (FIy:Bp P w K mg base (bf P w) 4 fy N8 pK (Ez CS C CF))(bIy:L2.ay K N8 pK [])(mIy:mg "_law_is_system"=some (.ref fy))(kIy:keepIn K (.ref fy)=true)
 (FIs:Bp P w K mg base (bf P w) 6 fj XB DB (C0 C CF))(bIs:L2.ay K XB DB [])(mIs:mg "_law_is_showing"=some (.ref fj))(kIs:keepIn K (.ref fj)=true):
 Bp P w K mg base (bf P w) 10 f fd ["_law_script"] (xQ K):=by
 refine F.okN fL (λvs H Q E h=>?_) (λGN A outer s H vs Q E hr h=>?_)
 ·obtain⟨a,ns,rfl,_⟩:=h;rfl
 ·obtain⟨a,ns,rfl,XD,hlen,fin⟩:=h;have Mh:wK 9 _:=hr;have TF:wK 6 _:=Mh.mono (by decide);have K3:wK 5 _:=Mh.mono (by decide);have HR:wK 4 _:=Mh.mono (by decide);have HV:wK 2 _:=Mh.mono (by decide);have GU:wK 1 _:=Mh.mono (by decide)
  refine⟨_,(@aj _ _ _ _ _ (@dZ _ _ _ _ _ _ _ _ PassesOwn.never rfl (gy (by rfl) GX (@ak _ _ _ _ _ (az (aa5 rfl) (by rfl) Hm (by rfl) (@ak _ _ _ _ _ ao (@ak _ _ _ _ _ (az (aaD rfl) (by rfl) JM (by rfl) (@ak _ _ _ _ _ (az aJ (by rfl) GJ PySem.boot_len (@ak _ _ _ _ _ (pv 0) af rfl)) (@ak _ _ _ _ _ ao af rfl) rfl)) af rfl) rfl)) af rfl)) (av (i:=1) fL.nd rfl (Or.inl rfl))
   (@aj _ _ _ _ _ (@aY _ _ 2 _ _ _ _ fL.nd rfl (Or.inl rfl) (ax SH GU (by rfl) SK kPo SJ .nil ag (@ak _ _ _ _ _ (pv 0) (@ak _ _ _ _ _ (pv 1) af rfl) rfl)) rfl (Or.inl rfl))
   (@aj _ _ _ _ _ (nK (ax FWD HV (by rfl) mWD kWD bWD .nil ag (@ak _ _ _ _ _ (pv 2) (@ak _ _ _ _ _ (@aZ _ _ _ _ _ _ _ cz (@cu _ _ _ _ (@ak _ _ _ _ _ ao (@ak _ _ _ _ _ ao af rfl) rfl)) (b8 gG (by rfl) Hg (by rfl) (@ak _ _ _ _ _ (@bH _ _ _ _ _ _ _ _ dF (ax Kc GU (by rfl) Ke Kf Kd .nil ag (@ak _ _ _ _ _ (pv 2) (@ak _ _ _ _ _ ao af rfl) rfl)) ao (aG _)) af rfl)) (λ_ _=>rfl)) af rfl) rfl)) (bZ rfl (aB (av (i:=3) fL.nd rfl (Or.inl rfl)) (aB (av (i:=4) fL.nd rfl (Or.inl rfl)) bz))))
   (@aj _ _ _ _ _ (@aY _ _ 5 _ _ _ _ fL.nd rfl (Or.inr rfl) (@aZ _ _ _ _ _ _ _ cz (@cu _ _ _ _ (@ak _ _ _ _ _ ao (@ak _ _ _ _ _ ao (@ak _ _ _ _ _ (@aD _ _ _ _ _ _ _ _ yi ao ao) af rfl) rfl) rfl)) (ax Kc GU (by rfl) Ke Kf Kd .nil ag (@ak _ _ _ _ _ (pv 2) (@ak _ _ _ _ _ ao af rfl) rfl)) (λ_ _=>rfl)) rfl (Or.inl rfl))
   (@aj _ _ _ _ _ (fH (i:=3) (g:=(gq K 2 (bD (bg 0) (bD (bg 1) ve)))) (N:=["_law_one","_law_other","_law_by"]) (nl:=2) (js:=[5]) (osc:=ai zf) ⟨rfl,rfl,by decide +kernel,by decide +kernel,by decide +kernel,rfl,(.cons ⟨rfl,by decide +kernel⟩ .nil),by decide +kernel⟩ rfl fL.nd rfl (Or.inl rfl)
    (bu (pv 3))
    (λCq fq sq Hq=>(bZ (X:=bY _ ["_law_one","_law_other","_law_by"] _ Cq fq sq Hq) rfl (aB (av (X:=bY _ ["_law_one","_law_other","_law_by"] _ Cq fq sq Hq) (i:=0) (by show(["_law_one","_law_other","_law_by"]:zF).Nodup;decide +kernel) rfl (Or.inl rfl) (Or.inr rfl)) (aB (av (X:=bY _ ["_law_one","_law_other","_law_by"] _ Cq fq sq Hq) (i:=1) (by show(["_law_one","_law_other","_law_by"]:zF).Nodup;decide +kernel) rfl (Or.inl rfl) (Or.inr rfl)) bz))))
    (λCq fq sq Hq=>bK)
    (λCq fq sq Hq=>(@bh _ _ _ _ _ (@ak _ _ _ _ _ (@aD _ _ _ _ _ _ _ _ cw (pv 0) (pv 2)) (@ak _ _ _ _ _ (@aD _ _ _ _ _ _ _ _ cw (pv 1) (pv 2)) af rfl) rfl))) (by rfl))
   (@aj _ _ _ _ _ (fH (i:=4) (N:=["_law_knot","_law_by"]) (nl:=1) (js:=[5]) (osc:=ai zf) ⟨rfl,rfl,by decide +kernel,by decide +kernel,by decide +kernel,rfl,(.cons ⟨rfl,by decide +kernel⟩ .nil),by decide +kernel⟩ rfl fL.nd rfl (Or.inl rfl)
    (bu (pv 4))
    (λCq fq sq Hq=>av (i:=0) (by show(["_law_knot","_law_by"]:zF).Nodup;decide +kernel) rfl (Or.inl rfl) (Or.inr rfl))
    (λCq fq sq Hq=>bK)
    (λCq fq sq Hq=>(@aD _ _ _ _ _ _ _ _ cw (pv 0) (pv 1))) (by rfl))
   (@aj _ _ _ _ _ (@aY _ _ 6 _ _ _ _ fL.nd rfl (Or.inl rfl) (@bh _ _ _ _ _ (@ak _ _ _ _ _ (b8 cA (by rfl) GO (by rfl) (@ak _ _ _ _ _ (pv 3) af rfl)) (@ak _ _ _ _ _ (b8 cA (by rfl) GO (by rfl) (@ak _ _ _ _ _ (pv 4) af rfl)) af rfl) rfl)) rfl (Or.inl rfl))
   (@aj _ _ _ _ _ (@aY _ _ 7 _ _ _ _ fL.nd rfl (Or.inl rfl) (ax FLW K3 (by rfl) mLW kLW bLW .nil ag (@ak _ _ _ _ _ (pv 3) (@ak _ _ _ _ _ (pv 4) af rfl) rfl)) rfl (Or.inl rfl))
   (@aj _ _ _ _ _ (bw (bB (bJ (ax FIy HR (by rfl) mIy kIy bIy .nil ag (@ak _ _ _ _ _ (ax FWe Mh (by rfl) mWe kWe bWe .nil ag (@ak _ _ _ _ _ (@aZ _ _ _ _ _ _ _ a9 (pv 6) ao (λ_ _=>rfl)) (@ak _ _ _ _ _ (@aZ _ _ _ _ _ _ _ a9 (pv 6) ao (λ_ _=>rfl)) af rfl) rfl)) (@ak _ _ _ _ _ ao (@ak _ _ _ _ _ (az aJ (by rfl) GJ PySem.boot_len (@ak _ _ _ _ _ (pv 3) af rfl)) (@ak _ _ _ _ _ (pv 7) af rfl) rfl) rfl) rfl)))) (@aq _ _ _ (aA fX)) aM)
   (@aq _ _ _ (dZ PassesOwn.never rfl (gy (by rfl) GX (@ak _ _ _ _ _ ao af rfl)) (av (i:=8) fL.nd rfl (Or.inl rfl))
   (@aj _ _ _ _ _ (@aY _ _ 9 _ _ _ _ fL.nd rfl (Or.inl rfl) (ax FWs Mh (by rfl) mWs kWs bWs .nil ag (@ak _ _ _ _ _ (@aZ _ _ _ _ _ _ _ a9 (pv 6) ao (λ_ _=>rfl)) (@ak _ _ _ _ _ (@aZ _ _ _ _ _ _ _ a9 (pv 6) ao (λ_ _=>rfl)) af rfl) rfl)) rfl (Or.inl rfl))
   (@aj _ _ _ _ _ (bw (PW.pt (dz (bB (bJ (ax FIs TF (by rfl) mIs kIs bIs .nil ag (@ak _ _ _ _ _ ao (@ak _ _ _ _ _ (az aJ (by rfl) GJ PySem.boot_len (@ak _ _ _ _ _ (pv 3) af rfl)) (@ak _ _ _ _ _ (pv 7) (@ak _ _ _ _ _ ao (@ak _ _ _ _ _ (pv 9) af rfl) rfl) rfl) rfl) rfl)))) (cR (@aH _ _ _ _ _ _ _ _ (show dC _ _ (vh K true) from qi GU) (pv 6) (@bh _ _ _ _ _ (@ak _ _ _ _ _ (pv 3) (@ak _ _ _ _ _ (pv 4) af rfl) rfl)) (aG _))))) (@aq _ _ _ (aA fX)) aM)
   (@aq _ _ _ (jF (Bu PySem.F.plainAttrs_list PySem.F.slot_list_clear PySem.F.type_list_clear wA (pv 9)))))))))))))))) (by intro _;rfl))
   (@aq _ _ _ (aA fX))),?_⟩
  refine⟨_,rfl,a,_,rfl,.inl XD.sq,_,_,rfl,_,_,rfl,_,rfl,?_,?_,?_⟩
  ·rw[List.length_map]
   split <;> split <;> omega
  ·rw[List.length_map]
   split <;> split <;> omega
  have b9:∀{x:Int},x.natAbs<2^68->B 9000 x:=λh=>Nat.lt_of_lt_of_le h (Nat.pow_le_pow_right (by decide) (by decide));refine jm (lo:=0) (λi σ H'=>(∃o1 o2 o3 o4 o5 o6 o7 o8 o9,σ=[some (.ref a),o1,o2,o3,o4,o5,o6,o7,o8,o9])/\xR K H' a ns) ⟨⟨_,_,_,_,_,_,_,_,_,rfl⟩,XD⟩ ?_ ?_
  ·rintro i σ G0 hi ⟨⟨o1,o2,o3,o4,o5,o6,o7,o8,o9,rfl⟩,XE⟩
   have abo:i<40:=by
    rw[List.length_map] at hi
    split at hi <;> split at hi <;> omega
   refine⟨_,rfl,_,rfl,a,ns,0+(i:Int),rfl,XE.sq,hlen,by omega,by omega,λr l1 r1 Sl GU HV=>?_⟩;have S1:=ah (o:=.lst [.int l1,.int r1]) Sl;have Ud:=XE.same S1;have e1:upd G0 r (.lst [.int l1,.int r1]) r=some (.lst [.int l1,.int r1]):=ae;generalize (upd G0 r (.lst [.int l1,.int r1]))=G1 at Ud e1 |-;clear S1;refine⟨_,rfl,gc,λd hd=>?_⟩;have S2:=ah (o:=.lst [.int 6,.int 60]) hd;have ed:upd G1 d (.lst [.int 6,.int 60]) d=some (.lst [.int 6,.int 60]):=ae;have Ue:=Ud.same S2;have e2:=S2 _ _ e1;have nd:d≠r:=(au e1 hd).symm;change EI _ _ _ (upd G1 d (.lst [.int 6,.int 60])) _;generalize upd G1 d _=G2 at Ue ed e2 |-;clear S2 Ud e1 hd;refine⟨_,rfl,r,l1,r1,4,rfl,e2,GU,HV,by decide,by decide,λv l6 r6 v0 v1 v2 v3=>?_⟩
   have Ug:xR K (upd G2 r (.lst [.int l6,.int r6])) a ns:=Ue.but ⟨l1,r1,e2,GU,HV⟩ λb u e hb=>by rw[ar hb];exact e
   have R3:cq (upd G2 r (.lst [.int l6,.int r6])) r:=⟨l6,r6,ae,v2,v3⟩
   have XF:upd G2 r (.lst [.int l6,.int r6]) d=some (.lst [.int 6,.int 60]):=by rw[ar nd];exact ed
   refine⟨rfl,.inr ⟨_,rfl,?_⟩⟩
   have many:∃n:Nat,1<=n/\n<=60/\qx [V.int 6,V.int 60] (if decide (V.int v=V.int 0)=true then 1 else 0)=some (.int n):=by
    by_cases z:V.int v=V.int 0
    ·rw[decide_eq_true z];exact⟨60,by decide,by decide,rfl⟩
    ·rw[decide_eq_false z];exact⟨6,by decide,by decide,rfl⟩
   obtain⟨n,n1,Xp,hn⟩:=many;refine⟨d,_,_,.int n,rfl,rfl,aN.of XF,hn,?_⟩;generalize upd G2 r (.lst [.int l6,.int r6])=G3 at Ug R3 |-;clear XF hn ed Ue e2 nd v0 v1 v2 v3 GU HV;refine⟨r,n,rfl,R3,n1,Xp,λG4 t b1 b2 ys es od et KD hy IY W hb R4 S4 RD n2r=>?_⟩;have XG:=Ug.but R3 S4;clear Ug S4 R3;refine⟨t,_,rfl,bo.of et,rfl,_,_,rfl,_,_,rfl,rfl,?_⟩;refine⟨_,_,rfl,rfl,⟨by decide,by decide,by decide⟩,aaq,λm hm=>?_⟩;have S5:=ah (o:=.lst [.int 1,.int 1,.int ((10:Int)^(20:Int).toNat)]) hm;have em:upd G4 m (.lst [.int 1,.int 1,.int ((10:Int)^(20:Int).toNat)]) m=some (.lst [.int 1,.int 1,.int ((10:Int)^(20:Int).toNat)]):=ae;obtain⟨l5,r5,e5,z1,z2⟩:=R4;have nm:m≠r:=(au e5 hm).symm;have e5:=S5 _ _ e5;have Uh:=XG.same S5;have KD:=S5 _ _ KD;have IY:=S5 _ _ IY;have hy:=hy.same S5;change Az _ _ _ _ _ (upd G4 m (.lst [.int 1,.int 1,.int ((10:Int)^(20:Int).toNat)])) _;generalize upd G4 m _=G5 at Uh em e5 KD IY hy |-;clear S5 XG et hm;refine⟨_,rfl,r,l5,r5,3,rfl,e5,z1,z2,by decide,by decide,λv l6 r6 v0 v1 v2 v3=>?_⟩;have JJ:SameBut r G5 (upd G5 r (.lst [.int l6,.int r6])):=SameBut.upd;have Ui:=Uh.but ⟨l5,r5,e5,z1,z2⟩ JJ;have em:=JJ _ _ em nm;have hy:=hy.but e5 JJ;have KD:=JJ _ _ KD RD;have IY:=JJ _ _ IY n2r;generalize upd G5 r _=G6 at Ui em hy KD IY |-;obtain⟨c,c0,c1,Rm⟩:=DY v0 v1;refine⟨m,_,v,.int c,rfl,rfl,aN.of em,Rm,?_⟩;clear em Rm e5 z1 z2 JJ v0 v1 v2 v3 nm Uh;have yl:=hy.length;have Kz:=W.hi
   have hz:∀e∈es,B 9000 e.1/\B 9000 e.2:=λe he=>by
    have:=W.ne e he;have:=hb e he;have q:(2:Nat)^8<=2^68:=Nat.pow_le_pow_right (by decide) (by decide);exact⟨b9 (Nat.lt_of_lt_of_le (by omega:e.1.natAbs<2^8) q),b9 (Nat.lt_of_lt_of_le (by omega:e.2.natAbs<2^8) q)⟩
   have ho:∀k∈od,B 9000 k:=λk hk=>by
    rcases List.mem_append.mp (W.sub k hk) with h|h
    ·obtain⟨e,he,z⟩:=List.mem_map.mp h;rw[<-z];exact(hz e he).1
    ·obtain⟨e,he,z⟩:=List.mem_map.mp h;rw[<-z];exact(hz e he).2
   have bc:=b9 c1
   have Kt:od.length<=1000:=by
    obtain⟨nm,l,mm⟩:=W.few;exact Nat.le_trans (dX W.nd λk hk=>mm k (W.sub k hk)) (by omega)
   refine⟨_,rfl,b1,rfl,⟨_,aN.of KD⟩,?_⟩;refine gC (a:=b1) (xs:=ys) (rest:=[some (.int c)]) (λj us H'=>aC G6 H'/\oa H' us (km c (es.take j))) ⟨aC.refl _,.nil⟩ (λj us H' hj h=>?_) (λj x us H' hj hx h=>?_) (λus H' h=>?_)
   ·obtain⟨s7,hu⟩:=h;refine⟨?_,aN.of (s7 _ _ KD)⟩;rw[hu.length];unfold km;rw[List.length_map,List.length_take];exact Nat.lt_of_le_of_lt (by omega:_<=60) (by decide)
   ·obtain⟨s7,hu⟩:=h;obtain⟨e,ee,t,rfl,ht⟩:=aW hy hx;have he:=hz e (List.mem_of_getElem? ee);refine⟨t,.int e.1,.int e.2,rfl,bo.of (s7 _ _ ht),λN hN=>ku ?_⟩;refine⟨_,rfl,_,rfl,_,_,rfl,rfl,⟨he.1,bc⟩,_,rfl,_,rfl,_,_,rfl,rfl,⟨he.2,bc⟩,gc,λT hT=>hN _ _ ?_⟩;have s8:=ah (o:=bO (e.1*c) (e.2*c)) hT;refine⟨s7.trans s8,?_⟩;rw[u6 c es ee];exact Paired.snoc (hu.same s8) ⟨T,rfl,ae⟩
   obtain⟨s7,hu⟩:=h;rw[yl,List.take_length] at hu;have W2:=W.mul c0;obtain⟨Jf,q2⟩:∃Jf,km c es=Jf:=⟨_,rfl⟩;rw[q2] at hu W2;have XH:=Ui.same s7;have IY:=s7 _ _ IY;clear Ui s7 hy KD hz q2 hb yl Kz;intro A hA;have s8:=ah (o:=.lst us) hA;have eA:upd H' A (.lst us) A=some (.lst us):=ae;have hu:=hu.same s8;have Uj:=XH.same s8;have IY:=s8 _ _ IY;generalize upd H' A _=G8 at hu Uj IY eA |-;clear s8 XH hA;refine⟨_,rfl,b2,rfl,⟨_,aN.of IY⟩,?_⟩;refine c6 (a:=b2) (xs:=od.map V.int) (rest:=[some (.int c)]) (λj us H'=>H'=G8/\us=((od.take j).map (·*c)).map V.int) ⟨rfl,rfl⟩ (λj us H' hj h=>?_) (λj x us H' M hj hx h hM=>?_) (λus H' h=>?_)
   ·obtain⟨rfl,rfl⟩:=h;rw[List.length_map,List.length_map,List.length_take];exact⟨Nat.lt_of_le_of_lt (by omega:_<=1000) (by decide),aN.of IY⟩
   ·obtain⟨rfl,rfl⟩:=h;rw[List.getElem?_map] at hx;obtain⟨k,ek,rfl⟩:=Option.map_eq_some_iff.mp hx;refine ku ⟨_,rfl,_,rfl,_,_,rfl,rfl,⟨ho k (List.mem_of_getElem? ek),bc⟩,hM _ _ ⟨rfl,?_⟩⟩;rw[List.take_add_one,ek,List.map_append,List.map_append];rfl
   obtain⟨rfl,rfl⟩:=h;rw[List.length_map,List.take_length];obtain⟨Iv,q2⟩:∃Iv,od.map (·*c)=Iv:=⟨_,rfl⟩;rw[q2] at W2 |-;clear q2 ho bc Kt W IY;intro A2 XI;have s9:=ah (o:=.lst (Iv.map V.int)) XI;have eO:upd H' A2 (.lst (Iv.map V.int)) A2=some (.lst (Iv.map V.int)):=ae;have hu:=hu.same s9;have Uk:=Uj.same s9;have eA:=s9 _ _ eA;generalize upd H' A2 _=G9 at hu Uk eO eA |-;clear s9 Uj XI;refine⟨_,rfl,A,_,rfl,.inl (aN.of eA),λC1 XJ=>?_⟩;have Iq:=ah (o:=.lst us) XJ;have eC:upd G9 C1 (.lst us) C1=some (.lst us):=ae;generalize upd G9 C1 _=Ul at Iq eC |-;refine⟨_,rfl,A2,_,rfl,.inl (aN.of (Iq _ _ eO)),λC2 XM=>?_⟩;have Ja:=ah (o:=.lst (Iv.map V.int)) XM;have La:upd Ul C2 (.lst (Iv.map V.int)) C2=some (.lst (Iv.map V.int)):=ae;change Br _ (upd Ul C2 (.lst (Iv.map V.int))) _;generalize upd Ul C2 _=XN at Ja La |-;refine⟨gc,λT hT=>?_⟩;have Hx:=ah (o:=.tup [.ref C1,.ref C2]) hT;have eT:upd XN T (.tup [.ref C1,.ref C2]) T=some (.tup [.ref C1,.ref C2]):=ae;generalize upd XN T _=G12 at Hx eT |-;have JN:=Iq.trans (Ja.trans Hx);have hu:=hu.same JN;have Ot:=Uk.same JN;have eA:=JN _ _ eA;have eO:=JN _ _ eO;have eC:=(Ja.trans Hx) _ _ eC;have La:=Hx _ _ La;clear Iq Ja Hx JN Uk XJ XM hT;have u60:=W2.hi;have ul:=hu.length;refine⟨_,rfl,_,rfl,A,A2,us,Jf,Iv,rfl,eA,hu,eO,W2,λG13 D ms ks IK hk eD hP=>?_⟩;refine⟨_,rfl,T,_,0,_,rfl,rfl,bo.of (IK _ _ eT),rfl,_,rfl,T,_,1,_,rfl,rfl,bo.of (IK _ _ eT),rfl,C1,C2,us,Jf,Iv,rfl,IK _ _ eC,hu.same IK,IK _ _ La,W2,λG14 sy fl as ks2 HW Rj Y hS=>?_⟩;obtain rfl:=hk.eq Rj;have Mi:=IK.trans HW;refine⟨_,rfl,A,_,rfl,.inl (aN.of (Mi _ _ eA)),_,rfl,?_⟩;rw[ul];refine⟨sy,fl,D,2,_,as,ms,qW Jf Iv ks,rfl,Y,F2,hS,HW _ _ eD,Paired.aat hP λ_ _ z=>qm.same z HW,?_,λXO Ji=>⟨_,rfl,bx ?_⟩⟩
   ·have:=hk.len W2;unfold qW;rw[List.length_map];omega
   have Iw:=Mi.trans Ji;have hu:=hu.same Iw;have Um:=Ot.same Iw;have eA:=Iw _ _ eA;have eO:=Iw _ _ eO;have eC:=Iw _ _ eC;have La:=Iw _ _ La;have eT:=Iw _ _ eT;have eD:=(HW.trans Ji) _ _ eD;have hP:Paired (qm XO) ms (qW Jf Iv ks):=Paired.aat hP λ_ _ z=>qm.same z (HW.trans Ji);clear Mi Iw IK HW Ji Y hS Rj Ot;refine⟨2,rfl,by decide,by decide,?_⟩;refine jm (lo:=0) (n:=(2:Int).toNat) (λi' σ H'=>aC XO H'/\∃o8 o9,σ=[some (.ref a),some (.int (0+(i:Int))),some (.ref r),some (.ref A),some (.ref A2),some (.int c),some (.ref T),some (.ref D),o8,o9]) ⟨aC.refl _,_,_,rfl⟩ ?_ ?_
   ·rintro i' σ H6 Sn ⟨s6,o8,o9,rfl⟩;refine⟨_,rfl,T,_,0,_,rfl,rfl,bo.of (s6 _ _ eT),rfl,_,rfl,T,_,1,_,rfl,rfl,bo.of (s6 _ _ eT),rfl,C1,C2,us,Jf,Iv,rfl,s6 _ _ eC,hu.same s6,s6 _ _ La,W2,λH7 Df vs ks3 s7 nD hk3 XQ hS3=>?_⟩;obtain rfl:=hk.eq hk3;have IX:=s6.trans s7;refine⟨_,rfl,A,_,rfl,.inl (aN.of (IX _ _ eA)),?_⟩;refine⟨_,rfl,_,rfl,_,D,Df,ms,vs,pU Jf Iv ks,rfl,IX _ _ eD,?_,XQ,?_,vN u60,?_,BD W2 hk,rX W2 hk,λH8 s8=>⟨_,rfl,bx ?_⟩⟩
    ·rw[zT];exact Paired.aat hP λ_ _ z=>qm.same z IX
    ·rw[yZ];exact hS3
    ·unfold pU;rw[List.length_map];exact hk.len W2
    have s58:=IX.trans s8;refine⟨_,rfl,_,rfl,_,rfl,gc,λT2 hT2=>?_⟩;have s9:=ah (o:=.tup [.ref A,.ref A2]) hT2;have XR:upd H8 T2 (.tup [.ref A,.ref A2]) T2=some (.tup [.ref A,.ref A2]):=ae;generalize upd H8 T2 _=H9 at s9 XR |-;have Lb:=s58.trans s9;refine⟨uu Jf Iv,uu Jf Iv,AB (Lb _ _ eT) (Lb _ _ eC) (hu.same Lb) (Lb _ _ La),AB XR (Lb _ _ eA) (hu.same Lb) (Lb _ _ eO),E2 _ _,_,rfl,?_⟩;rw[dY];refine bx ?_;have Ou:=(s8.trans s9) _ _ XQ;refine⟨_,rfl,.inl ⟨rfl,_,aN.of Ou⟩,Df,_,rfl,rfl,Ou,?_⟩;refine⟨λc u e=>?_,_,_,rfl⟩;rw[ar (au (s6 _ _ e) nD)];exact Lb _ _ e
   ·rintro σ H6 ⟨s6,o8,o9,rfl⟩;exact⟨⟨_,_,_,_,_,_,_,_,_,rfl⟩,Um.same s6⟩
  ·rintro σ H' ⟨⟨o1,o2,o3,o4,o5,o6,o7,o8,o9,rfl⟩,_⟩;exact fin _
end K75
namespace Hd
open PySem PySem.W PyProof.Rows
def oB (K:Frag)(x qual:Str)(st:Stmt)(f:Addr):Prop:=∃(oc:Value)(od:BY)(kV doc pm:Value)(an:BY)(GN ct:Value)(Hi:Ds),
 K.lookup f=some ⟨oc,od,.func (fnOf x qual (L2.cP st) (L2.cc st) (L2.ai st) .none kV doc pm an GN ct),Hi⟩/\codeIn K GN qual=true/\keepIn K (.ref f)=true
variable {K:Frag}{x qual:Str}{st:Stmt}
theorem qd {v:Option (Option Value)}(h:aR K v=dj x qual st)(b:da K v qual=true):v=some (some (.ref (cL v)))/\oB K x qual st (cL v):=by
 unfold aR at h;obtain⟨fd,e,s⟩:=Option.map_eq_some_iff.mp (show(oH K v).map Ai=some _ from h);unfold da at b;rw[e] at b;rw[Bool.and_eq_true] at b;unfold oH at e
 split at e
 ·rename_i f
  split at e
  ·rename_i oc od fd' Hi hl
   cases e
   refine⟨rfl,oc,od,fd.kwdefaults,fd.doc,fd.pyModule,fd.annotations,fd.code,fd.closureTuple,Hi,?_,b.2,b.1⟩;show K.lookup f=_;rw[hl];obtain⟨n,q,p,bd,sc,g,c,dv,kv,dc,pm,an,cd,ct,bl⟩:=fd;unfold Ai at s;simp only[Prod.mk.injEq] at s;obtain⟨rfl,rfl,rfl,rfl,rfl,rfl,rfl,rfl,rfl⟩:=s;rfl
  ·cases e
 ·cases e
theorem oB.fn {f:Addr}(d:oB K x qual st f):∃fd,L2.vM K x qual st f fd:=by
 obtain⟨oc,od,kV,doc,pm,an,GN,ct,Hi,l,c,k⟩:=d;exact⟨_,L2.AQ l c k⟩
theorem oB.keep {f:Addr}(d:oB K x qual st f):keepIn K (.ref f)=true:=by
 obtain⟨oc,od,kV,doc,pm,an,GN,ct,Hi,l,c,k⟩:=d;exact k
end Hd
namespace L2
open PySem PySem.Spec PyProof.Rows PySem.W
end L2
namespace Hd
open PySem PySem.W PyProof.Rows
def wa (K:Frag)(x qual:Str)(st:Stmt)(f T:Addr):Prop:=∃(oc:Value)(od:BY)(kV doc pm:Value)(an:BY)(GN ct:Value)(Hi:Ds),
 K.lookup f=some ⟨oc,od,.func (fnOf x qual (L2.cP st) (L2.cc st) (L2.ai st) (.ref T) kV doc pm an GN ct),Hi⟩/\codeIn K GN qual=true/\keepIn K (.ref f)=true
variable {K:Frag}{x qual:Str}{st:Stmt}
theorem iF {v:Option (Option Value)}(h:f9 K v=dj x qual st)(b:da K v qual=true)(d:pP K v=true):v=some (some (.ref (cL v)))/\wa K x qual st (cL v) (lF K v):=by
 unfold f9 at h;obtain⟨fd,e,s⟩:=Option.map_eq_some_iff.mp (show(oH K v).map (λfd=>Ai {fd with defaults:=.none})=some _ from h)
 have hd:fd.defaults=.ref (lF K v):=by
  unfold pP ED at d;unfold lF ED;rw[e] at d |-;dsimp only at d |-
  cases q:fd.defaults with
  |ref a=>rfl
  |_=>rw[q] at d;cases d
 unfold da at b;rw[e] at b;rw[Bool.and_eq_true] at b;generalize lF K v=T at hd;unfold oH at e
 split at e
 ·rename_i f
  split at e
  ·rename_i oc od fd' Hi hl
   cases e
   refine⟨rfl,oc,od,fd.kwdefaults,fd.doc,fd.pyModule,fd.annotations,fd.code,fd.closureTuple,Hi,?_,b.2,b.1⟩;show K.lookup f=_;rw[hl];obtain⟨n,q,p,bd,sc,g,c,dv,kv,dc,pm,an,cd,ct,bl⟩:=fd;unfold Ai at s;simp only[Prod.mk.injEq] at s;have hd:dv=.ref T:=hd;subst hd;obtain⟨rfl,rfl,rfl,rfl,rfl,rfl,rfl,_,rfl⟩:=s;rfl
  ·cases e
 ·cases e
theorem wa.fn {f T:Addr}(d:wa K x qual st f T):∃fd,L2.Fx K x qual st f fd T:=by
 obtain⟨oc,od,kV,doc,pm,an,GN,ct,Hi,l,c,k⟩:=d;exact⟨_,L2.zO l c k⟩
theorem wa.keep {f T:Addr}(d:wa K x qual st f T):keepIn K (.ref f)=true:=by
 obtain⟨oc,od,kV,doc,pm,an,GN,ct,Hi,l,c,k⟩:=d;exact k
theorem ou:∀{vs:nv}{ns:List Int},tO vs ns=true->L2.aL (ns.map L2.V.int) vs
 |[],[],_=>.nil
 |v::vs,n::ns,h=>by
  unfold tO at h;rw[Bool.and_eq_true] at h;obtain⟨t,rfl⟩:=jb h.1;exact .cons ⟨t,rfl⟩ (ou h.2)
 |[],_::_,h=>by cases h
 |_::_,[],h=>by cases h
theorem tw {a:Addr}{ns:List Int}(h:vL K a ns=true)(H:L2.Hp):L2.bo K H a (ns.map L2.V.int):=by
 unfold vL at h
 split at h
 ·rename_i o ho
  rw[Bool.and_eq_true] at h;obtain⟨h1,h2⟩:=h
  split at h1
  ·rename_i T hT
   split at h2
   ·rename_i its n hd
    rw[Bool.and_eq_true] at h2
    have:T="tuple":=by simpa using h1
    subst this;exact .inr ⟨o,its,n,ho,hT,hd,of_decide_eq_true h2.2,ou h2.1⟩
   ·cases h2
  ·cases h1
 ·cases h
open L2 in
theorem va {l:OpenLaw}{n k:Nat}{q:vB}{loose:zF}{XP:(Str->Option Value)->Heap->Prop}{YP:World->Heap->Prop}{d:DefRec}{CX:World->D0}{sp:Frag->Sp}{x:Str}{φ:Frag->Prop}{tabs:Frag->List (Addr×Addr)}
 (hn:l.most=some n)(MK:n<=sizeLine)(Nu:d.params.defaults=[])(hr:wK k callerA)
 (hY:∀(w:World)(h:Heap),YP w h->∃K:Frag,φ K/\K.In h)
 (hT:∀(w:World)(s₀:GB)(mg mb:vW)(h:Heap)(K:Frag),φ K->Ground q loose [] XP w s₀ mg mb h->K.In h->TabsAt (tabs K) h/\∀r∈tabs K,K.lookup r.2=none)
 (F:∀(w:World)(K:Frag)(mg:vW)(fa:Addr)(h:Heap),φ K->K.In h->h.Ns mainGlobals mg->mg d.name=some (.ref fa) →
  ∃fd:FuncData,(∀(s:GB)(u:Value),BindsTo s fd ⟨[u],[]⟩ [(x,u)])/\∀base:Heap,K.In base->base.Ns mainGlobals mg->uD (tabs K) mg base->Bp l.prog w K mg base (CX w) k fa fd [x] (sp K))
 (Jd:∀(K:Frag)(H:Hp)(a:Addr)(ns:List Int),ns.length<=n->xo (tabs K) H->aN K H a (ns.map V.int)->sp K [.ref a] H (λv _=>v=.bl true) λ_ _ _=>False)
 (Sh:∀(w:World)(H:Hp)(s:GB)(e:Value)(s':GB),CX w [] H s (λ_ _ _=>False) e s'->False):
 WalkO q loose XP YP l.row.toRowW d [] (λf vs=>PySem.call f vs):=by
 refine Wh.oj hn Nu λw s₀ s₁ mg mb fa o pm cd doc a vs ns G Y ho hd HM Sa LB hints hlen hg=>?_;obtain⟨K,hφ,KX⟩:=hY w _ Y;obtain⟨fd,hb,hF⟩:=F w K mg fa _ hφ KX G.T.g Sa;obtain⟨t1,t2⟩:=hT w s₀ mg mb _ K hφ G KX;exact uZ KX G.T.g G.T.b G.T.builtins G.T.nolimit hg LB hints (Nat.le_trans hlen MK) hr t1 t2 G.T.bmain hF hb (λH hO hS=>Jd K H a ns hlen hO hS) λH e s'=>Sh w H s₁ e s'
end Hd
namespace K75
open PySem L2 PySem.W Nm
open Hd (gv ga fv cL gM dA du bq jz cO p6 fY da aR f9 dj pP lF oy gu uV jE FZ jb rA hX vL qd iF tw)
section
variable {α:Type}{M:List α->Prop}
theorem xO (h:∀a,M [a]):∀us:List α,us.length=1->M us
 |[a],_=>h a
theorem oK (h:∀a b,M [a,b]):∀us:List α,us.length=2->M us
 |[a,b],_=>h a b
theorem lM (h:∀a b c,M [a,b,c]):∀us:List α,us.length=3->M us
 |[a,b,c],_=>h a b c
theorem Eo (h:∀a b c d,M [a,b,c,d]):∀us:List α,us.length=4->M us
 |[a,b,c,d],_=>h a b c d
theorem FO (h:∀a b c d e,M [a,b,c,d,e]):∀us:List α,us.length=5->M us
 |[a,b,c,d,e],_=>h a b c d e
end
section
variable {K:Frag}{f T:Addr}{fd:EK}{oT:Obj}{t:Tok}{n:Nat}
theorem DI (F:Fx K "__init__" "Field.__init__" xG f fd T)(lT:K.lookup T=some oT)(dT:oT.data=.seq #[.int 0 t] n):L2.ay K fd uQ []:=by
 obtain⟨oc,od,kV,doc,pm,an,GN,ct,Hi,rfl,lk,HM⟩:=F.ex;intro s us KX hl
 cases us with
 |nil=>simp at hl
 |cons a0 r1 =>
  cases r1 with
  |nil=>simp at hl
  |cons a1 r2 =>
   cases r2 with
   |nil=>exact binds_K KX rfl lT dT rfl rfl
   |cons a r=>simp at hl
theorem Co (F:Fx K "made" "Field.made" xK f fd T)(lT:K.lookup T=some oT)(dT:oT.data=.seq #[.int 1 t] n):L2.ay K fd zp [.int 1 t]:=by
 obtain⟨oc,od,kV,doc,pm,an,GN,ct,Hi,rfl,lk,HM⟩:=F.ex;intro s us KX hl
 cases us with
 |nil=>simp at hl
 |cons a0 r1 =>
  cases r1 with
  |nil=>simp at hl
  |cons a1 r2 =>
   cases r2 with
   |nil=>exact binds_K KX rfl lT dT rfl rfl
   |cons a r=>simp at hl
theorem CB (F:Fx K "__init__" "Sum.__init__" rn f fd T)(lT:K.lookup T=some oT)(dT:oT.data=.seq #[.none] n):L2.ay K fd FH []:=by
 obtain⟨oc,od,kV,doc,pm,an,GN,ct,Hi,rfl,lk,HM⟩:=F.ex;intro s us KX hl
 cases us with
 |nil=>simp at hl
 |cons a0 r1 =>
  cases r1 with
  |nil=>simp at hl
  |cons a1 r2 =>
   cases r2 with
   |nil=>simp at hl
   |cons a2 r3 =>
    cases r3 with
    |nil=>exact binds_K KX rfl lT dT rfl rfl
    |cons a r=>simp at hl
theorem yW (F:Fx K "__init__" "System.__init__" Fv f fd T)(lT:K.lookup T=some oT)(dT:oT.data=.seq #[.none] n):L2.ay K fd uS [.none]:=by
 obtain⟨oc,od,kV,doc,pm,an,GN,ct,Hi,rfl,lk,HM⟩:=F.ex;intro s us KX hl
 cases us with
 |nil=>simp at hl
 |cons a0 r1 =>
  cases r1 with
  |nil=>simp at hl
  |cons a1 r2 =>
   cases r2 with
   |nil=>simp at hl
   |cons a2 r3 =>
    cases r3 with
    |nil=>simp at hl
    |cons a3 r4 =>
     cases r4 with
     |nil=>exact binds_K KX rfl lT dT rfl rfl
     |cons a r=>simp at hl
end
section
variable {K:Frag}{x qual n:Str}{st:Stmt}{ps:zF}
theorem gD {mg:vW}{h:Heap}(X:K.In h)(G:h.Ns mainGlobals mg)(s:aR K (gv K n)=dj x qual st)(b:da K (gv K n) qual=true)(hb:∀(kV doc pm:Value)(an:BY)(GN ct:Value)(us:nv),us.length=ps.length->bindArgs (PySem.W.fnOf x qual (cP st) (cc st) (ai st) .none kV doc pm an GN ct) ⟨us,[]⟩=pure (ps.zip us)):∃fd,vM K x qual st (ga K n) fd/\L2.ay K fd ps []/\mg n=some (.ref (ga K n))/\keepIn K (.ref (ga K n))=true:=by
 obtain⟨e,d⟩:=qd s b;obtain⟨fd,F⟩:=d.fn;exact⟨fd,F,F.binds hb,mg_of X G e,d.keep⟩
theorem tU {c:Str}(s:aR K (fv K c n)=dj x qual st)(b:da K (fv K c n) qual=true)(i:isFn K (.ref (cL (fv K c n)))=true)(hb:∀(kV doc pm:Value)(an:BY)(GN ct:Value)(us:nv),us.length=ps.length->bindArgs (PySem.W.fnOf x qual (cP st) (cc st) (ai st) .none kV doc pm an GN ct) ⟨us,[]⟩=pure (ps.zip us)):∃fd,vM K x qual st (cL (fv K c n)) fd/\L2.ay K fd ps []/\L2.Meth K (ga K c) n (cL (fv K c n))/\findIn K (.ref (ga K c)) n=some (some (.ref (cL (fv K c n))))/\isFn K (.ref (cL (fv K c n)))=true:=by
 obtain⟨e,d⟩:=qd s b;obtain⟨fd,F⟩:=d.fn;exact⟨fd,F,F.binds hb,⟨e,i,d.keep⟩,e,i⟩
end
def vq (_:World)(h:Heap):Prop:=∃K:Frag,qy K=uL/\K.In h
theorem yS (w:World)(s:GB)(e:qy (Hd.ux p9 s.heap)=uL):vq w s.heap:=⟨_,e,Hd.ny _ _⟩
theorem pW (w:World)(h h':Heap)(y:vq w h)(k:∀(b:Addr)(o:Obj),h.get? b=some o->h'.get? b=some o):vq w h':=let⟨K,e,i⟩:=y;⟨K,e,λa o q=>k a o (i a o q)⟩
set_option maxHeartbeats 0 in
theorem qM {l:OpenLaw}{w:World}{K:Frag}{mg:vW}{h:Heap}{fa:Addr}(o:qy K=uL)(X:K.In h)(G:h.Ns mainGlobals mg)(hfa:mg "law"=some (.ref fa)):
 ∃fd:FuncData,(∀(s:GB)(v:Value),BindsTo s fd ⟨[v],[]⟩ [("_law_script",v)])/\∀base:Heap,K.In base->base.Ns mainGlobals mg->uD [] mg base->Bp l.prog w K mg base (bf l.prog w) 10 fa fd ["_law_script"] (xQ K):=by
 obtain⟨o1,o2⟩:=Prod.mk.inj (show(qT K,_)=(true,_) from o);simp only[List.cons.injEq,and_true] at o2;obtain⟨s0,s1,s2,s3,s4,s5,s6,s7,s8,s9,Iq,Ja,Hx,IK,HW,Ji,Oo,Uc,s18,s19,s20,s21,s22,RA,Rr,Ry,s26,s27,s28,s29,s30,s31,s32,s33,M4,N2,MZ,N7,s38,N5,s40,s41,s42,s43,s44,s45,Rv,s47,LY,s49,s50⟩:=o2;unfold qT at o1;simp only[Bool.and_eq_true] at o1;obtain⟨g0,g1,g2,g3,g4,g5,g6,g7,g8⟩:=o1;unfold Gf at g0;simp only[Bool.and_eq_true] at g0;obtain⟨h0,h1,h2,h3,h4,h5,h6,h7,h8,h9,h10,h11,h12,h13,h14,h15⟩:=g0;unfold F3 at g1;simp only[Bool.and_eq_true] at g1;obtain⟨h16,h17,h18,h19,h20,h21,h22,h23,h24,h25,h26,h27,h28,h29,h30,h31⟩:=g1;unfold Gj at g2;simp only[Bool.and_eq_true] at g2;obtain⟨h32,h33,h34,h35,h36,h37,h38,h39,h40,h41,h42,h43,h44,h45,h46,h47⟩:=g2;unfold Ge at g3;simp only[Bool.and_eq_true] at g3;obtain⟨h48,h49,h50,h51,h52,h53,h54,h55,h56,h57,h58,h59,h60,h61,h62,h63⟩:=g3;unfold F6 at g4;simp only[Bool.and_eq_true] at g4;obtain⟨h64,h65,h66,h67,h68,h69,h70,h71,h72,h73,h74,h75,h76,h77,h78,h79⟩:=g4;unfold Gu at g5;simp only[Bool.and_eq_true] at g5;obtain⟨h80,h81,h82,h83,h84,h85,h86,h87,h88,h89,h90,h91,h92,h93,h94,h95⟩:=g5;unfold Gd at g6;simp only[Bool.and_eq_true] at g6;obtain⟨h96,h97,h98,h99,h100,h101,h102,h103,h104,h105,h106,h107,h108,h109,h110,h111⟩:=g6;unfold F5 at g7;simp only[Bool.and_eq_true] at g7;obtain⟨h112,h113,h114,h115,h116,h117,h118,h119,h120,h121,h122,h123,h124,h125,h126,h127⟩:=g7;unfold Gh at g8;simp only[Bool.and_eq_true] at g8;obtain⟨h128,h129,h130,h131,h132,h133,h134,h135,h136,h137,h138,h139,h140⟩:=g8;have m:=λ{n:Str}{v:Value}(e:nsIn K mainGlobals n=some (some v))=>mg_of X G e;have m0:=λ{n:Str}(e:nsIn K mainGlobals n=some none)=>mg_none_of X G e;have GI:=m0 (bq h0);have Hg:=m0 (bq h1);have Mj:=m0 (bq h2);have KG:=m0 (bq h3);have Ik:=m0 (bq h4);have GJ:=m0 (bq h5);have GS:=m0 (bq h6);have Ht:=m0 (bq h7);have HP:=m0 (bq h8);have GO:=m0 (bq h9);have GK:=m0 (bq h10);have GL:=m0 (bq h11);have Hm:=m0 (bq h12);have JM:=m0 (bq h13);have Hh:=m0 (bq h14);have GX:=m0 (bq h15);have Ov:=m (dA h16);have KH:=m (dA h17);have JO:=m (dA h18);have HE:=m (dA h19);have Jc:=m (dA h20);have JP:=m (dA h21);obtain⟨Lc,Iy⟩:=hX h22;have G7:=m Iy;obtain⟨Kg,HJ⟩:=hX h23;have Hf:=m HJ;obtain⟨Kh,HK⟩:=hX h24;have HL:=m HK;obtain⟨XS,Uo,IL,HF,IM⟩:=gD X G (ps:=["thing"]) s0 h25 λ_ _ _ _ _ _=>xO λ_=>rfl;obtain⟨XT,Uq,Ur,Ow,Us⟩:=gD X G (ps:=["thing"]) s1 h26 λ_ _ _ _ _ _=>xO λ_=>rfl;obtain⟨XU,Ut,Uu,Ox,Uv⟩:=gD X G (ps:=["thing"]) s2 h27 λ_ _ _ _ _ _=>xO λ_=>rfl;obtain⟨XW,Uw,Ux,Oy,Uy⟩:=gD X G (ps:=["field","thing"]) s3 h28 λ_ _ _ _ _ _=>oK λ_ _=>rfl;obtain⟨XX,Uz,UA,Oz,UB⟩:=gD X G (ps:=["field","terms"]) s4 h29 λ_ _ _ _ _ _=>oK λ_ _=>rfl;obtain⟨XY,UC,UD,OA,abV⟩:=gD X G (ps:=["term"]) s5 h30 λ_ _ _ _ _ _=>xO λ_=>rfl;obtain⟨XZ,UE,UG,OB,UH⟩:=gD X G (ps:=["field","terms"]) s6 h31 λ_ _ _ _ _ _=>oK λ_ _=>rfl;obtain⟨X0,UI,OC,Ld,OD⟩:=gD X G (ps:=["one","other"]) s7 h32 λ_ _ _ _ _ _=>oK λ_ _=>rfl;obtain⟨X1,UJ,OE,Le,OF⟩:=gD X G (ps:=["top","bottom"]) s8 h33 λ_ _ _ _ _ _=>oK λ_ _=>rfl;obtain⟨X2,UK,UL,OG,UM⟩:=gD X G (ps:=["number","prime"]) s9 h34 λ_ _ _ _ _ _=>oK λ_ _=>rfl;obtain⟨UN,OH,OI,Ml,OJ⟩:=gD X G (ps:=["field","places","thing"]) Iq h35 λ_ _ _ _ _ _=>lM λ_ _ _=>rfl;obtain⟨UO,OK,OL,Mm,OM⟩:=gD X G (ps:=["field","places","part","wishes"]) Ja h36 λ_ _ _ _ _ _=>Eo λ_ _ _ _=>rfl;obtain⟨UP,ON,OO,Mn,OP⟩:=gD X G (ps:=["field","places","uppers"]) Hx h37 λ_ _ _ _ _ _=>lM λ_ _ _=>rfl;obtain⟨UQ,OQ,OR,Mo,OS⟩:=gD X G (ps:=["field","top"]) IK h38 λ_ _ _ _ _ _=>oK λ_ _=>rfl;obtain⟨UR,OT,OU,Mp,OV⟩:=gD X G (ps:=["thing"]) HW h39 λ_ _ _ _ _ _=>xO λ_=>rfl;obtain⟨US,OW,Lf,JQ,Lg⟩:=gD X G (ps:=["edges","odd"]) Ji h40 λ_ _ _ _ _ _=>oK λ_ _=>rfl;obtain⟨UT,OX,OY,Mq,OZ⟩:=gD X G (ps:=["field","places","top"]) Oo h41 λ_ _ _ _ _ _=>lM λ_ _ _=>rfl;obtain⟨UU,O0,O1,Mr,O3⟩:=gD X G (ps:=["edges","odd"]) Uc h42 λ_ _ _ _ _ _=>oK λ_ _=>rfl;obtain⟨UW,O4,O5,Ms,O6⟩:=gD X G (ps:=["edges","odd"]) s18 h43 λ_ _ _ _ _ _=>oK λ_ _=>rfl;obtain⟨UX,O7,O8,Mt,O9⟩:=gD X G (ps:=["_law_script","_law_k"]) s19 h44 λ_ _ _ _ _ _=>oK λ_ _=>rfl;obtain⟨UY,Pa,Lh,JR,Li⟩:=gD X G (ps:=["_law_pool_here","_law_many"]) s20 h45 λ_ _ _ _ _ _=>oK λ_ _=>rfl;obtain⟨UZ,Pb,Pc,Mu,Pd⟩:=gD X G (ps:=["_law_top","_law_bottom"]) s21 h46 λ_ _ _ _ _ _=>oK λ_ _=>rfl;obtain⟨U0,Pe,Lj,JS,Lk⟩:=gD X G (ps:=["_law_prime","_law_top","_law_bottom"]) s22 h47 λ_ _ _ _ _ _=>lM λ_ _ _=>rfl;obtain⟨U1,Pf,Pg,Mv,Ph⟩:=gD X G (ps:=["_law_prime","_law_one","_law_other"]) RA h48 λ_ _ _ _ _ _=>lM λ_ _ _=>rfl;obtain⟨U2,Pj,Pk,Mw,Pl⟩:=gD X G (ps:=["_law_prime","_law_one","_law_other"]) Rr h49 λ_ _ _ _ _ _=>lM λ_ _ _=>rfl;obtain⟨U3,Pn,Po,My,X3⟩:=gD X G (ps:=["_law_row"]) Ry h50 λ_ _ _ _ _ _=>xO λ_=>rfl;obtain⟨U4,Pp,JT,IP,JU⟩:=gD X G (ps:=["_law_prime","_law_terms"]) s26 h51 λ_ _ _ _ _ _=>oK λ_ _=>rfl;obtain⟨U5,Pq,Pr,Mz,Pt⟩:=gD X G (ps:=["_law_prime","_law_one","_law_other"]) s27 h52 λ_ _ _ _ _ _=>lM λ_ _ _=>rfl;obtain⟨U6,Pu,Pw,MA,Px⟩:=gD X G (ps:=["_law_terms"]) s28 h53 λ_ _ _ _ _ _=>xO λ_=>rfl;obtain⟨U7,Py,Pz,MB,PB⟩:=gD X G (ps:=["_law_prime","_law_places","_law_noughts","_law_degree_here","_law_sums"]) s29 h54 λ_ _ _ _ _ _=>FO λ_ _ _ _ _=>rfl;obtain⟨U8,PD,PF,MC,PH⟩:=gD X G (ps:=["_law_edges","_law_odd"]) s30 h55 λ_ _ _ _ _ _=>oK λ_ _=>rfl;obtain⟨U9,PJ,PL,MD,PM⟩:=gD X G (ps:=["_law_pool_here","_law_most"]) s31 h56 λ_ _ _ _ _ _=>oK λ_ _=>rfl;obtain⟨Va,PN,PQ,ME,PR⟩:=gD X G (ps:=["_law_system","_law_prime","_law_places","_law_ones"]) s32 h57 λ_ _ _ _ _ _=>Eo λ_ _ _ _=>rfl;obtain⟨MG,Ll,X4,MH,X5⟩:=gD X G (ps:=["_law_script"]) s33 h58 λ_ _ _ _ _ _=>xO λ_=>rfl;obtain⟨X6,Vb,PU,PV,abW,abX⟩:=tU (ps:=["self"]) M4 h59 h60 λ_ _ _ _ _ _=>xO λ_=>rfl;obtain⟨X7,Vc,PY,PZ,abY,abZ⟩:=tU (ps:=["self"]) N2 h61 h62 λ_ _ _ _ _ _=>xO λ_=>rfl;obtain⟨X8,Vd,Ve,Vf,ab0,ab1⟩:=tU (ps:=["self"]) MZ h63 h64 λ_ _ _ _ _ _=>xO λ_=>rfl;obtain⟨X9,Vg,P1,ab2,P2,P4⟩:=tU (ps:=["self","other"]) N7 h65 h66 λ_ _ _ _ _ _=>oK λ_ _=>rfl;obtain⟨Yb,Vh,Vi,Vj,ab3,ab4⟩:=tU (ps:=["self","one","other"]) s38 h67 h68 λ_ _ _ _ _ _=>lM λ_ _ _=>rfl;obtain⟨Yc,Vk,Vl,Vm,ab5,ab6⟩:=tU (ps:=["self","top","bottom"]) N5 h69 h70 λ_ _ _ _ _ _=>lM λ_ _ _=>rfl;obtain⟨Yd,Vn,Vo,Vp,ab7,ab8⟩:=tU (ps:=["self","thing"]) s40 h71 h72 λ_ _ _ _ _ _=>oK λ_ _=>rfl;obtain⟨Ye,Vq,Vr,Vs,ab9,aca⟩:=tU (ps:=["self"]) s41 h73 h74 λ_ _ _ _ _ _=>xO λ_=>rfl;obtain⟨Yg,Vt,Vu,Vv,acb,acd⟩:=tU (ps:=["self","top","bottom"]) s42 h75 h76 λ_ _ _ _ _ _=>lM λ_ _ _=>rfl;obtain⟨Yh,Vw,Vx,Vy,ace,acf⟩:=tU (ps:=["self"]) s43 h77 h78 λ_ _ _ _ _ _=>xO λ_=>rfl;obtain⟨Yi,Vz,VA,VB,acg,ach⟩:=tU (ps:=["self"]) s44 h79 h80 λ_ _ _ _ _ _=>xO λ_=>rfl;obtain⟨Yj,VC,VD,VE,aci,acj⟩:=tU (ps:=["self"]) s45 h81 h82 λ_ _ _ _ _ _=>xO λ_=>rfl;obtain⟨Yk,VF,VG,VH,ack,acm⟩:=tU (ps:=["self"]) Rv h83 h84 λ_ _ _ _ _ _=>xO λ_=>rfl;obtain⟨P5,P6⟩:=iF s47 h85 h87;have VI:=h86;have acn:L2.Meth K _ "__init__" _:=⟨P5,h86,P6.keep⟩;obtain⟨Yl,P7⟩:=P6.fn;obtain⟨aco,acp,acq,P8,P9,Qa⟩:=gu h88;obtain⟨Qb,Qc⟩:=iF LY h89 h91;have VJ:=h90;have acr:L2.Meth K _ "__init__" _:=⟨Qb,h90,Qc.keep⟩;obtain⟨Ym,Qd⟩:=Qc.fn;obtain⟨acs,acu,acv,Qe,Qf,Qg⟩:=gu h92;obtain⟨VL,Qh⟩:=iF s49 h93 h95;have acw:=h94;have Qi:L2.Meth K _ "made" _:=⟨VL,h94,Qh.keep⟩;obtain⟨Yn,Qj⟩:=Qh.fn;obtain⟨acx,acy,acz,Qk,Ql,Qm⟩:=gu h96;obtain⟨Qn,Qo⟩:=iF s50 h97 h99;have VM:=h98;have acA:L2.Meth K _ "__init__" _:=⟨Qn,h98,Qo.keep⟩;obtain⟨Yo,Qp⟩:=Qo.fn;obtain⟨acB,acC,acD,Qq,Qr,Qs⟩:=gu h100;have VN:=hfa.symm.trans MH
 cases VN
 have Qt:=jE Qa;subst Qt;obtain⟨acE,Qu⟩:=jb Qg;subst Qu;obtain⟨acF,Qv⟩:=jb Qm;subst Qv;have Qw:=jE Qs;subst Qw;have Yp:=CB P7 P8 P9;have VO:=DI Qd Qe Qf;have Qx:=Co Qj Qk Ql;have VP:=yW Qp Qq Qr;have N:yr mg:=⟨GI,Hg,Mj⟩;have cF:BJ K mg (ga K "Field"):=⟨⟨h101,h102,h103,cO h104⟩,bq h105,KH,(Bool.and_eq_true_iff.mpr h106),cO h107,cO h108,fY h109,fY h110⟩;have c:A8 K mg (ga K "Sum"):=⟨⟨h111,h112,h113,cO h114⟩,bq h115,bq h116,Ov⟩;have cQ:yR K mg (ga K "Sum"):=⟨c,(Bool.and_eq_true_iff.mpr h117),cO h118,cO h108,fY h109,fY h119⟩;have cS:Fh K mg (ga K "System"):=⟨⟨h120,h121,h122,cO h123⟩,bq h124,bq h125,bq h126,bq h127,JO,(Bool.and_eq_true_iff.mpr h128),cO h129,cO h108,fY h109,fY h130⟩;have hP:=tw h131;refine⟨MG,λs v=>?_,λbase _ _ BT=>?_⟩
 ·obtain⟨oc,od,kV,doc,pm,an,GN,ct,Hi,rfl,lk,HM⟩:=Ll.ex;exact .of_eq rfl
 have IQ:=wt (P:=l.prog) (w:=w) (base:=base) Uo N;have VQ:=qf (P:=l.prog) (w:=w) (base:=base) (mg:=mg) UK;have Qy:=Cv (P:=l.prog) (w:=w) (base:=base) UI Ik;have Qz:=ua UJ Qy OC Ld OD;have VR:=pX Vk cF G7 Qz OE Le OF;have VS:=yC Vh cF VR Vl Vm;have VT:=zv Vt cF G7 HE h133 Qz OE Le OF VQ UL OG UM;have QA:=Ae Qj cF HE h133 VT Vu Vv IQ IL HF IM;have MI:=zm Qd cF IQ IL HF IM G7 JP hP Jc h132;have VU:=pf Vn cF G7 N GS GJ Qy OC Ld OD IQ IL HF IM;have QB:=Ey (P:=l.prog) (w:=w) (base:=base) Vg cF N;have VV:=wC (P:=l.prog) (w:=w) (base:=base) Vq cF;have VW:=wD Uq Hf IQ IL HF IM;have VX:=qt Ut GI GS Ht HP VW Ur Ow Us;have VY:=Ab Uw cF GI GS GJ VX Uu Ox Uv VU Vo Vp;have VZ:=pY (P:=l.prog) (w:=w) (base:=base) UC GJ;have V0:=qR Uz GI GO GK VY Ux Oy Uy;have V1:=zM UE cF GL VS Vi Vj VZ UD OA;have QC:=xN P7 c V1 UG OB UH V0 UA Oz UB;have Yq:L2.Mk K _ _:=⟨h135,P5,VI,h136⟩;have V2:L2.Mk K _ _:=⟨h137,Qb,VJ,h138⟩;have MkY:L2.Mk K _ _:=⟨h139,Qn,VM,h140⟩;have QD:=uP (P:=l.prog) (w:=w) (base:=base) (CF:=ga K "Field") Vb c;have QE:=uz (P:=l.prog) (w:=w) (base:=base) (CF:=ga K "Field") Vc c GO;have V3:=vQ (P:=l.prog) (w:=w) (base:=base) Vd c Hm;have QF:=Cs OH cQ cF GI QB P1 P2 P4 QD PU PV V3 Ve Vf;have QG:=Ej OK GI GO GK GJ HL QF OI Ml OJ;have QH:=DV (P:=l.prog) (w:=w) (base:=base) (mg:=mg) ON;have V4:=CY Qp cS cF GI Hf IQ IL HF IM QG OL Mm OM QH OO Mn OP;have V5:=DT (P:=l.prog) (w:=w) (base:=base) (CF:=ga K "Field") Vw cS;have V6:=Eh (P:=l.prog) (w:=w) (base:=base) (CF:=ga K "Field") Vz cS;have V7:=CL (P:=l.prog) (w:=w) (base:=base) (CF:=ga K "Field") VC cS GO;have V8:=Ea (P:=l.prog) (w:=w) (base:=base) (CF:=ga K "Field") VF cS GO;have QI:=Ag (P:=l.prog) (w:=w) (base:=base) O7 GJ;have Lm:=yx (P:=l.prog) (w:=w) (base:=base) (mg:=mg) Pa;have QJ:=zy (P:=l.prog) (w:=w) (base:=base) Pb Ik;have Ln:=zG Pe GX QJ Pc Mu Pd;have QK:=xJ Pf Ln Lj JS Lk;have QL:=uN Pj Ln Lj JS Lk;have QM:=Dc (P:=l.prog) (w:=w) (base:=base) Pn GJ;have JV:=xI Pp GL QK Pg Mv Ph QM Po My;have QN:=yk Pq GS GL Hh QL Pk Mw Pl JV JT IP JU;have QO:=DQ (P:=l.prog) (w:=w) (base:=base) Pu Hm GJ;have QP:=D8 OQ cF c Yq QA Qx Qi QC Yp;have QQ:=C7 OT GI GS GJ IQ IL HF IM;have Lo:=DC OW GI GO GJ Ht GL Hh Hf QQ OU Mp OV IQ IL HF IM;have QR:=C6 OX cF c Yq QA Qx Qi QC Yp;have QS:=Dw O0 cF c cS MkY GJ Hg GK Lo Lf JQ Lg QR OY Mq OZ V2 MI VO V4 VP;have QT:=Ep O4 cF Lo Lf JQ Lg QP OR Mo OS V2 MI VO;have QU:=D4 Py cF c GI GO GJ HP QE PY PZ QD PU PV VV Vr Vs QO Pw MA Px QN Pr Mz Pt JV JT IP JU;have QV:=DX PD GL Hh GK Hg JV JT IP JU;have QW:=El PJ GX GJ GL Hh Hg Lm Lh JR Li;have QX:=DZ PN cS cF c GI V5 Vx Vy V6 VA VB V7 VD VE V8 VG VH QE PY PZ QB P1 P2 P4 (cO h134) V2 MI VO;exact BL Ll GX Hm JM GJ Hg GO QI O8 Mt O9 Lm Lh JR Li QW PL MD PM QV PF MC PH QS O1 Mr O3 QT O5 Ms O6 QX PQ ME PR QU Pz MB PB
theorem walk {l:OpenLaw}{q:vB}{loose:zF}{XP:(Str->Option Value)->Heap->Prop}{d:DefRec}(hn:l.most=some 63)(Nu:d.params.defaults=[])(hd:d.name="law"):
 WalkO q loose XP vq l.row.toRowW d [] (λf vs=>PySem.call f vs):=by
 refine Hd.va (n:=63) (k:=10) (x:="_law_script") (CX:=λw=>bf l.prog w) (sp:=λK=>xQ K) (φ:=λK=>qy K=uL) (tabs:=λK=>[]) hn (by decide) Nu ⟨rfl,by decide,by decide,rfl⟩ (λw h y=>y) ?_ (λw K mg fa h o X G e=>qM o X G (by rw[<-hd];exact e)) ?_ ?_
 ·intro w s₀ mg mb h K o Gr KX;exact⟨λr MW=>(nomatch MW),λr MW=>(nomatch MW)⟩
 ·intro K H a ns hl hO hS;refine⟨a,ns,rfl,?_,hl,λ_=>rfl⟩
  rcases hS with(hS|⟨o,hS⟩)|hS
  ·rcases hO.1 a with z|⟨o,xs,z⟩|⟨z,_⟩
   ·rw[z] at hS;cases hS
   ·rw[z] at hS;cases hS
   ·rw[z] at hS;cases hS
  ·exact .inl ⟨o,hS⟩
  ·exact .inr hS
 ·intro w H s e s' z;obtain⟨a,cls,a0,B,d,H',_,_,_,_,hE⟩:=z;exact hE.elim
end K75
open PySem PySem.W PyProof.Rows
set_option maxRecDepth 100000 in
set_option maxHeartbeats 0 in
theorem PySem.Challenge.cw_falsesums_k75_odd_sums_round_webs_holds : PySem.Challenge.rw_falsesums_k75_odd_sums_round_webs.Holds := by
 refine PySem.W.holds_law K75.sd1 λacH=>?_
 refine PySem.W.holds_open (r:=PySem.Challenge.rw_falsesums_k75_odd_sums_round_webs.row) (q:=K75.cK) (loose:=["Field","STEP"]) (Xt:=λs=>xlAt K75.cK K75.lv s&&recOk (PySem.Challenge.rw_falsesums_k75_odd_sums_round_webs.row.toRowW).records s) (XP:=XL K75.cK K75.lv)
  (Yf:=λs=>K75.qy (Hd.ux K75.p9 s.heap)) (Ya:=λ_=>K75.uL) (YP:=K75.vq) (N:=9492) ?hl K75.yS K75.pW (λs e=>xl_of s (Bool.and_eq_true_iff.mp e).1) XL.keeps (by rfl) (by rfl) (by rfl) (λs e=>recFacts_of (Bool.and_eq_true_iff.mp e).2) (by rfl) (by assumption) (by decide +kernel) K75.sd3 ?hw ?hc
 case hw=>w_witness2
 case hl =>
  refine Hd.aaj λw=>?_;obtain⟨⟨h,s⟩,e,e0⟩:=Option.map_eq_some_iff.mp (K75.ran0 w)
  injection e0 with yk1 e0_0
  injection e0_0 with yk2 e0_1
  injection e0_1 with yB2 e0_2
  have e1:=Hd.at_ (K75.ran1 w) e
  injection e1 with yA1 e1_0
  have e2:=Hd.at_ (K75.ran2 w) e
  injection e2 with yA3 e2_0
  have e3:=Hd.at_ (K75.ran3 w) e;have e4:=Hd.at_ (K75.ran4 w) e
  injection e4 with yC2 e4_0
  have e5:=Hd.at_ (K75.ran5 w) e;have e6:=Hd.at_ (K75.ran6 w) e
  injection e6 with yC4 e6_0
  injection e6_0 with yC6 e6_1
  have e7:=Hd.at_ (K75.ran7 w) e;have e8:=Hd.at_ (K75.ran8 w) e
  injection e8 with yA4 e8_0
  injection yk2 with z1 z2
  injection z2 with z2 z3
  exact⟨h,s,e,yk1,⟨z1,z2,z3⟩,yA1,yA3,yA4,e6_1,e3,yB2,e0_2,e1_0,e2_0,e8_0,yC2,e5,yC4,e7,yC6,((congrArg K75.qy (Hd.Fun _ _)).trans e4_0)⟩
 case hc=>exact K75.walk rfl rfl rfl
