import PyProof.Rows.All
import KE.KLam
import KE.KTryMore
import KE.KPairComp
import KE.KSortTup
import KE.LcSums
import PySem.Challenge.RW_falsesums_k73_whole_guests_and_rooms
set_option Elab.async false
set_option linter.all false
set_option maxRecDepth 100000
abbrev yj:=PySem.Value->PySem.Shared->Prop
abbrev xf:=PySem.Str->Option PySem.Value
abbrev Dx:=PySem.Shared
abbrev zo:=PySem.FuncData
abbrev yn:=PySem.Program
abbrev rh:=Option PySem.Value
abbrev oH:=List PySem.Value
abbrev GV:=Array PySem.Value
abbrev De:=List PySem.Expr
abbrev zX:=List PySem.Str
abbrev CO:=Option PySem.Addr
abbrev va:=Array (Option PySem.Value)
abbrev wg:List PySem.Str:=["thing"]
abbrev Cs:List PySem.Str:=["self","top","bottom"]
abbrev zh:List PySem.Str:=["self","one","other"]
abbrev DK:List PySem.Str:=["field","many","rooms"]
abbrev EJ:List PySem.Str:=["_law_prime_here","_law_one","_law_other"]
abbrev D1:List PySem.Str:=["field","terms"]
abbrev vB:List PySem.Str:=["self","field","terms"]
abbrev GZ:List PySem.Str:=["_law_prime_here","_law_many","_law_rooms"]
abbrev vz:List PySem.Str:=["_law_prime_here","_law_top","_law_bottom"]
abbrev GQ:List PySem.Str:=["_law_prime_here","_law_terms"]
abbrev DQ:List PySem.Str:=["one","other"]
abbrev Ij:List PySem.Str:=["self","prime"]
abbrev Ic:List PySem.Str:=["self","other"]
abbrev DC:List PySem.Str:=["top","bottom"]
abbrev u7:List PySem.Str:=["_law_pool_here","_law_many"]
abbrev vK:List PySem.Str:=["self","thing"]
abbrev yM:List PySem.Str:=["field","thing"]
abbrev Bg:List PySem.Str:=["field","places","thing"]
abbrev zv:List PySem.Str:=["field","places","uppers"]
abbrev vU:List PySem.Str:=["self","field","places","noughts","uppers"]
abbrev vq:List PySem.Str:=["thing","least","most"]
abbrev rG:List PySem.Str:=["field","places","top"]
abbrev rZ:List PySem.Str:=["_law_terms"]
abbrev Af:List PySem.Str:=["_law_system","_law_prime_here","_law_places","_law_ones"]
abbrev qZ:List PySem.Str:=["number","prime"]
abbrev CR:List PySem.Str:=["_law_script","_law_k"]
abbrev Fu:List PySem.Str:=["_law_top","_law_bottom"]
abbrev zr:List PySem.Str:=["_law_pool_here"]
abbrev Ce:List PySem.Str:=["self","number"]
abbrev AF:List PySem.Str:=["field","places","part","wishes"]
abbrev vp:List PySem.Str:=["_law_prime_here","_law_places","_law_noughts","_law_degree_here","_law_sums"]
abbrev EM:List PySem.Str:=["self","filling"]
abbrev GW:List PySem.Str:=["system","thing","sided"]
abbrev Ez:List PySem.Str:=["_law_field","_law_many","_law_rooms"]
namespace L2
open PySem
theorem sJ:(1:Nat)<=sizeLine:=by decide
theorem iT:(2:Nat)<=sizeLine:=by decide
theorem aaa:(3:Nat)<=sizeLine:=by decide
theorem HQ:(4:Nat)<=sizeLine:=by decide
def aJ (s:Stmt)(j:Nat):Stmt:=match s with
 | .ClassDef _ _ _ body _ _ _ _ _ _ _=>body.getD j (.Pass ⟨0,0,0,0⟩)
 |_=>.Pass ⟨0,0,0,0⟩
def c7 (s:Stmt):Arguments:=match s with
 | .FunctionDef _ a _ _ _ _ _ _ _ _=>a
 |_=>{posonlyargs:=[],args:=[],vararg:=none,kwonlyargs:=[],kw_defaults:=[],kwarg:=none,defaults:=[]}
def cu (s:Stmt):List Stmt:=match s with
 | .FunctionDef _ _ b _ _ _ _ _ _ _=>b
 |_=>[]
def aj (s:Stmt):Scope:=match s with
 | .FunctionDef _ _ _ _ _ _ sc _ _ _=>sc
 |_=>{kind:=.function,names:=[],isGenerator:=false,isCoroutine:=false}
end L2
namespace Hd
open PySem PySem.W PyProof.Rows
def wj (as:List Addr)(h:Heap):Frag:=as.filterMap λa=>(h.get? a).map λo=>(a,o)
theorem oC (h:Heap):∀as:List Addr,(wj as h).In h
 |[],a,o,e=>by cases e
 |b::as,a,o,e=>by
  unfold wj at e;rw[List.filterMap_cons] at e
  cases q:h.get? b with
  |none =>
   rw[q] at e;exact oC h as a o e
  |some u =>
   rw[q] at e;dsimp only[Option.map_some] at e;rw[List.lookup_cons] at e
   by_cases z:a=b
   ·subst z;simp only[beq_self_eq_true] at e;rw[q];exact e
   ·have:(a==b)=false:=by simpa using z
    simp only[this] at e;exact oC h as a o e
abbrev u9:=Str×Str×Arguments×FuncBody×Scope×Addr×List (Str×Addr)×Value×Addr
def BK (fd:zo):u9:=(fd.name,fd.qualname,fd.params,fd.body,fd.scope,fd.globals,fd.closure,fd.defaults,fd.builtins)
def pK (K:Frag)(v:Option (Option Value)):Option FuncData:=match v with
 |some (some (.ref f))=>(match K.lookup f with
  |some ⟨_,_,.func fd,_⟩=>some fd
  |_=>none)
 |_=>none
def aS (K:Frag)(v:Option (Option Value)):Option u9:=(pK K v).map BK
def cT (x qual:Str)(st:Stmt):Option u9:=some (x,qual,L2.c7 st,.stmts (L2.cu st),L2.aj st,mainGlobals,[],.none,builtinsNs)
def cD (v:Option (Option Value)):Addr:=match v with
 |some (some (.ref a))=>a
 |_=>0
def eM (v:Option (Option Value)):Bool:=match v with
 |some (some (.ref _))=>true
 |_=>false
theorem cz {v:Option (Option Value)}(h:eM v=true):v=some (some (.ref (cD v))):=by
 unfold eM at h
 split at h
 ·rfl
 ·cases h
def dB (v:Option (Option Value)):Bool:=match v with
 |some none=>true
 |_=>false
theorem bq {v:Option (Option Value)}(h:dB v=true):v=some none:=by
 unfold dB at h
 split at h
 ·rfl
 ·cases h
def cK (K:Frag)(v:Option (Option Value))(qual:Str):Bool:=keepIn K (.ref (cD v))&&(match pK K v with
 |some fd=>codeIn K fd.code qual
 |none=>false)
abbrev gv (K:Frag)(x:Str):Option (Option Value):=nsIn K mainGlobals x
abbrev ga (K:Frag)(x:Str):Addr:=cD (nsIn K mainGlobals x)
abbrev fv (K:Frag)(c x:Str):Option (Option Value):=findIn K (.ref (cD (nsIn K mainGlobals c))) x
def fT (K:Frag)(v:Option (Option Value)):Option u9:=(pK K v).map λfd=>BK {fd with defaults:=.none}
def F6 (K:Frag)(v:Option (Option Value)):Value:=match pK K v with
 |some fd=>fd.defaults
 |none=>.none
def kR (K:Frag)(v:Option (Option Value)):Addr:=match F6 K v with
 | .ref a=>a
 |_=>0
def oM (K:Frag)(v:Option (Option Value)):Bool:=match F6 K v with
 | .ref _=>true
 |_=>false
def nO (K:Frag)(T:Addr)(p:Value->Bool):Bool:=match K.lookup T with
 |some o=>(match o.data with
  | .seq a _=>(match a.toList with
    |[v]=>p v
    |_=>false)
  |_=>false)
 |none=>false
theorem fH {K:Frag}{T:Addr}{p:Value->Bool}(h:nO K T p=true):∃o v n,K.lookup T=some o/\o.data=.seq #[v] n/\p v=true:=by
 unfold nO at h
 split at h
 ·rename_i o ho
  split at h
  ·rename_i a n hd
   split at h
   ·rename_i v hv
    have:a = #[v]:=by rw[<-Array.toArray_toList (xs:=a),hv]
    subst this;exact⟨o,v,n,ho,hd,h⟩
   ·cases h
  ·cases h
 ·cases h
def Gk (n:Int)(v:Value):Bool:=match v with
 | .int i _=>i==n
 |_=>false
theorem iV {n:Int}{v:Value}(h:Gk n v=true):∃t,v=.int n t:=by
 unfold Gk at h
 split at h
 ·rename_i i t
  have:i=n:=by simpa using h
  exact⟨t,by rw[this]⟩
 ·cases h
def v5 (v:Value):Bool:=match v with
 | .none=>true
 |_=>false
theorem jT {v:Value}(h:v5 v=true):v=.none:=by
 unfold v5 at h
 split at h
 ·rfl
 ·cases h
def oj (v:Option (Option Value))(n:Int):Bool:=match v with
 |some (some u)=>Gk n u
 |_=>false
theorem fO {v:Option (Option Value)}{n:Int}(h:oj v n=true):∃t,v=some (some (.int n t)):=by
 unfold oj at h
 split at h
 ·obtain⟨t,rfl⟩:=iV h;exact⟨t,rfl⟩
 ·cases h
def sO:List Value->List Int->Bool
 |[],[]=>true
 |v::vs,n::ns=>Gk n v&&sO vs ns
 |_,_=>false
def yD (K:Frag)(a:Addr)(ns:List Int):Bool:=match K.lookup a with
 |some o=>(match o.cls with
  | .type T=>T == "tuple"
  |_=>false)&&(match o.data with
  | .seq its _=>sO its.toList ns&&decide (its.size<=sizeLine)
  |_=>false)
 |none=>false
def iF (v:Option (Option Value))(s:String):Bool:=match v with
 |some (some (.builtin t))=>t==s
 |_=>false
theorem cB {v:Option (Option Value)}{s:String}(h:iF v s=true):v=some (some (.builtin s)):=by
 unfold iF at h
 split at h
 ·rename_i t
  have:t=s:=by simpa using h
  rw[this]
 ·cases h
def lF (v:Option Bool)(b:Bool):Bool:=match v with
 |some c=>c==b
 |none=>false
theorem cP {v:Option Bool}{b:Bool}(h:lF v b=true):v=some b:=by
 unfold lF at h
 split at h
 ·rename_i c
  have:c=b:=by simpa using h
  rw[this]
 ·cases h
def zI:List Obj->BT->Nat->Option BT
 |[],t,_=>some t
 |o::os,t,n=>match ((t.ins n o).get n).isSome with
  |true=>zI os (t.ins n o) (n+1)
  |false=>none
theorem uk (life:Life):∀(os:List Obj)(t t':BT)(n:Nat),zI os t n=some t'->(absHeap t' (n+os.length) life).objs=(absHeap t n life).objs++os.toArray
 |[],t,t',n,h=>by
  cases h
  simp
 |o::os,t,t',n,h=>by
  unfold zI at h
  cases q:((t.ins n o).get n).isSome with
  |false=>rw[q] at h;cases h
  |true =>
   rw[q] at h;have e:=uk life os _ _ _ h;rw[absHeap_ins q] at e
   have:n+1+os.length=n+(o::os).length:=by simp only[List.length_cons];omega
   rw[this] at e;rw[e];show((absHeap t n life).objs.push o)++os.toArray=_;rw[<-Array.append_singleton,Array.append_assoc];simp
def F7 (s:Dx):Option SharedT:=(zI s.heap.objs.toList .nil 0).map λt=>⟨t,s.heap.objs.size,s.heap.life,s.gens,s.drawn,s.toks,s.os⟩
theorem aao {s:Dx}{x:SharedT}(h:F7 s=some x):x.abs=s:=by
 unfold F7 at h;obtain⟨t,e,rfl⟩:=Option.map_eq_some_iff.mp h;have g:=uk s.heap.life _ _ _ _ e;obtain⟨⟨objs,life⟩,gens,drawn,toks,os⟩:=s
 have z:absHeap t objs.size life=⟨objs,life⟩:=by
  have a:(absHeap t objs.size life).objs=objs:=by
   have l:0+objs.toList.length=objs.size:=by simp
   rw[l] at g;rw[g];simp[absHeap,BT.list]
  exact congrArg (Heap.mk · life) a
 show Shared.mk _ _ _ _ _=_;rw[z]
def gO (tb:String->Option Builtin)(p:yn)(w:World)(n₀:Nat)(ann:rh):Nat->SharedT->Thread->Option SharedT
 |0,_,_=>none
 |n+1,s,t=>match through t with
  |true=>some s
  |false=>match stepOk n₀ ann t with
   |false=>none
   |true=>match stepT (denote tb) p w s t with
    |some (s',t')=>gO tb p w n₀ ann n s' t'
    |none=>none
section
variable {tb:String->Option Builtin}{p:yn}{w:World}{n₀:Nat}{ann:rh}
theorem ku:∀{n:Nat}{s s':SharedT}{t:Thread},gO tb p w n₀ ann n s t=some s'->topRun tb p w n₀ ann n s.abs t=some s'.abs
 |0,_,_,_,h=>by cases h
 |n+1,s,s',t,h=>by
  unfold gO at h;unfold topRun
  cases he:through t with
  |true=>rw[he] at h;cases h;rfl
  |false =>
   rw[he] at h
   cases hk:stepOk n₀ ann t with
   |false=>rw[hk] at h;cases h
   |true =>
    rw[hk] at h
    cases hs:stepT (denote tb) p w s t with
    |none=>rw[hs] at h;cases h
    |some r=>obtain⟨s₂,t₂⟩:=r;rw[hs] at h;rw[stepT_spec hs];exact ku h
end
def gs (tb:String->Option Builtin)(p:yn)(w:World)(N:Nat)(s₀:Dx):Option SharedT :=
 match s₀.heap.isNs mainGlobals&&s₀.gens.size==0 with
 |true=>(F7 s₀).bind λx=>(gO tb p w s₀.heap.objs.size (s₀.heap.nsMap mainGlobals "__annotations__") N x (topStub p)).bind λs₁=>match staticsOk (importedModules p.main.body) s₀.heap s₁.abs.heap&&namesBound p s₁.abs.heap&&gensDone s₁.abs&&laidKept s₀.heap s₁.abs.heap with
  |true=>some s₁
  |false=>none
 |false=>none
variable {p:yn}{N:Nat}
theorem aac {tb:String->Option Builtin}{w:World}{s:Dx}{y:SharedT}(h:gs tb p w N s=some y):topFrom tb p w N s=some y.abs:=by
 unfold gs at h;unfold topFrom
 cases q:(s.heap.isNs mainGlobals&&s.gens.size==0) with
 |false=>rw[q] at h;cases h
 |true =>
  rw[q] at h;obtain⟨x,ex,h⟩:=Option.bind_eq_some_iff.mp h;obtain⟨z,ez,h⟩:=Option.bind_eq_some_iff.mp h;have e:=ku ez;rw[aao ex] at e;dsimp only;rw[e];show(match (staticsOk (importedModules p.main.body) s.heap z.abs.heap&&namesBound p z.abs.heap&&gensDone z.abs&&laidKept s.heap z.abs.heap) with|true=>some z.abs|false=>none)=_
  split at h
  ·cases h
   rename_i q2
   simp only[q2]
  ·cases h
def cA (tb:String->Option Builtin)(p:yn)(w:World)(N:Nat):Option SharedT:=(fencedOpening tb p w N).bind (gs tb p w N)
theorem aa9 {tb:String->Option Builtin}{w:World}{y:SharedT}(h:cA tb p w N=some y):openEnds tb p w N=some y.abs:=by
 unfold cA at h;unfold openEnds;obtain⟨s,e,h⟩:=Option.bind_eq_some_iff.mp h;rw[e];exact aac h
theorem aad {q:yn}{loose:zX}{Xt:Shared->Bool}{α:Type}{Yf:Shared->α}{Ya:World->α}
 (h1:∀w,(cA treeTable p w N).map (λs=>openSeen q loose (importedModules p.main.body) Xt true s.abs)=some (openGood q loose))
 (h2:∀w,(cA treeTable p w N).map (λs=>Yf s.abs)=some (Ya w)):LeftO p q loose Xt Yf Ya N:=λw=>by
 obtain⟨y,e,z⟩:=Option.map_eq_some_iff.mp (h1 w);have z2:=h2 w;rw[e] at z2;rw[aa9 e];show some (_,_)=_;have z3:Yf y.abs=Ya w:=Option.some.inj z2;rw[z,z3]
section
variable {p q:yn}{loose mods:zX}{Xt:Shared->Bool}{α:Type}{Yf:Shared->α}{Ya:World->α}{N:Nat}
abbrev xF (q:yn)(s:Dx):=(seen ((recsOf q).map (·.name)) (ownsOf q) [] {s with gens:=#[]},s.heap.bltView)
abbrev yx (q:yn)(loose mods:zX)(Xt:Shared->Bool)(s:Dx):Bool :=
 s.heap.keysOk (looseW q loose) ((recsOf q).map (·.name)) ((litsOf q).map (·.1)) ((clssOf q (looseW q loose)).map (·.name))&&s.heap.accountedOkI mods&&s.heap.isNs mainGlobals&&s.heap.isNs builtinsNs&&tablesOk q s.heap&&Xt s&&(if true then s.gens.size==0 else !leftWithCleanup s.gens)
abbrev yQ (q:yn)(loose:zX)(s:Dx):=(tabsOk q s,pinSeenD q (drecsOf q) s,plainSeenE q (looseW q loose) s,plainSeenD q loose s,wideSeen q s,clsSeenW q loose s)
theorem aaY
 (h1:∀w,(cA treeTable p w N).map (λs=>xF q s.abs)=some (expectedOf q,bltViewBooted))
 (h2:∀w,(cA treeTable p w N).map (λs=>yx q loose (importedModules p.main.body) Xt s.abs)=some true)
 (h3:∀w,(cA treeTable p w N).map (λs=>yQ q loose s.abs)=some (true,pinGoodD (drecsOf q),plainGoodE q (looseW q loose),plainGoodD q loose,wideGood q,clsGoodW q loose))
 (h4:∀w,(cA treeTable p w N).map (λs=>Yf s.abs)=some (Ya w)):LeftO p q loose Xt Yf Ya N:=by
 refine aad (λw=>?_) h4;obtain⟨y,e,z1⟩:=Option.map_eq_some_iff.mp (h1 w);have z2:=h2 w;have z3:=h3 w;rw[e] at z2 z3 |-;have z2:yx q loose (importedModules p.main.body) Xt y.abs=true:=Option.some.inj z2;have z3:yQ q loose y.abs=_:=Option.some.inj z3;show some (openSeen q loose (importedModules p.main.body) Xt true y.abs)=_;have e1:openSeen q loose (importedModules p.main.body) Xt true y.abs=((xF q y.abs).1,(xF q y.abs).2,yx q loose (importedModules p.main.body) Xt y.abs,yQ q loose y.abs):=rfl;rw[e1,z1,z2,z3];rfl
end
def Cg (v:Value):Bool:=match v with
 | .bool false=>true
 |_=>false
theorem abh {v:Value}(h:Cg v=true):v=.bool false:=by
 unfold Cg at h
 split at h
 ·rfl
 ·cases h
end Hd
namespace L2
open PySem
/-- an own class of exceptions without an __init__ -/
def jL (K:PySem.W.Frag)(C:Addr)(Mo:oH)(newId:String):Bool :=
 ((K.lookup C).any λo=>o.cls == .type "type"&&(o.slots.size==6&&o.slots.toList[4]?==some (some (.builtin newId))))&&(PySem.W.clsIn K C).any λcd=>cd.mro.head?==some (.ref C)&&(!cd.hasDel&&(PySem.W.tailIn K Mo cd.mro.tail&&(PySem.W.nsOkIn K cd.ns&&PySem.W.nsIn K cd.ns "__init__"==some none)))
end L2
namespace K73
open PySem L2 PySem.W
open Hd (gv ga fv cD eM cz dB bq iF cB lF cP cK aS fT cT oM kR nO fH v5 jT Gk iV oj fO yD)
def aL (i:Nat):Stmt:=PySem.Challenge.pw_falsesums_k73_whole_guests_and_rooms.main.body.getD i (.Pass ⟨0,0,0,0⟩)
def Hb:List Int:=[2,3,5,7,11,13,17,19,23,29,31,37,41,43,47,53,59,61,67,71,73,79,83,89,97]
abbrev zz:List Value:=[.type "ValueError",.type "Exception",.type "BaseException",.type "object"]
abbrev md:String:="ValueError.__new__"
def Hx (K:Frag):Bool :=
 (dB (gv K "isinstance") &&
 (dB (gv K "int") &&
 (dB (gv K "bool") &&
 (dB (gv K "ValueError") &&
 (dB (gv K "abs") &&
 (dB (gv K "len") &&
 (dB (gv K "tuple") &&
 (dB (gv K "all") &&
 (dB (gv K "zip") &&
 (dB (gv K "list") &&
 (dB (gv K "enumerate") &&
 (dB (gv K "sorted") &&
 (dB (gv K "max") &&
 (dB (gv K "min") &&
 (dB (gv K "set") &&
 (dB (gv K "range")))))))))))))))))
def HR (K:Frag):Bool :=
 (eM (gv K "Sum") &&
 (eM (gv K "Field") &&
 (eM (gv K "System") &&
 (eM (gv K "FalseError") &&
 (eM (gv K "NoShowing") &&
 (eM (gv K "NoSize") &&
 (eM (gv K "NoFilling") &&
 (eM (gv K "NoNumber") &&
 (eM (gv K "NoField") &&
 (eM (gv K "PRIMES") &&
 (oj (gv K "FRACTIONS") 0 &&
 (oj (gv K "MOST_PLACES") 60 &&
 (oj (gv K "MOST_WISHES") 200 &&
 (oj (gv K "MOST_GUESTS") 7 &&
 (oj (gv K "MOST_ROOMS") 8 &&
 (cK K (gv K "is_whole") "is_whole"))))))))))))))))
def HA (K:Frag):Bool :=
 (cK K (gv K "is_place") "is_place" &&
 (cK K (gv K "is_product") "is_product" &&
 (cK K (gv K "is_term") "is_term" &&
 (cK K (gv K "checked_terms") "checked_terms" &&
 (cK K (gv K "place_of_term") "place_of_term" &&
 (cK K (gv K "gathered") "gathered" &&
 (cK K (gv K "common_divisor") "common_divisor" &&
 (cK K (gv K "lowest") "lowest" &&
 (cK K (gv K "inverse") "inverse" &&
 (cK K (gv K "built") "built" &&
 (cK K (gv K "is_row_of_bits") "is_row_of_bits" &&
 (cK K (gv K "is_wish") "is_wish" &&
 (cK K (gv K "checked_wishes") "checked_wishes" &&
 (cK K (gv K "checked_uppers") "checked_uppers" &&
 (cK K (gv K "checked_field") "checked_field" &&
 (cK K (gv K "checked_between") "checked_between"))))))))))))))))
def HV (K:Frag):Bool :=
 (cK K (gv K "checked_guests") "checked_guests" &&
 (cK K (gv K "places_sum") "places_sum" &&
 (cK K (gv K "guests") "guests" &&
 (cK K (gv K "guests_showing") "guests_showing" &&
 (cK K (gv K "_law_pool") "_law_pool" &&
 (cK K (gv K "_law_take") "_law_take" &&
 (cK K (gv K "_law_low") "_law_low" &&
 (cK K (gv K "_law_made") "_law_made" &&
 (cK K (gv K "_law_plus") "_law_plus" &&
 (cK K (gv K "_law_times") "_law_times" &&
 (cK K (gv K "_law_prime") "_law_prime" &&
 (cK K (gv K "_law_row_key") "_law_row_key" &&
 (cK K (gv K "_law_gathered") "_law_gathered" &&
 (cK K (gv K "_law_multiplied") "_law_multiplied" &&
 (cK K (gv K "_law_degree") "_law_degree" &&
 (cK K (gv K "_law_is_showing") "_law_is_showing"))))))))))))))))
def HM (K:Frag):Bool :=
 (cK K (gv K "_law_guests") "_law_guests" &&
 (cK K (gv K "_law_is_system") "_law_is_system" &&
 (cK K (gv K "_law_showing") "_law_showing" &&
 (cK K (gv K "_law_right") "_law_right" &&
 (cK K (gv K "law") "law" &&
 (cK K (fv K "Sum" "field") "Sum.field" &&
 (isFn K (.ref (cD (fv K "Sum" "field"))) &&
 (cK K (fv K "Sum" "terms") "Sum.terms" &&
 (isFn K (.ref (cD (fv K "Sum" "terms"))) &&
 (cK K (fv K "Sum" "reach") "Sum.reach" &&
 (isFn K (.ref (cD (fv K "Sum" "reach"))) &&
 (cK K (fv K "Sum" "scaled") "Sum.scaled" &&
 (isFn K (.ref (cD (fv K "Sum" "scaled"))) &&
 (cK K (fv K "Sum" "worth") "Sum.worth" &&
 (isFn K (.ref (cD (fv K "Sum" "worth"))) &&
 (cK K (fv K "Field" "__eq__") "Field.__eq__"))))))))))))))))
def Hu (K:Frag):Bool :=
 (isFn K (.ref (cD (fv K "Field" "__eq__"))) &&
 (cK K (fv K "Field" "plus") "Field.plus" &&
 (isFn K (.ref (cD (fv K "Field" "plus"))) &&
 (cK K (fv K "Field" "times") "Field.times" &&
 (isFn K (.ref (cD (fv K "Field" "times"))) &&
 (cK K (fv K "Field" "settled") "Field.settled" &&
 (isFn K (.ref (cD (fv K "Field" "settled"))) &&
 (cK K (fv K "Field" "is_number") "Field.is_number" &&
 (isFn K (.ref (cD (fv K "Field" "is_number"))) &&
 (cK K (fv K "Field" "prime") "Field.prime" &&
 (isFn K (.ref (cD (fv K "Field" "prime"))) &&
 (cK K (fv K "Field" "quotient") "Field.quotient" &&
 (isFn K (.ref (cD (fv K "Field" "quotient"))) &&
 (cK K (fv K "Field" "over") "Field.over" &&
 (isFn K (.ref (cD (fv K "Field" "over"))) &&
 (cK K (fv K "System" "field") "System.field"))))))))))))))))
def HU (K:Frag):Bool :=
 (isFn K (.ref (cD (fv K "System" "field"))) &&
 (cK K (fv K "System" "places") "System.places" &&
 (isFn K (.ref (cD (fv K "System" "places"))) &&
 (cK K (fv K "System" "noughts") "System.noughts" &&
 (isFn K (.ref (cD (fv K "System" "noughts"))) &&
 (cK K (fv K "System" "uppers") "System.uppers" &&
 (isFn K (.ref (cD (fv K "System" "uppers"))) &&
 (cK K (fv K "Sum" "__init__") "Sum.__init__" &&
 (isFn K (.ref (cD (fv K "Sum" "__init__"))) &&
 (oM K (fv K "Sum" "__init__") &&
 (nO K (kR K (fv K "Sum" "__init__")) (v5) &&
 (cK K (fv K "Field" "__init__") "Field.__init__" &&
 (isFn K (.ref (cD (fv K "Field" "__init__"))) &&
 (oM K (fv K "Field" "__init__") &&
 (nO K (kR K (fv K "Field" "__init__")) (Gk 0) &&
 (cK K (fv K "Field" "made") "Field.made"))))))))))))))))
def HG (K:Frag):Bool :=
 (isFn K (.ref (cD (fv K "Field" "made"))) &&
 (oM K (fv K "Field" "made") &&
 (nO K (kR K (fv K "Field" "made")) (Gk 1) &&
 (cK K (fv K "System" "__init__") "System.__init__" &&
 (isFn K (.ref (cD (fv K "System" "__init__"))) &&
 (oM K (fv K "System" "__init__") &&
 (nO K (kR K (fv K "System" "__init__")) (v5) &&
 (cK K (gv K "is_filling") "is_filling" &&
 (oM K (gv K "is_filling") &&
 (nO K (kR K (gv K "is_filling")) (Hd.Cg) &&
 (plainGet K (ga K "Field") Str.empty &&
 (hasDictIn K (ga K "Field") &&
 (plainOver K (ga K "Field") &&
 (iF (fv K "Field" "__setattr__") "object.__setattr__" &&
 (dB (fv K "Field" "its_prime") &&
 (((clsIn K (ga K "Field")).isSome&&typeIn K (.ref (ga K "Field"))==some (.type "type"))))))))))))))))))
def Hw (K:Frag):Bool :=
 (iF (fv K "Field" "__class__") "object.__class__" &&
 (iF (specialIn K (.builtin "object.__class__") "__get__") "getset_descriptor.__get__" &&
 (lF (takesIn K (.builtin "object.__class__")) true &&
 (lF (mroIn K (ga K "Field") (.type "object")) true &&
 (plainGet K (ga K "Sum") Str.empty &&
 (hasDictIn K (ga K "Sum") &&
 (plainOver K (ga K "Sum") &&
 (iF (fv K "Sum" "__setattr__") "object.__setattr__" &&
 (dB (fv K "Sum" "its_field") &&
 (dB (fv K "Sum" "its_terms") &&
 (((clsIn K (ga K "Sum")).isSome&&typeIn K (.ref (ga K "Sum"))==some (.type "type")) &&
 (iF (fv K "Sum" "__class__") "object.__class__" &&
 (lF (mroIn K (ga K "Sum") (.type "object")) true &&
 (plainGet K (ga K "System") Str.empty &&
 (hasDictIn K (ga K "System") &&
 (plainOver K (ga K "System")))))))))))))))))
def HN (K:Frag):Bool :=
 (iF (fv K "System" "__setattr__") "object.__setattr__" &&
 (dB (fv K "System" "its_field") &&
 (dB (fv K "System" "its_places") &&
 (dB (fv K "System" "its_noughts") &&
 (dB (fv K "System" "its_uppers") &&
 (((clsIn K (ga K "System")).isSome&&typeIn K (.ref (ga K "System"))==some (.type "type")) &&
 (iF (fv K "System" "__class__") "object.__class__" &&
 (lF (mroIn K (ga K "System") (.type "object")) true &&
 (yD K (ga K "PRIMES") Hb &&
 ((clsIn K (ga K "NoShowing")).isSome &&
 (iF (fv K "NoShowing" "__getattribute__") "BaseException.__getattribute__" &&
 (dB (fv K "NoShowing" "__getattr__") &&
 (iF (fv K "NoShowing" "__class__") "object.__class__" &&
 (lF (mroIn K (ga K "NoShowing") (.type "object")) true &&
 (lF (mroIn K (ga K "NoShowing") (.type "BaseException")) true &&
 (lF (exmOne K (.ref (ga K "NoShowing")) (.ref (ga K "FalseError"))) true))))))))))))))))
def Fe (K:Frag):Bool :=
 (lF (kitOne K (.ref (ga K "NoShowing")) (.type "list")) false &&
 (lF (kitOne K (.ref (ga K "NoShowing")) (.ref (ga K "NoShowing"))) true &&
 (lF (kitOne K (.ref (ga K "NoShowing")) (.type "ValueError")) true &&
 (lF (kitOne K (.ref (ga K "NoShowing")) (.ref (ga K "NoField"))) false &&
 (lF (kitOne K (.ref (ga K "NoShowing")) (.ref (ga K "NoSize"))) false &&
 (jL K (ga K "NoField") zz md &&
 (jL K (ga K "NoNumber") zz md &&
 (jL K (ga K "NoFilling") zz md &&
 (jL K (ga K "NoShowing") zz md &&
 (iF (fv K "Field" "__ne__") "object.__ne__" &&
 (makesIn K (ga K "Sum") &&
 (keepIn K (.ref (ga K "Sum")) &&
 (makesIn K (ga K "Field") &&
 (keepIn K (.ref (ga K "Field")) &&
 (makesIn K (ga K "System") &&
 (keepIn K (.ref (ga K "System"))))))))))))))))))
def rK (K:Frag):Bool:=Hx K&&(HR K&&(HA K&&(HV K&&(HM K&&(Hu K&&(HU K&&(HG K&&(Hw K&&(HN K&&(Fe K))))))))))
def qB (K:Frag):Bool×List (Option Hd.u9):=(rK K,[aS K (gv K "is_whole"),aS K (gv K "is_place"),aS K (gv K "is_product"),aS K (gv K "is_term"),aS K (gv K "checked_terms"),aS K (gv K "place_of_term"),aS K (gv K "gathered"),aS K (gv K "common_divisor"),aS K (gv K "lowest"),aS K (gv K "inverse"),aS K (gv K "built"),aS K (gv K "is_row_of_bits"),aS K (gv K "is_wish"),aS K (gv K "checked_wishes"),aS K (gv K "checked_uppers"),aS K (gv K "checked_field"),aS K (gv K "checked_between"),aS K (gv K "checked_guests"),aS K (gv K "places_sum"),aS K (gv K "guests"),aS K (gv K "guests_showing"),aS K (gv K "_law_pool"),aS K (gv K "_law_take"),aS K (gv K "_law_low"),aS K (gv K "_law_made"),aS K (gv K "_law_plus"),aS K (gv K "_law_times"),aS K (gv K "_law_prime"),aS K (gv K "_law_row_key"),aS K (gv K "_law_gathered"),aS K (gv K "_law_multiplied"),aS K (gv K "_law_degree"),aS K (gv K "_law_is_showing"),aS K (gv K "_law_guests"),aS K (gv K "_law_is_system"),aS K (gv K "_law_showing"),aS K (gv K "_law_right"),aS K (gv K "law"),aS K (fv K "Sum" "field"),aS K (fv K "Sum" "terms"),aS K (fv K "Sum" "reach"),aS K (fv K "Sum" "scaled"),aS K (fv K "Sum" "worth"),aS K (fv K "Field" "__eq__"),aS K (fv K "Field" "plus"),aS K (fv K "Field" "times"),aS K (fv K "Field" "settled"),aS K (fv K "Field" "is_number"),aS K (fv K "Field" "prime"),aS K (fv K "Field" "quotient"),aS K (fv K "Field" "over"),aS K (fv K "System" "field"),aS K (fv K "System" "places"),aS K (fv K "System" "noughts"),aS K (fv K "System" "uppers"),fT K (fv K "Sum" "__init__"),fT K (fv K "Field" "__init__"),fT K (fv K "Field" "made"),fT K (fv K "System" "__init__"),fT K (gv K "is_filling")])
def vI:Bool×List (Option Hd.u9):=(true,[cT "is_whole" "is_whole" ((aL 13)),cT "is_place" "is_place" ((aL 14)),cT "is_product" "is_product" ((aL 15)),cT "is_term" "is_term" ((aL 32)),cT "checked_terms" "checked_terms" ((aL 33)),cT "place_of_term" "place_of_term" ((aL 34)),cT "gathered" "gathered" ((aL 35)),cT "common_divisor" "common_divisor" ((aL 20)),cT "lowest" "lowest" ((aL 21)),cT "inverse" "inverse" ((aL 22)),cT "built" "built" ((aL 39)),cT "is_row_of_bits" "is_row_of_bits" ((aL 16)),cT "is_wish" "is_wish" ((aL 42)),cT "checked_wishes" "checked_wishes" ((aL 43)),cT "checked_uppers" "checked_uppers" ((aL 44)),cT "checked_field" "checked_field" ((aL 49)),cT "checked_between" "checked_between" ((aL 50)),cT "checked_guests" "checked_guests" ((aL 52)),cT "places_sum" "places_sum" ((aL 51)),cT "guests" "guests" ((aL 53)),cT "guests_showing" "guests_showing" ((aL 54)),cT "_law_pool" "_law_pool" ((aL 58)),cT "_law_take" "_law_take" ((aL 59)),cT "_law_low" "_law_low" ((aL 60)),cT "_law_made" "_law_made" ((aL 61)),cT "_law_plus" "_law_plus" ((aL 62)),cT "_law_times" "_law_times" ((aL 63)),cT "_law_prime" "_law_prime" ((aL 67)),cT "_law_row_key" "_law_row_key" ((aL 64)),cT "_law_gathered" "_law_gathered" ((aL 65)),cT "_law_multiplied" "_law_multiplied" ((aL 66)),cT "_law_degree" "_law_degree" ((aL 68)),cT "_law_is_showing" "_law_is_showing" ((aL 69)),cT "_law_guests" "_law_guests" ((aL 70)),cT "_law_is_system" "_law_is_system" ((aL 71)),cT "_law_showing" "_law_showing" ((aL 72)),cT "_law_right" "_law_right" ((aL 73)),cT "law" "law" ((aL 74)),cT "field" "Sum.field" (aJ (aL 38) 5),cT "terms" "Sum.terms" (aJ (aL 38) 6),cT "reach" "Sum.reach" (aJ (aL 38) 8),cT "scaled" "Sum.scaled" (aJ (aL 38) 12),cT "worth" "Sum.worth" (aJ (aL 38) 13),cT "__eq__" "Field.__eq__" (aJ (aL 23) 1),cT "plus" "Field.plus" (aJ (aL 23) 6),cT "times" "Field.times" (aJ (aL 23) 8),cT "settled" "Field.settled" (aJ (aL 23) 10),cT "is_number" "Field.is_number" (aJ (aL 23) 11),cT "prime" "Field.prime" (aJ (aL 23) 3),cT "quotient" "Field.quotient" (aJ (aL 23) 5),cT "over" "Field.over" (aJ (aL 23) 9),cT "field" "System.field" (aJ (aL 45) 3),cT "places" "System.places" (aJ (aL 45) 4),cT "noughts" "System.noughts" (aJ (aL 45) 5),cT "uppers" "System.uppers" (aJ (aL 45) 6),cT "__init__" "Sum.__init__" (aJ (aL 38) 0),cT "__init__" "Field.__init__" (aJ (aL 23) 0),cT "made" "Field.made" (aJ (aL 23) 4),cT "__init__" "System.__init__" (aJ (aL 45) 0),cT "is_filling" "is_filling" ((aL 56))])
def rL:List Addr:=[3,30,31,43,44,55,56,79,80,92,103,104,150,151,157,158,162,163,167,168,169,175,176,182,183,189,190,198,204,205,211,212,225,226,227,233,234,240,241,247,248,261,262,268,269,275,276,282,283,285,286,322,323,329,330,336,337,341,342,362,368,369,403,404,410,411,422,423,446,447,451,452,468,469,479,480,486,487,493,494,500,501,509,515,516,536,537,543,544,550,551,557,558,572,573,583,584,590,591,595,596,602,603,607,608,614,615,616,620,621,627,628,634,635,641,642,646,647,653,654,660,661,667,668,672,673,679,680,686,687,691,692,696,697,701,702,706,707,713,714,718,719,725,726]
def c5:Program:={PySem.Challenge.pw_falsesums_k73_whole_guests_and_rooms with main:={PySem.Challenge.pw_falsesums_k73_whole_guests_and_rooms.main with body:=[aL 0,aL 2,aL 3,aL 4,aL 5,aL 6,aL 7,aL 8,aL 9,aL 10,aL 12,aL 13,aL 14,aL 15,aL 16,aL 18,aL 19,aL 20,aL 21,aL 22,aL 23,aL 25,aL 26,aL 27,aL 28,aL 29,aL 30,aL 32,aL 33,aL 34,aL 35,aL 36,aL 37,aL 38,aL 39,aL 41,aL 42,aL 43,aL 44,aL 45,aL 47,aL 48,aL 49,aL 50,aL 51,aL 52,aL 53,aL 54,aL 58,aL 59,aL 60,aL 61,aL 62,aL 63,aL 64,aL 65,aL 66,aL 67,aL 68,aL 69,aL 70,aL 71,aL 72,aL 73,aL 74]} }
def lv:List (PySem.Str×WData):=[("STEP",.int 10000000000000000000000000000000000000000000000000000000000000000)]
end K73
namespace Hd
open PySem PySem.W PyProof.Rows
def bare (p:yn)(w:World)(N:Nat):Option (Heap×SharedT):=(fencedOpening treeTable p w N).bind λs₀=>match s₀.heap.isNs mainGlobals&&s₀.gens.size==0 with
 |true=>(F7 s₀).bind λx=>(gO treeTable p w s₀.heap.objs.size (s₀.heap.nsMap mainGlobals "__annotations__") N x (topStub p)).map λs₁=>(s₀.heap,s₁)
 |false=>none
theorem aab {p:yn}{w:World}{N:Nat}{h:Heap}{s:SharedT}(e:bare p w N=some (h,s))(c1:staticsOk (importedModules p.main.body) h s.abs.heap=true)(c2:namesBound p s.abs.heap=true)(c3:gensDone s.abs=true)(c4:laidKept h s.abs.heap=true):cA treeTable p w N=some s:=by
 unfold bare at e;obtain⟨s0,e0,e⟩:=Option.bind_eq_some_iff.mp e;unfold cA;rw[e0];show gs treeTable p w N s0=some s;unfold gs
 cases q:(s0.heap.isNs mainGlobals&&s0.gens.size==0) with
 |false=>rw[q] at e;cases e
 |true =>
  rw[q] at e;obtain⟨x,ex,e⟩:=Option.bind_eq_some_iff.mp e;obtain⟨s1,e1,e2⟩:=Option.map_eq_some_iff.mp e
  cases e2
  dsimp only;rw[ex];show Option.bind (gO _ _ _ _ _ _ _ _) _=_;rw[e1];show(match staticsOk (importedModules p.main.body) s0.heap s.abs.heap&&namesBound p s.abs.heap&&gensDone s.abs&&laidKept s0.heap s.abs.heap with|true=>some s|false=>none)=_;rw[c1,c2,c3,c4];rfl
def C9 (s:SharedT)(a:Addr):Option Obj:=match Nat.blt a s.n with
 |true=>alive ((s.tree.get a).getD default)
 |false=>none
theorem Fun (s:SharedT)(a:Addr):s.abs.heap.get? a=C9 s a:=by
 obtain⟨t,n,life,gens,drawn,toks,os⟩:=s;show(absHeap t n life).get? a=_;unfold C9
 cases h:Nat.blt a n with
 |true =>
  have lt:a<n:=Nat.le_of_ble_eq_true h;unfold Heap.get?;rw[absHeap_at,if_pos lt];generalize (t.get a).getD default=o;obtain⟨c,d,dt,sl⟩:=o
  cases dt <;> rfl
 |false =>
  refine abs_get_none λz=>?_;have:Nat.blt a n=true:=Nat.ble_eq_true_of_le z;rw[this] at h
  cases h
def yp (as:List Addr)(s:SharedT):Frag:=as.filterMap λa=>(C9 s a).map λo=>(a,o)
theorem aaM (as:List Addr)(s:SharedT):wj as s.abs.heap=yp as s:=by
 unfold wj yp;congr 1
 funext a
 rw[Fun]
section
variable {p q:yn}{loose:zX}{Xt:Shared->Bool}{α:Type}{Yf:Shared->α}{Ya:World->α}{N:Nat}
theorem aai (key:∀w,∃h s,bare p w N=some (h,s)/\staticsOk (importedModules p.main.body) h s.abs.heap=true/\(namesBound p s.abs.heap=true/\gensDone s.abs=true/\laidKept h s.abs.heap=true) /\
 (((recsOf q).take 45).map (·.name)).map (s.abs.heap.shapeAt mainGlobals)=((recsOf q).take 45).map (λd=>some d.shape)/\(((recsOf q).drop 45).map (·.name)).map (s.abs.heap.shapeAt mainGlobals)=((recsOf q).drop 45).map (λd=>some d.shape) /\
 ((ownsOf q).all (λo=>s.abs.heap.ownExcOk o.name o.chain o.bm o.newId&&s.abs.heap.quietOk o.name),s.abs.heap.isNs mainGlobals,s.abs.heap.isNs builtinsNs,s.abs.heap.noLimitOk&&s.abs.heap.noDigitsOk)=(true,true,true,true)/\s.abs.heap.bltView=bltViewBooted /\
 s.abs.heap.keysOk (looseW q loose) ((recsOf q).map (·.name)) ((litsOf q).map (·.1)) ((clssOf q (looseW q loose)).map (·.name))=true /\
 (s.abs.heap.accountedOkI (importedModules p.main.body)&&s.abs.heap.isNs mainGlobals&&s.abs.heap.isNs builtinsNs&&tablesOk q s.abs.heap)=true/\(Xt s.abs&&(if true then s.abs.gens.size==0 else !leftWithCleanup s.abs.gens))=true /\
 ((recsOf q).take 45).all (λd=>s.abs.heap.tab0Ok d.name)=true/\((recsOf q).drop 45).all (λd=>s.abs.heap.tab0Ok d.name)=true/\(s.abs.heap.bmainOk&&valsOk q s.abs.heap&&(!importsNone q || s.abs.heap.noSeerOk))=true/\pinSeenD q (drecsOf q) s.abs=pinGoodD (drecsOf q)/\plainSeenE q (looseW q loose) s.abs=plainGoodE q (looseW q loose)/\plainSeenD q loose s.abs=plainGoodD q loose/\wideSeen q s.abs=wideGood q/\clsSeenW q loose s.abs=clsGoodW q loose/\Yf s.abs=Ya w):LeftO p q loose Xt Yf Ya N:=by
 refine aaY (λw=>?_) (λw=>?_) (λw=>?_) (λw=>?_)
 all_goals
  obtain⟨h,s,e,c1,⟨c2,c3,c4⟩,a1,a3,a4,a2,b1,b2,b3,d1,d7,d8,d2,d3,d4,d5,d6,y⟩:=key w;rw[aab e c1 c2 c3 c4];refine congrArg some ?_
 ·have a5:(((recsOf q).map (·.name)).map (s.abs.heap.shapeAt mainGlobals))=(recsOf q).map (λd=>some d.shape):=by
   conv=>lhs;rw[<-List.take_append_drop 45 (recsOf q)]
   conv=>rhs;rw[<-List.take_append_drop 45 (recsOf q)]
   rw[List.map_append,List.map_append,List.map_append,a1,a3]
  injection a4 with x1 a4
  injection a4 with x2 a4
  injection a4 with x3 x4
  show((⟨_,_,_,_,_,_,_⟩:Seen),_)=_;rw[a5,a2,x1,x2,x3,x4];rfl
 ·obtain⟨b2,x4⟩:=Bool.and_eq_true_iff.mp b2;obtain⟨b2,x3⟩:=Bool.and_eq_true_iff.mp b2;obtain⟨x1,x2⟩:=Bool.and_eq_true_iff.mp b2;obtain⟨x5,x6⟩:=Bool.and_eq_true_iff.mp b3;show(s.abs.heap.keysOk _ _ _ _&&s.abs.heap.accountedOkI _&&s.abs.heap.isNs mainGlobals&&s.abs.heap.isNs builtinsNs&&tablesOk q s.abs.heap&&Xt s.abs&&_)=true;rw[b1,x1,x2,x3,x4,x5,x6];rfl
 ·have t:tabsOk q s.abs=true:=by
   obtain⟨d8,x3⟩:=Bool.and_eq_true_iff.mp d8;obtain⟨x1,x2⟩:=Bool.and_eq_true_iff.mp d8
   have e1:(recsOf q).all (λd=>s.abs.heap.tab0Ok d.name)=true:=by
    rw[<-List.take_append_drop 45 (recsOf q),List.all_append,d1,d7];rfl
   unfold tabsOk;rw[e1,x1,x2,x3];rfl
  show(_,_,_,_,_,_)=_;rw[t,d2,d3,d4,d5,d6]
 ·exact y
theorem at_ {α β:Type}{x:Option α}{f:α->β}{v:β}{y:α}(h:x.map f=some v)(e:x=some y):f y=v:=by
 rw[e] at h;exact Option.some.inj h
end
end Hd
section
open PySem PySem.W PyProof.Rows
set_option maxRecDepth 100000 in
set_option maxHeartbeats 0 in
theorem K73.sd1:PySem.Challenge.rw_falsesums_k73_whole_guests_and_rooms.wellSaid=true:=by kernel_rfl
set_option maxRecDepth 100000 in
set_option maxHeartbeats 0 in
theorem K73.sd3:PySem.Challenge.rw_falsesums_k73_whole_guests_and_rooms.row.prog.bare:=⟨rfl,rfl,rfl,rfl,rfl,by decide +kernel⟩
set_option maxRecDepth 100000 in
set_option maxHeartbeats 0 in
theorem K73.ran0:∀w,(Hd.bare PySem.Challenge.rw_falsesums_k73_whole_guests_and_rooms.row.prog w 10656).map (λs=>(staticsOk (importedModules PySem.Challenge.rw_falsesums_k73_whole_guests_and_rooms.row.prog.main.body) s.1 s.2.abs.heap,(namesBound PySem.Challenge.rw_falsesums_k73_whole_guests_and_rooms.row.prog s.2.abs.heap,gensDone s.2.abs,laidKept s.1 s.2.abs.heap),(s.2.abs.heap.accountedOkI (importedModules PySem.Challenge.rw_falsesums_k73_whole_guests_and_rooms.row.prog.main.body)&&s.2.abs.heap.isNs mainGlobals&&s.2.abs.heap.isNs builtinsNs&&tablesOk K73.c5 s.2.abs.heap),((λs=>xlAt K73.c5 K73.lv s&&recOk (PySem.Challenge.rw_falsesums_k73_whole_guests_and_rooms.row.toRowW).records s) s.2.abs&&(if true then s.2.abs.gens.size==0 else !leftWithCleanup s.2.abs.gens))))=some (true,(true,true,true),true,true):=by
 intro w;kernel_rfl
set_option maxRecDepth 100000 in
set_option maxHeartbeats 0 in
theorem K73.ran1:∀w,(Hd.bare PySem.Challenge.rw_falsesums_k73_whole_guests_and_rooms.row.prog w 10656).map (λs=>((((recsOf K73.c5).take 45).map (·.name)).map (s.2.abs.heap.shapeAt mainGlobals),((recsOf K73.c5).take 45).all (λd=>s.2.abs.heap.tab0Ok d.name)))=some (((recsOf K73.c5).take 45).map (λd=>some d.shape),true):=by
 intro w;kernel_rfl
set_option maxRecDepth 100000 in
set_option maxHeartbeats 0 in
theorem K73.ran2:∀w,(Hd.bare PySem.Challenge.rw_falsesums_k73_whole_guests_and_rooms.row.prog w 10656).map (λs=>((((recsOf K73.c5).drop 45).map (·.name)).map (s.2.abs.heap.shapeAt mainGlobals),((recsOf K73.c5).drop 45).all (λd=>s.2.abs.heap.tab0Ok d.name)))=some (((recsOf K73.c5).drop 45).map (λd=>some d.shape),true):=by
 intro w;kernel_rfl
set_option maxRecDepth 100000 in
set_option maxHeartbeats 0 in
theorem K73.ran3:∀w,(Hd.bare PySem.Challenge.rw_falsesums_k73_whole_guests_and_rooms.row.prog w 10656).map (λs=>s.2.abs.heap.keysOk (looseW K73.c5 ["Field","STEP","is_filling"]) ((recsOf K73.c5).map (·.name)) ((litsOf K73.c5).map (·.1)) ((clssOf K73.c5 (looseW K73.c5 ["Field","STEP","is_filling"])).map (·.name)))=some (true):=by
 intro w;kernel_rfl
set_option maxRecDepth 100000 in
set_option maxHeartbeats 0 in
theorem K73.ran4:∀w,(Hd.bare PySem.Challenge.rw_falsesums_k73_whole_guests_and_rooms.row.prog w 10656).map (λs=>(pinSeenD K73.c5 (drecsOf K73.c5) s.2.abs,K73.qB (Hd.yp K73.rL s.2)))=some (pinGoodD (drecsOf K73.c5),K73.vI):=by
 intro w;kernel_rfl
set_option maxRecDepth 100000 in
set_option maxHeartbeats 0 in
theorem K73.ran5:∀w,(Hd.bare PySem.Challenge.rw_falsesums_k73_whole_guests_and_rooms.row.prog w 10656).map (λs=>plainSeenE K73.c5 (looseW K73.c5 ["Field","STEP","is_filling"]) s.2.abs)=some (plainGoodE K73.c5 (looseW K73.c5 ["Field","STEP","is_filling"])):=by
 intro w;kernel_rfl
set_option maxRecDepth 100000 in
set_option maxHeartbeats 0 in
theorem K73.ran6:∀w,(Hd.bare PySem.Challenge.rw_falsesums_k73_whole_guests_and_rooms.row.prog w 10656).map (λs=>(plainSeenD K73.c5 ["Field","STEP","is_filling"] s.2.abs,clsSeenW K73.c5 ["Field","STEP","is_filling"] s.2.abs,s.2.abs.heap.bltView))=some (plainGoodD K73.c5 ["Field","STEP","is_filling"],clsGoodW K73.c5 ["Field","STEP","is_filling"],bltViewBooted):=by
 intro w;kernel_rfl
set_option maxRecDepth 100000 in
set_option maxHeartbeats 0 in
theorem K73.ran7:∀w,(Hd.bare PySem.Challenge.rw_falsesums_k73_whole_guests_and_rooms.row.prog w 10656).map (λs=>wideSeen K73.c5 s.2.abs)=some (wideGood K73.c5):=by
 intro w;kernel_rfl
set_option maxRecDepth 100000 in
set_option maxHeartbeats 0 in
theorem K73.ran8:∀w,(Hd.bare PySem.Challenge.rw_falsesums_k73_whole_guests_and_rooms.row.prog w 10656).map (λs=>(((ownsOf K73.c5).all (λo=>s.2.abs.heap.ownExcOk o.name o.chain o.bm o.newId&&s.2.abs.heap.quietOk o.name),s.2.abs.heap.isNs mainGlobals,s.2.abs.heap.isNs builtinsNs,s.2.abs.heap.noLimitOk&&s.2.abs.heap.noDigitsOk),(s.2.abs.heap.bmainOk&&valsOk K73.c5 s.2.abs.heap&&(!importsNone K73.c5 || s.2.abs.heap.noSeerOk))))=some ((true,true,true,true),true):=by
 intro w;kernel_rfl
end
namespace L2
open PySem PySem.Spec PyProof.Rows
abbrev Key:=Sum Int Str
def mK:Key->Value->Bool
 | .inl k,v=>Value.isInt k v
 | .inr x,v=>Value.isStrOf x v
def aba (w:World):Key->Int
 | .inl k=>hashInt k
 | .inr x=>hashStr w x
theorem cc:∀{k:Key}{v:Value},mK k v=true->(∃i t,k=Sum.inl i/\v=Value.int i t)\/(∃x t,k=Sum.inr x/\v=Value.str x t)
 | .inl i,v,h=>by
   obtain⟨t,e⟩:=Value.isInt_shape (k:=i) (v:=v) h;exact .inl ⟨i,t,rfl,e⟩
 | .inr x,v,h=>by
   obtain⟨t,e⟩:=Value.isStrOf_shape (x:=x) (v:=v) h;exact .inr ⟨x,t,rfl,e⟩
theorem abq (i:Int)(t:Tok):mK (.inl i) (.int i t)=true:=by simp[mK,Value.isInt]
theorem aae (x:Str)(t:Tok):mK (.inr x) (.str x t)=true:=by simp[mK,Value.isStrOf]
theorem abe (a b:Int):decide ((Sum.inl a:Key)=Sum.inl b)=(a==b):=by
 by_cases e:a=b
 ·subst e;simp
 ·have h:¬(Sum.inl a:Key)=Sum.inl b:=λq=>e (Sum.inl.inj q);rw[decide_eq_false h];exact(beq_eq_false_iff_ne.mpr e).symm
theorem Gth (a b:Str):decide ((Sum.inr a:Key)=Sum.inr b)=decide (a=b):=by
 by_cases e:a=b
 ·subst e;simp
 ·have h:¬(Sum.inr a:Key)=Sum.inr b:=λq=>e (Sum.inr.inj q);rw[decide_eq_false h,decide_eq_false e]
theorem abv (a:Int)(b:Str):decide ((Sum.inl a:Key)=Sum.inr b)=false:=decide_eq_false (λq=>nomatch q)
theorem abo (a:Str)(b:Int):decide ((Sum.inr a:Key)=Sum.inl b)=false:=decide_eq_false (λq=>nomatch q)
def bZ (prog:yn)(w:World):PySem.KeyKind prog w Key where
 is:=mK
 hash:=aba w
 inj:=λv a b ha hb=>by
  rcases cc ha with⟨i,t,rfl,rfl⟩|⟨x,t,rfl,rfl⟩
  ·rcases cc hb with⟨j,u,rfl,e⟩|⟨y,u,rfl,e⟩
   ·injection e with e1 _;rw[e1]
   ·exact nomatch e
  ·rcases cc hb with⟨j,u,rfl,e⟩|⟨y,u,rfl,e⟩
   ·exact nomatch e
   ·injection e with e1 _;rw[e1]
 byValue:=λk v h=>by
  rcases cc h with⟨i,t,rfl,rfl⟩|⟨x,t,rfl,rfl⟩ <;> rfl
 pyHash:=λhv h=>by
  rcases cc hv with⟨i,t,rfl,rfl⟩|⟨x,t,rfl,rfl⟩
  ·exact wpAny_pyHash_int h
  ·exact wpAny_pyHash_str h
 eqBool:=λhu hv h=>by
  rcases cc hu with⟨i,t,rfl,rfl⟩|⟨x,t,rfl,rfl⟩
  ·rcases cc hv with⟨j,u,rfl,rfl⟩|⟨y,u,rfl,rfl⟩
   ·rw[abe] at h;exact wpAny_eqBool_int h
   ·rw[abv] at h;exact SeqAt.EqAt.int_str i t y u _ _ _ _ h
  ·rcases cc hv with⟨j,u,rfl,rfl⟩|⟨y,u,rfl,rfl⟩
   ·rw[abo] at h;exact SeqAt.EqAt.str_int x t j u _ _ _ _ h
   ·rw[Gth] at h;exact wpAny_eqBool_str h
 «strs»:=λk x t v h=>by
  rcases cc h with⟨i,u,rfl,e⟩|⟨y,u,rfl,e⟩
  ·exact nomatch e
  ·injection e with e1 _
   subst e1
   cases v <;> rfl
theorem aas (prog:yn)(w:World)(i:Int)(t:Tok):(bZ prog w).is (.inl i) (.int i t)=true:=abq i t
theorem aav (prog:yn)(w:World)(x:Str)(t:Tok):(bZ prog w).is (.inr x) (.str x t)=true:=aae x t
inductive V where
 |non|bl (b:Bool)|int (i:Int)|str (x:Str)|byt (b:Array UInt8)|flt (b:UInt64)|ref (a:Addr)|ty (n:String)
 deriving DecidableEq
def aG:V->Value->Prop
 | .non,u=>u=Value.none
 | .bl b,u=>u=Value.bool b
 | .int i,u=>∃t,u=Value.int i t
 | .str x,u=>∃t,u=Value.str x t
 | .byt b,u=>∃t,u=Value.bytes b t
 | .flt b,u=>∃t,u=Value.float b t
 | .ref a,u=>u=Value.ref a
 | .ty n,u=>u=Value.type n
abbrev aM:List V->List Value->Prop:=Paired aG
variable {us:oH}
theorem aM.length {xs:List V}(r:aM xs us):xs.length=us.length:=Paired.length r
theorem aM.get:∀{xs:List V}{us:oH}{i:Nat}{x:V},aM xs us->xs[i]?=some x->∃u,us[i]?=some u/\aG x u
 |_,_,_,_,.nil,e=>by simp at e
 |_,_,0,_,.cons r _,e=>by simp at e;subst e;exact⟨_,rfl,r⟩
 |_,_,i+1,x,.cons _ t,e=>by
  obtain⟨u,h1,h2⟩:=aM.get (i:=i) (x:=x) t (by simpa using e);exact⟨u,by simpa using h1,h2⟩
variable {u:Value}
theorem aM.set {x:V}(r:aG x u):∀{xs:List V}{us:oH}(i:Nat),aM xs us->aM (xs.set i x) (us.set i u)
 |_,_,_,.nil=>.nil
 |_,_,0,.cons _ t=>.cons r t
 |_,_,i+1,.cons q t=>.cons q (aM.set r i t)
theorem aM.append:∀{xs ys:List V}{us ws:oH},aM xs us->aM ys ws->aM (xs++ys) (us++ws)
 |_,_,_,_,.nil,s=>s
 |_,_,_,_,.cons r t,s=>.cons r (aM.append t s)
theorem aM.take:∀{xs:List V}{us:oH}(n:Nat),aM xs us->aM (xs.take n) (us.take n)
 |_,_,0,_=>.nil
 |_,_,_+1,.nil=>.nil
 |_,_,n+1,.cons r t=>.cons r (aM.take n t)
theorem aM.drop:∀{xs:List V}{us:oH}(n:Nat),aM xs us->aM (xs.drop n) (us.drop n)
 |_,_,0,r=>r
 |_,_,_+1,.nil=>.nil
 |_,_,n+1,.cons _ t=>aM.drop n t
def f9:Option V->Option Value->Prop
 |some v,some u=>aG v u
 |none,none=>True
 |_,_=>False
def KV {κ:Type}:List (κ×V)->List (κ×Value)->Prop:=Paired λ(p:κ×V)(q:κ×Value)=>p.1=q.1/\aG p.2 q.2
def kV:Key->V
 | .inl i=>.int i
 | .inr x=>.str x
inductive HO where
 /-- a list -/
 |lst (xs:List V)
 /-- a tuple (never changes) -/
 |tup (xs:List V)
 /-- a dict NY keys are ints and texts;one NY keys are tuples of ints and texts (Lc empty one is both) -/
 |dK (Ir:List (Key×V))|dT (Ir:List (List Key×V))
 /-- a set of ints: its members,its size -/
 |set (S:Int->Bool)(n:Nat)
 /-- an instance of Lc class at C,its dict at dx,its attributes -/
 |ins (C dx:Addr)(fs:List (Str×V))
 /-- Lc dict of Lc instance at x -/
 |own (x:Addr)
 /-- Lc dict of an exception -/
 |xd (fs:List (Str×V))
 /-- a bound method,f of x -/
 |met (f x:Addr)
 /-- a range object lo,lo+1,.. below hi -/
 |rng (lo hi:Int)
 /-- a N0 Zf is known to Lc object (Lc S0;a dict while a kb BR it): read,never written while it is so -/
 |frz (o:Obj)(u:HO)
 /-- a code N1 table -/
 |tbl (ps:GV)
 /-- any other N0,by Zg is true of its one object (a def of W8 own: Zh a S n:=HO.ext λh=>..) -/
 |ext (φ:Heap->Prop)
abbrev Hp:=Addr->Option HO
def upd (H:Hp)(a:Addr)(o:HO):Hp:=λb=>if b=a then some o else H b
variable {H:Hp}{a:Addr}{o:HO}
theorem ah :upd H a o a=some o:=by unfold upd;rw[if_pos rfl]
variable {b:Addr}
theorem av (h:b≠a):upd H a o b=H b:=by unfold upd;rw[if_neg h]
theorem aaw {u:HO}:upd (upd H a o) a u=upd H a u:=by
 funext b;unfold upd;split <;> rfl
theorem y8 {u:HO}(h:H a=some o)(h':H b=some u)(d:o≠u):a≠b:=by
 intro e;subst e;rw[h] at h';exact d (Option.some.inj h')
theorem ax (h:H a=some o)(h':H b=none):a≠b:=by
 intro e;subst e;rw[h] at h';cases h'
section
variable (P:yn)(w:World)
def bx (H:Hp)(h:Heap)(a:Addr):HO->Prop
 | .lst xs=>xs.length<=sizeLine/\∃(its:oH)(n:Nat),aM xs its/\h.get? a=some {cls:=.type "list",data:=.seq its.toArray n}
 | .tup xs=>xs.length<=sizeLine/\∃its:List Value,aM xs its/\IsTup h a its.toArray
 | .dK Ir=>Ir.length<=sizeLine/\(a==sysModules)=false/\∃vs,KV Ir vs/\h.DictOf (bZ P w) a vs
 | .dT Ir=>Ir.length<=sizeLine/\(a==sysModules)=false/\∃xs:List (List Key×Addr×Value),
  Paired (λ(p:List Key×V)(q:List Key×Addr×Value)=>p.1=q.1/\H q.2.1=some (.tup (p.1.map kV))/\aG p.2 q.2.2) Ir xs /\
  ∃o es ep,h.get? a=some o/\o.ExactDict/\o.data=.dict es ep/\es.toList=xs.map (entryOfKey (tupleKind (bZ P w)))/\(xs.map (·.1)).Nodup
 | .set S n=>h.SetOf (intKind P w) a S n
 | .ins C dx fs=>H dx=some (.own a)/\fs.length<=1000/\dx≠a/\h.get? a=some (PySem.W.instObj C dx) /\
  ∃mA,h.Ns1 dx mA/\(∀f,f9 (fs.lookup f) (mA f))/\PySem.Within mA (fs.map (·.1))
 | .own _=>∃o,h.get? a=some o
 | .xd fs=>∃mA,h.Ns1 a mA/\∀f,f9 (fs.lookup f) (mA f)
 | .rng lo hi=>∃t u v,h.get? a=some {cls:=.type "range",data:=.fields #[.int lo t,.int hi u,.int 1 v]}
 | .frz o u=>h.get? a=some o/\bx H h a u
 | .tbl ps=>h.get? a=some {cls:=.none,data:=.fields ps}
 | .met f x=>h.get? a=some (PySem.W.methodObj (.ref f) (.ref x))
 | .ext φ=>φ h/\(∃o,h.get? a=some o)/\∀h1 h2:Heap,φ h1->(∀o,h1.get? a=some o->h2.get? a=some o)->φ h2
def gf (H:Hp)(h:Heap):Prop:=∀a o,H a=some o->bx P w H h a o
end
section
variable {P:yn}{w:World}{H H':Hp}{h h':Heap}{a:Addr}{o:HO}
theorem bx.lt (x:bx P w H h a o):a<h.objs.size:=by
 cases o with
 |lst xs=>obtain⟨_,_,_,_,e⟩:=x;exact Heap.lt_size e
 |tup xs=>obtain⟨_,_,_,p⟩:=x;exact p.lt
 |dK Ir=>obtain⟨_,_,_,_,o,_,_,e,_⟩:=x;exact Heap.lt_size e
 |dT Ir=>obtain⟨_,_,_,_,o,_,_,e,_⟩:=x;exact Heap.lt_size e
 |set S n=>obtain⟨o,_,_,_,e,_⟩:=x;exact Heap.lt_size e
 |ins C dx fs=>obtain⟨_,_,_,e,_⟩:=x;exact Heap.lt_size e
 |own y=>obtain⟨_,e⟩:=x;exact Heap.lt_size e
 |xd fs=>obtain⟨_,⟨_,_,_,e,_⟩,_⟩:=x;exact Heap.lt_size e
 |rng lo hi=>obtain⟨_,_,_,e⟩:=x;exact Heap.lt_size e
 |frz ob u=>obtain⟨e,_⟩:=x;exact Heap.lt_size e
 |tbl ps=>exact Heap.lt_size (show h.get? a=some _ from x)
 |met f y=>exact Heap.lt_size (show h.get? a=some _ from x)
 |ext φ=>obtain⟨_,⟨_,e⟩,_⟩:=x;exact Heap.lt_size e
theorem Paired.aax {α β:Type}{F G:α->β->Prop}:∀{l₁:List α}{l₂:List β},Paired F l₁ l₂->(∀a b,F a b->G a b)->Paired G l₁ l₂
 |_,_,.nil,_=>.nil
 |_,_,.cons r t,f=>.cons (f _ _ r) (Paired.aax t f)
theorem bx.aaZ (x:bx P w H h a o)(k:∀b u,(b=a\/H b=some (.own a))->h.get? b=some u->h'.get? b=some u)
 (ho:∀b,H b=some (.own a)->H' b=some (.own a))(ht:∀b xs,H b=some (.tup xs)->H' b=some (.tup xs)):bx P w H' h' a o:=by
 induction o with
 |lst xs=>obtain⟨z,its,n,r,e⟩:=x;exact⟨z,its,n,r,k _ _ (.inl rfl) e⟩
 |tup xs=>obtain⟨z,its,r,ob,e,c⟩:=x;exact⟨z,its,r,ob,k _ _ (.inl rfl) e,c⟩
 |dK Ir=>obtain⟨z,y,vs,r,ob,es,ep,e,c⟩:=x;exact⟨z,y,vs,r,ob,es,ep,k _ _ (.inl rfl) e,c⟩
 |dT Ir =>
  obtain⟨z,y,xs,r,ob,es,ep,e,c⟩:=x;exact⟨z,y,xs,Paired.aax r λp q z=>⟨z.1,ht _ _ z.2.1,z.2.2⟩,ob,es,ep,k _ _ (.inl rfl) e,c⟩
 |set S n=>obtain⟨ob,es,ep,t,e,c⟩:=x;exact⟨ob,es,ep,t,k _ _ (.inl rfl) e,c⟩
 |ins C dx fs =>
  obtain⟨d,z,ne,e,mA,⟨od,es,ep,e2,c⟩,r⟩:=x;exact⟨ho _ d,z,ne,k _ _ (.inl rfl) e,mA,⟨od,es,ep,k _ _ (.inr d) e2,c⟩,r⟩
 |own y=>obtain⟨ob,e⟩:=x;exact⟨ob,k _ _ (.inl rfl) e⟩
 |xd fs=>obtain⟨mA,⟨od,es,ep,e,c⟩,r⟩:=x;exact⟨mA,⟨od,es,ep,k _ _ (.inl rfl) e,c⟩,r⟩
 |rng lo hi=>obtain⟨t,u,v,e⟩:=x;exact⟨t,u,v,k _ _ (.inl rfl) e⟩
 |frz ob u ih=>obtain⟨e,q⟩:=x;exact⟨k _ _ (.inl rfl) e,ih q⟩
 |tbl ps =>
  have e:h.get? a=some {cls:=.none,data:=.fields ps}:=x;show h'.get? a=some {cls:=.none,data:=.fields ps};exact k a _ (.inl rfl) e
 |met f y =>
  have e:h.get? a=some (PySem.W.methodObj (.ref f) (.ref y)):=x;show h'.get? a=some (PySem.W.methodObj (.ref f) (.ref y));exact k a _ (.inl rfl) e
 |ext φ=>obtain⟨p,⟨o,e⟩,st⟩:=x;exact⟨st _ _ p λo q=>k _ _ (.inl rfl) q,⟨o,k _ _ (.inl rfl) e⟩,st⟩
theorem gf.lt (x:gf P w H h)(e:H a=some o):a<h.objs.size:=(x a o e).lt
theorem gf.fresh (x:gf P w H h)(e:h.objs.size<=a):H a=none:=by
 cases q:H a with
 |none=>rfl
 |some u=>exact absurd (Nat.lt_of_lt_of_le (x.lt q) e) (Nat.lt_irrefl _)
theorem gf.kept (x:gf P w H h)(k:∀b u,h.get? b=some u->h'.get? b=some u):gf P w H h':=λa o e =>
 (x a o e).aaZ (λb u _ q=>k b u q) (λ_ q=>q) λ_ _ q=>q
theorem gf.laid (x:gf P w H h)(k:∀b u,h.get? b=some u->h'.get? b=some u)(hp:h.objs.size<=a)(new:bx P w (upd H a o) h' a o):gf P w (upd H a o) h':=λb u e=>by
 have hn:=x.fresh hp
 by_cases hb:b=a
 ·subst hb;rw[ah] at e;cases e;exact new
 ·rw[av hb] at e
  exact(x b u e).aaZ (λc v _ q=>k c v q) (λc q=>by rw[av (ax q hn)];exact q) λc xs q=>by rw[av (ax q hn)];exact q
end
def Rd (H:Hp)(a:Addr)(u:HO):Prop:=H a=some u\/∃o,H a=some (.frz o u)
variable {P:yn}{w:World}{h:Heap}
theorem Rd.ok {u:HO}(r:Rd H a u)(x:gf P w H h):bx P w H h a u:=by
 rcases r with r|⟨o,r⟩
 ·exact x a u r
 ·obtain⟨_,q⟩:=x a _ r;exact q
def ED:Option HO->Prop
 |some (.lst _)=>True
 |some (.dK _)=>True
 |some (.dT _)=>True
 |some (.set _ _)=>True
 |some (.ins _ _ _)=>True
 |some (.ext _)=>True
 |_=>False
section
variable {P:yn}{w:World}{H:Hp}{h h':Heap}{x e:Addr}{o':HO}
theorem gf.write (ok:gf P w H h)(mu:ED (H x))(he:e=x\/H e=some (.own x))(k:∀b u,b≠e->h.get? b=some u->h'.get? b=some u)(Nz:∃u,h'.get? e=some u)
 (new:bx P w (upd H x o') h' x o'):gf P w (upd H x o') h':=λb u q=>by
 have N2:∀c y,H c=some (.own y)->c≠x:=λc y r z=>by subst z;rw[r] at mu;exact mu
 have S6:∀c xs,H c=some (.tup xs)->c≠x:=λc xs r z=>by subst z;rw[r] at mu;exact mu
 by_cases hb:b=x
 ·subst hb;rw[ah] at q;cases q;exact new
 ·rw[av hb] at q
  by_cases Mp:b=e
  ·have q':H b=some (.own x):=by
    rcases he with z|z
    ·exact absurd (Mp.trans z) hb
    ·rw[Mp];exact z
   rw[q] at q';cases q';obtain⟨v,hv⟩:=Nz;exact⟨v,by rw[Mp];exact hv⟩
  ·refine(ok b u q).aaZ (λc v hc r=>k c v ?_ r) (λc r=>by rw[av (N2 c b r)];exact r) λc xs r=>by rw[av (S6 c xs r)];exact r
   rcases hc with rfl|hc
   ·exact Mp
   ·rintro rfl
    rcases he with z|z
    ·exact N2 c b hc z
    ·rw[hc] at z;cases z;exact hb rfl
end
structure Un (fs ex:List Addr)(H H':Hp)(h h':Heap):Prop where
 keep:∀b o,h.get? b=some o->H b=none->b∉fs->b∉ex->h'.get? b=some o
 slot:∀b o,h.get? b=some o->H b=none->b∈fs->b∉ex->∃sl,h'.get? b=some {o with slots:=sl}
 free:∀b o,h.get? b=some o->H b=none->b∉ex->H' b=none
 there:∀b o,h.get? b=some o->b∉ex->∃o',h'.get? b=some o'
 aal:∀b xs,H b=some (.tup xs)->H' b=some (.tup xs)
 aak:∀b o u,H b=some (.frz o u)->H' b=some (.frz o u)
 aar:∀b ps,H b=some (.tbl ps)->∃more,H' b=some (.tbl (ps++more))
section
variable {fs Zi ex ex':List Addr}{H H1 H2:Hp}{h h1 h2 h':Heap}{a x e:Addr}{o:HO}
theorem Un.any (u:Un fs ex H H1 h h1){ob:Obj}(q:h.get? b=some ob)(n:H b=none)(hx:b∉ex):∃sl,h1.get? b=some {ob with slots:=sl}:=by
 by_cases hb:b∈fs
 ·exact u.slot b ob q n hb hx
 ·exact⟨ob.slots,u.keep b ob q n hb hx⟩
theorem Un.kept (k:∀b u,h.get? b=some u->h'.get? b=some u):Un fs ex H H h h' :=
 ⟨λb ob q _ _ _=>k b ob q,λb ob q _ _ _=>⟨ob.slots,k b ob q⟩,λ_ _ _ n _=>n,λb ob q _=>⟨ob,k b ob q⟩,λ_ _ q=>q,λ_ _ _ q=>q,λ_ ps q=>⟨#[],by rw[q];simp⟩⟩
theorem Un.refl:Un fs ex H H h h:=Un.kept λ_ _ q=>q
theorem Un.laid (k:∀b u,h.get? b=some u->h'.get? b=some u)(hp:h.objs.size<=a)(hn:H a=none):Un fs ex H (upd H a o) h h' where
 keep:=λb u q _ _ _=>k b u q
 slot:=λb u q _ _ _=>⟨u.slots,k b u q⟩
 free:=λb u q n _=>by rw[av (Nat.ne_of_lt (Nat.lt_of_lt_of_le (Heap.lt_size q) hp))];exact n
 there:=λb u q _=>⟨u,k b u q⟩
 aal:=λb xs q=>by rw[av (ax q hn)];exact q
 aak:=λb u xs q=>by rw[av (ax q hn)];exact q
 aar:=λb ps q=>⟨#[],by rw[av (ax q hn),q];simp⟩
theorem Un.write (mu:ED (H x))(he:e=x\/H e=some (.own x))(k:∀b u,b≠e->h.get? b=some u->h'.get? b=some u)(Nz:∃u,h'.get? e=some u):Un fs ex H (upd H x o) h h':=by
 have hx:∀b,H b=none->b≠x:=λb n z=>by subst z;rw[n] at mu;exact mu
 have hb:∀b,H b=none->b≠e:=λb n z=>by
  subst z
  rcases he with r|r
  ·exact hx b n r
  ·rw[n] at r;cases r
 have hm:∀b u,H b=some u->¬ED (some u)->b≠x:=λb u q nm z=>by subst z;rw[q] at mu;exact nm mu
 refine⟨λb u q n _ _=>k b u (hb b n) q,λb u q n _ _=>⟨u.slots,k b u (hb b n) q⟩,λb u q n _=>by rw[av (hx b n)];exact n,λb u q _=>?_,
  λb xs q=>by rw[av (hm b _ q λz=>z)];exact q,λb u xs q=>by rw[av (hm b _ q λz=>z)];exact q,λb ps q=>⟨#[],by rw[av (hm b _ q λz=>z),q];simp⟩⟩
 by_cases Mp:b=e
 ·subst Mp;exact Nz
 ·exact⟨u,k b u Mp q⟩
end
def F3 (h:Heap)(H:Hp):List Addr:=(List.range h.objs.size).filter λa=>(H a).isSome
def l5 (h:Heap)(H:Hp):Heap:=PySem.W.hideAll h (F3 h H)
theorem Shr (h:Heap)(H:Hp):(l5 h H).objs.size=h.objs.size:=PySem.W.hideAll_size _ _
theorem abz {o:Obj}(e:h.get? b=some o)(n:H b=none):(l5 h H).get? b=some o :=
 PySem.W.hideAll_get _ e λhm=>by
  have q:(H b).isSome=true:=(List.mem_filter.mp hm).2;rw[n] at q;simp at q
theorem aaB {o:Obj}(e:(l5 h H).get? b=some o):h.get? b=some o/\H b=none:=by
 have e':h.get? b=some o:=PySem.W.of_hideAll (F3 h H) e;refine⟨e',?_⟩
 cases q:H b with
 |none=>rfl
 |some x =>
  have hm:b∈F3 h H:=List.mem_filter.mpr ⟨List.mem_range.mpr (Heap.lt_size e'),by simp[q]⟩;have z:(l5 h H).get? b=none:=PySem.W.hideAll_none (F3 h H) hm;rw[z] at e;cases e
structure Mod (K:PySem.W.Frag)(mg:xf)(base:Heap):Prop where
 kin:K.In base
 glob:base.Ns mainGlobals mg
 blt:∃mb,base.Ns builtinsNs mb/\∀x:Str,x ≠ "__name__"->mb x=bootBuiltins x
 nolimit:base.NoLimit
structure Cx where
 prog:Program
 w:World
 K:PySem.W.Frag
 mg:Str->Option Value
 base:Heap
 A:Around
 N:List Str
 s₀:Shared
 H₀:Hp
 env:Env
 outer:List Env
 stack:List Env
 ex:List Addr
 fn:Str->Bool
 calm:Bool
 pn:List (Addr×Obj)
 xe:Value->Shared->Prop
def dU (l:List Env):List Addr:=l.filterMap (·.frame)
abbrev Cx.fs (X:Cx):List Addr:=dU X.outer
def FD (sc:Scope)(x:Str):Prop:=sc.names.lookup x=some .local\/sc.names.lookup x=some .cell\/sc.names.lookup x=some .free
def DY (sc:Scope)(x:Str):Prop:=sc.names.lookup x=some .local\/sc.names.lookup x=some .cell
def aah (env:Env)(h:Heap)(m:xf)(x:Str)(u:Value):Prop :=
 (env.kindOf x=some .local/\m x=some u)\/((env.kindOf x=some .cell\/env.kindOf x=some .free)/\∃c,env.cells.lookup x=some c/\h.IsCell c (some u))
structure Cx.Ok (X:Cx):Prop where
 mod:Mod X.K X.mg X.base
 kind:X.env.scope.kind=.function
 glob:X.env.globals=mainGlobals
 blt:X.env.builtins=builtinsNs
 above:X.s₀.heap.objs.size<=X.env.locals
 inj:∀x y c,X.env.cells.lookup x=some c->X.env.cells.lookup y=some c->x=y
 has:∀x,(X.env.kindOf x=some .cell\/X.env.kindOf x=some .free)->∃c,X.env.cells.lookup x=some c
 cab:∀x c,X.fn x=true->X.env.cells.lookup x=some c->X.s₀.heap.objs.size<=c
 hd:X.calm=true->X.A.handled=none
 frames:X.A.frames=some X.stack
 stk:X.stack=X.outer\/(X.stack=X.env::X.outer/\X.env.frame=some X.env.locals)
 exf:∀b∈X.ex,b≠X.env.locals/\∀x c,X.env.cells.lookup x=some c->c≠b
 bs:∀b o,X.base.get? b=some o->X.s₀.heap.get? b=some o/\X.H₀ b=none
 bsz:X.base.objs.size<=X.s₀.heap.objs.size
 aa0:∀b o,X.base.get? b=some o->b∉X.ex
 abb:∀b∈X.ex,b∉X.fs
 aau:X.s₀.heap.FunFrames X.base X.outer
 frf:∀b∈X.fs,X.H₀ b=none
structure Inv (X:Cx)(pins:List (Addr×Obj))(σ:List (Option V))(H:Hp)(s:Dx):Prop where
 ok:X.Ok
 os:s.os=X.s₀.os
 bare:AllBare s.gens
 base:Un X.fs X.ex X.H₀ H X.s₀.heap s.heap
 loc:∃m,s.heap.Ns X.env.locals m/\∀(i:Nat)(x:Str)(v:V),X.N[i]?=some x->σ[i]?=some (some v)->FD X.env.scope x->∃u,aG v u/\aah X.env s.heap m x u
 cell:∀x c,X.env.cells.lookup x=some c->∃v,s.heap.IsCell c v
 free:H X.env.locals=none
 aaj:∀x c,X.env.cells.lookup x=some c->H c=none
 pin:∀p∈X.pn++pins,s.heap.get? p.1=some p.2/\H p.1=none/\p.1≠X.env.locals/\p.1∉X.fs/\∀v,p.2.data≠.cell v
 hok:gf X.prog X.w H s.heap
 len:σ.length=X.N.length
variable {N:zX}{i:Nat}{x:Str}{M:Model}{A:Around}
section
variable {X:Cx}{pins:List (Addr×Obj)}{σ:List (Option V)}{H H':Hp}{s:Dx}{h':Heap}
theorem Cx.Ok.acm (ok:X.Ok){o:Obj}(e:X.base.get? b=some o):b∉X.fs:=λhb=>by
 have:=(ok.aau.mem hb).1;rw[e] at this;cases this
theorem Inv.bs (I:Inv X pins σ H s):∀b o,X.base.get? b=some o->s.heap.get? b=some o/\H b=none:=λb o e =>
 ⟨I.base.keep b o (I.ok.bs b o e).1 (I.ok.bs b o e).2 (I.ok.acm e) (I.ok.aa0 b o e),I.base.free b o (I.ok.bs b o e).1 (I.ok.bs b o e).2 (I.ok.aa0 b o e)⟩
theorem Inv.bk (I:Inv X pins σ H s):∀b o,X.base.get? b=some o->s.heap.get? b=some o:=λb o e=>(I.bs b o e).1
theorem Inv.mod (I:Inv X pins σ H s):Mod X.K X.mg X.base:=I.ok.mod
theorem Inv.kIn (I:Inv X pins σ H s):X.K.In s.heap:=I.ok.mod.kin.keeps I.bk
theorem Inv.fr (I:Inv X pins σ H s):∃m,Fr X.base X.env.locals s.heap m :=
 let⟨m,hn,_⟩:=I.loc
 ⟨m,hn,I.bk,Nat.le_trans I.ok.bsz I.ok.above⟩
theorem Inv.lt (I:Inv X pins σ H s):X.env.locals<s.heap.objs.size:=let⟨_,hn,_⟩:=I.loc;hn.lt
theorem Inv.sz (I:Inv X pins σ H s):X.s₀.heap.objs.size<=s.heap.objs.size:=Nat.le_trans I.ok.above (Nat.le_of_lt I.lt)
theorem Inv.abO (I:Inv X pins σ H s)(h:s.heap.objs.size<=a):a∉X.fs:=λhb=>by
 obtain⟨_,o,ho,_⟩:=I.ok.aau.mem hb;exact absurd (Nat.lt_of_lt_of_le (Heap.lt_size ho) (Nat.le_trans I.sz h)) (Nat.lt_irrefl _)
theorem Inv.cne (I:Inv X pins σ H s):∀x c,X.env.cells.lookup x=some c->c≠X.env.locals:=λx c e z=>by
 obtain⟨v,o,ho,hd⟩:=I.cell x c e;obtain⟨m,⟨o',es,ep,Jc,S7,_⟩,_⟩:=I.loc;rw[z,Jc] at ho;cases ho;rw[S7] at hd;cases hd
theorem Inv.aau (I:Inv X pins σ H s):s.heap.FunFrames X.base X.outer:=by
 have all:∀(l:List Env),(∀b∈dU l,b∈X.fs)->X.s₀.heap.FunFrames X.base l->s.heap.FunFrames X.base l:=by
  intro l
  induction l with
  |nil=>intro _ _;trivial
  |cons env r ih =>
   intro hs hl;obtain⟨hk,⟨L,o,hf,hn,ho,hd⟩,hr⟩:=hl;have hL:L∈X.fs:=hs L (by unfold dU;rw[List.filterMap_cons,hf];exact List.mem_cons_self);obtain⟨sl,e⟩:=I.base.slot L o ho (I.ok.frf L hL) hL λz=>I.ok.abb L z hL;exact⟨hk,⟨L,_,hf,hn,e,hd⟩,ih (λb hb=>hs b (by unfold dU;rw[List.filterMap_cons,hf];exact List.mem_cons_of_mem _ hb)) hr⟩
 exact all X.outer (λ_ hb=>hb) I.ok.aau
theorem Inv.stack (I:Inv X pins σ H s):s.heap.FunFrames X.base X.stack:=by
 rcases I.ok.stk with e|⟨e,hf⟩
 ·rw[e];exact I.aau
 ·rw[e];obtain⟨m,hn,_⟩:=I.loc;refine .cons (by rw[I.ok.kind];decide) hf hn ?_ I.aau;exact Heap.get?_none_of_le (Nat.le_trans I.ok.bsz I.ok.above)
theorem Inv.aam (I:Inv X pins σ H s):∀b∈dU X.stack,b∈X.env.locals::X.fs:=λb hb=>by
 rcases I.ok.stk with e|⟨e,hf⟩
 ·rw[e] at hb;exact List.mem_cons_of_mem _ hb
 ·rw[e] at hb;unfold dU at hb;rw[List.filterMap_cons,hf] at hb;exact hb
theorem Inv.aaD (I:Inv X pins σ H s):∀b∈dU X.stack,H b=none:=λb hb=>by
 rcases List.mem_cons.mp (I.aam b hb) with e|hb
 ·rw[e];exact I.free
 ·obtain⟨_,o,ho,_⟩:=I.ok.aau.mem hb;exact I.base.free b o ho (I.ok.frf b hb) λz=>I.ok.abb b z hb
theorem Inv.step {g':Array GenState}{t':Nat}{d':Drawn}{ch:List Addr}(I:Inv X pins σ H s)
 (Ld:∀b∈ch,(b∈X.ex\/X.s₀.heap.objs.size<=b)/\b≠X.env.locals/\(∀x c,X.env.cells.lookup x=some c->c≠b)/\∀p∈X.pn++pins,p.1≠b)
 (keep:∀b o,b≠X.env.locals->b∉X.fs->b∉ch->s.heap.get? b=some o->H b=none->h'.get? b=some o)
 (slot:∀b o,b≠X.env.locals->b∈X.fs->b∉ch->s.heap.get? b=some o->H b=none->∃sl,h'.get? b=some {o with slots:=sl})(free:∀b o,b∉ch->s.heap.get? b=some o->H b=none->H' b=none)
 (there:∀b o,b∉ch->s.heap.get? b=some o->∃o',h'.get? b=some o')
 (aal:∀b xs,H b=some (.tup xs)->H' b=some (.tup xs))(aak:∀b o u,H b=some (.frz o u)->H' b=some (.frz o u))(aar:∀b ps,H b=some (.tbl ps)->∃more,H' b=some (.tbl (ps++more)))
 (ns:∀m,s.heap.Ns X.env.locals m->h'.Ns X.env.locals m)(hok:gf X.prog X.w H' h')(hg:AllBare g'):
 Inv X pins σ H' {s with heap:=h',gens:=g',drawn:=d',toks:=t'}:=by
 have W9:∀b o,X.s₀.heap.get? b=some o->b≠X.env.locals:=λb o e=>Nat.ne_of_lt (Nat.lt_of_lt_of_le (Heap.lt_size e) I.ok.above)
 have Sn:∀b o,X.s₀.heap.get? b=some o->b∉X.ex->b∉ch:=λb o e hx hb=>by
  rcases(Ld b hb).1 with z|z
  ·exact hx z
  ·exact absurd (Nat.lt_of_lt_of_le (Heap.lt_size e) z) (Nat.lt_irrefl _)
 have cellK:∀x c,X.env.cells.lookup x=some c->∀v,s.heap.IsCell c v->h'.IsCell c v:=λx c e v ⟨o,ho,hd⟩=>by
  have N3:c∉ch:=λz=>(Ld c z).2.2.1 x c e rfl
  by_cases hc:c∈X.fs
  ·obtain⟨sl,q⟩:=slot c o (I.cne x c e) hc N3 ho (I.aaj x c e);exact⟨_,q,hd⟩
  ·exact⟨o,keep c o (I.cne x c e) hc N3 ho (I.aaj x c e),hd⟩
 refine⟨I.ok,I.os,hg,⟨λb o e n hb hx=>?_,λb o e n hb hx=>?_,λb o e n hx=>?_,λb o e hx=>?_,λb xs e=>aal b xs (I.base.aal b xs e),λb o xs e=>aak b o xs (I.base.aak b o xs e),λb ps e=>?_⟩,?_,λx c e=>?_,?_,λx c e=>?_,λp hp=>?_,hok,I.len⟩
 ·exact keep b o (W9 b o e) hb (Sn b o e hx) (I.base.keep b o e n hb hx) (I.base.free b o e n hx)
 ·obtain⟨sl,e1⟩:=I.base.slot b o e n hb hx;obtain⟨Km,e2⟩:=slot b _ (W9 b o e) hb (Sn b o e hx) e1 (I.base.free b o e n hx);exact⟨Km,e2⟩
 ·obtain⟨o',e1⟩:=I.base.there b o e hx;exact free b o' (Sn b o e hx) e1 (I.base.free b o e n hx)
 ·obtain⟨o',e1⟩:=I.base.there b o e hx;exact there b o' (Sn b o e hx) e1
 ·obtain⟨m1,e1⟩:=I.base.aar b ps e;obtain⟨m2,e2⟩:=aar b _ e1;exact⟨m1++m2,by rw[e2,Array.append_assoc]⟩
 ·obtain⟨m,hn,hl⟩:=I.loc;refine⟨m,ns m hn,λi x v e1 e2 e3=>?_⟩;obtain⟨u,r,l⟩:=hl i x v e1 e2 e3;refine⟨u,r,?_⟩
  rcases l with l|⟨k,c,e,z⟩
  ·exact .inl l
  ·exact .inr ⟨k,c,e,cellK x c e _ z⟩
 ·obtain⟨v,z⟩:=I.cell x c e;exact⟨v,cellK x c e v z⟩
 ·obtain⟨m,⟨o,_,_,ho,_⟩,_⟩:=I.loc;exact free _ o (λz=>(Ld _ z).2.1 rfl) ho I.free
 ·obtain⟨v,o,ho,hd⟩:=I.cell x c e;exact free c o (λz=>(Ld c z).2.2.1 x c e rfl) ho (I.aaj x c e)
 ·obtain⟨e,n,ne,nf,d⟩:=I.pin p hp;have N3:p.1∉ch:=λz=>(Ld p.1 z).2.2.2 p hp rfl;exact⟨keep p.1 p.2 ne nf N3 e n,free p.1 p.2 N3 e n,ne,nf,d⟩
theorem Inv.un {t':Nat}(I:Inv X pins σ H s)(u:Un X.fs [] H H' s.heap h')(hok:gf X.prog X.w H' h'):Inv X pins σ H' {s with heap:=h',toks:=t'}:=by
 obtain⟨m,⟨o,es,ep,ho,r⟩,_⟩:=id I.loc;obtain⟨sl,hL⟩:=u.any ho I.free (by simp)
 exact I.step (g':=s.gens) (d':=s.drawn) (ch:=[]) (λ_ z=>nomatch z) (λb o _ hb _ e n=>u.keep b o e n hb (by simp)) (λb o _ hb _ e n=>u.slot b o e n hb (by simp)) (λb o _ e n=>u.free b o e n (by simp)) (λb o _ e=>u.there b o e (by simp)) u.aal u.aak u.aar (λm' hm=>by
  obtain⟨o',es',Mq,Jc,r'⟩:=hm;rw[ho] at Jc;cases Jc
  exact⟨_,es',Mq,hL,r'⟩) hok I.bare
theorem Inv.call {g':Array GenState}{t':Nat}{d':Drawn}{ch:List Addr}(I:Inv X pins σ H s)(u:Un (dU X.stack) ch H H' s.heap h')(hok:gf X.prog X.w H' h')(hg:AllBare g')
 (Ld:∀b∈ch,(b∈X.ex\/X.s₀.heap.objs.size<=b)/\b≠X.env.locals/\(∀x c,X.env.cells.lookup x=some c->c≠b)/\∀p∈X.pn++pins,p.1≠b):
 Inv X pins σ H' {s with heap:=h',gens:=g',drawn:=d',toks:=t'}:=by
 obtain⟨m,⟨o,es,ep,ho,r⟩,_⟩:=id I.loc;obtain⟨sl,hL⟩:=u.any ho I.free λz=>(Ld _ z).2.1 rfl
 exact I.step (ch:=ch) Ld (λb o hL hb hc e n=>u.keep b o e n (λz=>(List.mem_cons.mp (I.aam b z)).elim hL hb) hc) (λb o _ _ hc e n=>u.any e n hc) (λb o hc e n=>u.free b o e n hc) (λb o hc e=>u.there b o e hc) u.aal u.aak u.aar (λm' hm=>by
  obtain⟨o',es',Mq,Jc,r'⟩:=hm;rw[ho] at Jc;cases Jc
  exact⟨_,es',Mq,hL,r'⟩) hok hg
theorem Inv.turned {t':Nat}{it:Addr}(I:Inv X pins σ H s)(k:∀b o,b≠it->s.heap.get? b=some o->h'.get? b=some o)(hn:H it=none)(hL:it≠X.env.locals)
 (h1:it∈X.ex\/X.s₀.heap.objs.size<=it)(h2:∀x c,X.env.cells.lookup x=some c->c≠it)(h3:∀p∈X.pn++pins,p.1≠it):Inv X pins σ H {s with heap:=h',toks:=t'}:=by
 have LC:∀b u,H b=some u->b≠it:=λb u e z=>by rw[z,hn] at e;cases e
 refine I.step (g':=s.gens) (d':=s.drawn) (ch:=[it]) (λb hb=>?_) (λb o _ _ hc e _=>k b o (λz=>hc (by simp[z])) e) (λb o _ _ hc e _=>⟨o.slots,k b o (λz=>hc (by simp[z])) e⟩) (λ_ _ _ _ n=>n)
  (λb o hc e=>⟨o,k b o (λz=>hc (by simp[z])) e⟩) (λ_ _ e=>e) (λ_ _ _ e=>e) (λb ps e=>⟨#[],by rw[e];simp⟩) (λm hm=>?_) (λb u e=>?_) I.bare
 ·have e:b=it:=by simpa using hb
  subst e;exact⟨h1,hL,h2,h3⟩
 ·obtain⟨o,es,ep,ho,r⟩:=hm;exact⟨o,es,ep,k _ o (Ne.symm hL) ho,r⟩
 ·refine(I.hok b u e).aaZ (λc v hc q=>k c v ?_ q) (λ_ q=>q) λ_ _ q=>q
  rcases hc with z|z
  ·rw[z];exact LC b u e
  ·exact LC c _ z
theorem Inv.tok (I:Inv X pins σ H s)(t:Nat):Inv X pins σ H {s with toks:=t}:=I.un (h':=s.heap) (t':=t) Un.refl I.hok
theorem Inv.kept {t':Nat}(I:Inv X pins σ H s)(k:∀b u,s.heap.get? b=some u->h'.get? b=some u):Inv X pins σ H {s with heap:=h',toks:=t'}:=I.un (Un.kept k) (I.hok.kept k)
theorem Inv.laid {a:Addr}{o:HO}{t':Nat}(I:Inv X pins σ H s)(k:∀b u,s.heap.get? b=some u->h'.get? b=some u)(hp:s.heap.objs.size<=a)(new:bx X.prog X.w (upd H a o) h' a o):
 Inv X pins σ (upd H a o) {s with heap:=h',toks:=t'}:=I.un (Un.laid k hp (I.hok.fresh hp)) (I.hok.laid k hp new)
theorem Inv.write {x e:Addr}{o:HO}{t':Nat}(I:Inv X pins σ H s)(mu:ED (H x))(he:e=x\/H e=some (.own x))(k:∀b u,b≠e->s.heap.get? b=some u->h'.get? b=some u)(Nz:∃u,h'.get? e=some u)
 (new:bx X.prog X.w (upd H x o) h' x o):Inv X pins σ (upd H x o) {s with heap:=h',toks:=t'}:=I.un (Un.write mu he k Nz) (I.hok.write mu he k Nz new)
theorem Inv.aap {pins':List (Addr×Obj)}(I:Inv X pins σ H s)(h:∀p∈pins',s.heap.get? p.1=some p.2/\H p.1=none/\p.1≠X.env.locals/\p.1∉X.fs/\∀v,p.2.data≠.cell v):Inv X pins' σ H s :=
 ⟨I.ok,I.os,I.bare,I.base,I.loc,I.cell,I.free,I.aaj,λp hp=>(List.mem_append.mp hp).elim (λz=>I.pin p (List.mem_append_left _ z)) (h p),I.hok,I.len⟩
theorem lJ (hN:N.Nodup){j:Nat}(a:N[i]?=some x)(b:N[j]?=some x):i=j:=by
 obtain⟨h1,e1⟩:=List.getElem?_eq_some_iff.mp a;obtain⟨h2,e2⟩:=List.getElem?_eq_some_iff.mp b;exact(List.getElem_inj hN).mp (e1.trans e2.symm)
theorem i9 {E:yj}{v:V}{Q:Unit->Shared->Prop}(I:Inv X pins σ H s)(hN:X.N.Nodup)(hi:X.N[i]?=some x)(hx:DY X.env.scope x)(r:aG v u)
 (h:∀s',Inv X pins (σ.set i (some v)) H s'->(∃a,Heap.SameBut a s.heap s'.heap/\(a=X.env.locals\/X.env.cells.lookup x=some a))->Q () s')(hf:X.fn x=true\/X.env.scope.names.lookup x=some .local:=by first|exact .inl rfl|exact .inr rfl|assumption):wpAny M A (storeName X.env x u) Q E s:=by
 obtain⟨m,hn,hl⟩:=id I.loc
 have S8:(X.env.scope.kind == .class || (X.env.scope.kind == .module&&X.env.locals != X.env.globals))=false:=by rw[I.ok.kind];rfl
 have Xa:i<σ.length:=by rw[I.len];exact(List.getElem?_eq_some_iff.mp hi).1
 have cne:=I.cne
 have tracked:∀{a:Addr}{h':Heap},(∃o,s.heap.get? a=some o/\H a=none)->Heap.SameBut a s.heap h'->gf X.prog X.w H h':=λ{a h'} ha hs b ob e=>by
  obtain⟨_,_,Jd⟩:=ha;refine(I.hok b ob e).aaZ (λc w' hc q=>(hs.2 c ?_).trans q) (λ_ q=>q) λ_ _ q=>q;rintro rfl
  rcases hc with rfl|hc
  ·rw[Jd] at e;cases e
  ·rw[Jd] at hc;cases hc
 rcases hx with hk|hk
 ·refine wpAny_storeName_local hk hn (λh' Mr hs=>?_) S8;obtain⟨oL,_,_,Zj,_⟩:=id hn;refine h _ ⟨I.ok,I.os,I.bare,⟨λb o e n hb hx=>?_,λb o e n hb hx=>?_,I.base.free,λb o e hx=>?_,I.base.aal,I.base.aak,I.base.aar⟩,⟨_,Mr,λj y v' e1 e2 e3=>?_⟩,λy c e=>?_,I.free,I.aaj,λp hp=>?_,tracked ⟨oL,Zj,I.free⟩ hs,by simpa using I.len⟩ ⟨_,hs,.inl rfl⟩
  ·exact(hs.2 b (Nat.ne_of_lt (Nat.lt_of_lt_of_le (Heap.lt_size e) I.ok.above))).trans (I.base.keep b o e n hb hx)
  ·obtain⟨sl,e1⟩:=I.base.slot b o e n hb hx;exact⟨sl,(hs.2 b (Nat.ne_of_lt (Nat.lt_of_lt_of_le (Heap.lt_size e) I.ok.above))).trans e1⟩
  ·obtain⟨o',e1⟩:=I.base.there b o e hx;exact⟨o',(hs.2 b (Nat.ne_of_lt (Nat.lt_of_lt_of_le (Heap.lt_size e) I.ok.above))).trans e1⟩
  ·by_cases hj:j=i
   ·subst hj;rw[hi] at e1;cases e1;rw[List.getElem?_set_self Xa] at e2
    cases e2
    exact⟨u,r,.inl ⟨hk,by simp⟩⟩
   ·rw[List.getElem?_set_ne (Ne.symm hj)] at e2;obtain⟨u',r',q⟩:=hl j y v' e1 e2 e3;refine⟨u',r',?_⟩
    rcases q with⟨k,e⟩|⟨k,c,e,z⟩
    ·refine .inl ⟨k,?_⟩;have:y≠x:=λe=>hj (lJ hN e1 (e▸hi));simp[this,e]
    ·exact .inr ⟨k,c,e,z.sameBut hs (cne y c e)⟩
  ·obtain⟨w',z⟩:=I.cell y c e;exact⟨w',z.sameBut hs (cne y c e)⟩
  ·obtain⟨e,n,ne,nf,d⟩:=I.pin p hp;exact⟨(hs.2 p.1 ne).trans e,n,ne,nf,d⟩
 ·have S9:X.fn x=true:=by
   rcases hf with z|z
   ·exact z
   ·rw[z] at hk;cases hk
  obtain⟨c,hc⟩:=I.ok.has x (.inl hk);obtain⟨w',z⟩:=I.cell x c hc;refine wpAny_storeName_cell I.ok.kind hk hc z (λh' IE hs=>?_);obtain⟨oc,Xb,Ta⟩:=id z;refine h {s with heap:=h'} ⟨I.ok,I.os,I.bare,⟨λb o e n hb hx=>?_,λb o e n hb hx=>?_,I.base.free,λb o e hx=>?_,I.base.aal,I.base.aak,I.base.aar⟩,⟨m,hn.sameBut hs (Ne.symm (cne x c hc)),λj y v' e1 e2 e3=>?_⟩,λy c' e=>?_,I.free,I.aaj,λp hp=>?_,tracked ⟨oc,Xb,I.aaj x c hc⟩ hs,by simpa using I.len⟩ ⟨c,hs,.inr hc⟩
  ·exact(hs.2 b (Nat.ne_of_lt (Nat.lt_of_lt_of_le (Heap.lt_size e) (I.ok.cab x c S9 hc)))).trans (I.base.keep b o e n hb hx)
  ·obtain⟨sl,e1⟩:=I.base.slot b o e n hb hx;exact⟨sl,(hs.2 b (Nat.ne_of_lt (Nat.lt_of_lt_of_le (Heap.lt_size e) (I.ok.cab x c S9 hc)))).trans e1⟩
  ·obtain⟨o',e1⟩:=I.base.there b o e hx;exact⟨o',(hs.2 b (Nat.ne_of_lt (Nat.lt_of_lt_of_le (Heap.lt_size e) (I.ok.cab x c S9 hc)))).trans e1⟩
  ·by_cases hj:j=i
   ·subst hj;rw[hi] at e1;cases e1;rw[List.getElem?_set_self Xa] at e2
    cases e2
    exact⟨u,r,.inr ⟨.inl hk,c,hc,IE⟩⟩
   ·rw[List.getElem?_set_ne (Ne.symm hj)] at e2;obtain⟨u',r',q⟩:=hl j y v' e1 e2 e3;refine⟨u',r',?_⟩
    rcases q with q|⟨k,c',e,z'⟩
    ·exact .inl q
    ·refine .inr ⟨k,c',e,z'.sameBut hs ?_⟩;rintro rfl;exact hj (lJ hN e1 (I.ok.inj _ _ _ e hc▸hi))
  ·by_cases Xc:c'=c
   ·subst Xc;exact⟨_,IE⟩
   ·obtain⟨w2,z2⟩:=I.cell y c' e;exact⟨w2,z2.sameBut hs Xc⟩
  ·obtain⟨e,n,ne,nf,d⟩:=I.pin p hp;refine⟨(hs.2 p.1 ?_).trans e,n,ne,nf,d⟩;intro q;rw[q,Xb] at e;have q':oc=p.2:=Option.some.inj e;exact d w' (by rw[<-q'];exact Ta)
theorem gH {M:Model}{E:yj}{v:V}{Q:Unit->Shared->Prop}(I:Inv X pins σ H s)(hN:X.N.Nodup)(hi:X.N[i]?=some x)(hx:DY X.env.scope x)(r:aG v u)
 (h:∀s',Inv X pins (σ.set i (some v)) H s'->Q () s')(hf:X.fn x=true\/X.env.scope.names.lookup x=some .local:=by first|exact .inl rfl|exact .inr rfl|assumption):wpAny M A (storeName X.env x u) Q E s :=
 i9 I hN hi hx r (λs' I' _=>h s' I') hf
theorem Inv.abr {s':Dx}{ch:List Addr}(I:Inv X pins σ H s)(ho:s'.os=s.os)(u:Un (dU X.stack) ch H H' s.heap s'.heap)(hok:gf X.prog X.w H' s'.heap)(hg:AllBare s'.gens)
 (Ld:∀b∈ch,(b∈X.ex\/X.s₀.heap.objs.size<=b)/\b≠X.env.locals/\(∀x c,X.env.cells.lookup x=some c->c≠b)/\∀p∈X.pn++pins,p.1≠b):Inv X pins σ H' s':=by
 obtain⟨h',g',d',t',o'⟩:=s';have e:o'=s.os:=ho;subst e;exact I.call (g':=g') (t':=t') (d':=d') u hok hg Ld
end
abbrev XK:=Value->Option Addr->Hp->Prop
abbrev St:=List (Option V)
abbrev VK:=V->Hp->Prop
abbrev TE:=St->Hp->VK->Prop
abbrev TT:=St->Hp->(Bool->Hp->Prop)->Prop
abbrev TA:=St->Hp->(List V->Hp->Prop)->Prop
structure Ends where
 nx:St->Hp->Prop
 rt:VK
 bk:St->Hp->Prop:=λ_ _=>False
 ct:St->Hp->Prop:=λ_ _=>False
abbrev TS:=Ends->St->Hp->Prop
def EP (X:Cx)(pins:List (Addr×Obj))(σ:St)(Q:VK)(u:Value)(s':Dx):Prop:=∃v H',Inv X pins σ H' s'/\aG v u/\Q v H'
def TP (X:Cx)(pins:List (Addr×Obj))(σ:St)(Q:Bool->Hp->Prop)(b:Bool)(s':Dx):Prop:=∃H',Inv X pins σ H' s'/\Q b H'
def AP (X:Cx)(pins:List (Addr×Obj))(σ:St)(Q:List V->Hp->Prop)(us:oH)(s':Dx):Prop:=∃vs H',Inv X pins σ H' s'/\aM vs us/\Q vs H'
def SP (X:Cx)(pins:List (Addr×Obj))(D:Ends)(f:Flow)(s':Dx):Prop :=
 match f with
 | .next=>∃σ' H',Inv X pins σ' H' s'/\D.nx σ' H'
 | .brk=>∃σ' H',Inv X pins σ' H' s'/\D.bk σ' H'
 | .cont=>∃σ' H',Inv X pins σ' H' s'/\D.ct σ' H'
 | .ret u=>∃v σ' H',Inv X pins σ' H' s'/\aG v u/\D.rt v H'
def PE (X:Cx)(e:Expr)(t:TE):Prop :=
 ∀(pins:List (Addr×Obj))(s:Dx)(σ:St)(H:Hp)(Q:VK),Inv X pins σ H s->t σ H Q->wpAny (model X.prog X.w) X.A (eval e X.env) (EP X pins σ Q) X.xe s
def PT (X:Cx)(e:Expr)(t:TT):Prop :=
 ∀(pins:List (Addr×Obj))(s:Dx)(σ:St)(H:Hp)(Q:Bool->Hp->Prop),Inv X pins σ H s->t σ H Q->wpAny (model X.prog X.w) X.A (isTrue e X.env (eval e X.env)) (TP X pins σ Q) X.xe s
def PW (X:Cx)(e:Expr)(t:TT):Prop :=
 ∀(dz:Sem Value)(pins:List (Addr×Obj))(s:Dx)(σ:St)(H:Hp)(Q:Bool->Hp->Prop),Inv X pins σ H s->t σ H Q->wpAny (model X.prog X.w) X.A (isTrue e X.env dz) (TP X pins σ Q) X.xe s
variable {X:Cx}{e:Expr}
theorem PW.pt {t:TT}(h:PW X e t):PT X e t:=h _
def PA (X:Cx)(es:De)(t:TA):Prop :=
 ∀(pos:Pos)(pins:List (Addr×Obj))(s:Dx)(σ:St)(H:Hp)(Q:List V->Hp->Prop),Inv X pins σ H s->t σ H Q->wpAny (model X.prog X.w) X.A (spliced (backTo pos (starEach es X.env))) (AP X pins σ Q) X.xe s
def PS (X:Cx)(st:Stmt)(t:TS):Prop :=
 ∀(pins:List (Addr×Obj))(s:Dx)(σ:St)(H:Hp)(D:Ends),Inv X pins σ H s->t D σ H->wpAny (model X.prog X.w) X.A (exec st X.env) (SP X pins D) X.xe s
def oV (X:Cx)(st:List Stmt)(t:TS):Prop :=
 ∀(pins:List (Addr×Obj))(s:Dx)(σ:St)(H:Hp)(D:Ends),Inv X pins σ H s->t D σ H->wpAny (model X.prog X.w) X.A (execs st X.env) (SP X pins D) X.xe s
variable {s:Dx}
theorem bK {α:Type}{t:Sem α}{Q Q':α->Shared->Prop}{E:yj}(h:wpAny M A t Q E s)(hQ:∀a s,Q a s->Q' a s):wpAny M A t Q' E s:=wpAny_mono h hQ λ_ _ x=>x
variable {pins:List (Addr×Obj)}{σ:St}{op:CmpOp}
section
variable {X:Cx}
def eP (i:Nat):TE:=λσ H Q=>∃v,σ[i]?=some (some v)/\Q v H
def tC (v:V):TE:=λ_ H Q=>Q v H
theorem aaF {pos:Pos}(hN:X.N[i]?=some x)(hv:FD X.env.scope x)(hd:(x==("__debug__":Str))=false:=by decide)(Jp:(x==("__classdict__":Str))=false:=by decide):PE X (.Name x pos) (eP i):=by
 intro pins s σ H Q I h;obtain⟨v,e,h⟩:=h;obtain⟨m,hn,hl⟩:=I.loc;obtain⟨u,r,l⟩:=hl i x v hN e hv;have fin:EP X pins σ Q u s:=⟨v,H,I,r,h⟩
 rcases l with⟨hk,hm⟩|⟨hk,c,hc,Jw⟩
 ·exact wpAny_Name (wpAny_loadName_local I.ok.kind hk hn hm fin) hd
 ·rcases hk with hk|hk
  ·exact wpAny_Name (wpAny_loadName_cell I.ok.kind hk hc Jw fin) hd
  ·exact wpAny_Name (wpAny_loadName_free I.ok.kind hk hc Jw fin Jp) hd
theorem au {i j pos}:PE X (.Constant (.int i) j pos) (tC (.int i)):=λ_ _ _ H _ I h=>wpAny_Constant_int ⟨.int i,H,I.tok _,⟨_,rfl⟩,h⟩
theorem dh {b j pos}:PE X (.Constant (.bool b) j pos) (tC (.bl b)):=λ_ _ _ H _ I h=>Constant_bool ⟨.bl b,H,I,rfl,h⟩
theorem lK {j pos}:PE X (.Constant .none j pos) (tC .non):=λ_ _ _ H _ I h=>Constant_none ⟨.non,H,I,rfl,h⟩
theorem fN {x j pos}:PE X (.Constant (.str x) j pos) (tC (.str x)):=λ_ _ _ H _ I h=>Calls.Constant_str ⟨.str x,H,I.tok _,⟨_,rfl⟩,h⟩
def Gl (X:Cx)(x:Str):Prop:=X.env.kindOf x=some .globalImplicit
theorem fR {E:yj}{pos:Pos}{Q:yj}(I:Inv X pins σ H s)(hg:Gl X x)(hm:X.mg x=some u)(h:Q u s)
 (hd:(x==("__debug__":Str))=false:=by decide):wpAny (model X.prog X.w) X.A (eval (.Name x pos) X.env) Q E s :=
 Calls.Name_function_global I.ok.kind hg (Calls.loadGlobal_global (by rw[I.ok.glob];exact I.mod.glob.keeps I.bk) hm h) hd
theorem cN {E:yj}{pos:Pos}{Q:yj}(I:Inv X pins σ H s)(hg:Gl X x)(hm:X.mg x=none)(hv:bootBuiltins x=some u)(h:Q u s)
 (hn:x ≠ "__name__":=by decide)(hd:(x==("__debug__":Str))=false:=by decide):wpAny (model X.prog X.w) X.A (eval (.Name x pos) X.env) Q E s:=by
 obtain⟨mb,h1,h2⟩:=I.mod.blt;exact Calls.Name_function_global I.ok.kind hg (Calls.loadGlobal_builtin (by rw[I.ok.glob];exact I.mod.glob.keeps I.bk) hm (by rw[I.ok.blt];exact h1.keeps I.bk) ((h2 x hn).trans hv) h) hd
theorem bX {v:V}{pos:Pos}(hg:Gl X x)(hm:X.mg x=some u)(r:aG v u)(hd:(x==("__debug__":Str))=false:=by decide):PE X (.Name x pos) (tC v):=
 λ_ _ _ H _ I h=>fR I hg hm ⟨v,H,I,r,h⟩ hd
theorem c6 {v:V}{pos:Pos}(hg:Gl X x)(hm:X.mg x=none)(hv:bootBuiltins x=some u)(r:aG v u)(hn:x ≠ "__name__":=by decide)(hd:(x==("__debug__":Str))=false:=by decide):PE X (.Name x pos) (tC v):=
 λ_ _ _ H _ I h=>cN I hg hm hv ⟨v,H,I,r,h⟩ hn hd
variable {a b:Expr}{ta tb:TE}{pos:Pos}
def PC (X:Cx)(op:CmpOp)(a b:Expr)(t:TE):Prop :=
 ∀(pins:List (Addr×Obj))(s:Dx)(σ:St)(H:Hp)(Q:VK),Inv X pins σ H s->t σ H Q →
  wpAny (model X.prog X.w) X.A (eval a X.env) (λv s₁=>wpAny (model X.prog X.w) X.A (eval b X.env) (λu s₂=>wpAny (model X.prog X.w) X.A (compareOp op v u) (EP X pins σ Q) X.xe s₂) X.xe s₁) X.xe s
def tB (t:TE):TT:=λσ H Q=>t σ H λx H1=>∃c,x=.bl c/\Q c H1
theorem abA {t:TE}(h:PC X op a b t)(h1:behindInMarks op b=false:=by first|exact N4 _ (by decide) (by decide)|rfl):PT X (.Compare a [op] [b] pos) (tB t):=by
 intro pins s σ H Q I hw;refine wpAny_isTrue_Compare1 (bK (h pins s σ H _ I hw) λv s1 h1=>bK h1 λu s2 h2=>bK h2 λc s3 z'=>?_) h1;obtain⟨x,H1,I1,r1,q1⟩:=z';obtain⟨d,rfl,q⟩:=q1
 cases r1
 exact wpAny_truthy_bool ⟨H1,I1,q⟩
theorem bF {t:TE}(h:PE X e t)(he:∀dz,isTrue e X.env dz=(do let v <-dz;standAt e.pos;holding [v] (truthy v)):=by intro _;rfl):PT X e (tB t):=by
 intro pins s σ H Q I hw;refine isTrue_plain (bK (h pins s σ H _ I hw) λv s1 z'=>?_) (he _);obtain⟨x,H1,I1,r1,q1⟩:=z';obtain⟨d,rfl,q⟩:=q1
 cases r1
 exact wpAny_truthy_bool ⟨H1,I1,q⟩
variable {tA So:TT}{rest:De}
def isI (t u:TT):TT:=λσ H Q=>t σ H λc H1=>if c=true then u σ H1 Q else Q false H1
def Cls (t u:TT):TT:=λσ H Q=>t σ H λc H1=>if c=true then Q true H1 else u σ H1 Q
def CXT (t:TT):TT:=λσ H Q=>t σ H λc H1=>Q (!c) H1
theorem jS (ha:PT X a tA):PW X (.BoolOp .And [a] pos) tA:=by
 intro wh pins s σ H Q I h;refine isTrue_and (bK (ha pins s σ H Q I h) λc s1 e=>?_)
 cases c with
 |true=>exact isTrue_and_nil e
 |false=>exact e
theorem dw (ha:PT X a tA):PW X (.BoolOp .Or [a] pos) tA:=by
 intro wh pins s σ H Q I h;refine isTrue_or (bK (ha pins s σ H Q I h) λc s1 e=>?_)
 cases c with
 |false=>exact isTrue_or_nil e
 |true=>exact e
theorem n4 (ha:PT X a tA)(hb:PW X (.BoolOp .And (b::rest) pos) So):PW X (.BoolOp .And (a::b::rest) pos) (isI tA So):=by
 intro wh pins s σ H Q I h;refine isTrue_and (bK (ha pins s σ H _ I h) λc s1 z'=>?_);obtain⟨H1,I1,q1⟩:=z'
 cases c with
 |true=>exact hb wh pins s1 σ H1 Q I1 q1
 |false=>exact⟨H1,I1,q1⟩
theorem d0 (ha:PT X a tA)(hb:PW X (.BoolOp .Or (b::rest) pos) So):PW X (.BoolOp .Or (a::b::rest) pos) (Cls tA So):=by
 intro wh pins s σ H Q I h;refine isTrue_or (bK (ha pins s σ H _ I h) λc s1 z'=>?_);obtain⟨H1,I1,q1⟩:=z'
 cases c with
 |true=>exact⟨H1,I1,q1⟩
 |false=>exact hb wh pins s1 σ H1 Q I1 q1
theorem bJ (ha:PT X a tA):PT X (.UnaryOp .Not a pos) (CXT tA):=by
 intro pins s σ H Q I h;exact isTrue_not (ha pins s σ H (λc H1=>Q (!c) H1) I h)
def aaG (ta tb:TE):TE:=λσ H Q=>ta σ H λx H1=>∃c,x=.bl c/\if c=true then tb σ H1 Q else Q (.bl false) H1
def aan (ta tb:TE):TE:=λσ H Q=>ta σ H λx H1=>∃c,x=.bl c/\if c=true then Q (.bl true) H1 else tb σ H1 Q
def abD (ta:TE):TE:=λσ H Q=>ta σ H λx H1=>∃c,x=.bl c/\Q (.bl (!c)) H1
theorem eV {op}{t:TE}(h:PE X a t):PE X (.BoolOp op [a] pos) t:=λpins s σ H Q I hw=>BoolOp_one (h pins s σ H Q I hw)
theorem dC (ha:PE X a ta)(hb:PE X (.BoolOp .And (b::rest) pos) tb):PE X (.BoolOp .And (a::b::rest) pos) (aaG ta tb):=by
 intro pins s σ H Q I h;refine BoolOp_and (bK (ha pins s σ H _ I h) λv s1 z'=>?_);obtain⟨x,H1,I1,r1,q1⟩:=z';obtain⟨c,rfl,q1⟩:=q1
 cases r1
 refine wpAny_truthy_bool ?_
 cases c with
 |true=>exact hb pins s1 σ H1 Q I1 q1
 |false=>exact⟨.bl false,H1,I1,rfl,q1⟩
theorem abE (ha:PE X a ta)(hb:PE X (.BoolOp .Or (b::rest) pos) tb):PE X (.BoolOp .Or (a::b::rest) pos) (aan ta tb):=by
 intro pins s σ H Q I h;refine BoolOp_or (bK (ha pins s σ H _ I h) λv s1 z'=>?_);obtain⟨x,H1,I1,r1,q1⟩:=z';obtain⟨c,rfl,q1⟩:=q1
 cases r1
 refine wpAny_truthy_bool ?_
 cases c with
 |false=>exact hb pins s1 σ H1 Q I1 q1
 |true=>exact⟨.bl true,H1,I1,rfl,q1⟩
theorem yT (ha:PE X a ta):PE X (.UnaryOp .Not a pos) (abD ta):=by
 intro pins s σ H Q I h;refine UnaryOp_ (bK (ha pins s σ H _ I h) λv s1 z'=>?_);obtain⟨x,H1,I1,r1,q1⟩:=z';obtain⟨c,rfl,q1⟩:=q1
 cases r1
 exact not_of (wpAny_truthy_bool ⟨.bl (!c),H1,I1,rfl,q1⟩)
end
def bo (K:PySem.W.Frag)(H:Hp)(a:Addr)(xs:List V):Prop :=
 Rd H a (.lst xs) \/
  ∃(o:Obj)(its:GV)(n:Nat),K.lookup a=some o/\o.cls=.type "list"/\o.dict=none/\o.data=.seq its n/\its.size<=sizeLine/\aM xs its.toList
def br (K:PySem.W.Frag)(H:Hp)(a:Addr)(xs:List V):Prop :=
 Rd H a (.tup xs) \/
  ∃(o:Obj)(its:GV)(n:Nat),K.lookup a=some o/\o.cls=.type "tuple"/\o.data=.seq its n/\its.size<=sizeLine/\aM xs its.toList
def aaI:Value->Option V
 | .none=>some .non
 | .bool b=>some (.bl b)
 | .int i _=>some (.int i)
 | .str x _=>some (.str x)
 | .bytes b _=>some (.byt b)
 | .float b _=>some (.flt b)
 | .ref a=>some (.ref a)
 | .type n=>some (.ty n)
 |_=>none
theorem aG.abs {x:V}(r:aG x u):aaI u=some x:=by
 cases x with
 |non=>cases r;rfl
 |bl _=>cases r;rfl
 |int _=>obtain⟨t,rfl⟩:=r;rfl
 |str _=>obtain⟨t,rfl⟩:=r;rfl
 |byt _=>obtain⟨t,rfl⟩:=r;rfl
 |flt _=>obtain⟨t,rfl⟩:=r;rfl
 |ref _=>cases r;rfl
 |ty _=>cases r;rfl
variable {y:V}
theorem aG.inj {x:V}(r:aG x u)(q:aG y u):x=y:=Option.some.inj (r.abs.symm.trans q.abs)
theorem aM.inj:∀{xs ys:List V}{us:oH},aM xs us->aM ys us->xs=ys
 |_,_,_,.nil,.nil=>rfl
 |_,_,_,.cons r t,.cons r' t'=>by rw[r.inj r',aM.inj t t']
variable {K:PySem.W.Frag}
section
variable {X:Cx}{pins:List (Addr×Obj)}{σ:St}{H:Hp}{s:Dx}{a:Addr}{xs ys:List V}
theorem bo.of (h:H a=some (.lst xs)):bo K H a xs:=.inl (.inl h)
theorem br.of (h:H a=some (.tup xs)):br K H a xs:=.inl (.inl h)
theorem Inv.list (I:Inv X pins σ H s)(h:bo X.K H a xs):∃its:List Value,aM xs its/\PlainL s.heap a its.toArray/\xs.length<=sizeLine:=by
 rcases h with h|⟨o,its,n,hk,hc,hd,hs,hz,r⟩
 ·obtain⟨z,its,n,r,e⟩:=h.ok I.hok;exact⟨its,r,⟨_,n,e,rfl,rfl,rfl⟩,z⟩
 ·refine⟨its.toList,r,⟨o,n,I.kIn a o hk,hc,hd,by simpa using hs⟩,?_⟩;have e:=r.length;simp only[Array.length_toList] at e;omega
theorem Inv.tuple (I:Inv X pins σ H s)(h:br X.K H a xs):∃its:List Value,aM xs its/\IsTup s.heap a its.toArray/\xs.length<=sizeLine:=by
 rcases h with h|⟨o,its,n,hk,hc,hs,hz,r⟩
 ·obtain⟨z,its,r,p⟩:=h.ok I.hok;exact⟨its,r,p,z⟩
 ·refine⟨its.toList,r,⟨o,I.kIn a o hk,hc,n,by simpa using hs⟩,?_⟩;have e:=r.length;simp only[Array.length_toList] at e;omega
theorem Inv.aay (I:Inv X pins σ H s)(h:bo X.K H a xs)(h':bo X.K H a ys):xs=ys:=by
 obtain⟨its,r,⟨o,n,e,_,_,d⟩,_⟩:=I.list h;obtain⟨its',r',⟨o',n',e',_,_,d'⟩,_⟩:=I.list h';rw[e] at e';cases e';rw[d] at d'
 injection d' with d1 _
 have:its=its':=by simpa using congrArg Array.toList d1
 subst this;exact r.inj r'
theorem Inv.aaE (I:Inv X pins σ H s)(h:br X.K H a xs)(h':br X.K H a ys):xs=ys:=by
 obtain⟨its,r,⟨o,e,_,n,d⟩,_⟩:=I.tuple h;obtain⟨its',r',⟨o',e',_,n',d'⟩,_⟩:=I.tuple h';rw[e] at e';cases e';rw[d] at d'
 injection d' with d1 _
 have:its=its':=by simpa using congrArg Array.toList d1
 subst this;exact r.inj r'
end
abbrev Cx.aaV (X:Cx)(E:yj):Cx:={X with xe:=E}
abbrev Cx.nox (X:Cx):Cx:=X.aaV λ_ _=>False
theorem Cx.Ok.aaV (ok:X.Ok)(E:yj):(X.aaV E).Ok :=
 ⟨ok.mod,ok.kind,ok.glob,ok.blt,ok.above,ok.inj,ok.has,ok.cab,ok.hd,ok.frames,ok.stk,ok.exf,ok.bs,ok.bsz,ok.aa0,ok.abb,ok.aau,ok.frf⟩
theorem Cx.Ok.aaz {E:yj}(ok:(X.aaV E).Ok):X.Ok :=
 ⟨ok.mod,ok.kind,ok.glob,ok.blt,ok.above,ok.inj,ok.has,ok.cab,ok.hd,ok.frames,ok.stk,ok.exf,ok.bs,ok.bsz,ok.aa0,ok.abb,ok.aau,ok.frf⟩
section
variable {X:Cx}{pins:List (Addr×Obj)}{σ:St}{H:Hp}{s:Dx}{E:yj}
theorem Inv.aaV (I:Inv X pins σ H s)(E:yj):Inv (X.aaV E) pins σ H s:=⟨I.ok.aaV E,I.os,I.bare,I.base,I.loc,I.cell,I.free,I.aaj,I.pin,I.hok,I.len⟩
theorem Inv.aaz (I:Inv (X.aaV E) pins σ H s):Inv X pins σ H s:=⟨I.ok.aaz,I.os,I.bare,I.base,I.loc,I.cell,I.free,I.aaj,I.pin,I.hok,I.len⟩
theorem SP.aaz {D:Ends}{f:Flow}{s':Dx}(h:SP (X.aaV E) pins D f s'):SP X pins D f s':=by
 cases f with
 |next=>obtain⟨σ',H',I,q⟩:=h;exact⟨σ',H',I.aaz,q⟩
 |brk=>obtain⟨σ',H',I,q⟩:=h;exact⟨σ',H',I.aaz,q⟩
 |cont=>obtain⟨σ',H',I,q⟩:=h;exact⟨σ',H',I.aaz,q⟩
 |ret u=>obtain⟨v,σ',H',I,r,q⟩:=h;exact⟨v,σ',H',I.aaz,r,q⟩
theorem oV.nox {st:List Stmt}{t:TS}(h:oV X.nox st t):oV X st t:=λpins s σ H D I hw =>
 wpAny_mono (h pins s σ H D (I.aaV _) hw) (λ_ _ q=>q.aaz) λ_ _ z=>False.elim z
end
section
variable {X:Cx}{st:Stmt}{rest:List Stmt}{t u:TS}{e:Expr}{te:TE}{pos:Pos}
def yJ:TS:=λD σ H=>D.nx σ H
def Di (t u:TS):TS:=λD σ H=>t {D with nx:=u D} σ H
theorem aF:oV X [] yJ:=λ_ _ σ H _ I h=>wpAny_execs_nil ⟨σ,H,I,h⟩
theorem ak (h1:PS X st t)(h2:oV X rest u):oV X (st::rest) (Di t u):=by
 intro pins s σ H D I h;refine wpAny_execs_cons (bK (h1 pins s σ H {D with nx:=u D} I h) λf s1 q=>?_)
 cases f with
 |next =>
  obtain⟨σ',H',I',q⟩:=q;exact h2 pins s1 σ' H' D I' q
 |ret v=>exact q
 |brk=>exact q
 |cont=>exact q
theorem aq (h1:PS X st t):oV X [st] t:=by
 intro pins s σ H D I h;refine wpAny_execs_cons (bK (h1 pins s σ H D I h) λf s1 q=>?_)
 cases f with
 |next=>exact wpAny_execs_nil q
 |ret v=>exact q
 |brk=>exact q
 |cont=>exact q
theorem Inv.quiet (I:Inv X pins σ H s):interactive X.env=false:=by simp[interactive,I.ok.kind]
def aaK (te:TE):TS:=λD σ H=>te σ H λ_ H1=>D.nx σ H1
theorem eK (he:PE X e te)(hs:swapsWith e none pos.line X.env=pure false:=by rfl):PS X (.Expr e pos) (aaK te):=by
 intro pins s σ H D I h;exact wpAny_Expr_any (bK (he pins s σ H _ I h) λv s1 ⟨x,H1,I1,r1,q1⟩=>⟨σ,H1,I1,q1⟩) I.quiet hs
def Eg (te:TE):TS:=λD σ H=>te σ H D.rt
theorem az (he:PE X e te):PS X (.Return (some e) pos) (Eg te):=by
 intro pins s σ H D I h;exact wpAny_Return_some (bK (he pins s σ H _ I h) λv s1 ⟨x,H1,I1,r1,q1⟩=>⟨x,σ,H1,I1,r1,q1⟩)
def Ee (c:TT)(t u:TS):TS:=λD σ H=>c σ H λb H1=>if b=true then t D σ H1 else u D σ H1
theorem a9 {c:Expr}{a b:List Stmt}{tc:TT}(hc:PT X c tc)(ha:oV X a t)(hb:oV X b u):PS X (.If c a b pos) (Ee tc t u):=by
 intro pins s σ H D I h;refine wpAny_If (bK (hc pins s σ H _ I h) λd s1 z'=>?_);obtain⟨H1,I1,q1⟩:=z'
 cases d with
 |true=>exact ha pins s1 σ H1 D I1 q1
 |false=>exact hb pins s1 σ H1 D I1 q1
def abP:TS:=λ_ _ _=>False
theorem ql:PS X st abP:=λ_ _ _ _ _ _ h=>h.elim
end
abbrev TG:=V->St->Hp->(St->Hp->Prop)->Prop
abbrev Fi:=List V->St->Hp->(St->Hp->Prop)->Prop
def PG (X:Cx)(target:Expr)(t:TG):Prop :=
 ∀(pins:List (Addr×Obj))(s:Dx)(σ:St)(H:Hp)(v:V)(u:Value)(Q:St->Hp->Prop),Inv X pins σ H s->aG v u->t v σ H Q →
  wpAny (model X.prog X.w) X.A (assign target X.env u) (λ_ s'=>∃σ' H',Inv X pins σ' H' s'/\Q σ' H') X.xe s
def F4 (X:Cx)(ts:De)(t:Fi):Prop :=
 ∀(pins:List (Addr×Obj))(s:Dx)(σ:St)(H:Hp)(vs:List V)(us:oH)(Q:St->Hp->Prop),Inv X pins σ H s->aM vs us->t vs σ H Q →
  wpAny (model X.prog X.w) X.A (assignInOrder ((assignEach ts X.env).map (·.2)) us) (λ_ s'=>∃σ' H',Inv X pins σ' H' s'/\Q σ' H') X.xe s
abbrev DN:=V->V->V->Hp->(Hp->Prop)->Prop
def D9 (X:Cx)(t:DN):Prop :=
 ∀(pins:List (Addr×Obj))(s:Dx)(σ:St)(H:Hp)(o i v:V)(ov iv u:Value)(Q:Hp->Prop),Inv X pins σ H s->aG o ov->aG i iv->aG v u->t o i v H Q →
  wpAny (model X.prog X.w) X.A (setItem ov iv u) (λ_ s'=>∃H',Inv X pins σ H' s'/\Q H') X.xe s
variable {k:Nat}{g:TG}{ta:TA}{body:List Stmt}{tb:TS}
section
variable {X:Cx}{pos:Pos}
def cb (i:Nat):TG:=λv σ H Q=>Q (σ.set i (some v)) H
theorem aE {i:Nat}(hN:X.N.Nodup)(hi:X.N[i]?=some x)(hx:DY X.env.scope x)(hf:X.fn x=true\/X.env.scope.names.lookup x=some .local:=by first|exact .inl rfl|exact .inr rfl|assumption):PG X (.Name x pos) (cb i):=by
 intro pins s σ H v u Q I r h;exact wpAny_assign_Name (gH I hN hi hx r (λs' I'=>⟨_,H,I',h⟩) hf)
def FY:Fi:=λvs σ H Q=>vs=[]/\Q σ H
def dN (t:TG)(u:Fi):Fi:=λvs σ H Q=>∃v r,vs=v::r/\t v σ H λσ' H'=>u r σ' H' Q
theorem cy:F4 X [] FY:=by
 intro pins s σ H vs us Q I r h;obtain⟨e,h⟩:=h;subst e
 cases r
 exact assignInOrder_nil ⟨σ,H,I,h⟩
theorem aR {es:De}{t:TG}{u:Fi}(h1:PG X e t)(h2:F4 X es u)
 (hs:(assignEach (e::es) X.env).map (·.2)=assign e X.env::(assignEach es X.env).map (·.2):=by rfl):F4 X (e::es) (dN t u):=by
 intro pins s σ H vs us Q I r h;obtain⟨v,vr,e1,h⟩:=h;subst e1
 cases r with
 |cons r rr =>
  rw[hs];refine assignInOrder_cons (bK (h1 pins s σ H _ _ _ I r h) λ_ s1 z'=>?_);obtain⟨σ1,H1,I1,q1⟩:=z';exact h2 pins s1 σ1 H1 _ _ Q I1 rr q1
def og (K:PySem.W.Frag)(n:Nat)(t:Fi):TG:=λv σ H Q=>∃a xs,v=.ref a/\br K H a xs/\xs.length=n/\t xs σ H Q
theorem de {es:De}{t:Fi}{n:Nat}(hc:X.calm=true)(h:F4 X es t)
 (hn:(assignEach es X.env).length=n:=by rfl)(Le:(assignEach es X.env).findIdx? (·.1)=none:=by rfl):PG X (.Tuple es k pos) (og X.K n t):=by
 intro pins s σ H v u Q I r hw;obtain⟨a,xs,e1,hq,hl,hw⟩:=hw;subst e1
 cases r
 obtain⟨its,rv,ht,hz⟩:=I.tuple hq;refine assign_Tuple_tuple (I.ok.hd hc) ht (by simp[hn,<-hl,rv.length]) Le λh' hx=>?_;have I1:Inv X pins σ H {s with heap:=h'}:=I.kept (t':=s.toks) λb o e=>hx b o (Nat.ne_of_lt (Heap.lt_size e)) e;exact h pins _ σ H xs _ Q I1 (by simpa using rv) hw
def aaN (to ti:TE)(t:DN):TG:=λv σ H Q=>to σ H λo H1=>ti σ H1 λi H2=>t o i v H2 λH3=>Q σ H3
theorem zm {o i:Expr}{to ti:TE}{t:DN}(ho:PE X o to)(hi:PE X i ti)(hs:D9 X t)
 (ha:∀v,assign (.Subscript o i pos) X.env v=(do
  let ov <-holding [v] (eval o X.env)
  let iv <-holding [v,ov] (eval i X.env)
  standAt pos
  holding [v,ov,iv] (setItem ov iv v)
  release [v,ov,iv] []):=by intro _;rfl):PG X (.Subscript o i pos) (aaN to ti t):=by
 intro pins s σ H v u Q I r h;rw[ha];refine wpAny_bind (wpAny_holding (bK (ho pins s σ H _ I h) λov s1 z'=>?_));obtain⟨x,H1,I1,r1,q1⟩:=z';refine wpAny_bind (wpAny_holding (bK (hi pins s1 σ H1 _ I1 q1) λiv s2 z'=>?_));obtain⟨y,H2,I2,r2,q2⟩:=z';refine wpAny_bind (wpAny_standAt (wpAny_bind (wpAny_holding (bK (hs pins s2 σ H2 x y v ov iv u _ I2 r1 r2 r q2) λ_ s3 z'=>?_))));obtain⟨H3,I3,q3⟩:=z';exact wpAny_release ⟨σ,H3,I3,q3⟩
def rp (te:TE)(g:TG):TS:=λD σ H=>te σ H λx H1=>g x σ H1 D.nx
theorem rm {tg:Expr}{te:TE}(he:PE X e te)(hg:PG X tg g)(hs:swapsWithSole [tg] e pos.line X.env=pure false:=by rfl)(hw:swappedStores [tg] e X.env=pure none:=by rfl)
 (h1:(assignEach [tg] X.env).map (·.2)=[assign tg X.env]:=by rfl):PS X (.Assign [tg] e pos) (rp te g):=by
 intro pins s σ H D I h;refine wpAny_Assign_stores (bK (he pins s σ H _ I h) λv s1 z'=>?_) hs hw;obtain⟨x,H1,I1,r1,q1⟩:=z';rw[h1];exact bK (hg pins s1 σ H1 x v _ I1 r1 q1) λ_ s2 q=>q
theorem aV {i:Nat}{x:Str}{e:Expr}{te:TE}{pos':Pos}(hN:X.N.Nodup)(hi:X.N[i]?=some x)(hx:DY X.env.scope x)(he:PE X e te)(hs:swapsWith e (some (.Name x pos')) pos.line X.env=pure false:=by rfl)(hf:X.fn x=true\/X.env.scope.names.lookup x=some .local:=by first|exact .inl rfl|exact .inr rfl|assumption):
 PS X (.Assign [.Name x pos'] e pos) (rp te (cb i)):=by
 intro pins s σ H D I h;refine wpAny_Assign_Name (bK (he pins s σ H _ I h) λv s1 z'=>?_) hs;obtain⟨y,H1,I1,r1,q1⟩:=z';exact gH I1 hN hi hx r1 (λs2 I2=>⟨_,H1,I2,q1⟩) hf
def aag (i j:Nat)(ta:TA):TS:=λD σ H=>ta σ H λvs H1=>∃v w,vs=[v,w]/\D.nx ((σ.set i (some v)).set j (some w)) H1
theorem iW {i j:Nat}{y:Str}{a b:Expr}{px py pt:Pos} {kt k2 Tb}(hc:X.calm=true)(hN:X.N.Nodup)(hi:X.N[i]?=some x)(hj:X.N[j]?=some y)(J1:i≠j)
 (hx:X.env.scope.names.lookup x=some .local)(hy:X.env.scope.names.lookup y=some .local)(ha:PA X [a,b] ta)
 (hw:swappedStores [.Tuple [.Name x px,.Name y py] kt pt] (.Tuple [a,b] k2 Tb) X.env=pure (some [x,y]))
 (hs:swapsWithSole [.Tuple [.Name x px,.Name y py] kt pt] (.Tuple [a,b] k2 Tb) pos.line X.env=pure false:=by rfl):
 PS X (.Assign [.Tuple [.Name x px,.Name y py] kt pt] (.Tuple [a,b] k2 Tb) pos) (aag i j ta):=by
 intro pins s σ H D I h;rw[exec_Assign_arm];refine wpAny_bind (wpAny_standAt ?_);rw[hs];refine wpAny_bind (wpAny_pure ?_);rw[if_neg (by decide)];refine wpAny_bind (Tuple_ (bK (ha _ pins s σ H _ I h) λus s1 z'=>?_));obtain⟨vs,H1,I1,r1,q1⟩:=z';obtain⟨v,w,e1,q1⟩:=q1;subst e1
 obtain⟨u1,u2,rfl,rv,Jg⟩:∃u1 u2,us=[u1,u2]/\aG v u1/\aG w u2:=by
  cases r1 with
  |cons p q =>
   cases q with
   |cons p' q' =>
    cases q'
    exact⟨_,_,rfl,p,p'⟩
 refine wpAny_newObj_type ?_ iT;have I2:Inv X pins σ H1 {s1 with heap:=s1.heap.push {cls:=.type "tuple",data:=.seq [u1,u2].toArray} }:=I1.kept (t':=s1.toks) λb o e=>Heap.get?_push_of_some _ e;rw[hw];refine wpAny_bind (wpAny_pure ?_);show wpAny (model X.prog X.w) X.A (do rule "assign.swapped-stores";let items <-unpackItems (.ref s1.heap.objs.size) 2 none;assignInOrder [λv=>bindName X.env y v,λv=>bindName X.env x v] items.reverse;pure Flow.next) _ _ _;refine wpAny_bind (wpAny_rule (wpAny_bind (unpackItems_tuple (items:=#[u1,u2]) (I.ok.hd hc) (IsTup.new s1.heap _) λh' Sq=>?_)));have I3:=I2.kept (h':=h') (t':=s1.toks) λb o e=>Sq b o (Nat.ne_of_lt (Heap.lt_size e)) e;show wpAny _ _ (assignInOrder [λv=>bindName X.env y v,λv=>bindName X.env x v] [u2,u1]>>=λ_=>pure Flow.next) _ _ _;refine wpAny_bind (assignInOrder_cons (wpAny_bindName (gH I3 hN hj (.inl hy) Jg (λs2 I4=>?_) (.inr hy))));refine assignInOrder_cons (wpAny_bindName (gH I4 hN hi (.inl hx) rv (λs3 I5=>assignInOrder_nil (wpAny_pure ?_)) (.inr hx)));rw[List.set_comm _ _ (Ne.symm J1)] at I5;exact⟨_,H1,I5,q1⟩
def aaP (c:TT)(tb:TS):TS:=λD σ H=>∃W:Nat->St->Hp->Prop,(∃m,W m σ H)/\∀m σ H,W m σ H →
 c σ H λb H1=>if b=true then ∃N:St->Hp->Prop,(∀σ' H',N σ' H'->∃m',m'<m/\W m' σ' H')/\tb {D with nx:=N,ct:=N,bk:=D.nx} σ H1 else D.nx σ H1
theorem lH {c:Expr}{tc:TT}(hp:PassesOwn (model X.prog X.w) X.A X.env X.xe)(hc:PT X c tc)(hb:oV X body tb):PS X (.While c body [] pos) (aaP tc tb):=by
 intro pins s σ H D I h;obtain⟨W,⟨m0,w0⟩,turn⟩:=h;refine wpAny_While (codeAny_whileLoop (λn s'=>∃σ' H',Inv X pins σ' H' s'/\W n σ' H') ?_ m0 ⟨σ,H,I,w0⟩);rintro n s1 ⟨σ1,H1,I1,w1⟩;refine wpAny_passesOwn hp (bK (hc pins s1 σ1 H1 _ I1 (turn n σ1 H1 w1)) λb s2 z'=>?_);obtain⟨H2,I2,q2⟩:=z'
 cases b with
 |true =>
  obtain⟨N,hN,q2⟩:=q2;rw[if_pos rfl];refine wpAny_passesOwn hp (bK (hb pins s2 σ1 H2 _ I2 q2) λf s3 q3=>?_)
  cases f with
  |next =>
   obtain⟨σ3,H3,I3,n3⟩:=q3;obtain⟨m',hm,w3⟩:=hN σ3 H3 n3;exact⟨m',hm,σ3,H3,I3,w3⟩
  |cont =>
   obtain⟨σ3,H3,I3,n3⟩:=q3;obtain⟨m',hm,w3⟩:=hN σ3 H3 n3;exact⟨m',hm,σ3,H3,I3,w3⟩
  |brk=>exact q3
  |ret v=>exact q3
 |false =>
  rw[if_neg Bool.false_ne_true];exact wpAny_execs_nil ⟨σ1,H2,I2,q2⟩
end
structure It where
 go:Nat->Hp->Prop
 yld:Nat->Hp->V->Hp->Prop
 stop:Nat->Hp->Prop
def cR (X:Cx)(pins:List (Addr×Obj))(H:Hp)(b:Addr):Prop :=
 H b=none/\b≠X.env.locals/\b∉X.fs/\(b∈X.ex\/X.s₀.heap.objs.size<=b)/\(∀x c,X.env.cells.lookup x=some c->c≠b)/\∀p∈X.pn++pins,p.1≠b
variable {H':Hp}
theorem Inv.aaO (I:Inv X pins σ H s)(hb:s.heap.objs.size<=b)(hn:H' b=none):cR X pins H' b:=by
 refine⟨hn,Nat.ne_of_gt (Nat.lt_of_lt_of_le I.lt hb),I.abO hb,.inr (Nat.le_trans I.sz hb),λx c e z=>?_,λp hp z=>?_⟩
 ·obtain⟨v,q⟩:=I.cell x c e;exact absurd (Nat.lt_of_lt_of_le q.lt (by rw[z];exact hb)) (Nat.lt_irrefl _)
 ·exact absurd (Nat.lt_of_lt_of_le (Heap.lt_size (I.pin p hp).1) (by rw[z];exact hb)) (Nat.lt_irrefl _)
structure Turn (P:yn)(w:World)(K:PySem.W.Frag)(tg:Expr)(J:It)(fp:List Addr)(it:Addr)(tn:Nat->Heap->Prop):Prop where
 mem:it∈fp
 obj:∀i h,tn i h->∀b∈fp,∃o,h.get? b=some o/\∀v,o.data≠.cell v
 keep:∀i h h',tn i h->(∀b∈fp,∀o,h.get? b=some o->h'.get? b=some o)->tn i h'
 item:∀(X:Cx),X.prog=P->X.w=w->X.K=K->X.calm=true->∀(i:Nat)(pins:List (Addr×Obj))(s:Dx)(σ:St)(H:Hp)(E:yj),Inv X pins σ H s->(∀b∈fp,cR X pins H b)->tn i s.heap->J.go i H →
  wpAny (model P w) X.A (pyNext (.ref it)) (λr s1=>∃u,r=some u /\
   wpAny (model P w) X.A (letOwnedTupleGo tg (.ref it) u) (λ_ s2=>∃x H',Inv X pins σ H' s2/\aG x u/\J.yld i H x H'/\tn (i+1) s2.heap/\∀b∈fp,H' b=none) E s1) E s
 done:∀(X:Cx),X.prog=P->X.w=w->X.K=K->X.calm=true->∀(i:Nat)(pins:List (Addr×Obj))(s:Dx)(σ:St)(H:Hp)(E:yj),Inv X pins σ H s->(∀b∈fp,cR X pins H b)->tn i s.heap->J.stop i H →
  wpAny (model P w) X.A (pyNext (.ref it)) (λr s1=>r=none/\Inv X pins σ H s1) E s
 self:∀(A:Around)(i:Nat)(s:Dx)(Q:yj)(E:yj),tn i s.heap->Q (.ref it) s->wpAny (model P w) A (pyIter (.ref it)) Q E s
abbrev TI:=St->Hp->(It->Hp->Prop)->Prop
def HS (X:Cx)(pins:List (Addr×Obj))(σ:St)(tg:Expr)(R:It->Hp->Prop)(N5:Value)(s2:Dx):Prop :=
 ∃(it:Addr)(fp:List Addr)(tn:Nat->Heap->Prop)(J:It)(H':Hp),N5=.ref it/\Inv X pins σ H' s2/\Turn X.prog X.w X.K tg J fp it tn/\tn 0 s2.heap/\(∀b∈fp,cR X pins H' b)/\R J H'
def PI (X:Cx)(tg iter:Expr)(wi:TI):Prop :=
 ∀(pins:List (Addr×Obj))(s:Dx)(σ:St)(H:Hp)(R:It->Hp->Prop),Inv X pins σ H s->wi σ H R →
  wpAny (model X.prog X.w) X.A (eval iter X.env) (λv s1=>wpAny (model X.prog X.w) X.A (pyIter v) (HS X pins σ tg R) X.xe s1) X.xe s
theorem sX {E:yj}{s:Dx}{tg:Expr}{it:Addr}{o:Obj}{n:String}{vs:GV}{Q:Unit->Shared->Prop}(ho:s.heap.get? it=some o)(hc:o.cls=.type n)(hd:o.data=.fields vs)
 (hn:["enumerate","zip","dict_itemiterator","dict_reverseitemiterator","odict_iterator","itertools.zip_longest","itertools.pairwise"].contains n=false)(hQ:Q () s):wpAny M A (letOwnedTupleGo tg (.ref it) u) Q E s:=by
 unfold letOwnedTupleGo
 cases tg <;> first
  |exact wpAny_pure hQ
  |(cases u <;> first
   |exact wpAny_pure hQ
   |(refine wpAny_bind (wpAny_load ho ?_)
     rw[hc,hd];show wpAny M A (if(["enumerate","zip","dict_itemiterator","dict_reverseitemiterator","odict_iterator","itertools.zip_longest","itertools.pairwise"].contains n&&vs[0]?==some (rawInt _))=true then _ else _) Q E s;rw[if_neg (by intro h;rw[hn,Bool.false_and] at h;cases h)]
     exact wpAny_pure hQ))
def Dk (K:PySem.W.Frag)(a:Addr):It :=
 ⟨λi H=>∃xs x,bo K H a xs/\xs[i]?=some x,λi H x H'=>H'=H/\∀xs,bo K H a xs->xs[i]?=some x,λi H=>∃xs,bo K H a xs/\xs.length<=i⟩
def G8 (K:PySem.W.Frag)(a:Addr):It :=
 ⟨λi H=>∃xs x,br K H a xs/\xs[i]?=some x,λi H x H'=>H'=H/\∀xs,br K H a xs->xs[i]?=some x,λi H=>∃xs,br K H a xs/\xs.length<=i⟩
def By (lo:Int)(n:Nat):It:=⟨λi _=>i<n,λi H x H'=>H'=H/\x=.int (lo+i),λi _=>n<=i⟩
theorem abF {tg:Expr}(a it:Addr):Turn P w K tg (Dk K a) [it] it (λi h=>h.IsListIter it a i) where
 mem:=by simp
 obj:=λi h st b hb=>by
  have e:b=it:=by simpa using hb
  subst e;obtain⟨o,e,c,d⟩:=st;exact⟨o,e,λv z=>by rw[d] at z;cases z⟩
 keep:=λi h h' st k=>st.at λo e=>k it (by simp) o e
 item:=by
  intro X hP hw hK hc i pins s σ H E I hf st hg;subst hP hw hK;obtain⟨xs,x,hq,hx⟩:=hg;obtain⟨its,rv,p,hz⟩:=I.list hq;obtain⟨u,hu,ru⟩:=rv.get hx;obtain⟨f0,f1,f2,f3,f4,f5⟩:=hf it (by simp);refine wpAny_pyNext_list_item st p.isList (x:=u) (by simpa using hu) λh' Jx sb=>?_;have I1:Inv X pins σ H {s with heap:=h'}:=I.turned (t':=s.toks) (λb o hb e=>(sb.2 b hb).trans e) f0 f1 f3 f4 f5;obtain⟨o,e,c,d⟩:=id Jx;exact⟨u,rfl,sX (s:={s with heap:=h'}) e c d (by decide) ⟨x,H,I1,ru,⟨rfl,λys hy=>by rw[I.aay hy hq];exact hx⟩,Jx,λb hb=>(hf b hb).1⟩⟩
 done:=by
  intro X hP hw hK hc i pins s σ H E I hf st hg;subst hP hw hK;obtain⟨xs,hq,hx⟩:=hg;obtain⟨its,rv,p,hz⟩:=I.list hq;obtain⟨f0,f1,f2,f3,f4,f5⟩:=hf it (by simp);have hl:=rv.length;exact wpAny_pyNext_list_end (I.ok.hd hc) st p.isList (by simp;omega) λh' eb=>⟨rfl,I.turned (t':=s.toks) (λb o hb e=>eb b o hb e) f0 f1 f3 f4 f5⟩
 self:=λ_ _ _ _ _ st h=>wpAny_pyIter_listiter st h
theorem TyX {tg:Expr}(a it:Addr):Turn P w K tg (G8 K a) [it] it (λi h=>h.IsTupleIter it a i) where
 mem:=by simp
 obj:=λi h st b hb=>by
  have e:b=it:=by simpa using hb
  subst e;obtain⟨o,e,c,d⟩:=st;exact⟨o,e,λv z=>by rw[d] at z;cases z⟩
 keep:=λi h h' st k=>st.at λo e=>k it (by simp) o e
 item:=by
  intro X hP hw hK hc i pins s σ H E I hf st hg;subst hP hw hK;obtain⟨xs,x,hq,hx⟩:=hg;obtain⟨its,rv,p,hz⟩:=I.tuple hq;obtain⟨u,hu,ru⟩:=rv.get hx;obtain⟨f0,f1,f2,f3,f4,f5⟩:=hf it (by simp);refine wpAny_pyNext_tuple_item st (show s.heap.IsTuple a its.toArray from p) (x:=u) (by simpa using hu) λh' Jx sb=>?_;have I1:Inv X pins σ H {s with heap:=h'}:=I.turned (t':=s.toks) (λb o hb e=>(sb.2 b hb).trans e) f0 f1 f3 f4 f5;obtain⟨o,e,c,d⟩:=id Jx;exact⟨u,rfl,sX (s:={s with heap:=h'}) e c d (by decide) ⟨x,H,I1,ru,⟨rfl,λys hy=>by rw[I.aaE hy hq];exact hx⟩,Jx,λb hb=>(hf b hb).1⟩⟩
 done:=by
  intro X hP hw hK hc i pins s σ H E I hf st hg;subst hP hw hK;obtain⟨xs,hq,hx⟩:=hg;obtain⟨its,rv,p,hz⟩:=I.tuple hq;obtain⟨f0,f1,f2,f3,f4,f5⟩:=hf it (by simp);have hl:=rv.length;exact wpAny_pyNext_tuple_end (I.ok.hd hc) st (show s.heap.IsTuple a its.toArray from p) (by simp;omega) λh' eb=>⟨rfl,I.turned (t':=s.toks) (λb o hb e=>eb b o hb e) f0 f1 f3 f4 f5⟩
 self:=λ_ _ _ _ _ st h=>wpAny_pyIter_tupleiter st h
theorem TmX {tg:Expr}(it:Addr)(lo:Int)(n:Nat):Turn P w K tg (By lo n) [it] it (λi h=>IsRangeIter h it (lo+(i:Nat)*1) ((n:Int)-(i:Nat)) 1) where
 mem:=by simp
 obj:=λi h st b hb=>by
  have e:b=it:=by simpa using hb
  subst e
  exact⟨_,st,λv z=>by
   have z':Data.fields _=Data.cell v:=z
   cases z'⟩
 keep:=λi h h' st k=>k it (by simp) _ st
 item:=by
  intro X hP hw hK hc i pins s σ H E I hf st hg;subst hP hw hK;obtain⟨f0,f1,f2,f3,f4,f5⟩:=hf it (by simp);have W:=Walks.range (prog:=X.prog) (w:=X.w) (I.ok.hd hc) it lo 1 n;refine W.item i s _ _ hg st λv h' tk hv Jx kk=>?_;obtain⟨t,rfl⟩:=hv;have I1:Inv X pins σ H {s with heap:=h',toks:=tk}:=I.turned (λb o hb e=>kk b o (by simpa using hb) e) f0 f1 f3 f4 f5;refine⟨_,rfl,sX (s:={s with heap:=h',toks:=tk}) (n:="range_iterator") Jx rfl rfl (by decide) ⟨.int (lo+i),H,I1,⟨t,?_⟩,⟨rfl,rfl⟩,Jx,λb hb=>(hf b hb).1⟩⟩;rw[Int.mul_one]
 done:=by
  intro X hP hw hK hc i pins s σ H E I hf st hg;subst hP hw hK;obtain⟨f0,f1,f2,f3,f4,f5⟩:=hf it (by simp);exact wpAny_pyNext_range_end (I.ok.hd hc) st (by have:n<=i:=hg;omega) λh' eb=>⟨rfl,I.turned (t':=s.toks) (λb o hb e=>eb b o hb e) f0 f1 f3 f4 f5⟩
 self:=λ_ _ _ _ _ st h=>wpAny_pyIter_rangeiter st h
variable {pos:Pos}{fp:List Addr}
section
variable {X:Cx}{tg:Expr}
def BE (K:PySem.W.Frag)(tl:TE):TI:=λσ H R=>tl σ H λx H1=>∃a,x=.ref a/\(∃xs,bo K H1 a xs)/\R (Dk K a) H1
def aaU (K:PySem.W.Frag)(tl:TE):TI:=λσ H R=>tl σ H λx H1=>∃a,x=.ref a/\(∃xs,br K H1 a xs)/\R (G8 K a) H1
theorem cC {l:Expr}{tl:TE}(hl:PE X l tl):PI X tg l (BE X.K tl):=by
 intro pins s σ H R I h;refine bK (hl pins s σ H _ I h) λv s1 z'=>?_;obtain⟨x,H1,I1,r1,q1⟩:=z';obtain⟨a,e,⟨xs,hq⟩,q⟩:=q1;subst e
 cases r1
 obtain⟨its,rv,p,hz⟩:=I1.list hq;refine wpAny_pyIter_list p.isList ?_;refine⟨s1.heap.objs.size,[s1.heap.objs.size],_,_,H1,rfl,I1.kept (t':=s1.toks) λb o e=>Heap.get?_push_of_some _ e,abF a _,⟨_,Heap.get?_push_size _ rfl,rfl,rfl⟩,λb hb=>?_,q⟩
 have e:b=s1.heap.objs.size:=by simpa using hb
 subst e;exact I1.aaO (Nat.le_refl _) (I1.hok.fresh (Nat.le_refl _))
theorem qU {l:Expr}{tl:TE}(hl:PE X l tl):PI X tg l (aaU X.K tl):=by
 intro pins s σ H R I h;refine bK (hl pins s σ H _ I h) λv s1 z'=>?_;obtain⟨x,H1,I1,r1,q1⟩:=z';obtain⟨a,e,⟨xs,hq⟩,q⟩:=q1;subst e
 cases r1
 obtain⟨its,rv,p,hz⟩:=I1.tuple hq;refine wpAny_pyIter_tuple (show s1.heap.IsTuple a its.toArray from p) ?_;refine⟨s1.heap.objs.size,[s1.heap.objs.size],_,_,H1,rfl,I1.kept (t':=s1.toks) λb o e=>Heap.get?_push_of_some _ e,TyX a _,⟨_,Heap.get?_push_size _ rfl,rfl,rfl⟩,λb hb=>?_,q⟩
 have e:b=s1.heap.objs.size:=by simpa using hb
 subst e;exact I1.aaO (Nat.le_refl _) (I1.hok.fresh (Nat.le_refl _))
theorem qe {R:It->Hp->Prop}{E:yj}{lo hi:Int}{t u v:Tok}{tk:Nat}(I:Inv X pins σ H s)(h1:-(2^62)<=lo)(h2:lo<2^62)(h3:-(2^62)<=hi)(h4:hi<2^62)
 (q:R (By lo (hi-lo).toNat) H):wpAny (model X.prog X.w) X.A (pyIter (.ref s.heap.objs.size)) (HS X pins σ tg R) E {s with heap:=s.heap.push {cls:=.type "range",data:=.fields #[.int lo t,.int hi u,.int 1 v]},toks:=tk}:=by
 refine wpAny_pyIter_range (IsRange.new ..) (small_one h1 h2 h3 h4) ?_;have I1:Inv X pins σ H {s with heap:=s.heap.push {cls:=.type "range",data:=.fields #[.int lo t,.int hi u,.int 1 v]},toks:=tk}:=I.kept λb o e=>Heap.get?_push_of_some _ e
 refine⟨(s.heap.push {cls:=.type "range",data:=.fields #[.int lo t,.int hi u,.int 1 v]}).objs.size,[(s.heap.push {cls:=.type "range",data:=.fields #[.int lo t,.int hi u,.int 1 v]}).objs.size],_,_,H,rfl,
  I1.kept (t':=tk) λb o e=>Heap.get?_push_of_some _ e,TmX _ lo (hi-lo).toNat,?_,λb hb=>?_,q⟩
 ·have e1:lo+((0:Nat):Int)*1=lo:=by simp
  have e2:(((hi-lo).toNat:Nat):Int)-((0:Nat):Int)=Builtin.Range.rangeSize lo hi 1:=by rw[rangeSize_one];split <;> omega
  show IsRangeIter _ _ (lo+((0:Nat):Int)*1) ((((hi-lo).toNat:Nat):Int)-((0:Nat):Int)) 1;rw[e1,e2];exact Heap.get?_push_size _ rfl
 ·have e:b=(s.heap.push {cls:=.type "range",data:=.fields #[.int lo t,.int hi u,.int 1 v]}).objs.size:=by simpa using hb
  subst e;exact I1.aaO (Nat.le_refl _) (I1.hok.fresh (Nat.le_refl _))
def aa1 (ta:TA):TI:=λσ H R=>ta σ H λvs H1=>∃j:Int,vs=[.int j]/\-(2^62)<=j/\j<2^62/\R (By 0 j.toNat) H1
def aa4 (ta:TA):TI:=λσ H R=>ta σ H λvs H1=>∃i j:Int,vs=[.int i,.int j]/\(-(2^62)<=i/\i<2^62/\-(2^62)<=j/\j<2^62)/\R (By i (j-i).toNat) H1
theorem cH {a:Expr}{p:Pos}(hg:Gl X "range")(hm:X.mg "range"=none)(ha:PA X [a] ta)(hs:starEach [a] X.env=[(false,eval a X.env)]:=by rfl):PI X tg (.Call (.Name "range" p) [a] [] pos) (aa1 ta):=by
 intro pins s σ H R I h;refine Call_ (cN I hg hm boot_range (PyProof.Rows.callWith_type1 (bK (ha pos pins s σ H _ I h) λus s1 z'=>?_) hs rfl));obtain⟨vs,H1,I1,r1,q1⟩:=z';obtain⟨j,e,q1,q2,q⟩:=q1;subst e
 cases r1 with
 |cons r rr =>
  cases rr
  obtain⟨t,rfl⟩:=r;exact call_range_1 (qe I1 (by omega) (by omega) q1 q2 (by simpa using q))
theorem abp {a b:Expr}{p:Pos}(hg:Gl X "range")(hm:X.mg "range"=none)(ha:PA X [a,b] ta)(hs:starEach [a,b] X.env=[(false,eval a X.env),(false,eval b X.env)]:=by rfl)(JJ:starEach [b] X.env=[(false,eval b X.env)]:=by rfl):
 PI X tg (.Call (.Name "range" p) [a,b] [] pos) (aa4 ta):=by
 intro pins s σ H R I h;refine Call_ (cN I hg hm boot_range (PyProof.Rows.callWith_type1 (bK (ha pos pins s σ H _ I h) λus s1 z'=>?_) (by rw[hs,JJ]) (by rw[JJ];rfl)));obtain⟨vs,H1,I1,r1,q1⟩:=z';obtain⟨i,j,e,⟨q1,q2,q3,q4⟩,q⟩:=q1;subst e
 cases r1 with
 |cons r rr =>
  cases rr with
  |cons r' rr =>
   cases rr
   obtain⟨t,rfl⟩:=r;obtain⟨t',rfl⟩:=r';exact call_range_2 (qe I1 q1 q2 q3 q4 q)
def abI (wi:TI)(g:TG)(tb:TS):TS:=λD σ H=>wi σ H λJ H1=>∃W:Nat->Nat->St->Hp->Prop,(∃m,W 0 m σ H1)/\∀i m σ H,W i m σ H →
 (J.stop i H/\D.nx σ H)\/(J.go i H/\∃N:St->Hp->Prop,(∀σ' H',N σ' H'->∃m',m'<m/\W (i+1) m' σ' H')/\∀x H',J.yld i H x H'->g x σ H' λσ2 H2=>tb {D with nx:=N,ct:=N,bk:=D.nx} σ2 H2)
def jm (fp:List Addr)(h:Heap):List (Addr×Obj):=fp.filterMap λb=>(h.get? b).map λo=>(b,o)
theorem dE {o:Obj}(hb:b∈fp)(e:h.get? b=some o):(b,o)∈jm fp h:=List.mem_filterMap.mpr ⟨b,hb,by rw[e];rfl⟩
theorem abJ {p:Addr×Obj}(hp:p∈jm fp h):p.1∈fp/\h.get? p.1=some p.2:=by
 obtain⟨b,hb,e⟩:=List.mem_filterMap.mp hp
 cases q:h.get? b with
 |none=>rw[q] at e;cases e
 |some o =>
  rw[q] at e;have e':(b,o)=p:=Option.some.inj e;subst e';exact⟨hb,q⟩
theorem Inv.pinned (I:Inv X pins σ H s)(hf:∀b∈fp,cR X pins H b)(ho:∀b∈fp,∃o,s.heap.get? b=some o/\∀v,o.data≠.cell v):Inv X (pins++jm fp s.heap) σ H s :=
 I.aap λp hp=>(List.mem_append.mp hp).elim (λz=>I.pin p (List.mem_append_right _ z)) λz=>by
   obtain⟨hb,e⟩:=abJ z;obtain⟨f0,f1,f2,_⟩:=hf p.1 hb;obtain⟨o,e',d⟩:=ho p.1 hb;rw[e] at e';cases e';exact⟨e,f0,f1,f2,d⟩
theorem Inv.aaA {pl:List (Addr×Obj)}(I:Inv X (pins++pl) σ H s):Inv X pins σ H s:=I.aap λp hp=>I.pin p (List.mem_append_right _ (List.mem_append_left _ hp))
theorem dO {iter:Expr}{wi:TI}(hp:PassesOwn (model X.prog X.w) X.A X.env X.xe)(hc:X.calm=true)(hi:PI X tg iter wi)(hg:PG X tg g)(hb:oV X body tb)
 (hs:∀x,foldedSetIterable iter X.env x=pure x:=by intro _;rfl):PS X (.For tg iter body [] pos) (abI wi g tb):=by
 intro pins s σ H D I h;refine wpAny_For (bK (hi pins s σ H _ I h) λv s1 h1=>bK h1 λN5 s2 h2=>?_) hs;obtain⟨it,fp,tn,J,H2,e,I2,T,J5,f2,W,⟨m0,w0⟩,turn⟩:=h2;subst e;have Ms:∀{H':Hp},(∀b∈fp,H' b=none)->∀b∈fp,cR X pins H' b:=λhn b hb=>⟨hn b hb,(f2 b hb).2⟩;refine codeAny_forLoop_any (λn s'=>∃i σ' H',Inv X pins σ' H' s'/\tn i s'.heap/\(∀b∈fp,H' b=none)/\W i n σ' H') ?_ m0 ⟨0,σ,H2,I2,J5,λb hb=>(f2 b hb).1,w0⟩;rintro n s3 ⟨i,σ3,H3,I3,Xd,Xe,w3⟩
 rcases turn i n σ3 H3 w3 with⟨stop,qn⟩|⟨go,N,hN,step⟩
 ·refine wpAny_passesOwn hp (bK (T.done X rfl rfl rfl hc i pins s3 σ3 H3 X.xe I3 (Ms Xe) Xd stop) λr s4 z'=>?_);obtain⟨hr,I4⟩:=z';subst hr;exact wpAny_execs_nil ⟨σ3,H3,I4,qn⟩
 ·refine wpAny_passesOwn hp (bK (T.item X rfl rfl rfl hc i pins s3 σ3 H3 X.xe I3 (Ms Xe) Xd go) λr s4 z'=>?_);obtain⟨u,hr,h4⟩:=z';subst hr;refine wpAny_passesOwn hp (bK h4 λ_ s5 z'=>?_);obtain⟨x,H5,I5,r5,y5,Mt,N6⟩:=z';have Zk:=I5.pinned (Ms N6) (T.obj _ _ Mt);refine wpAny_passesOwn hp (bK (hg _ s5 σ3 H5 x u _ Zk r5 (step x H5 y5)) λ_ s6 z'=>?_);obtain⟨σ6,H6,I6,q6⟩:=z';refine wpAny_passesOwn hp (bK (hb _ s6 σ6 H6 _ I6 q6) λf s7 q7=>?_)
  have again:∀{σ7:St}{H7:Hp},Inv X (pins++jm fp s5.heap) σ7 H7 s7->N σ7 H7->∃m,m<n/\∃i σ' H',Inv X pins σ' H' s7/\tn i s7.heap/\(∀b∈fp,H' b=none)/\W i m σ' H':=λ{σ7 H7} I7 n7=>by
   obtain⟨m',hm,w7⟩:=hN σ7 H7 n7;refine⟨m',hm,i+1,σ7,H7,I7.aaA,T.keep _ _ _ Mt λb hb o e=>(I7.pin (b,o) (List.mem_append_right _ (List.mem_append_right _ (dE hb e)))).1,λb hb=>?_,w7⟩;obtain⟨o,e,d⟩:=T.obj _ _ Mt b hb;exact(I7.pin (b,o) (List.mem_append_right _ (List.mem_append_right _ (dE hb e)))).2.1
  cases f with
  |next=>obtain⟨σ7,H7,I7,n7⟩:=q7;exact again I7 n7
  |cont=>obtain⟨σ7,H7,I7,n7⟩:=q7;exact again I7 n7
  |brk=>obtain⟨σ7,H7,I7,q7⟩:=q7;exact⟨σ7,H7,I7.aaA,q7⟩
  |ret v=>obtain⟨x7,σ7,H7,I7,r7,q7⟩:=q7;exact⟨x7,σ7,H7,I7.aaA,r7,q7⟩
end
theorem gq {K:PySem.W.Frag}{a:Addr}{xs:List V}{D:Ends}(Pv:Nat->St->Hp->Prop)(h0:Pv 0 σ H)(hl:∀i σ H,i<=xs.length->Pv i σ H->bo K H a xs)
 (hs:∀i x σ H,xs[i]?=some x->Pv i σ H->g x σ H λσ2 H2=>tb {D with nx:=Pv (i+1),ct:=Pv (i+1),bk:=D.nx} σ2 H2)(hd:∀σ H,Pv xs.length σ H->D.nx σ H):
 ∃W:Nat->Nat->St->Hp->Prop,(∃m,W 0 m σ H)/\∀i m σ H,W i m σ H →
  ((Dk K a).stop i H/\D.nx σ H)\/((Dk K a).go i H/\∃N:St->Hp->Prop,(∀σ' H',N σ' H'->∃m',m'<m/\W (i+1) m' σ' H')/\∀x H',(Dk K a).yld i H x H'->g x σ H' λσ2 H2=>tb {D with nx:=N,ct:=N,bk:=D.nx} σ2 H2):=by
 refine⟨λi m σ H=>m=xs.length-i/\i<=xs.length/\Pv i σ H,⟨xs.length,by simp,Nat.zero_le _,h0⟩,?_⟩;rintro i m σ H ⟨rfl,hi,p⟩;have q:=hl i σ H hi p
 by_cases IC:i<xs.length
 ·refine .inr ⟨⟨xs,xs[i],q,by simp[IC]⟩,Pv (i+1),λσ' H' p'=>⟨xs.length-(i+1),by omega,rfl,IC,p'⟩,λx H' y=>?_⟩;obtain⟨e,y⟩:=y;subst e;exact hs i x σ _ (y xs q) p
 ·have e:i=xs.length:=by omega
  subst e;exact .inl ⟨⟨xs,q,Nat.le_refl _⟩,hd σ H p⟩
theorem jv {lo:Int}{n:Nat}{D:Ends}(Pv:Nat->St->Hp->Prop)(h0:Pv 0 σ H)
 (hs:∀i σ H,i<n->Pv i σ H->g (.int (lo+i)) σ H λσ2 H2=>tb {D with nx:=Pv (i+1),ct:=Pv (i+1),bk:=D.nx} σ2 H2)(hd:∀σ H,Pv n σ H->D.nx σ H):
 ∃W:Nat->Nat->St->Hp->Prop,(∃m,W 0 m σ H)/\∀i m σ H,W i m σ H →
  ((By lo n).stop i H/\D.nx σ H)\/((By lo n).go i H/\∃N:St->Hp->Prop,(∀σ' H',N σ' H'->∃m',m'<m/\W (i+1) m' σ' H')/\∀x H',(By lo n).yld i H x H'->g x σ H' λσ2 H2=>tb {D with nx:=N,ct:=N,bk:=D.nx} σ2 H2):=by
 refine⟨λi m σ H=>m=n-i/\i<=n/\Pv i σ H,⟨n,by simp,Nat.zero_le _,h0⟩,?_⟩;rintro i m σ H ⟨rfl,hi,p⟩
 by_cases IC:i<n
 ·refine .inr ⟨IC,Pv (i+1),λσ' H' p'=>⟨n-(i+1),by omega,rfl,IC,p'⟩,λx H' y=>?_⟩;obtain⟨e,y⟩:=y;subst e y;exact hs i σ _ IC p
 ·have e:i=n:=by omega
  subst e;exact .inl ⟨Nat.le_refl _,hd σ H p⟩
abbrev R2:=V->V->Hp->VK->Prop
def eE (X:Cx)(f:Value->Value->Sem Value)(r:R2):Prop :=
 ∀(pins:List (Addr×Obj))(s:Dx)(σ:St)(H:Hp)(x y:V)(v u:Value)(Q:VK),Inv X pins σ H s->aG x v->aG y u->r x y H Q →
  wpAny (model X.prog X.w) X.A (f v u) (EP X pins σ Q) X.xe s
def GA (X:Cx)(f:Value->Sem Value)(r:V->Hp->VK->Prop):Prop :=
 ∀(pins:List (Addr×Obj))(s:Dx)(σ:St)(H:Hp)(x:V)(v:Value)(Q:VK),Inv X pins σ H s->aG x v->r x H Q →
  wpAny (model X.prog X.w) X.A (f v) (EP X pins σ Q) X.xe s
def eZ (X:Cx)(f:Value)(r:List V->Hp->VK->Prop):Prop :=
 ∀(pins:List (Addr×Obj))(s:Dx)(σ:St)(H:Hp)(xs:List V)(us:oH)(Q:VK),Inv X pins σ H s->aM xs us->r xs H Q →
  wpAny (model X.prog X.w) X.A (call f us) (EP X pins σ Q) X.xe s
def abK (X:Cx)(r:V->Hp->(Bool->Hp->Prop)->Prop):Prop :=
 ∀(pins:List (Addr×Obj))(s:Dx)(σ:St)(H:Hp)(x:V)(v:Value)(Q:Bool->Hp->Prop),Inv X pins σ H s->aG x v->r x H Q →
  wpAny (model X.prog X.w) X.A (truthy v) (TP X pins σ Q) X.xe s
def oI (r:R2)(ta tb:TE):TE:=λσ H Q=>ta σ H λx H1=>tb σ H1 λy H2=>r x y H2 Q
def abQ (r:V->Hp->VK->Prop)(ta:TE):TE:=λσ H Q=>ta σ H λx H1=>r x H1 Q
def rI (C:Int->Int->Prop)(g:Int->Int->V):R2:=λx y H Q=>∃i j,x=.int i/\y=.int j/\C i j/\Q (g i j) H
def vh (g:Int->Int->V):R2:=λx y H Q=>∃i j,x=.int i/\y=.int j/\Q (g i j) H
def rU (g:Int->V):V->Hp->VK->Prop:=λx H Q=>∃i,x=.int i/\Q (g i) H
variable {f:Value->Value->Sem Value}
section
variable {X:Cx}{a b c:Expr}{ta tb tc:TE}{pos:Pos}
theorem DG (ha:PE X a ta)(hb:PE X b tb){R:V->V->Hp->Prop}(I:Inv X pins σ H s)
 (h:ta σ H λx H1=>tb σ H1 λy H2=>R x y H2){Q:yj}
 (hf:∀v u s2 x y H2,Inv X pins σ H2 s2->aG x v->aG y u->R x y H2->wpAny (model X.prog X.w) X.A (f v u) Q X.xe s2):
 wpAny (model X.prog X.w) X.A (eval a X.env) (λv s₁=>wpAny (model X.prog X.w) X.A (eval b X.env) (λu s₂=>wpAny (model X.prog X.w) X.A (f v u) Q X.xe s₂) X.xe s₁) X.xe s:=by
 refine bK (ha pins s σ H _ I h) λv s1 z'=>?_;obtain⟨x,H1,I1,r1,q1⟩:=z';refine bK (hb pins s1 σ H1 _ I1 q1) λu s2 z'=>?_;obtain⟨y,H2,I2,r2,q2⟩:=z';exact hf v u s2 x y H2 I2 r1 r2 q2
theorem aC {op:Operator}{r:R2}(ho:eE X (binaryOp op) r)(ha:PE X a ta)(hb:PE X b tb):PE X (.BinOp a op b pos) (oI r ta tb):=by
 intro pins s σ H Q I h;exact wpAny_BinOp (DG ha hb I h λv u s2 x y H2 I2 rx ry q=>ho pins s2 σ H2 x y v u Q I2 rx ry q)
theorem mz {op:UnaryOp}{r:V->Hp->VK->Prop}(ho:GA X (unaryOp op) r)(ha:PE X a ta):PE X (.UnaryOp op a pos) (abQ r ta):=by
 intro pins s σ H Q I h;exact UnaryOp_ (bK (ha pins s σ H _ I h) λv s1 ⟨x,H1,I1,r1,q1⟩=>ho pins s1 σ H1 x v Q I1 r1 q1)
theorem CN {C:Int->Int->Prop}{g:Int->Int->Int}
 (rule:∀(i j:Int)(t u:Tok)(s:Dx)(Q:yj)(E:yj),C i j->Q (.int (g i j) s.toks) {s with toks:=s.toks+1}->wpAny (model X.prog X.w) X.A (f (.int i t) (.int j u)) Q E s):
 eE X f (rI C λi j=>.int (g i j)):=by
 intro pins s σ H x y v u Q I rx ry h;obtain⟨i,j,rfl,rfl,hc,q⟩:=h;obtain⟨t,rfl⟩:=rx;obtain⟨t',rfl⟩:=ry;exact rule i j t t' s _ _ hc ⟨.int (g i j),H,I.tok _,⟨_,rfl⟩,q⟩
theorem E2 {g:Int->Int->Int}
 (rule:∀(i j:Int)(t u:Tok)(s:Dx)(Q:yj)(E:yj),Q (.int (g i j) s.toks) {s with toks:=s.toks+1}->wpAny (model X.prog X.w) X.A (f (.int i t) (.int j u)) Q E s):
 eE X f (vh λi j=>.int (g i j)):=by
 intro pins s σ H x y v u Q I rx ry h;obtain⟨i,j,rfl,rfl,q⟩:=h;obtain⟨t,rfl⟩:=rx;obtain⟨t',rfl⟩:=ry;exact rule i j t t' s _ _ ⟨.int (g i j),H,I.tok _,⟨_,rfl⟩,q⟩
theorem AU {g:Int->Int->Bool}
 (rule:∀(i j:Int)(t u:Tok)(s:Dx)(Q:yj)(E:yj),Q (.bool (g i j)) s->wpAny (model X.prog X.w) X.A (f (.int i t) (.int j u)) Q E s):
 eE X f (vh λi j=>.bl (g i j)):=by
 intro pins s σ H x y v u Q I rx ry h;obtain⟨i,j,rfl,rfl,q⟩:=h;obtain⟨t,rfl⟩:=rx;obtain⟨t',rfl⟩:=ry;exact rule i j t t' s _ _ ⟨.bl (g i j),H,I,rfl,q⟩
def aa7 (i j:Int):Prop:=0<j/\j<1073741824
def Ed (i j:Int):Prop:=0<=j/\j<=1000000/\i.natAbs<2^64
def se (i j:Int):Prop:=(-(2^64)<i/\i<2^64)\/(-(2^64)<j/\j<2^64)
theorem se.ok {i j:Int}(h:se i j):IntMulOk i j:=by
 rcases h with⟨h1,h2⟩|⟨h1,h2⟩
 ·exact .of_left (intBits_le_64 h1 h2)
 ·exact .of_right (intBits_le_64 h1 h2)
theorem dG:eE X (binaryOp .Add) (vh λi j=>.int (i+j)):=E2 λ_ _ _ _ _ _ _ q=>add_int q
theorem j7:eE X (binaryOp .Sub) (vh λi j=>.int (i-j)):=E2 λ_ _ _ _ _ _ _ q=>sub_int q
theorem fP:eE X (binaryOp .Mult) (rI se λi j=>.int (i*j)):=CN λ_ _ _ _ _ _ _ hc q=>mul_int q hc.ok
theorem aaq:eE X (binaryOp .FloorDiv) (rI aa7 λi j=>.int (i/j)):=CN λi j _ _ _ _ _ hc q=>by
 have h1:(0:Int)<j:=hc.1;have h2:j<1073741824:=hc.2;exact floordiv_int (by omega) (by rw[Int.fdiv_eq_ediv_of_nonneg i (by omega)];exact q) (.inl (PyProof.noPylong_small (by omega)))
theorem cO:eE X (binaryOp .Mod) (rI (λ_ j=>0<j) λi j=>.int (i%j)):=CN λi j _ _ _ _ _ hc q=>by
 have h1:(0:Int)<j:=hc;exact mod_int' (by omega) (by rw[Int.fmod_eq_emod_of_nonneg i (by omega)];exact q)
theorem tO:eE X (binaryOp .Mod) (rI (λ_ j=>j≠0) λi j=>.int (i.fmod j)):=CN λ_ _ _ _ _ _ _ hc q=>mod_int' hc q
theorem abL:eE X (binaryOp .Pow) (rI Ed λi j=>.int (i^j.toNat)):=CN λ_ _ _ _ _ _ _ hc q=>pow_int_small hc.1 hc.2.1 hc.2.2 q
theorem abR {f:Value->Sem Value}{g:Int->Int}
 (rule:∀(i:Int)(t:Tok)(s:Dx)(Q:yj)(E:yj),Q (.int (g i) s.toks) {s with toks:=s.toks+1}->wpAny (model X.prog X.w) X.A (f (.int i t)) Q E s):
 GA X f (rU λi=>.int (g i)):=by
 intro pins s σ H x v Q I rx h;obtain⟨i,rfl,q⟩:=h;obtain⟨t,rfl⟩:=rx;exact rule i t s _ _ ⟨.int (g i),H,I.tok _,⟨_,rfl⟩,q⟩
theorem i8:GA X (unaryOp .USub) (rU λi=>.int (-i)):=abR λ_ _ _ _ _ q=>neg_int q
end
def D7:V->V->Bool
 | .non,.non=>true| .non,.int _=>true| .int _,.non=>true| .non,.bl _=>true| .bl _,.non=>true| .non,.str _=>true| .str _,.non=>true
 | .int _,.int _=>true| .bl _,.bl _=>true| .str _,.str _=>true| .byt _,.byt _=>true
 | .int _,.str _=>true| .str _,.int _=>true| .bl _,.str _=>true| .str _,.bl _=>true
 |_,_=>false
def rEq:R2:=λx y H Q=>D7 x y=true/\Q (.bl (decide (x=y))) H
def rNe:R2:=λx y H Q=>D7 x y=true/\Q (.bl (!decide (x=y))) H
theorem cx {i j:Int}:decide (V.int i=V.int j)=(i==j):=by
 rw[Bool.eq_iff_iff];simp
theorem zy {i j:Bool}:decide (V.bl i=V.bl j)=(i==j):=by
 rw[Bool.eq_iff_iff];simp
theorem tD {i j:Str}:decide (V.str i=V.str j)=(i==j):=by
 rw[Bool.eq_iff_iff];simp
theorem tH {i j:Array UInt8}:decide (V.byt i=V.byt j)=(i.toList==j.toList):=by
 rw[Bool.eq_iff_iff]
 cases i
 cases j
 simp
variable {Q:VK}
section
variable {X:Cx}{a b c:Expr}{ta tb tc:TE}{pos:Pos}
theorem bh {k k':Bool}(I:Inv X pins σ H s)(q:Q (.bl k) H)(e:k=k'):EP X pins σ Q (.bool k') s:=by
 subst e;exact⟨.bl k,H,I,rfl,q⟩
theorem dZ:eE X (compareOp .Eq) rEq:=by
 intro pins s σ H x y v u Q I rx ry h;obtain⟨hs,q⟩:=h
 cases x with
 |non =>
  cases rx
  cases y with
  |non=>cases ry;exact PySem.EqNone.eq_none_none (bh I q (by simp))
  |bl j=>cases ry;exact PySem.EqNone.eq_none_bool (bh I q (by simp))
  |int j=>obtain⟨t',rfl⟩:=ry;exact PySem.EqNone.eq_none_int (bh I q (by simp))
  |str j=>obtain⟨t',rfl⟩:=ry;exact PySem.EqNone.eq_none_str (bh I q (by simp))
  |_=>exact absurd (show false=true from hs) Bool.false_ne_true
 |bl i =>
  cases rx
  cases y with
  |non=>cases ry;exact PySem.EqNone.eq_bool_none (bh I q (by simp))
  |bl j=>cases ry;exact eq_bool (bh I q zy)
  |str j=>obtain⟨t',rfl⟩:=ry;exact PySem.EqMixed.eq_bool_str (bh I q (by simp))
  |_=>exact absurd (show false=true from hs) Bool.false_ne_true
 |int i =>
  obtain⟨t,rfl⟩:=rx
  cases y with
  |non=>cases ry;exact PySem.EqNone.eq_int_none (bh I q (by simp))
  |int j=>obtain⟨t',rfl⟩:=ry;exact eq_int (bh I q cx)
  |str j=>obtain⟨t',rfl⟩:=ry;exact PySem.EqMixed.eq_int_str (bh I q (by simp))
  |_=>exact absurd (show false=true from hs) Bool.false_ne_true
 |str i =>
  obtain⟨t,rfl⟩:=rx
  cases y with
  |non=>cases ry;exact PySem.EqNone.eq_str_none (bh I q (by simp))
  |bl j=>cases ry;exact PySem.EqMixed.eq_str_bool (bh I q (by simp))
  |int j=>obtain⟨t',rfl⟩:=ry;exact PySem.EqMixed.eq_str_int (bh I q (by simp))
  |str j=>obtain⟨t',rfl⟩:=ry;exact eq_str (bh I q tD)
  |_=>exact absurd (show false=true from hs) Bool.false_ne_true
 |byt i =>
  obtain⟨t,rfl⟩:=rx
  cases y with
  |byt j=>obtain⟨t',rfl⟩:=ry;exact PySem.W.eq_bytes (bh I q tH)
  |_=>exact absurd (show false=true from hs) Bool.false_ne_true
 |_=>cases y <;> exact absurd (show false=true from hs) Bool.false_ne_true
theorem fW:eE X (compareOp .NotEq) rNe:=by
 intro pins s σ H x y v u Q I rx ry h;obtain⟨hs,q⟩:=h
 cases x with
 |non =>
  cases rx
  cases y with
  |non=>cases ry;exact PySem.EqNone.ne_none_none (bh I q (by simp))
  |bl j=>cases ry;exact PySem.EqNone.ne_none_bool (bh I q (by simp))
  |int j=>obtain⟨t',rfl⟩:=ry;exact PySem.EqNone.ne_none_int (bh I q (by simp))
  |str j=>obtain⟨t',rfl⟩:=ry;exact PySem.EqNone.ne_none_str (bh I q (by simp))
  |_=>exact absurd (show false=true from hs) Bool.false_ne_true
 |bl i =>
  cases rx
  cases y with
  |non=>cases ry;exact PySem.EqNone.ne_bool_none (bh I q (by simp))
  |bl j=>cases ry;exact ne_bool (bh I q (congrArg not zy))
  |str j=>obtain⟨t',rfl⟩:=ry;exact PySem.EqMixed.ne_bool_str (bh I q (by simp))
  |_=>exact absurd (show false=true from hs) Bool.false_ne_true
 |int i =>
  obtain⟨t,rfl⟩:=rx
  cases y with
  |non=>cases ry;exact PySem.EqNone.ne_int_none (bh I q (by simp))
  |int j=>obtain⟨t',rfl⟩:=ry;exact ne_int (bh I q (congrArg not cx))
  |str j=>obtain⟨t',rfl⟩:=ry;exact PySem.EqMixed.ne_int_str (bh I q (by simp))
  |_=>exact absurd (show false=true from hs) Bool.false_ne_true
 |str i =>
  obtain⟨t,rfl⟩:=rx
  cases y with
  |non=>cases ry;exact PySem.EqNone.ne_str_none (bh I q (by simp))
  |bl j=>cases ry;exact PySem.EqMixed.ne_str_bool (bh I q (by simp))
  |int j=>obtain⟨t',rfl⟩:=ry;exact PySem.EqMixed.ne_str_int (bh I q (by simp))
  |str j=>obtain⟨t',rfl⟩:=ry;exact ne_str (bh I q (congrArg not tD))
  |_=>exact absurd (show false=true from hs) Bool.false_ne_true
 |byt i =>
  obtain⟨t,rfl⟩:=rx
  cases y with
  |byt j=>obtain⟨t',rfl⟩:=ry;exact PySem.W.ne_bytes (bh I q (congrArg not tH))
  |_=>exact absurd (show false=true from hs) Bool.false_ne_true
 |_=>cases y <;> exact absurd (show false=true from hs) Bool.false_ne_true
theorem jC:eE X (compareOp .Lt) (vh λi j=>.bl (decide (i<j))):=AU λ_ _ _ _ _ _ _ q=>lt_int q
theorem iH:eE X (compareOp .LtE) (vh λi j=>.bl (decide (i<=j))):=AU λ_ _ _ _ _ _ _ q=>le_int q
theorem qh:eE X (compareOp .Gt) (vh λi j=>.bl (decide (j<i))):=AU λ_ _ _ _ _ _ _ q=>gt_int q
theorem TGs:eE X (compareOp .GtE) (vh λi j=>.bl (decide (j<=i))):=AU λ_ _ _ _ _ _ _ q=>ge_int q
theorem xy:eE X (compareOp .Is) (λx y H Q=>y=.non/\Q (.bl (decide (x=.non))) H):=by
 intro pins s σ H x y v u Q I rx ry h;obtain⟨rfl,q⟩:=h
 cases ry
 refine is_none_gen (bh I q ?_)
 cases x <;> first
  |(cases rx;rfl)
  |(obtain⟨t,rfl⟩:=rx;rfl)
theorem abc:eE X (compareOp .IsNot) (λx y H Q=>y=.non/\Q (.bl (!decide (x=.non))) H):=by
 intro pins s σ H x y v u Q I rx ry h;obtain⟨rfl,q⟩:=h
 cases ry
 refine isnot_none_gen (bh I q ?_)
 cases x <;> first
  |(cases rx;rfl)
  |(obtain⟨t,rfl⟩:=rx;rfl)
theorem aI (b:Expr)(h:op ≠ .In:=by decide)(h2:op ≠ .NotIn:=by decide):behindInMarks op b=false:=by
 have e1:(op==CmpOp.In)=false:=by cases op <;> first|rfl|exact absurd rfl h
 have e2:(op==CmpOp.NotIn)=false:=by cases op <;> first|rfl|exact absurd rfl h2
 cases b <;> simp[behindInMarks,e1,e2]
theorem cI {op:CmpOp}{r:R2}(ho:eE X (compareOp op) r)(ha:PE X a ta)(hb:PE X b tb)(hm:behindInMarks op b=false):PE X (.Compare a [op] [b] pos) (oI r ta tb):=by
 intro pins s σ H Q I h;exact wpAny_Compare1 (DG ha hb I h λv u s2 x y H2 I2 rx ry q=>ho pins s2 σ H2 x y v u Q I2 rx ry q) hm
def yd (t:TE):TT:=λσ H Q=>t σ H λx H'=>∃k,x=.bl k/\Q k H'
theorem aK {op:CmpOp}{r:R2}(ho:eE X (compareOp op) r)(ha:PE X a ta)(hb:PE X b tb)(hm:behindInMarks op b=false):PT X (.Compare a [op] [b] pos) (yd (oI r ta tb)):=by
 intro pins s σ H Q I h
 refine wpAny_isTrue_Compare1 (bK (ha pins s σ H _ I h) λv s1 ⟨x,H1,I1,r1,q1⟩=>bK (hb pins s1 σ H1 _ I1 q1) λu s2 ⟨y,H2,I2,r2,q2⟩ =>
  bK (ho pins s2 σ H2 x y v u _ I2 r1 r2 q2) λc s3 ⟨z,H3,I3,r3,k,e,q3⟩=>?_) hm
 subst e
 cases r3
 exact wpAny_truthy_bool ⟨H3,I3,q3⟩
def wJ (r r':R2)(ta tb tc:TE):TE:=λσ H Q=>ta σ H λx H1=>tb σ H1 λy H2=>r x y H2 λz H3=>∃k,z=.bl k /\
 (if k=true then tc σ H3 λw' H4=>r' y w' H4 Q else Q (.bl false) H3)
theorem ka {Mu:CmpOp}{r r':R2}(ho:eE X (compareOp op) r)(Jc:eE X (compareOp Mu) r')(ha:PE X a ta)(hb:PE X b tb)(hc:PE X c tc)
 (hm:lastMarks [op,Mu] [b,c]=false:=by with_unfolding_all rfl):PE X (.Compare a [op,Mu] [b,c] pos) (wJ r r' ta tb tc):=by
 intro pins s σ H Q I h
 refine Compare_chain (bK (ha pins s σ H _ I h) λv s1 ⟨x,H1,I1,r1,q1⟩=>chain_link (bK (hb pins s1 σ H1 _ I1 q1) λu s2 ⟨y,H2,I2,r2,q2⟩ =>
  bK (ho pins s2 σ H2 x y v u _ I2 r1 r2 q2) λd s3 ⟨z,H3,I3,r3,k,e,q3⟩=>?_)) hm
 subst e
 cases r3
 refine wpAny_truthy_bool ?_
 cases k with
 |false=>exact ite_ff ⟨.bl false,H3,I3,rfl,q3⟩
 |true=>exact ite_tt (chain_last (bK (hc pins s3 σ H3 _ I3 q3) λw' s4 ⟨z',H4,I4,r4,q4⟩=>Jc pins s4 σ H4 y z' u w' Q I4 r2 r4 q4))
theorem qt {Mu:CmpOp}{r r':R2}(ho:eE X (compareOp op) r)(Jc:eE X (compareOp Mu) r')(ha:PE X a ta)(hb:PE X b tb)(hc:PE X c tc)
 (hm:lastMarks [op,Mu] [b,c]=false:=by with_unfolding_all rfl):PT X (.Compare a [op,Mu] [b,c] pos) (yd (wJ r r' ta tb tc)):=by
 intro pins s σ H Q I h
 refine isTrue_chain (bK (ha pins s σ H _ I h) λv s1 ⟨x,H1,I1,r1,q1⟩=>test_link (bK (hb pins s1 σ H1 _ I1 q1) λu s2 ⟨y,H2,I2,r2,q2⟩ =>
  bK (ho pins s2 σ H2 x y v u _ I2 r1 r2 q2) λd s3 ⟨z,H3,I3,r3,k,e,q3⟩=>?_)) hm
 subst e
 cases r3
 refine wpAny_truthy_bool ?_
 cases k with
 |false =>
  obtain⟨k',e',q'⟩:=q3
  cases e'
  exact ite_ff ⟨H3,I3,q'⟩
 |true =>
  refine ite_tt (test_last (bK (hc pins s3 σ H3 _ I3 q3) λw' s4 ⟨z',H4,I4,r4,q4⟩=>bK (Jc pins s4 σ H4 y z' u w' _ I4 r2 r4 q4) λd' s5 ⟨z2,H5,I5,r5,k2,e2,q5⟩=>?_));subst e2
  cases r5
  exact wpAny_truthy_bool ⟨H5,I5,q5⟩
def Ck (K:PySem.W.Frag)(x:V)(H:Hp)(k:Bool):Prop :=
 match x with
 | .non=>k=false
 | .bl b=>k=b
 | .int i=>k=(i != 0)
 | .str y=>y.length<=sizeLine/\k=((y.length:Int) != 0)
 | .byt y=>y.size<=sizeLine/\k=((y.size:Int) != 0)
 | .ref p=>(∃xs,bo K H p xs/\k = !xs.isEmpty)\/(∃xs,br K H p xs/\k = !xs.isEmpty)\/∃Ir,H p=some (.dK Ir)/\k = !Ir.isEmpty
 |_=>False
theorem aa5 {κ:Type}{Ir:List (κ×V)}{vs:List (κ×Value)}(r:KV Ir vs):(!vs.isEmpty) = !Ir.isEmpty:=by
 cases r <;> rfl
theorem lV {xs:List V}{its:oH}(r:aM xs its):(!its.toArray.isEmpty) = !xs.isEmpty:=by
 cases r <;> simp
theorem lA:(sizeLine:Nat)<2^63:=by rw[sizeLine_eq];decide
theorem abZ:abK X (λx H Q=>∃k,Ck X.K x H k/\Q k H):=by
 intro pins s σ H x v Q I rx h;obtain⟨k,e,q⟩:=h;have hl:=lA;have hs:sizeLine=16777216:=sizeLine_eq
 cases x with
 |non =>
  cases rx
  have e':k=false:=e;subst e';exact truthy_none ⟨H,I,q⟩
 |bl b =>
  cases rx
  have e':k=b:=e;subst e';exact wpAny_truthy_bool ⟨H,I,q⟩
 |int i =>
  obtain⟨t,rfl⟩:=rx;have e':k=(i != 0):=e;subst e';exact PySem.P.truthy_int ⟨H,I,q⟩
 |str y =>
  obtain⟨t,rfl⟩:=rx;obtain⟨hy,e'⟩:y.length<=sizeLine/\k=((y.length:Int) != 0):=e;subst e';exact PySem.P.truthy_str (by omega) ⟨H,I.tok _,q⟩
 |byt y =>
  obtain⟨t,rfl⟩:=rx;obtain⟨hy,e'⟩:y.size<=sizeLine/\k=((y.size:Int) != 0):=e;subst e';exact PySem.W.truthy_bytes (by omega) ⟨H,I.tok _,q⟩
 |ref p =>
  cases rx
  have e':(∃xs,bo X.K H p xs/\k = !xs.isEmpty)\/(∃xs,br X.K H p xs/\k = !xs.isEmpty)\/∃Ir,H p=some (.dK Ir)/\k = !Ir.isEmpty:=e
  rcases e' with⟨xs,hx,e'⟩|⟨xs,hx,e'⟩|⟨Ir,hx,e'⟩
  ·subst e';obtain⟨its,r,pl,hz⟩:=I.list hx;have hlen:=r.length;exact wpAny_truthy_list pl.isList (by simp only[List.size_toArray];omega) ⟨H,I.tok _,by rw[lV r];exact q⟩
  ·subst e';obtain⟨its,r,pl,hz⟩:=I.tuple hx;have hlen:=r.length;exact truthy_tuple pl (by simp only[List.size_toArray];omega) ⟨H,I.tok _,by rw[lV r];exact q⟩
  ·subst e';obtain⟨hz,hS,vs,r,m⟩:Ir.length<=sizeLine/\(p==sysModules)=false/\∃vs,KV Ir vs/\s.heap.DictOf (bZ X.prog X.w) p vs:=I.hok p _ hx;have hlen:Ir.length=vs.length:=Paired.length r;exact wpAny_truthy_dict hS m (by omega) ⟨H,I.tok _,by rw[aa5 r];exact q⟩
 |_=>exact(show False from e).elim
theorem qx (ha:PE X a ta)(he:∀dz,isTrue a X.env dz=(do let v <-dz;standAt a.pos;holding [v] (truthy v))):
 PT X a (λσ H Q=>ta σ H λx H'=>∃k,Ck X.K x H' k/\Q k H'):=by
 intro pins s σ H Q I h;exact isTrue_plain (bK (ha pins s σ H _ I h) λv s1 ⟨x,H1,I1,r1,q1⟩=>abZ pins s1 σ H1 x v Q I1 r1 q1) (he _)
theorem fY {x:V}(r:aM [x] us):∃u,us=[u]/\aG x u:=by
 cases r with
 |cons r1 r2=>cases r2;exact⟨_,rfl,r1⟩
theorem sI {x:V}(r:aM [x,y] us):∃u w',us=[u,w']/\aG x u/\aG y w':=by
 cases r with
 |cons r1 r2 =>
  cases r2 with
  |cons r3 r4=>cases r4;exact⟨_,_,rfl,r1,r3⟩
theorem kF:eZ X (.builtin "abs") (λxs H Q=>∃i,xs=[.int i]/\Q (.int (if i<0 then -i else i)) H):=by
 intro pins s σ H xs us Q I r h;obtain⟨i,rfl,q⟩:=h;obtain⟨u,rfl,t,rfl⟩:=fY r;exact call_abs_int λu tk=>⟨.int (if i<0 then -i else i),H,I.tok _,⟨_,rfl⟩,q⟩
theorem ab0 (hc:X.calm=true):eZ X (.builtin "max") (λxs H Q=>∃i j,xs=[.int i,.int j]/\Q (.int (if j>i then j else i)) H):=by
 intro pins s σ H xs us Q I r h;obtain⟨i,j,rfl,q⟩:=h;obtain⟨u,w',rfl,⟨t,rfl⟩,⟨t',rfl⟩⟩:=sI r;refine max_two_ints (I.ok.hd hc) λh' tk k=>⟨_,H,I.kept k,?_,q⟩
 by_cases hj:j>i
 ·rw[if_pos hj,if_pos hj];exact⟨_,rfl⟩
 ·rw[if_neg hj,if_neg hj];exact⟨_,rfl⟩
theorem ab1 (hc:X.calm=true):eZ X (.builtin "min") (λxs H Q=>∃i j,xs=[.int i,.int j]/\Q (.int (if j<i then j else i)) H):=by
 intro pins s σ H xs us Q I r h;obtain⟨i,j,rfl,q⟩:=h;obtain⟨u,w',rfl,⟨t,rfl⟩,⟨t',rfl⟩⟩:=sI r;refine min_two_ints (I.ok.hd hc) λh' tk k=>⟨_,H,I.kept k,?_,q⟩
 by_cases hj:j<i
 ·rw[if_pos hj,if_pos hj];exact⟨_,rfl⟩
 ·rw[if_neg hj,if_neg hj];exact⟨_,rfl⟩
theorem acp:eZ X (.type "int") (λxs H Q=>(∃i,xs=[.int i]/\Q (.int i) H)\/∃k,xs=[.bl k]/\Q (.int (if k then 1 else 0)) H):=by
 intro pins s σ H xs us Q I r h
 rcases h with⟨i,rfl,q⟩|⟨k,rfl,q⟩
 ·obtain⟨u,rfl,t,rfl⟩:=fY r;exact call_int_int ⟨.int i,H,I,⟨_,rfl⟩,q⟩
 ·obtain⟨u,rfl,r1⟩:=fY r
  cases r1
  exact call_int_bool ⟨.int (if k then 1 else 0),H,I.tok _,⟨_,rfl⟩,q⟩
end
structure Bm (h:Heap)(x dx C:Addr)(mA:xf):Prop where
 obj:h.get? x=some (PySem.W.instObj C dx)
 ns:h.Ns1 dx mA
 ne:dx≠x
theorem Sig {dx:Addr}{mA:xf}(n:h.Ns1 dx mA):∃od,h.get? dx=some od/\∀name,PySem.W.lookIn name od=some (mA name):=by
 obtain⟨o,es,ep,ho,hd,hk,_,hm⟩:=n;refine⟨o,ho,λname=>?_⟩;have e:=hm name;unfold nsFind findBy at e;rw[<-Array.find?_toList] at e;unfold PySem.W.lookIn;rw[hd];dsimp only
 split
 ·rename_i y q
  rw[q] at e;exact congrArg some e
 ·rename_i q
  rw[q] at e
  have a:es.toList.any (·.refKey)=false:=by
   rw[List.any_eq_false];intro y hy;obtain⟨z,t,Tc⟩:=hk y (Array.mem_toList_iff.mp hy);simp[DictEntry.refKey,Tc]
  have a':¬es.toList.any (·.refKey)=true:=by rw[a];exact Bool.false_ne_true
  rw[if_neg a'];exact congrArg some e
variable {C:Addr}
theorem Bm.look {x dx:Addr}{mA:xf}(I:Bm h x dx C mA):∃od,PySem.W.InstAt h x (PySem.W.instObj C dx) C (some od)/\∀name,PySem.W.lookIn name od=some (mA name):=
 let⟨od,ho,hl⟩:=Sig I.ns
 ⟨od,⟨I.obj,rfl,rfl,ho⟩,hl⟩
variable {pl:Sem Bool}{kw:List (Str×Value)}
section
variable {prog:yn}{w:World}{A:Around}{E:yj}{s:Dx}{K:PySem.W.Frag}{x dx C f:Addr}{mA:xf}{name:Str}{v:Value}
theorem abn {expr:Bool}{Q:yj}(X:K.In s.heap)(I:Bm s.heap x dx C mA)(hg:PySem.W.plainGet K C name=true)(hh:PySem.W.hasDictIn K C=true)
 (ha:PySem.W.findIn K (.ref C) name=some none)(hv:mA name=some v)(Zl:PySem.W.handedIn v=true)(h:Q v {s with toks:=s.toks+1}):
 wpAny (model prog w) A (getAttr (.ref x) name expr) Q E s:=by
 obtain⟨od,J,hl⟩:=I.look;exact PySem.W.get_value X J (PySem.W.plainGet_of hg).1 (PySem.W.findObj_own hh ha rfl (by rw[hl,hv])) Zl h
theorem ab7 {Q:Value×List Value->Shared->Prop}(X:K.In s.heap)(I:Bm s.heap x dx C mA)(hg:PySem.W.plainGet K C name=true)
 (hf:PySem.W.findIn K (.ref C) name=some (some (.ref f)))(ht:PySem.W.isFn K (.ref f)=true)(hv:mA name=none)(h:Q (.ref f,[.ref x]) s):
 wpAny (model prog w) A (getMethod (.ref x) name pl) Q E s:=by
 obtain⟨od,J,hl⟩:=I.look;exact PySem.W.method_fn X J (PySem.W.plainGet_of hg).1 (PySem.W.plainGet_of hg).2 hf (beq_iff_eq.mp ht) (by show(PySem.W.lookIn name od).map (·.isSome)=some false;rw[hl,hv];rfl) h
theorem acj {ns:zX}{Q:Unit->Shared->Prop}(X:K.In s.heap)(I:Bm s.heap x dx C mA)
 (hs:PySem.W.findIn K (.ref C) "__setattr__"=some (some (.builtin "object.__setattr__")))(hp:PySem.W.plainOver K C=true)(ht:PySem.W.takerIn K C name=some none)(hh:PySem.W.hasDictIn K C=true)
 (hw:PySem.Within mA ns)(hsz:ns.length<=sizeLine)
 (h:∀h',Bm h' x dx C (λy=>if y=name then some v else mA y)->Heap.SameBut dx s.heap h'->Q () {s with heap:=h',toks:=s.toks+2}):
 wpAny (model prog w) A (setAttr (.ref x) name v) Q E s:=by
 obtain⟨od,J,hl⟩:=I.look;refine PySem.W.set_plain X J hs (PySem.W.osa_open (s:={s with toks:=s.toks+1}) (r:=none) X J hp ht λb=>?_);obtain⟨cd,hc,S7⟩:=PySem.W.any_some hh;have hx:s.heap.get? x=some ⟨.ref C,some dx,.plain,#[]⟩:=I.obj;refine wpAny_bind (wpAny_pure (wpAny_bind (wpAny_bind (wpAny_loadPart hx (wpAny_bind (PySem.W.Looks.here (s:={s with toks:=s.toks+1}) (PySem.W.looks_clsIn X hc) ?_))))));rw[S7];refine wpAny_pure (a:=some dx) (wpAny_bind (wpAny_pure (wpAny_bind ?_)));refine wpAny_nsSet1 (s:={s with toks:=s.toks+1}) I.ns λh' NA JJ=>?_;obtain⟨oD,esD,epD,Zm,Zn,Ln⟩:=NA.count (PySem.Within.cons name v hw);refine wpAny_bind (wpAny_lookBehind Zm (by rw[Zn];exact pastItsLine_dict (Nat.le_trans Ln (by rw[List.length_cons];omega))) ?_);exact wpAny_pure (h _ ⟨(JJ.2 _ (Ne.symm I.ne)).trans I.obj,NA,I.ne⟩ JJ)
theorem ack {R:Result->Shared->Prop}{vs:oH}(X:K.In s.heap)(hm:PySem.W.makesIn K C=true)
 (hi:PySem.W.findIn K (.ref C) "__init__"=some (some (.ref f)))(hf:PySem.W.typeIn K (.ref f)=some (.type "function"))
 (h:codeAny (model prog w) (A.under (.builtin "type.__call__" ⟨.ref C::vs,kw⟩)) (.call (.ref f) ⟨.ref (s.heap.objs.size+1):: vs,kw⟩) (PySem.W.InitBack (s.heap.objs.size+1) R)
  {s with heap:=(s.heap.push PySem.W.emptyDict).push (PySem.W.instObj C s.heap.objs.size)}):
 codeAny (model prog w) A (.call (.ref C) ⟨vs,kw⟩) R s:=by
 obtain⟨hh,g,d,t,os⟩:=s;exact PySem.W.make_core (PySem.W.makes_of X hm) (PySem.W.looks_findIn X hi) (λself=>PySem.W.bind_fn X self hf) (.inl rfl) h
end
def cG (f:Str)(v:V):List (Str×V)->List (Str×V)
 |[]=>[(f,v)]
 |(g,x):: r=>if g=f then(g,v):: r else(g,x):: cG f v r
theorem jD (f g:Str)(v:V):∀fs:List (Str×V),(cG f v fs).lookup g=if g=f then some v else fs.lookup g
 |[]=>by
  show List.lookup g [(f,v)]=_
  by_cases h:g=f
  ·have hb:(g==f)=true:=beq_iff_eq.mpr h;simp only[List.lookup,hb,if_pos h]
  ·have hb:(g==f)=false:=beq_eq_false_iff_ne.mpr h;simp only[List.lookup,hb,if_neg h]
 |(k,x):: r=>by
  have ih:=jD f g v r;rw[show cG f v ((k,x):: r)=(if k=f then(k,v):: r else(k,x):: cG f v r) from rfl]
  by_cases hk:k=f
  ·rw[if_pos hk]
   by_cases h:g=k
   ·have hb:(g==k)=true:=beq_iff_eq.mpr h;simp only[List.lookup,hb,if_pos (h.trans hk)]
   ·have hb:(g==k)=false:=beq_eq_false_iff_ne.mpr h;simp only[List.lookup,hb,if_neg (λe:g=f=>h (e.trans hk.symm))]
  ·rw[if_neg hk]
   by_cases h:g=k
   ·have hb:(g==k)=true:=beq_iff_eq.mpr h;simp only[List.lookup,hb,if_neg (λe:g=f=>hk (h.symm.trans e))]
   ·have hb:(g==k)=false:=beq_eq_false_iff_ne.mpr h;simp only[List.lookup,hb];exact ih
theorem jw (f:Str)(v:V):∀fs:List (Str×V),f∈(cG f v fs).map (·.1)/\∀g,g∈fs.map (·.1)->g∈(cG f v fs).map (·.1)
 |[]=>⟨by simp[cG],λg h=>by simp at h⟩
 |(k,x):: r=>by
  obtain⟨i1,i2⟩:=jw f v r;rw[show cG f v ((k,x):: r)=(if k=f then(k,v):: r else(k,x):: cG f v r) from rfl]
  by_cases hk:k=f
  ·rw[if_pos hk];subst hk;exact⟨by simp,λg h=>by simpa using h⟩
  ·rw[if_neg hk];refine⟨?_,λg h=>?_⟩
   ·rw[List.map_cons];exact List.mem_cons_of_mem _ i1
   ·rw[List.map_cons] at h |-
    rcases List.mem_cons.mp h with e|e
    ·exact List.mem_cons.mpr (.inl e)
    ·exact List.mem_cons_of_mem _ (i2 g e)
theorem jE (f:Str)(v:V):∀fs:List (Str×V),(cG f v fs).length<=fs.length+1
 |[]=>by simp[cG]
 |(k,x):: r=>by
  have ih:=jE f v r;rw[show cG f v ((k,x):: r)=(if k=f then(k,v):: r else(k,x):: cG f v r) from rfl]
  by_cases hk:k=f
  ·rw[if_pos hk,List.length_cons,List.length_cons];omega
  ·rw[if_neg hk,List.length_cons,List.length_cons];omega
theorem f9.some_of {v:V}{o:rh}(r:f9 (some v) o):∃u,o=some u/\aG v u:=by
 cases o with
 |none=>exact(show False from r).elim
 |some u=>exact⟨u,rfl,r⟩
theorem f9.none_of {o:rh}(r:f9 none o):o=none:=by
 cases o with
 |none=>rfl
 |some u=>exact(show False from r).elim
theorem acu {v:V}(r:aG v u):PySem.W.handedIn u=true:=by
 cases v with
 |non=>cases(show u=Value.none from r);rfl
 |bl b=>cases(show u=Value.bool b from r);rfl
 |int i=>obtain⟨t,e⟩:=(show ∃t,u=Value.int i t from r);cases e;rfl
 |str x=>obtain⟨t,e⟩:=(show ∃t,u=Value.str x t from r);cases e;rfl
 |byt b=>obtain⟨t,e⟩:=(show ∃t,u=Value.bytes b t from r);cases e;rfl
 |flt b=>obtain⟨t,e⟩:=(show ∃t,u=Value.float b t from r);cases e;rfl
 |ref a=>cases(show u=Value.ref a from r);rfl
 |ty n=>cases(show u=Value.type n from r);rfl
section
variable {P:yn}{w:World}{H H':Hp}{h h':Heap}{a C dx:Addr}{fs Zi:List (Str×V)}
theorem fU (hok:gf P w H h)(e:H a=some (.ins C dx fs)):∃mA,Bm h a dx C mA/\(∀f,f9 (fs.lookup f) (mA f))/\PySem.Within mA (fs.map (·.1))/\fs.length<=1000/\H dx=some (.own a):=by
 obtain⟨d,z,ne,ob,mA,n,r,q⟩:=(show bx P w H h a (.ins C dx fs) from hok a _ e);exact⟨mA,⟨ob,n,ne⟩,r,q,z,d⟩
end
structure Ig (K:PySem.W.Frag)(C:Addr):Prop where
 pg:PySem.W.plainGet K C Str.empty=true
 hd:PySem.W.hasDictIn K C=true
 po:PySem.W.plainOver K C=true
 sa:PySem.W.findIn K (.ref C) "__setattr__"=some (some (.builtin "object.__setattr__"))
theorem Ig.get (c:Ig K C)(f:Str):PySem.W.plainGet K C f=true:=c.pg
def da (K:PySem.W.Frag)(C:Addr)(f:Str):Prop:=PySem.W.findIn K (.ref C) f=some none
theorem da.ab2 {f:Str}(n:da K C f):PySem.W.takerIn K C f=some none:=by
 unfold PySem.W.takerIn;rw[show PySem.W.findIn K (.ref C) f=some none from n];rfl
structure Meth (K:PySem.W.Frag)(C:Addr)(m:Str)(f:Addr):Prop where
 at_:PySem.W.findIn K (.ref C) m=some (some (.ref f))
 fn:PySem.W.isFn K (.ref f)=true
 kp:PySem.W.keepIn K (.ref f)=true
section
variable {X:Cx}{pins:List (Addr×Obj)}{σ:St}{H:Hp}{s:Dx}{a C dx:Addr}{fs:List (Str×V)}{f:Str}{v:V}{A:Around}{E:yj}
theorem acv {b:Bool}{Q:yj}(I:Inv X pins σ H s)(e:H a=some (.ins C dx fs))(c:Ig X.K C)(n:da X.K C f)(l:fs.lookup f=some v)
 (h:∀u s',Inv X pins σ H s'->aG v u->Q u s'):wpAny (model X.prog X.w) A (getAttr (.ref a) f b) Q E s:=by
 obtain⟨mA,O,r,_,_,_⟩:=fU I.hok e;obtain⟨u,hu,ru⟩:=f9.some_of (v:=v) (o:=mA f) (by rw[<-l];exact r f);exact abn I.kIn O (c.get f) c.hd n hu (acu ru) (h u _ (I.tok _) ru)
theorem kQ {m:Str}{g:Addr}{Q:Value×List Value->Shared->Prop}(I:Inv X pins σ H s)(e:H a=some (.ins C dx fs))(c:Ig X.K C)(k:Meth X.K C m g)(l:fs.lookup m=none)
 (h:Q (.ref g,[.ref a]) s):wpAny (model X.prog X.w) A (getMethod (.ref a) m pl) Q E s:=by
 obtain⟨mA,O,r,_,_,_⟩:=fU I.hok e;have hn:mA m=none:=f9.none_of (by rw[<-l];exact r m);exact ab7 I.kIn O (c.get m) k.at_ k.fn hn h
theorem acw {Q:Unit->Shared->Prop}(I:Inv X pins σ H s)(e:H a=some (.ins C dx fs))(c:Ig X.K C)(n:da X.K C f)(hl:fs.length<1000)(ry:aG y u)
 (h:∀s',Inv X pins σ (upd H a (.ins C dx (cG f y fs))) s'->Q () s'):wpAny (model X.prog X.w) A (setAttr (.ref a) f u) Q E s:=by
 obtain⟨mA,O,r,wi,_,ho⟩:=fU I.hok e
 have hz:(fs.map (·.1)).length<=sizeLine:=by rw[List.length_map,sizeLine_eq];omega
 refine acj I.kIn O c.sa c.po n.ab2 c.hd wi hz λh' O' sb=>h _ ?_;have hd:∃o,h'.get? dx=some o:=let⟨o,_,_,e',_⟩:=O'.ns;⟨o,e'⟩;refine I.write (x:=a) (e:=dx) (by rw[e];exact True.intro) (.inr ho) (λb q hb z=>(sb.2 b hb).trans z) hd ?_;refine⟨by rw[av O.ne];exact ho,?_,O.ne,O'.obj,_,O'.ns,λg=>?_,λg hg=>?_⟩
 ·have:=jE f y fs;omega
 ·show f9 ((cG f y fs).lookup g) (if g=f then some u else mA g);rw[jD]
  by_cases q:g=f
  ·rw[if_pos q,if_pos q];exact ry
  ·rw[if_neg q,if_neg q];exact r g
 ·by_cases q:g=f
  ·rw[q];exact(jw f y fs).1
  ·refine(jw f y fs).2 g (wi g λz=>hg ?_);show(if g=f then some u else mA g)=none;rw[if_neg q];exact z
theorem Inv.made (I:Inv X pins σ H s):Inv X pins σ (upd (upd H s.heap.objs.size (.own (s.heap.objs.size+1))) (s.heap.objs.size+1) (.ins C s.heap.objs.size []))
 {s with heap:=(s.heap.push PySem.W.emptyDict).push (PySem.W.instObj C s.heap.objs.size)}:=by
 have e1:(s.heap.push PySem.W.emptyDict).get? s.heap.objs.size=some PySem.W.emptyDict:=Heap.get?_push_size s.heap rfl
 have e2:((s.heap.push PySem.W.emptyDict).push (PySem.W.instObj C s.heap.objs.size)).get? (s.heap.objs.size+1)=some (PySem.W.instObj C s.heap.objs.size):=by
  have:=Heap.get?_push_size (s.heap.push PySem.W.emptyDict) (o:=PySem.W.instObj C s.heap.objs.size) rfl;rwa[Heap.size_push] at this
 have e3:(s.heap.push PySem.W.emptyDict).Ns s.heap.objs.size (λ_=>none):=⟨PySem.W.emptyDict,#[],_,e1,rfl,(λe he=>absurd he (by simp)),λ_=>rfl⟩;have I1:=I.laid (a:=s.heap.objs.size) (o:=.own (s.heap.objs.size+1)) (h':=s.heap.push PySem.W.emptyDict) (t':=s.toks) (λb u q=>Heap.get?_push_of_some _ q) (Nat.le_refl _) ⟨_,e1⟩;refine I1.laid (a:=s.heap.objs.size+1) (o:=.ins C s.heap.objs.size []) (t':=s.toks) (λb u q=>Heap.get?_push_of_some _ q) (Nat.le_of_eq (Heap.size_push _ _)) ?_;have ne:s.heap.objs.size≠s.heap.objs.size+1:=Nat.ne_of_lt (Nat.lt_succ_self _);refine⟨by rw[av ne,ah],Nat.zero_le _,ne,e2,λ_=>none,(Heap.Ns1.of_empty e3).at λo q=>Heap.get?_push_of_some _ q,λ_=>True.intro,λy hy=>absurd rfl hy⟩
theorem acx {prog:yn}{env:Env}{f:Str}{s:Dx}{Q:yj}(hb:attributeBase e f env (eval e env)=eval e env)
 (h:wpAny (model prog w) A (eval e env) (λo s₁=>wpAny (model prog w) A (getAttr o f true) Q E s₁) E s):wpAny (model prog w) A (eval (.Attribute e f pos) env) Q E s :=
 Attribute_any_ h (by rw[arm_eval_Attribute,hb])
end
def acH (K:PySem.W.Frag)(ta:TE)(f:Str):TE:=λσ H Q=>ta σ H λx H1=>∃a C dx fs v,x=.ref a/\H1 a=some (.ins C dx fs)/\Ig K C/\da K C f/\fs.lookup f=some v/\Q v H1
def aaS (K:PySem.W.Frag)(ta tv:TE)(f:Str):TS:=λD σ H=>tv σ H λy H1=>ta σ H1 λx H2=>∃a C dx fs,x=.ref a/\H2 a=some (.ins C dx fs)/\Ig K C/\da K C f/\fs.length<1000 /\
 D.nx σ (upd H2 a (.ins C dx (cG f y fs)))
section
variable {X:Cx}{o e value:Expr}{f:Str}{pos pos' Td:Pos}{ta tv:TE}
theorem bO (he:PE X e ta)(hb:attributeBase e f X.env (eval e X.env)=eval e X.env):PE X (.Attribute e f pos) (acH X.K ta f):=by
 intro pins s σ H Q I h;refine acx hb (bK (he pins s σ H _ I h) λu s1 z'=>?_);obtain⟨x,H1,I1,rx,a,C,dx,fs,v,ex,ea,c,n,l,q⟩:=z';subst ex;obtain rfl:u=Value.ref a:=rx;exact acv I1 ea c n l λu' s2 I2 ru=>⟨v,H1,I2,ru,q⟩
theorem gF (ha:PE X o ta)(hv:PE X value tv)(hs:swapsWith value (some (.Attribute o f pos')) pos.line X.env=pure false):PS X (.Assign [.Attribute o f pos'] value pos) (aaS X.K ta tv f):=by
 intro pins s σ H D I h;refine plainObj_wpAny_Assign_Attribute (bK (hv pins s σ H _ I h) λu s1 ⟨y,H1,I1,ry,q⟩=>bK (ha pins s1 σ H1 _ I1 q) λov s2 z'=>?_) hs;obtain⟨x,H2,I2,rx,a,C,dx,fs,ex,ea,c,n,l,q2⟩:=z';subst ex;obtain rfl:ov=Value.ref a:=rx;exact acw I2 ea c n l ry λs3 I3=>⟨σ,_,I3,q2⟩
end
section
variable {X:Cx}{pins:List (Addr×Obj)}{σ:St}{H:Hp}{s:Dx}{A:Around}{E:yj}{Q:yj}{c:Value}{b:Bool}
inductive Fj (K:PySem.W.Frag)(H:Hp):V->Value->Prop where
 |non:Fj K H .non (.type "NoneType")
 |bl (x:Bool):Fj K H (.bl x) (.type "bool")
 |int (i:Int):Fj K H (.int i) (.type "int")
 |str (x:Str):Fj K H (.str x) (.type "str")
 |flt (x:UInt64):Fj K H (.flt x) (.type "float")
 |lst {a:Addr}{xs:List V}(e:H a=some (.lst xs)):Fj K H (.ref a) (.type "list")
 |frz {a:Addr}{o:Obj}{xs:List V}(e:H a=some (.frz o (.lst xs))):Fj K H (.ref a) (.type "list")
 |tup {a:Addr}{xs:List V}(e:H a=some (.tup xs)):Fj K H (.ref a) (.type "tuple")
 |dK {a:Addr}{Ir:List (Key×V)}(e:H a=some (.dK Ir)):Fj K H (.ref a) (.type "dict")
 |dT {a:Addr}{Ir:List (List Key×V)}(e:H a=some (.dT Ir)):Fj K H (.ref a) (.type "dict")
 |ins {a C dx:Addr}{fs:List (Str×V)}(e:H a=some (.ins C dx fs))(cl:Ig K C)(ha:PySem.W.findIn K (.ref C) "__class__"=some (some (.builtin "object.__class__")))
  (hn:PySem.W.specialIn K (.builtin "object.__class__") "__get__"=some (some (.builtin "getset_descriptor.__get__")))(N7:PySem.W.takesIn K (.builtin "object.__class__")=some true)
  (hm:PySem.W.mroIn K C (.type "object")=some true):Fj K H (.ref a) (.ref C)
theorem aa6 {x:V}{t:Value}(I:Inv X pins σ H s)(rx:aG x u)(ty:Fj X.K H x t)(e:PySem.W.kitOne X.K t c=some b)(h:∀tk,Q (.bool b) {s with toks:=tk}):
 wpAny (model X.prog X.w) A (call (.builtin "isinstance") [u,c]) Q E s:=by
 cases ty with
 |non=>cases(show u=Value.none from rx);exact PySem.W.kia_one PySem.W.kitx_none I.kIn True.intro e (λz=>nomatch z) h
 |bl y=>cases(show u=Value.bool y from rx);exact PySem.W.kia_one PySem.W.kitx_bool I.kIn True.intro e (λz=>nomatch z) h
 |int i=>obtain⟨t,q⟩:=(show ∃t,u=Value.int i t from rx);cases q;exact PySem.W.kia_one PySem.W.kitx_int I.kIn True.intro e (λz=>nomatch z) h
 |str y=>obtain⟨t,q⟩:=(show ∃t,u=Value.str y t from rx);cases q;exact PySem.W.kia_one PySem.W.kitx_str I.kIn True.intro e (λz=>nomatch z) h
 |flt y=>obtain⟨t,q⟩:=(show ∃t,u=Value.float y t from rx);cases q;exact PySem.W.kia_one PySem.W.kitx_float I.kIn True.intro e (λz=>nomatch z) h
 |@lst a xs ea =>
  cases(show u=Value.ref a from rx)
  obtain⟨_,_,n,_,h1⟩:=(show bx X.prog X.w H s.heap a (.lst xs) from I.hok a _ ea);exact PySem.W.kia_one PySem.W.kitx_list I.kIn ⟨_,h1,rfl⟩ e (λz=>nomatch z) h
 |@frz a ob xs ea =>
  cases(show u=Value.ref a from rx)
  obtain⟨_,_,_,n,_,h1⟩:=(show bx X.prog X.w H s.heap a (.frz ob (.lst xs)) from I.hok a _ ea);exact PySem.W.kia_one PySem.W.kitx_list I.kIn ⟨_,h1,rfl⟩ e (λz=>nomatch z) h
 |@tup a xs ea =>
  cases(show u=Value.ref a from rx)
  obtain⟨_,_,_,p⟩:=(show bx X.prog X.w H s.heap a (.tup xs) from I.hok a _ ea);obtain⟨o,h1,h2,_⟩:=p;exact PySem.W.kia_one PySem.W.kitx_tuple I.kIn ⟨o,h1,h2⟩ e (λz=>nomatch z) h
 |@dK a Ir ea =>
  cases(show u=Value.ref a from rx)
  obtain⟨_,_,vs,_,p⟩:=(show bx X.prog X.w H s.heap a (.dK Ir) from I.hok a _ ea);obtain⟨o,es,ep,h1,h2,_⟩:=p;exact PySem.W.kia_one PySem.W.kitx_dict I.kIn ⟨o,h1,h2.1⟩ e (λz=>nomatch z) h
 |@dT a Ir ea =>
  cases(show u=Value.ref a from rx)
  obtain⟨_,_,xs,_,o,es,ep,h1,h2,_⟩:=(show bx X.prog X.w H s.heap a (.dT Ir) from I.hok a _ ea);exact PySem.W.kia_one PySem.W.kitx_dict I.kIn ⟨o,h1,h2.1⟩ e (λz=>nomatch z) h
 |@ins a C dx fs ea cl ha hn N7 hm =>
  cases(show u=Value.ref a from rx)
  obtain⟨mA,O,_⟩:=fU I.hok ea;obtain⟨od,J,_⟩:=O.look;exact PySem.W.kia_one (PySem.W.kitx_own (cl.get _) cl.hd ha hn N7 hm) I.kIn J e (λz=>nomatch z) h
end
structure p8 (k:Nat)(A:Around):Prop where
 hd:A.handled=none
 dp:A.depth+3*k+5<recursionLimit
 un:A.units+16*k+200<cLine
 gd:A.guards=some []
theorem p8.mono {j:Nat}(r:p8 k A)(h:j<=k):p8 j A:=⟨r.hd,by have:=r.dp;omega,by have:=r.un;omega,r.gd⟩
theorem p8.deeper (r:p8 (k+1) A)(env:Env):p8 k (A.deeper env):=
 ⟨r.hd,by have:=r.dp;show A.depth+1+3*k+5<_;omega,by have:=r.un;show A.units+3+16*k+200<_;omega,r.gd⟩
theorem p8.in1 (r:p8 (k+1) A):p8 k A.in1 :=
 ⟨r.hd,by have:=r.dp;show A.depth+3*k+5<_;omega,by have:=r.un;show A.units+1+16*k+200<_;omega,r.gd⟩
theorem aat :(A.under (.builtin "type.__call__" ⟨.ref C::us,kw⟩)).depth=A.depth+1:=by
 first|rfl|simp[Around.under,Code.weight,Code.isCreation,Code.isGuard,Code.isCaller,Code.frames,Code.isFrame,guardIds]
theorem aaJ :(A.under (.builtin "type.__call__" ⟨.ref C::us,kw⟩)).guards=A.guards:=by
 first|rfl|simp[Around.under,Code.guards,Code.isGuard,guardIds,pushGuards]
theorem acy :(A.under (.builtin "type.__call__" ⟨.ref C::us,kw⟩)).units=A.units+1:=by
 first|rfl|simp[Around.under,Code.cUnits,Code.frames,Code.isFrame]
theorem p8.make (r:p8 (k+1) A)(C:Addr)(us:oH)(kw:List (Str×Value)):p8 k (A.under (.builtin "type.__call__" ⟨.ref C::us,kw⟩)):=
 ⟨r.hd,by have:=r.dp;rw[aat];omega,by have:=r.un;rw[acy];omega,by rw[aaJ];exact r.gd⟩
theorem p8.depth (r:p8 k A):A.depth<recursionLimit:=by have:=r.dp;omega
theorem p8.units (r:p8 k A):A.units+64<cLine:=by have:=r.un;omega
theorem p8.aa2 (r:p8 k A):A.units<cLine:=by have:=r.un;omega
def An:TA:=λ_ H Q=>Q [] H
def dn (ta:TE)(tr:TA):TA:=λσ H Q=>ta σ H λx H1=>tr σ H1 λxs H2=>Q (x::xs) H2
section
variable {X:Cx}{e:Expr}{es:De}{te:TE}{t:TA}{pos:Pos}
theorem af:PA X [] An:=λ_ _ _ _ H Q I h=>Calls.spliced_nil ⟨[],H,I,.nil,h⟩
theorem bf (ha:PE X e te)(hr:PA X es t)(hs:starEach (e::es) X.env=(false,eval e X.env):: starEach es X.env:=by rfl):PA X (e::es) (dn te t):=by
 intro pos pins s σ H Q I h;rw[hs];show wpAny _ _ (spliced ((false,eval e X.env):: backTo pos (starEach es X.env))) _ _ s;refine Calls.spliced_cons (bK (ha pins s σ H _ I h) λu s1 z'=>?_);obtain⟨x,H1,I1,r1,q1⟩:=z';exact bK (hr pos pins s1 σ H1 _ I1 q1) λus s2 ⟨xs,H2,I2,r2,q2⟩=>⟨x::xs,H2,I2,.cons r1 r2,q2⟩
def D6 (t:TA):TE:=λσ H Q=>t σ H λxs H1=>xs.length<=sizeLine/\∀p,H1 p=none->Q (.ref p) (upd H1 p (.tup xs))
def C3 (t:TA):TE:=λσ H Q=>t σ H λxs H1=>xs.length<=sizeLine/\∀p,H1 p=none->Q (.ref p) (upd H1 p (.lst xs))
theorem bD {x1}(h:PA X es t):PE X (.Tuple es x1 pos) (D6 t):=by
 intro pins s σ H Q I hq;refine wpAny_Tuple_spliced (bK (h pos pins s σ H _ I hq) λus s1 ⟨xs,H1,I1,r,z,q⟩=>⟨by rw[<-r.length];exact z,?_⟩);have hf:H1 s1.heap.objs.size=none:=I1.hok.fresh (Nat.le_refl _);refine⟨.ref s1.heap.objs.size,upd H1 s1.heap.objs.size (.tup xs),I1.laid (t':=s1.toks) (λb u e=>Heap.get?_push_of_some _ e) (Nat.le_refl _) ?_,rfl,q _ hf⟩;exact⟨z,us,r,⟨_,Heap.get?_push_size _ rfl,rfl,_,rfl⟩⟩
theorem cw (h:PA X es t):PE X (.List es pos) (C3 t):=by
 intro pins s σ H Q I hq;refine wpAny_List_spliced (bK (h pos pins s σ H _ I hq) λus s1 ⟨xs,H1,I1,r,z,q⟩=>⟨by rw[<-r.length];exact z,?_⟩);have hf:H1 s1.heap.objs.size=none:=I1.hok.fresh (Nat.le_refl _);refine⟨.ref s1.heap.objs.size,upd H1 s1.heap.objs.size (.lst xs),I1.laid (t':=s1.toks) (λb u e=>Heap.get?_push_of_some _ e) (Nat.le_refl _) ?_,rfl,q _ hf⟩;exact⟨z,us,0,r,Heap.get?_push_size _ rfl⟩
end
abbrev Sp:=List V->Hp->VK->XK->Prop
abbrev GL:=List Env->Hp->Shared->XK->Value->Shared->Prop
structure Dl (P:yn)(w:World)(K:PySem.W.Frag)(mg:xf)(base:Heap)(A:Around)(outer:List Env)(s:Dx)(H:Hp):Prop where
 frames:A.frames=some outer
 mod:Mod K mg base
 bs:∀b o,base.get? b=some o->s.heap.get? b=some o/\H b=none
 bsz:base.objs.size<=s.heap.objs.size
 aau:s.heap.FunFrames base outer
 frf:∀b∈dU outer,H b=none
 hok:gf P w H s.heap
 bare:AllBare s.gens
def CE (outer:List Env)(P:yn)(w:World)(H:Hp)(s:Dx)(Q:VK)(u:Value)(s':Dx):Prop :=
 ∃v H',s'.os=s.os/\AllBare s'.gens/\Un (dU outer) [] H H' s.heap s'.heap/\gf P w H' s'.heap/\aG v u/\Q v H'
def acz (CX:GL)(outer:List Env)(P:yn)(w:World)(H:Hp)(s:Dx)(Q:VK)(E:XK)(r:Result)(s':Dx):Prop :=
 match r with
 | .ok (.ret u)=>CE outer P w H s Q u s'
 | .ok _=>False
 | .error e=>CX outer H s E e s'
structure Ik (P:yn)(w:World)(K:PySem.W.Frag)(mg:xf)(base:Heap)(CX:GL)(k:Nat)(f:Addr)(fd:zo)(ps:zX)(sp:Sp):Prop where
 len:∀vs H Q E,sp vs H Q E->vs.length=ps.length
 run:∀(A:Around)(outer:List Env)(s:Dx)(H:Hp)(args:Args)(us:oH)(vs:List V)(Q:VK)(E:XK),p8 k A->Dl P w K mg base A outer s H->BindsTo s fd args (ps.zip us)->aM vs us->sp vs H Q E →
  codeAny (model P w) A (.call (.ref f) args) (acz CX outer P w H s Q E) s
variable {mg:xf}{base:Heap}{outer:List Env}
theorem Dl.make (e:Dl P w K mg base A outer s H)(C:Addr)(us:oH)(kw:List (Str×Value)):
 Dl P w K mg base (A.under (.builtin "type.__call__" ⟨.ref C::us,kw⟩)) outer s H:=⟨by first|exact e.frames|(simpa[Around.under,Code.envs,Code.isFrame,pushEnvs] using e.frames),e.mod,e.bs,e.bsz,e.aau,e.frf,e.hok,e.bare⟩
theorem Dl.in1 (e:Dl P w K mg base A outer s H):
 Dl P w K mg base A.in1 outer s H:=⟨e.frames,e.mod,e.bs,e.bsz,e.aau,e.frf,e.hok,e.bare⟩
section
variable {X:Cx}{pins:List (Addr×Obj)}{σ:St}{H:Hp}{s s':Dx}
theorem Inv.abt (I:Inv X pins σ H s):Dl X.prog X.w X.K X.mg X.base X.A X.stack s H :=
 ⟨I.ok.frames,I.ok.mod,I.bs,Nat.le_trans I.ok.bsz I.sz,I.stack,I.aaD,I.hok,I.bare⟩
theorem Inv.after (I:Inv X pins σ H s)(h:CE X.stack X.prog X.w H s Q u s'):EP X pins σ Q u s':=by
 obtain⟨v,H',os,bare,un,hok,r,q⟩:=h;obtain⟨hh,g,d,t,Zo⟩:=s';obtain rfl:Zo=s.os:=os;exact⟨v,H',I.call (h':=hh) (g':=g) (d':=d) (t':=t) (ch:=[]) un hok bare (λb z=>absurd z (by simp)),r,q⟩
end
def Bx (sp:Sp)(dvs:List V)(E:XK)(t:TA):TE:=λσ H Q=>t σ H λvs H1=>sp (vs++dvs) H1 Q E
def BC (C:Addr)(m:Str)(sp:Sp)(dvs:List V)(E:XK)(ta:TE)(t:TA):TE:=λσ H Q=>ta σ H λx H1=>∃a dx fs,x=.ref a/\H1 a=some (.ins C dx fs)/\fs.lookup m=none /\
 t σ H1 λvs H2=>sp (x::(vs++dvs)) H2 Q E
def acA (C:Addr)(sp:Sp)(dvs:List V)(E:XK)(t:TA):TE:=λσ H Q=>t σ H λvs H1=>∀x dx,H1 x=none->H1 dx=none->dx≠x →
 sp (.ref x::(vs++dvs)) (upd (upd H1 dx (.own x)) x (.ins C dx [])) (λv H2=>v=.non/\Q (.ref x) H2) E
def ay (K:PySem.W.Frag)(fd:zo)(ps:zX)(ds:oH):Prop :=
 ∀(s:Dx)(us:oH),K.In s.heap->(us++ds).length=ps.length->BindsTo s fd ⟨us,[]⟩ (ps.zip (us++ds))
variable {ps:zX}
theorem ay.all {fd:zo}(h:∀us:List Value,us.length=ps.length->bindArgs fd ⟨us,[]⟩=pure (ps.zip us)):ay K fd ps []:=λs us _ hl=>by
 rw[List.append_nil] at hl |-;exact .of_eq (h us hl)
def ed (CX:GL)(X:Cx)(E:XK):Prop:=∀(pins:List (Addr×Obj))(σ:St)(H:Hp)(s:Dx)(e:Value)(s':Dx),Inv X pins σ H s->CX X.stack H s E e s'->X.xe e s'
section
variable {X:Cx}{CX:GL}{k:Nat}{f C:Addr}{fd:zo}{ps:zX}{sp:Sp}{dvs:List V}{ds:oH}{E:XK}{x m:Str}{p pos apos:Pos}{e o:Expr}{es:De}{ta:TE}{t:TA}
theorem oG {us:oH}{vs:List V}(F:Ik X.prog X.w X.K X.mg X.base CX k f fd ps sp)(hr:p8 k X.A)(hb:ay X.K fd ps ds)(hd:aM dvs ds)(hx:ed CX X E)
 (I:Inv X pins σ H s)(r:aM vs us)(h:sp (vs++dvs) H Q E):wpAny (model X.prog X.w) X.A (call (.ref f) us) (EP X pins σ Q) X.xe s:=by
 have r2:aM (vs++dvs) (us++ds):=r.append hd
 have hl:(us++ds).length=ps.length:=by rw[<-r2.length];exact F.len _ _ _ _ h
 refine wpAny_call (codeAny_mono (F.run X.A X.stack s H ⟨us,[]⟩ (us++ds) (vs++dvs) Q E hr I.abt (hb s us I.kIn hl) r2 h) λr s' hq=>?_)
 cases r with
 |error e=>exact hx pins σ H s e s' I hq
 |ok fl =>
  cases fl with
  |ret u=>exact I.after hq
  |next=>exact False.elim hq
  |brk=>exact False.elim hq
  |cont=>exact False.elim hq
theorem aB (F:Ik X.prog X.w X.K X.mg X.base CX k f fd ps sp)(hr:p8 k X.A)(hg:Gl X x)(hm:X.mg x=some (.ref f))(hk:PySem.W.keepIn X.K (.ref f)=true)(hb:ay X.K fd ps ds)(hd:aM dvs ds)(hx:ed CX X E)
 (ha:PA X (e::es) t)(Lo:(x==("__debug__":Str))=false:=by decide)(he:starEach (e::es) X.env=(false,eval e X.env):: starEach es X.env:=by rfl)(JK:(backTo pos (starEach es X.env)).any (·.1)=false:=by rfl):
 PE X (.Call (.Name x p) (e::es) [] pos) (Bx sp dvs E t):=by
 intro pins s σ H Q I h;refine wpAny_Call_Name_kw (fR I hg hm ?_ Lo);refine PySem.W.callWith_K (h₀:=X.base) I.ok.mod.kin hk (bK (ha pos pins s σ H _ I h) λus s1 ⟨vs,H1,I1,r,q⟩=>⟨I1.kIn,?_⟩) he JK;exact oG F hr hb hd hx I1 r q
theorem bY (he:PE X o ta)(c:Ig X.K C)(hm:Meth X.K C m f)(F:Ik X.prog X.w X.K X.mg X.base CX k f fd ps sp)(hr:p8 k X.A)(hb:ay X.K fd ps ds)(hd:aM dvs ds)(hx:ed CX X E)(ha:PA X (e::es) t)
 (Le:starEach (e::es) X.env=(false,eval e X.env):: starEach es X.env:=by rfl)(JK:(backTo pos (starEach es X.env)).any (·.1)=false:=by rfl)
 (ht:eval (.Call (.Attribute o m apos) (e::es) [] pos) X.env=(do
  let ov <-eval o X.env
  standAt apos.atName
  let(f,first) <-holding [ov] (getMethod ov m pl)
  callWith pos f first (backTo pos (starEach (e::es) X.env)) (backToKw pos (keywordEach [] X.env))):=by rfl):
 PE X (.Call (.Attribute o m apos) (e::es) [] pos) (BC C m sp dvs E ta t):=by
 intro pins s σ H Q I h;refine PySem.W.methodCall_KW (pl:=pl) (bK (he pins s σ H _ I h) λu s1 z'=>?_) ht;obtain⟨x,H1,I1,rx,a,dx,fs,ex,ea,l,q⟩:=z';subst ex;obtain rfl:u=Value.ref a:=rx;refine kQ I1 ea c hm l ?_;refine PySem.W.callWith_K (first:=[.ref a]) (h₀:=X.base) I.ok.mod.kin hm.kp (bK (ha pos pins s1 σ H1 _ I1 q) λus s2 ⟨vs,H2,I2,r,q2⟩=>⟨I2.kIn,?_⟩) Le JK;exact oG (us:=.ref a::us) (vs:=.ref a::vs) F hr hb hd hx I2 (.cons rfl r) q2
theorem cq (he:PE X o ta)(c:Ig X.K C)(hm:Meth X.K C m f)(F:Ik X.prog X.w X.K X.mg X.base CX k f fd ps sp)(hr:p8 k X.A)(hb:ay X.K fd ps ds)(hd:aM dvs ds)(hx:ed CX X E)
 (ht:eval (.Call (.Attribute o m apos) [] [] pos) X.env=(do
  let ov <-eval o X.env
  standAt apos.atName
  let(f,first) <-holding [ov] (getMethod ov m pl)
  callWith pos f first (backTo pos (starEach [] X.env)) (backToKw pos (keywordEach [] X.env))):=by rfl):
 PE X (.Call (.Attribute o m apos) [] [] pos) (BC C m sp dvs E ta An):=by
 intro pins s σ H Q I h;refine PySem.W.methodCall_KW (pl:=pl) (bK (he pins s σ H _ I h) λu s1 z'=>?_) ht;obtain⟨x,H1,I1,rx,a,dx,fs,ex,ea,l,q⟩:=z';subst ex;obtain rfl:u=Value.ref a:=rx;refine kQ I1 ea c hm l ?_;exact PySem.W.callWith_K0 (first:=[.ref a]) I1.kIn hm.kp (oG (us:=[.ref a]) (vs:=[.ref a]) F hr hb hd hx I1 (.cons rfl .nil) q)
structure Mk (K:PySem.W.Frag)(C f:Addr):Prop where
 makes:PySem.W.makesIn K C=true
 init:PySem.W.findIn K (.ref C) "__init__"=some (some (.ref f))
 fn:PySem.W.isFn K (.ref f)=true
 kp:PySem.W.keepIn K (.ref C)=true
theorem acB {vs:List V}(M:Mk X.K C f)(F:Ik X.prog X.w X.K X.mg X.base CX k f fd ps sp)(hr:p8 (k+1) X.A)(hb:ay X.K fd ps ds)(hd:aM dvs ds)
 (hx:ed CX X E)(I:Inv X pins σ H s)(r:aM vs us)
 (h:∀x dx,H x=none->H dx=none->dx≠x->sp (.ref x::(vs++dvs)) (upd (upd H dx (.own x)) x (.ins C dx [])) (λv H2=>v=.non/\Q (.ref x) H2) E):
 wpAny (model X.prog X.w) X.A (call (.ref C) us) (EP X pins σ Q) X.xe s:=by
 have hq:=h (s.heap.objs.size+1) s.heap.objs.size (I.hok.fresh (Nat.le_succ _)) (I.hok.fresh (Nat.le_refl _)) (Nat.ne_of_lt (Nat.lt_succ_self _));have I2:=Inv.made (C:=C) I;have r2:aM (V.ref (s.heap.objs.size+1):: (vs++dvs)) (Value.ref (s.heap.objs.size+1):: (us++ds)):=.cons rfl (r.append hd)
 have hl:(Value.ref (s.heap.objs.size+1):: us++ds).length=ps.length:=by
  have e:=r2.length;rw[F.len _ _ _ _ hq] at e;exact e.symm
 refine wpAny_call (ack (f:=f) I.kIn M.makes M.init (beq_iff_eq.mp M.fn) (codeAny_mono (F.run _ X.stack _ _ ⟨Value.ref (s.heap.objs.size+1):: us,[]⟩ (Value.ref (s.heap.objs.size+1):: (us++ds)) _ _ E (hr.make C us [])
  (I2.abt.make C us []) (hb _ (Value.ref (s.heap.objs.size+1):: us) I2.kIn hl) r2 hq) λr s' N8=>?_))
 cases r with
 |error e=>exact hx pins σ _ _ e s' I2 N8
 |ok fl =>
  cases fl with
  |ret u =>
   obtain⟨v,H',I3,rv,ev,q3⟩:=I2.after N8;subst ev;exact⟨rv,⟨V.ref (s.heap.objs.size+1),H',I3,rfl,q3⟩⟩
  |next=>exact False.elim N8
  |brk=>exact False.elim N8
  |cont=>exact False.elim N8
theorem gS (M:Mk X.K C f)(F:Ik X.prog X.w X.K X.mg X.base CX k f fd ps sp)(hr:p8 (k+1) X.A)(hg:Gl X x)(hm:X.mg x=some (.ref C))(hb:ay X.K fd ps ds)(hd:aM dvs ds)(hx:ed CX X E)
 (ha:PA X (e::es) t)(Lo:(x==("__debug__":Str))=false:=by decide)(he:starEach (e::es) X.env=(false,eval e X.env):: starEach es X.env:=by rfl)(JK:(backTo pos (starEach es X.env)).any (·.1)=false:=by rfl):
 PE X (.Call (.Name x p) (e::es) [] pos) (acA C sp dvs E t):=by
 intro pins s σ H Q I h;refine wpAny_Call_Name_kw (fR I hg hm ?_ Lo);refine PySem.W.callWith_K (h₀:=X.base) I.ok.mod.kin M.kp (bK (ha pos pins s σ H _ I h) λus s1 ⟨vs,H1,I1,r,q⟩=>⟨I1.kIn,?_⟩) he JK;exact acB M F hr hb hd hx I1 r q
end
def PK (X:Cx)(N9:List Keyword)(t:TA):Prop :=
 ∀(pos:Pos)(pins:List (Addr×Obj))(s:Dx)(σ:St)(H:Hp)(Q:List V->Hp->Prop),Inv X pins σ H s->t σ H Q->wpAny (model X.prog X.w) X.A (evalAll ((backToKw pos (keywordEach N9 X.env)).map (·.2))) (AP X pins σ Q) X.xe s
section
variable {X:Cx}{CX:GL}{k:Nat}{f C:Addr}{fd:zo}{ps ks:zX}{sp:Sp}{E:XK}{x m:Str}{p pos apos kpos:Pos}{e o:Expr}{es:De}{N9:List Keyword}{te ta:TE}{t tk:TA}{nm:Option Str}
theorem acD:PK X [] An:=λ_ _ _ _ H Q I h=>wpAny_evalAll_nil ⟨[],H,I,.nil,h⟩
theorem acE (ha:PE X e te)(hr:PK X N9 t):PK X (⟨nm,e,kpos⟩::N9) (dn te t):=by
 intro pos pins s σ H Q I h;show wpAny _ _ (evalAll ((do let v <-eval e X.env;standAt pos;pure v):: (backToKw pos (keywordEach N9 X.env)).map (·.2))) _ _ s;refine wpAny_evalAll_cons (wpAny_bind (bK (ha pins s σ H _ I h) λu s1 ⟨x,H1,I1,r1,q1⟩=>wpAny_bind (wpAny_standAt (wpAny_pure ?_))));exact bK (hr pos pins s1 σ H1 _ I1 q1) λus s2 ⟨xs,H2,I2,r2,q2⟩=>⟨x::xs,H2,I2,.cons r1 r2,q2⟩
variable {g:List Value->List Value->List Value}{gV:List V->List V->List V}
end
structure Av (N P:zX)(sc:Scope):Prop where
 kind:sc.kind=.function
 co:sc.isCoroutine=false
 gen:sc.isGenerator=false
 nd:N.Nodup
 pre:N.take P.length=P
 par:∀x∈P,sc.names.lookup x=some .local\/sc.names.lookup x=some .cell
 abS:∀y∈sc.names,y.2≠.free
theorem dk {P:zX}{sc:Scope}(h:sc.kind=.function/\sc.isCoroutine=false/\sc.isGenerator=false/\N.Nodup/\N.take P.length=P/\(∀x∈P,sc.names.lookup x=some .local\/sc.names.lookup x=some .cell)/\∀y∈sc.names,y.2≠.free):Av N P sc:=⟨h.1,h.2.1,h.2.2.1,h.2.2.2.1,h.2.2.2.2.1,h.2.2.2.2.2.1,h.2.2.2.2.2.2⟩
variable {kindOf:Str->Option NameKind}
theorem nG :∀{binds:List (Str×Value)}{m:xf},(∀v,(x,v)∉binds)->bindL kindOf binds m x=m x
 |[],_,_=>rfl
 |(n,v):: r,m,h=>by
  unfold bindL;rw[nG λw hw=>h w (List.mem_cons_of_mem _ hw)]
  split
  ·have:x≠n:=by rintro rfl;exact h v List.mem_cons_self
   simp[this]
  ·rfl
theorem ng :∀{binds:List (Str×Value)}{m:xf},(∀v,(x,v)∉binds)->bindC kindOf binds m x=m x
 |[],_,_=>rfl
 |(n,v):: r,m,h=>by
  unfold bindC;rw[ng λw hw=>h w (List.mem_cons_of_mem _ hw)]
  split
  ·rfl
  ·have:x≠n:=by rintro rfl;exact h v List.mem_cons_self
   simp[this]
theorem m8 {v:Value}:∀{P:zX}{vs:oH}{i:Nat}{m:xf},P.Nodup->P[i]?=some x->vs[i]?=some v->kindOf x=some .local →
 bindL kindOf (P.zip vs) m x=some v
 |[],_,_,_,_,h,_,_=>by simp at h
 |_::_,[],_,_,_,_,h,_=>by simp at h
 |p::P,w::vs,0,m,nd,h1,h2,hk=>by
  simp at h1 h2;subst h1;subst h2;show bindL kindOf ((p,w):: P.zip vs) m p=_;unfold bindL;rw[nG λv hv=>(List.nodup_cons.mp nd).1 (List.of_mem_zip hv).1,if_pos hk];simp
 |p::P,w::vs,i+1,m,nd,h1,h2,hk=>by
  show bindL kindOf ((p,w):: P.zip vs) m x=_;unfold bindL;exact m8 (i:=i) (List.nodup_cons.mp nd).2 (by simpa using h1) (by simpa using h2) hk
theorem mH {v:Value}:∀{P:zX}{vs:oH}{i:Nat}{m:xf},P.Nodup->P[i]?=some x->vs[i]?=some v->kindOf x≠some .local →
 bindC kindOf (P.zip vs) m x=some v
 |[],_,_,_,_,h,_,_=>by simp at h
 |_::_,[],_,_,_,_,h,_=>by simp at h
 |p::P,w::vs,0,m,nd,h1,h2,hk=>by
  simp at h1 h2;subst h1;subst h2;show bindC kindOf ((p,w):: P.zip vs) m p=_;unfold bindC;rw[ng λv hv=>(List.nodup_cons.mp nd).1 (List.of_mem_zip hv).1,if_neg hk];simp
 |p::P,w::vs,i+1,m,nd,h1,h2,hk=>by
  show bindC kindOf ((p,w):: P.zip vs) m x=_;unfold bindC;exact mH (i:=i) (List.nodup_cons.mp nd).2 (by simpa using h1) (by simpa using h2) hk
def hV (N:zX)(vs:List V):St:=vs.map some++List.replicate (N.length-vs.length) none
def gG (CX:GL)(P:yn)(w:World)(K:PySem.W.Frag)(mg:xf)(base:Heap)(N:zX)(qual:Str)(scope:Scope)(f:Addr)(cd:Value)(A:Around)(outer:List Env)(s:Dx)(H:Hp)(E:XK):Cx where
 prog:=P
 w:=w
 K:=K
 mg:=mg
 base:=base
 A:=A.deeper (envOfC qual scope s.heap.objs.size f cd)
 N:=N
 s₀:=s
 H₀:=H
 env:=envOfC qual scope s.heap.objs.size f cd
 outer:=outer
 stack:=envOfC qual scope s.heap.objs.size f cd::outer
 ex:=[]
 calm:=true
 fn:=λ_=>true
 pn:=[]
 xe:=λe s'=>wpAny (model P w) (A.deeper (envOfC qual scope s.heap.objs.size f cd)) (leaving (envOfC qual scope s.heap.objs.size f cd) e) (λ_ Tf=>CX outer H s E e Tf) (λe' Tf=>CX outer H s E e' Tf) s'
theorem qo {sc:Scope}{n:Nat}(h:sc.names.lookup x=some .cell):∃c,(cellsFrom n sc.names []).lookup x=some c:=by
 have q:=PySem.W.cellsFrom_some sc.names n [] (.inl h);exact Option.isSome_iff_exists.mp q
theorem acF {CX:GL}{qual:Str}{scope:Scope}{f:Addr}{cd:Value}{s1:Dx}{E:XK}{vs:List V}
 (S:Av N ps scope)(hd:A.handled=none)(e0:Dl P w K mg base A outer s H)(hl:vs.length=ps.length)(r:aM vs us)
 (x:InCallC s s.heap.objs.size (bindL (envOfC qual scope s.heap.objs.size f cd).kindOf (ps.zip us) λ_=>none) (cellsFrom (s.heap.objs.size+1) scope.names []) (bindC (envOfC qual scope s.heap.objs.size f cd).kindOf (ps.zip us) λ_=>none) s1):
 Inv (gG CX P w K mg base N qual scope f cd A outer s H E) [] (hV N vs) H s1:=by
 have JK:ps.length<=N.length:=by have:=congrArg List.length S.pre;rw[List.length_take] at this;omega
 obtain⟨h1,tk,rfl,hk⟩:=x.done;have Oa:∀b:Addr,b∉(gG CX P w K mg base N qual scope f cd A outer s H E).ex:=λb z=>absurd (show b∈([]:List Addr) from z) (by simp)
 refine⟨⟨e0.mod,S.kind,rfl,rfl,Nat.le_refl _,λy z c h1 h2=>?_,λy hy=>?_,λy c _ h=>?_,λ_=>hd,Around.frames_deeper e0.frames,.inr ⟨rfl,rfl⟩,λb z=>absurd z (Oa b),e0.bs,e0.bsz,λb _ _=>Oa b,λb z=>absurd z (Oa b),e0.aau,e0.frf⟩,
  rfl,e0.bare,Un.kept hk,⟨_,x.toInCall.ns,λi y v h1 h2 h3=>?_⟩,λy c h=>⟨_,x.cell y c h⟩,e0.hok.fresh (Nat.le_refl _),λy c h=>?_,λp hp=>absurd (show p∈([]:List (Addr×Obj)) from hp) (by simp),e0.hok.kept hk,?_⟩
 ·exact name_of_addr x.apart (PySem.mem_of_lookup h1) (PySem.mem_of_lookup h2)
 ·have hy:scope.names.lookup y=some .cell\/scope.names.lookup y=some .free:=hy
  rcases hy with hy|hy
  ·exact qo hy
  ·exact absurd rfl (S.abS _ (PySem.mem_of_lookup hy))
 ·exact Nat.le_of_lt (x.above y c (PySem.mem_of_lookup h))
 ·have hi:i<vs.length:=by
   unfold hV at h2
   by_cases hi:i<vs.length
   ·exact hi
   ·rw[List.getElem?_append_right (by simpa using hi)] at h2;rw[List.getElem?_replicate] at h2
    split at h2 <;> cases h2
  have ha:vs[i]?=some v:=by
   unfold hV at h2;rw[List.getElem?_append_left (by simpa using hi),List.getElem?_map] at h2
   cases e:vs[i]? with
   |none=>rw[e] at h2;cases h2
   |some a=>rw[e] at h2;cases h2;rfl
  obtain⟨u,hu,rv⟩:=r.get ha
  have hp:ps[i]?=some y:=by
   rw[<-S.pre,List.getElem?_take_of_lt (by omega)];exact h1
  have Xf:ps.Nodup:=by rw[<-S.pre];exact S.nd.sublist (List.take_sublist _ _)
  refine⟨u,rv,?_⟩
  rcases S.par y (List.mem_of_getElem? hp) with k|k
  ·exact .inl ⟨k,m8 Xf hp hu k⟩
  ·obtain⟨c,e⟩:=qo (n:=s.heap.objs.size+1) k;refine .inr ⟨.inl k,c,e,?_⟩;have q:=x.cell y c e;rw[mH Xf hp hu (by show scope.names.lookup y≠_;rw[k];decide)] at q;exact q
 ·exact e0.hok.fresh (Nat.le_of_lt (x.above y c (PySem.mem_of_lookup h)))
 ·unfold hV;show _=N.length;rw[List.length_append,List.length_map,List.length_replicate];omega
theorem xI {CX:GL}{f:Addr}{name qual:Str}{params:Arguments}{scope:Scope}{dV kV doc pm Iv ct oc:Value}{an od:CO}
 {IQ:va}{sp:Sp}(lk:K.lookup f=some ⟨oc,od,.func (PySem.W.fnOf name qual params body scope dV kV doc pm an Iv ct),IQ⟩)(Jp:PySem.W.codeIn K Iv qual=true)(S:Av N ps scope)
 (len:∀vs H Q E,sp vs H Q E->vs.length=ps.length)
 (Jl:∀(A:Around)(outer:List Env)(s:Dx)(H:Hp)(vs:List V)(Q:VK)(E:XK),p8 k (A.deeper (envOfC qual scope s.heap.objs.size f Iv))->sp vs H Q E →
  ∃t,oV (gG CX P w K mg base N qual scope f Iv A outer s H E) body t/\t {nx:=λ_ H'=>Q .non H',rt:=Q} (hV N vs) H):
 Ik P w K mg base CX (k+1) f (PySem.W.fnOf name qual params body scope dV kV doc pm an Iv ct) ps sp:=by
 refine⟨len,λA outer s H args us vs Q E hr e0 hb r Kq=>?_⟩;have hl:=len _ _ _ _ Kq;have KX:K.In s.heap:=e0.mod.kin.keeps λb o e=>(e0.bs b o e).1;have lim:s.heap.NoLimit:=e0.mod.nolimit.keeps λb o e=>(e0.bs b o e).1
 have Kv:∀y∈ps.zip us,scope.names.lookup y.1=some .local\/(scope.names.lookup y.1=some .cell/\((cellsFrom (s.heap.objs.size+1) scope.names []).lookup y.1).isSome=true):=λ⟨n,v⟩ hy=>by
  rcases S.par n (List.of_mem_zip hy).1 with q|q
  ·exact .inl q
  ·exact .inr ⟨q,PySem.W.cellsFrom_some _ _ _ (.inl q)⟩
 refine codeAny_call_function hr.depth (KX _ _ lk) rfl S.co S.gen rfl (PySem.W.codeRec_of KX Jp) (hb _ _ _ _ ?_);refine wpAny_newFunctionEnv_cells S.kind Kv λenv he s1 x=>?_;subst he;refine⟨lim.keeps x.toInCall.keep,codeAny_func ?_⟩;obtain⟨t,ht,hq⟩:=Jl A outer s H vs Q E (hr.deeper _) Kq;have I:Inv (gG CX P w K mg base N qual scope f Iv A outer s H E) [] (hV N vs) H s1:=acF S hr.hd e0 hl r x;refine wpAny_mono (ht [] s1 (hV N vs) H _ I hq) (λfl s' hs=>?_) λe s' hs=>hs
 have fin:∀{σ':St}{H':Hp}{v:V}{u:Value},Inv (gG CX P w K mg base N qual scope f Iv A outer s H E) [] σ' H' s'->aG v u->Q v H'->CE outer P w H s Q u s' :=
  λ{σ' H' v u} J rv q=>⟨v,H',J.os,J.bare,J.base,J.hok,rv,q⟩
 cases fl with
 |ret u =>
  obtain⟨v,σ',H',J,rv,q⟩:=hs;exact fin J rv q
 |next =>
  obtain⟨σ',H',J,q⟩:=hs;exact fin (v:=V.non) (u:=Value.none) J rfl q
 |brk =>
  obtain⟨_,_,_,q⟩:=hs;exact False.elim q
 |cont =>
  obtain⟨_,_,_,q⟩:=hs;exact False.elim q
section
variable {X:Cx}{x:Str}{p pos:Pos}{e:Expr}{es:De}{t:TA}{id T:String}{r:List V->Hp->VK->Prop}
def HK (r:List V->Hp->VK->Prop)(t:TA):TE:=λσ H Q=>t σ H λvs H1=>r vs H1 Q
theorem aD (hc:eZ X (.builtin id) r)(hg:Gl X x)(hm:X.mg x=none)(hv:bootBuiltins x=some (.builtin id))(ha:PA X (e::es) t)(hn:x ≠ "__name__":=by decide)(Lo:(x==("__debug__":Str))=false:=by decide)
 (he:starEach (e::es) X.env=(false,eval e X.env):: starEach es X.env:=by rfl)(JK:(backTo pos (starEach es X.env)).any (·.1)=false:=by rfl):PE X (.Call (.Name x p) (e::es) [] pos) (HK r t):=by
 intro pins s σ H Q I h;refine wpAny_Call_Name_kw (cN I hg hm hv ?_ hn Lo);exact PyProof.Rows.callWith_builtin1 (bK (ha pos pins s σ H _ I h) λus s1 ⟨vs,H1,I1,r1,q1⟩=>hc pins s1 σ H1 vs us Q I1 r1 q1) he JK
theorem dF (hc:eZ X (.type T) r)(hg:Gl X x)(hm:X.mg x=none)(hv:bootBuiltins x=some (.type T))(ha:PA X (e::es) t)(hn:x ≠ "__name__":=by decide)(Lo:(x==("__debug__":Str))=false:=by decide)
 (he:starEach (e::es) X.env=(false,eval e X.env):: starEach es X.env:=by rfl)(JK:(backTo pos (starEach es X.env)).any (·.1)=false:=by rfl):PE X (.Call (.Name x p) (e::es) [] pos) (HK r t):=by
 intro pins s σ H Q I h;refine wpAny_Call_Name_kw (cN I hg hm hv ?_ hn Lo);exact PyProof.Rows.callWith_type1 (bK (ha pos pins s σ H _ I h) λus s1 ⟨vs,H1,I1,r1,q1⟩=>hc pins s1 σ H1 vs us Q I1 r1 q1) he JK
end
section
variable {κ:Type} [DecidableEq κ]
def jg (Ir:List (κ×V))(k:κ):Option V:=(Ir.find? λkv=>decide (kv.1=k)).map (·.2)
def fK (Ir:List (κ×V))(k:κ)(v:V):List (κ×V):=
 if(Ir.any λkv=>decide (kv.1=k))=true then Ir.map (λkv=>if kv.1=k then(kv.1,v) else kv) else Ir++[(k,v)]
theorem iS {p:κ×V}{r:List (κ×V)}{k:κ}(e:p.1=k):jg (p::r) k=some p.2:=by simp[jg,List.find?_cons,e]
theorem gk {p:κ×V}{r:List (κ×V)}{k:κ}(e:¬p.1=k):jg (p::r) k=jg r k:=by simp[jg,List.find?_cons,e]
theorem lB (k:κ):∀Ir:List (κ×V),(Ir.any λkv=>decide (kv.1=k))=(jg Ir k).isSome
 |[]=>rfl
 |p::r=>by
  rw[List.any_cons]
  by_cases e:p.1=k
  ·simp only[iS e,decide_eq_true e,Bool.true_or,Option.isSome_some]
  ·rw[gk e,decide_eq_false e,Bool.false_or];exact lB k r
theorem jz (Ir:List (κ×V))(k:κ)(v:V):(fK Ir k v).length<=Ir.length+1:=by
 unfold fK
 split
 ·rw[List.length_map];omega
 ·rw[List.length_append,List.length_cons,List.length_nil];omega
theorem f9.aaL {o:Option V}{u:rh}(r:f9 o u):o.isSome=u.isSome:=by
 cases o with
 |none=>cases u with
  |none=>rfl
  |some _=>exact(show False from r).elim
 |some _=>cases u with
  |none=>exact(show False from r).elim
  |some _=>rfl
theorem f9.getD {o:Option V}{u:rh}{d:V}{d':Value}(r:f9 o u)(rd:aG d d'):aG (o.getD d) (u.getD d'):=by
 cases o with
 |none=>cases u with
  |none=>exact rd
  |some _=>exact(show False from r).elim
 |some _=>cases u with
  |none=>exact(show False from r).elim
  |some _=>exact r
theorem KV.val {Ir:List (κ×V)}{vs:List (κ×Value)}(r:KV Ir vs)(k:κ):f9 (jg Ir k) (valueAt vs k):=by
 unfold KV at r
 induction r with
 |nil=>exact True.intro
 |@cons p q ps qs h t ih =>
  obtain⟨h1,h2⟩:=h
  by_cases e:p.1=k
  ·have e':q.1=k:=h1.symm.trans e
   have b:valueAt (q::qs) k=some q.2:=by simp[valueAt,List.find?_cons,e']
   rw[iS e,b];exact h2
  ·have e':¬q.1=k:=λz=>e (h1.trans z)
   have b:valueAt (q::qs) k=valueAt qs k:=by simp[valueAt,List.find?_cons,e']
   rw[gk e,b];exact ih
theorem KV.any {Ir:List (κ×V)}{vs:List (κ×Value)}(r:KV Ir vs)(k:κ):(Ir.any λkv=>decide (kv.1=k))=vs.any λkv=>decide (kv.1=k):=by
 unfold KV at r
 induction r with
 |nil=>rfl
 |cons h t ih=>rw[List.any_cons,List.any_cons,ih,h.1]
theorem KV.abT {Ir:List (κ×V)}{vs:List (κ×Value)}(r:KV Ir vs)(k:κ)(ry:aG y u):
 KV (Ir.map λkv=>if kv.1=k then(kv.1,y) else kv) (vs.map λkv=>if kv.1=k then(kv.1,u) else kv):=by
 unfold KV at r |-
 induction r with
 |nil=>exact .nil
 |@cons p q ps qs h t ih =>
  rw[List.map_cons,List.map_cons];refine .cons ?_ ih;obtain⟨h1,h2⟩:=h
  by_cases e:p.1=k
  ·rw[if_pos e,if_pos (h1.symm.trans e)];exact⟨h1,ry⟩
  ·rw[if_neg e,if_neg (λz=>e (h1.trans z))];exact⟨h1,h2⟩
theorem KV.put {Ir:List (κ×V)}{vs:List (κ×Value)}(r:KV Ir vs)(k:κ)(ry:aG y u):KV (fK Ir k y) (stored vs k u):=by
 unfold fK stored;rw[r.any k]
 by_cases e:(vs.any λkv=>decide (kv.1=k))=true
 ·rw[if_pos e,if_pos e];exact r.abT k ry
 ·rw[if_neg e,if_neg e];exact Paired.snoc r ⟨rfl,ry⟩
theorem KV.length {Ir:List (κ×V)}{vs:List (κ×Value)}(r:KV Ir vs):Ir.length=vs.length:=Paired.length r
end
theorem pJ {k:Key}(r:aG (kV k) u):(bZ P w).is k u=true:=by
 cases k with
 |inl i=>obtain⟨t,e⟩:=(show ∃t,u=Value.int i t from r);subst e;exact aas P w i t
 |inr x=>obtain⟨t,e⟩:=(show ∃t,u=Value.str x t from r);subst e;exact aav P w x t
theorem mZ :∀{ks:List Key}{us:oH},aM (ks.map kV) us->ItemsAre (bZ P w) ks us
 |[],_,r=>by rw[List.map_nil] at r;cases r;exact .nil
 |k::ks,_,r=>by
  rw[List.map_cons] at r
  cases r with
  |cons h t=>exact .cons (pJ h) (mZ t)
abbrev KT (H:Hp):List (List Key×V)->List (List Key×Addr×Value)->Prop:=Paired λp q=>p.1=q.1/\H q.2.1=some (.tup (p.1.map kV))/\aG p.2 q.2.2
variable {Ir:List (List Key×V)}{xs:List (List Key×Addr×Value)}
theorem KT.val (r:KT H Ir xs)(k:List Key):f9 (jg Ir k) ((atKey xs k).map (·.2)):=by
 induction r with
 |nil=>exact True.intro
 |@cons p q ps qs h t ih =>
  obtain⟨h1,_,h2⟩:=h
  by_cases e:p.1=k
  ·have e':q.1=k:=h1.symm.trans e
   have b:atKey (q::qs) k=some q.2:=by simp[atKey,List.find?_cons,e']
   rw[iS e,b];exact h2
  ·have e':¬q.1=k:=λz=>e (h1.trans z)
   have b:atKey (q::qs) k=atKey qs k:=by simp[atKey,List.find?_cons,e']
   rw[gk e,b];exact ih
theorem KT.abT (r:KT H Ir xs)(k:List Key)(ry:aG y u):
 KT H (Ir.map λkv=>if kv.1=k then(kv.1,y) else kv) (xs.map (putAt k u)):=by
 induction r with
 |nil=>exact .nil
 |@cons p q ps qs h t ih =>
  rw[List.map_cons,List.map_cons];refine .cons ?_ ih;obtain⟨h1,h2,h3⟩:=h;unfold putAt
  by_cases e:p.1=k
  ·rw[if_pos e,if_pos (h1.symm.trans e)];exact⟨h1,h2,ry⟩
  ·rw[if_neg e,if_neg (λz=>e (h1.trans z))];exact⟨h1,h2,h3⟩
theorem KT.put (r:KT H Ir xs)(k:List Key)(hb:H b=some (.tup (k.map kV)))(ry:aG y u):
 KT H (fK Ir k y) (storedH xs k b u):=by
 have e:(Ir.any λkv=>decide (kv.1=k))=(atKey xs k).isSome:=by
  rw[lB,(r.val k).aaL,Option.isSome_map]
 unfold fK storedH;rw[e]
 by_cases q:(atKey xs k).isSome=true
 ·rw[if_pos q,if_pos q];exact r.abT k ry
 ·rw[if_neg q,if_neg q];exact Paired.snoc r ⟨rfl,hb,ry⟩
theorem KT.keeps (r:KT H Ir xs)(ht:∀b ys,H b=some (.tup ys)->H' b=some (.tup ys)):KT H' Ir xs :=
 Paired.aax r λ_ _ z=>⟨z.1,ht _ _ z.2.1,z.2.2⟩
section
variable {P:yn}{w:World}{H:Hp}{h:Heap}{a:Addr}
theorem BJ {u:HO}(ok:gf P w H h)(e:Rd H a u):bx P w H h a u:=e.ok ok
theorem mX {Ir:List (Key×V)}(ok:gf P w H h)(e:Rd H a (.dK Ir)):Ir.length<=sizeLine/\(a==sysModules)=false/\∃vs,KV Ir vs/\h.DictOf (bZ P w) a vs :=
 show bx P w H h a (.dK Ir) from BJ ok e
theorem acG {Ir:List (Key×V)}(ok:gf P w H h)(e:H a=some (.dK Ir)):Ir.length<=sizeLine/\(a==sysModules)=false/\∃vs,KV Ir vs/\h.DictOf (bZ P w) a vs:=mX ok (.inl e)
theorem lX {ks:List Key}(ok:gf P w H h)(e:H a=some (.tup (ks.map kV))):(tupleKind (bZ P w)).is h ks a:=by
 obtain⟨_,its,r,o,h1,h2,n,h3⟩:=(show bx P w H h a (.tup (ks.map kV)) from ok a _ e);exact⟨o,its.toArray,n,h1,h2,h3,by simpa using mZ r⟩
theorem mr (ok:gf P w H h)(e:Rd H a (.dT Ir)):Ir.length<=sizeLine/\(a==sysModules)=false /\
 ∃xs,KT H Ir xs/\h.DictOfH (tupleKind (bZ P w)) a xs:=by
 obtain⟨z,y,xs,r,o,es,ep,h1,h2,h3,h4,h5⟩:=(show bx P w H h a (.dT Ir) from BJ ok e);refine⟨z,y,xs,r,o,es,ep,h1,h2,h3,h4,λx hx=>?_,h5⟩
 have all:∀{l:List (List Key×V)}{m:List (List Key×Addr×Value)},KT H l m->∀x∈m,(tupleKind (bZ P w)).is h x.1 x.2.1:=by
  intro l m q
  induction q with
  |nil=>intro x hx;exact nomatch hx
  |@cons p q ps qs hq t ih =>
   intro x hx
   rcases List.mem_cons.mp hx with e|hx
   ·subst e;exact lX ok (by rw[<-hq.1];exact hq.2.1)
   ·exact ih x hx
 exact all r x hx
theorem acI (ok:gf P w H h)(e:H a=some (.dT Ir)):Ir.length<=sizeLine/\(a==sysModules)=false /\
 ∃xs,KT H Ir xs/\h.DictOfH (tupleKind (bZ P w)) a xs:=mr ok (.inl e)
end
def jh (H:Hp)(a:Addr)(y:V)(r:Option V):Prop :=
 (∃Ir k,Rd H a (.dK Ir)/\y=kV k/\r=jg Ir k)\/∃Ir k b,Rd H a (.dT Ir)/\y=.ref b/\H b=some (.tup (k.map kV))/\r=jg Ir k
def qj (H:Hp)(a:Addr)(y v:V)(H':Hp):Prop :=
 (∃Ir k,H a=some (.dK Ir)/\y=kV k/\Ir.length<sizeLine/\H'=upd H a (.dK (fK Ir k v))) \/
 ∃Ir k b,H a=some (.dT Ir)/\y=.ref b/\H b=some (.tup (k.map kV))/\Ir.length<sizeLine/\H'=upd H a (.dT (fK Ir k v))
theorem jh.t {b:Addr}{k:List Key}(e:H a=some (.dT Ir))(eb:H b=some (.tup (k.map kV))):jh H a (.ref b) (jg Ir k):=.inr ⟨Ir,k,b,.inl e,rfl,eb,rfl⟩
theorem qj.t {b:Addr}{k:List Key}{v:V}(e:H a=some (.dT Ir))(eb:H b=some (.tup (k.map kV)))(hl:Ir.length<sizeLine):
 qj H a (.ref b) v (upd H a (.dT (fK Ir k v))):=.inr ⟨Ir,k,b,e,rfl,eb,hl,rfl⟩
section
variable {X:Cx}{pins:List (Addr×Obj)}{σ:St}{H:Hp}{s:Dx}{a:Addr}{y v:V}{u r:Value}{o:Option V}{A:Around}{E:yj}
theorem Inv.big (I:Inv X pins σ H s):sysModules<s.heap.objs.size:=by
 have h:mainGlobals<s.heap.objs.size:=(I.mod.glob.keeps I.bk).lt;exact Nat.lt_trans (by decide) h
theorem abi {Q:yj}(hu:A.units+1<cLine)(I:Inv X pins σ H s)(g:jh H a y (some v))(ry:aG y u)(h:∀w' s',Inv X pins σ H s'->aG v w'->Q w' s'):
 wpAny (model X.prog X.w) A (getItem (.ref a) u) Q E s:=by
 rcases g with⟨Ir,k,e,ey,l⟩|⟨Ir,k,b,e,ey,eb,l⟩
 ·subst ey;obtain⟨z,hd,vs,rel,dd⟩:=mX I.hok e;obtain⟨w',hw,Jg⟩:=f9.some_of (v:=v) (o:=valueAt vs k) (by rw[l];exact rel.val k);exact wpAny_getItem_of (pJ ry) dd.mapOf hw (h w' _ (I.tok _) Jg)
 ·subst ey
  cases(show u=Value.ref b from ry)
  obtain⟨z,hd,xs,rel,dd⟩:=mr I.hok e;obtain⟨w',hw,Jg⟩:=f9.some_of (v:=v) (o:=(atKey xs k).map (·.2)) (by rw[l];exact rel.val k);obtain⟨p,hp,NB⟩:=Option.map_eq_some_iff.mp hw;refine wpAny_getItem_heap (tupleKind_room_in1 hu) (lX I.hok eb) dd hp ?_;rw[NB];exact h w' _ (I.tok _) Jg
theorem abj {Q:yj}(hu:A.units+1<cLine)(I:Inv X pins σ H s)(g:jh H a y o)(ry:aG y u)(h:∀s',Inv X pins σ H s'->Q (.bool o.isSome) s'):
 wpAny (model X.prog X.w) A (compareOp .In u (.ref a)) Q E s:=by
 rcases g with⟨Ir,k,e,ey,l⟩|⟨Ir,k,b,e,ey,eb,l⟩
 ·subst ey;obtain⟨z,hd,vs,rel,dd⟩:=mX I.hok e;refine wpAny_in_of (pJ ry) hd dd.mapOf ?_;rw[<-(rel.val k).aaL,<-l];exact h _ (I.tok _)
 ·subst ey
  cases(show u=Value.ref b from ry)
  obtain⟨z,hd,xs,rel,dd⟩:=mr I.hok e;refine wpAny_in_heap (tupleKind_room_in1 hu) (lX I.hok eb) hd dd ?_;have q:=(rel.val k).aaL;rw[Option.isSome_map] at q;rw[<-q,<-l];exact h _ (I.tok _)
theorem uf {h':Heap}{t':Nat}{ob:HO}(I:Inv X pins σ H s)(mu:ED (H a))(hs:Heap.SameBut a s.heap h')(he:∃q,h'.get? a=some q)(new:bx X.prog X.w (upd H a ob) h' a ob):
 Inv X pins σ (upd H a ob) {s with heap:=h',toks:=t'}:=
 I.write (x:=a) (e:=a) mu (.inl rfl) (λb q hb z=>(hs.2 b hb).trans z) he new
theorem aa3 {h':Heap}{Ir:List (Key×V)}{vs:List (Key×Value)}(z:Ir.length<=sizeLine)(hd:(a==sysModules)=false)(rel:KV Ir vs)(dd:h'.DictOf (bZ P w) a vs):
 bx P w H' h' a (.dK Ir):=⟨z,hd,vs,rel,dd⟩
theorem aaR {Q:Unit->Shared->Prop}(hu:A.units+1<cLine)(I:Inv X pins σ H s)(g:qj H a y v H')(ry:aG y u)(rv:aG v r)(h:∀s',Inv X pins σ H' s'->Q () s'):
 wpAny (model X.prog X.w) A (setItem (.ref a) u r) Q E s:=by
 rcases g with⟨Ir,k,e,ey,l,eH⟩|⟨Ir,k,b,e,ey,eb,l,eH⟩
 ·subst ey eH;obtain⟨z,hd,vs,rel,dd⟩:=acG I.hok e
  have hz:vs.length<=sizeLine:=by rw[<-rel.length];exact z
  have hl:(fK Ir k v).length<=sizeLine:=by have:=jz Ir k v;omega
  refine wpAny_setItem_pairs (hsz:=hz) (pJ ry) dd λh' Sr hs=>h _ ?_;have he:∃q,h'.get? a=some q:=let⟨q,_,_,hq,_⟩:=Sr;⟨q,hq⟩;exact uf I (by rw[e];exact True.intro) hs he (aa3 hl hd (rel.put k rv) Sr)
 ·subst ey eH
  cases(show u=Value.ref b from ry)
  obtain⟨z,hd,xs,rel,dd⟩:=acI I.hok e
  have hz:xs.length<=sizeLine:=by rw[<-Paired.length rel];exact z
  have hl:(fK Ir k v).length<=sizeLine:=by have:=jz Ir k v;omega
  refine wpAny_setItem_heap (hsz:=hz) (tupleKind_room_in1 hu) (lX I.hok eb) dd λh' Sr hs=>h _ ?_;obtain⟨q,es,ep,hq,h2,h3,h4,_,h5⟩:=Sr;refine uf I (by rw[e];exact True.intro) hs ⟨q,hq⟩ ⟨hl,hd,_,(rel.put k eb rv).keeps λc ys ec=>?_,q,es,ep,hq,h2,h3,h4,h5⟩;rw[av (y8 ec e (λz=>nomatch z))];exact ec
end
def Ej (i:Expr):Prop:=∀ov iv,subscripted i false ov iv=operate [ov,iv] (getItem ov iv)
theorem abm {prog:yn}{E:yj}{env:Env}{value slice:Expr}{T id:String}{Q:yj}
 (hl:typeLookup (.type T) "__getitem__"=pure (some (.builtin id)))(hs:Ej slice)
 (h:wpAny (model prog w) A (eval value env) (λo s₁=>wpAny (model prog w) A (eval slice env) (λi s₂=>s₂.TypeIs o T/\wpAny (model prog w) A (getItem o i) Q E s₂) E s₁) E s):
 wpAny (model prog w) A (eval (.Subscript value slice pos) env) Q E s:=by
 refine Subscript_ (wpAny_mono h (λo s₁ h₁=>wpAny_mono h₁ (λi s₂ h₂=>?_) λ_ _ x=>x) λ_ _ x=>x);obtain⟨hT,h₂⟩:=h₂;unfold subscriptTail;refine wpAny_bind ?_;rw[getitemInPython_of_ne hT.not_modules];refine wpAny_bind (wpAny_specialOf hT hl ?_)
 have fin:wpAny (model prog w) A (subscripted slice false o i) (λr s₃=>wpAny (model prog w) A (letTemporaryGo value o r>>=λ_=>pure r) Q E s₃) E s₂:=by
  rw[hs o i];exact wpAny_operating (wpAny_mono h₂ (λr s₃ h₃=>wpAny_bind (wpAny_letTemporaryGo (wpAny_pure h₃))) λ_ _ x=>x)
 first
  |exact wpAny_pure (wpAny_bind fin)
  |exact wpAny_bind (wpAny_pure (wpAny_bind fin))
  |exact wpAny_bind fin
theorem abw {o:Option V}(I:Inv X pins σ H s)(g:jh H a y o):s.TypeIs (.ref a) "dict":=by
 rcases g with⟨Ir,k,e,_,_⟩|⟨Ir,k,b,e,_,_,_⟩
 ·obtain⟨_,_,vs,_,dd⟩:=mX I.hok e;exact dd.typeIs
 ·obtain⟨_,_,xs,_,dd⟩:=mr I.hok e;exact dd.typeIs
def aaT (td ty:TE):TE:=λσ H Q=>td σ H λx H1=>ty σ H1 λy H2=>∃a v,x=.ref a/\jh H2 a y (some v)/\Q v H2
def abf (ty td:TE):TE:=λσ H Q=>ty σ H λy H1=>td σ H1 λx H2=>∃a o,x=.ref a/\jh H2 a y o/\Q (.bl o.isSome) H2
def abB (td ty tv:TE):TS:=λD σ H=>tv σ H λv H1=>td σ H1 λx H2=>ty σ H2 λy H3=>∃a H4,x=.ref a/\qj H3 a y v H4/\D.nx σ H4
section
variable {X:Cx}{o i e value:Expr}{pos pos' Td:Pos}{td ty tv:TE}
theorem oK (hu:X.A.units+1<cLine)(ho:PE X o td)(hi:PE X i ty)(hs:Ej i):PE X (.Subscript o i pos) (aaT td ty):=by
 intro pins s σ H Q I h;refine abm PySem.F.slot_dict_getitem.lookup hs (bK (ho pins s σ H _ I h) λu s1 ⟨x,H1,I1,rx,q1⟩=>bK (hi pins s1 σ H1 _ I1 q1) λiv s2 z'=>?_);obtain⟨y,H2,I2,ry,a,v,ex,g,q2⟩:=z';subst ex;obtain rfl:u=Value.ref a:=rx;exact⟨abw I2 g,abi hu I2 g ry λw' s3 I3 Jg=>⟨v,H2,I3,Jg,q2⟩⟩
theorem abg (hu:X.A.units+1<cLine)(hi:PE X i ty)(ho:PE X o td):PC X .In i o (abf ty td):=by
 intro pins s σ H Q I h;refine bK (hi pins s σ H _ I h) λiv s1 ⟨y,H1,I1,ry,q1⟩=>bK (ho pins s1 σ H1 _ I1 q1) λu s2 z'=>?_;obtain⟨x,H2,I2,rx,a,ov,ex,g,q2⟩:=z';subst ex;obtain rfl:u=Value.ref a:=rx;exact abj hu I2 g ry λs3 I3=>⟨.bl ov.isSome,H2,I3,rfl,q2⟩
theorem t7 (hu:X.A.units+1<cLine)(ho:PE X o td)(hi:PE X i ty)(hv:PE X value tv)(hs:swapsWith value (some (.Subscript o i pos')) pos.line X.env=pure false):
 PS X (.Assign [.Subscript o i pos'] value pos) (abB td ty tv):=by
 intro pins s σ H D I h;refine wpAny_Assign_Subscript (bK (hv pins s σ H _ I h) λr s1 ⟨v,H1,I1,rv,q1⟩=>bK (ho pins s1 σ H1 _ I1 q1) λu s2 ⟨x,H2,I2,rx,q2⟩=>bK (hi pins s2 σ H2 _ I2 q2) λiv s3 z'=>?_) hs;obtain⟨y,H3,I3,ry,a,H4,ex,g,q3⟩:=z';subst ex;obtain rfl:u=Value.ref a:=rx;exact aaR hu I3 g ry rv λs4 I4=>⟨σ,H4,I4,q3⟩
end
theorem abM (h:Heap)(hb:sysModules<h.objs.size):bx P w H (h.push {cls:=.type "dict",data:=.dict #[]}) h.objs.size (.dT []):=
 ⟨Nat.zero_le _,beq_eq_false_iff_ne.mpr (Ne.symm (Nat.ne_of_lt hb)),[],.nil,_,#[],0,Heap.get?_push_size _ rfl,⟨rfl,rfl,rfl⟩,rfl,rfl,List.nodup_nil⟩
def abU:TE:=λ_ H Q=>∀p,H p=none->Q (.ref p) (upd H p (.dT []))
section
variable {X:Cx}{pos:Pos}
theorem p9:PE X (.Dict [] [] pos) abU:=λpins s σ H Q I h =>
 wpAny_Dict_empty ⟨.ref s.heap.objs.size,_,I.laid (a:=s.heap.objs.size) (o:=.dT []) (t':=s.toks) (λ_ _ q=>Heap.get?_push_of_some _ q) (Nat.le_refl _) (abM s.heap I.big),rfl,h _ (I.hok.fresh (Nat.le_refl _))⟩
end
structure M2 (X:Cx)(o:Expr)(m:Str)(apos:Pos)(e f:Expr)(IJ:Pos):Prop where
 base:attributeBase o m X.env (eval o X.env)=eval o X.env
 few:((backTo IJ (starEach [e,f] X.env)).all (λx=>!x.1)&&(backToKw IJ (keywordEach [] X.env)).all (λx=>x.1.isSome)
  && decide (([e,f]:De).length+([]:List Keyword).length+(if([]:List Keyword).isEmpty then 0 else 1)<30))=true
 line:(apos.endLine==IJ.line)=true
 trees:backTo IJ (starEach [e,f] X.env)=[(false,eval e X.env),(false,eval f X.env)]
def HC (H:Hp)(a:Addr):Prop:=(∃Ir,Rd H a (.dK Ir))\/∃Ir,Rd H a (.dT Ir)
theorem aaW (I:Inv X pins σ H s)(d:HC H a):
 s.TypeIs (.ref a) "dict"/\(∀b,Value.ref a=.ref b->∃ob,s.heap.get? b=some ob/\ob.dict=none)/\(a==sysModules)=false:=by
 rcases d with⟨Ir,e⟩|⟨Ir,e⟩
 ·obtain⟨_,hd,vs,_,dd⟩:=mX I.hok e;refine⟨dd.typeIs,λb q=>?_,hd⟩
  cases q
  obtain⟨ob,_,_,h1,h2,_⟩:=dd;exact⟨ob,h1,h2.2.1⟩
 ·obtain⟨_,hd,xs,_,dd⟩:=mr I.hok e;refine⟨dd.typeIs,λb q=>?_,hd⟩
  cases q
  obtain⟨ob,_,_,h1,h2,_⟩:=dd;exact⟨ob,h1,h2.2.1⟩
section
variable {X:Cx}{pins:List (Addr×Obj)}{σ:St}{H:Hp}{s:Dx}{a:Addr}{y d:V}{u r:Value}{o:Option V}{A:Around}{E:yj}
theorem abx {Q:yj}(hu:A.units+1<cLine)(I:Inv X pins σ H s)(g:jh H a y o)(ry:aG y u)(rd:aG d r)(h:∀w' s',Inv X pins σ H s'->aG (o.getD d) w'->Q w' s'):
 wpAny (model X.prog X.w) A (call (.builtin "dict.get") [.ref a,u,r]) Q E s:=by
 rcases g with⟨Ir,k,e,ey,l⟩|⟨Ir,k,b,e,ey,eb,l⟩
 ·subst ey;obtain⟨z,hd,vs,rel,dd⟩:=mX I.hok e;refine call_meetsIn PySem.F.slot_dict_get dd.typeIs PySem.F.entry_dict_get (PySem.F.args_dict_get_3 _ _ _) (meets_dict_get_default (bZ X.prog X.w) a (pJ ry) hd r) ⟨_,dd.mapOf,h _ _ (I.tok _) ?_⟩;rw[l];exact(rel.val k).getD rd
 ·subst ey
  cases(show u=Value.ref b from ry)
  obtain⟨z,hd,xs,rel,dd⟩:=mr I.hok e;refine call_meetsIn PySem.F.slot_dict_get dd.typeIs PySem.F.entry_dict_get (PySem.F.args_dict_get_3 _ _ _) (meetsH_dict_get_default (tupleKind (bZ X.prog X.w)) a b hd r) ⟨tupleKind_room_in1 hu,k,xs,lX I.hok eb,dd,h _ _ (I.tok _) ?_⟩;rw[l];exact(rel.val k).getD rd
end
def aa8 (td ty tx:TE):TE:=λσ H Q=>td σ H λx H1=>∃a,x=.ref a/\HC H1 a/\ty σ H1 λy H2=>tx σ H2 λz H3=>∃o,jh H3 a y o/\Q (o.getD z) H3
section
variable {X:Cx}{o e f:Expr}{apos IJ:Pos}{td ty tx:TE}
theorem abl (hu:X.A.units+1<cLine)(ho:PE X o td)(he:PE X e ty)(hf:PE X f tx)(m:M2 X o "get" apos e f IJ):PE X (.Call (.Attribute o "get" apos) [e,f] [] IJ) (aa8 td ty tx):=by
 intro pins s σ H Q I h;refine wpAny_Call_method m.base m.few m.line PySem.F.plainAttrs_dict PySem.F.slot_dict_get PySem.F.type_dict_get (bK (ho pins s σ H _ I h) λu s1 z'=>?_);obtain⟨x,H1,I1,rx,a,ex,d,q1⟩:=z';subst ex;obtain rfl:u=Value.ref a:=rx;obtain⟨t1,t2,_⟩:=aaW I1 d;refine⟨t1,t2,?_⟩;rw[m.trees]
 refine Calls.callWith_builtin rfl (Calls.evalArgs_plain (Calls.spliced_cons (bK (he pins s1 σ H1 _ I1 q1) λiv s2 ⟨y,H2,I2,ry,q2⟩ =>
  Calls.spliced_cons (bK (hf pins s2 σ H2 _ I2 q2) λfv s3 ⟨z,H3,I3,rz,ov,g,q3⟩=>Calls.spliced_nil ?_))))
 exact abx hu I3 g ry rz λw' s4 I4 Jg=>⟨_,H3,I4,Jg,q3⟩
end
end L2
namespace HT
open PySem PyProof.Rows
def df:List Int->List Int->Bool
 |[],[]=>false
 |[],_::_=>true
 |_::_,[]=>false
 |x::xs,y::ys=>if x=y then df xs ys else decide (x<y)
theorem eB (x y:Int)(xs ys:List Int):df (x::xs) (y::ys)=if x=y then df xs ys else decide (x<y):=rfl
theorem aaX:df [] []=false:=rfl
theorem ab9 (y:Int)(ys:List Int):df [] (y::ys)=true:=rfl
theorem aca (x:Int)(xs:List Int):df (x::xs) []=false:=rfl
theorem acb (A:Around)(s:Dx)(a:Int)(t:Tok)(c:Int)(u:Tok):∃e,SeqAt.EqAt A s (.int a t) (.int c u) e/\(e=true↔a=c):=
 ⟨(a==c),SeqAt.EqAt.int_int a t c u,by simp⟩
theorem acd (A:Around)(s:Dx)(a:Int)(t:Tok)(c:Int)(u:Tok)(prog:yn)(w:World)(E:yj)(Q:yj)(h:Q (.bool (decide (a<c))) s):
 wpAny (model prog w) A (richCompare .Lt (.int a t) (.int c u)) Q E s :=
 (PyProof.Rows.lt_int h:wpAny (model prog w) A (compareOp .Lt (.int a t) (.int c u)) Q E s)
section
open PySem.SeqAt
open PySem.AutoSeq1 (wpAny_loadPart')
open PySem.MeetsSeq PySem.MeetsSeq2 PySem.MeetsSeq3
theorem ace (l b:Addr)(items IL:GV)(n n2:Nat)(dd LD:CO)(sl Kw:va)(ns ms:List Int)(hi:IntsAre items.toList ns)(hj:IntsAre IL.toList ms):
 Meets (Builtin.«tuple.__lt__» ⟨[.ref l,.ref b],[]⟩)
  (λ_ R s=>s.heap.get? l=some {cls:=.type "tuple",dict:=dd,data:=.seq items n,slots:=sl}/\s.heap.get? b=some {cls:=.type "tuple",dict:=LD,data:=.seq IL n2,slots:=Kw} /\
   R (.ok (.ret (.bool (df ns ms)))) s):=
 .of_wp λprog w A R s h=>by
  obtain⟨hp,g,d,tk,os⟩:=s;obtain⟨hl,hb,h⟩:=h;have f2:=AutoSeq1.sub_tuple_tuple
  have z1:items.size=ns.length:=by rw[<-hi.length];simp
  have z2:IL.size=ms.length:=by rw[<-hj.length];simp
  wp_walk using wpAny_loadPart' hl,wpAny_loadPart' hb,wpAny_forIn_list _ (λrest b s'=>b.1=none/\s'=⟨hp,g,d,tk,os⟩/\∃(vs ws:oH)(LF NC:List Int),rest=vs.zip ws /\
   IntsAre vs LF/\IntsAre ws NC/\LF.length+IL.size=NC.length+items.size/\R (.ok (.ret (.bool (df LF NC)))) ⟨hp,g,d,tk,os⟩) _
  case turn =>
   rintro⟨y,x⟩ rest b s' ⟨IS,rfl,vs,ws,LF,NC,hz,Tg,Ss,hlen,hR⟩
   cases Tg with
   |nil=>rw[List.zip_nil_left] at hz;cases hz
   |cons a t Ti =>
    cases Ss with
    |nil=>rw[List.zip_nil_right] at hz;cases hz
    |cons c u Tj =>
     rw[List.zip_cons_cons] at hz
     injection hz with Zq Ob
     injection Zq with hy hx
     subst hy hx;rw[eB] at hR;simp only[List.length_cons] at hlen;obtain⟨e,he,Oc⟩:=acb A.in1 ⟨hp,g,d,tk,os⟩ a t c u;refine wpAny_bind (he prog w _ _ ?_)
     cases e with
     |true =>
      rw[if_pos (Oc.mp rfl)] at hR
      wp_walk
      exact⟨rfl,rfl,_,_,_,_,Ob,Ti,Tj,by omega,hR⟩
     |false =>
      rw[if_neg (λq=>absurd (Oc.mpr q) Bool.false_ne_true)] at hR;have Zr:=acd A.in1 ⟨hp,g,d,tk,os⟩ a t c u prog w
      wp_walk using Zr
      exact⟨_,rfl,by simpa using hR⟩
  case fin =>
   rintro⟨b1,b2⟩ s' ⟨IS,rfl,vs,ws,LF,NC,hz,Tg,Ss,hlen,hR⟩;simp only at IS;subst IS
   have hv:df LF NC=decide (items.size<IL.size):=by
    cases Tg with
    |nil =>
     cases Ss with
     |nil =>
      simp only[List.length_nil] at hlen;rw[aaX];exact(decide_eq_false (by omega)).symm
     |cons c u hw =>
      simp only[List.length_nil,List.length_cons] at hlen;rw[ab9];exact(decide_eq_true (by omega)).symm
    |cons a t hv =>
     cases Ss with
     |nil =>
      simp only[List.length_nil,List.length_cons] at hlen;rw[aca];exact(decide_eq_false (by omega)).symm
     |cons c u hw =>
      rw[List.zip_cons_cons] at hz
      cases hz
   rw[hv] at hR
   wp_walk
   exact⟨_,rfl,by simpa[Builtin.Tuple.tupleCompareSizes] using hR⟩
  case h =>
   exact⟨rfl,rfl,items.toList,IL.toList,ns,ms,rfl,hi,hj,by omega,h⟩
end
section
variable {prog:yn}{w:World}{A:Around}{E:yj}{s:Dx}
theorem PrT {l b:Addr}{items IL:GV}{ns ms:List Int}{Q:yj}(hl:IsTup s.heap l items)(hb:IsTup s.heap b IL)(hi:IntsAre items.toList ns)(hj:IntsAre IL.toList ms)
 (hu:A.units<cLine)(h:Q (.bool (df ns ms)) s):wpAny (model prog w) A (compareOp .Lt (.ref l) (.ref b)) Q E s:=by
 obtain⟨⟨cls,dd,data,sl⟩,ho,hc,n,hd⟩:=id hl;obtain⟨⟨Od,LD,data2,Kw⟩,Kn,Kr,n2,hd2⟩:=id hb;simp only at hc hd Kr hd2;subst hc hd Kr hd2
 exact richCompare_meets_room (op:=.Lt) ⟨_,ho,rfl⟩ ⟨_,Kn,rfl⟩ PySem.F.slot_tuple_lt PySem.F.entry_tuple_lt (PySem.F.args_tuple_lt_2 _ _) (ace l b items IL n n2 dd LD sl Kw ns ms hi hj)
  ⟨ho,Kn,show Value.bool (df ns ms)≠Value.notImplemented/\Q (.bool (df ns ms)) s from⟨(λx=>nomatch x),h⟩⟩ hu
theorem acf {t b:Addr}{vs ws:oH}{Q:yj}(ht:IsTup s.heap t vs.toArray)(hb:IsTup s.heap b ws.toArray)(hv:vs≠[])
 (h1:ws=[]->Q (.ref t) s)(h2:ws≠[]->Q (.ref s.heap.objs.size) {s with heap:=s.heap.push {cls:=.type "tuple",data:=.seq (vs++ws).toArray} })
 (hsz:vs.length+ws.length<=sizeLine):wpAny (model prog w) A (binaryOp .Add (.ref t) (.ref b)) Q E s:=by
 obtain⟨⟨cls,dd,data,sl⟩,ho,hc,n,hd⟩:=id ht;obtain⟨⟨Od,LD,data2,Kw⟩,Kn,Kr,n2,hd2⟩:=id hb;simp only at hc hd Kr hd2;subst hc hd Kr hd2
 have e:vs.toArray++ws.toArray=(vs++ws).toArray:=by simp
 by_cases hw:ws=[]
 ·exact concat_meets ⟨_,ho,rfl⟩ ⟨_,Kn,rfl⟩ noFill_tuple_add seq_tuple_add PySem.F.slot_tuple_add PySem.F.entry_tuple_add (PySem.F.args_tuple_add_2 _ _)
   (tuple_addW1 t b vs.toArray ws.toArray n n2 dd LD sl Kw (by simpa using hv) (by simp[hw])) ⟨ho,Kn,h1 hw⟩
 ·refine concat_meets ⟨_,ho,rfl⟩ ⟨_,Kn,rfl⟩ noFill_tuple_add seq_tuple_add PySem.F.slot_tuple_add PySem.F.entry_tuple_add (PySem.F.args_tuple_add_2 _ _)
   (tuple_addW2 t b vs.toArray ws.toArray n n2 dd LD sl Kw (by simpa using hv) (by simpa using hw) (by rw[List.size_toArray,List.size_toArray];exact hsz)) ⟨ho,Kn,?_⟩
  rw[e];exact h2 hw
def eN (n d:Nat):Option Int->Nat
 |none=>d
 |some v=>if v<0 then(v+(n:Int)).toNat else min v.toNat n
theorem acg (n d:Nat)(hd:d<=n)(o:Option Int):eN n d o<=n:=by
 cases o with
 |none=>exact hd
 |some v =>
  show(if v<0 then(v+(n:Int)).toNat else min v.toNat n)<=n
  by_cases hv:v<0
  ·rw[if_pos hv];omega
  ·rw[if_neg hv];exact Nat.min_le_right _ _
theorem tY (v:Int)(n d:Nat):(if v<0 then max (v+(n:Int)) 0 else min v (n:Int))=((eN n d (some v):Nat):Int):=by
 show(if v<0 then max (v+(n:Int)) 0 else min v (n:Int))=(((if v<0 then(v+(n:Int)).toNat else min v.toNat n):Nat):Int)
 by_cases hv:v<0
 ·simp only[if_pos hv];omega
 ·simp only[if_neg hv];omega
theorem ach (lo hi:Option Int)(n:Nat):Builtin.Slice.sliceAdjust lo hi 1 (n:Int)=(((eN n 0 lo:Nat):Int),((eN n n hi:Nat):Int)):=by
 have h1:¬((1:Int)<0):=by omega
 unfold Builtin.Slice.sliceAdjust;simp only[h1,if_false];refine Prod.ext ?_ ?_
 ·cases lo with
  |none=>rfl
  |some v=>exact tY v n 0
 ·cases hi with
  |none=>rfl
  |some v=>exact tY v n n
theorem qT (i j:Nat):Builtin.Slice.slicePlaces (i:Int) (j:Int) 1=j-i:=by
 unfold Builtin.Slice.slicePlaces
 have h1:(1:Int)>0:=by omega
 simp only[h1,if_true,Int.ediv_one]
 split <;> omega
theorem kq {v:Value}{o:Option Int}{Q:Option Int->Shared->Prop}(p:IsPart v o)(h:Q o s):wpAny (model prog w) A (Builtin.Slice.slicePartIndex v) Q E s:=by
 cases p with
 |none=>exact slicePart_none h
 |int i t=>exact slicePart_int h
theorem fh {sl:Addr}{vl vu:Value}{lo hi:Option Int}{n:Nat}{Q:Int×Int×Nat->Shared->Prop}(hs:s.heap.IsSliceOf sl vl vu .none)(pl:IsPart vl lo)(pu:IsPart vu hi)
 (h:Q (((eN n 0 lo:Nat):Int),1,eN n n hi-eN n 0 lo) s):wpAny (model prog w) A (Builtin.Slice.sliceApplied (.ref sl) (pure (n:Int))) Q E s:=by
 obtain⟨os,Mv,Su,Oe⟩:=id hs;unfold Builtin.Slice.sliceApplied Builtin.Slice.sliceFields;refine wpAny_bind (wpAny_bind (wpAny_field Mv Oe (x:=vl) rfl (wpAny_bind (wpAny_field Mv Oe (x:=vu) rfl (wpAny_bind (wpAny_field Mv Oe (x:=.none) rfl (wpAny_pure ?_)))))));refine wpAny_bind (slicePart_none ?_);show wpAny _ _ (if((1:Int)==0)=true then _ else _) _ _ s;rw[if_neg (by decide)];refine wpAny_bind (kq pl (wpAny_bind (kq pu (wpAny_bind (wpAny_pure ?_)))));show wpAny _ _ (match Builtin.Slice.sliceAdjust lo hi 1 (n:Int) with|(lo,hi)=>pure (lo,(1:Int),Builtin.Slice.slicePlaces lo hi 1)) _ _ s;rw[ach lo hi n];show wpAny _ _ (pure (((eN n 0 lo:Nat):Int),(1:Int),Builtin.Slice.slicePlaces ((eN n 0 lo:Nat):Int) ((eN n n hi:Nat):Int) 1)) _ _ s;rw[qT];exact wpAny_pure h
theorem yZ (xs:GV)(i k:Nat):((List.range k).filterMap λ(m:Nat)=>xs[((i:Int)+(m:Int)*1).toNat]?).toArray=((xs.toList.drop i).take k).toArray:=by
 have e:(λ(m:Nat)=>xs[((i:Int)+(m:Int)*1).toNat]?)=λm=>xs[i+m]?:=by
  funext m
  have:((i:Int)+(m:Int)*1).toNat=i+m:=by omega
  rw[this]
 rw[e];have:=pick_run xs i k;rw[List.filterMap_map] at this;have e2:((λx=>xs[x]?) ∘ λx=>i+x)=λm=>xs[i+m]?:=rfl;rw[e2] at this;rw[this]
theorem iw {t sl:Addr}{items:GV}{vl vu:Value}{lo hi:Option Int}{Q:yj}(ht:IsTup s.heap t items)(hs:s.heap.IsSliceOf sl vl vu .none)(pl:IsPart vl lo)(pu:IsPart vu hi)
 (hw:¬(eN items.size 0 lo=0/\eN items.size items.size hi=items.size))
 (h:Q (.ref s.heap.objs.size) {s with heap:=s.heap.push {cls:=.type "tuple",data:=.seq ((items.toList.drop (eN items.size 0 lo)).take (eN items.size items.size hi-eN items.size 0 lo)).toArray} })
 (hsz:items.size<=sizeLine):wpAny (model prog w) A (getItem (.ref t) (.ref sl)) Q E s:=by
 have Kj:sizeOk (.seq ((items.toList.drop (eN items.size 0 lo)).take (eN items.size items.size hi-eN items.size 0 lo)).toArray):=by
  show((items.toList.drop (eN items.size 0 lo)).take (eN items.size items.size hi-eN items.size 0 lo)).toArray.size<=sizeLine;rw[List.size_toArray,List.length_take,List.length_drop,Array.length_toList];omega
 have hj:eN items.size items.size hi<=items.size:=acg _ _ (Nat.le_refl _) hi;obtain⟨os,Mv,Su,Oe⟩:=id hs;have Tn:s.TypeIs (.ref sl) "slice":=⟨os,Mv,Su⟩;unfold getItem
 try with_reducible refine wpAny_holding ?_
 first|refine wpAny_bind (wpAny_pure ?_)|skip
 refine wpAny_bind (wpAny_sequenceKey ht.typeIs (by decide) ?_)
 refine wpAny_bind (wpAny_callSpecial?_slot (name:=Str.ofString "__getitem__") ht.typeIs PyProof.Rows.slot_tuple_getitem
  (wpAny_call_entry PyProof.Rows.slot_tuple_getitem ht.typeIs entry_tuple_getitem ?_ (args_tuple_getitem _ _)))
 show wpAny _ _ (Builtin.Tuple.tupleItemsOf (.ref t)>>=_) _ _ s;refine wpAny_bind (tupleItemsOf_ ht ?_);refine wpAny_bind (wpAny_typeOf Tn ?_);rw[if_pos (by decide)];refine wpAny_bind (fh hs pl pu ?_)
 have Mw:¬((((eN items.size 0 lo:Nat):Int)==0&&(1:Int)==1&&(eN items.size items.size hi-eN items.size 0 lo)==items.size)=true):=by
  intro q;rw[Bool.and_eq_true,Bool.and_eq_true] at q;have q1:((eN items.size 0 lo:Nat):Int)=0:=eq_of_beq q.1.1;have q2:eN items.size items.size hi-eN items.size 0 lo=items.size:=eq_of_beq q.2;exact hw ⟨by omega,by omega⟩
 show wpAny _ _ (if(((eN items.size 0 lo:Nat):Int)==0&&(1:Int)==1&&(eN items.size items.size hi-eN items.size 0 lo)==items.size)=true then _ else _) _ _ s;rw[if_neg Mw,yZ]
 first
  |exact wpAny_bind (m:=Builtin.Tuple.tupleExact _) (wpAny_newObj_type (wpAny_pure ⟨_,rfl,wpAny_pure h⟩) Kj)
  |exact wpAny_bind (m:=Builtin.Tuple.tupleExact _) (wpAny_newObj_type (wpAny_bind (wpAny_pure (wpAny_pure ⟨_,rfl,wpAny_pure h⟩))) Kj)
  |exact wpAny_bind (wpAny_bind (m:=Builtin.Tuple.tupleExact _) (wpAny_newObj_type (wpAny_pure (wpAny_pure ⟨_,rfl,wpAny_pure h⟩)) Kj))
  |exact wpAny_bind (wpAny_bind (m:=Builtin.Tuple.tupleExact _) (wpAny_newObj_type (wpAny_pure ⟨_,rfl,wpAny_pure h⟩) Kj))
end
end HT
namespace L2
open PySem PySem.Spec PyProof.Rows
abbrev TO:=St->Hp->(Option Int->Hp->Prop)->Prop
def PO (X:Cx)(e:Option Expr)(t:TO):Prop :=
 ∀(pins:List (Addr×Obj))(s:Dx)(σ:St)(H:Hp)(Q:Option Int->Hp->Prop),Inv X pins σ H s->t σ H Q →
  wpAny (model X.prog X.w) X.A (evalPart e X.env) (λu s'=>∃o H',Inv X pins σ H' s'/\IsPart u o/\Q o H') X.xe s
def abG:TO:=λ_ H Q=>Q none H
def EF (t:TE):TO:=λσ H Q=>t σ H λx H1=>∃i,x=.int i/\Q (some i) H1
theorem lu {ns:List Int}:∀{us:oH},aM (ns.map V.int) us->IntsAre us ns:=by
 induction ns with
 |nil=>intro us r;rw[List.map_nil] at r;cases r;exact .nil
 |cons n ns ih =>
  intro us r;rw[List.map_cons] at r
  cases r with
  |cons r1 r2 =>
   obtain⟨t,e⟩:=r1;subst e;exact .cons n t (ih r2)
variable {xs:List V}
section
variable {X:Cx}{e:Expr}{te:TE}{lo hi:Option Expr}{tl th:TO}{pos p2:Pos}
theorem Al:PO X none abG:=by
 intro pins s σ H Q I h;rw[evalPart_none];exact wpAny_pure ⟨none,H,I,.none,h⟩
theorem Aj (h:PE X e te):PO X (some e) (EF te):=by
 intro pins s σ H Q I hw;rw[evalPart_some];refine bK (h pins s σ H _ I hw) λu s1 z'=>?_;obtain⟨x,H1,I1,r1,q1⟩:=z';obtain⟨i,rfl,q⟩:=q1;obtain⟨t,rfl⟩:=r1;exact⟨some i,H1,I1,.int i t,q⟩
def GO (X:Cx)(r:V->Option Int->Option Int->Hp->VK->Prop):Prop :=
 ∀(pins:List (Addr×Obj))(s:Dx)(σ:St)(H:Hp)(x:V)(v vl vu:Value)(lo hi:Option Int)(sl:Addr)(Q:VK),Inv X pins σ H s->aG x v->s.heap.IsSliceOf sl vl vu .none->IsPart vl lo->IsPart vu hi->r x lo hi H Q →
  ∃T id,typeLookup (.type T) "__getitem__"=pure (some (.builtin id))/\s.TypeIs v T/\wpAny (model X.prog X.w) X.A (getItem v (.ref sl)) (EP X pins σ Q) X.xe s
def Ih (r:V->Option Int->Option Int->Hp->VK->Prop)(te:TE)(tl th:TO):TE:=λσ H Q=>te σ H λx H1=>tl σ H1 λl H2=>th σ H2 λu H3=>r x l u H3 Q
theorem xa {r:V->Option Int->Option Int->Hp->VK->Prop}(hr:GO X r)(he:PE X e te)(hl:PO X lo tl)(hu:PO X hi th):PE X (.Subscript e (.Slice lo hi none p2) pos) (Ih r te tl th):=by
 intro pins s σ H Q I h;refine Subscript_ (bK (he pins s σ H _ I h) λv s1 z'=>?_);obtain⟨x,H1,I1,r1,q1⟩:=z';refine wpAny_Slice (bK (hl pins s1 σ H1 _ I1 q1) λvl s2 ⟨l,H2,I2,pl,q2⟩=>bK (hu pins s2 σ H2 _ I2 q2) λvu s3 z'=>?_);obtain⟨u,H3,I3,pu,q3⟩:=z';rw[evalPart_none];refine wpAny_pure ?_;have I4:Inv X pins σ H3 {s3 with heap:=s3.heap.push {cls:=.type "slice",data:=.fields #[vl,vu,.none]} }:=I3.kept (t':=s3.toks) λb ob q=>Heap.get?_push_of_some _ q;obtain⟨T,id,hT,ht,hg⟩:=hr pins {s3 with heap:=s3.heap.push {cls:=.type "slice",data:=.fields #[vl,vu,.none]} } σ H3 x v vl vu l u s3.heap.objs.size Q I4 r1 (Heap.IsSliceOf.new ..) pl pu q3;show wpAny (model X.prog X.w) X.A (subscriptTail e (.Slice lo hi none p2) v (.ref s3.heap.objs.size)) (EP X pins σ Q) X.xe {s3 with heap:=s3.heap.push {cls:=.type "slice",data:=.fields #[vl,vu,.none]} };exact tail_any (ops:=[.ref s3.heap.objs.size,v]) ht hT hg (by with_unfolding_all rfl)
def oW (xs:List V)(lo hi:Option Int):List V:=(xs.drop (HT.eN xs.length 0 lo)).take (HT.eN xs.length xs.length hi-HT.eN xs.length 0 lo)
theorem pO (xs:List V)(lo hi:Option Int):(oW xs lo hi).length<=xs.length:=by
 unfold oW;rw[List.length_take,List.length_drop];omega
def Hc (K:PySem.W.Frag):V->Option Int->Option Int->Hp->VK->Prop:=λx lo hi H Q=>∃a xs,x=.ref a/\br K H a xs /\
 ¬(HT.eN xs.length 0 lo=0/\HT.eN xs.length xs.length hi=xs.length)/\∀p,H p=none->Q (.ref p) (upd H p (.tup (oW xs lo hi)))
theorem DS:GO X (Hc X.K):=by
 intro pins s σ H x v vl vu lo hi sl Q I rx hs pl pu h;obtain⟨a,xs,rfl,hx,hw,q⟩:=h
 cases rx
 obtain⟨its,r,ht,hz⟩:=I.tuple hx
 have hlen:its.toArray.size=xs.length:=by rw[List.size_toArray];exact r.length.symm
 refine⟨"tuple",_,PyProof.Rows.slot_tuple_getitem.lookup,ht.typeIs,?_⟩;refine HT.iw ht hs pl pu (by rw[hlen];exact hw) ?_ (by rw[hlen];exact hz);rw[hlen];refine⟨.ref s.heap.objs.size,_,I.laid (t':=s.toks) (o:=.tup (oW xs lo hi)) (λb ob q=>Heap.get?_push_of_some _ q) (Nat.le_refl _) ?_,rfl,q _ (I.hok.fresh (Nat.le_refl _))⟩;exact⟨Nat.le_trans (pO xs lo hi) hz,_,(r.drop (HT.eN xs.length 0 lo)).take (HT.eN xs.length xs.length hi-HT.eN xs.length 0 lo),IsTup.new _ _⟩
def ER (K:PySem.W.Frag):R2:=λx y H Q=>∃a b xs ys,x=.ref a/\y=.ref b/\br K H a xs/\br K H b ys/\xs≠[]/\xs.length+ys.length<=sizeLine /\
 (ys=[]->Q (.ref a) H)/\(ys≠[]->∀p,H p=none->Q (.ref p) (upd H p (.tup (xs++ys))))
theorem aM.aaQ {us:oH}(r:aM xs us):us=[]↔xs=[]:=by
 cases r with
 |nil=>simp
 |cons _ _=>simp
theorem AL:eE X (binaryOp .Add) (ER X.K):=by
 intro pins s σ H x y v u Q I rx ry h;obtain⟨a,b,xs,ys,rfl,rfl,ha,hb,hx,hz,q1,q2⟩:=h
 cases rx
 cases ry
 obtain⟨its,r1,p1,_⟩:=I.tuple ha;obtain⟨IB,r2,p2,_⟩:=I.tuple hb;refine HT.acf p1 p2 (λz=>hx (r1.aaQ.mp z)) (λz=>⟨.ref a,H,I,rfl,q1 (r2.aaQ.mp z)⟩) (λz=>?_) (by rw[<-r1.length,<-r2.length];exact hz);refine⟨.ref s.heap.objs.size,_,I.laid (t':=s.toks) (o:=.tup (xs++ys)) (λb ob q=>Heap.get?_push_of_some _ q) (Nat.le_refl _) ?_,rfl,q2 (λw=>z (r2.aaQ.mpr w)) _ (I.hok.fresh (Nat.le_refl _))⟩;exact⟨by rw[List.length_append];exact hz,_,r1.append r2,IsTup.new _ _⟩
end
def xo (n:Nat)(i:Int):Option Nat:=if 0<=i then(if i<n then some i.toNat else none) else if -(n:Int)<=i then some (i+n).toNat else none
def sr {α:Type}(xs:List α)(i:Int):Option α:=(xo xs.length i).bind λj=>xs[j]?
variable {n:Nat}
theorem tZ {i:Int}{j:Nat}(h:xo n i=some j):seqIndex? i n=some j/\j<n/\-(n:Int)<=i/\i<n:=by
 unfold xo at h
 by_cases h0:0<=i
 ·rw[if_pos h0] at h
  by_cases h1:i<n
  ·rw[if_pos h1] at h;have e:i.toNat=j:=Option.some.inj h;exact⟨by rw[seqIndex_of h0 h1,e],by omega,by omega,h1⟩
  ·rw[if_neg h1] at h;cases h
 ·rw[if_neg h0] at h
  by_cases h1:-(n:Int)<=i
  ·rw[if_pos h1] at h;have e:(i+n).toNat=j:=Option.some.inj h;exact⟨by rw[seqIndex_neg (by omega) h1,e],by omega,h1,by omega⟩
  ·rw[if_neg h1] at h;cases h
theorem tV {α:Type}{xs:List α}{i:Int}{v:α}(h:sr xs i=some v):∃j,seqIndex? i xs.length=some j/\xs[j]?=some v/\j<xs.length/\-(xs.length:Int)<=i/\i<xs.length:=by
 unfold sr at h
 cases e:xo xs.length i with
 |none=>rw[e] at h;cases h
 |some j =>
  rw[e] at h;obtain⟨h1,h2,h3,h4⟩:=tZ e;exact⟨j,h1,h,h2,h3,h4⟩
theorem sY {α:Type}{xs:List α}{j:Nat}{v:α}(h:xs[j]?=some v):sr xs (j:Int)=some v:=by
 have hj:j<xs.length:=(List.getElem?_eq_some_iff.mp h).1
 have e:xo xs.length (j:Int)=some j:=by
  unfold xo;rw[if_pos (by omega),if_pos (by omega)];simp
 unfold sr;rw[e];exact h
def zQ (b:Expr):Prop:=∀o i,subscripted b false o i=operate [o,i] (getItem o i)
def C8 (X:Cx)(r:R2):Prop :=
 ∀(value slice:Expr)(pins:List (Addr×Obj))(s:Dx)(σ:St)(H:Hp)(x y:V)(v u:Value)(Q:VK),Inv X pins σ H s->aG x v->aG y u->r x y H Q →
  subscripted slice false v u=operate [v,u] (getItem v u)->wpAny (model X.prog X.w) X.A (subscriptTail value slice v u) (EP X pins σ Q) X.xe s
def GD (X:Cx)(id:String)(r:V->List V->Hp->VK->Prop):Prop :=
 ∀(pins:List (Addr×Obj))(s:Dx)(σ:St)(H:Hp)(x:V)(xs:List V)(v:Value)(us:oH)(Q:VK),Inv X pins σ H s->aG x v->aM xs us->r x xs H Q →
  wpAny (model X.prog X.w) X.A (call (.builtin id) (v::us)) (EP X pins σ Q) X.xe s
variable {pins:List (Addr×Obj)}{σ:St}{H:Hp}{s:Dx}{its:oH}{x:V}
section
variable {X:Cx}{a b:Expr}{ta tb:TE}{pos:Pos}
theorem bg {r:R2}(hr:C8 X r)(ha:PE X a ta)(hb:PE X b tb)(hs:zQ b):PE X (.Subscript a b pos) (oI r ta tb):=by
 intro pins s σ H Q I h;exact Subscript_ (DG ha hb I h λv u s2 x y H2 I2 rx ry q=>hr a b pins s2 σ H2 x y v u Q I2 rx ry q (hs _ _))
def Hs (K:PySem.W.Frag):R2:=λx y H Q=>∃p xs i v,x=.ref p/\y=.int i/\bo K H p xs/\sr xs i=some v/\Q v H
def xv (K:PySem.W.Frag):R2:=λx y H Q=>∃p xs i v,x=.ref p/\y=.int i/\br K H p xs/\sr xs i=some v/\Q v H
theorem dS:C8 X (Hs X.K):=by
 intro value slice pins s σ H x y v u Q I rx ry h hs;obtain⟨p,xs,i,z,rfl,rfl,hq,he,q⟩:=h
 cases rx
 obtain⟨t,rfl⟩:=ry;obtain⟨its,r,pl,hz⟩:=I.list hq;obtain⟨j,h1,h2,h3,h4,h5⟩:=tV he;obtain⟨w,ew,Jg⟩:=r.get h2;have hl:=r.length;have hn:=lA;have fin:EP X pins σ Q w s:=⟨z,H,I,Jg,q⟩
 by_cases h0:0<=i
 ·have hj:i.toNat=j:=by
   rw[seqIndex_of h0 h5] at h1;exact Option.some.inj h1
  exact item_listR pl.isList h0 (by omega) (by rw[hj];simpa using ew) fin hs
 ·have hj:(i+(its.toArray.size:Int)).toNat=j:=by
   rw[seqIndex_neg (by omega) h4] at h1;rw[List.size_toArray,<-hl];exact Option.some.inj h1
  exact subscriptTail_builtinR (x:=w) pl.isList.typeIs slot_list_getitem.lookup
   (wpAny_getItem_list_neg (Q:=λr s'=>r=w/\EP X pins σ Q r s') pl.isList (by omega) (by rw[List.size_toArray] <;> omega) (by omega) (by rw[hj];simpa using ew) ⟨rfl,fin⟩) hs
theorem aZ:C8 X (xv X.K):=by
 intro value slice pins s σ H x y v u Q I rx ry h hs;obtain⟨p,xs,i,z,rfl,rfl,hq,he,q⟩:=h
 cases rx
 obtain⟨t,rfl⟩:=ry;obtain⟨its,r,pl,hz⟩:=I.tuple hq;obtain⟨j,h1,h2,h3,h4,h5⟩:=tV he;obtain⟨w,ew,Jg⟩:=r.get h2;have hl:=r.length;have hn:=lA;have fin:EP X pins σ Q w s:=⟨z,H,I,Jg,q⟩
 exact subscriptTail_builtinR (x:=w) pl.typeIs slot_tuple_getitem.lookup
  (getItem_tuple (j:=j) (Q:=λr s'=>r=w/\EP X pins σ Q r s') pl (by omega) (by omega) (by rw[List.size_toArray,<-hl];exact h1) (by simpa using ew) ⟨rfl,fin⟩) hs
theorem r6 (its:oH)(n j:Nat)(u:Value):Obj.mapSeq (·.setIfInBounds j u) {cls:=.type "list",data:=.seq its.toArray n}={cls:=.type "list",data:=.seq (its.set j u).toArray n}:=by
 simp[Obj.mapSeq]
theorem Inv.lst {p:Addr}(I:Inv X pins σ H s)(h:H p=some (.lst xs)):
 ∃(its:oH)(n:Nat),aM xs its/\s.heap.get? p=some {cls:=.type "list",data:=.seq its.toArray n}/\xs.length<=sizeLine:=by
 obtain⟨z,its,n,r,e⟩:=I.hok p _ h;exact⟨its,n,r,e,z⟩
theorem Inv.abV {p:Addr}{ys:List V}{its':oH}{n':Nat}{f:Obj->Obj}(I:Inv X pins σ H s)(h:H p=some (.lst xs))
 (ho:s.heap.get? p=some {cls:=.type "list",data:=.seq its.toArray n})(hf:f {cls:=.type "list",data:=.seq its.toArray n}={cls:=.type "list",data:=.seq its'.toArray n'})(r:aM ys its')(hz:ys.length<=sizeLine)(t:Nat):
 Inv X pins σ (upd H p (.lst ys)) {s with heap:=s.heap.update p f,toks:=t}:=by
 have e:(s.heap.update p f).get? p=some {cls:=.type "list",data:=.seq its'.toArray n'}:=by
  rw[Heap.get?_update_self f ho (by rw[hf] <;> rfl),hf]
 refine I.write (x:=p) (e:=p) (by rw[h];trivial) (.inl rfl) (λb u hb q=>(Heap.get?_update_other _ _ (Ne.symm hb)).trans q) ⟨_,e⟩ ?_;exact⟨hz,its',n',r,e⟩
def ab3:V->V->V->Hp->(Hp->Prop)->Prop:=λo i v H Q=>∃p xs k j,o=.ref p/\i=.int k/\H p=some (.lst xs)/\xo xs.length k=some j/\Q (upd H p (.lst (xs.set j v)))
theorem pI:D9 X ab3:=by
 intro pins s σ H o i v ov iv u Q I ro ri rv h;obtain⟨p,xs,k,j,rfl,rfl,hp,hj,q⟩:=h
 cases ro
 obtain⟨t,rfl⟩:=ri;obtain⟨its,n,r,ho,hz⟩:=I.lst hp;obtain⟨h1,h2,h3,h4⟩:=tZ hj;have hl:=r.length;have hn:=lA
 have I':Inv X pins σ (upd H p (.lst (xs.set j v))) {s with heap:=s.heap.update p (Obj.mapSeq (·.setIfInBounds j u))}:=
  I.abV hp ho (r6 its n j u) (r.set rv j) (by rw[List.length_set];exact hz) s.toks
 by_cases h0:0<=k
 ·have hk:k.toNat=j:=by
   rw[seqIndex_of h0 h4] at h1;exact Option.some.inj h1
  exact PySem.W.ki_setAt ho h0 (by omega) (by rw[List.size_toArray,<-hl];exact h4) (by rw[hk];exact⟨_,I',q⟩)
 ·have hk:(k+(its.toArray.size:Int)).toNat=j:=by
   rw[seqIndex_neg (by omega) h3] at h1;rw[List.size_toArray,<-hl];exact Option.some.inj h1
  exact PySem.W.ki_setBack ho (by omega) (by rw[List.size_toArray,<-hl];exact h3) (by omega) (by rw[hk];exact⟨_,I',q⟩)
def jF:V->Bool
 | .non=>true
 | .bl _=>true
 | .int _=>true
 | .str _=>true
 |_=>false
def BB:V->V->Bool
 | .non,.non=>true
 | .bl a,.bl b=>a==b
 | .bl a,.int b=>(if a then 1 else 0)==b
 | .int a,.bl b=>a==(if b then 1 else 0)
 | .int a,.int b=>a==b
 | .str a,.str b=>a==b
 |_,_=>false
theorem B5 {A:Around}{y:V}{u v:Value}(ry:aG y u)(rx:aG x v)(fy:jF y=true)(fx:jF x=true):SeqAt.EqAt A s u v (BB y x):=by
 cases y with
 |non =>
  cases ry
  cases x with
  |non=>cases rx;exact SeqAt.EqAt.same _
  |bl b=>cases rx;exact SeqAt.EqAt.none_bool b
  |int b=>obtain⟨t,rfl⟩:=rx;exact SeqAt.EqAt.none_int b t
  |str b=>obtain⟨t,rfl⟩:=rx;exact SeqAt.EqAt.none_str b t
  |_=>exact absurd (show false=true from fx) Bool.false_ne_true
 |bl a =>
  cases ry
  cases x with
  |non=>cases rx;exact SeqAt.EqAt.bool_none a
  |bl b=>cases rx;exact SeqAt.EqAt.bool_bool a b
  |int b=>obtain⟨t,rfl⟩:=rx;exact SeqAt.EqAt.bool_int a b t
  |str b=>obtain⟨t,rfl⟩:=rx;exact SeqAt.EqAt.bool_str a b t
  |_=>exact absurd (show false=true from fx) Bool.false_ne_true
 |int a =>
  obtain⟨t',rfl⟩:=ry
  cases x with
  |non=>cases rx;exact SeqAt.EqAt.int_none a t'
  |bl b=>cases rx;exact SeqAt.EqAt.int_bool a t' b
  |int b=>obtain⟨t,rfl⟩:=rx;exact SeqAt.EqAt.int_int a t' b t
  |str b=>obtain⟨t,rfl⟩:=rx;exact SeqAt.EqAt.int_str a t' b t
  |_=>exact absurd (show false=true from fx) Bool.false_ne_true
 |str a =>
  obtain⟨t',rfl⟩:=ry
  cases x with
  |non=>cases rx;exact SeqAt.EqAt.str_none a t'
  |bl b=>cases rx;exact SeqAt.EqAt.str_bool a t' b
  |int b=>obtain⟨t,rfl⟩:=rx;exact SeqAt.EqAt.str_int a t' b t
  |str b=>obtain⟨t,rfl⟩:=rx;exact SeqAt.EqAt.str_str a t' b t
  |_=>exact absurd (show false=true from fx) Bool.false_ne_true
 |_=>exact absurd (show false=true from fy) Bool.false_ne_true
def Be (x:V)(u:Value):Bool:=match u with
 | .none=>BB .non x
 | .bool b=>BB (.bl b) x
 | .int i _=>BB (.int i) x
 | .str z _=>BB (.str z) x
 |_=>false
theorem wN {y:V}{u:Value}(r:aG y u)(f:jF y=true):Be x u=BB y x:=by
 cases y with
 |non=>cases r;rfl
 |bl b=>cases r;rfl
 |int i=>obtain⟨t,rfl⟩:=r;rfl
 |str z=>obtain⟨t,rfl⟩:=r;rfl
 |_=>exact absurd (show false=true from f) Bool.false_ne_true
theorem nX :∀{xs:List V}{us:oH},aM xs us->xs.all jF=true->us.any (Be x)=xs.any λy=>BB y x
 |_,_,.nil,_=>rfl
 |y::xs,u::us,.cons r t,f=>by
  rw[List.all_cons,Bool.and_eq_true] at f;rw[List.any_cons,List.any_cons,wN r f.1,nX t f.2]
theorem kg {A:Around}{v:Value}(rx:aG x v)(fx:jF x=true):∀{xs:List V}{us:oH},aM xs us->xs.all jF=true->∀u∈us,SeqAt.EqAt A s u v (Be x u)
 |_,_,.nil,_=>λu hu=>by cases hu
 |y::xs,u::us,.cons r t,f=>λu' hu=>by
  rw[List.all_cons,Bool.and_eq_true] at f
  rcases List.mem_cons.mp hu with rfl|hu
  ·rw[wN r f.1];exact B5 r rx f.1 fx
  ·exact kg rx fx t f.2 u' hu
def DX (x:V)(xs:List V):Bool:=xs.any λy=>BB y x
def Ie (K:PySem.W.Frag)(neg:Bool):R2:=λx y H Q=>∃p xs,y=.ref p/\(bo K H p xs\/br K H p xs)/\jF x=true/\xs.all jF=true/\Q (.bl (if neg then !DX x xs else DX x xs)) H
theorem n9:eE X (compareOp .NotIn) (Ie X.K true):=by
 intro pins s σ H x y v u Q I rx ry h;obtain⟨p,xs,rfl,hq,fx,fs,q⟩:=h
 cases ry
 rcases hq with hq|hq
 ·obtain⟨its,r,pl,hz⟩:=I.list hq;refine SeqAt.notIn_listAt (Be x) pl.isList (λw hw=>kg rx fx r fs w (by simpa using hw)) ⟨.bl _,H,I,rfl,?_⟩;rw[show its.toArray.any (Be x)=its.any (Be x) by simp,nX r fs];exact q
 ·obtain⟨its,r,pl,hz⟩:=I.tuple hq;refine SeqAt.notIn_tupleAt (Be x) pl (λw hw=>kg rx fx r fs w (by simpa using hw)) ⟨.bl _,H,I,rfl,?_⟩;rw[show its.toArray.any (Be x)=its.any (Be x) by simp,nX r fs];exact q
theorem bu:eZ X (.builtin "len") (λxs H Q=>∃p ys,xs=[.ref p]/\(bo X.K H p ys\/br X.K H p ys)/\Q (.int ys.length) H):=by
 intro pins s σ H xs us Q I r h;obtain⟨p,ys,rfl,hq,q⟩:=h;obtain⟨u,rfl,rx⟩:=fY r
 cases rx
 have hn:=lA
 rcases hq with hq|hq
 ·obtain⟨its,r',pl,hz⟩:=I.list hq;have hlen:=r'.length;exact Calls.call_len_list pl.isList (by simp only[List.size_toArray] <;> omega) ⟨.int ys.length,H,I.tok _,⟨s.toks+1,by rw[List.size_toArray,hlen]⟩,q⟩
 ·obtain⟨its,r',pl,hz⟩:=I.tuple hq;have hlen:=r'.length;exact len_tuple pl (by simp only[List.size_toArray] <;> omega) ⟨.int ys.length,H,I.tok _,⟨s.toks+1,by rw[List.size_toArray,hlen]⟩,q⟩
theorem dR:eZ X (.type "list") (λxs H Q=>∃p ys,xs=[.ref p]/\(bo X.K H p ys\/br X.K H p ys)/\∀l,H l=none->Q (.ref l) (upd H l (.lst ys))):=by
 intro pins s σ H xs us Q I r h;obtain⟨p,ys,rfl,hq,q⟩:=h;obtain⟨u,rfl,rx⟩:=fY r
 cases rx
 have fin:∀(its:oH),aM ys its->ys.length<=sizeLine->∀(h':Heap)(c':Nat),(∀b o',s.heap.get? b=some o'->h'.get? b=some o') →
  h'.get? s.heap.objs.size=some {cls:=.type "list",dict:=none,data:=.seq its.toArray c',slots:=#[]}->EP X pins σ Q (.ref s.heap.objs.size) {s with heap:=h'}:=λits r' hz h' c' kp e =>
  ⟨.ref s.heap.objs.size,_,I.laid (t':=s.toks) kp (Nat.le_refl _) (show bx X.prog X.w _ h' _ (.lst ys) from⟨hz,its,c',r',e⟩),rfl,q _ (I.hok.fresh (Nat.le_refl _))⟩
 rcases hq with hq|hq
 ·obtain⟨its,r',pl,hz⟩:=I.list hq;have hlen:=r'.length;obtain⟨o,ho,hc,n,hd⟩:=pl.isList;exact call_list_seq p (.inl rfl) ho hc hd (λh' c' kp e=>fin its r' hz h' c' kp e) (by simp only[List.size_toArray] <;> omega)
 ·obtain⟨its,r',pl,hz⟩:=I.tuple hq;have hlen:=r'.length;obtain⟨o,ho,hc,n,hd⟩:=pl;exact call_list_seq p (.inr rfl) ho hc hd (λh' c' kp e=>fin its r' hz h' c' kp e) (by simp only[List.size_toArray] <;> omega)
theorem hJ:eZ X (.type "tuple") (λxs H Q=>∃p ys,xs=[.ref p]/\((bo X.K H p ys/\∀l,H l=none->Q (.ref l) (upd H l (.tup ys)))\/(br X.K H p ys/\Q (.ref p) H))):=by
 intro pins s σ H xs us Q I r h;obtain⟨p,ys,rfl,h⟩:=h;obtain⟨u,rfl,rx⟩:=fY r
 cases rx
 rcases h with⟨hq,q⟩|⟨hq,q⟩
 ·obtain⟨its,r',pl,hz⟩:=I.list hq;have hlen:=r'.length;refine call_tuple_list pl.isList (λh' kp=>?_) (by simp only[List.size_toArray] <;> omega);have I1:Inv X pins σ H {s with heap:=h'}:=I.kept (t':=s.toks) kp
  have I2:Inv X pins σ (upd H h'.objs.size (.tup ys)) {s with heap:=h'.push {cls:=.type "tuple",data:=.seq its.toArray} }:=
   I1.laid (t':=s.toks) (λb o e=>Heap.get?_push_of_some _ e) (Nat.le_refl _) (show bx X.prog X.w _ _ _ (.tup ys) from⟨hz,its,r',IsTup.new _ _⟩)
  exact⟨.ref h'.objs.size,_,I2,rfl,q _ (I1.hok.fresh (Nat.le_refl _))⟩
 ·obtain⟨its,r',pl,hz⟩:=I.tuple hq;exact call_tuple_same pl ⟨.ref p,H,I,rfl,q⟩
def Hl (K:PySem.W.Frag)(T:String)(x:V)(H:Hp):Prop:=match x with
 | .str _=>T="str"
 | .int _=>T="int"
 | .ref p=>(T="list"/\∃xs,bo K H p xs)\/(T="tuple"/\∃o,K.lookup p=some o/\o.cls=.type "tuple"/\o.dict=none) \/
  (T="dict"/\((∃Ir,H p=some (.dK Ir))\/∃Ir,H p=some (.dT Ir)))\/(T="set"/\∃S n,H p=some (.set S n))
 |_=>False
theorem wL {T:String}{v:Value}(I:Inv X pins σ H s)(r:aG x v)(ty:Hl X.K T x H):
 s.TypeIs v T/\∀a,v=.ref a->∃ob,s.heap.get? a=some ob/\ob.dict=none:=by
 cases x with
 |str z =>
  obtain⟨t,rfl⟩:=r
  cases(show T="str" from ty)
  exact⟨typeIs_str s z t,λ_ e=>nomatch e⟩
 |int i =>
  obtain⟨t,rfl⟩:=r
  cases(show T="int" from ty)
  exact⟨typeIs_int s i t,λ_ e=>nomatch e⟩
 |ref p =>
  cases r
  rcases ty with⟨rfl,xs,hq⟩|⟨rfl,o,hk,hc,hd⟩|⟨rfl,hk⟩|⟨rfl,S,n,hk⟩
  ·obtain⟨its,_,pl,_⟩:=I.list hq;refine⟨pl.isList.typeIs,λa e=>?_⟩
   cases e
   obtain⟨o,n,e,c,hd,_⟩:=pl;exact⟨o,e,hd⟩
  ·refine⟨⟨o,I.kIn p o hk,hc⟩,λa e=>?_⟩
   cases e
   exact⟨o,I.kIn _ o hk,hd⟩
  ·have z:∃o,s.heap.get? p=some o/\o.ExactDict:=by
    rcases hk with⟨Ir,hk⟩|⟨Ir,hk⟩
    ·obtain⟨_,_,_,_,o,_,_,e,ex,_⟩:=I.hok p _ hk;exact⟨o,e,ex⟩
    ·obtain⟨_,_,_,_,o,_,_,e,ex,_⟩:=I.hok p _ hk;exact⟨o,e,ex⟩
   obtain⟨o,e,ex⟩:=z;refine⟨⟨o,e,ex.1⟩,λa e2=>?_⟩
   cases e2
   exact⟨o,e,ex.2.1⟩
  ·obtain⟨o,_,_,_,e,ex,_⟩:=I.hok p _ hk;refine⟨⟨o,e,ex.1⟩,λa e2=>?_⟩
   cases e2
   exact⟨o,e,ex.2.1⟩
 |_=>exact False.elim ty
def GF (K:PySem.W.Frag)(T:String)(r:V->List V->Hp->VK->Prop)(to:TE):TE:=λσ H Q=>to σ H λx H1=>Hl K T x H1/\r x [] H1 Q
def Ip (K:PySem.W.Frag)(T:String)(r:V->List V->Hp->VK->Prop)(to:TE)(t:TA):TE:=λσ H Q=>to σ H λx H1=>Hl K T x H1/\t σ H1 λxs H2=>r x xs H2 Q
variable {o e:Expr}{es:De}{to:TE}{t:TA}{name:Str}{apos IJ:Pos}{T id:String}{r:V->List V->Hp->VK->Prop}
theorem B7 (pa:PlainAttrs T)(slot:Slot T name id)(To:typeOf (.builtin id)=pure (.type "method_descriptor"))(hm:GD X id r)(ho:PE X o to)
 (JL:attributeBase o name X.env (eval o X.env)=eval o X.env:=by rfl)(JM:(apos.endLine==IJ.line)=true:=by rfl):PE X (.Call (.Attribute o name apos) [] [] IJ) (GF X.K T r to):=by
 intro pins s σ H Q I h;refine wpAny_Call_method0_late JL JM (bK (ho pins s σ H _ I h) λv s1 z'=>?_);obtain⟨x,H1,I1,r1,ty,q1⟩:=z';obtain⟨h1,h2⟩:=wL I1 r1 ty;exact⟨T,id,pa,slot,To,h1,h2,Calls.callWith_builtin rfl (PySem.evalArgs_none (hm pins s1 σ H1 x [] v [] Q I1 r1 .nil q1))⟩
theorem Br (pa:PlainAttrs T)(slot:Slot T name id)(To:typeOf (.builtin id)=pure (.type "method_descriptor"))(hm:GD X id r)(ho:PE X o to)(ha:PA X (e::es) t)
 (JL:attributeBase o name X.env (eval o X.env)=eval o X.env:=by rfl)
 (Tp:((backTo IJ (starEach (e::es) X.env)).all (λx=>!x.1)&&(backToKw IJ (keywordEach [] X.env)).all (λx=>x.1.isSome)
  && decide ((e::es).length+([]:List Keyword).length+(if([]:List Keyword).isEmpty then 0 else 1)<30))=true:=by rfl)
 (JM:(apos.endLine==IJ.line)=true:=by rfl)(hs:starEach (e::es) X.env=(false,eval e X.env):: starEach es X.env:=by rfl)(My:(backTo IJ (starEach es X.env)).any (·.1)=false:=by rfl):
 PE X (.Call (.Attribute o name apos) (e::es) [] IJ) (Ip X.K T r to t):=by
 intro pins s σ H Q I h;refine wpAny_Call_method_late JL Tp JM rfl (bK (ho pins s σ H _ I h) λv s1 z'=>?_);obtain⟨x,H1,I1,r1,ty,q1⟩:=z';obtain⟨h1,h2⟩:=wL I1 r1 ty;refine⟨T,id,pa,slot,To,h1,h2,?_⟩;have hA:=ha IJ pins s1 σ H1 _ I1 q1;rw[hs] at hA |-;refine Calls.callWith_builtin (by show(false || (backTo IJ (starEach es X.env)).any (·.1))=false;rw[My] <;> rfl) (Calls.evalArgs_plain ?_);exact bK hA λus s2 ⟨vs,H2,I2,r2,q2⟩=>hm pins s2 σ H2 x vs v us Q I2 r1 r2 q2
/- xs.append(e),list.index on a Of tuple .. are GD facts of 06m -/
end
def Ht (X:Cx)(id:String)(r:V->List V->Hp->VK->Prop):Prop :=
 ∀(pins:List (Addr×Obj))(s:Dx)(σ:St)(H:Hp)(x:V)(xs:List V)(v:Value)(us:oH)(Q:VK),Inv X pins σ H s->aG x v->aM xs us->r x xs H Q →
  wpAny (model X.prog X.w) X.A (call (.builtin id) (v::us)) (EP X pins σ Q) X.xe s
theorem aM.one:∀{x:V}{us:oH},aM [x] us->∃u,us=[u]/\aG x u
 |_,_,.cons r .nil=>⟨_,rfl,r⟩
theorem aM.zero:∀{us:oH},aM [] us->us=[]
 |_,.nil=>rfl
theorem aM.rep {us:oH}(h:aM xs us):∀k:Nat,aM (List.replicate k xs).flatten (List.replicate k us).flatten
 |0=>.nil
 |k+1=>by
  rw[List.replicate_succ,List.replicate_succ,List.flatten_cons,List.flatten_cons];exact aM.append h (aM.rep h k)
theorem mJ (its:oH):∀(k:Nat)(acc:oH),
 List.foldl (λx1 x2=>x1++x2) acc.toArray (List.replicate k its.toArray)=(acc++(List.replicate k its).flatten).toArray
 |0,acc=>by simp
 |k+1,acc=>by
  have e:acc.toArray++its.toArray=(acc++its).toArray:=by simp
  have e2:(acc++its)++(List.replicate k its).flatten=acc++(List.replicate (k+1) its).flatten:=by
   rw[List.replicate_succ,List.flatten_cons,List.append_assoc]
  rw[<-e2,<-mJ its k (acc++its),<-e,List.replicate_succ,List.foldl_cons]
section
variable {X:Cx}{pins:List (Addr×Obj)}{σ:St}{H:Hp}{s:Dx}{l b:Addr}{xs ys zs:List V}
theorem Inv.ab4 {its':oH}{f:Array Value->Array Value}{t':Nat}(I:Inv X pins σ H s)(hH:H l=some (.lst xs))
 (e:s.heap.get? l=some {cls:=.type "list",data:=.seq its.toArray n})(hf:f its.toArray=its'.toArray)(hv:aM ys its')(hz:ys.length<=sizeLine):
 Inv X pins σ (upd H l (.lst ys)) {s with heap:=s.heap.update l (Obj.mapSeq f),toks:=t'}:=by
 have q:=PySem.IsL.update e f;rw[hf] at q;refine I.write (x:=l) (e:=l) (by rw[hH];exact trivial) (.inl rfl) (λb' u hb hu=>(Heap.get?_update_other s.heap (Obj.mapSeq f) (Ne.symm hb)).trans hu) ⟨_,q⟩ ?_;exact⟨hz,its',_,hv,q⟩
theorem Inv.ab5 {t':Nat}(I:Inv X pins σ H s)(hv:aM ys its)(hz:ys.length<=sizeLine):
 Inv X pins σ (upd H s.heap.objs.size (.lst ys)) {s with heap:=s.heap.push {cls:=.type "list",data:=.seq its.toArray},toks:=t'}:=
 I.laid (λ_ _ q=>Heap.get?_push_of_some _ q) (Nat.le_refl _) ⟨hz,its,0,hv,Heap.get?_push_size _ rfl⟩
theorem Inv.fresh (I:Inv X pins σ H s):H s.heap.objs.size=none:=I.hok.fresh (Nat.le_refl _)
theorem Inv.abu (I:Inv X pins σ H s)(hH:H l=some (.lst xs)):xs.length<=sizeLine/\∃(its:oH)(n:Nat),aM xs its/\xs.length=its.length/\s.heap.get? l=some {cls:=.type "list",data:=.seq its.toArray n}:=by
 obtain⟨z,its,n,r,e⟩:=I.hok l _ hH;exact⟨z,its,n,r,r.length,e⟩
theorem yf (h:n<=sizeLine):Builtin.List.listTooLong n=false:=by
 unfold Builtin.List.listTooLong;exact decide_eq_false (by omega)
end
section
variable {X:Cx}
def abH:V->List V->Hp->VK->Prop:=λx vs H Q=>∃l xs y,x=.ref l/\vs=[y]/\H l=some (.lst xs)/\xs.length<sizeLine/\Q .non (upd H l (.lst (xs++[y])))
theorem mY:Ht X "list.append" abH:=by
 intro pins s σ H x vs v us Q I rx rv h;obtain⟨l,xs,y,rfl,rfl,hH,hz,q⟩:=h
 cases rx
 obtain⟨u,rfl,ru⟩:=rv.one;obtain⟨z,its,n,r,hl,e⟩:=I.abu hH;refine call_meets F.slot_list_append ⟨_,e,rfl⟩ F.entry_list_append (F.args_list_append_2 _ _) (PySem.list_append l its.toArray n u (by rw[List.size_toArray];omega)) ⟨e,?_⟩;refine⟨.non,_,I.ab4 (its':=its++[u]) hH e (by simp) (r.append (.cons ru .nil)) ?_,rfl,q⟩;rw[List.length_append,List.length_singleton];omega
def abW:V->List V->Hp->VK->Prop:=λx vs H Q=>∃l xs,x=.ref l/\vs=[]/\H l=some (.lst xs)/\Q .non (upd H l (.lst []))
theorem yu:Ht X "list.clear" abW:=by
 intro pins s σ H x vs v us Q I rx rv h;obtain⟨l,xs,rfl,rfl,hH,q⟩:=h
 cases rx
 have Sv:=rv.zero;subst Sv;obtain⟨z,its,n,r,hl,e⟩:=I.abu hH;refine call_meets F.slot_list_clear ⟨_,e,rfl⟩ F.entry_list_clear (F.args_list_clear_1 _) (AutoSeq1.list_clear_list_0 l its.toArray n (by rw[List.size_toArray];omega)) ⟨e,?_⟩;exact⟨.non,_,I.ab4 (its':=[]) (ys:=[]) hH e rfl .nil (Nat.zero_le _),rfl,q⟩
def acn:R2:=λx y H Q=>∃l b xs zs,x=.ref l/\y=.ref b/\H l=some (.lst xs)/\H b=some (.lst zs)/\xs.length+zs.length<=sizeLine/\∀p,H p=none->Q (.ref p) (upd H p (.lst (xs++zs)))
theorem BX:eE X (binaryOp .Add) acn:=by
 intro pins s σ H x y v u Q I rx ry h;obtain⟨l,b,xs,zs,rfl,rfl,hH,hB,hz,q⟩:=h
 cases rx
 cases ry
 obtain⟨z,its,n,r,hl,e⟩:=I.abu hH;obtain⟨z2,IB,n2,r2,Ji,e2⟩:=I.abu hB;refine PySem.P.add_list e e2 ?_ (by rw[List.size_toArray,List.size_toArray];omega)
 have ea:its.toArray++IB.toArray=(its++IB).toArray:=by simp
 rw[ea];exact⟨.ref _,_,I.ab5 (t':=s.toks) (r.append r2) (by rw[List.length_append];omega),rfl,q _ I.fresh⟩
def aco:R2:=λx y H Q=>∃l k xs,x=.ref l/\y=.int k/\H l=some (.lst xs)/\-(2^63)<=k/\k<2^63/\xs.length*k.toNat<=sizeLine /\
 ∀p,H p=none->Q (.ref p) (upd H p (.lst (List.replicate k.toNat xs).flatten))
theorem AQ {α:Type}(xs:List α)(k:Nat):(List.replicate k xs).flatten.length=k*xs.length:=by
 induction k with
 |zero=>simp
 |succ k ih=>rw[List.replicate_succ,List.flatten_cons,List.length_append,ih,Nat.succ_mul,Nat.add_comm]
theorem xZ:eE X (binaryOp .Mult) aco:=by
 intro pins s σ H x y v u Q I rx ry h;obtain⟨l,k,xs,rfl,rfl,hH,h1,h2,hz,q⟩:=h
 cases rx
 obtain⟨t,rfl⟩:=ry;obtain⟨z,its,n,r,hl,e⟩:=I.abu hH
 have hlen:its.toArray.size*k.toNat<=sizeLine:=by rw[List.size_toArray,<-hl];exact hz
 have Tq:¬its.toArray.size*k.toNat>(2^63-1)/8:=by
  have:(sizeLine:Nat)<=(2^63-1)/8:=by decide
  omega
 have Tr:¬(!Builtin.List.listFitsIndex k)=true:=by
  rw[fitsIndex_both h1 h2];exact Bool.false_ne_true
 have Og:¬Builtin.List.listTooLong (its.toArray.size*k.toNat)=true:=by
  rw[yf hlen];exact Bool.false_ne_true
 have Ts:List.foldl (λx1 x2=>x1++x2) #[] (List.replicate (if its.toArray.isEmpty=true then 0 else k.toNat) its.toArray)=(List.replicate k.toNat its).flatten.toArray:=by
  have f0:∀m:Nat,List.foldl (λx1 x2=>x1++x2) #[] (List.replicate m its.toArray)=(List.replicate m its).flatten.toArray:=λm=>by
   have:=mJ its m [];rw[List.nil_append] at this;exact this
  rw[f0]
  cases its with
  |nil=>simp
  |cons a r'=>rw[if_neg (by simp)]
 refine wpAny_binaryOp_repeat_ref (T:="list") (U:="int") (by decide) ⟨_,e,rfl⟩ (λs'=>typeIs_int s' k t) noFill_list_mul F.fills_int_mul F.slot_int_rmul repeat_list F.slot_int_index.lookup
  (call_meets F.slot_int_rmul (typeIs_int s k t) F.entry_int_rmul (F.args_int_rmul_2 _ _) (int___rmul___int_list k t l its.toArray n)
   ⟨e,rfl,⟨_,e,rfl⟩,call_meets F.slot_list_mul ⟨_,e,rfl⟩ F.entry_list_mul (F.args_list_mul_2 _ _) (AutoListH.list___mul___list_int_3 l its.toArray n k t Tr Tq Og) ⟨e,?_⟩⟩)
 rw[Ts];exact⟨.ref _,_,I.ab5 (t':=s.toks) (r.rep k.toNat) (by rw[AQ,Nat.mul_comm];exact hz),rfl,q _ I.fresh⟩
end
end L2
namespace Xg
open PySem PySem.W PySem.Calls PyProof.Rows
theorem jI {P:Params}{h:Heap}:∀(ns:List Int)(vs:oH),WellAll P h vs (ns.map WData.int)->IntsAre vs ns:=by
 intro ns
 induction ns with
 |nil =>
  intro vs w;rw[List.map_nil] at w
  cases w
  exact .nil
 |cons n ns ih =>
  intro vs w;rw[List.map_cons] at w
  cases w with
  |cons a b =>
   cases a
   exact .cons _ _ (ih _ b)
theorem vm {l:OpenLaw}{n:Nat}(hn:l.most=some n){P:Params}{h:Heap}{args:List WData}{vals:oH}
 (Lp:l.row.toRowW.claim.pre args=true)(Tt:WellAll P h vals args):
 ∃a vs ns,vals=[Value.ref a]/\args=[WData.list (ns.map WData.int)]/\h.get? a=some {cls:=.type "list",data:=.seq vs.toArray}/\IntsAre vs ns/\ns.length<=n:=by
 have Zt:WShape.hasAll [] args [.list .int]=true:=(pre_splitW Lp).1;have hc:l.pre.holds [] {args:=args}=true:=(pre_splitW Lp).2;obtain⟨d,r,rfl,h1,h2⟩:=hasAllW_cons Zt;obtain rfl:=hasAllW_nil h2;obtain⟨xs,rfl,h3⟩:=hasW_list h1;obtain⟨ns,rfl⟩:=items_int h3
 have hlen:ns.length<=n:=by
  unfold OpenLaw.pre at hc
  have h4:(WTm.not (.lt (.lit (.int (n:Int))) (.len (.arg 0)))).holds [] {args:=[.list (ns.map .int)]}=true:=by
   have h4:=(holds_andW hc).1;rw[hn] at h4;exact h4
  have h5:=condW_of h4 (w_not (w_lt w_lit (w_len_list (w_arg rfl))));rw[List.length_map] at h5;refine Nat.le_of_not_lt λq=>?_
  have q':(n:Int)<((ns.length:Nat):Int):=by omega
  first
   |(rw[decide_eq_true q'] at h5;exact absurd h5 (by decide))
   |(simp at h5;omega)
 cases Tt with
 |cons w1 w2 =>
  cases w2
  cases w1 with
  |list ho Tu=>exact⟨_,_,ns,rfl,rfl,ho,jI ns _ Tu,hlen⟩
theorem uT (l:OpenLaw)(args:List WData):l.row.toRowW.claim.post args (.bool true) args=true :=
 postW_of (r:=l.row.toRowW) (X:=(true==true))
  (show WShape.has [] (.bool true) .bool=true by first|rfl|decide|simp[WShape.has,WShape.arms,WShape.armsAll])
  (show(WTm.eq .res (.lit (.bool true))).value [] {args:=args,res:=some (.bool true),after:=args}=some (.bool (true==true)) from w_eq_bool (w_res rfl) w_lit) rfl
theorem pL {l:OpenLaw}{n:Nat}{q:yn}{loose:zX}{XP:(Str->Option Value)->Heap->Prop}{YP:World->Heap->Prop}{d:DefRec}
 (hn:l.most=some n)(Oh:d.params.defaults=[])
 (call:∀(w:World)(s₀ s₁:Dx)(mg mb:xf)(fa:Addr)(o:Obj)(pm cd doc:Value)(a:Addr)(vs:oH)(ns:List Int),
  Ground q loose [] XP w s₀ mg mb s₁.heap->YP w s₁.heap →
  s₁.heap.get? fa=some o->o.data=.func (docDef d.name d.params d.body d.scope pm cd doc)->s₁.heap.CodeRec cd d.name->mg d.name=some (.ref fa) →
  s₁.heap.get? a=some {cls:=.type "list",data:=.seq vs.toArray}->IntsAre vs ns->ns.length<=n->s₁.gens = #[] →
  codeAny (model l.prog w) callerA (.call (.ref fa) ⟨[.ref a],[]⟩) (λr s'=>r=.ok (.ret (.bool true))/\OldK s₁.heap s'.heap/\s'.os=s₁.os/\AllBare s'.gens) s₁):
 WalkO q loose XP YP l.row.toRowW d [] (λf vs=>PySem.call f vs):=by
 intro w s₀ s₁ mg mb G Y fa o pm cd doc dV kV ho hd Jp hD Tv hg args vals as Lp Zu hrd Tt hlo;obtain rfl:dV=.none:=Dflts.none hD Oh;obtain rfl:kV=.none:=Dflts.noKw hD;obtain⟨a,vs,ns,rfl,rfl,Mz,hints,hlen⟩:=vm hn Lp Tt;refine enter_call (codeAny_mono (call w s₀ s₁ mg mb fa o pm cd doc a vs ns G Y ho (fd_plain hd) Jp Tv Mz hints hlen hg) λr s' hq=>?_);obtain⟨rfl,h2,h3,h4⟩:=hq;exact⟨.inl ⟨.bool true,.bool true,[],rfl,λ_=>rfl,.bool true,uT l _,λ_=>⟨List.Pairwise.nil,λ_ hm=>(nomatch hm)⟩⟩,h2,h3,h4⟩
end Xg
namespace L2
open PySem PySem.Spec PyProof.Rows
theorem mi:∀{vs:oH}{ns:List Int},IntsAre vs ns->aM (ns.map V.int) vs
 |_,_,.nil=>.nil
 |_,_,.cons n t h=>.cons ⟨t,rfl⟩ (mi h)
structure Ao (K:PySem.W.Frag)(x qual:Str)(st:Stmt)(f:Addr)(fd:zo):Prop where
 ex:∃(oc:Value)(od:CO)(kV doc pm:Value)(an:CO)(Iv ct:Value)(IQ:va),
  fd=PySem.W.fnOf x qual (c7 st) (cu st) (aj st) .none kV doc pm an Iv ct/\K.lookup f=some ⟨oc,od,.func fd,IQ⟩/\PySem.W.codeIn K Iv qual=true
 kp:PySem.W.keepIn K (.ref f)=true
variable {x qual:Str}{st:Stmt}{f:Addr}{fd:zo}{ps:zX}
section
variable {P:yn}{w:World}{K:PySem.W.Frag}{mg:xf}{base:Heap}
theorem Ao.binds (F:Ao K x qual st f fd)
 (h:∀(kV doc pm:Value)(an:CO)(Iv ct:Value)(us:oH),us.length=ps.length->bindArgs (PySem.W.fnOf x qual (c7 st) (cu st) (aj st) .none kV doc pm an Iv ct) ⟨us,[]⟩=pure (ps.zip us)):ay K fd ps []:=by
 obtain⟨oc,od,kV,doc,pm,an,Iv,ct,IQ,rfl,lk,Jp⟩:=F.ex;exact .all (h kV doc pm an Iv ct)
theorem CC {oc:Value}{od an:CO}{IQ:va}{kV doc pm Iv ct:Value}(l:K.lookup f=some ⟨oc,od,.func (PySem.W.fnOf x qual (c7 st) (cu st) (aj st) .none kV doc pm an Iv ct),IQ⟩)
 (c:PySem.W.codeIn K Iv qual=true)(k:PySem.W.keepIn K (.ref f)=true):Ao K x qual st f (PySem.W.fnOf x qual (c7 st) (cu st) (aj st) .none kV doc pm an Iv ct):=⟨⟨oc,od,kV,doc,pm,an,Iv,ct,IQ,rfl,l,c⟩,k⟩
end
theorem vi {n:Nat}(h:n<=1000):n<sizeLine:=Nat.lt_of_le_of_lt h (by decide)
variable {pos:Pos}
section
variable {X:Cx}
theorem pv (i:Nat)(hN:X.N[i]?=some x:=by rfl)(hv:FD X.env.scope x:=by first|exact Or.inl rfl|exact Or.inr (Or.inl rfl)|exact Or.inr (Or.inr rfl))(hd:(x==("__debug__":Str))=false:=by decide)
 (Jp:(x==("__classdict__":Str))=false:=by decide):PE X (.Name x pos) (eP i):=aaF hN hv hd Jp
end
theorem bw {A B:Prop}(h:B):if false=true then A else B:=by
 rw[if_neg Bool.false_ne_true];exact h
theorem b0 {A B:Prop}(h:A):if true=true then A else B:=by
 rw[if_pos rfl];exact h
theorem dH {c A B:Prop} [Decidable c](h1:c->A)(h2:¬c->B):if c then A else B:=by
 by_cases h:c
 ·rw[if_pos h];exact h1 h
 ·rw[if_neg h];exact h2 h
def aA (H H':Hp):Prop:=∀b o,H b=some o->H' b=some o
theorem aA.refl (H:Hp):aA H H:=λ_ _ h=>h
variable {H:Hp}
theorem aA.trans {H1 H2:Hp}(a:aA H H1)(b:aA H1 H2):aA H H2:=λc o h=>b c o (a c o h)
variable {P:yn}{w:World}{h:Heap}{a:Addr}
theorem dM {o:HO}(x:gf P w H h)(hn:H a=none)(new:bx P w (upd H a o) h a o):gf P w (upd H a o) h:=λb u e=>by
 by_cases hb:b=a
 ·subst hb;rw[ah] at e;cases e;exact new
 ·rw[av hb] at e
  exact(x b u e).aaZ (λc v _ q=>q) (λc q=>by rw[av (ax q hn)];exact q) λc xs q=>by rw[av (ax q hn)];exact q
variable {env:Env}
section
variable {prog:yn}{w:World}{A:Around}{R:Result->Shared->Prop}{s:Dx}
theorem iO {elt target iter:Expr}{ifs:De}{scope:Scope}{it acc:Value}(I:Nat->Shared->Prop)
 (turn:∀n s,I n s->wpAny (model prog w) A (pyNext it) (λr s₁=>match r with
  |none=>R (.ok .next) s₁
  |some v=>wpAny (model prog w) A (letOwnedTupleGo target it v) (λ_ s₁=>wpAny (model prog w) A (assign target env v) (λ_ s₂ =>
   wpAny (model prog w) A (forIn ifs true λc r=>if r=true then do let ok <-isTrue c env (eval c env);pure (ForInStep.yield ok) else pure (ForInStep.yield r)) (λok s₃ =>
    if ok=true then wpAny (model prog w) A (eval elt env) (λx s₄ =>
     wpAny (model prog w) A (call (.builtin "list.append") [acc,x]) (λ_ s₅=>∃m,m<n/\I m s₅) (λ_ _=>False) s₄) (λ_ _=>False) s₃
    else ∃m,m<n/\I m s₃) (λ_ _=>False) s₂) (λ_ _=>False) s₁) (λ_ _=>False) s₁) (λ_ _=>False) s)
 (n:Nat)(h:I n s):
 codeAny (model prog w) A (.compLoop (.ListComp elt [⟨target,iter,ifs,0⟩] scope pos) 0 it acc env) R s:=by
 refine codeAny_loop rfl I (λn s hI=>?_) n h;show wpAny _ A ((compTurn (.ListComp elt [⟨target,iter,ifs,0⟩] scope pos) 0 it acc env).onRaise (λx=>do noteFrame x env;theTreesLotGoes x)) _ _ s;refine wpAny_noted ?_;rw[compTurn_list];refine wpAny_bind (wpAny_standAt (wpAny_bind (wpAny_mono (turn n s hI) (λr s₁ h₁=>?_) λ_ _ z=>False.elim z)))
 cases r with
 |none=>exact wpAny_pure h₁
 |some v =>
  refine wpAny_bind (wpAny_mono h₁ (λ_ s₁' Zv=>?_) λ_ _ z=>False.elim z);refine wpAny_bind (wpAny_mono Zv (λ_ s₂ h₂=>wpAny_bind (wpAny_mono h₂ (λok s₃ h₃=>?_) λ_ _ z=>False.elim z)) λ_ _ z=>False.elim z)
  cases ok with
  |false=>exact wpAny_pure ⟨rfl,h₃⟩
  |true =>
   exact wpAny_bind (wpAny_bind (wpAny_mono h₃ (λx s₄ h₄=>wpAny_bind (wpAny_mono h₄ (λ_ s₅ h₅=>wpAny_pure (wpAny_pure ⟨rfl,h₅⟩)) λ_ _ z=>False.elim z)) λ_ _ z=>False.elim z))
end
def eG (names:List (Str×NameKind))(env:Env):List (Str×Addr):=((names.filter λx=>x.2 == .free).map λx=>(x.1,(env.cells.lookup x.1).getD 0)).reverse
theorem ia {scope:Scope}(h:∀x∈scope.names,x.2=.free->∃c,env.cells.lookup x.1=some c):closureFor scope env=pure (eG scope.names env):=by
 have key:∀(names:List (Str×NameKind))(cs:List (Str×Addr)),(∀x∈names,x.2=.free->∃c,env.cells.lookup x.1=some c) →
  (forIn names cs (λ(x:Str×NameKind)(r:List (Str×Addr))=>if(x.2==NameKind.free)=true then(do let a <-cellOf env x.1;pure (ForInStep.yield ((x.1,a):: r))) else pure (ForInStep.yield r)):Sem (List (Str×Addr)))=pure (eG names env++cs):=by
  intro names
  induction names with
  |nil=>intro cs _;rfl
  |cons x r ih =>
   intro cs hn;rw[List.forIn_cons];obtain⟨n,k⟩:=x
   by_cases hk:k=.free
   ·subst hk;obtain⟨c,hc⟩:=hn (n,.free) List.mem_cons_self rfl
    have Zw:cellOf env n=pure c:=by unfold cellOf;rw[hc]
    simp only[beq_self_eq_true,if_true,Zw,pure_bind];rw[ih _ λy hy=>hn y (List.mem_cons_of_mem _ hy)];simp[eG,hc]
   ·have hb:(k==NameKind.free)=false:=by simpa using hk
    simp only[hb,Bool.false_eq_true,if_false,pure_bind];rw[ih _ λy hy=>hn y (List.mem_cons_of_mem _ hy)];simp[eG,hb]
 have z:=key scope.names [] h;rw[List.append_nil] at z;unfold closureFor
 first
  |exact z
  |(simp only[bind_pure];exact z)
  |(simp;exact z)
theorem gJ {names:List (Str×NameKind)}(h:∀x∈names,x.2=.free->∃c,env.cells.lookup x.1=some c){c:Addr}(e:(eG names env).lookup x=some c):env.cells.lookup x=some c:=by
 have m:=PySem.mem_of_lookup e;unfold eG at m;rw[List.mem_reverse,List.mem_map] at m;obtain⟨y,hy,e'⟩:=m;rw[List.mem_filter] at hy;obtain⟨c',IE⟩:=h y hy.1 (by simpa using hy.2);rw[IE] at e'
 injection e' with e1 e2
 subst e1;rw[IE];exact congrArg some e2
theorem iR {names:List (Str×NameKind)}{env:Env}(hm:(x,NameKind.free)∈names):∃c,(eG names env).lookup x=some c:=by
 have m:∃c,(x,c)∈eG names env:=⟨(env.cells.lookup x).getD 0,by
  unfold eG;rw[List.mem_reverse,List.mem_map]
  exact⟨(x,.free),List.mem_filter.mpr ⟨hm,rfl⟩,rfl⟩⟩
 obtain⟨c,m⟩:=m
 cases q:(eG names env).lookup x with
 |some d=>exact⟨d,rfl⟩
 |none =>
  exfalso
  have:∀(l:List (Str×Addr)),(x,c)∈l->l.lookup x≠none:=by
   intro l
   induction l with
   |nil=>intro h;cases h
   |cons p r ih =>
    intro h;rw[List.lookup_cons]
    rcases List.mem_cons.mp h with h|h
    ·subst h;simp
    ·split
     ·simp
     ·exact ih h
  exact this _ m q
def fG (X:Cx)(N:zX)(scope:Scope)(C:Addr)(fp:List Addr)(s:Dx)(H:Hp):Cx where
 prog:=X.prog
 w:=X.w
 K:=X.K
 mg:=X.mg
 base:=X.base
 A:=X.A
 N:=N
 s₀:=s
 H₀:=H
 env:=compEnvC scope (eG scope.names X.env) C X.env
 outer:=X.stack
 stack:=X.stack
 ex:=fp
 fn:=λ_=>false
 calm:=X.calm
 pn:=[]
 xe:=λ_ _=>False
def σC (nl:Nat)(js:List Nat)(σ:St):St:=List.replicate nl none++js.map λj=>(σ[j]?).join
structure Gq (X:Cx)(N:zX)(nl:Nat)(js:List Nat)(osc scope:Scope):Prop where
 out:X.env.scope=osc
 kind:scope.kind=.function
 cell:∀y∈scope.names,y.2≠.cell
 names:∀y∈scope.names,y.2=.local->scope.names.lookup y.1=some .local
 free:∀y∈scope.names,y.2=.free->osc.names.lookup y.1=some .cell\/osc.names.lookup y.1=some .free
 len:N.length=nl+js.length
 src:Paired (λj x=>X.N[j]?=some x/\(x,NameKind.free)∈scope.names) js (N.drop nl)
 abX:∀y∈scope.names,y.2=.free->scope.names.lookup y.1≠some .local
theorem fL {env:Env}:∀{names:List (Str×NameKind)}{x:Str}{k:NameKind},(∀y∈names,y.2≠.cell) →
 (names.map λ(n,k)=>if(k==NameKind.free&&env.scope.kind == .function&&env.kindOf n==some .cell) then(n,NameKind.cell) else(n,k)).lookup x=some k->(k=.cell\/k=.free)->(x,NameKind.free)∈names
 |[],_,_,_,h,_=>by simp at h
 |(n,k0):: r,x,k,hc,h,hk=>by
  have h:List.lookup x ((if(k0==NameKind.free&&env.scope.kind == .function&&env.kindOf n==some .cell)=true then(n,NameKind.cell) else(n,k0)):: r.map λ(n,k)=>if(k==NameKind.free&&env.scope.kind == .function&&env.kindOf n==some .cell) then(n,NameKind.cell) else(n,k))=some k:=h;have ih:=@fL env r x k λy hy=>hc y (List.mem_cons_of_mem _ hy)
  by_cases hx:x=n
  ·subst hx
   have Oi:k0=.free:=by
    by_cases hb:(k0==NameKind.free&&env.scope.kind == .function&&env.kindOf x==some .cell)=true
    ·have:=(Bool.and_eq_true_iff.mp (Bool.and_eq_true_iff.mp hb).1).1;simpa using this
    ·rw[if_neg hb] at h;simp only[List.lookup_cons,beq_self_eq_true] at h;have e:k0=k:=Option.some.inj h
     rcases hk with z|z
     ·exact absurd (e.trans z) (hc (x,k0) List.mem_cons_self)
     ·exact e.trans z
   subst Oi;exact List.mem_cons_self
  ·have hb:(x==n)=false:=by simpa using hx
   refine List.mem_cons_of_mem _ (ih ?_ hk)
   by_cases IE:(k0==NameKind.free&&env.scope.kind == .function&&env.kindOf n==some .cell)=true
   ·rw[if_pos IE] at h;simp only[List.lookup_cons,hb] at h;exact h
   ·rw[if_neg IE] at h;simp only[List.lookup_cons,hb] at h;exact h
variable {pins:List (Addr×Obj)}{σ:St}{s:Dx}{C:Addr}{g:TG}{tt:TT}{te:TE}
section
variable {X:Cx}{tg iter elt:Expr}{ifs:De}{scope osc:Scope}{pos:Pos}{N:zX}{nl:Nat}{js:List Nat}
def Dh (X:Cx)(ifs:De)(t:TT):Prop :=
 ∀(pins:List (Addr×Obj))(s:Dx)(σ:St)(H:Hp)(Q:Bool->Hp->Prop),Inv X pins σ H s->t σ H Q →
  wpAny (model X.prog X.w) X.A (forIn ifs true λc r=>if r=true then do let ok <-isTrue c X.env (eval c X.env);pure (ForInStep.yield ok) else pure (ForInStep.yield r)) (TP X pins σ Q) X.xe s
def Ad:TT:=λ_ H Q=>Q true H
theorem cj:Dh X [] Ad:=λ_ _ _ H _ I h=>wpAny_tests_nil ⟨H,I,h⟩
theorem iA {c:Expr}{t:TT}(h:PT X c t):Dh X [c] t:=λpins s σ H Q I hw=>wpAny_tests_one (h pins s σ H Q I hw)
theorem cJ {s:Dx}{b:Addr}{h':Heap}(I:Inv X pins σ H s)(f:cR X pins H b)(sb:Heap.SameBut b s.heap h'):Inv X pins σ H {s with heap:=h'}:=
 I.turned (t':=s.toks) (λc o hc e=>(sb.2 c hc).trans e) f.1 f.2.1 f.2.2.2.1 f.2.2.2.2.1 f.2.2.2.2.2
def iG (J:It)(g:TG)(tt:TT)(te:TE)(W:Nat->Nat->List V->St->Hp->Prop)(Fin:List V->Hp->Prop):Prop :=
 ∀i m xs σ' H',W i m xs σ' H'->xs.length<sizeLine/\((J.stop i H'/\Fin xs H') \/
  (J.go i H'/\∀x H2,J.yld i H' x H2->g x σ' H2 λσ3 H3=>tt σ3 H3 λb H4 =>
   if b=true then te σ3 H4 λy H5=>∃m',m'<m/\W (i+1) m' (xs++[y]) σ3 H5 else ∃m',m'<m/\W (i+1) m' xs σ3 H4))
theorem vH {fp:List Addr}{h1:Heap}{tk:Nat}(S:Gq X N nl js osc scope)(I:Inv X pins σ H s)(f:∀b∈fp,cR X pins H b)(Ko:∀b∈fp,b<s.heap.objs.size)
 (hC:s.heap.objs.size<=C)(old:∀b o,s.heap.get? b=some o->h1.get? b=some o){m1:xf}(J6:h1.Ns C m1):
 Inv (fG X N scope C fp s H) [] (σC nl js σ) H {s with heap:=h1,toks:=tk}:=by
 have Jd:∀y∈scope.names,y.2=.free->X.env.kindOf y.1=some .cell\/X.env.kindOf y.1=some .free:=λy hy hf=>by
  have:=S.free y hy hf;rw[<-S.out] at this;exact this
 have IP:∀y∈scope.names,y.2=.free->∃c,X.env.cells.lookup y.1=some c:=λy hy hf=>I.ok.has y.1 (Jd y hy hf);have sub:∀x c,(eG scope.names X.env).lookup x=some c->X.env.cells.lookup x=some c:=λx c e=>gJ IP e
 have Lq:∀b∈fp,b∉dU X.stack:=λb hb z=>by
  rcases List.mem_cons.mp (I.aam b z) with q|q
  ·exact(f b hb).2.1 q
  ·exact(f b hb).2.2.1 q
 refine⟨⟨I.ok.mod,S.kind,I.ok.glob,I.ok.blt,hC,λx y c e1 e2=>I.ok.inj x y c (sub x c e1) (sub y c e2),λx hx=>?_,λx c z _=>absurd z (by show ¬(false=true);decide),I.ok.hd,I.ok.frames,.inl rfl,
  λb hb=>⟨Nat.ne_of_lt (Nat.lt_of_lt_of_le (Ko b hb) hC),λx c e=>(f b hb).2.2.2.2.1 x c (sub x c e)⟩,I.bs,Nat.le_trans I.ok.bsz I.sz,λb o e hb=>?_,Lq,I.stack,I.aaD⟩,
  rfl,I.bare,Un.kept old,⟨m1,J6,λi x v e1 e2 e3=>?_⟩,λx c e=>?_,I.hok.fresh hC,λx c e=>I.aaj x c (sub x c e),λp hp=>absurd (show p∈([]:List (Addr×Obj)) from hp) (by simp),I.hok.kept old,?_⟩
 ·have hx:(relabel scope X.env).names.lookup x=some .cell\/(relabel scope X.env).names.lookup x=some .free:=hx
  have m:(x,NameKind.free)∈scope.names:=by
   rcases hx with z|z
   ·exact fL S.cell z (.inl rfl)
   ·exact fL S.cell z (.inr rfl)
  exact iR m
 ·rcases(f b hb).2.2.2.1 with z|z
  ·exact I.ok.aa0 b o e z
  ·exact absurd (Nat.lt_of_lt_of_le (Heap.lt_size e) (Nat.le_trans I.ok.bsz z)) (Nat.lt_irrefl _)
 ·-- Lc names
  have e1:N[i]?=some x:=e1;unfold σC at e2
  by_cases hi:i<nl
  ·rw[List.getElem?_append_left (by simpa using hi),List.getElem?_replicate] at e2
   split at e2 <;> cases e2
  ·obtain⟨k,rfl⟩:∃k,i=nl+k:=⟨i-nl,by omega⟩;rw[List.getElem?_append_right (by simp),List.length_replicate,Nat.add_sub_cancel_left,List.getElem?_map] at e2
   cases ej:js[k]? with
   |none=>rw[ej] at e2;cases e2
   |some j =>
    rw[ej] at e2;have e2:some ((σ[j]?).join)=some (some v):=e2;have e2:=Option.some.inj e2
    have e4:σ[j]?=some (some v):=by
     cases q:σ[j]? with
     |none=>rw[q] at e2;cases e2
     |some z=>rw[q] at e2;exact congrArg some e2
    have e5:(N.drop nl)[k]?=some x:=by rw[List.getElem?_drop];exact e1
    have gp:∀{l1:List Nat}{l2:zX}{k:Nat}{j:Nat}{x:Str},Paired (λj x=>X.N[j]?=some x/\(x,NameKind.free)∈scope.names) l1 l2->l1[k]?=some j->l2[k]?=some x->X.N[j]?=some x/\(x,NameKind.free)∈scope.names:=by
     intro l1 l2 k j x p
     induction p generalizing k with
     |nil=>intro h;simp at h
     |cons r _ ih =>
      intro h1 h2
      cases k with
      |zero=>simp at h1 h2;subst h1;subst h2;exact r
      |succ k=>exact ih (by simpa using h1) (by simpa using h2)
    obtain⟨hx,hm⟩:=gp S.src ej e5;have hk:=Jd (x,.free) hm rfl;obtain⟨m,hn,hl⟩:=I.loc
    have Tw:FD X.env.scope x:=by
     rcases hk with z|z
     ·exact .inr (.inl z)
     ·exact .inr (.inr z)
    obtain⟨u,r,l⟩:=hl j x v hx e4 Tw;refine⟨u,r,?_⟩
    rcases l with⟨k1,_⟩|⟨_,c,hc,Jw⟩
    ·exfalso
     rcases hk with z|z <;> (rw[z] at k1;cases k1)
    ·obtain⟨c',IE⟩:=iR (env:=X.env) hm;have:=sub x c' IE;rw[hc] at this
     cases this
     refine .inr ⟨?_,c,IE,?_⟩
     ·rcases e3 with z|z|z
      ·-- a name of Lc Lr own: no
       exfalso
       have lk:scope.names.lookup x=some .local:=by
        have gen:∀(l:List (Str×NameKind)),(l.map λ(n,k)=>if(k==NameKind.free&&X.env.scope.kind == .function&&X.env.kindOf n==some .cell) then(n,NameKind.cell) else(n,k)).lookup x=some .local->l.lookup x=some .local:=by
         intro l
         induction l with
         |nil=>intro h;simp at h
         |cons p r ih =>
          obtain⟨n,k0⟩:=p;intro h;have h:List.lookup x ((if(k0==NameKind.free&&X.env.scope.kind == .function&&X.env.kindOf n==some .cell)=true then(n,NameKind.cell) else(n,k0)):: r.map λ(n,k)=>if(k==NameKind.free&&X.env.scope.kind == .function&&X.env.kindOf n==some .cell) then(n,NameKind.cell) else(n,k))=some .local:=h
          cases hb:x==n with
          |true =>
           by_cases IE:(k0==NameKind.free&&X.env.scope.kind == .function&&X.env.kindOf n==some .cell)=true
           ·rw[if_pos IE] at h;simp only[List.lookup_cons,hb] at h;cases h
           ·rw[if_neg IE] at h;simp only[List.lookup_cons,hb] at h |-;exact h
          |false =>
           simp only[List.lookup_cons,hb];refine ih ?_
           by_cases IE:(k0==NameKind.free&&X.env.scope.kind == .function&&X.env.kindOf n==some .cell)=true
           ·rw[if_pos IE] at h;simp only[List.lookup_cons,hb] at h;exact h
           ·rw[if_neg IE] at h;simp only[List.lookup_cons,hb] at h;exact h
        exact gen _ z
       exact S.abX (x,.free) hm rfl lk
      ·exact .inl z
      ·exact .inr z
     ·obtain⟨o,ho,hd⟩:=Jw;exact⟨o,old _ _ ho,hd⟩
 ·obtain⟨v,o,ho,hd⟩:=I.cell x c (sub x c e);exact⟨v,o,old _ _ ho,hd⟩
 ·show(σC nl js σ).length=N.length;unfold σC;rw[List.length_append,List.length_replicate,List.length_map,S.len]
abbrev pb (ys:oH)(k:Nat):Obj:={cls:=.type "list",data:=.seq ys.toArray k}
theorem lW {J:It}{it:Addr}{fp:List Addr}{tn:Nat->Heap->Prop}{W:Nat->Nat->List V->St->Hp->Prop}{Fin:List V->Hp->Prop}
 {E:yj}{RR:Value->Addr->Result->Shared->Prop}
 (S:Gq X N nl js osc scope)(hc:X.calm=true)(hg:∀C fp s H,PG (fG X N scope C fp s H) tg g)(ht:∀C fp s H,Dh (fG X N scope C fp s H) ifs tt)(he:∀C fp s H,PE (fG X N scope C fp s H) elt te)
 (I:Inv X pins σ H s)(T:Turn X.prog X.w X.K tg J fp it tn)(st:tn 0 s.heap)(f:∀b∈fp,cR X pins H b)(w0:∃m,W 0 m [] (σC nl js σ) H)(hW:iG J g tt te W Fin)
 (TB:∀(D C:Addr)(H':Hp)(s':Dx)(xs:List V)(m:xf),Inv X pins σ (upd H' D (.lst xs)) s'->H' D=none->s'.heap.Ns C m->cR X pins (upd H' D (.lst xs)) C->Fin xs H'->RR (.ref D) C (.ok .next) s'):
 wpAny (model X.prog X.w) X.A (newList []) (λacc s₃=>wpAny (model X.prog X.w) X.A (newFunctionEnv scope X.env.globals (eG scope.names X.env) [] X.env.qual none .none (some X.env)) (λKx s₄ =>
  codeAny (model X.prog X.w) X.A (.compStart (.ListComp elt [⟨tg,iter,ifs,0⟩] scope pos) 0 (.ref it) acc {Kx with scope:=relabel scope X.env}) (RR acc Kx.locals) s₄) E s₃) E s:=by
 have Ko:∀b∈fp,b<s.heap.objs.size:=λb hb=>by
  obtain⟨o,e,_⟩:=T.obj 0 _ st b hb;exact Heap.lt_size e
 refine wpAny_newObj_type (wpAny_newFunctionEnv S.cell (by intro y hy;simp at hy) (λh₁ J7 JB=>?_) S.kind);dsimp only at J7 JB |-;generalize MA:s.heap.push {cls:=.type "list",dict:=none,data:=.seq ([]:oH).toArray}=H2 at J7 JB |-
 have hC:H2.objs.size=s.heap.objs.size+1:=by rw[<-MA,Heap.size_push]
 have LG:s.heap.objs.size≠H2.objs.size:=by rw[hC];exact Nat.ne_of_lt (Nat.lt_succ_self _)
 have below:∀b,b<s.heap.objs.size->b≠H2.objs.size/\b≠s.heap.objs.size:=λb hb=>⟨by rw[hC];exact Nat.ne_of_lt (Nat.lt_succ_of_lt hb),Nat.ne_of_lt hb⟩;have old:∀b o,s.heap.get? b=some o->h₁.get? b=some o:=λb o e=>JB.extBut b o (below b (Heap.lt_size e)).1 (Heap.get?_push_of_some _ (MA▸Heap.get?_push_of_some _ e));have MB:h₁.get? s.heap.objs.size=some {cls:=.type "list",data:=.seq ([]:oH).toArray 0}:=JB.extBut _ _ LG (Heap.get?_push_of_some _ (MA▸Heap.get?_push_size _ rfl))
 have J8:s.heap.objs.size<=H2.objs.size:=by rw[hC];exact Nat.le_succ _
 have IP:∀y∈scope.names,y.2=.free->∃c,X.env.cells.lookup y.1=some c:=λy hy hf=>by
  have z:=S.free y hy hf;rw[<-S.out] at z;exact I.ok.has y.1 z
 have sub:∀x c,(eG scope.names X.env).lookup x=some c->X.env.cells.lookup x=some c:=λx c e=>gJ IP e
 have TC:∀x c,(eG scope.names X.env).lookup x=some c->c<s.heap.objs.size:=λx c e=>by
  obtain⟨v,q⟩:=I.cell x c (sub x c e);exact q.lt
 have Lq:∀b∈fp,b∉dU X.stack:=λb hb z=>by
  rcases List.mem_cons.mp (I.aam b z) with q|q
  ·exact(f b hb).2.1 q
  ·exact(f b hb).2.2.1 q
 have Oj:s.heap.objs.size∉dU X.stack:=λz=>by
  rcases List.mem_cons.mp (I.aam _ z) with q|q
  ·exact absurd I.lt (by rw[<-q];exact Nat.lt_irrefl _)
  ·exact I.abO (Nat.le_refl _) q
 have Ol:s.heap.objs.size∉fp:=λz=>Nat.lt_irrefl _ (Ko _ z)
 have MC:∀{H':Hp}{ob:Obj},(∀b∈fp,H' b=none)->∀b∈fp,cR (fG X N scope H2.objs.size fp s H) [(s.heap.objs.size,ob)] H' b:=λ{H' ob} hn b hb =>
  ⟨hn b hb,(below b (Ko b hb)).1,Lq b hb,.inl hb,λx c e=>(f b hb).2.2.2.2.1 x c (sub x c e),λp hp z=>by
   have e:p=(s.heap.objs.size,ob):=by
    have:p∈[(s.heap.objs.size,ob)]:=hp;simpa using this
   subst e
   exact Ol (by rw[show s.heap.objs.size=b from z];exact hb)⟩
 have TF:∀{H':Hp},H' s.heap.objs.size=none->cR (fG X N scope H2.objs.size fp s H) [] H' s.heap.objs.size:=λ{H'} hn =>
  ⟨hn,LG,Oj,.inr (Nat.le_refl _),λx c e=>Nat.ne_of_lt (TC x c e),λp hp=>absurd (show p∈([]:List (Addr×Obj)) from hp) (by simp)⟩
 have Kz:∀{σ':St}{H':Hp}{s':Dx}{ys:oH}{k:Nat},Inv (fG X N scope H2.objs.size fp s H) [] σ' H' s'->H' s.heap.objs.size=none->s'.heap.get? s.heap.objs.size=some (pb ys k) →
  Inv (fG X N scope H2.objs.size fp s H) [(s.heap.objs.size,pb ys k)] σ' H' s':=λ{σ' H' s' ys k} I' hn hl=>I'.aap λp hp=>by
  have e:p=(s.heap.objs.size,pb ys k):=by simpa using hp
  subst e;exact⟨hl,hn,LG,Oj,λv z=>by cases z⟩
 have kb:∀s₃:Shared,s₃={s with heap:=h₁,toks:=s.toks+([]:List (Str×Value)).length} →
  codeAny (model X.prog X.w) X.A (.compLoop (.ListComp elt [⟨tg,iter,ifs,0⟩] scope pos) 0 (.ref it) (.ref s.heap.objs.size) (compEnvC scope (eG scope.names X.env) H2.objs.size X.env))
   (RR (.ref s.heap.objs.size) H2.objs.size) s₃:=by
  rintro s₃ rfl;obtain⟨m0,w0⟩:=w0;have I0:Inv (fG X N scope H2.objs.size fp s H) [] (σC nl js σ) H {s with heap:=h₁,toks:=s.toks+([]:List (Str×Value)).length}:=vH S I f Ko J8 old J7
  refine iO (λn s'=>∃i σ' H' xs ys k,Inv (fG X N scope H2.objs.size fp s H) [(s.heap.objs.size,pb ys k)] σ' H' s'/\tn i s'.heap/\(∀b∈fp,H' b=none)/\aM xs ys/\W i n xs σ' H') ?_ m0
   ⟨0,σC nl js σ,H,[],[],0,Kz I0 (I.hok.fresh (Nat.le_refl _)) MB,T.keep _ _ _ st λb _ o e=>old b o e,λb hb=>(f b hb).1,.nil,w0⟩
  rintro n s' ⟨i,σ',H',xs,ys,k,I',Jx,Om,rv,w'⟩;obtain⟨hz,hw⟩:=hW i n xs σ' H' w'
  rcases hw with⟨stop,fin⟩|⟨go,step⟩
  ·refine wpAny_mono (T.done (fG X N scope H2.objs.size fp s H) rfl rfl rfl hc i _ s' σ' H' (λ_ _=>False) I' (MC Om) Jx stop) (λr s1 z'=>?_) λ_ _ z=>z;obtain⟨hr,I1⟩:=z';subst hr;obtain⟨p1,p2,_⟩:=I1.pin (s.heap.objs.size,pb ys k) (by show _∈([]:List (Addr×Obj))++[_];simp);have u1:Un (dU X.stack) fp H H' s.heap s1.heap:=I1.base
   have u2:Un (dU X.stack) fp H (upd H' s.heap.objs.size (.lst xs)) s.heap s1.heap:=⟨u1.keep,u1.slot,λb o e n hx=>by rw[av (Nat.ne_of_lt (Heap.lt_size e))];exact u1.free b o e n hx,u1.there,
    λb zs e=>by rw[av (ax (u1.aal b zs e) p2)];exact u1.aal b zs e,λb o zs e=>by rw[av (ax (u1.aak b o zs e) p2)];exact u1.aak b o zs e,λb ps e=>by
     obtain⟨mo,q⟩:=u1.aar b ps e
     exact⟨mo,by rw[av (ax q p2)];exact q⟩⟩
   have hk:gf X.prog X.w (upd H' s.heap.objs.size (.lst xs)) s1.heap:=dM I1.hok p2 ⟨Nat.le_of_lt hz,ys,k,rv,p1⟩;have I3:Inv X pins σ (upd H' s.heap.objs.size (.lst xs)) s1:=I.abr I1.os u2 hk I1.bare λb hb=>⟨(f b hb).2.2.2.1,(f b hb).2.1,(f b hb).2.2.2.2.1,(f b hb).2.2.2.2.2⟩;obtain⟨mm,TH,_⟩:=I1.loc
   have TJ:upd H' s.heap.objs.size (.lst xs) H2.objs.size=none:=by rw[av (Ne.symm LG)];exact I1.free
   exact TB _ _ H' s1 xs mm I3 p2 TH (I.aaO J8 TJ) fin
  ·refine wpAny_mono (T.item (fG X N scope H2.objs.size fp s H) rfl rfl rfl hc i _ s' σ' H' (λ_ _=>False) I' (MC Om) Jx go) (λr s1 z'=>?_) λ_ _ z=>z;obtain⟨u,hr,h4⟩:=z';subst hr;refine wpAny_mono h4 (λ_ s2 z'=>?_) λ_ _ z=>z;obtain⟨x,Oo,I2,r2,y2,J5,TK⟩:=z';have TL:=I2.pinned (MC TK) (T.obj _ _ J5);refine wpAny_mono (hg _ _ _ _ _ s2 σ' Oo x u _ TL r2 (step x Oo y2)) (λ_ s3 z'=>?_) λ_ _ z=>z;obtain⟨σ3,H3,I3,q3⟩:=z';refine wpAny_mono (ht _ _ _ _ _ s3 σ3 H3 _ I3 q3) (λok s4 z'=>?_) λ_ _ z=>z;obtain⟨H4,I4,q4⟩:=z'
   have back:∀{s5:Dx}{H5:Hp},Inv (fG X N scope H2.objs.size fp s H) ([(s.heap.objs.size,pb ys k)]++jm fp s2.heap) σ3 H5 s5->tn (i+1) s5.heap/\∀b∈fp,H5 b=none:=λ{s5 H5} I5 =>
    ⟨T.keep _ _ _ J5 λb hb o e=>(I5.pin (b,o) (List.mem_append_right _ (List.mem_append_right _ (dE hb e)))).1,λb hb=>by
     obtain⟨o,e,d⟩:=T.obj _ _ J5 b hb
     exact(I5.pin (b,o) (List.mem_append_right _ (List.mem_append_right _ (dE hb e)))).2.1⟩
   cases ok with
   |false =>
    rw[if_neg Bool.false_ne_true] at q4 |-;obtain⟨m',hm,w4⟩:=q4;exact⟨m',hm,i+1,σ3,H4,xs,ys,k,I4.aaA,(back I4).1,(back I4).2,rv,w4⟩
   |true =>
    rw[if_pos rfl] at q4 |-;refine wpAny_mono (he _ _ _ _ _ s4 σ3 H4 _ I4 q4) (λv s5 z'=>?_) λ_ _ z=>z;obtain⟨y,H5,I5,r5,m',hm,w5⟩:=z';obtain⟨p1,p2,_⟩:=I5.pin (s.heap.objs.size,pb ys k) (List.mem_append_right _ (List.mem_append_left _ (by simp)));obtain⟨Mt,N6⟩:=back I5;refine append_at (its:=ys.toArray) p1 (λh' sb hD=>?_) (by rw[List.size_toArray,<-rv.length];exact Nat.le_of_lt hz);have I6:Inv (fG X N scope H2.objs.size fp s H) [] σ3 H5 {s5 with heap:=h'}:=cJ (I5.aap (pins':=[]) λp hp=>absurd hp (by simp)) (TF p2) sb;refine⟨m',hm,i+1,σ3,H5,xs++[y],ys++[v],k+1,Kz I6 p2 ?_,T.keep _ _ _ Mt λb hb o e=>(sb.2 b λz=>Ol (z▸hb)).trans e,N6,rv.append (.cons r5 .nil),w5⟩;rw[hD];show some _=some (pb (ys++[v]) (k+1));rw[pb,<-List.push_toArray]
 exact codeAny_compStart_list (kb _ rfl) (T.self X.A 0 _ _ _ (T.keep _ _ _ st λb _ o e=>old b o e) (kb _ rfl))
def yI (wi:TI)(g:TG)(tt:TT)(te:TE)(nl:Nat)(js:List Nat):TE:=λσ H Q=>wi σ H λJ H1 =>
 ∃W:Nat->Nat->List V->St->Hp->Prop,(∃m,W 0 m [] (σC nl js σ) H1)/\iG J g tt te W λxs H'=>∀D,H' D=none->Q (.ref D) (upd H' D (.lst xs))
theorem lI (S:Gq X N nl js osc scope)(I:Inv X pins σ H s):closureFor scope X.env=pure (eG scope.names X.env):=ia λy hy hf=>by
 have z:=S.free y hy hf;rw[<-S.out] at z;exact I.ok.has y.1 z
theorem ck {wi:TI}(S:Gq X N nl js osc scope)(hc:X.calm=true)(hi:PI X tg iter wi)(hg:∀C fp s H,PG (fG X N scope C fp s H) tg g)(ht:∀C fp s H,Dh (fG X N scope C fp s H) ifs tt)
 (he:∀C fp s H,PE (fG X N scope C fp s H) elt te)(hs:∀x,foldedSetIterable iter X.env x=pure x:=by intro _;rfl):
 PE X (.ListComp elt [⟨tg,iter,ifs,0⟩] scope pos) (yI wi g tt te nl js):=by
 intro pins s σ H Q I h;rw[eval_ListComp];refine wpAny_comprehension_free (use:=none) rfl hs (lI S I) S.kind S.names (bK (hi pins s σ H _ I h) λv s1 h1=>bK h1 λN5 s2 h2=>?_);obtain⟨it,fp,tn,J,H2,e,I2,T,J5,f2,W,w0,hW⟩:=h2;subst e;refine lW (RR:=λacc C=>compPost (model X.prog X.w) X.A X.xe none (EP X pins σ Q) acc C) S hc hg ht he I2 T J5 f2 w0 hW ?_;intro D C H' s' xs m I3 hD hn fC fin;exact⟨m,hn,λh' sb=>⟨.ref D,_,cJ I3 fC sb,rfl,fin D hD⟩⟩
theorem jR {i:Nat}{y:Str}{py KA:Pos}{wi:TI}(S:Gq X N nl js osc scope)(hc:X.calm=true)(hN:X.N.Nodup)(hy:X.N[i]?=some y)(hl:DY X.env.scope y)(hi:PI X tg iter wi)
 (hg:∀C fp s H,PG (fG X N scope C fp s H) tg g)(ht:∀C fp s H,Dh (fG X N scope C fp s H) ifs tt)(he:∀C fp s H,PE (fG X N scope C fp s H) elt te)
 (TM:swapsWith (.ListComp elt [⟨tg,iter,ifs,0⟩] scope pos) (some (.Name y py)) KA.line X.env=pure true)(hs:∀x,foldedSetIterable iter X.env x=pure x:=by intro _;rfl)
 (hf:X.fn y=true\/X.env.scope.names.lookup y=some .local:=by first|exact .inl rfl|exact .inr rfl|assumption):
 PS X (.Assign [.Name y py] (.ListComp elt [⟨tg,iter,ifs,0⟩] scope pos) KA) (rp (yI wi g tt te nl js) (cb i)):=by
 intro pins s σ H D I h;rw[exec_Assign_Name_used _ _ _ _ TM];refine wpAny_bind (wpAny_standAt (wpAny_bind ?_));show wpAny _ X.A (do let _ <-comprehension (.ListComp elt [⟨tg,iter,ifs,0⟩] scope pos) scope X.env _ (newList []) false (eval iter X.env) (some (assign (.Name y py) X.env))) _ _ s
 refine wpAny_bind (wpAny_mono (wpAny_comprehension_free (use:=some (assign (.Name y py) X.env)) (Q:=λ_ s'=>SP X pins D .next s') rfl hs (lI S I) S.kind S.names
  (bK (hi pins s σ H _ I h) λv s1 h1=>bK h1 λN5 s2 h2=>?_)) (λ_ s' hq=>wpAny_pure (wpAny_pure hq)) λ_ _ e=>e)
 obtain⟨it,fp,tn,J,H2,e,I2,T,J5,f2,W,w0,hW⟩:=h2;subst e;refine lW (RR:=λacc C=>compPost (model X.prog X.w) X.A X.xe (some (assign (.Name y py) X.env)) (λ_ s'=>SP X pins D .next s') acc C) S hc hg ht he I2 T J5 f2 w0 hW ?_;intro Dd C H' s' xs m I3 hD hn fC fin;show wpAny _ X.A (assign (.Name y py) X.env (.ref Dd)) _ _ _;refine wpAny_assign_Name (i9 I3 hN hy hl (show aG (.ref Dd) (.ref Dd) from rfl) (λs4 I4 z'=>?_) hf);obtain⟨a,sb,ha⟩:=z';refine⟨m,hn.sameBut sb ?_,λh' TN=>⟨_,_,cJ I4 fC TN,fin Dd hD⟩⟩
 rcases ha with z|z
 ·rw[z];exact fC.2.1
 ·exact λq=>fC.2.2.2.2.1 _ _ z q.symm
end
open PySem.W
def Im (h B:Heap)(e:Addr)(cls a0 fl:Value)(d:CO):Prop :=
 ∃(o:Obj)(vs:GV)(T:Addr)(oT:Obj)(ts:GV),h.get? e=some o/\o.dict=d/\(o.cls=cls/\vs[0]?=some a0)/\o.data=.fields vs/\vs[1]?=some (.ref T)/\B.get? T=none/\T≠e/\h.get? T=some oT/\oT.data=.fields ts/\ts[3]?=some fl
structure pN (B:Heap)(l:List Env)(e:Addr)(cls a0 fl:Value)(d:CO)(h:Heap):Prop where
 st:B.StaysIn h
 new:B.get? e=none
 fr:h.FunFrames B l
 tr:Im h B e cls a0 fl d
variable {o:Obj}{vs:GV}{l:List Env}
section
variable {M:Model}{A:Around}{E:yj}{s:Dx}{B:Heap}{env:Env}{outer:List Env}{L e:Addr}{cls a0:Value}{d:CO}{Q:Unit->Shared->Prop}
theorem ur {hd:Value}{nx:Bool}(Kp:A.frames=some (env::outer))(fr:s.heap.FunFrames B (env::outer))(hf:env.frame=some L)(st:B.StaysIn s.heap)(new:B.get? e=none)
 (he:s.heap.get? e=some o)(JN:o.dict=d)(hc:o.cls=cls)(hv:o.data=.fields vs)(h1:1<vs.size)(h0:vs[0]?=some a0)
 (h:∀h',pN B (env::outer) e cls a0 (rawInt L) d h'->s.heap.UpToSlots h'->Q () {s with heap:=h'}):
 wpAny M A (do let a <-frameOf env;let pl <-entryPlaceOf L nx;let b <-EntryCells.newEntry hd a .none (rawInt L) .none pl;setField (.ref e) 1 b) Q E s:=by
 have nf:e∉(env::outer).filterMap (·.frame):=λm=>by
  obtain⟨_,o',Jc,q⟩:=fr.mem m;rw[he] at Jc;cases Jc;exact q vs hv
 refine wpAny_bind (wpAny_frameOf_fun Kp fr hf λg sl=>wpAny_bind (wpAny_entryPlaceOf λpl JK=>?_));unfold EntryCells.newEntry newFields;refine wpAny_bind (wpAny_newObj_type ?_ (JK.sizeOk5 _ _ _ _ _));have e1:g.get? e=some o:=(sl.2.1 e nf).trans he;have Xh:B.StaysIn g:=λb ob q=>(sl.2.1 b λm=>by rw[(fr.mem m).1] at q;cases q).trans (st b ob q);have ne:g.objs.size≠e:=Nat.ne_of_gt (Heap.lt_size e1);have dv:=Obj.data_mapFields hv (·.setIfInBounds 1 (Value.ref g.objs.size))
 have kp:∀(oT:Obj) b ob,b≠e->g.get? b=some ob->((g.push oT).update e (Obj.mapFields (·.setIfInBounds 1 (Value.ref g.objs.size)))).get? b=some ob:=λoT b ob hb q =>
  (Heap.get?_update_other _ _ (Ne.symm hb)).trans (Heap.get?_push_of_some _ q)
 have nr:∀b ob,s.heap.get? b=some ob->(∀ws,ob.data≠.fields ws)->b≠e:=λb ob q hn z=>by rw[z,he] at q;cases q;exact hn vs hv
 refine wpAny_setField (Heap.get?_push_of_some _ e1) hv h1 (h _ ⟨λb ob q=>kp _ b ob (λz=>by rw[z,new] at q;cases q) (Xh b ob q),new,fr.of_keeps λb ob q hn=>?_,?_⟩ λb ob q hn=>?_)
 ·obtain⟨z,q1⟩:=sl.2.2 b ob q;exact⟨_,kp _ b _ (nr b ob q hn) q1,rfl⟩
 ·refine⟨_,_,g.objs.size,_,_,Heap.get?_update_self _ (Heap.get?_push_of_some _ e1) (Obj.isFreed_of_fields dv),?_,⟨(Obj.cls_mapFields _ _).trans hc,by rw[Array.getElem?_setIfInBounds_ne (by decide)];exact h0⟩,dv,by simp[h1],Xh.fresh,ne,
   (Heap.get?_update_other _ _ (Ne.symm ne)).trans (Heap.get?_push_size g rfl),rfl,by first|(simp;done)|(rcases JK with rfl|⟨_,_,_,_,_,_,_,rfl⟩ <;> simp)⟩
  rw[<-JN]
  cases o
  dsimp only at hv;subst hv;rfl
 ·obtain⟨z,q1⟩:=sl.2.2 b ob q;exact⟨z,kp _ b _ (nr b ob q hn) q1⟩
theorem yr (Kp:A.frames=some (env::outer))(hf:env.frame=some L)(x:pN B (env::outer) e cls a0 .none d s.heap)
 (h:∀h',pN B (env::outer) e cls a0 (rawInt L) d h'->s.heap.UpToSlots h'->Q () {s with heap:=h'}):wpAny M A (noteFrame (.ref e) env) Q E s:=by
 obtain⟨o,vs,T,oT,ts,he,JN,⟨hc,h0⟩,hv,h1,nT,Te,hT,LH,h3⟩:=x.tr;unfold noteFrame;simp only[hf];refine wpAny_bind (wpAny_field he hv h1 ?_);rw[if_pos (by simp)];refine wpAny_bind (wpAny_field hT LH h3 ?_);rw[if_neg (by simp[rawInt])];refine wpAny_bind (wpAny_setField hT LH (Array.getElem?_eq_some_iff.mp h3).1 ?_);have ot:∀b,b≠T->(s.heap.update T (Obj.mapFields (·.setIfInBounds 3 Value.none))).get? b=s.heap.get? b:=λb hb=>Heap.get?_update_other _ _ (Ne.symm hb)
 have nr:∀b ob,s.heap.get? b=some ob->(∀ws,ob.data≠.fields ws)->b≠T:=λb ob q hn z=>by rw[z,hT] at q;cases q;exact hn ts LH
 refine ur (s:={s with heap:=s.heap.update T (Obj.mapFields (·.setIfInBounds 3 Value.none))}) Kp (x.fr.of_keeps λb ob q hn=>⟨ob,(ot b (nr b ob q hn)).trans q,rfl⟩) hf (λb ob q=>(ot b λz=>by rw[z,nT] at q;cases q).trans (x.st b ob q)) x.new
  ((ot e (Ne.symm Te)).trans he) JN hc hv (Array.getElem?_eq_some_iff.mp h1).1 h0 λh' y up=>h h' y λb ob q hn=>up b ob ((ot b (nr b ob q hn)).trans q) hn
theorem y6 (Kp:A.frames=some (env::outer))(fr:s.heap.FunFrames B (env::outer))(hf:env.frame=some L)(st:B.StaysIn s.heap)(new:B.get? e=none)
 (he:s.heap.get? e=some o)(JN:o.dict=d)(hc:o.cls=cls)(hv:o.data=.fields vs)(h1:vs[1]?=some .none)(h0:vs[0]?=some a0)
 (h:∀h',pN B (env::outer) e cls a0 (rawInt L) d h'->s.heap.UpToSlots h'->Q () {s with heap:=h'}):wpAny M A (noteFrame (.ref e) env) Q E s:=by
 unfold noteFrame;simp only[hf];refine wpAny_bind (wpAny_field he hv h1 ?_);rw[if_neg (by decide)];exact ur Kp fr hf st new he JN hc hv (Array.getElem?_eq_some_iff.mp h1).1 h0 h
theorem iP {fl:Value}(x:pN B l e cls a0 fl d s.heap)(h:∀h',pN B l e cls a0 .none d h'->s.heap.UpToSlots h'->Q () {s with heap:=h'}):wpAny M A (setFlight (.ref e) none) Q E s:=by
 obtain⟨o,vs,T,oT,ts,he,JN,hc,hv,h1,nT,Te,hT,LH,h3⟩:=x.tr;have z3:3<ts.size:=(Array.getElem?_eq_some_iff.mp h3).1;have ot:∀b,b≠T->(s.heap.update T (Obj.mapFields (·.setIfInBounds 3 Value.none))).get? b=s.heap.get? b:=λb hb=>Heap.get?_update_other _ _ (Ne.symm hb)
 have nr:∀b ob,s.heap.get? b=some ob->(∀ws,ob.data≠.fields ws)->b≠T:=λb ob q hn z=>by rw[z,hT] at q;cases q;exact hn ts LH
 unfold setFlight;refine wpAny_bind (wpAny_field he hv h1 ?_);rw[if_pos (by simp)];refine wpAny_setField hT LH z3 (h _ ⟨λb ob q=>(ot b λz=>by rw[z,nT] at q;cases q).trans (x.st b ob q),x.new,x.fr.of_keeps λb ob q hn=>⟨ob,(ot b (nr b ob q hn)).trans q,rfl⟩,?_⟩ λb ob q hn=>⟨ob.slots,(ot b (nr b ob q hn)).trans q⟩);exact⟨o,vs,T,_,_,(ot e (Ne.symm Te)).trans he,JN,hc,hv,h1,nT,Te,Heap.get?_update_self _ hT (Obj.isFreed_of_fields (Obj.data_mapFields LH _)),Obj.data_mapFields LH _,by simp[z3]⟩
theorem pN.out {fl:Value}(x:pN B (env::outer) e cls a0 fl d h):pN B outer e cls a0 fl d h:=⟨x.st,x.new,x.fr.2.2,x.tr⟩
theorem A5 (Kp:A.frames=some (env::outer))(hf:env.frame=some L)(x:pN B (env::outer) e cls a0 .none d s.heap)
 (h:∀h',pN B outer e cls a0 .none d h'->s.heap.UpToSlots h'->Q () {s with heap:=h'}):wpAny M A (leaving env (.ref e)) Q E s:=by
 unfold leaving;exact wpAny_bind (yr Kp hf x λg y up=>iP (s:={s with heap:=g}) y λg2 y2 TQ=>h g2 y2.out (up.trans TQ))
theorem wb (Kp:A.frames=some (env::outer))(fr:s.heap.FunFrames B (env::outer))(hf:env.frame=some L)(st:B.StaysIn s.heap)(new:B.get? e=none)
 (he:s.heap.get? e=some o)(JN:o.dict=d)(hc:o.cls=cls)(hv:o.data=.fields vs)(h1:vs[1]?=some .none)(h0:vs[0]?=some a0)
 (h:∀h',pN B outer e cls a0 .none d h'->s.heap.UpToSlots h'->Q () {s with heap:=h'}):wpAny M A (leaving env (.ref e)) Q E s:=by
 unfold leaving;exact wpAny_bind (y6 Kp fr hf st new he JN hc hv h1 h0 λg y up=>iP (s:={s with heap:=g}) y λg2 y2 TQ=>h g2 y2.out (up.trans TQ))
end
theorem bx.there {o:HO}(x:bx P w H h a o):∃ob,h.get? a=some ob:=by
 cases o with
 |lst xs=>obtain⟨_,_,_,_,e⟩:=x;exact⟨_,e⟩
 |tup xs=>obtain⟨_,_,_,ob,e,_⟩:=x;exact⟨_,e⟩
 |dK Ir=>obtain⟨_,_,_,_,o,_,_,e,_⟩:=x;exact⟨_,e⟩
 |dT Ir=>obtain⟨_,_,_,_,o,_,_,e,_⟩:=x;exact⟨_,e⟩
 |set S n=>obtain⟨o,_,_,_,e,_⟩:=x;exact⟨_,e⟩
 |ins C dx fs=>obtain⟨_,_,_,e,_⟩:=x;exact⟨_,e⟩
 |own y=>obtain⟨_,e⟩:=x;exact⟨_,e⟩
 |xd fs=>obtain⟨_,⟨_,_,_,e,_⟩,_⟩:=x;exact⟨_,e⟩
 |rng lo hi=>obtain⟨_,_,_,e⟩:=x;exact⟨_,e⟩
 |frz ob u=>obtain⟨e,_⟩:=x;exact⟨_,e⟩
 |tbl ps=>exact⟨_,(show h.get? a=some _ from x)⟩
 |met f y=>exact⟨_,(show h.get? a=some _ from x)⟩
 |ext φ=>obtain⟨_,⟨_,e⟩,_⟩:=x;exact⟨_,e⟩
structure vQ (P:yn)(w:World)(l:List Env)(H₀:Hp)(h₀:Heap)(a:Addr)(cls:Value)(H:Hp)(h:Heap)(B:Heap)(a0:Value)(d:CO):Prop where
 fly:pN B l a cls a0 .none d h
 un:Un (dU l) [] H₀ H h₀ h
 keep:∀b o,h₀.get? b=some o->H₀ b=none->b∉dU l->B.get? b=some o
 there:∀b o,h₀.get? b=some o->b∉dU l->∃o',B.get? b=some o'
 hok:gf P w H B
 new:H a=none
def aU (P:yn)(w:World):GL:=λouter H₀ s₀ E e s'=>∃(a:Addr)(cls a0:Value)(B:Heap)(d:CO)(H:Hp),e=.ref a/\s'.os=s₀.os/\AllBare s'.gens/\vQ P w outer H₀ s₀.heap a cls H s'.heap B a0 d/\E cls d H
variable {J9:Heap}{cls:Value}{d:CO}
section
variable {X:Cx}{pins:List (Addr×Obj)}{σ:St}{H H':Hp}{s s':Dx}{P:yn}{w:World}
theorem cX {base:Heap}(F:h.FunFrames base l){b:Addr}(hb:b∈dU l)(e:h.get? b=some o):∀vs,o.data≠.fields vs:=by
 obtain⟨_,o',e',d⟩:=F.mem hb;rw[e] at e'
 cases e'
 exact d
theorem rM {outer:List Env}{h' B:Heap}{e t:Addr}{args:oH}(I:Inv X pins σ H s)(hex:X.ex=[])(Le:X.stack=X.env::X.outer)(hm:Heap.MadeExcOf s.heap h' e cls args)
 (hB:B=PySem.W.hideAll s.heap (dU X.stack))(hf:pN B X.outer e cls (.ref t) .none d J9)(MD:h'.UpToSlots J9):vQ X.prog X.w X.outer X.H₀ X.s₀.heap e cls H J9 B (.ref t) d:=by
 subst hB;have st:=hf.st;have Oq:∀b o,s.heap.get? b=some o->b∉dU X.stack->(PySem.W.hideAll s.heap (dU X.stack)).get? b=some o:=λb o e n=>PySem.W.hideAll_get _ e n
 have old:∀b o,X.s₀.heap.get? b=some o->b∉dU X.outer->b∉dU X.stack:=λb o e n z=>by
  rcases List.mem_cons.mp (I.aam b z) with q|q
  ·exact absurd (Nat.lt_of_lt_of_le (Heap.lt_size e) I.ok.above) (by rw[q];exact Nat.lt_irrefl _)
  ·exact n q
 have base:Un (dU X.outer) [] X.H₀ H X.s₀.heap s.heap:=by
  have z:=I.base;rw[hex] at z;exact z
 refine⟨hf,⟨λb o e n hb _=>st b o (Oq b o (base.keep b o e n hb (by simp)) (old b o e hb)),λb o e n hb _=>?_,base.free,λb o e _=>?_,base.aal,base.aak,base.aar⟩,λb o e n hb=>Oq b o (base.keep b o e n hb (by simp)) (old b o e hb),λb o e hb=>?_,λb u e=>?_,?_⟩
 ·obtain⟨sl,e1⟩:=base.slot b o e n hb (by simp);obtain⟨Km,e2⟩:=MD b _ (hm.keeps b _ e1) (cX I.aau hb e1);exact⟨Km,e2⟩
 ·obtain⟨o',e1⟩:=base.there b o e (by simp)
  by_cases hb:b∈dU X.outer
  ·obtain⟨Km,e2⟩:=MD b _ (hm.keeps b _ e1) (cX I.aau hb e1);exact⟨_,e2⟩
  ·exact⟨o',st b o' (Oq b o' e1 (old b o e hb))⟩
 ·obtain⟨o',e1⟩:=base.there b o e (by simp);exact⟨o',Oq b o' e1 (old b o e hb)⟩
 ·exact(I.hok b u e).aaZ (λc v hc q=>Oq c v q λz=>by
   have n:=I.aaD c z
   rcases hc with hc|hc
   ·rw[hc,e] at n;cases n
   ·rw[n] at hc;cases hc) (λ_ q=>q) λ_ _ q=>q
 ·cases q:H e with
  |none=>rfl
  |some u =>
   obtain⟨ob,e1⟩:=(I.hok e u q).there;rw[hm.new] at e1
   cases e1
theorem wG {B:Heap}{a0:Value}(I:Inv X pins σ H s)(hex:X.ex=[])(F:vQ X.prog X.w X.stack H s.heap a cls H' s'.heap B a0 d)
 (hf:pN B X.outer a cls a0 .none d J9)(MD:s'.heap.UpToSlots J9):vQ X.prog X.w X.outer X.H₀ X.s₀.heap a cls H' J9 B a0 d:=by
 have st:=hf.st
 have sub:∀b,b∈dU X.outer->b∈dU X.stack:=λb hb=>by
  rcases I.ok.stk with z|⟨z,Kp⟩
  ·rw[z];exact hb
  ·rw[z];unfold dU;rw[List.filterMap_cons,Kp];exact List.mem_cons_of_mem _ hb
 have old:∀b o,X.s₀.heap.get? b=some o->b∉dU X.outer->b∉dU X.stack:=λb o e n z=>by
  rcases List.mem_cons.mp (I.aam b z) with q|q
  ·exact absurd (Nat.lt_of_lt_of_le (Heap.lt_size e) I.ok.above) (by rw[q];exact Nat.lt_irrefl _)
  ·exact n q
 have base:Un (dU X.outer) [] X.H₀ H X.s₀.heap s.heap:=by
  have z:=I.base;rw[hex] at z;exact z
 have kB:∀b o,X.s₀.heap.get? b=some o->X.H₀ b=none->b∉dU X.outer->B.get? b=some o:=λb o e n hb =>
  F.keep b o (base.keep b o e n hb (by simp)) (base.free b o e n (by simp)) (old b o e hb)
 have tB:∀b o,X.s₀.heap.get? b=some o->b∉dU X.outer->∃o',B.get? b=some o':=λb o e hb=>by
  obtain⟨o',e1⟩:=base.there b o e (by simp);exact F.there b o' e1 (old b o e hb)
 have Kw:∀b o,s.heap.get? b=some o->H b=none->b∈dU X.outer->∃sl,J9.get? b=some {o with slots:=sl}:=λb o e n hb=>by
  obtain⟨sl,e1⟩:=F.un.slot b o e n (sub b hb) (by simp);obtain⟨Km,e2⟩:=MD b _ e1 (λvs q=>cX I.aau hb e vs q);exact⟨Km,e2⟩
 refine⟨hf,⟨λb o e n hb _=>st b o (kB b o e n hb),λb o e n hb _=>?_,λb o e n _=>?_,λb o e _=>?_,λb xs e=>F.un.aal b xs (base.aal b xs e),λb o xs e=>F.un.aak b o xs (base.aak b o xs e),λb ps e=>?_⟩,kB,tB,F.hok,F.new⟩
 ·obtain⟨sl,e1⟩:=base.slot b o e n hb (by simp);obtain⟨Km,e2⟩:=Kw b _ e1 (base.free b o e n (by simp)) hb;exact⟨Km,e2⟩
 ·obtain⟨o',e1⟩:=base.there b o e (by simp);exact F.un.free b o' e1 (base.free b o e n (by simp)) (by simp)
 ·by_cases hb:b∈dU X.outer
  ·obtain⟨o',e1⟩:=base.there b o e (by simp);have n:H b=none:=I.aaD b (sub b hb);obtain⟨sl,e2⟩:=Kw b o' e1 n hb;exact⟨_,e2⟩
  ·obtain⟨o',e1⟩:=tB b o e hb;exact⟨o',st b o' e1⟩
 ·obtain⟨m1,e1⟩:=base.aar b ps e;obtain⟨m2,e2⟩:=F.un.aar b _ e1;exact⟨m1++m2,by rw[e2,Array.append_assoc]⟩
theorem lM {B:Heap}{a0 fl:Value}{tk:Nat}(I:Inv X pins σ H s)(ho:s'.os=s.os)(hg:AllBare s'.gens)(F:vQ X.prog X.w X.stack H s.heap a cls H' s'.heap B a0 d)
 (hf:pN B X.stack a cls a0 fl d J9)(MD:s'.heap.UpToSlots J9):Inv X pins σ H' {s' with heap:=J9,toks:=tk}:=by
 have st:=hf.st;refine I.abr (s':={s' with heap:=J9,toks:=tk}) (ch:=[]) ho ⟨λb o e n hb _=>st b o (F.keep b o e n hb),λb o e n hb _=>?_,F.un.free,λb o e _=>?_,F.un.aal,F.un.aak,F.un.aar⟩ (F.hok.kept st) hg λb z=>absurd z (by simp)
 ·obtain⟨sl,e1⟩:=F.un.slot b o e n hb (by simp);obtain⟨Km,e2⟩:=MD b _ e1 (λvs q=>cX I.stack hb e vs q);exact⟨Km,e2⟩
 ·by_cases hb:b∈dU X.stack
  ·obtain⟨sl,e1⟩:=F.un.slot b o e (I.aaD b hb) hb (by simp);obtain⟨Km,e2⟩:=MD b _ e1 (λvs q=>cX I.stack hb e vs q);exact⟨_,e2⟩
  ·obtain⟨o',e1⟩:=F.there b o e hb;exact⟨o',st b o' e1⟩
end
theorem B0 {K:PySem.W.Frag}{cd:ClassData}(h:PySem.W.clsIn K C=some cd):∃c d s,K.lookup C=some ⟨c,d,.cls cd,s⟩:=by
 unfold PySem.W.clsIn at h
 cases ho:K.lookup C with
 |none=>rw[ho] at h;cases h
 |some o =>
  rw[ho] at h;obtain⟨c,d,x,s⟩:=o
  cases x <;> cases h
  exact⟨_,_,_,rfl⟩
theorem Gc {α:Type}{l:List α}(h:l.length=6):∃a b c d e f,l=[a,b,c,d,e,f]:=by
 obtain⟨a,l,rfl⟩:=List.exists_cons_of_length_eq_add_one h;obtain⟨b,l,rfl⟩:=List.exists_cons_of_length_eq_add_one (Nat.succ.inj h);obtain⟨c,l,rfl⟩:=List.exists_cons_of_length_eq_add_one (Nat.succ.inj (Nat.succ.inj h));obtain⟨d,l,rfl⟩:=List.exists_cons_of_length_eq_add_one (Nat.succ.inj (Nat.succ.inj (Nat.succ.inj h)));obtain⟨e,l,rfl⟩:=List.exists_cons_of_length_eq_add_one (Nat.succ.inj (Nat.succ.inj (Nat.succ.inj (Nat.succ.inj h))));obtain⟨f,rfl⟩:=List.length_eq_one_iff.mp (Nat.succ.inj (Nat.succ.inj (Nat.succ.inj (Nat.succ.inj (Nat.succ.inj h)))));exact⟨a,b,c,d,e,f,rfl⟩
theorem AJ {K:PySem.W.Frag}{Mo:oH}{newId:String}(X:K.In h)(q:jL K C Mo newId=true):
 ∃bm N nm qn bs hd sn sub ab col dd k0 k1 k2 k3 k5 mN,h.get? C=some (excClassObj nm qn C N bs bm hd sn sub ab col dd k0 k1 k2 k3 k5 newId)/\h.Ns N mN/\mN "__init__"=none/\OwnTail h Mo bm:=by
 have q1:=Bool.and_eq_true_iff.mp q;obtain⟨cd,hc,q2⟩:=(Option.any_eq_true _ _).mp q1.2;obtain⟨c,dd,sl,ho⟩:=B0 hc;have q3:=Bool.and_eq_true_iff.mp q2;have q4:=Bool.and_eq_true_iff.mp q3.2;have q5:=Bool.and_eq_true_iff.mp q4.2;have q6:=Bool.and_eq_true_iff.mp q5.2
 have e1:(c == .type "type"&&(sl.size==6&&sl.toList[4]?==some (some (.builtin newId))))=true:=by
  have z:=q1.1;rw[ho] at z;exact z
 have e2:=Bool.and_eq_true_iff.mp e1;have e3:=Bool.and_eq_true_iff.mp e2.2;obtain⟨k0,k1,k2,k3,k4,k5,e⟩:=Gc (l:=sl.toList) (eq_of_beq e3.1)
 have e4:k4=some (.builtin newId):=by
  have z:=eq_of_beq e3.2;rw[e] at z;exact Option.some.inj z
 have e5:sl = #[k0,k1,k2,k3,some (.builtin newId),k5]:=Array.toList_inj.mp (by rw[e,e4])
 have e6:cd.mro=.ref C::cd.mro.tail:=by
  obtain⟨r,z⟩:=List.head?_eq_some_iff.mp (eq_of_beq q3.1);rw[z];rfl
 have e7:cd.hasDel=false:=by simpa using q4.1
 refine⟨cd.mro.tail,cd.ns,cd.name,cd.qualname,cd.bases,cd.hasDict,cd.slotNames,cd.subclasses,cd.abstract,cd.collection,dd,k0,k1,k2,k3,k5,_,(X _ _ ho).trans ?_,.of_isNs (PySem.W.isNs_of_in X q6.1),PySem.W.nsMap_none_of_in X q6.1 (eq_of_beq q6.2),PySem.W.tail_of_in X q5.1⟩;rw[e5,eq_of_beq e2.1];show some (Obj.mk _ _ (.cls cd) _)=some (Obj.mk _ _ (.cls ⟨_,_,_,_,_,_,_,_,_,_,false⟩) _);rw[<-e6,<-e7]
def xS (X:Cx)(E:St->XK):Prop:=∀(pins:List (Addr×Obj))(σ:St)(H:Hp)(s:Dx)(h':Heap)(e:Addr)(cls:Value)(args:oH),Inv X pins σ H s->Heap.MadeExcOf s.heap h' e cls args->E σ cls none H->X.xe (.ref e) {s with heap:=h'}
def Cv (C:Addr)(E:St->XK)(t:TA):TS:=λ_ σ H=>t σ H λvs H1=>vs.length<=sizeLine/\E σ (.ref C) none H1
section
variable {X:Cx}{E:St->XK}{x:Str}{C:Addr}{B newId ME:String}{Mo:oH}{np IJ pos:Pos}{e:Expr}{es:De}{t:TA}
theorem eh (FB:ExcBaseFacts B newId ME Mo)(q:jL X.K C Mo newId=true)(hc:X.calm=true)(hR:xS X E)(hg:Gl X x)(hm:X.mg x=some (.ref C))(ha:PA X (e::es) t)
 (he:starEach (e::es) X.env=(false,eval e X.env):: starEach es X.env:=by rfl)(JK:(backTo IJ (starEach es X.env)).any (·.1)=false:=by rfl)(hd:(x==("__debug__":Str))=false:=by decide):
 PS X (.Raise (some (.Call (.Name x np) (e::es) [] IJ)) none pos) (Cv C E t):=by
 intro pins s σ H D I h;obtain⟨bm,N,nm,qn,bs,hdct,sn,sub,ab,col,dd,k0,k1,k2,k3,k5,mN,hC,hN,Zx,T⟩:=AJ I.ok.mod.kin q
 refine wpAny_Raise_call_subT (C:=C) (nm:=nm) (q:=qn) (N:=N) (bs:=bs) (bm:=bm) (hdct:=hdct) (sn:=sn) (sub:=sub) (ab:=ab) (col:=col) (dd:=dd) (k0:=k0) (k1:=k1) (k2:=k2) (k3:=k3) (k5:=k5)
  FB (mN:=mN) (T.hasType FB.hasBase) (I.ok.hd hc) (by rw[he];show(false || (backTo IJ (starEach es X.env)).any (·.1))=false;rw[JK];rfl) Zx (fR I hg hm ⟨rfl,?_⟩ hd)
 have z:=ha IJ pins s σ H _ I h;rw[he] at z |-;refine Calls.evalArgs_plain (wpAny_mono z (λus s₂ z'=>?_) λ_ _ y=>y);obtain⟨vs,H2,I2,rv,hl,hE⟩:=z';exact⟨rfl,by rw[<-rv.length];exact hl,I2.bk _ _ hC,hN.keeps I2.bk,T.keeps I2.bk,λh' e' Sw=>hR pins σ H2 s₂ h' e' _ _ I2 Sw hE⟩
end
section
variable {P:yn}{w:World}{K:PySem.W.Frag}{mg:xf}{base:Heap}{N:zX}{qual:Str}{scope:Scope}{f:Addr}{cd:Value}{A:Around}{outer:List Env}{s:Dx}{H:Hp}{E:XK}
theorem c9:xS (gG (aU P w) P w K mg base N qual scope f cd A outer s H E) λ_=>E:=by
 intro pins σ H1 s1 h' e cls args I hm hE;have Le:(gG (aU P w) P w K mg base N qual scope f cd A outer s H E).stack=(gG (aU P w) P w K mg base N qual scope f cd A outer s H E).env::outer:=rfl;have hl:=I.stack;obtain⟨t,he,htn,ht⟩:=hm.there;have hB:∀b o,(PySem.W.hideAll s1.heap (dU (gG (aU P w) P w K mg base N qual scope f cd A outer s H E).stack)).get? b=some o->s1.heap.get? b=some o:=λb o q=>PySem.W.of_hideAll _ q
 have nB:(PySem.W.hideAll s1.heap (dU (gG (aU P w) P w K mg base N qual scope f cd A outer s H E).stack)).get? e=none:=by
  cases q:(PySem.W.hideAll s1.heap (dU (gG (aU P w) P w K mg base N qual scope f cd A outer s H E).stack)).get? e with
  |none=>rfl
  |some o=>have z:=hB _ _ q;rw[hm.new] at z;cases z
 have Zy:=PySem.W.funFrames_hide hl λenv he a ha=>List.mem_filterMap.mpr ⟨env,he,ha⟩
 refine wb (B:=PySem.W.hideAll s1.heap (dU (gG (aU P w) P w K mg base N qual scope f cd A outer s H E).stack)) (s:={s1 with heap:=h'}) (d:=none) (cls:=cls) (a0:=.ref t) I.ok.frames (Zy.of_keeps λb o q _=>⟨o,hm.keeps b o q,rfl⟩) rfl
  (λb o q=>hm.keeps b o (hB b o q)) nB he rfl rfl rfl rfl rfl λJ9 x1 x4=>?_
 exact⟨e,cls,.ref t,_,none,H1,rfl,I.os,I.bare,rM (outer:=outer) I rfl rfl hm rfl x1 x4,hE⟩
theorem rq:ed (aU P w) (gG (aU P w) P w K mg base N qual scope f cd A outer s H E) E:=by
 intro pins σ H1 s1 e s' I hx;obtain⟨a,cls,a0,B,d,H',rfl,ho,hg,F,hE⟩:=hx;refine A5 (L:=s.heap.objs.size) I.ok.frames rfl F.fly λJ9 x1 x2=>?_;exact⟨a,cls,a0,B,d,H',rfl,ho.trans I.os,hg,wG I rfl F x1 x2,hE⟩
end
theorem ae {X:Cx}:ed (aU P w) X λ_ _ _=>False:=by
 intro pins σ H1 s1 e s' I hx;obtain⟨a,cls,a0,B,d,H',_,_,_,_,hE⟩:=hx;exact hE.elim
def pW (a:Addr)(cls:Value):HO:=.ext λh=>∃o vs,h.get? a=some o/\o.cls=cls/\o.data=.fields vs
theorem AY (e:h.get? a=some o)(hc:o.cls=cls)(hd:o.data=.fields vs):bx P w H h a (pW a cls):=
 ⟨⟨o,vs,e,hc,hd⟩,⟨o,e⟩,λh1 h2 ⟨o,vs,e,hc,hd⟩ k=>⟨o,vs,k o e,hc,hd⟩⟩
theorem uM (k:gf P w H h)(e:H a=some (pW a cls)):∃o vs,h.get? a=some o/\o.cls=cls/\o.data=.fields vs:=(k a _ e).1
def wK (vs:GV):Prop:=∃t:Addr,vs = #[.ref t,.none,.none,.none,.bool false,.none]
def Hg (a:Addr)(cls:Value)(dx:Addr)(fr:Bool):HO:=.ext λh=>∃o vs,h.get? a=some o/\o.cls=cls/\o.data=.fields vs/\o.dict=some dx/\(fr=true->wK vs)
def DA (a:Addr)(cls:Value):Option Addr->HO
 |none=>pW a cls
 |some dx=>Hg a cls dx false
theorem Ag (e:h.get? a=some o)(hc:o.cls=cls)(hd:o.data=.fields vs)(hx:o.dict=d):bx P w H h a (DA a cls d):=by
 cases d with
 |none=>exact AY e hc hd
 |some dx=>exact⟨⟨o,vs,e,hc,hd,hx,λz=>by cases z⟩,⟨o,e⟩,λh1 h2 ⟨o,vs,e,hc,hd,hx,z⟩ k=>⟨o,vs,k o e,hc,hd,hx,z⟩⟩
theorem pN.first {B:Heap}{e:Addr}{a0 fl:Value}(x:pN B l e cls a0 fl d h):∃oe vs,h.get? e=some oe/\oe.cls=cls/\oe.data=.fields vs/\oe.dict=d :=
 let⟨o,vs,_,_,_,h1,h2,h3,h4,_⟩:=x.tr;⟨o,vs,h1,h3.1,h4,h2⟩
def FZ (X:Cx)(pins:List (Addr×Obj))(E:St->XK):Value->Shared->Prop:=λe s'=>∃σ H s,Inv X pins σ H s/\aU X.prog X.w X.stack H s (E σ) e s'
abbrev Cx.tr (X:Cx)(pins:List (Addr×Obj))(E:St->XK):Cx:={X with pn:=X.pn++pins,xe:=FZ X pins E}
abbrev Cx.hd (X:Cx)(a:Addr):Cx:={X with A:=X.A.mark (some (.ref a)),calm:=false,xe:=λ_ _=>False}
variable {M:Model}{A:Around}
section
variable {X:Cx}{pins pins':List (Addr×Obj)}{σ:St}{H:Hp}{s:Dx}{E:St->XK}{a:Addr}
theorem Cp (I:Inv X pins σ H s):Inv (X.tr pins E) [] σ H s :=
 ⟨⟨I.ok.mod,I.ok.kind,I.ok.glob,I.ok.blt,I.ok.above,I.ok.inj,I.ok.has,I.ok.cab,I.ok.hd,I.ok.frames,I.ok.stk,I.ok.exf,I.ok.bs,I.ok.bsz,I.ok.aa0,I.ok.abb,I.ok.aau,I.ok.frf⟩,I.os,I.bare,I.base,I.loc,I.cell,I.free,I.aaj,λp hp=>I.pin p (by
   have z:p∈(X.pn++pins)++[]:=hp;rw[List.append_nil] at z
   exact z),I.hok,I.len⟩
theorem gm (I:Inv (X.tr pins E) pins' σ H s):Inv X pins σ H s :=
 ⟨⟨I.ok.mod,I.ok.kind,I.ok.glob,I.ok.blt,I.ok.above,I.ok.inj,I.ok.has,I.ok.cab,I.ok.hd,I.ok.frames,I.ok.stk,I.ok.exf,I.ok.bs,I.ok.bsz,I.ok.aa0,I.ok.abb,I.ok.aau,I.ok.frf⟩,I.os,I.bare,I.base,I.loc,I.cell,I.free,I.aaj,λp hp=>I.pin p (List.mem_append_left _ hp),I.hok,I.len⟩
theorem xW (I:Inv X pins σ H s):Inv (X.hd a) pins σ H s :=
 ⟨⟨I.ok.mod,I.ok.kind,I.ok.glob,I.ok.blt,I.ok.above,I.ok.inj,I.ok.has,I.ok.cab,(λz=>absurd (show false=true from z) (by decide)),I.ok.frames,I.ok.stk,I.ok.exf,I.ok.bs,I.ok.bsz,I.ok.aa0,I.ok.abb,I.ok.aau,I.ok.frf⟩,I.os,I.bare,I.base,I.loc,I.cell,I.free,I.aaj,I.pin,I.hok,I.len⟩
theorem iK (ok:X.Ok)(I:Inv (X.hd a) pins σ H s):Inv X pins σ H s :=
 ⟨ok,I.os,I.bare,I.base,I.loc,I.cell,I.free,I.aaj,I.pin,I.hok,I.len⟩
theorem jU {D:Ends}{f:Flow}{s':Dx}(h:SP (X.tr pins E) [] D f s'):SP X pins D f s':=by
 cases f with
 |next=>obtain⟨σ',H',I,q⟩:=h;exact⟨σ',H',gm I,q⟩
 |brk=>obtain⟨σ',H',I,q⟩:=h;exact⟨σ',H',gm I,q⟩
 |cont=>obtain⟨σ',H',I,q⟩:=h;exact⟨σ',H',gm I,q⟩
 |ret u=>obtain⟨v,σ',H',I,r,q⟩:=h;exact⟨v,σ',H',gm I,r,q⟩
theorem qz:∀(pins':List (Addr×Obj))(σ:St)(H:Hp)(s:Dx)(e:Value)(s':Dx),Inv (X.tr pins E) pins' σ H s->aU X.prog X.w X.stack H s (E σ) e s'->(X.tr pins E).xe e s':=λpins' σ H s e s' I hx=>⟨σ,H,s,gm I,hx⟩
def GG (K:PySem.W.Frag)(c:Value)(i:Nat)(ts:TS)(D:Ends):St->XK:=λσ cls d H'=>PySem.W.exmOne K cls c=some true/\∀a,H' a=none →
 ts {nx:=λσ' H2=>D.nx (σ'.set i none) H2,rt:=D.rt,bk:=λσ' H2=>D.bk (σ'.set i none) H2,ct:=λσ' H2=>D.ct (σ'.set i none) H2} (σ.set i (some (.ref a))) (upd H' a (DA a cls d))
def Gv (K:PySem.W.Frag)(c:Value)(i:Nat)(tb:(St->XK)->TS)(ts:TS):TS:=λD σ H=>tb (GG K c i ts D) D σ H
theorem gR {E':yj}{i:Nat}{n:Str}{Q:Unit->Shared->Prop}(I:Inv X pins σ H s)(hN:X.N.Nodup)(hi:X.N[i]?=some n)(hl:X.env.scope.names.lookup n=some .local)
 (h:∀s',Inv X pins (σ.set i none) H s'->Q () s'):wpAny M A (do bindName X.env n .none;unbindBehindTheSuite X.env n pos) Q E' s:=by
 obtain⟨m,hn,TR⟩:=id I.loc;refine wpAny_nameGoes_keeps hl hn (by rw[I.ok.kind];rfl) λh' v Mr hs=>h _ ?_;have nL:∀b o,X.s₀.heap.get? b=some o->b≠X.env.locals:=λb o e=>Nat.ne_of_lt (Nat.lt_of_lt_of_le (Heap.lt_size e) I.ok.above);refine⟨I.ok,I.os,I.bare,⟨λb o e n hb hx=>(hs.2 b (nL b o e)).trans (I.base.keep b o e n hb hx),λb o e n hb hx=>?_,I.base.free,λb o e hx=>?_,I.base.aal,I.base.aak,I.base.aar⟩,⟨_,Mr,λj y w' e1 e2 e3=>?_⟩,λy c e=>?_,I.free,I.aaj,λp hp=>?_,λb u e=>?_,by simpa using I.len⟩
 ·obtain⟨sl,e1⟩:=I.base.slot b o e n hb hx;exact⟨sl,(hs.2 b (nL b o e)).trans e1⟩
 ·obtain⟨o',e1⟩:=I.base.there b o e hx;exact⟨o',(hs.2 b (nL b o e)).trans e1⟩
 ·have hj:j≠i:=λz=>by
   subst z
   by_cases IC:j<σ.length
   ·rw[List.getElem?_set_self IC] at e2;cases e2
   ·rw[List.getElem?_eq_none (by simpa using IC)] at e2;cases e2
  rw[List.getElem?_set_ne (Ne.symm hj)] at e2;obtain⟨u,r,q⟩:=TR j y w' e1 e2 e3;refine⟨u,r,?_⟩
  rcases q with⟨k,e⟩|⟨k,c,e,z⟩
  ·refine .inl ⟨k,?_⟩;have Zz:y≠n:=λe=>hj (lJ hN e1 (e▸hi));show(if y=n then v else m y)=some u;rw[if_neg Zz];exact e
  ·exact .inr ⟨k,c,e,z.sameBut hs (I.cne y c e)⟩
 ·obtain⟨w',z⟩:=I.cell y c e;exact⟨w',z.sameBut hs (I.cne y c e)⟩
 ·obtain⟨e,n',ne,nf,d⟩:=I.pin p hp;exact⟨(hs.2 p.1 ne).trans e,n',ne,nf,d⟩
 ·refine(I.hok b u e).aaZ (λc w' hc q=>(hs.2 c ?_).trans q) (λ_ q=>q) λ_ _ q=>q;rintro rfl
  rcases hc with rfl|hc
  ·rw[I.free] at e;cases e
  ·rw[I.free] at hc;cases hc
theorem CW {n:Str}{i:Nat}{np TU:Pos}{body LI:List Stmt}{b₀:Stmt}{tb:(St->XK)->TS}{ts:TS}(Le:X.stack=X.env::X.outer)(Kp:X.env.frame=some X.env.locals)(hN:X.N.Nodup)(hi:X.N[i]?=some n)
 (hl:X.env.scope.names.lookup n=some .local)(hg:Gl X x)(hm:X.mg x=some (.ref C))(hb:∀pins E,oV (X.tr pins E) body (tb E))(hs:∀a,oV (X.hd a) (b₀::LI) ts)(hd:(x==("__debug__":Str))=false:=by decide):
 PS X (.Try body [.ExceptHandler (some (.Name x np)) (some n) (b₀::LI) TU] [] [] pos) (Gv X.K (.ref C) i tb ts):=by
 intro pins s σ H D I h;refine wpAny_Try_except (wpAny_mono (hb pins _ [] s σ H D (Cp I) h) (λf s1 q=>?_) λe s1 q=>?_)
 ·cases f with
  |next=>exact wpAny_execs_nil (jU q)
  |ret v=>exact jU q
  |brk=>exact jU q
  |cont=>exact jU q
 ·obtain⟨σ1,H1,s0,I1,a,cls,a0,B,d,H2,rfl,ho,Xi,F,hx,hw⟩:=q
  have ZA:X.A.frames=some (X.env::X.outer):=by rw[I.ok.frames,Le]
  have fl:=F.fly;rw[Le] at fl;refine yr ZA Kp fl λh4 held Xj=>iP (s:={s1 with heap:=h4}) held λh5 TV Xk=>?_
  have TY:pN B X.stack a cls a0 .none d h5:=by rw[Le];exact TV
  have I5:Inv X pins σ1 H2 {s1 with heap:=h5}:=lM (tk:=s1.toks) I1 ho Xi F TY (Xj.trans Xk);obtain⟨ob,_,ZC,TZ,_,_⟩:=TV.first;have ZD:Inv (X.hd a) pins σ1 H2 {s1 with heap:=h5}:=xW I5;refine wpAny_handleBy_cons (codeAny_handlers_test (fR ZD hg hm ?_ hd)) (by intro q;cases q);have LT:PySem.W.Looks (model X.prog X.w) h5 (typeOf (.ref a)) cls:=TZ▸(PySem.W.Looks.ld ZC).andThen .now;refine(PySem.W.exm_one (M:=model X.prog X.w) I5.kIn LT hx) _ _ _ _ (λ_ _ e=>e) ?_;refine codeAny_handlers_suite_as ?_;refine iP (s:={s1 with heap:=h5}) TV λh6 Xl ZE=>?_
  have Ls:pN B X.stack a cls a0 .none d h6:=by rw[Le];exact Xl
  have I6:Inv X pins σ1 H2 {s1 with heap:=h6}:=lM (tk:=s1.toks) I1 ho Xi F Ls ((Xj.trans Xk).trans ZE);obtain⟨oe,vs,Ks,T1,Lu,T2⟩:=Xl.first
  have I7:Inv X pins σ1 (upd H2 a (DA a cls d)) {s1 with heap:=h6}:=by
   have nB:X.s₀.heap.get? a=none\/True:=.inr trivial;refine⟨I6.ok,I6.os,I6.bare,?_,I6.loc,I6.cell,?_,?_,?_,dM I6.hok F.new (Ag Ks T1 Lu T2),I6.len⟩
   ·refine⟨I6.base.keep,I6.base.slot,λb o e n Sq=>?_,I6.base.there,λb xs e=>?_,λb o u e=>?_,λb ps e=>?_⟩
    ·have IX:b≠a:=λz=>by
      subst z;have e1:=I1.base.there b o e Sq;obtain⟨o1,e1⟩:=e1
      by_cases Xm:b∈dU X.stack
      ·have:=(Ls.fr.mem Xm);obtain⟨_,o2,e2,d2⟩:=this;rw[Ks] at e2
       cases e2
       exact d2 vs Lu
      ·obtain⟨o2,e2⟩:=F.there b o1 e1 Xm;rw[Ls.new] at e2
       cases e2
     rw[av IX];exact I6.base.free b o e n Sq
    ·rw[av (ax (I6.base.aal b xs e) F.new)];exact I6.base.aal b xs e
    ·rw[av (ax (I6.base.aak b o u e) F.new)];exact I6.base.aak b o u e
    ·obtain⟨m,q⟩:=I6.base.aar b ps e;exact⟨m,by rw[av (ax q F.new)];exact q⟩
   ·have IX:X.env.locals≠a:=λz=>by
     obtain⟨m,⟨o,es,ep,e,d,_⟩,_⟩:=I6.loc;rw[z,Ks] at e
     cases e
     rw[Lu] at d
     cases d
    rw[av IX];exact I6.free
   ·intro y c e
    have IX:c≠a:=λz=>by
     obtain⟨v,o,e1,d⟩:=I6.cell y c e;rw[z,Ks] at e1
     cases e1
     rw[Lu] at d
     cases d
    rw[av IX];exact I6.aaj y c e
   ·intro p hp;obtain⟨e,n',ne,nf,d⟩:=I6.pin p hp;refine⟨e,?_,ne,nf,d⟩
    have IX:p.1≠a:=λz=>by
     obtain⟨e1,n1,_,nf1,_⟩:=I1.pin p hp
     have ZF:p.1∉dU X.stack:=λq=>by
      rcases List.mem_cons.mp (I1.aam _ q) with w|w
      ·exact ne w
      ·exact nf w
     obtain⟨o2,e2⟩:=F.there p.1 _ e1 ZF;rw[z,Ls.new] at e2
     cases e2
    rw[av IX];exact n'
  refine gH (M:=model X.prog X.w) I7 hN hi (.inl hl) (show aG (.ref a) (.ref a) from rfl) (λs8 I8=>?_) (.inr hl);refine wpAny_mono (hs a pins s8 _ _ _ (xW I8) (hw a F.new)) (λf s9 q=>?_) λ_ _ z=>False.elim z
  cases f with
  |next =>
   obtain⟨σ9,H9,I9,q9⟩:=q;exact gR (iK I.ok I9) hN hi hl λJY MG=>⟨_,_,MG,q9⟩
  |brk =>
   obtain⟨σ9,H9,I9,q9⟩:=q;exact gR (iK I.ok I9) hN hi hl λJY MG=>⟨_,_,MG,q9⟩
  |cont =>
   obtain⟨σ9,H9,I9,q9⟩:=q;exact gR (iK I.ok I9) hN hi hl λJY MG=>⟨_,_,MG,q9⟩
  |ret u =>
   obtain⟨v,σ9,H9,I9,r9,q9⟩:=q;exact gR (iK I.ok I9) hN hi hl λJY MG=>⟨v,_,_,MG,r9,q9⟩
end
structure Gw (K:Frag)(C:Addr):Prop where
 cls:(clsIn K C).isSome=true
 ga:findIn K (.ref C) "__getattribute__"=some (some (.builtin "BaseException.__getattribute__"))
 gx:findIn K (.ref C) "__getattr__"=some none
 ca:findIn K (.ref C) "__class__"=some (some (.builtin "object.__class__"))
 ob:mroIn K C (.type "object")=some true
 be:mroIn K C (.type "BaseException")=some true
section
variable {prog:yn}{w:World}{A:Around}{E:yj}{K:Frag}{x C:Addr}{ox:Obj}
theorem uZ {LJ:Value}{Q:Unit->Shared->Prop}(X:K.In s.heap)(k:Gw K C)(e:s.heap.get? x=some ox)(hc:ox.cls=.ref C)(hq:Q () s):
 wpAny M A (checkBuiltinCall "BaseException.__getattribute__" ⟨[.ref x,LJ],[]⟩) Q E s:=by
 obtain⟨hh,g,d,t,os⟩:=s;have L0:Looks M hh (typeOf (.ref x)) (.ref C):=hc▸(Looks.ld e).andThen .now;have L5:=looks_mroIn (M:=M) X k.be
 have hk:builtinKind "BaseException.__getattribute__"=some .slot:=by decide +kernel
 have Ka:splitId "BaseException.__getattribute__"=some ("BaseException","__getattribute__"):=by decide +kernel
 have ha:=F.args_bexc_ga (.ref x) LJ;simp only[checkBuiltinCall,hk,Ka];unfold isInstance
 repeat (any_goals (first|assumption|lk|wp_step))
open Builtin Builtin.ObjectAttr Builtin.Getset_descriptor in
theorem ma {R:Result->Shared->Prop}{tp:Value}(X:K.In s.heap)(k:Gw K C)(e:s.heap.get? x=some ox)(hc:ox.cls=.ref C)(h:R (.ok (.ret (.ref C))) s):
 codeAny (model prog w) A (.call (.builtin "getset_descriptor.__get__") ⟨[.builtin "object.__class__",.ref x,tp],[]⟩) R s:=by
 obtain⟨hh,g,dr,t,os⟩:=s;have L0:Looks (model prog w) hh (typeOf (.ref x)) (.ref C):=hc▸(Looks.ld e).andThen .now;have L1:=looks_mroIn (M:=model prog w) X k.ob;refine codeAny_call_builtin KF.slot_gs.plain KF.entry_gs (KF.slot_gs.check _ _ _ _ _ _ _ _ KF.type_class (KF.args_gs _ _ _) ?_);unfold Builtin.«getset_descriptor.__get__» descrGet;rw[dga_obj];refine wpAny_bind (wpAny_pure ?_);unfold descrGetter descrCheckInstance descrNameAndClass isInstance;simp only[KF.owner_class]
 repeat lk
 refine⟨Code.quiet_builtin _ (by decide +kernel),codeAny_builtin KF.entry_class ?_⟩;unfold Builtin.«object.__class__» shownTypeOf
 repeat lk
 exact h
theorem jH {tk:Tok}{Q:PySem.Fin->Shared->Prop}(X:K.In s.heap)(k:Gw K C)(e:s.heap.get? x=some ox)(hc:ox.cls=.ref C)(hq:Q (.done (.ret (.ref C))) s):
 wpAny (model prog w) A (Builtin.«object.__getattribute__» ⟨[.ref x,.str "__class__" tk],[]⟩) Q E s:=by
 obtain⟨hh,g,d,t,os⟩:=s;have L0:Looks (model prog w) hh (typeOf (.ref x)) (.ref C):=hc▸(Looks.ld e).andThen .now;have L3:=looks_findIn (M:=model prog w) X k.ca;have f5:=F.typeOf_object_class;have f6:=F.slot_gs_get.lookup;have f7:=F.slot_gs_set.lookup
 repeat (any_goals (first|assumption|(with_reducible refine Looks.at (by assumption) ?_)|(with_reducible refine Looks.at L0 ?_)|wp_step))
 refine ma X k e hc ?_
 repeat (any_goals (first|assumption|wp_step))
theorem n5 {tk:Tok}{fill expr:Bool}{Q:yj}{s:Dx}(X:K.In s.heap)(k:Gw K C)(e:s.heap.get? x=some ox)(hc:ox.cls=.ref C)(hq:Q (.ref C) s):
 wpAny (model prog w) A (getAttrBy (.ref x) (.str "__class__" tk) fill expr) Q E s:=by
 obtain⟨hh,g,d,t,os⟩:=s;have L0:Looks (model prog w) hh (typeOf (.ref x)) (.ref C):=hc▸(Looks.ld e).andThen .now;have L1:=looks_findIn (M:=model prog w) X k.ga;have L2:=looks_findIn (M:=model prog w) X k.gx;have f3:=F.attr_ValueError.ga.bind (.ref x)
 have hx0:(expr&&onTheHeap (Value.builtin "BaseException.__getattribute__"))=false:=by cases expr <;> rfl
 have Kb:(Value.builtin "BaseException.__getattribute__"==Value.builtin "object.__getattribute__")=false:=by decide +kernel
 have Ot:(onTheHeap (Value.ref C)&&Value.builtin "BaseException.__getattribute__"==Value.builtin "object.__getattribute__")=false:=by rw[Kb];rfl
 repeat (any_goals (first|assumption|(with_reducible refine Looks.at (by assumption) ?_)|(with_reducible refine Looks.at L0 ?_)|wp_step))
 refine codeAny_call_builtin F.attr_ValueError.ga.plain F.entry_bexc_ga (uZ X k e hc (jH X k e hc ?_))
 repeat (any_goals (first|assumption|wp_step))
theorem vf {Q:Option Value->Shared->Prop}(X:K.In s.heap)(k:Gw K C)(e:s.heap.get? x=some ox)(hc:ox.cls=.ref C)(hq:Q (some (.ref C)) {s with toks:=s.toks+1}):
 wpAny (model prog w) A (getAttr? (.ref x) "__class__") Q E s:=by
 unfold getAttr? getAttrBy?;refine wpAny_bind (wpAny_mkText (wpAny_bind (wpAny_attempt (n5 (s:={s with toks:=s.toks+1}) X k e hc ?_))));exact wpAny_pure hq
theorem w8 (k:Gw K C):KitX K (.ref x) (.ref C) (λh=>∃o,h.get? x=some o/\o.cls=.ref C) where
 ty:=λ_ _ _ ⟨o,e,hc⟩=>hc▸(Looks.ld e).andThen .now
 it:=λ_ _ X _=>by
  have Ln:=k.cls;unfold clsIn at Ln
  split at Ln
  ·rename_i c' d' ZG Km ho
   intro A' Q' E' s' kk q;unfold isType loadHead;exact wpAny_bind (wpAny_loadPart (kk _ _ (X _ _ ho)) (wpAny_pure q))
  ·cases Ln
 ne:=λh tp dd its n sl X ZH=>by
  have Ln:=k.cls;refine Bool.eq_false_iff.mpr λq=>?_;have e:C=tp:=Value.ref.inj (beq_iff_eq.mp q);subst e;unfold clsIn at Ln
  split at Ln
  ·rename_i c' d' ZG Km ho
   have z:=(X _ _ ho).symm.trans ZH
   cases z
  ·cases Ln
 ca:=λX ⟨o,e,hc⟩ q=>vf X k e hc q
end
section
variable {X:Cx}{pins:List (Addr×Obj)}{σ:St}{H:Hp}{s:Dx}
inductive qF (K:Frag)(H:Hp):V->Value->Prop where
 |of {x:V}{t:Value}(h:Fj K H x t):qF K H x t
 |exc {a C:Addr}(e:H a=some (pW a (.ref C)))(k:Gw K C):qF K H (.ref a) (.ref C)
theorem Cu {E:yj}{Q:yj}{x:V}{u t c:Value}{b:Bool}(I:Inv X pins σ H s)(rx:aG x u)(ty:qF X.K H x t)(e:kitOne X.K t c=some b)(h:∀tk,Q (.bool b) {s with toks:=tk}):
 wpAny (model X.prog X.w) A (call (.builtin "isinstance") [u,c]) Q E s:=by
 cases ty with
 |of z=>exact aa6 I rx z e h
 |exc ea k =>
  rename_i a C
  cases(show u=Value.ref a from rx)
  obtain⟨o,vs,h1,h2,_⟩:=uM I.hok ea;exact kia_one (w8 k) I.kIn ⟨o,h1,h2⟩ e (λz=>nomatch z) h
def Hk:V->Value->Prop
 | .ty n,c=>c=.type n
 | .ref a,c=>c=.ref a
 |_,_=>False
theorem aQ:eZ X (.builtin "isinstance") (λxs H Q=>∃x c t cv b,xs=[x,c]/\Hk c cv/\qF X.K H x t/\kitOne X.K t cv=some b/\Q (.bl b) H):=by
 intro pins s σ H xs us Q I r h;obtain⟨x,c,t,cv,b,rfl,hc,ty,e,q⟩:=h
 cases r with
 |cons r1 r2 =>
  cases r2 with
  |cons r2 r3 =>
   cases r3
   rename_i u uc
   have ZI:uc=cv:=by
    cases c with
    |ty n=>cases(show uc=Value.type n from r2);exact hc.symm
    |ref a=>cases(show uc=Value.ref a from r2);exact hc.symm
    |_=>exact hc.elim
   subst ZI;exact Cu I r1 ty e λtk=>⟨.bl b,H,I.tok tk,rfl,q⟩
end
variable {N:zX}{k:Nat}{sp:Sp}
section
variable {P:yn}{w:World}{K:PySem.W.Frag}{mg:xf}{base:Heap}
theorem Ao.okN (F:Ao K x qual st f fd)(S:Av N ps (aj st))(len:∀vs H Q E,sp vs H Q E->vs.length=ps.length)
 (Jl:∀(Iv:Value)(A:Around)(outer:List Env)(s:Dx)(H:Hp)(vs:List V)(Q:VK)(E:XK),p8 k (A.deeper (envOfC qual (aj st) s.heap.objs.size f Iv))->sp vs H Q E →
  ∃t,oV (gG (aU P w) P w K mg base N qual (aj st) f Iv A outer s H E).nox (cu st) t/\t {nx:=λ_ H'=>Q .non H',rt:=Q} (hV N vs) H):Ik P w K mg base (aU P w) (k+1) f fd ps sp:=by
 obtain⟨oc,od,kV,doc,pm,an,Iv,ct,IQ,rfl,lk,Jp⟩:=F.ex;refine xI lk Jp S len λA outer s H vs Q E hr Kq=>?_;obtain⟨t,h,q⟩:=Jl Iv A outer s H vs Q E hr Kq;exact⟨t,h.nox,q⟩
theorem Ao.okE (F:Ao K x qual st f fd)(S:Av N ps (aj st))(len:∀vs H Q E,sp vs H Q E->vs.length=ps.length)
 (Jl:∀(Iv:Value)(A:Around)(outer:List Env)(s:Dx)(H:Hp)(vs:List V)(Q:VK)(E:XK),p8 k (A.deeper (envOfC qual (aj st) s.heap.objs.size f Iv))->sp vs H Q E →
  ∃t,oV (gG (aU P w) P w K mg base N qual (aj st) f Iv A outer s H E) (cu st) t/\t {nx:=λ_ H'=>Q .non H',rt:=Q} (hV N vs) H):Ik P w K mg base (aU P w) (k+1) f fd ps sp:=by
 obtain⟨oc,od,kV,doc,pm,an,Iv,ct,IQ,rfl,lk,Jp⟩:=F.ex;exact xI lk Jp S len λA outer s H vs Q E hr Kq=>Jl Iv A outer s H vs Q E hr Kq
end
section
variable {X:Cx}{pins:List (Addr×Obj)}{σ:St}{H:Hp}{s:Dx}
theorem xN {x:V}{u t:Value}(I:Inv X pins σ H s)(rx:aG x u)(ty:qF X.K H x t):Looks (model X.prog X.w) s.heap (typeOf u) t:=by
 cases ty with
 |of ty =>
  cases ty with
  |non=>cases(show u=Value.none from rx);exact kitx_none.ty _ _ I.kIn True.intro
  |bl y=>cases(show u=Value.bool y from rx);exact kitx_bool.ty _ _ I.kIn True.intro
  |int i=>obtain⟨t,q⟩:=(show ∃t,u=Value.int i t from rx);cases q;exact kitx_int.ty _ _ I.kIn True.intro
  |str y=>obtain⟨t,q⟩:=(show ∃t,u=Value.str y t from rx);cases q;exact kitx_str.ty _ _ I.kIn True.intro
  |flt y=>obtain⟨t,q⟩:=(show ∃t,u=Value.float y t from rx);cases q;exact kitx_float.ty _ _ I.kIn True.intro
  |@lst a xs ea =>
   cases(show u=Value.ref a from rx)
   obtain⟨_,_,n,_,h1⟩:=(show bx X.prog X.w H s.heap a (.lst xs) from I.hok a _ ea);exact kitx_list.ty _ _ I.kIn ⟨_,h1,rfl⟩
  |@frz a ob xs ea =>
   cases(show u=Value.ref a from rx)
   obtain⟨_,_,_,n,_,h1⟩:=(show bx X.prog X.w H s.heap a (.frz ob (.lst xs)) from I.hok a _ ea);exact kitx_list.ty _ _ I.kIn ⟨_,h1,rfl⟩
  |@tup a xs ea =>
   cases(show u=Value.ref a from rx)
   obtain⟨_,_,_,p⟩:=(show bx X.prog X.w H s.heap a (.tup xs) from I.hok a _ ea);obtain⟨o,h1,h2,_⟩:=p;exact kitx_tuple.ty _ _ I.kIn ⟨o,h1,h2⟩
  |@dK a Ir ea =>
   cases(show u=Value.ref a from rx)
   obtain⟨_,_,vs,_,p⟩:=(show bx X.prog X.w H s.heap a (.dK Ir) from I.hok a _ ea);obtain⟨o,es,ep,h1,h2,_⟩:=p;exact kitx_dict.ty _ _ I.kIn ⟨o,h1,h2.1⟩
  |@dT a Ir ea =>
   cases(show u=Value.ref a from rx)
   obtain⟨_,_,xs,_,o,es,ep,h1,h2,_⟩:=(show bx X.prog X.w H s.heap a (.dT Ir) from I.hok a _ ea);exact kitx_dict.ty _ _ I.kIn ⟨o,h1,h2.1⟩
  |@ins a C dx fs ea cl ha hn N7 hm =>
   cases(show u=Value.ref a from rx)
   obtain⟨mA,O,_⟩:=fU I.hok ea;obtain⟨od,J,_⟩:=O.look;exact J.type
 |exc ea k =>
  rename_i a C
  cases(show u=Value.ref a from rx)
  obtain⟨o,vs,h1,h2,_⟩:=uM I.hok ea;exact h2▸(Looks.ld h1).andThen .now
end
variable {K:Frag}
section
variable {X:Cx}{CX:GL}{k:Nat}{f C:Addr}{fd:zo}{ps:zX}{sp:Sp}{E:XK}
def xt (K:Frag)(C:Addr)(sp:Sp)(E:XK)(neg:Bool):R2:=λx y H Q=>∃p dx fs t,x=.ref p/\H p=some (.ins C dx fs)/\qF K H y t/\notFirst K C t=true/\sp [x,y] H (λv H'=>∃b,v=.bl b/\Q (.bl (b != neg)) H') E
theorem yK (hs:findIn X.K (.ref C) "__eq__"=some (some (.ref f)))(hf:isFn X.K (.ref f)=true)(F:Ik X.prog X.w X.K X.mg X.base CX k f fd ps sp)(hr:p8 k X.A)(hb:ay X.K fd ps [])(hx:ed CX X E):
 eE X (compareOp .Eq) (xt X.K C sp E false):=by
 intro pins s σ H x y v u Q I rx ry h;obtain⟨p,dx,fs,t,rfl,ep,ty,hn,q⟩:=h
 cases(show v=Value.ref p from rx)
 obtain⟨mA,O,_⟩:=fU I.hok ep;obtain⟨od,J,_⟩:=O.look;obtain⟨m,Fm⟩:=I.fr;refine cmp_ofEq (cmp_K hr.aa2 Fm I.mod.kin J (xN I ry ty) hn hs hf ?_);refine bK (oG (dvs:=[]) F hr hb .nil hx I (us:=[.ref p,u]) (vs:=[.ref p,y]) (.cons rx (.cons ry .nil)) q) λr s1 z'=>?_;obtain⟨z,H1,I1,rz,b,eb,q1⟩:=z';subst eb
 cases(show r=Value.bool b from rz)
 exact⟨.bl b,H1,I1,rfl,by simpa using q1⟩
theorem Aq {Q:VK}{us:oH}{vs:List V}(F:Ik X.prog X.w X.K X.mg X.base CX k f fd ps sp)(hr:p8 (k+1) X.A)(hb:ay X.K fd ps [])(hx:ed CX X E)
 (I:Inv X pins σ H s)(r:aM vs us)(h:sp vs H Q E):wpAny (model X.prog X.w) X.A.in1 (call (.ref f) us) (EP X pins σ Q) X.xe s:=by
 have hl:us.length=ps.length:=by rw[<-r.length];exact F.len _ _ _ _ h
 have IS:=hb s us I.kIn (by rw[List.append_nil];exact hl);rw[List.append_nil] at IS;refine wpAny_call (codeAny_mono (F.run X.A.in1 X.stack s H ⟨us,[]⟩ us vs Q E hr.in1 I.abt.in1 IS r h) λr s' hq=>?_)
 cases r with
 |error e=>exact hx pins σ H s e s' I hq
 |ok fl =>
  cases fl with
  |ret u=>exact I.after hq
  |next=>exact False.elim hq
  |brk=>exact False.elim hq
  |cont=>exact False.elim hq
theorem yA {E':yj}{x:Addr}{b:Value}{ox:Obj}{od:Option Obj}{Q:Unit->Shared->Prop}(X:K.In s.heap)(J:InstAt s.heap x ox C od)(hm:mroIn K C (.type "object")=some true)(hq:Q () s):
 wpAny M A (checkBuiltinCall "object.__ne__" ⟨[.ref x,b],[]⟩) Q E' s:=by
 obtain⟨hh,g,d,t,os⟩:=s;have L0:=J.type (M:=M);have L5:=looks_mroIn (M:=M) X hm;have hk:=F.cmpKind_ne;have Ka:=F.cmpSplit_ne;have ha:=F.cmpArgs_ne (.ref x) b;simp only[checkBuiltinCall,hk,Ka];unfold isInstance
 repeat (any_goals (first|assumption|lk|wp_step))
theorem xH (hs:findIn X.K (.ref C) "__eq__"=some (some (.ref f)))(hf:isFn X.K (.ref f)=true)(J6:findIn X.K (.ref C) "__ne__"=some (some (.builtin "object.__ne__")))(hm:mroIn X.K C (.type "object")=some true)
 (F:Ik X.prog X.w X.K X.mg X.base CX k f fd ps sp)(hr:p8 (k+1) X.A)(hb:ay X.K fd ps [])(hx:ed CX X E):
 eE X (compareOp .NotEq) (xt X.K C sp E true):=by
 intro pins s σ H x y v u Q I rx ry h;obtain⟨p,dx,fs,t,rfl,ep,ty,hn,q⟩:=h
 cases(show v=Value.ref p from rx)
 obtain⟨mA,O,_⟩:=fU I.hok ep;obtain⟨od,J,_⟩:=O.look;have hu:X.A.units+64<cLine:=hr.units
 have Ou:wpAny (model X.prog X.w) X.A.in1 (call (.ref f) [.ref p,u]) (λr s'=>∃b,r=.bool b/\EP X pins σ Q (.bool (!b)) s') X.xe s:=by
  refine wpAny_mono (Aq F hr hb hx I (us:=[.ref p,u]) (vs:=[.ref p,y]) (.cons rx (.cons ry .nil)) q) (λr s1 z'=>?_) λ_ _ e=>e;obtain⟨z,H1,I1,rz,b,eb,q1⟩:=z';subst eb
  cases(show r=Value.bool b from rz)
  exact⟨b,rfl,.bl (!b),H1,I1,rfl,by simpa using q1⟩
 have entry:wpAny (model X.prog X.w) X.A.in1 (Builtin.«object.__ne__» ⟨[.ref p,u],[]⟩) (λfin s'=>∃b,fin=.done (.ret (.bool (!b)))/\EP X pins σ Q (.bool (!b)) s') X.xe s:=by
  unfold Builtin.«object.__ne__»;refine wpAny_bind (m:=slotArgs "__ne__" 1 _) (wpAny_pure ?_);refine wpAny_bind (wpAny_cRoomFor (by show X.A.units+1<cLine;omega) ?_);refine wpAny_bind (ifBound_K I.kIn J hs hf (wpAny_mono Ou (λr s1 z=>?_) λ_ _ e=>e));obtain⟨b,rfl,q1⟩:=z;exact wpAny_bind (wpAny_truthy_bool (wpAny_pure ⟨b,rfl,q1⟩))
 have S:=PySem.F.cmp_object.ne
 have inner:wpAny (model X.prog X.w) X.A (callSpecialIfBound? (.ref p) "__ne__" [u]) (λr s'=>∃b,r=some (.bool (!b))/\EP X pins σ Q (.bool (!b)) s') X.xe s:=by
  simp only[callSpecialIfBound?,bindSpecialIfBound?];refine wpAny_holding (wpAny_bind (wpAny_bind (wpAny_bind (J.type.here ((looks_findIn I.kIn J6).here ?_)))));simp only[S.bind];refine wpAny_bind (wpAny_askSetting (wpAny_ite ?_))
  have fin:wpAny (model X.prog X.w) X.A (call (.builtin "object.__ne__") ([.ref p]++[u])>>=λv=>pure (some v)) (λr s'=>∃b,r=some (.bool (!b))/\EP X pins σ Q (.bool (!b)) s') X.xe s:=by
   refine wpAny_bind (wpAny_call (codeAny_call_builtin S.plain PySem.F.cmpEntry_ne (yA I.kIn J hm (wpAny_mono entry (λfin s1 z=>?_) λ_ _ e=>e))));obtain⟨b,rfl,q1⟩:=z;exact wpAny_pure ⟨b,rfl,q1⟩
  split
  ·exact wpAny_bind (wpAny_pure (wpAny_pure fin))
  ·exact wpAny_tryCatch (wpAny_bind (wpAny_pure (wpAny_pure fin)))
 have one:wpAny (model X.prog X.w) X.A (tryCompare (.ref p) "__ne__" u) (λr s'=>∃v,r=some v/\EP X pins σ Q v s') X.xe s:=by
  unfold tryCompare;refine wpAny_bind (wpAny_mono inner (λr s1 z=>?_) λ_ _ e=>e);obtain⟨b,rfl,q1⟩:=z;exact wpAny_pure ⟨_,rfl,q1⟩
 refine cmp_ofNotEq ?_;unfold richCompare;simp only[oneThing_ref];refine wpAny_holding (wpAny_bind (wpAny_cRoomFor (by omega) ?_));rw[cmpInfo_NotEq];dsimp only;refine wpAny_bind (J.type.here (wpAny_bind ((xN I ry ty).here ?_)))
 split
 ·rename_i qq
  have e:subIn X.K t (.ref C)=some false:=by
   rcases Bool.or_eq_true_iff.mp hn with e|e
   ·rw[beq_iff_eq.mp e] at qq;simp at qq
   ·exact beq_iff_eq.mp e
  refine wpAny_bind ((looks_subIn I.kIn e).here ?_);simp only[Bool.false_eq_true,if_false];refine wpAny_bind (wpAny_mono one (λr s' z=>?_) λ_ _ e=>e);obtain⟨v,rfl,hq⟩:=z;exact wpAny_pure hq
 ·refine wpAny_bind (wpAny_pure ?_);simp only[Bool.false_eq_true,if_false];refine wpAny_bind (wpAny_mono one (λr s' z=>?_) λ_ _ e=>e);obtain⟨v,rfl,hq⟩:=z;exact wpAny_pure hq
end
section
variable {X:Cx}
def CU (K:PySem.W.Frag):R2:=λx y H Q=>∃p q xs,x=.ref p/\y=.ref q/\bo K H p xs/\bo K H q []/\Q (.bl (decide (xs=[]))) H
theorem wY (hr:p8 k X.A):eE X (compareOp .Eq) (CU X.K):=by
 intro pins s σ H x y v u Q I rx ry h;obtain⟨p,q,xs,rfl,rfl,h1,h2,w⟩:=h
 cases(show v=Value.ref p from rx)
 cases(show u=Value.ref q from ry)
 obtain⟨its,r1,p1,_⟩:=I.list h1;obtain⟨IB,r2,p2,_⟩:=I.list h2
 cases r2
 by_cases e:xs=[]
 ·subst e
  cases r1
  refine SeqAt.eq_listAt (e:=λ_=>true) p1.isList p2.isList rfl hr.aa2 (λj a b=>absurd a (by simp)) ⟨.bl true,H,I,?_,by simpa using w⟩;rfl
 ·refine SeqAt.eq_list_lengthsAt p1.isList p2.isList ?_ hr.aa2 ⟨.bl false,H,I,rfl,by simpa[e] using w⟩;have hl:=r1.length;have hx:xs.length≠0:=λz=>e (List.eq_nil_of_length_eq_zero z)
  have:its.toArray.size≠0:=by rw[List.size_toArray];omega
  simpa using this
end
def zd (tabs:List (Addr×Addr))(H:Hp):Prop:=(∀b,H b=none\/(∃o xs,H b=some (.frz o (.lst xs)))\/(H b=some (.tbl #[])/\∃c,(c,b)∈tabs))/\∀q∈tabs,H q.2=some (.tbl #[])
structure uQ (tabs:List (Addr×Addr))(mg:xf)(base:Heap):Prop where
 hd:∀q∈tabs,CodeHd base q.1 q.2
 bm:∃bm ob,mg "__builtins__"=some (.ref bm)/\bm≠builtinsNs/\base.get? bm=some ob/\ob.cls=.type "module"/\ob.dict=some builtinsNs/\ob.data=.plain
theorem ve {mg mb:xf}{CX:GL}{fa:Addr}{s₁:Dx}{vs:oH}{ns:List Int}{tabs:List (Addr×Addr)}
 (KX:K.In s₁.heap)(J6:s₁.heap.Ns mainGlobals mg)(hb:s₁.heap.Ns builtinsNs mb)(T3:∀x:Str,x ≠ "__name__"->mb x=bootBuiltins x)(T4:s₁.heap.NoLimit)(hg:s₁.gens = #[])
 (ha:s₁.heap.get? a=some {cls:=.type "list",data:=.seq vs.toArray})(hi:IntsAre vs ns)(hl:ns.length<=sizeLine)(hr:p8 k callerA)(hT:TabsAt tabs s₁.heap)(ZJ:∀q∈tabs,K.lookup q.2=none)
 (ZK:∃bm ob,mg "__builtins__"=some (.ref bm)/\bm≠builtinsNs/\s₁.heap.get? bm=some ob/\ob.cls=.type "module"/\ob.dict=some builtinsNs/\ob.data=.plain)
 (F:∀base:Heap,K.In base->base.Ns mainGlobals mg->uQ tabs mg base->Ik P w K mg base CX k fa fd [x] sp)(Ov:∀(s:Dx)(u:Value),BindsTo s fd ⟨[u],[]⟩ [(x,u)])
 (Kq:∀H:Hp,zd tabs H->bo K H a (ns.map V.int)->sp [.ref a] H (λv _=>v=.bl true) λ_ _ _=>False)
 (T5:∀H e s',CX [] H s₁ (λ_ _ _=>False) e s'->False):
 codeAny (model P w) callerA (.call (.ref fa) ⟨[.ref a],[]⟩) (λr s'=>r=.ok (.ret (.bool true))/\OldK s₁.heap s'.heap/\s'.os=s₁.os/\AllBare s'.gens) s₁:=by
 have rv:=mi hi;have T6:=hi.length;have lF:∀b,(∃c,(c,b)∈tabs)->s₁.heap.get? b=some (tabObj #[]):=λb ⟨c,hc⟩=>(hT _ hc).2
 have core:∀H:Hp,zd tabs H->bo K H a (ns.map V.int)->gf P w H s₁.heap->(∀b,H b≠none->b=a\/∃c,(c,b)∈tabs)->(H a≠none->K.lookup a=none) →
  codeAny (model P w) callerA (.call (.ref fa) ⟨[.ref a],[]⟩) (λr s'=>r=.ok (.ret (.bool true))/\OldK s₁.heap s'.heap/\s'.os=s₁.os/\AllBare s'.gens) s₁:=by
  intro H hO hS hok hA hK;have base_of:∀{b:Addr}{o:Obj},s₁.heap.get? b=some o->H b=none->(l5 s₁.heap H).get? b=some o:=λe n=>abz e n
  have Xn:∀{b:Addr}{o:Obj},s₁.heap.get? b=some o->o.cls≠.none->(∀its n,o.data≠.seq its n)->H b=none:=λ{b o} e d1 d2=>by
   cases q:H b with
   |none=>rfl
   |some u =>
    rcases hA b (by rw[q];simp) with e'|e'
    ·subst e';rw[ha] at e;cases e;exact absurd rfl (d2 _ _)
    ·rw[lF b e'] at e;cases e;exact absurd rfl d1
  have Oa:∀{b:Addr}{o:Obj}{es:Array DictEntry}{ep:Nat},s₁.heap.get? b=some o->o.data=.dict es ep->H b=none:=λ{b o es ep} e d=>by
   cases q:H b with
   |none=>rfl
   |some u =>
    rcases hA b (by rw[q];simp) with e'|e'
    ·subst e';rw[ha] at e;cases e;have d':Data.seq vs.toArray _=Data.dict es ep:=d
     cases d'
    ·rw[lF b e'] at e;cases e;have d':Data.fields #[]=Data.dict es ep:=d
     cases d'
  have Sx:∀{b:Addr}{m:xf},s₁.heap.Ns b m->(l5 s₁.heap H).Ns b m:=λ{b m} ⟨o,es,ep,e,d,r⟩=>⟨o,es,ep,base_of e (Oa e d),d,r⟩
  have Xo:K.In (l5 s₁.heap H):=λb o e=>base_of (KX b o e) (by
   cases q:H b with
   |none=>rfl
   |some u =>
    rcases hA b (by rw[q];simp) with e'|⟨c,e'⟩
    ·subst e';rw[hK (by rw[q];simp)] at e;cases e
    ·have z:=ZJ _ e'
     rw[z] at e;cases e)
  have hM:Mod K mg (l5 s₁.heap H):=⟨Xo,Sx J6,⟨mb,Sx hb,T3⟩,let⟨mc,h1,h2⟩:=T4;⟨mc,Sx h1,h2⟩⟩
  have ZL:uQ tabs mg (l5 s₁.heap H):=by
   refine⟨λq hq=>?_,?_⟩
   ·obtain⟨o,ws,file,tf,flags,tg,ZM,text,tt,e1,r1,r2,r3⟩:=(hT q hq).1;exact⟨o,ws,file,tf,flags,tg,ZM,text,tt,base_of e1 (Xn e1 (by rw[r1];intro z;cases z) (λits n z=>by rw[r2] at z;cases z)),r1,r2,r3⟩
   ·obtain⟨bm,ob,b1,b2,b3,b4,b5,b6⟩:=ZK;exact⟨bm,ob,b1,b2,base_of b3 (Xn b3 (by rw[b4];intro z;cases z) (λits n z=>by rw[b6] at z;cases z)),b4,b5,b6⟩
  have e0:Dl P w K mg (l5 s₁.heap H) callerA [] s₁ H:=⟨rfl,hM,λb o e=>aaB e,Nat.le_of_eq (Shr _ _),trivial,λb hb=>absurd (show b∈([]:List Addr) from hb) (by simp),hok,.of_eq hg⟩;refine codeAny_mono ((F _ Xo (Sx J6) ZL).run callerA [] s₁ H ⟨[.ref a],[]⟩ [.ref a] [.ref a] _ _ hr e0 (Ov s₁ (.ref a)) (.cons rfl .nil) (Kq H hO hS)) λr s' h=>?_
  cases r with
  |error e=>exact(T5 H e s' h).elim
  |ok fl =>
   cases fl with
   |next=>exact False.elim h
   |brk=>exact False.elim h
   |cont=>exact False.elim h
   |ret u =>
    obtain⟨v,H',os,bare,un,Ow,r',q⟩:=h;have q':v=.bl true:=q;subst q';obtain rfl:u=Value.bool true:=r';refine⟨rfl,⟨λb o e=>?_,λb o e=>un.there b o e (by simp)⟩,os,bare⟩
    cases q:H b with
    |none=>exact .inl (un.keep b o e q (by intro z;exact absurd (show b∈([]:List Addr) from z) (by simp)) (by simp))
    |some u =>
     rcases hO.1 b with z|⟨ob,xs,z⟩|⟨z,c,hc⟩
     ·rw[q] at z;cases z
     ·have z2:=un.aak b ob _ z;obtain⟨e1,_⟩:=hok b _ z;obtain⟨e2,_⟩:=Ow b _ z2;rw[e] at e1;cases e1;exact .inl e2
     ·obtain⟨more,z2⟩:=un.aar b _ z;have e2:s'.heap.get? b=some {cls:=.none,data:=.fields (#[]++more)}:=Ow b _ z2;have e1:=lF b ⟨c,hc⟩;rw[e] at e1;cases e1;exact .inr (.inl ⟨((hT _ hc).1.tab (hT _ hc).2).isCodeTable,rfl,#[],more,rfl,e2⟩)
 have aT:∀c,(c,a)∉tabs:=λc hc=>by
  have z:=lF a ⟨c,hc⟩;rw[ha] at z
  cases z
 have Ox:∀b,Decidable (∃c,(c,b)∈tabs):=λb=>Classical.propDecidable _
 cases hk:K.lookup a with
 |some o =>
  have e:=KX a o hk;rw[ha] at e
  cases e
  refine core (λb=>@ite _ (∃c,(c,b)∈tabs) (Ox b) (some (.tbl #[])) none) ⟨λb=>?_,λq hq=>?_⟩ (.inr ⟨_,vs.toArray,_,hk,rfl,rfl,rfl,by rw[List.size_toArray,T6];exact hl,by simpa using rv⟩) (λb u z=>?_) (λb z=>?_) λz=>?_
  ·by_cases hb:∃c,(c,b)∈tabs
   ·exact .inr (.inr ⟨if_pos hb,hb⟩)
   ·exact .inl (if_neg hb)
  ·exact if_pos ⟨q.1,hq⟩
  ·by_cases hb:∃c,(c,b)∈tabs
   ·have z':=(if_pos hb).symm.trans z
    cases z'
    exact lF b hb
   ·have z':=(if_neg hb).symm.trans z
    cases z'
  ·by_cases hb:∃c,(c,b)∈tabs
   ·exact .inr hb
   ·exact absurd (if_neg hb) z
  ·exact absurd (if_neg λ⟨c,hc⟩=>aT c hc) z
 |none =>
  refine core (λb=>if b=a then some (.frz {cls:=.type "list",data:=.seq vs.toArray} (.lst (ns.map V.int))) else @ite _ (∃c,(c,b)∈tabs) (Ox b) (some (.tbl #[])) none) ⟨λb=>?_,λq hq=>?_⟩ (.inl (.inr ⟨{cls:=.type "list",data:=.seq vs.toArray},if_pos rfl⟩)) (λb u z=>?_) (λb z=>?_) λ_=>hk
  ·by_cases hb:b=a
   ·exact .inr (.inl ⟨_,_,if_pos hb⟩)
   ·by_cases ht:∃c,(c,b)∈tabs
    ·exact .inr (.inr ⟨(if_neg hb).trans (if_pos ht),ht⟩)
    ·exact .inl ((if_neg hb).trans (if_neg ht))
  ·have hb:q.2≠a:=λz=>aT q.1 (by rw[<-z];exact hq);exact(if_neg hb).trans (if_pos ⟨q.1,hq⟩)
  ·by_cases hb:b=a
   ·have z':=(if_pos hb).symm.trans z
    cases z'
    subst hb;exact⟨ha,by rw[List.length_map];exact hl,vs,_,rv,ha⟩
   ·have z':=(if_neg hb).symm.trans z
    by_cases ht:∃c,(c,b)∈tabs
    ·have z2:=(if_pos ht).symm.trans z'
     cases z2
     exact lF b ht
    ·have z2:=(if_neg ht).symm.trans z'
     cases z2
  ·by_cases hb:b=a
   ·exact .inl hb
   ·by_cases ht:∃c,(c,b)∈tabs
    ·exact .inr ht
    ·exact absurd ((if_neg hb).trans (if_neg ht)) z
structure EX (K:Frag)(x qual:Str)(st:Stmt)(f:Addr)(fd:zo)(T:Addr):Prop where
 ex:∃(oc:Value)(od:CO)(kV doc pm:Value)(an:CO)(Iv ct:Value)(IQ:va),
  fd=fnOf x qual (c7 st) (cu st) (aj st) (.ref T) kV doc pm an Iv ct/\K.lookup f=some ⟨oc,od,.func fd,IQ⟩/\codeIn K Iv qual=true
 kp:keepIn K (.ref f)=true
section
variable {P:yn}{w:World}{K:Frag}{mg:xf}{base:Heap}
theorem EX.okE {T:Addr}(F:EX K x qual st f fd T)(S:Av N ps (aj st))(len:∀vs H Q E,sp vs H Q E->vs.length=ps.length)
 (Jl:∀(Iv:Value)(A:Around)(outer:List Env)(s:Dx)(H:Hp)(vs:List V)(Q:VK)(E:XK),p8 k (A.deeper (envOfC qual (aj st) s.heap.objs.size f Iv))->sp vs H Q E →
  ∃t,oV (gG (aU P w) P w K mg base N qual (aj st) f Iv A outer s H E) (cu st) t/\t {nx:=λ_ H'=>Q .non H',rt:=Q} (hV N vs) H):Ik P w K mg base (aU P w) (k+1) f fd ps sp:=by
 obtain⟨oc,od,kV,doc,pm,an,Iv,ct,IQ,rfl,lk,Jp⟩:=F.ex;exact xI lk Jp S len λA outer s H vs Q E hr Kq=>Jl Iv A outer s H vs Q E hr Kq
theorem Am {T:Addr}{oc:Value}{od an:CO}{IQ:va}{kV doc pm Iv ct:Value}(l:K.lookup f=some ⟨oc,od,.func (fnOf x qual (c7 st) (cu st) (aj st) (.ref T) kV doc pm an Iv ct),IQ⟩)
 (c:codeIn K Iv qual=true)(k:keepIn K (.ref f)=true):EX K x qual st f (fnOf x qual (c7 st) (cu st) (aj st) (.ref T) kV doc pm an Iv ct) T:=⟨⟨oc,od,kV,doc,pm,an,Iv,ct,IQ,rfl,l,c⟩,k⟩
end
def eO:Expr->Bool
 | .Starred _ _=>true
 |_=>false
theorem aO {e:Expr}{rest:De}(h:eO e=false):starEach (e::rest) env=(false,eval e env):: starEach rest env:=by
 cases e <;> first|rfl|cases h
section
variable {X:Cx}{e:Expr}{es:De}{te:TE}{t:TA}
theorem ao (ha:PE X e te)(hr:PA X es t)(h:eO e=false:=by rfl):PA X (e::es) (dn te t):=bf ha hr (aO h)
end
inductive D where
 |non|bl (b:Bool)|int (i:Int)|str (x:Str)|lst (ds:List D)|tup (ds:List D)
mutual
def aN (K:Frag)(H:Hp):D->V->Prop
 | .non,v=>v=.non
 | .bl b,v=>v=.bl b
 | .int i,v=>v=.int i
 | .str x,v=>v=.str x
 | .lst ds,v=>∃a xs,v=.ref a/\bo K H a xs/\ba K H ds xs
 | .tup ds,v=>∃a xs,v=.ref a/\br K H a xs/\ba K H ds xs
def ba (K:Frag)(H:Hp):List D->List V->Prop
 |[],xs=>xs=[]
 |d::ds,xs=>∃y ys,xs=y::ys/\aN K H d y/\ba K H ds ys
end
mutual
def i5:D->D->Bool
 | .non,.non=>true
 | .bl a,.bl b=>a==b
 | .bl a,.int b=>(if a then 1 else 0)==b
 | .int a,.bl b=>a==(if b then 1 else 0)
 | .int a,.int b=>a==b
 | .str a,.str b=>a==b
 | .lst a,.lst b=>fF a b
 | .tup a,.tup b=>fF a b
 |_,_=>false
def fF:List D->List D->Bool
 |[],[]=>true
 |a::as,b::bs=>i5 a b&&fF as bs
 |_,_=>false
end
mutual
def jB:D->Nat
 | .lst ds=>dX ds+1
 | .tup ds=>dX ds+1
 |_=>0
def dX:List D->Nat
 |[]=>0
 |d::ds=>max (jB d) (dX ds)
end
theorem t6:∀{ds:List D}{d:D},d∈ds->jB d<=dX ds
 |e::ds,d,h=>by
  unfold dX
  rcases List.mem_cons.mp h with rfl|h
  ·exact Nat.le_max_left _ _
  ·exact Nat.le_trans (t6 h) (Nat.le_max_right _ _)
theorem ig:∀(as bs:List D),fF as bs=((List.range (min as.length bs.length)).all (λj=>i5 (as.getD j .non) (bs.getD j .non))&&as.length==bs.length)
 |[],[]=>rfl
 |[],b::bs=>by simp;rfl
 |a::as,[]=>by simp;rfl
 |a::as,b::bs=>by
  show(i5 a b&&fF as bs)=_;rw[ig as bs]
  have e:min (a::as).length (b::bs).length=min as.length bs.length+1:=by simp[Nat.succ_min_succ]
  rw[e,List.range_succ_eq_map,List.all_cons,List.all_map]
  have h1:((a::as).length==(b::bs).length)=(as.length==bs.length):=by simp
  rw[h1,Bool.and_assoc];rfl
theorem ba.len :∀{ds:List D}{xs:List V},ba K H ds xs->ds.length=xs.length
 |[],xs,h=>by
  have h:xs=[]:=by unfold ba at h;exact h
  rw[h];rfl
 |d::ds,xs,h=>by
  unfold ba at h;obtain⟨y,ys,rfl,_,h⟩:=h;simp[ba.len h]
theorem ba.get :∀{ds:List D}{xs:List V}{j:Nat}(hj:j<xs.length),ba K H ds xs->aN K H (ds.getD j .non) xs[j]/\ds.getD j .non∈ds
 |[],xs,j,hj,h=>by
  have h:xs=[]:=by unfold ba at h;exact h
  subst h;exact absurd hj (by simp)
 |d::ds,xs,j,hj,h=>by
  unfold ba at h;obtain⟨y,ys,rfl,hd,h⟩:=h
  cases j with
  |zero=>exact⟨hd,List.mem_cons_self⟩
  |succ j =>
   obtain⟨h1,h2⟩:=ba.get (j:=j) (by simpa using hj) h;exact⟨h1,List.mem_cons_of_mem _ h2⟩
mutual
theorem eA:∀d:D,i5 d d=true
 | .non=>rfl
 | .bl b=>beq_self_eq_true b
 | .int i=>beq_self_eq_true i
 | .str x=>beq_self_eq_true x
 | .lst ds=>jb ds
 | .tup ds=>jb ds
theorem jb:∀ds:List D,fF ds ds=true
 |[]=>rfl
 |d::ds=>by show(i5 d d&&fF ds ds)=true;rw[eA d,jb ds];rfl
end
section
variable {X:Cx}{pins:List (Addr×Obj)}{σ:St}{H:Hp}{s:Dx}
theorem gK (I:Inv X pins σ H s){xs ys:List V}(h1:bo X.K H a xs)(h2:br X.K H a ys):False:=by
 obtain⟨its,_,p1,_⟩:=I.list h1;obtain⟨IB,_,p2,_⟩:=I.tuple h2;exact SeqAt.ne_of_list_tuple p1.isList (show s.heap.IsTuple a IB.toArray from p2) rfl
mutual
theorem lR (I:Inv X pins σ H s):∀(d e:D)(v:V),aN X.K H d v->aN X.K H e v->i5 d e=true
 | .non,e,v,h1,h2=>by
   unfold aN at h1;subst h1
   cases e <;> unfold aN at h2 <;> first|(obtain⟨_,_,z,_⟩:=h2;cases z;done)|rfl|(cases h2;done)
 | .bl b,e,v,h1,h2=>by
   unfold aN at h1;subst h1
   cases e <;> unfold aN at h2 <;> first|(obtain⟨_,_,z,_⟩:=h2;cases z;done)|(cases h2;exact eA _)|(cases h2;done)
 | .int b,e,v,h1,h2=>by
   unfold aN at h1;subst h1
   cases e <;> unfold aN at h2 <;> first|(obtain⟨_,_,z,_⟩:=h2;cases z;done)|(cases h2;exact eA _)|(cases h2;done)
 | .str b,e,v,h1,h2=>by
   unfold aN at h1;subst h1
   cases e <;> unfold aN at h2 <;> first|(obtain⟨_,_,z,_⟩:=h2;cases z;done)|(cases h2;exact eA _)|(cases h2;done)
 | .lst ds,e,v,h1,h2=>by
   unfold aN at h1;obtain⟨a,xs,rfl,q,r⟩:=h1
   cases e with
   |lst es =>
    unfold aN at h2;obtain⟨b,ys,z,q2,r2⟩:=h2
    cases z
    have e:=I.aay q q2;subst e;exact jo I ds es xs r r2
   |tup es =>
    unfold aN at h2;obtain⟨b,ys,z,q2,r2⟩:=h2
    cases z
    exact(gK I q q2).elim
   |_=>unfold aN at h2;cases h2
 | .tup ds,e,v,h1,h2=>by
   unfold aN at h1;obtain⟨a,xs,rfl,q,r⟩:=h1
   cases e with
   |tup es =>
    unfold aN at h2;obtain⟨b,ys,z,q2,r2⟩:=h2
    cases z
    have e:=I.aaE q q2;subst e;exact jo I ds es xs r r2
   |lst es =>
    unfold aN at h2;obtain⟨b,ys,z,q2,r2⟩:=h2
    cases z
    exact(gK I q2 q).elim
   |_=>unfold aN at h2;cases h2
theorem jo (I:Inv X pins σ H s):∀(ds es:List D)(xs:List V),ba X.K H ds xs->ba X.K H es xs->fF ds es=true
 |[],es,xs,h1,h2=>by
  unfold ba at h1;subst h1
  cases es with
  |nil=>rfl
  |cons e es=>unfold ba at h2;obtain⟨_,_,z,_⟩:=h2;cases z
 |d::ds,es,xs,h1,h2=>by
  unfold ba at h1;obtain⟨y,ys,rfl,hd,h1⟩:=h1
  cases es with
  |nil=>unfold ba at h2;cases h2
  |cons e es =>
   unfold ba at h2;obtain⟨_,_,z,he,h2⟩:=h2
   cases z
   show(i5 d e&&fF ds es)=true;rw[lR I d e y hd he,jo I ds es ys h1 h2];rfl
end
theorem kA (I:Inv X pins σ H s)(n:Nat)(ih:n≠0->∀(A:Around)(d e:D)(x y:V)(u v:Value),jB d<=n-1->A.units+(n-1)<cLine->aN X.K H d x->aN X.K H e y->aG x u->aG y v->SeqAt.EqAt A s u v (i5 d e))
 (ZN:n≠0)(A:Around)(hu:A.units+n<cLine){ds es:List D}{xs ys:List V}{its IB:oH}(r1:ba X.K H ds xs)(r2:ba X.K H es ys)(rv:aM xs its)(JI:aM ys IB)(hn:dX ds<=n-1):
 ∀j (h1:j<its.toArray.size)(h2:j<IB.toArray.size),SeqAt.EqAt A.in1 s its.toArray[j] IB.toArray[j] (i5 (ds.getD j .non) (es.getD j .non)):=by
 intro j h1 h2
 have e1:j<xs.length:=by rw[rv.length];simpa using h1
 have e2:j<ys.length:=by rw[JI.length];simpa using h2
 obtain⟨d1,m1⟩:=r1.get e1;obtain⟨d2,m2⟩:=r2.get e2;obtain⟨u,T7,ru⟩:=rv.get (List.getElem?_eq_getElem e1);obtain⟨v,ZO,ZP⟩:=JI.get (List.getElem?_eq_getElem e2)
 have z1:its.toArray[j]=u:=by
  have:=List.getElem?_eq_some_iff.mp T7;obtain⟨_,q⟩:=this;simpa using q
 have z2:IB.toArray[j]=v:=by
  have:=List.getElem?_eq_some_iff.mp ZO;obtain⟨_,q⟩:=this;simpa using q
 rw[z1,z2];exact ih ZN A.in1 _ _ _ _ _ _ (Nat.le_trans (t6 m1) hn) (by show A.units+1+(n-1)<cLine;omega) d1 d2 ru ZP
theorem m9 (I:Inv X pins σ H s)(n:Nat)(ih:n≠0->∀(A:Around)(d e:D)(x y:V)(u v:Value),jB d<=n-1->A.units+(n-1)<cLine->aN X.K H d x->aN X.K H e y->aG x u->aG y v->SeqAt.EqAt A s u v (i5 d e))
 (A:Around)(d e:D)(x y:V)(u v:Value)(hn:jB d<=n)(hu:A.units+n<cLine)(h1:aN X.K H d x)(h2:aN X.K H e y)(rx:aG x u)(ry:aG y v):
 SeqAt.RcAt A s u v (i5 d e)/\SeqAt.EqAt A s u v (i5 d e)/\SeqAt.RcNeAt A s u v (!i5 d e):=by
 have IF:A.units<cLine:=by omega
 cases d with
 |non =>
  unfold aN at h1;subst h1
  cases rx
  cases e with
  |non =>
   unfold aN at h2;subst h2
   cases ry
   exact⟨.none_none,.same _,.none_none⟩
  |bl q =>
   unfold aN at h2;subst h2
   cases ry
   exact⟨.none_bool q,.none_bool q,.none_bool q⟩
  |int q =>
   unfold aN at h2;subst h2;obtain⟨tq,rfl⟩:=ry;exact⟨.none_int q tq,.none_int q tq,.none_int q tq⟩
  |str q =>
   unfold aN at h2;subst h2;obtain⟨tq,rfl⟩:=ry;exact⟨.none_str q tq,.none_str q tq,.none_str q tq⟩
  |lst es =>
   unfold aN at h2;obtain⟨b,ys,rfl,q2,r2⟩:=h2
   cases ry
   obtain⟨IB,JI,p2,_⟩:=I.list q2;exact⟨.none_list  p2.isList IF,.none_list  p2.isList IF,.none_list  p2.isList IF⟩
  |tup es =>
   unfold aN at h2;obtain⟨b,ys,rfl,q2,r2⟩:=h2
   cases ry
   obtain⟨IB,JI,p2,_⟩:=I.tuple q2;have p2:s.heap.IsTuple b IB.toArray:=p2;exact⟨.none_tuple  p2 IF,.none_tuple  p2 IF,.none_tuple  p2 IF⟩
 |bl p =>
  unfold aN at h1;subst h1
  cases rx
  cases e with
  |non =>
   unfold aN at h2;subst h2
   cases ry
   exact⟨.bool_none p,.bool_none p,.bool_none p⟩
  |bl q =>
   unfold aN at h2;subst h2
   cases ry
   exact⟨.bool_bool p q,.bool_bool p q,.bool_bool p q⟩
  |int q =>
   unfold aN at h2;subst h2;obtain⟨tq,rfl⟩:=ry;exact⟨.bool_int p q tq,.bool_int p q tq,.bool_int p q tq⟩
  |str q =>
   unfold aN at h2;subst h2;obtain⟨tq,rfl⟩:=ry;exact⟨.bool_str p q tq,.bool_str p q tq,.bool_str p q tq⟩
  |lst es =>
   unfold aN at h2;obtain⟨b,ys,rfl,q2,r2⟩:=h2
   cases ry
   obtain⟨IB,JI,p2,_⟩:=I.list q2;exact⟨.bool_list p p2.isList IF,.bool_list p p2.isList IF,.bool_list p p2.isList IF⟩
  |tup es =>
   unfold aN at h2;obtain⟨b,ys,rfl,q2,r2⟩:=h2
   cases ry
   obtain⟨IB,JI,p2,_⟩:=I.tuple q2;have p2:s.heap.IsTuple b IB.toArray:=p2;exact⟨.bool_tuple p p2 IF,.bool_tuple p p2 IF,.bool_tuple p p2 IF⟩
 |int p =>
  unfold aN at h1;subst h1;obtain⟨tp,rfl⟩:=rx
  cases e with
  |non =>
   unfold aN at h2;subst h2
   cases ry
   exact⟨.int_none p tp,.int_none p tp,.int_none p tp⟩
  |bl q =>
   unfold aN at h2;subst h2
   cases ry
   exact⟨.int_bool p tp q,.int_bool p tp q,.int_bool p tp q⟩
  |int q =>
   unfold aN at h2;subst h2;obtain⟨tq,rfl⟩:=ry;exact⟨.int_int p tp q tq,.int_int p tp q tq,.int_int p tp q tq⟩
  |str q =>
   unfold aN at h2;subst h2;obtain⟨tq,rfl⟩:=ry;exact⟨.int_str p tp q tq,.int_str p tp q tq,.int_str p tp q tq⟩
  |lst es =>
   unfold aN at h2;obtain⟨b,ys,rfl,q2,r2⟩:=h2
   cases ry
   obtain⟨IB,JI,p2,_⟩:=I.list q2;exact⟨.int_list p tp p2.isList IF,.int_list p tp p2.isList IF,.int_list p tp p2.isList IF⟩
  |tup es =>
   unfold aN at h2;obtain⟨b,ys,rfl,q2,r2⟩:=h2
   cases ry
   obtain⟨IB,JI,p2,_⟩:=I.tuple q2;have p2:s.heap.IsTuple b IB.toArray:=p2;exact⟨.int_tuple p tp p2 IF,.int_tuple p tp p2 IF,.int_tuple p tp p2 IF⟩
 |str p =>
  unfold aN at h1;subst h1;obtain⟨tp,rfl⟩:=rx
  cases e with
  |non =>
   unfold aN at h2;subst h2
   cases ry
   exact⟨.str_none p tp,.str_none p tp,.str_none p tp⟩
  |bl q =>
   unfold aN at h2;subst h2
   cases ry
   exact⟨.str_bool p tp q,.str_bool p tp q,.str_bool p tp q⟩
  |int q =>
   unfold aN at h2;subst h2;obtain⟨tq,rfl⟩:=ry;exact⟨.str_int p tp q tq,.str_int p tp q tq,.str_int p tp q tq⟩
  |str q =>
   unfold aN at h2;subst h2;obtain⟨tq,rfl⟩:=ry;exact⟨.str_str p tp q tq,.str_str p tp q tq,.str_str p tp q tq⟩
  |lst es =>
   unfold aN at h2;obtain⟨b,ys,rfl,q2,r2⟩:=h2
   cases ry
   obtain⟨IB,JI,p2,_⟩:=I.list q2;exact⟨.str_list p tp p2.isList IF,.str_list p tp p2.isList IF,.str_list p tp p2.isList IF⟩
  |tup es =>
   unfold aN at h2;obtain⟨b,ys,rfl,q2,r2⟩:=h2
   cases ry
   obtain⟨IB,JI,p2,_⟩:=I.tuple q2;have p2:s.heap.IsTuple b IB.toArray:=p2;exact⟨.str_tuple p tp p2 IF,.str_tuple p tp p2 IF,.str_tuple p tp p2 IF⟩
 |lst ds =>
  unfold aN at h1;obtain⟨a,xs,rfl,q1,r1⟩:=id h1
  cases rx
  obtain⟨its,rv,p1,_⟩:=I.list q1;have p1:s.heap.IsList a its.toArray:=p1.isList
  cases e with
  |non =>
   unfold aN at h2;subst h2
   cases ry
   exact⟨.list_none  p1 IF,.list_none  p1 IF,.list_none  p1 IF⟩
  |bl q =>
   unfold aN at h2;subst h2
   cases ry
   exact⟨.list_bool q p1 IF,.list_bool q p1 IF,.list_bool q p1 IF⟩
  |int q =>
   unfold aN at h2;subst h2;obtain⟨tq,rfl⟩:=ry;exact⟨.list_int q tq p1 IF,.list_int q tq p1 IF,.list_int q tq p1 IF⟩
  |str q =>
   unfold aN at h2;subst h2;obtain⟨tq,rfl⟩:=ry;exact⟨.list_str q tq p1 IF,.list_str q tq p1 IF,.list_str q tq p1 IF⟩
  |lst es =>
   unfold aN at h2;obtain⟨b,ys,rfl,q2,r2⟩:=id h2
   cases ry
   obtain⟨IB,JI,p2,_⟩:=I.list q2;have p2:s.heap.IsList b IB.toArray:=p2.isList;have el:=kA I n ih (by unfold jB at hn;omega) A hu r1 r2 rv JI (by unfold jB at hn;omega)
   have l1:its.toArray.size=ds.length:=by rw[List.size_toArray,<-rv.length,r1.len]
   have l2:IB.toArray.size=es.length:=by rw[List.size_toArray,<-JI.length,r2.len]
   have dr:=ig ds es
   have key:SeqAt.RcAt A s (.ref a) (.ref b) (fF ds es)/\SeqAt.RcNeAt A s (.ref a) (.ref b) (!fF ds es):=by
    by_cases hl:ds.length=es.length
    ·have hs:its.toArray.size=IB.toArray.size:=by rw[l1,l2,hl]
     have z:(List.range its.toArray.size).all (λj=>i5 (ds.getD j .non) (es.getD j .non))=fF ds es:=by rw[dr,l1,hl];simp
     have c1:=SeqAt.RcAt.lists p1 p2 hs IF el;have c2:=SeqAt.RcNeAt.lists p1 p2 hs IF el;rw[z] at c1 c2;exact⟨c1,c2⟩
    ·have z:fF ds es=false:=by rw[dr];simp[hl]
     have hs:(its.toArray.size != IB.toArray.size)=true:=by rw[l1,l2];simpa using hl
     rw[z];exact⟨SeqAt.RcAt.lists_lengths p1 p2 hs IF,SeqAt.RcNeAt.lists_lengths p1 p2 hs IF⟩
   have MH:i5 (.lst ds) (.lst es)=fF ds es:=rfl
   by_cases LK:a=b
   ·subst LK;have z:=lR I (.lst ds) (.lst es) (.ref a) (by unfold aN;exact⟨a,xs,rfl,q1,r1⟩) (by unfold aN;exact⟨a,ys,rfl,q2,r2⟩);refine⟨by rw[MH];exact key.1,by rw[z];exact .same _,by rw[MH];exact key.2⟩
   ·rw[MH];exact⟨key.1,.of_refs LK key.1,key.2⟩
  |tup es =>
   unfold aN at h2;obtain⟨b,ys,rfl,q2,r2⟩:=id h2
   cases ry
   obtain⟨IB,JI,p2,_⟩:=I.tuple q2;have p2:s.heap.IsTuple b IB.toArray:=p2;exact⟨.list_tuple p1 p2 IF,.list_tuple p1 p2 IF,.list_tuple p1 p2 IF⟩
 |tup ds =>
  unfold aN at h1;obtain⟨a,xs,rfl,q1,r1⟩:=id h1
  cases rx
  obtain⟨its,rv,p1,_⟩:=I.tuple q1;have p1:s.heap.IsTuple a its.toArray:=p1
  cases e with
  |non =>
   unfold aN at h2;subst h2
   cases ry
   exact⟨.tuple_none  p1 IF,.tuple_none  p1 IF,.tuple_none  p1 IF⟩
  |bl q =>
   unfold aN at h2;subst h2
   cases ry
   exact⟨.tuple_bool q p1 IF,.tuple_bool q p1 IF,.tuple_bool q p1 IF⟩
  |int q =>
   unfold aN at h2;subst h2;obtain⟨tq,rfl⟩:=ry;exact⟨.tuple_int q tq p1 IF,.tuple_int q tq p1 IF,.tuple_int q tq p1 IF⟩
  |str q =>
   unfold aN at h2;subst h2;obtain⟨tq,rfl⟩:=ry;exact⟨.tuple_str q tq p1 IF,.tuple_str q tq p1 IF,.tuple_str q tq p1 IF⟩
  |lst es =>
   unfold aN at h2;obtain⟨b,ys,rfl,q2,r2⟩:=id h2
   cases ry
   obtain⟨IB,JI,p2,_⟩:=I.list q2;have p2:s.heap.IsList b IB.toArray:=p2.isList;exact⟨.tuple_list p1 p2 IF,.tuple_list p1 p2 IF,.tuple_list p1 p2 IF⟩
  |tup es =>
   unfold aN at h2;obtain⟨b,ys,rfl,q2,r2⟩:=id h2
   cases ry
   obtain⟨IB,JI,p2,_⟩:=I.tuple q2;have p2:s.heap.IsTuple b IB.toArray:=p2;have el:=kA I n ih (by unfold jB at hn;omega) A hu r1 r2 rv JI (by unfold jB at hn;omega)
   have l1:its.toArray.size=ds.length:=by rw[List.size_toArray,<-rv.length,r1.len]
   have l2:IB.toArray.size=es.length:=by rw[List.size_toArray,<-JI.length,r2.len]
   have dr:=ig ds es
   have key:SeqAt.RcAt A s (.ref a) (.ref b) (fF ds es)/\SeqAt.RcNeAt A s (.ref a) (.ref b) (!fF ds es):=by
    have z:((List.range (min its.toArray.size IB.toArray.size)).all (λj=>i5 (ds.getD j .non) (es.getD j .non))&&its.toArray.size==IB.toArray.size)=fF ds es:=by rw[dr,l1,l2]
    have c1:=SeqAt.RcAt.tuples p1 p2 IF el;have c2:=SeqAt.RcNeAt.tuples p1 p2 IF el;rw[z] at c1 c2;exact⟨c1,c2⟩
   have MH:i5 (.tup ds) (.tup es)=fF ds es:=rfl
   by_cases LK:a=b
   ·subst LK;have z:=lR I (.tup ds) (.tup es) (.ref a) (by unfold aN;exact⟨a,xs,rfl,q1,r1⟩) (by unfold aN;exact⟨a,ys,rfl,q2,r2⟩);refine⟨by rw[MH];exact key.1,by rw[z];exact .same _,by rw[MH];exact key.2⟩
   ·rw[MH];exact⟨key.1,.of_refs LK key.1,key.2⟩
theorem ju (I:Inv X pins σ H s):∀(n:Nat)(A:Around)(d e:D)(x y:V)(u v:Value),jB d<=n->A.units+n<cLine->aN X.K H d x->aN X.K H e y->aG x u->aG y v →
 SeqAt.RcAt A s u v (i5 d e)/\SeqAt.EqAt A s u v (i5 d e)/\SeqAt.RcNeAt A s u v (!i5 d e):=by
 intro n
 induction n with
 |zero=>exact λA d e x y u v hn hu h1 h2 rx ry=>m9 I 0 (λz=>absurd z (by simp)) A d e x y u v hn hu h1 h2 rx ry
 |succ n ih=>exact λA d e x y u v hn hu h1 h2 rx ry=>m9 I (n+1) (λ_ A d e x y u v hn hu h1 h2 rx ry=>(ih A d e x y u v hn hu h1 h2 rx ry).2.1) A d e x y u v hn hu h1 h2 rx ry
end
section
variable {X:Cx}
def uW (K:Frag)(neg:Bool):R2:=λx y H Q=>∃d e,aN K H d x/\aN K H e y/\jB d<=32/\Q (.bl (i5 d e != neg)) H
theorem wM (hr:p8 k X.A):eE X (compareOp .Eq) (uW X.K false):=by
 intro pins s σ H x y v u Q I rx ry h;obtain⟨d,e,h1,h2,hd,q⟩:=h;have z:=(ju I 32 X.A d e x y v u hd (by have:=hr.units;omega) h1 h2 rx ry).1;exact z X.prog X.w X.xe _ ⟨.bl (i5 d e),H,I,rfl,by simpa using q⟩
theorem qC (hr:p8 k X.A):eE X (compareOp .NotEq) (uW X.K true):=by
 intro pins s σ H x y v u Q I rx ry h;obtain⟨d,e,h1,h2,hd,q⟩:=h;have z:=(ju I 32 X.A d e x y v u hd (by have:=hr.units;omega) h1 h2 rx ry).2.2
 exact z X.prog X.w X.xe _ ⟨.bl (!i5 d e),H,I,rfl,by
  have e1:(i5 d e != true) = !i5 d e:=by cases i5 d e <;> rfl
  rw[e1] at q
  exact q⟩
end
end L2
namespace Nm
def eC (a b:Int):Int:=(Int.gcd a b:Int)
def dv (t b:Int):Int:=if b<0 then -(eC t b) else eC t b
def cW (t b:Int):Int:=t.fdiv (dv t b)
def b7 (t b:Int):Int:=b.fdiv (dv t b)
variable {b:Int}
theorem iI {t:Int}(h:b≠0):0<eC t b:=by
 unfold eC;have:0<Int.gcd t b:=Int.gcd_pos_of_ne_zero_right _ h;omega
theorem jA {t:Int}(h:b≠0):dv t b≠0:=by
 have:=iI (t:=t) h;unfold dv
 split <;> omega
theorem GB {t:Int}:dv t b ∣ t:=by
 unfold dv eC
 split
 ·exact Int.neg_dvd.mpr (Int.gcd_dvd_left ..)
 ·exact Int.gcd_dvd_left ..
theorem GJ {t:Int}:dv t b ∣ b:=by
 unfold dv eC
 split
 ·exact Int.neg_dvd.mpr (Int.gcd_dvd_right ..)
 ·exact Int.gcd_dvd_right ..
theorem pA {a:Int}(h:b ∣ a)(hb:b≠0):a.fdiv b*b=a:=by
 obtain⟨c,rfl⟩:=h;rw[Int.mul_fdiv_cancel_left _ hb,Int.mul_comm]
theorem pG {t:Int}(h:b≠0):cW t b*dv t b=t:=pA GB (jA h)
theorem iz {t:Int}(h:b≠0):b7 t b*dv t b=b:=pA GJ (jA h)
theorem nY {t:Int}(h:b≠0):0<b7 t b:=by
 have e:=iz (t:=t) h;have g:=iI (t:=t) h
 by_cases hb:b<0
 ·have hd:dv t b = -(eC t b):=by unfold dv;rw[if_pos hb]
  rw[hd] at e
  by_cases hl:0<b7 t b
  ·exact hl
  ·have:0<=b7 t b * -(eC t b):=by
    have:=Int.mul_nonneg_of_nonpos_of_nonpos (a:=b7 t b) (b:=-(eC t b)) (by omega) (by omega);exact this
   omega
 ·have hd:dv t b=eC t b:=by unfold dv;rw[if_neg hb]
  rw[hd] at e
  by_cases hl:0<b7 t b
  ·exact hl
  ·have:b7 t b*eC t b<=0:=Int.mul_nonpos_of_nonpos_of_nonneg (by omega) (by omega);omega
theorem nh {t:Int}:(dv t b).natAbs=Int.gcd t b:=by
 unfold dv eC
 split <;> simp
theorem sR {t:Int}(h:b≠0):Int.gcd (cW t b) (b7 t b)=1:=by
 have e1:=pG (t:=t) h;have e2:=iz (t:=t) h;have g:0<Int.gcd t b:=Int.gcd_pos_of_ne_zero_right _ h;have e3:Int.gcd (cW t b*dv t b) (b7 t b*dv t b)=Int.gcd (cW t b) (b7 t b)*(dv t b).natAbs:=Int.gcd_mul_right ..;rw[e1,e2,nh] at e3
 have:Int.gcd (cW t b) (b7 t b)*Int.gcd t b=1*Int.gcd t b:=by omega
 exact Nat.eq_of_mul_eq_mul_right g this
theorem ik {t b t' b':Int}(h:b≠0)(hp:0<b')(hg:Int.gcd t' b'=1)(he:t*b'=t'*b):cW t b=t'/\b7 t b=b':=by
 have e1:=pG (t:=t) h;have e2:=iz (t:=t) h;have g:=jA (t:=t) h;have lp:=nY (t:=t) h;have lg:=sR (t:=t) h
 have e3:cW t b*b'=t'*b7 t b:=by
  have z:(cW t b*b')*dv t b=(t'*b7 t b)*dv t b:=by
   rw[Int.mul_right_comm,e1,he,Int.mul_assoc,e2]
  exact Int.eq_of_mul_eq_mul_right g z
 have n3:(cW t b).natAbs*b'.natAbs=t'.natAbs*(b7 t b).natAbs:=by
  have:=congrArg Int.natAbs e3;rw[Int.natAbs_mul,Int.natAbs_mul] at this;exact this
 have c1:Nat.Coprime (b7 t b).natAbs (cW t b).natAbs:=by
  rw[Nat.coprime_comm];exact lg
 have c2:Nat.Coprime b'.natAbs t'.natAbs:=by
  rw[Nat.coprime_comm];exact hg
 have d1:(b7 t b).natAbs ∣ b'.natAbs:=c1.dvd_of_dvd_mul_left ⟨t'.natAbs,by rw[n3,Nat.mul_comm]⟩;have d2:b'.natAbs ∣ (b7 t b).natAbs:=c2.dvd_of_dvd_mul_left ⟨(cW t b).natAbs,by rw[<-n3,Nat.mul_comm]⟩;have e4:(b7 t b).natAbs=b'.natAbs:=Nat.dvd_antisymm d1 d2
 have e5:b7 t b=b':=by omega
 refine⟨?_,e5⟩;rw[e5] at e3;exact Int.eq_of_mul_eq_mul_right (by omega) e3
theorem kO {t b:Int}(hp:0<b)(hg:Int.gcd t b=1):cW t b=t/\b7 t b=b:=ik (by omega) hp hg rfl
theorem kD (a b:Int):Int.gcd b (a.fmod b)=Int.gcd a b:=by
 rw[Int.fmod_def,Int.gcd_comm a b]
 first
  |exact Int.gcd_sub_mul_left_right ..
  |simp
theorem ux (a b:Int)(h:b≠0):(a.fmod b).natAbs<b.natAbs:=by
 by_cases hb:0<b
 ·have h1:=Int.fmod_lt_of_pos a hb;have h2:=Int.fmod_nonneg_of_pos a hb;omega
 ·have e:a.fmod b = -((-a).fmod (-b)):=by
   have:=Int.fmod_def a b;rw[Int.neg_fmod_neg];omega
  have h1:=Int.fmod_lt_of_pos (-a) (b:=-b) (by omega);have h2:=Int.fmod_nonneg_of_pos (-a) (b:=-b) (by omega);omega
def ab (b:Int):Int:=if b<0 then -b else b
theorem kj (b:Int):ab b=(b.natAbs:Int):=by unfold ab;split <;> omega
theorem DP (a b:Int):Int.gcd (ab a) (ab b)=Int.gcd a b:=by
 rw[kj,kj];simp[Int.gcd]
def B (n:Nat)(i:Int):Prop:=i.natAbs<2^n
variable {n:Nat}{i:Int}
theorem B.mono {m:Nat}(h:B n i)(hn:n<=m):B m i:=Nat.lt_of_lt_of_le h (Nat.pow_le_pow_right (by decide) hn)
variable {j:Int}
theorem B.mul {m:Nat}(h:B n i)(k:B m j):B (n+m) (i*j):=by
 unfold B at *;rw[Int.natAbs_mul,Nat.pow_add];exact Nat.mul_lt_mul'' h k
theorem B.add (h:B n i)(k:B n j):B (n+1) (i+j):=by
 unfold B at *;rw[Nat.pow_succ];have:=Int.natAbs_add_le i j;omega
theorem B.le (h:B n i)(k:j.natAbs<=i.natAbs):B n j:=Nat.lt_of_le_of_lt k h
theorem kE {x d y:Int}(e:x*d=y)(hd:d≠0):x.natAbs<=y.natAbs:=by
 have:x.natAbs*d.natAbs=y.natAbs:=by rw[<-Int.natAbs_mul,e]
 have h1:1<=d.natAbs:=by omega
 calc x.natAbs=x.natAbs*1:=(Nat.mul_one _).symm
  _<=x.natAbs*d.natAbs:=Nat.mul_le_mul_left _ h1
  _=y.natAbs:=this
theorem oq {t:Int}(h:b≠0):(cW t b).natAbs<=t.natAbs:=kE (pG h) (jA h)
theorem Bp {t:Int}(h:b≠0):(b7 t b).natAbs<=b.natAbs:=kE (iz h) (jA h)
theorem BW {t:Int}(h:b≠0):(dv t b).natAbs<=b.natAbs:=by
 have e:=iz (t:=t) h;have lp:=nY (t:=t) h;exact kE (x:=dv t b) (d:=b7 t b) (by rw[Int.mul_comm];exact e) (by omega)
theorem CJ {t:Int}(h:b≠0):(eC t b).natAbs<=b.natAbs:=by
 have e:=BW (t:=t) h;rw[nh] at e;unfold eC;simpa using e
structure Num (p t b:Int):Prop where
 pos:0<b
 red:Int.gcd t b=1
 pr:p≠0->b=1/\0<=t/\t<p
theorem Num.ofP {p t:Int}(h0:0<=t)(h1:t<p):Num p t 1:=⟨by decide,by simp,λ_=>⟨rfl,h0,h1⟩⟩
theorem Num.low {t:Int}(h:b≠0):Num 0 (cW t b) (b7 t b):=⟨nY h,sR h,λz=>absurd rfl z⟩
def cM (p t b:Int):Int:=if p=0 then cW t b else t%p
def c8 (p t b:Int):Int:=if p=0 then b7 t b else 1
theorem Num.set {p t:Int}(hp:0<=p)(h:b≠0):Num p (cM p t b) (c8 p t b):=by
 unfold cM c8
 by_cases z:p=0
 ·subst z;simp only[if_true];exact Num.low h
 ·simp only[z,if_false];exact Num.ofP (Int.emod_nonneg _ z) (Int.emod_lt_of_pos _ (by omega))
theorem Num.self {p t:Int}(n:Num p t b)(hp:0<=p):cM p t b=t/\c8 p t b=b:=by
 unfold cM c8
 by_cases z:p=0
 ·simp only[z,if_true];exact kO n.pos n.red
 ·simp only[z,if_false];obtain⟨h1,h2,h3⟩:=n.pr z;exact⟨Int.emod_eq_of_lt h2 h3,h1.symm⟩
theorem DT {p t t' b':Int}(h:b≠0)(n:Num p t' b')(hp:0<=p)(e0:p=0->t*b'=t'*b)(e1:p≠0->t%p=t'%p):cM p t b=t'/\c8 p t b=b':=by
 unfold cM c8
 by_cases z:p=0
 ·simp only[z,if_true];exact ik h n.pos n.red (e0 z)
 ·simp only[z,if_false];obtain⟨h1,h2,h3⟩:=n.pr z;exact⟨by rw[e1 z];exact Int.emod_eq_of_lt h2 h3,h1.symm⟩
end Nm
namespace L2
open PySem PySem.Spec PyProof.Rows PySem.W
variable {i:Int}
theorem Bu (h:Nm.B 9000 i):i.natAbs.log2<9000:=by
 by_cases z:i.natAbs=0
 ·rw[z];decide
 ·exact(Nat.log2_lt z).mpr h
theorem yo (h:Nm.B 9000 i):Builtin.Int.intBits i<=2^20:=by
 have l:=Bu h;unfold Builtin.Int.intBits
 split
 ·exact Nat.zero_le _
 ·have:(9000:Nat)<=2^20:=by decide
  omega
section
variable {X:Cx}
theorem d9:eE X (binaryOp .FloorDiv) (rI (λ_ j=>j≠0/\Nm.B 9000 j) λi j=>.int (i.fdiv j)):=CN λ_ _ _ _ _ _ _ hc q=>floordiv_int hc.1 q (.inl (PyProof.noPylong_of_log2 (Bu hc.2)))
theorem bz:eE X (binaryOp .Mult) (rI (λi j=>Nm.B 9000 i/\Nm.B 9000 j) λi j=>.int (i*j)):=CN λ_ _ _ _ _ _ _ hc q=>mul_int q (IntMulOk.of_bits (yo hc.1) (yo hc.2))
end
def Cy:Expr->Option Int
 | .Constant (.int i) _ _=>some i
 |_=>none
theorem Bh {e:Expr}(h:Cy e=some i):∃k p,e = .Constant (.int i) k p:=by
 unfold Cy at h
 split at h
 ·cases h
  exact⟨_,_,rfl⟩
 ·cases h
def uH:List Expr->Option (List Int)
 |[]=>some []
 |e::es=>(Cy e).bind λi=>(uH es).map (i :: ·)
def EB (ns:List Int):TA:=λ_ H Q=>Q (ns.map V.int) H
theorem uB {X:Cx}:∀{es:De}{ns:List Int},uH es=some ns->PA X es (EB ns)
 |[],ns,h=>by
  cases h
  exact af
 |x::es,ns,h=>by
  unfold uH at h;obtain⟨i,hi,h⟩:=Option.bind_eq_some_iff.mp h;obtain⟨ms,e,rfl⟩:=Option.map_eq_some_iff.mp h;obtain⟨k,p,rfl⟩:=Bh hi;exact ao (au (j:=k) (pos:=p)) (uB e)
def En (ns:List Int):TE:=λ_ H Q=>∀p,H p=none->Q (.ref p) (upd H p (.lst (ns.map V.int)))
theorem uD {X:Cx}{es:De}{pos:Pos}{ns:List Int}(h:uH es=some ns)(hl:ns.length<=1000):PE X (.List es pos) (En ns):=by
 intro pins s σ H Q I q;refine cw (uB h) pins s σ H Q I ?_;refine⟨?_,q⟩;rw[List.length_map];exact Nat.le_of_lt (vi hl)
end L2
namespace K73
open PySem L2 PySem.W Nm
abbrev Ek:Stmt:=(aL 20)
abbrev uA:Stmt:=(aL 21)
abbrev pP:Stmt:=(aL 22)
def bA (t b:Int):HO:=.tup [.int t,.int b]
def qi:Sp:=λvs H Q _=>∃a b:Int,vs=[.int a,.int b]/\Q (.int (eC a b)) H
def El:Sp:=λvs H Q _=>∃t b:Int,vs=[.int t,.int b]/\b≠0/\B 9000 b/\∀p,H p=none->Q (.ref p) (upd H p (bA (cW t b) (b7 t b)))
def C6:Sp:=λvs H Q _=>∃m p:Int,vs=[.int m,.int p]/\p∈Hb/\m%p≠0/\∀v,0<=v->v<p->(v*m)%p=1->Q (.int v) H
variable {p:Int}
theorem eY (h:p∈Hb):2<=p/\p<=97:=by
 have:∀q∈Hb,2<=q/\q<=97:=by decide
 exact this p h
theorem uR {r:Int}(h:p∈Hb)(h0:0<r)(h1:r<p):Int.gcd p r=1:=by
 have key:∀q∈Hb,∀k:_root_.Fin 98,0<k.val->((k.val:Nat):Int)<q->Int.gcd q ((k.val:Nat):Int)=1:=by decide +kernel
 have hp:=eY h;have z:=key p h ⟨r.toNat,by omega⟩
 have e:((r.toNat:Nat):Int)=r:=by omega
 simp only[e] at z;exact z (by omega) h1
variable {P:yn}{w:World}{K:PySem.W.Frag}{mg:xf}{base:Heap}
theorem BL:Av DQ DQ (aj Ek):=dk (by decide +kernel)
variable {f:Addr}{fd:zo}
theorem Dc (F:Ao K "common_divisor" "common_divisor" Ek f fd)(mA:mg "abs"=none):Ik P w K mg base (aU P w) 1 f fd DQ qi:=by
 refine F.okN BL (λvs H Q E h=>?_) (λIv A outer s H vs Q E hr h=>?_)
 ·obtain⟨a,b,rfl,_⟩:=h;rfl
 ·obtain⟨a,b,rfl,q⟩:=h
  refine⟨_,ak (lH PassesOwn.never (qx (pv 1) (λ_=>rfl)) (aq (iW (i:=0) (j:=1) rfl BL.nd rfl rfl (by decide) rfl rfl (ao (pv 1) (ao (aC tO (pv 0) (pv 1)) af)) rfl)))
   (aq (az (aD kF (by rfl) mA (by rfl) (ao (pv 0) af)))),?_⟩
  refine⟨λm σ H'=>∃c d:Int,σ=[some (.int c),some (.int d)]/\H'=H/\m=d.natAbs/\Int.gcd c d=Int.gcd a b,⟨_,a,b,rfl,rfl,rfl,rfl⟩,?_⟩;rintro m σ H' ⟨c,d,rfl,rfl,rfl,hg⟩;refine⟨_,rfl,_,rfl,?_⟩;refine dH (λh=>?_) (λh=>?_)
  ·have hd:d≠0:=by simpa using h
   refine⟨λσ' IV=>∃c' d':Int,σ'=[some (.int c'),some (.int d')]/\IV=H'/\d'.natAbs<d.natAbs/\Int.gcd c' d'=Int.gcd a b,λσ' IV ⟨c',d',e1,e2,e3,e4⟩=>⟨_,e3,c',d',e1,e2,rfl,e4⟩,?_⟩;refine⟨_,rfl,_,rfl,_,rfl,_,_,rfl,rfl,hd,_,_,rfl,d,c.fmod d,rfl,rfl,ux c d hd,?_⟩;rw[kD,hg]
  ·have hd:d=0:=by simpa using h
   subst hd;refine⟨_,rfl,c,rfl,?_⟩
   have e:(if c<0 then -c else c)=eC a b:=by
    unfold eC;rw[<-hg];have:=kj c;unfold ab at this;rw[this];simp
   rw[e];exact q
theorem lO:Av ["top","bottom","divisor"] DC (aj uA):=dk (by decide +kernel)
theorem v9 {fg:Addr}{IY:zo}(F:Ao K "lowest" "lowest" uA f fd)(FG:Ik P w K mg base (aU P w) 1 fg IY DQ qi)(bG:L2.ay K IY DQ [])(mG:mg "common_divisor"=some (.ref fg))(kG:keepIn K (.ref fg)=true):
 Ik P w K mg base (aU P w) 2 f fd DC El:=by
 refine F.okN lO (λvs H Q E h=>?_) (λIv A outer s H vs Q E hr h=>?_)
 ·obtain⟨a,b,rfl,_⟩:=h;rfl
 ·obtain⟨t,b,rfl,hb,hB,q⟩:=h
  refine⟨_,ak (a9 (aK dZ (pv 1) au (aI _)) (aq (az (bD (ao (pv 0) (ao au af))))) aF)
   (ak (aV (i:=2) lO.nd rfl (Or.inl rfl) (aB FG hr (by rfl) mG kG bG .nil ae (ao (pv 0) (ao (pv 1) af))))
   (ak (a9 (aK jC (pv 1) au (aI _)) (aq (aV (i:=2) lO.nd rfl (Or.inl rfl) (mz i8 (pv 2)))) aF)
   (aq (az (bD (ao (aC d9 (pv 0) (pv 2)) (ao (aC d9 (pv 1) (pv 2)) af))))))),?_⟩
  refine⟨_,rfl,rfl,_,rfl,?_⟩;refine dH (λh=>?_) (λh=>?_)
  ·have e:b=1:=by simpa using h
   subst e;have z:=kO (t:=t) (b:=1) (by decide) (by simp);refine⟨_,rfl,iT,λp hp=>?_⟩;have y:=q p hp;rw[z.1,z.2] at y;exact y
  ·refine⟨_,rfl,_,rfl,t,b,rfl,?_⟩;refine⟨_,rfl,_,_,rfl,rfl,_,rfl,?_⟩;have gp:=iI (t:=t) hb
   have fin:∀d:Int,d=dv t b->D6 (dn (oI (rI (λ_ j=>j≠0/\Nm.B 9000 j) λi j=>V.int (i.fdiv j)) (eP 0) (eP 2)) (dn (oI (rI (λ_ j=>j≠0/\Nm.B 9000 j) λi j=>V.int (i.fdiv j)) (eP 1) (eP 2)) An)) [some (.int t),some (.int b),some (.int d)] H Q:=by
    intro d hd
    have Sy:d≠0:=by rw[hd];exact jA hb
    have Xp:B 9000 d:=by rw[hd];exact hB.le (BW hb)
    refine⟨_,rfl,_,rfl,_,_,rfl,rfl,⟨Sy,Xp⟩,_,rfl,_,rfl,_,_,rfl,rfl,⟨Sy,Xp⟩,iT,λp hp=>?_⟩;have y:=q p hp;unfold cW b7 at y;rw[<-hd] at y;exact y
   refine dH (λh2=>?_) (λh2=>?_)
   ·have e:b<0:=by simpa using h2
    exact⟨_,rfl,_,rfl,fin _ (by unfold dv;rw[if_pos e])⟩
   ·have e:¬b<0:=by simpa using h2
    exact fin _ (by unfold dv;rw[if_neg e])
structure Eu (m p r s l ls:Int):Prop where
 r0:0<r
 rl:r<l
 lp:l<=p
 g:Int.gcd l r=1
 e1:∃k,s*m-r=p*k
 e2:∃k,ls*m-l=p*k
theorem Eu.step {m r s l ls:Int}(h:Eu m p r s l ls)(h1:r≠1):Eu m p (l-l.fdiv r*r) (ls-l.fdiv r*s) r s/\(l-l.fdiv r*r).toNat<r.toNat:=by
 obtain⟨r0,rl,lp,g,⟨k1,e1⟩,⟨k2,e2⟩⟩:=h
 have em:l-l.fdiv r*r=l.fmod r:=by rw[Int.fmod_def,Int.mul_comm]
 have a:=Int.fmod_lt_of_pos l r0;have b:=Int.fmod_nonneg_of_pos l r0
 have gg:Int.gcd r (l.fmod r)=1:=by rw[kD,g]
 have nz:l.fmod r≠0:=by
  intro z;rw[z] at gg;simp at gg;omega
 rw[em];refine⟨⟨by omega,a,by omega,gg,⟨k2-l.fdiv r*k1,?_⟩,⟨k1,e1⟩⟩,by omega⟩;rw[<-em];generalize l.fdiv r=q
 have:(ls-q*s)*m-(l-q*r)=(ls*m-l)-q*(s*m-r):=by
  rw[Int.sub_mul,Int.mul_sub,Int.mul_assoc];omega
 rw[this,e1,e2,Int.mul_sub,Int.mul_left_comm]
theorem Eu.fin {m s l ls:Int}(h:Eu m p 1 s l ls)(hp:2<=p):0<=s%p/\s%p<p/\(s%p*m)%p=1:=by
 obtain⟨_,_,_,_,⟨k1,e1⟩,_⟩:=h;refine⟨Int.emod_nonneg _ (by omega),Int.emod_lt_of_pos _ (by omega),?_⟩
 have e:s*m=p*k1+1:=by omega
 rw[Int.mul_emod,Int.emod_emod,<-Int.mul_emod,e,Int.mul_add_emod_self_left];exact Int.emod_eq_of_lt (by omega) (by omega)
abbrev NI:List Str:=["number","prime","rest","share","last","last_share","many"]
theorem dY:Av NI qZ (aj pP):=dk (by decide +kernel)
theorem rD (F:Ao K "inverse" "inverse" pP f fd):Ik P w K mg base (aU P w) 1 f fd qZ C6:=by
 refine F.okN dY (λvs H Q E h=>?_) (λIv A outer s H vs Q E hr h=>?_)
 ·obtain⟨a,b,rfl,_⟩:=h;rfl
 ·obtain⟨m,p,rfl,hp,hm,q⟩:=h;have NB:=eY hp
  refine⟨_,ak (iW (i:=2) (j:=3) rfl dY.nd rfl rfl (by decide) rfl rfl (ao (aC cO (pv 0) (pv 1)) (ao au af)) rfl)
   (ak (iW (i:=4) (j:=5) rfl dY.nd rfl rfl (by decide) rfl rfl (ao (pv 1) (ao au af)) rfl)
   (ak (lH PassesOwn.never (aK fW (pv 2) au (aI _))
    (ak (aV (i:=6) dY.nd rfl (Or.inl rfl) (aC d9 (pv 4) (pv 2)))
    (ak (iW (i:=4) (j:=2) rfl dY.nd rfl rfl (by decide) rfl rfl (ao (pv 2) (ao (aC j7 (pv 4) (aC fP (pv 6) (pv 2))) af)) rfl)
    (aq (iW (i:=5) (j:=3) rfl dY.nd rfl rfl (by decide) rfl rfl (ao (pv 3) (ao (aC j7 (pv 5) (aC fP (pv 6) (pv 3))) af)) rfl)))))
   (aq (az (aC cO (pv 3) (pv 1)))))),?_⟩
  refine⟨_,rfl,_,rfl,_,_,rfl,rfl,(by show(0:Int)<p;omega),_,_,rfl,?_⟩;refine⟨_,rfl,_,_,rfl,?_⟩;have r0:0<=m%p:=Int.emod_nonneg _ (by omega);have r1:m%p<p:=Int.emod_lt_of_pos _ (by omega)
  have E0:Eu m p (m%p) 1 p 0:=by
   refine⟨by omega,r1,Int.le_refl _,uR hp (by omega) r1,⟨m/p,?_⟩,⟨-1,by omega⟩⟩;have:=Int.emod_add_mul_ediv m p;omega
  refine⟨λn σ H'=>∃(r s l ls:Int)(o:Option V),σ=[some (.int m),some (.int p),some (.int r),some (.int s),some (.int l),some (.int ls),o]/\H'=H/\n=r.toNat/\Eu m p r s l ls,⟨_,_,_,_,_,_,rfl,rfl,rfl,E0⟩,?_⟩;rintro n σ H' ⟨r,s,l,ls,o,rfl,rfl,rfl,E⟩;refine⟨_,rfl,rfl,_,rfl,?_⟩;refine dH (λh=>?_) (λh=>?_)
  ·have IH:r≠1:=by simpa using h
   obtain⟨E',lt⟩:=E.step IH;have e0:=E.r0;have e1:=E.rl;have e2:=E.lp;have q0:0<=l.fdiv r:=Int.fdiv_nonneg (by omega) (by omega)
   have q1:l.fdiv r<=l:=by
    rw[Int.fdiv_eq_ediv_of_nonneg _ (by omega)];exact Int.ediv_le_self _ (by omega)
   refine⟨λσ' IV=>∃(r' s' l' Sz:Int)(o:Option V),σ'=[some (.int m),some (.int p),some (.int r'),some (.int s'),some (.int l'),some (.int Sz),o]/\IV=H'/\r'.toNat<r.toNat/\Eu m p r' s' l' Sz,λσ' IV ⟨r',s',l',Sz,o',z1,z2,z3,z4⟩=>⟨_,z3,r',s',l',Sz,o',z1,z2,rfl,z4⟩,?_⟩;refine⟨_,rfl,_,rfl,_,_,rfl,rfl,⟨by omega,?_⟩,?_⟩
   ·have:r.natAbs<2^7:=by omega
    exact(show B 7 r from this).mono (by decide)
   ·refine⟨_,rfl,_,rfl,_,rfl,_,rfl,_,_,rfl,rfl,.inl ⟨by omega,by omega⟩,_,_,rfl,rfl,_,_,rfl,?_⟩;refine⟨_,rfl,_,rfl,_,rfl,_,rfl,_,_,rfl,rfl,.inl ⟨by omega,by omega⟩,_,_,rfl,rfl,_,_,rfl,?_⟩;exact⟨_,_,_,_,_,rfl,rfl,lt,E'⟩
  ·have IH:r=1:=by simpa using h
   subst IH;obtain⟨f0,f1,f2⟩:=E.fin NB.1;exact⟨_,rfl,_,rfl,_,_,rfl,rfl,(by show(0:Int)<p;omega),q _ f0 f1 f2⟩
abbrev xm:Stmt:=(aL 13)
abbrev yN:Stmt:=aJ (aL 23) 0
inductive Th (H:Hp):V->String->Prop where
 |non:Th H .non "NoneType"
 |bl (b:Bool):Th H (.bl b) "bool"
 |int (i:Int):Th H (.int i) "int"
 |str (x:Str):Th H (.str x) "str"
 |lst {a:Addr}{xs:List V}(e:H a=some (.lst xs)):Th H (.ref a) "list"
 |tup {a:Addr}{xs:List V}(e:H a=some (.tup xs)):Th H (.ref a) "tuple"
 |dK {a:Addr}{Ir:List (Key×V)}(e:H a=some (.dK Ir)):Th H (.ref a) "dict"
variable {K:Frag}{H:Hp}{x:V}
theorem Th.ty {T:String}(h:Th H x T):qF K H x (.type T):=by
 cases h with
 |non=>exact .of .non
 |bl b=>exact .of (.bl b)
 |int i=>exact .of (.int i)
 |str x=>exact .of (.str x)
 |lst e=>exact .of (.lst e)
 |tup e=>exact .of (.tup e)
 |dK e=>exact .of (.dK e)
def dz:V->Bool
 | .int _=>true
 |_=>false
def EN:V->Bool
 | .int _=>true
 | .bl _=>true
 |_=>false
theorem Th.isInt {T:String}(h:Th H x T):kitOne K (.type T) (.type "int")=some (EN x):=by cases h <;> rfl
theorem Th.isBool {T:String}(h:Th H x T)(hi:EN x=true):kitOne K (.type T) (.type "bool")=some (!dz x):=by
 cases h with
 |int i=>rfl
 |bl b=>rfl
 |_=>cases hi
def Bk:Sp:=λvs H Q _=>∃x T,vs=[x]/\Th H x T/\Q (.bl (dz x)) H
structure GP (mg:xf):Prop where
 isi:mg "isinstance"=none
 int:mg "int"=none
 bool:mg "bool"=none
theorem zH:Av wg wg (aj xm):=dk (by decide +kernel)
theorem xJ (F:Ao K "is_whole" "is_whole" xm f fd)(n:GP mg):Ik P w K mg base (aU P w) 1 f fd wg Bk:=by
 refine F.okN zH (λvs H Q E h=>?_) (λIv A outer s H vs Q E hr h=>?_)
 ·obtain⟨x,T,rfl,_⟩:=h;rfl
 ·obtain⟨x,T,rfl,th,q⟩:=h
  refine⟨_,aq (az (dC (aD aQ (by rfl) n.isi (by rfl) (bf (pv 0) (bf (c6 (by rfl) n.int (by rfl) (show aG (.ty "int") (.type "int") from rfl)) af)))
   (eV (yT (aD aQ (by rfl) n.isi (by rfl) (bf (pv 0) (bf (c6 (by rfl) n.bool (by rfl) (show aG (.ty "bool") (.type "bool") from rfl)) af))))))),?_⟩
  refine⟨_,rfl,x,.ty "int",_,_,_,rfl,rfl,th.ty,th.isInt,_,rfl,?_⟩;refine dH (λhi=>?_) (λhi=>?_)
  ·refine⟨_,rfl,x,.ty "bool",_,_,_,rfl,rfl,th.ty,th.isBool hi,_,rfl,?_⟩;simpa using q
  ·have e:dz x=false:=by
    cases th <;> first|rfl|exact absurd rfl hi
   rw[e] at q;exact q
def jG (i:Int):Bool:=i==0 || Hb.any λp=>p==i
def good:V->Bool
 | .int i=>jG i
 |_=>false
def cE (i:Int):List (Str×V):=[("its_prime",.int i)]
def nV (C NF:Addr):Sp:=λvs H Q E=>∃(p dx:Addr)(x:V)(T:String),vs=[.ref p,x]/\Th H x T/\H p=some (.ins C dx [])/\(good x=true->Q .non (upd H p (.ins C dx [("its_prime",x)])))/\(good x=false->E (.ref NF) none H)
structure vR (K:Frag)(mg:xf)(C:Addr):Prop where
 cl:Ig K C
 nP:da K C "its_prime"
 mgC:mg "Field"=some (.ref C)
 isC:((clsIn K C).isSome&&typeIn K (.ref C)==some (.type "type"))=true
 ca:findIn K (.ref C) "__class__"=some (some (.builtin "object.__class__"))
 sp:specialIn K (.builtin "object.__class__") "__get__"=some (some (.builtin "getset_descriptor.__get__"))
 tk:takesIn K (.builtin "object.__class__")=some true
 ob:mroIn K C (.type "object")=some true
variable {mg:xf}{C:Addr}
theorem vR.ty (c:vR K mg C){p dx:Addr}{fs:List (Str×V)}(e:H p=some (.ins C dx fs)):qF K H (.ref p) (.ref C):=.of (.ins e c.cl c.ca c.sp c.tk c.ob)
theorem vR.is (c:vR K mg C):kitOne K (.ref C) (.ref C)=some true:=by
 unfold kitOne;rw[if_pos (by simp)]
theorem vR.no (c:vR K mg C){T:String}(h:Th H x T):kitOne K (.type T) (.ref C)=some false:=by
 show(if(Value.type T==Value.ref C)=true then some true else(if((clsIn K C).isSome&&typeIn K (.ref C)==some (.type "type"))=true then subIn K (.type T) (.ref C) else none))=some false;rw[if_neg (by intro z;cases beq_iff_eq.mp z),if_pos c.isC]
 cases h <;> rfl
theorem ke (i:Int):DX (.int i) (Hb.map V.int)=Hb.any λp=>p==i:=by
 unfold DX;rw[List.any_map];rfl
theorem CQ:Av Ij Ij (aj yN):=dk (by decide +kernel)
variable {tF:Tok}
theorem A3 {fw NF aP T:Addr}{Je:zo}(F:EX K "__init__" "Field.__init__" yN f fd T)(c:vR K mg C)(FW:Ik P w K mg base (aU P w) 1 fw Je wg Bk)(bW:ay K Je wg [])(mW:mg "is_whole"=some (.ref fw))(kW:keepIn K (.ref fw)=true)
 (mF:mg "FRACTIONS"=some (.int 0 tF))(mP:mg "PRIMES"=some (.ref aP))(hP:∀H:Hp,br K H aP (Hb.map V.int))(mN:mg "NoField"=some (.ref NF))(qN:jL K NF zz md=true):Ik P w K mg base (aU P w) 2 f fd Ij (nV C NF):=by
 refine F.okE CQ (λvs H Q E h=>?_) (λIv A outer s H vs Q E hr h=>?_)
 ·obtain⟨p,dx,x,T,rfl,_⟩:=h;rfl
 ·obtain⟨p,dx,x,T,rfl,th,hp,hq,hE⟩:=h
  refine⟨_,ak (a9 (PW.pt (d0 (bJ (bF (aB FW hr (by rfl) mW kW bW .nil ae (bf (pv 1) af))))
   (dw (PW.pt (n4 (aK fW (pv 1) (bX (by rfl) mF (show aG (.int 0) (.int 0 tF) from⟨_,rfl⟩)) (aI _)) (jS (aK n9 (pv 1) (bX (by rfl) mP (show aG (.ref aP) (.ref aP) from rfl)) (by rfl))))))))
   (aq (eh PySem.F.excBase_ValueError qN rfl c9 (by rfl) mN (bf fN af))) aF)
   (aq (gF (pv 0) (pv 1) rfl)),?_⟩
  have fin:good x=true->∃(a C' Xq:Addr)(fs:List (Str×V)),V.ref p=.ref a/\H a=some (.ins C' Xq fs)/\Ig K C'/\da K C' "its_prime"/\fs.length<1000/\Q .non (upd H a (.ins C' Xq (cG "its_prime" x fs))):=λg=>⟨p,C,dx,[],rfl,hp,c.cl,c.nP,by decide,hq g⟩;refine⟨_,rfl,x,T,rfl,th,_,rfl,?_⟩
  cases th with
  |int i =>
   refine bw ?_;refine⟨_,rfl,rfl,_,rfl,?_⟩;refine dH (λh0=>?_) (λh0=>?_)
   ·refine⟨_,rfl,aP,_,rfl,.inr (hP _),rfl,rfl,_,rfl,?_⟩;refine dH (λh1=>?_) (λh1=>?_)
    ·refine⟨by decide,hE ?_⟩
     have e1:¬i=0:=by simpa using h0
     have e2:DX (.int i) (Hb.map V.int)=false:=by simpa using h1
     rw[ke] at e2;show jG i=false;unfold jG;rw[e2];simpa using e1
    ·have e2:DX (.int i) (Hb.map V.int)=true:=by simpa using h1
     rw[ke] at e2;exact⟨_,rfl,_,rfl,fin (by show jG i=true;unfold jG;rw[e2];simp)⟩
   ·have e1:i=0:=by simpa using h0
    exact bw ⟨_,rfl,_,rfl,fin (by show jG i=true;rw[e1];rfl)⟩
  |_=>exact b0 (b0 ⟨by decide,hE rfl⟩)
abbrev BG:Stmt:=aJ (aL 23) 5
abbrev BH:Stmt:=aJ (aL 23) 6
abbrev wI:Stmt:=aJ (aL 23) 8
abbrev pM:Stmt:=aJ (aL 23) 10
def FP (p:Int):Prop:=p=0\/p∈Hb
theorem FP.nn (h:FP p):0<=p:=by
 rcases h with h|h
 ·omega
 ·have:=eY h;omega
theorem FP.two (h:FP p)(z:p≠0):p∈Hb/\2<=p/\p<=97:=by
 rcases h with h|h
 ·exact absurd h z
 ·exact⟨h,eY h⟩
def oO (C NN:Addr):Sp:=λvs H Q E=>∃(s dx:Addr)(p t b:Int),vs=[.ref s,.int t,.int b]/\H s=some (.ins C dx (cE p))/\FP p/\B 9000 b /\
 (p=0->b=0->E (.ref NN) none H)/\(p=0->b≠0->∀a,H a=none->Q (.ref a) (upd H a (bA (cW t b) (b7 t b)))) /\
 (p≠0->b%p=0->E (.ref NN) none H)/\(p≠0->b%p≠0->∀v,0<=v->v<p->(v*b)%p=1->∀a,H a=none->Q (.ref a) (upd H a (bA (t*v%p) 1)))
def jj (C:Addr):Sp:=λvs H Q _=>∃(s dx:Addr)(p t b:Int),vs=[.ref s,.int t,.int b]/\H s=some (.ins C dx (cE p))/\FP p/\B 9000 b/\b≠0/\∀a,H a=none->Q (.ref a) (upd H a (bA (cM p t b) (c8 p t b)))
def pX (C:Addr)(g:Int->Int->Int->Int->Int):Sp:=λvs H Q _=>∃(s dx a1 a2:Addr)(p t1 b1 t2 b2:Int),vs=[.ref s,.ref a1,.ref a2]/\H s=some (.ins C dx (cE p))/\FP p/\H a1=some (bA t1 b1)/\H a2=some (bA t2 b2) /\
 B 4000 t1/\B 4000 b1/\B 4000 t2/\B 4000 b2/\b1≠0/\b2≠0/\∀a,H a=none->Q (.ref a) (upd H a (bA (cM p (g t1 b1 t2 b2) (b1*b2)) (c8 p (g t1 b1 t2 b2) (b1*b2))))
def iC (t1 b1 t2 b2:Int):Int:=t1*b2+t2*b1
def gB (t1 b1 t2 b2:Int):Int:=t1*t2
theorem Cc:Av Cs Cs (aj BG):=dk (by decide +kernel)
theorem Ak {NN fl fv:Addr}{JO Xr:zo}(F:Ao K "quotient" "Field.quotient" BG f fd)(c:vR K mg C)(mF:mg "FRACTIONS"=some (.int 0 tF))(mN:mg "NoNumber"=some (.ref NN))(qN:jL K NN zz md=true)
 (FL:Ik P w K mg base (aU P w) 2 fl JO DC El)(bL:L2.ay K JO DC [])(mL:mg "lowest"=some (.ref fl))(kL:keepIn K (.ref fl)=true)
 (FV:Ik P w K mg base (aU P w) 1 fv Xr qZ C6)(bV:L2.ay K Xr qZ [])(mV:mg "inverse"=some (.ref fv))(kV:keepIn K (.ref fv)=true):
 Ik P w K mg base (aU P w) 3 f fd Cs (oO C NN):=by
 refine F.okE Cc (λvs H Q E h=>?_) (λIv A outer s H vs Q E hr h=>?_)
 ·obtain⟨s,dx,p,t,b,rfl,_⟩:=h;rfl
 ·obtain⟨s,dx,p,t,b,rfl,hs,hp,hB,q1,q2,q3,q4⟩:=h;have IH:p8 1 _:=hr.mono (by decide)
  refine⟨_,ak (a9 (aK dZ (bO (pv 0) rfl) (bX (by rfl) mF (show aG (.int 0) (.int 0 tF) from⟨_,rfl⟩)) (aI _))
   (ak (a9 (aK dZ (pv 2) au (aI _)) (aq (eh PySem.F.excBase_ValueError qN rfl c9 (by rfl) mN (ao fN af))) aF)
   (aq (az (aB FL hr (by rfl) mL kL bL .nil ae (ao (pv 1) (ao (pv 2) af)))))) aF)
   (ak (a9 (aK dZ (aC cO (pv 2) (bO (pv 0) rfl)) au (aI _)) (aq (eh PySem.F.excBase_ValueError qN rfl c9 (by rfl) mN (ao fN af))) aF)
   (aq (az (bD (ao (aC cO (aC fP (pv 1) (aB FV IH (by rfl) mV kV bV .nil ae (ao (pv 2) (ao (bO (pv 0) rfl) af)))) (bO (pv 0) rfl)) (ao au af)))))),?_⟩
  refine⟨_,rfl,s,C,dx,_,_,rfl,hs,c.cl,c.nP,rfl,rfl,_,rfl,?_⟩;refine dH (λh=>?_) (λh=>?_)
  ·have Jh:p=0:=by simpa using h
   refine⟨_,rfl,rfl,_,rfl,?_⟩;refine dH (λh2=>?_) (λh2=>?_)
   ·have hb:b=0:=by simpa using h2
    exact⟨by decide,q1 Jh hb⟩
   ·have hb:b≠0:=by simpa using h2
    exact⟨_,rfl,_,rfl,t,b,rfl,hb,hB,q2 Jh hb⟩
  ·have Jh:p≠0:=by simpa using h
   obtain⟨ND,p2,SA⟩:=hp.two Jh;refine⟨_,rfl,_,rfl,s,C,dx,_,_,rfl,hs,c.cl,c.nP,rfl,_,_,rfl,rfl,(by show(0:Int)<p;omega),rfl,_,rfl,?_⟩;refine dH (λh2=>?_) (λh2=>?_)
   ·have hb:b%p=0:=by simpa using h2
    exact⟨by decide,q3 Jh hb⟩
   ·have hb:b%p≠0:=by simpa using h2
    refine⟨_,rfl,_,rfl,_,rfl,s,C,dx,_,_,rfl,hs,c.cl,c.nP,rfl,b,p,rfl,ND,hb,λv v0 v1 v2=>?_⟩;refine⟨_,_,rfl,rfl,.inr ⟨by omega,by omega⟩,_,rfl,s,C,dx,_,_,rfl,hs,c.cl,c.nP,rfl,_,_,rfl,rfl,(by show(0:Int)<p;omega),iT,λa ha=>q4 Jh hb v v0 v1 v2 a ha⟩
theorem vw:Av Cs Cs (aj pM):=dk (by decide +kernel)
theorem rY {fl:Addr}{JO:zo}(F:Ao K "settled" "Field.settled" pM f fd)(c:vR K mg C)(mF:mg "FRACTIONS"=some (.int 0 tF))
 (FL:Ik P w K mg base (aU P w) 2 fl JO DC El)(bL:L2.ay K JO DC [])(mL:mg "lowest"=some (.ref fl))(kL:keepIn K (.ref fl)=true):
 Ik P w K mg base (aU P w) 3 f fd Cs (jj C):=by
 refine F.okN vw (λvs H Q E h=>?_) (λIv A outer s H vs Q E hr h=>?_)
 ·obtain⟨s,dx,p,t,b,rfl,_⟩:=h;rfl
 ·obtain⟨s,dx,p,t,b,rfl,hs,hp,hB,hb,q⟩:=h
  refine⟨_,ak (a9 (aK dZ (bO (pv 0) rfl) (bX (by rfl) mF (show aG (.int 0) (.int 0 tF) from⟨_,rfl⟩)) (aI _))
   (aq (az (aB FL hr (by rfl) mL kL bL .nil ae (ao (pv 1) (ao (pv 2) af))))) aF)
   (aq (az (bD (ao (aC cO (pv 1) (bO (pv 0) rfl)) (ao au af))))),?_⟩
  refine⟨_,rfl,s,C,dx,_,_,rfl,hs,c.cl,c.nP,rfl,rfl,_,rfl,?_⟩;refine dH (λh=>?_) (λh=>?_)
  ·have Jh:p=0:=by simpa using h
   refine⟨_,rfl,_,rfl,t,b,rfl,hb,hB,λa ha=>?_⟩;have y:=q a ha;unfold cM c8 at y;rw[if_pos Jh,if_pos Jh] at y;exact y
  ·have Jh:p≠0:=by simpa using h
   obtain⟨ND,p2,SA⟩:=hp.two Jh;refine⟨_,rfl,_,rfl,s,C,dx,_,_,rfl,hs,c.cl,c.nP,rfl,_,_,rfl,rfl,(by show(0:Int)<p;omega),iT,λa ha=>?_⟩;have y:=q a ha;unfold cM c8 at y;rw[if_neg Jh,if_neg Jh] at y;exact y
theorem a0 (x y:V):sr [x,y] 0=some x:=rfl
theorem a1 (x y:V):sr [x,y] 1=some y:=rfl
theorem Ci:Av zh zh (aj BH):=dk (by decide +kernel)
theorem oN {a b:Int}(h:a≠0)(k:b≠0):a*b≠0:=Int.mul_ne_zero h k
theorem zM {fs:Addr}{Kk:zo}(F:Ao K "plus" "Field.plus" BH f fd)(c:vR K mg C)(FS:Ik P w K mg base (aU P w) 3 fs Kk Cs (jj C))(bS:L2.ay K Kk Cs [])(mS:L2.Meth K C "settled" fs):
 Ik P w K mg base (aU P w) 4 f fd zh (pX C iC):=by
 refine F.okN Ci (λvs H Q E h=>?_) (λIv A outer s H vs Q E hr h=>?_)
 ·obtain⟨s,dx,a1,a2,p,t1,b1,t2,b2,rfl,_⟩:=h;rfl
 ·obtain⟨s,dx,x1,x2,p,t1,b1,t2,b2,rfl,hs,hp,h1,h2,B1,B2,B3,B4,n1,n2,q⟩:=h;refine⟨_,aq (az (bY (pv 0) c.cl mS FS hr bS .nil ae (ao (aC dG (aC bz (bg aZ (pv 1) au (λ_ _=>rfl)) (bg aZ (pv 2) au (λ_ _=>rfl))) (aC bz (bg aZ (pv 2) au (λ_ _=>rfl)) (bg aZ (pv 1) au (λ_ _=>rfl)))) (ao (aC bz (bg aZ (pv 1) au (λ_ _=>rfl)) (bg aZ (pv 2) au (λ_ _=>rfl))) af)))),?_⟩;refine⟨_,rfl,s,dx,_,rfl,hs,rfl,?_⟩;refine⟨_,rfl,x1,_,0,_,rfl,rfl,br.of h1,a0 _ _,_,rfl,x2,_,1,_,rfl,rfl,br.of h2,a1 _ _,_,_,rfl,rfl,⟨B1.mono (by decide),B4.mono (by decide)⟩,?_⟩;refine⟨_,rfl,x2,_,0,_,rfl,rfl,br.of h2,a0 _ _,_,rfl,x1,_,1,_,rfl,rfl,br.of h1,a1 _ _,_,_,rfl,rfl,⟨B3.mono (by decide),B2.mono (by decide)⟩,_,_,rfl,rfl,?_⟩;refine⟨_,rfl,x1,_,1,_,rfl,rfl,br.of h1,a1 _ _,_,rfl,x2,_,1,_,rfl,rfl,br.of h2,a1 _ _,_,_,rfl,rfl,⟨B2.mono (by decide),B4.mono (by decide)⟩,?_⟩;exact⟨s,dx,p,_,_,rfl,hs,hp,(B2.mul B4).mono (by decide),oN n1 n2,q⟩
abbrev BS:Stmt:=(aL 58)
abbrev BD:Stmt:=(aL 59)
theorem ar {a:Addr}{o:HO}(h:H a=none):aA H (upd H a o):=λb u e=>by rw[av (ax e h)];exact e
def wy (K:PySem.W.Frag):Sp:=λvs H Q _=>∃(a:Addr)(ns:List Int)(k:Int),vs=[.ref a,.int k]/\bo K H a (ns.map V.int)/\ns.length<=63/\0<=k/\k<=63 /\
 ∀(p:Addr)(l r:Int),H p=none->0<=r->r<2147483647->Q (.ref p) (upd H p (.lst [.int l,.int r]))
def GU:Sp:=λvs H Q _=>∃(p:Addr)(l r m:Int),vs=[.ref p,.int m]/\H p=some (.lst [.int l,.int r])/\0<=r/\r<2147483647/\0<m/\m<18446744073709551616 /\
 ∀(z l' r':Int),0<=z->z<m->0<=r'->r'<2147483647->Q (.int z) (upd H p (.lst [.int l',.int r']))
theorem kI:Av ["_law_script","_law_k","_law_cell","_law_seed"] CR (aj BS):=dk (by decide +kernel)
theorem wR:Av ["_law_pool_here","_law_many","_law_found"] u7 (aj BD):=dk (by decide +kernel)
theorem p5 {Q:VK}{k c:Int}{x y:Option V}(Oi:0<=k)(T8:k<=63)(q:∀(p:Addr)(l r:Int),H p=none->0<=r->r<2147483647->Q (.ref p) (upd H p (.lst [.int l,.int r]))):
 Di (rp (oI (rI (λ_ j=>0<j) λi j=>.int (i%j)) (oI (rI se λi j=>.int (i*j)) (oI (vh λi j=>.int (i+j)) (oI (vh λi j=>.int (i+j)) (oI (rI (λ_ j=>0<j) λi j=>.int (i%j)) (eP 2) (tC (.int 2147483629))) (oI (rI se λi j=>.int (i*j)) (oI (rI se λi j=>.int (i*j)) (tC (.int 7919)) (eP 1)) (eP 1))) (tC (.int 11))) (tC (.int 48271))) (tC (.int 2147483647))) (cb 3))
  (Di (Ee (yd (oI (vh λi j=>.bl (decide (i<j))) (eP 2) (oI (rI Ed λi j=>.int (i^j.toNat)) (tC (.int 10)) (tC (.int 18))))) (rp (tC (.int 0)) (cb 2)) yJ)
  (Eg (C3 (dn (eP 2) (dn (oI (vh λi j=>.int (i+j)) (oI (rI (λ_ j=>0<j) λi j=>.int (i%j)) (oI (rI se λi j=>.int (i*j)) (eP 3) (eP 3)) (tC (.int 2147483587))) (tC (.int 1))) An)))))
  {nx:=λ_ H'=>Q .non H',rt:=Q} [x,some (.int k),some (.int c),y] H:=by
 have e1:∀t:Int,0<=t%2147483647/\t%2147483647<2147483647:=λt=>⟨Int.emod_nonneg _ (by decide),Int.emod_lt_of_pos _ (by decide)⟩;have e2:∀t:Int,0<=t%2147483587/\t%2147483587<2147483587:=λt=>⟨Int.emod_nonneg _ (by decide),Int.emod_lt_of_pos _ (by decide)⟩;refine⟨_,rfl,_,_,rfl,rfl,(by show(0:Int)<2147483629;decide),_,rfl,_,_,rfl,rfl,.inl ⟨by decide,by decide⟩,_,rfl,_,_,rfl,rfl,.inl ⟨by omega,by omega⟩,_,_,rfl,rfl,_,_,rfl,rfl,_,_,rfl,rfl,.inr ⟨by decide,by decide⟩,_,_,rfl,rfl,(by show(0:Int)<2147483647;decide),?_⟩;refine⟨_,rfl,_,_,rfl,rfl,⟨by decide,by decide,by decide⟩,_,_,rfl,rfl,_,rfl,?_⟩;refine dH (λh=>?_) (λh=>?_)
 ·refine⟨_,rfl,_,rfl,_,rfl,_,_,rfl,rfl,.inl ⟨by have:=e1 ((c%2147483629+7919*k*k+11)*48271);omega,by have:=e1 ((c%2147483629+7919*k*k+11)*48271);omega⟩,_,_,rfl,rfl,(by show(0:Int)<2147483587;decide),_,_,rfl,rfl,iT,λp hp=>?_⟩;exact q p _ _ hp (by have:=e2 (((c%2147483629+7919*k*k+11)*48271%2147483647)*((c%2147483629+7919*k*k+11)*48271%2147483647));omega) (by have:=e2 (((c%2147483629+7919*k*k+11)*48271%2147483647)*((c%2147483629+7919*k*k+11)*48271%2147483647));omega)
 ·refine⟨_,rfl,_,rfl,_,rfl,_,_,rfl,rfl,.inl ⟨by have:=e1 ((c%2147483629+7919*k*k+11)*48271);omega,by have:=e1 ((c%2147483629+7919*k*k+11)*48271);omega⟩,_,_,rfl,rfl,(by show(0:Int)<2147483587;decide),_,_,rfl,rfl,iT,λp hp=>?_⟩;exact q p _ _ hp (by have:=e2 (((c%2147483629+7919*k*k+11)*48271%2147483647)*((c%2147483629+7919*k*k+11)*48271%2147483647));omega) (by have:=e2 (((c%2147483629+7919*k*k+11)*48271%2147483647)*((c%2147483629+7919*k*k+11)*48271%2147483647));omega)
theorem A2 (F:Ao K "_law_pool" "_law_pool" BS f fd)(Iz:mg "len"=none):Ik P w K mg base (aU P w) 1 f fd CR (wy K):=by
 refine F.okN kI (λvs H Q E h=>?_) (λIv A outer s H vs Q E hr h=>?_)
 ·obtain⟨a,ns,k,rfl,_⟩:=h;rfl
 ·obtain⟨a,ns,k,rfl,hS,hn,Oi,T8,q⟩:=h
  refine⟨_,(ak (@aV _ _ 2 _ _ _ _ kI.nd rfl (Or.inl rfl) au rfl (Or.inl rfl))
   (ak (a9 (@aK _ _ _ _ _ _ _ _ jC (pv 1) (aD bu (by rfl) Iz PySem.boot_len (@ao _ _ _ _ _ (pv 0) af rfl)) (aI _)) (aq (@aV _ _ 2 _ _ _ _ kI.nd rfl (Or.inl rfl) (@bg _ _ _ _ _ _ _ dS (pv 0) (pv 1) (λ_ _=>rfl)) rfl (Or.inl rfl))) aF)
   (ak (@aV _ _ 3 _ _ _ _ kI.nd rfl (Or.inl rfl) (@aC _ _ _ _ _ _ _ _ cO (@aC _ _ _ _ _ _ _ _ fP (@aC _ _ _ _ _ _ _ _ dG (@aC _ _ _ _ _ _ _ _ dG (@aC _ _ _ _ _ _ _ _ cO (pv 2) au) (@aC _ _ _ _ _ _ _ _ fP (@aC _ _ _ _ _ _ _ _ fP au (pv 1)) (pv 1))) au) au) au) rfl (Or.inl rfl))
   (ak (a9 (@aK _ _ _ _ _ _ _ _ jC (pv 2) (@aC _ _ _ _ _ _ _ _ abL au au) (aI _)) (aq (@aV _ _ 2 _ _ _ _ kI.nd rfl (Or.inl rfl) au rfl (Or.inl rfl))) aF)
   (aq (az (@cw _ _ _ _ (@ao _ _ _ _ _ (pv 2) (@ao _ _ _ _ _ (@aC _ _ _ _ _ _ _ _ dG (@aC _ _ _ _ _ _ _ _ cO (@aC _ _ _ _ _ _ _ _ fP (pv 3) (pv 3)) au) au) af rfl) rfl)))))))),?_⟩
  refine⟨_,rfl,_,rfl,a,_,rfl,.inl hS,_,_,rfl,rfl,_,rfl,?_⟩;refine dH (λh=>?_) (λh=>p5 Oi T8 q)
  have IC:k.toNat<ns.length:=by
   have h1:=of_decide_eq_true h;rw[List.length_map] at h1;omega
  have e:((k.toNat:Nat):Int)=k:=by omega
  have z:=sY (xs:=ns.map V.int) (j:=k.toNat) (v:=V.int ns[k.toNat]) (by rw[List.getElem?_map];simp[IC]);rw[e] at z;exact⟨_,rfl,_,rfl,a,_,k,_,rfl,rfl,hS,z,p5 Oi T8 q⟩
theorem Ab (F:Ao K "_law_take" "_law_take" BD f fd):Ik P w K mg base (aU P w) 1 f fd u7 GU:=by
 refine F.okN wR (λvs H Q E h=>?_) (λIv A outer s H vs Q E hr h=>?_)
 ·obtain⟨p,l,r,m,rfl,_⟩:=h;rfl
 ·obtain⟨p,l,r,m,rfl,hp,T9,IH,SD,hm1,q⟩:=h
  refine⟨_,(ak (a9 (@aK _ _ _ _ _ _ _ _ qh (@bg _ _ _ _ _ _ _ dS (pv 0) au (λ_ _=>rfl)) au (aI _)) (ak (@aV _ _ 2 _ _ _ _ wR.nd rfl (Or.inl rfl) (@aC _ _ _ _ _ _ _ _ cO (@bg _ _ _ _ _ _ _ dS (pv 0) au (λ_ _=>rfl)) (pv 1)) rfl (Or.inl rfl))
   (ak (rm (@aC _ _ _ _ _ _ _ _ d9 (@bg _ _ _ _ _ _ _ dS (pv 0) au (λ_ _=>rfl)) (pv 1)) (zm (pv 0) au pI))
   (aq (az (pv 2))))) aF)
   (ak (rm (@aC _ _ _ _ _ _ _ _ cO (@aC _ _ _ _ _ _ _ _ dG (@aC _ _ _ _ _ _ _ _ fP (@bg _ _ _ _ _ _ _ dS (pv 0) au (λ_ _=>rfl)) au) au) au) (zm (pv 0) au pI))
   (aq (az (@aC _ _ _ _ _ _ _ _ cO (@aC _ _ _ _ _ _ _ _ aaq (@aC _ _ _ _ _ _ _ _ cO (@aC _ _ _ _ _ _ _ _ fP (@bg _ _ _ _ _ _ _ dS (pv 0) au (λ_ _=>rfl)) (@bg _ _ _ _ _ _ _ dS (pv 0) au (λ_ _=>rfl))) au) au) (pv 1)))))),?_⟩
  have i0:∀x y:V,sr [x,y] 0=some x:=λ_ _=>rfl;have i1:∀x y:V,sr [x,y] 1=some y:=λ_ _=>rfl;have n0:xo [V.int l,V.int r].length 0=some 0:=rfl;have n1:∀x y:V,xo [x,y].length 1=some 1:=λ_ _=>rfl;refine⟨_,rfl,p,_,0,_,rfl,rfl,bo.of hp,i0 _ _,_,_,rfl,rfl,_,rfl,?_⟩;refine dH (λh=>?_) (λh=>?_)
  ·refine⟨_,rfl,p,_,0,_,rfl,rfl,bo.of hp,i0 _ _,_,rfl,_,_,rfl,rfl,SD,?_⟩;refine⟨_,rfl,p,_,0,_,rfl,rfl,bo.of hp,i0 _ _,_,rfl,_,_,rfl,rfl,⟨by omega,(show B 64 m from(by show m.natAbs<2^64;omega)).mono (by decide)⟩,_,rfl,p,_,0,0,rfl,rfl,hp,n0,?_⟩;exact⟨_,rfl,q _ _ _ (Int.emod_nonneg _ (by omega)) (Int.emod_lt_of_pos _ SD) T9 IH⟩
  ·have e1:∀t:Int,0<=t%2147483647/\t%2147483647<2147483647:=λt=>⟨Int.emod_nonneg _ (by decide),Int.emod_lt_of_pos _ (by decide)⟩;refine⟨_,rfl,p,_,1,_,rfl,rfl,bo.of hp,i1 _ _,_,_,rfl,rfl,.inl ⟨by omega,by omega⟩,_,_,rfl,rfl,_,_,rfl,rfl,(by show(0:Int)<2147483647;decide),_,rfl,p,_,1,1,rfl,rfl,hp,n1 _ _,?_⟩;refine⟨_,rfl,p,_,1,_,rfl,rfl,bo.of ah,i1 _ _,_,rfl,p,_,1,_,rfl,rfl,bo.of ah,i1 _ _,_,_,rfl,rfl,.inl ⟨by omega,by omega⟩,_,_,rfl,rfl,(by show(0:Int)<2147483629;decide),_,_,rfl,rfl,⟨by decide,by decide⟩,_,rfl,_,_,rfl,rfl,SD,?_⟩;exact q _ _ _ (Int.emod_nonneg _ (by omega)) (Int.emod_lt_of_pos _ SD) (e1 _).1 (e1 _).2
end K73
namespace L2
open PySem
variable {H:Hp}
theorem jc {σ:St}{A B:Hp->Prop}(h:A H):Ad σ H λb H4=>if b=true then A H4 else B H4:=h
variable {tt:TT}{te:TE}
theorem lU {J:It}{n:Nat}{at_:Nat->V->Prop}{rest:St}{F:List V->Hp->Prop}(Pv:Nat->List V->Hp->Prop)(h0:Pv 0 [] H)
 (hz:∀i ys H',i<=n->Pv i ys H'->ys.length<sizeLine/\(i<n->J.go i H')/\(i=n->J.stop i H')/\∀x H2,J.yld i H' x H2->H2=H'/\at_ i x)
 (hs:∀i x ys H' (N:List V->Hp->Prop),i<n->at_ i x->Pv i ys H'->(∀zs H5,Pv (i+1) zs H5->N zs H5) →
  tt (some x::rest) H' λb H4=>if b=true then te (some x::rest) H4 λy H5=>N (ys++[y]) H5 else N ys H4)
 (hd:∀ys H',Pv n ys H'->F ys H'):
 ∃W:Nat->Nat->List V->St->Hp->Prop,(∃m,W 0 m [] (none::rest) H)/\iG J (cb 0) tt te W F:=by
 refine⟨λi m ys σ H'=>m=n-i/\i<=n/\Pv i ys H'/\∃o,σ=o::rest,⟨n,by simp,Nat.zero_le _,h0,none,rfl⟩,?_⟩;rintro i m ys σ H' ⟨rfl,hi,p,o,rfl⟩;obtain⟨z1,z2,z3,z4⟩:=hz i ys H' hi p;refine⟨z1,?_⟩
 by_cases IC:i<n
 ·refine .inr ⟨z2 IC,λx H2 hy=>?_⟩;obtain⟨rfl,hx⟩:=z4 x H2 hy;exact hs i x ys H2 (λzs H5=>∃m',m'<n-i/\m'=n-(i+1)/\i+1<=n/\Pv (i+1) zs H5/\∃o',(some x::rest:St)=o'::rest) IC hx p λzs H5 h=>⟨n-(i+1),by omega,rfl,IC,h,_,rfl⟩
 ·have:i=n:=by omega
  subst this;exact .inl ⟨z3 rfl,hd ys H' p⟩
variable {K:PySem.W.Frag}
theorem y9 {a:Addr}{xs:List V}{rest:St}{F:List V->Hp->Prop}(Pv:Nat->List V->Hp->Prop)(h0:Pv 0 [] H)
 (hz:∀i ys H',i<=xs.length->Pv i ys H'->ys.length<sizeLine/\br K H' a xs)
 (hs:∀i x ys H' (N:List V->Hp->Prop),i<xs.length->xs[i]?=some x->Pv i ys H'->(∀zs H5,Pv (i+1) zs H5->N zs H5) →
  tt (some x::rest) H' λb H4=>if b=true then te (some x::rest) H4 λy H5=>N (ys++[y]) H5 else N ys H4)
 (hd:∀ys H',Pv xs.length ys H'->F ys H'):
 ∃W:Nat->Nat->List V->St->Hp->Prop,(∃m,W 0 m [] (none::rest) H)/\iG (G8 K a) (cb 0) tt te W F:=by
 refine lU (n:=xs.length) (at_:=λi x=>xs[i]?=some x) Pv h0 (λi ys H' hi p=>?_) hs hd;obtain⟨z1,z2⟩:=hz i ys H' hi p;exact⟨z1,λh=>⟨xs,xs[i],z2,by simp[h]⟩,λh=>⟨xs,z2,by omega⟩,λx H2 hy=>⟨hy.1,hy.2 xs z2⟩⟩
theorem iQ {a:Addr}{xs:List V}{rest:St}{F:List V->Hp->Prop}(Pv:Nat->List V->Hp->Prop)(h0:Pv 0 [] H)
 (hz:∀i ys H',i<=xs.length->Pv i ys H'->ys.length<sizeLine/\bo K H' a xs)
 (hs:∀i x ys H' (N:List V->Hp->Prop),i<xs.length->xs[i]?=some x->Pv i ys H'->(∀zs H5,Pv (i+1) zs H5->N zs H5) →
  tt (some x::rest) H' λb H4=>if b=true then te (some x::rest) H4 λy H5=>N (ys++[y]) H5 else N ys H4)
 (hd:∀ys H',Pv xs.length ys H'->F ys H'):
 ∃W:Nat->Nat->List V->St->Hp->Prop,(∃m,W 0 m [] (none::rest) H)/\iG (Dk K a) (cb 0) tt te W F:=by
 refine lU (n:=xs.length) (at_:=λi x=>xs[i]?=some x) Pv h0 (λi ys H' hi p=>?_) hs hd;obtain⟨z1,z2⟩:=hz i ys H' hi p;exact⟨z1,λh=>⟨xs,xs[i],z2,by simp[h]⟩,λh=>⟨xs,z2,by omega⟩,λx H2 hy=>⟨hy.1,hy.2 xs z2⟩⟩
theorem en {lo:Int}{n:Nat}{rest:St}{F:List V->Hp->Prop}(Pv:Nat->List V->Hp->Prop)(h0:Pv 0 [] H)
 (hz:∀i ys H',i<=n->Pv i ys H'->ys.length<sizeLine)
 (hs:∀i ys H' (N:List V->Hp->Prop),i<n->Pv i ys H'->(∀zs H5,Pv (i+1) zs H5->N zs H5) →
  tt (some (.int (lo+i)):: rest) H' λb H4=>if b=true then te (some (.int (lo+i)):: rest) H4 λy H5=>N (ys++[y]) H5 else N ys H4)
 (hd:∀ys H',Pv n ys H'->F ys H'):
 ∃W:Nat->Nat->List V->St->Hp->Prop,(∃m,W 0 m [] (none::rest) H)/\iG (By lo n) (cb 0) tt te W F:=by
 refine lU (n:=n) (at_:=λi x=>x=.int (lo+i)) Pv h0 (λi ys H' hi p=>?_) (λi x ys H' N h1 h2=>by subst h2;exact hs i ys H' N h1) hd;exact⟨hz i ys H' hi p,λh=>h,λh=>by show n<=i;omega,λx H2 hy=>hy⟩
theorem jr {a:Addr}{xs:List V}{rest:St}{F:List V->Hp->Prop}(Pv:Nat->List V->Hp->Prop)(h0:Pv 0 [] H)
 (hz:∀i ys H',i<=xs.length->Pv i ys H'->ys.length<sizeLine/\bo K H' a xs)
 (hs:∀i x ys H',i<xs.length->xs[i]?=some x->Pv i ys H' →
  ∃b u v,x=.ref b/\br K H' b [u,v]/\∀(N:List V->Hp->Prop),(∀zs H5,Pv (i+1) zs H5->N zs H5)->tt (some u::some v::rest) H' λb H4=>if b=true then te (some u::some v::rest) H4 λy H5=>N (ys++[y]) H5 else N ys H4)
 (hd:∀ys H',Pv xs.length ys H'->F ys H'):
 ∃W:Nat->Nat->List V->St->Hp->Prop,(∃m,W 0 m [] (none::none::rest) H)/\iG (Dk K a) (og K 2 (dN (cb 0) (dN (cb 1) FY))) tt te W F:=by
 refine⟨λi m ys σ H'=>m=xs.length-i/\i<=xs.length/\Pv i ys H'/\∃o o2,σ=o::o2::rest,⟨xs.length,by simp,Nat.zero_le _,h0,none,none,rfl⟩,?_⟩;rintro i m ys σ H' ⟨rfl,hi,p,o,o2,rfl⟩;obtain⟨z1,z2⟩:=hz i ys H' hi p;refine⟨z1,?_⟩
 by_cases IC:i<xs.length
 ·refine .inr ⟨⟨xs,xs[i],z2,by simp[IC]⟩,λx H2 hy=>?_⟩;obtain⟨rfl,hx⟩:=hy;obtain⟨b,u,v,rfl,hb,h⟩:=hs i x ys H2 IC (hx xs z2) p;exact⟨_,[u,v],rfl,hb,rfl,_,_,rfl,_,_,rfl,rfl,h (λzs H5=>∃m',m'<xs.length-i/\m'=xs.length-(i+1)/\i+1<=xs.length/\Pv (i+1) zs H5/\∃o o2,(some u::some v::rest:St)=o::o2::rest) λzs H5 h=>⟨xs.length-(i+1),by omega,rfl,IC,h,_,_,rfl⟩⟩
 ·have:i=xs.length:=by omega
  subst this;exact .inl ⟨⟨xs,z2,Nat.le_refl _⟩,hd ys H' p⟩
end L2
namespace K73
open PySem L2 PySem.W Nm
abbrev BU:Stmt:=(aL 60)
abbrev zf:Stmt:=(aL 61)
abbrev wZ:Stmt:=(aL 62)
abbrev tK:Stmt:=(aL 63)
def EL (H:Hp)(Q:VK)(t b:Int):Prop:=∀(H':Hp)(a:Addr),aA H H'->H' a=some (bA t b)->Q (.ref a) H'
variable {H:Hp}
theorem EL.of {H':Hp}{Q:VK}{t b:Int}(q:EL H Q t b)(S:aA H H'):∀a,H' a=none->Q (.ref a) (upd H' a (bA t b)):=λa ha=>q _ a (S.trans (ar ha)) ah
def Dq:Sp:=λvs H Q _=>∃t b:Int,vs=[.int t,.int b]/\b≠0/\B 9000 b/\B 9000 t/\EL H Q (cW t b) (b7 t b)
def Ca:Sp:=λvs H Q _=>∃p t b:Int,vs=[.int p,.int t,.int b]/\FP p/\b≠0/\B 9000 b/\B 9000 t/\(p≠0->b=1)/\EL H Q (cM p t b) (c8 p t b)
def nW (g:Int->Int->Int->Int->Int):Sp:=λvs H Q _=>∃(p t1 b1 t2 b2:Int)(a1 a2:Addr),vs=[.int p,.ref a1,.ref a2]/\FP p/\H a1=some (bA t1 b1)/\H a2=some (bA t2 b2)/\B 4000 t1/\B 4000 b1/\B 4000 t2/\B 4000 b2/\b1≠0/\b2≠0/\(p≠0->b1*b2=1) /\
 EL H Q (cM p (g t1 b1 t2 b2) (b1*b2)) (c8 p (g t1 b1 t2 b2) (b1*b2))
theorem kd:Av ["_law_top","_law_bottom","_law_one","_law_other"] Fu (aj BU):=dk (by decide +kernel)
theorem zp:Av ["_law_prime_here","_law_top","_law_bottom","_law_back"] vz (aj zf):=dk (by decide +kernel)
theorem zP:Av EJ EJ (aj wZ):=dk (by decide +kernel)
theorem yC:Av EJ EJ (aj tK):=dk (by decide +kernel)
variable {P:yn}{w:World}{K:PySem.W.Frag}{mg:xf}{base:Heap}
theorem Bv (c:Int):(if c<0 then -c else c)=ab c:=rfl
variable {f:Addr}{fd:zo}
theorem AB (F:Ao K "_law_low" "_law_low" BU f fd)(JP:mg "abs"=none):Ik P w K mg base (aU P w) 1 f fd Fu Dq:=by
 refine F.okN kd (λvs H Q E h=>?_) (λIv A outer s H vs Q E hr h=>?_)
 ·obtain⟨a,b,rfl,_⟩:=h;rfl
 ·obtain⟨t,b,rfl,hb,hB,hT,q⟩:=h
  refine⟨_,(ak (@aV _ _ 2 _ _ _ _ kd.nd rfl (Or.inl rfl) (aD kF (by rfl) JP (by rfl) (@ao _ _ _ _ _ (pv 0) af rfl)) rfl (Or.inl rfl))
   (ak (@aV _ _ 3 _ _ _ _ kd.nd rfl (Or.inl rfl) (aD kF (by rfl) JP (by rfl) (@ao _ _ _ _ _ (pv 1) af rfl)) rfl (Or.inl rfl))
   (ak (lH PassesOwn.never (@aK _ _ _ _ _ _ _ _ qh (pv 3) au (aI _)) (aq (iW (i:=2) (j:=3) rfl kd.nd rfl rfl (by decide) rfl rfl (@ao _ _ _ _ _ (pv 3) (@ao _ _ _ _ _ (@aC _ _ _ _ _ _ _ _ tO (pv 2) (pv 3)) af rfl) rfl) rfl)))
   (ak (a9 (@aK _ _ _ _ _ _ _ _ jC (pv 1) au (aI _)) (aq (@aV _ _ 2 _ _ _ _ kd.nd rfl (Or.inl rfl) (@aC _ _ _ _ _ _ _ _ j7 au (pv 2)) rfl (Or.inl rfl))) aF)
   (aq (az (@bD _ _ _ _ _ (@ao _ _ _ _ _ (@aC _ _ _ _ _ _ _ _ d9 (pv 0) (pv 2)) (@ao _ _ _ _ _ (@aC _ _ _ _ _ _ _ _ d9 (pv 1) (pv 2)) af rfl) rfl)))))))),?_⟩
  refine⟨_,rfl,t,rfl,_,rfl,b,rfl,?_⟩;rw[Bv,Bv];refine⟨λm σ H'=>∃c d:Int,σ=[some (.int t),some (.int b),some (.int c),some (.int d)]/\H'=H/\m=d.natAbs/\Int.gcd c d=Int.gcd t b/\0<=c/\0<=d,⟨_,ab t,ab b,rfl,rfl,rfl,DP t b,by rw[kj];omega,by rw[kj];omega⟩,?_⟩;rintro m σ H' ⟨c,d,rfl,rfl,rfl,hg,hc0,Sy⟩;refine⟨_,rfl,_,_,rfl,rfl,_,rfl,?_⟩;refine dH (λh=>?_) (λh=>?_)
  ·have hd:d≠0:=by have:=of_decide_eq_true h;omega
   refine⟨λσ' IV=>∃c' d':Int,σ'=[some (.int t),some (.int b),some (.int c'),some (.int d')]/\IV=H'/\d'.natAbs<d.natAbs/\Int.gcd c' d'=Int.gcd t b/\0<=c'/\0<=d',λσ' IV ⟨c',d',e1,e2,e3,e4,e5,e6⟩=>⟨_,e3,c',d',e1,e2,rfl,e4,e5,e6⟩,?_⟩;exact⟨_,rfl,_,rfl,_,rfl,_,_,rfl,rfl,hd,_,_,rfl,d,c.fmod d,rfl,rfl,ux c d hd,by rw[kD,hg],Sy,Int.fmod_nonneg_of_pos c (by omega)⟩
  ·have hd:d=0:=by
    have:¬d>0:=by simpa using h
    omega
   subst hd
   have eg:c=eC t b:=by
    unfold eC;rw[<-hg];simp;omega
   have gp:=iI (t:=t) hb;have SE:B 9000 (eC t b):=hB.le (CJ hb);subst eg;unfold cW b7 dv at q;refine⟨_,rfl,_,_,rfl,rfl,_,rfl,?_⟩;refine dH (λh2=>?_) (λh2=>?_)
   ·have h2:=of_decide_eq_true h2;rw[if_pos h2] at q;refine⟨_,rfl,_,_,rfl,rfl,?_⟩;dsimp only;rw[Int.zero_sub]
    have hn:B 9000 (-(eC t b)):=by unfold B at SE |-;rw[Int.natAbs_neg];exact SE
    exact⟨_,rfl,_,rfl,_,_,rfl,rfl,⟨by omega,hn⟩,_,rfl,_,rfl,_,_,rfl,rfl,⟨by omega,hn⟩,iT,q.of (aA.refl _)⟩
   ·have h2:¬b<0:=by simpa using h2
    rw[if_neg h2] at q;exact⟨_,rfl,_,rfl,_,_,rfl,rfl,⟨by omega,SE⟩,_,rfl,_,rfl,_,_,rfl,rfl,⟨by omega,SE⟩,iT,q.of (aA.refl _)⟩
variable {JO:zo}
theorem A7 {fl:Addr}(F:Ao K "_law_made" "_law_made" zf f fd)(Iy:mg "range"=none)(FL:Ik P w K mg base (aU P w) 1 fl JO Fu Dq)(bL:L2.ay K JO Fu [])(mL:mg "_law_low"=some (.ref fl))(kL:keepIn K (.ref fl)=true):
 Ik P w K mg base (aU P w) 2 f fd vz Ca:=by
 refine F.okN zp (λvs H Q E h=>?_) (λIv A outer s H vs Q E hr h=>?_)
 ·obtain⟨p,t,b,rfl,_⟩:=h;rfl
 ·obtain⟨p,t,b,rfl,hp,hb,hB,hT,h1,q⟩:=h;have IH:p8 1 _:=hr
  refine⟨_,(ak (a9 (@aK _ _ _ _ _ _ _ _ dZ (pv 0) au (aI _)) (aq (az (aB FL IH (by rfl) mL kL bL .nil ae (@ao _ _ _ _ _ (pv 1) (@ao _ _ _ _ _ (pv 2) af rfl) rfl)))) aF)
   (ak (@aV _ _ 3 _ _ _ _ zp.nd rfl (Or.inl rfl) (@bg _ _ _ _ _ _ _ dS (ck (N:=["_law_k","_law_prime_here","_law_bottom"]) (nl:=1) (js:=[0,2]) (osc:=aj zf) ⟨rfl,rfl,by decide +kernel,by decide +kernel,by decide +kernel,rfl,(.cons ⟨rfl,by decide +kernel⟩ (.cons ⟨rfl,by decide +kernel⟩ .nil)),by decide +kernel⟩ rfl
    (abp (by rfl) Iy (@ao _ _ _ _ _ au (@ao _ _ _ _ _ (pv 0) af rfl) rfl))
    (λCq fq sq Hq=>aE (i:=0) (by show(["_law_k","_law_prime_here","_law_bottom"]:zX).Nodup;decide +kernel) rfl (Or.inl rfl) (Or.inr rfl))
    (λCq fq sq Hq=>(iA (@aK _ _ _ _ _ _ _ _ dZ (@aC _ _ _ _ _ _ _ _ cO (@aC _ _ _ _ _ _ _ _ bz (pv 2) (pv 0)) (pv 1)) au (aI _))))
    (λCq fq sq Hq=>(pv 0))) au (λ_ _=>rfl)) rfl (Or.inl rfl))
   (aq (az (@bD _ _ _ _ _ (@ao _ _ _ _ _ (@aC _ _ _ _ _ _ _ _ cO (@aC _ _ _ _ _ _ _ _ bz (pv 1) (pv 3)) (pv 0)) (@ao _ _ _ _ _ au af rfl) rfl)))))),?_⟩
  refine⟨_,rfl,rfl,_,rfl,?_⟩;refine dH (λh=>?_) (λh=>?_)
  ·have Jh:p=0:=by simpa using h
   unfold cM c8 at q;rw[if_pos Jh,if_pos Jh] at q;exact⟨_,rfl,_,rfl,t,b,rfl,hb,hB,hT,q⟩
  ·have Jh:p≠0:=by simpa using h
   obtain⟨ND,p2,SA⟩:=hp.two Jh;have SF:=h1 Jh;subst SF;refine⟨_,rfl,_,_,rfl,⟨by omega,by omega,by omega,by omega⟩,?_⟩;have bp:∀{i:Int},0<=i->i<128->B 9000 i:=λh0 h1=>Nat.lt_of_lt_of_le (by omega:_<2^8) (Nat.pow_le_pow_right (by decide) (by decide));refine en (lo:=1) (n:=(p-1).toNat) (rest:=[some (.int p),some (.int 1)]) (λi us H'=>H'=H/\us=if i=0 then [] else [.int 1]) ⟨rfl,rfl⟩ (λi us H' hi h=>?_) (λi us H' M hi h hM=>?_) (λus H' h=>?_)
   ·rw[h.2]
    split
    ·exact(by decide:0<sizeLine)
    ·exact(by decide:1<sizeLine)
   ·obtain⟨rfl,rfl⟩:=h;refine⟨_,rfl,_,rfl,_,_,rfl,rfl,⟨bp (by decide) (by decide),bp (by omega) (by omega)⟩,_,rfl,_,_,rfl,rfl,(by show(0:Int)<p;omega),rfl,_,rfl,?_⟩;dsimp only;rw[Int.one_mul];have em:=Int.emod_eq_of_lt (a:=1+(i:Int)) (b:=p) (by omega) (by omega)
    by_cases Xs:i=0
    ·subst Xs;rw[decide_eq_true (show V.int ((1+((0:Nat):Int))%p)=V.int 1 by rw[em];rfl)];exact b0 ⟨_,rfl,hM _ _ ⟨rfl,rfl⟩⟩
    ·rw[decide_eq_false (show ¬V.int ((1+(i:Int))%p)=V.int 1 from λz=>by rw[em] at z;injection z with z;omega)];refine bw (hM _ _ ⟨rfl,?_⟩);rw[if_neg Xs,if_neg (by omega)]
   ·obtain⟨rfl,rfl⟩:=h;rw[if_neg (by omega)];intro L hL;have S:=ar (o:=.lst [.int 1]) hL;refine⟨L,_,0,_,rfl,rfl,bo.of ah,rfl,?_⟩;unfold cM c8 at q;rw[if_neg Jh,if_neg Jh] at q;refine⟨_,rfl,_,rfl,_,_,rfl,rfl,⟨hT,bp (by decide) (by decide)⟩,_,rfl,_,_,rfl,rfl,(by show(0:Int)<p;omega),iT,?_⟩;rw[Int.mul_one];exact q.of S
theorem wF {fl:Addr}(F:Ao K "_law_plus" "_law_plus" wZ f fd)(FM:Ik P w K mg base (aU P w) 2 fl JO vz Ca)(bM:L2.ay K JO vz [])(mM:mg "_law_made"=some (.ref fl))(kM:keepIn K (.ref fl)=true):
 Ik P w K mg base (aU P w) 3 f fd EJ (nW iC):=by
 refine F.okN zP (λvs H Q E h=>?_) (λIv A outer s H vs Q E hr h=>?_)
 ·obtain⟨p,t1,b1,t2,b2,x1,x2,rfl,_⟩:=h;rfl
 ·obtain⟨p,t1,b1,t2,b2,x1,x2,rfl,hp,h1,h2,B1,B2,B3,B4,n1,n2,hb,q⟩:=h;have Jj:p8 2 _:=hr;refine⟨_,(aq (az (aB FM Jj (by rfl) mM kM bM .nil ae (@ao _ _ _ _ _ (pv 0) (@ao _ _ _ _ _ (@aC _ _ _ _ _ _ _ _ dG (@aC _ _ _ _ _ _ _ _ bz (@bg _ _ _ _ _ _ _ aZ (pv 1) au (λ_ _=>rfl)) (@bg _ _ _ _ _ _ _ aZ (pv 2) au (λ_ _=>rfl))) (@aC _ _ _ _ _ _ _ _ bz (@bg _ _ _ _ _ _ _ aZ (pv 2) au (λ_ _=>rfl)) (@bg _ _ _ _ _ _ _ aZ (pv 1) au (λ_ _=>rfl)))) (@ao _ _ _ _ _ (@aC _ _ _ _ _ _ _ _ bz (@bg _ _ _ _ _ _ _ aZ (pv 1) au (λ_ _=>rfl)) (@bg _ _ _ _ _ _ _ aZ (pv 2) au (λ_ _=>rfl))) af rfl) rfl) rfl)))),?_⟩;refine⟨_,rfl,?_⟩;refine⟨_,rfl,x1,_,0,_,rfl,rfl,br.of h1,a0 _ _,_,rfl,x2,_,1,_,rfl,rfl,br.of h2,a1 _ _,_,_,rfl,rfl,⟨B1.mono (by decide),B4.mono (by decide)⟩,?_⟩;refine⟨_,rfl,x2,_,0,_,rfl,rfl,br.of h2,a0 _ _,_,rfl,x1,_,1,_,rfl,rfl,br.of h1,a1 _ _,_,_,rfl,rfl,⟨B3.mono (by decide),B2.mono (by decide)⟩,_,_,rfl,rfl,?_⟩;refine⟨_,rfl,x1,_,1,_,rfl,rfl,br.of h1,a1 _ _,_,rfl,x2,_,1,_,rfl,rfl,br.of h2,a1 _ _,_,_,rfl,rfl,⟨B2.mono (by decide),B4.mono (by decide)⟩,?_⟩;exact⟨p,_,_,rfl,hp,oN n1 n2,(B2.mul B4).mono (by decide),((B1.mul B4).add (B3.mul B2)).mono (by decide),hb,q⟩
theorem vW {fl:Addr}(F:Ao K "_law_times" "_law_times" tK f fd)(FM:Ik P w K mg base (aU P w) 2 fl JO vz Ca)(bM:L2.ay K JO vz [])(mM:mg "_law_made"=some (.ref fl))(kM:keepIn K (.ref fl)=true):
 Ik P w K mg base (aU P w) 3 f fd EJ (nW gB):=by
 refine F.okN yC (λvs H Q E h=>?_) (λIv A outer s H vs Q E hr h=>?_)
 ·obtain⟨p,t1,b1,t2,b2,x1,x2,rfl,_⟩:=h;rfl
 ·obtain⟨p,t1,b1,t2,b2,x1,x2,rfl,hp,h1,h2,B1,B2,B3,B4,n1,n2,hb,q⟩:=h;have Jj:p8 2 _:=hr;refine⟨_,(aq (az (aB FM Jj (by rfl) mM kM bM .nil ae (@ao _ _ _ _ _ (pv 0) (@ao _ _ _ _ _ (@aC _ _ _ _ _ _ _ _ bz (@bg _ _ _ _ _ _ _ aZ (pv 1) au (λ_ _=>rfl)) (@bg _ _ _ _ _ _ _ aZ (pv 2) au (λ_ _=>rfl))) (@ao _ _ _ _ _ (@aC _ _ _ _ _ _ _ _ bz (@bg _ _ _ _ _ _ _ aZ (pv 1) au (λ_ _=>rfl)) (@bg _ _ _ _ _ _ _ aZ (pv 2) au (λ_ _=>rfl))) af rfl) rfl) rfl)))),?_⟩;refine⟨_,rfl,?_⟩;refine⟨_,rfl,x1,_,0,_,rfl,rfl,br.of h1,a0 _ _,_,rfl,x2,_,0,_,rfl,rfl,br.of h2,a0 _ _,_,_,rfl,rfl,⟨B1.mono (by decide),B3.mono (by decide)⟩,?_⟩;refine⟨_,rfl,x1,_,1,_,rfl,rfl,br.of h1,a1 _ _,_,rfl,x2,_,1,_,rfl,rfl,br.of h2,a1 _ _,_,_,rfl,rfl,⟨B2.mono (by decide),B4.mono (by decide)⟩,?_⟩;exact⟨p,_,_,rfl,hp,oN n1 n2,(B2.mul B4).mono (by decide),(B1.mul B3).mono (by decide),hb,q⟩
abbrev yb:Stmt:=(aL 67)
def iX (H:Hp)(r:Addr):Prop:=∃l x:Int,H r=some (.lst [.int l,.int x])/\0<=x/\x<2147483647
def SameBut (r:Addr)(H H':Hp):Prop:=∀b o,H b=some o->b≠r->H' b=some o
theorem SameBut.trans {r:Addr}{H1 H2:Hp}(a:SameBut r H H1)(b:SameBut r H1 H2):SameBut r H H2:=λc o e n=>b c o (a c o e n) n
theorem SameBut.of {r:Addr}{H1:Hp}(a:aA H H1):SameBut r H H1:=λc o e _=>a c o e
theorem SameBut.upd {r:Addr}{o:HO}:SameBut r H (upd H r o):=λb u e n=>by rw[av n];exact e
def Ct:Sp:=λvs H Q _=>∃r:Addr,vs=[.ref r]/\iX H r/\∀(p:Int)(H':Hp),FP p->iX H' r->SameBut r H H'->Q (.int p) H'
theorem Ho {K:Frag}{a:Addr}{t b:Int}(h:H a=some (bA t b)):aN K H (.tup [.int t,.int b]) (.ref a):=by
 unfold aN;refine⟨a,_,rfl,br.of h,?_⟩;unfold ba;refine⟨_,_,rfl,by unfold aN;rfl,?_⟩;unfold ba;refine⟨_,_,rfl,by unfold aN;rfl,?_⟩;unfold ba;rfl
theorem G6 (t b:Int):jB (.tup [.int t,.int b])=1:=by simp[jB,dX]
end K73
namespace L2
open PySem PySem.Spec PyProof.Rows PySem.W
def Fs:V->Bool->Prop
 | .bl b,c=>c=b
 | .int i,c=>c=(i != 0)
 |_,_=>False
theorem bc {α β:Type}{R:α->β->Prop}:∀{l:List α}{m:List β}{i:Nat}{a:α},Paired R l m->l[i]?=some a->∃b,m[i]?=some b/\R a b
 |[],_,i,a,h,e=>by simp at e
 |x::l,_,i,a,h,e=>by
  cases h with
  |cons h1 h2 =>
   cases i with
   |zero=>simp at e;subst e;exact⟨_,rfl,h1⟩
   |succ i=>simpa using bc h2 (by simpa using e)
theorem lq {α β:Type}{R:α->β->Prop}:∀{l:List α}{m:List β}{i:Nat}{b:β},Paired R l m->m[i]?=some b->∃a,l[i]?=some a/\R a b
 |[],m,i,b,h,e=>by cases h;simp at e
 |x::l,_,i,b,h,e=>by
  cases h with
  |cons h1 h2 =>
   cases i with
   |zero=>simp at e;subst e;exact⟨_,rfl,h1⟩
   |succ i=>simpa using lq h2 (by simpa using e)
section
variable {X:Cx}
theorem Da {A:Around}{Q:Bool->Shared->Prop}{E:yj}{s:Dx}{y:V}{c:Bool}{u:Value}(t:Fs y c)(r:aG y u)(h:Q c s):wpAny (model X.prog X.w) A (truthy u) Q E s:=by
 cases y with
 |bl b =>
  cases(show u=Value.bool b from r)
  cases(show c=b from t)
  exact wpAny_truthy_bool h
 |int i =>
  obtain⟨k,rfl⟩:=(show ∃k,u=Value.int i k from r)
  cases(show c=(i != 0) from t)
  exact PyProof.Rows.truthy_int h
 |_=>exact t.elim
theorem ix (hc:X.calm=true):eZ X (.builtin "all") (λxs H Q=>∃l ys bs,xs=[.ref l]/\bo X.K H l ys/\Paired Fs ys bs/\Q (.bl (bs.all id)) H):=by
 intro pins s σ H xs us Q I r h;obtain⟨l,ys,bs,rfl,hl,hp,q⟩:=h;obtain⟨u,rfl,ru⟩:=fY r
 cases(show u=Value.ref l from ru)
 obtain⟨its,rv,pl,hz⟩:=I.list hl
 have IC:l<s.heap.objs.size:=by obtain⟨o,n,e,_⟩:=pl;exact Heap.lt_size e
 refine call_all_walk (wpAny_pyIter_list pl.isList ?_)
 refine⟨s.heap.objs.size,[s.heap.objs.size,l],[s.heap.objs.size],its.toArray.size,_,_,λi=>(bs[i]?).getD true,rfl,Walks.list (A:=X.A.in1) (I.ok.hd hc) _ l (Nat.ne_of_lt IC) its.toArray,
  ⟨⟨_,Heap.get?_push_size _ rfl,rfl,rfl⟩,pl.isList.push _⟩,λi v s' Q' E' hP hQ=>?_,λh' tk hk=>?_⟩
 ·have e:its[i]?=some v:=by simpa using hP
  obtain⟨y,ey,ry⟩:=lq rv e;obtain⟨b,eb,tb⟩:=bc hp ey;simp only[eb,Option.getD_some] at hQ;exact Da tb ry hQ
 ·have n:its.toArray.size=bs.length:=by rw[List.size_toArray,<-rv.length,hp.length]
  have e:((List.range its.toArray.size).all λi=>(bs[i]?).getD true)=bs.all id:=by rw[n];exact LSm.range_all bs
  rw[e];exact⟨.bl (bs.all id),H,I.kept (t':=tk) (LSm.kept_iter hk),rfl,q⟩
end
end L2
namespace Srt
open PySem PySem.W PyProof.Rows
structure Pm (n:Nat)(r:Nat->Nat)(p:Array Nat):Prop where
 size:p.size=n
 lt:∀k,k<n->p.getD k 0<n
 ne:∀k l,k<n->l<n->k≠l->r (p.getD k 0)≠r (p.getD l 0)
 perm:p.Perm (List.range n).toArray
variable {p:Array Nat}{k m:Nat}
section
variable {n:Nat}{r:Nat->Nat}
theorem Pm.nq {n:Nat}{r:Nat->Nat}(P:Pm n r p)(k l:Nat)(hk:k<n)(hl:l<n)(h:k≠l):p.getD k 0≠p.getD l 0:=λz=>P.ne k l hk hl h (by rw[z])
theorem getD_some (h:k<p.size):p[k]?=some (p.getD k 0):=by simp[Array.getD,h]
theorem uK (inj:∀i j,i<n->j<n->i≠j->r i≠r j)(hp:p.Perm (List.range n).toArray):Pm n r p:=by
 have hl:p.toList.Perm (List.range n):=by simpa using hp.toList
 have hs:p.size=n:=by rw[<-Array.length_toList,hl.length_eq,List.length_range]
 have IC:∀k,k<n->p.getD k 0<n:=λk hk=>by
  have hm:p.getD k 0∈p.toList:=by
   rw[show p.getD k 0=p[k]'(by omega) by simp[Array.getD,hs,hk]];exact Array.mem_toList_iff.mpr (Array.getElem_mem _)
  exact List.mem_range.mp (hl.mem_iff.mp hm)
 refine⟨hs,IC,λk l hk Kc IX=>inj _ _ (IC k hk) (IC l Kc) λe=>IX ?_,hp⟩;have nd:p.toList.Nodup:=hl.nodup_iff.mpr List.nodup_range
 have e1:p.toList[k]'(by simp;omega)=p.toList[l]'(by simp;omega):=by
  rw[show p.getD k 0=p[k]'(by omega) by simp[Array.getD,hs,hk],show p.getD l 0=p[l]'(by omega) by simp[Array.getD,hs,Kc]] at e;simpa using e
 have pw:=List.pairwise_iff_getElem.mp (show p.toList.Pairwise (· ≠ ·) from nd)
 rcases Nat.lt_trichotomy k l with z|z|z
 ·exact absurd e1 (pw k l _ _ z)
 ·exact z
 ·exact absurd e1.symm (pw l k _ _ z)
def Up (r:Nat->Nat)(p:Array Nat)(m:Nat):Prop:=∀i j,i<j->j<m->r (p.getD i 0)<r (p.getD j 0)
def Dn (r:Nat->Nat)(p:Array Nat)(m:Nat):Prop:=∀i j,i<j->j<m->r (p.getD j 0)<r (p.getD i 0)
theorem Up.succ (h:Up r p m)(h1:1<=m)(e:r (p.getD (m-1) 0)<r (p.getD m 0)):Up r p (m+1):=λi j J1 hj=>by
 by_cases z:j=m
 ·subst z
  by_cases z2:i=j-1
  ·subst z2;exact e
  ·exact Nat.lt_trans (h i (j-1) (by omega) (by omega)) e
 ·exact h i j J1 (by omega)
theorem Dn.succ (h:Dn r p m)(h1:1<=m)(e:r (p.getD m 0)<r (p.getD (m-1) 0)):Dn r p (m+1):=λi j J1 hj=>by
 by_cases z:j=m
 ·subst z
  by_cases z2:i=j-1
  ·subst z2;exact e
  ·exact Nat.lt_trans e (h i (j-1) (by omega) (by omega))
 ·exact h i j J1 (by omega)
theorem sM (hm:m<=p.size)(hk:k<p.size):(kas_rev p 0 m).getD k 0=if k<m then p.getD (m-1-k) 0 else p.getD k 0:=by
 have e:=getElem?_mirror_all (xs:=p) (i:=0) hm k;have hs:(kas_rev p 0 m).size=p.size:=mirror_size _ _ _ _;have e2:(kas_rev p 0 m)[k]?=some ((kas_rev p 0 m).getD k 0):=getD_some (by rw[hs];exact hk)
 have e3:(kas_rev p 0 m)[k]?=if 0<=k/\k<m then p[0+m-1-k]? else p[k]?:=e
 rw[e2] at e3
 by_cases h:k<m
 ·rw[if_pos ⟨Nat.zero_le _,h⟩,show 0+m-1-k=m-1-k by omega,getD_some (by omega)] at e3;rw[if_pos h];exact Option.some.inj e3
 ·rw[if_neg (λz=>h z.2),getD_some hk] at e3;rw[if_neg h];exact Option.some.inj e3
theorem Dn.rev (h:Dn r p m)(hm:m<=p.size):Up r (kas_rev p 0 m) m:=λi j J1 hj=>by
 rw[sM hm (by omega),sM hm (by omega),if_pos (by omega),if_pos hj];exact h _ _ (by omega) (by omega)
variable {cmp:Nat->Nat->(Bool->Shared->Prop)->Shared->Prop}{s:Dx}
theorem qG (hc:∀i j C,i<n->j<n->i≠j->C (decide (r i<r j)) s->cmp i j C s)(P:Pm n r p){Q:Nat->Shared->Prop}:∀(f m:Nat),1<=m->m+f=n->Up r p m →
 (∀m',m<=m'->m'<=n->Up r p m'->(m'<n->r (p.getD m' 0)<r (p.getD (m'-1) 0))->Q m' s)->(kas_asc p f m).kasWp cmp Q s
 |0,m,h1,hm,hu,hQ=>hQ m (Nat.le_refl _) (by omega) hu λh=>by omega
 |f+1,m,h1,hm,hu,hQ=>by
  refine hc _ _ _ (P.lt m (by omega)) (P.lt (m-1) (by omega)) (P.nq m (m-1) (by omega) (by omega) (by omega)) ?_;show((if decide (r (p.getD m 0)<r (p.getD (m-1) 0))=true then KasT.ret m else kas_asc p f (m+1)).kasWp cmp Q s)
  by_cases h:r (p.getD m 0)<r (p.getD (m-1) 0)
  ·rw[if_pos (decide_eq_true h)];exact hQ m (Nat.le_refl _) (by omega) hu λ_=>h
  ·rw[if_neg (by simpa using h)];have ne:=P.ne m (m-1) (by omega) (by omega) (by omega);exact qG hc P f (m+1) (by omega) (by omega) (hu.succ h1 (by omega)) λm' h2=>hQ m' (by omega)
theorem tQ (hc:∀i j C,i<n->j<n->i≠j->C (decide (r i<r j)) s->cmp i j C s)(P:Pm n r p){Q:Array Nat×Nat×Nat->Shared->Prop}:∀(f m:Nat),1<=m->m+f=n->Dn r p m →
 (∀m',m<=m'->m'<=n->Dn r p m'->Q (p,m',0) s)->(kas_desc f p m 0).kasWp cmp Q s
 |0,m,h1,hm,hu,hQ=>hQ m (Nat.le_refl _) (by omega) hu
 |f+1,m,h1,hm,hu,hQ=>by
  refine hc _ _ _ (P.lt m (by omega)) (P.lt (m-1) (by omega)) (P.nq m (m-1) (by omega) (by omega) (by omega)) ?_
  by_cases h:r (p.getD m 0)<r (p.getD (m-1) 0)
  ·rw[decide_eq_true h];exact tQ hc P f (m+1) (by omega) (by omega) (hu.succ h1 h) λm' h2=>hQ m' (by omega)
  ·rw[decide_eq_false h];refine hc _ _ _ (P.lt (m-1) (by omega)) (P.lt m (by omega)) (P.nq (m-1) m (by omega) (by omega) (by omega)) ?_;have ne:=P.ne m (m-1) (by omega) (by omega) (by omega);rw[decide_eq_true (show r (p.getD (m-1) 0)<r (p.getD m 0) by omega)];exact hQ m (Nat.le_refl _) (by omega) hu
theorem xP (inj:∀i j,i<n->j<n->i≠j->r i≠r j)(hc:∀i j C,i<n->j<n->i≠j->C (decide (r i<r j)) s->cmp i j C s)(P:Pm n r p){Q:Nat×Array Nat->Shared->Prop}(h1:1<=m)(hm:m<=n)(hd:Dn r p m)
 (hQ:∀m' p',m'<=n->1<=m'->Pm n r p'->Up r p' m'->Q (m',p') s):(kas_tail3 m n p).kasWp cmp Q s:=by
 unfold kas_tail3;rw[KasT.kasWp_bind];have P':Pm n r (kas_rev p 0 m):=uK inj ((mirror_perm _ _ _ _).trans P.perm);exact qG hc P' (n-m) m h1 (by omega) (hd.rev (by rw[P.size];exact hm)) λm' h2 h3 h4 _=>hQ m' _ h3 (by omega) P' h4
theorem yU (inj:∀i j,i<n->j<n->i≠j->r i≠r j)(hc:∀i j C,i<n->j<n->i≠j->C (decide (r i<r j)) s->cmp i j C s)(h0:1<=n)(P:Pm n r p){Q:Nat×Array Nat->Shared->Prop}
 (hQ:∀m' p',m'<=n->1<=m'->Pm n r p'->Up r p' m'->Q (m',p') s):(kas_count n p).kasWp cmp Q s:=by
 unfold kas_count;rw[KasT.kasWp_bind];refine qG hc P (n-1) 1 (Nat.le_refl _) (by omega) (λi j J1 hj=>by omega) λm h1 h2 h3 h4=>?_
 by_cases e:m=n
 ·subst e;rw[if_pos (by simp)];exact hQ _ _ (Nat.le_refl _) h1 P h3
 ·rw[if_neg (by simpa using e)]
  by_cases h5:m>1
  ·rw[if_pos h5];refine hc _ _ _ (P.lt 0 (by omega)) (P.lt (m-1) (by omega)) (P.nq 0 (m-1) (by omega) (by omega) (by omega)) ?_;rw[decide_eq_true (h3 0 (m-1) (by omega) (by omega))];exact hQ _ _ h2 h1 P h3
  ·rw[if_neg h5]
   have e1:m=1:=by omega
   subst e1;unfold kas_descPart;rw[KasT.kasWp_bind];have d2:Dn r p (1+1):=Dn.succ (λi j J1 hj=>by omega) (Nat.le_refl _) (h4 (by omega));refine tQ hc P (n-(1+1)) (1+1) (by omega) (by omega) d2 λm' h6 h7 h8=>?_;show((if 0>0 then _ else kas_tail3 m' n p).kasWp cmp Q s);rw[if_neg (by omega)];exact xP inj hc P (by omega) h7 h8 hQ
theorem lz (hc:∀i j C,i<n->j<n->i≠j->C (decide (r i<r j)) s->cmp i j C s)(P:Pm n r p){Q:Nat->Shared->Prop}(hk:k<n)(hu:Up r p k):∀(f l q:Nat),l<=q->q<=k->q-l<=f->(∀j,j<l->r (p.getD j 0)<r (p.getD k 0))->(∀j,q<=j->j<k->r (p.getD k 0)<r (p.getD j 0)) →
 (∀l',l'<=k->(∀j,j<l'->r (p.getD j 0)<r (p.getD k 0))->(∀j,l'<=j->j<k->r (p.getD k 0)<r (p.getD j 0))->Q l' s)->(kas_place p k f l q).kasWp cmp Q s
 |0,l,q,h1,h2,h3,h4,h5,hQ=>hQ l (by omega) h4 λj h6 h7=>h5 j (by omega) h7
 |f+1,l,q,h1,h2,h3,h4,h5,hQ=>by
  unfold kas_place
  by_cases h:l ≥ q
  ·rw[if_pos h];exact hQ l (by omega) h4 λj h6 h7=>h5 j (by omega) h7
  ·rw[if_neg h];refine hc _ _ _ (P.lt k hk) (P.lt ((l+q)/2) (by omega)) (P.nq k ((l+q)/2) hk (by omega) (by omega)) ?_;have ne:=P.ne k ((l+q)/2) hk (by omega) (by omega)
   by_cases z:r (p.getD k 0)<r (p.getD ((l+q)/2) 0)
   ·rw[decide_eq_true z];refine lz hc P hk hu f l ((l+q)/2) (by omega) (by omega) (by omega) h4 (λj h6 h7=>?_) hQ
    by_cases e:j=(l+q)/2
    ·subst e;exact z
    ·exact Nat.lt_trans z (hu _ _ (by omega) h7)
   ·rw[decide_eq_false z];refine lz hc P hk hu f ((l+q)/2+1) q (by omega) h2 (by omega) (λj h6=>?_) h5 hQ
    by_cases e:j=(l+q)/2
    ·subst e;omega
    ·have:=hu j ((l+q)/2) (by omega) (by omega);omega
theorem tU {l j:Nat}(hk:k<p.size)(hl:l<=k)(hj:j<p.size):(bubble p k (k-l)).getD j 0=if j=l then p.getD k 0 else if l<j/\j<=k then p.getD (j-1) 0 else p.getD j 0:=by
 have e:=getElem?_bubble hk (k-l) (by omega) j;rw[show k-(k-l)=l by omega,getD_some (by rw[bubble_size];exact hj)] at e
 by_cases h1:j=l
 ·rw[if_pos h1,getD_some hk] at e;rw[if_pos h1];exact Option.some.inj e
 ·rw[if_neg h1] at e |-
  by_cases h2:l<j/\j<=k
  ·rw[if_pos h2,getD_some (by omega)] at e;rw[if_pos h2];exact Option.some.inj e
  ·rw[if_neg h2,getD_some hj] at e;rw[if_neg h2];exact Option.some.inj e
theorem yW (inj:∀i j,i<n->j<n->i≠j->r i≠r j)(hc:∀i j C,i<n->j<n->i≠j->C (decide (r i<r j)) s->cmp i j C s){Q:Array Nat->Shared->Prop}(hQ:∀p',Pm n r p'->Up r p' n->Q p' s):∀(f:Nat)(p:Array Nat)(k:Nat),Pm n r p->k+f=n->Up r p k->(kas_bin f p k).kasWp cmp Q s
 |0,p,k,P,hk,hu=>hQ p P (by rw[<-hk];exact hu)
 |f+1,p,k,P,hk,hu=>by
  unfold kas_bin;rw[KasT.kasWp_bind];refine lz hc P (by omega) hu k 0 k (Nat.zero_le _) (Nat.le_refl _) (by omega) (λj h=>by omega) (λj h1 h2=>by omega) λl h1 h2 h3=>?_;have P':Pm n r (bubble p k (k-l)):=uK inj ((bubble_perm _ _ _).trans P.perm);refine yW inj hc hQ f _ (k+1) P' (by omega) λi j J1 hj=>?_;have sz:=P.size;rw[tU (by omega) h1 (by omega),tU (by omega) h1 (by omega)]
  by_cases e1:i=l
  ·rw[if_pos e1,if_neg (by omega),if_pos ⟨by omega,by omega⟩];exact h3 _ (by omega) (by omega)
  ·rw[if_neg e1]
   by_cases e2:j=l
   ·rw[if_pos e2,if_neg (by omega)];exact h2 _ (by omega)
   ·rw[if_neg e2]
    by_cases e3:l<j
    ·rw[if_pos (show l<j/\j<=k from⟨e3,by omega⟩)]
     by_cases e4:l<i
     ·rw[if_pos ⟨e4,by omega⟩];exact hu _ _ (by omega) (by omega)
     ·rw[if_neg (by omega)];exact hu _ _ (by omega) (by omega)
    ·rw[if_neg (by omega),if_neg (by omega)];exact hu _ _ J1 (by omega)
theorem AI (inj:∀i j,i<n->j<n->i≠j->r i≠r j)(hc:∀i j C,i<n->j<n->i≠j->C (decide (r i<r j)) s->cmp i j C s)(h0:1<=n){Q:Array Nat->Shared->Prop}(hQ:∀p',Pm n r p'->Up r p' n->Q p' s):(kas_sort n).kasWp cmp Q s:=by
 unfold kas_sort;rw[KasT.kasWp_bind];refine yU inj hc h0 (uK inj (Array.Perm.refl _)) λm p h1 h2 P hu=>?_;show((if m<n then kas_bin (n-max m 1) p (max m 1) else KasT.ret p).kasWp cmp Q s)
 by_cases h:m<n
 ·rw[if_pos h,show max m 1=m by omega];exact yW inj hc hQ _ _ _ P (by omega) hu
 ·rw[if_neg h]
  have e:m=n:=by omega
  subst e;exact hQ p P hu
end
end Srt
namespace L2
open PySem PySem.Spec PyProof.Rows PySem.W
end L2
namespace Srt
open PySem PySem.W PyProof.Rows
section
variable {prog:yn}{w:World}{A:Around}{E:yj}{s:Dx}
def Bn (prog:yn)(w:World)(A:Around)(ks:oH)(r:Nat->Nat)(s:Dx):Prop :=
 ∃κ,(∀Q:SortKind->Shared->Prop,Q κ s->wpAny (model prog w) A (keyKind' ks.toArray) Q (λ_ _=>False) s)/\∀i j C,i<ks.length->j<ks.length->i≠j->C (decide (r i<r j)) s->kas_ask prog w A κ ks i j C s
def hX (vs:oH)(p:Array Nat):List Value:=p.toList.map λi=>vs.getD i Value.none
theorem xV (vs:oH):hX vs (List.range vs.length).toArray=vs:=by
 unfold hX;apply List.ext_getElem
 ·simp
 ·intro i h1 h2;simp[h2]
theorem gE {n:Nat}(h:n<64):n<=sizeLine:=by rw[sizeLine_eq];omega
end
open L2
abbrev Ky:=Int×List Int
def lY (a b:Ky):Bool:=if a.1=b.1 then HT.df a.2 b.2 else decide (a.1<b.1)
theorem lP:∀xs:List Int,HT.df xs xs=false
 |[]=>rfl
 |x::xs=>by rw[HT.eB,if_pos rfl];exact lP xs
theorem mj:∀{xs ys zs:List Int},HT.df xs ys=true->HT.df ys zs=true->HT.df xs zs=true
 |[],[],_,h,_=>by cases h
 |[],y::ys,[],_,h=>by cases h
 |[],y::ys,z::zs,_,_=>rfl
 |x::xs,[],_,h,_=>by cases h
 |x::xs,y::ys,[],_,h=>by cases h
 |x::xs,y::ys,z::zs,h1,h2=>by
  rw[HT.eB] at h1 h2 |-
  by_cases e1:x=y
  ·rw[if_pos e1] at h1
   by_cases e2:y=z
   ·rw[if_pos e2] at h2;rw[if_pos (e1.trans e2)];exact mj h1 h2
   ·rw[if_neg e2] at h2;rw[e1,if_neg e2];exact h2
  ·rw[if_neg e1] at h1;have l1:=of_decide_eq_true h1
   by_cases e2:y=z
   ·rw[<-e2,if_neg e1];exact h1
   ·rw[if_neg e2] at h2;have l2:=of_decide_eq_true h2;rw[if_neg (by omega)];exact decide_eq_true (by omega)
theorem mf:∀{xs ys:List Int},xs≠ys->HT.df xs ys=true\/HT.df ys xs=true
 |[],[],h=>absurd rfl h
 |[],y::ys,_=>.inl rfl
 |x::xs,[],_=>.inr rfl
 |x::xs,y::ys,h=>by
  rw[HT.eB,HT.eB]
  by_cases e:x=y
  ·subst e;rw[if_pos rfl,if_pos rfl];exact mf λz=>h (by rw[z])
  ·rw[if_neg e,if_neg (Ne.symm e)];simp only[decide_eq_true_eq];omega
theorem lD (a:Ky):lY a a=false:=by unfold lY;rw[if_pos rfl];exact lP _
theorem ji {a b c:Ky}(h1:lY a b=true)(h2:lY b c=true):lY a c=true:=by
 unfold lY at h1 h2 |-
 by_cases e1:a.1=b.1
 ·rw[if_pos e1] at h1
  by_cases e2:b.1=c.1
  ·rw[if_pos e2] at h2;rw[if_pos (e1.trans e2)];exact mj h1 h2
  ·rw[if_neg e2] at h2;rw[e1,if_neg e2];exact h2
 ·rw[if_neg e1] at h1;have l1:=of_decide_eq_true h1
  by_cases e2:b.1=c.1
  ·rw[<-e2,if_neg e1];exact h1
  ·rw[if_neg e2] at h2;have l2:=of_decide_eq_true h2;rw[if_neg (by omega)];exact decide_eq_true (by omega)
theorem jq {a b:Ky}(h:a≠b):lY a b=true\/lY b a=true:=by
 unfold lY
 by_cases e:a.1=b.1
 ·rw[if_pos e,if_pos e.symm];exact mf λz=>h (Prod.ext e z)
 ·rw[if_neg e,if_neg (Ne.symm e)];simp only[decide_eq_true_eq];omega
def cV (ks:List Ky)(i:Nat):Ky:=ks.getD i (0,[])
def rk (ks:List Ky)(i:Nat):Nat:=(List.range ks.length).countP λj=>lY (cV ks j) (cV ks i)
theorem mx {α:Type}{p q:α->Bool}:∀{l:List α},(∀x∈l,p x=true->q x=true)->(∃x∈l,q x=true/\p x=false)->l.countP p<l.countP q
 |[],_,⟨x,hx,_⟩=>by cases hx
 |a::l,h,⟨x,hx,h1,h2⟩=>by
  have le:∀l':List α,(∀x∈l',p x=true->q x=true)->l'.countP p<=l'.countP q:=λl' h'=>List.countP_mono_left h';rw[List.countP_cons,List.countP_cons]
  rcases List.mem_cons.mp hx with rfl|hx
  ·rw[if_pos h1,if_neg (by rw[h2];exact Bool.false_ne_true)];have:=le l λx hx=>h x (List.mem_cons_of_mem _ hx);omega
  ·have ih:=mx (l:=l) (λx hx=>h x (List.mem_cons_of_mem _ hx)) ⟨x,hx,h1,h2⟩;have h0:=h a List.mem_cons_self
   cases e:p a with
   |false=>simp only[Bool.false_eq_true,if_false];omega
   |true=>rw[h0 e];simp only[if_true];omega
variable {ks:List Ky}
theorem iJ {i j:Nat}(hi:i<ks.length)(h:lY (cV ks i) (cV ks j)=true):rk ks i<rk ks j :=
 mx (λl _ hl=>ji hl h) ⟨i,List.mem_range.mpr hi,h,lD _⟩
theorem wU {i j:Nat}(hi:i<ks.length)(hj:j<ks.length):decide (rk ks i<rk ks j)=lY (cV ks i) (cV ks j):=by
 cases e:lY (cV ks i) (cV ks j) with
 |true=>exact decide_eq_true (iJ hi e)
 |false =>
  refine decide_eq_false λz=>?_
  by_cases k:cV ks i=cV ks j
  ·unfold rk at z;rw[k] at z;exact Nat.lt_irrefl _ z
  ·rcases jq k with h|h
   ·rw[e] at h;cases h
   ·exact Nat.lt_asymm z (iJ hj h)
theorem DF (nd:ks.Nodup):∀i j,i<ks.length->j<ks.length->i≠j->rk ks i≠rk ks j:=λi j hi hj IX z=>by
 have k:cV ks i≠cV ks j:=λe=>by
  have e':ks[i]=ks[j]:=by
   unfold cV at e;simpa[hi,hj] using e
  have pw:=List.pairwise_iff_getElem.mp (show ks.Pairwise (· ≠ ·) from nd)
  rcases Nat.lt_or_gt_of_ne IX with l|l
  ·exact pw i j _ _ l e'
  ·exact pw j i _ _ l e'.symm
 rcases jq k with h|h
 ·have:=iJ hi h;omega
 ·have:=iJ hj h;omega
def uq (K:Frag)(H:Hp)(x:V)(k:Ky):Prop:=∃a b rest,x=.ref a/\br K H a (.int k.1 :: .ref b::rest)/\br K H b (k.2.map V.int)
def dW (K:Frag)(H:Hp):List V->List Ky->Prop
 |[],[]=>True
 |x::xs,k::ks=>uq K H x k/\dW K H xs ks
 |_,_=>False
variable {K:Frag}{H:Hp}
theorem dW.len :∀{xs:List V}{ks:List Ky},dW K H xs ks->xs.length=ks.length
 |[],[],_=>rfl
 |_::_,_::_,⟨_,r⟩=>congrArg (·+1) r.len
 |[],_::_,h=>h.elim
 |_::_,[],h=>h.elim
theorem dW.get :∀{xs:List V}{ks:List Ky}{i:Nat}{x:V},dW K H xs ks->xs[i]?=some x->uq K H x (cV ks i)
 |x::xs,k::ks,0,y,⟨h,_⟩,e=>by simp at e;subst e;exact h
 |x::xs,k::ks,i+1,y,⟨_,r⟩,e=>by
  have:=r.get (i:=i) (x:=y) (by simpa using e);simpa[cV] using this
 |[],[],i,y,_,e=>by simp at e
 |[],_::_,_,_,h,_=>h.elim
 |_::_,[],_,_,h,_=>h.elim
theorem iq :∀ns:List Int,ba K H (ns.map D.int) (ns.map V.int)
 |[]=>by unfold ba;rfl
 |n::ns=>by unfold ba;exact⟨_,_,rfl,by unfold aN;rfl,iq ns⟩
theorem xj (ns:List Int):jB (.tup (ns.map D.int))<=1:=by
 unfold jB
 have:∀ms:List Int,dX (ms.map D.int)=0:=λms=>by
  induction ms with
  |nil=>unfold dX;rfl
  |cons m ms ih=>rw[List.map_cons];unfold dX;rw[ih];unfold jB;rfl
 rw[this];omega
theorem pZ:∀ns ms:List Int,fF (ns.map D.int) (ms.map D.int)=decide (ns=ms)
 |[],[]=>by simp;rfl
 |[],m::ms=>by simp;rfl
 |n::ns,[]=>by simp;rfl
 |n::ns,m::ms=>by
  show((n==m)&&fF (ns.map D.int) (ms.map D.int))=_;rw[pZ ns ms]
  by_cases e:n=m
  ·subst e;simp
  ·simp[e]
section
variable {X:Cx}{pins:List (Addr×Obj)}{σ:L2.St}{H:Hp}{s:Dx}
theorem zS {A:Around}{x y:V}{u v:Value}{k j:Ky}{C:Bool->Shared->Prop}{E:yj}(I:Inv X pins σ H s)(hA:A.units+2<cLine)(hx:uq X.K H x k)(hy:uq X.K H y j)(rx:aG x u)(ry:aG y v)(ne:k≠j)(h:C (lY k j) s):
 wpAny (model X.prog X.w) A (keyLt' (tuples' true) u v) C E s:=by
 obtain⟨a,b,rest,rfl,h1,h2⟩:=hx;obtain⟨a',b',Xu,rfl,Lv,NG⟩:=hy
 cases(show u=Value.ref a from rx)
 cases(show v=Value.ref a' from ry)
 obtain⟨its,r1,⟨o1,g1,_,n1,d1⟩,_⟩:=I.tuple h1;obtain⟨its',SG,⟨o1',ZQ,_,n1',ZR⟩,_⟩:=I.tuple Lv;refine kat_lt g1 d1 ZQ ZR ?_
 cases r1 with
 |cons q1 r1 =>
  cases r1 with
  |cons q2 r1 =>
   cases SG with
   |cons ZS SG =>
    cases SG with
    |cons ZT SG =>
     obtain⟨t,rfl⟩:=q1;obtain⟨t',rfl⟩:=ZS
     rename_i w2 _ ZU _
     cases(show w2=Value.ref b from q2)
     cases(show ZU=Value.ref b' from ZT)
     show KatLex _ _ _ _ _ _ ((Value.int k.1 t,Value.int j.1 t'):: (Value.ref b,Value.ref b'):: _) 0 s;refine kat_cons (SeqAt.EqAt.int_int k.1 t j.1 t' X.prog X.w _ _ ?_)
     have klt_def:lY k j=if k.1=j.1 then HT.df k.2 j.2 else decide (k.1<j.1):=rfl
     refine kat_go (λe=>kat_yes ?_) λe=>kat_no ?_
     ·have e1:k.1=j.1:=by simpa using e
      have n2:k.2≠j.2:=λz=>ne (Prod.ext e1 z);have dd:=(ju I 1 A (.tup (k.2.map D.int)) (.tup (j.2.map D.int)) (.ref b) (.ref b') (.ref b) (.ref b') (xj _) (by omega) (by unfold aN;exact⟨b,_,rfl,h2,iq _⟩) (by unfold aN;exact⟨b',_,rfl,NG,iq _⟩) rfl rfl).2.1;have e2:i5 (.tup (k.2.map D.int)) (.tup (j.2.map D.int))=false:=(pZ _ _).trans (decide_eq_false n2);rw[e2] at dd;refine kat_cons (dd X.prog X.w _ _ (kat_no ?_));rw[klt_def,if_pos e1] at h;obtain⟨IB,p2,t2,_⟩:=I.tuple h2;obtain⟨Xv,ZV,ZW,_⟩:=I.tuple NG;exact kat_one _ _ (HT.PrT t2 ZW (lu p2) (lu ZV) (by omega) h)
     ·have e1:k.1≠j.1:=by simpa using e
      rw[klt_def,if_neg e1] at h;exact oneLt_int h
theorem Ae (I:Inv X pins σ H s)(xs:List V):∀(ks:List Ky)(us:oH),dW X.K H xs ks->aM xs us->∃fs:List Value,KatTups s.heap us fs/\fs.length=us.length/\∀f∈fs,∃i t,f=Value.int i t:=by
 induction xs with
 |nil =>
  intro ks us _ r
  cases r
  exact⟨[],.nil,rfl,λf hf=>by cases hf⟩
 |cons x xs ih =>
  intro ks us h r
  cases ks with
  |nil=>exact h.elim
  |cons k ks =>
   cases r with
   |cons rx rv =>
    rename_i u us
    obtain⟨⟨a,b,rest,e,h1,_⟩,hr⟩:=h;obtain⟨fs,t,hl,hf⟩:=ih ks us hr rv;subst e
    cases(show u=Value.ref a from rx)
    obtain⟨its,r1,⟨o1,g1,c1,n1,d1⟩,_⟩:=I.tuple h1
    cases r1 with
    |cons q1 r1 =>
     obtain⟨tk,rfl⟩:=q1;refine⟨Value.int k.1 tk::fs,.cons g1 c1 d1 rfl t,by simp[hl],λf ZX=>?_⟩
     rcases List.mem_cons.mp ZX with rfl|z
     ·exact⟨_,_,rfl⟩
     ·exact hf f z
theorem qR {A:Around}{xs:List V}{us:oH}(I:Inv X pins σ H s)(hA:A.units+2<cLine)(hk:dW X.K H xs ks)(rv:aM xs us)(nd:ks.Nodup)(h2:2<=us.length):Bn X.prog X.w A us (rk ks) s:=by
 obtain⟨fs,t,hl,hf⟩:=Ae I xs ks us hk rv;have pR:=hk.len;have CY:=rv.length;refine⟨tuples' true,λQ hq=>kat_kind (T:=Value.type "int") t (by omega) (λv hv=>?_) (by decide) hq,λi j C hi hj IX hc=>?_⟩
 ·obtain⟨i,tk,rfl⟩:=hf v hv;exact .now
 ·have gi:∃x,xs[i]?=some x/\aG x (us.getD i .none):=by
   have Xw:i<xs.length:=by omega
   obtain⟨u,e,r⟩:=rv.get (i:=i) (x:=xs[i]) (by simp[Xw]);refine⟨xs[i],by simp[Xw],?_⟩;rw[List.getD_eq_getElem?_getD,e];exact r
  have gj:∃x,xs[j]?=some x/\aG x (us.getD j .none):=by
   have MI:j<xs.length:=by omega
   obtain⟨u,e,r⟩:=rv.get (i:=j) (x:=xs[j]) (by simp[MI]);refine⟨xs[j],by simp[MI],?_⟩;rw[List.getD_eq_getElem?_getD,e];exact r
  obtain⟨x,ex,rx⟩:=gi;obtain⟨y,ey,ry⟩:=gj;rw[wU (by omega) (by omega)] at hc
  have ZY:cV ks i≠cV ks j:=λz=>by
   have e':ks[i]'(by omega)=ks[j]'(by omega):=by
    unfold cV at z;simpa[show i<ks.length by omega,show j<ks.length by omega] using z
   have pw:=List.pairwise_iff_getElem.mp (show ks.Pairwise (· ≠ ·) from nd)
   rcases Nat.lt_or_gt_of_ne IX with l|l
   ·exact pw i j _ _ l e'
   ·exact pw j i _ _ l e'.symm
  exact zS I hA (hk.get ex) (hk.get ey) rx ry ZY hc
end
end Srt
namespace L2
open PySem PySem.Spec PyProof.Rows PySem.W
section
variable {X:Cx}{pins:List (Addr×Obj)}{σ:St}{H:Hp}{s:Dx}{h':Heap}
theorem Inv.abk (I:Inv X pins σ H s){a:Addr}(hp:s.heap.get? a=none):H a=none:=by
 cases q:H a with
 |none=>rfl
 |some u =>
  obtain⟨ob,e1⟩:=(I.hok a u q).there;rw[hp] at e1
  cases e1
theorem Inv.newObj {a:Addr}{o:HO}{t':Nat}(I:Inv X pins σ H s)(k:∀b u,s.heap.get? b=some u->h'.get? b=some u)(hp:s.heap.get? a=none)(new:bx X.prog X.w (upd H a o) h' a o):
 Inv X pins σ (upd H a o) {s with heap:=h',toks:=t'}:=by
 have hn:=I.abk hp
 have nb:∀b u,s.heap.get? b=some u->b≠a:=λb u e z=>by rw[z,hp] at e;cases e
 exact I.un ⟨λb u q _ _ _=>k b u q,λb u q _ _ _=>⟨u.slots,k b u q⟩,λb u q n _=>by rw[av (nb b u q)];exact n,λb u q _=>⟨u,k b u q⟩,
  λb xs q=>by rw[av (ax q hn)];exact q,λb u xs q=>by rw[av (ax q hn)];exact q,λb ps q=>⟨#[],by rw[av (ax q hn),q];simp⟩⟩ (dM (I.hok.kept k) hn new)
end
end L2
namespace Srt
open PySem PySem.W PyProof.Rows L2
section
variable {α:Type}
def l9 (k:Ky)(x:α):List (Ky×α)->List (Ky×α)
 |[]=>[(k,x)]
 |(j,y):: r=>if lY k j=true then(k,x):: (j,y):: r else(j,y):: l9 k x r
def dQ:List (Ky×α)->List (Ky×α)
 |[]=>[]
 |(k,x):: r=>l9 k x (dQ r)
theorem jx (k:Ky)(x:α):∀l:List (Ky×α),(l9 k x l).Perm ((k,x):: l)
 |[]=>.refl _
 |(j,y):: r=>by
  unfold l9
  split
  ·exact .refl _
  ·exact((jx k x r).cons _).trans (.swap _ _ _)
theorem dD:∀l:List (Ky×α),(dQ l).Perm l
 |[]=>.refl _
 |(k,x):: r=>(jx k x _).trans ((dD r).cons _)
def Cb (l:List (Ky×α)):Prop:=l.Pairwise λa b=>lY a.1 b.1=true
theorem ue {k:Ky}{x:α}:∀{l:List (Ky×α)},Cb l->(∀p∈l,p.1≠k)->Cb (l9 k x l)
 |[],_,_=>List.pairwise_singleton _ _
 |(j,y):: r,h,hn=>by
  obtain⟨h1,h2⟩:=List.pairwise_cons.mp h;unfold l9
  by_cases e:lY k j=true
  ·rw[if_pos e];refine List.pairwise_cons.mpr ⟨λp hp=>?_,h⟩
   rcases List.mem_cons.mp hp with rfl|hp
   ·exact e
   ·exact ji e (h1 p hp)
  ·rw[if_neg e];have jk:lY j k=true:=(jq (hn _ List.mem_cons_self)).resolve_right e;refine List.pairwise_cons.mpr ⟨λp hp=>?_,ue h2 λp hp=>hn p (List.mem_cons_of_mem _ hp)⟩
   rcases List.mem_cons.mp ((jx k x r).mem_iff.mp hp) with rfl|hp
   ·exact jk
   ·exact h1 p hp
theorem kh:∀{l:List (Ky×α)},(l.map (·.1)).Nodup->Cb (dQ l)
 |[],_=>.nil
 |(k,x):: r,h=>by
  obtain⟨h1,h2⟩:=List.nodup_cons.mp h;exact ue (kh h2) λp hp z=>h1 (z▸List.mem_map_of_mem (f:=(·.1)) ((dD r).mem_iff.mp hp))
theorem mq:∀{l1 l2:List (Ky×α)},Cb l1->Cb l2->l1.Perm l2->l1=l2
 |[],l2,_,_,p=>(List.nil_perm.mp p).symm
 |a::l1,[],_,_,p=>(List.nil_perm.mp p.symm)
 |a::l1,b::l2,h1,h2,p=>by
  obtain⟨u1,v1⟩:=List.pairwise_cons.mp h1;obtain⟨u2,v2⟩:=List.pairwise_cons.mp h2
  have e:a=b:=by
   rcases List.mem_cons.mp (p.mem_iff.mp List.mem_cons_self) with z|z
   ·exact z
   ·rcases List.mem_cons.mp (p.mem_iff.mpr (List.mem_cons_self (a:=b) (l:=l2))) with w|w
    ·exact w.symm
    ·have c1:=u2 a z;have c2:=u1 b w;have c3:=ji c1 c2;rw[lD] at c3
     cases c3
  subst e;rw[mq v1 v2 (List.Perm.cons_inv p)]
theorem pD {l1 l2:List (Ky×α)}(nd:(l2.map (·.1)).Nodup)(h:Cb l1)(p:l1.Perm l2):l1=dQ l2:=mq h (kh nd) (p.trans (dD l2).symm)
theorem qm {l1 l2:List (Ky×α)}(nd:(l2.map (·.1)).Nodup)(p:l1.Perm l2):dQ l1=dQ l2:=by
 refine pD nd (kh ?_) ((dD l1).trans p);exact(p.map (·.1)).nodup_iff.mpr nd
end
def Fz (xs:List V)(p:Array Nat):List V:=p.toList.map λi=>xs.getD i .non
theorem zu {xs:List V}{us:oH}(rv:aM xs us){n:Nat}{r:Nat->Nat}{p:Array Nat}(P:Pm n r p)(hn:n<=xs.length):aM (Fz xs p) (hX us p):=by
 have key:∀l:List Nat,(∀i∈l,i<xs.length)->aM (l.map λi=>xs.getD i .non) (l.map λi=>us.getD i Value.none):=by
  intro l
  induction l with
  |nil=>intro _;exact .nil
  |cons i l ih =>
   intro h;have hi:=h i List.mem_cons_self;obtain⟨u,e,r⟩:=rv.get (i:=i) (x:=xs[i]) (by simp[hi]);refine .cons ?_ (ih λj hj=>h j (List.mem_cons_of_mem _ hj));show aG (xs.getD i .non) (us.getD i Value.none);rw[List.getD_eq_getElem?_getD,List.getD_eq_getElem?_getD,e,show xs[i]?=some xs[i] by simp[hi]];exact r
 refine key p.toList λi hi=>?_
 have z:i∈(List.range n):=by
  have pl:p.toList.Perm (List.range n):=by simpa using P.perm.toList
  exact pl.mem_iff.mp hi
 have:=List.mem_range.mp z;omega
theorem yX {xs:List V}{ks:List Ky}(hl:xs.length=ks.length)(nd:ks.Nodup){p:Array Nat}(P:Pm xs.length (rk ks) p)(U:Up (rk ks) p xs.length):Fz xs p=(dQ (ks.zip xs)).map (·.2):=by
 have pl:p.toList.Perm (List.range xs.length):=by simpa using P.perm.toList
 have e1:(List.range xs.length).map (λi=>(cV ks i,xs.getD i V.non))=ks.zip xs:=by
  apply List.ext_getElem
  ·simp[hl]
  ·intro i h1 h2
   have hi:i<xs.length:=by simpa using h1
   have hk:i<ks.length:=by omega
   simp[cV,hi,hk]
 have z:p.toList.map (λi=>(cV ks i,xs.getD i V.non))=dQ (ks.zip xs):=by
  refine pD ?_ ?_ ?_
  ·rw[List.map_fst_zip (by omega)];exact nd
  ·unfold Cb;rw[List.pairwise_map];refine List.pairwise_iff_getElem.mpr λi j hi hj J1=>?_;have sz:=P.size;rw[Array.length_toList] at hi hj;have u:=U i j J1 (by omega)
   have gi:p.getD i 0=p.toList[i]:=by simp[Array.getD,hi]
   have gj:p.getD j 0=p.toList[j]:=by simp[Array.getD,hj]
   rw[gi,gj] at u
   have bi:p.toList[i]<ks.length:=by rw[<-gi,<-hl];exact P.lt i (by omega)
   have bj:p.toList[j]<ks.length:=by rw[<-gj,<-hl];exact P.lt j (by omega)
   rw[<-wU bi bj];exact decide_eq_true u
  ·exact(pl.map _).trans (by rw[e1])
 rw[<-z,List.map_map];rfl
end Srt
namespace L2
open PySem PySem.Spec PyProof.Rows PySem.W
theorem gD:∀{ns:List Int}{us:oH},aM (ns.map V.int) us->IntsAre us ns
 |[],us,r=>by cases r;exact .nil
 |n::ns,us,r=>by
  rw[List.map_cons] at r
  cases r with
  |cons h t =>
   obtain⟨k,rfl⟩:=(show ∃k,_=Value.int n k from h);exact .cons n k (gD t)
theorem wH:∀{us:oH}{ns:List Int},IntsAre us ns->aM (ns.map V.int) us
 |_,_,.nil=>.nil
 |_,_,.cons n t h=>.cons ⟨t,rfl⟩ (wH h)
section
variable {X:Cx}
theorem vJ (hc:X.calm=true):eZ X (.builtin "max") (λxs H Q=>∃(l:Addr)(ns:List Int),xs=[.ref l]/\bo X.K H l (ns.map V.int)/\ns≠[]/\∀m,m∈ns->(∀a∈ns,a<=m)->Q (.int m) H):=by
 intro pins s σ H xs us Q I r h;obtain⟨l,ns,rfl,hl,IX,q⟩:=h;obtain⟨u,rfl,ru⟩:=fY r
 cases(show u=Value.ref l from ru)
 obtain⟨its,rv,pl,hz⟩:=I.list hl;have hi:=gD rv;obtain⟨xs,e⟩:=hi.allInts.items
 have J6:ns=xs.toList.map (·.1):=by rw[<-hi.numsOf,<-nums_intItems,<-e]
 have hsz:0<xs.size:=by
  have h3:0<ns.length:=List.length_pos_iff.mpr IX;rw[J6,List.length_map,Array.length_toList] at h3;exact h3
 have Ji:=pl.isList;rw[e] at Ji;refine max_intList (I.ok.hd hc) Ji hsz λv h' tk hv hk=>?_;obtain⟨t,rfl⟩:=intItems_at hv;obtain⟨h1,h2⟩:=argBest_gt (numAt xs) (xs.size-1);refine⟨.int _,H,I.kept (t':=tk) hk,⟨t,rfl⟩,q _ ?_ λa ha=>?_⟩
 ·rw[J6,numAt_eq];exact getD_mem (by rw[List.length_map,Array.length_toList];omega)
 ·rw[J6] at ha;obtain⟨j,hj,rfl⟩:=mem_getD ha;rw[List.length_map,Array.length_toList] at hj;rw[<-numAt_eq];exact h2 j (by omega)
end
def z9 (K:Frag):List V->Hp->VK->Prop:=λxs H Q=>∃p ys,xs=[.ref p]/\(bo K H p ys\/br K H p ys)/\Q (.int ys.length) H
section
variable {X:Cx}
theorem uV {K:Frag}(hK:X.K=K):eZ X (.builtin "len") (z9 K):=by subst hK;exact bu
variable {tg l:Expr}{tl:TE}
theorem Fl {K:Frag}(hK:X.K=K)(hl:PE X l tl):PI X tg l (BE K tl):=by subst hK;exact cC hl
def rJ (K:PySem.W.Frag):R2:=λx y H Q=>∃p q xs,x=.ref p/\y=.ref q/\bo K H p xs/\bo K H q []/\Q (.bl (!decide (xs=[]))) H
theorem pj {k:Nat}(hr:p8 k X.A):eE X (compareOp .NotEq) (rJ X.K):=by
 intro pins s σ H x y v u Q I rx ry h;obtain⟨p,q,xs,rfl,rfl,h1,h2,w⟩:=h
 by_cases e:xs=[]
 ·subst e;refine qC hr pins s σ H _ _ v u Q I rx ry ⟨.lst [],.lst [],?_,?_,by decide,w⟩
  ·unfold aN;exact⟨p,[],rfl,h1,by unfold ba;rfl⟩
  ·unfold aN;exact⟨q,[],rfl,h2,by unfold ba;rfl⟩
 ·cases(show v=Value.ref p from rx)
  cases(show u=Value.ref q from ry)
  obtain⟨its,r1,p1,_⟩:=I.list h1;obtain⟨IB,r2,p2,_⟩:=I.list h2
  cases r2
  have hl:=r1.length;have hx:xs.length≠0:=λz=>e (List.eq_nil_of_length_eq_zero z)
  have hs:(its.toArray.size != ([]:oH).toArray.size)=true:=by
   have:its.toArray.size≠0:=by rw[List.size_toArray];omega
   simpa using this
  exact SeqAt.RcNeAt.lists_lengths p1.isList p2.isList hs hr.aa2 X.prog X.w X.xe _ ⟨.bl true,H,I,rfl,by simpa[e] using w⟩
end
end L2
namespace HT
open PySem PyProof.Rows
section
variable {prog:yn}{w:World}{A:Around}{E:yj}{s:Dx}
theorem gY {t sl:Addr}{items:GV}{vl vu:Value}{lo hi:Option Int}{Q:yj}(ht:IsTup s.heap t items)(hs:s.heap.IsSliceOf sl vl vu .none)(pl:IsPart vl lo)(pu:IsPart vu hi)
 (h0:eN items.size 0 lo=0)(h1:eN items.size items.size hi=items.size)(h:Q (.ref t) s):wpAny (model prog w) A (getItem (.ref t) (.ref sl)) Q E s:=by
 obtain⟨os,Mv,Su,Oe⟩:=id hs;have Tn:s.TypeIs (.ref sl) "slice":=⟨os,Mv,Su⟩;unfold getItem
 try with_reducible refine wpAny_holding ?_
 first|refine wpAny_bind (wpAny_pure ?_)|skip
 refine wpAny_bind (wpAny_sequenceKey ht.typeIs (by decide) ?_)
 refine wpAny_bind (wpAny_callSpecial?_slot (name:=Str.ofString "__getitem__") ht.typeIs PyProof.Rows.slot_tuple_getitem
  (wpAny_call_entry PyProof.Rows.slot_tuple_getitem ht.typeIs entry_tuple_getitem ?_ (args_tuple_getitem _ _)))
 show wpAny _ _ (Builtin.Tuple.tupleItemsOf (.ref t)>>=_) _ _ s;refine wpAny_bind (tupleItemsOf_ ht ?_);refine wpAny_bind (wpAny_typeOf Tn ?_);rw[if_pos (by decide)];refine wpAny_bind (fh hs pl pu ?_);rw[h0,h1]
 have Kd:((((0:Nat):Int)==0&&(1:Int)==1&&(items.size-0)==items.size)=true):=by simp
 dsimp only;rw[if_pos Kd];show wpAny _ _ (Builtin.Tuple.tupleIsExact (.ref t)>>=_) _ _ s;refine wpAny_bind ?_;unfold Builtin.Tuple.tupleIsExact;refine wpAny_bind (wpAny_typeOf ht.typeIs (wpAny_pure ?_));rw[if_pos (by decide)];refine wpAny_bind (wpAny_rule ?_);exact wpAny_pure ⟨_,rfl,wpAny_pure h⟩
end
end HT
namespace L2
open PySem PySem.Spec PyProof.Rows PySem.W
variable {X:Cx}
def Ha (K:Frag):V->Option Int->Option Int->Hp->VK->Prop:=λx lo hi H Q=>∃a xs,x=.ref a/\br K H a xs/\(oW xs lo hi=xs->Q (.ref a) H)/\∀p,H p=none->Q (.ref p) (upd H p (.tup (oW xs lo hi)))
theorem zU:GO X (Ha X.K):=by
 intro pins s σ H x v vl vu lo hi sl Q I rx hs pl pu h;obtain⟨a,xs,rfl,hx,h1,h2⟩:=h
 by_cases hw:HT.eN xs.length 0 lo=0/\HT.eN xs.length xs.length hi=xs.length
 ·cases rx
  obtain⟨its,r,ht,hz⟩:=I.tuple hx
  have hlen:its.toArray.size=xs.length:=by rw[List.size_toArray];exact r.length.symm
  refine⟨"tuple",_,PyProof.Rows.slot_tuple_getitem.lookup,ht.typeIs,?_⟩;refine HT.gY ht hs pl pu (by rw[hlen];exact hw.1) (by rw[hlen];exact hw.2) ?_;refine⟨.ref a,H,I,rfl,h1 ?_⟩;unfold oW;rw[hw.1,hw.2];simp
 ·exact DS pins s σ H (.ref a) v vl vu lo hi sl Q I rx hs pl pu ⟨a,xs,rfl,hx,hw,h2⟩
section
variable {X:Cx}
theorem yH {H:Hp}{p:Addr}{o:HO}(h:H p=none):aA H (upd H p o):=λb u e=>by rw[av (ax e h)];exact e
def ab6:R2:=λx y H Q=>∃a b xs ys,x=.ref a/\y=.ref b/\H a=some (.lst xs)/\H b=some (.lst ys)/\xs.length+ys.length<=sizeLine/\∀p H',H p=none->aA H H'->H' p=some (.lst (xs++ys))->Q (.ref p) H'
theorem eI:eE X (binaryOp .Add) ab6:=by
 intro pins s σ H x y v u Q I rx ry h;obtain⟨a,b,xs,ys,rfl,rfl,ha,hb,hz,q⟩:=h;exact BX pins s σ H _ _ v u Q I rx ry ⟨a,b,xs,ys,rfl,rfl,ha,hb,hz,λp hp=>q p _ hp (yH hp) ah⟩
end
end L2
namespace K73
open PySem L2 PySem.W Nm
theorem zV {xs:List Int}{w:Int}(h0:0<=w)(h1:w<xs.length):∃x∈xs,sr (xs.map V.int) w=some (.int x):=by
 have hl:w.toNat<xs.length:=by omega
 refine⟨xs[w.toNat],List.getElem_mem hl,?_⟩;have z:=sY (xs:=xs.map V.int) (j:=w.toNat) (v:=V.int xs[w.toNat]) (by rw[List.getElem?_map];simp[hl])
 have e:((w.toNat:Nat):Int)=w:=by omega
 rw[e] at z;exact z
variable {P:yn}{w:World}{K:PySem.W.Frag}{mg:xf}{base:Heap}
abbrev CA:List Int:=[0,0,0,0,0,2,3,5,7,11,13,17,19,23,29,31,37,41,43,47,53,59,61,67,71,73,79,83,89]
theorem p6:Av ["_law_pool_here","_law_some"] zr (aj yb):=dk (by decide +kernel)
variable {f:Addr}{fd:zo}
set_option maxHeartbeats 1000000 in
theorem vX {ft:Addr}{JQ:zo}(F:Ao K "_law_prime" "_law_prime" yb f fd)(FT:Ik P w K mg base (aU P w) 1 ft JQ u7 GU)(bT:L2.ay K JQ u7 [])(mT:mg "_law_take"=some (.ref ft))(kT:keepIn K (.ref ft)=true):
 Ik P w K mg base (aU P w) 2 f fd zr Ct:=by
 refine F.okN p6 (λvs H Q E h=>?_) (λIv A outer s H vs Q E hr h=>?_)
 ·obtain⟨r,rfl,_⟩:=h;rfl
 ·obtain⟨r,rfl,⟨l,x,hR,x0,x1⟩,q⟩:=h
  refine⟨_,@ak _ _ _ _ _ (@aV _ _ 1 _ _ _ _ p6.nd rfl (Or.inl rfl) (@uD _ _ _ CA rfl (by decide)) rfl (Or.inl rfl))
   (@aq _ _ _ (@az _ _ _ _ (@bg _ _ _ _ _ _ _ dS (@aC _ _ _ _ _ _ _ _ eI (pv 1) (@uD _ _ _ [97] rfl (by decide))) (aB FT hr (by rfl) mT kT bT .nil ae (@ao _ _ _ _ _ (pv 0) (@ao _ _ _ _ _ au af rfl) rfl)) (λ_ _=>rfl)))),?_⟩
  intro m hm;have S1:=ar (o:=.lst (CA.map V.int)) hm;have e1:upd H m (.lst (CA.map V.int)) m=some (.lst (CA.map V.int)):=ah;generalize upd H m _=H1 at S1 e1 |-;refine⟨_,rfl,λm2 SI=>?_⟩;have S2:=ar (o:=.lst ([97].map V.int)) SI;refine⟨m,m2,_,_,rfl,rfl,S2 _ _ e1,ah,by decide,λm3 H3 _ S3 e3=>?_⟩;have S:=S1.trans (S2.trans S3);refine⟨_,rfl,r,l,x,30,rfl,S _ _ hR,x0,x1,by decide,by decide,λz l2 r2 z0 z1 g0 g1=>?_⟩;obtain⟨y,hy,LL⟩:=zV (xs:=CA++[97]) z0 (by have:(CA++[97]).length=30:=rfl;omega);have nm:m3≠r:=y8 e3 (S _ _ hR) (by intro z;cases z)
  rw[List.map_append] at LL
  refine⟨m3,_,z,_,rfl,rfl,bo.of (by rw[av nm];exact e3),LL,?_⟩
  have all:∀y∈CA++[97],y=0\/y∈Hb:=by decide
  exact q y _ (all y hy) ⟨l2,r2,ah,g0,g1⟩ ((SameBut.of S).trans SameBut.upd)
abbrev xU:Stmt:=aJ (aL 23) 4
abbrev nj:Stmt:=aJ (aL 23) 11
variable {H:Hp}{x:V}
theorem Th.same {H':Hp}{T:String}(h:Th H x T)(s:aA H H'):Th H' x T:=by
 cases h with
 |non=>exact .non
 |bl b=>exact .bl b
 |int i=>exact .int i
 |str x=>exact .str x
 |lst e=>exact .lst (s _ _ e)
 |tup e=>exact .tup (s _ _ e)
 |dK e=>exact .dK (s _ _ e)
inductive TX (H:Hp):V->Option (V×V)->Prop where
 |no {x:V}{T:String}:Th H x T->T ≠ "tuple"->TX H x none
 |odd {a:Addr}{xs:List V}:H a=some (.tup xs)->xs.length≠2->TX H (.ref a) none
 |two {a:Addr}{y z:V}{Ty Tz:String}:H a=some (.tup [y,z])->Th H y Ty->Th H z Tz->TX H (.ref a) (some (y,z))
theorem TX.same {H':Hp}{o:Option (V×V)}(h:TX H x o)(s:aA H H'):TX H' x o:=by
 cases h with
 |no th n=>exact .no (th.same s) n
 |odd e n=>exact .odd (s _ _ e) n
 |two e h1 h2=>exact .two (s _ _ e) (h1.same s) (h2.same s)
def rP (p:Int):Option (V×V)->Bool
 |some (.int t,.int b)=>if p=0 then decide (1<=b)&&decide (Int.gcd t b=1) else decide (b=1)&&(decide (0<=t)&&decide (t<p))
 |_=>false
theorem Th.isTup {K:Frag}{T:String}(h:Th H x T):kitOne K (.type T) (.type "tuple")=some (decide (T="tuple")):=by cases h <;> rfl
def lj (C NN:Addr):Sp:=λvs H Q E=>∃(s dx:Addr)(p:Int)(x y:V)(Tx Ty:String),vs=[.ref s,x,y]/\H s=some (.ins C dx (cE p))/\Th H x Tx/\Th H y Ty/\(∀t b,x=.int t->y=.int b->oO C NN [.ref s,.int t,.int b] H Q E)/\((dz x&&dz y)=false->E (.ref NN) none H)
def ib (C:Addr):Sp:=λvs H Q _=>∃(s dx:Addr)(p:Int)(x:V)(o:Option (V×V)),vs=[.ref s,x]/\H s=some (.ins C dx (cE p))/\FP p/\TX H x o/\Q (.bl (rP p o)) H
theorem B6:Av Cs Cs (aj xU):=dk (by decide +kernel)
theorem Ba {C NN fq fw T:Addr}{Oy Je:zo}(F:EX K "made" "Field.made" xU f fd T)(c:vR K mg C)(mN:mg "NoNumber"=some (.ref NN))(qN:jL K NN zz md=true)
 (FQ:Ik P w K mg base (aU P w) 3 fq Oy Cs (oO C NN))(bQ:L2.ay K Oy Cs [])(mQ:L2.Meth K C "quotient" fq)
 (FW:Ik P w K mg base (aU P w) 1 fw Je wg Bk)(bW:L2.ay K Je wg [])(mW:mg "is_whole"=some (.ref fw))(kW:keepIn K (.ref fw)=true):Ik P w K mg base (aU P w) 4 f fd Cs (lj C NN):=by
 refine F.okE B6 (λvs H Q E h=>?_) (λIv A outer s H vs Q E hr h=>?_)
 ·obtain⟨s,dx,p,x,y,Tx,Ty,rfl,_⟩:=h;rfl
 ·obtain⟨s,dx,p,x,y,Tx,Ty,rfl,hs,hx,hy,q,qE⟩:=h;have IH:p8 1 _:=hr.mono (by decide)
  refine⟨_,ak (a9 (PW.pt (d0 (bJ (bF (aB FW IH (by rfl) mW kW bW .nil ae (ao (pv 1) af)))) (dw (bJ (bF (aB FW IH (by rfl) mW kW bW .nil ae (ao (pv 2) af)))))))
   (aq (eh PySem.F.excBase_ValueError qN rfl c9 (by rfl) mN (ao fN af))) aF)
   (aq (az (bY (E:=E) (pv 0) c.cl mQ FQ hr bQ .nil rq (ao (pv 1) (ao (pv 2) af))))),?_⟩
  refine⟨_,rfl,x,Tx,rfl,hx,_,rfl,?_⟩
  cases e1:dz x with
  |false=>exact b0 (b0 ⟨by decide,qE (by rw[e1];rfl)⟩)
  |true =>
   refine bw ⟨_,rfl,y,Ty,rfl,hy,_,rfl,?_⟩
   cases e2:dz y with
   |false=>exact b0 ⟨by decide,qE (by rw[e1,e2];rfl)⟩
   |true =>
    have z1:∃t,x=.int t:=by cases x <;> first|exact⟨_,rfl⟩|cases e1
    have z2:∃b,y=.int b:=by cases y <;> first|exact⟨_,rfl⟩|cases e2
    obtain⟨t,rfl⟩:=z1;obtain⟨b,rfl⟩:=z2;exact bw ⟨_,rfl,s,dx,_,rfl,hs,rfl,_,rfl,_,rfl,q t b rfl rfl⟩
theorem ic:Av ["self","thing","top","bottom"] vK (aj nj):=dk (by decide +kernel)
theorem pC {C fg fw:Addr}{IY Je:zo}{tF:Tok}(F:Ao K "is_number" "Field.is_number" nj f fd)(c:vR K mg C)(mF:mg "FRACTIONS"=some (.int 0 tF))(n:GP mg)(mT:mg "tuple"=none)(mN:mg "len"=none)
 (FG:Ik P w K mg base (aU P w) 1 fg IY DQ qi)(bG:L2.ay K IY DQ [])(mG:mg "common_divisor"=some (.ref fg))(kG:keepIn K (.ref fg)=true)
 (FW:Ik P w K mg base (aU P w) 1 fw Je wg Bk)(bW:L2.ay K Je wg [])(mW:mg "is_whole"=some (.ref fw))(kW:keepIn K (.ref fw)=true):Ik P w K mg base (aU P w) 2 f fd vK (ib C):=by
 refine F.okN ic (λvs H Q E h=>?_) (λIv A outer s H vs Q E hr h=>?_)
 ·obtain⟨s,dx,p,x,o,rfl,_⟩:=h;rfl
 ·obtain⟨s,dx,p,x,o,rfl,hs,hp,tx,q⟩:=h
  refine⟨_,ak (a9 (PW.pt (d0 (bJ (bF (aD aQ (by rfl) n.isi (by rfl) (ao (pv 1) (ao (c6 (by rfl) mT (by rfl) (show aG (.ty "tuple") (.type "tuple") from rfl)) af)))))
   (dw (aK fW (aD bu (by rfl) mN PySem.boot_len (ao (pv 1) af)) au (aI _))))) (aq (az dh)) aF)
   (ak (rm (pv 1) (de rfl (aR (aE (i:=2) ic.nd rfl (Or.inl rfl)) (aR (aE (i:=3) ic.nd rfl (Or.inl rfl)) cy))))
   (ak (a9 (PW.pt (d0 (bJ (bF (aB FW hr (by rfl) mW kW bW .nil ae (ao (pv 2) af)))) (dw (bJ (bF (aB FW hr (by rfl) mW kW bW .nil ae (ao (pv 3) af))))))) (aq (az dh)) aF)
   (ak (a9 (aK dZ (bO (pv 0) rfl) (bX (by rfl) mF (show aG (.int 0) (.int 0 tF) from⟨_,rfl⟩)) (aI _))
    (aq (az (dC (cI TGs (pv 3) au (aI _)) (eV (cI dZ (aB FG hr (by rfl) mG kG bG .nil ae (ao (pv 2) (ao (pv 3) af))) au (aI _)))))) aF)
   (aq (az (dC (cI dZ (pv 3) au (aI _)) (eV (ka iH jC au (pv 2) (bO (pv 0) rfl))))))))),?_⟩
  cases tx with
  |@no x T th ne =>
   refine⟨_,rfl,x,.ty "tuple",_,_,_,rfl,rfl,th.ty,th.isTup,_,rfl,?_⟩;rw[decide_eq_false ne];exact b0 (b0 q)
  |@odd a xs ha hl =>
   refine⟨_,rfl,.ref a,.ty "tuple",_,_,_,rfl,rfl,.of (.tup ha),rfl,_,rfl,bw ?_⟩;refine⟨_,rfl,a,_,rfl,.inr (br.of ha),rfl,_,rfl,?_⟩;refine dH (λ_=>q) (λh=>absurd (by simp;omega) h)
  |@two a y z Ty Tz ha hy hz =>
   refine⟨_,rfl,.ref a,.ty "tuple",_,_,_,rfl,rfl,.of (.tup ha),rfl,_,rfl,bw ?_⟩;refine⟨_,rfl,a,_,rfl,.inr (br.of ha),rfl,_,rfl,?_⟩;refine dH (λh=>absurd h (by simp)) (λ_=>?_);refine⟨_,rfl,a,_,rfl,br.of ha,rfl,_,_,rfl,_,_,rfl,rfl,?_⟩;refine⟨_,rfl,y,Ty,rfl,hy,_,rfl,?_⟩
   cases e1:dz y with
   |false =>
    have z1:rP p (some (y,z))=false:=by cases y <;> first|rfl|cases e1
    rw[z1] at q;exact b0 (b0 q)
   |true =>
    refine bw ⟨_,rfl,z,Tz,rfl,hz,_,rfl,?_⟩
    cases e2:dz z with
    |false =>
     have z1:rP p (some (y,z))=false:=by cases y <;> cases z <;> first|rfl|cases e2
     rw[z1] at q;exact b0 q
    |true =>
     have z1:∃t,y=.int t:=by cases y <;> first|exact⟨_,rfl⟩|cases e1
     have z2:∃b,z=.int b:=by cases z <;> first|exact⟨_,rfl⟩|cases e2
     obtain⟨t,rfl⟩:=z1;obtain⟨b,rfl⟩:=z2;refine bw ?_;refine⟨_,rfl,s,C,dx,_,_,rfl,hs,c.cl,c.nP,rfl,rfl,_,rfl,?_⟩;refine dH (λh=>?_) (λh=>?_)
     ·have Jh:p=0:=by simpa using h
      have z1:rP p (some (.int t,.int b))=(decide (1<=b)&&decide (Int.gcd t b=1)):=by simp[rP,Jh]
      rw[z1] at q;refine⟨_,rfl,_,_,rfl,rfl,_,rfl,?_⟩;refine dH (λh1=>?_) (λh1=>?_)
      ·refine⟨_,rfl,_,rfl,t,b,rfl,rfl,?_⟩
       have e3:decide (V.int (eC t b)=V.int 1)=decide (Int.gcd t b=1):=by
        unfold eC
        by_cases g:Int.gcd t b=1
        ·simp[g]
        ·have:¬((Int.gcd t b:Nat):Int)=1:=by omega
         simp[g,this]
       have Lv:decide (1<=b)=true:=h1;rw[Lv,Bool.true_and,<-e3] at q;exact q
      ·have Lv:decide (1<=b)=false:=by simpa using h1
       rw[Lv,Bool.false_and] at q;exact q
     ·have Jh:p≠0:=by simpa using h
      have z1:rP p (some (.int t,.int b))=(decide (b=1)&&(decide (0<=t)&&decide (t<p))):=by simp[rP,Jh]
      rw[z1] at q;refine⟨_,rfl,rfl,_,rfl,?_⟩;refine dH (λh1=>?_) (λh1=>?_)
      ·have Lv:decide (b=1)=true:=by simpa using h1
       rw[Lv,Bool.true_and] at q;refine⟨_,rfl,_,_,rfl,rfl,_,rfl,?_⟩;refine dH (λh2=>?_) (λh2=>?_)
       ·refine⟨_,rfl,s,C,dx,_,_,rfl,hs,c.cl,c.nP,rfl,_,_,rfl,rfl,?_⟩;have NG:decide (0<=t)=true:=h2;rw[NG,Bool.true_and] at q;exact q
       ·have NG:decide (0<=t)=false:=by simpa using h2
        rw[NG,Bool.false_and] at q;exact q
      ·have Lv:decide (b=1)=false:=by simpa using h1
       rw[Lv,Bool.false_and] at q;exact q
end K73
namespace Lw
open PySem PySem.W PyProof.Rows
variable {i:Nat}
section
variable {prog:yn}{w:World}{A:Around}{E:yj}{s:Dx}{d it:Addr}{es:Array DictEntry}{ep:Nat}{o:Obj}
structure Raw (h:Heap)(d:Addr)(es:Array DictEntry)(ep:Nat):Prop where
 ex:∃o,h.get? d=some o/\o.ExactDict/\o.data=.dict es ep
theorem Raw.ty (r:Raw s.heap d es ep):s.TypeIs (.ref d) "dict":=let⟨o,h,x,_⟩:=r.ex;⟨o,h,x.1⟩
theorem Raw.keep {h h':Heap}(r:Raw h d es ep)(k:∀o,h.get? d=some o->h'.get? d=some o):Raw h' d es ep:=let⟨o,h1,x⟩:=r.ex;⟨o,k o h1,x⟩
theorem rA {Q:yj}(r:Raw s.heap d es ep)(hd:(d==sysModules)=false)(h:Q (.ref s.heap.objs.size) {s with heap:=s.heap.push {cls:=.type "dict_items",data:=.fields #[.ref d]} }):
 wpAny (model prog w) A (call (.builtin "dict.items") [.ref d]) Q E s:=by
 refine wpAny_call_entry F.slot_dict_items r.ty F.entry_dict_items ?_ (F.args_dict_items_1 _);unfold Builtin.«dict.items» Builtin.Dict.noArgs;refine wpAny_bind (wpAny_bind (wpAny_notOrdered_dict r.ty (wpAny_pure ?_)));show wpAny _ _ (Builtin.Dict.showsAll d>>=_) _ _ s;unfold Builtin.Dict.showsAll;rw[if_neg (by rw[hd];exact Bool.false_ne_true)];exact wpAny_bind (wpAny_pure (wpAny_bind (wpAny_newObj_type (wpAny_pure ⟨_,rfl,h⟩))))
theorem rF {v:Addr}{Q:yj}(hv:s.heap.IsItemsView v d)(r:Raw s.heap d es ep)
 (hQ:Q (.ref s.heap.objs.size) {s with heap:=s.heap.push {cls:=.type "dict_itemiterator",data:=.fields #[.none,.bool false,.ref d,.int 0 0,.int es.size 0,.int ep 0,.none,.none]} }):wpAny (model prog w) A (pyIter (.ref v)) Q E s:=by
 obtain⟨ov,g1,g2,g3⟩:=id hv;obtain⟨o,h1,h2,h3⟩:=r.ex;refine wpAny_pyIter_slot hv.typeIs F.slot_dict_items_iter (wpAny_call_entry F.slot_dict_items_iter hv.typeIs F.entry_dict_items_iter ?_ (F.args_dict_items_iter_1 _));unfold Builtin.«dict_items.__iter__» Builtin.Dict_items.dictOf;refine wpAny_bind (wpAny_pure (wpAny_bind (wpAny_bind (wpAny_field g1 g3 (x:=.ref d) rfl (wpAny_pure (wpAny_bind ?_))))));unfold Builtin.Dict_items.newIterator;refine wpAny_bind (wpAny_dictEntries h1 h3 (wpAny_bind (wpAny_dictEpoch h1 h3 ?_)));simp only[show Builtin.Dict_items.ownsTuple "dict_itemiterator"=true from by decide,if_true];refine wpAny_newObj_type (wpAny_pure ⟨_,rfl,"dict_itemiterator",_,⟨_,Heap.get?_push_size _ rfl,rfl⟩,F.slot_dict_itemiterator_next.lookup,?_⟩) (by simp only[sizeOk,Builtin.Dict_items.ownedTupleFields,List.size_toArray,List.length_append,List.length_cons,List.length_nil,sizeLine_eq];omega);simpa[rawInt,Builtin.Dict_items.ownedTupleFields] using hQ
theorem qI {ok ov:Value}{Q:Option Value->Shared->Prop}(hit:IsItemIter s.heap it d i es.size ep ok ov)(r:Raw s.heap d es ep)(hi:i<es.size)
 (hQ:∀h',IsItemIterOut h' it d (i+1) es.size ep es[i].key es[i].val s.heap.objs.size->h'.get? s.heap.objs.size=some {cls:=.type "tuple",data:=.seq #[es[i].key,es[i].val]}->h'.objs.size=s.heap.objs.size+1 →
  (∀b o,b≠it->s.heap.get? b=some o->h'.get? b=some o)->Q (some (.ref s.heap.objs.size)) {s with heap:=h'}):wpAny (model prog w) A (pyNext (.ref it)) Q E s:=by
 obtain⟨hp,g,dr,tk,os⟩:=s;obtain⟨o,h1,h2,h3⟩:=r.ex;have hT:Shared.TypeIs ⟨hp,g,dr,tk,os⟩ (.ref it) "dict_itemiterator":=⟨_,hit,rfl⟩;unfold pyNext;refine wpAny_bind (wpAny_attempt (wpAny_callSpecial?_slot (name:=Str.ofString "__next__") hT F.slot_dict_itemiterator_next (wpAny_call_entry F.slot_dict_itemiterator_next hT F.entry_dict_itemiterator_next ?_ (F.args_dict_itemiterator_next_1 _))));refine wpAny_bind (wpAny_pure (wpAny_bind (wpAny_bind ?_)))
 first|refine wpAny_bind (wpAny_typeNameOfWhole_itemiter hT (wpAny_pure (wpAny_bind (wpAny_fieldsOf hit rfl ?_))))|refine wpAny_bind (wpAny_typeNameOf_itemiter hT (wpAny_pure (wpAny_bind (wpAny_fieldsOf hit rfl ?_))))
 simp only[show Builtin.Dict_items.ownsTuple "dict_itemiterator"=true from by decide,if_true];show wpAny _ _ (if(Value.ref d==Value.none)=true then _ else _) _ _ _;rw[if_neg (show ¬((Value.ref d==Value.none)=true) from Bool.false_ne_true)];refine wpAny_bind (wpAny_pure (wpAny_bind (wpAny_dictEntries h1 h3 ?_)));rw[if_neg (by simp)];refine wpAny_bind (wpAny_pure (wpAny_bind (wpAny_dictEpoch h1 h3 ?_)));rw[if_neg (by simp)];refine wpAny_pure ?_;simp only[show ¬((i:Int)<0) from by omega,if_false,Int.toNat_natCast,Array.getElem?_eq_getElem hi];refine wpAny_bind ?_
 first|refine wpAny_bind (wpAny_typeNameOfWhole_itemiter hT (wpAny_pure (wpAny_bind (wpAny_isOneOf_itemiter hT ?_))))|refine wpAny_bind (wpAny_typeNameOf_itemiter hT (wpAny_pure (wpAny_bind (wpAny_isOneOf_itemiter hT ?_))))
 show wpAny _ _ (setField (.ref it) 3 (rawInt ((i:Int)+1))>>=_) _ _ ⟨hp,g,dr,tk,os⟩;refine wpAny_bind (wpAny_setField_rec hit (by simp) λk1 e1 (b1:Heap.SameBut it hp k1)=>?_)
 have q1:IsItemIter k1 it d (i+1) es.size ep ok ov:=by
  unfold IsItemIter;rw[show((i+1:Nat):Int)=(i:Int)+1 by omega];simpa[rawInt] using e1
 have t1:Shared.TypeIs ⟨k1,g,dr,tk,os⟩ (.ref it) "dict_itemiterator":=⟨_,q1,rfl⟩;refine wpAny_bind (wpAny_holding (wpAny_bind (wpAny_isOneOf_itemiter t1 (wpAny_bind (wpAny_isOneOf_itemiter t1 ?_)))));show wpAny _ _ (Builtin.Dict_items.pairFromOwner (.ref it) 6 es[i].key es[i].val) _ _ ⟨k1,g,dr,tk,os⟩;unfold Builtin.Dict_items.pairFromOwner;refine wpAny_bind (wpAny_newTuple ?_);have q2:IsItemIter (k1.push {cls:=.type "tuple",data:=.seq #[es[i].key,es[i].val]}) it d (i+1) es.size ep ok ov:=Heap.get?_push_of_some _ q1;have z1:k1.objs.size=hp.objs.size:=b1.1;have ne:hp.objs.size≠it:=Nat.ne_of_gt (Heap.lt_size hit)
 have w2:(k1.push {cls:=.type "tuple",data:=.seq #[es[i].key,es[i].val]}).get? hp.objs.size=some {cls:=.type "tuple",data:=.seq #[es[i].key,es[i].val]}:=by rw[<-z1];exact Heap.get?_push_size _ rfl
 have z2:(k1.push {cls:=.type "tuple",data:=.seq #[es[i].key,es[i].val]}).objs.size=hp.objs.size+1:=by rw[Heap.size_push,z1]
 have p2:∀b o,b≠it->hp.get? b=some o->(k1.push {cls:=.type "tuple",data:=.seq #[es[i].key,es[i].val]}).get? b=some o:=λb o hb e=>Heap.get?_push_of_some _ (b1.extBut b o hb e);show wpAny _ _ (Builtin.Dict_items.ownedTupleIsFree (.ref it)>>=_) _ _ ⟨k1.push {cls:=.type "tuple",data:=.seq #[es[i].key,es[i].val]},g,dr,tk,os⟩;rw[z1];generalize k1.push {cls:=.type "tuple",data:=.seq #[es[i].key,es[i].val]}=k2 at q2 w2 z2 p2 |-;unfold Builtin.Dict_items.ownedTupleIsFree;refine wpAny_bind (wpAny_bind (wpAny_field q2 rfl (x:=.none) rfl (wpAny_pure ?_)));simp only[if_true];refine wpAny_bind (wpAny_field q2 rfl (x:=ok) rfl (wpAny_bind (wpAny_field q2 rfl (x:=ov) rfl (wpAny_bind (wpAny_setField_rec q2 (by simp) λk3 e3 (b3:Heap.SameBut it k2 k3)=>?_)))));have q3:IsItemIter k3 it d (i+1) es.size ep es[i].key ov:=e3;refine wpAny_bind (wpAny_setField_rec q3 (by simp) λk4 e4 (b4:Heap.SameBut it k3 k4)=>?_);have q4:IsItemIter k4 it d (i+1) es.size ep es[i].key es[i].val:=e4;refine wpAny_bind (wpAny_setField_rec q4 (by simp) λk5 e5 (b5:Heap.SameBut it k4 k5)=>?_);have q5:IsItemIterOut k5 it d (i+1) es.size ep es[i].key es[i].val hp.objs.size:=e5;refine wpAny_bind (wpAny_setField_rec q5 (by simp) λk6 e6 (b6:Heap.SameBut it k5 k6)=>?_);have q6:IsItemIterOut k6 it d (i+1) es.size ep es[i].key es[i].val hp.objs.size:=e6;have go:∀b o,b≠it->k2.get? b=some o->k6.get? b=some o:=λb o hb e=>b6.extBut b o hb (b5.extBut b o hb (b4.extBut b o hb (b3.extBut b o hb e)));exact wpAny_bind (wpAny_letGo (wpAny_pure (wpAny_pure ⟨_,rfl,wpAny_pure (hQ k6 q6 (go _ _ ne w2) (by show k6.objs.size=hp.objs.size+1;rw[b6.1,b5.1,b4.1,b3.1,z2]) λb o hb e=>go b o hb (p2 b o hb e))⟩)))
theorem v3 {ok ov:Value}{Q:Option Value->Shared->Prop}(hh:A.handled=none)(hit:IsItemIter s.heap it d i es.size ep ok ov)(r:Raw s.heap d es ep)(hi:es.size<=i)
 (hQ:∀h',Heap.ExtBut it s.heap h'->Q none {s with heap:=h'}):wpAny (model prog w) A (pyNext (.ref it)) Q E s:=by
 obtain⟨o,h1,h2,h3⟩:=r.ex;have hT:s.TypeIs (.ref it) "dict_itemiterator":=⟨_,hit,rfl⟩;unfold pyNext;refine wpAny_bind (wpAny_attempt (wpAny_callSpecial?_slot (name:=Str.ofString "__next__") hT F.slot_dict_itemiterator_next (wpAny_call_entry F.slot_dict_itemiterator_next hT F.entry_dict_itemiterator_next ?_ (F.args_dict_itemiterator_next_1 _))));refine wpAny_bind (wpAny_pure (wpAny_bind (wpAny_bind ?_)))
 first|refine wpAny_bind (wpAny_typeNameOfWhole_itemiter hT (wpAny_pure (wpAny_bind (wpAny_fieldsOf hit rfl ?_))))|refine wpAny_bind (wpAny_typeNameOf_itemiter hT (wpAny_pure (wpAny_bind (wpAny_fieldsOf hit rfl ?_))))
 simp only[show Builtin.Dict_items.ownsTuple "dict_itemiterator"=true from by decide,if_true];show wpAny _ _ (if(Value.ref d==Value.none)=true then _ else _) _ _ _;rw[if_neg (show ¬((Value.ref d==Value.none)=true) from Bool.false_ne_true)];refine wpAny_bind (wpAny_pure (wpAny_bind (wpAny_dictEntries h1 h3 ?_)));rw[if_neg (by simp)];refine wpAny_bind (wpAny_pure (wpAny_bind (wpAny_dictEpoch h1 h3 ?_)));rw[if_neg (by simp)];refine wpAny_pure ?_;simp only[show ¬((i:Int)<0) from by omega,if_false,Int.toNat_natCast,Array.getElem?_eq_none hi];refine wpAny_bind ?_
 first|refine wpAny_bind (wpAny_typeNameOfWhole_itemiter hT (wpAny_pure ?_))|refine wpAny_bind (wpAny_typeNameOf_itemiter hT (wpAny_pure ?_))
 show wpAny _ _ (setField (.ref it) 2 .none>>=_) _ _ s;refine wpAny_bind (wpAny_setField hit rfl (by simp) ?_);show wpAny _ _ (newExc (.type "StopIteration") []>>=_) _ _ _;refine wpAny_bind ?_;simp only[newExc,newTuple];refine wpAny_bind (wpAny_newObj_type (wpAny_bind (m:=firstArgMember _ _) (wpAny_of_eq (a:=Value.none) (by first|rfl|(simp only[firstArgMember];rfl)) (wpAny_newObj_type ?_ (by size_fits)))) (by size_fits));simp only[raiseNew];refine wpAny_bind (wpAny_handled ?_);rw[show A.in1.handled=none from hh];refine wpAny_bind (wpAny_pure (wpAny_throw ?_));refine wpAny_bind (wpAny_isInstance (T:="StopIteration") (b:=true) ⟨_,Heap.get?_push_size _ rfl,rfl⟩ isSubtype_stop ?_);exact wpAny_pure (hQ _ (((Heap.SameBut.update ..).extBut.push _).push _))
theorem vb {Q:yj}(r:Raw s.heap d es ep)(hd:(d==sysModules)=false)
 (hQ:Q (.ref s.heap.objs.size) {s with heap:=s.heap.push {cls:=.type "dict_keyiterator",data:=.fields #[.ref d,.int 0 0,.int es.size 0,.int ep 0]} }):wpAny (model prog w) A (pyIter (.ref d)) Q E s:=by
 obtain⟨o,h1,h2,h3⟩:=r.ex;refine wpAny_pyIter_slot r.ty F.slot_dict_iter (wpAny_call_entry F.slot_dict_iter r.ty F.entry_dict_iter ?_ (F.args_dict_iter_1 _));unfold Builtin.«dict.__iter__» Builtin.Dict.dictSlotNone;refine wpAny_bind (wpAny_bind (wpAny_notOrdered_dict r.ty (?_:wpAny _ _ (pure (Value.ref d)) _ _ s)));refine wpAny_pure ?_;show wpAny _ _ (Builtin.Dict.showsAll d>>=_) _ _ s;unfold Builtin.Dict.showsAll;rw[if_neg (by rw[hd];exact Bool.false_ne_true)];refine wpAny_bind (wpAny_pure (wpAny_bind (wpAny_dictEntries h1 h3 (wpAny_bind (wpAny_dictEpoch h1 h3 (wpAny_bind (wpAny_newObj_type (wpAny_pure ⟨_,rfl,"dict_keyiterator",_,⟨_,Heap.get?_push_size _ rfl,rfl⟩,F.slot_dict_keyiterator_next.lookup,?_⟩))))))));simpa[rawInt] using hQ
theorem uN {Q:Option Value->Shared->Prop}(hit:s.heap.IsKeyIter it d i es.size ep)(r:Raw s.heap d es ep)(hi:i<es.size)
 (hQ:∀h',h'.IsKeyIter it d (i+1) es.size ep->Heap.SameBut it s.heap h'->Q (some es[i].key) {s with heap:=h'}):wpAny (model prog w) A (pyNext (.ref it)) Q E s:=by
 obtain⟨oi,g1,g2,g3⟩:=id hit;obtain⟨o,h1,h2,h3⟩:=r.ex;have hT:=hit.typeIs;unfold pyNext;refine wpAny_bind (wpAny_attempt (wpAny_callSpecial?_slot (name:=Str.ofString "__next__") hT F.slot_dict_keyiterator_next (wpAny_call_entry F.slot_dict_keyiterator_next hT F.entry_dict_keyiterator_next ?_ (F.args_dict_keyiterator_next_1 _))));refine wpAny_bind (wpAny_pure (wpAny_bind (wpAny_bind ?_)))
 first|refine wpAny_bind (wpAny_typeNameOfWhole_keyiter hT (wpAny_pure (wpAny_bind (wpAny_fieldsOf g1 g3 ?_))))|refine wpAny_bind (wpAny_typeNameOf_keyiter hT (wpAny_pure (wpAny_bind (wpAny_fieldsOf g1 g3 ?_))))
 simp only[show Builtin.Dict_items.ownsTuple "dict_keyiterator"=false from by decide,Bool.false_eq_true,if_false];show wpAny _ _ (if(Value.ref d==Value.none)=true then _ else _) _ _ _;rw[if_neg (show ¬((Value.ref d==Value.none)=true) from Bool.false_ne_true)];refine wpAny_bind (wpAny_pure (wpAny_bind (wpAny_dictEntries h1 h3 ?_)));rw[if_neg (by simp)];refine wpAny_bind (wpAny_pure (wpAny_bind (wpAny_dictEpoch h1 h3 ?_)));rw[if_neg (by simp)];refine wpAny_pure ?_;simp only[show ¬((i:Int)<0) from by omega,if_false,Int.toNat_natCast,Array.getElem?_eq_getElem hi];refine wpAny_bind ?_
 first|refine wpAny_bind (wpAny_typeNameOfWhole_keyiter hT (wpAny_pure (wpAny_bind (wpAny_isOneOf_keyiter hT ?_))))|refine wpAny_bind (wpAny_typeNameOf_keyiter hT (wpAny_pure (wpAny_bind (wpAny_isOneOf_keyiter hT ?_))))
 show wpAny _ _ (setField (.ref it) 1 (rawInt ((i:Int)+1))>>=_) _ _ s;refine wpAny_bind (wpAny_setField g1 g3 (by simp) ?_);have q1:(s.heap.update it (Obj.mapFields (·.setIfInBounds 1 (rawInt ((i:Int)+1))))).IsKeyIter it d (i+1) es.size ep:=⟨_,Heap.get?_update_self _ g1 (Obj.isFreed_of_fields (Obj.data_mapFields g3 _)),(Obj.cls_mapFields ..).trans g2,by rw[Obj.data_mapFields g3];simp[rawInt]⟩;refine wpAny_bind (wpAny_holding (wpAny_bind (wpAny_isOneOf_keyiter (s:={s with heap:=s.heap.update it (Obj.mapFields (·.setIfInBounds 1 (rawInt ((i:Int)+1))))}) q1.typeIs (?_:wpAny _ _ (pure es[i].key) _ _ _))));exact wpAny_pure (wpAny_pure ⟨_,rfl,wpAny_pure (hQ _ q1 (Heap.SameBut.update ..))⟩)
theorem yP {Q:Option Value->Shared->Prop}(hh:A.handled=none)(hit:s.heap.IsKeyIter it d i es.size ep)(r:Raw s.heap d es ep)(hi:es.size<=i)
 (hQ:∀h',Heap.ExtBut it s.heap h'->Q none {s with heap:=h'}):wpAny (model prog w) A (pyNext (.ref it)) Q E s:=by
 obtain⟨oi,g1,g2,g3⟩:=id hit;obtain⟨o,h1,h2,h3⟩:=r.ex;have hT:=hit.typeIs;unfold pyNext;refine wpAny_bind (wpAny_attempt (wpAny_callSpecial?_slot (name:=Str.ofString "__next__") hT F.slot_dict_keyiterator_next (wpAny_call_entry F.slot_dict_keyiterator_next hT F.entry_dict_keyiterator_next ?_ (F.args_dict_keyiterator_next_1 _))));refine wpAny_bind (wpAny_pure (wpAny_bind (wpAny_bind ?_)))
 first|refine wpAny_bind (wpAny_typeNameOfWhole_keyiter hT (wpAny_pure (wpAny_bind (wpAny_fieldsOf g1 g3 ?_))))|refine wpAny_bind (wpAny_typeNameOf_keyiter hT (wpAny_pure (wpAny_bind (wpAny_fieldsOf g1 g3 ?_))))
 simp only[show Builtin.Dict_items.ownsTuple "dict_keyiterator"=false from by decide,Bool.false_eq_true,if_false];show wpAny _ _ (if(Value.ref d==Value.none)=true then _ else _) _ _ _;rw[if_neg (show ¬((Value.ref d==Value.none)=true) from Bool.false_ne_true)];refine wpAny_bind (wpAny_pure (wpAny_bind (wpAny_dictEntries h1 h3 ?_)));rw[if_neg (by simp)];refine wpAny_bind (wpAny_pure (wpAny_bind (wpAny_dictEpoch h1 h3 ?_)));rw[if_neg (by simp)];refine wpAny_pure ?_;simp only[show ¬((i:Int)<0) from by omega,if_false,Int.toNat_natCast,Array.getElem?_eq_none hi];refine wpAny_bind ?_
 first|refine wpAny_bind (wpAny_typeNameOfWhole_keyiter hT (wpAny_pure ?_))|refine wpAny_bind (wpAny_typeNameOf_keyiter hT (wpAny_pure ?_))
 show wpAny _ _ (setField (.ref it) 0 .none>>=_) _ _ s;refine wpAny_bind (wpAny_setField g1 g3 (by simp) ?_);show wpAny _ _ (newExc (.type "StopIteration") []>>=_) _ _ _;refine wpAny_bind ?_;simp only[newExc,newTuple];refine wpAny_bind (wpAny_newObj_type (wpAny_bind (m:=firstArgMember _ _) (wpAny_of_eq (a:=Value.none) (by first|rfl|(simp only[firstArgMember];rfl)) (wpAny_newObj_type ?_ (by size_fits)))) (by size_fits));simp only[raiseNew];refine wpAny_bind (wpAny_handled ?_);rw[show A.in1.handled=none from hh];refine wpAny_bind (wpAny_pure (wpAny_throw ?_));refine wpAny_bind (wpAny_isInstance (T:="StopIteration") (b:=true) ⟨_,Heap.get?_push_size _ rfl,rfl⟩ isSubtype_stop ?_);exact wpAny_pure (hQ _ (((Heap.SameBut.update ..).extBut.push _).push _))
end
end Lw
namespace L2
open PySem PySem.Spec PyProof.Rows PySem.W
abbrev oZ (o:Obj)(Ir:List (List Key×V)):HO:=.frz o (.dT Ir)
def Hr (d:Addr)(o:Obj)(Ir:List (List Key×V)):It :=
 ⟨λi H=>i<Ir.length/\H d=some (oZ o Ir),λi H x H'=>∃p b k v,Ir[i]?=some (k,v)/\H p=none/\H b=some (.tup (k.map kV))/\x=.ref p/\H'=upd H p (.tup [.ref b,v]),λi H=>Ir.length<=i/\H d=some (oZ o Ir)⟩
def Gu (d:Addr)(o:Obj)(Ir:List (List Key×V)):It :=
 ⟨λi H=>i<Ir.length/\H d=some (oZ o Ir),λi H x H'=>∃b k v,Ir[i]?=some (k,v)/\H b=some (.tup (k.map kV))/\x=.ref b/\H'=H,λi H=>Ir.length<=i/\H d=some (oZ o Ir)⟩
theorem j9 {α β:Type}{R:α->β->Prop}:∀{l:List α}{m:List β}{i:Nat}{a:α},Paired R l m->l[i]?=some a->∃b,m[i]?=some b/\R a b
 |_,_,_,_,.nil,e=>by simp at e
 |_,_,0,_,.cons r _,e=>by simp at e;subst e;exact⟨_,rfl,r⟩
 |_,_,i+1,a,.cons _ t,e=>by
  obtain⟨b,h1,h2⟩:=j9 (i:=i) (a:=a) t (by simpa using e);exact⟨b,by simpa using h1,h2⟩
section
variable {X:Cx}{pins:List (Addr×Obj)}{σ:St}{H:Hp}{s:Dx}{d:Addr}{o:Obj}{Ir:List (List Key×V)}
theorem iZ (I:Inv X pins σ H s)(e:H d=some (oZ o Ir)):∃es ep,o.data=.dict es ep/\Lw.Raw s.heap d es ep/\es.size=Ir.length/\(d==sysModules)=false /\
 ∀(i:Nat)(hi:i<es.size) k v,Ir[i]?=some (k,v)->∃b,es[i].key=.ref b/\H b=some (.tup (k.map kV))/\aG v es[i].val:=by
 obtain⟨h0,z,y,xs,r,o',es,ep,h1,h2,h3,h4,h5⟩:=(show bx X.prog X.w H s.heap d (oZ o Ir) from I.hok d _ e);rw[h0] at h1
 cases h1
 have hl:es.size=Ir.length:=by
  rw[<-Array.length_toList,h4,List.length_map];exact(Paired.length r).symm
 refine⟨es,ep,h3,⟨_,h0,h2,h3⟩,hl,y,λi hi k v hk=>?_⟩;obtain⟨q,hq,e1,e2,e3⟩:=j9 r hk
 have z1:es.toList[i]?=some (entryOfKey (tupleKind (bZ X.prog X.w)) q):=by rw[h4,List.getElem?_map,hq];rfl
 have z2:es[i]=entryOfKey (tupleKind (bZ X.prog X.w)) q:=by
  have z3:es.toList[i]?=some es[i]:=by simp[hi]
  rw[z3] at z1;exact Option.some.inj z1
 rw[z2];exact⟨q.2.1,rfl,e2,e3⟩
theorem Inv.freeze (I:Inv X pins σ H s)(e:H d=some (.dT Ir)):∃o,s.heap.get? d=some o/\Inv X pins σ (upd H d (oZ o Ir)) s:=by
 obtain⟨z,y,xs,r,o,es,ep,h1,h2⟩:=(show bx X.prog X.w H s.heap d (.dT Ir) from I.hok d _ e);refine⟨o,h1,I.write (t':=s.toks) (h':=s.heap) (x:=d) (e:=d) (o:=oZ o Ir) (by rw[e];exact True.intro) (.inl rfl) (λ_ _ _ q=>q) ⟨o,h1⟩ ⟨h1,z,y,xs,?_,o,es,ep,h1,h2⟩⟩;exact Paired.aax r λp q w=>⟨w.1,by rw[av (y8 w.2.1 e (by intro z;cases z))];exact w.2.1,w.2.2⟩
end
variable {P:yn}{w:World}{K:Frag}{elts:De}{x1:Nat}{tp:Pos}
theorem sf (d it:Addr)(o:Obj)(Ir:List (List Key×V))(es:Array DictEntry)(ep:Nat)(ho:o.data=.dict es ep):Turn P w K (.Tuple elts x1 tp) (Hr d o Ir) [it] it (λi h=>∃ok ov,IsItemIter h it d i es.size ep ok ov) where
 mem:=by simp
 obj:=λi h st b hb=>by
  have e:b=it:=by simpa using hb
  subst e;obtain⟨ok,ov,e⟩:=st;exact⟨_,e,λv z=>by cases z⟩
 keep:=λi h h' st k=>let⟨ok,ov,e⟩:=st;⟨ok,ov,k it (by simp) _ e⟩
 item:=by
  intro X hP hw hK hc i pins s σ H E I hf st hg;subst hP hw hK;obtain⟨IC,hd⟩:=hg;obtain⟨ok,ov,hit⟩:=st;obtain⟨es',Mq,Jc,raw,hl,hm,Oz⟩:=iZ I hd;rw[ho] at Jc
  cases Jc
  obtain⟨f0,f1,f2,f3,f4,f5⟩:=hf it (by simp)
  have hi:i<es.size:=by omega
  refine Lw.qI hit raw hi λh' q1 q2 q3 q4=>?_;obtain⟨⟨k,v⟩,hk⟩:∃kv,Ir[i]?=some kv:=⟨Ir[i],by simp[IC]⟩;obtain⟨b,eb,hb,rv⟩:=Oz i hi k v hk;refine⟨_,rfl,wpAny_letOwnedTupleGo_items (s:={s with heap:=h'}) q1 λh2 q5 q6=>?_⟩;have LC:s.heap.objs.size≠it:=Nat.ne_of_gt (Heap.lt_size hit);have I1:Inv X pins σ H {s with heap:=h2}:=I.turned (t':=s.toks) (λb o hb e=>(q6.2 b hb).trans (q4 b o hb e)) f0 f1 f3 f4 f5;have tup:h2.get? s.heap.objs.size=some {cls:=.type "tuple",data:=.seq #[es[i].key,es[i].val]}:=(q6.2 _ LC).trans q2;have fr:H s.heap.objs.size=none:=I.hok.fresh (Nat.le_refl _)
  have I2:Inv X pins σ (upd H s.heap.objs.size (.tup [.ref b,v])) {s with heap:=h2}:=by
   refine⟨I1.ok,I1.os,I1.bare,?_,I1.loc,I1.cell,?_,λx c e=>?_,λp hp=>?_,dM I1.hok fr ⟨by show 2<=sizeLine;decide,[.ref b,es[i].val],.cons rfl (.cons rv .nil),?_⟩,I1.len⟩
   ·have u:=I1.base;refine⟨u.keep,u.slot,λb' o' e n hx=>?_,u.there,λb' xs e=>?_,λb' o' u' e=>?_,λb' ps e=>?_⟩
    ·have ne:b'≠s.heap.objs.size:=Nat.ne_of_lt (Nat.lt_of_lt_of_le (Heap.lt_size e) I.sz);rw[av ne];exact u.free b' o' e n hx
    ·rw[av (ax (u.aal b' xs e) fr)];exact u.aal b' xs e
    ·rw[av (ax (u.aak b' o' u' e) fr)];exact u.aak b' o' u' e
    ·obtain⟨m,q⟩:=u.aar b' ps e;exact⟨m,by rw[av (ax q fr)];exact q⟩
   ·rw[av (Nat.ne_of_lt I.lt)];exact I1.free
   ·obtain⟨v',q⟩:=I.cell x c e;rw[av (Nat.ne_of_lt q.lt)];exact I1.aaj x c e
   ·obtain⟨e,n,r⟩:=I1.pin p hp;have lt:p.1<s.heap.objs.size:=Heap.lt_size (I.pin p hp).1;exact⟨e,by rw[av (Nat.ne_of_lt lt)];exact n,r⟩
   ·exact⟨_,tup,rfl,0,by rw[<-eb]⟩
  refine⟨.ref s.heap.objs.size,_,I2,rfl,⟨s.heap.objs.size,b,k,v,hk,fr,hb,rfl,rfl⟩,⟨_,_,q5⟩,λb' IS=>?_⟩
  have e:b'=it:=by simpa using IS
  subst e;rw[av (Ne.symm LC)];exact f0
 done:=by
  intro X hP hw hK hc i pins s σ H E I hf st hg;subst hP hw hK;obtain⟨IC,hd⟩:=hg;obtain⟨ok,ov,hit⟩:=st;obtain⟨es',Mq,Jc,raw,hl,hm,Oz⟩:=iZ I hd;rw[ho] at Jc
  cases Jc
  obtain⟨f0,f1,f2,f3,f4,f5⟩:=hf it (by simp);exact Lw.v3 (I.ok.hd hc) hit raw (by omega) λh' eb=>⟨rfl,I.turned (t':=s.toks) (λb o hb e=>eb b o hb e) f0 f1 f3 f4 f5⟩
 self:=λA i s Q E st h=>by
  obtain⟨ok,ov,hit⟩:=st;exact kcp_self hit h
theorem uY {tg:Expr}(d it:Addr)(o:Obj)(Ir:List (List Key×V))(es:Array DictEntry)(ep:Nat)(ho:o.data=.dict es ep):Turn P w K tg (Gu d o Ir) [it] it (λi h=>h.IsKeyIter it d i es.size ep) where
 mem:=by simp
 obj:=λi h st b hb=>by
  have e:b=it:=by simpa using hb
  subst e;obtain⟨o,e,c,d⟩:=st;exact⟨o,e,λv z=>by rw[d] at z;cases z⟩
 keep:=λi h h' st k=>st.at λo e=>k it (by simp) o e
 item:=by
  intro X hP hw hK hc i pins s σ H E I hf st hg;subst hP hw hK;obtain⟨IC,hd⟩:=hg;obtain⟨es',Mq,Jc,raw,hl,hm,Oz⟩:=iZ I hd;rw[ho] at Jc
  cases Jc
  obtain⟨f0,f1,f2,f3,f4,f5⟩:=hf it (by simp)
  have hi:i<es.size:=by omega
  refine Lw.uN st raw hi λh' q1 q2=>?_;obtain⟨⟨k,v⟩,hk⟩:∃kv,Ir[i]?=some kv:=⟨Ir[i],by simp[IC]⟩;obtain⟨b,eb,hb,rv⟩:=Oz i hi k v hk;have I1:Inv X pins σ H {s with heap:=h'}:=I.turned (t':=s.toks) (λb o hb e=>(q2.2 b hb).trans e) f0 f1 f3 f4 f5;obtain⟨oi,e,c,dd⟩:=id q1;exact⟨_,rfl,sX (s:={s with heap:=h'}) e c dd (by decide) ⟨.ref b,H,I1,eb,⟨b,k,v,hk,hb,rfl,rfl⟩,q1,λb hb=>(hf b hb).1⟩⟩
 done:=by
  intro X hP hw hK hc i pins s σ H E I hf st hg;subst hP hw hK;obtain⟨IC,hd⟩:=hg;obtain⟨es',Mq,Jc,raw,hl,hm,Oz⟩:=iZ I hd;rw[ho] at Jc
  cases Jc
  obtain⟨f0,f1,f2,f3,f4,f5⟩:=hf it (by simp);exact Lw.yP (I.ok.hd hc) st raw (by omega) λh' eb=>⟨rfl,I.turned (t':=s.toks) (λb o hb e=>eb b o hb e) f0 f1 f3 f4 f5⟩
 self:=λ_ _ _ _ _ st h=>wpAny_pyIter_keyiter st h
def Gx (H1:Hp)(d:Addr)(Ir:List (List Key×V))(R:Obj->Hp->Prop):Prop:=(∃o,H1 d=some (oZ o Ir)/\R o H1)\/(H1 d=some (.dT Ir)/\∀o,R o (upd H1 d (oZ o Ir)))
def CH (td:TE):TI:=λσ H R=>td σ H λx H1=>∃d Ir,x=.ref d/\Gx H1 d Ir λo H2=>R (Hr d o Ir) H2
def E6 (td:TE):TI:=λσ H R=>td σ H λx H1=>∃d Ir,x=.ref d/\Gx H1 d Ir λo H2=>R (Gu d o Ir) H2
section
variable {X:Cx}{pins:List (Addr×Obj)}{σ:St}{H:Hp}{s:Dx}
theorem y4 {d:Addr}{Ir:List (List Key×V)}{R:Obj->Hp->Prop}(I:Inv X pins σ H s)(h:Gx H d Ir R):∃o H2,Inv X pins σ H2 s/\H2 d=some (oZ o Ir)/\R o H2:=by
 rcases h with⟨o,e,r⟩|⟨e,r⟩
 ·exact⟨o,H,I,e,r⟩
 ·obtain⟨o,_,I2⟩:=I.freeze e;exact⟨o,_,I2,ah,r o⟩
theorem yS {oe:Expr}{td:TE}{apos IJ:Pos}(ho:PE X oe td)(JL:attributeBase oe "items" X.env (eval oe X.env)=eval oe X.env:=by rfl)(JM:(apos.endLine==IJ.line)=true:=by rfl):
 PI X (.Tuple elts x1 tp) (.Call (.Attribute oe "items" apos) [] [] IJ) (CH td):=by
 intro pins s σ H R I h;refine wpAny_Call_method0_late JL JM (bK (ho pins s σ H _ I h) λv s1 z'=>?_);obtain⟨x,H1,I1,r1,d,Ir,ex,fz⟩:=z';subst ex
 cases(show v=Value.ref d from r1)
 obtain⟨o,H2,I2,hd,rr⟩:=y4 I1 fz;obtain⟨es,ep,Ua,raw,hl,hm,_⟩:=iZ I2 hd;refine⟨"dict","dict.items",PySem.F.plainAttrs_dict,PySem.F.slot_dict_items,PySem.F.type_dict_items,raw.ty,λa e=>?_,Calls.callWith_builtin rfl (PySem.evalArgs_none (Lw.rA raw hm ?_))⟩
 ·cases e
  obtain⟨o',h1,h2,_⟩:=raw.ex;exact⟨o',h1,h2.2.1⟩
 ·have I3:Inv X pins σ H2 {s1 with heap:=s1.heap.push {cls:=.type "dict_items",data:=.fields #[.ref d]} }:=I2.kept (t':=s1.toks) λb ob q=>Heap.get?_push_of_some _ q;refine Lw.rF (s:={s1 with heap:=s1.heap.push {cls:=.type "dict_items",data:=.fields #[.ref d]} }) ⟨_,Heap.get?_push_size _ rfl,rfl,rfl⟩ (raw.keep λo e=>Heap.get?_push_of_some _ e) ?_;generalize s1.heap.push {cls:=.type "dict_items",data:=.fields #[.ref d]}=h2 at I3 |-;refine⟨h2.objs.size,[h2.objs.size],_,Hr d o Ir,H2,rfl,I3.kept (t':=s1.toks) λb ob q=>Heap.get?_push_of_some _ q,sf d _ o Ir es ep Ua,⟨_,_,Heap.get?_push_size _ rfl⟩,λb hb=>?_,rr⟩
  have e:b=h2.objs.size:=by simpa using hb
  subst e;exact I3.aaO (Nat.le_refl _) (I3.hok.fresh (Nat.le_refl _))
theorem Bd {tg oe:Expr}{td:TE}(ho:PE X oe td):PI X tg oe (E6 td):=by
 intro pins s σ H R I h;refine bK (ho pins s σ H _ I h) λv s1 z'=>?_;obtain⟨x,H1,I1,r1,d,Ir,ex,fz⟩:=z';subst ex
 cases(show v=Value.ref d from r1)
 obtain⟨o,H2,I2,hd,rr⟩:=y4 I1 fz;obtain⟨es,ep,Ua,raw,hl,hm,_⟩:=iZ I2 hd;refine Lw.vb raw hm ⟨s1.heap.objs.size,[s1.heap.objs.size],_,Gu d o Ir,H2,rfl,I2.kept (t':=s1.toks) λb ob q=>Heap.get?_push_of_some _ q,uY d _ o Ir es ep Ua,⟨_,Heap.get?_push_size _ rfl,rfl,rfl⟩,λb hb=>?_,rr⟩
 have e:b=s1.heap.objs.size:=by simpa using hb
 subst e;exact I2.aaO (Nat.le_refl _) (I2.hok.fresh (Nat.le_refl _))
theorem Inv.aby {s2:Dx}{T:Addr}{xs:List V}{its:oH}(I:Inv X pins σ H s)(I1:Inv X pins σ H s2)(hT:s.heap.objs.size<=T)(e:s2.heap.get? T=some {cls:=.type "tuple",data:=.seq its.toArray})(r:aM xs its)(hz:xs.length<=sizeLine):
 Inv X pins σ (upd H T (.tup xs)) s2:=by
 have fr:H T=none:=I.hok.fresh hT;refine⟨I1.ok,I1.os,I1.bare,?_,I1.loc,I1.cell,?_,λx c e=>?_,λp hp=>?_,dM I1.hok fr ⟨hz,its,r,⟨_,e,rfl,0,rfl⟩⟩,I1.len⟩
 ·have u:=I1.base;refine⟨u.keep,u.slot,λb' o' e n hx=>?_,u.there,λb' xs e=>?_,λb' o' u' e=>?_,λb' ps e=>?_⟩
  ·have ne:b'≠T:=Nat.ne_of_lt (Nat.lt_of_lt_of_le (Heap.lt_size e) (Nat.le_trans I.sz hT));rw[av ne];exact u.free b' o' e n hx
  ·rw[av (ax (u.aal b' xs e) fr)];exact u.aal b' xs e
  ·rw[av (ax (u.aak b' o' u' e) fr)];exact u.aak b' o' u' e
  ·obtain⟨m,q⟩:=u.aar b' ps e;exact⟨m,by rw[av (ax q fr)];exact q⟩
 ·rw[av (Nat.ne_of_lt (Nat.lt_of_lt_of_le I.lt hT))];exact I1.free
 ·obtain⟨v',q⟩:=I.cell x c e;rw[av (Nat.ne_of_lt (Nat.lt_of_lt_of_le q.lt hT))];exact I1.aaj x c e
 ·obtain⟨e,n,r⟩:=I1.pin p hp;have lt:p.1<s.heap.objs.size:=Heap.lt_size (I.pin p hp).1;exact⟨e,by rw[av (Nat.ne_of_lt (Nat.lt_of_lt_of_le lt hT))];exact n,r⟩
theorem Inv.aaH {h':Heap}{t':Nat}{ch:List Addr}(I:Inv X pins σ H s)(k:∀b o,b∉ch->s.heap.get? b=some o->h'.get? b=some o)(hf:∀b∈ch,cR X pins H b):Inv X pins σ H {s with heap:=h',toks:=t'}:=by
 have LC:∀b u,H b=some u->b∉ch:=λb u e z=>by rw[(hf b z).1] at e;cases e
 refine I.step (g':=s.gens) (d':=s.drawn) (ch:=ch) (λb hb=>?_) (λb o _ _ hc e _=>k b o hc e) (λb o _ _ hc e _=>⟨o.slots,k b o hc e⟩) (λ_ _ _ _ n=>n)
  (λb o hc e=>⟨o,k b o hc e⟩) (λ_ _ e=>e) (λ_ _ _ e=>e) (λb ps e=>⟨#[],by rw[e];simp⟩) (λm hm=>?_) (λb u e=>?_) I.bare
 ·obtain⟨f0,f1,f2,f3,f4,f5⟩:=hf b hb;exact⟨f3,f1,f4,f5⟩
 ·obtain⟨o,es,ep,ho,r⟩:=hm;exact⟨o,es,ep,k _ o (λz=>(hf _ z).2.1 rfl) ho,r⟩
 ·refine(I.hok b u e).aaZ (λc v hc q=>k c v ?_ q) (λ_ q=>q) λ_ _ q=>q
  rcases hc with z|z
  ·rw[z];exact LC b u e
  ·exact LC c _ z
end
def Ga (K:Frag)(a:Addr):It :=
 ⟨λi H=>∃xs x,bo K H a xs/\xs[i]?=some x,λi H x H'=>∃T y,(∀xs,bo K H a xs->xs[i]?=some y)/\H T=none/\x=.ref T/\H'=upd H T (.tup [.int i,y]),λi H=>∃xs,bo K H a xs/\xs.length<=i⟩
theorem vL (a e it:Addr)(IX:e≠it):Turn P w K (.Tuple elts x1 tp) (Ga K a) [e,it] e (λi h=>∃old,IsEnum h e it i old/\h.IsListIter it a i) where
 mem:=by simp
 obj:=λi h st b hb=>by
  obtain⟨old,h1,o,h2,_,h3⟩:=st
  rcases(by simpa using hb:b=e\/b=it) with z|z
  ·subst z;exact⟨_,h1,λv z=>by cases z⟩
  ·subst z;exact⟨o,h2,λv z=>by rw[h3] at z;cases z⟩
 keep:=λi h h' st k=>let⟨old,h1,h2⟩:=st;⟨old,k e (by simp) _ h1,h2.at λo q=>k it (by simp) o q⟩
 item:=by
  intro X hP hw hK hc i pins s σ H E I hf st hg;subst hP hw hK;obtain⟨xs,x,hq,hx⟩:=hg;obtain⟨its,rv,p,hz⟩:=I.list hq;obtain⟨u,hu,ru⟩:=rv.get hx;obtain⟨old,he,hit⟩:=st;refine wpAny_pyNext_enum_item he hit p.isList (x:=u) (by simpa using hu) IX λh' q1 q2 q3 q4 q5=>?_;refine⟨_,rfl,wpAny_letOwnedTupleGo_enum (s:={s with heap:=h',toks:=s.toks+1}) q1 λh2 q6 q7=>?_⟩;have Xx:s.heap.objs.size≠e:=Nat.ne_of_gt (Heap.lt_size he)
  have I1:Inv X pins σ H {s with heap:=h2,toks:=s.toks+1}:=I.aaH (t':=s.toks+1) (ch:=[e,it]) (λb o hb z=>by
   have IS:b≠e/\b≠it:=by simpa using hb
   exact(q7.2 b IS.1).trans (q5 b o IS.1 IS.2 z)) hf
  have tup:h2.get? s.heap.objs.size=some {cls:=.type "tuple",data:=.seq #[.int i s.toks,u]}:=(q7.2 _ Xx).trans q3;have fr:H s.heap.objs.size=none:=I.hok.fresh (Nat.le_refl _);have I2:=I.aby (xs:=[.int i,x]) (its:=[.int i s.toks,u]) I1 (Nat.le_refl _) tup (.cons ⟨_,rfl⟩ (.cons ru .nil)) iT;refine⟨.ref s.heap.objs.size,_,I2,rfl,⟨s.heap.objs.size,x,λys hy=>by rw[I.aay hy hq];exact hx,fr,rfl,rfl⟩,⟨u,q6,q2.at λo q=>(q7.2 _ (Ne.symm IX)).trans q⟩,λb hb=>?_⟩
  have nb:b≠s.heap.objs.size:=by
   rcases(by simpa using hb:b=e\/b=it) with z|z
   ·subst z;exact Ne.symm Xx
   ·subst z;obtain⟨o,q,_⟩:=hit;exact Nat.ne_of_lt (Heap.lt_size q)
  rw[av nb];exact(hf b hb).1
 done:=by
  intro X hP hw hK hc i pins s σ H E I hf st hg;subst hP hw hK;obtain⟨xs,hq,hx⟩:=hg;obtain⟨its,rv,p,hz⟩:=I.list hq;have hl:=rv.length;obtain⟨old,he,hit⟩:=st;obtain⟨f0,f1,f2,f3,f4,f5⟩:=hf it (by simp);exact wpAny_pyNext_enum_end (I.ok.hd hc) he hit p.isList (by simp;omega) λh' eb=>⟨rfl,I.turned (t':=s.toks) (λb o hb e=>eb b o hb e) f0 f1 f3 f4 f5⟩
 self:=λ_ _ _ _ _ st h=>let⟨old,h1,_⟩:=st;wpAny_pyIter_enum h1 h
def FK (K:Frag)(tl:TE):TI:=λσ H R=>dn tl An σ H λvs H1=>∃a xs,vs=[.ref a]/\bo K H1 a xs/\R (Ga K a) H1
theorem ug {X:Cx}{l:Expr}{tl:TE}{p pos:Pos}(hl:PE X l tl)(hg:Gl X "enumerate")(hm:X.mg "enumerate"=none)(hs:eO l=false:=by rfl):
 PI X (.Tuple elts x1 tp) (.Call (.Name "enumerate" p) [l] [] pos) (FK X.K tl):=by
 intro pins s σ H R I h;refine wpAny_Call_Name_kw (cN I hg hm (by rfl) ?_ (by decide) (by decide));refine PyProof.Rows.callWith_type1 (bK (ao hl af hs pos pins s σ H _ I h) λus s1 z'=>?_) (aO hs) rfl;obtain⟨vs,H1,I1,r1,a,xs,hv,hq,rr⟩:=z';subst hv;obtain⟨u,rfl,ru⟩:=fY r1
 cases(show u=Value.ref a from ru)
 obtain⟨its,rv,pl,hz⟩:=I1.list hq;refine call_enumerate_list pl.isList λh' q1 q2 q3 q4=>?_;have I2:Inv X pins σ H1 {s1 with heap:=h'}:=I1.kept (t':=s1.toks) q4;refine wpAny_pyIter_enum (s:={s1 with heap:=h'}) q1 ?_;refine⟨s1.heap.objs.size+1,[s1.heap.objs.size+1,s1.heap.objs.size],_,Ga X.K a,H1,rfl,I2,vL a _ _ (Nat.succ_ne_self _),⟨_,q1,q2⟩,λb hb=>?_,rr⟩
 have IS:s1.heap.objs.size<=b:=by
  rcases(by simpa using hb:b=s1.heap.objs.size+1\/b=s1.heap.objs.size) with z|z
  ·rw[z];exact Nat.le_succ _
  ·rw[z];exact Nat.le_refl _
 exact I1.aaO IS (I1.hok.fresh IS)
end L2
namespace Zp
open PySem PyProof.Rows
section
variable {prog:yn}{w:World}{A:Around}{E:yj}{s:Dx}
theorem kX {it t:Addr}{i:Nat}{items:GV}{x:Value}{Q:yj}(hit:s.heap.IsTupleIter it t i)(ht:s.heap.IsTuple t items)(hx:items[i]?=some x)
 (hQ:∀h',h'.IsTupleIter it t (i+1)->Heap.SameBut it s.heap h'->Q x {s with heap:=h'}):wpAny (model prog w) A (Builtin.SmallTypes.nextOf (.ref it)) Q E s:=by
 obtain⟨o,ho,hc,hd⟩:=id hit;obtain⟨ol,OA,_,nl,Ub⟩:=ht;unfold Builtin.SmallTypes.nextOf;refine wpAny_bind (wpAny_callSpecial?_slot (name:=Str.ofString "__next__") hit.typeIs F.slot_tuple_iterator_next (wpAny_call_entry F.slot_tuple_iterator_next hit.typeIs F.entry_tuple_iterator_next ?_ (F.args_tuple_iterator_next_1 _)));show wpAny _ _ (field (.ref it) 0>>=_) _ _ s;refine wpAny_bind (wpAny_field ho hd (x:=.ref t) rfl ?_);show wpAny _ _ (if(Value.ref t==Value.none)=true then _ else _) _ _ s;rw[if_neg (show ¬((Value.ref t==Value.none)=true) from Bool.false_ne_true)];show wpAny _ _ (field (.ref it) 1>>=_) _ _ s;refine wpAny_bind (wpAny_field ho hd (x:=.int i 0) rfl ?_);show wpAny _ _ (seqItems? (.ref t)>>=_) _ _ s;refine wpAny_bind (wpAny_seqItems OA Ub ?_);simp only[Int.toNat_natCast,hx];refine wpAny_bind (wpAny_setField ho hd (by simp) (wpAny_pure ⟨x,rfl,wpAny_pure (hQ _ ?_ (Heap.SameBut.update ..))⟩));exact⟨_,Heap.get?_update_self _ ho (Obj.isFreed_of_fields (Obj.data_mapFields hd _)),(Obj.cls_mapFields ..).trans hc,by rw[Obj.data_mapFields hd];simp[rawInt]⟩
theorem um {it t:Addr}{i:Nat}{items:GV}{Q:yj}(hh:A.handled=none)(hit:s.heap.IsTupleIter it t i)(ht:s.heap.IsTuple t items)(hx:items[i]?=none)
 (hE:∀h' e,Heap.ExtBut it s.heap h'->(∃o,h'.get? e=some o/\o.cls=.type "StopIteration")->E (.ref e) {s with heap:=h'}):wpAny (model prog w) A (Builtin.SmallTypes.nextOf (.ref it)) Q E s:=by
 obtain⟨o,ho,hc,hd⟩:=id hit;obtain⟨ol,OA,_,nl,Ub⟩:=ht;unfold Builtin.SmallTypes.nextOf;refine wpAny_bind (wpAny_callSpecial?_slot (name:=Str.ofString "__next__") hit.typeIs F.slot_tuple_iterator_next (wpAny_call_entry F.slot_tuple_iterator_next hit.typeIs F.entry_tuple_iterator_next ?_ (F.args_tuple_iterator_next_1 _)));show wpAny _ _ (field (.ref it) 0>>=_) _ _ s;refine wpAny_bind (wpAny_field ho hd (x:=.ref t) rfl ?_);show wpAny _ _ (if(Value.ref t==Value.none)=true then _ else _) _ _ s;rw[if_neg (show ¬((Value.ref t==Value.none)=true) from Bool.false_ne_true)];show wpAny _ _ (field (.ref it) 1>>=_) _ _ s;refine wpAny_bind (wpAny_field ho hd (x:=.int i 0) rfl ?_);show wpAny _ _ (seqItems? (.ref t)>>=_) _ _ s;refine wpAny_bind (wpAny_seqItems OA Ub ?_);simp only[Int.toNat_natCast,hx];refine wpAny_bind (wpAny_rule (wpAny_bind (wpAny_setField ho hd (by simp) ?_)));show wpAny _ _ (newExc (.type "StopIteration") []>>=_) _ _ _;refine wpAny_bind ?_;simp only[newExc,newTuple];refine wpAny_bind (wpAny_newObj_type ?_ (by size_fits));refine wpAny_bind (m:=firstArgMember _ _) (wpAny_of_eq (a:=Value.none) (by first|rfl|(simp only[firstArgMember];rfl)) ?_);refine wpAny_newObj_type ?_ (by size_fits);simp only[raiseNew];refine wpAny_bind (wpAny_handled ?_)
 first|rw[show A.in1.handled=none from hh]|rw[hh]
 refine wpAny_bind (wpAny_pure (wpAny_throw ?_));exact hE _ _ (((Heap.SameBut.update ..).extBut.push _).push _) ⟨_,Heap.get?_push_size _ rfl,rfl⟩
end
structure Apart (z TI TO i1 i2 l1 l2:Addr):Prop where
 TIz:TI≠z
 TOz:TO≠z
 i1z:i1≠z
 i2z:i2≠z
 TITO:TI≠TO
 TIi1:TI≠i1
 TIi2:TI≠i2
 TOi1:TO≠i1
 TOi2:TO≠i2
 i12:i1≠i2
 l1n:l1 ∉ [z,TO,i1,i2]
 l2n:l2 ∉ [z,TO,i1,i2]
structure Zs (h:Heap)(z TI TO i1 i2 l1 l2:Addr)(k:Nat):Prop where
 hz:IsZip h z TI TO .none
 hTI:IsPair h TI (.ref i1) (.ref i2)
 Lx:∃a b,IsPair h TO a b
 h1:h.IsTupleIter i1 l1 k
 h2:h.IsTupleIter i2 l2 k
theorem dm {h h':Heap}{i l:Addr}{k:Nat}(x:h.IsTupleIter i l k)(q:∀o,h.get? i=some o->h'.get? i=some o):h'.IsTupleIter i l k:=let⟨o,a,b⟩:=x;⟨o,q o a,b⟩
section
variable {prog:yn}{w:World}{A:Around}{E:yj}{s:Dx}{z TI TO i1 i2 l1 l2:Addr}{k:Nat}{xs ys:GV}{x y:Value}
theorem item {Q:yj}(D:Apart z TI TO i1 i2 l1 l2)(Z:Zs s.heap z TI TO i1 i2 l1 l2 k)(Ja:s.heap.IsTuple l1 xs)(Ji:s.heap.IsTuple l2 ys)(hx:xs[k]?=some x)(hy:ys[k]?=some y)
 (hQ:∀h',IsZip h' z TI TO (rawInt s.heap.objs.size)->(∃a b,IsPair h' TO a b)->h'.IsTupleIter i1 l1 (k+1)->h'.IsTupleIter i2 l2 (k+1)->IsPair h' s.heap.objs.size x y →
  (∀c o,c ∉ [z,TO,i1,i2]->s.heap.get? c=some o->h'.get? c=some o)->Q (.ref s.heap.objs.size) {s with heap:=h'}):
 wpAny (model prog w) A (Builtin.«zip.__next__» ⟨[.ref z],[]⟩) (λfin s'=>∃v,fin=.done (.ret v)/\Q v s') E s:=by
 obtain⟨hz,hTI,⟨a,b,Lx⟩,h1,h2⟩:=Z
 have n1:l1≠z/\l1≠TO/\l1≠i1/\l1≠i2:=by simpa using D.l1n
 have n2:l2≠z/\l2≠TO/\l2≠i1/\l2≠i2:=by simpa using D.l2n
 show wpAny _ _ (field (.ref z) 2>>=_) _ _ _;refine wpAny_bind (wpAny_field hz rfl (x:=.bool false) rfl ?_);show wpAny _ _ (field (.ref z) 3>>=_) _ _ _;refine wpAny_bind (wpAny_field hz rfl (x:=.ref TI) rfl ?_);refine wpAny_bind (wpAny_seqItems hTI rfl ?_);show wpAny _ _ (Builtin.SmallTypes.ownedTupleIsFree (.ref z)>>=_) _ _ _;refine wpAny_bind ?_;unfold Builtin.SmallTypes.ownedTupleIsFree;refine wpAny_bind (wpAny_field hz rfl (x:=.none) rfl (wpAny_pure ?_));simp only[if_true];refine wpAny_bind (wpAny_rule ?_);refine wpAny_bind (wpAny_field hz rfl (x:=.ref TO) rfl ?_);refine wpAny_bind (wpAny_setField_rec hz (by simp) λg1 LM s1=>?_)
 replace LM:IsZip g1 z TI TO .ellipsis:=LM
 refine wpAny_bind ?_;simp only[List.zipIdx_cons,List.zipIdx_nil,List.forIn_cons,List.forIn_nil];refine wpAny_bind (wpAny_bind (wpAny_onRaise ?_));show wpAny _ _ (Builtin.SmallTypes.nextOf (.ref i1)>>=_) _ _ _;refine wpAny_bind (kX (h1.extBut s1.extBut D.i1z) (Ja.extBut s1.extBut n1.1) hx λg2 a2 s2=>wpAny_pure ?_);have t2:IsPair g2 TO a b:=s2.extBut _ _ D.TOi1 (s1.extBut _ _ D.TOz Lx);refine wpAny_bind (wpAny_seqItems t2 rfl ?_);refine wpAny_bind (wpAny_updateSeq_pair t2 λg3 t3 s3=>?_)
 replace t3:IsPair g3 TO x b:=t3
 refine wpAny_bind (wpAny_letGo (wpAny_pure ?_));refine wpAny_bind (wpAny_bind (wpAny_onRaise ?_));show wpAny _ _ (Builtin.SmallTypes.nextOf (.ref i2)>>=_) _ _ _;refine wpAny_bind (kX (((h2.extBut s1.extBut D.i2z).extBut s2.extBut D.i12.symm).extBut s3.extBut D.TOi2.symm) (((Ji.extBut s1.extBut n2.1).extBut s2.extBut n2.2.2.1).extBut s3.extBut n2.2.1) hy λg4 a4 s4=>wpAny_pure ?_);have t4:IsPair g4 TO x b:=s4.extBut _ _ D.TOi2 t3;refine wpAny_bind (wpAny_seqItems t4 rfl ?_);refine wpAny_bind (wpAny_updateSeq_pair t4 λg5 t5 s5=>?_)
 replace t5:IsPair g5 TO x y:=t5
 refine wpAny_bind (wpAny_letGo (wpAny_pure (wpAny_pure ?_)));refine wpAny_bind (wpAny_seqItems t5 rfl ?_);refine wpAny_bind (wpAny_newTuple ?_)
 have sz:g5.objs.size=s.heap.objs.size:=by rw[s5.1,s4.1,s3.1,s2.1,s1.1]
 have z5:IsZip g5 z TI TO .ellipsis:=s5.extBut _ _ D.TOz.symm (s4.extBut _ _ D.i2z.symm (s3.extBut _ _ D.TOz.symm (s2.extBut _ _ D.i1z.symm LM)))
 have k5:∀c o,c ∉ [z,TO,i1,i2]->s.heap.get? c=some o->g5.get? c=some o:=λc o hc e=>by
  have IE:c≠z/\c≠TO/\c≠i1/\c≠i2:=by simpa using hc
  exact s5.extBut _ _ IE.2.1 (s4.extBut _ _ IE.2.2.2 (s3.extBut _ _ IE.2.1 (s2.extBut _ _ IE.2.2.1 (s1.extBut _ _ IE.1 e))))
 have a5:g5.IsTupleIter i1 l1 (k+1):=((a2.extBut s3.extBut D.TOi1.symm).extBut s4.extBut D.i12).extBut s5.extBut D.TOi1.symm;have b5:g5.IsTupleIter i2 l2 (k+1):=a4.extBut s5.extBut D.TOi2.symm;have Xy:z<g5.objs.size:=Heap.lt_size z5;show wpAny _ _ (Builtin.SmallTypes.ownedTupleHandOut (.ref z) (.ref g5.objs.size)>>=_) _ _ _;refine wpAny_bind ?_;unfold Builtin.SmallTypes.ownedTupleHandOut;have z6:IsZip (g5.push {cls:=.type "tuple",data:=.seq #[x,y]}) z TI TO .ellipsis:=Heap.get?_push_of_some _ z5;refine wpAny_bind (wpAny_setField_rec z6 (by simp) λg7 z7 s7=>?_)
 replace z7:IsZip g7 z TI TO (rawInt g5.objs.size):=z7
 refine wpAny_setField_rec z7 (by simp) λg8 z8 s8=>?_
 replace z8:IsZip g8 z TI TO (rawInt g5.objs.size):=z8
 have up:∀c o,c≠z->g5.get? c=some o->g8.get? c=some o:=λc o c1 e=>s8.extBut _ _ c1 (s7.extBut _ _ c1 (Heap.get?_push_of_some _ e));have t8:IsPair g8 g5.objs.size x y:=s8.extBut _ _ (Nat.ne_of_gt Xy) (s7.extBut _ _ (Nat.ne_of_gt Xy) (Heap.get?_push_size _ rfl));rw[sz] at z8 t8;refine wpAny_pure ⟨_,rfl,?_⟩;show Q (.ref g5.objs.size) _;rw[sz];exact hQ g8 z8 ⟨x,y,up _ _ D.TOz t5⟩ (dm a5 λo e=>up _ o D.i1z e) (dm b5 λo e=>up _ o D.i2z e) t8 λc o hc e=>up c o (λq=>hc (by simp[q])) (k5 c o hc e)
theorem Hj {Q:Fin->Shared->Prop}(hh:A.handled=none)(D:Apart z TI TO i1 i2 l1 l2)(Z:Zs s.heap z TI TO i1 i2 l1 l2 k)(Ja:s.heap.IsTuple l1 xs)(Ji:s.heap.IsTuple l2 ys)(KC:xs[k]?=none\/ys[k]?=none)
 (hE:∀h' e,(∀c o,c ∉ [z,TO,i1,i2]->s.heap.get? c=some o->h'.get? c=some o)->(∃o,h'.get? e=some o/\o.cls=.type "StopIteration")->E (.ref e) {s with heap:=h'}):
 wpAny (model prog w) A (Builtin.«zip.__next__» ⟨[.ref z],[]⟩) Q E s:=by
 obtain⟨hz,hTI,⟨a,b,Lx⟩,h1,h2⟩:=Z
 have n1:l1≠z/\l1≠TO/\l1≠i1/\l1≠i2:=by simpa using D.l1n
 have n2:l2≠z/\l2≠TO/\l2≠i1/\l2≠i2:=by simpa using D.l2n
 show wpAny _ _ (field (.ref z) 2>>=_) _ _ _;refine wpAny_bind (wpAny_field hz rfl (x:=.bool false) rfl ?_);show wpAny _ _ (field (.ref z) 3>>=_) _ _ _;refine wpAny_bind (wpAny_field hz rfl (x:=.ref TI) rfl ?_);refine wpAny_bind (wpAny_seqItems hTI rfl ?_);show wpAny _ _ (Builtin.SmallTypes.ownedTupleIsFree (.ref z)>>=_) _ _ _;refine wpAny_bind ?_;unfold Builtin.SmallTypes.ownedTupleIsFree;refine wpAny_bind (wpAny_field hz rfl (x:=.none) rfl (wpAny_pure ?_));simp only[if_true];refine wpAny_bind (wpAny_rule ?_);refine wpAny_bind (wpAny_field hz rfl (x:=.ref TO) rfl ?_);refine wpAny_bind (wpAny_setField_rec hz (by simp) λg1 LM s1=>?_)
 replace LM:IsZip g1 z TI TO .ellipsis:=LM
 refine wpAny_bind ?_;simp only[List.zipIdx_cons,List.zipIdx_nil,List.forIn_cons,List.forIn_nil];refine wpAny_bind (wpAny_bind (wpAny_onRaise ?_));show wpAny _ _ (Builtin.SmallTypes.nextOf (.ref i1)>>=_) _ _ _
 cases hx:xs[k]? with
 |none =>
  refine wpAny_bind (um hh (h1.extBut s1.extBut D.i1z) (Ja.extBut s1.extBut n1.1) hx λg2 e s2 he=>?_);obtain⟨oe,Ks,OB⟩:=he;have z2:IsZip g2 z TI TO .ellipsis:=s2 _ _ D.i1z.symm LM
  have ez:e≠z:=λq=>by subst q;rw[z2] at Ks;cases Ks;simp at OB
  refine wpAny_setField_rec z2 (by simp) λg3 _ s3=>hE g3 e (λc o hc q=>?_) ⟨oe,s3.extBut _ _ ez Ks,OB⟩
  have IE:c≠z/\c≠TO/\c≠i1/\c≠i2:=by simpa using hc
  exact s3.extBut _ _ IE.1 (s2 _ _ IE.2.2.1 (s1.extBut _ _ IE.1 q))
 |some x =>
  have hy:ys[k]?=none:=by
   rcases KC with h|h
   ·rw[hx] at h;cases h
   ·exact h
  refine wpAny_bind (kX (h1.extBut s1.extBut D.i1z) (Ja.extBut s1.extBut n1.1) hx λg2 a2 s2=>wpAny_pure ?_);have t2:IsPair g2 TO a b:=s2.extBut _ _ D.TOi1 (s1.extBut _ _ D.TOz Lx);refine wpAny_bind (wpAny_seqItems t2 rfl ?_);refine wpAny_bind (wpAny_updateSeq_pair t2 λg3 t3 s3=>?_);refine wpAny_bind (wpAny_letGo (wpAny_pure ?_));refine wpAny_bind (wpAny_bind (wpAny_onRaise ?_));show wpAny _ _ (Builtin.SmallTypes.nextOf (.ref i2)>>=_) _ _ _;refine wpAny_bind (um hh (((h2.extBut s1.extBut D.i2z).extBut s2.extBut D.i12.symm).extBut s3.extBut D.TOi2.symm) (((Ji.extBut s1.extBut n2.1).extBut s2.extBut n2.2.2.1).extBut s3.extBut n2.2.1) hy λg4 e s4 he=>?_);obtain⟨oe,Ks,OB⟩:=he;have z4:IsZip g4 z TI TO .ellipsis:=s4 _ _ D.i2z.symm (s3.extBut _ _ D.TOz.symm (s2.extBut _ _ D.i1z.symm LM))
  have ez:e≠z:=λq=>by subst q;rw[z4] at Ks;cases Ks;simp at OB
  refine wpAny_setField_rec z4 (by simp) λg5 _ s5=>hE g5 e (λc o hc q=>?_) ⟨oe,s5.extBut _ _ ez Ks,OB⟩
  have IE:c≠z/\c≠TO/\c≠i1/\c≠i2:=by simpa using hc
  exact s5.extBut _ _ IE.1 (s4 _ _ IE.2.2.2 (s3.extBut _ _ IE.2.1 (s2.extBut _ _ IE.2.2.1 (s1.extBut _ _ IE.1 q))))
theorem jt {Q:Option Value->Shared->Prop}(D:Apart z TI TO i1 i2 l1 l2)(Z:Zs s.heap z TI TO i1 i2 l1 l2 k)(Ja:s.heap.IsTuple l1 xs)(Ji:s.heap.IsTuple l2 ys)(hx:xs[k]?=some x)(hy:ys[k]?=some y)
 (hQ:∀h',IsZip h' z TI TO (rawInt s.heap.objs.size)->(∃a b,IsPair h' TO a b)->h'.IsTupleIter i1 l1 (k+1)->h'.IsTupleIter i2 l2 (k+1)->IsPair h' s.heap.objs.size x y →
  (∀c o,c ∉ [z,TO,i1,i2]->s.heap.get? c=some o->h'.get? c=some o)->Q (some (.ref s.heap.objs.size)) {s with heap:=h'}):
 wpAny (model prog w) A (pyNext (.ref z)) Q E s:=by
 have hT:s.TypeIs (.ref z) "zip":=⟨_,Z.hz,rfl⟩;unfold pyNext
 exact wpAny_bind (wpAny_attempt (wpAny_callSpecial?_slot (name:=Str.ofString "__next__") hT F.slot_zip_next
  (wpAny_call_entry F.slot_zip_next hT F.entry_zip_next (item D Z Ja Ji hx hy λh' a1 a2 a3 a4 a5 a6=>wpAny_pure (hQ h' a1 a2 a3 a4 a5 a6)) (F.args_zip_next_1 _))))
theorem je {Q:Option Value->Shared->Prop}(hh:A.handled=none)(D:Apart z TI TO i1 i2 l1 l2)(Z:Zs s.heap z TI TO i1 i2 l1 l2 k)(Ja:s.heap.IsTuple l1 xs)(Ji:s.heap.IsTuple l2 ys)(KC:xs[k]?=none\/ys[k]?=none)
 (hQ:∀h',(∀c o,c ∉ [z,TO,i1,i2]->s.heap.get? c=some o->h'.get? c=some o)->Q none {s with heap:=h'}):wpAny (model prog w) A (pyNext (.ref z)) Q E s:=by
 have hT:s.TypeIs (.ref z) "zip":=⟨_,Z.hz,rfl⟩;unfold pyNext
 refine wpAny_bind (wpAny_attempt (wpAny_callSpecial?_slot (name:=Str.ofString "__next__") hT F.slot_zip_next
  (wpAny_call_entry F.slot_zip_next hT F.entry_zip_next (Hj hh D Z Ja Ji KC λh' e hk he=>?_) (F.args_zip_next_1 _))))
 obtain⟨o,ho,hc⟩:=he;refine wpAny_bind (wpAny_isInstance (T:="StopIteration") (b:=true) ⟨o,ho,hc⟩ isSubtype_stop ?_);exact wpAny_pure (hQ _ hk)
end
abbrev g1 (h:Heap)(l1:Addr):Heap:=h.push {cls:=.type "tuple_iterator",data:=.fields #[.ref l1,.int 0 0]}
abbrev g2 (h:Heap)(l1 l2:Addr):Heap:=(g1 h l1).push {cls:=.type "tuple_iterator",data:=.fields #[.ref l2,.int 0 0]}
abbrev g3 (h:Heap)(l1 l2:Addr):Heap:=(g2 h l1 l2).push {cls:=.type "tuple",data:=.seq #[.ref h.objs.size,.ref (g1 h l1).objs.size]}
abbrev g4 (h:Heap)(l1 l2:Addr):Heap:=(g3 h l1 l2).push {cls:=.type "tuple",data:=.seq #[.none,.none]}
abbrev g5 (h:Heap)(l1 l2:Addr):Heap:=(g4 h l1 l2).push {cls:=.type "zip",data:=.fields #[.none,.bool false,.bool false,.ref (g2 h l1 l2).objs.size,.ref (g3 h l1 l2).objs.size]}
theorem u4 (l1 l2:Addr)(xs ys:GV):
 Meets (Builtin.«zip.__new__» ⟨[.type "zip",.ref l1,.ref l2],[]⟩) (λ_ R s=>s.heap.IsTuple l1 xs/\s.heap.IsTuple l2 ys/\R (.ok (.ret (.ref (g4 s.heap l1 l2).objs.size))) {s with heap:=g5 s.heap l1 l2}):=
 .of_wp λprog w A R s h=>by
  obtain⟨hp,g,d,tk,os⟩:=s;obtain⟨Ja,Ji,h⟩:=h;have ZZ:=sub_zip;have Lf:Heap.IsTuple (Shared.heap ⟨hp,g,d,tk,os⟩) l1 xs:=Ja;have OC:Heap.IsTuple (Shared.heap ⟨hp.push {cls:=.type "tuple_iterator",data:=.fields #[.ref l1,.int 0 0]},g,d,tk,os⟩) l2 ys:=Heap.IsTuple.push Ji _
  wp_walk using wpAny_pyIter_tuple Lf,wpAny_pyIter_tuple OC
  exact⟨_,rfl,h⟩
section
variable {prog:yn}{w:World}{A:Around}{E:yj}{s:Dx}
theorem xk {l1 l2:Addr}{xs ys:GV}{Q:yj}(Ja:s.heap.IsTuple l1 xs)(Ji:s.heap.IsTuple l2 ys)
 (h:∀h',Zs h' (s.heap.objs.size+4) (s.heap.objs.size+2) (s.heap.objs.size+3) s.heap.objs.size (s.heap.objs.size+1) l1 l2 0->(∀c o,s.heap.get? c=some o->h'.get? c=some o)->Q (.ref (s.heap.objs.size+4)) {s with heap:=h'}):
 wpAny (model prog w) A (call (.type "zip") [.ref l1,.ref l2]) Q E s:=by
 refine callType_new F.called_zip (by decide) (F.typeCall_zip_2 _ _) (F.newCall_zip_2 _ _) (λobj=>F.args_object_init_3 obj _ _) F.entry_zip_new (u4 l1 l2 xs ys) ⟨Ja,Ji,?_⟩;have z1:(g1 s.heap l1).objs.size=s.heap.objs.size+1:=Heap.size_push ..
 have z2:(g2 s.heap l1 l2).objs.size=s.heap.objs.size+2:=by rw[Heap.size_push,z1]
 have z3:(g3 s.heap l1 l2).objs.size=s.heap.objs.size+3:=by rw[Heap.size_push,z2]
 have z4:(g4 s.heap l1 l2).objs.size=s.heap.objs.size+4:=by rw[Heap.size_push,z3]
 have q5:(g5 s.heap l1 l2).get? (g4 s.heap l1 l2).objs.size=some _:=Heap.get?_push_size _ rfl;have q4:(g5 s.heap l1 l2).get? (g3 s.heap l1 l2).objs.size=some _:=Heap.get?_push_of_some _ (Heap.get?_push_size _ rfl);have q3:(g5 s.heap l1 l2).get? (g2 s.heap l1 l2).objs.size=some _:=Heap.get?_push_of_some _ (Heap.get?_push_of_some _ (Heap.get?_push_size _ rfl));have q2:(g5 s.heap l1 l2).get? (g1 s.heap l1).objs.size=some _:=Heap.get?_push_of_some _ (Heap.get?_push_of_some _ (Heap.get?_push_of_some _ (Heap.get?_push_size _ rfl)));have q1:(g5 s.heap l1 l2).get? s.heap.objs.size=some _:=Heap.get?_push_of_some _ (Heap.get?_push_of_some _ (Heap.get?_push_of_some _ (Heap.get?_push_of_some _ (Heap.get?_push_size _ rfl))));show _/\_;rw[z2,z3,z4] at q5;rw[z1,z2] at q3;rw[z3] at q4;rw[z1] at q2;rw[z4];exact⟨⟨_,q5,rfl⟩,h _ ⟨q5,q3,⟨_,_,q4⟩,⟨_,q1,rfl,rfl⟩,⟨_,q2,rfl,rfl⟩⟩ λc o e=>Heap.get?_push_of_some _ (Heap.get?_push_of_some _ (Heap.get?_push_of_some _ (Heap.get?_push_of_some _ (Heap.get?_push_of_some _ e))))⟩
end
theorem a8 {a b:Nat}(h:a≠b):(a:Addr)≠b:=h
theorem lQ (n a b:Nat)(ha:a<n)(hb:b<n):Apart (n+4) (n+2) (n+3) n (n+1) a b:=by
 refine⟨a8 ?_,a8 ?_,a8 ?_,a8 ?_,a8 ?_,a8 ?_,a8 ?_,a8 ?_,a8 ?_,a8 ?_,?_,?_⟩
 any_goals omega
 ·simp only[List.mem_cons,List.not_mem_nil,or_false,not_or];exact⟨a8 (by omega),a8 (by omega),a8 (by omega),a8 (by omega)⟩
 ·simp only[List.mem_cons,List.not_mem_nil,or_false,not_or];exact⟨a8 (by omega),a8 (by omega),a8 (by omega),a8 (by omega)⟩
end Zp
namespace L2
open PySem PySem.Spec PyProof.Rows PySem.W
def F5 (K:Frag)(a b:Addr):It :=
 ⟨λi H=>∃xs ys x y,br K H a xs/\br K H b ys/\xs[i]?=some x/\ys[i]?=some y,
  λi H v H'=>∃T x y,(∀xs,br K H a xs->xs[i]?=some x)/\(∀ys,br K H b ys->ys[i]?=some y)/\H T=none/\v=.ref T/\H'=upd H T (.tup [x,y]),
  λi H=>∃xs ys,br K H a xs/\br K H b ys/\(xs.length<=i\/ys.length<=i)⟩
theorem zq {P:yn}{w:World}{K:Frag}{elts:De}{x1:Nat}{tp:Pos}{a b z TI TO i1 i2:Addr}(D:Zp.Apart z TI TO i1 i2 a b):
 Turn P w K (.Tuple elts x1 tp) (F5 K a b) [z,TO,i1,i2,TI] z (λi h=>Zp.Zs h z TI TO i1 i2 a b i) where
 mem:=by simp
 obj:=λi h st c hb=>by
  obtain⟨h1,h2,⟨_,_,h3⟩,⟨o4,h4,_,d4⟩,⟨o5,h5,_,d5⟩⟩:=st
  rcases(by simpa using hb:c=z\/c=TO\/c=i1\/c=i2\/c=TI) with q|q|q|q|q
  ·subst q;exact⟨_,h1,λv q=>by cases q⟩
  ·subst q;exact⟨_,h3,λv q=>by cases q⟩
  ·subst q;exact⟨_,h4,λv q=>by rw[d4] at q;cases q⟩
  ·subst q;exact⟨_,h5,λv q=>by rw[d5] at q;cases q⟩
  ·subst q;exact⟨_,h2,λv q=>by cases q⟩
 keep:=λi h h' st k=>by
  obtain⟨h1,h2,⟨_,_,h3⟩,h4,h5⟩:=st;exact⟨k z (by simp) _ h1,k TI (by simp) _ h2,⟨_,_,k TO (by simp) _ h3⟩,Zp.dm h4 λo q=>k i1 (by simp) o q,Zp.dm h5 λo q=>k i2 (by simp) o q⟩
 item:=by
  intro X hP hw hK hc i pins s σ H E I hf st hg;subst hP hw hK;obtain⟨xs,ys,x,y,hq,hr,hx,hy⟩:=hg;obtain⟨its,rv,p,hz⟩:=I.tuple hq;obtain⟨LN,Jg,p',OD⟩:=I.tuple hr;obtain⟨u,hu,ru⟩:=rv.get hx;obtain⟨v,hv,MJ⟩:=Jg.get hy;refine Zp.jt D st (show s.heap.IsTuple a its.toArray from p) (show s.heap.IsTuple b LN.toArray from p') (x:=u) (y:=v) (by simpa using hu) (by simpa using hv) λh' q1 q2 q3 q4 q5 q6=>?_;refine⟨_,rfl,wpAny_letOwnedTupleGo_zip (s:={s with heap:=h'}) q1 λh2 q7 q8=>?_⟩;have lt:∀c o,s.heap.get? c=some o->c≠s.heap.objs.size:=λc o e=>Nat.ne_of_lt (Heap.lt_size e)
  have I1:Inv X pins σ H {s with heap:=h2}:=I.aaH (t':=s.toks) (ch:=[z,TO,i1,i2]) (λc o hc e=>(q8.2 c λq=>hc (by simp[q])).trans (q6 c o hc e)) λc hc=>hf c (by
   rcases(by simpa using hc:c=z\/c=TO\/c=i1\/c=i2) with q|q|q|q <;> simp[q])
  have nz:s.heap.objs.size≠z:=Ne.symm (lt z _ st.hz);have tup:h2.get? s.heap.objs.size=some {cls:=.type "tuple",data:=.seq #[u,v]}:=(q8.2 _ nz).trans q5;have fr:H s.heap.objs.size=none:=I.hok.fresh (Nat.le_refl _);have I2:=I.aby (xs:=[x,y]) (its:=[u,v]) I1 (Nat.le_refl _) tup (.cons ru (.cons MJ .nil)) iT;have up:∀c o,c≠z->h'.get? c=some o->h2.get? c=some o:=λc o hc e=>(q8.2 c hc).trans e;obtain⟨aa,bb,q2⟩:=q2;have MK:IsPair h' TI (.ref i1) (.ref i2):=q6 TI _ (by simp only[List.mem_cons,List.not_mem_nil,or_false,not_or];exact⟨D.TIz,D.TITO,D.TIi1,D.TIi2⟩) st.hTI
  refine⟨.ref s.heap.objs.size,_,I2,rfl,⟨s.heap.objs.size,x,y,λzs Lg=>by rw[I.aaE Lg hq];exact hx,λzs Lg=>by rw[I.aaE Lg hr];exact hy,fr,rfl,rfl⟩,
   ⟨q7,up _ _ D.TIz MK,⟨aa,bb,up _ _ D.TOz q2⟩,Zp.dm q3 λo e=>up _ o D.i1z e,Zp.dm q4 λo e=>up _ o D.i2z e⟩,λc hb=>?_⟩
  have nb:c≠s.heap.objs.size:=by
   obtain⟨h1,h2,⟨_,_,h3⟩,⟨o4,h4,_,d4⟩,⟨o5,h5,_,d5⟩⟩:=st
   rcases(by simpa using hb:c=z\/c=TO\/c=i1\/c=i2\/c=TI) with q|q|q|q|q <;> subst q
   ·exact lt _ _ h1
   ·exact lt _ _ h3
   ·exact lt _ _ h4
   ·exact lt _ _ h5
   ·exact lt _ _ h2
  rw[av nb];exact(hf c hb).1
 done:=by
  intro X hP hw hK hc i pins s σ H E I hf st hg;subst hP hw hK;obtain⟨xs,ys,hq,hr,hx⟩:=hg;obtain⟨its,rv,p,hz⟩:=I.tuple hq;obtain⟨LN,Jg,p',OD⟩:=I.tuple hr;have l1:=rv.length;have l2:=Jg.length
  refine Zp.je (I.ok.hd hc) D st (show s.heap.IsTuple a its.toArray from p) (show s.heap.IsTuple b LN.toArray from p') (by
   rcases hx with q|q
   ·left;simp;omega
   ·right;simp;omega) λh' q=>⟨rfl,?_⟩
  exact I.aaH (t':=s.toks) (ch:=[z,TO,i1,i2]) q λc hc=>hf c (by
   rcases(by simpa using hc:c=z\/c=TO\/c=i1\/c=i2) with q|q|q|q <;> simp[q])
 self:=λ_ _ _ _ _ st h=>wpAny_pyIter_zip st.hz h
def He (K:Frag)(ta tb:TE):TI:=λσ H R=>dn ta (dn tb An) σ H λvs H1=>∃a b xs ys,vs=[.ref a,.ref b]/\br K H1 a xs/\br K H1 b ys/\R (F5 K a b) H1
theorem Dw {X:Cx}{ea eb:Expr}{ta tb:TE}{elts:De}{x1:Nat}{tp p pos:Pos}(ha:PE X ea ta)(hb:PE X eb tb)(hg:Gl X "zip")(hm:X.mg "zip"=none)(hs:eO ea=false:=by rfl)(KD:eO eb=false:=by rfl):
 PI X (.Tuple elts x1 tp) (.Call (.Name "zip" p) [ea,eb] [] pos) (He X.K ta tb):=by
 intro pins s σ H R I h;refine wpAny_Call_Name_kw (cN I hg hm (by rfl) ?_ (by decide) (by decide));refine PyProof.Rows.callWith_type1 (bK (ao ha (ao hb af KD) hs pos pins s σ H _ I h) λus s1 z'=>?_) (aO hs) (by rw[aO KD];rfl);obtain⟨vs,H1,I1,r1,a,b,xs,ys,hv,hq,hr,rr⟩:=z';subst hv;obtain⟨u,u',rfl,ru,MJ⟩:=sI r1
 cases(show u=Value.ref a from ru)
 cases(show u'=Value.ref b from MJ)
 obtain⟨its,rv,pl,hz⟩:=I1.tuple hq;obtain⟨LN,Jg,OE,OD⟩:=I1.tuple hr;refine Zp.xk (show s1.heap.IsTuple a its.toArray from pl) (show s1.heap.IsTuple b LN.toArray from OE) λh' q1 q4=>?_;have I2:Inv X pins σ H1 {s1 with heap:=h'}:=I1.kept (t':=s1.toks) q4
 have la:a<s1.heap.objs.size:=by obtain⟨o,e,_⟩:=pl;exact Heap.lt_size e
 have lb:b<s1.heap.objs.size:=by obtain⟨o,e,_⟩:=OE;exact Heap.lt_size e
 refine wpAny_pyIter_zip (s:={s1 with heap:=h'}) q1.hz ?_;refine⟨s1.heap.objs.size+4,[s1.heap.objs.size+4,s1.heap.objs.size+3,s1.heap.objs.size,s1.heap.objs.size+1,s1.heap.objs.size+2],_,F5 X.K a b,H1,rfl,I2,zq (Zp.lQ _ _ _ la lb),q1,λc hc=>?_,rr⟩
 have IS:s1.heap.objs.size<=c:=by
  rcases(by simpa using hc:c=s1.heap.objs.size+4\/c=s1.heap.objs.size+3\/c=s1.heap.objs.size\/c=s1.heap.objs.size+1\/c=s1.heap.objs.size+2) with q|q|q|q|q <;> rw[q]
  ·exact Nat.le_add_right _ _
  ·exact Nat.le_add_right _ _
  ·exact Nat.le_refl _
  ·exact Nat.le_add_right _ _
  ·exact Nat.le_add_right _ _
 exact I1.aaO IS (I1.hok.fresh IS)
end L2
namespace K73
open PySem L2 PySem.W
abbrev Hz:Stmt:=aJ (aL 23) 1
abbrev tw:Stmt:=aJ (aL 23) 3
abbrev xb:Stmt:=(aL 14)
abbrev iD:Stmt:=(aL 15)
def C2 (C:Addr):Sp:=λvs H Q _=>∃(p dx:Addr)(i:Int)(y:V),vs=[.ref p,y]/\H p=some (.ins C dx (cE i)) /\
 ((∃q dy j,y=.ref q/\H q=some (.ins C dy (cE j))/\Q (.bl (decide (i=j))) H)\/∃T,Th H y T/\Q (.bl false) H)
def uv (C:Addr):Sp:=λvs H Q _=>∃(p dx:Addr)(i:Int),vs=[.ref p]/\H p=some (.ins C dx (cE i))/\Q (.int i) H
def cL:V->Bool
 | .int i=>decide (0<=i)&&decide (i<60)
 |_=>false
def yy:Sp:=λvs H Q _=>∃x T,vs=[x]/\Th H x T/\Q (.bl (cL x)) H
variable {P:yn}{w:World}{K:PySem.W.Frag}{mg:xf}{base:Heap}
theorem Gf:Av Ic Ic (aj Hz):=dk (by decide +kernel)
variable {f C:Addr}{fd:zo}
theorem EE (F:Ao K "__eq__" "Field.__eq__" Hz f fd)(c:vR K mg C)(n:GP mg):Ik P w K mg base (aU P w) 1 f fd Ic (C2 C):=by
 refine F.okN Gf (λvs H Q E h=>?_) (λIv A outer s H vs Q E hr h=>?_)
 ·obtain⟨p,dx,i,y,rfl,_⟩:=h;rfl
 ·obtain⟨p,dx,i,y,rfl,hp,h⟩:=h
  refine⟨_,aq (az (dC (aD aQ (by rfl) n.isi (by rfl) (bf (pv 1) (bf (bX (by rfl) c.mgC (show aG (.ref C) (.ref C) from rfl)) af)))
   (eV (cI dZ (bO (pv 0) rfl) (bO (pv 1) rfl) (aI _))))),?_⟩
  rcases h with⟨q,dy,j,rfl,hq,z⟩|⟨T,th,z⟩
  ·refine⟨_,rfl,.ref q,.ref C,_,_,_,rfl,rfl,c.ty hq,c.is,_,rfl,?_⟩;refine b0 ?_;refine⟨_,rfl,p,C,dx,_,_,rfl,hp,c.cl,c.nP,rfl,_,rfl,q,C,dy,_,_,rfl,hq,c.cl,c.nP,rfl,rfl,?_⟩
   have e:decide (V.int i=V.int j)=decide (i=j):=by simp
   rw[e];exact z
  ·exact⟨_,rfl,y,.ref C,_,_,_,rfl,rfl,th.ty,c.no th,_,rfl,bw z⟩
theorem xu:Av ["self"] ["self"] (aj tw):=dk (by decide +kernel)
theorem yg (F:Ao K "prime" "Field.prime" tw f fd)(c:vR K mg C):Ik P w K mg base (aU P w) 1 f fd ["self"] (uv C):=by
 refine F.okN xu (λvs H Q E h=>?_) (λIv A outer s H vs Q E hr h=>?_)
 ·obtain⟨p,dx,i,rfl,_⟩:=h;rfl
 ·obtain⟨p,dx,i,rfl,hp,q⟩:=h;exact⟨_,aq (az (bO (pv 0) rfl)),_,rfl,p,C,dx,_,_,rfl,hp,c.cl,c.nP,rfl,q⟩
theorem Aw:Av wg wg (aj xb):=dk (by decide +kernel)
theorem yc {fw:Addr}{Je:zo}{tM:Tok}(F:Ao K "is_place" "is_place" xb f fd)(Z0:mg "MOST_PLACES"=some (.int 60 tM))
 (FW:Ik P w K mg base (aU P w) 1 fw Je wg Bk)(bW:L2.ay K Je wg [])(mW:mg "is_whole"=some (.ref fw))(kW:keepIn K (.ref fw)=true):Ik P w K mg base (aU P w) 2 f fd wg yy:=by
 refine F.okN Aw (λvs H Q E h=>?_) (λIv A outer s H vs Q E hr h=>?_)
 ·obtain⟨x,T,rfl,_⟩:=h;rfl
 ·obtain⟨x,T,rfl,th,q⟩:=h;have IH:p8 1 _:=hr.mono (by decide);refine⟨_,aq (az (dC (aB FW IH (by rfl) mW kW bW .nil ae (@ao _ _ _ _ _ (pv 0) af rfl)) (eV (ka iH jC au (pv 0) (bX (by rfl) Z0 (show aG (.int 60) (.int 60 tM) from⟨_,rfl⟩)))))),?_⟩;refine⟨_,rfl,x,T,rfl,th,_,rfl,?_⟩
  cases e:dz x with
  |false =>
   have z:cL x=false:=by cases x <;> first|rfl|cases e
   rw[z] at q;exact bw q
  |true =>
   have z1:∃i,x=.int i:=by cases x <;> first|exact⟨_,rfl⟩|cases e
   obtain⟨i,rfl⟩:=z1;refine b0 ?_;refine⟨_,rfl,_,_,rfl,rfl,_,rfl,?_⟩;refine dH (λh=>?_) (λh=>?_)
   ·refine⟨_,_,rfl,rfl,?_⟩;have h':decide (0<=i)=true:=h
    have z:cL (.int i)=decide (i<60):=by show(decide (0<=i)&&decide (i<60))=_;rw[h',Bool.true_and]
    rw[z] at q;exact q
   ·have h':decide (0<=i)=false:=by simpa using h
    have z:cL (.int i)=false:=by show(decide (0<=i)&&decide (i<60))=_;rw[h',Bool.false_and]
    rw[z] at q;exact q
inductive PX (H:Hp):V->Option (List V)->Prop where
 |no {x:V}{T:String}:Th H x T->T ≠ "tuple"->PX H x none
 |tup {a:Addr}{xs:List V}:H a=some (.tup xs)->xs.length<4000->(∀y∈xs,∃T,Th H y T)->PX H (.ref a) (some xs)
def Es:V->V->Bool
 | .int a,.int b=>decide (a<b)
 |_,_=>false
def jy (xs:List V):Bool:=(xs.zip (xs.drop 1)).all λp=>Es p.1 p.2
def kr:Option (List V)->Bool
 |none=>false
 |some xs=>xs.all cL&&jy xs
def l7:Sp:=λvs H Q _=>∃x o,vs=[x]/\PX H x o/\∀H',aA H H'->Q (.bl (kr o)) H'
theorem Fc (xs:List V):oW xs (some 1) none=xs.drop 1:=by
 unfold oW HT.eN
 cases xs with
 |nil=>rfl
 |cons x xs=>simp
theorem vN:Av wg wg (aj iD):=dk (by decide +kernel)
theorem oy:∀bs:List Bool,Paired Fs (bs.map V.bl) bs
 |[]=>.nil
 |b::bs=>.cons rfl (oy bs)
theorem qK {fp:Addr}{Jm:zo}(F:Ao K "is_product" "is_product" iD f fd)(Iq:mg "isinstance"=none)(IA:mg "tuple"=none)(IT:mg "all"=none)(Jy:mg "zip"=none)
 (FP:Ik P w K mg base (aU P w) 2 fp Jm wg yy)(bP:L2.ay K Jm wg [])(mP:mg "is_place"=some (.ref fp))(kP:keepIn K (.ref fp)=true):Ik P w K mg base (aU P w) 3 f fd wg l7:=by
 refine F.okN vN (λvs H Q E h=>?_) (λIv A outer s H vs Q E hr h=>?_)
 ·obtain⟨x,o,rfl,_⟩:=h;rfl
 ·obtain⟨x,o,rfl,px,q⟩:=h;have Jj:p8 2 _:=hr.mono (by decide)
  refine⟨_,(ak (a9 (PW.pt (d0 (bJ (bF (aD aQ (by rfl) Iq (by rfl) (@ao _ _ _ _ _ (pv 0) (@ao _ _ _ _ _ (c6 (by rfl) IA (by rfl) (show aG (.ty "tuple") (.type "tuple") from rfl)) af rfl) rfl)))) (dw (bJ (bF (aD (ix rfl) (by rfl) IT (by rfl) (@ao _ _ _ _ _ (ck (N:=["place"]) (nl:=1) (js:=[]) (osc:=aj iD) ⟨rfl,rfl,by decide +kernel,by decide +kernel,by decide +kernel,rfl,.nil,by decide +kernel⟩ rfl
   (qU (pv 0))
   (λC fp s H=>aE (i:=0) (by show(["place"]:zX).Nodup;decide +kernel) rfl (Or.inl rfl) (Or.inr rfl))
   (λC fp s H=>cj)
   (λC fp s H=>(aB FP Jj (by rfl) mP kP bP .nil ae (@ao _ _ _ _ _ (pv 0) af rfl)))) af rfl))))))) (aq (az dh)) aF)
   (aq (az (aD (ix rfl) (by rfl) IT (by rfl) (@ao _ _ _ _ _ (ck (g:=og K 2 (dN (cb 0) (dN (cb 1) FY))) (N:=["place","later"]) (nl:=2) (js:=[]) (osc:=aj iD) ⟨rfl,rfl,by decide +kernel,by decide +kernel,by decide +kernel,rfl,.nil,by decide +kernel⟩ rfl
    (Dw (pv 0) (xa zU (pv 0) (Aj au) Al) (by rfl) Jy)
    (λC fp s H=>(de (X:=fG _ ["place","later"] _ C fp s H) rfl (aR (aE (X:=fG _ ["place","later"] _ C fp s H) (i:=0) (by show(["place","later"]:zX).Nodup;decide +kernel) rfl (Or.inl rfl) (Or.inr rfl)) (aR (aE (X:=fG _ ["place","later"] _ C fp s H) (i:=1) (by show(["place","later"]:zX).Nodup;decide +kernel) rfl (Or.inl rfl) (Or.inr rfl)) cy))))
    (λC fp s H=>cj)
    (λC fp s H=>(@cI _ _ _ _ _ _ _ _ jC (pv 0) (pv 1) (aI _)))) af rfl))))),?_⟩
  cases px with
  |@no x T th ne =>
   refine⟨_,rfl,x,.ty "tuple",_,_,_,rfl,rfl,th.ty,th.isTup,_,rfl,?_⟩;rw[decide_eq_false ne];exact b0 (b0 (q _ (aA.refl _)))
  |@tup a xs ha hl Uc =>
   refine⟨_,rfl,.ref a,.ty "tuple",_,_,_,rfl,rfl,.of (.tup ha),rfl,_,rfl,bw ?_⟩;have Xz:∀n,n<=xs.length->n<sizeLine:=λn hn=>Nat.lt_of_le_of_lt hn (Nat.lt_trans hl (by decide));refine⟨_,rfl,a,rfl,⟨xs,br.of ha⟩,?_⟩;refine⟨λi m ys σ' H'=>m=xs.length-i/\i<=xs.length/\ys=((xs.take i).map cL).map V.bl/\H=H'/\∃o,σ'=[o],⟨xs.length,by simp,Nat.zero_le _,by simp,rfl,none,rfl⟩,?_⟩;rintro i m ys σ' H' ⟨rfl,hi,rfl,rfl,o,rfl⟩;refine⟨Xz _ (by simp;omega),?_⟩
   by_cases IC:i<xs.length
   ·refine .inr ⟨⟨xs,xs[i],br.of ha,by simp[IC]⟩,λy H2 hy=>?_⟩;obtain⟨rfl,hy⟩:=hy;have ey:=hy xs (br.of ha);obtain⟨T,th⟩:=Uc y (List.mem_of_getElem? ey);dsimp only[Ad,cb];refine b0 ⟨_,rfl,y,T,rfl,th,xs.length-(i+1),by omega,rfl,IC,?_,rfl,_,rfl⟩
    have e2:xs.take (i+1)=xs.take i++[y]:=by
     rw[List.take_add_one,ey];rfl
    rw[e2];simp
   ·have ei:i=xs.length:=by omega
    subst ei;refine .inl ⟨⟨xs,br.of ha,Nat.le_refl _⟩,λD hD=>?_⟩;rw[List.take_length];refine⟨D,_,xs.map cL,rfl,bo.of ah,oy _,_,rfl,?_⟩;have sD:aA H (upd H D (.lst ((xs.map cL).map V.bl))):=ar hD
    cases hp:(xs.map cL).all id with
    |false =>
     have z:kr (some xs)=false:=by
      show(xs.all cL&&jy xs)=_
      have:xs.all cL=false:=by rw[<-hp,List.all_map];rfl
      rw[this,Bool.false_and]
     rw[z] at q;exact b0 (q _ sD)
    |true =>
     refine bw ?_
     have z:kr (some xs)=jy xs:=by
      show(xs.all cL&&jy xs)=_
      have:xs.all cL=true:=by rw[<-hp,List.all_map];rfl
      rw[this,Bool.true_and]
     rw[z] at q;generalize upd H D (.lst ((xs.map cL).map V.bl))=H1 at sD |-;have JZ:=sD _ _ ha
     have hint:∀y∈xs,∃n,y=V.int n:=λy hy=>by
      have:cL y=true:=List.all_eq_true.mp hp _ (List.mem_map_of_mem hy)
      cases y <;> first|exact⟨_,rfl⟩|cases this
     have key:∀(b:Addr)(H2:Hp),aA H H2->H2 a=some (.tup xs)->H2 b=some (.tup (xs.drop 1)) →
      ∃W:Nat->Nat->List V->St->Hp->Prop,(∃m,W 0 m [] [none,none] H2)/\iG (F5 K a b) (og K 2 (dN (cb 0) (dN (cb 1) FY))) Ad (oI (vh λi j=>V.bl (decide (i<j))) (eP 0) (eP 1)) W
       λys H'=>∀D,H' D=none->∃l zs bs,[V.ref D]=[V.ref l]/\bo K (upd H' D (.lst ys)) l zs/\Paired Fs zs bs/\Q (.bl (bs.all id)) (upd H' D (.lst ys)):=by
      intro b H2 s2 Z1 Z2;refine⟨λi m ys σ' H'=>m=(xs.drop 1).length-i/\i<=(xs.drop 1).length/\ys=(((xs.zip (xs.drop 1)).take i).map λp=>Es p.1 p.2).map V.bl/\aA H2 H'/\∃o1 o2,σ'=[o1,o2],⟨(xs.drop 1).length,by simp,Nat.zero_le _,by simp,aA.refl _,none,none,rfl⟩,?_⟩;rintro i m ys σ' H' ⟨rfl,hi,rfl,sH,o1,o2,rfl⟩;have ML:=sH _ _ Z1;have IS:=sH _ _ Z2;refine⟨Xz _ (by simp;omega),?_⟩
      by_cases IC:i<(xs.drop 1).length
      ·have Ud:i<xs.length:=by rw[List.length_drop] at IC;omega
       refine .inr ⟨⟨xs,xs.drop 1,xs[i],(xs.drop 1)[i],br.of ML,br.of IS,by simp[Ud],by rw[List.getElem?_eq_getElem IC]⟩,λv H3 hv=>?_⟩;obtain⟨T,x,y,hx,hy,hT,rfl,rfl⟩:=hv;have ex:=hx xs (br.of ML);have ey:=hy (xs.drop 1) (br.of IS);obtain⟨n,rfl⟩:=hint x (List.mem_of_getElem? ex);obtain⟨k,rfl⟩:=hint y (List.mem_of_mem_drop (List.mem_of_getElem? ey));refine⟨T,_,rfl,br.of ah,rfl,_,_,rfl,_,_,rfl,rfl,?_⟩;dsimp only[Ad];refine b0 ⟨_,rfl,_,rfl,n,k,rfl,rfl,(xs.drop 1).length-(i+1),by omega,rfl,IC,?_,λc u e=>?_,_,_,rfl⟩
       ·have ez:(xs.zip (xs.drop 1))[i]?=some (V.int n,V.int k):=by
         rw[List.getElem?_zip_eq_some];exact⟨ex,ey⟩
        have e2:(xs.zip (xs.drop 1)).take (i+1)=(xs.zip (xs.drop 1)).take i++[(V.int n,V.int k)]:=by
         rw[List.take_add_one,ez];rfl
        rw[e2];simp[Es]
       ·rw[av (ax (sH _ _ e) hT)];exact sH _ _ e
      ·have ei:i=(xs.drop 1).length:=by omega
       subst ei;refine .inl ⟨⟨xs,xs.drop 1,br.of ML,br.of IS,.inr (Nat.le_refl _)⟩,λD' OF=>?_⟩
       have et:(xs.zip (xs.drop 1)).take (xs.drop 1).length=xs.zip (xs.drop 1):=by
        apply List.take_of_length_le;rw[List.length_zip];exact Nat.min_le_right _ _
       rw[et];refine⟨D',_,(xs.zip (xs.drop 1)).map λp=>Es p.1 p.2,rfl,bo.of ah,oy _,?_⟩
       have er:((xs.zip (xs.drop 1)).map λp=>Es p.1 p.2).all id=jy xs:=by rw[List.all_map];rfl
       rw[er];refine q _ λc u e=>?_;have e1:=sH _ _ (s2 _ _ e);rw[av (ax e1 OF)];exact e1
     refine⟨_,rfl,_,rfl,1,rfl,a,xs,rfl,br.of JZ,λe=>?_,λp XA=>?_⟩
     ·rw[Fc] at e;exact⟨a,a,xs,xs.drop 1,rfl,br.of JZ,br.of (by rw[e];exact JZ),key a H1 sD JZ (by rw[e];exact JZ)⟩
     ·rw[Fc];have np:a≠p:=ax JZ XA;exact⟨a,p,xs,xs.drop 1,rfl,br.of (by rw[av np];exact JZ),br.of ah,key p _ (λc u e=>by rw[av (ax (sD _ _ e) XA)];exact sD _ _ e) (by rw[av np];exact JZ) ah⟩
abbrev BN:Stmt:=(aL 32)
theorem PX.same {H H':Hp}{x:V}{o:Option (List V)}(h:PX H x o)(s:aA H H'):PX H' x o:=by
 cases h with
 |no th n=>exact .no (th.same s) n
 |tup e l h=>exact .tup (s _ _ e) l λy hy=>let⟨T,t⟩:=h y hy;⟨T,t.same s⟩
inductive qV (p:Int)(H:Hp):V->Bool->Prop where
 |no {x:V}{T:String}:Th H x T->T ≠ "tuple"->qV p H x false
 |odd {a:Addr}{xs:List V}:H a=some (.tup xs)->xs.length≠2->qV p H (.ref a) false
 |two {a:Addr}{y z:V}{o:Option (List V)}{o2:Option (V×V)}:H a=some (.tup [y,z])->PX H y o->TX H z o2->qV p H (.ref a) (kr o&&rP p o2)
theorem qV.same {p:Int}{H H':Hp}{x:V}{b:Bool}(h:qV p H x b)(s:aA H H'):qV p H' x b:=by
 cases h with
 |no th n=>exact .no (th.same s) n
 |odd e n=>exact .odd (s _ _ e) n
 |two e h1 h2=>exact .two (s _ _ e) (h1.same s) (h2.same s)
def xc (C:Addr):Sp:=λvs H Q _=>∃(s dx:Addr)(p:Int)(x:V)(b:Bool),vs=[.ref s,x]/\H s=some (.ins C dx (cE p))/\FP p/\qV p H x b/\∀H',aA H H'->Q (.bl b) H'
theorem Dt:Av yM yM (aj BN):=dk (by decide +kernel)
theorem Ai {fp fi:Addr}{Jm KG:zo}(F:Ao K "is_term" "is_term" BN f fd)(c:vR K mg C)(Iq:mg "isinstance"=none)(IA:mg "tuple"=none)(Iz:mg "len"=none)
 (Z3:Ik P w K mg base (aU P w) 3 fp Jm wg l7)(bP:L2.ay K Jm wg [])(mP:mg "is_product"=some (.ref fp))(kP:keepIn K (.ref fp)=true)
 (FI:Ik P w K mg base (aU P w) 2 fi KG vK (ib C))(bI:L2.ay K KG vK [])(mI:L2.Meth K C "is_number" fi):Ik P w K mg base (aU P w) 4 f fd yM (xc C):=by
 refine F.okN Dt (λvs H Q E h=>?_) (λIv A outer s H vs Q E hr h=>?_)
 ·obtain⟨s,dx,p,x,b,rfl,_⟩:=h;rfl
 ·obtain⟨s0,dx,p,x,b,rfl,hs,hp,tx,q⟩:=h;have JR:p8 3 _:=hr.mono (by decide);have Jj:p8 2 _:=hr.mono (by decide)
  refine⟨_,aq (az (dC (aD aQ (by rfl) Iq (by rfl) (@ao _ _ _ _ _ (pv 1) (@ao _ _ _ _ _ (c6 (by rfl) IA (by rfl) (show aG (.ty "tuple") (.type "tuple") from rfl)) af rfl) rfl))
   (dC (@cI _ _ _ _ _ _ _ _ dZ (aD bu (by rfl) Iz PySem.boot_len (@ao _ _ _ _ _ (pv 1) af rfl)) au (aI _))
   (dC (aB Z3 JR (by rfl) mP kP bP .nil ae (@ao _ _ _ _ _ (@bg _ _ _ _ _ _ _ aZ (pv 1) au (λ_ _=>rfl)) af rfl))
   (eV (bY (pv 0) c.cl mI FI Jj bI .nil ae (@ao _ _ _ _ _ (@bg _ _ _ _ _ _ _ aZ (pv 1) au (λ_ _=>rfl)) af rfl))))))),?_⟩
  cases tx with
  |@no x T th ne =>
   refine⟨_,rfl,x,.ty "tuple",_,_,_,rfl,rfl,th.ty,th.isTup,_,rfl,?_⟩;rw[decide_eq_false ne];exact bw (q _ (aA.refl _))
  |@odd a xs ha hl =>
   refine⟨_,rfl,.ref a,.ty "tuple",_,_,_,rfl,rfl,.of (.tup ha),rfl,_,rfl,b0 ?_⟩;refine⟨_,rfl,a,_,rfl,.inr (br.of ha),rfl,_,rfl,?_⟩;refine dH (λh=>absurd h (by simp;omega)) (λh=>?_);exact q _ (aA.refl _)
  |@two a y z o o2 ha hy hz =>
   refine⟨_,rfl,.ref a,.ty "tuple",_,_,_,rfl,rfl,.of (.tup ha),rfl,_,rfl,b0 ?_⟩;refine⟨_,rfl,a,_,rfl,.inr (br.of ha),rfl,_,rfl,b0 ?_⟩;refine⟨_,rfl,a,_,0,y,rfl,rfl,br.of ha,rfl,y,o,rfl,hy,λH' sH=>⟨_,rfl,?_⟩⟩;have KD:=sH _ _ hs;have ML:=sH _ _ ha
   cases e:kr o with
   |false =>
    rw[e,Bool.false_and] at q;exact bw (q _ sH)
   |true =>
    rw[e,Bool.true_and] at q;refine b0 ⟨_,rfl,s0,dx,_,rfl,KD,rfl,_,rfl,a,_,1,z,rfl,rfl,br.of ML,rfl,s0,dx,p,z,o2,rfl,KD,hp,hz.same sH,q _ sH⟩
abbrev pe:Stmt:=(aL 33)
abbrev pV:Stmt:=(aL 34)
def my (C:Addr):Sp:=λvs H Q _=>∃(s dx:Addr)(p:Int)(x:V),vs=[.ref s,x]/\H s=some (.ins C dx (cE p))/\FP p /\
 ((x=.non/\∀l,H l=none->Q (.ref l) (upd H l (.lst [])))\/∃l ys,x=.ref l/\H l=some (.lst ys)/\ys.length<4000/\(∀y∈ys,qV p H y true)/\∀H',aA H H'->Q (.ref l) H')
def qA:Sp:=λvs H Q _=>∃(a b:Addr)(z:V)(xs:List V),vs=[.ref a]/\H a=some (.tup [.ref b,z])/\H b=some (.tup xs)/\∀t,H t=none->Q (.ref t) (upd H t (.tup [.int xs.length,.ref b]))
theorem i7:Av ["field","terms","number","thing"] D1 (aj pe):=dk (by decide +kernel)
theorem u5:Av ["term"] ["term"] (aj pV):=dk (by decide +kernel)
theorem sj (F:Ao K "place_of_term" "place_of_term" pV f fd)(Iz:mg "len"=none):Ik P w K mg base (aU P w) 1 f fd ["term"] qA:=by
 refine F.okN u5 (λvs H Q E h=>?_) (λIv A outer s H vs Q E hr h=>?_)
 ·obtain⟨a,b,z,xs,rfl,_⟩:=h;rfl
 ·obtain⟨a,b,z,xs,rfl,ha,hb,q⟩:=h;refine⟨_,(aq (az (@bD _ _ _ _ _ (@ao _ _ _ _ _ (aD bu (by rfl) Iz PySem.boot_len (@ao _ _ _ _ _ (@bg _ _ _ _ _ _ _ aZ (pv 0) au (λ_ _=>rfl)) af rfl)) (@ao _ _ _ _ _ (@bg _ _ _ _ _ _ _ aZ (pv 0) au (λ_ _=>rfl)) af rfl) rfl)))),?_⟩;refine⟨_,rfl,a,_,0,_,rfl,rfl,br.of ha,rfl,b,xs,rfl,.inr (br.of hb),_,rfl,a,_,0,_,rfl,rfl,br.of ha,rfl,iT,λt ht=>q t ht⟩
theorem qQ {ft:Addr}{JQ:zo}(F:Ao K "checked_terms" "checked_terms" pe f fd)(Iq:mg "isinstance"=none)(Iw:mg "list"=none)(ID:mg "enumerate"=none)
 (FT:Ik P w K mg base (aU P w) 4 ft JQ yM (xc C))(bT:L2.ay K JQ yM [])(mT:mg "is_term"=some (.ref ft))(kT:keepIn K (.ref ft)=true):Ik P w K mg base (aU P w) 5 f fd D1 (my C):=by
 refine F.okN i7 (λvs H Q E h=>?_) (λIv A outer s H vs Q E hr h=>?_)
 ·obtain⟨s,dx,p,x,rfl,_⟩:=h;rfl
 ·obtain⟨s0,dx,p,x,rfl,hs,hp,h⟩:=h;have Jb:p8 4 _:=hr.mono (by decide)
  refine⟨_,(ak (a9 (@aK _ _ _ _ _ _ _ _ xy (pv 1) lK (aI _)) (aq (az (@cw _ _ _ _ af))) aF)
   (ak (a9 (bJ (bF (aD aQ (by rfl) Iq (by rfl) (@ao _ _ _ _ _ (pv 1) (@ao _ _ _ _ _ (c6 (by rfl) Iw (by rfl) (show aG (.ty "list") (.type "list") from rfl)) af rfl) rfl)))) (aq (ql)) aF)
   (ak (dO PassesOwn.never rfl (ug (pv 1) (by rfl) ID) (de rfl (aR (aE (i:=2) i7.nd rfl (Or.inl rfl)) (aR (aE (i:=3) i7.nd rfl (Or.inl rfl)) cy)))
   (aq (a9 (bJ (bF (aB FT Jb (by rfl) mT kT bT .nil ae (@ao _ _ _ _ _ (pv 0) (@ao _ _ _ _ _ (pv 3) af rfl) rfl)))) (aq (ql)) aF)))
   (aq (az (pv 1)))))),?_⟩
  rcases h with⟨rfl,q⟩|⟨l,ys,rfl,hl,hlen,SJ,q⟩
  ·refine⟨_,rfl,rfl,_,rfl,?_⟩;exact b0 ⟨Nat.zero_le _,λl hl=>q l hl⟩
  ·refine⟨_,rfl,rfl,_,rfl,bw ?_⟩;refine⟨_,rfl,.ref l,.ty "list",_,_,_,rfl,rfl,.of (.lst hl),rfl,_,rfl,bw ?_⟩;refine⟨_,rfl,l,ys,rfl,bo.of hl,?_⟩;refine⟨λi m σ' H'=>m=ys.length-i/\i<=ys.length/\aA H H'/\∃o1 o2,σ'=[some (.ref s0),some (.ref l),o1,o2],⟨ys.length,by simp,Nat.zero_le _,aA.refl _,none,none,rfl⟩,?_⟩;rintro i m σ' H' ⟨rfl,hi,sH,o1,o2,rfl⟩;have Kc:=sH _ _ hl
   by_cases IC:i<ys.length
   ·refine .inr ⟨⟨ys,ys[i],bo.of Kc,by simp[IC]⟩,λσ' H'=>i+1<=ys.length/\aA H H'/\∃o1 o2,σ'=[some (.ref s0),some (.ref l),o1,o2],?_,λv H2 hv=>?_⟩
    ·rintro σ' H' ⟨h1,h2,h3⟩;exact⟨ys.length-(i+1),by omega,rfl,h1,h2,h3⟩
    ·obtain⟨T,y,hy,hT,rfl,rfl⟩:=hv;have ey:=hy ys (bo.of Kc)
     have s2:aA H (upd H' T (.tup [.int i,y])):=λc u e=>by
      rw[av (ax (sH _ _ e) hT)];exact sH _ _ e
     have ty:=(SJ y (List.mem_of_getElem? ey)).same s2;refine⟨T,_,rfl,br.of ah,rfl,_,_,rfl,_,_,rfl,rfl,?_⟩;refine⟨_,rfl,_,rfl,s0,dx,p,y,true,rfl,s2 _ _ hs,hp,ty,λH3 s3=>⟨_,rfl,bw ?_⟩⟩;exact⟨IC,λc u e=>s3 _ _ (s2 _ _ e),_,_,rfl⟩
   ·refine .inl ⟨⟨ys,bo.of Kc,by omega⟩,?_⟩;exact⟨_,rfl,q _ sH⟩
end K73
namespace Srt
open PySem PySem.W PyProof.Rows L2
def nH (sp:Sp):List V->Hp->(List V->Hp->Prop)->Prop
 |[],H,R=>R [] H
 |x::xs,H,R=>sp [x] H (λk H1=>nH sp xs H1 λks H2=>R (k::ks) H2) λ_ _ _=>False
variable {b:Addr}{ob:Obj}
section
variable {X:Cx}{pins:List (Addr×Obj)}{σ:L2.St}{H:Hp}{s:Dx}
theorem uX {D:Addr}{o:HO}(I:Inv X pins σ H s)(f:cR X pins H D)(hD:X.s₀.heap.objs.size<=D)(new:bx X.prog X.w (upd H D o) s.heap D o):Inv X pins σ (upd H D o) s:=by
 obtain⟨f0,f1,f2,f3,f4,f5⟩:=f;have u:=I.base;refine⟨I.ok,I.os,I.bare,⟨u.keep,u.slot,λb' o' e n hx=>?_,u.there,λb' xs e=>?_,λb' o' u' e=>?_,λb' ps e=>?_⟩,I.loc,I.cell,?_,λx c e=>?_,λp hp=>?_,dM I.hok f0 new,I.len⟩
 ·rw[av (Nat.ne_of_lt (Nat.lt_of_lt_of_le (Heap.lt_size e) hD))];exact u.free b' o' e n hx
 ·rw[av (ax (u.aal b' xs e) f0)];exact u.aal b' xs e
 ·rw[av (ax (u.aak b' o' u' e) f0)];exact u.aak b' o' u' e
 ·obtain⟨m,q⟩:=u.aar b' ps e;exact⟨m,by rw[av (ax q f0)];exact q⟩
 ·rw[av (Ne.symm f1)];exact I.free
 ·rw[av (f4 x c e)];exact I.aaj x c e
 ·obtain⟨e,n,r⟩:=I.pin p hp;exact⟨e,by rw[av (f5 p hp)];exact n,r⟩
theorem AW {c:Addr}(f:cR X pins H b)(h:c≠b):cR X (pins++[(c,ob)]) H b:=by
 obtain⟨f0,f1,f2,f3,f4,f5⟩:=f;refine⟨f0,f1,f2,f3,f4,λp hp=>?_⟩;rw[<-List.append_assoc] at hp
 rcases List.mem_append.mp hp with z|z
 ·exact f5 p z
 ·have e:p=(c,ob):=by simpa using z
  subst e;exact h
theorem n8 {H':Hp}(f:cR X pins H b)(h:H' b=none):cR X pins H' b:=⟨h,f.2⟩
theorem sG (I:Inv X pins σ H s)(f:cR X pins H b)(e:s.heap.get? b=some ob)(d:∀v,ob.data≠.cell v):Inv X (pins++[(b,ob)]) σ H s:=I.aap λp hp=>by
 rcases List.mem_append.mp hp with z|z
 ·exact I.pin p (List.mem_append_right _ z)
 ·have e1:p=(b,ob):=by simpa using z
  subst e1;exact⟨e,f.1,f.2.1,f.2.2.1,d⟩
theorem nA (I:Inv X (pins++[(b,ob)]) σ H s):Inv X pins σ H s:=I.aap λp hp=>I.pin p (List.mem_append_right _ (List.mem_append_left _ hp))
theorem wt (I:Inv X (pins++[(b,ob)]) σ H s):s.heap.get? b=some ob/\H b=none:=by
 obtain⟨e,n,_⟩:=I.pin (b,ob) (List.mem_append_right _ (List.mem_append_right _ (by simp)));exact⟨e,n⟩
end
theorem kN {c:String}{xs:GV}{n:Nat}:∀v,(seqObj c xs n).data≠.cell v:=λv z=>by cases z
variable {H:Hp}{s:Dx}{Q:VK}
section
variable {X:Cx}{pins:List (Addr×Obj)}{σ:L2.St}{k:Nat}{f:Addr}{fd:zo}{ps:zX}{sp:Sp}{A:Around}{E:yj}
theorem zc {x:V}{u:Value}(F:Ik X.prog X.w X.K X.mg X.base (aU X.prog X.w) k f fd ps sp)(hr:p8 k A)(hA:∀H s,Inv X pins σ H s->Dl X.prog X.w X.K X.mg X.base A X.stack s H)(hb:ay X.K fd ps [])(I:Inv X pins σ H s)(r:aG x u)(h:sp [x] H Q λ_ _ _=>False):
 wpAny (model X.prog X.w) A (call (.ref f) [u]) (EP X pins σ Q) (λ_ _=>False) s:=by
 have hl:([u]:oH).length+([]:oH).length=ps.length:=by have:=F.len _ _ _ _ h;simpa using this
 have bd:=hb s [u] I.kIn hl;rw[List.append_nil] at bd;refine wpAny_call (codeAny_mono (F.run A X.stack s H ⟨[u],[]⟩ [u] [x] Q _ hr (hA H s I) bd (.cons r .nil) h) λres s' hq=>?_)
 cases res with
 |error e =>
  obtain⟨a,cls,a0,B,d,H',_,_,_,_,hE⟩:=hq;exact hE.elim
 |ok fl =>
  cases fl with
  |ret v=>exact I.after hq
  |next=>exact False.elim hq
  |brk=>exact False.elim hq
  |cont=>exact False.elim hq
end
abbrev k9 (X:Cx)(xs:List V)(Q:VK):List V->Hp->Prop:=λks H2=>∃kz,dW X.K H2 ks kz/\kz.Nodup/\∀D,H2 D=none->Q (.ref D) (upd H2 D (.lst ((dQ (kz.zip xs)).map (·.2))))
variable {xs:List V}
section
variable {X:Cx}{pins:List (Addr×Obj)}{σ:L2.St}{k:Nat}{f:Addr}{fd:zo}{ps:zX}{sp:Sp}{A:Around}{E:yj}
theorem A4 {ks vs:oH}(h:ks.length=vs.length):((ks.toArray.zip vs.toArray).map (·.2))=vs.toArray:=by
 apply Array.toList_inj.mp;rw[Array.toList_map,ksk_zip];simp only[List.toList_toArray] at *;exact List.map_snd_zip (by omega)
theorem vV {D kS:Addr}{e1 c:Nat}{kV:List V}{us ks:oH}{P:PySem.Fin->Shared->Prop}(hA:A.units+2<cLine)(hD:X.s₀.heap.objs.size<=D)(fD:cR X pins H D)(fS:cR X pins H kS)(ne:kS≠D)
 (I:Inv X pins σ H s)(eD:s.heap.get? D=some (seqObj "list" #[] e1))(eS:s.heap.get? kS=some (seqObj "list" ks.toArray c))(rx:aM xs us)(MM:aM kV ks)(hl:kV.length=xs.length)(h64:xs.length<64)(w:k9 X xs Q kV H)
 (hP:∀s',EP X pins σ Q (.ref D) s'->P (.done (.ret .none)) s'):wpAny (model X.prog X.w) A (ksk_end D false us.toArray e1 (.ref kS) ks.toArray) P E s:=by
 obtain⟨kz,hk,nd,q⟩:=w;have l1:=rx.length;have l2:=MM.length;have l3:=hk.len;have inj:=DF nd
 have fin:∀p,Pm xs.length (rk kz) p->Up (rk kz) p xs.length->∀st:SortSt,(arrOf st).map (·.2)=(hX us p).toArray->failedOf st=none->wpAny (model X.prog X.w) A (ksk_tail D false e1 (.ref kS) st) P E s:=λp pm up st Ue hf=>by
  have Ug:=zu rx pm (Nat.le_refl _);rw[yX (by omega) nd pm up] at Ug
  have hlen:((dQ (kz.zip xs)).map (·.2)).length<=sizeLine:=by
   rw[List.length_map,(dD _).length_eq,List.length_zip];exact Nat.le_trans (Nat.min_le_right _ _) (gE h64)
  have Uh:(hX us p).toArray.size<=sizeLine:=by rw[List.size_toArray,<-Ug.length];exact hlen
  have OG:=Heap.SameBut.update s.heap kS (Obj.mapSeq λ_=>(#[]:GV));have LO:(s.heap.update kS (Obj.mapSeq λ_=>(#[]:GV))).get? D=some (seqObj "list" #[] e1):=(OG.2 D (Ne.symm ne)).trans eD;have I1:Inv X pins σ H {s with heap:=s.heap.update kS (Obj.mapSeq λ_=>(#[]:GV))}:=cJ I fS OG;unfold ksk_tail;dsimp only;rw[Ue];refine wpAny_bind (listUpdate_at eS rfl (wpAny_bind (wpAny_letGo ?_)) (by rw[List.size_toArray,<-l2,hl];exact gE h64) (Nat.zero_le _));generalize s.heap.update kS (Obj.mapSeq λ_=>(#[]:GV))=h1 at LO I1 |-;have Z4:=Heap.SameBut.update h1 D (Obj.mapSeq λ_=>(hX us p).toArray);obtain⟨c2,Kr⟩:∃c2,(h1.update D (Obj.mapSeq λ_=>(hX us p).toArray)).get? D=some (seqObj "list" (hX us p).toArray c2):=⟨_,get?_update_seq LO λ_=>(hX us p).toArray⟩;have I2:Inv X pins σ H {s with heap:=h1.update D (Obj.mapSeq λ_=>(hX us p).toArray)}:=cJ (s:={s with heap:=h1}) I1 fD Z4;have I3:=uX (o:=.lst ((dQ (kz.zip xs)).map (·.2))) I2 fD hD ⟨hlen,_,c2,Ug,Kr⟩;refine wpAny_bind (seqEpoch_at LO rfl (wpAny_bind (listUpdate_at LO rfl ?_ (Nat.zero_le _) (Nat.le_succ_of_le Uh))));rw[hf];simp only[bne_self_eq_false,Bool.false_eq_true,if_false];exact wpAny_pure (hP _ ⟨.ref D,_,I3,rfl,q D fD.1⟩)
 have P0:Pm xs.length (rk kz) (List.range xs.length).toArray:=uK (λi j hi hj=>inj i j (by omega) (by omega)) (Array.Perm.refl _);unfold ksk_end;dsimp only;rw[if_neg Bool.false_ne_true];simp only[Bool.false_eq_true,if_false]
 by_cases h2:us.toArray.size<2
 ·have small:xs.length<2:=by rw[l1];simpa using h2
  rw[if_pos h2,if_pos h2];refine wpAny_bind (wpAny_pure ?_);rw[StateT.run_pure];refine wpAny_bind (wpAny_pure ?_);refine fin (List.range xs.length).toArray P0 (λi j J1 hj=>by omega) _ ?_ rfl;show(ks.toArray.zip us.toArray).map (·.2)=_;rw[A4 (by omega),l1,xV]
 ·have big:2<=us.length:=by simpa using h2
  rw[if_neg h2,if_neg h2];obtain⟨κ,Kv,Ui⟩:=qR (A:=A) I hA hk MM nd (by omega);refine wpAny_bind (wpAny_mono (Kv (λκ' s0=>(kas_sort us.length).kasWp (kas_ask X.prog X.w A κ' ks) (λp s'=>s'=s/\Pm us.length (rk kz) p/\Up (rk kz) p us.length) s0) (AI (n:=us.length) (r:=rk kz) (λi j hi hj=>inj i j (by omega) (by omega)) (λi j C hi hj=>Ui i j C (by omega) (by omega)) (by omega) λp pm up=>⟨rfl,pm,up⟩)) (λκ' s0 hw=>?_) λ_ _ x=>x.elim);refine wpAny_bind (wpAny_mono (kat_run (κ:=κ') (Q:=λJx s'=>∃p:Array Nat,arrOf Jx=p.map (kas_item (ks.toArray.zip us.toArray))/\failedOf Jx=none/\s'=s/\Pm us.length (rk kz) p/\Up (rk kz) p us.length) (by omega) big (by omega) (λp' Jx s' _ a2 a3 a4=>⟨p',a2,a3,a4⟩) hw) ?_ λ_ _ e=>e);rintro⟨⟨⟩,Jx⟩ s' ⟨p,Ue,hf,rfl,pm,up⟩;exact fin p (by rw[l1];exact pm) (by rw[l1];exact up) Jx (kat_snds (by omega) Ue) hf
theorem yF {α:Type}{l:List α}{j:Nat}{x:α}(h:l[j]?=some x):l.drop j=x::l.drop (j+1):=by
 obtain⟨hj,e⟩:=List.getElem?_eq_some_iff.mp h;rw[List.drop_eq_getElem_cons hj,e]
theorem lZ {D:Addr}{n:Nat}{us:oH}{P:PySem.Fin->Shared->Prop}(F:Ik X.prog X.w X.K X.mg X.base (aU X.prog X.w) k f fd ps sp)(hr:p8 k A)(hE:∀pins' H s,Inv X pins' σ H s->Dl X.prog X.w X.K X.mg X.base A X.stack s H)(hb:ay X.K fd ps [])
 (hD:X.s₀.heap.objs.size<=D)(fD:cR X pins H D)(I:Inv X pins σ H s)(eD:s.heap.get? D=some (seqObj "list" us.toArray n))(rx:aM xs us)(h64:xs.length<64)(h:nH sp xs H (k9 X xs Q))
 (hP:∀s',EP X pins σ Q (.ref D) s'->P (.done (.ret .none)) s'):wpAny (model X.prog X.w) A (ksk_tree D (.ref f) false) P E s:=by
 have l1:=rx.length
 have Z5:us.toArray.size<=sizeLine:=by rw[List.size_toArray,<-l1];exact gE h64
 obtain⟨e1,LO⟩:∃e1,(s.heap.update D (Obj.mapSeq λ_=>(#[]:GV))).get? D=some (seqObj "list" #[] e1):=⟨_,get?_update_seq eD λ_=>#[]⟩;have I1:Inv X pins σ H {s with heap:=s.heap.update D (Obj.mapSeq λ_=>(#[]:GV))}:=cJ I fD (Heap.SameBut.update _ _ _);unfold ksk_tree;refine wpAny_bind (listItems_at eD rfl (wpAny_bind (listUpdate_at eD rfl (wpAny_bind (seqEpoch_at LO rfl (wpAny_bind (wpAny_newTuple ?_ (by show us.length<=_;rw[<-l1];exact gE h64))))) Z5 (Nat.zero_le _))));refine wpAny_bind (wpAny_newList (wpAny_holding ?_) (Nat.zero_le _));generalize s.heap.update D (Obj.mapSeq λ_=>(#[]:GV))=h1 at LO I1 |-;dsimp only;have I2:Inv X pins σ H {s with heap:=h1.push (seqObj "tuple" us.toArray 0)}:=I1.kept (t':=s.toks) λb o q=>Heap.get?_push_of_some _ q;have Uj:(h1.push (seqObj "tuple" us.toArray 0)).get? D=some (seqObj "list" #[] e1):=Heap.get?_push_of_some _ LO;show wpAny (model X.prog X.w) A (ksk_rest D (.ref f) false us.toArray e1 (.ref (h1.push (seqObj "tuple" us.toArray 0)).objs.size)) P E {s with heap:=(h1.push (seqObj "tuple" us.toArray 0)).push (seqObj "list" #[] 0)};generalize h1.push (seqObj "tuple" us.toArray 0)=h2 at I2 Uj |-;have ne:h2.objs.size≠D:=Nat.ne_of_gt (Heap.lt_size Uj);have Uk:cR X pins H h2.objs.size:=I2.aaO (Nat.le_refl _) (I2.hok.fresh (Nat.le_refl _));have I3:Inv X pins σ H {s with heap:=h2.push (seqObj "list" #[] 0)}:=I2.kept (t':=s.toks) λb o q=>Heap.get?_push_of_some _ q;have Z6:(h2.push (seqObj "list" #[] 0)).get? D=some (seqObj "list" #[] e1):=Heap.get?_push_of_some _ Uj;have XB:(h2.push (seqObj "list" #[] 0)).get? h2.objs.size=some (seqObj "list" ([]:oH).toArray 0):=Heap.get?_push_size _ rfl;have Z7:∀{H':Hp},H' D=none->cR X pins H' D:=λz=>n8 fD z;have Ul:∀{H':Hp},H' h2.objs.size=none->cR X pins H' h2.objs.size:=λz=>n8 Uk z;generalize h2.objs.size=kS at ne Uk XB Ul |-;unfold ksk_rest;refine wpAny_bind (wpAny_rule ?_);rw[List.forIn_toArray]
 let II:Nat->Shared->Prop:=λj s'=>∃(H':Hp)(c:Nat)(kV:List V)(ks:oH),Inv X (pins++[(D,seqObj "list" #[] e1)]) σ H' s'/\s'.heap.get? kS=some (seqObj "list" ks.toArray c)/\H' kS=none/\aM kV ks/\kV.length=j/\nH sp (xs.drop j) H' λk2 H2=>k9 X xs Q (kV++k2) H2
 have I4:Inv X (pins++[(D,seqObj "list" #[] e1)]) σ H {s with heap:=h2.push (seqObj "list" #[] 0)}:=sG I3 fD Z6 kN;refine wpAny_bind (wpAny_mono (ksk_fold (E:=E) (Q:=λ_ s'=>II us.length s') II us 0 {s with heap:=h2.push (seqObj "list" #[] 0)} ⟨H,0,[],[],I4,XB,Uk.1,.nil,rfl,by simpa using h⟩ (λj u s' hu hI=>?_) λs' hd=>by simpa using hd) (λ_ s' hI=>?_) λ_ _ e=>e)
 ·rw[Nat.zero_add] at hI |-;obtain⟨H',c,kV,ks,J,eS,nS,MM,hl,t⟩:=hI;have hj:j<us.length:=(List.getElem?_eq_some_iff.mp hu).1;obtain⟨x,hx⟩:∃x,xs[j]?=some x:=⟨xs[j]'(by omega),by simp[show j<xs.length by omega]⟩;obtain⟨u',XC,Z8⟩:=rx.get hx;rw[hu] at XC
  cases XC
  rw[yF hx] at t;have XD:cR X (pins++[(D,seqObj "list" #[] e1)]) H' kS:=AW (Ul nS) (Ne.symm ne);have J2:=sG J XD eS kN;refine wpAny_bind (wpAny_attempt (wpAny_mono (zc F hr (hE _) hb J2 Z8 t) (λkv s2 hk=>?_) λ_ _ z=>z.elim));obtain⟨v,H2,J3,rv,t2⟩:=hk;obtain⟨XE,XF⟩:=wt J3;have J4:=nA J3;have Z9:cR X (pins++[(D,seqObj "list" #[] e1)]) H2 kS:=n8 XD XF
  have ea:ks.toArray.push kv=(ks++[kv]).toArray:=by simp
  obtain⟨c2,Kr⟩:∃c2,(s2.heap.update kS (Obj.mapSeq (·.push kv))).get? kS=some (seqObj "list" (ks++[kv]).toArray c2):=⟨_,by rw[<-ea];exact get?_update_seq XE (·.push kv)⟩;have lk:=MM.length;refine wpAny_bind (listUpdate_at XE rfl ?_ (by rw[List.size_toArray];exact gE (by omega)) (Nat.le_trans (Nat.le_of_eq (Array.size_push ..)) (by rw[List.size_toArray];exact Nat.succ_le_succ (gE (by omega)))));refine wpAny_pure ⟨rfl,H2,c2,kV++[v],ks++[kv],cJ J4 Z9 (Heap.SameBut.update _ _ _),Kr,XF,MM.append (.cons rv .nil),by simp[hl],?_⟩
  have e:∀k2:List V,kV++[v]++k2=kV++v::k2:=λk2=>by simp
  simp only[e];exact t2
 ·obtain⟨H',c,kV,ks,J,eS,nS,MM,hl,t⟩:=hI;rw[<-l1,List.drop_length] at t
  have w:k9 X xs Q kV H':=by
   have z:k9 X xs Q (kV++[]) H':=t;rwa[List.append_nil] at z
  obtain⟨eD4,nD⟩:=wt J;refine wpAny_bind (listItems_at eS rfl ?_);exact vV (by have:=hr.units;omega) hD (Z7 nD) (Ul nS) ne (nA J) eD4 eS rx MM (by omega) h64 w hP
theorem qL {l:Addr}(F:Ik X.prog X.w X.K X.mg X.base (aU X.prog X.w) k f fd ps sp)(hr:p8 (k+2) X.A)(hb:ay X.K fd ps [])
 (I:Inv X pins σ H s)(hl:bo X.K H l xs)(h64:xs.length<64)(h:nH sp xs H (k9 X xs Q)):wpAny (model X.prog X.w) X.A (call (.builtin "sorted") [.ref l] [(Str.ofString "key",.ref f)]) (EP X pins σ Q) E s:=by
 obtain⟨us,rx,pl,_⟩:=I.list hl;have l1:=rx.length;refine call_function_entry_kw kind_sorted plain_sorted entry_sorted (ksk_s1 _ _) ?_;unfold Builtin.«sorted»;refine wpAny_bind (m:=checkCount "sorted" 1 1 _) (wpAny_pure (wpAny_bind (collect_list pl.isList (wpAny_bind (wpAny_newList ?_ (gE (by omega)))) (gE (by omega)))))
 have sz:((s.heap.push (seqObj "list" #[] 0)).update s.heap.objs.size (Obj.mapSeq (·++us.toArray))).objs.size=s.heap.objs.size+1:=by rw[Heap.size_update];exact size_push' _ _
 have Um:(((s.heap.push (seqObj "list" #[] 0)).update s.heap.objs.size (Obj.mapSeq (·++us.toArray))).push (seqObj "list" us.toArray 0)).get? (s.heap.objs.size+1)=some (seqObj "list" us.toArray 0):=by
  rw[<-sz];exact Heap.get?_push_size _ rfl
 have old:∀b o,s.heap.get? b=some o->(((s.heap.push (seqObj "list" #[] 0)).update s.heap.objs.size (Obj.mapSeq (·++us.toArray))).push (seqObj "list" us.toArray 0)).get? b=some o:=λb o q=>by
  have lt:b<s.heap.objs.size:=Heap.lt_size q;refine Heap.get?_push_of_some _ ?_;rw[Heap.get?_update_ne _ _ _ _ (Nat.ne_of_lt lt)];exact Heap.get?_push_of_some _ q
 show wpAny _ _ _ _ _ {s with heap:=((s.heap.push (seqObj "list" #[] 0)).update s.heap.objs.size (Obj.mapSeq (·++us.toArray))).push (seqObj "list" us.toArray 0)};rw[sz];generalize ((s.heap.push (seqObj "list" #[] 0)).update s.heap.objs.size (Obj.mapSeq (·++us.toArray))).push (seqObj "list" us.toArray 0)=h5 at Um old |-;have I5:Inv X pins σ H {s with heap:=h5}:=I.kept (t':=s.toks) old;have fD:cR X pins H (s.heap.objs.size+1):=I.aaO (Nat.le_succ _) (I.hok.fresh (Nat.le_succ _));refine wpAny_bind (wpAny_holding (wpAny_call_entry_kw slot_list_sort ⟨_,Um,rfl⟩ entry_list_sort ?body (ksk_l1 _ _)))
 case body =>
  show wpAny (model X.prog X.w) X.A.in1.in1 (Builtin.«list.sort» ⟨[.ref (s.heap.objs.size+1)],[(Str.ofString "key",.ref f)]⟩) _ _ _;rw[ksk_t1];exact lZ (A:=X.A.in1.in1) F hr.in1.in1 (λpins' H' s' J=>J.abt.in1.in1) hb (Nat.le_trans I.sz (Nat.le_succ _)) fD I5 Um rx h64 h λs' q=>⟨_,rfl,wpAny_pure ⟨_,rfl,q⟩⟩
end
def CL (X:Cx)(sp:Sp)(ta:TE):TE:=λσ H Q=>dn ta An σ H λvs H1=>∃l xs,vs=[.ref l]/\bo X.K H1 l xs/\xs.length<64/\nH sp xs H1 (k9 X xs Q)
section
variable {X:Cx}{k:Nat}{f:Addr}{fd:zo}{ps:zX}{sp:Sp}{e:Expr}{ta:TE}{x:Str}{p p2 kpos pos:Pos}
theorem qf (F:Ik X.prog X.w X.K X.mg X.base (aU X.prog X.w) k f fd ps sp)(hr:p8 (k+2) X.A)(hb:ay X.K fd ps [])(hg:Gl X "sorted")(hm:X.mg "sorted"=none)(hgf:Gl X x)(hmf:X.mg x=some (.ref f))(ha:PE X e ta)(hs:eO e=false:=by rfl)(hd:(x==("__debug__":Str))=false:=by decide):
 PE X (.Call (.Name "sorted" p) [e] [⟨some "key",.Name x p2,kpos⟩] pos) (CL X sp ta):=by
 intro pins s σ H Q I h;refine wpAny_Call_Name_kw (cN I hg hm (by rfl) ?_ (by decide) (by decide));refine callWith_builtin_kwB (by rw[aO hs];rfl) rfl (evalArgs_kw2 rfl ?_ (aO hs));refine bK (ao ha af hs pos pins s σ H _ I h) λus s1 z'=>?_;obtain⟨vs,H1,I1,r1,⟨l,xs,hv,hl,h64,ht⟩⟩:=z';subst hv
 cases r1 with
 |cons ra rb =>
  cases rb
  cases ra
  refine kwAll_cons (fR I1 hgf hmf (kwAll_nil ?_) hd);exact qL F hr hb I1 hl h64 ht
end
end Srt
namespace K73
open PySem L2 PySem.W Nm Srt
variable {n:Nat}{p:Int}
theorem Cr {t b:Int}(hp:FP p)(h:B n t)(hb:b≠0)(hn:7<=n):B n (cM p t b):=by
 unfold cM
 by_cases z:p=0
 ·rw[if_pos z];exact h.le (oq hb)
 ·rw[if_neg z];obtain⟨_,p2,SA⟩:=hp.two z;have h0:=Int.emod_nonneg t (b:=p) (by omega);have h1:=Int.emod_lt_of_pos t (b:=p) (by omega)
  have:B 7 (t%p):=by
   show(t%p).natAbs<2^7;omega
  exact this.mono hn
theorem CK {n:Nat}{t b:Int}(h:B n b)(hb:b≠0)(hn:1<=n):B n (c8 p t b):=by
 unfold c8
 by_cases z:p=0
 ·rw[if_pos z];exact h.le (Bp hb)
 ·rw[if_neg z];exact(show B 1 (1:Int) from(by show(1:Int).natAbs<2^1;decide)).mono hn
abbrev Tm:=List Int×Int×Int
def cZ (p:Int)(a b:Int×Int):Int×Int:=(cM p (iC a.1 a.2 b.1 b.2) (a.2*b.2),c8 p (iC a.1 a.2 b.1 b.2) (a.2*b.2))
def Gn (p:Int)(n:Nat)(a:Int×Int):Prop:=Num p a.1 a.2/\B n a.1/\B n a.2
theorem Gn.ne {a:Int×Int}(h:Gn p n a):a.2≠0:=by have:=h.1.pos;omega
theorem mO {m:Nat}{a b:Int×Int}(hp:FP p)(ha:Gn p n a)(hb:Gn p m b)(h7:7<=n+m+1):Gn p (n+m+1) (cZ p a b):=by
 have nz:a.2*b.2≠0:=Int.mul_ne_zero ha.ne hb.ne;refine⟨Num.set hp.nn nz,Cr hp ?_ nz h7,(CK (n:=n+m) (ha.2.2.mul hb.2.2) nz (by omega)).mono (by omega)⟩;have h1:B (n+m) (a.1*b.2):=ha.2.1.mul hb.2.2;have h2:B (n+m) (b.1*a.2):=(hb.2.1.mul ha.2.2).mono (by omega);exact h1.add h2
theorem vg {b:Int×Int}(hp:FP p)(hb:Gn p n b):cZ p (0,1) b=b:=by
 obtain⟨h1,h2⟩:=hb.1.self hp.nn;unfold cZ iC
 have e1:(0:Int)*b.2+b.1*1=b.1:=by omega
 have e2:(1:Int)*b.2=b.2:=by omega
 rw[e1,e2,h1,h2]
def du (p:Int)(d:List Tm)(t:Tm):List Tm:=if d.any (λe=>decide (e.1=t.1))=true then d.map (λe=>if e.1=t.1 then(e.1,cZ p e.2 t.2) else e) else d++[t]
def aY (p:Int)(ts:List Tm):List Tm:=ts.foldl (du p) []
def mh (p:Int)(n:Nat)(d:List Tm):Prop:=∀e∈d,Gn p n e.2
variable {d:List Tm}
theorem vS {m:Nat}{t:Tm}(hp:FP p)(hd:mh p n d)(ht:Gn p m t.2)(h7:7<=n+m+1):mh p (n+m+1) (du p d t):=by
 have up:∀e∈d,Gn p (n+m+1) e.2:=λe he=>⟨(hd e he).1,(hd e he).2.1.mono (by omega),(hd e he).2.2.mono (by omega)⟩;unfold du
 split
 ·intro e he;obtain⟨e0,h0,rfl⟩:=List.mem_map.mp he
  by_cases q:e0.1=t.1
  ·rw[if_pos q];exact mO hp (hd e0 h0) ht h7
  ·rw[if_neg q];exact up e0 h0
 ·intro e he
  rcases List.mem_append.mp he with he|he
  ·exact up e he
  ·have:e=t:=by simpa using he
   subst this;exact⟨ht.1,ht.2.1.mono (by omega),ht.2.2.mono (by omega)⟩
theorem ni {t:Tm}(hd:(d.map (·.1)).Nodup):((du p d t).map (·.1)).Nodup:=by
 unfold du
 split
 ·rw[List.map_map]
  have:((λe:Tm=>e.1) ∘ λe=>if e.1=t.1 then(e.1,cZ p e.2 t.2) else e)=λe=>e.1:=by
   funext e
   show(if e.1=t.1 then(e.1,cZ p e.2 t.2) else e).1=e.1
   split <;> rfl
  rw[this];exact hd
 ·rename_i q
  rw[List.map_append];refine List.nodup_append.mpr ⟨hd,by simp,λa ha b hb z=>?_⟩
  have:b=t.1:=by simpa using hb
  subst this;subst z;obtain⟨e,he,e1⟩:=List.mem_map.mp ha;exact q (List.any_eq_true.mpr ⟨e,he,by simpa using e1⟩)
theorem xC {t:Tm}:(du p d t).length<=d.length+1:=by
 unfold du
 split <;> simp
def fX (t:Tm):Ky:=(t.1.length,t.1)
def gZ (d:List Tm):List Tm:=(dQ ((d.filter λe=>e.2.1 != 0).map λe=>(fX e,e))).map (·.2)
theorem ja (p:Int)(ts:List Tm)(t:Tm):aY p (ts++[t])=du p (aY p ts) t:=by
 unfold aY;rw[List.foldl_append];rfl
theorem di {m:Nat}(hp:FP p):∀(n:Nat)(ts:List Tm),ts.length=n->(∀t∈ts,Gn p m t.2)->mh p ((m+1)*n+7) (aY p ts)/\((aY p ts).map (·.1)).Nodup/\(aY p ts).length<=n
 |0,ts,hn,_=>by
  have:ts=[]:=List.length_eq_zero_iff.mp hn;subst this;refine And.intro (λe he=>?_) (And.intro List.nodup_nil (Nat.le_refl 0));exact absurd (show e∈([]:List Tm) from he) (by simp)
 |n+1,ts,hn,h=>by
  obtain⟨Ly,t,rfl⟩:∃Ly t,ts=Ly++[t]:=by
   have IX:ts≠[]:=by intro z;rw[z] at hn;cases hn
   exact⟨ts.dropLast,ts.getLast IX,(List.dropLast_concat_getLast IX).symm⟩
  have hl:Ly.length=n:=by simpa using hn
  obtain⟨g1,g2,g3⟩:=di hp n Ly hl λt ht=>h t (List.mem_append_left _ ht);rw[ja];have gt:=h t (List.mem_append_right _ (by simp));have e2:(m+1)*(n+1)=(m+1)*n+(m+1):=Nat.mul_succ _ _;refine⟨λe he=>?_,ni g2,Nat.le_trans xC (by omega)⟩;have:=vS hp g1 gt (by omega) e he;exact⟨this.1,this.2.1.mono (by omega),this.2.2.mono (by omega)⟩
end K73
namespace Nm
open Lean.Grind in
structure Val (p:Int)(R:Type) [CommRing R](v:Int×Int->R):Prop where
 zero:v (0,1)=0
 one:v (1,1)=1
 set:∀{t b:Int}{a c:Int×Int},Num p a.1 a.2->Num p c.1 c.2->(t=a.1*c.2+c.1*a.2->b=a.2*c.2->v (cM p t b,c8 p t b)=v a+v c)/\(t=a.1*c.1->b=a.2*c.2->v (cM p t b,c8 p t b)=v a*v c)
 inj:∀{a c:Int×Int},Num p a.1 a.2->Num p c.1 c.2->v a=v c->a=c
theorem gX {t b:Int}(h:b≠0):cM 0 t b*b=t*c8 0 t b:=by
 have e1:=pG (t:=t) h;have e2:=iz (t:=t) h;show cW t b*b=t*b7 t b;generalize cW t b=x at *;generalize b7 t b=y at *;generalize dv t b=d at *;subst e1;subst e2;grind
theorem Bo:Val 0 Rat (λa=>Rat.divInt a.1 a.2) where
 zero:=by decide +kernel
 one:=by decide +kernel
 set:=by
  intro t b a c na nc
  have ha:a.2≠0:=by have:=na.pos;omega
  have hc:c.2≠0:=by have:=nc.pos;omega
  have hb:a.2*c.2≠0:=Int.mul_ne_zero ha hc;refine⟨λet eb=>?_,λet eb=>?_⟩
  ·subst eb;subst et
   have hs:c8 0 (a.1*c.2+c.1*a.2) (a.2*c.2)≠0:=by have:=(Num.set (p:=0) (t:=a.1*c.2+c.1*a.2) (Int.le_refl 0) hb).pos;omega
   show Rat.divInt _ _=Rat.divInt _ _+Rat.divInt _ _;rw[Rat.divInt_add_divInt _ _ ha hc,Rat.divInt_eq_divInt_iff hs hb];exact gX hb
  ·subst eb;subst et
   have hs:c8 0 (a.1*c.1) (a.2*c.2)≠0:=by have:=(Num.set (p:=0) (t:=a.1*c.1) (Int.le_refl 0) hb).pos;omega
   show Rat.divInt _ _=Rat.divInt _ _*Rat.divInt _ _;rw[Rat.divInt_mul_divInt,Rat.divInt_eq_divInt_iff hs hb];exact gX hb
 inj:=by
  intro a c na nc e
  have ha:a.2≠0:=by have:=na.pos;omega
  have hc:c.2≠0:=by have:=nc.pos;omega
  have e:=(Rat.divInt_eq_divInt_iff ha hc).mp e;obtain⟨h1,h2⟩:=DT (p:=0) ha nc (Int.le_refl 0) (λ_=>e) (λz=>absurd rfl z);obtain⟨g1,g2⟩:=na.self (Int.le_refl 0);exact Prod.ext (g1.symm.trans h1) (g2.symm.trans h2)
theorem As {n:Nat} [NeZero n](h2:2<=n):Val (n:Int) (Fin n) (λa=>Fin.ofNat n a.1.toNat) where
 zero:=rfl
 one:=rfl
 set:=by
  intro t b a c na nc
  have hz:(n:Int)≠0:=by omega
  obtain⟨a2,a0,a1⟩:=na.pr hz;obtain⟨c2,c0,c1⟩:=nc.pr hz
  have key:∀x y z:Int,0<=x->0<=y->0<=z->z=x+y->(z%(n:Int)).toNat%n=(x.toNat%n+y.toNat%n)%n:=by
   intro x y z hx hy hz e;obtain⟨x,rfl⟩:∃m:Nat,x=(m:Int):=⟨x.toNat,by omega⟩;obtain⟨y,rfl⟩:∃m:Nat,y=(m:Int):=⟨y.toNat,by omega⟩;subst e;rw[show((x:Int)+(y:Int))%(n:Int)=(((x+y)%n:Nat):Int) from by push_cast;rfl];rw[Int.toNat_natCast,Int.toNat_natCast,Int.toNat_natCast,Nat.mod_mod,Nat.add_mod]
  have Uo:∀x y z:Int,0<=x->0<=y->z=x*y->(z%(n:Int)).toNat%n=(x.toNat%n)*(y.toNat%n)%n:=by
   intro x y z hx hy e;obtain⟨x,rfl⟩:∃m:Nat,x=(m:Int):=⟨x.toNat,by omega⟩;obtain⟨y,rfl⟩:∃m:Nat,y=(m:Int):=⟨y.toNat,by omega⟩;subst e;rw[show((x:Int)*(y:Int))%(n:Int)=(((x*y)%n:Nat):Int) from by push_cast;rfl];rw[Int.toNat_natCast,Int.toNat_natCast,Int.toNat_natCast,Nat.mod_mod,Nat.mul_mod]
  refine⟨λet eb=>?_,λet eb=>?_⟩
  ·apply Fin.ext;show(cM (n:Int) t b).toNat%n=(a.1.toNat%n+c.1.toNat%n)%n;unfold cM;rw[if_neg hz];exact key a.1 c.1 t a0 c0 (by rw[et,a2,c2];omega) (by rw[et,a2,c2];omega)
  ·apply Fin.ext;show(cM (n:Int) t b).toNat%n=(a.1.toNat%n)*(c.1.toNat%n)%n;unfold cM;rw[if_neg hz];exact Uo a.1 c.1 t a0 c0 et
 inj:=by
  intro a c na nc e
  have hz:(n:Int)≠0:=by omega
  obtain⟨a2,a0,a1⟩:=na.pr hz;obtain⟨c2,c0,c1⟩:=nc.pr hz;have e:a.1.toNat%n=c.1.toNat%n:=congrArg Fin.val e;rw[Nat.mod_eq_of_lt (by omega),Nat.mod_eq_of_lt (by omega)] at e;exact Prod.ext (by omega) (by omega)
theorem DV {p:Int}(hp:p=0\/2<=p):∃(R:Type)(i:Lean.Grind.CommRing R)(v:Int×Int->R),@Val p R i v:=by
 rcases hp with rfl|hp
 ·exact⟨Rat,_,_,Bo⟩
 ·obtain⟨n,rfl⟩:∃n:Nat,p=(n:Int):=⟨p.toNat,by omega⟩;have:NeZero n:=⟨by omega⟩;exact⟨Fin n,_,_,As (by omega)⟩
end Nm
namespace K73
open PySem L2 PySem.W Nm Srt
variable {d ts:List Tm}
section
variable {p:Int}{R:Type} [Lean.Grind.CommRing R]{v:Int×Int->R}
def S (v:Int×Int->R):List Tm->(List Int->R)->R
 |[],_=>0
 |t::ts,F=>v t.2*F t.1+S v ts F
theorem fE (a b:List Tm)(F:List Int->R):S v (a++b) F=S v a F+S v b F:=by
 induction a with
 |nil=>show S v b F=0+S v b F;grind
 |cons t a ih =>
  show v t.2*F t.1+S v (a++b) F=v t.2*F t.1+S v a F+S v b F;rw[ih];grind
theorem EG (a:List Tm)(c:R)(F:List Int->R):S v a (λi=>c*F i)=c*S v a F:=by
 induction a with
 |nil=>show(0:R)=c*0;grind
 |cons t a ih =>
  show v t.2*(c*F t.1)+S v a (λi=>c*F i)=c*(v t.2*F t.1+S v a F);rw[ih];grind
theorem CT {a b:List Tm}(h:a.Perm b)(F:List Int->R):S v a F=S v b F:=by
 induction h with
 |nil=>rfl
 |cons x _ ih=>show _+_=_+_;rw[ih]
 |swap x y l =>
  show v y.2*F y.1+(v x.2*F x.1+S v l F)=v x.2*F x.1+(v y.2*F y.1+S v l F);grind
 |trans _ _ i1 i2=>exact i1.trans i2
def cp (p:Int)(d:List Tm):Prop:=∀e∈d,Num p e.2.1 e.2.2
theorem pQ {a b:Int×Int}(hp:0<=p)(ha:Num p a.1 a.2)(hb:Num p b.1 b.2):Num p (cZ p a b).1 (cZ p a b).2 :=
 Num.set hp (Int.mul_ne_zero (by have:=ha.pos;omega) (by have:=hb.pos;omega))
theorem xE {t:Tm}(hp:0<=p)(hd:cp p d)(ht:Num p t.2.1 t.2.2):cp p (du p d t):=by
 intro e he;unfold du at he
 split at he
 ·obtain⟨e0,h0,rfl⟩:=List.mem_map.mp he
  by_cases q:e0.1=t.1
  ·rw[if_pos q];exact pQ hp (hd e0 h0) ht
  ·rw[if_neg q];exact hd e0 h0
 ·rcases List.mem_append.mp he with he|he
  ·exact hd e he
  ·have:e=t:=by simpa using he
   rw[this];exact ht
theorem EK (V:Val p R v){x:Int×Int}(hx:Num p x.1 x.2)(k:List Int)(F:List Int->R):∀{d:List Tm},cp p d->(d.map (·.1)).Nodup →
 S v (d.map λe=>if e.1=k then(e.1,cZ p e.2 x) else e) F=S v d F+(if d.any (λe=>decide (e.1=k))=true then v x*F k else 0)
 |[],_,_=>by show(0:R)=0+0;grind
 |e::d,hn,hd=>by
  rw[List.map_cons] at hd;obtain⟨h1,h2⟩:=List.nodup_cons.mp hd;have NA:cp p d:=λe he=>hn e (List.mem_cons_of_mem _ he);have ih:=EK V hx k F NA h2;rw[List.map_cons,List.any_cons]
  by_cases q:e.1=k
  ·have no:d.any (λe=>decide (e.1=k))=false:=by
    rw[List.any_eq_false];intro e' KH z
    have:e'.1=k:=by simpa using z
    exact h1 (List.mem_map.mpr ⟨e',KH,by rw[this,q]⟩)
   rw[no,if_neg (by simp)] at ih;rw[if_pos q,no,decide_eq_true q];have ev:v (cZ p e.2 x)=v e.2+v x:=(V.set (hn e List.mem_cons_self) hx).1 rfl rfl;show v (cZ p e.2 x)*F e.1+S v (d.map _) F=v e.2*F e.1+S v d F+v x*F k;rw[ih,ev,q];grind
  ·rw[if_neg q,decide_eq_false q,Bool.false_or];show v e.2*F e.1+S v (d.map _) F=v e.2*F e.1+S v d F+_;rw[ih];grind
theorem DH (V:Val p R v){t:Tm}(hn:cp p d)(ht:Num p t.2.1 t.2.2)(hd:(d.map (·.1)).Nodup)(F:List Int->R):S v (du p d t) F=S v d F+v t.2*F t.1:=by
 unfold du
 split
 ·rename_i q
  rw[EK V ht t.1 F hn hd,if_pos q]
 ·rw[fE];show S v d F+(v t.2*F t.1+0)=_;grind
theorem uo (V:Val p R v)(hp:0<=p)(F:List Int->R):∀(ts d:List Tm),cp p ts->cp p d->(d.map (·.1)).Nodup →
 S v (ts.foldl (du p) d) F=S v d F+S v ts F/\cp p (ts.foldl (du p) d)/\((ts.foldl (du p) d).map (·.1)).Nodup
 |[],d,_,hn,hd=>⟨by show S v d F=S v d F+0;grind,hn,hd⟩
 |t::ts,d,ht,hn,hd=>by
  have h1:=ht t List.mem_cons_self;obtain⟨i1,i2⟩:=uo V hp F ts (du p d t) (λe he=>ht e (List.mem_cons_of_mem _ he)) (xE hp hn h1) (ni hd);refine⟨?_,i2⟩;show S v (ts.foldl (du p) (du p d t)) F=S v d F+(v t.2*F t.1+S v ts F);rw[i1,DH V hn h1 hd];grind
theorem gP (V:Val p R v)(hp:0<=p)(h:cp p ts)(F:List Int->R):S v (aY p ts) F=S v ts F/\cp p (aY p ts)/\((aY p ts).map (·.1)).Nodup:=by
 obtain⟨h1,h2⟩:=uo V hp F ts [] h (λe he=>nomatch he) List.nodup_nil;refine⟨?_,h2⟩;show S v (ts.foldl (du p) []) F=_;rw[h1];show(0:R)+S v ts F=S v ts F;grind
theorem xx {t b:Int}(h:Num p t b)(z:t=0):b=1:=by
 have:=h.red;have:=h.pos;rw[z,Int.gcd_zero_left] at *;omega
theorem p4 (V:Val p R v)(F:List Int->R):∀{d:List Tm},cp p d->S v (d.filter λe=>e.2.1 != 0) F=S v d F
 |[],_=>rfl
 |e::d,h=>by
  have ih:=p4 V F (d:=d) λe he=>h e (List.mem_cons_of_mem _ he)
  by_cases q:e.2.1=0
  ·rw[List.filter_cons_of_neg (by simp[q]),ih];have e2:e.2=(0,1):=Prod.ext q (xx (h e List.mem_cons_self) q);show _=v e.2*F e.1+S v d F;rw[e2,V.zero];grind
  ·rw[List.filter_cons_of_pos (by simp[q])];show v e.2*F e.1+S v _ F=v e.2*F e.1+S v d F;rw[ih]
theorem dJ (d:List Tm):(gZ d).Perm (d.filter λe=>e.2.1 != 0):=by
 unfold gZ;have h:=(dD ((d.filter λe=>e.2.1 != 0).map λe=>(fX e,e))).map (·.2);rw[List.map_map] at h;have e:((λx:Ky×Tm=>x.2) ∘ λe=>(fX e,e))=id:=rfl;rw[e,List.map_id] at h;exact h
theorem BZ (V:Val p R v)(h:cp p d)(F:List Int->R):S v (gZ d) F=S v d F:=by
 rw[CT (dJ d),p4 V F h]
theorem xp (h:cp p d):cp p (gZ d):=λe he=>h e (List.mem_filter.mp ((dJ d).mem_iff.mp he)).1
theorem C5 (V:Val p R v)(hp:0<=p)(h:cp p ts)(F:List Int->R):S v (gZ (aY p ts)) F=S v ts F:=by
 obtain⟨h1,h2,_⟩:=gP V hp h F;rw[BZ V h2,h1]
theorem DB (V:Val p R v)(hp:0<=p)(h:cp p ts):cp p (gZ (aY p ts)):=xp (gP V hp h λ_=>0).2.1
def dl (k:List Int):List Int->R:=λi=>if i=k then 1 else 0
theorem Do {k:List Int}:∀{d:List Tm},k∉d.map (·.1)->S v d (dl k)=0
 |[],_=>rfl
 |e::d,h=>by
  rw[List.map_cons,List.mem_cons,not_or] at h;show v e.2*(if e.1=k then 1 else 0)+S v d (dl k)=0;rw[if_neg (λz=>h.1 z.symm),Do h.2];grind
theorem DE:∀{d:List Tm}{e:Tm},(d.map (·.1)).Nodup->e∈d->S v d (dl e.1)=v e.2
 |x::d,e,hd,he=>by
  rw[List.map_cons] at hd;obtain⟨h1,h2⟩:=List.nodup_cons.mp hd;show v x.2*(if x.1=e.1 then 1 else 0)+S v d (dl e.1)=v e.2
  rcases List.mem_cons.mp he with rfl|he
  ·rw[if_pos rfl,Do h1];grind
  ·rw[if_neg (λz=>h1 (List.mem_map.mpr ⟨e,he,z.symm⟩)),DE h2 he];grind
theorem qv (V:Val p R v){c:List Tm}(hn:cp p d)(hd:(d.map (·.1)).Nodup)(cn:cp p c)(cd:(c.map (·.1)).Nodup)(h:∀F:List Int->R,S v d F=S v c F){e:Tm}(he:e∈d.filter λe=>e.2.1 != 0):e∈c.filter λe=>e.2.1 != 0:=by
 obtain⟨h1,h2⟩:=List.mem_filter.mp he;refine List.mem_filter.mpr ⟨?_,h2⟩;have e1:=DE (v:=v) hd h1;rw[h] at e1
 by_cases k:e.1∈c.map (·.1)
 ·obtain⟨e',KH,ek⟩:=List.mem_map.mp k;have e2:=DE (v:=v) cd KH;rw[ek,e1] at e2;have e3:=V.inj (hn e h1) (cn e' KH) e2;have:e=e':=Prod.ext ek.symm e3;rw[this];exact KH
 ·rw[Do k] at e1;have e3:=V.inj (a:=(0,1)) (c:=e.2) ⟨by decide,by decide,λz=>⟨rfl,by decide,?_⟩⟩ (hn e h1) (V.zero.trans e1)
  ·rw[<-e3] at h2;exact absurd h2 (by decide)
  ·have:=((hn e h1).pr z).2;show(0:Int)<p;omega
theorem pf (h:(d.map (·.1)).Nodup):d.Nodup:=by
 induction d with
 |nil=>exact List.nodup_nil
 |cons e d ih =>
  rw[List.map_cons] at h;obtain⟨h1,h2⟩:=List.nodup_cons.mp h;exact List.nodup_cons.mpr ⟨λz=>h1 (List.mem_map.mpr ⟨e,z,rfl⟩),ih h2⟩
theorem A6 (V:Val p R v){c:List Tm}(hn:cp p d)(hd:(d.map (·.1)).Nodup)(cn:cp p c)(cd:(c.map (·.1)).Nodup)(h:∀F:List Int->R,S v d F=S v c F):gZ d=gZ c:=by
 have nd:=(pf hd).filter (λe:Tm=>e.2.1 != 0);have nc:=(pf cd).filter (λe:Tm=>e.2.1 != 0);have pm:(d.filter λe=>e.2.1 != 0).Perm (c.filter λe=>e.2.1 != 0):=(List.perm_ext_iff_of_nodup nd nc).mpr λe=>⟨qv V hn hd cn cd h,qv V cn cd hn hd λF=>(h F).symm⟩;unfold gZ;congr 1;refine qm ?_ (pm.map _);rw[List.map_map];have cf:((c.filter λe=>e.2.1 != 0).map (·.1)).Nodup:=cd.sublist (List.filter_sublist.map _);generalize (c.filter λe=>e.2.1 != 0)=l at cf
 induction l with
 |nil=>exact List.nodup_nil
 |cons e l ih =>
  rw[List.map_cons] at cf |-;obtain⟨h1,h2⟩:=List.nodup_cons.mp cf;refine List.nodup_cons.mpr ⟨λz=>?_,ih h2⟩;obtain⟨x,hx,ex⟩:=List.mem_map.mp z;have ex:fX x=fX e:=ex;exact h1 (List.mem_map.mpr ⟨x,hx,congrArg Prod.snd ex⟩)
theorem BP (V:Val p R v)(hp:0<=p){us:List Tm}(ht:cp p ts)(hu:cp p us)(h:∀F:List Int->R,S v ts F=S v us F):gZ (aY p ts)=gZ (aY p us):=by
 obtain⟨_,t1,t2⟩:=gP V hp ht λ_=>0;obtain⟨_,u1,u2⟩:=gP V hp hu λ_=>0
 exact A6 V t1 t2 u1 u2 λF=>by rw[(gP V hp ht F).1,(gP V hp hu F).1,h]
end
end K73
namespace St
open PySem
abbrev T:=SetTable
def Up (xs:Array Nat):Prop:=∀i j,i<j->j<xs.size->xs.getD i 0<xs.getD j 0
def F1 (xs:Array Nat)(j r:Nat):Prop:=r<=xs.size/\(∀k,k<r->xs.getD k 0<j)/\∀k,r<=k->k<xs.size->j<=xs.getD k 0
variable {xs:Array Nat}{k:Nat}
theorem yk {d e:Nat}(h:k<xs.size):xs.getD k d=xs.getD k e:=by
 simp[Array.getD,h]
variable {j:Nat}
theorem DO (u:Up xs):∀(f lo hi:Nat),lo<=hi->hi<=xs.size->hi-lo<=f->(∀k,k<lo->xs.getD k 0<j)->(∀k,hi<=k->k<xs.size->j<=xs.getD k 0) →
 F1 xs j (SetTable.below.go xs j f lo hi):=by
 intro f
 induction f with
 |zero =>
  intro lo hi h1 h2 h3 h4 h5
  have e:lo=hi:=by omega
  subst e;exact⟨h2,h4,h5⟩
 |succ f ih =>
  intro lo hi h1 h2 h3 h4 h5;unfold SetTable.below.go
  by_cases h:lo<hi
  ·rw[if_pos h]
   have hm:(lo+hi)/2<xs.size:=by omega
   have e:xs.getD ((lo+hi)/2) j=xs.getD ((lo+hi)/2) 0:=yk hm;dsimp only;rw[e]
   by_cases g:xs.getD ((lo+hi)/2) 0<j
   ·rw[if_pos g];refine ih _ _ (by omega) h2 (by omega) (λk hk=>?_) h5
    rcases Nat.lt_or_ge k ((lo+hi)/2) with q|q
    ·exact Nat.lt_trans (u _ _ q hm) g
    ·have:k=(lo+hi)/2:=by omega
     rw[this];exact g
   ·rw[if_neg g];refine ih _ _ (by omega) (by omega) (by omega) h4 (λk hk hk2=>?_)
    rcases Nat.lt_or_ge ((lo+hi)/2) k with q|q
    ·exact Nat.le_trans (Nat.not_lt.mp g) (Nat.le_of_lt (u _ _ q hk2))
    ·have:k=(lo+hi)/2:=by omega
     rw[this];exact Nat.not_lt.mp g
  ·rw[if_neg h]
   have e:lo=hi:=by omega
   subst e;exact⟨h2,h4,h5⟩
theorem eX (u:Up xs)(j:Nat):F1 xs j (SetTable.below xs j):=
 DO u _ _ _ (Nat.zero_le _) (Nat.le_refl _) (by omega) (λk hk=>absurd hk (Nat.not_lt_zero _)) (λk h1 h2=>absurd h1 (by omega))
theorem rO {r q:Nat}(a:F1 xs j r)(b:F1 xs j q):r=q:=by
 rcases Nat.lt_trichotomy r q with h|h|h
 ·have h1:=b.2.1 r h;have h2:=a.2.2 r (Nat.le_refl _) (Nat.lt_of_lt_of_le h b.1);omega
 ·exact h
 ·have h1:=a.2.1 q h;have h2:=b.2.2 q (Nat.le_refl _) (Nat.lt_of_lt_of_le h a.1);omega
theorem qM (u:Up xs):SetTable.below xs 0=0 :=
 rO (eX u 0) ⟨Nat.zero_le _,λk hk=>absurd hk (Nat.not_lt_zero _),λ_ _ _=>Nat.zero_le _⟩
variable {i:Nat}
theorem qP (u:Up xs)(h:i<xs.size):SetTable.below xs (xs.getD i 0+1)=i+1:=by
 refine rO (eX u _) ⟨h,λk hk=>?_,λk h1 h2=>?_⟩
 ·rcases Nat.lt_or_ge k i with q|q
  ·exact Nat.lt_succ_of_lt (u _ _ q h)
  ·have:k=i:=by omega
   rw[this];exact Nat.lt_succ_self _
 ·exact u _ _ (by omega) h2
theorem qX (h:i<xs.size):xs[i]?=some (xs.getD i 0):=by
 simp[Array.getD,h]
def wm (xs:Array Nat)(j:Nat):Prop:=∃k,k<xs.size/\xs.getD k 0=j
theorem nk {t:T}(u:Up t.place)(h:wm t.place j):∃i,t.slot j=.live i:=by
 obtain⟨k,hk,rfl⟩:=h
 have hb:SetTable.below t.place (t.place.getD k 0)=k:=by
  refine rO (eX u _) ⟨Nat.le_of_lt hk,λq hq=>u _ _ hq hk,λq h1 h2=>?_⟩
  rcases Nat.lt_or_ge k q with g|g
  ·exact Nat.le_of_lt (u _ _ g h2)
  ·have:q=k:=by omega
   rw[this];exact Nat.le_refl _
 refine⟨k,?_⟩;unfold SetTable.slot;dsimp only;rw[hb,qX hk];simp
theorem iU {t:T}(u:Up t.place)(d:t.dummies = #[])(h:¬wm t.place j):t.slot j=.empty:=by
 unfold SetTable.slot;dsimp only
 have e:(t.place[SetTable.below t.place j]?==some j)=false:=by
  rcases Nat.lt_or_ge (SetTable.below t.place j) t.place.size with g|g
  ·rw[qX g];have:t.place.getD (SetTable.below t.place j) 0≠j:=λq=>h ⟨_,g,q⟩;simpa using this
  ·rw[Array.getElem?_eq_none g];rfl
 have e2:SetTable.has t.dummies j=false:=by rw[d];simp[SetTable.has]
 rw[e,e2];rfl
theorem eU {α:Type}(xs:Array α)(p:Nat)(x:α)(h:p<=xs.size):(SetTable.insertAt xs p x).size=xs.size+1:=by
 rw[<-Array.length_toList,SetTable.toList_insertAt];simp;omega
theorem hZ {p x:Nat}(h:p<=xs.size):(SetTable.insertAt xs p x).getD k 0=if k<p then xs.getD k 0 else if k=p then x else xs.getD (k-1) 0:=by
 have e:∀(ys:Array Nat)(k:Nat),ys.getD k 0=(ys.toList[k]?).getD 0:=by
  intro ys k;rw[Array.getElem?_toList,Array.getD_eq_getD_getElem?]
 rw[e,e,e,SetTable.toList_insertAt]
 have hl:(xs.toList.take p).length=p:=by simp[h]
 by_cases g:k<p
 ·rw[if_pos g,List.getElem?_append_left (by omega),List.getElem?_take_of_lt g]
 ·rw[if_neg g,List.getElem?_append_right (by omega),hl]
  by_cases g2:k=p
  ·subst g2;simp
  ·rw[if_neg g2];obtain⟨q,hq⟩:∃q,k=p+(q+1):=⟨k-p-1,by omega⟩;subst hq;rw[show p+(q+1)-p=q+1 from by omega,List.getElem?_cons_succ,List.getElem?_drop,show p+(q+1)-1=p+q from by omega]
theorem vM (u:Up xs)(h:¬wm xs j):Up (SetTable.insertAt xs (SetTable.below xs j) j):=by
 obtain⟨c1,c2,c3⟩:=eX u j;generalize SetTable.below xs j=p at c1 c2 c3;intro a b LK hb;rw[eU _ _ _ c1] at hb;rw[hZ c1,hZ c1];have gt:∀k,p<=k->k<xs.size->j<xs.getD k 0:=λk h1 h2=>Nat.lt_of_le_of_ne (c3 k h1 h2) λe=>h ⟨k,h2,e.symm⟩
 by_cases ha:a<p
 ·rw[if_pos ha]
  by_cases SF:b<p
  ·rw[if_pos SF];exact u _ _ LK (by omega)
  ·rw[if_neg SF]
   by_cases XG:b=p
   ·rw[if_pos XG];exact c2 _ ha
   ·rw[if_neg XG];exact Nat.lt_trans (c2 _ ha) (gt _ (by omega) (by omega))
 ·rw[if_neg ha]
  by_cases Uq:a=p
  ·rw[if_pos Uq,if_neg (by omega),if_neg (by omega)];exact gt _ (by omega) (by omega)
  ·rw[if_neg Uq,if_neg (by omega),if_neg (by omega)];exact u _ _ (by omega) (by omega)
def it (m:Nat):Nat->Nat->Nat
 |0,x=>x
 |n+1,x=>it m n ((x*5+1)%m)
theorem si (m a:Nat):∀b x,it m (b+a) x=it m a (it m b x):=by
 intro b
 induction b with
 |zero=>intro x;rw[Nat.zero_add];rfl
 |succ b ih=>intro x;rw[Nat.succ_add];exact ih _
def round (m:Nat):Bool:=it m m 0==0&&(List.range m).all λy=>(List.range m).any λn=>it m n 0==y
variable {m:Nat}
theorem Fv (h:round m=true){x y:Nat}(hx:x<m)(hy:y<m):∃n,n<m/\it m n x=y:=by
 obtain⟨h1,h2⟩:=Bool.and_eq_true_iff.mp h
 have h0:it m m 0=0:=by simpa using h1
 have on:∀y,y<m->∃n,n<m/\it m n 0=y:=λy hy=>by
  have h3:=List.all_eq_true.mp h2 y (List.mem_range.mpr hy);obtain⟨n,hn,e⟩:=List.any_eq_true.mp h3;exact⟨n,List.mem_range.mp hn,by simpa using e⟩
 obtain⟨a,ha,rfl⟩:=on x hx;obtain⟨b,hb,rfl⟩:=on y hy
 rcases Nat.lt_or_ge b a with g|g
 ·refine⟨(m-a)+b,by omega,?_⟩
  have e:it m (m-a) (it m a 0)=0:=by rw[<-si,show a+(m-a)=m from by omega,h0]
  rw[si,e]
 ·exact⟨b-a,by omega,by rw[<-si,show a+(b-a)=b from by omega]⟩
theorem DD:round 8=true:=by decide +kernel
theorem AA:round 32=true:=by decide +kernel
theorem wV:round 128=true:=by decide +kernel
def j5 (k:Nat):Prop:=k=7\/k=31\/k=127
theorem j5.round (h:j5 k):St.round (k+1)=true:=by
 rcases h with rfl|rfl|rfl
 ·exact DD
 ·exact AA
 ·exact wV
def lp (mask:Nat):Nat->Nat->Nat->Nat×Nat
 |0,i,p=>(i,p)
 |n+1,i,p=>lp mask n (SetTable.leap mask i p).1 (SetTable.leap mask i p).2
theorem Cn (mask a:Nat):∀b i p,lp mask (b+a) i p=lp mask a (lp mask b i p).1 (lp mask b i p).2:=by
 intro b
 induction b with
 |zero=>intro i p;rw[Nat.zero_add];rfl
 |succ b ih=>intro i p;rw[Nat.succ_add];exact ih _ _
theorem Gm (mask:Nat):∀n i p,(lp mask n i p).2=p/32^n:=by
 intro n
 induction n with
 |zero=>intro i p;show p=_;rw[Nat.pow_zero,Nat.div_one]
 |succ n ih =>
  intro i p;show(lp mask n _ _).2=_;rw[ih];show p/32/32^n=_;rw[Nat.div_div_eq_div_mul,Nat.pow_succ,Nat.mul_comm]
theorem E3 (mask:Nat):∀n i p,i<mask+1->(lp mask n i p).1<mask+1:=by
 intro n
 induction n with
 |zero=>intro i p h;exact h
 |succ n ih=>intro i p h;exact ih _ _ (Nat.mod_lt _ (Nat.succ_pos _))
theorem Ea (mask:Nat):∀n i,(lp mask n i 0).1=it (mask+1) n i:=by
 intro n
 induction n with
 |zero=>intro i;rfl
 |succ n ih=>intro i;exact ih _
variable {mask:Nat}
theorem Bz (hm:j5 mask){p y:Nat}(hi:i<mask+1)(hp:p<2^64)(hy:y<mask+1):∃n,n<mask+15/\(lp mask n i p).1=y:=by
 have e:(lp mask 13 i p).2=0:=by
  rw[Gm];exact Nat.div_eq_of_lt (Nat.lt_trans hp (by decide))
 obtain⟨n,hn,h⟩:=Fv hm.round (E3 mask 13 i p hi) hy;refine⟨13+n,by omega,?_⟩;rw[Cn,e,Ea,h]
theorem uI (h:Int):SetTable.bits h<2^64:=by
 unfold SetTable.bits;have h1:0<=h%(2^64:Int):=Int.emod_nonneg _ (by decide);have h2:h%(2^64:Int)<2^64:=Int.emod_lt_of_pos _ (by decide);omega
theorem zj (h:i<mask+1):SetTable.runEnd mask i<mask+1/\i<=SetTable.runEnd mask i/\SetTable.runEnd mask i<=i+9:=by
 unfold SetTable.runEnd
 split <;> omega
variable {owner:Array (Option Nat)}
theorem zW :∀(n f i p y:Nat),i<mask+1->n<f->(lp mask n i p).1=y->owner.getD y (some 0)=none →
 ∃j,SetTable.layClean.free mask owner f i p=some j/\owner.getD j (some 0)=none:=by
 intro n
 induction n with
 |zero =>
  intro f i p y hi hf hy ho;obtain⟨f,rfl⟩:∃g,f=g+1:=⟨f-1,by omega⟩
  cases(show i=y from hy)
  unfold SetTable.layClean.free
  cases e:(List.range (SetTable.runEnd mask i+1-i)).find? λk=>(owner.getD (i+k) (some 0)).isNone with
  |some k =>
   have:=List.find?_some e;exact⟨i+k,rfl,by simpa using this⟩
  |none =>
   have h0:=List.find?_eq_none.mp e 0 (List.mem_range.mpr (by have:=zj hi;omega));rw[Nat.add_zero,ho] at h0;exact absurd rfl h0
 |succ n ih =>
  intro f i p y hi hf hy ho;obtain⟨f,rfl⟩:∃g,f=g+1:=⟨f-1,by omega⟩;unfold SetTable.layClean.free
  cases e:(List.range (SetTable.runEnd mask i+1-i)).find? λk=>(owner.getD (i+k) (some 0)).isNone with
  |some k =>
   have:=List.find?_some e;exact⟨i+k,rfl,by simpa using this⟩
  |none=>exact ih f _ _ y (Nat.mod_lt _ (Nat.succ_pos _)) (by omega) hy ho
theorem we {t:T}{h:Int}(u:Up t.place)(d:t.dummies = #[]){F:Nat}:∀(k f:Nat)(p:SetTable.Probe),p.more=k->p.dummy=none->k+1+F=f →
 (∀q:SetTable.Probe,q.j=q.i->q.more=SetTable.runEnd t.mask q.i-q.i->q.dummy=none->(q.i,q.perturb)=SetTable.leap t.mask p.i p.perturb->∃j,SetTable.probe.go t (λ_=>h+1) h F q=some (.empty j none)/\¬wm t.place j) →
 ∃j,SetTable.probe.go t (λ_=>h+1) h f p=some (.empty j none)/\¬wm t.place j:=by
 intro k
 induction k with
 |zero =>
  intro f p hk hd hf hn;obtain⟨f,rfl⟩:∃g,f=g+1:=⟨f-1,by omega⟩
  have hF:F=f:=by omega
  subst hF;unfold SetTable.probe.go
  by_cases g:wm t.place p.j
  ·obtain⟨i,e⟩:=nk u g;rw[e];dsimp only;rw[if_neg (by simp;omega)];refine hn _ ?_ ?_ ?_ ?_ <;> unfold SetTable.advance <;> rw[if_neg (by omega)]
   ·exact hd
  ·rw[iU u d g];exact⟨_,by rw[hd],g⟩
 |succ k ih =>
  intro f p hk hd hf hn;obtain⟨f,rfl⟩:∃g,f=g+1:=⟨f-1,by omega⟩;unfold SetTable.probe.go
  by_cases g:wm t.place p.j
  ·obtain⟨i,e⟩:=nk u g;rw[e];dsimp only;rw[if_neg (by simp;omega)]
   have ea:t.advance p={p with j:=p.j+1,more:=p.more-1}:=by unfold SetTable.advance;rw[if_pos (by omega)]
   rw[ea];exact ih f _ (by show p.more-1=k;omega) hd (by omega) hn
  ·rw[iU u d g];exact⟨_,by rw[hd],g⟩
theorem yL {t:T}{h:Int}(u:Up t.place)(d:t.dummies = #[]):∀(n f:Nat)(p:SetTable.Probe)(y:Nat),p.i<t.mask+1->p.j=p.i->p.more=SetTable.runEnd t.mask p.i-p.i->p.dummy=none →
 10*n<f->(lp t.mask n p.i p.perturb).1=y->¬wm t.place y->∃j,SetTable.probe.go t (λ_=>h+1) h f p=some (.empty j none)/\¬wm t.place j:=by
 intro n
 induction n with
 |zero =>
  intro f p y hi hj hm hd hf hy hn;obtain⟨f,rfl⟩:∃g,f=g+1:=⟨f-1,by omega⟩;have e:p.j=y:=hj.trans hy;unfold SetTable.probe.go;rw[e,iU u d hn];exact⟨_,by rw[hd],hn⟩
 |succ n ih =>
  intro f p y hi hj hm hd hf hy hn;have hr:=zj hi;refine we u d (F:=f-(p.more+1)) p.more f p rfl hd (by omega) λq q1 q2 q3 q4=>?_;have e1:q.i=(SetTable.leap t.mask p.i p.perturb).1:=congrArg Prod.fst q4;have e2:q.perturb=(SetTable.leap t.mask p.i p.perturb).2:=congrArg Prod.snd q4;refine ih _ q y (by rw[e1];exact Nat.mod_lt _ (Nat.succ_pos _)) q1 q2 q3 (by omega) ?_ hn;rw[e1,e2];exact hy
theorem CM (u:Up xs):∀m,(∀y,y<m+1->wm xs y)->∃k,k<xs.size/\xs.getD k 0=m/\m<=k:=by
 intro m
 induction m with
 |zero=>intro h;obtain⟨k,hk,e⟩:=h 0 (by omega);exact⟨k,hk,e,Nat.zero_le _⟩
 |succ m ih =>
  intro h;obtain⟨k,hk,e,hl⟩:=ih λy hy=>h y (by omega);obtain⟨q,hq,e2⟩:=h (m+1) (by omega);refine⟨q,hq,e2,?_⟩
  rcases Nat.lt_trichotomy k q with g|g|g
  ·omega
  ·subst g;omega
  ·have:=u _ _ g hk;omega
theorem FA (u:Up xs)(h:xs.size<m+1):∃y,y<m+1/\¬wm xs y:=by
 refine Classical.byContradiction λn=>?_;obtain⟨k,hk,_,hl⟩:=CM u m λy hy=>Classical.byContradiction λg=>n ⟨y,hy,g⟩;omega
theorem vE {t:T}(hm:j5 t.mask)(u:Up t.place)(d:t.dummies = #[])(hs:t.place.size<t.mask+1)(h:Int):∃j,t.freeSlot h=some (j,false)/\¬wm t.place j:=by
 obtain⟨y,hy,hn⟩:=FA u hs;have hi:SetTable.bits h%(t.mask+1)<t.mask+1:=Nat.mod_lt _ (Nat.succ_pos _);obtain⟨n,hl,e⟩:=Bz hm hi (uI h) hy;obtain⟨j,e2,hj⟩:=yL (h:=h) u d n (10*SetTable.turns t.mask) (t.probeStart h) y hi rfl rfl rfl (by unfold SetTable.turns;omega) e hn;refine⟨j,?_,hj⟩;unfold SetTable.freeSlot SetTable.probe;rw[e2];rfl
def Bl (owner:Array (Option Nat))(m:Nat):List Nat:=(List.range m).filterMap λj=>owner.getD j none
structure Laid (owner:Array (Option Nat))(m k:Nat):Prop where
 size:owner.size=m
 all:(Bl owner m).Perm (List.range k)
theorem vv (h:owner.getD j (some 0)=none):j<owner.size/\owner.getD j none=none:=by
 rcases Nat.lt_or_ge j owner.size with g|g
 ·refine⟨g,?_⟩;rw[<-h];simp[Array.getD,g]
 ·simp[Array.getD,Nat.not_lt.mpr g] at h
theorem pq {α β:Type}{f:α->Option β}:∀{l:List α},(∀x,x∈l->f x≠none)->(l.filterMap f).length=l.length
 |[],_=>rfl
 |x::l,h=>by
  obtain⟨y,e⟩:=Option.ne_none_iff_exists'.mp (h x List.mem_cons_self);rw[List.filterMap_cons_some e,List.length_cons,List.length_cons,pq λz hz=>h z (List.mem_cons_of_mem _ hz)]
theorem Laid.FA (L:Laid owner m k)(h:k<m):∃y,y<m/\owner.getD y (some 0)=none:=by
 refine Classical.byContradiction λn=>?_
 have e:(Bl owner m).length=m:=by
  unfold Bl;rw[pq,List.length_range];intro y hy e;have Lg:=List.mem_range.mp hy;refine n ⟨y,Lg,?_⟩;rw[<-e];simp[Array.getD,L.size,Lg]
 rw[L.all.length_eq,List.length_range] at e;omega
theorem kx {α β:Type}{f g:α->Option β}:∀{l:List α},(∀x,x∈l->f x=g x)->l.filterMap f=l.filterMap g
 |[],_=>rfl
 |x::l,h=>by
  rw[List.filterMap_cons,List.filterMap_cons,h x List.mem_cons_self,kx λz hz=>h z (List.mem_cons_of_mem _ hz)]
theorem A9 (hs:owner.size=m)(hj:j<m)(ho:owner.getD j none=none):(Bl (owner.setIfInBounds j (some k)) m).Perm (k::Bl owner m):=by
 obtain⟨a,b,e⟩:=List.append_of_mem (List.mem_range.mpr hj);have nd:(a++j::b).Nodup:=e▸List.nodup_range
 have na:∀x,x∈a->x≠j:=λx hx q=>by
  rw[List.nodup_append] at nd;exact nd.2.2 x hx j List.mem_cons_self q
 have nb:∀x,x∈b->x≠j:=λx hx q=>by
  rw[List.nodup_append] at nd;exact(List.nodup_cons.mp nd.2.1).1 (q▸hx)
 have ne:∀x,x≠j->(owner.setIfInBounds j (some k)).getD x none=owner.getD x none:=λx hx=>by
  rw[Array.getD_eq_getD_getElem?,Array.getD_eq_getD_getElem?,Array.getElem?_setIfInBounds_ne (Ne.symm hx)]
 have ej:(owner.setIfInBounds j (some k)).getD j none=some k:=by
  rw[Array.getD_eq_getD_getElem?,Array.getElem?_setIfInBounds_self_of_lt (by omega)];rfl
 unfold Bl;rw[e,List.filterMap_append,List.filterMap_append,List.filterMap_cons,List.filterMap_cons,ej,ho];dsimp only;rw[kx λx hx=>ne x (na x hx),kx λx hx=>ne x (nb x hx)];exact List.perm_middle
theorem uO (hm:j5 mask):∀(hs:List Int)(owner:Array (Option Nat))(k:Nat),Laid owner (mask+1) k->k+hs.length<mask+1 →
 ∃KI,hs.foldl (λacc h=>do
  let(owner,k) <-acc
  let j <-SetTable.layClean.free mask owner (SetTable.turns mask) (SetTable.bits h%(mask+1)) (SetTable.bits h)
  pure (owner.setIfInBounds j (some k),k+1)) (some (owner,k))=some (KI,k+hs.length)/\Laid KI (mask+1) (k+hs.length):=by
 intro hs
 induction hs with
 |nil=>intro owner k L _;exact⟨owner,rfl,L⟩
 |cons h hs ih =>
  intro owner k L hl;rw[List.length_cons] at hl;obtain⟨y,hy,ho⟩:=L.FA (by omega);have hi:SetTable.bits h%(mask+1)<mask+1:=Nat.mod_lt _ (Nat.succ_pos _);obtain⟨n,hn,e⟩:=Bz hm hi (uI h) hy;obtain⟨j,ej,hj⟩:=zW n (SetTable.turns mask) _ _ y hi (by unfold SetTable.turns;omega) e ho;obtain⟨j1,j2⟩:=vv hj
  have L':Laid (owner.setIfInBounds j (some k)) (mask+1) (k+1):=by
   refine⟨by rw[Array.size_setIfInBounds];exact L.size,(A9 L.size (by rw[<-L.size];exact j1) j2).trans ?_⟩;rw[List.range_succ];exact(List.Perm.cons k L.all).trans (List.perm_append_singleton k _).symm
  obtain⟨o',e',l'⟩:=ih _ _ L' (by omega);refine⟨o',?_,by rw[List.length_cons,show k+(hs.length+1)=k+1+hs.length from by omega];exact l'⟩;rw[List.foldl_cons,List.length_cons,show k+(hs.length+1)=k+1+hs.length from by omega];show List.foldl _ ((SetTable.layClean.free mask owner (SetTable.turns mask) (SetTable.bits h%(mask+1)) (SetTable.bits h)).bind _) hs=_;rw[ej];exact e'
theorem xD (m:Nat):Bl (Array.replicate m none) m=[]:=by
 unfold Bl;rw[List.filterMap_eq_nil_iff];intro j hj;have MI:=List.mem_range.mp hj;simp[Array.getD,MI]
theorem rE (hm:j5 mask)(hs:Array Int)(h:hs.size<mask+1):∃owner,SetTable.layClean mask hs=some owner/\Laid owner (mask+1) hs.size:=by
 obtain⟨o,e,l⟩:=uO hm hs.toList (Array.replicate (mask+1) none) 0 ⟨Array.size_replicate,by rw[xD];exact List.Perm.refl _⟩ (by rw[Array.length_toList];omega);rw[Array.length_toList,Nat.zero_add] at e l;refine⟨o,?_,l⟩;unfold SetTable.layClean;rw[<-Array.foldl_toList];rw[e];rfl
theorem Ft {l:List Nat}(h:l.Pairwise (· < ·)):Up l.toArray:=by
 intro i j J1 hj;rw[List.size_toArray] at hj;have:=List.pairwise_iff_getElem.mp h i j (by omega) hj J1;rw[show l.toArray.getD i 0=l[i] from by simp[Array.getD,show i<l.length from by omega],show l.toArray.getD j 0=l[j] from by simp[Array.getD,hj]];exact this
theorem qg {t:T}{hs:Array Int}{wanted:Nat}(em:SetTable.sizeAbove wanted-1=mask)(hm:j5 mask)(h:hs.size<mask+1):
 ∃t' order,t.relaid hs wanted=some (t',order)/\t'.mask=mask/\t'.dummies = #[]/\t'.led=t.led/\t'.plain=t.plain/\Up t'.place/\t'.place.size=hs.size/\order.toList.Perm (List.range hs.size):=by
 obtain⟨o,e,l⟩:=rE hm hs h;unfold SetTable.relaid SetTable.laid;rw[em,e];refine⟨_,_,rfl,rfl,rfl,rfl,rfl,?_,?_,?_⟩
 ·dsimp only;rw[List.map_filterMap];refine Ft (List.Pairwise.filterMap _ (λa a' haa b hb b' IS=>?_) (List.pairwise_lt_range (n:=mask+1)))
  cases ea:o.getD a none with
  |none=>rw[ea] at hb;cases hb
  |some x =>
   cases XH:o.getD a' none with
   |none=>rw[XH] at IS;cases IS
   |some x' =>
    rw[ea] at hb;rw[XH] at IS
    cases hb;cases IS
    exact haa
 ·have e1:=l.all.length_eq;rw[List.length_range] at e1;dsimp only;rw[List.size_toArray,List.length_map,<-e1];unfold Bl;rw[show(λj=>o.getD j none)=(λj=>((o.getD j none).map (j,·)).map Prod.snd) from funext λj=>by cases o.getD j none <;> rfl,<-List.map_filterMap,List.length_map]
 ·dsimp only;rw[List.map_filterMap]
  have e2:(λx=>Option.map (λx=>x.snd) (Option.map (λx_1=>(x,x_1)) (o.getD x none)))=λj=>o.getD j none:=funext λj=>by cases o.getD j none <;> rfl
  rw[e2];exact l.all
structure Ok (led:Bool)(n:Nat)(t:T):Prop where
 mask:j5 t.mask
 room:n*5<t.mask*3
 size:t.place.size=n
 up:Up t.place
 dum:t.dummies = #[]
 plain:t.plain=true
 led:t.led=led
variable {led:Bool}{n:Nat}
theorem Ok.fits {t:T}(o:Ok led n t):t.fits n=true:=by
 have h1:=o.room;have h2:=o.size;simp only[SetTable.fits,SetTable.fill,Bool.and_eq_true,beq_iff_eq,decide_eq_true_eq,o.dum];refine⟨h2,?_⟩;rw[h2,Array.size_empty];omega
theorem Ok.fresh (led:Bool):Ok led 0 (.fresh 0 0 led):=
 ⟨.inl rfl,by show 0*5<7*3;decide,rfl,λi j _ h=>absurd h (Nat.not_lt_zero _),rfl,rfl,rfl⟩
theorem zD {t:T}(o:Ok led n t){es:Array (Int×Value)}(he:es.size=n)(h:Int)(x:Value):∃es' t',layNew t es h x=(es',t',false,false)/\es'.size=n+1 /\
 j5 t'.mask/\t'.mask=t.mask/\t'.place.size=n+1/\Up t'.place/\t'.dummies = #[]/\t'.plain=true/\t'.led=led/\t'.fits (n+1)=true:=by
 have hr:=o.room;have hs:=o.size;obtain⟨j,ej,hj⟩:=vE o.mask o.up o.dum (by rw[hs];omega) h;have c:=eX o.up j
 have e1:(SetTable.insertAt t.place (SetTable.below t.place j) j).size=n+1:=by rw[eU _ _ _ c.1,hs]
 have e2:(SetTable.insertAt es (SetTable.below t.place j) (h,x)).size=n+1:=by rw[eU _ _ _ (by have:=c.1;omega),he]
 have e3:SetTable.has t.dummies j=false:=by rw[o.dum];simp[SetTable.has]
 have ep:t.put j=({t with place:=SetTable.insertAt t.place (SetTable.below t.place j) j},SetTable.below t.place j):=by
  unfold SetTable.put;dsimp only;rw[e3];rfl
 have ef:SetTable.fits {t with place:=SetTable.insertAt t.place (SetTable.below t.place j) j} (n+1)=true:=by
  simp only[SetTable.fits,SetTable.fill,Bool.and_eq_true,beq_iff_eq,decide_eq_true_eq,o.dum];refine⟨e1,?_⟩;rw[e1,Array.size_empty];omega
 refine⟨SetTable.insertAt es (SetTable.below t.place j) (h,x),{t with place:=SetTable.insertAt t.place (SetTable.below t.place j) j},?_,e2,o.mask,rfl,e1,vM o.up hj,o.dum,o.plain,o.led,ef⟩;unfold layNew;rw[ej];dsimp only;rw[ep];dsimp only;unfold SetTable.orStandIn;rw[e2,ef];rfl
theorem Ax:SetTable.sizeAbove (SetTable.grown 5)-1=31:=by decide
theorem zF:SetTable.sizeAbove (SetTable.grown 19)-1=127:=by decide
theorem u6 {t:T}(hn:n<76)(hm:j5 t.mask)(hr:n*5<t.mask*3)(hs:t.place.size=n+1)(d:t.dummies = #[])(hp:t.plain=true)(hl:t.led=led)
 {es:Array (Int×Value)}(he:es.size=n+1)(hf:t.tooFull=true):∃es' t',relayAll t es (SetTable.grown es.size)=(es',t',false)/\es'.size=n+1/\Ok led (n+1) t':=by
 have full:(n+1)*5 ≥ t.mask*3:=by
  have:=hf;simp only[SetTable.tooFull,SetTable.fill,hs,d,Array.size_empty,decide_eq_true_eq] at this;omega
 have two:(t.mask=7/\n+1=5)\/(t.mask=31/\n+1=19):=by
  rcases hm with e|e|e <;> omega
 obtain⟨mask,em,Sw,IC,OH⟩:∃mask,SetTable.sizeAbove (SetTable.grown es.size)-1=mask/\j5 mask/\n+1<mask+1/\(n+1)*5<mask*3:=by
  rw[he]
  rcases two with⟨_,e⟩|⟨_,e⟩
  ·exact⟨31,by rw[e];exact Ax,.inr (.inl rfl),by omega,by omega⟩
  ·exact⟨127,by rw[e];exact zF,.inr (.inr rfl),by omega,by omega⟩
 have e0:(es.map (·.1)).size=n+1:=by rw[Array.size_map];exact he
 obtain⟨t',order,er,m1,m2,m3,m4,m5,m6,m7⟩:=qg (t:=t) (hs:=es.map (·.1)) em Sw (by rw[e0];exact IC);rw[e0] at m6 m7
 have es':(order.filterMap (es[·]?)).size=n+1:=by
  have:=(m7.filterMap (λi=>es[i]?)).length_eq;rw[<-he,filterMap_getElem?_range] at this;rw[<-Array.length_toList,Array.toList_filterMap];refine this.trans ?_;rw[Array.length_toList,he]
 have O:Ok led (n+1) t':=⟨by rw[m1];exact Sw,by rw[m1];exact OH,m6,m5,m2,m4.trans hp,m3.trans hl⟩;refine⟨order.filterMap (es[·]?),t',?_,es',O⟩;unfold relayAll;rw[er];dsimp only
 have c:coversAll order es.size=true:=by unfold coversAll;rw[he];exact List.isPerm_iff.mpr m7
 rw[es',c,O.fits];rfl
open PyProof.Rows
def num:Value->Int
 | .int n _=>n
 |_=>0
abbrev Ent:=Int×Value
def F8 (e:Ent):Prop:=∃n t,e=(hashInt n,.int n t)
structure Gz (es:Array Ent)(ns:List Int):Prop where
 Gk:∀e,e∈es.toList->F8 e
 perm:(es.toList.map λe=>num e.2).Perm ns
abbrev jM (es:Array Ent)(ep:Nat)(t:T):Obj:={cls:=.type "set",dict:=none,data:=.set es ep t,slots:=#[]}
def jP (led:Bool)(h:Heap)(a:Addr)(ns:List Int):Prop:=∃es ep t,h.get? a=some (jM es ep t)/\Gz es ns/\es.size=ns.length/\Ok led ns.length t
theorem qd:∀{vs:oH},(∀v,v∈vs->∃n t,v=.int n t)->IntsAre vs (vs.map num)
 |[],_=>.nil
 |v::vs,h=>by
  obtain⟨n,t,rfl⟩:=h v List.mem_cons_self;exact .cons n t (qd λu hu=>h u (List.mem_cons_of_mem _ hu))
variable {es:Array Ent}{ns:List Int}{h:Heap}{a:Addr}{ep:Nat}
section
variable {prog:yn}{w:World}{A:Around}{E:yj}{s:Dx}
theorem Gz.elems (c:Gz es ns):ElemsOf (intKind prog w) es.toList:=by
 intro e he;obtain⟨n,t,rfl⟩:=c.Gk e he;exact⟨⟨n,intKind_is _ _ _ _,rfl⟩,rfl⟩
theorem Gz.has (c:Gz es ns)(k:Int):(∃e,e∈es.toList/\(intKind prog w).is k e.2=true)↔k∈ns:=by
 rw[<-c.perm.mem_iff,List.mem_map];constructor
 ·rintro⟨e,he,hk⟩;obtain⟨n,t,rfl⟩:=c.Gk e he;refine⟨_,he,?_⟩;exact(intKind prog w).inj (.int n t) n k (intKind_is _ _ _ _) hk
 ·rintro⟨e,he,hk⟩;obtain⟨n,t,rfl⟩:=c.Gk e he
  cases(show n=k from hk)
  exact⟨_,he,intKind_is _ _ _ _⟩
theorem Gz.push {es':Array Ent}(c:Gz es ns){k:Int}{tk:Tok}(p:es'.toList.Perm (es.toList++[(hashInt k,.int k tk)])):Gz es' (ns++[k]):=by
 refine⟨λe he=>?_,?_⟩
 ·rcases List.mem_append.mp (p.mem_iff.mp he) with h|h
  ·exact c.Gk e h
  ·rw[List.mem_singleton] at h;exact⟨k,tk,h⟩
 ·refine(p.map _).trans ?_;rw[List.map_append];exact c.perm.append (List.Perm.refl _)
theorem Gz.abN {es':Array Ent}(c:Gz es ns)(p:es'.toList.Perm es.toList):Gz es' ns :=
 ⟨λe he=>c.Gk e (p.mem_iff.mp he),(p.map _).trans c.perm⟩
theorem qr {k:Int}(h:k∈ns):step_dedup ns k=ns:=by
 unfold step_dedup;rw[if_pos (List.any_eq_true.mpr ⟨k,h,by simp⟩)]
theorem jd {k:Int}(h:k∉ns):step_dedup ns k=ns++[k]:=by
 unfold step_dedup;rw[if_neg λg=>?_];obtain⟨x,hx,e⟩:=List.any_eq_true.mp g;exact h ((by simpa using e:x=k)▸hx)
theorem tX {es':Array Ent}{t t':T}(ho:h.get? a=some (jM es ep t)):(h.update a (Obj.putSet es' t')).get? a=some (jM es' (ep+1) t'):=
 Heap.get?_update_self (Obj.putSet es' t') ho rfl
theorem Fy {k:Int}{tk:Tok}{Q:Bool->Shared->Prop}(S:jP led s.heap a ns)(hn:ns.length<76)
 (hQ:∀b h',Heap.SameBut a s.heap h'->jP led h' a (step_dedup ns k)->Q b {s with heap:=h'}):wpAny (model prog w) A (setAddHashed a (.int k tk) (hashInt k)) Q E s:=by
 obtain⟨es,ep,t,ho,c,hz,O⟩:=S
 have hf:t.fits es.size=true:=by rw[hz];exact O.fits
 have XI:ElemsOf (intKind prog w) es.toList:=c.elems
 have hb:es.size<scanBound:=by show _<4096;omega
 unfold setAddHashed setAddHashedIn;refine wpAny_holding (wpAny_bind (wpAny_setState_of ho rfl hf ?_));dsimp only;rw[byScan_of (knd:=intKind prog w) rfl hb XI,if_pos rfl];unfold setAddByScan;refine wpAny_bind (wpAny_bind (wpAny_rule (wpAny_bind (wpAny_setScan_of (knd:=intKind prog w) (intKind_is _ _ k tk) ho rfl hf XI ?_))))
 cases hr:List.findIdx? (λe=>(intKind prog w).is k e.2) es.toList with
 |some j =>
  obtain⟨hj,hpj,_⟩:=List.findIdx?_eq_some_iff_getElem.mp hr;have hk:k∈ns:=(c.has (prog:=prog) (w:=w) k).mp ⟨_,List.getElem_mem hj,hpj⟩;refine wpAny_pure (wpAny_pure ?_);have:=hQ false s.heap (Heap.SameBut.refl a s.heap) (by rw[qr hk];exact⟨es,ep,t,ho,c,hz,O⟩)
  cases s;exact this
 |none =>
  have hk:k∉ns:=λh=>by
   obtain⟨e,he,hp⟩:=(c.has (prog:=prog) (w:=w) k).mpr h;have:=List.findIdx?_eq_none_iff.mp hr e he;rw[hp] at this;cases this
  obtain⟨NH,t1,eL,z1,m1,m2,p1,u1,d1,Ur,l1,f1⟩:=zD O hz (hashInt k) (.int k tk);have hp:=layNew_perm t es (hashInt k) (.int k tk);rw[eL,Array.toList_push] at hp;have c1:Gz NH (ns++[k]):=c.push hp;dsimp only;rw[eL];dsimp only;refine wpAny_bind (wpAny_pure ?_);rw[Ur,if_pos rfl,hashByValue_scannable 8 (x:=.int k tk) rfl];refine wpAny_bind (wpAny_pure ?_);rw[if_pos (show plainKind (.int k tk)=true from rfl)]
  have len:(ns++[k]).length=ns.length+1:=by rw[List.length_append];rfl
  refine wpAny_bind (wpAny_storeSet_of ho rfl ?_ (fits_of_scanBound (by rw[z1];show _<4096;omega)));have MN:=tX (es':=NH) (t':=t1) ho;have OG:=Heap.SameBut.update s.heap a (Obj.putSet NH t1)
  by_cases KJ:t1.tooFull=true
  ·obtain⟨es2,t2,eR,z2,O2⟩:=u6 hn m1 (by rw[m2];exact O.room) p1 d1 Ur l1 z1 KJ;have NB:=relayAll_perm t1 NH (SetTable.grown NH.size);rw[eR] at NB;rw[if_pos (by rw[KJ];rfl)];rw[eR];dsimp only;refine wpAny_bind (wpAny_pure ?_);refine wpAny_bind (wpAny_storeSet_of MN rfl ?_ (fits_of_scanBound (by rw[z2];show _<4096;omega)));refine wpAny_pure (wpAny_pure (hQ true _ (OG.trans (Heap.SameBut.update _ a _)) ?_));rw[jd hk];exact⟨es2,_,t2,tX MN,c1.abN NB,by rw[len];exact z2,by rw[len];exact O2⟩
  ·have XJ:t1.tooFull=false:=by simpa using KJ
   rw[if_neg (by rw[XJ];decide)];refine wpAny_pure (wpAny_pure (hQ true _ OG ?_));rw[jd hk];refine⟨NH,_,t1,MN,c1,by rw[len];exact z1,?_⟩;rw[len];refine⟨m1,?_,p1,u1,d1,Ur,l1⟩;simp only[SetTable.tooFull,SetTable.fill,p1,d1,Array.size_empty,decide_eq_false_iff_not] at XJ;omega
end
abbrev own (w:World):Bool:=!w.params.followText "set-order"
abbrev GE:Array GenState->Array GenState->Prop:=λa b=>b=a
structure Src (prog:yn)(w:World)(c:String)(its:GV)(Is:Heap->Addr->Prop)(NJ:Addr->Obj):Prop where
 type:∀h l,Is h l->∃o,h.get? l=some o/\o.cls=.type c
 keep:∀h h' l,Is h l->(∀o,h.get? l=some o->h'.get? l=some o)->Is h' l
 iter:∀(A:Around)(s:Dx) l (Q:yj)(E:yj),Is s.heap l->Q (.ref s.heap.objs.size) {s with heap:=s.heap.push (NJ l)}->wpAny (model prog w) A (pyIter (.ref l)) Q E s
 walk:∀(A:Around) I l,A.handled=none->l≠I->∃G,WalksS prog w A I [I,l] [I] GE its.size (λi v=>its[i]?=some v) G/\∀s:Shared,Is s.heap l->s.heap.get? I=some (NJ l)->G 0 s
 abC:∀(h:Heap) l,(h.push (NJ l)).get? h.objs.size=some (NJ l)
 s1:isSubtype (.type c) (.type "set")=pure false
 s2:isSubtype (.type c) (.type "frozenset")=pure false
 nd:(Value.type c==Value.type "dict")=false
section
variable {prog:yn}{w:World}{A:Around}{R:Result->Shared->Prop}{I:Addr}{fp wr:List Addr}{n:Nat}{P:Nat->Value->Prop}{G:Nat->Shared->Prop}
theorem vo (W:WalksS prog w A.in1 I fp wr GE n P G)(a:Addr)(ha:a∉fp)(val:Nat->Int)(hv:∀i v,P i v->∃t,v=.int (val i) t)(hn:n<76):
 ∀(k i:Nat)(s:Dx),n-i=k->i<=n->G i s->jP led s.heap a (firstMet val i) →
  (∀z,Moved (a::wr) GE s z->jP led z.heap a (firstMet val n)->R (.ok (.ret .none)) z) →
  codeAny (model prog w) A (.builtin "set.update.loop" ⟨[.ref a,.ref I],[]⟩) R s:=by
 have aw:a∉wr:=λh=>ha (W.sub _ h);have up:∀b,b∈wr->b∈a::wr:=λb hb=>List.mem_cons_of_mem _ hb;have mv:∀{y z:Dx}{ns:List Int},Moved wr GE y z->jP led y.heap a ns->jP led z.heap a ns:=λm ⟨es,ep,t,o,r⟩=>⟨es,ep,t,m.heap a _ aw o,r⟩;intro k
 induction k with
 |zero =>
  intro i s hk hi g S hR
  cases(show i=n by omega)
  refine codeAny_builtin PyProof.Rows.F.entry_set_update_loop ?_;rw[Around.under_plainId PyProof.Rows.F.plain_set_update_loop _];refine wpAny_bind (m:=pyNext (.ref I)) ?_;exact W.done s _ _ g λz m=>wpAny_pure (hR z (m.mono up) (mv m S))
 |succ k ih =>
  intro i s hk hi g S hR;refine codeAny_builtin PyProof.Rows.F.entry_set_update_loop ?_;rw[Around.under_plainId PyProof.Rows.F.plain_set_update_loop _];refine wpAny_bind (m:=pyNext (.ref I)) ?_;refine W.item i s _ _ (by omega) g λv z hp g1 m=>?_;obtain⟨t,rfl⟩:=hv i v hp;refine wpAny_bind (m:=holding [Value.int (val i) t] (setAdd a (.int (val i) t))) (wpAny_holding ?_);unfold setAdd;refine wpAny_holding (wpAny_bind ((intKind prog w).pyHash (k:=val i) (intKind_is _ _ _ _) ?_));refine Fy (s:={z with toks:=z.toks+1}) (show jP led z.heap a _ from mv m S) (by have:=firstMet_length_le val i;omega) λb h' sb S1=>?_;rw[<-firstMet_succ] at S1;refine wpAny_pure ⟨plainId_quiet PyProof.Rows.F.plain_set_update_loop _,ih (i+1) _ (by omega) (by omega) (W.frame _ z _ _ g1 (Nat.le_succ _) λb hb o e=>?_) S1 λy m1 S2=>?_⟩
  ·rw[sb.2 b λh:b=a=>ha (h▸hb)];exact e
  ·refine hR y (Moved.trans W.gtrans ((m.mono up).then_heap (Nat.le_succ _) λb o hb e=>?_) m1) S2;rw[sb.2 b λh:b=a=>hb (by rw[h];exact List.mem_cons_self)];exact e
end
section
variable {prog:yn}{w:World}{A:Around}{E:yj}{s:Dx}
abbrev oh (w:World):Obj:=jM #[] 0 (.fresh 0 0 (own w))
theorem Ei (v:Value){Q:yj}(h:Q (.ref s.heap.objs.size) {s with heap:=s.heap.push (oh w)}):
 codeAny (model prog w) A (.call (.builtin "set.__new__") ⟨[.type "set",v],[]⟩) (wants Q E) s:=by
 refine codeAny_of_tree (show wpAny _ A.in1 (checkBuiltinCall "set.__new__" ⟨[.type "set",v],[]⟩>>=λ_=>again (.builtin "set.__new__" ⟨[.type "set",v],[]⟩)) _ _ s from ?_);refine wpAny_bind (wpAny_of_eq (F.newCall_set_1 v) (wpAny_pure ⟨plainId_quiet F.plain_set_new _,codeAny_builtin F.entry_set_new ?_⟩));rw[Around.under_plainId F.plain_set_new _];unfold Builtin.«set.__new__» Builtin.Frozenset.newClass;have su:=sub_set_self
 cases s
 dsimp only
 wp_walk
 refine wpAny_askSetting (wpAny_pure ?_);dsimp only[newObj];exact wpAny_bind (wpAny_alloc (wpAny_pure (wpAny_pure h)))
set_option maxHeartbeats 3200000 in
theorem pS {c:String}{its:GV}{Is:Heap->Addr->Prop}{NJ:Addr->Obj}(X:Src prog w c its Is NJ){l:Addr}{Q:yj}
 (hh:A.handled=none)(hl:Is s.heap l)(hi:IntsAre its.toList ns)(hb:its.size<76)
 (h:∀(h':Heap)(tk:Nat),jP (own w) h' s.heap.objs.size (firstMet (λi=>ns.getD i 0) its.size)->(∀b o,b<s.heap.objs.size->s.heap.get? b=some o->h'.get? b=some o) →
  s.toks<=tk->Q (.ref s.heap.objs.size) {s with heap:=h',toks:=tk}):
 wpAny (model prog w) A (call (.type "set") [.ref l]) Q E s:=by
 obtain⟨_,_,mro⟩:=F.called_set.mro;have made:=F.called_set.made;have su:=F.called_set.sub;refine wpAny_call (codeAny_of_tree (show wpAny _ _ (callAny (.type "set") _) _ _ _ from wpAny_pure ⟨Code.quiet_builtin _ (by decide +kernel),codeAny_builtin F.entry_type_call ?_⟩));rw[Around.under_plain (weight_type_call_type "set" [.ref l] []) rfl];have k1:=F.called_set.notType;have k2:=F.called_set.canCreate;have k3:=F.typeCall_set_1 (.ref l)
 repeat (any_goals (first|assumption|wp_step))
 refine codeAny_mono (Ei (.ref l) (E:=E) (Q:=λv z=>v=.ref s.heap.objs.size/\z={s with heap:=s.heap.push (oh w)}) ⟨rfl,rfl⟩) λr z hr=>?_
 cases r with
 |error e=>exact hr
 |ok fl =>
  cases fl with
  |ret obj =>
   obtain⟨rfl,rfl⟩:=hr;have oS:(s.heap.push (oh w)).get? s.heap.objs.size=some (oh w):=Heap.get?_push_size _ rfl;have tS:Shared.TypeIs {s with heap:=s.heap.push (oh w)} (.ref s.heap.objs.size) "set":=⟨_,oS,rfl⟩;have k4:=F.called_set.init.lookup;have k5:=F.called_set.init.bind (.ref s.heap.objs.size)
   repeat (any_goals (first|assumption|wp_step))
   refine codeAny_mono (codeAny_call_builtin (R:=wants (λv z=>v=.none/\∃h' tk,z={s with heap:=h',toks:=tk}/\jP (own w) h' s.heap.objs.size (firstMet (λi=>ns.getD i 0) its.size) /\
    (∀b o,b<s.heap.objs.size->s.heap.get? b=some o->h'.get? b=some o)/\s.toks<=tk) E) F.called_set.init.plain F.entry_set_init (check_set_init_1 tS ?_)) λr z hr=>?_
   ·have lS:Is (s.heap.push (oh w)) l:=X.keep _ _ _ hl λo e=>Heap.get?_push_of_some _ e;obtain⟨⟨oc,od,oda,IQ⟩,OA,XM⟩:=X.type _ _ lS;dsimp only at XM;subst XM
    have IC:l<s.heap.objs.size:=by
     obtain⟨o,e,_⟩:=X.type _ _ hl;exact Heap.lt_size e
    have tl:Shared.TypeIs {s with heap:=s.heap.push (oh w)} (.ref l) c:=⟨_,OA,rfl⟩;have k6:=X.s1;have k7:=X.s2;have k8:=X.nd;unfold Builtin.«set.__init__» noKeywords Builtin.Frozenset.updateFrom;generalize ePI:pyIter=PI
    wp_walk
    subst ePI;refine X.iter _ _ _ _ _ lS ?_;refine wpAny_bind (wpAny_runValue ?_)
    have h3:A.in1.in1.in1.handled=none:=by simp[hh]
    have nI:l≠(s.heap.push (oh w)).objs.size:=by rw[Heap.size_push];exact Nat.ne_of_lt (Nat.lt_succ_of_lt IC)
    have nf:s.heap.objs.size ∉ [(s.heap.push (oh w)).objs.size,l]:=by
     rw[Heap.size_push];simp only[List.mem_cons,List.not_mem_nil,or_false,not_or];exact⟨Nat.ne_of_lt (Nat.lt_succ_self _),Nat.ne_of_gt IC⟩
    obtain⟨G,W,g0⟩:=X.walk A.in1.in1.in1 _ l h3 nI
    refine vo W s.heap.objs.size nf (λi=>ns.getD i 0) (λi v e=>IntsAre.int_at hi i v (by rw[Array.getElem?_toList];exact e)) hb (its.size-0) 0 _ rfl (Nat.zero_le _)
     (g0 _ (X.keep _ _ _ lS λo e=>Heap.get?_push_of_some _ e) (X.abC _ _)) ⟨#[],0,_,Heap.get?_push_of_some _ oS,⟨λe he=>by simp at he,List.Perm.refl _⟩,rfl,Ok.fresh _⟩ ?_
    intro z m S
    have MO:∀b o,b<s.heap.objs.size->s.heap.get? b=some o->z.heap.get? b=some o:=λb o hb e=>by
     refine m.heap b o ?_ (Heap.get?_push_of_some _ (Heap.get?_push_of_some _ e));rw[Heap.size_push];simp only[List.mem_cons,List.not_mem_nil,or_false,not_or];exact⟨Nat.ne_of_lt hb,Nat.ne_of_lt (Nat.lt_succ_of_lt hb)⟩
    have ez:z={s with heap:=z.heap,toks:=z.toks}:=by
     have e1:z.gens=s.gens:=m.gens;have e2:z.drawn=s.drawn:=m.drawn;have e3:z.os=s.os:=m.os
     cases z;cases e1;cases e2;cases e3;rfl
    refine wpAny_pure (show wpAny _ _ (ret Value.none) _ _ _ from wpAny_pure ⟨rfl,z.heap,z.toks,ez,S,MO,m.toks⟩)
   ·cases r with
    |error e=>exact hr
    |ok fl =>
     cases fl with
     |ret v =>
      obtain⟨rfl,h',tk,rfl,S,MO,N7⟩:=hr
      repeat (any_goals (first|assumption|wp_step))
      exact h h' tk S MO N7
     |_=>exact hr.elim
  |_=>exact hr.elim
end
theorem wW (prog:yn)(w:World)(its:GV):Src prog w "list" its (λh l=>h.IsList l its) (λl=>{cls:=.type "list_iterator",data:=.fields #[.ref l,.int 0 0]}) where
 type:=λh l ⟨o,e,c,_⟩=>⟨o,e,c⟩
 keep:=λh h' l ⟨o,e,r⟩ k=>⟨o,k o e,r⟩
 iter:=λA s l Q E hl h=>wpAny_pyIter_list hl h
 walk:=λA I l hh IX=>⟨_,(Walks.list hh I l IX its).toS,λs hl e=>⟨⟨_,e,rfl,rfl⟩,hl⟩⟩
 abC:=λh l=>Heap.get?_push_size _ rfl
 s1:=F.sub_list_set
 s2:=F.sub_list_frozenset
 nd:=by decide
theorem Bc (prog:yn)(w:World)(its:GV):Src prog w "tuple" its (λh l=>h.IsTuple l its) (λl=>{cls:=.type "tuple_iterator",data:=.fields #[.ref l,.int 0 0]}) where
 type:=λh l ⟨o,e,c,_⟩=>⟨o,e,c⟩
 keep:=λh h' l ⟨o,e,r⟩ k=>⟨o,k o e,r⟩
 iter:=λA s l Q E hl h=>wpAny_pyIter_tuple hl h
 walk:=λA I l hh IX=>⟨_,(Walks.tuple hh I l IX its).toS,λs hl e=>⟨⟨_,e,rfl,rfl⟩,hl⟩⟩
 abC:=λh l=>Heap.get?_push_size _ rfl
 s1:=by rw[isSubtype_type];kernel_rfl
 s2:=by rw[isSubtype_type];kernel_rfl
 nd:=by decide
theorem rQ {α:Type}{l:List α}(h:i<l.length):(l[i]::l.eraseIdx i).Perm l:=by
 rw[List.eraseIdx_eq_take_drop_succ];refine(List.perm_middle).symm.trans ?_;rw[<-List.drop_eq_getElem_cons h,List.take_append_drop]
theorem Au {α:Type}(f:Nat->Nat):∀(n k:Nat)(l:List α)(out:Array α),n=l.length->(pickOrder.go f n k l out).toList.Perm (out.toList++l):=by
 intro n
 induction n with
 |zero =>
  intro k l out h
  cases l with
  |nil=>unfold pickOrder.go;rw[List.append_nil]
  |cons x l=>cases h
 |succ n ih =>
  intro k l out h;unfold pickOrder.go;have hl:f k%l.length<l.length:=Nat.mod_lt _ (by omega);rw[List.getElem?_eq_getElem hl];dsimp only;refine(ih (k+1) _ _ (by rw[List.length_eraseIdx_of_lt hl];omega)).trans ?_;rw[Array.toList_push,List.append_assoc];exact List.Perm.append_left _ (rQ hl)
theorem vT {α:Type}(f:Nat->Nat)(xs:Array α):(pickOrder f xs).toList.Perm xs.toList:=by
 have:=Au f xs.size 0 xs.toList #[] (by rw[Array.length_toList]);exact this
def wk (w:World)(a:Addr)(ep:Nat)(es:Array Ent):Array Ent:=if w.params.followText "set-order" then pickOrder (w.params.setOrder a ep) es else es
theorem j4 (w:World)(a:Addr)(ep:Nat)(es:Array Ent):(wk w a ep es).toList.Perm es.toList:=by
 unfold wk
 split
 ·exact vT _ _
 ·exact List.Perm.refl _
def hU (w:World)(t:T)(i:Nat):Nat:=if w.params.followText "set-order" then 0 else if i=0 then 0 else t.place.getD (i-1) 0+1
abbrev wo (w:World)(t:T)(a:Addr)(n ep i:Nat):Obj:={cls:=.type "set_iterator",data:=.fields #[rawInt (hU w t i),rawInt i,.ref a,rawInt n,rawInt ep]}
theorem gN:Slot "set_iterator" "__next__" "set_iterator.__next__" :=
 .of (owner:="set_iterator") (n:="__next__") (by rw[typeLookup_type,builtinLookup_eq_fast];kernel_rfl) (by decide +kernel) (by decide +kernel) (by decide +kernel) (by first|exact .inl (by decide +kernel)|exact .inr (by decide +kernel)) (by rw[isSubtype_type];kernel_rfl)
theorem tN:entryFor table "set_iterator.__next__"=some Builtin.«set_iterator.__next__»:=entryFor_of_tree (by kernel_rfl)
theorem uy (a:Value):argsOk "set_iterator.__next__" ⟨[a],[]⟩:=by unfold argsOk;kernel_rfl
theorem ud:Slot "set_iterator" "__iter__" "set_iterator.__iter__" :=
 .of (owner:="set_iterator") (n:="__iter__") (by rw[typeLookup_type,builtinLookup_eq_fast];kernel_rfl) (by decide +kernel) (by decide +kernel) (by decide +kernel) (by first|exact .inl (by decide +kernel)|exact .inr (by decide +kernel)) (by rw[isSubtype_type];kernel_rfl)
theorem AZ:entryFor table "set_iterator.__iter__"=some Builtin.«dict_keyiterator.__iter__» :=
 entryFor_alias (id':="dict_keyiterator.__iter__") (by kernel_rfl) rfl (by decide +kernel) (by kernel_rfl)
theorem zR (a:Value):argsOk "set_iterator.__iter__" ⟨[a],[]⟩:=by unfold argsOk;kernel_rfl
theorem p7:entryFor table "set.__iter__"=some Builtin.«frozenset.__iter__» :=
 entryFor_alias (id':="frozenset.__iter__") (by kernel_rfl) rfl (by decide +kernel) (by kernel_rfl)
variable {I:Addr}
section
variable {prog:yn}{w:World}{A:Around}{E:yj}{s:Dx}
theorem lC {t:T}{Q:(Array Ent×Nat×T)->Shared->Prop}(ho:s.heap.get? a=some (jM es ep t))(O:Ok led n t)(hz:es.size=n)(h:Q (es,ep,t) s):
 wpAny (model prog w) A (setState a) Q E s:=wpAny_setState_of ho rfl (by rw[hz];exact O.fits) h
theorem rj {Q:Bool->Shared->Prop}(h:Q (w.params.followText "set-order") s):wpAny (model prog w) A setsByText Q E s:=by
 unfold setsByText;exact wpAny_bind (wpAny_askSetting (wpAny_pure h))
theorem uu {t:T}{Q:Option (Value×Nat)->Shared->Prop}(ho:s.heap.get? a=some (jM es ep t))(O:Ok (own w) n t)(hz:es.size=n)(hi:i<=n)
 (h:Q (((wk w a ep es)[i]?).map λe=>(e.2,hU w t (i+1))) s):wpAny (model prog w) A (setNext a (hU w t i) i ep) Q E s:=by
 unfold setNext;refine wpAny_bind (lC ho O hz ?_);dsimp only;refine wpAny_bind (rj ?_)
 by_cases ht:w.params.followText "set-order"=true
 ·rw[if_pos ht,if_neg (by simp)];unfold setWalk;refine wpAny_bind (wpAny_bind (lC ho O hz ?_));dsimp only;refine wpAny_bind (rj ?_);rw[if_pos ht];refine wpAny_bind (wpAny_askSetting (wpAny_pure (wpAny_pure ?_)));simp only[wk,hU,ht,if_true] at h |-;exact h
 ·rw[if_neg ht]
  have hd:(!t.plain&&decide (es.size>1))=false:=by rw[O.plain];rfl
  show wpAny _ _ (if(!t.plain&&decide (es.size>1))=true then _ else _) _ _ _;rw[hd,if_neg (by decide)]
  have Us:t.led=true:=by rw[O.led];simp[own,ht]
  refine wpAny_bind ?_;show wpAny _ _ (if(!t.led&&!es.isEmpty)=true then _ else _) _ _ _;rw[Us,if_neg (by simp)];refine wpAny_pure ?_
  have eb:SetTable.below t.place (hU w t i)=i:=by
   unfold hU;rw[if_neg ht]
   by_cases h0:i=0
   ·rw[if_pos h0,h0];exact qM O.up
   ·rw[if_neg h0,qP O.up (by rw[O.size];omega)];omega
  refine wpAny_pure ?_;rw[eb]
  have eo:wk w a ep es=es:=by unfold wk;rw[if_neg ht]
  rw[eo] at h
  rcases Nat.lt_or_ge i n with g|g
  ·have e1:es[i]?=some (es[i]'(by omega)):=by simp[show i<es.size from by omega]
   have e2:t.place[i]?=some (t.place.getD i 0):=qX (by rw[O.size];exact g);rw[e1] at h;rw[e1,e2]
   have e3:hU w t (i+1)=t.place.getD i 0+1:=by unfold hU;rw[if_neg ht,if_neg (by omega)];rfl
   rw[e3] at h;exact h
  ·have e1:es[i]?=none:=Array.getElem?_eq_none (by omega);rw[e1] at h |-;exact h
theorem A0 {t:T}{x:Ent}{Q:Option Value->Shared->Prop}(ho:s.heap.get? a=some (jM es ep t))(hI:s.heap.get? I=some (wo w t a n ep i))(O:Ok (own w) n t)(hz:es.size=n)
 (hi:i<n)(hx:(wk w a ep es)[i]?=some x)(hQ:∀h',h'.get? I=some (wo w t a n ep (i+1))->Heap.SameBut I s.heap h'->Q (some x.2) {s with heap:=h'}):
 wpAny (model prog w) A (pyNext (.ref I)) Q E s:=by
 have tI:s.TypeIs (.ref I) "set_iterator":=⟨_,hI,rfl⟩;unfold pyNext;refine wpAny_bind (wpAny_attempt (wpAny_callSpecial?_slot (name:=Str.ofString "__next__") tI gN (wpAny_call_entry gN tI tN ?_ (uy _))));unfold Builtin.«set_iterator.__next__»;refine wpAny_bind (m:=slotArgs "__next__" 0 _) (wpAny_pure ?_);refine wpAny_bind (wpAny_fieldsOf hI rfl ?_);dsimp only[rawInt];refine wpAny_bind (wpAny_setEntries_of ho rfl (by rw[hz];exact O.fits) ?_);rw[if_neg (by rw[hz];simp)];simp only[Int.toNat_natCast];refine wpAny_bind (uu ho O hz (Nat.le_of_lt hi) ?_);rw[hx];dsimp only[Option.map];refine wpAny_bind (wpAny_setField_rec hI (by simp) λh1 o1 b1=>?_);refine wpAny_bind (wpAny_setField_rec (s:={s with heap:=h1}) o1 (by simp) λh2 o2 b2=>?_);refine wpAny_pure ⟨_,rfl,wpAny_pure (hQ h2 ?_ (b1.trans b2))⟩;rw[o2];rfl
theorem DM {t:T}{Q:Option Value->Shared->Prop}(hh:A.handled=none)(ho:s.heap.get? a=some (jM es ep t))(hI:s.heap.get? I=some (wo w t a n ep n))(O:Ok (own w) n t)(hz:es.size=n)
 (hQ:∀h',Heap.ExtBut I s.heap h'->Q none {s with heap:=h'}):wpAny (model prog w) A (pyNext (.ref I)) Q E s:=by
 have tI:s.TypeIs (.ref I) "set_iterator":=⟨_,hI,rfl⟩;have hx:(wk w a ep es)[n]?=none:=Array.getElem?_eq_none (by rw[<-Array.length_toList,(j4 w a ep es).length_eq,Array.length_toList,hz];exact Nat.le_refl _);unfold pyNext;refine wpAny_bind (wpAny_attempt (wpAny_callSpecial?_slot (name:=Str.ofString "__next__") tI gN (wpAny_call_entry gN tI tN ?_ (uy _))));unfold Builtin.«set_iterator.__next__»;refine wpAny_bind (m:=slotArgs "__next__" 0 _) (wpAny_pure ?_);refine wpAny_bind (wpAny_fieldsOf hI rfl ?_);dsimp only[rawInt];refine wpAny_bind (wpAny_setEntries_of ho rfl (by rw[hz];exact O.fits) ?_);rw[if_neg (by rw[hz];simp)];simp only[Int.toNat_natCast];refine wpAny_bind (uu ho O hz (Nat.le_refl _) ?_);rw[hx];dsimp only[Option.map];refine wpAny_bind (wpAny_setField hI rfl (by simp) ?_);refine wpAny_bind (m:=newExc (.type "StopIteration") []) ?_;unfold newExc newTuple;refine wpAny_bind (wpAny_newObj_type ?_ (by size_fits));refine wpAny_bind (m:=firstArgMember _ _) (wpAny_of_eq (a:=Value.none) rfl ?_);refine wpAny_newObj_type ?_ (by size_fits);unfold raiseNew;refine wpAny_bind (wpAny_handled ?_);rw[show A.in1.handled=none from hh];refine wpAny_bind (wpAny_pure (wpAny_throw ?_));refine wpAny_bind (wpAny_isInstance (b:=true) (T:="StopIteration") ⟨_,Heap.get?_push_size _ rfl,rfl⟩ isSubtype_stop ?_);refine wpAny_pure (hQ _ ?_);exact((Heap.SameBut.update ..).extBut.push _).push _
theorem BR {es:Array Ent}{ep:Nat}{t:T}(hh:A.handled=none)(IX:a≠I)(O:Ok (own w) n t)(hz:es.size=n):
 WalksS prog w A I [I,a] [I] GE n (λi v=>((wk w a ep es)[i]?).map Prod.snd=some v) (λi s=>s.heap.get? a=some (jM es ep t)/\s.heap.get? I=some (wo w t a n ep i)) where
 sub:=λb hb=>by simp at hb;simp[hb]
 grefl:=λ_=>rfl
 gtrans:=λ_ _ _ h1 h2=>h2.trans h1
 frame:=λi s h' tk g _ k=>⟨k a (by simp) _ g.1,k I (by simp) _ g.2⟩
 item:=λi s Q E hi g hQ=>by
  have hl:i<(wk w a ep es).size:=by rw[<-Array.length_toList,(j4 w a ep es).length_eq,Array.length_toList,hz];exact hi
  have hx:(wk w a ep es)[i]?=some ((wk w a ep es)[i]):=by simp[hl]
  refine A0 g.1 g.2 O hz hi hx λh' o b=>hQ _ _ (by rw[hx];rfl) ⟨b.extBut a _ IX g.1,o⟩ ⟨λc o hc e=>b.extBut c o (λh=>hc (by simp[h])) e,rfl,rfl,rfl,Nat.le_refl _⟩
 done:=λs Q E g hQ=>DM hh g.1 g.2 O hz λh' k=>hQ _ ⟨λc o hc e=>k c o (λh=>hc (by simp[h])) e,rfl,rfl,rfl,Nat.le_refl _⟩
 self:=λi s Q E g hQ=>by
  have tI:s.TypeIs (.ref I) "set_iterator":=⟨_,g.2,rfl⟩;refine wpAny_pyIter_slot tI ud (wpAny_call_entry ud tI AZ ?_ (zR _));exact wpAny_pure ⟨_,rfl,"set_iterator",_,tI,gN.lookup,hQ⟩
theorem Dv {t:T}{Q:yj}(ho:s.heap.get? a=some (jM es ep t))(O:Ok (own w) n t)(hz:es.size=n)
 (h:Q (.ref s.heap.objs.size) {s with heap:=s.heap.push (wo w t a n ep 0)}):wpAny (model prog w) A (pyIter (.ref a)) Q E s:=by
 have ta:s.TypeIs (.ref a) "set":=⟨_,ho,rfl⟩
 have hf:t.fits es.size=true:=by rw[hz];exact O.fits
 refine wpAny_pyIter_slot ta F.slot_set_iter (wpAny_call_entry F.slot_set_iter ta p7 ?_ (F.args_set_iter_1 _));unfold Builtin.«frozenset.__iter__» Builtin.Frozenset.slot0;refine wpAny_bind (m:=slotArgs "__iter__" 0 _>>=_) (wpAny_bind (wpAny_pure (wpAny_pure ?_)));unfold Builtin.Frozenset.sizeOf;refine wpAny_bind (wpAny_bind (wpAny_setEntries_of ho rfl hf (wpAny_pure ?_)))
 have es0:hU w t 0=0:=by unfold hU;split <;> rfl
 unfold setDrawn;refine wpAny_bind (wpAny_bind (lC ho O hz ?_));dsimp only;refine wpAny_bind (rj (wpAny_pure ?_))
 have hd:(!w.params.followText "set-order"&&(!t.plain&&decide (es.size>1)))=false:=by rw[O.plain];simp
 refine(show wpAny _ _ (if(!w.params.followText "set-order"&&(!t.plain&&decide (es.size>1)))=true then _ else _) _ _ _ from ?_);rw[hd,if_neg (by decide)];refine wpAny_bind (wpAny_pure (wpAny_bind (wpAny_setEpoch_of ho rfl hf ?_)));refine wpAny_bind (wpAny_newObj_type (wpAny_pure ⟨_,rfl,"set_iterator",_,⟨_,Heap.get?_push_size _ rfl,rfl⟩,gN.lookup,?_⟩));rw[hz];unfold wo at h;rw[es0] at h;exact h
end
abbrev iy (xs:GV)(c:Nat):Obj:={cls:=.type "list",dict:=none,data:=.seq xs c,slots:=#[]}
section
variable {prog:yn}{w:World}{A:Around}{E:yj}{s:Dx}
theorem yB:typeLookup (.type "set") "__len__"=pure (some (.builtin "set.__len__")):=F.slot_set_len.lookup
theorem pz {α:Type}{c:Bool}{x y:Sem α}{Q:α->Shared->Prop}(h:c=true)(g:wpAny (model prog w) A x Q E s):wpAny (model prog w) A (if c=true then x else y) Q E s:=by
 rw[if_pos h];exact g
theorem C7 {Q:Bool->Shared->Prop}(ta:s.TypeIs (.ref a) "set")(h:Q false s):wpAny (model prog w) A (Builtin.List.listLengthHint (.ref a)) Q E s:=by
 unfold Builtin.List.listLengthHint;refine wpAny_bind (wpAny_specialOf ta yB ?_);dsimp only;rw[show splitId "set.__len__"=some ("set","__len__") from by decide +kernel];dsimp only;refine wpAny_bind (wpAny_isInstance ta sub_set_self ?_);rw[if_neg (by decide)];exact pz (by decide +kernel) (wpAny_bind (wpAny_typeOf ta (wpAny_pure h)))
theorem Ap {P:Array Ent}(c:Gz es ns)(p:P.toList.Perm es.toList){acc:GV}(hz:es.size=n)(h:ItemsOf (λi v=>(P[i]?).map Prod.snd=some v) acc n):
 ∃ms,IntsAre acc.toList ms/\ms.Perm ns:=by
 have hP:P.toList.length=n:=by rw[p.length_eq,Array.length_toList,hz]
 have e:acc.toList=P.toList.map Prod.snd:=by
  refine List.ext_getElem? λi=>?_;rw[List.getElem?_map,Array.getElem?_toList,Array.getElem?_toList]
  rcases Nat.lt_or_ge i n with g|g
  ·have ha:acc[i]?=some (acc[i]'(by rw[h.1];exact g)):=by simp[h.1,g]
   rw[ha,h.2 i _ ha]
  ·rw[Array.getElem?_eq_none (by rw[h.1];exact g),Array.getElem?_eq_none (by rw[<-Array.length_toList,hP];exact g)];rfl
 have c':Gz P ns:=c.abN p;refine⟨_,qd (vs:=acc.toList) λv hv=>?_,?_⟩
 ·rw[e] at hv;obtain⟨x,hx,rfl⟩:=List.mem_map.mp hv;obtain⟨k,t,rfl⟩:=c'.Gk x hx;exact⟨k,t,rfl⟩
 ·rw[e,List.map_map];exact c'.perm
set_option maxHeartbeats 3000000 in
theorem vc {Q:List Value->Shared->Prop}(hh:A.handled=none)(S:jP (own w) s.heap a ns)(hn:ns.length<4000)
 (hQ:∀(h':Heap)(tk:Nat)(vs:oH)(ms:List Int),IntsAre vs ms->ms.Perm ns->(∀b o,s.heap.get? b=some o->h'.get? b=some o)->s.toks<=tk->Q vs {s with heap:=h',toks:=tk}):
 wpAny (model prog w) A (collect (.ref a)) Q E s:=by
 obtain⟨es,ep,t,ho,c,hz,O⟩:=S;have IC:a<s.heap.objs.size:=Heap.lt_size ho;unfold collect;refine wpAny_bind (wpAny_runValue (codeAny_builtin PySem.F.entry_proto_collect ?_));rw[Around.under_plainId PySem.F.plain_proto_collect _];refine wpAny_bind (m:=newList []) (wpAny_newObj_type ?_);refine wpAny_pure ⟨plainId_quiet PySem.F.plain_list_iadd _,codeAny_builtin PySem.F.entry_list_iadd ?_⟩;rw[Around.under_plainId PySem.F.plain_list_iadd _];refine(show wpAny _ A.in1 (Builtin.List.listExtendWith (.ref s.heap.objs.size) (.ref a) (.ref s.heap.objs.size)) _ _ _ from ?_);unfold Builtin.List.listExtendWith;have MN:(s.heap.push (iy #[] 0)).get? a=some (jM es ep t):=Heap.get?_push_of_some _ ho;refine wpAny_bind (wpAny_typeOf (T:="set") ⟨_,MN,rfl⟩ ?_)
 rw[if_neg (by
  have:Builtin.List.listSameRef (.ref s.heap.objs.size) (.ref a)=false:=by
   simp only[Builtin.List.listSameRef,beq_eq_false_iff_ne];exact Nat.ne_of_gt IC
  rw[this];decide)]
 refine wpAny_bind (Dv (s:={s with heap:=s.heap.push (iy #[] 0)}) MN O hz ?_);have Kn:((s.heap.push (iy #[] 0)).push (wo w t a ns.length ep 0)).get? a=some (jM es ep t):=Heap.get?_push_of_some _ MN;refine wpAny_bind (wpAny_holding (C7 ⟨_,Kn,rfl⟩ ?_));have hI0:((s.heap.push (iy #[] 0)).push (wo w t a ns.length ep 0)).get? (s.heap.push (iy #[] 0)).objs.size=some (wo w t a ns.length ep 0):=Heap.get?_push_size _ rfl;have XN:((s.heap.push (iy #[] 0)).push (wo w t a ns.length ep 0)).get? s.heap.objs.size=some (iy #[] 0):=Heap.get?_push_of_some _ (Heap.get?_push_size _ rfl);have sJ:(s.heap.push (iy #[] 0)).objs.size=s.heap.objs.size+1:=Heap.size_push _ _;refine pz (by decide +kernel) (wpAny_bind (wpAny_rule (wpAny_bind ?_)));refine(show wpAny _ A.in1 (updateSeq s.heap.objs.size (·.push .none)>>=λ_=>updateSeq s.heap.objs.size (·.pop)) _ _ _ from wpAny_bind (wpAny_updateSeq XN rfl ?_));have Lf:=Heap.get?_update_self (Obj.mapSeq (·.push Value.none)) XN rfl;refine wpAny_updateSeq Lf rfl ?_;have OC:=Heap.get?_update_self (Obj.mapSeq (·.pop)) Lf rfl
 have up:∀b o,b≠s.heap.objs.size->((s.heap.push (iy #[] 0)).push (wo w t a ns.length ep 0)).get? b=some o →
  ((((s.heap.push (iy #[] 0)).push (wo w t a ns.length ep 0)).update s.heap.objs.size (Obj.mapSeq (·.push Value.none))).update s.heap.objs.size (Obj.mapSeq (·.pop))).get? b=some o :=
  λb o hb e=>(Heap.get?_update_other _ _ (Ne.symm hb)).trans ((Heap.get?_update_other _ _ (Ne.symm hb)).trans e)
 have nI:a≠(s.heap.push (iy #[] 0)).objs.size:=by rw[sJ];exact Nat.ne_of_lt (Nat.lt_succ_of_lt IC)
 have nL:(s.heap.push (iy #[] 0)).objs.size≠s.heap.objs.size:=by rw[sJ];exact Nat.succ_ne_self _
 have W:=BR (prog:=prog) (A:=A.in1) (ep:=ep) (es:=es) (by simp[hh]) nI O hz
 refine wpAny_pure ⟨plainId_quiet PySem.F.plain_extend_loop _,codeAny_extend_loopS W (by rw[sizeLine_eq];omega) s.heap.objs.size (by
  simp only[List.mem_cons,List.not_mem_nil,or_false,not_or];exact⟨nL.symm,Nat.ne_of_gt IC⟩) _ ns.length 0 _ _ _ rfl (Nat.zero_le _) ⟨up _ _ (Nat.ne_of_lt IC) Kn,up _ _ nL hI0⟩ OC (ItemsOf.nil _) λz acc c' m oz it=>?_⟩
 refine wpAny_bind (wpAny_load oz (wpAny_pure ?_));obtain⟨ms,i1,i2⟩:=Ap c (j4 w a ep es) hz it
 have ez:z={s with heap:=z.heap,toks:=z.toks}:=by
  have e1:z.gens=s.gens:=m.gens;have e2:z.drawn=s.drawn:=m.drawn;have e3:z.os=s.os:=m.os
  cases z;cases e1;cases e2;cases e3;rfl
 rw[ez];refine hQ z.heap z.toks acc.toList ms i1 i2 (λb o e=>?_) m.toks;have hb:=Heap.lt_size e;refine m.heap b o ?_ (up b o (Nat.ne_of_lt hb) (Heap.get?_push_of_some _ (Heap.get?_push_of_some _ e)));simp only[List.mem_cons,List.not_mem_nil,or_false,not_or];refine⟨Nat.ne_of_lt hb,?_⟩;rw[sJ];exact Nat.ne_of_lt (Nat.lt_succ_of_lt hb)
theorem vC {D:Addr}{vs:oH}{c:Nat}(out:GV)(e:h.get? D=some (seqObj "list" vs.toArray c)):∃c',(sortedHeap h D vs out).get? D=some (iy out c'):=by
 have hD:=Heap.lt_size e;have e1:=get?_update_seq e (λ_=>#[]);unfold sortedHeap;have e2:(((h.update D (Obj.mapSeq λ_=>#[])).push (seqObj "tuple" vs.toArray 0)).push (seqObj "list" #[] 0)).get? D=_:=Heap.get?_push_of_some _ (Heap.get?_push_of_some _ e1);exact⟨_,get?_update_seq e2 λ_=>out⟩
theorem qH {D b:Addr}{vs:oH}{out:GV}{o:Obj}(hb:b≠D)(e:h.get? b=some o):(sortedHeap h D vs out).get? b=some o:=by
 unfold sortedHeap;refine(Heap.get?_update_other _ _ (Ne.symm hb)).trans (Heap.get?_push_of_some _ (Heap.get?_push_of_some _ ((Heap.get?_update_other _ _ (Ne.symm hb)).trans e)))
theorem zi {Q:yj}(hh:A.handled=none)(S:jP (own w) s.heap a ns)(h64:ns.length<64)
 (h:∀(h':Heap)(tk:Nat)(D:Addr)(out:GV)(ms:List Int)(c:Nat),IntsAre out.toList ms->ms.Perm ns->ms.Pairwise (· <= ·)->h'.get? D=some (iy out c)->s.heap.get? D=none →
  (∀b o,s.heap.get? b=some o->h'.get? b=some o)->s.toks<=tk->Q (.ref D) {s with heap:=h',toks:=tk}):wpAny (model prog w) A (call (.builtin "sorted") [.ref a]) Q E s:=by
 refine Calls.call_function_entry kind_sorted plain_sorted entry_sorted (args_sorted1 _) ?_;unfold Builtin.«sorted»;refine wpAny_bind (m:=checkCount "sorted" 1 1 _) (wpAny_pure ?_);refine wpAny_bind (vc (by simpa using hh) S (by omega) λh1 tk vs ms i1 i2 k1 t1=>?_)
 have hv:vs.length<64:=by
  have:=i1.length;rw[this,i2.length_eq];exact h64
 refine wpAny_bind (m:=newList vs) (wpAny_newList ?_ (hsz:=by rw[sizeLine_eq];omega));have oD:(h1.push (seqObj "list" vs.toArray 0)).get? h1.objs.size=some (seqObj "list" vs.toArray 0):=Heap.get?_push_size _ rfl
 have fr:s.heap.get? h1.objs.size=none:=by
  cases e:s.heap.get? h1.objs.size with
  |none=>rfl
  |some o=>exact absurd (Heap.lt_size (k1 _ _ e)) (Nat.lt_irrefl _)
 refine wpAny_bind (wpAny_holding (wpAny_call_entry slot_list_sort ⟨_,oD,rfl⟩ entry_list_sort (list_sort_tree oD i1 hv λout LF a1 a2 a3=>⟨_,rfl,?_⟩) (args_list_sort _)));obtain⟨c,oc⟩:=vC out oD;refine wpAny_pure ⟨_,rfl,h _ tk _ out LF c a1 (a2.trans i2) a3 oc fr (λb o e=>?_) t1⟩;exact qH (λq=>by rw[q,fr] at e;cases e) (Heap.get?_push_of_some _ (k1 b o e))
end
end St
namespace L2
open PySem PySem.Spec PyProof.Rows PySem.W
def wa (ns:List Int):List Int:=firstMet (λi=>ns.getD i 0) ns.length
theorem mD (ns:List Int):wa ns=ns.foldl step_dedup []:=by
 have e:(List.range ns.length).map (λi=>ns.getD i 0)=ns:=by
  apply List.ext_getElem
  ·simp
  ·intro i h1 h2;simp[h2]
 unfold wa firstMet;rw[e]
theorem gU:∀(ns acc:List Int),acc.Nodup->(ns.foldl step_dedup acc).Nodup/\∀x,x∈ns.foldl step_dedup acc↔x∈acc\/x∈ns
 |[],acc,h=>⟨h,λx=>by simp⟩
 |n::ns,acc,h=>by
  rw[List.foldl_cons]
  by_cases q:n∈acc
  ·rw[St.qr q];obtain⟨a,b⟩:=gU ns acc h;refine⟨a,λx=>(b x).trans ⟨λz=>z.imp id (List.mem_cons_of_mem _),λz=>?_⟩⟩
   rcases z with z|z
   ·exact .inl z
   ·rcases List.mem_cons.mp z with rfl|z
    ·exact .inl q
    ·exact .inr z
  ·rw[St.jd q]
   have nd:(acc++[n]).Nodup:=by
    refine List.nodup_append.mpr ⟨h,by simp,λa ha b hb z=>?_⟩;rw[List.mem_singleton] at hb;exact q (hb▸z▸ha)
   obtain⟨a,b⟩:=gU ns (acc++[n]) nd;refine⟨a,λx=>(b x).trans ?_⟩;rw[List.mem_append,List.mem_singleton,List.mem_cons,or_assoc]
theorem rN (ns:List Int):(wa ns).Nodup:=by rw[mD];exact(gU ns [] List.nodup_nil).1
theorem xg (ns:List Int)(x:Int):x∈wa ns↔x∈ns:=by
 rw[mD,(gU ns [] List.nodup_nil).2];simp
theorem ub (ns:List Int):(wa ns).length<=ns.length:=firstMet_length_le _ _
theorem FF {ms:List Int}(h:ms.Pairwise (· <= ·))(d:ms.Nodup):ms.Pairwise (· < ·):=
 (List.Pairwise.and h d).imp λ⟨a,b⟩=>Int.lt_iff_le_and_ne.mpr ⟨a,b⟩
theorem sQ:∀{xs ys:List Int},xs.Pairwise (· < ·)->ys.Pairwise (· < ·)->(∀x,x∈xs↔x∈ys)->xs=ys
 |[],[],_,_,_=>rfl
 |[],y::ys,_,_,h=>absurd ((h y).mpr List.mem_cons_self) (by simp)
 |x::xs,[],_,_,h=>absurd ((h x).mp List.mem_cons_self) (by simp)
 |x::xs,y::ys,a,b,h=>by
  obtain⟨a1,a2⟩:=List.pairwise_cons.mp a;obtain⟨b1,b2⟩:=List.pairwise_cons.mp b
  have e:x=y:=by
   rcases List.mem_cons.mp ((h x).mp List.mem_cons_self) with e|e
   ·exact e
   ·rcases List.mem_cons.mp ((h y).mpr List.mem_cons_self) with e2|e2
    ·exact e2.symm
    ·have:=b1 _ e;have:=a1 _ e2;omega
  subst e;rw[sQ a2 b2 λz=>⟨λhz=>?_,λhz=>?_⟩]
  ·rcases List.mem_cons.mp ((h z).mp (List.mem_cons_of_mem _ hz)) with e|e
   ·have:=a1 _ hz;omega
   ·exact e
  ·rcases List.mem_cons.mp ((h z).mpr (List.mem_cons_of_mem _ hz)) with e|e
   ·have:=b1 _ hz;omega
   ·exact e
def xq (K:Frag)(ta:TE):TE:=λσ H Q=>dn ta An σ H λvs H1=>∃(l:Addr)(ns:List Int),vs=[.ref l]/\(bo K H1 l (ns.map V.int)\/br K H1 l (ns.map V.int))/\ns.length<64 /\
 ∀(D:Addr)(ms:List Int),H1 D=none->ms.Pairwise (· < ·)->(∀x,x∈ms↔x∈ns)->Q (.ref D) (upd H1 D (.lst (ms.map V.int)))
section
variable {X:Cx}
theorem rR {e:Expr}{ta:TE}{p p2 pos Jn:Pos}{K:Frag}(hK:X.K=K)(ha:PE X e ta)(hc:X.calm=true)(OI:Gl X "sorted")(OJ:X.mg "sorted"=none)(hgs:Gl X "set")(SK:X.mg "set"=none)(hs:eO e=false:=by rfl):
 PE X (.Call (.Name "sorted" p) [.Call (.Name "set" p2) [e] [] Jn] [] pos) (xq K ta):=by
 subst hK;intro pins s σ H Q I h;refine wpAny_Call_Name_kw (cN I OI OJ (by rfl) ?_ (by decide) (by decide));refine callWith_builtin1 ?_ (aO rfl) rfl;rw[aO rfl];show wpAny _ _ (spliced ((false,eval (.Call (.Name "set" p2) [e] [] Jn) X.env):: backTo pos (starEach [] X.env))) _ _ s;refine Calls.spliced_cons ?_;refine wpAny_Call_Name_kw (cN I hgs SK (by rfl) ?_ (by decide) (by decide));refine callWith_type1 (bK (ao ha af hs Jn pins s σ H _ I h) λus s1 z'=>?_) (aO hs) rfl;obtain⟨vs,H1,I1,r1,l,ns,hv,hq,hz,q⟩:=z';subst hv;obtain⟨u,rfl,ru⟩:=fY r1
 cases(show u=Value.ref l from ru)
 have hd:=I.ok.hd hc
 have fin:∀(h':Heap)(tk:Nat),St.jP (St.own X.w) h' s1.heap.objs.size (wa ns)->(∀b o,b<s1.heap.objs.size->s1.heap.get? b=some o->h'.get? b=some o) →
  wpAny (model X.prog X.w) X.A (call (.builtin "sorted") [.ref s1.heap.objs.size]) (EP X pins σ Q) X.xe {s1 with heap:=h',toks:=tk}:=by
  intro h' tk S old;have I2:Inv X pins σ H1 {s1 with heap:=h',toks:=tk}:=I1.kept (t':=tk) λb o e=>old b o (Heap.lt_size e) e;refine St.zi (s:={s1 with heap:=h',toks:=tk}) hd S (by have:=ub ns;omega) λh2 tk2 D out ms c i1 i2 i3 oD fr k2 _=>?_
  have hlen:(ms.map V.int).length<=sizeLine:=by
   rw[List.length_map,i2.length_eq,sizeLine_eq];have:=ub ns;omega
  exact⟨.ref D,_,I2.newObj (t':=tk2) (o:=.lst (ms.map V.int)) k2 fr ⟨hlen,out.toList,c,wH i1,by simpa using oD⟩,rfl,
   q D ms (I2.abk fr) (FF i3 (i2.symm.nodup (rN ns))) λx=>(i2.mem_iff).trans (xg ns x)⟩
 rcases hq with hq|hq
 ·obtain⟨its,rv,pl,hz2⟩:=I1.list hq;have e1:=rv.length;rw[List.length_map] at e1;refine St.pS (St.wW X.prog X.w its.toArray) hd pl.isList (by simpa using gD rv) (by rw[List.size_toArray];omega) λh' tk S old _=>?_
  have es:its.toArray.size=ns.length:=by rw[List.size_toArray];exact e1.symm
  rw[es] at S;exact Calls.spliced_nil (fin h' tk S old)
 ·obtain⟨its,rv,pl,hz2⟩:=I1.tuple hq;have e1:=rv.length;rw[List.length_map] at e1;refine St.pS (St.Bc X.prog X.w its.toArray) hd pl (by simpa using gD rv) (by rw[List.size_toArray];omega) λh' tk S old _=>?_
  have es:its.toArray.size=ns.length:=by rw[List.size_toArray];exact e1.symm
  rw[es] at S;exact Calls.spliced_nil (fin h' tk S old)
end
end L2
namespace K73
open PySem L2 PySem.W Nm Srt
def oA (x:Int):List Int->List Int
 |[]=>[x]
 |y::l=>if x<y then x::y::l else if x=y then y::l else y::oA x l
def ir:List Int->List Int
 |[]=>[]
 |x::l=>oA x (ir l)
theorem j8 {x z:Int}:∀{l:List Int},z∈oA x l↔z=x\/z∈l
 |[]=>by simp[oA]
 |y::l=>by
  unfold oA
  by_cases h:x<y
  ·rw[if_pos h];simp
  ·rw[if_neg h]
   by_cases g:x=y
   ·rw[if_pos g,g];simp
   ·rw[if_neg g,List.mem_cons,j8 (l:=l),List.mem_cons];constructor
    ·rintro(h|h|h)
     ·exact .inr (.inl h)
     ·exact .inl h
     ·exact .inr (.inr h)
    ·rintro(h|h|h)
     ·exact .inr (.inl h)
     ·exact .inl h
     ·exact .inr (.inr h)
theorem uF {x:Int}:∀{l:List Int},l.Pairwise (· < ·)->(oA x l).Pairwise (· < ·)
 |[],_=>by simp[oA]
 |y::l,h=>by
  obtain⟨h1,h2⟩:=List.pairwise_cons.mp h;unfold oA
  by_cases g:x<y
  ·rw[if_pos g];refine List.pairwise_cons.mpr ⟨λz hz=>?_,h⟩
   rcases List.mem_cons.mp hz with rfl|hz
   ·exact g
   ·have:=h1 z hz;omega
  ·rw[if_neg g]
   by_cases e:x=y
   ·rw[if_pos e];exact h
   ·rw[if_neg e];refine List.pairwise_cons.mpr ⟨λz hz=>?_,uF h2⟩
    rcases j8.mp hz with rfl|hz
    ·omega
    ·exact h1 z hz
theorem yw:∀l:List Int,(ir l).Pairwise (· < ·)
 |[]=>List.Pairwise.nil
 |x::l=>uF (yw l)
theorem uz {z:Int}:∀{l:List Int},z∈ir l↔z∈l
 |[]=>Iff.rfl
 |x::l=>by
  show z∈oA x (ir l)↔_;rw[j8,uz,List.mem_cons]
theorem DJ {l m:List Int}(h:m.Pairwise (· < ·))(e:∀z,z∈m↔z∈l):m=ir l:=sQ h (yw l) λz=>by rw[uz,e]
def dA (p:Int)(a b:Int×Int):Int×Int:=(cM p (gB a.1 a.2 b.1 b.2) (a.2*b.2),c8 p (gB a.1 a.2 b.1 b.2) (a.2*b.2))
def dI (p:Int)(a b:List Tm):List Tm:=a.flatMap λx=>b.map λy=>(ir (x.1++y.1),dA p x.2 y.2)
def qY (p:Int)(c:Int×Int)(a:List Tm):List Tm:=a.map λx=>(x.1,dA p x.2 c)
abbrev tg (p:Int)(ts:List Tm):List Tm:=gZ (aY p ts)
variable {a b:Int×Int}
section
variable {p:Int}{R:Type} [Lean.Grind.CommRing R]{v:Int×Int->R}
theorem gr (hp:0<=p)(ha:Num p a.1 a.2)(hb:Num p b.1 b.2):Num p (dA p a b).1 (dA p a b).2 :=
 Num.set hp (Int.mul_ne_zero (by have:=ha.pos;omega) (by have:=hb.pos;omega))
theorem gC (V:Val p R v)(ha:Num p a.1 a.2)(hb:Num p b.1 b.2):v (dA p a b)=v a*v b:=(V.set ha hb).2 rfl rfl
theorem ph (hp:0<=p){a b:List Tm}(ha:cp p a)(hb:cp p b):cp p (dI p a b):=λe he=>by
 obtain⟨x,hx,he⟩:=List.mem_flatMap.mp he;obtain⟨y,hy,rfl⟩:=List.mem_map.mp he;exact gr hp (ha x hx) (hb y hy)
theorem Bt (V:Val p R v){x:Tm}(hx:Num p x.2.1 x.2.2)(F:List Int->R):∀{b:List Tm},cp p b->S v (b.map λy=>(ir (x.1++y.1),dA p x.2 y.2)) F=v x.2*S v b (λj=>F (ir (x.1++j)))
 |[],_=>by show(0:R)=v x.2*0;grind
 |y::b,h=>by
  have ih:=Bt V hx F (b:=b) λe he=>h e (List.mem_cons_of_mem _ he);show v (dA p x.2 y.2)*F (ir (x.1++y.1))+S v (b.map _) F=v x.2*(v y.2*F (ir (x.1++y.1))+S v b (λj=>F (ir (x.1++j))));rw[ih,gC V hx (h y List.mem_cons_self)];grind
theorem CD (V:Val p R v){a b:List Tm}(ha:cp p a)(hb:cp p b)(F:List Int->R):S v (dI p a b) F=S v a (λi=>S v b (λj=>F (ir (i++j)))):=by
 induction a with
 |nil=>rfl
 |cons x a ih =>
  have ih:=ih λe he=>ha e (List.mem_cons_of_mem _ he)
  have e:dI p (x::a) b=(b.map λy=>(ir (x.1++y.1),dA p x.2 y.2))++dI p a b:=by simp[dI]
  rw[e,fE,Bt V (ha x List.mem_cons_self) F hb,ih];rfl
end
section
variable {p:Int}{a b c:List Tm}
theorem FP.v {p:Int}(hp:FP p):∃(R:Type)(i:Lean.Grind.CommRing R)(v:Int×Int->R),@Val p R i v:=DV (by
 rcases hp with h|h
 ·exact .inl h
 ·exact .inr (eY h).1)
theorem FP.tn {p:Int}(hp:FP p){a:List Tm}(ha:cp p a):cp p (tg p a):=by
 obtain⟨R,i,v,V⟩:=hp.v;exact DB V hp.nn ha
end
abbrev jK (ks:List Int):List Key:=ks.map Sum.inl
theorem jn (ks:List Int):(jK ks).map kV=ks.map V.int:=by unfold jK;rw[List.map_map];rfl
theorem oX {a b:List Int}(h:jK a=jK b):a=b:=by
 have e:(jK a).map kV=(jK b).map kV:=by rw[h]
 rw[jn,jn] at e
 have inj:∀{x y:List Int},x.map V.int=y.map V.int->x=y:=by
  intro x
  induction x with
  |nil=>intro y h;cases y with
   |nil=>rfl
   |cons c y=>simp at h
  |cons b x ih=>intro y h;cases y with
   |nil=>simp at h
   |cons c y =>
    rw[List.map_cons,List.map_cons] at h
    injection h with h1 h2
    injection h1 with h1
    rw[h1,ih h2]
 exact inj e
def DW (H:Hp)(y:V)(t:Tm):Prop:=∃a pr nu,y=.ref a/\H a=some (.tup [.ref pr,.ref nu])/\H pr=some (.tup (t.1.map V.int))/\H nu=some (bA t.2.1 t.2.2)
abbrev aX (H:Hp):List V->List Tm->Prop:=Paired (DW H)
abbrev DR (H:Hp):List (List Key×V)->List Tm->Prop:=Paired λkv e=>kv.1=jK e.1/\∃a,kv.2=.ref a/\H a=some (bA e.2.1 e.2.2)
def aH (H H':Hp):Prop:=∀b xs,H b=some (.tup xs)->H' b=some (.tup xs)
variable {H H':Hp}
theorem aH.of (s:aA H H'):aH H H':=λb xs e=>s b _ e
theorem aH.trans {H1 H2:Hp}(a:aH H H1)(b:aH H1 H2):aH H H2:=λc xs e=>b c xs (a c xs e)
theorem aH.upd {d:Addr}{o:HO}(h:∀xs,H d≠some (.tup xs)):aH H (upd H d o):=λb xs e=>by
 have:b≠d:=λz=>h xs (z▸e);rw[av this];exact e
theorem DW.keep {y:V}{t:Tm}(h:DW H y t)(k:aH H H'):DW H' y t:=let⟨a,pr,nu,e,h1,h2,h3⟩:=h;⟨a,pr,nu,e,k _ _ h1,k _ _ h2,k _ _ h3⟩
variable {ts:List Tm}
theorem aX.keep {ys:List V}(h:aX H ys ts)(k:aH H H'):aX H' ys ts:=Paired.aax h λ_ _ z=>z.keep k
variable {Ir:List (List Key×V)}{d:List Tm}
theorem DR.keep (h:DR H Ir d)(k:aH H H'):DR H' Ir d:=Paired.aax h λ_ _ z=>⟨z.1,let⟨a,e,h⟩:=z.2;⟨a,e,k _ _ h⟩⟩
theorem uh (k:List Int):∀{Ir:List (List Key×V)}{d:List Tm},DR H Ir d->d.any (λe=>decide (e.1=k))=false->jg Ir (jK k)=none
 |_,_,.nil,_=>rfl
 |_,_,.cons (a:=kv) (b:=e) h t,q=>by
  rw[List.any_cons,Bool.or_eq_false_iff] at q
  have ne:¬kv.1=jK k:=λz=>by
   have:e.1=k:=oX (h.1.symm.trans z);simp[this] at q
  rw[gk ne];exact uh k t q.2
theorem lh (k:List Int):∀{Ir:List (List Key×V)}{d:List Tm},DR H Ir d->d.any (λe=>decide (e.1=k))=true->∃e∈d,e.1=k/\∃a,jg Ir (jK k)=some (.ref a)/\H a=some (bA e.2.1 e.2.2)
 |_,_,.nil,q=>by simp at q
 |_,_,.cons (a:=kv) (b:=e) h t,q=>by
  by_cases z:e.1=k
  ·obtain⟨a,e1,ha⟩:=h.2;refine⟨e,List.mem_cons_self,z,a,?_,ha⟩;rw[iS (by rw[h.1,z]),e1]
  ·have ne:¬kv.1=jK k:=λw=>z (oX (h.1.symm.trans w));rw[List.any_cons,decide_eq_false z,Bool.false_or] at q;obtain⟨e',m,z',a,h1,h2⟩:=lh k t q;exact⟨e',List.mem_cons_of_mem _ m,z',a,by rw[gk ne];exact h1,h2⟩
theorem CI (k:List Int)(h:DR H Ir d):(Ir.any λkv=>decide (kv.1=jK k))=d.any λe=>decide (e.1=k):=by
 rw[lB]
 cases q:d.any λe=>decide (e.1=k) with
 |false=>rw[uh k h q];rfl
 |true =>
  obtain⟨_,_,_,a,e,_⟩:=lh k h q;rw[e];rfl
variable {p:Int}
theorem yY {t:Tm}{a:Addr}(h:DR H Ir d)(nd:(d.map (·.1)).Nodup)
 (Mw:d.any (λe=>decide (e.1=t.1))=false->H a=some (bA t.2.1 t.2.2))(Kd:∀e∈d,e.1=t.1->H a=some (bA (cZ p e.2 t.2).1 (cZ p e.2 t.2).2)):DR H (fK Ir (jK t.1) (.ref a)) (du p d t):=by
 unfold fK du;rw[CI t.1 h]
 by_cases q:d.any (λe=>decide (e.1=t.1))=true
 ·rw[if_pos q,if_pos q]
  have go:∀{Ir:List (List Key×V)}{d:List Tm},DR H Ir d->(∀e∈d,e.1=t.1->H a=some (bA (cZ p e.2 t.2).1 (cZ p e.2 t.2).2)) →
   DR H (Ir.map λkv=>if kv.1=jK t.1 then(kv.1,V.ref a) else kv) (d.map λe=>if e.1=t.1 then(e.1,cZ p e.2 t.2) else e):=by
   intro Ir d h
   induction h with
   |nil=>intro _;exact .nil
   |@cons kv e ks es h0 ht ih =>
    intro hy;rw[List.map_cons,List.map_cons];refine .cons ?_ (ih λe' m=>hy e' (List.mem_cons_of_mem _ m))
    by_cases z:e.1=t.1
    ·rw[if_pos z,if_pos (by rw[h0.1,z])];exact⟨h0.1,a,rfl,hy e List.mem_cons_self z⟩
    ·rw[if_neg z,if_neg (λw=>z (oX (h0.1.symm.trans w)))];exact h0
  exact go h Kd
 ·have q':d.any (λe=>decide (e.1=t.1))=false:=Bool.eq_false_iff.mpr q;rw[if_neg q,if_neg q];exact Paired.snoc h ⟨rfl,a,rfl,Mw q'⟩
abbrev xY:Stmt:=(aL 35)
structure BY (p:Int)(ts:List Tm):Prop where
 len:ts.length<4000
 num:∀t∈ts,Gn p 4000 t.2
 steps:∀i,i<=ts.length->mh p 4000 (aY p (ts.take i))
 few:(aY p ts).length<64
theorem BY.of {m:Nat}(hp:FP p)(h64:ts.length<64)(hG:∀t∈ts,Gn p m t.2)(hm:(m+1)*ts.length+7<=4000)(SI:m<=4000):BY p ts:=by
 refine⟨by omega,λt ht=>⟨(hG t ht).1,(hG t ht).2.1.mono SI,(hG t ht).2.2.mono SI⟩,λi hi=>?_,?_⟩
 ·obtain⟨g1,g2,g3⟩:=di (m:=m) hp i (ts.take i) (by simp;omega) λt ht=>hG t (List.mem_of_mem_take ht);intro e he;have b:=g1 e he;have le:(m+1)*i+7<=4000:=Nat.le_trans (Nat.add_le_add_right (Nat.mul_le_mul_left _ hi) _) hm;exact⟨b.1,b.2.1.mono le,b.2.2.mono le⟩
 ·exact Nat.lt_of_le_of_lt (di (m:=m) hp ts.length ts rfl hG).2.2 h64
def oo (C:Addr):Sp:=λvs H Q _=>∃(s dx l:Addr)(p:Int)(ys:List V)(ts:List Tm),vs=[.ref s,.ref l]/\H s=some (.ins C dx (cE p))/\FP p/\H l=some (.lst ys)/\aX H ys ts/\BY p ts /\
 ∀H' D zs,aA H H'->H D=none->H' D=some (.lst zs)->aX H' zs (gZ (aY p ts))->Q (.ref D) H'
theorem none_of {a:Addr}(s:aA H H')(h:H' a=none):H a=none:=by
 cases e:H a with
 |none=>rfl
 |some o=>rw[s _ _ e] at h;cases h
theorem i4:Av ["field","terms","totals","product","number","kept"] D1 (aj xY):=dk (by decide +kernel)
theorem nC {α β:Type}{R:α->β->Prop}{k:Ky}{x:α}{y:β}(h:R x y):∀{l:List (Ky×α)}{m:List (Ky×β)},Paired (λa b=>a.1=b.1/\R a.2 b.2) l m->Paired (λa b=>a.1=b.1/\R a.2 b.2) (l9 k x l) (l9 k y m)
 |_,_,.nil=>.cons ⟨rfl,h⟩ .nil
 |_,_,.cons (a:=(j,u)) (b:=(j',v)) (l₁:=r) (l₂:=r') h0 t=>by
  obtain⟨e,h1⟩:=h0;have e:j=j':=e;subst e;show Paired _ (if lY k j=true then(k,x):: (j,u):: r else(j,u):: l9 k x r) (if lY k j=true then(k,y):: (j,v):: r' else(j,v):: l9 k y r')
  by_cases z:lY k j=true
  ·rw[if_pos z,if_pos z];exact .cons ⟨rfl,h⟩ (.cons ⟨rfl,h1⟩ t)
  ·rw[if_neg z,if_neg z];exact .cons ⟨rfl,h1⟩ (nC h t)
theorem ie {α β:Type}{R:α->β->Prop}:∀{l:List (Ky×α)}{m:List (Ky×β)},Paired (λa b=>a.1=b.1/\R a.2 b.2) l m->Paired (λa b=>a.1=b.1/\R a.2 b.2) (dQ l) (dQ m)
 |_,_,.nil=>.nil
 |_,_,.cons (a:=(j,u)) (b:=(j',v)) (l₁:=r) (l₂:=r') h0 t=>by
  obtain⟨e,h1⟩:=h0;have e:j=j':=e;subst e;exact nC h1 (ie t)
theorem kJ {α β:Type}{R:α->β->Prop}:∀{l:List (Ky×α)}{m:List (Ky×β)},Paired (λa b=>a.1=b.1/\R a.2 b.2) l m->Paired R (l.map (·.2)) (m.map (·.2))
 |_,_,.nil=>.nil
 |_,_,.cons h t=>.cons h.2 (kJ t)
theorem kK {R:V->Tm->Prop}:∀{xs:List V}{es:List Tm},Paired R xs es->Paired (λa b=>a.1=b.1/\R a.2 b.2) ((es.map fX).zip xs) (es.map λe=>(fX e,e))
 |_,_,.nil=>.nil
 |_,_,.cons h t=>.cons ⟨rfl,h⟩ (kK t)
theorem jl:∀{xs:List V}{es:List Tm}{H:Hp}{R:List V->Hp->Prop},aX H xs es →
 (∀ks H2,aA H H2->Paired (λx e=>∃a b,x=.ref a/\H2 a=some (.tup [.int e.1.length,.ref b])/\H2 b=some (.tup (e.1.map V.int))) ks es->R ks H2)->nH qA xs H R
 |_,_,H,R,.nil,h=>h [] H (aA.refl _) .nil
 |_,_,H,R,.cons (b:=e) h0 t,h=>by
  obtain⟨a,pr,nu,rfl,ha,Jk,JC⟩:=h0;refine⟨a,pr,.ref nu,_,rfl,ha,Jk,λtt Ut=>?_⟩;rw[List.length_map];have sU:aA H (upd H tt (.tup [.int e.1.length,.ref pr])):=ar Ut;refine jl (aX.keep t (aH.of sU)) λks H2 s2 hk=>h _ H2 (λb u z=>s2 _ _ (sU _ _ z)) (.cons ⟨tt,pr,rfl,s2 _ _ ah,s2 _ _ (sU _ _ Jk)⟩ hk)
theorem j3 {K:Frag}:∀{ks:List V}{es:List Tm},Paired (λx e=>∃a b,x=.ref a/\H a=some (.tup [.int e.1.length,.ref b])/\H b=some (.tup (e.1.map V.int))) ks es->dW K H ks (es.map fX)
 |_,_,.nil=>True.intro
 |_,_,.cons h t=>by
  obtain⟨a,b,rfl,h1,h2⟩:=h;exact⟨⟨a,b,[],rfl,br.of h1,br.of h2⟩,j3 t⟩
theorem tT (h:(d.map (·.1)).Nodup)(f:Tm->Bool):((d.filter f).map fX).Nodup:=by
 have h1:((d.filter f).map (·.1)).Nodup:=h.sublist (List.filter_sublist.map _)
 have e:(d.filter f).map fX=((d.filter f).map (·.1)).map λk=>((k.length:Int),k):=by rw[List.map_map];rfl
 rw[e];unfold List.Nodup at h1 |-;rw[List.pairwise_map];exact h1.imp λh z=>h (Prod.mk.inj z).2
theorem ip (h:(d.map (·.1)).Nodup):∀{e e':Tm},e∈d->e'∈d->e.1=e'.1->e=e':=by
 induction d with
 |nil=>intro e e' h1;exact nomatch h1
 |cons a d ih =>
  rw[List.map_cons,List.nodup_cons] at h;intro e e' h1 h2 z
  rcases List.mem_cons.mp h1 with h3|h3
  ·rcases List.mem_cons.mp h2 with h4|h4
   ·rw[h3,h4]
   ·exact absurd (by rw[<-h3,z];exact List.mem_map_of_mem (f:=(·.1)) h4) h.1
  ·rcases List.mem_cons.mp h2 with h4|h4
   ·exact absurd (by rw[<-h4,<-z];exact List.mem_map_of_mem (f:=(·.1)) h3) h.1
   ·exact ih h.2 h3 h4 z
variable {P:yn}{w:World}{K:PySem.W.Frag}{mg:xf}{base:Heap}
variable {f:Addr}{fd:zo}
theorem AV {fp fo C:Addr}{Jm LP:zo}(F:Ao K "gathered" "gathered" xY f fd)(c:vR K mg C)(IG:mg "sorted"=none)
 (FPl:Ik P w K mg base (aU P w) 4 fp Jm zh (pX C iC))(bPl:L2.ay K Jm zh [])(mPl:L2.Meth K C "plus" fp)
 (Uu:Ik P w K mg base (aU P w) 1 fo LP ["term"] qA)(Uv:L2.ay K LP ["term"] [])(Uw:mg "place_of_term"=some (.ref fo)):Ik P w K mg base (aU P w) 5 f fd D1 (oo C):=by
 refine F.okN i4 (λvs H Q E h=>?_) (λIv A outer s H vs Q E hr h=>?_)
 ·obtain⟨s,dx,l,p,ys,ts,rfl,_⟩:=h;rfl
 ·obtain⟨s0,dx,l,p,ys,ts,rfl,hs,hp,hl,OK,G,q⟩:=h;have h64:=G.len;have hG:=G.num;have Jb:p8 4 _:=hr.mono (by decide);have Ux:p8 3 _:=hr.mono (by decide);have hu:=(hr.units:_+64<cLine)
  replace hu:=Nat.lt_of_le_of_lt (Nat.add_le_add_left (by decide:1<=64) _) hu
  refine⟨_,(ak (@aV _ _ 2 _ _ _ _ i4.nd rfl (Or.inl rfl) p9 rfl (Or.inl rfl))
   (ak (dO PassesOwn.never rfl (cC (pv 1)) (de rfl (aR (aE (i:=3) i4.nd rfl (Or.inl rfl)) (aR (aE (i:=4) i4.nd rfl (Or.inl rfl)) cy)))
   (ak (a9 (abA (abg hu (pv 3) (pv 2))) (aq (@aV _ _ 4 _ _ _ _ i4.nd rfl (Or.inl rfl) (bY (pv 0) c.cl mPl FPl Jb bPl .nil ae (@ao _ _ _ _ _ (oK hu (pv 2) (pv 3) (λ_ _=>rfl)) (@ao _ _ _ _ _ (pv 4) af rfl) rfl)) rfl (Or.inl rfl))) aF)
   (aq (t7 hu (pv 2) (pv 3) (pv 4) (by rfl)))))
   (ak (jR (i:=5) (g:=og K 2 (dN (cb 0) (dN (cb 1) FY))) (N:=["product","number"]) (nl:=2) (js:=[]) (osc:=aj xY) ⟨rfl,rfl,by decide +kernel,by decide +kernel,by decide +kernel,rfl,.nil,by decide +kernel⟩ rfl i4.nd rfl (Or.inl rfl)
    (yS (pv 2))
    (λC fp s H=>(de (X:=fG _ ["product","number"] _ C fp s H) rfl (aR (aE (X:=fG _ ["product","number"] _ C fp s H) (i:=0) (by show(["product","number"]:zX).Nodup;decide +kernel) rfl (Or.inl rfl) (Or.inr rfl)) (aR (aE (X:=fG _ ["product","number"] _ C fp s H) (i:=1) (by show(["product","number"]:zX).Nodup;decide +kernel) rfl (Or.inl rfl) (Or.inr rfl)) cy))))
    (λC fp s H=>(iA (@aK _ _ _ _ _ _ _ _ fW (@bg _ _ _ _ _ _ _ (show C8 _ (xv K) from aZ) (pv 1) au (λ_ _=>rfl)) au (aI _))))
    (λC fp s H=>(@bD _ _ _ _ _ (@ao _ _ _ _ _ (pv 0) (@ao _ _ _ _ _ (pv 1) af rfl) rfl))) (by rfl))
   (aq (az (qf Uu Ux Uv (by rfl) IG (by rfl) Uw (pv 5))))))),?_⟩
  have hlen:=OK.length
  have gg:∀i,i<=ts.length->mh p 4000 (aY p (ts.take i))/\((aY p (ts.take i)).map (·.1)).Nodup/\(aY p (ts.take i)).length<=i:=λi hi=>by
   obtain⟨_,g2,g3⟩:=di (m:=4000) hp i (ts.take i) (by simp;omega) λt ht=>hG t (List.mem_of_mem_take ht);exact⟨G.steps i hi,g2,g3⟩
  refine λdd JN=>?_;have s1:aA H (upd H dd (.dT [])):=ar JN;refine⟨_,rfl,l,rfl,⟨ys,bo.of (s1 _ _ hl)⟩,?_⟩
  refine⟨λi m σ' H'=>m=ts.length-i/\i<=ts.length/\aA H H'/\(∃Ir,H' dd=some (.dT Ir)/\DR H' Ir (aY p (ts.take i)))/\∃o3 o4,σ'=[some (.ref s0),some (.ref l),some (.ref dd),o3,o4,none],
   ⟨ts.length,by simp,Nat.zero_le _,s1,⟨[],ah,.nil⟩,none,none,rfl⟩,?_⟩
  rintro i m' σ' H' ⟨rfl,hi,sH,⟨Ir,hd,dr⟩,o3,o4,rfl⟩;have Kc:=sH _ _ hl;have KD:=sH _ _ hs;obtain⟨gd,KL,gl⟩:=gg i hi
  by_cases IC:i<ts.length
  ·have hly:i<ys.length:=by omega
   refine .inr ⟨⟨ys,ys[i],bo.of Kc,by simp[hly]⟩,λσ' H'=>i+1<=ts.length/\aA H H'/\(∃Ir,H' dd=some (.dT Ir)/\DR H' Ir (aY p (ts.take (i+1))))/\∃o3 o4,σ'=[some (.ref s0),some (.ref l),some (.ref dd),o3,o4,none],?_,λy H2 hy=>?_⟩
   ·rintro σ' H' ⟨h1,h2,h3,h4⟩;exact⟨ts.length-(i+1),by omega,rfl,h1,h2,h3,h4⟩
   ·obtain⟨rfl,hy⟩:=hy;obtain⟨t,et,tr⟩:=bc OK (hy ys (bo.of Kc));obtain⟨a,pr,nu,rfl,ha,Jk,JC⟩:=tr.keep (aH.of sH);have gt:=hG t (List.mem_of_getElem? et)
    have JD:ts.take (i+1)=ts.take i++[t]:=by rw[List.take_add_one,et];rfl
    have JS:∀H3:Hp,aH H2 H3->H3 pr=some (.tup ((jK t.1).map kV)):=λH3 k=>by rw[jn];exact k _ _ Jk
    have fin:∀(H3:Hp)(an:Addr),aA H H3->aH H2 H3->H3 dd=some (.dT Ir)->((aY p (ts.take i)).any (λe=>decide (e.1=t.1))=false->H3 an=some (bA t.2.1 t.2.2)) →
     (∀e∈aY p (ts.take i),e.1=t.1->H3 an=some (bA (cZ p e.2 t.2).1 (cZ p e.2 t.2).2)) →
     aA H (upd H3 dd (.dT (fK Ir (jK t.1) (.ref an))))/\∃KN,(upd H3 dd (.dT (fK Ir (jK t.1) (.ref an)))) dd=some (.dT KN)/\DR (upd H3 dd (.dT (fK Ir (jK t.1) (.ref an)))) KN (aY p (ts.take (i+1))):=by
     intro H3 an s3 k3 h3 Mw Kd;refine⟨λb u e=>by rw[av (ax e JN)];exact s3 b u e,_,ah,?_⟩;rw[JD,ja];exact(yY (dr.keep k3) KL Mw Kd).keep (aH.upd λxs z=>by rw[h3] at z;cases z)
    have KO:Ir.length<sizeLine:=by
     rw[dr.length];exact Nat.lt_of_le_of_lt gl (Nat.lt_trans (Nat.lt_of_le_of_lt hi h64) (by decide))
    refine⟨a,_,rfl,br.of ha,rfl,_,_,rfl,_,_,rfl,rfl,?_⟩;refine⟨_,rfl,_,rfl,dd,_,rfl,jh.t hd (JS _ λ_ _ e=>e),_,rfl,?_⟩
    cases hq:(aY p (ts.take i)).any (λe=>decide (e.1=t.1)) with
    |false =>
     rw[uh t.1 dr hq];refine bw ?_;refine⟨_,rfl,_,rfl,_,rfl,dd,_,rfl,qj.t hd (JS _ λ_ _ e=>e) KO,?_⟩
     obtain⟨f1,f2⟩:=fin H2 nu sH (λ_ _ e=>e) hd (λ_=>JC) λe he z=>by
      have:(aY p (ts.take i)).any (λe=>decide (e.1=t.1))=true:=List.any_eq_true.mpr ⟨e,he,by simpa using z⟩;rw[hq] at this;cases this
     exact⟨IC,f1,f2,_,_,rfl⟩
    |true =>
     obtain⟨e,he,ek,a0,hv,OL⟩:=lh t.1 dr hq;rw[hv];refine b0 ?_;have ge:=gd e he
     refine⟨_,rfl,s0,dx,_,rfl,KD,rfl,_,rfl,_,rfl,dd,_,rfl,(by rw[<-hv];exact jh.t hd (JS _ λ_ _ e=>e)),_,rfl,s0,dx,a0,nu,p,e.2.1,e.2.2,t.2.1,t.2.2,rfl,KD,hp,OL,JC,
      ge.2.1,ge.2.2,gt.2.1,gt.2.2,ge.ne,gt.ne,λa1 JZ=>?_⟩
     have sU:aA H2 (upd H2 a1 (bA (cZ p e.2 t.2).1 (cZ p e.2 t.2).2)):=ar JZ;refine⟨_,rfl,_,rfl,_,rfl,dd,_,rfl,qj.t (sU _ _ hd) (JS _ (aH.of sU)) KO,?_⟩
     obtain⟨f1,f2⟩:=fin _ a1 (λb u z=>sU _ _ (sH _ _ z)) (aH.of sU) (sU _ _ hd) (λz=>by rw[hq] at z;cases z) λe' KH z=>by
      have:e'=e:=ip KL KH he (z.trans ek.symm);subst this;exact ah
     exact⟨IC,f1,f2,_,_,rfl⟩
  ·have ei:i=ts.length:=by omega
   subst ei;refine .inl ⟨⟨ys,bo.of Kc,by omega⟩,?_⟩;rw[List.take_length] at dr gd KL gl;refine⟨_,rfl,dd,Ir,rfl,.inr ⟨hd,λo=>?_⟩⟩
   have sF:aA H (upd H' dd (oZ o Ir)):=λb u e=>by rw[av (ax e JN)];exact sH b u e
   have Uy:DR (upd H' dd (oZ o Ir)) Ir (aY p ts):=dr.keep (aH.upd λxs z=>by rw[hd] at z;cases z);have kl:Ir.length=(aY p ts).length:=dr.length
   refine⟨λi m xs σ' H2=>m=(aY p ts).length-i/\i<=(aY p ts).length/\aA H H2/\H2 dd=some (oZ o Ir)/\DR H2 Ir (aY p ts)/\aX H2 xs (((aY p ts).take i).filter λe=>e.2.1 != 0)/\∃o1 o2,σ'=[o1,o2],
    ⟨(aY p ts).length,by simp,Nat.zero_le _,sF,ah,Uy,.nil,none,none,rfl⟩,?_⟩
   rintro i m' xs σ' H2 ⟨rfl,hi2,s2,hd2,LQ,Kb,o1,o2,rfl⟩
   have xl:xs.length<=(aY p ts).length:=by
    rw[Kb.length];exact Nat.le_trans (List.length_filter_le _ _) (by simp;omega)
   refine⟨Nat.lt_of_le_of_lt (Nat.le_trans xl gl) (Nat.lt_trans h64 (by decide)),?_⟩
   by_cases KP:i<(aY p ts).length
   ·refine .inr ⟨⟨by omega,hd2⟩,λx H3 hx=>?_⟩;obtain⟨pp,b,k,v,hk,ND,hb,rfl,rfl⟩:=hx;obtain⟨e,ee,ek,a,ev,ha⟩:=bc LQ hk;have ek:k=jK e.1:=ek;have ev:v=.ref a:=ev;subst ek;subst ev;have sP:aA H2 (upd H2 pp (.tup [.ref b,.ref a])):=ar ND
    have JD:(aY p ts).take (i+1)=(aY p ts).take i++[e]:=by rw[List.take_add_one,ee];rfl
    rw[jn] at hb;refine⟨pp,_,rfl,br.of ah,rfl,_,_,rfl,_,_,rfl,rfl,?_⟩;refine⟨_,rfl,a,_,0,_,rfl,rfl,br.of (sP _ _ ha),rfl,rfl,_,rfl,?_⟩;have dP:upd H2 pp (.tup [.ref b,.ref a]) dd=some (oZ o Ir):=sP _ _ hd2
    cases hz:(e.2.1 != 0) with
    |true =>
     have z:(!decide (V.int e.2.1=V.int 0))=true:=by
      have:e.2.1≠0:=by simpa using hz
      simp[this]
     rw[z];refine b0 ⟨_,rfl,_,rfl,iT,λt' Uz=>?_⟩;have sT:aA (upd H2 pp (.tup [.ref b,.ref a])) (upd (upd H2 pp (.tup [.ref b,.ref a])) t' (.tup [.ref b,.ref a])):=ar Uz;have sA:aA H2 (upd (upd H2 pp (.tup [.ref b,.ref a])) t' (.tup [.ref b,.ref a])):=λc u e=>sT _ _ (sP _ _ e);refine⟨(aY p ts).length-(i+1),by omega,rfl,KP,λc u e=>sA _ _ (s2 _ _ e),sA _ _ hd2,LQ.keep (aH.of sA),?_,_,_,rfl⟩;rw[JD,List.filter_append]
     have ef:[e].filter (λe=>e.2.1 != 0)=[e]:=by simp[hz]
     rw[ef];exact Paired.snoc (aX.keep Kb (aH.of sA)) ⟨t',b,a,rfl,ah,sA _ _ hb,sA _ _ ha⟩
    |false =>
     have z:(!decide (V.int e.2.1=V.int 0))=false:=by
      have:e.2.1=0:=by simpa using hz
      simp[this]
     rw[z];refine bw ⟨(aY p ts).length-(i+1),by omega,rfl,KP,λc u e=>sP _ _ (s2 _ _ e),sP _ _ hd2,LQ.keep (aH.of sP),?_,_,_,rfl⟩;rw[JD,List.filter_append]
     have ef:[e].filter (λe=>e.2.1 != 0)=[]:=by simp[hz]
     rw[ef,List.append_nil];exact aX.keep Kb (aH.of sP)
   ·have UA:i=(aY p ts).length:=by omega
    subst UA;refine .inl ⟨⟨by omega,hd2⟩,λD hD=>?_⟩;rw[List.take_length] at Kb;have sD:aA H2 (upd H2 D (.lst xs)):=ar hD;refine⟨_,rfl,D,xs,rfl,bo.of ah,Nat.lt_of_le_of_lt xl G.few,?_⟩;refine jl (aX.keep Kb (aH.of sD)) λks H3 s3 hk=>?_;refine⟨_,j3 hk,tT KL _,λD2 NK=>?_⟩;have sE:aA H3 (upd H3 D2 (.lst ((dQ ((((aY p ts).filter λe=>e.2.1 != 0).map fX).zip xs)).map (·.2)))):=ar NK;refine q _ D2 _ (λc u e=>sE _ _ (s3 _ _ (sD _ _ (s2 _ _ e)))) (none_of (λc u e=>s3 _ _ (sD _ _ (s2 _ _ e))) NK) ah ?_;have UB:aX H3 xs ((aY p ts).filter λe=>e.2.1 != 0):=aX.keep Kb (aH.of λc u e=>s3 _ _ (sD _ _ e));exact aX.keep (kJ (ie (kK UB))) (aH.of sE)
structure Cd (p D M:Int)(a:Int×Int):Prop where
 num:Num p a.1 a.2
 d:p=0->∃k:Int,a.2*k=D/\((a.1*k).natAbs:Int)<=M
variable {M:Int}
theorem Cd.mono {D M':Int}(h:Cd p D M a)(m:M<=M'):Cd p D M' a:=⟨h.num,λz=>by
 obtain⟨k,e,l⟩:=h.d z
 exact⟨k,e,Int.le_trans l m⟩⟩
variable {N:Int}
theorem Cd.add {D:Int}(hp:FP p)(ha:Cd p D M a)(hb:Cd p D N b):Cd p D (M+N) (cZ p a b):=by
 have na:=ha.num.pos;have nb:=hb.num.pos;have nz:a.2*b.2≠0:=Int.mul_ne_zero (by omega) (by omega);refine⟨Num.set hp.nn nz,λz=>?_⟩;subst z;obtain⟨x,ex,lx⟩:=ha.d rfl;obtain⟨y,ey,ly⟩:=hb.d rfl;have cr:=gX (t:=a.1*b.2+b.1*a.2) nz;have nm:Num 0 (cM 0 (a.1*b.2+b.1*a.2) (a.2*b.2)) (c8 0 (a.1*b.2+b.1*a.2) (a.2*b.2)):=Num.set (Int.le_refl 0) nz;show ∃k,c8 0 (a.1*b.2+b.1*a.2) (a.2*b.2)*k=D/\(((cM 0 (a.1*b.2+b.1*a.2) (a.2*b.2))*k).natAbs:Int)<=M+N;generalize cM 0 (a.1*b.2+b.1*a.2) (a.2*b.2)=t at cr nm |-;generalize c8 0 (a.1*b.2+b.1*a.2) (a.2*b.2)=u at cr nm |-;obtain⟨a1,a2⟩:=a;obtain⟨b1,b2⟩:=b;dsimp only at *
 have e1:t*D=(a1*x+b1*y)*u:=by
  refine Int.eq_of_mul_eq_mul_right nz ?_
  have h1:(a1*b2+b1*a2)*D=(a1*x+b1*y)*(a2*b2):=by
   have:(a1*b2+b1*a2)*D=a1*b2*D+b1*a2*D:=by grind
   rw[this]
   have p1:a1*b2*D=a1*x*(a2*b2):=by rw[<-ex];grind
   have p2:b1*a2*D=b1*y*(a2*b2):=by rw[<-ey];grind
   rw[p1,p2];grind
  have:t*D*(a2*b2)=t*(a2*b2)*D:=by grind
  rw[this,cr]
  have:(a1*b2+b1*a2)*u*D=(a1*b2+b1*a2)*D*u:=by grind
  rw[this,h1];grind
 have dv:u ∣ D:=by
  have g:Int.gcd u t=1:=by rw[Int.gcd_comm];exact nm.red
  have h1:u ∣ t*D:=⟨a1*x+b1*y,by rw[e1];grind⟩;have h2:=Int.natAbs_dvd_natAbs.mpr h1;rw[Int.natAbs_mul] at h2;exact Int.natAbs_dvd_natAbs.mp (Nat.Coprime.dvd_of_dvd_mul_left (show Nat.Coprime u.natAbs t.natAbs from g) h2)
 obtain⟨k,ek⟩:=dv;refine⟨k,ek.symm,?_⟩;have up:=nm.pos
 have e2:t*k=a1*x+b1*y:=by
  refine Int.eq_of_mul_eq_mul_right (show u≠0 by omega) ?_;rw[<-e1,ek];grind
 rw[e2];have:=Int.natAbs_add_le (a1*x) (b1*y);omega
theorem Cd.mul {D D':Int}(hp:FP p)(ha:Cd p D M a)(hb:Cd p D' N b):Cd p (D*D') (M*N) (dA p a b):=by
 have na:=ha.num.pos;have nb:=hb.num.pos;have nz:a.2*b.2≠0:=Int.mul_ne_zero (by omega) (by omega);refine⟨Num.set hp.nn nz,λz=>?_⟩;subst z;obtain⟨x,ex,lx⟩:=ha.d rfl;obtain⟨y,ey,ly⟩:=hb.d rfl;have e1:=pG (t:=a.1*b.1) nz;have e2:=iz (t:=a.1*b.1) nz;refine⟨Nm.dv (a.1*b.1) (a.2*b.2)*(x*y),?_,?_⟩
 ·show b7 (a.1*b.1) (a.2*b.2)*(Nm.dv (a.1*b.1) (a.2*b.2)*(x*y))=D*D';rw[<-Int.mul_assoc,e2,<-ex,<-ey];grind
 ·show((cW (a.1*b.1) (a.2*b.2)*(Nm.dv (a.1*b.1) (a.2*b.2)*(x*y))).natAbs:Int)<=M*N;rw[<-Int.mul_assoc,e1,show a.1*b.1*(x*y)=(a.1*x)*(b.1*y) by grind,Int.natAbs_mul];push_cast;exact Int.mul_le_mul lx ly (by omega) (by omega)
theorem FP.bits (hp:FP p)(z:p≠0){t b:Int}(h:Num p t b):B 7 t/\B 7 b:=by
 obtain⟨_,_,SA⟩:=hp.two z;obtain⟨h1,h2,h3⟩:=h.pr z;constructor
 ·show t.natAbs<2^7;omega
 ·show b.natAbs<2^7;omega
variable {n:Nat}
theorem Cd.gn {D:Int}(hp:FP p)(h:Cd p D M a)(h7:7<=n)(OM:D≠0)(hD:B n D)(hM:B n M):Gn p n a:=by
 by_cases z:p=0
 ·obtain⟨k,e,l⟩:=h.d z;have kz:k≠0:=λw=>OM (by rw[<-e,w,Int.mul_zero])
  have k1:1<=k.natAbs:=by omega
  refine⟨h.num,?_,?_⟩
  ·have:(a.1*k).natAbs<=M.natAbs:=by omega
   rw[Int.natAbs_mul] at this;exact hM.le (Nat.le_trans (Nat.le_mul_of_pos_right _ k1) this)
  ·rw[<-e] at hD;refine hD.le ?_;rw[Int.natAbs_mul];exact Nat.le_mul_of_pos_right _ k1
 ·obtain⟨h1,h2⟩:=hp.bits z h.num;exact⟨h.num,h1.mono h7,h2.mono h7⟩
theorem zK {D:Int}{t:Tm}(hp:FP p)(hN:0<=N)(hM:0<=M)(hd:∀e∈d,Cd p D M e.2)(ht:Cd p D N t.2):∀e∈du p d t,Cd p D (M+N) e.2:=by
 intro e he;unfold du at he
 split at he
 ·obtain⟨e0,h0,rfl⟩:=List.mem_map.mp he
  by_cases q:e0.1=t.1
  ·rw[if_pos q];exact(hd e0 h0).add hp ht
  ·rw[if_neg q];exact(hd e0 h0).mono (by omega)
 ·rcases List.mem_append.mp he with he|he
  ·exact(hd e he).mono (by omega)
  ·have:e=t:=by simpa using he
   rw[this];exact ht.mono (by omega)
theorem tW {D:Int}(hp:FP p)(hN:0<=N):∀(ts d:List Tm)(M:Int),0<=M->(∀e∈d,Cd p D M e.2)->(∀t∈ts,Cd p D N t.2)->∀e∈ts.foldl (du p) d,Cd p D (M+N*ts.length) e.2
 |[],d,M,hM,hd,_,e,he=>(hd e he).mono (by simp)
 |t::ts,d,M,hM,hd,ht,e,he=>by
  have:=tW hp hN ts (du p d t) (M+N) (by omega) (zK hp hN hM hd (ht t List.mem_cons_self)) (λt h=>ht t (List.mem_cons_of_mem _ h)) e he;refine this.mono ?_;rw[List.length_cons];push_cast;rw[Int.mul_add];omega
theorem uE {D:Int}{ts:List Tm}(hp:FP p)(hN:0<=N)(h:∀t∈ts,Cd p D N t.2):∀e∈aY p ts,Cd p D (N*ts.length) e.2:=λe he=>by
 have:=tW hp hN ts [] 0 (Int.le_refl 0) (λe h=>nomatch h) h e he;rwa[Int.zero_add] at this
theorem BM {D:Int}(hp:FP p)(hN:0<=N)(h:∀t∈ts,Cd p D N t.2):∀e∈tg p ts,Cd p D (N*ts.length) e.2:=λe he=>uE hp hN h e (List.mem_filter.mp ((dJ _).mem_iff.mp he)).1
theorem BY.cd {D:Int}(hp:FP p)(hN:0<=N)(h:∀t∈ts,Cd p D N t.2)(OM:D≠0)(hD:B 4000 D)(hM:B 4000 (N*ts.length))(len:ts.length<4000)(few:(aY p ts).length<64):BY p ts:=by
 have up:∀i:Nat,i<=ts.length->B 4000 (N*(i:Int)):=λi hi=>hM.le (by
  rw[Int.natAbs_mul,Int.natAbs_mul]
  exact Nat.mul_le_mul_left _ (by omega))
 refine⟨len,λt ht=>?_,λi hi e he=>?_,few⟩
 ·by_cases z:ts.length=0
  ·rw[List.length_eq_zero_iff.mp z] at ht
   exact nomatch ht
  ·refine(h t ht).gn hp (by decide) OM hD ?_;have:=up 1 (by omega);simpa using this
 ·have g:=uE (ts:=ts.take i) hp hN (λt ht=>h t (List.mem_of_mem_take ht)) e he;rw[List.length_take,Nat.min_eq_left hi] at g;exact g.gn hp (by decide) OM hD (up i hi)
def aW (p k:Int):Int×Int:=(cM p k 1,c8 p k 1)
theorem bN (hp:FP p)(k:Int):Num p (aW p k).1 (aW p k).2:=Num.set hp.nn (by decide)
theorem cm (k:Int):aW 0 k=(k,1):=by
 have z:=kO (t:=k) (b:=1) (by decide) (by simp);show(cW k 1,b7 k 1)=_;rw[z.1,z.2]
theorem bH (h:p≠0)(k:Int):aW p k=(k%p,1):=by
 unfold aW cM c8;rw[if_neg h,if_neg h]
theorem yq (a b:Int):cZ p (aW p a) (aW p b)=aW p (a+b):=by
 by_cases h:p=0
 ·subst h;rw[cm,cm];show(cM 0 (a*1+b*1) (1*1),c8 0 (a*1+b*1) (1*1))=aW 0 (a+b);rw[Int.mul_one,Int.mul_one];rfl
 ·rw[bH h,bH h,bH h];unfold cZ iC cM c8;rw[if_neg h,if_neg h,Int.mul_one,Int.mul_one,<-Int.add_emod]
theorem oJ (p:Int):aW p 0=(0,1):=by
 by_cases h:p=0
 ·subst h;exact cm 0
 ·rw[bH h,Int.zero_emod]
theorem kY (hp:FP p):aW p 1=(1,1):=by
 by_cases h:p=0
 ·subst h;exact cm 1
 ·rw[bH h,Int.emod_eq_of_lt (by decide) (by have:=(hp.two h).2.1;omega)]
section
variable {p:Int}{R:Type} [Lean.Grind.CommRing R]{v:Int×Int->R}
theorem rS (V:Val p R v)(hp:FP p)(a b:Int):v (aW p (a+b))=v (aW p a)+v (aW p b):=by
 rw[<-yq];exact(V.set (bN hp a) (bN hp b)).1 rfl rfl
theorem Ay (V:Val p R v)(hp:FP p)(n:Nat):v (aW p ((n+1:Nat):Int))=v (aW p n)+1:=by
 rw[show((n+1:Nat):Int)=(n:Int)+1 from by omega,rS V hp,kY hp,V.one]
theorem oa (V:Val p R v)(hp:FP p):v (aW p (-1)) = -1:=by
 have h:=rS V hp (-1) 1;rw[show(-1:Int)+1=0 from rfl,oJ,kY hp,V.zero,V.one] at h;grind
theorem Cz (V:Val p R v)(hp:FP p)(a b:Int):v (aW p (a-b))=v (aW p a)-v (aW p b):=by
 have h:=rS V hp (a-b) b;rw[Int.sub_add_cancel] at h;grind
def fZ:Nat->(Nat->R)->R
 |0,_=>0
 |n+1,f=>fZ n f+f n
theorem nJ (n:Nat)(f g:Nat->R):fZ n (λi=>f i+g i)=fZ n f+fZ n g:=by
 induction n with
 |zero=>show(0:R)=0+0;grind
 |succ n ih=>show fZ n (λi=>f i+g i)+(f n+g n)=fZ n f+f n+(fZ n g+g n);rw[ih];grind
theorem uG (n:Nat)(c:R)(f:Nat->R):fZ n (λi=>c*f i)=c*fZ n f:=by
 induction n with
 |zero=>show(0:R)=c*0;grind
 |succ n ih=>show fZ n (λi=>c*f i)+c*f n=c*(fZ n f+f n);rw[ih];grind
theorem gQ {n:Nat}{f g:Nat->R}(h:∀i,i<n->f i=g i):fZ n f=fZ n g:=by
 induction n with
 |zero=>rfl
 |succ n ih=>show fZ n f+f n=fZ n g+g n;rw[ih λi hi=>h i (by omega),h n (by omega)]
theorem mw (V:Val p R v)(hp:FP p)(n:Nat)(c:R):fZ n (λ_=>c)=v (aW p n)*c:=by
 induction n with
 |zero=>show(0:R)=v (aW p 0)*c;rw[oJ,V.zero];grind
 |succ n ih=>show fZ n (λ_=>c)+c=_;rw[ih,Ay V hp];grind
theorem x8 (a b:Nat)(f:Nat->Nat->R):fZ a (λi=>fZ b λj=>f i j)=fZ b (λj=>fZ a λi=>f i j):=by
 induction a with
 |zero=>show(0:R)=fZ b (λ_=>(0:R));induction b with
  |zero=>rfl
  |succ b ih=>show(0:R)=fZ b (λ_=>(0:R))+0;rw[<-ih];grind
 |succ a ih=>show fZ a (λi=>fZ b λj=>f i j)+fZ b (λj=>f a j)=fZ b (λj=>fZ a (λi=>f i j)+f a j);rw[ih,nJ]
theorem om {α:Type}(f:Nat->α)(h:α->List Tm)(F:List Int->R):∀n:Nat,S v (((List.range n).map f).flatMap h) F=fZ n (λi=>S v (h (f i)) F)
 |0=>rfl
 |n+1=>by
  rw[List.range_succ,List.map_append,List.flatMap_append,fE,om f h F n];show fZ n _+S v (h (f n)++[]) F=_;rw[List.append_nil];rfl
theorem ko (V:Val p R v)(f:Nat->Int)(F:List Int->R):∀n:Nat,S v (((List.range n).map f).map λk=>([k],((1,1):Int×Int))) F=fZ n (λi=>F [f i])
 |0=>rfl
 |n+1=>by
  rw[List.range_succ,List.map_append,List.map_append,fE,ko V f F n];show fZ n _+(v (1,1)*F [f n]+0)=fZ n _+F [f n];rw[V.one];grind
end
def fQ (b g:Nat):List Int:=(List.range b).map λr=>((g*b+r:Nat):Int)
def fA (a b r:Nat):List Int:=(List.range a).map λg=>((g*b+r:Nat):Int)
def eF (p:Int)(row:List Int):List Tm:=([],aW p (-1)):: row.map λk=>([k],((1,1):Int×Int))
def qk (a b:Nat):List (List Int):=(List.range a).map (fQ b)++(List.range b).map (fA a b)
structure wc (p:Int)(d:Int)(s:Int×Int):Prop where
 num:Num p s.1 s.2
 one:dA p s (aW p d)=(1,1)
 lo:p=0->s.2<=8/\s.1.natAbs<=1
def dj (p:Int)(s:Int×Int):Int×Int:=dA p s (aW p (-1))
def uU (p:Int)(s:Int×Int)(a b:Nat):List Tm :=
 ((List.range a).map (fQ b)).flatMap (λr=>tg p (dI p (tg p (eF p r)) [([],s)]))++((List.range b).map (fA a b)).flatMap (λr=>tg p (dI p (tg p (eF p r)) [([],dj p s)]))
theorem iN (hp:FP p):Num p 1 1:=⟨by decide,by decide,λz=>⟨rfl,by decide,by have:=(hp.two z).2.1;omega⟩⟩
theorem iB (hp:FP p)(row:List Int):cp p (eF p row):=λt ht=>by
 rcases List.mem_cons.mp ht with rfl|ht
 ·exact bN hp (-1)
 ·obtain⟨k,_,rfl⟩:=List.mem_map.mp ht;exact iN hp
variable {s:Int×Int}
section
variable {p:Int}{R:Type} [Lean.Grind.CommRing R]{v:Int×Int->R}
theorem yv (V:Val p R v)(hp:FP p)(hs:Num p s.1 s.2)(row:List Int)(F:List Int->R):S v (tg p (dI p (tg p (eF p row)) [([],s)])) F=v s*(v (aW p (-1))*F []+S v (row.map λk=>([k],((1,1):Int×Int))) F):=by
 have hb:cp p [([],s)]:=λt ht=>by rw[List.mem_singleton.mp ht];exact hs
 have hw:=iB hp row;rw[C5 V hp.nn (ph hp.nn (hp.tn hw) hb),CD V (hp.tn hw) hb,C5 V hp.nn hw];show v (aW p (-1))*(v s*F (ir ([]++[]))+0)+S v (row.map λk=>([k],((1,1):Int×Int))) (λi=>v s*F (ir (i++[]))+0)=_
 have e:S v (row.map λk=>([k],((1,1):Int×Int))) (λi=>v s*F (ir (i++[]))+0)=S v (row.map λk=>([k],((1,1):Int×Int))) (λi=>v s*F i):=by
  induction row with
  |nil=>rfl
  |cons k r ih =>
   show v (1,1)*(v s*F (ir [k])+0)+S v (r.map λk=>([k],((1,1):Int×Int))) _=v (1,1)*(v s*F [k])+S v (r.map λk=>([k],((1,1):Int×Int))) _;rw[ih (iB hp r)];have:ir [k]=[k]:=rfl;rw[this];grind
 rw[e,EG];show v (aW p (-1))*(v s*F []+0)+_=_;grind
theorem uP (V:Val p R v)(hp:FP p){a b:Nat}(h:wc p ((b:Int)-a) s)(F:List Int->R):S v (uU p s a b) F=F []:=by
 have hm:Num p (dj p s).1 (dj p s).2:=gr hp.nn h.num (bN hp (-1))
 have em:v (dj p s) =-v s:=by
  show v (dA p s (aW p (-1)))=_;rw[gC V h.num (bN hp (-1)),oa V hp];grind
 have e1:v s*(v (aW p b)-v (aW p a))=1:=by
  rw[<-Cz V hp,<-gC V h.num (bN hp _),h.one,V.one]
 unfold uU;rw[fE,om,om];rw[gQ (g:=λg=>v s*(v (aW p (-1))*F [])+v s*fZ b (λr=>F [((g*b+r:Nat):Int)])) (λg _=>by rw[yv V hp h.num];unfold fQ;rw[ko V];grind)];rw[gQ (n:=b) (g:=λr=>- v s*(v (aW p (-1))*F []) +-v s*fZ a (λg=>F [((g*b+r:Nat):Int)])) (λr _=>by rw[yv V hp hm,em];unfold fA;rw[ko V];grind)];rw[nJ,nJ,mw V hp,mw V hp,uG,uG,x8,oa V hp];grind
end
theorem yz (hp:FP p){a b:Nat}(hs:Num p s.1 s.2):cp p (uU p s a b):=by
 have hm:Num p (dj p s).1 (dj p s).2:=gr hp.nn hs (bN hp (-1));have g:∀{row:List Int}{s:Int×Int},Num p s.1 s.2->cp p (tg p (dI p (tg p (eF p row)) [([],s)])):=λhs=>hp.tn (ph hp.nn (hp.tn (iB hp _)) λt ht=>by rw[List.mem_singleton.mp ht];exact hs);intro t ht
 rcases List.mem_append.mp ht with ht|ht
 ·obtain⟨r,_,ht⟩:=List.mem_flatMap.mp ht;exact g hs t ht
 ·obtain⟨r,_,ht⟩:=List.mem_flatMap.mp ht;exact g hm t ht
theorem xB (hp:FP p){a b:Nat}(h:wc p ((b:Int)-a) s):tg p (uU p s a b)=tg p [([],(1,1))]:=by
 obtain⟨R,i,v,V⟩:=hp.v
 have h1:cp p [([],((1,1):Int×Int))]:=λt ht=>by rw[List.mem_singleton.mp ht];exact iN hp
 refine BP V hp.nn (yz hp h.num) h1 λF=>?_;rw[uP V hp h];show F []=v (1,1)*F []+0;rw[V.one];grind
abbrev HE:Stmt:=(aL 64)
abbrev DL:Stmt:=(aL 65)
def vO:Sp:=λvs H Q _=>∃(l:Addr)(p:Int)(ys:List V)(ts:List Tm),vs=[.int p,.ref l]/\FP p/\H l=some (.lst ys)/\aX H ys ts/\BY p ts /\
 ∀H' D zs,aA H H'->H D=none->H' D=some (.lst zs)->aX H' zs (gZ (aY p ts))->Q (.ref D) H'
theorem Hh:Av ["_law_row"] ["_law_row"] (aj HE):=dk (by decide +kernel)
theorem sV:Av ["_law_prime_here","_law_terms","_law_found","_law_product","_law_number"] GQ (aj DL):=dk (by decide +kernel)
theorem Eh (F:Ao K "_law_row_key" "_law_row_key" HE f fd)(Iz:mg "len"=none):Ik P w K mg base (aU P w) 1 f fd ["_law_row"] qA:=by
 refine F.okN Hh (λvs H Q E h=>?_) (λIv A outer s H vs Q E hr h=>?_)
 ·obtain⟨a,b,z,xs,rfl,_⟩:=h;rfl
 ·obtain⟨a,b,z,xs,rfl,ha,hb,q⟩:=h;refine⟨_,(aq (az (@bD _ _ _ _ _ (@ao _ _ _ _ _ (aD bu (by rfl) Iz PySem.boot_len (@ao _ _ _ _ _ (@bg _ _ _ _ _ _ _ aZ (pv 0) au (λ_ _=>rfl)) af rfl)) (@ao _ _ _ _ _ (@bg _ _ _ _ _ _ _ aZ (pv 0) au (λ_ _=>rfl)) af rfl) rfl)))),?_⟩;refine⟨_,rfl,a,_,0,_,rfl,rfl,br.of ha,rfl,b,xs,rfl,.inr (br.of hb),_,rfl,a,_,0,_,rfl,rfl,br.of ha,rfl,iT,λt ht=>q t ht⟩
theorem wD {fl fk:Addr}{JO XO:zo}(F:Ao K "_law_gathered" "_law_gathered" DL f fd)(IG:mg "sorted"=none)
 (FLp:Ik P w K mg base (aU P w) 3 fl JO EJ (nW iC))(bLp:L2.ay K JO EJ [])(mLp:mg "_law_plus"=some (.ref fl))(kLp:keepIn K (.ref fl)=true)
 (FRk:Ik P w K mg base (aU P w) 1 fk XO ["_law_row"] qA)(bRk:L2.ay K XO ["_law_row"] [])(mRk:mg "_law_row_key"=some (.ref fk)):
 Ik P w K mg base (aU P w) 4 f fd GQ vO:=by
 refine F.okN sV (λvs H Q E h=>?_) (λIv A outer s H vs Q E hr h=>?_)
 ·obtain⟨l,p,ys,ts,rfl,_⟩:=h;rfl
 ·obtain⟨l,p,ys,ts,rfl,hp,hl,OK,G,q⟩:=h;have h64:=G.len;have hG:=G.num;have JR:p8 3 _:=hr.mono (by decide);have Ux:p8 3 _:=hr.mono (by decide);have hu:=(hr.units:_+64<cLine)
  replace hu:=Nat.lt_of_le_of_lt (Nat.add_le_add_left (by decide:1<=64) _) hu
  refine⟨_,(ak (@aV _ _ 2 _ _ _ _ sV.nd rfl (Or.inr rfl) p9 rfl (Or.inl rfl))
   (ak (dO PassesOwn.never rfl (cC (pv 1)) (de rfl (aR (aE (i:=3) sV.nd rfl (Or.inl rfl)) (aR (aE (i:=4) sV.nd rfl (Or.inl rfl)) cy)))
   (aq (t7 hu (pv 2) (pv 3) (aB FLp JR (by rfl) mLp kLp bLp .nil ae (@ao _ _ _ _ _ (pv 0) (@ao _ _ _ _ _ (abl hu (pv 2) (pv 3) (@bD _ _ _ _ _ (@ao _ _ _ _ _ au (@ao _ _ _ _ _ au af rfl) rfl)) ⟨rfl,rfl,rfl,rfl⟩) (@ao _ _ _ _ _ (pv 4) af rfl) rfl) rfl)) (by rfl))))
   (aq (az (qf FRk Ux bRk (by rfl) IG (by rfl) mRk (ck (N:=["_law_product","_law_found"]) (nl:=1) (js:=[2]) (osc:=aj DL) ⟨rfl,rfl,by decide +kernel,by decide +kernel,by decide +kernel,rfl,(.cons ⟨rfl,by decide +kernel⟩ .nil),by decide +kernel⟩ rfl
    (Bd (pv 2))
    (λCq fq sq Hq=>aE (i:=0) (by show(["_law_product","_law_found"]:zX).Nodup;decide +kernel) rfl (Or.inl rfl) (Or.inr rfl))
    (λCq fq sq Hq=>(iA (@aK _ _ _ _ _ _ _ _ fW (@bg _ _ _ _ _ _ _ (show C8 _ (xv K) from aZ) (oK hu (pv 1) (pv 0) (λ_ _=>rfl)) au (λ_ _=>rfl)) au (aI _))))
    (λCq fq sq Hq=>(@bD _ _ _ _ _ (@ao _ _ _ _ _ (pv 0) (@ao _ _ _ _ _ (oK hu (pv 1) (pv 0) (λ_ _=>rfl)) af rfl) rfl))))))))),?_⟩
  have hlen:=OK.length
  have gg:∀i,i<=ts.length->mh p 4000 (aY p (ts.take i))/\((aY p (ts.take i)).map (·.1)).Nodup/\(aY p (ts.take i)).length<=i:=λi hi=>by
   obtain⟨_,g2,g3⟩:=di (m:=4000) hp i (ts.take i) (by simp;omega) λt ht=>hG t (List.mem_of_mem_take ht);exact⟨G.steps i hi,g2,g3⟩
  have one:∀{n:Nat}{a:Int×Int},Gn p n a->p≠0->a.2=1:=λh z=>(h.1.pr z).1;refine λdd JN=>?_;have s1:aA H (upd H dd (.dT [])):=ar JN;refine⟨_,rfl,l,rfl,⟨ys,bo.of (s1 _ _ hl)⟩,?_⟩;refine gq (xs:=ys) (λi σ' H'=>aA H H'/\(∃Ir,H' dd=some (.dT Ir)/\DR H' Ir (aY p (ts.take i)))/\∃o3 o4,σ'=[some (.int p),some (.ref l),some (.ref dd),o3,o4]) ⟨s1,⟨[],ah,.nil⟩,none,none,rfl⟩ (λi σ' H' _ h=>bo.of (h.1 _ _ hl)) (λi x σ' H2 hx h=>?_) (λσ' H' h=>?_)
  ·obtain⟨sH,⟨Ir,hd,dr⟩,o3,o4,rfl⟩:=h;obtain⟨t,et,tr⟩:=bc OK hx;have hi:i<ts.length:=(List.getElem?_eq_some_iff.mp et).1;obtain⟨gd,KL,gl⟩:=gg i (by omega);obtain⟨a,pr,nu,rfl,ha,Jk,JC⟩:=tr.keep (aH.of sH);have gt:=hG t (List.mem_of_getElem? et)
   have JD:ts.take (i+1)=ts.take i++[t]:=by rw[List.take_add_one,et];rfl
   have JS:∀H3:Hp,aH H2 H3->H3 pr=some (.tup ((jK t.1).map kV)):=λH3 k=>by rw[jn];exact k _ _ Jk
   have KO:Ir.length<sizeLine:=by
    rw[dr.length];exact Nat.lt_of_le_of_lt gl (Nat.lt_trans (Nat.lt_trans hi h64) (by decide))
   have fin:∀(H3:Hp)(an:Addr),aA H2 H3->((aY p (ts.take i)).any (λe=>decide (e.1=t.1))=false->H3 an=some (bA t.2.1 t.2.2))->(∀e∈aY p (ts.take i),e.1=t.1->H3 an=some (bA (cZ p e.2 t.2).1 (cZ p e.2 t.2).2)) →
    aA H (upd H3 dd (.dT (fK Ir (jK t.1) (.ref an))))/\∃KN,(upd H3 dd (.dT (fK Ir (jK t.1) (.ref an)))) dd=some (.dT KN)/\DR (upd H3 dd (.dT (fK Ir (jK t.1) (.ref an)))) KN (aY p (ts.take (i+1))):=by
    intro H3 an s3 Mw Kd;refine⟨λb u e=>by rw[av (ax e JN)];exact s3 b u (sH b u e),_,ah,?_⟩;rw[JD,ja];exact(yY (dr.keep (aH.of s3)) KL Mw Kd).keep (aH.upd λxs z=>by rw[s3 _ _ hd] at z;cases z)
   refine⟨a,_,rfl,br.of ha,rfl,_,_,rfl,_,_,rfl,rfl,?_⟩;refine⟨_,rfl,_,rfl,dd,rfl,.inr ⟨Ir,.inl hd⟩,_,rfl,iT,λt0 UC=>?_⟩;have sZ:aA H2 (upd H2 t0 (.tup [.int 0,.int 1])):=ar UC;refine⟨_,jh.t (sZ _ _ hd) (JS _ (aH.of sZ)),?_⟩
   cases hq:(aY p (ts.take i)).any (λe=>decide (e.1=t.1)) with
   |false =>
    rw[uh t.1 dr hq];refine⟨_,rfl,p,0,1,t.2.1,t.2.2,t0,nu,rfl,hp,ah,sZ _ _ JC,(by unfold B;decide),(by show(1:Nat)<2^4000;exact Nat.one_lt_two_pow (by decide)),gt.2.1,gt.2.2,(by decide),gt.ne,λz=>by rw[one gt z];decide,λH3 an s3 h3=>?_⟩;have ez:cZ p (0,1) t.2=t.2:=vg hp gt;have sA:aA H2 H3:=sZ.trans s3;refine⟨_,rfl,_,rfl,dd,_,rfl,qj.t (sA _ _ hd) (JS _ (aH.of sA)) KO,?_⟩
    obtain⟨f1,f2⟩:=fin H3 an sA (λ_=>by
     have:H3 an=some (bA (cZ p (0,1) t.2).1 (cZ p (0,1) t.2).2):=h3;rw[ez] at this
     exact this) λe he z=>by
     have:(aY p (ts.take i)).any (λe=>decide (e.1=t.1))=true:=List.any_eq_true.mpr ⟨e,he,by simpa using z⟩;rw[hq] at this;cases this
    exact⟨f1,f2,_,_,rfl⟩
   |true =>
    obtain⟨e,he,ek,a0,hv,OL⟩:=lh t.1 dr hq;rw[hv];have ge:=gd e he;refine⟨_,rfl,p,e.2.1,e.2.2,t.2.1,t.2.2,a0,nu,rfl,hp,sZ _ _ OL,sZ _ _ JC,ge.2.1,ge.2.2,gt.2.1,gt.2.2,ge.ne,gt.ne,λz=>by rw[one gt z,one ge z];decide,λH3 an s3 h3=>?_⟩;have sA:aA H2 H3:=sZ.trans s3;refine⟨_,rfl,_,rfl,dd,_,rfl,qj.t (sA _ _ hd) (JS _ (aH.of sA)) KO,?_⟩
    obtain⟨f1,f2⟩:=fin H3 an sA (λz=>by rw[hq] at z;cases z) λe' KH z=>by
     have:e'=e:=ip KL KH he (z.trans ek.symm);subst this;exact h3
    exact⟨f1,f2,_,_,rfl⟩
  ·obtain⟨sH,⟨Ir,hd,dr⟩,o3,o4,rfl⟩:=h;obtain⟨gd,KL,gl⟩:=gg ts.length (Nat.le_refl _);rw[hlen] at dr;rw[List.take_length] at dr gd KL gl;refine⟨_,rfl,dd,Ir,rfl,.inr ⟨hd,λo=>?_⟩⟩
   have sF:aA H (upd H' dd (oZ o Ir)):=λb u e=>by rw[av (ax e JN)];exact sH b u e
   have Uy:DR (upd H' dd (oZ o Ir)) Ir (aY p ts):=dr.keep (aH.upd λxs z=>by rw[hd] at z;cases z);have kl:Ir.length=(aY p ts).length:=dr.length
   refine⟨λi m xs σ' H2=>m=(aY p ts).length-i/\i<=(aY p ts).length/\aA H H2/\H2 dd=some (oZ o Ir)/\DR H2 Ir (aY p ts)/\aX H2 xs (((aY p ts).take i).filter λe=>e.2.1 != 0)/\∃o1,σ'=[o1,some (.ref dd)],
    ⟨(aY p ts).length,by simp,Nat.zero_le _,sF,ah,Uy,.nil,none,rfl⟩,?_⟩
   rintro i m' xs σ' H2 ⟨rfl,hi2,s2,hd2,LQ,Kb,o1,rfl⟩
   have xl:xs.length<=(aY p ts).length:=by
    rw[Kb.length];exact Nat.le_trans (List.length_filter_le _ _) (by simp;omega)
   refine⟨Nat.lt_of_le_of_lt (Nat.le_trans xl gl) (Nat.lt_trans h64 (by decide)),?_⟩
   by_cases KP:i<(aY p ts).length
   ·refine .inr ⟨⟨by omega,hd2⟩,λx H3 hx=>?_⟩;obtain⟨b,k,v,hk,hb,rfl,rfl⟩:=hx;obtain⟨e,ee,ek,_⟩:=bc LQ hk;have ek:k=jK e.1:=ek;subst ek;have he:=List.mem_of_getElem? ee
    have JD:(aY p ts).take (i+1)=(aY p ts).take i++[e]:=by rw[List.take_add_one,ee];rfl
    obtain⟨e',KH,ek',a,hv,ha⟩:=lh e.1 LQ (List.any_eq_true.mpr ⟨e,he,by simp⟩);have:e'=e:=ip KL KH he ek';subst this;have dg:jh H3 dd (.ref b) (some (.ref a)):=.inr ⟨Ir,jK e'.1,b,.inr ⟨o,hd2⟩,rfl,hb,hv.symm⟩;have IS:=hb;rw[jn] at IS;refine⟨_,rfl,_,rfl,dd,.ref a,rfl,dg,a,_,0,_,rfl,rfl,br.of ha,rfl,rfl,_,rfl,?_⟩
    cases hz:(e'.2.1 != 0) with
    |true =>
     have z:(!decide (V.int e'.2.1=V.int 0))=true:=by
      have:e'.2.1≠0:=by simpa using hz
      simp[this]
     rw[z];refine b0 ⟨_,rfl,_,rfl,_,rfl,dd,.ref a,rfl,dg,iT,λt' Uz=>?_⟩;have sA:aA H3 (upd H3 t' (.tup [.ref b,.ref a])):=ar Uz;refine⟨(aY p ts).length-(i+1),by omega,rfl,KP,s2.trans sA,sA _ _ hd2,LQ.keep (aH.of sA),?_,_,rfl⟩;rw[JD,List.filter_append]
     have ef:[e'].filter (λe=>e.2.1 != 0)=[e']:=by simp[hz]
     rw[ef];exact Paired.snoc (aX.keep Kb (aH.of sA)) ⟨t',b,a,rfl,ah,sA _ _ IS,sA _ _ ha⟩
    |false =>
     have z:(!decide (V.int e'.2.1=V.int 0))=false:=by
      have:e'.2.1=0:=by simpa using hz
      simp[this]
     rw[z];refine bw ⟨(aY p ts).length-(i+1),by omega,rfl,KP,s2,hd2,LQ,?_,_,rfl⟩;rw[JD,List.filter_append]
     have ef:[e'].filter (λe=>e.2.1 != 0)=[]:=by simp[hz]
     rw[ef,List.append_nil];exact Kb
   ·have UA:i=(aY p ts).length:=by omega
    subst UA;refine .inl ⟨⟨by omega,hd2⟩,λD hD=>?_⟩;rw[List.take_length] at Kb;have sD:aA H2 (upd H2 D (.lst xs)):=ar hD;refine⟨D,xs,rfl,bo.of ah,Nat.lt_of_le_of_lt xl G.few,?_⟩;refine jl (aX.keep Kb (aH.of sD)) λks H3 s3 hk=>?_;refine⟨_,j3 hk,tT KL _,λD2 NK=>?_⟩;have sE:aA H3 (upd H3 D2 (.lst ((dQ ((((aY p ts).filter λe=>e.2.1 != 0).map fX).zip xs)).map (·.2)))):=ar NK;refine q _ D2 _ (λc u e=>sE _ _ (s3 _ _ (sD _ _ (s2 _ _ e)))) (none_of (λc u e=>s3 _ _ (sD _ _ (s2 _ _ e))) NK) ah ?_;have UB:aX H3 xs ((aY p ts).filter λe=>e.2.1 != 0):=aX.keep Kb (aH.of λc u e=>s3 _ _ (sD _ _ e));exact aX.keep (kJ (ie (kK UB))) (aH.of sE)
abbrev oE:Stmt:=aJ (aL 38) 0
def CP (ks:List Int):Prop:=kr (some (ks.map V.int))=true/\ks.length<4000
theorem sC {t b:Int}(n:Num p t b):rP p (some (.int t,.int b))=true:=by
 unfold rP;dsimp only
 by_cases z:p=0
 ·rw[if_pos z,n.red];have:=n.pos;simp;omega
 ·rw[if_neg z];obtain⟨h1,h2,h3⟩:=n.pr z;simp[h1,h2,h3]
theorem Fk {y:V}{t:Tm}(h:DW H y t)(g:Gn p n t.2)(pd:CP t.1):qV p H y true:=by
 obtain⟨a,pr,nu,rfl,ha,Jk,JC⟩:=h
 have e:qV p H (.ref a) (kr (some (t.1.map V.int))&&rP p (some (.int t.2.1,.int t.2.2))):=.two ha (.tup Jk (by rw[List.length_map];exact pd.2) λy hy=>by
  obtain⟨k,_,rfl⟩:=List.mem_map.mp hy
  exact⟨_,.int k⟩) (.two JC (.int _) (.int _))
 rw[pd.1,sC g.1] at e;exact e
theorem zw :∀{ys:List V}{ts:List Tm},aX H ys ts->(∀t∈ts,Gn p n t.2/\CP t.1)->∀y∈ys,qV p H y true
 |_,_,.nil,_,y,hy=>nomatch hy
 |_,_,.cons h t,g,y,hy=>by
  rcases List.mem_cons.mp hy with rfl|hy
  ·exact Fk h (g _ List.mem_cons_self).1 (g _ List.mem_cons_self).2
  ·exact zw t (λt ht=>g t (List.mem_cons_of_mem _ ht)) y hy
structure Hf (K:Frag)(mg:xf)(C:Addr):Prop where
 cl:Ig K C
 nF:da K C "its_field"
 nT:da K C "its_terms"
 mgC:mg "Sum"=some (.ref C)
def qp (fl D:Addr):List (Str×V):=[("its_field",.ref fl),("its_terms",.ref D)]
def iM (C CF:Addr):Sp:=λvs H Q _=>∃(s dx fl Iu:Addr)(p:Int)(x:V)(ts:List Tm),vs=[.ref s,.ref fl,x]/\H s=some (.ins C dx [])/\H fl=some (.ins CF Iu (cE p))/\FP p /\
 ((x=.non/\ts=[])\/∃l ys,x=.ref l/\H l=some (.lst ys)/\aX H ys ts)/\BY p ts/\(∀t∈ts,CP t.1) /\
 ∀H' D zs,SameBut s H H'->H D=none->H' s=some (.ins C dx (qp fl D))->H' D=some (.lst zs)->aX H' zs (gZ (aY p ts))->Q .non H'
theorem AK:Av vB vB (aj oE):=dk (by decide +kernel)
theorem xG {fg fc C CF T:Addr}{IY KQ:zo}(F:EX K "__init__" "Sum.__init__" oE f fd T)(c:Hf K mg C)
 (FG:Ik P w K mg base (aU P w) 5 fg IY D1 (oo CF))(bG:L2.ay K IY D1 [])(mG:mg "gathered"=some (.ref fg))(kG:keepIn K (.ref fg)=true)
 (FC:Ik P w K mg base (aU P w) 5 fc KQ D1 (my CF))(bC:L2.ay K KQ D1 [])(mC:mg "checked_terms"=some (.ref fc))(kC:keepIn K (.ref fc)=true):
 Ik P w K mg base (aU P w) 6 f fd vB (iM C CF):=by
 refine F.okE AK (λvs H Q E h=>?_) (λIv A outer s H vs Q E hr h=>?_)
 ·obtain⟨s,dx,fl,Iu,p,x,ts,rfl,_⟩:=h;rfl
 ·obtain⟨s0,dx,fl,Iu,p,x,ts,rfl,hs,hf,hp,hx,G,hP,q⟩:=h;have hG:∀t∈ts,Gn p 4000 t.2/\CP t.1:=λt ht=>⟨G.num t ht,hP t ht⟩;have Kt:p8 5 _:=hr.mono (by decide);refine⟨_,ak (gF (pv 0) (pv 1) rfl) (aq (gF (pv 0) (aB FG Kt (by rfl) mG kG bG .nil ae (@ao _ _ _ _ _ (pv 1) (@ao _ _ _ _ _ (aB FC Kt (by rfl) mC kC bC .nil ae (@ao _ _ _ _ _ (pv 1) (@ao _ _ _ _ _ (pv 2) af rfl) rfl)) af rfl) rfl)) rfl)),?_⟩;refine⟨_,rfl,_,rfl,s0,C,dx,_,rfl,hs,c.cl,c.nF,by decide,?_⟩
  have Lq:fl≠s0:=λz=>by
   rw[z,hs] at hf
   injection hf with hf
   injection hf with _ _ hf
   cases hf
  have UD:upd H s0 (.ins C dx (cG "its_field" (.ref fl) [])) fl=some (.ins CF Iu (cE p)):=by rw[av Lq];exact hf
  have kT:aH H (upd H s0 (.ins C dx (cG "its_field" (.ref fl) []))):=aH.upd λxs z=>by rw[hs] at z;cases z
  have fin:∀(H2:Hp)(l:Addr)(ys:List V),aA (upd H s0 (.ins C dx (cG "its_field" (.ref fl) []))) H2->H2 l=some (.lst ys)->aX H2 ys ts->oo CF [.ref fl,.ref l] H2 (λy H1=>eP 0 [some (.ref s0),some (.ref fl),some x] H1 λx2 H2=>∃a C dx fs,x2=.ref a/\H2 a=some (.ins C dx fs)/\Ig K C/\da K C "its_terms"/\fs.length<1000 /\
   Q .non (upd H2 a (.ins C dx (cG "its_terms" y fs)))) λ_ _ _=>False:=by
   intro H2 l ys s2 hl ht;refine⟨fl,Iu,l,p,ys,ts,rfl,s2 _ _ UD,hp,hl,ht,G,λH3 D zs s3 h0 hD hz=>?_⟩;have MP:H3 s0=some (.ins C dx (cG "its_field" (.ref fl) [])):=s3 _ _ (s2 _ _ ah);refine⟨_,rfl,s0,C,dx,_,rfl,MP,c.cl,c.nT,(by show 1<1000;decide),?_⟩
   have nD:D≠s0:=λz=>by rw[z,MP] at hD;cases hD
   refine q _ D zs (λb u e nb=>?_) (none_of (λc u e=>e) (by
    cases e:H D with
    |none=>rfl
    |some u=>rw[s2 D u (by rw[av nD];exact e)] at h0;cases h0)) ah (by rw[av nD];exact hD) (aX.keep hz (aH.upd λxs z=>by rw[MP] at z;cases z))
   rw[av nb];exact s3 _ _ (s2 _ _ (by rw[av nb];exact e))
  rcases hx with⟨rfl,rfl⟩|⟨l,ys,rfl,hl,ht⟩
  ·refine⟨_,rfl,_,rfl,_,rfl,fl,Iu,p,.non,rfl,UD,hp,.inl ⟨rfl,λl hl=>?_⟩⟩;exact fin _ l [] (ar hl) ah .nil
  ·have nl:l≠s0:=λz=>by rw[z,hs] at hl;cases hl
   have Ja:upd H s0 (.ins C dx (cG "its_field" (.ref fl) [])) l=some (.lst ys):=by rw[av nl];exact hl
   have JT:=aX.keep ht kT;refine⟨_,rfl,_,rfl,_,rfl,fl,Iu,p,.ref l,rfl,UD,hp,.inr ⟨l,ys,rfl,Ja,?_,zw JT hG,λH2 s2=>?_⟩⟩
   ·rw[ht.length];have:=G.len;omega
   ·exact fin _ l ys s2 (s2 _ _ Ja) (aX.keep JT (aH.of s2))
end K73
namespace Mx
open PySem PyProof.Rows
def jJ:Option Int->List Int->Option Int
 |b,[]=>b
 |none,n::ns=>jJ (some n) ns
 |some m,n::ns=>jJ (some (if n>m then n else m)) ns
def kept (c:Nat):Option (Int×Tok)->Obj
 |none=>{cls:=.type "list",dict:=none,data:=.seq #[] c,slots:=#[]}
 |some (m,t)=>{cls:=.type "list",dict:=none,data:=.seq #[.int m t,.int m t] c,slots:=#[]}
section
variable {prog:yn}{w:World}{A:Around}{E:yj}{s:Dx}{R:Result->Shared->Prop}
theorem A8 {a b:Int}{t u:Tok}{Q:yj}(h:Q (.bool (decide (a>b))) s):wpAny (model prog w) A (richCompare .Gt (.int a t) (.int b u)) Q E s :=
 CmpOf.ints_gt (P:=λi v=>∃t,v=.int (if i=0 then a else b) t) (λi=>if i=0 then a else b) (λ{_ _} h=>h) 0 1 _ _ s Q E ⟨t,by simp⟩ ⟨u,by simp⟩ (by simpa using h)
theorem CV (a v:Value):argsOk "max" ⟨[a],[(Str.ofString "default",v)]⟩:=by unfold argsOk;kernel_rfl
theorem kb {I l S:Addr}{items:GV}{d:Value}(hh:A.handled=none)(LS:S≠I)(ON:S≠l)(NL:l≠I):∀(ns:List Int)(i:Nat)(s:Dx)(b:Option (Int×Tok))(c:Nat),
 s.heap.IsListIter I l i->s.heap.IsList l items->IntsAre (items.toList.drop i) ns->s.heap.get? S=some (kept c b) →
 (∀v h' tk,(match jJ (b.map (·.1)) ns with|none=>v=d|some m=>∃t,v=.int m t)->(∀x o,x≠I->x≠S->s.heap.get? x=some o->h'.get? x=some o)->R (.ok (.ret v)) {s with heap:=h',toks:=tk}) →
 codeAny (model prog w) A (.builtin "max.loop" ⟨[.ref I,.none,.ref S],[(Str.ofString "default",d)]⟩) R s
 |[],i,s,b,c,hit,hl,hn,hS,hR=>by
  have hx:items[i]?=none:=by
   have e:items.toList.drop i=[]:=by cases hq:items.toList.drop i with
    |nil=>rfl
    |cons x r=>rw[hq] at hn;cases hn
   have:=List.drop_eq_nil_iff.mp e;simp at this |-;omega
  refine codeAny_builtin F.entry_max_loop ?_;rw[Around.under_plainId F.plain_max_loop _]
  cases b with
  |none =>
   show wpAny _ A.in1 (seqItems? (.ref S)>>=_) _ _ s;refine wpAny_bind (wpAny_seqItems hS rfl ?_);show wpAny _ A.in1 (tryCatch (pyNext (.ref I)) _>>=_) _ _ s;refine wpAny_bind (wpAny_tryCatch (wpAny_pyNext_list_end hh hit hl hx λh' eb=>?_));refine wpAny_bind (wpAny_rule (wpAny_pure ?_));exact hR d h' s.toks rfl λx o h1 _ e=>eb x o h1 e
  |some p =>
   obtain⟨m,t⟩:=p;show wpAny _ A.in1 (seqItems? (.ref S)>>=_) _ _ s;refine wpAny_bind (wpAny_seqItems hS rfl ?_);show wpAny _ A.in1 (tryCatch (pyNext (.ref I)) _>>=_) _ _ s;refine wpAny_bind (wpAny_tryCatch (wpAny_pyNext_list_end hh hit hl hx λh' eb=>?_));have LU:=eb S _ LS hS;show wpAny _ A.in1 (updateSeq S (λ_=>#[])>>=_) _ _ _;refine wpAny_bind (wpAny_updateSeq LU rfl (wpAny_bind (wpAny_letGo (wpAny_pure ?_))));exact hR _ _ s.toks ⟨t,rfl⟩ λx o h1 h2 e=>(Heap.get?_update_other _ _ (Ne.symm h2)).trans (eb x o h1 e)
 |n::ns,i,s,b,c,hit,hl,hn,hS,hR=>by
  have JU:(toString "max"++toString ".loop":String)="max.loop":=by decide
  obtain⟨t,hx,Mr⟩:∃t,items[i]?=some (.int n t)/\IntsAre (items.toList.drop (i+1)) ns:=by
   cases hq:items.toList.drop i with
   |nil=>rw[hq] at hn;cases hn
   |cons x r =>
    rw[hq] at hn
    cases hn with
    |cons _ t hr =>
     refine⟨t,?_,?_⟩
     ·have:(items.toList.drop i)[0]?=some (Value.int n t):=by rw[hq];rfl
      simpa using this
     ·have:items.toList.drop (i+1)=(items.toList.drop i).drop 1:=by rw[List.drop_drop,Nat.add_comm]
      rw[this,hq];exact hr
  refine codeAny_builtin F.entry_max_loop ?_;rw[Around.under_plainId F.plain_max_loop _]
  cases b with
  |none =>
   show wpAny _ A.in1 (seqItems? (.ref S)>>=_) _ _ s;refine wpAny_bind (wpAny_seqItems hS rfl ?_);show wpAny _ A.in1 (tryCatch (pyNext (.ref I)) _>>=_) _ _ s;refine wpAny_bind (wpAny_tryCatch (wpAny_pyNext_list_item hit hl hx λh' Lz sb=>?_));have LU:=(sb.2 S LS).trans hS;show wpAny _ A.in1 (updateSeq S (λ_=>#[.int n t,.int n t])>>=_) _ _ _;refine wpAny_bind (wpAny_updateSeq LU rfl ?_);rw[JU];refine wpAny_pure ⟨plainId_quiet F.plain_max_loop _,?_⟩;have up:∀x o,x≠S->h'.get? x=some o->(h'.update S (Obj.mapSeq λ_=>#[.int n t,.int n t])).get? x=some o:=λx o hx e=>(Heap.get?_update_other _ _ (Ne.symm hx)).trans e;refine kb hh LS ON NL ns (i+1) _ (some (n,t)) _ (Lz.at λo e=>up I o (Ne.symm LS) e) ((hl.extBut sb.extBut NL).at λo e=>up l o (Ne.symm ON) e) Mr (Heap.get?_update_self _ LU rfl) λv h2 tk hv hk=>?_;exact hR v h2 tk hv λx o h1 h3 e=>hk x o h1 h3 (up x o h3 ((sb.2 x h1).trans e))
  |some p =>
   obtain⟨m,u⟩:=p;show wpAny _ A.in1 (seqItems? (.ref S)>>=_) _ _ s;refine wpAny_bind (wpAny_seqItems hS rfl ?_);show wpAny _ A.in1 (tryCatch (pyNext (.ref I)) _>>=_) _ _ s;refine wpAny_bind (wpAny_tryCatch (wpAny_pyNext_list_item hit hl hx λh' Lz sb=>?_));have LU:=(sb.2 S LS).trans hS;show wpAny _ A.in1 (tryCatch (holding [.int n t,.int n t] (richCompare .Gt (.int n t) (.int m u)>>=_)) _>>=_) _ _ _;refine wpAny_bind (wpAny_tryCatch (wpAny_holding (wpAny_bind (A8 ?_))));refine wpAny_bind (wpAny_holding (wpAny_truthy_bool ?_));refine wpAny_bind (wpAny_letGo (wpAny_pure ?_))
   by_cases hb:n>m
   ·simp only[decide_eq_true hb,if_true];refine wpAny_bind (wpAny_updateSeq LU rfl (wpAny_bind (wpAny_letGo ?_)));rw[JU];refine wpAny_pure ⟨plainId_quiet F.plain_max_loop _,?_⟩;have up:∀x o,x≠S->h'.get? x=some o->(h'.update S (Obj.mapSeq λ_=>#[.int n t,.int n t])).get? x=some o:=λx o hx e=>(Heap.get?_update_other _ _ (Ne.symm hx)).trans e;refine kb hh LS ON NL ns (i+1) _ (some (n,t)) _ (Lz.at λo e=>up I o (Ne.symm LS) e) ((hl.extBut sb.extBut NL).at λo e=>up l o (Ne.symm ON) e) Mr (Heap.get?_update_self _ LU rfl) λv h2 tk hv hk=>?_;refine hR v h2 tk ?_ λx o h1 h3 e=>hk x o h1 h3 (up x o h3 ((sb.2 x h1).trans e));simpa only[Option.map_some,jJ,if_pos hb] using hv
   ·simp only[decide_eq_false hb,Bool.false_eq_true,if_false];refine wpAny_bind (wpAny_letGo ?_);rw[JU];refine wpAny_pure ⟨plainId_quiet F.plain_max_loop _,?_⟩;refine kb hh LS ON NL ns (i+1) _ (some (m,u)) c Lz (hl.extBut sb.extBut NL) Mr LU λv h2 tk hv hk=>?_;refine hR v h2 tk ?_ λx o h1 h3 e=>hk x o h1 h3 ((sb.2 x h1).trans e);simpa only[Option.map_some,jJ,if_neg hb] using hv
theorem AX {id:String}{b:Builtin}{args:oH}{kw:List (Str×Value)}{Q:yj}(hk:builtinKind id=none)(hp:plainId id=true)(hb:entryFor table id=some b)(ha:argsOk id ⟨args,kw⟩)
 (hc:wpAny (model prog w) A.in1 (b ⟨args,kw⟩) (λfin s'=>match fin with
  | .done f=>(match (Except.ok f:Result) with| .ok (.ret v)=>Q v s'| .ok _=>False| .error e=>E e s')
  | .again c'=>c'.quiet=true/\codeAny (model prog w) A c' (λr s'=>match r with| .ok (.ret v)=>Q v s'| .ok _=>False| .error e=>E e s') s') E s):
 wpAny (model prog w) A (call (.builtin id) args kw) Q E s:=by
 refine wpAny_call (codeAny_call_builtin hp hb ?_);simp only[checkBuiltinCall,hk]
 cases UE:Manifest.signature? id with
 |none=>exact wpAny_pure hc
 |some BK =>
  have ML:Bind.checkArgs id BK ⟨args,kw⟩=pure ():=by simpa only[argsOk,UE] using ha
  simp only[ML];exact wpAny_pure hc
theorem Cw {l:Addr}{items:GV}{ns:List Int}{d:Value}{Q:yj}(hh:A.handled=none)(hl:s.heap.IsList l items)(hn:IntsAre items.toList ns)
 (hQ:∀v h' tk,(match jJ none ns with|none=>v=d|some m=>∃t,v=.int m t)->(∀x o,s.heap.get? x=some o->h'.get? x=some o)->Q v {s with heap:=h',toks:=tk}):
 wpAny (model prog w) A (call (.builtin "max") [.ref l] [(Str.ofString "default",d)]) Q E s:=by
 have JU:(toString "max"++toString ".loop":String)="max.loop":=by decide
 refine AX F.kind_max F.plain_max F.entry_max (CV _ _) ?_;show wpAny _ A.in1 (Builtin.Builtins.bindParams "max" ["key","default"] 0 ⟨[],[(Str.ofString "default",d)]⟩>>=_) _ _ s;refine wpAny_bind (wpAny_of_eq (show Builtin.Builtins.bindParams "max" ["key","default"] 0 ⟨[],[(Str.ofString "default",d)]⟩=pure [none,some d] from rfl) ?_);refine wpAny_bind (wpAny_pure ?_);refine wpAny_bind (wpAny_pyIter_list hl ?_);refine wpAny_bind (wpAny_newObj_type ?_);rw[JU]
 have lt:l<s.heap.objs.size:=by obtain⟨o,e,_⟩:=hl;exact Heap.lt_size e
 have sz:(s.heap.push {cls:=.type "list_iterator",data:=.fields #[.ref l,.int 0 0]}).objs.size=s.heap.objs.size+1:=Heap.size_push ..;have g2:∀x o,s.heap.get? x=some o->((s.heap.push {cls:=.type "list_iterator",data:=.fields #[.ref l,.int 0 0]}).push {cls:=.type "list",data:=.seq #[]}).get? x=some o:=λx o e=>Heap.get?_push_of_some _ (Heap.get?_push_of_some _ e);refine wpAny_pure ⟨plainId_quiet F.plain_max_loop _,kb (items:=items) hh ?_ ?_ (Nat.ne_of_lt lt) ns 0 _ none 0 ⟨_,Heap.get?_push_of_some _ (Heap.get?_push_size _ rfl),rfl,rfl⟩ (hl.at λo e=>g2 l o e) (by simpa using hn) (Heap.get?_push_size _ rfl) λv h' tk hv hk=>?_⟩
 ·show(s.heap.push _).objs.size≠s.heap.objs.size;rw[sz];exact Nat.succ_ne_self _
 ·show(s.heap.push _).objs.size≠l;rw[sz];exact Nat.ne_of_gt (Nat.lt_succ_of_lt lt)
 ·refine hQ v h' tk hv λx o e=>hk x o (Nat.ne_of_lt (Heap.lt_size e)) ?_ (g2 x o e);show x≠(s.heap.push _).objs.size;rw[sz];exact Nat.ne_of_lt (Nat.lt_succ_of_lt (Heap.lt_size e))
end
end Mx
namespace L2
open PySem PySem.Spec PyProof.Rows PySem.W
section
variable {X:Cx}{e d:Expr}{ta td:TE}{p kpos pos:Pos}
def Er (K:Frag)(ta td:TE):TE:=λσ H Q=>dn ta An σ H λvs H1=>dn td An σ H1 λds H2=>∃(l:Addr)(ns:List Int)(dv:V),vs=[.ref l]/\ds=[dv]/\bo K H2 l (ns.map V.int)/\Q (match Mx.jJ none ns with|none=>dv|some m=>.int m) H2
theorem zY (ha:PE X e ta)(hd:PE X d td)(hc:X.calm=true)(hg:Gl X "max")(hm:X.mg "max"=none)(hs:eO e=false:=by rfl):PE X (.Call (.Name "max" p) [e] [⟨some "default",d,kpos⟩] pos) (Er X.K ta td):=by
 intro pins s σ H Q I h;refine wpAny_Call_Name_kw (cN I hg hm (by rfl) ?_ (by decide) (by decide));refine callWith_builtin_kwB (by rw[aO hs];rfl) rfl (evalArgs_kw2 rfl ?_ (aO hs));refine bK (ao ha af hs pos pins s σ H _ I h) λus s1 z'=>?_;obtain⟨vs,H1,I1,r1,h1⟩:=z';refine bK (acE (nm:=some "default") (kpos:=kpos) hd acD pos pins s1 σ H1 _ I1 h1) λws s2 z'=>?_;obtain⟨ds,H2,I2,r2,l,ns,dv,e1,e2,hl,q⟩:=z';subst e1 e2;obtain⟨u,rfl,ru⟩:=fY r1
 cases(show u=Value.ref l from ru)
 obtain⟨w',rfl,Jg⟩:=fY r2;obtain⟨its,rv,pl,hz⟩:=I2.list hl;show wpAny _ X.A (call (.builtin "max") [.ref l] [(Str.ofString "default",w')]) _ _ s2;refine Mx.Cw (I.ok.hd hc) pl.isList (by simpa using gD rv) λv h' tk hv hk=>?_;refine⟨_,H2,I2.kept (t':=tk) hk,?_,q⟩
 cases hb:Mx.jJ none ns with
 |none=>rw[hb] at hv;cases hv;exact Jg
 |some m=>rw[hb] at hv;obtain⟨t,rfl⟩:=hv;exact⟨t,rfl⟩
end
theorem mE:∀(ns:List Int)(m:Int),∃b,Mx.jJ (some m) ns=some b/\(b=m\/b∈ns)/\m<=b/\∀a∈ns,a<=b
 |[],m=>⟨m,rfl,.inl rfl,Int.le_refl _,λa h=>nomatch h⟩
 |n::ns,m=>by
  obtain⟨b,h1,h2,h3,h4⟩:=mE ns (if n>m then n else m);refine⟨b,h1,?_,?_,λa ha=>?_⟩
  ·rcases h2 with q|q
   ·by_cases z:n>m
    ·rw[if_pos z] at q;exact .inr (by simp[q])
    ·rw[if_neg z] at q;exact .inl q
   ·exact .inr (List.mem_cons_of_mem _ q)
  ·split at h3 <;> omega
  ·rcases List.mem_cons.mp ha with rfl|ha
   ·split at h3 <;> omega
   ·exact h4 a ha
theorem jf {ns:List Int}(h:ns≠[]):∃b,Mx.jJ none ns=some b/\b∈ns/\∀a∈ns,a<=b:=by
 cases ns with
 |nil=>exact absurd rfl h
 |cons n ns =>
  obtain⟨b,h1,h2,h3,h4⟩:=mE ns n;refine⟨b,h1,?_,λa ha=>?_⟩
  ·rcases h2 with q|q
   ·simp[q]
   ·exact List.mem_cons_of_mem _ q
  ·rcases List.mem_cons.mp ha with rfl|ha
   ·exact h3
   ·exact h4 a ha
end L2
namespace K73
open PySem L2 PySem.W Nm Srt
abbrev tL:Stmt:=aJ (aL 38) 5
abbrev sW:Stmt:=aJ (aL 38) 6
abbrev rV:Stmt:=aJ (aL 38) 8
structure Bj (C CF:Addr)(H:Hp)(s:Addr)(p:Int)(ts:List Tm):Prop where
 ex:∃dx fl Iu D zs,H s=some (.ins C dx (qp fl D))/\H fl=some (.ins CF Iu (cE p))/\H D=some (.lst zs)/\aX H zs ts
def kc (C CF:Addr):Sp:=λvs H Q _=>∃(s dx fl D:Addr),vs=[.ref s]/\H s=some (.ins C dx (qp fl D))/\Q (.ref fl) H
def j6 (C CF:Addr):Sp:=λvs H Q _=>∃(s dx fl D:Addr)(zs:List V),vs=[.ref s]/\H s=some (.ins C dx (qp fl D))/\H D=some (.lst zs)/\∀l,H l=none->Q (.ref l) (upd H l (.lst zs))
theorem yt:Av ["self"] ["self"] (aj tL):=dk (by decide +kernel)
theorem wX:Av ["self"] ["self"] (aj sW):=dk (by decide +kernel)
variable {P:yn}{w:World}{K:PySem.W.Frag}{mg:xf}{base:Heap}
variable {f C:Addr}{fd:zo}
theorem vA {CF:Addr}(F:Ao K "field" "Sum.field" tL f fd)(c:Hf K mg C):Ik P w K mg base (aU P w) 1 f fd ["self"] (kc C CF):=by
 refine F.okN yt (λvs H Q E h=>?_) (λIv A outer s H vs Q E hr h=>?_)
 ·obtain⟨s,dx,fl,D,rfl,_⟩:=h;rfl
 ·obtain⟨s0,dx,fl,D,rfl,hs,q⟩:=h;exact⟨_,aq (az (bO (pv 0) rfl)),_,rfl,s0,C,dx,_,_,rfl,hs,c.cl,c.nF,rfl,q⟩
theorem vY {CF:Addr}(F:Ao K "terms" "Sum.terms" sW f fd)(c:Hf K mg C)(Iw:mg "list"=none):Ik P w K mg base (aU P w) 1 f fd ["self"] (j6 C CF):=by
 refine F.okN wX (λvs H Q E h=>?_) (λIv A outer s H vs Q E hr h=>?_)
 ·obtain⟨s,dx,fl,D,zs,rfl,_⟩:=h;rfl
 ·obtain⟨s0,dx,fl,D,zs,rfl,hs,hD,q⟩:=h;refine⟨_,aq (az (dF dR (by rfl) Iw (by rfl) (@ao _ _ _ _ _ (bO (pv 0) rfl) af rfl))),?_⟩;exact⟨_,rfl,s0,C,dx,_,_,rfl,hs,c.cl,c.nT,rfl,D,zs,rfl,.inl (bo.of hD),λl hl=>q l hl⟩
abbrev zx:Stmt:=(aL 39)
theorem Bi (p:Int):BY p []:=⟨by decide,λt h=>(nomatch h),λi hi e he=>by
 have:aY p (([]:List Tm).take i)=[]:=by simp[aY]
 rw[this] at he
 exact(nomatch he),Nat.zero_lt_succ 63⟩
def rf (C CF:Addr)(H0 H:Hp)(s:Addr)(p:Int)(ts:List Tm):Prop:=∃dx fl Iu D zs,H s=some (.ins C dx (qp fl D))/\H fl=some (.ins CF Iu (cE p))/\H D=some (.lst zs)/\aX H zs ts/\H0 D=none
variable {CF s:Addr}{H:Hp}{p:Int}{ts:List Tm}
theorem rf.r {H0:Hp}(h:rf C CF H0 H s p ts):Bj C CF H s p ts:=let⟨dx,fl,Iu,D,zs,h1,h2,h3,h4,_⟩:=h;⟨dx,fl,Iu,D,zs,h1,h2,h3,h4⟩
variable {H':Hp}
theorem Bs {a:Addr}(s:aA H H')(h:H' a=none):H a=none:=by
 cases z:H a with
 |none=>rfl
 |some o=>rw[s _ _ z] at h;cases h
theorem rf.of {H0 H1:Hp}(h:rf C CF H1 H s p ts)(k:aA H0 H1):rf C CF H0 H s p ts:=let⟨dx,fl,Iu,D,zs,h1,h2,h3,h4,h5⟩:=h;⟨dx,fl,Iu,D,zs,h1,h2,h3,h4,Bs k h5⟩
def sN (C CF:Addr):Sp:=λvs H Q _=>∃(fl Iu l:Addr)(p:Int)(ys:List V)(ts:List Tm),vs=[.ref fl,.ref l]/\H fl=some (.ins CF Iu (cE p))/\FP p/\H l=some (.lst ys)/\aX H ys ts/\BY p ts/\∀H' s,aA H H'->rf C CF H H' s p (tg p ts)->Q (.ref s) H'
theorem tE:Av ["field","terms","one"] D1 (aj zx):=dk (by decide +kernel)
theorem zT:Av zh zh (aj wI):=dk (by decide +kernel)
theorem xO {fs:Addr}{Kk:zo}(F:Ao K "times" "Field.times" wI f fd)(c:vR K mg C)(FS:Ik P w K mg base (aU P w) 3 fs Kk Cs (jj C))(bS:L2.ay K Kk Cs [])(mS:L2.Meth K C "settled" fs):
 Ik P w K mg base (aU P w) 4 f fd zh (pX C gB):=by
 refine F.okN zT (λvs H Q E h=>?_) (λIv A outer s H vs Q E hr h=>?_)
 ·obtain⟨s,dx,a1,a2,p,t1,b1,t2,b2,rfl,_⟩:=h;rfl
 ·obtain⟨s,dx,x1,x2,p,t1,b1,t2,b2,rfl,hs,hp,h1,h2,B1,B2,B3,B4,n1,n2,q⟩:=h;refine⟨_,aq (az (bY (pv 0) c.cl mS FS hr bS .nil ae (ao (aC bz (bg aZ (pv 1) au (λ_ _=>rfl)) (bg aZ (pv 2) au (λ_ _=>rfl))) (ao (aC bz (bg aZ (pv 1) au (λ_ _=>rfl)) (bg aZ (pv 2) au (λ_ _=>rfl))) af)))),?_⟩;refine⟨_,rfl,s,dx,_,rfl,hs,rfl,?_⟩;refine⟨_,rfl,x1,_,0,_,rfl,rfl,br.of h1,a0 _ _,_,rfl,x2,_,0,_,rfl,rfl,br.of h2,a0 _ _,_,_,rfl,rfl,⟨B1.mono (by decide),B3.mono (by decide)⟩,?_⟩;refine⟨_,rfl,x1,_,1,_,rfl,rfl,br.of h1,a1 _ _,_,rfl,x2,_,1,_,rfl,rfl,br.of h2,a1 _ _,_,_,rfl,rfl,⟨B2.mono (by decide),B4.mono (by decide)⟩,?_⟩;exact⟨s,dx,p,_,_,rfl,hs,hp,(B2.mul B4).mono (by decide),oN n1 n2,q⟩
theorem xM {fg fI:Addr}{IY XQ:zo}(F:Ao K "built" "built" zx f fd)(c:Hf K mg C)(M:Mk K C fI)
 (FI:Ik P w K mg base (aU P w) 6 fI XQ vB (iM C CF))(bI:L2.ay K XQ vB [Value.none])
 (FG:Ik P w K mg base (aU P w) 5 fg IY D1 (oo CF))(bG:L2.ay K IY D1 [])(mG:mg "gathered"=some (.ref fg))(kG:keepIn K (.ref fg)=true):
 Ik P w K mg base (aU P w) 8 f fd D1 (sN C CF):=by
 refine F.okN tE (λvs H Q E h=>?_) (λIv A outer s H vs Q E hr h=>?_)
 ·obtain⟨fl,Iu,l,p,ys,ts,rfl,_⟩:=h;rfl
 ·obtain⟨fl,Iu,l,p,ys,ts,rfl,hf,hp,hl,ht,G,q⟩:=h;have Kt:p8 5 _:=hr.mono (by decide)
  refine⟨_,ak (@aV _ _ 2 _ _ _ _ tE.nd rfl (Or.inl rfl) (gS (dvs:=[.non]) M FI hr (by rfl) c.mgC bI (.cons rfl .nil) ae (@ao _ _ _ _ _ (pv 0) af rfl)) rfl (Or.inl rfl))
   (ak (gF (pv 2) (aB FG Kt (by rfl) mG kG bG .nil ae (@ao _ _ _ _ _ (pv 0) (@ao _ _ _ _ _ (pv 1) af rfl) rfl)) rfl)
   (aq (az (pv 2)))),?_⟩
  refine⟨_,rfl,λx dx hx Ku ne=>?_⟩
  have s0:∀b u,H b=some u->upd (upd H dx (.own x)) x (.ins C dx []) b=some u:=λb u e=>by
   rw[av (ax e hx),av (ax e Ku)];exact e
  refine⟨x,dx,fl,Iu,p,.non,[],rfl,ah,s0 _ _ hf,hp,.inl ⟨rfl,rfl⟩,Bi p,(λt ht=>nomatch ht),λH1 D0 zs0 sb _ OO OM hz0=>⟨rfl,?_⟩⟩;have s1:aA H H1:=λb u e=>sb _ _ (s0 _ _ e) (ax e hx);refine⟨_,rfl,_,rfl,fl,Iu,l,p,ys,ts,rfl,s1 _ _ hf,hp,s1 _ _ hl,aX.keep ht (aH.of s1),G,λH2 D zs s2 nD0 hD hz=>?_⟩;have JJ:=s2 _ _ OO;refine⟨_,rfl,x,C,dx,_,rfl,JJ,c.cl,c.nT,(by show 2<1000;decide),?_⟩
  have nD:D≠x:=λz=>by rw[z,JJ] at hD;cases hD
  have s3:aA H (upd H2 x (.ins C dx (cG "its_terms" (.ref D) (cG "its_terms" (.ref D0) (cG "its_field" (.ref fl) []))))):=λb u e=>by
   rw[av (ax e hx)];exact s2 _ _ (s1 _ _ e)
  exact⟨_,rfl,q _ x s3 ⟨dx,fl,Iu,D,zs,ah,s3 _ _ hf,by rw[av nD];exact hD,aX.keep hz (aH.upd λxs z=>by rw[JJ] at z;cases z),Bs s1 nD0⟩⟩
structure D8 (K:Frag)(mg:xf)(C:Addr):Prop where
 c:Hf K mg C
 isC:((clsIn K C).isSome&&typeIn K (.ref C)==some (.type "type"))=true
 ca:findIn K (.ref C) "__class__"=some (some (.builtin "object.__class__"))
 sp:specialIn K (.builtin "object.__class__") "__get__"=some (some (.builtin "getset_descriptor.__get__"))
 tk:takesIn K (.builtin "object.__class__")=some true
 ob:mroIn K C (.type "object")=some true
variable {K:Frag}{mg:xf}
theorem D8.ty (c:D8 K mg C){p dx:Addr}{fs:List (Str×V)}(e:H p=some (.ins C dx fs)):qF K H (.ref p) (.ref C):=.of (.ins e c.c.cl c.ca c.sp c.tk c.ob)
theorem D8.is (c:D8 K mg C):kitOne K (.ref C) (.ref C)=some true:=by
 unfold kitOne;rw[if_pos (by simp)]
variable {x:V}
theorem D8.no (c:D8 K mg C){T:String}(h:Th H x T):kitOne K (.type T) (.ref C)=some false:=by
 show(if(Value.type T==Value.ref C)=true then some true else(if((clsIn K C).isSome&&typeIn K (.ref C)==some (.type "type"))=true then subIn K (.type T) (.ref C) else none))=some false;rw[if_neg (by intro z;cases beq_iff_eq.mp z),if_pos c.isC]
 cases h <;> rfl
theorem tj :notFirst K C (.ref C)=true:=by unfold notFirst;simp
def zB (t:Tm):D:=.tup [.tup (t.1.map D.int),.tup [.int t.2.1,.int t.2.2]]
theorem BV :∀ns:List Int,ba K H (ns.map D.int) (ns.map V.int)
 |[]=>by unfold ba;rfl
 |n::ns=>by
  show ba K H (.int n::ns.map D.int) (.int n::ns.map V.int);unfold ba;exact⟨_,_,rfl,(by unfold aN;rfl),BV ns⟩
theorem FN:∀ns:List Int,dX (ns.map D.int)=0
 |[]=>by simp[dX]
 |n::ns=>by rw[List.map_cons];unfold dX;rw[FN ns];simp[jB]
theorem AN {y:V}{t:Tm}(h:DW H y t):aN K H (zB t) y:=by
 obtain⟨a,pr,nu,rfl,ha,Jk,JC⟩:=h;unfold zB aN;refine⟨a,_,rfl,br.of ha,?_⟩;unfold ba;refine⟨_,_,rfl,(by unfold aN;exact⟨pr,_,rfl,br.of Jk,BV _⟩),?_⟩;unfold ba;refine⟨_,_,rfl,Ho JC,?_⟩;unfold ba;rfl
theorem pF :∀{ys:List V}{ts:List Tm},aX H ys ts->ba K H (ts.map zB) ys
 |_,_,.nil=>by unfold ba;rfl
 |_,_,.cons (b:=t) h r=>by
  show ba K H (zB t::_) _;unfold ba;exact⟨_,_,rfl,AN h,pF r⟩
theorem n6:∀ts:List Tm,dX (ts.map zB)<=2
 |[]=>by unfold dX;decide
 |t::ts=>by
  show dX (zB t::ts.map zB)<=2;unfold dX;have:=n6 ts
  have h:jB (zB t)=2:=by
   unfold zB jB dX dX dX;rw[G6,show jB (.tup (t.1.map D.int))=1 from by unfold jB;rw[FN]];rfl
  omega
abbrev lE (ts:List Tm):D:=.lst (ts.map zB)
theorem kn {a:Addr}{ys:List V}{ts:List Tm}(e:H a=some (.lst ys))(h:aX H ys ts):aN K H (lE ts) (.ref a):=by
 unfold aN;exact⟨a,ys,rfl,bo.of e,pF h⟩
theorem Bq (ts:List Tm):jB (lE ts)<=32:=by
 unfold jB;have:=n6 ts;omega
theorem Bj.same (h:Bj C CF H s p ts)(k:aA H H'):Bj C CF H' s p ts:=by
 obtain⟨dx,fl,Iu,D,zs,h1,h2,h3,h4⟩:=h.ex;exact⟨dx,fl,Iu,D,zs,k _ _ h1,k _ _ h2,k _ _ h3,aX.keep h4 (aH.of k)⟩
abbrev CB:Stmt:=aJ (aL 38) 12
def Bw (C CF NN:Addr):Sp:=λvs H Q E=>∃(s:Addr)(p:Int)(a:List Tm)(x:V)(o:Option (V×V)),vs=[.ref s,x]/\Bj C CF H s p a/\FP p/\a.length<4000/\(∀t∈a,Gn p 4000 t.2)/\TX H x o /\
 (∀t b y,x=.ref y->H y=some (bA t b)->rP p o=true->B 4000 t/\B 4000 b/\Num p t b/\BY p (qY p (t,b) a)/\∀H' u,aA H H'->rf C CF H H' u p (tg p (qY p (t,b) a))->Q (.ref u) H')/\(rP p o=true->∃y t b,x=.ref y/\H y=some (bA t b))/\(rP p o=false->E (.ref NN) none H)
theorem BQ:Av ["self","number","field"] Ce (aj CB):=dk (by decide +kernel)
set_option maxHeartbeats 1000000 in
theorem vt {fn ft fb NN:Addr}{OP JQ KR:zo}(F:Ao K "scaled" "Sum.scaled" CB f fd)(c:D8 K mg C)(cF:vR K mg CF)(mN:mg "NoNumber"=some (.ref NN))(qN:jL K NN zz md=true)
 (FNu:Ik P w K mg base (aU P w) 2 fn OP vK (ib CF))(bNu:L2.ay K OP vK [])(mNu:L2.Meth K CF "is_number" fn)
 (FTi:Ik P w K mg base (aU P w) 4 ft JQ zh (pX CF gB))(bTi:L2.ay K JQ zh [])(mTi:L2.Meth K CF "times" ft)
 (FBu:Ik P w K mg base (aU P w) 8 fb KR D1 (sN C CF))(bBu:L2.ay K KR D1 [])(mBu:mg "built"=some (.ref fb))(kBu:keepIn K (.ref fb)=true):
 Ik P w K mg base (aU P w) 9 f fd Ce (Bw C CF NN):=by
 refine F.okE BQ (λvs H Q E h=>?_) (λIv A outer s H vs Q E hr h=>?_)
 ·obtain⟨s,p,a,x,o,rfl,_⟩:=h;rfl
 ·obtain⟨s0,p,a,x,o,rfl,S,hp,al,ag,tx,q1,q2,q3⟩:=h;have NM:p8 8 _:=hr;have Jb:p8 4 _:=NM.mono (by decide);have Jj:p8 2 _:=NM.mono (by decide)
  refine⟨_,(ak (@aV _ _ 2 _ _ _ _ BQ.nd rfl (Or.inr rfl) (bO (pv 0) rfl) rfl (Or.inl rfl))
   (ak (a9 (bJ (bF (bY (pv 2) cF.cl mNu FNu Jj bNu .nil ae (@ao _ _ _ _ _ (pv 1) af rfl)))) (aq (eh PySem.F.excBase_ValueError qN rfl c9 (by rfl) mN (@ao _ _ _ _ _ fN af rfl))) aF)
   (aq (az (aB FBu NM (by rfl) mBu kBu bBu .nil ae (@ao _ _ _ _ _ (pv 2) (@ao _ _ _ _ _ (ck (g:=og K 2 (dN (cb 0) (dN (cb 1) FY))) (N:=["product","factor","number","field"]) (nl:=2) (js:=[1,2]) (osc:=aj CB) ⟨rfl,rfl,by decide +kernel,by decide +kernel,by decide +kernel,rfl,(.cons ⟨rfl,by decide +kernel⟩ (.cons ⟨rfl,by decide +kernel⟩ .nil)),by decide +kernel⟩ rfl
    (cC (bO (pv 0) rfl))
    (λCq fq sq Hq=>(de (X:=fG _ ["product","factor","number","field"] _ Cq fq sq Hq) rfl (aR (aE (X:=fG _ ["product","factor","number","field"] _ Cq fq sq Hq) (i:=0) (by show(["product","factor","number","field"]:zX).Nodup;decide +kernel) rfl (Or.inl rfl) (Or.inr rfl)) (aR (aE (X:=fG _ ["product","factor","number","field"] _ Cq fq sq Hq) (i:=1) (by show(["product","factor","number","field"]:zX).Nodup;decide +kernel) rfl (Or.inl rfl) (Or.inr rfl)) cy))))
    (λCq fq sq Hq=>cj)
    (λCq fq sq Hq=>(@bD _ _ _ _ _ (@ao _ _ _ _ _ (pv 0) (@ao _ _ _ _ _ (bY (pv 3) cF.cl mTi FTi Jb bTi .nil ae (@ao _ _ _ _ _ (pv 1) (@ao _ _ _ _ _ (pv 2) af rfl) rfl)) af rfl) rfl)))) af rfl) rfl)))))),?_⟩
  obtain⟨dx,fl,Iu,Dd,zs,h1,h2,h3,h4⟩:=S.ex;refine⟨_,rfl,s0,C,dx,_,_,rfl,h1,c.c.cl,c.c.nF,rfl,?_⟩;refine⟨_,rfl,fl,Iu,_,rfl,h2,rfl,_,rfl,fl,Iu,p,x,o,rfl,h2,hp,tx,_,rfl,?_⟩
  cases hn:rP p o with
  |false=>exact b0 ⟨by decide,q3 hn⟩
  |true =>
   obtain⟨y,t,b,rfl,hy⟩:=q2 hn;obtain⟨bt,bb,nm,G,q⟩:=q1 t b y rfl hy hn;refine bw ?_;have zl:=h4.length;refine⟨_,rfl,_,rfl,s0,C,dx,_,_,rfl,h1,c.c.cl,c.c.nT,rfl,Dd,rfl,⟨_,bo.of h3⟩,?_⟩;refine jr (xs:=zs) (λi us H'=>aA H H'/\aX H' us (qY p (t,b) (a.take i))) ⟨aA.refl _,.nil⟩ (λi us H' hi h=>?_) (λi v us H' hi hyv h=>?_) (λus H' h=>?_)
   ·refine⟨?_,bo.of (h.1 _ _ h3)⟩;rw[h.2.length];unfold qY;rw[List.length_map,List.length_take];exact Nat.lt_of_le_of_lt (show _<=4000 by omega) (by decide)
   ·obtain⟨sH,hu⟩:=h;obtain⟨u,eu,at_,pr,nu,rfl,LL,Jk,JC⟩:=bc h4 hyv;have gu:=ag u (List.mem_of_getElem? eu)
    have JD:a.take (i+1)=a.take i++[u]:=by rw[List.take_add_one,eu];rfl
    refine⟨at_,.ref pr,.ref nu,rfl,br.of (sH _ _ LL),λN k=>?_⟩;refine jc ⟨_,rfl,_,rfl,fl,Iu,_,rfl,sH _ _ h2,rfl,_,rfl,_,rfl,fl,Iu,nu,y,p,u.2.1,u.2.2,t,b,rfl,sH _ _ h2,hp,sH _ _ JC,sH _ _ hy,gu.2.1,gu.2.2,bt,bb,gu.ne,(by have:=nm.pos;omega),λa1 JZ=>?_⟩;have r1:=ar (o:=bA (dA p u.2 (t,b)).1 (dA p u.2 (t,b)).2) JZ;have e1:upd H' a1 (bA (dA p u.2 (t,b)).1 (dA p u.2 (t,b)).2) a1=some (bA (dA p u.2 (t,b)).1 (dA p u.2 (t,b)).2):=ah;change An _ (upd H' a1 (bA (dA p u.2 (t,b)).1 (dA p u.2 (t,b)).2)) _;generalize upd H' a1 (bA (dA p u.2 (t,b)).1 (dA p u.2 (t,b)).2)=H1 at r1 e1 |-;refine⟨iT,λtu NO=>?_⟩;have r2:=ar (o:=.tup [.ref pr,.ref a1]) NO;have UG:=r1.trans r2;refine k _ _ ⟨sH.trans UG,?_⟩;rw[JD];unfold qY;rw[List.map_append];exact Paired.snoc (aX.keep hu (aH.of UG)) ⟨tu,pr,a1,rfl,ah,UG _ _ (sH _ _ Jk),r2 _ _ e1⟩
   obtain⟨sH,hu⟩:=h;rw[zl,List.take_length] at hu;intro l hl;have r1:=ar (o:=.lst us) hl;exact⟨fl,Iu,l,p,_,_,rfl,r1 _ _ (sH _ _ h2),hp,ah,aX.keep hu (aH.of r1),G,λH2 u s2 UH=>q _ u ((sH.trans r1).trans s2) (UH.of (sH.trans r1))⟩
def Gi (t:Tm):Int:=t.1.getLastD 0+1
def dq (ts:List Tm):Int:=(Mx.jJ none ((ts.filter λt=>!t.1.isEmpty).map Gi)).getD 0
def oB (C:Addr):Sp:=λvs H Q _=>∃(s dx fl D:Addr)(zs:List V)(ts:List Tm),vs=[.ref s]/\H s=some (.ins C dx (qp fl D))/\H D=some (.lst zs)/\aX H zs ts/\ts.length<4000/\(∀t∈ts,t.1.length<4000)/\∀H',aA H H'->Q (.int (dq ts)) H'
theorem Ac:Av ["self"] ["self"] (aj rV):=dk (by decide +kernel)
theorem AC {ks:List Int}(h:ks≠[]):sr (ks.map V.int) (-1)=some (.int (ks.getLastD 0)):=by
 have hl:0<ks.length:=List.length_pos_iff.mpr h;unfold sr xo;rw[List.length_map,if_neg (by decide),if_pos (by omega)];show(ks.map V.int)[((-1:Int)+(ks.length:Int)).toNat]?=_
 have e:((-1:Int)+(ks.length:Int)).toNat=ks.length-1:=by omega
 rw[e,List.getElem?_map,List.getElem?_eq_getElem (by omega)]
 have g:ks.getLastD 0=ks[ks.length-1]'(by omega):=by
  rw[List.getLastD_eq_getLast?,List.getLast?_eq_getElem?,List.getElem?_eq_getElem (by omega)];rfl
 rw[g];rfl
theorem xi (F:Ao K "reach" "Sum.reach" rV f fd)(c:Hf K mg C)(IZ:mg "max"=none):Ik P w K mg base (aU P w) 1 f fd ["self"] (oB C):=by
 refine F.okN Ac (λvs H Q E h=>?_) (λIv A outer s H vs Q E hr h=>?_)
 ·obtain⟨s,dx,fl,D,zs,ts,rfl,_⟩:=h;rfl
 ·obtain⟨s0,dx,fl,D,zs,ts,rfl,hs,hD,hz,hl,Ji,q⟩:=h
  refine⟨_,aq (az (zY (ck (g:=og K 2 (dN (cb 0) (dN (cb 1) FY))) (N:=["product","number"]) (nl:=2) (js:=[]) (osc:=aj rV) ⟨rfl,rfl,by decide +kernel,by decide +kernel,by decide +kernel,rfl,.nil,by decide +kernel⟩ rfl
   (cC (bO (pv 0) rfl))
   (λC fp s H=>(de (X:=fG _ ["product","number"] _ C fp s H) rfl (aR (aE (X:=fG _ ["product","number"] _ C fp s H) (i:=0) (by show(["product","number"]:zX).Nodup;decide +kernel) rfl (Or.inl rfl) (Or.inr rfl)) (aR (aE (X:=fG _ ["product","number"] _ C fp s H) (i:=1) (by show(["product","number"]:zX).Nodup;decide +kernel) rfl (Or.inl rfl) (Or.inr rfl)) cy))))
   (λC fp s H=>iA (show PT _ _ (λσ H Q=>eP 0 σ H λx H'=>∃k,Ck K x H' k/\Q k H') from qx (pv 0) (λ_=>rfl)))
   (λC fp s H=>(@aC _ _ _ _ _ _ _ _ dG (@bg _ _ _ _ _ _ _ (show C8 _ (xv K) from aZ) (pv 0) (mz i8 au) (λ_ _=>rfl)) au))) au rfl (by rfl) IZ)),?_⟩
  refine⟨_,rfl,s0,C,dx,_,_,rfl,hs,c.cl,c.nT,rfl,D,rfl,⟨zs,bo.of hD⟩,?_⟩;refine⟨λi m xs σ' H'=>m=zs.length-i/\i<=zs.length/\aA H H'/\xs=(((ts.take i).filter λt=>!t.1.isEmpty).map Gi).map V.int/\∃o1 o2,σ'=[o1,o2],⟨zs.length,by simp,Nat.zero_le _,aA.refl _,rfl,none,none,rfl⟩,?_⟩;rintro i m xs σ' H' ⟨rfl,hi,sH,rfl,o1,o2,rfl⟩;have zl:=hz.length;have OF:=sH _ _ hD;refine⟨?_,?_⟩
  ·rw[List.length_map,List.length_map];exact Nat.lt_of_le_of_lt (List.length_filter_le _ _) (Nat.lt_of_le_of_lt (by simp;omega) (Nat.lt_trans hl (by decide)))
  by_cases IC:i<zs.length
  ·refine .inr ⟨⟨zs,zs[i],bo.of OF,by simp[IC]⟩,λy H2 hy=>?_⟩;obtain⟨rfl,hy⟩:=hy;obtain⟨t,et,tr⟩:=bc hz (hy zs (bo.of OF));obtain⟨a,pr,nu,rfl,ha,Jk,JC⟩:=tr.keep (aH.of sH)
   have JD:ts.take (i+1)=ts.take i++[t]:=by rw[List.take_add_one,et];rfl
   refine⟨a,_,rfl,br.of ha,rfl,_,_,rfl,_,_,rfl,rfl,?_⟩;refine⟨_,rfl,!t.1.isEmpty,.inr (.inl ⟨_,br.of Jk,by simp⟩),?_⟩
   cases hb:t.1.isEmpty with
   |false =>
    have ne:t.1≠[]:=by intro z;rw[z] at hb;cases hb
    refine b0 ⟨_,rfl,_,rfl,pr,_,-1,_,rfl,rfl,br.of Jk,AC ne,_,_,rfl,rfl,zs.length-(i+1),by omega,rfl,IC,sH,?_,_,_,rfl⟩;rw[JD,List.filter_append];simp[hb,Gi]
   |true =>
    refine bw ⟨zs.length-(i+1),by omega,rfl,IC,sH,?_,_,_,rfl⟩;rw[JD,List.filter_append];simp[hb]
  ·have ei:i=zs.length:=by omega
   subst ei;refine .inl ⟨⟨zs,bo.of OF,Nat.le_refl _⟩,λL hL=>?_⟩;rw[zl,List.take_length];refine⟨L,_,.int 0,rfl,rfl,bo.of ah,?_⟩;have q':=q _ (λb u z=>by rw[av (ax (sH _ _ z) hL)];exact sH _ _ z:aA H (upd H' L (.lst (((ts.filter λt=>!t.1.isEmpty).map Gi).map V.int))));unfold dq at q';show Q _ (upd H' L (.lst (((ts.filter λt=>!t.1.isEmpty).map Gi).map V.int)));generalize upd H' L (.lst (((ts.filter λt=>!t.1.isEmpty).map Gi).map V.int))=H9 at q' |-;generalize Mx.jJ none ((ts.filter λt=>!t.1.isEmpty).map Gi)=ob at q' |-
   cases ob <;> exact q'
abbrev Ef:Stmt:=(aL 42)
structure SW (C CF:Addr)(H:Hp)(s:Addr)(p:Int)(ts:List Tm):Prop where
 r:Bj C CF H s p ts
 fp:FP p
 few:ts.length<64
 pl:∀t∈ts,t.1.length<4000
def eJ (H H':Hp):Prop:=∀b u,H b=some u->(∀C dx,u≠.ins C dx [])->H' b=some u
theorem eJ.of (s:aA H H'):eJ H H':=λb u e _=>s b u e
theorem eJ.but {dx:Addr}(h:SameBut s H H')(e:H s=some (.ins C dx [])):eJ H H':=λb u eb n=>h b u eb λz=>by
 rw[z,e] at eb
 cases eb
 exact n _ _ rfl
theorem Th.aaC {T:String}(h:Th H x T)(k:eJ H H'):Th H' x T:=by
 cases h with
 |non=>exact .non
 |bl b=>exact .bl b
 |int i=>exact .int i
 |str y=>exact .str y
 |lst e=>exact .lst (k _ _ e λ_ _ z=>by cases z)
 |tup e=>exact .tup (k _ _ e λ_ _ z=>by cases z)
 |dK e=>exact .dK (k _ _ e λ_ _ z=>by cases z)
theorem eJ.ab8 (k:eJ H H'):aH H H':=λb xs e=>k b _ e λ_ _ z=>by cases z
theorem SW.aaC (h:SW C CF H s p ts)(k:eJ H H'):SW C CF H' s p ts:=by
 obtain⟨dx,fl,Iu,D,zs,h1,h2,h3,h4⟩:=h.r.ex;exact⟨⟨dx,fl,Iu,D,zs,k _ _ h1 (λ_ _ z=>by injection z with _ _ z;exact absurd z (by simp[qp])),k _ _ h2 (λ_ _ z=>by injection z with _ _ z;exact absurd z (by simp[cE])),k _ _ h3 (λ_ _ z=>by cases z),aX.keep h4 k.ab8⟩,h.fp,h.few,h.pl⟩
inductive WX (C CF:Addr)(p n:Int)(H:Hp):V->Bool->Prop where
 |sum {s:Addr}{p':Int}{ts:List Tm}:SW C CF H s p' ts->WX C CF p n H (.ref s) (decide (p'=p)&&decide (dq ts<=n))
 |oth {x:V}{T:String}:Th H x T->WX C CF p n H x false
theorem WX.aaC {n:Int}{b:Bool}(h:WX C CF p n H x b)(k:eJ H H'):WX C CF p n H' x b:=by
 cases h with
 |sum s=>exact .sum (s.aaC k)
 |oth t=>exact .oth (t.aaC k)
def BO (C CF:Addr):Sp:=λvs H Q _=>∃(fl Iu:Addr)(p n:Int)(y:V)(b:Bool),vs=[.ref fl,.int n,y]/\H fl=some (.ins CF Iu (cE p))/\WX C CF p n H y b/\∀H',aA H H'->Q (.bl b) H'
theorem E5:Av Bg Bg (aj Ef):=dk (by decide +kernel)
theorem Co {fe ff fr:Addr}{LV OQ LW:zo}(F:Ao K "is_wish" "is_wish" Ef f fd)(c:D8 K mg C)(cF:vR K mg CF)(Iq:mg "isinstance"=none)
 (FE:Ik P w K mg base (aU P w) 1 fe LV Ic (C2 CF))(bE:L2.ay K LV Ic [])(nE:findIn K (.ref CF) "__eq__"=some (some (.ref fe)))(iE:isFn K (.ref fe)=true)
 (FSf:Ik P w K mg base (aU P w) 1 ff OQ ["self"] (kc C CF))(bSf:L2.ay K OQ ["self"] [])(mSf:Meth K C "field" ff)
 (FRe:Ik P w K mg base (aU P w) 1 fr LW ["self"] (oB C))(bRe:L2.ay K LW ["self"] [])(mRe:Meth K C "reach" fr):
 Ik P w K mg base (aU P w) 2 f fd Bg (BO C CF):=by
 refine F.okN E5 (λvs H Q E h=>?_) (λIv A outer s H vs Q E hr h=>?_)
 ·obtain⟨fl,Iu,p,n,y,b,rfl,_⟩:=h;rfl
 ·obtain⟨fl,Iu,p,n,y,b,rfl,hf,hw,q⟩:=h;have IH:p8 1 _:=hr.mono (by decide);refine⟨_,(aq (az (dC (aD aQ (by rfl) Iq (by rfl) (@ao _ _ _ _ _ (pv 2) (@ao _ _ _ _ _ (bX (by rfl) c.c.mgC (show aG (.ref C) (.ref C) from rfl)) af rfl) rfl)) (dC (@cI _ _ _ _ _ _ _ _ (yK nE iE FE IH bE ae) (cq (pv 2) c.c.cl mSf FSf IH bSf .nil ae) (pv 0) (aI _)) (eV (@cI _ _ _ _ _ _ _ _ iH (cq (pv 2) c.c.cl mRe FRe IH bRe .nil ae) (pv 1) (aI _))))))),?_⟩
  cases hw with
  |oth th=>exact⟨_,rfl,y,.ref C,_,_,_,rfl,rfl,th.ty,c.no th,_,rfl,bw (q _ (aA.refl _))⟩
  |@sum s p' ts S =>
   obtain⟨dx,SM,OR,D,zs,h1,h2,h3,h4⟩:=S.r.ex;refine⟨_,rfl,.ref s,.ref C,_,_,_,rfl,rfl,c.ty h1,c.is,_,rfl,b0 ?_⟩;refine⟨_,rfl,s,dx,_,rfl,h1,rfl,s,dx,SM,D,rfl,h1,_,rfl,?_⟩;refine⟨SM,OR,_,.ref CF,rfl,h2,cF.ty hf,tj,SM,OR,p',.ref fl,rfl,h2,.inl ⟨fl,Iu,p,rfl,hf,_,rfl,?_⟩⟩
   cases e:decide (p'=p) with
   |false =>
    refine⟨_,rfl,bw ?_⟩;have q':=q _ (aA.refl _);rw[e] at q';exact q'
   |true =>
    refine⟨_,rfl,b0 ?_⟩;refine⟨_,rfl,s,dx,_,rfl,h1,rfl,s,dx,SM,D,zs,ts,rfl,h1,h3,h4,Nat.lt_trans S.few (by decide),S.pl,λH' sH=>⟨_,rfl,_,_,rfl,rfl,?_⟩⟩;have q':=q _ sH;rw[e] at q';exact q'
end K73
namespace L2
open PySem PySem.Spec PyProof.Rows PySem.W
end L2
namespace PySem.F
end PySem.F
namespace L2
open PySem PySem.Spec PyProof.Rows PySem.W
end L2
namespace Lh
open PySem PyProof.Rows
structure Zs (h:Heap)(z TI TO i1 i2 l1 l2:Addr)(k:Nat):Prop where
 hz:IsZip h z TI TO .none
 hTI:IsPair h TI (.ref i1) (.ref i2)
 Lx:∃a b,IsPair h TO a b
 h1:h.IsListIter i1 l1 k
 h2:h.IsListIter i2 l2 k
theorem dm {h h':Heap}{i l:Addr}{k:Nat}(x:h.IsListIter i l k)(q:∀o,h.get? i=some o->h'.get? i=some o):h'.IsListIter i l k:=let⟨o,a,b⟩:=x;⟨o,q o a,b⟩
theorem lQ (n a b:Nat)(ha:a<n)(hb:b<n):ZipApart (n+4) (n+2) (n+3) n (n+1) a b:=by
 refine⟨Zp.a8 ?_,Zp.a8 ?_,Zp.a8 ?_,Zp.a8 ?_,Zp.a8 ?_,Zp.a8 ?_,Zp.a8 ?_,Zp.a8 ?_,Zp.a8 ?_,Zp.a8 ?_,Zp.a8 ?_,Zp.a8 ?_,Zp.a8 ?_,Zp.a8 ?_,Zp.a8 ?_,Zp.a8 ?_,Zp.a8 ?_,Zp.a8 ?_⟩ <;> omega
section
variable {prog:yn}{w:World}{A:Around}{E:yj}{s:Dx}{z TI TO i1 i2 l1 l2:Addr}{k:Nat}{xs ys:GV}{x y:Value}
theorem jt {Q:Option Value->Shared->Prop}(D:ZipApart z TI TO i1 i2 l1 l2)(Z:Zs s.heap z TI TO i1 i2 l1 l2 k)(Ja:s.heap.IsList l1 xs)(Ji:s.heap.IsList l2 ys)(hx:xs[k]?=some x)(hy:ys[k]?=some y)
 (hQ:∀h',IsZip h' z TI TO (rawInt s.heap.objs.size)->(∃a b,IsPair h' TO a b)->h'.IsListIter i1 l1 (k+1)->h'.IsListIter i2 l2 (k+1)->IsPair h' s.heap.objs.size x y →
  (∀c o,c ∉ [z,TO,i1,i2]->s.heap.get? c=some o->h'.get? c=some o)->Q (some (.ref s.heap.objs.size)) {s with heap:=h'}):
 wpAny (model prog w) A (pyNext (.ref z)) Q E s:=by
 obtain⟨hz,hTI,⟨a,b,Lx⟩,h1,h2⟩:=Z
 exact wpAny_pyNext_zip_item D hz hTI Lx h1 h2 Ja Ji hx hy λh' a1 a2 a3 a4 a5 a6 a7=>hQ h' a1 ⟨_,_,a2⟩ a3 a4 a5 λc o hc e=>by
  have IE:c≠z/\c≠TO/\c≠i1/\c≠i2:=by simpa using hc
  exact a7 c o IE.1 IE.2.1 IE.2.2.1 IE.2.2.2 e
theorem je {Q:Option Value->Shared->Prop}(hh:A.handled=none)(D:ZipApart z TI TO i1 i2 l1 l2)(Z:Zs s.heap z TI TO i1 i2 l1 l2 k)(Ja:s.heap.IsList l1 xs)(Ji:s.heap.IsList l2 ys)(KC:xs[k]?=none\/ys[k]?=none)
 (hQ:∀h',(∀c o,c ∉ [z,TO,i1,i2]->s.heap.get? c=some o->h'.get? c=some o)->Q none {s with heap:=h'}):wpAny (model prog w) A (pyNext (.ref z)) Q E s:=by
 obtain⟨hz,hTI,⟨a,b,Lx⟩,h1,h2⟩:=Z
 exact wpAny_pyNext_zip_end hh D hz hTI Lx h1 h2 Ja Ji KC λh' a7=>hQ h' λc o hc e=>by
  have IE:c≠z/\c≠TO/\c≠i1/\c≠i2:=by simpa using hc
  exact a7 c o IE.1 IE.2.1 IE.2.2.1 IE.2.2.2 e
theorem xk {Q:yj}(Ja:s.heap.IsList l1 xs)(Ji:s.heap.IsList l2 ys)
 (h:∀h',Zs h' (s.heap.objs.size+4) (s.heap.objs.size+2) (s.heap.objs.size+3) s.heap.objs.size (s.heap.objs.size+1) l1 l2 0->(∀c o,s.heap.get? c=some o->h'.get? c=some o)->Q (.ref (s.heap.objs.size+4)) {s with heap:=h'}):
 wpAny (model prog w) A (call (.type "zip") [.ref l1,.ref l2]) Q E s :=
 call_zip_2 Ja Ji λh' a1 a2 a3 a4 a5 _ a7=>h h' ⟨a1,a2,⟨_,_,a3⟩,a4,a5⟩ a7
end
end Lh
namespace L2
open PySem PySem.Spec PyProof.Rows PySem.W
def vx (K:Frag)(a b:Addr):It :=
 ⟨λi H=>∃xs ys x y,bo K H a xs/\bo K H b ys/\xs[i]?=some x/\ys[i]?=some y,
  λi H v H'=>∃T x y,(∀xs,bo K H a xs->xs[i]?=some x)/\(∀ys,bo K H b ys->ys[i]?=some y)/\H T=none/\v=.ref T/\H'=upd H T (.tup [x,y]),
  λi H=>∃xs ys,bo K H a xs/\bo K H b ys/\(xs.length<=i\/ys.length<=i)⟩
theorem vj {P:yn}{w:World}{K:Frag}{elts:De}{x1:Nat}{tp:Pos}{a b z TI TO i1 i2:Addr}(D:ZipApart z TI TO i1 i2 a b):
 Turn P w K (.Tuple elts x1 tp) (vx K a b) [z,TO,i1,i2,TI] z (λi h=>Lh.Zs h z TI TO i1 i2 a b i) where
 mem:=by simp
 obj:=λi h st c hb=>by
  obtain⟨h1,h2,⟨_,_,h3⟩,⟨o4,h4,_,d4⟩,⟨o5,h5,_,d5⟩⟩:=st
  rcases(by simpa using hb:c=z\/c=TO\/c=i1\/c=i2\/c=TI) with q|q|q|q|q
  ·subst q;exact⟨_,h1,λv q=>by cases q⟩
  ·subst q;exact⟨_,h3,λv q=>by cases q⟩
  ·subst q;exact⟨_,h4,λv q=>by rw[d4] at q;cases q⟩
  ·subst q;exact⟨_,h5,λv q=>by rw[d5] at q;cases q⟩
  ·subst q;exact⟨_,h2,λv q=>by cases q⟩
 keep:=λi h h' st k=>by
  obtain⟨h1,h2,⟨_,_,h3⟩,h4,h5⟩:=st;exact⟨k z (by simp) _ h1,k TI (by simp) _ h2,⟨_,_,k TO (by simp) _ h3⟩,Lh.dm h4 λo q=>k i1 (by simp) o q,Lh.dm h5 λo q=>k i2 (by simp) o q⟩
 item:=by
  intro X hP hw hK hc i pins s σ H E I hf st hg;subst hP hw hK;obtain⟨xs,ys,x,y,hq,hr,hx,hy⟩:=hg;obtain⟨its,rv,p,hz⟩:=I.list hq;obtain⟨LN,Jg,p',OD⟩:=I.list hr;obtain⟨u,hu,ru⟩:=rv.get hx;obtain⟨v,hv,MJ⟩:=Jg.get hy;refine Lh.jt D st p.isList p'.isList (x:=u) (y:=v) (by simpa using hu) (by simpa using hv) λh' q1 q2 q3 q4 q5 q6=>?_;refine⟨_,rfl,wpAny_letOwnedTupleGo_zip (s:={s with heap:=h'}) q1 λh2 q7 q8=>?_⟩;have lt:∀c o,s.heap.get? c=some o->c≠s.heap.objs.size:=λc o e=>Nat.ne_of_lt (Heap.lt_size e)
  have I1:Inv X pins σ H {s with heap:=h2}:=I.aaH (t':=s.toks) (ch:=[z,TO,i1,i2]) (λc o hc e=>(q8.2 c λq=>hc (by simp[q])).trans (q6 c o hc e)) λc hc=>hf c (by
   rcases(by simpa using hc:c=z\/c=TO\/c=i1\/c=i2) with q|q|q|q <;> simp[q])
  have nz:s.heap.objs.size≠z:=Ne.symm (lt z _ st.hz);have tup:h2.get? s.heap.objs.size=some {cls:=.type "tuple",data:=.seq #[u,v]}:=(q8.2 _ nz).trans q5;have fr:H s.heap.objs.size=none:=I.hok.fresh (Nat.le_refl _);have I2:=I.aby (xs:=[x,y]) (its:=[u,v]) I1 (Nat.le_refl _) tup (.cons ru (.cons MJ .nil)) iT;have up:∀c o,c≠z->h'.get? c=some o->h2.get? c=some o:=λc o hc e=>(q8.2 c hc).trans e;obtain⟨aa,bb,q2⟩:=q2;have MK:IsPair h' TI (.ref i1) (.ref i2):=q6 TI _ (by simp only[List.mem_cons,List.not_mem_nil,or_false,not_or];exact⟨D.TIz,D.TITO,D.TIi1,D.TIi2⟩) st.hTI
  refine⟨.ref s.heap.objs.size,_,I2,rfl,⟨s.heap.objs.size,x,y,λzs Lg=>by rw[I.aay Lg hq];exact hx,λzs Lg=>by rw[I.aay Lg hr];exact hy,fr,rfl,rfl⟩,
   ⟨q7,up _ _ D.TIz MK,⟨aa,bb,up _ _ D.TOz q2⟩,Lh.dm q3 λo e=>up _ o D.i1z e,Lh.dm q4 λo e=>up _ o D.i2z e⟩,λc hb=>?_⟩
  have nb:c≠s.heap.objs.size:=by
   obtain⟨h1,h2,⟨_,_,h3⟩,⟨o4,h4,_,d4⟩,⟨o5,h5,_,d5⟩⟩:=st
   rcases(by simpa using hb:c=z\/c=TO\/c=i1\/c=i2\/c=TI) with q|q|q|q|q <;> subst q
   ·exact lt _ _ h1
   ·exact lt _ _ h3
   ·exact lt _ _ h4
   ·exact lt _ _ h5
   ·exact lt _ _ h2
  rw[av nb];exact(hf c hb).1
 done:=by
  intro X hP hw hK hc i pins s σ H E I hf st hg;subst hP hw hK;obtain⟨xs,ys,hq,hr,hx⟩:=hg;obtain⟨its,rv,p,hz⟩:=I.list hq;obtain⟨LN,Jg,p',OD⟩:=I.list hr;have l1:=rv.length;have l2:=Jg.length
  refine Lh.je (I.ok.hd hc) D st p.isList p'.isList (by
   rcases hx with q|q
   ·left;simp;omega
   ·right;simp;omega) λh' q=>⟨rfl,?_⟩
  exact I.aaH (t':=s.toks) (ch:=[z,TO,i1,i2]) q λc hc=>hf c (by
   rcases(by simpa using hc:c=z\/c=TO\/c=i1\/c=i2) with q|q|q|q <;> simp[q])
 self:=λ_ _ _ _ _ st h=>wpAny_pyIter_zip st.hz h
def EC (K:Frag)(ta tb:TE):TI:=λσ H R=>dn ta (dn tb An) σ H λvs H1=>∃a b xs ys,vs=[.ref a,.ref b]/\bo K H1 a xs/\bo K H1 b ys/\R (vx K a b) H1
theorem AD {X:Cx}{ea eb:Expr}{ta tb:TE}{elts:De}{x1:Nat}{tp p pos:Pos}(ha:PE X ea ta)(hb:PE X eb tb)(hg:Gl X "zip")(hm:X.mg "zip"=none)(hs:eO ea=false:=by rfl)(KD:eO eb=false:=by rfl):
 PI X (.Tuple elts x1 tp) (.Call (.Name "zip" p) [ea,eb] [] pos) (EC X.K ta tb):=by
 intro pins s σ H R I h;refine wpAny_Call_Name_kw (cN I hg hm (by rfl) ?_ (by decide) (by decide));refine PyProof.Rows.callWith_type1 (bK (ao ha (ao hb af KD) hs pos pins s σ H _ I h) λus s1 z'=>?_) (aO hs) (by rw[aO KD];rfl);obtain⟨vs,H1,I1,r1,a,b,xs,ys,hv,hq,hr,rr⟩:=z';subst hv;obtain⟨u,u',rfl,ru,MJ⟩:=sI r1
 cases(show u=Value.ref a from ru)
 cases(show u'=Value.ref b from MJ)
 obtain⟨its,rv,pl,hz⟩:=I1.list hq;obtain⟨LN,Jg,OE,OD⟩:=I1.list hr;refine Lh.xk pl.isList OE.isList λh' q1 q4=>?_;have I2:Inv X pins σ H1 {s1 with heap:=h'}:=I1.kept (t':=s1.toks) q4
 have la:a<s1.heap.objs.size:=by obtain⟨o,e,_⟩:=pl.isList;exact Heap.lt_size e
 have lb:b<s1.heap.objs.size:=by obtain⟨o,e,_⟩:=OE.isList;exact Heap.lt_size e
 refine wpAny_pyIter_zip (s:={s1 with heap:=h'}) q1.hz ?_;refine⟨s1.heap.objs.size+4,[s1.heap.objs.size+4,s1.heap.objs.size+3,s1.heap.objs.size,s1.heap.objs.size+1,s1.heap.objs.size+2],_,vx X.K a b,H1,rfl,I2,vj (Lh.lQ _ _ _ la lb),q1,λc hc=>?_,rr⟩
 have IS:s1.heap.objs.size<=c:=by
  rcases(by simpa using hc:c=s1.heap.objs.size+4\/c=s1.heap.objs.size+3\/c=s1.heap.objs.size\/c=s1.heap.objs.size+1\/c=s1.heap.objs.size+2) with q|q|q|q|q <;> rw[q]
  ·exact Nat.le_add_right _ _
  ·exact Nat.le_add_right _ _
  ·exact Nat.le_refl _
  ·exact Nat.le_add_right _ _
  ·exact Nat.le_add_right _ _
 exact I1.aaO IS (I1.hok.fresh IS)
end L2
namespace Dcb
open PySem PyProof.Rows
end Dcb
namespace L2
open PySem PySem.Spec PyProof.Rows
end L2
namespace Dcc
open PySem PySem.Calls PyProof.Rows PySem.Spec
end Dcc
namespace L2
open PySem PySem.Spec PyProof.Rows PySem.W
end L2
namespace PySem.F
end PySem.F
namespace L2
open PySem PySem.Spec PyProof.Rows PySem.W
def acq:TE:=λ_ _ _=>False
def acr:TT:=λ_ _ _=>False
def jZ:TS:=λ_ _ _=>False
section
variable {X:Cx}{pins:List (Addr×Obj)}{σ:St}{A:Around}{H:Hp}{s:Dx}{E:yj}
theorem Eb {e:Expr}:PE X e acq:=λ_ _ _ _ _ _ h=>h.elim
theorem Fd {e:Expr}:PT X e acr:=λ_ _ _ _ _ _ h=>h.elim
theorem nt {st:Stmt}:PS X st jZ:=λ_ _ _ _ _ _ h=>h.elim
theorem C1 {st:List Stmt}:oV X st jZ:=λ_ _ _ _ _ _ h=>h.elim
end
end L2
namespace K73
open PySem L2 PySem.W Nm Srt
abbrev HD:Stmt:=(aL 43)
theorem DU:Av ["field","places","part","wishes","number","wish"] AF (aj HD):=dk (by decide +kernel)
structure LR (C CF:Addr)(p n:Int)(H:Hp)(x:V)(as:List Addr):Prop where
 e:∃l,x=.ref l/\H l=some (.lst (as.map V.ref))
 len:as.length<=200
 wi:∀a∈as,WX C CF p n H (.ref a) true
variable {C CF:Addr}
theorem LR.aaC {p n:Int}{H H':Hp}{x:V}{as:List Addr}(h:LR C CF p n H x as)(k:eJ H H'):LR C CF p n H' x as:=by
 obtain⟨l,e,hl⟩:=h.e;exact⟨⟨l,e,k _ _ hl λ_ _ z=>by cases z⟩,h.len,λa ha=>(h.wi a ha).aaC k⟩
def Ex (C CF:Addr):Sp:=λvs H Q E=>∃(fl Iu:Addr)(p n:Int)(part:String)(x:V)(as:List Addr),vs=[.ref fl,.int n,.str part,x]/\H fl=some (.ins CF Iu (cE p))/\LR C CF p n H x as/\∀H' D,aA H H'->H D=none->H' D=some (.lst (as.map V.ref))->Q (.ref D) H'
variable {P:yn}{w:World}{K:PySem.W.Frag}{mg:xf}{base:Heap}
variable {f:Addr}{fd:zo}
theorem D5 {fw:Addr}{Je:zo}{XR:Tok}(F:Ao K "checked_wishes" "checked_wishes" HD f fd)(Iq:mg "isinstance"=none)(Iw:mg "list"=none)(ID:mg "enumerate"=none)(Iz:mg "len"=none)(UI:mg "MOST_WISHES"=some (.int 200 XR))
 (FW:Ik P w K mg base (aU P w) 2 fw Je Bg (BO C CF))(bW:L2.ay K Je Bg [])(mW:mg "is_wish"=some (.ref fw))(kW:keepIn K (.ref fw)=true):Ik P w K mg base (aU P w) 3 f fd AF (Ex C CF):=by
 refine F.okN DU (λvs H Q E h=>?_) (λIv A outer s H vs Q E hr h=>?_)
 ·obtain⟨fl,Iu,p,n,part,x,as,rfl,_⟩:=h;rfl
 ·obtain⟨fl,Iu,p,n,part,x,as,rfl,hf,r,q⟩:=h;have JR:p8 2 _:=hr.mono (by decide)
  refine⟨_,(ak (a9 (PW.pt (d0 (bJ (bF (aD aQ (by rfl) Iq (by rfl) (@ao _ _ _ _ _ (pv 3) (@ao _ _ _ _ _ (c6 (by rfl) Iw (by rfl) (show aG (.ty "list") (.type "list") from rfl)) af rfl) rfl)))) (dw (@aK _ _ _ _ _ _ _ _ qh (aD bu (by rfl) Iz PySem.boot_len (@ao _ _ _ _ _ (pv 3) af rfl)) (bX (by rfl) UI (show aG (.int 200) (.int 200 XR) from⟨_,rfl⟩)) (aI _))))) (aq nt) aF)
   (ak (dO (by passes_own) rfl (ug (pv 3) (by rfl) ID) (de rfl (aR (aE (i:=4) DU.nd rfl (Or.inl rfl)) (aR (aE (i:=5) DU.nd rfl (Or.inl rfl)) cy)))
   (aq (a9 (bJ (bF (aB FW JR (by rfl) mW kW bW .nil ae (@ao _ _ _ _ _ (pv 0) (@ao _ _ _ _ _ (pv 1) (@ao _ _ _ _ _ (pv 5) af rfl) rfl) rfl)))) (aq nt) aF)))
   (aq (az (dF dR (by rfl) Iw (by rfl) (@ao _ _ _ _ _ (pv 3) af rfl)))))),?_⟩
  obtain⟨l,rfl,hl⟩:=r.e;have hlen:=r.len
  have SJ:∀i y,(as.map V.ref)[i]?=some y->WX C CF p n H y true:=λi y e=>by
   rw[List.getElem?_map] at e;obtain⟨a,ea,rfl⟩:=Option.map_eq_some_iff.mp e;exact r.wi a (List.mem_of_getElem? ea)
  rw[<-List.length_map (as:=as) (f:=V.ref)] at hlen;generalize as.map V.ref=ys at hl SJ hlen q;refine⟨_,rfl,.ref l,.ty "list",_,_,_,rfl,rfl,.of (.lst hl),rfl,_,rfl,bw ?_⟩;refine⟨_,rfl,l,ys,rfl,.inl (bo.of hl),_,_,rfl,rfl,_,rfl,?_⟩;rw[decide_eq_false (by omega:¬(200:Int)<(ys.length:Int))];refine bw ?_;refine⟨_,rfl,l,ys,rfl,bo.of hl,?_⟩;refine⟨λi m σ' H'=>m=ys.length-i/\i<=ys.length/\aA H H'/\∃o1 o2,σ'=[some (.ref fl),some (.int n),some (.str part),some (.ref l),o1,o2],⟨ys.length,by simp,Nat.zero_le _,aA.refl _,none,none,rfl⟩,?_⟩;rintro i m σ' H' ⟨rfl,hi,sH,o1,o2,rfl⟩;have Kc:=sH _ _ hl
  by_cases IC:i<ys.length
  ·refine .inr ⟨⟨ys,ys[i],bo.of Kc,by simp[IC]⟩,λσ' H'=>i+1<=ys.length/\aA H H'/\∃o1 o2,σ'=[some (.ref fl),some (.int n),some (.str part),some (.ref l),o1,o2],?_,λv H2 hv=>?_⟩
   ·rintro σ' H' ⟨h1,h2,h3⟩;exact⟨ys.length-(i+1),by omega,rfl,h1,h2,h3⟩
   ·obtain⟨T,y,hy,hT,rfl,rfl⟩:=hv;have ey:=hy ys (bo.of Kc);have s2:aA H (upd H' T (.tup [.int i,y])):=sH.trans (ar hT);refine⟨T,_,rfl,br.of ah,rfl,_,_,rfl,_,_,rfl,rfl,?_⟩;refine⟨_,rfl,_,rfl,_,rfl,fl,Iu,p,n,y,true,rfl,s2 _ _ hf,(SJ i y ey).aaC (.of s2),λH3 s3=>⟨_,rfl,bw ?_⟩⟩;exact⟨IC,λc u e=>s3 _ _ (s2 _ _ e),_,_,rfl⟩
  ·refine .inl ⟨⟨ys,bo.of Kc,by omega⟩,?_⟩;refine⟨_,rfl,l,ys,rfl,.inl (bo.of Kc),λD hD=>?_⟩;exact q _ D (sH.trans (ar hD)) (none_of sH hD) ah
abbrev HH:Stmt:=(aL 44)
theorem GN:Av zv zv (aj HH):=dk (by decide +kernel)
def ky:Sp:=λvs H Q E=>∃x y:V,vs=[x,y,.non]/\∀D,H D=none->Q (.ref D) (upd H D (.lst []))
theorem EU (F:Ao K "checked_uppers" "checked_uppers" HH f fd):Ik P w K mg base (aU P w) 1 f fd zv ky:=by
 refine F.okN GN (λvs H Q E h=>?_) (λIv A outer s H vs Q E hr h=>?_)
 ·obtain⟨x,y,rfl,_⟩:=h;rfl
 ·obtain⟨x,y,rfl,q⟩:=h;refine⟨_,ak (a9 (@aK _ _ _ _ _ _ _ _ xy (pv 2) lK (aI _)) (aq (az (@cw _ _ _ _ af))) aF) C1,?_⟩;exact⟨_,rfl,rfl,_,rfl,b0 ⟨Nat.zero_le _,λl hl=>q l hl⟩⟩
abbrev GC:Stmt:=aJ (aL 45) 0
theorem Ge:Av vU vU (aj GC):=dk (by decide +kernel)
structure Hi (K:Frag)(mg:xf)(C:Addr):Prop where
 cl:Ig K C
 nF:da K C "its_field"
 nP:da K C "its_places"
 nN:da K C "its_noughts"
 nU:da K C "its_uppers"
 mgC:mg "System"=some (.ref C)
 isC:((clsIn K C).isSome&&typeIn K (.ref C)==some (.type "type"))=true
 ca:findIn K (.ref C) "__class__"=some (some (.builtin "object.__class__"))
 sp:specialIn K (.builtin "object.__class__") "__get__"=some (some (.builtin "getset_descriptor.__get__"))
 tk:takesIn K (.builtin "object.__class__")=some true
 ob:mroIn K C (.type "object")=some true
def FO (fl:Addr)(n:Int)(A B:Addr):List (Str×V):=[("its_field",.ref fl),("its_places",.int n),("its_noughts",.ref A),("its_uppers",.ref B)]
structure Rt (C CF:Addr)(p n:Int)(H:Hp)(x:V)(fl:Addr)(as:List Addr):Prop where
 f:∃Iu,H fl=some (.ins CF Iu (cE p))
 n1:1<=n
 n2:n<=60
 l:LR C CF p n H x as
theorem Rt.aaC {p n:Int}{H H':Hp}{x:V}{fl:Addr}{as:List Addr}(h:Rt C CF p n H x fl as)(k:eJ H H'):Rt C CF p n H' x fl as:=by
 obtain⟨Iu,hf⟩:=h.f;exact⟨⟨Iu,k _ _ hf λ_ _ z=>by injection z with _ _ z;exact absurd z (by simp[cE])⟩,h.n1,h.n2,h.l.aaC k⟩
def Dy (CS C CF:Addr):Sp:=λvs H Q E=>∃(s dx fl:Addr)(x:V)(p n:Int)(as:List Addr),vs=[.ref s,.ref fl,.int n,x,.non]/\H s=some (.ins CS dx []) /\
 Rt C CF p n H x fl as/\∀H' A B,SameBut s H H'->H A=none->H B=none->A≠B->H' s=some (.ins CS dx (FO fl n A B))->H' A=some (.lst (as.map V.ref))->H' B=some (.lst [])->Q .non H'
theorem E8 {fc fu fw CS T:Addr}{KQ OS Je:zo}{XS:Tok}(F:EX K "__init__" "System.__init__" GC f fd T)(cS:Hi K mg CS)(cF:vR K mg CF)(Iq:mg "isinstance"=none)(UJ:mg "MOST_PLACES"=some (.int 60 XS))
 (FW:Ik P w K mg base (aU P w) 1 fw Je wg Bk)(bW:L2.ay K Je wg [])(mW:mg "is_whole"=some (.ref fw))(kW:keepIn K (.ref fw)=true)
 (FC:Ik P w K mg base (aU P w) 3 fc KQ AF (Ex C CF))(bC:L2.ay K KQ AF [])(mC:mg "checked_wishes"=some (.ref fc))(kC:keepIn K (.ref fc)=true)
 (FU:Ik P w K mg base (aU P w) 1 fu OS zv ky)(bU:L2.ay K OS zv [])(mU:mg "checked_uppers"=some (.ref fu))(kU:keepIn K (.ref fu)=true):
 Ik P w K mg base (aU P w) 5 f fd vU (Dy CS C CF):=by
 refine F.okE Ge (λvs H Q E h=>?_) (λIv A outer s H vs Q E hr h=>?_)
 ·obtain⟨s,dx,fl,x,p,n,as,rfl,_⟩:=h;rfl
 ·obtain⟨s0,dx,fl,x,p,n,as,rfl,hs,rt,q⟩:=h;obtain⟨Iu,hf⟩:=rt.f;have n1:=rt.n1;have n2:=rt.n2;have la:=rt.l;have Jb:p8 3 _:=hr.mono (by decide);have IH:p8 1 _:=hr.mono (by decide)
  refine⟨_,(ak (a9 (bJ (bF (aD aQ (by rfl) Iq (by rfl) (@ao _ _ _ _ _ (pv 1) (@ao _ _ _ _ _ (bX (by rfl) cF.mgC (show aG (.ref CF) (.ref CF) from rfl)) af rfl) rfl)))) (aq nt) aF)
   (ak (a9 (PW.pt (d0 (bJ (bF (aB FW IH (by rfl) mW kW bW .nil ae (@ao _ _ _ _ _ (pv 2) af rfl)))) (dw (bJ (qt iH iH au (pv 2) (bX (by rfl) UJ (show aG (.int 60) (.int 60 XS) from⟨_,rfl⟩))))))) (aq nt) aF)
   (ak (gF (pv 0) (pv 1) rfl)
   (ak (gF (pv 0) (pv 2) rfl)
   (ak (gF (pv 0) (aB FC Jb (by rfl) mC kC bC .nil ae (@ao _ _ _ _ _ (pv 1) (@ao _ _ _ _ _ (pv 2) (@ao _ _ _ _ _ fN (@ao _ _ _ _ _ (pv 3) af rfl) rfl) rfl) rfl)) rfl)
   (aq (gF (pv 0) (aB FU IH (by rfl) mU kU bU .nil ae (@ao _ _ _ _ _ (pv 1) (@ao _ _ _ _ _ (pv 2) (@ao _ _ _ _ _ (pv 4) af rfl) rfl) rfl)) rfl))))))),?_⟩
  have ki:∀{H':Hp},SameBut s0 H H'->eJ H H':=λz=>eJ.but z hs;refine⟨_,rfl,.ref fl,.ref CF,_,_,_,rfl,rfl,cF.ty hf,cF.is,_,rfl,bw ?_⟩;refine⟨_,rfl,_,_,rfl,.int n,_,rfl,bw ?_⟩;refine⟨_,rfl,_,_,rfl,rfl,_,rfl,?_⟩;rw[decide_eq_true n1];refine b0 ⟨_,_,rfl,rfl,_,rfl,?_⟩;rw[decide_eq_true n2];refine bw ?_;refine⟨_,rfl,_,rfl,s0,CS,dx,_,rfl,hs,cS.cl,cS.nF,by decide,?_⟩;refine⟨_,rfl,_,rfl,s0,CS,dx,_,rfl,ah,cS.cl,cS.nP,(by show 1<1000;decide),?_⟩
  have s1:SameBut s0 H (upd (upd H s0 (.ins CS dx (cG "its_field" (.ref fl) []))) s0 (.ins CS dx (cG "its_places" (.int n) (cG "its_field" (.ref fl) [])))):=λb u e nb=>by rw[av nb,av nb];exact e
  have OO:upd (upd H s0 (.ins CS dx (cG "its_field" (.ref fl) []))) s0 (.ins CS dx (cG "its_places" (.int n) (cG "its_field" (.ref fl) []))) s0=some (.ins CS dx [("its_field",.ref fl),("its_places",.int n)]):=ah;generalize upd (upd H s0 _) s0 _=H1 at s1 OO
  have kf:∀{H':Hp},eJ H H'->H' fl=some (.ins CF Iu (cE p)):=λk=>k _ _ hf λ_ _ z=>by injection z with _ _ z;exact absurd z (by simp[cE])
  refine⟨_,rfl,_,rfl,_,rfl,fl,Iu,p,n,"noughts",x,as,rfl,kf (ki s1),la.aaC (ki s1),λH2 D s2 fD hD=>?_⟩;have JJ:=s2 _ _ OO
  have nD:D≠s0:=λz=>by rw[z,OO] at fD;cases fD
  refine⟨_,rfl,s0,CS,dx,_,rfl,JJ,cS.cl,cS.nN,(by show 2<1000;decide),?_⟩;have MP:upd H2 s0 (.ins CS dx (cG "its_noughts" (.ref D) [("its_field",.ref fl),("its_places",.int n)])) s0=some (.ins CS dx [("its_field",.ref fl),("its_places",.int n),("its_noughts",.ref D)]):=ah
  have s3:SameBut s0 H (upd H2 s0 (.ins CS dx (cG "its_noughts" (.ref D) [("its_field",.ref fl),("its_places",.int n)]))):=λb u e nb=>by rw[av nb];exact s2 _ _ (s1 b u e nb)
  have MQ:upd H2 s0 (.ins CS dx (cG "its_noughts" (.ref D) [("its_field",.ref fl),("its_places",.int n)])) D=some (.lst (as.map V.ref)):=by rw[av nD];exact hD
  have fD0:H D=none:=by
   cases e:H D with
   |none=>rfl
   |some u=>rw[s1 D u e nD] at fD;cases fD
  generalize upd H2 s0 _=H3 at s3 MP MQ;refine⟨_,rfl,_,rfl,_,rfl,_,_,rfl,λB fB=>?_⟩;have s4:=ar (o:=.lst []) fB;have hB:upd H3 B (.lst []) B=some (.lst []):=ah;generalize upd H3 B (.lst [])=H4 at s4 hB |-;have UK:=s4 _ _ MP
  have nB:B≠s0:=λz=>by rw[z,MP] at fB;cases fB
  have nBD:D≠B:=λz=>by rw[<-z,MQ] at fB;cases fB
  refine⟨_,rfl,s0,CS,dx,_,rfl,UK,cS.cl,cS.nU,(by show 3<1000;decide),?_⟩;refine q _ D B (λb u e nb=>by rw[av nb];exact s4 _ _ (s3 b u e nb)) fD0 ?_ nBD ah (by rw[av nD];exact s4 _ _ MQ) (by rw[av nB];exact hB)
  cases e:H B with
  |none=>rfl
  |some u=>rw[s3 B u e nB] at fB;cases fB
end K73
namespace L2
open PySem PySem.Spec PyProof.Rows PySem.W
def oR (CX:GL)(X:Cx)(E:St->XK):Prop:=∀(pins:List (Addr×Obj))(σ:St)(H:Hp)(s:Dx)(e:Value)(s':Dx),Inv X pins σ H s->CX X.stack H s (E σ) e s'->X.xe e s'
section
variable {X:Cx}{CX:GL}{k:Nat}{f C:Addr}{fd:zo}{ps:zX}{sp:Sp}{E:St->XK}{x:Str}{p pos:Pos}{e:Expr}{es:De}{t:TA}{ds:oH}{dvs:List V}
theorem pT {pins:List (Addr×Obj)}:oR (aU X.prog X.w) (X.tr pins E) E:=qz
end
end L2
namespace K73
open PySem L2 PySem.W Nm Srt
abbrev HP:Stmt:=aJ (aL 45) 3
abbrev HZ:Stmt:=aJ (aL 45) 4
abbrev HI:Stmt:=aJ (aL 45) 5
abbrev HF:Stmt:=aJ (aL 45) 6
theorem F9:Av ["self"] ["self"] (aj HP):=dk (by decide +kernel)
theorem G7:Av ["self"] ["self"] (aj HZ):=dk (by decide +kernel)
theorem GI:Av ["self"] ["self"] (aj HI):=dk (by decide +kernel)
theorem Gh:Av ["self"] ["self"] (aj HF):=dk (by decide +kernel)
structure Gp (CS CF:Addr)(H:Hp)(s fl:Addr)(p n:Int)(as bs:List Addr):Prop where
 ex:∃dx Iu A B,H s=some (.ins CS dx (FO fl n A B))/\H fl=some (.ins CF Iu (cE p))/\H A=some (.lst (as.map V.ref))/\H B=some (.lst (bs.map V.ref))
 l1:as.length<=200
 l2:bs.length<=200
variable {CS CF:Addr}{H:Hp}{p:Int}
theorem Gp.same {H':Hp}{s fl:Addr}{n:Int}{as bs:List Addr}(h:Gp CS CF H s fl p n as bs)(k:aA H H'):Gp CS CF H' s fl p n as bs:=by
 obtain⟨dx,Iu,A,B,h1,h2,h3,h4⟩:=h.ex;exact⟨⟨dx,Iu,A,B,k _ _ h1,k _ _ h2,k _ _ h3,k _ _ h4⟩,h.l1,h.l2⟩
variable {C dx:Addr}
theorem Hi.ty {K:Frag}{mg:xf}(c:Hi K mg C){p:Addr}{fs:List (Str×V)}(e:H p=some (.ins C dx fs)):qF K H (.ref p) (.ref C):=.of (.ins e c.cl c.ca c.sp c.tk c.ob)
theorem Hi.is {K:Frag}{mg:xf}(c:Hi K mg C):kitOne K (.ref C) (.ref C)=some true:=by
 unfold kitOne;rw[if_pos (by simp)]
def Et (CS CF:Addr):Sp:=λvs H Q _=>∃(s fl:Addr)(p n:Int)(as bs:List Addr),vs=[.ref s]/\Gp CS CF H s fl p n as bs/\Q (.ref fl) H
def C0 (CS CF:Addr):Sp:=λvs H Q _=>∃(s fl:Addr)(p n:Int)(as bs:List Addr),vs=[.ref s]/\Gp CS CF H s fl p n as bs/\Q (.int n) H
def Dg (CS CF:Addr):Sp:=λvs H Q _=>∃(s fl:Addr)(p n:Int)(as bs:List Addr),vs=[.ref s]/\Gp CS CF H s fl p n as bs/\∀l,H l=none->Q (.ref l) (upd H l (.lst (as.map V.ref)))
def EA (CS CF:Addr):Sp:=λvs H Q _=>∃(s fl:Addr)(p n:Int)(as bs:List Addr),vs=[.ref s]/\Gp CS CF H s fl p n as bs/\∀l,H l=none->Q (.ref l) (upd H l (.lst (bs.map V.ref)))
variable {P:yn}{w:World}{K:PySem.W.Frag}{mg:xf}{base:Heap}
variable {f:Addr}{fd:zo}
theorem Fb {CF:Addr}(F:Ao K "field" "System.field" HP f fd)(cS:Hi K mg CS):Ik P w K mg base (aU P w) 1 f fd ["self"] (Et CS CF):=by
 refine F.okN F9 (λvs H Q E h=>?_) (λIv A outer s H vs Q E hr h=>?_)
 ·obtain⟨s,fl,p,n,as,bs,rfl,_⟩:=h;rfl
 ·obtain⟨s,fl,p,n,as,bs,rfl,S,q⟩:=h;obtain⟨dx,Iu,A,B,h1,h2,h3,h4⟩:=S.ex;refine⟨_,(aq (az (bO (pv 0) rfl))),?_⟩;exact⟨_,rfl,s,CS,dx,_,_,rfl,h1,cS.cl,cS.nF,rfl,q⟩
theorem Fo {CF:Addr}(F:Ao K "places" "System.places" HZ f fd)(cS:Hi K mg CS):Ik P w K mg base (aU P w) 1 f fd ["self"] (C0 CS CF):=by
 refine F.okN G7 (λvs H Q E h=>?_) (λIv A outer s H vs Q E hr h=>?_)
 ·obtain⟨s,fl,p,n,as,bs,rfl,_⟩:=h;rfl
 ·obtain⟨s,fl,p,n,as,bs,rfl,S,q⟩:=h;obtain⟨dx,Iu,A,B,h1,h2,h3,h4⟩:=S.ex;refine⟨_,(aq (az (bO (pv 0) rfl))),?_⟩;exact⟨_,rfl,s,CS,dx,_,_,rfl,h1,cS.cl,cS.nP,rfl,q⟩
theorem Fx {CF:Addr}(F:Ao K "noughts" "System.noughts" HI f fd)(cS:Hi K mg CS)(Iw:mg "list"=none):Ik P w K mg base (aU P w) 1 f fd ["self"] (Dg CS CF):=by
 refine F.okN GI (λvs H Q E h=>?_) (λIv A outer s H vs Q E hr h=>?_)
 ·obtain⟨s,fl,p,n,as,bs,rfl,_⟩:=h;rfl
 ·obtain⟨s,fl,p,n,as,bs,rfl,S,q⟩:=h;obtain⟨dx,Iu,A,B,h1,h2,h3,h4⟩:=S.ex;refine⟨_,(aq (az (dF dR (by rfl) Iw (by rfl) (@ao _ _ _ _ _ (bO (pv 0) rfl) af rfl)))),?_⟩;exact⟨_,rfl,s,CS,dx,_,_,rfl,h1,cS.cl,cS.nN,rfl,A,_,rfl,.inl (bo.of h3),q⟩
theorem E9 {CF:Addr}(F:Ao K "uppers" "System.uppers" HF f fd)(cS:Hi K mg CS)(Iw:mg "list"=none):Ik P w K mg base (aU P w) 1 f fd ["self"] (EA CS CF):=by
 refine F.okN Gh (λvs H Q E h=>?_) (λIv A outer s H vs Q E hr h=>?_)
 ·obtain⟨s,fl,p,n,as,bs,rfl,_⟩:=h;rfl
 ·obtain⟨s,fl,p,n,as,bs,rfl,S,q⟩:=h;obtain⟨dx,Iu,A,B,h1,h2,h3,h4⟩:=S.ex;refine⟨_,(aq (az (dF dR (by rfl) Iw (by rfl) (@ao _ _ _ _ _ (bO (pv 0) rfl) af rfl)))),?_⟩;exact⟨_,rfl,s,CS,dx,_,_,rfl,h1,cS.cl,cS.nU,rfl,B,_,rfl,.inl (bo.of h4),q⟩
abbrev HL:Stmt:=(aL 49)
abbrev HJ:Stmt:=(aL 50)
abbrev HX:Stmt:=(aL 52)
abbrev Hn:Stmt:=(aL 51)
theorem Hm:Av ["field"] ["field"] (aj HL):=dk (by decide +kernel)
theorem Gg:Av vq vq (aj HJ):=dk (by decide +kernel)
theorem Gj:Av DK DK (aj HX):=dk (by decide +kernel)
theorem GY:Av rG rG (aj Hn):=dk (by decide +kernel)
theorem tP:∀{ks:List Int},ks.Pairwise (· < ·)->jy (ks.map V.int)=true
 |[],_=>rfl
 |[k],_=>rfl
 |a::b::ks,h=>by
  obtain⟨h1,h2⟩:=List.pairwise_cons.mp h;have ih:=tP h2;unfold jy at ih |-;have e:((a::b::ks).map V.int).zip (((a::b::ks).map V.int).drop 1)=(V.int a,V.int b):: (((b::ks).map V.int).zip (((b::ks).map V.int).drop 1)):=rfl;rw[e,List.all_cons,ih,Bool.and_true];exact decide_eq_true (h1 b List.mem_cons_self)
variable {ks:List Int}
theorem sd (h:ks.Pairwise (· < ·))(hb:∀k∈ks,0<=k/\k<60)(hl:ks.length<4000):CP ks:=by
 refine⟨?_,hl⟩;show((ks.map V.int).all cL&&jy (ks.map V.int))=true;rw[tP h,Bool.and_true,List.all_map,List.all_eq_true];intro k hk;obtain⟨h0,h1⟩:=hb k hk;show(decide (0<=k)&&decide (k<60))=true;rw[decide_eq_true h0,decide_eq_true h1];rfl
def Em (CF:Addr):Sp:=λvs H Q _=>∃(fl Iu:Addr)(p:Int),vs=[.ref fl]/\H fl=some (.ins CF Iu (cE p))/\Q .non H
def wA:Sp:=λvs H Q _=>∃k lo hi:Int,vs=[.int k,.int lo,.int hi]/\lo<=k/\k<=hi/\Q .non H
def Cj (CF:Addr):Sp:=λvs H Q _=>∃(fl Iu:Addr)(p a b:Int),vs=[.ref fl,.int a,.int b]/\H fl=some (.ins CF Iu (cE p))/\1<=a/\a<=7/\1<=b/\b<=8/\Q .non H
theorem eW {α β:Type}{R:α->β->Prop}:∀{l:List α}{m:List β}{l':List α}{m':List β},Paired R l m->Paired R l' m'->Paired R (l++l') (m++m')
 |_,_,_,_,.nil,h=>h
 |_,_,_,_,.cons a t,h=>.cons a (eW t h)
theorem ny {NN:Addr}{Q:VK}{E:XK}{fl Iu:Addr}{k:Int}(hf:H fl=some (.ins CF Iu (cE p)))(hp:FP p)(q:∀a,H a=none->Q (.ref a) (upd H a (bA (aW p k).1 (aW p k).2))):lj CF NN [.ref fl,.int k,.int 1] H Q E:=by
 refine⟨fl,Iu,p,.int k,.int 1,"int","int",rfl,hf,.int k,.int 1,λt b e1 e2=>?_,λz=>by cases z⟩
 cases e1
 cases e2
 refine⟨fl,Iu,p,k,1,rfl,hf,hp,(by show(1:Int).natAbs<2^9000;exact Nat.lt_of_lt_of_le (by decide:(1:Int).natAbs<2^1) (Nat.pow_le_pow_right (by decide) (by decide))),λ_ z=>absurd z (by decide),λz _ a ha=>?_,λz y=>?_,λz _ u u0 u1 u2 a ha=>?_⟩
 ·subst z;exact q a ha
 ·have:=(hp.two z).2.1;rw[Int.emod_eq_of_lt (by decide) (by omega)] at y
  cases y
 ·rw[Int.mul_one,Int.emod_eq_of_lt u0 u1] at u2;subst u2;rw[Int.mul_one];have:=q a ha;rw[bH z] at this;exact this
theorem nv {H':Hp}{s:Addr}{o u:HO}(h1:H s=none)(h2:H dx=none)(ne:dx≠s)(k:SameBut s (upd (upd H dx o) s u) H'):aA H H':=λb v e=>by
 have b1:b≠s:=ax e h1;have b2:b≠dx:=ax e h2;exact k b v (by rw[av b1,av b2];exact e) b1
theorem BI {Q:Hp->Prop}{E:XK}{fl Iu l:Addr}{ys:List V}{ts:List Tm}(hf:H fl=some (.ins CF Iu (cE p)))(hp:FP p)(hl:H l=some (.lst ys))(ht:aX H ys ts)(G:BY p ts)(P:∀t∈ts,CP t.1)
 {x:Addr}(h1:H x=none)(h2:H dx=none)(ne:dx≠x)(q:∀H',aA H H'->Bj C CF H' x p (tg p ts)->Q H'):
 iM C CF [.ref x,.ref fl,.ref l] (upd (upd H dx (.own x)) x (.ins C dx [])) (λv H2=>v=.non/\Q H2) E:=by
 have hS:aA H (upd (upd H dx (.own x)) x (.ins C dx [])):=(ar h2).trans (ar (by rw[av (Ne.symm ne)];exact h1));refine⟨x,dx,fl,Iu,p,.ref l,ts,rfl,ah,hS _ _ hf,hp,.inr ⟨l,ys,rfl,hS _ _ hl,aX.keep ht (aH.of hS)⟩,G,P,λH' D zs k _ hs hD hz=>⟨rfl,?_⟩⟩;have sH:=nv h1 h2 ne k;exact q H' sH ⟨dx,fl,Iu,D,zs,hs,sH _ _ hf,hD,hz⟩
def zL (p:Int)(ks:List Int)(aL:Int):List Tm:=(ks.map λk=>([k],((1,1):Int×Int)))++[([],aW p aL)]
theorem gW (hp:FP p){k:Int}(hk:k.natAbs<128):Gn p 8 (aW p k):=by
 refine⟨bN hp k,?_,?_⟩
 ·by_cases z:p=0
  ·subst z;rw[cm];show k.natAbs<2^8;omega
  ·have:=hp.two z;rw[bH z];have h1:=Int.emod_nonneg k z;have h2:=Int.emod_lt_of_pos k (show 0<p by omega);show(k%p).natAbs<2^8;omega
 ·by_cases z:p=0
  ·subst z;rw[cm];show(1:Int).natAbs<2^8;decide
  ·rw[bH z];show(1:Int).natAbs<2^8;decide
theorem rX (hp:FP p):Gn p 8 (1,1):=by rw[<-kY hp];exact gW hp (by decide)
theorem Bf (hp:FP p){aL:Int}(l:ks.length<=8)(ht:aL.natAbs<128):BY p (zL p ks aL):=by
 have len:(zL p ks aL).length<=9:=by unfold zL;rw[List.length_append,List.length_map];show ks.length+1<=9;omega
 refine BY.of (m:=8) hp (by omega) (λt h=>?_) (by omega) (by decide)
 rcases List.mem_append.mp h with h|h
 ·obtain⟨k,_,rfl⟩:=List.mem_map.mp h;exact rX hp
 ·rw[List.mem_singleton.mp h];exact gW hp ht
theorem zJ {aL:Int}(b:∀k∈ks,0<=k/\k<60):∀t∈zL p ks aL,CP t.1:=λt h=>by
 rcases List.mem_append.mp h with h|h
 ·obtain⟨k,hk,rfl⟩:=List.mem_map.mp h;exact sd (List.pairwise_singleton _ _) (λi hi=>by rw[List.mem_singleton.mp hi];exact b k hk) (by show 1<4000;decide)
 ·rw[List.mem_singleton.mp h];exact sd .nil (λi hi=>nomatch hi) (by show 0<4000;decide)
def Ep (C CF:Addr):Sp:=λvs H Q _=>∃(fl Iu l:Addr)(p aL:Int)(ks:List Int),vs=[.ref fl,.ref l,.int aL]/\H fl=some (.ins CF Iu (cE p))/\FP p/\H l=some (.lst (ks.map V.int))/\(∀k∈ks,0<=k/\k<60)/\ks.length<=8/\aL.natAbs<128 /\
 ∀H' x,aA H H'->Bj C CF H' x p (tg p (zL p ks aL))->Q (.ref x) H'
theorem ET (F:Ao K "checked_field" "checked_field" HL f fd)(cF:vR K mg CF)(IM:mg "isinstance"=none):Ik P w K mg base (aU P w) 1 f fd ["field"] (Em CF):=by
 refine F.okN Hm (λvs H Q E h=>?_) (λIv A outer s H vs Q E hr h=>?_)
 ·obtain⟨fl,Iu,p,rfl,_⟩:=h;rfl
 ·obtain⟨fl,Iu,p,rfl,hf,q⟩:=h;refine⟨_,(aq (a9 (bJ (bF (aD aQ (by rfl) IM (by rfl) (bf (pv 0) (bf (bX (by rfl) cF.mgC (show aG (.ref CF) (.ref CF) from rfl)) af))))) (aq nt) aF)),?_⟩;exact⟨_,rfl,.ref fl,.ref CF,_,_,_,rfl,rfl,cF.ty hf,cF.is,_,rfl,bw q⟩
theorem EO {fw:Addr}{Je:zo}(F:Ao K "checked_between" "checked_between" HJ f fd)(FW:Ik P w K mg base (aU P w) 1 fw Je wg Bk)(bW:L2.ay K Je wg [])(mW:mg "is_whole"=some (.ref fw))(kW:keepIn K (.ref fw)=true):Ik P w K mg base (aU P w) 2 f fd vq wA:=by
 refine F.okN Gg (λvs H Q E h=>?_) (λIv A outer s H vs Q E hr h=>?_)
 ·obtain⟨k,lo,hi,rfl,_⟩:=h;rfl
 ·obtain⟨k,lo,hi,rfl,h1,h2,q⟩:=h;have IH:p8 1 _:=hr;refine⟨_,(aq (a9 (PW.pt (d0 (bJ (bF (aB FW IH (by rfl) mW kW bW .nil ae (@ao _ _ _ _ _ (pv 0) af rfl)))) (dw (bJ (qt iH iH (pv 1) (pv 0) (pv 2)))))) (aq nt) aF)),?_⟩;refine⟨_,rfl,.int k,"int",rfl,.int k,_,rfl,bw ?_⟩;refine⟨_,rfl,_,rfl,_,_,rfl,rfl,_,rfl,?_⟩;rw[decide_eq_true h1];refine b0 ⟨_,rfl,_,_,rfl,rfl,_,rfl,?_⟩;rw[decide_eq_true h2];exact bw q
theorem EI {f1 fb:Addr}{OT KR:zo}{tG tR:Tok}(F:Ao K "checked_guests" "checked_guests" HX f fd)(UL:mg "MOST_GUESTS"=some (.int 7 tG))(UM:mg "MOST_ROOMS"=some (.int 8 tR))
 (FF1:Ik P w K mg base (aU P w) 1 f1 OT ["field"] (Em CF))(bF1:L2.ay K OT ["field"] [])(mF1:mg "checked_field"=some (.ref f1))(kF1:keepIn K (.ref f1)=true)
 (XT:Ik P w K mg base (aU P w) 2 fb KR vq wA)(XU:L2.ay K KR vq [])(XW:mg "checked_between"=some (.ref fb))(XX:keepIn K (.ref fb)=true):Ik P w K mg base (aU P w) 3 f fd DK (Cj CF):=by
 refine F.okN Gj (λvs H Q E h=>?_) (λIv A outer s H vs Q E hr h=>?_)
 ·obtain⟨fl,Iu,p,a,b,rfl,_⟩:=h;rfl
 ·obtain⟨fl,Iu,p,a,b,rfl,hf,a1,a7,b1,b8,q⟩:=h;have IH:p8 1 _:=hr.mono (by decide);have Jj:p8 2 _:=hr
  refine⟨_,(ak (eK (aB FF1 IH (by rfl) mF1 kF1 bF1 .nil ae (@ao _ _ _ _ _ (pv 0) af rfl)))
   (ak (eK (aB XT Jj (by rfl) XW XX XU .nil ae (@ao _ _ _ _ _ (pv 1) (@ao _ _ _ _ _ au (@ao _ _ _ _ _ (bX (by rfl) UL (show aG (.int 7) (.int 7 tG) from⟨_,rfl⟩)) af rfl) rfl) rfl)))
   (aq (eK (aB XT Jj (by rfl) XW XX XU .nil ae (@ao _ _ _ _ _ (pv 2) (@ao _ _ _ _ _ au (@ao _ _ _ _ _ (bX (by rfl) UM (show aG (.int 8) (.int 8 tR) from⟨_,rfl⟩)) af rfl) rfl) rfl)))))),?_⟩
  exact⟨_,rfl,fl,Iu,p,rfl,hf,_,rfl,a,1,7,rfl,a1,a7,_,rfl,b,1,8,rfl,b1,b8,q⟩
theorem E7 {fm fs NN:Addr}{JV Kk:zo}{tM:Tok}(F:Ao K "places_sum" "places_sum" Hn f fd)(cF:vR K mg CF)(cS:Hf K mg C)(MS:Mk K C fs)
 (NP:Ik P w K mg base (aU P w) 4 fm JV Cs (lj CF NN))(NQ:L2.ay K JV Cs [.int 1 tM])(NR:L2.Meth K CF "made" fm)
 (UN:Ik P w K mg base (aU P w) 6 fs Kk vB (iM C CF))(MR:L2.ay K Kk vB []):Ik P w K mg base (aU P w) 8 f fd rG (Ep C CF):=by
 refine F.okN GY (λvs H Q E h=>?_) (λIv A outer s H vs Q E hr h=>?_)
 ·obtain⟨fl,Iu,l,p,aL,ks,rfl,_⟩:=h;rfl
 ·obtain⟨fl,Iu,l,p,aL,ks,rfl,hf,hp,hl,hk,kl,ht,q⟩:=h;have Jb:p8 4 _:=hr.mono (by decide);have UO:p8 7 _:=hr
  refine⟨_,(aq (az (gS MS UN UO (by rfl) cS.mgC MR .nil ae (@ao _ _ _ _ _ (pv 0) (@ao _ _ _ _ _ (@aC _ _ _ _ _ _ _ _ eI (ck (N:=["place","field"]) (nl:=1) (js:=[0]) (osc:=aj Hn) ⟨rfl,rfl,by decide +kernel,by decide +kernel,by decide +kernel,rfl,(.cons ⟨rfl,by decide +kernel⟩ .nil),by decide +kernel⟩ rfl
   (cC (pv 1))
   (λCq fq sq Hq=>aE (i:=0) (by show(["place","field"]:zX).Nodup;decide +kernel) rfl (Or.inl rfl) (Or.inr rfl))
   (λCq fq sq Hq=>cj)
   (λCq fq sq Hq=>(@bD _ _ _ _ _ (@ao _ _ _ _ _ (@bD _ _ _ _ _ (@ao _ _ _ _ _ (pv 0) af rfl)) (@ao _ _ _ _ _ (bY (dvs:=[.int 1]) (pv 1) cF.cl NR NP Jb NQ (.cons ⟨_,rfl⟩ .nil) ae (@ao _ _ _ _ _ au af rfl)) af rfl) rfl)))) (@cw _ _ _ _ (@ao _ _ _ _ _ (@bD _ _ _ _ _ (@ao _ _ _ _ _ (@bD _ _ _ _ _ af) (@ao _ _ _ _ _ (bY (dvs:=[.int 1]) (pv 0) cF.cl NR NP Jb NQ (.cons ⟨_,rfl⟩ .nil) ae (@ao _ _ _ _ _ (pv 2) af rfl)) af rfl) rfl)) af rfl))) af rfl) rfl)))),?_⟩
  refine⟨_,rfl,_,rfl,l,rfl,⟨_,bo.of hl⟩,?_⟩;refine iQ (a:=l) (xs:=ks.map V.int) (rest:=[some (.ref fl)]) (λj us H'=>aA H H'/\aX H' us ((ks.take j).map λk=>([k],((1,1):Int×Int)))) ⟨aA.refl _,.nil⟩ (λj us H' hj h=>?_) (λj x us H' M hj hx h hM=>?_) (λus H' h=>?_)
  ·refine⟨?_,bo.of (h.1 _ _ hl)⟩;rw[h.2.length,List.length_map,List.length_take];exact Nat.lt_of_le_of_lt (by omega:_<=8) (by decide)
  ·obtain⟨s1,hu⟩:=h;rw[List.getElem?_map] at hx;obtain⟨k,ek,rfl⟩:=Option.map_eq_some_iff.mp hx;refine jc ⟨_,rfl,sJ,λt1 JT=>?_⟩;have s2:=ar (o:=.tup [.int k]) JT;have e2:upd H' t1 (.tup [.int k]) t1=some (.tup [.int k]):=ah;generalize upd H' t1 _=H2 at s2 e2 |-;have XY:=s2 _ _ (s1 _ _ hf);refine⟨_,rfl,fl,Iu,_,rfl,XY,rfl,?_⟩;refine ny XY hp λa ha=>?_;rw[kY hp];have s3:=ar (o:=bA 1 1) ha;have e3:upd H2 a (bA 1 1) a=some (bA 1 1):=ah;generalize upd H2 a _=H3 at s3 e3 |-;refine⟨iT,λt2 J0=>hM _ _ ?_⟩;have s4:=ar (o:=.tup [.ref t1,.ref a]) J0;have sA:=s2.trans (s3.trans s4);refine⟨s1.trans sA,?_⟩;rw[List.take_add_one,ek,List.map_append];exact Paired.snoc (aX.keep hu (aH.of sA)) ⟨t2,t1,a,rfl,ah,s4 _ _ (s3 _ _ e2),s4 _ _ e3⟩
  ·obtain⟨s1,hu⟩:=h;rw[List.length_map,List.take_length] at hu;intro D hD;have s2:=ar (o:=.lst us) hD;have e2:upd H' D (.lst us) D=some (.lst us):=ah;generalize upd H' D _=H2 at s2 e2 |-;refine⟨Nat.zero_le _,λt1 JT=>?_⟩;have s3:=ar (o:=.tup []) JT;have e3:upd H2 t1 (.tup []) t1=some (.tup []):=ah;generalize upd H2 t1 _=H3 at s3 e3 |-;have XZ:=s3 _ _ (s2 _ _ (s1 _ _ hf));refine⟨_,rfl,fl,Iu,_,rfl,XZ,rfl,_,rfl,?_⟩;refine ny XZ hp λa ha=>?_;have s4:=ar (o:=bA (aW p aL).1 (aW p aL).2) ha;have e4:upd H3 a (bA (aW p aL).1 (aW p aL).2) a=some (bA (aW p aL).1 (aW p aL).2):=ah;generalize upd H3 a _=H4 at s4 e4 |-;refine⟨iT,λt2 J0=>?_⟩;have s5:=ar (o:=.tup [.ref t1,.ref a]) J0;have e5:upd H4 t2 (.tup [.ref t1,.ref a]) t2=some (.tup [.ref t1,.ref a]):=ah;generalize upd H4 t2 _=H5 at s5 e5 |-;refine⟨sJ,λL hL=>?_⟩;have s6:=ar (o:=.lst [.ref t2]) hL;have ul:=hu.length;rw[List.length_map] at ul;have SN:=s3.trans (s4.trans s5);refine⟨D,L,us,_,rfl,rfl,s6 _ _ (SN _ _ e2),ah,Nat.le_trans (by show us.length+1<=9;omega) (by decide),λD2 H7 NK s7 e7=>?_⟩;have KS:=s6.trans s7;have sA:=s2.trans (SN.trans KS);refine λx dx hx Ku ne=>?_;refine BI (ts:=zL p ks aL) (sA _ _ (s1 _ _ hf)) hp e7 ?_ (Bf hp kl ht) (zJ hk) hx Ku ne λH8 s8 hs=>q H8 x (s1.trans (sA.trans s8)) hs;exact eW (aX.keep hu (aH.of sA)) (.cons ⟨t2,t1,a,rfl,KS _ _ e5,(s4.trans (s5.trans KS)) _ _ e3,(s5.trans KS) _ _ e4⟩ .nil)
end K73
namespace L2
open PySem PySem.Spec PyProof.Rows PySem.W
section
variable {X:Cx}
def l6:Int->Nat->List Int
 |_,0=>[]
 |i,n+1=>i::l6 (i+1) n
theorem qu:∀(n:Nat)(i:Int),(l6 i n).length=n
 |0,_=>rfl
 |n+1,i=>by show(l6 (i+1) n).length+1=n+1;rw[qu n]
theorem qb:∀(us:oH)(i:Int),(∀(j:Nat)(v:Value),us[j]?=some v->∃t,v=Value.int (i+(j:Nat)) t)->aM ((l6 i us.length).map V.int) us
 |[],_,_=>.nil
 |u::us,i,h=>by
  obtain⟨t,e⟩:=h 0 u rfl;refine .cons ⟨t,by rw[e];simp⟩ (qb us (i+1) λj v hv=>?_);obtain⟨t,e⟩:=h (j+1) v (by simpa using hv);refine⟨t,?_⟩;rw[e];congr 1;omega
def yG (ta:TA):TE:=λσ H Q=>ta σ H λvs H1=>∃i j:Int,vs=[.int i,.int j]/\(-(2^62)<=i/\i<2^62/\-(2^62)<=j/\j<2^62)/\(j-i).toNat<=4000/\∀D,H1 D=none->Q (.ref D) (upd H1 D (.lst ((l6 i (j-i).toNat).map V.int)))
theorem qW {a b:Expr}{ta:TA}{p p2 pos Jn:Pos}(ha:PA X [a,b] ta)(hc:X.calm=true)(OI:Gl X "list")(OJ:X.mg "list"=none)(UP:Gl X "range")(UQ:X.mg "range"=none)(hs:starEach [a,b] X.env=[(false,eval a X.env),(false,eval b X.env)]:=by rfl)(JJ:starEach [b] X.env=[(false,eval b X.env)]:=by rfl):
 PE X (.Call (.Name "list" p) [.Call (.Name "range" p2) [a,b] [] Jn] [] pos) (yG ta):=by
 intro pins s σ H Q I h;refine wpAny_Call_Name_kw (cN I OI OJ (by rfl) ?_ (by decide) (by decide));refine callWith_type1 ?_ (aO rfl) rfl;rw[aO rfl];show wpAny _ _ (spliced ((false,eval (.Call (.Name "range" p2) [a,b] [] Jn) X.env):: backTo pos (starEach [] X.env))) _ _ s;refine Calls.spliced_cons ?_;refine wpAny_Call_Name_kw (cN I UP UQ boot_range ?_ (by decide) (by decide));refine callWith_type1 (bK (ha Jn pins s σ H _ I h) λus s1 z'=>?_) (by rw[hs,JJ]) (by rw[JJ];rfl);obtain⟨vs,H1,I1,r1,q1⟩:=z';obtain⟨i,j,e,⟨q1,q2,q3,q4⟩,hz,q⟩:=q1;subst e
 cases r1 with
 |cons r rr =>
  cases rr with
  |cons r' rr =>
   cases rr
   obtain⟨t,rfl⟩:=r;obtain⟨t',rfl⟩:=r';refine call_range_2 ?_;refine Calls.spliced_nil ?_;have I2:Inv X pins σ H1 {s1 with heap:=s1.heap.push {cls:=.type "range",data:=.fields #[.int i t,.int j t',.int 1 s1.toks]},toks:=s1.toks+1}:=I1.kept λb o e=>Heap.get?_push_of_some _ e;refine call_list_range (n:=(j-i).toNat) (I.ok.hd hc) (IsRange.new ..) (small_one q1 q2 q3 q4) (by rw[rangeSize_one];split <;> omega) (Nat.le_trans hz (by decide)) λh' tk acc c hk hD hI=>?_
   have fr:(s1.heap.push {cls:=.type "range",data:=.fields #[.int i t,.int j t',.int 1 s1.toks]}).get? (s1.heap.push {cls:=.type "range",data:=.fields #[.int i t,.int j t',.int 1 s1.toks]}).objs.size=none:=by
    cases e:(s1.heap.push {cls:=.type "range",data:=.fields #[.int i t,.int j t',.int 1 s1.toks]}).get? (s1.heap.push {cls:=.type "range",data:=.fields #[.int i t,.int j t',.int 1 s1.toks]}).objs.size with
    |none=>rfl
    |some o=>exact absurd (Heap.lt_size e) (Nat.lt_irrefl _)
   have hv:aM ((l6 i (j-i).toNat).map V.int) acc.toList:=by
    have z:=qb acc.toList i λk v hv=>by
     obtain⟨t,e⟩:=hI.2 k v (by simpa using hv);exact⟨t,by rw[e];simp⟩
    rw[Array.length_toList,hI.1] at z;exact z
   exact⟨.ref _,_,I2.newObj (t':=tk) (o:=.lst ((l6 i (j-i).toNat).map V.int)) hk fr ⟨by rw[List.length_map,qu];exact Nat.le_trans hz (by decide),acc.toList,c,hv,by simpa using hD⟩,rfl,q _ (I2.abk fr)⟩
def nZ (i c:Int)(n:Nat):List Int:=(List.range n).map λ(k:Nat)=>i+(k:Int)*c
theorem ym (i c:Int)(n:Nat):(nZ i c n).length=n:=by unfold nZ;rw[List.length_map,List.length_range]
theorem uS {us:oH}{i c:Int}(h:∀(j:Nat)(v:Value),us[j]?=some v->∃t,v=Value.int (i+j*c) t):aM ((nZ i c us.length).map V.int) us:=by
 have gen:∀(us:oH)(k:Nat),(∀(j:Nat)(v:Value),us[j]?=some v->∃t,v=Value.int (i+(k+j:Nat)*c) t)->aM (((List.range us.length).map λj=>i+((k+j:Nat):Int)*c).map V.int) us:=by
  intro us
  induction us with
  |nil=>intro k _;exact .nil
  |cons u us ih =>
   intro k h;obtain⟨t,e⟩:=h 0 u rfl;rw[List.length_cons,List.range_succ_eq_map,List.map_cons,List.map_cons];refine .cons ⟨t,by rw[e]⟩ ?_
   have:=ih (k+1) λj v hv=>by
    obtain⟨t,e⟩:=h (j+1) v (by simpa using hv);exact⟨t,by rw[e,show k+(j+1)=k+1+j from by omega]⟩
   have e2:((List.range us.length).map λj=>i+((k+1+j:Nat):Int)*c)=(List.range us.length).map ((λj=>i+((k+j:Nat):Int)*c) ∘ Nat.succ):=by
    refine List.map_congr_left λj _=>?_;show _=i+((k+(j+1):Nat):Int)*c;rw[show k+(j+1)=k+1+j from by omega]
   rw[e2] at this;simpa[List.map_map] using this
 have:=gen us 0 λj v hv=>by rw[Nat.zero_add];exact h j v hv
 simpa[nZ] using this
def vD (ta:TA):TE:=λσ H Q=>ta σ H λvs H1=>∃(i j c:Int)(n:Nat),vs=[.int i,.int j,.int c]/\(0<=i/\i<100000/\0<=j/\j<100000/\1<=c/\c<100000)/\Builtin.Range.rangeSize i j c=n/\n<=4000/\∀D,H1 D=none->Q (.ref D) (upd H1 D (.lst ((nZ i c n).map V.int)))
theorem vd {i j c:Int}(h:0<=i/\i<100000/\0<=j/\j<100000/\1<=c/\c<100000):Builtin.Range.small i j c=true:=by
 obtain⟨h1,h2,h3,h4,h5,h6⟩:=h
 have hs:0<=Builtin.Range.rangeSize i j c/\Builtin.Range.rangeSize i j c<=100000:=by
  unfold Builtin.Range.rangeSize;rw[if_pos (show c>0 by omega)]
  split
  ·have a:=Int.ediv_nonneg (a:=j-i-1) (b:=c) (by omega) (by omega);have b:=Int.ediv_le_self (a:=j-i-1) c (by omega);omega
  ·omega
 unfold Builtin.Range.small;generalize Builtin.Range.rangeSize i j c=z at hs;simp only[Builtin.Range.rangeFitsLong,Bool.and_eq_true,Bool.or_eq_true,decide_eq_true_eq,beq_iff_eq];refine⟨by omega,.inr ?_⟩;rw[if_pos (show c>0 by omega),decide_eq_true (by omega),decide_eq_true (by omega)];rfl
theorem qa {a b c:Expr}{ta:TA}{p p2 pos Jn:Pos}(ha:PA X [a,b,c] ta)(hc:X.calm=true)(OI:Gl X "list")(OJ:X.mg "list"=none)(UP:Gl X "range")(UQ:X.mg "range"=none)(hs:starEach [a,b,c] X.env=[(false,eval a X.env),(false,eval b X.env),(false,eval c X.env)]:=by rfl)(JJ:starEach [b,c] X.env=[(false,eval b X.env),(false,eval c X.env)]:=by rfl):
 PE X (.Call (.Name "list" p) [.Call (.Name "range" p2) [a,b,c] [] Jn] [] pos) (vD ta):=by
 intro pins s σ H Q I h;refine wpAny_Call_Name_kw (cN I OI OJ (by rfl) ?_ (by decide) (by decide));refine callWith_type1 ?_ (aO rfl) rfl;rw[aO rfl];show wpAny _ _ (spliced ((false,eval (.Call (.Name "range" p2) [a,b,c] [] Jn) X.env):: backTo pos (starEach [] X.env))) _ _ s;refine Calls.spliced_cons ?_;refine wpAny_Call_Name_kw (cN I UP UQ boot_range ?_ (by decide) (by decide));refine callWith_type1 (bK (ha Jn pins s σ H _ I h) λus s1 z'=>?_) (by rw[hs,JJ]) (by rw[JJ];rfl);obtain⟨vs,H1,I1,r1,q1⟩:=z';obtain⟨i,j,k,n,e,B,hn,hz,q⟩:=q1;subst e
 cases r1 with
 |cons r rr =>
  cases rr with
  |cons r' rr =>
   cases rr with
   |cons r'' rr =>
   cases rr
   obtain⟨t,rfl⟩:=r;obtain⟨t',rfl⟩:=r';obtain⟨OU,rfl⟩:=r'';refine call_range_3 (by omega) ?_;refine Calls.spliced_nil ?_;have I2:Inv X pins σ H1 {s1 with heap:=s1.heap.push {cls:=.type "range",data:=.fields #[.int i t,.int j t',.int k OU]},toks:=s1.toks}:=I1.kept λb o e=>Heap.get?_push_of_some _ e;refine call_list_range (n:=n) (I.ok.hd hc) (IsRange.new ..) (vd B) hn (Nat.le_trans hz (by decide)) λh' tk acc c hk hD hI=>?_
   have fr:(s1.heap.push {cls:=.type "range",data:=.fields #[.int i t,.int j t',.int k OU]}).get? (s1.heap.push {cls:=.type "range",data:=.fields #[.int i t,.int j t',.int k OU]}).objs.size=none:=by
    cases e:(s1.heap.push {cls:=.type "range",data:=.fields #[.int i t,.int j t',.int k OU]}).get? (s1.heap.push {cls:=.type "range",data:=.fields #[.int i t,.int j t',.int k OU]}).objs.size with
    |none=>rfl
    |some o=>exact absurd (Heap.lt_size e) (Nat.lt_irrefl _)
   have hv:aM ((nZ i k n).map V.int) acc.toList:=by
    have z:=uS (us:=acc.toList) (i:=i) (c:=k) λj v hv=>hI.2 j v (by simpa using hv);rw[Array.length_toList,hI.1] at z;exact z
   exact⟨.ref _,_,I2.newObj (t':=tk) (o:=.lst ((nZ i k n).map V.int)) hk fr ⟨by rw[List.length_map,ym];exact Nat.le_trans hz (by decide),acc.toList,c,hv,by simpa using hD⟩,rfl,q _ (I2.abk fr)⟩
end
end L2
namespace K73
open PySem L2 PySem.W Nm Srt
abbrev F2:Stmt:=(aL 53)
theorem Dr:Av ["field","many","rooms","of_guests","of_rooms"] DK (aj F2):=dk (by decide +kernel)
abbrev jO (C CF:Addr)(p:Int)(H:Hp):List Addr->List (List Tm)->Prop:=Paired (λs ts=>Bj C CF H s p ts)
variable {C CF:Addr}{p:Int}{H:Hp}
theorem jO.same {H':Hp}{ys:List Addr}{ts:List (List Tm)}(h:jO C CF p H ys ts)(k:aA H H'):jO C CF p H' ys ts:=Paired.aax h λ_ _ z=>Bj.same z k
theorem xT (b g:Nat):l6 ((g*b:Nat):Int) b=fQ b g:=by
 have gen:∀(n:Nat)(i:Int),l6 i n=(List.range n).map λ(r:Nat)=>i+(r:Int):=by
  intro n
  induction n with
  |zero=>intro i;rfl
  |succ n ih =>
   intro i;rw[List.range_succ_eq_map,List.map_cons,List.map_map];show i::l6 (i+1) n=_;rw[ih (i+1)];refine congr (congrArg _ (by simp)) (List.map_congr_left λr _=>?_);show i+1+(r:Int)=i+((r+1:Nat):Int);omega
 rw[gen];unfold fQ
 exact List.map_congr_left λr _=>by show((g*b:Nat):Int)+(r:Int)=((g*b+r:Nat):Int);omega
theorem wB (a b r:Nat):nZ (r:Int) (b:Int) a=fA a b r:=by
 unfold nZ fA;refine List.map_congr_left λg _=>?_;push_cast;exact Int.add_comm _ _
variable {a b:Nat}
theorem v7 {r:Nat}(ha:1<=a)(hr:r<b):Builtin.Range.rangeSize (r:Int) ((a*b:Nat):Int) b=a:=by
 obtain⟨a,rfl⟩:∃c,a=c+1:=⟨a-1,by omega⟩
 have e:(((a+1)*b:Nat):Int)=a*b+b:=by push_cast;rw[Int.add_mul,Int.one_mul]
 have hb:(0:Int)<=a*b:=Int.mul_nonneg (by omega) (by omega);unfold Builtin.Range.rangeSize;rw[if_pos (by omega),e,if_pos (by omega)]
 have:((a:Int)*b+b-r-1)/b=a:=by
  rw[show(a:Int)*b+b-r-1=(b-r-1)+a*b from by omega,Int.add_mul_ediv_right _ _ (by omega),Int.ediv_eq_zero_of_lt (by omega) (by omega)];omega
 rw[this];rfl
theorem rH {b g r:Nat}(hg:g<a)(hr:r<b):g*b+r<a*b:=by
 have:=Nat.mul_le_mul_right b (show g+1<=a by omega);rw[Nat.add_mul,Nat.one_mul] at this;omega
theorem EW (ha:a<=7)(hb:b<=8):a*b<=56:=Nat.mul_le_mul ha hb
theorem oQ {g:Nat}(hg:g<a)(ha:a<=7)(hb:b<=8):∀k∈fQ b g,0<=k/\k<(a*b:Nat):=λk hk=>by
 obtain⟨r,hr,rfl⟩:=List.mem_map.mp hk;have:=rH hg (List.mem_range.mp hr);omega
theorem ow {r:Nat}(hr:r<b)(ha:a<=7)(hb:b<=8):∀k∈fA a b r,0<=k/\k<(a*b:Nat):=λk hk=>by
 obtain⟨g,hg,rfl⟩:=List.mem_map.mp hk;have:=rH (List.mem_range.mp hg) hr;omega
theorem lr (b g:Nat):(fQ b g).length=b:=by unfold fQ;rw[List.length_map,List.length_range]
theorem j0 (a b r:Nat):(fA a b r).length=a:=by unfold fA;rw[List.length_map,List.length_range]
variable {n:Int}
theorem jY {ts:List Tm}(hn:0<=n)(h:∀t∈ts,∀k∈t.1,k<n):dq ts<=n:=by
 unfold dq
 by_cases ne:(ts.filter λt=>!t.1.isEmpty).map Gi=[]
 ·rw[ne];exact hn
 ·obtain⟨b,e,b1,b2⟩:=jf ne;rw[e];show b<=n;obtain⟨t,ht,rfl⟩:=List.mem_map.mp b1;obtain⟨JT,J0⟩:=List.mem_filter.mp ht
  have ne1:t.1≠[]:=by intro z;rw[z] at J0;cases J0
  have:t.1.getLastD 0∈t.1:=by
   rw[List.getLastD_eq_getLast?,List.getLast?_eq_some_getLast ne1];exact List.getLast_mem ne1
  have:=h t JT _ this;unfold Gi;omega
theorem wO {d:List Tm}{t e:Tm}(h:e∈du p d t):(∃x∈d,e.1=x.1)\/e.1=t.1:=by
 unfold du at h
 split at h
 ·obtain⟨x,hx,rfl⟩:=List.mem_map.mp h;refine .inl ⟨x,hx,?_⟩
  split <;> rfl
 ·rcases List.mem_append.mp h with h|h
  ·exact .inl ⟨e,h,rfl⟩
  ·have:e=t:=by simpa using h
   exact .inr (by rw[this])
theorem ll :∀(ts d:List Tm)(e:Tm),e∈ts.foldl (du p) d->(∃x∈d,e.1=x.1)\/∃x∈ts,e.1=x.1
 |[],d,e,h=>.inl ⟨e,h,rfl⟩
 |t::ts,d,e,h=>by
  rcases ll ts (du p d t) e h with⟨x,hx,ex⟩|⟨x,hx,ex⟩
  ·rcases wO hx with⟨y,hy,ey⟩|ey
   ·exact .inl ⟨y,hy,ex.trans ey⟩
   ·exact .inr ⟨t,List.mem_cons_self,ex.trans ey⟩
  ·exact .inr ⟨x,List.mem_cons_of_mem _ hx,ex⟩
theorem ui {raw:List Tm}{t:Tm}(h:t∈tg p raw):∃x∈raw,t.1=x.1:=by
 rcases ll raw [] t (List.mem_filter.mp ((dJ _).mem_iff.mp h)).1 with⟨x,hx,_⟩|⟨x,hx,e⟩
 ·exact nomatch hx
 ·exact⟨x,hx,e⟩
variable {row:List Int}
theorem gA {t:Tm}(h:t∈tg p (eF p row)):t.1=[]\/∃k∈row,t.1=[k]:=by
 obtain⟨x,hx,e⟩:=ui h
 rcases List.mem_cons.mp hx with rfl|hx
 ·exact .inl e
 ·obtain⟨k,hk,rfl⟩:=List.mem_map.mp hx;exact .inr ⟨k,hk,e⟩
theorem CZ (hp:FP p):∀t∈eF p row,Gn p 8 t.2:=λt ht=>by
 rcases List.mem_cons.mp ht with rfl|ht
 ·exact gW hp (by decide)
 ·obtain⟨k,_,rfl⟩:=List.mem_map.mp ht;exact rX hp
theorem zO {p:Int}(hp:FP p):(tg p (eF p row)).length<=row.length+1:=by
 have g:=(di (m:=8) hp (row.length+1) (eF p row) (by unfold eF;simp) (CZ hp)).2.2;rw[(dJ _).length_eq];exact Nat.le_trans (List.length_filter_le _ _) g
theorem yR {s:Addr}(hp:FP p)(n0:0<=n)(l:row.length<=8)(b:∀k∈row,0<=k/\k<n)(h:Bj C CF H s p (tg p (eF p row))):WX C CF p n H (.ref s) true:=by
 have len:=zO (p:=p) hp (row:=row)
 have sw:SW C CF H s p (tg p (eF p row)):=⟨h,hp,by omega,λt ht=>by
  rcases gA ht with e|⟨k,_,e⟩
  ·rw[e];decide
  ·rw[e];show 1<4000;decide⟩
 have r:dq (tg p (eF p row))<=n:=jY n0 λt ht k hk=>by
  rcases gA ht with e|⟨k',hk',e⟩
  ·rw[e] at hk;cases hk
  ·rw[e] at hk;rw[List.mem_singleton.mp hk];exact(b k' hk').2
 have:=WX.sum (p:=p) (n:=n) sw;rw[decide_eq_true rfl,decide_eq_true r] at this;exact this
theorem Ii {CS:Addr}{Q:Hp->Prop}{E:XK}{x:V}{fl:Addr}{as:List Addr}(r:Rt C CF p n H x fl as){s dx:Addr}(h1:H s=none)(h2:H dx=none)(ne:dx≠s)(q:∀H',aA H H'->Gp CS CF H' s fl p n as []->Q H'):
 Dy CS C CF [.ref s,.ref fl,.int n,x,.non] (upd (upd H dx (.own s)) s (.ins CS dx [])) (λv H2=>v=.non/\Q H2) E:=by
 have hS:aA H (upd (upd H dx (.own s)) s (.ins CS dx [])):=(ar h2).trans (ar (by rw[av (Ne.symm ne)];exact h1));refine⟨s,dx,fl,x,p,n,as,rfl,ah,r.aaC (.of hS),λH' A B k _ _ _ hs hA hB=>⟨rfl,?_⟩⟩;have sH:=nv h1 h2 ne k;obtain⟨Iu,hf⟩:=r.f;exact q H' sH ⟨⟨dx,Iu,A,B,hs,sH _ _ hf,hA,hB⟩,r.l.len,Nat.zero_le _⟩
theorem uw (hp:FP p)(ks:List Int):tg p (zL p ks (-1))=tg p (eF p ks):=by
 obtain⟨R,i,v,V⟩:=hp.v
 have h1:cp p (zL p ks (-1)):=λt ht=>by
  rcases List.mem_append.mp ht with ht|ht
  ·obtain⟨k,_,rfl⟩:=List.mem_map.mp ht;exact iN hp
  ·rw[List.mem_singleton.mp ht];exact bN hp _
 refine BP V hp.nn h1 (iB hp ks) λF=>?_;unfold zL;rw[fE];show _+(v (aW p (-1))*F []+0)=v (aW p (-1))*F []+_;grind
def Fh (CS C CF:Addr):Sp:=λvs H Q _=>∃(fl Iu:Addr)(p:Int)(a b:Nat),vs=[.ref fl,.int a,.int b]/\H fl=some (.ins CF Iu (cE p))/\FP p/\1<=a/\a<=7/\1<=b/\b<=8 /\
 ∀H' sy as,aA H H'->Gp CS CF H' sy fl p ((a*b:Nat):Int) as []->jO C CF p H' as ((qk a b).map λr=>tg p (eF p r))->Q (.ref sy) H'
variable {P:yn}{w:World}{K:PySem.W.Frag}{mg:xf}{base:Heap}
set_option maxHeartbeats 1000000 in
theorem E4 {f fc fp fy CS:Addr}{fd KQ Jm OV:zo}(F:Ao K "guests" "guests" F2 f fd)(cY:Hi K mg CS)(MY:Mk K CS fy)(Iy:mg "range"=none)(Iw:mg "list"=none)
 (UR:Ik P w K mg base (aU P w) 3 fc KQ DK (Cj CF))(US:L2.ay K KQ DK [])(UT:mg "checked_guests"=some (.ref fc))(UU:keepIn K (.ref fc)=true)
 (X0:Ik P w K mg base (aU P w) 8 fp Jm rG (Ep C CF))(X1:L2.ay K Jm rG [])(X2:mg "places_sum"=some (.ref fp))(X3:keepIn K (.ref fp)=true)
 (FYI:Ik P w K mg base (aU P w) 5 fy OV vU (Dy CS C CF))(UW:L2.ay K OV vU [.none]):Ik P w K mg base (aU P w) 9 f fd DK (Fh CS C CF):=by
 refine F.okN Dr (λvs H Q E h=>?_) (λIv A outer s H vs Q E hr h=>?_)
 ·obtain⟨fl,Iu,p,a,b,rfl,_⟩:=h;rfl
 ·obtain⟨fl,Iu,p,a,b,rfl,hf,hp,a1,a7,b1,b8,q⟩:=h;have JR:p8 3 _:=hr.mono (by decide);have SO:p8 6 _:=hr.mono (by decide);have NM:p8 8 _:=hr
  refine⟨_,(ak (eK (aB UR JR (by rfl) UT UU US .nil ae (@ao _ _ _ _ _ (pv 0) (@ao _ _ _ _ _ (pv 1) (@ao _ _ _ _ _ (pv 2) af rfl) rfl) rfl)))
   (ak (jR (i:=3) (N:=["guest","field","rooms"]) (nl:=1) (js:=[0,2]) (osc:=aj F2) ⟨rfl,rfl,by decide +kernel,by decide +kernel,by decide +kernel,rfl,(.cons ⟨rfl,by decide +kernel⟩ (.cons ⟨rfl,by decide +kernel⟩ .nil)),by decide +kernel⟩ rfl Dr.nd rfl (Or.inl rfl)
    (cH (by rfl) Iy (@ao _ _ _ _ _ (pv 1) af rfl))
    (λCq fq sq Hq=>aE (i:=0) (by show(["guest","field","rooms"]:zX).Nodup;decide +kernel) rfl (Or.inl rfl) (Or.inr rfl))
    (λCq fq sq Hq=>cj)
    (λCq fq sq Hq=>(aB X0 NM (by rfl) X2 X3 X1 .nil ae (@ao _ _ _ _ _ (pv 1) (@ao _ _ _ _ _ (qW (@ao _ _ _ _ _ (@aC _ _ _ _ _ _ _ _ bz (pv 0) (pv 2)) (@ao _ _ _ _ _ (@aC _ _ _ _ _ _ _ _ bz (@aC _ _ _ _ _ _ _ _ dG (pv 0) au) (pv 2)) af rfl) rfl) rfl (by rfl) Iw (by rfl) Iy) (@ao _ _ _ _ _ (mz i8 au) af rfl) rfl) rfl))) (by rfl))
   (ak (jR (i:=4) (N:=["room","field","many","rooms"]) (nl:=1) (js:=[0,1,2]) (osc:=aj F2) ⟨rfl,rfl,by decide +kernel,by decide +kernel,by decide +kernel,rfl,(.cons ⟨rfl,by decide +kernel⟩ (.cons ⟨rfl,by decide +kernel⟩ (.cons ⟨rfl,by decide +kernel⟩ .nil))),by decide +kernel⟩ rfl Dr.nd rfl (Or.inl rfl)
    (cH (by rfl) Iy (@ao _ _ _ _ _ (pv 2) af rfl))
    (λCq fq sq Hq=>aE (i:=0) (by show(["room","field","many","rooms"]:zX).Nodup;decide +kernel) rfl (Or.inl rfl) (Or.inr rfl))
    (λCq fq sq Hq=>cj)
    (λCq fq sq Hq=>(aB X0 NM (by rfl) X2 X3 X1 .nil ae (@ao _ _ _ _ _ (pv 1) (@ao _ _ _ _ _ (qa (@ao _ _ _ _ _ (pv 0) (@ao _ _ _ _ _ (@aC _ _ _ _ _ _ _ _ bz (pv 2) (pv 3)) (@ao _ _ _ _ _ (pv 3) af rfl) rfl) rfl) rfl (by rfl) Iw (by rfl) Iy) (@ao _ _ _ _ _ (mz i8 au) af rfl) rfl) rfl))) (by rfl))
   (aq (az (gS (dvs:=[.non]) MY FYI SO (by rfl) cY.mgC UW (.cons rfl .nil) ae (@ao _ _ _ _ _ (pv 0) (@ao _ _ _ _ _ (@aC _ _ _ _ _ _ _ _ bz (pv 1) (pv 2)) (@ao _ _ _ _ _ (@aC _ _ _ _ _ _ _ _ eI (pv 3) (pv 4)) af rfl) rfl) rfl) (by decide) (aO rfl) (by rw[aO rfl,aO rfl];rfl))))))),?_⟩
  refine⟨_,rfl,_,rfl,_,rfl,fl,Iu,p,a,b,rfl,hf,by omega,by omega,by omega,by omega,?_⟩;have bB:∀{i:Int},0<=i->i<128->B 9000 i:=λh0 h1=>Nat.lt_of_lt_of_le (by omega:_<2^8) (Nat.pow_le_pow_right (by decide) (by decide));have m56:=EW a7 b8;refine⟨_,rfl,(a:Int),rfl,by omega,by omega,?_⟩;refine en (lo:=0) (n:=(a:Int).toNat) (rest:=[some (.ref fl),some (.int b)]) (λj us H'=>aA H H'/\∃as:List Addr,us=as.map V.ref/\jO C CF p H' as (((List.range j).map (fQ b)).map λr=>tg p (eF p r))) ⟨aA.refl _,[],rfl,.nil⟩ (λj us H' hj h=>?_) (λj us H' M hj h hM=>?_) (λus H' h=>?_)
  ·obtain⟨_,as,rfl,sm⟩:=h;rw[List.length_map,sm.length,List.length_map,List.length_map,List.length_range];exact Nat.lt_of_le_of_lt (by omega:j<=7) (by decide)
  ·obtain⟨s1,as,rfl,sm⟩:=h
   have hj:j<a:=by omega
   have e1:(0+(j:Int))*b=((j*b:Nat):Int):=by rw[Int.zero_add];push_cast;rfl
   have e2:(0+(j:Int)+1)*b=((j*b+b:Nat):Int):=by rw[Int.zero_add,Int.add_mul,Int.one_mul];push_cast;rfl
   have lt:=rH (b:=b) (r:=b-1) hj (by omega);refine jc ⟨_,rfl,_,rfl,_,rfl,_,_,rfl,rfl,⟨bB (by omega) (by omega),bB (by omega) (by omega)⟩,_,rfl,_,_,rfl,rfl,_,rfl,_,_,rfl,rfl,⟨bB (by omega) (by omega),bB (by omega) (by omega)⟩,?_⟩;refine⟨_,_,rfl,?_,?_,λD hD=>?_⟩
   ·rw[e1,e2];exact⟨by omega,by omega,by omega,by omega⟩
   ·rw[e1,e2];omega
   rw[e1,e2,show(((j*b+b:Nat):Int)-((j*b:Nat):Int)).toNat=b from by omega,xT];have s2:=ar (o:=.lst ((fQ b j).map V.int)) hD;have e3:upd H' D (.lst ((fQ b j).map V.int)) D=some (.lst ((fQ b j).map V.int)):=ah;generalize upd H' D _=H2 at s2 e3 |-;refine⟨_,rfl,fl,Iu,D,p,-1,fQ b j,rfl,s2 _ _ (s1 _ _ hf),hp,e3,λk hk=>?_,by rw[lr];exact b8,by decide,λH3 x s3 hx=>hM _ _ ⟨s1.trans (s2.trans s3),as++[x],by simp,?_⟩⟩
   ·have:=oQ hj a7 b8 k hk;omega
   ·rw[List.range_succ,List.map_append,List.map_append];rw[uw hp] at hx;exact Paired.snoc (sm.same (s2.trans s3)) hx
  ·obtain⟨s1,as,rfl,sm⟩:=h;rw[Int.toNat_natCast] at sm;intro D hD;have s2:=ar (o:=.lst (as.map V.ref)) hD;have e2:upd H' D (.lst (as.map V.ref)) D=some (.lst (as.map V.ref)):=ah;have sm:=sm.same s2;have Jz:=s1.trans s2;generalize upd H' D _=H2 at s2 e2 sm Jz |-;clear s1 s2 hD;refine⟨_,rfl,(b:Int),rfl,by omega,by omega,?_⟩;refine en (lo:=0) (n:=(b:Int).toNat) (rest:=[some (.ref fl),some (.int a),some (.int b)]) (λj us H'=>aA H2 H'/\∃bs:List Addr,us=bs.map V.ref/\jO C CF p H' bs (((List.range j).map (fA a b)).map λr=>tg p (eF p r))) ⟨aA.refl _,[],rfl,.nil⟩ (λj us H' hj h=>?_) (λj us H' M hj h hM=>?_) (λus H' h=>?_)
   ·obtain⟨_,bs,rfl,sm⟩:=h;rw[List.length_map,sm.length,List.length_map,List.length_map,List.length_range];exact Nat.lt_of_le_of_lt (by omega:j<=8) (by decide)
   ·obtain⟨s1,bs,rfl,LX⟩:=h
    have hj:j<b:=by omega
    have e1:(a:Int)*b=((a*b:Nat):Int):=by push_cast;rfl
    refine jc ⟨_,rfl,_,rfl,_,rfl,_,rfl,_,_,rfl,rfl,⟨bB (by omega) (by omega),bB (by omega) (by omega)⟩,_,rfl,?_⟩;refine⟨_,_,_,a,rfl,?_,?_,by omega,λD3 MQ=>?_⟩
    ·rw[e1];exact⟨by omega,by omega,by omega,by omega,by omega,by omega⟩
    ·rw[e1,Int.zero_add];exact v7 a1 hj
    rw[Int.zero_add,wB];have s2:=ar (o:=.lst ((fA a b j).map V.int)) MQ;have e3:upd H' D3 (.lst ((fA a b j).map V.int)) D3=some (.lst ((fA a b j).map V.int)):=ah;generalize upd H' D3 _=H3 at s2 e3 |-;refine⟨_,rfl,fl,Iu,D3,p,-1,fA a b j,rfl,s2 _ _ (s1 _ _ (Jz _ _ hf)),hp,e3,λk hk=>?_,by rw[j0];omega,by decide,λH4 x s3 hx=>hM _ _ ⟨s1.trans (s2.trans s3),bs++[x],by simp,?_⟩⟩
    ·have:=ow hj a7 b8 k hk;omega
    ·rw[List.range_succ,List.map_append,List.map_append];rw[uw hp] at hx;exact Paired.snoc (LX.same (s2.trans s3)) hx
   ·obtain⟨s1,bs,rfl,LX⟩:=h;rw[Int.toNat_natCast] at LX;intro D3 MQ;have s2:=ar (o:=.lst (bs.map V.ref)) MQ;have e3:upd H' D3 (.lst (bs.map V.ref)) D3=some (.lst (bs.map V.ref)):=ah;have LX:=LX.same s2;have KU:=s1.trans s2;generalize upd H' D3 _=H3 at e3 LX KU |-;have X4:=sm.same KU;have l1:=X4.length;have l2:=LX.length;rw[List.length_map,List.length_map,List.length_range] at l1 l2;refine⟨_,rfl,_,rfl,_,rfl,_,_,rfl,rfl,⟨bB (by omega) (by omega),bB (by omega) (by omega)⟩,_,rfl,_,rfl,?_⟩;refine⟨D,D3,_,_,rfl,rfl,KU _ _ e2,e3,by rw[List.length_map,List.length_map];exact Nat.le_trans (by omega:_<=15) (by decide),λD4 H4 _ s4 e4=>?_⟩;refine λx dx hx Ku ne=>?_;rw[<-List.map_append] at e4;have hR:=eW (X4.same s4) (LX.same s4);rw[<-List.map_append] at hR
    have rt:Rt C CF p ((a:Int)*b) H4 (.ref D4) fl (as++bs):=by
     refine⟨⟨Iu,s4 _ _ (KU _ _ (Jz _ _ hf))⟩,?_,?_,⟨⟨D4,rfl,e4⟩,by rw[List.length_append];omega,λu hu=>?_⟩⟩
     ·have:=Nat.mul_le_mul a1 b1
      have e1:(a:Int)*b=((a*b:Nat):Int):=by push_cast;rfl
      omega
     ·have e1:(a:Int)*b=((a*b:Nat):Int):=by push_cast;rfl
      omega
     ·obtain⟨i,hi⟩:=List.mem_iff_getElem?.mp hu;obtain⟨ts,et,hs⟩:=bc hR hi;obtain⟨row,KW,rfl⟩:=List.mem_map.mp (List.mem_of_getElem? et)
      have e1:(a:Int)*b=((a*b:Nat):Int):=by push_cast;rfl
      rw[e1]
      rcases List.mem_append.mp KW with h|h
      ·obtain⟨g,hg,rfl⟩:=List.mem_map.mp h;exact yR hp (by omega) (by rw[lr];exact b8) (oQ (List.mem_range.mp hg) a7 b8) hs
      ·obtain⟨g,hg,rfl⟩:=List.mem_map.mp h;exact yR hp (by omega) (by rw[j0];omega) (ow (List.mem_range.mp hg) a7 b8) hs
    refine Ii rt hx Ku ne λH5 s5 hy=>q H5 x (as++bs) (Jz.trans (KU.trans (s4.trans s5))) ?_ (jO.same hR s5)
    have e1:(a:Int)*b=((a*b:Nat):Int):=by push_cast;rfl
    rw[<-e1];exact hy
end K73
namespace L2
open PySem PySem.Spec PyProof.Rows
section
variable {prog:yn}{w:World}{A:Around}{E:yj}{s:Dx}
theorem wz {t b:Addr}{ws:oH}{Q:yj}(ht:IsTup s.heap t #[])(hb:IsTup s.heap b ws.toArray)(h:Q (.ref b) s):wpAny (model prog w) A (binaryOp .Add (.ref t) (.ref b)) Q E s:=by
 obtain⟨⟨cls,dd,data,sl⟩,ho,hc,n,hd⟩:=id ht;obtain⟨⟨Od,LD,data2,Kw⟩,Kn,Kr,n2,hd2⟩:=id hb;simp only at hc hd Kr hd2;subst hc hd Kr hd2
 exact concat_meets ⟨_,ho,rfl⟩ ⟨_,Kn,rfl⟩ noFill_tuple_add seq_tuple_add PySem.F.slot_tuple_add PySem.F.entry_tuple_add (PySem.F.args_tuple_add_2 _ _)
  (tuple_addW0 t b #[] ws.toArray n n2 dd LD sl Kw (by rfl)) ⟨ho,Kn,h⟩
end
section
variable {X:Cx}
def BF (K:PySem.W.Frag):R2:=λx y H Q=>∃a b xs ys,x=.ref a/\y=.ref b/\br K H a xs/\br K H b ys/\xs.length+ys.length<=sizeLine /\
 (xs=[]->Q (.ref b) H)/\(xs≠[]->ys=[]->Q (.ref a) H)/\(xs≠[]->ys≠[]->∀p,H p=none->Q (.ref p) (upd H p (.tup (xs++ys))))
theorem AG:eE X (binaryOp .Add) (BF X.K):=by
 intro pins s σ H x y v u Q I rx ry h;obtain⟨a,b,xs,ys,rfl,rfl,ha,hb,hz,q0,q1,q2⟩:=h
 by_cases hx:xs=[]
 ·cases rx
  cases ry
  obtain⟨its,r1,p1,_⟩:=I.tuple ha;obtain⟨IB,r2,p2,_⟩:=I.tuple hb;have:its=[]:=r1.aaQ.mpr hx;subst this;exact wz p1 p2 ⟨.ref b,H,I,rfl,q0 hx⟩
 ·exact AL pins s σ H _ _ v u Q I rx ry ⟨a,b,xs,ys,rfl,rfl,ha,hb,hx,hz,q1 hx,q2 hx⟩
end
end L2
namespace PySem
open Sem (wp)
open Builtin
namespace AutoSeq1
end AutoSeq1
end PySem
namespace L2
open PySem PySem.Spec PyProof.Rows
section
variable {X:Cx}
theorem jX {α:Type}(c:α):∀k:Nat,(List.replicate k [c]).flatten=List.replicate k c
 |0=>rfl
 |k+1=>by rw[List.replicate_succ,List.flatten_cons,jX c k];rfl
end
end L2
namespace K73
open PySem L2 PySem.W Nm Srt
abbrev HY:Stmt:=aJ (aL 23) 9
abbrev HW:Stmt:=(aL 54)
theorem G9:Av zh zh (aj HY):=dk (by decide +kernel)
theorem zC:Av ["field","many","rooms","differ","share","one"] DK (aj HW):=dk (by decide +kernel)
variable {d:Int}
theorem zk (h:d≠0)(h8:d.natAbs<=8):wc 0 d (cW 1 d,b7 1 d):=by
 have n:Num 0 (cW 1 d) (b7 1 d):=Num.low h;have c:cW 1 d*d=1*b7 1 d:=gX h;refine⟨n,?_,λ_=>⟨?_,?_⟩⟩
 ·rw[cm];have pos:=n.pos;unfold dA gB;show(cW (cW 1 d*d) (b7 1 d*1),b7 (cW 1 d*d) (b7 1 d*1))=_;rw[c,Int.one_mul,Int.mul_one];obtain⟨h1,h2⟩:=ik (t:=b7 1 d) (b:=b7 1 d) (t':=1) (b':=1) (by omega) (by decide) (by decide) (by omega);rw[h1,h2]
 ·have e:=iz (t:=1) h;have pos:=n.pos;have:(b7 1 d).natAbs<=d.natAbs:=kE e (jA h);show b7 1 d<=8;omega
 ·exact Nat.le_trans (oq h) (by decide)
variable {p:Int}
theorem vP {u:Int}(hp:FP p)(z:p≠0)(u0:0<=u)(u1:u<p)(h:(u*(1*(d%p)))%p=1):wc p d (1*1*u%p,1):=by
 have e:(1:Int)*1*u%p=u:=by rw[Int.one_mul,Int.one_mul];exact Int.emod_eq_of_lt u0 u1
 rw[e];refine⟨Num.ofP u0 u1,?_,λy=>absurd y z⟩;rw[bH z];unfold dA gB cM c8;rw[if_neg z,if_neg z];rw[Int.one_mul] at h;show((u*(d%p))%p,(1:Int))=(1,1);rw[h]
variable {s:Int×Int}
theorem nK (h:s.1≠0):tg p [([],s)]=[([],s)]:=by
 have e:aY p [(([]:List Int),s)]=[([],s)]:=rfl;show gZ (aY p _)=_;rw[e];have pm:=dJ [(([]:List Int),s)]
 have f:([(([]:List Int),s)].filter λe=>e.2.1 != 0)=[([],s)]:=by
  rw[List.filter_cons_of_pos (by show(s.1 != 0)=true;simpa using h)];rfl
 rw[f] at pm;exact List.perm_singleton.mp pm
theorem wc.ne (hp:FP p)(h:wc p d s):s.1≠0/\(dj p s).1≠0:=by
 obtain⟨R,i,v,V⟩:=hp.v
 have hv:v s*v (aW p d)=1:=by rw[<-gC V h.num (bN hp _),h.one,V.one]
 have nz:∀{x:Int×Int},Num p x.1 x.2->x.1=0->x=(0,1):=λ{x} n e=>by
  obtain⟨a,b⟩:=x;have e:a=0:=e;subst e;have g:Int.gcd 0 b=1:=n.red;have p0:0<b:=n.pos;rw[Int.gcd_zero_left] at g
  have:b=1:=by omega
  rw[this]
 have one:(1:R)≠0:=λz=>by
  have:=V.inj (iN hp) (a:=(1,1)) (c:=(0,1)) (oJ p▸bN hp 0) (by rw[V.one,V.zero];exact z)
  cases this
 refine⟨λe=>?_,λe=>?_⟩
 ·rw[nz h.num e,V.zero] at hv;exact one (by grind)
 ·have hm:=nz (gr hp.nn h.num (bN hp (-1))) e
  have em:v (dj p s) =-v s:=by
   show v (dA p s (aW p (-1)))=_;rw[gC V h.num (bN hp (-1)),oa V hp];grind
  have hm:dj p s=(0,1):=hm;rw[hm,V.zero] at em;exact one (by grind)
theorem p3 {x:Int×Int}(hp:FP p)(n:Num p x.1 x.2)(h:p=0->x.1.natAbs<256/\x.2<256):Gn p 8 x:=by
 have n0:=n.pos
 by_cases z:p=0
 ·obtain⟨h1,h2⟩:=h z;exact⟨n,h1,by show x.2.natAbs<256;omega⟩
 ·have p2:=hp.two z;obtain⟨u,v⟩:=x;obtain⟨e,u0,u1⟩:=n.pr z;have e:v=1:=e;have u0:0<=u:=u0;have u1:u<p:=u1;exact⟨n,by show u.natAbs<256;omega,by show v.natAbs<256;omega⟩
theorem wc.gn (hp:FP p)(h:wc p d s):Gn p 8 s:=p3 hp h.num λz=>by have:=h.lo z;omega
theorem ze (hp:FP p)(h:wc p d s):Gn p 8 (dj p s):=by
 refine p3 hp (gr hp.nn h.num (bN hp (-1))) λz=>?_;subst z;have l:=h.lo rfl;have n0:=h.num.pos;show(cW (s.1*(aW 0 (-1)).1) (s.2*(aW 0 (-1)).2)).natAbs<256/\b7 (s.1*(aW 0 (-1)).1) (s.2*(aW 0 (-1)).2)<256;rw[cm]
 have ne:s.2*1≠0:=by omega
 have h1:=oq (t:=s.1 * -1) ne;have h2:=kE (iz (t:=s.1 * -1) ne) (jA ne);have h3:=(Num.low (t:=s.1 * -1) ne).pos;dsimp only;omega
theorem yO (hp:FP p)(h:wc p d s):BY p [([],s)]/\BY p (qY p (aW p (-1)) [([],s)]):=
 ⟨BY.of (m:=8) hp (show 1<64 by decide) (λt m=>by rw[List.mem_singleton.mp m];exact h.gn hp) (show 9*1+7<=4000 by decide) (by decide),BY.of (m:=8) hp (show 1<64 by decide) (λt m=>by rw[List.mem_singleton.mp m];exact ze hp h) (show 9*1+7<=4000 by decide) (by decide)⟩
def Ec (CF:Addr):Sp:=λvs H Q _=>∃(fl Iu a1 a2:Addr)(p d:Int),vs=[.ref fl,.ref a1,.ref a2]/\H fl=some (.ins CF Iu (cE p))/\FP p/\H a1=some (bA 1 1)/\H a2=some (bA (aW p d).1 (aW p d).2)/\(aW p d).1≠0/\d.natAbs<=8 /\
 ∀H' a s,aA H H'->H' a=some (bA s.1 s.2)->wc p d s->Q (.ref a) H'
def Dp (C CF NS:Addr):Sp:=λvs H Q E=>∃(fl Iu:Addr)(p:Int)(a b:Nat),vs=[.ref fl,.int a,.int b]/\H fl=some (.ins CF Iu (cE p))/\FP p/\1<=a/\a<=7/\1<=b/\b<=8 /\
 ((aW p ((b:Int)-a)).1=0->∀H',aA H H'->E (.ref NS) none H') /\
 ((aW p ((b:Int)-a)).1≠0->∀H' D s x y,aA H H'->H D=none->H' D=some (.lst (List.replicate a (.ref x)++List.replicate b (.ref y)))->wc p ((b:Int)-a) s->Bj C CF H' x p [([],s)]->Bj C CF H' y p [([],dj p s)]->Q (.ref D) H')
variable {P:yn}{w:World}{K:PySem.W.Frag}{mg:xf}{base:Heap}
variable {f:Addr}{fd:zo}
theorem E1 {fq CF NN:Addr}{Oy:zo}(F:Ao K "over" "Field.over" HY f fd)(cF:vR K mg CF)
 (FQu:Ik P w K mg base (aU P w) 3 fq Oy Cs (oO CF NN))(bQu:L2.ay K Oy Cs [])(mQu:L2.Meth K CF "quotient" fq):Ik P w K mg base (aU P w) 4 f fd zh (Ec CF):=by
 refine F.okN G9 (λvs H Q E h=>?_) (λIv A outer s H vs Q E hr h=>?_)
 ·obtain⟨fl,Iu,a1,a2,p,d,rfl,_⟩:=h;rfl
 ·obtain⟨fl,Iu,x1,x2,p,d,rfl,hf,hp,h1,h2,nz,d8,q⟩:=h;have JR:p8 3 _:=hr;have g:=gW hp (k:=d) (by omega);have b1:B 9000 (1:Int):=Nat.lt_of_lt_of_le (by decide:(1:Int).natAbs<2^8) (Nat.pow_le_pow_right (by decide) (by decide));refine⟨_,(aq (az (bY (pv 0) cF.cl mQu FQu JR bQu .nil ae (@ao _ _ _ _ _ (@aC _ _ _ _ _ _ _ _ bz (@bg _ _ _ _ _ _ _ aZ (pv 1) au (λ_ _=>rfl)) (@bg _ _ _ _ _ _ _ aZ (pv 2) au (λ_ _=>rfl))) (@ao _ _ _ _ _ (@aC _ _ _ _ _ _ _ _ bz (@bg _ _ _ _ _ _ _ aZ (pv 1) au (λ_ _=>rfl)) (@bg _ _ _ _ _ _ _ aZ (pv 2) au (λ_ _=>rfl))) af rfl) rfl)))),?_⟩;refine⟨_,rfl,fl,Iu,_,rfl,hf,rfl,?_⟩;refine⟨_,rfl,x1,_,0,_,rfl,rfl,br.of h1,a0 _ _,_,rfl,x2,_,1,_,rfl,rfl,br.of h2,a1 _ _,_,_,rfl,rfl,⟨b1,g.2.2.mono (by decide)⟩,?_⟩;refine⟨_,rfl,x1,_,1,_,rfl,rfl,br.of h1,a1 _ _,_,rfl,x2,_,0,_,rfl,rfl,br.of h2,a0 _ _,_,_,rfl,rfl,⟨b1,g.2.1.mono (by decide)⟩,?_⟩;refine⟨fl,Iu,p,_,_,rfl,hf,hp,?_,λz y=>?_,λz y a ha=>?_,λz y=>?_,λz y u u0 u1 u2 a ha=>?_⟩
  ·rw[Int.one_mul];exact g.2.1.mono (by decide)
  ·rw[Int.one_mul] at y;exact nz y
  ·subst z;rw[cm] at nz |-;show Q (.ref a) (upd H a (bA (cW (1*1) (1*d)) (b7 (1*1) (1*d))));rw[Int.one_mul,Int.one_mul];exact q _ a _ (ar ha) ah (zk nz d8)
  ·rw[bH z,Int.one_mul] at y;rw[bH z] at nz;rw[Int.emod_emod] at y;exact nz y
  ·rw[bH z] at u2 |-;exact q _ a _ (ar ha) ah (vP hp z u0 u1 u2)
theorem Ff {fg fm fo fs fc C CF NN NS:Addr}{IY JV LP Kk KQ:zo}{tM:Tok}(F:Ao K "guests_showing" "guests_showing" HW f fd)(cF:vR K mg CF)(cS:Hf K mg C)(MS:Mk K C fs)(mS:mg "NoShowing"=some (.ref NS))(qS:jL K NS zz md=true)
 (UR:Ik P w K mg base (aU P w) 3 fg IY DK (Cj CF))(US:L2.ay K IY DK [])(UT:mg "checked_guests"=some (.ref fg))(UU:keepIn K (.ref fg)=true)
 (NP:Ik P w K mg base (aU P w) 4 fm JV Cs (lj CF NN))(NQ:L2.ay K JV Cs [.int 1 tM])(NR:L2.Meth K CF "made" fm)
 (FOv:Ik P w K mg base (aU P w) 4 fo LP zh (Ec CF))(bOv:L2.ay K LP zh [])(mOv:L2.Meth K CF "over" fo)
 (UN:Ik P w K mg base (aU P w) 6 fs Kk vB (iM C CF))(MR:L2.ay K Kk vB [])
 (FSc:Ik P w K mg base (aU P w) 9 fc KQ Ce (Bw C CF NN))(bSc:L2.ay K KQ Ce [])(mSc:L2.Meth K C "scaled" fc):Ik P w K mg base (aU P w) 10 f fd DK (Dp C CF NS):=by
 refine F.okE zC (λvs H Q E h=>?_) (λIv A outer s H vs Q E hr h=>?_)
 ·obtain⟨fl,Iu,p,a,b,rfl,_⟩:=h;rfl
 ·obtain⟨fl,Iu,p,a,b,rfl,hf,hp,a1,a7,b1,b8,qE,q⟩:=h;have NT:p8 9 _:=hr;have UO:p8 7 _:=NT.mono (by decide);have Jb:p8 4 _:=NT.mono (by decide);have JR:p8 3 _:=NT.mono (by decide)
  refine⟨_,(ak (eK (aB UR JR (by rfl) UT UU US .nil ae (@ao _ _ _ _ _ (pv 0) (@ao _ _ _ _ _ (pv 1) (@ao _ _ _ _ _ (pv 2) af rfl) rfl) rfl)))
   (ak (@aV _ _ 3 _ _ _ _ zC.nd rfl (Or.inl rfl) (bY (dvs:=[.int 1]) (pv 0) cF.cl NR NP Jb NQ (.cons ⟨_,rfl⟩ .nil) ae (@ao _ _ _ _ _ (@aC _ _ _ _ _ _ _ _ j7 (pv 2) (pv 1)) af rfl)) rfl (Or.inl rfl))
   (ak (a9 (@aK _ _ _ _ _ _ _ _ dZ (@bg _ _ _ _ _ _ _ aZ (pv 3) au (λ_ _=>rfl)) au (aI _)) (aq (eh PySem.F.excBase_ValueError qS rfl c9 (by rfl) mS (@ao _ _ _ _ _ fN af rfl))) aF)
   (ak (@aV _ _ 4 _ _ _ _ zC.nd rfl (Or.inl rfl) (bY (pv 0) cF.cl mOv FOv Jb bOv .nil ae (@ao _ _ _ _ _ (bY (dvs:=[.int 1]) (pv 0) cF.cl NR NP Jb NQ (.cons ⟨_,rfl⟩ .nil) ae (@ao _ _ _ _ _ au af rfl)) (@ao _ _ _ _ _ (pv 3) af rfl) rfl)) rfl (Or.inl rfl))
   (ak (@aV _ _ 5 _ _ _ _ zC.nd rfl (Or.inl rfl) (gS MS UN UO (by rfl) cS.mgC MR .nil ae (@ao _ _ _ _ _ (pv 0) (@ao _ _ _ _ _ (@cw _ _ _ _ (@ao _ _ _ _ _ (@bD _ _ _ _ _ (@ao _ _ _ _ _ (@bD _ _ _ _ _ af) (@ao _ _ _ _ _ (pv 4) af rfl) rfl)) af rfl)) af rfl) rfl)) rfl (Or.inl rfl))
   (aq (az (@aC _ _ _ _ _ _ _ _ eI (@aC _ _ _ _ _ _ _ _ xZ (@cw _ _ _ _ (@ao _ _ _ _ _ (pv 5) af rfl)) (pv 1)) (@aC _ _ _ _ _ _ _ _ xZ (@cw _ _ _ _ (@ao _ _ _ _ _ (bY (pv 5) cS.cl mSc FSc NT bSc .nil ae (@ao _ _ _ _ _ (bY (dvs:=[.int 1]) (pv 0) cF.cl NR NP Jb NQ (.cons ⟨_,rfl⟩ .nil) ae (@ao _ _ _ _ _ (mz i8 au) af rfl)) af rfl)) af rfl)) (pv 2)))))))))),?_⟩
  refine⟨_,rfl,_,rfl,_,rfl,fl,Iu,p,a,b,rfl,hf,by omega,by omega,by omega,by omega,?_⟩;refine⟨_,rfl,fl,Iu,_,rfl,hf,rfl,_,rfl,_,rfl,_,_,rfl,rfl,?_⟩;refine ny hf hp λx1 h1=>?_;have s1:=ar (o:=bA (aW p ((b:Int)-a)).1 (aW p ((b:Int)-a)).2) h1;have e1:upd H x1 (bA (aW p ((b:Int)-a)).1 (aW p ((b:Int)-a)).2) x1=some (bA (aW p ((b:Int)-a)).1 (aW p ((b:Int)-a)).2):=ah;generalize upd H x1 _=H1 at s1 e1 |-;refine⟨_,rfl,x1,_,0,_,rfl,rfl,br.of e1,a0 _ _,rfl,_,rfl,?_⟩
  by_cases z:(aW p ((b:Int)-a)).1=0
  ·rw[cx,z];exact b0 ⟨by decide,qE z H1 s1⟩
  rw[cx,beq_eq_false_iff_ne.mpr z];refine bw ?_;refine⟨_,rfl,fl,Iu,_,rfl,s1 _ _ hf,rfl,?_⟩;refine⟨_,rfl,fl,Iu,_,rfl,s1 _ _ hf,rfl,?_⟩;refine ny (s1 _ _ hf) hp λx2 h2=>?_;rw[kY hp];have s2:=ar (o:=bA 1 1) h2;have e2:upd H1 x2 (bA 1 1) x2=some (bA 1 1):=ah;generalize upd H1 x2 _=H2 at s2 e2 |-;refine⟨_,rfl,fl,Iu,x2,x1,p,(b:Int)-a,rfl,s2 _ _ (s1 _ _ hf),hp,e2,s2 _ _ e1,z,by omega,λH3 x3 sh s3 e3 hs=>?_⟩;refine⟨_,rfl,Nat.zero_le _,λt1 JT=>?_⟩;have s4:=ar (o:=.tup []) JT;have e4:upd H3 t1 (.tup []) t1=some (.tup []):=ah;generalize upd H3 t1 _=H4 at s4 e4 |-;refine⟨_,rfl,iT,λt2 J0=>?_⟩;have s5:=ar (o:=.tup [.ref t1,.ref x3]) J0;have e5:upd H4 t2 (.tup [.ref t1,.ref x3]) t2=some (.tup [.ref t1,.ref x3]):=ah;generalize upd H4 t2 _=H5 at s5 e5 |-;refine⟨sJ,λL hL=>?_⟩;have s6:=ar (o:=.lst [.ref t2]) hL;have e6:upd H5 L (.lst [.ref t2]) L=some (.lst [.ref t2]):=ah;generalize upd H5 L _=H6 at s6 e6 |-;have Li:=s4.trans (s5.trans s6);have SQ:=s1.trans (s2.trans (s3.trans Li));refine λx dx hx Ku ne=>?_;refine BI (ts:=[([],sh)]) (SQ _ _ hf) hp e6 (.cons ⟨t2,t1,x3,rfl,s6 _ _ e5,s6 _ _ (s5 _ _ e4),Li _ _ e3⟩ .nil) (yO hp hs).1 (λt m=>by rw[List.mem_singleton.mp m];exact sd .nil (λi hi=>nomatch hi) (by show 0<4000;decide)) hx Ku ne λH7 s7 hS=>?_;rw[nK (hs.ne hp).1] at hS;have SS:=SQ.trans s7;clear s1 s2 s3 s4 s5 s6 Li e1 e2 e3 e4 e5 e6 hL JT J0 h1 h2;refine⟨_,rfl,sJ,λL1 Lf=>?_⟩;have s8:=ar (o:=.lst [.ref x]) Lf;have e8:upd H7 L1 (.lst [.ref x]) L1=some (.lst [.ref x]):=ah;generalize upd H7 L1 _=H8 at s8 e8 |-;refine⟨_,rfl,L1,a,_,rfl,rfl,e8,by omega,by omega,?_,λL2 OC=>?_⟩
  ·rw[Int.toNat_natCast];exact Nat.le_trans (by show 1*a<=8;omega) (by decide)
  rw[Int.toNat_natCast,jX];have s9:=ar (o:=.lst (List.replicate a (.ref x))) OC;have e9:upd H8 L2 (.lst (List.replicate a (.ref x))) L2=some (.lst (List.replicate a (.ref x))):=ah;generalize upd H8 L2 _=H9 at s9 e9 |-;have UX:=s8.trans s9;have UY:=hS.same UX;obtain⟨NU,X5,UZ,Dd,zs,k1,k2,k3,k4⟩:=UY.ex;have X6:=UX _ _ (SS _ _ hf);refine⟨_,rfl,x,NU,_,rfl,k1,rfl,?_⟩;refine⟨_,rfl,fl,Iu,_,rfl,X6,rfl,?_⟩;refine⟨_,rfl,?_⟩;refine ny X6 hp λx4 h4=>?_;have JY:=ar (o:=bA (aW p (-1)).1 (aW p (-1)).2) h4;have MT:upd H9 x4 (bA (aW p (-1)).1 (aW p (-1)).2) x4=some (bA (aW p (-1)).1 (aW p (-1)).2):=ah;generalize upd H9 x4 _=X7 at JY MT |-;have m1:=bN hp (-1);have g1:=gW hp (k:=-1) (by decide);refine⟨x,p,_,.ref x4,some (.int _,.int _),rfl,UY.same JY,hp,(by show 1<4000;decide),λt m=>?_,.two MT (.int _) (.int _),λt b y ey hy _=>?_,λ_=>⟨x4,_,_,rfl,MT⟩,λz=>absurd ((sC m1).symm.trans z) (by decide)⟩
  ·rw[List.mem_singleton.mp m];have g:=hs.gn hp;exact⟨g.1,g.2.1.mono (by decide),g.2.2.mono (by decide)⟩
  cases ey
  rw[MT] at hy
  cases hy
  refine⟨g1.2.1.mono (by decide),g1.2.2.mono (by decide),m1,(yO hp hs).2,λSU u LY hu=>?_⟩;have hu:=hu.r;have eu:tg p (qY p (aW p (-1)) [([],sh)])=[([],dj p sh)]:=nK (hs.ne hp).2;rw[eu] at hu;refine⟨sJ,λL3 U0=>?_⟩;have Jz:=ar (o:=.lst [.ref u]) U0;have NV:upd SU L3 (.lst [.ref u]) L3=some (.lst [.ref u]):=ah;generalize upd SU L3 _=SV at Jz NV |-;refine⟨_,rfl,L3,b,_,rfl,rfl,NV,by omega,by omega,?_,λL4 hL4=>?_⟩
  ·rw[Int.toNat_natCast];exact Nat.le_trans (by show 1*b<=8;omega) (by decide)
  rw[Int.toNat_natCast,jX];have KU:=ar (o:=.lst (List.replicate b (.ref u))) hL4;have X8:upd SV L4 (.lst (List.replicate b (.ref u))) L4=some (.lst (List.replicate b (.ref u))):=ah;generalize upd SV L4 _=H13 at KU X8 |-;have sA:=JY.trans (LY.trans (Jz.trans KU));refine⟨L2,L4,_,_,rfl,rfl,sA _ _ e9,X8,by rw[List.length_replicate,List.length_replicate];exact Nat.le_trans (by omega:_<=15) (by decide),λD H14 hD OW e14=>?_⟩;have sB:=SS.trans (UX.trans sA);exact q z H14 D sh x u (sB.trans OW) (none_of sB hD) e14 hs (UY.same (sA.trans OW)) (hu.same (Jz.trans (KU.trans OW)))
abbrev Hy:Stmt:=(aL 66)
abbrev GT:Stmt:=(aL 68)
def DZ (t:Tm):Prop:=t.1.Pairwise (· < ·)/\t.1.length<32
def xA:Sp:=λvs H Q _=>∃(p:Int)(la lb:Addr)(ys us:List V)(a b:List Tm),vs=[.int p,.ref la,.ref lb]/\FP p/\H la=some (.lst ys)/\aX H ys a/\H lb=some (.lst us)/\aX H us b/\a.length*b.length<4000 /\
 (∀t∈a,Gn p 4000 t.2/\DZ t)/\(∀t∈b,Gn p 4000 t.2/\DZ t)/\BY p (dI p a b)/\∀H' D zs,aA H H'->H D=none->H' D=some (.lst zs)->aX H' zs (tg p (dI p a b))->Q (.ref D) H'
def me:Sp:=λvs H Q _=>∃(l:Addr)(ys:List V)(ts:List Tm),vs=[.ref l]/\H l=some (.lst ys)/\aX H ys ts/\ts.length<=1000/\∀(m:Int)(H':Hp),aA H H'->0<=m->(m=0\/∃t∈ts,m=t.1.length)->Q (.int m) H'
theorem vF:Av ["_law_prime_here","_law_one","_law_other","_law_found","_law_product","_law_number","_law_more","_law_factor"] EJ (aj Hy):=dk (by decide +kernel)
theorem Gd:Av rZ rZ (aj GT):=dk (by decide +kernel)
theorem AO {K:Frag}{a b:Addr}{xs ys:List V}{H:Hp}{Q:VK}(ha:H a=some (.tup xs))(hb:H b=some (.tup ys))(hz:xs.length+ys.length<=sizeLine)(q:∀l H',aA H H'->H' l=some (.tup (xs++ys))->Q (.ref l) H'):BF K (.ref a) (.ref b) H Q :=
 ⟨a,b,xs,ys,rfl,rfl,br.of ha,br.of hb,hz,λh=>q b H (aA.refl _) (by rw[hb,h];rfl),λ_ h=>q a H (aA.refl _) (by rw[ha,h,List.append_nil]),λ_ _ l hl=>q l _ (ar hl) ah⟩
theorem wd (p:Int)(a b:List Tm)(x:Tm):dI p (a++[x]) b=dI p a b++b.map λy=>(ir (x.1++y.1),dA p x.2 y.2):=by simp[dI]
theorem gh (p:Int)(a b:List Tm):(dI p a b).length=a.length*b.length:=by
 unfold dI;rw[List.length_flatMap];simp only[List.length_map];rw[List.map_const',List.sum_replicate_nat]
set_option maxHeartbeats 1000000 in
theorem zg {fm fg:Addr}{JV IY:zo}(F:Ao K "_law_multiplied" "_law_multiplied" Hy f fd)(IA:mg "tuple"=none)(IG:mg "sorted"=none)(KY:mg "set"=none)
 (FM:Ik P w K mg base (aU P w) 3 fm JV EJ (nW gB))(bM:L2.ay K JV EJ [])(mM:mg "_law_times"=some (.ref fm))(kM:keepIn K (.ref fm)=true)
 (FG:Ik P w K mg base (aU P w) 4 fg IY GQ vO)(bG:L2.ay K IY GQ [])(mG:mg "_law_gathered"=some (.ref fg))(kG:keepIn K (.ref fg)=true):
 Ik P w K mg base (aU P w) 5 f fd EJ xA:=by
 refine F.okN vF (λvs H Q E h=>?_) (λIv A outer s H vs Q E hr h=>?_)
 ·obtain⟨p,la,lb,ys,us,a,b,rfl,_⟩:=h;rfl
 ·obtain⟨p,la,lb,ys,us,a,b,rfl,hp,X9,Yb,Yc,Yd,LK,ga,gb,G,q⟩:=h;have Jb:p8 4 _:=hr;have JR:p8 3 _:=Jb.mono (by decide)
  refine⟨_,(ak (@aV _ _ 3 _ _ _ _ vF.nd rfl (Or.inl rfl) (@cw _ _ _ _ af) rfl (Or.inl rfl))
   (ak (dO PassesOwn.never rfl (cC (pv 1)) (de rfl (aR (aE (i:=4) vF.nd rfl (Or.inl rfl)) (aR (aE (i:=5) vF.nd rfl (Or.inl rfl)) cy)))
   (aq (dO PassesOwn.never rfl (cC (pv 2)) (de rfl (aR (aE (i:=6) vF.nd rfl (Or.inl rfl)) (aR (aE (i:=7) vF.nd rfl (Or.inl rfl)) cy)))
   (aq (eK (Br PySem.F.plainAttrs_list PySem.F.slot_list_append PySem.F.type_list_append mY (pv 3) (@ao _ _ _ _ _ (@bD _ _ _ _ _ (@ao _ _ _ _ _ (dF hJ (by rfl) IA (by rfl) (@ao _ _ _ _ _ (rR rfl (@aC _ _ _ _ _ _ _ _ AG (pv 4) (pv 6)) rfl (by rfl) IG (by rfl) KY) af rfl)) (@ao _ _ _ _ _ (aB FM JR (by rfl) mM kM bM .nil ae (@ao _ _ _ _ _ (pv 0) (@ao _ _ _ _ _ (pv 5) (@ao _ _ _ _ _ (pv 7) af rfl) rfl) rfl)) af rfl) rfl)) af rfl)))))))
   (aq (az (aB FG Jb (by rfl) mG kG bG .nil ae (@ao _ _ _ _ _ (pv 0) (@ao _ _ _ _ _ (pv 3) af rfl) rfl)))))),?_⟩
  refine⟨Nat.zero_le _,λL hL=>?_⟩;have s1:=ar (o:=.lst []) hL;have e1:upd H L (.lst []) L=some (.lst []):=ah;generalize upd H L _=H1 at s1 e1 |-;have za:=Yb.length;have zb:=Yd.length;refine⟨_,rfl,la,rfl,⟨_,bo.of (s1 _ _ X9)⟩,?_⟩;refine gq (K:=K) (a:=la) (xs:=ys) (λi σ H'=>aA H H'/\(∃ws,H' L=some (.lst ws)/\aX H' ws (dI p (a.take i) b))/\∃o4 o5 o6 o7,σ=[some (.int p),some (.ref la),some (.ref lb),some (.ref L),o4,o5,o6,o7]) ⟨s1,⟨[],e1,.nil⟩,_,_,_,_,rfl⟩ (λj σ H' _ h=>bo.of (h.1 _ _ X9)) ?_ ?_
  ·rintro i y σ H2 hy ⟨s2,⟨ws,eL,hw⟩,o4,o5,o6,o7,rfl⟩;obtain⟨x,ex,at_,pr,nu,rfl,LL,Jk,JC⟩:=bc Yb hy;have gx:=ga x (List.mem_of_getElem? ex);have hi:i<a.length:=(List.getElem?_eq_some_iff.mp ex).1
   have JD:a.take (i+1)=a.take i++[x]:=by rw[List.take_add_one,ex];rfl
   refine⟨at_,_,rfl,br.of (s2 _ _ LL),rfl,_,_,rfl,_,_,rfl,rfl,?_⟩;refine⟨_,rfl,lb,rfl,⟨_,bo.of (s2 _ _ Yc)⟩,?_⟩;refine gq (K:=K) (a:=lb) (xs:=us) (λj σ H'=>aA H H'/\(∃ws,H' L=some (.lst ws)/\aX H' ws (dI p (a.take i) b++(b.take j).map λy=>(ir (x.1++y.1),dA p x.2 y.2)))/\∃o6 o7,σ=[some (.int p),some (.ref la),some (.ref lb),some (.ref L),some (.ref pr),some (.ref nu),o6,o7]) ⟨s2,⟨ws,eL,by simpa using hw⟩,_,_,rfl⟩ (λj σ H' _ h=>bo.of (h.1 _ _ Yc)) ?_ ?_
   ·rintro j y σ H3 hy ⟨s3,⟨ws,eL,hw⟩,o6,o7,rfl⟩;obtain⟨z,ez,at2,pr2,nu2,rfl,U1,U2,U3⟩:=bc Yd hy;have gz:=gb z (List.mem_of_getElem? ez);have hj:j<b.length:=(List.getElem?_eq_some_iff.mp ez).1
    have U4:b.take (j+1)=b.take j++[z]:=by rw[List.take_add_one,ez];rfl
    refine⟨at2,_,rfl,br.of (s3 _ _ U1),rfl,_,_,rfl,_,_,rfl,rfl,?_⟩
    have Ja:(x.1.map V.int).length+(z.1.map V.int).length<64:=by
     rw[List.length_map,List.length_map];have:=gx.2.2;have:=gz.2.2;omega
    refine⟨_,rfl,.inl ⟨rfl,_,bo.of eL⟩,?_⟩;refine⟨_,rfl,_,rfl,AO (s3 _ _ Jk) (s3 _ _ U2) (Nat.le_trans (Nat.le_of_lt Ja) (by decide)) λl H4 s4 el=>?_⟩;refine⟨l,x.1++z.1,rfl,.inr (br.of (by rw[el,List.map_append])),(by rw[List.length_append];simpa using Ja),λD ms hD pw mem=>?_⟩;have em:ms=ir (x.1++z.1):=DJ pw mem;subst em;refine⟨D,_,rfl,.inl ⟨bo.of ah,λtu NO=>?_⟩⟩;have s5:=(ar (o:=.lst ((ir (x.1++z.1)).map V.int)) hD).trans (ar (o:=.tup ((ir (x.1++z.1)).map V.int)) NO);have e5:upd (upd H4 D (.lst ((ir (x.1++z.1)).map V.int))) tu (.tup ((ir (x.1++z.1)).map V.int)) tu=some (.tup ((ir (x.1++z.1)).map V.int)):=ah;generalize upd (upd H4 D (.lst ((ir (x.1++z.1)).map V.int))) tu (.tup ((ir (x.1++z.1)).map V.int))=H5 at s5 e5 |-;have OX:=s4.trans s5;have U5:=s3.trans OX;have eL5:=OX _ _ eL;clear hD NO;refine⟨_,rfl,_,rfl,_,rfl,p,x.2.1,x.2.2,z.2.1,z.2.2,nu,nu2,rfl,hp,U5 _ _ JC,U5 _ _ U3,gx.1.2.1,gx.1.2.2,gz.1.2.1,gz.1.2.2,gx.1.ne,gz.1.ne,(λw=>by rw[(gx.1.1.pr w).1,(gz.1.1.pr w).1];rfl),λH6 an s6 e6=>?_⟩;refine⟨iT,λtt Ut=>?_⟩;have s7:=ar (o:=.tup [.ref tu,.ref an]) Ut;have e7:upd H6 tt (.tup [.ref tu,.ref an]) tt=some (.tup [.ref tu,.ref an]):=ah;generalize upd H6 tt _=H7 at s7 e7 |-;have KS:=s6.trans s7;have Ye:=KS _ _ eL5
    have wl:ws.length<4000:=by
     rw[hw.length,List.length_append,gh,List.length_map,List.length_take,List.length_take]
     have h1:min i a.length=i:=by omega
     have h2:min j b.length=j:=by omega
     rw[h1,h2];have h3:(i+1)*b.length<=a.length*b.length:=Nat.mul_le_mul_right _ (by omega);rw[Nat.succ_mul] at h3;omega
    refine⟨L,ws,.ref tt,rfl,rfl,Ye,Nat.lt_of_lt_of_le wl (by decide),?_⟩
    have kL:aH H7 (upd H7 L (.lst (ws++[.ref tt]))):=aH.upd λxs w=>by rw[Ye] at w;cases w
    have k37:aH H3 H7:=aH.of (OX.trans KS);refine⟨λc u e=>?_,⟨_,ah,?_⟩,_,_,rfl⟩
    ·rw[av (ax e hL)];exact KS _ _ (U5 _ _ e)
    ·rw[U4,List.map_append,<-List.append_assoc];exact Paired.snoc (aX.keep hw (k37.trans kL)) ⟨tt,tu,an,rfl,kL _ _ e7,kL _ _ (KS _ _ e5),kL _ _ (s7 _ _ e6)⟩
   ·rintro σ H3 ⟨s3,⟨ws,eL,hw⟩,o6,o7,rfl⟩;refine⟨s3,⟨ws,eL,?_⟩,_,_,_,_,rfl⟩;rw[JD,wd];rw[zb,List.take_length] at hw;exact hw
  ·rintro σ H2 ⟨s2,⟨ws,eL,hw⟩,o4,o5,o6,o7,rfl⟩;rw[za,List.take_length] at hw;exact⟨_,rfl,_,rfl,L,p,ws,_,rfl,hp,eL,hw,G,λH' D zs s3 nD hD hz=>q H' D zs (s2.trans s3) (none_of s2 nD) hD hz⟩
theorem Ey (F:Ao K "_law_degree" "_law_degree" GT f fd)(IZ:mg "max"=none)(Iz:mg "len"=none):Ik P w K mg base (aU P w) 1 f fd rZ me:=by
 refine F.okN Gd (λvs H Q E h=>?_) (λIv A outer s H vs Q E hr h=>?_)
 ·obtain⟨l,ys,ts,rfl,_⟩:=h;rfl
 ·obtain⟨l,ys,ts,rfl,hl,ht,tl,q⟩:=h
  refine⟨_,(aq (az (aD (vJ rfl) (by rfl) IZ (by rfl) (@ao _ _ _ _ _ (@aC _ _ _ _ _ _ _ _ eI (@cw _ _ _ _ (@ao _ _ _ _ _ au af rfl)) (ck (g:=(og K 2 (dN (cb 0) (dN (cb 1) FY)))) (N:=["_law_product","_law_number"]) (nl:=2) (js:=[]) (osc:=aj GT) ⟨rfl,rfl,by decide +kernel,by decide +kernel,by decide +kernel,rfl,.nil,by decide +kernel⟩ rfl
   (cC (pv 0))
   (λCq fq sq Hq=>(de (X:=fG _ ["_law_product","_law_number"] _ Cq fq sq Hq) rfl (aR (aE (X:=fG _ ["_law_product","_law_number"] _ Cq fq sq Hq) (i:=0) (by show(["_law_product","_law_number"]:zX).Nodup;decide +kernel) rfl (Or.inl rfl) (Or.inr rfl)) (aR (aE (X:=fG _ ["_law_product","_law_number"] _ Cq fq sq Hq) (i:=1) (by show(["_law_product","_law_number"]:zX).Nodup;decide +kernel) rfl (Or.inl rfl) (Or.inr rfl)) cy))))
   (λCq fq sq Hq=>cj)
   (λCq fq sq Hq=>(aD (uV (K:=K) rfl) (by rfl) Iz PySem.boot_len (@ao _ _ _ _ _ (pv 0) af rfl))))) af rfl)))),?_⟩
  refine⟨sJ,λL hL=>?_⟩;have s0:=ar (o:=.lst [.int 0]) hL;have e0:upd H L (.lst [.int 0]) L=some (.lst [.int 0]):=ah;generalize upd H L _=H0 at s0 e0 |-;refine⟨_,rfl,l,rfl,⟨ys,bo.of (s0 _ _ hl)⟩,?_⟩;have yl:=ht.length;refine jr (xs:=ys) (rest:=[]) (λi us H'=>aA H0 H'/\us=((ts.take i).map λt=>(t.1.length:Int)).map V.int) ⟨aA.refl _,rfl⟩ (λi us H' hi h=>?_) (λi x us H' hi hx h=>?_) (λus H' h=>?_)
  ·refine⟨?_,bo.of (h.1 _ _ (s0 _ _ hl))⟩;rw[h.2,List.length_map,List.length_map,List.length_take];exact Nat.lt_of_le_of_lt (by omega:_<=1000) (by decide)
  ·obtain⟨s1,rfl⟩:=h;obtain⟨t,et,a,pr,nu,rfl,ha,Jk,JC⟩:=bc (aX.keep ht (aH.of (s0.trans s1))) hx;refine⟨a,.ref pr,.ref nu,rfl,br.of ha,λN hN=>jc ⟨_,rfl,pr,_,rfl,.inr (br.of Jk),hN _ _ ⟨s1,?_⟩⟩⟩;rw[List.take_add_one,et,List.map_append,List.map_append,List.length_map];rfl
  ·obtain⟨s1,rfl⟩:=h;intro D hD;rw[yl,List.take_length];have s2:=ar (o:=.lst ((ts.map λt=>(t.1.length:Int)).map V.int)) hD;refine⟨L,D,_,_,rfl,rfl,s2 _ _ (s1 _ _ e0),ah,?_,λpp H5 ND s5 e5=>?_⟩
   ·rw[List.length_map,List.length_map];exact Nat.le_trans (by show 1+ts.length<=2000;omega) (by decide)
   refine⟨pp,0::(ts.map λt=>(t.1.length:Int)),rfl,bo.of (by rw[e5];rfl),by simp,λm hm U6=>?_⟩;refine q m H5 (s0.trans (s1.trans (s2.trans s5))) (U6 0 (by simp)) ?_
   rcases List.mem_cons.mp hm with h|h
   ·exact .inl h
   ·obtain⟨t,h1,h2⟩:=List.mem_map.mp h;exact .inr ⟨t,h1,h2.symm⟩
end K73
namespace L2
open PySem PySem.Spec PyProof.Rows PySem.W
theorem yE {K:PySem.W.Frag}{a b:Addr}{xs ys:List V}{g:TG}{tb:TS}{D:Ends}{σ:St}{H:Hp}(Pv:Nat->St->Hp->Prop)(le:ys.length=xs.length)(h0:Pv 0 σ H)(hl:∀i σ H,i<=xs.length->Pv i σ H->bo K H a xs/\bo K H b ys)
 (hs:∀i x y T σ H,xs[i]?=some x->ys[i]?=some y->H T=none->Pv i σ H->g (.ref T) σ (upd H T (.tup [x,y])) λσ2 H2=>tb {D with nx:=Pv (i+1),ct:=Pv (i+1),bk:=D.nx} σ2 H2)(hd:∀σ H,Pv xs.length σ H->D.nx σ H):
 ∃W:Nat->Nat->St->Hp->Prop,(∃m,W 0 m σ H)/\∀i m σ H,W i m σ H →
  ((vx K a b).stop i H/\D.nx σ H)\/((vx K a b).go i H/\∃N:St->Hp->Prop,(∀σ' H',N σ' H'->∃m',m'<m/\W (i+1) m' σ' H')/\∀x H',(vx K a b).yld i H x H'->g x σ H' λσ2 H2=>tb {D with nx:=N,ct:=N,bk:=D.nx} σ2 H2):=by
 refine⟨λi m σ H=>m=xs.length-i/\i<=xs.length/\Pv i σ H,⟨xs.length,by simp,Nat.zero_le _,h0⟩,?_⟩;rintro i m σ H ⟨rfl,hi,p⟩;have q:=hl i σ H hi p
 by_cases IC:i<xs.length
 ·refine .inr ⟨⟨xs,ys,xs[i],ys[i],q.1,q.2,by simp[IC],by simp[le,IC]⟩,Pv (i+1),λσ' H' p'=>⟨xs.length-(i+1),by omega,rfl,IC,p'⟩,λx H' y=>?_⟩;obtain⟨T,u,v,hu,hv,hT,rfl,rfl⟩:=y;exact hs i u v T σ _ (hu xs q.1) (hv ys q.2) hT p
 ·have e:i=xs.length:=by omega
  subst e;exact .inl ⟨⟨xs,ys,q.1,q.2,.inl (Nat.le_refl _)⟩,hd σ H p⟩
end L2
namespace K73
open PySem L2 PySem.W Nm Srt
abbrev GX:Stmt:=(aL 69)
theorem rT:Av ["_law_prime_here","_law_places","_law_noughts","_law_degree_here","_law_sums","_law_total","_law_terms","_law_one","_law_more","_law_far"] vp (aj GX):=dk (by decide +kernel)
def qy (H:Hp)(y:V)(ts:List Tm):Prop:=∃r ys,y=.ref r/\H r=some (.lst ys)/\aX H ys ts
theorem qy.same {H H':Hp}{y:V}{ts:List Tm}(h:qy H y ts)(k:aA H H'):qy H' y ts:=let⟨r,ys,a,b,c⟩:=h;⟨r,ys,a,k _ _ b,aX.keep c (aH.of k)⟩
structure rC (p:Int)(x:List Tm×List Tm):Prop where
 a:∀t∈x.1,Gn p 4000 t.2/\DZ t/\t.1.length<=1
 len:x.1.length<=9
 b:∃c:Int×Int,x.2=[([],c)]/\Gn p 4000 c
 th:BY p (dI p x.1 x.2)
theorem iY {p:Int}{ts:List Tm}(hp:FP p)(G:BY p ts):(tg p ts).length<=ts.length :=
 Nat.le_trans (Nat.le_trans (Nat.le_of_eq (dJ _).length_eq) (List.length_filter_le _ _)) (di hp _ ts rfl G.num).2.2
def rg (p:Int)(l:List (List Tm×List Tm)):List Tm:=l.flatMap λx=>tg p (dI p x.1 x.2)
def FX (C CF:Addr):Sp:=λvs H Q _=>∃(p n:Int)(ln ls:Addr)(ns:List V)(us:List Addr)(l:List (List Tm×List Tm)),vs=[.int p,.int n,.ref ln,.int 1,.ref ls]/\FP p/\H ln=some (.lst ns)/\Paired (qy H) ns (l.map (·.1))/\H ls=some (.lst (us.map V.ref))/\jO C CF p H us (l.map (·.2)) /\
 (∀x∈l,rC p x)/\l.length<=15/\BY p (rg p l)/\tg p (rg p l)=[([],(1,1))]/\∀H',aA H H'->Q (.bl true) H'
variable {P:yn}{w:World}{K:PySem.W.Frag}{mg:xf}{base:Heap}
set_option maxHeartbeats 1000000 in
theorem EZ {f ft fi fp fe fm fg C CF:Addr}{fd JQ KG Jm LV JV IY:zo}(F:Ao K "_law_is_showing" "_law_is_showing" GX f fd)(cF:vR K mg CF)(cS:Hf K mg C)(IM:mg "isinstance"=none)(Iw:mg "list"=none)(Iz:mg "len"=none)(Jy:mg "zip"=none)
 (U7:Ik P w K mg base (aU P w) 1 ft JQ ["self"] (j6 C CF))(U8:L2.ay K JQ ["self"] [])(U9:L2.Meth K C "terms" ft)
 (Va:Ik P w K mg base (aU P w) 1 fi KG ["self"] (kc C CF))(Vb:L2.ay K KG ["self"] [])(Vc:L2.Meth K C "field" fi)
 (FPm:Ik P w K mg base (aU P w) 1 fp Jm ["self"] (uv CF))(bPm:L2.ay K Jm ["self"] [])(mPm:L2.Meth K CF "prime" fp)
 (Yg:Ik P w K mg base (aU P w) 1 fe LV rZ me)(Yh:L2.ay K LV rZ [])(Yi:mg "_law_degree"=some (.ref fe))(Yj:keepIn K (.ref fe)=true)
 (FMu:Ik P w K mg base (aU P w) 5 fm JV EJ xA)(bMu:L2.ay K JV EJ [])(mMu:mg "_law_multiplied"=some (.ref fm))(kMu:keepIn K (.ref fm)=true)
 (FG:Ik P w K mg base (aU P w) 4 fg IY GQ vO)(bG:L2.ay K IY GQ [])(mG:mg "_law_gathered"=some (.ref fg))(kG:keepIn K (.ref fg)=true):
 Ik P w K mg base (aU P w) 6 f fd vp (FX C CF):=by
 refine F.okN rT (λvs H Q E h=>?_) (λIv A outer s H vs Q E hr h=>?_)
 ·obtain⟨p,n,ln,ls,ns,us,l,rfl,_⟩:=h;rfl
 ·obtain⟨p,n,ln,ls,ns,us,l,rfl,hp,Vd,J6,SX,Sv,pr,l15,G,one,q⟩:=h;have Kt:p8 5 _:=hr;have Jb:p8 4 _:=Kt.mono (by decide);have IH:p8 1 _:=Kt.mono (by decide)
  refine⟨_,(ak (a9 (PW.pt (d0 (bJ (bF (aD aQ (by rfl) IM (by rfl) (bf (pv 4) (bf (c6 (by rfl) Iw (by rfl) (show aG (.ty "list") (.type "list") from rfl)) af))))) (dw (@aK _ _ _ _ _ _ _ _ fW (aD bu (by rfl) Iz PySem.boot_len (@ao _ _ _ _ _ (pv 4) af rfl)) (aD bu (by rfl) Iz PySem.boot_len (@ao _ _ _ _ _ (pv 2) af rfl)) (aI _))))) (aq (az dh)) aF)
   (ak (@aV _ _ 5 _ _ _ _ rT.nd rfl (Or.inl rfl) (@cw _ _ _ _ af) rfl (Or.inl rfl))
   (ak (dO PassesOwn.never rfl (@AD _ _ _ _ _ _ _ _ _ _ (pv 2) (pv 4) (by rfl) Jy rfl rfl) (de rfl (aR (aE (i:=6) rT.nd rfl (Or.inl rfl)) (aR (aE (i:=7) rT.nd rfl (Or.inl rfl)) cy)))
   (ak (@aV _ _ 8 _ _ _ _ rT.nd rfl (Or.inl rfl) (cq (pv 7) cS.cl U9 U7 IH U8 .nil ae) rfl (Or.inl rfl))
   (ak (jR (i:=9) (g:=(og K 2 (dN (cb 0) (dN (cb 1) FY)))) (N:=["_law_product","_law_number","_law_places"]) (nl:=2) (js:=[1]) (osc:=aj GX) ⟨rfl,rfl,by decide +kernel,by decide +kernel,by decide +kernel,rfl,(.cons ⟨rfl,by decide +kernel⟩ .nil),by decide +kernel⟩ rfl rT.nd rfl (Or.inl rfl)
    (cC (pv 8))
    (λCq fq sq Hq=>(de (X:=fG _ ["_law_product","_law_number","_law_places"] _ Cq fq sq Hq) rfl (aR (aE (X:=fG _ ["_law_product","_law_number","_law_places"] _ Cq fq sq Hq) (i:=0) (by show(["_law_product","_law_number","_law_places"]:zX).Nodup;decide +kernel) rfl (Or.inl rfl) (Or.inr rfl)) (aR (aE (X:=fG _ ["_law_product","_law_number","_law_places"] _ Cq fq sq Hq) (i:=1) (by show(["_law_product","_law_number","_law_places"]:zX).Nodup;decide +kernel) rfl (Or.inl rfl) (Or.inr rfl)) cy))))
    (λCq fq sq Hq=>(iA (PW.pt (n4 (@aK _ _ _ _ _ _ _ _ (show eE _ _ (uW K true) from qC IH) (pv 0) (@bD _ _ _ _ _ af) (aI _)) (jS Fd)))))
    (λCq fq sq Hq=>(pv 0)) (by rfl))
   (ak (a9 (PW.pt (d0 (@aK _ _ _ _ _ _ _ _ fW (cq (cq (pv 7) cS.cl Vc Va IH Vb .nil ae) cF.cl mPm FPm IH bPm .nil ae) (pv 0) (aI _)) (dw (@aK _ _ _ _ _ _ _ _ (show eE _ _ (rJ K) from pj IH) (pv 9) (@cw _ _ _ _ af) (aI _))))) (aq (az dh)) aF)
   (ak (a9 (PW.pt (n4 (@aK _ _ _ _ _ _ _ _ (show eE _ _ (rJ K) from pj IH) (pv 8) (@cw _ _ _ _ af) (aI _)) (jS (@aK _ _ _ _ _ _ _ _ qh (@aC _ _ _ _ _ _ _ _ dG (aB Yg IH (by rfl) Yi Yj Yh .nil ae (@ao _ _ _ _ _ (pv 8) af rfl)) (aB Yg IH (by rfl) Yi Yj Yh .nil ae (@ao _ _ _ _ _ (pv 6) af rfl))) (pv 3) (aI _))))) (aq (az dh)) aF)
   (aq (@aV _ _ 5 _ _ _ _ rT.nd rfl (Or.inl rfl) (@aC _ _ _ _ _ _ _ _ eI (pv 5) (aB FMu Kt (by rfl) mMu kMu bMu .nil ae (@ao _ _ _ _ _ (pv 0) (@ao _ _ _ _ _ (pv 6) (@ao _ _ _ _ _ (pv 8) af rfl) rfl) rfl))) rfl (Or.inl rfl))))))))
   (aq (az (@cI _ _ _ _ _ _ _ _ (show eE _ _ (uW K false) from wM IH) (aB FG Jb (by rfl) mG kG bG .nil ae (@ao _ _ _ _ _ (pv 0) (@ao _ _ _ _ _ (pv 5) af rfl) rfl)) (@cw _ _ _ _ (@ao _ _ _ _ _ (@bD _ _ _ _ _ (@ao _ _ _ _ _ (@bD _ _ _ _ _ af) (@ao _ _ _ _ _ (@bD _ _ _ _ _ (@ao _ _ _ _ _ au (@ao _ _ _ _ _ au af rfl) rfl)) af rfl) rfl)) af rfl)) (aI _))))))),?_⟩
  have nl:=J6.length;have ul:=Sv.length;rw[List.length_map] at nl ul;refine⟨_,rfl,.ref ls,.ty "list",_,_,true,rfl,rfl,.of (.lst SX),rfl,_,rfl,bw ?_⟩;refine⟨_,rfl,ls,_,rfl,.inl (bo.of SX),_,rfl,ln,_,rfl,.inl (bo.of Vd),rfl,_,rfl,?_⟩;rw[cx,List.length_map,nl,ul,show((l.length:Int)==(l.length:Int))=true from by simp];refine bw ?_;refine⟨Nat.zero_le _,λL hL=>?_⟩;have s1:=ar (o:=.lst []) hL;have e1:upd H L (.lst []) L=some (.lst []):=ah;generalize upd H L _=H1 at s1 e1 |-;refine⟨_,rfl,_,rfl,ln,ls,ns,_,rfl,bo.of (s1 _ _ Vd),bo.of (s1 _ _ SX),?_⟩;refine yE (xs:=ns) (ys:=us.map V.ref) (λi σ H'=>aA H H'/\(∃L ws,H' L=some (.lst ws)/\aX H' ws (rg p (l.take i))/\ws.length<=9*i/\∃o6 o7 o8 o9,σ=[some (.int p),some (.int n),some (.ref ln),some (.int 1),some (.ref ls),some (.ref L),o6,o7,o8,o9])) (by rw[List.length_map];omega) ⟨s1,L,[],e1,.nil,Nat.le_refl _,_,_,_,_,rfl⟩ (λi σ H' _ h=>⟨bo.of (h.1 _ _ Vd),bo.of (h.1 _ _ SX)⟩) ?_ ?_
  ·rintro i y z T σ H2 hy hz hT ⟨s2,L,ws,hL,hw,wl,o6,o7,o8,o9,rfl⟩
   have hk:i<l.length:=by
    have:=(List.getElem?_eq_some_iff.mp hy).1;omega
   have ex:l[i]?=some l[i]:=List.getElem?_eq_getElem hk;obtain⟨Ot,x9,⟨c,hc,gc⟩,th⟩:=pr l[i] (List.getElem_mem hk);obtain⟨ts,et,LR⟩:=bc J6 hy;rw[List.getElem?_map,ex] at et
   cases et
   rw[List.getElem?_map] at hz;obtain⟨u,eu,rfl⟩:=Option.map_eq_some_iff.mp hz;obtain⟨ts,et,SR⟩:=bc Sv eu;rw[List.getElem?_map,ex] at et
   cases et
   generalize l[i]=x at ex Ot x9 hc th LR SR;obtain⟨x1,x2⟩:=x;have hc:x2=[([],c)]:=hc;subst hc;have s3:=ar (o:=.tup [y,.ref u]) hT;have eT:upd H2 T (.tup [y,.ref u]) T=some (.tup [y,.ref u]):=ah;generalize upd H2 T _=H3 at s3 eT |-;have sA:=s2.trans s3;obtain⟨r,rs,rfl,NW,NX⟩:=LR.same sA;obtain⟨dx,fl,Iu,Dd,zs,k1,k2,k3,k4⟩:=(SR.same sA).ex;have hw:=aX.keep hw (aH.of s3);have hL:=s3 _ _ hL;have x9:x1.length<=9:=x9;have NX:aX H3 rs x1:=NX;clear hT s2 s3 LR SR;refine⟨T,_,rfl,br.of eT,rfl,_,_,rfl,_,_,rfl,rfl,?_⟩;refine⟨_,rfl,u,dx,_,rfl,k1,rfl,u,dx,fl,Dd,zs,rfl,k1,k3,λlm hlm=>?_⟩;have s4:=ar (o:=.lst zs) hlm;have e4:upd H3 lm (.lst zs) lm=some (.lst zs):=ah;generalize upd H3 lm _=H4 at s4 e4 |-;have k4:=aX.keep k4 (aH.of s4);have zl:zs.length=1:=k4.length;refine⟨_,rfl,lm,rfl,⟨_,bo.of e4⟩,?_⟩;refine jr (xs:=zs) (rest:=[some (.int n)]) (λi us H'=>aA H4 H'/\us=[]) ⟨aA.refl _,rfl⟩ (λi us H' hi h=>?_) (λi x us H' hi hx h=>?_) (λus H' h=>?_)
   ·rw[h.2];exact⟨by decide,bo.of (h.1 _ _ e4)⟩
   ·obtain⟨s5,rfl⟩:=h;obtain⟨t,et,a,pr,nu,rfl,ha,Jk,JC⟩:=bc (aX.keep k4 (aH.of s5)) hx
    have et:t=([],c):=by
     have:=List.mem_of_getElem? et;exact List.mem_singleton.mp this
    subst et;refine⟨a,.ref pr,.ref nu,rfl,br.of ha,λN hN=>?_⟩;refine⟨_,rfl,Nat.zero_le _,λt0 UC=>?_⟩;have s6:=ar (o:=.tup []) UC;refine⟨.tup [],.tup [],⟨pr,[],rfl,br.of (s6 _ _ Jk),rfl⟩,⟨t0,[],rfl,br.of ah,rfl⟩,(by decide),_,rfl,bw (bw (hN _ _ ⟨s5.trans s6,rfl⟩))⟩
   obtain⟨s5,rfl⟩:=h;intro lf hlf;have s6:=ar (o:=.lst []) hlf;have e6:upd H' lf (.lst []) lf=some (.lst []):=ah;generalize upd H' lf _=H6 at s6 e6 |-;have LZ:=s5.trans s6;have Li:=s4.trans LZ;refine⟨_,rfl,u,dx,_,rfl,Li _ _ k1,rfl,u,dx,fl,Dd,rfl,Li _ _ k1,?_⟩;refine⟨fl,Iu,_,rfl,Li _ _ k2,rfl,fl,Iu,p,rfl,Li _ _ k2,_,rfl,rfl,_,rfl,?_⟩;rw[cx,show(p==p)=true from by simp];refine bw ⟨_,rfl,Nat.zero_le _,λl0 Ve=>?_⟩;have s7:=ar (o:=.lst []) Ve;have e7:upd H6 l0 (.lst []) l0=some (.lst []):=ah;generalize upd H6 l0 _=H7 at s7 e7 |-;refine⟨lf,l0,[],rfl,rfl,bo.of (s7 _ _ e6),bo.of e7,_,rfl,bw ?_⟩;refine⟨_,rfl,Nat.zero_le _,λl1 Ja=>?_⟩;have s8:=ar (o:=.lst []) Ja;have e8:upd H7 l1 (.lst []) l1=some (.lst []):=ah;generalize upd H7 l1 _=H8 at s8 e8 |-;have Lj:=LZ.trans (s7.trans s8)
   have zn:zs≠[]:=λz=>by rw[z] at zl;cases zl
   refine⟨lm,l1,zs,rfl,rfl,bo.of (Lj _ _ e4),bo.of e8,_,rfl,?_⟩;rw[decide_eq_false zn];refine b0 ⟨_,rfl,lm,zs,_,rfl,Lj _ _ e4,aX.keep k4 (aH.of Lj),by show 1<=1000;decide,λm1 H9 s9 m0 hm=>?_⟩
   have m1e:m1=0:=by
    rcases hm with h|⟨t,h,h'⟩
    ·exact h
    ·rw[List.mem_singleton.mp h] at h';exact h'
   subst m1e;have OY:=s4.trans (Lj.trans s9)
   have rl:rs.length<=1000:=by have:=NX.length;omega
   refine⟨_,rfl,r,rs,_,rfl,OY _ _ NW,aX.keep NX (aH.of OY),by have:=NX.length;omega,λm2 X7 JY m0 hm=>?_⟩
   have m2l:m2<=1:=by
    rcases hm with h|⟨t,h,h'⟩
    ·omega
    ·have:=(Ot t h).2.2;omega
   refine⟨_,_,rfl,rfl,_,rfl,_,_,rfl,rfl,_,rfl,?_⟩;rw[decide_eq_false (by omega:¬1<0+m2)];refine bw ?_;have MU:=OY.trans JY;have OZ:=Lj.trans (s9.trans JY);refine⟨_,rfl,_,rfl,_,rfl,_,rfl,p,r,lm,rs,zs,x1,_,rfl,hp,MU _ _ NW,aX.keep NX (aH.of MU),OZ _ _ e4,aX.keep k4 (aH.of OZ),by show x1.length*1<4000;omega,λt h=>⟨(Ot t h).1,(Ot t h).2.1⟩,λt h=>?_,th,λSU Dm ms LY nD hD SK=>?_⟩
   ·rw[List.mem_singleton.mp h];exact⟨gc,.nil,by show 0<32;decide⟩
   have MV:=MU.trans LY
   have ml:ms.length<=9:=by
    rw[SK.length];refine Nat.le_trans (iY hp th) ?_;rw[gh];show x1.length*1<=9;omega
   have il:i<=14:=by omega
   refine⟨L,Dm,ws,ms,rfl,rfl,MV _ _ hL,hD,Nat.le_trans (by omega:_<=200) (by decide),λL2 SV _ Jz NV=>?_⟩;refine⟨sA.trans (MV.trans Jz),L2,_,NV,?_,by rw[List.length_append];omega,_,_,_,_,rfl⟩;rw[List.take_add_one,ex];unfold rg;rw[List.flatMap_append];refine eW (aX.keep hw (aH.of (MV.trans Jz))) ?_;rw[Option.toList_some,List.flatMap_singleton];exact aX.keep SK (aH.of Jz)
  ·rintro σ H2 ⟨s2,L,ws,hL,hw,wl,o6,o7,o8,o9,rfl⟩;rw[nl,List.take_length] at hw;refine⟨_,rfl,_,rfl,L,p,ws,_,rfl,hp,hL,hw,G,λH3 D zs s3 nD hD hz=>?_⟩;refine⟨Nat.zero_le _,λt1 JT=>?_⟩;have s4:=ar (o:=.tup []) JT;have e4:upd H3 t1 (.tup []) t1=some (.tup []):=ah;generalize upd H3 t1 _=H4 at s4 e4 |-;refine⟨iT,λt2 J0=>?_⟩;have s5:=ar (o:=.tup [.int 1,.int 1]) J0;have e5:upd H4 t2 (.tup [.int 1,.int 1]) t2=some (bA 1 1):=ah;generalize upd H4 t2 _=H5 at s5 e5 |-;refine⟨iT,λt3 ht3=>?_⟩;have s6:=ar (o:=.tup [.ref t1,.ref t2]) ht3;have e6:upd H5 t3 (.tup [.ref t1,.ref t2]) t3=some (.tup [.ref t1,.ref t2]):=ah;generalize upd H5 t3 _=H6 at s6 e6 |-;refine⟨sJ,λt4 ht4=>?_⟩;have s7:=ar (o:=.lst [.ref t3]) ht4;have e7:upd H6 t4 (.lst [.ref t3]) t4=some (.lst [.ref t3]):=ah;generalize upd H6 t4 _=H7 at s7 e7 |-;have O0:=s4.trans (s5.trans (s6.trans s7));have hz:aX H3 zs (tg p (rg p l)):=hz;rw[one] at hz;refine⟨_,_,kn (O0 _ _ hD) (aX.keep hz (aH.of O0)),kn (ts:=[([],(1,1))]) e7 (.cons ⟨t3,t1,t2,rfl,s7 _ _ e6,s7 _ _ (s6 _ _ (s5 _ _ e4)),s7 _ _ (s6 _ _ e5)⟩ .nil),Bq _,?_⟩;rw[eA];exact q H7 (s2.trans (s3.trans O0))
end K73
namespace L2
open PySem PySem.Spec PyProof.Rows
theorem cU:∀(names:List (Str×NameKind))(n:Nat)(acc:List (Str×Addr)),cellsFrom n names acc=cellsFrom n names []++acc
 |[],_,_=>rfl
 |(x,k):: r,n,acc=>by
  unfold cellsFrom
  split
  ·rw[cU r (n+1) ((x,n):: acc),cU r (n+1) [(x,n)],List.append_assoc];rfl
  ·exact cU r n acc
theorem eQ:∀(names:List (Str×NameKind))(n:Nat){x:Str}{c:Addr},(x,c)∈cellsFrom n names []->(x,NameKind.cell)∈names
 |[],_,_,_,h=>nomatch h
 |(y,k):: r,n,x,c,h=>by
  unfold cellsFrom at h
  split at h
  ·rename_i hk
   rw[cU] at h
   rcases List.mem_append.mp h with h|h
   ·exact List.mem_cons_of_mem _ (eQ r (n+1) h)
   ·have e:=List.mem_singleton.mp h
    have hk:k=.cell:=by simpa using hk
    cases e
    subst hk;exact List.mem_cons_self
  ·exact List.mem_cons_of_mem _ (eQ r n h)
def jN (X:Cx)(scope:Scope)(C:Addr):List (Str×Addr):=cellsFrom (C+1) scope.names []++eG scope.names X.env
def gy (X:Cx)(N:zX)(scope:Scope)(C:Addr)(fp:List Addr)(s:Dx)(H:Hp):Cx :=
 {fG X N scope C fp s H with env:=compEnvC scope (jN X scope C) C X.env,fn:=λx=>scope.names.lookup x==some .cell}
structure pY (X:Cx)(N:zX)(nl:Nat)(js:List Nat)(osc scope:Scope):Prop where
 out:X.env.scope=osc
 kind:scope.kind=.function
 cell:∀y∈scope.names,y.2=.free->(y.1,NameKind.cell)∉scope.names
 names:∀y∈scope.names,y.2=.local->scope.names.lookup y.1=some .local
 free:∀y∈scope.names,y.2=.free->osc.names.lookup y.1=some .cell\/osc.names.lookup y.1=some .free
 len:N.length=nl+js.length
 src:Paired (λj x=>X.N[j]?=some x/\(x,NameKind.free)∈scope.names) js (N.drop nl)
 abX:∀y∈scope.names,y.2=.free->scope.names.lookup y.1≠some .local
variable {scope:Scope}
theorem kH {X:Cx}{N:zX}{nl:Nat}{js:List Nat}{osc:Scope}{C:Addr}(S:pY X N nl js osc scope)(h:∀y∈scope.names,y.2=.free->∃c,X.env.cells.lookup y.1=some c)(x:Str)(c:Addr)(e:(jN X scope C).lookup x=some c):
 X.env.cells.lookup x=some c\/(cellsFrom (C+1) scope.names []).lookup x=some c:=by
 unfold jN at e;rw[List.lookup_append] at e
 cases q:(cellsFrom (C+1) scope.names []).lookup x with
 |none=>rw[q] at e;exact .inl (gJ h e)
 |some c2=>rw[q] at e;exact .inr e
theorem ya {X:Cx}{C:Addr}{x:Str}(h:(x,NameKind.free)∈scope.names\/scope.names.lookup x=some .cell):∃c,(jN X scope C).lookup x=some c:=by
 unfold jN;rw[List.lookup_append]
 cases q:(cellsFrom (C+1) scope.names []).lookup x with
 |some c=>exact⟨c,rfl⟩
 |none =>
  rcases h with h|h
  ·exact iR h
  ·obtain⟨c,e⟩:=Option.isSome_iff_exists.mp (PySem.W.cellsFrom_some scope.names (C+1) [] (.inl h));rw[q] at e
   cases e
theorem gL {env:Env}:∀{names:List (Str×NameKind)}{x:Str}{k:NameKind},
 (names.map λ(n,k)=>if(k==NameKind.free&&env.scope.kind == .function&&env.kindOf n==some .cell) then(n,NameKind.cell) else(n,k)).lookup x=some k->(k=.cell\/k=.free)->(x,NameKind.free)∈names\/names.lookup x=some .cell
 |[],_,_,h,_=>by simp at h
 |(n,k0):: r,x,k,h,hk=>by
  have h:List.lookup x ((if(k0==NameKind.free&&env.scope.kind == .function&&env.kindOf n==some .cell)=true then(n,NameKind.cell) else(n,k0)):: r.map λ(n,k)=>if(k==NameKind.free&&env.scope.kind == .function&&env.kindOf n==some .cell) then(n,NameKind.cell) else(n,k))=some k:=h;have ih:=@gL env r x k
  by_cases hx:x=n
  ·subst hx
   by_cases hb:(k0==NameKind.free&&env.scope.kind == .function&&env.kindOf x==some .cell)=true
   ·have:=(Bool.and_eq_true_iff.mp (Bool.and_eq_true_iff.mp hb).1).1
    have e:k0=.free:=by simpa using this
    subst e;exact .inl List.mem_cons_self
   ·rw[if_neg hb] at h;simp only[List.lookup_cons,beq_self_eq_true] at h;have e:k0=k:=Option.some.inj h;subst e
    rcases hk with z|z
    ·subst z;exact .inr (by simp)
    ·subst z;exact .inl List.mem_cons_self
  ·have hb:(x==n)=false:=by simpa using hx
   have z:(x,NameKind.free)∈r\/r.lookup x=some .cell:=by
    refine ih ?_ hk
    by_cases IE:(k0==NameKind.free&&env.scope.kind == .function&&env.kindOf n==some .cell)=true
    ·rw[if_pos IE] at h;simp only[List.lookup_cons,hb] at h;exact h
    ·rw[if_neg IE] at h;simp only[List.lookup_cons,hb] at h;exact h
   exact z.imp (List.mem_cons_of_mem _) λz=>by simp only[List.lookup_cons,hb];exact z
variable {s:Dx}
theorem oU {M:Model}{A:Around}{E:yj}{globals:Addr}{closure:List (Str×Addr)}{qual:Str}{outer:Env}{Q:Env->Shared->Prop}
 (hQ:∀h':Heap,h'.Ns s.heap.objs.size (λ_=>none)->(∀b o,s.heap.get? b=some o->h'.get? b=some o)->CellsOk h' (s.heap.objs.size+1) (cellsFrom (s.heap.objs.size+1) scope.names []) →
  Q (newEnv scope s.heap.objs.size globals (cellsFrom (s.heap.objs.size+1) scope.names []++closure) qual none .none (some outer) builtinsNs) {s with heap:=h'}):
 wpAny M A (newFunctionEnv scope globals closure [] qual none .none (some outer)) Q E s:=by
 simp only[newFunctionEnv,Option.isSome_some,if_true];refine wpAny_bind (wpAny_alloc ?_);refine wpAny_bind (wpAny_layCells _ (λname kind cells=>by cases hkc:kind==NameKind.cell <;> simp[hkc]) _ _ _ _ ?_);have ok:=cellsFrom_ok scope.names (s.heap.push {cls:=.type "dict",data:=.dict #[]}) (s.heap.objs.size+1) [] ⟨λ_ _ hm=>(nomatch hm),List.Pairwise.nil⟩ (by rw[Heap.size_push];exact Nat.le_refl _);rw[Heap.size_push] at ok;rw[show({s with heap:=s.heap.push {cls:=.type "dict",data:=.dict #[]} }:Dx).heap.objs.size=s.heap.objs.size+1 from Heap.size_push ..,cU];refine wpAny_bind ?_;rw[List.forIn_nil];exact wpAny_pure (wpAny_pure (hQ _ ((Heap.Ns.new s.heap (.type "dict")).keeps (pushCells_keeps _ _)) (λb o e=>pushCells_keeps _ _ b o (Heap.get?_push_of_some _ e)) ok))
variable {pins:List (Addr×Obj)}{σ:St}{H:Hp}
section
variable {X:Cx}{tg iter elt:Expr}{ifs:De}{scope osc:Scope}{pos:Pos}{N:zX}{nl:Nat}{js:List Nat}
theorem sk {fp:List Addr}{h1:Heap}{C:Addr}{tk:Nat}(S:pY X N nl js osc scope)(I:Inv X pins σ H s)(f:∀b∈fp,cR X pins H b)(Ko:∀b∈fp,b<s.heap.objs.size)
 (hC:s.heap.objs.size<=C)(old:∀b o,s.heap.get? b=some o->h1.get? b=some o){m1:xf}(J6:h1.Ns C m1)(Yk:CellsOk h1 (C+1) (cellsFrom (C+1) scope.names [])):
 Inv (gy X N scope C fp s H) [] (σC nl js σ) H {s with heap:=h1,toks:=tk}:=by
 have Jd:∀y∈scope.names,y.2=.free->X.env.kindOf y.1=some .cell\/X.env.kindOf y.1=some .free:=λy hy hf=>by
  have:=S.free y hy hf;rw[<-S.out] at this;exact this
 have IP:∀y∈scope.names,y.2=.free->∃c,X.env.cells.lookup y.1=some c:=λy hy hf=>I.ok.has y.1 (Jd y hy hf);have sub:∀x c,(eG scope.names X.env).lookup x=some c->X.env.cells.lookup x=some c:=λx c e=>gJ IP e;have cs:=kH (X:=X) (C:=C) S IP;have own:=λ{x c}(e:(cellsFrom (C+1) scope.names []).lookup x=some c)=>Yk.empty x c (PySem.mem_of_lookup e);have ext:∀{x c},(jN X scope C).lookup x=some c->X.env.cells.lookup x=some c\/C<c:=λ{x c} e=>(cs x c e).imp id λz=>(own z).2
 have O1:∀{x c},X.env.cells.lookup x=some c->c<s.heap.objs.size:=λ{x c} e=>by
  obtain⟨v,q⟩:=I.cell x c e;exact q.lt
 have Lq:∀b∈fp,b∉dU X.stack:=λb hb z=>by
  rcases List.mem_cons.mp (I.aam b z) with q|q
  ·exact(f b hb).2.1 q
  ·exact(f b hb).2.2.1 q
 refine⟨⟨I.ok.mod,S.kind,I.ok.glob,I.ok.blt,hC,λx y c e1 e2=>?_,λx hx=>?_,λx c z e=>?_,I.ok.hd,I.ok.frames,.inl rfl,
  λb hb=>⟨Nat.ne_of_lt (Nat.lt_of_lt_of_le (Ko b hb) hC),λx c e=>(ext e).elim (λz=>(f b hb).2.2.2.2.1 x c z) λz=>Nat.ne_of_gt (Nat.lt_of_lt_of_le (Ko b hb) (Nat.le_trans hC (Nat.le_of_lt z)))⟩,I.bs,Nat.le_trans I.ok.bsz I.sz,λb o e hb=>?_,Lq,I.stack,I.aaD⟩,
  rfl,I.bare,Un.kept old,⟨m1,J6,λi x v e1 e2 e3=>?_⟩,λx c e=>?_,I.hok.fresh hC,λx c e=>(ext e).elim (λz=>I.aaj x c z) λz=>I.hok.fresh (Nat.le_trans hC (Nat.le_of_lt z)),λp hp=>absurd (show p∈([]:List (Addr×Obj)) from hp) (by simp),I.hok.kept old,?_⟩
 ·rcases cs x c e1 with z1|z1 <;> rcases cs y c e2 with z2|z2
  ·exact I.ok.inj x y c z1 z2
  ·exact absurd (Nat.lt_of_lt_of_le (O1 z1) (Nat.le_trans hC (Nat.le_of_lt (own z2).2))) (Nat.lt_irrefl _)
  ·exact absurd (Nat.lt_of_lt_of_le (O1 z2) (Nat.le_trans hC (Nat.le_of_lt (own z1).2))) (Nat.lt_irrefl _)
  ·exact PySem.name_of_addr Yk.apart (PySem.mem_of_lookup z1) (PySem.mem_of_lookup z2)
 ·have hx:(relabel scope X.env).names.lookup x=some .cell\/(relabel scope X.env).names.lookup x=some .free:=hx
  have m:(x,NameKind.free)∈scope.names\/scope.names.lookup x=some .cell:=by
   rcases hx with z|z
   ·exact gL z (.inl rfl)
   ·exact gL z (.inr rfl)
  exact ya m
 ·have z:scope.names.lookup x=some .cell:=eq_of_beq z;obtain⟨c',IE⟩:=Option.isSome_iff_exists.mp (PySem.W.cellsFrom_some scope.names (C+1) [] (.inl z));have e:(jN X scope C).lookup x=some c:=e;unfold jN at e;rw[List.lookup_append,IE] at e
  cases e
  exact Nat.le_trans hC (Nat.le_of_lt (own IE).2)
 ·rcases(f b hb).2.2.2.1 with z|z
  ·exact I.ok.aa0 b o e z
  ·exact absurd (Nat.lt_of_lt_of_le (Heap.lt_size e) (Nat.le_trans I.ok.bsz z)) (Nat.lt_irrefl _)
 ·-- Lc names
  have e1:N[i]?=some x:=e1;unfold σC at e2
  by_cases hi:i<nl
  ·rw[List.getElem?_append_left (by simpa using hi),List.getElem?_replicate] at e2
   split at e2 <;> cases e2
  ·obtain⟨k,rfl⟩:∃k,i=nl+k:=⟨i-nl,by omega⟩;rw[List.getElem?_append_right (by simp),List.length_replicate,Nat.add_sub_cancel_left,List.getElem?_map] at e2
   cases ej:js[k]? with
   |none=>rw[ej] at e2;cases e2
   |some j =>
    rw[ej] at e2;have e2:some ((σ[j]?).join)=some (some v):=e2;have e2:=Option.some.inj e2
    have e4:σ[j]?=some (some v):=by
     cases q:σ[j]? with
     |none=>rw[q] at e2;cases e2
     |some z=>rw[q] at e2;exact congrArg some e2
    have e5:(N.drop nl)[k]?=some x:=by rw[List.getElem?_drop];exact e1
    have gp:∀{l1:List Nat}{l2:zX}{k:Nat}{j:Nat}{x:Str},Paired (λj x=>X.N[j]?=some x/\(x,NameKind.free)∈scope.names) l1 l2->l1[k]?=some j->l2[k]?=some x->X.N[j]?=some x/\(x,NameKind.free)∈scope.names:=by
     intro l1 l2 k j x p
     induction p generalizing k with
     |nil=>intro h;simp at h
     |cons r _ ih =>
      intro h1 h2
      cases k with
      |zero=>simp at h1 h2;subst h1;subst h2;exact r
      |succ k=>exact ih (by simpa using h1) (by simpa using h2)
    obtain⟨hx,hm⟩:=gp S.src ej e5;have hk:=Jd (x,.free) hm rfl;obtain⟨m,hn,hl⟩:=I.loc
    have Tw:FD X.env.scope x:=by
     rcases hk with z|z
     ·exact .inr (.inl z)
     ·exact .inr (.inr z)
    obtain⟨u,r,l⟩:=hl j x v hx e4 Tw;refine⟨u,r,?_⟩
    rcases l with⟨k1,_⟩|⟨_,c,hc,Jw⟩
    ·exfalso
     rcases hk with z|z <;> (rw[z] at k1;cases k1)
    ·obtain⟨c',IE⟩:=iR (env:=X.env) hm;have:=sub x c' IE;rw[hc] at this
     cases this
     have IE:(jN X scope C).lookup x=some c:=by
      unfold jN;rw[List.lookup_append]
      cases q:(cellsFrom (C+1) scope.names []).lookup x with
      |none=>exact IE
      |some c2=>exact absurd (eQ scope.names (C+1) (PySem.mem_of_lookup q)) (S.cell (x,.free) hm rfl)
     refine .inr ⟨?_,c,IE,?_⟩
     ·rcases e3 with z|z|z
      ·-- a name of Lc Lr own: no
       exfalso
       have lk:scope.names.lookup x=some .local:=by
        have gen:∀(l:List (Str×NameKind)),(l.map λ(n,k)=>if(k==NameKind.free&&X.env.scope.kind == .function&&X.env.kindOf n==some .cell) then(n,NameKind.cell) else(n,k)).lookup x=some .local->l.lookup x=some .local:=by
         intro l
         induction l with
         |nil=>intro h;simp at h
         |cons p r ih =>
          obtain⟨n,k0⟩:=p;intro h;have h:List.lookup x ((if(k0==NameKind.free&&X.env.scope.kind == .function&&X.env.kindOf n==some .cell)=true then(n,NameKind.cell) else(n,k0)):: r.map λ(n,k)=>if(k==NameKind.free&&X.env.scope.kind == .function&&X.env.kindOf n==some .cell) then(n,NameKind.cell) else(n,k))=some .local:=h
          cases hb:x==n with
          |true =>
           by_cases IE:(k0==NameKind.free&&X.env.scope.kind == .function&&X.env.kindOf n==some .cell)=true
           ·rw[if_pos IE] at h;simp only[List.lookup_cons,hb] at h;cases h
           ·rw[if_neg IE] at h;simp only[List.lookup_cons,hb] at h |-;exact h
          |false =>
           simp only[List.lookup_cons,hb];refine ih ?_
           by_cases IE:(k0==NameKind.free&&X.env.scope.kind == .function&&X.env.kindOf n==some .cell)=true
           ·rw[if_pos IE] at h;simp only[List.lookup_cons,hb] at h;exact h
           ·rw[if_neg IE] at h;simp only[List.lookup_cons,hb] at h;exact h
        exact gen _ z
       exact S.abX (x,.free) hm rfl lk
      ·exact .inl z
      ·exact .inr z
     ·obtain⟨o,ho,hd⟩:=Jw;exact⟨o,old _ _ ho,hd⟩
 ·rcases cs x c e with z|z
  ·obtain⟨v,o,ho,hd⟩:=I.cell x c z;exact⟨v,o,old _ _ ho,hd⟩
  ·exact⟨none,(own z).1⟩
 ·show(σC nl js σ).length=N.length;unfold σC;rw[List.length_append,List.length_replicate,List.length_map,S.len]
theorem pU {J:It}{it:Addr}{fp:List Addr}{tn:Nat->Heap->Prop}{g:TG}{tt:TT}{te:TE}{W:Nat->Nat->List V->St->Hp->Prop}{Fin:List V->Hp->Prop}
 {E:yj}{RR:Value->Addr->Result->Shared->Prop}
 (S:pY X N nl js osc scope)(hc:X.calm=true)(hg:∀C fp s H,PG (gy X N scope C fp s H) tg g)(ht:∀C fp s H,Dh (gy X N scope C fp s H) ifs tt)(he:∀C fp s H,PE (gy X N scope C fp s H) elt te)
 (I:Inv X pins σ H s)(T:Turn X.prog X.w X.K tg J fp it tn)(st:tn 0 s.heap)(f:∀b∈fp,cR X pins H b)(w0:∃m,W 0 m [] (σC nl js σ) H)(hW:iG J g tt te W Fin)
 (TB:∀(D C:Addr)(H':Hp)(s':Dx)(xs:List V)(m:xf),Inv X pins σ (upd H' D (.lst xs)) s'->H' D=none->s'.heap.Ns C m->cR X pins (upd H' D (.lst xs)) C->Fin xs H'->RR (.ref D) C (.ok .next) s'):
 wpAny (model X.prog X.w) X.A (newList []) (λacc s₃=>wpAny (model X.prog X.w) X.A (newFunctionEnv scope X.env.globals (eG scope.names X.env) [] X.env.qual none .none (some X.env)) (λKx s₄ =>
  codeAny (model X.prog X.w) X.A (.compStart (.ListComp elt [⟨tg,iter,ifs,0⟩] scope pos) 0 (.ref it) acc {Kx with scope:=relabel scope X.env}) (RR acc Kx.locals) s₄) E s₃) E s:=by
 have Ko:∀b∈fp,b<s.heap.objs.size:=λb hb=>by
  obtain⟨o,e,_⟩:=T.obj 0 _ st b hb;exact Heap.lt_size e
 refine wpAny_newObj_type (oU λh₁ J7 JB SY=>?_);dsimp only at J7 JB SY |-;generalize MA:s.heap.push {cls:=.type "list",dict:=none,data:=.seq ([]:oH).toArray}=H2 at J7 JB SY |-
 have hC:H2.objs.size=s.heap.objs.size+1:=by rw[<-MA,Heap.size_push]
 have LG:s.heap.objs.size≠H2.objs.size:=by rw[hC];exact Nat.ne_of_lt (Nat.lt_succ_self _)
 have below:∀b,b<s.heap.objs.size->b≠H2.objs.size/\b≠s.heap.objs.size:=λb hb=>⟨by rw[hC];exact Nat.ne_of_lt (Nat.lt_succ_of_lt hb),Nat.ne_of_lt hb⟩;have old:∀b o,s.heap.get? b=some o->h₁.get? b=some o:=λb o e=>JB b o (MA▸Heap.get?_push_of_some _ e);have MB:h₁.get? s.heap.objs.size=some {cls:=.type "list",data:=.seq ([]:oH).toArray 0}:=JB _ _ (MA▸Heap.get?_push_size _ rfl)
 have J8:s.heap.objs.size<=H2.objs.size:=by rw[hC];exact Nat.le_succ _
 have IP:∀y∈scope.names,y.2=.free->∃c,X.env.cells.lookup y.1=some c:=λy hy hf=>by
  have z:=S.free y hy hf;rw[<-S.out] at z;exact I.ok.has y.1 z
 have sub:∀x c,(eG scope.names X.env).lookup x=some c->X.env.cells.lookup x=some c:=λx c e=>gJ IP e;have cs:=kH (X:=X) (C:=H2.objs.size) S IP;have ext:∀{x c},(jN X scope H2.objs.size).lookup x=some c->X.env.cells.lookup x=some c\/H2.objs.size<c:=λ{x c} e=>(cs x c e).imp id λz=>(SY.empty x c (PySem.mem_of_lookup z)).2
 have TC:∀x c,X.env.cells.lookup x=some c->c<s.heap.objs.size:=λx c e=>by
  obtain⟨v,q⟩:=I.cell x c e;exact q.lt
 have Lq:∀b∈fp,b∉dU X.stack:=λb hb z=>by
  rcases List.mem_cons.mp (I.aam b z) with q|q
  ·exact(f b hb).2.1 q
  ·exact(f b hb).2.2.1 q
 have Oj:s.heap.objs.size∉dU X.stack:=λz=>by
  rcases List.mem_cons.mp (I.aam _ z) with q|q
  ·exact absurd I.lt (by rw[<-q];exact Nat.lt_irrefl _)
  ·exact I.abO (Nat.le_refl _) q
 have Ol:s.heap.objs.size∉fp:=λz=>Nat.lt_irrefl _ (Ko _ z)
 have MC:∀{H':Hp}{ob:Obj},(∀b∈fp,H' b=none)->∀b∈fp,cR (gy X N scope H2.objs.size fp s H) [(s.heap.objs.size,ob)] H' b:=λ{H' ob} hn b hb =>
  ⟨hn b hb,(below b (Ko b hb)).1,Lq b hb,.inl hb,λx c e=>(ext e).elim (λz=>(f b hb).2.2.2.2.1 x c z) λz=>Nat.ne_of_gt (Nat.lt_trans (Nat.lt_of_lt_of_le (Ko b hb) J8) z),λp hp z=>by
   have e:p=(s.heap.objs.size,ob):=by
    have:p∈[(s.heap.objs.size,ob)]:=hp;simpa using this
   subst e
   exact Ol (by rw[show s.heap.objs.size=b from z];exact hb)⟩
 have TF:∀{H':Hp},H' s.heap.objs.size=none->cR (gy X N scope H2.objs.size fp s H) [] H' s.heap.objs.size:=λ{H'} hn =>
  ⟨hn,LG,Oj,.inr (Nat.le_refl _),λx c e=>(ext e).elim (λz=>Nat.ne_of_lt (TC x c z)) λz=>Nat.ne_of_gt (Nat.lt_of_le_of_lt J8 z),λp hp=>absurd (show p∈([]:List (Addr×Obj)) from hp) (by simp)⟩
 have Kz:∀{σ':St}{H':Hp}{s':Dx}{ys:oH}{k:Nat},Inv (gy X N scope H2.objs.size fp s H) [] σ' H' s'->H' s.heap.objs.size=none->s'.heap.get? s.heap.objs.size=some (pb ys k) →
  Inv (gy X N scope H2.objs.size fp s H) [(s.heap.objs.size,pb ys k)] σ' H' s':=λ{σ' H' s' ys k} I' hn hl=>I'.aap λp hp=>by
  have e:p=(s.heap.objs.size,pb ys k):=by simpa using hp
  subst e;exact⟨hl,hn,LG,Oj,λv z=>by cases z⟩
 have kb:∀s₃:Shared,s₃={s with heap:=h₁} →
  codeAny (model X.prog X.w) X.A (.compLoop (.ListComp elt [⟨tg,iter,ifs,0⟩] scope pos) 0 (.ref it) (.ref s.heap.objs.size) (compEnvC scope (jN X scope H2.objs.size) H2.objs.size X.env))
   (RR (.ref s.heap.objs.size) H2.objs.size) s₃:=by
  rintro s₃ rfl;obtain⟨m0,w0⟩:=w0;have I0:Inv (gy X N scope H2.objs.size fp s H) [] (σC nl js σ) H {s with heap:=h₁}:=sk (tk:=s.toks) S I f Ko J8 old J7 SY
  refine iO (λn s'=>∃i σ' H' xs ys k,Inv (gy X N scope H2.objs.size fp s H) [(s.heap.objs.size,pb ys k)] σ' H' s'/\tn i s'.heap/\(∀b∈fp,H' b=none)/\aM xs ys/\W i n xs σ' H') ?_ m0
   ⟨0,σC nl js σ,H,[],[],0,Kz I0 (I.hok.fresh (Nat.le_refl _)) MB,T.keep _ _ _ st λb _ o e=>old b o e,λb hb=>(f b hb).1,.nil,w0⟩
  rintro n s' ⟨i,σ',H',xs,ys,k,I',Jx,Om,rv,w'⟩;obtain⟨hz,hw⟩:=hW i n xs σ' H' w'
  rcases hw with⟨stop,fin⟩|⟨go,step⟩
  ·refine wpAny_mono (T.done (gy X N scope H2.objs.size fp s H) rfl rfl rfl hc i _ s' σ' H' (λ_ _=>False) I' (MC Om) Jx stop) (λr s1 z'=>?_) λ_ _ z=>z;obtain⟨hr,I1⟩:=z';subst hr;obtain⟨p1,p2,_⟩:=I1.pin (s.heap.objs.size,pb ys k) (by show _∈([]:List (Addr×Obj))++[_];simp);have u1:Un (dU X.stack) fp H H' s.heap s1.heap:=I1.base
   have u2:Un (dU X.stack) fp H (upd H' s.heap.objs.size (.lst xs)) s.heap s1.heap:=⟨u1.keep,u1.slot,λb o e n hx=>by rw[av (Nat.ne_of_lt (Heap.lt_size e))];exact u1.free b o e n hx,u1.there,
    λb zs e=>by rw[av (ax (u1.aal b zs e) p2)];exact u1.aal b zs e,λb o zs e=>by rw[av (ax (u1.aak b o zs e) p2)];exact u1.aak b o zs e,λb ps e=>by
     obtain⟨mo,q⟩:=u1.aar b ps e
     exact⟨mo,by rw[av (ax q p2)];exact q⟩⟩
   have hk:gf X.prog X.w (upd H' s.heap.objs.size (.lst xs)) s1.heap:=dM I1.hok p2 ⟨Nat.le_of_lt hz,ys,k,rv,p1⟩;have I3:Inv X pins σ (upd H' s.heap.objs.size (.lst xs)) s1:=I.abr I1.os u2 hk I1.bare λb hb=>⟨(f b hb).2.2.2.1,(f b hb).2.1,(f b hb).2.2.2.2.1,(f b hb).2.2.2.2.2⟩;obtain⟨mm,TH,_⟩:=I1.loc
   have TJ:upd H' s.heap.objs.size (.lst xs) H2.objs.size=none:=by rw[av (Ne.symm LG)];exact I1.free
   exact TB _ _ H' s1 xs mm I3 p2 TH (I.aaO J8 TJ) fin
  ·refine wpAny_mono (T.item (gy X N scope H2.objs.size fp s H) rfl rfl rfl hc i _ s' σ' H' (λ_ _=>False) I' (MC Om) Jx go) (λr s1 z'=>?_) λ_ _ z=>z;obtain⟨u,hr,h4⟩:=z';subst hr;refine wpAny_mono h4 (λ_ s2 z'=>?_) λ_ _ z=>z;obtain⟨x,Oo,I2,r2,y2,J5,TK⟩:=z';have TL:=I2.pinned (MC TK) (T.obj _ _ J5);refine wpAny_mono (hg _ _ _ _ _ s2 σ' Oo x u _ TL r2 (step x Oo y2)) (λ_ s3 z'=>?_) λ_ _ z=>z;obtain⟨σ3,H3,I3,q3⟩:=z';refine wpAny_mono (ht _ _ _ _ _ s3 σ3 H3 _ I3 q3) (λok s4 z'=>?_) λ_ _ z=>z;obtain⟨H4,I4,q4⟩:=z'
   have back:∀{s5:Dx}{H5:Hp},Inv (gy X N scope H2.objs.size fp s H) ([(s.heap.objs.size,pb ys k)]++jm fp s2.heap) σ3 H5 s5->tn (i+1) s5.heap/\∀b∈fp,H5 b=none:=λ{s5 H5} I5 =>
    ⟨T.keep _ _ _ J5 λb hb o e=>(I5.pin (b,o) (List.mem_append_right _ (List.mem_append_right _ (dE hb e)))).1,λb hb=>by
     obtain⟨o,e,d⟩:=T.obj _ _ J5 b hb
     exact(I5.pin (b,o) (List.mem_append_right _ (List.mem_append_right _ (dE hb e)))).2.1⟩
   cases ok with
   |false =>
    rw[if_neg Bool.false_ne_true] at q4 |-;obtain⟨m',hm,w4⟩:=q4;exact⟨m',hm,i+1,σ3,H4,xs,ys,k,I4.aaA,(back I4).1,(back I4).2,rv,w4⟩
   |true =>
    rw[if_pos rfl] at q4 |-;refine wpAny_mono (he _ _ _ _ _ s4 σ3 H4 _ I4 q4) (λv s5 z'=>?_) λ_ _ z=>z;obtain⟨y,H5,I5,r5,m',hm,w5⟩:=z';obtain⟨p1,p2,_⟩:=I5.pin (s.heap.objs.size,pb ys k) (List.mem_append_right _ (List.mem_append_left _ (by simp)));obtain⟨Mt,N6⟩:=back I5;refine append_at (its:=ys.toArray) p1 (λh' sb hD=>?_) (by rw[List.size_toArray,<-rv.length];exact Nat.le_of_lt hz);have I6:Inv (gy X N scope H2.objs.size fp s H) [] σ3 H5 {s5 with heap:=h'}:=cJ (I5.aap (pins':=[]) λp hp=>absurd hp (by simp)) (TF p2) sb;refine⟨m',hm,i+1,σ3,H5,xs++[y],ys++[v],k+1,Kz I6 p2 ?_,T.keep _ _ _ Mt λb hb o e=>(sb.2 b λz=>Ol (z▸hb)).trans e,N6,rv.append (.cons r5 .nil),w5⟩;rw[hD];show some _=some (pb (ys++[v]) (k+1));rw[pb,<-List.push_toArray]
 exact codeAny_compStart_list (kb _ rfl) (T.self X.A 0 _ _ _ (T.keep _ _ _ st λb _ o e=>old b o e) (kb _ rfl))
theorem pE (S:pY X N nl js osc scope)(I:Inv X pins σ H s):closureFor scope X.env=pure (eG scope.names X.env):=ia λy hy hf=>by
 have z:=S.free y hy hf;rw[<-S.out] at z;exact I.ok.has y.1 z
theorem wQ {i:Nat}{y:Str}{py KA:Pos}{wi:TI}{g:TG}{tt:TT}{te:TE}(S:pY X N nl js osc scope)(hc:X.calm=true)(hN:X.N.Nodup)(hy:X.N[i]?=some y)(hl:DY X.env.scope y)(hi:PI X tg iter wi)
 (hg:∀C fp s H,PG (gy X N scope C fp s H) tg g)(ht:∀C fp s H,Dh (gy X N scope C fp s H) ifs tt)(he:∀C fp s H,PE (gy X N scope C fp s H) elt te)
 (TM:swapsWith (.ListComp elt [⟨tg,iter,ifs,0⟩] scope pos) (some (.Name y py)) KA.line X.env=pure true)(hs:∀x,foldedSetIterable iter X.env x=pure x:=by intro _;rfl)
 (hf:X.fn y=true\/X.env.scope.names.lookup y=some .local:=by first|exact .inl rfl|exact .inr rfl|assumption):
 PS X (.Assign [.Name y py] (.ListComp elt [⟨tg,iter,ifs,0⟩] scope pos) KA) (rp (yI wi g tt te nl js) (cb i)):=by
 intro pins s σ H D I h;rw[exec_Assign_Name_used _ _ _ _ TM];refine wpAny_bind (wpAny_standAt (wpAny_bind ?_));show wpAny _ X.A (do let _ <-comprehension (.ListComp elt [⟨tg,iter,ifs,0⟩] scope pos) scope X.env _ (newList []) false (eval iter X.env) (some (assign (.Name y py) X.env))) _ _ s
 refine wpAny_bind (wpAny_mono (wpAny_comprehension_free (use:=some (assign (.Name y py) X.env)) (Q:=λ_ s'=>SP X pins D .next s') rfl hs (pE S I) S.kind S.names
  (bK (hi pins s σ H _ I h) λv s1 h1=>bK h1 λN5 s2 h2=>?_)) (λ_ s' hq=>wpAny_pure (wpAny_pure hq)) λ_ _ e=>e)
 obtain⟨it,fp,tn,J,H2,e,I2,T,J5,f2,W,w0,hW⟩:=h2;subst e;refine pU (RR:=λacc C=>compPost (model X.prog X.w) X.A X.xe (some (assign (.Name y py) X.env)) (λ_ s'=>SP X pins D .next s') acc C) S hc hg ht he I2 T J5 f2 w0 hW ?_;intro Dd C H' s' xs m I3 hD hn fC fin;show wpAny _ X.A (assign (.Name y py) X.env (.ref Dd)) _ _ _;refine wpAny_assign_Name (i9 I3 hN hy hl (show aG (.ref Dd) (.ref Dd) from rfl) (λs4 I4 z'=>?_) hf);obtain⟨a,sb,ha⟩:=z';refine⟨m,hn.sameBut sb ?_,λh' TN=>⟨_,_,cJ I4 fC TN,fin Dd hD⟩⟩
 rcases ha with z|z
 ·rw[z];exact fC.2.1
 ·exact λq=>fC.2.2.2.2.1 _ _ z q.symm
end
end L2
namespace K73
open PySem L2 PySem.W Nm Srt
abbrev lG:Stmt:=(aL 70)
theorem t9:Av ["_law_prime_here","_law_many","_law_rooms","_law_minus","_law_rows","_law_room"] GZ (aj lG):=dk (by decide +kernel)
def HB (scope osc:Scope):Scope:={scope with names:=scope.names.map λ(n,k)=>if(k == .free&&osc.kind == .function&&osc.names.lookup n==some .cell) then(n,.cell) else(n,k)}
def BA (d:Scope):Stmt->Scope
 | .Assign _ (.ListComp _ _ sc _) _=>sc
 | .Return (some (.ListComp _ _ sc _)) _=>sc
 |_=>d
def FJ (s:Stmt)(i:Nat):Stmt:=match s with
 | .FunctionDef _ _ b _ _ _ _ _ _ _=>(b[i]?).getD s
 |_=>s
def Io:Scope:=HB (BA (aj lG) (FJ lG 1)) (aj lG)
def Ib:Scope:=HB (BA (aj lG) (FJ lG 3)) (aj lG)
def GR (L:Addr)(H:Hp)(v:V)(row:List Int):Prop:=∃l,l≠L/\v=.ref l/\H l=some (.lst (row.map V.int))
def Il (H:Hp)(v:V)(row:List Int):Prop:=∃l,v=.ref l/\H l=some (.lst (row.map V.int))
variable {p:Int}{row:List Int}
theorem iu (hp:FP p)(l:row.length<=8):BY p (eF p row):=by
 have len:(eF p row).length<=9:=by unfold eF;rw[List.length_cons,List.length_map];omega
 refine BY.of (m:=8) hp (by omega) (λt h=>?_) (by omega) (by decide)
 rcases List.mem_cons.mp h with rfl|h
 ·exact gW hp (by decide)
 ·obtain⟨k,_,rfl⟩:=List.mem_map.mp h;exact rX hp
variable {a b:Nat}
theorem jQ (h:row∈qk a b)(a7:a<=7)(b8:b<=8):row.length<=8:=by
 rcases List.mem_append.mp h with h|h
 ·obtain⟨g,_,rfl⟩:=List.mem_map.mp h;rw[lr];omega
 ·obtain⟨g,_,rfl⟩:=List.mem_map.mp h;rw[j0];omega
def AM:Sp:=λvs H Q _=>∃(p:Int)(a b:Nat),vs=[.int p,.int a,.int b]/\FP p/\1<=a/\a<=7/\1<=b/\b<=8 /\
 ∀H' D ns,aA H H'->H' D=some (.lst ns)->Paired (qy H') ns ((qk a b).map λr=>tg p (eF p r))->Q (.ref D) H'
variable {P:yn}{w:World}{K:PySem.W.Frag}{mg:xf}{base:Heap}
variable {f:Addr}{fd:zo}
set_option maxHeartbeats 1000000 in
theorem ES {fm fg:Addr}{JV IY:zo}(F:Ao K "_law_guests" "_law_guests" lG f fd)(Iy:mg "range"=none)
 (FM:Ik P w K mg base (aU P w) 2 fm JV vz Ca)(bM:L2.ay K JV vz [])(mM:mg "_law_made"=some (.ref fm))(kM:keepIn K (.ref fm)=true)
 (FG:Ik P w K mg base (aU P w) 4 fg IY GQ vO)(bG:L2.ay K IY GQ [])(mG:mg "_law_gathered"=some (.ref fg))(kG:keepIn K (.ref fg)=true):
 Ik P w K mg base (aU P w) 5 f fd GZ AM:=by
 refine F.okN t9 (λvs H Q E h=>?_) (λIv A outer s H vs Q E hr h=>?_)
 ·obtain⟨p,a,b,rfl,_⟩:=h;rfl
 ·obtain⟨p,a,b,rfl,hp,a1,a7,b1,b8,q⟩:=h;have Jb:p8 4 _:=hr;have Jj:p8 2 _:=Jb.mono (by decide)
  refine⟨_,(ak (@aV _ _ 3 _ _ _ _ t9.nd rfl (Or.inr rfl) (aB FM Jj (by rfl) mM kM bM .nil ae (@ao _ _ _ _ _ (pv 0) (@ao _ _ _ _ _ (mz i8 au) (@ao _ _ _ _ _ au af rfl) rfl) rfl)) rfl (Or.inl rfl))
   (ak (wQ (i:=4) (N:=["_law_guest","_law_rooms"]) (nl:=1) (js:=[2]) (osc:=aj lG) ⟨rfl,rfl,by decide +kernel,by decide +kernel,by decide +kernel,rfl,(.cons ⟨rfl,by decide +kernel⟩ .nil),by decide +kernel⟩ rfl t9.nd rfl (Or.inl rfl) (cH (by rfl) Iy (@ao _ _ _ _ _ (pv 1) af rfl)) (λCq fq sq Hq=>aE (i:=0) (by show(["_law_guest","_law_rooms"]:zX).Nodup;decide +kernel) rfl (Or.inr rfl) (Or.inl rfl)) (λCq fq sq Hq=>cj) (λCq fq sq Hq=>(ck (N:=["_law_room","_law_guest","_law_rooms"]) (nl:=1) (js:=[0,1]) (osc:=Io) ⟨rfl,rfl,by decide +kernel,by decide +kernel,by decide +kernel,rfl,(.cons ⟨rfl,by decide +kernel⟩ (.cons ⟨rfl,by decide +kernel⟩ .nil)),by decide +kernel⟩ rfl (cH (by rfl) Iy (@ao _ _ _ _ _ (pv 1) af rfl)) (λCq fq sq Hq=>aE (i:=0) (by show(["_law_room","_law_guest","_law_rooms"]:zX).Nodup;decide +kernel) rfl (Or.inl rfl) (Or.inr rfl)) (λCq fq sq Hq=>cj) (λCq fq sq Hq=>(@aC _ _ _ _ _ _ _ _ dG (@aC _ _ _ _ _ _ _ _ bz (pv 1) (pv 2)) (pv 0))))) (by rfl))
   (ak (dO PassesOwn.never rfl (cH (by rfl) Iy (@ao _ _ _ _ _ (pv 2) af rfl)) (aE (i:=5) t9.nd rfl (Or.inr rfl))
   (aq (eK (Br PySem.F.plainAttrs_list PySem.F.slot_list_append PySem.F.type_list_append mY (pv 4) (@ao _ _ _ _ _ (ck (N:=["_law_guest","_law_rooms","_law_room"]) (nl:=1) (js:=[2,5]) (osc:=aj lG) ⟨rfl,rfl,by decide +kernel,by decide +kernel,by decide +kernel,rfl,(.cons ⟨rfl,by decide +kernel⟩ (.cons ⟨rfl,by decide +kernel⟩ .nil)),by decide +kernel⟩ rfl
    (cH (by rfl) Iy (@ao _ _ _ _ _ (pv 1) af rfl))
    (λCq fq sq Hq=>aE (i:=0) (by show(["_law_guest","_law_rooms","_law_room"]:zX).Nodup;decide +kernel) rfl (Or.inl rfl) (Or.inr rfl))
    (λCq fq sq Hq=>cj)
    (λCq fq sq Hq=>(@aC _ _ _ _ _ _ _ _ dG (@aC _ _ _ _ _ _ _ _ bz (pv 0) (pv 1)) (pv 2)))) af rfl)))))
   (aq (az (ck (N:=["_law_row","_law_prime_here","_law_minus"]) (nl:=1) (js:=[0,3]) (osc:=aj lG) ⟨rfl,rfl,by decide +kernel,by decide +kernel,by decide +kernel,rfl,(.cons ⟨rfl,by decide +kernel⟩ (.cons ⟨rfl,by decide +kernel⟩ .nil)),by decide +kernel⟩ rfl (cC (pv 4)) (λCq fq sq Hq=>aE (i:=0) (by show(["_law_row","_law_prime_here","_law_minus"]:zX).Nodup;decide +kernel) rfl (Or.inl rfl) (Or.inr rfl)) (λCq fq sq Hq=>cj) (λCq fq sq Hq=>(aB FG Jb (by rfl) mG kG bG .nil ae (@ao _ _ _ _ _ (pv 1) (@ao _ _ _ _ _ (@aC _ _ _ _ _ _ _ _ eI (@cw _ _ _ _ (@ao _ _ _ _ _ (@bD _ _ _ _ _ (@ao _ _ _ _ _ (@bD _ _ _ _ _ af) (@ao _ _ _ _ _ (pv 2) af rfl) rfl)) af rfl)) (ck (X:=fG _ ["_law_row","_law_prime_here","_law_minus"] _ Cq fq sq Hq) (N:=["_law_place"]) (nl:=1) (js:=[]) (osc:=Ib) ⟨rfl,rfl,by decide +kernel,by decide +kernel,by decide +kernel,rfl,.nil,by decide +kernel⟩ rfl (Fl (K:=K) rfl (pv 0)) (λCq fq sq Hq=>aE (i:=0) (by show(["_law_place"]:zX).Nodup;decide +kernel) rfl (Or.inl rfl) (Or.inr rfl)) (λCq fq sq Hq=>cj) (λCq fq sq Hq=>(@bD _ _ _ _ _ (@ao _ _ _ _ _ (@bD _ _ _ _ _ (@ao _ _ _ _ _ (pv 0) af rfl)) (@ao _ _ _ _ _ (@bD _ _ _ _ _ (@ao _ _ _ _ _ au (@ao _ _ _ _ _ au af rfl) rfl)) af rfl) rfl))))) af rfl) rfl))))))))),?_⟩
  have B1:B 9000 (1:Int):=Nat.lt_of_lt_of_le (by decide:(1:Int).natAbs<2^8) (Nat.pow_le_pow_right (by decide) (by decide));have bB:∀{k:Int},0<=k->k<256->B 9000 k:=λ{k} h0 h1=>Nat.lt_of_lt_of_le (show k.natAbs<2^8 by omega) (Nat.pow_le_pow_right (by decide) (by decide));refine⟨_,rfl,_,rfl,p,-1,1,rfl,hp,by decide,B1,B1,λ_=>rfl,λH1 mn s1 e1=>?_⟩;refine⟨_,rfl,(a:Int),rfl,by omega,by omega,?_⟩;refine en (lo:=0) (n:=(a:Int).toNat) (rest:=[some (.int b)]) (λj us H'=>aA H1 H'/\Paired (Il H') us ((List.range j).map (fQ b))) ⟨aA.refl _,.nil⟩ (λj us H' hj h=>?_) (λj us H' M hj h hM=>?_) (λus H' h=>?_)
  ·rw[h.2.length,List.length_map,List.length_range];exact Nat.lt_of_le_of_lt (by omega:j<=8) (by decide)
  ·obtain⟨s2,hu⟩:=h;refine jc ⟨_,rfl,(b:Int),rfl,by omega,by omega,?_⟩;refine en (lo:=0) (n:=(b:Int).toNat) (rest:=[some (.int (0+j)),some (.int b)]) (λi vs IV=>IV=H'/\vs=((List.range i).map λr=>((j*b+r:Nat):Int)).map V.int) ⟨rfl,rfl⟩ (λi vs IV hi h=>?_) (λi vs IV N hi h hN=>?_) (λvs IV h=>?_)
   ·rw[h.2,List.length_map,List.length_map,List.length_range];exact Nat.lt_of_le_of_lt (by omega:i<=8) (by decide)
   ·obtain⟨rfl,rfl⟩:=h;refine jc ⟨_,rfl,_,rfl,_,_,rfl,rfl,⟨bB (by omega) (by omega),bB (by omega) (by omega)⟩,_,rfl,_,_,rfl,rfl,hN _ _ ⟨rfl,?_⟩⟩;rw[List.range_succ,List.map_append,List.map_append,Int.zero_add,Int.zero_add];push_cast;rfl
   ·obtain⟨rfl,rfl⟩:=h;intro l hl;rw[Int.toNat_natCast];have s3:=ar (o:=.lst ((fQ b j).map V.int)) hl;refine hM _ _ ⟨s2.trans s3,?_⟩;rw[List.range_succ,List.map_append];exact Paired.snoc (Paired.aax hu λ_ _ ⟨l,h1,h2⟩=>⟨l,h1,s3 _ _ h2⟩) ⟨l,rfl,ah⟩
  obtain⟨s2,hu⟩:=h;rw[Int.toNat_natCast] at hu;intro L hL;have hu:Paired (GR L (upd H' L (.lst us))) us ((List.range a).map (fQ b)):=Paired.aax hu λ_ _ ⟨l,h1,h2⟩=>⟨l,ax h2 hL,h1,by rw[av (ax h2 hL)];exact h2⟩;have s3:=ar (o:=.lst us) hL;have eL:upd H' L (.lst us) L=some (.lst us):=ah;have nL:=none_of (s1.trans s2) hL;have e3:=(s2.trans s3) _ _ e1;have Yl:=s1.trans (s2.trans s3);generalize upd H' L _=H3 at hu s3 eL e3 Yl |-;have nm:mn≠L:=ax (s2 _ _ e1) hL;refine⟨_,rfl,(b:Int),rfl,by omega,by omega,?_⟩;refine jv (lo:=0) (n:=(b:Int).toNat) (λj σ H'=>aA H H'/\H' mn=some (bA (aW p (-1)).1 (aW p (-1)).2)/\(∃ws,H' L=some (.lst ws)/\Paired (GR L H') ws ((List.range a).map (fQ b)++(List.range j).map (fA a b)))/\∃o5,σ=[some (.int p),some (.int a),some (.int b),some (.ref mn),some (.ref L),o5]) ⟨Yl,e3,⟨us,eL,by simpa using hu⟩,_,rfl⟩ ?_ ?_
  ·rintro j σ H4 hj ⟨s4,e4,⟨ws,eL,hw⟩,o5,rfl⟩;refine⟨_,rfl,.inl ⟨rfl,_,bo.of eL⟩,?_⟩;refine⟨_,rfl,(a:Int),rfl,by omega,by omega,?_⟩;refine en (lo:=0) (n:=(a:Int).toNat) (rest:=[some (.int b),some (.int (0+j))]) (λi vs IV=>IV=H4/\vs=((List.range i).map λg=>((g*b+j:Nat):Int)).map V.int) ⟨rfl,rfl⟩ (λi vs IV hi h=>?_) (λi vs IV N hi h hN=>?_) (λvs IV h=>?_)
   ·rw[h.2,List.length_map,List.length_map,List.length_range];exact Nat.lt_of_le_of_lt (by omega:i<=8) (by decide)
   ·obtain⟨rfl,rfl⟩:=h;refine jc ⟨_,rfl,_,rfl,_,_,rfl,rfl,⟨bB (by omega) (by omega),bB (by omega) (by omega)⟩,_,rfl,_,_,rfl,rfl,hN _ _ ⟨rfl,?_⟩⟩;rw[List.range_succ,List.map_append,List.map_append,Int.zero_add,Int.zero_add];push_cast;rfl
   ·obtain⟨rfl,rfl⟩:=h;intro l hl;rw[Int.toNat_natCast];have s5:=ar (o:=.lst ((fA a b j).map V.int)) hl;have e5:upd IV l (.lst ((fA a b j).map V.int)) l=some (.lst ((fA a b j).map V.int)):=ah
    have lL:l≠L:=λz=>by subst z;rw[eL] at hl;cases hl
    change An _ (upd IV l (.lst ((fA a b j).map V.int))) _;generalize upd IV l _=H5 at s5 e5 |-
    have wl:ws.length<=15:=by
     rw[hw.length,List.length_append,List.length_map,List.length_map,List.length_range,List.length_range];omega
    refine⟨L,ws,.ref l,rfl,rfl,s5 _ _ eL,Nat.lt_of_le_of_lt wl (by decide),?_⟩;refine⟨λc u e=>?_,?_,⟨_,ah,?_⟩,_,rfl⟩
    ·rw[av (ax e nL)];exact s5 _ _ (s4 _ _ e)
    ·rw[av nm];exact s5 _ _ e4
    ·rw[List.range_succ,List.map_append,<-List.append_assoc];exact Paired.snoc (Paired.aax hw λ_ _ ⟨l,h0,h1,h2⟩=>⟨l,h0,h1,by rw[av h0];exact s5 _ _ h2⟩) ⟨l,lL,rfl,by rw[av lL];exact e5⟩
  ·rintro σ H4 ⟨s4,e4,⟨ws,eL,hw⟩,o5,rfl⟩;rw[Int.toNat_natCast] at hw;have hw:Paired (GR L H4) ws (qk a b):=hw;refine⟨_,rfl,L,rfl,⟨_,bo.of eL⟩,?_⟩;have wl:=hw.length
   have rl:(qk a b).length<=15:=by unfold qk;rw[List.length_append,List.length_map,List.length_map,List.length_range,List.length_range];omega
   refine iQ (a:=L) (xs:=ws) (rest:=[some (.int p),some (.ref mn)]) (λj us H'=>aA H4 H'/\Paired (qy H') us (((qk a b).take j).map λr=>tg p (eF p r))) ⟨aA.refl _,.nil⟩ (λj us H' hj h=>?_) (λj x us H' M hj hx h hM=>?_) (λus H' h=>?_)
   ·refine⟨?_,bo.of (h.1 _ _ eL)⟩;rw[h.2.length,List.length_map,List.length_take];exact Nat.lt_of_le_of_lt (by omega:_<=15) (by decide)
   ·obtain⟨s5,hu⟩:=h;obtain⟨row,er,l,_,rfl,hl⟩:=bc hw hx;have r8:=jQ (List.mem_of_getElem? er) a7 b8;refine jc ⟨_,rfl,Nat.zero_le _,λt1 JT=>?_⟩;have s6:=ar (o:=.tup []) JT;have e6:upd H' t1 (.tup []) t1=some (.tup []):=ah;generalize upd H' t1 _=H6 at s6 e6 |-;refine⟨_,rfl,iT,λt2 J0=>?_⟩;have s7:=ar (o:=.tup [.ref t1,.ref mn]) J0;have e7:upd H6 t2 (.tup [.ref t1,.ref mn]) t2=some (.tup [.ref t1,.ref mn]):=ah;generalize upd H6 t2 _=H7 at s7 e7 |-;refine⟨sJ,λL1 Lf=>?_⟩;have s8:=ar (o:=.lst [.ref t2]) Lf;have e8:upd H7 L1 (.lst [.ref t2]) L1=some (.lst [.ref t2]):=ah;generalize upd H7 L1 _=H8 at s8 e8 |-;have O3:=s6.trans (s7.trans s8);have Lj:=s5.trans O3;refine⟨_,rfl,l,rfl,⟨_,bo.of (Lj _ _ hl)⟩,?_⟩;refine iQ (a:=l) (xs:=row.map V.int) (rest:=[]) (λi vs IV=>aA H8 IV/\aX IV vs ((row.take i).map λk=>([k],((1,1):Int×Int)))) ⟨aA.refl _,.nil⟩ (λi vs IV hi h=>?_) (λi x vs IV N hi hx h hN=>?_) (λvs IV h=>?_)
    ·refine⟨?_,bo.of (h.1 _ _ (Lj _ _ hl))⟩;rw[h.2.length,List.length_map,List.length_take];exact Nat.lt_of_le_of_lt (by omega:_<=8) (by decide)
    ·obtain⟨s9,hv⟩:=h;rw[List.getElem?_map] at hx;obtain⟨k,ek,rfl⟩:=Option.map_eq_some_iff.mp hx;refine jc ⟨_,rfl,sJ,λu1 T7=>?_⟩;have z1:=ar (o:=.tup [.int k]) T7;have f1:upd IV u1 (.tup [.int k]) u1=some (.tup [.int k]):=ah;generalize upd IV u1 _=G1 at z1 f1 |-;refine⟨iT,λu2 UH=>?_⟩;have z2:=ar (o:=.tup [.int 1,.int 1]) UH;have f2:upd G1 u2 (.tup [.int 1,.int 1]) u2=some (bA 1 1):=ah;generalize upd G1 u2 _=G2 at z2 f2 |-;refine⟨iT,λu3 hu3=>hN _ _ ?_⟩;have z3:=ar (o:=.tup [.ref u1,.ref u2]) hu3;have zA:=z1.trans (z2.trans z3);refine⟨s9.trans zA,?_⟩;rw[List.take_add_one,ek,List.map_append];exact Paired.snoc (aX.keep hv (aH.of zA)) ⟨u3,u1,u2,rfl,ah,z3 _ _ (z2 _ _ f1),z3 _ _ f2⟩
    ·obtain⟨s9,hv⟩:=h;rw[List.length_map,List.take_length] at hv;intro D hD;have JY:=ar (o:=.lst vs) hD;have MT:upd IV D (.lst vs) D=some (.lst vs):=ah;generalize upd IV D _=X7 at JY MT |-;have O4:=s9.trans JY;have vl:=hv.length;rw[List.length_map] at vl;refine⟨L1,D,_,vs,rfl,rfl,O4 _ _ e8,MT,Nat.le_trans (by show 1+vs.length<=9;omega) (by decide),λD2 SU _ LY e11=>?_⟩;have MW:=O4.trans LY;have O5:=s8.trans MW;refine⟨D2,p,_,eF p row,rfl,hp,e11,?_,iu hp r8,λSV D3 zs Jz _ NV hz=>hM _ _ ?_⟩
     ·exact eW (.cons ⟨t2,t1,mn,rfl,O5 _ _ e7,(s7.trans O5) _ _ e6,(s5.trans (O3.trans MW)) _ _ e4⟩ .nil) (aX.keep hv (aH.of (JY.trans LY)))
     ·have sA:=O3.trans (MW.trans Jz);refine⟨s5.trans sA,?_⟩;rw[List.take_add_one,er,List.map_append];exact Paired.snoc (Paired.aax hu λ_ _ z=>z.same sA) ⟨D3,zs,rfl,NV,hz⟩
   ·obtain⟨s5,hu⟩:=h;rw[wl,List.take_length] at hu;intro D hD;have s6:=ar (o:=.lst us) hD;exact q _ D us (s4.trans (s5.trans s6)) ah (Paired.aax hu λ_ _ z=>z.same s6)
abbrev xX:Stmt:=(aL 16)
def nR:V->Bool
 | .int i=>decide (0<=i)&&decide (i<=1)
 |_=>false
def sx:Option (List V)->Bool
 |none=>false
 |some xs=>xs.all nR
def B8:Sp:=λvs H Q _=>∃x o,vs=[x]/\PX H x o/\∀H',aA H H'->Q (.bl (sx o)) H'
theorem Dj:Av wg wg (aj xX):=dk (by decide +kernel)
theorem AS {fw:Addr}{Je:zo}(F:Ao K "is_row_of_bits" "is_row_of_bits" xX f fd)(Iq:mg "isinstance"=none)(IA:mg "tuple"=none)(IT:mg "all"=none)
 (FW:Ik P w K mg base (aU P w) 1 fw Je wg Bk)(bW:L2.ay K Je wg [])(mW:mg "is_whole"=some (.ref fw))(kW:keepIn K (.ref fw)=true):Ik P w K mg base (aU P w) 2 f fd wg B8:=by
 refine F.okN Dj (λvs H Q E h=>?_) (λIv A outer s H vs Q E hr h=>?_)
 ·obtain⟨x,o,rfl,_⟩:=h;rfl
 ·obtain⟨x,o,rfl,px,q⟩:=h;have IH:p8 1 _:=hr.mono (by decide)
  refine⟨_,aq (az (dC (aD aQ (by rfl) Iq (by rfl) (@ao _ _ _ _ _ (pv 0) (@ao _ _ _ _ _ (c6 (by rfl) IA (by rfl) (show aG (.ty "tuple") (.type "tuple") from rfl)) af rfl) rfl))
   (eV (aD (ix rfl) (by rfl) IT (by rfl) (@ao _ _ _ _ _ (ck (N:=["bit"]) (nl:=1) (js:=[]) (osc:=aj xX) ⟨rfl,rfl,by decide +kernel,by decide +kernel,by decide +kernel,rfl,.nil,by decide +kernel⟩ rfl
    (qU (pv 0))
    (λC fp s H=>aE (i:=0) (by show(["bit"]:zX).Nodup;decide +kernel) rfl (Or.inl rfl) (Or.inr rfl))
    (λC fp s H=>cj)
    (λC fp s H=>(dC (aB FW IH (by rfl) mW kW bW .nil ae (@ao _ _ _ _ _ (pv 0) af rfl)) (eV (ka iH iH au (pv 0) au))))) af rfl))))),?_⟩
  cases px with
  |@no x T th ne =>
   refine⟨_,rfl,x,.ty "tuple",_,_,_,rfl,rfl,th.ty,th.isTup,_,rfl,?_⟩;rw[decide_eq_false ne];exact bw (q _ (aA.refl _))
  |@tup a xs ha hl Uc =>
   refine⟨_,rfl,.ref a,.ty "tuple",_,_,_,rfl,rfl,.of (.tup ha),rfl,_,rfl,b0 ?_⟩;refine⟨_,rfl,a,rfl,⟨xs,br.of ha⟩,?_⟩;refine⟨λi m ys σ' H'=>m=xs.length-i/\i<=xs.length/\ys=((xs.take i).map nR).map V.bl/\H=H'/\∃o,σ'=[o],⟨xs.length,by simp,Nat.zero_le _,by simp,rfl,none,rfl⟩,?_⟩;rintro i m ys σ' H' ⟨rfl,hi,rfl,rfl,o,rfl⟩;refine⟨Nat.lt_of_le_of_lt (by simp;omega) (Nat.lt_trans hl (by decide)),?_⟩
   by_cases IC:i<xs.length
   ·refine .inr ⟨⟨xs,xs[i],br.of ha,by simp[IC]⟩,λy H2 hy=>?_⟩;obtain⟨rfl,hy⟩:=hy;have ey:=hy xs (br.of ha);obtain⟨T,th⟩:=Uc y (List.mem_of_getElem? ey)
    have e2:xs.take (i+1)=xs.take i++[y]:=by
     rw[List.take_add_one,ey];rfl
    have done:∀b,b=nR y->∃m',m'<xs.length-i/\m'=xs.length-(i+1)/\i+1<=xs.length/\((xs.take i).map nR).map V.bl++[V.bl b]=((xs.take (i+1)).map nR).map V.bl/\H2=H2/\∃o,([some y]:St)=[o]:=λb hb =>
     ⟨xs.length-(i+1),by omega,rfl,IC,by rw[e2,hb];simp,rfl,_,rfl⟩
    dsimp only[Ad,cb];refine b0 ⟨_,rfl,y,T,rfl,th,_,rfl,?_⟩
    cases e:dz y with
    |false =>
     have z:nR y=false:=by cases y <;> first|rfl|cases e
     exact bw (done false z.symm)
    |true =>
     have z1:∃n,y=.int n:=by cases y <;> first|exact⟨_,rfl⟩|cases e
     obtain⟨n,rfl⟩:=z1;refine b0 ⟨_,rfl,_,_,rfl,rfl,_,rfl,?_⟩;refine dH (λh=>?_) (λh=>?_)
     ·have h':decide (0<=n)=true:=h;exact⟨_,_,rfl,rfl,done _ (by show _=(decide (0<=n)&&decide (n<=1));rw[h',Bool.true_and])⟩
     ·have h':decide (0<=n)=false:=by simpa using h
      exact done false (by show _=(decide (0<=n)&&decide (n<=1));rw[h',Bool.false_and])
   ·have ei:i=xs.length:=by omega
    subst ei;refine .inl ⟨⟨xs,br.of ha,Nat.le_refl _⟩,λD hD=>?_⟩;rw[List.take_length];refine⟨D,_,xs.map nR,rfl,bo.of ah,oy _,?_⟩
    have z:(xs.map nR).all id=sx (some xs):=by rw[List.all_map];rfl
    rw[z];exact q _ (ar hD)
abbrev qD:Stmt:=aJ (aL 38) 13
def gI (bs:List Int)(ks:List Int):Bool:=(ks.filter λk=>bs.getD k.toNat 0==0).isEmpty
def b9 (p:Int)(bs:List Int)(a:Int×Int)(t:Tm):Int×Int:=if gI bs t.1=true then cZ p a t.2 else a
def cg (p:Int)(bs:List Int)(ts:List Tm):Int×Int:=ts.foldl (b9 p bs) (0,1)
theorem ij (p:Int)(bs:List Int)(ts:List Tm)(t:Tm):cg p bs (ts++[t])=b9 p bs (cg p bs ts) t:=by
 unfold cg;rw[List.foldl_append];rfl
theorem jV {m:Nat}{bs:List Int}(hp:FP p):∀(n:Nat)(ts:List Tm),ts.length=n->(∀t∈ts,Gn p m t.2)->Gn p ((m+1)*n+7) (cg p bs ts)
 |0,ts,hn,_=>by
  have:ts=[]:=List.length_eq_zero_iff.mp hn;subst this;show Gn p ((m+1)*0+7) (0,1);refine⟨⟨(by show(0:Int)<1;decide),(by show Int.gcd 0 1=1;decide),λz=>⟨rfl,(by show(0:Int)<=0;decide),?_⟩⟩,?_,?_⟩
  ·have:=(hp.two z).2.1;show(0:Int)<p;omega
  ·show(0:Int).natAbs<2^((m+1)*0+7);rw[Nat.mul_zero];decide
  ·show(1:Int).natAbs<2^((m+1)*0+7);rw[Nat.mul_zero];decide
 |n+1,ts,hn,h=>by
  obtain⟨Ly,t,rfl⟩:∃Ly t,ts=Ly++[t]:=by
   have IX:ts≠[]:=by intro z;rw[z] at hn;cases hn
   exact⟨ts.dropLast,ts.getLast IX,(List.dropLast_concat_getLast IX).symm⟩
  have hl:Ly.length=n:=by simpa using hn
  have ih:=jV (bs:=bs) hp n Ly hl λt ht=>h t (List.mem_append_left _ ht);have gt:=h t (List.mem_append_right _ (by simp));rw[ij];have e2:(m+1)*(n+1)=(m+1)*n+(m+1):=Nat.mul_succ _ _;unfold b9
  split
  ·have g:=mO hp ih gt (by omega);exact⟨g.1,g.2.1.mono (by omega),g.2.2.mono (by omega)⟩
  ·exact⟨ih.1,ih.2.1.mono (by omega),ih.2.2.mono (by omega)⟩
variable {k:Int}
theorem Du {bs:List Int}(h0:0<=k)(h1:k<(bs.length:Int)):sr (bs.map V.int) k=some (.int (bs.getD k.toNat 0)):=by
 unfold sr xo;rw[List.length_map,if_pos h0,if_pos h1];show(bs.map V.int)[k.toNat]?=_
 have hk:k.toNat<bs.length:=by omega
 rw[List.getElem?_map,List.getElem?_eq_getElem hk,List.getD_eq_getElem?_getD,List.getElem?_eq_getElem hk];rfl
theorem jW {bs ks:List Int}:gI bs ks=true ↔ ∀k∈ks,bs.getD k.toNat 0≠0:=by
 unfold gI;rw[List.isEmpty_iff,List.filter_eq_nil_iff];constructor
 ·intro h k hk z;exact h k hk (by rw[z];rfl)
 ·intro h k hk z;exact h k hk (eq_of_beq z)
variable {ts:List Tm}
section
variable {p:Int}{R:Type} [Lean.Grind.CommRing R]{v:Int×Int->R}
def fl (bs:List Int)(ks:List Int):R:=if gI bs ks=true then 1 else 0
theorem fJ (V:Val p R v)(hp:0<=p){bs:List Int}:∀{ts:List Tm}{a:Int×Int},cp p ts->Num p a.1 a.2->v (ts.foldl (b9 p bs) a)=v a+S v ts (fl bs)/\Num p (ts.foldl (b9 p bs) a).1 (ts.foldl (b9 p bs) a).2
 |[],a,_,ha=>⟨by show v a=v a+0;grind,ha⟩
 |t::ts,a,h,ha=>by
  have ht:=h t List.mem_cons_self;have h2:cp p ts:=λe he=>h e (List.mem_cons_of_mem _ he);show v (ts.foldl (b9 p bs) (b9 p bs a t))=v a+(v t.2*fl bs t.1+S v ts (fl bs))/\Num p (ts.foldl (b9 p bs) (b9 p bs a t)).1 (ts.foldl (b9 p bs) (b9 p bs a t)).2;unfold b9 fl
  by_cases f:gI bs t.1=true
  ·rw[if_pos f,if_pos f];obtain⟨e,n⟩:=fJ V hp (bs:=bs) h2 (pQ hp ha ht);refine⟨?_,n⟩;have ev:v (cZ p a t.2)=v a+v t.2:=(V.set ha ht).1 rfl rfl;have e:v (ts.foldl (b9 p bs) (cZ p a t.2))=_:=e;unfold b9 fl at e;rw[e,ev];grind
  ·rw[if_neg f,if_neg f];obtain⟨e,n⟩:=fJ V hp (bs:=bs) h2 ha;refine⟨?_,n⟩;have e:v (ts.foldl (b9 p bs) a)=_:=e;unfold b9 fl at e;rw[e];grind
theorem i6 {p:Int}(hp:FP p):Num p 0 1:=⟨by decide,by decide,λz=>⟨rfl,by decide,by have:=(hp.two z).2.1;omega⟩⟩
theorem vk (V:Val p R v)(hp:FP p){bs:List Int}(h:cp p ts):v (cg p bs ts)=S v ts (fl bs):=by
 have:=(fJ V hp.nn (bs:=bs) h (a:=(0,1)) (i6 hp)).1;rw[V.zero] at this;show v (ts.foldl (b9 p bs) (0,1))=_;rw[this];grind
end
theorem vZ (hp:FP p){bs:List Int}(h:cp p ts):Num p (cg p bs ts).1 (cg p bs ts).2:=by
 obtain⟨R,i,v,V⟩:=hp.v;exact(fJ V hp.nn (bs:=bs) h (a:=(0,1)) (i6 hp)).2
def Hv (ks:List Int):Prop:=ks.Pairwise (· < ·)/\(∀k∈ks,0<=k)/\ks.length<64
theorem ou:∀{ks:List Int}{k:Int}(d:Int),ks.Pairwise (· < ·)->k∈ks->k<=ks.getLastD d
 |[],_,_,_,h=>nomatch h
 |[a],k,d,_,h=>by
  have:k=a:=by simpa using h
  subst this;exact Int.le_refl _
 |a::b::r,k,d,hp,h=>by
  obtain⟨h1,h2⟩:=List.pairwise_cons.mp hp;have e:(a::b::r).getLastD d=(b::r).getLastD a:=rfl;rw[e]
  rcases List.mem_cons.mp h with rfl|h
  ·have:=ou k h2 (List.mem_cons_self (a:=b) (l:=r));have:=h1 b List.mem_cons_self;omega
  ·exact ou a h2 h
theorem xQ {t:Tm}(ht:t∈ts)(hp:t.1.Pairwise (· < ·))(hk:k∈t.1):k<dq ts:=by
 have ne:t.1≠[]:=by intro z;rw[z] at hk;cases hk
 have hm:Gi t∈(ts.filter λt=>!t.1.isEmpty).map Gi:=List.mem_map.mpr ⟨t,List.mem_filter.mpr ⟨ht,by
  cases q:t.1 with
  |nil=>exact absurd q ne
  |cons a r=>rfl⟩,rfl⟩
 obtain⟨b,e,_,hb⟩:=jf (ns:=(ts.filter λt=>!t.1.isEmpty).map Gi) (by intro z;rw[z] at hm;cases hm);unfold dq;rw[e];have h1:=hb _ hm;have h2:=ou 0 hp hk;unfold Gi at h1;show k<b;omega
structure Wb (ts:List Tm)(bs:List Int):Prop where
 l:bs.length<64
 b:∀b∈bs,0<=b/\b<=1
 r:dq ts<=bs.length
structure WL (p:Int)(bs:List Int)(ts:List Tm):Prop where
 len:ts.length<4000
 prw:∀t∈ts,Hv t.1
 steps:∀i,i<=ts.length->Gn p 4000 (cg p bs (ts.take i))
 num:∀t∈ts,Gn p 4000 t.2
theorem WL.of {m:Nat}{bs:List Int}(hp:FP p)(h:∀t∈ts,Gn p m t.2)(w:∀t∈ts,Hv t.1)(l:ts.length<4000)(b:(m+1)*ts.length+7<=4000)(hm:m<=4000):WL p bs ts :=
 ⟨l,w,λi hi=>by
  have g:=jV (m:=m) (bs:=bs) hp i (ts.take i) (by rw[List.length_take];omega) λt ht=>h t (List.mem_of_mem_take ht);have le:(m+1)*i+7<=4000:=Nat.le_trans (Nat.add_le_add_right (Nat.mul_le_mul_left _ hi) _) b
  exact⟨g.1,g.2.1.mono le,g.2.2.mono le⟩,λt ht=>⟨(h t ht).1,(h t ht).2.1.mono hm,(h t ht).2.2.mono hm⟩⟩
theorem Wb.all {ts:List Tm}{bs:List Int}(h:Wb ts bs):sx (some (bs.map V.int))=true:=by
 show(bs.map V.int).all nR=true;rw[List.all_eq_true];intro y hy;obtain⟨b,hb,rfl⟩:=List.mem_map.mp hy;have:=h.b b hb;show(decide (0<=b)&&decide (b<=1))=true;simp[this]
structure zN (C CF:Addr)(H:Hp)(s dx fl Iu D:Addr)(p:Int)(zs:List V)(ts:List Tm):Prop where
 hs:H s=some (.ins C dx (qp fl D))
 hf:H fl=some (.ins CF Iu (cE p))
 hp:FP p
 hD:H D=some (.lst zs)
 hz:aX H zs ts
variable {C CF:Addr}{H:Hp}
theorem zN.same {H':Hp}{s dx fl Iu D:Addr}{zs:List V}(h:zN C CF H s dx fl Iu D p zs ts)(e:aA H H'):zN C CF H' s dx fl Iu D p zs ts :=
 ⟨e _ _ h.hs,e _ _ h.hf,h.hp,e _ _ h.hD,aX.keep h.hz (aH.of e)⟩
def ua (C CF:Addr):Sp:=λvs H Q _=>∃(s a:Addr)(p:Int)(ts:List Tm)(bs:List Int),vs=[.ref s,.ref a]/\Bj C CF H s p ts/\FP p/\WL p bs ts/\H a=some (.tup (bs.map V.int))/\Wb ts bs /\
 ∀H' a,aA H H'->H' a=some (bA (cg p bs ts).1 (cg p bs ts).2)->Q (.ref a) H'
theorem iL:Av ["self","filling","total","product","number"] EM (aj qD):=dk (by decide +kernel)
theorem tJ:∀ns:List Int,Paired Fs (ns.map V.int) (ns.map λn=>n != 0)
 |[]=>.nil
 |b::bs=>.cons rfl (tJ bs)
theorem qO {bs ks:List Int}:((ks.map λk=>bs.getD k.toNat 0).map λn=>n != 0).all id=gI bs ks:=by
 unfold gI;rw[List.map_map,List.all_map]
 induction ks with
 |nil=>rfl
 |cons k r ih =>
  rw[List.all_cons,ih];show((bs.getD k.toNat 0 != 0)&&_)=_
  by_cases z:bs.getD k.toNat 0=0
  ·rw[List.filter_cons_of_pos (by show(bs.getD k.toNat 0==0)=true;rw[z];rfl)];rw[z];rfl
  ·rw[List.filter_cons_of_neg (by show ¬(bs.getD k.toNat 0==0)=true;intro y;exact z (eq_of_beq y))]
   have:(bs.getD k.toNat 0 != 0)=true:=by simpa using z
   rw[this,Bool.true_and]
theorem wu {NF NN fb fr fm fp:Addr}{KR LW JV Jm:zo}{tM:Tok}(F:Ao K "worth" "Sum.worth" qD f fd)(c:Hf K mg C)(cF:vR K mg CF)(Iz:mg "len"=none)(IT:mg "all"=none)
 (FB:Ik P w K mg base (aU P w) 2 fb KR wg B8)(bB:L2.ay K KR wg [])(mB:mg "is_row_of_bits"=some (.ref fb))(kB:keepIn K (.ref fb)=true)
 (FR:Ik P w K mg base (aU P w) 1 fr LW ["self"] (oB C))(bR:L2.ay K LW ["self"] [])(mR:L2.Meth K C "reach" fr)
 (FM:Ik P w K mg base (aU P w) 4 fm JV Cs (lj CF NN))(bM:L2.ay K JV Cs [.int 1 tM])(mM:L2.Meth K CF "made" fm)
 (FP:Ik P w K mg base (aU P w) 4 fp Jm zh (pX CF iC))(bP:L2.ay K Jm zh [])(mP:L2.Meth K CF "plus" fp)
 (mN:mg "NoFilling"=some (.ref NF))(qN:jL K NF zz md=true):Ik P w K mg base (aU P w) 5 f fd EM (ua C CF):=by
 refine F.okE iL (λvs H Q E h=>?_) (λIv A outer s H vs Q E hr h=>?_)
 ·obtain⟨s,a,p,ts,bs,rfl,_⟩:=h;rfl
 ·obtain⟨s0,a,p,ts,bs,rfl,⟨dx,fl,Iu,D,zs,S1,S2,S3,S4⟩,hp,L,ha,hb,q⟩:=h;have S:zN C CF H s0 dx fl Iu D p zs ts:=⟨S1,S2,hp,S3,S4⟩;clear S1 S2 S3 S4;have Jb:p8 4 _:=hr.mono (by decide);have Jj:p8 2 _:=hr.mono (by decide);have IH:p8 1 _:=hr.mono (by decide);have IC:=L.len;have hG:=L.prw;have hrc:=hb.r
  refine⟨_,(ak (a9 (PW.pt (d0 (bJ (bF (aB FB Jj (by rfl) mB kB bB .nil ae (@ao _ _ _ _ _ (pv 1) af rfl)))) (dw (@aK _ _ _ _ _ _ _ _ jC (aD bu (by rfl) Iz PySem.boot_len (@ao _ _ _ _ _ (pv 1) af rfl)) (cq (pv 0) c.cl mR FR IH bR .nil ae) (aI _))))) (aq (eh PySem.F.excBase_ValueError qN rfl c9 (by rfl) mN (@ao _ _ _ _ _ fN af rfl))) aF)
   (ak (@aV _ _ 2 _ _ _ _ iL.nd rfl (Or.inl rfl) (bY (dvs:=[.int 1]) (bO (pv 0) rfl) cF.cl mM FM Jb bM (.cons ⟨_,rfl⟩ .nil) ae (@ao _ _ _ _ _ au af rfl)) rfl (Or.inl rfl))
   (oV.nox (ak (dO PassesOwn.never rfl (cC (bO (pv 0) rfl)) (de rfl (aR (aE (i:=3) iL.nd rfl (Or.inl rfl)) (aR (aE (i:=4) iL.nd rfl (Or.inl rfl)) cy)))
   (aq (a9 (bF (aD (ix rfl) (by rfl) IT (by rfl) (@ao _ _ _ _ _ (ck (N:=["place","filling"]) (nl:=1) (js:=[1]) (osc:=aj qD) ⟨rfl,rfl,by decide +kernel,by decide +kernel,by decide +kernel,rfl,(.cons ⟨rfl,by decide +kernel⟩ .nil),by decide +kernel⟩ rfl
    (qU (pv 3))
    (λC fp s H=>aE (i:=0) (by show(["place","filling"]:zX).Nodup;decide +kernel) rfl (Or.inl rfl) (Or.inr rfl))
    (λC fp s H=>cj)
    (λC fp s H=>(@bg _ _ _ _ _ _ _ (show C8 _ (xv K) from aZ) (pv 1) (pv 0) (λ_ _=>rfl)))) af rfl))) (aq (@aV _ _ 2 _ _ _ _ iL.nd rfl (Or.inl rfl) (bY (bO (pv 0) rfl) cF.cl mP FP Jb bP .nil ae (@ao _ _ _ _ _ (pv 2) (@ao _ _ _ _ _ (pv 4) af rfl) rfl)) rfl (Or.inl rfl))) aF)))
   (aq (az (pv 2))))))),?_⟩
  refine⟨_,rfl,.ref a,some (bs.map V.int),rfl,.tup ha (by rw[List.length_map];have:=hb.l;omega) (λy hy=>?_),λH1 s1=>⟨_,rfl,?_⟩⟩
  ·obtain⟨b,_,rfl⟩:=List.mem_map.mp hy;exact⟨_,.int b⟩
  rw[hb.all];refine bw ?_;have JZ:=s1 _ _ ha;have S1:=S.same s1;refine⟨_,rfl,a,bs.map V.int,rfl,.inr (br.of JZ),_,rfl,s0,dx,_,rfl,S1.hs,rfl,s0,dx,fl,D,zs,ts,rfl,S1.hs,S1.hD,S1.hz,by omega,λt ht=>by have:=(hG t ht).2.2;omega,λH2 s2=>?_⟩;refine⟨_,_,rfl,rfl,_,rfl,?_⟩;have Jz:=s1.trans s2;refine dH (λh=>?_) (λh=>?_)
  ·have h':(((bs.map V.int).length:Nat):Int)<dq ts:=by simpa using h
   rw[List.length_map] at h';omega
  ·have h5:=hb.r;have q':=q;have gg:=L.steps;have gT:=L.num;have S2:=S.same Jz;have Uq:=Jz _ _ ha;have hlen:=S.hz.length;refine⟨_,rfl,s0,C,dx,_,_,rfl,S2.hs,c.cl,c.nF,rfl,fl,Iu,_,rfl,S2.hf,rfl,ny S2.hf S.hp λa0 OL=>?_⟩;rw[oJ];have s3:aA H (upd H2 a0 (bA 0 1)):=Jz.trans (ar OL);have S3:=S.same s3;refine⟨_,rfl,s0,C,dx,_,_,rfl,S3.hs,c.cl,c.nT,rfl,D,rfl,⟨zs,bo.of S3.hD⟩,?_⟩
   refine gq (xs:=zs) (λi σ' H'=>aA H H'/\∃aw o3 o4,H' aw=some (bA (cg p bs (ts.take i)).1 (cg p bs (ts.take i)).2)/\σ'=[some (.ref s0),some (.ref a),some (.ref aw),o3,o4])
    ⟨s3,a0,none,none,ah,rfl⟩ (λi σ' H' _ h=>bo.of (h.1 _ _ S.hD)) (λi y σ' H' hy h=>?_) (λσ' H' h=>?_)
   ·obtain⟨sH,aw,o3,o4,hw,rfl⟩:=h;obtain⟨t,et,tr⟩:=bc S.hz hy;obtain⟨at_,pr,nu,rfl,LL,Jk,JC⟩:=tr.keep (aH.of sH);have tm:=List.mem_of_getElem? et;obtain⟨pw,k0,kl⟩:=hG t tm;have gt:=gT t tm
    have ilt:i<ts.length:=by
     rcases Nat.lt_or_ge i ts.length with z|z
     ·exact z
     ·rw[List.getElem?_eq_none z] at et;cases et
    have JD:ts.take (i+1)=ts.take i++[t]:=by rw[List.take_add_one,et];rfl
    have SH:=S.same sH;have haH:=sH _ _ ha;refine⟨at_,_,rfl,br.of LL,rfl,_,_,rfl,_,_,rfl,rfl,?_⟩;refine⟨_,rfl,pr,rfl,⟨_,br.of Jk⟩,?_⟩;refine y9 (xs:=t.1.map V.int) (λj us H3=>H'=H3/\us=((t.1.take j).map λk=>bs.getD k.toNat 0).map V.int) ⟨rfl,rfl⟩ (λj us H3 hj h=>?_) (λj x us H3 N hj hx h k=>?_) (λus H3 h=>?_)
    ·obtain⟨rfl,rfl⟩:=h;exact⟨Nat.lt_of_le_of_lt (by simp;omega) (Nat.lt_trans kl (by decide)),br.of Jk⟩
    ·obtain⟨rfl,rfl⟩:=h
     have MI:j<t.1.length:=by simpa using hj
     have ex:t.1[j]?=some t.1[j]:=by simp[MI]
     have ev:x=.int t.1[j]:=by
      rw[List.getElem?_map,ex] at hx;exact(Option.some.inj hx).symm
     subst ev;have km:=List.getElem_mem MI;have k1:=xQ tm pw km
     have ek:t.1.take (j+1)=t.1.take j++[t.1[j]]:=by rw[List.take_add_one,ex];rfl
     refine jc ⟨_,rfl,_,rfl,a,_,_,_,rfl,rfl,br.of haH,Du (k0 _ km) (by omega),k _ _ ⟨rfl,?_⟩⟩;rw[ek,List.map_append,List.map_append];rfl
    ·obtain⟨rfl,rfl⟩:=h;intro L hL;rw[List.length_map,List.take_length];have sL:aA H' (upd H' L (.lst ((t.1.map λk=>bs.getD k.toNat 0).map V.int))):=ar hL;refine⟨L,_,_,rfl,bo.of ah,tJ _,_,rfl,?_⟩;rw[qO];have gw:=gg i (Nat.le_of_lt ilt);have SL:=SH.same sL
     cases O6:gI bs t.1 with
     |true =>
      have ew:b9 p bs (cg p bs (ts.take i)) t=cZ p (cg p bs (ts.take i)) t.2:=by unfold b9;rw[if_pos O6]
      refine b0 ⟨_,rfl,s0,C,dx,_,_,rfl,SL.hs,c.cl,c.nF,rfl,fl,Iu,_,rfl,SL.hf,rfl,_,rfl,_,rfl,fl,Iu,aw,nu,p,(cg p bs (ts.take i)).1,(cg p bs (ts.take i)).2,t.2.1,t.2.2,rfl,SL.hf,S.hp,sL _ _ hw,sL _ _ JC,gw.2.1,gw.2.2,gt.2.1,gt.2.2,gw.ne,gt.ne,λan han=>?_⟩;refine⟨sH.trans (sL.trans (ar han)),an,_,_,?_,rfl⟩;rw[JD,ij,ew];exact ah
     |false =>
      have ew:b9 p bs (cg p bs (ts.take i)) t=cg p bs (ts.take i):=by unfold b9;rw[if_neg (by rw[O6];decide)]
      refine bw ⟨sH.trans sL,aw,_,_,?_,rfl⟩;rw[JD,ij,ew];exact sL _ _ hw
   ·obtain⟨sH,aw,o3,o4,hw,rfl⟩:=h;rw[hlen,List.take_length] at hw;exact⟨_,rfl,q' _ aw sH hw⟩
theorem pH {α:Type} [BEq α] [LawfulBEq α]:∀{l m:List α},l.Nodup->(∀x∈l,x∈m)->l.length<=m.length
 |[],m,_,_=>Nat.zero_le _
 |x::l,m,h,hm=>by
  obtain⟨h1,h2⟩:=List.nodup_cons.mp h;have hx:=hm x List.mem_cons_self;have ih:=pH (l:=l) (m:=m.erase x) h2 λy hy=>(List.mem_erase_of_ne (λ(e:y=x)=>h1 (by rw[<-e];exact hy))).mpr (hm y (List.mem_cons_of_mem _ hy));have e:=List.length_erase_of_mem hx;have p:0<m.length:=List.length_pos_of_mem hx;rw[List.length_cons];omega
def oY (p:Int)(s:Int×Int)(a b:Nat):List (List Tm×List Tm):=
 ((List.range a).map (fQ b)).map (λr=>(tg p (eF p r),[([],s)]))++((List.range b).map (fA a b)).map (λr=>(tg p (eF p r),[([],dj p s)]))
theorem AR (p:Int)(s:Int×Int)(a b:Nat):(oY p s a b).map (·.1)=(qk a b).map λr=>tg p (eF p r):=by
 simp[oY,qk,Function.comp_def]
theorem zE (p:Int)(s:Int×Int)(a b:Nat):(oY p s a b).map (·.2)=List.replicate a [([],s)]++List.replicate b [([],dj p s)]:=by
 simp[oY,Function.comp_def,List.map_const']
theorem AH (p:Int)(s:Int×Int)(a b:Nat):rg p (oY p s a b)=uU p s a b:=by
 simp[rg,oY,uU,List.flatMap_append,List.flatMap_map]
theorem uJ (p:Int)(s:Int×Int)(a b:Nat):(oY p s a b).length=a+b:=by
 unfold oY;rw[List.length_append,List.length_map,List.length_map,List.length_map,List.length_map,List.length_range,List.length_range]
variable {s:Int×Int}
theorem uj {x:List Tm×List Tm}(h:x∈oY p s a b):∃r∈qk a b,∃c,(c=s\/c=dj p s)/\x=(tg p (eF p r),[([],c)]):=by
 rcases List.mem_append.mp h with h|h
 ·obtain⟨r,hr,rfl⟩:=List.mem_map.mp h;exact⟨r,List.mem_append_left _ hr,s,.inl rfl,rfl⟩
 ·obtain⟨r,hr,rfl⟩:=List.mem_map.mp h;exact⟨r,List.mem_append_right _ hr,_,.inr rfl,rfl⟩
theorem yh {r:List Int}(h:r∈qk a b)(a7:a<=7)(b8:b<=8):∀k∈r,0<=k/\k<60/\k<((a*b:Nat):Int):=by
 rcases List.mem_append.mp h with h|h
 ·obtain⟨g,hg,rfl⟩:=List.mem_map.mp h;intro k hk;have:=oQ (List.mem_range.mp hg) a7 b8 k hk;have:=Nat.mul_le_mul a7 b8;omega
 ·obtain⟨g,hg,rfl⟩:=List.mem_map.mp h;intro k hk;have:=ow (List.mem_range.mp hg) a7 b8 k hk;have:=Nat.mul_le_mul a7 b8;omega
theorem xw (hp:FP p):Cd p 1 1 (aW p (-1)):=⟨bN hp _,λz=>by subst z;rw[cm];exact⟨1,rfl,by decide⟩⟩
theorem Cm (hp:FP p)(r:List Int):∀t∈eF p r,Cd p 1 1 t.2:=λt h=>by
 rcases List.mem_cons.mp h with rfl|h
 ·exact xw hp
 ·obtain⟨k,_,rfl⟩:=List.mem_map.mp h;exact⟨iN hp,λ_=>⟨1,rfl,show(((1:Int)*1).natAbs:Int)<=1 by decide⟩⟩
theorem xR {p:Int}{r:List Int}(h:r.length<=8):(eF p r).length<=9:=by unfold eF;rw[List.length_cons,List.length_map];omega
theorem rB (hp:FP p){r:List Int}(h:r.length<=8):∀t∈tg p (eF p r),Cd p 1 9 t.2:=λt ht=>(BM hp (by decide) (Cm hp r) t ht).mono (by have:=xR (p:=p) h;omega)
variable {d:Int}{c:Int×Int}
theorem FH (hp:FP p)(h:wc p d s)(hc:c=s\/c=dj p s):Cd p s.2 1 c:=by
 have hs:Cd p s.2 1 s:=⟨h.num,λz=>⟨1,Int.mul_one _,by have:=(h.lo z).2;rw[Int.mul_one];omega⟩⟩
 rcases hc with rfl|rfl
 ·exact hs
 ·have:=hs.mul hp (xw hp);rw[Int.mul_one,Int.mul_one] at this;exact this
theorem yi {A:List Tm}{t:Tm}(h:t∈dI p A [([],c)]):∃x∈A,t=(ir (x.1++[]),dA p x.2 c):=by
 unfold dI at h;obtain⟨x,hx,h⟩:=List.mem_flatMap.mp h;exact⟨x,hx,List.mem_singleton.mp h⟩
theorem xr (hp:FP p)(h:wc p d s)(hc:c=s\/c=dj p s){r:List Int}(hr:r.length<=8):∀t∈dI p (tg p (eF p r)) [([],c)],Cd p s.2 9 t.2:=λt ht=>by
 obtain⟨x,hx,rfl⟩:=yi ht;have:=(rB hp hr x hx).mul hp (FH hp h hc);rw[Int.one_mul,Int.mul_one] at this;exact this
theorem Df (hp:FP p)(h:wc p d s)(hc:c=s\/c=dj p s){r:List Int}(hr:r.length<=8):BY p (dI p (tg p (eF p r)) [([],c)]):=by
 have l:(dI p (tg p (eF p r)) [([],c)]).length<=9:=by
  rw[gh];have:=iY hp (iu hp hr);have:=xR (p:=p) hr;show(tg p (eF p r)).length*1<=9;omega
 have:=h.num.pos;refine BY.of (m:=8) hp (by omega) (λt ht=>(xr hp h hc hr t ht).gn hp (by decide) (by omega) (h.gn hp).2.2 (by show(9:Int).natAbs<2^8;decide)) (by omega) (by decide)
theorem nM {r:List Int}{t:Tm}(h:t∈tg p (eF p r)):DZ t/\t.1.length<=1:=by
 rcases gA h with e|⟨k,_,e⟩
 ·rw[DZ,e];exact⟨⟨.nil,by decide⟩,by decide⟩
 ·rw[DZ,e];exact⟨⟨List.pairwise_singleton _ _,by show 1<32;decide⟩,Nat.le_refl _⟩
theorem ye (hp:FP p)(h:wc p d s)(a7:a<=7)(b8:b<=8):∀x∈oY p s a b,rC p x:=λx hx=>by
 obtain⟨r,hr,c,hc,rfl⟩:=uj hx;have r8:=jQ hr a7 b8;have:=h.num.pos;refine⟨λt ht=>⟨(rB hp r8 t ht).gn hp (by decide) (by decide) (Nat.lt_of_lt_of_le (by decide:(1:Int).natAbs<2^8) (Nat.pow_le_pow_right (by decide) (by decide))) (Nat.lt_of_lt_of_le (by decide:(9:Int).natAbs<2^8) (Nat.pow_le_pow_right (by decide) (by decide))),(nM ht).1,(nM ht).2⟩,?_,⟨c,rfl,?_⟩,Df hp h hc r8⟩
 ·have:=iY hp (iu hp r8);have:=xR (p:=p) r8;show(tg p (eF p r)).length<=9;omega
 ·exact(FH hp h hc).gn hp (by decide) (by omega) ((h.gn hp).2.2.mono (by decide)) (Nat.lt_of_lt_of_le (by decide:(1:Int).natAbs<2^8) (Nat.pow_le_pow_right (by decide) (by decide)))
theorem sS {t:Tm}(h:t∈rg p (oY p s a b)):∃r∈qk a b,∃c,(c=s\/c=dj p s)/\t∈tg p (dI p (tg p (eF p r)) [([],c)]):=by
 unfold rg at h;obtain⟨x,hx,h⟩:=List.mem_flatMap.mp h;obtain⟨r,hr,c,hc,rfl⟩:=uj hx;exact⟨r,hr,c,hc,h⟩
theorem pk {α β:Type}{f:α->List β}{n:Nat}:∀{l:List α},(∀x∈l,(f x).length<=n)->(l.flatMap f).length<=n*l.length
 |[],_=>Nat.zero_le _
 |x::l,h=>by
  rw[List.flatMap_cons,List.length_append,List.length_cons,Nat.mul_succ];have:=pk (l:=l) λy hy=>h y (List.mem_cons_of_mem _ hy);have:=h x List.mem_cons_self;omega
theorem C4 (hp:FP p)(h:wc p d s)(a7:a<=7)(b8:b<=8):BY p (rg p (oY p s a b)):=by
 have len:(rg p (oY p s a b)).length<=135:=by
  refine Nat.le_trans (pk (n:=9) λx hx=>?_) (by rw[uJ];omega);have T:=ye hp h a7 b8 x hx;refine Nat.le_trans (iY hp T.th) ?_;obtain⟨c,e,_⟩:=T.b;rw[gh,e];have:=T.len;show x.1.length*1<=9;omega
 have cd:∀t∈rg p (oY p s a b),Cd p s.2 81 t.2:=λt ht=>by
  obtain⟨r,hr,c,hc,ht⟩:=sS ht;have r8:=jQ hr a7 b8;refine(BM hp (by decide) (xr hp h hc r8) t ht).mono ?_;have:=iY hp (iu hp r8);have:=xR (p:=p) r8;have e:(dI p (tg p (eF p r)) [([],c)]).length=(tg p (eF p r)).length*1:=gh _ _ _;omega
 have key:∀t∈rg p (oY p s a b),t.1∈([]:List Int):: (List.range 60).map λk=>[((k:Nat):Int)]:=λt ht=>by
  obtain⟨r,hr,c,hc,ht⟩:=sS ht;obtain⟨x,hx,e⟩:=ui ht;obtain⟨y,hy,rfl⟩:=yi hx;rw[e];show ir (y.1++[])∈_
  rcases gA hy with z|⟨k,hk,z⟩
  ·rw[z];exact List.mem_cons_self
  ·have:=yh hr a7 b8 k hk;rw[z];refine List.mem_cons_of_mem _ (List.mem_map.mpr ⟨k.toNat,List.mem_range.mpr (by omega),?_⟩);rw[Int.toNat_of_nonneg this.1];rfl
 have pos:=h.num.pos;have b4:∀{i:Int},i.natAbs<2^20->B 4000 i:=λ{i} h=>Nat.lt_of_lt_of_le h (Nat.pow_le_pow_right (by decide) (by decide));have Gs:∀t∈rg p (oY p s a b),Gn p 4000 t.2:=λt ht=>(cd t ht).gn hp (by decide) (by omega) ((h.gn hp).2.2.mono (by decide)) (b4 (by decide));refine BY.cd hp (by decide) cd (by omega) ((h.gn hp).2.2.mono (by decide)) (b4 ?_) (by omega) ?_
 ·have:(2:Nat)^20=1048576:=by decide
  rw[this];omega
 ·obtain⟨_,nd,_⟩:=di (m:=4000) hp _ (rg p (oY p s a b)) rfl Gs
  have:=pH nd (m:=([]:List Int):: (List.range 60).map λk=>[((k:Nat):Int)]) λx hx=>by
   obtain⟨e,he,rfl⟩:=List.mem_map.mp hx
   rcases ll _ [] e he with⟨x,hx,_⟩|⟨x,hx,z⟩
   ·exact nomatch hx
   ·rw[z];exact key x hx
  rw[List.length_map,List.length_cons,List.length_map,List.length_range] at this;omega
abbrev GM:Stmt:=(aL 71)
theorem GS:Av Af Af (aj GM):=dk (by decide +kernel)
theorem FP.good (h:FP p):good (.int p)=true:=by
 show jG p=true;unfold jG
 rcases h with h|h
 ·rw[h];rfl
 ·have:(Hb.any λq=>q==p)=true:=by
   rw[List.any_eq_true];exact⟨p,h,by simp⟩
  rw[this];simp
theorem lN {O7 fl Iu:Addr}{Q:Hp->Prop}{E:XK}(hf:H fl=none)(hd:H Iu=none)(ne:Iu≠fl)(hp:FP p)(q:∀H',aA H H'->H' fl=some (.ins CF Iu (cE p))->Q H'):
 nV CF O7 [.ref fl,.int p] (upd (upd H Iu (.own fl)) fl (.ins CF Iu [])) (λv H2=>v=.non/\Q H2) E:=by
 refine⟨fl,Iu,.int p,"int",rfl,.int p,ah,λ_=>⟨rfl,?_⟩,λg=>by rw[hp.good] at g;cases g⟩;rw[aaw];exact q _ ((ar hd).trans (ar (by rw[av (Ne.symm ne)];exact hf))) ah
theorem nQ {K:Frag}:∀{ys:List V}{Jq:List (List Tm)},Paired (qy H) ys Jq->ba K H (Jq.map lE) ys
 |_,_,.nil=>by unfold ba;rfl
 |_,_,.cons (b:=t) h r=>by
  show ba K H (lE t::_) _;unfold ba;obtain⟨l,zs,h1,h2,h3⟩:=h;subst h1;exact⟨_,_,rfl,kn h2 h3,nQ r⟩
theorem wC:∀Jq:List (List Tm),dX (Jq.map lE)<=31
 |[]=>by unfold dX;decide
 |t::Jq=>by
  show dX (lE t::Jq.map lE)<=31;unfold dX;have:=wC Jq
  have h:jB (lE t)<=3:=by
   unfold jB;have:=n6 t;omega
  omega
def EY (CS C CF:Addr):Sp:=λvs H Q _=>∃(sy fl ln:Addr)(p n:Int)(as:List Addr)(ns:List V)(Jq:List (List Tm)),vs=[.ref sy,.int p,.int n,.ref ln]/\Gp CS CF H sy fl p n as []/\FP p/\jO C CF p H as Jq/\H ln=some (.lst ns)/\Paired (qy H) ns Jq/\Jq.length<=15/\∀H',aA H H'->Q (.bl true) H'
set_option maxHeartbeats 1000000 in
theorem Fq {f1 f2 f3 f4 ft fe fi CS O7:Addr}{OT Ym Yn Yo JQ LV KG:zo}(F:Ao K "_law_is_system" "_law_is_system" GM f fd)(cY:Hi K mg CS)(cF:vR K mg CF)(cS:Hf K mg C)(IM:mg "isinstance"=none)
 (FYf:Ik P w K mg base (aU P w) 1 f1 OT ["self"] (Et CS CF))(bYf:L2.ay K OT ["self"] [])(mYf:L2.Meth K CS "field" f1)
 (FYp:Ik P w K mg base (aU P w) 1 f2 Ym ["self"] (C0 CS CF))(bYp:L2.ay K Ym ["self"] [])(mYp:L2.Meth K CS "places" f2)
 (FYn:Ik P w K mg base (aU P w) 1 f3 Yn ["self"] (Dg CS CF))(bYn:L2.ay K Yn ["self"] [])(mYn:L2.Meth K CS "noughts" f3)
 (FYu:Ik P w K mg base (aU P w) 1 f4 Yo ["self"] (EA CS CF))(bYu:L2.ay K Yo ["self"] [])(mYu:L2.Meth K CS "uppers" f4)
 (U7:Ik P w K mg base (aU P w) 1 ft JQ ["self"] (j6 C CF))(U8:L2.ay K JQ ["self"] [])(U9:L2.Meth K C "terms" ft)
 (FE:Ik P w K mg base (aU P w) 1 fe LV Ic (C2 CF))(bE:L2.ay K LV Ic [])(nE:findIn K (.ref CF) "__eq__"=some (some (.ref fe)))(iE:isFn K (.ref fe)=true)(nNe:findIn K (.ref CF) "__ne__"=some (some (.builtin "object.__ne__")))
 (MF:Mk K CF fi)(FFI:Ik P w K mg base (aU P w) 2 fi KG Ij (nV CF O7))(MX:L2.ay K KG Ij []):
 Ik P w K mg base (aU P w) 4 f fd Af (EY CS C CF):=by
 refine F.okN GS (λvs H Q E h=>?_) (λIv A outer s H vs Q E hr h=>?_)
 ·obtain⟨sy,fl,ln,p,n,as,ns,Jq,rfl,_⟩:=h;rfl
 ·obtain⟨sy,fl,ln,p,n,as,ns,Jq,rfl,Y,hp,hs,hl,hn,t15,q⟩:=h;have JR:p8 3 _:=hr;have Jj:p8 2 _:=hr.mono (by decide);have IH:p8 1 _:=hr.mono (by decide)
  refine⟨_,(ak (a9 (PW.pt (d0 (bJ (bF (aD aQ (by rfl) IM (by rfl) (bf (pv 0) (bf (bX (by rfl) cY.mgC (show aG (.ref CS) (.ref CS) from rfl)) af))))) (d0 (@aK _ _ _ _ _ _ _ _ (xH nE iE nNe cF.ob FE Jj bE ae) (cq (pv 0) cY.cl mYf FYf IH bYf .nil ae) (gS MF FFI JR (by rfl) cF.mgC MX .nil ae (@ao _ _ _ _ _ (pv 1) af rfl)) (aI _)) (dw (@aK _ _ _ _ _ _ _ _ fW (cq (pv 0) cY.cl mYp FYp IH bYp .nil ae) (pv 2) (aI _)))))) (aq (az dh)) aF)
   (aq (az (dC (@cI _ _ _ _ _ _ _ _ (show eE _ _ (uW K false) from wM IH) (ck (N:=["_law_one"]) (nl:=1) (js:=[]) (osc:=aj GM) ⟨rfl,rfl,by decide +kernel,by decide +kernel,by decide +kernel,rfl,.nil,by decide +kernel⟩ rfl
    (cC (cq (pv 0) cY.cl mYn FYn IH bYn .nil ae))
    (λCq fq sq Hq=>aE (i:=0) (by show(["_law_one"]:zX).Nodup;decide +kernel) rfl (Or.inl rfl) (Or.inr rfl))
    (λCq fq sq Hq=>cj)
    (λCq fq sq Hq=>(cq (pv 0) cS.cl U9 U7 IH U8 .nil ae))) (pv 3) (aI _)) (@cI _ _ _ _ _ _ _ _ (wY IH) (cq (pv 0) cY.cl mYu FYu IH bYu .nil ae) (@cw _ _ _ _ af) (aI _)))))),?_⟩
  obtain⟨dx,Iu,Aa,Bb,h1,h2,h3,h4⟩:=Y.ex;refine⟨_,rfl,.ref sy,.ref CS,_,_,true,rfl,rfl,cY.ty h1,cY.is,_,rfl,bw ?_⟩;refine⟨_,rfl,sy,dx,_,rfl,h1,rfl,sy,fl,p,n,as,[],rfl,Y,?_⟩;refine⟨_,rfl,λx dx2 hx Ku ne=>?_⟩;refine lN hx Ku ne hp λH1 s1 e1=>?_;refine⟨fl,Iu,_,.ref CF,rfl,s1 _ _ h2,cF.ty e1,tj,fl,Iu,p,.ref x,rfl,s1 _ _ h2,.inl ⟨x,dx2,p,rfl,e1,_,rfl,_,rfl,?_⟩⟩;rw[decide_eq_true (rfl:p=p)];refine bw ⟨_,rfl,sy,dx,_,rfl,s1 _ _ h1,rfl,sy,fl,p,n,as,[],rfl,Y.same s1,_,rfl,rfl,_,rfl,?_⟩;rw[cx,show(n==n)=true from by simp];refine bw ?_;refine⟨_,rfl,sy,dx,_,rfl,s1 _ _ h1,rfl,sy,fl,p,n,as,[],rfl,Y.same s1,λl0 Ve=>?_⟩;have s2:=ar (o:=.lst (as.map V.ref)) Ve;have e2:upd H1 l0 (.lst (as.map V.ref)) l0=some (.lst (as.map V.ref)):=ah;generalize upd H1 l0 _=H2 at s2 e2 |-;have Yp:=s1.trans s2;have al:=hs.length;refine⟨l0,rfl,⟨_,bo.of e2⟩,?_⟩;refine iQ (a:=l0) (xs:=as.map V.ref) (rest:=[]) (λj us H'=>aA H2 H'/\Paired (qy H') us (Jq.take j)) ⟨aA.refl _,.nil⟩ (λj us H' hj h=>?_) (λj x us H' M hj hx h hM=>?_) (λus H' h=>?_)
  ·refine⟨?_,bo.of (h.1 _ _ e2)⟩;rw[h.2.length,List.length_take];exact Nat.lt_of_le_of_lt (by omega:_<=15) (by decide)
  ·obtain⟨s3,hu⟩:=h;rw[List.getElem?_map] at hx;obtain⟨u,eu,rfl⟩:=Option.map_eq_some_iff.mp hx;obtain⟨ts,et,S⟩:=bc hs eu;obtain⟨NU,X5,UZ,Dd,zs,k1,k2,k3,k4⟩:=(S.same (Yp.trans s3)).ex;refine jc ⟨_,rfl,u,NU,_,rfl,k1,rfl,u,NU,X5,Dd,zs,rfl,k1,k3,λl hl=>hM _ _ ?_⟩;have s4:=ar (o:=.lst zs) hl;refine⟨s3.trans s4,?_⟩;rw[List.take_add_one,et];exact Paired.snoc (Paired.aax hu λ_ _ z=>z.same s4) ⟨l,zs,rfl,ah,aX.keep k4 (aH.of s4)⟩
  obtain⟨s3,hu⟩:=h;rw[List.length_map,al,List.take_length] at hu;intro D hD;have s4:=ar (o:=.lst us) hD;have e4:upd H' D (.lst us) D=some (.lst us):=ah;have hu:=Paired.aax hu λ_ _ z=>qy.same z s4;generalize upd H' D _=H4 at s4 e4 hu |-;have L6:=Yp.trans (s3.trans s4)
  have d1:aN K H4 (.lst (Jq.map lE)) (.ref D):=by unfold aN;exact⟨D,us,rfl,bo.of e4,nQ hu⟩
  have d2:aN K H4 (.lst (Jq.map lE)) (.ref ln):=by unfold aN;exact⟨ln,ns,rfl,bo.of (L6 _ _ hl),nQ (Paired.aax hn λ_ _ z=>qy.same z L6)⟩
  refine⟨_,rfl,_,_,d1,d2,(by unfold jB;have:=wC Jq;omega),_,rfl,?_⟩;rw[eA];refine b0 ⟨_,rfl,sy,dx,_,rfl,L6 _ _ h1,rfl,sy,fl,p,n,as,[],rfl,Y.same L6,λl1 Ja=>?_⟩;have s5:=ar (o:=.lst []) Ja;have e5:upd H4 l1 (.lst []) l1=some (.lst []):=ah;change C3 An _ (upd H4 l1 (.lst [])) _;generalize upd H4 l1 _=H5 at s5 e5 |-;refine⟨Nat.zero_le _,λl2 Ji=>?_⟩;have s6:=ar (o:=.lst []) Ji;exact⟨l1,l2,[],rfl,rfl,bo.of (s6 _ _ e5),bo.of ah,q _ (L6.trans (s5.trans s6))⟩
abbrev Gb:Stmt:=(aL 56)
theorem EH:Av ["system","thing","sided","nought"] GW (aj Gb):=dk (by decide +kernel)
def F0 (CS C CF:Addr):Sp:=λvs H Q _=>∃(sy fl a:Addr)(p n:Int)(as:List Addr)(Jq:List (List Tm))(bs:List Int),vs=[.ref sy,.ref a,.bl false]/\Gp CS CF H sy fl p n as []/\FP p/\jO C CF p H as Jq/\H a=some (.tup (bs.map V.int))/\(bs.length:Int)=n/\bs.length<64/\(∀b∈bs,0<=b/\b<=1) /\
 (∀ts∈Jq,WL p bs ts/\dq ts<=bs.length/\(cg p bs ts).1=0)/\∀H',aA H H'->Q (.bl true) H'
theorem Fn {fb fp fn fw CS T:Addr}{KR Jm OP Je:zo}(F:EX K "is_filling" "is_filling" Gb f fd T)(cS:Hi K mg CS)(c:Hf K mg C)(Iz:mg "len"=none)
 (FB:Ik P w K mg base (aU P w) 2 fb KR wg B8)(bB:L2.ay K KR wg [])(mB:mg "is_row_of_bits"=some (.ref fb))(kB:keepIn K (.ref fb)=true)
 (FYP:Ik P w K mg base (aU P w) 1 fp Jm ["self"] (C0 CS CF))(bYP:L2.ay K Jm ["self"] [])(mYP:L2.Meth K CS "places" fp)
 (FYN:Ik P w K mg base (aU P w) 1 fn OP ["self"] (Dg CS CF))(bYN:L2.ay K OP ["self"] [])(mYN:L2.Meth K CS "noughts" fn)
 (FWo:Ik P w K mg base (aU P w) 5 fw Je EM (ua C CF))(bWo:L2.ay K Je EM [])(mWo:L2.Meth K C "worth" fw):Ik P w K mg base (aU P w) 6 f fd GW (F0 CS C CF):=by
 refine F.okE EH (λvs H Q E h=>?_) (λIv A outer s H vs Q E hr h=>?_)
 ·obtain⟨sy,fl,a,p,n,as,Jq,bs,rfl,_⟩:=h;rfl
 ·obtain⟨sy,fl,a,p,n,as,Jq,bs,rfl,Y,hp,Z,ha,hn,bl,eb,ok,q⟩:=h;have IH:p8 1 _:=hr.mono (by decide);have Jj:p8 2 _:=hr.mono (by decide);have Kt:p8 5 _:=hr.mono (by decide)
  refine⟨_,(ak (a9 (PW.pt (d0 (bJ (bF (aB FB Jj (by rfl) mB kB bB .nil ae (@ao _ _ _ _ _ (pv 1) af rfl)))) (dw (@aK _ _ _ _ _ _ _ _ fW (aD bu (by rfl) Iz PySem.boot_len (@ao _ _ _ _ _ (pv 1) af rfl)) (cq (pv 0) cS.cl mYP FYP IH bYP .nil ae) (aI _))))) (aq (az dh)) aF)
   (ak (dO (by passes_own) rfl (cC (cq (pv 0) cS.cl mYN FYN IH bYN .nil ae)) (aE (i:=3) EH.nd rfl (Or.inl rfl))
   (aq (a9 (@aK _ _ _ _ _ _ _ _ fW (@bg _ _ _ _ _ _ _ aZ (bY (pv 3) c.cl mWo FWo Kt bWo .nil ae (@ao _ _ _ _ _ (pv 1) af rfl)) au (λ_ _=>rfl)) au (aI _)) (aq (az dh)) aF)))
   (aq (az (abE (yT (pv 2)) (eV Eb)))))),?_⟩
  have T3:sx (some (bs.map V.int))=true:=Wb.all (ts:=[]) ⟨bl,eb,by show(0:Int)<=_;omega⟩;refine⟨_,rfl,.ref a,some (bs.map V.int),rfl,.tup ha (by rw[List.length_map];omega) (λy hy=>?_),λH1 s1=>⟨_,rfl,?_⟩⟩
  ·obtain⟨b,_,rfl⟩:=List.mem_map.mp hy;exact⟨_,.int b⟩
  rw[T3];refine bw ?_;obtain⟨dx,Iu,A1,B1,h1,h2,h3,h4⟩:=Y.ex;have JZ:=s1 _ _ ha;refine⟨_,rfl,a,_,rfl,.inr (br.of JZ),_,rfl,sy,dx,_,rfl,s1 _ _ h1,rfl,sy,fl,p,n,as,[],rfl,Y.same s1,rfl,_,rfl,?_⟩;rw[cx,List.length_map,show((bs.length:Int)==n)=true from by simpa using hn];refine bw ?_;refine⟨_,rfl,sy,dx,_,rfl,s1 _ _ h1,rfl,sy,fl,p,n,as,[],rfl,Y.same s1,λL hL=>?_⟩;have sL:=s1.trans (ar (o:=.lst (as.map V.ref)) hL);have eL:upd H1 L (.lst (as.map V.ref)) L=some (.lst (as.map V.ref)):=ah;generalize upd H1 L _=H2 at sL eL |-;refine⟨L,rfl,⟨_,bo.of eL⟩,?_⟩;refine gq (xs:=as.map V.ref) (λi σ' H'=>aA H H'/\H' L=some (.lst (as.map V.ref))/\∃o3,σ'=[some (.ref sy),some (.ref a),some (.bl false),o3]) ⟨sL,eL,none,rfl⟩ (λi σ' H' _ h=>bo.of h.2.1) (λi x σ' H' hx h=>?_) (λσ' H' h=>?_)
  ·obtain⟨s3,e3,o3,rfl⟩:=h;rw[List.getElem?_map] at hx;obtain⟨sa,ea,rfl⟩:=Option.map_eq_some_iff.mp hx;obtain⟨ts,et,hS⟩:=bc Z ea;obtain⟨L1,r1,w0⟩:=ok ts (List.mem_of_getElem? et);have S3:=Bj.same hS s3;obtain⟨NU,fls,abY,Ds,zs,g1,g2,g3,g4⟩:=S3.ex;refine⟨_,rfl,sa,NU,_,rfl,g1,rfl,_,rfl,sa,a,p,ts,bs,rfl,S3,hp,L1,s3 _ _ ha,⟨bl,eb,r1⟩,λH4 aw s4 haw=>?_⟩;refine⟨aw,_,0,_,rfl,rfl,br.of haw,a0 _ _,rfl,_,rfl,?_⟩;rw[cx,w0];exact bw ⟨s3.trans s4,s4 _ _ e3,_,rfl⟩
  ·obtain⟨s3,e3,o3,rfl⟩:=h;exact⟨_,rfl,_,rfl,_,rfl,b0 (q _ s3)⟩
def l8 (a:Nat):List Int:=(List.range (a*a)).map λk=>if k/a=k%a then(1:Int) else 0
theorem oF (a:Nat):(l8 a).length=a*a:=by unfold l8;rw[List.length_map,List.length_range]
theorem Ah (a:Nat):∀b∈l8 a,0<=b/\b<=1:=λb h=>by
 obtain⟨k,_,rfl⟩:=List.mem_map.mp h
 split <;> decide
theorem xn {g r:Nat}(hg:g<a)(hr:r<a):(l8 a).getD (((g*a+r:Nat):Int)).toNat 0=if g=r then 1 else 0:=by
 have lt:g*a+r<a*a:=by
  have:(g+1)*a<=a*a:=Nat.mul_le_mul_right _ hg;rw[Nat.succ_mul] at this;omega
 have e1:(g*a+r)/a=g:=by rw[Nat.mul_comm,Nat.mul_add_div (by omega),Nat.div_eq_of_lt hr,Nat.add_zero]
 have e2:(g*a+r)%a=r:=by rw[Nat.mul_comm,Nat.mul_add_mod,Nat.mod_eq_of_lt hr]
 rw[Int.toNat_natCast,List.getD_eq_getElem?_getD];unfold l8;rw[List.getElem?_map,List.getElem?_range lt];show(if(g*a+r)/a=(g*a+r)%a then(1:Int) else 0)=_;rw[e1,e2]
section
variable {p:Int}{R:Type} [Lean.Grind.CommRing R]{v:Int×Int->R}
theorem xK {bs:List Int}:(fl bs [k]:R)=if bs.getD k.toNat 0=0 then 0 else 1:=by
 unfold fl
 by_cases z:bs.getD k.toNat 0=0
 ·rw[if_pos z,if_neg];intro h;exact jW.mp h k List.mem_cons_self z
 ·rw[if_neg z,if_pos]
  exact jW.mpr λk' hk=>by rw[List.mem_singleton.mp hk];exact z
theorem sv (f:Nat->R)(j:Nat)(hf:∀i,f i=if i=j then 1 else 0):∀n:Nat,fZ n f=if j<n then 1 else 0
 |0=>by rw[if_neg (by omega)];rfl
 |n+1=>by
  show fZ n f+f n=_;rw[sv f j hf n,hf n]
  by_cases h:n=j
  ·rw[if_pos h,if_neg (by omega),if_pos (by omega)];grind
  ·rw[if_neg h]
   by_cases h2:j<n
   ·rw[if_pos h2,if_pos (by omega)];grind
   ·rw[if_neg h2,if_neg (by omega)];grind
theorem AE (V:Val p R v)(h:row∈qk a a):S v (row.map λk=>([k],((1,1):Int×Int))) (fl (l8 a))=1:=by
 rcases List.mem_append.mp h with h|h
 ·obtain⟨g,hg,rfl⟩:=List.mem_map.mp h;have hg:=List.mem_range.mp hg;unfold fQ;rw[ko V,gQ (g:=λi=>if i=g then 1 else 0) (λi hi=>?_),sv _ g (λ_=>rfl),if_pos hg];rw[xK,xn hg hi]
  by_cases z:g=i
  ·rw[if_pos z,if_neg (by decide),if_pos z.symm]
  ·rw[if_neg z,if_pos rfl,if_neg (Ne.symm z)]
 ·obtain⟨g,hg,rfl⟩:=List.mem_map.mp h;have hg:=List.mem_range.mp hg;unfold fA;rw[ko V,gQ (g:=λi=>if i=g then 1 else 0) (λi hi=>?_),sv _ g (λ_=>rfl),if_pos hg];rw[xK,xn hi hg]
  by_cases z:i=g
  ·rw[if_pos z,if_neg (by decide),if_pos z]
  ·rw[if_neg z,if_pos rfl,if_neg z]
end
theorem vG (hp:FP p)(h:row∈qk a a):(cg p (l8 a) (tg p (eF p row))).1=0:=by
 obtain⟨R,i,v,V⟩:=hp.v;have hw:=iB hp row;have ht:=hp.tn hw
 have e:v (cg p (l8 a) (tg p (eF p row)))=v (0,1):=by
  rw[vk V hp ht,C5 V hp.nn hw,V.zero];show v (aW p (-1))*fl (l8 a) []+S v (row.map λk=>([k],((1,1):Int×Int))) (fl (l8 a))=0;rw[AE V h,oa V hp];have:(fl (l8 a) []:R)=1:=rfl;rw[this];grind
 rw[V.inj (vZ hp ht) (c:=(0,1)) (i6 hp) e]
theorem yV (hp:FP p)(a7:a<=7)(h:row∈qk a a):WL p (l8 a) (tg p (eF p row))/\dq (tg p (eF p row))<=(l8 a).length:=by
 have r8:=jQ h a7 (by omega);have tl:=iY hp (iu hp r8);have w9:=xR (p:=p) r8
 have ks:∀t∈tg p (eF p row),∀k∈t.1,0<=k/\k<((a*a:Nat):Int):=λt ht k hk=>by
  rcases gA ht with z|⟨j,hj,z⟩
  ·rw[z] at hk;exact nomatch hk
  ·rw[z] at hk;have:=yh h a7 (by omega) j hj;rw[List.mem_singleton.mp hk];exact⟨this.1,this.2.2⟩
 refine⟨WL.of (m:=8) hp (λt ht=>(rB hp r8 t ht).gn hp (by decide) (by decide) (by show(1:Int).natAbs<2^8;decide) (by show(9:Int).natAbs<2^8;decide)) (λt ht=>?_) (by omega) (by omega) (by decide),?_⟩
 ·have z:=nM ht;exact⟨z.1.1,λk hk=>(ks t ht k hk).1,by omega⟩
 ·rw[oF];exact jY (by omega) λt ht k hk=>(ks t ht k hk).2
end K73
namespace L2
open PySem PySem.Spec PyProof.Rows
def y7 (sp:Sp)(dvs:List V)(E:St->XK)(t:TA):TE:=λσ H Q=>Bx sp dvs (E σ) t σ H Q
section
variable {X:Cx}{CX:GL}{k:Nat}{f:Addr}{fd:zo}{ps:zX}{sp:Sp}{E:St->XK}{x:Str}{p pos:Pos}{e:Expr}{es:De}{t:TA}{ds:oH}{dvs:List V}
theorem zZ {pins:List (Addr×Obj)}{σ:St}{H:Hp}{s:Dx}{Q:VK}{us:oH}{vs:List V}(F:Ik X.prog X.w X.K X.mg X.base CX k f fd ps sp)(hr:p8 k X.A)(hb:ay X.K fd ps ds)(hd:aM dvs ds)(hx:oR CX X E)
 (I:Inv X pins σ H s)(r:aM vs us)(h:sp (vs++dvs) H Q (E σ)):wpAny (model X.prog X.w) X.A (call (.ref f) us) (EP X pins σ Q) X.xe s:=by
 have r2:aM (vs++dvs) (us++ds):=r.append hd
 have hl:(us++ds).length=ps.length:=by rw[<-r2.length];exact F.len _ _ _ _ h
 refine wpAny_call (codeAny_mono (F.run X.A X.stack s H ⟨us,[]⟩ (us++ds) (vs++dvs) Q (E σ) hr I.abt (hb s us I.kIn hl) r2 h) λr s' hq=>?_)
 cases r with
 |error e=>exact hx pins σ H s e s' I hq
 |ok fl =>
  cases fl with
  |ret u=>exact I.after hq
  |next=>exact False.elim hq
  |brk=>exact False.elim hq
  |cont=>exact False.elim hq
theorem zt (F:Ik X.prog X.w X.K X.mg X.base CX k f fd ps sp)(hr:p8 k X.A)(hg:Gl X x)(hm:X.mg x=some (.ref f))(hk:PySem.W.keepIn X.K (.ref f)=true)(hb:ay X.K fd ps ds)(hd:aM dvs ds)(hx:oR CX X E)
 (ha:PA X (e::es) t)(Lo:(x==("__debug__":Str))=false:=by decide)(he:starEach (e::es) X.env=(false,eval e X.env):: starEach es X.env:=by rfl)(JK:(backTo pos (starEach es X.env)).any (·.1)=false:=by rfl):
 PE X (.Call (.Name x p) (e::es) [] pos) (y7 sp dvs E t):=by
 intro pins s σ H Q I h;refine wpAny_Call_Name_kw (fR I hg hm ?_ Lo);refine PySem.W.callWith_K (h₀:=X.base) I.ok.mod.kin hk (bK (ha pos pins s σ H _ I h) λus s1 ⟨vs,H1,I1,r,q⟩=>⟨I1.kIn,?_⟩) he JK;exact zZ F hr hb hd hx I1 r q
end
end L2
namespace K73
open PySem L2 PySem.W Nm Srt
abbrev Gy:Stmt:=(aL 72)
theorem vn:Av ["_law_field","_law_many","_law_rooms","_law_found","e","_law_kinds"] Ez (aj Gy):=dk (by decide +kernel)
structure Cf (K:Frag)(mg:xf)(FE NS NF NZ:Addr):Prop where
 k:Gw K NS
 x:PySem.W.exmOne K (.ref NS) (.ref FE)=some true
 mFE:mg "FalseError"=some (.ref FE)
 mNS:mg "NoShowing"=some (.ref NS)
 mNF:mg "NoField"=some (.ref NF)
 mNZ:mg "NoSize"=some (.ref NZ)
 mVE:mg "ValueError"=none
 a0:kitOne K (.ref NS) (.type "list")=some false
 a1:kitOne K (.ref NS) (.ref NS)=some true
 a2:kitOne K (.ref NS) (.type "ValueError")=some true
 a3:kitOne K (.ref NS) (.ref NF)=some false
 a4:kitOne K (.ref NS) (.ref NZ)=some false
def Fw (C CF:Addr):Sp:=λvs H Q _=>∃(fl Iu:Addr)(p:Int)(a b:Nat),vs=[.ref fl,.int a,.int b]/\H fl=some (.ins CF Iu (cE p))/\FP p/\1<=a/\a<=7/\1<=b/\b<=8 /\
 ((aW p ((b:Int)-a)).1=0->∀H',aA H H'->Q .non H') /\
 ((aW p ((b:Int)-a)).1≠0->∀H' D s x y,aA H H'->H D=none->H' D=some (.lst (List.replicate a (.ref x)++List.replicate b (.ref y)))->wc p ((b:Int)-a) s->Bj C CF H' x p [([],s)]->Bj C CF H' y p [([],dj p s)]->Q (.ref D) H')
variable {P:yn}{w:World}{K:PySem.W.Frag}{mg:xf}{base:Heap}
set_option maxHeartbeats 1000000 in
theorem Ew {f fg C CF FE NS NF NZ:Addr}{fd IY:zo}(F:Ao K "_law_showing" "_law_showing" Gy f fd)(IM:mg "isinstance"=none)(Iw:mg "list"=none)(R:Cf K mg FE NS NF NZ)
 (FSg:Ik P w K mg base (aU P w) 10 fg IY DK (Dp C CF NS))(bSg:L2.ay K IY DK [])(mSg:mg "guests_showing"=some (.ref fg))(kSg:keepIn K (.ref fg)=true):
 Ik P w K mg base (aU P w) 11 f fd Ez (Fw C CF):=by
 refine F.okN vn (λvs H Q E h=>?_) (λIv A outer s H vs Q E hr h=>?_)
 ·obtain⟨fl,Iu,p,a,b,rfl,_⟩:=h;rfl
 ·obtain⟨fl,Iu,p,a,b,rfl,hf,hp,a1,a7,b1,b8,q0,q1⟩:=h;have Vf:p8 10 _:=hr;have IH:p8 1 _:=hr.mono (by decide)
  refine⟨_,(ak (@aV _ _ 3 _ _ _ _ vn.nd rfl (Or.inl rfl) lK rfl (Or.inl rfl))
   (ak (CW (i:=4) rfl rfl vn.nd rfl rfl (by rfl) R.mFE (λpins E'=>aq (@aV _ _ 3 _ _ _ _ vn.nd rfl (Or.inl rfl) (show PE (Cx.tr (gG (aU P w) P w K mg base ["_law_field","_law_many","_law_rooms","_law_found","e","_law_kinds"] "_law_showing" (aj Gy) f Iv A outer s H E).nox pins E') _ (y7 (Dp C CF NS) [] E' (dn (eP 0) (dn (eP 1) (dn (eP 2) An)))) from zt FSg Vf (by rfl) mSg kSg bSg .nil pT (@ao _ _ _ _ _ (pv 0) (@ao _ _ _ _ _ (pv 1) (@ao _ _ _ _ _ (pv 2) af rfl) rfl) rfl)) rfl (Or.inl rfl))) (λa=>aq (@aV _ _ 3 _ _ _ _ vn.nd rfl (Or.inl rfl) (pv 4) rfl (Or.inl rfl))))
   (ak (a9 (bF (aD aQ (by rfl) IM (by rfl) (bf (pv 3) (bf (c6 (by rfl) Iw (by rfl) (show aG (.ty "list") (.type "list") from rfl)) af)))) (aq (az (pv 3))) aF)
   (ak (@aV _ _ 5 _ _ _ _ vn.nd rfl (Or.inl rfl) (@cw _ _ _ _ (@ao _ _ _ _ _ (aD aQ (by rfl) IM (by rfl) (bf (pv 3) (bf (bX (by rfl) R.mNS (show aG (.ref NS) (.ref NS) from rfl)) af))) (@ao _ _ _ _ _ (aD aQ (by rfl) IM (by rfl) (bf (pv 3) (bf (c6 (by rfl) R.mVE (by rfl) (show aG (.ty "ValueError") (.type "ValueError") from rfl)) af))) (@ao _ _ _ _ _ (aD aQ (by rfl) IM (by rfl) (bf (pv 3) (bf (bX (by rfl) R.mNF (show aG (.ref NF) (.ref NF) from rfl)) af))) af rfl) rfl) rfl)) rfl (Or.inl rfl))
   (ak (a9 (@aK _ _ _ _ _ _ _ _ (show eE _ _ (uW K true) from qC IH) (@aC _ _ _ _ _ _ _ _ eI (pv 5) (@cw _ _ _ _ (@ao _ _ _ _ _ (aD aQ (by rfl) IM (by rfl) (bf (pv 3) (bf (bX (by rfl) R.mNZ (show aG (.ref NZ) (.ref NZ) from rfl)) af))) af rfl))) (@cw _ _ _ _ (@ao _ _ _ _ _ dh (@ao _ _ _ _ _ dh (@ao _ _ _ _ _ dh (@ao _ _ _ _ _ dh af rfl) rfl) rfl) rfl)) (aI _)) (aq (az fN)) aF)
   (aq (az lK))))))),?_⟩
  refine⟨_,rfl,_,rfl,_,rfl,fl,Iu,p,a,b,rfl,hf,hp,a1,a7,b1,b8,λz H1 s1=>⟨R.x,λex hex=>?_⟩,λz H1 D sh x y s1 nD eD hs h1 h2=>?_⟩
  ·have s2:=ar (o:=pW ex (.ref NS)) hex;have e2:upd H1 ex (pW ex (.ref NS)) ex=some (pW ex (.ref NS)):=ah;change rp (eP 4) (cb 3) _ _ (upd H1 ex (pW ex (.ref NS)));generalize upd H1 ex _=H2 at s2 e2 |-;have ty:∀{H3},aA H2 H3->qF K H3 (.ref ex) (.ref NS):=λs=>.exc (s _ _ e2) R.k;have t0:=ty (aA.refl _);refine⟨_,rfl,_,rfl,.ref ex,.ty "list",_,_,false,rfl,rfl,t0,R.a0,_,rfl,bw ?_⟩;refine⟨_,rfl,.ref ex,.ref NS,_,_,true,rfl,rfl,t0,R.a1,_,rfl,.ref ex,.ty "ValueError",_,_,true,rfl,rfl,t0,R.a2,_,rfl,.ref ex,.ref NF,_,_,false,rfl,rfl,t0,R.a3,aaa,λL hL=>?_⟩;have s3:=ar (o:=.lst [.bl true,.bl true,.bl false]) hL;have e3:upd H2 L (.lst [.bl true,.bl true,.bl false]) L=some (.lst [.bl true,.bl true,.bl false]):=ah;generalize upd H2 L _=H3 at s3 e3 |-;refine⟨_,rfl,_,rfl,.ref ex,.ref NZ,_,_,false,rfl,rfl,ty s3,R.a4,sJ,λL1 Lf=>?_⟩;have s4:=ar (o:=.lst [.bl false]) Lf;refine⟨L,L1,_,_,rfl,rfl,s4 _ _ e3,ah,HQ,λL2 H5 _ s5 e5=>?_⟩;refine⟨HQ,λL3 U0=>?_⟩;have s6:=ar (o:=.lst [.bl true,.bl true,.bl false,.bl false]) U0
   have dp:∀{H:Hp}{l:Addr},H l=some (.lst [.bl true,.bl true,.bl false,.bl false])->aN K H (.lst [.bl true,.bl true,.bl false,.bl false]) (.ref l):=λ{H l} e=>by
    unfold aN;refine⟨l,_,rfl,bo.of e,?_⟩;simp[ba,aN]
   refine⟨_,_,dp (s6 _ _ e5),dp ah,(by decide),_,rfl,?_⟩;rw[eA];exact bw (q0 z _ (s1.trans (s2.trans (s3.trans (s4.trans (s5.trans s6))))))
  ·exact⟨_,rfl,.ref D,.ty "list",_,_,true,rfl,rfl,.of (.lst eD),rfl,_,rfl,b0 ⟨_,rfl,q1 z H1 D sh x y s1 nD eD hs h1 h2⟩⟩
end K73
namespace L2
open PySem PySem.Spec PyProof.Rows
theorem DI {X:Cx}:eE X (compareOp .Is) (λx y H Q=>x=.bl true/\y=.bl true/\Q (.bl true) H):=by
 intro pins s σ H x y v u Q I rx ry h;obtain⟨rfl,rfl,q⟩:=h
 cases rx
 cases ry
 show wpAny _ _ (do let b <-(pure true:Sem Bool);pure (Value.bool b)) _ _ _;exact wpAny_bind (wpAny_pure (wpAny_pure (bh I q rfl)))
end L2
namespace K73
open PySem L2 PySem.W Nm Srt
abbrev GH:Stmt:=(aL 73)
theorem oP:Av ["_law_prime_here","_law_many","_law_rooms","_law_field","_law_ones","_law_system","_law_apart","_law_turn","_law_found","_law_row"] GZ (aj GH):=dk (by decide +kernel)
def rW:Sp:=λvs H Q _=>∃(p:Int)(a b:Nat),vs=[.int p,.int a,.int b]/\FP p/\1<=a/\a<=7/\1<=b/\b<=8/\∀H',aA H H'->Q (.bl true) H'
def apart (p:Int)(a b:Nat):Int:=if 0<p then((a:Int)-b)%p else(a:Int)-b
theorem v8 {p:Int}(hp:FP p)(a b:Nat):apart p a b=0↔(aW p ((b:Int)-a)).1=0:=by
 unfold apart
 by_cases z:p=0
 ·subst z;rw[if_neg (by decide),cm];show(a:Int)-b=0↔(b:Int)-a=0;omega
 ·have:=(hp.two z).2.1;rw[if_pos (by omega),bH z];show((a:Int)-b)%p=0↔((b:Int)-a)%p=0;rw[show(b:Int)-a = -((a:Int)-b) by omega,<-Int.dvd_iff_emod_eq_zero,<-Int.dvd_iff_emod_eq_zero];exact(Int.dvd_neg).symm
theorem kZ {α β:Type}{R:α->β->Prop}{x:α}{y:β}(h:R x y):∀n:Nat,Paired R (List.replicate n x) (List.replicate n y)
 |0=>.nil
 |n+1=>.cons h (kZ h n)
variable {P:yn}{w:World}{K:PySem.W.Frag}{mg:xf}{base:Heap}
set_option maxHeartbeats 1000000 in
theorem Eo {f fi fg fu fy fs fj ff CS C CF O7:Addr}{fd KG IY OS OV Kk Yq OQ:zo}(F:Ao K "_law_right" "_law_right" GH f fd)(cF:vR K mg CF)(IM:mg "isinstance"=none)(Iw:mg "list"=none)(Iy:mg "range"=none)(IA:mg "tuple"=none)(Kl:mg "int"=none)
 (MF:Mk K CF fi)(FFI:Ik P w K mg base (aU P w) 2 fi KG Ij (nV CF O7))(MX:L2.ay K KG Ij [])
 (FLg:Ik P w K mg base (aU P w) 5 fg IY GZ AM)(bLg:L2.ay K IY GZ [])(mLg:mg "_law_guests"=some (.ref fg))(kLg:keepIn K (.ref fg)=true)
 (FGu:Ik P w K mg base (aU P w) 9 fu OS DK (Fh CS C CF))(bGu:L2.ay K OS DK [])(mGu:mg "guests"=some (.ref fu))(kGu:keepIn K (.ref fu)=true)
 (FIy:Ik P w K mg base (aU P w) 4 fy OV Af (EY CS C CF))(bIy:L2.ay K OV Af [])(mIy:mg "_law_is_system"=some (.ref fy))(kIy:keepIn K (.ref fy)=true)
 (FSh:Ik P w K mg base (aU P w) 11 fs Kk Ez (Fw C CF))(bSh:L2.ay K Kk Ez [])(mSh:mg "_law_showing"=some (.ref fs))(kSh:keepIn K (.ref fs)=true)
 (FIs:Ik P w K mg base (aU P w) 6 fj Yq vp (FX C CF))(bIs:L2.ay K Yq vp [])(mIs:mg "_law_is_showing"=some (.ref fj))(kIs:keepIn K (.ref fj)=true)
 (Va:Ik P w K mg base (aU P w) 6 ff OQ GW (F0 CS C CF))(Vb:L2.ay K OQ GW [.bool false])(Vc:mg "is_filling"=some (.ref ff))(kFi:keepIn K (.ref ff)=true):
 Ik P w K mg base (aU P w) 12 f fd GZ rW:=by
 refine F.okN oP (λvs H Q E h=>?_) (λIv A outer s H vs Q E hr h=>?_)
 ·obtain⟨p,a,b,rfl,_⟩:=h;rfl
 ·obtain⟨p,a,b,rfl,hp,a1,a7,b1,b8,q⟩:=h;have Vg:p8 11 _:=hr;have NT:p8 9 _:=hr.mono (by decide);have SO:p8 6 _:=hr.mono (by decide);have Kt:p8 5 _:=hr.mono (by decide);have Jb:p8 4 _:=hr.mono (by decide);have JR:p8 3 _:=hr.mono (by decide)
  refine⟨_,(ak (@aV _ _ 3 _ _ _ _ oP.nd rfl (Or.inl rfl) (gS MF FFI JR (by rfl) cF.mgC MX .nil ae (@ao _ _ _ _ _ (pv 0) af rfl)) rfl (Or.inl rfl))
   (ak (@aV _ _ 4 _ _ _ _ oP.nd rfl (Or.inl rfl) (aB FLg Kt (by rfl) mLg kLg bLg .nil ae (@ao _ _ _ _ _ (pv 0) (@ao _ _ _ _ _ (pv 1) (@ao _ _ _ _ _ (pv 2) af rfl) rfl) rfl)) rfl (Or.inl rfl))
   (ak (@aV _ _ 5 _ _ _ _ oP.nd rfl (Or.inl rfl) (aB FGu NT (by rfl) mGu kGu bGu .nil ae (@ao _ _ _ _ _ (pv 3) (@ao _ _ _ _ _ (pv 1) (@ao _ _ _ _ _ (pv 2) af rfl) rfl) rfl)) rfl (Or.inl rfl))
   (ak (a9 (bJ (bF (aB FIy Jb (by rfl) mIy kIy bIy .nil ae (@ao _ _ _ _ _ (pv 5) (@ao _ _ _ _ _ (pv 0) (@ao _ _ _ _ _ (@aC _ _ _ _ _ _ _ _ bz (pv 1) (pv 2)) (@ao _ _ _ _ _ (pv 4) af rfl) rfl) rfl) rfl)))) (aq (az dh)) aF)
   (ak (@aV _ _ 6 _ _ _ _ oP.nd rfl (Or.inl rfl) (@aC _ _ _ _ _ _ _ _ j7 (pv 1) (pv 2)) rfl (Or.inl rfl))
   (ak (a9 (@aK _ _ _ _ _ _ _ _ qh (pv 0) au (aI _)) (aq (@aV _ _ 6 _ _ _ _ oP.nd rfl (Or.inl rfl) (@aC _ _ _ _ _ _ _ _ cO (pv 6) (pv 0)) rfl (Or.inl rfl))) aF)
   (ak (dO PassesOwn.never rfl (cH (by rfl) Iy (@ao _ _ _ _ _ au af rfl)) (aE (i:=7) oP.nd rfl (Or.inl rfl))
   (ak (@aV _ _ 8 _ _ _ _ oP.nd rfl (Or.inl rfl) (aB FSh Vg (by rfl) mSh kSh bSh .nil ae (@ao _ _ _ _ _ (pv 3) (@ao _ _ _ _ _ (pv 1) (@ao _ _ _ _ _ (pv 2) af rfl) rfl) rfl)) rfl (Or.inl rfl))
   (ak (a9 (PW.pt (n4 (@aK _ _ _ _ _ _ _ _ dZ (pv 6) au (aI _)) (jS (@aK _ _ _ _ _ _ _ _ abc (pv 8) lK (aI _))))) (aq (az dh)) aF)
   (aq (a9 (@aK _ _ _ _ _ _ _ _ fW (pv 6) au (aI _)) (ak (a9 (PW.pt (d0 (bJ (bF (aD aQ (by rfl) IM (by rfl) (bf (pv 8) (bf (c6 (by rfl) Iw (by rfl) (show aG (.ty "list") (.type "list") from rfl)) af))))) (dw (bJ (bF (aB FIs SO (by rfl) mIs kIs bIs .nil ae (@ao _ _ _ _ _ (pv 0) (@ao _ _ _ _ _ (@aC _ _ _ _ _ _ _ _ bz (pv 1) (pv 2)) (@ao _ _ _ _ _ (pv 4) (@ao _ _ _ _ _ au (@ao _ _ _ _ _ (pv 8) af rfl) rfl) rfl) rfl) rfl))))))) (aq (az dh)) aF)
   (aq (eK (B7 PySem.F.plainAttrs_list PySem.F.slot_list_clear PySem.F.type_list_clear yu (pv 8))))) aF)))))
   (ak (a9 (@aK _ _ _ _ _ _ _ _ fW (pv 1) (pv 2) (aI _)) (aq (az dh)) aF)
   (ak (@aV _ _ 9 _ _ _ _ oP.nd rfl (Or.inl rfl) (dF hJ (by rfl) IA (by rfl) (@ao _ _ _ _ _ (ck (N:=["_law_place","_law_rooms"]) (nl:=1) (js:=[2]) (osc:=aj GH) ⟨rfl,rfl,by decide +kernel,by decide +kernel,by decide +kernel,rfl,(.cons ⟨rfl,by decide +kernel⟩ .nil),by decide +kernel⟩ rfl
    (cH (by rfl) Iy (@ao _ _ _ _ _ (@aC _ _ _ _ _ _ _ _ bz (pv 1) (pv 2)) af rfl))
    (λCq fq sq Hq=>aE (i:=0) (by show(["_law_place","_law_rooms"]:zX).Nodup;decide +kernel) rfl (Or.inl rfl) (Or.inr rfl))
    (λCq fq sq Hq=>cj)
    (λCq fq sq Hq=>(dF acp (by rfl) Kl (by rfl) (@ao _ _ _ _ _ (@cI _ _ _ _ _ _ _ _ dZ (@aC _ _ _ _ _ _ _ _ d9 (pv 0) (pv 1)) (@aC _ _ _ _ _ _ _ _ cO (pv 0) (pv 1)) (aI _)) af rfl)))) af rfl)) rfl (Or.inl rfl))
   (aq (az (@cI _ _ _ _ _ _ _ _ DI (aB (dvs:=[.bl false]) Va SO (by rfl) Vc kFi Vb (.cons rfl .nil) ae (@ao _ _ _ _ _ (pv 5) (@ao _ _ _ _ _ (pv 9) af rfl) rfl)) dh (aI _))))))))))))),?_⟩
  have bB:∀{k:Int},0<=k->k<256->B 9000 k:=λ{k} h0 h1=>Nat.lt_of_lt_of_le (show k.natAbs<2^8 by omega) (Nat.pow_le_pow_right (by decide) (by decide));refine⟨_,rfl,λfl Iu Yr Ku ne=>?_⟩;refine lN Yr Ku ne hp λH1 s1 e1=>?_;refine⟨_,rfl,_,rfl,_,rfl,p,a,b,rfl,hp,a1,a7,b1,b8,λH2 ln ns s2 e2 hn=>?_⟩;refine⟨_,rfl,_,rfl,_,rfl,fl,Iu,p,a,b,rfl,s2 _ _ e1,hp,a1,a7,b1,b8,λH3 sy as s3 Y hs=>?_⟩;have Vh:Paired (qy H3) ns _:=Paired.aax hn λ_ _ z=>qy.same z s3
  have rl:(qk a b).length=a+b:=by unfold qk;rw[List.length_append,List.length_map,List.length_map,List.length_range,List.length_range]
  have O8:(a:Int)*b=((a*b:Nat):Int):=by push_cast;rfl
  refine⟨_,rfl,_,rfl,_,rfl,_,rfl,_,_,rfl,rfl,⟨bB (by omega) (by omega),bB (by omega) (by omega)⟩,_,rfl,sy,fl,ln,p,_,as,ns,_,rfl,?_,hp,hs,s3 _ _ e2,Vh,by rw[List.length_map,rl];omega,λH4 s4=>⟨_,rfl,bw ?_⟩⟩
  ·rw[O8];exact Y
  have L6:=s1.trans (s2.trans (s3.trans s4));have e4:=s4 _ _ (s3 _ _ (s2 _ _ e1));have Y4:=Y.same s4;have UK:=jO.same hs s4;have l4:=s4 _ _ (s3 _ _ e2);have hn4:Paired (qy H4) ns _:=Paired.aax Vh λ_ _ z=>qy.same z s4;clear s1 s2 s3 s4 e1 e2 hn Vh hs Y Yr Ku;refine⟨_,rfl,_,rfl,_,_,rfl,rfl,?_⟩;refine⟨_,rfl,_,_,rfl,rfl,_,rfl,?_⟩;have ai:=v8 hp a b
  by_cases z:0<p
  case' pos =>
   rw[decide_eq_true z];refine b0 ⟨_,rfl,_,rfl,_,_,rfl,rfl,z,?_⟩;have ea:((a:Int)-b)%p=apart p a b:=(if_pos z).symm
  case' neg =>
   rw[decide_eq_false z];refine bw ?_;have ea:(a:Int)-b=apart p a b:=(if_neg z).symm
  all_goals
   generalize apart p a b=ap at ai ea;refine⟨2,rfl,by decide,by decide,?_⟩;refine jv (lo:=0) (n:=(2:Int).toNat) (λj σ H'=>aA H4 H'/\∃o7 o8,σ=[some (.int p),some (.int a),some (.int b),some (.ref fl),some (.ref ln),some (.ref sy),some (.int ap),o7,o8,none]) ⟨aA.refl _,none,none,congrArg (λx=>([some (V.int p),some (V.int a),some (V.int b),some (V.ref fl),some (V.ref ln),some (V.ref sy),some (V.int x),none,none,none]:St)) ea⟩ ?_ ?_
   ·rintro j σ H5 hj ⟨s5,o7,o8,rfl⟩;refine⟨_,rfl,_,rfl,_,rfl,fl,Iu,p,a,b,rfl,s5 _ _ e4,hp,a1,a7,b1,b8,λz0 H6 s6=>?_,λz0 H6 D sh x y s6 nD eD hs h1 h2=>?_⟩
    ·have za:=ai.mpr z0;refine⟨_,rfl,rfl,_,rfl,?_⟩;rw[cx,za];refine b0 ⟨_,rfl,rfl,_,rfl,bw ?_⟩;refine⟨_,rfl,rfl,_,rfl,?_⟩;rw[cx];exact bw ⟨s5.trans s6,_,_,rfl⟩
    ·have za:ap≠0:=λz=>z0 (ai.mp z);have zb:(ap==0)=false:=beq_eq_false_iff_ne.mpr za;refine⟨_,rfl,rfl,_,rfl,?_⟩;rw[cx,zb];refine bw ?_;refine⟨_,rfl,rfl,_,rfl,?_⟩;rw[cx,zb];refine b0 ?_;have LZ:=s5.trans s6;refine⟨_,rfl,.ref D,.ty "list",_,_,true,rfl,rfl,.of (.lst eD),rfl,_,rfl,bw ?_⟩;refine⟨_,rfl,_,rfl,_,rfl,_,_,rfl,rfl,⟨bB (by omega) (by omega),bB (by omega) (by omega)⟩,_,rfl,_,rfl,p,_,ln,D,ns,List.replicate a x++List.replicate b y,oY p sh a b,rfl,hp,LZ _ _ l4,?_,?_,?_,ye hp hs a7 b8,by rw[uJ];omega,C4 hp hs a7 b8,?_,λH7 s7=>⟨_,rfl,bw ?_⟩⟩
     ·rw[AR];exact Paired.aax hn4 λ_ _ z=>qy.same z LZ
     ·rw[eD,List.map_append,List.map_replicate,List.map_replicate]
     ·rw[zE];exact eW (kZ (R:=λs ts=>Bj C CF H6 s p ts) h1 a) (kZ (R:=λs ts=>Bj C CF H6 s p ts) h2 b)
     ·rw[AH,xB hp hs,nK (by decide)]
     ·refine⟨_,rfl,.inl ⟨rfl,_,bo.of (s7 _ _ eD)⟩,D,_,rfl,rfl,s7 _ _ eD,?_⟩;refine⟨λc u e=>?_,_,_,rfl⟩;rw[av (ax (s5 _ _ e) nD)];exact s7 _ _ (LZ _ _ e)
   ·rintro σ H5 ⟨s5,o7,o8,rfl⟩;refine⟨_,rfl,_,rfl,rfl,_,rfl,?_⟩;rw[cx]
    by_cases ab:a=b
    ·subst ab;rw[show((a:Int)==a)=true from by simp];refine bw ?_;have m49:a*a<=49:=Nat.mul_le_mul a7 a7;refine⟨_,rfl,_,rfl,_,_,rfl,rfl,⟨bB (by omega) (by omega),bB (by omega) (by omega)⟩,(a:Int)*a,rfl,by rw[O8];omega,by rw[O8];omega,?_⟩;refine en (lo:=0) (n:=((a:Int)*a).toNat) (rest:=[some (.int a)]) (λj us H'=>H'=H5/\us=((List.range j).map λk=>if k/a=k%a then(1:Int) else 0).map V.int) ⟨rfl,rfl⟩ (λj us H' hj h=>?_) (λj us H' N hj h hN=>?_) (λus H' h=>?_)
     ·rw[h.2,List.length_map,List.length_map,List.length_range];rw[O8,Int.toNat_natCast] at hj;exact Nat.lt_of_le_of_lt (by omega:j<=49) (by decide)
     ·obtain⟨rfl,rfl⟩:=h
      have e1:Int.fdiv (0+(j:Int)) a=((j/a:Nat):Int):=by rw[Int.zero_add,Int.fdiv_eq_ediv_of_nonneg _ (by omega)];rfl
      have e2:(0+(j:Int))%a=((j%a:Nat):Int):=by rw[Int.zero_add];rfl
      refine jc ⟨_,rfl,_,rfl,_,_,rfl,rfl,⟨by omega,bB (by omega) (by omega)⟩,_,rfl,_,rfl,_,_,rfl,rfl,by omega,rfl,.inr ⟨_,rfl,hN _ _ ⟨rfl,?_⟩⟩⟩;rw[cx,List.range_succ,List.map_append,List.map_append];show _++[V.int (if(Int.fdiv (0+(j:Int)) a==(0+(j:Int))%a)=true then 1 else 0)]=_++[V.int (if j/a=j%a then 1 else 0)];rw[e1,e2]
      by_cases z:j/a=j%a
      ·rw[if_pos z,if_pos (by rw[z];simp)]
      ·rw[if_neg z,if_neg (by simp only[beq_iff_eq];omega)]
     ·obtain⟨rfl,rfl⟩:=h;rw[O8,Int.toNat_natCast];intro L hL;have s6:=ar (o:=.lst ((l8 a).map V.int)) hL;have e6:upd H' L (.lst ((l8 a).map V.int)) L=some (.lst ((l8 a).map V.int)):=ah;change An _ (upd H' L (.lst ((l8 a).map V.int))) _;generalize upd H' L _=H6 at s6 e6 |-;refine⟨L,_,rfl,.inl ⟨bo.of e6,λtu NO=>?_⟩⟩;have s7:=ar (o:=.tup ((l8 a).map V.int)) NO;have e7:upd H6 tu (.tup ((l8 a).map V.int)) tu=some (.tup ((l8 a).map V.int)):=ah;generalize upd H6 tu _=H7 at s7 e7 |-;have O9:=s5.trans (s6.trans s7);refine⟨_,rfl,_,rfl,sy,fl,tu,p,_,as,_,l8 a,rfl,Y4.same O9,hp,jO.same UK O9,e7,by rw[oF],by rw[oF];omega,Ah a,λts ht=>?_,λH8 s8=>⟨rfl,rfl,q _ (L6.trans (O9.trans s8))⟩⟩;obtain⟨row,KW,rfl⟩:=List.mem_map.mp ht;exact⟨(yV hp a7 KW).1,(yV hp a7 KW).2,vG hp KW⟩
    ·rw[show((a:Int)==b)=false from beq_eq_false_iff_ne.mpr (by omega)];exact b0 (q _ (L6.trans s5))
abbrev Fg:Stmt:=(aL 74)
def wq (K:Frag)(H:Hp)(a:Addr)(ns:List Int):Prop:=(∃o,H a=some (.frz o (.lst (ns.map V.int))))\/∃(o:Obj)(its:GV)(n:Nat),K.lookup a=some o/\o.cls=.type "list"/\o.dict=none/\o.data=.seq its n/\its.size<=sizeLine/\L2.aM (ns.map V.int) its.toList
variable {K:Frag}{H:Hp}{a:Addr}{ns:List Int}
theorem wq.sq (h:wq K H a ns):bo K H a (ns.map V.int):=by
 rcases h with⟨o,h⟩|h
 ·exact .inl (.inr ⟨o,h⟩)
 ·exact .inr h
theorem wq.same {H':Hp}(h:wq K H a ns)(S:aA H H'):wq K H' a ns:=by
 rcases h with⟨o,h⟩|h
 ·exact .inl ⟨o,S _ _ h⟩
 ·exact .inr h
theorem wq.but {H':Hp}{r:Addr}(h:wq K H a ns)(R:iX H r)(S:SameBut r H H'):wq K H' a ns:=by
 rcases h with⟨o,h⟩|h
 ·refine .inl ⟨o,S _ _ h λz=>?_⟩;obtain⟨l,x,e,_⟩:=R;rw[z,e] at h
  cases h
 ·exact .inr h
def w6 (K:Frag):Sp:=λvs H Q _=>∃(a:Addr)(ns:List Int),vs=[.ref a]/\wq K H a ns/\ns.length<=63/\∀H',Q (.bl true) H'
theorem uL:Av ["_law_script","_law_k","_law_pool_here","_law_prime_here"] ["_law_script"] (aj Fg):=dk (by decide +kernel)
theorem Dz {f fo fp ft fr:Addr}{fd LP Jm JQ LW:zo}(F:Ao K "law" "law" Fg f fd)(Iy:mg "range"=none)(IZ:mg "max"=none)(KZ:mg "min"=none)(Iz:mg "len"=none)
 (Uu:Ik P w K mg base (aU P w) 1 fo LP CR (wy K))(Uv:L2.ay K LP CR [])(Uw:mg "_law_pool"=some (.ref fo))(kPo:keepIn K (.ref fo)=true)
 (FPr:Ik P w K mg base (aU P w) 2 fp Jm zr Ct)(bPr:L2.ay K Jm zr [])(mPr:mg "_law_prime"=some (.ref fp))(kPr:keepIn K (.ref fp)=true)
 (Ys:Ik P w K mg base (aU P w) 1 ft JQ u7 GU)(Yt:L2.ay K JQ u7 [])(Yu:mg "_law_take"=some (.ref ft))(Yv:keepIn K (.ref ft)=true)
 (FRi:Ik P w K mg base (aU P w) 12 fr LW GZ rW)(bRi:L2.ay K LW GZ [])(mRi:mg "_law_right"=some (.ref fr))(kRi:keepIn K (.ref fr)=true):
 Ik P w K mg base (aU P w) 13 f fd ["_law_script"] (w6 K):=by
 refine F.okN uL (λvs H Q E h=>?_) (λIv A outer s H vs Q E hr h=>?_)
 ·obtain⟨a,ns,rfl,_⟩:=h;rfl
 ·obtain⟨a,ns,rfl,Yw,hlen,fin⟩:=h;have MZ:p8 12 _:=hr;have Jj:p8 2 _:=MZ.mono (by decide);have IH:p8 1 _:=MZ.mono (by decide)
  refine⟨_,(ak (dO PassesOwn.never rfl (cH (by rfl) Iy (@ao _ _ _ _ _ (aD (ab0 rfl) (by rfl) IZ (by rfl) (@ao _ _ _ _ _ au (@ao _ _ _ _ _ (aD (ab1 rfl) (by rfl) KZ (by rfl) (@ao _ _ _ _ _ (aD bu (by rfl) Iz PySem.boot_len (@ao _ _ _ _ _ (pv 0) af rfl)) (@ao _ _ _ _ _ au af rfl) rfl)) af rfl) rfl)) af rfl)) (aE (i:=1) uL.nd rfl (Or.inl rfl))
   (ak (@aV _ _ 2 _ _ _ _ uL.nd rfl (Or.inl rfl) (aB Uu IH (by rfl) Uw kPo Uv .nil ae (@ao _ _ _ _ _ (pv 0) (@ao _ _ _ _ _ (pv 1) af rfl) rfl)) rfl (Or.inl rfl))
   (ak (@aV _ _ 3 _ _ _ _ uL.nd rfl (Or.inl rfl) (aB FPr Jj (by rfl) mPr kPr bPr .nil ae (@ao _ _ _ _ _ (pv 2) af rfl)) rfl (Or.inl rfl))
   (aq (a9 (bJ (bF (aB FRi MZ (by rfl) mRi kRi bRi .nil ae (@ao _ _ _ _ _ (pv 3) (@ao _ _ _ _ _ (@aC _ _ _ _ _ _ _ _ dG au (aB Ys IH (by rfl) Yu Yv Yt .nil ae (@ao _ _ _ _ _ (pv 2) (@ao _ _ _ _ _ au af rfl) rfl))) (@ao _ _ _ _ _ (@aC _ _ _ _ _ _ _ _ dG au (aB Ys IH (by rfl) Yu Yv Yt .nil ae (@ao _ _ _ _ _ (pv 2) (@ao _ _ _ _ _ au af rfl) rfl))) af rfl) rfl) rfl)))) (aq (az dh)) aF)))))
   (aq (az dh))),?_⟩
  refine⟨_,rfl,a,_,rfl,.inl Yw.sq,_,_,rfl,_,_,rfl,_,rfl,?_,?_,?_⟩
  ·rw[List.length_map]
   split <;> split <;> omega
  ·rw[List.length_map]
   split <;> split <;> omega
  refine jv (lo:=0) (λi σ H'=>(∃o1 o2 o3,σ=[some (.ref a),o1,o2,o3])/\wq K H' a ns) ⟨⟨_,_,_,rfl⟩,Yw⟩ ?_ ?_
  ·rintro i σ G0 hi ⟨⟨o1,o2,o3,rfl⟩,Yx⟩
   have acC:i<40:=by
    rw[List.length_map] at hi
    split at hi <;> split at hi <;> omega
   refine⟨_,rfl,_,rfl,a,ns,0+(i:Int),rfl,Yx.sq,hlen,by omega,by omega,λr l1 r1 T9 IH Jj=>?_⟩;have S1:=ar (o:=.lst [.int l1,.int r1]) T9;have Yy:=Yx.same S1;have R1:iX (upd G0 r (.lst [.int l1,.int r1])) r:=⟨l1,r1,ah,IH,Jj⟩;generalize (upd G0 r (.lst [.int l1,.int r1]))=G1 at Yy R1 |-;refine⟨_,rfl,r,rfl,R1,λp G2 hp R2 S2=>?_⟩;have sc2:=Yy.but R1 S2;obtain⟨l2,r2,e2,z1,z2⟩:=R2;refine⟨_,rfl,_,rfl,r,l2,r2,7,rfl,e2,z1,z2,by decide,by decide,λz l3 r3 y0 y1 y2 y3=>?_⟩;have R2:iX G2 r:=⟨l2,r2,e2,z1,z2⟩
   have Yz:wq K (upd G2 r (.lst [.int l3,.int r3])) a ns:=sc2.but R2 λb u e hb=>by rw[av hb];exact e
   have e3:upd G2 r (.lst [.int l3,.int r3]) r=some (.lst [.int l3,.int r3]):=ah;generalize upd G2 r (.lst [.int l3,.int r3])=G3 at Yz e3 |-;refine⟨_,_,rfl,rfl,?_⟩;refine⟨_,rfl,r,l3,r3,8,rfl,e3,y2,y3,by decide,by decide,λu l4 r4 x0 x1 x2 x3=>?_⟩;have R3:iX G3 r:=⟨l3,r3,e3,y2,y3⟩
   have YA:wq K (upd G3 r (.lst [.int l4,.int r4])) a ns:=Yz.but R3 λb u e hb=>by rw[av hb];exact e
   generalize upd G3 r (.lst [.int l4,.int r4])=G4 at YA |-;refine⟨_,_,rfl,rfl,?_⟩;refine⟨p,(1+z).toNat,(1+u).toNat,?_,hp,by omega,by omega,by omega,by omega,λG5 S5=>⟨_,rfl,bw ⟨⟨_,_,_,rfl⟩,YA.same S5⟩⟩⟩;show [V.int p,V.int (1+z),V.int (1+u)]=[V.int p,V.int ((1+z).toNat:Nat),V.int ((1+u).toNat:Nat)];rw[Int.toNat_of_nonneg (by omega),Int.toNat_of_nonneg (by omega)]
  ·rintro σ H' ⟨⟨o1,o2,o3,rfl⟩,_⟩;exact fin _
end K73
namespace Hd
open PySem PySem.W PyProof.Rows
def qw (K:Frag)(x qual:Str)(st:Stmt)(f:Addr):Prop:=∃(oc:Value)(od:CO)(kV doc pm:Value)(an:CO)(Iv ct:Value)(IQ:va),
 K.lookup f=some ⟨oc,od,.func (fnOf x qual (L2.c7 st) (L2.cu st) (L2.aj st) .none kV doc pm an Iv ct),IQ⟩/\codeIn K Iv qual=true/\keepIn K (.ref f)=true
variable {K:Frag}{x qual:Str}{st:Stmt}
theorem qJ {v:Option (Option Value)}(h:aS K v=cT x qual st)(b:cK K v qual=true):v=some (some (.ref (cD v)))/\qw K x qual st (cD v):=by
 unfold aS at h;obtain⟨fd,e,s⟩:=Option.map_eq_some_iff.mp (show(pK K v).map BK=some _ from h);unfold cK at b;rw[e] at b;rw[Bool.and_eq_true] at b;unfold pK at e
 split at e
 ·rename_i f
  split at e
  ·rename_i oc od fd' IQ hl
   cases e
   refine⟨rfl,oc,od,fd.kwdefaults,fd.doc,fd.pyModule,fd.annotations,fd.code,fd.closureTuple,IQ,?_,b.2,b.1⟩;show K.lookup f=_;rw[hl];obtain⟨n,q,p,bd,sc,g,c,dv,kv,dc,pm,an,cd,ct,bl⟩:=fd;unfold BK at s;simp only[Prod.mk.injEq] at s;obtain⟨rfl,rfl,rfl,rfl,rfl,rfl,rfl,rfl,rfl⟩:=s;rfl
  ·cases e
 ·cases e
theorem qw.fn {f:Addr}(d:qw K x qual st f):∃fd,L2.Ao K x qual st f fd:=by
 obtain⟨oc,od,kV,doc,pm,an,Iv,ct,IQ,l,c,k⟩:=d;exact⟨_,L2.CC l c k⟩
theorem qw.keep {f:Addr}(d:qw K x qual st f):keepIn K (.ref f)=true:=by
 obtain⟨oc,od,kV,doc,pm,an,Iv,ct,IQ,l,c,k⟩:=d;exact k
end Hd
namespace L2
open PySem PySem.Spec PyProof.Rows PySem.W
end L2
namespace Hd
open PySem PySem.W PyProof.Rows
def wx (K:Frag)(x qual:Str)(st:Stmt)(f T:Addr):Prop:=∃(oc:Value)(od:CO)(kV doc pm:Value)(an:CO)(Iv ct:Value)(IQ:va),
 K.lookup f=some ⟨oc,od,.func (fnOf x qual (L2.c7 st) (L2.cu st) (L2.aj st) (.ref T) kV doc pm an Iv ct),IQ⟩/\codeIn K Iv qual=true/\keepIn K (.ref f)=true
variable {K:Frag}{x qual:Str}{st:Stmt}
theorem gM {v:Option (Option Value)}(h:fT K v=cT x qual st)(b:cK K v qual=true)(d:oM K v=true):v=some (some (.ref (cD v)))/\wx K x qual st (cD v) (kR K v):=by
 unfold fT at h;obtain⟨fd,e,s⟩:=Option.map_eq_some_iff.mp (show(pK K v).map (λfd=>BK {fd with defaults:=.none})=some _ from h)
 have hd:fd.defaults=.ref (kR K v):=by
  unfold oM F6 at d;unfold kR F6;rw[e] at d |-;dsimp only at d |-
  cases q:fd.defaults with
  |ref a=>rfl
  |_=>rw[q] at d;cases d
 unfold cK at b;rw[e] at b;rw[Bool.and_eq_true] at b;generalize kR K v=T at hd;unfold pK at e
 split at e
 ·rename_i f
  split at e
  ·rename_i oc od fd' IQ hl
   cases e
   refine⟨rfl,oc,od,fd.kwdefaults,fd.doc,fd.pyModule,fd.annotations,fd.code,fd.closureTuple,IQ,?_,b.2,b.1⟩;show K.lookup f=_;rw[hl];obtain⟨n,q,p,bd,sc,g,c,dv,kv,dc,pm,an,cd,ct,bl⟩:=fd;unfold BK at s;simp only[Prod.mk.injEq] at s;have hd:dv=.ref T:=hd;subst hd;obtain⟨rfl,rfl,rfl,rfl,rfl,rfl,rfl,_,rfl⟩:=s;rfl
  ·cases e
 ·cases e
theorem wx.fn {f T:Addr}(d:wx K x qual st f T):∃fd,L2.EX K x qual st f fd T:=by
 obtain⟨oc,od,kV,doc,pm,an,Iv,ct,IQ,l,c,k⟩:=d;exact⟨_,L2.Am l c k⟩
theorem wx.keep {f T:Addr}(d:wx K x qual st f T):keepIn K (.ref f)=true:=by
 obtain⟨oc,od,kV,doc,pm,an,Iv,ct,IQ,l,c,k⟩:=d;exact k
theorem qc:∀{vs:oH}{ns:List Int},sO vs ns=true->L2.aM (ns.map L2.V.int) vs
 |[],[],_=>.nil
 |v::vs,n::ns,h=>by
  unfold sO at h;rw[Bool.and_eq_true] at h;obtain⟨t,rfl⟩:=iV h.1;exact .cons ⟨t,rfl⟩ (qc h.2)
 |[],_::_,h=>by cases h
 |_::_,[],h=>by cases h
theorem uC {a:Addr}{ns:List Int}(h:yD K a ns=true)(H:L2.Hp):L2.br K H a (ns.map L2.V.int):=by
 unfold yD at h
 split at h
 ·rename_i o ho
  rw[Bool.and_eq_true] at h;obtain⟨h1,h2⟩:=h
  split at h1
  ·rename_i T hT
   split at h2
   ·rename_i its n hd
    rw[Bool.and_eq_true] at h2
    have:T="tuple":=by simpa using h1
    subst this;exact .inr ⟨o,its,n,ho,hT,hd,of_decide_eq_true h2.2,qc h2.1⟩
   ·cases h2
  ·cases h1
 ·cases h
open L2 in
theorem vy {l:OpenLaw}{n k:Nat}{q:yn}{loose:zX}{XP:(Str->Option Value)->Heap->Prop}{YP:World->Heap->Prop}{d:DefRec}{CX:World->GL}{sp:Frag->Sp}{x:Str}{φ:Frag->Prop}{tabs:Frag->List (Addr×Addr)}
 (hn:l.most=some n)(NA:n<=sizeLine)(Oh:d.params.defaults=[])(hr:p8 k callerA)
 (hY:∀(w:World)(h:Heap),YP w h->∃K:Frag,φ K/\K.In h)
 (hT:∀(w:World)(s₀:Dx)(mg mb:xf)(h:Heap)(K:Frag),φ K->Ground q loose [] XP w s₀ mg mb h->K.In h->TabsAt (tabs K) h/\∀r∈tabs K,K.lookup r.2=none)
 (F:∀(w:World)(K:Frag)(mg:xf)(fa:Addr)(h:Heap),φ K->K.In h->h.Ns mainGlobals mg->mg d.name=some (.ref fa) →
  ∃fd:FuncData,(∀(s:Dx)(u:Value),BindsTo s fd ⟨[u],[]⟩ [(x,u)])/\∀base:Heap,K.In base->base.Ns mainGlobals mg->uQ (tabs K) mg base->Ik l.prog w K mg base (CX w) k fa fd [x] (sp K))
 (Kq:∀(K:Frag)(H:Hp)(a:Addr)(ns:List Int),ns.length<=n->zd (tabs K) H->bo K H a (ns.map V.int)->sp K [.ref a] H (λv _=>v=.bl true) λ_ _ _=>False)
 (T5:∀(w:World)(H:Hp)(s:Dx)(e:Value)(s':Dx),CX w [] H s (λ_ _ _=>False) e s'->False):
 WalkO q loose XP YP l.row.toRowW d [] (λf vs=>PySem.call f vs):=by
 refine Xg.pL hn Oh λw s₀ s₁ mg mb fa o pm cd doc a vs ns G Y ho hd Jp Tv Mz hints hlen hg=>?_;obtain⟨K,hφ,KX⟩:=hY w _ Y;obtain⟨fd,hb,hF⟩:=F w K mg fa _ hφ KX G.T.g Tv;obtain⟨t1,t2⟩:=hT w s₀ mg mb _ K hφ G KX;exact ve KX G.T.g G.T.b G.T.builtins G.T.nolimit hg Mz hints (Nat.le_trans hlen NA) hr t1 t2 G.T.bmain hF hb (λH hO hS=>Kq K H a ns hlen hO hS) λH e s'=>T5 w H s₁ e s'
end Hd
namespace K73
open PySem L2 PySem.W Nm
open Hd (gv ga fv cD eM cz dB bq iF cB lF cP cK aS fT cT oM kR nO fH v5 jT Gk iV oj fO yD qJ gM uC)
section
variable {α:Type}{M:List α->Prop}
theorem pR (h:∀a,M [a]):∀us:List α,us.length=1->M us
 |[a],_=>h a
theorem CY (h:∀a b,M [a,b]):∀us:List α,us.length=2->M us
 |[a,b],_=>h a b
theorem fM (h:∀a b c,M [a,b,c]):∀us:List α,us.length=3->M us
 |[a,b,c],_=>h a b c
theorem EV (h:∀a b c d,M [a,b,c,d]):∀us:List α,us.length=4->M us
 |[a,b,c,d],_=>h a b c d
theorem GK (h:∀a b c d e,M [a,b,c,d,e]):∀us:List α,us.length=5->M us
 |[a,b,c,d,e],_=>h a b c d e
end
section
variable {K:Frag}{f T:Addr}{fd:zo}{oT:Obj}{t:Tok}{n:Nat}
theorem Fp (F:EX K "__init__" "Field.__init__" yN f fd T)(lT:K.lookup T=some oT)(dT:oT.data=.seq #[.int 0 t] n):L2.ay K fd Ij []:=by
 obtain⟨oc,od,kV,doc,pm,an,Iv,ct,IQ,rfl,lk,Jp⟩:=F.ex;intro s us KX hl
 cases us with
 |nil=>simp at hl
 |cons a0 r1 =>
  cases r1 with
  |nil=>simp at hl
  |cons a1 r2 =>
   cases r2 with
   |nil=>exact binds_K KX rfl lT dT rfl rfl
   |cons a r=>simp at hl
theorem B9 (F:EX K "made" "Field.made" xU f fd T)(lT:K.lookup T=some oT)(dT:oT.data=.seq #[.int 1 t] n):L2.ay K fd Cs [.int 1 t]:=by
 obtain⟨oc,od,kV,doc,pm,an,Iv,ct,IQ,rfl,lk,Jp⟩:=F.ex;intro s us KX hl
 cases us with
 |nil=>simp at hl
 |cons a0 r1 =>
  cases r1 with
  |nil=>simp at hl
  |cons a1 r2 =>
   cases r2 with
   |nil=>exact binds_K KX rfl lT dT rfl rfl
   |cons a r=>simp at hl
theorem CG (F:EX K "__init__" "Sum.__init__" oE f fd T)(lT:K.lookup T=some oT)(dT:oT.data=.seq #[.none] n):L2.ay K fd vB []:=by
 obtain⟨oc,od,kV,doc,pm,an,Iv,ct,IQ,rfl,lk,Jp⟩:=F.ex;intro s us KX hl
 cases us with
 |nil=>simp at hl
 |cons a0 r1 =>
  cases r1 with
  |nil=>simp at hl
  |cons a1 r2 =>
   cases r2 with
   |nil=>simp at hl
   |cons a2 r3 =>
    cases r3 with
    |nil=>exact binds_K KX rfl lT dT rfl rfl
    |cons a r=>simp at hl
theorem Az (F:EX K "__init__" "Sum.__init__" oE f fd T)(lT:K.lookup T=some oT)(dT:oT.data=.seq #[.none] n):L2.ay K fd vB [.none]:=by
 obtain⟨oc,od,kV,doc,pm,an,Iv,ct,IQ,rfl,lk,Jp⟩:=F.ex;intro s us KX hl
 cases us with
 |nil=>simp at hl
 |cons a0 r1 =>
  cases r1 with
  |nil=>simp at hl
  |cons a1 r2 =>
   cases r2 with
   |nil=>exact binds_K KX rfl lT dT rfl rfl
   |cons a r=>simp at hl
theorem Ar (F:EX K "__init__" "System.__init__" GC f fd T)(lT:K.lookup T=some oT)(dT:oT.data=.seq #[.none] n):L2.ay K fd vU [.none]:=by
 obtain⟨oc,od,kV,doc,pm,an,Iv,ct,IQ,rfl,lk,Jp⟩:=F.ex;intro s us KX hl
 cases us with
 |nil=>simp at hl
 |cons a0 r1 =>
  cases r1 with
  |nil=>simp at hl
  |cons a1 r2 =>
   cases r2 with
   |nil=>simp at hl
   |cons a2 r3 =>
    cases r3 with
    |nil=>simp at hl
    |cons a3 r4 =>
     cases r4 with
     |nil=>exact binds_K KX rfl lT dT rfl rfl
     |cons a r=>simp at hl
theorem Ia (F:EX K "is_filling" "is_filling" Gb f fd T)(lT:K.lookup T=some oT)(dT:oT.data=.seq #[.bool false] n):L2.ay K fd GW [.bool false]:=by
 obtain⟨oc,od,kV,doc,pm,an,Iv,ct,IQ,rfl,lk,Jp⟩:=F.ex;intro s us KX hl
 cases us with
 |nil=>simp at hl
 |cons a0 r1 =>
  cases r1 with
  |nil=>simp at hl
  |cons a1 r2 =>
   cases r2 with
   |nil=>exact binds_K KX rfl lT dT rfl rfl
   |cons a r=>simp at hl
end
section
variable {K:Frag}{x qual n:Str}{st:Stmt}{ps:zX}
theorem fV {mg:xf}{h:Heap}(X:K.In h)(G:h.Ns mainGlobals mg)(s:aS K (gv K n)=cT x qual st)(b:cK K (gv K n) qual=true)(hb:∀(kV doc pm:Value)(an:CO)(Iv ct:Value)(us:oH),us.length=ps.length->bindArgs (PySem.W.fnOf x qual (c7 st) (cu st) (aj st) .none kV doc pm an Iv ct) ⟨us,[]⟩=pure (ps.zip us)):∃fd,Ao K x qual st (ga K n) fd/\L2.ay K fd ps []/\mg n=some (.ref (ga K n))/\keepIn K (.ref (ga K n))=true:=by
 obtain⟨e,d⟩:=qJ s b;obtain⟨fd,F⟩:=d.fn;exact⟨fd,F,F.binds hb,mg_of X G e,d.keep⟩
theorem pB {c:Str}(s:aS K (fv K c n)=cT x qual st)(b:cK K (fv K c n) qual=true)(i:isFn K (.ref (cD (fv K c n)))=true)(hb:∀(kV doc pm:Value)(an:CO)(Iv ct:Value)(us:oH),us.length=ps.length->bindArgs (PySem.W.fnOf x qual (c7 st) (cu st) (aj st) .none kV doc pm an Iv ct) ⟨us,[]⟩=pure (ps.zip us)):∃fd,Ao K x qual st (cD (fv K c n)) fd/\L2.ay K fd ps []/\L2.Meth K (ga K c) n (cD (fv K c n))/\findIn K (.ref (ga K c)) n=some (some (.ref (cD (fv K c n))))/\isFn K (.ref (cD (fv K c n)))=true:=by
 obtain⟨e,d⟩:=qJ s b;obtain⟨fd,F⟩:=d.fn;exact⟨fd,F,F.binds hb,⟨e,i,d.keep⟩,e,i⟩
end
def xh (_:World)(h:Heap):Prop:=∃K:Frag,qB K=vI/\K.In h
theorem zG (w:World)(s:Dx)(e:qB (Hd.wj rL s.heap)=vI):xh w s.heap:=⟨_,e,Hd.oC _ _⟩
theorem sg (w:World)(h h':Heap)(y:xh w h)(k:∀(b:Addr)(o:Obj),h.get? b=some o->h'.get? b=some o):xh w h':=let⟨K,e,i⟩:=y;⟨K,e,λa o q=>k a o (i a o q)⟩
set_option maxHeartbeats 0 in
theorem rn {l:OpenLaw}{w:World}{K:Frag}{mg:xf}{h:Heap}{fa:Addr}(o:qB K=vI)(X:K.In h)(G:h.Ns mainGlobals mg)(hfa:mg "law"=some (.ref fa)):
 ∃fd:FuncData,(∀(s:Dx)(v:Value),BindsTo s fd ⟨[v],[]⟩ [("_law_script",v)])/\∀base:Heap,K.In base->base.Ns mainGlobals mg->uQ [] mg base->Ik l.prog w K mg base (aU l.prog w) 13 fa fd ["_law_script"] (w6 K):=by
 obtain⟨o1,o2⟩:=Prod.mk.inj (show(rK K,_)=(true,_) from o);simp only[List.cons.injEq,and_true] at o2;obtain⟨s0,s1,s2,s3,s4,s5,s6,s7,s8,s9,JY,LY,Jz,KU,OW,s15,SQ,SS,s18,s19,s20,s21,s22,s23,s24,SN,s26,s27,s28,s29,s30,s31,s32,s33,s34,OX,Li,O0,s38,OY,s40,s41,s42,s43,s44,s45,LZ,O9,Lj,s49,s50,s51,s52,s53,s54,s55,s56,KS,O3,s59⟩:=o2;unfold rK at o1;simp only[Bool.and_eq_true] at o1;obtain⟨g0,g1,g2,g3,g4,g5,g6,g7,g8,g9,Vi⟩:=o1;unfold Hx at g0;simp only[Bool.and_eq_true] at g0;obtain⟨h0,h1,h2,h3,h4,h5,h6,h7,h8,h9,h10,h11,h12,h13,h14,h15⟩:=g0;unfold HR at g1;simp only[Bool.and_eq_true] at g1;obtain⟨h16,h17,h18,h19,h20,h21,h22,h23,h24,h25,h26,h27,h28,h29,h30,h31⟩:=g1;unfold HA at g2;simp only[Bool.and_eq_true] at g2;obtain⟨h32,h33,h34,h35,h36,h37,h38,h39,h40,h41,h42,h43,h44,h45,h46,h47⟩:=g2;unfold HV at g3;simp only[Bool.and_eq_true] at g3;obtain⟨h48,h49,h50,h51,h52,h53,h54,h55,h56,h57,h58,h59,h60,h61,h62,h63⟩:=g3;unfold HM at g4;simp only[Bool.and_eq_true] at g4;obtain⟨h64,h65,h66,h67,h68,h69,h70,h71,h72,h73,h74,h75,h76,h77,h78,h79⟩:=g4;unfold Hu at g5;simp only[Bool.and_eq_true] at g5;obtain⟨h80,h81,h82,h83,h84,h85,h86,h87,h88,h89,h90,h91,h92,h93,h94,h95⟩:=g5;unfold HU at g6;simp only[Bool.and_eq_true] at g6;obtain⟨h96,h97,h98,h99,h100,h101,h102,h103,h104,h105,h106,h107,h108,h109,h110,h111⟩:=g6;unfold HG at g7;simp only[Bool.and_eq_true] at g7;obtain⟨h112,h113,h114,h115,h116,h117,h118,h119,h120,h121,h122,h123,h124,h125,h126,h127⟩:=g7;unfold Hw at g8;simp only[Bool.and_eq_true] at g8;obtain⟨h128,h129,h130,h131,h132,h133,h134,h135,h136,h137,h138,h139,h140,h141,h142,h143⟩:=g8;unfold HN at g9;simp only[Bool.and_eq_true] at g9;obtain⟨h144,h145,h146,h147,h148,h149,h150,h151,h152,h153,h154,h155,h156,h157,h158,h159⟩:=g9;unfold Fe at Vi;simp only[Bool.and_eq_true] at Vi;obtain⟨h160,h161,h162,h163,h164,h165,h166,h167,h168,h169,h170,h171,h172,h173,h174,h175⟩:=Vi;have m:=λ{n:Str}{v:Value}(e:nsIn K mainGlobals n=some (some v))=>mg_of X G e;have m0:=λ{n:Str}(e:nsIn K mainGlobals n=some none)=>mg_none_of X G e;have Iq:=m0 (bq h0);have Kl:=m0 (bq h1);have M0:=m0 (bq h2);have JE:=m0 (bq h3);have JP:=m0 (bq h4);have Iz:=m0 (bq h5);have IA:=m0 (bq h6);have IT:=m0 (bq h7);have Jy:=m0 (bq h8);have Iw:=m0 (bq h9);have ID:=m0 (bq h10);have IG:=m0 (bq h11);have IZ:=m0 (bq h12);have KZ:=m0 (bq h13);have KY:=m0 (bq h14);have Iy:=m0 (bq h15);have Pa:=m (cz h16);have LA:=m (cz h17);have K0:=m (cz h18);have JF:=m (cz h19);have Jf:=m (cz h20);have K1:=m (cz h21);have JW:=m (cz h22);have IW:=m (cz h23);have JA:=m (cz h24);have K2:=m (cz h25);obtain⟨L7,JX⟩:=fO h26;have IK:=m JX;obtain⟨Lk,Jr⟩:=fO h27;have IU:=m Jr;obtain⟨Ll,Js⟩:=fO h28;have Jt:=m Js;obtain⟨Lm,Ju⟩:=fO h29;have Jv:=m Ju;obtain⟨LB,JG⟩:=fO h30;have JH:=m JG;obtain⟨YB,Vj,Ke,Jo,Kf⟩:=fV X G (ps:=["thing"]) s0 h31 λ_ _ _ _ _ _=>pR λ_=>rfl;obtain⟨YC,Vk,Vl,Pb,Vm⟩:=fV X G (ps:=["thing"]) s1 h32 λ_ _ _ _ _ _=>pR λ_=>rfl;obtain⟨YD,Vn,Vo,Pc,Vp⟩:=fV X G (ps:=["thing"]) s2 h33 λ_ _ _ _ _ _=>pR λ_=>rfl;obtain⟨YE,Vq,Vr,Pd,Vs⟩:=fV X G (ps:=["field","thing"]) s3 h34 λ_ _ _ _ _ _=>CY λ_ _=>rfl;obtain⟨YF,Vt,Vu,Pe,Vv⟩:=fV X G (ps:=["field","terms"]) s4 h35 λ_ _ _ _ _ _=>CY λ_ _=>rfl;obtain⟨YG,Vw,Vx,Pf,adf⟩:=fV X G (ps:=["term"]) s5 h36 λ_ _ _ _ _ _=>pR λ_=>rfl;obtain⟨YH,Vy,Pg,L8,Ph⟩:=fV X G (ps:=["field","terms"]) s6 h37 λ_ _ _ _ _ _=>CY λ_ _=>rfl;obtain⟨YI,Vz,Pj,L9,Pk⟩:=fV X G (ps:=["one","other"]) s7 h38 λ_ _ _ _ _ _=>CY λ_ _=>rfl;obtain⟨YJ,VA,Pl,Ma,Pn⟩:=fV X G (ps:=["top","bottom"]) s8 h39 λ_ _ _ _ _ _=>CY λ_ _=>rfl;obtain⟨YK,VB,VC,Po,VD⟩:=fV X G (ps:=["number","prime"]) s9 h40 λ_ _ _ _ _ _=>CY λ_ _=>rfl;obtain⟨VE,Pp,Pq,M1,Pr⟩:=fV X G (ps:=["field","terms"]) JY h41 λ_ _ _ _ _ _=>CY λ_ _=>rfl;obtain⟨VF,Pt,Mb,K3,Mc⟩:=fV X G (ps:=["thing"]) LY h42 λ_ _ _ _ _ _=>pR λ_=>rfl;obtain⟨VG,Pu,Pw,M3,Px⟩:=fV X G (ps:=["field","places","thing"]) Jz h43 λ_ _ _ _ _ _=>fM λ_ _ _=>rfl;obtain⟨VH,Py,Pz,M4,PB⟩:=fV X G (ps:=["field","places","part","wishes"]) KU h44 λ_ _ _ _ _ _=>EV λ_ _ _ _=>rfl;obtain⟨VI,PD,PF,M5,PH⟩:=fV X G (ps:=["field","places","uppers"]) OW h45 λ_ _ _ _ _ _=>fM λ_ _ _=>rfl;obtain⟨VJ,PJ,PL,M6,PM⟩:=fV X G (ps:=["field"]) s15 h46 λ_ _ _ _ _ _=>pR λ_=>rfl;obtain⟨VL,PN,PQ,M7,PR⟩:=fV X G (ps:=["thing","least","most"]) SQ h47 λ_ _ _ _ _ _=>fM λ_ _ _=>rfl;obtain⟨VM,PU,Md,K4,Me⟩:=fV X G (ps:=["field","many","rooms"]) SS h48 λ_ _ _ _ _ _=>fM λ_ _ _=>rfl;obtain⟨VN,PV,PY,M8,PZ⟩:=fV X G (ps:=["field","places","top"]) s18 h49 λ_ _ _ _ _ _=>fM λ_ _ _=>rfl;obtain⟨VO,P1,P2,M9,P4⟩:=fV X G (ps:=["field","many","rooms"]) s19 h50 λ_ _ _ _ _ _=>fM λ_ _ _=>rfl;obtain⟨VP,P5,P6,Na,P7⟩:=fV X G (ps:=["field","many","rooms"]) s20 h51 λ_ _ _ _ _ _=>fM λ_ _ _=>rfl;obtain⟨VQ,P8,P9,Nb,Qa⟩:=fV X G (ps:=["_law_script","_law_k"]) s21 h52 λ_ _ _ _ _ _=>CY λ_ _=>rfl;obtain⟨VR,Qb,Mf,K5,Mg⟩:=fV X G (ps:=["_law_pool_here","_law_many"]) s22 h53 λ_ _ _ _ _ _=>CY λ_ _=>rfl;obtain⟨VS,Qc,Qd,Nc,Qe⟩:=fV X G (ps:=["_law_top","_law_bottom"]) s23 h54 λ_ _ _ _ _ _=>CY λ_ _=>rfl;obtain⟨VT,Qf,K6,Kg,K7⟩:=fV X G (ps:=["_law_prime_here","_law_top","_law_bottom"]) s24 h55 λ_ _ _ _ _ _=>fM λ_ _ _=>rfl;obtain⟨VU,Qg,Qh,Nd,Qi⟩:=fV X G (ps:=["_law_prime_here","_law_one","_law_other"]) SN h56 λ_ _ _ _ _ _=>fM λ_ _ _=>rfl;obtain⟨VV,Qj,Qk,Nf,Ql⟩:=fV X G (ps:=["_law_prime_here","_law_one","_law_other"]) s26 h57 λ_ _ _ _ _ _=>fM λ_ _ _=>rfl;obtain⟨VW,Qm,Qn,Ng,Qo⟩:=fV X G (ps:=["_law_pool_here"]) s27 h58 λ_ _ _ _ _ _=>pR λ_=>rfl;obtain⟨VX,Qp,Qq,Nh,YL⟩:=fV X G (ps:=["_law_row"]) s28 h59 λ_ _ _ _ _ _=>pR λ_=>rfl;obtain⟨VY,Qr,K8,Kh,K9⟩:=fV X G (ps:=["_law_prime_here","_law_terms"]) s29 h60 λ_ _ _ _ _ _=>CY λ_ _=>rfl;obtain⟨VZ,Qs,Qt,Ni,Qu⟩:=fV X G (ps:=["_law_prime_here","_law_one","_law_other"]) s30 h61 λ_ _ _ _ _ _=>fM λ_ _ _=>rfl;obtain⟨V0,Qv,Qw,Nj,Qx⟩:=fV X G (ps:=["_law_terms"]) s31 h62 λ_ _ _ _ _ _=>pR λ_=>rfl;obtain⟨V1,Qy,Qz,Nk,QA⟩:=fV X G (ps:=["_law_prime_here","_law_places","_law_noughts","_law_degree_here","_law_sums"]) s32 h63 λ_ _ _ _ _ _=>GK λ_ _ _ _ _=>rfl;obtain⟨V2,QB,QC,Nl,QD⟩:=fV X G (ps:=["_law_prime_here","_law_many","_law_rooms"]) s33 h64 λ_ _ _ _ _ _=>fM λ_ _ _=>rfl;obtain⟨V3,QE,QF,Nn,QG⟩:=fV X G (ps:=["_law_system","_law_prime_here","_law_places","_law_ones"]) s34 h65 λ_ _ _ _ _ _=>EV λ_ _ _ _=>rfl;obtain⟨V4,QH,QI,Np,QJ⟩:=fV X G (ps:=["_law_field","_law_many","_law_rooms"]) OX h66 λ_ _ _ _ _ _=>fM λ_ _ _=>rfl;obtain⟨V5,QK,QL,Nq,QM⟩:=fV X G (ps:=["_law_prime_here","_law_many","_law_rooms"]) Li h67 λ_ _ _ _ _ _=>fM λ_ _ _=>rfl;obtain⟨Nr,Mh,YM,Nt,YN⟩:=fV X G (ps:=["_law_script"]) O0 h68 λ_ _ _ _ _ _=>pR λ_=>rfl;obtain⟨YO,V6,QN,QO,adg,adh⟩:=pB (ps:=["self"]) s38 h69 h70 λ_ _ _ _ _ _=>pR λ_=>rfl;obtain⟨YQ,V7,QP,QQ,adi,adj⟩:=pB (ps:=["self"]) OY h71 h72 λ_ _ _ _ _ _=>pR λ_=>rfl;obtain⟨YR,V8,QR,QS,adk,adl⟩:=pB (ps:=["self"]) s40 h73 h74 λ_ _ _ _ _ _=>pR λ_=>rfl;obtain⟨YS,V9,Wa,Wc,adm,adn⟩:=pB (ps:=["self","number"]) s41 h75 h76 λ_ _ _ _ _ _=>CY λ_ _=>rfl;obtain⟨YT,Wd,We,Wf,ado,adp⟩:=pB (ps:=["self","filling"]) s42 h77 h78 λ_ _ _ _ _ _=>CY λ_ _=>rfl;obtain⟨YU,Wg,QT,adq,QU,QV⟩:=pB (ps:=["self","other"]) s43 h79 h80 λ_ _ _ _ _ _=>CY λ_ _=>rfl;obtain⟨YV,Wh,QW,QX,ads,adt⟩:=pB (ps:=["self","one","other"]) s44 h81 h82 λ_ _ _ _ _ _=>fM λ_ _ _=>rfl;obtain⟨YW,Wi,Wj,Wk,adu,adv⟩:=pB (ps:=["self","one","other"]) s45 h83 h84 λ_ _ _ _ _ _=>fM λ_ _ _=>rfl;obtain⟨YX,Wl,QY,QZ,adw,adx⟩:=pB (ps:=["self","top","bottom"]) LZ h85 h86 λ_ _ _ _ _ _=>fM λ_ _ _=>rfl;obtain⟨YY,Wm,Q0,Q1,ady,adz⟩:=pB (ps:=["self","thing"]) O9 h87 h88 λ_ _ _ _ _ _=>CY λ_ _=>rfl;obtain⟨YZ,Wn,Wo,Wq,adA,adB⟩:=pB (ps:=["self"]) Lj h89 h90 λ_ _ _ _ _ _=>pR λ_=>rfl;obtain⟨Y0,Wr,Q2,Q3,adC,adD⟩:=pB (ps:=["self","top","bottom"]) s49 h91 h92 λ_ _ _ _ _ _=>fM λ_ _ _=>rfl;obtain⟨Y1,Ws,Wt,Wu,adE,adF⟩:=pB (ps:=["self","one","other"]) s50 h93 h94 λ_ _ _ _ _ _=>fM λ_ _ _=>rfl;obtain⟨Y2,Wv,Ww,Wx,adG,adH⟩:=pB (ps:=["self"]) s51 h95 h96 λ_ _ _ _ _ _=>pR λ_=>rfl;obtain⟨Y3,Wy,Q4,Q5,adI,adJ⟩:=pB (ps:=["self"]) s52 h97 h98 λ_ _ _ _ _ _=>pR λ_=>rfl;obtain⟨Y5,Wz,Q6,Q7,adK,adL⟩:=pB (ps:=["self"]) s53 h99 h100 λ_ _ _ _ _ _=>pR λ_=>rfl;obtain⟨Y6,WA,WB,WC,adM,adN⟩:=pB (ps:=["self"]) s54 h101 h102 λ_ _ _ _ _ _=>pR λ_=>rfl;obtain⟨Q8,Q9⟩:=gM s55 h103 h105;have WD:=h104;have adO:L2.Meth K _ "__init__" _:=⟨Q8,h104,Q9.keep⟩;obtain⟨Y7,Nu⟩:=Q9.fn;obtain⟨adP,adQ,adR,Mi,Mj,Ra⟩:=fH h106;obtain⟨Rb,Rc⟩:=gM s56 h107 h109;have WE:=h108;have adS:L2.Meth K _ "__init__" _:=⟨Rb,h108,Rc.keep⟩;obtain⟨Y8,Rf⟩:=Rc.fn;obtain⟨adT,adU,adV,Rg,Rh,Ri⟩:=fH h110;obtain⟨WG,Rj⟩:=gM KS h111 h113;have adW:=h112;have Nv:L2.Meth K _ "made" _:=⟨WG,h112,Rj.keep⟩;obtain⟨Y9,Rk⟩:=Rj.fn;obtain⟨adX,adY,adZ,Rl,Rm,Rn⟩:=fH h114;obtain⟨Ro,Rp⟩:=gM O3 h115 h117;have WH:=h116;have ad0:L2.Meth K _ "__init__" _:=⟨Ro,h116,Rp.keep⟩;obtain⟨Za,Rq⟩:=Rp.fn;obtain⟨ad1,ad2,ad3,Rr,Ru,Rv⟩:=fH h118;have WI:=hfa.symm.trans Nt
 cases WI
 obtain⟨WJ,Rw⟩:=gM s59 h119 h120;have Rx:=m WJ;have WK:=Rw.keep;obtain⟨Zb,Ry⟩:=Rw.fn;obtain⟨ad4,ad5,ad6,Rz,RA,RB⟩:=fH h121;have RC:=Hd.abh RB;subst RC;have WM:=Ia Ry Rz RA;have RD:=jT Ra;subst RD;obtain⟨ad7,RE⟩:=iV Ri;subst RE;obtain⟨ad8,RF⟩:=iV Rn;subst RF;have RG:=jT Rv;subst RG;have Zc:=CG Nu Mi Mj;have WN:=Az Nu Mi Mj;have Zd:=Fp Rf Rg Rh;have Nw:=B9 Rk Rl Rm;have WO:=Ar Rq Rr Ru;have N:GP mg:=⟨Iq,Kl,M0⟩;have cF:vR K mg (ga K "Field"):=⟨⟨h122,h123,h124,cB h125⟩,bq h126,LA,(Bool.and_eq_true_iff.mpr h127),cB h128,cB h129,cP h130,cP h131⟩;have c:Hf K mg (ga K "Sum"):=⟨⟨h132,h133,h134,cB h135⟩,bq h136,bq h137,Pa⟩;have cQ:D8 K mg (ga K "Sum"):=⟨c,(Bool.and_eq_true_iff.mpr h138),cB h139,cB h129,cP h130,cP h140⟩;have cS:Hi K mg (ga K "System"):=⟨⟨h141,h142,h143,cB h144⟩,bq h145,bq h146,bq h147,bq h148,K0,(Bool.and_eq_true_iff.mpr h149),cB h150,cB h129,cP h130,cP h151⟩;have hP:=uC h152;have RS:Cf K mg _ _ _ _:=⟨⟨h153,cB h154,bq h155,cB h156,cP h157,cP h158⟩,cP h159,JF,Jf,JA,K1,JE,cP h160,cP h161,cP h162,cP h163,cP h164⟩;refine⟨Nr,λs v=>?_,λbase _ _ BT=>?_⟩
 ·obtain⟨oc,od,kV,doc,pm,an,Iv,ct,IQ,rfl,lk,Jp⟩:=Mh.ex;exact .of_eq rfl
 have Ki:=xJ (P:=l.prog) (w:=w) (base:=base) Vj N;have WQ:=rD (P:=l.prog) (w:=w) (base:=base) (mg:=mg) VB;have RH:=Dc (P:=l.prog) (w:=w) (base:=base) Vz JP;have RI:=v9 VA RH Pj L9 Pk;have RJ:=rY Wl cF IK RI Pl Ma Pn;have RK:=zM Wh cF RJ QY QZ;have WR:=xO Wi cF RJ QY QZ;have RL:=Ak Wr cF IK IW h166 RI Pl Ma Pn WQ VC Po VD;have WS:=E1 Ws cF RL Q2 Q3;have Nx:=Ba Rk cF IW h166 RL Q2 Q3 Ki Ke Jo Kf;have RM:=A3 Rf cF Ki Ke Jo Kf IK K2 hP JA h165;have RN:=pC Wm cF IK N IA Iz RH Pj L9 Pk Ki Ke Jo Kf;have RO:=EE (P:=l.prog) (w:=w) (base:=base) Wg cF N;have WT:=yg (P:=l.prog) (w:=w) (base:=base) Wn cF;have WU:=yc Vk IU Ki Ke Jo Kf;have WV:=qK Vn Iq IA IT Jy WU Vl Pb Vm;have Ml:=AS Pt Iq IA IT Ki Ke Jo Kf;have WW:=Ai Vq cF Iq IA Iz WV Vo Pc Vp RN Q0 Q1;have WY:=sj (P:=l.prog) (w:=w) (base:=base) Vw Iz;have WZ:=qQ Vt Iq Iw ID WW Vr Pd Vs;have RP:=AV Vy cF IG RK QW QX WY Vx Pf;have Ny:=xG Nu c RP Pg L8 Ph WZ Vu Pe Vv;have W0:L2.Mk K _ _:=⟨h170,Q8,WD,h171⟩;have Ze:L2.Mk K _ _:=⟨h172,Rb,WE,h173⟩;have MkY:L2.Mk K _ _:=⟨h174,Ro,WH,h175⟩;have RQ:=xM Pp c W0 Ny WN RP Pg L8 Ph;have RT:=vA (P:=l.prog) (w:=w) (base:=base) (CF:=ga K "Field") V6 c;have RU:=vY (P:=l.prog) (w:=w) (base:=base) (CF:=ga K "Field") V7 c Iw;have RV:=xi (P:=l.prog) (w:=w) (base:=base) V8 c IZ;have W2:=vt V9 cQ cF IW h166 RN Q0 Q1 WR Wj Wk RQ Pq M1 Pr;have W3:=wu Wd c cF Iz IT Ml Mb K3 Mc RV QR QS Nx Nw Nv RK QW QX JW h167;have RW:=Co Pu cQ cF Iq RO QT QU QV RT QN QO RV QR QS;have RX:=D5 Py Iq Iw ID Iz Jt RW Pw M3 Px;have RY:=EU (P:=l.prog) (w:=w) (base:=base) (mg:=mg) PD;have W4:=E8 Rq cS cF Iq IU Ki Ke Jo Kf RX Pz M4 PB RY PF M5 PH;have W5:=Fb (P:=l.prog) (w:=w) (base:=base) (CF:=ga K "Field") Wv cS;have RZ:=Fo (P:=l.prog) (w:=w) (base:=base) (CF:=ga K "Field") Wy cS;have R0:=Fx (P:=l.prog) (w:=w) (base:=base) (CF:=ga K "Field") Wz cS Iw;have W6:=E9 (P:=l.prog) (w:=w) (base:=base) (CF:=ga K "Field") WA cS Iw;have W7:=Fn Ry cS c Iz Ml Mb K3 Mc RZ Q4 Q5 R0 Q6 Q7 W3 We Wf;have R4:=ET (P:=l.prog) (w:=w) (base:=base) PJ cF Iq;have R5:=EO PN Ki Ke Jo Kf;have Mm:=EI PU Jv JH R4 PL M6 PM R5 PQ M7 PR;have R6:=E7 PV cF c W0 Nx Nw Nv Ny Zc;have R7:=E4 P1 cS MkY Iy Iw Mm Md K4 Me R6 PY M8 PZ W4 WO;have R8:=Ff P5 cF c W0 Jf h168 Mm Md K4 Me Nx Nw Nv WS Wt Wu Ny Zc W2 Wa Wc;have R9:=A2 (P:=l.prog) (w:=w) (base:=base) P8 Iz;have Mn:=Ab (P:=l.prog) (w:=w) (base:=base) (mg:=mg) Qb;have Sa:=AB (P:=l.prog) (w:=w) (base:=base) Qc JP;have La:=A7 Qf Iy Sa Qd Nc Qe;have Sb:=wF Qg La K6 Kg K7;have Sd:=vW Qj La K6 Kg K7;have Se:=vX Qm Mn Mf K5 Mg;have Sf:=Eh (P:=l.prog) (w:=w) (base:=base) Qp Iz;have Lb:=wD Qr IG Sb Qh Nd Qi Sf Qq Nh;have Sg:=zg Qs IA IG KY Sd Qk Nf Ql Lb K8 Kh K9;have Sh:=Ey (P:=l.prog) (w:=w) (base:=base) Qv IZ Iz;have Si:=EZ Qy cF c Iq Iw Iz Jy RU QP QQ RT QN QO WT Wo Wq Sh Qw Nj Qx Sg Qt Ni Qu Lb K8 Kh K9;have Sj:=ES QB Iy La K6 Kg K7 Lb K8 Kh K9;have Sk:=Fq QE cS cF c Iq W5 Ww Wx RZ Q4 Q5 R0 Q6 Q7 W6 WB WC RU QP QQ RO QT QU QV (cB h169) Ze RM Zd;have Sl:=Ew QH Iq Iw RS R8 P6 Na P7;have Sm:=Eo QK cF Iq Iw Iy IA Kl Ze RM Zd Sj QC Nl QD R7 P2 M9 P4 Sk QF Nn QG Sl QI Np QJ Si Qz Nk QA W7 WM Rx WK;exact Dz Mh Iy IZ KZ Iz R9 P9 Nb Qa Se Qn Ng Qo Mn Mf K5 Mg Sm QL Nq QM
theorem walk {l:OpenLaw}{q:yn}{loose:zX}{XP:(Str->Option Value)->Heap->Prop}{d:DefRec}(hn:l.most=some 63)(Oh:d.params.defaults=[])(hd:d.name="law"):
 WalkO q loose XP xh l.row.toRowW d [] (λf vs=>PySem.call f vs):=by
 refine Hd.vy (n:=63) (k:=13) (x:="_law_script") (CX:=λw=>aU l.prog w) (sp:=λK=>w6 K) (φ:=λK=>qB K=vI) (tabs:=λK=>[]) hn (by decide) Oh ⟨rfl,by decide,by decide,rfl⟩ (λw h y=>y) ?_ (λw K mg fa h o X G e=>rn o X G (by rw[<-hd];exact e)) ?_ ?_
 ·intro w s₀ mg mb h K o Gr KX;exact⟨λr NW=>(nomatch NW),λr NW=>(nomatch NW)⟩
 ·intro K H a ns hl hO hS;refine⟨a,ns,rfl,?_,hl,λ_=>rfl⟩
  rcases hS with(hS|⟨o,hS⟩)|hS
  ·rcases hO.1 a with z|⟨o,xs,z⟩|⟨z,_⟩
   ·rw[z] at hS;cases hS
   ·rw[z] at hS;cases hS
   ·rw[z] at hS;cases hS
  ·exact .inl ⟨o,hS⟩
  ·exact .inr hS
 ·intro w H s e s' z;obtain⟨a,cls,a0,B,d,H',_,_,_,_,hE⟩:=z;exact hE.elim
end K73
open PySem PySem.W PyProof.Rows
set_option maxRecDepth 100000 in
set_option maxHeartbeats 0 in
theorem PySem.Challenge.cw_falsesums_k73_whole_guests_and_rooms_holds : PySem.Challenge.rw_falsesums_k73_whole_guests_and_rooms.Holds := by
 refine PySem.W.holds_law K73.sd1 λaea=>?_
 refine PySem.W.holds_open (r:=PySem.Challenge.rw_falsesums_k73_whole_guests_and_rooms.row) (q:=K73.c5) (loose:=["Field","STEP","is_filling"]) (Xt:=λs=>xlAt K73.c5 K73.lv s&&recOk (PySem.Challenge.rw_falsesums_k73_whole_guests_and_rooms.row.toRowW).records s) (XP:=XL K73.c5 K73.lv)
  (Yf:=λs=>K73.qB (Hd.wj K73.rL s.heap)) (Ya:=λ_=>K73.vI) (YP:=K73.xh) (N:=10656) ?hl K73.zG K73.sg (λs e=>xl_of s (Bool.and_eq_true_iff.mp e).1) XL.keeps (by rfl) (by rfl) (by rfl) (λs e=>recFacts_of (Bool.and_eq_true_iff.mp e).2) (by rfl) (by assumption) (by decide +kernel) K73.sd3 ?hw ?hc
 case hw=>w_witness2
 case hl =>
  refine Hd.aai λw=>?_;obtain⟨⟨h,s⟩,e,e0⟩:=Option.map_eq_some_iff.mp (K73.ran0 w)
  injection e0 with yk1 e0_0
  injection e0_0 with yk2 e0_1
  injection e0_1 with yB2 e0_2
  have e1:=Hd.at_ (K73.ran1 w) e
  injection e1 with yA1 e1_0
  have e2:=Hd.at_ (K73.ran2 w) e
  injection e2 with yA3 e2_0
  have e3:=Hd.at_ (K73.ran3 w) e;have e4:=Hd.at_ (K73.ran4 w) e
  injection e4 with yC2 e4_0
  have e5:=Hd.at_ (K73.ran5 w) e;have e6:=Hd.at_ (K73.ran6 w) e
  injection e6 with yC4 e6_0
  injection e6_0 with yC6 e6_1
  have e7:=Hd.at_ (K73.ran7 w) e;have e8:=Hd.at_ (K73.ran8 w) e
  injection e8 with yA4 e8_0
  injection yk2 with z1 z2
  injection z2 with z2 z3
  exact⟨h,s,e,yk1,⟨z1,z2,z3⟩,yA1,yA3,yA4,e6_1,e3,yB2,e0_2,e1_0,e2_0,e8_0,yC2,e5,yC4,e7,yC6,((congrArg K73.qB (Hd.aaM _ _)).trans e4_0)⟩
 case hc=>exact K73.walk rfl rfl rfl
