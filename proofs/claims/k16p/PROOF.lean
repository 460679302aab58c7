import PyProof.Rows.All
import Wide.All
import OpenK.AllK
import Wide.FinOn
import Lean
import PyProof.EqAt
import PyProof.EqKinds
import PyProof.TupleCall
import PyProof.NeKinds
import KE.LcSums
import KE.KPairComp
import PyProof.EnumMake
import PyProof.EnumFor
import PyProof.ZipIter
import PyProof.Draws
import KE.KSortTup
import PyProof.Rows.SortWalk
import PyProof.Rows.MinMaxN
import PyProof.Rows.SetFrom
import PyProof.WalkInts
import KE.KSortKey
import KE.KRevSl
import KE.KCallOwn
import PyProof.Rows.FStr
import PyProof.Rows.StrJoin2
import PyProof.StrLaws
import PyProof.Rows.StrIntSpec
import PyProof.Conv_bool
import PyProof.SeqRoads2
import PyProof.ListRange
import PyProof.Rows.TupAdd
import PyProof.ReprRoads
import PyProof.Rows.RegStrFacts
import PySem.Challenge.RW_falsesums_k16_what_is_a_system
set_option Elab.async false
set_option linter.all false
set_option maxRecDepth 100000
abbrev wA:=PySem.Value->PySem.Shared->Prop
abbrev vJ:=PySem.Str->Option PySem.Value
abbrev GH:=PySem.Shared
abbrev GF:=PySem.FuncData
abbrev wM:=PySem.Program
abbrev vV:=Option PySem.Value
abbrev oH:=List PySem.Value
abbrev BU:=Array PySem.Value
abbrev Bl:=List PySem.Expr
abbrev xQ:=List PySem.Str
abbrev p5:=Option PySem.Addr
abbrev Ff:=Array (Option PySem.Value)
abbrev vq:List PySem.Str:=["thing"]
abbrev qR:List PySem.Str:=["self","other"]
abbrev ES:List PySem.Str:=["self","field","places","noughts","uppers"]
abbrev Eh:List PySem.Str:=["_law_room_here","_law_many"]
abbrev GD:List PySem.Str:=["field","terms"]
abbrev vX:List PySem.Str:=["self","field","terms"]
abbrev Fx:List PySem.Str:=["number"]
abbrev Fp:List PySem.Str:=["self","part","number"]
abbrev GI:List PySem.Str:=["_law_room_here","_law_things","_law_far"]
abbrev AU:List PySem.Str:=["one","other"]
abbrev zJ:List PySem.Str:=["_law_one","_law_things"]
abbrev wJ:List PySem.Str:=["field","places","part","wishes"]
abbrev zD:List PySem.Str:=["self","prime"]
abbrev Fz:List PySem.Str:=["self","top","bottom"]
abbrev FD:List PySem.Str:=["self","one","other"]
abbrev vv:List PySem.Str:=["_law_room_here","_law_prime_here"]
abbrev qU:List PySem.Str:=["field","thing"]
abbrev qd:List PySem.Str:=["field","places","thing"]
abbrev qD:List PySem.Str:=["field","places","uppers"]
abbrev CR:List PySem.Str:=["_law_room_here","_law_many","_law_share"]
abbrev EZ:List PySem.Str:=["top","bottom"]
abbrev Bm:List PySem.Str:=["_law_top","_law_base"]
abbrev vi:List PySem.Str:=["self","thing"]
abbrev zC:List PySem.Str:=["names","product","number"]
abbrev p6:List PySem.Str:=["names","terms"]
abbrev Eu:List PySem.Str:=["_law_script","_law_k"]
abbrev zF:List PySem.Str:=["_law_room_here","_law_prime_here","_law_many","_law_most"]
abbrev BF:List PySem.Str:=["_law_field","_law_many","_law_lows","_law_highs"]
namespace L2
open PySem
theorem m9:(1:Nat)<=sizeLine:=by decide
theorem d9:(2:Nat)<=sizeLine:=by decide
theorem Fg:(3:Nat)<=sizeLine:=by decide
theorem lX:(4:Nat)<=sizeLine:=by decide
theorem aak:(6:Nat)<=sizeLine:=by decide
noncomputable def aL (s:Stmt)(j:Nat):Stmt:=match s with
 | .ClassDef _ _ _ body _ _ _ _ _ _ _=>body.getD j (.Pass ⟨0,0,0,0⟩)
 |_=>.Pass ⟨0,0,0,0⟩
noncomputable def cP (s:Stmt):Arguments:=match s with
 | .FunctionDef _ a _ _ _ _ _ _ _ _=>a
 |_=>{posonlyargs:=[],args:=[],vararg:=none,kwonlyargs:=[],kw_defaults:=[],kwarg:=none,defaults:=[]}
noncomputable def cu (s:Stmt):List Stmt:=match s with
 | .FunctionDef _ _ b _ _ _ _ _ _ _=>b
 |_=>[]
noncomputable def ar (s:Stmt):Scope:=match s with
 | .FunctionDef _ _ _ _ _ _ sc _ _ _=>sc
 |_=>{kind:=.function,names:=[],isGenerator:=false,isCoroutine:=false}
end L2
namespace Hd
open PySem PySem.W PyProof.Rows
noncomputable def wc (as:List Addr)(h:Heap):Frag:=as.filterMap λa=>(h.get? a).map λo=>(a,o)
theorem nY (h:Heap):∀as:List Addr,(wc as h).In h
 |[],a,o,e=>by cases e
 |b::as,a,o,e=>by
  unfold wc at e;rw[List.filterMap_cons] at e
  cases q:h.get? b with
  |none =>
   rw[q] at e;exact nY h as a o e
  |some u =>
   rw[q] at e;dsimp only[Option.map_some] at e;rw[List.lookup_cons] at e
   by_cases z:a=b
   ·subst z;simp only[beq_self_eq_true] at e;rw[q];exact e
   ·have:(a==b)=false:=by simpa using z
    simp only[this] at e;exact nY h as a o e
noncomputable abbrev rd:=Str×Str×Arguments×FuncBody×Scope×Addr×List (Str×Addr)×Value×Addr
noncomputable def Bb (fd:GF):rd:=(fd.name,fd.qualname,fd.params,fd.body,fd.scope,fd.globals,fd.closure,fd.defaults,fd.builtins)
noncomputable def pS (K:Frag)(v:Option (Option Value)):Option FuncData:=match v with
 |some (some (.ref f))=>(match K.lookup f with
  |some ⟨_,_,.func fd,_⟩=>some fd
  |_=>none)
 |_=>none
noncomputable def aU (K:Frag)(v:Option (Option Value)):Option rd:=(pS K v).map Bb
noncomputable def cZ (x qual:Str)(st:Stmt):Option rd:=some (x,qual,L2.cP st,.stmts (L2.cu st),L2.ar st,mainGlobals,[],.none,builtinsNs)
noncomputable def cy (v:Option (Option Value)):Addr:=match v with
 |some (some (.ref a))=>a
 |_=>0
noncomputable def fk (v:Option (Option Value)):Bool:=match v with
 |some (some (.ref _))=>true
 |_=>false
variable {v:Option (Option Value)}
theorem cB (h:fk v=true):v=some (some (.ref (cy v))):=by
 unfold fk at h
 split at h
 ·rfl
 ·cases h
noncomputable def cJ (v:Option (Option Value)):Bool:=match v with
 |some none=>true
 |_=>false
theorem aW (h:cJ v=true):v=some none:=by
 unfold cJ at h
 split at h
 ·rfl
 ·cases h
noncomputable def cX (K:Frag)(v:Option (Option Value))(qual:Str):Bool:=keepIn K (.ref (cy v))&&(match pS K v with
 |some fd=>codeIn K fd.code qual
 |none=>false)
noncomputable abbrev gv (K:Frag)(x:Str):Option (Option Value):=nsIn K mainGlobals x
noncomputable abbrev ga (K:Frag)(x:Str):Addr:=cy (nsIn K mainGlobals x)
noncomputable abbrev fv (K:Frag)(c x:Str):Option (Option Value):=findIn K (.ref (cy (nsIn K mainGlobals c))) x
noncomputable def ia (K:Frag)(v:Option (Option Value)):Option rd:=(pS K v).map λfd=>Bb {fd with defaults:=.none}
noncomputable def zr (K:Frag)(v:Option (Option Value)):Value:=match pS K v with
 |some fd=>fd.defaults
 |none=>.none
noncomputable def oz (K:Frag)(v:Option (Option Value)):Addr:=match zr K v with
 | .ref a=>a
 |_=>0
noncomputable def rW (K:Frag)(v:Option (Option Value)):Bool:=match zr K v with
 | .ref _=>true
 |_=>false
noncomputable def rM (K:Frag)(T:Addr)(p:Value->Bool):Bool:=match K.lookup T with
 |some o=>(match o.data with
  | .seq a _=>(match a.toList with
    |[v]=>p v
    |_=>false)
  |_=>false)
 |none=>false
theorem iM {K:Frag}{T:Addr}{p:Value->Bool}(h:rM K T p=true):∃o v n,K.lookup T=some o/\o.data=.seq #[v] n/\p v=true:=by
 unfold rM at h
 split at h
 ·rename_i o ho
  split at h
  ·rename_i a n hd
   split at h
   ·rename_i v hv
    have:a = #[v]:=by rw[<-Array.toArray_toList (xs:=a),hv]
    subst this;exact⟨o,v,n,ho,hd,h⟩
   ·cases h
  ·cases h
 ·cases h
noncomputable def C1 (n:Int)(v:Value):Bool:=match v with
 | .int i _=>i==n
 |_=>false
theorem lN {n:Int}{v:Value}(h:C1 n v=true):∃t,v=.int n t:=by
 unfold C1 at h
 split at h
 ·rename_i i t
  have:i=n:=by simpa using h
  exact⟨t,by rw[this]⟩
 ·cases h
noncomputable def uV (v:Value):Bool:=match v with
 | .none=>true
 |_=>false
theorem jN {v:Value}(h:uV v=true):v=.none:=by
 unfold uV at h
 split at h
 ·rfl
 ·cases h
noncomputable def oZ (v:Option (Option Value))(n:Int):Bool:=match v with
 |some (some u)=>C1 n u
 |_=>false
theorem fP {n:Int}(h:oZ v n=true):∃t,v=some (some (.int n t)):=by
 unfold oZ at h
 split at h
 ·obtain⟨t,rfl⟩:=lN h;exact⟨t,rfl⟩
 ·cases h
noncomputable def uA:List Value->List Int->Bool
 |[],[]=>true
 |v::vs,n::ns=>C1 n v&&uA vs ns
 |_,_=>false
noncomputable def wQ (K:Frag)(a:Addr)(ns:List Int):Bool:=match K.lookup a with
 |some o=>(match o.cls with
  | .type T=>T == "tuple"
  |_=>false)&&(match o.data with
  | .seq its _=>uA its.toList ns&&decide (its.size<=sizeLine)
  |_=>false)
 |none=>false
noncomputable def gU (v:Option (Option Value))(s:String):Bool:=match v with
 |some (some (.builtin t))=>t==s
 |_=>false
theorem cg {s:String}(h:gU v s=true):v=some (some (.builtin s)):=by
 unfold gU at h
 split at h
 ·rename_i t
  have:t=s:=by simpa using h
  rw[this]
 ·cases h
noncomputable def lW (v:Option Bool)(b:Bool):Bool:=match v with
 |some c=>c==b
 |none=>false
theorem cU {v:Option Bool}{b:Bool}(h:lW v b=true):v=some b:=by
 unfold lW at h
 split at h
 ·rename_i c
  have:c=b:=by simpa using h
  rw[this]
 ·cases h
noncomputable def Ae:List Obj->BT->Nat->Option BT
 |[],t,_=>some t
 |o::os,t,n=>match ((t.ins n o).get n).isSome with
  |true=>Ae os (t.ins n o) (n+1)
  |false=>none
theorem tK (life:Life):∀(os:List Obj)(t t':BT)(n:Nat),Ae os t n=some t'->(absHeap t' (n+os.length) life).objs=(absHeap t n life).objs++os.toArray
 |[],t,t',n,h=>by
  cases h
  simp
 |o::os,t,t',n,h=>by
  unfold Ae at h
  cases q:((t.ins n o).get n).isSome with
  |false=>rw[q] at h;cases h
  |true =>
   rw[q] at h;have e:=tK life os _ _ _ h;rw[absHeap_ins q] at e
   have:n+1+os.length=n+(o::os).length:=by simp only[List.length_cons];omega
   rw[this] at e;rw[e];show((absHeap t n life).objs.push o)++os.toArray=_;rw[<-Array.append_singleton,Array.append_assoc];simp
noncomputable def EN (s:GH):Option SharedT:=(Ae s.heap.objs.toList .nil 0).map λt=>⟨t,s.heap.objs.size,s.heap.life,s.gens,s.drawn,s.toks,s.os⟩
theorem aab {s:GH}{x:SharedT}(h:EN s=some x):x.abs=s:=by
 unfold EN at h;obtain⟨t,e,rfl⟩:=Option.map_eq_some_iff.mp h;have g:=tK s.heap.life _ _ _ _ e;obtain⟨⟨objs,life⟩,gens,drawn,toks,os⟩:=s
 have z:absHeap t objs.size life=⟨objs,life⟩:=by
  have a:(absHeap t objs.size life).objs=objs:=by
   have l:0+objs.toList.length=objs.size:=by simp
   rw[l] at g;rw[g];simp[absHeap,BT.list]
  exact congrArg (Heap.mk · life) a
 show Shared.mk _ _ _ _ _=_;rw[z]
noncomputable def jM (tb:String->Option Builtin)(p:wM)(w:World)(n₀:Nat)(ann:vV):Nat->SharedT->Thread->Option SharedT
 |0,_,_=>none
 |n+1,s,t=>match through t with
  |true=>some s
  |false=>match stepOk n₀ ann t with
   |false=>none
   |true=>match stepT (denote tb) p w s t with
    |some (s',t')=>jM tb p w n₀ ann n s' t'
    |none=>none
section
variable {tb:String->Option Builtin}{p:wM}{w:World}{n₀:Nat}{ann:vV}
theorem jW:∀{n:Nat}{s s':SharedT}{t:Thread},jM tb p w n₀ ann n s t=some s'->topRun tb p w n₀ ann n s.abs t=some s'.abs
 |0,_,_,_,h=>by cases h
 |n+1,s,s',t,h=>by
  unfold jM at h;unfold topRun
  cases he:through t with
  |true=>rw[he] at h;cases h;rfl
  |false =>
   rw[he] at h
   cases hk:stepOk n₀ ann t with
   |false=>rw[hk] at h;cases h
   |true =>
    rw[hk] at h
    cases hs:stepT (denote tb) p w s t with
    |none=>rw[hs] at h;cases h
    |some r=>obtain⟨s₂,t₂⟩:=r;rw[hs] at h;rw[stepT_spec hs];exact jW h
end
noncomputable def kM (tb:String->Option Builtin)(p:wM)(w:World)(N:Nat)(s₀:GH):Option SharedT :=
 match s₀.heap.isNs mainGlobals&&s₀.gens.size==0 with
 |true=>(EN s₀).bind λx=>(jM tb p w s₀.heap.objs.size (s₀.heap.nsMap mainGlobals "__annotations__") N x (topStub p)).bind λs₁=>match staticsOk (importedModules p.main.body) s₀.heap s₁.abs.heap&&namesBound p s₁.abs.heap&&gensDone s₁.abs&&laidKept s₀.heap s₁.abs.heap with
  |true=>some s₁
  |false=>none
 |false=>none
variable {p:wM}{N:Nat}
theorem aad {tb:String->Option Builtin}{w:World}{s:GH}{y:SharedT}(h:kM tb p w N s=some y):topFrom tb p w N s=some y.abs:=by
 unfold kM at h;unfold topFrom
 cases q:(s.heap.isNs mainGlobals&&s.gens.size==0) with
 |false=>rw[q] at h;cases h
 |true =>
  rw[q] at h;obtain⟨x,ex,h⟩:=Option.bind_eq_some_iff.mp h;obtain⟨z,ez,h⟩:=Option.bind_eq_some_iff.mp h;have e:=jW ez;rw[aab ex] at e;dsimp only;rw[e];show(match (staticsOk (importedModules p.main.body) s.heap z.abs.heap&&namesBound p z.abs.heap&&gensDone z.abs&&laidKept s.heap z.abs.heap) with|true=>some z.abs|false=>none)=_
  split at h
  ·cases h
   rename_i q2
   simp only[q2]
  ·cases h
noncomputable def bH (tb:String->Option Builtin)(p:wM)(w:World)(N:Nat):Option SharedT:=(fencedOpening tb p w N).bind (kM tb p w N)
theorem abA {tb:String->Option Builtin}{w:World}{y:SharedT}(h:bH tb p w N=some y):openEnds tb p w N=some y.abs:=by
 unfold bH at h;unfold openEnds;obtain⟨s,e,h⟩:=Option.bind_eq_some_iff.mp h;rw[e];exact aad h
theorem aae {q:wM}{loose:xQ}{Xt:Shared->Bool}{α:Type}{Yf:Shared->α}{Ya:World->α}
 (h1:∀w,(bH treeTable p w N).map (λs=>openSeen q loose (importedModules p.main.body) Xt true s.abs)=some (openGood q loose))
 (h2:∀w,(bH treeTable p w N).map (λs=>Yf s.abs)=some (Ya w)):LeftO p q loose Xt Yf Ya N:=λw=>by
 obtain⟨y,e,z⟩:=Option.map_eq_some_iff.mp (h1 w);have z2:=h2 w;rw[e] at z2;rw[abA e];show some (_,_)=_;have z3:Yf y.abs=Ya w:=Option.some.inj z2;rw[z,z3]
section
variable {p q:wM}{loose mods:xQ}{Xt:Shared->Bool}{α:Type}{Yf:Shared->α}{Ya:World->α}{N:Nat}
noncomputable abbrev qj (q:wM)(s:GH):=(seen ((recsOf q).map (·.name)) (ownsOf q) [] {s with gens:=#[]},s.heap.bltView)
noncomputable abbrev pP (q:wM)(loose mods:xQ)(Xt:Shared->Bool)(s:GH):Bool :=
 s.heap.keysOk (looseW q loose) ((recsOf q).map (·.name)) ((litsOf q).map (·.1)) ((clssOf q (looseW q loose)).map (·.name))&&s.heap.accountedOkI mods&&s.heap.isNs mainGlobals&&s.heap.isNs builtinsNs&&tablesOk q s.heap&&Xt s&&(if true then s.gens.size==0 else !leftWithCleanup s.gens)
noncomputable abbrev pE (q:wM)(loose:xQ)(s:GH):=(tabsOk q s,pinSeenD q (drecsOf q) s,plainSeenE q (looseW q loose) s,plainSeenD q loose s,wideSeen q s,clsSeenW q loose s)
theorem abR
 (h1:∀w,(bH treeTable p w N).map (λs=>qj q s.abs)=some (expectedOf q,bltViewBooted))
 (h2:∀w,(bH treeTable p w N).map (λs=>pP q loose (importedModules p.main.body) Xt s.abs)=some true)
 (h3:∀w,(bH treeTable p w N).map (λs=>pE q loose s.abs)=some (true,pinGoodD (drecsOf q),plainGoodE q (looseW q loose),plainGoodD q loose,wideGood q,clsGoodW q loose))
 (h4:∀w,(bH treeTable p w N).map (λs=>Yf s.abs)=some (Ya w)):LeftO p q loose Xt Yf Ya N:=by
 refine aae (λw=>?_) h4;obtain⟨y,e,z1⟩:=Option.map_eq_some_iff.mp (h1 w);have z2:=h2 w;have z3:=h3 w;rw[e] at z2 z3 |-;have z2:pP q loose (importedModules p.main.body) Xt y.abs=true:=Option.some.inj z2;have z3:pE q loose y.abs=_:=Option.some.inj z3;show some (openSeen q loose (importedModules p.main.body) Xt true y.abs)=_;have e1:openSeen q loose (importedModules p.main.body) Xt true y.abs=((qj q y.abs).1,(qj q y.abs).2,pP q loose (importedModules p.main.body) Xt y.abs,pE q loose y.abs):=rfl;rw[e1,z1,z2,z3];rfl
theorem aaJ
 (h1:∀w,(bH treeTable p w N).map (λs=>(qj q s.abs,pP q loose (importedModules p.main.body) Xt s.abs))=some ((expectedOf q,bltViewBooted),true))
 (h3:∀w,(bH treeTable p w N).map (λs=>pE q loose s.abs)=some (true,pinGoodD (drecsOf q),plainGoodE q (looseW q loose),plainGoodD q loose,wideGood q,clsGoodW q loose))
 (h4:∀w,(bH treeTable p w N).map (λs=>Yf s.abs)=some (Ya w)):LeftO p q loose Xt Yf Ya N:=by
 refine abR (λw=>?_) (λw=>?_) h3 h4
 ·obtain⟨y,e,z⟩:=Option.map_eq_some_iff.mp (h1 w);rw[e];exact congrArg some (Prod.mk.inj z).1
 ·obtain⟨y,e,z⟩:=Option.map_eq_some_iff.mp (h1 w);rw[e];exact congrArg some (Prod.mk.inj z).2
end
noncomputable def aaG (K:Frag)(C f:Addr)(HA:oH)(newId:String):Bool :=
 match K.lookup C with
 |some ⟨.type "type",_,.cls cd,sl⟩ =>
  match cd.mro,sl.toList with
  | .ref D::tl,[_,_,_,_,some (.builtin made),_]=>(D==C)&&((made==newId)&&((!cd.hasDel)&&(tailIn K HA tl&&(nsOkIn K cd.ns&&(nsIn K cd.ns "__init__"==some (some (.ref f)))))))
  |_,_=>false
 |_=>false
noncomputable def AC:List Value->List Value
 | .ref _::r=>AC r
 |l=>l
noncomputable def xU (K:Frag)(C f:Addr)(HA bmK:oH)(newId:String):Bool :=
 keepIn K (.ref C)&&((clsIn K C).any (λcd=>cd.hasDict&&(AC cd.mro==HA || AC cd.mro==bmK))&&((K.lookup C).any (λo=>o.cls == .type "type")&&((K.lookup f).any (λo=>o.cls == .type "function")&&aaG K C f HA newId)))
end Hd
namespace L2
open PySem
/-- an own class of exceptions without an __init__ -/
noncomputable def zA (K:PySem.W.Frag)(C:Addr)(HA:oH)(newId:String):Bool :=
 ((K.lookup C).any λo=>o.cls == .type "type"&&(o.slots.size==6&&o.slots.toList[4]?==some (some (.builtin newId))))&&(PySem.W.clsIn K C).any λcd=>cd.mro.head?==some (.ref C)&&(!cd.hasDel&&(PySem.W.tailIn K HA cd.mro.tail&&(PySem.W.nsOkIn K cd.ns&&PySem.W.nsIn K cd.ns "__init__"==some none)))
end L2
namespace K16
open PySem L2 PySem.W
open Hd (gv ga fv cy fk cB cJ aW gU cg lW cU cX aU ia cZ rW oz rM iM uV jN C1 lN oZ fP wQ)
noncomputable def aY (i:Nat):Stmt:=PySem.Challenge.pw_falsesums_k16_what_is_a_system.main.body.getD i (.Pass ⟨0,0,0,0⟩)
noncomputable def Dv:List Int:=[2,3,5,7,11,13,17,19,23,29,31,37,41,43,47,53,59,61,67,71,73,79,83,89,97]
noncomputable abbrev EU:List Value:=[.type "ValueError",.type "Exception",.type "BaseException",.type "object"]
noncomputable abbrev Ca:String:="ValueError.__new__"
noncomputable def Gw (K:Frag):Bool :=
 (cJ (gv K "isinstance") &&
 (cJ (gv K "int") &&
 (cJ (gv K "bool") &&
 (cJ (gv K "ValueError") &&
 (cJ (gv K "abs") &&
 (cJ (gv K "len") &&
 (cJ (gv K "tuple") &&
 (cJ (gv K "all") &&
 (cJ (gv K "zip") &&
 (cJ (gv K "list") &&
 (cJ (gv K "enumerate") &&
 (cJ (gv K "sorted") &&
 (cJ (gv K "max") &&
 (cJ (gv K "min") &&
 (cJ (gv K "range") &&
 (cJ (gv K "repr")))))))))))))))))
noncomputable def Gk (K:Frag):Bool :=
 (cJ (gv K "str") &&
 (cJ (gv K "divmod") &&
 (fk (gv K "Sum") &&
 (fk (gv K "Field") &&
 (fk (gv K "System") &&
 (fk (gv K "FalseError") &&
 (fk (gv K "NoField") &&
 (fk (gv K "NoSum") &&
 (fk (gv K "NoOrder") &&
 (fk (gv K "NoSystem") &&
 (fk (gv K "PRIMES") &&
 (oZ (gv K "FRACTIONS") 0 &&
 (oZ (gv K "MOST_PLACES") 60 &&
 (oZ (gv K "MOST_WISHES") 200 &&
 (oZ (gv K "STEP") 10000000000000000000000000000000000000000000000000000000000000000 &&
 (oZ (gv K "STEP_FIGURES") 64))))))))))))))))
noncomputable def F2 (K:Frag):Bool :=
 (cX K (gv K "is_whole") "is_whole" &&
 (cX K (gv K "is_place") "is_place" &&
 (cX K (gv K "is_product") "is_product" &&
 (cX K (gv K "is_term") "is_term" &&
 (cX K (gv K "checked_terms") "checked_terms" &&
 (cX K (gv K "place_of_term") "place_of_term" &&
 (cX K (gv K "gathered") "gathered" &&
 (cX K (gv K "common_divisor") "common_divisor" &&
 (cX K (gv K "lowest") "lowest" &&
 (cX K (gv K "shown_whole") "shown_whole" &&
 (cX K (gv K "shown_unsigned") "shown_unsigned" &&
 (cX K (gv K "shown_term") "shown_term" &&
 (cX K (gv K "shown_terms") "shown_terms" &&
 (cX K (gv K "place_names") "place_names" &&
 (cX K (gv K "is_wish") "is_wish" &&
 (cX K (gv K "checked_wishes") "checked_wishes"))))))))))))))))
noncomputable def FZ (K:Frag):Bool :=
 (cX K (gv K "checked_uppers") "checked_uppers" &&
 (cX K (gv K "_law_room") "_law_room" &&
 (cX K (gv K "_law_take") "_law_take" &&
 (cX K (gv K "_law_lowest") "_law_lowest" &&
 (cX K (gv K "_law_prime") "_law_prime" &&
 (cX K (gv K "_law_number") "_law_number" &&
 (cX K (gv K "_law_product") "_law_product" &&
 (cX K (gv K "_law_terms") "_law_terms" &&
 (cX K (gv K "_law_whole") "_law_whole" &&
 (cX K (gv K "_law_refused") "_law_refused" &&
 (cX K (gv K "_law_odd") "_law_odd" &&
 (cX K (gv K "_law_tells") "_law_tells" &&
 (cX K (gv K "_law_alike") "_law_alike" &&
 (cX K (gv K "_law_right") "_law_right" &&
 (cX K (gv K "_law_both_odd") "_law_both_odd" &&
 (cX K (gv K "law") "law"))))))))))))))))
noncomputable def F3 (K:Frag):Bool :=
 (cX K (fv K "Sum" "field") "Sum.field" &&
 (isFn K (.ref (cy (fv K "Sum" "field"))) &&
 (cX K (fv K "Sum" "degree") "Sum.degree" &&
 (isFn K (.ref (cy (fv K "Sum" "degree"))) &&
 (cX K (fv K "Sum" "reach") "Sum.reach" &&
 (isFn K (.ref (cy (fv K "Sum" "reach"))) &&
 (cX K (fv K "Sum" "__str__") "Sum.__str__" &&
 (isFn K (.ref (cy (fv K "Sum" "__str__"))) &&
 (cX K (fv K "Sum" "__repr__") "Sum.__repr__" &&
 (isFn K (.ref (cy (fv K "Sum" "__repr__"))) &&
 (cX K (fv K "Field" "__eq__") "Field.__eq__" &&
 (isFn K (.ref (cy (fv K "Field" "__eq__"))) &&
 (cX K (fv K "Field" "plus") "Field.plus" &&
 (isFn K (.ref (cy (fv K "Field" "plus"))) &&
 (cX K (fv K "Field" "settled") "Field.settled" &&
 (isFn K (.ref (cy (fv K "Field" "settled")))))))))))))))))))
noncomputable def Gq (K:Frag):Bool :=
 (cX K (fv K "Field" "is_number") "Field.is_number" &&
 (isFn K (.ref (cy (fv K "Field" "is_number"))) &&
 (cX K (fv K "Field" "prime") "Field.prime" &&
 (isFn K (.ref (cy (fv K "Field" "prime"))) &&
 (cX K (fv K "System" "__eq__") "System.__eq__" &&
 (isFn K (.ref (cy (fv K "System" "__eq__"))) &&
 (cX K (fv K "System" "__len__") "System.__len__" &&
 (isFn K (.ref (cy (fv K "System" "__len__"))) &&
 (cX K (fv K "System" "field") "System.field" &&
 (isFn K (.ref (cy (fv K "System" "field"))) &&
 (cX K (fv K "System" "places") "System.places" &&
 (isFn K (.ref (cy (fv K "System" "places"))) &&
 (cX K (fv K "System" "noughts") "System.noughts" &&
 (isFn K (.ref (cy (fv K "System" "noughts"))) &&
 (cX K (fv K "System" "uppers") "System.uppers" &&
 (isFn K (.ref (cy (fv K "System" "uppers")))))))))))))))))))
noncomputable def F0 (K:Frag):Bool :=
 (cX K (fv K "System" "top") "System.top" &&
 (isFn K (.ref (cy (fv K "System" "top"))) &&
 (cX K (fv K "NoSystem" "__init__") "NoSystem.__init__" &&
 (isFn K (.ref (cy (fv K "NoSystem" "__init__"))) &&
 (cX K (fv K "Sum" "__init__") "Sum.__init__" &&
 (isFn K (.ref (cy (fv K "Sum" "__init__"))) &&
 (rW K (fv K "Sum" "__init__") &&
 (rM K (oz K (fv K "Sum" "__init__")) (uV) &&
 (cX K (fv K "Field" "__init__") "Field.__init__" &&
 (isFn K (.ref (cy (fv K "Field" "__init__"))) &&
 (rW K (fv K "Field" "__init__") &&
 (rM K (oz K (fv K "Field" "__init__")) (C1 0) &&
 (cX K (fv K "System" "__init__") "System.__init__" &&
 (isFn K (.ref (cy (fv K "System" "__init__"))) &&
 (rW K (fv K "System" "__init__") &&
 (rM K (oz K (fv K "System" "__init__")) (uV)))))))))))))))))
noncomputable def F7 (K:Frag):Bool :=
 (plainGet K (ga K "Field") Str.empty &&
 (hasDictIn K (ga K "Field") &&
 (plainOver K (ga K "Field") &&
 (gU (fv K "Field" "__setattr__") "object.__setattr__" &&
 (cJ (fv K "Field" "its_prime") &&
 (((clsIn K (ga K "Field")).isSome&&typeIn K (.ref (ga K "Field"))==some (.type "type")) &&
 (gU (fv K "Field" "__class__") "object.__class__" &&
 (gU (specialIn K (.builtin "object.__class__") "__get__") "getset_descriptor.__get__" &&
 (lW (takesIn K (.builtin "object.__class__")) true &&
 (lW (mroIn K (ga K "Field") (.type "object")) true &&
 (plainGet K (ga K "Sum") Str.empty &&
 (hasDictIn K (ga K "Sum") &&
 (plainOver K (ga K "Sum") &&
 (gU (fv K "Sum" "__setattr__") "object.__setattr__" &&
 (cJ (fv K "Sum" "its_field") &&
 (cJ (fv K "Sum" "its_terms")))))))))))))))))
noncomputable def F5 (K:Frag):Bool :=
 (((clsIn K (ga K "Sum")).isSome&&typeIn K (.ref (ga K "Sum"))==some (.type "type")) &&
 (gU (fv K "Sum" "__class__") "object.__class__" &&
 (lW (mroIn K (ga K "Sum") (.type "object")) true &&
 (plainGet K (ga K "System") Str.empty &&
 (hasDictIn K (ga K "System") &&
 (plainOver K (ga K "System") &&
 (gU (fv K "System" "__setattr__") "object.__setattr__" &&
 (cJ (fv K "System" "its_field") &&
 (cJ (fv K "System" "its_places") &&
 (cJ (fv K "System" "its_noughts") &&
 (cJ (fv K "System" "its_uppers") &&
 (((clsIn K (ga K "System")).isSome&&typeIn K (.ref (ga K "System"))==some (.type "type")) &&
 (gU (fv K "System" "__class__") "object.__class__" &&
 (lW (mroIn K (ga K "System") (.type "object")) true &&
 (wQ K (ga K "PRIMES") Dv &&
 (zA K (ga K "NoField") EU Ca))))))))))))))))
noncomputable def Ge (K:Frag):Bool :=
 (gU (fv K "Field" "__ne__") "object.__ne__" &&
 (gU (fv K "System" "__ne__") "object.__ne__" &&
 (lW (kitOne K (.ref (ga K "Field")) (.ref (ga K "System"))) false &&
 (notFirst K (ga K "System") (.ref (ga K "Field")) &&
 (Hd.xU K (ga K "NoSystem") (cy (fv K "NoSystem" "__init__")) EU [.type "KeyError",.type "LookupError",.type "Exception",.type "BaseException",.type "object"] Ca &&
 ((clsIn K (ga K "NoSystem")).isSome &&
 (gU (fv K "NoSystem" "__getattribute__") "BaseException.__getattribute__" &&
 (cJ (fv K "NoSystem" "__getattr__") &&
 (gU (fv K "NoSystem" "__class__") "object.__class__" &&
 (lW (mroIn K (ga K "NoSystem") (.type "object")) true &&
 (lW (mroIn K (ga K "NoSystem") (.type "BaseException")) true &&
 (gU (fv K "NoSystem" "__setattr__") "object.__setattr__" &&
 (cJ (fv K "NoSystem" "part") &&
 (cJ (fv K "NoSystem" "number") &&
 (lW (kitAny K (.ref (ga K "NoSystem")) [.ref (ga K "NoSum"),.ref (ga K "NoOrder")]) false &&
 (makesIn K (ga K "Sum")))))))))))))))))
noncomputable def Er (K:Frag):Bool :=
 (keepIn K (.ref (ga K "Sum")) &&
 (makesIn K (ga K "Field") &&
 (keepIn K (.ref (ga K "Field")) &&
 (makesIn K (ga K "System") &&
 (keepIn K (.ref (ga K "System")) &&
 (lW (exmOne K (.ref (ga K "NoSystem")) (.ref (ga K "NoSystem"))) true &&
 (lW (kitOne K (.ref (ga K "NoSystem")) (.ref (ga K "FalseError"))) true &&
 (lW (kitOne K (.ref (ga K "NoSystem")) (.type "ValueError")) true))))))))
noncomputable def qK (K:Frag):Bool:=Gw K&&(Gk K&&(F2 K&&(FZ K&&(F3 K&&(Gq K&&(F0 K&&(F7 K&&(F5 K&&(Ge K&&(Er K))))))))))
noncomputable def vN (K:Frag):Bool×List (Option Hd.rd):=(qK K,[aU K (gv K "is_whole"),aU K (gv K "is_place"),aU K (gv K "is_product"),aU K (gv K "is_term"),aU K (gv K "checked_terms"),aU K (gv K "place_of_term"),aU K (gv K "gathered"),aU K (gv K "common_divisor"),aU K (gv K "lowest"),aU K (gv K "shown_whole"),aU K (gv K "shown_unsigned"),aU K (gv K "shown_term"),aU K (gv K "shown_terms"),aU K (gv K "place_names"),aU K (gv K "is_wish"),aU K (gv K "checked_wishes"),aU K (gv K "checked_uppers"),aU K (gv K "_law_room"),aU K (gv K "_law_take"),aU K (gv K "_law_lowest"),aU K (gv K "_law_prime"),aU K (gv K "_law_number"),aU K (gv K "_law_product"),aU K (gv K "_law_terms"),aU K (gv K "_law_whole"),aU K (gv K "_law_refused"),aU K (gv K "_law_odd"),aU K (gv K "_law_tells"),aU K (gv K "_law_alike"),aU K (gv K "_law_right"),aU K (gv K "_law_both_odd"),aU K (gv K "law"),aU K (fv K "Sum" "field"),aU K (fv K "Sum" "degree"),aU K (fv K "Sum" "reach"),aU K (fv K "Sum" "__str__"),aU K (fv K "Sum" "__repr__"),aU K (fv K "Field" "__eq__"),aU K (fv K "Field" "plus"),aU K (fv K "Field" "settled"),aU K (fv K "Field" "is_number"),aU K (fv K "Field" "prime"),aU K (fv K "System" "__eq__"),aU K (fv K "System" "__len__"),aU K (fv K "System" "field"),aU K (fv K "System" "places"),aU K (fv K "System" "noughts"),aU K (fv K "System" "uppers"),aU K (fv K "System" "top"),aU K (fv K "NoSystem" "__init__"),ia K (fv K "Sum" "__init__"),ia K (fv K "Field" "__init__"),ia K (fv K "System" "__init__")])
noncomputable def dueK:Bool×List (Option Hd.rd):=(true,[cZ "is_whole" "is_whole" ((aY 11)),cZ "is_place" "is_place" ((aY 12)),cZ "is_product" "is_product" ((aY 13)),cZ "is_term" "is_term" ((aY 29)),cZ "checked_terms" "checked_terms" ((aY 30)),cZ "place_of_term" "place_of_term" ((aY 31)),cZ "gathered" "gathered" ((aY 32)),cZ "common_divisor" "common_divisor" ((aY 17)),cZ "lowest" "lowest" ((aY 18)),cZ "shown_whole" "shown_whole" ((aY 24)),cZ "shown_unsigned" "shown_unsigned" ((aY 25)),cZ "shown_term" "shown_term" ((aY 26)),cZ "shown_terms" "shown_terms" ((aY 27)),cZ "place_names" "place_names" ((aY 33)),cZ "is_wish" "is_wish" ((aY 38)),cZ "checked_wishes" "checked_wishes" ((aY 39)),cZ "checked_uppers" "checked_uppers" ((aY 40)),cZ "_law_room" "_law_room" ((aY 43)),cZ "_law_take" "_law_take" ((aY 44)),cZ "_law_lowest" "_law_lowest" ((aY 45)),cZ "_law_prime" "_law_prime" ((aY 46)),cZ "_law_number" "_law_number" ((aY 47)),cZ "_law_product" "_law_product" ((aY 48)),cZ "_law_terms" "_law_terms" ((aY 49)),cZ "_law_whole" "_law_whole" ((aY 50)),cZ "_law_refused" "_law_refused" ((aY 51)),cZ "_law_odd" "_law_odd" ((aY 52)),cZ "_law_tells" "_law_tells" ((aY 53)),cZ "_law_alike" "_law_alike" ((aY 54)),cZ "_law_right" "_law_right" ((aY 55)),cZ "_law_both_odd" "_law_both_odd" ((aY 56)),cZ "law" "law" ((aY 57)),cZ "field" "Sum.field" (aL (aY 34) 5),cZ "degree" "Sum.degree" (aL (aY 34) 7),cZ "reach" "Sum.reach" (aL (aY 34) 8),cZ "__str__" "Sum.__str__" (aL (aY 34) 3),cZ "__repr__" "Sum.__repr__" (aL (aY 34) 4),cZ "__eq__" "Field.__eq__" (aL (aY 20) 1),cZ "plus" "Field.plus" (aL (aY 20) 6),cZ "settled" "Field.settled" (aL (aY 20) 10),cZ "is_number" "Field.is_number" (aL (aY 20) 11),cZ "prime" "Field.prime" (aL (aY 20) 3),cZ "__eq__" "System.__eq__" (aL (aY 41) 1),cZ "__len__" "System.__len__" (aL (aY 41) 2),cZ "field" "System.field" (aL (aY 41) 3),cZ "places" "System.places" (aL (aY 41) 4),cZ "noughts" "System.noughts" (aL (aY 41) 5),cZ "uppers" "System.uppers" (aL (aY 41) 6),cZ "top" "System.top" (aL (aY 41) 7),cZ "__init__" "NoSystem.__init__" (aL (aY 8) 0),cZ "__init__" "Sum.__init__" (aL (aY 34) 0),cZ "__init__" "Field.__init__" (aL (aY 20) 0),cZ "__init__" "System.__init__" (aL (aY 41) 0)])
noncomputable def qL:List Addr:=[3,30,31,43,44,80,99,114,115,117,118,126,127,133,134,138,139,140,146,147,153,154,169,175,176,182,183,196,197,218,219,246,247,253,254,256,257,267,268,274,275,279,280,286,287,293,294,300,301,307,308,312,313,317,318,326,332,333,353,354,360,361,367,368,381,382,386,387,438,439,456,457,463,464,470,471,479,485,486,492,493,499,500,506,507,513,514,520,521,527,528,532,533,542,543,553,554,560,561,567,568,574,575,581,582,586,587,593,594,600,601,607,608,614,615,619,620,624,625,631,632,638,639,643,644]
noncomputable def iU:Program:={PySem.Challenge.pw_falsesums_k16_what_is_a_system with main:={PySem.Challenge.pw_falsesums_k16_what_is_a_system.main with body:=[aY 0,aY 2,aY 3,aY 4,aY 5,aY 6,aY 7,aY 8,aY 10,aY 11,aY 12,aY 13,aY 15,aY 16,aY 17,aY 18,aY 19,aY 20,aY 22,aY 23,aY 24,aY 25,aY 26,aY 27,aY 29,aY 30,aY 31,aY 32,aY 33,aY 34,aY 35,aY 37,aY 38,aY 39,aY 40,aY 41,aY 43,aY 44,aY 45,aY 46,aY 47,aY 48,aY 49,aY 50,aY 51,aY 52,aY 53,aY 54,aY 55,aY 56,aY 57]} }
noncomputable def lv:List (PySem.Str×WData):=[("STEP",.int 10000000000000000000000000000000000000000000000000000000000000000)]
end K16
section
open PySem PySem.W PyProof.Rows
set_option maxRecDepth 100000 in
set_option maxHeartbeats 0 in
theorem K16.ran1:∀w,(Hd.bH treeTable PySem.Challenge.rw_falsesums_k16_what_is_a_system.row.prog w 9178).map (λs=>(Hd.qj K16.iU s.abs,Hd.pP K16.iU ["Field","STEP"] (importedModules PySem.Challenge.rw_falsesums_k16_what_is_a_system.row.prog.main.body) (λs=>xlAt K16.iU K16.lv s&&recOk (PySem.Challenge.rw_falsesums_k16_what_is_a_system.row.toRowW).records s) s.abs))=some ((PyProof.Rows.expectedOf K16.iU,bltViewBooted),true):=by
 intro w;kernel_rfl
set_option maxRecDepth 100000 in
set_option maxHeartbeats 0 in
theorem K16.ran3:∀w,(Hd.bH treeTable PySem.Challenge.rw_falsesums_k16_what_is_a_system.row.prog w 9178).map (λs=>Hd.pE K16.iU ["Field","STEP"] s.abs)=some (true,pinGoodD (drecsOf K16.iU),plainGoodE K16.iU (looseW K16.iU ["Field","STEP"]),plainGoodD K16.iU ["Field","STEP"],wideGood K16.iU,clsGoodW K16.iU ["Field","STEP"]):=by
 intro w;kernel_rfl
set_option maxRecDepth 100000 in
set_option maxHeartbeats 0 in
theorem K16.ran4:∀w,(Hd.bH treeTable PySem.Challenge.rw_falsesums_k16_what_is_a_system.row.prog w 9178).map (λs=>K16.vN (Hd.wc K16.qL s.abs.heap))=some K16.dueK:=by
 intro w;kernel_rfl
end
namespace L2
open PySem PySem.Spec PyProof.Rows
noncomputable abbrev Key:=Sum Int Str
noncomputable def nj:Key->Value->Bool
 | .inl k,v=>Value.isInt k v
 | .inr x,v=>Value.isStrOf x v
noncomputable def Fun (w:World):Key->Int
 | .inl k=>hashInt k
 | .inr x=>hashStr w x
theorem b9:∀{k:Key}{v:Value},nj k v=true->(∃i t,k=Sum.inl i/\v=Value.int i t)\/(∃x t,k=Sum.inr x/\v=Value.str x t)
 | .inl i,v,h=>by
   obtain⟨t,e⟩:=Value.isInt_shape (k:=i) (v:=v) h;exact .inl ⟨i,t,rfl,e⟩
 | .inr x,v,h=>by
   obtain⟨t,e⟩:=Value.isStrOf_shape (x:=x) (v:=v) h;exact .inr ⟨x,t,rfl,e⟩
theorem aai (i:Int)(t:Tok):nj (.inl i) (.int i t)=true:=by simp[nj,Value.isInt]
theorem aaa (x:Str)(t:Tok):nj (.inr x) (.str x t)=true:=by simp[nj,Value.isStrOf]
theorem abB (a b:Int):decide ((Sum.inl a:Key)=Sum.inl b)=(a==b):=by
 by_cases e:a=b
 ·subst e;simp
 ·have h:¬(Sum.inl a:Key)=Sum.inl b:=λq=>e (Sum.inl.inj q);rw[decide_eq_false h];exact(beq_eq_false_iff_ne.mpr e).symm
theorem abH (a b:Str):decide ((Sum.inr a:Key)=Sum.inr b)=decide (a=b):=by
 by_cases e:a=b
 ·subst e;simp
 ·have h:¬(Sum.inr a:Key)=Sum.inr b:=λq=>e (Sum.inr.inj q);rw[decide_eq_false h,decide_eq_false e]
theorem aah (a:Int)(b:Str):decide ((Sum.inl a:Key)=Sum.inr b)=false:=decide_eq_false (λq=>nomatch q)
theorem Sh1 (a:Str)(b:Int):decide ((Sum.inr a:Key)=Sum.inl b)=false:=decide_eq_false (λq=>nomatch q)
noncomputable def ck (prog:wM)(w:World):PySem.KeyKind prog w Key where
 is:=nj
 hash:=Fun w
 inj:=λv a b ha hb=>by
  rcases b9 ha with⟨i,t,rfl,rfl⟩|⟨x,t,rfl,rfl⟩
  ·rcases b9 hb with⟨j,u,rfl,e⟩|⟨y,u,rfl,e⟩
   ·injection e with e1 _;rw[e1]
   ·exact nomatch e
  ·rcases b9 hb with⟨j,u,rfl,e⟩|⟨y,u,rfl,e⟩
   ·exact nomatch e
   ·injection e with e1 _;rw[e1]
 byValue:=λk v h=>by
  rcases b9 h with⟨i,t,rfl,rfl⟩|⟨x,t,rfl,rfl⟩ <;> rfl
 pyHash:=λhv h=>by
  rcases b9 hv with⟨i,t,rfl,rfl⟩|⟨x,t,rfl,rfl⟩
  ·exact wpAny_pyHash_int h
  ·exact wpAny_pyHash_str h
 eqBool:=λhu hv h=>by
  rcases b9 hu with⟨i,t,rfl,rfl⟩|⟨x,t,rfl,rfl⟩
  ·rcases b9 hv with⟨j,u,rfl,rfl⟩|⟨y,u,rfl,rfl⟩
   ·rw[abB] at h;exact wpAny_eqBool_int h
   ·rw[aah] at h;exact SeqAt.EqAt.int_str i t y u _ _ _ _ h
  ·rcases b9 hv with⟨j,u,rfl,rfl⟩|⟨y,u,rfl,rfl⟩
   ·rw[Sh1] at h;exact SeqAt.EqAt.str_int x t j u _ _ _ _ h
   ·rw[abH] at h;exact wpAny_eqBool_str h
 «strs»:=λk x t v h=>by
  rcases b9 h with⟨i,u,rfl,e⟩|⟨y,u,rfl,e⟩
  ·exact nomatch e
  ·injection e with e1 _
   subst e1
   cases v <;> rfl
theorem aao (prog:wM)(w:World)(i:Int)(t:Tok):(ck prog w).is (.inl i) (.int i t)=true:=aai i t
theorem abS (prog:wM)(w:World)(x:Str)(t:Tok):(ck prog w).is (.inr x) (.str x t)=true:=aaa x t
inductive V where
 |non|bl (b:Bool)|int (i:Int)|str (x:Str)|byt (b:Array UInt8)|flt (b:UInt64)|ref (a:Addr)|ty (n:String)
 deriving DecidableEq
noncomputable def aG:V->Value->Prop
 | .non,u=>u=Value.none
 | .bl b,u=>u=Value.bool b
 | .int i,u=>∃t,u=Value.int i t
 | .str x,u=>∃t,u=Value.str x t
 | .byt b,u=>∃t,u=Value.bytes b t
 | .flt b,u=>∃t,u=Value.float b t
 | .ref a,u=>u=Value.ref a
 | .ty n,u=>u=Value.type n
noncomputable abbrev aK:List V->List Value->Prop:=Paired aG
variable {us:oH}
theorem aK.length {xs:List V}(r:aK xs us):xs.length=us.length:=Paired.length r
theorem aK.get:∀{xs:List V}{us:oH}{i:Nat}{x:V},aK xs us->xs[i]?=some x->∃u,us[i]?=some u/\aG x u
 |_,_,_,_,.nil,e=>by simp at e
 |_,_,0,_,.cons r _,e=>by simp at e;subst e;exact⟨_,rfl,r⟩
 |_,_,i+1,x,.cons _ t,e=>by
  obtain⟨u,h1,h2⟩:=aK.get (i:=i) (x:=x) t (by simpa using e);exact⟨u,by simpa using h1,h2⟩
variable {u:Value}
theorem aK.set {x:V}(r:aG x u):∀{xs:List V}{us:oH}(i:Nat),aK xs us->aK (xs.set i x) (us.set i u)
 |_,_,_,.nil=>.nil
 |_,_,0,.cons _ t=>.cons r t
 |_,_,i+1,.cons q t=>.cons q (aK.set r i t)
theorem aK.append:∀{xs ys:List V}{us ws:oH},aK xs us->aK ys ws->aK (xs++ys) (us++ws)
 |_,_,_,_,.nil,s=>s
 |_,_,_,_,.cons r t,s=>.cons r (aK.append t s)
theorem aK.take:∀{xs:List V}{us:oH}(n:Nat),aK xs us->aK (xs.take n) (us.take n)
 |_,_,0,_=>.nil
 |_,_,_+1,.nil=>.nil
 |_,_,n+1,.cons r t=>.cons r (aK.take n t)
theorem aK.drop:∀{xs:List V}{us:oH}(n:Nat),aK xs us->aK (xs.drop n) (us.drop n)
 |_,_,0,r=>r
 |_,_,_+1,.nil=>.nil
 |_,_,n+1,.cons _ t=>aK.drop n t
noncomputable def eX:Option V->Option Value->Prop
 |some v,some u=>aG v u
 |none,none=>True
 |_,_=>False
noncomputable def KV {κ:Type}:List (κ×V)->List (κ×Value)->Prop:=Paired λ(p:κ×V)(q:κ×Value)=>p.1=q.1/\aG p.2 q.2
noncomputable def kV:Key->V
 | .inl i=>.int i
 | .inr x=>.str x
inductive HO where
 /-- a list -/
 |lst (xs:List V)
 /-- a tuple (never changes) -/
 |tup (xs:List V)
 /-- a dict NL keys are ints and texts;one NL keys are tuples of ints and texts (KL empty one is both) -/
 |dK (GK:List (Key×V))|dT (GK:List (List Key×V))
 /-- a set of ints: its members,its size -/
 |set (S:Int->Bool)(n:Nat)
 /-- an instance of KL class at C,its dict at dx,its attributes -/
 |ins (C dx:Addr)(fs:List (Str×V))
 /-- KL dict of KL instance at x -/
 |own (x:Addr)
 /-- KL dict of an exception -/
 |xd (fs:List (Str×V))
 /-- a bound method,f of x -/
 |met (f x:Addr)
 /-- a range object lo,lo+1,.. below hi -/
 |rng (lo hi:Int)
 /-- a NM abt is known to KL object (KL S9;a dict while a loop walks it): read,never written while it is so -/
 |frz (o:Obj)(u:HO)
 /-- a code NN table -/
 |tbl (ps:BU)
 /-- any other NM,by abu is true of its one object (a def of X6 own: abv a S n:=HO.ext λh=>..) -/
 |ext (φ:Heap->Prop)
noncomputable abbrev Hp:=Addr->Option HO
noncomputable def upd (H:Hp)(a:Addr)(o:HO):Hp:=λb=>if b=a then some o else H b
theorem ae {H:Hp}{a:Addr}{o:HO}:upd H a o a=some o:=by unfold upd;rw[if_pos rfl]
variable {H:Hp}{a:Addr}
theorem aq {b:Addr}{o:HO}(h:b≠a):upd H a o b=H b:=by unfold upd;rw[if_neg h]
theorem aaq {o u:HO}:upd (upd H a o) a u=upd H a u:=by
 funext b;unfold upd;split <;> rfl
theorem jw {b:Addr}{o u:HO}(h:H a=some o)(h':H b=some u)(d:o≠u):a≠b:=by
 intro e;subst e;rw[h] at h';exact d (Option.some.inj h')
theorem av {b:Addr}{o:HO}(h:H a=some o)(h':H b=none):a≠b:=by
 intro e;subst e;rw[h] at h';cases h'
section
variable (P:wM)(w:World)
noncomputable def ba (H:Hp)(h:Heap)(a:Addr):HO->Prop
 | .lst xs=>xs.length<=sizeLine/\∃(its:oH)(n:Nat),aK xs its/\h.get? a=some {cls:=.type "list",data:=.seq its.toArray n}
 | .tup xs=>xs.length<=sizeLine/\∃its:List Value,aK xs its/\IsTup h a its.toArray
 | .dK GK=>GK.length<=sizeLine/\(a==sysModules)=false/\∃vs,KV GK vs/\h.DictOf (ck P w) a vs
 | .dT GK=>GK.length<=sizeLine/\(a==sysModules)=false/\∃xs:List (List Key×Addr×Value),
  Paired (λ(p:List Key×V)(q:List Key×Addr×Value)=>p.1=q.1/\H q.2.1=some (.tup (p.1.map kV))/\aG p.2 q.2.2) GK xs /\
  ∃o es ep,h.get? a=some o/\o.ExactDict/\o.data=.dict es ep/\es.toList=xs.map (entryOfKey (tupleKind (ck P w)))/\(xs.map (·.1)).Nodup
 | .set S n=>h.SetOf (intKind P w) a S n
 | .ins C dx fs=>H dx=some (.own a)/\fs.length<=1000/\dx≠a/\h.get? a=some (PySem.W.instObj C dx) /\
  ∃mA,h.Ns1 dx mA/\(∀f,eX (fs.lookup f) (mA f))/\PySem.Within mA (fs.map (·.1))
 | .own _=>∃o,h.get? a=some o
 | .xd fs=>∃mA,h.Ns1 a mA/\∀f,eX (fs.lookup f) (mA f)
 | .rng lo hi=>∃t u v,h.get? a=some {cls:=.type "range",data:=.fields #[.int lo t,.int hi u,.int 1 v]}
 | .frz o u=>h.get? a=some o/\ba H h a u
 | .tbl ps=>h.get? a=some {cls:=.none,data:=.fields ps}
 | .met f x=>h.get? a=some (PySem.W.methodObj (.ref f) (.ref x))
 | .ext φ=>φ h/\(∃o,h.get? a=some o)/\∀h1 h2:Heap,φ h1->(∀o,h1.get? a=some o->h2.get? a=some o)->φ h2
noncomputable def gk (H:Hp)(h:Heap):Prop:=∀a o,H a=some o->ba P w H h a o
end
section
variable {P:wM}{w:World}{H H':Hp}{h h':Heap}{a:Addr}{o:HO}
theorem ba.lt (x:ba P w H h a o):a<h.objs.size:=by
 cases o with
 |lst xs=>obtain⟨_,_,_,_,e⟩:=x;exact Heap.lt_size e
 |tup xs=>obtain⟨_,_,_,p⟩:=x;exact p.lt
 |dK GK=>obtain⟨_,_,_,_,o,_,_,e,_⟩:=x;exact Heap.lt_size e
 |dT GK=>obtain⟨_,_,_,_,o,_,_,e,_⟩:=x;exact Heap.lt_size e
 |set S n=>obtain⟨o,_,_,_,e,_⟩:=x;exact Heap.lt_size e
 |ins C dx fs=>obtain⟨_,_,_,e,_⟩:=x;exact Heap.lt_size e
 |own y=>obtain⟨_,e⟩:=x;exact Heap.lt_size e
 |xd fs=>obtain⟨_,⟨_,_,_,e,_⟩,_⟩:=x;exact Heap.lt_size e
 |rng lo hi=>obtain⟨_,_,_,e⟩:=x;exact Heap.lt_size e
 |frz ob u=>obtain⟨e,_⟩:=x;exact Heap.lt_size e
 |tbl ps=>exact Heap.lt_size (show h.get? a=some _ from x)
 |met f y=>exact Heap.lt_size (show h.get? a=some _ from x)
 |ext φ=>obtain⟨_,⟨_,e⟩,_⟩:=x;exact Heap.lt_size e
theorem Paired.ab4 {α β:Type}{F G:α->β->Prop}:∀{l₁:List α}{l₂:List β},Paired F l₁ l₂->(∀a b,F a b->G a b)->Paired G l₁ l₂
 |_,_,.nil,_=>.nil
 |_,_,.cons r t,f=>.cons (f _ _ r) (Paired.ab4 t f)
theorem ba.abw (x:ba P w H h a o)(k:∀b u,(b=a\/H b=some (.own a))->h.get? b=some u->h'.get? b=some u)
 (ho:∀b,H b=some (.own a)->H' b=some (.own a))(ht:∀b xs,H b=some (.tup xs)->H' b=some (.tup xs)):ba P w H' h' a o:=by
 induction o with
 |lst xs=>obtain⟨z,its,n,r,e⟩:=x;exact⟨z,its,n,r,k _ _ (.inl rfl) e⟩
 |tup xs=>obtain⟨z,its,r,ob,e,c⟩:=x;exact⟨z,its,r,ob,k _ _ (.inl rfl) e,c⟩
 |dK GK=>obtain⟨z,y,vs,r,ob,es,ep,e,c⟩:=x;exact⟨z,y,vs,r,ob,es,ep,k _ _ (.inl rfl) e,c⟩
 |dT GK =>
  obtain⟨z,y,xs,r,ob,es,ep,e,c⟩:=x;exact⟨z,y,xs,Paired.ab4 r λp q z=>⟨z.1,ht _ _ z.2.1,z.2.2⟩,ob,es,ep,k _ _ (.inl rfl) e,c⟩
 |set S n=>obtain⟨ob,es,ep,t,e,c⟩:=x;exact⟨ob,es,ep,t,k _ _ (.inl rfl) e,c⟩
 |ins C dx fs =>
  obtain⟨d,z,ne,e,mA,⟨od,es,ep,e2,c⟩,r⟩:=x;exact⟨ho _ d,z,ne,k _ _ (.inl rfl) e,mA,⟨od,es,ep,k _ _ (.inr d) e2,c⟩,r⟩
 |own y=>obtain⟨ob,e⟩:=x;exact⟨ob,k _ _ (.inl rfl) e⟩
 |xd fs=>obtain⟨mA,⟨od,es,ep,e,c⟩,r⟩:=x;exact⟨mA,⟨od,es,ep,k _ _ (.inl rfl) e,c⟩,r⟩
 |rng lo hi=>obtain⟨t,u,v,e⟩:=x;exact⟨t,u,v,k _ _ (.inl rfl) e⟩
 |frz ob u ih=>obtain⟨e,q⟩:=x;exact⟨k _ _ (.inl rfl) e,ih q⟩
 |tbl ps =>
  have e:h.get? a=some {cls:=.none,data:=.fields ps}:=x;show h'.get? a=some {cls:=.none,data:=.fields ps};exact k a _ (.inl rfl) e
 |met f y =>
  have e:h.get? a=some (PySem.W.methodObj (.ref f) (.ref y)):=x;show h'.get? a=some (PySem.W.methodObj (.ref f) (.ref y));exact k a _ (.inl rfl) e
 |ext φ=>obtain⟨p,⟨o,e⟩,st⟩:=x;exact⟨st _ _ p λo q=>k _ _ (.inl rfl) q,⟨o,k _ _ (.inl rfl) e⟩,st⟩
theorem gk.lt (x:gk P w H h)(e:H a=some o):a<h.objs.size:=(x a o e).lt
theorem gk.fresh (x:gk P w H h)(e:h.objs.size<=a):H a=none:=by
 cases q:H a with
 |none=>rfl
 |some u=>exact absurd (Nat.lt_of_lt_of_le (x.lt q) e) (Nat.lt_irrefl _)
theorem gk.kept (x:gk P w H h)(k:∀b u,h.get? b=some u->h'.get? b=some u):gk P w H h':=λa o e =>
 (x a o e).abw (λb u _ q=>k b u q) (λ_ q=>q) λ_ _ q=>q
theorem gk.laid (x:gk P w H h)(k:∀b u,h.get? b=some u->h'.get? b=some u)(hp:h.objs.size<=a)(new:ba P w (upd H a o) h' a o):gk P w (upd H a o) h':=λb u e=>by
 have hn:=x.fresh hp
 by_cases hb:b=a
 ·subst hb;rw[ae] at e;cases e;exact new
 ·rw[aq hb] at e
  exact(x b u e).abw (λc v _ q=>k c v q) (λc q=>by rw[aq (av q hn)];exact q) λc xs q=>by rw[aq (av q hn)];exact q
end
noncomputable def Rd (H:Hp)(a:Addr)(u:HO):Prop:=H a=some u\/∃o,H a=some (.frz o u)
variable {P:wM}{w:World}{h:Heap}
theorem Rd.ok {u:HO}(r:Rd H a u)(x:gk P w H h):ba P w H h a u:=by
 rcases r with r|⟨o,r⟩
 ·exact x a u r
 ·obtain⟨_,q⟩:=x a _ r;exact q
noncomputable def DN:Option HO->Prop
 |some (.lst _)=>True
 |some (.dK _)=>True
 |some (.dT _)=>True
 |some (.set _ _)=>True
 |some (.ins _ _ _)=>True
 |some (.ext _)=>True
 |_=>False
section
variable {P:wM}{w:World}{H:Hp}{h h':Heap}{x e:Addr}{o':HO}
theorem gk.write (ok:gk P w H h)(mu:DN (H x))(he:e=x\/H e=some (.own x))(k:∀b u,b≠e->h.get? b=some u->h'.get? b=some u)(M0:∃u,h'.get? e=some u)
 (new:ba P w (upd H x o') h' x o'):gk P w (upd H x o') h':=λb u q=>by
 have NP:∀c y,H c=some (.own y)->c≠x:=λc y r z=>by subst z;rw[r] at mu;exact mu
 have Ta:∀c xs,H c=some (.tup xs)->c≠x:=λc xs r z=>by subst z;rw[r] at mu;exact mu
 by_cases hb:b=x
 ·subst hb;rw[ae] at q;cases q;exact new
 ·rw[aq hb] at q
  by_cases Lx:b=e
  ·have q':H b=some (.own x):=by
    rcases he with z|z
    ·exact absurd (Lx.trans z) hb
    ·rw[Lx];exact z
   rw[q] at q';cases q';obtain⟨v,hv⟩:=M0;exact⟨v,by rw[Lx];exact hv⟩
  ·refine(ok b u q).abw (λc v hc r=>k c v ?_ r) (λc r=>by rw[aq (NP c b r)];exact r) λc xs r=>by rw[aq (Ta c xs r)];exact r
   rcases hc with rfl|hc
   ·exact Lx
   ·rintro rfl
    rcases he with z|z
    ·exact NP c b hc z
    ·rw[hc] at z;cases z;exact hb rfl
end
structure Un (fs ex:List Addr)(H H':Hp)(h h':Heap):Prop where
 keep:∀b o,h.get? b=some o->H b=none->b∉fs->b∉ex->h'.get? b=some o
 slot:∀b o,h.get? b=some o->H b=none->b∈fs->b∉ex->∃sl,h'.get? b=some {o with slots:=sl}
 free:∀b o,h.get? b=some o->H b=none->b∉ex->H' b=none
 there:∀b o,h.get? b=some o->b∉ex->∃o',h'.get? b=some o'
 aan:∀b xs,H b=some (.tup xs)->H' b=some (.tup xs)
 aam:∀b o u,H b=some (.frz o u)->H' b=some (.frz o u)
 aas:∀b ps,H b=some (.tbl ps)->∃more,H' b=some (.tbl (ps++more))
section
variable {fs fs' ex ex':List Addr}{H H1 H2:Hp}{h h1 h2 h':Heap}{a x e:Addr}{o:HO}
theorem Un.any (u:Un fs ex H H1 h h1){b:Addr}{ob:Obj}(q:h.get? b=some ob)(n:H b=none)(hx:b∉ex):∃sl,h1.get? b=some {ob with slots:=sl}:=by
 by_cases hb:b∈fs
 ·exact u.slot b ob q n hb hx
 ·exact⟨ob.slots,u.keep b ob q n hb hx⟩
theorem Un.kept (k:∀b u,h.get? b=some u->h'.get? b=some u):Un fs ex H H h h' :=
 ⟨λb ob q _ _ _=>k b ob q,λb ob q _ _ _=>⟨ob.slots,k b ob q⟩,λ_ _ _ n _=>n,λb ob q _=>⟨ob,k b ob q⟩,λ_ _ q=>q,λ_ _ _ q=>q,λ_ ps q=>⟨#[],by rw[q];simp⟩⟩
theorem Un.refl:Un fs ex H H h h:=Un.kept λ_ _ q=>q
theorem Un.laid (k:∀b u,h.get? b=some u->h'.get? b=some u)(hp:h.objs.size<=a)(hn:H a=none):Un fs ex H (upd H a o) h h' where
 keep:=λb u q _ _ _=>k b u q
 slot:=λb u q _ _ _=>⟨u.slots,k b u q⟩
 free:=λb u q n _=>by rw[aq (Nat.ne_of_lt (Nat.lt_of_lt_of_le (Heap.lt_size q) hp))];exact n
 there:=λb u q _=>⟨u,k b u q⟩
 aan:=λb xs q=>by rw[aq (av q hn)];exact q
 aam:=λb u xs q=>by rw[aq (av q hn)];exact q
 aas:=λb ps q=>⟨#[],by rw[aq (av q hn),q];simp⟩
theorem Un.write (mu:DN (H x))(he:e=x\/H e=some (.own x))(k:∀b u,b≠e->h.get? b=some u->h'.get? b=some u)(M0:∃u,h'.get? e=some u):Un fs ex H (upd H x o) h h':=by
 have hx:∀b,H b=none->b≠x:=λb n z=>by subst z;rw[n] at mu;exact mu
 have hb:∀b,H b=none->b≠e:=λb n z=>by
  subst z
  rcases he with r|r
  ·exact hx b n r
  ·rw[n] at r;cases r
 have hm:∀b u,H b=some u->¬DN (some u)->b≠x:=λb u q nm z=>by subst z;rw[q] at mu;exact nm mu
 refine⟨λb u q n _ _=>k b u (hb b n) q,λb u q n _ _=>⟨u.slots,k b u (hb b n) q⟩,λb u q n _=>by rw[aq (hx b n)];exact n,λb u q _=>?_,
  λb xs q=>by rw[aq (hm b _ q λz=>z)];exact q,λb u xs q=>by rw[aq (hm b _ q λz=>z)];exact q,λb ps q=>⟨#[],by rw[aq (hm b _ q λz=>z),q];simp⟩⟩
 by_cases Lx:b=e
 ·subst Lx;exact M0
 ·exact⟨u,k b u Lx q⟩
end
noncomputable def EG (h:Heap)(H:Hp):List Addr:=(List.range h.objs.size).filter λa=>(H a).isSome
noncomputable def mj (h:Heap)(H:Hp):Heap:=PySem.W.hideAll h (EG h H)
theorem abZ (h:Heap)(H:Hp):(mj h H).objs.size=h.objs.size:=PySem.W.hideAll_size _ _
variable {o:Obj}
theorem aar {b:Addr}(e:h.get? b=some o)(n:H b=none):(mj h H).get? b=some o :=
 PySem.W.hideAll_get _ e λhm=>by
  have q:(H b).isSome=true:=(List.mem_filter.mp hm).2;rw[n] at q;simp at q
theorem aat {b:Addr}(e:(mj h H).get? b=some o):h.get? b=some o/\H b=none:=by
 have e':h.get? b=some o:=PySem.W.of_hideAll (EG h H) e;refine⟨e',?_⟩
 cases q:H b with
 |none=>rfl
 |some x =>
  have hm:b∈EG h H:=List.mem_filter.mpr ⟨List.mem_range.mpr (Heap.lt_size e'),by simp[q]⟩;have z:(mj h H).get? b=none:=PySem.W.hideAll_none (EG h H) hm;rw[z] at e;cases e
structure Mod (K:PySem.W.Frag)(mg:vJ)(base:Heap):Prop where
 kin:K.In base
 glob:base.Ns mainGlobals mg
 blt:∃mb,base.Ns builtinsNs mb/\∀x:Str,x ≠ "__name__"->mb x=bootBuiltins x
 nolimit:base.NoLimit
structure Cx where
 prog:Program
 w:World
 K:PySem.W.Frag
 mg:Str->Option Value
 base:Heap
 A:Around
 N:List Str
 s₀:Shared
 H₀:Hp
 env:Env
 outer:List Env
 stack:List Env
 ex:List Addr
 fn:Str->Bool
 calm:Bool
 pn:List (Addr×Obj)
 xe:Value->Shared->Prop
noncomputable def eA (l:List Env):List Addr:=l.filterMap (·.frame)
noncomputable abbrev Cx.fs (X:Cx):List Addr:=eA X.outer
noncomputable def EI (sc:Scope)(x:Str):Prop:=sc.names.lookup x=some .local\/sc.names.lookup x=some .cell\/sc.names.lookup x=some .free
noncomputable def C9 (sc:Scope)(x:Str):Prop:=sc.names.lookup x=some .local\/sc.names.lookup x=some .cell
noncomputable def aag (env:Env)(h:Heap)(m:vJ)(x:Str)(u:Value):Prop :=
 (env.kindOf x=some .local/\m x=some u)\/((env.kindOf x=some .cell\/env.kindOf x=some .free)/\∃c,env.cells.lookup x=some c/\h.IsCell c (some u))
structure Cx.Ok (X:Cx):Prop where
 mod:Mod X.K X.mg X.base
 kind:X.env.scope.kind=.function
 glob:X.env.globals=mainGlobals
 blt:X.env.builtins=builtinsNs
 above:X.s₀.heap.objs.size<=X.env.locals
 inj:∀x y c,X.env.cells.lookup x=some c->X.env.cells.lookup y=some c->x=y
 has:∀x,(X.env.kindOf x=some .cell\/X.env.kindOf x=some .free)->∃c,X.env.cells.lookup x=some c
 cab:∀x c,X.fn x=true->X.env.cells.lookup x=some c->X.s₀.heap.objs.size<=c
 hd:X.calm=true->X.A.handled=none
 frames:X.A.frames=some X.stack
 stk:X.stack=X.outer\/(X.stack=X.env::X.outer/\X.env.frame=some X.env.locals)
 exf:∀b∈X.ex,b≠X.env.locals/\∀x c,X.env.cells.lookup x=some c->c≠b
 bs:∀b o,X.base.get? b=some o->X.s₀.heap.get? b=some o/\X.H₀ b=none
 bsz:X.base.objs.size<=X.s₀.heap.objs.size
 abI:∀b o,X.base.get? b=some o->b∉X.ex
 abT:∀b∈X.ex,b∉X.fs
 aap:X.s₀.heap.FunFrames X.base X.outer
 frf:∀b∈X.fs,X.H₀ b=none
structure Inv (X:Cx)(pins:List (Addr×Obj))(σ:List (Option V))(H:Hp)(s:GH):Prop where
 ok:X.Ok
 os:s.os=X.s₀.os
 bare:AllBare s.gens
 base:Un X.fs X.ex X.H₀ H X.s₀.heap s.heap
 loc:∃m,s.heap.Ns X.env.locals m/\∀(i:Nat)(x:Str)(v:V),X.N[i]?=some x->σ[i]?=some (some v)->EI X.env.scope x->∃u,aG v u/\aag X.env s.heap m x u
 cell:∀x c,X.env.cells.lookup x=some c->∃v,s.heap.IsCell c v
 free:H X.env.locals=none
 aal:∀x c,X.env.cells.lookup x=some c->H c=none
 pin:∀p∈X.pn++pins,s.heap.get? p.1=some p.2/\H p.1=none/\p.1≠X.env.locals/\p.1∉X.fs/\∀v,p.2.data≠.cell v
 hok:gk X.prog X.w H s.heap
 len:σ.length=X.N.length
variable {N:xQ}{i:Nat}{x:Str}{M:Model}{A:Around}{v:V}
section
variable {X:Cx}{pins:List (Addr×Obj)}{σ:List (Option V)}{H H':Hp}{s:GH}{h':Heap}
theorem Cx.Ok.ac7 (ok:X.Ok){b:Addr}(e:X.base.get? b=some o):b∉X.fs:=λhb=>by
 have:=(ok.aap.mem hb).1;rw[e] at this;cases this
theorem Inv.bs (I:Inv X pins σ H s):∀b o,X.base.get? b=some o->s.heap.get? b=some o/\H b=none:=λb o e =>
 ⟨I.base.keep b o (I.ok.bs b o e).1 (I.ok.bs b o e).2 (I.ok.ac7 e) (I.ok.abI b o e),I.base.free b o (I.ok.bs b o e).1 (I.ok.bs b o e).2 (I.ok.abI b o e)⟩
theorem Inv.bk (I:Inv X pins σ H s):∀b o,X.base.get? b=some o->s.heap.get? b=some o:=λb o e=>(I.bs b o e).1
theorem Inv.mod (I:Inv X pins σ H s):Mod X.K X.mg X.base:=I.ok.mod
theorem Inv.kIn (I:Inv X pins σ H s):X.K.In s.heap:=I.ok.mod.kin.keeps I.bk
theorem Inv.fr (I:Inv X pins σ H s):∃m,Fr X.base X.env.locals s.heap m :=
 let⟨m,hn,_⟩:=I.loc
 ⟨m,hn,I.bk,Nat.le_trans I.ok.bsz I.ok.above⟩
theorem Inv.lt (I:Inv X pins σ H s):X.env.locals<s.heap.objs.size:=let⟨_,hn,_⟩:=I.loc;hn.lt
theorem Inv.sz (I:Inv X pins σ H s):X.s₀.heap.objs.size<=s.heap.objs.size:=Nat.le_trans I.ok.above (Nat.le_of_lt I.lt)
theorem Inv.acS (I:Inv X pins σ H s)(h:s.heap.objs.size<=a):a∉X.fs:=λhb=>by
 obtain⟨_,o,ho,_⟩:=I.ok.aap.mem hb;exact absurd (Nat.lt_of_lt_of_le (Heap.lt_size ho) (Nat.le_trans I.sz h)) (Nat.lt_irrefl _)
theorem Inv.cne (I:Inv X pins σ H s):∀x c,X.env.cells.lookup x=some c->c≠X.env.locals:=λx c e z=>by
 obtain⟨v,o,ho,hd⟩:=I.cell x c e;obtain⟨m,⟨o',es,ep,Iv,Tb,_⟩,_⟩:=I.loc;rw[z,Iv] at ho;cases ho;rw[Tb] at hd;cases hd
theorem Inv.aap (I:Inv X pins σ H s):s.heap.FunFrames X.base X.outer:=by
 have all:∀(l:List Env),(∀b∈eA l,b∈X.fs)->X.s₀.heap.FunFrames X.base l->s.heap.FunFrames X.base l:=by
  intro l
  induction l with
  |nil=>intro _ _;trivial
  |cons env r ih =>
   intro hs hl;obtain⟨hk,⟨L,o,hf,hn,ho,hd⟩,hr⟩:=hl;have hL:L∈X.fs:=hs L (by unfold eA;rw[List.filterMap_cons,hf];exact List.mem_cons_self);obtain⟨sl,e⟩:=I.base.slot L o ho (I.ok.frf L hL) hL λz=>I.ok.abT L z hL;exact⟨hk,⟨L,_,hf,hn,e,hd⟩,ih (λb hb=>hs b (by unfold eA;rw[List.filterMap_cons,hf];exact List.mem_cons_of_mem _ hb)) hr⟩
 exact all X.outer (λ_ hb=>hb) I.ok.aap
theorem Inv.stack (I:Inv X pins σ H s):s.heap.FunFrames X.base X.stack:=by
 rcases I.ok.stk with e|⟨e,hf⟩
 ·rw[e];exact I.aap
 ·rw[e];obtain⟨m,hn,_⟩:=I.loc;refine .cons (by rw[I.ok.kind];decide) hf hn ?_ I.aap;exact Heap.get?_none_of_le (Nat.le_trans I.ok.bsz I.ok.above)
theorem Inv.aav (I:Inv X pins σ H s):∀b∈eA X.stack,b∈X.env.locals::X.fs:=λb hb=>by
 rcases I.ok.stk with e|⟨e,hf⟩
 ·rw[e] at hb;exact List.mem_cons_of_mem _ hb
 ·rw[e] at hb;unfold eA at hb;rw[List.filterMap_cons,hf] at hb;exact hb
theorem Inv.aay (I:Inv X pins σ H s):∀b∈eA X.stack,H b=none:=λb hb=>by
 rcases List.mem_cons.mp (I.aav b hb) with e|hb
 ·rw[e];exact I.free
 ·obtain⟨_,o,ho,_⟩:=I.ok.aap.mem hb;exact I.base.free b o ho (I.ok.frf b hb) λz=>I.ok.abT b z hb
theorem Inv.step {g':Array GenState}{t':Nat}{d':Drawn}{ch:List Addr}(I:Inv X pins σ H s)
 (Kb:∀b∈ch,(b∈X.ex\/X.s₀.heap.objs.size<=b)/\b≠X.env.locals/\(∀x c,X.env.cells.lookup x=some c->c≠b)/\∀p∈X.pn++pins,p.1≠b)
 (keep:∀b o,b≠X.env.locals->b∉X.fs->b∉ch->s.heap.get? b=some o->H b=none->h'.get? b=some o)
 (slot:∀b o,b≠X.env.locals->b∈X.fs->b∉ch->s.heap.get? b=some o->H b=none->∃sl,h'.get? b=some {o with slots:=sl})(free:∀b o,b∉ch->s.heap.get? b=some o->H b=none->H' b=none)
 (there:∀b o,b∉ch->s.heap.get? b=some o->∃o',h'.get? b=some o')
 (aan:∀b xs,H b=some (.tup xs)->H' b=some (.tup xs))(aam:∀b o u,H b=some (.frz o u)->H' b=some (.frz o u))(aas:∀b ps,H b=some (.tbl ps)->∃more,H' b=some (.tbl (ps++more)))
 (ns:∀m,s.heap.Ns X.env.locals m->h'.Ns X.env.locals m)(hok:gk X.prog X.w H' h')(hg:AllBare g'):
 Inv X pins σ H' {s with heap:=h',gens:=g',drawn:=d',toks:=t'}:=by
 have X7:∀b o,X.s₀.heap.get? b=some o->b≠X.env.locals:=λb o e=>Nat.ne_of_lt (Nat.lt_of_lt_of_le (Heap.lt_size e) I.ok.above)
 have RD:∀b o,X.s₀.heap.get? b=some o->b∉X.ex->b∉ch:=λb o e hx hb=>by
  rcases(Kb b hb).1 with z|z
  ·exact hx z
  ·exact absurd (Nat.lt_of_lt_of_le (Heap.lt_size e) z) (Nat.lt_irrefl _)
 have cellK:∀x c,X.env.cells.lookup x=some c->∀v,s.heap.IsCell c v->h'.IsCell c v:=λx c e v ⟨o,ho,hd⟩=>by
  have NQ:c∉ch:=λz=>(Kb c z).2.2.1 x c e rfl
  by_cases hc:c∈X.fs
  ·obtain⟨sl,q⟩:=slot c o (I.cne x c e) hc NQ ho (I.aal x c e);exact⟨_,q,hd⟩
  ·exact⟨o,keep c o (I.cne x c e) hc NQ ho (I.aal x c e),hd⟩
 refine⟨I.ok,I.os,hg,⟨λb o e n hb hx=>?_,λb o e n hb hx=>?_,λb o e n hx=>?_,λb o e hx=>?_,λb xs e=>aan b xs (I.base.aan b xs e),λb o xs e=>aam b o xs (I.base.aam b o xs e),λb ps e=>?_⟩,?_,λx c e=>?_,?_,λx c e=>?_,λp hp=>?_,hok,I.len⟩
 ·exact keep b o (X7 b o e) hb (RD b o e hx) (I.base.keep b o e n hb hx) (I.base.free b o e n hx)
 ·obtain⟨sl,e1⟩:=I.base.slot b o e n hb hx;obtain⟨IY,e2⟩:=slot b _ (X7 b o e) hb (RD b o e hx) e1 (I.base.free b o e n hx);exact⟨IY,e2⟩
 ·obtain⟨o',e1⟩:=I.base.there b o e hx;exact free b o' (RD b o e hx) e1 (I.base.free b o e n hx)
 ·obtain⟨o',e1⟩:=I.base.there b o e hx;exact there b o' (RD b o e hx) e1
 ·obtain⟨m1,e1⟩:=I.base.aas b ps e;obtain⟨m2,e2⟩:=aas b _ e1;exact⟨m1++m2,by rw[e2,Array.append_assoc]⟩
 ·obtain⟨m,hn,hl⟩:=I.loc;refine⟨m,ns m hn,λi x v e1 e2 e3=>?_⟩;obtain⟨u,r,l⟩:=hl i x v e1 e2 e3;refine⟨u,r,?_⟩
  rcases l with l|⟨k,c,e,z⟩
  ·exact .inl l
  ·exact .inr ⟨k,c,e,cellK x c e _ z⟩
 ·obtain⟨v,z⟩:=I.cell x c e;exact⟨v,cellK x c e v z⟩
 ·obtain⟨m,⟨o,_,_,ho,_⟩,_⟩:=I.loc;exact free _ o (λz=>(Kb _ z).2.1 rfl) ho I.free
 ·obtain⟨v,o,ho,hd⟩:=I.cell x c e;exact free c o (λz=>(Kb c z).2.2.1 x c e rfl) ho (I.aal x c e)
 ·obtain⟨e,n,ne,nf,d⟩:=I.pin p hp;have NQ:p.1∉ch:=λz=>(Kb p.1 z).2.2.2 p hp rfl;exact⟨keep p.1 p.2 ne nf NQ e n,free p.1 p.2 NQ e n,ne,nf,d⟩
theorem Inv.un {t':Nat}(I:Inv X pins σ H s)(u:Un X.fs [] H H' s.heap h')(hok:gk X.prog X.w H' h'):Inv X pins σ H' {s with heap:=h',toks:=t'}:=by
 obtain⟨m,⟨o,es,ep,ho,r⟩,_⟩:=id I.loc;obtain⟨sl,hL⟩:=u.any ho I.free (by simp)
 exact I.step (g':=s.gens) (d':=s.drawn) (ch:=[]) (λ_ z=>nomatch z) (λb o _ hb _ e n=>u.keep b o e n hb (by simp)) (λb o _ hb _ e n=>u.slot b o e n hb (by simp)) (λb o _ e n=>u.free b o e n (by simp)) (λb o _ e=>u.there b o e (by simp)) u.aan u.aam u.aas (λm' hm=>by
  obtain⟨o',NR,NT,Iv,r'⟩:=hm;rw[ho] at Iv;cases Iv
  exact⟨_,NR,NT,hL,r'⟩) hok I.bare
theorem Inv.call {g':Array GenState}{t':Nat}{d':Drawn}{ch:List Addr}(I:Inv X pins σ H s)(u:Un (eA X.stack) ch H H' s.heap h')(hok:gk X.prog X.w H' h')(hg:AllBare g')
 (Kb:∀b∈ch,(b∈X.ex\/X.s₀.heap.objs.size<=b)/\b≠X.env.locals/\(∀x c,X.env.cells.lookup x=some c->c≠b)/\∀p∈X.pn++pins,p.1≠b):
 Inv X pins σ H' {s with heap:=h',gens:=g',drawn:=d',toks:=t'}:=by
 obtain⟨m,⟨o,es,ep,ho,r⟩,_⟩:=id I.loc;obtain⟨sl,hL⟩:=u.any ho I.free λz=>(Kb _ z).2.1 rfl
 exact I.step (ch:=ch) Kb (λb o hL hb hc e n=>u.keep b o e n (λz=>(List.mem_cons.mp (I.aav b z)).elim hL hb) hc) (λb o _ _ hc e n=>u.any e n hc) (λb o hc e n=>u.free b o e n hc) (λb o hc e=>u.there b o e hc) u.aan u.aam u.aas (λm' hm=>by
  obtain⟨o',NR,NT,Iv,r'⟩:=hm;rw[ho] at Iv;cases Iv
  exact⟨_,NR,NT,hL,r'⟩) hok hg
theorem Inv.turned {t':Nat}{it:Addr}(I:Inv X pins σ H s)(k:∀b o,b≠it->s.heap.get? b=some o->h'.get? b=some o)(hn:H it=none)(hL:it≠X.env.locals)
 (h1:it∈X.ex\/X.s₀.heap.objs.size<=it)(h2:∀x c,X.env.cells.lookup x=some c->c≠it)(h3:∀p∈X.pn++pins,p.1≠it):Inv X pins σ H {s with heap:=h',toks:=t'}:=by
 have KN:∀b u,H b=some u->b≠it:=λb u e z=>by rw[z,hn] at e;cases e
 refine I.step (g':=s.gens) (d':=s.drawn) (ch:=[it]) (λb hb=>?_) (λb o _ _ hc e _=>k b o (λz=>hc (by simp[z])) e) (λb o _ _ hc e _=>⟨o.slots,k b o (λz=>hc (by simp[z])) e⟩) (λ_ _ _ _ n=>n)
  (λb o hc e=>⟨o,k b o (λz=>hc (by simp[z])) e⟩) (λ_ _ e=>e) (λ_ _ _ e=>e) (λb ps e=>⟨#[],by rw[e];simp⟩) (λm hm=>?_) (λb u e=>?_) I.bare
 ·have e:b=it:=by simpa using hb
  subst e;exact⟨h1,hL,h2,h3⟩
 ·obtain⟨o,es,ep,ho,r⟩:=hm;exact⟨o,es,ep,k _ o (Ne.symm hL) ho,r⟩
 ·refine(I.hok b u e).abw (λc v hc q=>k c v ?_ q) (λ_ q=>q) λ_ _ q=>q
  rcases hc with z|z
  ·rw[z];exact KN b u e
  ·exact KN c _ z
theorem Inv.tok (I:Inv X pins σ H s)(t:Nat):Inv X pins σ H {s with toks:=t}:=I.un (h':=s.heap) (t':=t) Un.refl I.hok
theorem Inv.kept {t':Nat}(I:Inv X pins σ H s)(k:∀b u,s.heap.get? b=some u->h'.get? b=some u):Inv X pins σ H {s with heap:=h',toks:=t'}:=I.un (Un.kept k) (I.hok.kept k)
theorem Inv.laid {a:Addr}{o:HO}{t':Nat}(I:Inv X pins σ H s)(k:∀b u,s.heap.get? b=some u->h'.get? b=some u)(hp:s.heap.objs.size<=a)(new:ba X.prog X.w (upd H a o) h' a o):
 Inv X pins σ (upd H a o) {s with heap:=h',toks:=t'}:=I.un (Un.laid k hp (I.hok.fresh hp)) (I.hok.laid k hp new)
theorem Inv.write {x e:Addr}{o:HO}{t':Nat}(I:Inv X pins σ H s)(mu:DN (H x))(he:e=x\/H e=some (.own x))(k:∀b u,b≠e->s.heap.get? b=some u->h'.get? b=some u)(M0:∃u,h'.get? e=some u)
 (new:ba X.prog X.w (upd H x o) h' x o):Inv X pins σ (upd H x o) {s with heap:=h',toks:=t'}:=I.un (Un.write mu he k M0) (I.hok.write mu he k M0 new)
theorem Inv.aaz {pins':List (Addr×Obj)}(I:Inv X pins σ H s)(h:∀p∈pins',s.heap.get? p.1=some p.2/\H p.1=none/\p.1≠X.env.locals/\p.1∉X.fs/\∀v,p.2.data≠.cell v):Inv X pins' σ H s :=
 ⟨I.ok,I.os,I.bare,I.base,I.loc,I.cell,I.free,I.aal,λp hp=>(List.mem_append.mp hp).elim (λz=>I.pin p (List.mem_append_left _ z)) (h p),I.hok,I.len⟩
theorem kb (hN:N.Nodup){j:Nat}(a:N[i]?=some x)(b:N[j]?=some x):i=j:=by
 obtain⟨h1,e1⟩:=List.getElem?_eq_some_iff.mp a;obtain⟨h2,e2⟩:=List.getElem?_eq_some_iff.mp b;exact(List.getElem_inj hN).mp (e1.trans e2.symm)
theorem nI {E:wA}{Q:Unit->Shared->Prop}(I:Inv X pins σ H s)(hN:X.N.Nodup)(hi:X.N[i]?=some x)(hx:C9 X.env.scope x)(r:aG v u)
 (h:∀s',Inv X pins (σ.set i (some v)) H s'->(∃a,Heap.SameBut a s.heap s'.heap/\(a=X.env.locals\/X.env.cells.lookup x=some a))->Q () s')(hf:X.fn x=true\/X.env.scope.names.lookup x=some .local:=by first|exact .inl rfl|exact .inr rfl|assumption):wpAny M A (storeName X.env x u) Q E s:=by
 obtain⟨m,hn,hl⟩:=id I.loc
 have Tc:(X.env.scope.kind == .class || (X.env.scope.kind == .module&&X.env.locals != X.env.globals))=false:=by rw[I.ok.kind];rfl
 have X8:i<σ.length:=by rw[I.len];exact(List.getElem?_eq_some_iff.mp hi).1
 have cne:=I.cne
 have tracked:∀{a:Addr}{h':Heap},(∃o,s.heap.get? a=some o/\H a=none)->Heap.SameBut a s.heap h'->gk X.prog X.w H h':=λ{a h'} ha hs b ob e=>by
  obtain⟨_,_,IM⟩:=ha;refine(I.hok b ob e).abw (λc w' hc q=>(hs.2 c ?_).trans q) (λ_ q=>q) λ_ _ q=>q;rintro rfl
  rcases hc with rfl|hc
  ·rw[IM] at e;cases e
  ·rw[IM] at hc;cases hc
 rcases hx with hk|hk
 ·refine wpAny_storeName_local hk hn (λh' Ly hs=>?_) Tc;obtain⟨oL,_,_,hoL,_⟩:=id hn;refine h _ ⟨I.ok,I.os,I.bare,⟨λb o e n hb hx=>?_,λb o e n hb hx=>?_,I.base.free,λb o e hx=>?_,I.base.aan,I.base.aam,I.base.aas⟩,⟨_,Ly,λj y v' e1 e2 e3=>?_⟩,λy c e=>?_,I.free,I.aal,λp hp=>?_,tracked ⟨oL,hoL,I.free⟩ hs,by simpa using I.len⟩ ⟨_,hs,.inl rfl⟩
  ·exact(hs.2 b (Nat.ne_of_lt (Nat.lt_of_lt_of_le (Heap.lt_size e) I.ok.above))).trans (I.base.keep b o e n hb hx)
  ·obtain⟨sl,e1⟩:=I.base.slot b o e n hb hx;exact⟨sl,(hs.2 b (Nat.ne_of_lt (Nat.lt_of_lt_of_le (Heap.lt_size e) I.ok.above))).trans e1⟩
  ·obtain⟨o',e1⟩:=I.base.there b o e hx;exact⟨o',(hs.2 b (Nat.ne_of_lt (Nat.lt_of_lt_of_le (Heap.lt_size e) I.ok.above))).trans e1⟩
  ·by_cases hj:j=i
   ·subst hj;rw[hi] at e1;cases e1;rw[List.getElem?_set_self X8] at e2
    cases e2
    exact⟨u,r,.inl ⟨hk,by simp⟩⟩
   ·rw[List.getElem?_set_ne (Ne.symm hj)] at e2;obtain⟨u',r',q⟩:=hl j y v' e1 e2 e3;refine⟨u',r',?_⟩
    rcases q with⟨k,e⟩|⟨k,c,e,z⟩
    ·refine .inl ⟨k,?_⟩;have:y≠x:=λe=>hj (kb hN e1 (e▸hi));simp[this,e]
    ·exact .inr ⟨k,c,e,z.sameBut hs (cne y c e)⟩
  ·obtain⟨w',z⟩:=I.cell y c e;exact⟨w',z.sameBut hs (cne y c e)⟩
  ·obtain⟨e,n,ne,nf,d⟩:=I.pin p hp;exact⟨(hs.2 p.1 ne).trans e,n,ne,nf,d⟩
 ·have Td:X.fn x=true:=by
   rcases hf with z|z
   ·exact z
   ·rw[z] at hk;cases hk
  obtain⟨c,hc⟩:=I.ok.has x (.inl hk);obtain⟨w',z⟩:=I.cell x c hc;refine wpAny_storeName_cell I.ok.kind hk hc z (λh' HD hs=>?_);obtain⟨oc,X9,Tf⟩:=id z;refine h {s with heap:=h'} ⟨I.ok,I.os,I.bare,⟨λb o e n hb hx=>?_,λb o e n hb hx=>?_,I.base.free,λb o e hx=>?_,I.base.aan,I.base.aam,I.base.aas⟩,⟨m,hn.sameBut hs (Ne.symm (cne x c hc)),λj y v' e1 e2 e3=>?_⟩,λy c' e=>?_,I.free,I.aal,λp hp=>?_,tracked ⟨oc,X9,I.aal x c hc⟩ hs,by simpa using I.len⟩ ⟨c,hs,.inr hc⟩
  ·exact(hs.2 b (Nat.ne_of_lt (Nat.lt_of_lt_of_le (Heap.lt_size e) (I.ok.cab x c Td hc)))).trans (I.base.keep b o e n hb hx)
  ·obtain⟨sl,e1⟩:=I.base.slot b o e n hb hx;exact⟨sl,(hs.2 b (Nat.ne_of_lt (Nat.lt_of_lt_of_le (Heap.lt_size e) (I.ok.cab x c Td hc)))).trans e1⟩
  ·obtain⟨o',e1⟩:=I.base.there b o e hx;exact⟨o',(hs.2 b (Nat.ne_of_lt (Nat.lt_of_lt_of_le (Heap.lt_size e) (I.ok.cab x c Td hc)))).trans e1⟩
  ·by_cases hj:j=i
   ·subst hj;rw[hi] at e1;cases e1;rw[List.getElem?_set_self X8] at e2
    cases e2
    exact⟨u,r,.inr ⟨.inl hk,c,hc,HD⟩⟩
   ·rw[List.getElem?_set_ne (Ne.symm hj)] at e2;obtain⟨u',r',q⟩:=hl j y v' e1 e2 e3;refine⟨u',r',?_⟩
    rcases q with q|⟨k,c',e,z'⟩
    ·exact .inl q
    ·refine .inr ⟨k,c',e,z'.sameBut hs ?_⟩;rintro rfl;exact hj (kb hN e1 (I.ok.inj _ _ _ e hc▸hi))
  ·by_cases Yb:c'=c
   ·subst Yb;exact⟨_,HD⟩
   ·obtain⟨w2,z2⟩:=I.cell y c' e;exact⟨w2,z2.sameBut hs Yb⟩
  ·obtain⟨e,n,ne,nf,d⟩:=I.pin p hp;refine⟨(hs.2 p.1 ?_).trans e,n,ne,nf,d⟩;intro q;rw[q,X9] at e;have q':oc=p.2:=Option.some.inj e;exact d w' (by rw[<-q'];exact Tf)
theorem gw {M:Model}{E:wA}{Q:Unit->Shared->Prop}(I:Inv X pins σ H s)(hN:X.N.Nodup)(hi:X.N[i]?=some x)(hx:C9 X.env.scope x)(r:aG v u)
 (h:∀s',Inv X pins (σ.set i (some v)) H s'->Q () s')(hf:X.fn x=true\/X.env.scope.names.lookup x=some .local:=by first|exact .inl rfl|exact .inr rfl|assumption):wpAny M A (storeName X.env x u) Q E s :=
 nI I hN hi hx r (λs' I' _=>h s' I') hf
theorem Inv.acs {s':GH}{ch:List Addr}(I:Inv X pins σ H s)(ho:s'.os=s.os)(u:Un (eA X.stack) ch H H' s.heap s'.heap)(hok:gk X.prog X.w H' s'.heap)(hg:AllBare s'.gens)
 (Kb:∀b∈ch,(b∈X.ex\/X.s₀.heap.objs.size<=b)/\b≠X.env.locals/\(∀x c,X.env.cells.lookup x=some c->c≠b)/\∀p∈X.pn++pins,p.1≠b):Inv X pins σ H' s':=by
 obtain⟨h',g',d',t',o'⟩:=s';have e:o'=s.os:=ho;subst e;exact I.call (g':=g') (t':=t') (d':=d') u hok hg Kb
end
noncomputable abbrev XK:=Value->Option Addr->Hp->Prop
noncomputable abbrev St:=List (Option V)
noncomputable abbrev VK:=V->Hp->Prop
noncomputable abbrev TE:=St->Hp->VK->Prop
noncomputable abbrev TT:=St->Hp->(Bool->Hp->Prop)->Prop
noncomputable abbrev TA:=St->Hp->(List V->Hp->Prop)->Prop
structure Ends where
 nx:St->Hp->Prop
 rt:VK
 bk:St->Hp->Prop:=λ_ _=>False
 ct:St->Hp->Prop:=λ_ _=>False
noncomputable abbrev TS:=Ends->St->Hp->Prop
noncomputable def EP (X:Cx)(pins:List (Addr×Obj))(σ:St)(Q:VK)(u:Value)(s':GH):Prop:=∃v H',Inv X pins σ H' s'/\aG v u/\Q v H'
noncomputable def TP (X:Cx)(pins:List (Addr×Obj))(σ:St)(Q:Bool->Hp->Prop)(b:Bool)(s':GH):Prop:=∃H',Inv X pins σ H' s'/\Q b H'
noncomputable def AP (X:Cx)(pins:List (Addr×Obj))(σ:St)(Q:List V->Hp->Prop)(us:oH)(s':GH):Prop:=∃vs H',Inv X pins σ H' s'/\aK vs us/\Q vs H'
noncomputable def SP (X:Cx)(pins:List (Addr×Obj))(D:Ends)(f:Flow)(s':GH):Prop :=
 match f with
 | .next=>∃σ' H',Inv X pins σ' H' s'/\D.nx σ' H'
 | .brk=>∃σ' H',Inv X pins σ' H' s'/\D.bk σ' H'
 | .cont=>∃σ' H',Inv X pins σ' H' s'/\D.ct σ' H'
 | .ret u=>∃v σ' H',Inv X pins σ' H' s'/\aG v u/\D.rt v H'
noncomputable def PE (X:Cx)(e:Expr)(t:TE):Prop :=
 ∀(pins:List (Addr×Obj))(s:GH)(σ:St)(H:Hp)(Q:VK),Inv X pins σ H s->t σ H Q->wpAny (model X.prog X.w) X.A (eval e X.env) (EP X pins σ Q) X.xe s
noncomputable def PT (X:Cx)(e:Expr)(t:TT):Prop :=
 ∀(pins:List (Addr×Obj))(s:GH)(σ:St)(H:Hp)(Q:Bool->Hp->Prop),Inv X pins σ H s->t σ H Q->wpAny (model X.prog X.w) X.A (isTrue e X.env (eval e X.env)) (TP X pins σ Q) X.xe s
noncomputable def PW (X:Cx)(e:Expr)(t:TT):Prop :=
 ∀(dR:Sem Value)(pins:List (Addr×Obj))(s:GH)(σ:St)(H:Hp)(Q:Bool->Hp->Prop),Inv X pins σ H s->t σ H Q->wpAny (model X.prog X.w) X.A (isTrue e X.env dR) (TP X pins σ Q) X.xe s
variable {X:Cx}{e:Expr}
theorem PW.pt {t:TT}(h:PW X e t):PT X e t:=h _
noncomputable def PA (X:Cx)(es:Bl)(t:TA):Prop :=
 ∀(pos:Pos)(pins:List (Addr×Obj))(s:GH)(σ:St)(H:Hp)(Q:List V->Hp->Prop),Inv X pins σ H s->t σ H Q->wpAny (model X.prog X.w) X.A (spliced (backTo pos (starEach es X.env))) (AP X pins σ Q) X.xe s
noncomputable def PS (X:Cx)(st:Stmt)(t:TS):Prop :=
 ∀(pins:List (Addr×Obj))(s:GH)(σ:St)(H:Hp)(D:Ends),Inv X pins σ H s->t D σ H->wpAny (model X.prog X.w) X.A (exec st X.env) (SP X pins D) X.xe s
noncomputable def pz (X:Cx)(st:List Stmt)(t:TS):Prop :=
 ∀(pins:List (Addr×Obj))(s:GH)(σ:St)(H:Hp)(D:Ends),Inv X pins σ H s->t D σ H->wpAny (model X.prog X.w) X.A (execs st X.env) (SP X pins D) X.xe s
variable {s:GH}
theorem bA {α:Type}{t:Sem α}{Q Q':α->Shared->Prop}{E:wA}(h:wpAny M A t Q E s)(hQ:∀a s,Q a s->Q' a s):wpAny M A t Q' E s:=wpAny_mono h hQ λ_ _ x=>x
variable {pins:List (Addr×Obj)}{σ:St}{op:CmpOp}{c:Expr}
section
variable {X:Cx}
noncomputable def dY (i:Nat):TE:=λσ H Q=>∃v,σ[i]?=some (some v)/\Q v H
noncomputable def tC (v:V):TE:=λ_ H Q=>Q v H
theorem Sh0 {pos:Pos}(hN:X.N[i]?=some x)(hv:EI X.env.scope x)(hd:(x==("__debug__":Str))=false:=by decide)(HB:(x==("__classdict__":Str))=false:=by decide):PE X (.Name x pos) (dY i):=by
 intro pins s σ H Q I h;obtain⟨v,e,h⟩:=h;obtain⟨m,hn,hl⟩:=I.loc;obtain⟨u,r,l⟩:=hl i x v hN e hv;have fin:EP X pins σ Q u s:=⟨v,H,I,r,h⟩
 rcases l with⟨hk,hm⟩|⟨hk,c,hc,Jj⟩
 ·exact wpAny_Name (wpAny_loadName_local I.ok.kind hk hn hm fin) hd
 ·rcases hk with hk|hk
  ·exact wpAny_Name (wpAny_loadName_cell I.ok.kind hk hc Jj fin) hd
  ·exact wpAny_Name (wpAny_loadName_free I.ok.kind hk hc Jj fin HB) hd
theorem ak {i j pos}:PE X (.Constant (.int i) j pos) (tC (.int i)):=λ_ _ _ H _ I h=>wpAny_Constant_int ⟨.int i,H,I.tok _,⟨_,rfl⟩,h⟩
theorem cV {b j pos}:PE X (.Constant (.bool b) j pos) (tC (.bl b)):=λ_ _ _ H _ I h=>Constant_bool ⟨.bl b,H,I,rfl,h⟩
theorem b7 {j pos}:PE X (.Constant .none j pos) (tC .non):=λ_ _ _ H _ I h=>Constant_none ⟨.non,H,I,rfl,h⟩
theorem aX {x j pos}:PE X (.Constant (.str x) j pos) (tC (.str x)):=λ_ _ _ H _ I h=>Calls.Constant_str ⟨.str x,H,I.tok _,⟨_,rfl⟩,h⟩
noncomputable def Gl (X:Cx)(x:Str):Prop:=X.env.kindOf x=some .globalImplicit
theorem dE {E:wA}{pos:Pos}{Q:wA}(I:Inv X pins σ H s)(hg:Gl X x)(hm:X.mg x=some u)(h:Q u s)
 (hd:(x==("__debug__":Str))=false:=by decide):wpAny (model X.prog X.w) X.A (eval (.Name x pos) X.env) Q E s :=
 Calls.Name_function_global I.ok.kind hg (Calls.loadGlobal_global (by rw[I.ok.glob];exact I.mod.glob.keeps I.bk) hm h) hd
theorem gM {E:wA}{pos:Pos}{Q:wA}(I:Inv X pins σ H s)(hg:Gl X x)(hm:X.mg x=none)(hv:bootBuiltins x=some u)(h:Q u s)
 (hn:x ≠ "__name__":=by decide)(hd:(x==("__debug__":Str))=false:=by decide):wpAny (model X.prog X.w) X.A (eval (.Name x pos) X.env) Q E s:=by
 obtain⟨mb,h1,h2⟩:=I.mod.blt;exact Calls.Name_function_global I.ok.kind hg (Calls.loadGlobal_builtin (by rw[I.ok.glob];exact I.mod.glob.keeps I.bk) hm (by rw[I.ok.blt];exact h1.keeps I.bk) ((h2 x hn).trans hv) h) hd
theorem bR {pos:Pos}(hg:Gl X x)(hm:X.mg x=some u)(r:aG v u)(hd:(x==("__debug__":Str))=false:=by decide):PE X (.Name x pos) (tC v):=
 λ_ _ _ H _ I h=>dE I hg hm ⟨v,H,I,r,h⟩ hd
theorem dh {pos:Pos}(hg:Gl X x)(hm:X.mg x=none)(hv:bootBuiltins x=some u)(r:aG v u)(hn:x ≠ "__name__":=by decide)(hd:(x==("__debug__":Str))=false:=by decide):PE X (.Name x pos) (tC v):=
 λ_ _ _ H _ I h=>gM I hg hm hv ⟨v,H,I,r,h⟩ hn hd
variable {a b:Expr}{ta tb:TE}{pos:Pos}
noncomputable def PC (X:Cx)(op:CmpOp)(a b:Expr)(t:TE):Prop :=
 ∀(pins:List (Addr×Obj))(s:GH)(σ:St)(H:Hp)(Q:VK),Inv X pins σ H s->t σ H Q →
  wpAny (model X.prog X.w) X.A (eval a X.env) (λv s₁=>wpAny (model X.prog X.w) X.A (eval b X.env) (λu s₂=>wpAny (model X.prog X.w) X.A (compareOp op v u) (EP X pins σ Q) X.xe s₂) X.xe s₁) X.xe s
noncomputable def tB (t:TE):TT:=λσ H Q=>t σ H λx H1=>∃c,x=.bl c/\Q c H1
theorem AlX {t:TE}(h:PC X op a b t)(h1:behindInMarks op b=false:=by first|exact NU _ (by decide) (by decide)|rfl):PT X (.Compare a [op] [b] pos) (tB t):=by
 intro pins s σ H Q I hw;refine wpAny_isTrue_Compare1 (bA (h pins s σ H _ I hw) λv s1 h1=>bA h1 λu s2 h2=>bA h2 λc s3 z'=>?_) h1;obtain⟨x,H1,I1,r1,q1⟩:=z';obtain⟨d,rfl,q⟩:=q1
 cases r1
 exact wpAny_truthy_bool ⟨H1,I1,q⟩
theorem cf {t:TE}(h:PE X e t)(he:∀dR,isTrue e X.env dR=(do let v <-dR;standAt e.pos;holding [v] (truthy v)):=by intro _;rfl):PT X e (tB t):=by
 intro pins s σ H Q I hw;refine isTrue_plain (bA (h pins s σ H _ I hw) λv s1 z'=>?_) (he _);obtain⟨x,H1,I1,r1,q1⟩:=z';obtain⟨d,rfl,q⟩:=q1
 cases r1
 exact wpAny_truthy_bool ⟨H1,I1,q⟩
variable {tA RE:TT}{rest:Bl}
noncomputable def DI (t u:TT):TT:=λσ H Q=>t σ H λc H1=>if c=true then u σ H1 Q else Q false H1
noncomputable def CXT (t u:TT):TT:=λσ H Q=>t σ H λc H1=>if c=true then Q true H1 else u σ H1 Q
noncomputable def Als (t:TT):TT:=λσ H Q=>t σ H λc H1=>Q (!c) H1
theorem iP (ha:PT X a tA):PW X (.BoolOp .And [a] pos) tA:=by
 intro wh pins s σ H Q I h;refine isTrue_and (bA (ha pins s σ H Q I h) λc s1 e=>?_)
 cases c with
 |true=>exact isTrue_and_nil e
 |false=>exact e
theorem dt (ha:PT X a tA):PW X (.BoolOp .Or [a] pos) tA:=by
 intro wh pins s σ H Q I h;refine isTrue_or (bA (ha pins s σ H Q I h) λc s1 e=>?_)
 cases c with
 |false=>exact isTrue_or_nil e
 |true=>exact e
theorem je (ha:PT X a tA)(hb:PW X (.BoolOp .And (b::rest) pos) RE):PW X (.BoolOp .And (a::b::rest) pos) (DI tA RE):=by
 intro wh pins s σ H Q I h;refine isTrue_and (bA (ha pins s σ H _ I h) λc s1 z'=>?_);obtain⟨H1,I1,q1⟩:=z'
 cases c with
 |true=>exact hb wh pins s1 σ H1 Q I1 q1
 |false=>exact⟨H1,I1,q1⟩
theorem dH (ha:PT X a tA)(hb:PW X (.BoolOp .Or (b::rest) pos) RE):PW X (.BoolOp .Or (a::b::rest) pos) (CXT tA RE):=by
 intro wh pins s σ H Q I h;refine isTrue_or (bA (ha pins s σ H _ I h) λc s1 z'=>?_);obtain⟨H1,I1,q1⟩:=z'
 cases c with
 |true=>exact⟨H1,I1,q1⟩
 |false=>exact hb wh pins s1 σ H1 Q I1 q1
theorem bM (ha:PT X a tA):PT X (.UnaryOp .Not a pos) (Als tA):=by
 intro pins s σ H Q I h;exact isTrue_not (ha pins s σ H (λc H1=>Q (!c) H1) I h)
noncomputable def aaB (ta tb:TE):TE:=λσ H Q=>ta σ H λx H1=>∃c,x=.bl c/\if c=true then tb σ H1 Q else Q (.bl false) H1
noncomputable def aaC (ta tb:TE):TE:=λσ H Q=>ta σ H λx H1=>∃c,x=.bl c/\if c=true then Q (.bl true) H1 else tb σ H1 Q
noncomputable def aaj (ta:TE):TE:=λσ H Q=>ta σ H λx H1=>∃c,x=.bl c/\Q (.bl (!c)) H1
theorem dC {op}{t:TE}(h:PE X a t):PE X (.BoolOp op [a] pos) t:=λpins s σ H Q I hw=>BoolOp_one (h pins s σ H Q I hw)
theorem cp (ha:PE X a ta)(hb:PE X (.BoolOp .And (b::rest) pos) tb):PE X (.BoolOp .And (a::b::rest) pos) (aaB ta tb):=by
 intro pins s σ H Q I h;refine BoolOp_and (bA (ha pins s σ H _ I h) λv s1 z'=>?_);obtain⟨x,H1,I1,r1,q1⟩:=z';obtain⟨c,rfl,q1⟩:=q1
 cases r1
 refine wpAny_truthy_bool ?_
 cases c with
 |true=>exact hb pins s1 σ H1 Q I1 q1
 |false=>exact⟨.bl false,H1,I1,rfl,q1⟩
theorem Cls (ha:PE X a ta)(hb:PE X (.BoolOp .Or (b::rest) pos) tb):PE X (.BoolOp .Or (a::b::rest) pos) (aaC ta tb):=by
 intro pins s σ H Q I h;refine BoolOp_or (bA (ha pins s σ H _ I h) λv s1 z'=>?_);obtain⟨x,H1,I1,r1,q1⟩:=z';obtain⟨c,rfl,q1⟩:=q1
 cases r1
 refine wpAny_truthy_bool ?_
 cases c with
 |false=>exact hb pins s1 σ H1 Q I1 q1
 |true=>exact⟨.bl true,H1,I1,rfl,q1⟩
theorem xD (ha:PE X a ta):PE X (.UnaryOp .Not a pos) (aaj ta):=by
 intro pins s σ H Q I h;refine UnaryOp_ (bA (ha pins s σ H _ I h) λv s1 z'=>?_);obtain⟨x,H1,I1,r1,q1⟩:=z';obtain⟨c,rfl,q1⟩:=q1
 cases r1
 exact not_of (wpAny_truthy_bool ⟨.bl (!c),H1,I1,rfl,q1⟩)
noncomputable def aaE (t:TT)(ta tb:TE):TE:=λσ H Q=>t σ H λc H1=>if c=true then ta σ H1 Q else tb σ H1 Q
theorem lU (hc:PT X c tA)(ha:PE X a ta)(hb:PE X b tb):PE X (.IfExp c a b pos) (aaE tA ta tb):=by
 intro pins s σ H Q I h;refine wpAny_IfExp (bA (hc pins s σ H _ I h) λd s1 z'=>?_);obtain⟨H1,I1,q1⟩:=z'
 cases d with
 |true=>exact ha pins s1 σ H1 Q I1 q1
 |false=>exact hb pins s1 σ H1 Q I1 q1
end
noncomputable def aM (K:PySem.W.Frag)(H:Hp)(a:Addr)(xs:List V):Prop :=
 Rd H a (.lst xs) \/
  ∃(o:Obj)(its:BU)(n:Nat),K.lookup a=some o/\o.cls=.type "list"/\o.dict=none/\o.data=.seq its n/\its.size<=sizeLine/\aK xs its.toList
noncomputable def bX (K:PySem.W.Frag)(H:Hp)(a:Addr)(xs:List V):Prop :=
 Rd H a (.tup xs) \/
  ∃(o:Obj)(its:BU)(n:Nat),K.lookup a=some o/\o.cls=.type "tuple"/\o.data=.seq its n/\its.size<=sizeLine/\aK xs its.toList
noncomputable def aaF:Value->Option V
 | .none=>some .non
 | .bool b=>some (.bl b)
 | .int i _=>some (.int i)
 | .str x _=>some (.str x)
 | .bytes b _=>some (.byt b)
 | .float b _=>some (.flt b)
 | .ref a=>some (.ref a)
 | .type n=>some (.ty n)
 |_=>none
theorem aG.abs {x:V}(r:aG x u):aaF u=some x:=by
 cases x with
 |non=>cases r;rfl
 |bl _=>cases r;rfl
 |int _=>obtain⟨t,rfl⟩:=r;rfl
 |str _=>obtain⟨t,rfl⟩:=r;rfl
 |byt _=>obtain⟨t,rfl⟩:=r;rfl
 |flt _=>obtain⟨t,rfl⟩:=r;rfl
 |ref _=>cases r;rfl
 |ty _=>cases r;rfl
variable {y:V}
theorem aG.inj {x:V}(r:aG x u)(q:aG y u):x=y:=Option.some.inj (r.abs.symm.trans q.abs)
theorem aK.inj:∀{xs ys:List V}{us:oH},aK xs us->aK ys us->xs=ys
 |_,_,_,.nil,.nil=>rfl
 |_,_,_,.cons r t,.cons r' t'=>by rw[r.inj r',aK.inj t t']
variable {K:PySem.W.Frag}
section
variable {X:Cx}{pins:List (Addr×Obj)}{σ:St}{H:Hp}{s:GH}{a:Addr}{xs ys:List V}
theorem aM.of (h:H a=some (.lst xs)):aM K H a xs:=.inl (.inl h)
theorem bX.of (h:H a=some (.tup xs)):bX K H a xs:=.inl (.inl h)
theorem Inv.list (I:Inv X pins σ H s)(h:aM X.K H a xs):∃its:List Value,aK xs its/\PlainL s.heap a its.toArray/\xs.length<=sizeLine:=by
 rcases h with h|⟨o,its,n,hk,hc,hd,hs,hz,r⟩
 ·obtain⟨z,its,n,r,e⟩:=h.ok I.hok;exact⟨its,r,⟨_,n,e,rfl,rfl,rfl⟩,z⟩
 ·refine⟨its.toList,r,⟨o,n,I.kIn a o hk,hc,hd,by simpa using hs⟩,?_⟩;have e:=r.length;simp only[Array.length_toList] at e;omega
theorem Inv.tuple (I:Inv X pins σ H s)(h:bX X.K H a xs):∃its:List Value,aK xs its/\IsTup s.heap a its.toArray/\xs.length<=sizeLine:=by
 rcases h with h|⟨o,its,n,hk,hc,hs,hz,r⟩
 ·obtain⟨z,its,r,p⟩:=h.ok I.hok;exact⟨its,r,p,z⟩
 ·refine⟨its.toList,r,⟨o,I.kIn a o hk,hc,n,by simpa using hs⟩,?_⟩;have e:=r.length;simp only[Array.length_toList] at e;omega
theorem Inv.aaS (I:Inv X pins σ H s)(h:aM X.K H a xs)(h':aM X.K H a ys):xs=ys:=by
 obtain⟨its,r,⟨o,n,e,_,_,d⟩,_⟩:=I.list h;obtain⟨its',r',⟨o',n',e',_,_,d'⟩,_⟩:=I.list h';rw[e] at e';cases e';rw[d] at d'
 injection d' with d1 _
 have:its=its':=by simpa using congrArg Array.toList d1
 subst this;exact r.inj r'
theorem Inv.aaA (I:Inv X pins σ H s)(h:bX X.K H a xs)(h':bX X.K H a ys):xs=ys:=by
 obtain⟨its,r,⟨o,e,_,n,d⟩,_⟩:=I.tuple h;obtain⟨its',r',⟨o',e',_,n',d'⟩,_⟩:=I.tuple h';rw[e] at e';cases e';rw[d] at d'
 injection d' with d1 _
 have:its=its':=by simpa using congrArg Array.toList d1
 subst this;exact r.inj r'
end
noncomputable abbrev Cx.abx (X:Cx)(E:wA):Cx:={X with xe:=E}
noncomputable abbrev Cx.nox (X:Cx):Cx:=X.abx λ_ _=>False
theorem Cx.Ok.abx (ok:X.Ok)(E:wA):(X.abx E).Ok :=
 ⟨ok.mod,ok.kind,ok.glob,ok.blt,ok.above,ok.inj,ok.has,ok.cab,ok.hd,ok.frames,ok.stk,ok.exf,ok.bs,ok.bsz,ok.abI,ok.abT,ok.aap,ok.frf⟩
theorem Cx.Ok.aax {E:wA}(ok:(X.abx E).Ok):X.Ok :=
 ⟨ok.mod,ok.kind,ok.glob,ok.blt,ok.above,ok.inj,ok.has,ok.cab,ok.hd,ok.frames,ok.stk,ok.exf,ok.bs,ok.bsz,ok.abI,ok.abT,ok.aap,ok.frf⟩
section
variable {X:Cx}{pins:List (Addr×Obj)}{σ:St}{H:Hp}{s:GH}{E:wA}
theorem Inv.abx (I:Inv X pins σ H s)(E:wA):Inv (X.abx E) pins σ H s:=⟨I.ok.abx E,I.os,I.bare,I.base,I.loc,I.cell,I.free,I.aal,I.pin,I.hok,I.len⟩
theorem Inv.aax (I:Inv (X.abx E) pins σ H s):Inv X pins σ H s:=⟨I.ok.aax,I.os,I.bare,I.base,I.loc,I.cell,I.free,I.aal,I.pin,I.hok,I.len⟩
theorem SP.aax {D:Ends}{f:Flow}{s':GH}(h:SP (X.abx E) pins D f s'):SP X pins D f s':=by
 cases f with
 |next=>obtain⟨σ',H',I,q⟩:=h;exact⟨σ',H',I.aax,q⟩
 |brk=>obtain⟨σ',H',I,q⟩:=h;exact⟨σ',H',I.aax,q⟩
 |cont=>obtain⟨σ',H',I,q⟩:=h;exact⟨σ',H',I.aax,q⟩
 |ret u=>obtain⟨v,σ',H',I,r,q⟩:=h;exact⟨v,σ',H',I.aax,r,q⟩
theorem pz.nox {st:List Stmt}{t:TS}(h:pz X.nox st t):pz X st t:=λpins s σ H D I hw =>
 wpAny_mono (h pins s σ H D (I.abx _) hw) (λ_ _ q=>q.aax) λ_ _ z=>False.elim z
end
section
variable {X:Cx}{st:Stmt}{rest:List Stmt}{t u:TS}{e:Expr}{te:TE}{pos:Pos}
noncomputable def Ah:TS:=λD σ H=>D.nx σ H
noncomputable def vM (t u:TS):TS:=λD σ H=>t {D with nx:=u D} σ H
theorem aE:pz X [] Ah:=λ_ _ σ H _ I h=>wpAny_execs_nil ⟨σ,H,I,h⟩
theorem aj (h1:PS X st t)(h2:pz X rest u):pz X (st::rest) (vM t u):=by
 intro pins s σ H D I h;refine wpAny_execs_cons (bA (h1 pins s σ H {D with nx:=u D} I h) λf s1 q=>?_)
 cases f with
 |next =>
  obtain⟨σ',H',I',q⟩:=q;exact h2 pins s1 σ' H' D I' q
 |ret v=>exact q
 |brk=>exact q
 |cont=>exact q
theorem ao (h1:PS X st t):pz X [st] t:=by
 intro pins s σ H D I h;refine wpAny_execs_cons (bA (h1 pins s σ H D I h) λf s1 q=>?_)
 cases f with
 |next=>exact wpAny_execs_nil q
 |ret v=>exact q
 |brk=>exact q
 |cont=>exact q
theorem Inv.quiet (I:Inv X pins σ H s):interactive X.env=false:=by simp[interactive,I.ok.kind]
noncomputable def aaH (te:TE):TS:=λD σ H=>te σ H λ_ H1=>D.nx σ H1
theorem gc (he:PE X e te)(hs:swapsWith e none pos.line X.env=pure false:=by rfl):PS X (.Expr e pos) (aaH te):=by
 intro pins s σ H D I h;exact wpAny_Expr_any (bA (he pins s σ H _ I h) λv s1 ⟨x,H1,I1,r1,q1⟩=>⟨σ,H1,I1,q1⟩) I.quiet hs
noncomputable def Ek (te:TE):TS:=λD σ H=>te σ H D.rt
theorem aw (he:PE X e te):PS X (.Return (some e) pos) (Ek te):=by
 intro pins s σ H D I h;exact wpAny_Return_some (bA (he pins s σ H _ I h) λv s1 ⟨x,H1,I1,r1,q1⟩=>⟨x,σ,H1,I1,r1,q1⟩)
noncomputable def Ew (c:TT)(t u:TS):TS:=λD σ H=>c σ H λb H1=>if b=true then t D σ H1 else u D σ H1
theorem aV {a b:List Stmt}{tc:TT}(hc:PT X c tc)(ha:pz X a t)(hb:pz X b u):PS X (.If c a b pos) (Ew tc t u):=by
 intro pins s σ H D I h;refine wpAny_If (bA (hc pins s σ H _ I h) λd s1 z'=>?_);obtain⟨H1,I1,q1⟩:=z'
 cases d with
 |true=>exact ha pins s1 σ H1 D I1 q1
 |false=>exact hb pins s1 σ H1 D I1 q1
noncomputable def acy:TS:=λ_ _ _=>False
theorem qg:PS X st acy:=λ_ _ _ _ _ _ h=>h.elim
end
noncomputable abbrev TG:=V->St->Hp->(St->Hp->Prop)->Prop
noncomputable abbrev yQ:=List V->St->Hp->(St->Hp->Prop)->Prop
noncomputable def PG (X:Cx)(target:Expr)(t:TG):Prop :=
 ∀(pins:List (Addr×Obj))(s:GH)(σ:St)(H:Hp)(v:V)(u:Value)(Q:St->Hp->Prop),Inv X pins σ H s->aG v u->t v σ H Q →
  wpAny (model X.prog X.w) X.A (assign target X.env u) (λ_ s'=>∃σ' H',Inv X pins σ' H' s'/\Q σ' H') X.xe s
noncomputable def DG (X:Cx)(ts:Bl)(t:yQ):Prop :=
 ∀(pins:List (Addr×Obj))(s:GH)(σ:St)(H:Hp)(vs:List V)(us:oH)(Q:St->Hp->Prop),Inv X pins σ H s->aK vs us->t vs σ H Q →
  wpAny (model X.prog X.w) X.A (assignInOrder ((assignEach ts X.env).map (·.2)) us) (λ_ s'=>∃σ' H',Inv X pins σ' H' s'/\Q σ' H') X.xe s
noncomputable abbrev BB:=V->V->V->Hp->(Hp->Prop)->Prop
noncomputable def Ea (X:Cx)(t:BB):Prop :=
 ∀(pins:List (Addr×Obj))(s:GH)(σ:St)(H:Hp)(o i v:V)(ov iv u:Value)(Q:Hp->Prop),Inv X pins σ H s->aG o ov->aG i iv->aG v u->t o i v H Q →
  wpAny (model X.prog X.w) X.A (setItem ov iv u) (λ_ s'=>∃H',Inv X pins σ H' s'/\Q H') X.xe s
variable {k:Nat}{tg:Expr}{g:TG}{body:List Stmt}{tb:TS}
section
variable {X:Cx}{pos:Pos}
noncomputable def c9 (i:Nat):TG:=λv σ H Q=>Q (σ.set i (some v)) H
theorem aH {i:Nat}(hN:X.N.Nodup)(hi:X.N[i]?=some x)(hx:C9 X.env.scope x)(hf:X.fn x=true\/X.env.scope.names.lookup x=some .local:=by first|exact .inl rfl|exact .inr rfl|assumption):PG X (.Name x pos) (c9 i):=by
 intro pins s σ H v u Q I r h;exact wpAny_assign_Name (gw I hN hi hx r (λs' I'=>⟨_,H,I',h⟩) hf)
noncomputable def y8:yQ:=λvs σ H Q=>vs=[]/\Q σ H
noncomputable def iz (t:TG)(u:yQ):yQ:=λvs σ H Q=>∃v r,vs=v::r/\t v σ H λσ' H'=>u r σ' H' Q
theorem cm:DG X [] y8:=by
 intro pins s σ H vs us Q I r h;obtain⟨e,h⟩:=h;subst e
 cases r
 exact assignInOrder_nil ⟨σ,H,I,h⟩
theorem aJ {es:Bl}{t:TG}{u:yQ}(h1:PG X e t)(h2:DG X es u)
 (hs:(assignEach (e::es) X.env).map (·.2)=assign e X.env::(assignEach es X.env).map (·.2):=by rfl):DG X (e::es) (iz t u):=by
 intro pins s σ H vs us Q I r h;obtain⟨v,vr,e1,h⟩:=h;subst e1
 cases r with
 |cons r rr =>
  rw[hs];refine assignInOrder_cons (bA (h1 pins s σ H _ _ _ I r h) λ_ s1 z'=>?_);obtain⟨σ1,H1,I1,q1⟩:=z';exact h2 pins s1 σ1 H1 _ _ Q I1 rr q1
noncomputable def xv (K:PySem.W.Frag)(n:Nat)(t:yQ):TG:=λv σ H Q=>∃a xs,v=.ref a/\bX K H a xs/\xs.length=n/\t xs σ H Q
theorem dQ {es:Bl}{t:yQ}{n:Nat}(hc:X.calm=true)(h:DG X es t)
 (hn:(assignEach es X.env).length=n:=by rfl)(Ij:(assignEach es X.env).findIdx? (·.1)=none:=by rfl):PG X (.Tuple es k pos) (xv X.K n t):=by
 intro pins s σ H v u Q I r hw;obtain⟨a,xs,e1,hq,hl,hw⟩:=hw;subst e1
 cases r
 obtain⟨its,rv,ht,hz⟩:=I.tuple hq;refine assign_Tuple_tuple (I.ok.hd hc) ht (by simp[hn,<-hl,rv.length]) Ij λh' hx=>?_;have I1:Inv X pins σ H {s with heap:=h'}:=I.kept (t':=s.toks) λb o e=>hx b o (Nat.ne_of_lt (Heap.lt_size e)) e;exact h pins _ σ H xs _ Q I1 (by simpa using rv) hw
noncomputable def ab6 (to ti:TE)(t:BB):TG:=λv σ H Q=>to σ H λo H1=>ti σ H1 λi H2=>t o i v H2 λH3=>Q σ H3
theorem i8 {o i:Expr}{to ti:TE}{t:BB}(ho:PE X o to)(hi:PE X i ti)(hs:Ea X t)
 (ha:∀v,assign (.Subscript o i pos) X.env v=(do
  let ov <-holding [v] (eval o X.env)
  let iv <-holding [v,ov] (eval i X.env)
  standAt pos
  holding [v,ov,iv] (setItem ov iv v)
  release [v,ov,iv] []):=by intro _;rfl):PG X (.Subscript o i pos) (ab6 to ti t):=by
 intro pins s σ H v u Q I r h;rw[ha];refine wpAny_bind (wpAny_holding (bA (ho pins s σ H _ I h) λov s1 z'=>?_));obtain⟨x,H1,I1,r1,q1⟩:=z';refine wpAny_bind (wpAny_holding (bA (hi pins s1 σ H1 _ I1 q1) λiv s2 z'=>?_));obtain⟨y,H2,I2,r2,q2⟩:=z';refine wpAny_bind (wpAny_standAt (wpAny_bind (wpAny_holding (bA (hs pins s2 σ H2 x y v ov iv u _ I2 r1 r2 r q2) λ_ s3 z'=>?_))));obtain⟨H3,I3,q3⟩:=z';exact wpAny_release ⟨σ,H3,I3,q3⟩
noncomputable def wC (te:TE)(g:TG):TS:=λD σ H=>te σ H λx H1=>g x σ H1 D.nx
theorem c8 {te:TE}(he:PE X e te)(hg:PG X tg g)(hs:swapsWithSole [tg] e pos.line X.env=pure false:=by rfl)(hw:swappedStores [tg] e X.env=pure none:=by rfl)
 (h1:(assignEach [tg] X.env).map (·.2)=[assign tg X.env]:=by rfl):PS X (.Assign [tg] e pos) (wC te g):=by
 intro pins s σ H D I h;refine wpAny_Assign_stores (bA (he pins s σ H _ I h) λv s1 z'=>?_) hs hw;obtain⟨x,H1,I1,r1,q1⟩:=z';rw[h1];exact bA (hg pins s1 σ H1 x v _ I1 r1 q1) λ_ s2 q=>q
theorem aO {i:Nat}{x:Str}{e:Expr}{te:TE}{pos':Pos}(hN:X.N.Nodup)(hi:X.N[i]?=some x)(hx:C9 X.env.scope x)(he:PE X e te)(hs:swapsWith e (some (.Name x pos')) pos.line X.env=pure false:=by rfl)(hf:X.fn x=true\/X.env.scope.names.lookup x=some .local:=by first|exact .inl rfl|exact .inr rfl|assumption):
 PS X (.Assign [.Name x pos'] e pos) (wC te (c9 i)):=by
 intro pins s σ H D I h;refine wpAny_Assign_Name (bA (he pins s σ H _ I h) λv s1 z'=>?_) hs;obtain⟨y,H1,I1,r1,q1⟩:=z';exact gw I1 hN hi hx r1 (λs2 I2=>⟨_,H1,I2,q1⟩) hf
noncomputable def aaK (i j:Nat)(ta:TA):TS:=λD σ H=>ta σ H λvs H1=>∃v w,vs=[v,w]/\D.nx ((σ.set i (some v)).set j (some w)) H1
theorem sv {i j:Nat}{y:Str}{a b:Expr}{ta:TA}{px py pt:Pos} {kt k2 Tg}(hc:X.calm=true)(hN:X.N.Nodup)(hi:X.N[i]?=some x)(hj:X.N[j]?=some y)(Im:i≠j)
 (hx:X.env.scope.names.lookup x=some .local)(hy:X.env.scope.names.lookup y=some .local)(ha:PA X [a,b] ta)
 (hw:swappedStores [.Tuple [.Name x px,.Name y py] kt pt] (.Tuple [a,b] k2 Tg) X.env=pure (some [x,y]))
 (hs:swapsWithSole [.Tuple [.Name x px,.Name y py] kt pt] (.Tuple [a,b] k2 Tg) pos.line X.env=pure false:=by rfl):
 PS X (.Assign [.Tuple [.Name x px,.Name y py] kt pt] (.Tuple [a,b] k2 Tg) pos) (aaK i j ta):=by
 intro pins s σ H D I h;rw[exec_Assign_arm];refine wpAny_bind (wpAny_standAt ?_);rw[hs];refine wpAny_bind (wpAny_pure ?_);rw[if_neg (by decide)];refine wpAny_bind (Tuple_ (bA (ha _ pins s σ H _ I h) λus s1 z'=>?_));obtain⟨vs,H1,I1,r1,q1⟩:=z';obtain⟨v,w,e1,q1⟩:=q1;subst e1
 obtain⟨u1,u2,rfl,rv,IL⟩:∃u1 u2,us=[u1,u2]/\aG v u1/\aG w u2:=by
  cases r1 with
  |cons p q =>
   cases q with
   |cons p' q' =>
    cases q'
    exact⟨_,_,rfl,p,p'⟩
 refine wpAny_newObj_type ?_ d9;have I2:Inv X pins σ H1 {s1 with heap:=s1.heap.push {cls:=.type "tuple",data:=.seq [u1,u2].toArray} }:=I1.kept (t':=s1.toks) λb o e=>Heap.get?_push_of_some _ e;rw[hw];refine wpAny_bind (wpAny_pure ?_);show wpAny (model X.prog X.w) X.A (do rule "assign.swapped-stores";let items <-unpackItems (.ref s1.heap.objs.size) 2 none;assignInOrder [λv=>bindName X.env y v,λv=>bindName X.env x v] items.reverse;pure Flow.next) _ _ _;refine wpAny_bind (wpAny_rule (wpAny_bind (unpackItems_tuple (items:=#[u1,u2]) (I.ok.hd hc) (IsTup.new s1.heap _) λh' RG=>?_)));have I3:=I2.kept (h':=h') (t':=s1.toks) λb o e=>RG b o (Nat.ne_of_lt (Heap.lt_size e)) e;show wpAny _ _ (assignInOrder [λv=>bindName X.env y v,λv=>bindName X.env x v] [u2,u1]>>=λ_=>pure Flow.next) _ _ _;refine wpAny_bind (assignInOrder_cons (wpAny_bindName (gw I3 hN hj (.inl hy) IL (λs2 I4=>?_) (.inr hy))));refine assignInOrder_cons (wpAny_bindName (gw I4 hN hi (.inl hx) rv (λs3 I5=>assignInOrder_nil (wpAny_pure ?_)) (.inr hx)));rw[List.set_comm _ _ (Ne.symm Im)] at I5;exact⟨_,H1,I5,q1⟩
noncomputable def aaL (c:TT)(tb:TS):TS:=λD σ H=>∃W:Nat->St->Hp->Prop,(∃m,W m σ H)/\∀m σ H,W m σ H →
 c σ H λb H1=>if b=true then ∃N:St->Hp->Prop,(∀σ' H',N σ' H'->∃m',m'<m/\W m' σ' H')/\tb {D with nx:=N,ct:=N,bk:=D.nx} σ H1 else D.nx σ H1
theorem lE {tc:TT}(hp:PassesOwn (model X.prog X.w) X.A X.env X.xe)(hc:PT X c tc)(hb:pz X body tb):PS X (.While c body [] pos) (aaL tc tb):=by
 intro pins s σ H D I h;obtain⟨W,⟨m0,w0⟩,turn⟩:=h;refine wpAny_While (codeAny_whileLoop (λn s'=>∃σ' H',Inv X pins σ' H' s'/\W n σ' H') ?_ m0 ⟨σ,H,I,w0⟩);rintro n s1 ⟨σ1,H1,I1,w1⟩;refine wpAny_passesOwn hp (bA (hc pins s1 σ1 H1 _ I1 (turn n σ1 H1 w1)) λb s2 z'=>?_);obtain⟨H2,I2,q2⟩:=z'
 cases b with
 |true =>
  obtain⟨N,hN,q2⟩:=q2;rw[if_pos rfl];refine wpAny_passesOwn hp (bA (hb pins s2 σ1 H2 _ I2 q2) λf s3 q3=>?_)
  cases f with
  |next =>
   obtain⟨σ3,H3,I3,n3⟩:=q3;obtain⟨m',hm,w3⟩:=hN σ3 H3 n3;exact⟨m',hm,σ3,H3,I3,w3⟩
  |cont =>
   obtain⟨σ3,H3,I3,n3⟩:=q3;obtain⟨m',hm,w3⟩:=hN σ3 H3 n3;exact⟨m',hm,σ3,H3,I3,w3⟩
  |brk=>exact q3
  |ret v=>exact q3
 |false =>
  rw[if_neg Bool.false_ne_true];exact wpAny_execs_nil ⟨σ1,H2,I2,q2⟩
end
structure It where
 go:Nat->Hp->Prop
 yld:Nat->Hp->V->Hp->Prop
 stop:Nat->Hp->Prop
noncomputable def di (X:Cx)(pins:List (Addr×Obj))(H:Hp)(b:Addr):Prop :=
 H b=none/\b≠X.env.locals/\b∉X.fs/\(b∈X.ex\/X.s₀.heap.objs.size<=b)/\(∀x c,X.env.cells.lookup x=some c->c≠b)/\∀p∈X.pn++pins,p.1≠b
variable {H':Hp}
theorem Inv.abC {b:Addr}(I:Inv X pins σ H s)(hb:s.heap.objs.size<=b)(hn:H' b=none):di X pins H' b:=by
 refine⟨hn,Nat.ne_of_gt (Nat.lt_of_lt_of_le I.lt hb),I.acS hb,.inr (Nat.le_trans I.sz hb),λx c e z=>?_,λp hp z=>?_⟩
 ·obtain⟨v,q⟩:=I.cell x c e;exact absurd (Nat.lt_of_lt_of_le q.lt (by rw[z];exact hb)) (Nat.lt_irrefl _)
 ·exact absurd (Nat.lt_of_lt_of_le (Heap.lt_size (I.pin p hp).1) (by rw[z];exact hb)) (Nat.lt_irrefl _)
structure Turn (P:wM)(w:World)(K:PySem.W.Frag)(tg:Expr)(J:It)(fp:List Addr)(it:Addr)(tn:Nat->Heap->Prop):Prop where
 mem:it∈fp
 obj:∀i h,tn i h->∀b∈fp,∃o,h.get? b=some o/\∀v,o.data≠.cell v
 keep:∀i h h',tn i h->(∀b∈fp,∀o,h.get? b=some o->h'.get? b=some o)->tn i h'
 item:∀(X:Cx),X.prog=P->X.w=w->X.K=K->X.calm=true->∀(i:Nat)(pins:List (Addr×Obj))(s:GH)(σ:St)(H:Hp)(E:wA),Inv X pins σ H s->(∀b∈fp,di X pins H b)->tn i s.heap->J.go i H →
  wpAny (model P w) X.A (pyNext (.ref it)) (λr s1=>∃u,r=some u /\
   wpAny (model P w) X.A (letOwnedTupleGo tg (.ref it) u) (λ_ s2=>∃x H',Inv X pins σ H' s2/\aG x u/\J.yld i H x H'/\tn (i+1) s2.heap/\∀b∈fp,H' b=none) E s1) E s
 done:∀(X:Cx),X.prog=P->X.w=w->X.K=K->X.calm=true->∀(i:Nat)(pins:List (Addr×Obj))(s:GH)(σ:St)(H:Hp)(E:wA),Inv X pins σ H s->(∀b∈fp,di X pins H b)->tn i s.heap->J.stop i H →
  wpAny (model P w) X.A (pyNext (.ref it)) (λr s1=>r=none/\Inv X pins σ H s1) E s
 self:∀(A:Around)(i:Nat)(s:GH)(Q:wA)(E:wA),tn i s.heap->Q (.ref it) s->wpAny (model P w) A (pyIter (.ref it)) Q E s
noncomputable abbrev TI:=St->Hp->(It->Hp->Prop)->Prop
noncomputable def Gv (X:Cx)(pins:List (Addr×Obj))(σ:St)(tg:Expr)(R:It->Hp->Prop)(RH:Value)(s2:GH):Prop :=
 ∃(it:Addr)(fp:List Addr)(tn:Nat->Heap->Prop)(J:It)(H':Hp),RH=.ref it/\Inv X pins σ H' s2/\Turn X.prog X.w X.K tg J fp it tn/\tn 0 s2.heap/\(∀b∈fp,di X pins H' b)/\R J H'
noncomputable def PI (X:Cx)(tg iter:Expr)(wi:TI):Prop :=
 ∀(pins:List (Addr×Obj))(s:GH)(σ:St)(H:Hp)(R:It->Hp->Prop),Inv X pins σ H s->wi σ H R →
  wpAny (model X.prog X.w) X.A (eval iter X.env) (λv s1=>wpAny (model X.prog X.w) X.A (pyIter v) (Gv X pins σ tg R) X.xe s1) X.xe s
theorem xo {E:wA}{s:GH}{it:Addr}{n:String}{vs:BU}{Q:Unit->Shared->Prop}(ho:s.heap.get? it=some o)(hc:o.cls=.type n)(hd:o.data=.fields vs)
 (hn:["enumerate","zip","dict_itemiterator","dict_reverseitemiterator","odict_iterator","itertools.zip_longest","itertools.pairwise"].contains n=false)(hQ:Q () s):wpAny M A (letOwnedTupleGo tg (.ref it) u) Q E s:=by
 unfold letOwnedTupleGo
 cases tg <;> first
  |exact wpAny_pure hQ
  |(cases u <;> first
   |exact wpAny_pure hQ
   |(refine wpAny_bind (wpAny_load ho ?_)
     rw[hc,hd];show wpAny M A (if(["enumerate","zip","dict_itemiterator","dict_reverseitemiterator","odict_iterator","itertools.zip_longest","itertools.pairwise"].contains n&&vs[0]?==some (rawInt _))=true then _ else _) Q E s;rw[if_neg (by intro h;rw[hn,Bool.false_and] at h;cases h)]
     exact wpAny_pure hQ))
noncomputable def C2 (K:PySem.W.Frag)(a:Addr):It :=
 ⟨λi H=>∃xs x,aM K H a xs/\xs[i]?=some x,λi H x H'=>H'=H/\∀xs,aM K H a xs->xs[i]?=some x,λi H=>∃xs,aM K H a xs/\xs.length<=i⟩
noncomputable def E0 (K:PySem.W.Frag)(a:Addr):It :=
 ⟨λi H=>∃xs x,bX K H a xs/\xs[i]?=some x,λi H x H'=>H'=H/\∀xs,bX K H a xs->xs[i]?=some x,λi H=>∃xs,bX K H a xs/\xs.length<=i⟩
noncomputable def BI (lo:Int)(n:Nat):It:=⟨λi _=>i<n,λi H x H'=>H'=H/\x=.int (lo+i),λi _=>n<=i⟩
theorem aaO (a it:Addr):Turn P w K tg (C2 K a) [it] it (λi h=>h.IsListIter it a i) where
 mem:=by simp
 obj:=λi h st b hb=>by
  have e:b=it:=by simpa using hb
  subst e;obtain⟨o,e,c,d⟩:=st;exact⟨o,e,λv z=>by rw[d] at z;cases z⟩
 keep:=λi h h' st k=>st.at λo e=>k it (by simp) o e
 item:=by
  intro X hP hw hK hc i pins s σ H E I hf st hg;subst hP hw hK;obtain⟨xs,x,hq,hx⟩:=hg;obtain⟨its,rv,p,hz⟩:=I.list hq;obtain⟨u,hu,ru⟩:=rv.get hx;obtain⟨f0,f1,f2,f3,f4,f5⟩:=hf it (by simp);refine wpAny_pyNext_list_item st p.isList (x:=u) (by simpa using hu) λh' IP sb=>?_;have I1:Inv X pins σ H {s with heap:=h'}:=I.turned (t':=s.toks) (λb o hb e=>(sb.2 b hb).trans e) f0 f1 f3 f4 f5;obtain⟨o,e,c,d⟩:=id IP;exact⟨u,rfl,xo (s:={s with heap:=h'}) e c d (by decide) ⟨x,H,I1,ru,⟨rfl,λys hy=>by rw[I.aaS hy hq];exact hx⟩,IP,λb hb=>(hf b hb).1⟩⟩
 done:=by
  intro X hP hw hK hc i pins s σ H E I hf st hg;subst hP hw hK;obtain⟨xs,hq,hx⟩:=hg;obtain⟨its,rv,p,hz⟩:=I.list hq;obtain⟨f0,f1,f2,f3,f4,f5⟩:=hf it (by simp);have hl:=rv.length;exact wpAny_pyNext_list_end (I.ok.hd hc) st p.isList (by simp;omega) λh' eb=>⟨rfl,I.turned (t':=s.toks) (λb o hb e=>eb b o hb e) f0 f1 f3 f4 f5⟩
 self:=λ_ _ _ _ _ st h=>wpAny_pyIter_listiter st h
theorem Bad (a it:Addr):Turn P w K tg (E0 K a) [it] it (λi h=>h.IsTupleIter it a i) where
 mem:=by simp
 obj:=λi h st b hb=>by
  have e:b=it:=by simpa using hb
  subst e;obtain⟨o,e,c,d⟩:=st;exact⟨o,e,λv z=>by rw[d] at z;cases z⟩
 keep:=λi h h' st k=>st.at λo e=>k it (by simp) o e
 item:=by
  intro X hP hw hK hc i pins s σ H E I hf st hg;subst hP hw hK;obtain⟨xs,x,hq,hx⟩:=hg;obtain⟨its,rv,p,hz⟩:=I.tuple hq;obtain⟨u,hu,ru⟩:=rv.get hx;obtain⟨f0,f1,f2,f3,f4,f5⟩:=hf it (by simp);refine wpAny_pyNext_tuple_item st (show s.heap.IsTuple a its.toArray from p) (x:=u) (by simpa using hu) λh' IP sb=>?_;have I1:Inv X pins σ H {s with heap:=h'}:=I.turned (t':=s.toks) (λb o hb e=>(sb.2 b hb).trans e) f0 f1 f3 f4 f5;obtain⟨o,e,c,d⟩:=id IP;exact⟨u,rfl,xo (s:={s with heap:=h'}) e c d (by decide) ⟨x,H,I1,ru,⟨rfl,λys hy=>by rw[I.aaA hy hq];exact hx⟩,IP,λb hb=>(hf b hb).1⟩⟩
 done:=by
  intro X hP hw hK hc i pins s σ H E I hf st hg;subst hP hw hK;obtain⟨xs,hq,hx⟩:=hg;obtain⟨its,rv,p,hz⟩:=I.tuple hq;obtain⟨f0,f1,f2,f3,f4,f5⟩:=hf it (by simp);have hl:=rv.length;exact wpAny_pyNext_tuple_end (I.ok.hd hc) st (show s.heap.IsTuple a its.toArray from p) (by simp;omega) λh' eb=>⟨rfl,I.turned (t':=s.toks) (λb o hb e=>eb b o hb e) f0 f1 f3 f4 f5⟩
 self:=λ_ _ _ _ _ st h=>wpAny_pyIter_tupleiter st h
theorem ab5 (it:Addr)(lo:Int)(n:Nat):Turn P w K tg (BI lo n) [it] it (λi h=>IsRangeIter h it (lo+(i:Nat)*1) ((n:Int)-(i:Nat)) 1) where
 mem:=by simp
 obj:=λi h st b hb=>by
  have e:b=it:=by simpa using hb
  subst e
  exact⟨_,st,λv z=>by
   have z':Data.fields _=Data.cell v:=z
   cases z'⟩
 keep:=λi h h' st k=>k it (by simp) _ st
 item:=by
  intro X hP hw hK hc i pins s σ H E I hf st hg;subst hP hw hK;obtain⟨f0,f1,f2,f3,f4,f5⟩:=hf it (by simp);have W:=Walks.range (prog:=X.prog) (w:=X.w) (I.ok.hd hc) it lo 1 n;refine W.item i s _ _ hg st λv h' tk hv IP kk=>?_;obtain⟨t,rfl⟩:=hv;have I1:Inv X pins σ H {s with heap:=h',toks:=tk}:=I.turned (λb o hb e=>kk b o (by simpa using hb) e) f0 f1 f3 f4 f5;refine⟨_,rfl,xo (s:={s with heap:=h',toks:=tk}) (n:="range_iterator") IP rfl rfl (by decide) ⟨.int (lo+i),H,I1,⟨t,?_⟩,⟨rfl,rfl⟩,IP,λb hb=>(hf b hb).1⟩⟩;rw[Int.mul_one]
 done:=by
  intro X hP hw hK hc i pins s σ H E I hf st hg;subst hP hw hK;obtain⟨f0,f1,f2,f3,f4,f5⟩:=hf it (by simp);exact wpAny_pyNext_range_end (I.ok.hd hc) st (by have:n<=i:=hg;omega) λh' eb=>⟨rfl,I.turned (t':=s.toks) (λb o hb e=>eb b o hb e) f0 f1 f3 f4 f5⟩
 self:=λ_ _ _ _ _ st h=>wpAny_pyIter_rangeiter st h
variable {fp:List Addr}
section
variable {X:Cx}{tg:Expr}
noncomputable def ab7 (K:PySem.W.Frag)(tl:TE):TI:=λσ H R=>tl σ H λx H1=>∃a,x=.ref a/\(∃xs,aM K H1 a xs)/\R (C2 K a) H1
noncomputable def aaQ (K:PySem.W.Frag)(tl:TE):TI:=λσ H R=>tl σ H λx H1=>∃a,x=.ref a/\(∃xs,bX K H1 a xs)/\R (E0 K a) H1
theorem eP {l:Expr}{tl:TE}(hl:PE X l tl):PI X tg l (ab7 X.K tl):=by
 intro pins s σ H R I h;refine bA (hl pins s σ H _ I h) λv s1 z'=>?_;obtain⟨x,H1,I1,r1,q1⟩:=z';obtain⟨a,e,⟨xs,hq⟩,q⟩:=q1;subst e
 cases r1
 obtain⟨its,rv,p,hz⟩:=I1.list hq;refine wpAny_pyIter_list p.isList ?_;refine⟨s1.heap.objs.size,[s1.heap.objs.size],_,_,H1,rfl,I1.kept (t':=s1.toks) λb o e=>Heap.get?_push_of_some _ e,aaO a _,⟨_,Heap.get?_push_size _ rfl,rfl,rfl⟩,λb hb=>?_,q⟩
 have e:b=s1.heap.objs.size:=by simpa using hb
 subst e;exact I1.abC (Nat.le_refl _) (I1.hok.fresh (Nat.le_refl _))
theorem xO {l:Expr}{tl:TE}(hl:PE X l tl):PI X tg l (aaQ X.K tl):=by
 intro pins s σ H R I h;refine bA (hl pins s σ H _ I h) λv s1 z'=>?_;obtain⟨x,H1,I1,r1,q1⟩:=z';obtain⟨a,e,⟨xs,hq⟩,q⟩:=q1;subst e
 cases r1
 obtain⟨its,rv,p,hz⟩:=I1.tuple hq;refine wpAny_pyIter_tuple (show s1.heap.IsTuple a its.toArray from p) ?_;refine⟨s1.heap.objs.size,[s1.heap.objs.size],_,_,H1,rfl,I1.kept (t':=s1.toks) λb o e=>Heap.get?_push_of_some _ e,Bad a _,⟨_,Heap.get?_push_size _ rfl,rfl,rfl⟩,λb hb=>?_,q⟩
 have e:b=s1.heap.objs.size:=by simpa using hb
 subst e;exact I1.abC (Nat.le_refl _) (I1.hok.fresh (Nat.le_refl _))
theorem Stp {R:It->Hp->Prop}{E:wA}{lo hi:Int}{t u v:Tok}{tk:Nat}(I:Inv X pins σ H s)(h1:-(2^62)<=lo)(h2:lo<2^62)(h3:-(2^62)<=hi)(h4:hi<2^62)
 (q:R (BI lo (hi-lo).toNat) H):wpAny (model X.prog X.w) X.A (pyIter (.ref s.heap.objs.size)) (Gv X pins σ tg R) E {s with heap:=s.heap.push {cls:=.type "range",data:=.fields #[.int lo t,.int hi u,.int 1 v]},toks:=tk}:=by
 refine wpAny_pyIter_range (IsRange.new ..) (small_one h1 h2 h3 h4) ?_;have I1:Inv X pins σ H {s with heap:=s.heap.push {cls:=.type "range",data:=.fields #[.int lo t,.int hi u,.int 1 v]},toks:=tk}:=I.kept λb o e=>Heap.get?_push_of_some _ e
 refine⟨(s.heap.push {cls:=.type "range",data:=.fields #[.int lo t,.int hi u,.int 1 v]}).objs.size,[(s.heap.push {cls:=.type "range",data:=.fields #[.int lo t,.int hi u,.int 1 v]}).objs.size],_,_,H,rfl,
  I1.kept (t':=tk) λb o e=>Heap.get?_push_of_some _ e,ab5 _ lo (hi-lo).toNat,?_,λb hb=>?_,q⟩
 ·have e1:lo+((0:Nat):Int)*1=lo:=by simp
  have e2:(((hi-lo).toNat:Nat):Int)-((0:Nat):Int)=Builtin.Range.rangeSize lo hi 1:=by rw[rangeSize_one];split <;> omega
  show IsRangeIter _ _ (lo+((0:Nat):Int)*1) ((((hi-lo).toNat:Nat):Int)-((0:Nat):Int)) 1;rw[e1,e2];exact Heap.get?_push_size _ rfl
 ·have e:b=(s.heap.push {cls:=.type "range",data:=.fields #[.int lo t,.int hi u,.int 1 v]}).objs.size:=by simpa using hb
  subst e;exact I1.abC (Nat.le_refl _) (I1.hok.fresh (Nat.le_refl _))
noncomputable def TyX (ta:TA):TI:=λσ H R=>ta σ H λvs H1=>∃j:Int,vs=[.int j]/\-(2^62)<=j/\j<2^62/\R (BI 0 j.toNat) H1
theorem dn {a:Expr}{ta:TA}{p pos:Pos}(hg:Gl X "range")(hm:X.mg "range"=none)(ha:PA X [a] ta)(hs:starEach [a] X.env=[(false,eval a X.env)]:=by rfl):PI X tg (.Call (.Name "range" p) [a] [] pos) (TyX ta):=by
 intro pins s σ H R I h;refine Call_ (gM I hg hm boot_range (PyProof.Rows.callWith_type1 (bA (ha pos pins s σ H _ I h) λus s1 z'=>?_) hs rfl));obtain⟨vs,H1,I1,r1,q1⟩:=z';obtain⟨j,e,q1,q2,q⟩:=q1;subst e
 cases r1 with
 |cons r rr =>
  cases rr
  obtain⟨t,rfl⟩:=r;exact call_range_1 (Stp I1 (by omega) (by omega) q1 q2 (by simpa using q))
noncomputable def TmX (wi:TI)(g:TG)(tb:TS):TS:=λD σ H=>wi σ H λJ H1=>∃W:Nat->Nat->St->Hp->Prop,(∃m,W 0 m σ H1)/\∀i m σ H,W i m σ H →
 (J.stop i H/\D.nx σ H)\/(J.go i H/\∃N:St->Hp->Prop,(∀σ' H',N σ' H'->∃m',m'<m/\W (i+1) m' σ' H')/\∀x H',J.yld i H x H'->g x σ H' λσ2 H2=>tb {D with nx:=N,ct:=N,bk:=D.nx} σ2 H2)
noncomputable def jV (fp:List Addr)(h:Heap):List (Addr×Obj):=fp.filterMap λb=>(h.get? b).map λo=>(b,o)
theorem fZ {b:Addr}(hb:b∈fp)(e:h.get? b=some o):(b,o)∈jV fp h:=List.mem_filterMap.mpr ⟨b,hb,by rw[e];rfl⟩
theorem acd {p:Addr×Obj}(hp:p∈jV fp h):p.1∈fp/\h.get? p.1=some p.2:=by
 obtain⟨b,hb,e⟩:=List.mem_filterMap.mp hp
 cases q:h.get? b with
 |none=>rw[q] at e;cases e
 |some o =>
  rw[q] at e;have e':(b,o)=p:=Option.some.inj e;subst e';exact⟨hb,q⟩
theorem Inv.pinned (I:Inv X pins σ H s)(hf:∀b∈fp,di X pins H b)(ho:∀b∈fp,∃o,s.heap.get? b=some o/\∀v,o.data≠.cell v):Inv X (pins++jV fp s.heap) σ H s :=
 I.aaz λp hp=>(List.mem_append.mp hp).elim (λz=>I.pin p (List.mem_append_right _ z)) λz=>by
   obtain⟨hb,e⟩:=acd z;obtain⟨f0,f1,f2,_⟩:=hf p.1 hb;obtain⟨o,e',d⟩:=ho p.1 hb;rw[e] at e';cases e';exact⟨e,f0,f1,f2,d⟩
theorem Inv.aaI {pl:List (Addr×Obj)}(I:Inv X (pins++pl) σ H s):Inv X pins σ H s:=I.aaz λp hp=>I.pin p (List.mem_append_right _ (List.mem_append_left _ hp))
theorem gh {iter:Expr}{wi:TI}{pos:Pos}(hp:PassesOwn (model X.prog X.w) X.A X.env X.xe)(hc:X.calm=true)(hi:PI X tg iter wi)(hg:PG X tg g)(hb:pz X body tb)
 (hs:∀x,foldedSetIterable iter X.env x=pure x:=by intro _;rfl):PS X (.For tg iter body [] pos) (TmX wi g tb):=by
 intro pins s σ H D I h;refine wpAny_For (bA (hi pins s σ H _ I h) λv s1 h1=>bA h1 λRH s2 h2=>?_) hs;obtain⟨it,fp,tn,J,H2,e,I2,T,Ki,f2,W,⟨m0,w0⟩,turn⟩:=h2;subst e;have Lz:∀{H':Hp},(∀b∈fp,H' b=none)->∀b∈fp,di X pins H' b:=λhn b hb=>⟨hn b hb,(f2 b hb).2⟩;refine codeAny_forLoop_any (λn s'=>∃i σ' H',Inv X pins σ' H' s'/\tn i s'.heap/\(∀b∈fp,H' b=none)/\W i n σ' H') ?_ m0 ⟨0,σ,H2,I2,Ki,λb hb=>(f2 b hb).1,w0⟩;rintro n s3 ⟨i,σ3,H3,I3,Yc,Yd,w3⟩
 rcases turn i n σ3 H3 w3 with⟨stop,qn⟩|⟨go,N,hN,step⟩
 ·refine wpAny_passesOwn hp (bA (T.done X rfl rfl rfl hc i pins s3 σ3 H3 X.xe I3 (Lz Yd) Yc stop) λr s4 z'=>?_);obtain⟨hr,I4⟩:=z';subst hr;exact wpAny_execs_nil ⟨σ3,H3,I4,qn⟩
 ·refine wpAny_passesOwn hp (bA (T.item X rfl rfl rfl hc i pins s3 σ3 H3 X.xe I3 (Lz Yd) Yc go) λr s4 z'=>?_);obtain⟨u,hr,h4⟩:=z';subst hr;refine wpAny_passesOwn hp (bA h4 λ_ s5 z'=>?_);obtain⟨x,H5,I5,r5,y5,NV,Ti⟩:=z';have I5':=I5.pinned (Lz Ti) (T.obj _ _ NV);refine wpAny_passesOwn hp (bA (hg _ s5 σ3 H5 x u _ I5' r5 (step x H5 y5)) λ_ s6 z'=>?_);obtain⟨σ6,H6,I6,q6⟩:=z';refine wpAny_passesOwn hp (bA (hb _ s6 σ6 H6 _ I6 q6) λf s7 q7=>?_)
  have again:∀{σ7:St}{H7:Hp},Inv X (pins++jV fp s5.heap) σ7 H7 s7->N σ7 H7->∃m,m<n/\∃i σ' H',Inv X pins σ' H' s7/\tn i s7.heap/\(∀b∈fp,H' b=none)/\W i m σ' H':=λ{σ7 H7} I7 n7=>by
   obtain⟨m',hm,w7⟩:=hN σ7 H7 n7;refine⟨m',hm,i+1,σ7,H7,I7.aaI,T.keep _ _ _ NV λb hb o e=>(I7.pin (b,o) (List.mem_append_right _ (List.mem_append_right _ (fZ hb e)))).1,λb hb=>?_,w7⟩;obtain⟨o,e,d⟩:=T.obj _ _ NV b hb;exact(I7.pin (b,o) (List.mem_append_right _ (List.mem_append_right _ (fZ hb e)))).2.1
  cases f with
  |next=>obtain⟨σ7,H7,I7,n7⟩:=q7;exact again I7 n7
  |cont=>obtain⟨σ7,H7,I7,n7⟩:=q7;exact again I7 n7
  |brk=>obtain⟨σ7,H7,I7,q7⟩:=q7;exact⟨σ7,H7,I7.aaI,q7⟩
  |ret v=>obtain⟨x7,σ7,H7,I7,r7,q7⟩:=q7;exact⟨x7,σ7,H7,I7.aaI,r7,q7⟩
end
theorem TGs {K:PySem.W.Frag}{a:Addr}{xs:List V}{D:Ends}(Pv:Nat->St->Hp->Prop)(h0:Pv 0 σ H)(hl:∀i σ H,i<=xs.length->Pv i σ H->aM K H a xs)
 (hs:∀i x σ H,xs[i]?=some x->Pv i σ H->g x σ H λσ2 H2=>tb {D with nx:=Pv (i+1),ct:=Pv (i+1),bk:=D.nx} σ2 H2)(hd:∀σ H,Pv xs.length σ H->D.nx σ H):
 ∃W:Nat->Nat->St->Hp->Prop,(∃m,W 0 m σ H)/\∀i m σ H,W i m σ H →
  ((C2 K a).stop i H/\D.nx σ H)\/((C2 K a).go i H/\∃N:St->Hp->Prop,(∀σ' H',N σ' H'->∃m',m'<m/\W (i+1) m' σ' H')/\∀x H',(C2 K a).yld i H x H'->g x σ H' λσ2 H2=>tb {D with nx:=N,ct:=N,bk:=D.nx} σ2 H2):=by
 refine⟨λi m σ H=>m=xs.length-i/\i<=xs.length/\Pv i σ H,⟨xs.length,by simp,Nat.zero_le _,h0⟩,?_⟩;rintro i m σ H ⟨rfl,hi,p⟩;have q:=hl i σ H hi p
 by_cases GV:i<xs.length
 ·refine .inr ⟨⟨xs,xs[i],q,by simp[GV]⟩,Pv (i+1),λσ' H' p'=>⟨xs.length-(i+1),by omega,rfl,GV,p'⟩,λx H' y=>?_⟩;obtain⟨e,y⟩:=y;subst e;exact hs i x σ _ (y xs q) p
 ·have e:i=xs.length:=by omega
  subst e;exact .inl ⟨⟨xs,q,Nat.le_refl _⟩,hd σ H p⟩
theorem mM {lo:Int}{n:Nat}{D:Ends}(Pv:Nat->St->Hp->Prop)(h0:Pv 0 σ H)
 (hs:∀i σ H,i<n->Pv i σ H->g (.int (lo+i)) σ H λσ2 H2=>tb {D with nx:=Pv (i+1),ct:=Pv (i+1),bk:=D.nx} σ2 H2)(hd:∀σ H,Pv n σ H->D.nx σ H):
 ∃W:Nat->Nat->St->Hp->Prop,(∃m,W 0 m σ H)/\∀i m σ H,W i m σ H →
  ((BI lo n).stop i H/\D.nx σ H)\/((BI lo n).go i H/\∃N:St->Hp->Prop,(∀σ' H',N σ' H'->∃m',m'<m/\W (i+1) m' σ' H')/\∀x H',(BI lo n).yld i H x H'->g x σ H' λσ2 H2=>tb {D with nx:=N,ct:=N,bk:=D.nx} σ2 H2):=by
 refine⟨λi m σ H=>m=n-i/\i<=n/\Pv i σ H,⟨n,by simp,Nat.zero_le _,h0⟩,?_⟩;rintro i m σ H ⟨rfl,hi,p⟩
 by_cases GV:i<n
 ·refine .inr ⟨GV,Pv (i+1),λσ' H' p'=>⟨n-(i+1),by omega,rfl,GV,p'⟩,λx H' y=>?_⟩;obtain⟨e,y⟩:=y;subst e y;exact hs i σ _ GV p
 ·have e:i=n:=by omega
  subst e;exact .inl ⟨Nat.le_refl _,hd σ H p⟩
noncomputable abbrev R2:=V->V->Hp->VK->Prop
noncomputable def dX (X:Cx)(f:Value->Value->Sem Value)(r:R2):Prop :=
 ∀(pins:List (Addr×Obj))(s:GH)(σ:St)(H:Hp)(x y:V)(v u:Value)(Q:VK),Inv X pins σ H s->aG x v->aG y u->r x y H Q →
  wpAny (model X.prog X.w) X.A (f v u) (EP X pins σ Q) X.xe s
noncomputable def Fd (X:Cx)(f:Value->Sem Value)(r:V->Hp->VK->Prop):Prop :=
 ∀(pins:List (Addr×Obj))(s:GH)(σ:St)(H:Hp)(x:V)(v:Value)(Q:VK),Inv X pins σ H s->aG x v->r x H Q →
  wpAny (model X.prog X.w) X.A (f v) (EP X pins σ Q) X.xe s
noncomputable def cb (X:Cx)(f:Value)(r:List V->Hp->VK->Prop):Prop :=
 ∀(pins:List (Addr×Obj))(s:GH)(σ:St)(H:Hp)(xs:List V)(us:oH)(Q:VK),Inv X pins σ H s->aK xs us->r xs H Q →
  wpAny (model X.prog X.w) X.A (call f us) (EP X pins σ Q) X.xe s
noncomputable def abV (X:Cx)(r:V->Hp->(Bool->Hp->Prop)->Prop):Prop :=
 ∀(pins:List (Addr×Obj))(s:GH)(σ:St)(H:Hp)(x:V)(v:Value)(Q:Bool->Hp->Prop),Inv X pins σ H s->aG x v->r x H Q →
  wpAny (model X.prog X.w) X.A (truthy v) (TP X pins σ Q) X.xe s
noncomputable def oU (r:R2)(ta tb:TE):TE:=λσ H Q=>ta σ H λx H1=>tb σ H1 λy H2=>r x y H2 Q
noncomputable def ab8 (r:V->Hp->VK->Prop)(ta:TE):TE:=λσ H Q=>ta σ H λx H1=>r x H1 Q
noncomputable def rI (C:Int->Int->Prop)(g:Int->Int->V):R2:=λx y H Q=>∃i j,x=.int i/\y=.int j/\C i j/\Q (g i j) H
noncomputable def w9 (g:Int->Int->V):R2:=λx y H Q=>∃i j,x=.int i/\y=.int j/\Q (g i j) H
noncomputable def rU (g:Int->V):V->Hp->VK->Prop:=λx H Q=>∃i,x=.int i/\Q (g i) H
variable {f:Value->Value->Sem Value}
section
variable {X:Cx}{a b c:Expr}{ta tb tc:TE}{pos:Pos}
theorem CJ (ha:PE X a ta)(hb:PE X b tb){R:V->V->Hp->Prop}(I:Inv X pins σ H s)
 (h:ta σ H λx H1=>tb σ H1 λy H2=>R x y H2){Q:wA}
 (hf:∀v u s2 x y H2,Inv X pins σ H2 s2->aG x v->aG y u->R x y H2->wpAny (model X.prog X.w) X.A (f v u) Q X.xe s2):
 wpAny (model X.prog X.w) X.A (eval a X.env) (λv s₁=>wpAny (model X.prog X.w) X.A (eval b X.env) (λu s₂=>wpAny (model X.prog X.w) X.A (f v u) Q X.xe s₂) X.xe s₁) X.xe s:=by
 refine bA (ha pins s σ H _ I h) λv s1 z'=>?_;obtain⟨x,H1,I1,r1,q1⟩:=z';refine bA (hb pins s1 σ H1 _ I1 q1) λu s2 z'=>?_;obtain⟨y,H2,I2,r2,q2⟩:=z';exact hf v u s2 x y H2 I2 r1 r2 q2
theorem aF {op:Operator}{r:R2}(ho:dX X (binaryOp op) r)(ha:PE X a ta)(hb:PE X b tb):PE X (.BinOp a op b pos) (oU r ta tb):=by
 intro pins s σ H Q I h;exact wpAny_BinOp (CJ ha hb I h λv u s2 x y H2 I2 rx ry q=>ho pins s2 σ H2 x y v u Q I2 rx ry q)
theorem pB {op:UnaryOp}{r:V->Hp->VK->Prop}(ho:Fd X (unaryOp op) r)(ha:PE X a ta):PE X (.UnaryOp op a pos) (ab8 r ta):=by
 intro pins s σ H Q I h;exact UnaryOp_ (bA (ha pins s σ H _ I h) λv s1 ⟨x,H1,I1,r1,q1⟩=>ho pins s1 σ H1 x v Q I1 r1 q1)
theorem CY {C:Int->Int->Prop}{g:Int->Int->Int}
 (rule:∀(i j:Int)(t u:Tok)(s:GH)(Q:wA)(E:wA),C i j->Q (.int (g i j) s.toks) {s with toks:=s.toks+1}->wpAny (model X.prog X.w) X.A (f (.int i t) (.int j u)) Q E s):
 dX X f (rI C λi j=>.int (g i j)):=by
 intro pins s σ H x y v u Q I rx ry h;obtain⟨i,j,rfl,rfl,hc,q⟩:=h;obtain⟨t,rfl⟩:=rx;obtain⟨t',rfl⟩:=ry;exact rule i j t t' s _ _ hc ⟨.int (g i j),H,I.tok _,⟨_,rfl⟩,q⟩
theorem Dl {g:Int->Int->Int}
 (rule:∀(i j:Int)(t u:Tok)(s:GH)(Q:wA)(E:wA),Q (.int (g i j) s.toks) {s with toks:=s.toks+1}->wpAny (model X.prog X.w) X.A (f (.int i t) (.int j u)) Q E s):
 dX X f (w9 λi j=>.int (g i j)):=by
 intro pins s σ H x y v u Q I rx ry h;obtain⟨i,j,rfl,rfl,q⟩:=h;obtain⟨t,rfl⟩:=rx;obtain⟨t',rfl⟩:=ry;exact rule i j t t' s _ _ ⟨.int (g i j),H,I.tok _,⟨_,rfl⟩,q⟩
theorem AA {g:Int->Int->Bool}
 (rule:∀(i j:Int)(t u:Tok)(s:GH)(Q:wA)(E:wA),Q (.bool (g i j)) s->wpAny (model X.prog X.w) X.A (f (.int i t) (.int j u)) Q E s):
 dX X f (w9 λi j=>.bl (g i j)):=by
 intro pins s σ H x y v u Q I rx ry h;obtain⟨i,j,rfl,rfl,q⟩:=h;obtain⟨t,rfl⟩:=rx;obtain⟨t',rfl⟩:=ry;exact rule i j t t' s _ _ ⟨.bl (g i j),H,I,rfl,q⟩
noncomputable def acf (i j:Int):Prop:=0<j/\j<1073741824
noncomputable def acg (i j:Int):Prop:=0<=j/\j<=1000000/\i.natAbs<2^64
noncomputable def vo (i j:Int):Prop:=(-(2^64)<i/\i<2^64)\/(-(2^64)<j/\j<2^64)
theorem vo.ok {i j:Int}(h:vo i j):IntMulOk i j:=by
 rcases h with⟨h1,h2⟩|⟨h1,h2⟩
 ·exact .of_left (intBits_le_64 h1 h2)
 ·exact .of_right (intBits_le_64 h1 h2)
theorem cH:dX X (binaryOp .Add) (w9 λi j=>.int (i+j)):=Dl λ_ _ _ _ _ _ _ q=>add_int q
theorem gf:dX X (binaryOp .Sub) (w9 λi j=>.int (i-j)):=Dl λ_ _ _ _ _ _ _ q=>sub_int q
theorem eW:dX X (binaryOp .Mult) (rI vo λi j=>.int (i*j)):=CY λ_ _ _ _ _ _ _ hc q=>mul_int q hc.ok
theorem abO:dX X (binaryOp .FloorDiv) (rI acf λi j=>.int (i/j)):=CY λi j _ _ _ _ _ hc q=>by
 have h1:(0:Int)<j:=hc.1;have h2:j<1073741824:=hc.2;exact floordiv_int (by omega) (by rw[Int.fdiv_eq_ediv_of_nonneg i (by omega)];exact q) (.inl (PyProof.noPylong_small (by omega)))
theorem eU:dX X (binaryOp .Mod) (rI (λ_ j=>0<j) λi j=>.int (i%j)):=CY λi j _ _ _ _ _ hc q=>by
 have h1:(0:Int)<j:=hc;exact mod_int' (by omega) (by rw[Int.fmod_eq_emod_of_nonneg i (by omega)];exact q)
theorem uH:dX X (binaryOp .Mod) (rI (λ_ j=>j≠0) λi j=>.int (i.fmod j)):=CY λ_ _ _ _ _ _ _ hc q=>mod_int' hc q
theorem jn:dX X (binaryOp .Pow) (rI acg λi j=>.int (i^j.toNat)):=CY λ_ _ _ _ _ _ _ hc q=>pow_int_small hc.1 hc.2.1 hc.2.2 q
theorem ach {f:Value->Sem Value}{g:Int->Int}
 (rule:∀(i:Int)(t:Tok)(s:GH)(Q:wA)(E:wA),Q (.int (g i) s.toks) {s with toks:=s.toks+1}->wpAny (model X.prog X.w) X.A (f (.int i t)) Q E s):
 Fd X f (rU λi=>.int (g i)):=by
 intro pins s σ H x v Q I rx h;obtain⟨i,rfl,q⟩:=h;obtain⟨t,rfl⟩:=rx;exact rule i t s _ _ ⟨.int (g i),H,I.tok _,⟨_,rfl⟩,q⟩
theorem ko:Fd X (unaryOp .USub) (rU λi=>.int (-i)):=ach λ_ _ _ _ _ q=>neg_int q
end
noncomputable def C6:V->V->Bool
 | .non,.non=>true| .non,.int _=>true| .int _,.non=>true| .non,.bl _=>true| .bl _,.non=>true| .non,.str _=>true| .str _,.non=>true
 | .int _,.int _=>true| .bl _,.bl _=>true| .str _,.str _=>true| .byt _,.byt _=>true
 | .int _,.str _=>true| .str _,.int _=>true| .bl _,.str _=>true| .str _,.bl _=>true
 |_,_=>false
noncomputable def rEq:R2:=λx y H Q=>C6 x y=true/\Q (.bl (decide (x=y))) H
noncomputable def rNe:R2:=λx y H Q=>C6 x y=true/\Q (.bl (!decide (x=y))) H
theorem sM {i j:Int}:decide (V.int i=V.int j)=(i==j):=by
 rw[Bool.eq_iff_iff];simp
theorem wL {i j:Bool}:decide (V.bl i=V.bl j)=(i==j):=by
 rw[Bool.eq_iff_iff];simp
theorem tY {i j:Str}:decide (V.str i=V.str j)=(i==j):=by
 rw[Bool.eq_iff_iff];simp
theorem tI {i j:Array UInt8}:decide (V.byt i=V.byt j)=(i.toList==j.toList):=by
 rw[Bool.eq_iff_iff]
 cases i
 cases j
 simp
variable {Q:VK}
section
variable {X:Cx}{a b c:Expr}{ta tb tc:TE}{pos:Pos}
theorem bg {k k':Bool}(I:Inv X pins σ H s)(q:Q (.bl k) H)(e:k=k'):EP X pins σ Q (.bool k') s:=by
 subst e;exact⟨.bl k,H,I,rfl,q⟩
theorem cM:dX X (compareOp .Eq) rEq:=by
 intro pins s σ H x y v u Q I rx ry h;obtain⟨hs,q⟩:=h
 cases x with
 |non =>
  cases rx
  cases y with
  |non=>cases ry;exact PySem.EqNone.eq_none_none (bg I q (by simp))
  |bl j=>cases ry;exact PySem.EqNone.eq_none_bool (bg I q (by simp))
  |int j=>obtain⟨t',rfl⟩:=ry;exact PySem.EqNone.eq_none_int (bg I q (by simp))
  |str j=>obtain⟨t',rfl⟩:=ry;exact PySem.EqNone.eq_none_str (bg I q (by simp))
  |_=>exact absurd (show false=true from hs) Bool.false_ne_true
 |bl i =>
  cases rx
  cases y with
  |non=>cases ry;exact PySem.EqNone.eq_bool_none (bg I q (by simp))
  |bl j=>cases ry;exact eq_bool (bg I q wL)
  |str j=>obtain⟨t',rfl⟩:=ry;exact PySem.EqMixed.eq_bool_str (bg I q (by simp))
  |_=>exact absurd (show false=true from hs) Bool.false_ne_true
 |int i =>
  obtain⟨t,rfl⟩:=rx
  cases y with
  |non=>cases ry;exact PySem.EqNone.eq_int_none (bg I q (by simp))
  |int j=>obtain⟨t',rfl⟩:=ry;exact eq_int (bg I q sM)
  |str j=>obtain⟨t',rfl⟩:=ry;exact PySem.EqMixed.eq_int_str (bg I q (by simp))
  |_=>exact absurd (show false=true from hs) Bool.false_ne_true
 |str i =>
  obtain⟨t,rfl⟩:=rx
  cases y with
  |non=>cases ry;exact PySem.EqNone.eq_str_none (bg I q (by simp))
  |bl j=>cases ry;exact PySem.EqMixed.eq_str_bool (bg I q (by simp))
  |int j=>obtain⟨t',rfl⟩:=ry;exact PySem.EqMixed.eq_str_int (bg I q (by simp))
  |str j=>obtain⟨t',rfl⟩:=ry;exact eq_str (bg I q tY)
  |_=>exact absurd (show false=true from hs) Bool.false_ne_true
 |byt i =>
  obtain⟨t,rfl⟩:=rx
  cases y with
  |byt j=>obtain⟨t',rfl⟩:=ry;exact PySem.W.eq_bytes (bg I q tI)
  |_=>exact absurd (show false=true from hs) Bool.false_ne_true
 |_=>cases y <;> exact absurd (show false=true from hs) Bool.false_ne_true
theorem gF:dX X (compareOp .NotEq) rNe:=by
 intro pins s σ H x y v u Q I rx ry h;obtain⟨hs,q⟩:=h
 cases x with
 |non =>
  cases rx
  cases y with
  |non=>cases ry;exact PySem.EqNone.ne_none_none (bg I q (by simp))
  |bl j=>cases ry;exact PySem.EqNone.ne_none_bool (bg I q (by simp))
  |int j=>obtain⟨t',rfl⟩:=ry;exact PySem.EqNone.ne_none_int (bg I q (by simp))
  |str j=>obtain⟨t',rfl⟩:=ry;exact PySem.EqNone.ne_none_str (bg I q (by simp))
  |_=>exact absurd (show false=true from hs) Bool.false_ne_true
 |bl i =>
  cases rx
  cases y with
  |non=>cases ry;exact PySem.EqNone.ne_bool_none (bg I q (by simp))
  |bl j=>cases ry;exact ne_bool (bg I q (congrArg not wL))
  |str j=>obtain⟨t',rfl⟩:=ry;exact PySem.EqMixed.ne_bool_str (bg I q (by simp))
  |_=>exact absurd (show false=true from hs) Bool.false_ne_true
 |int i =>
  obtain⟨t,rfl⟩:=rx
  cases y with
  |non=>cases ry;exact PySem.EqNone.ne_int_none (bg I q (by simp))
  |int j=>obtain⟨t',rfl⟩:=ry;exact ne_int (bg I q (congrArg not sM))
  |str j=>obtain⟨t',rfl⟩:=ry;exact PySem.EqMixed.ne_int_str (bg I q (by simp))
  |_=>exact absurd (show false=true from hs) Bool.false_ne_true
 |str i =>
  obtain⟨t,rfl⟩:=rx
  cases y with
  |non=>cases ry;exact PySem.EqNone.ne_str_none (bg I q (by simp))
  |bl j=>cases ry;exact PySem.EqMixed.ne_str_bool (bg I q (by simp))
  |int j=>obtain⟨t',rfl⟩:=ry;exact PySem.EqMixed.ne_str_int (bg I q (by simp))
  |str j=>obtain⟨t',rfl⟩:=ry;exact ne_str (bg I q (congrArg not tY))
  |_=>exact absurd (show false=true from hs) Bool.false_ne_true
 |byt i =>
  obtain⟨t,rfl⟩:=rx
  cases y with
  |byt j=>obtain⟨t',rfl⟩:=ry;exact PySem.W.ne_bytes (bg I q (congrArg not tI))
  |_=>exact absurd (show false=true from hs) Bool.false_ne_true
 |_=>cases y <;> exact absurd (show false=true from hs) Bool.false_ne_true
theorem eQ:dX X (compareOp .Lt) (w9 λi j=>.bl (decide (i<j))):=AA λ_ _ _ _ _ _ _ q=>lt_int q
theorem p4:dX X (compareOp .LtE) (w9 λi j=>.bl (decide (i<=j))):=AA λ_ _ _ _ _ _ _ q=>le_int q
theorem qz:dX X (compareOp .Gt) (w9 λi j=>.bl (decide (j<i))):=AA λ_ _ _ _ _ _ _ q=>gt_int q
theorem zi:dX X (compareOp .GtE) (w9 λi j=>.bl (decide (j<=i))):=AA λ_ _ _ _ _ _ _ q=>ge_int q
theorem yT:dX X (compareOp .Is) (λx y H Q=>y=.non/\Q (.bl (decide (x=.non))) H):=by
 intro pins s σ H x y v u Q I rx ry h;obtain⟨rfl,q⟩:=h
 cases ry
 refine is_none_gen (bg I q ?_)
 cases x <;> first
  |(cases rx;rfl)
  |(obtain⟨t,rfl⟩:=rx;rfl)
theorem aci:dX X (compareOp .IsNot) (λx y H Q=>y=.non/\Q (.bl (!decide (x=.non))) H):=by
 intro pins s σ H x y v u Q I rx ry h;obtain⟨rfl,q⟩:=h
 cases ry
 refine isnot_none_gen (bg I q ?_)
 cases x <;> first
  |(cases rx;rfl)
  |(obtain⟨t,rfl⟩:=rx;rfl)
theorem aA (b:Expr)(h:op ≠ .In:=by decide)(h2:op ≠ .NotIn:=by decide):behindInMarks op b=false:=by
 have e1:(op==CmpOp.In)=false:=by cases op <;> first|rfl|exact absurd rfl h
 have e2:(op==CmpOp.NotIn)=false:=by cases op <;> first|rfl|exact absurd rfl h2
 cases b <;> simp[behindInMarks,e1,e2]
theorem bD {op:CmpOp}{r:R2}(ho:dX X (compareOp op) r)(ha:PE X a ta)(hb:PE X b tb)(hm:behindInMarks op b=false):PE X (.Compare a [op] [b] pos) (oU r ta tb):=by
 intro pins s σ H Q I h;exact wpAny_Compare1 (CJ ha hb I h λv u s2 x y H2 I2 rx ry q=>ho pins s2 σ H2 x y v u Q I2 rx ry q) hm
noncomputable def A8 (t:TE):TT:=λσ H Q=>t σ H λx H'=>∃k,x=.bl k/\Q k H'
theorem aB {op:CmpOp}{r:R2}(ho:dX X (compareOp op) r)(ha:PE X a ta)(hb:PE X b tb)(hm:behindInMarks op b=false):PT X (.Compare a [op] [b] pos) (A8 (oU r ta tb)):=by
 intro pins s σ H Q I h
 refine wpAny_isTrue_Compare1 (bA (ha pins s σ H _ I h) λv s1 ⟨x,H1,I1,r1,q1⟩=>bA (hb pins s1 σ H1 _ I1 q1) λu s2 ⟨y,H2,I2,r2,q2⟩ =>
  bA (ho pins s2 σ H2 x y v u _ I2 r1 r2 q2) λc s3 ⟨z,H3,I3,r3,k,e,q3⟩=>?_) hm
 subst e
 cases r3
 exact wpAny_truthy_bool ⟨H3,I3,q3⟩
noncomputable def yh (r r':R2)(ta tb tc:TE):TE:=λσ H Q=>ta σ H λx H1=>tb σ H1 λy H2=>r x y H2 λz H3=>∃k,z=.bl k /\
 (if k=true then tc σ H3 λw' H4=>r' y w' H4 Q else Q (.bl false) H3)
theorem pT {LA:CmpOp}{r r':R2}(ho:dX X (compareOp op) r)(Iv:dX X (compareOp LA) r')(ha:PE X a ta)(hb:PE X b tb)(hc:PE X c tc)
 (hm:lastMarks [op,LA] [b,c]=false:=by with_unfolding_all rfl):PE X (.Compare a [op,LA] [b,c] pos) (yh r r' ta tb tc):=by
 intro pins s σ H Q I h
 refine Compare_chain (bA (ha pins s σ H _ I h) λv s1 ⟨x,H1,I1,r1,q1⟩=>chain_link (bA (hb pins s1 σ H1 _ I1 q1) λu s2 ⟨y,H2,I2,r2,q2⟩ =>
  bA (ho pins s2 σ H2 x y v u _ I2 r1 r2 q2) λd s3 ⟨z,H3,I3,r3,k,e,q3⟩=>?_)) hm
 subst e
 cases r3
 refine wpAny_truthy_bool ?_
 cases k with
 |false=>exact ite_ff ⟨.bl false,H3,I3,rfl,q3⟩
 |true=>exact ite_tt (chain_last (bA (hc pins s3 σ H3 _ I3 q3) λw' s4 ⟨z',H4,I4,r4,q4⟩=>Iv pins s4 σ H4 y z' u w' Q I4 r2 r4 q4))
theorem abU {LA:CmpOp}{r r':R2}(ho:dX X (compareOp op) r)(Iv:dX X (compareOp LA) r')(ha:PE X a ta)(hb:PE X b tb)(hc:PE X c tc)
 (hm:lastMarks [op,LA] [b,c]=false:=by with_unfolding_all rfl):PT X (.Compare a [op,LA] [b,c] pos) (A8 (yh r r' ta tb tc)):=by
 intro pins s σ H Q I h
 refine isTrue_chain (bA (ha pins s σ H _ I h) λv s1 ⟨x,H1,I1,r1,q1⟩=>test_link (bA (hb pins s1 σ H1 _ I1 q1) λu s2 ⟨y,H2,I2,r2,q2⟩ =>
  bA (ho pins s2 σ H2 x y v u _ I2 r1 r2 q2) λd s3 ⟨z,H3,I3,r3,k,e,q3⟩=>?_)) hm
 subst e
 cases r3
 refine wpAny_truthy_bool ?_
 cases k with
 |false =>
  obtain⟨k',e',q'⟩:=q3
  cases e'
  exact ite_ff ⟨H3,I3,q'⟩
 |true =>
  refine ite_tt (test_last (bA (hc pins s3 σ H3 _ I3 q3) λw' s4 ⟨z',H4,I4,r4,q4⟩=>bA (Iv pins s4 σ H4 y z' u w' _ I4 r2 r4 q4) λd' s5 ⟨z2,H5,I5,r5,k2,e2,q5⟩=>?_));subst e2
  cases r5
  exact wpAny_truthy_bool ⟨H5,I5,q5⟩
noncomputable def Bx (K:PySem.W.Frag)(x:V)(H:Hp)(k:Bool):Prop :=
 match x with
 | .non=>k=false
 | .bl b=>k=b
 | .int i=>k=(i != 0)
 | .str y=>y.length<=sizeLine/\k=((y.length:Int) != 0)
 | .byt y=>y.size<=sizeLine/\k=((y.size:Int) != 0)
 | .ref p=>(∃xs,aM K H p xs/\k = !xs.isEmpty)\/(∃xs,bX K H p xs/\k = !xs.isEmpty)\/∃GK,H p=some (.dK GK)/\k = !GK.isEmpty
 |_=>False
theorem aaw {κ:Type}{GK:List (κ×V)}{vs:List (κ×Value)}(r:KV GK vs):(!vs.isEmpty) = !GK.isEmpty:=by
 cases r <;> rfl
theorem ky {xs:List V}{its:oH}(r:aK xs its):(!its.toArray.isEmpty) = !xs.isEmpty:=by
 cases r <;> simp
theorem ke:(sizeLine:Nat)<2^63:=by rw[sizeLine_eq];decide
theorem aaD:abV X (λx H Q=>∃k,Bx X.K x H k/\Q k H):=by
 intro pins s σ H x v Q I rx h;obtain⟨k,e,q⟩:=h;have hl:=ke;have hs:sizeLine=16777216:=sizeLine_eq
 cases x with
 |non =>
  cases rx
  have e':k=false:=e;subst e';exact truthy_none ⟨H,I,q⟩
 |bl b =>
  cases rx
  have e':k=b:=e;subst e';exact wpAny_truthy_bool ⟨H,I,q⟩
 |int i =>
  obtain⟨t,rfl⟩:=rx;have e':k=(i != 0):=e;subst e';exact PySem.P.truthy_int ⟨H,I,q⟩
 |str y =>
  obtain⟨t,rfl⟩:=rx;obtain⟨hy,e'⟩:y.length<=sizeLine/\k=((y.length:Int) != 0):=e;subst e';exact PySem.P.truthy_str (by omega) ⟨H,I.tok _,q⟩
 |byt y =>
  obtain⟨t,rfl⟩:=rx;obtain⟨hy,e'⟩:y.size<=sizeLine/\k=((y.size:Int) != 0):=e;subst e';exact PySem.W.truthy_bytes (by omega) ⟨H,I.tok _,q⟩
 |ref p =>
  cases rx
  have e':(∃xs,aM X.K H p xs/\k = !xs.isEmpty)\/(∃xs,bX X.K H p xs/\k = !xs.isEmpty)\/∃GK,H p=some (.dK GK)/\k = !GK.isEmpty:=e
  rcases e' with⟨xs,hx,e'⟩|⟨xs,hx,e'⟩|⟨GK,hx,e'⟩
  ·subst e';obtain⟨its,r,pl,hz⟩:=I.list hx;have hlen:=r.length;exact wpAny_truthy_list pl.isList (by simp only[List.size_toArray];omega) ⟨H,I.tok _,by rw[ky r];exact q⟩
  ·subst e';obtain⟨its,r,pl,hz⟩:=I.tuple hx;have hlen:=r.length;exact truthy_tuple pl (by simp only[List.size_toArray];omega) ⟨H,I.tok _,by rw[ky r];exact q⟩
  ·subst e';obtain⟨hz,hS,vs,r,m⟩:GK.length<=sizeLine/\(p==sysModules)=false/\∃vs,KV GK vs/\s.heap.DictOf (ck X.prog X.w) p vs:=I.hok p _ hx;have hlen:GK.length=vs.length:=Paired.length r;exact wpAny_truthy_dict hS m (by omega) ⟨H,I.tok _,by rw[aaw r];exact q⟩
 |_=>exact(show False from e).elim
theorem fJ (ha:PE X a ta)(he:∀dR,isTrue a X.env dR=(do let v <-dR;standAt a.pos;holding [v] (truthy v))):
 PT X a (λσ H Q=>ta σ H λx H'=>∃k,Bx X.K x H' k/\Q k H'):=by
 intro pins s σ H Q I h;exact isTrue_plain (bA (ha pins s σ H _ I h) λv s1 ⟨x,H1,I1,r1,q1⟩=>aaD pins s1 σ H1 x v Q I1 r1 q1) (he _)
theorem dS {x:V}(r:aK [x] us):∃u,us=[u]/\aG x u:=by
 cases r with
 |cons r1 r2=>cases r2;exact⟨_,rfl,r1⟩
theorem uC {x:V}(r:aK [x,y] us):∃u w',us=[u,w']/\aG x u/\aG y w':=by
 cases r with
 |cons r1 r2 =>
  cases r2 with
  |cons r3 r4=>cases r4;exact⟨_,_,rfl,r1,r3⟩
theorem fj:cb X (.builtin "abs") (λxs H Q=>∃i,xs=[.int i]/\Q (.int (if i<0 then -i else i)) H):=by
 intro pins s σ H xs us Q I r h;obtain⟨i,rfl,q⟩:=h;obtain⟨u,rfl,t,rfl⟩:=dS r;exact call_abs_int λu tk=>⟨.int (if i<0 then -i else i),H,I.tok _,⟨_,rfl⟩,q⟩
theorem abr (hc:X.calm=true):cb X (.builtin "max") (λxs H Q=>∃i j,xs=[.int i,.int j]/\Q (.int (if j>i then j else i)) H):=by
 intro pins s σ H xs us Q I r h;obtain⟨i,j,rfl,q⟩:=h;obtain⟨u,w',rfl,⟨t,rfl⟩,⟨t',rfl⟩⟩:=uC r;refine max_two_ints (I.ok.hd hc) λh' tk k=>⟨_,H,I.kept k,?_,q⟩
 by_cases hj:j>i
 ·rw[if_pos hj,if_pos hj];exact⟨_,rfl⟩
 ·rw[if_neg hj,if_neg hj];exact⟨_,rfl⟩
theorem aaR (hc:X.calm=true):cb X (.builtin "min") (λxs H Q=>∃i j,xs=[.int i,.int j]/\Q (.int (if j<i then j else i)) H):=by
 intro pins s σ H xs us Q I r h;obtain⟨i,j,rfl,q⟩:=h;obtain⟨u,w',rfl,⟨t,rfl⟩,⟨t',rfl⟩⟩:=uC r;refine min_two_ints (I.ok.hd hc) λh' tk k=>⟨_,H,I.kept k,?_,q⟩
 by_cases hj:j<i
 ·rw[if_pos hj,if_pos hj];exact⟨_,rfl⟩
 ·rw[if_neg hj,if_neg hj];exact⟨_,rfl⟩
theorem ji:cb X (.type "int") (λxs H Q=>(∃i,xs=[.int i]/\Q (.int i) H)\/∃k,xs=[.bl k]/\Q (.int (if k then 1 else 0)) H):=by
 intro pins s σ H xs us Q I r h
 rcases h with⟨i,rfl,q⟩|⟨k,rfl,q⟩
 ·obtain⟨u,rfl,t,rfl⟩:=dS r;exact call_int_int ⟨.int i,H,I,⟨_,rfl⟩,q⟩
 ·obtain⟨u,rfl,r1⟩:=dS r
  cases r1
  exact call_int_bool ⟨.int (if k then 1 else 0),H,I.tok _,⟨_,rfl⟩,q⟩
theorem ix:cb X (.type "str") (λxs H Q=>∃i,xs=[.int i]/\i.natAbs.log2<1920/\Q (.str (toString i)) H):=by
 intro pins s σ H xs us Q I r h;obtain⟨i,rfl,hz,q⟩:=h;obtain⟨u,rfl,t,rfl⟩:=dS r;exact PySem.P.str_of_int hz ⟨.str _,H,I.tok _,⟨_,rfl⟩,q⟩
end
structure yw (h:Heap)(x dx C:Addr)(mA:vJ):Prop where
 obj:h.get? x=some (PySem.W.instObj C dx)
 ns:h.Ns1 dx mA
 ne:dx≠x
theorem m7 {dx:Addr}{mA:vJ}(n:h.Ns1 dx mA):∃od,h.get? dx=some od/\∀name,PySem.W.lookIn name od=some (mA name):=by
 obtain⟨o,es,ep,ho,hd,hk,_,hm⟩:=n;refine⟨o,ho,λname=>?_⟩;have e:=hm name;unfold nsFind findBy at e;rw[<-Array.find?_toList] at e;unfold PySem.W.lookIn;rw[hd];dsimp only
 split
 ·rename_i y q
  rw[q] at e;exact congrArg some e
 ·rename_i q
  rw[q] at e
  have a:es.toList.any (·.refKey)=false:=by
   rw[List.any_eq_false];intro y hy;obtain⟨z,t,Tj⟩:=hk y (Array.mem_toList_iff.mp hy);simp[DictEntry.refKey,Tj]
  have a':¬es.toList.any (·.refKey)=true:=by rw[a];exact Bool.false_ne_true
  rw[if_neg a'];exact congrArg some e
variable {C:Addr}
theorem yw.look {x dx:Addr}{mA:vJ}(I:yw h x dx C mA):∃od,PySem.W.InstAt h x (PySem.W.instObj C dx) C (some od)/\∀name,PySem.W.lookIn name od=some (mA name):=
 let⟨od,ho,hl⟩:=m7 I.ns
 ⟨od,⟨I.obj,rfl,rfl,ho⟩,hl⟩
variable {pl:Sem Bool}{kw:List (Str×Value)}
section
variable {prog:wM}{w:World}{A:Around}{E:wA}{s:GH}{K:PySem.W.Frag}{x dx C f:Addr}{mA:vJ}{name:Str}{v:Value}
theorem acm {expr:Bool}{Q:wA}(X:K.In s.heap)(I:yw s.heap x dx C mA)(hg:PySem.W.plainGet K C name=true)(hh:PySem.W.hasDictIn K C=true)
 (ha:PySem.W.findIn K (.ref C) name=some none)(hv:mA name=some v)(hv':PySem.W.handedIn v=true)(h:Q v {s with toks:=s.toks+1}):
 wpAny (model prog w) A (getAttr (.ref x) name expr) Q E s:=by
 obtain⟨od,J,hl⟩:=I.look;exact PySem.W.get_value X J (PySem.W.plainGet_of hg).1 (PySem.W.findObj_own hh ha rfl (by rw[hl,hv])) hv' h
theorem acp {Q:Value×List Value->Shared->Prop}(X:K.In s.heap)(I:yw s.heap x dx C mA)(hg:PySem.W.plainGet K C name=true)
 (hf:PySem.W.findIn K (.ref C) name=some (some (.ref f)))(ht:PySem.W.isFn K (.ref f)=true)(hv:mA name=none)(h:Q (.ref f,[.ref x]) s):
 wpAny (model prog w) A (getMethod (.ref x) name pl) Q E s:=by
 obtain⟨od,J,hl⟩:=I.look;exact PySem.W.method_fn X J (PySem.W.plainGet_of hg).1 (PySem.W.plainGet_of hg).2 hf (beq_iff_eq.mp ht) (by show(PySem.W.lookIn name od).map (·.isSome)=some false;rw[hl,hv];rfl) h
theorem acq {ns:xQ}{Q:Unit->Shared->Prop}(X:K.In s.heap)(I:yw s.heap x dx C mA)
 (hs:PySem.W.findIn K (.ref C) "__setattr__"=some (some (.builtin "object.__setattr__")))(hp:PySem.W.plainOver K C=true)(ht:PySem.W.takerIn K C name=some none)(hh:PySem.W.hasDictIn K C=true)
 (hw:PySem.Within mA ns)(hsz:ns.length<=sizeLine)
 (h:∀h',yw h' x dx C (λy=>if y=name then some v else mA y)->Heap.SameBut dx s.heap h'->Q () {s with heap:=h',toks:=s.toks+2}):
 wpAny (model prog w) A (setAttr (.ref x) name v) Q E s:=by
 obtain⟨od,J,hl⟩:=I.look;refine PySem.W.set_plain X J hs (PySem.W.osa_open (s:={s with toks:=s.toks+1}) (r:=none) X J hp ht λb=>?_);obtain⟨cd,hc,Tb⟩:=PySem.W.any_some hh;have hx:s.heap.get? x=some ⟨.ref C,some dx,.plain,#[]⟩:=I.obj;refine wpAny_bind (wpAny_pure (wpAny_bind (wpAny_bind (wpAny_loadPart hx (wpAny_bind (PySem.W.Looks.here (s:={s with toks:=s.toks+1}) (PySem.W.looks_clsIn X hc) ?_))))));rw[Tb];refine wpAny_pure (a:=some dx) (wpAny_bind (wpAny_pure (wpAny_bind ?_)));refine wpAny_nsSet1 (s:={s with toks:=s.toks+1}) I.ns λh' RI RJ=>?_;obtain⟨oD,Ye,Yg,NW,NX,Jq⟩:=RI.count (PySem.Within.cons name v hw);refine wpAny_bind (wpAny_lookBehind NW (by rw[NX];exact pastItsLine_dict (Nat.le_trans Jq (by rw[List.length_cons];omega))) ?_);exact wpAny_pure (h _ ⟨(RJ.2 _ (Ne.symm I.ne)).trans I.obj,RI,I.ne⟩ RJ)
theorem kn {R:Result->Shared->Prop}{vs:oH}(X:K.In s.heap)(hm:PySem.W.makesIn K C=true)
 (hi:PySem.W.findIn K (.ref C) "__init__"=some (some (.ref f)))(hf:PySem.W.typeIn K (.ref f)=some (.type "function"))
 (h:codeAny (model prog w) (A.under (.builtin "type.__call__" ⟨.ref C::vs,kw⟩)) (.call (.ref f) ⟨.ref (s.heap.objs.size+1):: vs,kw⟩) (PySem.W.InitBack (s.heap.objs.size+1) R)
  {s with heap:=(s.heap.push PySem.W.emptyDict).push (PySem.W.instObj C s.heap.objs.size)}):
 codeAny (model prog w) A (.call (.ref C) ⟨vs,kw⟩) R s:=by
 obtain⟨hh,g,d,t,os⟩:=s;exact PySem.W.make_core (PySem.W.makes_of X hm) (PySem.W.looks_findIn X hi) (λself=>PySem.W.bind_fn X self hf) (.inl rfl) h
end
noncomputable def cE (f:Str)(v:V):List (Str×V)->List (Str×V)
 |[]=>[(f,v)]
 |(g,x):: r=>if g=f then(g,v):: r else(g,x):: cE f v r
theorem gD (f g:Str)(v:V):∀fs:List (Str×V),(cE f v fs).lookup g=if g=f then some v else fs.lookup g
 |[]=>by
  show List.lookup g [(f,v)]=_
  by_cases h:g=f
  ·have hb:(g==f)=true:=beq_iff_eq.mpr h;simp only[List.lookup,hb,if_pos h]
  ·have hb:(g==f)=false:=beq_eq_false_iff_ne.mpr h;simp only[List.lookup,hb,if_neg h]
 |(k,x):: r=>by
  have ih:=gD f g v r;rw[show cE f v ((k,x):: r)=(if k=f then(k,v):: r else(k,x):: cE f v r) from rfl]
  by_cases hk:k=f
  ·rw[if_pos hk]
   by_cases h:g=k
   ·have hb:(g==k)=true:=beq_iff_eq.mpr h;simp only[List.lookup,hb,if_pos (h.trans hk)]
   ·have hb:(g==k)=false:=beq_eq_false_iff_ne.mpr h;simp only[List.lookup,hb,if_neg (λe:g=f=>h (e.trans hk.symm))]
  ·rw[if_neg hk]
   by_cases h:g=k
   ·have hb:(g==k)=true:=beq_iff_eq.mpr h;simp only[List.lookup,hb,if_neg (λe:g=f=>hk (h.symm.trans e))]
   ·have hb:(g==k)=false:=beq_eq_false_iff_ne.mpr h;simp only[List.lookup,hb];exact ih
theorem fh (f:Str)(v:V):∀fs:List (Str×V),f∈(cE f v fs).map (·.1)/\∀g,g∈fs.map (·.1)->g∈(cE f v fs).map (·.1)
 |[]=>⟨by simp[cE],λg h=>by simp at h⟩
 |(k,x):: r=>by
  obtain⟨i1,i2⟩:=fh f v r;rw[show cE f v ((k,x):: r)=(if k=f then(k,v):: r else(k,x):: cE f v r) from rfl]
  by_cases hk:k=f
  ·rw[if_pos hk];subst hk;exact⟨by simp,λg h=>by simpa using h⟩
  ·rw[if_neg hk];refine⟨?_,λg h=>?_⟩
   ·rw[List.map_cons];exact List.mem_cons_of_mem _ i1
   ·rw[List.map_cons] at h |-
    rcases List.mem_cons.mp h with e|e
    ·exact List.mem_cons.mpr (.inl e)
    ·exact List.mem_cons_of_mem _ (i2 g e)
theorem jv (f:Str)(v:V):∀fs:List (Str×V),(cE f v fs).length<=fs.length+1
 |[]=>by simp[cE]
 |(k,x):: r=>by
  have ih:=jv f v r;rw[show cE f v ((k,x):: r)=(if k=f then(k,v):: r else(k,x):: cE f v r) from rfl]
  by_cases hk:k=f
  ·rw[if_pos hk,List.length_cons,List.length_cons];omega
  ·rw[if_neg hk,List.length_cons,List.length_cons];omega
theorem eX.some_of {v:V}{o:vV}(r:eX (some v) o):∃u,o=some u/\aG v u:=by
 cases o with
 |none=>exact(show False from r).elim
 |some u=>exact⟨u,rfl,r⟩
theorem eX.none_of {o:vV}(r:eX none o):o=none:=by
 cases o with
 |none=>rfl
 |some u=>exact(show False from r).elim
theorem nc (r:aG v u):PySem.W.handedIn u=true:=by
 cases v with
 |non=>cases(show u=Value.none from r);rfl
 |bl b=>cases(show u=Value.bool b from r);rfl
 |int i=>obtain⟨t,e⟩:=(show ∃t,u=Value.int i t from r);cases e;rfl
 |str x=>obtain⟨t,e⟩:=(show ∃t,u=Value.str x t from r);cases e;rfl
 |byt b=>obtain⟨t,e⟩:=(show ∃t,u=Value.bytes b t from r);cases e;rfl
 |flt b=>obtain⟨t,e⟩:=(show ∃t,u=Value.float b t from r);cases e;rfl
 |ref a=>cases(show u=Value.ref a from r);rfl
 |ty n=>cases(show u=Value.type n from r);rfl
section
variable {P:wM}{w:World}{H H':Hp}{h h':Heap}{a C dx:Addr}{fs fs':List (Str×V)}
theorem dD (hok:gk P w H h)(e:H a=some (.ins C dx fs)):∃mA,yw h a dx C mA/\(∀f,eX (fs.lookup f) (mA f))/\PySem.Within mA (fs.map (·.1))/\fs.length<=1000/\H dx=some (.own a):=by
 obtain⟨d,z,ne,ob,mA,n,r,q⟩:=(show ba P w H h a (.ins C dx fs) from hok a _ e);exact⟨mA,⟨ob,n,ne⟩,r,q,z,d⟩
end
structure DJ (K:PySem.W.Frag)(C:Addr):Prop where
 pg:PySem.W.plainGet K C Str.empty=true
 hd:PySem.W.hasDictIn K C=true
 po:PySem.W.plainOver K C=true
 sa:PySem.W.findIn K (.ref C) "__setattr__"=some (some (.builtin "object.__setattr__"))
theorem DJ.get (c:DJ K C)(f:Str):PySem.W.plainGet K C f=true:=c.pg
noncomputable def bJ (K:PySem.W.Frag)(C:Addr)(f:Str):Prop:=PySem.W.findIn K (.ref C) f=some none
theorem bJ.acT {f:Str}(n:bJ K C f):PySem.W.takerIn K C f=some none:=by
 unfold PySem.W.takerIn;rw[show PySem.W.findIn K (.ref C) f=some none from n];rfl
structure Meth (K:PySem.W.Frag)(C:Addr)(m:Str)(f:Addr):Prop where
 at_:PySem.W.findIn K (.ref C) m=some (some (.ref f))
 fn:PySem.W.isFn K (.ref f)=true
 kp:PySem.W.keepIn K (.ref f)=true
section
variable {X:Cx}{pins:List (Addr×Obj)}{σ:St}{H:Hp}{s:GH}{a C dx:Addr}{fs:List (Str×V)}{f:Str}{v:V}{A:Around}{E:wA}
theorem Sig {b:Bool}{Q:wA}(I:Inv X pins σ H s)(e:H a=some (.ins C dx fs))(c:DJ X.K C)(n:bJ X.K C f)(l:fs.lookup f=some v)
 (h:∀u s',Inv X pins σ H s'->aG v u->Q u s'):wpAny (model X.prog X.w) A (getAttr (.ref a) f b) Q E s:=by
 obtain⟨mA,O,r,_,_,_⟩:=dD I.hok e;obtain⟨u,hu,ru⟩:=eX.some_of (v:=v) (o:=mA f) (by rw[<-l];exact r f);exact acm I.kIn O (c.get f) c.hd n hu (nc ru) (h u _ (I.tok _) ru)
theorem lG {m:Str}{g:Addr}{Q:Value×List Value->Shared->Prop}(I:Inv X pins σ H s)(e:H a=some (.ins C dx fs))(c:DJ X.K C)(k:Meth X.K C m g)(l:fs.lookup m=none)
 (h:Q (.ref g,[.ref a]) s):wpAny (model X.prog X.w) A (getMethod (.ref a) m pl) Q E s:=by
 obtain⟨mA,O,r,_,_,_⟩:=dD I.hok e;have hn:mA m=none:=eX.none_of (by rw[<-l];exact r m);exact acp I.kIn O (c.get m) k.at_ k.fn hn h
theorem aau {Q:Unit->Shared->Prop}(I:Inv X pins σ H s)(e:H a=some (.ins C dx fs))(c:DJ X.K C)(n:bJ X.K C f)(hl:fs.length<1000)(ry:aG y u)
 (h:∀s',Inv X pins σ (upd H a (.ins C dx (cE f y fs))) s'->Q () s'):wpAny (model X.prog X.w) A (setAttr (.ref a) f u) Q E s:=by
 obtain⟨mA,O,r,wi,_,ho⟩:=dD I.hok e
 have hz:(fs.map (·.1)).length<=sizeLine:=by rw[List.length_map,sizeLine_eq];omega
 refine acq I.kIn O c.sa c.po n.acT c.hd wi hz λh' O' sb=>h _ ?_;have hd:∃o,h'.get? dx=some o:=let⟨o,_,_,e',_⟩:=O'.ns;⟨o,e'⟩;refine I.write (x:=a) (e:=dx) (by rw[e];exact True.intro) (.inr ho) (λb q hb z=>(sb.2 b hb).trans z) hd ?_;refine⟨by rw[aq O.ne];exact ho,?_,O.ne,O'.obj,_,O'.ns,λg=>?_,λg hg=>?_⟩
 ·have:=jv f y fs;omega
 ·show eX ((cE f y fs).lookup g) (if g=f then some u else mA g);rw[gD]
  by_cases q:g=f
  ·rw[if_pos q,if_pos q];exact ry
  ·rw[if_neg q,if_neg q];exact r g
 ·by_cases q:g=f
  ·rw[q];exact(fh f y fs).1
  ·refine(fh f y fs).2 g (wi g λz=>hg ?_);show(if g=f then some u else mA g)=none;rw[if_neg q];exact z
theorem Inv.made (I:Inv X pins σ H s):Inv X pins σ (upd (upd H s.heap.objs.size (.own (s.heap.objs.size+1))) (s.heap.objs.size+1) (.ins C s.heap.objs.size []))
 {s with heap:=(s.heap.push PySem.W.emptyDict).push (PySem.W.instObj C s.heap.objs.size)}:=by
 have e1:(s.heap.push PySem.W.emptyDict).get? s.heap.objs.size=some PySem.W.emptyDict:=Heap.get?_push_size s.heap rfl
 have e2:((s.heap.push PySem.W.emptyDict).push (PySem.W.instObj C s.heap.objs.size)).get? (s.heap.objs.size+1)=some (PySem.W.instObj C s.heap.objs.size):=by
  have:=Heap.get?_push_size (s.heap.push PySem.W.emptyDict) (o:=PySem.W.instObj C s.heap.objs.size) rfl;rwa[Heap.size_push] at this
 have e3:(s.heap.push PySem.W.emptyDict).Ns s.heap.objs.size (λ_=>none):=⟨PySem.W.emptyDict,#[],_,e1,rfl,(λe he=>absurd he (by simp)),λ_=>rfl⟩;have I1:=I.laid (a:=s.heap.objs.size) (o:=.own (s.heap.objs.size+1)) (h':=s.heap.push PySem.W.emptyDict) (t':=s.toks) (λb u q=>Heap.get?_push_of_some _ q) (Nat.le_refl _) ⟨_,e1⟩;refine I1.laid (a:=s.heap.objs.size+1) (o:=.ins C s.heap.objs.size []) (t':=s.toks) (λb u q=>Heap.get?_push_of_some _ q) (Nat.le_of_eq (Heap.size_push _ _)) ?_;have ne:s.heap.objs.size≠s.heap.objs.size+1:=Nat.ne_of_lt (Nat.lt_succ_self _);refine⟨by rw[aq ne,ae],Nat.zero_le _,ne,e2,λ_=>none,(Heap.Ns1.of_empty e3).at λo q=>Heap.get?_push_of_some _ q,λ_=>True.intro,λy hy=>absurd rfl hy⟩
theorem uM {prog:wM}{env:Env}{f:Str}{pos:Pos}{s:GH}{Q:wA}(hb:attributeBase e f env (eval e env)=eval e env)
 (h:wpAny (model prog w) A (eval e env) (λo s₁=>wpAny (model prog w) A (getAttr o f true) Q E s₁) E s):wpAny (model prog w) A (eval (.Attribute e f pos) env) Q E s :=
 Attribute_any_ h (by rw[arm_eval_Attribute,hb])
end
noncomputable def acr (K:PySem.W.Frag)(ta:TE)(f:Str):TE:=λσ H Q=>ta σ H λx H1=>∃a C dx fs v,x=.ref a/\H1 a=some (.ins C dx fs)/\DJ K C/\bJ K C f/\fs.lookup f=some v/\Q v H1
noncomputable def acx (K:PySem.W.Frag)(ta tv:TE)(f:Str):TS:=λD σ H=>tv σ H λy H1=>ta σ H1 λx H2=>∃a C dx fs,x=.ref a/\H2 a=some (.ins C dx fs)/\DJ K C/\bJ K C f/\fs.length<1000 /\
 D.nx σ (upd H2 a (.ins C dx (cE f y fs)))
section
variable {X:Cx}{o e value:Expr}{f:Str}{pos pos' To:Pos}{ta tv:TE}
theorem br (he:PE X e ta)(hb:attributeBase e f X.env (eval e X.env)=eval e X.env):PE X (.Attribute e f pos) (acr X.K ta f):=by
 intro pins s σ H Q I h;refine uM hb (bA (he pins s σ H _ I h) λu s1 z'=>?_);obtain⟨x,H1,I1,rx,a,C,dx,fs,v,ex,ea,c,n,l,q⟩:=z';subst ex;obtain rfl:u=Value.ref a:=rx;exact Sig I1 ea c n l λu' s2 I2 ru=>⟨v,H1,I2,ru,q⟩
theorem ib (ha:PE X o ta)(hv:PE X value tv)(hs:swapsWith value (some (.Attribute o f pos')) pos.line X.env=pure false):PS X (.Assign [.Attribute o f pos'] value pos) (acx X.K ta tv f):=by
 intro pins s σ H D I h;refine plainObj_wpAny_Assign_Attribute (bA (hv pins s σ H _ I h) λu s1 ⟨y,H1,I1,ry,q⟩=>bA (ha pins s1 σ H1 _ I1 q) λov s2 z'=>?_) hs;obtain⟨x,H2,I2,rx,a,C,dx,fs,ex,ea,c,n,l,q2⟩:=z';subst ex;obtain rfl:ov=Value.ref a:=rx;exact aau I2 ea c n l ry λs3 I3=>⟨σ,_,I3,q2⟩
end
section
variable {X:Cx}{pins:List (Addr×Obj)}{σ:St}{H:Hp}{s:GH}{A:Around}{E:wA}{Q:wA}{c:Value}{b:Bool}
inductive EV (K:PySem.W.Frag)(H:Hp):V->Value->Prop where
 |non:EV K H .non (.type "NoneType")
 |bl (x:Bool):EV K H (.bl x) (.type "bool")
 |int (i:Int):EV K H (.int i) (.type "int")
 |str (x:Str):EV K H (.str x) (.type "str")
 |flt (x:UInt64):EV K H (.flt x) (.type "float")
 |lst {a:Addr}{xs:List V}(e:H a=some (.lst xs)):EV K H (.ref a) (.type "list")
 |frz {a:Addr}{o:Obj}{xs:List V}(e:H a=some (.frz o (.lst xs))):EV K H (.ref a) (.type "list")
 |tup {a:Addr}{xs:List V}(e:H a=some (.tup xs)):EV K H (.ref a) (.type "tuple")
 |dK {a:Addr}{GK:List (Key×V)}(e:H a=some (.dK GK)):EV K H (.ref a) (.type "dict")
 |dT {a:Addr}{GK:List (List Key×V)}(e:H a=some (.dT GK)):EV K H (.ref a) (.type "dict")
 |ins {a C dx:Addr}{fs:List (Str×V)}(e:H a=some (.ins C dx fs))(cl:DJ K C)(ha:PySem.W.findIn K (.ref C) "__class__"=some (some (.builtin "object.__class__")))
  (hn:PySem.W.specialIn K (.builtin "object.__class__") "__get__"=some (some (.builtin "getset_descriptor.__get__")))(Tp:PySem.W.takesIn K (.builtin "object.__class__")=some true)
  (hm:PySem.W.mroIn K C (.type "object")=some true):EV K H (.ref a) (.ref C)
theorem acA {x:V}{t:Value}(I:Inv X pins σ H s)(rx:aG x u)(ty:EV X.K H x t)(e:PySem.W.kitOne X.K t c=some b)(h:∀tk,Q (.bool b) {s with toks:=tk}):
 wpAny (model X.prog X.w) A (call (.builtin "isinstance") [u,c]) Q E s:=by
 cases ty with
 |non=>cases(show u=Value.none from rx);exact PySem.W.kia_one PySem.W.kitx_none I.kIn True.intro e (λz=>nomatch z) h
 |bl y=>cases(show u=Value.bool y from rx);exact PySem.W.kia_one PySem.W.kitx_bool I.kIn True.intro e (λz=>nomatch z) h
 |int i=>obtain⟨t,q⟩:=(show ∃t,u=Value.int i t from rx);cases q;exact PySem.W.kia_one PySem.W.kitx_int I.kIn True.intro e (λz=>nomatch z) h
 |str y=>obtain⟨t,q⟩:=(show ∃t,u=Value.str y t from rx);cases q;exact PySem.W.kia_one PySem.W.kitx_str I.kIn True.intro e (λz=>nomatch z) h
 |flt y=>obtain⟨t,q⟩:=(show ∃t,u=Value.float y t from rx);cases q;exact PySem.W.kia_one PySem.W.kitx_float I.kIn True.intro e (λz=>nomatch z) h
 |@lst a xs ea =>
  cases(show u=Value.ref a from rx)
  obtain⟨_,_,n,_,h1⟩:=(show ba X.prog X.w H s.heap a (.lst xs) from I.hok a _ ea);exact PySem.W.kia_one PySem.W.kitx_list I.kIn ⟨_,h1,rfl⟩ e (λz=>nomatch z) h
 |@frz a ob xs ea =>
  cases(show u=Value.ref a from rx)
  obtain⟨_,_,_,n,_,h1⟩:=(show ba X.prog X.w H s.heap a (.frz ob (.lst xs)) from I.hok a _ ea);exact PySem.W.kia_one PySem.W.kitx_list I.kIn ⟨_,h1,rfl⟩ e (λz=>nomatch z) h
 |@tup a xs ea =>
  cases(show u=Value.ref a from rx)
  obtain⟨_,_,_,p⟩:=(show ba X.prog X.w H s.heap a (.tup xs) from I.hok a _ ea);obtain⟨o,h1,h2,_⟩:=p;exact PySem.W.kia_one PySem.W.kitx_tuple I.kIn ⟨o,h1,h2⟩ e (λz=>nomatch z) h
 |@dK a GK ea =>
  cases(show u=Value.ref a from rx)
  obtain⟨_,_,vs,_,p⟩:=(show ba X.prog X.w H s.heap a (.dK GK) from I.hok a _ ea);obtain⟨o,es,ep,h1,h2,_⟩:=p;exact PySem.W.kia_one PySem.W.kitx_dict I.kIn ⟨o,h1,h2.1⟩ e (λz=>nomatch z) h
 |@dT a GK ea =>
  cases(show u=Value.ref a from rx)
  obtain⟨_,_,xs,_,o,es,ep,h1,h2,_⟩:=(show ba X.prog X.w H s.heap a (.dT GK) from I.hok a _ ea);exact PySem.W.kia_one PySem.W.kitx_dict I.kIn ⟨o,h1,h2.1⟩ e (λz=>nomatch z) h
 |@ins a C dx fs ea cl ha hn Tp hm =>
  cases(show u=Value.ref a from rx)
  obtain⟨mA,O,_⟩:=dD I.hok ea;obtain⟨od,J,_⟩:=O.look;exact PySem.W.kia_one (PySem.W.kitx_own (cl.get _) cl.hd ha hn Tp hm) I.kIn J e (λz=>nomatch z) h
end
structure pL (k:Nat)(A:Around):Prop where
 hd:A.handled=none
 dp:A.depth+3*k+5<recursionLimit
 un:A.units+16*k+200<cLine
 gd:100<=k->A.guards=some []
theorem pL.mono {j:Nat}(r:pL k A)(h:j<=k):pL j A:=⟨r.hd,by have:=r.dp;omega,by have:=r.un;omega,λq=>r.gd (by omega)⟩
theorem pL.deeper (r:pL (k+1) A)(env:Env):pL k (A.deeper env):=
 ⟨r.hd,by have:=r.dp;show A.depth+1+3*k+5<_;omega,by have:=r.un;show A.units+3+16*k+200<_;omega,λq=>r.gd (by omega)⟩
theorem pL.in1 (r:pL (k+1) A):pL k A.in1 :=
 ⟨r.hd,by have:=r.dp;show A.depth+3*k+5<_;omega,by have:=r.un;show A.units+1+16*k+200<_;omega,λq=>r.gd (by omega)⟩
theorem acL :(A.under (.builtin "type.__call__" ⟨.ref C::us,kw⟩)).depth=A.depth+1:=by
 first|rfl|simp[Around.under,Code.weight,Code.isCreation,Code.isGuard,Code.isCaller,Code.frames,Code.isFrame,guardIds]
theorem acM :(A.under (.builtin "type.__call__" ⟨.ref C::us,kw⟩)).guards=A.guards:=by
 first|rfl|simp[Around.under,Code.guards,Code.isGuard,guardIds,pushGuards]
theorem acN :(A.under (.builtin "type.__call__" ⟨.ref C::us,kw⟩)).units=A.units+1:=by
 first|rfl|simp[Around.under,Code.cUnits,Code.frames,Code.isFrame]
theorem pL.make (r:pL (k+1) A)(C:Addr)(us:oH)(kw:List (Str×Value)):pL k (A.under (.builtin "type.__call__" ⟨.ref C::us,kw⟩)):=
 ⟨r.hd,by have:=r.dp;rw[acL];omega,by have:=r.un;rw[acN];omega,λq=>by rw[acM];exact r.gd (by omega)⟩
theorem pL.depth (r:pL k A):A.depth<recursionLimit:=by have:=r.dp;omega
theorem pL.units (r:pL k A):A.units+64<cLine:=by have:=r.un;omega
theorem pL.abW (r:pL k A):A.units<cLine:=by have:=r.un;omega
noncomputable def D1:TA:=λ_ H Q=>Q [] H
noncomputable def cO (ta:TE)(tr:TA):TA:=λσ H Q=>ta σ H λx H1=>tr σ H1 λxs H2=>Q (x::xs) H2
section
variable {X:Cx}{e:Expr}{es:Bl}{te:TE}{t:TA}{pos:Pos}
theorem af:PA X [] D1:=λ_ _ _ _ H Q I h=>Calls.spliced_nil ⟨[],H,I,.nil,h⟩
theorem cj (ha:PE X e te)(hr:PA X es t)(hs:starEach (e::es) X.env=(false,eval e X.env):: starEach es X.env:=by rfl):PA X (e::es) (cO te t):=by
 intro pos pins s σ H Q I h;rw[hs];show wpAny _ _ (spliced ((false,eval e X.env):: backTo pos (starEach es X.env))) _ _ s;refine Calls.spliced_cons (bA (ha pins s σ H _ I h) λu s1 z'=>?_);obtain⟨x,H1,I1,r1,q1⟩:=z';exact bA (hr pos pins s1 σ H1 _ I1 q1) λus s2 ⟨xs,H2,I2,r2,q2⟩=>⟨x::xs,H2,I2,.cons r1 r2,q2⟩
noncomputable def Eo (t:TA):TE:=λσ H Q=>t σ H λxs H1=>xs.length<=sizeLine/\∀p,H1 p=none->Q (.ref p) (upd H1 p (.tup xs))
noncomputable def Cc (t:TA):TE:=λσ H Q=>t σ H λxs H1=>xs.length<=sizeLine/\∀p,H1 p=none->Q (.ref p) (upd H1 p (.lst xs))
theorem bq {x1}(h:PA X es t):PE X (.Tuple es x1 pos) (Eo t):=by
 intro pins s σ H Q I hq;refine wpAny_Tuple_spliced (bA (h pos pins s σ H _ I hq) λus s1 ⟨xs,H1,I1,r,z,q⟩=>⟨by rw[<-r.length];exact z,?_⟩);have hf:H1 s1.heap.objs.size=none:=I1.hok.fresh (Nat.le_refl _);refine⟨.ref s1.heap.objs.size,upd H1 s1.heap.objs.size (.tup xs),I1.laid (t':=s1.toks) (λb u e=>Heap.get?_push_of_some _ e) (Nat.le_refl _) ?_,rfl,q _ hf⟩;exact⟨z,us,r,⟨_,Heap.get?_push_size _ rfl,rfl,_,rfl⟩⟩
theorem az (h:PA X es t):PE X (.List es pos) (Cc t):=by
 intro pins s σ H Q I hq;refine wpAny_List_spliced (bA (h pos pins s σ H _ I hq) λus s1 ⟨xs,H1,I1,r,z,q⟩=>⟨by rw[<-r.length];exact z,?_⟩);have hf:H1 s1.heap.objs.size=none:=I1.hok.fresh (Nat.le_refl _);refine⟨.ref s1.heap.objs.size,upd H1 s1.heap.objs.size (.lst xs),I1.laid (t':=s1.toks) (λb u e=>Heap.get?_push_of_some _ e) (Nat.le_refl _) ?_,rfl,q _ hf⟩;exact⟨z,us,0,r,Heap.get?_push_size _ rfl⟩
end
noncomputable abbrev Sp:=List V->Hp->VK->XK->Prop
noncomputable abbrev GC:=List Env->Hp->Shared->XK->Value->Shared->Prop
structure CT (P:wM)(w:World)(K:PySem.W.Frag)(mg:vJ)(base:Heap)(A:Around)(outer:List Env)(s:GH)(H:Hp):Prop where
 frames:A.frames=some outer
 mod:Mod K mg base
 bs:∀b o,base.get? b=some o->s.heap.get? b=some o/\H b=none
 bsz:base.objs.size<=s.heap.objs.size
 aap:s.heap.FunFrames base outer
 frf:∀b∈eA outer,H b=none
 hok:gk P w H s.heap
 bare:AllBare s.gens
noncomputable def CE (outer:List Env)(P:wM)(w:World)(H:Hp)(s:GH)(Q:VK)(u:Value)(s':GH):Prop :=
 ∃v H',s'.os=s.os/\AllBare s'.gens/\Un (eA outer) [] H H' s.heap s'.heap/\gk P w H' s'.heap/\aG v u/\Q v H'
noncomputable def acO (CX:GC)(outer:List Env)(P:wM)(w:World)(H:Hp)(s:GH)(Q:VK)(E:XK)(r:Result)(s':GH):Prop :=
 match r with
 | .ok (.ret u)=>CE outer P w H s Q u s'
 | .ok _=>False
 | .error e=>CX outer H s E e s'
structure Cy (P:wM)(w:World)(K:PySem.W.Frag)(mg:vJ)(base:Heap)(CX:GC)(k:Nat)(f:Addr)(fd:GF)(ps:xQ)(sp:Sp):Prop where
 len:∀vs H Q E,sp vs H Q E->vs.length=ps.length
 run:∀(A:Around)(outer:List Env)(s:GH)(H:Hp)(args:Args)(us:oH)(vs:List V)(Q:VK)(E:XK),pL k A->CT P w K mg base A outer s H->BindsTo s fd args (ps.zip us)->aK vs us->sp vs H Q E →
  codeAny (model P w) A (.call (.ref f) args) (acO CX outer P w H s Q E) s
variable {mg:vJ}{base:Heap}{outer:List Env}
theorem CT.make (e:CT P w K mg base A outer s H)(C:Addr)(us:oH)(kw:List (Str×Value)):
 CT P w K mg base (A.under (.builtin "type.__call__" ⟨.ref C::us,kw⟩)) outer s H:=⟨by first|exact e.frames|(simpa[Around.under,Code.envs,Code.isFrame,pushEnvs] using e.frames),e.mod,e.bs,e.bsz,e.aap,e.frf,e.hok,e.bare⟩
theorem CT.in1 (e:CT P w K mg base A outer s H):
 CT P w K mg base A.in1 outer s H:=⟨e.frames,e.mod,e.bs,e.bsz,e.aap,e.frf,e.hok,e.bare⟩
section
variable {X:Cx}{pins:List (Addr×Obj)}{σ:St}{H:Hp}{s s':GH}
theorem Inv.aby (I:Inv X pins σ H s):CT X.prog X.w X.K X.mg X.base X.A X.stack s H :=
 ⟨I.ok.frames,I.ok.mod,I.bs,Nat.le_trans I.ok.bsz I.sz,I.stack,I.aay,I.hok,I.bare⟩
theorem Inv.after (I:Inv X pins σ H s)(h:CE X.stack X.prog X.w H s Q u s'):EP X pins σ Q u s':=by
 obtain⟨v,H',os,bare,un,hok,r,q⟩:=h;obtain⟨hh,g,d,t,os'⟩:=s';obtain rfl:os'=s.os:=os;exact⟨v,H',I.call (h':=hh) (g':=g) (d':=d) (t':=t) (ch:=[]) un hok bare (λb z=>absurd z (by simp)),r,q⟩
end
noncomputable def yG (sp:Sp)(dvs:List V)(E:XK)(t:TA):TE:=λσ H Q=>t σ H λvs H1=>sp (vs++dvs) H1 Q E
noncomputable def A9 (C:Addr)(m:Str)(sp:Sp)(dvs:List V)(E:XK)(ta:TE)(t:TA):TE:=λσ H Q=>ta σ H λx H1=>∃a dx fs,x=.ref a/\H1 a=some (.ins C dx fs)/\fs.lookup m=none /\
 t σ H1 λvs H2=>sp (x::(vs++dvs)) H2 Q E
noncomputable def AX (C:Addr)(sp:Sp)(dvs:List V)(E:XK)(t:TA):TE:=λσ H Q=>t σ H λvs H1=>∀x dx,H1 x=none->H1 dx=none->dx≠x →
 sp (.ref x::(vs++dvs)) (upd (upd H1 dx (.own x)) x (.ins C dx [])) (λv H2=>v=.non/\Q (.ref x) H2) E
noncomputable def aI (K:PySem.W.Frag)(fd:GF)(ps:xQ)(ds:oH):Prop :=
 ∀(s:GH)(us:oH),K.In s.heap->(us++ds).length=ps.length->BindsTo s fd ⟨us,[]⟩ (ps.zip (us++ds))
variable {ps:xQ}
theorem aI.all {fd:GF}(h:∀us:List Value,us.length=ps.length->bindArgs fd ⟨us,[]⟩=pure (ps.zip us)):aI K fd ps []:=λs us _ hl=>by
 rw[List.append_nil] at hl |-;exact .of_eq (h us hl)
noncomputable def cD (CX:GC)(X:Cx)(E:XK):Prop:=∀(pins:List (Addr×Obj))(σ:St)(H:Hp)(s:GH)(e:Value)(s':GH),Inv X pins σ H s->CX X.stack H s E e s'->X.xe e s'
section
variable {X:Cx}{CX:GC}{k:Nat}{f C:Addr}{fd:GF}{ps:xQ}{sp:Sp}{dvs:List V}{ds:oH}{E:XK}{x m:Str}{p pos apos:Pos}{e o:Expr}{es:Bl}{ta:TE}{t:TA}
theorem k9 {us:oH}{vs:List V}(F:Cy X.prog X.w X.K X.mg X.base CX k f fd ps sp)(hr:pL k X.A)(hb:aI X.K fd ps ds)(hd:aK dvs ds)(hx:cD CX X E)
 (I:Inv X pins σ H s)(r:aK vs us)(h:sp (vs++dvs) H Q E):wpAny (model X.prog X.w) X.A (call (.ref f) us) (EP X pins σ Q) X.xe s:=by
 have r2:aK (vs++dvs) (us++ds):=r.append hd
 have hl:(us++ds).length=ps.length:=by rw[<-r2.length];exact F.len _ _ _ _ h
 refine wpAny_call (codeAny_mono (F.run X.A X.stack s H ⟨us,[]⟩ (us++ds) (vs++dvs) Q E hr I.aby (hb s us I.kIn hl) r2 h) λr s' hq=>?_)
 cases r with
 |error e=>exact hx pins σ H s e s' I hq
 |ok fl =>
  cases fl with
  |ret u=>exact I.after hq
  |next=>exact False.elim hq
  |brk=>exact False.elim hq
  |cont=>exact False.elim hq
theorem ay (F:Cy X.prog X.w X.K X.mg X.base CX k f fd ps sp)(hr:pL k X.A)(hg:Gl X x)(hm:X.mg x=some (.ref f))(hk:PySem.W.keepIn X.K (.ref f)=true)(hb:aI X.K fd ps ds)(hd:aK dvs ds)(hx:cD CX X E)
 (ha:PA X (e::es) t)(IQ:(x==("__debug__":Str))=false:=by decide)(he:starEach (e::es) X.env=(false,eval e X.env):: starEach es X.env:=by rfl)(Ib:(backTo pos (starEach es X.env)).any (·.1)=false:=by rfl):
 PE X (.Call (.Name x p) (e::es) [] pos) (yG sp dvs E t):=by
 intro pins s σ H Q I h;refine wpAny_Call_Name_kw (dE I hg hm ?_ IQ);refine PySem.W.callWith_K (h₀:=X.base) I.ok.mod.kin hk (bA (ha pos pins s σ H _ I h) λus s1 ⟨vs,H1,I1,r,q⟩=>⟨I1.kIn,?_⟩) he Ib;exact k9 F hr hb hd hx I1 r q
theorem aca (F:Cy X.prog X.w X.K X.mg X.base CX k f fd ps sp)(hr:pL k X.A)(hg:Gl X x)(hm:X.mg x=some (.ref f))(hk:PySem.W.keepIn X.K (.ref f)=true)(hb:aI X.K fd ps ds)(hd:aK dvs ds)(hx:cD CX X E)
 (IQ:(x==("__debug__":Str))=false:=by decide):PE X (.Call (.Name x p) [] [] pos) (yG sp dvs E D1):=by
 intro pins s σ H Q I h;refine wpAny_Call_Name_kw (dE I hg hm ?_ IQ);exact PySem.W.callWith_K0 I.kIn hk (k9 (us:=[]) F hr hb hd hx I .nil h)
theorem ow (he:PE X o ta)(c:DJ X.K C)(hm:Meth X.K C m f)(F:Cy X.prog X.w X.K X.mg X.base CX k f fd ps sp)(hr:pL k X.A)(hb:aI X.K fd ps ds)(hd:aK dvs ds)(hx:cD CX X E)(ha:PA X (e::es) t)
 (Ij:starEach (e::es) X.env=(false,eval e X.env):: starEach es X.env:=by rfl)(Ib:(backTo pos (starEach es X.env)).any (·.1)=false:=by rfl)
 (ht:eval (.Call (.Attribute o m apos) (e::es) [] pos) X.env=(do
  let ov <-eval o X.env
  standAt apos.atName
  let(f,first) <-holding [ov] (getMethod ov m pl)
  callWith pos f first (backTo pos (starEach (e::es) X.env)) (backToKw pos (keywordEach [] X.env))):=by rfl):
 PE X (.Call (.Attribute o m apos) (e::es) [] pos) (A9 C m sp dvs E ta t):=by
 intro pins s σ H Q I h;refine PySem.W.methodCall_KW (pl:=pl) (bA (he pins s σ H _ I h) λu s1 z'=>?_) ht;obtain⟨x,H1,I1,rx,a,dx,fs,ex,ea,l,q⟩:=z';subst ex;obtain rfl:u=Value.ref a:=rx;refine lG I1 ea c hm l ?_;refine PySem.W.callWith_K (first:=[.ref a]) (h₀:=X.base) I.ok.mod.kin hm.kp (bA (ha pos pins s1 σ H1 _ I1 q) λus s2 ⟨vs,H2,I2,r,q2⟩=>⟨I2.kIn,?_⟩) Ij Ib;exact k9 (us:=.ref a::us) (vs:=.ref a::vs) F hr hb hd hx I2 (.cons rfl r) q2
theorem bx (he:PE X o ta)(c:DJ X.K C)(hm:Meth X.K C m f)(F:Cy X.prog X.w X.K X.mg X.base CX k f fd ps sp)(hr:pL k X.A)(hb:aI X.K fd ps ds)(hd:aK dvs ds)(hx:cD CX X E)
 (ht:eval (.Call (.Attribute o m apos) [] [] pos) X.env=(do
  let ov <-eval o X.env
  standAt apos.atName
  let(f,first) <-holding [ov] (getMethod ov m pl)
  callWith pos f first (backTo pos (starEach [] X.env)) (backToKw pos (keywordEach [] X.env))):=by rfl):
 PE X (.Call (.Attribute o m apos) [] [] pos) (A9 C m sp dvs E ta D1):=by
 intro pins s σ H Q I h;refine PySem.W.methodCall_KW (pl:=pl) (bA (he pins s σ H _ I h) λu s1 z'=>?_) ht;obtain⟨x,H1,I1,rx,a,dx,fs,ex,ea,l,q⟩:=z';subst ex;obtain rfl:u=Value.ref a:=rx;refine lG I1 ea c hm l ?_;exact PySem.W.callWith_K0 (first:=[.ref a]) I1.kIn hm.kp (k9 (us:=[.ref a]) (vs:=[.ref a]) F hr hb hd hx I1 (.cons rfl .nil) q)
structure Mk (K:PySem.W.Frag)(C f:Addr):Prop where
 makes:PySem.W.makesIn K C=true
 init:PySem.W.findIn K (.ref C) "__init__"=some (some (.ref f))
 fn:PySem.W.isFn K (.ref f)=true
 kp:PySem.W.keepIn K (.ref C)=true
theorem abq {vs:List V}(M:Mk X.K C f)(F:Cy X.prog X.w X.K X.mg X.base CX k f fd ps sp)(hr:pL (k+1) X.A)(hb:aI X.K fd ps ds)(hd:aK dvs ds)
 (hx:cD CX X E)(I:Inv X pins σ H s)(r:aK vs us)
 (h:∀x dx,H x=none->H dx=none->dx≠x->sp (.ref x::(vs++dvs)) (upd (upd H dx (.own x)) x (.ins C dx [])) (λv H2=>v=.non/\Q (.ref x) H2) E):
 wpAny (model X.prog X.w) X.A (call (.ref C) us) (EP X pins σ Q) X.xe s:=by
 have hq:=h (s.heap.objs.size+1) s.heap.objs.size (I.hok.fresh (Nat.le_succ _)) (I.hok.fresh (Nat.le_refl _)) (Nat.ne_of_lt (Nat.lt_succ_self _));have I2:=Inv.made (C:=C) I;have r2:aK (V.ref (s.heap.objs.size+1):: (vs++dvs)) (Value.ref (s.heap.objs.size+1):: (us++ds)):=.cons rfl (r.append hd)
 have hl:(Value.ref (s.heap.objs.size+1):: us++ds).length=ps.length:=by
  have e:=r2.length;rw[F.len _ _ _ _ hq] at e;exact e.symm
 refine wpAny_call (kn (f:=f) I.kIn M.makes M.init (beq_iff_eq.mp M.fn) (codeAny_mono (F.run _ X.stack _ _ ⟨Value.ref (s.heap.objs.size+1):: us,[]⟩ (Value.ref (s.heap.objs.size+1):: (us++ds)) _ _ E (hr.make C us [])
  (I2.aby.make C us []) (hb _ (Value.ref (s.heap.objs.size+1):: us) I2.kIn hl) r2 hq) λr s' IS=>?_))
 cases r with
 |error e=>exact hx pins σ _ _ e s' I2 IS
 |ok fl =>
  cases fl with
  |ret u =>
   obtain⟨v,H',I3,rv,ev,q3⟩:=I2.after IS;subst ev;exact⟨rv,⟨V.ref (s.heap.objs.size+1),H',I3,rfl,q3⟩⟩
  |next=>exact False.elim IS
  |brk=>exact False.elim IS
  |cont=>exact False.elim IS
theorem bz (M:Mk X.K C f)(F:Cy X.prog X.w X.K X.mg X.base CX k f fd ps sp)(hr:pL (k+1) X.A)(hg:Gl X x)(hm:X.mg x=some (.ref C))(hb:aI X.K fd ps ds)(hd:aK dvs ds)(hx:cD CX X E)
 (ha:PA X (e::es) t)(IQ:(x==("__debug__":Str))=false:=by decide)(he:starEach (e::es) X.env=(false,eval e X.env):: starEach es X.env:=by rfl)(Ib:(backTo pos (starEach es X.env)).any (·.1)=false:=by rfl):
 PE X (.Call (.Name x p) (e::es) [] pos) (AX C sp dvs E t):=by
 intro pins s σ H Q I h;refine wpAny_Call_Name_kw (dE I hg hm ?_ IQ);refine PySem.W.callWith_K (h₀:=X.base) I.ok.mod.kin M.kp (bA (ha pos pins s σ H _ I h) λus s1 ⟨vs,H1,I1,r,q⟩=>⟨I1.kIn,?_⟩) he Ib;exact abq M F hr hb hd hx I1 r q
end
noncomputable def PK (X:Cx)(JG:List Keyword)(t:TA):Prop :=
 ∀(pos:Pos)(pins:List (Addr×Obj))(s:GH)(σ:St)(H:Hp)(Q:List V->Hp->Prop),Inv X pins σ H s->t σ H Q->wpAny (model X.prog X.w) X.A (evalAll ((backToKw pos (keywordEach JG X.env)).map (·.2))) (AP X pins σ Q) X.xe s
section
variable {X:Cx}{CX:GC}{k:Nat}{f C:Addr}{fd:GF}{ps ks:xQ}{sp:Sp}{E:XK}{x m:Str}{p pos apos kpos:Pos}{e o:Expr}{es:Bl}{JG:List Keyword}{te ta:TE}{t tk:TA}{nm:Option Str}
theorem ym:PK X [] D1:=λ_ _ _ _ H Q I h=>wpAny_evalAll_nil ⟨[],H,I,.nil,h⟩
theorem oY (ha:PE X e te)(hr:PK X JG t):PK X (⟨nm,e,kpos⟩::JG) (cO te t):=by
 intro pos pins s σ H Q I h;show wpAny _ _ (evalAll ((do let v <-eval e X.env;standAt pos;pure v):: (backToKw pos (keywordEach JG X.env)).map (·.2))) _ _ s;refine wpAny_evalAll_cons (wpAny_bind (bA (ha pins s σ H _ I h) λu s1 ⟨x,H1,I1,r1,q1⟩=>wpAny_bind (wpAny_standAt (wpAny_pure ?_))));exact bA (hr pos pins s1 σ H1 _ I1 q1) λus s2 ⟨xs,H2,I2,r2,q2⟩=>⟨x::xs,H2,I2,.cons r1 r2,q2⟩
structure wF (K:PySem.W.Frag)(fd:GF)(ps ks:xQ)(g:List Value->List Value->List Value)(gV:List V->List V->List V):Prop where
 to:∀(s:GH)(us ws:oH),K.In s.heap->(g us ws).length=ps.length->BindsTo s fd ⟨us,ks.zip ws⟩ (ps.zip (g us ws))
 rel:∀{vs:List V}{us:oH}{zs:List V}{ws:oH},aK vs us->aK zs ws->aK (gV vs zs) (g us ws)
variable {g:List Value->List Value->List Value}{gV:List V->List V->List V}
end
structure uQ (N P:xQ)(sc:Scope):Prop where
 kind:sc.kind=.function
 co:sc.isCoroutine=false
 gen:sc.isGenerator=false
 nd:N.Nodup
 pre:N.take P.length=P
 par:∀x∈P,sc.names.lookup x=some .local\/sc.names.lookup x=some .cell
 acz:∀y∈sc.names,y.2≠.free
theorem dI {P:xQ}{sc:Scope}(h:sc.kind=.function/\sc.isCoroutine=false/\sc.isGenerator=false/\N.Nodup/\N.take P.length=P/\(∀x∈P,sc.names.lookup x=some .local\/sc.names.lookup x=some .cell)/\∀y∈sc.names,y.2≠.free):uQ N P sc:=⟨h.1,h.2.1,h.2.2.1,h.2.2.2.1,h.2.2.2.2.1,h.2.2.2.2.2.1,h.2.2.2.2.2.2⟩
variable {kindOf:Str->Option NameKind}
theorem nt :∀{binds:List (Str×Value)}{m:vJ},(∀v,(x,v)∉binds)->bindL kindOf binds m x=m x
 |[],_,_=>rfl
 |(n,v):: r,m,h=>by
  unfold bindL;rw[nt λw hw=>h w (List.mem_cons_of_mem _ hw)]
  split
  ·have:x≠n:=by rintro rfl;exact h v List.mem_cons_self
   simp[this]
  ·rfl
theorem nh :∀{binds:List (Str×Value)}{m:vJ},(∀v,(x,v)∉binds)->bindC kindOf binds m x=m x
 |[],_,_=>rfl
 |(n,v):: r,m,h=>by
  unfold bindC;rw[nh λw hw=>h w (List.mem_cons_of_mem _ hw)]
  split
  ·rfl
  ·have:x≠n:=by rintro rfl;exact h v List.mem_cons_self
   simp[this]
theorem mK {v:Value}:∀{P:xQ}{vs:oH}{i:Nat}{m:vJ},P.Nodup->P[i]?=some x->vs[i]?=some v->kindOf x=some .local →
 bindL kindOf (P.zip vs) m x=some v
 |[],_,_,_,_,h,_,_=>by simp at h
 |_::_,[],_,_,_,_,h,_=>by simp at h
 |p::P,w::vs,0,m,nd,h1,h2,hk=>by
  simp at h1 h2;subst h1;subst h2;show bindL kindOf ((p,w):: P.zip vs) m p=_;unfold bindL;rw[nt λv hv=>(List.nodup_cons.mp nd).1 (List.of_mem_zip hv).1,if_pos hk];simp
 |p::P,w::vs,i+1,m,nd,h1,h2,hk=>by
  show bindL kindOf ((p,w):: P.zip vs) m x=_;unfold bindL;exact mK (i:=i) (List.nodup_cons.mp nd).2 (by simpa using h1) (by simpa using h2) hk
theorem m3 {v:Value}:∀{P:xQ}{vs:oH}{i:Nat}{m:vJ},P.Nodup->P[i]?=some x->vs[i]?=some v->kindOf x≠some .local →
 bindC kindOf (P.zip vs) m x=some v
 |[],_,_,_,_,h,_,_=>by simp at h
 |_::_,[],_,_,_,_,h,_=>by simp at h
 |p::P,w::vs,0,m,nd,h1,h2,hk=>by
  simp at h1 h2;subst h1;subst h2;show bindC kindOf ((p,w):: P.zip vs) m p=_;unfold bindC;rw[nh λv hv=>(List.nodup_cons.mp nd).1 (List.of_mem_zip hv).1,if_neg hk];simp
 |p::P,w::vs,i+1,m,nd,h1,h2,hk=>by
  show bindC kindOf ((p,w):: P.zip vs) m x=_;unfold bindC;exact m3 (i:=i) (List.nodup_cons.mp nd).2 (by simpa using h1) (by simpa using h2) hk
noncomputable def hJ (N:xQ)(vs:List V):St:=vs.map some++List.replicate (N.length-vs.length) none
noncomputable def eK (CX:GC)(P:wM)(w:World)(K:PySem.W.Frag)(mg:vJ)(base:Heap)(N:xQ)(qual:Str)(scope:Scope)(f:Addr)(cd:Value)(A:Around)(outer:List Env)(s:GH)(H:Hp)(E:XK):Cx where
 prog:=P
 w:=w
 K:=K
 mg:=mg
 base:=base
 A:=A.deeper (envOfC qual scope s.heap.objs.size f cd)
 N:=N
 s₀:=s
 H₀:=H
 env:=envOfC qual scope s.heap.objs.size f cd
 outer:=outer
 stack:=envOfC qual scope s.heap.objs.size f cd::outer
 ex:=[]
 calm:=true
 fn:=λ_=>true
 pn:=[]
 xe:=λe s'=>wpAny (model P w) (A.deeper (envOfC qual scope s.heap.objs.size f cd)) (leaving (envOfC qual scope s.heap.objs.size f cd) e) (λ_ Tq=>CX outer H s E e Tq) (λe' Tq=>CX outer H s E e' Tq) s'
theorem pX {sc:Scope}{n:Nat}(h:sc.names.lookup x=some .cell):∃c,(cellsFrom n sc.names []).lookup x=some c:=by
 have q:=PySem.W.cellsFrom_some sc.names n [] (.inl h);exact Option.isSome_iff_exists.mp q
theorem acb {CX:GC}{qual:Str}{scope:Scope}{f:Addr}{cd:Value}{s1:GH}{E:XK}{vs:List V}
 (S:uQ N ps scope)(hd:A.handled=none)(e0:CT P w K mg base A outer s H)(hl:vs.length=ps.length)(r:aK vs us)
 (x:InCallC s s.heap.objs.size (bindL (envOfC qual scope s.heap.objs.size f cd).kindOf (ps.zip us) λ_=>none) (cellsFrom (s.heap.objs.size+1) scope.names []) (bindC (envOfC qual scope s.heap.objs.size f cd).kindOf (ps.zip us) λ_=>none) s1):
 Inv (eK CX P w K mg base N qual scope f cd A outer s H E) [] (hJ N vs) H s1:=by
 have Ib:ps.length<=N.length:=by have:=congrArg List.length S.pre;rw[List.length_take] at this;omega
 obtain⟨h1,tk,rfl,hk⟩:=x.done;have noA:∀b:Addr,b∉(eK CX P w K mg base N qual scope f cd A outer s H E).ex:=λb z=>absurd (show b∈([]:List Addr) from z) (by simp)
 refine⟨⟨e0.mod,S.kind,rfl,rfl,Nat.le_refl _,λy z c h1 h2=>?_,λy hy=>?_,λy c _ h=>?_,λ_=>hd,Around.frames_deeper e0.frames,.inr ⟨rfl,rfl⟩,λb z=>absurd z (noA b),e0.bs,e0.bsz,λb _ _=>noA b,λb z=>absurd z (noA b),e0.aap,e0.frf⟩,
  rfl,e0.bare,Un.kept hk,⟨_,x.toInCall.ns,λi y v h1 h2 h3=>?_⟩,λy c h=>⟨_,x.cell y c h⟩,e0.hok.fresh (Nat.le_refl _),λy c h=>?_,λp hp=>absurd (show p∈([]:List (Addr×Obj)) from hp) (by simp),e0.hok.kept hk,?_⟩
 ·exact name_of_addr x.apart (PySem.mem_of_lookup h1) (PySem.mem_of_lookup h2)
 ·have hy:scope.names.lookup y=some .cell\/scope.names.lookup y=some .free:=hy
  rcases hy with hy|hy
  ·exact pX hy
  ·exact absurd rfl (S.acz _ (PySem.mem_of_lookup hy))
 ·exact Nat.le_of_lt (x.above y c (PySem.mem_of_lookup h))
 ·have hi:i<vs.length:=by
   unfold hJ at h2
   by_cases hi:i<vs.length
   ·exact hi
   ·rw[List.getElem?_append_right (by simpa using hi)] at h2;rw[List.getElem?_replicate] at h2
    split at h2 <;> cases h2
  have ha:vs[i]?=some v:=by
   unfold hJ at h2;rw[List.getElem?_append_left (by simpa using hi),List.getElem?_map] at h2
   cases e:vs[i]? with
   |none=>rw[e] at h2;cases h2
   |some a=>rw[e] at h2;cases h2;rfl
  obtain⟨u,hu,rv⟩:=r.get ha
  have hp:ps[i]?=some y:=by
   rw[<-S.pre,List.getElem?_take_of_lt (by omega)];exact h1
  have Yh:ps.Nodup:=by rw[<-S.pre];exact S.nd.sublist (List.take_sublist _ _)
  refine⟨u,rv,?_⟩
  rcases S.par y (List.mem_of_getElem? hp) with k|k
  ·exact .inl ⟨k,mK Yh hp hu k⟩
  ·obtain⟨c,e⟩:=pX (n:=s.heap.objs.size+1) k;refine .inr ⟨.inl k,c,e,?_⟩;have q:=x.cell y c e;rw[m3 Yh hp hu (by show scope.names.lookup y≠_;rw[k];decide)] at q;exact q
 ·exact e0.hok.fresh (Nat.le_of_lt (x.above y c (PySem.mem_of_lookup h)))
 ·unfold hJ;show _=N.length;rw[List.length_append,List.length_map,List.length_replicate];omega
theorem yU {CX:GC}{f:Addr}{name qual:Str}{params:Arguments}{scope:Scope}{dV kV doc pm GL ct oc:Value}{an od:p5}
 {GZ:Ff}{sp:Sp}(lk:K.lookup f=some ⟨oc,od,.func (PySem.W.fnOf name qual params body scope dV kV doc pm an GL ct),GZ⟩)(HB:PySem.W.codeIn K GL qual=true)(S:uQ N ps scope)
 (len:∀vs H Q E,sp vs H Q E->vs.length=ps.length)
 (Ic:∀(A:Around)(outer:List Env)(s:GH)(H:Hp)(vs:List V)(Q:VK)(E:XK),pL k (A.deeper (envOfC qual scope s.heap.objs.size f GL))->sp vs H Q E →
  ∃t,pz (eK CX P w K mg base N qual scope f GL A outer s H E) body t/\t {nx:=λ_ H'=>Q .non H',rt:=Q} (hJ N vs) H):
 Cy P w K mg base CX (k+1) f (PySem.W.fnOf name qual params body scope dV kV doc pm an GL ct) ps sp:=by
 refine⟨len,λA outer s H args us vs Q E hr e0 hb r Jz=>?_⟩;have hl:=len _ _ _ _ Jz;have KX:K.In s.heap:=e0.mod.kin.keeps λb o e=>(e0.bs b o e).1;have lim:s.heap.NoLimit:=e0.mod.nolimit.keeps λb o e=>(e0.bs b o e).1
 have JH:∀y∈ps.zip us,scope.names.lookup y.1=some .local\/(scope.names.lookup y.1=some .cell/\((cellsFrom (s.heap.objs.size+1) scope.names []).lookup y.1).isSome=true):=λ⟨n,v⟩ hy=>by
  rcases S.par n (List.of_mem_zip hy).1 with q|q
  ·exact .inl q
  ·exact .inr ⟨q,PySem.W.cellsFrom_some _ _ _ (.inl q)⟩
 refine codeAny_call_function hr.depth (KX _ _ lk) rfl S.co S.gen rfl (PySem.W.codeRec_of KX HB) (hb _ _ _ _ ?_);refine wpAny_newFunctionEnv_cells S.kind JH λenv he s1 x=>?_;subst he;refine⟨lim.keeps x.toInCall.keep,codeAny_func ?_⟩;obtain⟨t,ht,hq⟩:=Ic A outer s H vs Q E (hr.deeper _) Jz;have I:Inv (eK CX P w K mg base N qual scope f GL A outer s H E) [] (hJ N vs) H s1:=acb S hr.hd e0 hl r x;refine wpAny_mono (ht [] s1 (hJ N vs) H _ I hq) (λfl s' hs=>?_) λe s' hs=>hs
 have fin:∀{σ':St}{H':Hp}{v:V}{u:Value},Inv (eK CX P w K mg base N qual scope f GL A outer s H E) [] σ' H' s'->aG v u->Q v H'->CE outer P w H s Q u s' :=
  λ{σ' H' v u} J rv q=>⟨v,H',J.os,J.bare,J.base,J.hok,rv,q⟩
 cases fl with
 |ret u =>
  obtain⟨v,σ',H',J,rv,q⟩:=hs;exact fin J rv q
 |next =>
  obtain⟨σ',H',J,q⟩:=hs;exact fin (v:=V.non) (u:=Value.none) J rfl q
 |brk =>
  obtain⟨_,_,_,q⟩:=hs;exact False.elim q
 |cont =>
  obtain⟨_,_,_,q⟩:=hs;exact False.elim q
section
variable {X:Cx}{x:Str}{p pos:Pos}{e:Expr}{es:Bl}{t:TA}{id T:String}{r:List V->Hp->VK->Prop}
noncomputable def EH (r:List V->Hp->VK->Prop)(t:TA):TE:=λσ H Q=>t σ H λvs H1=>r vs H1 Q
theorem aD (hc:cb X (.builtin id) r)(hg:Gl X x)(hm:X.mg x=none)(hv:bootBuiltins x=some (.builtin id))(ha:PA X (e::es) t)(hn:x ≠ "__name__":=by decide)(IQ:(x==("__debug__":Str))=false:=by decide)
 (he:starEach (e::es) X.env=(false,eval e X.env):: starEach es X.env:=by rfl)(Ib:(backTo pos (starEach es X.env)).any (·.1)=false:=by rfl):PE X (.Call (.Name x p) (e::es) [] pos) (EH r t):=by
 intro pins s σ H Q I h;refine wpAny_Call_Name_kw (gM I hg hm hv ?_ hn IQ);exact PyProof.Rows.callWith_builtin1 (bA (ha pos pins s σ H _ I h) λus s1 ⟨vs,H1,I1,r1,q1⟩=>hc pins s1 σ H1 vs us Q I1 r1 q1) he Ib
theorem a9 (hc:cb X (.type T) r)(hg:Gl X x)(hm:X.mg x=none)(hv:bootBuiltins x=some (.type T))(ha:PA X (e::es) t)(hn:x ≠ "__name__":=by decide)(IQ:(x==("__debug__":Str))=false:=by decide)
 (he:starEach (e::es) X.env=(false,eval e X.env):: starEach es X.env:=by rfl)(Ib:(backTo pos (starEach es X.env)).any (·.1)=false:=by rfl):PE X (.Call (.Name x p) (e::es) [] pos) (EH r t):=by
 intro pins s σ H Q I h;refine wpAny_Call_Name_kw (gM I hg hm hv ?_ hn IQ);exact PyProof.Rows.callWith_type1 (bA (ha pos pins s σ H _ I h) λus s1 ⟨vs,H1,I1,r1,q1⟩=>hc pins s1 σ H1 vs us Q I1 r1 q1) he Ib
end
section
variable {κ:Type} [DecidableEq κ]
noncomputable def jl (GK:List (κ×V))(k:κ):Option V:=(GK.find? λkv=>decide (kv.1=k)).map (·.2)
noncomputable def gX (GK:List (κ×V))(k:κ)(v:V):List (κ×V):=
 if(GK.any λkv=>decide (kv.1=k))=true then GK.map (λkv=>if kv.1=k then(kv.1,v) else kv) else GK++[(k,v)]
theorem iO {p:κ×V}{r:List (κ×V)}{k:κ}(e:p.1=k):jl (p::r) k=some p.2:=by simp[jl,List.find?_cons,e]
theorem gu {p:κ×V}{r:List (κ×V)}{k:κ}(e:¬p.1=k):jl (p::r) k=jl r k:=by simp[jl,List.find?_cons,e]
theorem kJ (k:κ):∀GK:List (κ×V),(GK.any λkv=>decide (kv.1=k))=(jl GK k).isSome
 |[]=>rfl
 |p::r=>by
  rw[List.any_cons]
  by_cases e:p.1=k
  ·simp only[iO e,decide_eq_true e,Bool.true_or,Option.isSome_some]
  ·rw[gu e,decide_eq_false e,Bool.false_or];exact kJ k r
theorem jr (GK:List (κ×V))(k:κ)(v:V):(gX GK k v).length<=GK.length+1:=by
 unfold gX
 split
 ·rw[List.length_map];omega
 ·rw[List.length_append,List.length_cons,List.length_nil];omega
theorem eX.aaM {o:Option V}{u:vV}(r:eX o u):o.isSome=u.isSome:=by
 cases o with
 |none=>cases u with
  |none=>rfl
  |some _=>exact(show False from r).elim
 |some _=>cases u with
  |none=>exact(show False from r).elim
  |some _=>rfl
theorem KV.val {GK:List (κ×V)}{vs:List (κ×Value)}(r:KV GK vs)(k:κ):eX (jl GK k) (valueAt vs k):=by
 unfold KV at r
 induction r with
 |nil=>exact True.intro
 |@cons p q ps qs h t ih =>
  obtain⟨h1,h2⟩:=h
  by_cases e:p.1=k
  ·have e':q.1=k:=h1.symm.trans e
   have b:valueAt (q::qs) k=some q.2:=by simp[valueAt,List.find?_cons,e']
   rw[iO e,b];exact h2
  ·have e':¬q.1=k:=λz=>e (h1.trans z)
   have b:valueAt (q::qs) k=valueAt qs k:=by simp[valueAt,List.find?_cons,e']
   rw[gu e,b];exact ih
theorem KV.any {GK:List (κ×V)}{vs:List (κ×Value)}(r:KV GK vs)(k:κ):(GK.any λkv=>decide (kv.1=k))=vs.any λkv=>decide (kv.1=k):=by
 unfold KV at r
 induction r with
 |nil=>rfl
 |cons h t ih=>rw[List.any_cons,List.any_cons,ih,h.1]
theorem KV.acB {GK:List (κ×V)}{vs:List (κ×Value)}(r:KV GK vs)(k:κ)(ry:aG y u):
 KV (GK.map λkv=>if kv.1=k then(kv.1,y) else kv) (vs.map λkv=>if kv.1=k then(kv.1,u) else kv):=by
 unfold KV at r |-
 induction r with
 |nil=>exact .nil
 |@cons p q ps qs h t ih =>
  rw[List.map_cons,List.map_cons];refine .cons ?_ ih;obtain⟨h1,h2⟩:=h
  by_cases e:p.1=k
  ·rw[if_pos e,if_pos (h1.symm.trans e)];exact⟨h1,ry⟩
  ·rw[if_neg e,if_neg (λz=>e (h1.trans z))];exact⟨h1,h2⟩
theorem KV.put {GK:List (κ×V)}{vs:List (κ×Value)}(r:KV GK vs)(k:κ)(ry:aG y u):KV (gX GK k y) (stored vs k u):=by
 unfold gX stored;rw[r.any k]
 by_cases e:(vs.any λkv=>decide (kv.1=k))=true
 ·rw[if_pos e,if_pos e];exact r.acB k ry
 ·rw[if_neg e,if_neg e];exact Paired.snoc r ⟨rfl,ry⟩
theorem KV.length {GK:List (κ×V)}{vs:List (κ×Value)}(r:KV GK vs):GK.length=vs.length:=Paired.length r
end
theorem uB {k:Key}(r:aG (kV k) u):(ck P w).is k u=true:=by
 cases k with
 |inl i=>obtain⟨t,e⟩:=(show ∃t,u=Value.int i t from r);subst e;exact aao P w i t
 |inr x=>obtain⟨t,e⟩:=(show ∃t,u=Value.str x t from r);subst e;exact abS P w x t
theorem mO :∀{ks:List Key}{us:oH},aK (ks.map kV) us->ItemsAre (ck P w) ks us
 |[],_,r=>by rw[List.map_nil] at r;cases r;exact .nil
 |k::ks,_,r=>by
  rw[List.map_cons] at r
  cases r with
  |cons h t=>exact .cons (uB h) (mO t)
noncomputable abbrev KT (H:Hp):List (List Key×V)->List (List Key×Addr×Value)->Prop:=Paired λp q=>p.1=q.1/\H q.2.1=some (.tup (p.1.map kV))/\aG p.2 q.2.2
variable {GK:List (List Key×V)}{xs:List (List Key×Addr×Value)}
theorem KT.val (r:KT H GK xs)(k:List Key):eX (jl GK k) ((atKey xs k).map (·.2)):=by
 induction r with
 |nil=>exact True.intro
 |@cons p q ps qs h t ih =>
  obtain⟨h1,_,h2⟩:=h
  by_cases e:p.1=k
  ·have e':q.1=k:=h1.symm.trans e
   have b:atKey (q::qs) k=some q.2:=by simp[atKey,List.find?_cons,e']
   rw[iO e,b];exact h2
  ·have e':¬q.1=k:=λz=>e (h1.trans z)
   have b:atKey (q::qs) k=atKey qs k:=by simp[atKey,List.find?_cons,e']
   rw[gu e,b];exact ih
theorem KT.acB (r:KT H GK xs)(k:List Key)(ry:aG y u):
 KT H (GK.map λkv=>if kv.1=k then(kv.1,y) else kv) (xs.map (putAt k u)):=by
 induction r with
 |nil=>exact .nil
 |@cons p q ps qs h t ih =>
  rw[List.map_cons,List.map_cons];refine .cons ?_ ih;obtain⟨h1,h2,h3⟩:=h;unfold putAt
  by_cases e:p.1=k
  ·rw[if_pos e,if_pos (h1.symm.trans e)];exact⟨h1,h2,ry⟩
  ·rw[if_neg e,if_neg (λz=>e (h1.trans z))];exact⟨h1,h2,h3⟩
theorem KT.put (r:KT H GK xs)(k:List Key){b:Addr}(hb:H b=some (.tup (k.map kV)))(ry:aG y u):
 KT H (gX GK k y) (storedH xs k b u):=by
 have e:(GK.any λkv=>decide (kv.1=k))=(atKey xs k).isSome:=by
  rw[kJ,(r.val k).aaM,Option.isSome_map]
 unfold gX storedH;rw[e]
 by_cases q:(atKey xs k).isSome=true
 ·rw[if_pos q,if_pos q];exact r.acB k ry
 ·rw[if_neg q,if_neg q];exact Paired.snoc r ⟨rfl,hb,ry⟩
theorem KT.keeps (r:KT H GK xs)(ht:∀b ys,H b=some (.tup ys)->H' b=some (.tup ys)):KT H' GK xs :=
 Paired.ab4 r λ_ _ z=>⟨z.1,ht _ _ z.2.1,z.2.2⟩
section
variable {P:wM}{w:World}{H:Hp}{h:Heap}{a:Addr}
theorem Bc {u:HO}(ok:gk P w H h)(e:Rd H a u):ba P w H h a u:=e.ok ok
theorem ua {GK:List (Key×V)}(ok:gk P w H h)(e:Rd H a (.dK GK)):GK.length<=sizeLine/\(a==sysModules)=false/\∃vs,KV GK vs/\h.DictOf (ck P w) a vs :=
 show ba P w H h a (.dK GK) from Bc ok e
theorem Bh {GK:List (Key×V)}(ok:gk P w H h)(e:H a=some (.dK GK)):GK.length<=sizeLine/\(a==sysModules)=false/\∃vs,KV GK vs/\h.DictOf (ck P w) a vs:=ua ok (.inl e)
theorem oh {ks:List Key}(ok:gk P w H h)(e:H a=some (.tup (ks.map kV))):(tupleKind (ck P w)).is h ks a:=by
 obtain⟨_,its,r,o,h1,h2,n,h3⟩:=(show ba P w H h a (.tup (ks.map kV)) from ok a _ e);exact⟨o,its.toArray,n,h1,h2,h3,by simpa using mO r⟩
theorem uj (ok:gk P w H h)(e:Rd H a (.dT GK)):GK.length<=sizeLine/\(a==sysModules)=false /\
 ∃xs,KT H GK xs/\h.DictOfH (tupleKind (ck P w)) a xs:=by
 obtain⟨z,y,xs,r,o,es,ep,h1,h2,h3,h4,h5⟩:=(show ba P w H h a (.dT GK) from Bc ok e);refine⟨z,y,xs,r,o,es,ep,h1,h2,h3,h4,λx hx=>?_,h5⟩
 have all:∀{l:List (List Key×V)}{m:List (List Key×Addr×Value)},KT H l m->∀x∈m,(tupleKind (ck P w)).is h x.1 x.2.1:=by
  intro l m q
  induction q with
  |nil=>intro x hx;exact nomatch hx
  |@cons p q ps qs hq t ih =>
   intro x hx
   rcases List.mem_cons.mp hx with e|hx
   ·subst e;exact oh ok (by rw[<-hq.1];exact hq.2.1)
   ·exact ih x hx
 exact all r x hx
theorem abJ (ok:gk P w H h)(e:H a=some (.dT GK)):GK.length<=sizeLine/\(a==sysModules)=false /\
 ∃xs,KT H GK xs/\h.DictOfH (tupleKind (ck P w)) a xs:=uj ok (.inl e)
end
noncomputable def oM (H:Hp)(a:Addr)(y:V)(r:Option V):Prop :=
 (∃GK k,Rd H a (.dK GK)/\y=kV k/\r=jl GK k)\/∃GK k b,Rd H a (.dT GK)/\y=.ref b/\H b=some (.tup (k.map kV))/\r=jl GK k
noncomputable def vE (H:Hp)(a:Addr)(y v:V)(H':Hp):Prop :=
 (∃GK k,H a=some (.dK GK)/\y=kV k/\GK.length<sizeLine/\H'=upd H a (.dK (gX GK k v))) \/
 ∃GK k b,H a=some (.dT GK)/\y=.ref b/\H b=some (.tup (k.map kV))/\GK.length<sizeLine/\H'=upd H a (.dT (gX GK k v))
theorem oM.t {b:Addr}{k:List Key}(e:H a=some (.dT GK))(eb:H b=some (.tup (k.map kV))):oM H a (.ref b) (jl GK k):=.inr ⟨GK,k,b,.inl e,rfl,eb,rfl⟩
theorem vE.t {b:Addr}{k:List Key}(e:H a=some (.dT GK))(eb:H b=some (.tup (k.map kV)))(hl:GK.length<sizeLine):
 vE H a (.ref b) v (upd H a (.dT (gX GK k v))):=.inr ⟨GK,k,b,e,rfl,eb,hl,rfl⟩
section
variable {X:Cx}{pins:List (Addr×Obj)}{σ:St}{H:Hp}{s:GH}{a:Addr}{y v:V}{u r:Value}{o:Option V}{A:Around}{E:wA}
theorem Inv.big (I:Inv X pins σ H s):sysModules<s.heap.objs.size:=by
 have h:mainGlobals<s.heap.objs.size:=(I.mod.glob.keeps I.bk).lt;exact Nat.lt_trans (by decide) h
theorem abL {Q:wA}(hu:A.units+1<cLine)(I:Inv X pins σ H s)(g:oM H a y (some v))(ry:aG y u)(h:∀w' s',Inv X pins σ H s'->aG v w'->Q w' s'):
 wpAny (model X.prog X.w) A (getItem (.ref a) u) Q E s:=by
 rcases g with⟨GK,k,e,ey,l⟩|⟨GK,k,b,e,ey,eb,l⟩
 ·subst ey;obtain⟨z,hd,vs,rel,dd⟩:=ua I.hok e;obtain⟨w',hw,IL⟩:=eX.some_of (v:=v) (o:=valueAt vs k) (by rw[l];exact rel.val k);exact wpAny_getItem_of (uB ry) dd.mapOf hw (h w' _ (I.tok _) IL)
 ·subst ey
  cases(show u=Value.ref b from ry)
  obtain⟨z,hd,xs,rel,dd⟩:=uj I.hok e;obtain⟨w',hw,IL⟩:=eX.some_of (v:=v) (o:=(atKey xs k).map (·.2)) (by rw[l];exact rel.val k);obtain⟨p,hp,RK⟩:=Option.map_eq_some_iff.mp hw;refine wpAny_getItem_heap (tupleKind_room_in1 hu) (oh I.hok eb) dd hp ?_;rw[RK];exact h w' _ (I.tok _) IL
theorem acP {Q:wA}(hu:A.units+1<cLine)(I:Inv X pins σ H s)(g:oM H a y o)(ry:aG y u)(h:∀s',Inv X pins σ H s'->Q (.bool o.isSome) s'):
 wpAny (model X.prog X.w) A (compareOp .In u (.ref a)) Q E s:=by
 rcases g with⟨GK,k,e,ey,l⟩|⟨GK,k,b,e,ey,eb,l⟩
 ·subst ey;obtain⟨z,hd,vs,rel,dd⟩:=ua I.hok e;refine wpAny_in_of (uB ry) hd dd.mapOf ?_;rw[<-(rel.val k).aaM,<-l];exact h _ (I.tok _)
 ·subst ey
  cases(show u=Value.ref b from ry)
  obtain⟨z,hd,xs,rel,dd⟩:=uj I.hok e;refine wpAny_in_heap (tupleKind_room_in1 hu) (oh I.hok eb) hd dd ?_;have q:=(rel.val k).aaM;rw[Option.isSome_map] at q;rw[<-q,<-l];exact h _ (I.tok _)
theorem sS {h':Heap}{t':Nat}{ob:HO}(I:Inv X pins σ H s)(mu:DN (H a))(hs:Heap.SameBut a s.heap h')(he:∃q,h'.get? a=some q)(new:ba X.prog X.w (upd H a ob) h' a ob):
 Inv X pins σ (upd H a ob) {s with heap:=h',toks:=t'}:=
 I.write (x:=a) (e:=a) mu (.inl rfl) (λb q hb z=>(hs.2 b hb).trans z) he new
theorem acQ {h':Heap}{GK:List (Key×V)}{vs:List (Key×Value)}(z:GK.length<=sizeLine)(hd:(a==sysModules)=false)(rel:KV GK vs)(dd:h'.DictOf (ck P w) a vs):
 ba P w H' h' a (.dK GK):=⟨z,hd,vs,rel,dd⟩
theorem acR {Q:Unit->Shared->Prop}(hu:A.units+1<cLine)(I:Inv X pins σ H s)(g:vE H a y v H')(ry:aG y u)(rv:aG v r)(h:∀s',Inv X pins σ H' s'->Q () s'):
 wpAny (model X.prog X.w) A (setItem (.ref a) u r) Q E s:=by
 rcases g with⟨GK,k,e,ey,l,eH⟩|⟨GK,k,b,e,ey,eb,l,eH⟩
 ·subst ey eH;obtain⟨z,hd,vs,rel,dd⟩:=Bh I.hok e
  have hz:vs.length<=sizeLine:=by rw[<-rel.length];exact z
  have hl:(gX GK k v).length<=sizeLine:=by have:=jr GK k v;omega
  refine wpAny_setItem_pairs (hsz:=hz) (uB ry) dd λh' RL hs=>h _ ?_;have he:∃q,h'.get? a=some q:=let⟨q,_,_,hq,_⟩:=RL;⟨q,hq⟩;exact sS I (by rw[e];exact True.intro) hs he (acQ hl hd (rel.put k rv) RL)
 ·subst ey eH
  cases(show u=Value.ref b from ry)
  obtain⟨z,hd,xs,rel,dd⟩:=abJ I.hok e
  have hz:xs.length<=sizeLine:=by rw[<-Paired.length rel];exact z
  have hl:(gX GK k v).length<=sizeLine:=by have:=jr GK k v;omega
  refine wpAny_setItem_heap (hsz:=hz) (tupleKind_room_in1 hu) (oh I.hok eb) dd λh' RL hs=>h _ ?_;obtain⟨q,es,ep,hq,h2,h3,h4,_,h5⟩:=RL;refine sS I (by rw[e];exact True.intro) hs ⟨q,hq⟩ ⟨hl,hd,_,(rel.put k eb rv).keeps λc ys ec=>?_,q,es,ep,hq,h2,h3,h4,h5⟩;rw[aq (jw ec e (λz=>nomatch z))];exact ec
end
noncomputable def Ed (i:Expr):Prop:=∀ov iv,subscripted i false ov iv=operate [ov,iv] (getItem ov iv)
theorem acX {prog:wM}{E:wA}{env:Env}{value slice:Expr}{pos:Pos}{T id:String}{Q:wA}
 (hl:typeLookup (.type T) "__getitem__"=pure (some (.builtin id)))(hs:Ed slice)
 (h:wpAny (model prog w) A (eval value env) (λo s₁=>wpAny (model prog w) A (eval slice env) (λi s₂=>s₂.TypeIs o T/\wpAny (model prog w) A (getItem o i) Q E s₂) E s₁) E s):
 wpAny (model prog w) A (eval (.Subscript value slice pos) env) Q E s:=by
 refine Subscript_ (wpAny_mono h (λo s₁ h₁=>wpAny_mono h₁ (λi s₂ h₂=>?_) λ_ _ x=>x) λ_ _ x=>x);obtain⟨hT,h₂⟩:=h₂;unfold subscriptTail;refine wpAny_bind ?_;rw[getitemInPython_of_ne hT.not_modules];refine wpAny_bind (wpAny_specialOf hT hl ?_)
 have fin:wpAny (model prog w) A (subscripted slice false o i) (λr s₃=>wpAny (model prog w) A (letTemporaryGo value o r>>=λ_=>pure r) Q E s₃) E s₂:=by
  rw[hs o i];exact wpAny_operating (wpAny_mono h₂ (λr s₃ h₃=>wpAny_bind (wpAny_letTemporaryGo (wpAny_pure h₃))) λ_ _ x=>x)
 first
  |exact wpAny_pure (wpAny_bind fin)
  |exact wpAny_bind (wpAny_pure (wpAny_bind fin))
  |exact wpAny_bind fin
theorem acY {o:Option V}(I:Inv X pins σ H s)(g:oM H a y o):s.TypeIs (.ref a) "dict":=by
 rcases g with⟨GK,k,e,_,_⟩|⟨GK,k,b,e,_,_,_⟩
 ·obtain⟨_,_,vs,_,dd⟩:=ua I.hok e;exact dd.typeIs
 ·obtain⟨_,_,xs,_,dd⟩:=uj I.hok e;exact dd.typeIs
noncomputable def ab0 (td ty:TE):TE:=λσ H Q=>td σ H λx H1=>ty σ H1 λy H2=>∃a v,x=.ref a/\oM H2 a y (some v)/\Q v H2
noncomputable def aco (ty td:TE):TE:=λσ H Q=>ty σ H λy H1=>td σ H1 λx H2=>∃a o,x=.ref a/\oM H2 a y o/\Q (.bl o.isSome) H2
noncomputable def adb (td ty tv:TE):TS:=λD σ H=>tv σ H λv H1=>td σ H1 λx H2=>ty σ H2 λy H3=>∃a H4,x=.ref a/\vE H3 a y v H4/\D.nx σ H4
section
variable {X:Cx}{o i e value:Expr}{pos pos' To:Pos}{td ty tv:TE}
theorem adf (hu:X.A.units+1<cLine)(ho:PE X o td)(hi:PE X i ty)(hs:Ed i):PE X (.Subscript o i pos) (ab0 td ty):=by
 intro pins s σ H Q I h;refine acX PySem.F.slot_dict_getitem.lookup hs (bA (ho pins s σ H _ I h) λu s1 ⟨x,H1,I1,rx,q1⟩=>bA (hi pins s1 σ H1 _ I1 q1) λiv s2 z'=>?_);obtain⟨y,H2,I2,ry,a,v,ex,g,q2⟩:=z';subst ex;obtain rfl:u=Value.ref a:=rx;exact⟨acY I2 g,abL hu I2 g ry λw' s3 I3 IL=>⟨v,H2,I3,IL,q2⟩⟩
theorem adg (hu:X.A.units+1<cLine)(hi:PE X i ty)(ho:PE X o td):PC X .In i o (aco ty td):=by
 intro pins s σ H Q I h;refine bA (hi pins s σ H _ I h) λiv s1 ⟨y,H1,I1,ry,q1⟩=>bA (ho pins s1 σ H1 _ I1 q1) λu s2 z'=>?_;obtain⟨x,H2,I2,rx,a,ov,ex,g,q2⟩:=z';subst ex;obtain rfl:u=Value.ref a:=rx;exact acP hu I2 g ry λs3 I3=>⟨.bl ov.isSome,H2,I3,rfl,q2⟩
theorem ab9 (hu:X.A.units+1<cLine)(ho:PE X o td)(hi:PE X i ty)(hv:PE X value tv)(hs:swapsWith value (some (.Subscript o i pos')) pos.line X.env=pure false):
 PS X (.Assign [.Subscript o i pos'] value pos) (adb td ty tv):=by
 intro pins s σ H D I h;refine wpAny_Assign_Subscript (bA (hv pins s σ H _ I h) λr s1 ⟨v,H1,I1,rv,q1⟩=>bA (ho pins s1 σ H1 _ I1 q1) λu s2 ⟨x,H2,I2,rx,q2⟩=>bA (hi pins s2 σ H2 _ I2 q2) λiv s3 z'=>?_) hs;obtain⟨y,H3,I3,ry,a,H4,ex,g,q3⟩:=z';subst ex;obtain rfl:u=Value.ref a:=rx;exact acR hu I3 g ry rv λs4 I4=>⟨σ,H4,I4,q3⟩
end
theorem abX (h:Heap)(hb:sysModules<h.objs.size):ba P w H (h.push {cls:=.type "dict",data:=.dict #[]}) h.objs.size (.dK []):=
 ⟨Nat.zero_le _,beq_eq_false_iff_ne.mpr (Ne.symm (Nat.ne_of_lt hb)),[],.nil,Heap.DictOf.new h⟩
theorem ace (h:Heap)(hb:sysModules<h.objs.size):ba P w H (h.push {cls:=.type "dict",data:=.dict #[]}) h.objs.size (.dT []):=
 ⟨Nat.zero_le _,beq_eq_false_iff_ne.mpr (Ne.symm (Nat.ne_of_lt hb)),[],.nil,_,#[],0,Heap.get?_push_size _ rfl,⟨rfl,rfl,rfl⟩,rfl,rfl,List.nodup_nil⟩
noncomputable def acC:TE:=λ_ H Q=>∀p,H p=none->Q (.ref p) (upd H p (.dK []))
noncomputable def acD:TE:=λ_ H Q=>∀p,H p=none->Q (.ref p) (upd H p (.dT []))
section
variable {X:Cx}{pos:Pos}
theorem abY:PE X (.Dict [] [] pos) acC:=λpins s σ H Q I h =>
 wpAny_Dict_empty ⟨.ref s.heap.objs.size,_,I.laid (a:=s.heap.objs.size) (o:=.dK []) (t':=s.toks) (λ_ _ q=>Heap.get?_push_of_some _ q) (Nat.le_refl _) (abX s.heap I.big),rfl,h _ (I.hok.fresh (Nat.le_refl _))⟩
theorem aaN:PE X (.Dict [] [] pos) acD:=λpins s σ H Q I h =>
 wpAny_Dict_empty ⟨.ref s.heap.objs.size,_,I.laid (a:=s.heap.objs.size) (o:=.dT []) (t':=s.toks) (λ_ _ q=>Heap.get?_push_of_some _ q) (Nat.le_refl _) (ace s.heap I.big),rfl,h _ (I.hok.fresh (Nat.le_refl _))⟩
end
end L2
namespace HT
open PySem PyProof.Rows
noncomputable def cW:List Int->List Int->Bool
 |[],[]=>false
 |[],_::_=>true
 |_::_,[]=>false
 |x::xs,y::ys=>if x=y then cW xs ys else decide (x<y)
theorem eF (x y:Int)(xs ys:List Int):cW (x::xs) (y::ys)=if x=y then cW xs ys else decide (x<y):=rfl
theorem acG:cW [] []=false:=rfl
theorem acI (y:Int)(ys:List Int):cW [] (y::ys)=true:=rfl
theorem Tng (x:Int)(xs:List Int):cW (x::xs) []=false:=rfl
theorem acW (A:Around)(s:GH)(a:Int)(t:Tok)(c:Int)(u:Tok):∃e,SeqAt.EqAt A s (.int a t) (.int c u) e/\(e=true↔a=c):=
 ⟨(a==c),SeqAt.EqAt.int_int a t c u,by simp⟩
theorem abK (A:Around)(s:GH)(a:Int)(t:Tok)(c:Int)(u:Tok)(prog:wM)(w:World)(E:wA)(Q:wA)(h:Q (.bool (decide (a<c))) s):
 wpAny (model prog w) A (richCompare .Lt (.int a t) (.int c u)) Q E s :=
 (PyProof.Rows.lt_int h:wpAny (model prog w) A (compareOp .Lt (.int a t) (.int c u)) Q E s)
section
open PySem.SeqAt
open PySem.AutoSeq1 (wpAny_loadPart')
open PySem.MeetsSeq PySem.MeetsSeq2 PySem.MeetsSeq3
theorem abM (l b:Addr)(items G7:BU)(n n2:Nat)(dd Tr:p5)(sl M3:Ff)(ns ms:List Int)(hi:IntsAre items.toList ns)(hj:IntsAre G7.toList ms):
 Meets (Builtin.«tuple.__lt__» ⟨[.ref l,.ref b],[]⟩)
  (λ_ R s=>s.heap.get? l=some {cls:=.type "tuple",dict:=dd,data:=.seq items n,slots:=sl}/\s.heap.get? b=some {cls:=.type "tuple",dict:=Tr,data:=.seq G7 n2,slots:=M3} /\
   R (.ok (.ret (.bool (cW ns ms)))) s):=
 .of_wp λprog w A R s h=>by
  obtain⟨hp,g,d,tk,os⟩:=s;obtain⟨hl,hb,h⟩:=h;have f2:=AutoSeq1.sub_tuple_tuple
  have z1:items.size=ns.length:=by rw[<-hi.length];simp
  have z2:G7.size=ms.length:=by rw[<-hj.length];simp
  wp_walk using wpAny_loadPart' hl,wpAny_loadPart' hb,wpAny_forIn_list _ (λrest b s'=>b.1=none/\s'=⟨hp,g,d,tk,os⟩/\∃(vs ws:oH)(M7 M9:List Int),rest=vs.zip ws /\
   IntsAre vs M7/\IntsAre ws M9/\M7.length+G7.size=M9.length+items.size/\R (.ok (.ret (.bool (cW M7 M9)))) ⟨hp,g,d,tk,os⟩) _
  case turn =>
   rintro⟨y,x⟩ rest b s' ⟨HY,rfl,vs,ws,M7,M9,hz,Tu,RM,hlen,hR⟩
   cases Tu with
   |nil=>rw[List.zip_nil_left] at hz;cases hz
   |cons a t Tv =>
    cases RM with
    |nil=>rw[List.zip_nil_right] at hz;cases hz
    |cons c u Tw =>
     rw[List.zip_cons_cons] at hz
     injection hz with hyx KO
     injection hyx with hy hx
     subst hy hx;rw[eF] at hR;simp only[List.length_cons] at hlen;obtain⟨e,he,NY⟩:=acW A.in1 ⟨hp,g,d,tk,os⟩ a t c u;refine wpAny_bind (he prog w _ _ ?_)
     cases e with
     |true =>
      rw[if_pos (NY.mp rfl)] at hR
      wp_walk
      exact⟨rfl,rfl,_,_,_,_,KO,Tv,Tw,by omega,hR⟩
     |false =>
      rw[if_neg (λq=>absurd (NY.mpr q) Bool.false_ne_true)] at hR;have hri:=abK A.in1 ⟨hp,g,d,tk,os⟩ a t c u prog w
      wp_walk using hri
      exact⟨_,rfl,by simpa using hR⟩
  case fin =>
   rintro⟨b1,b2⟩ s' ⟨HY,rfl,vs,ws,M7,M9,hz,Tu,RM,hlen,hR⟩;simp only at HY;subst HY
   have hv:cW M7 M9=decide (items.size<G7.size):=by
    cases Tu with
    |nil =>
     cases RM with
     |nil =>
      simp only[List.length_nil] at hlen;rw[acG];exact(decide_eq_false (by omega)).symm
     |cons c u hw =>
      simp only[List.length_nil,List.length_cons] at hlen;rw[acI];exact(decide_eq_true (by omega)).symm
    |cons a t hv =>
     cases RM with
     |nil =>
      simp only[List.length_nil,List.length_cons] at hlen;rw[Tng];exact(decide_eq_false (by omega)).symm
     |cons c u hw =>
      rw[List.zip_cons_cons] at hz
      cases hz
   rw[hv] at hR
   wp_walk
   exact⟨_,rfl,by simpa[Builtin.Tuple.tupleCompareSizes] using hR⟩
  case h =>
   exact⟨rfl,rfl,items.toList,G7.toList,ns,ms,rfl,hi,hj,by omega,h⟩
end
section
variable {prog:wM}{w:World}{A:Around}{E:wA}{s:GH}
theorem abN {l b:Addr}{items G7:BU}{ns ms:List Int}{Q:wA}(hl:IsTup s.heap l items)(hb:IsTup s.heap b G7)(hi:IntsAre items.toList ns)(hj:IntsAre G7.toList ms)
 (hu:A.units<cLine)(h:Q (.bool (cW ns ms)) s):wpAny (model prog w) A (compareOp .Lt (.ref l) (.ref b)) Q E s:=by
 obtain⟨⟨cls,dd,data,sl⟩,ho,hc,n,hd⟩:=id hl;obtain⟨⟨abD,Tr,data2,M3⟩,Yi,Na,n2,hd2⟩:=id hb;simp only at hc hd Na hd2;subst hc hd Na hd2
 exact richCompare_meets_room (op:=.Lt) ⟨_,ho,rfl⟩ ⟨_,Yi,rfl⟩ PySem.F.slot_tuple_lt PySem.F.entry_tuple_lt (PySem.F.args_tuple_lt_2 _ _) (abM l b items G7 n n2 dd Tr sl M3 ns ms hi hj)
  ⟨ho,Yi,show Value.bool (cW ns ms)≠Value.notImplemented/\Q (.bool (cW ns ms)) s from⟨(λx=>nomatch x),h⟩⟩ hu
noncomputable def df (n d:Nat):Option Int->Nat
 |none=>d
 |some v=>if v<0 then(v+(n:Int)).toNat else min v.toNat n
theorem pM (n d:Nat):df n d none=d:=rfl
theorem uK (n d k:Nat):df n d (some (k:Int))=min k n:=by
 show(if(k:Int)<0 then((k:Int)+(n:Int)).toNat else min (k:Int).toNat n)=min k n;rw[if_neg (by omega),Int.toNat_natCast]
theorem ab2 (n d:Nat)(hd:d<=n)(o:Option Int):df n d o<=n:=by
 cases o with
 |none=>exact hd
 |some v =>
  show(if v<0 then(v+(n:Int)).toNat else min v.toNat n)<=n
  by_cases hv:v<0
  ·rw[if_pos hv];omega
  ·rw[if_neg hv];exact Nat.min_le_right _ _
theorem tP (v:Int)(n d:Nat):(if v<0 then max (v+(n:Int)) 0 else min v (n:Int))=((df n d (some v):Nat):Int):=by
 show(if v<0 then max (v+(n:Int)) 0 else min v (n:Int))=(((if v<0 then(v+(n:Int)).toNat else min v.toNat n):Nat):Int)
 by_cases hv:v<0
 ·simp only[if_pos hv];omega
 ·simp only[if_neg hv];omega
theorem abz (lo hi:Option Int)(n:Nat):Builtin.Slice.sliceAdjust lo hi 1 (n:Int)=(((df n 0 lo:Nat):Int),((df n n hi:Nat):Int)):=by
 have h1:¬((1:Int)<0):=by omega
 unfold Builtin.Slice.sliceAdjust;simp only[h1,if_false];refine Prod.ext ?_ ?_
 ·cases lo with
  |none=>rfl
  |some v=>exact tP v n 0
 ·cases hi with
  |none=>rfl
  |some v=>exact tP v n n
theorem ac0 (i j:Nat):Builtin.Slice.slicePlaces (i:Int) (j:Int) 1=j-i:=by
 unfold Builtin.Slice.slicePlaces
 have h1:(1:Int)>0:=by omega
 simp only[h1,if_true,Int.ediv_one]
 split <;> omega
theorem kO {v:Value}{o:Option Int}{Q:Option Int->Shared->Prop}(p:IsPart v o)(h:Q o s):wpAny (model prog w) A (Builtin.Slice.slicePartIndex v) Q E s:=by
 cases p with
 |none=>exact slicePart_none h
 |int i t=>exact slicePart_int h
theorem fK {sl:Addr}{vl vu:Value}{lo hi:Option Int}{n:Nat}{Q:Int×Int×Nat->Shared->Prop}(hs:s.heap.IsSliceOf sl vl vu .none)(pl:IsPart vl lo)(pu:IsPart vu hi)
 (h:Q (((df n 0 lo:Nat):Int),1,df n n hi-df n 0 lo) s):wpAny (model prog w) A (Builtin.Slice.sliceApplied (.ref sl) (pure (n:Int))) Q E s:=by
 obtain⟨os,LB,RN,NZ⟩:=id hs;unfold Builtin.Slice.sliceApplied Builtin.Slice.sliceFields;refine wpAny_bind (wpAny_bind (wpAny_field LB NZ (x:=vl) rfl (wpAny_bind (wpAny_field LB NZ (x:=vu) rfl (wpAny_bind (wpAny_field LB NZ (x:=.none) rfl (wpAny_pure ?_)))))));refine wpAny_bind (slicePart_none ?_);show wpAny _ _ (if((1:Int)==0)=true then _ else _) _ _ s;rw[if_neg (by decide)];refine wpAny_bind (kO pl (wpAny_bind (kO pu (wpAny_bind (wpAny_pure ?_)))));show wpAny _ _ (match Builtin.Slice.sliceAdjust lo hi 1 (n:Int) with|(lo,hi)=>pure (lo,(1:Int),Builtin.Slice.slicePlaces lo hi 1)) _ _ s;rw[abz lo hi n];show wpAny _ _ (pure (((df n 0 lo:Nat):Int),(1:Int),Builtin.Slice.slicePlaces ((df n 0 lo:Nat):Int) ((df n n hi:Nat):Int) 1)) _ _ s;rw[ac0];exact wpAny_pure h
theorem ac2 (xs:BU)(i k:Nat):((List.range k).filterMap λ(m:Nat)=>xs[((i:Int)+(m:Int)*1).toNat]?).toArray=((xs.toList.drop i).take k).toArray:=by
 have e:(λ(m:Nat)=>xs[((i:Int)+(m:Int)*1).toNat]?)=λm=>xs[i+m]?:=by
  funext m
  have:((i:Int)+(m:Int)*1).toNat=i+m:=by omega
  rw[this]
 rw[e];have:=pick_run xs i k;rw[List.filterMap_map] at this;have e2:((λx=>xs[x]?) ∘ λx=>i+x)=λm=>xs[i+m]?:=rfl;rw[e2] at this;rw[this]
theorem acv {t sl:Addr}{items:BU}{vl vu:Value}{lo hi:Option Int}{Q:wA}(ht:IsTup s.heap t items)(hs:s.heap.IsSliceOf sl vl vu .none)(pl:IsPart vl lo)(pu:IsPart vu hi)
 (hw:¬(df items.size 0 lo=0/\df items.size items.size hi=items.size))
 (h:Q (.ref s.heap.objs.size) {s with heap:=s.heap.push {cls:=.type "tuple",data:=.seq ((items.toList.drop (df items.size 0 lo)).take (df items.size items.size hi-df items.size 0 lo)).toArray} })
 (hsz:items.size<=sizeLine):wpAny (model prog w) A (getItem (.ref t) (.ref sl)) Q E s:=by
 have Jk:sizeOk (.seq ((items.toList.drop (df items.size 0 lo)).take (df items.size items.size hi-df items.size 0 lo)).toArray):=by
  show((items.toList.drop (df items.size 0 lo)).take (df items.size items.size hi-df items.size 0 lo)).toArray.size<=sizeLine;rw[List.size_toArray,List.length_take,List.length_drop,Array.length_toList];omega
 have hj:df items.size items.size hi<=items.size:=ab2 _ _ (Nat.le_refl _) hi;obtain⟨os,LB,RN,NZ⟩:=id hs;have Tx:s.TypeIs (.ref sl) "slice":=⟨os,LB,RN⟩;unfold getItem
 try with_reducible refine wpAny_holding ?_
 first|refine wpAny_bind (wpAny_pure ?_)|skip
 refine wpAny_bind (wpAny_sequenceKey ht.typeIs (by decide) ?_)
 refine wpAny_bind (wpAny_callSpecial?_slot (name:=Str.ofString "__getitem__") ht.typeIs PyProof.Rows.slot_tuple_getitem
  (wpAny_call_entry PyProof.Rows.slot_tuple_getitem ht.typeIs entry_tuple_getitem ?_ (args_tuple_getitem _ _)))
 show wpAny _ _ (Builtin.Tuple.tupleItemsOf (.ref t)>>=_) _ _ s;refine wpAny_bind (tupleItemsOf_ ht ?_);refine wpAny_bind (wpAny_typeOf Tx ?_);rw[if_pos (by decide)];refine wpAny_bind (fK hs pl pu ?_)
 have JI:¬((((df items.size 0 lo:Nat):Int)==0&&(1:Int)==1&&(df items.size items.size hi-df items.size 0 lo)==items.size)=true):=by
  intro q;rw[Bool.and_eq_true,Bool.and_eq_true] at q;have q1:((df items.size 0 lo:Nat):Int)=0:=eq_of_beq q.1.1;have q2:df items.size items.size hi-df items.size 0 lo=items.size:=eq_of_beq q.2;exact hw ⟨by omega,by omega⟩
 show wpAny _ _ (if(((df items.size 0 lo:Nat):Int)==0&&(1:Int)==1&&(df items.size items.size hi-df items.size 0 lo)==items.size)=true then _ else _) _ _ s;rw[if_neg JI,ac2]
 first
  |exact wpAny_bind (m:=Builtin.Tuple.tupleExact _) (wpAny_newObj_type (wpAny_pure ⟨_,rfl,wpAny_pure h⟩) Jk)
  |exact wpAny_bind (m:=Builtin.Tuple.tupleExact _) (wpAny_newObj_type (wpAny_bind (wpAny_pure (wpAny_pure ⟨_,rfl,wpAny_pure h⟩))) Jk)
  |exact wpAny_bind (wpAny_bind (m:=Builtin.Tuple.tupleExact _) (wpAny_newObj_type (wpAny_pure (wpAny_pure ⟨_,rfl,wpAny_pure h⟩)) Jk))
  |exact wpAny_bind (wpAny_bind (m:=Builtin.Tuple.tupleExact _) (wpAny_newObj_type (wpAny_pure ⟨_,rfl,wpAny_pure h⟩) Jk))
end
end HT
namespace L2
open PySem PySem.Spec PyProof.Rows
noncomputable abbrev TO:=St->Hp->(Option Int->Hp->Prop)->Prop
noncomputable def PO (X:Cx)(e:Option Expr)(t:TO):Prop :=
 ∀(pins:List (Addr×Obj))(s:GH)(σ:St)(H:Hp)(Q:Option Int->Hp->Prop),Inv X pins σ H s->t σ H Q →
  wpAny (model X.prog X.w) X.A (evalPart e X.env) (λu s'=>∃o H',Inv X pins σ H' s'/\IsPart u o/\Q o H') X.xe s
noncomputable def acj:TO:=λ_ H Q=>Q none H
noncomputable def ac3 (t:TE):TO:=λσ H Q=>t σ H λx H1=>∃i,x=.int i/\Q (some i) H1
theorem lq {ns:List Int}:∀{us:oH},aK (ns.map V.int) us->IntsAre us ns:=by
 induction ns with
 |nil=>intro us r;rw[List.map_nil] at r;cases r;exact .nil
 |cons n ns ih =>
  intro us r;rw[List.map_cons] at r
  cases r with
  |cons r1 r2 =>
   obtain⟨t,e⟩:=r1;subst e;exact .cons n t (ih r2)
section
variable {X:Cx}{e:Expr}{te:TE}{lo hi:Option Expr}{tl th:TO}{pos p2:Pos}
theorem de:PO X none acj:=by
 intro pins s σ H Q I h;rw[evalPart_none];exact wpAny_pure ⟨none,H,I,.none,h⟩
theorem dF (h:PE X e te):PO X (some e) (ac3 te):=by
 intro pins s σ H Q I hw;rw[evalPart_some];refine bA (h pins s σ H _ I hw) λu s1 z'=>?_;obtain⟨x,H1,I1,r1,q1⟩:=z';obtain⟨i,rfl,q⟩:=q1;obtain⟨t,rfl⟩:=r1;exact⟨some i,H1,I1,.int i t,q⟩
noncomputable def zo (X:Cx)(r:V->Option Int->Option Int->Hp->VK->Prop):Prop :=
 ∀(pins:List (Addr×Obj))(s:GH)(σ:St)(H:Hp)(x:V)(v vl vu:Value)(lo hi:Option Int)(sl:Addr)(Q:VK),Inv X pins σ H s->aG x v->s.heap.IsSliceOf sl vl vu .none->IsPart vl lo->IsPart vu hi->r x lo hi H Q →
  ∃T id,typeLookup (.type T) "__getitem__"=pure (some (.builtin id))/\s.TypeIs v T/\wpAny (model X.prog X.w) X.A (getItem v (.ref sl)) (EP X pins σ Q) X.xe s
noncomputable def ac4 (r:V->Option Int->Option Int->Hp->VK->Prop)(te:TE)(tl th:TO):TE:=λσ H Q=>te σ H λx H1=>tl σ H1 λl H2=>th σ H2 λu H3=>r x l u H3 Q
theorem cL {r:V->Option Int->Option Int->Hp->VK->Prop}(hr:zo X r)(he:PE X e te)(hl:PO X lo tl)(hu:PO X hi th):PE X (.Subscript e (.Slice lo hi none p2) pos) (ac4 r te tl th):=by
 intro pins s σ H Q I h;refine Subscript_ (bA (he pins s σ H _ I h) λv s1 z'=>?_);obtain⟨x,H1,I1,r1,q1⟩:=z';refine wpAny_Slice (bA (hl pins s1 σ H1 _ I1 q1) λvl s2 ⟨l,H2,I2,pl,q2⟩=>bA (hu pins s2 σ H2 _ I2 q2) λvu s3 z'=>?_);obtain⟨u,H3,I3,pu,q3⟩:=z';rw[evalPart_none];refine wpAny_pure ?_;have I4:Inv X pins σ H3 {s3 with heap:=s3.heap.push {cls:=.type "slice",data:=.fields #[vl,vu,.none]} }:=I3.kept (t':=s3.toks) λb ob q=>Heap.get?_push_of_some _ q;obtain⟨T,id,hT,ht,hg⟩:=hr pins {s3 with heap:=s3.heap.push {cls:=.type "slice",data:=.fields #[vl,vu,.none]} } σ H3 x v vl vu l u s3.heap.objs.size Q I4 r1 (Heap.IsSliceOf.new ..) pl pu q3;show wpAny (model X.prog X.w) X.A (subscriptTail e (.Slice lo hi none p2) v (.ref s3.heap.objs.size)) (EP X pins σ Q) X.xe {s3 with heap:=s3.heap.push {cls:=.type "slice",data:=.fields #[vl,vu,.none]} };exact tail_any (ops:=[.ref s3.heap.objs.size,v]) ht hT hg (by with_unfolding_all rfl)
noncomputable def fO (xs:List V)(lo hi:Option Int):List V:=(xs.drop (HT.df xs.length 0 lo)).take (HT.df xs.length xs.length hi-HT.df xs.length 0 lo)
theorem jz (xs:List V)(lo hi:Option Int):(fO xs lo hi).length<=xs.length:=by
 unfold fO;rw[List.length_take,List.length_drop];omega
noncomputable def ab3 (K:PySem.W.Frag):V->Option Int->Option Int->Hp->VK->Prop:=λx lo hi H Q=>∃a xs,x=.ref a/\bX K H a xs /\
 ¬(HT.df xs.length 0 lo=0/\HT.df xs.length xs.length hi=xs.length)/\∀p,H p=none->Q (.ref p) (upd H p (.tup (fO xs lo hi)))
theorem abQ:zo X (ab3 X.K):=by
 intro pins s σ H x v vl vu lo hi sl Q I rx hs pl pu h;obtain⟨a,xs,rfl,hx,hw,q⟩:=h
 cases rx
 obtain⟨its,r,ht,hz⟩:=I.tuple hx
 have hlen:its.toArray.size=xs.length:=by rw[List.size_toArray];exact r.length.symm
 refine⟨"tuple",_,PyProof.Rows.slot_tuple_getitem.lookup,ht.typeIs,?_⟩;refine HT.acv ht hs pl pu (by rw[hlen];exact hw) ?_ (by rw[hlen];exact hz);rw[hlen];refine⟨.ref s.heap.objs.size,_,I.laid (t':=s.toks) (o:=.tup (fO xs lo hi)) (λb ob q=>Heap.get?_push_of_some _ q) (Nat.le_refl _) ?_,rfl,q _ (I.hok.fresh (Nat.le_refl _))⟩;exact⟨Nat.le_trans (jz xs lo hi) hz,_,(r.drop (HT.df xs.length 0 lo)).take (HT.df xs.length xs.length hi-HT.df xs.length 0 lo),IsTup.new _ _⟩
end
noncomputable def qS (n:Nat)(i:Int):Option Nat:=if 0<=i then(if i<n then some i.toNat else none) else if -(n:Int)<=i then some (i+n).toNat else none
noncomputable def iY {α:Type}(xs:List α)(i:Int):Option α:=(qS xs.length i).bind λj=>xs[j]?
variable {n:Nat}
theorem tJ {i:Int}{j:Nat}(h:qS n i=some j):seqIndex? i n=some j/\j<n/\-(n:Int)<=i/\i<n:=by
 unfold qS at h
 by_cases h0:0<=i
 ·rw[if_pos h0] at h
  by_cases h1:i<n
  ·rw[if_pos h1] at h;have e:i.toNat=j:=Option.some.inj h;exact⟨by rw[seqIndex_of h0 h1,e],by omega,by omega,h1⟩
  ·rw[if_neg h1] at h;cases h
 ·rw[if_neg h0] at h
  by_cases h1:-(n:Int)<=i
  ·rw[if_pos h1] at h;have e:(i+n).toNat=j:=Option.some.inj h;exact⟨by rw[seqIndex_neg (by omega) h1,e],by omega,h1,by omega⟩
  ·rw[if_neg h1] at h;cases h
theorem ur {α:Type}{xs:List α}{i:Int}{v:α}(h:iY xs i=some v):∃j,seqIndex? i xs.length=some j/\xs[j]?=some v/\j<xs.length/\-(xs.length:Int)<=i/\i<xs.length:=by
 unfold iY at h
 cases e:qS xs.length i with
 |none=>rw[e] at h;cases h
 |some j =>
  rw[e] at h;obtain⟨h1,h2,h3,h4⟩:=tJ e;exact⟨j,h1,h,h2,h3,h4⟩
theorem jO {α:Type}{xs:List α}{j:Nat}{v:α}(h:xs[j]?=some v):iY xs (j:Int)=some v:=by
 have hj:j<xs.length:=(List.getElem?_eq_some_iff.mp h).1
 have e:qS xs.length (j:Int)=some j:=by
  unfold qS;rw[if_pos (by omega),if_pos (by omega)];simp
 unfold iY;rw[e];exact h
noncomputable def AS (b:Expr):Prop:=∀o i,subscripted b false o i=operate [o,i] (getItem o i)
noncomputable def CG (X:Cx)(r:R2):Prop :=
 ∀(value slice:Expr)(pins:List (Addr×Obj))(s:GH)(σ:St)(H:Hp)(x y:V)(v u:Value)(Q:VK),Inv X pins σ H s->aG x v->aG y u->r x y H Q →
  subscripted slice false v u=operate [v,u] (getItem v u)->wpAny (model X.prog X.w) X.A (subscriptTail value slice v u) (EP X pins σ Q) X.xe s
noncomputable def Dh (X:Cx)(id:String)(r:V->List V->Hp->VK->Prop):Prop :=
 ∀(pins:List (Addr×Obj))(s:GH)(σ:St)(H:Hp)(x:V)(xs:List V)(v:Value)(us:oH)(Q:VK),Inv X pins σ H s->aG x v->aK xs us->r x xs H Q →
  wpAny (model X.prog X.w) X.A (call (.builtin id) (v::us)) (EP X pins σ Q) X.xe s
variable {pins:List (Addr×Obj)}{σ:St}{H:Hp}{s:GH}{xs:List V}{x:V}{v:Value}
section
variable {X:Cx}{a b:Expr}{ta tb:TE}{pos:Pos}
theorem aQ {r:R2}(hr:CG X r)(ha:PE X a ta)(hb:PE X b tb)(hs:AS b):PE X (.Subscript a b pos) (oU r ta tb):=by
 intro pins s σ H Q I h;exact Subscript_ (CJ ha hb I h λv u s2 x y H2 I2 rx ry q=>hr a b pins s2 σ H2 x y v u Q I2 rx ry q (hs _ _))
noncomputable def qM (K:PySem.W.Frag):R2:=λx y H Q=>∃p xs i v,x=.ref p/\y=.int i/\aM K H p xs/\iY xs i=some v/\Q v H
noncomputable def Cr (K:PySem.W.Frag):R2:=λx y H Q=>∃p xs i v,x=.ref p/\y=.int i/\bX K H p xs/\iY xs i=some v/\Q v H
theorem bu:CG X (qM X.K):=by
 intro value slice pins s σ H x y v u Q I rx ry h hs;obtain⟨p,xs,i,z,rfl,rfl,hq,he,q⟩:=h
 cases rx
 obtain⟨t,rfl⟩:=ry;obtain⟨its,r,pl,hz⟩:=I.list hq;obtain⟨j,h1,h2,h3,h4,h5⟩:=ur he;obtain⟨w,ew,IL⟩:=r.get h2;have hl:=r.length;have hn:=ke;have fin:EP X pins σ Q w s:=⟨z,H,I,IL,q⟩
 by_cases h0:0<=i
 ·have hj:i.toNat=j:=by
   rw[seqIndex_of h0 h5] at h1;exact Option.some.inj h1
  exact item_listR pl.isList h0 (by omega) (by rw[hj];simpa using ew) fin hs
 ·have hj:(i+(its.toArray.size:Int)).toNat=j:=by
   rw[seqIndex_neg (by omega) h4] at h1;rw[List.size_toArray,<-hl];exact Option.some.inj h1
  exact subscriptTail_builtinR (x:=w) pl.isList.typeIs slot_list_getitem.lookup
   (wpAny_getItem_list_neg (Q:=λr s'=>r=w/\EP X pins σ Q r s') pl.isList (by omega) (by rw[List.size_toArray] <;> omega) (by omega) (by rw[hj];simpa using ew) ⟨rfl,fin⟩) hs
theorem cn:CG X (Cr X.K):=by
 intro value slice pins s σ H x y v u Q I rx ry h hs;obtain⟨p,xs,i,z,rfl,rfl,hq,he,q⟩:=h
 cases rx
 obtain⟨t,rfl⟩:=ry;obtain⟨its,r,pl,hz⟩:=I.tuple hq;obtain⟨j,h1,h2,h3,h4,h5⟩:=ur he;obtain⟨w,ew,IL⟩:=r.get h2;have hl:=r.length;have hn:=ke;have fin:EP X pins σ Q w s:=⟨z,H,I,IL,q⟩
 exact subscriptTail_builtinR (x:=w) pl.typeIs slot_tuple_getitem.lookup
  (getItem_tuple (j:=j) (Q:=λr s'=>r=w/\EP X pins σ Q r s') pl (by omega) (by omega) (by rw[List.size_toArray,<-hl];exact h1) (by simpa using ew) ⟨rfl,fin⟩) hs
theorem qX (its:oH)(n j:Nat)(u:Value):Obj.mapSeq (·.setIfInBounds j u) {cls:=.type "list",data:=.seq its.toArray n}={cls:=.type "list",data:=.seq (its.set j u).toArray n}:=by
 simp[Obj.mapSeq]
theorem Inv.lst {p:Addr}(I:Inv X pins σ H s)(h:H p=some (.lst xs)):
 ∃(its:oH)(n:Nat),aK xs its/\s.heap.get? p=some {cls:=.type "list",data:=.seq its.toArray n}/\xs.length<=sizeLine:=by
 obtain⟨z,its,n,r,e⟩:=I.hok p _ h;exact⟨its,n,r,e,z⟩
theorem Inv.acE {p:Addr}{ys:List V}{its its':oH}{n':Nat}{f:Obj->Obj}(I:Inv X pins σ H s)(h:H p=some (.lst xs))
 (ho:s.heap.get? p=some {cls:=.type "list",data:=.seq its.toArray n})(hf:f {cls:=.type "list",data:=.seq its.toArray n}={cls:=.type "list",data:=.seq its'.toArray n'})(r:aK ys its')(hz:ys.length<=sizeLine)(t:Nat):
 Inv X pins σ (upd H p (.lst ys)) {s with heap:=s.heap.update p f,toks:=t}:=by
 have e:(s.heap.update p f).get? p=some {cls:=.type "list",data:=.seq its'.toArray n'}:=by
  rw[Heap.get?_update_self f ho (by rw[hf] <;> rfl),hf]
 refine I.write (x:=p) (e:=p) (by rw[h];trivial) (.inl rfl) (λb u hb q=>(Heap.get?_update_other _ _ (Ne.symm hb)).trans q) ⟨_,e⟩ ?_;exact⟨hz,its',n',r,e⟩
noncomputable def acU:V->V->V->Hp->(Hp->Prop)->Prop:=λo i v H Q=>∃p xs k j,o=.ref p/\i=.int k/\H p=some (.lst xs)/\qS xs.length k=some j/\Q (upd H p (.lst (xs.set j v)))
theorem fb:Ea X acU:=by
 intro pins s σ H o i v ov iv u Q I ro ri rv h;obtain⟨p,xs,k,j,rfl,rfl,hp,hj,q⟩:=h
 cases ro
 obtain⟨t,rfl⟩:=ri;obtain⟨its,n,r,ho,hz⟩:=I.lst hp;obtain⟨h1,h2,h3,h4⟩:=tJ hj;have hl:=r.length;have hn:=ke
 have I':Inv X pins σ (upd H p (.lst (xs.set j v))) {s with heap:=s.heap.update p (Obj.mapSeq (·.setIfInBounds j u))}:=
  I.acE hp ho (qX its n j u) (r.set rv j) (by rw[List.length_set];exact hz) s.toks
 by_cases h0:0<=k
 ·have hk:k.toNat=j:=by
   rw[seqIndex_of h0 h4] at h1;exact Option.some.inj h1
  exact PySem.W.ki_setAt ho h0 (by omega) (by rw[List.size_toArray,<-hl];exact h4) (by rw[hk];exact⟨_,I',q⟩)
 ·have hk:(k+(its.toArray.size:Int)).toNat=j:=by
   rw[seqIndex_neg (by omega) h3] at h1;rw[List.size_toArray,<-hl];exact Option.some.inj h1
  exact PySem.W.ki_setBack ho (by omega) (by rw[List.size_toArray,<-hl];exact h3) (by omega) (by rw[hk];exact⟨_,I',q⟩)
theorem pe (lo hi:Option Int)(n:Nat):(sliceBounds lo hi none n).1=((HT.df n 0 lo:Nat):Int)/\(sliceBounds lo hi none n).2.1=((HT.df n n hi:Nat):Int)/\(sliceBounds lo hi none n).2.2=1:=by
 refine⟨?_,?_,rfl⟩
 ·cases lo with
  |none=>simp[sliceBounds,HT.df]
  |some i =>
   simp only[sliceBounds,HT.df,Option.getD_none,show(1:Int)>0 by decide,if_true]
   by_cases h:i<0
   ·simp only[h,if_true] <;> omega
   ·simp only[h,if_false] <;> omega
 ·cases hi with
  |none=>simp[sliceBounds,HT.df]
  |some i =>
   simp only[sliceBounds,HT.df,Option.getD_none,show(1:Int)>0 by decide,if_true]
   by_cases h:i<0
   ·simp only[h,if_true] <;> omega
   ·simp only[h,if_false] <;> omega
theorem mn (its:oH)(lo hi:Option Int):slicePick its.toArray lo hi none=((its.drop (HT.df its.length 0 lo)).take (HT.df its.length its.length hi-HT.df its.length 0 lo)).toArray:=by
 obtain⟨h1,h2,h3⟩:=pe lo hi its.toArray.size;unfold slicePick;rw[h1,h2,h3];simp only[sliceRange_one,pick_run,List.size_toArray] <;> rfl
noncomputable def rh (K:PySem.W.Frag):V->Option Int->Option Int->Hp->VK->Prop:=λx lo hi H Q=>∃a xs,x=.ref a/\aM K H a xs/\∀p,H p=none->Q (.ref p) (upd H p (.lst (fO xs lo hi)))
theorem dW:zo X (rh X.K):=by
 intro pins s σ H x v vl vu lo hi sl Q I rx hs pl pu h;obtain⟨a,xs,rfl,hx,q⟩:=h
 cases rx
 obtain⟨its,r,ht,hz⟩:=I.list hx;have hlen:=r.length;refine⟨"list",_,slot_list_getitem.lookup,ht.isList.typeIs,?_⟩;refine wpAny_getItem_list_slice ht.isList hs pl pu .none (by simp) ?_ (by rw[List.size_toArray] <;> omega);rw[mn,<-hlen];refine⟨.ref s.heap.objs.size,_,I.laid (t':=s.toks) (o:=.lst (fO xs lo hi)) (λb ob q=>Heap.get?_push_of_some _ q) (Nat.le_refl _) ?_,rfl,q _ (I.hok.fresh (Nat.le_refl _))⟩;exact⟨Nat.le_trans (jz xs lo hi) hz,_,0,(r.drop (HT.df xs.length 0 lo)).take (HT.df xs.length xs.length hi-HT.df xs.length 0 lo),Heap.get?_push_size _ rfl⟩
noncomputable def gH:V->Bool
 | .non=>true
 | .bl _=>true
 | .int _=>true
 | .str _=>true
 |_=>false
noncomputable def vZ:V->V->Bool
 | .non,.non=>true
 | .bl a,.bl b=>a==b
 | .bl a,.int b=>(if a then 1 else 0)==b
 | .int a,.bl b=>a==(if b then 1 else 0)
 | .int a,.int b=>a==b
 | .str a,.str b=>a==b
 |_,_=>false
theorem xF {A:Around}{y:V}{u:Value}(ry:aG y u)(rx:aG x v)(fy:gH y=true)(fx:gH x=true):SeqAt.EqAt A s u v (vZ y x):=by
 cases y with
 |non =>
  cases ry
  cases x with
  |non=>cases rx;exact SeqAt.EqAt.same _
  |bl b=>cases rx;exact SeqAt.EqAt.none_bool b
  |int b=>obtain⟨t,rfl⟩:=rx;exact SeqAt.EqAt.none_int b t
  |str b=>obtain⟨t,rfl⟩:=rx;exact SeqAt.EqAt.none_str b t
  |_=>exact absurd (show false=true from fx) Bool.false_ne_true
 |bl a =>
  cases ry
  cases x with
  |non=>cases rx;exact SeqAt.EqAt.bool_none a
  |bl b=>cases rx;exact SeqAt.EqAt.bool_bool a b
  |int b=>obtain⟨t,rfl⟩:=rx;exact SeqAt.EqAt.bool_int a b t
  |str b=>obtain⟨t,rfl⟩:=rx;exact SeqAt.EqAt.bool_str a b t
  |_=>exact absurd (show false=true from fx) Bool.false_ne_true
 |int a =>
  obtain⟨t',rfl⟩:=ry
  cases x with
  |non=>cases rx;exact SeqAt.EqAt.int_none a t'
  |bl b=>cases rx;exact SeqAt.EqAt.int_bool a t' b
  |int b=>obtain⟨t,rfl⟩:=rx;exact SeqAt.EqAt.int_int a t' b t
  |str b=>obtain⟨t,rfl⟩:=rx;exact SeqAt.EqAt.int_str a t' b t
  |_=>exact absurd (show false=true from fx) Bool.false_ne_true
 |str a =>
  obtain⟨t',rfl⟩:=ry
  cases x with
  |non=>cases rx;exact SeqAt.EqAt.str_none a t'
  |bl b=>cases rx;exact SeqAt.EqAt.str_bool a t' b
  |int b=>obtain⟨t,rfl⟩:=rx;exact SeqAt.EqAt.str_int a t' b t
  |str b=>obtain⟨t,rfl⟩:=rx;exact SeqAt.EqAt.str_str a t' b t
  |_=>exact absurd (show false=true from fx) Bool.false_ne_true
 |_=>exact absurd (show false=true from fy) Bool.false_ne_true
noncomputable def zp (x:V)(u:Value):Bool:=match u with
 | .none=>vZ .non x
 | .bool b=>vZ (.bl b) x
 | .int i _=>vZ (.int i) x
 | .str z _=>vZ (.str z) x
 |_=>false
theorem lF {y:V}{u:Value}(r:aG y u)(f:gH y=true):zp x u=vZ y x:=by
 cases y with
 |non=>cases r;rfl
 |bl b=>cases r;rfl
 |int i=>obtain⟨t,rfl⟩:=r;rfl
 |str z=>obtain⟨t,rfl⟩:=r;rfl
 |_=>exact absurd (show false=true from f) Bool.false_ne_true
theorem oA :∀{xs:List V}{us:oH},aK xs us->xs.all gH=true->us.any (zp x)=xs.any λy=>vZ y x
 |_,_,.nil,_=>rfl
 |y::xs,u::us,.cons r t,f=>by
  rw[List.all_cons,Bool.and_eq_true] at f;rw[List.any_cons,List.any_cons,lF r f.1,oA t f.2]
theorem kj {A:Around}(rx:aG x v)(fx:gH x=true):∀{xs:List V}{us:oH},aK xs us->xs.all gH=true->∀u∈us,SeqAt.EqAt A s u v (zp x u)
 |_,_,.nil,_=>λu hu=>by cases hu
 |y::xs,u::us,.cons r t,f=>λu' hu=>by
  rw[List.all_cons,Bool.and_eq_true] at f
  rcases List.mem_cons.mp hu with rfl|hu
  ·rw[lF r f.1];exact xF r rx f.1 fx
  ·exact kj rx fx t f.2 u' hu
noncomputable def C4 (x:V)(xs:List V):Bool:=xs.any λy=>vZ y x
noncomputable def GB (K:PySem.W.Frag)(neg:Bool):R2:=λx y H Q=>∃p xs,y=.ref p/\(aM K H p xs\/bX K H p xs)/\gH x=true/\xs.all gH=true/\Q (.bl (if neg then !C4 x xs else C4 x xs)) H
theorem n8:dX X (compareOp .NotIn) (GB X.K true):=by
 intro pins s σ H x y v u Q I rx ry h;obtain⟨p,xs,rfl,hq,fx,fs,q⟩:=h
 cases ry
 rcases hq with hq|hq
 ·obtain⟨its,r,pl,hz⟩:=I.list hq;refine SeqAt.notIn_listAt (zp x) pl.isList (λw hw=>kj rx fx r fs w (by simpa using hw)) ⟨.bl _,H,I,rfl,?_⟩;rw[show its.toArray.any (zp x)=its.any (zp x) by simp,oA r fs];exact q
 ·obtain⟨its,r,pl,hz⟩:=I.tuple hq;refine SeqAt.notIn_tupleAt (zp x) pl (λw hw=>kj rx fx r fs w (by simpa using hw)) ⟨.bl _,H,I,rfl,?_⟩;rw[show its.toArray.any (zp x)=its.any (zp x) by simp,oA r fs];exact q
theorem bp:cb X (.builtin "len") (λxs H Q=>∃p ys,xs=[.ref p]/\(aM X.K H p ys\/bX X.K H p ys)/\Q (.int ys.length) H):=by
 intro pins s σ H xs us Q I r h;obtain⟨p,ys,rfl,hq,q⟩:=h;obtain⟨u,rfl,rx⟩:=dS r
 cases rx
 have hn:=ke
 rcases hq with hq|hq
 ·obtain⟨its,r',pl,hz⟩:=I.list hq;have hlen:=r'.length;exact Calls.call_len_list pl.isList (by simp only[List.size_toArray] <;> omega) ⟨.int ys.length,H,I.tok _,⟨s.toks+1,by rw[List.size_toArray,hlen]⟩,q⟩
 ·obtain⟨its,r',pl,hz⟩:=I.tuple hq;have hlen:=r'.length;exact len_tuple pl (by simp only[List.size_toArray] <;> omega) ⟨.int ys.length,H,I.tok _,⟨s.toks+1,by rw[List.size_toArray,hlen]⟩,q⟩
theorem bO:cb X (.type "list") (λxs H Q=>∃p ys,xs=[.ref p]/\(aM X.K H p ys\/bX X.K H p ys)/\∀l,H l=none->Q (.ref l) (upd H l (.lst ys))):=by
 intro pins s σ H xs us Q I r h;obtain⟨p,ys,rfl,hq,q⟩:=h;obtain⟨u,rfl,rx⟩:=dS r
 cases rx
 have fin:∀(its:oH),aK ys its->ys.length<=sizeLine->∀(h':Heap)(c':Nat),(∀b o',s.heap.get? b=some o'->h'.get? b=some o') →
  h'.get? s.heap.objs.size=some {cls:=.type "list",dict:=none,data:=.seq its.toArray c',slots:=#[]}->EP X pins σ Q (.ref s.heap.objs.size) {s with heap:=h'}:=λits r' hz h' c' kp e =>
  ⟨.ref s.heap.objs.size,_,I.laid (t':=s.toks) kp (Nat.le_refl _) (show ba X.prog X.w _ h' _ (.lst ys) from⟨hz,its,c',r',e⟩),rfl,q _ (I.hok.fresh (Nat.le_refl _))⟩
 rcases hq with hq|hq
 ·obtain⟨its,r',pl,hz⟩:=I.list hq;have hlen:=r'.length;obtain⟨o,ho,hc,n,hd⟩:=pl.isList;exact call_list_seq p (.inl rfl) ho hc hd (λh' c' kp e=>fin its r' hz h' c' kp e) (by simp only[List.size_toArray] <;> omega)
 ·obtain⟨its,r',pl,hz⟩:=I.tuple hq;have hlen:=r'.length;obtain⟨o,ho,hc,n,hd⟩:=pl;exact call_list_seq p (.inr rfl) ho hc hd (λh' c' kp e=>fin its r' hz h' c' kp e) (by simp only[List.size_toArray] <;> omega)
theorem hU:cb X (.type "tuple") (λxs H Q=>∃p ys,xs=[.ref p]/\((aM X.K H p ys/\∀l,H l=none->Q (.ref l) (upd H l (.tup ys)))\/(bX X.K H p ys/\Q (.ref p) H))):=by
 intro pins s σ H xs us Q I r h;obtain⟨p,ys,rfl,h⟩:=h;obtain⟨u,rfl,rx⟩:=dS r
 cases rx
 rcases h with⟨hq,q⟩|⟨hq,q⟩
 ·obtain⟨its,r',pl,hz⟩:=I.list hq;have hlen:=r'.length;refine call_tuple_list pl.isList (λh' kp=>?_) (by simp only[List.size_toArray] <;> omega);have I1:Inv X pins σ H {s with heap:=h'}:=I.kept (t':=s.toks) kp
  have I2:Inv X pins σ (upd H h'.objs.size (.tup ys)) {s with heap:=h'.push {cls:=.type "tuple",data:=.seq its.toArray} }:=
   I1.laid (t':=s.toks) (λb o e=>Heap.get?_push_of_some _ e) (Nat.le_refl _) (show ba X.prog X.w _ _ _ (.tup ys) from⟨hz,its,r',IsTup.new _ _⟩)
  exact⟨.ref h'.objs.size,_,I2,rfl,q _ (I1.hok.fresh (Nat.le_refl _))⟩
 ·obtain⟨its,r',pl,hz⟩:=I.tuple hq;exact call_tuple_same pl ⟨.ref p,H,I,rfl,q⟩
noncomputable def Gb (K:PySem.W.Frag)(T:String)(x:V)(H:Hp):Prop:=match x with
 | .str _=>T="str"
 | .int _=>T="int"
 | .ref p=>(T="list"/\∃xs,aM K H p xs)\/(T="tuple"/\∃o,K.lookup p=some o/\o.cls=.type "tuple"/\o.dict=none) \/
  (T="dict"/\((∃GK,H p=some (.dK GK))\/∃GK,H p=some (.dT GK)))\/(T="set"/\∃S n,H p=some (.set S n))
 |_=>False
theorem BV {T:String}(I:Inv X pins σ H s)(r:aG x v)(ty:Gb X.K T x H):
 s.TypeIs v T/\∀a,v=.ref a->∃ob,s.heap.get? a=some ob/\ob.dict=none:=by
 cases x with
 |str z =>
  obtain⟨t,rfl⟩:=r
  cases(show T="str" from ty)
  exact⟨typeIs_str s z t,λ_ e=>nomatch e⟩
 |int i =>
  obtain⟨t,rfl⟩:=r
  cases(show T="int" from ty)
  exact⟨typeIs_int s i t,λ_ e=>nomatch e⟩
 |ref p =>
  cases r
  rcases ty with⟨rfl,xs,hq⟩|⟨rfl,o,hk,hc,hd⟩|⟨rfl,hk⟩|⟨rfl,S,n,hk⟩
  ·obtain⟨its,_,pl,_⟩:=I.list hq;refine⟨pl.isList.typeIs,λa e=>?_⟩
   cases e
   obtain⟨o,n,e,c,hd,_⟩:=pl;exact⟨o,e,hd⟩
  ·refine⟨⟨o,I.kIn p o hk,hc⟩,λa e=>?_⟩
   cases e
   exact⟨o,I.kIn _ o hk,hd⟩
  ·have z:∃o,s.heap.get? p=some o/\o.ExactDict:=by
    rcases hk with⟨GK,hk⟩|⟨GK,hk⟩
    ·obtain⟨_,_,_,_,o,_,_,e,ex,_⟩:=I.hok p _ hk;exact⟨o,e,ex⟩
    ·obtain⟨_,_,_,_,o,_,_,e,ex,_⟩:=I.hok p _ hk;exact⟨o,e,ex⟩
   obtain⟨o,e,ex⟩:=z;refine⟨⟨o,e,ex.1⟩,λa e2=>?_⟩
   cases e2
   exact⟨o,e,ex.2.1⟩
  ·obtain⟨o,_,_,_,e,ex,_⟩:=I.hok p _ hk;refine⟨⟨o,e,ex.1⟩,λa e2=>?_⟩
   cases e2
   exact⟨o,e,ex.2.1⟩
 |_=>exact False.elim ty
noncomputable def EW (K:PySem.W.Frag)(T:String)(r:V->List V->Hp->VK->Prop)(to:TE)(t:TA):TE:=λσ H Q=>to σ H λx H1=>Gb K T x H1/\t σ H1 λxs H2=>r x xs H2 Q
variable {o e:Expr}{es:Bl}{to:TE}{t:TA}{name:Str}{apos HP:Pos}{T id:String}{r:V->List V->Hp->VK->Prop}
theorem gm (pa:PlainAttrs T)(slot:Slot T name id)(hty:typeOf (.builtin id)=pure (.type "method_descriptor"))(hm:Dh X id r)(ho:PE X o to)(ha:PA X (e::es) t)
 (JJ:attributeBase o name X.env (eval o X.env)=eval o X.env:=by rfl)
 (TB:((backTo HP (starEach (e::es) X.env)).all (λx=>!x.1)&&(backToKw HP (keywordEach [] X.env)).all (λx=>x.1.isSome)
  && decide ((e::es).length+([]:List Keyword).length+(if([]:List Keyword).isEmpty then 0 else 1)<30))=true:=by rfl)
 (JK:(apos.endLine==HP.line)=true:=by rfl)(hs:starEach (e::es) X.env=(false,eval e X.env):: starEach es X.env:=by rfl)(LC:(backTo HP (starEach es X.env)).any (·.1)=false:=by rfl):
 PE X (.Call (.Attribute o name apos) (e::es) [] HP) (EW X.K T r to t):=by
 intro pins s σ H Q I h;refine wpAny_Call_method_late JJ TB JK rfl (bA (ho pins s σ H _ I h) λv s1 z'=>?_);obtain⟨x,H1,I1,r1,ty,q1⟩:=z';obtain⟨h1,h2⟩:=BV I1 r1 ty;refine⟨T,id,pa,slot,hty,h1,h2,?_⟩;have hA:=ha HP pins s1 σ H1 _ I1 q1;rw[hs] at hA |-;refine Calls.callWith_builtin (by show(false || (backTo HP (starEach es X.env)).any (·.1))=false;rw[LC] <;> rfl) (Calls.evalArgs_plain ?_);exact bA hA λus s2 ⟨vs,H2,I2,r2,q2⟩=>hm pins s2 σ H2 x vs v us Q I2 r1 r2 q2
/- xs.append(e),list.index on a N0 tuple .. are Dh facts of 06m -/
end
noncomputable def GG (X:Cx)(id:String)(r:V->List V->Hp->VK->Prop):Prop :=
 ∀(pins:List (Addr×Obj))(s:GH)(σ:St)(H:Hp)(x:V)(xs:List V)(v:Value)(us:oH)(Q:VK),Inv X pins σ H s->aG x v->aK xs us->r x xs H Q →
  wpAny (model X.prog X.w) X.A (call (.builtin id) (v::us)) (EP X pins σ Q) X.xe s
theorem aK.one:∀{x:V}{us:oH},aK [x] us->∃u,us=[u]/\aG x u
 |_,_,.cons r .nil=>⟨_,rfl,r⟩
theorem aK.rep {us:oH}(h:aK xs us):∀k:Nat,aK (List.replicate k xs).flatten (List.replicate k us).flatten
 |0=>.nil
 |k+1=>by
  rw[List.replicate_succ,List.replicate_succ,List.flatten_cons,List.flatten_cons];exact aK.append h (aK.rep h k)
theorem nv (its:oH):∀(k:Nat)(acc:oH),
 List.foldl (λx1 x2=>x1++x2) acc.toArray (List.replicate k its.toArray)=(acc++(List.replicate k its).flatten).toArray
 |0,acc=>by simp
 |k+1,acc=>by
  have e:acc.toArray++its.toArray=(acc++its).toArray:=by simp
  have e2:(acc++its)++(List.replicate k its).flatten=acc++(List.replicate (k+1) its).flatten:=by
   rw[List.replicate_succ,List.flatten_cons,List.append_assoc]
  rw[<-e2,<-nv its k (acc++its),<-e,List.replicate_succ,List.foldl_cons]
section
variable {X:Cx}{pins:List (Addr×Obj)}{σ:St}{H:Hp}{s:GH}{l b:Addr}{xs ys zs:List V}
theorem Inv.acV {its its':oH}{f:Array Value->Array Value}{t':Nat}(I:Inv X pins σ H s)(hH:H l=some (.lst xs))
 (e:s.heap.get? l=some {cls:=.type "list",data:=.seq its.toArray n})(hf:f its.toArray=its'.toArray)(hv:aK ys its')(hz:ys.length<=sizeLine):
 Inv X pins σ (upd H l (.lst ys)) {s with heap:=s.heap.update l (Obj.mapSeq f),toks:=t'}:=by
 have q:=PySem.IsL.update e f;rw[hf] at q;refine I.write (x:=l) (e:=l) (by rw[hH];exact trivial) (.inl rfl) (λb' u hb hu=>(Heap.get?_update_other s.heap (Obj.mapSeq f) (Ne.symm hb)).trans hu) ⟨_,q⟩ ?_;exact⟨hz,its',_,hv,q⟩
theorem Inv.acF {its:oH}{t':Nat}(I:Inv X pins σ H s)(hv:aK ys its)(hz:ys.length<=sizeLine):
 Inv X pins σ (upd H s.heap.objs.size (.lst ys)) {s with heap:=s.heap.push {cls:=.type "list",data:=.seq its.toArray},toks:=t'}:=
 I.laid (λ_ _ q=>Heap.get?_push_of_some _ q) (Nat.le_refl _) ⟨hz,its,0,hv,Heap.get?_push_size _ rfl⟩
theorem Inv.fresh (I:Inv X pins σ H s):H s.heap.objs.size=none:=I.hok.fresh (Nat.le_refl _)
theorem Inv.aaP (I:Inv X pins σ H s)(hH:H l=some (.lst xs)):xs.length<=sizeLine/\∃(its:oH)(n:Nat),aK xs its/\xs.length=its.length/\s.heap.get? l=some {cls:=.type "list",data:=.seq its.toArray n}:=by
 obtain⟨z,its,n,r,e⟩:=I.hok l _ hH;exact⟨z,its,n,r,r.length,e⟩
theorem v9 (h:n<=sizeLine):Builtin.List.listTooLong n=false:=by
 unfold Builtin.List.listTooLong;exact decide_eq_false (by omega)
end
section
variable {X:Cx}
noncomputable def ack:V->List V->Hp->VK->Prop:=λx vs H Q=>∃l xs y,x=.ref l/\vs=[y]/\H l=some (.lst xs)/\xs.length<sizeLine/\Q .non (upd H l (.lst (xs++[y])))
theorem dZ:GG X "list.append" ack:=by
 intro pins s σ H x vs v us Q I rx rv h;obtain⟨l,xs,y,rfl,rfl,hH,hz,q⟩:=h
 cases rx
 obtain⟨u,rfl,ru⟩:=rv.one;obtain⟨z,its,n,r,hl,e⟩:=I.aaP hH;refine call_meets F.slot_list_append ⟨_,e,rfl⟩ F.entry_list_append (F.args_list_append_2 _ _) (PySem.list_append l its.toArray n u (by rw[List.size_toArray];omega)) ⟨e,?_⟩;refine⟨.non,_,I.acV (its':=its++[u]) hH e (by simp) (r.append (.cons ru .nil)) ?_,rfl,q⟩;rw[List.length_append,List.length_singleton];omega
noncomputable def xt:R2:=λx y H Q=>∃l b xs zs,x=.ref l/\y=.ref b/\H l=some (.lst xs)/\H b=some (.lst zs)/\xs.length+zs.length<=sizeLine/\∀p,H p=none->Q (.ref p) (upd H p (.lst (xs++zs)))
theorem yH:dX X (binaryOp .Add) xt:=by
 intro pins s σ H x y v u Q I rx ry h;obtain⟨l,b,xs,zs,rfl,rfl,hH,hB,hz,q⟩:=h
 cases rx
 cases ry
 obtain⟨z,its,n,r,hl,e⟩:=I.aaP hH;obtain⟨z2,GR,n2,r2,Ia,e2⟩:=I.aaP hB;refine PySem.P.add_list e e2 ?_ (by rw[List.size_toArray,List.size_toArray];omega)
 have ea:its.toArray++GR.toArray=(its++GR).toArray:=by simp
 rw[ea];exact⟨.ref _,_,I.acF (t':=s.toks) (r.append r2) (by rw[List.length_append];omega),rfl,q _ I.fresh⟩
noncomputable def ac8:R2:=λx y H Q=>∃l k xs,x=.ref l/\y=.int k/\H l=some (.lst xs)/\-(2^63)<=k/\k<2^63/\xs.length*k.toNat<=sizeLine /\
 ∀p,H p=none->Q (.ref p) (upd H p (.lst (List.replicate k.toNat xs).flatten))
theorem ui {α:Type}(xs:List α)(k:Nat):(List.replicate k xs).flatten.length=k*xs.length:=by
 induction k with
 |zero=>simp
 |succ k ih=>rw[List.replicate_succ,List.flatten_cons,List.length_append,ih,Nat.succ_mul,Nat.add_comm]
theorem oJ:dX X (binaryOp .Mult) ac8:=by
 intro pins s σ H x y v u Q I rx ry h;obtain⟨l,k,xs,rfl,rfl,hH,h1,h2,hz,q⟩:=h
 cases rx
 obtain⟨t,rfl⟩:=ry;obtain⟨z,its,n,r,hl,e⟩:=I.aaP hH
 have hlen:its.toArray.size*k.toNat<=sizeLine:=by rw[List.size_toArray,<-hl];exact hz
 have TC:¬its.toArray.size*k.toNat>(2^63-1)/8:=by
  have:(sizeLine:Nat)<=(2^63-1)/8:=by decide
  omega
 have TF:¬(!Builtin.List.listFitsIndex k)=true:=by
  rw[fitsIndex_both h1 h2];exact Bool.false_ne_true
 have N3:¬Builtin.List.listTooLong (its.toArray.size*k.toNat)=true:=by
  rw[v9 hlen];exact Bool.false_ne_true
 have TH:List.foldl (λx1 x2=>x1++x2) #[] (List.replicate (if its.toArray.isEmpty=true then 0 else k.toNat) its.toArray)=(List.replicate k.toNat its).flatten.toArray:=by
  have f0:∀m:Nat,List.foldl (λx1 x2=>x1++x2) #[] (List.replicate m its.toArray)=(List.replicate m its).flatten.toArray:=λm=>by
   have:=nv its m [];rw[List.nil_append] at this;exact this
  rw[f0]
  cases its with
  |nil=>simp
  |cons a r'=>rw[if_neg (by simp)]
 refine wpAny_binaryOp_repeat_ref (T:="list") (U:="int") (by decide) ⟨_,e,rfl⟩ (λs'=>typeIs_int s' k t) noFill_list_mul F.fills_int_mul F.slot_int_rmul repeat_list F.slot_int_index.lookup
  (call_meets F.slot_int_rmul (typeIs_int s k t) F.entry_int_rmul (F.args_int_rmul_2 _ _) (int___rmul___int_list k t l its.toArray n)
   ⟨e,rfl,⟨_,e,rfl⟩,call_meets F.slot_list_mul ⟨_,e,rfl⟩ F.entry_list_mul (F.args_list_mul_2 _ _) (AutoListH.list___mul___list_int_3 l its.toArray n k t TF TC N3) ⟨e,?_⟩⟩)
 rw[TH];exact⟨.ref _,_,I.acF (t':=s.toks) (r.rep k.toNat) (by rw[ui,Nat.mul_comm];exact hz),rfl,q _ I.fresh⟩
end
end L2
namespace Yj
open PySem PySem.W PySem.Calls PyProof.Rows
theorem jD {P:Params}{h:Heap}:∀(ns:List Int)(vs:oH),WellAll P h vs (ns.map WData.int)->IntsAre vs ns:=by
 intro ns
 induction ns with
 |nil =>
  intro vs w;rw[List.map_nil] at w
  cases w
  exact .nil
 |cons n ns ih =>
  intro vs w;rw[List.map_cons] at w
  cases w with
  |cons a b =>
   cases a
   exact .cons _ _ (ih _ b)
theorem vc {l:OpenLaw}{n:Nat}(hn:l.most=some n){P:Params}{h:Heap}{args:List WData}{vals:oH}
 (Kj:l.row.toRowW.claim.pre args=true)(TJ:WellAll P h vals args):
 ∃a vs ns,vals=[Value.ref a]/\args=[WData.list (ns.map WData.int)]/\h.get? a=some {cls:=.type "list",data:=.seq vs.toArray}/\IntsAre vs ns/\ns.length<=n:=by
 have hsh:WShape.hasAll [] args [.list .int]=true:=(pre_splitW Kj).1;have hc:l.pre.holds [] {args:=args}=true:=(pre_splitW Kj).2;obtain⟨d,r,rfl,h1,h2⟩:=hasAllW_cons hsh;obtain rfl:=hasAllW_nil h2;obtain⟨xs,rfl,h3⟩:=hasW_list h1;obtain⟨ns,rfl⟩:=items_int h3
 have hlen:ns.length<=n:=by
  unfold OpenLaw.pre at hc
  have h4:(WTm.not (.lt (.lit (.int (n:Int))) (.len (.arg 0)))).holds [] {args:=[.list (ns.map .int)]}=true:=by
   have h4:=(holds_andW hc).1;rw[hn] at h4;exact h4
  have h5:=condW_of h4 (w_not (w_lt w_lit (w_len_list (w_arg rfl))));rw[List.length_map] at h5;refine Nat.le_of_not_lt λq=>?_
  have q':(n:Int)<((ns.length:Nat):Int):=by omega
  first
   |(rw[decide_eq_true q'] at h5;exact absurd h5 (by decide))
   |(simp at h5;omega)
 cases TJ with
 |cons w1 w2 =>
  cases w2
  cases w1 with
  |list ho Ja=>exact⟨_,_,ns,rfl,rfl,ho,jD ns _ Ja,hlen⟩
theorem vf (l:OpenLaw)(args:List WData):l.row.toRowW.claim.post args (.bool true) args=true :=
 postW_of (r:=l.row.toRowW) (X:=(true==true))
  (show WShape.has [] (.bool true) .bool=true by first|rfl|decide|simp[WShape.has,WShape.arms,WShape.armsAll])
  (show(WTm.eq .res (.lit (.bool true))).value [] {args:=args,res:=some (.bool true),after:=args}=some (.bool (true==true)) from w_eq_bool (w_res rfl) w_lit) rfl
theorem pI {l:OpenLaw}{n:Nat}{q:wM}{loose:xQ}{XP:(Str->Option Value)->Heap->Prop}{YP:World->Heap->Prop}{d:DefRec}
 (hn:l.most=some n)(N4:d.params.defaults=[])
 (call:∀(w:World)(s₀ s₁:GH)(mg mb:vJ)(fa:Addr)(o:Obj)(pm cd doc:Value)(a:Addr)(vs:oH)(ns:List Int),
  Ground q loose [] XP w s₀ mg mb s₁.heap->YP w s₁.heap →
  s₁.heap.get? fa=some o->o.data=.func (docDef d.name d.params d.body d.scope pm cd doc)->s₁.heap.CodeRec cd d.name->mg d.name=some (.ref fa) →
  s₁.heap.get? a=some {cls:=.type "list",data:=.seq vs.toArray}->IntsAre vs ns->ns.length<=n->s₁.gens = #[] →
  codeAny (model l.prog w) callerA (.call (.ref fa) ⟨[.ref a],[]⟩) (λr s'=>r=.ok (.ret (.bool true))/\OldK s₁.heap s'.heap/\s'.os=s₁.os/\AllBare s'.gens) s₁):
 WalkO q loose XP YP l.row.toRowW d [] (λf vs=>PySem.call f vs):=by
 intro w s₀ s₁ mg mb G Y fa o pm cd doc dV kV ho hd HB hD TK hg args vals as Kj abG hrd TJ hlo;obtain rfl:dV=.none:=Dflts.none hD N4;obtain rfl:kV=.none:=Dflts.noKw hD;obtain⟨a,vs,ns,rfl,rfl,LD,hints,hlen⟩:=vc hn Kj TJ;refine enter_call (codeAny_mono (call w s₀ s₁ mg mb fa o pm cd doc a vs ns G Y ho (fd_plain hd) HB TK LD hints hlen hg) λr s' hq=>?_);obtain⟨rfl,h2,h3,h4⟩:=hq;exact⟨.inl ⟨.bool true,.bool true,[],rfl,λ_=>rfl,.bool true,vf l _,λ_=>⟨List.Pairwise.nil,λ_ hm=>(nomatch hm)⟩⟩,h2,h3,h4⟩
end Yj
namespace L2
open PySem PySem.Spec PyProof.Rows
theorem mX:∀{vs:oH}{ns:List Int},IntsAre vs ns->aK (ns.map V.int) vs
 |_,_,.nil=>.nil
 |_,_,.cons n t h=>.cons ⟨t,rfl⟩ (mX h)
structure E6 (K:PySem.W.Frag)(x qual:Str)(st:Stmt)(f:Addr)(fd:GF):Prop where
 ex:∃(oc:Value)(od:p5)(kV doc pm:Value)(an:p5)(GL ct:Value)(GZ:Ff),
  fd=PySem.W.fnOf x qual (cP st) (cu st) (ar st) .none kV doc pm an GL ct/\K.lookup f=some ⟨oc,od,.func fd,GZ⟩/\PySem.W.codeIn K GL qual=true
 kp:PySem.W.keepIn K (.ref f)=true
variable {x qual:Str}{st:Stmt}{f:Addr}{fd:GF}{ps:xQ}
section
variable {P:wM}{w:World}{K:PySem.W.Frag}{mg:vJ}{base:Heap}
theorem E6.binds (F:E6 K x qual st f fd)
 (h:∀(kV doc pm:Value)(an:p5)(GL ct:Value)(us:oH),us.length=ps.length->bindArgs (PySem.W.fnOf x qual (cP st) (cu st) (ar st) .none kV doc pm an GL ct) ⟨us,[]⟩=pure (ps.zip us)):aI K fd ps []:=by
 obtain⟨oc,od,kV,doc,pm,an,GL,ct,GZ,rfl,lk,HB⟩:=F.ex;exact .all (h kV doc pm an GL ct)
theorem Ct {oc:Value}{od an:p5}{GZ:Ff}{kV doc pm GL ct:Value}(l:K.lookup f=some ⟨oc,od,.func (PySem.W.fnOf x qual (cP st) (cu st) (ar st) .none kV doc pm an GL ct),GZ⟩)
 (c:PySem.W.codeIn K GL qual=true)(k:PySem.W.keepIn K (.ref f)=true):E6 K x qual st f (PySem.W.fnOf x qual (cP st) (cu st) (ar st) .none kV doc pm an GL ct):=⟨⟨oc,od,kV,doc,pm,an,GL,ct,GZ,rfl,l,c⟩,k⟩
end
theorem u4 {n:Nat}(h:n<=1000):n<sizeLine:=Nat.lt_of_le_of_lt h (by decide)
section
variable {X:Cx}
theorem pv (i:Nat){pos:Pos}(hN:X.N[i]?=some x:=by rfl)(hv:EI X.env.scope x:=by first|exact Or.inl rfl|exact Or.inr (Or.inl rfl)|exact Or.inr (Or.inr rfl))(hd:(x==("__debug__":Str))=false:=by decide)
 (HB:(x==("__classdict__":Str))=false:=by decide):PE X (.Name x pos) (dY i):=Sh0 hN hv hd HB
end
theorem aS {A B:Prop}(h:B):if false=true then A else B:=by
 rw[if_neg Bool.false_ne_true];exact h
theorem aZ {A B:Prop}(h:A):if true=true then A else B:=by
 rw[if_pos rfl];exact h
theorem cT {c A B:Prop} [Decidable c](h1:c->A)(h2:¬c->B):if c then A else B:=by
 by_cases h:c
 ·rw[if_pos h];exact h1 h
 ·rw[if_neg h];exact h2 h
noncomputable def au (H H':Hp):Prop:=∀b o,H b=some o->H' b=some o
theorem au.refl (H:Hp):au H H:=λ_ _ h=>h
variable {H:Hp}
theorem au.trans {H1 H2:Hp}(a:au H H1)(b:au H1 H2):au H H2:=λc o h=>b c o (a c o h)
variable {P:wM}{w:World}{h:Heap}{a:Addr}
theorem d8 {o:HO}(x:gk P w H h)(hn:H a=none)(new:ba P w (upd H a o) h a o):gk P w (upd H a o) h:=λb u e=>by
 by_cases hb:b=a
 ·subst hb;rw[ae] at e;cases e;exact new
 ·rw[aq hb] at e
  exact(x b u e).abw (λc v _ q=>q) (λc q=>by rw[aq (av q hn)];exact q) λc xs q=>by rw[aq (av q hn)];exact q
variable {env:Env}
section
variable {prog:wM}{w:World}{A:Around}{R:Result->Shared->Prop}{s:GH}
theorem oy {elt target iter:Expr}{ifs:Bl}{scope:Scope}{pos:Pos}{it acc:Value}(I:Nat->Shared->Prop)
 (turn:∀n s,I n s->wpAny (model prog w) A (pyNext it) (λr s₁=>match r with
  |none=>R (.ok .next) s₁
  |some v=>wpAny (model prog w) A (letOwnedTupleGo target it v) (λ_ s₁=>wpAny (model prog w) A (assign target env v) (λ_ s₂ =>
   wpAny (model prog w) A (forIn ifs true λc r=>if r=true then do let ok <-isTrue c env (eval c env);pure (ForInStep.yield ok) else pure (ForInStep.yield r)) (λok s₃ =>
    if ok=true then wpAny (model prog w) A (eval elt env) (λx s₄ =>
     wpAny (model prog w) A (call (.builtin "list.append") [acc,x]) (λ_ s₅=>∃m,m<n/\I m s₅) (λ_ _=>False) s₄) (λ_ _=>False) s₃
    else ∃m,m<n/\I m s₃) (λ_ _=>False) s₂) (λ_ _=>False) s₁) (λ_ _=>False) s₁) (λ_ _=>False) s)
 (n:Nat)(h:I n s):
 codeAny (model prog w) A (.compLoop (.ListComp elt [⟨target,iter,ifs,0⟩] scope pos) 0 it acc env) R s:=by
 refine codeAny_loop rfl I (λn s hI=>?_) n h;show wpAny _ A ((compTurn (.ListComp elt [⟨target,iter,ifs,0⟩] scope pos) 0 it acc env).onRaise (λx=>do noteFrame x env;theTreesLotGoes x)) _ _ s;refine wpAny_noted ?_;rw[compTurn_list];refine wpAny_bind (wpAny_standAt (wpAny_bind (wpAny_mono (turn n s hI) (λr s₁ h₁=>?_) λ_ _ z=>False.elim z)))
 cases r with
 |none=>exact wpAny_pure h₁
 |some v =>
  refine wpAny_bind (wpAny_mono h₁ (λ_ s₁' h₁'=>?_) λ_ _ z=>False.elim z);refine wpAny_bind (wpAny_mono h₁' (λ_ s₂ h₂=>wpAny_bind (wpAny_mono h₂ (λok s₃ h₃=>?_) λ_ _ z=>False.elim z)) λ_ _ z=>False.elim z)
  cases ok with
  |false=>exact wpAny_pure ⟨rfl,h₃⟩
  |true =>
   exact wpAny_bind (wpAny_bind (wpAny_mono h₃ (λx s₄ h₄=>wpAny_bind (wpAny_mono h₄ (λ_ s₅ h₅=>wpAny_pure (wpAny_pure ⟨rfl,h₅⟩)) λ_ _ z=>False.elim z)) λ_ _ z=>False.elim z))
end
noncomputable def gG (names:List (Str×NameKind))(env:Env):List (Str×Addr):=((names.filter λx=>x.2 == .free).map λx=>(x.1,(env.cells.lookup x.1).getD 0)).reverse
theorem ml {scope:Scope}(h:∀x∈scope.names,x.2=.free->∃c,env.cells.lookup x.1=some c):closureFor scope env=pure (gG scope.names env):=by
 have key:∀(names:List (Str×NameKind))(cs:List (Str×Addr)),(∀x∈names,x.2=.free->∃c,env.cells.lookup x.1=some c) →
  (forIn names cs (λ(x:Str×NameKind)(r:List (Str×Addr))=>if(x.2==NameKind.free)=true then(do let a <-cellOf env x.1;pure (ForInStep.yield ((x.1,a):: r))) else pure (ForInStep.yield r)):Sem (List (Str×Addr)))=pure (gG names env++cs):=by
  intro names
  induction names with
  |nil=>intro cs _;rfl
  |cons x r ih =>
   intro cs hn;rw[List.forIn_cons];obtain⟨n,k⟩:=x
   by_cases hk:k=.free
   ·subst hk;obtain⟨c,hc⟩:=hn (n,.free) List.mem_cons_self rfl
    have hco:cellOf env n=pure c:=by unfold cellOf;rw[hc]
    simp only[beq_self_eq_true,if_true,hco,pure_bind];rw[ih _ λy hy=>hn y (List.mem_cons_of_mem _ hy)];simp[gG,hc]
   ·have hb:(k==NameKind.free)=false:=by simpa using hk
    simp only[hb,Bool.false_eq_true,if_false,pure_bind];rw[ih _ λy hy=>hn y (List.mem_cons_of_mem _ hy)];simp[gG,hb]
 have z:=key scope.names [] h;rw[List.append_nil] at z;unfold closureFor
 first
  |exact z
  |(simp only[bind_pure];exact z)
  |(simp;exact z)
theorem pV {names:List (Str×NameKind)}(h:∀x∈names,x.2=.free->∃c,env.cells.lookup x.1=some c){c:Addr}(e:(gG names env).lookup x=some c):env.cells.lookup x=some c:=by
 have m:=PySem.mem_of_lookup e;unfold gG at m;rw[List.mem_reverse,List.mem_map] at m;obtain⟨y,hy,e'⟩:=m;rw[List.mem_filter] at hy;obtain⟨c',HD⟩:=h y hy.1 (by simpa using hy.2);rw[HD] at e'
 injection e' with e1 e2
 subst e1;rw[HD];exact congrArg some e2
theorem qi {names:List (Str×NameKind)}{env:Env}(hm:(x,NameKind.free)∈names):∃c,(gG names env).lookup x=some c:=by
 have m:∃c,(x,c)∈gG names env:=⟨(env.cells.lookup x).getD 0,by
  unfold gG;rw[List.mem_reverse,List.mem_map]
  exact⟨(x,.free),List.mem_filter.mpr ⟨hm,rfl⟩,rfl⟩⟩
 obtain⟨c,m⟩:=m
 cases q:(gG names env).lookup x with
 |some d=>exact⟨d,rfl⟩
 |none =>
  exfalso
  have:∀(l:List (Str×Addr)),(x,c)∈l->l.lookup x≠none:=by
   intro l
   induction l with
   |nil=>intro h;cases h
   |cons p r ih =>
    intro h;rw[List.lookup_cons]
    rcases List.mem_cons.mp h with h|h
    ·subst h;simp
    ·split
     ·simp
     ·exact ih h
  exact this _ m q
noncomputable def iD (X:Cx)(N:xQ)(scope:Scope)(C:Addr)(fp:List Addr)(s:GH)(H:Hp):Cx where
 prog:=X.prog
 w:=X.w
 K:=X.K
 mg:=X.mg
 base:=X.base
 A:=X.A
 N:=N
 s₀:=s
 H₀:=H
 env:=compEnvC scope (gG scope.names X.env) C X.env
 outer:=X.stack
 stack:=X.stack
 ex:=fp
 fn:=λ_=>false
 calm:=X.calm
 pn:=[]
 xe:=λ_ _=>False
noncomputable def σC (nl:Nat)(js:List Nat)(σ:St):St:=List.replicate nl none++js.map λj=>(σ[j]?).join
structure xN (X:Cx)(N:xQ)(nl:Nat)(js:List Nat)(osc scope:Scope):Prop where
 out:X.env.scope=osc
 kind:scope.kind=.function
 cell:∀y∈scope.names,y.2≠.cell
 names:∀y∈scope.names,y.2=.local->scope.names.lookup y.1=some .local
 free:∀y∈scope.names,y.2=.free->osc.names.lookup y.1=some .cell\/osc.names.lookup y.1=some .free
 len:N.length=nl+js.length
 src:Paired (λj x=>X.N[j]?=some x/\(x,NameKind.free)∈scope.names) js (N.drop nl)
 ac9:∀y∈scope.names,y.2=.free->scope.names.lookup y.1≠some .local
theorem gb {env:Env}:∀{names:List (Str×NameKind)}{x:Str}{k:NameKind},(∀y∈names,y.2≠.cell) →
 (names.map λ(n,k)=>if(k==NameKind.free&&env.scope.kind == .function&&env.kindOf n==some .cell) then(n,NameKind.cell) else(n,k)).lookup x=some k->(k=.cell\/k=.free)->(x,NameKind.free)∈names
 |[],_,_,_,h,_=>by simp at h
 |(n,k0):: r,x,k,hc,h,hk=>by
  have h:List.lookup x ((if(k0==NameKind.free&&env.scope.kind == .function&&env.kindOf n==some .cell)=true then(n,NameKind.cell) else(n,k0)):: r.map λ(n,k)=>if(k==NameKind.free&&env.scope.kind == .function&&env.kindOf n==some .cell) then(n,NameKind.cell) else(n,k))=some k:=h;have ih:=@gb env r x k λy hy=>hc y (List.mem_cons_of_mem _ hy)
  by_cases hx:x=n
  ·subst hx
   have HQ:k0=.free:=by
    by_cases hb:(k0==NameKind.free&&env.scope.kind == .function&&env.kindOf x==some .cell)=true
    ·have:=(Bool.and_eq_true_iff.mp (Bool.and_eq_true_iff.mp hb).1).1;simpa using this
    ·rw[if_neg hb] at h;simp only[List.lookup_cons,beq_self_eq_true] at h;have e:k0=k:=Option.some.inj h
     rcases hk with z|z
     ·exact absurd (e.trans z) (hc (x,k0) List.mem_cons_self)
     ·exact e.trans z
   subst HQ;exact List.mem_cons_self
  ·have hb:(x==n)=false:=by simpa using hx
   refine List.mem_cons_of_mem _ (ih ?_ hk)
   by_cases HD:(k0==NameKind.free&&env.scope.kind == .function&&env.kindOf n==some .cell)=true
   ·rw[if_pos HD] at h;simp only[List.lookup_cons,hb] at h;exact h
   ·rw[if_neg HD] at h;simp only[List.lookup_cons,hb] at h;exact h
variable {pins:List (Addr×Obj)}{σ:St}{s:GH}{C:Addr}{g:TG}{tt:TT}{te:TE}
section
variable {X:Cx}{tg iter elt:Expr}{ifs:Bl}{scope osc:Scope}{pos:Pos}{N:xQ}{nl:Nat}{js:List Nat}
noncomputable def DC (X:Cx)(ifs:Bl)(t:TT):Prop :=
 ∀(pins:List (Addr×Obj))(s:GH)(σ:St)(H:Hp)(Q:Bool->Hp->Prop),Inv X pins σ H s->t σ H Q →
  wpAny (model X.prog X.w) X.A (forIn ifs true λc r=>if r=true then do let ok <-isTrue c X.env (eval c X.env);pure (ForInStep.yield ok) else pure (ForInStep.yield r)) (TP X pins σ Q) X.xe s
noncomputable def u7:TT:=λ_ H Q=>Q true H
theorem eR:DC X [] u7:=λ_ _ _ H _ I h=>wpAny_tests_nil ⟨H,I,h⟩
theorem jR {c:Expr}{t:TT}(h:PT X c t):DC X [c] t:=λpins s σ H Q I hw=>wpAny_tests_one (h pins s σ H Q I hw)
theorem dB {s:GH}{b:Addr}{h':Heap}(I:Inv X pins σ H s)(f:di X pins H b)(sb:Heap.SameBut b s.heap h'):Inv X pins σ H {s with heap:=h'}:=
 I.turned (t':=s.toks) (λc o hc e=>(sb.2 c hc).trans e) f.1 f.2.1 f.2.2.2.1 f.2.2.2.2.1 f.2.2.2.2.2
noncomputable def kh (J:It)(g:TG)(tt:TT)(te:TE)(W:Nat->Nat->List V->St->Hp->Prop)(Fin:List V->Hp->Prop):Prop :=
 ∀i m xs σ' H',W i m xs σ' H'->xs.length<sizeLine/\((J.stop i H'/\Fin xs H') \/
  (J.go i H'/\∀x H2,J.yld i H' x H2->g x σ' H2 λσ3 H3=>tt σ3 H3 λb H4 =>
   if b=true then te σ3 H4 λy H5=>∃m',m'<m/\W (i+1) m' (xs++[y]) σ3 H5 else ∃m',m'<m/\W (i+1) m' xs σ3 H4))
theorem vD {fp:List Addr}{h1:Heap}{tk:Nat}(S:xN X N nl js osc scope)(I:Inv X pins σ H s)(f:∀b∈fp,di X pins H b)(N5:∀b∈fp,b<s.heap.objs.size)
 (hC:s.heap.objs.size<=C)(old:∀b o,s.heap.get? b=some o->h1.get? b=some o){m1:vJ}(Kc:h1.Ns C m1):
 Inv (iD X N scope C fp s H) [] (σC nl js σ) H {s with heap:=h1,toks:=tk}:=by
 have IM:∀y∈scope.names,y.2=.free->X.env.kindOf y.1=some .cell\/X.env.kindOf y.1=some .free:=λy hy hf=>by
  have:=S.free y hy hf;rw[<-S.out] at this;exact this
 have Jb:∀y∈scope.names,y.2=.free->∃c,X.env.cells.lookup y.1=some c:=λy hy hf=>I.ok.has y.1 (IM y hy hf);have sub:∀x c,(gG scope.names X.env).lookup x=some c->X.env.cells.lookup x=some c:=λx c e=>pV Jb e
 have N6:∀b∈fp,b∉eA X.stack:=λb hb z=>by
  rcases List.mem_cons.mp (I.aav b z) with q|q
  ·exact(f b hb).2.1 q
  ·exact(f b hb).2.2.1 q
 refine⟨⟨I.ok.mod,S.kind,I.ok.glob,I.ok.blt,hC,λx y c e1 e2=>I.ok.inj x y c (sub x c e1) (sub y c e2),λx hx=>?_,λx c z _=>absurd z (by show ¬(false=true);decide),I.ok.hd,I.ok.frames,.inl rfl,
  λb hb=>⟨Nat.ne_of_lt (Nat.lt_of_lt_of_le (N5 b hb) hC),λx c e=>(f b hb).2.2.2.2.1 x c (sub x c e)⟩,I.bs,Nat.le_trans I.ok.bsz I.sz,λb o e hb=>?_,N6,I.stack,I.aay⟩,
  rfl,I.bare,Un.kept old,⟨m1,Kc,λi x v e1 e2 e3=>?_⟩,λx c e=>?_,I.hok.fresh hC,λx c e=>I.aal x c (sub x c e),λp hp=>absurd (show p∈([]:List (Addr×Obj)) from hp) (by simp),I.hok.kept old,?_⟩
 ·have hx:(relabel scope X.env).names.lookup x=some .cell\/(relabel scope X.env).names.lookup x=some .free:=hx
  have m:(x,NameKind.free)∈scope.names:=by
   rcases hx with z|z
   ·exact gb S.cell z (.inl rfl)
   ·exact gb S.cell z (.inr rfl)
  exact qi m
 ·rcases(f b hb).2.2.2.1 with z|z
  ·exact I.ok.abI b o e z
  ·exact absurd (Nat.lt_of_lt_of_le (Heap.lt_size e) (Nat.le_trans I.ok.bsz z)) (Nat.lt_irrefl _)
 ·-- KL names
  have e1:N[i]?=some x:=e1;unfold σC at e2
  by_cases hi:i<nl
  ·rw[List.getElem?_append_left (by simpa using hi),List.getElem?_replicate] at e2
   split at e2 <;> cases e2
  ·obtain⟨k,rfl⟩:∃k,i=nl+k:=⟨i-nl,by omega⟩;rw[List.getElem?_append_right (by simp),List.length_replicate,Nat.add_sub_cancel_left,List.getElem?_map] at e2
   cases ej:js[k]? with
   |none=>rw[ej] at e2;cases e2
   |some j =>
    rw[ej] at e2;have e2:some ((σ[j]?).join)=some (some v):=e2;have e2:=Option.some.inj e2
    have e4:σ[j]?=some (some v):=by
     cases q:σ[j]? with
     |none=>rw[q] at e2;cases e2
     |some z=>rw[q] at e2;exact congrArg some e2
    have e5:(N.drop nl)[k]?=some x:=by rw[List.getElem?_drop];exact e1
    have gp:∀{l1:List Nat}{l2:xQ}{k:Nat}{j:Nat}{x:Str},Paired (λj x=>X.N[j]?=some x/\(x,NameKind.free)∈scope.names) l1 l2->l1[k]?=some j->l2[k]?=some x->X.N[j]?=some x/\(x,NameKind.free)∈scope.names:=by
     intro l1 l2 k j x p
     induction p generalizing k with
     |nil=>intro h;simp at h
     |cons r _ ih =>
      intro h1 h2
      cases k with
      |zero=>simp at h1 h2;subst h1;subst h2;exact r
      |succ k=>exact ih (by simpa using h1) (by simpa using h2)
    obtain⟨hx,hm⟩:=gp S.src ej e5;have hk:=IM (x,.free) hm rfl;obtain⟨m,hn,hl⟩:=I.loc
    have vis:EI X.env.scope x:=by
     rcases hk with z|z
     ·exact .inr (.inl z)
     ·exact .inr (.inr z)
    obtain⟨u,r,l⟩:=hl j x v hx e4 vis;refine⟨u,r,?_⟩
    rcases l with⟨k1,_⟩|⟨_,c,hc,Jj⟩
    ·exfalso
     rcases hk with z|z <;> (rw[z] at k1;cases k1)
    ·obtain⟨c',HD⟩:=qi (env:=X.env) hm;have:=sub x c' HD;rw[hc] at this
     cases this
     refine .inr ⟨?_,c,HD,?_⟩
     ·rcases e3 with z|z|z
      ·-- a name of KL RO own: no
       exfalso
       have lk:scope.names.lookup x=some .local:=by
        have gen:∀(l:List (Str×NameKind)),(l.map λ(n,k)=>if(k==NameKind.free&&X.env.scope.kind == .function&&X.env.kindOf n==some .cell) then(n,NameKind.cell) else(n,k)).lookup x=some .local->l.lookup x=some .local:=by
         intro l
         induction l with
         |nil=>intro h;simp at h
         |cons p r ih =>
          obtain⟨n,k0⟩:=p;intro h;have h:List.lookup x ((if(k0==NameKind.free&&X.env.scope.kind == .function&&X.env.kindOf n==some .cell)=true then(n,NameKind.cell) else(n,k0)):: r.map λ(n,k)=>if(k==NameKind.free&&X.env.scope.kind == .function&&X.env.kindOf n==some .cell) then(n,NameKind.cell) else(n,k))=some .local:=h
          cases hb:x==n with
          |true =>
           by_cases HD:(k0==NameKind.free&&X.env.scope.kind == .function&&X.env.kindOf n==some .cell)=true
           ·rw[if_pos HD] at h;simp only[List.lookup_cons,hb] at h;cases h
           ·rw[if_neg HD] at h;simp only[List.lookup_cons,hb] at h |-;exact h
          |false =>
           simp only[List.lookup_cons,hb];refine ih ?_
           by_cases HD:(k0==NameKind.free&&X.env.scope.kind == .function&&X.env.kindOf n==some .cell)=true
           ·rw[if_pos HD] at h;simp only[List.lookup_cons,hb] at h;exact h
           ·rw[if_neg HD] at h;simp only[List.lookup_cons,hb] at h;exact h
        exact gen _ z
       exact S.ac9 (x,.free) hm rfl lk
      ·exact .inl z
      ·exact .inr z
     ·obtain⟨o,ho,hd⟩:=Jj;exact⟨o,old _ _ ho,hd⟩
 ·obtain⟨v,o,ho,hd⟩:=I.cell x c (sub x c e);exact⟨v,o,old _ _ ho,hd⟩
 ·show(σC nl js σ).length=N.length;unfold σC;rw[List.length_append,List.length_replicate,List.length_map,S.len]
noncomputable abbrev zU (ys:oH)(k:Nat):Obj:={cls:=.type "list",data:=.seq ys.toArray k}
theorem kc {J:It}{it:Addr}{fp:List Addr}{tn:Nat->Heap->Prop}{W:Nat->Nat->List V->St->Hp->Prop}{Fin:List V->Hp->Prop}
 {E:wA}{RR:Value->Addr->Result->Shared->Prop}
 (S:xN X N nl js osc scope)(hc:X.calm=true)(hg:∀C fp s H,PG (iD X N scope C fp s H) tg g)(ht:∀C fp s H,DC (iD X N scope C fp s H) ifs tt)(he:∀C fp s H,PE (iD X N scope C fp s H) elt te)
 (I:Inv X pins σ H s)(T:Turn X.prog X.w X.K tg J fp it tn)(st:tn 0 s.heap)(f:∀b∈fp,di X pins H b)(w0:∃m,W 0 m [] (σC nl js σ) H)(hW:kh J g tt te W Fin)
 (hRR:∀(D C:Addr)(H':Hp)(s':GH)(xs:List V)(m:vJ),Inv X pins σ (upd H' D (.lst xs)) s'->H' D=none->s'.heap.Ns C m->di X pins (upd H' D (.lst xs)) C->Fin xs H'->RR (.ref D) C (.ok .next) s'):
 wpAny (model X.prog X.w) X.A (newList []) (λacc s₃=>wpAny (model X.prog X.w) X.A (newFunctionEnv scope X.env.globals (gG scope.names X.env) [] X.env.qual none .none (some X.env)) (λN7 s₄ =>
  codeAny (model X.prog X.w) X.A (.compStart (.ListComp elt [⟨tg,iter,ifs,0⟩] scope pos) 0 (.ref it) acc {N7 with scope:=relabel scope X.env}) (RR acc N7.locals) s₄) E s₃) E s:=by
 have N5:∀b∈fp,b<s.heap.objs.size:=λb hb=>by
  obtain⟨o,e,_⟩:=T.obj 0 _ st b hb;exact Heap.lt_size e
 refine wpAny_newObj_type (wpAny_newFunctionEnv S.cell (by intro y hy;simp at hy) (λh₁ LF Kk=>?_) S.kind);dsimp only at LF Kk |-;generalize TL:s.heap.push {cls:=.type "list",dict:=none,data:=.seq ([]:oH).toArray}=H2 at LF Kk |-
 have hC:H2.objs.size=s.heap.objs.size+1:=by rw[<-TL,Heap.size_push]
 have RP:s.heap.objs.size≠H2.objs.size:=by rw[hC];exact Nat.ne_of_lt (Nat.lt_succ_self _)
 have below:∀b,b<s.heap.objs.size->b≠H2.objs.size/\b≠s.heap.objs.size:=λb hb=>⟨by rw[hC];exact Nat.ne_of_lt (Nat.lt_succ_of_lt hb),Nat.ne_of_lt hb⟩;have old:∀b o,s.heap.get? b=some o->h₁.get? b=some o:=λb o e=>Kk.extBut b o (below b (Heap.lt_size e)).1 (Heap.get?_push_of_some _ (TL▸Heap.get?_push_of_some _ e));have TM:h₁.get? s.heap.objs.size=some {cls:=.type "list",data:=.seq ([]:oH).toArray 0}:=Kk.extBut _ _ RP (Heap.get?_push_of_some _ (TL▸Heap.get?_push_size _ rfl))
 have N8:s.heap.objs.size<=H2.objs.size:=by rw[hC];exact Nat.le_succ _
 have Jb:∀y∈scope.names,y.2=.free->∃c,X.env.cells.lookup y.1=some c:=λy hy hf=>by
  have z:=S.free y hy hf;rw[<-S.out] at z;exact I.ok.has y.1 z
 have sub:∀x c,(gG scope.names X.env).lookup x=some c->X.env.cells.lookup x=some c:=λx c e=>pV Jb e
 have clt:∀x c,(gG scope.names X.env).lookup x=some c->c<s.heap.objs.size:=λx c e=>by
  obtain⟨v,q⟩:=I.cell x c (sub x c e);exact q.lt
 have N6:∀b∈fp,b∉eA X.stack:=λb hb z=>by
  rcases List.mem_cons.mp (I.aav b z) with q|q
  ·exact(f b hb).2.1 q
  ·exact(f b hb).2.2.1 q
 have Yk:s.heap.objs.size∉eA X.stack:=λz=>by
  rcases List.mem_cons.mp (I.aav _ z) with q|q
  ·exact absurd I.lt (by rw[<-q];exact Nat.lt_irrefl _)
  ·exact I.acS (Nat.le_refl _) q
 have Yl:s.heap.objs.size∉fp:=λz=>Nat.lt_irrefl _ (N5 _ z)
 have TN:∀{H':Hp}{ob:Obj},(∀b∈fp,H' b=none)->∀b∈fp,di (iD X N scope H2.objs.size fp s H) [(s.heap.objs.size,ob)] H' b:=λ{H' ob} hn b hb =>
  ⟨hn b hb,(below b (N5 b hb)).1,N6 b hb,.inl hb,λx c e=>(f b hb).2.2.2.2.1 x c (sub x c e),λp hp z=>by
   have e:p=(s.heap.objs.size,ob):=by
    have:p∈[(s.heap.objs.size,ob)]:=hp;simpa using this
   subst e
   exact Yl (by rw[show s.heap.objs.size=b from z];exact hb)⟩
 have dOk:∀{H':Hp},H' s.heap.objs.size=none->di (iD X N scope H2.objs.size fp s H) [] H' s.heap.objs.size:=λ{H'} hn =>
  ⟨hn,RP,Yk,.inr (Nat.le_refl _),λx c e=>Nat.ne_of_lt (clt x c e),λp hp=>absurd (show p∈([]:List (Addr×Obj)) from hp) (by simp)⟩
 have N9:∀{σ':St}{H':Hp}{s':GH}{ys:oH}{k:Nat},Inv (iD X N scope H2.objs.size fp s H) [] σ' H' s'->H' s.heap.objs.size=none->s'.heap.get? s.heap.objs.size=some (zU ys k) →
  Inv (iD X N scope H2.objs.size fp s H) [(s.heap.objs.size,zU ys k)] σ' H' s':=λ{σ' H' s' ys k} I' hn hl=>I'.aaz λp hp=>by
  have e:p=(s.heap.objs.size,zU ys k):=by simpa using hp
  subst e;exact⟨hl,hn,RP,Yk,λv z=>by cases z⟩
 have loop:∀s₃:Shared,s₃={s with heap:=h₁,toks:=s.toks+([]:List (Str×Value)).length} →
  codeAny (model X.prog X.w) X.A (.compLoop (.ListComp elt [⟨tg,iter,ifs,0⟩] scope pos) 0 (.ref it) (.ref s.heap.objs.size) (compEnvC scope (gG scope.names X.env) H2.objs.size X.env))
   (RR (.ref s.heap.objs.size) H2.objs.size) s₃:=by
  rintro s₃ rfl;obtain⟨m0,w0⟩:=w0;have I0:Inv (iD X N scope H2.objs.size fp s H) [] (σC nl js σ) H {s with heap:=h₁,toks:=s.toks+([]:List (Str×Value)).length}:=vD S I f N5 N8 old LF
  refine oy (λn s'=>∃i σ' H' xs ys k,Inv (iD X N scope H2.objs.size fp s H) [(s.heap.objs.size,zU ys k)] σ' H' s'/\tn i s'.heap/\(∀b∈fp,H' b=none)/\aK xs ys/\W i n xs σ' H') ?_ m0
   ⟨0,σC nl js σ,H,[],[],0,N9 I0 (I.hok.fresh (Nat.le_refl _)) TM,T.keep _ _ _ st λb _ o e=>old b o e,λb hb=>(f b hb).1,.nil,w0⟩
  rintro n s' ⟨i,σ',H',xs,ys,k,I',IP,Ym,rv,w'⟩;obtain⟨hz,hw⟩:=hW i n xs σ' H' w'
  rcases hw with⟨stop,fin⟩|⟨go,step⟩
  ·refine wpAny_mono (T.done (iD X N scope H2.objs.size fp s H) rfl rfl rfl hc i _ s' σ' H' (λ_ _=>False) I' (TN Ym) IP stop) (λr s1 z'=>?_) λ_ _ z=>z;obtain⟨hr,I1⟩:=z';subst hr;obtain⟨p1,p2,_⟩:=I1.pin (s.heap.objs.size,zU ys k) (by show _∈([]:List (Addr×Obj))++[_];simp);have u1:Un (eA X.stack) fp H H' s.heap s1.heap:=I1.base
   have u2:Un (eA X.stack) fp H (upd H' s.heap.objs.size (.lst xs)) s.heap s1.heap:=⟨u1.keep,u1.slot,λb o e n hx=>by rw[aq (Nat.ne_of_lt (Heap.lt_size e))];exact u1.free b o e n hx,u1.there,
    λb zs e=>by rw[aq (av (u1.aan b zs e) p2)];exact u1.aan b zs e,λb o zs e=>by rw[aq (av (u1.aam b o zs e) p2)];exact u1.aam b o zs e,λb ps e=>by
     obtain⟨mo,q⟩:=u1.aas b ps e
     exact⟨mo,by rw[aq (av q p2)];exact q⟩⟩
   have hk:gk X.prog X.w (upd H' s.heap.objs.size (.lst xs)) s1.heap:=d8 I1.hok p2 ⟨Nat.le_of_lt hz,ys,k,rv,p1⟩;have I3:Inv X pins σ (upd H' s.heap.objs.size (.lst xs)) s1:=I.acs I1.os u2 hk I1.bare λb hb=>⟨(f b hb).2.2.2.1,(f b hb).2.1,(f b hb).2.2.2.2.1,(f b hb).2.2.2.2.2⟩;obtain⟨mm,hnn,_⟩:=I1.loc
   have hnC:upd H' s.heap.objs.size (.lst xs) H2.objs.size=none:=by rw[aq (Ne.symm RP)];exact I1.free
   exact hRR _ _ H' s1 xs mm I3 p2 hnn (I.abC N8 hnC) fin
  ·refine wpAny_mono (T.item (iD X N scope H2.objs.size fp s H) rfl rfl rfl hc i _ s' σ' H' (λ_ _=>False) I' (TN Ym) IP go) (λr s1 z'=>?_) λ_ _ z=>z;obtain⟨u,hr,h4⟩:=z';subst hr;refine wpAny_mono h4 (λ_ s2 z'=>?_) λ_ _ z=>z;obtain⟨x,Yn,I2,r2,y2,Ki,fr2⟩:=z';have I2':=I2.pinned (TN fr2) (T.obj _ _ Ki);refine wpAny_mono (hg _ _ _ _ _ s2 σ' Yn x u _ I2' r2 (step x Yn y2)) (λ_ s3 z'=>?_) λ_ _ z=>z;obtain⟨σ3,H3,I3,q3⟩:=z';refine wpAny_mono (ht _ _ _ _ _ s3 σ3 H3 _ I3 q3) (λok s4 z'=>?_) λ_ _ z=>z;obtain⟨H4,I4,q4⟩:=z'
   have back:∀{s5:GH}{H5:Hp},Inv (iD X N scope H2.objs.size fp s H) ([(s.heap.objs.size,zU ys k)]++jV fp s2.heap) σ3 H5 s5->tn (i+1) s5.heap/\∀b∈fp,H5 b=none:=λ{s5 H5} I5 =>
    ⟨T.keep _ _ _ Ki λb hb o e=>(I5.pin (b,o) (List.mem_append_right _ (List.mem_append_right _ (fZ hb e)))).1,λb hb=>by
     obtain⟨o,e,d⟩:=T.obj _ _ Ki b hb
     exact(I5.pin (b,o) (List.mem_append_right _ (List.mem_append_right _ (fZ hb e)))).2.1⟩
   cases ok with
   |false =>
    rw[if_neg Bool.false_ne_true] at q4 |-;obtain⟨m',hm,w4⟩:=q4;exact⟨m',hm,i+1,σ3,H4,xs,ys,k,I4.aaI,(back I4).1,(back I4).2,rv,w4⟩
   |true =>
    rw[if_pos rfl] at q4 |-;refine wpAny_mono (he _ _ _ _ _ s4 σ3 H4 _ I4 q4) (λv s5 z'=>?_) λ_ _ z=>z;obtain⟨y,H5,I5,r5,m',hm,w5⟩:=z';obtain⟨p1,p2,_⟩:=I5.pin (s.heap.objs.size,zU ys k) (List.mem_append_right _ (List.mem_append_left _ (by simp)));obtain⟨NV,Ti⟩:=back I5;refine append_at (its:=ys.toArray) p1 (λh' sb hD=>?_) (by rw[List.size_toArray,<-rv.length];exact Nat.le_of_lt hz);have I6:Inv (iD X N scope H2.objs.size fp s H) [] σ3 H5 {s5 with heap:=h'}:=dB (I5.aaz (pins':=[]) λp hp=>absurd hp (by simp)) (dOk p2) sb;refine⟨m',hm,i+1,σ3,H5,xs++[y],ys++[v],k+1,N9 I6 p2 ?_,T.keep _ _ _ NV λb hb o e=>(sb.2 b λz=>Yl (z▸hb)).trans e,Ti,rv.append (.cons r5 .nil),w5⟩;rw[hD];show some _=some (zU (ys++[v]) (k+1));rw[zU,<-List.push_toArray]
 exact codeAny_compStart_list (loop _ rfl) (T.self X.A 0 _ _ _ (T.keep _ _ _ st λb _ o e=>old b o e) (loop _ rfl))
noncomputable def AW (wi:TI)(g:TG)(tt:TT)(te:TE)(nl:Nat)(js:List Nat):TE:=λσ H Q=>wi σ H λJ H1 =>
 ∃W:Nat->Nat->List V->St->Hp->Prop,(∃m,W 0 m [] (σC nl js σ) H1)/\kh J g tt te W λxs H'=>∀D,H' D=none->Q (.ref D) (upd H' D (.lst xs))
theorem jT (S:xN X N nl js osc scope)(I:Inv X pins σ H s):closureFor scope X.env=pure (gG scope.names X.env):=ml λy hy hf=>by
 have z:=S.free y hy hf;rw[<-S.out] at z;exact I.ok.has y.1 z
theorem f9 {wi:TI}(S:xN X N nl js osc scope)(hc:X.calm=true)(hi:PI X tg iter wi)(hg:∀C fp s H,PG (iD X N scope C fp s H) tg g)(ht:∀C fp s H,DC (iD X N scope C fp s H) ifs tt)
 (he:∀C fp s H,PE (iD X N scope C fp s H) elt te)(hs:∀x,foldedSetIterable iter X.env x=pure x:=by intro _;rfl):
 PE X (.ListComp elt [⟨tg,iter,ifs,0⟩] scope pos) (AW wi g tt te nl js):=by
 intro pins s σ H Q I h;rw[eval_ListComp];refine wpAny_comprehension_free (use:=none) rfl hs (jT S I) S.kind S.names (bA (hi pins s σ H _ I h) λv s1 h1=>bA h1 λRH s2 h2=>?_);obtain⟨it,fp,tn,J,H2,e,I2,T,Ki,f2,W,w0,hW⟩:=h2;subst e;refine kc (RR:=λacc C=>compPost (model X.prog X.w) X.A X.xe none (EP X pins σ Q) acc C) S hc hg ht he I2 T Ki f2 w0 hW ?_;intro D C H' s' xs m I3 hD hn fC fin;exact⟨m,hn,λh' sb=>⟨.ref D,_,dB I3 fC sb,rfl,fin D hD⟩⟩
theorem iG {i:Nat}{y:Str}{py Oa:Pos}{wi:TI}(S:xN X N nl js osc scope)(hc:X.calm=true)(hN:X.N.Nodup)(hy:X.N[i]?=some y)(hl:C9 X.env.scope y)(hi:PI X tg iter wi)
 (hg:∀C fp s H,PG (iD X N scope C fp s H) tg g)(ht:∀C fp s H,DC (iD X N scope C fp s H) ifs tt)(he:∀C fp s H,PE (iD X N scope C fp s H) elt te)
 (Ob:swapsWith (.ListComp elt [⟨tg,iter,ifs,0⟩] scope pos) (some (.Name y py)) Oa.line X.env=pure true)(hs:∀x,foldedSetIterable iter X.env x=pure x:=by intro _;rfl)
 (hf:X.fn y=true\/X.env.scope.names.lookup y=some .local:=by first|exact .inl rfl|exact .inr rfl|assumption):
 PS X (.Assign [.Name y py] (.ListComp elt [⟨tg,iter,ifs,0⟩] scope pos) Oa) (wC (AW wi g tt te nl js) (c9 i)):=by
 intro pins s σ H D I h;rw[exec_Assign_Name_used _ _ _ _ Ob];refine wpAny_bind (wpAny_standAt (wpAny_bind ?_));show wpAny _ X.A (do let _ <-comprehension (.ListComp elt [⟨tg,iter,ifs,0⟩] scope pos) scope X.env _ (newList []) false (eval iter X.env) (some (assign (.Name y py) X.env))) _ _ s
 refine wpAny_bind (wpAny_mono (wpAny_comprehension_free (use:=some (assign (.Name y py) X.env)) (Q:=λ_ s'=>SP X pins D .next s') rfl hs (jT S I) S.kind S.names
  (bA (hi pins s σ H _ I h) λv s1 h1=>bA h1 λRH s2 h2=>?_)) (λ_ s' hq=>wpAny_pure (wpAny_pure hq)) λ_ _ e=>e)
 obtain⟨it,fp,tn,J,H2,e,I2,T,Ki,f2,W,w0,hW⟩:=h2;subst e;refine kc (RR:=λacc C=>compPost (model X.prog X.w) X.A X.xe (some (assign (.Name y py) X.env)) (λ_ s'=>SP X pins D .next s') acc C) S hc hg ht he I2 T Ki f2 w0 hW ?_;intro Dd C H' s' xs m I3 hD hn fC fin;show wpAny _ X.A (assign (.Name y py) X.env (.ref Dd)) _ _ _;refine wpAny_assign_Name (nI I3 hN hy hl (show aG (.ref Dd) (.ref Dd) from rfl) (λs4 I4 z'=>?_) hf);obtain⟨a,sb,ha⟩:=z';refine⟨m,hn.sameBut sb ?_,λh' RQ=>⟨_,_,dB I4 fC RQ,fin Dd hD⟩⟩
 rcases ha with z|z
 ·rw[z];exact fC.2.1
 ·exact λq=>fC.2.2.2.2.1 _ _ z q.symm
end
open PySem.W
noncomputable def GE (h B:Heap)(e:Addr)(cls a0 fl:Value)(d:p5):Prop :=
 ∃(o:Obj)(vs:BU)(T:Addr)(oT:Obj)(ts:BU),h.get? e=some o/\o.dict=d/\(o.cls=cls/\vs[0]?=some a0)/\o.data=.fields vs/\vs[1]?=some (.ref T)/\B.get? T=none/\T≠e/\h.get? T=some oT/\oT.data=.fields ts/\ts[3]?=some fl
structure zT (B:Heap)(l:List Env)(e:Addr)(cls a0 fl:Value)(d:p5)(h:Heap):Prop where
 st:B.StaysIn h
 new:B.get? e=none
 fr:h.FunFrames B l
 tr:GE h B e cls a0 fl d
variable {o:Obj}{vs:BU}{l:List Env}{fl:Value}
section
variable {M:Model}{A:Around}{E:wA}{s:GH}{B:Heap}{env:Env}{outer:List Env}{L e:Addr}{cls a0:Value}{d:p5}{Q:Unit->Shared->Prop}
theorem ud {hd:Value}{nx:Bool}(Jr:A.frames=some (env::outer))(fr:s.heap.FunFrames B (env::outer))(hf:env.frame=some L)(st:B.StaysIn s.heap)(new:B.get? e=none)
 (he:s.heap.get? e=some o)(Js:o.dict=d)(hc:o.cls=cls)(hv:o.data=.fields vs)(h1:1<vs.size)(h0:vs[0]?=some a0)
 (h:∀h',zT B (env::outer) e cls a0 (rawInt L) d h'->s.heap.UpToSlots h'->Q () {s with heap:=h'}):
 wpAny M A (do let a <-frameOf env;let pl <-entryPlaceOf L nx;let b <-EntryCells.newEntry hd a .none (rawInt L) .none pl;setField (.ref e) 1 b) Q E s:=by
 have nf:e∉(env::outer).filterMap (·.frame):=λm=>by
  obtain⟨_,o',Iv,q⟩:=fr.mem m;rw[he] at Iv;cases Iv;exact q vs hv
 refine wpAny_bind (wpAny_frameOf_fun Jr fr hf λg sl=>wpAny_bind (wpAny_entryPlaceOf λpl Ib=>?_));unfold EntryCells.newEntry newFields;refine wpAny_bind (wpAny_newObj_type ?_ (Ib.sizeOk5 _ _ _ _ _));have e1:g.get? e=some o:=(sl.2.1 e nf).trans he;have Yo:B.StaysIn g:=λb ob q=>(sl.2.1 b λm=>by rw[(fr.mem m).1] at q;cases q).trans (st b ob q);have ne:g.objs.size≠e:=Nat.ne_of_gt (Heap.lt_size e1);have dv:=Obj.data_mapFields hv (·.setIfInBounds 1 (Value.ref g.objs.size))
 have kp:∀(oT:Obj) b ob,b≠e->g.get? b=some ob->((g.push oT).update e (Obj.mapFields (·.setIfInBounds 1 (Value.ref g.objs.size)))).get? b=some ob:=λoT b ob hb q =>
  (Heap.get?_update_other _ _ (Ne.symm hb)).trans (Heap.get?_push_of_some _ q)
 have nr:∀b ob,s.heap.get? b=some ob->(∀ws,ob.data≠.fields ws)->b≠e:=λb ob q hn z=>by rw[z,he] at q;cases q;exact hn vs hv
 refine wpAny_setField (Heap.get?_push_of_some _ e1) hv h1 (h _ ⟨λb ob q=>kp _ b ob (λz=>by rw[z,new] at q;cases q) (Yo b ob q),new,fr.of_keeps λb ob q hn=>?_,?_⟩ λb ob q hn=>?_)
 ·obtain⟨z,q1⟩:=sl.2.2 b ob q;exact⟨_,kp _ b _ (nr b ob q hn) q1,rfl⟩
 ·refine⟨_,_,g.objs.size,_,_,Heap.get?_update_self _ (Heap.get?_push_of_some _ e1) (Obj.isFreed_of_fields dv),?_,⟨(Obj.cls_mapFields _ _).trans hc,by rw[Array.getElem?_setIfInBounds_ne (by decide)];exact h0⟩,dv,by simp[h1],Yo.fresh,ne,
   (Heap.get?_update_other _ _ (Ne.symm ne)).trans (Heap.get?_push_size g rfl),rfl,by first|(simp;done)|(rcases Ib with rfl|⟨_,_,_,_,_,_,_,rfl⟩ <;> simp)⟩
  rw[<-Js]
  cases o
  dsimp only at hv;subst hv;rfl
 ·obtain⟨z,q1⟩:=sl.2.2 b ob q;exact⟨z,kp _ b _ (nr b ob q hn) q1⟩
theorem wB (Jr:A.frames=some (env::outer))(hf:env.frame=some L)(x:zT B (env::outer) e cls a0 .none d s.heap)
 (h:∀h',zT B (env::outer) e cls a0 (rawInt L) d h'->s.heap.UpToSlots h'->Q () {s with heap:=h'}):wpAny M A (noteFrame (.ref e) env) Q E s:=by
 obtain⟨o,vs,T,oT,ts,he,Js,⟨hc,h0⟩,hv,h1,nT,Te,hT,KP,h3⟩:=x.tr;unfold noteFrame;simp only[hf];refine wpAny_bind (wpAny_field he hv h1 ?_);rw[if_pos (by simp)];refine wpAny_bind (wpAny_field hT KP h3 ?_);rw[if_neg (by simp[rawInt])];refine wpAny_bind (wpAny_setField hT KP (Array.getElem?_eq_some_iff.mp h3).1 ?_);have ot:∀b,b≠T->(s.heap.update T (Obj.mapFields (·.setIfInBounds 3 Value.none))).get? b=s.heap.get? b:=λb hb=>Heap.get?_update_other _ _ (Ne.symm hb)
 have nr:∀b ob,s.heap.get? b=some ob->(∀ws,ob.data≠.fields ws)->b≠T:=λb ob q hn z=>by rw[z,hT] at q;cases q;exact hn ts KP
 refine ud (s:={s with heap:=s.heap.update T (Obj.mapFields (·.setIfInBounds 3 Value.none))}) Jr (x.fr.of_keeps λb ob q hn=>⟨ob,(ot b (nr b ob q hn)).trans q,rfl⟩) hf (λb ob q=>(ot b λz=>by rw[z,nT] at q;cases q).trans (x.st b ob q)) x.new
  ((ot e (Ne.symm Te)).trans he) Js hc hv (Array.getElem?_eq_some_iff.mp h1).1 h0 λh' y up=>h h' y λb ob q hn=>up b ob ((ot b (nr b ob q hn)).trans q) hn
theorem za (Jr:A.frames=some (env::outer))(fr:s.heap.FunFrames B (env::outer))(hf:env.frame=some L)(st:B.StaysIn s.heap)(new:B.get? e=none)
 (he:s.heap.get? e=some o)(Js:o.dict=d)(hc:o.cls=cls)(hv:o.data=.fields vs)(h1:vs[1]?=some .none)(h0:vs[0]?=some a0)
 (h:∀h',zT B (env::outer) e cls a0 (rawInt L) d h'->s.heap.UpToSlots h'->Q () {s with heap:=h'}):wpAny M A (noteFrame (.ref e) env) Q E s:=by
 unfold noteFrame;simp only[hf];refine wpAny_bind (wpAny_field he hv h1 ?_);rw[if_neg (by decide)];exact ud Jr fr hf st new he Js hc hv (Array.getElem?_eq_some_iff.mp h1).1 h0 h
theorem iK (x:zT B l e cls a0 fl d s.heap)(h:∀h',zT B l e cls a0 .none d h'->s.heap.UpToSlots h'->Q () {s with heap:=h'}):wpAny M A (setFlight (.ref e) none) Q E s:=by
 obtain⟨o,vs,T,oT,ts,he,Js,hc,hv,h1,nT,Te,hT,KP,h3⟩:=x.tr;have z3:3<ts.size:=(Array.getElem?_eq_some_iff.mp h3).1;have ot:∀b,b≠T->(s.heap.update T (Obj.mapFields (·.setIfInBounds 3 Value.none))).get? b=s.heap.get? b:=λb hb=>Heap.get?_update_other _ _ (Ne.symm hb)
 have nr:∀b ob,s.heap.get? b=some ob->(∀ws,ob.data≠.fields ws)->b≠T:=λb ob q hn z=>by rw[z,hT] at q;cases q;exact hn ts KP
 unfold setFlight;refine wpAny_bind (wpAny_field he hv h1 ?_);rw[if_pos (by simp)];refine wpAny_setField hT KP z3 (h _ ⟨λb ob q=>(ot b λz=>by rw[z,nT] at q;cases q).trans (x.st b ob q),x.new,x.fr.of_keeps λb ob q hn=>⟨ob,(ot b (nr b ob q hn)).trans q,rfl⟩,?_⟩ λb ob q hn=>⟨ob.slots,(ot b (nr b ob q hn)).trans q⟩);exact⟨o,vs,T,_,_,(ot e (Ne.symm Te)).trans he,Js,hc,hv,h1,nT,Te,Heap.get?_update_self _ hT (Obj.isFreed_of_fields (Obj.data_mapFields KP _)),Obj.data_mapFields KP _,by simp[z3]⟩
theorem zT.out (x:zT B (env::outer) e cls a0 fl d h):zT B outer e cls a0 fl d h:=⟨x.st,x.new,x.fr.2.2,x.tr⟩
theorem AF (Jr:A.frames=some (env::outer))(hf:env.frame=some L)(x:zT B (env::outer) e cls a0 .none d s.heap)
 (h:∀h',zT B outer e cls a0 .none d h'->s.heap.UpToSlots h'->Q () {s with heap:=h'}):wpAny M A (leaving env (.ref e)) Q E s:=by
 unfold leaving;exact wpAny_bind (wB Jr hf x λg y up=>iK (s:={s with heap:=g}) y λg2 y2 TQ=>h g2 y2.out (up.trans TQ))
theorem mV (Jr:A.frames=some (env::outer))(fr:s.heap.FunFrames B (env::outer))(hf:env.frame=some L)(st:B.StaysIn s.heap)(new:B.get? e=none)
 (he:s.heap.get? e=some o)(Js:o.dict=d)(hc:o.cls=cls)(hv:o.data=.fields vs)(h1:vs[1]?=some .none)(h0:vs[0]?=some a0)
 (h:∀h',zT B outer e cls a0 .none d h'->s.heap.UpToSlots h'->Q () {s with heap:=h'}):wpAny M A (leaving env (.ref e)) Q E s:=by
 unfold leaving;exact wpAny_bind (za Jr fr hf st new he Js hc hv h1 h0 λg y up=>iK (s:={s with heap:=g}) y λg2 y2 TQ=>h g2 y2.out (up.trans TQ))
end
theorem ba.there {o:HO}(x:ba P w H h a o):∃ob,h.get? a=some ob:=by
 cases o with
 |lst xs=>obtain⟨_,_,_,_,e⟩:=x;exact⟨_,e⟩
 |tup xs=>obtain⟨_,_,_,ob,e,_⟩:=x;exact⟨_,e⟩
 |dK GK=>obtain⟨_,_,_,_,o,_,_,e,_⟩:=x;exact⟨_,e⟩
 |dT GK=>obtain⟨_,_,_,_,o,_,_,e,_⟩:=x;exact⟨_,e⟩
 |set S n=>obtain⟨o,_,_,_,e,_⟩:=x;exact⟨_,e⟩
 |ins C dx fs=>obtain⟨_,_,_,e,_⟩:=x;exact⟨_,e⟩
 |own y=>obtain⟨_,e⟩:=x;exact⟨_,e⟩
 |xd fs=>obtain⟨_,⟨_,_,_,e,_⟩,_⟩:=x;exact⟨_,e⟩
 |rng lo hi=>obtain⟨_,_,_,e⟩:=x;exact⟨_,e⟩
 |frz ob u=>obtain⟨e,_⟩:=x;exact⟨_,e⟩
 |tbl ps=>exact⟨_,(show h.get? a=some _ from x)⟩
 |met f y=>exact⟨_,(show h.get? a=some _ from x)⟩
 |ext φ=>obtain⟨_,⟨_,e⟩,_⟩:=x;exact⟨_,e⟩
structure Dw (P:wM)(w:World)(l:List Env)(H₀:Hp)(h₀:Heap)(a:Addr)(cls:Value)(H:Hp)(h:Heap)(B:Heap)(a0:Value)(d:p5):Prop where
 fly:zT B l a cls a0 .none d h
 un:Un (eA l) [] H₀ H h₀ h
 keep:∀b o,h₀.get? b=some o->H₀ b=none->b∉eA l->B.get? b=some o
 there:∀b o,h₀.get? b=some o->b∉eA l->∃o',B.get? b=some o'
 hok:gk P w H B
 new:H a=none
noncomputable def bc (P:wM)(w:World):GC:=λouter H₀ s₀ E e s'=>∃(a:Addr)(cls a0:Value)(B:Heap)(d:p5)(H:Hp),e=.ref a/\s'.os=s₀.os/\AllBare s'.gens/\Dw P w outer H₀ s₀.heap a cls H s'.heap B a0 d/\E cls d H
variable {Jc:Heap}{cls:Value}{d:p5}
section
variable {X:Cx}{pins:List (Addr×Obj)}{σ:St}{H H':Hp}{s s':GH}{P:wM}{w:World}
theorem cc {base:Heap}(F:h.FunFrames base l){b:Addr}(hb:b∈eA l)(e:h.get? b=some o):∀vs,o.data≠.fields vs:=by
 obtain⟨_,o',e',d⟩:=F.mem hb;rw[e] at e'
 cases e'
 exact d
theorem qY {outer:List Env}{h' B:Heap}{e t:Addr}{args:oH}(I:Inv X pins σ H s)(hex:X.ex=[])(Ij:X.stack=X.env::X.outer)(hm:Heap.MadeExcOf s.heap h' e cls args)
 (hB:B=PySem.W.hideAll s.heap (eA X.stack))(hf:zT B X.outer e cls (.ref t) .none d Jc)(LG:h'.UpToSlots Jc):Dw X.prog X.w X.outer X.H₀ X.s₀.heap e cls H Jc B (.ref t) d:=by
 subst hB;have st:=hf.st;have JA:∀b o,s.heap.get? b=some o->b∉eA X.stack->(PySem.W.hideAll s.heap (eA X.stack)).get? b=some o:=λb o e n=>PySem.W.hideAll_get _ e n
 have old:∀b o,X.s₀.heap.get? b=some o->b∉eA X.outer->b∉eA X.stack:=λb o e n z=>by
  rcases List.mem_cons.mp (I.aav b z) with q|q
  ·exact absurd (Nat.lt_of_lt_of_le (Heap.lt_size e) I.ok.above) (by rw[q];exact Nat.lt_irrefl _)
  ·exact n q
 have base:Un (eA X.outer) [] X.H₀ H X.s₀.heap s.heap:=by
  have z:=I.base;rw[hex] at z;exact z
 refine⟨hf,⟨λb o e n hb _=>st b o (JA b o (base.keep b o e n hb (by simp)) (old b o e hb)),λb o e n hb _=>?_,base.free,λb o e _=>?_,base.aan,base.aam,base.aas⟩,λb o e n hb=>JA b o (base.keep b o e n hb (by simp)) (old b o e hb),λb o e hb=>?_,λb u e=>?_,?_⟩
 ·obtain⟨sl,e1⟩:=base.slot b o e n hb (by simp);obtain⟨IY,e2⟩:=LG b _ (hm.keeps b _ e1) (cc I.aap hb e1);exact⟨IY,e2⟩
 ·obtain⟨o',e1⟩:=base.there b o e (by simp)
  by_cases hb:b∈eA X.outer
  ·obtain⟨IY,e2⟩:=LG b _ (hm.keeps b _ e1) (cc I.aap hb e1);exact⟨_,e2⟩
  ·exact⟨o',st b o' (JA b o' e1 (old b o e hb))⟩
 ·obtain⟨o',e1⟩:=base.there b o e (by simp);exact⟨o',JA b o' e1 (old b o e hb)⟩
 ·exact(I.hok b u e).abw (λc v hc q=>JA c v q λz=>by
   have n:=I.aay c z
   rcases hc with hc|hc
   ·rw[hc,e] at n;cases n
   ·rw[n] at hc;cases hc) (λ_ q=>q) λ_ _ q=>q
 ·cases q:H e with
  |none=>rfl
  |some u =>
   obtain⟨ob,e1⟩:=(I.hok e u q).there;rw[hm.new] at e1
   cases e1
theorem xy {B:Heap}{a0:Value}(I:Inv X pins σ H s)(hex:X.ex=[])(F:Dw X.prog X.w X.stack H s.heap a cls H' s'.heap B a0 d)
 (hf:zT B X.outer a cls a0 .none d Jc)(LG:s'.heap.UpToSlots Jc):Dw X.prog X.w X.outer X.H₀ X.s₀.heap a cls H' Jc B a0 d:=by
 have st:=hf.st
 have sub:∀b,b∈eA X.outer->b∈eA X.stack:=λb hb=>by
  rcases I.ok.stk with z|⟨z,Jr⟩
  ·rw[z];exact hb
  ·rw[z];unfold eA;rw[List.filterMap_cons,Jr];exact List.mem_cons_of_mem _ hb
 have old:∀b o,X.s₀.heap.get? b=some o->b∉eA X.outer->b∉eA X.stack:=λb o e n z=>by
  rcases List.mem_cons.mp (I.aav b z) with q|q
  ·exact absurd (Nat.lt_of_lt_of_le (Heap.lt_size e) I.ok.above) (by rw[q];exact Nat.lt_irrefl _)
  ·exact n q
 have base:Un (eA X.outer) [] X.H₀ H X.s₀.heap s.heap:=by
  have z:=I.base;rw[hex] at z;exact z
 have kB:∀b o,X.s₀.heap.get? b=some o->X.H₀ b=none->b∉eA X.outer->B.get? b=some o:=λb o e n hb =>
  F.keep b o (base.keep b o e n hb (by simp)) (base.free b o e n (by simp)) (old b o e hb)
 have tB:∀b o,X.s₀.heap.get? b=some o->b∉eA X.outer->∃o',B.get? b=some o':=λb o e hb=>by
  obtain⟨o',e1⟩:=base.there b o e (by simp);exact F.there b o' e1 (old b o e hb)
 have M3:∀b o,s.heap.get? b=some o->H b=none->b∈eA X.outer->∃sl,Jc.get? b=some {o with slots:=sl}:=λb o e n hb=>by
  obtain⟨sl,e1⟩:=F.un.slot b o e n (sub b hb) (by simp);obtain⟨IY,e2⟩:=LG b _ e1 (λvs q=>cc I.aap hb e vs q);exact⟨IY,e2⟩
 refine⟨hf,⟨λb o e n hb _=>st b o (kB b o e n hb),λb o e n hb _=>?_,λb o e n _=>?_,λb o e _=>?_,λb xs e=>F.un.aan b xs (base.aan b xs e),λb o xs e=>F.un.aam b o xs (base.aam b o xs e),λb ps e=>?_⟩,kB,tB,F.hok,F.new⟩
 ·obtain⟨sl,e1⟩:=base.slot b o e n hb (by simp);obtain⟨IY,e2⟩:=M3 b _ e1 (base.free b o e n (by simp)) hb;exact⟨IY,e2⟩
 ·obtain⟨o',e1⟩:=base.there b o e (by simp);exact F.un.free b o' e1 (base.free b o e n (by simp)) (by simp)
 ·by_cases hb:b∈eA X.outer
  ·obtain⟨o',e1⟩:=base.there b o e (by simp);have n:H b=none:=I.aay b (sub b hb);obtain⟨sl,e2⟩:=M3 b o' e1 n hb;exact⟨_,e2⟩
  ·obtain⟨o',e1⟩:=tB b o e hb;exact⟨o',st b o' e1⟩
 ·obtain⟨m1,e1⟩:=base.aas b ps e;obtain⟨m2,e2⟩:=F.un.aas b _ e1;exact⟨m1++m2,by rw[e2,Array.append_assoc]⟩
theorem lQ {B:Heap}{a0:Value}{tk:Nat}(I:Inv X pins σ H s)(ho:s'.os=s.os)(hg:AllBare s'.gens)(F:Dw X.prog X.w X.stack H s.heap a cls H' s'.heap B a0 d)
 (hf:zT B X.stack a cls a0 fl d Jc)(LG:s'.heap.UpToSlots Jc):Inv X pins σ H' {s' with heap:=Jc,toks:=tk}:=by
 have st:=hf.st;refine I.acs (s':={s' with heap:=Jc,toks:=tk}) (ch:=[]) ho ⟨λb o e n hb _=>st b o (F.keep b o e n hb),λb o e n hb _=>?_,F.un.free,λb o e _=>?_,F.un.aan,F.un.aam,F.un.aas⟩ (F.hok.kept st) hg λb z=>absurd z (by simp)
 ·obtain⟨sl,e1⟩:=F.un.slot b o e n hb (by simp);obtain⟨IY,e2⟩:=LG b _ e1 (λvs q=>cc I.stack hb e vs q);exact⟨IY,e2⟩
 ·by_cases hb:b∈eA X.stack
  ·obtain⟨sl,e1⟩:=F.un.slot b o e (I.aay b hb) hb (by simp);obtain⟨IY,e2⟩:=LG b _ e1 (λvs q=>cc I.stack hb e vs q);exact⟨_,e2⟩
  ·obtain⟨o',e1⟩:=F.there b o e hb;exact⟨o',st b o' e1⟩
end
theorem CW {K:PySem.W.Frag}{cd:ClassData}(h:PySem.W.clsIn K C=some cd):∃c d s,K.lookup C=some ⟨c,d,.cls cd,s⟩:=by
 unfold PySem.W.clsIn at h
 cases ho:K.lookup C with
 |none=>rw[ho] at h;cases h
 |some o =>
  rw[ho] at h;obtain⟨c,d,x,s⟩:=o
  cases x <;> cases h
  exact⟨_,_,_,rfl⟩
theorem EY {α:Type}{l:List α}(h:l.length=6):∃a b c d e f,l=[a,b,c,d,e,f]:=by
 obtain⟨a,l,rfl⟩:=List.exists_cons_of_length_eq_add_one h;obtain⟨b,l,rfl⟩:=List.exists_cons_of_length_eq_add_one (Nat.succ.inj h);obtain⟨c,l,rfl⟩:=List.exists_cons_of_length_eq_add_one (Nat.succ.inj (Nat.succ.inj h));obtain⟨d,l,rfl⟩:=List.exists_cons_of_length_eq_add_one (Nat.succ.inj (Nat.succ.inj (Nat.succ.inj h)));obtain⟨e,l,rfl⟩:=List.exists_cons_of_length_eq_add_one (Nat.succ.inj (Nat.succ.inj (Nat.succ.inj (Nat.succ.inj h))));obtain⟨f,rfl⟩:=List.length_eq_one_iff.mp (Nat.succ.inj (Nat.succ.inj (Nat.succ.inj (Nat.succ.inj (Nat.succ.inj h)))));exact⟨a,b,c,d,e,f,rfl⟩
theorem zK {K:PySem.W.Frag}{HA:oH}{newId:String}(X:K.In h)(q:zA K C HA newId=true):
 ∃bm N nm qn bs hd sn sub ab col dd k0 k1 k2 k3 k5 mN,h.get? C=some (excClassObj nm qn C N bs bm hd sn sub ab col dd k0 k1 k2 k3 k5 newId)/\h.Ns N mN/\mN "__init__"=none/\OwnTail h HA bm:=by
 have q1:=Bool.and_eq_true_iff.mp q;obtain⟨cd,hc,q2⟩:=(Option.any_eq_true _ _).mp q1.2;obtain⟨c,dd,sl,ho⟩:=CW hc;have q3:=Bool.and_eq_true_iff.mp q2;have q4:=Bool.and_eq_true_iff.mp q3.2;have q5:=Bool.and_eq_true_iff.mp q4.2;have q6:=Bool.and_eq_true_iff.mp q5.2
 have e1:(c == .type "type"&&(sl.size==6&&sl.toList[4]?==some (some (.builtin newId))))=true:=by
  have z:=q1.1;rw[ho] at z;exact z
 have e2:=Bool.and_eq_true_iff.mp e1;have e3:=Bool.and_eq_true_iff.mp e2.2;obtain⟨k0,k1,k2,k3,k4,k5,e⟩:=EY (l:=sl.toList) (eq_of_beq e3.1)
 have e4:k4=some (.builtin newId):=by
  have z:=eq_of_beq e3.2;rw[e] at z;exact Option.some.inj z
 have e5:sl = #[k0,k1,k2,k3,some (.builtin newId),k5]:=Array.toList_inj.mp (by rw[e,e4])
 have e6:cd.mro=.ref C::cd.mro.tail:=by
  obtain⟨r,z⟩:=List.head?_eq_some_iff.mp (eq_of_beq q3.1);rw[z];rfl
 have e7:cd.hasDel=false:=by simpa using q4.1
 refine⟨cd.mro.tail,cd.ns,cd.name,cd.qualname,cd.bases,cd.hasDict,cd.slotNames,cd.subclasses,cd.abstract,cd.collection,dd,k0,k1,k2,k3,k5,_,(X _ _ ho).trans ?_,.of_isNs (PySem.W.isNs_of_in X q6.1),PySem.W.nsMap_none_of_in X q6.1 (eq_of_beq q6.2),PySem.W.tail_of_in X q5.1⟩;rw[e5,eq_of_beq e2.1];show some (Obj.mk _ _ (.cls cd) _)=some (Obj.mk _ _ (.cls ⟨_,_,_,_,_,_,_,_,_,_,false⟩) _);rw[<-e6,<-e7]
noncomputable def xx (X:Cx)(E:St->XK):Prop:=∀(pins:List (Addr×Obj))(σ:St)(H:Hp)(s:GH)(h':Heap)(e:Addr)(cls:Value)(args:oH),Inv X pins σ H s->Heap.MadeExcOf s.heap h' e cls args->E σ cls none H->X.xe (.ref e) {s with heap:=h'}
noncomputable def Cb (C:Addr)(E:St->XK)(t:TA):TS:=λ_ σ H=>t σ H λvs H1=>vs.length<=sizeLine/\E σ (.ref C) none H1
section
variable {X:Cx}{E:St->XK}{x:Str}{C:Addr}{B newId IF:String}{HA:oH}{np HP pos:Pos}{e:Expr}{es:Bl}{t:TA}
theorem wy (FB:ExcBaseFacts B newId IF HA)(q:zA X.K C HA newId=true)(hc:X.calm=true)(hR:xx X E)(hg:Gl X x)(hm:X.mg x=some (.ref C))(ha:PA X (e::es) t)
 (he:starEach (e::es) X.env=(false,eval e X.env):: starEach es X.env:=by rfl)(Ib:(backTo HP (starEach es X.env)).any (·.1)=false:=by rfl)(hd:(x==("__debug__":Str))=false:=by decide):
 PS X (.Raise (some (.Call (.Name x np) (e::es) [] HP)) none pos) (Cb C E t):=by
 intro pins s σ H D I h;obtain⟨bm,N,nm,qn,bs,hdct,sn,sub,ab,col,dd,k0,k1,k2,k3,k5,mN,hC,hN,hni,T⟩:=zK I.ok.mod.kin q
 refine wpAny_Raise_call_subT (C:=C) (nm:=nm) (q:=qn) (N:=N) (bs:=bs) (bm:=bm) (hdct:=hdct) (sn:=sn) (sub:=sub) (ab:=ab) (col:=col) (dd:=dd) (k0:=k0) (k1:=k1) (k2:=k2) (k3:=k3) (k5:=k5)
  FB (mN:=mN) (T.hasType FB.hasBase) (I.ok.hd hc) (by rw[he];show(false || (backTo HP (starEach es X.env)).any (·.1))=false;rw[Ib];rfl) hni (dE I hg hm ⟨rfl,?_⟩ hd)
 have z:=ha HP pins s σ H _ I h;rw[he] at z |-;refine Calls.evalArgs_plain (wpAny_mono z (λus s₂ z'=>?_) λ_ _ y=>y);obtain⟨vs,H2,I2,rv,hl,hE⟩:=z';exact⟨rfl,by rw[<-rv.length];exact hl,I2.bk _ _ hC,hN.keeps I2.bk,T.keeps I2.bk,λh' e' KQ=>hR pins σ H2 s₂ h' e' _ _ I2 KQ hE⟩
end
section
variable {P:wM}{w:World}{K:PySem.W.Frag}{mg:vJ}{base:Heap}{N:xQ}{qual:Str}{scope:Scope}{f:Addr}{cd:Value}{A:Around}{outer:List Env}{s:GH}{H:Hp}{E:XK}
theorem qF:xx (eK (bc P w) P w K mg base N qual scope f cd A outer s H E) λ_=>E:=by
 intro pins σ H1 s1 h' e cls args I hm hE;have Ij:(eK (bc P w) P w K mg base N qual scope f cd A outer s H E).stack=(eK (bc P w) P w K mg base N qual scope f cd A outer s H E).env::outer:=rfl;have hl:=I.stack;obtain⟨t,he,htn,ht⟩:=hm.there;have hB:∀b o,(PySem.W.hideAll s1.heap (eA (eK (bc P w) P w K mg base N qual scope f cd A outer s H E).stack)).get? b=some o->s1.heap.get? b=some o:=λb o q=>PySem.W.of_hideAll _ q
 have nB:(PySem.W.hideAll s1.heap (eA (eK (bc P w) P w K mg base N qual scope f cd A outer s H E).stack)).get? e=none:=by
  cases q:(PySem.W.hideAll s1.heap (eA (eK (bc P w) P w K mg base N qual scope f cd A outer s H E).stack)).get? e with
  |none=>rfl
  |some o=>have z:=hB _ _ q;rw[hm.new] at z;cases z
 have TR:=PySem.W.funFrames_hide hl λenv he a ha=>List.mem_filterMap.mpr ⟨env,he,ha⟩
 refine mV (B:=PySem.W.hideAll s1.heap (eA (eK (bc P w) P w K mg base N qual scope f cd A outer s H E).stack)) (s:={s1 with heap:=h'}) (d:=none) (cls:=cls) (a0:=.ref t) I.ok.frames (TR.of_keeps λb o q _=>⟨o,hm.keeps b o q,rfl⟩) rfl
  (λb o q=>hm.keeps b o (hB b o q)) nB he rfl rfl rfl rfl rfl λJc x1 x4=>?_
 exact⟨e,cls,.ref t,_,none,H1,rfl,I.os,I.bare,qY (outer:=outer) I rfl rfl hm rfl x1 x4,hE⟩
theorem ir:cD (bc P w) (eK (bc P w) P w K mg base N qual scope f cd A outer s H E) E:=by
 intro pins σ H1 s1 e s' I hx;obtain⟨a,cls,a0,B,d,H',rfl,ho,hg,F,hE⟩:=hx;refine AF (L:=s.heap.objs.size) I.ok.frames rfl F.fly λJc x1 x2=>?_;exact⟨a,cls,a0,B,d,H',rfl,ho.trans I.os,hg,xy I rfl F x1 x2,hE⟩
end
theorem ag {X:Cx}:cD (bc P w) X λ_ _ _=>False:=by
 intro pins σ H1 s1 e s' I hx;obtain⟨a,cls,a0,B,d,H',_,_,_,_,hE⟩:=hx;exact hE.elim
noncomputable def AD (a:Addr)(cls:Value):HO:=.ext λh=>∃o vs,h.get? a=some o/\o.cls=cls/\o.data=.fields vs
theorem zE (e:h.get? a=some o)(hc:o.cls=cls)(hd:o.data=.fields vs):ba P w H h a (AD a cls):=
 ⟨⟨o,vs,e,hc,hd⟩,⟨o,e⟩,λh1 h2 ⟨o,vs,e,hc,hd⟩ k=>⟨o,vs,k o e,hc,hd⟩⟩
theorem sO (k:gk P w H h)(e:H a=some (AD a cls)):∃o vs,h.get? a=some o/\o.cls=cls/\o.data=.fields vs:=(k a _ e).1
noncomputable def eB (vs:BU):Prop:=∃t:Addr,vs = #[.ref t,.none,.none,.none,.bool false,.none]
noncomputable def dO (a:Addr)(cls:Value)(dx:Addr)(fr:Bool):HO:=.ext λh=>∃o vs,h.get? a=some o/\o.cls=cls/\o.data=.fields vs/\o.dict=some dx/\(fr=true->eB vs)
noncomputable def qJ (a:Addr)(cls:Value):Option Addr->HO
 |none=>AD a cls
 |some dx=>dO a cls dx false
theorem AO (e:h.get? a=some o)(hc:o.cls=cls)(hd:o.data=.fields vs)(hx:o.dict=d):ba P w H h a (qJ a cls d):=by
 cases d with
 |none=>exact zE e hc hd
 |some dx=>exact⟨⟨o,vs,e,hc,hd,hx,λz=>by cases z⟩,⟨o,e⟩,λh1 h2 ⟨o,vs,e,hc,hd,hx,z⟩ k=>⟨o,vs,k o e,hc,hd,hx,z⟩⟩
theorem zT.first {B:Heap}{e:Addr}{a0:Value}(x:zT B l e cls a0 fl d h):∃oe vs,h.get? e=some oe/\oe.cls=cls/\oe.data=.fields vs/\oe.dict=d :=
 let⟨o,vs,_,_,_,h1,h2,h3,h4,_⟩:=x.tr;⟨o,vs,h1,h3.1,h4,h2⟩
noncomputable def DO (X:Cx)(pins:List (Addr×Obj))(E:St->XK):Value->Shared->Prop:=λe s'=>∃σ H s,Inv X pins σ H s/\bc X.prog X.w X.stack H s (E σ) e s'
noncomputable abbrev Cx.tr (X:Cx)(pins:List (Addr×Obj))(E:St->XK):Cx:={X with pn:=X.pn++pins,xe:=DO X pins E}
noncomputable abbrev Cx.hd (X:Cx)(a:Addr):Cx:={X with A:=X.A.mark (some (.ref a)),calm:=false,xe:=λ_ _=>False}
variable {M:Model}{A:Around}
section
variable {X:Cx}{pins pins':List (Addr×Obj)}{σ:St}{H:Hp}{s:GH}{E:St->XK}{a:Addr}
theorem BO (I:Inv X pins σ H s):Inv (X.tr pins E) [] σ H s :=
 ⟨⟨I.ok.mod,I.ok.kind,I.ok.glob,I.ok.blt,I.ok.above,I.ok.inj,I.ok.has,I.ok.cab,I.ok.hd,I.ok.frames,I.ok.stk,I.ok.exf,I.ok.bs,I.ok.bsz,I.ok.abI,I.ok.abT,I.ok.aap,I.ok.frf⟩,I.os,I.bare,I.base,I.loc,I.cell,I.free,I.aal,λp hp=>I.pin p (by
   have z:p∈(X.pn++pins)++[]:=hp;rw[List.append_nil] at z
   exact z),I.hok,I.len⟩
theorem gL (I:Inv (X.tr pins E) pins' σ H s):Inv X pins σ H s :=
 ⟨⟨I.ok.mod,I.ok.kind,I.ok.glob,I.ok.blt,I.ok.above,I.ok.inj,I.ok.has,I.ok.cab,I.ok.hd,I.ok.frames,I.ok.stk,I.ok.exf,I.ok.bs,I.ok.bsz,I.ok.abI,I.ok.abT,I.ok.aap,I.ok.frf⟩,I.os,I.bare,I.base,I.loc,I.cell,I.free,I.aal,λp hp=>I.pin p (List.mem_append_left _ hp),I.hok,I.len⟩
theorem xY (I:Inv X pins σ H s):Inv (X.hd a) pins σ H s :=
 ⟨⟨I.ok.mod,I.ok.kind,I.ok.glob,I.ok.blt,I.ok.above,I.ok.inj,I.ok.has,I.ok.cab,(λz=>absurd (show false=true from z) (by decide)),I.ok.frames,I.ok.stk,I.ok.exf,I.ok.bs,I.ok.bsz,I.ok.abI,I.ok.abT,I.ok.aap,I.ok.frf⟩,I.os,I.bare,I.base,I.loc,I.cell,I.free,I.aal,I.pin,I.hok,I.len⟩
theorem iW (ok:X.Ok)(I:Inv (X.hd a) pins σ H s):Inv X pins σ H s :=
 ⟨ok,I.os,I.bare,I.base,I.loc,I.cell,I.free,I.aal,I.pin,I.hok,I.len⟩
theorem jJ {D:Ends}{f:Flow}{s':GH}(h:SP (X.tr pins E) [] D f s'):SP X pins D f s':=by
 cases f with
 |next=>obtain⟨σ',H',I,q⟩:=h;exact⟨σ',H',gL I,q⟩
 |brk=>obtain⟨σ',H',I,q⟩:=h;exact⟨σ',H',gL I,q⟩
 |cont=>obtain⟨σ',H',I,q⟩:=h;exact⟨σ',H',gL I,q⟩
 |ret u=>obtain⟨v,σ',H',I,r,q⟩:=h;exact⟨v,σ',H',gL I,r,q⟩
theorem rq:∀(pins':List (Addr×Obj))(σ:St)(H:Hp)(s:GH)(e:Value)(s':GH),Inv (X.tr pins E) pins' σ H s->bc X.prog X.w X.stack H s (E σ) e s'->(X.tr pins E).xe e s':=λpins' σ H s e s' I hx=>⟨σ,H,s,gL I,hx⟩
noncomputable def FK (K:PySem.W.Frag)(c:Value)(i:Nat)(ts:TS)(D:Ends):St->XK:=λσ cls d H'=>PySem.W.exmOne K cls c=some true/\∀a,H' a=none →
 ts {nx:=λσ' H2=>D.nx (σ'.set i none) H2,rt:=D.rt,bk:=λσ' H2=>D.bk (σ'.set i none) H2,ct:=λσ' H2=>D.ct (σ'.set i none) H2} (σ.set i (some (.ref a))) (upd H' a (qJ a cls d))
noncomputable def ER (K:PySem.W.Frag)(c:Value)(i:Nat)(tb:(St->XK)->TS)(ts:TS):TS:=λD σ H=>tb (FK K c i ts D) D σ H
theorem gR {E':wA}{i:Nat}{n:Str}{pos:Pos}{Q:Unit->Shared->Prop}(I:Inv X pins σ H s)(hN:X.N.Nodup)(hi:X.N[i]?=some n)(hl:X.env.scope.names.lookup n=some .local)
 (h:∀s',Inv X pins (σ.set i none) H s'->Q () s'):wpAny M A (do bindName X.env n .none;unbindBehindTheSuite X.env n pos) Q E' s:=by
 obtain⟨m,hn,TU⟩:=id I.loc;refine wpAny_nameGoes_keeps hl hn (by rw[I.ok.kind];rfl) λh' v Ly hs=>h _ ?_;have nL:∀b o,X.s₀.heap.get? b=some o->b≠X.env.locals:=λb o e=>Nat.ne_of_lt (Nat.lt_of_lt_of_le (Heap.lt_size e) I.ok.above);refine⟨I.ok,I.os,I.bare,⟨λb o e n hb hx=>(hs.2 b (nL b o e)).trans (I.base.keep b o e n hb hx),λb o e n hb hx=>?_,I.base.free,λb o e hx=>?_,I.base.aan,I.base.aam,I.base.aas⟩,⟨_,Ly,λj y w' e1 e2 e3=>?_⟩,λy c e=>?_,I.free,I.aal,λp hp=>?_,λb u e=>?_,by simpa using I.len⟩
 ·obtain⟨sl,e1⟩:=I.base.slot b o e n hb hx;exact⟨sl,(hs.2 b (nL b o e)).trans e1⟩
 ·obtain⟨o',e1⟩:=I.base.there b o e hx;exact⟨o',(hs.2 b (nL b o e)).trans e1⟩
 ·have hj:j≠i:=λz=>by
   subst z
   by_cases GV:j<σ.length
   ·rw[List.getElem?_set_self GV] at e2;cases e2
   ·rw[List.getElem?_eq_none (by simpa using GV)] at e2;cases e2
  rw[List.getElem?_set_ne (Ne.symm hj)] at e2;obtain⟨u,r,q⟩:=TU j y w' e1 e2 e3;refine⟨u,r,?_⟩
  rcases q with⟨k,e⟩|⟨k,c,e,z⟩
  ·refine .inl ⟨k,?_⟩;have hyn:y≠n:=λe=>hj (kb hN e1 (e▸hi));show(if y=n then v else m y)=some u;rw[if_neg hyn];exact e
  ·exact .inr ⟨k,c,e,z.sameBut hs (I.cne y c e)⟩
 ·obtain⟨w',z⟩:=I.cell y c e;exact⟨w',z.sameBut hs (I.cne y c e)⟩
 ·obtain⟨e,n',ne,nf,d⟩:=I.pin p hp;exact⟨(hs.2 p.1 ne).trans e,n',ne,nf,d⟩
 ·refine(I.hok b u e).abw (λc w' hc q=>(hs.2 c ?_).trans q) (λ_ q=>q) λ_ _ q=>q;rintro rfl
  rcases hc with rfl|hc
  ·rw[I.free] at e;cases e
  ·rw[I.free] at hc;cases hc
theorem Cs {n:Str}{i:Nat}{np TV pos:Pos}{body KR:List Stmt}{b₀:Stmt}{tb:(St->XK)->TS}{ts:TS}(Ij:X.stack=X.env::X.outer)(Jr:X.env.frame=some X.env.locals)(hN:X.N.Nodup)(hi:X.N[i]?=some n)
 (hl:X.env.scope.names.lookup n=some .local)(hg:Gl X x)(hm:X.mg x=some (.ref C))(hb:∀pins E,pz (X.tr pins E) body (tb E))(hs:∀a,pz (X.hd a) (b₀::KR) ts)(hd:(x==("__debug__":Str))=false:=by decide):
 PS X (.Try body [.ExceptHandler (some (.Name x np)) (some n) (b₀::KR) TV] [] [] pos) (ER X.K (.ref C) i tb ts):=by
 intro pins s σ H D I h;refine wpAny_Try_except (wpAny_mono (hb pins _ [] s σ H D (BO I) h) (λf s1 q=>?_) λe s1 q=>?_)
 ·cases f with
  |next=>exact wpAny_execs_nil (jJ q)
  |ret v=>exact jJ q
  |brk=>exact jJ q
  |cont=>exact jJ q
 ·obtain⟨σ1,H1,s0,I1,a,cls,a0,B,d,H2,rfl,ho,Yp,F,hx,hw⟩:=q
  have frm:X.A.frames=some (X.env::X.outer):=by rw[I.ok.frames,Ij]
  have fl:=F.fly;rw[Ij] at fl;refine wB frm Jr fl λh4 held Yq=>iK (s:={s1 with heap:=h4}) held λh5 TY Yr=>?_
  have TZ:zT B X.stack a cls a0 .none d h5:=by rw[Ij];exact TY
  have I5:Inv X pins σ1 H2 {s1 with heap:=h5}:=lQ (tk:=s1.toks) I1 ho Yp F TZ (Yq.trans Yr);obtain⟨ob,_,hob,T3,_,_⟩:=TY.first;have I5h:Inv (X.hd a) pins σ1 H2 {s1 with heap:=h5}:=xY I5;refine wpAny_handleBy_cons (codeAny_handlers_test (dE I5h hg hm ?_ hd)) (by intro q;cases q);have LT:PySem.W.Looks (model X.prog X.w) h5 (typeOf (.ref a)) cls:=T3▸(PySem.W.Looks.ld hob).andThen .now;refine(PySem.W.exm_one (M:=model X.prog X.w) I5.kIn LT hx) _ _ _ _ (λ_ _ e=>e) ?_;refine codeAny_handlers_suite_as ?_;refine iK (s:={s1 with heap:=h5}) TY λh6 Ys sm6=>?_
  have Kl:zT B X.stack a cls a0 .none d h6:=by rw[Ij];exact Ys
  have I6:Inv X pins σ1 H2 {s1 with heap:=h6}:=lQ (tk:=s1.toks) I1 ho Yp F Kl ((Yq.trans Yr).trans sm6);obtain⟨oe,vs,JB,T4,Km,T5⟩:=Ys.first
  have I7:Inv X pins σ1 (upd H2 a (qJ a cls d)) {s1 with heap:=h6}:=by
   have nB:X.s₀.heap.get? a=none\/True:=.inr trivial;refine⟨I6.ok,I6.os,I6.bare,?_,I6.loc,I6.cell,?_,?_,?_,d8 I6.hok F.new (AO JB T4 Km T5),I6.len⟩
   ·refine⟨I6.base.keep,I6.base.slot,λb o e n RG=>?_,I6.base.there,λb xs e=>?_,λb o u e=>?_,λb ps e=>?_⟩
    ·have HH:b≠a:=λz=>by
      subst z;have e1:=I1.base.there b o e RG;obtain⟨o1,e1⟩:=e1
      by_cases Yt:b∈eA X.stack
      ·have:=(Kl.fr.mem Yt);obtain⟨_,o2,e2,d2⟩:=this;rw[JB] at e2
       cases e2
       exact d2 vs Km
      ·obtain⟨o2,e2⟩:=F.there b o1 e1 Yt;rw[Kl.new] at e2
       cases e2
     rw[aq HH];exact I6.base.free b o e n RG
    ·rw[aq (av (I6.base.aan b xs e) F.new)];exact I6.base.aan b xs e
    ·rw[aq (av (I6.base.aam b o u e) F.new)];exact I6.base.aam b o u e
    ·obtain⟨m,q⟩:=I6.base.aas b ps e;exact⟨m,by rw[aq (av q F.new)];exact q⟩
   ·have HH:X.env.locals≠a:=λz=>by
     obtain⟨m,⟨o,es,ep,e,d,_⟩,_⟩:=I6.loc;rw[z,JB] at e
     cases e
     rw[Km] at d
     cases d
    rw[aq HH];exact I6.free
   ·intro y c e
    have HH:c≠a:=λz=>by
     obtain⟨v,o,e1,d⟩:=I6.cell y c e;rw[z,JB] at e1
     cases e1
     rw[Km] at d
     cases d
    rw[aq HH];exact I6.aal y c e
   ·intro p hp;obtain⟨e,n',ne,nf,d⟩:=I6.pin p hp;refine⟨e,?_,ne,nf,d⟩
    have HH:p.1≠a:=λz=>by
     obtain⟨e1,n1,_,nf1,_⟩:=I1.pin p hp
     have nst:p.1∉eA X.stack:=λq=>by
      rcases List.mem_cons.mp (I1.aav _ q) with w|w
      ·exact ne w
      ·exact nf w
     obtain⟨o2,e2⟩:=F.there p.1 _ e1 nst;rw[z,Kl.new] at e2
     cases e2
    rw[aq HH];exact n'
  refine gw (M:=model X.prog X.w) I7 hN hi (.inl hl) (show aG (.ref a) (.ref a) from rfl) (λs8 I8=>?_) (.inr hl);refine wpAny_mono (hs a pins s8 _ _ _ (xY I8) (hw a F.new)) (λf s9 q=>?_) λ_ _ z=>False.elim z
  cases f with
  |next =>
   obtain⟨σ9,H9,I9,q9⟩:=q;exact gR (iW I.ok I9) hN hi hl λIT LH=>⟨_,_,LH,q9⟩
  |brk =>
   obtain⟨σ9,H9,I9,q9⟩:=q;exact gR (iW I.ok I9) hN hi hl λIT LH=>⟨_,_,LH,q9⟩
  |cont =>
   obtain⟨σ9,H9,I9,q9⟩:=q;exact gR (iW I.ok I9) hN hi hl λIT LH=>⟨_,_,LH,q9⟩
  |ret u =>
   obtain⟨v,σ9,H9,I9,r9,q9⟩:=q;exact gR (iW I.ok I9) hN hi hl λIT LH=>⟨v,_,_,LH,r9,q9⟩
end
structure AI (K:Frag)(C:Addr):Prop where
 cls:(clsIn K C).isSome=true
 ga:findIn K (.ref C) "__getattribute__"=some (some (.builtin "BaseException.__getattribute__"))
 gx:findIn K (.ref C) "__getattr__"=some none
 ca:findIn K (.ref C) "__class__"=some (some (.builtin "object.__class__"))
 ob:mroIn K C (.type "object")=some true
 be:mroIn K C (.type "BaseException")=some true
section
variable {prog:wM}{w:World}{A:Around}{E:wA}{K:Frag}{x C:Addr}{ox:Obj}
theorem nJ {KS:Value}{Q:Unit->Shared->Prop}(X:K.In s.heap)(k:AI K C)(e:s.heap.get? x=some ox)(hc:ox.cls=.ref C)(hq:Q () s):
 wpAny M A (checkBuiltinCall "BaseException.__getattribute__" ⟨[.ref x,KS],[]⟩) Q E s:=by
 obtain⟨hh,g,d,t,os⟩:=s;have L0:Looks M hh (typeOf (.ref x)) (.ref C):=hc▸(Looks.ld e).andThen .now;have L5:=looks_mroIn (M:=M) X k.be
 have hk:builtinKind "BaseException.__getattribute__"=some .slot:=by decide +kernel
 have Jd:splitId "BaseException.__getattribute__"=some ("BaseException","__getattribute__"):=by decide +kernel
 have ha:=F.args_bexc_ga (.ref x) KS;simp only[checkBuiltinCall,hk,Jd];unfold isInstance
 repeat (any_goals (first|assumption|lk|wp_step))
open Builtin Builtin.ObjectAttr Builtin.Getset_descriptor in
theorem my {R:Result->Shared->Prop}{tp:Value}(X:K.In s.heap)(k:AI K C)(e:s.heap.get? x=some ox)(hc:ox.cls=.ref C)(h:R (.ok (.ret (.ref C))) s):
 codeAny (model prog w) A (.call (.builtin "getset_descriptor.__get__") ⟨[.builtin "object.__class__",.ref x,tp],[]⟩) R s:=by
 obtain⟨hh,g,dr,t,os⟩:=s;have L0:Looks (model prog w) hh (typeOf (.ref x)) (.ref C):=hc▸(Looks.ld e).andThen .now;have L1:=looks_mroIn (M:=model prog w) X k.ob;refine codeAny_call_builtin KF.slot_gs.plain KF.entry_gs (KF.slot_gs.check _ _ _ _ _ _ _ _ KF.type_class (KF.args_gs _ _ _) ?_);unfold Builtin.«getset_descriptor.__get__» descrGet;rw[dga_obj];refine wpAny_bind (wpAny_pure ?_);unfold descrGetter descrCheckInstance descrNameAndClass isInstance;simp only[KF.owner_class]
 repeat lk
 refine⟨Code.quiet_builtin _ (by decide +kernel),codeAny_builtin KF.entry_class ?_⟩;unfold Builtin.«object.__class__» shownTypeOf
 repeat lk
 exact h
theorem jE {tk:Tok}{Q:PySem.Fin->Shared->Prop}(X:K.In s.heap)(k:AI K C)(e:s.heap.get? x=some ox)(hc:ox.cls=.ref C)(hq:Q (.done (.ret (.ref C))) s):
 wpAny (model prog w) A (Builtin.«object.__getattribute__» ⟨[.ref x,.str "__class__" tk],[]⟩) Q E s:=by
 obtain⟨hh,g,d,t,os⟩:=s;have L0:Looks (model prog w) hh (typeOf (.ref x)) (.ref C):=hc▸(Looks.ld e).andThen .now;have L3:=looks_findIn (M:=model prog w) X k.ca;have f5:=F.typeOf_object_class;have f6:=F.slot_gs_get.lookup;have f7:=F.slot_gs_set.lookup
 repeat (any_goals (first|assumption|(with_reducible refine Looks.at (by assumption) ?_)|(with_reducible refine Looks.at L0 ?_)|wp_step))
 refine my X k e hc ?_
 repeat (any_goals (first|assumption|wp_step))
theorem oE {tk:Tok}{fill expr:Bool}{Q:wA}{s:GH}(X:K.In s.heap)(k:AI K C)(e:s.heap.get? x=some ox)(hc:ox.cls=.ref C)(hq:Q (.ref C) s):
 wpAny (model prog w) A (getAttrBy (.ref x) (.str "__class__" tk) fill expr) Q E s:=by
 obtain⟨hh,g,d,t,os⟩:=s;have L0:Looks (model prog w) hh (typeOf (.ref x)) (.ref C):=hc▸(Looks.ld e).andThen .now;have L1:=looks_findIn (M:=model prog w) X k.ga;have L2:=looks_findIn (M:=model prog w) X k.gx;have f3:=F.attr_ValueError.ga.bind (.ref x)
 have hx0:(expr&&onTheHeap (Value.builtin "BaseException.__getattribute__"))=false:=by cases expr <;> rfl
 have Jl:(Value.builtin "BaseException.__getattribute__"==Value.builtin "object.__getattribute__")=false:=by decide +kernel
 have hx1:(onTheHeap (Value.ref C)&&Value.builtin "BaseException.__getattribute__"==Value.builtin "object.__getattribute__")=false:=by rw[Jl];rfl
 repeat (any_goals (first|assumption|(with_reducible refine Looks.at (by assumption) ?_)|(with_reducible refine Looks.at L0 ?_)|wp_step))
 refine codeAny_call_builtin F.attr_ValueError.ga.plain F.entry_bexc_ga (nJ X k e hc (jE X k e hc ?_))
 repeat (any_goals (first|assumption|wp_step))
theorem vz {Q:Option Value->Shared->Prop}(X:K.In s.heap)(k:AI K C)(e:s.heap.get? x=some ox)(hc:ox.cls=.ref C)(hq:Q (some (.ref C)) {s with toks:=s.toks+1}):
 wpAny (model prog w) A (getAttr? (.ref x) "__class__") Q E s:=by
 unfold getAttr? getAttrBy?;refine wpAny_bind (wpAny_mkText (wpAny_bind (wpAny_attempt (oE (s:={s with toks:=s.toks+1}) X k e hc ?_))));exact wpAny_pure hq
theorem lA (k:AI K C):KitX K (.ref x) (.ref C) (λh=>∃o,h.get? x=some o/\o.cls=.ref C) where
 ty:=λ_ _ _ ⟨o,e,hc⟩=>hc▸(Looks.ld e).andThen .now
 it:=λ_ _ X _=>by
  have Jq:=k.cls;unfold clsIn at Jq
  split at Jq
  ·rename_i c' d' cd' IY ho
   intro A' Q' E' s' kk q;unfold isType loadHead;exact wpAny_bind (wpAny_loadPart (kk _ _ (X _ _ ho)) (wpAny_pure q))
  ·cases Jq
 ne:=λh tp dd its n sl X LI=>by
  have Jq:=k.cls;refine Bool.eq_false_iff.mpr λq=>?_;have e:C=tp:=Value.ref.inj (beq_iff_eq.mp q);subst e;unfold clsIn at Jq
  split at Jq
  ·rename_i c' d' cd' IY ho
   have z:=(X _ _ ho).symm.trans LI
   cases z
  ·cases Jq
 ca:=λX ⟨o,e,hc⟩ q=>vz X k e hc q
end
section
variable {X:Cx}{pins:List (Addr×Obj)}{σ:St}{H:Hp}{s:GH}
inductive Eg (K:Frag)(H:Hp):V->Value->Prop where
 |of {x:V}{t:Value}(h:EV K H x t):Eg K H x t
 |exc {a C:Addr}(e:H a=some (AD a (.ref C)))(k:AI K C):Eg K H (.ref a) (.ref C)
theorem Cf {E:wA}{Q:wA}{x:V}{u t c:Value}{b:Bool}(I:Inv X pins σ H s)(rx:aG x u)(ty:Eg X.K H x t)(e:kitOne X.K t c=some b)(h:∀tk,Q (.bool b) {s with toks:=tk}):
 wpAny (model X.prog X.w) A (call (.builtin "isinstance") [u,c]) Q E s:=by
 cases ty with
 |of z=>exact acA I rx z e h
 |exc ea k =>
  rename_i a C
  cases(show u=Value.ref a from rx)
  obtain⟨o,vs,h1,h2,_⟩:=sO I.hok ea;exact kia_one (lA k) I.kIn ⟨o,h1,h2⟩ e (λz=>nomatch z) h
noncomputable def BZ:V->Value->Prop
 | .ty n,c=>c=.type n
 | .ref a,c=>c=.ref a
 |_,_=>False
theorem bf:cb X (.builtin "isinstance") (λxs H Q=>∃x c t cv b,xs=[x,c]/\BZ c cv/\Eg X.K H x t/\kitOne X.K t cv=some b/\Q (.bl b) H):=by
 intro pins s σ H xs us Q I r h;obtain⟨x,c,t,cv,b,rfl,hc,ty,e,q⟩:=h
 cases r with
 |cons r1 r2 =>
  cases r2 with
  |cons r2 r3 =>
   cases r3
   rename_i u uc
   have T6:uc=cv:=by
    cases c with
    |ty n=>cases(show uc=Value.type n from r2);exact hc.symm
    |ref a=>cases(show uc=Value.ref a from r2);exact hc.symm
    |_=>exact hc.elim
   subst T6;exact Cf I r1 ty e λtk=>⟨.bl b,H,I.tok tk,rfl,q⟩
end
variable {N:xQ}{k:Nat}{sp:Sp}
section
variable {P:wM}{w:World}{K:PySem.W.Frag}{mg:vJ}{base:Heap}
theorem E6.okN (F:E6 K x qual st f fd)(S:uQ N ps (ar st))(len:∀vs H Q E,sp vs H Q E->vs.length=ps.length)
 (Ic:∀(GL:Value)(A:Around)(outer:List Env)(s:GH)(H:Hp)(vs:List V)(Q:VK)(E:XK),pL k (A.deeper (envOfC qual (ar st) s.heap.objs.size f GL))->sp vs H Q E →
  ∃t,pz (eK (bc P w) P w K mg base N qual (ar st) f GL A outer s H E).nox (cu st) t/\t {nx:=λ_ H'=>Q .non H',rt:=Q} (hJ N vs) H):Cy P w K mg base (bc P w) (k+1) f fd ps sp:=by
 obtain⟨oc,od,kV,doc,pm,an,GL,ct,GZ,rfl,lk,HB⟩:=F.ex;refine yU lk HB S len λA outer s H vs Q E hr Jz=>?_;obtain⟨t,h,q⟩:=Ic GL A outer s H vs Q E hr Jz;exact⟨t,h.nox,q⟩
theorem E6.okE (F:E6 K x qual st f fd)(S:uQ N ps (ar st))(len:∀vs H Q E,sp vs H Q E->vs.length=ps.length)
 (Ic:∀(GL:Value)(A:Around)(outer:List Env)(s:GH)(H:Hp)(vs:List V)(Q:VK)(E:XK),pL k (A.deeper (envOfC qual (ar st) s.heap.objs.size f GL))->sp vs H Q E →
  ∃t,pz (eK (bc P w) P w K mg base N qual (ar st) f GL A outer s H E) (cu st) t/\t {nx:=λ_ H'=>Q .non H',rt:=Q} (hJ N vs) H):Cy P w K mg base (bc P w) (k+1) f fd ps sp:=by
 obtain⟨oc,od,kV,doc,pm,an,GL,ct,GZ,rfl,lk,HB⟩:=F.ex;exact yU lk HB S len λA outer s H vs Q E hr Jz=>Ic GL A outer s H vs Q E hr Jz
end
section
variable {X:Cx}{pins:List (Addr×Obj)}{σ:St}{H:Hp}{s:GH}
theorem xn {x:V}{u t:Value}(I:Inv X pins σ H s)(rx:aG x u)(ty:Eg X.K H x t):Looks (model X.prog X.w) s.heap (typeOf u) t:=by
 cases ty with
 |of ty =>
  cases ty with
  |non=>cases(show u=Value.none from rx);exact kitx_none.ty _ _ I.kIn True.intro
  |bl y=>cases(show u=Value.bool y from rx);exact kitx_bool.ty _ _ I.kIn True.intro
  |int i=>obtain⟨t,q⟩:=(show ∃t,u=Value.int i t from rx);cases q;exact kitx_int.ty _ _ I.kIn True.intro
  |str y=>obtain⟨t,q⟩:=(show ∃t,u=Value.str y t from rx);cases q;exact kitx_str.ty _ _ I.kIn True.intro
  |flt y=>obtain⟨t,q⟩:=(show ∃t,u=Value.float y t from rx);cases q;exact kitx_float.ty _ _ I.kIn True.intro
  |@lst a xs ea =>
   cases(show u=Value.ref a from rx)
   obtain⟨_,_,n,_,h1⟩:=(show ba X.prog X.w H s.heap a (.lst xs) from I.hok a _ ea);exact kitx_list.ty _ _ I.kIn ⟨_,h1,rfl⟩
  |@frz a ob xs ea =>
   cases(show u=Value.ref a from rx)
   obtain⟨_,_,_,n,_,h1⟩:=(show ba X.prog X.w H s.heap a (.frz ob (.lst xs)) from I.hok a _ ea);exact kitx_list.ty _ _ I.kIn ⟨_,h1,rfl⟩
  |@tup a xs ea =>
   cases(show u=Value.ref a from rx)
   obtain⟨_,_,_,p⟩:=(show ba X.prog X.w H s.heap a (.tup xs) from I.hok a _ ea);obtain⟨o,h1,h2,_⟩:=p;exact kitx_tuple.ty _ _ I.kIn ⟨o,h1,h2⟩
  |@dK a GK ea =>
   cases(show u=Value.ref a from rx)
   obtain⟨_,_,vs,_,p⟩:=(show ba X.prog X.w H s.heap a (.dK GK) from I.hok a _ ea);obtain⟨o,es,ep,h1,h2,_⟩:=p;exact kitx_dict.ty _ _ I.kIn ⟨o,h1,h2.1⟩
  |@dT a GK ea =>
   cases(show u=Value.ref a from rx)
   obtain⟨_,_,xs,_,o,es,ep,h1,h2,_⟩:=(show ba X.prog X.w H s.heap a (.dT GK) from I.hok a _ ea);exact kitx_dict.ty _ _ I.kIn ⟨o,h1,h2.1⟩
  |@ins a C dx fs ea cl ha hn Tp hm =>
   cases(show u=Value.ref a from rx)
   obtain⟨mA,O,_⟩:=dD I.hok ea;obtain⟨od,J,_⟩:=O.look;exact J.type
 |exc ea k =>
  rename_i a C
  cases(show u=Value.ref a from rx)
  obtain⟨o,vs,h1,h2,_⟩:=sO I.hok ea;exact h2▸(Looks.ld h1).andThen .now
end
variable {K:Frag}
section
variable {X:Cx}{CX:GC}{k:Nat}{f C:Addr}{fd:GF}{ps:xQ}{sp:Sp}{E:XK}
noncomputable def iu (K:Frag)(C:Addr)(sp:Sp)(E:XK)(neg:Bool):R2:=λx y H Q=>∃p dx fs t,x=.ref p/\H p=some (.ins C dx fs)/\Eg K H y t/\notFirst K C t=true/\sp [x,y] H (λv H'=>∃b,v=.bl b/\Q (.bl (b != neg)) H') E
theorem iA (hs:findIn X.K (.ref C) "__eq__"=some (some (.ref f)))(hf:isFn X.K (.ref f)=true)(F:Cy X.prog X.w X.K X.mg X.base CX k f fd ps sp)(hr:pL k X.A)(hb:aI X.K fd ps [])(hx:cD CX X E):
 dX X (compareOp .Eq) (iu X.K C sp E false):=by
 intro pins s σ H x y v u Q I rx ry h;obtain⟨p,dx,fs,t,rfl,ep,ty,hn,q⟩:=h
 cases(show v=Value.ref p from rx)
 obtain⟨mA,O,_⟩:=dD I.hok ep;obtain⟨od,J,_⟩:=O.look;obtain⟨m,Fm⟩:=I.fr;refine cmp_ofEq (cmp_K hr.abW Fm I.mod.kin J (xn I ry ty) hn hs hf ?_);refine bA (k9 (dvs:=[]) F hr hb .nil hx I (us:=[.ref p,u]) (vs:=[.ref p,y]) (.cons rx (.cons ry .nil)) q) λr s1 z'=>?_;obtain⟨z,H1,I1,rz,b,eb,q1⟩:=z';subst eb
 cases(show r=Value.bool b from rz)
 exact⟨.bl b,H1,I1,rfl,by simpa using q1⟩
theorem tX {Q:VK}{us:oH}{vs:List V}(F:Cy X.prog X.w X.K X.mg X.base CX k f fd ps sp)(hr:pL (k+1) X.A)(hb:aI X.K fd ps [])(hx:cD CX X E)
 (I:Inv X pins σ H s)(r:aK vs us)(h:sp vs H Q E):wpAny (model X.prog X.w) X.A.in1 (call (.ref f) us) (EP X pins σ Q) X.xe s:=by
 have hl:us.length=ps.length:=by rw[<-r.length];exact F.len _ _ _ _ h
 have HY:=hb s us I.kIn (by rw[List.append_nil];exact hl);rw[List.append_nil] at HY;refine wpAny_call (codeAny_mono (F.run X.A.in1 X.stack s H ⟨us,[]⟩ us vs Q E hr.in1 I.aby.in1 HY r h) λr s' hq=>?_)
 cases r with
 |error e=>exact hx pins σ H s e s' I hq
 |ok fl =>
  cases fl with
  |ret u=>exact I.after hq
  |next=>exact False.elim hq
  |brk=>exact False.elim hq
  |cont=>exact False.elim hq
theorem xk {E':wA}{x:Addr}{b:Value}{ox:Obj}{od:Option Obj}{Q:Unit->Shared->Prop}(X:K.In s.heap)(J:InstAt s.heap x ox C od)(hm:mroIn K C (.type "object")=some true)(hq:Q () s):
 wpAny M A (checkBuiltinCall "object.__ne__" ⟨[.ref x,b],[]⟩) Q E' s:=by
 obtain⟨hh,g,d,t,os⟩:=s;have L0:=J.type (M:=M);have L5:=looks_mroIn (M:=M) X hm;have hk:=F.cmpKind_ne;have Jd:=F.cmpSplit_ne;have ha:=F.cmpArgs_ne (.ref x) b;simp only[checkBuiltinCall,hk,Jd];unfold isInstance
 repeat (any_goals (first|assumption|lk|wp_step))
theorem lS (hs:findIn X.K (.ref C) "__eq__"=some (some (.ref f)))(hf:isFn X.K (.ref f)=true)(Kc:findIn X.K (.ref C) "__ne__"=some (some (.builtin "object.__ne__")))(hm:mroIn X.K C (.type "object")=some true)
 (F:Cy X.prog X.w X.K X.mg X.base CX k f fd ps sp)(hr:pL (k+1) X.A)(hb:aI X.K fd ps [])(hx:cD CX X E):
 dX X (compareOp .NotEq) (iu X.K C sp E true):=by
 intro pins s σ H x y v u Q I rx ry h;obtain⟨p,dx,fs,t,rfl,ep,ty,hn,q⟩:=h
 cases(show v=Value.ref p from rx)
 obtain⟨mA,O,_⟩:=dD I.hok ep;obtain⟨od,J,_⟩:=O.look;have hu:X.A.units+64<cLine:=hr.units
 have JL:wpAny (model X.prog X.w) X.A.in1 (call (.ref f) [.ref p,u]) (λr s'=>∃b,r=.bool b/\EP X pins σ Q (.bool (!b)) s') X.xe s:=by
  refine wpAny_mono (tX F hr hb hx I (us:=[.ref p,u]) (vs:=[.ref p,y]) (.cons rx (.cons ry .nil)) q) (λr s1 z'=>?_) λ_ _ e=>e;obtain⟨z,H1,I1,rz,b,eb,q1⟩:=z';subst eb
  cases(show r=Value.bool b from rz)
  exact⟨b,rfl,.bl (!b),H1,I1,rfl,by simpa using q1⟩
 have entry:wpAny (model X.prog X.w) X.A.in1 (Builtin.«object.__ne__» ⟨[.ref p,u],[]⟩) (λfin s'=>∃b,fin=.done (.ret (.bool (!b)))/\EP X pins σ Q (.bool (!b)) s') X.xe s:=by
  unfold Builtin.«object.__ne__»;refine wpAny_bind (m:=slotArgs "__ne__" 1 _) (wpAny_pure ?_);refine wpAny_bind (wpAny_cRoomFor (by show X.A.units+1<cLine;omega) ?_);refine wpAny_bind (ifBound_K I.kIn J hs hf (wpAny_mono JL (λr s1 z=>?_) λ_ _ e=>e));obtain⟨b,rfl,q1⟩:=z;exact wpAny_bind (wpAny_truthy_bool (wpAny_pure ⟨b,rfl,q1⟩))
 have S:=PySem.F.cmp_object.ne
 have inner:wpAny (model X.prog X.w) X.A (callSpecialIfBound? (.ref p) "__ne__" [u]) (λr s'=>∃b,r=some (.bool (!b))/\EP X pins σ Q (.bool (!b)) s') X.xe s:=by
  simp only[callSpecialIfBound?,bindSpecialIfBound?];refine wpAny_holding (wpAny_bind (wpAny_bind (wpAny_bind (J.type.here ((looks_findIn I.kIn Kc).here ?_)))));simp only[S.bind];refine wpAny_bind (wpAny_askSetting (wpAny_ite ?_))
  have fin:wpAny (model X.prog X.w) X.A (call (.builtin "object.__ne__") ([.ref p]++[u])>>=λv=>pure (some v)) (λr s'=>∃b,r=some (.bool (!b))/\EP X pins σ Q (.bool (!b)) s') X.xe s:=by
   refine wpAny_bind (wpAny_call (codeAny_call_builtin S.plain PySem.F.cmpEntry_ne (xk I.kIn J hm (wpAny_mono entry (λfin s1 z=>?_) λ_ _ e=>e))));obtain⟨b,rfl,q1⟩:=z;exact wpAny_pure ⟨b,rfl,q1⟩
  split
  ·exact wpAny_bind (wpAny_pure (wpAny_pure fin))
  ·exact wpAny_tryCatch (wpAny_bind (wpAny_pure (wpAny_pure fin)))
 have one:wpAny (model X.prog X.w) X.A (tryCompare (.ref p) "__ne__" u) (λr s'=>∃v,r=some v/\EP X pins σ Q v s') X.xe s:=by
  unfold tryCompare;refine wpAny_bind (wpAny_mono inner (λr s1 z=>?_) λ_ _ e=>e);obtain⟨b,rfl,q1⟩:=z;exact wpAny_pure ⟨_,rfl,q1⟩
 refine cmp_ofNotEq ?_;unfold richCompare;simp only[oneThing_ref];refine wpAny_holding (wpAny_bind (wpAny_cRoomFor (by omega) ?_));rw[cmpInfo_NotEq];dsimp only;refine wpAny_bind (J.type.here (wpAny_bind ((xn I ry ty).here ?_)))
 split
 ·rename_i qq
  have e:subIn X.K t (.ref C)=some false:=by
   rcases Bool.or_eq_true_iff.mp hn with e|e
   ·rw[beq_iff_eq.mp e] at qq;simp at qq
   ·exact beq_iff_eq.mp e
  refine wpAny_bind ((looks_subIn I.kIn e).here ?_);simp only[Bool.false_eq_true,if_false];refine wpAny_bind (wpAny_mono one (λr s' z=>?_) λ_ _ e=>e);obtain⟨v,rfl,hq⟩:=z;exact wpAny_pure hq
 ·refine wpAny_bind (wpAny_pure ?_);simp only[Bool.false_eq_true,if_false];refine wpAny_bind (wpAny_mono one (λr s' z=>?_) λ_ _ e=>e);obtain⟨v,rfl,hq⟩:=z;exact wpAny_pure hq
end
variable {e:Expr}
section
variable {X:Cx}{pos:Pos}
noncomputable def PJ (X:Cx)(es:Bl)(t:Str->TE):Prop:=∀(out:Str)(pins:List (Addr×Obj))(s:GH)(σ:St)(H:Hp)(Q:VK),Inv X pins σ H s->t out σ H Q->wpAny (model X.prog X.w) X.A (joinParts out (evalEach es X.env)) (EP X pins σ Q) X.xe s
noncomputable def ada:Str->TE:=λout _ H Q=>out.length<=sizeLine/\Q (.str out) H
noncomputable def C5 (te:TE)(t:Str->TE):Str->TE:=λout σ H Q=>te σ H λv H1=>∃y,v=.str y/\(out++y).length<=sizeLine/\t (out++y) σ H1 Q
theorem qT:PJ X [] ada:=λout pins s σ H Q I h=>joinParts_nil ⟨.str out,H,I.tok _,⟨_,rfl⟩,h.2⟩ h.1
theorem dG {es:Bl}{t:Str->TE}(he:PE X e te)(hr:PJ X es t)(hs:evalEach (e::es) X.env=eval e X.env::evalEach es X.env:=by rfl):PJ X (e::es) (C5 te t):=by
 intro out pins s σ H Q I h;rw[hs];refine joinParts_cons (bA (he pins s σ H _ I h) λv s1 z'=>?_);obtain⟨x,H1,I1,r1,y,ey,hl,q1⟩:=z';subst ey;obtain⟨tk,rfl⟩:=(show ∃tk,v=Value.str y tk from r1);exact⟨hl,hr (out++y) pins s1 σ H1 Q I1 q1⟩
theorem oS {e1 e2:Expr}{es:Bl}{t:Str->TE}(h:PJ X (e1::e2::es) t)(hs:evalEach (e1::e2::es) X.env=eval e1 X.env::eval e2 X.env::evalEach es X.env:=by rfl):PE X (.JoinedStr (e1::e2::es) pos) (t Str.empty):=by
 intro pins s σ H Q I hq;have z:=h Str.empty pins s σ H Q I hq;rw[hs] at z;exact JoinedStr_many z
noncomputable def EB (te:TE):TE:=λσ H Q=>te σ H λv H1=>∃i:Int,v=.int i/\i.natAbs.log2<1920/\Q (.str (toString i)) H1
theorem tw (he:PE X e te):PE X (.FormattedValue e (-1) none pos) (EB te):=by
 intro pins s σ H Q I h;refine FormattedValue_plain (bA (he pins s σ H _ I h) λv s1 z'=>?_);obtain⟨x,H1,I1,r1,i,ei,hb,q1⟩:=z';subst ei;obtain⟨tk,rfl⟩:=(show ∃tk,v=Value.int i tk from r1);exact formatField_int_small hb ⟨.str (toString i),H1,I1.tok _,⟨_,rfl⟩,q1⟩
end
variable {xs:List V}
section
variable {X:Cx}
noncomputable def CC (K:PySem.W.Frag):R2:=λx y H Q=>∃p q xs,x=.ref p/\y=.ref q/\aM K H p xs/\aM K H q []/\Q (.bl (decide (xs=[]))) H
theorem kH (hr:pL k X.A):dX X (compareOp .Eq) (CC X.K):=by
 intro pins s σ H x y v u Q I rx ry h;obtain⟨p,q,xs,rfl,rfl,h1,h2,w⟩:=h
 cases(show v=Value.ref p from rx)
 cases(show u=Value.ref q from ry)
 obtain⟨its,r1,p1,_⟩:=I.list h1;obtain⟨GR,r2,p2,_⟩:=I.list h2
 cases r2
 by_cases e:xs=[]
 ·subst e
  cases r1
  refine SeqAt.eq_listAt (e:=λ_=>true) p1.isList p2.isList rfl hr.abW (λj a b=>absurd a (by simp)) ⟨.bl true,H,I,?_,by simpa using w⟩;rfl
 ·refine SeqAt.eq_list_lengthsAt p1.isList p2.isList ?_ hr.abW ⟨.bl false,H,I,rfl,by simpa[e] using w⟩;have hl:=r1.length;have hx:xs.length≠0:=λz=>e (List.eq_nil_of_length_eq_zero z)
  have:its.toArray.size≠0:=by rw[List.size_toArray];omega
  simpa using this
theorem yO {us:oH}(r:aK xs us):∀u∈us,∃z∈xs,aG z u:=by
 induction r with
 |nil=>intro u h;cases h
 |cons r _ ih =>
  intro u h
  rcases List.mem_cons.mp h with rfl|h
  ·exact⟨_,List.mem_cons_self,r⟩
  ·obtain⟨z,hz,q⟩:=ih u h;exact⟨z,List.mem_cons_of_mem _ hz,q⟩
noncomputable def BX (K:PySem.W.Frag):V->List V->Hp->VK->Prop:=λx vs H Q=>∃l xs y j,x=.ref l/\vs=[y]/\aM K H l xs/\(∀z∈xs,gH z=true)/\gH y=true/\(∃z,xs[j]?=some z/\vZ z y=true)/\(∀i z,i<j->xs[i]?=some z->vZ z y=false)/\j<1000/\Q (.int (j:Nat)) H
theorem qt:Dh X "list.index" (BX X.K):=by
 intro pins s σ H x vs v us Q I rx rv h;obtain⟨l,xs,y,j,rfl,rfl,hS,hf,fy,⟨z0,RS,e0⟩,JI,hj,q⟩:=h
 cases(show v=Value.ref l from rx)
 obtain⟨u,rfl,ru⟩:=rv.one;obtain⟨its,r,⟨⟨oc,od,Oc,GZ⟩,n,e,hc,hd,Yu⟩,_⟩:=I.list hS;simp only at hc hd Yu;subst hc hd Yu;obtain⟨w0,Yv,r0⟩:=r.get RS
 have GV:j<its.toArray.size:=by rw[List.size_toArray];exact(List.getElem?_eq_some_iff.mp Yv).1
 have at0:its.toArray[j]=w0:=by
  have z:=(List.getElem?_eq_some_iff.mp Yv).2;simpa using z
 refine call_meets F.slot_list_index ⟨_,e,rfl⟩ F.entry_list_index (F.args_list_index_2 _ _) (SeqAt.list_indexAt l its.toArray n none GZ u (zp y) j GV (by omega) (by rw[at0,lF r0 (hf _ (List.mem_of_getElem? RS))];exact e0) (λm hm hmj=>?_)) ⟨e,λz hz=>?_,⟨.int _,H,I.tok _,⟨s.toks,rfl⟩,q⟩⟩
 ·have KQ:m<xs.length:=by rw[r.length];simpa using hm
  obtain⟨w1,hw1,r1⟩:=r.get (show xs[m]?=some xs[m] by simp[KQ])
  have Of:its.toArray[m]=w1:=by
   have z:=(List.getElem?_eq_some_iff.mp hw1).2;simpa using z
  rw[Of,lF r1 (hf _ (List.getElem_mem KQ))];exact JI m _ hmj (by simp[KQ])
 ·obtain⟨zv,Yw,rz⟩:=yO r z (by simpa using hz);rw[lF rz (hf zv Yw)];exact xF rz ru (hf zv Yw) fy
end
noncomputable def yJ (tabs:List (Addr×Addr))(H:Hp):Prop:=(∀b,H b=none\/(∃o xs,H b=some (.frz o (.lst xs)))\/(H b=some (.tbl #[])/\∃c,(c,b)∈tabs))/\∀q∈tabs,H q.2=some (.tbl #[])
structure Dx (tabs:List (Addr×Addr))(mg:vJ)(base:Heap):Prop where
 hd:∀q∈tabs,CodeHd base q.1 q.2
 bm:∃bm ob,mg "__builtins__"=some (.ref bm)/\bm≠builtinsNs/\base.get? bm=some ob/\ob.cls=.type "module"/\ob.dict=some builtinsNs/\ob.data=.plain
theorem vh {mg mb:vJ}{CX:GC}{fa:Addr}{s₁:GH}{vs:oH}{ns:List Int}{tabs:List (Addr×Addr)}
 (KX:K.In s₁.heap)(Kc:s₁.heap.Ns mainGlobals mg)(hb:s₁.heap.Ns builtinsNs mb)(hbb:∀x:Str,x ≠ "__name__"->mb x=bootBuiltins x)(T7:s₁.heap.NoLimit)(hg:s₁.gens = #[])
 (ha:s₁.heap.get? a=some {cls:=.type "list",data:=.seq vs.toArray})(hi:IntsAre vs ns)(hl:ns.length<=sizeLine)(hr:pL k callerA)(hT:TabsAt tabs s₁.heap)(hKT:∀q∈tabs,K.lookup q.2=none)
 (hbm:∃bm ob,mg "__builtins__"=some (.ref bm)/\bm≠builtinsNs/\s₁.heap.get? bm=some ob/\ob.cls=.type "module"/\ob.dict=some builtinsNs/\ob.data=.plain)
 (F:∀base:Heap,K.In base->base.Ns mainGlobals mg->Dx tabs mg base->Cy P w K mg base CX k fa fd [x] sp)(Oi:∀(s:GH)(u:Value),BindsTo s fd ⟨[u],[]⟩ [(x,u)])
 (Jz:∀H:Hp,yJ tabs H->aM K H a (ns.map V.int)->sp [.ref a] H (λv _=>v=.bl true) λ_ _ _=>False)
 (T8:∀H e s',CX [] H s₁ (λ_ _ _=>False) e s'->False):
 codeAny (model P w) callerA (.call (.ref fa) ⟨[.ref a],[]⟩) (λr s'=>r=.ok (.ret (.bool true))/\OldK s₁.heap s'.heap/\s'.os=s₁.os/\AllBare s'.gens) s₁:=by
 have rv:=mX hi;have T9:=hi.length;have lW:∀b,(∃c,(c,b)∈tabs)->s₁.heap.get? b=some (tabObj #[]):=λb ⟨c,hc⟩=>(hT _ hc).2
 have core:∀H:Hp,yJ tabs H->aM K H a (ns.map V.int)->gk P w H s₁.heap->(∀b,H b≠none->b=a\/∃c,(c,b)∈tabs)->(H a≠none->K.lookup a=none) →
  codeAny (model P w) callerA (.call (.ref fa) ⟨[.ref a],[]⟩) (λr s'=>r=.ok (.ret (.bool true))/\OldK s₁.heap s'.heap/\s'.os=s₁.os/\AllBare s'.gens) s₁:=by
  intro H hO hS hok hA hK;have base_of:∀{b:Addr}{o:Obj},s₁.heap.get? b=some o->H b=none->(mj s₁.heap H).get? b=some o:=λe n=>aar e n
  have Yx:∀{b:Addr}{o:Obj},s₁.heap.get? b=some o->o.cls≠.none->(∀its n,o.data≠.seq its n)->H b=none:=λ{b o} e d1 d2=>by
   cases q:H b with
   |none=>rfl
   |some u =>
    rcases hA b (by rw[q];simp) with e'|e'
    ·subst e';rw[ha] at e;cases e;exact absurd rfl (d2 _ _)
    ·rw[lW b e'] at e;cases e;exact absurd rfl d1
  have noA:∀{b:Addr}{o:Obj}{es:Array DictEntry}{ep:Nat},s₁.heap.get? b=some o->o.data=.dict es ep->H b=none:=λ{b o es ep} e d=>by
   cases q:H b with
   |none=>rfl
   |some u =>
    rcases hA b (by rw[q];simp) with e'|e'
    ·subst e';rw[ha] at e;cases e;have d':Data.seq vs.toArray _=Data.dict es ep:=d
     cases d'
    ·rw[lW b e'] at e;cases e;have d':Data.fields #[]=Data.dict es ep:=d
     cases d'
  have RT:∀{b:Addr}{m:vJ},s₁.heap.Ns b m->(mj s₁.heap H).Ns b m:=λ{b m} ⟨o,es,ep,e,d,r⟩=>⟨o,es,ep,base_of e (noA e d),d,r⟩
  have Yy:K.In (mj s₁.heap H):=λb o e=>base_of (KX b o e) (by
   cases q:H b with
   |none=>rfl
   |some u =>
    rcases hA b (by rw[q];simp) with e'|⟨c,e'⟩
    ·subst e';rw[hK (by rw[q];simp)] at e;cases e
    ·have z:=hKT _ e'
     rw[z] at e;cases e)
  have hM:Mod K mg (mj s₁.heap H):=⟨Yy,RT Kc,⟨mb,RT hb,hbb⟩,let⟨mc,h1,h2⟩:=T7;⟨mc,RT h1,h2⟩⟩
  have hBT:Dx tabs mg (mj s₁.heap H):=by
   refine⟨λq hq=>?_,?_⟩
   ·obtain⟨o,ws,file,tf,flags,tg,inF,text,tt,e1,r1,r2,r3⟩:=(hT q hq).1;exact⟨o,ws,file,tf,flags,tg,inF,text,tt,base_of e1 (Yx e1 (by rw[r1];intro z;cases z) (λits n z=>by rw[r2] at z;cases z)),r1,r2,r3⟩
   ·obtain⟨bm,ob,b1,b2,b3,b4,b5,b6⟩:=hbm;exact⟨bm,ob,b1,b2,base_of b3 (Yx b3 (by rw[b4];intro z;cases z) (λits n z=>by rw[b6] at z;cases z)),b4,b5,b6⟩
  have e0:CT P w K mg (mj s₁.heap H) callerA [] s₁ H:=⟨rfl,hM,λb o e=>aat e,Nat.le_of_eq (abZ _ _),trivial,λb hb=>absurd (show b∈([]:List Addr) from hb) (by simp),hok,.of_eq hg⟩;refine codeAny_mono ((F _ Yy (RT Kc) hBT).run callerA [] s₁ H ⟨[.ref a],[]⟩ [.ref a] [.ref a] _ _ hr e0 (Oi s₁ (.ref a)) (.cons rfl .nil) (Jz H hO hS)) λr s' h=>?_
  cases r with
  |error e=>exact(T8 H e s' h).elim
  |ok fl =>
   cases fl with
   |next=>exact False.elim h
   |brk=>exact False.elim h
   |cont=>exact False.elim h
   |ret u =>
    obtain⟨v,H',os,bare,un,Oj,r',q⟩:=h;have q':v=.bl true:=q;subst q';obtain rfl:u=Value.bool true:=r';refine⟨rfl,⟨λb o e=>?_,λb o e=>un.there b o e (by simp)⟩,os,bare⟩
    cases q:H b with
    |none=>exact .inl (un.keep b o e q (by intro z;exact absurd (show b∈([]:List Addr) from z) (by simp)) (by simp))
    |some u =>
     rcases hO.1 b with z|⟨ob,xs,z⟩|⟨z,c,hc⟩
     ·rw[q] at z;cases z
     ·have z2:=un.aam b ob _ z;obtain⟨e1,_⟩:=hok b _ z;obtain⟨e2,_⟩:=Oj b _ z2;rw[e] at e1;cases e1;exact .inl e2
     ·obtain⟨more,z2⟩:=un.aas b _ z;have e2:s'.heap.get? b=some {cls:=.none,data:=.fields (#[]++more)}:=Oj b _ z2;have e1:=lW b ⟨c,hc⟩;rw[e] at e1;cases e1;exact .inr (.inl ⟨((hT _ hc).1.tab (hT _ hc).2).isCodeTable,rfl,#[],more,rfl,e2⟩)
 have aT:∀c,(c,a)∉tabs:=λc hc=>by
  have z:=lW a ⟨c,hc⟩;rw[ha] at z
  cases z
 have Ol:∀b,Decidable (∃c,(c,b)∈tabs):=λb=>Classical.propDecidable _
 cases hk:K.lookup a with
 |some o =>
  have e:=KX a o hk;rw[ha] at e
  cases e
  refine core (λb=>@ite _ (∃c,(c,b)∈tabs) (Ol b) (some (.tbl #[])) none) ⟨λb=>?_,λq hq=>?_⟩ (.inr ⟨_,vs.toArray,_,hk,rfl,rfl,rfl,by rw[List.size_toArray,T9];exact hl,by simpa using rv⟩) (λb u z=>?_) (λb z=>?_) λz=>?_
  ·by_cases hb:∃c,(c,b)∈tabs
   ·exact .inr (.inr ⟨if_pos hb,hb⟩)
   ·exact .inl (if_neg hb)
  ·exact if_pos ⟨q.1,hq⟩
  ·by_cases hb:∃c,(c,b)∈tabs
   ·have z':=(if_pos hb).symm.trans z
    cases z'
    exact lW b hb
   ·have z':=(if_neg hb).symm.trans z
    cases z'
  ·by_cases hb:∃c,(c,b)∈tabs
   ·exact .inr hb
   ·exact absurd (if_neg hb) z
  ·exact absurd (if_neg λ⟨c,hc⟩=>aT c hc) z
 |none =>
  refine core (λb=>if b=a then some (.frz {cls:=.type "list",data:=.seq vs.toArray} (.lst (ns.map V.int))) else @ite _ (∃c,(c,b)∈tabs) (Ol b) (some (.tbl #[])) none) ⟨λb=>?_,λq hq=>?_⟩ (.inl (.inr ⟨{cls:=.type "list",data:=.seq vs.toArray},if_pos rfl⟩)) (λb u z=>?_) (λb z=>?_) λ_=>hk
  ·by_cases hb:b=a
   ·exact .inr (.inl ⟨_,_,if_pos hb⟩)
   ·by_cases ht:∃c,(c,b)∈tabs
    ·exact .inr (.inr ⟨(if_neg hb).trans (if_pos ht),ht⟩)
    ·exact .inl ((if_neg hb).trans (if_neg ht))
  ·have hb:q.2≠a:=λz=>aT q.1 (by rw[<-z];exact hq);exact(if_neg hb).trans (if_pos ⟨q.1,hq⟩)
  ·by_cases hb:b=a
   ·have z':=(if_pos hb).symm.trans z
    cases z'
    subst hb;exact⟨ha,by rw[List.length_map];exact hl,vs,_,rv,ha⟩
   ·have z':=(if_neg hb).symm.trans z
    by_cases ht:∃c,(c,b)∈tabs
    ·have z2:=(if_pos ht).symm.trans z'
     cases z2
     exact lW b ht
    ·have z2:=(if_neg ht).symm.trans z'
     cases z2
  ·by_cases hb:b=a
   ·exact .inl hb
   ·by_cases ht:∃c,(c,b)∈tabs
    ·exact .inr ht
    ·exact absurd ((if_neg hb).trans (if_neg ht)) z
structure Fq (K:Frag)(x qual:Str)(st:Stmt)(f:Addr)(fd:GF)(T:Addr):Prop where
 ex:∃(oc:Value)(od:p5)(kV doc pm:Value)(an:p5)(GL ct:Value)(GZ:Ff),
  fd=fnOf x qual (cP st) (cu st) (ar st) (.ref T) kV doc pm an GL ct/\K.lookup f=some ⟨oc,od,.func fd,GZ⟩/\codeIn K GL qual=true
 kp:keepIn K (.ref f)=true
section
variable {P:wM}{w:World}{K:Frag}{mg:vJ}{base:Heap}
theorem Fq.okE {T:Addr}(F:Fq K x qual st f fd T)(S:uQ N ps (ar st))(len:∀vs H Q E,sp vs H Q E->vs.length=ps.length)
 (Ic:∀(GL:Value)(A:Around)(outer:List Env)(s:GH)(H:Hp)(vs:List V)(Q:VK)(E:XK),pL k (A.deeper (envOfC qual (ar st) s.heap.objs.size f GL))->sp vs H Q E →
  ∃t,pz (eK (bc P w) P w K mg base N qual (ar st) f GL A outer s H E) (cu st) t/\t {nx:=λ_ H'=>Q .non H',rt:=Q} (hJ N vs) H):Cy P w K mg base (bc P w) (k+1) f fd ps sp:=by
 obtain⟨oc,od,kV,doc,pm,an,GL,ct,GZ,rfl,lk,HB⟩:=F.ex;exact yU lk HB S len λA outer s H vs Q E hr Jz=>Ic GL A outer s H vs Q E hr Jz
theorem zS {T:Addr}{oc:Value}{od an:p5}{GZ:Ff}{kV doc pm GL ct:Value}(l:K.lookup f=some ⟨oc,od,.func (fnOf x qual (cP st) (cu st) (ar st) (.ref T) kV doc pm an GL ct),GZ⟩)
 (c:codeIn K GL qual=true)(k:keepIn K (.ref f)=true):Fq K x qual st f (fnOf x qual (cP st) (cu st) (ar st) (.ref T) kV doc pm an GL ct) T:=⟨⟨oc,od,kV,doc,pm,an,GL,ct,GZ,rfl,l,c⟩,k⟩
end
noncomputable def gJ:Expr->Bool
 | .Starred _ _=>true
 |_=>false
theorem b8 {rest:Bl}(h:gJ e=false):starEach (e::rest) env=(false,eval e env):: starEach rest env:=by
 cases e <;> first|rfl|cases h
section
variable {X:Cx}{e:Expr}{es:Bl}{te:TE}{t:TA}
theorem ah (ha:PE X e te)(hr:PA X es t)(h:gJ e=false:=by rfl):PA X (e::es) (cO te t):=cj ha hr (b8 h)
end
inductive D where
 |non|bl (b:Bool)|int (i:Int)|str (x:Str)|lst (ds:List D)|tup (ds:List D)
mutual
noncomputable def aR (K:Frag)(H:Hp):D->V->Prop
 | .non,v=>v=.non
 | .bl b,v=>v=.bl b
 | .int i,v=>v=.int i
 | .str x,v=>v=.str x
 | .lst ds,v=>∃a xs,v=.ref a/\aM K H a xs/\bV K H ds xs
 | .tup ds,v=>∃a xs,v=.ref a/\bX K H a xs/\bV K H ds xs
noncomputable def bV (K:Frag)(H:Hp):List D->List V->Prop
 |[],xs=>xs=[]
 |d::ds,xs=>∃y ys,xs=y::ys/\aR K H d y/\bV K H ds ys
end
mutual
noncomputable def iq:D->D->Bool
 | .non,.non=>true
 | .bl a,.bl b=>a==b
 | .bl a,.int b=>(if a then 1 else 0)==b
 | .int a,.bl b=>a==(if b then 1 else 0)
 | .int a,.int b=>a==b
 | .str a,.str b=>a==b
 | .lst a,.lst b=>eJ a b
 | .tup a,.tup b=>eJ a b
 |_,_=>false
noncomputable def eJ:List D->List D->Bool
 |[],[]=>true
 |a::as,b::bs=>iq a b&&eJ as bs
 |_,_=>false
end
mutual
noncomputable def oW:D->Nat
 | .lst ds=>lM ds+1
 | .tup ds=>lM ds+1
 |_=>0
noncomputable def lM:List D->Nat
 |[]=>0
 |d::ds=>max (oW d) (lM ds)
end
theorem ug:∀{ds:List D}{d:D},d∈ds->oW d<=lM ds
 |e::ds,d,h=>by
  unfold lM
  rcases List.mem_cons.mp h with rfl|h
  ·exact Nat.le_max_left _ _
  ·exact Nat.le_trans (ug h) (Nat.le_max_right _ _)
theorem ie:∀(as bs:List D),eJ as bs=((List.range (min as.length bs.length)).all (λj=>iq (as.getD j .non) (bs.getD j .non))&&as.length==bs.length)
 |[],[]=>rfl
 |[],b::bs=>by simp;rfl
 |a::as,[]=>by simp;rfl
 |a::as,b::bs=>by
  show(iq a b&&eJ as bs)=_;rw[ie as bs]
  have e:min (a::as).length (b::bs).length=min as.length bs.length+1:=by simp[Nat.succ_min_succ]
  rw[e,List.range_succ_eq_map,List.all_cons,List.all_map]
  have h1:((a::as).length==(b::bs).length)=(as.length==bs.length):=by simp
  rw[h1,Bool.and_assoc];rfl
theorem bV.len :∀{ds:List D}{xs:List V},bV K H ds xs->ds.length=xs.length
 |[],xs,h=>by
  have h:xs=[]:=by unfold bV at h;exact h
  rw[h];rfl
 |d::ds,xs,h=>by
  unfold bV at h;obtain⟨y,ys,rfl,_,h⟩:=h;simp[bV.len h]
theorem bV.get :∀{ds:List D}{xs:List V}{j:Nat}(hj:j<xs.length),bV K H ds xs->aR K H (ds.getD j .non) xs[j]/\ds.getD j .non∈ds
 |[],xs,j,hj,h=>by
  have h:xs=[]:=by unfold bV at h;exact h
  subst h;exact absurd hj (by simp)
 |d::ds,xs,j,hj,h=>by
  unfold bV at h;obtain⟨y,ys,rfl,hd,h⟩:=h
  cases j with
  |zero=>exact⟨hd,List.mem_cons_self⟩
  |succ j =>
   obtain⟨h1,h2⟩:=bV.get (j:=j) (by simpa using hj) h;exact⟨h1,List.mem_cons_of_mem _ h2⟩
mutual
theorem iy:∀d:D,iq d d=true
 | .non=>rfl
 | .bl b=>beq_self_eq_true b
 | .int i=>beq_self_eq_true i
 | .str x=>beq_self_eq_true x
 | .lst ds=>jd ds
 | .tup ds=>jd ds
theorem jd:∀ds:List D,eJ ds ds=true
 |[]=>rfl
 |d::ds=>by show(iq d d&&eJ ds ds)=true;rw[iy d,jd ds];rfl
end
section
variable {X:Cx}{pins:List (Addr×Obj)}{σ:St}{H:Hp}{s:GH}
theorem gy (I:Inv X pins σ H s){ys:List V}(h1:aM X.K H a xs)(h2:bX X.K H a ys):False:=by
 obtain⟨its,_,p1,_⟩:=I.list h1;obtain⟨GR,_,p2,_⟩:=I.tuple h2;exact SeqAt.ne_of_list_tuple p1.isList (show s.heap.IsTuple a GR.toArray from p2) rfl
mutual
theorem kQ (I:Inv X pins σ H s):∀(d e:D)(v:V),aR X.K H d v->aR X.K H e v->iq d e=true
 | .non,e,v,h1,h2=>by
   unfold aR at h1;subst h1
   cases e <;> unfold aR at h2 <;> first|(obtain⟨_,_,z,_⟩:=h2;cases z;done)|rfl|(cases h2;done)
 | .bl b,e,v,h1,h2=>by
   unfold aR at h1;subst h1
   cases e <;> unfold aR at h2 <;> first|(obtain⟨_,_,z,_⟩:=h2;cases z;done)|(cases h2;exact iy _)|(cases h2;done)
 | .int b,e,v,h1,h2=>by
   unfold aR at h1;subst h1
   cases e <;> unfold aR at h2 <;> first|(obtain⟨_,_,z,_⟩:=h2;cases z;done)|(cases h2;exact iy _)|(cases h2;done)
 | .str b,e,v,h1,h2=>by
   unfold aR at h1;subst h1
   cases e <;> unfold aR at h2 <;> first|(obtain⟨_,_,z,_⟩:=h2;cases z;done)|(cases h2;exact iy _)|(cases h2;done)
 | .lst ds,e,v,h1,h2=>by
   unfold aR at h1;obtain⟨a,xs,rfl,q,r⟩:=h1
   cases e with
   |lst es =>
    unfold aR at h2;obtain⟨b,ys,z,q2,r2⟩:=h2
    cases z
    have e:=I.aaS q q2;subst e;exact jm I ds es xs r r2
   |tup es =>
    unfold aR at h2;obtain⟨b,ys,z,q2,r2⟩:=h2
    cases z
    exact(gy I q q2).elim
   |_=>unfold aR at h2;cases h2
 | .tup ds,e,v,h1,h2=>by
   unfold aR at h1;obtain⟨a,xs,rfl,q,r⟩:=h1
   cases e with
   |tup es =>
    unfold aR at h2;obtain⟨b,ys,z,q2,r2⟩:=h2
    cases z
    have e:=I.aaA q q2;subst e;exact jm I ds es xs r r2
   |lst es =>
    unfold aR at h2;obtain⟨b,ys,z,q2,r2⟩:=h2
    cases z
    exact(gy I q2 q).elim
   |_=>unfold aR at h2;cases h2
theorem jm (I:Inv X pins σ H s):∀(ds es:List D)(xs:List V),bV X.K H ds xs->bV X.K H es xs->eJ ds es=true
 |[],es,xs,h1,h2=>by
  unfold bV at h1;subst h1
  cases es with
  |nil=>rfl
  |cons e es=>unfold bV at h2;obtain⟨_,_,z,_⟩:=h2;cases z
 |d::ds,es,xs,h1,h2=>by
  unfold bV at h1;obtain⟨y,ys,rfl,hd,h1⟩:=h1
  cases es with
  |nil=>unfold bV at h2;cases h2
  |cons e es =>
   unfold bV at h2;obtain⟨_,_,z,he,h2⟩:=h2
   cases z
   show(iq d e&&eJ ds es)=true;rw[kQ I d e y hd he,jm I ds es ys h1 h2];rfl
end
theorem lH (I:Inv X pins σ H s)(n:Nat)(ih:n≠0->∀(A:Around)(d e:D)(x y:V)(u v:Value),oW d<=n-1->A.units+(n-1)<cLine->aR X.K H d x->aR X.K H e y->aG x u->aG y v->SeqAt.EqAt A s u v (iq d e))
 (Nb:n≠0)(A:Around)(hu:A.units+n<cLine){ds es:List D}{ys:List V}{its GR:oH}(r1:bV X.K H ds xs)(r2:bV X.K H es ys)(rv:aK xs its)(HU:aK ys GR)(hn:lM ds<=n-1):
 ∀j (h1:j<its.toArray.size)(h2:j<GR.toArray.size),SeqAt.EqAt A.in1 s its.toArray[j] GR.toArray[j] (iq (ds.getD j .non) (es.getD j .non)):=by
 intro j h1 h2
 have e1:j<xs.length:=by rw[rv.length];simpa using h1
 have e2:j<ys.length:=by rw[HU.length];simpa using h2
 obtain⟨d1,m1⟩:=r1.get e1;obtain⟨d2,m2⟩:=r2.get e2;obtain⟨u,hu1,ru⟩:=rv.get (List.getElem?_eq_getElem e1);obtain⟨v,hv1,rv'⟩:=HU.get (List.getElem?_eq_getElem e2)
 have z1:its.toArray[j]=u:=by
  have:=List.getElem?_eq_some_iff.mp hu1;obtain⟨_,q⟩:=this;simpa using q
 have z2:GR.toArray[j]=v:=by
  have:=List.getElem?_eq_some_iff.mp hv1;obtain⟨_,q⟩:=this;simpa using q
 rw[z1,z2];exact ih Nb A.in1 _ _ _ _ _ _ (Nat.le_trans (ug m1) hn) (by show A.units+1+(n-1)<cLine;omega) d1 d2 ru rv'
theorem mE (I:Inv X pins σ H s)(n:Nat)(ih:n≠0->∀(A:Around)(d e:D)(x y:V)(u v:Value),oW d<=n-1->A.units+(n-1)<cLine->aR X.K H d x->aR X.K H e y->aG x u->aG y v->SeqAt.EqAt A s u v (iq d e))
 (A:Around)(d e:D)(x y:V)(u v:Value)(hn:oW d<=n)(hu:A.units+n<cLine)(h1:aR X.K H d x)(h2:aR X.K H e y)(rx:aG x u)(ry:aG y v):
 SeqAt.RcAt A s u v (iq d e)/\SeqAt.EqAt A s u v (iq d e)/\SeqAt.RcNeAt A s u v (!iq d e):=by
 have GX:A.units<cLine:=by omega
 cases d with
 |non =>
  unfold aR at h1;subst h1
  cases rx
  cases e with
  |non =>
   unfold aR at h2;subst h2
   cases ry
   exact⟨.none_none,.same _,.none_none⟩
  |bl q =>
   unfold aR at h2;subst h2
   cases ry
   exact⟨.none_bool q,.none_bool q,.none_bool q⟩
  |int q =>
   unfold aR at h2;subst h2;obtain⟨tq,rfl⟩:=ry;exact⟨.none_int q tq,.none_int q tq,.none_int q tq⟩
  |str q =>
   unfold aR at h2;subst h2;obtain⟨tq,rfl⟩:=ry;exact⟨.none_str q tq,.none_str q tq,.none_str q tq⟩
  |lst es =>
   unfold aR at h2;obtain⟨b,ys,rfl,q2,r2⟩:=h2
   cases ry
   obtain⟨GR,HU,p2,_⟩:=I.list q2;exact⟨.none_list  p2.isList GX,.none_list  p2.isList GX,.none_list  p2.isList GX⟩
  |tup es =>
   unfold aR at h2;obtain⟨b,ys,rfl,q2,r2⟩:=h2
   cases ry
   obtain⟨GR,HU,p2,_⟩:=I.tuple q2;have p2:s.heap.IsTuple b GR.toArray:=p2;exact⟨.none_tuple  p2 GX,.none_tuple  p2 GX,.none_tuple  p2 GX⟩
 |bl p =>
  unfold aR at h1;subst h1
  cases rx
  cases e with
  |non =>
   unfold aR at h2;subst h2
   cases ry
   exact⟨.bool_none p,.bool_none p,.bool_none p⟩
  |bl q =>
   unfold aR at h2;subst h2
   cases ry
   exact⟨.bool_bool p q,.bool_bool p q,.bool_bool p q⟩
  |int q =>
   unfold aR at h2;subst h2;obtain⟨tq,rfl⟩:=ry;exact⟨.bool_int p q tq,.bool_int p q tq,.bool_int p q tq⟩
  |str q =>
   unfold aR at h2;subst h2;obtain⟨tq,rfl⟩:=ry;exact⟨.bool_str p q tq,.bool_str p q tq,.bool_str p q tq⟩
  |lst es =>
   unfold aR at h2;obtain⟨b,ys,rfl,q2,r2⟩:=h2
   cases ry
   obtain⟨GR,HU,p2,_⟩:=I.list q2;exact⟨.bool_list p p2.isList GX,.bool_list p p2.isList GX,.bool_list p p2.isList GX⟩
  |tup es =>
   unfold aR at h2;obtain⟨b,ys,rfl,q2,r2⟩:=h2
   cases ry
   obtain⟨GR,HU,p2,_⟩:=I.tuple q2;have p2:s.heap.IsTuple b GR.toArray:=p2;exact⟨.bool_tuple p p2 GX,.bool_tuple p p2 GX,.bool_tuple p p2 GX⟩
 |int p =>
  unfold aR at h1;subst h1;obtain⟨tp,rfl⟩:=rx
  cases e with
  |non =>
   unfold aR at h2;subst h2
   cases ry
   exact⟨.int_none p tp,.int_none p tp,.int_none p tp⟩
  |bl q =>
   unfold aR at h2;subst h2
   cases ry
   exact⟨.int_bool p tp q,.int_bool p tp q,.int_bool p tp q⟩
  |int q =>
   unfold aR at h2;subst h2;obtain⟨tq,rfl⟩:=ry;exact⟨.int_int p tp q tq,.int_int p tp q tq,.int_int p tp q tq⟩
  |str q =>
   unfold aR at h2;subst h2;obtain⟨tq,rfl⟩:=ry;exact⟨.int_str p tp q tq,.int_str p tp q tq,.int_str p tp q tq⟩
  |lst es =>
   unfold aR at h2;obtain⟨b,ys,rfl,q2,r2⟩:=h2
   cases ry
   obtain⟨GR,HU,p2,_⟩:=I.list q2;exact⟨.int_list p tp p2.isList GX,.int_list p tp p2.isList GX,.int_list p tp p2.isList GX⟩
  |tup es =>
   unfold aR at h2;obtain⟨b,ys,rfl,q2,r2⟩:=h2
   cases ry
   obtain⟨GR,HU,p2,_⟩:=I.tuple q2;have p2:s.heap.IsTuple b GR.toArray:=p2;exact⟨.int_tuple p tp p2 GX,.int_tuple p tp p2 GX,.int_tuple p tp p2 GX⟩
 |str p =>
  unfold aR at h1;subst h1;obtain⟨tp,rfl⟩:=rx
  cases e with
  |non =>
   unfold aR at h2;subst h2
   cases ry
   exact⟨.str_none p tp,.str_none p tp,.str_none p tp⟩
  |bl q =>
   unfold aR at h2;subst h2
   cases ry
   exact⟨.str_bool p tp q,.str_bool p tp q,.str_bool p tp q⟩
  |int q =>
   unfold aR at h2;subst h2;obtain⟨tq,rfl⟩:=ry;exact⟨.str_int p tp q tq,.str_int p tp q tq,.str_int p tp q tq⟩
  |str q =>
   unfold aR at h2;subst h2;obtain⟨tq,rfl⟩:=ry;exact⟨.str_str p tp q tq,.str_str p tp q tq,.str_str p tp q tq⟩
  |lst es =>
   unfold aR at h2;obtain⟨b,ys,rfl,q2,r2⟩:=h2
   cases ry
   obtain⟨GR,HU,p2,_⟩:=I.list q2;exact⟨.str_list p tp p2.isList GX,.str_list p tp p2.isList GX,.str_list p tp p2.isList GX⟩
  |tup es =>
   unfold aR at h2;obtain⟨b,ys,rfl,q2,r2⟩:=h2
   cases ry
   obtain⟨GR,HU,p2,_⟩:=I.tuple q2;have p2:s.heap.IsTuple b GR.toArray:=p2;exact⟨.str_tuple p tp p2 GX,.str_tuple p tp p2 GX,.str_tuple p tp p2 GX⟩
 |lst ds =>
  unfold aR at h1;obtain⟨a,xs,rfl,q1,r1⟩:=id h1
  cases rx
  obtain⟨its,rv,p1,_⟩:=I.list q1;have p1:s.heap.IsList a its.toArray:=p1.isList
  cases e with
  |non =>
   unfold aR at h2;subst h2
   cases ry
   exact⟨.list_none  p1 GX,.list_none  p1 GX,.list_none  p1 GX⟩
  |bl q =>
   unfold aR at h2;subst h2
   cases ry
   exact⟨.list_bool q p1 GX,.list_bool q p1 GX,.list_bool q p1 GX⟩
  |int q =>
   unfold aR at h2;subst h2;obtain⟨tq,rfl⟩:=ry;exact⟨.list_int q tq p1 GX,.list_int q tq p1 GX,.list_int q tq p1 GX⟩
  |str q =>
   unfold aR at h2;subst h2;obtain⟨tq,rfl⟩:=ry;exact⟨.list_str q tq p1 GX,.list_str q tq p1 GX,.list_str q tq p1 GX⟩
  |lst es =>
   unfold aR at h2;obtain⟨b,ys,rfl,q2,r2⟩:=id h2
   cases ry
   obtain⟨GR,HU,p2,_⟩:=I.list q2;have p2:s.heap.IsList b GR.toArray:=p2.isList;have el:=lH I n ih (by unfold oW at hn;omega) A hu r1 r2 rv HU (by unfold oW at hn;omega)
   have l1:its.toArray.size=ds.length:=by rw[List.size_toArray,<-rv.length,r1.len]
   have l2:GR.toArray.size=es.length:=by rw[List.size_toArray,<-HU.length,r2.len]
   have dr:=ie ds es
   have key:SeqAt.RcAt A s (.ref a) (.ref b) (eJ ds es)/\SeqAt.RcNeAt A s (.ref a) (.ref b) (!eJ ds es):=by
    by_cases hl:ds.length=es.length
    ·have hs:its.toArray.size=GR.toArray.size:=by rw[l1,l2,hl]
     have z:(List.range its.toArray.size).all (λj=>iq (ds.getD j .non) (es.getD j .non))=eJ ds es:=by rw[dr,l1,hl];simp
     have c1:=SeqAt.RcAt.lists p1 p2 hs GX el;have c2:=SeqAt.RcNeAt.lists p1 p2 hs GX el;rw[z] at c1 c2;exact⟨c1,c2⟩
    ·have z:eJ ds es=false:=by rw[dr];simp[hl]
     have hs:(its.toArray.size != GR.toArray.size)=true:=by rw[l1,l2];simpa using hl
     rw[z];exact⟨SeqAt.RcAt.lists_lengths p1 p2 hs GX,SeqAt.RcNeAt.lists_lengths p1 p2 hs GX⟩
   have LJ:iq (.lst ds) (.lst es)=eJ ds es:=rfl
   by_cases Kn:a=b
   ·subst Kn;have z:=kQ I (.lst ds) (.lst es) (.ref a) (by unfold aR;exact⟨a,xs,rfl,q1,r1⟩) (by unfold aR;exact⟨a,ys,rfl,q2,r2⟩);refine⟨by rw[LJ];exact key.1,by rw[z];exact .same _,by rw[LJ];exact key.2⟩
   ·rw[LJ];exact⟨key.1,.of_refs Kn key.1,key.2⟩
  |tup es =>
   unfold aR at h2;obtain⟨b,ys,rfl,q2,r2⟩:=id h2
   cases ry
   obtain⟨GR,HU,p2,_⟩:=I.tuple q2;have p2:s.heap.IsTuple b GR.toArray:=p2;exact⟨.list_tuple p1 p2 GX,.list_tuple p1 p2 GX,.list_tuple p1 p2 GX⟩
 |tup ds =>
  unfold aR at h1;obtain⟨a,xs,rfl,q1,r1⟩:=id h1
  cases rx
  obtain⟨its,rv,p1,_⟩:=I.tuple q1;have p1:s.heap.IsTuple a its.toArray:=p1
  cases e with
  |non =>
   unfold aR at h2;subst h2
   cases ry
   exact⟨.tuple_none  p1 GX,.tuple_none  p1 GX,.tuple_none  p1 GX⟩
  |bl q =>
   unfold aR at h2;subst h2
   cases ry
   exact⟨.tuple_bool q p1 GX,.tuple_bool q p1 GX,.tuple_bool q p1 GX⟩
  |int q =>
   unfold aR at h2;subst h2;obtain⟨tq,rfl⟩:=ry;exact⟨.tuple_int q tq p1 GX,.tuple_int q tq p1 GX,.tuple_int q tq p1 GX⟩
  |str q =>
   unfold aR at h2;subst h2;obtain⟨tq,rfl⟩:=ry;exact⟨.tuple_str q tq p1 GX,.tuple_str q tq p1 GX,.tuple_str q tq p1 GX⟩
  |lst es =>
   unfold aR at h2;obtain⟨b,ys,rfl,q2,r2⟩:=id h2
   cases ry
   obtain⟨GR,HU,p2,_⟩:=I.list q2;have p2:s.heap.IsList b GR.toArray:=p2.isList;exact⟨.tuple_list p1 p2 GX,.tuple_list p1 p2 GX,.tuple_list p1 p2 GX⟩
  |tup es =>
   unfold aR at h2;obtain⟨b,ys,rfl,q2,r2⟩:=id h2
   cases ry
   obtain⟨GR,HU,p2,_⟩:=I.tuple q2;have p2:s.heap.IsTuple b GR.toArray:=p2;have el:=lH I n ih (by unfold oW at hn;omega) A hu r1 r2 rv HU (by unfold oW at hn;omega)
   have l1:its.toArray.size=ds.length:=by rw[List.size_toArray,<-rv.length,r1.len]
   have l2:GR.toArray.size=es.length:=by rw[List.size_toArray,<-HU.length,r2.len]
   have dr:=ie ds es
   have key:SeqAt.RcAt A s (.ref a) (.ref b) (eJ ds es)/\SeqAt.RcNeAt A s (.ref a) (.ref b) (!eJ ds es):=by
    have z:((List.range (min its.toArray.size GR.toArray.size)).all (λj=>iq (ds.getD j .non) (es.getD j .non))&&its.toArray.size==GR.toArray.size)=eJ ds es:=by rw[dr,l1,l2]
    have c1:=SeqAt.RcAt.tuples p1 p2 GX el;have c2:=SeqAt.RcNeAt.tuples p1 p2 GX el;rw[z] at c1 c2;exact⟨c1,c2⟩
   have LJ:iq (.tup ds) (.tup es)=eJ ds es:=rfl
   by_cases Kn:a=b
   ·subst Kn;have z:=kQ I (.tup ds) (.tup es) (.ref a) (by unfold aR;exact⟨a,xs,rfl,q1,r1⟩) (by unfold aR;exact⟨a,ys,rfl,q2,r2⟩);refine⟨by rw[LJ];exact key.1,by rw[z];exact .same _,by rw[LJ];exact key.2⟩
   ·rw[LJ];exact⟨key.1,.of_refs Kn key.1,key.2⟩
theorem ng (I:Inv X pins σ H s):∀(n:Nat)(A:Around)(d e:D)(x y:V)(u v:Value),oW d<=n->A.units+n<cLine->aR X.K H d x->aR X.K H e y->aG x u->aG y v →
 SeqAt.RcAt A s u v (iq d e)/\SeqAt.EqAt A s u v (iq d e)/\SeqAt.RcNeAt A s u v (!iq d e):=by
 intro n
 induction n with
 |zero=>exact λA d e x y u v hn hu h1 h2 rx ry=>mE I 0 (λz=>absurd z (by simp)) A d e x y u v hn hu h1 h2 rx ry
 |succ n ih=>exact λA d e x y u v hn hu h1 h2 rx ry=>mE I (n+1) (λ_ A d e x y u v hn hu h1 h2 rx ry=>(ih A d e x y u v hn hu h1 h2 rx ry).2.1) A d e x y u v hn hu h1 h2 rx ry
end
section
variable {X:Cx}
noncomputable def qA (K:Frag)(neg:Bool):R2:=λx y H Q=>∃d e,aR K H d x/\aR K H e y/\oW d<=32/\Q (.bl (iq d e != neg)) H
theorem ig (hr:pL k X.A):dX X (compareOp .NotEq) (qA X.K true):=by
 intro pins s σ H x y v u Q I rx ry h;obtain⟨d,e,h1,h2,hd,q⟩:=h;have z:=(ng I 32 X.A d e x y v u hd (by have:=hr.units;omega) h1 h2 rx ry).2.2
 exact z X.prog X.w X.xe _ ⟨.bl (!iq d e),H,I,rfl,by
  have e1:(iq d e != true) = !iq d e:=by cases iq d e <;> rfl
  rw[e1] at q
  exact q⟩
end
end L2
namespace Nm
noncomputable def cY (a b:Int):Int:=(Int.gcd a b:Int)
noncomputable def dv (t b:Int):Int:=if b<0 then -(cY t b) else cY t b
noncomputable def eG (t b:Int):Int:=t.fdiv (dv t b)
noncomputable def cN (t b:Int):Int:=b.fdiv (dv t b)
theorem fm {t b:Int}(h:b≠0):0<cY t b:=by
 unfold cY;have:0<Int.gcd t b:=Int.gcd_pos_of_ne_zero_right _ h;omega
theorem ny {t b:Int}(h:b≠0):dv t b≠0:=by
 have:=fm (t:=t) h;unfold dv
 split <;> omega
theorem E5 {t b:Int}:dv t b ∣ t:=by
 unfold dv cY
 split
 ·exact Int.neg_dvd.mpr (Int.gcd_dvd_left ..)
 ·exact Int.gcd_dvd_left ..
theorem Fi {t b:Int}:dv t b ∣ b:=by
 unfold dv cY
 split
 ·exact Int.neg_dvd.mpr (Int.gcd_dvd_right ..)
 ·exact Int.gcd_dvd_right ..
theorem pG {a b:Int}(h:b ∣ a)(hb:b≠0):a.fdiv b*b=a:=by
 obtain⟨c,rfl⟩:=h;rw[Int.mul_fdiv_cancel_left _ hb,Int.mul_comm]
theorem t6 {t b:Int}(h:b≠0):eG t b*dv t b=t:=pG E5 (ny h)
theorem nK {t b:Int}(h:b≠0):cN t b*dv t b=b:=pG Fi (ny h)
theorem oF {t b:Int}(h:b≠0):0<cN t b:=by
 have e:=nK (t:=t) h;have g:=fm (t:=t) h
 by_cases hb:b<0
 ·have hd:dv t b = -(cY t b):=by unfold dv;rw[if_pos hb]
  rw[hd] at e
  by_cases hl:0<cN t b
  ·exact hl
  ·have:0<=cN t b * -(cY t b):=by
    have:=Int.mul_nonneg_of_nonpos_of_nonpos (a:=cN t b) (b:=-(cY t b)) (by omega) (by omega);exact this
   omega
 ·have hd:dv t b=cY t b:=by unfold dv;rw[if_neg hb]
  rw[hd] at e
  by_cases hl:0<cN t b
  ·exact hl
  ·have:cN t b*cY t b<=0:=Int.mul_nonpos_of_nonpos_of_nonneg (by omega) (by omega);omega
theorem m6 {t b:Int}:(dv t b).natAbs=Int.gcd t b:=by
 unfold dv cY
 split <;> simp
theorem uo {t b:Int}(h:b≠0):Int.gcd (eG t b) (cN t b)=1:=by
 have e1:=t6 (t:=t) h;have e2:=nK (t:=t) h;have g:0<Int.gcd t b:=Int.gcd_pos_of_ne_zero_right _ h;have e3:Int.gcd (eG t b*dv t b) (cN t b*dv t b)=Int.gcd (eG t b) (cN t b)*(dv t b).natAbs:=Int.gcd_mul_right ..;rw[e1,e2,m6] at e3
 have:Int.gcd (eG t b) (cN t b)*Int.gcd t b=1*Int.gcd t b:=by omega
 exact Nat.eq_of_mul_eq_mul_right g this
theorem rN {t b t' b':Int}(h:b≠0)(hp:0<b')(hg:Int.gcd t' b'=1)(he:t*b'=t'*b):eG t b=t'/\cN t b=b':=by
 have e1:=t6 (t:=t) h;have e2:=nK (t:=t) h;have g:=ny (t:=t) h;have lp:=oF (t:=t) h;have lg:=uo (t:=t) h
 have e3:eG t b*b'=t'*cN t b:=by
  have z:(eG t b*b')*dv t b=(t'*cN t b)*dv t b:=by
   rw[Int.mul_right_comm,e1,he,Int.mul_assoc,e2]
  exact Int.eq_of_mul_eq_mul_right g z
 have n3:(eG t b).natAbs*b'.natAbs=t'.natAbs*(cN t b).natAbs:=by
  have:=congrArg Int.natAbs e3;rw[Int.natAbs_mul,Int.natAbs_mul] at this;exact this
 have c1:Nat.Coprime (cN t b).natAbs (eG t b).natAbs:=by
  rw[Nat.coprime_comm];exact lg
 have c2:Nat.Coprime b'.natAbs t'.natAbs:=by
  rw[Nat.coprime_comm];exact hg
 have d1:(cN t b).natAbs ∣ b'.natAbs:=c1.dvd_of_dvd_mul_left ⟨t'.natAbs,by rw[n3,Nat.mul_comm]⟩;have d2:b'.natAbs ∣ (cN t b).natAbs:=c2.dvd_of_dvd_mul_left ⟨(eG t b).natAbs,by rw[<-n3,Nat.mul_comm]⟩;have e4:(cN t b).natAbs=b'.natAbs:=Nat.dvd_antisymm d1 d2
 have e5:cN t b=b':=by omega
 refine⟨?_,e5⟩;rw[e5] at e3;exact Int.eq_of_mul_eq_mul_right (by omega) e3
theorem wY {t b:Int}(hp:0<b)(hg:Int.gcd t b=1):eG t b=t/\cN t b=b:=rN (by omega) hp hg rfl
theorem pZ (a b:Int):Int.gcd b (a.fmod b)=Int.gcd a b:=by
 rw[Int.fmod_def,Int.gcd_comm a b]
 first
  |exact Int.gcd_sub_mul_left_right ..
  |simp
theorem uI (a b:Int)(h:b≠0):(a.fmod b).natAbs<b.natAbs:=by
 by_cases hb:0<b
 ·have h1:=Int.fmod_lt_of_pos a hb;have h2:=Int.fmod_nonneg_of_pos a hb;omega
 ·have e:a.fmod b = -((-a).fmod (-b)):=by
   have:=Int.fmod_def a b;rw[Int.neg_fmod_neg];omega
  have h1:=Int.fmod_lt_of_pos (-a) (b:=-b) (by omega);have h2:=Int.fmod_nonneg_of_pos (-a) (b:=-b) (by omega);omega
noncomputable def sg (b:Int):Int:=if b<0 then -1 else 1
noncomputable def ab (b:Int):Int:=if b<0 then -b else b
theorem lu (b:Int):ab b=(b.natAbs:Int):=by unfold ab;split <;> omega
theorem Do {t b:Int}(h:b≠0):(sg b*t).fdiv (cY t b)=eG t b:=by
 have g:=fm (t:=t) h;have e:=t6 (t:=t) h
 have z:sg b*t=eG t b*cY t b:=by
  unfold sg dv at *
  split
  ·rename_i hb
   rw[if_pos hb] at e
   have:eG t b * -cY t b = -(eG t b*cY t b):=by rw[Int.mul_neg]
   omega
  ·rename_i hb
   rw[if_neg hb] at e;omega
 rw[z,Int.mul_fdiv_cancel _ (by omega)]
theorem DB {t b:Int}(h:b≠0):(ab b).fdiv (cY t b)=cN t b:=by
 have g:=fm (t:=t) h;have e:=nK (t:=t) h
 have z:ab b=cN t b*cY t b:=by
  unfold ab dv at *
  split
  ·rename_i hb
   rw[if_pos hb] at e
   have:cN t b * -cY t b = -(cN t b*cY t b):=by rw[Int.mul_neg]
   omega
  ·rename_i hb
   rw[if_neg hb] at e;omega
 rw[z,Int.mul_fdiv_cancel _ (by omega)]
theorem CK (a b:Int):Int.gcd (ab a) (ab b)=Int.gcd a b:=by
 rw[lu,lu];simp[Int.gcd]
noncomputable def B (n:Nat)(i:Int):Prop:=i.natAbs<2^n
variable {n:Nat}{i:Int}
theorem B.mono {m:Nat}(h:B n i)(hn:n<=m):B m i:=Nat.lt_of_lt_of_le h (Nat.pow_le_pow_right (by decide) hn)
variable {j:Int}
theorem B.mul {m:Nat}(h:B n i)(k:B m j):B (n+m) (i*j):=by
 unfold B at *;rw[Int.natAbs_mul,Nat.pow_add];exact Nat.mul_lt_mul'' h k
theorem B.add (h:B n i)(k:B n j):B (n+1) (i+j):=by
 unfold B at *;rw[Nat.pow_succ];have:=Int.natAbs_add_le i j;omega
theorem B.le (h:B n i)(k:j.natAbs<=i.natAbs):B n j:=Nat.lt_of_le_of_lt k h
theorem sf {x d y:Int}(e:x*d=y)(hd:d≠0):x.natAbs<=y.natAbs:=by
 have:x.natAbs*d.natAbs=y.natAbs:=by rw[<-Int.natAbs_mul,e]
 have h1:1<=d.natAbs:=by omega
 calc x.natAbs=x.natAbs*1:=(Nat.mul_one _).symm
  _<=x.natAbs*d.natAbs:=Nat.mul_le_mul_left _ h1
  _=y.natAbs:=this
theorem uN {t b:Int}(h:b≠0):(eG t b).natAbs<=t.natAbs:=sf (t6 h) (ny h)
theorem uJ {t b:Int}(h:b≠0):(cN t b).natAbs<=b.natAbs:=sf (nK h) (ny h)
theorem A3 {t b:Int}(h:b≠0):(dv t b).natAbs<=b.natAbs:=by
 have e:=nK (t:=t) h;have lp:=oF (t:=t) h;exact sf (x:=dv t b) (d:=cN t b) (by rw[Int.mul_comm];exact e) (by omega)
theorem Cj {t b:Int}(h:b≠0):(cY t b).natAbs<=b.natAbs:=by
 have e:=A3 (t:=t) h;rw[m6] at e;unfold cY;simpa using e
structure Num (p t b:Int):Prop where
 pos:0<b
 red:Int.gcd t b=1
 pr:p≠0->b=1/\0<=t/\t<p
theorem Num.ofP {p t:Int}(h0:0<=t)(h1:t<p):Num p t 1:=⟨by decide,by simp,λ_=>⟨rfl,h0,h1⟩⟩
theorem Num.low {t b:Int}(h:b≠0):Num 0 (eG t b) (cN t b):=⟨oF h,uo h,λz=>absurd rfl z⟩
noncomputable def pb (p t b:Int):Int:=if p=0 then eG t b else t%p
noncomputable def nZ (p t b:Int):Int:=if p=0 then cN t b else 1
theorem Num.set {p t b:Int}(hp:0<=p)(h:b≠0):Num p (pb p t b) (nZ p t b):=by
 unfold pb nZ
 by_cases z:p=0
 ·subst z;simp only[if_true];exact Num.low h
 ·simp only[z,if_false];exact Num.ofP (Int.emod_nonneg _ z) (Int.emod_lt_of_pos _ (by omega))
end Nm
namespace L2
open PySem PySem.Spec PyProof.Rows PySem.W
variable {i:Int}
theorem wN (h:Nm.B 9000 i):i.natAbs.log2<9000:=by
 by_cases z:i.natAbs=0
 ·rw[z];decide
 ·exact(Nat.log2_lt z).mpr h
theorem yv (h:Nm.B 9000 i):Builtin.Int.intBits i<=2^20:=by
 have l:=wN h;unfold Builtin.Int.intBits
 split
 ·exact Nat.zero_le _
 ·have:(9000:Nat)<=2^20:=by decide
  omega
section
variable {X:Cx}
theorem gz:dX X (binaryOp .FloorDiv) (rI (λ_ j=>j≠0/\Nm.B 9000 j) λi j=>.int (i.fdiv j)):=CY λ_ _ _ _ _ _ _ hc q=>floordiv_int hc.1 q (.inl (PyProof.noPylong_of_log2 (wN hc.2)))
theorem om:dX X (binaryOp .Mult) (rI (λi j=>Nm.B 9000 i/\Nm.B 9000 j) λi j=>.int (i*j)):=CY λ_ _ _ _ _ _ _ hc q=>mul_int q (IntMulOk.of_bits (yv hc.1) (yv hc.2))
end
noncomputable def Cn:Expr->Option Int
 | .Constant (.int i) _ _=>some i
 |_=>none
theorem AL {e:Expr}(h:Cn e=some i):∃k p,e = .Constant (.int i) k p:=by
 unfold Cn at h
 split at h
 ·cases h
  exact⟨_,_,rfl⟩
 ·cases h
noncomputable def tH:List Expr->Option (List Int)
 |[]=>some []
 |e::es=>(Cn e).bind λi=>(tH es).map (i :: ·)
noncomputable def Ez (ns:List Int):TA:=λ_ H Q=>Q (ns.map V.int) H
theorem t7 {X:Cx}:∀{es:Bl}{ns:List Int},tH es=some ns->PA X es (Ez ns)
 |[],ns,h=>by
  cases h
  exact af
 |x::es,ns,h=>by
  unfold tH at h;obtain⟨i,hi,h⟩:=Option.bind_eq_some_iff.mp h;obtain⟨ms,e,rfl⟩:=Option.map_eq_some_iff.mp h;obtain⟨k,p,rfl⟩:=AL hi;exact ah (ak (j:=k) (pos:=p)) (t7 e)
noncomputable def Dp (ns:List Int):TE:=λ_ H Q=>∀p,H p=none->Q (.ref p) (upd H p (.lst (ns.map V.int)))
theorem oi {X:Cx}{es:Bl}{pos:Pos}{ns:List Int}(h:tH es=some ns)(hl:ns.length<=1000):PE X (.List es pos) (Dp ns):=by
 intro pins s σ H Q I q;refine az (t7 h) pins s σ H Q I ?_;refine⟨?_,q⟩;rw[List.length_map];exact Nat.le_of_lt (u4 hl)
end L2
namespace K16
open PySem L2 PySem.W Nm
noncomputable abbrev Dq:Stmt:=(aY 17)
noncomputable abbrev ue:Stmt:=(aY 18)
noncomputable def eM (t b:Int):HO:=.tup [.int t,.int b]
noncomputable def ze:Sp:=λvs H Q _=>∃a b:Int,vs=[.int a,.int b]/\Q (.int (cY a b)) H
noncomputable def ye:Sp:=λvs H Q _=>∃t b:Int,vs=[.int t,.int b]/\b≠0/\B 9000 b/\∀p,H p=none->Q (.ref p) (upd H p (eM (eG t b) (cN t b)))
variable {p:Int}
theorem nG (h:p∈Dv):2<=p/\p<=97:=by
 have:∀q∈Dv,2<=q/\q<=97:=by decide
 exact this p h
variable {P:wM}{w:World}{K:PySem.W.Frag}{mg:vJ}{base:Heap}
theorem Bf:uQ AU AU (ar Dq):=dI (by decide +kernel)
variable {f:Addr}{fd:GF}
theorem CU (F:E6 K "common_divisor" "common_divisor" Dq f fd)(mA:mg "abs"=none):Cy P w K mg base (bc P w) 1 f fd AU ze:=by
 refine F.okN Bf (λvs H Q E h=>?_) (λGL A outer s H vs Q E hr h=>?_)
 ·obtain⟨a,b,rfl,_⟩:=h;rfl
 ·obtain⟨a,b,rfl,q⟩:=h
  refine⟨_,aj (lE PassesOwn.never (fJ (pv 1) (λ_=>rfl)) (ao (sv (i:=0) (j:=1) rfl Bf.nd rfl rfl (by decide) rfl rfl (ah (pv 1) (ah (aF uH (pv 0) (pv 1)) af)) rfl)))
   (ao (aw (aD fj (by rfl) mA (by rfl) (ah (pv 0) af)))),?_⟩
  refine⟨λm σ H'=>∃c d:Int,σ=[some (.int c),some (.int d)]/\H'=H/\m=d.natAbs/\Int.gcd c d=Int.gcd a b,⟨_,a,b,rfl,rfl,rfl,rfl⟩,?_⟩;rintro m σ H' ⟨c,d,rfl,rfl,rfl,hg⟩;refine⟨_,rfl,_,rfl,?_⟩;refine cT (λh=>?_) (λh=>?_)
  ·have hd:d≠0:=by simpa using h
   refine⟨λσ' Ik=>∃c' d':Int,σ'=[some (.int c'),some (.int d')]/\Ik=H'/\d'.natAbs<d.natAbs/\Int.gcd c' d'=Int.gcd a b,λσ' Ik ⟨c',d',e1,e2,e3,e4⟩=>⟨_,e3,c',d',e1,e2,rfl,e4⟩,?_⟩;refine⟨_,rfl,_,rfl,_,rfl,_,_,rfl,rfl,hd,_,_,rfl,d,c.fmod d,rfl,rfl,uI c d hd,?_⟩;rw[pZ,hg]
  ·have hd:d=0:=by simpa using h
   subst hd;refine⟨_,rfl,c,rfl,?_⟩
   have e:(if c<0 then -c else c)=cY a b:=by
    unfold cY;rw[<-hg];have:=lu c;unfold ab at this;rw[this];simp
   rw[e];exact q
theorem kZ:uQ ["top","bottom","divisor"] EZ (ar ue):=dI (by decide +kernel)
theorem vY {fg:Addr}{JM:GF}(F:E6 K "lowest" "lowest" ue f fd)(FG:Cy P w K mg base (bc P w) 1 fg JM AU ze)(bG:L2.aI K JM AU [])(mG:mg "common_divisor"=some (.ref fg))(kG:keepIn K (.ref fg)=true):
 Cy P w K mg base (bc P w) 2 f fd EZ ye:=by
 refine F.okN kZ (λvs H Q E h=>?_) (λGL A outer s H vs Q E hr h=>?_)
 ·obtain⟨a,b,rfl,_⟩:=h;rfl
 ·obtain⟨t,b,rfl,hb,hB,q⟩:=h
  refine⟨_,aj (aV (aB cM (pv 1) ak (aA _)) (ao (aw (bq (ah (pv 0) (ah ak af))))) aE)
   (aj (aO (i:=2) kZ.nd rfl (Or.inl rfl) (ay FG hr (by rfl) mG kG bG .nil ag (ah (pv 0) (ah (pv 1) af))))
   (aj (aV (aB eQ (pv 1) ak (aA _)) (ao (aO (i:=2) kZ.nd rfl (Or.inl rfl) (pB ko (pv 2)))) aE)
   (ao (aw (bq (ah (aF gz (pv 0) (pv 2)) (ah (aF gz (pv 1) (pv 2)) af))))))),?_⟩
  refine⟨_,rfl,rfl,_,rfl,?_⟩;refine cT (λh=>?_) (λh=>?_)
  ·have e:b=1:=by simpa using h
   subst e;have z:=wY (t:=t) (b:=1) (by decide) (by simp);refine⟨_,rfl,d9,λp hp=>?_⟩;have y:=q p hp;rw[z.1,z.2] at y;exact y
  ·refine⟨_,rfl,_,rfl,t,b,rfl,?_⟩;refine⟨_,rfl,_,_,rfl,rfl,_,rfl,?_⟩;have gp:=fm (t:=t) hb
   have fin:∀d:Int,d=dv t b->Eo (cO (oU (rI (λ_ j=>j≠0/\Nm.B 9000 j) λi j=>V.int (i.fdiv j)) (dY 0) (dY 2)) (cO (oU (rI (λ_ j=>j≠0/\Nm.B 9000 j) λi j=>V.int (i.fdiv j)) (dY 1) (dY 2)) D1)) [some (.int t),some (.int b),some (.int d)] H Q:=by
    intro d hd
    have RU:d≠0:=by rw[hd];exact ny hb
    have Yz:B 9000 d:=by rw[hd];exact hB.le (A3 hb)
    refine⟨_,rfl,_,rfl,_,_,rfl,rfl,⟨RU,Yz⟩,_,rfl,_,rfl,_,_,rfl,rfl,⟨RU,Yz⟩,d9,λp hp=>?_⟩;have y:=q p hp;unfold eG cN at y;rw[<-hd] at y;exact y
   refine cT (λh2=>?_) (λh2=>?_)
   ·have e:b<0:=by simpa using h2
    exact⟨_,rfl,_,rfl,fin _ (by unfold dv;rw[if_pos e])⟩
   ·have e:¬b<0:=by simpa using h2
    exact fin _ (by unfold dv;rw[if_neg e])
noncomputable abbrev yx:Stmt:=(aY 11)
noncomputable abbrev xC:Stmt:=aL (aY 20) 0
inductive Th (H:Hp):V->String->Prop where
 |non:Th H .non "NoneType"
 |bl (b:Bool):Th H (.bl b) "bool"
 |int (i:Int):Th H (.int i) "int"
 |str (x:Str):Th H (.str x) "str"
 |lst {a:Addr}{xs:List V}(e:H a=some (.lst xs)):Th H (.ref a) "list"
 |tup {a:Addr}{xs:List V}(e:H a=some (.tup xs)):Th H (.ref a) "tuple"
 |dK {a:Addr}{GK:List (Key×V)}(e:H a=some (.dK GK)):Th H (.ref a) "dict"
variable {K:Frag}{H:Hp}{x:V}{T:String}
theorem Th.ty (h:Th H x T):Eg K H x (.type T):=by
 cases h with
 |non=>exact .of .non
 |bl b=>exact .of (.bl b)
 |int i=>exact .of (.int i)
 |str x=>exact .of (.str x)
 |lst e=>exact .of (.lst e)
 |tup e=>exact .of (.tup e)
 |dK e=>exact .of (.dK e)
noncomputable def dR:V->Bool
 | .int _=>true
 |_=>false
noncomputable def D0:V->Bool
 | .int _=>true
 | .bl _=>true
 |_=>false
theorem Th.isInt (h:Th H x T):kitOne K (.type T) (.type "int")=some (D0 x):=by cases h <;> rfl
theorem Th.isBool (h:Th H x T)(hi:D0 x=true):kitOne K (.type T) (.type "bool")=some (!dR x):=by
 cases h with
 |int i=>rfl
 |bl b=>rfl
 |_=>cases hi
noncomputable def su:Sp:=λvs H Q _=>∃x T,vs=[x]/\Th H x T/\Q (.bl (dR x)) H
structure vk (mg:vJ):Prop where
 isi:mg "isinstance"=none
 int:mg "int"=none
 bool:mg "bool"=none
theorem AM:uQ vq vq (ar yx):=dI (by decide +kernel)
theorem yc (F:E6 K "is_whole" "is_whole" yx f fd)(n:vk mg):Cy P w K mg base (bc P w) 1 f fd vq su:=by
 refine F.okN AM (λvs H Q E h=>?_) (λGL A outer s H vs Q E hr h=>?_)
 ·obtain⟨x,T,rfl,_⟩:=h;rfl
 ·obtain⟨x,T,rfl,th,q⟩:=h
  refine⟨_,ao (aw (cp (aD bf (by rfl) n.isi (by rfl) (cj (pv 0) (cj (dh (by rfl) n.int (by rfl) (show aG (.ty "int") (.type "int") from rfl)) af)))
   (dC (xD (aD bf (by rfl) n.isi (by rfl) (cj (pv 0) (cj (dh (by rfl) n.bool (by rfl) (show aG (.ty "bool") (.type "bool") from rfl)) af))))))),?_⟩
  refine⟨_,rfl,x,.ty "int",_,_,_,rfl,rfl,th.ty,th.isInt,_,rfl,?_⟩;refine cT (λhi=>?_) (λhi=>?_)
  ·refine⟨_,rfl,x,.ty "bool",_,_,_,rfl,rfl,th.ty,th.isBool hi,_,rfl,?_⟩;simpa using q
  ·have e:dR x=false:=by
    cases th <;> first|rfl|exact absurd rfl hi
   rw[e] at q;exact q
noncomputable def jx (i:Int):Bool:=i==0 || Dv.any λp=>p==i
noncomputable def good:V->Bool
 | .int i=>jx i
 |_=>false
noncomputable def cw (i:Int):List (Str×V):=[("its_prime",.int i)]
noncomputable def rC (C NF:Addr):Sp:=λvs H Q E=>∃(p dx:Addr)(x:V)(T:String),vs=[.ref p,x]/\Th H x T/\H p=some (.ins C dx [])/\(good x=true->Q .non (upd H p (.ins C dx [("its_prime",x)])))/\(good x=false->E (.ref NF) none H)
structure Cp (K:Frag)(mg:vJ)(C:Addr):Prop where
 cl:DJ K C
 nP:bJ K C "its_prime"
 mgC:mg "Field"=some (.ref C)
 isC:((clsIn K C).isSome&&typeIn K (.ref C)==some (.type "type"))=true
 ca:findIn K (.ref C) "__class__"=some (some (.builtin "object.__class__"))
 sp:specialIn K (.builtin "object.__class__") "__get__"=some (some (.builtin "getset_descriptor.__get__"))
 tk:takesIn K (.builtin "object.__class__")=some true
 ob:mroIn K C (.type "object")=some true
variable {mg:vJ}{C:Addr}
theorem Cp.ty (c:Cp K mg C){p dx:Addr}{fs:List (Str×V)}(e:H p=some (.ins C dx fs)):Eg K H (.ref p) (.ref C):=.of (.ins e c.cl c.ca c.sp c.tk c.ob)
theorem Cp.is (c:Cp K mg C):kitOne K (.ref C) (.ref C)=some true:=by
 unfold kitOne;rw[if_pos (by simp)]
theorem Cp.no (c:Cp K mg C)(h:Th H x T):kitOne K (.type T) (.ref C)=some false:=by
 show(if(Value.type T==Value.ref C)=true then some true else(if((clsIn K C).isSome&&typeIn K (.ref C)==some (.type "type"))=true then subIn K (.type T) (.ref C) else none))=some false;rw[if_neg (by intro z;cases beq_iff_eq.mp z),if_pos c.isC]
 cases h <;> rfl
theorem kE (i:Int):C4 (.int i) (Dv.map V.int)=Dv.any λp=>p==i:=by
 unfold C4;rw[List.any_map];rfl
theorem Bt:uQ zD zD (ar xC):=dI (by decide +kernel)
theorem Al {fw NF aP T:Addr}{Jm:GF}{tF:Tok}(F:Fq K "__init__" "Field.__init__" xC f fd T)(c:Cp K mg C)(FW:Cy P w K mg base (bc P w) 1 fw Jm vq su)(bW:aI K Jm vq [])(mW:mg "is_whole"=some (.ref fw))(kW:keepIn K (.ref fw)=true)
 (mF:mg "FRACTIONS"=some (.int 0 tF))(mP:mg "PRIMES"=some (.ref aP))(hP:∀H:Hp,bX K H aP (Dv.map V.int))(mN:mg "NoField"=some (.ref NF))(qN:zA K NF EU Ca=true):Cy P w K mg base (bc P w) 2 f fd zD (rC C NF):=by
 refine F.okE Bt (λvs H Q E h=>?_) (λGL A outer s H vs Q E hr h=>?_)
 ·obtain⟨p,dx,x,T,rfl,_⟩:=h;rfl
 ·obtain⟨p,dx,x,T,rfl,th,hp,hq,hE⟩:=h
  refine⟨_,aj (aV (PW.pt (dH (bM (cf (ay FW hr (by rfl) mW kW bW .nil ag (cj (pv 1) af))))
   (dt (PW.pt (je (aB gF (pv 1) (bR (by rfl) mF (show aG (.int 0) (.int 0 tF) from⟨_,rfl⟩)) (aA _)) (iP (aB n8 (pv 1) (bR (by rfl) mP (show aG (.ref aP) (.ref aP) from rfl)) (by rfl))))))))
   (ao (wy PySem.F.excBase_ValueError qN rfl qF (by rfl) mN (cj aX af))) aE)
   (ao (ib (pv 0) (pv 1) rfl)),?_⟩
  have fin:good x=true->∃(a C' KU:Addr)(fs:List (Str×V)),V.ref p=.ref a/\H a=some (.ins C' KU fs)/\DJ K C'/\bJ K C' "its_prime"/\fs.length<1000/\Q .non (upd H a (.ins C' KU (cE "its_prime" x fs))):=λg=>⟨p,C,dx,[],rfl,hp,c.cl,c.nP,by decide,hq g⟩;refine⟨_,rfl,x,T,rfl,th,_,rfl,?_⟩
  cases th with
  |int i =>
   refine aS ?_;refine⟨_,rfl,rfl,_,rfl,?_⟩;refine cT (λh0=>?_) (λh0=>?_)
   ·refine⟨_,rfl,aP,_,rfl,.inr (hP _),rfl,rfl,_,rfl,?_⟩;refine cT (λh1=>?_) (λh1=>?_)
    ·refine⟨by decide,hE ?_⟩
     have e1:¬i=0:=by simpa using h0
     have e2:C4 (.int i) (Dv.map V.int)=false:=by simpa using h1
     rw[kE] at e2;show jx i=false;unfold jx;rw[e2];simpa using e1
    ·have e2:C4 (.int i) (Dv.map V.int)=true:=by simpa using h1
     rw[kE] at e2;exact⟨_,rfl,_,rfl,fin (by show jx i=true;unfold jx;rw[e2];simp)⟩
   ·have e1:i=0:=by simpa using h0
    exact aS ⟨_,rfl,_,rfl,fin (by show jx i=true;rw[e1];rfl)⟩
  |_=>exact aZ (aZ ⟨by decide,hE rfl⟩)
noncomputable abbrev A6:Stmt:=aL (aY 20) 6
noncomputable abbrev qa:Stmt:=aL (aY 20) 10
noncomputable def FP (p:Int):Prop:=p=0\/p∈Dv
theorem FP.nn (h:FP p):0<=p:=by
 rcases h with h|h
 ·omega
 ·have:=nG h;omega
theorem FP.two (h:FP p)(z:p≠0):p∈Dv/\2<=p/\p<=97:=by
 rcases h with h|h
 ·exact absurd h z
 ·exact⟨h,nG h⟩
noncomputable def m4 (C:Addr):Sp:=λvs H Q _=>∃(s dx:Addr)(p t b:Int),vs=[.ref s,.int t,.int b]/\H s=some (.ins C dx (cw p))/\FP p/\B 9000 b/\b≠0/\∀a,H a=none->Q (.ref a) (upd H a (eM (pb p t b) (nZ p t b)))
noncomputable def A1 (C:Addr)(g:Int->Int->Int->Int->Int):Sp:=λvs H Q _=>∃(s dx a1 a2:Addr)(p t1 b1 t2 b2:Int),vs=[.ref s,.ref a1,.ref a2]/\H s=some (.ins C dx (cw p))/\FP p/\H a1=some (eM t1 b1)/\H a2=some (eM t2 b2) /\
 B 4000 t1/\B 4000 b1/\B 4000 t2/\B 4000 b2/\b1≠0/\b2≠0/\∀a,H a=none->Q (.ref a) (upd H a (eM (pb p (g t1 b1 t2 b2) (b1*b2)) (nZ p (g t1 b1 t2 b2) (b1*b2))))
noncomputable def sY (t1 b1 t2 b2:Int):Int:=t1*b2+t2*b1
theorem vQ:uQ Fz Fz (ar qa):=dI (by decide +kernel)
theorem qP {fl:Addr}{Om:GF}{tF:Tok}(F:E6 K "settled" "Field.settled" qa f fd)(c:Cp K mg C)(mF:mg "FRACTIONS"=some (.int 0 tF))
 (FL:Cy P w K mg base (bc P w) 2 fl Om EZ ye)(bL:L2.aI K Om EZ [])(mL:mg "lowest"=some (.ref fl))(kL:keepIn K (.ref fl)=true):
 Cy P w K mg base (bc P w) 3 f fd Fz (m4 C):=by
 refine F.okN vQ (λvs H Q E h=>?_) (λGL A outer s H vs Q E hr h=>?_)
 ·obtain⟨s,dx,p,t,b,rfl,_⟩:=h;rfl
 ·obtain⟨s,dx,p,t,b,rfl,hs,hp,hB,hb,q⟩:=h
  refine⟨_,aj (aV (aB cM (br (pv 0) rfl) (bR (by rfl) mF (show aG (.int 0) (.int 0 tF) from⟨_,rfl⟩)) (aA _))
   (ao (aw (ay FL hr (by rfl) mL kL bL .nil ag (ah (pv 1) (ah (pv 2) af))))) aE)
   (ao (aw (bq (ah (aF eU (pv 1) (br (pv 0) rfl)) (ah ak af))))),?_⟩
  refine⟨_,rfl,s,C,dx,_,_,rfl,hs,c.cl,c.nP,rfl,rfl,_,rfl,?_⟩;refine cT (λh=>?_) (λh=>?_)
  ·have HM:p=0:=by simpa using h
   refine⟨_,rfl,_,rfl,t,b,rfl,hb,hB,λa ha=>?_⟩;have y:=q a ha;unfold pb nZ at y;rw[if_pos HM,if_pos HM] at y;exact y
  ·have HM:p≠0:=by simpa using h
   obtain⟨YB,p2,Ua⟩:=hp.two HM;refine⟨_,rfl,_,rfl,s,C,dx,_,_,rfl,hs,c.cl,c.nP,rfl,_,_,rfl,rfl,(by show(0:Int)<p;omega),d9,λa ha=>?_⟩;have y:=q a ha;unfold pb nZ at y;rw[if_neg HM,if_neg HM] at y;exact y
theorem a0 (x y:V):iY [x,y] 0=some x:=rfl
theorem a1 (x y:V):iY [x,y] 1=some y:=rfl
theorem Bv:uQ FD FD (ar A6):=dI (by decide +kernel)
theorem BC {a b:Int}(h:a≠0)(k:b≠0):a*b≠0:=Int.mul_ne_zero h k
theorem AR {fs:Addr}{Iw:GF}(F:E6 K "plus" "Field.plus" A6 f fd)(c:Cp K mg C)(FS:Cy P w K mg base (bc P w) 3 fs Iw Fz (m4 C))(bS:L2.aI K Iw Fz [])(mS:L2.Meth K C "settled" fs):
 Cy P w K mg base (bc P w) 4 f fd FD (A1 C sY):=by
 refine F.okN Bv (λvs H Q E h=>?_) (λGL A outer s H vs Q E hr h=>?_)
 ·obtain⟨s,dx,a1,a2,p,t1,b1,t2,b2,rfl,_⟩:=h;rfl
 ·obtain⟨s,dx,x1,x2,p,t1,b1,t2,b2,rfl,hs,hp,h1,h2,B1,B2,B3,B4,n1,n2,q⟩:=h;refine⟨_,ao (aw (ow (pv 0) c.cl mS FS hr bS .nil ag (ah (aF cH (aF om (aQ cn (pv 1) ak (λ_ _=>rfl)) (aQ cn (pv 2) ak (λ_ _=>rfl))) (aF om (aQ cn (pv 2) ak (λ_ _=>rfl)) (aQ cn (pv 1) ak (λ_ _=>rfl)))) (ah (aF om (aQ cn (pv 1) ak (λ_ _=>rfl)) (aQ cn (pv 2) ak (λ_ _=>rfl))) af)))),?_⟩;refine⟨_,rfl,s,dx,_,rfl,hs,rfl,?_⟩;refine⟨_,rfl,x1,_,0,_,rfl,rfl,bX.of h1,a0 _ _,_,rfl,x2,_,1,_,rfl,rfl,bX.of h2,a1 _ _,_,_,rfl,rfl,⟨B1.mono (by decide),B4.mono (by decide)⟩,?_⟩;refine⟨_,rfl,x2,_,0,_,rfl,rfl,bX.of h2,a0 _ _,_,rfl,x1,_,1,_,rfl,rfl,bX.of h1,a1 _ _,_,_,rfl,rfl,⟨B3.mono (by decide),B2.mono (by decide)⟩,_,_,rfl,rfl,?_⟩;refine⟨_,rfl,x1,_,1,_,rfl,rfl,bX.of h1,a1 _ _,_,rfl,x2,_,1,_,rfl,rfl,bX.of h2,a1 _ _,_,_,rfl,rfl,⟨B2.mono (by decide),B4.mono (by decide)⟩,?_⟩;exact⟨s,dx,p,_,_,rfl,hs,hp,(B2.mul B4).mono (by decide),BC n1 n2,q⟩
noncomputable abbrev AY:Stmt:=(aY 43)
noncomputable abbrev Bg:Stmt:=(aY 44)
noncomputable abbrev AV:Stmt:=(aY 45)
theorem ai {a:Addr}{o:HO}(h:H a=none):au H (upd H a o):=λb u e=>by rw[aq (av e h)];exact e
noncomputable def yL (K:PySem.W.Frag):Sp:=λvs H Q _=>∃(a:Addr)(ns:List Int)(k:Int),vs=[.ref a,.int k]/\aM K H a (ns.map V.int)/\ns.length<=63/\0<=k/\k<=63 /\
 ∀(p:Addr)(l r:Int),H p=none->0<=r->r<2147483647->Q (.ref p) (upd H p (.lst [.int l,.int r]))
noncomputable def CI:Sp:=λvs H Q _=>∃(p:Addr)(l r m:Int),vs=[.ref p,.int m]/\H p=some (.lst [.int l,.int r])/\0<=r/\r<2147483647/\0<m/\m<18446744073709551616 /\
 ∀(z l' r':Int),0<=z->z<m->0<=r'->r'<2147483647->Q (.int z) (upd H p (.lst [.int l',.int r']))
variable {Q:VK}
theorem iF {k l c:Int}{x:Option V}(HQ:0<=k)(Oo:k<=63)(q:∀(p:Addr)(l r:Int),H p=none->0<=r->r<2147483647->Q (.ref p) (upd H p (.lst [.int l,.int r]))):
 Cc (cO (dY 3) (cO (oU (rI (λ_ j=>0<j) λi j=>.int (i%j)) (oU (rI vo λi j=>.int (i*j)) (oU (w9 λi j=>.int (i+j)) (oU (w9 λi j=>.int (i+j)) (oU (rI (λ_ j=>0<j) λi j=>.int (i%j)) (dY 2) (tC (.int 2147483629)))
  (oU (rI vo λi j=>.int (i*j)) (oU (rI vo λi j=>.int (i*j)) (tC (.int 104729)) (dY 1)) (dY 1))) (tC (.int 7))) (tC (.int 48271))) (tC (.int 2147483647))) D1)) [x,some (.int k),some (.int c),some (.int l)] H Q:=by
 have h1:(0:Int)<=104729*k:=by omega
 have h2:104729*k<=6597927:=by omega
 refine⟨_,rfl,_,rfl,_,_,rfl,rfl,(by show(0:Int)<2147483629;decide),_,rfl,_,_,rfl,rfl,.inl ⟨by decide,by decide⟩,_,rfl,_,_,rfl,rfl,.inl ⟨by omega,by omega⟩,_,_,rfl,rfl,_,_,rfl,rfl,_,_,rfl,rfl,.inr ⟨by decide,by decide⟩,_,_,rfl,rfl,(by show(0:Int)<2147483647;decide),d9,λp hp=>?_⟩;exact q p _ _ hp (Int.emod_nonneg _ (by decide)) (Int.emod_lt_of_pos _ (by decide))
theorem lB:uQ ["_law_script","_law_k","_law_cell","_law_left"] Eu (ar AY):=dI (by decide +kernel)
theorem zO (F:E6 K "_law_room" "_law_room" AY f fd)(hlen:mg "len"=none):Cy P w K mg base (bc P w) 1 f fd Eu (yL K):=by
 refine F.okN lB (λvs H Q E h=>?_) (λGL A outer s H vs Q E hr h=>?_)
 ·obtain⟨a,ns,k,rfl,_⟩:=h;rfl
 ·obtain⟨a,ns,k,rfl,hS,hn,HQ,Oo,q⟩:=h
  refine⟨_,aj (aO (i:=2) lB.nd rfl (Or.inl rfl) ak)
   (aj (aV (aB eQ (pv 1) (aD bp (by rfl) hlen PySem.boot_len (cj (pv 0) af)) (aA _))
    (ao (aO (i:=2) lB.nd rfl (Or.inl rfl) (aQ bu (pv 0) (pv 1) (λ_ _=>rfl)))) aE)
   (aj (aO (i:=3) lB.nd rfl (Or.inl rfl) ak)
   (aj (aV (aB zi (pv 2) (aF jn ak ak) (aA _)) (ao (aO (i:=3) lB.nd rfl (Or.inl rfl) (pv 2))) aE)
   (ao (aw (az (cj (pv 3) (cj
    (aF eU (aF eW (aF cH (aF cH (aF eU (pv 2) ak) (aF eW (aF eW ak (pv 1)) (pv 1))) ak) ak) ak) af)))))))),?_⟩
  refine⟨_,rfl,_,rfl,a,_,rfl,.inl hS,_,_,rfl,rfl,_,rfl,?_⟩;refine cT (λh=>?_) (λh=>?_)
  ·have GV:k.toNat<ns.length:=by
    have h1:=of_decide_eq_true h;rw[List.length_map] at h1;omega
   obtain⟨c,hc⟩:∃c,iY (ns.map V.int) k=some (V.int c):=by
    refine⟨ns[k.toNat],?_⟩
    have e:((k.toNat:Nat):Int)=k:=by omega
    have z:=jO (xs:=ns.map V.int) (j:=k.toNat) (v:=V.int ns[k.toNat]) (by rw[List.getElem?_map];simp[GV]);rw[e] at z;exact z
   refine⟨_,rfl,_,rfl,a,_,k,_,rfl,rfl,hS,hc,?_⟩;refine⟨_,rfl,_,_,rfl,rfl,⟨by decide,by decide,by decide⟩,_,_,rfl,rfl,_,rfl,?_⟩;refine cT (λh2=>?_) (λh2=>?_)
   ·exact⟨_,rfl,iF HQ Oo q⟩
   ·exact iF HQ Oo q
  ·refine⟨_,rfl,_,_,rfl,rfl,⟨by decide,by decide,by decide⟩,_,_,rfl,rfl,_,rfl,?_⟩;refine cT (λh2=>?_) (λh2=>?_)
   ·exact⟨_,rfl,iF HQ Oo q⟩
   ·exact iF HQ Oo q
theorem oQ:uQ ["_law_room_here","_law_many","_law_found"] Eh (ar Bg):=dI (by decide +kernel)
theorem Ax (F:E6 K "_law_take" "_law_take" Bg f fd):Cy P w K mg base (bc P w) 1 f fd Eh CI:=by
 refine F.okN oQ (λvs H Q E h=>?_) (λGL A outer s H vs Q E hr h=>?_)
 ·obtain⟨p,l,r,m,rfl,_⟩:=h;rfl
 ·obtain⟨p,l,r,m,rfl,hp,KW,GU,Nc,hm1,q⟩:=h
  refine⟨_,aj (aV (aB qz (aQ bu (pv 0) ak (λ_ _=>rfl)) ak (aA _))
   (aj (aO (i:=2) oQ.nd rfl (Or.inl rfl) (aF eU (aQ bu (pv 0) ak (λ_ _=>rfl)) (pv 1)))
   (aj (c8 (aF gz (aQ bu (pv 0) ak (λ_ _=>rfl)) (pv 1)) (i8 (pv 0) ak fb))
   (ao (aw (pv 2))))) aE)
   (aj (c8 (aF eU (aF cH (aF eW (aQ bu (pv 0) ak (λ_ _=>rfl)) ak) ak) ak) (i8 (pv 0) ak fb))
   (aj (aO (i:=2) oQ.nd rfl (Or.inl rfl) (aF abO (aF eU (aF eW (aQ bu (pv 0) ak (λ_ _=>rfl)) (aQ bu (pv 0) ak (λ_ _=>rfl))) ak) ak))
   (aj (aV (aB qz (pv 1) (aF jn ak ak) (aA _))
    (aj (c8 (aF eU (aF cH (aF eW (aQ bu (pv 0) ak (λ_ _=>rfl)) ak) ak) ak) (i8 (pv 0) ak fb))
    (ao (aO (i:=2) oQ.nd rfl (Or.inl rfl) (aF cH (aF eW (pv 2) ak) (aF eU (aF eW (aQ bu (pv 0) ak (λ_ _=>rfl)) (aQ bu (pv 0) ak (λ_ _=>rfl))) ak))))) aE)
   (ao (aw (aF eU (pv 2) (pv 1))))))),?_⟩
  have i0:∀x y:V,iY [x,y] 0=some x:=λ_ _=>rfl;have i1:∀x y:V,iY [x,y] 1=some y:=λ_ _=>rfl;have n0:qS [V.int l,V.int r].length 0=some 0:=rfl;have n1:∀x y:V,qS [x,y].length 1=some 1:=λ_ _=>rfl;refine⟨_,rfl,p,_,0,_,rfl,rfl,aM.of hp,i0 _ _,_,_,rfl,rfl,_,rfl,?_⟩;refine cT (λh=>?_) (λh=>?_)
  ·refine⟨_,rfl,p,_,0,_,rfl,rfl,aM.of hp,i0 _ _,_,rfl,_,_,rfl,rfl,Nc,?_⟩;refine⟨_,rfl,p,_,0,_,rfl,rfl,aM.of hp,i0 _ _,_,rfl,_,_,rfl,rfl,⟨by omega,(show B 64 m from(by show m.natAbs<2^64;omega)).mono (by decide)⟩,_,rfl,p,_,0,0,rfl,rfl,hp,n0,?_⟩;exact⟨_,rfl,q _ _ _ (Int.emod_nonneg _ (by omega)) (Int.emod_lt_of_pos _ Nc) KW GU⟩
  ·have e1:∀t:Int,0<=t%2147483647/\t%2147483647<2147483647:=λt=>⟨Int.emod_nonneg _ (by decide),Int.emod_lt_of_pos _ (by decide)⟩;refine⟨_,rfl,p,_,1,_,rfl,rfl,aM.of hp,i1 _ _,_,_,rfl,rfl,.inl ⟨by omega,by omega⟩,_,_,rfl,rfl,_,_,rfl,rfl,(by show(0:Int)<2147483647;decide),_,rfl,p,_,1,1,rfl,rfl,hp,n1 _ _,?_⟩;refine⟨_,rfl,p,_,1,_,rfl,rfl,aM.of ae,i1 _ _,_,rfl,p,_,1,_,rfl,rfl,aM.of ae,i1 _ _,_,_,rfl,rfl,.inl ⟨by omega,by omega⟩,_,_,rfl,rfl,(by show(0:Int)<2147483629;decide),_,_,rfl,rfl,⟨by decide,by decide⟩,?_⟩;refine⟨_,rfl,_,_,rfl,rfl,⟨by decide,by decide,by decide⟩,_,_,rfl,rfl,_,rfl,?_⟩;refine cT (λh2=>?_) (λh2=>?_)
   ·refine⟨_,rfl,p,_,1,_,rfl,rfl,aM.of ae,i1 _ _,_,_,rfl,rfl,.inl ⟨by omega,by omega⟩,_,_,rfl,rfl,_,_,rfl,rfl,(by show(0:Int)<2147483647;decide),_,rfl,p,_,1,1,rfl,rfl,ae,n1 _ _,?_⟩;rw[aaq];refine⟨_,rfl,_,_,rfl,rfl,.inr ⟨by decide,by decide⟩,_,rfl,p,_,1,_,rfl,rfl,aM.of ae,i1 _ _,_,rfl,p,_,1,_,rfl,rfl,aM.of ae,i1 _ _,_,_,rfl,rfl,.inl ⟨by omega,by omega⟩,_,_,rfl,rfl,(by show(0:Int)<2147483587;decide),_,_,rfl,rfl,?_⟩;exact⟨_,rfl,_,rfl,_,_,rfl,rfl,Nc,q _ _ _ (Int.emod_nonneg _ (by omega)) (Int.emod_lt_of_pos _ Nc) (e1 _).1 (e1 _).2⟩
   ·exact⟨_,rfl,_,rfl,_,_,rfl,rfl,Nc,q _ _ _ (Int.emod_nonneg _ (by omega)) (Int.emod_lt_of_pos _ Nc) (e1 _).1 (e1 _).2⟩
noncomputable def Fu (H:Hp)(Q:VK)(t b:Int):Prop:=∀(H':Hp)(a:Addr),au H H'->H' a=some (eM t b)->Q (.ref a) H'
theorem Fu.of {H':Hp}{t b:Int}(q:Fu H Q t b)(S:au H H'):∀a,H' a=none->Q (.ref a) (upd H' a (eM t b)):=λa ha=>q _ a (S.trans (ai ha)) ae
noncomputable def xi:Sp:=λvs H Q _=>∃t b:Int,vs=[.int t,.int b]/\b≠0/\B 9000 b/\B 9000 t/\Fu H Q (eG t b) (cN t b)
noncomputable abbrev FV:List Str:=["_law_top","_law_base","_law_one","_law_other","_law_sign"]
theorem lK:uQ FV Bm (ar AV):=dI (by decide +kernel)
theorem Bi (c:Int):(if c<0 then -c else c)=ab c:=rfl
theorem zX (F:E6 K "_law_lowest" "_law_lowest" AV f fd)(mA:mg "abs"=none)(mI:mg "int"=none):Cy P w K mg base (bc P w) 1 f fd Bm xi:=by
 refine F.okN lK (λvs H Q E h=>?_) (λGL A outer s H vs Q E hr h=>?_)
 ·obtain⟨a,b,rfl,_⟩:=h;rfl
 ·obtain⟨t,b,rfl,hb,hB,hT,q⟩:=h
  refine⟨_,aj (aO (i:=2) lK.nd rfl (Or.inl rfl) (aD fj (by rfl) mA (by rfl) (ah (pv 0) af)))
   (aj (aO (i:=3) lK.nd rfl (Or.inl rfl) (aD fj (by rfl) mA (by rfl) (ah (pv 1) af)))
   (aj (lE PassesOwn.never (aB gF (pv 3) ak (aA _)) (ao (sv (i:=2) (j:=3) rfl lK.nd rfl rfl (by decide) rfl rfl (ah (pv 3) (ah (aF uH (pv 2) (pv 3)) af)) rfl)))
   (aj (aO (i:=4) lK.nd rfl (Or.inl rfl) (aQ bu (az (ah ak (ah (pB ko ak) af))) (a9 ji (by rfl) mI (by rfl) (ah (bD eQ (pv 1) ak (aA _)) af)) (λ_ _=>rfl)))
   (ao (aw (bq (ah (aF gz (aF eW (pv 4) (pv 0)) (pv 2)) (ah (aF gz (aD fj (by rfl) mA (by rfl) (ah (pv 1) af)) (pv 2)) af)))))))),?_⟩
  refine⟨_,rfl,t,rfl,_,rfl,b,rfl,?_⟩;rw[Bi,Bi];refine⟨λm σ H'=>∃c d:Int,σ=[some (.int t),some (.int b),some (.int c),some (.int d),none]/\H'=H/\m=d.natAbs/\Int.gcd c d=Int.gcd t b/\0<=c/\0<=d,⟨_,ab t,ab b,rfl,rfl,rfl,CK t b,by rw[lu];omega,by rw[lu];omega⟩,?_⟩;rintro m σ H' ⟨c,d,rfl,rfl,rfl,hg,hc0,RU⟩;refine⟨_,rfl,rfl,_,rfl,?_⟩;refine cT (λh=>?_) (λh=>?_)
  ·have hd:d≠0:=by simpa using h
   refine⟨λσ' Ik=>∃c' d':Int,σ'=[some (.int t),some (.int b),some (.int c'),some (.int d'),none]/\Ik=H'/\d'.natAbs<d.natAbs/\Int.gcd c' d'=Int.gcd t b/\0<=c'/\0<=d',λσ' Ik ⟨c',d',e1,e2,e3,e4,e5,e6⟩=>⟨_,e3,c',d',e1,e2,rfl,e4,e5,e6⟩,?_⟩;refine⟨_,rfl,_,rfl,_,rfl,_,_,rfl,rfl,hd,_,_,rfl,d,c.fmod d,rfl,rfl,uI c d hd,by rw[pZ,hg],RU,Int.fmod_nonneg_of_pos c (by omega)⟩
  ·have hd:d=0:=by simpa using h
   subst hd
   have eg:c=cY t b:=by
    unfold cY;rw[<-hg];simp;omega
   have gp:=fm (t:=t) hb;have YC:B 9000 (cY t b):=hB.le (Cj hb);subst eg;refine⟨_,rfl,d9,λz hz=>?_⟩;have S:=ai (o:=.lst [V.int 1,V.int (-1)]) hz;refine⟨_,rfl,_,_,rfl,rfl,.inr ⟨_,rfl,?_⟩⟩
   have JN:iY [V.int 1,V.int (-1)] (if decide (b<0)=true then 1 else 0)=some (.int (sg b)):=by
    unfold sg
    by_cases LK:b<0
    ·simp[LK];rfl
    ·simp[LK];rfl
   refine⟨z,_,_,_,rfl,rfl,aM.of ae,JN,?_⟩
   have sg1:-1<=sg b/\sg b<=1:=by unfold sg;split <;> decide
   refine⟨_,rfl,_,rfl,_,_,rfl,rfl,.inl ⟨by omega,by omega⟩,_,rfl,_,_,rfl,rfl,⟨by omega,YC⟩,_,rfl,b,rfl,_,rfl,_,_,rfl,rfl,⟨by omega,YC⟩,d9,λa ha=>?_⟩;have y:=q.of S a ha;rw[<-Do (t:=t) hb,<-DB (t:=t) hb] at y;exact y
noncomputable abbrev yk:Stmt:=(aY 46)
noncomputable abbrev tD:Stmt:=(aY 47)
noncomputable def aN (H:Hp)(r:Addr):Prop:=∃l x:Int,H r=some (.lst [.int l,.int x])/\0<=x/\x<2147483647
noncomputable def SameBut (r:Addr)(H H':Hp):Prop:=∀b o,H b=some o->b≠r->H' b=some o
variable {r:Addr}
theorem SameBut.trans {H1 H2:Hp}(a:SameBut r H H1)(b:SameBut r H1 H2):SameBut r H H2:=λc o e n=>b c o (a c o e n) n
theorem SameBut.of {H1:Hp}(a:au H H1):SameBut r H H1:=λc o e _=>a c o e
theorem SameBut.upd {o:HO}:SameBut r H (upd H r o):=λb u e n=>by rw[aq n];exact e
noncomputable def mx:Sp:=λvs H Q _=>∃r:Addr,vs=[.ref r]/\aN H r/\∀(p:Int)(H':Hp),FP p->aN H' r->SameBut r H H'->Q (.int p) H'
noncomputable def rJ:Sp:=λvs H Q _=>∃(r:Addr)(p:Int),vs=[.ref r,.int p]/\FP p/\aN H r/\∀(a:Addr)(t b:Int)(H':Hp),Num p t b->B 45 t->B 45 b->H' a=some (eM t b)->aN H' r->SameBut r H H'->Q (.ref a) H'
theorem jK {xs:List Int}{w:Int}(h0:0<=w)(h1:w<xs.length):∃x∈xs,iY (xs.map V.int) w=some (.int x):=by
 have hl:w.toNat<xs.length:=by omega
 refine⟨xs[w.toNat],List.getElem_mem hl,?_⟩;have z:=jO (xs:=xs.map V.int) (j:=w.toNat) (v:=V.int xs[w.toNat]) (by rw[List.getElem?_map];simp[hl])
 have e:((w.toNat:Nat):Int)=w:=by omega
 rw[e] at z;exact z
theorem j8:uQ ["_law_room_here","_law_at","_law_some"] ["_law_room_here"] (ar yk):=dI (by decide +kernel)
set_option maxHeartbeats 1000000 in
theorem vI {ft:Addr}{IU:GF}(F:E6 K "_law_prime" "_law_prime" yk f fd)(FT:Cy P w K mg base (bc P w) 1 ft IU Eh CI)(bT:L2.aI K IU Eh [])(mT:mg "_law_take"=some (.ref ft))(kT:keepIn K (.ref ft)=true):
 Cy P w K mg base (bc P w) 2 f fd ["_law_room_here"] mx:=by
 refine F.okN j8 (λvs H Q E h=>?_) (λGL A outer s H vs Q E hr h=>?_)
 ·obtain⟨r,rfl,_⟩:=h;rfl
 ·obtain⟨r,rfl,⟨l,x,hR,x0,x1⟩,q⟩:=h
  refine⟨_,aj (aO (i:=1) j8.nd rfl (Or.inl rfl) (ay FT hr (by rfl) mT kT bT .nil ag (ah (pv 0) (ah ak af))))
   (aj (aV (aB cM (pv 1) ak (aA _))
    (@aj _ _ _ _ _ (@aO _ _ 2 _ _ _ _ j8.nd rfl (Or.inl rfl) (@oi _ _ _ [11,13,17,19,23,29,31,37,41,43,47,53,59,61,67,71,73,79,83,89] rfl (by decide)) rfl (Or.inl rfl))
    (ao (aw (aQ bu (pv 2) (ay FT hr (by rfl) mT kT bT .nil ag (ah (pv 0) (ah ak af))) (λ_ _=>rfl))))) aE)
   (@ao _ _ _ (@aw _ _ _ _ (@aQ _ _ _ _ _ _ _ bu (@oi _ _ _ [0,0,2,3,5,7,97,0] rfl (by decide)) (pv 1) (λ_ _=>rfl))))),?_⟩
  refine⟨_,rfl,r,l,x,9,rfl,hR,x0,x1,by decide,by decide,λz l2 r2 z0 z1 g0 g1=>?_⟩;refine⟨_,rfl,rfl,_,rfl,?_⟩;have LM:(upd H r (.lst [.int l2,.int r2])) r=some (.lst [.int l2,.int r2]):=ae;have S2:SameBut r H (upd H r (.lst [.int l2,.int r2])):=SameBut.upd;generalize (upd H r (.lst [.int l2,.int r2]))=H2 at LM S2 |-;refine cT (λh=>?_) (λh=>?_)
  ·refine λm hm=>?_;have S3:=ai (o:=.lst ([11,13,17,19,23,29,31,37,41,43,47,53,59,61,67,71,73,79,83,89].map V.int)) hm;have em:(upd H2 m (.lst ([11,13,17,19,23,29,31,37,41,43,47,53,59,61,67,71,73,79,83,89].map V.int))) m=some (.lst ([11,13,17,19,23,29,31,37,41,43,47,53,59,61,67,71,73,79,83,89].map V.int)):=ae;have KY:=S3 _ _ LM;refine⟨_,rfl,_,rfl,r,l2,r2,20,rfl,KY,g0,g1,by decide,by decide,λz' l3 r3 z0' z1' g0' Ub=>?_⟩;obtain⟨y,hy,JN⟩:=jK (xs:=[11,13,17,19,23,29,31,37,41,43,47,53,59,61,67,71,73,79,83,89]) z0' z1';have nm:m≠r:=jw em KY (by intro z;cases z);refine⟨m,_,z',_,rfl,rfl,aM.of (by rw[aq nm];exact em),JN,?_⟩
   have all:∀y∈([11,13,17,19,23,29,31,37,41,43,47,53,59,61,67,71,73,79,83,89]:List Int),y∈Dv:=by decide
   exact q y _ (.inr (all y hy)) ⟨l3,r3,ae,g0',Ub⟩ ((S2.trans (SameBut.of S3)).trans SameBut.upd)
  ·have hz:z<8:=by
    have:z≠8:=by simpa using h
    omega
   refine λm hm=>?_;have S3:=ai (o:=.lst ([0,0,2,3,5,7,97,0].map V.int)) hm;have em:(upd H2 m (.lst ([0,0,2,3,5,7,97,0].map V.int))) m=some (.lst ([0,0,2,3,5,7,97,0].map V.int)):=ae;obtain⟨y,hy,JN⟩:=jK (xs:=[0,0,2,3,5,7,97,0]) z0 hz;refine⟨_,rfl,m,_,z,_,rfl,rfl,aM.of em,JN,?_⟩
   have all:∀y∈([0,0,2,3,5,7,97,0]:List Int),y=0\/y∈Dv:=by decide
   exact q y _ (all y hy) ⟨l2,r2,S3 _ _ LM,g0,g1⟩ (S2.trans (SameBut.of S3))
theorem yV:uQ vv vv (ar tD):=dI (by decide +kernel)
theorem tW {H H2:Hp}{t b:Int}(q:∀(a:Addr)(t b:Int)(H':Hp),Num 0 t b->B 45 t->B 45 b->H' a=some (eM t b)->aN H' r->SameBut r H H'->Q (.ref a) H')(hb:0<b)(hB:B 45 b)(hT:B 45 t)(hR:aN H2 r)(S:SameBut r H H2):xi [.int t,.int b] H2 Q λ_ _ _=>False:=by
 have LK:b≠0:=by omega
 refine⟨t,b,rfl,LK,hB.mono (by decide),hT.mono (by decide),λH' a S' e=>?_⟩;refine q a _ _ H' (Num.low LK) (hT.le (uN LK)) (hB.le (uJ LK)) e ?_ (S.trans (SameBut.of S'));obtain⟨l,x,h,z⟩:=hR;exact⟨l,x,S' _ _ h,z⟩
set_option maxHeartbeats 1000000 in
theorem u5 {ft fl:Addr}{IU Om:GF}(F:E6 K "_law_number" "_law_number" tD f fd)(FT:Cy P w K mg base (bc P w) 1 ft IU Eh CI)(bT:L2.aI K IU Eh [])(mT:mg "_law_take"=some (.ref ft))(kT:keepIn K (.ref ft)=true)
 (FL:Cy P w K mg base (bc P w) 1 fl Om Bm xi)(bL:L2.aI K Om Bm [])(mL:mg "_law_lowest"=some (.ref fl))(kL:keepIn K (.ref fl)=true):
 Cy P w K mg base (bc P w) 2 f fd vv rJ:=by
 refine F.okN yV (λvs H Q E h=>?_) (λGL A outer s H vs Q E hr h=>?_)
 ·obtain⟨r,p,rfl,_⟩:=h;rfl
 ·obtain⟨r,p,rfl,hp,⟨l,x,hR,x0,x1⟩,q⟩:=h
  refine⟨_,aj (aV (aB qz (pv 1) ak (aA _)) (ao (aw (bq (ah (ay FT hr (by rfl) mT kT bT .nil ag (ah (pv 0) (ah (pv 1) af))) (ah ak af))))) aE)
   (aj (aV (aB cM (ay FT hr (by rfl) mT kT bT .nil ag (ah (pv 0) (ah ak af))) ak (aA _))
    (ao (aw (ay FL hr (by rfl) mL kL bL .nil ag
     (ah (aF gf (ay FT hr (by rfl) mT kT bT .nil ag (ah (pv 0) (@ah _ _ _ _ _ (@aF _ _ _ _ _ _ _ _ eW ak (@aF _ _ _ _ _ _ _ _ jn ak ak)) af rfl))) (@aF _ _ _ _ _ _ _ _ jn ak ak))
     (@ah _ _ _ _ _ (@aQ _ _ _ _ _ _ _ bu (@az _ _ _ _ (@ah _ _ _ _ _ ak (@ah _ _ _ _ _ ak (@ah _ _ _ _ _ (@aF _ _ _ _ _ _ _ _ jn ak ak) (@ah _ _ _ _ _ (@aF _ _ _ _ _ _ _ _ cH (@aF _ _ _ _ _ _ _ _ jn ak ak) ak) af rfl) rfl) rfl) rfl))
       (ay FT hr (by rfl) mT kT bT .nil ag (ah (pv 0) (ah ak af))) (λ_ _=>rfl)) af rfl))))) aE)
   (ao (aw (ay FL hr (by rfl) mL kL bL .nil ag
    (ah (aF gf (ay FT hr (by rfl) mT kT bT .nil ag (ah (pv 0) (ah ak af))) ak)
    (@ah _ _ _ _ _ (@aQ _ _ _ _ _ _ _ bu (@oi _ _ _ [1,1,2,3] rfl (by decide)) (ay FT hr (by rfl) mT kT bT .nil ag (ah (pv 0) (ah ak af))) (λ_ _=>rfl)) af rfl)))))),?_⟩
  refine⟨_,rfl,_,_,rfl,rfl,_,rfl,?_⟩;refine cT (λh=>?_) (λh=>?_)
  ·have HM:0<p:=by simpa using h
   obtain⟨_,p2,Ua⟩:=hp.two (by omega);refine⟨_,rfl,_,rfl,r,l,x,p,rfl,hR,x0,x1,HM,by omega,λz l2 r2 z0 z1 g0 g1=>?_⟩;refine⟨d9,λa ha=>?_⟩;have S:=ai (o:=eM z 1) ha;refine q a z 1 _ (Num.ofP z0 z1) ?_ (by show(1:Int).natAbs<2^45;decide) ae ⟨l2,r2,S _ _ ae,g0,g1⟩ (SameBut.upd.trans (SameBut.of S));show z.natAbs<2^45;omega
  ·have HM:p=0:=by
    have:=hp.nn
    have h':¬0<p:=by simpa using h
    omega
   subst HM;refine⟨_,rfl,r,l,x,8,rfl,hR,x0,x1,by decide,by decide,λz l2 r2 z0 z1 g0 g1=>⟨rfl,_,rfl,?_⟩⟩;have LM:(upd H r (.lst [.int l2,.int r2])) r=some (.lst [.int l2,.int r2]):=ae;have S2:SameBut r H (upd H r (.lst [.int l2,.int r2])):=SameBut.upd;generalize (upd H r (.lst [.int l2,.int r2]))=H2 at LM S2 |-;refine cT (λh=>?_) (λh=>?_)
   ·refine⟨_,rfl,_,_,rfl,rfl,⟨by decide,by decide,by decide⟩,_,_,rfl,rfl,.inl ⟨by decide,by decide⟩,r,l2,r2,_,rfl,LM,g0,g1,by decide,by decide,λy l3 r3 y0 y1 k0 k1=>?_⟩;refine⟨_,_,rfl,rfl,⟨by decide,by decide,by decide⟩,_,_,rfl,rfl,?_⟩;refine⟨_,_,rfl,rfl,⟨by decide,by decide,by decide⟩,_,_,rfl,rfl,⟨by decide,by decide,by decide⟩,_,_,rfl,rfl,lX,λm hm=>?_⟩;have S3:SameBut r H2 (upd H2 r (.lst [.int l3,.int r3])):=SameBut.upd;have KY:(upd H2 r (.lst [.int l3,.int r3])) r=some (.lst [.int l3,.int r3]):=ae;generalize (upd H2 r (.lst [.int l3,.int r3]))=H3 at hm S3 KY |-;have S4:=ai (o:=.lst ([1,7,10^(6:Int).toNat,10^(12:Int).toNat+39].map V.int)) hm;have em:(upd H3 m (.lst ([1,7,10^(6:Int).toNat,10^(12:Int).toNat+39].map V.int))) m=some (.lst ([1,7,10^(6:Int).toNat,10^(12:Int).toNat+39].map V.int)):=ae;have Oq:=S4 _ _ KY;refine⟨_,rfl,r,l3,r3,4,rfl,Oq,k0,k1,by decide,by decide,λv l4 r4 v0 v1 j0 j1=>?_⟩;have nm:m≠r:=jw em Oq (by intro z;cases z);obtain⟨b,hb,JN⟩:=jK (xs:=[1,7,10^(6:Int).toNat,10^(12:Int).toNat+39]) v0 v1;refine⟨m,_,v,_,rfl,rfl,aM.of (by rw[aq nm];exact em),JN,?_⟩
    have bb:∀b∈([1,7,10^(6:Int).toNat,10^(12:Int).toNat+39]:List Int),0<b/\b.natAbs<2^45:=by decide
    obtain⟨b0,bB⟩:=bb b hb;refine tW (H:=H) q b0 bB ?_ ⟨l4,r4,ae,j0,j1⟩ (((S2.trans S3).trans (SameBut.of S4)).trans SameBut.upd)
    have e1:(2:Int)*10^(12:Int).toNat=2000000000000:=by decide
    have e2:(10:Int)^(12:Int).toNat=1000000000000:=by decide
    rw[e1] at y1;show(y-10^(12:Int).toNat).natAbs<2^45;rw[e2];omega
   ·refine⟨_,rfl,r,l2,r2,19,rfl,LM,g0,g1,by decide,by decide,λy l3 r3 y0 y1 k0 k1=>?_⟩;refine⟨_,_,rfl,rfl,λm hm=>?_⟩;have S3:SameBut r H2 (upd H2 r (.lst [.int l3,.int r3])):=SameBut.upd;have KY:(upd H2 r (.lst [.int l3,.int r3])) r=some (.lst [.int l3,.int r3]):=ae;generalize (upd H2 r (.lst [.int l3,.int r3]))=H3 at hm S3 KY |-;have S4:=ai (o:=.lst ([1,1,2,3].map V.int)) hm;have em:(upd H3 m (.lst ([1,1,2,3].map V.int))) m=some (.lst ([1,1,2,3].map V.int)):=ae;have Oq:=S4 _ _ KY;refine⟨_,rfl,r,l3,r3,4,rfl,Oq,k0,k1,by decide,by decide,λv l4 r4 v0 v1 j0 j1=>?_⟩;have nm:m≠r:=jw em Oq (by intro z;cases z);obtain⟨b,hb,JN⟩:=jK (xs:=[1,1,2,3]) v0 v1;refine⟨m,_,v,_,rfl,rfl,aM.of (by rw[aq nm];exact em),JN,?_⟩
    have bb:∀b∈([1,1,2,3]:List Int),0<b/\b.natAbs<2^45:=by decide
    obtain⟨b0,bB⟩:=bb b hb;refine tW (H:=H) q b0 bB ?_ ⟨l4,r4,ae,j0,j1⟩ (((S2.trans S3).trans (SameBut.of S4)).trans SameBut.upd);show(y-9).natAbs<2^45;omega
end K16
namespace L2
open PySem PySem.Spec PyProof.Rows PySem.W
end L2
namespace K16
open PySem L2 PySem.W Nm
noncomputable abbrev mJ:Stmt:=aL (aY 20) 11
variable {H:Hp}{x:V}
theorem Th.same {H':Hp}{T:String}(h:Th H x T)(s:au H H'):Th H' x T:=by
 cases h with
 |non=>exact .non
 |bl b=>exact .bl b
 |int i=>exact .int i
 |str x=>exact .str x
 |lst e=>exact .lst (s _ _ e)
 |tup e=>exact .tup (s _ _ e)
 |dK e=>exact .dK (s _ _ e)
inductive TX (H:Hp):V->Option (V×V)->Prop where
 |no {x:V}{T:String}:Th H x T->T ≠ "tuple"->TX H x none
 |odd {a:Addr}{xs:List V}:H a=some (.tup xs)->xs.length≠2->TX H (.ref a) none
 |two {a:Addr}{y z:V}{Ty Tz:String}:H a=some (.tup [y,z])->Th H y Ty->Th H z Tz->TX H (.ref a) (some (y,z))
theorem TX.same {H':Hp}{o:Option (V×V)}(h:TX H x o)(s:au H H'):TX H' x o:=by
 cases h with
 |no th n=>exact .no (th.same s) n
 |odd e n=>exact .odd (s _ _ e) n
 |two e h1 h2=>exact .two (s _ _ e) (h1.same s) (h2.same s)
noncomputable def wq (p:Int):Option (V×V)->Bool
 |some (.int t,.int b)=>if p=0 then decide (1<=b)&&decide (Int.gcd t b=1) else decide (b=1)&&(decide (0<=t)&&decide (t<p))
 |_=>false
theorem Th.isTup {K:Frag}{T:String}(h:Th H x T):kitOne K (.type T) (.type "tuple")=some (decide (T="tuple")):=by cases h <;> rfl
noncomputable def lD (C:Addr):Sp:=λvs H Q _=>∃(s dx:Addr)(p:Int)(x:V)(o:Option (V×V)),vs=[.ref s,x]/\H s=some (.ins C dx (cw p))/\FP p/\TX H x o/\Q (.bl (wq p o)) H
variable {P:wM}{w:World}{K:PySem.W.Frag}{mg:vJ}{base:Heap}
theorem ic:uQ ["self","thing","top","bottom"] vi (ar mJ):=dI (by decide +kernel)
theorem pA {f C fg fw:Addr}{fd JM Jm:GF}{tF:Tok}(F:E6 K "is_number" "Field.is_number" mJ f fd)(c:Cp K mg C)(mF:mg "FRACTIONS"=some (.int 0 tF))(n:vk mg)(mT:mg "tuple"=none)(mN:mg "len"=none)
 (FG:Cy P w K mg base (bc P w) 1 fg JM AU ze)(bG:L2.aI K JM AU [])(mG:mg "common_divisor"=some (.ref fg))(kG:keepIn K (.ref fg)=true)
 (FW:Cy P w K mg base (bc P w) 1 fw Jm vq su)(bW:L2.aI K Jm vq [])(mW:mg "is_whole"=some (.ref fw))(kW:keepIn K (.ref fw)=true):Cy P w K mg base (bc P w) 2 f fd vi (lD C):=by
 refine F.okN ic (λvs H Q E h=>?_) (λGL A outer s H vs Q E hr h=>?_)
 ·obtain⟨s,dx,p,x,o,rfl,_⟩:=h;rfl
 ·obtain⟨s,dx,p,x,o,rfl,hs,hp,tx,q⟩:=h
  refine⟨_,aj (aV (PW.pt (dH (bM (cf (aD bf (by rfl) n.isi (by rfl) (ah (pv 1) (ah (dh (by rfl) mT (by rfl) (show aG (.ty "tuple") (.type "tuple") from rfl)) af)))))
   (dt (aB gF (aD bp (by rfl) mN PySem.boot_len (ah (pv 1) af)) ak (aA _))))) (ao (aw cV)) aE)
   (aj (c8 (pv 1) (dQ rfl (aJ (aH (i:=2) ic.nd rfl (Or.inl rfl)) (aJ (aH (i:=3) ic.nd rfl (Or.inl rfl)) cm))))
   (aj (aV (PW.pt (dH (bM (cf (ay FW hr (by rfl) mW kW bW .nil ag (ah (pv 2) af)))) (dt (bM (cf (ay FW hr (by rfl) mW kW bW .nil ag (ah (pv 3) af))))))) (ao (aw cV)) aE)
   (aj (aV (aB cM (br (pv 0) rfl) (bR (by rfl) mF (show aG (.int 0) (.int 0 tF) from⟨_,rfl⟩)) (aA _))
    (ao (aw (cp (bD zi (pv 3) ak (aA _)) (dC (bD cM (ay FG hr (by rfl) mG kG bG .nil ag (ah (pv 2) (ah (pv 3) af))) ak (aA _)))))) aE)
   (ao (aw (cp (bD cM (pv 3) ak (aA _)) (dC (pT p4 eQ ak (pv 2) (br (pv 0) rfl))))))))),?_⟩
  cases tx with
  |@no x T th ne =>
   refine⟨_,rfl,x,.ty "tuple",_,_,_,rfl,rfl,th.ty,th.isTup,_,rfl,?_⟩;rw[decide_eq_false ne];exact aZ (aZ q)
  |@odd a xs ha hl =>
   refine⟨_,rfl,.ref a,.ty "tuple",_,_,_,rfl,rfl,.of (.tup ha),rfl,_,rfl,aS ?_⟩;refine⟨_,rfl,a,_,rfl,.inr (bX.of ha),rfl,_,rfl,?_⟩;refine cT (λ_=>q) (λh=>absurd (by simp;omega) h)
  |@two a y z Ty Tz ha hy hz =>
   refine⟨_,rfl,.ref a,.ty "tuple",_,_,_,rfl,rfl,.of (.tup ha),rfl,_,rfl,aS ?_⟩;refine⟨_,rfl,a,_,rfl,.inr (bX.of ha),rfl,_,rfl,?_⟩;refine cT (λh=>absurd h (by simp)) (λ_=>?_);refine⟨_,rfl,a,_,rfl,bX.of ha,rfl,_,_,rfl,_,_,rfl,rfl,?_⟩;refine⟨_,rfl,y,Ty,rfl,hy,_,rfl,?_⟩
   cases e1:dR y with
   |false =>
    have z1:wq p (some (y,z))=false:=by cases y <;> first|rfl|cases e1
    rw[z1] at q;exact aZ (aZ q)
   |true =>
    refine aS ⟨_,rfl,z,Tz,rfl,hz,_,rfl,?_⟩
    cases e2:dR z with
    |false =>
     have z1:wq p (some (y,z))=false:=by cases y <;> cases z <;> first|rfl|cases e2
     rw[z1] at q;exact aZ q
    |true =>
     have z1:∃t,y=.int t:=by cases y <;> first|exact⟨_,rfl⟩|cases e1
     have z2:∃b,z=.int b:=by cases z <;> first|exact⟨_,rfl⟩|cases e2
     obtain⟨t,rfl⟩:=z1;obtain⟨b,rfl⟩:=z2;refine aS ?_;refine⟨_,rfl,s,C,dx,_,_,rfl,hs,c.cl,c.nP,rfl,rfl,_,rfl,?_⟩;refine cT (λh=>?_) (λh=>?_)
     ·have HM:p=0:=by simpa using h
      have z1:wq p (some (.int t,.int b))=(decide (1<=b)&&decide (Int.gcd t b=1)):=by simp[wq,HM]
      rw[z1] at q;refine⟨_,rfl,_,_,rfl,rfl,_,rfl,?_⟩;refine cT (λh1=>?_) (λh1=>?_)
      ·refine⟨_,rfl,_,rfl,t,b,rfl,rfl,?_⟩
       have e3:decide (V.int (cY t b)=V.int 1)=decide (Int.gcd t b=1):=by
        unfold cY
        by_cases g:Int.gcd t b=1
        ·simp[g]
        ·have:¬((Int.gcd t b:Nat):Int)=1:=by omega
         simp[g,this]
       have Ko:decide (1<=b)=true:=h1;rw[Ko,Bool.true_and,<-e3] at q;exact q
      ·have Ko:decide (1<=b)=false:=by simpa using h1
       rw[Ko,Bool.false_and] at q;exact q
     ·have HM:p≠0:=by simpa using h
      have z1:wq p (some (.int t,.int b))=(decide (b=1)&&(decide (0<=t)&&decide (t<p))):=by simp[wq,HM]
      rw[z1] at q;refine⟨_,rfl,rfl,_,rfl,?_⟩;refine cT (λh1=>?_) (λh1=>?_)
      ·have Ko:decide (b=1)=true:=by simpa using h1
       rw[Ko,Bool.true_and] at q;refine⟨_,rfl,_,_,rfl,rfl,_,rfl,?_⟩;refine cT (λh2=>?_) (λh2=>?_)
       ·refine⟨_,rfl,s,C,dx,_,_,rfl,hs,c.cl,c.nP,rfl,_,_,rfl,rfl,?_⟩;have Nd:decide (0<=t)=true:=h2;rw[Nd,Bool.true_and] at q;exact q
       ·have Nd:decide (0<=t)=false:=by simpa using h2
        rw[Nd,Bool.false_and] at q;exact q
      ·have Ko:decide (b=1)=false:=by simpa using h1
       rw[Ko,Bool.false_and] at q;exact q
end K16
namespace L2
open PySem PySem.Spec PyProof.Rows PySem.W
noncomputable def EL:V->Bool->Prop
 | .bl b,c=>c=b
 | .int i,c=>c=(i != 0)
 |_,_=>False
theorem dm {α β:Type}{R:α->β->Prop}:∀{l:List α}{m:List β}{i:Nat}{a:α},Paired R l m->l[i]?=some a->∃b,m[i]?=some b/\R a b
 |[],_,i,a,h,e=>by simp at e
 |x::l,_,i,a,h,e=>by
  cases h with
  |cons h1 h2 =>
   cases i with
   |zero=>simp at e;subst e;exact⟨_,rfl,h1⟩
   |succ i=>simpa using dm h2 (by simpa using e)
theorem ka {α β:Type}{R:α->β->Prop}:∀{l:List α}{m:List β}{i:Nat}{b:β},Paired R l m->m[i]?=some b->∃a,l[i]?=some a/\R a b
 |[],m,i,b,h,e=>by cases h;simp at e
 |x::l,_,i,b,h,e=>by
  cases h with
  |cons h1 h2 =>
   cases i with
   |zero=>simp at e;subst e;exact⟨_,rfl,h1⟩
   |succ i=>simpa using ka h2 (by simpa using e)
variable {y:V}{u:Value}
section
variable {X:Cx}
theorem CB {A:Around}{Q:Bool->Shared->Prop}{E:wA}{s:GH}{c:Bool}(t:EL y c)(r:aG y u)(h:Q c s):wpAny (model X.prog X.w) A (truthy u) Q E s:=by
 cases y with
 |bl b =>
  cases(show u=Value.bool b from r)
  cases(show c=b from t)
  exact wpAny_truthy_bool h
 |int i =>
  obtain⟨k,rfl⟩:=(show ∃k,u=Value.int i k from r)
  cases(show c=(i != 0) from t)
  exact PyProof.Rows.truthy_int h
 |_=>exact t.elim
theorem pq (hc:X.calm=true):cb X (.builtin "all") (λxs H Q=>∃l ys bs,xs=[.ref l]/\aM X.K H l ys/\Paired EL ys bs/\Q (.bl (bs.all id)) H):=by
 intro pins s σ H xs us Q I r h;obtain⟨l,ys,bs,rfl,hl,hp,q⟩:=h;obtain⟨u,rfl,ru⟩:=dS r
 cases(show u=Value.ref l from ru)
 obtain⟨its,rv,pl,hz⟩:=I.list hl
 have GV:l<s.heap.objs.size:=by obtain⟨o,n,e,_⟩:=pl;exact Heap.lt_size e
 refine call_all_walk (wpAny_pyIter_list pl.isList ?_)
 refine⟨s.heap.objs.size,[s.heap.objs.size,l],[s.heap.objs.size],its.toArray.size,_,_,λi=>(bs[i]?).getD true,rfl,Walks.list (A:=X.A.in1) (I.ok.hd hc) _ l (Nat.ne_of_lt GV) its.toArray,
  ⟨⟨_,Heap.get?_push_size _ rfl,rfl,rfl⟩,pl.isList.push _⟩,λi v s' Q' E' hP hQ=>?_,λh' tk hk=>?_⟩
 ·have e:its[i]?=some v:=by simpa using hP
  obtain⟨y,ey,ry⟩:=ka rv e;obtain⟨b,eb,tb⟩:=dm hp ey;simp only[eb,Option.getD_some] at hQ;exact CB tb ry hQ
 ·have n:its.toArray.size=bs.length:=by rw[List.size_toArray,<-rv.length,hp.length]
  have e:((List.range its.toArray.size).all λi=>(bs[i]?).getD true)=bs.all id:=by rw[n];exact LSm.range_all bs
  rw[e];exact⟨.bl (bs.all id),H,I.kept (t':=tk) (LSm.kept_iter hk),rfl,q⟩
end
section
variable {X:Cx}{pins:List (Addr×Obj)}{σ:St}{H:Hp}{s:GH}{h':Heap}
theorem Inv.ab1 (I:Inv X pins σ H s){a:Addr}(hp:s.heap.get? a=none):H a=none:=by
 cases q:H a with
 |none=>rfl
 |some u =>
  obtain⟨ob,e1⟩:=(I.hok a u q).there;rw[hp] at e1
  cases e1
theorem Inv.newObj {a:Addr}{o:HO}{t':Nat}(I:Inv X pins σ H s)(k:∀b u,s.heap.get? b=some u->h'.get? b=some u)(hp:s.heap.get? a=none)(new:ba X.prog X.w (upd H a o) h' a o):
 Inv X pins σ (upd H a o) {s with heap:=h',toks:=t'}:=by
 have hn:=I.ab1 hp
 have nb:∀b u,s.heap.get? b=some u->b≠a:=λb u e z=>by rw[z,hp] at e;cases e
 exact I.un ⟨λb u q _ _ _=>k b u q,λb u q _ _ _=>⟨u.slots,k b u q⟩,λb u q n _=>by rw[aq (nb b u q)];exact n,λb u q _=>⟨u,k b u q⟩,
  λb xs q=>by rw[aq (av q hn)];exact q,λb u xs q=>by rw[aq (av q hn)];exact q,λb ps q=>⟨#[],by rw[aq (av q hn),q];simp⟩⟩ (d8 (I.hok.kept k) hn new)
end
section
variable {X:Cx}{x:Str}{C:Addr}{B newId IF:String}{HA:oH}{p pos:Pos}{e:Expr}{es:Bl}{t:TA}{r:List V->Hp->VK->Prop}
theorem w8 (hc:cb X (.ref C) r)(kp:keepIn X.K (.ref C)=true)(hg:Gl X x)(hm:X.mg x=some (.ref C))(ha:PA X (e::es) t)(IQ:(x==("__debug__":Str))=false:=by decide)
 (he:starEach (e::es) X.env=(false,eval e X.env):: starEach es X.env:=by rfl)(Ib:(backTo pos (starEach es X.env)).any (·.1)=false:=by rfl):PE X (.Call (.Name x p) (e::es) [] pos) (EH r t):=by
 intro pins s σ H Q I h;refine wpAny_Call_Name_kw (dE I hg hm ?_ IQ);exact PySem.W.callWith_K (h₀:=X.base) I.ok.mod.kin kp (bA (ha pos pins s σ H _ I h) λus s1 ⟨vs,H1,I1,r1,q1⟩=>⟨I1.kIn,hc pins s1 σ H1 vs us Q I1 r1 q1⟩) he Ib
end
variable {o:Obj}
section
variable {P:wM}{w:World}{A:Around}{E:wA}{hp:Heap}{gs:Array GenState}{dr:Drawn}{tk:Nat}{os:OsState}
variable {nm qn:Str}{C N fI:Addr}{bs bm HA KZ:oH}{hdct ab:Bool}{sn:xQ}{sub:oH}{col:Option Bool}{dd:p5}{k0 k1 k2 k3 k5:vV}{B Bn newId nid IF K0:String}{mN:vJ}{us:oH}{oI:Obj}
noncomputable def dJ (hp:Heap)(C:Addr)(us:oH):Heap:=(hp.push {cls:=.type "tuple",data:=.seq us.toArray}).push {cls:=.ref C,data:=.fields #[.ref hp.objs.size,.none,.none,.none,.bool false,.none]}
theorem cA {b:Addr}(e:hp.get? b=some o):(dJ hp C us).get? b=some o:=Heap.get?_push_of_some _ (Heap.get?_push_of_some _ e)
theorem jA:(dJ hp C us).get? (hp.objs.size+1)=some {cls:=.ref C,data:=.fields #[.ref hp.objs.size,.none,.none,.none,.bool false,.none]}:=by
 unfold dJ
 heap_get
theorem me:Heap.MadeExcOf hp (dJ hp C us) (hp.objs.size+1) (.ref C) us :=
 ⟨λb o e=>cA e,Heap.get?_none_of_le (Nat.le_succ _),hp.objs.size,jA,Heap.get?_none_of_le (Nat.le_refl _),Heap.get?_push_of_some _ (Heap.get?_push_at rfl rfl)⟩
structure rO (B:String)(HA:oH):Prop where
 mro:mroOf (.type B)=pure HA
 look:∃y,typeLookup (.type B) "__init__"=pure y
 noA:HA.contains (.type "AttributeError")=false
 noN:HA.contains (.type "NameError")=false
theorem yK {R:Result->Shared->Prop}(Fn:ExcBaseFacts Bn newId K0 KZ)(K1:HA.contains (.type Bn)=true)(FB:rO B HA)(T:OwnTail hp HA bm)(hC:hp.get? C=some (excClassObj nm qn C N bs bm hdct sn sub ab col dd k0 k1 k2 k3 k5 newId))
 (hq:R (.ok (.ret (.ref (hp.objs.size+1)))) ⟨dJ hp C us,gs,dr,tk,os⟩)(KO:us.length<=sizeLine):codeAny (model P w) A (.builtin newId ⟨.ref C::us,[]⟩) R ⟨hp,gs,dr,tk,os⟩:=by
 have isB:(Value.ref C::bm).contains (.type Bn)=true:=by rw[List.contains_cons,T.hasType K1];simp
 have Uc:(Value.ref C::bm).contains (.type "AttributeError")=false:=by rw[List.contains_cons,T.hasType FB.noA];simp
 have Ud:(Value.ref C::bm).contains (.type "NameError")=false:=by rw[List.contains_cons,T.hasType FB.noN];simp
 have YD:=Fn.ends;refine codeAny_builtinAt Fn.entry ?_;unfold Builtin.«BaseException.__new__»;refine PySem.wpAt_bind ?_;show PySem.wpAt _ _ _ (stack>>=_) _ _ _;refine PySem.wpAt_bind (PySem.wpAt_stack λp below=>PySem.wpAt_of_wpAny ?_)
 wp_walk
 refine PySem.wpAt_of_wpAny ?_;rw[Fn.owner]
 repeat (first|(with_reducible refine wpAny_madeHere_exc Fn.canon hC ?_)|(with_reducible refine wpAny_loadPart_at hC ?_)|(with_reducible refine wpAny_isSubtype_exc hC ?_;first|rw[isB]|rw[Uc]|rw[Ud])|wp_step)
 show R _ _;rw[Heap.size_push];exact hq
theorem jZ (Fn:ExcBaseFacts Bn newId K0 KZ)(K1:HA.contains (.type Bn)=true)(FB:rO B HA)(T:OwnTail hp HA bm){Q:PySem.Fin->Shared->Prop}
 (hC:hp.get? C=some (excClassObj nm qn C N bs bm hdct sn sub ab col dd k0 k1 k2 k3 k5 newId))(hN:hp.Ns N mN)(hi:mN "__init__"=some (.ref fI))(eI:hp.get? fI=some oI)(cI:oI.cls=.type "function")(hl:us.length<=sizeLine)
 (hq:∀h' e,Heap.MadeExcOf hp h' e (.ref C) us->wpAny (model P w) A (call (.ref fI) (.ref e::us)) (λr s'=>r=.none/\Q (.done (.ret (.ref e))) s') E ⟨h',gs,dr,tk,os⟩):
 wpAny (model P w) A (Builtin.«type.__call__» ⟨.ref C::us,[]⟩) Q E ⟨hp,gs,dr,tk,os⟩:=by
 repeat (first|(with_reducible refine wpAny_loadPart_at hC ?_)|(with_reducible refine wpAny_madeBy_exc hC ?_)|wp_step)
 refine codeAny_call_builtin_code (Code.quiet_builtin _ Fn.quiet) (wpAny_check_new_subU Fn K1 T hC (yK Fn K1 FB T hC ?_ hl));show wpAny _ _ _ _ _ ⟨dJ hp C us,gs,dr,tk,os⟩;have gC:=cA (C:=C) (us:=us) hC;have gI:=cA (C:=C) (us:=us) eI;have gN:(dJ hp C us).Ns N mN:=hN.keeps λb o e=>cA e;have gT:OwnTail (dJ hp C us) HA bm:=T.keeps λb o e=>cA e;have gE:=jA (hp:=hp) (C:=C) (us:=us)
 have self:(Value.ref C::bm).contains (.ref C)=true:=by simp
 unfold isInstance
 repeat (first|(with_reducible refine wpAny_loadPart_at gE ?_)|(with_reducible refine wpAny_isSubtype_exc gC ?_;rw[self])|wp_step)
 show wpAny _ _ (typeLookup (.ref C) _) _ _ _;obtain⟨y,look⟩:=FB.look;refine wpAny_typeLookup_tail gC gN gT FB.mro look ?_;rw[hi];refine wpAny_holding (wpAny_bind ?_);unfold bindSpecial;refine wpAny_bind (wpAny_typeOf (T:="function") ⟨_,gI,cI⟩ ?_);rw[if_pos (by decide)];refine wpAny_pure (wpAny_bind (wpAny_mono (hq _ _ me) (λr s' z=>?_) λ_ _ x=>x));obtain⟨rfl,z⟩:=z
 wp_walk
 exact z
theorem lY (Fn:ExcBaseFacts Bn newId K0 KZ)(K1:HA.contains (.type Bn)=true)(FB:rO B HA)(T:OwnTail hp HA bm){Q:wA}
 (hC:hp.get? C=some (excClassObj nm qn C N bs bm hdct sn sub ab col dd k0 k1 k2 k3 k5 newId))(hN:hp.Ns N mN)(hi:mN "__init__"=some (.ref fI))(eI:hp.get? fI=some oI)(cI:oI.cls=.type "function")(hl:us.length<=sizeLine)
 (hq:∀h' e,Heap.MadeExcOf hp h' e (.ref C) us->wpAny (model P w) (A.under (.builtin "type.__call__" ⟨.ref C::us,[]⟩)) (call (.ref fI) (.ref e::us)) (λr s'=>r=.none/\Q (.ref e) s') E ⟨h',gs,dr,tk,os⟩):
 wpAny (model P w) A (call (.ref C) us) Q E ⟨hp,gs,dr,tk,os⟩:=by
 have t1:=tc_lookup;have t2:=tc_bind (.ref C);have hT:(⟨hp,gs,dr,tk,os⟩:GH).TypeIs (.ref C) "type":=⟨_,hC,rfl⟩;refine wpAny_call (codeAny_of_tree ?_);show wpAny _ _ (callAny (.ref C) _) _ _ _
 repeat (any_goals (first|assumption|(with_reducible refine wpAny_loadPart_at hC ?_)|wp_step))
 exact⟨rfl,codeAny_call_builtin_at (Code.quiet_builtin _ (by decide +kernel)) entry_typeCall (wpAny_check_type_call_sub hC (jZ Fn K1 FB T hC hN hi eI cI hl λh' e hm=>hq h' e hm))⟩
end
theorem rY:rO "ValueError" [.type "ValueError",.type "Exception",.type "BaseException",.type "object"] :=
 ⟨by rw[mroOf_type];kernel_rfl,⟨_,PySem.F.excBase_ValueError.init.lookup⟩,by decide +kernel,by decide +kernel⟩
noncomputable def qe (a:Addr)(cls:Value):HO:=.ext λh=>∃o vs,h.get? a=some o/\o.cls=cls/\o.data=.fields vs/\o.dict=none/\eB vs
noncomputable def cR (dx:Addr)(fs:List (Str×V)):HO:=.ext λh=>∃mA,h.Ns1 dx mA/\(∀f,eX (fs.lookup f) (mA f))/\Within mA (fs.map (·.1))
variable {vs:BU}
section
variable {P:wM}{w:World}{H:Hp}{h:Heap}{a dx:Addr}{cls:Value}{fs:List (Str×V)}{fr:Bool}
theorem z9 (e:h.get? a=some o)(hc:o.cls=cls)(hd:o.data=.fields vs)(hn:o.dict=none)(hu:eB vs):ba P w H h a (qe a cls):=
 ⟨⟨o,vs,e,hc,hd,hn,hu⟩,⟨o,e⟩,λh1 h2 ⟨o,vs,e,hc,hd,hn,hu⟩ k=>⟨o,vs,k o e,hc,hd,hn,hu⟩⟩
theorem zt (e:h.get? a=some o)(hc:o.cls=cls)(hd:o.data=.fields vs)(hn:o.dict=some dx)(hu:fr=true->eB vs):ba P w H h a (dO a cls dx fr):=
 ⟨⟨o,vs,e,hc,hd,hn,hu⟩,⟨o,e⟩,λh1 h2 ⟨o,vs,e,hc,hd,hn,hu⟩ k=>⟨o,vs,k o e,hc,hd,hn,hu⟩⟩
theorem zL (k:gk P w H h)(e:H a=some (qe a cls)):∃o vs,h.get? a=some o/\o.cls=cls/\o.data=.fields vs/\o.dict=none/\eB vs:=(k a _ e).1
theorem gS (k:gk P w H h)(e:H a=some (dO a cls dx fr)):∃o vs,h.get? a=some o/\o.cls=cls/\o.data=.fields vs/\o.dict=some dx/\(fr=true->eB vs):=(k a _ e).1
theorem um (k:gk P w H h)(e:H dx=some (cR dx fs)):∃mA,h.Ns1 dx mA/\(∀f,eX (fs.lookup f) (mA f))/\Within mA (fs.map (·.1)):=(k dx _ e).1
theorem sZ {mA:vJ}(n:h.Ns1 dx mA)(r:∀f,eX (fs.lookup f) (mA f))(wi:Within mA (fs.map (·.1))):ba P w H h dx (cR dx fs):=by
 refine⟨⟨mA,n,r,wi⟩,?_,λh1 h2 ⟨m,n,r,wi⟩ k=>⟨m,?_,r,wi⟩⟩
 ·obtain⟨o,es,ep,e,_⟩:=n;exact⟨o,e⟩
 ·obtain⟨o,es,ep,e,rest⟩:=n;exact⟨o,es,ep,k o e,rest⟩
end
noncomputable def pj (K:Frag)(C f:Addr)(HA:oH)(newId:String):Bool :=
 match K.lookup C with
 |some ⟨.type "type",_,.cls cd,sl⟩ =>
  match cd.mro,sl.toList with
  | .ref D::tl,[_,_,_,_,some (.builtin made),_]=>(D==C)&&((made==newId)&&((!cd.hasDel)&&(tailIn K HA tl&&(nsOkIn K cd.ns&&(nsIn K cd.ns "__init__"==some (some (.ref f)))))))
  |_,_=>false
 |_=>false
theorem BS {K:Frag}{h:Heap}{N:Addr}{m:vJ}{n:Str}{v:Value}(X:K.In h)(G:h.Ns N m)(e:nsIn K N n=some (some v)):m n=some v:=by
 obtain⟨o,es,ep,ho,hd,z,hf⟩:=G;unfold nsIn at e
 split at e
 ·rename_i q
  have w:=(X _ _ q).symm.trans ho
  cases w
  cases hd
  rw[<-hf]
  split at e
  ·rename_i en he
   have e2:en.val=v:=Option.some.inj (Option.some.inj e);simp only[nsFind,findBy,<-Array.find?_toList,he];exact congrArg some e2
  ·split at e <;> cases e
 ·cases e
theorem yM {K:Frag}{h:Heap}{C f:Addr}{HA:oH}{newId:String}(X:K.In h)(q:pj K C f HA newId=true):
 ∃bm N nm qn bs hd sn sub ab col dd k0 k1 k2 k3 k5 mN,h.get? C=some (excClassObj nm qn C N bs bm hd sn sub ab col dd k0 k1 k2 k3 k5 newId)/\h.Ns N mN/\mN "__init__"=some (.ref f)/\OwnTail h HA bm:=by
 unfold pj at q
 split at q
 ·rename_i dd cd sl ho
  split at q
  ·rename_i D tl k0 k1 k2 k3 made k5 hm hs
   rw[Bool.and_eq_true,Bool.and_eq_true,Bool.and_eq_true,Bool.and_eq_true,Bool.and_eq_true] at q;obtain⟨q1,q2,q3,q4,q5,q6⟩:=q;have q1:=eq_of_beq q1;have q2:=eq_of_beq q2;subst q1 q2;obtain⟨nm,bs,mro,ns,qn,hd,sn,sub,ab,col,del⟩:=cd
   have q7:del=false:=by simpa using q3
   dsimp only at hm;subst hm q7
   have hsl:sl = #[k0,k1,k2,k3,some (.builtin made),k5]:=by
    obtain⟨l⟩:=sl;simp only at hs;rw[hs]
   subst hsl;have G:h.Ns ns _:=.of_isNs (isNs_of_in X q5);exact⟨tl,ns,nm,qn,bs,hd,sn,sub,ab,col,dd,k0,k1,k2,k3,k5,_,X _ _ ho,G,BS X G (eq_of_beq q6),tail_of_in X q4⟩
  ·cases q
 ·cases q
section
variable {X:Cx}{CX:GC}{k:Nat}{f C:Addr}{fd:GF}{ps:xQ}{sp:Sp}{E:XK}{B Bn newId nid IF K0:String}{HA KZ:oH}{oI:Obj}
noncomputable def qu (C:Addr)(sp:Sp)(E:XK):List V->Hp->VK->Prop:=λvs H Q=>vs.length<=sizeLine/\∀a,H a=none->sp (.ref a::vs) (upd H a (qe a (.ref C))) (λv H2=>v=.non/\Q (.ref a) H2) E
theorem vL (Fn:ExcBaseFacts Bn newId K0 KZ)(K1:HA.contains (.type Bn)=true)(FB:rO B HA)(q:pj X.K C f HA newId=true)(lI:X.K.lookup f=some oI)(cI:oI.cls=.type "function")
 (F:Cy X.prog X.w X.K X.mg X.base CX k f fd ps sp)(hr:pL (k+1) X.A)(hb:aI X.K fd ps [])(hx:cD CX X E):cb X (.ref C) (qu C sp E):=by
 intro pins s σ H vs us Q I r ⟨hl,h⟩;obtain⟨bm,N,nm,qn,bs,hdct,sn,sub,ab,col,dd,k0,k1,k2,k3,k5,mN,hC,hN,hi,T⟩:=yM I.kIn q
 have HV:us.length<=sizeLine:=by rw[<-r.length];exact hl
 refine lY Fn K1 FB T hC hN hi (I.kIn _ _ lI) cI HV λh' a hm=>?_;obtain⟨t,h1,h2,h3⟩:=hm.there;have I2:=I.newObj (t':=s.toks) (o:=qe a (.ref C)) hm.keeps hm.new (z9 h1 rfl rfl rfl ⟨t,rfl⟩);have hq:=h a (I.ab1 hm.new);have r2:aK (V.ref a::vs) (Value.ref a::us):=.cons rfl r
 have Ia:(Value.ref a::us++[]).length=ps.length:=by
  have e:=r2.length;rw[F.len _ _ _ _ hq] at e;rw[List.append_nil];exact e.symm
 have YE:=hb _ (Value.ref a::us) I2.kIn Ia;rw[List.append_nil] at YE;refine wpAny_call (codeAny_mono (F.run _ X.stack _ _ ⟨Value.ref a::us,[]⟩ (Value.ref a::us) _ _ E (hr.make C us []) (I2.aby.make C us []) YE r2 hq) λres s' IS=>?_)
 cases res with
 |error e=>exact hx pins σ _ _ e s' I2 IS
 |ok fl =>
  cases fl with
  |ret u =>
   obtain⟨v,H',I3,rv,ev,q3⟩:=I2.after IS;subst ev;exact⟨rv,⟨V.ref a,H',I3,rfl,q3⟩⟩
  |next=>exact False.elim IS
  |brk=>exact False.elim IS
  |cont=>exact False.elim IS
end
noncomputable def iX:List Value->List Value
 | .ref _::r=>iX r
 |l=>l
noncomputable abbrev Av:List Value:=[.type "ValueError",.type "Exception",.type "BaseException",.type "object"]
noncomputable abbrev zH:List Value:=[.type "KeyError",.type "LookupError",.type "Exception",.type "BaseException",.type "object"]
theorem pO (self:Value)(l:oH):refuseLoop self "__setattr__" l=refuseLoop self "__setattr__" (iX l):=by
 induction l with
 |nil=>rfl
 |cons v r ih =>
  cases v with
  |ref c=>rw[refuseLoop_ref];exact ih
  |_=>rfl
theorem u9 (self:Value):refuseLoop self "__setattr__" Av=pure ():=by kernel_rfl
theorem vb (self:Value):refuseLoop self "__setattr__" zH=pure ():=by kernel_rfl
structure Gy (K:Frag)(C:Addr):Prop where
 ek:AI K C
 ok:((clsIn K C).any λcd=>cd.hasDict&&(iX cd.mro==Av || iX cd.mro==zH))=true
 sa:findIn K (.ref C) "__setattr__"=some (some (.builtin "object.__setattr__"))
variable {tk:Tok}
section
variable {P:wM}{w:World}{A:Around}{E:wA}{K:Frag}{C x dx:Addr}{s:GH}{ox:Obj}{od:Option Obj}{name:Str}{v:Value}{mA:vJ}
theorem Gy.cd (k:Gy K C):∃cd,clsIn K C=some cd/\cd.hasDict=true/\∀self,refuseLoop self "__setattr__" cd.mro=pure ():=by
 obtain⟨cd,hc,z⟩:=any_some k.ok;rw[Bool.and_eq_true] at z;refine⟨cd,hc,z.1,λself=>?_⟩;rw[pO]
 rcases Bool.or_eq_true _ _▸z.2 with q|q
 ·rw[eq_of_beq q];exact u9 self
 ·rw[eq_of_beq q];exact vb self
theorem tG {R:Result->Shared->Prop}(X:K.In s.heap)(k:Gy K C)(J:InstAt s.heap x ox C od)(hn:findIn K (.ref C) name=some none)
 (h:wpAny (model P w) A.in1 (Builtin.ObjectAttr.storeInOwnDict (.ref x) (.ref C) (.str name tk) name v false)
  (λfin s'=>match fin with| .done f=>R (.ok f) s'| .again c'=>c'.quiet=true/\codeAny (model P w) A c' R s') (λe s'=>R (.error e) s') s):
 codeAny (model P w) A (.call (.builtin "object.__setattr__") ⟨[.ref x,.str name tk,v],[]⟩) R s:=by
 have SF:=PySem.F.store_object;obtain⟨cd,hc,hh,hp⟩:=k.cd;have sub:Looks (model P w) s.heap (isInstance (.ref x) (.type "object")) true:=J.type.andThen (looks_mroIn X k.ek.ob);have hm:Looks (model P w) s.heap (mroOf (.ref C)) cd.mro:=(looks_clsIn X hc).andThen .now;refine codeAny_call_builtin SF.slot.plain SF.entry (@check_slot (model P w) _ _ s "object.__setattr__" "object" "__setattr__" (.ref x) [.str name tk,v] [] _ SF.kind SF.split sub (SF.args (.ref x) (.str name tk) v) ?_);rw[osa_eq,refuse_eq];refine wpAny_bind (wpAny_bind (J.type.here (wpAny_bind (hm.here ?_))));rw[hp];refine wpAny_pure (wpAny_bind (J.type.here (wpAny_bind ((looks_findIn X hn).here (wpAny_bind ?_)))));exact wpAny_pure h
theorem yA {Q:Unit->Shared->Prop}(X:K.In s.heap)(k:Gy K C)(hx:s.heap.get? x=some ox)(hc:ox.cls=.ref C)(hd:ox.data=.fields vs)(ho:ox.dict=none)(hn:findIn K (.ref C) name=some none)
 (h:∀h',h'.Ns1 s.heap.objs.size (λy=>if y=name then some v else none)->h'.get? x=some {ox with dict:=some s.heap.objs.size}->(∀b o,b≠x->s.heap.get? b=some o->h'.get? b=some o)->Q () {s with heap:=h',toks:=s.toks+2}):
 wpAny (model P w) A (setAttr (.ref x) name v) Q E s:=by
 have J:InstAt s.heap x ox C none:=⟨hx,hc,by unfold notCls;rw[hd],by rw[ho];trivial⟩;refine set_plain X J k.sa (tG (s:={s with toks:=s.toks+1}) X k J hn ?_);obtain⟨cd,HB,hh,_⟩:=k.cd;obtain⟨oc,YF,Oc,GZ⟩:=ox;dsimp only at hc hd ho;subst hc hd ho;refine wpAny_bind (wpAny_pure (wpAny_bind (wpAny_bind (wpAny_loadPart hx (wpAny_bind (PySem.W.Looks.here (s:={s with toks:=s.toks+1}) (PySem.W.looks_clsIn X HB) ?_))))));rw[hh];show wpAny _ _ (alloc _>>=λd=>update x _>>=λ_=>dictMade _ x d) _ _ _;have HH:x≠s.heap.objs.size:=Nat.ne_of_lt (Heap.lt_size hx);have e1:(s.heap.push {cls:=.type "dict",data:=.dict #[]}).get? x=some ⟨.ref C,none,.fields vs,GZ⟩:=Heap.get?_push_of_some _ hx;refine wpAny_bind (wpAny_alloc' (wpAny_bind (wpAny_update' e1 ?_)));show wpAny _ _ (pure (some s.heap.objs.size)) _ _ _;refine wpAny_pure ?_
 have e2:((s.heap.push {cls:=.type "dict",data:=.dict #[]}).update x λo=>{cls:=o.cls,dict:=some s.heap.objs.size,data:=o.data,slots:=o.slots}).get? s.heap.objs.size=some {cls:=.type "dict",data:=.dict #[]}:=
  (Heap.get?_update_ne _ _ _ _ HH.symm).trans (Heap.get?_push_at rfl rfl)
 have e3:((s.heap.push {cls:=.type "dict",data:=.dict #[]}).update x λo=>{cls:=o.cls,dict:=some s.heap.objs.size,data:=o.data,slots:=o.slots}).get? x=some ⟨.ref C,some s.heap.objs.size,.fields vs,GZ⟩ :=
  Heap.get?_update_self _ e1 rfl
 have e4:((s.heap.push {cls:=.type "dict",data:=.dict #[]}).update x λo=>{cls:=o.cls,dict:=some s.heap.objs.size,data:=o.data,slots:=o.slots}).Ns s.heap.objs.size (λ_=>none):=
  ⟨_,#[],_,e2,rfl,λe he=>absurd he (by simp),λ_=>rfl⟩
 show wpAny _ _ (Builtin.ObjectAttr.storeInDict s.heap.objs.size (.str name s.toks) name v) _ _ _;unfold Builtin.ObjectAttr.storeInDict Builtin.ObjectAttr.newKeyGuard;refine wpAny_bind (wpAny_pure (wpAny_bind (wpAny_nsSet1 (Heap.Ns1.of_empty e4) λh' n2 sb=>?_)));obtain⟨oD,Ye,Yg,NW,NX,Jq⟩:=n2.count (Within.cons name v Within.nil);refine wpAny_bind (wpAny_lookBehind NW (by rw[NX];exact pastItsLine_dict (Nat.le_trans Jq (by rw[List.length_cons,List.length_nil,sizeLine_eq];omega))) ?_);refine wpAny_pure (h h' n2 ((sb.2 x HH).trans e3) λb o hb e=>(sb.2 b (Nat.ne_of_lt (Heap.lt_size e))).trans ((Heap.get?_update_ne _ _ _ _ hb).trans (Heap.get?_push_of_some _ e)))
theorem wR {Q:Unit->Shared->Prop}{ns:xQ}(X:K.In s.heap)(k:Gy K C)(hx:s.heap.get? x=some ox)(hc:ox.cls=.ref C)(hd:ox.data=.fields vs)(ho:ox.dict=some dx)(nx:s.heap.Ns1 dx mA)(hn:findIn K (.ref C) name=some none)
 (hw:Within mA ns)(hsz:ns.length<=sizeLine)
 (h:∀h',h'.Ns1 dx (λy=>if y=name then some v else mA y)->Heap.SameBut dx s.heap h'->Q () {s with heap:=h',toks:=s.toks+2}):
 wpAny (model P w) A (setAttr (.ref x) name v) Q E s:=by
 obtain⟨o2,es,ep,e2,rest⟩:=id nx;have J:InstAt s.heap x ox C (some o2):=⟨hx,hc,by unfold notCls;rw[hd],by rw[ho];exact e2⟩;refine set_plain X J k.sa (tG (s:={s with toks:=s.toks+1}) X k J hn ?_);obtain⟨cd,HB,hh,_⟩:=k.cd;obtain⟨oc,YF,Oc,GZ⟩:=ox;dsimp only at hc hd ho;subst hc hd ho;refine wpAny_bind (wpAny_pure (wpAny_bind (wpAny_bind (wpAny_loadPart hx (wpAny_bind (PySem.W.Looks.here (s:={s with toks:=s.toks+1}) (PySem.W.looks_clsIn X HB) ?_))))));rw[hh];refine wpAny_pure (a:=some dx) (wpAny_bind (wpAny_pure (wpAny_bind ?_)));refine wpAny_nsSet1 (s:={s with toks:=s.toks+1}) nx λh' n2 sb=>?_;obtain⟨oD,Ye,Yg,NW,NX,Jq⟩:=n2.count (Within.cons name v hw);refine wpAny_bind (wpAny_lookBehind NW (by rw[NX];exact pastItsLine_dict (Nat.le_trans Jq (by rw[List.length_cons];omega))) ?_);exact wpAny_pure (h _ n2 sb)
theorem jC {Q:PySem.Fin->Shared->Prop}(X:K.In s.heap)(J:InstAt s.heap x ox C od)(hf:findObj K C od name=some (.value v))(hq:Q (.done (.ret v)) s):
 wpAny (model P w) A (Builtin.«object.__getattribute__» ⟨[.ref x,.str name tk],[]⟩) Q E s:=by
 obtain⟨hh,g,d,t,os⟩:=s;have L0:=J.type (M:=model P w);have L1:=looks_find (M:=model P w) X J hf;refine wpAny_bind (wpAny_pure (wpAny_bind (wpAny_pure (wpAny_bind (L0.at (wpAny_bind (L1.at ?_)))))));exact wpAny_pure hq
theorem qO {fill expr:Bool}{Q:wA}(X:K.In s.heap)(k:AI K C)(J:InstAt s.heap x ox C od)(hf:findObj K C od name=some (.value v))(hh:handedIn v=true)(hq:Q v s):
 wpAny (model P w) A (getAttrBy (.ref x) (.str name tk) fill expr) Q E s:=by
 obtain⟨hh',g,d,t,os⟩:=s;have L0:Looks (model P w) hh' (typeOf (.ref x)) (.ref C):=J.type;have L1:=looks_findIn (M:=model P w) X k.ga;have L2:=looks_findIn (M:=model P w) X k.gx;have f3:=F.attr_ValueError.ga.bind (.ref x)
 have hx0:(expr&&onTheHeap (Value.builtin "BaseException.__getattribute__"))=false:=by cases expr <;> rfl
 have Jl:(Value.builtin "BaseException.__getattribute__"==Value.builtin "object.__getattribute__")=false:=by decide +kernel
 have hx1:(onTheHeap (Value.ref C)&&Value.builtin "BaseException.__getattribute__"==Value.builtin "object.__getattribute__")=false:=by rw[Jl];rfl
 have hho:=handedOut_of hh
 repeat (any_goals (first|assumption|(with_reducible refine Looks.at (by assumption) ?_)|(with_reducible refine Looks.at L0 ?_)|wp_step))
 refine codeAny_call_builtin F.attr_ValueError.ga.plain F.entry_bexc_ga (nJ X k J.at_ J.cls (jC X J hf ?_))
 repeat (any_goals (first|assumption|(rw[hho])|wp_step))
theorem Aq {expr:Bool}{Q:wA}(X:K.In s.heap)(k:AI K C)(J:InstAt s.heap x ox C od)(hf:findObj K C od name=some (.value v))(hh:handedIn v=true)(hq:Q v {s with toks:=s.toks+1}):
 wpAny (model P w) A (getAttr (.ref x) name expr) Q E s:=by
 unfold getAttr;exact wpAny_bind (wpAny_mkText (qO (s:={s with toks:=s.toks+1}) X k J hf hh hq))
end
section
variable {X:Cx}{pins:List (Addr×Obj)}{σ:St}{H:Hp}{s:GH}{A:Around}{E:wA}{a dx C:Addr}{fs:List (Str×V)}{f:Str}{v:V}{fr:Bool}
theorem qx {b:Bool}{Q:wA}(I:Inv X pins σ H s)(e:H a=some (dO a (.ref C) dx fr))(ed:H dx=some (cR dx fs))(k:Gy X.K C)(n:bJ X.K C f)(l:fs.lookup f=some v)
 (h:∀u s',Inv X pins σ H s'->aG v u->Q u s'):wpAny (model X.prog X.w) A (getAttr (.ref a) f b) Q E s:=by
 obtain⟨o,vs,ho,hc,hd,hx,hu⟩:=gS I.hok e;obtain⟨mA,ns,r,_⟩:=um I.hok ed;obtain⟨u,hu,ru⟩:=eX.some_of (v:=v) (o:=mA f) (by rw[<-l];exact r f);obtain⟨od,Ue,hl⟩:=m7 ns;have J:InstAt s.heap a o C (some od):=⟨ho,hc,by unfold notCls;rw[hd],by rw[hx];exact Ue⟩;obtain⟨cd,HB,hh,_⟩:=k.cd;exact Aq I.kIn k.ek J (findObj_own (by unfold hasDictIn;rw[HB];exact hh) n rfl (by rw[hl,hu])) (nc ru) (h u _ (I.tok _) ru)
theorem oB {Q:Unit->Shared->Prop}(I:Inv X pins σ H s)(e:H a=some (qe a (.ref C)))(k:Gy X.K C)(n:bJ X.K C f)(ry:aG y u)
 (h:∀dx s',H dx=none->dx≠a->Inv X pins σ (upd (upd H dx (cR dx [(f,y)])) a (dO a (.ref C) dx true)) s'->Q () s'):wpAny (model X.prog X.w) A (setAttr (.ref a) f u) Q E s:=by
 obtain⟨o,vs,ho,hc,hd,hx,hu⟩:=zL I.hok e;refine yA I.kIn k ho hc hd hx n λh' n2 Jl hk=>?_;have HH:s.heap.objs.size≠a:=λz=>absurd (Heap.lt_size ho) (by rw[z];exact Nat.lt_irrefl _);have Nb:H s.heap.objs.size=none:=I.hok.fresh (Nat.le_refl _);refine h _ _ Nb HH ?_;obtain⟨oc,YF,Oc,GZ⟩:=o;dsimp only at hc hd hx;subst hc hd hx;have m1:(h'.update a λ_=>⟨.ref C,none,.fields vs,GZ⟩).get? a=some ⟨.ref C,none,.fields vs,GZ⟩:=Heap.get?_update_self _ Jl rfl;have m2:∀b,b≠a->(h'.update a λ_=>⟨.ref C,none,.fields vs,GZ⟩).get? b=h'.get? b:=λb hb=>Heap.get?_update_ne _ _ _ _ hb
 have nsm:(h'.update a λ_=>⟨.ref C,none,.fields vs,GZ⟩).Ns1 s.heap.objs.size (λy=>if y=f then some u else none):=by
  obtain⟨o2,es,ep,e2,rest⟩:=n2;exact⟨o2,es,ep,(m2 _ HH).trans e2,rest⟩
 have rel:∀g,eX ([(f,y)].lookup g) (if g=f then some u else none):=λg=>by
  by_cases q:g=f
  ·rw[if_pos q,q];simp only[List.lookup,beq_self_eq_true];exact ry
  ·rw[if_neg q]
   have:(g==f)=false:=by simpa using q
   simp only[List.lookup,this];exact True.intro
 have wi:Within (λg=>if g=f then some u else none) ([(f,y)].map (·.1)):=λg hg=>by
  by_cases q:g=f
  ·rw[q];simp
  ·exact absurd (if_neg q) hg
 have I1:=I.laid (a:=s.heap.objs.size) (o:=cR s.heap.objs.size [(f,y)]) (h':=h'.update a λ_=>⟨.ref C,none,.fields vs,GZ⟩) (t':=s.toks+2) (λb z q=>by
  by_cases hb:b=a
  ·subst hb;rw[ho] at q
   cases q
   exact m1
  ·exact(m2 b hb).trans (hk b z hb q)) (Nat.le_refl _) (sZ nsm rel wi)
 exact I1.write (x:=a) (e:=a) (by rw[aq (Ne.symm HH),e];exact True.intro) (.inl rfl) (λb z hb q=>(m2 b hb).symm.trans q) ⟨_,Jl⟩ (zt Jl rfl rfl rfl λ_=>hu)
theorem oq {Q:Unit->Shared->Prop}(I:Inv X pins σ H s)(e:H a=some (dO a (.ref C) dx fr))(ed:H dx=some (cR dx fs))(k:Gy X.K C)(n:bJ X.K C f)(hl:fs.length<1000)(ry:aG y u)
 (h:∀s',Inv X pins σ (upd H dx (cR dx (cE f y fs))) s'->Q () s'):wpAny (model X.prog X.w) A (setAttr (.ref a) f u) Q E s:=by
 obtain⟨o,vs,ho,hc,hd,hx,hu⟩:=gS I.hok e;obtain⟨mA,ns,r,wi⟩:=um I.hok ed
 have hz:(fs.map (·.1)).length<=sizeLine:=by rw[List.length_map,sizeLine_eq];omega
 refine wR I.kIn k ho hc hd hx ns n wi hz λh' n2 sb=>h _ ?_;have hd2:∃o,h'.get? dx=some o:=let⟨o,_,_,e',_⟩:=n2;⟨o,e'⟩;refine I.write (x:=dx) (e:=dx) (by rw[ed];exact True.intro) (.inl rfl) (λb q hb z=>(sb.2 b hb).trans z) hd2 (sZ n2 (λg=>?_) λg hg=>?_)
 ·rw[gD]
  by_cases q:g=f
  ·rw[if_pos q,if_pos q];exact ry
  ·rw[if_neg q,if_neg q];exact r g
 ·by_cases q:g=f
  ·rw[q];exact(fh f y fs).1
  ·refine(fh f y fs).2 g (wi g λz=>hg ?_);rw[if_neg q];exact z
end
noncomputable def xw (K:Frag)(ta:TE)(f:Str):TE:=λσ H Q=>ta σ H λx H1=>∃a C dx fr fs v,x=.ref a/\H1 a=some (dO a (.ref C) dx fr)/\H1 dx=some (cR dx fs)/\Gy K C/\bJ K C f/\fs.lookup f=some v/\Q v H1
noncomputable def CO (K:Frag)(ta tv:TE)(f:Str):TS:=λD σ H=>tv σ H λy H1=>ta σ H1 λx H2=>∃a C,x=.ref a/\H2 a=some (qe a (.ref C))/\Gy K C/\bJ K C f/\∀dx,H2 dx=none->dx≠a->D.nx σ (upd (upd H2 dx (cR dx [(f,y)])) a (dO a (.ref C) dx true))
noncomputable def Bk (K:Frag)(ta tv:TE)(f:Str):TS:=λD σ H=>tv σ H λy H1=>ta σ H1 λx H2=>∃a C dx fr fs,x=.ref a/\H2 a=some (dO a (.ref C) dx fr)/\H2 dx=some (cR dx fs)/\Gy K C/\bJ K C f/\fs.length<1000/\D.nx σ (upd H2 dx (cR dx (cE f y fs)))
section
variable {X:Cx}{o e value:Expr}{f:Str}{pos pos':Pos}{ta tv:TE}
theorem tV (he:PE X e ta)(hb:attributeBase e f X.env (eval e X.env)=eval e X.env):PE X (.Attribute e f pos) (xw X.K ta f):=by
 intro pins s σ H Q I h;refine uM hb (bA (he pins s σ H _ I h) λu s1 z'=>?_);obtain⟨x,H1,I1,rx,a,C,dx,fr,fs,v,ex,ea,ed,k,n,l,q⟩:=z';subst ex
 cases(show u=Value.ref a from rx)
 exact qx I1 ea ed k n l λu' s2 I2 ru=>⟨v,H1,I2,ru,q⟩
theorem yz (ha:PE X o ta)(hv:PE X value tv)(hs:swapsWith value (some (.Attribute o f pos')) pos.line X.env=pure false):PS X (.Assign [.Attribute o f pos'] value pos) (CO X.K ta tv f):=by
 intro pins s σ H D I h;refine plainObj_wpAny_Assign_Attribute (bA (hv pins s σ H _ I h) λu s1 ⟨y,H1,I1,ry,q⟩=>bA (ha pins s1 σ H1 _ I1 q) λov s2 z'=>?_) hs;obtain⟨x,H2,I2,rx,a,C,ex,ea,k,n,q2⟩:=z';subst ex
 cases(show ov=Value.ref a from rx)
 exact oB I2 ea k n ry λdx s3 hn ne I3=>⟨σ,_,I3,q2 dx hn ne⟩
theorem wX (ha:PE X o ta)(hv:PE X value tv)(hs:swapsWith value (some (.Attribute o f pos')) pos.line X.env=pure false):PS X (.Assign [.Attribute o f pos'] value pos) (Bk X.K ta tv f):=by
 intro pins s σ H D I h;refine plainObj_wpAny_Assign_Attribute (bA (hv pins s σ H _ I h) λu s1 ⟨y,H1,I1,ry,q⟩=>bA (ha pins s1 σ H1 _ I1 q) λov s2 z'=>?_) hs;obtain⟨x,H2,I2,rx,a,C,dx,fr,fs,ex,ea,ed,k,n,hl,q2⟩:=z';subst ex
 cases(show ov=Value.ref a from rx)
 exact oq I2 ea ed k n hl ry λs3 I3=>⟨σ,_,I3,q2⟩
theorem nX:cb X (.builtin "isinstance") (λxs H Q=>∃a C dx fr c cv b,xs=[.ref a,c]/\BZ c cv/\H a=some (dO a (.ref C) dx fr)/\AI X.K C/\kitOne X.K (.ref C) cv=some b/\Q (.bl b) H):=by
 intro pins s σ H xs us Q I r h;obtain⟨a,C,dx,fr,c,cv,b,rfl,hc,ea,k,e,q⟩:=h
 cases r with
 |cons r1 r2 =>
  cases r2 with
  |cons r2 r3 =>
   cases r3
   rename_i u uc
   have T6:uc=cv:=by
    cases c with
    |ty n=>cases(show uc=Value.type n from r2);exact hc.symm
    |ref a=>cases(show uc=Value.ref a from r2);exact hc.symm
    |_=>exact hc.elim
   subst T6
   cases(show u=Value.ref a from r1)
   obtain⟨o,vs,h1,h2,_⟩:=gS I.hok ea;exact kia_one (lA k) I.kIn ⟨o,h1,h2⟩ e (λz=>nomatch z) λtk=>⟨.bl b,H,I.tok tk,rfl,q⟩
end
noncomputable def fF (K:Frag)(C:Addr):Prop:=∃oC,K.lookup C=some oC/\oC.cls=.type "type"
section
variable {M:Model}{A:Around}{E:wA}{K:Frag}{s:GH}{env:Env}
theorem vU {x:Sem Value}{Q:Flow->Shared->Prop}(hh:A.handled=none)
 (h:wpAny M A x (λv s₁=>∃e oe C vs,v=.ref e/\K.In s₁.heap/\AI K C/\fF K C/\s₁.heap.get? e=some oe/\oe.cls=.ref C/\oe.data=.fields vs/\eB vs/\E (.ref e) s₁) E s):
 wpAny M A (raiseStmt env (some x) none) Q E s:=by
 unfold raiseStmt;refine wpAny_bind (wpAny_mono h (λv s₁ h₁=>?_) λ_ _ x=>x);obtain⟨e,oe,C,vs,rfl,X,k,⟨oC,lC,cC⟩,he,hc,hd,⟨t,rfl⟩,hE⟩:=h₁;obtain⟨hp,g,d,tk,os⟩:=s₁;obtain⟨oc,od,Oc,GZ⟩:=oe;dsimp only at hc hd;subst hc hd;have L0:Looks M hp (typeOf (.ref e)) (.ref C):=(Looks.ld he).andThen .now;have L1:=looks_mroIn (M:=M) X k.be;have hC:hp.get? C=some oC:=X _ _ lC
 repeat (first|(with_reducible refine wpAny_loadPart_at he ?_)|(with_reducible refine wpAny_loadPart_at hC ?_;rw[cC])|(with_reducible refine Looks.at L0 ?_)|(with_reducible refine Looks.at L1 ?_)|wp_step)
 exact wpAny_raiseNew_none hh hE
end
section
variable {X:Cx}{pins pins':List (Addr×Obj)}{σ:St}{H:Hp}{s:GH}{XE:wA}{a dx C:Addr}
noncomputable def Ag (K:Frag)(R:St->Addr->Addr->Addr->Hp->Prop)(te:TE):TS:=λ_ σ H=>te σ H λv H1=>∃a C dx,v=.ref a/\H1 a=some (dO a (.ref C) dx true)/\AI K C/\fF K C/\R σ a C dx H1
theorem eZ {R:St->Addr->Addr->Addr->Hp->Prop}{e:Expr}{te:TE}{pos:Pos}(hc:X.calm=true)(hR:∀pins σ H s a C dx,Inv X pins σ H s->H a=some (dO a (.ref C) dx true)->R σ a C dx H->X.xe (.ref a) s)(he:PE X e te):
 PS X (.Raise (some e) none pos) (Ag X.K R te):=by
 intro pins s σ H D I h;rw[arm_exec_Raise];refine wpAny_bind (wpAny_standAt (vU (K:=X.K) (I.ok.hd hc) (wpAny_bind (bA (he pins s σ H _ I h) λu s1 ⟨v,H1,I1,rv,a,C,dx,ev,ea,k,tc,r⟩=>wpAny_bind (wpAny_standAt (wpAny_pure ?_))))));subst ev
 cases(show u=Value.ref a from rv)
 obtain⟨oe,vs,h1,h2,h3,_,h5⟩:=gS I1.hok ea;exact⟨a,oe,C,vs,rfl,I1.kIn,k,tc,h1,h2,h3,h5 rfl,hR pins σ H1 s1 a C dx I1 ea r⟩
end
end L2
namespace Nf
open PySem PySem.W PyProof.Rows
section
variable {prog:wM}{w:World}{A:Around}{E:wA}{s:GH}{d it:Addr}{es:Array DictEntry}{ep:Nat}{o:Obj}
structure Raw (h:Heap)(d:Addr)(es:Array DictEntry)(ep:Nat):Prop where
 ex:∃o,h.get? d=some o/\o.ExactDict/\o.data=.dict es ep
theorem Raw.ty (r:Raw s.heap d es ep):s.TypeIs (.ref d) "dict":=let⟨o,h,x,_⟩:=r.ex;⟨o,h,x.1⟩
theorem Raw.keep {h h':Heap}(r:Raw h d es ep)(k:∀o,h.get? d=some o->h'.get? d=some o):Raw h' d es ep:=let⟨o,h1,x⟩:=r.ex;⟨o,k o h1,x⟩
theorem rK {Q:wA}(r:Raw s.heap d es ep)(hd:(d==sysModules)=false)(h:Q (.ref s.heap.objs.size) {s with heap:=s.heap.push {cls:=.type "dict_items",data:=.fields #[.ref d]} }):
 wpAny (model prog w) A (call (.builtin "dict.items") [.ref d]) Q E s:=by
 refine wpAny_call_entry F.slot_dict_items r.ty F.entry_dict_items ?_ (F.args_dict_items_1 _);unfold Builtin.«dict.items» Builtin.Dict.noArgs;refine wpAny_bind (wpAny_bind (wpAny_notOrdered_dict r.ty (wpAny_pure ?_)));show wpAny _ _ (Builtin.Dict.showsAll d>>=_) _ _ s;unfold Builtin.Dict.showsAll;rw[if_neg (by rw[hd];exact Bool.false_ne_true)];exact wpAny_bind (wpAny_pure (wpAny_bind (wpAny_newObj_type (wpAny_pure ⟨_,rfl,h⟩))))
theorem qZ {v:Addr}{Q:wA}(hv:s.heap.IsItemsView v d)(r:Raw s.heap d es ep)
 (hQ:Q (.ref s.heap.objs.size) {s with heap:=s.heap.push {cls:=.type "dict_itemiterator",data:=.fields #[.none,.bool false,.ref d,.int 0 0,.int es.size 0,.int ep 0,.none,.none]} }):wpAny (model prog w) A (pyIter (.ref v)) Q E s:=by
 obtain⟨ov,g1,g2,g3⟩:=id hv;obtain⟨o,h1,h2,h3⟩:=r.ex;refine wpAny_pyIter_slot hv.typeIs F.slot_dict_items_iter (wpAny_call_entry F.slot_dict_items_iter hv.typeIs F.entry_dict_items_iter ?_ (F.args_dict_items_iter_1 _));unfold Builtin.«dict_items.__iter__» Builtin.Dict_items.dictOf;refine wpAny_bind (wpAny_pure (wpAny_bind (wpAny_bind (wpAny_field g1 g3 (x:=.ref d) rfl (wpAny_pure (wpAny_bind ?_))))));unfold Builtin.Dict_items.newIterator;refine wpAny_bind (wpAny_dictEntries h1 h3 (wpAny_bind (wpAny_dictEpoch h1 h3 ?_)));simp only[show Builtin.Dict_items.ownsTuple "dict_itemiterator"=true from by decide,if_true];refine wpAny_newObj_type (wpAny_pure ⟨_,rfl,"dict_itemiterator",_,⟨_,Heap.get?_push_size _ rfl,rfl⟩,F.slot_dict_itemiterator_next.lookup,?_⟩) (by simp only[sizeOk,Builtin.Dict_items.ownedTupleFields,List.size_toArray,List.length_append,List.length_cons,List.length_nil,sizeLine_eq];omega);simpa[rawInt,Builtin.Dict_items.ownedTupleFields] using hQ
theorem sd {i:Nat}{ok ov:Value}{Q:Option Value->Shared->Prop}(hit:IsItemIter s.heap it d i es.size ep ok ov)(r:Raw s.heap d es ep)(hi:i<es.size)
 (hQ:∀h',IsItemIterOut h' it d (i+1) es.size ep es[i].key es[i].val s.heap.objs.size->h'.get? s.heap.objs.size=some {cls:=.type "tuple",data:=.seq #[es[i].key,es[i].val]}->h'.objs.size=s.heap.objs.size+1 →
  (∀b o,b≠it->s.heap.get? b=some o->h'.get? b=some o)->Q (some (.ref s.heap.objs.size)) {s with heap:=h'}):wpAny (model prog w) A (pyNext (.ref it)) Q E s:=by
 obtain⟨hp,g,dr,tk,os⟩:=s;obtain⟨o,h1,h2,h3⟩:=r.ex;have hT:Shared.TypeIs ⟨hp,g,dr,tk,os⟩ (.ref it) "dict_itemiterator":=⟨_,hit,rfl⟩;unfold pyNext;refine wpAny_bind (wpAny_attempt (wpAny_callSpecial?_slot (name:=Str.ofString "__next__") hT F.slot_dict_itemiterator_next (wpAny_call_entry F.slot_dict_itemiterator_next hT F.entry_dict_itemiterator_next ?_ (F.args_dict_itemiterator_next_1 _))));refine wpAny_bind (wpAny_pure (wpAny_bind (wpAny_bind ?_)))
 first|refine wpAny_bind (wpAny_typeNameOfWhole_itemiter hT (wpAny_pure (wpAny_bind (wpAny_fieldsOf hit rfl ?_))))|refine wpAny_bind (wpAny_typeNameOf_itemiter hT (wpAny_pure (wpAny_bind (wpAny_fieldsOf hit rfl ?_))))
 simp only[show Builtin.Dict_items.ownsTuple "dict_itemiterator"=true from by decide,if_true];show wpAny _ _ (if(Value.ref d==Value.none)=true then _ else _) _ _ _;rw[if_neg (show ¬((Value.ref d==Value.none)=true) from Bool.false_ne_true)];refine wpAny_bind (wpAny_pure (wpAny_bind (wpAny_dictEntries h1 h3 ?_)));rw[if_neg (by simp)];refine wpAny_bind (wpAny_pure (wpAny_bind (wpAny_dictEpoch h1 h3 ?_)));rw[if_neg (by simp)];refine wpAny_pure ?_;simp only[show ¬((i:Int)<0) from by omega,if_false,Int.toNat_natCast,Array.getElem?_eq_getElem hi];refine wpAny_bind ?_
 first|refine wpAny_bind (wpAny_typeNameOfWhole_itemiter hT (wpAny_pure (wpAny_bind (wpAny_isOneOf_itemiter hT ?_))))|refine wpAny_bind (wpAny_typeNameOf_itemiter hT (wpAny_pure (wpAny_bind (wpAny_isOneOf_itemiter hT ?_))))
 show wpAny _ _ (setField (.ref it) 3 (rawInt ((i:Int)+1))>>=_) _ _ ⟨hp,g,dr,tk,os⟩;refine wpAny_bind (wpAny_setField_rec hit (by simp) λk1 e1 (b1:Heap.SameBut it hp k1)=>?_)
 have q1:IsItemIter k1 it d (i+1) es.size ep ok ov:=by
  unfold IsItemIter;rw[show((i+1:Nat):Int)=(i:Int)+1 by omega];simpa[rawInt] using e1
 have t1:Shared.TypeIs ⟨k1,g,dr,tk,os⟩ (.ref it) "dict_itemiterator":=⟨_,q1,rfl⟩;refine wpAny_bind (wpAny_holding (wpAny_bind (wpAny_isOneOf_itemiter t1 (wpAny_bind (wpAny_isOneOf_itemiter t1 ?_)))));show wpAny _ _ (Builtin.Dict_items.pairFromOwner (.ref it) 6 es[i].key es[i].val) _ _ ⟨k1,g,dr,tk,os⟩;unfold Builtin.Dict_items.pairFromOwner;refine wpAny_bind (wpAny_newTuple ?_);have q2:IsItemIter (k1.push {cls:=.type "tuple",data:=.seq #[es[i].key,es[i].val]}) it d (i+1) es.size ep ok ov:=Heap.get?_push_of_some _ q1;have z1:k1.objs.size=hp.objs.size:=b1.1;have ne:hp.objs.size≠it:=Nat.ne_of_gt (Heap.lt_size hit)
 have w2:(k1.push {cls:=.type "tuple",data:=.seq #[es[i].key,es[i].val]}).get? hp.objs.size=some {cls:=.type "tuple",data:=.seq #[es[i].key,es[i].val]}:=by rw[<-z1];exact Heap.get?_push_size _ rfl
 have z2:(k1.push {cls:=.type "tuple",data:=.seq #[es[i].key,es[i].val]}).objs.size=hp.objs.size+1:=by rw[Heap.size_push,z1]
 have p2:∀b o,b≠it->hp.get? b=some o->(k1.push {cls:=.type "tuple",data:=.seq #[es[i].key,es[i].val]}).get? b=some o:=λb o hb e=>Heap.get?_push_of_some _ (b1.extBut b o hb e);show wpAny _ _ (Builtin.Dict_items.ownedTupleIsFree (.ref it)>>=_) _ _ ⟨k1.push {cls:=.type "tuple",data:=.seq #[es[i].key,es[i].val]},g,dr,tk,os⟩;rw[z1];generalize k1.push {cls:=.type "tuple",data:=.seq #[es[i].key,es[i].val]}=k2 at q2 w2 z2 p2 |-;unfold Builtin.Dict_items.ownedTupleIsFree;refine wpAny_bind (wpAny_bind (wpAny_field q2 rfl (x:=.none) rfl (wpAny_pure ?_)));simp only[if_true];refine wpAny_bind (wpAny_field q2 rfl (x:=ok) rfl (wpAny_bind (wpAny_field q2 rfl (x:=ov) rfl (wpAny_bind (wpAny_setField_rec q2 (by simp) λk3 e3 (b3:Heap.SameBut it k2 k3)=>?_)))));have q3:IsItemIter k3 it d (i+1) es.size ep es[i].key ov:=e3;refine wpAny_bind (wpAny_setField_rec q3 (by simp) λk4 e4 (b4:Heap.SameBut it k3 k4)=>?_);have q4:IsItemIter k4 it d (i+1) es.size ep es[i].key es[i].val:=e4;refine wpAny_bind (wpAny_setField_rec q4 (by simp) λk5 e5 (b5:Heap.SameBut it k4 k5)=>?_);have q5:IsItemIterOut k5 it d (i+1) es.size ep es[i].key es[i].val hp.objs.size:=e5;refine wpAny_bind (wpAny_setField_rec q5 (by simp) λk6 e6 (b6:Heap.SameBut it k5 k6)=>?_);have q6:IsItemIterOut k6 it d (i+1) es.size ep es[i].key es[i].val hp.objs.size:=e6;have go:∀b o,b≠it->k2.get? b=some o->k6.get? b=some o:=λb o hb e=>b6.extBut b o hb (b5.extBut b o hb (b4.extBut b o hb (b3.extBut b o hb e)));exact wpAny_bind (wpAny_letGo (wpAny_pure (wpAny_pure ⟨_,rfl,wpAny_pure (hQ k6 q6 (go _ _ ne w2) (by show k6.objs.size=hp.objs.size+1;rw[b6.1,b5.1,b4.1,b3.1,z2]) λb o hb e=>go b o hb (p2 b o hb e))⟩)))
theorem vp {i:Nat}{ok ov:Value}{Q:Option Value->Shared->Prop}(hh:A.handled=none)(hit:IsItemIter s.heap it d i es.size ep ok ov)(r:Raw s.heap d es ep)(hi:es.size<=i)
 (hQ:∀h',Heap.ExtBut it s.heap h'->Q none {s with heap:=h'}):wpAny (model prog w) A (pyNext (.ref it)) Q E s:=by
 obtain⟨o,h1,h2,h3⟩:=r.ex;have hT:s.TypeIs (.ref it) "dict_itemiterator":=⟨_,hit,rfl⟩;unfold pyNext;refine wpAny_bind (wpAny_attempt (wpAny_callSpecial?_slot (name:=Str.ofString "__next__") hT F.slot_dict_itemiterator_next (wpAny_call_entry F.slot_dict_itemiterator_next hT F.entry_dict_itemiterator_next ?_ (F.args_dict_itemiterator_next_1 _))));refine wpAny_bind (wpAny_pure (wpAny_bind (wpAny_bind ?_)))
 first|refine wpAny_bind (wpAny_typeNameOfWhole_itemiter hT (wpAny_pure (wpAny_bind (wpAny_fieldsOf hit rfl ?_))))|refine wpAny_bind (wpAny_typeNameOf_itemiter hT (wpAny_pure (wpAny_bind (wpAny_fieldsOf hit rfl ?_))))
 simp only[show Builtin.Dict_items.ownsTuple "dict_itemiterator"=true from by decide,if_true];show wpAny _ _ (if(Value.ref d==Value.none)=true then _ else _) _ _ _;rw[if_neg (show ¬((Value.ref d==Value.none)=true) from Bool.false_ne_true)];refine wpAny_bind (wpAny_pure (wpAny_bind (wpAny_dictEntries h1 h3 ?_)));rw[if_neg (by simp)];refine wpAny_bind (wpAny_pure (wpAny_bind (wpAny_dictEpoch h1 h3 ?_)));rw[if_neg (by simp)];refine wpAny_pure ?_;simp only[show ¬((i:Int)<0) from by omega,if_false,Int.toNat_natCast,Array.getElem?_eq_none hi];refine wpAny_bind ?_
 first|refine wpAny_bind (wpAny_typeNameOfWhole_itemiter hT (wpAny_pure ?_))|refine wpAny_bind (wpAny_typeNameOf_itemiter hT (wpAny_pure ?_))
 show wpAny _ _ (setField (.ref it) 2 .none>>=_) _ _ s;refine wpAny_bind (wpAny_setField hit rfl (by simp) ?_);show wpAny _ _ (newExc (.type "StopIteration") []>>=_) _ _ _;refine wpAny_bind ?_;simp only[newExc,newTuple];refine wpAny_bind (wpAny_newObj_type (wpAny_bind (m:=firstArgMember _ _) (wpAny_of_eq (a:=Value.none) (by first|rfl|(simp only[firstArgMember];rfl)) (wpAny_newObj_type ?_ (by size_fits)))) (by size_fits));simp only[raiseNew];refine wpAny_bind (wpAny_handled ?_);rw[show A.in1.handled=none from hh];refine wpAny_bind (wpAny_pure (wpAny_throw ?_));refine wpAny_bind (wpAny_isInstance (T:="StopIteration") (b:=true) ⟨_,Heap.get?_push_size _ rfl,rfl⟩ isSubtype_stop ?_);exact wpAny_pure (hQ _ (((Heap.SameBut.update ..).extBut.push _).push _))
end
end Nf
namespace L2
open PySem PySem.Spec PyProof.Rows PySem.W
noncomputable abbrev vG (o:Obj)(GK:List (List Key×V)):HO:=.frz o (.dT GK)
noncomputable def Fl (d:Addr)(o:Obj)(GK:List (List Key×V)):It :=
 ⟨λi H=>i<GK.length/\H d=some (vG o GK),λi H x H'=>∃p b k v,GK[i]?=some (k,v)/\H p=none/\H b=some (.tup (k.map kV))/\x=.ref p/\H'=upd H p (.tup [.ref b,v]),λi H=>GK.length<=i/\H d=some (vG o GK)⟩
theorem lL {α β:Type}{R:α->β->Prop}:∀{l:List α}{m:List β}{i:Nat}{a:α},Paired R l m->l[i]?=some a->∃b,m[i]?=some b/\R a b
 |_,_,_,_,.nil,e=>by simp at e
 |_,_,0,_,.cons r _,e=>by simp at e;subst e;exact⟨_,rfl,r⟩
 |_,_,i+1,a,.cons _ t,e=>by
  obtain⟨b,h1,h2⟩:=lL (i:=i) (a:=a) t (by simpa using e);exact⟨b,by simpa using h1,h2⟩
section
variable {X:Cx}{pins:List (Addr×Obj)}{σ:St}{H:Hp}{s:GH}{d:Addr}{o:Obj}{GK:List (List Key×V)}
theorem rj (I:Inv X pins σ H s)(e:H d=some (vG o GK)):∃es ep,o.data=.dict es ep/\Nf.Raw s.heap d es ep/\es.size=GK.length/\(d==sysModules)=false /\
 ∀(i:Nat)(hi:i<es.size) k v,GK[i]?=some (k,v)->∃b,es[i].key=.ref b/\H b=some (.tup (k.map kV))/\aG v es[i].val:=by
 obtain⟨h0,z,y,xs,r,o',es,ep,h1,h2,h3,h4,h5⟩:=(show ba X.prog X.w H s.heap d (vG o GK) from I.hok d _ e);rw[h0] at h1
 cases h1
 have hl:es.size=GK.length:=by
  rw[<-Array.length_toList,h4,List.length_map];exact(Paired.length r).symm
 refine⟨es,ep,h3,⟨_,h0,h2,h3⟩,hl,y,λi hi k v hk=>?_⟩;obtain⟨q,hq,e1,e2,e3⟩:=lL r hk
 have z1:es.toList[i]?=some (entryOfKey (tupleKind (ck X.prog X.w)) q):=by rw[h4,List.getElem?_map,hq];rfl
 have z2:es[i]=entryOfKey (tupleKind (ck X.prog X.w)) q:=by
  have z3:es.toList[i]?=some es[i]:=by simp[hi]
  rw[z3] at z1;exact Option.some.inj z1
 rw[z2];exact⟨q.2.1,rfl,e2,e3⟩
theorem Inv.freeze (I:Inv X pins σ H s)(e:H d=some (.dT GK)):∃o,s.heap.get? d=some o/\Inv X pins σ (upd H d (vG o GK)) s:=by
 obtain⟨z,y,xs,r,o,es,ep,h1,h2⟩:=(show ba X.prog X.w H s.heap d (.dT GK) from I.hok d _ e);refine⟨o,h1,I.write (t':=s.toks) (h':=s.heap) (x:=d) (e:=d) (o:=vG o GK) (by rw[e];exact True.intro) (.inl rfl) (λ_ _ _ q=>q) ⟨o,h1⟩ ⟨h1,z,y,xs,?_,o,es,ep,h1,h2⟩⟩;exact Paired.ab4 r λp q w=>⟨w.1,by rw[aq (jw w.2.1 e (by intro z;cases z))];exact w.2.1,w.2.2⟩
end
variable {elts:Bl}{x1:Nat}{tp:Pos}
theorem rD {P:wM}{w:World}{K:Frag}(d it:Addr)(o:Obj)(GK:List (List Key×V))(es:Array DictEntry)(ep:Nat)(ho:o.data=.dict es ep):Turn P w K (.Tuple elts x1 tp) (Fl d o GK) [it] it (λi h=>∃ok ov,IsItemIter h it d i es.size ep ok ov) where
 mem:=by simp
 obj:=λi h st b hb=>by
  have e:b=it:=by simpa using hb
  subst e;obtain⟨ok,ov,e⟩:=st;exact⟨_,e,λv z=>by cases z⟩
 keep:=λi h h' st k=>let⟨ok,ov,e⟩:=st;⟨ok,ov,k it (by simp) _ e⟩
 item:=by
  intro X hP hw hK hc i pins s σ H E I hf st hg;subst hP hw hK;obtain⟨GV,hd⟩:=hg;obtain⟨ok,ov,hit⟩:=st;obtain⟨NR,NT,Iv,raw,hl,hm,YG⟩:=rj I hd;rw[ho] at Iv
  cases Iv
  obtain⟨f0,f1,f2,f3,f4,f5⟩:=hf it (by simp)
  have hi:i<es.size:=by omega
  refine Nf.sd hit raw hi λh' q1 q2 q3 q4=>?_;obtain⟨⟨k,v⟩,hk⟩:∃kv,GK[i]?=some kv:=⟨GK[i],by simp[GV]⟩;obtain⟨b,eb,hb,rv⟩:=YG i hi k v hk;refine⟨_,rfl,wpAny_letOwnedTupleGo_items (s:={s with heap:=h'}) q1 λh2 q5 q6=>?_⟩;have KN:s.heap.objs.size≠it:=Nat.ne_of_gt (Heap.lt_size hit);have I1:Inv X pins σ H {s with heap:=h2}:=I.turned (t':=s.toks) (λb o hb e=>(q6.2 b hb).trans (q4 b o hb e)) f0 f1 f3 f4 f5;have tup:h2.get? s.heap.objs.size=some {cls:=.type "tuple",data:=.seq #[es[i].key,es[i].val]}:=(q6.2 _ KN).trans q2;have fr:H s.heap.objs.size=none:=I.hok.fresh (Nat.le_refl _)
  have I2:Inv X pins σ (upd H s.heap.objs.size (.tup [.ref b,v])) {s with heap:=h2}:=by
   refine⟨I1.ok,I1.os,I1.bare,?_,I1.loc,I1.cell,?_,λx c e=>?_,λp hp=>?_,d8 I1.hok fr ⟨by show 2<=sizeLine;decide,[.ref b,es[i].val],.cons rfl (.cons rv .nil),?_⟩,I1.len⟩
   ·have u:=I1.base;refine⟨u.keep,u.slot,λb' o' e n hx=>?_,u.there,λb' xs e=>?_,λb' o' u' e=>?_,λb' ps e=>?_⟩
    ·have ne:b'≠s.heap.objs.size:=Nat.ne_of_lt (Nat.lt_of_lt_of_le (Heap.lt_size e) I.sz);rw[aq ne];exact u.free b' o' e n hx
    ·rw[aq (av (u.aan b' xs e) fr)];exact u.aan b' xs e
    ·rw[aq (av (u.aam b' o' u' e) fr)];exact u.aam b' o' u' e
    ·obtain⟨m,q⟩:=u.aas b' ps e;exact⟨m,by rw[aq (av q fr)];exact q⟩
   ·rw[aq (Nat.ne_of_lt I.lt)];exact I1.free
   ·obtain⟨v',q⟩:=I.cell x c e;rw[aq (Nat.ne_of_lt q.lt)];exact I1.aal x c e
   ·obtain⟨e,n,r⟩:=I1.pin p hp;have lt:p.1<s.heap.objs.size:=Heap.lt_size (I.pin p hp).1;exact⟨e,by rw[aq (Nat.ne_of_lt lt)];exact n,r⟩
   ·exact⟨_,tup,rfl,0,by rw[<-eb]⟩
  refine⟨.ref s.heap.objs.size,_,I2,rfl,⟨s.heap.objs.size,b,k,v,hk,fr,hb,rfl,rfl⟩,⟨_,_,q5⟩,λb' HY=>?_⟩
  have e:b'=it:=by simpa using HY
  subst e;rw[aq (Ne.symm KN)];exact f0
 done:=by
  intro X hP hw hK hc i pins s σ H E I hf st hg;subst hP hw hK;obtain⟨GV,hd⟩:=hg;obtain⟨ok,ov,hit⟩:=st;obtain⟨NR,NT,Iv,raw,hl,hm,YG⟩:=rj I hd;rw[ho] at Iv
  cases Iv
  obtain⟨f0,f1,f2,f3,f4,f5⟩:=hf it (by simp);exact Nf.vp (I.ok.hd hc) hit raw (by omega) λh' eb=>⟨rfl,I.turned (t':=s.toks) (λb o hb e=>eb b o hb e) f0 f1 f3 f4 f5⟩
 self:=λA i s Q E st h=>by
  obtain⟨ok,ov,hit⟩:=st;exact kcp_self hit h
noncomputable def Gc (H1:Hp)(d:Addr)(GK:List (List Key×V))(R:Obj->Hp->Prop):Prop:=(∃o,H1 d=some (vG o GK)/\R o H1)\/(H1 d=some (.dT GK)/\∀o,R o (upd H1 d (vG o GK)))
noncomputable def Cd (td:TE):TI:=λσ H R=>td σ H λx H1=>∃d GK,x=.ref d/\Gc H1 d GK λo H2=>R (Fl d o GK) H2
section
variable {X:Cx}{pins:List (Addr×Obj)}{σ:St}{H:Hp}{s:GH}
theorem B9 {d:Addr}{GK:List (List Key×V)}{R:Obj->Hp->Prop}(I:Inv X pins σ H s)(h:Gc H d GK R):∃o H2,Inv X pins σ H2 s/\H2 d=some (vG o GK)/\R o H2:=by
 rcases h with⟨o,e,r⟩|⟨e,r⟩
 ·exact⟨o,H,I,e,r⟩
 ·obtain⟨o,_,I2⟩:=I.freeze e;exact⟨o,_,I2,ae,r o⟩
theorem yN {oe:Expr}{td:TE}{apos HP:Pos}(ho:PE X oe td)(JJ:attributeBase oe "items" X.env (eval oe X.env)=eval oe X.env:=by rfl)(JK:(apos.endLine==HP.line)=true:=by rfl):
 PI X (.Tuple elts x1 tp) (.Call (.Attribute oe "items" apos) [] [] HP) (Cd td):=by
 intro pins s σ H R I h;refine wpAny_Call_method0_late JJ JK (bA (ho pins s σ H _ I h) λv s1 z'=>?_);obtain⟨x,H1,I1,r1,d,GK,ex,fz⟩:=z';subst ex
 cases(show v=Value.ref d from r1)
 obtain⟨o,H2,I2,hd,rr⟩:=B9 I1 fz;obtain⟨es,ep,Ue,raw,hl,hm,_⟩:=rj I2 hd;refine⟨"dict","dict.items",PySem.F.plainAttrs_dict,PySem.F.slot_dict_items,PySem.F.type_dict_items,raw.ty,λa e=>?_,Calls.callWith_builtin rfl (PySem.evalArgs_none (Nf.rK raw hm ?_))⟩
 ·cases e
  obtain⟨o',h1,h2,_⟩:=raw.ex;exact⟨o',h1,h2.2.1⟩
 ·have I3:Inv X pins σ H2 {s1 with heap:=s1.heap.push {cls:=.type "dict_items",data:=.fields #[.ref d]} }:=I2.kept (t':=s1.toks) λb ob q=>Heap.get?_push_of_some _ q;refine Nf.qZ (s:={s1 with heap:=s1.heap.push {cls:=.type "dict_items",data:=.fields #[.ref d]} }) ⟨_,Heap.get?_push_size _ rfl,rfl,rfl⟩ (raw.keep λo e=>Heap.get?_push_of_some _ e) ?_;generalize s1.heap.push {cls:=.type "dict_items",data:=.fields #[.ref d]}=h2 at I3 |-;refine⟨h2.objs.size,[h2.objs.size],_,Fl d o GK,H2,rfl,I3.kept (t':=s1.toks) λb ob q=>Heap.get?_push_of_some _ q,rD d _ o GK es ep Ue,⟨_,_,Heap.get?_push_size _ rfl⟩,λb hb=>?_,rr⟩
  have e:b=h2.objs.size:=by simpa using hb
  subst e;exact I3.abC (Nat.le_refl _) (I3.hok.fresh (Nat.le_refl _))
theorem Inv.acu {s2:GH}{T:Addr}{xs:List V}{its:oH}(I:Inv X pins σ H s)(I1:Inv X pins σ H s2)(hT:s.heap.objs.size<=T)(e:s2.heap.get? T=some {cls:=.type "tuple",data:=.seq its.toArray})(r:aK xs its)(hz:xs.length<=sizeLine):
 Inv X pins σ (upd H T (.tup xs)) s2:=by
 have fr:H T=none:=I.hok.fresh hT;refine⟨I1.ok,I1.os,I1.bare,?_,I1.loc,I1.cell,?_,λx c e=>?_,λp hp=>?_,d8 I1.hok fr ⟨hz,its,r,⟨_,e,rfl,0,rfl⟩⟩,I1.len⟩
 ·have u:=I1.base;refine⟨u.keep,u.slot,λb' o' e n hx=>?_,u.there,λb' xs e=>?_,λb' o' u' e=>?_,λb' ps e=>?_⟩
  ·have ne:b'≠T:=Nat.ne_of_lt (Nat.lt_of_lt_of_le (Heap.lt_size e) (Nat.le_trans I.sz hT));rw[aq ne];exact u.free b' o' e n hx
  ·rw[aq (av (u.aan b' xs e) fr)];exact u.aan b' xs e
  ·rw[aq (av (u.aam b' o' u' e) fr)];exact u.aam b' o' u' e
  ·obtain⟨m,q⟩:=u.aas b' ps e;exact⟨m,by rw[aq (av q fr)];exact q⟩
 ·rw[aq (Nat.ne_of_lt (Nat.lt_of_lt_of_le I.lt hT))];exact I1.free
 ·obtain⟨v',q⟩:=I.cell x c e;rw[aq (Nat.ne_of_lt (Nat.lt_of_lt_of_le q.lt hT))];exact I1.aal x c e
 ·obtain⟨e,n,r⟩:=I1.pin p hp;have lt:p.1<s.heap.objs.size:=Heap.lt_size (I.pin p hp).1;exact⟨e,by rw[aq (Nat.ne_of_lt (Nat.lt_of_lt_of_le lt hT))];exact n,r⟩
theorem Inv.abE {h':Heap}{t':Nat}{ch:List Addr}(I:Inv X pins σ H s)(k:∀b o,b∉ch->s.heap.get? b=some o->h'.get? b=some o)(hf:∀b∈ch,di X pins H b):Inv X pins σ H {s with heap:=h',toks:=t'}:=by
 have KN:∀b u,H b=some u->b∉ch:=λb u e z=>by rw[(hf b z).1] at e;cases e
 refine I.step (g':=s.gens) (d':=s.drawn) (ch:=ch) (λb hb=>?_) (λb o _ _ hc e _=>k b o hc e) (λb o _ _ hc e _=>⟨o.slots,k b o hc e⟩) (λ_ _ _ _ n=>n)
  (λb o hc e=>⟨o,k b o hc e⟩) (λ_ _ e=>e) (λ_ _ _ e=>e) (λb ps e=>⟨#[],by rw[e];simp⟩) (λm hm=>?_) (λb u e=>?_) I.bare
 ·obtain⟨f0,f1,f2,f3,f4,f5⟩:=hf b hb;exact⟨f3,f1,f4,f5⟩
 ·obtain⟨o,es,ep,ho,r⟩:=hm;exact⟨o,es,ep,k _ o (λz=>(hf _ z).2.1 rfl) ho,r⟩
 ·refine(I.hok b u e).abw (λc v hc q=>k c v ?_ q) (λ_ q=>q) λ_ _ q=>q
  rcases hc with z|z
  ·rw[z];exact KN b u e
  ·exact KN c _ z
end
noncomputable def E2 (K:Frag)(a:Addr):It :=
 ⟨λi H=>∃xs x,aM K H a xs/\xs[i]?=some x,λi H x H'=>∃T y,(∀xs,aM K H a xs->xs[i]?=some y)/\H T=none/\x=.ref T/\H'=upd H T (.tup [.int i,y]),λi H=>∃xs,aM K H a xs/\xs.length<=i⟩
theorem uS {P:wM}{w:World}{K:Frag}(a e it:Addr)(HH:e≠it):Turn P w K (.Tuple elts x1 tp) (E2 K a) [e,it] e (λi h=>∃old,IsEnum h e it i old/\h.IsListIter it a i) where
 mem:=by simp
 obj:=λi h st b hb=>by
  obtain⟨old,h1,o,h2,_,h3⟩:=st
  rcases(by simpa using hb:b=e\/b=it) with z|z
  ·subst z;exact⟨_,h1,λv z=>by cases z⟩
  ·subst z;exact⟨o,h2,λv z=>by rw[h3] at z;cases z⟩
 keep:=λi h h' st k=>let⟨old,h1,h2⟩:=st;⟨old,k e (by simp) _ h1,h2.at λo q=>k it (by simp) o q⟩
 item:=by
  intro X hP hw hK hc i pins s σ H E I hf st hg;subst hP hw hK;obtain⟨xs,x,hq,hx⟩:=hg;obtain⟨its,rv,p,hz⟩:=I.list hq;obtain⟨u,hu,ru⟩:=rv.get hx;obtain⟨old,he,hit⟩:=st;refine wpAny_pyNext_enum_item he hit p.isList (x:=u) (by simpa using hu) HH λh' q1 q2 q3 q4 q5=>?_;refine⟨_,rfl,wpAny_letOwnedTupleGo_enum (s:={s with heap:=h',toks:=s.toks+1}) q1 λh2 q6 q7=>?_⟩;have YH:s.heap.objs.size≠e:=Nat.ne_of_gt (Heap.lt_size he)
  have I1:Inv X pins σ H {s with heap:=h2,toks:=s.toks+1}:=I.abE (t':=s.toks+1) (ch:=[e,it]) (λb o hb z=>by
   have HY:b≠e/\b≠it:=by simpa using hb
   exact(q7.2 b HY.1).trans (q5 b o HY.1 HY.2 z)) hf
  have tup:h2.get? s.heap.objs.size=some {cls:=.type "tuple",data:=.seq #[.int i s.toks,u]}:=(q7.2 _ YH).trans q3;have fr:H s.heap.objs.size=none:=I.hok.fresh (Nat.le_refl _);have I2:=I.acu (xs:=[.int i,x]) (its:=[.int i s.toks,u]) I1 (Nat.le_refl _) tup (.cons ⟨_,rfl⟩ (.cons ru .nil)) d9;refine⟨.ref s.heap.objs.size,_,I2,rfl,⟨s.heap.objs.size,x,λys hy=>by rw[I.aaS hy hq];exact hx,fr,rfl,rfl⟩,⟨u,q6,q2.at λo q=>(q7.2 _ (Ne.symm HH)).trans q⟩,λb hb=>?_⟩
  have nb:b≠s.heap.objs.size:=by
   rcases(by simpa using hb:b=e\/b=it) with z|z
   ·subst z;exact Ne.symm YH
   ·subst z;obtain⟨o,q,_⟩:=hit;exact Nat.ne_of_lt (Heap.lt_size q)
  rw[aq nb];exact(hf b hb).1
 done:=by
  intro X hP hw hK hc i pins s σ H E I hf st hg;subst hP hw hK;obtain⟨xs,hq,hx⟩:=hg;obtain⟨its,rv,p,hz⟩:=I.list hq;have hl:=rv.length;obtain⟨old,he,hit⟩:=st;obtain⟨f0,f1,f2,f3,f4,f5⟩:=hf it (by simp);exact wpAny_pyNext_enum_end (I.ok.hd hc) he hit p.isList (by simp;omega) λh' eb=>⟨rfl,I.turned (t':=s.toks) (λb o hb e=>eb b o hb e) f0 f1 f3 f4 f5⟩
 self:=λ_ _ _ _ _ st h=>let⟨old,h1,_⟩:=st;wpAny_pyIter_enum h1 h
noncomputable def D5 (K:Frag)(tl:TE):TI:=λσ H R=>cO tl D1 σ H λvs H1=>∃a xs,vs=[.ref a]/\aM K H1 a xs/\R (E2 K a) H1
theorem sQ {X:Cx}{l:Expr}{tl:TE}{p pos:Pos}(hl:PE X l tl)(hg:Gl X "enumerate")(hm:X.mg "enumerate"=none)(hs:gJ l=false:=by rfl):
 PI X (.Tuple elts x1 tp) (.Call (.Name "enumerate" p) [l] [] pos) (D5 X.K tl):=by
 intro pins s σ H R I h;refine wpAny_Call_Name_kw (gM I hg hm (by rfl) ?_ (by decide) (by decide));refine PyProof.Rows.callWith_type1 (bA (ah hl af hs pos pins s σ H _ I h) λus s1 z'=>?_) (b8 hs) rfl;obtain⟨vs,H1,I1,r1,a,xs,hv,hq,rr⟩:=z';subst hv;obtain⟨u,rfl,ru⟩:=dS r1
 cases(show u=Value.ref a from ru)
 obtain⟨its,rv,pl,hz⟩:=I1.list hq;refine call_enumerate_list pl.isList λh' q1 q2 q3 q4=>?_;have I2:Inv X pins σ H1 {s1 with heap:=h'}:=I1.kept (t':=s1.toks) q4;refine wpAny_pyIter_enum (s:={s1 with heap:=h'}) q1 ?_;refine⟨s1.heap.objs.size+1,[s1.heap.objs.size+1,s1.heap.objs.size],_,E2 X.K a,H1,rfl,I2,uS a _ _ (Nat.succ_ne_self _),⟨_,q1,q2⟩,λb hb=>?_,rr⟩
 have HY:s1.heap.objs.size<=b:=by
  rcases(by simpa using hb:b=s1.heap.objs.size+1\/b=s1.heap.objs.size) with z|z
  ·rw[z];exact Nat.le_succ _
  ·rw[z];exact Nat.le_refl _
 exact I1.abC HY (I1.hok.fresh HY)
end L2
namespace Zp
open PySem PyProof.Rows
section
variable {prog:wM}{w:World}{A:Around}{E:wA}{s:GH}
theorem kY {it t:Addr}{i:Nat}{items:BU}{x:Value}{Q:wA}(hit:s.heap.IsTupleIter it t i)(ht:s.heap.IsTuple t items)(hx:items[i]?=some x)
 (hQ:∀h',h'.IsTupleIter it t (i+1)->Heap.SameBut it s.heap h'->Q x {s with heap:=h'}):wpAny (model prog w) A (Builtin.SmallTypes.nextOf (.ref it)) Q E s:=by
 obtain⟨o,ho,hc,hd⟩:=id hit;obtain⟨ol,Ug,_,nl,Uh⟩:=ht;unfold Builtin.SmallTypes.nextOf;refine wpAny_bind (wpAny_callSpecial?_slot (name:=Str.ofString "__next__") hit.typeIs F.slot_tuple_iterator_next (wpAny_call_entry F.slot_tuple_iterator_next hit.typeIs F.entry_tuple_iterator_next ?_ (F.args_tuple_iterator_next_1 _)));show wpAny _ _ (field (.ref it) 0>>=_) _ _ s;refine wpAny_bind (wpAny_field ho hd (x:=.ref t) rfl ?_);show wpAny _ _ (if(Value.ref t==Value.none)=true then _ else _) _ _ s;rw[if_neg (show ¬((Value.ref t==Value.none)=true) from Bool.false_ne_true)];show wpAny _ _ (field (.ref it) 1>>=_) _ _ s;refine wpAny_bind (wpAny_field ho hd (x:=.int i 0) rfl ?_);show wpAny _ _ (seqItems? (.ref t)>>=_) _ _ s;refine wpAny_bind (wpAny_seqItems Ug Uh ?_);simp only[Int.toNat_natCast,hx];refine wpAny_bind (wpAny_setField ho hd (by simp) (wpAny_pure ⟨x,rfl,wpAny_pure (hQ _ ?_ (Heap.SameBut.update ..))⟩));exact⟨_,Heap.get?_update_self _ ho (Obj.isFreed_of_fields (Obj.data_mapFields hd _)),(Obj.cls_mapFields ..).trans hc,by rw[Obj.data_mapFields hd];simp[rawInt]⟩
theorem uq {it t:Addr}{i:Nat}{items:BU}{Q:wA}(hh:A.handled=none)(hit:s.heap.IsTupleIter it t i)(ht:s.heap.IsTuple t items)(hx:items[i]?=none)
 (hE:∀h' e,Heap.ExtBut it s.heap h'->(∃o,h'.get? e=some o/\o.cls=.type "StopIteration")->E (.ref e) {s with heap:=h'}):wpAny (model prog w) A (Builtin.SmallTypes.nextOf (.ref it)) Q E s:=by
 obtain⟨o,ho,hc,hd⟩:=id hit;obtain⟨ol,Ug,_,nl,Uh⟩:=ht;unfold Builtin.SmallTypes.nextOf;refine wpAny_bind (wpAny_callSpecial?_slot (name:=Str.ofString "__next__") hit.typeIs F.slot_tuple_iterator_next (wpAny_call_entry F.slot_tuple_iterator_next hit.typeIs F.entry_tuple_iterator_next ?_ (F.args_tuple_iterator_next_1 _)));show wpAny _ _ (field (.ref it) 0>>=_) _ _ s;refine wpAny_bind (wpAny_field ho hd (x:=.ref t) rfl ?_);show wpAny _ _ (if(Value.ref t==Value.none)=true then _ else _) _ _ s;rw[if_neg (show ¬((Value.ref t==Value.none)=true) from Bool.false_ne_true)];show wpAny _ _ (field (.ref it) 1>>=_) _ _ s;refine wpAny_bind (wpAny_field ho hd (x:=.int i 0) rfl ?_);show wpAny _ _ (seqItems? (.ref t)>>=_) _ _ s;refine wpAny_bind (wpAny_seqItems Ug Uh ?_);simp only[Int.toNat_natCast,hx];refine wpAny_bind (wpAny_rule (wpAny_bind (wpAny_setField ho hd (by simp) ?_)));show wpAny _ _ (newExc (.type "StopIteration") []>>=_) _ _ _;refine wpAny_bind ?_;simp only[newExc,newTuple];refine wpAny_bind (wpAny_newObj_type ?_ (by size_fits));refine wpAny_bind (m:=firstArgMember _ _) (wpAny_of_eq (a:=Value.none) (by first|rfl|(simp only[firstArgMember];rfl)) ?_);refine wpAny_newObj_type ?_ (by size_fits);simp only[raiseNew];refine wpAny_bind (wpAny_handled ?_)
 first|rw[show A.in1.handled=none from hh]|rw[hh]
 refine wpAny_bind (wpAny_pure (wpAny_throw ?_));exact hE _ _ (((Heap.SameBut.update ..).extBut.push _).push _) ⟨_,Heap.get?_push_size _ rfl,rfl⟩
end
structure Apart (z TI TO i1 i2 l1 l2:Addr):Prop where
 TIz:TI≠z
 TOz:TO≠z
 i1z:i1≠z
 i2z:i2≠z
 TITO:TI≠TO
 TIi1:TI≠i1
 TIi2:TI≠i2
 TOi1:TO≠i1
 TOi2:TO≠i2
 i12:i1≠i2
 l1n:l1 ∉ [z,TO,i1,i2]
 l2n:l2 ∉ [z,TO,i1,i2]
structure Zs (h:Heap)(z TI TO i1 i2 l1 l2:Addr)(k:Nat):Prop where
 hz:IsZip h z TI TO .none
 hTI:IsPair h TI (.ref i1) (.ref i2)
 RV:∃a b,IsPair h TO a b
 h1:h.IsTupleIter i1 l1 k
 h2:h.IsTupleIter i2 l2 k
theorem gP {h h':Heap}{i l:Addr}{k:Nat}(x:h.IsTupleIter i l k)(q:∀o,h.get? i=some o->h'.get? i=some o):h'.IsTupleIter i l k:=let⟨o,a,b⟩:=x;⟨o,q o a,b⟩
section
variable {prog:wM}{w:World}{A:Around}{E:wA}{s:GH}{z TI TO i1 i2 l1 l2:Addr}{k:Nat}{xs ys:BU}{x y:Value}
theorem item {Q:wA}(D:Apart z TI TO i1 i2 l1 l2)(Z:Zs s.heap z TI TO i1 i2 l1 l2 k)(Io:s.heap.IsTuple l1 xs)(Ia:s.heap.IsTuple l2 ys)(hx:xs[k]?=some x)(hy:ys[k]?=some y)
 (hQ:∀h',IsZip h' z TI TO (rawInt s.heap.objs.size)->(∃a b,IsPair h' TO a b)->h'.IsTupleIter i1 l1 (k+1)->h'.IsTupleIter i2 l2 (k+1)->IsPair h' s.heap.objs.size x y →
  (∀c o,c ∉ [z,TO,i1,i2]->s.heap.get? c=some o->h'.get? c=some o)->Q (.ref s.heap.objs.size) {s with heap:=h'}):
 wpAny (model prog w) A (Builtin.«zip.__next__» ⟨[.ref z],[]⟩) (λfin s'=>∃v,fin=.done (.ret v)/\Q v s') E s:=by
 obtain⟨hz,hTI,⟨a,b,RV⟩,h1,h2⟩:=Z
 have n1:l1≠z/\l1≠TO/\l1≠i1/\l1≠i2:=by simpa using D.l1n
 have n2:l2≠z/\l2≠TO/\l2≠i1/\l2≠i2:=by simpa using D.l2n
 show wpAny _ _ (field (.ref z) 2>>=_) _ _ _;refine wpAny_bind (wpAny_field hz rfl (x:=.bool false) rfl ?_);show wpAny _ _ (field (.ref z) 3>>=_) _ _ _;refine wpAny_bind (wpAny_field hz rfl (x:=.ref TI) rfl ?_);refine wpAny_bind (wpAny_seqItems hTI rfl ?_);show wpAny _ _ (Builtin.SmallTypes.ownedTupleIsFree (.ref z)>>=_) _ _ _;refine wpAny_bind ?_;unfold Builtin.SmallTypes.ownedTupleIsFree;refine wpAny_bind (wpAny_field hz rfl (x:=.none) rfl (wpAny_pure ?_));simp only[if_true];refine wpAny_bind (wpAny_rule ?_);refine wpAny_bind (wpAny_field hz rfl (x:=.ref TO) rfl ?_);refine wpAny_bind (wpAny_setField_rec hz (by simp) λg1 K2 s1=>?_)
 replace K2:IsZip g1 z TI TO .ellipsis:=K2
 refine wpAny_bind ?_;simp only[List.zipIdx_cons,List.zipIdx_nil,List.forIn_cons,List.forIn_nil];refine wpAny_bind (wpAny_bind (wpAny_onRaise ?_));show wpAny _ _ (Builtin.SmallTypes.nextOf (.ref i1)>>=_) _ _ _;refine wpAny_bind (kY (h1.extBut s1.extBut D.i1z) (Io.extBut s1.extBut n1.1) hx λg2 a2 s2=>wpAny_pure ?_);have t2:IsPair g2 TO a b:=s2.extBut _ _ D.TOi1 (s1.extBut _ _ D.TOz RV);refine wpAny_bind (wpAny_seqItems t2 rfl ?_);refine wpAny_bind (wpAny_updateSeq_pair t2 λg3 t3 s3=>?_)
 replace t3:IsPair g3 TO x b:=t3
 refine wpAny_bind (wpAny_letGo (wpAny_pure ?_));refine wpAny_bind (wpAny_bind (wpAny_onRaise ?_));show wpAny _ _ (Builtin.SmallTypes.nextOf (.ref i2)>>=_) _ _ _;refine wpAny_bind (kY (((h2.extBut s1.extBut D.i2z).extBut s2.extBut D.i12.symm).extBut s3.extBut D.TOi2.symm) (((Ia.extBut s1.extBut n2.1).extBut s2.extBut n2.2.2.1).extBut s3.extBut n2.2.1) hy λg4 a4 s4=>wpAny_pure ?_);have t4:IsPair g4 TO x b:=s4.extBut _ _ D.TOi2 t3;refine wpAny_bind (wpAny_seqItems t4 rfl ?_);refine wpAny_bind (wpAny_updateSeq_pair t4 λg5 t5 s5=>?_)
 replace t5:IsPair g5 TO x y:=t5
 refine wpAny_bind (wpAny_letGo (wpAny_pure (wpAny_pure ?_)));refine wpAny_bind (wpAny_seqItems t5 rfl ?_);refine wpAny_bind (wpAny_newTuple ?_)
 have sz:g5.objs.size=s.heap.objs.size:=by rw[s5.1,s4.1,s3.1,s2.1,s1.1]
 have z5:IsZip g5 z TI TO .ellipsis:=s5.extBut _ _ D.TOz.symm (s4.extBut _ _ D.i2z.symm (s3.extBut _ _ D.TOz.symm (s2.extBut _ _ D.i1z.symm K2)))
 have k5:∀c o,c ∉ [z,TO,i1,i2]->s.heap.get? c=some o->g5.get? c=some o:=λc o hc e=>by
  have HD:c≠z/\c≠TO/\c≠i1/\c≠i2:=by simpa using hc
  exact s5.extBut _ _ HD.2.1 (s4.extBut _ _ HD.2.2.2 (s3.extBut _ _ HD.2.1 (s2.extBut _ _ HD.2.2.1 (s1.extBut _ _ HD.1 e))))
 have a5:g5.IsTupleIter i1 l1 (k+1):=((a2.extBut s3.extBut D.TOi1.symm).extBut s4.extBut D.i12).extBut s5.extBut D.TOi1.symm;have b5:g5.IsTupleIter i2 l2 (k+1):=a4.extBut s5.extBut D.TOi2.symm;have YI:z<g5.objs.size:=Heap.lt_size z5;show wpAny _ _ (Builtin.SmallTypes.ownedTupleHandOut (.ref z) (.ref g5.objs.size)>>=_) _ _ _;refine wpAny_bind ?_;unfold Builtin.SmallTypes.ownedTupleHandOut;have z6:IsZip (g5.push {cls:=.type "tuple",data:=.seq #[x,y]}) z TI TO .ellipsis:=Heap.get?_push_of_some _ z5;refine wpAny_bind (wpAny_setField_rec z6 (by simp) λg7 z7 s7=>?_)
 replace z7:IsZip g7 z TI TO (rawInt g5.objs.size):=z7
 refine wpAny_setField_rec z7 (by simp) λg8 z8 s8=>?_
 replace z8:IsZip g8 z TI TO (rawInt g5.objs.size):=z8
 have up:∀c o,c≠z->g5.get? c=some o->g8.get? c=some o:=λc o c1 e=>s8.extBut _ _ c1 (s7.extBut _ _ c1 (Heap.get?_push_of_some _ e));have t8:IsPair g8 g5.objs.size x y:=s8.extBut _ _ (Nat.ne_of_gt YI) (s7.extBut _ _ (Nat.ne_of_gt YI) (Heap.get?_push_size _ rfl));rw[sz] at z8 t8;refine wpAny_pure ⟨_,rfl,?_⟩;show Q (.ref g5.objs.size) _;rw[sz];exact hQ g8 z8 ⟨x,y,up _ _ D.TOz t5⟩ (gP a5 λo e=>up _ o D.i1z e) (gP b5 λo e=>up _ o D.i2z e) t8 λc o hc e=>up c o (λq=>hc (by simp[q])) (k5 c o hc e)
theorem Fj {Q:Fin->Shared->Prop}(hh:A.handled=none)(D:Apart z TI TO i1 i2 l1 l2)(Z:Zs s.heap z TI TO i1 i2 l1 l2 k)(Io:s.heap.IsTuple l1 xs)(Ia:s.heap.IsTuple l2 ys)(LN:xs[k]?=none\/ys[k]?=none)
 (hE:∀h' e,(∀c o,c ∉ [z,TO,i1,i2]->s.heap.get? c=some o->h'.get? c=some o)->(∃o,h'.get? e=some o/\o.cls=.type "StopIteration")->E (.ref e) {s with heap:=h'}):
 wpAny (model prog w) A (Builtin.«zip.__next__» ⟨[.ref z],[]⟩) Q E s:=by
 obtain⟨hz,hTI,⟨a,b,RV⟩,h1,h2⟩:=Z
 have n1:l1≠z/\l1≠TO/\l1≠i1/\l1≠i2:=by simpa using D.l1n
 have n2:l2≠z/\l2≠TO/\l2≠i1/\l2≠i2:=by simpa using D.l2n
 show wpAny _ _ (field (.ref z) 2>>=_) _ _ _;refine wpAny_bind (wpAny_field hz rfl (x:=.bool false) rfl ?_);show wpAny _ _ (field (.ref z) 3>>=_) _ _ _;refine wpAny_bind (wpAny_field hz rfl (x:=.ref TI) rfl ?_);refine wpAny_bind (wpAny_seqItems hTI rfl ?_);show wpAny _ _ (Builtin.SmallTypes.ownedTupleIsFree (.ref z)>>=_) _ _ _;refine wpAny_bind ?_;unfold Builtin.SmallTypes.ownedTupleIsFree;refine wpAny_bind (wpAny_field hz rfl (x:=.none) rfl (wpAny_pure ?_));simp only[if_true];refine wpAny_bind (wpAny_rule ?_);refine wpAny_bind (wpAny_field hz rfl (x:=.ref TO) rfl ?_);refine wpAny_bind (wpAny_setField_rec hz (by simp) λg1 K2 s1=>?_)
 replace K2:IsZip g1 z TI TO .ellipsis:=K2
 refine wpAny_bind ?_;simp only[List.zipIdx_cons,List.zipIdx_nil,List.forIn_cons,List.forIn_nil];refine wpAny_bind (wpAny_bind (wpAny_onRaise ?_));show wpAny _ _ (Builtin.SmallTypes.nextOf (.ref i1)>>=_) _ _ _
 cases hx:xs[k]? with
 |none =>
  refine wpAny_bind (uq hh (h1.extBut s1.extBut D.i1z) (Io.extBut s1.extBut n1.1) hx λg2 e s2 he=>?_);obtain⟨oe,JB,Kp⟩:=he;have z2:IsZip g2 z TI TO .ellipsis:=s2 _ _ D.i1z.symm K2
  have ez:e≠z:=λq=>by subst q;rw[z2] at JB;cases JB;simp at Kp
  refine wpAny_setField_rec z2 (by simp) λg3 _ s3=>hE g3 e (λc o hc q=>?_) ⟨oe,s3.extBut _ _ ez JB,Kp⟩
  have HD:c≠z/\c≠TO/\c≠i1/\c≠i2:=by simpa using hc
  exact s3.extBut _ _ HD.1 (s2 _ _ HD.2.2.1 (s1.extBut _ _ HD.1 q))
 |some x =>
  have hy:ys[k]?=none:=by
   rcases LN with h|h
   ·rw[hx] at h;cases h
   ·exact h
  refine wpAny_bind (kY (h1.extBut s1.extBut D.i1z) (Io.extBut s1.extBut n1.1) hx λg2 a2 s2=>wpAny_pure ?_);have t2:IsPair g2 TO a b:=s2.extBut _ _ D.TOi1 (s1.extBut _ _ D.TOz RV);refine wpAny_bind (wpAny_seqItems t2 rfl ?_);refine wpAny_bind (wpAny_updateSeq_pair t2 λg3 t3 s3=>?_);refine wpAny_bind (wpAny_letGo (wpAny_pure ?_));refine wpAny_bind (wpAny_bind (wpAny_onRaise ?_));show wpAny _ _ (Builtin.SmallTypes.nextOf (.ref i2)>>=_) _ _ _;refine wpAny_bind (uq hh (((h2.extBut s1.extBut D.i2z).extBut s2.extBut D.i12.symm).extBut s3.extBut D.TOi2.symm) (((Ia.extBut s1.extBut n2.1).extBut s2.extBut n2.2.2.1).extBut s3.extBut n2.2.1) hy λg4 e s4 he=>?_);obtain⟨oe,JB,Kp⟩:=he;have z4:IsZip g4 z TI TO .ellipsis:=s4 _ _ D.i2z.symm (s3.extBut _ _ D.TOz.symm (s2.extBut _ _ D.i1z.symm K2))
  have ez:e≠z:=λq=>by subst q;rw[z4] at JB;cases JB;simp at Kp
  refine wpAny_setField_rec z4 (by simp) λg5 _ s5=>hE g5 e (λc o hc q=>?_) ⟨oe,s5.extBut _ _ ez JB,Kp⟩
  have HD:c≠z/\c≠TO/\c≠i1/\c≠i2:=by simpa using hc
  exact s5.extBut _ _ HD.1 (s4 _ _ HD.2.2.2 (s3.extBut _ _ HD.2.1 (s2.extBut _ _ HD.2.2.1 (s1.extBut _ _ HD.1 q))))
theorem uX {Q:Option Value->Shared->Prop}(D:Apart z TI TO i1 i2 l1 l2)(Z:Zs s.heap z TI TO i1 i2 l1 l2 k)(Io:s.heap.IsTuple l1 xs)(Ia:s.heap.IsTuple l2 ys)(hx:xs[k]?=some x)(hy:ys[k]?=some y)
 (hQ:∀h',IsZip h' z TI TO (rawInt s.heap.objs.size)->(∃a b,IsPair h' TO a b)->h'.IsTupleIter i1 l1 (k+1)->h'.IsTupleIter i2 l2 (k+1)->IsPair h' s.heap.objs.size x y →
  (∀c o,c ∉ [z,TO,i1,i2]->s.heap.get? c=some o->h'.get? c=some o)->Q (some (.ref s.heap.objs.size)) {s with heap:=h'}):
 wpAny (model prog w) A (pyNext (.ref z)) Q E s:=by
 have hT:s.TypeIs (.ref z) "zip":=⟨_,Z.hz,rfl⟩;unfold pyNext
 exact wpAny_bind (wpAny_attempt (wpAny_callSpecial?_slot (name:=Str.ofString "__next__") hT F.slot_zip_next
  (wpAny_call_entry F.slot_zip_next hT F.entry_zip_next (item D Z Io Ia hx hy λh' a1 a2 a3 a4 a5 a6=>wpAny_pure (hQ h' a1 a2 a3 a4 a5 a6)) (F.args_zip_next_1 _))))
theorem vx {Q:Option Value->Shared->Prop}(hh:A.handled=none)(D:Apart z TI TO i1 i2 l1 l2)(Z:Zs s.heap z TI TO i1 i2 l1 l2 k)(Io:s.heap.IsTuple l1 xs)(Ia:s.heap.IsTuple l2 ys)(LN:xs[k]?=none\/ys[k]?=none)
 (hQ:∀h',(∀c o,c ∉ [z,TO,i1,i2]->s.heap.get? c=some o->h'.get? c=some o)->Q none {s with heap:=h'}):wpAny (model prog w) A (pyNext (.ref z)) Q E s:=by
 have hT:s.TypeIs (.ref z) "zip":=⟨_,Z.hz,rfl⟩;unfold pyNext
 refine wpAny_bind (wpAny_attempt (wpAny_callSpecial?_slot (name:=Str.ofString "__next__") hT F.slot_zip_next
  (wpAny_call_entry F.slot_zip_next hT F.entry_zip_next (Fj hh D Z Io Ia LN λh' e hk he=>?_) (F.args_zip_next_1 _))))
 obtain⟨o,ho,hc⟩:=he;refine wpAny_bind (wpAny_isInstance (T:="StopIteration") (b:=true) ⟨o,ho,hc⟩ isSubtype_stop ?_);exact wpAny_pure (hQ _ hk)
end
noncomputable abbrev g1 (h:Heap)(l1:Addr):Heap:=h.push {cls:=.type "tuple_iterator",data:=.fields #[.ref l1,.int 0 0]}
noncomputable abbrev g2 (h:Heap)(l1 l2:Addr):Heap:=(g1 h l1).push {cls:=.type "tuple_iterator",data:=.fields #[.ref l2,.int 0 0]}
noncomputable abbrev g3 (h:Heap)(l1 l2:Addr):Heap:=(g2 h l1 l2).push {cls:=.type "tuple",data:=.seq #[.ref h.objs.size,.ref (g1 h l1).objs.size]}
noncomputable abbrev g4 (h:Heap)(l1 l2:Addr):Heap:=(g3 h l1 l2).push {cls:=.type "tuple",data:=.seq #[.none,.none]}
noncomputable abbrev g5 (h:Heap)(l1 l2:Addr):Heap:=(g4 h l1 l2).push {cls:=.type "zip",data:=.fields #[.none,.bool false,.bool false,.ref (g2 h l1 l2).objs.size,.ref (g3 h l1 l2).objs.size]}
theorem uY (l1 l2:Addr)(xs ys:BU):
 Meets (Builtin.«zip.__new__» ⟨[.type "zip",.ref l1,.ref l2],[]⟩) (λ_ R s=>s.heap.IsTuple l1 xs/\s.heap.IsTuple l2 ys/\R (.ok (.ret (.ref (g4 s.heap l1 l2).objs.size))) {s with heap:=g5 s.heap l1 l2}):=
 .of_wp λprog w A R s h=>by
  obtain⟨hp,g,d,tk,os⟩:=s;obtain⟨Io,Ia,h⟩:=h;have acn:=sub_zip;have Ng:Heap.IsTuple (Shared.heap ⟨hp,g,d,tk,os⟩) l1 xs:=Io;have Nh:Heap.IsTuple (Shared.heap ⟨hp.push {cls:=.type "tuple_iterator",data:=.fields #[.ref l1,.int 0 0]},g,d,tk,os⟩) l2 ys:=Heap.IsTuple.push Ia _
  wp_walk using wpAny_pyIter_tuple Ng,wpAny_pyIter_tuple Nh
  exact⟨_,rfl,h⟩
section
variable {prog:wM}{w:World}{A:Around}{E:wA}{s:GH}
theorem Du {l1 l2:Addr}{xs ys:BU}{Q:wA}(Io:s.heap.IsTuple l1 xs)(Ia:s.heap.IsTuple l2 ys)
 (h:∀h',Zs h' (s.heap.objs.size+4) (s.heap.objs.size+2) (s.heap.objs.size+3) s.heap.objs.size (s.heap.objs.size+1) l1 l2 0->(∀c o,s.heap.get? c=some o->h'.get? c=some o)->Q (.ref (s.heap.objs.size+4)) {s with heap:=h'}):
 wpAny (model prog w) A (call (.type "zip") [.ref l1,.ref l2]) Q E s:=by
 refine callType_new F.called_zip (by decide) (F.typeCall_zip_2 _ _) (F.newCall_zip_2 _ _) (λobj=>F.args_object_init_3 obj _ _) F.entry_zip_new (uY l1 l2 xs ys) ⟨Io,Ia,?_⟩;have z1:(g1 s.heap l1).objs.size=s.heap.objs.size+1:=Heap.size_push ..
 have z2:(g2 s.heap l1 l2).objs.size=s.heap.objs.size+2:=by rw[Heap.size_push,z1]
 have z3:(g3 s.heap l1 l2).objs.size=s.heap.objs.size+3:=by rw[Heap.size_push,z2]
 have z4:(g4 s.heap l1 l2).objs.size=s.heap.objs.size+4:=by rw[Heap.size_push,z3]
 have q5:(g5 s.heap l1 l2).get? (g4 s.heap l1 l2).objs.size=some _:=Heap.get?_push_size _ rfl;have q4:(g5 s.heap l1 l2).get? (g3 s.heap l1 l2).objs.size=some _:=Heap.get?_push_of_some _ (Heap.get?_push_size _ rfl);have q3:(g5 s.heap l1 l2).get? (g2 s.heap l1 l2).objs.size=some _:=Heap.get?_push_of_some _ (Heap.get?_push_of_some _ (Heap.get?_push_size _ rfl));have q2:(g5 s.heap l1 l2).get? (g1 s.heap l1).objs.size=some _:=Heap.get?_push_of_some _ (Heap.get?_push_of_some _ (Heap.get?_push_of_some _ (Heap.get?_push_size _ rfl)));have q1:(g5 s.heap l1 l2).get? s.heap.objs.size=some _:=Heap.get?_push_of_some _ (Heap.get?_push_of_some _ (Heap.get?_push_of_some _ (Heap.get?_push_of_some _ (Heap.get?_push_size _ rfl))));show _/\_;rw[z2,z3,z4] at q5;rw[z1,z2] at q3;rw[z3] at q4;rw[z1] at q2;rw[z4];exact⟨⟨_,q5,rfl⟩,h _ ⟨q5,q3,⟨_,_,q4⟩,⟨_,q1,rfl,rfl⟩,⟨_,q2,rfl,rfl⟩⟩ λc o e=>Heap.get?_push_of_some _ (Heap.get?_push_of_some _ (Heap.get?_push_of_some _ (Heap.get?_push_of_some _ (Heap.get?_push_of_some _ e))))⟩
end
theorem cx {a b:Nat}(h:a≠b):(a:Addr)≠b:=h
theorem xZ (n a b:Nat)(ha:a<n)(hb:b<n):Apart (n+4) (n+2) (n+3) n (n+1) a b:=by
 refine⟨cx ?_,cx ?_,cx ?_,cx ?_,cx ?_,cx ?_,cx ?_,cx ?_,cx ?_,cx ?_,?_,?_⟩
 any_goals omega
 ·simp only[List.mem_cons,List.not_mem_nil,or_false,not_or];exact⟨cx (by omega),cx (by omega),cx (by omega),cx (by omega)⟩
 ·simp only[List.mem_cons,List.not_mem_nil,or_false,not_or];exact⟨cx (by omega),cx (by omega),cx (by omega),cx (by omega)⟩
end Zp
namespace L2
open PySem PySem.Spec PyProof.Rows PySem.W
noncomputable def EK (K:Frag)(a b:Addr):It :=
 ⟨λi H=>∃xs ys x y,bX K H a xs/\bX K H b ys/\xs[i]?=some x/\ys[i]?=some y,
  λi H v H'=>∃T x y,(∀xs,bX K H a xs->xs[i]?=some x)/\(∀ys,bX K H b ys->ys[i]?=some y)/\H T=none/\v=.ref T/\H'=upd H T (.tup [x,y]),
  λi H=>∃xs ys,bX K H a xs/\bX K H b ys/\(xs.length<=i\/ys.length<=i)⟩
theorem yb {P:wM}{w:World}{K:Frag}{elts:Bl}{x1:Nat}{tp:Pos}{a b z TI TO i1 i2:Addr}(D:Zp.Apart z TI TO i1 i2 a b):
 Turn P w K (.Tuple elts x1 tp) (EK K a b) [z,TO,i1,i2,TI] z (λi h=>Zp.Zs h z TI TO i1 i2 a b i) where
 mem:=by simp
 obj:=λi h st c hb=>by
  obtain⟨h1,h2,⟨_,_,h3⟩,⟨o4,h4,_,d4⟩,⟨o5,h5,_,d5⟩⟩:=st
  rcases(by simpa using hb:c=z\/c=TO\/c=i1\/c=i2\/c=TI) with q|q|q|q|q
  ·subst q;exact⟨_,h1,λv q=>by cases q⟩
  ·subst q;exact⟨_,h3,λv q=>by cases q⟩
  ·subst q;exact⟨_,h4,λv q=>by rw[d4] at q;cases q⟩
  ·subst q;exact⟨_,h5,λv q=>by rw[d5] at q;cases q⟩
  ·subst q;exact⟨_,h2,λv q=>by cases q⟩
 keep:=λi h h' st k=>by
  obtain⟨h1,h2,⟨_,_,h3⟩,h4,h5⟩:=st;exact⟨k z (by simp) _ h1,k TI (by simp) _ h2,⟨_,_,k TO (by simp) _ h3⟩,Zp.gP h4 λo q=>k i1 (by simp) o q,Zp.gP h5 λo q=>k i2 (by simp) o q⟩
 item:=by
  intro X hP hw hK hc i pins s σ H E I hf st hg;subst hP hw hK;obtain⟨xs,ys,x,y,hq,hr,hx,hy⟩:=hg;obtain⟨its,rv,p,hz⟩:=I.tuple hq;obtain⟨Ot,IL,p',YJ⟩:=I.tuple hr;obtain⟨u,hu,ru⟩:=rv.get hx;obtain⟨v,hv,Ui⟩:=IL.get hy;refine Zp.uX D st (show s.heap.IsTuple a its.toArray from p) (show s.heap.IsTuple b Ot.toArray from p') (x:=u) (y:=v) (by simpa using hu) (by simpa using hv) λh' q1 q2 q3 q4 q5 q6=>?_;refine⟨_,rfl,wpAny_letOwnedTupleGo_zip (s:={s with heap:=h'}) q1 λh2 q7 q8=>?_⟩;have lt:∀c o,s.heap.get? c=some o->c≠s.heap.objs.size:=λc o e=>Nat.ne_of_lt (Heap.lt_size e)
  have I1:Inv X pins σ H {s with heap:=h2}:=I.abE (t':=s.toks) (ch:=[z,TO,i1,i2]) (λc o hc e=>(q8.2 c λq=>hc (by simp[q])).trans (q6 c o hc e)) λc hc=>hf c (by
   rcases(by simpa using hc:c=z\/c=TO\/c=i1\/c=i2) with q|q|q|q <;> simp[q])
  have nz:s.heap.objs.size≠z:=Ne.symm (lt z _ st.hz);have tup:h2.get? s.heap.objs.size=some {cls:=.type "tuple",data:=.seq #[u,v]}:=(q8.2 _ nz).trans q5;have fr:H s.heap.objs.size=none:=I.hok.fresh (Nat.le_refl _);have I2:=I.acu (xs:=[x,y]) (its:=[u,v]) I1 (Nat.le_refl _) tup (.cons ru (.cons Ui .nil)) d9;have up:∀c o,c≠z->h'.get? c=some o->h2.get? c=some o:=λc o hc e=>(q8.2 c hc).trans e;obtain⟨aa,bb,q2⟩:=q2;have Uj:IsPair h' TI (.ref i1) (.ref i2):=q6 TI _ (by simp only[List.mem_cons,List.not_mem_nil,or_false,not_or];exact⟨D.TIz,D.TITO,D.TIi1,D.TIi2⟩) st.hTI
  refine⟨.ref s.heap.objs.size,_,I2,rfl,⟨s.heap.objs.size,x,y,λzs Uk=>by rw[I.aaA Uk hq];exact hx,λzs Uk=>by rw[I.aaA Uk hr];exact hy,fr,rfl,rfl⟩,
   ⟨q7,up _ _ D.TIz Uj,⟨aa,bb,up _ _ D.TOz q2⟩,Zp.gP q3 λo e=>up _ o D.i1z e,Zp.gP q4 λo e=>up _ o D.i2z e⟩,λc hb=>?_⟩
  have nb:c≠s.heap.objs.size:=by
   obtain⟨h1,h2,⟨_,_,h3⟩,⟨o4,h4,_,d4⟩,⟨o5,h5,_,d5⟩⟩:=st
   rcases(by simpa using hb:c=z\/c=TO\/c=i1\/c=i2\/c=TI) with q|q|q|q|q <;> subst q
   ·exact lt _ _ h1
   ·exact lt _ _ h3
   ·exact lt _ _ h4
   ·exact lt _ _ h5
   ·exact lt _ _ h2
  rw[aq nb];exact(hf c hb).1
 done:=by
  intro X hP hw hK hc i pins s σ H E I hf st hg;subst hP hw hK;obtain⟨xs,ys,hq,hr,hx⟩:=hg;obtain⟨its,rv,p,hz⟩:=I.tuple hq;obtain⟨Ot,IL,p',YJ⟩:=I.tuple hr;have l1:=rv.length;have l2:=IL.length
  refine Zp.vx (I.ok.hd hc) D st (show s.heap.IsTuple a its.toArray from p) (show s.heap.IsTuple b Ot.toArray from p') (by
   rcases hx with q|q
   ·left;simp;omega
   ·right;simp;omega) λh' q=>⟨rfl,?_⟩
  exact I.abE (t':=s.toks) (ch:=[z,TO,i1,i2]) q λc hc=>hf c (by
   rcases(by simpa using hc:c=z\/c=TO\/c=i1\/c=i2) with q|q|q|q <;> simp[q])
 self:=λ_ _ _ _ _ st h=>wpAny_pyIter_zip st.hz h
noncomputable def Fh (K:Frag)(ta tb:TE):TI:=λσ H R=>cO ta (cO tb D1) σ H λvs H1=>∃a b xs ys,vs=[.ref a,.ref b]/\bX K H1 a xs/\bX K H1 b ys/\R (EK K a b) H1
theorem Bo {X:Cx}{ea eb:Expr}{ta tb:TE}{elts:Bl}{x1:Nat}{tp p pos:Pos}(ha:PE X ea ta)(hb:PE X eb tb)(hg:Gl X "zip")(hm:X.mg "zip"=none)(hs:gJ ea=false:=by rfl)(Kd:gJ eb=false:=by rfl):
 PI X (.Tuple elts x1 tp) (.Call (.Name "zip" p) [ea,eb] [] pos) (Fh X.K ta tb):=by
 intro pins s σ H R I h;refine wpAny_Call_Name_kw (gM I hg hm (by rfl) ?_ (by decide) (by decide));refine PyProof.Rows.callWith_type1 (bA (ah ha (ah hb af Kd) hs pos pins s σ H _ I h) λus s1 z'=>?_) (b8 hs) (by rw[b8 Kd];rfl);obtain⟨vs,H1,I1,r1,a,b,xs,ys,hv,hq,hr,rr⟩:=z';subst hv;obtain⟨u,u',rfl,ru,Ui⟩:=uC r1
 cases(show u=Value.ref a from ru)
 cases(show u'=Value.ref b from Ui)
 obtain⟨its,rv,pl,hz⟩:=I1.tuple hq;obtain⟨Ot,IL,YK,YJ⟩:=I1.tuple hr;refine Zp.Du (show s1.heap.IsTuple a its.toArray from pl) (show s1.heap.IsTuple b Ot.toArray from YK) λh' q1 q4=>?_;have I2:Inv X pins σ H1 {s1 with heap:=h'}:=I1.kept (t':=s1.toks) q4
 have la:a<s1.heap.objs.size:=by obtain⟨o,e,_⟩:=pl;exact Heap.lt_size e
 have lb:b<s1.heap.objs.size:=by obtain⟨o,e,_⟩:=YK;exact Heap.lt_size e
 refine wpAny_pyIter_zip (s:={s1 with heap:=h'}) q1.hz ?_;refine⟨s1.heap.objs.size+4,[s1.heap.objs.size+4,s1.heap.objs.size+3,s1.heap.objs.size,s1.heap.objs.size+1,s1.heap.objs.size+2],_,EK X.K a b,H1,rfl,I2,yb (Zp.xZ _ _ _ la lb),q1,λc hc=>?_,rr⟩
 have HY:s1.heap.objs.size<=c:=by
  rcases(by simpa using hc:c=s1.heap.objs.size+4\/c=s1.heap.objs.size+3\/c=s1.heap.objs.size\/c=s1.heap.objs.size+1\/c=s1.heap.objs.size+2) with q|q|q|q|q <;> rw[q]
  ·exact Nat.le_add_right _ _
  ·exact Nat.le_add_right _ _
  ·exact Nat.le_refl _
  ·exact Nat.le_add_right _ _
  ·exact Nat.le_add_right _ _
 exact I1.abC HY (I1.hok.fresh HY)
end L2
namespace K16
open PySem L2 PySem.W
noncomputable abbrev Gi:Stmt:=aL (aY 20) 1
noncomputable abbrev uP:Stmt:=aL (aY 20) 3
noncomputable abbrev y9:Stmt:=(aY 12)
noncomputable abbrev iC:Stmt:=(aY 13)
noncomputable def AQ (C:Addr):Sp:=λvs H Q _=>∃(p dx:Addr)(i:Int)(y:V),vs=[.ref p,y]/\H p=some (.ins C dx (cw i)) /\
 ((∃q dy j,y=.ref q/\H q=some (.ins C dy (cw j))/\Q (.bl (decide (i=j))) H)\/∃T,Th H y T/\Q (.bl false) H)
noncomputable def iB (C:Addr):Sp:=λvs H Q _=>∃(p dx:Addr)(i:Int),vs=[.ref p]/\H p=some (.ins C dx (cw i))/\Q (.int i) H
noncomputable def cG:V->Bool
 | .int i=>decide (0<=i)&&decide (i<60)
 |_=>false
noncomputable def B6:Sp:=λvs H Q _=>∃x T,vs=[x]/\Th H x T/\Q (.bl (cG x)) H
variable {P:wM}{w:World}{K:PySem.W.Frag}{mg:vJ}{base:Heap}
theorem Fe:uQ qR qR (ar Gi):=dI (by decide +kernel)
variable {f:Addr}{fd:GF}
theorem Dj {C:Addr}(F:E6 K "__eq__" "Field.__eq__" Gi f fd)(c:Cp K mg C)(n:vk mg):Cy P w K mg base (bc P w) 1 f fd qR (AQ C):=by
 refine F.okN Fe (λvs H Q E h=>?_) (λGL A outer s H vs Q E hr h=>?_)
 ·obtain⟨p,dx,i,y,rfl,_⟩:=h;rfl
 ·obtain⟨p,dx,i,y,rfl,hp,h⟩:=h
  refine⟨_,ao (aw (cp (aD bf (by rfl) n.isi (by rfl) (cj (pv 1) (cj (bR (by rfl) c.mgC (show aG (.ref C) (.ref C) from rfl)) af)))
   (dC (bD cM (br (pv 0) rfl) (br (pv 1) rfl) (aA _))))),?_⟩
  rcases h with⟨q,dy,j,rfl,hq,z⟩|⟨T,th,z⟩
  ·refine⟨_,rfl,.ref q,.ref C,_,_,_,rfl,rfl,c.ty hq,c.is,_,rfl,?_⟩;refine aZ ?_;refine⟨_,rfl,p,C,dx,_,_,rfl,hp,c.cl,c.nP,rfl,_,rfl,q,C,dy,_,_,rfl,hq,c.cl,c.nP,rfl,rfl,?_⟩
   have e:decide (V.int i=V.int j)=decide (i=j):=by simp
   rw[e];exact z
  ·exact⟨_,rfl,y,.ref C,_,_,_,rfl,rfl,th.ty,c.no th,_,rfl,aS z⟩
theorem yS:uQ ["self"] ["self"] (ar uP):=dI (by decide +kernel)
theorem yX {C:Addr}(F:E6 K "prime" "Field.prime" uP f fd)(c:Cp K mg C):Cy P w K mg base (bc P w) 1 f fd ["self"] (iB C):=by
 refine F.okN yS (λvs H Q E h=>?_) (λGL A outer s H vs Q E hr h=>?_)
 ·obtain⟨p,dx,i,rfl,_⟩:=h;rfl
 ·obtain⟨p,dx,i,rfl,hp,q⟩:=h;exact⟨_,ao (aw (br (pv 0) rfl)),_,rfl,p,C,dx,_,_,rfl,hp,c.cl,c.nP,rfl,q⟩
theorem Ai:uQ vq vq (ar y9):=dI (by decide +kernel)
theorem wg {fw:Addr}{Jm:GF}{tM:Tok}(F:E6 K "is_place" "is_place" y9 f fd)(Ul:mg "MOST_PLACES"=some (.int 60 tM))
 (FW:Cy P w K mg base (bc P w) 1 fw Jm vq su)(bW:L2.aI K Jm vq [])(mW:mg "is_whole"=some (.ref fw))(kW:keepIn K (.ref fw)=true):Cy P w K mg base (bc P w) 2 f fd vq B6:=by
 refine F.okN Ai (λvs H Q E h=>?_) (λGL A outer s H vs Q E hr h=>?_)
 ·obtain⟨x,T,rfl,_⟩:=h;rfl
 ·obtain⟨x,T,rfl,th,q⟩:=h;have GU:pL 1 _:=hr.mono (by decide);refine⟨_,ao (aw (cp (ay FW GU (by rfl) mW kW bW .nil ag (@ah _ _ _ _ _ (pv 0) af rfl)) (dC (pT p4 eQ ak (pv 0) (bR (by rfl) Ul (show aG (.int 60) (.int 60 tM) from⟨_,rfl⟩)))))),?_⟩;refine⟨_,rfl,x,T,rfl,th,_,rfl,?_⟩
  cases e:dR x with
  |false =>
   have z:cG x=false:=by cases x <;> first|rfl|cases e
   rw[z] at q;exact aS q
  |true =>
   have z1:∃i,x=.int i:=by cases x <;> first|exact⟨_,rfl⟩|cases e
   obtain⟨i,rfl⟩:=z1;refine aZ ?_;refine⟨_,rfl,_,_,rfl,rfl,_,rfl,?_⟩;refine cT (λh=>?_) (λh=>?_)
   ·refine⟨_,_,rfl,rfl,?_⟩;have h':decide (0<=i)=true:=h
    have z:cG (.int i)=decide (i<60):=by show(decide (0<=i)&&decide (i<60))=_;rw[h',Bool.true_and]
    rw[z] at q;exact q
   ·have h':decide (0<=i)=false:=by simpa using h
    have z:cG (.int i)=false:=by show(decide (0<=i)&&decide (i<60))=_;rw[h',Bool.false_and]
    rw[z] at q;exact q
end K16
namespace HT
open PySem PyProof.Rows
section
variable {prog:wM}{w:World}{A:Around}{E:wA}{s:GH}
theorem gW {t sl:Addr}{items:BU}{vl vu:Value}{lo hi:Option Int}{Q:wA}(ht:IsTup s.heap t items)(hs:s.heap.IsSliceOf sl vl vu .none)(pl:IsPart vl lo)(pu:IsPart vu hi)
 (h0:df items.size 0 lo=0)(h1:df items.size items.size hi=items.size)(h:Q (.ref t) s):wpAny (model prog w) A (getItem (.ref t) (.ref sl)) Q E s:=by
 obtain⟨os,LB,RN,NZ⟩:=id hs;have Tx:s.TypeIs (.ref sl) "slice":=⟨os,LB,RN⟩;unfold getItem
 try with_reducible refine wpAny_holding ?_
 first|refine wpAny_bind (wpAny_pure ?_)|skip
 refine wpAny_bind (wpAny_sequenceKey ht.typeIs (by decide) ?_)
 refine wpAny_bind (wpAny_callSpecial?_slot (name:=Str.ofString "__getitem__") ht.typeIs PyProof.Rows.slot_tuple_getitem
  (wpAny_call_entry PyProof.Rows.slot_tuple_getitem ht.typeIs entry_tuple_getitem ?_ (args_tuple_getitem _ _)))
 show wpAny _ _ (Builtin.Tuple.tupleItemsOf (.ref t)>>=_) _ _ s;refine wpAny_bind (tupleItemsOf_ ht ?_);refine wpAny_bind (wpAny_typeOf Tx ?_);rw[if_pos (by decide)];refine wpAny_bind (fK hs pl pu ?_);rw[h0,h1]
 have JO:((((0:Nat):Int)==0&&(1:Int)==1&&(items.size-0)==items.size)=true):=by simp
 dsimp only;rw[if_pos JO];show wpAny _ _ (Builtin.Tuple.tupleIsExact (.ref t)>>=_) _ _ s;refine wpAny_bind ?_;unfold Builtin.Tuple.tupleIsExact;refine wpAny_bind (wpAny_typeOf ht.typeIs (wpAny_pure ?_));rw[if_pos (by decide)];refine wpAny_bind (wpAny_rule ?_);exact wpAny_pure ⟨_,rfl,wpAny_pure h⟩
end
end HT
namespace L2
open PySem PySem.Spec PyProof.Rows PySem.W
variable {X:Cx}
noncomputable def FR (K:Frag):V->Option Int->Option Int->Hp->VK->Prop:=λx lo hi H Q=>∃a xs,x=.ref a/\bX K H a xs/\(fO xs lo hi=xs->Q (.ref a) H)/\∀p,H p=none->Q (.ref p) (upd H p (.tup (fO xs lo hi)))
theorem Ay:zo X (FR X.K):=by
 intro pins s σ H x v vl vu lo hi sl Q I rx hs pl pu h;obtain⟨a,xs,rfl,hx,h1,h2⟩:=h
 by_cases hw:HT.df xs.length 0 lo=0/\HT.df xs.length xs.length hi=xs.length
 ·cases rx
  obtain⟨its,r,ht,hz⟩:=I.tuple hx
  have hlen:its.toArray.size=xs.length:=by rw[List.size_toArray];exact r.length.symm
  refine⟨"tuple",_,PyProof.Rows.slot_tuple_getitem.lookup,ht.typeIs,?_⟩;refine HT.gW ht hs pl pu (by rw[hlen];exact hw.1) (by rw[hlen];exact hw.2) ?_;refine⟨.ref a,H,I,rfl,h1 ?_⟩;unfold fO;rw[hw.1,hw.2];simp
 ·exact abQ pins s σ H (.ref a) v vl vu lo hi sl Q I rx hs pl pu ⟨a,xs,rfl,hx,hw,h2⟩
end L2
namespace K16
open PySem L2 PySem.W
inductive PX (H:Hp):V->Option (List V)->Prop where
 |no {x:V}{T:String}:Th H x T->T ≠ "tuple"->PX H x none
 |tup {a:Addr}{xs:List V}:H a=some (.tup xs)->xs.length<4000->(∀y∈xs,∃T,Th H y T)->PX H (.ref a) (some xs)
noncomputable def Ex:V->V->Bool
 | .int a,.int b=>decide (a<b)
 |_,_=>false
noncomputable def jy (xs:List V):Bool:=(xs.zip (xs.drop 1)).all λp=>Ex p.1 p.2
noncomputable def lj:Option (List V)->Bool
 |none=>false
 |some xs=>xs.all cG&&jy xs
noncomputable def rg:Sp:=λvs H Q _=>∃x o,vs=[x]/\PX H x o/\∀H',au H H'->Q (.bl (lj o)) H'
theorem Em (xs:List V):fO xs (some 1) none=xs.drop 1:=by
 unfold fO HT.df
 cases xs with
 |nil=>rfl
 |cons x xs=>simp
theorem vP:uQ vq vq (ar iC):=dI (by decide +kernel)
theorem qW:∀bs:List Bool,Paired EL (bs.map V.bl) bs
 |[]=>.nil
 |b::bs=>.cons rfl (qW bs)
variable {P:wM}{w:World}{K:PySem.W.Frag}{mg:vJ}{base:Heap}
variable {f:Addr}{fd:GF}
theorem sL {fp:Addr}{Iy:GF}(F:E6 K "is_product" "is_product" iC f fd)(GJ:mg "isinstance"=none)(GS:mg "tuple"=none)(Jn:mg "all"=none)(JP:mg "zip"=none)
 (FP:Cy P w K mg base (bc P w) 2 fp Iy vq B6)(bP:L2.aI K Iy vq [])(mP:mg "is_place"=some (.ref fp))(kP:keepIn K (.ref fp)=true):Cy P w K mg base (bc P w) 3 f fd vq rg:=by
 refine F.okN vP (λvs H Q E h=>?_) (λGL A outer s H vs Q E hr h=>?_)
 ·obtain⟨x,o,rfl,_⟩:=h;rfl
 ·obtain⟨x,o,rfl,px,q⟩:=h;have HR:pL 2 _:=hr.mono (by decide)
  refine⟨_,(aj (aV (PW.pt (dH (bM (cf (aD bf (by rfl) GJ (by rfl) (@ah _ _ _ _ _ (pv 0) (@ah _ _ _ _ _ (dh (by rfl) GS (by rfl) (show aG (.ty "tuple") (.type "tuple") from rfl)) af rfl) rfl)))) (dt (bM (cf (aD (pq rfl) (by rfl) Jn (by rfl) (@ah _ _ _ _ _ (f9 (N:=["place"]) (nl:=1) (js:=[]) (osc:=ar iC) ⟨rfl,rfl,by decide +kernel,by decide +kernel,by decide +kernel,rfl,.nil,by decide +kernel⟩ rfl
   (xO (pv 0))
   (λC fp s H=>aH (i:=0) (by show(["place"]:xQ).Nodup;decide +kernel) rfl (Or.inl rfl) (Or.inr rfl))
   (λC fp s H=>eR)
   (λC fp s H=>(ay FP HR (by rfl) mP kP bP .nil ag (@ah _ _ _ _ _ (pv 0) af rfl)))) af rfl))))))) (ao (aw cV)) aE)
   (ao (aw (aD (pq rfl) (by rfl) Jn (by rfl) (@ah _ _ _ _ _ (f9 (g:=xv K 2 (iz (c9 0) (iz (c9 1) y8))) (N:=["place","later"]) (nl:=2) (js:=[]) (osc:=ar iC) ⟨rfl,rfl,by decide +kernel,by decide +kernel,by decide +kernel,rfl,.nil,by decide +kernel⟩ rfl
    (Bo (pv 0) (cL Ay (pv 0) (dF ak) de) (by rfl) JP)
    (λC fp s H=>(dQ (X:=iD _ ["place","later"] _ C fp s H) rfl (aJ (aH (X:=iD _ ["place","later"] _ C fp s H) (i:=0) (by show(["place","later"]:xQ).Nodup;decide +kernel) rfl (Or.inl rfl) (Or.inr rfl)) (aJ (aH (X:=iD _ ["place","later"] _ C fp s H) (i:=1) (by show(["place","later"]:xQ).Nodup;decide +kernel) rfl (Or.inl rfl) (Or.inr rfl)) cm))))
    (λC fp s H=>eR)
    (λC fp s H=>(@bD _ _ _ _ _ _ _ _ eQ (pv 0) (pv 1) (aA _)))) af rfl))))),?_⟩
  cases px with
  |@no x T th ne =>
   refine⟨_,rfl,x,.ty "tuple",_,_,_,rfl,rfl,th.ty,th.isTup,_,rfl,?_⟩;rw[decide_eq_false ne];exact aZ (aZ (q _ (au.refl _)))
  |@tup a xs ha hl hth =>
   refine⟨_,rfl,.ref a,.ty "tuple",_,_,_,rfl,rfl,.of (.tup ha),rfl,_,rfl,aS ?_⟩;have YL:∀n,n<=xs.length->n<sizeLine:=λn hn=>Nat.lt_of_le_of_lt hn (Nat.lt_trans hl (by decide));refine⟨_,rfl,a,rfl,⟨xs,bX.of ha⟩,?_⟩;refine⟨λi m ys σ' H'=>m=xs.length-i/\i<=xs.length/\ys=((xs.take i).map cG).map V.bl/\H=H'/\∃o,σ'=[o],⟨xs.length,by simp,Nat.zero_le _,by simp,rfl,none,rfl⟩,?_⟩;rintro i m ys σ' H' ⟨rfl,hi,rfl,rfl,o,rfl⟩;refine⟨YL _ (by simp;omega),?_⟩
   by_cases GV:i<xs.length
   ·refine .inr ⟨⟨xs,xs[i],bX.of ha,by simp[GV]⟩,λy H2 hy=>?_⟩;obtain⟨rfl,hy⟩:=hy;have ey:=hy xs (bX.of ha);obtain⟨T,th⟩:=hth y (List.mem_of_getElem? ey);dsimp only[u7,c9];refine aZ ⟨_,rfl,y,T,rfl,th,xs.length-(i+1),by omega,rfl,GV,?_,rfl,_,rfl⟩
    have e2:xs.take (i+1)=xs.take i++[y]:=by
     rw[List.take_add_one,ey];rfl
    rw[e2];simp
   ·have ei:i=xs.length:=by omega
    subst ei;refine .inl ⟨⟨xs,bX.of ha,Nat.le_refl _⟩,λD hD=>?_⟩;rw[List.take_length];refine⟨D,_,xs.map cG,rfl,aM.of ae,qW _,_,rfl,?_⟩;have sD:au H (upd H D (.lst ((xs.map cG).map V.bl))):=ai hD
    cases hp:(xs.map cG).all id with
    |false =>
     have z:lj (some xs)=false:=by
      show(xs.all cG&&jy xs)=_
      have:xs.all cG=false:=by rw[<-hp,List.all_map];rfl
      rw[this,Bool.false_and]
     rw[z] at q;exact aZ (q _ sD)
    |true =>
     refine aS ?_
     have z:lj (some xs)=jy xs:=by
      show(xs.all cG&&jy xs)=_
      have:xs.all cG=true:=by rw[<-hp,List.all_map];rfl
      rw[this,Bool.true_and]
     rw[z] at q;generalize upd H D (.lst ((xs.map cG).map V.bl))=H1 at sD |-;have Jt:=sD _ _ ha
     have hint:∀y∈xs,∃n,y=V.int n:=λy hy=>by
      have:cG y=true:=List.all_eq_true.mp hp _ (List.mem_map_of_mem hy)
      cases y <;> first|exact⟨_,rfl⟩|cases this
     have key:∀(b:Addr)(H2:Hp),au H H2->H2 a=some (.tup xs)->H2 b=some (.tup (xs.drop 1)) →
      ∃W:Nat->Nat->List V->St->Hp->Prop,(∃m,W 0 m [] [none,none] H2)/\kh (EK K a b) (xv K 2 (iz (c9 0) (iz (c9 1) y8))) u7 (oU (w9 λi j=>V.bl (decide (i<j))) (dY 0) (dY 1)) W
       λys H'=>∀D,H' D=none->∃l zs bs,[V.ref D]=[V.ref l]/\aM K (upd H' D (.lst ys)) l zs/\Paired EL zs bs/\Q (.bl (bs.all id)) (upd H' D (.lst ys)):=by
      intro b H2 s2 LO h2b;refine⟨λi m ys σ' H'=>m=(xs.drop 1).length-i/\i<=(xs.drop 1).length/\ys=(((xs.zip (xs.drop 1)).take i).map λp=>Ex p.1 p.2).map V.bl/\au H2 H'/\∃o1 o2,σ'=[o1,o2],⟨(xs.drop 1).length,by simp,Nat.zero_le _,by simp,au.refl _,none,none,rfl⟩,?_⟩;rintro i m ys σ' H' ⟨rfl,hi,rfl,sH,o1,o2,rfl⟩;have Jo:=sH _ _ LO;have HY:=sH _ _ h2b;refine⟨YL _ (by simp;omega),?_⟩
      by_cases GV:i<(xs.drop 1).length
      ·have Um:i<xs.length:=by rw[List.length_drop] at GV;omega
       refine .inr ⟨⟨xs,xs.drop 1,xs[i],(xs.drop 1)[i],bX.of Jo,bX.of HY,by simp[Um],by rw[List.getElem?_eq_getElem GV]⟩,λv H3 hv=>?_⟩;obtain⟨T,x,y,hx,hy,hT,rfl,rfl⟩:=hv;have ex:=hx xs (bX.of Jo);have ey:=hy (xs.drop 1) (bX.of HY);obtain⟨n,rfl⟩:=hint x (List.mem_of_getElem? ex);obtain⟨k,rfl⟩:=hint y (List.mem_of_mem_drop (List.mem_of_getElem? ey));refine⟨T,_,rfl,bX.of ae,rfl,_,_,rfl,_,_,rfl,rfl,?_⟩;dsimp only[u7];refine aZ ⟨_,rfl,_,rfl,n,k,rfl,rfl,(xs.drop 1).length-(i+1),by omega,rfl,GV,?_,λc u e=>?_,_,_,rfl⟩
       ·have ez:(xs.zip (xs.drop 1))[i]?=some (V.int n,V.int k):=by
         rw[List.getElem?_zip_eq_some];exact⟨ex,ey⟩
        have e2:(xs.zip (xs.drop 1)).take (i+1)=(xs.zip (xs.drop 1)).take i++[(V.int n,V.int k)]:=by
         rw[List.take_add_one,ez];rfl
        rw[e2];simp[Ex]
       ·rw[aq (av (sH _ _ e) hT)];exact sH _ _ e
      ·have ei:i=(xs.drop 1).length:=by omega
       subst ei;refine .inl ⟨⟨xs,xs.drop 1,bX.of Jo,bX.of HY,.inr (Nat.le_refl _)⟩,λD' Ou=>?_⟩
       have et:(xs.zip (xs.drop 1)).take (xs.drop 1).length=xs.zip (xs.drop 1):=by
        apply List.take_of_length_le;rw[List.length_zip];exact Nat.min_le_right _ _
       rw[et];refine⟨D',_,(xs.zip (xs.drop 1)).map λp=>Ex p.1 p.2,rfl,aM.of ae,qW _,?_⟩
       have er:((xs.zip (xs.drop 1)).map λp=>Ex p.1 p.2).all id=jy xs:=by rw[List.all_map];rfl
       rw[er];refine q _ λc u e=>?_;have e1:=sH _ _ (s2 _ _ e);rw[aq (av e1 Ou)];exact e1
     refine⟨_,rfl,_,rfl,1,rfl,a,xs,rfl,bX.of Jt,λe=>?_,λp YM=>?_⟩
     ·rw[Em] at e;exact⟨a,a,xs,xs.drop 1,rfl,bX.of Jt,bX.of (by rw[e];exact Jt),key a H1 sD Jt (by rw[e];exact Jt)⟩
     ·rw[Em];have np:a≠p:=av Jt YM;exact⟨a,p,xs,xs.drop 1,rfl,bX.of (by rw[aq np];exact Jt),bX.of ae,key p _ (λc u e=>by rw[aq (av (sD _ _ e) YM)];exact sD _ _ e) (by rw[aq np];exact Jt) ae⟩
noncomputable abbrev A4:Stmt:=(aY 29)
theorem PX.same {H H':Hp}{x:V}{o:Option (List V)}(h:PX H x o)(s:au H H'):PX H' x o:=by
 cases h with
 |no th n=>exact .no (th.same s) n
 |tup e l h=>exact .tup (s _ _ e) l λy hy=>let⟨T,t⟩:=h y hy;⟨T,t.same s⟩
inductive FJ (p:Int)(H:Hp):V->Bool->Prop where
 |no {x:V}{T:String}:Th H x T->T ≠ "tuple"->FJ p H x false
 |odd {a:Addr}{xs:List V}:H a=some (.tup xs)->xs.length≠2->FJ p H (.ref a) false
 |two {a:Addr}{y z:V}{o:Option (List V)}{o2:Option (V×V)}:H a=some (.tup [y,z])->PX H y o->TX H z o2->FJ p H (.ref a) (lj o&&wq p o2)
theorem FJ.same {p:Int}{H H':Hp}{x:V}{b:Bool}(h:FJ p H x b)(s:au H H'):FJ p H' x b:=by
 cases h with
 |no th n=>exact .no (th.same s) n
 |odd e n=>exact .odd (s _ _ e) n
 |two e h1 h2=>exact .two (s _ _ e) (h1.same s) (h2.same s)
noncomputable def yg (C:Addr):Sp:=λvs H Q _=>∃(s dx:Addr)(p:Int)(x:V)(b:Bool),vs=[.ref s,x]/\H s=some (.ins C dx (cw p))/\FP p/\FJ p H x b/\∀H',au H H'->Q (.bl b) H'
theorem BM:uQ qU qU (ar A4):=dI (by decide +kernel)
theorem zQ {fp fi C:Addr}{Iy Ju:GF}(F:E6 K "is_term" "is_term" A4 f fd)(c:Cp K mg C)(GJ:mg "isinstance"=none)(GS:mg "tuple"=none)(GP:mg "len"=none)
 (FP':Cy P w K mg base (bc P w) 3 fp Iy vq rg)(bP:L2.aI K Iy vq [])(mP:mg "is_product"=some (.ref fp))(kP:keepIn K (.ref fp)=true)
 (FI:Cy P w K mg base (bc P w) 2 fi Ju vi (lD C))(bI:L2.aI K Ju vi [])(mI:L2.Meth K C "is_number" fi):Cy P w K mg base (bc P w) 4 f fd qU (yg C):=by
 refine F.okN BM (λvs H Q E h=>?_) (λGL A outer s H vs Q E hr h=>?_)
 ·obtain⟨s,dx,p,x,b,rfl,_⟩:=h;rfl
 ·obtain⟨s0,dx,p,x,b,rfl,hs,hp,tx,q⟩:=h;have Iz:pL 3 _:=hr.mono (by decide);have HR:pL 2 _:=hr.mono (by decide)
  refine⟨_,ao (aw (cp (aD bf (by rfl) GJ (by rfl) (@ah _ _ _ _ _ (pv 1) (@ah _ _ _ _ _ (dh (by rfl) GS (by rfl) (show aG (.ty "tuple") (.type "tuple") from rfl)) af rfl) rfl))
   (cp (@bD _ _ _ _ _ _ _ _ cM (aD bp (by rfl) GP PySem.boot_len (@ah _ _ _ _ _ (pv 1) af rfl)) ak (aA _))
   (cp (ay FP' Iz (by rfl) mP kP bP .nil ag (@ah _ _ _ _ _ (@aQ _ _ _ _ _ _ _ cn (pv 1) ak (λ_ _=>rfl)) af rfl))
   (dC (ow (pv 0) c.cl mI FI HR bI .nil ag (@ah _ _ _ _ _ (@aQ _ _ _ _ _ _ _ cn (pv 1) ak (λ_ _=>rfl)) af rfl))))))),?_⟩
  cases tx with
  |@no x T th ne =>
   refine⟨_,rfl,x,.ty "tuple",_,_,_,rfl,rfl,th.ty,th.isTup,_,rfl,?_⟩;rw[decide_eq_false ne];exact aS (q _ (au.refl _))
  |@odd a xs ha hl =>
   refine⟨_,rfl,.ref a,.ty "tuple",_,_,_,rfl,rfl,.of (.tup ha),rfl,_,rfl,aZ ?_⟩;refine⟨_,rfl,a,_,rfl,.inr (bX.of ha),rfl,_,rfl,?_⟩;refine cT (λh=>absurd h (by simp;omega)) (λh=>?_);exact q _ (au.refl _)
  |@two a y z o o2 ha hy hz =>
   refine⟨_,rfl,.ref a,.ty "tuple",_,_,_,rfl,rfl,.of (.tup ha),rfl,_,rfl,aZ ?_⟩;refine⟨_,rfl,a,_,rfl,.inr (bX.of ha),rfl,_,rfl,aZ ?_⟩;refine⟨_,rfl,a,_,0,y,rfl,rfl,bX.of ha,rfl,y,o,rfl,hy,λH' sH=>⟨_,rfl,?_⟩⟩;have Kd:=sH _ _ hs;have Jo:=sH _ _ ha
   cases e:lj o with
   |false =>
    rw[e,Bool.false_and] at q;exact aS (q _ sH)
   |true =>
    rw[e,Bool.true_and] at q;refine aZ ⟨_,rfl,s0,dx,_,rfl,Kd,rfl,_,rfl,a,_,1,z,rfl,rfl,bX.of Jo,rfl,s0,dx,p,z,o2,rfl,Kd,hp,hz.same sH,q _ sH⟩
noncomputable abbrev qw:Stmt:=(aY 30)
noncomputable abbrev qh:Stmt:=(aY 31)
noncomputable def nH (C:Addr):Sp:=λvs H Q _=>∃(s dx:Addr)(p:Int)(x:V),vs=[.ref s,x]/\H s=some (.ins C dx (cw p))/\FP p /\
 ((x=.non/\∀l,H l=none->Q (.ref l) (upd H l (.lst [])))\/∃l ys,x=.ref l/\H l=some (.lst ys)/\ys.length<4000/\(∀y∈ys,FJ p H y true)/\∀H',au H H'->Q (.ref l) H')
noncomputable def wD:Sp:=λvs H Q _=>∃(a b:Addr)(z:V)(xs:List V),vs=[.ref a]/\H a=some (.tup [.ref b,z])/\H b=some (.tup xs)/\∀t,H t=none->Q (.ref t) (upd H t (.tup [.int xs.length,.ref b]))
theorem jh:uQ ["field","terms","number","thing"] GD (ar qw):=dI (by decide +kernel)
theorem vB:uQ ["term"] ["term"] (ar qh):=dI (by decide +kernel)
theorem rB (F:E6 K "place_of_term" "place_of_term" qh f fd)(GP:mg "len"=none):Cy P w K mg base (bc P w) 1 f fd ["term"] wD:=by
 refine F.okN vB (λvs H Q E h=>?_) (λGL A outer s H vs Q E hr h=>?_)
 ·obtain⟨a,b,z,xs,rfl,_⟩:=h;rfl
 ·obtain⟨a,b,z,xs,rfl,ha,hb,q⟩:=h;refine⟨_,(ao (aw (@bq _ _ _ _ _ (@ah _ _ _ _ _ (aD bp (by rfl) GP PySem.boot_len (@ah _ _ _ _ _ (@aQ _ _ _ _ _ _ _ cn (pv 0) ak (λ_ _=>rfl)) af rfl)) (@ah _ _ _ _ _ (@aQ _ _ _ _ _ _ _ cn (pv 0) ak (λ_ _=>rfl)) af rfl) rfl)))),?_⟩;refine⟨_,rfl,a,_,0,_,rfl,rfl,bX.of ha,rfl,b,xs,rfl,.inr (bX.of hb),_,rfl,a,_,0,_,rfl,rfl,bX.of ha,rfl,d9,λt ht=>q t ht⟩
theorem rG {ft C:Addr}{IU:GF}(F:E6 K "checked_terms" "checked_terms" qw f fd)(GJ:mg "isinstance"=none)(GN:mg "list"=none)(GW:mg "enumerate"=none)
 (FT:Cy P w K mg base (bc P w) 4 ft IU qU (yg C))(bT:L2.aI K IU qU [])(mT:mg "is_term"=some (.ref ft))(kT:keepIn K (.ref ft)=true):Cy P w K mg base (bc P w) 5 f fd GD (nH C):=by
 refine F.okN jh (λvs H Q E h=>?_) (λGL A outer s H vs Q E hr h=>?_)
 ·obtain⟨s,dx,p,x,rfl,_⟩:=h;rfl
 ·obtain⟨s0,dx,p,x,rfl,hs,hp,h⟩:=h;have LP:pL 4 _:=hr.mono (by decide)
  refine⟨_,(aj (aV (@aB _ _ _ _ _ _ _ _ yT (pv 1) b7 (aA _)) (ao (aw (@az _ _ _ _ af))) aE)
   (aj (aV (bM (cf (aD bf (by rfl) GJ (by rfl) (@ah _ _ _ _ _ (pv 1) (@ah _ _ _ _ _ (dh (by rfl) GN (by rfl) (show aG (.ty "list") (.type "list") from rfl)) af rfl) rfl)))) (ao (qg)) aE)
   (aj (gh PassesOwn.never rfl (sQ (pv 1) (by rfl) GW) (dQ rfl (aJ (aH (i:=2) jh.nd rfl (Or.inl rfl)) (aJ (aH (i:=3) jh.nd rfl (Or.inl rfl)) cm)))
   (ao (aV (bM (cf (ay FT LP (by rfl) mT kT bT .nil ag (@ah _ _ _ _ _ (pv 0) (@ah _ _ _ _ _ (pv 3) af rfl) rfl)))) (ao (qg)) aE)))
   (ao (aw (pv 1)))))),?_⟩
  rcases h with⟨rfl,q⟩|⟨l,ys,rfl,hl,hlen,Uo,q⟩
  ·refine⟨_,rfl,rfl,_,rfl,?_⟩;exact aZ ⟨Nat.zero_le _,λl hl=>q l hl⟩
  ·refine⟨_,rfl,rfl,_,rfl,aS ?_⟩;refine⟨_,rfl,.ref l,.ty "list",_,_,_,rfl,rfl,.of (.lst hl),rfl,_,rfl,aS ?_⟩;refine⟨_,rfl,l,ys,rfl,aM.of hl,?_⟩;refine⟨λi m σ' H'=>m=ys.length-i/\i<=ys.length/\au H H'/\∃o1 o2,σ'=[some (.ref s0),some (.ref l),o1,o2],⟨ys.length,by simp,Nat.zero_le _,au.refl _,none,none,rfl⟩,?_⟩;rintro i m σ' H' ⟨rfl,hi,sH,o1,o2,rfl⟩;have HV:=sH _ _ hl
   by_cases GV:i<ys.length
   ·refine .inr ⟨⟨ys,ys[i],aM.of HV,by simp[GV]⟩,λσ' H'=>i+1<=ys.length/\au H H'/\∃o1 o2,σ'=[some (.ref s0),some (.ref l),o1,o2],?_,λv H2 hv=>?_⟩
    ·rintro σ' H' ⟨h1,h2,h3⟩;exact⟨ys.length-(i+1),by omega,rfl,h1,h2,h3⟩
    ·obtain⟨T,y,hy,hT,rfl,rfl⟩:=hv;have ey:=hy ys (aM.of HV)
     have s2:au H (upd H' T (.tup [.int i,y])):=λc u e=>by
      rw[aq (av (sH _ _ e) hT)];exact sH _ _ e
     have ty:=(Uo y (List.mem_of_getElem? ey)).same s2;refine⟨T,_,rfl,bX.of ae,rfl,_,_,rfl,_,_,rfl,rfl,?_⟩;refine⟨_,rfl,_,rfl,s0,dx,p,y,true,rfl,s2 _ _ hs,hp,ty,λH3 s3=>⟨_,rfl,aS ?_⟩⟩;exact⟨GV,λc u e=>s3 _ _ (s2 _ _ e),_,_,rfl⟩
   ·refine .inl ⟨⟨ys,aM.of HV,by omega⟩,?_⟩;exact⟨_,rfl,q _ sH⟩
end K16
namespace Srt
open PySem PySem.W PyProof.Rows
structure Pm (n:Nat)(r:Nat->Nat)(p:Array Nat):Prop where
 size:p.size=n
 lt:∀k,k<n->p.getD k 0<n
 ne:∀k l,k<n->l<n->k≠l->r (p.getD k 0)≠r (p.getD l 0)
 perm:p.Perm (List.range n).toArray
variable {p:Array Nat}{k m j:Nat}
section
variable {n:Nat}{r:Nat->Nat}
theorem Pm.nq {n:Nat}{r:Nat->Nat}(P:Pm n r p)(k l:Nat)(hk:k<n)(hl:l<n)(h:k≠l):p.getD k 0≠p.getD l 0:=λz=>P.ne k l hk hl h (by rw[z])
theorem getD_some (h:k<p.size):p[k]?=some (p.getD k 0):=by simp[Array.getD,h]
theorem uu (inj:∀i j,i<n->j<n->i≠j->r i≠r j)(hp:p.Perm (List.range n).toArray):Pm n r p:=by
 have hl:p.toList.Perm (List.range n):=by simpa using hp.toList
 have hs:p.size=n:=by rw[<-Array.length_toList,hl.length_eq,List.length_range]
 have GV:∀k,k<n->p.getD k 0<n:=λk hk=>by
  have hm:p.getD k 0∈p.toList:=by
   rw[show p.getD k 0=p[k]'(by omega) by simp[Array.getD,hs,hk]];exact Array.mem_toList_iff.mpr (Array.getElem_mem _)
  exact List.mem_range.mp (hl.mem_iff.mp hm)
 refine⟨hs,GV,λk l hk HV HH=>inj _ _ (GV k hk) (GV l HV) λe=>HH ?_,hp⟩;have nd:p.toList.Nodup:=hl.nodup_iff.mpr List.nodup_range
 have e1:p.toList[k]'(by simp;omega)=p.toList[l]'(by simp;omega):=by
  rw[show p.getD k 0=p[k]'(by omega) by simp[Array.getD,hs,hk],show p.getD l 0=p[l]'(by omega) by simp[Array.getD,hs,HV]] at e;simpa using e
 have pw:=List.pairwise_iff_getElem.mp (show p.toList.Pairwise (· ≠ ·) from nd)
 rcases Nat.lt_trichotomy k l with z|z|z
 ·exact absurd e1 (pw k l _ _ z)
 ·exact z
 ·exact absurd e1.symm (pw l k _ _ z)
noncomputable def Up (r:Nat->Nat)(p:Array Nat)(m:Nat):Prop:=∀i j,i<j->j<m->r (p.getD i 0)<r (p.getD j 0)
noncomputable def Dn (r:Nat->Nat)(p:Array Nat)(m:Nat):Prop:=∀i j,i<j->j<m->r (p.getD j 0)<r (p.getD i 0)
theorem Up.succ (h:Up r p m)(h1:1<=m)(e:r (p.getD (m-1) 0)<r (p.getD m 0)):Up r p (m+1):=λi j Im hj=>by
 by_cases z:j=m
 ·subst z
  by_cases z2:i=j-1
  ·subst z2;exact e
  ·exact Nat.lt_trans (h i (j-1) (by omega) (by omega)) e
 ·exact h i j Im (by omega)
theorem Dn.succ (h:Dn r p m)(h1:1<=m)(e:r (p.getD m 0)<r (p.getD (m-1) 0)):Dn r p (m+1):=λi j Im hj=>by
 by_cases z:j=m
 ·subst z
  by_cases z2:i=j-1
  ·subst z2;exact e
  ·exact Nat.lt_trans e (h i (j-1) (by omega) (by omega))
 ·exact h i j Im (by omega)
theorem uv (hm:m<=p.size)(hk:k<p.size):(kas_rev p 0 m).getD k 0=if k<m then p.getD (m-1-k) 0 else p.getD k 0:=by
 have e:=getElem?_mirror_all (xs:=p) (i:=0) hm k;have hs:(kas_rev p 0 m).size=p.size:=mirror_size _ _ _ _;have e2:(kas_rev p 0 m)[k]?=some ((kas_rev p 0 m).getD k 0):=getD_some (by rw[hs];exact hk)
 have e3:(kas_rev p 0 m)[k]?=if 0<=k/\k<m then p[0+m-1-k]? else p[k]?:=e
 rw[e2] at e3
 by_cases h:k<m
 ·rw[if_pos ⟨Nat.zero_le _,h⟩,show 0+m-1-k=m-1-k by omega,getD_some (by omega)] at e3;rw[if_pos h];exact Option.some.inj e3
 ·rw[if_neg (λz=>h z.2),getD_some hk] at e3;rw[if_neg h];exact Option.some.inj e3
theorem Dn.rev (h:Dn r p m)(hm:m<=p.size):Up r (kas_rev p 0 m) m:=λi j Im hj=>by
 rw[uv hm (by omega),uv hm (by omega),if_pos (by omega),if_pos hj];exact h _ _ (by omega) (by omega)
variable {cmp:Nat->Nat->(Bool->Shared->Prop)->Shared->Prop}{s:GH}
theorem sy (hc:∀i j C,i<n->j<n->i≠j->C (decide (r i<r j)) s->cmp i j C s)(P:Pm n r p){Q:Nat->Shared->Prop}:∀(f m:Nat),1<=m->m+f=n->Up r p m →
 (∀m',m<=m'->m'<=n->Up r p m'->(m'<n->r (p.getD m' 0)<r (p.getD (m'-1) 0))->Q m' s)->(kas_asc p f m).kasWp cmp Q s
 |0,m,h1,hm,hu,hQ=>hQ m (Nat.le_refl _) (by omega) hu λh=>by omega
 |f+1,m,h1,hm,hu,hQ=>by
  refine hc _ _ _ (P.lt m (by omega)) (P.lt (m-1) (by omega)) (P.nq m (m-1) (by omega) (by omega) (by omega)) ?_;show((if decide (r (p.getD m 0)<r (p.getD (m-1) 0))=true then KasT.ret m else kas_asc p f (m+1)).kasWp cmp Q s)
  by_cases h:r (p.getD m 0)<r (p.getD (m-1) 0)
  ·rw[if_pos (decide_eq_true h)];exact hQ m (Nat.le_refl _) (by omega) hu λ_=>h
  ·rw[if_neg (by simpa using h)];have ne:=P.ne m (m-1) (by omega) (by omega) (by omega);exact sy hc P f (m+1) (by omega) (by omega) (hu.succ h1 (by omega)) λm' h2=>hQ m' (by omega)
theorem uL (hc:∀i j C,i<n->j<n->i≠j->C (decide (r i<r j)) s->cmp i j C s)(P:Pm n r p){Q:Array Nat×Nat×Nat->Shared->Prop}:∀(f m:Nat),1<=m->m+f=n->Dn r p m →
 (∀m',m<=m'->m'<=n->Dn r p m'->Q (p,m',0) s)->(kas_desc f p m 0).kasWp cmp Q s
 |0,m,h1,hm,hu,hQ=>hQ m (Nat.le_refl _) (by omega) hu
 |f+1,m,h1,hm,hu,hQ=>by
  refine hc _ _ _ (P.lt m (by omega)) (P.lt (m-1) (by omega)) (P.nq m (m-1) (by omega) (by omega) (by omega)) ?_
  by_cases h:r (p.getD m 0)<r (p.getD (m-1) 0)
  ·rw[decide_eq_true h];exact uL hc P f (m+1) (by omega) (by omega) (hu.succ h1 h) λm' h2=>hQ m' (by omega)
  ·rw[decide_eq_false h];refine hc _ _ _ (P.lt (m-1) (by omega)) (P.lt m (by omega)) (P.nq (m-1) m (by omega) (by omega) (by omega)) ?_;have ne:=P.ne m (m-1) (by omega) (by omega) (by omega);rw[decide_eq_true (show r (p.getD (m-1) 0)<r (p.getD m 0) by omega)];exact hQ m (Nat.le_refl _) (by omega) hu
theorem xP (inj:∀i j,i<n->j<n->i≠j->r i≠r j)(hc:∀i j C,i<n->j<n->i≠j->C (decide (r i<r j)) s->cmp i j C s)(P:Pm n r p){Q:Nat×Array Nat->Shared->Prop}(h1:1<=m)(hm:m<=n)(hd:Dn r p m)
 (hQ:∀m' p',m'<=n->1<=m'->Pm n r p'->Up r p' m'->Q (m',p') s):(kas_tail3 m n p).kasWp cmp Q s:=by
 unfold kas_tail3;rw[KasT.kasWp_bind];have P':Pm n r (kas_rev p 0 m):=uu inj ((mirror_perm _ _ _ _).trans P.perm);exact sy hc P' (n-m) m h1 (by omega) (hd.rev (by rw[P.size];exact hm)) λm' h2 h3 h4 _=>hQ m' _ h3 (by omega) P' h4
theorem wG (inj:∀i j,i<n->j<n->i≠j->r i≠r j)(hc:∀i j C,i<n->j<n->i≠j->C (decide (r i<r j)) s->cmp i j C s)(h0:1<=n)(P:Pm n r p){Q:Nat×Array Nat->Shared->Prop}
 (hQ:∀m' p',m'<=n->1<=m'->Pm n r p'->Up r p' m'->Q (m',p') s):(kas_count n p).kasWp cmp Q s:=by
 unfold kas_count;rw[KasT.kasWp_bind];refine sy hc P (n-1) 1 (Nat.le_refl _) (by omega) (λi j Im hj=>by omega) λm h1 h2 h3 h4=>?_
 by_cases e:m=n
 ·subst e;rw[if_pos (by simp)];exact hQ _ _ (Nat.le_refl _) h1 P h3
 ·rw[if_neg (by simpa using e)]
  by_cases h5:m>1
  ·rw[if_pos h5];refine hc _ _ _ (P.lt 0 (by omega)) (P.lt (m-1) (by omega)) (P.nq 0 (m-1) (by omega) (by omega) (by omega)) ?_;rw[decide_eq_true (h3 0 (m-1) (by omega) (by omega))];exact hQ _ _ h2 h1 P h3
  ·rw[if_neg h5]
   have e1:m=1:=by omega
   subst e1;unfold kas_descPart;rw[KasT.kasWp_bind];have d2:Dn r p (1+1):=Dn.succ (λi j Im hj=>by omega) (Nat.le_refl _) (h4 (by omega));refine uL hc P (n-(1+1)) (1+1) (by omega) (by omega) d2 λm' h6 h7 h8=>?_;show((if 0>0 then _ else kas_tail3 m' n p).kasWp cmp Q s);rw[if_neg (by omega)];exact xP inj hc P (by omega) h7 h8 hQ
theorem lR (hc:∀i j C,i<n->j<n->i≠j->C (decide (r i<r j)) s->cmp i j C s)(P:Pm n r p){Q:Nat->Shared->Prop}(hk:k<n)(hu:Up r p k):∀(f l q:Nat),l<=q->q<=k->q-l<=f->(∀j,j<l->r (p.getD j 0)<r (p.getD k 0))->(∀j,q<=j->j<k->r (p.getD k 0)<r (p.getD j 0)) →
 (∀l',l'<=k->(∀j,j<l'->r (p.getD j 0)<r (p.getD k 0))->(∀j,l'<=j->j<k->r (p.getD k 0)<r (p.getD j 0))->Q l' s)->(kas_place p k f l q).kasWp cmp Q s
 |0,l,q,h1,h2,h3,h4,h5,hQ=>hQ l (by omega) h4 λj h6 h7=>h5 j (by omega) h7
 |f+1,l,q,h1,h2,h3,h4,h5,hQ=>by
  unfold kas_place
  by_cases h:l ≥ q
  ·rw[if_pos h];exact hQ l (by omega) h4 λj h6 h7=>h5 j (by omega) h7
  ·rw[if_neg h];refine hc _ _ _ (P.lt k hk) (P.lt ((l+q)/2) (by omega)) (P.nq k ((l+q)/2) hk (by omega) (by omega)) ?_;have ne:=P.ne k ((l+q)/2) hk (by omega) (by omega)
   by_cases z:r (p.getD k 0)<r (p.getD ((l+q)/2) 0)
   ·rw[decide_eq_true z];refine lR hc P hk hu f l ((l+q)/2) (by omega) (by omega) (by omega) h4 (λj h6 h7=>?_) hQ
    by_cases e:j=(l+q)/2
    ·subst e;exact z
    ·exact Nat.lt_trans z (hu _ _ (by omega) h7)
   ·rw[decide_eq_false z];refine lR hc P hk hu f ((l+q)/2+1) q (by omega) h2 (by omega) (λj h6=>?_) h5 hQ
    by_cases e:j=(l+q)/2
    ·subst e;omega
    ·have:=hu j ((l+q)/2) (by omega) (by omega);omega
theorem sX {l:Nat}(hk:k<p.size)(hl:l<=k)(hj:j<p.size):(bubble p k (k-l)).getD j 0=if j=l then p.getD k 0 else if l<j/\j<=k then p.getD (j-1) 0 else p.getD j 0:=by
 have e:=getElem?_bubble hk (k-l) (by omega) j;rw[show k-(k-l)=l by omega,getD_some (by rw[bubble_size];exact hj)] at e
 by_cases h1:j=l
 ·rw[if_pos h1,getD_some hk] at e;rw[if_pos h1];exact Option.some.inj e
 ·rw[if_neg h1] at e |-
  by_cases h2:l<j/\j<=k
  ·rw[if_pos h2,getD_some (by omega)] at e;rw[if_pos h2];exact Option.some.inj e
  ·rw[if_neg h2,getD_some hj] at e;rw[if_neg h2];exact Option.some.inj e
theorem xg (inj:∀i j,i<n->j<n->i≠j->r i≠r j)(hc:∀i j C,i<n->j<n->i≠j->C (decide (r i<r j)) s->cmp i j C s){Q:Array Nat->Shared->Prop}(hQ:∀p',Pm n r p'->Up r p' n->Q p' s):∀(f:Nat)(p:Array Nat)(k:Nat),Pm n r p->k+f=n->Up r p k->(kas_bin f p k).kasWp cmp Q s
 |0,p,k,P,hk,hu=>hQ p P (by rw[<-hk];exact hu)
 |f+1,p,k,P,hk,hu=>by
  unfold kas_bin;rw[KasT.kasWp_bind];refine lR hc P (by omega) hu k 0 k (Nat.zero_le _) (Nat.le_refl _) (by omega) (λj h=>by omega) (λj h1 h2=>by omega) λl h1 h2 h3=>?_;have P':Pm n r (bubble p k (k-l)):=uu inj ((bubble_perm _ _ _).trans P.perm);refine xg inj hc hQ f _ (k+1) P' (by omega) λi j Im hj=>?_;have sz:=P.size;rw[sX (by omega) h1 (by omega),sX (by omega) h1 (by omega)]
  by_cases e1:i=l
  ·rw[if_pos e1,if_neg (by omega),if_pos ⟨by omega,by omega⟩];exact h3 _ (by omega) (by omega)
  ·rw[if_neg e1]
   by_cases e2:j=l
   ·rw[if_pos e2,if_neg (by omega)];exact h2 _ (by omega)
   ·rw[if_neg e2]
    by_cases e3:l<j
    ·rw[if_pos (show l<j/\j<=k from⟨e3,by omega⟩)]
     by_cases e4:l<i
     ·rw[if_pos ⟨e4,by omega⟩];exact hu _ _ (by omega) (by omega)
     ·rw[if_neg (by omega)];exact hu _ _ (by omega) (by omega)
    ·rw[if_neg (by omega),if_neg (by omega)];exact hu _ _ Im (by omega)
theorem Af (inj:∀i j,i<n->j<n->i≠j->r i≠r j)(hc:∀i j C,i<n->j<n->i≠j->C (decide (r i<r j)) s->cmp i j C s)(h0:1<=n){Q:Array Nat->Shared->Prop}(hQ:∀p',Pm n r p'->Up r p' n->Q p' s):(kas_sort n).kasWp cmp Q s:=by
 unfold kas_sort;rw[KasT.kasWp_bind];refine wG inj hc h0 (uu inj (Array.Perm.refl _)) λm p h1 h2 P hu=>?_;show((if m<n then kas_bin (n-max m 1) p (max m 1) else KasT.ret p).kasWp cmp Q s)
 by_cases h:m<n
 ·rw[if_pos h,show max m 1=m by omega];exact xg inj hc hQ _ _ _ P (by omega) hu
 ·rw[if_neg h]
  have e:m=n:=by omega
  subst e;exact hQ p P hu
end
variable {n:Nat}
section
variable {prog:wM}{w:World}{A:Around}{E:wA}{s:GH}
noncomputable def zM (prog:wM)(w:World)(A:Around)(ks:oH)(r:Nat->Nat)(s:GH):Prop :=
 ∃κ,(∀Q:SortKind->Shared->Prop,Q κ s->wpAny (model prog w) A (keyKind' ks.toArray) Q (λ_ _=>False) s)/\∀i j C,i<ks.length->j<ks.length->i≠j->C (decide (r i<r j)) s->kas_ask prog w A κ ks i j C s
noncomputable def hZ (vs:oH)(p:Array Nat):List Value:=p.toList.map λi=>vs.getD i Value.none
theorem w6 (vs:oH):hZ vs (List.range vs.length).toArray=vs:=by
 unfold hZ;apply List.ext_getElem
 ·simp
 ·intro i h1 h2;simp[h2]
theorem gr (h:n<64):n<=sizeLine:=by rw[sizeLine_eq];omega
end
open L2
noncomputable abbrev Ky:=Int×List Int
noncomputable def lV (a b:Ky):Bool:=if a.1=b.1 then HT.cW a.2 b.2 else decide (a.1<b.1)
theorem jY:∀xs:List Int,HT.cW xs xs=false
 |[]=>rfl
 |x::xs=>by rw[HT.eF,if_pos rfl];exact jY xs
theorem mz:∀{xs ys zs:List Int},HT.cW xs ys=true->HT.cW ys zs=true->HT.cW xs zs=true
 |[],[],_,h,_=>by cases h
 |[],y::ys,[],_,h=>by cases h
 |[],y::ys,z::zs,_,_=>rfl
 |x::xs,[],_,h,_=>by cases h
 |x::xs,y::ys,[],_,h=>by cases h
 |x::xs,y::ys,z::zs,h1,h2=>by
  rw[HT.eF] at h1 h2 |-
  by_cases e1:x=y
  ·rw[if_pos e1] at h1
   by_cases e2:y=z
   ·rw[if_pos e2] at h2;rw[if_pos (e1.trans e2)];exact mz h1 h2
   ·rw[if_neg e2] at h2;rw[e1,if_neg e2];exact h2
  ·rw[if_neg e1] at h1;have l1:=of_decide_eq_true h1
   by_cases e2:y=z
   ·rw[<-e2,if_neg e1];exact h1
   ·rw[if_neg e2] at h2;have l2:=of_decide_eq_true h2;rw[if_neg (by omega)];exact decide_eq_true (by omega)
theorem nA:∀{xs ys:List Int},xs≠ys->HT.cW xs ys=true\/HT.cW ys xs=true
 |[],[],h=>absurd rfl h
 |[],y::ys,_=>.inl rfl
 |x::xs,[],_=>.inr rfl
 |x::xs,y::ys,h=>by
  rw[HT.eF,HT.eF]
  by_cases e:x=y
  ·subst e;rw[if_pos rfl,if_pos rfl];exact nA λz=>h (by rw[z])
  ·rw[if_neg e,if_neg (Ne.symm e)];simp only[decide_eq_true_eq];omega
theorem k8 (a:Ky):lV a a=false:=by unfold lV;rw[if_pos rfl];exact jY _
theorem jf {a b c:Ky}(h1:lV a b=true)(h2:lV b c=true):lV a c=true:=by
 unfold lV at h1 h2 |-
 by_cases e1:a.1=b.1
 ·rw[if_pos e1] at h1
  by_cases e2:b.1=c.1
  ·rw[if_pos e2] at h2;rw[if_pos (e1.trans e2)];exact mz h1 h2
  ·rw[if_neg e2] at h2;rw[e1,if_neg e2];exact h2
 ·rw[if_neg e1] at h1;have l1:=of_decide_eq_true h1
  by_cases e2:b.1=c.1
  ·rw[<-e2,if_neg e1];exact h1
  ·rw[if_neg e2] at h2;have l2:=of_decide_eq_true h2;rw[if_neg (by omega)];exact decide_eq_true (by omega)
theorem jc {a b:Ky}(h:a≠b):lV a b=true\/lV b a=true:=by
 unfold lV
 by_cases e:a.1=b.1
 ·rw[if_pos e,if_pos e.symm];exact nA λz=>h (Prod.ext e z)
 ·rw[if_neg e,if_neg (Ne.symm e)];simp only[decide_eq_true_eq];omega
noncomputable def cK (ks:List Ky)(i:Nat):Ky:=ks.getD i (0,[])
noncomputable def rk (ks:List Ky)(i:Nat):Nat:=(List.range ks.length).countP λj=>lV (cK ks j) (cK ks i)
theorem m8 {α:Type}{p q:α->Bool}:∀{l:List α},(∀x∈l,p x=true->q x=true)->(∃x∈l,q x=true/\p x=false)->l.countP p<l.countP q
 |[],_,⟨x,hx,_⟩=>by cases hx
 |a::l,h,⟨x,hx,h1,h2⟩=>by
  have le:∀l':List α,(∀x∈l',p x=true->q x=true)->l'.countP p<=l'.countP q:=λl' h'=>List.countP_mono_left h';rw[List.countP_cons,List.countP_cons]
  rcases List.mem_cons.mp hx with rfl|hx
  ·rw[if_pos h1,if_neg (by rw[h2];exact Bool.false_ne_true)];have:=le l λx hx=>h x (List.mem_cons_of_mem _ hx);omega
  ·have ih:=m8 (l:=l) (λx hx=>h x (List.mem_cons_of_mem _ hx)) ⟨x,hx,h1,h2⟩;have h0:=h a List.mem_cons_self
   cases e:p a with
   |false=>simp only[Bool.false_eq_true,if_false];omega
   |true=>rw[h0 e];simp only[if_true];omega
variable {ks:List Ky}
theorem iN {i:Nat}(hi:i<ks.length)(h:lV (cK ks i) (cK ks j)=true):rk ks i<rk ks j :=
 m8 (λl _ hl=>jf hl h) ⟨i,List.mem_range.mpr hi,h,k8 _⟩
theorem yd {i:Nat}(hi:i<ks.length)(hj:j<ks.length):decide (rk ks i<rk ks j)=lV (cK ks i) (cK ks j):=by
 cases e:lV (cK ks i) (cK ks j) with
 |true=>exact decide_eq_true (iN hi e)
 |false =>
  refine decide_eq_false λz=>?_
  by_cases k:cK ks i=cK ks j
  ·unfold rk at z;rw[k] at z;exact Nat.lt_irrefl _ z
  ·rcases jc k with h|h
   ·rw[e] at h;cases h
   ·exact Nat.lt_asymm z (iN hj h)
theorem Br (nd:ks.Nodup):∀i j,i<ks.length->j<ks.length->i≠j->rk ks i≠rk ks j:=λi j hi hj HH z=>by
 have k:cK ks i≠cK ks j:=λe=>by
  have e':ks[i]=ks[j]:=by
   unfold cK at e;simpa[hi,hj] using e
  have pw:=List.pairwise_iff_getElem.mp (show ks.Pairwise (· ≠ ·) from nd)
  rcases Nat.lt_or_gt_of_ne HH with l|l
  ·exact pw i j _ _ l e'
  ·exact pw j i _ _ l e'.symm
 rcases jc k with h|h
 ·have:=iN hi h;omega
 ·have:=iN hj h;omega
noncomputable def sW (K:Frag)(H:Hp)(x:V)(k:Ky):Prop:=∃a b rest,x=.ref a/\bX K H a (.int k.1 :: .ref b::rest)/\bX K H b (k.2.map V.int)
noncomputable def dU (K:Frag)(H:Hp):List V->List Ky->Prop
 |[],[]=>True
 |x::xs,k::ks=>sW K H x k/\dU K H xs ks
 |_,_=>False
variable {K:Frag}{H:Hp}
theorem dU.len :∀{xs:List V}{ks:List Ky},dU K H xs ks->xs.length=ks.length
 |[],[],_=>rfl
 |_::_,_::_,⟨_,r⟩=>congrArg (·+1) r.len
 |[],_::_,h=>h.elim
 |_::_,[],h=>h.elim
theorem dU.get :∀{xs:List V}{ks:List Ky}{i:Nat}{x:V},dU K H xs ks->xs[i]?=some x->sW K H x (cK ks i)
 |x::xs,k::ks,0,y,⟨h,_⟩,e=>by simp at e;subst e;exact h
 |x::xs,k::ks,i+1,y,⟨_,r⟩,e=>by
  have:=r.get (i:=i) (x:=y) (by simpa using e);simpa[cK] using this
 |[],[],i,y,_,e=>by simp at e
 |[],_::_,_,_,h,_=>h.elim
 |_::_,[],_,_,h,_=>h.elim
theorem ip :∀ns:List Int,bV K H (ns.map D.int) (ns.map V.int)
 |[]=>by unfold bV;rfl
 |n::ns=>by unfold bV;exact⟨_,_,rfl,by unfold aR;rfl,ip ns⟩
theorem v5 (ns:List Int):oW (.tup (ns.map D.int))<=1:=by
 unfold oW
 have:∀ms:List Int,lM (ms.map D.int)=0:=λms=>by
  induction ms with
  |nil=>unfold lM;rfl
  |cons m ms ih=>rw[List.map_cons];unfold lM;rw[ih];unfold oW;rfl
 rw[this];omega
theorem pH:∀ns ms:List Int,eJ (ns.map D.int) (ms.map D.int)=decide (ns=ms)
 |[],[]=>by simp;rfl
 |[],m::ms=>by simp;rfl
 |n::ns,[]=>by simp;rfl
 |n::ns,m::ms=>by
  show((n==m)&&eJ (ns.map D.int) (ms.map D.int))=_;rw[pH ns ms]
  by_cases e:n=m
  ·subst e;simp
  ·simp[e]
variable {xs:List V}{us:oH}
section
variable {X:Cx}{pins:List (Addr×Obj)}{σ:L2.St}{H:Hp}{s:GH}
theorem Ac {A:Around}{x y:V}{u v:Value}{k j:Ky}{C:Bool->Shared->Prop}{E:wA}(I:Inv X pins σ H s)(hA:A.units+2<cLine)(hx:sW X.K H x k)(hy:sW X.K H y j)(rx:aG x u)(ry:aG y v)(ne:k≠j)(h:C (lV k j) s):
 wpAny (model X.prog X.w) A (keyLt' (tuples' true) u v) C E s:=by
 obtain⟨a,b,rest,rfl,h1,h2⟩:=hx;obtain⟨a',b',YN,rfl,Ko,Nd⟩:=hy
 cases(show u=Value.ref a from rx)
 cases(show v=Value.ref a' from ry)
 obtain⟨its,r1,⟨o1,g1,_,n1,d1⟩,_⟩:=I.tuple h1;obtain⟨its',RW,⟨o1',Ub,_,n1',RX⟩,_⟩:=I.tuple Ko;refine kat_lt g1 d1 Ub RX ?_
 cases r1 with
 |cons q1 r1 =>
  cases r1 with
  |cons q2 r1 =>
   cases RW with
   |cons q1' RW =>
    cases RW with
    |cons q2' RW =>
     obtain⟨t,rfl⟩:=q1;obtain⟨t',rfl⟩:=q1'
     rename_i w2 _ w2' _
     cases(show w2=Value.ref b from q2)
     cases(show w2'=Value.ref b' from q2')
     show KatLex _ _ _ _ _ _ ((Value.int k.1 t,Value.int j.1 t'):: (Value.ref b,Value.ref b'):: _) 0 s;refine kat_cons (SeqAt.EqAt.int_int k.1 t j.1 t' X.prog X.w _ _ ?_)
     have klt_def:lV k j=if k.1=j.1 then HT.cW k.2 j.2 else decide (k.1<j.1):=rfl
     refine kat_go (λe=>kat_yes ?_) λe=>kat_no ?_
     ·have e1:k.1=j.1:=by simpa using e
      have n2:k.2≠j.2:=λz=>ne (Prod.ext e1 z);have dd:=(ng I 1 A (.tup (k.2.map D.int)) (.tup (j.2.map D.int)) (.ref b) (.ref b') (.ref b) (.ref b') (v5 _) (by omega) (by unfold aR;exact⟨b,_,rfl,h2,ip _⟩) (by unfold aR;exact⟨b',_,rfl,Nd,ip _⟩) rfl rfl).2.1;have e2:iq (.tup (k.2.map D.int)) (.tup (j.2.map D.int))=false:=(pH _ _).trans (decide_eq_false n2);rw[e2] at dd;refine kat_cons (dd X.prog X.w _ _ (kat_no ?_));rw[klt_def,if_pos e1] at h;obtain⟨GR,p2,t2,_⟩:=I.tuple h2;obtain⟨YO,p2',t2',_⟩:=I.tuple Nd;exact kat_one _ _ (HT.abN t2 t2' (lq p2) (lq p2') (by omega) h)
     ·have e1:k.1≠j.1:=by simpa using e
      rw[klt_def,if_neg e1] at h;exact oneLt_int h
theorem zx (I:Inv X pins σ H s)(xs:List V):∀(ks:List Ky)(us:oH),dU X.K H xs ks->aK xs us->∃fs:List Value,KatTups s.heap us fs/\fs.length=us.length/\∀f∈fs,∃i t,f=Value.int i t:=by
 induction xs with
 |nil =>
  intro ks us _ r
  cases r
  exact⟨[],.nil,rfl,λf hf=>by cases hf⟩
 |cons x xs ih =>
  intro ks us h r
  cases ks with
  |nil=>exact h.elim
  |cons k ks =>
   cases r with
   |cons rx rv =>
    rename_i u us
    obtain⟨⟨a,b,rest,e,h1,_⟩,hr⟩:=h;obtain⟨fs,t,hl,hf⟩:=ih ks us hr rv;subst e
    cases(show u=Value.ref a from rx)
    obtain⟨its,r1,⟨o1,g1,c1,n1,d1⟩,_⟩:=I.tuple h1
    cases r1 with
    |cons q1 r1 =>
     obtain⟨tk,rfl⟩:=q1;refine⟨Value.int k.1 tk::fs,.cons g1 c1 d1 rfl t,by simp[hl],λf hf'=>?_⟩
     rcases List.mem_cons.mp hf' with rfl|z
     ·exact⟨_,_,rfl⟩
     ·exact hf f z
theorem rS {A:Around}(I:Inv X pins σ H s)(hA:A.units+2<cLine)(hk:dU X.K H xs ks)(rv:aK xs us)(nd:ks.Nodup)(h2:2<=us.length):zM X.prog X.w A us (rk ks) s:=by
 obtain⟨fs,t,hl,hf⟩:=zx I xs ks us hk rv;have pU:=hk.len;have E3:=rv.length;refine⟨tuples' true,λQ hq=>kat_kind (T:=Value.type "int") t (by omega) (λv hv=>?_) (by decide) hq,λi j C hi hj HH hc=>?_⟩
 ·obtain⟨i,tk,rfl⟩:=hf v hv;exact .now
 ·have gi:∃x,xs[i]?=some x/\aG x (us.getD i .none):=by
   have K3:i<xs.length:=by omega
   obtain⟨u,e,r⟩:=rv.get (i:=i) (x:=xs[i]) (by simp[K3]);refine⟨xs[i],by simp[K3],?_⟩;rw[List.getD_eq_getElem?_getD,e];exact r
  have gj:∃x,xs[j]?=some x/\aG x (us.getD j .none):=by
   have YQ:j<xs.length:=by omega
   obtain⟨u,e,r⟩:=rv.get (i:=j) (x:=xs[j]) (by simp[YQ]);refine⟨xs[j],by simp[YQ],?_⟩;rw[List.getD_eq_getElem?_getD,e];exact r
  obtain⟨x,ex,rx⟩:=gi;obtain⟨y,ey,ry⟩:=gj;rw[yd (by omega) (by omega)] at hc
  have kne:cK ks i≠cK ks j:=λz=>by
   have e':ks[i]'(by omega)=ks[j]'(by omega):=by
    unfold cK at z;simpa[show i<ks.length by omega,show j<ks.length by omega] using z
   have pw:=List.pairwise_iff_getElem.mp (show ks.Pairwise (· ≠ ·) from nd)
   rcases Nat.lt_or_gt_of_ne HH with l|l
   ·exact pw i j _ _ l e'
   ·exact pw j i _ _ l e'.symm
  exact Ac I hA (hk.get ex) (hk.get ey) rx ry kne hc
end
section
variable {α:Type}
noncomputable def ma (k:Ky)(x:α):List (Ky×α)->List (Ky×α)
 |[]=>[(k,x)]
 |(j,y):: r=>if lV k j=true then(k,x):: (j,y):: r else(j,y):: ma k x r
noncomputable def fG:List (Ky×α)->List (Ky×α)
 |[]=>[]
 |(k,x):: r=>ma k x (fG r)
theorem ja (k:Ky)(x:α):∀l:List (Ky×α),(ma k x l).Perm ((k,x):: l)
 |[]=>.refl _
 |(j,y):: r=>by
  unfold ma
  split
  ·exact .refl _
  ·exact((ja k x r).cons _).trans (.swap _ _ _)
theorem dA:∀l:List (Ky×α),(fG l).Perm l
 |[]=>.refl _
 |(k,x):: r=>(ja k x _).trans ((dA r).cons _)
noncomputable def Cm (l:List (Ky×α)):Prop:=l.Pairwise λa b=>lV a.1 b.1=true
theorem uz {k:Ky}{x:α}:∀{l:List (Ky×α)},Cm l->(∀p∈l,p.1≠k)->Cm (ma k x l)
 |[],_,_=>List.pairwise_singleton _ _
 |(j,y):: r,h,hn=>by
  obtain⟨h1,h2⟩:=List.pairwise_cons.mp h;unfold ma
  by_cases e:lV k j=true
  ·rw[if_pos e];refine List.pairwise_cons.mpr ⟨λp hp=>?_,h⟩
   rcases List.mem_cons.mp hp with rfl|hp
   ·exact e
   ·exact jf e (h1 p hp)
  ·rw[if_neg e];have jk:lV j k=true:=(jc (hn _ List.mem_cons_self)).resolve_right e;refine List.pairwise_cons.mpr ⟨λp hp=>?_,uz h2 λp hp=>hn p (List.mem_cons_of_mem _ hp)⟩
   rcases List.mem_cons.mp ((ja k x r).mem_iff.mp hp) with rfl|hp
   ·exact jk
   ·exact h1 p hp
theorem ql:∀{l:List (Ky×α)},(l.map (·.1)).Nodup->Cm (fG l)
 |[],_=>.nil
 |(k,x):: r,h=>by
  obtain⟨h1,h2⟩:=List.nodup_cons.mp h;exact uz (ql h2) λp hp z=>h1 (z▸List.mem_map_of_mem (f:=(·.1)) ((dA r).mem_iff.mp hp))
theorem m5:∀{l1 l2:List (Ky×α)},Cm l1->Cm l2->l1.Perm l2->l1=l2
 |[],l2,_,_,p=>(List.nil_perm.mp p).symm
 |a::l1,[],_,_,p=>(List.nil_perm.mp p.symm)
 |a::l1,b::l2,h1,h2,p=>by
  obtain⟨u1,v1⟩:=List.pairwise_cons.mp h1;obtain⟨u2,v2⟩:=List.pairwise_cons.mp h2
  have e:a=b:=by
   rcases List.mem_cons.mp (p.mem_iff.mp List.mem_cons_self) with z|z
   ·exact z
   ·rcases List.mem_cons.mp (p.mem_iff.mpr (List.mem_cons_self (a:=b) (l:=l2))) with w|w
    ·exact w.symm
    ·have c1:=u2 a z;have c2:=u1 b w;have c3:=jf c1 c2;rw[k8] at c3
     cases c3
  subst e;rw[m5 v1 v2 (List.Perm.cons_inv p)]
theorem yR {l1 l2:List (Ky×α)}(nd:(l2.map (·.1)).Nodup)(h:Cm l1)(p:l1.Perm l2):l1=fG l2:=m5 h (ql nd) (p.trans (dA l2).symm)
end
noncomputable def DA (xs:List V)(p:Array Nat):List V:=p.toList.map λi=>xs.getD i .non
theorem zb (rv:aK xs us){r:Nat->Nat}(P:Pm n r p)(hn:n<=xs.length):aK (DA xs p) (hZ us p):=by
 have key:∀l:List Nat,(∀i∈l,i<xs.length)->aK (l.map λi=>xs.getD i .non) (l.map λi=>us.getD i Value.none):=by
  intro l
  induction l with
  |nil=>intro _;exact .nil
  |cons i l ih =>
   intro h;have hi:=h i List.mem_cons_self;obtain⟨u,e,r⟩:=rv.get (i:=i) (x:=xs[i]) (by simp[hi]);refine .cons ?_ (ih λj hj=>h j (List.mem_cons_of_mem _ hj));show aG (xs.getD i .non) (us.getD i Value.none);rw[List.getD_eq_getElem?_getD,List.getD_eq_getElem?_getD,e,show xs[i]?=some xs[i] by simp[hi]];exact r
 refine key p.toList λi hi=>?_
 have z:i∈(List.range n):=by
  have pl:p.toList.Perm (List.range n):=by simpa using P.perm.toList
  exact pl.mem_iff.mp hi
 have:=List.mem_range.mp z;omega
theorem zk (hl:xs.length=ks.length)(nd:ks.Nodup)(P:Pm xs.length (rk ks) p)(U:Up (rk ks) p xs.length):DA xs p=(fG (ks.zip xs)).map (·.2):=by
 have pl:p.toList.Perm (List.range xs.length):=by simpa using P.perm.toList
 have e1:(List.range xs.length).map (λi=>(cK ks i,xs.getD i V.non))=ks.zip xs:=by
  apply List.ext_getElem
  ·simp[hl]
  ·intro i h1 h2
   have hi:i<xs.length:=by simpa using h1
   have hk:i<ks.length:=by omega
   simp[cK,hi,hk]
 have z:p.toList.map (λi=>(cK ks i,xs.getD i V.non))=fG (ks.zip xs):=by
  refine yR ?_ ?_ ?_
  ·rw[List.map_fst_zip (by omega)];exact nd
  ·unfold Cm;rw[List.pairwise_map];refine List.pairwise_iff_getElem.mpr λi j hi hj Im=>?_;have sz:=P.size;rw[Array.length_toList] at hi hj;have u:=U i j Im (by omega)
   have gi:p.getD i 0=p.toList[i]:=by simp[Array.getD,hi]
   have gj:p.getD j 0=p.toList[j]:=by simp[Array.getD,hj]
   rw[gi,gj] at u
   have bi:p.toList[i]<ks.length:=by rw[<-gi,<-hl];exact P.lt i (by omega)
   have bj:p.toList[j]<ks.length:=by rw[<-gj,<-hl];exact P.lt j (by omega)
   rw[<-yd bi bj];exact decide_eq_true u
  ·exact(pl.map _).trans (by rw[e1])
 rw[<-z,List.map_map];rfl
noncomputable def nM (sp:Sp):List V->Hp->(List V->Hp->Prop)->Prop
 |[],H,R=>R [] H
 |x::xs,H,R=>sp [x] H (λk H1=>nM sp xs H1 λks H2=>R (k::ks) H2) λ_ _ _=>False
variable {ob:Obj}
section
variable {X:Cx}{pins:List (Addr×Obj)}{σ:L2.St}{H:Hp}{s:GH}
theorem vj {D:Addr}{o:HO}(I:Inv X pins σ H s)(f:di X pins H D)(hD:X.s₀.heap.objs.size<=D)(new:ba X.prog X.w (upd H D o) s.heap D o):Inv X pins σ (upd H D o) s:=by
 obtain⟨f0,f1,f2,f3,f4,f5⟩:=f;have u:=I.base;refine⟨I.ok,I.os,I.bare,⟨u.keep,u.slot,λb' o' e n hx=>?_,u.there,λb' xs e=>?_,λb' o' u' e=>?_,λb' ps e=>?_⟩,I.loc,I.cell,?_,λx c e=>?_,λp hp=>?_,d8 I.hok f0 new,I.len⟩
 ·rw[aq (Nat.ne_of_lt (Nat.lt_of_lt_of_le (Heap.lt_size e) hD))];exact u.free b' o' e n hx
 ·rw[aq (av (u.aan b' xs e) f0)];exact u.aan b' xs e
 ·rw[aq (av (u.aam b' o' u' e) f0)];exact u.aam b' o' u' e
 ·obtain⟨m,q⟩:=u.aas b' ps e;exact⟨m,by rw[aq (av q f0)];exact q⟩
 ·rw[aq (Ne.symm f1)];exact I.free
 ·rw[aq (f4 x c e)];exact I.aal x c e
 ·obtain⟨e,n,r⟩:=I.pin p hp;exact⟨e,by rw[aq (f5 p hp)];exact n,r⟩
theorem zR {b c:Addr}(f:di X pins H b)(h:c≠b):di X (pins++[(c,ob)]) H b:=by
 obtain⟨f0,f1,f2,f3,f4,f5⟩:=f;refine⟨f0,f1,f2,f3,f4,λp hp=>?_⟩;rw[<-List.append_assoc] at hp
 rcases List.mem_append.mp hp with z|z
 ·exact f5 p z
 ·have e:p=(c,ob):=by simpa using z
  subst e;exact h
theorem oR {H':Hp}{b:Addr}(f:di X pins H b)(h:H' b=none):di X pins H' b:=⟨h,f.2⟩
theorem tU {b:Addr}(I:Inv X pins σ H s)(f:di X pins H b)(e:s.heap.get? b=some ob)(d:∀v,ob.data≠.cell v):Inv X (pins++[(b,ob)]) σ H s:=I.aaz λp hp=>by
 rcases List.mem_append.mp hp with z|z
 ·exact I.pin p (List.mem_append_right _ z)
 ·have e1:p=(b,ob):=by simpa using z
  subst e1;exact⟨e,f.1,f.2.1,f.2.2.1,d⟩
theorem mY {b:Addr}(I:Inv X (pins++[(b,ob)]) σ H s):Inv X pins σ H s:=I.aaz λp hp=>I.pin p (List.mem_append_right _ (List.mem_append_left _ hp))
theorem yY {b:Addr}(I:Inv X (pins++[(b,ob)]) σ H s):s.heap.get? b=some ob/\H b=none:=by
 obtain⟨e,n,_⟩:=I.pin (b,ob) (List.mem_append_right _ (List.mem_append_right _ (by simp)));exact⟨e,n⟩
end
theorem kr {c:String}{xs:BU}:∀v,(seqObj c xs n).data≠.cell v:=λv z=>by cases z
variable {s:GH}{Q:VK}
section
variable {X:Cx}{pins:List (Addr×Obj)}{σ:L2.St}{k:Nat}{f:Addr}{fd:GF}{ps:xQ}{sp:Sp}{A:Around}{E:wA}
theorem xW {x:V}{u:Value}(F:Cy X.prog X.w X.K X.mg X.base (bc X.prog X.w) k f fd ps sp)(hr:pL k A)(hA:∀H s,Inv X pins σ H s->CT X.prog X.w X.K X.mg X.base A X.stack s H)(hb:aI X.K fd ps [])(I:Inv X pins σ H s)(r:aG x u)(h:sp [x] H Q λ_ _ _=>False):
 wpAny (model X.prog X.w) A (call (.ref f) [u]) (EP X pins σ Q) (λ_ _=>False) s:=by
 have hl:([u]:oH).length+([]:oH).length=ps.length:=by have:=F.len _ _ _ _ h;simpa using this
 have bd:=hb s [u] I.kIn hl;rw[List.append_nil] at bd;refine wpAny_call (codeAny_mono (F.run A X.stack s H ⟨[u],[]⟩ [u] [x] Q _ hr (hA H s I) bd (.cons r .nil) h) λres s' hq=>?_)
 cases res with
 |error e =>
  obtain⟨a,cls,a0,B,d,H',_,_,_,_,hE⟩:=hq;exact hE.elim
 |ok fl =>
  cases fl with
  |ret v=>exact I.after hq
  |next=>exact False.elim hq
  |brk=>exact False.elim hq
  |cont=>exact False.elim hq
end
noncomputable abbrev kx (X:Cx)(xs:List V)(Q:VK):List V->Hp->Prop:=λks H2=>∃kz,dU X.K H2 ks kz/\kz.Nodup/\∀D,H2 D=none->Q (.ref D) (upd H2 D (.lst ((fG (kz.zip xs)).map (·.2))))
section
variable {X:Cx}{pins:List (Addr×Obj)}{σ:L2.St}{k:Nat}{f:Addr}{fd:GF}{ps:xQ}{sp:Sp}{A:Around}{E:wA}
theorem AG {ks vs:oH}(h:ks.length=vs.length):((ks.toArray.zip vs.toArray).map (·.2))=vs.toArray:=by
 apply Array.toList_inj.mp;rw[Array.toList_map,ksk_zip];simp only[List.toList_toArray] at *;exact List.map_snd_zip (by omega)
theorem vC {D kS:Addr}{e1 c:Nat}{kV:List V}{ks:oH}{P:PySem.Fin->Shared->Prop}(hA:A.units+2<cLine)(hD:X.s₀.heap.objs.size<=D)(fD:di X pins H D)(fS:di X pins H kS)(ne:kS≠D)
 (I:Inv X pins σ H s)(eD:s.heap.get? D=some (seqObj "list" #[] e1))(eS:s.heap.get? kS=some (seqObj "list" ks.toArray c))(rx:aK xs us)(LQ:aK kV ks)(hl:kV.length=xs.length)(h64:xs.length<64)(w:kx X xs Q kV H)
 (hP:∀s',EP X pins σ Q (.ref D) s'->P (.done (.ret .none)) s'):wpAny (model X.prog X.w) A (ksk_end D false us.toArray e1 (.ref kS) ks.toArray) P E s:=by
 obtain⟨kz,hk,nd,q⟩:=w;have l1:=rx.length;have l2:=LQ.length;have l3:=hk.len;have inj:=Br nd
 have fin:∀p,Pm xs.length (rk kz) p->Up (rk kz) p xs.length->∀st:SortSt,(arrOf st).map (·.2)=(hZ us p).toArray->failedOf st=none->wpAny (model X.prog X.w) A (ksk_tail D false e1 (.ref kS) st) P E s:=λp pm up st Uq hf=>by
  have Ur:=zb rx pm (Nat.le_refl _);rw[zk (by omega) nd pm up] at Ur
  have hlen:((fG (kz.zip xs)).map (·.2)).length<=sizeLine:=by
   rw[List.length_map,(dA _).length_eq,List.length_zip];exact Nat.le_trans (Nat.min_le_right _ _) (gr h64)
  have Us:(hZ us p).toArray.size<=sizeLine:=by rw[List.size_toArray,<-Ur.length];exact hlen
  have Ov:=Heap.SameBut.update s.heap kS (Obj.mapSeq λ_=>(#[]:BU));have JQ:(s.heap.update kS (Obj.mapSeq λ_=>(#[]:BU))).get? D=some (seqObj "list" #[] e1):=(Ov.2 D (Ne.symm ne)).trans eD;have I1:Inv X pins σ H {s with heap:=s.heap.update kS (Obj.mapSeq λ_=>(#[]:BU))}:=dB I fS Ov;unfold ksk_tail;dsimp only;rw[Uq];refine wpAny_bind (listUpdate_at eS rfl (wpAny_bind (wpAny_letGo ?_)) (by rw[List.size_toArray,<-l2,hl];exact gr h64) (Nat.zero_le _));generalize s.heap.update kS (Obj.mapSeq λ_=>(#[]:BU))=h1 at JQ I1 |-;have RY:=Heap.SameBut.update h1 D (Obj.mapSeq λ_=>(hZ us p).toArray);obtain⟨c2,Na⟩:∃c2,(h1.update D (Obj.mapSeq λ_=>(hZ us p).toArray)).get? D=some (seqObj "list" (hZ us p).toArray c2):=⟨_,get?_update_seq JQ λ_=>(hZ us p).toArray⟩;have I2:Inv X pins σ H {s with heap:=h1.update D (Obj.mapSeq λ_=>(hZ us p).toArray)}:=dB (s:={s with heap:=h1}) I1 fD RY;have I3:=vj (o:=.lst ((fG (kz.zip xs)).map (·.2))) I2 fD hD ⟨hlen,_,c2,Ur,Na⟩;refine wpAny_bind (seqEpoch_at JQ rfl (wpAny_bind (listUpdate_at JQ rfl ?_ (Nat.zero_le _) (Nat.le_succ_of_le Us))));rw[hf];simp only[bne_self_eq_false,Bool.false_eq_true,if_false];exact wpAny_pure (hP _ ⟨.ref D,_,I3,rfl,q D fD.1⟩)
 have P0:Pm xs.length (rk kz) (List.range xs.length).toArray:=uu (λi j hi hj=>inj i j (by omega) (by omega)) (Array.Perm.refl _);unfold ksk_end;dsimp only;rw[if_neg Bool.false_ne_true];simp only[Bool.false_eq_true,if_false]
 by_cases h2:us.toArray.size<2
 ·have small:xs.length<2:=by rw[l1];simpa using h2
  rw[if_pos h2,if_pos h2];refine wpAny_bind (wpAny_pure ?_);rw[StateT.run_pure];refine wpAny_bind (wpAny_pure ?_);refine fin (List.range xs.length).toArray P0 (λi j Im hj=>by omega) _ ?_ rfl;show(ks.toArray.zip us.toArray).map (·.2)=_;rw[AG (by omega),l1,w6]
 ·have big:2<=us.length:=by simpa using h2
  rw[if_neg h2,if_neg h2];obtain⟨κ,JH,Ut⟩:=rS (A:=A) I hA hk LQ nd (by omega);refine wpAny_bind (wpAny_mono (JH (λκ' s0=>(kas_sort us.length).kasWp (kas_ask X.prog X.w A κ' ks) (λp s'=>s'=s/\Pm us.length (rk kz) p/\Up (rk kz) p us.length) s0) (Af (n:=us.length) (r:=rk kz) (λi j hi hj=>inj i j (by omega) (by omega)) (λi j C hi hj=>Ut i j C (by omega) (by omega)) (by omega) λp pm up=>⟨rfl,pm,up⟩)) (λκ' s0 hw=>?_) λ_ _ x=>x.elim);refine wpAny_bind (wpAny_mono (kat_run (κ:=κ') (Q:=λIP s'=>∃p:Array Nat,arrOf IP=p.map (kas_item (ks.toArray.zip us.toArray))/\failedOf IP=none/\s'=s/\Pm us.length (rk kz) p/\Up (rk kz) p us.length) (by omega) big (by omega) (λp' IP s' _ a2 a3 a4=>⟨p',a2,a3,a4⟩) hw) ?_ λ_ _ e=>e);rintro⟨⟨⟩,IP⟩ s' ⟨p,Uq,hf,rfl,pm,up⟩;exact fin p (by rw[l1];exact pm) (by rw[l1];exact up) IP (kat_snds (by omega) Uq) hf
theorem yI {α:Type}{l:List α}{x:α}(h:l[j]?=some x):l.drop j=x::l.drop (j+1):=by
 obtain⟨hj,e⟩:=List.getElem?_eq_some_iff.mp h;rw[List.drop_eq_getElem_cons hj,e]
theorem lZ {D:Addr}{P:PySem.Fin->Shared->Prop}(F:Cy X.prog X.w X.K X.mg X.base (bc X.prog X.w) k f fd ps sp)(hr:pL k A)(hE:∀pins' H s,Inv X pins' σ H s->CT X.prog X.w X.K X.mg X.base A X.stack s H)(hb:aI X.K fd ps [])
 (hD:X.s₀.heap.objs.size<=D)(fD:di X pins H D)(I:Inv X pins σ H s)(eD:s.heap.get? D=some (seqObj "list" us.toArray n))(rx:aK xs us)(h64:xs.length<64)(h:nM sp xs H (kx X xs Q))
 (hP:∀s',EP X pins σ Q (.ref D) s'->P (.done (.ret .none)) s'):wpAny (model X.prog X.w) A (ksk_tree D (.ref f) false) P E s:=by
 have l1:=rx.length
 have s64:us.toArray.size<=sizeLine:=by rw[List.size_toArray,<-l1];exact gr h64
 obtain⟨e1,JQ⟩:∃e1,(s.heap.update D (Obj.mapSeq λ_=>(#[]:BU))).get? D=some (seqObj "list" #[] e1):=⟨_,get?_update_seq eD λ_=>#[]⟩;have I1:Inv X pins σ H {s with heap:=s.heap.update D (Obj.mapSeq λ_=>(#[]:BU))}:=dB I fD (Heap.SameBut.update _ _ _);unfold ksk_tree;refine wpAny_bind (listItems_at eD rfl (wpAny_bind (listUpdate_at eD rfl (wpAny_bind (seqEpoch_at JQ rfl (wpAny_bind (wpAny_newTuple ?_ (by show us.length<=_;rw[<-l1];exact gr h64))))) s64 (Nat.zero_le _))));refine wpAny_bind (wpAny_newList (wpAny_holding ?_) (Nat.zero_le _));generalize s.heap.update D (Obj.mapSeq λ_=>(#[]:BU))=h1 at JQ I1 |-;dsimp only;have I2:Inv X pins σ H {s with heap:=h1.push (seqObj "tuple" us.toArray 0)}:=I1.kept (t':=s.toks) λb o q=>Heap.get?_push_of_some _ q;have Uu:(h1.push (seqObj "tuple" us.toArray 0)).get? D=some (seqObj "list" #[] e1):=Heap.get?_push_of_some _ JQ;show wpAny (model X.prog X.w) A (ksk_rest D (.ref f) false us.toArray e1 (.ref (h1.push (seqObj "tuple" us.toArray 0)).objs.size)) P E {s with heap:=(h1.push (seqObj "tuple" us.toArray 0)).push (seqObj "list" #[] 0)};generalize h1.push (seqObj "tuple" us.toArray 0)=h2 at I2 Uu |-;have ne:h2.objs.size≠D:=Nat.ne_of_gt (Heap.lt_size Uu);have Uv:di X pins H h2.objs.size:=I2.abC (Nat.le_refl _) (I2.hok.fresh (Nat.le_refl _));have I3:Inv X pins σ H {s with heap:=h2.push (seqObj "list" #[] 0)}:=I2.kept (t':=s.toks) λb o q=>Heap.get?_push_of_some _ q;have eD3:(h2.push (seqObj "list" #[] 0)).get? D=some (seqObj "list" #[] e1):=Heap.get?_push_of_some _ Uu;have YR:(h2.push (seqObj "list" #[] 0)).get? h2.objs.size=some (seqObj "list" ([]:oH).toArray 0):=Heap.get?_push_size _ rfl;have fD':∀{H':Hp},H' D=none->di X pins H' D:=λz=>oR fD z;have Uw:∀{H':Hp},H' h2.objs.size=none->di X pins H' h2.objs.size:=λz=>oR Uv z;generalize h2.objs.size=kS at ne Uv YR Uw |-;unfold ksk_rest;refine wpAny_bind (wpAny_rule ?_);rw[List.forIn_toArray]
 let II:Nat->Shared->Prop:=λj s'=>∃(H':Hp)(c:Nat)(kV:List V)(ks:oH),Inv X (pins++[(D,seqObj "list" #[] e1)]) σ H' s'/\s'.heap.get? kS=some (seqObj "list" ks.toArray c)/\H' kS=none/\aK kV ks/\kV.length=j/\nM sp (xs.drop j) H' λk2 H2=>kx X xs Q (kV++k2) H2
 have I4:Inv X (pins++[(D,seqObj "list" #[] e1)]) σ H {s with heap:=h2.push (seqObj "list" #[] 0)}:=tU I3 fD eD3 kr;refine wpAny_bind (wpAny_mono (ksk_fold (E:=E) (Q:=λ_ s'=>II us.length s') II us 0 {s with heap:=h2.push (seqObj "list" #[] 0)} ⟨H,0,[],[],I4,YR,Uv.1,.nil,rfl,by simpa using h⟩ (λj u s' hu hI=>?_) λs' hd=>by simpa using hd) (λ_ s' hI=>?_) λ_ _ e=>e)
 ·rw[Nat.zero_add] at hI |-;obtain⟨H',c,kV,ks,J,eS,nS,LQ,hl,t⟩:=hI;have hj:j<us.length:=(List.getElem?_eq_some_iff.mp hu).1;obtain⟨x,hx⟩:∃x,xs[j]?=some x:=⟨xs[j]'(by omega),by simp[show j<xs.length by omega]⟩;obtain⟨u',YS,rx'⟩:=rx.get hx;rw[hu] at YS
  cases YS
  rw[yI hx] at t;have YT:di X (pins++[(D,seqObj "list" #[] e1)]) H' kS:=zR (Uw nS) (Ne.symm ne);have J2:=tU J YT eS kr;refine wpAny_bind (wpAny_attempt (wpAny_mono (xW F hr (hE _) hb J2 rx' t) (λkv s2 hk=>?_) λ_ _ z=>z.elim));obtain⟨v,H2,J3,rv,t2⟩:=hk;obtain⟨YU,YV⟩:=yY J3;have J4:=mY J3;have fS2:di X (pins++[(D,seqObj "list" #[] e1)]) H2 kS:=oR YT YV
  have ea:ks.toArray.push kv=(ks++[kv]).toArray:=by simp
  obtain⟨c2,Na⟩:∃c2,(s2.heap.update kS (Obj.mapSeq (·.push kv))).get? kS=some (seqObj "list" (ks++[kv]).toArray c2):=⟨_,by rw[<-ea];exact get?_update_seq YU (·.push kv)⟩;have lk:=LQ.length;refine wpAny_bind (listUpdate_at YU rfl ?_ (by rw[List.size_toArray];exact gr (by omega)) (Nat.le_trans (Nat.le_of_eq (Array.size_push ..)) (by rw[List.size_toArray];exact Nat.succ_le_succ (gr (by omega)))));refine wpAny_pure ⟨rfl,H2,c2,kV++[v],ks++[kv],dB J4 fS2 (Heap.SameBut.update _ _ _),Na,YV,LQ.append (.cons rv .nil),by simp[hl],?_⟩
  have e:∀k2:List V,kV++[v]++k2=kV++v::k2:=λk2=>by simp
  simp only[e];exact t2
 ·obtain⟨H',c,kV,ks,J,eS,nS,LQ,hl,t⟩:=hI;rw[<-l1,List.drop_length] at t
  have w:kx X xs Q kV H':=by
   have z:kx X xs Q (kV++[]) H':=t;rwa[List.append_nil] at z
  obtain⟨RZ,nD⟩:=yY J;refine wpAny_bind (listItems_at eS rfl ?_);exact vC (by have:=hr.units;omega) hD (fD' nD) (Uw nS) ne (mY J) RZ eS rx LQ (by omega) h64 w hP
theorem sC {l:Addr}(F:Cy X.prog X.w X.K X.mg X.base (bc X.prog X.w) k f fd ps sp)(hr:pL (k+2) X.A)(hb:aI X.K fd ps [])
 (I:Inv X pins σ H s)(hl:aM X.K H l xs)(h64:xs.length<64)(h:nM sp xs H (kx X xs Q)):wpAny (model X.prog X.w) X.A (call (.builtin "sorted") [.ref l] [(Str.ofString "key",.ref f)]) (EP X pins σ Q) E s:=by
 obtain⟨us,rx,pl,_⟩:=I.list hl;have l1:=rx.length;refine call_function_entry_kw kind_sorted plain_sorted entry_sorted (ksk_s1 _ _) ?_;unfold Builtin.«sorted»;refine wpAny_bind (m:=checkCount "sorted" 1 1 _) (wpAny_pure (wpAny_bind (collect_list pl.isList (wpAny_bind (wpAny_newList ?_ (gr (by omega)))) (gr (by omega)))))
 have sz:((s.heap.push (seqObj "list" #[] 0)).update s.heap.objs.size (Obj.mapSeq (·++us.toArray))).objs.size=s.heap.objs.size+1:=by rw[Heap.size_update];exact size_push' _ _
 have Of:(((s.heap.push (seqObj "list" #[] 0)).update s.heap.objs.size (Obj.mapSeq (·++us.toArray))).push (seqObj "list" us.toArray 0)).get? (s.heap.objs.size+1)=some (seqObj "list" us.toArray 0):=by
  rw[<-sz];exact Heap.get?_push_size _ rfl
 have old:∀b o,s.heap.get? b=some o->(((s.heap.push (seqObj "list" #[] 0)).update s.heap.objs.size (Obj.mapSeq (·++us.toArray))).push (seqObj "list" us.toArray 0)).get? b=some o:=λb o q=>by
  have lt:b<s.heap.objs.size:=Heap.lt_size q;refine Heap.get?_push_of_some _ ?_;rw[Heap.get?_update_ne _ _ _ _ (Nat.ne_of_lt lt)];exact Heap.get?_push_of_some _ q
 show wpAny _ _ _ _ _ {s with heap:=((s.heap.push (seqObj "list" #[] 0)).update s.heap.objs.size (Obj.mapSeq (·++us.toArray))).push (seqObj "list" us.toArray 0)};rw[sz];generalize ((s.heap.push (seqObj "list" #[] 0)).update s.heap.objs.size (Obj.mapSeq (·++us.toArray))).push (seqObj "list" us.toArray 0)=h5 at Of old |-;have I5:Inv X pins σ H {s with heap:=h5}:=I.kept (t':=s.toks) old;have fD:di X pins H (s.heap.objs.size+1):=I.abC (Nat.le_succ _) (I.hok.fresh (Nat.le_succ _));refine wpAny_bind (wpAny_holding (wpAny_call_entry_kw slot_list_sort ⟨_,Of,rfl⟩ entry_list_sort ?body (ksk_l1 _ _)))
 case body =>
  show wpAny (model X.prog X.w) X.A.in1.in1 (Builtin.«list.sort» ⟨[.ref (s.heap.objs.size+1)],[(Str.ofString "key",.ref f)]⟩) _ _ _;rw[ksk_t1];exact lZ (A:=X.A.in1.in1) F hr.in1.in1 (λpins' H' s' J=>J.aby.in1.in1) hb (Nat.le_trans I.sz (Nat.le_succ _)) fD I5 Of rx h64 h λs' q=>⟨_,rfl,wpAny_pure ⟨_,rfl,q⟩⟩
end
noncomputable def BP (X:Cx)(sp:Sp)(ta:TE):TE:=λσ H Q=>cO ta D1 σ H λvs H1=>∃l xs,vs=[.ref l]/\aM X.K H1 l xs/\xs.length<64/\nM sp xs H1 (kx X xs Q)
section
variable {X:Cx}{k:Nat}{f:Addr}{fd:GF}{ps:xQ}{sp:Sp}{e:Expr}{ta:TE}{x:Str}{p p2 kpos pos:Pos}
theorem wx (F:Cy X.prog X.w X.K X.mg X.base (bc X.prog X.w) k f fd ps sp)(hr:pL (k+2) X.A)(hb:aI X.K fd ps [])(hg:Gl X "sorted")(hm:X.mg "sorted"=none)(hgf:Gl X x)(hmf:X.mg x=some (.ref f))(ha:PE X e ta)(hs:gJ e=false:=by rfl)(hd:(x==("__debug__":Str))=false:=by decide):
 PE X (.Call (.Name "sorted" p) [e] [⟨some "key",.Name x p2,kpos⟩] pos) (BP X sp ta):=by
 intro pins s σ H Q I h;refine wpAny_Call_Name_kw (gM I hg hm (by rfl) ?_ (by decide) (by decide));refine callWith_builtin_kwB (by rw[b8 hs];rfl) rfl (evalArgs_kw2 rfl ?_ (b8 hs));refine bA (ah ha af hs pos pins s σ H _ I h) λus s1 z'=>?_;obtain⟨vs,H1,I1,r1,⟨l,xs,hv,hl,h64,ht⟩⟩:=z';subst hv
 cases r1 with
 |cons ra rb =>
  cases rb
  cases ra
  refine kwAll_cons (dE I1 hgf hmf (kwAll_nil ?_) hd);exact sC F hr hb I1 hl h64 ht
end
end Srt
namespace K16
open PySem L2 PySem.W Nm Srt
variable {n:Nat}{p:Int}
theorem Bu {t b:Int}(hp:FP p)(h:B n t)(hb:b≠0)(hn:7<=n):B n (pb p t b):=by
 unfold pb
 by_cases z:p=0
 ·rw[if_pos z];exact h.le (uN hb)
 ·rw[if_neg z];obtain⟨_,p2,Ua⟩:=hp.two z;have h0:=Int.emod_nonneg t (b:=p) (by omega);have h1:=Int.emod_lt_of_pos t (b:=p) (by omega)
  have:B 7 (t%p):=by
   show(t%p).natAbs<2^7;omega
  exact this.mono hn
theorem BE {n:Nat}{t b:Int}(h:B n b)(hb:b≠0)(hn:1<=n):B n (nZ p t b):=by
 unfold nZ
 by_cases z:p=0
 ·rw[if_pos z];exact h.le (uJ hb)
 ·rw[if_neg z];exact(show B 1 (1:Int) from(by show(1:Int).natAbs<2^1;decide)).mono hn
noncomputable abbrev Tm:=List Int×Int×Int
noncomputable def jj (p:Int)(a b:Int×Int):Int×Int:=(pb p (sY a.1 a.2 b.1 b.2) (a.2*b.2),nZ p (sY a.1 a.2 b.1 b.2) (a.2*b.2))
noncomputable def Gn (p:Int)(n:Nat)(a:Int×Int):Prop:=Num p a.1 a.2/\B n a.1/\B n a.2
theorem Gn.ne {a:Int×Int}(h:Gn p n a):a.2≠0:=by have:=h.1.pos;omega
theorem va {m:Nat}{a b:Int×Int}(hp:FP p)(ha:Gn p n a)(hb:Gn p m b)(h7:7<=n+m+1):Gn p (n+m+1) (jj p a b):=by
 have nz:a.2*b.2≠0:=Int.mul_ne_zero ha.ne hb.ne;refine⟨Num.set hp.nn nz,Bu hp ?_ nz h7,(BE (n:=n+m) (ha.2.2.mul hb.2.2) nz (by omega)).mono (by omega)⟩;have h1:B (n+m) (a.1*b.2):=ha.2.1.mul hb.2.2;have h2:B (n+m) (b.1*a.2):=(hb.2.1.mul ha.2.2).mono (by omega);exact h1.add h2
noncomputable def ij (p:Int)(d:List Tm)(t:Tm):List Tm:=if d.any (λe=>decide (e.1=t.1))=true then d.map (λe=>if e.1=t.1 then(e.1,jj p e.2 t.2) else e) else d++[t]
noncomputable def bK (p:Int)(ts:List Tm):List Tm:=ts.foldl (ij p) []
noncomputable def uG (p:Int)(n:Nat)(d:List Tm):Prop:=∀e∈d,Gn p n e.2
variable {d:List Tm}
theorem vt {m:Nat}{t:Tm}(hp:FP p)(hd:uG p n d)(ht:Gn p m t.2)(h7:7<=n+m+1):uG p (n+m+1) (ij p d t):=by
 have up:∀e∈d,Gn p (n+m+1) e.2:=λe he=>⟨(hd e he).1,(hd e he).2.1.mono (by omega),(hd e he).2.2.mono (by omega)⟩;unfold ij
 split
 ·intro e he;obtain⟨e0,h0,rfl⟩:=List.mem_map.mp he
  by_cases q:e0.1=t.1
  ·rw[if_pos q];exact va hp (hd e0 h0) ht h7
  ·rw[if_neg q];exact up e0 h0
 ·intro e he
  rcases List.mem_append.mp he with he|he
  ·exact up e he
  ·have:e=t:=by simpa using he
   subst this;exact⟨ht.1,ht.2.1.mono (by omega),ht.2.2.mono (by omega)⟩
theorem vw {t:Tm}(hd:(d.map (·.1)).Nodup):((ij p d t).map (·.1)).Nodup:=by
 unfold ij
 split
 ·rw[List.map_map]
  have:((λe:Tm=>e.1) ∘ λe=>if e.1=t.1 then(e.1,jj p e.2 t.2) else e)=λe=>e.1:=by
   funext e
   show(if e.1=t.1 then(e.1,jj p e.2 t.2) else e).1=e.1
   split <;> rfl
  rw[this];exact hd
 ·rename_i q
  rw[List.map_append];refine List.nodup_append.mpr ⟨hd,by simp,λa ha b hb z=>?_⟩
  have:b=t.1:=by simpa using hb
  subst this;subst z;obtain⟨e,he,e1⟩:=List.mem_map.mp ha;exact q (List.any_eq_true.mpr ⟨e,he,by simpa using e1⟩)
theorem v3 {t:Tm}:(ij p d t).length<=d.length+1:=by
 unfold ij
 split <;> simp
noncomputable def ku (t:Tm):Ky:=(t.1.length,t.1)
noncomputable def fM (d:List Tm):List Tm:=(fG ((d.filter λe=>e.2.1 != 0).map λe=>(ku e,e))).map (·.2)
theorem mZ (p:Int)(ts:List Tm)(t:Tm):bK p (ts++[t])=ij p (bK p ts) t:=by
 unfold bK;rw[List.foldl_append];rfl
theorem jq {m:Nat}(hp:FP p):∀(n:Nat)(ts:List Tm),ts.length=n->(∀t∈ts,Gn p m t.2)->uG p ((m+1)*n+7) (bK p ts)/\((bK p ts).map (·.1)).Nodup/\(bK p ts).length<=n
 |0,ts,hn,_=>by
  have:ts=[]:=List.length_eq_zero_iff.mp hn;subst this;refine And.intro (λe he=>?_) (And.intro List.nodup_nil (Nat.le_refl 0));exact absurd (show e∈([]:List Tm) from he) (by simp)
 |n+1,ts,hn,h=>by
  obtain⟨Sa,t,rfl⟩:∃Sa t,ts=Sa++[t]:=by
   have HH:ts≠[]:=by intro z;rw[z] at hn;cases hn
   exact⟨ts.dropLast,ts.getLast HH,(List.dropLast_concat_getLast HH).symm⟩
  have hl:Sa.length=n:=by simpa using hn
  obtain⟨g1,g2,g3⟩:=jq hp n Sa hl λt ht=>h t (List.mem_append_left _ ht);rw[mZ];have gt:=h t (List.mem_append_right _ (by simp));have e2:(m+1)*(n+1)=(m+1)*n+(m+1):=Nat.mul_succ _ _;refine⟨λe he=>?_,vw g2,Nat.le_trans v3 (by omega)⟩;have:=vt hp g1 gt (by omega) e he;exact⟨this.1,this.2.1.mono (by omega),this.2.2.mono (by omega)⟩
noncomputable abbrev oG (ks:List Int):List Key:=ks.map Sum.inl
theorem nV (ks:List Int):(oG ks).map kV=ks.map V.int:=by unfold oG;rw[List.map_map];rfl
theorem og {a b:List Int}(h:oG a=oG b):a=b:=by
 have e:(oG a).map kV=(oG b).map kV:=by rw[h]
 rw[nV,nV] at e
 have inj:∀{x y:List Int},x.map V.int=y.map V.int->x=y:=by
  intro x
  induction x with
  |nil=>intro y h;cases y with
   |nil=>rfl
   |cons c y=>simp at h
  |cons b x ih=>intro y h;cases y with
   |nil=>simp at h
   |cons c y =>
    rw[List.map_cons,List.map_cons] at h
    injection h with h1 h2
    injection h1 with h1
    rw[h1,ih h2]
 exact inj e
noncomputable def Et (H:Hp)(y:V)(t:Tm):Prop:=∃a pr nu,y=.ref a/\H a=some (.tup [.ref pr,.ref nu])/\H pr=some (.tup (t.1.map V.int))/\H nu=some (eM t.2.1 t.2.2)
noncomputable abbrev cz (H:Hp):List V->List Tm->Prop:=Paired (Et H)
noncomputable abbrev DR (H:Hp):List (List Key×V)->List Tm->Prop:=Paired λkv e=>kv.1=oG e.1/\∃a,kv.2=.ref a/\H a=some (eM e.2.1 e.2.2)
noncomputable def bh (H H':Hp):Prop:=∀b xs,H b=some (.tup xs)->H' b=some (.tup xs)
variable {H H':Hp}
theorem bh.of (s:au H H'):bh H H':=λb xs e=>s b _ e
theorem bh.trans {H1 H2:Hp}(a:bh H H1)(b:bh H1 H2):bh H H2:=λc xs e=>b c xs (a c xs e)
theorem bh.upd {d:Addr}{o:HO}(h:∀xs,H d≠some (.tup xs)):bh H (upd H d o):=λb xs e=>by
 have:b≠d:=λz=>h xs (z▸e);rw[aq this];exact e
theorem Et.keep {y:V}{t:Tm}(h:Et H y t)(k:bh H H'):Et H' y t:=let⟨a,pr,nu,e,h1,h2,h3⟩:=h;⟨a,pr,nu,e,k _ _ h1,k _ _ h2,k _ _ h3⟩
theorem cz.keep {ys:List V}{ts:List Tm}(h:cz H ys ts)(k:bh H H'):cz H' ys ts:=Paired.ab4 h λ_ _ z=>z.keep k
variable {GK:List (List Key×V)}
theorem DR.keep (h:DR H GK d)(k:bh H H'):DR H' GK d:=Paired.ab4 h λ_ _ z=>⟨z.1,let⟨a,e,h⟩:=z.2;⟨a,e,k _ _ h⟩⟩
theorem xh (k:List Int):∀{GK:List (List Key×V)}{d:List Tm},DR H GK d->d.any (λe=>decide (e.1=k))=false->jl GK (oG k)=none
 |_,_,.nil,_=>rfl
 |_,_,.cons (a:=kv) (b:=e) h t,q=>by
  rw[List.any_cons,Bool.or_eq_false_iff] at q
  have ne:¬kv.1=oG k:=λz=>by
   have:e.1=k:=og (h.1.symm.trans z);simp[this] at q
  rw[gu ne];exact xh k t q.2
theorem sx (k:List Int):∀{GK:List (List Key×V)}{d:List Tm},DR H GK d->d.any (λe=>decide (e.1=k))=true->∃e∈d,e.1=k/\∃a,jl GK (oG k)=some (.ref a)/\H a=some (eM e.2.1 e.2.2)
 |_,_,.nil,q=>by simp at q
 |_,_,.cons (a:=kv) (b:=e) h t,q=>by
  by_cases z:e.1=k
  ·obtain⟨a,e1,ha⟩:=h.2;refine⟨e,List.mem_cons_self,z,a,?_,ha⟩;rw[iO (by rw[h.1,z]),e1]
  ·have ne:¬kv.1=oG k:=λw=>z (og (h.1.symm.trans w));rw[List.any_cons,decide_eq_false z,Bool.false_or] at q;obtain⟨e',m,z',a,h1,h2⟩:=sx k t q;exact⟨e',List.mem_cons_of_mem _ m,z',a,by rw[gu ne];exact h1,h2⟩
theorem Ce (k:List Int)(h:DR H GK d):(GK.any λkv=>decide (kv.1=oG k))=d.any λe=>decide (e.1=k):=by
 rw[kJ]
 cases q:d.any λe=>decide (e.1=k) with
 |false=>rw[xh k h q];rfl
 |true =>
  obtain⟨_,_,_,a,e,_⟩:=sx k h q;rw[e];rfl
theorem CL {t:Tm}{a:Addr}(h:DR H GK d)(nd:(d.map (·.1)).Nodup)
 (JI:d.any (λe=>decide (e.1=t.1))=false->H a=some (eM t.2.1 t.2.2))(JO:∀e∈d,e.1=t.1->H a=some (eM (jj p e.2 t.2).1 (jj p e.2 t.2).2)):DR H (gX GK (oG t.1) (.ref a)) (ij p d t):=by
 unfold gX ij;rw[Ce t.1 h]
 by_cases q:d.any (λe=>decide (e.1=t.1))=true
 ·rw[if_pos q,if_pos q]
  have go:∀{GK:List (List Key×V)}{d:List Tm},DR H GK d->(∀e∈d,e.1=t.1->H a=some (eM (jj p e.2 t.2).1 (jj p e.2 t.2).2)) →
   DR H (GK.map λkv=>if kv.1=oG t.1 then(kv.1,V.ref a) else kv) (d.map λe=>if e.1=t.1 then(e.1,jj p e.2 t.2) else e):=by
   intro GK d h
   induction h with
   |nil=>intro _;exact .nil
   |@cons kv e ks es h0 ht ih =>
    intro hy;rw[List.map_cons,List.map_cons];refine .cons ?_ (ih λe' m=>hy e' (List.mem_cons_of_mem _ m))
    by_cases z:e.1=t.1
    ·rw[if_pos z,if_pos (by rw[h0.1,z])];exact⟨h0.1,a,rfl,hy e List.mem_cons_self z⟩
    ·rw[if_neg z,if_neg (λw=>z (og (h0.1.symm.trans w)))];exact h0
  exact go h JO
 ·have q':d.any (λe=>decide (e.1=t.1))=false:=Bool.eq_false_iff.mpr q;rw[if_neg q,if_neg q];exact Paired.snoc h ⟨rfl,a,rfl,JI q'⟩
noncomputable abbrev zg:Stmt:=(aY 32)
noncomputable def qG (C:Addr):Sp:=λvs H Q _=>∃(s dx l:Addr)(p:Int)(ys:List V)(ts:List Tm)(m:Nat),vs=[.ref s,.ref l]/\H s=some (.ins C dx (cw p))/\FP p/\H l=some (.lst ys)/\cz H ys ts/\ts.length<64 /\
 (∀t∈ts,Gn p m t.2)/\(m+1)*ts.length+7<=4000/\m<=4000/\∀H' D zs,au H H'->H D=none->H' D=some (.lst zs)->cz H' zs (fM (bK p ts))->Q (.ref D) H'
theorem none_of {a:Addr}(s:au H H')(h:H' a=none):H a=none:=by
 cases e:H a with
 |none=>rfl
 |some o=>rw[s _ _ e] at h;cases h
theorem jb:uQ ["field","terms","totals","product","number","kept"] GD (ar zg):=dI (by decide +kernel)
theorem ni {α β:Type}{R:α->β->Prop}{k:Ky}{x:α}{y:β}(h:R x y):∀{l:List (Ky×α)}{m:List (Ky×β)},Paired (λa b=>a.1=b.1/\R a.2 b.2) l m->Paired (λa b=>a.1=b.1/\R a.2 b.2) (ma k x l) (ma k y m)
 |_,_,.nil=>.cons ⟨rfl,h⟩ .nil
 |_,_,.cons (a:=(j,u)) (b:=(j',v)) (l₁:=r) (l₂:=r') h0 t=>by
  obtain⟨e,h1⟩:=h0;have e:j=j':=e;subst e;show Paired _ (if lV k j=true then(k,x):: (j,u):: r else(j,u):: ma k x r) (if lV k j=true then(k,y):: (j,v):: r' else(j,v):: ma k y r')
  by_cases z:lV k j=true
  ·rw[if_pos z,if_pos z];exact .cons ⟨rfl,h⟩ (.cons ⟨rfl,h1⟩ t)
  ·rw[if_neg z,if_neg z];exact .cons ⟨rfl,h1⟩ (ni h t)
theorem lJ {α β:Type}{R:α->β->Prop}:∀{l:List (Ky×α)}{m:List (Ky×β)},Paired (λa b=>a.1=b.1/\R a.2 b.2) l m->Paired (λa b=>a.1=b.1/\R a.2 b.2) (fG l) (fG m)
 |_,_,.nil=>.nil
 |_,_,.cons (a:=(j,u)) (b:=(j',v)) (l₁:=r) (l₂:=r') h0 t=>by
  obtain⟨e,h1⟩:=h0;have e:j=j':=e;subst e;exact ni h1 (lJ t)
theorem pW {α β:Type}{R:α->β->Prop}:∀{l:List (Ky×α)}{m:List (Ky×β)},Paired (λa b=>a.1=b.1/\R a.2 b.2) l m->Paired R (l.map (·.2)) (m.map (·.2))
 |_,_,.nil=>.nil
 |_,_,.cons h t=>.cons h.2 (pW t)
theorem pJ {R:V->Tm->Prop}:∀{xs:List V}{es:List Tm},Paired R xs es->Paired (λa b=>a.1=b.1/\R a.2 b.2) ((es.map ku).zip xs) (es.map λe=>(ku e,e))
 |_,_,.nil=>.nil
 |_,_,.cons h t=>.cons ⟨rfl,h⟩ (pJ t)
theorem mQ:∀{xs:List V}{es:List Tm}{H:Hp}{R:List V->Hp->Prop},cz H xs es →
 (∀ks H2,au H H2->Paired (λx e=>∃a b,x=.ref a/\H2 a=some (.tup [.int e.1.length,.ref b])/\H2 b=some (.tup (e.1.map V.int))) ks es->R ks H2)->nM wD xs H R
 |_,_,H,R,.nil,h=>h [] H (au.refl _) .nil
 |_,_,H,R,.cons (b:=e) h0 t,h=>by
  obtain⟨a,pr,nu,rfl,ha,IA,IZ⟩:=h0;refine⟨a,pr,.ref nu,_,rfl,ha,IA,λtt htt=>?_⟩;rw[List.length_map];have sU:au H (upd H tt (.tup [.int e.1.length,.ref pr])):=ai htt;refine mQ (cz.keep t (bh.of sU)) λks H2 s2 hk=>h _ H2 (λb u z=>s2 _ _ (sU _ _ z)) (.cons ⟨tt,pr,rfl,s2 _ _ ae,s2 _ _ (sU _ _ IA)⟩ hk)
theorem qk {K:Frag}:∀{ks:List V}{es:List Tm},Paired (λx e=>∃a b,x=.ref a/\H a=some (.tup [.int e.1.length,.ref b])/\H b=some (.tup (e.1.map V.int))) ks es->dU K H ks (es.map ku)
 |_,_,.nil=>True.intro
 |_,_,.cons h t=>by
  obtain⟨a,b,rfl,h1,h2⟩:=h;exact⟨⟨a,b,[],rfl,bX.of h1,bX.of h2⟩,qk t⟩
theorem zw (h:(d.map (·.1)).Nodup)(f:Tm->Bool):((d.filter f).map ku).Nodup:=by
 have h1:((d.filter f).map (·.1)).Nodup:=h.sublist (List.filter_sublist.map _)
 have e:(d.filter f).map ku=((d.filter f).map (·.1)).map λk=>((k.length:Int),k):=by rw[List.map_map];rfl
 rw[e];unfold List.Nodup at h1 |-;rw[List.pairwise_map];exact h1.imp λh z=>h (Prod.mk.inj z).2
theorem qE (h:(d.map (·.1)).Nodup):∀{e e':Tm},e∈d->e'∈d->e.1=e'.1->e=e':=by
 induction d with
 |nil=>intro e e' h1;exact nomatch h1
 |cons a d ih =>
  rw[List.map_cons,List.nodup_cons] at h;intro e e' h1 h2 z
  rcases List.mem_cons.mp h1 with h3|h3
  ·rcases List.mem_cons.mp h2 with h4|h4
   ·rw[h3,h4]
   ·exact absurd (by rw[<-h3,z];exact List.mem_map_of_mem (f:=(·.1)) h4) h.1
  ·rcases List.mem_cons.mp h2 with h4|h4
   ·exact absurd (by rw[<-h4,<-z];exact List.mem_map_of_mem (f:=(·.1)) h3) h.1
   ·exact ih h.2 h3 h4 z
variable {P:wM}{w:World}{K:PySem.W.Frag}{mg:vJ}{base:Heap}
theorem AJ {f fp fo C:Addr}{fd Iy YW:GF}(F:E6 K "gathered" "gathered" zg f fd)(c:Cp K mg C)(Ie:mg "sorted"=none)
 (FPl:Cy P w K mg base (bc P w) 4 fp Iy FD (A1 C sY))(bPl:L2.aI K Iy FD [])(mPl:L2.Meth K C "plus" fp)
 (FPo:Cy P w K mg base (bc P w) 1 fo YW ["term"] wD)(bPo:L2.aI K YW ["term"] [])(mPo:mg "place_of_term"=some (.ref fo)):Cy P w K mg base (bc P w) 5 f fd GD (qG C):=by
 refine F.okN jb (λvs H Q E h=>?_) (λGL A outer s H vs Q E hr h=>?_)
 ·obtain⟨s,dx,l,p,ys,ts,m,rfl,_⟩:=h;rfl
 ·obtain⟨s0,dx,l,p,ys,ts,m,rfl,hs,hp,hl,Ni,h64,hG,hm,Sb,q⟩:=h;have LP:pL 4 _:=hr.mono (by decide);have hrS:pL 3 _:=hr.mono (by decide);have hu:=(hr.units:_+64<cLine)
  replace hu:=Nat.lt_of_le_of_lt (Nat.add_le_add_left (by decide:1<=64) _) hu
  refine⟨_,(aj (@aO _ _ 2 _ _ _ _ jb.nd rfl (Or.inl rfl) aaN rfl (Or.inl rfl))
   (aj (gh PassesOwn.never rfl (eP (pv 1)) (dQ rfl (aJ (aH (i:=3) jb.nd rfl (Or.inl rfl)) (aJ (aH (i:=4) jb.nd rfl (Or.inl rfl)) cm)))
   (aj (aV (AlX (adg hu (pv 3) (pv 2))) (ao (@aO _ _ 4 _ _ _ _ jb.nd rfl (Or.inl rfl) (ow (pv 0) c.cl mPl FPl LP bPl .nil ag (@ah _ _ _ _ _ (adf hu (pv 2) (pv 3) (λ_ _=>rfl)) (@ah _ _ _ _ _ (pv 4) af rfl) rfl)) rfl (Or.inl rfl))) aE)
   (ao (ab9 hu (pv 2) (pv 3) (pv 4) (by rfl)))))
   (aj (iG (i:=5) (g:=xv K 2 (iz (c9 0) (iz (c9 1) y8))) (N:=["product","number"]) (nl:=2) (js:=[]) (osc:=ar zg) ⟨rfl,rfl,by decide +kernel,by decide +kernel,by decide +kernel,rfl,.nil,by decide +kernel⟩ rfl jb.nd rfl (Or.inl rfl)
    (yN (pv 2))
    (λC fp s H=>(dQ (X:=iD _ ["product","number"] _ C fp s H) rfl (aJ (aH (X:=iD _ ["product","number"] _ C fp s H) (i:=0) (by show(["product","number"]:xQ).Nodup;decide +kernel) rfl (Or.inl rfl) (Or.inr rfl)) (aJ (aH (X:=iD _ ["product","number"] _ C fp s H) (i:=1) (by show(["product","number"]:xQ).Nodup;decide +kernel) rfl (Or.inl rfl) (Or.inr rfl)) cm))))
    (λC fp s H=>(jR (@aB _ _ _ _ _ _ _ _ gF (@aQ _ _ _ _ _ _ _ (show CG _ (Cr K) from cn) (pv 1) ak (λ_ _=>rfl)) ak (aA _))))
    (λC fp s H=>(@bq _ _ _ _ _ (@ah _ _ _ _ _ (pv 0) (@ah _ _ _ _ _ (pv 1) af rfl) rfl))) (by rfl))
   (ao (aw (wx FPo hrS bPo (by rfl) Ie (by rfl) mPo (pv 5))))))),?_⟩
  have hlen:=Ni.length
  have gg:∀i,i<=ts.length->uG p 4000 (bK p (ts.take i))/\((bK p (ts.take i)).map (·.1)).Nodup/\(bK p (ts.take i)).length<=i:=λi hi=>by
   obtain⟨g1,g2,g3⟩:=jq (m:=m) hp i (ts.take i) (by simp;omega) λt ht=>hG t (List.mem_of_mem_take ht);refine⟨λe he=>?_,g2,g3⟩;have b:=g1 e he;have le:(m+1)*i+7<=4000:=Nat.le_trans (Nat.add_le_add_right (Nat.mul_le_mul_left _ hi) _) hm;exact⟨b.1,b.2.1.mono le,b.2.2.mono le⟩
  refine λdd Js=>?_;have s1:au H (upd H dd (.dT [])):=ai Js;refine⟨_,rfl,l,rfl,⟨ys,aM.of (s1 _ _ hl)⟩,?_⟩
  refine⟨λi m σ' H'=>m=ts.length-i/\i<=ts.length/\au H H'/\(∃GK,H' dd=some (.dT GK)/\DR H' GK (bK p (ts.take i)))/\∃o3 o4,σ'=[some (.ref s0),some (.ref l),some (.ref dd),o3,o4,none],
   ⟨ts.length,by simp,Nat.zero_le _,s1,⟨[],ae,.nil⟩,none,none,rfl⟩,?_⟩
  rintro i m' σ' H' ⟨rfl,hi,sH,⟨GK,hd,dr⟩,o3,o4,rfl⟩;have HV:=sH _ _ hl;have Kd:=sH _ _ hs;obtain⟨gd,Sd,gl⟩:=gg i hi
  by_cases GV:i<ts.length
  ·have hly:i<ys.length:=by omega
   refine .inr ⟨⟨ys,ys[i],aM.of HV,by simp[hly]⟩,λσ' H'=>i+1<=ts.length/\au H H'/\(∃GK,H' dd=some (.dT GK)/\DR H' GK (bK p (ts.take (i+1))))/\∃o3 o4,σ'=[some (.ref s0),some (.ref l),some (.ref dd),o3,o4,none],?_,λy H2 hy=>?_⟩
   ·rintro σ' H' ⟨h1,h2,h3,h4⟩;exact⟨ts.length-(i+1),by omega,rfl,h1,h2,h3,h4⟩
   ·obtain⟨rfl,hy⟩:=hy;obtain⟨t,et,tr⟩:=dm Ni (hy ys (aM.of HV));obtain⟨a,pr,nu,rfl,ha,IA,IZ⟩:=tr.keep (bh.of sH);have gt:=hG t (List.mem_of_getElem? et)
    have Kq:ts.take (i+1)=ts.take i++[t]:=by rw[List.take_add_one,et];rfl
    have Kr:∀H3:Hp,bh H2 H3->H3 pr=some (.tup ((oG t.1).map kV)):=λH3 k=>by rw[nV];exact k _ _ IA
    have fin:∀(H3:Hp)(an:Addr),au H H3->bh H2 H3->H3 dd=some (.dT GK)->((bK p (ts.take i)).any (λe=>decide (e.1=t.1))=false->H3 an=some (eM t.2.1 t.2.2)) →
     (∀e∈bK p (ts.take i),e.1=t.1->H3 an=some (eM (jj p e.2 t.2).1 (jj p e.2 t.2).2)) →
     au H (upd H3 dd (.dT (gX GK (oG t.1) (.ref an))))/\∃Ow,(upd H3 dd (.dT (gX GK (oG t.1) (.ref an)))) dd=some (.dT Ow)/\DR (upd H3 dd (.dT (gX GK (oG t.1) (.ref an)))) Ow (bK p (ts.take (i+1))):=by
     intro H3 an s3 k3 h3 JI JO;refine⟨λb u e=>by rw[aq (av e Js)];exact s3 b u e,_,ae,?_⟩;rw[Kq,mZ];exact(CL (dr.keep k3) Sd JI JO).keep (bh.upd λxs z=>by rw[h3] at z;cases z)
    have Ox:GK.length<sizeLine:=by
     rw[dr.length];exact Nat.lt_of_le_of_lt gl (Nat.lt_trans (Nat.lt_of_le_of_lt hi h64) (by decide))
    refine⟨a,_,rfl,bX.of ha,rfl,_,_,rfl,_,_,rfl,rfl,?_⟩;refine⟨_,rfl,_,rfl,dd,_,rfl,oM.t hd (Kr _ λ_ _ e=>e),_,rfl,?_⟩
    cases hq:(bK p (ts.take i)).any (λe=>decide (e.1=t.1)) with
    |false =>
     rw[xh t.1 dr hq];refine aS ?_;refine⟨_,rfl,_,rfl,_,rfl,dd,_,rfl,vE.t hd (Kr _ λ_ _ e=>e) Ox,?_⟩
     obtain⟨f1,f2⟩:=fin H2 nu sH (λ_ _ e=>e) hd (λ_=>IZ) λe he z=>by
      have:(bK p (ts.take i)).any (λe=>decide (e.1=t.1))=true:=List.any_eq_true.mpr ⟨e,he,by simpa using z⟩;rw[hq] at this;cases this
     exact⟨GV,f1,f2,_,_,rfl⟩
    |true =>
     obtain⟨e,he,ek,a0,hv,ha0⟩:=sx t.1 dr hq;rw[hv];refine aZ ?_;have ge:=gd e he
     refine⟨_,rfl,s0,dx,_,rfl,Kd,rfl,_,rfl,_,rfl,dd,_,rfl,(by rw[<-hv];exact oM.t hd (Kr _ λ_ _ e=>e)),_,rfl,s0,dx,a0,nu,p,e.2.1,e.2.2,t.2.1,t.2.2,rfl,Kd,hp,ha0,IZ,
      ge.2.1,ge.2.2,gt.2.1.mono Sb,gt.2.2.mono Sb,ge.ne,gt.ne,λa1 Jt=>?_⟩
     have sU:au H2 (upd H2 a1 (eM (jj p e.2 t.2).1 (jj p e.2 t.2).2)):=ai Jt;refine⟨_,rfl,_,rfl,_,rfl,dd,_,rfl,vE.t (sU _ _ hd) (Kr _ (bh.of sU)) Ox,?_⟩
     obtain⟨f1,f2⟩:=fin _ a1 (λb u z=>sU _ _ (sH _ _ z)) (bh.of sU) (sU _ _ hd) (λz=>by rw[hq] at z;cases z) λe' he' z=>by
      have:e'=e:=qE Sd he' he (z.trans ek.symm);subst this;exact ae
     exact⟨GV,f1,f2,_,_,rfl⟩
  ·have ei:i=ts.length:=by omega
   subst ei;refine .inl ⟨⟨ys,aM.of HV,by omega⟩,?_⟩;rw[List.take_length] at dr gd Sd gl;refine⟨_,rfl,dd,GK,rfl,.inr ⟨hd,λo=>?_⟩⟩
   have sF:au H (upd H' dd (vG o GK)):=λb u e=>by rw[aq (av e Js)];exact sH b u e
   have drF:DR (upd H' dd (vG o GK)) GK (bK p ts):=dr.keep (bh.upd λxs z=>by rw[hd] at z;cases z);have kl:GK.length=(bK p ts).length:=dr.length
   refine⟨λi m xs σ' H2=>m=(bK p ts).length-i/\i<=(bK p ts).length/\au H H2/\H2 dd=some (vG o GK)/\DR H2 GK (bK p ts)/\cz H2 xs (((bK p ts).take i).filter λe=>e.2.1 != 0)/\∃o1 o2,σ'=[o1,o2],
    ⟨(bK p ts).length,by simp,Nat.zero_le _,sF,ae,drF,.nil,none,none,rfl⟩,?_⟩
   rintro i m' xs σ' H2 ⟨rfl,hi2,s2,hd2,Ux,Jl,o1,o2,rfl⟩
   have xl:xs.length<=(bK p ts).length:=by
    rw[Jl.length];exact Nat.le_trans (List.length_filter_le _ _) (by simp;omega)
   refine⟨Nat.lt_of_le_of_lt (Nat.le_trans xl gl) (Nat.lt_trans h64 (by decide)),?_⟩
   by_cases Oy:i<(bK p ts).length
   ·refine .inr ⟨⟨by omega,hd2⟩,λx H3 hx=>?_⟩;obtain⟨pp,b,k,v,hk,YB,hb,rfl,rfl⟩:=hx;obtain⟨e,ee,ek,a,ev,ha⟩:=dm Ux hk;have ek:k=oG e.1:=ek;have ev:v=.ref a:=ev;subst ek;subst ev;have sP:au H2 (upd H2 pp (.tup [.ref b,.ref a])):=ai YB
    have Kq:(bK p ts).take (i+1)=(bK p ts).take i++[e]:=by rw[List.take_add_one,ee];rfl
    rw[nV] at hb;refine⟨pp,_,rfl,bX.of ae,rfl,_,_,rfl,_,_,rfl,rfl,?_⟩;refine⟨_,rfl,a,_,0,_,rfl,rfl,bX.of (sP _ _ ha),rfl,rfl,_,rfl,?_⟩;have dP:upd H2 pp (.tup [.ref b,.ref a]) dd=some (vG o GK):=sP _ _ hd2
    cases hz:(e.2.1 != 0) with
    |true =>
     have z:(!decide (V.int e.2.1=V.int 0))=true:=by
      have:e.2.1≠0:=by simpa using hz
      simp[this]
     rw[z];refine aZ ⟨_,rfl,_,rfl,d9,λt' ht'=>?_⟩;have sT:au (upd H2 pp (.tup [.ref b,.ref a])) (upd (upd H2 pp (.tup [.ref b,.ref a])) t' (.tup [.ref b,.ref a])):=ai ht';have sA:au H2 (upd (upd H2 pp (.tup [.ref b,.ref a])) t' (.tup [.ref b,.ref a])):=λc u e=>sT _ _ (sP _ _ e);refine⟨(bK p ts).length-(i+1),by omega,rfl,Oy,λc u e=>sA _ _ (s2 _ _ e),sA _ _ hd2,Ux.keep (bh.of sA),?_,_,_,rfl⟩;rw[Kq,List.filter_append]
     have ef:[e].filter (λe=>e.2.1 != 0)=[e]:=by simp[hz]
     rw[ef];exact Paired.snoc (cz.keep Jl (bh.of sA)) ⟨t',b,a,rfl,ae,sA _ _ hb,sA _ _ ha⟩
    |false =>
     have z:(!decide (V.int e.2.1=V.int 0))=false:=by
      have:e.2.1=0:=by simpa using hz
      simp[this]
     rw[z];refine aS ⟨(bK p ts).length-(i+1),by omega,rfl,Oy,λc u e=>sP _ _ (s2 _ _ e),sP _ _ hd2,Ux.keep (bh.of sP),?_,_,_,rfl⟩;rw[Kq,List.filter_append]
     have ef:[e].filter (λe=>e.2.1 != 0)=[]:=by simp[hz]
     rw[ef,List.append_nil];exact cz.keep Jl (bh.of sP)
   ·have ei2:i=(bK p ts).length:=by omega
    subst ei2;refine .inl ⟨⟨by omega,hd2⟩,λD hD=>?_⟩;rw[List.take_length] at Jl;have sD:au H2 (upd H2 D (.lst xs)):=ai hD;refine⟨_,rfl,D,xs,rfl,aM.of ae,Nat.lt_of_le_of_lt (Nat.le_trans xl gl) h64,?_⟩;refine mQ (cz.keep Jl (bh.of sD)) λks H3 s3 hk=>?_;refine⟨_,qk hk,zw Sd _,λD2 YX=>?_⟩;have sE:au H3 (upd H3 D2 (.lst ((fG ((((bK p ts).filter λe=>e.2.1 != 0).map ku).zip xs)).map (·.2)))):=ai YX;refine q _ D2 _ (λc u e=>sE _ _ (s3 _ _ (sD _ _ (s2 _ _ e)))) (none_of (λc u e=>s3 _ _ (sD _ _ (s2 _ _ e))) YX) ae ?_;have hx3:cz H3 xs ((bK p ts).filter λe=>e.2.1 != 0):=cz.keep Jl (bh.of λc u e=>s3 _ _ (sD _ _ e));exact cz.keep (pW (lJ (pJ hx3))) (bh.of sE)
noncomputable abbrev qV:Stmt:=aL (aY 34) 0
noncomputable def C8 (ks:List Int):Prop:=lj (some (ks.map V.int))=true/\ks.length<4000
theorem zP {t b:Int}(n:Num p t b):wq p (some (.int t,.int b))=true:=by
 unfold wq;dsimp only
 by_cases z:p=0
 ·rw[if_pos z,n.red];have:=n.pos;simp;omega
 ·rw[if_neg z];obtain⟨h1,h2,h3⟩:=n.pr z;simp[h1,h2,h3]
theorem Ej {y:V}{t:Tm}(h:Et H y t)(g:Gn p n t.2)(pd:C8 t.1):FJ p H y true:=by
 obtain⟨a,pr,nu,rfl,ha,IA,IZ⟩:=h
 have e:FJ p H (.ref a) (lj (some (t.1.map V.int))&&wq p (some (.int t.2.1,.int t.2.2))):=.two ha (.tup IA (by rw[List.length_map];exact pd.2) λy hy=>by
  obtain⟨k,_,rfl⟩:=List.mem_map.mp hy
  exact⟨_,.int k⟩) (.two IZ (.int _) (.int _))
 rw[pd.1,zP g.1] at e;exact e
theorem yZ :∀{ys:List V}{ts:List Tm},cz H ys ts->(∀t∈ts,Gn p n t.2/\C8 t.1)->∀y∈ys,FJ p H y true
 |_,_,.nil,_,y,hy=>nomatch hy
 |_,_,.cons h t,g,y,hy=>by
  rcases List.mem_cons.mp hy with rfl|hy
  ·exact Ej h (g _ List.mem_cons_self).1 (g _ List.mem_cons_self).2
  ·exact yZ t (λt ht=>g t (List.mem_cons_of_mem _ ht)) y hy
structure zz (K:Frag)(mg:vJ)(C:Addr):Prop where
 cl:DJ K C
 nF:bJ K C "its_field"
 nT:bJ K C "its_terms"
 mgC:mg "Sum"=some (.ref C)
noncomputable def uR (fl D:Addr):List (Str×V):=[("its_field",.ref fl),("its_terms",.ref D)]
noncomputable def iT (C CF:Addr):Sp:=λvs H Q _=>∃(s dx fl GO:Addr)(p:Int)(x:V)(ts:List Tm)(m:Nat),vs=[.ref s,.ref fl,x]/\H s=some (.ins C dx [])/\H fl=some (.ins CF GO (cw p))/\FP p /\
 ((x=.non/\ts=[])\/∃l ys,x=.ref l/\H l=some (.lst ys)/\cz H ys ts)/\ts.length<64/\(∀t∈ts,Gn p m t.2/\C8 t.1)/\(m+1)*ts.length+7<=4000/\m<=4000 /\
 ∀H' D zs,SameBut s H H'->H D=none->H' s=some (.ins C dx (uR fl D))->H' D=some (.lst zs)->cz H' zs (fM (bK p ts))->Q .non H'
theorem zq:uQ vX vX (ar qV):=dI (by decide +kernel)
theorem yE {f fg fc C CF T:Addr}{fd JM K4:GF}(F:Fq K "__init__" "Sum.__init__" qV f fd T)(c:zz K mg C)
 (FG:Cy P w K mg base (bc P w) 5 fg JM GD (qG CF))(bG:L2.aI K JM GD [])(mG:mg "gathered"=some (.ref fg))(kG:keepIn K (.ref fg)=true)
 (FC:Cy P w K mg base (bc P w) 5 fc K4 GD (nH CF))(bC:L2.aI K K4 GD [])(mC:mg "checked_terms"=some (.ref fc))(kC:keepIn K (.ref fc)=true):
 Cy P w K mg base (bc P w) 6 f fd vX (iT C CF):=by
 refine F.okE zq (λvs H Q E h=>?_) (λGL A outer s H vs Q E hr h=>?_)
 ·obtain⟨s,dx,fl,GO,p,x,ts,m,rfl,_⟩:=h;rfl
 ·obtain⟨s0,dx,fl,GO,p,x,ts,m,rfl,hs,hf,hp,hx,h64,hG,hm,Sb,q⟩:=h;have Se:pL 5 _:=hr.mono (by decide);refine⟨_,aj (ib (pv 0) (pv 1) rfl) (ao (ib (pv 0) (ay FG Se (by rfl) mG kG bG .nil ag (@ah _ _ _ _ _ (pv 1) (@ah _ _ _ _ _ (ay FC Se (by rfl) mC kC bC .nil ag (@ah _ _ _ _ _ (pv 1) (@ah _ _ _ _ _ (pv 2) af rfl) rfl)) af rfl) rfl)) rfl)),?_⟩;refine⟨_,rfl,_,rfl,s0,C,dx,_,rfl,hs,c.cl,c.nF,by decide,?_⟩
  have N6:fl≠s0:=λz=>by
   rw[z,hs] at hf
   injection hf with hf
   injection hf with _ _ hf
   cases hf
  have Uy:upd H s0 (.ins C dx (cE "its_field" (.ref fl) [])) fl=some (.ins CF GO (cw p)):=by rw[aq N6];exact hf
  have kT:bh H (upd H s0 (.ins C dx (cE "its_field" (.ref fl) []))):=bh.upd λxs z=>by rw[hs] at z;cases z
  have fin:∀(H2:Hp)(l:Addr)(ys:List V),au (upd H s0 (.ins C dx (cE "its_field" (.ref fl) []))) H2->H2 l=some (.lst ys)->cz H2 ys ts->qG CF [.ref fl,.ref l] H2 (λy H1=>dY 0 [some (.ref s0),some (.ref fl),some x] H1 λx2 H2=>∃a C dx fs,x2=.ref a/\H2 a=some (.ins C dx fs)/\DJ K C/\bJ K C "its_terms"/\fs.length<1000 /\
   Q .non (upd H2 a (.ins C dx (cE "its_terms" y fs)))) λ_ _ _=>False:=by
   intro H2 l ys s2 hl ht;refine⟨fl,GO,l,p,ys,ts,m,rfl,s2 _ _ Uy,hp,hl,ht,h64,λt ht=>(hG t ht).1,hm,Sb,λH3 D zs s3 h0 hD hz=>?_⟩;have LS:H3 s0=some (.ins C dx (cE "its_field" (.ref fl) [])):=s3 _ _ (s2 _ _ ae);refine⟨_,rfl,s0,C,dx,_,rfl,LS,c.cl,c.nT,(by show 1<1000;decide),?_⟩
   have nD:D≠s0:=λz=>by rw[z,LS] at hD;cases hD
   refine q _ D zs (λb u e nb=>?_) (none_of (λc u e=>e) (by
    cases e:H D with
    |none=>rfl
    |some u=>rw[s2 D u (by rw[aq nD];exact e)] at h0;cases h0)) ae (by rw[aq nD];exact hD) (cz.keep hz (bh.upd λxs z=>by rw[LS] at z;cases z))
   rw[aq nb];exact s3 _ _ (s2 _ _ (by rw[aq nb];exact e))
  rcases hx with⟨rfl,rfl⟩|⟨l,ys,rfl,hl,ht⟩
  ·refine⟨_,rfl,_,rfl,_,rfl,fl,GO,p,.non,rfl,Uy,hp,.inl ⟨rfl,λl hl=>?_⟩⟩;exact fin _ l [] (ai hl) ae .nil
  ·have nl:l≠s0:=λz=>by rw[z,hs] at hl;cases hl
   have Io:upd H s0 (.ins C dx (cE "its_field" (.ref fl) [])) l=some (.lst ys):=by rw[aq nl];exact hl
   have Sf:=cz.keep ht kT;refine⟨_,rfl,_,rfl,_,rfl,fl,GO,p,.ref l,rfl,Uy,hp,.inr ⟨l,ys,rfl,Io,?_,yZ Sf hG,λH2 s2=>?_⟩⟩
   ·rw[ht.length];omega
   ·exact fin _ l ys s2 (s2 _ _ Io) (cz.keep Sf (bh.of s2))
end K16
namespace L2
open PySem PySem.Spec PyProof.Rows PySem.W
theorem lO:∀{ns:List Int}{us:oH},aK (ns.map V.int) us->IntsAre us ns
 |[],us,r=>by cases r;exact .nil
 |n::ns,us,r=>by
  rw[List.map_cons] at r
  cases r with
  |cons h t =>
   obtain⟨k,rfl⟩:=(show ∃k,_=Value.int n k from h);exact .cons n k (lO t)
section
variable {X:Cx}
theorem vH (hc:X.calm=true):cb X (.builtin "max") (λxs H Q=>∃(l:Addr)(ns:List Int),xs=[.ref l]/\aM X.K H l (ns.map V.int)/\ns≠[]/\∀m,m∈ns->(∀a∈ns,a<=m)->Q (.int m) H):=by
 intro pins s σ H xs us Q I r h;obtain⟨l,ns,rfl,hl,HH,q⟩:=h;obtain⟨u,rfl,ru⟩:=dS r
 cases(show u=Value.ref l from ru)
 obtain⟨its,rv,pl,hz⟩:=I.list hl;have hi:=lO rv;obtain⟨xs,e⟩:=hi.allInts.items
 have Kc:ns=xs.toList.map (·.1):=by rw[<-hi.numsOf,<-nums_intItems,<-e]
 have hsz:0<xs.size:=by
  have h3:0<ns.length:=List.length_pos_iff.mpr HH;rw[Kc,List.length_map,Array.length_toList] at h3;exact h3
 have Ia:=pl.isList;rw[e] at Ia;refine max_intList (I.ok.hd hc) Ia hsz λv h' tk hv hk=>?_;obtain⟨t,rfl⟩:=intItems_at hv;obtain⟨h1,h2⟩:=argBest_gt (numAt xs) (xs.size-1);refine⟨.int _,H,I.kept (t':=tk) hk,⟨t,rfl⟩,q _ ?_ λa ha=>?_⟩
 ·rw[Kc,numAt_eq];exact getD_mem (by rw[List.length_map,Array.length_toList];omega)
 ·rw[Kc] at ha;obtain⟨j,hj,rfl⟩:=mem_getD ha;rw[List.length_map,Array.length_toList] at hj;rw[<-numAt_eq];exact h2 j (by omega)
end
end L2
namespace Mx
open PySem PyProof.Rows
noncomputable def il:Option Int->List Int->Option Int
 |b,[]=>b
 |none,n::ns=>il (some n) ns
 |some m,n::ns=>il (some (if n>m then n else m)) ns
noncomputable def kept (c:Nat):Option (Int×Tok)->Obj
 |none=>{cls:=.type "list",dict:=none,data:=.seq #[] c,slots:=#[]}
 |some (m,t)=>{cls:=.type "list",dict:=none,data:=.seq #[.int m t,.int m t] c,slots:=#[]}
section
variable {prog:wM}{w:World}{A:Around}{E:wA}{s:GH}{R:Result->Shared->Prop}
theorem zy {a b:Int}{t u:Tok}{Q:wA}(h:Q (.bool (decide (a>b))) s):wpAny (model prog w) A (richCompare .Gt (.int a t) (.int b u)) Q E s :=
 CmpOf.ints_gt (P:=λi v=>∃t,v=.int (if i=0 then a else b) t) (λi=>if i=0 then a else b) (λ{_ _} h=>h) 0 1 _ _ s Q E ⟨t,by simp⟩ ⟨u,by simp⟩ (by simpa using h)
theorem Bs (a v:Value):argsOk "max" ⟨[a],[(Str.ofString "default",v)]⟩:=by unfold argsOk;kernel_rfl
theorem loop {I l S:Addr}{items:BU}{d:Value}(hh:A.handled=none)(K5:S≠I)(Oz:S≠l)(Nj:l≠I):∀(ns:List Int)(i:Nat)(s:GH)(b:Option (Int×Tok))(c:Nat),
 s.heap.IsListIter I l i->s.heap.IsList l items->IntsAre (items.toList.drop i) ns->s.heap.get? S=some (kept c b) →
 (∀v h' tk,(match il (b.map (·.1)) ns with|none=>v=d|some m=>∃t,v=.int m t)->(∀x o,x≠I->x≠S->s.heap.get? x=some o->h'.get? x=some o)->R (.ok (.ret v)) {s with heap:=h',toks:=tk}) →
 codeAny (model prog w) A (.builtin "max.loop" ⟨[.ref I,.none,.ref S],[(Str.ofString "default",d)]⟩) R s
 |[],i,s,b,c,hit,hl,hn,hS,hR=>by
  have hx:items[i]?=none:=by
   have e:items.toList.drop i=[]:=by cases hq:items.toList.drop i with
    |nil=>rfl
    |cons x r=>rw[hq] at hn;cases hn
   have:=List.drop_eq_nil_iff.mp e;simp at this |-;omega
  refine codeAny_builtin F.entry_max_loop ?_;rw[Around.under_plainId F.plain_max_loop _]
  cases b with
  |none =>
   show wpAny _ A.in1 (seqItems? (.ref S)>>=_) _ _ s;refine wpAny_bind (wpAny_seqItems hS rfl ?_);show wpAny _ A.in1 (tryCatch (pyNext (.ref I)) _>>=_) _ _ s;refine wpAny_bind (wpAny_tryCatch (wpAny_pyNext_list_end hh hit hl hx λh' eb=>?_));refine wpAny_bind (wpAny_rule (wpAny_pure ?_));exact hR d h' s.toks rfl λx o h1 _ e=>eb x o h1 e
  |some p =>
   obtain⟨m,t⟩:=p;show wpAny _ A.in1 (seqItems? (.ref S)>>=_) _ _ s;refine wpAny_bind (wpAny_seqItems hS rfl ?_);show wpAny _ A.in1 (tryCatch (pyNext (.ref I)) _>>=_) _ _ s;refine wpAny_bind (wpAny_tryCatch (wpAny_pyNext_list_end hh hit hl hx λh' eb=>?_));have K6:=eb S _ K5 hS;show wpAny _ A.in1 (updateSeq S (λ_=>#[])>>=_) _ _ _;refine wpAny_bind (wpAny_updateSeq K6 rfl (wpAny_bind (wpAny_letGo (wpAny_pure ?_))));exact hR _ _ s.toks ⟨t,rfl⟩ λx o h1 h2 e=>(Heap.get?_update_other _ _ (Ne.symm h2)).trans (eb x o h1 e)
 |n::ns,i,s,b,c,hit,hl,hn,hS,hR=>by
  have IV:(toString "max"++toString ".loop":String)="max.loop":=by decide
  obtain⟨t,hx,Ly⟩:∃t,items[i]?=some (.int n t)/\IntsAre (items.toList.drop (i+1)) ns:=by
   cases hq:items.toList.drop i with
   |nil=>rw[hq] at hn;cases hn
   |cons x r =>
    rw[hq] at hn
    cases hn with
    |cons _ t hr =>
     refine⟨t,?_,?_⟩
     ·have:(items.toList.drop i)[0]?=some (Value.int n t):=by rw[hq];rfl
      simpa using this
     ·have:items.toList.drop (i+1)=(items.toList.drop i).drop 1:=by rw[List.drop_drop,Nat.add_comm]
      rw[this,hq];exact hr
  refine codeAny_builtin F.entry_max_loop ?_;rw[Around.under_plainId F.plain_max_loop _]
  cases b with
  |none =>
   show wpAny _ A.in1 (seqItems? (.ref S)>>=_) _ _ s;refine wpAny_bind (wpAny_seqItems hS rfl ?_);show wpAny _ A.in1 (tryCatch (pyNext (.ref I)) _>>=_) _ _ s;refine wpAny_bind (wpAny_tryCatch (wpAny_pyNext_list_item hit hl hx λh' Ks sb=>?_));have K6:=(sb.2 S K5).trans hS;show wpAny _ A.in1 (updateSeq S (λ_=>#[.int n t,.int n t])>>=_) _ _ _;refine wpAny_bind (wpAny_updateSeq K6 rfl ?_);rw[IV];refine wpAny_pure ⟨plainId_quiet F.plain_max_loop _,?_⟩;have up:∀x o,x≠S->h'.get? x=some o->(h'.update S (Obj.mapSeq λ_=>#[.int n t,.int n t])).get? x=some o:=λx o hx e=>(Heap.get?_update_other _ _ (Ne.symm hx)).trans e;refine loop hh K5 Oz Nj ns (i+1) _ (some (n,t)) _ (Ks.at λo e=>up I o (Ne.symm K5) e) ((hl.extBut sb.extBut Nj).at λo e=>up l o (Ne.symm Oz) e) Ly (Heap.get?_update_self _ K6 rfl) λv h2 tk hv hk=>?_;exact hR v h2 tk hv λx o h1 h3 e=>hk x o h1 h3 (up x o h3 ((sb.2 x h1).trans e))
  |some p =>
   obtain⟨m,u⟩:=p;show wpAny _ A.in1 (seqItems? (.ref S)>>=_) _ _ s;refine wpAny_bind (wpAny_seqItems hS rfl ?_);show wpAny _ A.in1 (tryCatch (pyNext (.ref I)) _>>=_) _ _ s;refine wpAny_bind (wpAny_tryCatch (wpAny_pyNext_list_item hit hl hx λh' Ks sb=>?_));have K6:=(sb.2 S K5).trans hS;show wpAny _ A.in1 (tryCatch (holding [.int n t,.int n t] (richCompare .Gt (.int n t) (.int m u)>>=_)) _>>=_) _ _ _;refine wpAny_bind (wpAny_tryCatch (wpAny_holding (wpAny_bind (zy ?_))));refine wpAny_bind (wpAny_holding (wpAny_truthy_bool ?_));refine wpAny_bind (wpAny_letGo (wpAny_pure ?_))
   by_cases hb:n>m
   ·simp only[decide_eq_true hb,if_true];refine wpAny_bind (wpAny_updateSeq K6 rfl (wpAny_bind (wpAny_letGo ?_)));rw[IV];refine wpAny_pure ⟨plainId_quiet F.plain_max_loop _,?_⟩;have up:∀x o,x≠S->h'.get? x=some o->(h'.update S (Obj.mapSeq λ_=>#[.int n t,.int n t])).get? x=some o:=λx o hx e=>(Heap.get?_update_other _ _ (Ne.symm hx)).trans e;refine loop hh K5 Oz Nj ns (i+1) _ (some (n,t)) _ (Ks.at λo e=>up I o (Ne.symm K5) e) ((hl.extBut sb.extBut Nj).at λo e=>up l o (Ne.symm Oz) e) Ly (Heap.get?_update_self _ K6 rfl) λv h2 tk hv hk=>?_;refine hR v h2 tk ?_ λx o h1 h3 e=>hk x o h1 h3 (up x o h3 ((sb.2 x h1).trans e));simpa only[Option.map_some,il,if_pos hb] using hv
   ·simp only[decide_eq_false hb,Bool.false_eq_true,if_false];refine wpAny_bind (wpAny_letGo ?_);rw[IV];refine wpAny_pure ⟨plainId_quiet F.plain_max_loop _,?_⟩;refine loop hh K5 Oz Nj ns (i+1) _ (some (m,u)) c Ks (hl.extBut sb.extBut Nj) Ly K6 λv h2 tk hv hk=>?_;refine hR v h2 tk ?_ λx o h1 h3 e=>hk x o h1 h3 ((sb.2 x h1).trans e);simpa only[Option.map_some,il,if_neg hb] using hv
theorem Ap {id:String}{b:Builtin}{args:oH}{kw:List (Str×Value)}{Q:wA}(hk:builtinKind id=none)(hp:plainId id=true)(hb:entryFor table id=some b)(ha:argsOk id ⟨args,kw⟩)
 (hc:wpAny (model prog w) A.in1 (b ⟨args,kw⟩) (λfin s'=>match fin with
  | .done f=>(match (Except.ok f:Result) with| .ok (.ret v)=>Q v s'| .ok _=>False| .error e=>E e s')
  | .again c'=>c'.quiet=true/\codeAny (model prog w) A c' (λr s'=>match r with| .ok (.ret v)=>Q v s'| .ok _=>False| .error e=>E e s') s') E s):
 wpAny (model prog w) A (call (.builtin id) args kw) Q E s:=by
 refine wpAny_call (codeAny_call_builtin hp hb ?_);simp only[checkBuiltinCall,hk]
 cases Uz:Manifest.signature? id with
 |none=>exact wpAny_pure hc
 |some Bb =>
  have Jo:Bind.checkArgs id Bb ⟨args,kw⟩=pure ():=by simpa only[argsOk,Uz] using ha
  simp only[Jo];exact wpAny_pure hc
theorem B7 {l:Addr}{items:BU}{ns:List Int}{d:Value}{Q:wA}(hh:A.handled=none)(hl:s.heap.IsList l items)(hn:IntsAre items.toList ns)
 (hQ:∀v h' tk,(match il none ns with|none=>v=d|some m=>∃t,v=.int m t)->(∀x o,s.heap.get? x=some o->h'.get? x=some o)->Q v {s with heap:=h',toks:=tk}):
 wpAny (model prog w) A (call (.builtin "max") [.ref l] [(Str.ofString "default",d)]) Q E s:=by
 have IV:(toString "max"++toString ".loop":String)="max.loop":=by decide
 refine Ap F.kind_max F.plain_max F.entry_max (Bs _ _) ?_;show wpAny _ A.in1 (Builtin.Builtins.bindParams "max" ["key","default"] 0 ⟨[],[(Str.ofString "default",d)]⟩>>=_) _ _ s;refine wpAny_bind (wpAny_of_eq (show Builtin.Builtins.bindParams "max" ["key","default"] 0 ⟨[],[(Str.ofString "default",d)]⟩=pure [none,some d] from rfl) ?_);refine wpAny_bind (wpAny_pure ?_);refine wpAny_bind (wpAny_pyIter_list hl ?_);refine wpAny_bind (wpAny_newObj_type ?_);rw[IV]
 have lt:l<s.heap.objs.size:=by obtain⟨o,e,_⟩:=hl;exact Heap.lt_size e
 have sz:(s.heap.push {cls:=.type "list_iterator",data:=.fields #[.ref l,.int 0 0]}).objs.size=s.heap.objs.size+1:=Heap.size_push ..;have g2:∀x o,s.heap.get? x=some o->((s.heap.push {cls:=.type "list_iterator",data:=.fields #[.ref l,.int 0 0]}).push {cls:=.type "list",data:=.seq #[]}).get? x=some o:=λx o e=>Heap.get?_push_of_some _ (Heap.get?_push_of_some _ e);refine wpAny_pure ⟨plainId_quiet F.plain_max_loop _,loop (items:=items) hh ?_ ?_ (Nat.ne_of_lt lt) ns 0 _ none 0 ⟨_,Heap.get?_push_of_some _ (Heap.get?_push_size _ rfl),rfl,rfl⟩ (hl.at λo e=>g2 l o e) (by simpa using hn) (Heap.get?_push_size _ rfl) λv h' tk hv hk=>?_⟩
 ·show(s.heap.push _).objs.size≠s.heap.objs.size;rw[sz];exact Nat.succ_ne_self _
 ·show(s.heap.push _).objs.size≠l;rw[sz];exact Nat.ne_of_gt (Nat.lt_succ_of_lt lt)
 ·refine hQ v h' tk hv λx o e=>hk x o (Nat.ne_of_lt (Heap.lt_size e)) ?_ (g2 x o e);show x≠(s.heap.push _).objs.size;rw[sz];exact Nat.ne_of_lt (Nat.lt_succ_of_lt (Heap.lt_size e))
end
end Mx
namespace L2
open PySem PySem.Spec PyProof.Rows PySem.W
section
variable {X:Cx}{e d:Expr}{ta td:TE}{p kpos pos:Pos}
noncomputable def DW (K:Frag)(ta td:TE):TE:=λσ H Q=>cO ta D1 σ H λvs H1=>cO td D1 σ H1 λds H2=>∃(l:Addr)(ns:List Int)(dv:V),vs=[.ref l]/\ds=[dv]/\aM K H2 l (ns.map V.int)/\Q (match Mx.il none ns with|none=>dv|some m=>.int m) H2
theorem tO (ha:PE X e ta)(hd:PE X d td)(hc:X.calm=true)(hg:Gl X "max")(hm:X.mg "max"=none)(hs:gJ e=false:=by rfl):PE X (.Call (.Name "max" p) [e] [⟨some "default",d,kpos⟩] pos) (DW X.K ta td):=by
 intro pins s σ H Q I h;refine wpAny_Call_Name_kw (gM I hg hm (by rfl) ?_ (by decide) (by decide));refine callWith_builtin_kwB (by rw[b8 hs];rfl) rfl (evalArgs_kw2 rfl ?_ (b8 hs));refine bA (ah ha af hs pos pins s σ H _ I h) λus s1 z'=>?_;obtain⟨vs,H1,I1,r1,h1⟩:=z';refine bA (oY (nm:=some "default") (kpos:=kpos) hd ym pos pins s1 σ H1 _ I1 h1) λws s2 z'=>?_;obtain⟨ds,H2,I2,r2,l,ns,dv,e1,e2,hl,q⟩:=z';subst e1 e2;obtain⟨u,rfl,ru⟩:=dS r1
 cases(show u=Value.ref l from ru)
 obtain⟨w',rfl,IL⟩:=dS r2;obtain⟨its,rv,pl,hz⟩:=I2.list hl;show wpAny _ X.A (call (.builtin "max") [.ref l] [(Str.ofString "default",w')]) _ _ s2;refine Mx.B7 (I.ok.hd hc) pl.isList (by simpa using lO rv) λv h' tk hv hk=>?_;refine⟨_,H2,I2.kept (t':=tk) hk,?_,q⟩
 cases hb:Mx.il none ns with
 |none=>rw[hb] at hv;cases hv;exact IL
 |some m=>rw[hb] at hv;obtain⟨t,rfl⟩:=hv;exact⟨t,rfl⟩
end
end L2
namespace K16
open PySem L2 PySem.W Nm Srt
noncomputable abbrev sN:Stmt:=aL (aY 34) 5
noncomputable abbrev rR:Stmt:=aL (aY 34) 8
structure mh (C CF:Addr)(H:Hp)(s:Addr)(p:Int)(ts:List Tm):Prop where
 ex:∃dx fl GO D zs,H s=some (.ins C dx (uR fl D))/\H fl=some (.ins CF GO (cw p))/\H D=some (.lst zs)/\cz H zs ts
noncomputable def p3 (C CF:Addr):Sp:=λvs H Q _=>∃(s dx fl D:Addr),vs=[.ref s]/\H s=some (.ins C dx (uR fl D))/\Q (.ref fl) H
theorem zf:uQ ["self"] ["self"] (ar sN):=dI (by decide +kernel)
variable {P:wM}{w:World}{K:PySem.W.Frag}{mg:vJ}{base:Heap}
theorem vS {f C CF:Addr}{fd:GF}(F:E6 K "field" "Sum.field" sN f fd)(c:zz K mg C):Cy P w K mg base (bc P w) 1 f fd ["self"] (p3 C CF):=by
 refine F.okN zf (λvs H Q E h=>?_) (λGL A outer s H vs Q E hr h=>?_)
 ·obtain⟨s,dx,fl,D,rfl,_⟩:=h;rfl
 ·obtain⟨s0,dx,fl,D,rfl,hs,q⟩:=h;exact⟨_,ao (aw (br (pv 0) rfl)),_,rfl,s0,C,dx,_,_,rfl,hs,c.cl,c.nF,rfl,q⟩
end K16
namespace L2
open PySem PySem.Spec PyProof.Rows PySem.W
theorem qo:∀{ts:xQ}{us:oH},aK (ts.map V.str) us->StrsAre us ts
 |[],us,r=>by cases r;exact .nil
 |n::ns,us,r=>by
  rw[List.map_cons] at r
  cases r with
  |cons h t =>
   obtain⟨k,rfl⟩:=(show ∃k,_=Value.str n k from h);exact .cons n k (qo t)
section
variable {X:Cx}
noncomputable def yr (K:Frag):V->List V->Hp->VK->Prop:=λx vs H Q=>∃(sep:Str)(l:Addr)(ts:xQ),x=.str sep/\vs=[.ref l]/\aM K H l (ts.map V.str)/\(ts.map (·.length)).sum+ts.length*sep.length<=16777216/\Q (.str (Str.join sep ts)) H
theorem n4:Dh X "str.join" (yr X.K):=by
 intro pins s σ H x vs v us Q I rx rv h;obtain⟨sep,l,ts,rfl,rfl,hS,hz,q⟩:=h;obtain⟨tk,rfl⟩:=(show ∃tk,v=Value.str sep tk from rx);obtain⟨u,rfl,ru⟩:=rv.one
 cases(show u=Value.ref l from ru)
 obtain⟨its,r,pl,_⟩:=I.list hS;refine join_list pl.isList (by simpa using qo r) hz λt' k=>?_;refine⟨.str (Str.join sep ts),H,I.tok _,⟨t',?_⟩,q⟩;rw[show Txt.join sep ts=Str.join sep ts from StrLaws.glued_eq_join sep ts]
noncomputable def acH:V->List V->Hp->VK->Prop:=λx vs H Q=>∃(z:Str)(i:Int),x=.str z/\vs=[.int i]/\PadOk i=true/\Q (.str (Txt.zfill z i)) H
theorem xj:Dh X "str.zfill" acH:=by
 intro pins s σ H x vs v us Q I rx rv h;obtain⟨z,i,rfl,rfl,hp,q⟩:=h;obtain⟨tk,rfl⟩:=(show ∃tk,v=Value.str z tk from rx);obtain⟨u,rfl,ru⟩:=rv.one;obtain⟨t2,rfl⟩:=(show ∃t2,u=Value.int i t2 from ru);exact SC.zfill hp λt' k=>⟨.str (Txt.zfill z i),H,I.tok _,⟨t',rfl⟩,q⟩
theorem vF:cb X (.type "str") (λxs H Q=>∃z,xs=[.str z]/\Q (.str z) H):=by
 intro pins s σ H xs us Q I r h;obtain⟨z,rfl,q⟩:=h;obtain⟨u,rfl,ru⟩:=dS r;obtain⟨tk,rfl⟩:=(show ∃tk,u=Value.str z tk from ru);exact PySem.P.str_of_str ⟨.str z,H,I,⟨tk,rfl⟩,q⟩
noncomputable def DL (te:TE):TE:=λσ H Q=>te σ H λv H1=>∃z:Str,v=.str z/\z.length<=sizeLine/\Q (.str z) H1
theorem oV {e:Expr}{te:TE}{pos:Pos}(he:PE X e te):PE X (.FormattedValue e (-1) none pos) (DL te):=by
 intro pins s σ H Q I h;refine FormattedValue_plain (bA (he pins s σ H _ I h) λv s1 z'=>?_);obtain⟨x,H1,I1,r1,z,ez,hb,q1⟩:=z';subst ez;obtain⟨tk,rfl⟩:=(show ∃tk,v=Value.str z tk from r1);exact formatField_str (λt' k=>⟨.str z,H1,I1.tok _,⟨t',rfl⟩,q1⟩) hb
noncomputable def EO (K:Frag)(te:TE)(ts:TO):TE:=λσ H Q=>te σ H λx H1=>ts σ H1 λst H2=>st=some (-1)/\∃a xs,x=.ref a/\aM K H2 a xs/\∀p,H2 p=none->Q (.ref p) (upd H2 p (.lst xs.reverse))
theorem wV {xs:List V}{us:oH}(r:aK xs us):aK xs.reverse us.reverse:=by
 induction r with
 |nil=>exact .nil
 |cons h t ih=>rw[List.reverse_cons,List.reverse_cons];exact ih.append (.cons h .nil)
theorem Ci {e st:Expr}{te:TE}{ts:TO}{p2 pos:Pos}(he:PE X e te)(hs:PO X (some st) ts):PE X (.Subscript e (.Slice none none (some st) p2) pos) (EO X.K te ts):=by
 intro pins s σ H Q I h;refine Subscript_ (bA (he pins s σ H _ I h) λv s1 z'=>?_);obtain⟨x,H1,I1,r1,q1⟩:=z';refine wpAny_Slice ?_;rw[evalPart_none];refine wpAny_pure (wpAny_pure ?_);refine bA (hs pins s1 σ H1 _ I1 q1) λvs s3 z'=>?_;obtain⟨o,H3,I3,po,q3⟩:=z';obtain⟨eo,a,xs,ex,hq,q⟩:=q3;subst eo ex
 cases(show v=Value.ref a from r1)
 have I4:Inv X pins σ H3 {s3 with heap:=s3.heap.push {cls:=.type "slice",data:=.fields #[.none,.none,vs]} }:=I3.kept (t':=s3.toks) λb ob q=>Heap.get?_push_of_some _ q;obtain⟨its,r,ht,hz⟩:=I4.list hq;have hlen:=r.length
 refine(show wpAny (model X.prog X.w) X.A (subscriptTail e (.Slice none none (some st) p2) (.ref a) (.ref s3.heap.objs.size)) (EP X pins σ Q) X.xe {s3 with heap:=s3.heap.push {cls:=.type "slice",data:=.fields #[.none,.none,vs]} } from
  tail_any (ops:=[.ref a,.ref s3.heap.objs.size]) ht.isList.typeIs slot_list_getitem.lookup ?_ (by with_unfolding_all rfl))
 refine wpAny_getItem_list_slice ht.isList (Heap.IsSliceOf.new ..) .none .none po (by decide) ?_ (by rw[List.size_toArray] <;> omega);rw[krv_pick];refine⟨.ref _,_,I4.laid (t':=s3.toks) (o:=.lst xs.reverse) (λb ob q=>Heap.get?_push_of_some _ q) (Nat.le_refl _) ?_,rfl,q _ (I4.hok.fresh (Nat.le_refl _))⟩;exact⟨by rw[List.length_reverse];exact hz,_,0,by simpa using wV r,Heap.get?_push_size _ rfl⟩
end
section
variable {X:Cx}{CX:GC}{k:Nat}{f C:Addr}{fd:GF}{ps:xQ}{sp:Sp}{E:XK}
theorem zW {pins:List (Addr×Obj)}{σ:St}{H:Hp}{s:GH}{Q:VK}{us:oH}{vs:List V}(F:Cy X.prog X.w X.K X.mg X.base CX k f fd ps sp)(hr:pL (k+2) X.A)(hb:aI X.K fd ps [])(hx:cD CX X E)
 (I:Inv X pins σ H s)(r:aK vs us)(h:sp vs H Q E):wpAny (model X.prog X.w) X.A.in1.in1 (call (.ref f) us) (EP X pins σ Q) X.xe s:=by
 have hl:us.length=ps.length:=by rw[<-r.length];exact F.len _ _ _ _ h
 have YY:=hb s us I.kIn (by rw[List.append_nil];exact hl);rw[List.append_nil] at YY;refine wpAny_call (codeAny_mono (F.run X.A.in1.in1 X.stack s H ⟨us,[]⟩ us vs Q E hr.in1.in1 I.aby.in1.in1 YY r h) λr s' hq=>?_)
 cases r with
 |error e=>exact hx pins σ H s e s' I hq
 |ok fl =>
  cases fl with
  |ret u=>exact I.after hq
  |next=>exact False.elim hq
  |brk=>exact False.elim hq
  |cont=>exact False.elim hq
theorem qf (hs:findIn X.K (.ref C) "__str__"=some (some (.ref f)))(hf:isFn X.K (.ref f)=true)(F:Cy X.prog X.w X.K X.mg X.base CX k f fd ps sp)(hr:pL (k+2) X.A)(hb:aI X.K fd ps [])(hx:cD CX X E):
 cb X (.type "str") (λxs H Q=>∃p dx fs,xs=[.ref p]/\H p=some (.ins C dx fs)/\sp [.ref p] H (λv H'=>∃m,v=.str m/\Q (.str m) H') E):=by
 intro pins s σ H xs us Q I r h;obtain⟨p,dx,fs,rfl,ep,q⟩:=h;obtain⟨u,rfl,ru⟩:=dS r
 cases(show u=Value.ref p from ru)
 obtain⟨mA,O,_⟩:=dD I.hok ep;obtain⟨od,J,_⟩:=O.look;have hu:X.A.units+64<cLine:=hr.units;refine kso_call (by show X.A.units+2<cLine;omega) I.kIn J hs hf ?_;refine wpAny_mono (zW F hr hb hx I (us:=[.ref p]) (vs:=[.ref p]) (.cons ru .nil) q) (λr s1 z'=>?_) λ_ _ e=>e;obtain⟨z,H1,I1,rz,m,em,q1⟩:=z';subst em;obtain⟨tk,rfl⟩:=(show ∃tk,r=Value.str m tk from rz);exact⟨.str m,H1,I1,⟨tk,rfl⟩,q1⟩
end
end L2
namespace Dg
open PySem PyProof.Rows
theorem gO (k:Nat):0<(10:Nat)^k:=Nat.pow_pos (by decide)
noncomputable abbrev dg (n:Nat):List Char:=Nat.toDigits 10 n
noncomputable def AH (k n:Nat):List Char:=List.replicate (k-(dg n).length) '0'++dg n
theorem iI {d:Nat}(h:d<10):dg d=[d.digitChar]:=Nat.toDigits_of_lt_base h
theorem wK {k m d:Nat}(hk:1<=k)(hm:m<10^k)(hd:d<10):AH (k+1) (10*m+d)=AH k m++[d.digitChar]:=by
 unfold AH
 by_cases h:m=0
 ·subst h;rw[show 10*0+d=d by omega,iI hd,show dg 0=['0'] from rfl];show List.replicate (k+1-1) '0'++[d.digitChar]=List.replicate (k-1) '0'++['0']++[d.digitChar];congr 1;rw[show k+1-1=(k-1)+1 by omega,List.replicate_succ']
 ·have e:dg (10*m+d)=dg m++[d.digitChar]:=by
   rw[<-iI hd];exact(Nat.toDigits_append_toDigits (b:=10) (by decide) (by omega) hd).symm
  rw[e,List.length_append,List.length_singleton,show k+1-((dg m).length+1)=k-(dg m).length by omega,List.append_assoc]
theorem cut:∀(k n:Nat),1<=k->10^k<=n->dg n=dg (n/10^k)++AH k (n%10^k)
 |0,n,h,_=>absurd h (by decide)
 |1,n,_,h=>by
  have h:10<=n:=by simpa using h
  have hd:n%10<10:=Nat.mod_lt _ (by decide);rw[show(10:Nat)^1=10 from rfl];unfold AH;rw[iI hd];exact Nat.toDigits_of_base_le (by decide) h
 |k+2,n,_,h=>by
  have p:(10:Nat)^(k+2)=10*10^(k+1):=by rw[Nat.pow_succ,Nat.mul_comm]
  have h10:10<=n:=by
   have:1<=(10:Nat)^(k+1):=gO _;omega
  have hk:10^(k+1)<=n/10:=(Nat.le_div_iff_mul_le (by decide)).mpr (by rw[Nat.mul_comm,<-p];exact h);have ih:=cut (k+1) (n/10) (by omega) hk;have hd:n%10<10:=Nat.mod_lt _ (by decide);have e1:dg n=dg (n/10)++[(n%10).digitChar]:=Nat.toDigits_of_base_le (by decide) h10
  have e2:n%10^(k+2)=10*((n/10)%10^(k+1))+n%10:=by
   rw[p,Nat.mod_mul];omega
  have e3:n/10^(k+2)=n/10/10^(k+1):=by rw[p,Nat.div_div_eq_div_mul]
  rw[e1,ih,e2,e3,wK (by omega) (Nat.mod_lt _ (gO _)) hd,List.append_assoc]
noncomputable def tx (n:Nat):Str:=⟨((dg n).map Char.toNat).toArray⟩
theorem t9 (n:Nat):Str.ofString (toString ((n:Nat):Int))=tx n:=text_ofNat n
theorem xX (n:Nat):(tx n).length=(dg n).length:=by unfold tx Str.length;simp
theorem El (n:Nat):dg n≠[]:=λh=>by
 have:=toDigits_len_ge 10 n;rw[show Nat.toDigits 10 n=[] from h] at this
 cases this
theorem p7 (d:Nat)(h:d<10):d.digitChar.toNat≠43/\d.digitChar.toNat≠45:=by
 have:∀d<10,(Nat.digitChar d).toNat≠43/\(Nat.digitChar d).toNat≠45:=by decide
 exact this d h
theorem CH (n:Nat):∀c∈dg n,c.toNat≠43/\c.toNat≠45:=by
 induction n using Nat.strongRecOn with
 |ind n ih =>
  intro c hc
  by_cases h:n<10
  ·rw[iI h] at hc
   have:c=n.digitChar:=by simpa using hc
   rw[this];exact p7 n h
  ·have e:dg n=dg (n/10)++[(n%10).digitChar]:=Nat.toDigits_of_base_le (by decide) (by omega);rw[e] at hc
   rcases List.mem_append.mp hc with hc|hc
   ·exact ih (n/10) (by omega) c hc
   ·have:c=(n%10).digitChar:=by simpa using hc
    rw[this];exact p7 _ (Nat.mod_lt _ (by decide))
theorem qy {k m:Nat}(hk:1<=k)(hm:m<10^k):Txt.zfill (tx m) (k:Int)=⟨((AH k m).map Char.toNat).toArray⟩:=by
 have hl:(dg m).length<=k:=digits10_le hk hm;unfold Txt.zfill;rw[xX];unfold AH
 by_cases h:(k:Int)<=((dg m).length:Int)
 ·rw[if_pos h,show k-(dg m).length=0 by omega];rfl
 ·rw[if_neg h,Int.toNat_natCast]
  obtain⟨c,cs,hc⟩:∃c cs,dg m=c::cs:=by
   cases e:dg m with
   |nil=>exact absurd e (El m)
   |cons c cs=>exact⟨c,cs,rfl⟩
  have h0:(tx m).cps[0]?=some c.toNat:=by unfold tx;rw[hc];simp
  obtain⟨n1,n2⟩:=CH m c (by rw[hc];exact List.mem_cons_self)
  have e:zfilled (tx m) (k-(dg m).length)=Builtin.Str.padded (tx m) (k-(dg m).length) 0 48:=by
   unfold zfilled;rw[h0]
   split
   ·rename_i z;exact absurd (Option.some.inj z) n1
   ·rename_i z;exact absurd (Option.some.inj z) n2
   ·rfl
  rw[e];unfold Builtin.Str.padded tx;simp
theorem BK (a b:List Nat):(⟨a.toArray⟩:Str)++⟨b.toArray⟩=⟨(a++b).toArray⟩:=by
 show Str.append _ _=_;unfold Str.append;simp
variable {n:Nat}
theorem CQ {k:Nat}(hk:1<=k)(h:10^k<=n):tx n=tx (n/10^k)++Txt.zfill (tx (n%10^k)) (k:Int):=by
 rw[qy hk (Nat.mod_lt _ (gO _))];unfold tx;rw[BK,cut k n hk h,List.map_append]
theorem ux (a b c:Str):a++b++c=a++(b++c):=by
 show Str.append (Str.append a b) c=Str.append a (Str.append b c);unfold Str.append;simp[Array.append_assoc]
theorem y7 (a:Str):a++Str.empty=a:=by
 show Str.append a _=a;unfold Str.append Str.empty;simp
theorem rH (a:Str):Str.empty++a=a:=by
 show Str.append _ a=a;unfold Str.append Str.empty;simp
theorem DH:Str.ofString ""=Str.empty:=by decide +kernel
noncomputable def xK:List Str->Str
 |[]=>Str.empty
 |t::ts=>t++xK ts
theorem jU:∀ts:List Str,Str.join (Str.ofString "") ts=xK ts
 |[]=>rfl
 |[t]=>(y7 t).symm
 |t::u::ts=>by
  show t++Str.ofString ""++Str.join (Str.ofString "") (u::ts)=t++xK (u::ts);rw[jU (u::ts),DH,y7]
theorem jH:∀ts:List Str,(xK ts).length=(ts.map (·.length)).sum
 |[]=>rfl
 |t::ts=>by
  show(t++xK ts).length=_;rw[Str.length_append,jH ts];simp
theorem sV {k:Nat}(hk:1<=k)(h:n<2^k):(tx n).length<=k:=by
 rw[xX];exact PyProof.Rows.digits10_le hk (Nat.lt_of_lt_of_le h (Nat.pow_le_pow_left (by decide) k))
theorem rX {k:Nat}(hk:1<=k)(h:n<2^k):n.log2<k:=by
 by_cases z:n=0
 ·rw[z];exact hk
 ·exact(Nat.log2_lt z).mpr h
end Dg
namespace L2
open PySem PySem.Spec PyProof.Rows PySem.W
section
variable {X:Cx}
theorem oj:cb X (.builtin "divmod") (λxs H Q=>∃i j:Int,xs=[.int i,.int j]/\0<j/\Nm.B 9000 j/\∀p,H p=none->Q (.ref p) (upd H p (.tup [.int (i/j),.int (i%j)]))):=by
 intro pins s σ H xs us Q I r h;obtain⟨i,j,rfl,h1,h2,q⟩:=h;obtain⟨u,w',rfl,⟨t,rfl⟩,⟨t',rfl⟩⟩:=uC r;refine divmod_int (by omega) ?_ (.inl (PyProof.noPylong_of_log2 (wN h2)));rw[Int.fdiv_eq_ediv_of_nonneg i (by omega),Int.fmod_eq_emod_of_nonneg i (by omega)];refine⟨.ref s.heap.objs.size,upd H s.heap.objs.size (.tup [.int (i/j),.int (i%j)]),?_,rfl,q _ (I.hok.fresh (Nat.le_refl _))⟩;refine I.laid (o:=.tup [.int (i/j),.int (i%j)]) (λb o e=>Heap.get?_push_of_some _ e) (Nat.le_refl _) ⟨by show 2<=sizeLine;decide,[.int (i/j) s.toks,.int (i%j) (s.toks+1)],.cons ⟨_,rfl⟩ (.cons ⟨_,rfl⟩ .nil),?_⟩;exact⟨_,Heap.get?_push_size s.heap rfl,rfl,0,rfl⟩
end
noncomputable def del (H:Hp)(a:Addr):Hp:=λb=>if b=a then none else H b
theorem eE (H:Hp)(a:Addr):del H a a=none:=if_pos rfl
theorem dw {H:Hp}{a b:Addr}(h:b≠a):del H a b=H b:=if_neg h
section
variable {P:wM}{w:World}{K:PySem.W.Frag}{mg:vJ}{base:Heap}{N:xQ}{qual:Str}{scope:Scope}{f:Addr}{cd:Value}{A:Around}{outer:List Env}{s:GH}{H:Hp}{E:XK}
theorem dM:∀(pins:List (Addr×Obj))(σ:St)(H1:Hp)(s1:GH)(a C dx:Addr),Inv (eK (bc P w) P w K mg base N qual scope f cd A outer s H E) pins σ H1 s1->H1 a=some (dO a (.ref C) dx true) →
 (H a=none/\E (.ref C) (some dx) (del H1 a))->(eK (bc P w) P w K mg base N qual scope f cd A outer s H E).xe (.ref a) s1:=by
 intro pins σ H1 s1 a C dx I ea ⟨hn,hE⟩;obtain⟨o,vs,h1,h2,h3,h4,h5⟩:=gS I.hok ea;obtain⟨t,rfl⟩:=h5 rfl;have bs:Un (eA outer) [] H H1 s.heap s1.heap:=I.base
 have nS:s.heap.get? a=none:=by
  cases q:s.heap.get? a with
  |none=>rfl
  |some ob=>have z:=bs.free a ob q hn (by simp);rw[ea] at z;cases z
 generalize Ij:eA (eK (bc P w) P w K mg base N qual scope f cd A outer s H E).stack=fs
 have YZ:∀b u,H1 b=some u->b∉fs:=λb u e z=>by rw[I.aay b (Ij▸z)] at e;cases e
 have JA:∀b ob,s1.heap.get? b=some ob->b≠a->b∉fs->(hideAll s1.heap (a::fs)).get? b=some ob:=λb ob e n1 n2=>hideAll_get _ e (by simp[n1,n2]);have ofB:∀b ob,(hideAll s1.heap (a::fs)).get? b=some ob->s1.heap.get? b=some ob:=λb ob q=>of_hideAll _ q;have nB:(hideAll s1.heap (a::fs)).get? a=none:=hideAll_none _ List.mem_cons_self;have TR:s1.heap.FunFrames (hideAll s1.heap (a::fs)) _:=funFrames_hide I.stack λenv he b hb=>List.mem_cons_of_mem _ (Ij▸List.mem_filterMap.mpr ⟨env,he,hb⟩)
 have JR:∀b ob,s.heap.get? b=some ob->b≠a:=λb ob e z=>by rw[z,nS] at e;cases e
 have old:∀b ob,s.heap.get? b=some ob->b∉eA outer->b∉fs:=λb ob e n z=>by
  rcases List.mem_cons.mp (I.aav b (Ij▸z)) with q|q
  ·exact absurd (Nat.lt_of_lt_of_le (Heap.lt_size e) I.ok.above) (by rw[q];exact Nat.lt_irrefl _)
  ·exact n q
 refine mV (B:=hideAll s1.heap (a::fs)) (d:=some dx) (cls:=.ref C) (a0:=.ref t) I.ok.frames TR rfl ofB nB h1 h4 h2 h3 rfl rfl λg x up=>?_
 refine⟨a,.ref C,.ref t,_,some dx,del H1 a,rfl,I.os,I.bare,⟨x,⟨λb ob e n hb _=>x.st b ob (JA b ob (bs.keep b ob e n hb (by simp)) (JR b ob e) (old b ob e hb)),λb ob e n hb _=>?_,λb ob e n _=>?_,λb ob e _=>?_,λb xs e=>?_,λb ob u e=>?_,λb ps e=>?_⟩,
  λb ob e n hb=>JA b ob (bs.keep b ob e n hb (by simp)) (JR b ob e) (old b ob e hb),λb ob e hb=>?_,λb u e=>?_,eE _ _⟩,hE⟩
 ·obtain⟨sl,e1⟩:=bs.slot b ob e n hb (by simp);obtain⟨IY,e2⟩:=up b _ e1 λws q=>cc I.aap hb e1 ws q;exact⟨IY,e2⟩
 ·rw[dw (JR b ob e)];exact bs.free b ob e n (by simp)
 ·obtain⟨o',e1⟩:=bs.there b ob e (by simp)
  by_cases hb:b∈eA outer
  ·obtain⟨IY,e2⟩:=up b _ e1 λws q=>cc I.aap hb e1 ws q;exact⟨_,e2⟩
  ·exact⟨o',x.st b o' (JA b o' e1 (JR b ob e) (old b ob e hb))⟩
 ·have z:=bs.aan b xs e;rw[dw λq=>by rw[q,ea] at z;cases z];exact z
 ·have z:=bs.aam b ob u e;rw[dw λq=>by rw[q,ea] at z;cases z];exact z
 ·obtain⟨m,z⟩:=bs.aas b ps e;exact⟨m,by rw[dw λq=>by rw[q,ea] at z;cases z];exact z⟩
 ·obtain⟨o',e1⟩:=bs.there b ob e (by simp);exact⟨o',JA b o' e1 (JR b ob e) (old b ob e hb)⟩
 ·have hb:b≠a:=λz=>by rw[z,eE] at e;cases e
  rw[dw hb] at e;refine(I.hok b u e).abw (λc v hc q=>?_) (λc q=>?_) λc xs q=>?_
  ·rcases hc with rfl|hc
   ·exact JA c v q hb (YZ c u e)
   ·exact JA c v q (λz=>by rw[z,ea] at hc;cases hc) (YZ c _ hc)
  ·rw[dw λz=>by rw[z,ea] at q;cases q];exact q
  ·rw[dw λz=>by rw[z,ea] at q;cases q];exact q
end
structure IK (P:wM)(w:World)(K:Frag)(mg:vJ)(base:Heap)(x:Str)(C:Addr)(ps:xQ)(sp:Sp):Prop where
 m:mg x=some (.ref C)
 kp:keepIn K (.ref C)=true
 s:Gy K C
 k:AI K C
 tc:fF K C
 call:∃f fd oI B Bn newId K0 HA KZ,ExcBaseFacts Bn newId K0 KZ/\HA.contains (.type Bn)=true/\rO B HA/\pj K C f HA newId=true/\K.lookup f=some oI/\oI.cls=.type "function"/\Cy P w K mg base (bc P w) 1 f fd ps sp/\aI K fd ps []
noncomputable def never:XK:=λ_ _ _=>False
section
variable {X:Cx}{x:Str}{C:Addr}{ps:xQ}{sp:Sp}{e:Expr}{es:Bl}{t:TA}{p pos:Pos}{H:Hp}{Q:VK}{fld:Str}{v:V}
theorem IK.acZ (k:IK X.prog X.w X.K X.mg X.base x C ps sp)(hr:pL 2 X.A):cb X (.ref C) (qu C sp never):=by
 obtain⟨f,fd,oI,B,Bn,nw,K0,HA,KZ,a1,a2,a3,a4,a5,a6,a7,a8⟩:=k.call;exact vL a1 a2 a3 a4 a5 a6 a7 hr a8 ag
theorem pK (k:IK X.prog X.w X.K X.mg X.base x C ps sp)(hr:pL 2 X.A)(hg:Gl X x)(ha:PA X (e::es) t)(hs:gJ e=false:=by rfl)(Ib:(backTo pos (starEach es X.env)).any (·.1)=false:=by rfl)(IQ:(x==("__debug__":Str))=false:=by decide):
 PE X (.Call (.Name x p) (e::es) [] pos) (EH (qu C sp never) t):=w8 (k.acZ hr) k.kp hg k.m ha IQ (b8 hs) Ib
end
noncomputable def n9 (CX:GC)(X:Cx)(E:St->XK):Prop:=∀(pins:List (Addr×Obj))(σ:St)(H:Hp)(s:GH)(e:Value)(s':GH),Inv X pins σ H s->CX X.stack H s (E σ) e s'->X.xe e s'
noncomputable def wd (C:Addr)(sp:Sp)(dvs:List V)(E:St->XK)(t:TA):TE:=λσ H Q=>AX C sp dvs (E σ) t σ H Q
section
variable {X:Cx}{CX:GC}{k:Nat}{f C:Addr}{fd:GF}{ps:xQ}{sp:Sp}{E:St->XK}{x:Str}{p pos:Pos}{e:Expr}{es:Bl}{t:TA}{ds:oH}{dvs:List V}
theorem u3 {pins:List (Addr×Obj)}{σ:St}{H:Hp}{s:GH}{Q:VK}{us:oH}{vs:List V}(M:Mk X.K C f)(F:Cy X.prog X.w X.K X.mg X.base CX k f fd ps sp)(hr:pL (k+1) X.A)(hb:aI X.K fd ps ds)(hd:aK dvs ds)
 (hx:n9 CX X E)(I:Inv X pins σ H s)(r:aK vs us)
 (h:∀x dx,H x=none->H dx=none->dx≠x->sp (.ref x::(vs++dvs)) (upd (upd H dx (.own x)) x (.ins C dx [])) (λv H2=>v=.non/\Q (.ref x) H2) (E σ)):
 wpAny (model X.prog X.w) X.A (call (.ref C) us) (EP X pins σ Q) X.xe s:=by
 have q0:=h (s.heap.objs.size+1) s.heap.objs.size (I.hok.fresh (Nat.le_succ _)) (I.hok.fresh (Nat.le_refl _)) (Nat.ne_of_lt (Nat.lt_succ_self _));have J:=Inv.made (C:=C) I;have rr:aK (V.ref (s.heap.objs.size+1):: (vs++dvs)) (Value.ref (s.heap.objs.size+1):: (us++ds)):=.cons rfl (r.append hd)
 have len:(Value.ref (s.heap.objs.size+1):: us++ds).length=ps.length:=by
  have z:=rr.length;rw[F.len _ _ _ _ q0] at z;exact z.symm
 refine wpAny_call (kn (f:=f) I.kIn M.makes M.init (beq_iff_eq.mp M.fn) (codeAny_mono (F.run _ X.stack _ _ ⟨Value.ref (s.heap.objs.size+1):: us,[]⟩ (Value.ref (s.heap.objs.size+1):: (us++ds)) _ _ (E σ) (hr.make C us [])
  (J.aby.make C us []) (hb _ (Value.ref (s.heap.objs.size+1):: us) J.kIn len) rr q0) λres s' z=>?_))
 cases res with
 |error e=>exact hx pins σ _ _ e s' J z
 |ok fl =>
  cases fl with
  |ret u =>
   obtain⟨v,H',J3,rv,ev,q3⟩:=J.after z;subst ev;exact⟨rv,⟨V.ref (s.heap.objs.size+1),H',J3,rfl,q3⟩⟩
  |next=>exact False.elim z
  |brk=>exact False.elim z
  |cont=>exact False.elim z
theorem v7 (M:Mk X.K C f)(F:Cy X.prog X.w X.K X.mg X.base CX k f fd ps sp)(hr:pL (k+1) X.A)(hg:Gl X x)(hm:X.mg x=some (.ref C))(hb:aI X.K fd ps ds)(hd:aK dvs ds)(hx:n9 CX X E)
 (ha:PA X (e::es) t)(IQ:(x==("__debug__":Str))=false:=by decide)(he:starEach (e::es) X.env=(false,eval e X.env):: starEach es X.env:=by rfl)(Ib:(backTo pos (starEach es X.env)).any (·.1)=false:=by rfl):
 PE X (.Call (.Name x p) (e::es) [] pos) (wd C sp dvs E t):=by
 intro pins s σ H Q I h;refine wpAny_Call_Name_kw (dE I hg hm ?_ IQ);refine PySem.W.callWith_K (h₀:=X.base) I.ok.mod.kin M.kp (bA (ha pos pins s σ H _ I h) λus s1 ⟨vs,H1,I1,r,q⟩=>⟨I1.kIn,?_⟩) he Ib;exact u3 M F hr hb hd hx I1 r q
theorem pQ {pins:List (Addr×Obj)}:n9 (bc X.prog X.w) (X.tr pins E) E:=rq
theorem mB:∀{cs:List Addr}{us:oH},aK (cs.map V.ref) us->us=cs.map Value.ref
 |[],us,r=>by cases r;rfl
 |c::cs,us,r=>by
  rw[List.map_cons] at r
  cases r with
  |cons h t=>rw[List.map_cons,<-mB t,show _=Value.ref c from h]
theorem ou:cb X (.builtin "isinstance") (λxs H Q=>∃(a C dx:Addr)(fr:Bool)(tp:Addr)(cs:List Addr)(b:Bool),xs=[.ref a,.ref tp]/\H a=some (dO a (.ref C) dx fr)/\AI X.K C/\H tp=some (.tup (cs.map V.ref))/\kitAny X.K (.ref C) (cs.map Value.ref)=some b/\Q (.bl b) H):=by
 intro pins s σ H xs us Q I r h;obtain⟨a,C,dx,fr,tp,cs,b,rfl,ea,k,et,e,q⟩:=h
 cases r with
 |cons r1 r2 =>
  cases r2 with
  |cons r2 r3 =>
   cases r3
   rename_i u ut
   cases(show u=Value.ref a from r1)
   cases(show ut=Value.ref tp from r2)
   obtain⟨o,vs,h1,h2,_⟩:=gS I.hok ea;obtain⟨its,rv,⟨⟨oc,od,Oc,GZ⟩,e1,hc,n,hd⟩,_⟩:=I.tuple (bX.of et);have ei:=mB rv;subst ei;dsimp only at hc hd;subst hc hd;exact kia_tup (lA k) I.kIn ⟨o,h1,h2⟩ e1 e (λz=>nomatch z) λtk=>⟨.bl b,H,I.tok tk,rfl,q⟩
noncomputable def EF (K:Frag):List V->Hp->VK->Prop:=λxs H Q=>∃(a C dx:Addr)(fr:Bool)(tp:Addr)(cs:List Addr)(b:Bool),xs=[.ref a,.ref tp]/\H a=some (dO a (.ref C) dx fr)/\AI K C/\H tp=some (.tup (cs.map V.ref))/\kitAny K (.ref C) (cs.map Value.ref)=some b/\Q (.bl b) H
noncomputable def Bw (K:Frag):List V->Hp->VK->Prop:=λxs H Q=>∃a C dx fr c cv b,xs=[.ref a,c]/\BZ c cv/\H a=some (dO a (.ref C) dx fr)/\AI K C/\kitOne K (.ref C) cv=some b/\Q (.bl b) H
theorem ve {K:Frag}(hK:X.K=K):cb X (.builtin "isinstance") (EF K):=by subst hK;exact ou
theorem nO {K:Frag}(hK:X.K=K):cb X (.builtin "isinstance") (Bw K):=by subst hK;exact nX
end
section
variable {X:Cx}{CX:GC}{k:Nat}{f C:Addr}{fd:GF}{ps:xQ}{sp:Sp}{E:XK}
theorem jt (hs:findIn X.K (.ref C) "__len__"=some (some (.ref f)))(hf:isFn X.K (.ref f)=true)(F:Cy X.prog X.w X.K X.mg X.base CX k f fd ps sp)(hr:pL (k+1) X.A)(hb:aI X.K fd ps [])(hx:cD CX X E):
 cb X (.builtin "len") (λxs H Q=>∃p dx fs,xs=[.ref p]/\H p=some (.ins C dx fs)/\sp [.ref p] H (λv H'=>∃n:Nat,v=.int n/\n<2^62/\Q (.int n) H') E):=by
 intro pins s σ H xs us Q I r h;obtain⟨p,dx,fs,rfl,ep,q⟩:=h;obtain⟨u,rfl,ru⟩:=dS r
 cases(show u=Value.ref p from ru)
 obtain⟨mA,O,_⟩:=dD I.hok ep;obtain⟨od,J,_⟩:=O.look;refine Calls.call_function_entry kind_len plain_len entry_len (args_len1 _) ?_;unfold Builtin.«len»;refine wpAny_bind (m:=oneArg "len" _) (wpAny_pure ?_);unfold callSpecial?;refine wpAny_bind (wpAny_bind (wpAny_bind (J.type.here ((looks_findIn I.kIn hs).here ?_))));refine wpAny_holding (wpAny_bind ((bind_fn I.kIn _ (beq_iff_eq.mp hf)).here ?_));refine wpAny_bind (wpAny_mono (tX F hr hb hx I (us:=[.ref p]) (vs:=[.ref p]) (.cons ru .nil) q) (λr s1 z'=>?_) λ_ _ e=>e);obtain⟨z,H1,I1,rz,n,en,hn,q1⟩:=z';subst en;obtain⟨tk,rfl⟩:=(show ∃tk,r=Value.int n tk from rz);refine wpAny_pure ?_;refine wpAny_bind (wpAny_holding ?_);refine wpAny_pure (wpAny_bind (wpAny_letGo ?_));refine(show wpAny _ _ (if(n:Int)<0 then _ else _) _ _ _ from ?_);rw[if_neg (by omega)];refine(show wpAny _ _ (if(n:Int) ≥ 2^63 then _ else _) _ _ _ from ?_);rw[if_neg (by omega)];exact wpAny_bind (wpAny_mkInt (wpAny_pure ⟨_,rfl,.int n,H1,I1.tok _,⟨_,rfl⟩,q1⟩))
end
open AutoSeq1 (wpAny_loadPart')
end L2
namespace K16
open PySem L2 PySem.W Nm Srt Dg
noncomputable abbrev Gp:Stmt:=(aY 24)
structure Wt (n:Nat):Prop where
 h:n<2^1900
variable {n:Nat}
theorem Wt.div {k:Nat}(h:Wt n):Wt (n/k):=⟨Nat.lt_of_le_of_lt (Nat.div_le_self n k) h.h⟩
theorem Wt.mod {k:Nat}(h:Wt n):Wt (n%k):=⟨Nat.lt_of_le_of_lt (Nat.mod_le n k) h.h⟩
theorem Wt.log (h:Wt n):n.log2<1920:=Nat.lt_of_lt_of_le (rX (by decide) h.h) (by decide)
theorem Wt.len (h:Wt n):(tx n).length<=1900:=sV (by decide) h.h
noncomputable def rQ:Sp:=λvs H Q _=>∃n:Nat,vs=[.int n]/\Wt n/\∀H',au H H'->Q (.str (tx n)) H'
theorem Aa:uQ ["number","steps","rest"] Fx (ar Gp):=dI (by decide +kernel)
structure zd (S:Int):Prop where
 e:S=((10^64:Nat):Int)
variable {S:Int}
theorem zd.pos (h:zd S):0<S:=by rw[h.e];exact Int.natCast_pos.mpr (gO 64)
theorem zd.b (h:zd S):B 9000 S:=by
 rw[h.e];show((10^64:Nat):Int).natAbs<2^9000;rw[Int.natAbs_natCast];refine Nat.lt_of_lt_of_le (m:=2^256) ?_ (Nat.pow_le_pow_right (by decide) (by decide));refine Nat.lt_of_le_of_lt (Nat.pow_le_pow_left (show 10<=2^4-1 by decide) 64) ?_;decide +kernel
theorem zd.div (h:zd S)(n:Nat):(n:Int)/S=((n/10^64:Nat):Int):=by rw[h.e];exact(Int.natCast_ediv n (10^64)).symm
theorem zd.mod (h:zd S)(n:Nat):(n:Int)%S=((n%10^64:Nat):Int):=by rw[h.e];exact(Int.natCast_emod n (10^64)).symm
theorem zd.le (h:zd S)(n:Nat):S<=(n:Int)↔10^64<=n:=by rw[h.e];exact Int.ofNat_le
theorem vy {m:Nat}(h:m<10^64):(Txt.zfill (tx m) 64).length=64:=by
 have e:=qy (k:=64) (m:=m) (by decide) h;have e:Txt.zfill (tx m) 64=⟨((AH 64 m).map Char.toNat).toArray⟩:=e;rw[e];have hl:(dg m).length<=64:=PyProof.Rows.digits10_le (by decide) h;unfold Str.length AH;simp;omega
variable {P:wM}{w:World}{K:PySem.W.Frag}{mg:vJ}{base:Heap}
theorem mf {f:Addr}{fd:GF}{tS tF:Tok}(F:E6 K "shown_whole" "shown_whole" Gp f fd)(Ig:mg "divmod"=none)(HN:mg "str"=none)(hS:zd S)(mS:mg "STEP"=some (.int S tS))(mF:mg "STEP_FIGURES"=some (.int 64 tF)):Cy P w K mg base (bc P w) 1 f fd Fx rQ:=by
 refine F.okN Aa (λvs H Q E h=>?_) (λGL A outer s H vs Q E hr h=>?_)
 ·obtain⟨n,rfl,_⟩:=h;rfl
 ·obtain⟨n0,rfl,Nb,q⟩:=h
  refine⟨_,(aj (@aO _ _ 1 _ _ _ _ Aa.nd rfl (Or.inl rfl) (@az _ _ _ _ af) rfl (Or.inl rfl))
   (aj (lE PassesOwn.never (@aB _ _ _ _ _ _ _ _ zi (pv 0) (bR (by rfl) mS (show aG (.int S) (.int S tS) from⟨_,rfl⟩)) (aA _)) (aj (c8 (aD oj (by rfl) Ig (by rfl) (@ah _ _ _ _ _ (pv 0) (@ah _ _ _ _ _ (bR (by rfl) mS (show aG (.int S) (.int S tS) from⟨_,rfl⟩)) af rfl) rfl)) (dQ rfl (aJ (aH (i:=0) Aa.nd rfl (Or.inl rfl)) (aJ (aH (i:=2) Aa.nd rfl (Or.inl rfl)) cm))))
   (ao (gc (gm PySem.F.plainAttrs_list PySem.F.slot_list_append PySem.F.type_list_append dZ (pv 1) (@ah _ _ _ _ _ (gm PySem.F.plainAttrs_str PySem.F.slot_str_zfill PySem.F.type_str_zfill xj (a9 ix (by rfl) HN (by rfl) (@ah _ _ _ _ _ (pv 2) af rfl)) (@ah _ _ _ _ _ (bR (by rfl) mF (show aG (.int 64) (.int 64 tF) from⟨_,rfl⟩)) af rfl)) af rfl))))))
   (aj (gc (gm PySem.F.plainAttrs_list PySem.F.slot_list_append PySem.F.type_list_append dZ (pv 1) (@ah _ _ _ _ _ (a9 ix (by rfl) HN (by rfl) (@ah _ _ _ _ _ (pv 0) af rfl)) af rfl)))
   (ao (aw (gm PySem.F.plainAttrs_str PySem.F.slot_str_join PySem.F.type_str_join n4 aX (@ah _ _ _ _ _ (Ci (pv 1) (dF (pB ko ak))) af rfl))))))),?_⟩
  refine⟨Nat.zero_le _,λL hL=>?_⟩;have s1:=ai (o:=.lst []) hL;have e1:upd H L (.lst []) L=some (.lst []):=ae;generalize upd H L (.lst [])=H1 at s1 e1 |-;refine⟨λm σ H'=>∃(n:Nat)(ts:xQ)(o:Option V),σ=[some (.int n),some (.ref L),o]/\au H H'/\H' L=some (.lst (ts.map V.str))/\n=m/\Wt n/\tx n0=tx n++xK ts.reverse/\ts.length<=(ts.map (·.length)).sum,⟨_,n0,[],none,rfl,s1,e1,rfl,Nb,(y7 _).symm,Nat.le_refl _⟩,?_⟩;rintro m σ H' ⟨n,ts,o,rfl,sH,eL,rfl,hn,et,hl⟩;have le0:(tx n0).length<=1900:=Nb.len
  have lsum:(tx n).length+(ts.map (·.length)).sum<=1900:=by
   have:=congrArg Str.length et;rw[Str.length_append,jH,List.map_reverse,List.sum_reverse] at this;omega
  refine⟨_,rfl,_,_,rfl,rfl,_,rfl,?_⟩;refine cT (λh=>?_) (λh=>?_)
  ·have Y7:10^64<=n:=(hS.le n).mp (by simpa using h);refine⟨λσ' Ik=>∃(k:Nat)(ts:xQ)(o:Option V),σ'=[some (.int k),some (.ref L),o]/\au H Ik/\Ik L=some (.lst (ts.map V.str))/\k<n/\Wt k/\tx n0=tx k++xK ts.reverse/\ts.length<=(ts.map (·.length)).sum,?_,?_⟩
   ·rintro σ' Ik ⟨k,ts,o,e1,e2,e3,e4,e5⟩;exact⟨k,e4,k,ts,o,e1,e2,e3,rfl,e5⟩
   refine⟨_,rfl,_,_,rfl,hS.pos,hS.b,λp hp=>?_⟩;have r2:=ai (o:=.tup [.int ((n:Int)/S),.int ((n:Int)%S)]) hp
   have e2:upd H' p (.tup [.int ((n:Int)/S),.int ((n:Int)%S)]) p=some (.tup [.int ((n/10^64:Nat):Int),.int ((n%10^64:Nat):Int)]):=by rw[ae,hS.div,hS.mod]
   generalize upd H' p _=H2 at r2 e2 |-;have Y8:=r2 _ _ eL;refine⟨p,_,rfl,bX.of e2,rfl,_,_,rfl,_,_,rfl,rfl,?_⟩;have hd:=hn.div (k:=10^64);have hm:=hn.mod (k:=10^64);have cut:=CQ (k:=64) (by decide) Y7;have GV:n/10^64<n:=Nat.div_lt_self (Nat.lt_of_lt_of_le (gO 64) Y7) (Nat.one_lt_pow (by decide) (by decide));generalize n/10^64=a at hd cut GV |-;have hb:n%10^64<10^64:=Nat.mod_lt _ (gO 64);generalize n%10^64=b at hm cut hb |-;refine⟨_,rfl,.inl ⟨rfl,_,aM.of Y8⟩,_,rfl,_,rfl,(by rw[Int.natAbs_natCast];exact hm.log),?_⟩;rw[show Str.ofString (toString ((b:Nat):Int))=tx b from t9 b];refine⟨rfl,_,64,rfl,rfl,by decide +kernel,?_⟩;refine⟨L,ts.map V.str,_,rfl,rfl,Y8,?_,?_⟩
   ·rw[List.length_map];exact Nat.lt_of_le_of_lt (show ts.length<=1900 by omega) (by decide)
   refine⟨a,ts++[Txt.zfill (tx b) 64],_,rfl,λc u e=>?_,by rw[ae,List.map_append];rfl,GV,hd,?_,?_⟩
   ·have ne:c≠L:=av e hL;rw[aq ne];exact r2 _ _ (sH _ _ e)
   ·rw[et,cut,List.reverse_append,ux];rfl
   ·have e:1<=(Txt.zfill (tx b) 64).length:=by
     have:=vy (m:=b) hb;omega
    rw[List.length_append,List.map_append,List.sum_append];simp;omega
  ·refine⟨_,rfl,.inl ⟨rfl,_,aM.of eL⟩,_,rfl,_,rfl,(by rw[Int.natAbs_natCast];exact hn.log),?_⟩;rw[show Str.ofString (toString ((n:Nat):Int))=tx n from t9 n];refine⟨L,ts.map V.str,_,rfl,rfl,eL,?_,?_⟩
   ·rw[List.length_map];exact Nat.lt_of_le_of_lt (show ts.length<=1900 by omega) (by decide)
   have e3:upd H' L (.lst (ts.map V.str++[.str (tx n)])) L=some (.lst ((ts++[tx n]).map V.str)):=by rw[ae,List.map_append];rfl
   have s3:au H (upd H' L (.lst (ts.map V.str++[.str (tx n)]))):=λc u e=>by
    rw[aq (av e hL)];exact sH _ _ e
   generalize upd H' L _=H3 at e3 s3 |-;refine⟨rfl,_,rfl,_,rfl,_,rfl,rfl,L,_,rfl,aM.of e3,λp hp=>?_⟩;have r4:=ai (o:=.lst ((ts++[tx n]).map V.str).reverse) hp
   have e4:upd H3 p (.lst ((ts++[tx n]).map V.str).reverse) p=some (.lst ((ts++[tx n]).reverse.map V.str)):=by rw[ae,List.map_reverse]
   generalize upd H3 p _=H4 at r4 e4 |-;refine⟨_,p,_,rfl,rfl,aM.of e4,?_,?_⟩
   ·rw[show(Str.ofString "").length=0 from by decide +kernel,List.map_reverse,List.sum_reverse,List.map_append,List.sum_append];simp;omega
   ·rw[jU,List.reverse_append]
    have e5:xK ([tx n].reverse++ts.reverse)=tx n0:=by rw[et];rfl
    rw[e5];exact q _ (s3.trans r4)
end K16
namespace L2
open PySem PySem.Spec PyProof.Rows PySem.W
section
variable {X:Cx}
noncomputable def fU:Int->Nat->List Int
 |_,0=>[]
 |i,n+1=>i::fU (i+1) n
theorem p8:∀(n:Nat)(i:Int),(fU i n).length=n
 |0,_=>rfl
 |n+1,i=>by show(fU (i+1) n).length+1=n+1;rw[p8 n]
end
variable {H:Hp}
theorem uU {σ:St}{A B:Hp->Prop}(h:A H):u7 σ H λb H4=>if b=true then A H4 else B H4:=h
variable {tt:TT}{te:TE}
theorem kK {J:It}{n:Nat}{at_:Nat->V->Prop}{rest:St}{F:List V->Hp->Prop}(Pv:Nat->List V->Hp->Prop)(h0:Pv 0 [] H)
 (hz:∀i ys H',i<=n->Pv i ys H'->ys.length<sizeLine/\(i<n->J.go i H')/\(i=n->J.stop i H')/\∀x H2,J.yld i H' x H2->H2=H'/\at_ i x)
 (hs:∀i x ys H' (N:List V->Hp->Prop),i<n->at_ i x->Pv i ys H'->(∀zs H5,Pv (i+1) zs H5->N zs H5) →
  tt (some x::rest) H' λb H4=>if b=true then te (some x::rest) H4 λy H5=>N (ys++[y]) H5 else N ys H4)
 (hd:∀ys H',Pv n ys H'->F ys H'):
 ∃W:Nat->Nat->List V->St->Hp->Prop,(∃m,W 0 m [] (none::rest) H)/\kh J (c9 0) tt te W F:=by
 refine⟨λi m ys σ H'=>m=n-i/\i<=n/\Pv i ys H'/\∃o,σ=o::rest,⟨n,by simp,Nat.zero_le _,h0,none,rfl⟩,?_⟩;rintro i m ys σ H' ⟨rfl,hi,p,o,rfl⟩;obtain⟨z1,z2,z3,z4⟩:=hz i ys H' hi p;refine⟨z1,?_⟩
 by_cases GV:i<n
 ·refine .inr ⟨z2 GV,λx H2 hy=>?_⟩;obtain⟨rfl,hx⟩:=z4 x H2 hy;exact hs i x ys H2 (λzs H5=>∃m',m'<n-i/\m'=n-(i+1)/\i+1<=n/\Pv (i+1) zs H5/\∃o',(some x::rest:St)=o'::rest) GV hx p λzs H5 h=>⟨n-(i+1),by omega,rfl,GV,h,_,rfl⟩
 ·have:i=n:=by omega
  subst this;exact .inl ⟨z3 rfl,hd ys H' p⟩
theorem we {K:PySem.W.Frag}{a:Addr}{xs:List V}{rest:St}{F:List V->Hp->Prop}(Pv:Nat->List V->Hp->Prop)(h0:Pv 0 [] H)
 (hz:∀i ys H',i<=xs.length->Pv i ys H'->ys.length<sizeLine/\bX K H' a xs)
 (hs:∀i x ys H' (N:List V->Hp->Prop),i<xs.length->xs[i]?=some x->Pv i ys H'->(∀zs H5,Pv (i+1) zs H5->N zs H5) →
  tt (some x::rest) H' λb H4=>if b=true then te (some x::rest) H4 λy H5=>N (ys++[y]) H5 else N ys H4)
 (hd:∀ys H',Pv xs.length ys H'->F ys H'):
 ∃W:Nat->Nat->List V->St->Hp->Prop,(∃m,W 0 m [] (none::rest) H)/\kh (E0 K a) (c9 0) tt te W F:=by
 refine kK (n:=xs.length) (at_:=λi x=>xs[i]?=some x) Pv h0 (λi ys H' hi p=>?_) hs hd;obtain⟨z1,z2⟩:=hz i ys H' hi p;exact⟨z1,λh=>⟨xs,xs[i],z2,by simp[h]⟩,λh=>⟨xs,z2,by omega⟩,λx H2 hy=>⟨hy.1,hy.2 xs z2⟩⟩
theorem jS {K:PySem.W.Frag}{a:Addr}{xs:List V}{rest:St}{F:List V->Hp->Prop}(Pv:Nat->List V->Hp->Prop)(h0:Pv 0 [] H)
 (hz:∀i ys H',i<=xs.length->Pv i ys H'->ys.length<sizeLine/\aM K H' a xs)
 (hs:∀i x ys H' (N:List V->Hp->Prop),i<xs.length->xs[i]?=some x->Pv i ys H'->(∀zs H5,Pv (i+1) zs H5->N zs H5) →
  tt (some x::rest) H' λb H4=>if b=true then te (some x::rest) H4 λy H5=>N (ys++[y]) H5 else N ys H4)
 (hd:∀ys H',Pv xs.length ys H'->F ys H'):
 ∃W:Nat->Nat->List V->St->Hp->Prop,(∃m,W 0 m [] (none::rest) H)/\kh (C2 K a) (c9 0) tt te W F:=by
 refine kK (n:=xs.length) (at_:=λi x=>xs[i]?=some x) Pv h0 (λi ys H' hi p=>?_) hs hd;obtain⟨z1,z2⟩:=hz i ys H' hi p;exact⟨z1,λh=>⟨xs,xs[i],z2,by simp[h]⟩,λh=>⟨xs,z2,by omega⟩,λx H2 hy=>⟨hy.1,hy.2 xs z2⟩⟩
theorem lP {lo:Int}{n:Nat}{rest:St}{F:List V->Hp->Prop}(Pv:Nat->List V->Hp->Prop)(h0:Pv 0 [] H)
 (hz:∀i ys H',i<=n->Pv i ys H'->ys.length<sizeLine)
 (hs:∀i ys H' (N:List V->Hp->Prop),i<n->Pv i ys H'->(∀zs H5,Pv (i+1) zs H5->N zs H5) →
  tt (some (.int (lo+i)):: rest) H' λb H4=>if b=true then te (some (.int (lo+i)):: rest) H4 λy H5=>N (ys++[y]) H5 else N ys H4)
 (hd:∀ys H',Pv n ys H'->F ys H'):
 ∃W:Nat->Nat->List V->St->Hp->Prop,(∃m,W 0 m [] (none::rest) H)/\kh (BI lo n) (c9 0) tt te W F:=by
 refine kK (n:=n) (at_:=λi x=>x=.int (lo+i)) Pv h0 (λi ys H' hi p=>?_) (λi x ys H' N h1 h2=>by subst h2;exact hs i ys H' N h1) hd;exact⟨hz i ys H' hi p,λh=>h,λh=>by show n<=i;omega,λx H2 hy=>hy⟩
noncomputable def Cz (K:Frag):List V->Hp->VK->Prop:=λxs H Q=>∃p ys,xs=[.ref p]/\((aM K H p ys/\∀l,H l=none->Q (.ref l) (upd H l (.tup ys)))\/(bX K H p ys/\Q (.ref p) H))
section
variable {X:Cx}
theorem kR {K:Frag}(hK:X.K=K):cb X (.type "tuple") (Cz K):=by subst hK;exact hU
theorem dk {K:Frag}(hK:X.K=K):CG X (qM K):=by subst hK;exact bu
variable {tg l:Expr}{tl:TE}
theorem yD {p:Addr}{o:HO}(h:H p=none):au H (upd H p o):=λb u e=>by rw[aq (av e h)];exact e
noncomputable def ac1:R2:=λx y H Q=>∃a b xs ys,x=.ref a/\y=.ref b/\H a=some (.lst xs)/\H b=some (.lst ys)/\xs.length+ys.length<=sizeLine/\∀p H',H p=none->au H H'->H' p=some (.lst (xs++ys))->Q (.ref p) H'
theorem bZ:dX X (binaryOp .Add) ac1:=by
 intro pins s σ H x y v u Q I rx ry h;obtain⟨a,b,xs,ys,rfl,rfl,ha,hb,hz,q⟩:=h;exact yH pins s σ H _ _ v u Q I rx ry ⟨a,b,xs,ys,rfl,rfl,ha,hb,hz,λp hp=>q p _ hp (yD hp) ae⟩
end
end L2
namespace K16
open PySem L2 PySem.W Nm Srt Dg
noncomputable abbrev Gm:Stmt:=(aY 25)
noncomputable abbrev E7:Stmt:=(aY 26)
noncomputable abbrev Di:Stmt:=(aY 27)
noncomputable abbrev FX:Stmt:=(aY 33)
theorem tZ (t:Int):(if t<0 then -t else t)=(t.natAbs:Int):=by split <;> omega
noncomputable def uT (t b:Int):Str:=if b=1 then tx t.natAbs else tx t.natAbs++(Str.ofString "/"++tx b.natAbs)
noncomputable def nm (k:Int):Str:=Str.ofString "x"++tx k.natAbs
noncomputable def fT (t:Tm):List Str:=if t.1=[]\/t.2.1.natAbs≠1\/t.2.2≠1 then uT t.2.1 t.2.2::t.1.map nm else t.1.map nm
noncomputable def tT (t:Tm):Str:=Str.join (Str.ofString "*") (fT t)
noncomputable def qB (t:Tm):Str:=if t.2.1<0 then Str.ofString " - " else Str.ofString " + "
noncomputable def tj (t:Tm):Str:=if t.2.1<0 then Str.ofString "-" else Str.ofString ""
noncomputable def ju (ts:List Tm):List Str:=ts.flatMap λt=>[qB t,tT t]
noncomputable def Cu:List Tm->Str
 |[]=>Str.ofString "0"
 |t::ts=>tj t++(tT t++xK (ju ts))
structure Wr (t:Tm):Prop where
 w1:Wt t.2.1.natAbs
 w2:Wt t.2.2.natAbs
 b1:1<=t.2.2
 k:∀k∈t.1,0<=k/\k<60
 l:t.1.length<=60
theorem qm (sep:Str):∀ts:List Str,(Str.join sep ts).length<=(ts.map (·.length)).sum+ts.length*sep.length
 |[]=>by simp[Str.join,Str.empty,Str.length]
 |[t]=>by simp[Str.join]
 |t::u::ts=>by
  show(t++sep++Str.join sep (u::ts)).length<=_;have ih:=qm sep (u::ts);rw[Str.length_append,Str.length_append,List.map_cons,List.sum_cons,List.length_cons,Nat.add_mul];omega
theorem BJ {k:Int}(h:0<=k/\k<60):(nm k).length<=61:=by
 unfold nm;rw[Str.length_append];have h1:(tx k.natAbs).length<=60:=sV (by decide) (Nat.lt_of_lt_of_le (show k.natAbs<60 by omega) (by decide))
 have h2:(Str.ofString "x").length=1:=by decide +kernel
 omega
theorem Bp {t:Tm}(h:Wr t):(uT t.2.1 t.2.2).length<=3801:=by
 unfold uT;have h1:=h.w1.len;have h2:=h.w2.len
 have h3:(Str.ofString "/").length=1:=by decide +kernel
 split
 ·omega
 ·rw[Str.length_append,Str.length_append];omega
theorem oK {ts:xQ}{n:Nat}(h:∀t∈ts,t.length<=n):(ts.map (·.length)).sum<=n*ts.length:=by
 induction ts with
 |nil=>simp
 |cons t ts ih =>
  have h1:=h t List.mem_cons_self;have h2:=ih λu hu=>h u (List.mem_cons_of_mem _ hu);rw[List.map_cons,List.sum_cons,List.length_cons,Nat.mul_add];omega
theorem wH {t:Tm}(h:Wr t):((fT t).map (·.length)).sum+(fT t).length*1<=10000:=by
 have h1:((t.1.map nm).map (·.length)).sum<=61*(t.1.map nm).length:=oK λu hu=>by
  obtain⟨k,hk,rfl⟩:=List.mem_map.mp hu;exact BJ (h.k k hk)
 have h2:=Bp h;have h3:=h.l;rw[List.length_map] at h1;unfold fT
 split
 ·rw[List.map_cons,List.sum_cons,List.length_cons,List.length_map];omega
 ·rw[List.length_map];omega
theorem jg {t:Tm}(h:Wr t):(tT t).length<=10000:=by
 unfold tT;have h1:=qm (Str.ofString "*") (fT t);have h2:=wH h
 have h3:(Str.ofString "*").length=1:=by decide +kernel
 rw[h3] at h1;omega
theorem mR:∀(n:Nat)(i:Int),fU i (n+1)=fU i n++[i+n]
 |0,i=>by simp[fU]
 |n+1,i=>by
  show i::fU (i+1) (n+1)=i::(fU (i+1) n++[i+((n+1:Nat):Int)]);rw[mR n (i+1)];congr 3;push_cast;omega
theorem tL:∀(n:Nat)(i:Int)(j:Nat),j<n->(fU i n)[j]?=some (i+j)
 |0,i,j,h=>absurd h (Nat.not_lt_zero _)
 |n+1,i,0,h=>by simp[fU]
 |n+1,i,j+1,h=>by
  show(fU (i+1) n)[j]?=_;rw[tL n (i+1) j (by omega)];congr 1;push_cast;omega
theorem jL (ts:List Tm):(ju ts).length=2*ts.length:=by
 induction ts with
 |nil=>rfl
 |cons t ts ih =>
  have e:ju (t::ts)=qB t::tT t::ju ts:=by simp[ju]
  rw[e,List.length_cons,List.length_cons,ih,List.length_cons];omega
variable {H:Hp}
theorem qc {c:Bool}{a b:Str}{σ:St}{Q:VK}(h:Q (.str (if c=true then a else b)) H):if c=true then tC (.str a) σ H Q else tC (.str b) σ H Q:=by
 cases c <;> exact h
noncomputable def kI:Sp:=λvs H Q _=>∃(a:Addr)(t b:Int),vs=[.ref a]/\H a=some (eM t b)/\Wt t.natAbs/\Wt b.natAbs/\1<=b/\∀H',au H H'->Q (.str (uT t b)) H'
noncomputable def zj:Sp:=λvs H Q _=>∃(l pr nu:Addr)(t:Tm),vs=[.ref l,.ref pr,.ref nu]/\H l=some (.lst (((fU 0 60).map nm).map V.str))/\H pr=some (.tup (t.1.map V.int))/\H nu=some (eM t.2.1 t.2.2)/\Wr t/\∀H',au H H'->Q (.str (tT t)) H'
noncomputable def iJ:Sp:=λvs H Q _=>∃(l D:Addr)(zs:List V)(ts:List Tm),vs=[.ref l,.ref D]/\H l=some (.lst (((fU 0 60).map nm).map V.str))/\H D=some (.lst zs)/\cz H zs ts/\ts.length<64/\(∀t∈ts,Wr t)/\∀H',au H H'->Q (.str (Cu ts)) H'
noncomputable def DK:Sp:=λvs H Q _=>vs=[]/\∀l,H l=none->Q (.ref l) (upd H l (.lst (((fU 0 60).map nm).map V.str)))
theorem Dm:uQ ["number","top"] Fx (ar Gm):=dI (by decide +kernel)
theorem BA:uQ ["names","product","number","factors"] zC (ar E7):=dI (by decide +kernel)
theorem tQ:uQ ["names","terms","words","product","number"] p6 (ar Di):=dI (by decide +kernel)
theorem E1:uQ [] [] (ar FX):=dI (by decide +kernel)
theorem nW {s:Str}(h:s.length<=20000):s.length<=sizeLine:=Nat.le_trans h (by decide)
variable {P:wM}{w:World}{K:PySem.W.Frag}{mg:vJ}{base:Heap}
variable {f:Addr}{fd Iw:GF}
theorem rF {fs:Addr}(F:E6 K "shown_unsigned" "shown_unsigned" Gm f fd)(HW:mg "abs"=none)
 (Y9:Cy P w K mg base (bc P w) 1 fs Iw Fx rQ)(Za:L2.aI K Iw Fx [])(Zb:mg "shown_whole"=some (.ref fs))(Zc:keepIn K (.ref fs)=true):Cy P w K mg base (bc P w) 2 f fd Fx kI:=by
 refine F.okN Dm (λvs H Q E h=>?_) (λGL A outer s H vs Q E hr h=>?_)
 ·obtain⟨a,t,b,rfl,_⟩:=h;rfl
 ·obtain⟨a,t,b,rfl,ha,w1,w2,b1,q⟩:=h;have GU:pL 1 _:=hr.mono (by decide)
  refine⟨_,(aj (@aO _ _ 1 _ _ _ _ Dm.nd rfl (Or.inl rfl) (ay Y9 GU (by rfl) Zb Zc Za .nil ag (@ah _ _ _ _ _ (aD fj (by rfl) HW (by rfl) (@ah _ _ _ _ _ (@aQ _ _ _ _ _ _ _ cn (pv 0) ak (λ_ _=>rfl)) af rfl)) af rfl)) rfl (Or.inl rfl))
   (aj (aV (@aB _ _ _ _ _ _ _ _ cM (@aQ _ _ _ _ _ _ _ cn (pv 0) ak (λ_ _=>rfl)) ak (aA _)) (ao (aw (pv 1))) aE)
   (ao (aw (oS (dG (oV (pv 1)) (dG aX (dG (oV (ay Y9 GU (by rfl) Zb Zc Za .nil ag (@ah _ _ _ _ _ (@aQ _ _ _ _ _ _ _ cn (pv 0) ak (λ_ _=>rfl)) af rfl))) qT)))))))),?_⟩
  refine⟨_,rfl,a,_,0,_,rfl,rfl,bX.of ha,rfl,t,rfl,?_⟩;rw[tZ];refine⟨_,rfl,w1,λH1 s1=>?_⟩;have Jt:=s1 _ _ ha;refine⟨_,rfl,a,_,1,_,rfl,rfl,bX.of Jt,rfl,rfl,_,rfl,?_⟩;refine cT (λh=>?_) (λh=>?_)
  ·have eb:b=1:=by simpa using h
   refine⟨_,rfl,?_⟩
   have e:uT t b=tx t.natAbs:=by unfold uT;rw[if_pos eb]
   rw[<-e];exact q _ s1
  ·have eb:b≠1:=by simpa using h
   have l1:=w1.len;have l2:=w2.len
   have l3:(Str.ofString "/").length=1:=by decide +kernel
   have l0:Str.empty.length=0:=by decide +kernel
   refine⟨_,rfl,_,rfl,nW (by omega),_,rfl,nW (by rw[Str.length_append];omega),?_⟩;refine⟨_,rfl,nW (by rw[Str.length_append,Str.length_append];omega),?_⟩;refine⟨_,rfl,a,_,1,_,rfl,rfl,bX.of Jt,rfl,?_⟩;refine⟨b.natAbs,by rw[show((b.natAbs:Nat):Int)=b by omega];rfl,w2,λH2 s2=>?_⟩;refine⟨_,rfl,nW (by omega),_,rfl,nW (by rw[Str.length_append,Str.length_append,Str.length_append];omega),nW (by rw[Str.length_append,Str.length_append,Str.length_append];omega),?_⟩
   have e:uT t b=Str.empty++tx t.natAbs++Str.ofString "/"++tx b.natAbs:=by unfold uT;rw[if_neg eb,rH,ux]
   rw[<-e];exact q _ (s1.trans s2)
theorem vg {tM:Tok}(F:E6 K "place_names" "place_names" FX f fd)(GQ:mg "range"=none)(Ul:mg "MOST_PLACES"=some (.int 60 tM)):Cy P w K mg base (bc P w) 1 f fd [] DK:=by
 refine F.okN E1 (λvs H Q E h=>?_) (λGL A outer s H vs Q E hr h=>?_)
 ·obtain⟨rfl,_⟩:=h;rfl
 ·obtain⟨rfl,q⟩:=h
  refine⟨_,(ao (aw (f9 (N:=["place"]) (nl:=1) (js:=[]) (osc:=ar FX) ⟨rfl,rfl,by decide +kernel,by decide +kernel,by decide +kernel,rfl,.nil,by decide +kernel⟩ rfl
   (dn (by rfl) GQ (@ah _ _ _ _ _ (bR (by rfl) Ul (show aG (.int 60) (.int 60 tM) from⟨_,rfl⟩)) af rfl))
   (λC fp s H=>aH (i:=0) (by show(["place"]:xQ).Nodup;decide +kernel) rfl (Or.inl rfl) (Or.inr rfl))
   (λC fp s H=>eR)
   (λC fp s H=>(oS (dG aX (dG (tw (pv 0)) qT))))))),?_⟩
  refine⟨60,rfl,by decide,by decide,?_⟩;refine lP (n:=60) (λi us H'=>H=H'/\us=((fU 0 i).map nm).map V.str) ⟨rfl,rfl⟩ (λi us H' hi h=>?_) (λi us H' N hi h k=>?_) (λus H1 h=>?_)
  ·obtain⟨rfl,rfl⟩:=h;rw[List.length_map,List.length_map,p8];exact Nat.lt_of_le_of_lt hi (by decide)
  ·obtain⟨rfl,rfl⟩:=h;have hw:(tx i).length<=60:=sV (by decide) (Nat.lt_of_lt_of_le hi (by decide))
   have l1:(Str.ofString "x").length=1:=by decide +kernel
   have l0:Str.empty.length=0:=by decide +kernel
   have hk:Str.ofString (toString (0+(i:Int)))=tx i:=by rw[Int.zero_add];exact t9 i
   refine uU ⟨_,rfl,nW (by rw[Str.length_append];omega),_,rfl,_,rfl,?_,?_⟩
   ·have:(0+(i:Int)).natAbs=i:=by omega
    rw[this];exact Nat.lt_of_lt_of_le (rX (k:=60) (by decide) (Nat.lt_of_lt_of_le hi (by decide))) (by decide)
   ·rw[hk];refine⟨_,rfl,nW (by rw[Str.length_append,Str.length_append];omega),nW (by rw[Str.length_append,Str.length_append];omega),k _ _ ⟨rfl,?_⟩⟩;rw[mR,List.map_append,List.map_append]
    have e:nm (0+(i:Int))=Str.empty++Str.ofString "x"++tx i:=by unfold nm;rw[rH,show(0+(i:Int)).natAbs=i by omega]
    rw[<-e];rfl
  ·obtain⟨rfl,rfl⟩:=h;intro l hl;exact q l hl
theorem yF {k:Int}(h:0<=k/\k<60):iY (((fU 0 60).map nm).map V.str) k=some (.str (nm k)):=by
 obtain⟨j,rfl⟩:∃j:Nat,k=(j:Int):=⟨k.toNat,by omega⟩;refine jO ?_;rw[List.getElem?_map,List.getElem?_map,tL 60 0 j (by omega)];simp
set_option maxHeartbeats 1000000 in
theorem oa {fu:Addr}{OA:GF}(F:E6 K "shown_term" "shown_term" E7 f fd)(HW:mg "abs"=none)
 (FSU:Cy P w K mg base (bc P w) 2 fu OA Fx kI)(bSU:L2.aI K OA Fx [])(mSU:mg "shown_unsigned"=some (.ref fu))(kSU:keepIn K (.ref fu)=true):Cy P w K mg base (bc P w) 3 f fd zC zj:=by
 refine F.okN BA (λvs H Q E h=>?_) (λGL A outer s H vs Q E hr h=>?_)
 ·obtain⟨l,pr,nu,t,rfl,_⟩:=h;rfl
 ·obtain⟨l,pr,nu,⟨ks,t,b⟩,rfl,hl,IA,IZ,wr,q⟩:=h;have HR:pL 2 _:=hr.mono (by decide);have IA:H pr=some (.tup (ks.map V.int)):=IA;have IZ:H nu=some (eM t b):=IZ;have hk:∀k∈ks,0<=k/\k<60:=wr.k;have Sh:ks.length<=60:=wr.l
  refine⟨_,(aj (iG (i:=3) (N:=["place","names"]) (nl:=1) (js:=[0]) (osc:=ar E7) ⟨rfl,rfl,by decide +kernel,by decide +kernel,by decide +kernel,rfl,(.cons ⟨rfl,by decide +kernel⟩ .nil),by decide +kernel⟩ rfl BA.nd rfl (Or.inl rfl)
   (xO (pv 1))
   (λC fp s H=>aH (i:=0) (by show(["place","names"]:xQ).Nodup;decide +kernel) rfl (Or.inl rfl) (Or.inr rfl))
   (λC fp s H=>eR)
   (λC fp s H=>(@aQ _ _ _ _ _ _ _ (show CG _ (qM K) from bu) (pv 1) (pv 0) (λ_ _=>rfl))) (by rfl))
   (aj (aV (PW.pt (dH (bM (fJ (pv 3) (λ_=>rfl))) (dH (@aB _ _ _ _ _ _ _ _ gF (aD fj (by rfl) HW (by rfl) (@ah _ _ _ _ _ (@aQ _ _ _ _ _ _ _ cn (pv 2) ak (λ_ _=>rfl)) af rfl)) ak (aA _)) (dt (@aB _ _ _ _ _ _ _ _ gF (@aQ _ _ _ _ _ _ _ cn (pv 2) ak (λ_ _=>rfl)) ak (aA _)))))) (ao (@aO _ _ 3 _ _ _ _ BA.nd rfl (Or.inl rfl) (@aF _ _ _ _ _ _ _ _ yH (@az _ _ _ _ (@ah _ _ _ _ _ (ay FSU HR (by rfl) mSU kSU bSU .nil ag (@ah _ _ _ _ _ (pv 2) af rfl)) af rfl)) (pv 3)) rfl (Or.inl rfl))) aE)
   (ao (aw (gm PySem.F.plainAttrs_str PySem.F.slot_str_join PySem.F.type_str_join n4 aX (@ah _ _ _ _ _ (pv 3) af rfl)))))),?_⟩
  refine⟨_,rfl,pr,rfl,⟨_,bX.of IA⟩,?_⟩;refine we (xs:=ks.map V.int) (λi us H'=>H=H'/\us=((ks.take i).map nm).map V.str) ⟨rfl,rfl⟩ (λi us H' hi h=>?_) (λi y us H' N hi hy h k=>?_) (λus H' h=>?_)
  ·obtain⟨rfl,rfl⟩:=h;exact⟨Nat.lt_of_le_of_lt (show _<=60 by simp;omega) (by decide),bX.of IA⟩
  ·obtain⟨rfl,rfl⟩:=h;rw[List.getElem?_map] at hy;obtain⟨x,hx,rfl⟩:=Option.map_eq_some_iff.mp hy
   have e2:ks.take (i+1)=ks.take i++[x]:=by rw[List.take_add_one,hx];rfl
   refine uU ⟨_,rfl,_,rfl,l,_,x,_,rfl,rfl,aM.of hl,yF (hk x (List.mem_of_getElem? hx)),k _ _ ⟨rfl,?_⟩⟩;rw[e2,List.map_append,List.map_append];rfl
  obtain⟨rfl,rfl⟩:=h;rw[List.length_map,List.take_length];intro L hL;have s1:=ai (o:=.lst ((ks.map nm).map V.str)) hL;have e1:upd H L (.lst ((ks.map nm).map V.str)) L=some (.lst ((ks.map nm).map V.str)):=ae;generalize upd H L _=H1 at s1 e1 |-;have LU:=s1 _ _ IZ;have fsum:=wH wr
  have fin:∀(H2:Hp)(L2:Addr),au H H2->H2 L2=some (.lst ((fT (ks,t,b)).map V.str)) →
   (EW K "str" (yr K) (tC (.str (Str.ofString "*"))) (cO (dY 3) D1)) ([some (.ref l),some (.ref pr),some (.ref nu),some (.ref L2)]:St) H2 Q:=by
   intro H2 L2 s2 e2;refine⟨rfl,_,rfl,_,L2,_,rfl,rfl,aM.of e2,?_,q _ s2⟩;rw[show(Str.ofString "*").length=1 from by decide +kernel];omega
  have ahead:(ks=[]\/t.natAbs≠1\/b≠1)->∀J,au H1 J->(wC (oU xt (Cc (cO (yG kI [] (λ_ _ _=>False) (cO (dY 2) D1)) D1)) (dY 3)) (c9 3)) {nx:=λσ H'=>(Ek (EW K "str" (yr K) (tC (.str (Str.ofString "*"))) (cO (dY 3) D1))) {nx:=λ_ H'=>Q .non H',rt:=Q} σ H',rt:=Q} ([some (.ref l),some (.ref pr),some (.ref nu),some (.ref L)]:St) J:=by
   intro c J sJ;refine⟨_,rfl,nu,t,b,rfl,sJ _ _ LU,wr.w1,wr.w2,wr.b1,λH2 s2=>?_⟩;refine⟨m9,λp hp=>?_⟩;have r3:=ai (o:=.lst [.str (uT t b)]) hp;have e3:upd H2 p (.lst [.str (uT t b)]) p=some (.lst [.str (uT t b)]):=ae;generalize upd H2 p _=H3 at r3 e3 |-;have eL3:=r3 _ _ (s2 _ _ (sJ _ _ e1));refine⟨_,rfl,p,L,_,_,rfl,rfl,e3,eL3,Nat.le_trans (show _<=61 by simp;omega) (by decide),λp2 RK=>?_⟩;have r4:=ai (o:=.lst ([.str (uT t b)]++(ks.map nm).map V.str)) RK;refine fin _ p2 ((((s1.trans sJ).trans s2).trans r3).trans r4) ?_;rw[ae];unfold fT;rw[if_pos c];rfl
  refine⟨_,rfl,!((ks.map nm).map V.str).isEmpty,.inl ⟨_,aM.of e1,rfl⟩,?_⟩
  by_cases HQ:ks=[]
  ·have z:(((ks.map nm).map V.str).isEmpty)=true:=by rw[HQ];rfl
   rw[z];exact aZ (aZ (ahead (.inl HQ) _ (au.refl _)))
  have z:(((ks.map nm).map V.str).isEmpty)=false:=by
   cases ks with
   |nil=>exact absurd rfl HQ
   |cons _ _=>rfl
  rw[z];refine aS ⟨_,rfl,nu,_,0,_,rfl,rfl,bX.of LU,rfl,t,rfl,?_⟩;rw[tZ];refine⟨rfl,_,rfl,?_⟩;refine cT (λh=>?_) (λh=>?_)
  ·have c:t.natAbs≠1:=λe=>by rw[e] at h;simp at h
   exact aZ (ahead (.inr (.inl c)) _ (au.refl _))
  have c1:t.natAbs=1:=by
   have:((t.natAbs:Nat):Int)=1:=by simpa using h
   omega
  refine⟨_,rfl,nu,_,1,_,rfl,rfl,bX.of LU,rfl,rfl,_,rfl,?_⟩;refine cT (λh=>?_) (λh=>?_)
  ·have c:b≠1:=λe=>by rw[e] at h;simp at h
   exact ahead (.inr (.inr c)) _ (au.refl _)
  have c2:b=1:=by simpa using h
  refine fin _ L s1 ?_;rw[e1];unfold fT
  rw[if_neg (λc=>by
   rcases c with c|c|c
   ·exact HQ c
   ·exact c c1
   ·exact c c2)]
set_option maxHeartbeats 1000000 in
theorem mq {ft:Addr}{IU:GF}(F:E6 K "shown_terms" "shown_terms" Di f fd)
 (FST:Cy P w K mg base (bc P w) 3 ft IU zC zj)(bST:L2.aI K IU zC [])(mST:mg "shown_term"=some (.ref ft))(kST:keepIn K (.ref ft)=true):Cy P w K mg base (bc P w) 4 f fd p6 iJ:=by
 refine F.okN tQ (λvs H Q E h=>?_) (λGL A outer s H vs Q E hr h=>?_)
 ·obtain⟨l,D,zs,ts,rfl,_⟩:=h;rfl
 ·obtain⟨l,D,zs,ts,rfl,hl,hD,ht,h64,wr,q⟩:=h;have Iz:pL 3 _:=hr.mono (by decide)
  refine⟨_,(aj (aV (bM (fJ (pv 1) (λ_=>rfl))) (ao (aw aX)) aE)
   (aj (@aO _ _ 2 _ _ _ _ tQ.nd rfl (Or.inl rfl) (@az _ _ _ _ af) rfl (Or.inl rfl))
   (aj (gh PassesOwn.never rfl (eP (pv 1)) (dQ rfl (aJ (aH (i:=3) tQ.nd rfl (Or.inl rfl)) (aJ (aH (i:=4) tQ.nd rfl (Or.inl rfl)) cm)))
   (aj (gc (gm PySem.F.plainAttrs_list PySem.F.slot_list_append PySem.F.type_list_append dZ (pv 2) (@ah _ _ _ _ _ (lU (@aB _ _ _ _ _ _ _ _ eQ (@aQ _ _ _ _ _ _ _ cn (pv 4) ak (λ_ _=>rfl)) ak (aA _)) aX aX) af rfl)))
   (ao (gc (gm PySem.F.plainAttrs_list PySem.F.slot_list_append PySem.F.type_list_append dZ (pv 2) (@ah _ _ _ _ _ (ay FST Iz (by rfl) mST kST bST .nil ag (@ah _ _ _ _ _ (pv 0) (@ah _ _ _ _ _ (pv 3) (@ah _ _ _ _ _ (pv 4) af rfl) rfl) rfl)) af rfl))))))
   (aj (c8 (lU (@aB _ _ _ _ _ _ _ _ cM (@aQ _ _ _ _ _ _ _ bu (pv 2) ak (λ_ _=>rfl)) aX (aA _)) aX aX) (i8 (pv 2) ak fb))
   (ao (aw (gm PySem.F.plainAttrs_str PySem.F.slot_str_join PySem.F.type_str_join n4 aX (@ah _ _ _ _ _ (pv 2) af rfl)))))))),?_⟩
  have zl:=ht.length;refine⟨_,rfl,!zs.isEmpty,.inl ⟨_,aM.of hD,rfl⟩,?_⟩
  cases ts with
  |nil =>
   have z:zs=[]:=by cases ht;rfl
   subst z;exact aZ (q _ (au.refl _))
  |cons t0 tr =>
   have z:zs.isEmpty=false:=by
    cases zs with
    |nil=>cases ht
    |cons _ _=>rfl
   rw[z];refine aS ⟨Nat.zero_le _,λL hL=>?_⟩;have s1:=ai (o:=.lst []) hL;have e1:upd H L (.lst []) L=some (.lst []):=ae;generalize upd H L (.lst [])=H1 at s1 e1 |-;have nDL:D≠L:=av hD hL;have nlL:l≠L:=av hl hL;refine⟨_,rfl,D,rfl,⟨_,aM.of (s1 _ _ hD)⟩,?_⟩;refine TGs (K:=K) (a:=D) (xs:=zs) (λj σ H'=>au H H'/\H' L=some (.lst ((ju ((t0::tr).take j)).map V.str))/\∃o3 o4,σ=[some (.ref l),some (.ref D),some (.ref L),o3,o4]) ⟨s1,e1,_,_,rfl⟩ (λj σ H' _ h=>aM.of (h.1 _ _ hD)) ?_ ?_
   ·rintro j y σ H' hy ⟨sj,eL,o3,o4,rfl⟩;obtain⟨t,et,at_,pr,nu,rfl,JN,IA,IZ⟩:=dm ht hy;have tm:=List.mem_of_getElem? et
    have hj:j<64:=by
     have:=(List.getElem?_eq_some_iff.mp et).1;omega
    have Kq:(t0::tr).take (j+1)=(t0::tr).take j++[t]:=by rw[List.take_add_one,et];rfl
    have ll:((ju ((t0::tr).take j)).map V.str).length<=200:=by
     rw[List.length_map];have:=jL ((t0::tr).take j);rw[List.length_take] at this;omega
    refine⟨at_,_,rfl,bX.of (sj _ _ JN),rfl,_,_,rfl,_,_,rfl,rfl,?_⟩;refine⟨_,rfl,.inl ⟨rfl,_,aM.of eL⟩,_,rfl,nu,_,0,_,rfl,rfl,bX.of (sj _ _ IZ),rfl,_,_,rfl,rfl,_,rfl,?_⟩;refine qc ?_
    have ew:(if decide (t.2.1<0)=true then Str.ofString " - " else Str.ofString " + ")=qB t:=by unfold qB;simp
    rw[ew];refine⟨L,_,_,rfl,rfl,eL,Nat.lt_of_le_of_lt ll (by decide),?_⟩;have e2:upd H' L (.lst ((ju ((t0::tr).take j)).map V.str++[.str (qB t)])) L=some (.lst ((ju ((t0::tr).take j)).map V.str++[.str (qB t)])):=ae
    have s2:au H (upd H' L (.lst ((ju ((t0::tr).take j)).map V.str++[.str (qB t)]))):=λc u e=>by rw[aq (av e hL)];exact sj _ _ e
    generalize upd H' L _=H2 at e2 s2 |-;refine⟨_,rfl,.inl ⟨rfl,_,aM.of e2⟩,_,rfl,_,rfl,_,rfl,l,pr,nu,t,rfl,s2 _ _ hl,s2 _ _ IA,s2 _ _ IZ,wr t tm,λH3 s3=>?_⟩;refine⟨L,_,_,rfl,rfl,s3 _ _ e2,Nat.lt_of_le_of_lt (show _<=201 by rw[List.length_append,List.length_singleton];omega) (by decide),λc u e=>?_,?_,_,_,rfl⟩
    ·rw[aq (av e hL)];exact s3 _ _ (s2 _ _ e)
    ·rw[ae,Kq];unfold ju;rw[List.flatMap_append,List.map_append];simp
   ·rintro σ H' ⟨sj,eL,o3,o4,rfl⟩;rw[zl,List.take_length] at eL
    have ef:(ju (t0::tr)).map V.str=V.str (qB t0):: V.str (tT t0):: (ju tr).map V.str:=by simp[ju]
    rw[ef] at eL;refine⟨_,rfl,L,_,0,_,rfl,rfl,aM.of eL,jO (xs:=V.str (qB t0):: V.str (tT t0):: (ju tr).map V.str) (j:=0) rfl,rfl,_,rfl,?_⟩;refine qc ?_
    have es:(if decide (V.str (qB t0)=V.str (Str.ofString " - "))=true then Str.ofString "-" else Str.ofString "")=tj t0:=by
     unfold qB tj
     by_cases n:t0.2.1<0
     ·rw[if_pos n,if_pos n,decide_eq_true rfl];rfl
     ·rw[if_neg n,if_neg n,decide_eq_false (by decide +kernel)];rfl
    rw[es];refine⟨_,rfl,L,_,0,0,rfl,rfl,eL,(by unfold qS;rw[if_pos (Int.le_refl 0),if_pos (by simp only[List.length_cons];omega)];rfl),?_⟩
    have s5:au H (upd H' L (.lst ((V.str (qB t0):: V.str (tT t0):: (ju tr).map V.str).set 0 (.str (tj t0))))):=λc u e=>by rw[aq (av e hL)];exact sj _ _ e
    have e5:upd H' L (.lst ((V.str (qB t0):: V.str (tT t0):: (ju tr).map V.str).set 0 (.str (tj t0)))) L=some (.lst ((tj t0::tT t0::ju tr).map V.str)):=ae;generalize upd H' L _=H5 at s5 e5 |-;refine⟨rfl,_,rfl,_,L,_,rfl,rfl,aM.of e5,?_,?_⟩
    ·have hs:∀u∈tj t0::tT t0::ju tr,u.length<=10000:=by
      intro u hu
      rcases List.mem_cons.mp hu with rfl|hu
      ·unfold tj;split <;> decide +kernel
      rcases List.mem_cons.mp hu with rfl|hu
      ·exact jg (wr t0 List.mem_cons_self)
      ·unfold ju at hu;obtain⟨t,tm,hu⟩:=List.mem_flatMap.mp hu
       rcases List.mem_cons.mp hu with rfl|hu
       ·unfold qB;split <;> decide +kernel
       ·have:u=tT t:=by simpa using hu
        rw[this];exact jg (wr t (List.mem_cons_of_mem _ tm))
     have h1:=oK hs;have h2:=jL tr
     have h3:tr.length<64:=by simp at h64;omega
     rw[show(Str.ofString "").length=0 from by decide +kernel];simp only[List.length_cons] at h1 |-;omega
    ·rw[jU];exact q _ s5
noncomputable abbrev A7:Stmt:=aL (aY 34) 3
noncomputable abbrev xT:Stmt:=aL (aY 34) 4
structure vn (K:Frag)(mg:vJ)(C:Addr):Prop where
 c:zz K mg C
 isC:((clsIn K C).isSome&&typeIn K (.ref C)==some (.type "type"))=true
 ca:findIn K (.ref C) "__class__"=some (some (.builtin "object.__class__"))
 sp:specialIn K (.builtin "object.__class__") "__get__"=some (some (.builtin "getset_descriptor.__get__"))
 tk:takesIn K (.builtin "object.__class__")=some true
 ob:mroIn K C (.type "object")=some true
variable {K:Frag}{mg:vJ}{C:Addr}
theorem vn.ty (c:vn K mg C){p dx:Addr}{fs:List (Str×V)}(e:H p=some (.ins C dx fs)):Eg K H (.ref p) (.ref C):=.of (.ins e c.c.cl c.ca c.sp c.tk c.ob)
theorem vn.is (c:vn K mg C):kitOne K (.ref C) (.ref C)=some true:=by
 unfold kitOne;rw[if_pos (by simp)]
variable {x:V}{T:String}
theorem vn.no (c:vn K mg C)(h:Th H x T):kitOne K (.type T) (.ref C)=some false:=by
 show(if(Value.type T==Value.ref C)=true then some true else(if((clsIn K C).isSome&&typeIn K (.ref C)==some (.type "type"))=true then subIn K (.type T) (.ref C) else none))=some false;rw[if_neg (by intro z;cases beq_iff_eq.mp z),if_pos c.isC]
 cases h <;> rfl
theorem jG :notFirst K C (.ref C)=true:=by unfold notFirst;simp
theorem DV (h:Th H x T):notFirst K C (.type T)=true:=by
 unfold notFirst
 cases h <;> rfl
noncomputable def yB (C CF:Addr):Sp:=λvs H Q _=>∃(s:Addr)(p:Int)(ts:List Tm),vs=[.ref s]/\mh C CF H s p ts/\ts.length<64/\(∀t∈ts,Wr t)/\∀H',au H H'->Q (.str (Cu ts)) H'
noncomputable def rT (p:Int)(ts:List Tm):Str:=Str.ofString "Sum("++Str.ofString (toString p)++Str.ofString ", '"++Cu ts++Str.ofString "')"
noncomputable def fV (C CF:Addr):Sp:=λvs H Q _=>∃(s:Addr)(p:Int)(ts:List Tm),vs=[.ref s]/\FP p/\mh C CF H s p ts/\ts.length<64/\(∀t∈ts,Wr t)/\∀H',au H H'->Q (.str (rT p ts)) H'
theorem By:uQ ["self"] ["self"] (ar A7):=dI (by decide +kernel)
theorem Ao:uQ ["self"] ["self"] (ar xT):=dI (by decide +kernel)
theorem zI {ts:List Tm}(h64:ts.length<64)(wr:∀t∈ts,Wr t):(Cu ts).length<=2000000:=by
 cases ts with
 |nil=>decide +kernel
 |cons t0 tr =>
  have hs:∀u∈ju tr,u.length<=10000:=by
   intro u hu;unfold ju at hu;obtain⟨t,tm,hu⟩:=List.mem_flatMap.mp hu
   rcases List.mem_cons.mp hu with rfl|hu
   ·unfold qB;split <;> decide +kernel
   ·have:u=tT t:=by simpa using hu
    rw[this];exact jg (wr t (List.mem_cons_of_mem _ tm))
  have h1:=oK hs;have h2:=jL tr
  have h3:tr.length<64:=by simp at h64;omega
  have h4:=jg (wr t0 List.mem_cons_self)
  have h5:(tj t0).length<=1:=by unfold tj;split <;> decide +kernel
  show(tj t0++(tT t0++xK (ju tr))).length<=_;rw[Str.length_append,Str.length_append,jH];rw[h2] at h1;omega
theorem kF {s:Str}(h:s.length<=3000000):s.length<=sizeLine:=Nat.le_trans h (by decide)
variable {p:Int}
theorem FP.le (h:FP p):0<=p/\p<=97:=by
 rcases h with h|h
 ·omega
 ·have:∀q∈Dv,0<=q/\q<=97:=by decide
  exact this p h
theorem zV {fs fp CF:Addr}{Iy:GF}(F:E6 K "__str__" "Sum.__str__" A7 f fd)(c:zz K mg C)(HN:mg "str"=none)
 (UA:Cy P w K mg base (bc P w) 4 fs Iw p6 iJ)(UB:L2.aI K Iw p6 [])(UC:mg "shown_terms"=some (.ref fs))(UD:keepIn K (.ref fs)=true)
 (FPN:Cy P w K mg base (bc P w) 1 fp Iy [] DK)(bPN:L2.aI K Iy [] [])(mPN:mg "place_names"=some (.ref fp))(kPN:keepIn K (.ref fp)=true):Cy P w K mg base (bc P w) 5 f fd ["self"] (yB C CF):=by
 refine F.okN By (λvs H Q E h=>?_) (λGL A outer s H vs Q E hr h=>?_)
 ·obtain⟨s,p,ts,rfl,_⟩:=h;rfl
 ·obtain⟨s0,p,ts,rfl,S,h64,wr,q⟩:=h;have LP:pL 4 _:=hr.mono (by decide);have GU:pL 1 _:=hr.mono (by decide);obtain⟨dx,fl,GO,Dd,zs,h1,h2,h3,h4⟩:=S.ex;refine⟨_,(ao (aw (a9 vF (by rfl) HN (by rfl) (@ah _ _ _ _ _ (ay UA LP (by rfl) UC UD UB .nil ag (@ah _ _ _ _ _ (aca FPN GU (by rfl) mPN kPN bPN .nil ag) (@ah _ _ _ _ _ (br (pv 0) rfl) af rfl) rfl)) af rfl)))),?_⟩;refine⟨rfl,λl hl=>?_⟩;have s1:=ai (o:=.lst (((fU 0 60).map nm).map V.str)) hl;have e1:upd H l (.lst (((fU 0 60).map nm).map V.str)) l=some (.lst (((fU 0 60).map nm).map V.str)):=ae;generalize upd H l _=H1 at s1 e1 |-;refine⟨_,rfl,s0,C,dx,_,_,rfl,s1 _ _ h1,c.cl,c.nT,rfl,l,Dd,zs,ts,rfl,e1,s1 _ _ h3,cz.keep h4 (bh.of s1),h64,wr,λH2 s2=>?_⟩;exact⟨_,rfl,q _ (s1.trans s2)⟩
variable {CF:Addr}
theorem xS {fs fp:Addr}{Iy:GF}(F:E6 K "__repr__" "Sum.__repr__" xT f fd)(c:zz K mg C)(cF:Cp K mg CF)(HN:mg "str"=none)
 (FS:Cy P w K mg base (bc P w) 5 fs Iw ["self"] (yB C CF))(bS:L2.aI K Iw ["self"] [])(nS:findIn K (.ref C) "__str__"=some (some (.ref fs)))(iS:isFn K (.ref fs)=true)
 (FP:Cy P w K mg base (bc P w) 1 fp Iy ["self"] (iB CF))(bP:L2.aI K Iy ["self"] [])(mP:L2.Meth K CF "prime" fp):Cy P w K mg base (bc P w) 8 f fd ["self"] (fV C CF):=by
 refine F.okN Ao (λvs H Q E h=>?_) (λGL A outer s H vs Q E hr h=>?_)
 ·obtain⟨s,p,ts,rfl,_⟩:=h;rfl
 ·obtain⟨s0,p,ts,rfl,hp,S,h64,wr,q⟩:=h;have Il:pL 7 _:=hr;have GU:pL 1 _:=hr.mono (by decide);obtain⟨dx,fl,GO,Dd,zs,h1,h2,h3,h4⟩:=S.ex;obtain⟨p0,Ua⟩:=K16.FP.le hp
  have l0:Str.empty.length=0:=by decide +kernel
  have l1:(Str.ofString "Sum(").length=4:=by decide +kernel
  have l2:(Str.ofString (toString p)).length<=100:=by
   obtain⟨n,rfl⟩:∃n:Nat,p=(n:Int):=⟨p.toNat,by omega⟩;rw[t9];exact sV (by decide) (Nat.lt_of_le_of_lt (show n<=97 by omega) (by decide))
  have l3:(Str.ofString ", '").length=3:=by decide +kernel
  have l4:=zI h64 wr
  have l5:(Str.ofString "')").length=2:=by decide +kernel
  refine⟨_,(ao (aw (oS (dG aX (dG (tw (bx (br (pv 0) rfl) cF.cl mP FP GU bP .nil ag)) (dG aX (dG (oV (a9 (qf nS iS FS Il bS ag) (by rfl) HN (by rfl) (@ah _ _ _ _ _ (pv 0) af rfl))) (dG aX qT)))))))),?_⟩;refine⟨_,rfl,kF (by rw[Str.length_append];omega),_,rfl,s0,C,dx,_,_,rfl,h1,c.cl,c.nF,rfl,?_⟩;refine⟨fl,GO,_,rfl,h2,rfl,fl,GO,p,rfl,h2,p,rfl,?_,_,rfl,kF (by rw[Str.length_append,Str.length_append];omega),?_⟩
  ·have:p.natAbs<2^60:=Nat.lt_of_le_of_lt (show p.natAbs<=97 by omega) (by decide);exact Nat.lt_of_lt_of_le (rX (by decide) this) (by decide)
  refine⟨_,rfl,kF (by rw[Str.length_append,Str.length_append,Str.length_append];omega),?_⟩;refine⟨_,rfl,s0,dx,_,rfl,h1,s0,p,ts,rfl,S,h64,wr,λH2 s2=>?_⟩;refine⟨_,rfl,_,rfl,kF (by omega),_,rfl,kF (by rw[Str.length_append,Str.length_append,Str.length_append,Str.length_append];omega),?_⟩;refine⟨_,rfl,kF (by rw[Str.length_append,Str.length_append,Str.length_append,Str.length_append,Str.length_append];omega),kF (by rw[Str.length_append,Str.length_append,Str.length_append,Str.length_append,Str.length_append];omega),?_⟩
  have e:Str.empty++Str.ofString "Sum("++Str.ofString (toString p)++Str.ofString ", '"++Cu ts++Str.ofString "')"=rT p ts:=by unfold rT;rw[rH]
  rw[e];exact q _ s2
noncomputable def hV (t:Tm):Int:=t.1.getLastD 0+1
noncomputable def eC (ts:List Tm):Int:=(Mx.il none ((ts.filter λt=>!t.1.isEmpty).map hV)).getD 0
noncomputable def tE (C:Addr):Sp:=λvs H Q _=>∃(s dx fl D:Addr)(zs:List V)(ts:List Tm),vs=[.ref s]/\H s=some (.ins C dx (uR fl D))/\H D=some (.lst zs)/\cz H zs ts/\ts.length<4000/\(∀t∈ts,t.1.length<4000)/\∀H',au H H'->Q (.int (eC ts)) H'
theorem An:uQ ["self"] ["self"] (ar rR):=dI (by decide +kernel)
theorem AN {ks:List Int}(h:ks≠[]):iY (ks.map V.int) (-1)=some (.int (ks.getLastD 0)):=by
 have hl:0<ks.length:=List.length_pos_iff.mpr h;unfold iY qS;rw[List.length_map,if_neg (by decide),if_pos (by omega)];show(ks.map V.int)[((-1:Int)+(ks.length:Int)).toNat]?=_
 have e:((-1:Int)+(ks.length:Int)).toNat=ks.length-1:=by omega
 rw[e,List.getElem?_map,List.getElem?_eq_getElem (by omega)]
 have g:ks.getLastD 0=ks[ks.length-1]'(by omega):=by
  rw[List.getLastD_eq_getLast?,List.getLast?_eq_getElem?,List.getElem?_eq_getElem (by omega)];rfl
 rw[g];rfl
theorem wj (F:E6 K "reach" "Sum.reach" rR f fd)(c:zz K mg C)(HC:mg "max"=none):Cy P w K mg base (bc P w) 1 f fd ["self"] (tE C):=by
 refine F.okN An (λvs H Q E h=>?_) (λGL A outer s H vs Q E hr h=>?_)
 ·obtain⟨s,dx,fl,D,zs,ts,rfl,_⟩:=h;rfl
 ·obtain⟨s0,dx,fl,D,zs,ts,rfl,hs,hD,hz,hl,Ia,q⟩:=h
  refine⟨_,ao (aw (tO (f9 (g:=xv K 2 (iz (c9 0) (iz (c9 1) y8))) (N:=["product","number"]) (nl:=2) (js:=[]) (osc:=ar rR) ⟨rfl,rfl,by decide +kernel,by decide +kernel,by decide +kernel,rfl,.nil,by decide +kernel⟩ rfl
   (eP (br (pv 0) rfl))
   (λC fp s H=>(dQ (X:=iD _ ["product","number"] _ C fp s H) rfl (aJ (aH (X:=iD _ ["product","number"] _ C fp s H) (i:=0) (by show(["product","number"]:xQ).Nodup;decide +kernel) rfl (Or.inl rfl) (Or.inr rfl)) (aJ (aH (X:=iD _ ["product","number"] _ C fp s H) (i:=1) (by show(["product","number"]:xQ).Nodup;decide +kernel) rfl (Or.inl rfl) (Or.inr rfl)) cm))))
   (λC fp s H=>jR (show PT _ _ (λσ H Q=>dY 0 σ H λx H'=>∃k,Bx K x H' k/\Q k H') from fJ (pv 0) (λ_=>rfl)))
   (λC fp s H=>(@aF _ _ _ _ _ _ _ _ cH (@aQ _ _ _ _ _ _ _ (show CG _ (Cr K) from cn) (pv 0) (pB ko ak) (λ_ _=>rfl)) ak))) ak rfl (by rfl) HC)),?_⟩
  refine⟨_,rfl,s0,C,dx,_,_,rfl,hs,c.cl,c.nT,rfl,D,rfl,⟨zs,aM.of hD⟩,?_⟩;refine⟨λi m xs σ' H'=>m=zs.length-i/\i<=zs.length/\au H H'/\xs=(((ts.take i).filter λt=>!t.1.isEmpty).map hV).map V.int/\∃o1 o2,σ'=[o1,o2],⟨zs.length,by simp,Nat.zero_le _,au.refl _,rfl,none,none,rfl⟩,?_⟩;rintro i m xs σ' H' ⟨rfl,hi,sH,rfl,o1,o2,rfl⟩;have zl:=hz.length;have Ou:=sH _ _ hD;refine⟨?_,?_⟩
  ·rw[List.length_map,List.length_map];exact Nat.lt_of_le_of_lt (List.length_filter_le _ _) (Nat.lt_of_le_of_lt (by simp;omega) (Nat.lt_trans hl (by decide)))
  by_cases GV:i<zs.length
  ·refine .inr ⟨⟨zs,zs[i],aM.of Ou,by simp[GV]⟩,λy H2 hy=>?_⟩;obtain⟨rfl,hy⟩:=hy;obtain⟨t,et,tr⟩:=dm hz (hy zs (aM.of Ou));obtain⟨a,pr,nu,rfl,ha,IA,IZ⟩:=tr.keep (bh.of sH)
   have Kq:ts.take (i+1)=ts.take i++[t]:=by rw[List.take_add_one,et];rfl
   refine⟨a,_,rfl,bX.of ha,rfl,_,_,rfl,_,_,rfl,rfl,?_⟩;refine⟨_,rfl,!t.1.isEmpty,.inr (.inl ⟨_,bX.of IA,by simp⟩),?_⟩
   cases hb:t.1.isEmpty with
   |false =>
    have ne:t.1≠[]:=by intro z;rw[z] at hb;cases hb
    refine aZ ⟨_,rfl,_,rfl,pr,_,-1,_,rfl,rfl,bX.of IA,AN ne,_,_,rfl,rfl,zs.length-(i+1),by omega,rfl,GV,sH,?_,_,_,rfl⟩;rw[Kq,List.filter_append];simp[hb,hV]
   |true =>
    refine aS ⟨zs.length-(i+1),by omega,rfl,GV,sH,?_,_,_,rfl⟩;rw[Kq,List.filter_append];simp[hb]
  ·have ei:i=zs.length:=by omega
   subst ei;refine .inl ⟨⟨zs,aM.of Ou,Nat.le_refl _⟩,λL hL=>?_⟩;rw[zl,List.take_length];refine⟨L,_,.int 0,rfl,rfl,aM.of ae,?_⟩;have q':=q _ (λb u z=>by rw[aq (av (sH _ _ z) hL)];exact sH _ _ z:au H (upd H' L (.lst (((ts.filter λt=>!t.1.isEmpty).map hV).map V.int))));unfold eC at q';show Q _ (upd H' L (.lst (((ts.filter λt=>!t.1.isEmpty).map hV).map V.int)));generalize upd H' L (.lst (((ts.filter λt=>!t.1.isEmpty).map hV).map V.int))=H9 at q' |-;generalize Mx.il none ((ts.filter λt=>!t.1.isEmpty).map hV)=ob at q' |-
   cases ob <;> exact q'
noncomputable abbrev Bd:Stmt:=aL (aY 34) 7
noncomputable def fX (ts:List Tm):Nat:=(ts.getLast?.map λt=>t.1.length).getD 0
noncomputable def rL (C:Addr):Sp:=λvs H Q _=>∃(s dx fl D:Addr)(zs:List V)(ts:List Tm),vs=[.ref s]/\H s=some (.ins C dx (uR fl D))/\H D=some (.lst zs)/\cz H zs ts/\Q (.int (fX ts)) H
theorem Co:uQ ["self"] ["self"] (ar Bd):=dI (by decide +kernel)
theorem B8 {zs:List V}(h:zs.length-1<zs.length):iY zs (-1)=some zs[zs.length-1]:=by
 unfold iY qS;rw[if_neg (by decide),if_pos (by omega)];show zs[((-1:Int)+(zs.length:Int)).toNat]?=_;rw[show((-1:Int)+(zs.length:Int)).toNat=zs.length-1 from by omega,List.getElem?_eq_getElem h]
theorem Ak (F:E6 K "degree" "Sum.degree" Bd f fd)(c:zz K mg C)(GP:mg "len"=none):Cy P w K mg base (bc P w) 1 f fd ["self"] (rL C):=by
 refine F.okN Co (λvs H Q E h=>?_) (λGL A outer s H vs Q E hr h=>?_)
 ·obtain⟨s,dx,fl,D,zs,ts,rfl,_⟩:=h;rfl
 ·obtain⟨s0,dx,fl,D,zs,ts,rfl,hs,hD,ht,q⟩:=h;refine⟨_,ao (aw (lU (fJ (br (pv 0) rfl) (λ_=>rfl)) (aD bp (by rfl) GP PySem.boot_len (@ah _ _ _ _ _ (@aQ _ _ _ _ _ _ _ cn (@aQ _ _ _ _ _ _ _ bu (br (pv 0) rfl) (pB ko ak) (λ_ _=>rfl)) ak (λ_ _=>rfl)) af rfl)) ak)),?_⟩;have el:zs.length=ts.length:=ht.length;refine⟨_,rfl,s0,C,dx,_,_,rfl,hs,c.cl,c.nT,rfl,!zs.isEmpty,.inl ⟨_,aM.of hD,rfl⟩,?_⟩
  cases hb:zs.isEmpty with
  |true =>
   have e0:ts=[]:=by
    cases zs with
    |nil=>exact List.length_eq_zero_iff.mp el.symm
    |cons _ _=>cases hb
   subst e0;exact aS q
  |false =>
   have hl:zs.length-1<zs.length:=by
    cases zs with
    |nil=>cases hb
    |cons _ _=>exact Nat.lt_succ_self _
   obtain⟨t,et,tr⟩:=dm ht (List.getElem?_eq_getElem hl)
   have ed:fX ts=t.1.length:=by
    unfold fX;rw[List.getLast?_eq_getElem?,<-el,et];rfl
   rw[ed] at q;obtain⟨a,pr,nu,ez,ha,IA,IZ⟩:=tr;refine aZ ⟨_,rfl,s0,C,dx,_,_,rfl,hs,c.cl,c.nT,rfl,_,rfl,D,zs,-1,zs[zs.length-1],rfl,rfl,aM.of hD,B8 hl,?_⟩;rw[ez];refine⟨a,_,0,_,rfl,rfl,bX.of ha,rfl,pr,_,rfl,.inr (bX.of IA),?_⟩;rw[List.length_map];exact q
noncomputable abbrev EC:Stmt:=(aY 38)
structure SW (C CF:Addr)(H:Hp)(s:Addr)(p:Int)(ts:List Tm):Prop where
 r:mh C CF H s p ts
 fp:FP p
 few:ts.length<64
 wr:∀t∈ts,Wr t
 pl:∀t∈ts,t.1.length<4000
noncomputable def dj (H H':Hp):Prop:=∀b u,H b=some u->(∀C dx,u≠.ins C dx [])->H' b=some u
variable {H':Hp}
theorem dj.of (s:au H H'):dj H H':=λb u e _=>s b u e
theorem dj.but {s dx:Addr}(h:SameBut s H H')(e:H s=some (.ins C dx [])):dj H H':=λb u eb n=>h b u eb λz=>by
 rw[z,e] at eb
 cases eb
 exact n _ _ rfl
theorem Th.aac (h:Th H x T)(k:dj H H'):Th H' x T:=by
 cases h with
 |non=>exact .non
 |bl b=>exact .bl b
 |int i=>exact .int i
 |str y=>exact .str y
 |lst e=>exact .lst (k _ _ e λ_ _ z=>by cases z)
 |tup e=>exact .tup (k _ _ e λ_ _ z=>by cases z)
 |dK e=>exact .dK (k _ _ e λ_ _ z=>by cases z)
theorem dj.abP (k:dj H H'):bh H H':=λb xs e=>k b _ e λ_ _ z=>by cases z
theorem SW.aac {s:Addr}{ts:List Tm}(h:SW C CF H s p ts)(k:dj H H'):SW C CF H' s p ts:=by
 obtain⟨dx,fl,GO,D,zs,h1,h2,h3,h4⟩:=h.r.ex;exact⟨⟨dx,fl,GO,D,zs,k _ _ h1 (λ_ _ z=>by injection z with _ _ z;exact absurd z (by simp[uR])),k _ _ h2 (λ_ _ z=>by injection z with _ _ z;exact absurd z (by simp[cw])),k _ _ h3 (λ_ _ z=>by cases z),cz.keep h4 k.abP⟩,h.fp,h.few,h.wr,h.pl⟩
inductive WX (C CF:Addr)(p n:Int)(H:Hp):V->Bool->Prop where
 |sum {s:Addr}{p':Int}{ts:List Tm}:SW C CF H s p' ts->WX C CF p n H (.ref s) (decide (p'=p)&&decide (eC ts<=n))
 |oth {x:V}{T:String}:Th H x T->WX C CF p n H x false
theorem WX.aac {n:Int}{b:Bool}(h:WX C CF p n H x b)(k:dj H H'):WX C CF p n H' x b:=by
 cases h with
 |sum s=>exact .sum (s.aac k)
 |oth t=>exact .oth (t.aac k)
noncomputable def Ba (C CF:Addr):Sp:=λvs H Q _=>∃(fl GO:Addr)(p n:Int)(y:V)(b:Bool),vs=[.ref fl,.int n,y]/\H fl=some (.ins CF GO (cw p))/\WX C CF p n H y b/\∀H',au H H'->Q (.bl b) H'
theorem C7:uQ qd qd (ar EC):=dI (by decide +kernel)
theorem CZ {fe ff fr:Addr}{OB OC Zd:GF}(F:E6 K "is_wish" "is_wish" EC f fd)(c:vn K mg C)(cF:Cp K mg CF)(GJ:mg "isinstance"=none)
 (FE:Cy P w K mg base (bc P w) 1 fe OB qR (AQ CF))(bE:L2.aI K OB qR [])(nE:findIn K (.ref CF) "__eq__"=some (some (.ref fe)))(iE:isFn K (.ref fe)=true)
 (FSf:Cy P w K mg base (bc P w) 1 ff OC ["self"] (p3 C CF))(bSf:L2.aI K OC ["self"] [])(mSf:Meth K C "field" ff)
 (FRe:Cy P w K mg base (bc P w) 1 fr Zd ["self"] (tE C))(bRe:L2.aI K Zd ["self"] [])(mRe:Meth K C "reach" fr):
 Cy P w K mg base (bc P w) 2 f fd qd (Ba C CF):=by
 refine F.okN C7 (λvs H Q E h=>?_) (λGL A outer s H vs Q E hr h=>?_)
 ·obtain⟨fl,GO,p,n,y,b,rfl,_⟩:=h;rfl
 ·obtain⟨fl,GO,p,n,y,b,rfl,hf,hw,q⟩:=h;have GU:pL 1 _:=hr.mono (by decide);refine⟨_,(ao (aw (cp (aD bf (by rfl) GJ (by rfl) (@ah _ _ _ _ _ (pv 2) (@ah _ _ _ _ _ (bR (by rfl) c.c.mgC (show aG (.ref C) (.ref C) from rfl)) af rfl) rfl)) (cp (@bD _ _ _ _ _ _ _ _ (iA nE iE FE GU bE ag) (bx (pv 2) c.c.cl mSf FSf GU bSf .nil ag) (pv 0) (aA _)) (dC (@bD _ _ _ _ _ _ _ _ p4 (bx (pv 2) c.c.cl mRe FRe GU bRe .nil ag) (pv 1) (aA _))))))),?_⟩
  cases hw with
  |oth th=>exact⟨_,rfl,y,.ref C,_,_,_,rfl,rfl,th.ty,c.no th,_,rfl,aS (q _ (au.refl _))⟩
  |@sum s p' ts S =>
   obtain⟨dx,HL,HZ,D,zs,h1,h2,h3,h4⟩:=S.r.ex;refine⟨_,rfl,.ref s,.ref C,_,_,_,rfl,rfl,c.ty h1,c.is,_,rfl,aZ ?_⟩;refine⟨_,rfl,s,dx,_,rfl,h1,rfl,s,dx,HL,D,rfl,h1,_,rfl,?_⟩;refine⟨HL,HZ,_,.ref CF,rfl,h2,cF.ty hf,jG,HL,HZ,p',.ref fl,rfl,h2,.inl ⟨fl,GO,p,rfl,hf,_,rfl,?_⟩⟩
   cases e:decide (p'=p) with
   |false =>
    refine⟨_,rfl,aS ?_⟩;have q':=q _ (au.refl _);rw[e] at q';exact q'
   |true =>
    refine⟨_,rfl,aZ ?_⟩;refine⟨_,rfl,s,dx,_,rfl,h1,rfl,s,dx,HL,D,zs,ts,rfl,h1,h3,h4,Nat.lt_trans S.few (by decide),S.pl,λH' sH=>⟨_,rfl,_,_,rfl,rfl,?_⟩⟩;have q':=q _ sH;rw[e] at q';exact q'
end K16
namespace L2
open PySem PySem.W PySem.Spec PyProof.Rows
noncomputable def eO (C:Addr)(f g:Str):Sp:=λvs H Q _=>∃(a:Addr)(x y:V),vs=[.ref a,x,y]/\H a=some (qe a (.ref C))/\∀dx,H dx=none->dx≠a->Q .non (upd (upd H dx (cR dx [(f,x),(g,y)])) a (dO a (.ref C) dx true))
section
variable {C:Addr}{H:Hp}{Q:VK}{fld IW:Str}{v v2:V}
theorem Cw (h:∀a dx,H a=none->H dx=none->dx≠a->Q (.ref a) (upd (upd H dx (cR dx [(fld,v),(IW,v2)])) a (dO a (.ref C) dx true))):qu C (eO C fld IW) never [v,v2] H Q:=by
 refine⟨(by decide:(2:Nat)<=sizeLine),λa ha=>⟨a,v,v2,rfl,ae,λdx hn ne=>⟨rfl,?_⟩⟩⟩;rw[aq ne] at hn;have z:=h a dx ha hn ne
 have c:upd (upd (upd H a (qe a (.ref C))) dx (cR dx [(fld,v),(IW,v2)])) a (dO a (.ref C) dx true)=upd (upd H dx (cR dx [(fld,v),(IW,v2)])) a (dO a (.ref C) dx true):=by
  funext b
  by_cases h2:b=a
  ·subst h2;rw[ae,ae]
  ·rw[aq h2,aq h2]
   by_cases h1:b=dx
   ·subst h1;rw[ae,ae]
   ·rw[aq h1,aq h1,aq h2]
 rw[c];exact z
theorem gK {K:Frag}{E:XK}{H₀:Hp}(hk:AI K C)(ht:fF K C)(h0:∀a,H a=none->H₀ a=none)(h:∀dx,H dx=none->E (.ref C) (some dx) (upd H dx (cR dx [(fld,v),(IW,v2)]))):
 qu C (eO C fld IW) never [v,v2] H λx H1=>∃a C' dx,x=.ref a/\H1 a=some (dO a (.ref C') dx true)/\AI K C'/\fF K C'/\H₀ a=none/\E (.ref C') (some dx) (del H1 a):=by
 refine Cw λa dx ha hd ne=>⟨a,C,dx,rfl,ae,hk,ht,h0 a ha,?_⟩
 have c:del (upd (upd H dx (cR dx [(fld,v),(IW,v2)])) a (dO a (.ref C) dx true)) a=upd H dx (cR dx [(fld,v),(IW,v2)]):=by
  funext b
  by_cases h2:b=a
  ·subst h2;rw[eE,aq (Ne.symm ne),ha]
  ·rw[dw h2,aq h2]
 rw[c];exact h dx hd
end
end L2
namespace K16
open PySem L2 PySem.W Nm Srt
noncomputable abbrev wU:Stmt:=aL (aY 8) 0
noncomputable abbrev Ga:Stmt:=(aY 39)
theorem zZ:uQ Fp Fp (ar wU):=dI (by decide +kernel)
theorem BQ:uQ ["field","places","part","wishes","number","wish"] wJ (ar Ga):=dI (by decide +kernel)
variable {H:Hp}{x:V}
theorem Th.acw {K:Frag}{T:String}(h:Th H x T):kitOne K (.type T) (.type "list")=some (decide (T="list")):=by cases h <;> rfl
noncomputable abbrev fY (CN:Addr)(H:Hp)(E:XK)(part:String)(v:V):Prop:=∀d H',au H H'->H' d=some (cR d [("part",.str part),("number",v)])->E (.ref CN) (some d) H'
inductive LW (C CF:Addr)(p n:Int)(H:Hp):V->V->Prop where
 |no {x:V}{T:String}:Th H x T->T ≠ "list"->LW C CF p n H x .non
 |long {l:Addr}{ys:List V}:H l=some (.lst ys)->200<ys.length->LW C CF p n H (.ref l) .non
 |at {l:Addr}{ys:List V}{k:Nat}{y:V}:H l=some (.lst ys)->ys.length<=200->(∀i y,i<k->ys[i]?=some y->WX C CF p n H y true)->ys[k]?=some y->WX C CF p n H y false->LW C CF p n H (.ref l) (.int k)
variable {C CF:Addr}{p n:Int}{H':Hp}{v:V}
theorem LW.aac (h:LW C CF p n H x v)(k:dj H H'):LW C CF p n H' x v:=by
 cases h with
 |no t e=>exact .no (t.aac k) e
 |long e l=>exact .long (k _ _ e λ_ _ z=>by cases z) l
 | «at» e l a b c=>exact .at (k _ _ e λ_ _ z=>by cases z) l (λi y hi hy=>(a i y hi hy).aac k) b (c.aac k)
structure LR (C CF:Addr)(p n:Int)(H:Hp)(x:V)(as:List Addr):Prop where
 e:∃l,x=.ref l/\H l=some (.lst (as.map V.ref))
 len:as.length<=200
 wi:∀a∈as,WX C CF p n H (.ref a) true
theorem LR.aac {as:List Addr}(h:LR C CF p n H x as)(k:dj H H'):LR C CF p n H' x as:=by
 obtain⟨l,e,hl⟩:=h.e;exact⟨⟨l,e,k _ _ hl λ_ _ z=>by cases z⟩,h.len,λa ha=>(h.wi a ha).aac k⟩
noncomputable def zG (C CF CN:Addr):Sp:=λvs H Q E=>∃(fl GO:Addr)(p n:Int)(part:String)(x:V),vs=[.ref fl,.int n,.str part,x]/\H fl=some (.ins CF GO (cw p)) /\
 ((∃as,LR C CF p n H x as/\∀H' D,au H H'->H D=none->H' D=some (.lst (as.map V.ref))->Q (.ref D) H')\/∃v,LW C CF p n H x v/\fY CN H E part v)
variable {P:wM}{w:World}{K:PySem.W.Frag}{mg:vJ}{base:Heap}
variable {f:Addr}{fd:GF}
theorem yj (F:E6 K "__init__" "NoSystem.__init__" wU f fd)(k:Gy K C)(n1:bJ K C "part")(n2:bJ K C "number"):Cy P w K mg base (bc P w) 1 f fd Fp (eO C "part" "number"):=by
 refine F.okN zZ (λvs H Q E h=>?_) (λGL A outer s H vs Q E hr h=>?_)
 ·obtain⟨a,x,y,rfl,_⟩:=h;rfl
 ·obtain⟨a,x,y,rfl,e,q⟩:=h;refine⟨_,aj (yz (pv 0) (pv 1) rfl) (ao (wX (pv 0) (pv 2) rfl)),?_⟩;refine⟨_,rfl,_,rfl,a,C,rfl,e,k,n1,λdx hn ne=>?_⟩
  have e2:(upd (upd H dx (cR dx [("part",x)])) a (dO a (.ref C) dx true)) dx=some (cR dx [("part",x)]):=by rw[aq ne,ae]
  refine⟨_,rfl,_,rfl,a,C,dx,true,_,rfl,ae,e2,k,n2,(by decide:(1:Nat)<1000),?_⟩;have z:=q dx hn ne
  have c:upd (upd (upd H dx (cR dx [("part",x)])) a (dO a (.ref C) dx true)) dx (cR dx (cE "number" y [("part",x)]))=upd (upd H dx (cR dx [("part",x),("number",y)])) a (dO a (.ref C) dx true):=by
   funext b
   by_cases h1:b=dx
   ·subst h1;rw[ae,aq ne,ae];rfl
   ·rw[aq h1]
    by_cases h2:b=a
    ·subst h2;rw[ae,ae]
    ·rw[aq h2,aq h1,aq h2,aq h1]
  rw[c];exact z
variable {CN:Addr}
theorem DU {fw:Addr}{Jm:GF}{Ze:Tok}(F:E6 K "checked_wishes" "checked_wishes" Ga f fd)(GJ:mg "isinstance"=none)(GN:mg "list"=none)(GW:mg "enumerate"=none)(GP:mg "len"=none)(UE:mg "MOST_WISHES"=some (.int 200 Ze))
 (kN:IK P w K mg base "NoSystem" CN Fp (eO CN "part" "number"))
 (FW:Cy P w K mg base (bc P w) 2 fw Jm qd (Ba C CF))(bW:L2.aI K Jm qd [])(mW:mg "is_wish"=some (.ref fw))(kW:keepIn K (.ref fw)=true):Cy P w K mg base (bc P w) 3 f fd wJ (zG C CF CN):=by
 refine F.okE BQ (λvs H Q E h=>?_) (λGL A outer s H vs Q E hr h=>?_)
 ·obtain⟨fl,GO,p,n,part,x,rfl,_⟩:=h;rfl
 ·obtain⟨fl,GO,p,n,part,x,rfl,hf,h⟩:=h;have Iz:pL 2 _:=hr.mono (by decide);have HR:pL 2 _:=hr.mono (by decide)
  refine⟨_,(aj (aV (PW.pt (dH (bM (cf (aD bf (by rfl) GJ (by rfl) (@ah _ _ _ _ _ (pv 3) (@ah _ _ _ _ _ (dh (by rfl) GN (by rfl) (show aG (.ty "list") (.type "list") from rfl)) af rfl) rfl)))) (dt (@aB _ _ _ _ _ _ _ _ qz (aD bp (by rfl) GP PySem.boot_len (@ah _ _ _ _ _ (pv 3) af rfl)) (bR (by rfl) UE (show aG (.int 200) (.int 200 Ze) from⟨_,rfl⟩)) (aA _))))) (ao (eZ (R:=λ_ a C dx H1=>H a=none/\E (.ref C) (some dx) (del H1 a)) rfl dM (pK kN HR (by rfl) (@ah _ _ _ _ _ (pv 2) (@ah _ _ _ _ _ b7 af rfl) rfl)))) aE)
   (aj (gh (by passes_own) rfl (sQ (pv 3) (by rfl) GW) (dQ rfl (aJ (aH (i:=4) BQ.nd rfl (Or.inl rfl)) (aJ (aH (i:=5) BQ.nd rfl (Or.inl rfl)) cm)))
   (ao (aV (bM (cf (ay FW Iz (by rfl) mW kW bW .nil ag (@ah _ _ _ _ _ (pv 0) (@ah _ _ _ _ _ (pv 1) (@ah _ _ _ _ _ (pv 5) af rfl) rfl) rfl)))) (ao (eZ (R:=λ_ a C dx H1=>H a=none/\E (.ref C) (some dx) (del H1 a)) rfl dM (pK kN HR (by rfl) (@ah _ _ _ _ _ (pv 2) (@ah _ _ _ _ _ (pv 4) af rfl) rfl)))) aE)))
   (ao (aw (a9 bO (by rfl) GN (by rfl) (@ah _ _ _ _ _ (pv 3) af rfl)))))),?_⟩
  have h:(∃T,Th H x T/\T ≠ "list"/\fY CN H E part .non)\/(∃l ys,x=.ref l/\H l=some (.lst ys)/\200<ys.length/\fY CN H E part .non) \/
   ∃(l:Addr)(ys:List V)(k:Nat),x=.ref l/\H l=some (.lst ys)/\ys.length<=200/\(∀i y,i<k->ys[i]?=some y->WX C CF p n H y true) /\
    ((k=ys.length/\∀H' D,au H H'->H D=none->H' D=some (.lst ys)->Q (.ref D) H')\/∃y,ys[k]?=some y/\WX C CF p n H y false/\fY CN H E part (.int k)):=by
   rcases h with⟨as,r,q⟩|⟨v,w',q⟩
   ·obtain⟨l,rfl,hl⟩:=r.e;refine .inr (.inr ⟨l,_,(as.map V.ref).length,rfl,hl,by rw[List.length_map];exact r.len,λi y _ e=>?_,.inl ⟨rfl,q⟩⟩);rw[List.getElem?_map] at e;obtain⟨a,ea,rfl⟩:=Option.map_eq_some_iff.mp e;exact r.wi a (List.mem_of_getElem? ea)
   ·cases w' with
    |no t e=>exact .inl ⟨_,t,e,q⟩
    |long e l=>exact .inr (.inl ⟨_,_,rfl,e,l,q⟩)
    | «at» e l a b c=>exact .inr (.inr ⟨_,_,_,rfl,e,l,a,.inr ⟨_,b,c,q⟩⟩)
  rcases h with⟨T,ht,hk,q⟩|⟨l,ys,rfl,hl,hlen,q⟩|⟨l,ys,k,rfl,hl,hlen,Uo,h⟩
  ·refine⟨_,rfl,x,.ty "list",.type T,_,false,rfl,rfl,ht.ty,(by rw[ht.acw,decide_eq_false hk]),_,rfl,aZ ?_⟩;exact aZ ⟨_,rfl,gK kN.k kN.tc (λa ha=>ha) λdx hd=>q dx _ (ai hd) ae⟩
  ·refine⟨_,rfl,.ref l,.ty "list",_,_,_,rfl,rfl,.of (.lst hl),rfl,_,rfl,aS ?_⟩;refine⟨_,rfl,l,ys,rfl,.inl (aM.of hl),_,_,rfl,rfl,_,rfl,?_⟩;rw[decide_eq_true (by omega:(200:Int)<(ys.length:Int))];exact aZ ⟨_,rfl,gK kN.k kN.tc (λa ha=>ha) λdx hd=>q dx _ (ai hd) ae⟩
  ·refine⟨_,rfl,.ref l,.ty "list",_,_,_,rfl,rfl,.of (.lst hl),rfl,_,rfl,aS ?_⟩;refine⟨_,rfl,l,ys,rfl,.inl (aM.of hl),_,_,rfl,rfl,_,rfl,?_⟩;rw[decide_eq_false (by omega:¬(200:Int)<(ys.length:Int))];refine aS ?_;refine⟨_,rfl,l,ys,rfl,aM.of hl,?_⟩
   have hk:k<=ys.length:=by
    rcases h with⟨h,_⟩|⟨y,h,_⟩
    ·omega
    ·exact Nat.le_of_lt (List.getElem?_eq_some_iff.mp h).1
   refine⟨λi m σ' H'=>m=ys.length-i/\i<=k/\au H H'/\∃o1 o2,σ'=[some (.ref fl),some (.int n),some (.str part),some (.ref l),o1,o2],⟨ys.length,by simp,Nat.zero_le _,au.refl _,none,none,rfl⟩,?_⟩;rintro i m σ' H' ⟨rfl,hi,sH,o1,o2,rfl⟩;have HV:=sH _ _ hl
   by_cases GV:i<ys.length
   ·refine .inr ⟨⟨ys,ys[i],aM.of HV,by simp[GV]⟩,λσ' H'=>i+1<=k/\au H H'/\∃o1 o2,σ'=[some (.ref fl),some (.int n),some (.str part),some (.ref l),o1,o2],?_,λv H2 hv=>?_⟩
    ·rintro σ' H' ⟨h1,h2,h3⟩;exact⟨ys.length-(i+1),by omega,rfl,h1,h2,h3⟩
    ·obtain⟨T,y,hy,hT,rfl,rfl⟩:=hv;have ey:=hy ys (aM.of HV)
     have s2:au H (upd H' T (.tup [.int i,y])):=λc u e=>by
      rw[aq (av (sH _ _ e) hT)];exact sH _ _ e
     refine⟨T,_,rfl,bX.of ae,rfl,_,_,rfl,_,_,rfl,rfl,?_⟩
     by_cases Zf:i<k
     ·have ty:=(Uo i y Zf ey).aac (.of s2);refine⟨_,rfl,_,rfl,_,rfl,fl,GO,p,n,y,true,rfl,s2 _ _ hf,ty,λH3 s3=>⟨_,rfl,aS ?_⟩⟩;exact⟨Zf,λc u e=>s3 _ _ (s2 _ _ e),_,_,rfl⟩
     ·have ei:i=k:=by omega
      rcases h with⟨h,_⟩|⟨y',h,ty,q⟩
      ·omega
      ·have e2:y=y':=by rw[<-ei,ey] at h;exact Option.some.inj h
       subst e2;refine⟨_,rfl,_,rfl,_,rfl,fl,GO,p,n,y,false,rfl,s2 _ _ hf,ty.aac (.of s2),λH3 s3=>⟨_,rfl,aZ ?_⟩⟩;have s4:au H H3:=λc u e=>s3 _ _ (s2 _ _ e);refine⟨_,rfl,_,rfl,gK kN.k kN.tc (λa ha=>?_) λdx hd=>?_⟩
       ·cases z:H a with
        |none=>rfl
        |some u=>rw[s4 _ _ z] at ha;cases ha
       ·subst ei;exact q dx _ (s4.trans (ai hd)) ae
   ·refine .inl ⟨⟨ys,aM.of HV,by omega⟩,?_⟩
    rcases h with⟨h,q⟩|⟨y',h,_⟩
    ·refine⟨_,rfl,l,ys,rfl,.inl (aM.of HV),λD hD=>?_⟩;exact q _ D (sH.trans (ai hD)) (none_of sH hD) ae
    ·have:=(List.getElem?_eq_some_iff.mp h).1;omega
noncomputable abbrev F1:Stmt:=(aY 40)
theorem Fk:uQ qD qD (ar F1):=dI (by decide +kernel)
noncomputable def UR (C CF:Addr)(p n:Int)(H:Hp)(y:V)(bs:List Addr):Prop:=(y=.non/\bs=[])\/(LR C CF p n H y bs/\(bs≠[]->p=0))
noncomputable def UW (C CF:Addr)(p n:Int)(H:Hp)(y v:V):Prop:=(∃l ys,y=.ref l/\H l=some (.lst ys)/\ys≠[]/\p≠0/\v=.non)\/(y≠.non/\LW C CF p n H y v/\∀l ys,y=.ref l->H l=some (.lst ys)->ys≠[]->p=0)
variable {y:V}
theorem UR.aac {bs:List Addr}(h:UR C CF p n H y bs)(k:dj H H'):UR C CF p n H' y bs:=by
 rcases h with h|⟨h,e⟩
 ·exact .inl h
 ·exact .inr ⟨h.aac k,e⟩
theorem LW.lst (h:LW C CF p n H y v):(∃T,Th H y T/\T ≠ "list")\/∃l ys,y=.ref l/\H l=some (.lst ys):=by
 cases h with
 |no t e=>exact .inl ⟨_,t,e⟩
 |long e _=>exact .inr ⟨_,_,rfl,e⟩
 | «at» e _ _ _ _=>exact .inr ⟨_,_,rfl,e⟩
theorem UW.aac (h:UW C CF p n H y v)(k:dj H H'):UW C CF p n H' y v:=by
 rcases h with⟨l,ys,e,hl,h⟩|⟨a,b,c⟩
 ·exact .inl ⟨l,ys,e,k _ _ hl (λ_ _ z=>by cases z),h⟩
 ·refine .inr ⟨a,b.aac k,λl ys e hl n=>?_⟩
  rcases b.lst with⟨T,t,ne⟩|⟨l',ys',e',HV⟩
  ·subst e
   cases t with
   |lst e=>exact absurd rfl ne
   |tup e=>rw[k _ _ e (λ_ _ z=>by cases z)] at hl;cases hl
   |dK e=>rw[k _ _ e (λ_ _ z=>by cases z)] at hl;cases hl
  ·subst e'
   cases e
   have:=k _ _ HV (λ_ _ z=>by cases z);rw[hl] at this
   cases this
   exact c _ _ rfl HV n
noncomputable def Ee (C CF CN:Addr):Sp:=λvs H Q E=>∃(fl GO:Addr)(p n:Int)(y:V),vs=[.ref fl,.int n,y]/\H fl=some (.ins CF GO (cw p)) /\
 ((∃bs,UR C CF p n H y bs/\∀H' D,au H H'->H D=none->H' D=some (.lst (bs.map V.ref))->Q (.ref D) H')\/∃v,UW C CF p n H y v/\fY CN H E "uppers" v)
theorem Ec {fc fp:Addr}{K4 Iy:GF}{Zg:Tok}(F:E6 K "checked_uppers" "checked_uppers" F1 f fd)(cF:Cp K mg CF)(GJ:mg "isinstance"=none)(GN:mg "list"=none)(UG:mg "FRACTIONS"=some (.int 0 Zg))
 (kN:IK P w K mg base "NoSystem" CN Fp (eO CN "part" "number"))
 (Nk:Cy P w K mg base (bc P w) 1 fp Iy ["self"] (iB CF))(Nl:L2.aI K Iy ["self"] [])(Nn:Meth K CF "prime" fp)
 (FC:Cy P w K mg base (bc P w) 3 fc K4 wJ (zG C CF CN))(bC:L2.aI K K4 wJ [])(mC:mg "checked_wishes"=some (.ref fc))(kC:keepIn K (.ref fc)=true):Cy P w K mg base (bc P w) 4 f fd qD (Ee C CF CN):=by
 refine F.okE Fk (λvs H Q E h=>?_) (λGL A outer s H vs Q E hr h=>?_)
 ·obtain⟨fl,GO,p,n,y,rfl,_⟩:=h;rfl
 ·obtain⟨fl,GO,p,n,y,rfl,hf,h⟩:=h;have Iz:pL 3 _:=hr.mono (by decide);have HR:pL 2 _:=hr.mono (by decide);have GU:pL 1 _:=hr.mono (by decide)
  refine⟨_,(aj (aV (@aB _ _ _ _ _ _ _ _ yT (pv 2) b7 (aA _)) (ao (aw (@az _ _ _ _ af))) aE)
   (aj (aV (PW.pt (je (cf (aD bf (by rfl) GJ (by rfl) (@ah _ _ _ _ _ (pv 2) (@ah _ _ _ _ _ (dh (by rfl) GN (by rfl) (show aG (.ty "list") (.type "list") from rfl)) af rfl) rfl))) (je (fJ (pv 2) (λ_=>rfl)) (iP (@aB _ _ _ _ _ _ _ _ gF (bx (pv 0) cF.cl Nn Nk GU Nl .nil ag) (bR (by rfl) UG (show aG (.int 0) (.int 0 Zg) from⟨_,rfl⟩)) (aA _)))))) (ao (eZ (R:=λ_ a C dx H1=>H a=none/\E (.ref C) (some dx) (del H1 a)) rfl dM (pK kN HR (by rfl) (@ah _ _ _ _ _ aX (@ah _ _ _ _ _ b7 af rfl) rfl)))) aE)
   (ao (aw (ay FC Iz (by rfl) mC kC bC .nil ir (@ah _ _ _ _ _ (pv 0) (@ah _ _ _ _ _ (pv 1) (@ah _ _ _ _ _ aX (@ah _ _ _ _ _ (pv 2) af rfl) rfl) rfl) rfl)))))),?_⟩
  by_cases hy:y=.non
  ·subst hy
   rcases h with⟨bs,r,q⟩|⟨v,w',q⟩
   ·rcases r with⟨_,rfl⟩|⟨r,_⟩
    ·exact⟨_,rfl,rfl,_,rfl,aZ ⟨Nat.zero_le _,λl hl=>q _ l (ai hl) hl ae⟩⟩
    ·obtain⟨l,e,_⟩:=r.e
     cases e
   ·rcases w' with⟨l,_,e,_⟩|⟨e,_⟩
    ·cases e
    ·exact absurd rfl e
  ·refine⟨_,rfl,rfl,decide (y=.non),rfl,?_⟩;rw[decide_eq_false hy];refine aS ?_
   have h:(∃l ys,y=.ref l/\H l=some (.lst ys)/\ys≠[]/\p≠0/\fY CN H E "uppers" .non) \/
    (zG C CF CN [.ref fl,.int n,.str "uppers",y] H Q E/\((∃T,Th H y T/\T ≠ "list")\/∃l ys,y=.ref l/\H l=some (.lst ys)/\(ys≠[]->p=0))):=by
    rcases h with⟨bs,r,q⟩|⟨v,w',q⟩
    ·rcases r with⟨e,_⟩|⟨r,z⟩
     ·exact absurd e hy
     ·obtain⟨l,e,hl⟩:=r.e;exact .inr ⟨⟨fl,GO,p,n,"uppers",y,rfl,hf,.inl ⟨bs,r,q⟩⟩,.inr ⟨l,_,e,hl,λne=>z λe=>ne (by rw[e];rfl)⟩⟩
    ·rcases w' with⟨l,ys,e,hl,n,z,rfl⟩|⟨_,b,c⟩
     ·exact .inl ⟨l,ys,e,hl,n,z,q⟩
     ·refine .inr ⟨⟨fl,GO,p,n,"uppers",y,rfl,hf,.inr ⟨v,b,q⟩⟩,?_⟩
      rcases b.lst with h|⟨l,ys,e,hl⟩
      ·exact .inl h
      ·exact .inr ⟨l,ys,e,hl,c l ys e hl⟩
   rcases h with⟨l,ys,rfl,hl,ne,hp,q⟩|⟨go,⟨T,th,hT⟩|⟨l,ys,rfl,hl,hp⟩⟩
   ·refine⟨_,rfl,.ref l,.ty "list",_,_,_,rfl,rfl,.of (.lst hl),rfl,_,rfl,aZ ?_⟩;refine⟨_,rfl,!ys.isEmpty,.inl ⟨_,aM.of hl,rfl⟩,?_⟩
    rw[show(!ys.isEmpty)=true from by cases ys with
     |nil=>exact absurd rfl ne
     |cons=>rfl]
    refine aZ ⟨_,rfl,fl,GO,_,rfl,hf,rfl,fl,GO,p,rfl,hf,rfl,_,rfl,?_⟩;rw[show(!decide (V.int p=V.int 0))=true from by simp[hp]];exact aZ (gK kN.k kN.tc (λa ha=>ha) λdx hd=>q dx _ (ai hd) ae)
   ·refine⟨_,rfl,y,.ty "list",.type T,_,false,rfl,rfl,th.ty,(by rw[th.acw,decide_eq_false hT]),_,rfl,aS (aS ?_)⟩;exact⟨_,rfl,_,rfl,_,rfl,go⟩
   ·refine⟨_,rfl,.ref l,.ty "list",_,_,_,rfl,rfl,.of (.lst hl),rfl,_,rfl,aZ ?_⟩;refine⟨_,rfl,!ys.isEmpty,.inl ⟨_,aM.of hl,rfl⟩,?_⟩
    cases ys with
    |nil=>exact aS (aS ⟨_,rfl,_,rfl,_,rfl,go⟩)
    |cons z zs =>
     refine aZ ⟨_,rfl,fl,GO,_,rfl,hf,rfl,fl,GO,p,rfl,hf,rfl,_,rfl,?_⟩;rw[show(!decide (V.int p=V.int 0))=false from by simp[hp]];exact aS ⟨_,rfl,_,rfl,_,rfl,go⟩
noncomputable abbrev DQ:Stmt:=aL (aY 41) 0
theorem Fs:uQ ES ES (ar DQ):=dI (by decide +kernel)
structure Fb (K:Frag)(mg:vJ)(C:Addr):Prop where
 cl:DJ K C
 nF:bJ K C "its_field"
 nP:bJ K C "its_places"
 nN:bJ K C "its_noughts"
 nU:bJ K C "its_uppers"
 mgC:mg "System"=some (.ref C)
 isC:((clsIn K C).isSome&&typeIn K (.ref C)==some (.type "type"))=true
 ca:findIn K (.ref C) "__class__"=some (some (.builtin "object.__class__"))
 sp:specialIn K (.builtin "object.__class__") "__get__"=some (some (.builtin "getset_descriptor.__get__"))
 tk:takesIn K (.builtin "object.__class__")=some true
 ob:mroIn K C (.type "object")=some true
noncomputable def CM (fl:Addr)(n:Int)(A B:Addr):List (Str×V):=[("its_field",.ref fl),("its_places",.int n),("its_noughts",.ref A),("its_uppers",.ref B)]
noncomputable def nk:V->Bool
 | .int i=>decide (1<=i)&&decide (i<=60)
 |_=>false
inductive rP (C CF:Addr)(p n:Int)(H:Hp):V->V->V->V->String->V->Prop where
 |f {f m x y:V}{T:String}:Th H f T->rP C CF p n H f m x y "field" .non
 |n {fl GO:Addr}{m x y:V}{T:String}:H fl=some (.ins CF GO (cw p))->Th H m T->nk m=false->rP C CF p n H (.ref fl) m x y "places" .non
 |l {fl GO:Addr}{x y v:V}:H fl=some (.ins CF GO (cw p))->1<=n->n<=60->LW C CF p n H x v->rP C CF p n H (.ref fl) (.int n) x y "noughts" v
 |u {fl GO:Addr}{x y v:V}{as:List Addr}:H fl=some (.ins CF GO (cw p))->1<=n->n<=60->LR C CF p n H x as->UW C CF p n H y v->rP C CF p n H (.ref fl) (.int n) x y "uppers" v
theorem rP.aac {f m:V}{part:String}(h:rP C CF p n H f m x y part v)(k:dj H H'):rP C CF p n H' f m x y part v:=by
 have kf:∀{fl GO:Addr},H fl=some (.ins CF GO (cw p))->H' fl=some (.ins CF GO (cw p)):=λe=>k _ _ e λ_ _ z=>by injection z with _ _ z;exact absurd z (by simp[cw])
 cases h with
 |f t=>exact .f (t.aac k)
 |n e t g=>exact .n (kf e) (t.aac k) g
 |l e a b l=>exact .l (kf e) a b (l.aac k)
 |u e a b l u=>exact .u (kf e) a b (l.aac k) (u.aac k)
structure Rt (C CF:Addr)(p n:Int)(H:Hp)(f m x y:V)(fl:Addr)(as bs:List Addr):Prop where
 f:∃GO,f=.ref fl/\H fl=some (.ins CF GO (cw p))
 m:m=.int n
 n1:1<=n
 n2:n<=60
 l:LR C CF p n H x as
 u:UR C CF p n H y bs
theorem Rt.aac {f m:V}{fl:Addr}{as bs:List Addr}(h:Rt C CF p n H f m x y fl as bs)(k:dj H H'):Rt C CF p n H' f m x y fl as bs:=by
 obtain⟨GO,e,hf⟩:=h.f;exact⟨⟨GO,e,k _ _ hf λ_ _ z=>by injection z with _ _ z;exact absurd z (by simp[cw])⟩,h.m,h.n1,h.n2,h.l.aac k,h.u.aac k⟩
noncomputable def qQ (CS C CF CN:Addr):Sp:=λvs H Q E=>∃(s dx:Addr)(f m x y:V)(p n:Int),vs=[.ref s,f,m,x,y]/\H s=some (.ins CS dx []) /\
 ((∃fl as bs,Rt C CF p n H f m x y fl as bs/\∀H' A B,SameBut s H H'->H A=none->H B=none->A≠B->H' s=some (.ins CS dx (CM fl n A B))->H' A=some (.lst (as.map V.ref))->H' B=some (.lst (bs.map V.ref))->Q .non H') \/
  ∃part v,rP C CF p n H f m x y part v/\∀d H',SameBut s H H'->H' d=some (cR d [("part",.str part),("number",v)])->E (.ref CN) (some d) H')
theorem au.but (s:Addr)(h:au H H'):SameBut s H H':=λb u e _=>h b u e
theorem pN (h:nk x=false):dR x=false\/∃i,x=.int i/\¬(1<=i/\i<=60):=by
 cases x with
 |int i =>
  refine .inr ⟨i,rfl,λz'=>?_⟩;obtain⟨a,b⟩:=z';have:(decide (1<=i)&&decide (i<=60))=false:=h;rw[decide_eq_true a,decide_eq_true b] at this
  cases this
 |_=>exact .inl rfl
theorem Dt {fc fu fw CS T:Addr}{K4 OA Jm:GF}{Zh:Tok}(F:Fq K "__init__" "System.__init__" DQ f fd T)(cS:Fb K mg CS)(cF:Cp K mg CF)(GJ:mg "isinstance"=none)(UH:mg "MOST_PLACES"=some (.int 60 Zh))
 (kN:IK P w K mg base "NoSystem" CN Fp (eO CN "part" "number"))
 (FW:Cy P w K mg base (bc P w) 1 fw Jm vq su)(bW:L2.aI K Jm vq [])(mW:mg "is_whole"=some (.ref fw))(kW:keepIn K (.ref fw)=true)
 (FC:Cy P w K mg base (bc P w) 3 fc K4 wJ (zG C CF CN))(bC:L2.aI K K4 wJ [])(mC:mg "checked_wishes"=some (.ref fc))(kC:keepIn K (.ref fc)=true)
 (FU:Cy P w K mg base (bc P w) 4 fu OA qD (Ee C CF CN))(bU:L2.aI K OA qD [])(mU:mg "checked_uppers"=some (.ref fu))(kU:keepIn K (.ref fu)=true):
 Cy P w K mg base (bc P w) 5 f fd ES (qQ CS C CF CN):=by
 refine F.okE Fs (λvs H Q E h=>?_) (λGL A outer s H vs Q E hr h=>?_)
 ·obtain⟨s,dx,f,m,x,y,p,n,rfl,_⟩:=h;rfl
 ·obtain⟨s0,dx,f,m,x,y,p,n,rfl,hs,h⟩:=h;have Se:pL 4 _:=hr.mono (by decide);have LP:pL 3 _:=hr.mono (by decide);have HR:pL 2 _:=hr.mono (by decide);have GU:pL 1 _:=hr.mono (by decide)
  refine⟨_,(aj (aV (bM (cf (aD bf (by rfl) GJ (by rfl) (@ah _ _ _ _ _ (pv 1) (@ah _ _ _ _ _ (bR (by rfl) cF.mgC (show aG (.ref CF) (.ref CF) from rfl)) af rfl) rfl)))) (ao (eZ (R:=λ_ a C dx H1=>H a=none/\E (.ref C) (some dx) (del H1 a)) rfl dM (pK kN HR (by rfl) (@ah _ _ _ _ _ aX (@ah _ _ _ _ _ b7 af rfl) rfl)))) aE)
   (aj (aV (PW.pt (dH (bM (cf (ay FW GU (by rfl) mW kW bW .nil ag (@ah _ _ _ _ _ (pv 2) af rfl)))) (dt (bM (abU p4 p4 ak (pv 2) (bR (by rfl) UH (show aG (.int 60) (.int 60 Zh) from⟨_,rfl⟩))))))) (ao (eZ (R:=λ_ a C dx H1=>H a=none/\E (.ref C) (some dx) (del H1 a)) rfl dM (pK kN HR (by rfl) (@ah _ _ _ _ _ aX (@ah _ _ _ _ _ b7 af rfl) rfl)))) aE)
   (aj (ib (pv 0) (pv 1) rfl)
   (aj (ib (pv 0) (pv 2) rfl)
   (aj (ib (pv 0) (ay FC LP (by rfl) mC kC bC .nil ir (@ah _ _ _ _ _ (pv 1) (@ah _ _ _ _ _ (pv 2) (@ah _ _ _ _ _ aX (@ah _ _ _ _ _ (pv 3) af rfl) rfl) rfl) rfl)) rfl)
   (ao (ib (pv 0) (ay FU Se (by rfl) mU kU bU .nil ir (@ah _ _ _ _ _ (pv 1) (@ah _ _ _ _ _ (pv 2) (@ah _ _ _ _ _ (pv 4) af rfl) rfl) rfl)) rfl))))))),?_⟩
  have ki:∀{H':Hp},SameBut s0 H H'->dj H H':=λz=>dj.but z hs;have OD:∀{part:String}{v:V}{H1:Hp},SameBut s0 H H1->(∀d H',SameBut s0 H H'->H' d=some (cR d [("part",.str part),("number",v)])->E (.ref CN) (some d) H')->fY CN H1 E part v:=λs1 q d H' s2 hd=>q d H' (λb u e nb=>s2 b u (s1 b u e nb)) hd
  have h:(∃T,Th H f T/\∀d H',SameBut s0 H H'->H' d=some (cR d [("part",.str "field"),("number",.non)])->E (.ref CN) (some d) H') \/
   (∃fl GO T,f=.ref fl/\H fl=some (.ins CF GO (cw p))/\Th H m T/\nk m=false/\∀d H',SameBut s0 H H'->H' d=some (cR d [("part",.str "places"),("number",.non)])->E (.ref CN) (some d) H') \/
   ∃fl GO,f=.ref fl/\H fl=some (.ins CF GO (cw p))/\m=.int n/\1<=n/\n<=60 /\
   ((∃v,LW C CF p n H x v/\∀d H',SameBut s0 H H'->H' d=some (cR d [("part",.str "noughts"),("number",v)])->E (.ref CN) (some d) H') \/
    ∃as,LR C CF p n H x as/\((∃bs,UR C CF p n H y bs/\∀H' A B,SameBut s0 H H'->H A=none->H B=none->A≠B->H' s0=some (.ins CS dx (CM fl n A B))->H' A=some (.lst (as.map V.ref))->H' B=some (.lst (bs.map V.ref))->Q .non H') \/
     ∃v,UW C CF p n H y v/\∀d H',SameBut s0 H H'->H' d=some (cR d [("part",.str "uppers"),("number",v)])->E (.ref CN) (some d) H')):=by
   rcases h with⟨fl,as,bs,r,q⟩|⟨part,v,bad,q⟩
   ·obtain⟨GO,rfl,hf⟩:=r.f;exact .inr (.inr ⟨fl,GO,rfl,hf,r.m,r.n1,r.n2,.inr ⟨as,r.l,.inl ⟨bs,r.u,q⟩⟩⟩)
   ·cases bad with
    |f t=>exact .inl ⟨_,t,q⟩
    |n e t g=>exact .inr (.inl ⟨_,_,_,rfl,e,t,g,q⟩)
    |l e a b l=>exact .inr (.inr ⟨_,_,rfl,e,rfl,a,b,.inl ⟨_,l,q⟩⟩)
    |u e a b l u=>exact .inr (.inr ⟨_,_,rfl,e,rfl,a,b,.inr ⟨_,l,.inr ⟨_,u,q⟩⟩⟩)
  rcases h with⟨T,th,q⟩|⟨fl,GO,T,rfl,hf,th,g,q⟩|⟨fl,GO,rfl,hf,rfl,n1,n2,h⟩
  ·refine⟨_,rfl,f,.ref CF,_,_,_,rfl,rfl,th.ty,cF.no th,_,rfl,aZ ?_⟩;exact gK kN.k kN.tc (λa ha=>ha) λdx hd=>q dx _ (au.but s0 (ai hd)) ae
  ·refine⟨_,rfl,.ref fl,.ref CF,_,_,_,rfl,rfl,cF.ty hf,cF.is,_,rfl,aS ?_⟩
   rcases pN g with hw|⟨i,rfl,hi⟩
   ·refine⟨_,rfl,_,_,rfl,th,_,rfl,?_⟩;rw[hw];exact aZ (aZ (gK kN.k kN.tc (λa ha=>ha) λdx hd=>q dx _ (au.but s0 (ai hd)) ae))
   ·refine⟨_,rfl,_,_,rfl,th,_,rfl,aS ?_⟩;refine⟨_,rfl,_,_,rfl,rfl,_,rfl,?_⟩;refine cT (λh1=>?_) (λh1=>?_)
    ·have h1:decide (1<=i)=true:=h1;refine⟨_,_,rfl,rfl,_,rfl,?_⟩;rw[decide_eq_false (λh2=>hi ⟨of_decide_eq_true h1,h2⟩)];exact aZ (gK kN.k kN.tc (λa ha=>ha) λdx hd=>q dx _ (au.but s0 (ai hd)) ae)
    ·have h1:decide (1<=i)=false:=by simpa using h1
     refine⟨_,rfl,?_⟩;exact aZ (gK kN.k kN.tc (λa ha=>ha) λdx hd=>q dx _ (au.but s0 (ai hd)) ae)
  ·refine⟨_,rfl,.ref fl,.ref CF,_,_,_,rfl,rfl,cF.ty hf,cF.is,_,rfl,aS ?_⟩;refine⟨_,rfl,_,_,rfl,.int n,_,rfl,aS ?_⟩;refine⟨_,rfl,_,_,rfl,rfl,_,rfl,?_⟩;rw[decide_eq_true n1];refine aZ ⟨_,_,rfl,rfl,_,rfl,?_⟩;rw[decide_eq_true n2];refine aS ?_;refine⟨_,rfl,_,rfl,s0,CS,dx,_,rfl,hs,cS.cl,cS.nF,by decide,?_⟩;refine⟨_,rfl,_,rfl,s0,CS,dx,_,rfl,ae,cS.cl,cS.nP,(by show 1<1000;decide),?_⟩
   have s1:SameBut s0 H (upd (upd H s0 (.ins CS dx (cE "its_field" (.ref fl) []))) s0 (.ins CS dx (cE "its_places" (.int n) (cE "its_field" (.ref fl) [])))):=λb u e nb=>by rw[aq nb,aq nb];exact e
   have UI:upd (upd H s0 (.ins CS dx (cE "its_field" (.ref fl) []))) s0 (.ins CS dx (cE "its_places" (.int n) (cE "its_field" (.ref fl) []))) s0=some (.ins CS dx [("its_field",.ref fl),("its_places",.int n)]):=ae;generalize upd (upd H s0 _) s0 _=H1 at s1 UI
   have kf:∀{H':Hp},dj H H'->H' fl=some (.ins CF GO (cw p)):=λk=>k _ _ hf λ_ _ z=>by injection z with _ _ z;exact absurd z (by simp[cw])
   refine⟨_,rfl,_,rfl,_,rfl,fl,GO,p,n,"noughts",x,rfl,kf (ki s1),?_⟩
   rcases h with⟨v,hv,q⟩|⟨as,la,h⟩
   ·exact .inr ⟨v,hv.aac (ki s1),OD s1 q⟩
   ·refine .inl ⟨as,la.aac (ki s1),λH2 D s2 fD hD=>?_⟩;have RJ:=s2 _ _ UI
    have nD:D≠s0:=λz=>by rw[z,UI] at fD;cases fD
    refine⟨_,rfl,s0,CS,dx,_,rfl,RJ,cS.cl,cS.nN,(by show 2<1000;decide),?_⟩;have LS:upd H2 s0 (.ins CS dx (cE "its_noughts" (.ref D) [("its_field",.ref fl),("its_places",.int n)])) s0=some (.ins CS dx [("its_field",.ref fl),("its_places",.int n),("its_noughts",.ref D)]):=ae
    have s3:SameBut s0 H (upd H2 s0 (.ins CS dx (cE "its_noughts" (.ref D) [("its_field",.ref fl),("its_places",.int n)]))):=λb u e nb=>by rw[aq nb];exact s2 _ _ (s1 b u e nb)
    have UJ:upd H2 s0 (.ins CS dx (cE "its_noughts" (.ref D) [("its_field",.ref fl),("its_places",.int n)])) D=some (.lst (as.map V.ref)):=by rw[aq nD];exact hD
    have fD0:H D=none:=by
     cases e:H D with
     |none=>rfl
     |some u=>rw[s1 D u e nD] at fD;cases fD
    generalize upd H2 s0 _=H3 at s3 LS UJ;refine⟨_,rfl,_,rfl,_,rfl,fl,GO,p,n,y,rfl,kf (ki s3),?_⟩
    rcases h with⟨bs,ub,q⟩|⟨v,hv,q⟩
    ·refine .inl ⟨bs,ub.aac (ki s3),λH4 B s4 fB hB=>?_⟩;have hs4:=s4 _ _ LS
     have nB:B≠s0:=λz=>by rw[z,LS] at fB;cases fB
     have nBD:D≠B:=λz=>by rw[<-z,UJ] at fB;cases fB
     refine⟨_,rfl,s0,CS,dx,_,rfl,hs4,cS.cl,cS.nU,(by show 3<1000;decide),?_⟩;refine q _ D B (λb u e nb=>by rw[aq nb];exact s4 _ _ (s3 b u e nb)) fD0 ?_ nBD ae (by rw[aq nD];exact s4 _ _ UJ) (by rw[aq nB];exact hB)
     cases e:H B with
     |none=>rfl
     |some u=>rw[s3 B u e nB] at fB;cases fB
    ·exact .inr ⟨v,hv.aac (ki s3),OD s3 q⟩
end K16
namespace L2
open PySem PySem.Spec PyProof.Rows PySem.W
theorem cq:∀{as:List Addr}{us:oH},aK (as.map V.ref) us->us=as.map Value.ref
 |[],_,r=>by
  cases r
  rfl
 |a::as,_,r=>by
  cases r with
  |cons h t =>
   rw[cq t,show _=Value.ref a from h];rfl
noncomputable def wZ (K:Frag)(neg:Bool):R2:=λx y H Q=>∃(a b:Addr)(as bs:List Addr),x=.ref a/\y=.ref b/\aM K H a (as.map V.ref)/\aM K H b (bs.map V.ref)/\((as=bs/\Q (.bl (!neg)) H)\/(as.length≠bs.length/\Q (.bl neg) H))
section
variable {X:Cx}{k:Nat}
theorem jF {n:Nat}:(List.range n).all (λ_=>true)=true:=by simp
theorem pY (hr:pL k X.A):dX X (compareOp .Eq) (wZ X.K false):=by
 intro pins s σ H x y v u Q I rx ry h;obtain⟨a,b,as,bs,rfl,rfl,h1,h2,q⟩:=h
 cases rx
 cases ry
 obtain⟨its,rv,p1,_⟩:=I.list h1;obtain⟨GR,HU,p2,_⟩:=I.list h2;have e1:=cq rv;have e2:=cq HU;subst e1;subst e2
 rcases q with⟨rfl,q⟩|⟨ne,q⟩
 ·have z:=SeqAt.RcAt.lists (A:=X.A) p1.isList p2.isList rfl (by have:=hr.units;omega) (e:=λ_=>true) λj h1 h2=>.same _;rw[jF] at z;exact z X.prog X.w X.xe _ ⟨.bl true,H,I,rfl,q⟩
 ·have z:=SeqAt.RcAt.lists_lengths (A:=X.A) p1.isList p2.isList (by simpa using ne) (by have:=hr.units;omega);exact z X.prog X.w X.xe _ ⟨.bl false,H,I,rfl,q⟩
theorem qp (hr:pL k X.A):dX X (compareOp .NotEq) (wZ X.K true):=by
 intro pins s σ H x y v u Q I rx ry h;obtain⟨a,b,as,bs,rfl,rfl,h1,h2,q⟩:=h
 cases rx
 cases ry
 obtain⟨its,rv,p1,_⟩:=I.list h1;obtain⟨GR,HU,p2,_⟩:=I.list h2;have e1:=cq rv;have e2:=cq HU;subst e1;subst e2
 rcases q with⟨rfl,q⟩|⟨ne,q⟩
 ·have z:=SeqAt.RcNeAt.lists (A:=X.A) p1.isList p2.isList rfl (by have:=hr.units;omega) (e:=λ_=>true) λj h1 h2=>.same _;rw[jF] at z;exact z X.prog X.w X.xe _ ⟨.bl false,H,I,rfl,q⟩
 ·have z:=SeqAt.RcNeAt.lists_lengths (A:=X.A) p1.isList p2.isList (by simpa using ne) (by have:=hr.units;omega);exact z X.prog X.w X.xe _ ⟨.bl true,H,I,rfl,q⟩
noncomputable def AE (K:Frag):R2:=λx y H Q=>∃(a b a1 a2 b1 b2:Addr)(as bs:List Addr),x=.ref a/\y=.ref b/\aM K H a [.ref a1,.ref a2]/\aM K H b [.ref b1,.ref b2]/\aM K H a1 (as.map V.ref)/\aM K H b1 (as.map V.ref)/\aM K H a2 (bs.map V.ref)/\aM K H b2 (bs.map V.ref) /\
 a1≠b1/\a2≠b2/\Q (.bl false) H
theorem u6 (hr:pL k X.A):dX X (compareOp .NotEq) (AE X.K):=by
 intro pins s σ H x y v u Q I rx ry h;obtain⟨a,b,a1,a2,b1,b2,as,bs,rfl,rfl,h1,h2,g1,g2,g3,g4,n1,n2,q⟩:=h
 cases rx
 cases ry
 have one:∀{c d:Addr}{cs:List Addr},aM X.K H c (cs.map V.ref)->aM X.K H d (cs.map V.ref)->c≠d->SeqAt.EqAt X.A.in1 s (.ref c) (.ref d) true:=λhc hd ne=>by
  obtain⟨its,rv,p1,_⟩:=I.list hc;obtain⟨GR,HU,p2,_⟩:=I.list hd;have e1:=cq rv;have e2:=cq HU;subst e1;subst e2;have z:=SeqAt.RcAt.lists (A:=X.A.in1) p1.isList p2.isList rfl (by have:=hr.units;show X.A.units+1<_;omega) (e:=λ_=>true) λj h1 h2=>.same _;rw[jF] at z;exact .of_refs ne z
 have l1:aM X.K H a ([a1,a2].map V.ref):=h1;have l2:aM X.K H b ([b1,b2].map V.ref):=h2;obtain⟨its,rv,p1,_⟩:=I.list l1;obtain⟨GR,HU,p2,_⟩:=I.list l2;have e1:=cq rv;have e2:=cq HU;subst e1;subst e2
 have z:=SeqAt.RcNeAt.lists (A:=X.A) p1.isList p2.isList rfl (by have:=hr.units;omega) (e:=λ_=>true) λj h1 h2=>by
  have hj:j<2:=h1
  match j,hj with
  |0,_=>exact one g1 g2 n1
  |1,_=>exact one g3 g4 n2
 rw[jF] at z;exact z X.prog X.w X.xe _ ⟨.bl false,H,I,rfl,q⟩
end
end L2
namespace K16
open PySem L2 PySem.W Nm Srt
noncomputable abbrev DP:Stmt:=aL (aY 41) 1
noncomputable abbrev Be:Stmt:=aL (aY 41) 2
noncomputable abbrev F4:Stmt:=aL (aY 41) 3
noncomputable abbrev Gs:Stmt:=aL (aY 41) 4
noncomputable abbrev Gf:Stmt:=aL (aY 41) 5
noncomputable abbrev Gu:Stmt:=aL (aY 41) 6
noncomputable abbrev wo:Stmt:=aL (aY 41) 7
theorem ED:uQ qR qR (ar DP):=dI (by decide +kernel)
theorem Bq:uQ ["self"] ["self"] (ar Be):=dI (by decide +kernel)
theorem Fv:uQ ["self"] ["self"] (ar F4):=dI (by decide +kernel)
theorem FO:uQ ["self"] ["self"] (ar Gs):=dI (by decide +kernel)
theorem FM:uQ ["self"] ["self"] (ar Gf):=dI (by decide +kernel)
theorem E9:uQ ["self"] ["self"] (ar Gu):=dI (by decide +kernel)
theorem BL:uQ ["self"] ["self"] (ar wo):=dI (by decide +kernel)
structure yo (CS CF:Addr)(H:Hp)(s fl:Addr)(p n:Int)(as bs:List Addr):Prop where
 ex:∃dx GO A B,H s=some (.ins CS dx (CM fl n A B))/\H fl=some (.ins CF GO (cw p))/\H A=some (.lst (as.map V.ref))/\H B=some (.lst (bs.map V.ref))
 l1:as.length<=200
 l2:bs.length<=200
variable {CS CF:Addr}{H:Hp}
theorem yo.same {H':Hp}{s fl:Addr}{p n:Int}{as bs:List Addr}(h:yo CS CF H s fl p n as bs)(k:au H H'):yo CS CF H' s fl p n as bs:=by
 obtain⟨dx,GO,A,B,h1,h2,h3,h4⟩:=h.ex;exact⟨⟨dx,GO,A,B,k _ _ h1,k _ _ h2,k _ _ h3,k _ _ h4⟩,h.l1,h.l2⟩
variable {K:Frag}{mg:vJ}{C:Addr}
theorem Fb.ty (c:Fb K mg C){p dx:Addr}{fs:List (Str×V)}(e:H p=some (.ins C dx fs)):Eg K H (.ref p) (.ref C):=.of (.ins e c.cl c.ca c.sp c.tk c.ob)
theorem Fb.is (c:Fb K mg C):kitOne K (.ref C) (.ref C)=some true:=by
 unfold kitOne;rw[if_pos (by simp)]
theorem Fb.no (c:Fb K mg C){x:V}{T:String}(h:Th H x T):kitOne K (.type T) (.ref C)=some false:=by
 show(if(Value.type T==Value.ref C)=true then some true else(if((clsIn K C).isSome&&typeIn K (.ref C)==some (.type "type"))=true then subIn K (.type T) (.ref C) else none))=some false;rw[if_neg (by intro z;cases beq_iff_eq.mp z),if_pos c.isC]
 cases h <;> rfl
noncomputable def jX (K:Frag)(CS CF:Addr):Sp:=λvs H Q _=>∃(s fl:Addr)(p n:Int)(as bs:List Addr)(y:V),vs=[.ref s,y]/\yo CS CF H s fl p n as bs /\
 ((∃s' HL p' n' JS JT,y=.ref s'/\yo CS CF H s' HL p' n' JS JT/\(as=JS\/as.length≠JS.length)/\(bs=JT\/bs.length≠JT.length)/\Q (.bl (decide (p=p')&&(decide (n=n')&&(decide (as=JS)&&decide (bs=JT))))) H) \/
  ∃t,Eg K H y t/\kitOne K t (.ref CS)=some false/\Q (.bl false) H)
noncomputable def rZ (CS CF:Addr):Sp:=λvs H Q _=>∃(s fl:Addr)(p n:Int)(as bs:List Addr),vs=[.ref s]/\yo CS CF H s fl p n as bs/\∀H',au H H'->Q (.int ((as.length+bs.length:Nat):Int)) H'
noncomputable def Es (CS CF:Addr):Sp:=λvs H Q _=>∃(s fl:Addr)(p n:Int)(as bs:List Addr),vs=[.ref s]/\yo CS CF H s fl p n as bs/\Q (.ref fl) H
noncomputable def DZ (CS CF:Addr):Sp:=λvs H Q _=>∃(s fl:Addr)(p n:Int)(as bs:List Addr),vs=[.ref s]/\yo CS CF H s fl p n as bs/\Q (.int n) H
noncomputable def BW (CS CF:Addr):Sp:=λvs H Q _=>∃(s fl:Addr)(p n:Int)(as bs:List Addr),vs=[.ref s]/\yo CS CF H s fl p n as bs/\∀l,H l=none->Q (.ref l) (upd H l (.lst (as.map V.ref)))
noncomputable def BH (CS CF:Addr):Sp:=λvs H Q _=>∃(s fl:Addr)(p n:Int)(as bs:List Addr),vs=[.ref s]/\yo CS CF H s fl p n as bs/\∀l,H l=none->Q (.ref l) (upd H l (.lst (bs.map V.ref)))
noncomputable def j9 (C CF:Addr)(H:Hp)(as:List Addr)(GY:List (List Tm)):Prop:=GY.length=as.length/\∀(i:Nat) a ts,as[i]?=some a->GY[i]?=some ts->∃p,SW C CF H a p ts
noncomputable def vR (GY:List (List Tm)):Int:=(Mx.il none (GY.map λts=>((fX ts:Nat):Int))).getD 0
noncomputable def ya (CS C CF:Addr):Sp:=λvs H Q _=>∃(s fl:Addr)(p n:Int)(as bs:List Addr)(GY:List (List Tm)),vs=[.ref s]/\yo CS CF H s fl p n as bs/\j9 C CF H (as++bs) GY/\∀H',au H H'->Q (.int (n+vR GY)) H'
variable {P:wM}{w:World}{K:PySem.W.Frag}{mg:vJ}{base:Heap}
variable {f:Addr}{fd:GF}
theorem Dy {CF:Addr}(F:E6 K "field" "System.field" F4 f fd)(cS:Fb K mg CS):Cy P w K mg base (bc P w) 1 f fd ["self"] (Es CS CF):=by
 refine F.okN Fv (λvs H Q E h=>?_) (λGL A outer s H vs Q E hr h=>?_)
 ·obtain⟨s,fl,p,n,as,bs,rfl,_⟩:=h;rfl
 ·obtain⟨s,fl,p,n,as,bs,rfl,S,q⟩:=h;obtain⟨dx,GO,A,B,h1,h2,h3,h4⟩:=S.ex;refine⟨_,(ao (aw (br (pv 0) rfl))),?_⟩;exact⟨_,rfl,s,CS,dx,_,_,rfl,h1,cS.cl,cS.nF,rfl,q⟩
theorem DD {CF:Addr}(F:E6 K "places" "System.places" Gs f fd)(cS:Fb K mg CS):Cy P w K mg base (bc P w) 1 f fd ["self"] (DZ CS CF):=by
 refine F.okN FO (λvs H Q E h=>?_) (λGL A outer s H vs Q E hr h=>?_)
 ·obtain⟨s,fl,p,n,as,bs,rfl,_⟩:=h;rfl
 ·obtain⟨s,fl,p,n,as,bs,rfl,S,q⟩:=h;obtain⟨dx,GO,A,B,h1,h2,h3,h4⟩:=S.ex;refine⟨_,(ao (aw (br (pv 0) rfl))),?_⟩;exact⟨_,rfl,s,CS,dx,_,_,rfl,h1,cS.cl,cS.nP,rfl,q⟩
theorem Ef {CF:Addr}(F:E6 K "noughts" "System.noughts" Gf f fd)(cS:Fb K mg CS)(GN:mg "list"=none):Cy P w K mg base (bc P w) 1 f fd ["self"] (BW CS CF):=by
 refine F.okN FM (λvs H Q E h=>?_) (λGL A outer s H vs Q E hr h=>?_)
 ·obtain⟨s,fl,p,n,as,bs,rfl,_⟩:=h;rfl
 ·obtain⟨s,fl,p,n,as,bs,rfl,S,q⟩:=h;obtain⟨dx,GO,A,B,h1,h2,h3,h4⟩:=S.ex;refine⟨_,(ao (aw (a9 bO (by rfl) GN (by rfl) (@ah _ _ _ _ _ (br (pv 0) rfl) af rfl)))),?_⟩;exact⟨_,rfl,s,CS,dx,_,_,rfl,h1,cS.cl,cS.nN,rfl,A,_,rfl,.inl (aM.of h3),q⟩
theorem Dz {CF:Addr}(F:E6 K "uppers" "System.uppers" Gu f fd)(cS:Fb K mg CS)(GN:mg "list"=none):Cy P w K mg base (bc P w) 1 f fd ["self"] (BH CS CF):=by
 refine F.okN E9 (λvs H Q E h=>?_) (λGL A outer s H vs Q E hr h=>?_)
 ·obtain⟨s,fl,p,n,as,bs,rfl,_⟩:=h;rfl
 ·obtain⟨s,fl,p,n,as,bs,rfl,S,q⟩:=h;obtain⟨dx,GO,A,B,h1,h2,h3,h4⟩:=S.ex;refine⟨_,(ao (aw (a9 bO (by rfl) GN (by rfl) (@ah _ _ _ _ _ (br (pv 0) rfl) af rfl)))),?_⟩;exact⟨_,rfl,s,CS,dx,_,_,rfl,h1,cS.cl,cS.nU,rfl,B,_,rfl,.inl (aM.of h4),q⟩
theorem Ab {CF:Addr}(F:E6 K "__len__" "System.__len__" Be f fd)(cS:Fb K mg CS)(GP:mg "len"=none):Cy P w K mg base (bc P w) 1 f fd ["self"] (rZ CS CF):=by
 refine F.okN Bq (λvs H Q E h=>?_) (λGL A outer s H vs Q E hr h=>?_)
 ·obtain⟨s,fl,p,n,as,bs,rfl,_⟩:=h;rfl
 ·obtain⟨s,fl,p,n,as,bs,rfl,S,q⟩:=h;obtain⟨dx,GO,A,B,h1,h2,h3,h4⟩:=S.ex;refine⟨_,(ao (aw (aD bp (by rfl) GP PySem.boot_len (@ah _ _ _ _ _ (@aF _ _ _ _ _ _ _ _ bZ (br (pv 0) rfl) (br (pv 0) rfl)) af rfl)))),?_⟩;refine⟨_,rfl,s,CS,dx,_,_,rfl,h1,cS.cl,cS.nN,rfl,_,rfl,s,CS,dx,_,_,rfl,h1,cS.cl,cS.nU,rfl,?_⟩;refine⟨A,B,_,_,rfl,rfl,h3,h4,?_⟩;refine⟨by rw[List.length_map,List.length_map,sizeLine_eq];have:=S.l1;have:=S.l2;omega,λL H' hL sH hl=>?_⟩;refine⟨L,_,rfl,.inl (aM.of hl),?_⟩;rw[List.length_append,List.length_map,List.length_map];exact q _ sH
theorem BN {fe:Addr}{OB:GF}(F:E6 K "__eq__" "System.__eq__" DP f fd)(cS:Fb K mg CS)(cF:Cp K mg CF)(GJ:mg "isinstance"=none)
 (FE:Cy P w K mg base (bc P w) 1 fe OB qR (AQ CF))(bE:L2.aI K OB qR [])(nE:findIn K (.ref CF) "__eq__"=some (some (.ref fe)))(iE:isFn K (.ref fe)=true):
 Cy P w K mg base (bc P w) 2 f fd qR (jX K CS CF):=by
 refine F.okN ED (λvs H Q E h=>?_) (λGL A outer s H vs Q E hr h=>?_)
 ·obtain⟨s,fl,p,n,as,bs,y,rfl,_⟩:=h;rfl
 ·obtain⟨s,fl,p,n,as,bs,y,rfl,S,h⟩:=h;obtain⟨dx,GO,A,B,h1,h2,h3,h4⟩:=S.ex;have GU:pL 1 _:=hr.mono (by decide);refine⟨_,(ao (aw (cp (aD bf (by rfl) GJ (by rfl) (@ah _ _ _ _ _ (pv 1) (@ah _ _ _ _ _ (bR (by rfl) cS.mgC (show aG (.ref CS) (.ref CS) from rfl)) af rfl) rfl)) (cp (@bD _ _ _ _ _ _ _ _ (iA nE iE FE GU bE ag) (br (pv 0) rfl) (br (pv 1) rfl) (aA _)) (cp (@bD _ _ _ _ _ _ _ _ cM (br (pv 0) rfl) (br (pv 1) rfl) (aA _)) (cp (@bD _ _ _ _ _ _ _ _ (pY GU) (br (pv 0) rfl) (br (pv 1) rfl) (aA _)) (dC (@bD _ _ _ _ _ _ _ _ (pY GU) (br (pv 0) rfl) (br (pv 1) rfl) (aA _))))))))),?_⟩
  rcases h with⟨s',HL,p',n',JS,JT,rfl,S',ha,hb,q⟩|⟨t,ty,kt,q⟩
  ·obtain⟨KU,HZ,A',B',g1,g2,g3,g4⟩:=S'.ex;refine⟨_,rfl,.ref s',.ref CS,_,_,_,rfl,rfl,cS.ty g1,cS.is,_,rfl,aZ ?_⟩;refine⟨_,rfl,s,CS,dx,_,_,rfl,h1,cS.cl,cS.nF,rfl,_,rfl,s',CS,KU,_,_,rfl,g1,cS.cl,cS.nF,rfl,?_⟩;refine⟨fl,GO,_,.ref CF,rfl,h2,cF.ty g2,jG,fl,GO,p,.ref HL,rfl,h2,.inl ⟨HL,HZ,p',rfl,g2,_,rfl,?_⟩⟩;refine⟨_,rfl,?_⟩
   cases e1:decide (p=p') with
   |false =>
    rw[e1] at q;exact aS q
   |true =>
    rw[e1] at q;refine aZ ?_;refine⟨_,rfl,s,CS,dx,_,_,rfl,h1,cS.cl,cS.nP,rfl,_,rfl,s',CS,KU,_,_,rfl,g1,cS.cl,cS.nP,rfl,rfl,_,rfl,?_⟩
    have en:decide (V.int n=V.int n')=decide (n=n'):=by simp
    rw[en]
    cases e2:decide (n=n') with
    |false =>
     rw[e2] at q;exact aS q
    |true =>
     rw[e2] at q;refine aZ ?_;refine⟨_,rfl,s,CS,dx,_,_,rfl,h1,cS.cl,cS.nN,rfl,_,rfl,s',CS,KU,_,_,rfl,g1,cS.cl,cS.nN,rfl,?_⟩;refine⟨A,A',as,JS,rfl,rfl,aM.of h3,aM.of g3,?_⟩
     rcases ha with ea|na
     ·refine .inl ⟨ea,_,rfl,aZ ?_⟩;rw[decide_eq_true ea] at q;refine⟨_,rfl,s,CS,dx,_,_,rfl,h1,cS.cl,cS.nU,rfl,_,rfl,s',CS,KU,_,_,rfl,g1,cS.cl,cS.nU,rfl,?_⟩;refine⟨B,B',bs,JT,rfl,rfl,aM.of h4,aM.of g4,?_⟩
      rcases hb with eb|nb
      ·rw[decide_eq_true eb] at q;exact .inl ⟨eb,q⟩
      ·rw[decide_eq_false (λe=>nb (by rw[e]))] at q;exact .inr ⟨nb,q⟩
     ·rw[decide_eq_false (λe=>na (by rw[e]))] at q;exact .inr ⟨na,_,rfl,aS q⟩
  ·exact⟨_,rfl,y,.ref CS,_,_,_,rfl,rfl,ty,kt,_,rfl,aS q⟩
theorem zN {fg CF:Addr}{JM:GF}(F:E6 K "top" "System.top" wo f fd)(cS:Fb K mg CS)(c:vn K mg C)(HC:mg "max"=none)
 (UK:Cy P w K mg base (bc P w) 1 fg JM ["self"] (rL C))(UL:L2.aI K JM ["self"] [])(UM:Meth K C "degree" fg):
 Cy P w K mg base (bc P w) 2 f fd ["self"] (ya CS C CF):=by
 refine F.okN BL (λvs H Q E h=>?_) (λGL A outer s H vs Q E hr h=>?_)
 ·obtain⟨s,fl,p,n,as,bs,GY,rfl,_⟩:=h;rfl
 ·obtain⟨s,fl,p,n,as,bs,GY,rfl,S,hT,q⟩:=h;obtain⟨dx,GO,A,B,h1,h2,h3,h4⟩:=S.ex;have GU:pL 1 _:=hr.mono (by decide)
  refine⟨_,(ao (aw (@aF _ _ _ _ _ _ _ _ cH (br (pv 0) rfl) (tO (f9 (N:=["wish"]) (nl:=1) (js:=[]) (osc:=ar wo) ⟨rfl,rfl,by decide +kernel,by decide +kernel,by decide +kernel,rfl,.nil,by decide +kernel⟩ rfl
   (eP (@aF _ _ _ _ _ _ _ _ bZ (br (pv 0) rfl) (br (pv 0) rfl)))
   (λCq fq sq Hq=>aH (i:=0) (by show(["wish"]:xQ).Nodup;decide +kernel) rfl (Or.inl rfl) (Or.inr rfl))
   (λCq fq sq Hq=>eR)
   (λCq fq sq Hq=>(bx (pv 0) c.c.cl UM UK GU UL .nil ag))) ak rfl (by rfl) HC)))),?_⟩
  refine⟨_,rfl,s,CS,dx,_,_,rfl,h1,cS.cl,cS.nP,rfl,?_⟩;refine⟨_,rfl,s,CS,dx,_,_,rfl,h1,cS.cl,cS.nN,rfl,_,rfl,s,CS,dx,_,_,rfl,h1,cS.cl,cS.nU,rfl,?_⟩;refine⟨A,B,_,_,rfl,rfl,h3,h4,?_⟩;refine⟨by rw[List.length_map,List.length_map,sizeLine_eq];have:=S.l1;have:=S.l2;omega,λL H' hL sH hl=>?_⟩
  have el:(as.map V.ref++bs.map V.ref)=(as++bs).map V.ref:=by rw[List.map_append]
  rw[el] at hl;refine⟨L,rfl,⟨_,aM.of hl⟩,?_⟩;refine jS (K:=K) (xs:=(as++bs).map V.ref) (rest:=[]) (λi us Ik=>au H Ik/\Ik L=some (.lst ((as++bs).map V.ref))/\us=((GY.take i).map λts=>((fX ts:Nat):Int)).map V.int) ⟨sH,hl,rfl⟩ (λi us H' hi h=>?_) (λi x us H' N hi hx h k=>?_) (λus H' h=>?_)
  ·obtain⟨_,hl,rfl⟩:=h;refine⟨?_,aM.of hl⟩;rw[List.length_map,List.length_map,List.length_take,hT.1,List.length_append,sizeLine_eq];have:=S.l1;have:=S.l2;omega
  ·obtain⟨s2,hl,rfl⟩:=h;rw[List.getElem?_map] at hx;obtain⟨a,ea,rfl⟩:=Option.map_eq_some_iff.mp hx
   have K3:i<GY.length:=by rw[hT.1];exact(List.getElem?_eq_some_iff.mp ea).1
   obtain⟨p',sw⟩:=hT.2 i a GY[i] ea (by simp[K3]);obtain⟨OE,fla,UN,Da,UO,w1,w2,w3,w4⟩:=(sw.aac (.of s2)).r.ex;refine uU ⟨_,rfl,a,OE,_,rfl,w1,rfl,a,OE,fla,Da,UO,GY[i],rfl,w1,w3,w4,k _ _ ⟨s2,hl,?_⟩⟩;rw[List.take_add_one,List.getElem?_eq_getElem K3,List.map_append,List.map_append];rfl
  ·obtain⟨s2,hl,rfl⟩:=h;intro D hD
   have hlen:((as++bs).map V.ref).length=GY.length:=by rw[List.length_map,hT.1]
   rw[hlen,List.take_length];refine⟨D,GY.map λts=>((fX ts:Nat):Int),.int 0,rfl,rfl,aM.of ae,?_⟩;have q':=q _ (s2.trans (ai hD):au H (upd H' D (.lst ((GY.map λts=>((fX ts:Nat):Int)).map V.int))));unfold vR at q';generalize Mx.il none (GY.map λts=>((fX ts:Nat):Int))=ob at q' |-
   cases ob <;> exact⟨_,_,rfl,rfl,q'⟩
noncomputable abbrev xq:Stmt:=(aY 51)
structure GA (P:wM)(w:World)(K:Frag)(mg:vJ)(base:Heap)(FE NS NO CN:Addr):Prop where
 ik:IK P w K mg base "NoSystem" CN Fp (eO CN "part" "number")
 no1:bJ K CN "part"
 no2:bJ K CN "number"
 x:PySem.W.exmOne K (.ref CN) (.ref CN)=some true
 mFE:mg "FalseError"=some (.ref FE)
 mNS:mg "NoSum"=some (.ref NS)
 mNO:mg "NoOrder"=some (.ref NO)
 mVE:mg "ValueError"=none
 a1:kitAny K (.ref CN) [.ref NS,.ref NO]=some false
 a2:kitOne K (.ref CN) (.ref FE)=some true
 a3:kitOne K (.ref CN) (.type "ValueError")=some true
noncomputable def xI (C CF:Addr):Sp:=λvs H Q _=>∃(L:Addr)(f m x y:V)(p n:Int),vs=[.ref L]/\H L=some (.lst [f,m,x,y]) /\
 ((∃fl as bs,Rt C CF p n H f m x y fl as bs/\∀H',au H H'->Q (.str "none") H')\/∃part v,rP C CF p n H f m x y part v/\∀H' R,au H H'->H R=none->H' R=some (.lst [.str part,v])->Q (.ref R) H')
theorem A2:uQ ["_law_things","e"] ["_law_things"] (ar xq):=dI (by decide +kernel)
theorem fH {H':Hp}{s dx:Addr}{o u:HO}(h1:H s=none)(h2:H dx=none)(ne:dx≠s)(k:SameBut s (upd (upd H dx o) s u) H'):au H H':=λb v e=>by
 have b1:b≠s:=av e h1;have b2:b≠dx:=av e h2;exact k b v (by rw[aq b1,aq b2];exact e) b1
theorem CA {fi FE NS NO CN:Addr}{Ju:GF}(F:E6 K "_law_refused" "_law_refused" xq f fd)(cS:Fb K mg CS)(M:Mk K CS fi)(JU:mg "isinstance"=none)(R:GA P w K mg base FE NS NO CN)
 (FI:Cy P w K mg base (bc P w) 5 fi Ju ES (qQ CS C CF CN))(bI:L2.aI K Ju ES []):Cy P w K mg base (bc P w) 7 f fd ["_law_things"] (xI C CF):=by
 refine F.okN A2 (λvs H Q E h=>?_) (λGL A outer s H vs Q E hr h=>?_)
 ·obtain⟨L,f,m,x,y,p,n,rfl,_⟩:=h;rfl
 ·obtain⟨L,ff,m,x,y,p,n,rfl,hL,h⟩:=h;have JC:pL 6 _:=hr.mono (by decide)
  refine⟨_,(aj (Cs (i:=1) rfl rfl A2.nd rfl rfl (by rfl) R.ik.m (λpins E'=>ao (gc (show PE (Cx.tr (eK (bc P w) P w K mg base ["_law_things","e"] "_law_refused" (ar xq) f GL A outer s H E).nox pins E') _ (wd CS (qQ CS C CF CN) [] E' (cO (oU (qM K) (dY 0) (tC (.int 0))) (cO (oU (qM K) (dY 0) (tC (.int 1))) (cO (oU (qM K) (dY 0) (tC (.int 2))) (cO (oU (qM K) (dY 0) (tC (.int 3))) D1))))) from
   v7 M FI JC (by rfl) cS.mgC bI .nil pQ (@ah _ _ _ _ _ (@aQ _ _ _ _ _ _ _ (dk (K:=K) rfl) (pv 0) ak (λ_ _=>rfl)) (@ah _ _ _ _ _ (@aQ _ _ _ _ _ _ _ (dk (K:=K) rfl) (pv 0) ak (λ_ _=>rfl)) (@ah _ _ _ _ _ (@aQ _ _ _ _ _ _ _ (dk (K:=K) rfl) (pv 0) ak (λ_ _=>rfl)) (@ah _ _ _ _ _ (@aQ _ _ _ _ _ _ _ (dk (K:=K) rfl) (pv 0) ak (λ_ _=>rfl)) af rfl) rfl) rfl) rfl))))
   (λa=>aj (aV (PW.pt (dH (cf (aD (show cb _ _ (EF K) from ve rfl) (by rfl) JU (by rfl) (@ah _ _ _ _ _ (pv 1) (@ah _ _ _ _ _ (@bq _ _ _ _ _ (@ah _ _ _ _ _ (bR (by rfl) R.mNS (show aG (.ref NS) (.ref NS) from rfl)) (@ah _ _ _ _ _ (bR (by rfl) R.mNO (show aG (.ref NO) (.ref NO) from rfl)) af rfl) rfl)) af rfl) rfl)))
    (dH (bM (cf (aD (show cb _ _ (Bw K) from nO rfl) (by rfl) JU (by rfl) (@ah _ _ _ _ _ (pv 1) (@ah _ _ _ _ _ (bR (by rfl) R.mFE (show aG (.ref FE) (.ref FE) from rfl)) af rfl) rfl))))
    (dt (bM (cf (aD (show cb _ _ (Bw K) from nO rfl) (by rfl) JU (by rfl) (@ah _ _ _ _ _ (pv 1) (@ah _ _ _ _ _ (dh (by rfl) R.mVE (by rfl) (show aG (.ty "ValueError") (.type "ValueError") from rfl)) af rfl) rfl)))))))) (ao (aw aX)) aE)
    (ao (aw (@az _ _ _ _ (@ah _ _ _ _ _ (show PE (Cx.hd (eK (bc P w) P w K mg base ["_law_things","e"] "_law_refused" (ar xq) f GL A outer s H E).nox a) _ (xw K (dY 1) "part") from @tV _ _ _ _ _ (pv 1) rfl) (@ah _ _ _ _ _ (show PE (Cx.hd (eK (bc P w) P w K mg base ["_law_things","e"] "_law_refused" (ar xq) f GL A outer s H E).nox a) _ (xw K (dY 1) "number") from @tV _ _ _ _ _ (pv 1) rfl) af rfl) rfl))))))
   (ao (aw aX))),?_⟩
  refine⟨_,rfl,L,_,0,ff,rfl,rfl,aM.of hL,rfl,_,rfl,L,_,1,m,rfl,rfl,aM.of hL,rfl,_,rfl,L,_,2,x,rfl,rfl,aM.of hL,rfl,_,rfl,L,_,3,y,rfl,rfl,aM.of hL,rfl,λs0 dx h1 h2 ne=>?_⟩;have hS:au H (upd (upd H dx (.own s0)) s0 (.ins CS dx [])):=(ai h2).trans (ai (by rw[aq (Ne.symm ne)];exact h1));refine⟨s0,dx,ff,m,x,y,p,n,rfl,ae,?_⟩
  rcases h with⟨fl,as,bs,r,q⟩|⟨part,v,bad,q⟩
  ·exact .inl ⟨fl,as,bs,r.aac (.of hS),λH' _ _ k _ _ _ _ _ _=>⟨rfl,q _ (fH h1 h2 ne k)⟩⟩
  ·refine .inr ⟨part,v,bad.aac (.of hS),λd H' k hd=>⟨R.x,λa ha=>?_⟩⟩;have sH:=fH h1 h2 ne k;have Zi:d≠a:=av hd ha;refine⟨.ref a,rfl,(by decide:(2:Nat)<=sizeLine),λtp LI=>?_⟩
   have nat:a≠tp:=λz=>by rw[<-z] at LI;have:=(ae (H:=H') (a:=a) (o:=qJ a (.ref CN) (some d))).symm.trans LI;cases this
   have ea:upd (upd H' a (qJ a (.ref CN) (some d))) tp (.tup [.ref NS,.ref NO]) a=some (dO a (.ref CN) d false):=by rw[aq nat];exact ae
   have ed:upd (upd H' a (qJ a (.ref CN) (some d))) tp (.tup [.ref NS,.ref NO]) d=some (cR d [("part",.str part),("number",v)]):=by
    have ndt:d≠tp:=λz=>by
     rw[<-z,aq Zi,hd] at LI
     cases LI
    rw[aq ndt,aq Zi];exact hd
   refine⟨a,CN,d,false,tp,[NS,NO],false,rfl,ea,R.ik.k,ae,R.a1,_,rfl,aS ?_⟩;refine⟨_,rfl,a,CN,d,false,.ref FE,.ref FE,true,rfl,rfl,ea,R.ik.k,R.a2,_,rfl,aS ?_⟩;refine⟨_,rfl,a,CN,d,false,.ty "ValueError",.type "ValueError",true,rfl,rfl,ea,R.ik.k,R.a3,_,rfl,aS ?_⟩;refine⟨_,rfl,a,CN,d,false,_,_,rfl,ea,ed,R.ik.s,R.no1,rfl,_,rfl,a,CN,d,false,_,v,rfl,ea,ed,R.ik.s,R.no2,rfl,?_⟩;have s5:au H (upd (upd H' a (qJ a (.ref CN) (some d))) tp (.tup [.ref NS,.ref NO])):=(sH.trans (ai ha)).trans (ai LI);exact⟨d9,λRr hR=>q _ Rr (s5.trans (ai hR)) (none_of s5 hR) ae⟩
end K16
namespace L2
open PySem PySem.Spec PyProof.Rows
variable {items:BU}
section
variable {prog:wM}{w:World}{A:Around}{E:wA}{s:GH}
theorem mH {it t:Addr}(HH:t≠it):∀(n i:Nat)(s:GH)(Q:List Value->Shared->Prop),s.heap.IsListIter it t i->s.heap.IsList t items->i+n<=items.size →
 (∀h',h'.IsListIter it t (i+n)->Heap.SameBut it s.heap h'->Q ((items.toList.drop i).take n) {s with heap:=h'})->wpAny (model prog w) A (draw (.ref it) n) Q E s
 |0,i,s,Q,hit,_,_,hQ=>by
  show wpAny _ _ (pure []) Q E s;exact wpAny_pure (by simpa using hQ s.heap hit (Heap.SameBut.refl ..))
 |n+1,i,s,Q,hit,ht,hle,hQ=>by
  have GV:i<items.size:=by omega
  show wpAny _ _ (pyNext (.ref it)>>=_) Q E s;refine wpAny_bind (wpAny_pyNext_list_item hit ht (x:=items[i]) (by simp[GV]) λh₁ LV OF=>?_)
  have Sf:h₁.IsList t items:=by
   obtain⟨o,ho,r⟩:=ht;exact⟨o,(OF.2 t HH).trans ho,r⟩
  refine wpAny_bind (wpAny_holding (mH HH n (i+1) _ _ LV Sf (by omega) λh₂ UP hs₂=>wpAny_pure ?_))
  have hd:items.toList.drop i=items[i]::items.toList.drop (i+1):=by simp[List.drop_eq_getElem_cons,GV]
  have:=hQ h₂ (by rw[show i+(n+1)=i+1+n by omega];exact UP) (OF.trans hs₂);rw[hd,List.take_succ_cons] at this;exact this
theorem i9 {t:Addr}{Q:List Value->Shared->Prop}(hh:A.handled=none)(ht:s.heap.IsList t items)
 (hQ:∀h',Heap.ExtBut s.heap.objs.size s.heap h'->Q items.toList {s with heap:=h'}):wpAny (model prog w) A (unpackItems (.ref t) items.size none) Q E s:=by
 have GV:t≠s.heap.objs.size:=by obtain⟨o,ho,_⟩:=ht;exact Nat.ne_of_lt (Heap.lt_size ho)
 have keep:∀{h':Heap},Heap.ExtBut s.heap.objs.size s.heap h'->h'.IsList t items:=λ{h'} e=>by
  obtain⟨o,ho,r⟩:=ht;exact⟨o,e t o GV ho,r⟩
 unfold unpackItems;refine wpAny_bind ?_
 ·unfold notIterableAtAll;refine wpAny_bind (wpAny_specialOf ht.typeIs slot_list_iter.lookup ?_);refine wpAny_pure ?_;simp only[Bool.false_eq_true,if_false];refine wpAny_bind (wpAny_holding (wpAny_pyIter_list ht ?_));refine wpAny_bind (wpAny_holding (mH GV items.size 0 _ _ ⟨_,Heap.get?_push_size _ rfl,rfl,rfl⟩ (keep λb o hb e=>Heap.get?_push_of_some _ e) (by omega) λh₁ LV OF=>?_))
  have Ja:List.take items.size (List.drop 0 items.toList)=items.toList:=by
   rw[List.drop_zero];exact List.take_of_length_le (by simp)
  rw[Ja];rw[if_neg (by simp)];have ht₁:h₁.IsList t items:=keep λb o hb e=>(OF.2 b hb).trans (Heap.get?_push_of_some _ e);refine wpAny_bind (wpAny_holding (wpAny_pyNext_list_end hh LV ht₁ (by simp) λh₂ he₂=>?_));simp only[Option.isSome_none,Bool.false_eq_true,if_false];refine wpAny_pure (hQ h₂ λb o hb e=>he₂ b o hb (OF.extBut b o hb (Heap.get?_push_of_some _ e)))
theorem iV {env:Env}{elts:Bl} {x1}{pos:Pos}{t:Addr}{Q:Unit->Shared->Prop}(hh:A.handled=none)(ht:s.heap.IsList t items)
 (hn:(assignEach elts env).length=items.size)(OG:(assignEach elts env).findIdx? (·.1)=none)
 (h:∀h',Heap.ExtBut s.heap.objs.size s.heap h'->wpAny (model prog w) A (assignInOrder ((assignEach elts env).map (·.2)) items.toList) Q E {s with heap:=h'}):
 wpAny (model prog w) A (assign (.Tuple elts x1 pos) env (.ref t)) Q E s:=by
 rw[assign_Tuple];refine wpAny_bind (wpAny_standAt ?_);unfold unpack;rw[hn,OG];exact wpAny_bind (wpAny_holding (i9 hh ht h))
end
section
variable {X:Cx}{pos:Pos}
noncomputable def DT (K:PySem.W.Frag)(n:Nat)(t:yQ):TG:=λv σ H Q=>∃a xs,v=.ref a/\aM K H a xs/\xs.length=n/\t xs σ H Q
theorem oo {es:Bl}{k:Nat}{t:yQ}{n:Nat}(hc:X.calm=true)(h:DG X es t)
 (hn:(assignEach es X.env).length=n:=by rfl)(Ij:(assignEach es X.env).findIdx? (·.1)=none:=by rfl):PG X (.Tuple es k pos) (DT X.K n t):=by
 intro pins s σ H v u Q I r hw;obtain⟨a,xs,e1,hq,hl,hw⟩:=hw;subst e1
 cases r
 obtain⟨its,rv,ht,hz⟩:=I.list hq;refine iV (I.ok.hd hc) ht.isList (by simp[hn,<-hl,rv.length]) Ij λh' hx=>?_;have I1:Inv X pins σ H {s with heap:=h'}:=I.kept (t':=s.toks) λb o e=>hx b o (Nat.ne_of_lt (Heap.lt_size e)) e;exact h pins _ σ H xs _ Q I1 (by simpa using rv) hw
end
end L2
namespace K16
open PySem L2 PySem.W Nm Srt
noncomputable abbrev Ft:Stmt:=(aY 53)
theorem vm:uQ ["_law_one","_law_things","_law_field","_law_many","_law_lows","_law_highs","_law_most"] zJ (ar Ft):=dI (by decide +kernel)
section
variable (P:wM)(w:World)(K:PySem.W.Frag)(mg:vJ)(base:Heap)
noncomputable def eV (k:Nat)(C:Addr)(x:Str)(ps:xQ)(sp:Sp):Prop:=∃f fd,Cy P w K mg base (bc P w) k f fd ps sp/\L2.aI K fd ps []/\Meth K C x f
noncomputable def eT (k:Nat)(x:Str)(ps:xQ)(sp:Sp):Prop:=∃f fd,Cy P w K mg base (bc P w) k f fd ps sp/\L2.aI K fd ps []/\mg x=some (.ref f)/\keepIn K (.ref f)=true
noncomputable def eY (k:Nat)(C:Addr)(x:Str)(ps:xQ)(sp:Sp):Prop:=∃f fd,Cy P w K mg base (bc P w) k f fd ps sp/\L2.aI K fd ps []/\findIn K (.ref C) x=some (some (.ref f))/\isFn K (.ref f)=true
end
structure km (CF:Addr)(H:Hp)(L fl:Addr)(p n:Int)(as bs:List Addr):Prop where
 ex:∃GO A B,H L=some (.lst [.ref fl,.int n,.ref A,.ref B])/\H fl=some (.ins CF GO (cw p))/\H A=some (.lst (as.map V.ref))/\H B=some (.lst (bs.map V.ref))
variable {C CF:Addr}{H H':Hp}{as:List Addr}
theorem j9.same {GY:List (List Tm)}(h:j9 C CF H as GY)(s:au H H'):j9 C CF H' as GY:=⟨h.1,λi a ts ea et=>let⟨p,z⟩:=h.2 i a ts ea et;⟨p,z.aac (.of s)⟩⟩
theorem jo:∀(ns:List Int)(b:Int),∃m,Mx.il (some b) ns=some m/\(m=b\/m∈ns)/\b<=m/\∀a∈ns,a<=m
 |[],b=>⟨b,rfl,.inl rfl,Int.le_refl _,λa h=>nomatch h⟩
 |n::ns,b=>by
  obtain⟨m,e,h1,h2,h3⟩:=jo ns (if n>b then n else b);refine⟨m,e,?_,?_,?_⟩
  ·rcases h1 with h1|h1
   ·by_cases h:n>b
    ·rw[if_pos h] at h1;exact .inr (by rw[h1];exact .head _)
    ·rw[if_neg h] at h1;exact .inl h1
   ·exact .inr (.tail _ h1)
  ·by_cases h:n>b
   ·rw[if_pos h] at h2;omega
   ·rw[if_neg h] at h2;exact h2
  ·intro a ha
   cases ha with
   |head =>
    by_cases h:n>b
    ·rw[if_pos h] at h2;exact h2
    ·rw[if_neg h] at h2;omega
   |tail _ ha=>exact h3 a ha
theorem zu {GY:List (List Tm)}{m:Int}(h1:m∈(GY.map λts=>((fX ts:Nat):Int))++[0])(h2:∀a∈(GY.map λts=>((fX ts:Nat):Int))++[0],a<=m):vR GY=m:=by
 unfold vR;have h0:=h2 0 (by simp)
 cases GY with
 |nil =>
  have:m=0:=by simpa using h1
  subst this;rfl
 |cons t GY =>
  obtain⟨m',e,g1,g2,g3⟩:=jo (GY.map λts=>((fX ts:Nat):Int)) ((fX t:Nat):Int);have e':Mx.il none ((t::GY).map λts=>((fX ts:Nat):Int))=some m':=e;rw[e'];show m'=m;have pos:0<=m':=Int.le_trans (Int.natCast_nonneg _) g2
  have a1:m'<=m:=by
   refine h2 m' ?_
   rcases g1 with g1|g1
   ·rw[g1];simp
   ·rw[List.map_cons];exact List.mem_append_left _ (.tail _ g1)
  have a2:m<=m':=by
   rw[List.mem_append,List.mem_singleton,List.map_cons] at h1
   rcases h1 with h1|h1
   ·cases h1 with
    |head=>exact g2
    |tail _ h=>exact g3 _ h
   ·omega
  omega
noncomputable def DY (CS C CF:Addr):Sp:=λvs H Q _=>∃(s fl L HL:Addr)(p n:Int)(as bs:List Addr)(GY:List (List Tm)),vs=[.ref s,.ref L]/\yo CS CF H s fl p n as bs/\km CF H L HL p n as bs/\j9 C CF H (as++bs) GY/\∀H',au H H'->Q (.bl true) H'
variable {P:wM}{w:World}{K:PySem.W.Frag}{mg:vJ}{base:Heap}
variable {f CS:Addr}{fd:GF}
theorem Ey (F:E6 K "_law_tells" "_law_tells" Ft f fd)(cS:Fb K mg CS)(cF:Cp K mg CF)(c:vn K mg C)(GP:mg "len"=none)(HC:mg "max"=none)
 (yf:eV P w K mg base 1 CS "field" ["self"] (Es CS CF))(yp:eV P w K mg base 1 CS "places" ["self"] (DZ CS CF))(yn:eV P w K mg base 1 CS "noughts" ["self"] (BW CS CF))(yu:eV P w K mg base 1 CS "uppers" ["self"] (BH CS CF))(yt:eV P w K mg base 2 CS "top" ["self"] (ya CS C CF))(dg:eV P w K mg base 1 C "degree" ["self"] (rL C))
 (lw:eT P w K mg base 1 "_law_whole" ["_law_thing"] su)(yl:eY P w K mg base 1 CS "__len__" ["self"] (rZ CS CF))(fe:eY P w K mg base 1 CF "__eq__" qR (AQ CF))(nNe:findIn K (.ref CF) "__ne__"=some (some (.builtin "object.__ne__"))):Cy P w K mg base (bc P w) 3 f fd zJ (DY CS C CF):=by
 obtain⟨fYf,adq,FYf,bYf,mYf⟩:=yf;obtain⟨fYp,adv,Zj,Zk,Zl⟩:=yp;obtain⟨fYn,UQ,US,UT,UU⟩:=yn;obtain⟨fYu,UX,UY,UZ,U0⟩:=yu;obtain⟨fYt,ady,Zm,Zn,Zo⟩:=yt;obtain⟨fDe,adz,UK,UL,UM⟩:=dg;obtain⟨fW,fdW,FW,bW,mW,kW⟩:=lw;obtain⟨fL,fdL,FL,bL,nL,iL⟩:=yl;obtain⟨fE,fdE,FE,bE,nE,iE⟩:=fe;refine F.okN vm (λvs H Q E h=>?_) (λGL A outer s H vs Q E hr h=>?_)
 ·obtain⟨s,fl,L,HL,p,n,as,bs,GY,rfl,_⟩:=h;rfl
 ·obtain⟨s,fl,L,HL,p,n,as,bs,GY,rfl,S,T,U,q⟩:=h;obtain⟨dx,GO,A,B,h1,h2,h3,h4⟩:=S.ex;obtain⟨HZ,A',B',g1,g2,g3,g4⟩:=T.ex;have HR:pL 2 _:=hr.mono (by decide);have GU:pL 1 _:=hr.mono (by decide)
  refine⟨_,(aj (c8 (pv 1) (oo rfl (aJ (aH (i:=2) vm.nd rfl (Or.inl rfl)) (aJ (aH (i:=3) vm.nd rfl (Or.inl rfl)) (aJ (aH (i:=4) vm.nd rfl (Or.inl rfl)) (aJ (aH (i:=5) vm.nd rfl (Or.inl rfl)) cm))))))
   (aj (aV (PW.pt (dH (@aB _ _ _ _ _ _ _ _ (lS nE iE nNe cF.ob FE HR bE ag) (bx (pv 0) cS.cl mYf FYf GU bYf .nil ag) (pv 2) (aA _)) (dH (@aB _ _ _ _ _ _ _ _ gF (bx (pv 0) cS.cl Zl Zj GU Zk .nil ag) (pv 3) (aA _)) (dt (bM (cf (ay FW GU (by rfl) mW kW bW .nil ag (@ah _ _ _ _ _ (bx (pv 0) cS.cl Zl Zj GU Zk .nil ag) af rfl)))))))) (ao (aw cV)) aE)
   (aj (aV (PW.pt (dH (@aB _ _ _ _ _ _ _ _ (qp GU) (bx (pv 0) cS.cl UU US GU UT .nil ag) (pv 4) (aA _)) (dH (@aB _ _ _ _ _ _ _ _ (qp GU) (bx (pv 0) cS.cl U0 UY GU UZ .nil ag) (pv 5) (aA _)) (dt (@aB _ _ _ _ _ _ _ _ gF (aD (jt nL iL FL HR bL ag) (by rfl) GP PySem.boot_len (@ah _ _ _ _ _ (pv 0) af rfl)) (aD bp (by rfl) GP PySem.boot_len (@ah _ _ _ _ _ (@aF _ _ _ _ _ _ _ _ bZ (pv 4) (pv 5)) af rfl)) (aA _)))))) (ao (aw cV)) aE)
   (aj (@aO _ _ 6 _ _ _ _ vm.nd rfl (Or.inl rfl) (aD (vH rfl) (by rfl) HC (by rfl) (@ah _ _ _ _ _ (@aF _ _ _ _ _ _ _ _ bZ (f9 (N:=["_law_wish"]) (nl:=1) (js:=[]) (osc:=ar Ft) ⟨rfl,rfl,by decide +kernel,by decide +kernel,by decide +kernel,rfl,.nil,by decide +kernel⟩ rfl
    (eP (@aF _ _ _ _ _ _ _ _ bZ (pv 4) (pv 5)))
    (λCq fq sq Hq=>aH (i:=0) (by show(["_law_wish"]:xQ).Nodup;decide +kernel) rfl (Or.inl rfl) (Or.inr rfl))
    (λCq fq sq Hq=>eR)
    (λCq fq sq Hq=>(bx (pv 0) c.c.cl UM UK GU UL .nil ag))) (@az _ _ _ _ (@ah _ _ _ _ _ ak af rfl))) af rfl)) rfl (Or.inl rfl))
   (ao (aw (cp (ay FW GU (by rfl) mW kW bW .nil ag (@ah _ _ _ _ _ (bx (pv 0) cS.cl Zo Zm HR Zn .nil ag) af rfl)) (dC (@bD _ _ _ _ _ _ _ _ cM (bx (pv 0) cS.cl Zo Zm HR Zn .nil ag) (@aF _ _ _ _ _ _ _ _ cH (pv 3) (pv 6)) (aA _)))))))))),?_⟩
  refine⟨_,rfl,L,_,rfl,aM.of g1,rfl,?_⟩;refine⟨_,_,rfl,_,_,rfl,_,_,rfl,_,_,rfl,rfl,?_⟩;refine⟨_,rfl,s,dx,_,rfl,h1,rfl,s,fl,p,n,as,bs,rfl,S,_,rfl,?_⟩;refine⟨fl,GO,_,.ref CF,rfl,h2,cF.ty g2,jG,fl,GO,p,.ref HL,rfl,h2,.inl ⟨HL,HZ,p,rfl,g2,_,rfl,_,rfl,?_⟩⟩;rw[decide_eq_true (rfl:p=p)];refine aS ?_;refine⟨_,rfl,s,dx,_,rfl,h1,rfl,s,fl,p,n,as,bs,rfl,S,_,rfl,rfl,_,rfl,?_⟩;rw[decide_eq_true (rfl:V.int n=V.int n)];refine aS ?_;refine⟨_,rfl,s,dx,_,rfl,h1,rfl,s,fl,p,n,as,bs,rfl,S,_,_,rfl,.int n,_,rfl,aS ?_⟩;refine⟨_,rfl,s,dx,_,rfl,h1,rfl,s,fl,p,n,as,bs,rfl,S,λl1 Io=>⟨_,rfl,l1,A',as,as,rfl,rfl,aM.of ae,aM.of (ai Io _ _ g3),.inl ⟨rfl,_,rfl,aS ?_⟩⟩⟩;have s1:au H (upd H l1 (.lst (as.map V.ref))):=ai Io;generalize upd H l1 (.lst (as.map V.ref))=H1 at s1;refine⟨_,rfl,s,dx,_,rfl,s1 _ _ h1,rfl,s,fl,p,n,as,bs,rfl,S.same s1,λl2 Ia=>⟨_,rfl,l2,B',bs,bs,rfl,rfl,aM.of ae,aM.of (ai Ia _ _ (s1 _ _ g4)),.inl ⟨rfl,_,rfl,aS ?_⟩⟩⟩;have s2:au H (upd H1 l2 (.lst (bs.map V.ref))):=s1.trans (ai Ia);generalize upd H1 l2 (.lst (bs.map V.ref))=H2 at s2;refine⟨_,rfl,s,dx,_,rfl,s2 _ _ h1,s,fl,p,n,as,bs,rfl,S.same s2,λH3 s3=>?_⟩;have s3:=s2.trans s3
  have zl:(as.map V.ref).length+(bs.map V.ref).length<=sizeLine:=by rw[List.length_map,List.length_map,sizeLine_eq];have:=S.l1;have:=S.l2;omega
  refine⟨_,rfl,(by have:=S.l1;have:=S.l2;exact Nat.lt_of_le_of_lt (by omega:as.length+bs.length<=400) (by decide)),?_⟩;refine⟨_,rfl,_,rfl,A',B',_,_,rfl,rfl,s3 _ _ g3,s3 _ _ g4,zl,λL3 H4 _ s4 U1=>?_⟩;have s4:=s3.trans s4;refine⟨L3,_,rfl,.inl (aM.of U1),rfl,_,rfl,?_⟩;rw[List.length_append,List.length_map,List.length_map,decide_eq_true (rfl:V.int ((as.length+bs.length:Nat):Int)=V.int ((as.length+bs.length:Nat):Int))];refine aS ?_;refine⟨_,rfl,_,rfl,A',B',_,_,rfl,rfl,s4 _ _ g3,s4 _ _ g4,zl,λL5 H5 _ s5 U2=>?_⟩;have s5:=s4.trans s5
  have el:(as.map V.ref++bs.map V.ref)=(as++bs).map V.ref:=by rw[List.map_append]
  rw[el] at U2;refine⟨L5,rfl,⟨_,aM.of U2⟩,?_⟩;refine jS (K:=K) (xs:=(as++bs).map V.ref) (rest:=[]) (λi us Ik=>au H Ik/\Ik L5=some (.lst ((as++bs).map V.ref))/\us=((GY.take i).map λts=>((fX ts:Nat):Int)).map V.int) ⟨s5,U2,rfl⟩ (λi us H' hi h=>?_) (λi x us H' N hi hx h k=>?_) (λus H' h=>?_)
  ·obtain⟨_,hl,rfl⟩:=h;refine⟨?_,aM.of hl⟩;rw[List.length_map,List.length_map,List.length_take,U.1,List.length_append,sizeLine_eq];have:=S.l1;have:=S.l2;omega
  ·obtain⟨s2,hl,rfl⟩:=h;rw[List.getElem?_map] at hx;obtain⟨a,ea,rfl⟩:=Option.map_eq_some_iff.mp hx
   have K3:i<GY.length:=by rw[U.1];exact(List.getElem?_eq_some_iff.mp ea).1
   obtain⟨p',sw⟩:=U.2 i a GY[i] ea (by simp[K3]);obtain⟨OE,fla,UN,Da,UO,w1,w2,w3,w4⟩:=(sw.aac (.of s2)).r.ex;refine uU ⟨_,rfl,a,OE,_,rfl,w1,rfl,a,OE,fla,Da,UO,GY[i],rfl,w1,w3,w4,k _ _ ⟨s2,hl,?_⟩⟩;rw[List.take_add_one,List.getElem?_eq_getElem K3,List.map_append,List.map_append];rfl
  ·obtain⟨s6,hl,rfl⟩:=h;intro D hD
   have hlen:((as++bs).map V.ref).length=GY.length:=by rw[List.length_map,U.1]
   rw[hlen,List.take_length];have s7:au H (upd H' D (.lst ((GY.map λts=>((fX ts:Nat):Int)).map V.int))):=s6.trans (ai hD);have Zq:upd H' D (.lst ((GY.map λts=>((fX ts:Nat):Int)).map V.int)) D=some (.lst ((GY.map λts=>((fX ts:Nat):Int)).map V.int)):=ae;generalize upd H' D _=H7 at s7 Zq;refine⟨m9,λO hO=>?_⟩;have s8:au H (upd H7 O (.lst [.int 0])):=s7.trans (ai hO);have Zr:=ai (o:=.lst [.int 0]) hO _ _ Zq;have Zt:upd H7 O (.lst [.int 0]) O=some (.lst [.int 0]):=ae;generalize upd H7 O _=H8 at s8 Zr Zt;refine⟨D,O,_,_,rfl,rfl,Zr,Zt,(by rw[List.length_map,List.length_map,U.1,List.length_append,sizeLine_eq,List.length_singleton];have:=S.l1;have:=S.l2;omega),λL9 H9 _ s9 Zu=>?_⟩;have s9:=s8.trans s9
   have e9:(GY.map λts=>((fX ts:Nat):Int)).map V.int++[.int 0]=((GY.map λts=>((fX ts:Nat):Int))++[0]).map V.int:=by rw[List.map_append];rfl
   rw[e9] at Zu;refine⟨L9,_,rfl,aM.of Zu,(by simp),λm m1 m2=>?_⟩;have em:=zu m1 m2;subst em;refine⟨_,rfl,s,dx,_,rfl,s9 _ _ h1,rfl,s,fl,p,n,as,bs,GY,rfl,S.same s9,U.same s9,λJD IT=>?_⟩;have IT:=s9.trans IT;refine⟨_,_,rfl,.int _,_,rfl,aZ ?_⟩;refine⟨_,rfl,s,dx,_,rfl,IT _ _ h1,rfl,s,fl,p,n,as,bs,GY,rfl,S.same IT,U.same IT,λOH Je=>?_⟩;refine⟨_,rfl,_,rfl,_,_,rfl,rfl,rfl,?_⟩;rw[decide_eq_true (rfl:V.int (n+vR GY)=V.int (n+vR GY))];exact q _ (IT.trans Je)
noncomputable abbrev rA:Stmt:=(aY 48)
theorem uD:∀{ks:List Int},ks.Pairwise (· < ·)->jy (ks.map V.int)=true
 |[],_=>rfl
 |[k],_=>rfl
 |a::b::ks,h=>by
  obtain⟨h1,h2⟩:=List.pairwise_cons.mp h;have ih:=uD h2;unfold jy at ih |-;have e:((a::b::ks).map V.int).zip (((a::b::ks).map V.int).drop 1)=(V.int a,V.int b):: (((b::ks).map V.int).zip (((b::ks).map V.int).drop 1)):=rfl;rw[e,List.all_cons,ih,Bool.and_true];exact decide_eq_true (h1 b List.mem_cons_self)
theorem CD {ks:List Int}(h:ks.Pairwise (· < ·))(hb:∀k∈ks,0<=k/\k<60)(hl:ks.length<4000):C8 ks:=by
 refine⟨?_,hl⟩;show((ks.map V.int).all cG&&jy (ks.map V.int))=true;rw[uD h,Bool.and_true,List.all_map,List.all_eq_true];intro k hk;obtain⟨h0,h1⟩:=hb k hk;show(decide (0<=k)&&decide (k<60))=true;rw[decide_eq_true h0,decide_eq_true h1];rfl
noncomputable def FA:Sp:=λvs H Q _=>∃(r:Addr)(many share:Int),vs=[.ref r,.int many,.int share]/\aN H r/\0<=many/\many<=60/\0<share/\share<1000 /\
 ∀(a:Addr)(ks:List Int)(H':Hp),ks.Pairwise (· < ·)->(∀k∈ks,0<=k/\k<many)->ks.length<=60->H' a=some (.tup (ks.map V.int))->aN H' r->SameBut r H H'->Q (.ref a) H'
theorem zY:uQ CR CR (ar rA):=dI (by decide +kernel)
theorem wu {ft:Addr}{IU:GF}(F:E6 K "_law_product" "_law_product" rA f fd)(GS:mg "tuple"=none)(GQ:mg "range"=none)
 (FT:Cy P w K mg base (bc P w) 1 ft IU Eh CI)(bT:L2.aI K IU Eh [])(mT:mg "_law_take"=some (.ref ft))(kT:keepIn K (.ref ft)=true):
 Cy P w K mg base (bc P w) 2 f fd CR FA:=by
 refine F.okN zY (λvs H Q E h=>?_) (λGL A outer s H vs Q E hr h=>?_)
 ·obtain⟨r,many,share,rfl,_⟩:=h;rfl
 ·obtain⟨r,many,share,rfl,hR,m0,m1,s0,s1,q⟩:=h;have GU:pL 1 _:=hr.mono (by decide)
  refine⟨_,(ao (aw (a9 hU (by rfl) GS (by rfl) (@ah _ _ _ _ _ (f9 (N:=["_law_place","_law_room_here","_law_share"]) (nl:=1) (js:=[0,2]) (osc:=ar rA) ⟨rfl,rfl,by decide +kernel,by decide +kernel,by decide +kernel,rfl,(.cons ⟨rfl,by decide +kernel⟩ (.cons ⟨rfl,by decide +kernel⟩ .nil)),by decide +kernel⟩ rfl
   (dn (by rfl) GQ (@ah _ _ _ _ _ (pv 1) af rfl))
   (λC fp s H=>aH (i:=0) (by show(["_law_place","_law_room_here","_law_share"]:xQ).Nodup;decide +kernel) rfl (Or.inl rfl) (Or.inr rfl))
   (λC fp s H=>(jR (@aB _ _ _ _ _ _ _ _ cM (ay FT GU (by rfl) mT kT bT .nil ag (@ah _ _ _ _ _ (pv 1) (@ah _ _ _ _ _ (pv 2) af rfl) rfl)) ak (aA _))))
   (λC fp s H=>(pv 0))) af rfl)))),?_⟩
  refine⟨_,rfl,many,rfl,by omega,by omega,?_⟩
  refine⟨λi m xs σ' H'=>m=many.toNat-i/\i<=many.toNat/\(∃ks:List Int,xs=ks.map V.int/\ks.Pairwise (· < ·)/\(∀k∈ks,0<=k/\k<(i:Int))/\ks.length<=i)/\aN H' r/\SameBut r H H'/\∃o,σ'=[o,some (.ref r),some (.int share)],
   ⟨many.toNat,by simp,Nat.zero_le _,⟨[],rfl,.nil,λk h=>(nomatch h),Nat.le_refl _⟩,hR,λ_ _ e _=>e,none,rfl⟩,?_⟩
  rintro i m xs σ' H' ⟨rfl,hi,⟨ks,rfl,OI,K7,Sh⟩,⟨l,x,LX,x0,x1⟩,sb,o,rfl⟩;refine⟨by rw[List.length_map];exact Nat.lt_of_le_of_lt (Nat.le_trans Sh (show i<=60 by omega)) (by decide),?_⟩
  by_cases GV:i<many.toNat
  ·refine .inr ⟨GV,λy H2 hy=>?_⟩;obtain⟨rfl,rfl⟩:=hy;refine⟨_,rfl,_,rfl,r,l,x,share,rfl,LX,x0,x1,s0,by omega,λz l2 r2 z0 z1 g0 g1=>?_⟩;have RY:SameBut r H (upd H2 r (.lst [.int l2,.int r2])):=sb.trans SameBut.upd;have R2:aN (upd H2 r (.lst [.int l2,.int r2])) r:=⟨l2,r2,ae,g0,g1⟩;refine⟨rfl,_,rfl,?_⟩;refine cT (λh=>?_) (λh=>?_)
   ·refine⟨_,rfl,many.toNat-(i+1),by omega,rfl,GV,⟨ks++[0+(i:Int)],by simp,?_,?_,by simp;omega⟩,R2,RY,_,rfl⟩
    ·refine List.pairwise_append.mpr ⟨OI,List.pairwise_singleton _ _,λa ha b hb=>?_⟩
     have:b=0+(i:Int):=by simpa using hb
     have:=(K7 a ha).2;omega
    ·intro k hk
     rcases List.mem_append.mp hk with hk|hk
     ·have:=K7 k hk;omega
     ·have:k=0+(i:Int):=by simpa using hk
      omega
   ·exact⟨many.toNat-(i+1),by omega,rfl,GV,⟨ks,rfl,OI,λk hk=>by have:=K7 k hk;omega,by omega⟩,R2,RY,_,rfl⟩
  ·have ei:i=many.toNat:=by omega
   refine .inl ⟨by show many.toNat<=i;omega,λD hD=>?_⟩;refine⟨D,_,rfl,.inl ⟨aM.of ae,λa ha=>?_⟩⟩;have nD:r≠D:=av LX hD;have na:r≠a:=av (show upd H' D (.lst (ks.map V.int)) r=some (.lst [.int l,.int x]) by rw[aq nD];exact LX) ha;refine q a ks _ OI (λk hk=>by have:=K7 k hk;omega) (by omega) ae ⟨l,x,by rw[aq na,aq nD];exact LX,x0,x1⟩ λb u e nb=>?_;have e1:=sb b u e nb
   have e2:upd H' D (.lst (ks.map V.int)) b=some u:=by rw[aq (av e1 hD)];exact e1
   rw[aq (av e2 ha)];exact e2
noncomputable abbrev tR:Stmt:=(aY 49)
noncomputable def Bj (p many:Int)(t:Tm):Prop:=Gn p 45 t.2/\t.1.Pairwise (· < ·)/\(∀k∈t.1,0<=k/\k<many)/\t.1.length<=60
noncomputable def CV:Sp:=λvs H Q _=>∃(r:Addr)(p many most:Int),vs=[.ref r,.int p,.int many,.int most]/\aN H r/\FP p/\0<=many/\many<=60/\0<=most/\most<=40 /\
 ∀(D:Addr)(ys:List V)(ts:List Tm)(H':Hp),H' D=some (.lst ys)->cz H' ys ts->(ts.length:Int)<=most->(∀t∈ts,Bj p many t)->aN H' r->SameBut r H H'->Q (.ref D) H'
theorem aN.abP {r:Addr}(h:aN H r)(s:SameBut r H H'):bh H H':=λb xs e=>s b _ e λz=>by
 obtain⟨l,x,e',_⟩:=h;rw[z,e'] at e
 cases e
theorem iH:uQ ["_law_room_here","_law_prime_here","_law_many","_law_most","_law_found","_law_k","_law_product_here"] zF (ar tR):=dI (by decide +kernel)
theorem vA {ft fp fn:Addr}{IU Iy Zv:GF}(F:E6 K "_law_terms" "_law_terms" tR f fd)(GQ:mg "range"=none)
 (FT:Cy P w K mg base (bc P w) 1 ft IU Eh CI)(bT:L2.aI K IU Eh [])(mT:mg "_law_take"=some (.ref ft))(kT:keepIn K (.ref ft)=true)
 (FP:Cy P w K mg base (bc P w) 2 fp Iy CR FA)(bP:L2.aI K Iy CR [])(mP:mg "_law_product"=some (.ref fp))(kP:keepIn K (.ref fp)=true)
 (FN:Cy P w K mg base (bc P w) 2 fn Zv vv rJ)(bN:L2.aI K Zv vv [])(mN:mg "_law_number"=some (.ref fn))(kN:keepIn K (.ref fn)=true):
 Cy P w K mg base (bc P w) 3 f fd zF CV:=by
 refine F.okN iH (λvs H Q E h=>?_) (λGL A outer s H vs Q E hr h=>?_)
 ·obtain⟨r,p,many,most,rfl,_⟩:=h;rfl
 ·obtain⟨r,p,many,most,rfl,hR,hp,m0,m1,n0,n1,q⟩:=h;have HR:pL 2 _:=hr.mono (by decide);have GU:pL 1 _:=hr.mono (by decide)
  refine⟨_,(aj (@aO _ _ 4 _ _ _ _ iH.nd rfl (Or.inl rfl) (@az _ _ _ _ af) rfl (Or.inl rfl))
   (aj (gh PassesOwn.never rfl (dn (by rfl) GQ (@ah _ _ _ _ _ (ay FT GU (by rfl) mT kT bT .nil ag (@ah _ _ _ _ _ (pv 0) (@ah _ _ _ _ _ (@aF _ _ _ _ _ _ _ _ cH (pv 3) ak) af rfl) rfl)) af rfl)) (aH (i:=5) iH.nd rfl (Or.inl rfl))
   (aj (@aO _ _ 6 _ _ _ _ iH.nd rfl (Or.inl rfl) (ay FP HR (by rfl) mP kP bP .nil ag (@ah _ _ _ _ _ (pv 0) (@ah _ _ _ _ _ (pv 2) (@ah _ _ _ _ _ (@aF _ _ _ _ _ _ _ _ cH ak (ay FT GU (by rfl) mT kT bT .nil ag (@ah _ _ _ _ _ (pv 0) (@ah _ _ _ _ _ ak af rfl) rfl))) af rfl) rfl) rfl)) rfl (Or.inl rfl))
   (ao (gc (gm PySem.F.plainAttrs_list PySem.F.slot_list_append PySem.F.type_list_append dZ (pv 4) (@ah _ _ _ _ _ (@bq _ _ _ _ _ (@ah _ _ _ _ _ (pv 6) (@ah _ _ _ _ _ (ay FN HR (by rfl) mN kN bN .nil ag (@ah _ _ _ _ _ (pv 0) (@ah _ _ _ _ _ (pv 1) af rfl) rfl)) af rfl) rfl)) af rfl))))))
   (ao (aw (pv 4))))),?_⟩
  refine⟨Nat.zero_le _,λD hD=>?_⟩;obtain⟨l0,x0,Zw,a0,a1⟩:=hR;have Np:r≠D:=av Zw hD
  have hR1:upd H D (.lst []) r=some (.lst [.int l0,.int x0]):=by rw[aq Np];exact Zw
  refine⟨_,rfl,_,rfl,_,_,rfl,rfl,r,l0,x0,most+1,rfl,hR1,a0,a1,by omega,by omega,λz l1 x1 z0 z1 b0 b1=>?_⟩
  have Ov:SameBut r H (upd (upd H D (.lst [])) r (.lst [.int l1,.int x1])):=λb u e nb=>by rw[aq nb,aq (av e hD)];exact e
  have R1:aN (upd (upd H D (.lst [])) r (.lst [.int l1,.int x1])) r:=⟨l1,x1,ae,b0,b1⟩
  have JQ:upd (upd H D (.lst [])) r (.lst [.int l1,.int x1]) D=some (.lst []):=by rw[aq (Ne.symm Np)];exact ae
  generalize upd (upd H D (.lst [])) r (.lst [.int l1,.int x1])=H1 at Ov R1 JQ |-;refine⟨z,rfl,by omega,by omega,?_⟩
  refine⟨λi m σ' H'=>m=z.toNat-i/\i<=z.toNat/\aN H' r/\SameBut r H H'/\(∃ys ts,H' D=some (.lst ys)/\cz H' ys ts/\ts.length=i/\∀t∈ts,Bj p many t)/\∃o5 o6,σ'=[some (.ref r),some (.int p),some (.int many),some (.int most),some (.ref D),o5,o6],
   ⟨z.toNat,by simp,Nat.zero_le _,R1,Ov,⟨[],[],JQ,.nil,rfl,λt h=>(nomatch h)⟩,none,none,rfl⟩,?_⟩
  rintro i m σ' H' ⟨rfl,hi,LX,RQ,⟨ys,ts,eD,ht,tl,tg⟩,o5,o6,rfl⟩
  by_cases GV:i<z.toNat
  ·refine .inr ⟨GV,λσ' H'=>aN H' r/\SameBut r H H'/\(∃ys ts,H' D=some (.lst ys)/\cz H' ys ts/\ts.length=i+1/\∀t∈ts,Bj p many t)/\∃o5 o6,σ'=[some (.ref r),some (.int p),some (.int many),some (.int most),some (.ref D),o5,o6],?_,λy H2 hy=>?_⟩
   ·rintro σ' H' ⟨h1,h2,h3,h4⟩;exact⟨z.toNat-(i+1),by omega,rfl,GV,h1,h2,h3,h4⟩
   ·obtain⟨rfl,rfl⟩:=hy;obtain⟨l2,x2,e2,c0,c1⟩:=LX;refine⟨_,rfl,_,rfl,_,rfl,r,l2,x2,2,rfl,e2,c0,c1,by decide,by decide,λu l3 x3 u0 u1 d0 d1=>?_⟩;have R3:aN (upd H2 r (.lst [.int l3,.int x3])) r:=⟨l3,x3,ae,d0,d1⟩;have Si:SameBut r H2 (upd H2 r (.lst [.int l3,.int x3])):=SameBut.upd;generalize upd H2 r (.lst [.int l3,.int x3])=H3 at R3 Si |-;refine⟨_,_,rfl,rfl,r,many,2+u,rfl,R3,m0,m1,by omega,by omega,λa ks H4 OI K7 Sh ha R4 U3=>?_⟩;have RZ:H4 D=some (.lst ys):=U3 _ _ (Si _ _ eD (Ne.symm Np)) (Ne.symm Np);have k2:bh H2 H3:=aN.abP ⟨l2,x2,e2,c0,c1⟩ Si;have k3:bh H3 H4:=R3.abP U3;refine⟨_,rfl,.inl ⟨rfl,_,aM.of RZ⟩,_,rfl,_,rfl,_,rfl,r,p,rfl,hp,R4,λan tt bb H5 hn B1 B2 hn5 R5 U4=>?_⟩;have k4:bh H4 H5:=R4.abP U4;refine⟨d9,λtu OJ=>?_⟩;have eD5:H5 D=some (.lst ys):=U4 _ _ RZ (Ne.symm Np);have sU:au H5 (upd H5 tu (.tup [.ref a,.ref an])):=ai OJ;have Zx:=sU _ _ eD5;refine⟨D,ys,.ref tu,rfl,rfl,Zx,?_,?_⟩
    ·rw[ht.length];exact Nat.lt_of_le_of_lt (show ts.length<=60 by omega) (by decide)
    have kD:bh (upd H5 tu (.tup [.ref a,.ref an])) (upd (upd H5 tu (.tup [.ref a,.ref an])) D (.lst (ys++[.ref tu]))):=bh.upd λxs z=>by rw[Zx] at z;cases z
    have kA:bh H2 (upd (upd H5 tu (.tup [.ref a,.ref an])) D (.lst (ys++[.ref tu]))):=((k2.trans k3).trans k4).trans ((bh.of sU).trans kD);obtain⟨l6,x6,e6,f0,f1⟩:=R5;refine⟨⟨l6,x6,by rw[aq Np];exact sU _ _ e6,f0,f1⟩,λb u e nb=>?_,⟨_,ts++[(ks,tt,bb)],ae,Paired.snoc (cz.keep ht kA) ⟨tu,a,an,rfl,kD _ _ ae,kD _ _ (sU _ _ (k4 _ _ ha)),kD _ _ (sU _ _ hn5)⟩,by simp[tl],λt h=>?_⟩,_,_,rfl⟩
    ·have nb2:b≠D:=av e hD;rw[aq nb2];exact sU _ _ (U4 _ _ (U3 _ _ (Si _ _ (RQ _ _ e nb) nb) nb) nb)
    ·rcases List.mem_append.mp h with h|h
     ·exact tg t h
     ·have:t=(ks,tt,bb):=by simpa using h
      subst this;exact⟨⟨hn,B1,B2⟩,OI,K7,Sh⟩
  ·have ei:i=z.toNat:=by omega
   refine .inl ⟨by show z.toNat<=i;omega,?_⟩;exact⟨_,rfl,q D ys ts H' eD ht (by omega) tg LX RQ⟩
theorem pR {d:List Tm}{e:Tm}(h:e∈fM d):e∈d:=by
 unfold fM at h;obtain⟨x,hx,rfl⟩:=List.mem_map.mp h;obtain⟨y,hy,rfl⟩:=List.mem_map.mp ((dA _).mem_iff.mp hx);exact(List.mem_filter.mp hy).1
theorem vO (d:List Tm):(fM d).length<=d.length:=by
 unfold fM;rw[List.length_map,(dA _).length_eq,List.length_map];exact List.length_filter_le _ _
variable {p:Int}
theorem zh {d:List Tm}{t e:Tm}(h:e∈ij p d t):(∃x∈d,e.1=x.1)\/e.1=t.1:=by
 unfold ij at h
 split at h
 ·obtain⟨x,hx,rfl⟩:=List.mem_map.mp h;refine .inl ⟨x,hx,?_⟩
  split <;> rfl
 ·rcases List.mem_append.mp h with h|h
  ·exact .inl ⟨e,h,rfl⟩
  ·have:e=t:=by simpa using h
   exact .inr (by rw[this])
theorem qr :∀(ts d:List Tm)(e:Tm),e∈ts.foldl (ij p) d->(∃x∈d,e.1=x.1)\/∃x∈ts,e.1=x.1
 |[],d,e,h=>.inl ⟨e,h,rfl⟩
 |t::ts,d,e,h=>by
  rcases qr ts (ij p d t) e h with⟨x,hx,ex⟩|⟨x,hx,ex⟩
  ·rcases zh hx with⟨y,hy,ey⟩|ey
   ·exact .inl ⟨y,hy,ex.trans ey⟩
   ·exact .inr ⟨t,List.mem_cons_self,ex.trans ey⟩
  ·exact .inr ⟨x,List.mem_cons_of_mem _ hx,ex⟩
theorem B.wt {n:Nat}{i:Int}(h:B n i)(k:n<=1900):Wt i.natAbs:=⟨h.mono k⟩
variable {ts:List Tm}
theorem gQ {t:Tm}(h:t∈fM (bK p ts)):∃x∈ts,t.1=x.1:=by
 rcases qr ts [] t (pR h) with⟨x,hx,_⟩|h
 ·exact nomatch hx
 ·exact h
variable {many:Int}
theorem uk (hp:FP p)(hmy:many<=60)(h:∀t∈ts,Bj p many t)(hm:ts.length<=40):(fM (bK p ts)).length<=ts.length/\∀t∈fM (bK p ts),Wr t:=by
 obtain⟨g1,g2,g3⟩:=jq (m:=45) hp ts.length ts rfl λt ht=>(h t ht).1;refine⟨Nat.le_trans (vO _) g3,λt ht=>?_⟩;obtain⟨x,hx,ex⟩:=gQ ht;obtain⟨n1,n2,n3⟩:=g1 t (pR ht);obtain⟨_,_,h3,h4⟩:=h x hx;exact⟨B.wt n2 (by omega),B.wt n3 (by omega),by have:=n1.pos;omega,by rw[ex];exact λk hk=>⟨(h3 k hk).1,by have:=(h3 k hk).2;omega⟩,by rw[ex];exact h4⟩
theorem kg {many:Int}(hm:0<=many)(h:∀t∈ts,∀k∈t.1,k<many):eC ts<=many:=by
 unfold eC
 have hl:∀a∈(ts.filter λt=>!t.1.isEmpty).map hV,a<=many:=by
  intro a ha;obtain⟨t,ht,rfl⟩:=List.mem_map.mp ha;obtain⟨h1,h2⟩:=List.mem_filter.mp ht
  have ne:t.1≠[]:=by intro z;rw[z] at h2;cases h2
  unfold hV;have:=h t h1 (t.1.getLastD 0) (by rw[List.getLastD_eq_getLast?,List.getLast?_eq_some_getLast ne];exact List.getLast_mem ne);omega
 cases e:(ts.filter λt=>!t.1.isEmpty).map hV with
 |nil=>exact hm
 |cons b ns =>
  rw[e] at hl;obtain⟨m,em,h1,_,_⟩:=jo ns b;have e':Mx.il none (b::ns)=some m:=em;rw[e'];show m<=many
  rcases h1 with h1|h1
  ·rw[h1];exact hl b (.head _)
  ·exact hl m (.tail _ h1)
theorem Aw {t:Tm}(h:Bj p many t)(hm:many<=60):C8 t.1:=by
 obtain⟨_,h2,h3,h4⟩:=h;exact CD h2 (λk hk=>⟨(h3 k hk).1,by have:=(h3 k hk).2;omega⟩) (by omega)
theorem zB (hp:FP p):Num p 1 1:=⟨by decide,by decide,λz=>⟨rfl,by decide,by have:=(hp.two z).2.1;omega⟩⟩
theorem ph {ks:List Int}(hp:FP p)(h:ks=[]\/∃k,ks=[k]/\0<=k/\k<many):Bj p many (ks,(1,1)):=by
 refine⟨⟨zB hp,(by show(1:Int).natAbs<2^45;decide),(by show(1:Int).natAbs<2^45;decide)⟩,?_⟩
 rcases h with rfl|⟨k,rfl,h1,h2⟩
 ·exact⟨.nil,λk hk=>(nomatch hk),Nat.zero_le _⟩
 ·refine⟨.cons (λa ha=>(nomatch ha)) .nil,λj hj=>?_,(by show 1<=60;decide)⟩
  have:j=k:=by simpa using hj
  subst this;exact⟨h1,h2⟩
theorem mD {k:Int}:fM (bK p [([k],(1,1))])=[([k],(1,1))]:=by
 have e:bK p [([k],(1,1))]=[([k],(1,1))]:=by simp[bK,ij]
 rw[e];rfl
theorem kd {k:Int}:eC (fM (bK p [([k],(1,1))]))=k+1:=by
 rw[mD];rfl
theorem uE {t0 t1 t2 l3:Addr}{ks:List Int}(e0:H t0=none)(e1:upd H t0 (.tup (ks.map V.int)) t1=none)(e2:upd (upd H t0 (.tup (ks.map V.int))) t1 (.tup [.int 1,.int 1]) t2=none)(e3:upd (upd (upd H t0 (.tup (ks.map V.int))) t1 (.tup [.int 1,.int 1])) t2 (.tup [.ref t0,.ref t1]) l3=none):
 ∃H4,upd (upd (upd (upd H t0 (.tup (ks.map V.int))) t1 (.tup [.int 1,.int 1])) t2 (.tup [.ref t0,.ref t1])) l3 (.lst [.ref t2])=H4/\au H H4/\H4 l3=some (.lst [.ref t2])/\cz H4 [.ref t2] [(ks,(1,1))]:=by
 have s1:=ai (o:=.tup (ks.map V.int)) e0;have s2:=ai (o:=.tup [.int 1,.int 1]) e1;have s3:=ai (o:=.tup [.ref t0,.ref t1]) e2;have s4:=ai (o:=.lst [.ref t2]) e3;refine⟨_,rfl,((au.trans s1 s2).trans s3).trans s4,ae,.cons ⟨t2,t0,t1,rfl,s4 _ _ ae,s4 _ _ (s3 _ _ (s2 _ _ ae)),s4 _ _ (s3 _ _ ae)⟩ .nil⟩
variable {fl:Addr}{y:V}
section
variable {K:PySem.W.Frag}{C CF CS CN:Addr}{H:Hp}{Q:Hp->Prop}{E:XK}
theorem gZ {GO l:Addr}{many:Int}{ys:List V}{ts:List Tm}(hf:H fl=some (.ins CF GO (cw p)))(hp:FP p)(hl:H l=some (.lst ys))(ht:cz H ys ts)(hm:many<=60)(g:∀t∈ts,Bj p many t)(few:ts.length<=40)
 {x dx:Addr}(h1:H x=none)(h2:H dx=none)(ne:dx≠x)(q:∀H',au H H'->SW C CF H' x p (fM (bK p ts))->Q H'):
 iT C CF [.ref x,.ref fl,.ref l] (upd (upd H dx (.own x)) x (.ins C dx [])) (λv H2=>v=.non/\Q H2) E:=by
 have hS:au H (upd (upd H dx (.own x)) x (.ins C dx [])):=(ai h2).trans (ai (by rw[aq (Ne.symm ne)];exact h1));refine⟨x,dx,fl,GO,p,.ref l,ts,45,rfl,ae,hS _ _ hf,hp,.inr ⟨l,ys,rfl,hS _ _ hl,cz.keep ht (bh.of hS)⟩,by omega,λt ht=>⟨(g t ht).1,Aw (g t ht) hm⟩,by omega,by decide,λH' D zs k _ hs hD hz=>⟨rfl,?_⟩⟩;have sH:=fH h1 h2 ne k;obtain⟨w1,w2⟩:=uk hp hm g few;refine q H' sH ⟨⟨dx,fl,GO,D,zs,hs,sH _ _ hf,hD,hz⟩,hp,by omega,w2,λt ht=>?_⟩;obtain⟨y,hy,ey⟩:=gQ ht;rw[ey];have:=(g y hy).2.2.2;omega
theorem AZ {f m x:V}{n:Int}{as bs:List Addr}(r:Rt C CF p n H f m x y fl as bs){s dx:Addr}(h1:H s=none)(h2:H dx=none)(ne:dx≠s)(q:∀H',au H H'->yo CS CF H' s fl p n as bs->Q H'):
 qQ CS C CF CN [.ref s,f,m,x,y] (upd (upd H dx (.own s)) s (.ins CS dx [])) (λv H2=>v=.non/\Q H2) E:=by
 have hS:au H (upd (upd H dx (.own s)) s (.ins CS dx [])):=(ai h2).trans (ai (by rw[aq (Ne.symm ne)];exact h1));refine⟨s,dx,f,m,x,y,p,n,rfl,ae,.inl ⟨fl,as,bs,r.aac (.of hS),λH' A B k _ _ _ hs hA hB=>⟨rfl,?_⟩⟩⟩;have sH:=fH h1 h2 ne k;obtain⟨GO,_,hf⟩:=r.f;refine q H' sH ⟨⟨dx,GO,A,B,hs,sH _ _ hf,hA,hB⟩,r.l.len,?_⟩
 rcases r.u with⟨_,e⟩|⟨u,_⟩
 ·rw[e];exact Nat.zero_le _
 ·exact u.len
end
noncomputable abbrev Fy:Stmt:=(aY 54)
theorem md:uQ ["_law_one","_law_things","_law_field","_law_many","_law_lows","_law_highs","_law_more","_law_some","_law_alike_here"] zJ (ar Fy):=dI (by decide +kernel)
variable {n:Int}
theorem j9.of :∀{as:List Addr},(∀a∈as,WX C CF p n H (.ref a) true)->∃GY,j9 C CF H as GY
 |[],_=>⟨[],rfl,λi a ts e=>by simp at e⟩
 |a::as,h=>by
  obtain⟨GY,e,z⟩:=j9.of λb hb=>h b (.tail _ hb)
  have key:∃ts,SW C CF H a p ts:=by
   have w:=h a (.head _);generalize hx:V.ref a=x at w;generalize hb:true=b at w
   cases w with
   |sum s =>
    cases hx
    rename_i p' ts
    have:p'=p:=of_decide_eq_true (Bool.and_eq_true_iff.mp hb.symm).1;exact⟨_,this▸s⟩
   |oth t=>cases hb
  obtain⟨ts,sw⟩:=key;refine⟨ts::GY,by simp[e],λi b us ea et=>?_⟩
  cases i with
  |zero =>
   simp at ea et;subst ea;subst et;exact⟨p,sw⟩
  |succ i=>exact z i b us (by simpa using ea) (by simpa using et)
structure Tn (C CF:Addr)(H:Hp)(L fl:Addr)(p n:Int)(as bs:List Addr):Prop where
 t:km CF H L fl p n as bs
 fp:FP p
 n1:1<=n
 n2:n<=60
 wi:∀a∈as++bs,WX C CF p n H (.ref a) true
 l1:as.length<=100
 l2:bs.length<=100
 u:bs≠[]->p=0
theorem Rt.of {GO lx ly:Addr}{bs:List Addr}(hf:H fl=some (.ins CF GO (cw p)))(n1:1<=n)(n2:n<=60)(hx:H lx=some (.lst (as.map V.ref)))(hy:H ly=some (.lst (bs.map V.ref)))(l1:as.length<=200)(l2:bs.length<=200)(wa:∀a∈as,WX C CF p n H (.ref a) true)(wb:∀a∈bs,WX C CF p n H (.ref a) true)(u:bs≠[]->p=0):
 Rt C CF p n H (.ref fl) (.int n) (.ref lx) (.ref ly) fl as bs:=⟨⟨GO,rfl,hf⟩,rfl,n1,n2,⟨⟨lx,rfl,hx⟩,l1,wa⟩,.inr ⟨⟨⟨ly,rfl,hy⟩,l2,wb⟩,u⟩⟩
inductive Cv (CS CF:Addr)(H:Hp)(p n:Int)(as bs:List Addr):V->Bool->Prop where
 |sys {s' HL:Addr}{p' n':Int}{JS JT:List Addr}:yo CS CF H s' HL p' n' JS JT->(as=JS\/as.length≠JS.length)->(bs=JT\/bs.length≠JT.length)->Cv CS CF H p n as bs (.ref s') (decide (p=p')&&(decide (n=n')&&(decide (as=JS)&&decide (bs=JT))))
 |th {y:V}{T:String}:Th H y T->Cv CS CF H p n as bs y false
 |fld {HL dx:Addr}{p':Int}:H HL=some (.ins CF dx (cw p'))->Cv CS CF H p n as bs (.ref HL) false
theorem Cv.same {bs:List Addr}{b:Bool}(h:Cv CS CF H p n as bs y b)(s:au H H'):Cv CS CF H' p n as bs y b:=by
 cases h with
 |sys a b c=>exact .sys (a.same s) b c
 |th t=>exact .th (t.aac (.of s))
 |fld e=>exact .fld (s _ _ e)
inductive E8 (CS CF:Addr)(H:Hp)(p n:Int)(as bs:List Addr):List V->List Bool->Prop where
 |nil:E8 CS CF H p n as bs [] []
 |cons {y:V}{b:Bool}{ys:List V}{es:List Bool}:Cv CS CF H p n as bs y b->E8 CS CF H p n as bs ys es->E8 CS CF H p n as bs (y::ys) (b::es)
section
variable {CS CF:Addr}{H H':Hp}{p n:Int}{as bs:List Addr}{ys zs:List V}{es fs:List Bool}
theorem E8.same (h:E8 CS CF H p n as bs ys es)(s:au H H'):E8 CS CF H' p n as bs ys es:=by
 induction h with
 |nil=>exact .nil
 |cons a _ ih=>exact .cons (a.same s) ih
theorem E8.app (h:E8 CS CF H p n as bs ys es)(g:E8 CS CF H p n as bs zs fs):E8 CS CF H p n as bs (ys++zs) (es++fs):=by
 induction h with
 |nil=>exact g
 |cons a _ ih=>exact .cons a ih
theorem E8.len (h:E8 CS CF H p n as bs ys es):es.length=ys.length:=by
 induction h with
 |nil=>rfl
 |cons _ _ ih=>rw[List.length_cons,List.length_cons,ih]
theorem E8.at (h:E8 CS CF H p n as bs ys es):∀{i:Nat}{y:V},ys[i]?=some y->∃b,es[i]?=some b/\Cv CS CF H p n as bs y b:=by
 induction h with
 |nil=>intro i y e;simp at e
 |cons a _ ih =>
  intro i y e
  cases i with
  |zero =>
   rw[List.getElem?_cons_zero] at e
   cases e
   exact⟨_,rfl,a⟩
  |succ i=>exact ih (by simpa using e)
end
theorem EJ {t:TS}{D:Ends}{σ:St}(R:St->Hp->Prop)(h:∀D':Ends,(∀σ' H',R σ' H'->D'.nx σ' H')->t D' σ H)(fin:∀σ' H',R σ' H'->D.nx σ' H'):t D σ H:=h D fin
noncomputable def DE (CS C CF:Addr):Sp:=λvs H Q _=>∃(s fl L HL:Addr)(p n:Int)(as bs:List Addr),vs=[.ref s,.ref L]/\yo CS CF H s fl p n as bs/\Tn C CF H L HL p n as bs/\∀H',au H H'->Q (.bl true) H'
theorem uO {s:Addr}{bs:List Addr}{b:Bool}(cS:Fb K mg CS)(cF:Cp K mg CF)(k1:kitOne K (.ref CF) (.ref CS)=some false)(k2:notFirst K CS (.ref CF)=true)(S:yo CS CF H s fl p n as bs)(h:Cv CS CF H p n as bs y b){neg:Bool}{Q:VK}(q:Q (.bl (b != neg)) H):
 iu K CS (jX K CS CF) (λ_ _ _=>False) neg (.ref s) y H Q:=by
 obtain⟨dx,GO,A,B,h1,h2,h3,h4⟩:=S.ex
 cases h with
 |sys S' a b =>
  obtain⟨KU,HZ,A',B',g1,g2,g3,g4⟩:=S'.ex;exact⟨s,dx,_,.ref CS,rfl,h1,cS.ty g1,jG,s,fl,p,n,as,bs,_,rfl,S,.inl ⟨_,_,_,_,_,_,rfl,S',a,b,_,rfl,q⟩⟩
 |th t=>exact⟨s,dx,_,_,rfl,h1,t.ty,DV t,s,fl,p,n,as,bs,_,rfl,S,.inr ⟨_,t.ty,cS.no t,_,rfl,q⟩⟩
 |fld e=>exact⟨s,dx,_,_,rfl,h1,cF.ty e,k2,s,fl,p,n,as,bs,_,rfl,S,.inr ⟨_,cF.ty e,k1,_,rfl,q⟩⟩
theorem EA {fi fs CN:Addr}{Ju Iw:GF}(F:E6 K "_law_alike" "_law_alike" Fy f fd)(cS:Fb K mg CS)(cF:Cp K mg CF)(c:vn K mg C)(GP:mg "len"=none)(GN:mg "list"=none)(k1:kitOne K (.ref CF) (.ref CS)=some false)(k2:notFirst K CS (.ref CF)=true)
 (MY:Mk K CS fi)(FY:Cy P w K mg base (bc P w) 5 fi Ju ES (qQ CS C CF CN))(bY:L2.aI K Ju ES [])
 (MS:Mk K C fs)(FS:Cy P w K mg base (bc P w) 6 fs Iw vX (iT C CF))(bS:L2.aI K Iw vX [])
 (U5:eV P w K mg base 1 CF "prime" ["self"] (iB CF))(yl:eY P w K mg base 1 CS "__len__" ["self"] (rZ CS CF))(yq:eY P w K mg base 2 CS "__eq__" qR (jX K CS CF))(Zy:findIn K (.ref CS) "__ne__"=some (some (.builtin "object.__ne__"))):Cy P w K mg base (bc P w) 8 f fd zJ (DE CS C CF):=by
 obtain⟨fFp,U6,Nk,Nl,Nn⟩:=U5;obtain⟨fL,fdL,FL,bL,nL,iL⟩:=yl;obtain⟨fQ,fdQ,FQ,bQ,nQ,iQ⟩:=yq;refine F.okN md (λvs H Q E h=>?_) (λGL A outer s H vs Q E hr h=>?_)
 ·obtain⟨s,fl,L,HL,p,n,as,bs,rfl,_⟩:=h;rfl
 ·obtain⟨s,fl,L,HL,p,n,as,bs,rfl,S,T,q⟩:=h;obtain⟨HZ,A',B',g1,g2,g3,g4⟩:=T.t.ex;have Il:pL 7 _:=hr.mono (by decide);have JC:pL 6 _:=hr.mono (by decide);have Iz:pL 3 _:=hr.mono (by decide);have HR:pL 2 _:=hr.mono (by decide);have GU:pL 1 _:=hr.mono (by decide)
  refine⟨_,(aj (c8 (pv 1) (oo rfl (aJ (aH (i:=2) md.nd rfl (Or.inl rfl)) (aJ (aH (i:=3) md.nd rfl (Or.inl rfl)) (aJ (aH (i:=4) md.nd rfl (Or.inl rfl)) (aJ (aH (i:=5) md.nd rfl (Or.inl rfl)) cm))))))
   (aj (aV (PW.pt (dH (@aB _ _ _ _ _ _ _ _ (show dX _ _ (iu K CS (jX K CS CF) (λ_ _ _=>False) true) from lS nQ iQ Zy cS.ob FQ Iz bQ ag) (pv 0) (bz MY FY JC (by rfl) cS.mgC bY .nil ag (@ah _ _ _ _ _ (pv 2) (@ah _ _ _ _ _ (pv 3) (@ah _ _ _ _ _ (a9 bO (by rfl) GN (by rfl) (@ah _ _ _ _ _ (pv 4) af rfl)) (@ah _ _ _ _ _ (a9 bO (by rfl) GN (by rfl) (@ah _ _ _ _ _ (pv 5) af rfl)) af rfl) rfl) rfl) rfl)) (aA _)) (dt (bM (@aB _ _ _ _ _ _ _ _ (show dX _ _ (iu K CS (jX K CS CF) (λ_ _ _=>False) false) from iA nQ iQ FQ HR bQ ag) (pv 0) (bz MY FY JC (by rfl) cS.mgC bY .nil ag (@ah _ _ _ _ _ (pv 2) (@ah _ _ _ _ _ (pv 3) (@ah _ _ _ _ _ (pv 4) (@ah _ _ _ _ _ (pv 5) af rfl) rfl) rfl) rfl)) (aA _)))))) (ao (aw cV)) aE)
   (aj (@aO _ _ 6 _ _ _ _ md.nd rfl (Or.inl rfl) (bz MS FS Il (by rfl) c.c.mgC bS .nil ag (@ah _ _ _ _ _ (pv 2) (@ah _ _ _ _ _ (@az _ _ _ _ (@ah _ _ _ _ _ (@bq _ _ _ _ _ (@ah _ _ _ _ _ (@bq _ _ _ _ _ af) (@ah _ _ _ _ _ (@bq _ _ _ _ _ (@ah _ _ _ _ _ ak (@ah _ _ _ _ _ ak af rfl) rfl)) af rfl) rfl)) af rfl)) af rfl) rfl)) rfl (Or.inl rfl))
   (aj (@aO _ _ 7 _ _ _ _ md.nd rfl (Or.inl rfl) (@az _ _ _ _ (@ah _ _ _ _ _ (bz MY FY JC (by rfl) cS.mgC bY .nil ag (@ah _ _ _ _ _ (pv 2) (@ah _ _ _ _ _ (pv 3) (@ah _ _ _ _ _ (@aF _ _ _ _ _ _ _ _ bZ (pv 4) (@az _ _ _ _ (@ah _ _ _ _ _ (pv 6) af rfl))) (@ah _ _ _ _ _ (pv 5) af rfl) rfl) rfl) rfl)) (@ah _ _ _ _ _ (bz MY FY JC (by rfl) cS.mgC bY .nil ag (@ah _ _ _ _ _ (pv 2) (@ah _ _ _ _ _ (@aF _ _ _ _ _ _ _ _ cH ak (@aF _ _ _ _ _ _ _ _ eU (pv 3) ak)) (@ah _ _ _ _ _ (@az _ _ _ _ af) (@ah _ _ _ _ _ (@az _ _ _ _ af) af rfl) rfl) rfl) rfl)) af rfl) rfl)) rfl (Or.inl rfl))
   (aj (aV (@aB _ _ _ _ _ _ _ _ cM (bx (pv 2) cF.cl Nn Nk GU Nl .nil ag) ak (aA _)) (ao (@aO _ _ 7 _ _ _ _ md.nd rfl (Or.inl rfl) (@aF _ _ _ _ _ _ _ _ bZ (pv 7) (@az _ _ _ _ (@ah _ _ _ _ _ (bz MY FY JC (by rfl) cS.mgC bY .nil ag (@ah _ _ _ _ _ (pv 2) (@ah _ _ _ _ _ (pv 3) (@ah _ _ _ _ _ (pv 4) (@ah _ _ _ _ _ (@aF _ _ _ _ _ _ _ _ bZ (pv 5) (@az _ _ _ _ (@ah _ _ _ _ _ (pv 6) af rfl))) af rfl) rfl) rfl) rfl)) (@ah _ _ _ _ _ (bz MY FY JC (by rfl) cS.mgC bY .nil ag (@ah _ _ _ _ _ (pv 2) (@ah _ _ _ _ _ (pv 3) (@ah _ _ _ _ _ (@aF _ _ _ _ _ _ _ _ bZ (pv 4) (pv 5)) (@ah _ _ _ _ _ (@az _ _ _ _ af) af rfl) rfl) rfl) rfl)) af rfl) rfl))) rfl (Or.inl rfl))) aE)
   (aj (@aO _ _ 7 _ _ _ _ md.nd rfl (Or.inl rfl) (@aF _ _ _ _ _ _ _ _ bZ (pv 7) (@az _ _ _ _ (@ah _ _ _ _ _ (pv 1) (@ah _ _ _ _ _ b7 (@ah _ _ _ _ _ (aD (jt nL iL FL HR bL ag) (by rfl) GP PySem.boot_len (@ah _ _ _ _ _ (pv 0) af rfl)) (@ah _ _ _ _ _ (pv 2) af rfl) rfl) rfl) rfl))) rfl (Or.inl rfl))
   (aj (iG (i:=8) (N:=["_law_thing","_law_one"]) (nl:=1) (js:=[0]) (osc:=ar Fy) ⟨rfl,rfl,by decide +kernel,by decide +kernel,by decide +kernel,rfl,(.cons ⟨rfl,by decide +kernel⟩ .nil),by decide +kernel⟩ rfl md.nd rfl (Or.inl rfl)
    (eP (pv 7))
    (λCq fq sq Hq=>aH (i:=0) (by show(["_law_thing","_law_one"]:xQ).Nodup;decide +kernel) rfl (Or.inl rfl) (Or.inr rfl))
    (λCq fq sq Hq=>(jR (PW.pt (je (@aB _ _ _ _ _ _ _ _ (show dX _ _ (iu K CS (jX K CS CF) (λ_ _ _=>False) false) from iA nQ iQ FQ HR bQ ag) (pv 1) (pv 0) (aA _)) (iP (bM (@aB _ _ _ _ _ _ _ _ (show dX _ _ (iu K CS (jX K CS CF) (λ_ _ _=>False) true) from lS nQ iQ Zy cS.ob FQ Iz bQ ag) (pv 1) (pv 0) (aA _))))))))
    (λCq fq sq Hq=>(pv 0)) (by rfl))
   (ao (aw (Cls (@bD _ _ _ _ _ _ _ _ (kH GU) (pv 8) (@az _ _ _ _ af) (aA _)) (dC (cp (@bD _ _ _ _ _ _ _ _ cM (aD bp (by rfl) GP PySem.boot_len (@ah _ _ _ _ _ (pv 8) af rfl)) ak (aA _)) (cp (@bD _ _ _ _ _ _ _ _ (kH GU) (pv 5) (@az _ _ _ _ af) (aA _)) (dC (@bD _ _ _ _ _ _ _ _ cM (bx (pv 2) cF.cl Nn Nk GU Nl .nil ag) ak (aA _)))))))))))))))),?_⟩
  refine⟨_,rfl,L,_,rfl,aM.of g1,rfl,?_⟩;refine⟨_,_,rfl,_,_,rfl,_,_,rfl,_,_,rfl,rfl,?_⟩;have wa:∀a∈as,WX C CF p n H (.ref a) true:=λa ha=>T.wi a (List.mem_append_left _ ha);have wb:∀a∈bs,WX C CF p n H (.ref a) true:=λa ha=>T.wi a (List.mem_append_right _ ha);have wk:∀{l:List Addr}{H':Hp},(∀a∈l,WX C CF p n H (.ref a) true)->au H H'->∀a∈l,WX C CF p n H' (.ref a) true:=λh s a ha=>(h a ha).aac (.of s);have la:as.length<=200:=Nat.le_trans T.l1 (by decide);have lb:bs.length<=200:=Nat.le_trans T.l2 (by decide)
  have yes:∀{H':Hp}{s' fl2:Addr},yo CS CF H' s' fl2 p n as bs->Cv CS CF H' p n as bs (.ref s') true:=λS'=>by
   have z:=Cv.sys (p:=p) (n:=n) S' (.inl rfl) (.inl rfl);simpa using z
  refine⟨_,rfl,_,rfl,_,rfl,_,rfl,A',_,rfl,.inl (aM.of g3),λl1 Io=>⟨_,rfl,B',_,rfl,.inl (aM.of (ai Io _ _ g4)),λl2 Ia=>?_⟩⟩;have s1:au H (upd (upd H l1 (.lst (as.map V.ref))) l2 (.lst (bs.map V.ref))):=(ai Io).trans (ai Ia);have x1:upd (upd H l1 (.lst (as.map V.ref))) l2 (.lst (bs.map V.ref)) l1=some (.lst (as.map V.ref)):=ai Ia _ _ ae;have x2:upd (upd H l1 (.lst (as.map V.ref))) l2 (.lst (bs.map V.ref)) l2=some (.lst (bs.map V.ref)):=ae;generalize upd (upd H l1 _) l2 _=H1 at s1 x1 x2;refine λy1 a2 a3 a4 a5=>AZ (Rt.of (s1 _ _ g2) T.n1 T.n2 x1 x2 la lb (wk wa s1) (wk wb s1) T.u) a3 a4 a5 λH2 s2 Y1=>?_;have s2:=s1.trans s2;refine uO cS cF k1 k2 (S.same s2) (yes Y1) ⟨_,rfl,aS ?_⟩;refine⟨_,rfl,_,rfl,_,rfl,_,rfl,_,rfl,?_⟩;refine λy2 a2 a3 a4 a5=>AZ (Rt.of (s2 _ _ g2) T.n1 T.n2 (s2 _ _ g3) (s2 _ _ g4) la lb (wk wa s2) (wk wb s2) T.u) a3 a4 a5 λH3 s3 Y2=>?_;have s3:=s2.trans s3;refine uO cS cF k1 k2 (S.same s3) (yes Y2) ⟨_,rfl,aS ?_⟩;refine⟨_,rfl,Nat.zero_le _,λt0 e0=>⟨d9,λt1 e1=>⟨d9,λt2 e2=>⟨m9,λl3 e3=>λmo dmo b1 b2 b3=>?_⟩⟩⟩⟩;obtain⟨H4,U7,s4,U1,ht4⟩:=uE (ks:=[]) e0 e1 e2 e3;have s4:=s3.trans s4;have b1:H4 mo=none:=U7▸b1;have b2:H4 dmo=none:=U7▸b2;rw[show upd (upd (upd (upd H3 t0 (.tup [])) t1 (.tup [.int 1,.int 1])) t2 (.tup [.ref t0,.ref t1])) l3 (.lst [.ref t2])=H4 from U7]
  refine gZ (many:=0) (s4 _ _ g2) T.fp U1 ht4 (by decide) (λt ht=>by
   have:t=([],(1,1)):=by simpa using ht
   rw[this]
   exact ph T.fp (.inl rfl)) (by decide) b1 b2 b3 λH5 s5 M5=>?_
  have s5:=s4.trans s5
  have wm:WX C CF p n H5 (.ref mo) true:=by
   have z:=WX.sum (p:=p) (n:=n) M5
   have KW:eC (fM (bK p [([],(1,1))]))<=n:=Int.le_trans (kg (many:=0) (Int.le_refl _) λt ht k hk=>by
    obtain⟨x,hx,ex⟩:=gQ ht
    have:x=([],(1,1)):=by simpa using hx
    rw[ex,this] at hk
    exact nomatch hk) (by have:=T.n1;omega)
   rw[decide_eq_true (rfl:p=p),decide_eq_true KW] at z;exact z
  refine⟨_,rfl,_,rfl,_,rfl,_,rfl,m9,λl6 e6=>?_⟩;have s6:=s5.trans (ai (o:=.lst [.ref mo]) e6);have h56:=ai (o:=.lst [.ref mo]) e6;have Zz:upd H5 l6 (.lst [.ref mo]) l6=some (.lst [.ref mo]):=ae;generalize upd H5 l6 _=H6 at s6 h56 Zz;refine⟨A',l6,_,_,rfl,rfl,s6 _ _ g3,Zz,(by rw[List.length_map,sizeLine_eq,List.length_singleton];omega),λl7 H7 _ ZA ZC=>?_⟩;have s7:=s6.trans ZA;have h57:=au.trans h56 ZA
  have e7:as.map V.ref++[.ref mo]=(as++[mo]).map V.ref:=by rw[List.map_append];rfl
  rw[e7] at ZC
  have wam:∀{H':Hp},au H5 H'->au H H'->∀a∈as++[mo],WX C CF p n H' (.ref a) true:=λk1 k2 a ha=>by
   rcases List.mem_append.mp ha with ha|ha
   ·exact wk wa k2 a ha
   ·have:a=mo:=by simpa using ha
    subst this;exact wm.aac (.of k1)
  refine⟨_,rfl,λy3 a2 a3 a4 a5=>AZ (Rt.of (s7 _ _ g2) T.n1 T.n2 ZC (s7 _ _ g4) (by rw[List.length_append,List.length_singleton];have:=T.l1;omega) lb (wam h57 s7) (wk wb s7) T.u) a3 a4 a5 λH8 s8 Y3=>?_⟩;have h58:=h57.trans s8;have s8:=s7.trans s8;refine⟨_,rfl,_,rfl,_,_,rfl,rfl,(by show(0:Int)<60;decide),_,_,rfl,rfl,Nat.zero_le _,λl8 e8=>⟨Nat.zero_le _,λl9 e9=>?_⟩⟩;have h89:au H8 (upd (upd H8 l8 (.lst [])) l9 (.lst [])):=(ai e8).trans (ai e9);have x8:upd (upd H8 l8 (.lst [])) l9 (.lst []) l8=some (.lst []):=ai e9 _ _ ae;have x9:upd (upd H8 l8 (.lst [])) l9 (.lst []) l9=some (.lst []):=ae;generalize upd (upd H8 l8 _) l9 _=H9 at h89 x8 x9;have s9:=s8.trans h89;have N1:=T.n1;have N2:=T.n2
  have hm:1<=1+n%60/\1+n%60<=60/\n≠1+n%60:=by omega
  refine λy4 a2 a3 a4 a5=>AZ (n:=1+n%60) (as:=[]) (bs:=[]) (Rt.of (s9 _ _ g2) hm.1 hm.2.1 x8 x9 (by decide) (by decide) (λa ha=>nomatch ha) (λa ha=>nomatch ha) (λz=>absurd rfl z)) a3 a4 a5 λJD IT Y4=>?_;have h810:=h89.trans IT;have IT:=s9.trans IT;have h510:=h58.trans h810
  have jw:∀{l:List Addr}(x:Addr),¬l=l++[x]:=λx z=>by
   have:=congrArg List.length z;rw[List.length_append,List.length_singleton] at this;omega
  have ne_len:∀{l:List Addr}(x:Addr),l.length≠(l++[x]).length:=λx z=>by
   rw[List.length_append,List.length_singleton] at z;omega
  have al3:Cv CS CF JD p n as bs (.ref y3) false:=by
   have z:=Cv.sys (p:=p) (n:=n) (as:=as) (bs:=bs) (Y3.same h810) (.inr (ne_len mo)) (.inl rfl);rw[decide_eq_false (jw mo)] at z;simpa using z
  have al4:Cv CS CF JD p n as bs (.ref y4) false:=by
   have z:=Cv.sys (p:=p) (n:=n) (as:=as) (bs:=bs) Y4 (by
    cases as with
    |nil=>exact .inl rfl
    |cons=>exact .inr (by simp)) (by
    cases bs with
    |nil=>exact .inl rfl
    |cons=>exact .inr (by simp))
   rw[decide_eq_false hm.2.2] at z;simpa using z
  refine⟨d9,λls Sj=>?_⟩;have Je:=IT.trans (ai (o:=.lst [.ref y3,.ref y4]) Sj);have h511:=h510.trans (ai (o:=.lst [.ref y3,.ref y4]) Sj);have U8:E8 CS CF (upd JD ls (.lst [.ref y3,.ref y4])) p n as bs [.ref y3,.ref y4] [false,false]:=.cons (al3.same (ai Sj)) (.cons (al4.same (ai Sj)) .nil);have U9:upd JD ls (.lst [.ref y3,.ref y4]) ls=some (.lst [.ref y3,.ref y4]):=ae;generalize upd JD ls _=OH at Je h511 U8 U9;dsimp only[vM,wC,c9];refine EJ (λσ H'=>∃lz zs es,σ=[some (.ref s),some (.ref L),some (.ref HL),some (.int n),some (.ref A'),some (.ref B'),some (.ref mo),some (.ref lz),none]/\au H H'/\H' lz=some (.lst zs)/\E8 CS CF H' p n as bs zs es/\zs.length<=4/\((es.filter id).length=0\/((es.filter id).length=1/\bs=[]/\p=0))) (λD' fin=>?_) ?_
  ·refine⟨_,rfl,HL,HZ,_,rfl,Je _ _ g2,rfl,HL,HZ,p,rfl,Je _ _ g2,rfl,_,rfl,?_⟩
   by_cases HM:p=0
   ·rw[decide_eq_true (by rw[HM]:V.int p=V.int 0)];refine aZ ?_;have Va:=wm.aac (.of h511);refine⟨_,rfl,_,rfl,_,rfl,_,rfl,_,rfl,_,rfl,m9,λSk e12=>?_⟩;have h12:=ai (o:=.lst [.ref mo]) e12;have ZD:upd OH Sk (.lst [.ref mo]) Sk=some (.lst [.ref mo]):=ae;generalize upd OH Sk _=H12 at h12 ZD;have Vb:=Je.trans h12;refine⟨B',Sk,_,_,rfl,rfl,Vb _ _ g4,ZD,(by rw[List.length_map,sizeLine_eq,List.length_singleton];omega),λl13 Vc _ h13 ZE=>?_⟩
    have e13:bs.map V.ref++[.ref mo]=(bs++[mo]).map V.ref:=by rw[List.map_append];rfl
    rw[e13] at ZE;have h13:=au.trans h12 h13;have Nq:=Je.trans h13
    have wbm:∀a∈bs++[mo],WX C CF p n Vc (.ref a) true:=λa ha=>by
     rcases List.mem_append.mp ha with ha|ha
     ·exact wk wb Nq a ha
     ·have:a=mo:=by simpa using ha
      subst this;exact Va.aac (.of h13)
    refine λy5 a2 a3 a4 a5=>AZ (Rt.of (Nq _ _ g2) T.n1 T.n2 (Nq _ _ g3) ZE la (by rw[List.length_append,List.length_singleton];have:=T.l2;omega) (wk wa Nq) wbm (λ_=>HM)) a3 a4 a5 λH14 h14 Y5=>?_;have h14:=h13.trans h14;have Sl:=Je.trans h14;refine⟨_,rfl,_,rfl,_,rfl,_,rfl,A',B',_,_,rfl,rfl,Sl _ _ g3,Sl _ _ g4,(by rw[List.length_map,List.length_map,sizeLine_eq];omega),λl15 ZF _ h15 ZG=>?_⟩
    have e15:as.map V.ref++bs.map V.ref=(as++bs).map V.ref:=by rw[List.map_append]
    rw[e15] at ZG;have h1415:=h15;have h15:=h14.trans h15;have ZH:=Je.trans h15;refine⟨Nat.zero_le _,λVd e16=>?_⟩;have h1516:=ai (o:=.lst []) e16;have ZI:upd ZF Vd (.lst []) Vd=some (.lst []):=ae;generalize upd ZF Vd _=H16 at h1516 ZI;have h16:=h15.trans h1516;have Sm:=Je.trans h16;refine λy6 a2 a3 a4 a5=>AZ (bs:=[]) (Rt.of (Sm _ _ g2) T.n1 T.n2 (h1516 _ _ ZG) ZI (by rw[List.length_append];have:=T.l1;have:=T.l2;omega) (by decide) (wk T.wi Sm) (λa ha=>nomatch ha) (λ_=>HM)) a3 a4 a5 λSn h1617 Y6=>?_;have h17:=h16.trans h1617;have h1417:=(h1415.trans h1516).trans h1617;have ZJ:=Je.trans h17
    have al5:Cv CS CF Sn p n as bs (.ref y5) false:=by
     have z:=Cv.sys (p:=p) (n:=n) (as:=as) (bs:=bs) (Y5.same h1417) (.inl rfl) (.inr (ne_len mo));rw[decide_eq_false (jw mo)] at z;simpa using z
    have al6:Cv CS CF Sn p n as bs (.ref y6) (decide (bs=[])):=by
     have z:=Cv.sys (p:=p) (n:=n) (as:=as) (bs:=bs) Y6 (by
      cases bs with
      |nil=>exact .inl (by simp)
      |cons=>exact .inr (by simp)) (by
      cases bs with
      |nil=>exact .inl rfl
      |cons=>exact .inr (by simp))
     cases bs with
     |nil=>simpa using z
     |cons b bs=>simpa using z
    refine⟨d9,λSo e18=>?_⟩;have h1718:=ai (o:=.lst [.ref y5,.ref y6]) e18;have ZK:upd Sn So (.lst [.ref y5,.ref y6]) So=some (.lst [.ref y5,.ref y6]):=ae;generalize upd Sn So _=H18 at h1718 ZK;have h18:=h17.trans h1718;refine⟨ls,So,_,_,rfl,rfl,h18 _ _ U9,ZK,lX,λl19 H19 _ h1819 x19=>?_⟩;have h19:=h18.trans h1819;refine fin _ _ ⟨l19,_,_,rfl,Je.trans h19,x19,(U8.same h19).app (.cons (al5.same (h1718.trans h1819)) (.cons (al6.same (h1718.trans h1819)) .nil)),(by show 4<=4;decide),?_⟩
    cases bs with
    |nil=>exact .inr ⟨rfl,rfl,HM⟩
    |cons=>exact .inl rfl
   ·rw[decide_eq_false (by intro z;cases z;exact HM rfl:¬V.int p=V.int 0)];exact aS (fin _ _ ⟨ls,_,_,rfl,Je,U9,U8,(by show 2<=4;decide),.inl rfl⟩)
  ·rintro σ' H' ⟨lz,zs,es,rfl,sz,hlz,alz,lz4,cnt⟩;obtain⟨dx,GO,A0,B0,q1,q2,q3,q4⟩:=S.ex;refine⟨_,rfl,_,rfl,_,rfl,s,dx,_,rfl,sz _ _ q1,s,fl,p,n,as,bs,rfl,S.same sz,λZL Sq=>⟨as.length+bs.length,rfl,(by exact Nat.lt_of_le_of_lt (by have:=T.l1;have:=T.l2;omega:as.length+bs.length<=400) (by decide)),?_⟩⟩;have Ve:=sz.trans Sq;refine⟨_,rfl,lX,λSr e21=>?_⟩;have h2021:=ai (o:=.lst [.ref L,.non,.int ((as.length+bs.length:Nat):Int),.ref HL]) e21;have ZM:upd ZL Sr (.lst [.ref L,.non,.int ((as.length+bs.length:Nat):Int),.ref HL]) Sr=some (.lst [.ref L,.non,.int ((as.length+bs.length:Nat):Int),.ref HL]):=ae;generalize upd ZL Sr _=H21 at h2021 ZM;have Vf:=Ve.trans h2021;have OK:=au.trans Sq h2021;refine⟨lz,Sr,_,_,rfl,rfl,OK _ _ hlz,ZM,(by rw[sizeLine_eq];show zs.length+4<=_;omega),λl22 Ss _ h2122 Vg=>?_⟩;have LY:=Vf.trans h2122;have JV:E8 CS CF Ss p n as bs (zs++[.ref L,.non,.int ((as.length+bs.length:Nat):Int),.ref HL]) (es++[false,false,false,false]):=(alz.same (OK.trans h2122)).app (.cons (.th (.lst (LY _ _ g1))) (.cons (.th .non) (.cons (.th (.int _)) (.cons (.fld (LY _ _ g2)) .nil))))
   have OL:((es++[false,false,false,false]).filter id).length=(es.filter id).length:=by rw[List.filter_append];simp
   generalize (es++[false,false,false,false])=fs at JV OL
   have ZN:(zs++[.ref L,.non,.int ((as.length+bs.length:Nat):Int),.ref HL]:List V).length=zs.length+4:=by simp
   generalize (zs++[.ref L,.non,.int ((as.length+bs.length:Nat):Int),.ref HL]:List V)=ys at JV ZN Vg;refine⟨_,rfl,l22,rfl,⟨_,aM.of Vg⟩,?_⟩;refine jS (K:=K) (xs:=ys) (rest:=[some (.ref s)]) (λi us Ik=>Ss=Ik/\us.length=((fs.take i).filter id).length) ⟨rfl,rfl⟩ (λi us H' hi h=>?_) (λi x us H' N hi hx h k=>?_) (λus H' h=>?_)
   ·obtain⟨rfl,hu⟩:=h;refine⟨?_,aM.of Vg⟩;rw[hu];refine Nat.lt_of_le_of_lt (List.length_filter_le _ _) ?_;rw[List.length_take,JV.len,ZN,sizeLine_eq];omega
   ·obtain⟨rfl,hu⟩:=h;obtain⟨b,eb,ax⟩:=JV.at hx;refine⟨_,rfl,_,rfl,uO cS cF k1 k2 (S.same LY) ax ⟨_,rfl,?_⟩⟩
    have tk:fs.take (i+1)=fs.take i++[b]:=by rw[List.take_add_one,eb];rfl
    cases b with
    |false =>
     refine aS (aS (k _ _ ⟨rfl,?_⟩));rw[tk,List.filter_append,hu];simp
    |true =>
     refine aZ ⟨_,rfl,_,rfl,uO cS cF k1 k2 (S.same LY) ax ⟨_,rfl,?_⟩⟩;refine aZ ⟨_,rfl,k _ _ ⟨rfl,?_⟩⟩;rw[tk,List.filter_append,List.length_append,List.length_append,hu];rfl
   ·obtain⟨rfl,hu⟩:=h;rw[show ys.length=fs.length from JV.len.symm,List.take_length,OL] at hu;intro D hD;have Su:=LY.trans (ai (o:=.lst us) hD);have ZO:upd Ss D (.lst us) D=some (.lst us):=ae;generalize upd Ss D _=ZP at Su ZO;refine⟨_,rfl,Nat.zero_le _,λSv ZQ=>?_⟩;have OM:=Su.trans (ai (o:=.lst []) ZQ);have Vh:=ai (o:=.lst []) ZQ _ _ ZO;have ZR:upd ZP Sv (.lst []) Sv=some (.lst []):=ae;generalize upd ZP Sv _=ZS at OM Vh ZR;refine⟨D,Sv,us,rfl,rfl,aM.of Vh,aM.of ZR,_,rfl,?_⟩
    rcases cnt with c0|⟨c1,hb,hp⟩
    ·have hn:us=[]:=List.length_eq_zero_iff.mp (hu.trans c0);rw[decide_eq_true hn];exact aZ (q _ OM)
    ·have hn:us≠[]:=λz=>by rw[z,c1] at hu;cases hu
     rw[decide_eq_false hn];refine aS ⟨_,rfl,D,us,rfl,.inl (aM.of Vh),rfl,_,rfl,?_⟩;rw[decide_eq_true (by rw[hu,c1];rfl:V.int (us.length:Int)=V.int 1)];refine aZ ⟨_,rfl,Nat.zero_le _,λSw e25=>?_⟩;have LZ:=OM.trans (ai (o:=.lst []) e25);have ZT:upd ZS Sw (.lst []) Sw=some (.lst []):=ae;generalize upd ZS Sw _=H25 at LZ ZT;refine⟨B',Sw,_,rfl,rfl,aM.of (LZ _ _ g4),aM.of ZT,_,rfl,?_⟩;rw[decide_eq_true (by rw[hb];rfl:bs.map V.ref=[])];refine aZ ⟨_,rfl,HL,HZ,_,rfl,LZ _ _ g2,rfl,HL,HZ,p,rfl,LZ _ _ g2,rfl,?_⟩;rw[decide_eq_true (by rw[hp]:V.int p=V.int 0)];exact q _ LZ
end K16
namespace L2
open PySem PySem.Spec PyProof.Rows PySem.W
section
variable {X:Cx}{CX:GC}{k:Nat}{f C:Addr}{fd:GF}{ps ks:xQ}{sp:Sp}{E:XK}{x:Str}{p pos:Pos}{e:Expr}{es:Bl}{JG:List Keyword}{t tk:TA}{g:List Value->List Value->List Value}{gV:List V->List V->List V}
noncomputable def Ad (C:Addr)(sp:Sp)(gV:List V->List V->List V)(E:XK)(t tk:TA):TE:=λσ H Q=>t σ H λvs H0=>tk σ H0 λzs H1=>∀x dx,H1 x=none->H1 dx=none->dx≠x →
 sp (gV (.ref x::vs) zs) (upd (upd H1 dx (.own x)) x (.ins C dx [])) (λv H2=>v=.non/\Q (.ref x) H2) E
theorem uZ (M:Mk X.K C f)(F:Cy X.prog X.w X.K X.mg X.base CX k f fd ps sp)(hr:pL (k+1) X.A)(hg:Gl X x)(hm:X.mg x=some (.ref C))(hb:wF X.K fd ps ks g gV)(hx:cD CX X E)(ha:PA X (e::es) t)(hkw:PK X JG tk)
 (Ja:(backToKw pos (keywordEach JG X.env)).all (·.1.isSome)=true:=by rfl)(K7:(backToKw pos (keywordEach JG X.env)).filterMap (·.1)=ks:=by rfl)(IQ:(x==("__debug__":Str))=false:=by decide)
 (Ij:starEach (e::es) X.env=(false,eval e X.env):: starEach es X.env:=by rfl)
 (Ib:((backTo pos (starEach (e::es) X.env)).any (·.1) || (backToKw pos (keywordEach JG X.env)).any (·.1.isNone))=false:=by rfl):PE X (.Call (.Name x p) (e::es) JG pos) (Ad C sp gV E t tk):=by
 intro pins s σ H Q I h;refine wpAny_Call_Name_kw (dE I hg hm ?_ IQ);refine callWith_KW (first:=[]) (h₀:=X.base) I.ok.mod.kin M.kp Ja (bA (ha pos pins s σ H _ I h) λus s0 z'=>?_) Ib Ij;obtain⟨vs,H0,I0,r,q0⟩:=z';refine bA (hkw pos pins s0 σ H0 _ I0 q0) λws s1 ⟨zs,H1,I1,rz,q⟩=>⟨I1.kIn,?_⟩;rw[K7];have hq:=q (s1.heap.objs.size+1) s1.heap.objs.size (I1.hok.fresh (Nat.le_succ _)) (I1.hok.fresh (Nat.le_refl _)) (Nat.ne_of_lt (Nat.lt_succ_self _));have I2:=Inv.made (C:=C) I1;have r2:aK (gV (V.ref (s1.heap.objs.size+1):: vs) zs) (g (Value.ref (s1.heap.objs.size+1):: us) ws):=hb.rel (.cons rfl r) rz
 have hl:(g (Value.ref (s1.heap.objs.size+1):: us) ws).length=ps.length:=by rw[<-r2.length];exact F.len _ _ _ _ hq
 refine wpAny_call (kn (f:=f) I1.kIn M.makes M.init (beq_iff_eq.mp M.fn) (codeAny_mono (F.run _ X.stack _ _ ⟨Value.ref (s1.heap.objs.size+1):: us,ks.zip ws⟩ _ _ _ E (hr.make C us (ks.zip ws))
  (I2.aby.make C us (ks.zip ws)) (hb.to _ (Value.ref (s1.heap.objs.size+1):: us) ws I2.kIn hl) r2 hq) λr s' IS=>?_))
 cases r with
 |error e=>exact hx pins σ _ _ e s' I2 IS
 |ok fl =>
  cases fl with
  |ret u =>
   obtain⟨v,H',I3,rv,ev,q3⟩:=I2.after IS;subst ev;exact⟨rv,⟨V.ref (s1.heap.objs.size+1),H',I3,rfl,q3⟩⟩
  |next=>exact False.elim IS
  |brk=>exact False.elim IS
  |cont=>exact False.elim IS
end
end L2
namespace K16
open PySem L2 PySem.W Nm Srt
noncomputable abbrev Gx:Stmt:=(aY 55)
theorem uW:uQ ["_law_field","_law_many","_law_lows","_law_highs","_law_things","_law_handed","_law_one","_law_row","_law_other"] BF (ar Gx):=dI (by decide +kernel)
noncomputable def C3 (us ws:oH):List Value:=if us.length=3/\ws.length=2 then us++ws else []
noncomputable def EX (us ws:List V):List V:=if us.length=3/\ws.length=2 then us++ws else []
theorem Am {vs:List V}{us:oH}{zs:List V}{ws:oH}(h:aK vs us)(g:aK zs ws):aK (EX vs zs) (C3 us ws):=by
 unfold C3 EX;rw[h.length,g.length]
 by_cases c:us.length=3/\ws.length=2
 ·rw[if_pos c,if_pos c];exact h.append g
 ·rw[if_neg c,if_neg c];exact .nil
theorem AB {us ws:oH}(h:(C3 us ws).length=5):∃a b c d e,us=[a,b,c]/\ws=[d,e]:=by
 unfold C3 at h
 by_cases c:us.length=3/\ws.length=2
 ·obtain⟨h1,h2⟩:=c;obtain⟨a,us,rfl⟩:=List.exists_cons_of_length_eq_add_one h1;obtain⟨b,us,rfl⟩:=List.exists_cons_of_length_eq_add_one (Nat.succ.inj h1);obtain⟨c,us,rfl⟩:=List.exists_cons_of_length_eq_add_one (Nat.succ.inj (Nat.succ.inj h1));obtain⟨d,ws,rfl⟩:=List.exists_cons_of_length_eq_add_one h2;obtain⟨e,ws,rfl⟩:=List.exists_cons_of_length_eq_add_one (Nat.succ.inj h2);have e1:us=[]:=List.length_eq_zero_iff.mp (Nat.succ.inj (Nat.succ.inj (Nat.succ.inj h1)));have e2:ws=[]:=List.length_eq_zero_iff.mp (Nat.succ.inj (Nat.succ.inj h2));subst e1 e2;exact⟨_,_,_,_,_,rfl,rfl⟩
 ·rw[if_neg c] at h
  cases h
structure Gd (C CF:Addr)(H:Hp)(fl:Addr)(p n:Int)(as bs:List Addr):Prop where
 f:∃GO,H fl=some (.ins CF GO (cw p))
 fp:FP p
 n1:1<=n
 n2:n<=60
 wi:∀a∈as++bs,WX C CF p n H (.ref a) true
 l1:as.length<=100
 l2:bs.length<=100
 u:bs≠[]->p=0
variable {C CF fl:Addr}{H:Hp}{p n:Int}{as:List Addr}
theorem Gd.same {H':Hp}{bs:List Addr}(h:Gd C CF H fl p n as bs)(s:au H H'):Gd C CF H' fl p n as bs:=⟨let⟨d,e⟩:=h.f;⟨d,s _ _ e⟩,h.fp,h.n1,h.n2,λa ha=>(h.wi a ha).aac (.of s),h.l1,h.l2,h.u⟩
variable {A:Addr}
theorem Gd.tn {L B:Addr}{bs:List Addr}(h:Gd C CF H fl p n as bs)(hL:H L=some (.lst [.ref fl,.int n,.ref A,.ref B]))(hA:H A=some (.lst (as.map V.ref)))(hB:H B=some (.lst (bs.map V.ref))):Tn C CF H L fl p n as bs:=by
 obtain⟨GO,e⟩:=h.f;exact⟨⟨GO,A,B,hL,e,hA,hB⟩,h.fp,h.n1,h.n2,h.wi,h.l1,h.l2,h.u⟩
theorem Gd.rt {B:Addr}{bs:List Addr}(h:Gd C CF H fl p n as bs)(hA:H A=some (.lst (as.map V.ref)))(hB:H B=some (.lst (bs.map V.ref))):Rt C CF p n H (.ref fl) (.int n) (.ref A) (.ref B) fl as bs:=by
 obtain⟨GO,e⟩:=h.f;exact Rt.of e h.n1 h.n2 hA hB (Nat.le_trans h.l1 (by decide)) (Nat.le_trans h.l2 (by decide)) (λa ha=>h.wi a (List.mem_append_left _ ha)) (λa ha=>h.wi a (List.mem_append_right _ ha)) h.u
theorem Gd.rn (h:Gd C CF H fl p n as [])(hA:H A=some (.lst (as.map V.ref))):Rt C CF p n H (.ref fl) (.int n) (.ref A) .non fl as []:=by
 obtain⟨GO,e⟩:=h.f;exact⟨⟨GO,rfl,e⟩,rfl,h.n1,h.n2,⟨⟨A,rfl,hA⟩,Nat.le_trans h.l1 (by decide),λa ha=>h.wi a (List.mem_append_left _ ha)⟩,.inl ⟨rfl,rfl⟩⟩
theorem FH {CS CN:Addr}{Q:Hp->Prop}{E:XK}{f m x y:V}{bs:List Addr}(r:Rt C CF p n H f m x y fl as bs){s dx:Addr}(h1:H s=none)(h2:H dx=none)(ne:dx≠s)
 (q:∀H',au H H'->(∀Ik,(∀GO,H fl=some (.ins CF GO (cw p))->Ik fl=some (.ins CF GO (cw p)))->(∀b u,H b=none->H' b=some u->Ik b=some u)->yo CS CF Ik s fl p n as bs)->Q H'):
 qQ CS C CF CN [.ref s,f,m,x,y] (upd (upd H dx (.own s)) s (.ins CS dx [])) (λv H2=>v=.non/\Q H2) E:=by
 have hS:au H (upd (upd H dx (.own s)) s (.ins CS dx [])):=(ai h2).trans (ai (by rw[aq (Ne.symm ne)];exact h1));refine⟨s,dx,f,m,x,y,p,n,rfl,ae,.inl ⟨fl,as,bs,r.aac (.of hS),λH' A B k fA fB _ hs hA hB=>⟨rfl,?_⟩⟩⟩;have sH:=fH h1 h2 ne k;have fr:∀b,upd (upd H dx (.own s)) s (.ins CS dx []) b=none->H b=none:=λb e=>none_of hS e;obtain⟨GO,_,hf⟩:=r.f;refine q H' sH λIk s2 k2=>⟨⟨dx,GO,A,B,k2 _ _ h1 hs,s2 _ hf,k2 _ _ (fr _ fA) hA,k2 _ _ (fr _ fB) hB⟩,r.l.len,?_⟩
 rcases r.u with⟨_,e⟩|⟨u,_⟩
 ·rw[e];exact Nat.zero_le _
 ·exact u.len
noncomputable def Ep (C CF:Addr):Sp:=λvs H Q _=>∃(fl A B:Addr)(p n:Int)(as bs:List Addr),vs=[.ref fl,.int n,.ref A,.ref B]/\Gd C CF H fl p n as bs/\H A=some (.lst (as.map V.ref))/\H B=some (.lst (bs.map V.ref))/\∀H',au H H'->Q (.bl true) H'
variable {P:wM}{w:World}{K:PySem.W.Frag}{mg:vJ}{base:Heap}
set_option maxHeartbeats 1000000 in
theorem Ei {f fi CS CN:Addr}{fd Ju:GF}(F:E6 K "_law_right" "_law_right" Gx f fd)(cS:Fb K mg CS)(GN:mg "list"=none)
 (MY:Mk K CS fi)(FY:Cy P w K mg base (bc P w) 5 fi Ju ES (qQ CS C CF CN))(bY:L2.aI K Ju ES [])(bY1:L2.aI K Ju ES [.none])
 (bYK:wF K Ju ES ["noughts","uppers"] C3 EX)
 (yn:eV P w K mg base 1 CS "noughts" ["self"] (BW CS CF))(yu:eV P w K mg base 1 CS "uppers" ["self"] (BH CS CF))
 (te:eT P w K mg base 3 "_law_tells" zJ (DY CS C CF))(al:eT P w K mg base 8 "_law_alike" zJ (DE CS C CF)):Cy P w K mg base (bc P w) 9 f fd BF (Ep C CF):=by
 obtain⟨fYn,UQ,US,UT,UU⟩:=yn;obtain⟨fYu,UX,UY,UZ,U0⟩:=yu;obtain⟨fTe,Vi,Nr,Nt,Nu,Nv⟩:=te;obtain⟨fAl,ad6,FAl,bAl,mAl,kAl⟩:=al;refine F.okN uW (λvs H Q E h=>?_) (λGL A outer s H vs Q E hr h=>?_)
 ·obtain⟨fl,A,B,p,n,as,bs,rfl,_⟩:=h;rfl
 ·obtain⟨fl,A',B',p,n,as,bs,rfl,G,g3,g4,q⟩:=h;have Nw:pL 8 _:=hr.mono (by decide);have JC:pL 6 _:=hr.mono (by decide);have Iz:pL 3 _:=hr.mono (by decide);have GU:pL 1 _:=hr.mono (by decide)
  refine⟨_,(aj (@aO _ _ 4 _ _ _ _ uW.nd rfl (Or.inl rfl) (@az _ _ _ _ (@ah _ _ _ _ _ (pv 0) (@ah _ _ _ _ _ (pv 1) (@ah _ _ _ _ _ (pv 2) (@ah _ _ _ _ _ (pv 3) af rfl) rfl) rfl) rfl)) rfl (Or.inl rfl))
   (aj (@aO _ _ 5 _ _ _ _ uW.nd rfl (Or.inl rfl) (@az _ _ _ _ (@ah _ _ _ _ _ (a9 bO (by rfl) GN (by rfl) (@ah _ _ _ _ _ (pv 2) af rfl)) (@ah _ _ _ _ _ (a9 bO (by rfl) GN (by rfl) (@ah _ _ _ _ _ (pv 3) af rfl)) af rfl) rfl)) rfl (Or.inl rfl))
   (aj (@aO _ _ 6 _ _ _ _ uW.nd rfl (Or.inl rfl) (bz MY FY JC (by rfl) cS.mgC bY .nil ag (@ah _ _ _ _ _ (pv 0) (@ah _ _ _ _ _ (pv 1) (@ah _ _ _ _ _ (@aQ _ _ _ _ _ _ _ bu (pv 5) ak (λ_ _=>rfl)) (@ah _ _ _ _ _ (@aQ _ _ _ _ _ _ _ bu (pv 5) ak (λ_ _=>rfl)) af rfl) rfl) rfl) rfl)) rfl (Or.inl rfl))
   (aj (aV (PW.pt (dH (@aB _ _ _ _ _ _ _ _ (u6 GU) (pv 5) (@az _ _ _ _ (@ah _ _ _ _ _ (pv 2) (@ah _ _ _ _ _ (pv 3) af rfl) rfl)) (aA _)) (dt (bM (cf (ay Nr Iz (by rfl) Nu Nv Nt .nil ag (@ah _ _ _ _ _ (pv 6) (@ah _ _ _ _ _ (pv 4) af rfl) rfl))))))) (ao (aw cV)) aE)
   (aj (gh PassesOwn.never rfl (eP (@az _ _ _ _ (@ah _ _ _ _ _ (@aQ _ _ _ _ _ _ _ bu (pv 5) ak (λ_ _=>rfl)) (@ah _ _ _ _ _ (@aQ _ _ _ _ _ _ _ bu (pv 5) ak (λ_ _=>rfl)) (@ah _ _ _ _ _ (bx (pv 6) cS.cl UU US GU UT .nil ag) (@ah _ _ _ _ _ (bx (pv 6) cS.cl U0 UY GU UZ .nil ag) af rfl) rfl) rfl) rfl))) (aH (i:=7) uW.nd rfl (Or.inl rfl))
   (ao (gc (gm PySem.F.plainAttrs_list PySem.F.slot_list_append PySem.F.type_list_append dZ (pv 7) (@ah _ _ _ _ _ b7 af rfl)))))
   (aj (aV (@aB _ _ _ _ _ _ _ _ (kH GU) (pv 3) (@az _ _ _ _ af) (aA _)) (ao (gh PassesOwn.never rfl (eP (@az _ _ _ _ (@ah _ _ _ _ _ (bz MY FY JC (by rfl) cS.mgC bY1 (.cons (show aG .non .none from rfl) .nil) ag (@ah _ _ _ _ _ (pv 0) (@ah _ _ _ _ _ (pv 1) (@ah _ _ _ _ _ (pv 2) af rfl) rfl) rfl)) (@ah _ _ _ _ _ (uZ MY FY JC (by rfl) cS.mgC bYK ag (@ah _ _ _ _ _ (pv 0) (@ah _ _ _ _ _ (pv 1) af rfl) rfl) (oY (cL dW (pv 2) de de) (oY b7 ym))) af rfl) rfl))) (aH (i:=8) uW.nd rfl (Or.inl rfl))
   (ao (aV (bM (cf (ay Nr Iz (by rfl) Nu Nv Nt .nil ag (@ah _ _ _ _ _ (pv 8) (@ah _ _ _ _ _ (pv 4) af rfl) rfl)))) (ao (aw cV)) aE)))) aE)
   (ao (aw (cp (ay Nr Iz (by rfl) Nu Nv Nt .nil ag (@ah _ _ _ _ _ (pv 6) (@ah _ _ _ _ _ (pv 4) af rfl) rfl)) (dC (ay FAl Nw (by rfl) mAl kAl bAl .nil ag (@ah _ _ _ _ _ (pv 6) (@ah _ _ _ _ _ (pv 4) af rfl) rfl)))))))))))),?_⟩
  refine⟨_,rfl,_,rfl,_,rfl,_,rfl,lX,λL0 e0=>?_⟩;have s1:=ai (o:=.lst [.ref fl,.int n,.ref A',.ref B']) e0;have x1:upd H L0 (.lst [.ref fl,.int n,.ref A',.ref B']) L0=some (.lst [.ref fl,.int n,.ref A',.ref B']):=ae;generalize upd H L0 _=H1 at s1 x1;refine⟨_,rfl,A',_,rfl,.inl (aM.of (s1 _ _ g3)),λl1 e1=>⟨_,rfl,B',_,rfl,.inl (aM.of (ai e1 _ _ (s1 _ _ g4))),λl2 e2=>⟨d9,λlh eh=>?_⟩⟩⟩;have h12:au H1 (upd (upd (upd H1 l1 (.lst (as.map V.ref))) l2 (.lst (bs.map V.ref))) lh (.lst [.ref l1,.ref l2])):=((ai e1).trans (ai e2)).trans (ai eh);have Nx:upd (upd (upd H1 l1 (.lst (as.map V.ref))) l2 (.lst (bs.map V.ref))) lh (.lst [.ref l1,.ref l2]) l1=some (.lst (as.map V.ref)):=ai eh _ _ (ai e2 _ _ ae);have Ny:upd (upd (upd H1 l1 (.lst (as.map V.ref))) l2 (.lst (bs.map V.ref))) lh (.lst [.ref l1,.ref l2]) l2=some (.lst (bs.map V.ref)):=ai eh _ _ ae;have Nz:upd (upd (upd H1 l1 (.lst (as.map V.ref))) l2 (.lst (bs.map V.ref))) lh (.lst [.ref l1,.ref l2]) lh=some (.lst [.ref l1,.ref l2]):=ae;have f1:H l1=none:=none_of s1 e1;have f2:H l2=none:=none_of (s1.trans (ai e1)) e2;have f1':H1 l1=none:=e1;have f2':H1 l2=none:=none_of (ai e1) e2;generalize upd (upd (upd H1 l1 _) l2 _) lh _=H2 at h12 Nx Ny Nz;have s2:=s1.trans h12
  have n1:l1≠A':=λz=>by rw[z,g3] at f1;cases f1
  have n2:l2≠B':=λz=>by rw[z,g4] at f2;cases f2
  refine⟨_,rfl,_,rfl,_,rfl,lh,_,0,.ref l1,rfl,rfl,aM.of Nz,rfl,_,rfl,lh,_,1,.ref l2,rfl,rfl,aM.of Nz,rfl,λy0 dy a3 a4 a5=>FH ((G.same s2).rt Nx Ny) a3 a4 a5 λH3 h23 Y0=>?_⟩;have s3:=s2.trans h23;have Y3:=Y0 H3 (λ_ e=>h23 _ _ e) λ_ _ _ e=>e;refine⟨_,rfl,_,rfl,_,rfl,d9,λl3 e3=>?_⟩;have h34:=ai (o:=.lst [.ref A',.ref B']) e3;have x3:upd H3 l3 (.lst [.ref A',.ref B']) l3=some (.lst [.ref A',.ref B']):=ae;generalize upd H3 l3 _=H4 at h34 x3;have s4:=s3.trans h34;have h24:=au.trans h23 h34;refine⟨lh,l3,l1,l2,A',B',as,bs,rfl,rfl,aM.of (h24 _ _ Nz),aM.of x3,aM.of (h24 _ _ Nx),aM.of (s4 _ _ g3),aM.of (h24 _ _ Ny),aM.of (s4 _ _ g4),n1,n2,_,rfl,aS ?_⟩;obtain⟨GY,U⟩:=j9.of G.wi;have tg:∀{H':Hp},au H H'->au H1 H'->km CF H' L0 fl p n as bs:=λk k1=>((G.same k).tn (k1 _ _ x1) (k _ _ g3) (k _ _ g4)).t;refine⟨_,rfl,_,rfl,y0,fl,L0,fl,p,n,as,bs,GY,rfl,Y3.same h34,tg s4 (h12.trans h24),U.same s4,λH5 h45=>⟨_,rfl,aS ?_⟩⟩;have h25:=h24.trans h45;have s5:=s4.trans h45;have Y5:=(Y3.same h34).same h45;obtain⟨ZU,aed,A5,B5,y1,y2,y3,y4⟩:=Y5.ex;refine⟨_,rfl,lh,_,0,.ref l1,rfl,rfl,aM.of (h25 _ _ Nz),rfl,_,rfl,lh,_,1,.ref l2,rfl,rfl,aM.of (h25 _ _ Nz),rfl,_,rfl,y0,ZU,_,rfl,y1,rfl,y0,fl,p,n,as,bs,rfl,Y5,λl4 e4=>?_⟩;have h56:=ai (o:=.lst (as.map V.ref)) e4;have x4:upd H5 l4 (.lst (as.map V.ref)) l4=some (.lst (as.map V.ref)):=ae;have f4:H2 l4=none:=none_of h25 e4;generalize upd H5 l4 _=H6 at h56 x4;refine⟨_,rfl,y0,ZU,_,rfl,h56 _ _ y1,rfl,y0,fl,p,n,as,bs,rfl,Y5.same h56,λl5 e5=>?_⟩;have h67:=ai (o:=.lst (bs.map V.ref)) e5;have x5:upd H6 l5 (.lst (bs.map V.ref)) l5=some (.lst (bs.map V.ref)):=ae;have f5:H2 l5=none:=none_of (h25.trans h56) e5;generalize upd H6 l5 _=H7 at h67 x5;have h27:=(h25.trans h56).trans h67;refine⟨lX,λl6 e6=>?_⟩;have h78:=ai (o:=.lst [.ref l1,.ref l2,.ref l4,.ref l5]) e6;have x6:upd H7 l6 (.lst [.ref l1,.ref l2,.ref l4,.ref l5]) l6=some (.lst [.ref l1,.ref l2,.ref l4,.ref l5]):=ae;generalize upd H7 l6 _=H8 at h78 x6;have h28:=h27.trans h78;have s8:=s2.trans h28;have h38:au H3 H8:=((((h34.trans h45).trans h56).trans h67).trans h78)
  have Vj:∀{b:Addr},b∈[l1,l2,l4,l5]->H b=none/\H1 b=none:=λhb=>by
   rcases List.mem_cons.mp hb with rfl|hb
   ·exact⟨f1,f1'⟩
   ·rcases List.mem_cons.mp hb with rfl|hb
    ·exact⟨f2,f2'⟩
    ·rcases List.mem_cons.mp hb with rfl|hb
     ·exact⟨none_of s2 f4,none_of h12 f4⟩
     ·obtain rfl:=List.mem_singleton.mp hb;exact⟨none_of s2 f5,none_of h12 f5⟩
  have Vk:∀{b:Addr},b∈[l1,l2,l4,l5]->∃ys,H8 b=some (.lst ys)/\ys.length<=200:=λhb=>by
   have b1:(as.map V.ref).length<=200:=by rw[List.length_map];exact Nat.le_trans G.l1 (by decide)
   have b2:(bs.map V.ref).length<=200:=by rw[List.length_map];exact Nat.le_trans G.l2 (by decide)
   rcases List.mem_cons.mp hb with rfl|hb
   ·exact⟨_,h28 _ _ Nx,b1⟩
   ·rcases List.mem_cons.mp hb with rfl|hb
    ·exact⟨_,h28 _ _ Ny,b2⟩
    ·rcases List.mem_cons.mp hb with rfl|hb
     ·exact⟨_,h78 _ _ (h67 _ _ x4),b1⟩
     ·obtain rfl:=List.mem_singleton.mp hb;exact⟨_,h78 _ _ x5,b2⟩
  have n6:l6 ∉ [l1,l2,l4,l5]:=λhb=>by
   obtain⟨ys,e,_⟩:=Vk hb;rw[x6] at e
   have h7:∃u,H7 l6=some u:=by
    rcases List.mem_cons.mp hb with rfl|hb
    ·exact⟨_,h27 _ _ Nx⟩
    ·rcases List.mem_cons.mp hb with rfl|hb
     ·exact⟨_,h27 _ _ Ny⟩
     ·rcases List.mem_cons.mp hb with rfl|hb
      ·exact⟨_,h67 _ _ x4⟩
      ·obtain rfl:=List.mem_singleton.mp hb;exact⟨_,x5⟩
   obtain⟨u,hu⟩:=h7;rw[e6] at hu
   cases hu
  have own:∀{b:Addr}{u:HO},H2 b=none->H3 b=some u->b ∉ [l1,l2,l4,l5]:=λhb hu hm=>by
   rcases List.mem_cons.mp hm with rfl|hm
   ·rw[Nx] at hb;cases hb
   ·rcases List.mem_cons.mp hm with rfl|hm
    ·rw[Ny] at hb;cases hb
    ·rcases List.mem_cons.mp hm with rfl|hm
     ·rw[h45 _ _ (h34 _ _ hu)] at e4;cases e4
     ·obtain rfl:=List.mem_singleton.mp hm;rw[h56 _ _ (h45 _ _ (h34 _ _ hu))] at e5;cases e5
  generalize ZV:[l1,l2,l4,l5]=LL at *
  have Vl:H8 l6=some (.lst (LL.map V.ref)):=by rw[<-ZV];exact x6
  have Vm:LL.length=4:=by rw[<-ZV];rfl
  refine⟨l6,rfl,⟨_,aM.of Vl⟩,?_⟩;refine⟨λi m σ' H'=>m=4-i/\i<=4/\(∀b u,H8 b=some u->b∉LL->H' b=some u)/\(∀b∈LL,∃ys,H' b=some (.lst ys)/\ys.length<=200+i)/\∃o7,σ'=[some (.ref fl),some (.int n),some (.ref A'),some (.ref B'),some (.ref L0),some (.ref lh),some (.ref y0),o7,none],⟨4,by simp,by decide,λ_ _ e _=>e,λb hb=>Vk hb,none,rfl⟩,?_⟩;rintro i m σ' H' ⟨rfl,hi,kp,ls,o7,rfl⟩;have Sx:=kp _ _ Vl n6
  by_cases GV:i<4
  ·refine .inr ⟨⟨_,.ref (LL[i]'(by omega)),aM.of Sx,by simp[Vm,GV]⟩,λσ' H'=>i+1<=4/\(∀b u,H8 b=some u->b∉LL->H' b=some u)/\(∀b∈LL,∃ys,H' b=some (.lst ys)/\ys.length<=200+(i+1))/\∃o7,σ'=[some (.ref fl),some (.int n),some (.ref A'),some (.ref B'),some (.ref L0),some (.ref lh),some (.ref y0),o7,none],?_,λv Hv hv=>?_⟩
   ·rintro σ' H' ⟨h1,h2,h3,h4⟩;exact⟨4-(i+1),by omega,rfl,h1,h2,h3,h4⟩
   ·obtain⟨rfl,hv⟩:=hv;have ev:=hv _ (aM.of Sx);rw[List.getElem?_map] at ev;obtain⟨lr,er,rfl⟩:=Option.map_eq_some_iff.mp ev;have mr:=List.mem_of_getElem? er;obtain⟨ys,hy,ly⟩:=ls lr mr;refine⟨_,rfl,.inl ⟨rfl,_,aM.of hy⟩,lr,ys,.non,rfl,rfl,hy,(by rw[sizeLine_eq];omega),GV,λb u e nb=>?_,λb hb=>?_,_,rfl⟩
    ·rw[aq (show b≠lr from λz=>nb (by rw[z];exact mr))];exact kp b u e nb
    ·by_cases ZW:b=lr
     ·subst ZW;exact⟨_,ae,by rw[List.length_append,List.length_singleton];omega⟩
     ·obtain⟨zs,hz,lz⟩:=ls b hb;exact⟨zs,by rw[aq ZW];exact hz,by omega⟩
  ·have hi4:i=4:=by omega
   subst hi4;refine .inl ⟨⟨_,aM.of Sx,by rw[List.length_map,Vm];exact Nat.le_refl _⟩,?_⟩
   have sA:au H H':=λb u e=>kp b u (s8 _ _ e) λhb=>by rw[(Vj hb).1] at e;cases e
   have sB:au H1 H':=λb u e=>kp b u (h28 _ _ (h12 _ _ e)) λhb=>by rw[(Vj hb).2] at e;cases e
   have YA:yo CS CF H' y0 fl p n as bs:=Y0 H' (λGO e=>by
    obtain⟨d,ed⟩:=G.f;have e2:=s2 _ _ ed;rw[e] at e2
    cases e2
    exact sA _ _ ed) λb u e1 e2=>kp b u (h38 _ _ e2) (own e1 e2)
   clear kp ls Sx h38 Vj Vk own Vl Vm;dsimp only[vM];refine EJ (λσ Hx=>∃o7 o8,σ=[some (.ref fl),some (.int n),some (.ref A'),some (.ref B'),some (.ref L0),some (.ref lh),some (.ref y0),o7,o8]/\au H Hx/\au H1 Hx/\yo CS CF Hx y0 fl p n as bs) (λD' fin=>?_) ?_
   ·refine⟨_,rfl,Nat.zero_le _,λle ee=>?_⟩;have hE:=ai (o:=.lst []) ee;have xE:upd H' le (.lst []) le=some (.lst []):=ae;generalize upd H' le _=HE at hE xE;have sE:=sA.trans hE;refine⟨B',le,_,rfl,rfl,aM.of (sE _ _ g4),aM.of xE,_,rfl,?_⟩
    cases bs with
    |cons b bs=>exact aS (fin _ _ ⟨_,_,rfl,sE,sB.trans hE,YA.same hE⟩)
    |nil =>
     refine aZ ?_;refine⟨_,rfl,_,rfl,_,rfl,λz1 dz a3 a4 a5=>AZ ((G.same sE).rn (sE _ _ g3)) a3 a4 a5 λHF ZX Z1=>?_⟩;have sF:=sE.trans ZX;refine⟨_,rfl,_,rfl,_,rfl,A',_,rfl,aM.of (sF _ _ g3),λlc ec=>?_⟩
     have hc:fO (as.map V.ref) none none=as.map V.ref:=by
      unfold fO;simp only[HT.df,List.drop_zero,Nat.sub_zero];exact List.take_length
     rw[hc];have Sy:=ai (o:=.lst (as.map V.ref)) ec;have xG:upd HF lc (.lst (as.map V.ref)) lc=some (.lst (as.map V.ref)):=ae;generalize upd HF lc _=HG at Sy xG;have sG:=sF.trans Sy;refine λz2 dz a3 a4 a5=>AZ ((G.same sG).rn xG) a3 a4 a5 λHI Vn Z2=>?_;have sI:=sG.trans Vn;refine⟨d9,λlt et=>?_⟩;have ON:=ai (o:=.lst [.ref z1,.ref z2]) et;have xJ:upd HI lt (.lst [.ref z1,.ref z2]) lt=some (.lst [.ref z1,.ref z2]):=ae;generalize upd HI lt _=HJ at ON xJ;have sJ:=sI.trans ON;have ZY:=((ZX.trans Sy).trans Vn).trans ON
     have Zs:∀b,b=z1\/b=z2->yo CS CF HJ b fl p n as []:=λb hb=>by
      rcases hb with rfl|rfl
      ·exact Z1.same ((Sy.trans Vn).trans ON)
      ·exact Z2.same ON
     refine⟨lt,rfl,⟨_,aM.of xJ⟩,?_⟩;refine⟨λi m σ' H'=>m=2-i/\i<=2/\au HJ H'/\∃o8,σ'=[some (.ref fl),some (.int n),some (.ref A'),some (.ref B'),some (.ref L0),some (.ref lh),some (.ref y0),o7,o8],⟨2,by simp,by decide,au.refl _,none,rfl⟩,?_⟩;rintro i m σ' HK ⟨rfl,hi2,K8,o8,rfl⟩;have sK:=sJ.trans K8;have ZZ:=((sB.trans hE).trans ZY).trans K8
     by_cases GV:i<2
     ·refine .inr ⟨⟨_,[V.ref z1,V.ref z2][i],aM.of (K8 _ _ xJ),by simp[GV]⟩,λσ' H'=>i+1<=2/\au HJ H'/\∃o8,σ'=[some (.ref fl),some (.int n),some (.ref A'),some (.ref B'),some (.ref L0),some (.ref lh),some (.ref y0),o7,o8],?_,λv Hv hv=>?_⟩
      ·rintro σ' H' ⟨h1,h2,h3⟩;exact⟨2-(i+1),by omega,rfl,h1,h2,h3⟩
      ·obtain⟨rfl,hv⟩:=hv;have ev:=hv _ (aM.of (K8 _ _ xJ))
       have hz:∃b,v=.ref b/\(b=z1\/b=z2):=by
        have mv:=List.mem_of_getElem? ev
        rcases List.mem_cons.mp mv with h|h
        ·exact⟨z1,h,.inl rfl⟩
        ·exact⟨z2,List.mem_singleton.mp h,.inr rfl⟩
       obtain⟨b,rfl,hb⟩:=hz;obtain⟨GY,U⟩:=j9.of G.wi;refine⟨_,rfl,_,rfl,b,fl,L0,fl,p,n,as,[],GY,rfl,(Zs b hb).same K8,tg sK ZZ,U.same sK,λH5 h5=>⟨_,rfl,aS ?_⟩⟩;exact⟨GV,K8.trans h5,_,rfl⟩
     ·refine .inl ⟨⟨_,aM.of (K8 _ _ xJ),by show 2<=i;omega⟩,?_⟩;exact fin _ _ ⟨_,_,rfl,sK,ZZ,YA.same ((hE.trans ZY).trans K8)⟩
   ·rintro σ' H' ⟨o7,o8,rfl,sA,sB,YA⟩;obtain⟨GY,U⟩:=j9.of G.wi;refine⟨_,rfl,_,rfl,y0,fl,L0,fl,p,n,as,bs,GY,rfl,YA,tg sA sB,U.same sA,λH5 h5=>⟨_,rfl,aZ ?_⟩⟩;exact⟨_,rfl,_,rfl,y0,fl,L0,fl,p,n,as,bs,rfl,YA.same h5,(G.same (sA.trans h5)).tn (h5 _ _ (sB _ _ x1)) (h5 _ _ (sA _ _ g3)) (h5 _ _ (sA _ _ g4)),λH6 h6=>q _ ((sA.trans h5).trans h6)⟩
end K16
namespace L2
open PySem PySem.Spec PyProof.Rows PySem.W
structure At (X:Cx)(k:Nat)(g:List Code)(A:Around):Prop where
 fr:A.frames=some X.stack
 gd:A.guards=some g
 hd:A.handled=none
 dp:A.depth+3*k+5<recursionLimit
 un:A.units+16*k+200<cLine
variable {X:Cx}{k:Nat}{g:List Code}{A:Around}
theorem At.room (h:At X k g A)(hk:k<100):pL k A:=⟨h.hd,h.dp,h.un,λq=>absurd q (by omega)⟩
variable {j:Nat}
theorem At.mono (h:At X k g A)(hj:j<=k):At X j g A:=⟨h.fr,h.gd,h.hd,by have:=h.dp;omega,by have:=h.un;omega⟩
theorem At.acJ (h:At X (k+1) g A)(args:Args):At X k (.builtin "list.__repr__.loop" args::g) (A.under (.builtin "list.__repr__.loop" args)):=
 ⟨by first|exact h.fr|(simpa[Around.under,Code.envs,Code.isFrame,pushEnvs] using h.fr),guards_under_guard (isGuard_list_loop _) h.gd,by first|exact h.hd|(simpa[Around.under] using h.hd),
  by
   have e:(A.under (.builtin "list.__repr__.loop" args)).depth<=A.depth+1:=by simp[Around.under,Code.weight,Code.isCreation,Code.isGuard,Code.isCaller,Code.frames,Code.isFrame,guardIds]
   have:=h.dp
   omega,
  by
   rw[units_under_list_loop];have:=h.un
   omega⟩
theorem At.acK (h:At X (k+1) g A)(args:Args):At X k (.builtin "tuple.__repr__.under" args::g) (A.under (.builtin "tuple.__repr__.under" args)):=
 ⟨by first|exact h.fr|(simpa[Around.under,Code.envs,Code.isFrame,pushEnvs] using h.fr),guards_under_guard (isGuard_tuple_repr_under _) h.gd,by first|exact h.hd|(simpa[Around.under] using h.hd),
  by
   have e:(A.under (.builtin "tuple.__repr__.under" args)).depth<=A.depth+1:=by simp[Around.under,Code.weight,Code.isCreation,Code.isGuard,Code.isCaller,Code.frames,Code.isFrame,guardIds]
   have:=h.dp
   omega,
  by
   rw[units_under_tuple_repr_under];have:=h.un
   omega⟩
noncomputable def Rp (X:Cx)(σ:St)(k:Nat)(H₀:Hp)(as:List Addr)(u:Value)(t:Str):Prop :=
 ∀(base:Nat)(A:Around)(g:List Code)(E:wA)(pins:List (Addr×Obj))(s:GH)(H:Hp)(Q:Str->Shared->Prop),base+t.length<=sizeLine->At X k g A->(∀b∈as,Clear g b)->(∀b o,H₀ b=some o->H b=some o)->Inv X pins σ H s →
  (∀H' s',(∀b o,H b=some o->H' b=some o)->Inv X pins σ H' s'->Q t s')->wpAny (model X.prog X.w) A (pyReprUnder base u) Q E s
section
variable {X:Cx}{σ:St}{k:Nat}{H₀:Hp}{as:List Addr}
theorem Rp.of_is {u:Value}{t:Str}(h:ReprIs X.prog X.w u t):Rp X σ k H₀ as u t:=λbase A g E pins s H Q hb _ _ _ I q =>
 h base hb A E s Q λtk=>q H _ (λ_ _ e=>e) (I.tok tk)
theorem Rp.more {bs:List Addr}{u:Value}{t:Str}(h:Rp X σ k H₀ as u t)(hj:k<=j)(hs:∀b∈as,b∈bs):Rp X σ j H₀ bs u t:=λbase A g E pins s H Q hb hA hc hk I q =>
 h base A g E pins s H Q hb (hA.mono hj) (λb hb=>hc b (hs b hb)) hk I q
theorem Rp.ins {C f p dx:Addr}{fs:List (Str×V)}{fd:GF}{ps:xQ}{sp:Sp}{t:Str}(hs:findIn X.K (.ref C) "__repr__"=some (some (.ref f)))(hf:isFn X.K (.ref f)=true)(F:Cy X.prog X.w X.K X.mg X.base (bc X.prog X.w) k f fd ps sp)(hk:k<100)(hb:aI X.K fd ps [])
 (ep:H₀ p=some (.ins C dx fs))(h:∀H,(∀b o,H₀ b=some o->H b=some o)->sp [.ref p] H (λv H'=>v=.str t/\∀b o,H b=some o->H' b=some o) λ_ _ _=>False):Rp X σ k H₀ as (.ref p) t:=by
 intro base A g E pins s H Q hz hA _ HQ I q;obtain⟨mA,O,_⟩:=dD I.hok (HQ _ _ ep);obtain⟨od,J,_⟩:=O.look
 have hl:([Value.ref p]).length=ps.length:=by rw[show([Value.ref p]).length=([V.ref p]).length from rfl];exact F.len _ _ _ _ (h H HQ)
 have HY:=hb s [.ref p] I.kIn (by rw[List.append_nil];exact hl);rw[List.append_nil] at HY;have e0:=I.aby;have e1:CT X.prog X.w X.K X.mg X.base A X.stack s H:=⟨hA.fr,e0.mod,e0.bs,e0.bsz,e0.aap,e0.frf,e0.hok,e0.bare⟩
 have JL:wpAny (model X.prog X.w) A (call (.ref f) [.ref p]) (λr s'=>∃tk,r=.str t tk/\Q t s') E s:=by
  refine wpAny_call (codeAny_mono (F.run A X.stack s H ⟨[.ref p],[]⟩ [.ref p] [.ref p] _ _ (hA.room hk) e1 HY (.cons rfl .nil) (h H HQ)) λr s' hq=>?_)
  cases r with
  |error e =>
   obtain⟨_,_,_,_,_,_,_,_,_,_,hE⟩:=hq;exact hE.elim
  |ok fl =>
   cases fl with
   |ret u =>
    obtain⟨v,H',I',rv,rfl,Kd⟩:=I.after hq;obtain⟨tk,rfl⟩:=(show ∃tk,u=Value.str t tk from rv);exact⟨tk,rfl,q H' s' Kd I'⟩
   |next=>exact False.elim hq
   |brk=>exact False.elim hq
   |cont=>exact False.elim hq
 refine wpAny_pyReprUnder_ref (by omega) ?_;unfold pyReprObjUnder pyReprObjBy;refine wpAny_bind (wpAny_cRoomFor (by have:=hA.un;omega) ?_);refine wpAny_bind (wpAny_bind (J.type.here ((looks_findIn I.kIn hs).here ?_)));show wpAny _ _ (if(some (Value.ref f)).isNone=true then _ else _) _ _ _;rw[if_neg (by simp)];refine wpAny_bind ?_;simp only[callSpecialIfBoundBy?,bindSpecialIfBound?];refine wpAny_holding (wpAny_bind (wpAny_bind (wpAny_bind (J.type.here ((looks_findIn I.kIn hs).here ?_)))));refine wpAny_bind (wpAny_askSetting (wpAny_ite ?_))
 have fin:wpAny (model X.prog X.w) A (call (.ref f) ([.ref p]++[])>>=λv=>pure (some v)) (λr s'=>wpAny (model X.prog X.w) A (match r with
  |some r=>do if <-isInstance r (.type "str") then pure r else raiseError "TypeError" s!"__repr__ returned non-string (type {← typeNameOf r})"
  |none=>unsupported "repr:special-get-raises") (λv s'=>∃x u,v=.str x u/\Q x s') E s') E s:=by
  refine wpAny_bind (wpAny_mono JL (λr s' z'=>?_) λ_ _ y=>y);obtain⟨tk,er,hq⟩:=z';subst er;refine wpAny_pure ?_;exact wpAny_bind (wpAny_isInstance (T:="str") (b:=true) rfl isSubtype_str_str (wpAny_pure ⟨_,_,rfl,hq⟩))
 split
 ·exact wpAny_bind ((bind_fn I.kIn _ (beq_iff_eq.mp hf)).here (wpAny_pure (by exact fin)))
 ·exact wpAny_tryCatch (wpAny_bind ((bind_fn I.kIn _ (beq_iff_eq.mp hf)).here (wpAny_pure (by exact fin))))
end
open PySem.Builtin
variable {xs:List V}{a:Addr}{ts:xQ}
section
variable {X:Cx}{σ:St}{k:Nat}{H₀:Hp}{as:List Addr}
theorem nC:∀{ts:xQ}{us:oH},aK (ts.map V.str) us->∃done:List (Str×Tok),us=strValues done/\done.map (·.1)=ts
 |[],_,r=>by
  cases r
  exact⟨[],rfl,rfl⟩
 |t::ts,_,r=>by
  cases r with
  |cons h r =>
   obtain⟨tk,rfl⟩:=(show ∃tk,_=Value.str t tk from h);obtain⟨d,rfl,e⟩:=nC r;exact⟨(t,tk):: d,rfl,by rw[List.map_cons,e]⟩
structure vd (X:Cx)(σ:St)(k:Nat)(H₀:Hp)(as:List Addr)(xs:List V)(ts:xQ):Prop where
 len:ts.length=xs.length
 each:∀(i:Nat)(x:V)(t:Str),xs[i]?=some x->ts[i]?=some t->∀u,aG x u->Rp X σ k H₀ as u t
theorem p9 {us:oH}(h:aK xs us):∀{i:Nat}{u:Value},us[i]?=some u->∃x,xs[i]?=some x/\aG x u:=by
 induction h with
 |nil=>intro i u e;simp at e
 |cons r _ ih =>
  intro i u e
  cases i with
  |zero =>
   rw[List.getElem?_cons_zero] at e
   cases e
   exact⟨_,rfl,r⟩
  |succ i=>exact ih (by simpa using e)
theorem qC {P:Addr}{base:Nat}{R:Result->Shared->Prop}{pins:List (Addr×Obj)}{H:Hp}(hA:At X (k+1) g A)(Jv:∀b∈as,Clear g b)(Kt:a∉as)(HQ:∀b o,H₀ b=some o->H b=some o)
 (hP:H P=none)(ha:H a=some (.lst xs))(hT:vd X σ k H₀ as xs ts)(hsz:base+(listText ts).length<=sizeLine)
 (hR:∀H' s' u,(∀b o,H b=some o->H' b=some o)->Inv X pins σ H' s'->R (.ok (.ret (.str (listText ts) u))) s'):
 ∀(n i:Nat)(s:GH)(H1:Hp),xs.length-i=n->i<=xs.length->(∀b o,H b=some o->H1 b=some o)->Inv X pins σ H1 s->H1 P=some (.lst ((ts.take i).map V.str)) →
 codeAny (model X.prog X.w) A (.builtin "list.__repr__.loop" ⟨[.ref a,rawInt i,.ref P,rawInt ((base+piled (ts.take i):Nat):Int)],[]⟩) R s:=by
 have hX:(listText ts).length=(textFrom 0 "[" ts).length+1:=by
  show(textFrom 0 "[" ts++"]").length=_;rw[strLen_append];rfl
 have hL:=textFrom_len ts 0 "["
 have Vo:∀t∈ts,t.length<=sizeLine:=λt ht=>by
  have h2:=hL.2.1 t ht;omega
 have Vp:(listText ts).length<=sizeLine:=by omega
 have hp3:=piled_le_listText ts;intro n
 induction n with
 |zero =>
  intro i s H1 hk hi hs I hl
  have Z0:i=xs.length:=by omega
  obtain⟨_,its,na,rv,lv,e⟩:=I.aaP (hs _ _ ha);obtain⟨_,Z3,np,rp,_,ep⟩:=I.aaP hl;obtain⟨done,rfl,hd⟩:=nC rp;refine codeAny_builtin F.entry_list_repr_loop ?_;show wpAny _ _ («list.__repr__.loop» ⟨[.ref a,.int i 0,.ref P,.int ((base+piled (ts.take i):Nat):Int) 0],[]⟩) _ _ s;rw[repr_loop_tree];refine wpAny_bind (wpAny_listItems e rfl ?_)
  have ab1:its.toArray[(i:Int).toNat]?=none:=by simp[Z0,lv]
  simp only[ab1];unfold reprEnd;refine wpAny_bind (wpAny_listItems ep rfl ?_);rw[List.toList_toArray,repr_fold];refine wpAny_bind (wpAny_pure ?_)
  have Ja:done.map (·.1)=ts:=by rw[hd,Z0,<-hT.len,List.take_length]
  rw[Ja];refine wpAny_bind (wpAny_mkStr (wpAny_pure ?_) Vp);exact hR H1 _ _ hs (I.tok _)
 |succ n ih =>
  intro i s H1 hk hi hs I hl
  have GV:i<xs.length:=by omega
  obtain⟨_,its,na,rv,lv,e⟩:=I.aaP (hs _ _ ha)
  have hit:its.toArray[i]?=some (its[i]'(by omega)):=by simp[show i<its.length by omega]
  obtain⟨x,hx,rx⟩:=p9 rv (i:=i) (u:=its[i]'(by omega)) (by simp[show i<its.length by omega])
  have hti:i<ts.length:=by rw[hT.len];exact GV
  have ht:ts[i]?=some ts[i]:=by simp[hti]
  generalize ts[i]=t at ht;have Vq:=hT.each i x t hx ht _ rx;have hp1:=piled_take_succ ht;have RK:=piled_take_le ts (i+1);refine codeAny_builtin F.entry_list_repr_loop ?_;show wpAny _ _ («list.__repr__.loop» ⟨[.ref a,.int i 0,.ref P,.int ((base+piled (ts.take i):Nat):Int) 0],[]⟩) _ _ s;rw[repr_loop_tree];refine wpAny_bind (wpAny_listItems e rfl ?_)
  have OO:its.toArray[(i:Int).toNat]?=some (its[i]'(by omega)):=by rw[Int.toNat_natCast];exact hit
  simp only[OO];rw[Int.toNat_natCast];refine wpAny_bind (wpAny_holding (Vq (base+piled (ts.take i)+1) _ _ _ pins s H1 _ (by omega) (hA.acJ _) (λb hb=>(Jv b hb).cons (a:=a) λe=>Kt (e▸hb)) (λb o e=>hs _ _ (HQ _ _ e)) I λH2 s2 h2 I2=>?_));refine wpAny_bind (wpAny_mkStr ?_ (Vo t (List.mem_of_getElem? ht)));refine wpAny_bind ?_;show wpAny _ _ (updateSeq P _) _ _ _;have I3:=I2.tok (s2.toks+1);obtain⟨_,Z3,np,rp,lp,ep⟩:=I3.aaP (h2 _ _ hl)
  have Sz:((ts.take i).map V.str).length<=i:=by rw[List.length_map,List.length_take];omega
  have hxl:xs.length<=sizeLine:=(I.aaP (hs _ _ ha)).1;refine wpAny_updateSeq ep rfl (wpAny_pure ⟨F.quiet_list_repr_loop _,?_⟩) (by simp;omega) (by simp;omega)
  have e1:((i:Int)+1)=((i+1:Nat):Int):=by omega
  have e2:base+piled (ts.take i)+(t.length+2)=base+piled (ts.take (i+1)):=by omega
  rw[e1,e2]
  have I4:=I3.acV (t':=s2.toks+1) (ys:=((ts.take (i+1)).map V.str)) (h2 _ _ hl) ep (f:=λitems=>items.push (.str t s2.toks)) (its':=Z3++[.str t s2.toks]) (by simp) (by
   rw[List.take_add_one,ht,List.map_append]
   exact rp.append (.cons ⟨_,rfl⟩ .nil)) (by rw[List.length_map,List.length_take];omega)
  refine ih (i+1) _ _ (by omega) (by omega) (λb o e=>?_) I4 ae
  have ne:b≠P:=λz=>by rw[z,hP] at e;cases e
  rw[aq ne];exact h2 _ _ (hs _ _ e)
theorem mw:listText []=("[]":Str):=by decide
theorem pF {base:Nat}{R:Result->Shared->Prop}{pins:List (Addr×Obj)}{H:Hp}{s:GH}(hA:At X (k+1) g A)(Jv:∀b∈a::as,Clear g b)(Kt:a∉as)(HQ:∀b o,H₀ b=some o->H b=some o)
 (ha:H a=some (.lst xs))(HH:xs≠[])(hT:vd X σ k H₀ as xs ts)(hsz:base+(listText ts).length<=sizeLine)(I:Inv X pins σ H s)
 (hR:∀H' s' u,(∀b o,H b=some o->H' b=some o)->Inv X pins σ H' s'->R (.ok (.ret (.str (listText ts) u))) s'):
 wpAny (model X.prog X.w) A.in1 (Builtin.listReprAt base ⟨[.ref a],[]⟩) (λfin s'=>match fin with| .done f=>R (.ok f) s'| .again c'=>c'.quiet=true/\codeAny (model X.prog X.w) A c' R s') (λe s'=>R (.error e) s') s:=by
 obtain⟨_,its,na,rv,lv,e⟩:=I.aaP ha
 obtain⟨x,l,rfl⟩:∃x l,its=x::l:=by
  cases its with
  |nil=>exact absurd (List.length_eq_zero_iff.mp (by simpa using lv)) HH
  |cons x l=>exact⟨x,l,rfl⟩
 refine wpAny_list_repr_head (A:=A.in1) hA.gd (λv rest kw hm=>listSameRef_of_ne (Jv a (.head _) _ _ _ _ hm)) e rfl ?_;refine wpAny_bind (m:=newList []) (wpAny_newObj_type ?_);refine wpAny_pure ⟨F.quiet_list_repr_loop _,?_⟩;have hf:=I.fresh;have I1:=I.acF (ys:=[]) (its:=[]) (t':=s.toks) .nil (Nat.zero_le _);refine qC (P:=s.heap.objs.size) (H:=H) hA (λb hb=>Jv b (.tail _ hb)) Kt HQ hf ha hT hsz hR _ 0 _ _ rfl (Nat.zero_le _) (λb o q=>?_) I1 ae
 have ne:b≠s.heap.objs.size:=λz=>by rw[z,hf] at q;cases q
 rw[aq ne];exact q
theorem Rp.lst (ha:H₀ a=some (.lst xs))(Kt:a∉as)(hT:vd X σ k H₀ as xs ts):Rp X σ (k+1) H₀ (a::as) (.ref a) (listText ts):=by
 intro base A g E pins s H Q hz hA Jv HQ I q;have Jo:=HQ _ _ ha;obtain⟨_,its,na,rv,lv,e⟩:=I.aaP Jo
 have hu:A.units<cLine:=by have:=hA.un;omega
 refine wpAny_pyReprUnder_ref (by omega) ?_
 by_cases hn:xs=[]
 ·subst hn
  cases rv
  have ht:ts=[]:=List.length_eq_zero_iff.mp hT.len;subst ht;rw[mw] at *;exact wpAny_pyReprObjUnder_list_empty ⟨_,e,rfl⟩ hu e rfl ⟨_,_,rfl,q H _ (λ_ _ x=>x) (I.tok _)⟩
 ·refine wpAny_pyReprObjUnder_twin (twin:="list.__repr__.under") ⟨_,e,rfl⟩ F.slot_list_repr.toG rfl hu ?_
  exact call_twin_plain F.plain_list_repr_under F.entry_list_repr_under F.check_list_repr_under ⟨_,e,rfl⟩ F.slot_list_repr.toG (F.args_list_repr_1 _)
   (pF (R:=callEnd _ E) hA Jv Kt HQ Jo hn hT hz I λH' s' u hs I'=>⟨⟨_,_,rfl⟩,_,_,rfl,q H' s' hs I'⟩)
theorem vW {E:wA}{pins:List (Addr×Obj)}(hA:At X k g A)(Jv:∀b∈as,Clear g b):∀(us:oH)(ts:xQ)(acc:Array Str)(n:Nat)(s:GH)(H:Hp)(Q:(Array Str×Nat)->Shared->Prop),
 ts.length=us.length->(∀(i:Nat)(u:Value)(t:Str),us[i]?=some u->ts[i]?=some t->Rp X σ k H₀ as u t)->n+piled ts<=sizeLine->(∀b o,H₀ b=some o->H b=some o)->Inv X pins σ H s →
 (∀H' s',(∀b o,H b=some o->H' b=some o)->Inv X pins σ H' s'->Q ⟨acc++ts.toArray,n+piled ts⟩ s') →
 wpAny (model X.prog X.w) A (forIn us (⟨acc,n⟩:(Array Str×Nat)) tupBody) Q E s:=by
 intro us
 induction us with
 |nil =>
  intro ts acc n s H Q hl hT _ _ I h;have ht:ts=[]:=List.length_eq_zero_iff.mp hl;subst ht;have h0:=h H s (λ_ _ e=>e) I;simp only[List.forIn_nil];exact wpAny_pure (by simpa[piled] using h0)
 |cons x l ih =>
  intro ts acc n s H Q hl hT hn HQ I h
  cases ts with
  |nil=>cases hl
  |cons t Vr =>
   rw[piled_cons] at hn;rw[List.forIn_cons];have hx:=hT 0 x t rfl rfl;refine wpAny_bind (wpAny_bind (hx (n+1) _ _ _ pins s H _ (by omega) hA Jv HQ I λH1 s1 h1 I1=>wpAny_pure ?_));refine ih Vr (acc.push t) (n+(t.length+2)) _ H1 Q (by simpa using hl) (λi u t hu ht=>hT (i+1) u t (by simpa using hu) (by simpa using ht)) (by omega) (λb o e=>h1 _ _ (HQ _ _ e)) I1 λH2 s2 h2 I2=>?_;have h3:=h H2 s2 (λb o e=>h2 _ _ (h1 _ _ e)) I2
   have e:n+piled (t::Vr)=n+(t.length+2)+piled Vr:=by rw[piled_cons];omega
   rw[e] at h3;simpa using h3
theorem Rp.tup (ha:H₀ a=some (.tup xs))(Kt:a∉as)(hT:vd X σ k H₀ as xs ts):Rp X σ (k+1) H₀ (a::as) (.ref a) (tupleText ts):=by
 intro base A g E pins s H Q hz hA Jv HQ I q;have Jo:=HQ _ _ ha;obtain⟨its,rv,⟨o,e,hc,n,hd⟩,_⟩:=I.tuple (bX.of Jo)
 have hu:A.units<cLine:=by have:=hA.un;omega
 have hca:Clear g a:=Jv a (.head _)
 have hlen:ts.length=its.length:=by rw[hT.len];exact rv.length
 have hp:=piled_le_tupleText ts;refine wpAny_pyReprUnder_ref (by omega) ?_;refine wpAny_pyReprObjUnder_twin (twin:="tuple.__repr__.under") ⟨_,e,hc⟩ F.slot_tuple_repr rfl hu ?_;refine call_twin_own (F.quiet_tuple_repr_under _) F.entry_tuple_repr_under F.check_tuple_repr_under ⟨_,e,hc⟩ F.slot_tuple_repr (F.args_tuple_repr_1 _) ?_;rw[tuple_repr_tree,tupleReprUnderWay_eq];refine wpOwn_bind (wpOwn_stackTailAny hA.gd (tupGuardF_off _) (tupGuardF_pos _) ?_)
 have hn:(g.any λc=>tupGuardF (.ref a) (c,default))=false:=by
  rw[List.any_eq_false];intro c hcm;rw[tupGuardF_of_clear hca c hcm];exact Bool.false_ne_true
 rw[hn];refine wpOwn_of_wpAny ?_;show wpAny _ _ (tupleReprRest base (.ref a)) _ _ s;unfold tupleReprRest Builtin.Tuple.tupleItemsOf;refine wpAny_bind (wpAny_bind (wpAny_seqItems e hd (wpAny_pure ?_)));rw[<-Array.forIn_toList];refine wpAny_bind (vW (pins:=pins) (hA.acK _) (λb hb=>(Jv b (.tail _ hb)).cons (a:=a) λe=>Kt (e▸hb)) _ ts _ _ _ H _ (by simpa using hlen) (λi u t hu ht=>?_) (by omega) HQ I λH1 s1 h1 I1=>?_)
 ·obtain⟨x,hx,rx⟩:=p9 rv (by simpa using hu);exact hT.each i x t hx ht u rx
 ·have RS:(tupleText ts).length<=sizeLine:=by omega
  refine wpAny_bind (wpAny_mkStr (wpAny_pure ?_) (by simpa[tupleText,hlen] using RS));have h3:=q H1 _ h1 (I1.tok (s1.toks+1));exact⟨⟨_,_,rfl⟩,_,_,rfl,by simpa[tupleText,hlen] using h3⟩
theorem Rp.dic (ha:H₀ a=some (.dK [])):Rp X σ 1 H₀ [a] (.ref a) "{}":=by
 intro base A g E pins s H Q hz hA Jv HQ I q;have Jo:=HQ _ _ ha;obtain⟨_,HH,vs,kv,⟨o,es,ep,e,hx,hdt,_,pr,_⟩⟩:=Bh I.hok Jo
 have hv:vs=[]:=by cases kv;rfl
 subst hv
 have hes:es.toList=[]:=by
  cases hq:es.toList with
  |nil=>rfl
  |cons x l=>rw[hq] at pr;cases pr
 have kk:ReprK X.prog X.w [a] s.heap 1 (.ref a) (dictText []):=ReprK.dict (as:=[]) (d:=0) (ps:=[]) e hx.1 hdt HH (by simp) (by rw[hes];exact .nil)
 have et:dictText []=("{}":Str):=by decide
 rw[et] at kk;exact kk base hz A g E s Q hA.gd Jv (by have:=hA.un;omega) (λ_ _ e=>e) λh' tk hk=>q H _ (λ_ _ e=>e) (I.kept (t':=tk) hk)
theorem k7 (hr:pL j X.A)(hj:100<=j)(hk:k+2<=j):cb X (.builtin "repr") (λxs H Q=>∃a ys ts as,xs=[.ref a]/\H a=some (.lst ys)/\ys≠[]/\a∉as/\(∀σ,vd X σ k H as ys ts)/\(listText ts).length<=sizeLine/\∀H',(∀b o,H b=some o->H' b=some o)->Q (.str (listText ts)) H'):=by
 intro pins s σ H vs us Q I r h;obtain⟨a,ys,ts,as,rfl,ha,hn,Kt,hT,hz,q⟩:=h;obtain⟨u,rfl,ru⟩:=dS r
 cases(show u=Value.ref a from ru)
 obtain⟨_,its,na,rv,lv,e⟩:=I.aaP ha;have hA:At X (k+1) [] X.A.in1:=⟨I.aby.in1.frames,(hr.gd hj:X.A.guards=some []),hr.hd,by have:=hr.dp;show X.A.depth+_+5<_;omega,by have:=hr.un;show X.A.units+1+_+200<_;omega⟩;refine call_repr_slot (by have:=hr.un;omega) ⟨_,e,rfl⟩ F.slot_list_repr.toG ?_
 refine wpAny_call (codeAny_call_builtin F.slot_list_repr.plain F.entry_list_repr (F.slot_list_repr.check _ _ _ _ _ _ _ _ ⟨_,e,rfl⟩ (F.args_list_repr_1 _)
  (pF (base:=0) (R:=callEnd _ X.xe) hA (λb _=>Clear.nil b) Kt (λ_ _ e=>e) ha hn (hT σ) (by omega) I λH' s' u hs I'=>?_)))
 exact⟨_,_,rfl,.str (listText ts),H',I',⟨_,rfl⟩,q H' hs⟩
end
end L2
namespace K16
open PySem L2 PySem.W Nm Srt
variable {H:Hp}
theorem bt {r:Addr}:au (del H r) H:=λb u e=>by
 by_cases h:b=r
 ·subst h;rw[eE] at e
  cases e
 ·rw[dw h] at e;exact e
variable {H':Hp}{r:Addr}
theorem jI (s:SameBut r H H'):au (del H r) (del H' r):=λb u e=>by
 by_cases h:b=r
 ·subst h;rw[eE] at e
  cases e
 ·rw[dw h] at e |-;exact s b u e h
variable {u:HO}
theorem bw {b:Addr}(e:H b=some u)(h:b≠r):del H r b=some u:=by rw[dw h];exact e
theorem aN.ne {b:Addr}(R:aN H r)(e:H b=some u)(h:∀i j,u≠.lst [.int i,.int j]):b≠r:=λz=>by
 obtain⟨i,j,er,_⟩:=R;rw[z,er] at e
 cases e
 exact h _ _ rfl
theorem aN.same (R:aN H r)(s:au H H'):aN H' r:=by
 obtain⟨i,j,er,z⟩:=R;exact⟨i,j,s _ _ er,z⟩
variable {as:List Addr}
theorem uF {i j:Int}:HO.lst (as.map V.ref)≠.lst [.int i,.int j]:=λz=>by
 injection z with z
 cases as with
 |nil=>cases z
 |cons a as=>cases z
variable {C CF:Addr}{p:Int}{ts:List Tm}
theorem SW.del {s:Addr}(h:SW C CF H s p ts)(R:aN H r):SW C CF (del H r) s p ts:=by
 obtain⟨dx,fl,GO,D,zs,h1,h2,h3,h4⟩:=h.r.ex;have kt:bh H (L2.del H r):=λb xs e=>bw e (R.ne e λ_ _ z=>by cases z);refine⟨⟨dx,fl,GO,D,zs,bw h1 (R.ne h1 λ_ _ z=>by cases z),bw h2 (R.ne h2 λ_ _ z=>by cases z),bw h3 (R.ne h3 λi j z=>?_),cz.keep h4 kt⟩,h.fp,h.few,h.wr,h.pl⟩
 injection z with z
 subst z
 cases h4 with
 |cons hd _ =>
  obtain⟨a,pr,nu,e,_⟩:=hd
  cases e
inductive C0 (C CF:Addr)(H:Hp):V->Str->Prop where
 |sum {s:Addr}{p:Int}{ts:List Tm}:SW C CF H s p ts->C0 C CF H (.ref s) (rT p ts)
 |non:C0 C CF H .non "None"
 |int {i:Int}:i.natAbs.log2<1920->C0 C CF H (.int i) (toString i)
 |unit {t:Addr}:H t=some (.tup [])->C0 C CF H (.ref t) (tupleText [])
 |term {l t a b:Addr}:H l=some (.lst [.ref t])->H t=some (.tup [.ref a,.ref b])->H a=some (.tup [])->H b=some (.tup [.int 1,.int 1])->C0 C CF H (.ref l) (listText [tupleText [tupleText [],tupleText [toString (1:Int),toString (1:Int)]]])
inductive BG (C CF:Addr)(H:Hp):V->Str->Prop where
 |non:BG C CF H .non "None"
 |int {i:Int}:i.natAbs.log2<1920->BG C CF H (.int i) (toString i)
 |dic {d:Addr}:H d=some (.dK [])->BG C CF H (.ref d) "{}"
 |lst {l:Addr}{ys:List V}{ts:xQ}:H l=some (.lst ys)->ts.length=ys.length->(∀(i:Nat) y t,ys[i]?=some y->ts[i]?=some t->C0 C CF H y t)->(listText ts).length<=8000000->BG C CF H (.ref l) (listText ts)
 |tup {l:Addr}{ys:List V}{ts:xQ}:H l=some (.tup ys)->ts.length=ys.length->(∀(i:Nat) y t,ys[i]?=some y->ts[i]?=some t->∃s p us,y=.ref s/\SW C CF H s p us/\t=rT p us)->(tupleText ts).length<=8000000->BG C CF H (.ref l) (tupleText ts)
variable {x:V}
theorem C0.same {t:Str}(h:C0 C CF H x t)(s:au H H'):C0 C CF H' x t:=by
 cases h with
 |sum a=>exact .sum (a.aac (.of s))
 |non=>exact .non
 |int a=>exact .int a
 |unit a=>exact .unit (s _ _ a)
 |term a b c d=>exact .term (s _ _ a) (s _ _ b) (s _ _ c) (s _ _ d)
theorem BG.same {t:Str}(h:BG C CF H x t)(s:au H H'):BG C CF H' x t:=by
 cases h with
 |non=>exact .non
 |int a=>exact .int a
 |dic a=>exact .dic (s _ _ a)
 |lst a b c d=>exact .lst (s _ _ a) b (λi y t hy ht=>(c i y t hy ht).same s) d
 |tup a b c d=>exact .tup (s _ _ a) b (λi y t hy ht=>let⟨s',p,us,e,w,z⟩:=c i y t hy ht;⟨s',p,us,e,w.aac (.of s),z⟩) d
section
variable {X:Cx}{σ:L2.St}{k:Nat}{H:Hp}{C CF:Addr}
theorem Rp.mono {H₁:Hp}{u:Value}{t:Str}(h:Rp X σ k H as u t)(s:au H H₁):Rp X σ k H₁ as u t:=λbase A g E pins s' H' Q hb hA hc hk I q=>h base A g E pins s' H' Q hb hA hc (λb o e=>hk _ _ (s _ _ e)) I q
theorem xV {s:Addr}(R:eY X.prog X.w X.K X.mg X.base 8 C "__repr__" ["self"] (fV C CF))(h:SW C CF H s p ts):Rp X σ 8 H [] (.ref s) (rT p ts):=by
 obtain⟨f,fd,F,b,nR,iR⟩:=R;obtain⟨dx,fl,GO,D,zs,h1,h2,h3,h4⟩:=h.r.ex;exact Rp.ins nR iR F (by decide) b h1 λH' hs=>⟨s,p,ts,rfl,h.fp,(h.aac (.of hs)).r,h.few,h.wr,λH2 s2=>⟨rfl,s2⟩⟩
theorem oP {i:Int}(h:i.natAbs.log2<1920){u:Value}(r:aG (.int i) u):Rp X σ k H as u (toString i):=by
 obtain⟨t,rfl⟩:=(show ∃t,u=Value.int i t from r);exact .of_is (.int t h)
theorem wW {u:Value}(r:aG .non u):Rp X σ k H as u "None":=by
 cases(show u=Value.none from r)
 exact .of_is .none
theorem Gz {t:Str}(h:C0 C CF H x t):∃as,(∀l ys,H l=some (.lst ys)->x∈ys->l∉as)/\(∀b∈as,H b≠none)/\∀(X:Cx)(_:eY X.prog X.w X.K X.mg X.base 8 C "__repr__" ["self"] (fV C CF))(σ:L2.St) u,aG x u->Rp X σ 12 H as u t:=by
 cases h with
 |sum s=>exact⟨[],λ_ _ _ _ z=>(nomatch z),λ_ z=>(nomatch z),λX R σ u r=>by cases(show u=_ from r);exact(xV R s).more (by decide) λ_ z=>z⟩
 |non=>exact⟨[],λ_ _ _ _ z=>(nomatch z),λ_ z=>(nomatch z),λX R σ u r=>wW r⟩
 |int a=>exact⟨[],λ_ _ _ _ z=>(nomatch z),λ_ z=>(nomatch z),λX R σ u r=>oP a r⟩
 |@unit t a =>
  refine⟨[t],λl ys e _ z=>?_,λb hb=>?_,λX R σ u r=>?_⟩
  ·rw[List.mem_singleton.mp z,a] at e
   cases e
  ·rw[List.mem_singleton.mp hb,a]
   exact λz=>by cases z
  ·cases(show u=_ from r)
   exact(Rp.tup (k:=0) a (by simp) ⟨rfl,λi x t e=>by simp at e⟩).more (by decide) λ_ z=>z
 |@term l t a b hl ht ha hb =>
  refine⟨[l,t,a,b],λl' ys e m z=>?_,λc hc=>?_,λX R σ u r=>?_⟩
  ·rcases List.mem_cons.mp z with rfl|z
   ·rw[hl] at e
    cases e
    have:l'=t:=by injection List.mem_singleton.mp m
    subst this;rw[hl] at ht
    cases ht
   ·rcases List.mem_cons.mp z with rfl|z
    ·rw[ht] at e;cases e
    ·rcases List.mem_cons.mp z with rfl|z
     ·rw[ha] at e;cases e
     ·rw[List.mem_singleton.mp z,hb] at e;cases e
  ·rcases List.mem_cons.mp hc with rfl|hc
   ·rw[hl];exact λz=>by cases z
   ·rcases List.mem_cons.mp hc with rfl|hc
    ·rw[ht];exact λz=>by cases z
    ·rcases List.mem_cons.mp hc with rfl|hc
     ·rw[ha];exact λz=>by cases z
     ·rw[List.mem_singleton.mp hc,hb];exact λz=>by cases z
  ·cases(show u=_ from r)
   have nta:t≠a:=λz=>by rw[z,ha] at ht;cases ht
   have ntb:t≠b:=λz=>by rw[z,hb] at ht;injection ht with ht;injection ht with ht;cases ht
   have nlt:l≠t:=λz=>by rw[z,ht] at hl;cases hl
   have nla:l≠a:=λz=>by rw[z,ha] at hl;cases hl
   have nlb:l≠b:=λz=>by rw[z,hb] at hl;cases hl
   have ra:∀{as:List Addr},a∈as->∀u,aG (.ref a) u->Rp X σ 1 H as u (tupleText []):=λm u r=>by
    cases(show u=_ from r)
    exact(Rp.tup (k:=0) (as:=[]) ha (by simp) ⟨rfl,λi x t e=>by simp at e⟩).more (by decide) λc hc=>by rw[List.mem_singleton.mp hc];exact m
   have rb:∀{as:List Addr},b∈as->∀u,aG (.ref b) u->Rp X σ 1 H as u (tupleText [toString (1:Int),toString (1:Int)]):=λm u r=>by
    cases(show u=_ from r)
    refine(Rp.tup (k:=0) (as:=[]) hb (by simp) ⟨rfl,λi x t e et u r=>?_⟩).more (by decide) λc hc=>by rw[List.mem_singleton.mp hc];exact m
    match i with
    |0 =>
     cases e
     cases et
     exact oP (by decide) r
    |1 =>
     cases e
     cases et
     exact oP (by decide) r
    |i+2=>simp at e
   have rt:∀u,aG (.ref t) u->Rp X σ 2 H [t,a,b] u (tupleText [tupleText [],tupleText [toString (1:Int),toString (1:Int)]]):=λu r=>by
    cases(show u=_ from r)
    refine Rp.tup (k:=1) (as:=[a,b]) ht (by simp[nta,ntb]) ⟨rfl,λi x t e et u r=>?_⟩
    match i with
    |0 =>
     cases e
     cases et
     exact ra (by simp) u r
    |1 =>
     cases e
     cases et
     exact rb (by simp) u r
    |i+2=>simp at e
   refine(Rp.lst (k:=2) (as:=[t,a,b]) hl (by simp[nlt,nla,nlb]) ⟨rfl,λi x t e et u r=>?_⟩).more (by decide) λ_ z=>z
   match i with
   |0 =>
    cases e
    cases et
    exact rt u r
   |i+1=>simp at e
theorem DS:∀{ys:List V}{ts:xQ},ts.length=ys.length->(∀(i:Nat) y t,ys[i]?=some y->ts[i]?=some t->C0 C CF H y t) →
 ∃as,(∀l zs,H l=some (.lst zs)->(∀y∈ys,y∈zs)->l∉as)/\(∀b∈as,H b≠none)/\∀(X:Cx)(_:eY X.prog X.w X.K X.mg X.base 8 C "__repr__" ["self"] (fV C CF))(σ:L2.St),vd X σ 12 H as ys ts
 |[],ts,e,_=>⟨[],λ_ _ _ _ z=>(nomatch z),λ_ z=>(nomatch z),λX R σ=>⟨e,λi x t ex=>by simp at ex⟩⟩
 |y::ys,[],e,_=>by cases e
 |y::ys,t::ts,e,h=>by
  obtain⟨as,a1,a2,a3⟩:=DS (ys:=ys) (ts:=ts) (by simpa using e) λi y t hy ht=>h (i+1) y t (by simpa using hy) (by simpa using ht);obtain⟨bs,b1,b2,b3⟩:=Gz (h 0 y t rfl rfl);refine⟨bs++as,λl zs el hz m=>?_,λb m=>?_,λX R σ=>⟨e,λi x t' ex et u r=>?_⟩⟩
  ·rcases List.mem_append.mp m with m|m
   ·exact b1 l zs el (hz y (.head _)) m
   ·exact a1 l zs el (λy hy=>hz y (.tail _ hy)) m
  ·rcases List.mem_append.mp m with m|m
   ·exact b2 b m
   ·exact a2 b m
  ·cases i with
   |zero =>
    cases ex
    cases et
    exact(b3 X R σ u r).more (Nat.le_refl _) λ_ m=>List.mem_append_left _ m
   |succ i=>exact((a3 X R σ).each i x t' (by simpa using ex) (by simpa using et) u r).more (Nat.le_refl _) λ_ m=>List.mem_append_right _ m
theorem F9 {t:Str}(h:BG C CF H x t):∃as,(∀b∈as,H b≠none)/\∀(X:Cx)(_:eY X.prog X.w X.K X.mg X.base 8 C "__repr__" ["self"] (fV C CF))(σ:L2.St) u,aG x u->Rp X σ 13 H as u t:=by
 cases h with
 |non=>exact⟨[],λ_ z=>(nomatch z),λX R σ u r=>wW r⟩
 |int a=>exact⟨[],λ_ z=>(nomatch z),λX R σ u r=>oP a r⟩
 |@dic d a =>
  refine⟨[d],λb hb=>?_,λX R σ u r=>?_⟩
  ·rw[List.mem_singleton.mp hb,a]
   exact λz=>by cases z
  ·cases(show u=_ from r)
   exact(Rp.dic a).more (by decide) λ_ z=>z
 |@lst l ys ts hl e h _ =>
  obtain⟨as,a1,a2,a3⟩:=DS e h;refine⟨l::as,λb hb=>?_,λX R σ u r=>?_⟩
  ·rcases List.mem_cons.mp hb with rfl|hb
   ·rw[hl]
    exact λz=>by cases z
   ·exact a2 b hb
  ·cases(show u=_ from r)
   exact Rp.lst hl (a1 l ys hl λ_ hy=>hy) (a3 X R σ)
 |@tup l ys ts hl e h _ =>
  refine⟨[l],λb hb=>?_,λX R σ u r=>?_⟩
  ·rw[List.mem_singleton.mp hb,hl]
   exact λz=>by cases z
  ·cases(show u=_ from r)
   refine(Rp.tup (k:=8) (as:=[]) hl (by simp) ⟨e,λi x t ex et u r=>?_⟩).more (by decide) λ_ z=>z;obtain⟨s,p,us,rfl,sw,rfl⟩:=h i x t ex et
   cases(show u=_ from r)
   exact xV R sw
theorem BG.len {t:Str}(h:BG C CF H x t):t.length<=8000000:=by
 cases h with
 |non=>decide
 |int a=>exact Nat.le_trans (PyProof.Rows.int_text_len_1921 a) (by decide)
 |dic a=>decide
 |lst _ _ _ l=>exact l
 |tup _ _ _ l=>exact l
theorem xM {y:V}{t u:Str}{T:Addr}(hx:BG C CF H x t)(hy:BG C CF H y u)(hT:H T=none):
 ∃as,T∉as/\(∀(X:Cx)(_:eY X.prog X.w X.K X.mg X.base 8 C "__repr__" ["self"] (fV C CF))(σ:L2.St),vd X σ 13 (upd H T (.lst [x,y])) as [x,y] [t,u])/\(listText [t,u]).length<=sizeLine:=by
 obtain⟨as,a1,a2⟩:=F9 hx;obtain⟨bs,b1,b2⟩:=F9 hy;refine⟨as++bs,λm=>?_,λX R σ=>⟨rfl,λi z v ez ev w r=>?_⟩,?_⟩
 ·rcases List.mem_append.mp m with m|m
  ·exact a1 _ m hT
  ·exact b1 _ m hT
 ·match i with
  |0 =>
   cases ez
   cases ev
   exact Rp.mono ((a2 X R σ w r).more (Nat.le_refl _) λ_ m=>List.mem_append_left _ m) (ai hT)
  |1 =>
   cases ez
   cases ev
   exact Rp.mono ((b2 X R σ w r).more (Nat.le_refl _) λ_ m=>List.mem_append_right _ m) (ai hT)
  |i+2=>simp at ez
 ·have h1:=hx.len;have h2:=hy.len
  have e:(listText [t,u]).length=t.length+u.length+4:=by
   show(((("[":Str)++("":Str)++t)++(", ":Str)++u)++("]":Str)).length=_;simp only[Str.length_append]
   have z1:(("[":String):Str).length=1:=by decide
   have z2:(("":String):Str).length=0:=by decide
   have z3:((", ":String):Str).length=2:=by decide
   have z4:(("]":String):Str).length=1:=by decide
   omega
  rw[e,sizeLine_eq];omega
end
theorem jB:∀(ts:xQ)(k:Nat)(acc:Str),(textFrom k acc ts).length<=acc.length+(ts.map λt=>t.length+2).sum
 |[],k,acc=>by simp[textFrom]
 |t::ts,k,acc=>by
  unfold textFrom;have h:=jB ts (k+1) (acc++(if k>0 then ", " else "":String)++t)
  have e:(acc++((if k>0 then ", " else "":String):Str)++t).length<=acc.length+2+t.length:=by
   rw[Str.length_append,Str.length_append]
   have:(((if k>0 then ", " else "":String):Str)).length<=2:=by
    split
    ·decide
    ·decide
   omega
  simp only[List.map_cons,List.sum_cons];omega
theorem uy:∀(ts:xQ),(Str.join ", " ts).length<=(ts.map λt=>t.length+2).sum
 |[]=>by
  show(Str.empty).length<=_;simp[Str.empty,Str.length]
 |[t]=>by
  show t.length<=_;simp
 |t::u::ts=>by
  show(t++(", ":String)++Str.join ", " (u::ts)).length<=_;rw[Str.length_append,Str.length_append];have h:=uy (u::ts)
  have e:(((", ":String):Str)).length=2:=by decide
  simp only[List.map_cons,List.sum_cons] at h |-;omega
variable {m:Nat}
theorem iZ :∀{ts:xQ},(∀t∈ts,t.length<=m)->(ts.map λt=>t.length+2).sum<=ts.length*(m+2)
 |[],_=>by simp
 |t::ts,h=>by
  have:=iZ λt ht=>h t (List.mem_cons_of_mem _ ht);have:=h t List.mem_cons_self;simp only[List.map_cons,List.sum_cons,List.length_cons,Nat.add_mul];omega
theorem qv {ts:xQ}(h:∀t∈ts,t.length<=m):(listText ts).length<=ts.length*(m+2)+2:=by
 unfold listText;have e:=jB ts 0 (("[":String):Str);have f:=iZ h;rw[Str.length_append]
 have l1:((("[":String):Str)).length=1:=by decide
 have l2:((("]":String):Str)).length=1:=by decide
 omega
theorem oO {ts:xQ}(h:∀t∈ts,t.length<=m):(tupleText ts).length<=ts.length*(m+2)+3:=by
 unfold tupleText;have e:=uy ts;have f:=iZ h;rw[Str.length_append,Str.length_append]
 have l1:((("(":String):Str)).length=1:=by decide
 have l2:((((if ts.length==1 then ",)" else ")":String)):Str)).length<=2:=by
  split
  ·decide
  ·decide
 omega
theorem yi (h4:ts.length<=4)(wr:∀t∈ts,Wr t):(Cu ts).length<=80000:=by
 cases ts with
 |nil=>decide +kernel
 |cons t0 tr =>
  have hs:∀u∈ju tr,u.length<=10000:=by
   intro u hu;unfold ju at hu;obtain⟨t,tm,hu⟩:=List.mem_flatMap.mp hu
   rcases List.mem_cons.mp hu with rfl|hu
   ·unfold qB;split <;> decide +kernel
   ·have:u=tT t:=by simpa using hu
    rw[this];exact jg (wr t (List.mem_cons_of_mem _ tm))
  have h1:=oK hs;have h2:=jL tr
  have h3:tr.length<=3:=by simp at h4;omega
  have h4:=jg (wr t0 List.mem_cons_self)
  have h5:(tj t0).length<=1:=by unfold tj;split <;> decide +kernel
  show(tj t0++(tT t0++Dg.xK (ju tr))).length<=_;rw[Str.length_append,Str.length_append,Dg.jH];rw[h2] at h1;omega
theorem qH (hp:FP p)(h4:ts.length<=4)(wr:∀t∈ts,Wr t):(rT p ts).length<=100000:=by
 unfold rT;have h:=yi h4 wr
 have h2:(Str.ofString (toString p)).length<=1921:=PyProof.Rows.int_text_len_1921 (by
  obtain⟨a,b⟩:=hp.le
  have:p.natAbs<2^7:=by omega
  have z:p.natAbs.log2<7:=by
   by_cases h0:p.natAbs=0
   ·rw[h0];decide
   ·exact(Nat.log2_lt h0).mpr this
  omega)
 rw[Str.length_append,Str.length_append,Str.length_append,Str.length_append]
 have l1:(Str.ofString "Sum(").length=4:=by decide
 have l2:(Str.ofString ", '").length=3:=by decide
 have l3:(Str.ofString "')").length=2:=by decide
 omega
inductive ET (C CF:Addr)(p n:Int)(G:Hp):Nat->String->V->V->Prop where
 |f {z:V}{T:String}:Th G z T->ET C CF p n G 0 "field" z .non
 |n {z:V}{T:String}:Th G z T->nk z=false->ET C CF p n G 1 "places" z .non
 |l {z v:V}{t:Str}:LW C CF p n G z v->BG C CF G z t->(v≠.non->∃l ys,z=.ref l/\G l=some (.lst ys)/\ys.length<=150)->ET C CF p n G 2 "noughts" z v
 |u {z v:V}{t:Str}:UW C CF p n G z v->BG C CF G z t->(v≠.non->∃l ys,z=.ref l/\G l=some (.lst ys)/\ys.length<=150)->ET C CF p n G 3 "uppers" z v
variable {n:Int}{G G':Hp}{z:V}
theorem ET.same {i:Nat}{part:String}{v:V}(h:ET C CF p n G i part z v)(s:au G G'):ET C CF p n G' i part z v:=by
 cases h with
 |f t=>exact .f (t.aac (.of s))
 |n t g=>exact .n (t.aac (.of s)) g
 |l a b c=>exact .l (a.aac (.of s)) (b.same s) λh=>let⟨l0,ys,e,hl,z⟩:=c h;⟨l0,ys,e,s _ _ hl,z⟩
 |u a b c=>exact .u (a.aac (.of s)) (b.same s) λh=>let⟨l0,ys,e,hl,z⟩:=c h;⟨l0,ys,e,s _ _ hl,z⟩
structure Od (C CF:Addr)(G:Hp)(L fl A B far:Addr)(p n pf:Int)(as bs:List Addr):Prop where
 gd:Gd C CF G fl p n as bs
 L:G L=some (.lst [.ref fl,.int n,.ref A,.ref B])
 A:G A=some (.lst (as.map V.ref))
 B:G B=some (.lst (bs.map V.ref))
 far:∃dx,G far=some (.ins CF dx (cw pf))
 fpf:FP pf
 ne:pf≠p
 l1:as.length<=4
 l2:bs.length<=4
 sh:∀a∈as++bs,∃p ts,SW C CF G a p ts/\(rT p ts).length<=100000
variable {L fl A far:Addr}{pf:Int}
theorem Od.same {B:Addr}{bs:List Addr}(h:Od C CF G L fl A B far p n pf as bs)(s:au G G'):Od C CF G' L fl A B far p n pf as bs :=
 ⟨h.gd.same s,s _ _ h.L,s _ _ h.A,s _ _ h.B,let⟨d,e⟩:=h.far;⟨d,s _ _ e⟩,h.fpf,h.ne,h.l1,h.l2,λa ha=>let⟨p,ts,w,z⟩:=h.sh a ha;⟨p,ts,w.aac (.of s),z⟩⟩
variable {l:Addr}{k:Nat}
theorem sk (hl:G l=some (.lst ((as.map V.ref).take k++[z]++(as.map V.ref).drop k)))(hk:k<=as.length)(h4:as.length<=4)(wa:∀a∈as,WX C CF p n G (.ref a) true)(wz:WX C CF p n G z false):LW C CF p n G (.ref l) (.int k):=by
 have lt:((as.map V.ref).take k).length=k:=by rw[List.length_take,List.length_map];omega
 refine .at hl ?_ (λi y hi hy=>?_) ?_ wz
 ·simp only[List.length_append,List.length_take,List.length_drop,List.length_map,List.length_singleton];omega
 ·rw[List.append_assoc,List.getElem?_append_left (by rw[lt];exact hi),List.getElem?_take_of_lt hi,List.getElem?_map] at hy;obtain⟨a,ea,rfl⟩:=Option.map_eq_some_iff.mp hy;exact wa a (List.mem_of_getElem? ea)
 ·rw[List.append_assoc,List.getElem?_append_right (by rw[lt];exact Nat.le_refl _),lt,Nat.sub_self];rfl
theorem qb :∀{ys:List V},(∀y∈ys,∃t,C0 C CF G y t/\t.length<=m)->∃ts:List Str,ts.length=ys.length/\(∀(i:Nat) y t,ys[i]?=some y->ts[i]?=some t->C0 C CF G y t)/\∀t∈ts,t.length<=m
 |[],_=>⟨[],rfl,λi y t e=>by simp at e,λ_ z=>(nomatch z)⟩
 |y::ys,h=>by
  obtain⟨ts,e,a,b⟩:=qb λy hy=>h y (List.mem_cons_of_mem _ hy);obtain⟨t,ht,hm⟩:=h y List.mem_cons_self;refine⟨t::ts,by simp[e],λi z u ez eu=>?_,λu hu=>?_⟩
  ·cases i with
   |zero =>
    cases ez
    cases eu
    exact ht
   |succ i=>exact a i z u (by simpa using ez) (by simpa using eu)
  ·rcases List.mem_cons.mp hu with rfl|hu
   ·exact hm
   ·exact b u hu
theorem oX {ys:List V}{m:Nat}(hl:G l=some (.lst ys))(hm:ys.length*(m+2)+2<=8000000)(h:∀y∈ys,∃t,C0 C CF G y t/\t.length<=m):∃t,BG C CF G (.ref l) t:=by
 obtain⟨ts,e,a,b⟩:=qb h;exact⟨_,.lst hl e a (Nat.le_trans (qv b) (by rw[e];exact hm))⟩
theorem rV (hl:G l=some (.lst ((as.map V.ref).take k++[z]++(as.map V.ref).drop k)))(h4:as.length<=4)(sh:∀a∈as,∃p ts,SW C CF G a p ts/\(rT p ts).length<=100000)(hz:∃t,C0 C CF G z t/\t.length<=100000):∃t,BG C CF G (.ref l) t:=by
 refine oX (m:=100000) hl ?_ λy hy=>?_
 ·simp only[List.length_append,List.length_take,List.length_drop,List.length_map,List.length_singleton];omega
 ·have key:∀{y:V},y∈as.map V.ref->∃t,C0 C CF G y t/\t.length<=100000:=λhy=>by
   obtain⟨a,ha,rfl⟩:=List.mem_map.mp hy;obtain⟨p,ts,w,z⟩:=sh a ha;exact⟨_,.sum w,z⟩
  rcases List.mem_append.mp hy with hy|hy
  ·rcases List.mem_append.mp hy with hy|hy
   ·exact key (List.mem_of_mem_take hy)
   ·rw[List.mem_singleton.mp hy];exact hz
  ·exact key (List.mem_of_mem_drop hy)
theorem zc (hl:G l=some (.tup (as.map V.ref)))(h4:as.length<=4)(sh:∀a∈as,∃p ts,SW C CF G a p ts/\(rT p ts).length<=100000):∃t,BG C CF G (.ref l) t:=by
 have key:∀{as:List Addr},(∀a∈as,∃p ts,SW C CF G a p ts/\(rT p ts).length<=100000)->∃ts:List Str,ts.length=(as.map V.ref).length/\(∀(i:Nat) y t,(as.map V.ref)[i]?=some y->ts[i]?=some t->∃s p us,y=.ref s/\SW C CF G s p us/\t=rT p us)/\∀t∈ts,t.length<=100000:=by
  intro as
  induction as with
  |nil=>exact λ_=>⟨[],rfl,λi y t e=>by simp at e,λ_ z=>(nomatch z)⟩
  |cons a as ih =>
   intro sh;obtain⟨ts,e,x,y⟩:=ih λa ha=>sh a (List.mem_cons_of_mem _ ha);obtain⟨p,us,w,z⟩:=sh a List.mem_cons_self;refine⟨rT p us::ts,by simpa using e,λi v u ev eu=>?_,λu hu=>?_⟩
   ·cases i with
    |zero =>
     cases ev
     cases eu
     exact⟨a,p,us,rfl,w,rfl⟩
    |succ i=>exact x i v u (by simpa using ev) (by simpa using eu)
   ·rcases List.mem_cons.mp hu with rfl|hu
    ·exact z
    ·exact y u hu
 obtain⟨ts,e,x,y⟩:=key sh;refine⟨_,.tup hl e x (Nat.le_trans (oO y) ?_)⟩;rw[e,List.length_map];omega
theorem qI (hp:FP p):(rT p []).length<=2000:=by
 unfold rT
 have h:(Cu []).length=1:=by decide +kernel
 have h2:(Str.ofString (toString p)).length<=1921:=PyProof.Rows.int_text_len_1921 (by
  obtain⟨a,b⟩:=hp.le
  have:p.natAbs<2^7:=by omega
  have z:p.natAbs.log2<7:=by
   by_cases h0:p.natAbs=0
   ·rw[h0];decide
   ·exact(Nat.log2_lt h0).mpr this
  omega)
 rw[Str.length_append,Str.length_append,Str.length_append,Str.length_append]
 have l1:(Str.ofString "Sum(").length=4:=by decide
 have l2:(Str.ofString ", '").length=3:=by decide
 have l3:(Str.ofString "')").length=2:=by decide
 omega
variable {xs:List V}
theorem se (h:k<=xs.length):fO xs none (some (k:Int))=xs.take k:=by
 unfold fO;rw[HT.pM,HT.uK,Nat.min_eq_left h];simp
theorem rE (h:k<=xs.length):fO xs (some (k:Int)) none=xs.drop k:=by
 unfold fO;rw[HT.pM,HT.uK,Nat.min_eq_left h];rw[List.take_of_length_le (by rw[List.length_drop];exact Nat.le_refl _)]
theorem fN {o:HO}:del (upd H r o) r=del H r:=by
 funext b
 by_cases h:b=r
 ·subst h;rw[eE,eE]
 ·rw[dw h,dw h,aq h]
theorem aC {r:Addr}(s:au H H'):au (del H r) (del H' r):=jI λb u e _=>s b u e
noncomputable def Bz (C CF:Addr):Sp:=λvs H Q _=>∃(r L fl A B far:Addr)(p n pf:Int)(as bs:List Addr),vs=[.ref r,.ref L,.ref far]/\aN H r/\Od C CF (del H r) L fl A B far p n pf as bs /\
 ∀(H':Hp)(T L1 L2:Addr)(i:Nat)(part:String)(z v:V),aN H' r->au (del H r) (del H' r)->del H' r T=some (.tup [.ref L1,.ref L2])->del H' r L1=some (.lst ([.ref fl,.int n,.ref A,.ref B].set i z))->del H' r L2=some (.lst [.str part,v])->ET C CF p n (del H' r) i part z v->Q (.ref T) H'
noncomputable abbrev F6:Stmt:=(aY 52)
theorem kq:uQ ["_law_room_here","_law_things","_law_far","_law_field","_law_many","_law_lows","_law_highs","_law_way","_law_at","_law_odd_here","_law_wish"] GI (ar F6):=dI (by decide +kernel)
theorem As {t:TT}{σ:L2.St}{K:Bool->Hp->Prop}(c:Bool)(h:∀K':Bool->Hp->Prop,K' c H->t σ H K')(k:K c H):t σ H K:=h K k
variable {P:wM}{w:World}{K:PySem.W.Frag}{mg:vJ}{base:Heap}
variable {f:Addr}{fd:GF}
set_option maxHeartbeats 1000000 in
theorem Ds {fs:Addr}{Iw:GF}(F:E6 K "_law_odd" "_law_odd" F6 f fd)(cF:Cp K mg CF)(c:vn K mg C)(GP:mg "len"=none)(GS:mg "tuple"=none)
 (MS:Mk K C fs)(FS:Cy P w K mg base (bc P w) 6 fs Iw vX (iT C CF))(bS:L2.aI K Iw vX [])
 (U5:eV P w K mg base 1 CF "prime" ["self"] (iB CF))(tk:eT P w K mg base 1 "_law_take" Eh CI):Cy P w K mg base (bc P w) 8 f fd GI (Bz C CF):=by
 obtain⟨fFp,U6,Nk,Nl,Nn⟩:=U5;obtain⟨fTk,Vs,K9,La,Lb,Lc⟩:=tk;refine F.okN kq (λvs H Q E h=>?_) (λGL A outer s H vs Q E hr h=>?_)
 ·obtain⟨r,L,fl,A,B,far,p,n,pf,as,bs,rfl,_⟩:=h;rfl
 ·obtain⟨r,L,fl,A',B',far,p,n,pf,as,bs,rfl,R,O,q⟩:=h;have Il:pL 7 _:=hr.mono (by decide);have GU:pL 1 _:=hr.mono (by decide)
  refine⟨_,(aj (c8 (pv 1) (oo rfl (aJ (aH (i:=3) kq.nd rfl (Or.inl rfl)) (aJ (aH (i:=4) kq.nd rfl (Or.inl rfl)) (aJ (aH (i:=5) kq.nd rfl (Or.inl rfl)) (aJ (aH (i:=6) kq.nd rfl (Or.inl rfl)) cm))))))
   (aj (@aO _ _ 7 _ _ _ _ kq.nd rfl (Or.inl rfl) (ay K9 GU (by rfl) Lb Lc La .nil ag (@ah _ _ _ _ _ (pv 0) (@ah _ _ _ _ _ ak af rfl) rfl)) rfl (Or.inl rfl))
   (aj (aV (@aB _ _ _ _ _ _ _ _ eQ (pv 7) ak (aA _)) (ao (aw (@bq _ _ _ _ _ (@ah _ _ _ _ _ (@az _ _ _ _ (@ah _ _ _ _ _ (@aQ _ _ _ _ _ _ _ (dk (K:=K) rfl) (@az _ _ _ _ (@ah _ _ _ _ _ b7 (@ah _ _ _ _ _ ak (@ah _ _ _ _ _ (pv 4) af rfl) rfl) rfl)) (pv 7) (λ_ _=>rfl)) (@ah _ _ _ _ _ (pv 4) (@ah _ _ _ _ _ (pv 5) (@ah _ _ _ _ _ (pv 6) af rfl) rfl) rfl) rfl)) (@ah _ _ _ _ _ (@az _ _ _ _ (@ah _ _ _ _ _ aX (@ah _ _ _ _ _ b7 af rfl) rfl)) af rfl) rfl)))) aE)
   (aj (aV (@aB _ _ _ _ _ _ _ _ eQ (pv 7) ak (aA _)) (ao (aw (@bq _ _ _ _ _ (@ah _ _ _ _ _ (@az _ _ _ _ (@ah _ _ _ _ _ (pv 3) (@ah _ _ _ _ _ (@aQ _ _ _ _ _ _ _ (dk (K:=K) rfl) (@az _ _ _ _ (@ah _ _ _ _ _ ak (@ah _ _ _ _ _ ak (@ah _ _ _ _ _ cV (@ah _ _ _ _ _ b7 (@ah _ _ _ _ _ aX (@ah _ _ _ _ _ (@aF _ _ _ _ _ _ _ _ gf ak ak) af rfl) rfl) rfl) rfl) rfl) rfl)) (@aF _ _ _ _ _ _ _ _ gf (pv 7) ak) (λ_ _=>rfl)) (@ah _ _ _ _ _ (pv 5) (@ah _ _ _ _ _ (pv 6) af rfl) rfl) rfl) rfl)) (@ah _ _ _ _ _ (@az _ _ _ _ (@ah _ _ _ _ _ aX (@ah _ _ _ _ _ b7 af rfl) rfl)) af rfl) rfl)))) aE)
   (aj (@aO _ _ 8 _ _ _ _ kq.nd rfl (Or.inl rfl) (ay K9 GU (by rfl) Lb Lc La .nil ag (@ah _ _ _ _ _ (pv 0) (@ah _ _ _ _ _ (@aF _ _ _ _ _ _ _ _ cH (aD bp (by rfl) GP PySem.boot_len (@ah _ _ _ _ _ (pv 5) af rfl)) ak) af rfl) rfl)) rfl (Or.inl rfl))
   (aj (aV (@aB _ _ _ _ _ _ _ _ eQ (pv 7) ak (aA _)) (aj (@aO _ _ 9 _ _ _ _ kq.nd rfl (Or.inl rfl) (@aQ _ _ _ _ _ _ _ (dk (K:=K) rfl) (@az _ _ _ _ (@ah _ _ _ _ _ (bz MS FS Il (by rfl) c.c.mgC bS .nil ag (@ah _ _ _ _ _ (pv 2) (@ah _ _ _ _ _ (@az _ _ _ _ af) af rfl) rfl)) (@ah _ _ _ _ _ b7 (@ah _ _ _ _ _ (@az _ _ _ _ (@ah _ _ _ _ _ (@bq _ _ _ _ _ (@ah _ _ _ _ _ (@bq _ _ _ _ _ af) (@ah _ _ _ _ _ (@bq _ _ _ _ _ (@ah _ _ _ _ _ ak (@ah _ _ _ _ _ ak af rfl) rfl)) af rfl) rfl)) af rfl)) af rfl) rfl) rfl)) (@aF _ _ _ _ _ _ _ _ gf (pv 7) ak) (λ_ _=>rfl)) rfl (Or.inl rfl))
   (ao (aw (@bq _ _ _ _ _ (@ah _ _ _ _ _ (@az _ _ _ _ (@ah _ _ _ _ _ (pv 3) (@ah _ _ _ _ _ (pv 4) (@ah _ _ _ _ _ (@aF _ _ _ _ _ _ _ _ bZ (@aF _ _ _ _ _ _ _ _ bZ (cL (show zo _ (rh K) from dW) (pv 5) de (dF (pv 8))) (@az _ _ _ _ (@ah _ _ _ _ _ (pv 9) af rfl))) (cL (show zo _ (rh K) from dW) (pv 5) (dF (pv 8)) de)) (@ah _ _ _ _ _ (pv 6) af rfl) rfl) rfl) rfl)) (@ah _ _ _ _ _ (@az _ _ _ _ (@ah _ _ _ _ _ aX (@ah _ _ _ _ _ (pv 8) af rfl) rfl)) af rfl) rfl))))) aE)
   (aj (aV (PW.pt (je (@aB _ _ _ _ _ _ _ _ cM (pv 7) ak (aA _)) (iP (@aB _ _ _ _ _ _ _ _ eQ (pv 4) ak (aA _))))) (aj (@aO _ _ 10 _ _ _ _ kq.nd rfl (Or.inl rfl) (bz MS FS Il (by rfl) c.c.mgC bS .nil ag (@ah _ _ _ _ _ (pv 3) (@ah _ _ _ _ _ (@az _ _ _ _ (@ah _ _ _ _ _ (@bq _ _ _ _ _ (@ah _ _ _ _ _ (@bq _ _ _ _ _ (@ah _ _ _ _ _ (pv 4) af rfl)) (@ah _ _ _ _ _ (@bq _ _ _ _ _ (@ah _ _ _ _ _ ak (@ah _ _ _ _ _ ak af rfl) rfl)) af rfl) rfl)) af rfl)) af rfl) rfl)) rfl (Or.inl rfl))
   (ao (aw (@bq _ _ _ _ _ (@ah _ _ _ _ _ (@az _ _ _ _ (@ah _ _ _ _ _ (pv 3) (@ah _ _ _ _ _ (pv 4) (@ah _ _ _ _ _ (@aF _ _ _ _ _ _ _ _ bZ (@aF _ _ _ _ _ _ _ _ bZ (cL (show zo _ (rh K) from dW) (pv 5) de (dF (pv 8))) (@az _ _ _ _ (@ah _ _ _ _ _ (pv 10) af rfl))) (cL (show zo _ (rh K) from dW) (pv 5) (dF (pv 8)) de)) (@ah _ _ _ _ _ (pv 6) af rfl) rfl) rfl) rfl)) (@ah _ _ _ _ _ (@az _ _ _ _ (@ah _ _ _ _ _ aX (@ah _ _ _ _ _ (pv 8) af rfl) rfl)) af rfl) rfl))))) aE)
   (aj (aV (@aB _ _ _ _ _ _ _ _ eQ (pv 7) ak (aA _)) (aj (@aO _ _ 9 _ _ _ _ kq.nd rfl (Or.inl rfl) (@aQ _ _ _ _ _ _ _ (dk (K:=K) rfl) (@az _ _ _ _ (@ah _ _ _ _ _ (a9 (kR (K:=K) rfl) (by rfl) GS (by rfl) (@ah _ _ _ _ _ (pv 5) af rfl)) (@ah _ _ _ _ _ b7 (@ah _ _ _ _ _ abY (@ah _ _ _ _ _ (@aF _ _ _ _ _ _ _ _ oJ (@az _ _ _ _ (@ah _ _ _ _ _ (bz MS FS Il (by rfl) c.c.mgC bS .nil ag (@ah _ _ _ _ _ (pv 3) (@ah _ _ _ _ _ (@az _ _ _ _ af) af rfl) rfl)) af rfl)) ak) af rfl) rfl) rfl) rfl)) (@aF _ _ _ _ _ _ _ _ gf (pv 7) ak) (λ_ _=>rfl)) rfl (Or.inl rfl))
   (ao (aw (@bq _ _ _ _ _ (@ah _ _ _ _ _ (@az _ _ _ _ (@ah _ _ _ _ _ (pv 3) (@ah _ _ _ _ _ (pv 4) (@ah _ _ _ _ _ (pv 9) (@ah _ _ _ _ _ (pv 6) af rfl) rfl) rfl) rfl)) (@ah _ _ _ _ _ (@az _ _ _ _ (@ah _ _ _ _ _ aX (@ah _ _ _ _ _ b7 af rfl) rfl)) af rfl) rfl))))) aE)
   (aj (aV (@aB _ _ _ _ _ _ _ _ eQ (pv 7) ak (aA _)) (ao (aw (@bq _ _ _ _ _ (@ah _ _ _ _ _ (@az _ _ _ _ (@ah _ _ _ _ _ (pv 3) (@ah _ _ _ _ _ (pv 4) (@ah _ _ _ _ _ (pv 5) (@ah _ _ _ _ _ (@aQ _ _ _ _ _ _ _ (dk (K:=K) rfl) (@az _ _ _ _ (@ah _ _ _ _ _ (a9 (kR (K:=K) rfl) (by rfl) GS (by rfl) (@ah _ _ _ _ _ (pv 6) af rfl)) (@ah _ _ _ _ _ ak af rfl) rfl)) (@aF _ _ _ _ _ _ _ _ gf (pv 7) ak) (λ_ _=>rfl)) af rfl) rfl) rfl) rfl)) (@ah _ _ _ _ _ (@az _ _ _ _ (@ah _ _ _ _ _ aX (@ah _ _ _ _ _ b7 af rfl) rfl)) af rfl) rfl)))) aE)
   (aj (aV (@aB _ _ _ _ _ _ _ _ qz (bx (pv 3) cF.cl Nn Nk GU Nl .nil ag) ak (aA _)) (ao (aw (@bq _ _ _ _ _ (@ah _ _ _ _ _ (@az _ _ _ _ (@ah _ _ _ _ _ (pv 3) (@ah _ _ _ _ _ (pv 4) (@ah _ _ _ _ _ (pv 5) (@ah _ _ _ _ _ (@az _ _ _ _ (@ah _ _ _ _ _ (bz MS FS Il (by rfl) c.c.mgC bS .nil ag (@ah _ _ _ _ _ (pv 3) (@ah _ _ _ _ _ (@az _ _ _ _ af) af rfl) rfl)) af rfl)) af rfl) rfl) rfl) rfl)) (@ah _ _ _ _ _ (@az _ _ _ _ (@ah _ _ _ _ _ aX (@ah _ _ _ _ _ b7 af rfl) rfl)) af rfl) rfl)))) aE)
   (aj (@aO _ _ 8 _ _ _ _ kq.nd rfl (Or.inl rfl) (ay K9 GU (by rfl) Lb Lc La .nil ag (@ah _ _ _ _ _ (pv 0) (@ah _ _ _ _ _ (@aF _ _ _ _ _ _ _ _ cH (aD bp (by rfl) GP PySem.boot_len (@ah _ _ _ _ _ (pv 6) af rfl)) ak) af rfl) rfl)) rfl (Or.inl rfl))
   (ao (aw (@bq _ _ _ _ _ (@ah _ _ _ _ _ (@az _ _ _ _ (@ah _ _ _ _ _ (pv 3) (@ah _ _ _ _ _ (pv 4) (@ah _ _ _ _ _ (pv 5) (@ah _ _ _ _ _ (@aF _ _ _ _ _ _ _ _ bZ (@aF _ _ _ _ _ _ _ _ bZ (cL (show zo _ (rh K) from dW) (pv 6) de (dF (pv 8))) (@az _ _ _ _ (@ah _ _ _ _ _ (@aQ _ _ _ _ _ _ _ (dk (K:=K) rfl) (@az _ _ _ _ (@ah _ _ _ _ _ (bz MS FS Il (by rfl) c.c.mgC bS .nil ag (@ah _ _ _ _ _ (pv 2) (@ah _ _ _ _ _ (@az _ _ _ _ af) af rfl) rfl)) (@ah _ _ _ _ _ b7 (@ah _ _ _ _ _ ak (@ah _ _ _ _ _ (@bq _ _ _ _ _ af) af rfl) rfl) rfl) rfl)) (@aF _ _ _ _ _ _ _ _ gf (pv 7) ak) (λ_ _=>rfl)) af rfl))) (cL (show zo _ (rh K) from dW) (pv 6) (dF (pv 8)) de)) af rfl) rfl) rfl) rfl)) (@ah _ _ _ _ _ (@az _ _ _ _ (@ah _ _ _ _ _ aX (@ah _ _ _ _ _ (pv 8) af rfl) rfl)) af rfl) rfl))))))))))))))),?_⟩
  refine⟨_,rfl,L,_,rfl,aM.of (bt _ _ O.L),rfl,?_⟩;refine⟨_,_,rfl,_,_,rfl,_,_,rfl,_,_,rfl,rfl,?_⟩;obtain⟨i0,j0,OP,c0,c1⟩:=R;refine⟨_,rfl,r,i0,j0,22,rfl,OP,c0,c1,(by decide),(by decide),λway l1 r1 w0 w1 c2 c3=>?_⟩;have R1:aN (upd H r (.lst [.int l1,.int r1])) r:=⟨l1,r1,ae,c2,c3⟩
  have G1:au (del H r) (del (upd H r (.lst [.int l1,.int r1])) r):=by rw[fN];exact au.refl _
  have L6:upd H r (.lst [.int l1,.int r1]) r=some (.lst [.int l1,.int r1]):=ae;generalize upd H r _=H1 at R1 G1 L6;have s1:au (del H r) H1:=au.trans G1 bt;have O1:=O.same G1
  have Ku:∀{b:Addr}{H':Hp},aN H' r->H' b=none->b≠r:=λR e z=>by
   obtain⟨i,j,er,_⟩:=R;rw[z,er] at e
   cases e
  have fin:∀{He:Hp}{i:Nat}{part:String}{z v:V},aN He r->au (del H r) (del He r)->ET C CF p n (del He r) i part z v->∀{L1 L2 T:Addr}{xs:List V},xs=[.ref fl,.int n,.ref A',.ref B'].set i z->He L1=none->upd He L1 (.lst xs) L2=none->upd (upd He L1 (.lst xs)) L2 (.lst [.str part,v]) T=none →
   Q (.ref T) (upd (upd (upd He L1 (.lst xs)) L2 (.lst [.str part,v])) T (.tup [.ref L1,.ref L2])):=λ{He i part z v} R2 sE od {L1 L2 T xs} ex e1 e2 e3=>by
   subst ex;have t1:=ai (o:=.lst ([V.ref fl,.int n,.ref A',.ref B'].set i z)) e1;have t2:=ai (o:=.lst [.str part,v]) e2;have t3:=ai (o:=.tup [.ref L1,.ref L2]) e3;have R3:=((R2.same t1).same t2).same t3;refine q _ T L1 L2 i part z v R3 (sE.trans (aC ((au.trans t1 t2).trans t3))) (bw ae (Ku ((R2.same t1).same t2) e3)) (bw (t3 _ _ (t2 _ _ ae)) (Ku R2 e1)) (bw (t3 _ _ ae) (Ku (R2.same t1) e2)) (od.same (aC ((au.trans t1 t2).trans t3)))
  refine⟨_,rfl,_,_,rfl,rfl,_,rfl,?_⟩
  by_cases h3:way<3
  ·rw[decide_eq_true h3];refine aZ ?_;refine⟨_,rfl,Fg,λl2 e2=>?_⟩
   have key:∃z T,iY [V.non,.int 0,.int n] way=some z/\Th (del (upd H1 l2 (.lst [.non,.int 0,.int n])) r) z T:=by
    rcases(by omega:way=0\/way=1\/way=2) with rfl|rfl|rfl
    ·exact⟨_,_,rfl,.non⟩
    ·exact⟨_,_,rfl,.int _⟩
    ·exact⟨_,_,rfl,.int _⟩
   obtain⟨z,T,ez,th⟩:=key;exact⟨_,rfl,l2,_,way,z,rfl,rfl,aM.of ae,ez,_,rfl,_,rfl,_,rfl,lX,λL1 e1=>⟨d9,λL2 Jf=>⟨d9,λT e3=>fin (R1.same (ai e2)) (G1.trans (aC (ai e2))) (.f th) rfl e1 Jf e3⟩⟩⟩
  ·rw[decide_eq_false h3];refine aS ?_;refine⟨_,rfl,_,_,rfl,rfl,_,rfl,?_⟩
   by_cases h9:way<9
   ·rw[decide_eq_true h9];refine aZ ?_;refine⟨_,rfl,_,_,rfl,rfl,aak,λl2 e2=>?_⟩
    have key:∃z T,iY [V.int 0,.int 61,.bl true,.non,.str "3",.int (0-1)] (way-3)=some z/\Th (del (upd H1 l2 (.lst [.int 0,.int 61,.bl true,.non,.str "3",.int (0-1)])) r) z T/\nk z=false:=by
     rcases(by omega:way=3\/way=4\/way=5\/way=6\/way=7\/way=8) with rfl|rfl|rfl|rfl|rfl|rfl
     ·exact⟨_,_,rfl,.int _,by decide⟩
     ·exact⟨_,_,rfl,.int _,by decide⟩
     ·exact⟨_,_,rfl,.bl _,rfl⟩
     ·exact⟨_,_,rfl,.non,rfl⟩
     ·exact⟨_,_,rfl,.str _,rfl⟩
     ·exact⟨_,_,rfl,.int _,by decide⟩
    obtain⟨z,T,ez,th,gn⟩:=key;exact⟨_,rfl,_,_,rfl,rfl,l2,_,way-3,z,rfl,rfl,aM.of ae,ez,_,rfl,_,rfl,lX,λL1 e1=>⟨d9,λL2 Jf=>⟨d9,λT e3=>fin (R1.same (ai e2)) (G1.trans (aC (ai e2))) (.n th gn) rfl e1 Jf e3⟩⟩⟩
   ·rw[decide_eq_false h9];refine aS ?_;obtain⟨i1,j1,Vt,d0,d1⟩:=id R1;refine⟨_,rfl,_,rfl,A',_,rfl,.inl (aM.of (s1 _ _ O.A)),_,_,rfl,rfl,r,i1,j1,_,rfl,Vt,d0,d1,(by rw[List.length_map];show(0:Int)<((as.length:Nat):Int)+1;omega),(by rw[List.length_map];have:=O.l1;show((as.length:Nat):Int)+1<_;omega),λat_ l2 r2 a0 a1 c4 c5=>?_⟩;have R2:aN (upd H1 r (.lst [.int l2,.int r2])) r:=⟨l2,r2,ae,c4,c5⟩
    have G2:au (del H r) (del (upd H1 r (.lst [.int l2,.int r2])) r):=by rw[fN];exact G1
    generalize upd H1 r _=H2 at R2 G2;have s2:au (del H r) H2:=au.trans G2 bt;have O2:=O.same G2;obtain⟨k,rfl⟩:=Int.eq_ofNat_of_zero_le a0
    have hk:k<=as.length:=by rw[List.length_map] at a1;have a1:((k:Nat):Int)<((as.length:Nat):Int)+1:=a1;omega
    have SA:k<=(as.map V.ref).length:=by rw[List.length_map];exact hk
    have NA:∀{m:Nat},m<=10->m<=sizeLine:=λh=>by rw[sizeLine_eq];omega
    have l4:=O.l1;refine⟨_,rfl,_,_,rfl,rfl,_,rfl,?_⟩
    by_cases h12:way<12
    ·rw[decide_eq_true h12];refine aZ ?_;refine⟨_,rfl,Nat.zero_le _,λlz ez=>λso ds b1 b2 b3=>?_⟩;have h23:=ai (o:=.lst []) ez;have x3:upd H2 lz (.lst []) lz=some (.lst []):=ae;generalize upd H2 lz _=H3 at h23 x3 b1 b2;obtain⟨Kv,Jg⟩:=O.far;refine gZ (many:=0) (ts:=[]) (h23 _ _ (s2 _ _ Jg)) O.fpf x3 .nil (by decide) (λt ht=>nomatch ht) (by decide) b1 b2 b3 λH4 h34 M4=>?_;have h24:=au.trans h23 h34;refine⟨Nat.zero_le _,λt0 e0=>⟨d9,λt1 e1=>⟨d9,λt2 e2=>⟨m9,λl3 e3=>?_⟩⟩⟩⟩;obtain⟨H5,L7,h45,NB,OQ⟩:=uE (ks:=[]) e0 e1 e2 e3;rw[show upd (upd (upd (upd H4 t0 (.tup [])) t1 (.tup [.int 1,.int 1])) t2 (.tup [.ref t0,.ref t1])) l3 (.lst [.ref t2])=H5 from L7];refine⟨Fg,λl5 e5=>?_⟩;have Mr:(rT pf (fM (bK pf []))).length<=100000:=qH O.fpf (Nat.zero_le _) (λt ht=>nomatch ht);have R6:aN (upd H5 l5 (.lst [.ref so,.non,.ref l3])) r:=(R2.same (h24.trans h45)).same (ai e5);have h26:au H2 (upd H5 l5 (.lst [.ref so,.non,.ref l3])):=(h24.trans h45).trans (ai e5);have M6:=(M4.aac (.of (h45.trans (ai (o:=.lst [.ref so,.non,.ref l3]) e5)))).del R6;have x5:upd H5 l5 (.lst [.ref so,.non,.ref l3]) l5=some (.lst [.ref so,.non,.ref l3]):=ae
     have x6:∃t,C0 C CF (del (upd H5 l5 (.lst [.ref so,.non,.ref l3])) r) (.ref l3) t/\t.length<=100000:=by
      have k5:=ai (o:=.lst [.ref so,.non,.ref l3]) e5
      cases OQ with
      |cons hd _ =>
       obtain⟨a,pr,nu,ea,ha,IA,IZ⟩:=hd
       cases ea
       have d:∀{b:Addr}{u:HO},H5 b=some u->(∀i j,u≠.lst [.int i,.int j])->del (upd H5 l5 (.lst [.ref so,.non,.ref l3])) r b=some u:=λe h=>bw (k5 _ _ e) (R6.ne (k5 _ _ e) h);exact⟨_,.term (d NB λ_ _ z=>by cases z) (d ha λ_ _ z=>by cases z) (d IA λ_ _ z=>by cases z) (d IZ λ_ _ z=>by cases z),by decide +kernel⟩
     have Z4:∃T,Th (del (upd H5 l5 (.lst [.ref so,.non,.ref l3])) r) (.ref l3) T:=by
      have k5:=ai (o:=.lst [.ref so,.non,.ref l3]) e5 _ _ NB;exact⟨_,.lst (bw k5 (R6.ne k5 λ_ _ z=>by cases z))⟩
     generalize upd H5 l5 _=H6 at R6 h26 M6 x5 x6 Z4
     have key:∃z,iY [V.ref so,.non,.ref l3] (way-9)=some z/\WX C CF p n (del H6 r) z false/\∃t,C0 C CF (del H6 r) z t/\t.length<=100000:=by
      rcases(by omega:way=9\/way=10\/way=11) with rfl|rfl|rfl
      ·refine⟨_,rfl,?_,_,.sum M6,Mr⟩;have z:=WX.sum (p:=p) (n:=n) M6;rw[decide_eq_false O.ne] at z;exact z
      ·exact⟨_,rfl,.oth .non,_,.non,by decide⟩
      ·obtain⟨T,th⟩:=Z4;exact⟨_,rfl,.oth th,x6⟩
     obtain⟨z,ez,wz,sz⟩:=key;refine⟨_,rfl,_,_,rfl,rfl,l5,_,way-9,z,rfl,rfl,aM.of x5,ez,?_⟩;have s6:=s2.trans h26;have G6:=G2.trans (aC (r:=r) h26);clear h45 NB OQ L7 h24 h23 h34 M4 x3;refine⟨_,rfl,_,rfl,_,rfl,_,rfl,(k:Int),rfl,A',_,rfl,aM.of (s6 _ _ O.A),λla ea=>?_⟩;rw[se SA];have h67:=ai (o:=.lst ((as.map V.ref).take k)) ea;have xa:upd H6 la (.lst ((as.map V.ref).take k)) la=some (.lst ((as.map V.ref).take k)):=ae;generalize upd H6 la _=H7 at h67 xa;refine⟨_,rfl,m9,λlb eb=>?_⟩;have h78:=ai (o:=.lst [z]) eb;have xb:upd H7 lb (.lst [z]) lb=some (.lst [z]):=ae;generalize upd H7 lb _=H8 at h78 xb;refine⟨la,lb,_,_,rfl,rfl,h78 _ _ xa,xb,NA (by simp only[List.length_take,List.length_map,List.length_singleton];omega),λlc H9 _ h89 xc=>?_⟩;have h69:=(au.trans h67 h78).trans h89;refine⟨_,rfl,_,rfl,(k:Int),rfl,A',_,rfl,aM.of (h69 _ _ (s6 _ _ O.A)),λld ed=>?_⟩;rw[rE SA];have Kw:=ai (o:=.lst ((as.map V.ref).drop k)) ed;have xd:upd H9 ld (.lst ((as.map V.ref).drop k)) ld=some (.lst ((as.map V.ref).drop k)):=ae;generalize upd H9 ld _=Hx at Kw xd;refine⟨lc,ld,_,_,rfl,rfl,Kw _ _ xc,xd,NA (by simp only[List.length_append,List.length_take,List.length_drop,List.length_map,List.length_singleton];omega),λle He fe OR xe=>?_⟩;have JW:=(h69.trans Kw).trans OR;have Re:=R6.same JW;have ge:=bw xe (Ku ((R6.same h69).same Kw) fe);have Oe:=O.same (G6.trans (aC (r:=r) JW));have Vu:=wz.aac (.of (aC (r:=r) JW));obtain⟨tz,OS,OT⟩:=sz;obtain⟨tx,JX⟩:=rV ge l4 (λa ha=>Oe.sh a (List.mem_append_left _ ha)) ⟨tz,OS.same (aC (r:=r) JW),OT⟩;have lw:=sk ge hk l4 (λa ha=>Oe.gd.wi a (List.mem_append_left _ ha)) Vu;exact⟨_,rfl,lX,λL1 e1=>⟨_,rfl,d9,λL2 Jf=>⟨d9,λT e3=>fin Re (G6.trans (aC (r:=r) JW)) (.l lw JX λ_=>⟨_,_,rfl,ge,(by simp only[List.length_append,List.length_take,List.length_drop,List.length_map,List.length_singleton];omega)⟩) rfl e1 Jf e3⟩⟩⟩
    ·rw[decide_eq_false h12];refine aS ?_
     by_cases hb:way=12/\n<60
     ·obtain⟨hw,Vv⟩:=hb;refine⟨_,rfl,rfl,_,rfl,?_⟩;rw[decide_eq_true (by rw[hw]:V.int way=V.int 12)];refine aZ ⟨_,rfl,_,_,rfl,rfl,_,rfl,?_⟩;rw[decide_eq_true Vv];refine aZ ?_;refine⟨_,rfl,_,rfl,m9,λt0 e0=>⟨d9,λt1 e1=>⟨d9,λt2 e2=>⟨m9,λl3 e3=>λso ds b1 b2 b3=>?_⟩⟩⟩⟩;obtain⟨H5,L7,h25,NB,OQ⟩:=uE (ks:=[n]) e0 e1 e2 e3;have b1:H5 so=none:=L7▸b1;have b2:H5 ds=none:=L7▸b2;rw[show upd (upd (upd (upd H2 t0 (.tup [.int n])) t1 (.tup [.int 1,.int 1])) t2 (.tup [.ref t0,.ref t1])) l3 (.lst [.ref t2])=H5 from L7];obtain⟨zr,Ip⟩:=O.gd.f;have N1:=O.gd.n1
      refine gZ (many:=n+1) (h25 _ _ (s2 _ _ Ip)) O.gd.fp NB OQ (by omega) (λt ht=>by
       rw[List.mem_singleton.mp ht]
       exact ph O.gd.fp (.inr ⟨n,rfl,by omega,by omega⟩)) (by show 1<=40;decide) b1 b2 b3 λH6 h56 M6=>?_
      have h26:=au.trans h25 h56;have R6:=R2.same h26;have M6:=M6.del R6;have s6:=s2.trans h26;have G6:=G2.trans (aC (r:=r) h26)
      have wz:WX C CF p n (del H6 r) (.ref so) false:=by
       have z:=WX.sum (p:=p) (n:=n) M6;rw[decide_eq_true (rfl:p=p),decide_eq_false (by rw[kd];omega:¬eC (fM (bK p [([n],(1,1))]))<=n)] at z;exact z
      have sz:∃t,C0 C CF (del H6 r) (.ref so) t/\t.length<=100000:=⟨_,.sum M6,qH O.gd.fp (by rw[mD];show 1<=4;decide) M6.wr⟩;clear h25 h56 L7 NB OQ M6;refine⟨_,rfl,_,rfl,_,rfl,_,rfl,(k:Int),rfl,A',_,rfl,aM.of (s6 _ _ O.A),λla ea=>?_⟩;rw[se SA];have h67:=ai (o:=.lst ((as.map V.ref).take k)) ea;have xa:upd H6 la (.lst ((as.map V.ref).take k)) la=some (.lst ((as.map V.ref).take k)):=ae;generalize upd H6 la _=H7 at h67 xa;refine⟨_,rfl,m9,λlb eb=>?_⟩;have h78:=ai (o:=.lst [.ref so]) eb;have xb:upd H7 lb (.lst [.ref so]) lb=some (.lst [.ref so]):=ae;generalize upd H7 lb _=H8 at h78 xb;refine⟨la,lb,_,_,rfl,rfl,h78 _ _ xa,xb,NA (by simp only[List.length_take,List.length_map,List.length_singleton];omega),λlc H9 _ h89 xc=>?_⟩;have h69:=(au.trans h67 h78).trans h89;refine⟨_,rfl,_,rfl,(k:Int),rfl,A',_,rfl,aM.of (h69 _ _ (s6 _ _ O.A)),λld ed=>?_⟩;rw[rE SA];have Kw:=ai (o:=.lst ((as.map V.ref).drop k)) ed;have xd:upd H9 ld (.lst ((as.map V.ref).drop k)) ld=some (.lst ((as.map V.ref).drop k)):=ae;generalize upd H9 ld _=Hx at Kw xd;refine⟨lc,ld,_,_,rfl,rfl,Kw _ _ xc,xd,NA (by simp only[List.length_append,List.length_take,List.length_drop,List.length_map,List.length_singleton];omega),λle He fe OR xe=>?_⟩;have JW:=(h69.trans Kw).trans OR;have Re:=R6.same JW;have ge:=bw xe (Ku ((R6.same h69).same Kw) fe);have Oe:=O.same (G6.trans (aC (r:=r) JW));have Vu:=wz.aac (.of (aC (r:=r) JW));obtain⟨tz,OS,OT⟩:=sz;obtain⟨tx,JX⟩:=rV ge l4 (λa ha=>Oe.sh a (List.mem_append_left _ ha)) ⟨tz,OS.same (aC (r:=r) JW),OT⟩;have lw:=sk ge hk l4 (λa ha=>Oe.gd.wi a (List.mem_append_left _ ha)) Vu;exact⟨_,rfl,lX,λL1 e1=>⟨_,rfl,d9,λL2 Jf=>⟨d9,λT e3=>fin Re (G6.trans (aC (r:=r) JW)) (.l lw JX λ_=>⟨_,_,rfl,ge,(by simp only[List.length_append,List.length_take,List.length_drop,List.length_map,List.length_singleton];omega)⟩) rfl e1 Jf e3⟩⟩⟩
     ·dsimp only[Ah,vM,Ew];refine As (t:=DI _ _) false (λK' k'=>?_) ?_
      ·refine⟨_,rfl,rfl,_,rfl,?_⟩
       by_cases hw:way=12
       ·rw[decide_eq_true (by rw[hw]:V.int way=V.int 12)];refine aZ ⟨_,rfl,_,_,rfl,rfl,_,rfl,?_⟩;rw[decide_eq_false λz=>hb ⟨hw,z⟩];exact k'
       ·rw[decide_eq_false (by intro z;cases z;exact hw rfl:¬V.int way=V.int 12)];exact aS k'
      ·refine aS ?_;refine⟨_,rfl,_,_,rfl,rfl,_,rfl,?_⟩
       have w12:12<=way:=by omega
       by_cases h16:way<16
       ·rw[decide_eq_true h16];refine aZ ?_;refine⟨_,rfl,A',_,rfl,.inl ⟨aM.of (s2 _ _ O.A),λta ea=>λdd ed=>⟨_,rfl,Nat.zero_le _,λlz ez=>λso ds b1 b2 b3=>?_⟩⟩⟩;have LO:=ai (o:=.tup (as.map V.ref)) ea;have xa:upd H2 ta (.tup (as.map V.ref)) ta=some (.tup (as.map V.ref)):=ae;generalize upd H2 ta _=Ha at LO xa ed ez b1 b2;have Kn:=ai (o:=.dK []) ed;have xd:upd Ha dd (.dK []) dd=some (.dK []):=ae;generalize upd Ha dd _=Hb at Kn xd ez b1 b2;have JE:=ai (o:=.lst []) ez;have xz:upd Hb lz (.lst []) lz=some (.lst []):=ae;generalize upd Hb lz _=Hc at JE xz b1 b2;obtain⟨zr,Ip⟩:=O.gd.f;have Vw:=(au.trans LO Kn).trans JE;refine gZ (many:=0) (ts:=[]) (Vw _ _ (s2 _ _ Ip)) O.gd.fp xz .nil (by decide) (λt ht=>nomatch ht) (by decide) b1 b2 b3 λHd HB Md=>?_;refine⟨m9,λKe Vx=>?_⟩;have Jw:=ai (o:=.lst [.ref so]) Vx;have NC:upd Hd Ke (.lst [.ref so]) Ke=some (.lst [.ref so]):=ae;generalize upd Hd Ke _=He at Jw NC;refine⟨Ke,201,_,rfl,rfl,NC,(by decide),(by decide),(by rw[sizeLine_eq];show 1*201<=16777216;decide),λlr er=>?_⟩;have JF:=ai (o:=.lst (List.replicate (201:Int).toNat [V.ref so]).flatten) er;have xr:upd He lr (.lst (List.replicate (201:Int).toNat [V.ref so]).flatten) lr=some (.lst (List.replicate (201:Int).toNat [V.ref so]).flatten):=ae;generalize upd He lr _=Hf at JF xr;refine⟨lX,λl5 e5=>?_⟩;have ND:=ai (o:=.lst [.ref ta,.non,.ref dd,.ref lr]) e5;have x5:upd Hf l5 (.lst [.ref ta,.non,.ref dd,.ref lr]) l5=some (.lst [.ref ta,.non,.ref dd,.ref lr]):=ae;generalize upd Hf l5 _=Hg at ND x5;have Kf:=(((Vw.trans HB).trans Jw).trans JF).trans ND;have Rg:=R2.same Kf;have Og:=O.same (G2.trans (aC (r:=r) Kf));have Z5:au Ha Hg:=((((au.trans Kn JE).trans HB).trans Jw).trans JF).trans ND;have Z6:au Hb Hg:=(((au.trans JE HB).trans Jw).trans JF).trans ND;have da:=bw (Z5 _ _ xa) (Rg.ne (Z5 _ _ xa) λ_ _ z=>by cases z);have Z7:=bw (Z6 _ _ xd) (Rg.ne (Z6 _ _ xd) λ_ _ z=>by cases z);have Z8:=bw (ND _ _ xr) (Ku (((R2.same Vw).same HB).same Jw) er);have Sg:=(Md.aac (.of ((au.trans Jw JF).trans ND))).del Rg
        have rl:=ui [V.ref so] (201:Int).toNat
        have rl:(List.replicate (201:Int).toNat [V.ref so]).flatten.length=201:=by rw[rl];rfl
        have rm:∀y∈(List.replicate (201:Int).toNat [V.ref so]).flatten,y=.ref so:=λy hy=>by
         obtain⟨l,hl,hy⟩:=List.mem_flatten.mp hy;rw[(List.mem_replicate.mp hl).2] at hy;exact List.mem_singleton.mp hy
        have key:∃z,iY [V.ref ta,.non,.ref dd,.ref lr] (way-12)=some z/\LW C CF p n (del Hg r) z .non/\∃t,BG C CF (del Hg r) z t:=by
         rcases(by omega:way=12\/way=13\/way=14\/way=15) with rfl|rfl|rfl|rfl
         ·exact⟨_,rfl,.no (.tup da) (by decide),zc da l4 λa ha=>Og.sh a (List.mem_append_left _ ha)⟩
         ·exact⟨_,rfl,.no .non (by decide),_,.non⟩
         ·exact⟨_,rfl,.no (.dK Z7) (by decide),_,.dic Z7⟩
         ·refine⟨_,rfl,.long Z8 (by rw[rl];decide),oX (m:=2000) Z8 (by rw[rl];decide) λy hy=>?_⟩;rw[rm y hy];exact⟨_,.sum Sg,qI O.gd.fp⟩
        obtain⟨z,OU,lw,tz,sz⟩:=key;refine⟨_,rfl,_,_,rfl,rfl,l5,_,way-12,z,rfl,rfl,aM.of x5,OU,?_⟩;exact⟨_,rfl,_,rfl,_,rfl,_,rfl,lX,λL1 e1=>⟨d9,λL2 Jf=>⟨d9,λT e3=>fin Rg (G2.trans (aC (r:=r) Kf)) (.l lw sz (λh=>absurd rfl h)) rfl e1 Jf e3⟩⟩⟩
       ·rw[decide_eq_false h16];refine aS ?_;refine⟨_,rfl,_,_,rfl,rfl,_,rfl,?_⟩
        by_cases h18:way<18
        ·rw[decide_eq_true h18];refine aZ ?_;refine⟨_,rfl,_,rfl,_,rfl,_,rfl,B',_,rfl,.inl ⟨aM.of (s2 _ _ O.B),λta ea=>⟨d9,λl5 e5=>?_⟩⟩⟩;have LO:=ai (o:=.tup (bs.map V.ref)) ea;have xa:upd H2 ta (.tup (bs.map V.ref)) ta=some (.tup (bs.map V.ref)):=ae;generalize upd H2 ta _=Ha at LO xa e5;have SD:=ai (o:=.lst [.ref ta,.int 7]) e5;have x5:upd Ha l5 (.lst [.ref ta,.int 7]) l5=some (.lst [.ref ta,.int 7]):=ae;generalize upd Ha l5 _=Hg at SD x5;have Kf:=au.trans LO SD;have Rg:=R2.same Kf;have Og:=O.same (G2.trans (aC (r:=r) Kf));have da:=bw (SD _ _ xa) (Rg.ne (SD _ _ xa) λ_ _ z=>by cases z)
         have key:∃z,iY [V.ref ta,.int 7] (way-16)=some z/\UW C CF p n (del Hg r) z .non/\∃t,BG C CF (del Hg r) z t:=by
          rcases(by omega:way=16\/way=17) with rfl|rfl
          ·refine⟨_,rfl,.inr ⟨λz=>(nomatch z),.no (.tup da) (by decide),λl ys e hl=>?_⟩,zc da O.l2 λa ha=>Og.sh a (List.mem_append_right _ ha)⟩
           cases e
           rw[da] at hl
           cases hl
          ·exact⟨_,rfl,.inr ⟨λz=>(nomatch z),.no (.int 7) (by decide),λl ys e=>(nomatch e)⟩,_,.int (by decide)⟩
         obtain⟨z,OU,uw,tz,sz⟩:=key;exact⟨_,rfl,_,_,rfl,rfl,l5,_,way-16,z,rfl,rfl,aM.of x5,OU,lX,λL1 e1=>⟨d9,λL2 Jf=>⟨d9,λT e3=>fin Rg (G2.trans (aC (r:=r) Kf)) (.u uw sz (λh=>absurd rfl h)) rfl e1 Jf e3⟩⟩⟩
        ·rw[decide_eq_false h18];refine aS ?_;obtain⟨zr,Ip⟩:=O.gd.f;have L8:=s2 _ _ Ip;refine⟨_,rfl,fl,zr,_,rfl,L8,rfl,fl,zr,p,rfl,L8,_,_,rfl,rfl,_,rfl,?_⟩
         by_cases hp:0<p
         ·rw[decide_eq_true hp];refine aZ ?_;refine⟨_,rfl,_,rfl,_,rfl,_,rfl,Nat.zero_le _,λlz ez=>λso ds b1 b2 b3=>?_⟩;have JE:=ai (o:=.lst []) ez;have xz:upd H2 lz (.lst []) lz=some (.lst []):=ae;generalize upd H2 lz _=Hc at JE xz b1 b2;refine gZ (many:=0) (ts:=[]) (JE _ _ L8) O.gd.fp xz .nil (by decide) (λt ht=>nomatch ht) (by decide) b1 b2 b3 λHd HB Md=>?_;refine⟨m9,λKe Vx=>?_⟩;have Jw:=ai (o:=.lst [.ref so]) Vx;have NC:upd Hd Ke (.lst [.ref so]) Ke=some (.lst [.ref so]):=ae;generalize upd Hd Ke _=Hg at Jw NC;have Kf:=(au.trans JE HB).trans Jw;have Rg:=R2.same Kf;have RX:=bw NC (Rg.ne NC λ_ _ z=>by cases z);have Sg:=(Md.aac (.of Jw)).del Rg
          obtain⟨tz,sz⟩:=oX (m:=2000) RX (by show 1*2002+2<=8000000;decide) λy hy=>by
           rw[List.mem_singleton.mp hy];exact⟨_,.sum Sg,qI O.gd.fp⟩
          have uw:UW C CF p n (del Hg r) (.ref Ke) .non:=.inl ⟨Ke,_,rfl,RX,by simp,by omega,rfl⟩;exact⟨lX,λL1 e1=>⟨d9,λL2 Jf=>⟨d9,λT e3=>fin Rg (G2.trans (aC (r:=r) Kf)) (.u uw sz (λh=>absurd rfl h)) rfl e1 Jf e3⟩⟩⟩
         ·rw[decide_eq_false hp];refine aS ?_
          have HM:p=0:=by have:=O.gd.fp.nn;omega
          obtain⟨i2,j2,Vy,f0,f1⟩:=id R2;refine⟨_,rfl,_,rfl,B',_,rfl,.inl (aM.of (s2 _ _ O.B)),_,_,rfl,rfl,r,i2,j2,_,rfl,Vy,f0,f1,(by rw[List.length_map];show(0:Int)<((bs.length:Nat):Int)+1;omega),(by rw[List.length_map];have:=O.l2;show((bs.length:Nat):Int)+1<_;omega),λat2 l3 r3 a2 a3 c6 c7=>?_⟩;have R3:aN (upd H2 r (.lst [.int l3,.int r3])) r:=⟨l3,r3,ae,c6,c7⟩
          have G3:au (del H r) (del (upd H2 r (.lst [.int l3,.int r3])) r):=by rw[fN];exact G2
          generalize upd H2 r _=H3 at R3 G3;have s3:au (del H r) H3:=au.trans G3 bt;obtain⟨m,rfl⟩:=Int.eq_ofNat_of_zero_le a2
          have hm:m<=bs.length:=by rw[List.length_map] at a3;have a3:((m:Nat):Int)<((bs.length:Nat):Int)+1:=a3;omega
          have KQ:m<=(bs.map V.ref).length:=by rw[List.length_map];exact hm
          have Z9:=O.l2;refine⟨_,rfl,_,rfl,_,rfl,_,rfl,_,rfl,(m:Int),rfl,B',_,rfl,aM.of (s3 _ _ O.B),λla ea=>?_⟩;rw[se KQ];have h34:=ai (o:=.lst ((bs.map V.ref).take m)) ea;have xa:upd H3 la (.lst ((bs.map V.ref).take m)) la=some (.lst ((bs.map V.ref).take m)):=ae;generalize upd H3 la _=H4 at h34 xa;refine⟨_,rfl,Nat.zero_le _,λlz ez=>λso ds b1 b2 b3=>?_⟩;have h45:=ai (o:=.lst []) ez;have xz:upd H4 lz (.lst []) lz=some (.lst []):=ae;generalize upd H4 lz _=H5 at h45 xz b1 b2;obtain⟨Kv,Jg⟩:=O.far;refine gZ (many:=0) (ts:=[]) (h45 _ _ (h34 _ _ (s3 _ _ Jg))) O.fpf xz .nil (by decide) (λt ht=>nomatch ht) (by decide) b1 b2 b3 λH6 h56 M6=>?_;refine⟨Nat.zero_le _,λtu eu=>⟨lX,λl5 e5=>?_⟩⟩;have h67:=ai (o:=.tup []) eu;have xu:upd H6 tu (.tup []) tu=some (.tup []):=ae;generalize upd H6 tu _=H7 at h67 xu e5;have h78:=ai (o:=.lst [.ref so,.non,.int 0,.ref tu]) e5;have x5:upd H7 l5 (.lst [.ref so,.non,.int 0,.ref tu]) l5=some (.lst [.ref so,.non,.int 0,.ref tu]):=ae;generalize upd H7 l5 _=H8 at h78 x5;have h48:=((au.trans h45 h56).trans h67).trans h78;have h38:=au.trans h34 h48;have R8:=R3.same h38;have M8:=(M6.aac (.of (au.trans h67 h78))).del R8;have du:=bw (h78 _ _ xu) (R8.ne (h78 _ _ xu) λ_ _ z=>by cases z)
          have key:∃z,iY [V.ref so,.non,.int 0,.ref tu] (way-18)=some z/\WX C CF p n (del H8 r) z false/\∃t,C0 C CF (del H8 r) z t/\t.length<=100000:=by
           rcases(by omega:way=18\/way=19\/way=20\/way=21) with rfl|rfl|rfl|rfl
           ·refine⟨_,rfl,?_,_,.sum M8,Nat.le_trans (qI O.fpf) (by decide)⟩;have z:=WX.sum (p:=p) (n:=n) M8;rw[decide_eq_false O.ne] at z;exact z
           ·exact⟨_,rfl,.oth .non,_,.non,by decide⟩
           ·exact⟨_,rfl,.oth (.int 0),_,.int (by decide),by decide +kernel⟩
           ·exact⟨_,rfl,.oth (.tup du),_,.unit du,by decide +kernel⟩
          obtain⟨z,OU,wz,tz,OS,OT⟩:=key;refine⟨_,rfl,_,_,rfl,rfl,l5,_,way-18,z,rfl,rfl,aM.of x5,OU,m9,λlb eb=>?_⟩;have h89:=ai (o:=.lst [z]) eb;have xb:upd H8 lb (.lst [z]) lb=some (.lst [z]):=ae;generalize upd H8 lb _=H9 at h89 xb;refine⟨la,lb,_,_,rfl,rfl,(h48.trans h89) _ _ xa,xb,NA (by simp only[List.length_take,List.length_map,List.length_singleton];omega),λlc Ha _ h9a xc=>?_⟩;have Vz:=au.trans h89 h9a;refine⟨_,rfl,_,rfl,(m:Int),rfl,B',_,rfl,aM.of (Vz _ _ (h38 _ _ (s3 _ _ O.B))),λld ed=>?_⟩;rw[rE KQ];have SE:=ai (o:=.lst ((bs.map V.ref).drop m)) ed;have xd:upd Ha ld (.lst ((bs.map V.ref).drop m)) ld=some (.lst ((bs.map V.ref).drop m)):=ae;generalize upd Ha ld _=Hx at SE xd;refine⟨lc,ld,_,_,rfl,rfl,SE _ _ xc,xd,NA (by simp only[List.length_append,List.length_take,List.length_drop,List.length_map,List.length_singleton];omega),λle He fe OR xe=>?_⟩;have OV:=(Vz.trans SE).trans OR;have G8:=G3.trans (aC (r:=r) h38);have Re:=R8.same OV;have ge:=bw xe (Ku ((R8.same Vz).same SE) fe);have Oe:=O.same (G8.trans (aC (r:=r) OV));obtain⟨tx,JX⟩:=rV ge Z9 (λa ha=>Oe.sh a (List.mem_append_right _ ha)) ⟨tz,OS.same (aC (r:=r) OV),OT⟩;have lw:=sk ge hm Z9 (λa ha=>Oe.gd.wi a (List.mem_append_right _ ha)) (wz.aac (.of (aC (r:=r) OV)));exact⟨lX,λL1 e1=>⟨_,rfl,d9,λL2 Jf=>⟨d9,λT e3=>fin Re (G8.trans (aC (r:=r) OV)) (ET.u (z:=.ref le) (v:=.int (m:Int)) (.inr ⟨λz=>(nomatch z),lw,λ_ _ _ _ _=>HM⟩) JX λ_=>⟨_,_,rfl,ge,(by simp only[List.length_append,List.length_take,List.length_drop,List.length_map,List.length_singleton];omega)⟩) rfl e1 Jf e3⟩⟩⟩
noncomputable abbrev F8:Stmt:=(aY 56)
theorem mi:uQ ["_law_room_here","_law_things","_law_far","_law_parts","_law_turn","_law_first","_law_due","_law_second","_law_later","_law_one","_law_other","_law_both"] GI (ar F8):=dI (by decide +kernel)
noncomputable def kX:List V:=[.str "field",.str "places",.str "noughts",.str "uppers"]
inductive EE (C CF:Addr)(p n:Int)(G:Hp):Nat->String->V->V->Prop where
 |f {z:V}{T:String}:Th G z T->EE C CF p n G 0 "field" z .non
 |n {z:V}{T:String}:Th G z T->nk z=false->EE C CF p n G 1 "places" z .non
 |l {z v:V}:LW C CF p n G z v->EE C CF p n G 2 "noughts" z v
 |u {z v:V}:UW C CF p n G z v->EE C CF p n G 3 "uppers" z v
variable {a:Addr}
section
variable {C CF:Addr}{p n:Int}{G G':Hp}{i:Nat}{part:String}{z v:V}
theorem ET.b (h:ET C CF p n G i part z v):EE C CF p n G i part z v:=by
 cases h with
 |f t=>exact .f t
 |n t g=>exact .n t g
 |l a _ _=>exact .l a
 |u a _ _=>exact .u a
theorem LW.num {z v:V}(h:LW C CF p n G z v):v=.non\/∃k:Int,v=.int k:=by
 cases h with
 |no _ _=>exact .inl rfl
 |long _ _=>exact .inl rfl
 | «at» _ _ _ _ _=>exact .inr ⟨_,rfl⟩
theorem EE.num (h:EE C CF p n G i part z v):v=.non\/∃k:Int,v=.int k:=by
 cases h with
 |f _=>exact .inl rfl
 |n _ _=>exact .inl rfl
 |l a=>exact a.num
 |u a =>
  rcases a with⟨_,_,_,_,_,_,e⟩|⟨_,a,_⟩
  ·exact .inl e
  ·exact a.num
theorem EE.i4 (h:EE C CF p n G i part z v):i<4:=by cases h <;> decide
theorem EE.idx (h:EE C CF p n G i part z v):(∃y,kX[i]?=some y/\vZ y (.str part)=true)/\∀(j:Nat) y,j<i->kX[j]?=some y->vZ y (.str part)=false:=by
 cases h with
 |f _=>exact⟨⟨_,rfl,by decide +kernel⟩,λj y hj=>absurd hj (Nat.not_lt_zero _)⟩
 |n _ _ =>
  refine⟨⟨_,rfl,by decide +kernel⟩,λj y hj hy=>?_⟩
  obtain rfl:j=0:=by omega
  cases hy
  decide +kernel
 |l _ =>
  refine⟨⟨_,rfl,by decide +kernel⟩,λj y hj hy=>?_⟩
  rcases(by omega:j=0\/j=1) with rfl|rfl
  ·cases hy
   decide +kernel
  ·cases hy
   decide +kernel
 |u _ =>
  refine⟨⟨_,rfl,by decide +kernel⟩,λj y hj hy=>?_⟩
  rcases(by omega:j=0\/j=1\/j=2) with rfl|rfl|rfl
  ·cases hy
   decide +kernel
  ·cases hy
   decide +kernel
  ·cases hy
   decide +kernel
theorem Aj {B:Addr}{bs:List Addr}(O:Od C CF G L fl A B far p n pf as bs)(h:EE C CF p n G i part z v)(hl:xs.length=4)(hz:xs[i]?=some z)(hb:∀j,j<i->xs[j]?=[V.ref fl,.int n,.ref A,.ref B][j]?):
 ∃f m x y,xs=[f,m,x,y]/\rP C CF p n G f m x y part v:=by
 match xs,hl with
 |[f,m,x,y],_ =>
  refine⟨f,m,x,y,rfl,?_⟩;obtain⟨dx,hf⟩:=O.gd.f
  cases h with
  |f t =>
   cases hz
   exact .f t
  |n t g =>
   cases hz
   cases hb 0 (by decide)
   exact .n hf t g
  |l a =>
   cases hz
   cases hb 0 (by decide)
   cases hb 1 (by decide)
   exact .l hf O.gd.n1 O.gd.n2 a
  |u a =>
   cases hz
   cases hb 0 (by decide)
   cases hb 1 (by decide)
   cases hb 2 (by decide)
   exact .u hf O.gd.n1 O.gd.n2 ⟨⟨_,rfl,O.A⟩,by have:=O.l1;omega,λa ha=>O.gd.wi a (List.mem_append_left _ ha)⟩ a
theorem Fc {B:Addr}{bs:List Addr}{j:Nat}{IB:String}{z' v':V}(O:Od C CF G L fl A B far p n pf as bs)(h:EE C CF p n G i part z v)(h':EE C CF p n G j IB z' v')(ne:i≠j):
 ∃f m x y,([V.ref fl,.int n,.ref A,.ref B].set i z).set j z'=[f,m,x,y]/\((j<i/\rP C CF p n G f m x y IB v')\/(¬j<i/\rP C CF p n G f m x y part v)):=by
 have i4:=h.i4;have j4:=h'.i4
 have hl:(([V.ref fl,.int n,.ref A,.ref B].set i z).set j z').length=4:=by rw[List.length_set,List.length_set];rfl
 by_cases SG:j<i
 ·obtain⟨f,m,x,y,e,b⟩:=Aj O h' hl (by rw[List.getElem?_set_self (by rw[List.length_set];exact j4)]) λk hk=>by rw[List.getElem?_set_ne (by omega),List.getElem?_set_ne (by omega)]
  exact⟨f,m,x,y,e,.inl ⟨SG,b⟩⟩
 ·obtain⟨f,m,x,y,e,b⟩:=Aj O h hl (by rw[List.getElem?_set_ne (by omega),List.getElem?_set_self (by exact i4)]) λk hk=>by rw[List.getElem?_set_ne (by omega),List.getElem?_set_ne (by omega)]
  exact⟨f,m,x,y,e,.inr ⟨SG,b⟩⟩
theorem yC (h:k<xs.length):iY xs (k:Int)=xs[k]?:=by
 unfold iY qS;rw[if_pos (by omega),if_pos (by omega)];simp
theorem yy {l:Nat}(h:k<l):qS l (k:Int)=some k:=by
 unfold qS;rw[if_pos (by omega),if_pos (by omega)];simp
theorem gq {K:Frag}{part:String}{v:V}(hv:v=.non\/∃k:Int,v=.int k)(e:H a=some (.lst [.str part,v])):∃d,oW d<=32/\iq d d=true/\(∀{H':Hp}{b:Addr},H' b=some (.lst [.str part,v])->aR K H' d (.ref b)):=by
 rcases hv with rfl|⟨k,rfl⟩
 ·refine⟨.lst [.str part,.non],by simp[oW,lM],by simp[iq,eJ],λe=>?_⟩;unfold aR;exact⟨_,_,rfl,aM.of e,by unfold bV;exact⟨_,_,rfl,by unfold aR;rfl,by unfold bV;exact⟨_,_,rfl,by unfold aR;rfl,by unfold bV;rfl⟩⟩⟩
 ·refine⟨.lst [.str part,.int k],by simp[oW,lM],by simp[iq,eJ],λe=>?_⟩;unfold aR;exact⟨_,_,rfl,aM.of e,by unfold bV;exact⟨_,_,rfl,by unfold aR;rfl,by unfold bV;exact⟨_,_,rfl,by unfold aR;rfl,by unfold bV;rfl⟩⟩⟩
theorem sR {l':Addr}{ys:List V}{v:V}(h:LW C CF p n G (.ref l) v)(hv:v≠.non)(hl:G l=some (.lst ys))(hs:ys.length<=150)(HV:G l'=some (.lst (ys++[.non]))):LW C CF p n G (.ref l') v:=by
 cases h with
 |no _ _=>exact absurd rfl hv
 |long _ _=>exact absurd rfl hv
 | «at» e l2 a b c =>
   rw[hl] at e
   cases e
   have lk:=(List.getElem?_eq_some_iff.mp b).1;exact .at HV (by rw[List.length_append,List.length_singleton];omega) (λi y hi hy=>a i y hi (by rw[List.getElem?_append_left (by omega)] at hy;exact hy)) (by rw[List.getElem?_append_left lk];exact b) c
theorem ET.more (h:ET C CF p n G i part z v)(hv:v≠.non):∃l ys,z=.ref l/\G l=some (.lst ys)/\ys.length<=150/\∀{G':Hp}{l':Addr},au G G'->G' l'=some (.lst (ys++[.non]))->EE C CF p n G' i part (.ref l') v:=by
 cases h with
 |f _=>exact absurd rfl hv
 |n _ _=>exact absurd rfl hv
 |l a _ c =>
  obtain⟨l0,ys,rfl,hl,hs⟩:=c hv;exact⟨l0,ys,rfl,hl,hs,λs HV=>.l (sR (a.aac (.of s)) hv (s _ _ hl) hs HV)⟩
 |u a _ c =>
  obtain⟨l0,ys,rfl,hl,hs⟩:=c hv;refine⟨l0,ys,rfl,hl,hs,λs HV=>.u ?_⟩
  rcases a with⟨_,_,_,_,_,_,e⟩|⟨_,a,b⟩
  ·exact absurd e hv
  ·refine .inr ⟨λz=>(nomatch z),sR (a.aac (.of s)) hv (s _ _ hl) hs HV,λl3 zs e3 h3 _=>?_⟩;refine b l0 ys rfl hl λz=>?_;subst z
   cases a with
   |no t e=>cases t with
    |lst _=>exact e rfl
    |tup e2=>rw[hl] at e2;cases e2
    |dK e2=>rw[hl] at e2;cases e2
   |long e l=>rw[hl] at e;cases e;cases l
   | «at» e _ _ b _=>rw[hl] at e;cases e;cases b
end
noncomputable def Eb (C CF:Addr):Sp:=λvs H Q _=>∃(r L fl A B far:Addr)(p n pf:Int)(as bs:List Addr),vs=[.ref r,.ref L,.ref far]/\aN H r/\Od C CF (del H r) L fl A B far p n pf as bs /\
 ∀H',aN H' r->au (del H r) (del H' r)->Q (.bl true) H'
set_option maxHeartbeats 1000000 in
theorem DX (F:E6 K "_law_both_odd" "_law_both_odd" F8 f fd)(GN:mg "list"=none)(HX:mg "int"=none)(GQ:mg "range"=none)
 (od:eT P w K mg base 8 "_law_odd" GI (Bz C CF))(rf:eT P w K mg base 7 "_law_refused" ["_law_things"] (xI C CF)):Cy P w K mg base (bc P w) 9 f fd GI (Eb C CF):=by
 obtain⟨fOd,VA,SH,SI,SJ,SK⟩:=od;obtain⟨fRf,VB,Ld,Le,Lf,Lg⟩:=rf;refine F.okN mi (λvs H Q E h=>?_) (λGL A outer s H vs Q E hr h=>?_)
 ·obtain⟨r,L,fl,A,B,far,p,n,pf,as,bs,rfl,_⟩:=h;rfl
 ·obtain⟨r,L,fl,A',B',far,p,n,pf,as,bs,rfl,R,O,q⟩:=h;have Nw:pL 8 _:=hr.mono (by decide);have Il:pL 7 _:=hr.mono (by decide);have GU:pL 1 _:=hr.mono (by decide)
  refine⟨_,(aj (@aO _ _ 3 _ _ _ _ mi.nd rfl (Or.inl rfl) (@az _ _ _ _ (@ah _ _ _ _ _ aX (@ah _ _ _ _ _ aX (@ah _ _ _ _ _ aX (@ah _ _ _ _ _ aX af rfl) rfl) rfl) rfl)) rfl (Or.inl rfl))
   (aj (gh PassesOwn.never rfl (dn (by rfl) GQ (@ah _ _ _ _ _ ak af rfl)) (aH (i:=4) mi.nd rfl (Or.inl rfl))
   (aj (c8 (ay SH Nw (by rfl) SJ SK SI .nil ag (@ah _ _ _ _ _ (pv 0) (@ah _ _ _ _ _ (pv 1) (@ah _ _ _ _ _ (pv 2) af rfl) rfl) rfl)) (dQ rfl (aJ (aH (i:=5) mi.nd rfl (Or.inl rfl)) (aJ (aH (i:=6) mi.nd rfl (Or.inl rfl)) cm))))
   (aj (c8 (ay SH Nw (by rfl) SJ SK SI .nil ag (@ah _ _ _ _ _ (pv 0) (@ah _ _ _ _ _ (pv 1) (@ah _ _ _ _ _ (pv 2) af rfl) rfl) rfl)) (dQ rfl (aJ (aH (i:=7) mi.nd rfl (Or.inl rfl)) (aJ (aH (i:=8) mi.nd rfl (Or.inl rfl)) cm))))
   (aj (sv (i:=9) (j:=10) rfl mi.nd rfl rfl (by decide) rfl rfl (@ah _ _ _ _ _ (gm PySem.F.plainAttrs_list PySem.F.slot_list_index PySem.F.type_list_index qt (pv 3) (@ah _ _ _ _ _ (@aQ _ _ _ _ _ _ _ (dk (K:=K) rfl) (pv 6) ak (λ_ _=>rfl)) af rfl)) (@ah _ _ _ _ _ (gm PySem.F.plainAttrs_list PySem.F.slot_list_index PySem.F.type_list_index qt (pv 3) (@ah _ _ _ _ _ (@aQ _ _ _ _ _ _ _ (dk (K:=K) rfl) (pv 8) ak (λ_ _=>rfl)) af rfl)) af rfl) rfl) rfl)
   (ao (aV (@aB _ _ _ _ _ _ _ _ gF (pv 9) (pv 10) (aA _)) (aj (@aO _ _ 11 _ _ _ _ mi.nd rfl (Or.inl rfl) (a9 bO (by rfl) GN (by rfl) (@ah _ _ _ _ _ (pv 5) af rfl)) rfl (Or.inl rfl))
   (aj (c8 (@aQ _ _ _ _ _ _ _ (dk (K:=K) rfl) (pv 7) (pv 10) (λ_ _=>rfl)) (i8 (pv 11) (pv 10) fb))
   (ao (aV (@aB _ _ _ _ _ _ _ _ (show dX _ _ (qA K true) from ig GU) (ay Ld Il (by rfl) Lf Lg Le .nil ag (@ah _ _ _ _ _ (pv 11) af rfl)) (@aQ _ _ _ _ _ _ _ (dk (K:=K) rfl) (@az _ _ _ _ (@ah _ _ _ _ _ (pv 6) (@ah _ _ _ _ _ (pv 8) af rfl) rfl)) (a9 ji (by rfl) HX (by rfl) (@ah _ _ _ _ _ (@bD _ _ _ _ _ _ _ _ eQ (pv 10) (pv 9) (aA _)) af rfl)) (λ_ _=>rfl)) (aA _)) (ao (aw cV)) aE)))) (ao (aV (@aB _ _ _ _ _ _ _ _ aci (@aQ _ _ _ _ _ _ _ (dk (K:=K) rfl) (pv 6) ak (λ_ _=>rfl)) b7 (aA _)) (aj (@aO _ _ 11 _ _ _ _ mi.nd rfl (Or.inl rfl) (a9 bO (by rfl) GN (by rfl) (@ah _ _ _ _ _ (pv 5) af rfl)) rfl (Or.inl rfl))
   (aj (c8 (@aF _ _ _ _ _ _ _ _ bZ (@aQ _ _ _ _ _ _ _ (dk (K:=K) rfl) (pv 11) (pv 9) (λ_ _=>rfl)) (@az _ _ _ _ (@ah _ _ _ _ _ b7 af rfl))) (i8 (pv 11) (pv 9) fb))
   (ao (aV (@aB _ _ _ _ _ _ _ _ (show dX _ _ (qA K true) from ig GU) (ay Ld Il (by rfl) Lf Lg Le .nil ag (@ah _ _ _ _ _ (pv 11) af rfl)) (pv 6) (aA _)) (ao (aw cV)) aE)))) aE))))))))
   (ao (aw cV)))),?_⟩
  refine⟨lX,λlp ep=>?_⟩;have hp:=ai (o:=.lst [.str "field",.str "places",.str "noughts",.str "uppers"]) ep;have xp:upd H lp (.lst [.str "field",.str "places",.str "noughts",.str "uppers"]) lp=some (.lst kX):=ae
  have np:lp≠r:=λz=>by
   obtain⟨i,j,er,_⟩:=R;rw[z,er] at ep
   cases ep
  have R0:=R.same hp;have O0:=O.same (aC (r:=r) hp);have dp:=bw xp np;have q0:∀H',aN H' r->au (del (upd H lp (.lst [.str "field",.str "places",.str "noughts",.str "uppers"])) r) (del H' r)->Q (.bl true) H':=λH' R' s'=>q H' R' (au.trans (aC hp) s');generalize upd H lp _=H0 at R0 O0 dp q0;clear hp xp R O q ep;refine⟨4,rfl,by decide,by decide,?_⟩;refine mM (lo:=0) (n:=4) (λi σ H'=>(∃o4 o5 o6 o7 o8 o9 Ma Mb,σ=[some (.ref r),some (.ref L),some (.ref far),some (.ref lp),o4,o5,o6,o7,o8,o9,Ma,Mb])/\aN H' r/\au (del H0 r) (del H' r)) ⟨⟨_,_,_,_,_,_,_,_,rfl⟩,R0,au.refl _⟩ ?_ ?_
  ·rintro t σ H1 ht ⟨⟨o4,o5,o6,o7,o8,o9,Ma,Mb,rfl⟩,R1,G1⟩;refine⟨_,rfl,_,rfl,_,rfl,r,L,fl,A',B',far,p,n,pf,as,bs,rfl,R1,O0.same G1,λH2 T1 L1 L2 i part z v R2 G2 hT1 Ng Nh od=>?_⟩;refine⟨T1,_,rfl,bX.of (bt _ _ hT1),rfl,_,_,rfl,_,_,rfl,rfl,?_⟩;have G2:=G1.trans G2;refine⟨_,rfl,_,rfl,_,rfl,r,L,fl,A',B',far,p,n,pf,as,bs,rfl,R2,O0.same G2,λH3 T2 M1 M2 j IB z' v' R3 SM hT2 hM1 hM2 OW=>?_⟩;refine⟨T2,_,rfl,bX.of (bt _ _ hT2),rfl,_,_,rfl,_,_,rfl,rfl,?_⟩;have G3:=G2.trans SM;have od:=od.same SM;have Mc:=bt _ _ (SM _ _ Ng);have Me:=bt _ _ (SM _ _ Nh);have xM1:=bt _ _ hM1;have xM2:=bt _ _ hM2;have SN:=bt _ _ (G3 _ _ dp);have i4:=od.b.i4;have j4:=OW.b.i4
   have fl4:∀z∈kX,gH z=true:=by unfold kX;decide
   refine⟨_,rfl,.inl ⟨rfl,_,aM.of SN⟩,_,rfl,L2,_,0,.str part,rfl,rfl,aM.of Me,rfl,lp,kX,.str part,i,rfl,rfl,aM.of SN,fl4,rfl,od.b.idx.1,od.b.idx.2,by omega,_,rfl,.inl ⟨rfl,_,aM.of SN⟩,_,rfl,M2,_,0,.str IB,rfl,rfl,aM.of xM2,rfl,lp,kX,.str IB,j,rfl,rfl,aM.of SN,fl4,rfl,OW.b.idx.1,OW.b.idx.2,by omega,_,_,rfl,?_⟩;refine⟨_,rfl,_,rfl,rfl,_,rfl,?_⟩;have O3:=O0.same G3
   have Ku:∀{b:Addr}{H':Hp},aN H' r->H' b=none->b≠r:=λR e z=>by
    obtain⟨i,j,er,_⟩:=R;rw[z,er] at e
    cases e
   by_cases Im:i=j
   ·rw[decide_eq_true (by rw[Im]:V.int ((i:Nat):Int)=V.int ((j:Nat):Int))];refine aS ?_;refine⟨_,rfl,L2,_,1,v,rfl,rfl,aM.of Me,rfl,rfl,_,rfl,?_⟩
    by_cases hv:v=.non
    ·rw[decide_eq_true hv];exact aS ⟨⟨_,_,_,_,_,_,_,_,rfl⟩,R3,G3⟩
    ·rw[decide_eq_false hv];refine aZ ?_;obtain⟨l0,ys,rfl,hl0,hs,mk⟩:=od.more hv;refine⟨_,rfl,L1,_,rfl,.inl (aM.of Mc),λlb eb=>?_⟩;have h34:=ai (o:=.lst ([V.ref fl,.int n,.ref A',.ref B'].set i (.ref l0))) eb;have xb:upd H3 lb (.lst ([V.ref fl,.int n,.ref A',.ref B'].set i (.ref l0))) lb=some (.lst ([V.ref fl,.int n,.ref A',.ref B'].set i (.ref l0))):=ae;generalize upd H3 lb _=H4 at h34 xb;refine⟨_,rfl,_,rfl,lb,_,(i:Int),.ref l0,rfl,rfl,aM.of xb,(by rw[yC (by rw[List.length_set];exact i4),List.getElem?_set_self (by exact i4)]),m9,λlc ec=>?_⟩;have OX:=ai (o:=.lst [.non]) ec;have xc:upd H4 lc (.lst [.non]) lc=some (.lst [.non]):=ae;generalize upd H4 lc _=Hc at OX xc;refine⟨l0,lc,ys,[.non],rfl,rfl,OX _ _ (h34 _ _ (bt _ _ hl0)),xc,(by rw[sizeLine_eq,List.length_singleton];omega),λld Hd fd HB xd=>?_⟩;have h4d:=au.trans OX HB;refine⟨_,rfl,_,rfl,lb,_,(i:Int),i,rfl,rfl,h4d _ _ xb,yy (by rw[List.length_set];exact i4),?_⟩
     have nld:ld≠lb:=λz=>by rw[z,OX _ _ xb] at fd;cases fd
     have SO:au H3 (upd Hd lb (.lst (([V.ref fl,.int n,.ref A',.ref B'].set i (.ref l0)).set i (.ref ld)))):=λb u e=>by
      have nb:b≠lb:=λz=>by rw[z,eb] at e;cases e
      rw[aq nb];exact h4d _ _ (h34 _ _ e)
     have xld:upd Hd lb (.lst (([V.ref fl,.int n,.ref A',.ref B'].set i (.ref l0)).set i (.ref ld))) ld=some (.lst (ys++[.non])):=by rw[aq nld];exact xd
     have x5:upd Hd lb (.lst (([V.ref fl,.int n,.ref A',.ref B'].set i (.ref l0)).set i (.ref ld))) lb=some (.lst (([V.ref fl,.int n,.ref A',.ref B'].set i (.ref l0)).set i (.ref ld))):=ae;have Rc:=(R3.same h34).same OX;generalize upd Hd lb _=H5 at SO xld x5;have R5:=R3.same SO;have VC:=aC (r:=r) SO;have b5:=mk VC (bw xld (Ku Rc fd))
     obtain⟨f',m',x',y',ex,bd⟩:=Aj (O3.same VC) b5 (xs:=([V.ref fl,.int n,.ref A',.ref B'].set i (.ref l0)).set i (.ref ld)) (by rw[List.length_set,List.length_set];rfl) (by rw[List.getElem?_set_self (by rw[List.length_set];exact i4)]) λk hk=>by rw[List.getElem?_set_ne (by omega),List.getElem?_set_ne (by omega)]
     rw[ex] at x5;refine⟨_,rfl,lb,f',m',x',y',p,n,rfl,x5,.inr ⟨part,v,bd.aac (.of bt),λH6 Rr s6 fR xR=>?_⟩⟩;obtain⟨d,dd,dq,Jh⟩:=gq (K:=K) od.b.num xR;refine⟨_,rfl,d,d,Jh xR,Jh (s6 _ _ (SO _ _ Me)),dd,_,rfl,?_⟩;rw[dq];exact aS ⟨⟨_,_,_,_,_,_,_,_,rfl⟩,R5.same s6,(G3.trans VC).trans (aC s6)⟩
   ·rw[decide_eq_false (by intro z;injection z with z;omega:¬V.int ((i:Nat):Int)=V.int ((j:Nat):Int))];refine aZ ?_;refine⟨_,rfl,L1,_,rfl,.inl (aM.of Mc),λlb eb=>?_⟩;have h34:=ai (o:=.lst ([V.ref fl,.int n,.ref A',.ref B'].set i z)) eb;have xb:upd H3 lb (.lst ([V.ref fl,.int n,.ref A',.ref B'].set i z)) lb=some (.lst ([V.ref fl,.int n,.ref A',.ref B'].set i z)):=ae;refine⟨_,rfl,_,rfl,M1,_,(j:Int),z',rfl,rfl,aM.of (h34 _ _ xM1),(by rw[yC (by rw[List.length_set];exact j4),List.getElem?_set_self (by exact j4)]),_,rfl,_,rfl,lb,_,(j:Int),j,rfl,rfl,xb,yy (by rw[List.length_set];exact j4),?_⟩
    have e5:upd (upd H3 lb (.lst ([V.ref fl,.int n,.ref A',.ref B'].set i z))) lb (.lst (([V.ref fl,.int n,.ref A',.ref B'].set i z).set j z'))=upd H3 lb (.lst (([V.ref fl,.int n,.ref A',.ref B'].set i z).set j z')):=by
     funext b
     by_cases hb:b=lb
     ·subst hb;rw[ae,ae]
     ·rw[aq hb,aq hb,aq hb]
    rw[e5];have h35:=ai (o:=.lst (([V.ref fl,.int n,.ref A',.ref B'].set i z).set j z')) eb;have x5:upd H3 lb (.lst (([V.ref fl,.int n,.ref A',.ref B'].set i z).set j z')) lb=some (.lst (([V.ref fl,.int n,.ref A',.ref B'].set i z).set j z')):=ae;generalize upd H3 lb (.lst (([V.ref fl,.int n,.ref A',.ref B'].set i z).set j z'))=H5 at h35 x5;have hd5:au (del H3 r) H5:=au.trans bt h35;obtain⟨f',m',x',y',ex,bd⟩:=Fc O3 od.b OW.b Im;rw[ex] at x5;have R5:=R3.same h35;have G5:=G3.trans (aC (r:=r) h35);have don:∀{H':Hp},au H5 H'->aN H' r/\au (del H0 r) (del H' r):=λs=>⟨R5.same s,G5.trans (aC s)⟩
    rcases bd with⟨SG,bd⟩|⟨SG,bd⟩
    ·refine⟨_,rfl,lb,f',m',x',y',p,n,rfl,x5,.inr ⟨IB,v',bd.aac (.of hd5),λH6 Rr s6 fR xR=>?_⟩⟩;refine⟨_,rfl,_,rfl,d9,λll el=>?_⟩;have h67:=ai (o:=.lst [.ref L2,.ref M2]) el;have xl:upd H6 ll (.lst [.ref L2,.ref M2]) ll=some (.lst [.ref L2,.ref M2]):=ae;generalize upd H6 ll _=H7 at h67 xl;obtain⟨d,dd,dq,Jh⟩:=gq (K:=K) OW.b.num xR;refine⟨_,rfl,_,rfl,_,_,rfl,rfl,.inr ⟨_,rfl,ll,_,_,.ref M2,rfl,rfl,aM.of xl,(by rw[decide_eq_true (by omega:((j:Nat):Int)<((i:Nat):Int))];rfl),d,d,Jh (h67 _ _ xR),Jh (h67 _ _ (s6 _ _ (h35 _ _ xM2))),dd,_,rfl,?_⟩⟩;rw[dq];exact aS ⟨⟨_,_,_,_,_,_,_,_,rfl⟩,don (s6.trans h67)⟩
    ·refine⟨_,rfl,lb,f',m',x',y',p,n,rfl,x5,.inr ⟨part,v,bd.aac (.of hd5),λH6 Rr s6 fR xR=>?_⟩⟩;refine⟨_,rfl,_,rfl,d9,λll el=>?_⟩;have h67:=ai (o:=.lst [.ref L2,.ref M2]) el;have xl:upd H6 ll (.lst [.ref L2,.ref M2]) ll=some (.lst [.ref L2,.ref M2]):=ae;generalize upd H6 ll _=H7 at h67 xl;obtain⟨d,dd,dq,Jh⟩:=gq (K:=K) od.b.num xR;refine⟨_,rfl,_,rfl,_,_,rfl,rfl,.inr ⟨_,rfl,ll,_,_,.ref L2,rfl,rfl,aM.of xl,(by rw[decide_eq_false (by omega:¬((j:Nat):Int)<((i:Nat):Int))];rfl),d,d,Jh (h67 _ _ xR),Jh (h67 _ _ (s6 _ _ (h35 _ _ Me))),dd,_,rfl,?_⟩⟩;rw[dq];exact aS ⟨⟨_,_,_,_,_,_,_,_,rfl⟩,don (s6.trans h67)⟩
  ·rintro σ H' ⟨⟨o4,o5,o6,o7,o8,o9,Ma,Mb,rfl⟩,R1,G1⟩;exact q0 _ R1 G1
noncomputable abbrev Ar:Stmt:=(aY 57)
theorem eN:uQ ["_law_script","_law_k","_law_room_here","_law_prime_here","_law_field","_law_many","_law_lows","_law_highs","_law_far","_law_things","_law_due","_law_kept","_law_last"] ["_law_script"] (ar Ar):=dI (by decide +kernel)
noncomputable def zm (K:Frag)(H:Hp)(a:Addr)(ns:List Int):Prop:=(∃o,H a=some (.frz o (.lst (ns.map V.int))))\/∃(o:Obj)(its:BU)(n:Nat),K.lookup a=some o/\o.cls=.type "list"/\o.dict=none/\o.data=.seq its n/\its.size<=sizeLine/\L2.aK (ns.map V.int) its.toList
variable {K:Frag}{ns:List Int}
theorem zm.sq (h:zm K H a ns):aM K H a (ns.map V.int):=by
 rcases h with⟨o,h⟩|h
 ·exact .inl (.inr ⟨o,h⟩)
 ·exact .inr h
theorem zm.same (h:zm K H a ns)(S:au H H'):zm K H' a ns:=by
 rcases h with⟨o,h⟩|h
 ·exact .inl ⟨o,S _ _ h⟩
 ·exact .inr h
theorem zm.del (h:zm K H a ns)(R:aN H r):zm K (del H r) a ns:=by
 rcases h with⟨o,h⟩|h
 ·exact .inl ⟨o,bw h (R.ne h λ_ _ z=>by cases z)⟩
 ·exact .inr h
theorem FP.good (h:FP p):good (.int p)=true:=by
 show jx p=true;unfold jx
 rcases h with h|h
 ·rw[h];rfl
 ·have:(Dv.any λq=>q==p)=true:=by
   rw[List.any_eq_true];exact⟨p,h,by simp⟩
  rw[this];simp
theorem yP {o:HO}:upd (upd H a o) a u=upd H a u:=by
 funext b
 by_cases h:b=a
 ·subst h;rw[ae,ae]
 ·rw[aq h,aq h,aq h]
theorem iw {VD GO:Addr}{Q:Hp->Prop}{E:XK}(hf:H fl=none)(hd:H GO=none)(ne:GO≠fl)(hp:FP p)(q:∀H',au H H'->H' fl=some (.ins CF GO (cw p))->Q H'):
 rC CF VD [.ref fl,.int p] (upd (upd H GO (.own fl)) fl (.ins CF GO [])) (λv H2=>v=.non/\Q H2) E:=by
 refine⟨fl,GO,.int p,"int",rfl,.int p,ae,λ_=>⟨rfl,?_⟩,λg=>by rw[hp.good] at g;cases g⟩;rw[yP];exact q _ ((ai hd).trans (ai (by rw[aq (Ne.symm ne)];exact hf))) ae
structure Dr (C CF:Addr)(p n:Int)(G:Hp)(as:List Addr):Prop where
 wi:∀a∈as,WX C CF p n G (.ref a) true
 sh:∀a∈as,∃p ts,SW C CF G a p ts/\(rT p ts).length<=100000
theorem Dr.same (h:Dr C CF p n G as)(s:au G G'):Dr C CF p n G' as:=⟨λa ha=>(h.wi a ha).aac (.of s),λa ha=>let⟨p,ts,w,z⟩:=h.sh a ha;⟨p,ts,w.aac (.of s),z⟩⟩
theorem Dr.snoc (h:Dr C CF p n G as)(sw:SW C CF G a p (fM (bK p ts)))(hp:FP p)(g:∀t∈ts,Bj p 5 t)(l:ts.length<=4)(hn:5<=n):Dr C CF p n G (as++[a]):=by
 have hr:eC (fM (bK p ts))<=n:=Int.le_trans (kg (many:=5) (by decide) λt ht k hk=>by
  obtain⟨x,hx,ex⟩:=gQ ht;rw[ex] at hk
  exact((g x hx).2.2.1 k hk).2) hn
 have hl:(fM (bK p ts)).length<=4:=Nat.le_trans (uk hp (by decide) g (by omega)).1 l;refine⟨λb hb=>?_,λb hb=>?_⟩
 ·rcases List.mem_append.mp hb with hb|hb
  ·exact h.wi b hb
  ·rw[List.mem_singleton.mp hb];have z:=WX.sum (p:=p) (n:=n) sw;rw[decide_eq_true (rfl:p=p),decide_eq_true hr] at z;exact z
 ·rcases List.mem_append.mp hb with hb|hb
  ·exact h.sh b hb
  ·rw[List.mem_singleton.mp hb];exact⟨p,_,sw,qH hp hl sw.wr⟩
theorem jP {x:Addr}:∀(k:Nat),(List.replicate k [V.ref x]).flatten=(List.replicate k x).map V.ref
 |0=>rfl
 |k+1=>by rw[List.replicate_succ,List.replicate_succ,List.flatten_cons,jP k];rfl
theorem Od.shA {B:Addr}{bs:List Addr}(O:Od C CF G L fl A B far p n pf as bs):(∃t,BG C CF G (.ref A) t)/\∃t,BG C CF G (.ref B) t:=by
 have key:∀{l:Addr}{cs:List Addr},G l=some (.lst (cs.map V.ref))->cs.length<=4->(∀a∈cs,a∈as++bs)->∃t,BG C CF G (.ref l) t:=λhl l4 hc=>oX (m:=100000) hl (by rw[List.length_map];omega) λy hy=>by
  obtain⟨c,HD,rfl⟩:=List.mem_map.mp hy;obtain⟨p,ts,w,z⟩:=O.sh c (hc c HD);exact⟨_,.sum w,z⟩
 exact⟨key O.A O.l1 λa ha=>List.mem_append_left _ ha,key O.B O.l2 λa ha=>List.mem_append_right _ ha⟩
theorem CP {B:Addr}{bs:List Addr}{i:Nat}{part:String}{v:V}(O:Od C CF G L fl A B far p n pf as bs)(h:ET C CF p n G i part z v):∃x y t u,fO ([V.ref fl,.int n,.ref A,.ref B].set i z) (some 2) none=[x,y]/\BG C CF G x t/\BG C CF G y u:=by
 obtain⟨⟨ta,ha⟩,tb,hb⟩:=O.shA;have cut:∀{a b c d:V},fO [a,b,c,d] (some 2) none=[c,d]:=rfl
 cases h with
 |f _=>exact⟨_,_,ta,tb,cut,ha,hb⟩
 |n _ _=>exact⟨_,_,ta,tb,cut,ha,hb⟩
 |l _ s _=>exact⟨_,_,_,tb,cut,s,hb⟩
 |u _ s _=>exact⟨_,_,ta,_,cut,ha,s⟩
theorem dN (H:Hp):aR K H (.str "none") (.str "none"):=by unfold aR;rfl
theorem Fo:iq (.str "none") (.str "none")=true:=by simp[iq]
theorem E4:oW (.str "none")<=32:=by simp[oW]
noncomputable def v8 (K:Frag):Sp:=λvs H Q _=>∃(a:Addr)(ns:List Int),vs=[.ref a]/\zm K H a ns/\ns.length<=63/\∀H',Q (.bl true) H'
set_option maxHeartbeats 1000000 in
theorem BR {fs ff VD:Addr}{Iw OC:GF}(F:E6 K "law" "law" Ar f fd)(cF:Cp K mg CF)(c:vn K mg C)(HC:mg "max"=none)(JY:mg "min"=none)(GP:mg "len"=none)(GQ:mg "range"=none)(IG:mg "repr"=none)(HX:mg "int"=none)
 (MS:Mk K C fs)(FS:Cy P w K mg base (bc P w) 6 fs Iw vX (iT C CF))(bS:L2.aI K Iw vX [])
 (MF:Mk K CF ff)(FF:Cy P w K mg base (bc P w) 2 ff OC zD (rC CF VD))(bF:L2.aI K OC zD [])
 (rp:eY P w K mg base 8 C "__repr__" ["self"] (fV C CF))
 (rm:eT P w K mg base 1 "_law_room" Eu (yL K))(tk:eT P w K mg base 1 "_law_take" Eh CI)(pr:eT P w K mg base 2 "_law_prime" ["_law_room_here"] mx)(tm:eT P w K mg base 3 "_law_terms" zF CV)
 (ri:eT P w K mg base 9 "_law_right" BF (Ep C CF))(od:eT P w K mg base 8 "_law_odd" GI (Bz C CF))(bo:eT P w K mg base 9 "_law_both_odd" GI (Eb C CF))(rf:eT P w K mg base 7 "_law_refused" ["_law_things"] (xI C CF)):
 Cy P w K mg base (bc P w) 110 f fd ["_law_script"] (v8 K):=by
 obtain⟨fRm,aeA,FRm,bRm,mRm,kRm⟩:=rm;obtain⟨fTk,Vs,K9,La,Lb,Lc⟩:=tk;obtain⟨fPr,aeF,FPr,bPr,mPr,kPr⟩:=pr;obtain⟨fTe,Vi,Nr,Nt,Nu,Nv⟩:=tm;obtain⟨fRi,aeK,FRi,bRi,mRi,kRi⟩:=ri;obtain⟨fOd,VA,SH,SI,SJ,SK⟩:=od;obtain⟨fBo,aeP,FBo,bBo,mBo,kBo⟩:=bo;obtain⟨fRf,VB,Ld,Le,Lf,Lg⟩:=rf;refine F.okN eN (λvs H Q E h=>?_) (λGL A outer s H vs Q E hr h=>?_)
 ·obtain⟨a,ns,rfl,_⟩:=h;rfl
 ·obtain⟨a,ns,rfl,scr,hlen,fin⟩:=h;have hrB:pL 109 _:=hr;have hr9:pL 9 _:=hr.mono (by decide);have Nw:pL 8 _:=hr.mono (by decide);have Il:pL 7 _:=hr.mono (by decide);have Iz:pL 3 _:=hr.mono (by decide);have HR:pL 2 _:=hr.mono (by decide);have GU:pL 1 _:=hr.mono (by decide)
  refine⟨_,(aj (gh PassesOwn.never rfl (dn (by rfl) GQ (@ah _ _ _ _ _ (aD (abr rfl) (by rfl) HC (by rfl) (@ah _ _ _ _ _ ak (@ah _ _ _ _ _ (aD (aaR rfl) (by rfl) JY (by rfl) (@ah _ _ _ _ _ (aD bp (by rfl) GP PySem.boot_len (@ah _ _ _ _ _ (pv 0) af rfl)) (@ah _ _ _ _ _ ak af rfl) rfl)) af rfl) rfl)) af rfl)) (aH (i:=1) eN.nd rfl (Or.inl rfl))
   (aj (@aO _ _ 2 _ _ _ _ eN.nd rfl (Or.inr rfl) (ay FRm GU (by rfl) mRm kRm bRm .nil ag (@ah _ _ _ _ _ (pv 0) (@ah _ _ _ _ _ (pv 1) af rfl) rfl)) rfl (Or.inl rfl))
   (aj (@aO _ _ 3 _ _ _ _ eN.nd rfl (Or.inr rfl) (ay FPr HR (by rfl) mPr kPr bPr .nil ag (@ah _ _ _ _ _ (pv 2) af rfl)) rfl (Or.inl rfl))
   (aj (@aO _ _ 4 _ _ _ _ eN.nd rfl (Or.inr rfl) (bz MF FF Iz (by rfl) cF.mgC bF .nil ag (@ah _ _ _ _ _ (pv 3) af rfl)) rfl (Or.inl rfl))
   (aj (@aO _ _ 5 _ _ _ _ eN.nd rfl (Or.inl rfl) (@aQ _ _ _ _ _ _ _ (dk (K:=K) rfl) (@az _ _ _ _ (@ah _ _ _ _ _ (@aF _ _ _ _ _ _ _ _ cH ak (ay K9 GU (by rfl) Lb Lc La .nil ag (@ah _ _ _ _ _ (pv 2) (@ah _ _ _ _ _ ak af rfl) rfl))) (@ah _ _ _ _ _ ak (@ah _ _ _ _ _ ak af rfl) rfl) rfl)) (ay K9 GU (by rfl) Lb Lc La .nil ag (@ah _ _ _ _ _ (pv 2) (@ah _ _ _ _ _ ak af rfl) rfl)) (λ_ _=>rfl)) rfl (Or.inl rfl))
   (aj (iG (i:=6) (N:=["_law_k","_law_room_here","_law_prime_here"]) (nl:=1) (js:=[2,3]) (osc:=ar Ar) ⟨rfl,rfl,by decide +kernel,by decide +kernel,by decide +kernel,rfl,(.cons ⟨rfl,by decide +kernel⟩ (.cons ⟨rfl,by decide +kernel⟩ .nil)),by decide +kernel⟩ rfl eN.nd rfl (Or.inl rfl)
    (dn (by rfl) GQ (@ah _ _ _ _ _ (ay K9 GU (by rfl) Lb Lc La .nil ag (@ah _ _ _ _ _ (pv 2) (@ah _ _ _ _ _ ak af rfl) rfl)) af rfl))
    (λCq fq sq Hq=>aH (i:=0) (by show(["_law_k","_law_room_here","_law_prime_here"]:xQ).Nodup;decide +kernel) rfl (Or.inl rfl) (Or.inr rfl))
    (λCq fq sq Hq=>eR)
    (λCq fq sq Hq=>(bz MS FS Il (by rfl) c.c.mgC bS .nil ag (@ah _ _ _ _ _ (bz MF FF Iz (by rfl) cF.mgC bF .nil ag (@ah _ _ _ _ _ (pv 2) af rfl)) (@ah _ _ _ _ _ (ay Nr Iz (by rfl) Nu Nv Nt .nil ag (@ah _ _ _ _ _ (pv 1) (@ah _ _ _ _ _ (pv 2) (@ah _ _ _ _ _ ak (@ah _ _ _ _ _ ak af rfl) rfl) rfl) rfl)) af rfl) rfl))) (by rfl))
   (aj (@aO _ _ 7 _ _ _ _ eN.nd rfl (Or.inl rfl) (@az _ _ _ _ af) rfl (Or.inl rfl))
   (aj (aV (@aB _ _ _ _ _ _ _ _ cM (pv 3) ak (aA _)) (ao (iG (i:=7) (N:=["_law_k","_law_room_here","_law_field"]) (nl:=1) (js:=[2,4]) (osc:=ar Ar) ⟨rfl,rfl,by decide +kernel,by decide +kernel,by decide +kernel,rfl,(.cons ⟨rfl,by decide +kernel⟩ (.cons ⟨rfl,by decide +kernel⟩ .nil)),by decide +kernel⟩ rfl eN.nd rfl (Or.inl rfl)
    (dn (by rfl) GQ (@ah _ _ _ _ _ (ay K9 GU (by rfl) Lb Lc La .nil ag (@ah _ _ _ _ _ (pv 2) (@ah _ _ _ _ _ ak af rfl) rfl)) af rfl))
    (λCq fq sq Hq=>aH (i:=0) (by show(["_law_k","_law_room_here","_law_field"]:xQ).Nodup;decide +kernel) rfl (Or.inl rfl) (Or.inr rfl))
    (λCq fq sq Hq=>eR)
    (λCq fq sq Hq=>(bz MS FS Il (by rfl) c.c.mgC bS .nil ag (@ah _ _ _ _ _ (pv 2) (@ah _ _ _ _ _ (ay Nr Iz (by rfl) Nu Nv Nt .nil ag (@ah _ _ _ _ _ (pv 1) (@ah _ _ _ _ _ ak (@ah _ _ _ _ _ ak (@ah _ _ _ _ _ ak af rfl) rfl) rfl) rfl)) af rfl) rfl))) (by rfl))) aE)
   (aj (aV (bM (cf (ay FRi hr9 (by rfl) mRi kRi bRi .nil ag (@ah _ _ _ _ _ (pv 4) (@ah _ _ _ _ _ (pv 5) (@ah _ _ _ _ _ (pv 6) (@ah _ _ _ _ _ (pv 7) af rfl) rfl) rfl) rfl)))) (ao (aw cV)) aE)
   (aj (@aO _ _ 8 _ _ _ _ eN.nd rfl (Or.inl rfl) (bz MF FF Iz (by rfl) cF.mgC bF .nil ag (@ah _ _ _ _ _ (@aQ _ _ _ _ _ _ _ (dk (K:=K) rfl) (@az _ _ _ _ (@ah _ _ _ _ _ ak (@ah _ _ _ _ _ ak af rfl) rfl)) (a9 ji (by rfl) HX (by rfl) (@ah _ _ _ _ _ (@bD _ _ _ _ _ _ _ _ cM (pv 3) ak (aA _)) af rfl)) (λ_ _=>rfl)) af rfl)) rfl (Or.inl rfl))
   (aj (c8 (ay SH Nw (by rfl) SJ SK SI .nil ag (@ah _ _ _ _ _ (pv 2) (@ah _ _ _ _ _ (@az _ _ _ _ (@ah _ _ _ _ _ (pv 4) (@ah _ _ _ _ _ (pv 5) (@ah _ _ _ _ _ (pv 6) (@ah _ _ _ _ _ (pv 7) af rfl) rfl) rfl) rfl)) (@ah _ _ _ _ _ (pv 8) af rfl) rfl) rfl)) (dQ rfl (aJ (aH (i:=9) eN.nd rfl (Or.inl rfl)) (aJ (aH (i:=10) eN.nd rfl (Or.inl rfl)) cm))))
   (aj (@aO _ _ 11 _ _ _ _ eN.nd rfl (Or.inl rfl) (aD (k7 (k:=13) hrB (by decide) (by decide)) (by rfl) IG (by rfl) (@ah _ _ _ _ _ (cL dW (pv 9) (dF ak) de) af rfl)) rfl (Or.inl rfl))
   (aj (aV (PW.pt (dH (@aB _ _ _ _ _ _ _ _ (show dX _ _ (qA K true) from ig GU) (ay Ld Il (by rfl) Lf Lg Le .nil ag (@ah _ _ _ _ _ (pv 9) af rfl)) (pv 10) (aA _)) (dt (@aB _ _ _ _ _ _ _ _ gF (aD (k7 (k:=13) hrB (by decide) (by decide)) (by rfl) IG (by rfl) (@ah _ _ _ _ _ (cL dW (pv 9) (dF ak) de) af rfl)) (pv 11) (aA _))))) (ao (aw cV)) aE)
   (aj (aV (bM (cf (ay FBo hr9 (by rfl) mBo kBo bBo .nil ag (@ah _ _ _ _ _ (pv 2) (@ah _ _ _ _ _ (@az _ _ _ _ (@ah _ _ _ _ _ (pv 4) (@ah _ _ _ _ _ (pv 5) (@ah _ _ _ _ _ (pv 6) (@ah _ _ _ _ _ (pv 7) af rfl) rfl) rfl) rfl)) (@ah _ _ _ _ _ (pv 8) af rfl) rfl) rfl)))) (ao (aw cV)) aE)
   (aj (aV (@aB _ _ _ _ _ _ _ _ (show dX _ _ (qA K true) from ig GU) (ay Ld Il (by rfl) Lf Lg Le .nil ag (@ah _ _ _ _ _ (@az _ _ _ _ (@ah _ _ _ _ _ (pv 4) (@ah _ _ _ _ _ (pv 5) (@ah _ _ _ _ _ (pv 6) (@ah _ _ _ _ _ (pv 7) af rfl) rfl) rfl) rfl)) af rfl)) aX (aA _)) (ao (aw cV)) aE)
   (aj (@aO _ _ 12 _ _ _ _ eN.nd rfl (Or.inl rfl) (bz MS FS Il (by rfl) c.c.mgC bS .nil ag (@ah _ _ _ _ _ (pv 4) (@ah _ _ _ _ _ (@az _ _ _ _ (@ah _ _ _ _ _ (@bq _ _ _ _ _ (@ah _ _ _ _ _ (@bq _ _ _ _ _ (@ah _ _ _ _ _ (@aF _ _ _ _ _ _ _ _ gf (pv 5) ak) af rfl)) (@ah _ _ _ _ _ (@bq _ _ _ _ _ (@ah _ _ _ _ _ ak (@ah _ _ _ _ _ ak af rfl) rfl)) af rfl) rfl)) af rfl)) af rfl) rfl)) rfl (Or.inl rfl))
   (aj (aV (@aB _ _ _ _ _ _ _ _ (show dX _ _ (qA K true) from ig GU) (ay Ld Il (by rfl) Lf Lg Le .nil ag (@ah _ _ _ _ _ (@az _ _ _ _ (@ah _ _ _ _ _ (pv 4) (@ah _ _ _ _ _ (pv 5) (@ah _ _ _ _ _ (@aF _ _ _ _ _ _ _ _ bZ (@aF _ _ _ _ _ _ _ _ oJ (@az _ _ _ _ (@ah _ _ _ _ _ (bz MS FS Il (by rfl) c.c.mgC bS .nil ag (@ah _ _ _ _ _ (pv 4) (@ah _ _ _ _ _ (@az _ _ _ _ af) af rfl) rfl)) af rfl)) ak) (@az _ _ _ _ (@ah _ _ _ _ _ (pv 12) af rfl))) (@ah _ _ _ _ _ (pv 7) af rfl) rfl) rfl) rfl)) af rfl)) aX (aA _)) (ao (aw cV)) aE)
   (aj (aV (PW.pt (je (@aB _ _ _ _ _ _ _ _ cM (pv 3) ak (aA _)) (iP (@aB _ _ _ _ _ _ _ _ (show dX _ _ (qA K true) from ig GU) (ay Ld Il (by rfl) Lf Lg Le .nil ag (@ah _ _ _ _ _ (@az _ _ _ _ (@ah _ _ _ _ _ (pv 4) (@ah _ _ _ _ _ (pv 5) (@ah _ _ _ _ _ (pv 6) (@ah _ _ _ _ _ (@aF _ _ _ _ _ _ _ _ oJ (@az _ _ _ _ (@ah _ _ _ _ _ (pv 12) af rfl)) ak) af rfl) rfl) rfl) rfl)) af rfl)) aX (aA _))))) (ao (aw cV)) aE)
   (ao (aV (@aB _ _ _ _ _ _ _ _ (show dX _ _ (qA K true) from ig GU) (ay Ld Il (by rfl) Lf Lg Le .nil ag (@ah _ _ _ _ _ (@az _ _ _ _ (@ah _ _ _ _ _ (pv 4) (@ah _ _ _ _ _ (pv 5) (@ah _ _ _ _ _ (pv 6) (@ah _ _ _ _ _ (@aF _ _ _ _ _ _ _ _ oJ (@az _ _ _ _ (@ah _ _ _ _ _ (pv 12) af rfl)) ak) af rfl) rfl) rfl) rfl)) af rfl)) (@az _ _ _ _ (@ah _ _ _ _ _ aX (@ah _ _ _ _ _ b7 af rfl) rfl)) (aA _)) (ao (aw cV)) aE))))))))))))))))))))
   (ao (aw cV))),?_⟩
  refine⟨_,rfl,a,_,rfl,.inl scr.sq,_,_,rfl,_,_,rfl,_,rfl,?_,?_,?_⟩
  ·rw[List.length_map]
   split <;> split <;> omega
  ·rw[List.length_map]
   split <;> split <;> omega
  refine mM (lo:=0) (λi σ H'=>(∃o1 o2 o3 o4 o5 o6 o7 o8 o9 Ma Mb VE,σ=[some (.ref a),o1,o2,o3,o4,o5,o6,o7,o8,o9,Ma,Mb,VE])/\zm K H' a ns) ⟨⟨_,_,_,_,_,_,_,_,_,_,_,_,rfl⟩,scr⟩ ?_ ?_
  ·rintro i σ G0 hi ⟨⟨o1,o2,o3,o4,o5,o6,o7,o8,o9,Ma,Mb,VE,rfl⟩,VF⟩
   have aeU:i<60:=by
    rw[List.length_map] at hi
    split at hi <;> split at hi <;> omega
   refine⟨_,rfl,_,rfl,a,ns,0+(i:Int),rfl,VF.sq,hlen,by omega,by omega,λr l1 r1 KW GU HR=>?_⟩;have VG:=VF.same (ai (o:=.lst [.int l1,.int r1]) KW);have R1:aN (upd G0 r (.lst [.int l1,.int r1])) r:=⟨l1,r1,ae,GU,HR⟩;generalize upd G0 r _=H1 at VG R1;have scd:=VG.del R1;clear VF KW VG;refine⟨_,rfl,r,rfl,R1,λp H2 hp R2 S2=>?_⟩;have D2:=jI S2;refine⟨_,rfl,λfl GO b1 b2 b3=>iw b1 b2 b3 hp λH3 h23 Ip=>?_⟩;have R3:=R2.same h23;have D3:=D2.trans (aC (r:=r) h23);have gfl:=bw Ip (R3.ne Ip λ_ _ z=>by cases z);obtain⟨i3,j3,OY,c3,c3'⟩:=id R3;refine⟨_,rfl,r,i3,j3,3,rfl,OY,c3,c3',(by decide),(by decide),λz l4 r4 z0 z1 d0 d1=>?_⟩;have R4:aN (upd H3 r (.lst [.int l4,.int r4])) r:=⟨l4,r4,ae,d0,d1⟩;have D4:del (upd H3 r (.lst [.int l4,.int r4])) r=del H3 r:=fN;generalize upd H3 r _=H4 at R4 D4;refine⟨_,_,rfl,rfl,Fg,λlm em=>?_⟩;have h45:=ai (o:=.lst [.int (5+z),.int 60,.int 5]) em;have xm:upd H4 lm (.lst [.int (5+z),.int 60,.int 5]) lm=some (.lst [.int (5+z),.int 60,.int 5]):=ae;generalize upd H4 lm _=H5 at h45 xm;have R5:=R4.same h45
   have nlm:lm≠r:=R5.ne xm λ_ _ z=>by cases z
   obtain⟨i5,j5,OZ,c5,c5'⟩:=id R5;refine⟨_,rfl,r,i5,j5,3,rfl,OZ,c5,c5',(by decide),(by decide),λw' l6 r6 w0 w1 d2 d3=>?_⟩;have R6:aN (upd H5 r (.lst [.int l6,.int r6])) r:=⟨l6,r6,ae,d2,d3⟩;have D6:del (upd H5 r (.lst [.int l6,.int r6])) r=del H5 r:=fN
   have VH:upd H5 r (.lst [.int l6,.int r6]) lm=some (.lst [.int (5+z),.int 60,.int 5]):=by rw[aq nlm];exact xm
   generalize upd H5 r _=H6 at R6 D6 VH
   have key:∃n,iY [V.int (5+z),.int 60,.int 5] w'=some (.int n)/\5<=n/\n<=60:=by
    rcases(by omega:w'=0\/w'=1\/w'=2) with rfl|rfl|rfl
    ·exact⟨_,rfl,by omega,by omega⟩
    ·exact⟨_,rfl,by omega,by omega⟩
    ·exact⟨_,rfl,by omega,by omega⟩
   obtain⟨n,en,n5,n60⟩:=key;refine⟨lm,_,w',.int n,rfl,rfl,aM.of VH,en,?_⟩
   have VI:au (del H3 r) (del H6 r):=by rw[D6,<-D4];exact aC h45
   have O4:=VI _ _ gfl;have D16:=D3.trans VI;have sc6:=scd.same D16;clear scd D16 VI D6 D4 VH xm nlm OZ OY h45 R5 R4 R3 D3 gfl Ip h23 D2 S2 R1 R2;obtain⟨i6,j6,O5,c6,c6'⟩:=id R6;refine⟨_,rfl,r,i6,j6,5,rfl,O5,c6,c6',(by decide),(by decide),λk1 l7 r7 k10 k11 d4 d5=>?_⟩;have R7:aN (upd H6 r (.lst [.int l7,.int r7])) r:=⟨l7,r7,ae,d4,d5⟩;have D7:del (upd H6 r (.lst [.int l7,.int r7])) r=del H6 r:=fN;generalize upd H6 r _=H7 at R7 D7;refine⟨k1,rfl,by omega,by omega,?_⟩;refine lP (lo:=0) (n:=k1.toNat) (rest:=[some (.ref r),some (.int p)]) (λi us H'=>aN H' r/\au (del H6 r) (del H' r)/\∃as,us=as.map V.ref/\as.length=i/\Dr C CF p n (del H' r) as) ⟨R7,(by rw[D7];exact au.refl _),[],rfl,rfl,⟨λ_ z=>(nomatch z),λ_ z=>(nomatch z)⟩⟩ (λi us H' hi h=>?_) (λi us H' N hi h k=>?_) (λus H' h=>?_)
   ·obtain⟨_,_,as,rfl,l,_⟩:=h;rw[List.length_map,l,sizeLine_eq];omega
   ·obtain⟨R8,D8,as,rfl,la,dr⟩:=h;refine uU ⟨_,rfl,λf2 d2 b1 b2 b3=>iw b1 b2 b3 hp λH9 h89 hf2=>?_⟩;have R9:=R8.same h89;refine⟨_,rfl,_,rfl,r,p,5,4,rfl,R9,hp,by decide,by decide,by decide,by decide,λD ys ts JD hD Ni hl hG NG S10=>?_⟩;refine λso ds e1 e2 e3=>gZ (many:=5) (S10 _ _ hf2 (R9.ne hf2 λ_ _ z=>by cases z)) hp hD Ni (by decide) hG (by omega) e1 e2 e3 λOH h1011 M=>?_;have O6:=NG.same h1011;have O7:=((aC (r:=r) h89).trans (jI S10)).trans (aC (r:=r) h1011);refine k _ _ ⟨O6,D8.trans O7,as++[so],by rw[List.map_append];rfl,by rw[List.length_append,la];rfl,(dr.same O7).snoc (M.del O6) hp hG (by omega) n5⟩
   ·obtain⟨R8,D8,as,rfl,la,dr⟩:=h;intro A' hA';have h89:=ai (o:=.lst (as.map V.ref)) hA';have xA:upd H' A' (.lst (as.map V.ref)) A'=some (.lst (as.map V.ref)):=ae;generalize upd H' A' _=H9 at h89 xA;have R9:=R8.same h89;have D9:=D8.trans (aC (r:=r) h89);have gA:=bw xA (R9.ne xA λ_ _=>uF);have dr9:=dr.same (aC (r:=r) h89)
    have la4:as.length<=4:=by omega
    have Mf:=D9 _ _ O4;have sc9:=sc6.same D9;clear dr D8 R8 h89 xA hA' R7 D7 O4 sc6 D9 O5 R6;refine⟨Nat.zero_le _,λB0 eB0=>?_⟩;have h910:=ai (o:=.lst []) eB0;have SQ:upd H9 B0 (.lst []) B0=some (.lst []):=ae;generalize upd H9 B0 _=JD at h910 SQ;have NG:=R9.same h910;have gB0:=bw SQ (NG.ne SQ λ_ _ z=>by cases z);dsimp only[vM,c9];refine EJ (λσ Hx=>∃B bs,σ=[some (.ref a),some (.int (0+(i:Int))),some (.ref r),some (.int p),some (.ref fl),some (.int n),some (.ref A'),some (.ref B),o8,o9,Ma,Mb,VE]/\aN Hx r/\au (del H9 r) (del Hx r)/\del Hx r B=some (.lst (bs.map V.ref))/\Dr C CF p n (del Hx r) bs/\bs.length<=2/\(bs≠[]->p=0)) (λD' JZ=>?_) ?_
    ·refine⟨_,rfl,rfl,_,rfl,?_⟩
     by_cases HM:p=0
     ·subst HM;refine aZ ?_;obtain⟨i7,j7,VJ,c7,c7'⟩:=id NG;refine⟨_,rfl,r,i7,j7,3,rfl,VJ,c7,c7',(by decide),(by decide),λk2 l8 r8 k20 k21 d6 d7=>?_⟩;have O6:aN (upd JD r (.lst [.int l8,.int r8])) r:=⟨l8,r8,ae,d6,d7⟩;have D11:del (upd JD r (.lst [.int l8,.int r8])) r=del JD r:=fN;generalize upd JD r _=OH at O6 D11;refine⟨k2,rfl,by omega,by omega,?_⟩;refine lP (lo:=0) (n:=k2.toNat) (rest:=[some (.ref r),some (.ref fl)]) (λi us H'=>aN H' r/\au (del H9 r) (del H' r)/\∃bs,us=bs.map V.ref/\bs.length=i/\Dr C CF 0 n (del H' r) bs) ⟨O6,(by rw[D11];exact aC h910),[],rfl,rfl,⟨λ_ z=>(nomatch z),λ_ z=>(nomatch z)⟩⟩ (λi us H' hi h=>?_) (λi us H' N hi h k=>?_) (λus H' h=>?_)
      ·obtain⟨_,_,bs,rfl,l,_⟩:=h;rw[List.length_map,l,sizeLine_eq];omega
      ·obtain⟨SR,SS,bs,rfl,lb,Mg⟩:=h;refine uU ⟨_,rfl,_,rfl,r,0,5,3,rfl,SR,hp,by decide,by decide,by decide,by decide,λD ys ts Vc hD Ni hl hG SU S13=>?_⟩;have Lh:=bt _ _ (SS _ _ Mf);refine λso ds e1 e2 e3=>gZ (many:=5) (S13 _ _ Lh (SR.ne Lh λ_ _ z=>by cases z)) hp hD Ni (by decide) hG (by omega) e1 e2 e3 λH14 h1314 M=>?_;have R14:=SU.same h1314;have Li:=(jI S13).trans (aC (r:=r) h1314);exact k _ _ ⟨R14,SS.trans Li,bs++[so],by rw[List.map_append];rfl,by rw[List.length_append,lb];rfl,(Mg.same Li).snoc (M.del R14) hp hG (by omega) n5⟩
      ·obtain⟨SR,SS,bs,rfl,lb,Mg⟩:=h;intro B hB;have h1213:=ai (o:=.lst (bs.map V.ref)) hB;have xB:upd H' B (.lst (bs.map V.ref)) B=some (.lst (bs.map V.ref)):=ae;generalize upd H' B _=Vc at h1213 xB;have SU:=SR.same h1213;exact JZ _ _ ⟨B,bs,rfl,SU,SS.trans (aC (r:=r) h1213),bw xB (SU.ne xB λ_ _=>uF),Mg.same (aC (r:=r) h1213),by omega,λ_=>rfl⟩
     ·rw[decide_eq_false (by intro z;cases z;exact HM rfl:¬V.int p=V.int 0)];exact aS (JZ _ _ ⟨B0,[],rfl,NG,aC (r:=r) h910,gB0,⟨λ_ z=>(nomatch z),λ_ z=>(nomatch z)⟩,by decide,λz=>absurd rfl z⟩)
    ·rintro σ' Hb ⟨B,bs,rfl,Rb,Db,gB,Mg,lb2,ub⟩;have SV:=Db _ _ gA;have Mh:=Db _ _ Mf;have Mi:=dr9.same Db;have scb:=sc9.same Db
     have gd:Gd C CF (del Hb r) fl p n as bs:=⟨⟨GO,Mh⟩,hp,by omega,n60,λx hx=>by
      rcases List.mem_append.mp hx with hx|hx
      ·exact Mi.wi x hx
      ·exact Mg.wi x hx,by omega,by omega,ub⟩
     have VL:∀x∈as++bs,∃p ts,SW C CF (del Hb r) x p ts/\(rT p ts).length<=100000:=λx hx=>by
      rcases List.mem_append.mp hx with hx|hx
      ·exact Mi.sh x hx
      ·exact Mg.sh x hx
     clear Mi Mg dr9 sc9 Mf gA Db R9 h910 SQ NG gB0 eB0;have sb:au (del Hb r) Hb:=bt;refine⟨_,rfl,_,rfl,_,rfl,_,rfl,fl,A',B,p,n,as,bs,rfl,gd.same sb,sb _ _ SV,sb _ _ gB,λHc JE=>⟨_,rfl,aS ?_⟩⟩;have Rc:=Rb.same JE;have Dc:=aC (r:=r) JE;refine⟨d9,λlf ef=>?_⟩;have HB:=ai (o:=.lst [.int 7,.int 11]) ef;have xf:upd Hc lf (.lst [.int 7,.int 11]) lf=some (.lst [.int 7,.int 11]):=ae;generalize upd Hc lf _=Hd at HB xf
     have pick:∃pf,iY [V.int 7,.int 11] (if decide (V.int p=V.int 7) then 1 else 0)=some (.int pf)/\FP pf/\pf≠p:=by
      by_cases h7:p=7
      ·rw[decide_eq_true (by rw[h7]:V.int p=V.int 7)];exact⟨11,rfl,.inr (by decide),by omega⟩
      ·rw[decide_eq_false (by intro z;cases z;exact h7 rfl:¬V.int p=V.int 7)];exact⟨7,rfl,.inr (by decide),by omega⟩
     obtain⟨pf,epf,VM,npf⟩:=pick;refine⟨_,rfl,rfl,.inr ⟨_,rfl,lf,_,_,.int pf,rfl,rfl,aM.of xf,epf,λfar Kv b1 b2 b3=>iw b1 b2 b3 VM λHe Jw Jg=>?_⟩⟩;have Kp:=au.trans HB Jw;have Re:=Rc.same Kp;have De:=Dc.trans (aC (r:=r) Kp);have Mj:=bw Jg (Re.ne Jg λ_ _ z=>by cases z);refine⟨_,rfl,_,rfl,_,rfl,_,rfl,_,rfl,lX,λL eL=>?_⟩;have JF:=ai (o:=.lst [.ref fl,.int n,.ref A',.ref B]) eL;have xL:upd He L (.lst [.ref fl,.int n,.ref A',.ref B]) L=some (.lst [.ref fl,.int n,.ref A',.ref B]):=ae;generalize upd He L _=Hf at JF xL;have Rf:=Re.same JF;have Df:=De.trans (aC (r:=r) JF);have O:Od C CF (del Hf r) L fl A' B far p n pf as bs:=⟨gd.same Df,bw xL (Rf.ne xL λ_ _ z=>by cases z),Df _ _ SV,Df _ _ gB,⟨Kv,aC (r:=r) JF _ _ Mj⟩,VM,npf,la4,by omega,λx hx=>let⟨p,ts,w,z⟩:=VL x hx;⟨p,ts,w.aac (.of Df),z⟩⟩;refine⟨_,rfl,r,L,fl,A',B,far,p,n,pf,as,bs,rfl,Rf,O,λHg T L1 L2 j part z v Rg Gg hT Ng Nh ox=>?_⟩;refine⟨T,_,rfl,bX.of (bt _ _ hT),rfl,_,_,rfl,_,_,rfl,rfl,?_⟩;have Og:=O.same Gg;have Mc:=bt _ _ Ng;have Me:=bt _ _ Nh;obtain⟨x,y,tx,ty,Ml,JX,O8⟩:=CP Og ox;have JX:=JX.same (bt (r:=r));have O8:=O8.same (bt (r:=r));refine⟨_,rfl,2,rfl,L1,_,rfl,aM.of Mc,λTs eTs=>?_⟩;rw[Ml];obtain⟨as1,na1,ra1,la1⟩:=xM JX O8 eTs;refine⟨Ts,[x,y],[tx,ty],as1,rfl,ae,by simp,na1,ra1 _ rp,la1,λHh Mm=>?_⟩;have Mm:=au.trans (ai eTs) Mm;have Rh:=Rg.same Mm;have Gh:=Gg.trans (aC (r:=r) Mm);have Oh:=O.same Gh
     obtain⟨f',m',x',y',ex,bd⟩:=Aj Og ox.b (xs:=[V.ref fl,.int n,.ref A',.ref B].set j z) (by rw[List.length_set];rfl) (by rw[List.getElem?_set_self (by exact ox.b.i4)]) λk hk=>by rw[List.getElem?_set_ne (by omega)]
     have Mn:=Mm _ _ Mc;rw[ex] at Mn;refine⟨_,rfl,L1,f',m',x',y',p,n,rfl,Mn,.inr ⟨part,v,(bd.aac (.of bt)).aac (.of Mm),λHi Rr hhi fR xR=>?_⟩⟩;obtain⟨d,dd,dq,Jh⟩:=gq (K:=K) ox.b.num xR;have Mo:=Mm.trans hhi;refine⟨_,rfl,d,d,Jh xR,Jh (Mo _ _ Me),dd,_,rfl,?_⟩;rw[dq];refine aS ?_;refine⟨_,rfl,2,rfl,L1,_,rfl,aM.of (Mo _ _ Mc),λTt eTt=>?_⟩;rw[Ml];obtain⟨as2,na2,ra2,la2⟩:=xM (JX.same Mo) (O8.same Mo) eTt;refine⟨Tt,[x,y],[tx,ty],as2,rfl,ae,by simp,na2,ra2 _ rp,la2,λHj Im=>?_⟩;have Im:=au.trans (ai eTt) Im;refine⟨_,rfl,rfl,_,rfl,?_⟩;rw[decide_eq_true (rfl:V.str (listText [tx,ty])=V.str (listText [tx,ty]))];refine aS ?_;have Rj:=Rg.same (Mo.trans Im);have Gj:=Gg.trans (aC (r:=r) (Mo.trans Im));have scj:=scb.same (Df.trans Gj);have O9:=Gj _ _ (Df _ _ Mh);have VN:=Gj _ _ (Df _ _ SV);have VO:=Gj _ _ (Df _ _ gB);have VP:=gd.same (Df.trans Gj);have Lj:=Gj _ _ (aC (r:=r) JF _ _ Mj);have shj:∀x∈as++bs,∃p ts,SW C CF (del Hj r) x p ts/\(rT p ts).length<=100000:=λx hx=>let⟨p,ts,w,z⟩:=VL x hx;⟨p,ts,w.aac (.of (Df.trans Gj)),z⟩;clear Mo hhi Gj Gh Oh Rh Mn bd ex Jh dq dd xR JX O8 Ml Me Mc Og ox Nh Ng hT Gg Rg O Df Rf xL JF De Re Kp Jw HB xf Dc Rc JE sb VL gd gB SV Mh scb Rb Mj Jg;refine⟨_,rfl,_,rfl,_,rfl,_,rfl,_,rfl,lX,λL' eL'=>?_⟩;have SX:=ai (o:=.lst [.ref fl,.int n,.ref A',.ref B]) eL';have SY:upd Hj L' (.lst [.ref fl,.int n,.ref A',.ref B]) L'=some (.lst [.ref fl,.int n,.ref A',.ref B]):=ae;generalize upd Hj L' _=Hk at SX SY;have Rk:=Rj.same SX;have Dk:=aC (r:=r) SX;have O':Od C CF (del Hk r) L' fl A' B far p n pf as bs:=⟨VP.same Dk,bw SY (Rk.ne SY λ_ _ z=>by cases z),Dk _ _ VN,Dk _ _ VO,⟨Kv,Dk _ _ Lj⟩,VM,npf,la4,by omega,λx hx=>let⟨p,ts,w,z⟩:=shj x hx;⟨p,ts,w.aac (.of Dk),z⟩⟩;refine⟨_,rfl,r,L',fl,A',B,far,p,n,pf,as,bs,rfl,Rk,O',λHl Rl Gl=>⟨_,rfl,aS ?_⟩⟩;have sl:au (del Hj r) Hl:=(Dk.trans Gl).trans bt;have hA:=sl _ _ VN;have hB:=sl _ _ VO;have Ip:=sl _ _ O9;have VQ:=VP.same sl;have scl:=scj.same sl;clear sl Gl Rl O' Dk Rk SY SX shj Lj VP VO VN O9 scj Rj eL';refine⟨_,rfl,_,rfl,_,rfl,_,rfl,lX,λL3 e3=>?_⟩;have NH:=ai (o:=.lst [.ref fl,.int n,.ref A',.ref B]) e3;have VR:upd Hl L3 (.lst [.ref fl,.int n,.ref A',.ref B]) L3=some (.lst [.ref fl,.int n,.ref A',.ref B]):=ae;generalize upd Hl L3 _=Hm at NH VR;refine⟨L3,.ref fl,.int n,.ref A',.ref B,p,n,rfl,VR,.inl ⟨fl,as,bs,(VQ.same NH).rt (NH _ _ hA) (NH _ _ hB),λHn hmn=>⟨.str "none",.str "none",dN _,dN _,E4,_,rfl,?_⟩⟩⟩;rw[Fo];refine aS ?_;have Sz:=au.trans NH hmn;refine⟨_,rfl,_,rfl,_,_,rfl,rfl,m9,λt0 e0=>⟨d9,λt1 e1=>⟨d9,λt2 e2=>⟨m9,λl3 e3=>λso ds b1 b2 b3=>?_⟩⟩⟩⟩;obtain⟨Ho,eHo,JI,xlo,hto⟩:=uE (ks:=[n-1]) e0 e1 e2 e3;subst eHo
     refine gZ (many:=n) (JI _ _ (Sz _ _ Ip)) hp xlo hto n60 (λt ht=>by
      rw[List.mem_singleton.mp ht]
      exact ph hp (.inr ⟨n-1,rfl,by omega,by omega⟩)) (by show 1<=40;decide) b1 b2 b3 λHq hoq Mq=>?_
     have NI:=Sz.trans (au.trans JI hoq)
     have wl:WX C CF p n Hq (.ref so) true:=by
      have z:=WX.sum (p:=p) (n:=n) Mq;rw[decide_eq_true (rfl:p=p),decide_eq_true (by rw[kd];omega:eC (fM (bK p [([n-1],(1,1))]))<=n)] at z;exact z
     have hA:=NI _ _ hA;have hB:=NI _ _ hB;have Ip:=NI _ _ Ip;have VS:=VQ.same NI;have scq:=scl.same NI;clear NI Mq JI xlo hto hoq Sz NH hmn VR VQ scl b1 b2 e0 e1 e2 e3;refine⟨_,rfl,_,rfl,_,rfl,Nat.zero_le _,λlz ez=>λs2 d2 b1 b2 b3=>?_⟩;have S0:=ai (o:=.lst []) ez;have xz:upd Hq lz (.lst []) lz=some (.lst []):=ae;generalize upd Hq lz _=Hr at S0 xz b1 b2;refine gZ (many:=0) (ts:=[]) (S0 _ _ Ip) hp xz .nil (by decide) (λt ht=>nomatch ht) (by decide) b1 b2 b3 λHs hrs Ms=>?_;refine⟨m9,λl1 e1=>?_⟩;have Ij:=ai (o:=.lst [.ref s2]) e1;have x1:upd Hs l1 (.lst [.ref s2]) l1=some (.lst [.ref s2]):=ae;generalize upd Hs l1 _=Ht at Ij x1;refine⟨l1,199,_,rfl,rfl,x1,(by decide),(by decide),(by rw[sizeLine_eq];show 1*199<=16777216;decide),λlr er=>?_⟩;rw[jP];have OJ:=ai (o:=.lst ((List.replicate (199:Int).toNat s2).map V.ref)) er;have xr:upd Ht lr (.lst ((List.replicate (199:Int).toNat s2).map V.ref)) lr=some (.lst ((List.replicate (199:Int).toNat s2).map V.ref)):=ae;generalize upd Ht lr _=Hu at OJ xr;refine⟨_,rfl,m9,λl2 e2=>?_⟩;have S1:=ai (o:=.lst [.ref so]) e2;have x2:upd Hu l2 (.lst [.ref so]) l2=some (.lst [.ref so]):=ae;generalize upd Hu l2 _=Hv at S1 x2;refine⟨lr,l2,_,_,rfl,rfl,S1 _ _ xr,x2,(by rw[List.length_map,List.length_replicate,sizeLine_eq];show 199+1<=16777216;decide),λlc Hw _ hvw xc=>?_⟩
     have ec:(List.replicate (199:Int).toNat s2).map V.ref++[.ref so]=(List.replicate (199:Int).toNat s2++[so]).map V.ref:=by rw[List.map_append];rfl
     rw[ec] at xc;have Ob:=((au.trans Ij OJ).trans S1).trans hvw;have hqw:=(au.trans S0 hrs).trans Ob;refine⟨_,rfl,lX,λL4 e4=>?_⟩;have Pa:=ai (o:=.lst [.ref fl,.int n,.ref lc,.ref B]) e4;have x4:upd Hw L4 (.lst [.ref fl,.int n,.ref lc,.ref B]) L4=some (.lst [.ref fl,.int n,.ref lc,.ref B]):=ae;generalize upd Hw L4 _=Hx at Pa x4;have NJ:=hqw.trans Pa
     have w2:WX C CF p n Hx (.ref s2) true:=by
      have z:=WX.sum (p:=p) (n:=n) (Ms.aac (.of (Ob.trans Pa)));have KW:eC (fM (bK p []))<=n:=Int.le_trans (kg (many:=0) (Int.le_refl _) λt ht=>(nomatch ht)) (by omega);rw[decide_eq_true (rfl:p=p),decide_eq_true KW] at z;exact z
     have S5:=VS.same NJ
     refine⟨L4,.ref fl,.int n,.ref lc,.ref B,p,n,rfl,x4,.inl ⟨fl,_,bs,Rt.of (NJ _ _ Ip) S5.n1 S5.n2 (Pa _ _ xc) (NJ _ _ hB) (by rw[List.length_append,List.length_replicate];show 199+1<=200;decide) (by omega) (λx hx=>by
      rcases List.mem_append.mp hx with hx|hx
      ·rw[(List.mem_replicate.mp hx).2];exact w2
      ·rw[List.mem_singleton.mp hx]
       exact wl.aac (.of NJ)) (λx hx=>S5.wi x (List.mem_append_right _ hx)) ub,λHz hxz=>⟨.str "none",.str "none",dN _,dN _,E4,_,rfl,?_⟩⟩⟩
     rw[Fo];refine aS ?_;have NK:=NJ.trans hxz;have hA:=NK _ _ hA;have Ip:=NK _ _ Ip;have gdz:=VS.same NK;have scz:=scq.same NK;have wl:=wl.aac (.of NK);clear hB NK hxz S5 w2 NJ Pa x4 hqw Ob xc hvw x2 S1 xr OJ x1 Ij hrs Ms xz S0 VS scq b1 b2 e4 e2 er e1 ez;dsimp only[Ah,vM];refine EJ (λσ Hy=>σ=[some (.ref a),some (.int (0+(i:Int))),some (.ref r),some (.int p),some (.ref fl),some (.int n),some (.ref A'),some (.ref B),some (.ref far),some (.ref L1),some (.ref L2),some (.str (listText [tx,ty])),some (.ref so)]/\au Hz Hy) (λD' JZ=>?_) ?_
     ·refine⟨_,rfl,rfl,_,rfl,?_⟩
      by_cases HM:p=0
      ·rw[decide_eq_true (by rw[HM]:V.int p=V.int 0)];refine aZ ?_;refine⟨_,rfl,_,rfl,_,rfl,_,rfl,m9,λl1 e1=>?_⟩;have h1:=ai (o:=.lst [.ref so]) e1;have x1:upd Hz l1 (.lst [.ref so]) l1=some (.lst [.ref so]):=ae;generalize upd Hz l1 _=Pb at h1 x1;refine⟨l1,200,_,rfl,rfl,x1,(by decide),(by decide),(by rw[sizeLine_eq];show 1*200<=16777216;decide),λlr er=>?_⟩;rw[jP];have h2:=ai (o:=.lst ((List.replicate (200:Int).toNat so).map V.ref)) er;have xr:upd Pb lr (.lst ((List.replicate (200:Int).toNat so).map V.ref)) lr=some (.lst ((List.replicate (200:Int).toNat so).map V.ref)):=ae;generalize upd Pb lr _=Pc at h2 xr;refine⟨lX,λL5 e5=>?_⟩;have h3:=ai (o:=.lst [.ref fl,.int n,.ref A',.ref lr]) e5;have x5:upd Pc L5 (.lst [.ref fl,.int n,.ref A',.ref lr]) L5=some (.lst [.ref fl,.int n,.ref A',.ref lr]):=ae;generalize upd Pc L5 _=VT at h3 x5;have Pd:=(au.trans h1 h2).trans h3;have Mp:=gdz.same Pd
       refine⟨L5,.ref fl,.int n,.ref A',.ref lr,p,n,rfl,x5,.inl ⟨fl,as,_,Rt.of (Pd _ _ Ip) Mp.n1 Mp.n2 (Pd _ _ hA) (h3 _ _ xr) (by omega) (by rw[List.length_replicate];decide) (λx hx=>Mp.wi x (List.mem_append_left _ hx)) (λx hx=>by
        rw[(List.mem_replicate.mp hx).2]
        exact wl.aac (.of Pd)) (λ_=>HM),λHy hy=>⟨.str "none",.str "none",dN _,dN _,E4,_,rfl,by rw[Fo];exact aS (JZ _ _ ⟨rfl,Pd.trans hy⟩)⟩⟩⟩
      ·rw[decide_eq_false (by intro z;cases z;exact HM rfl:¬V.int p=V.int 0)];exact aS (aS (JZ _ _ ⟨rfl,au.refl _⟩))
     ·rintro σ' Hy ⟨rfl,S6⟩;have hA:=S6 _ _ hA;have Ip:=S6 _ _ Ip;have gdy:=gdz.same S6;have scy:=scz.same S6;refine⟨_,rfl,_,rfl,_,rfl,_,rfl,m9,λl1 e1=>?_⟩;have h1:=ai (o:=.lst [.ref so]) e1;have x1:upd Hy l1 (.lst [.ref so]) l1=some (.lst [.ref so]):=ae;generalize upd Hy l1 _=Pb at h1 x1;refine⟨l1,201,_,rfl,rfl,x1,(by decide),(by decide),(by rw[sizeLine_eq];show 1*201<=16777216;decide),λlr er=>?_⟩;rw[jP];have h2:=ai (o:=.lst ((List.replicate (201:Int).toNat so).map V.ref)) er;have xr:upd Pb lr (.lst ((List.replicate (201:Int).toNat so).map V.ref)) lr=some (.lst ((List.replicate (201:Int).toNat so).map V.ref)):=ae;generalize upd Pb lr _=Pc at h2 xr;refine⟨lX,λL5 e5=>?_⟩;have h3:=ai (o:=.lst [.ref fl,.int n,.ref A',.ref lr]) e5;have x5:upd Pc L5 (.lst [.ref fl,.int n,.ref A',.ref lr]) L5=some (.lst [.ref fl,.int n,.ref A',.ref lr]):=ae;generalize upd Pc L5 _=VT at h3 x5;have S7:=(au.trans h1 h2).trans h3;have Mp:=gdy.same S7
      have Mt:((List.replicate (201:Int).toNat so).map V.ref).length=201:=by rw[List.length_map,List.length_replicate];rfl
      have uw:UW C CF p n VT (.ref lr) .non:=by
       by_cases HM:p=0
       ·exact .inr ⟨λz=>(nomatch z),.long (h3 _ _ xr) (by rw[Mt];decide),λ_ _ _ _ _=>HM⟩
       ·exact .inl ⟨lr,_,rfl,h3 _ _ xr,(λz=>by rw[z] at Mt;cases Mt),HM,rfl⟩
      have bad:rP C CF p n VT (.ref fl) (.int n) (.ref A') (.ref lr) "uppers" .non:=.u (S7 _ _ Ip) Mp.n1 Mp.n2 ⟨⟨A',rfl,S7 _ _ hA⟩,by omega,λx hx=>Mp.wi x (List.mem_append_left _ hx)⟩ uw;refine⟨L5,.ref fl,.int n,.ref A',.ref lr,p,n,rfl,x5,.inr ⟨"uppers",.non,bad,λH4a Rr h34 fR xR=>?_⟩⟩;refine⟨d9,λld ed=>?_⟩;obtain⟨d,dd,dq,Jh⟩:=gq (K:=K) (.inl rfl) xR;refine⟨d,d,Jh (ai ed _ _ xR),Jh ae,dd,_,rfl,?_⟩;rw[dq];exact aS ⟨⟨_,_,_,_,_,_,_,_,_,_,_,_,rfl⟩,((scy.same S7).same h34).same (ai ed)⟩
  ·rintro σ H' _;exact fin H'
end K16
namespace Hd
open PySem PySem.W PyProof.Rows
noncomputable def pD (K:Frag)(x qual:Str)(st:Stmt)(f:Addr):Prop:=∃(oc:Value)(od:p5)(kV doc pm:Value)(an:p5)(GL ct:Value)(GZ:Ff),
 K.lookup f=some ⟨oc,od,.func (fnOf x qual (L2.cP st) (L2.cu st) (L2.ar st) .none kV doc pm an GL ct),GZ⟩/\codeIn K GL qual=true/\keepIn K (.ref f)=true
variable {K:Frag}{x qual:Str}{st:Stmt}
theorem sm {v:Option (Option Value)}(h:aU K v=cZ x qual st)(b:cX K v qual=true):v=some (some (.ref (cy v)))/\pD K x qual st (cy v):=by
 unfold aU at h;obtain⟨fd,e,s⟩:=Option.map_eq_some_iff.mp (show(pS K v).map Bb=some _ from h);unfold cX at b;rw[e] at b;rw[Bool.and_eq_true] at b;unfold pS at e
 split at e
 ·rename_i f
  split at e
  ·rename_i oc od fd' GZ hl
   cases e
   refine⟨rfl,oc,od,fd.kwdefaults,fd.doc,fd.pyModule,fd.annotations,fd.code,fd.closureTuple,GZ,?_,b.2,b.1⟩;show K.lookup f=_;rw[hl];obtain⟨n,q,p,bd,sc,g,c,dv,kv,dc,pm,an,cd,ct,bl⟩:=fd;unfold Bb at s;simp only[Prod.mk.injEq] at s;obtain⟨rfl,rfl,rfl,rfl,rfl,rfl,rfl,rfl,rfl⟩:=s;rfl
  ·cases e
 ·cases e
theorem pD.fn {f:Addr}(d:pD K x qual st f):∃fd,L2.E6 K x qual st f fd:=by
 obtain⟨oc,od,kV,doc,pm,an,GL,ct,GZ,l,c,k⟩:=d;exact⟨_,L2.Ct l c k⟩
theorem pD.keep {f:Addr}(d:pD K x qual st f):keepIn K (.ref f)=true:=by
 obtain⟨oc,od,kV,doc,pm,an,GL,ct,GZ,l,c,k⟩:=d;exact k
end Hd
namespace L2
open PySem PySem.Spec PyProof.Rows PySem.W
end L2
namespace Hd
open PySem PySem.W PyProof.Rows
noncomputable def xH (K:Frag)(x qual:Str)(st:Stmt)(f T:Addr):Prop:=∃(oc:Value)(od:p5)(kV doc pm:Value)(an:p5)(GL ct:Value)(GZ:Ff),
 K.lookup f=some ⟨oc,od,.func (fnOf x qual (L2.cP st) (L2.cu st) (L2.ar st) (.ref T) kV doc pm an GL ct),GZ⟩/\codeIn K GL qual=true/\keepIn K (.ref f)=true
variable {K:Frag}{x qual:Str}{st:Stmt}
theorem jQ {v:Option (Option Value)}(h:ia K v=cZ x qual st)(b:cX K v qual=true)(d:rW K v=true):v=some (some (.ref (cy v)))/\xH K x qual st (cy v) (oz K v):=by
 unfold ia at h;obtain⟨fd,e,s⟩:=Option.map_eq_some_iff.mp (show(pS K v).map (λfd=>Bb {fd with defaults:=.none})=some _ from h)
 have hd:fd.defaults=.ref (oz K v):=by
  unfold rW zr at d;unfold oz zr;rw[e] at d |-;dsimp only at d |-
  cases q:fd.defaults with
  |ref a=>rfl
  |_=>rw[q] at d;cases d
 unfold cX at b;rw[e] at b;rw[Bool.and_eq_true] at b;generalize oz K v=T at hd;unfold pS at e
 split at e
 ·rename_i f
  split at e
  ·rename_i oc od fd' GZ hl
   cases e
   refine⟨rfl,oc,od,fd.kwdefaults,fd.doc,fd.pyModule,fd.annotations,fd.code,fd.closureTuple,GZ,?_,b.2,b.1⟩;show K.lookup f=_;rw[hl];obtain⟨n,q,p,bd,sc,g,c,dv,kv,dc,pm,an,cd,ct,bl⟩:=fd;unfold Bb at s;simp only[Prod.mk.injEq] at s;have hd:dv=.ref T:=hd;subst hd;obtain⟨rfl,rfl,rfl,rfl,rfl,rfl,rfl,_,rfl⟩:=s;rfl
  ·cases e
 ·cases e
theorem xH.fn {f T:Addr}(d:xH K x qual st f T):∃fd,L2.Fq K x qual st f fd T:=by
 obtain⟨oc,od,kV,doc,pm,an,GL,ct,GZ,l,c,k⟩:=d;exact⟨_,L2.zS l c k⟩
theorem xH.keep {f T:Addr}(d:xH K x qual st f T):keepIn K (.ref f)=true:=by
 obtain⟨oc,od,kV,doc,pm,an,GL,ct,GZ,l,c,k⟩:=d;exact k
theorem pC:∀{vs:oH}{ns:List Int},uA vs ns=true->L2.aK (ns.map L2.V.int) vs
 |[],[],_=>.nil
 |v::vs,n::ns,h=>by
  unfold uA at h;rw[Bool.and_eq_true] at h;obtain⟨t,rfl⟩:=lN h.1;exact .cons ⟨t,rfl⟩ (pC h.2)
 |[],_::_,h=>by cases h
 |_::_,[],h=>by cases h
theorem tN {a:Addr}{ns:List Int}(h:wQ K a ns=true)(H:L2.Hp):L2.bX K H a (ns.map L2.V.int):=by
 unfold wQ at h
 split at h
 ·rename_i o ho
  rw[Bool.and_eq_true] at h;obtain⟨h1,h2⟩:=h
  split at h1
  ·rename_i T hT
   split at h2
   ·rename_i its n hd
    rw[Bool.and_eq_true] at h2
    have:T="tuple":=by simpa using h1
    subst this;exact .inr ⟨o,its,n,ho,hT,hd,of_decide_eq_true h2.2,pC h2.1⟩
   ·cases h2
  ·cases h1
 ·cases h
open L2 in
theorem vK {l:OpenLaw}{n k:Nat}{q:wM}{loose:xQ}{XP:(Str->Option Value)->Heap->Prop}{YP:World->Heap->Prop}{d:DefRec}{CX:World->GC}{sp:Frag->Sp}{x:Str}{φ:Frag->Prop}{tabs:Frag->List (Addr×Addr)}
 (hn:l.most=some n)(RI:n<=sizeLine)(N4:d.params.defaults=[])(hr:pL k callerA)
 (hY:∀(w:World)(h:Heap),YP w h->∃K:Frag,φ K/\K.In h)
 (hT:∀(w:World)(s₀:GH)(mg mb:vJ)(h:Heap)(K:Frag),φ K->Ground q loose [] XP w s₀ mg mb h->K.In h->TabsAt (tabs K) h/\∀r∈tabs K,K.lookup r.2=none)
 (F:∀(w:World)(K:Frag)(mg:vJ)(fa:Addr)(h:Heap),φ K->K.In h->h.Ns mainGlobals mg->mg d.name=some (.ref fa) →
  ∃fd:FuncData,(∀(s:GH)(u:Value),BindsTo s fd ⟨[u],[]⟩ [(x,u)])/\∀base:Heap,K.In base->base.Ns mainGlobals mg->Dx (tabs K) mg base->Cy l.prog w K mg base (CX w) k fa fd [x] (sp K))
 (Jz:∀(K:Frag)(H:Hp)(a:Addr)(ns:List Int),ns.length<=n->yJ (tabs K) H->aM K H a (ns.map V.int)->sp K [.ref a] H (λv _=>v=.bl true) λ_ _ _=>False)
 (T8:∀(w:World)(H:Hp)(s:GH)(e:Value)(s':GH),CX w [] H s (λ_ _ _=>False) e s'->False):
 WalkO q loose XP YP l.row.toRowW d [] (λf vs=>PySem.call f vs):=by
 refine Yj.pI hn N4 λw s₀ s₁ mg mb fa o pm cd doc a vs ns G Y ho hd HB TK LD hints hlen hg=>?_;obtain⟨K,hφ,KX⟩:=hY w _ Y;obtain⟨fd,hb,hF⟩:=F w K mg fa _ hφ KX G.T.g TK;obtain⟨t1,t2⟩:=hT w s₀ mg mb _ K hφ G KX;exact vh KX G.T.g G.T.b G.T.builtins G.T.nolimit hg LD hints (Nat.le_trans hlen RI) hr t1 t2 G.T.bmain hF hb (λH hO hS=>Jz K H a ns hlen hO hS) λH e s'=>T8 w H s₁ e s'
open L2
theorem Az (l:oH):AC l=iX l:=by
 induction l with
 |nil=>rfl
 |cons v r ih =>
  cases v with
  |ref a=>exact ih
  |_=>rfl
theorem yW {α:Type}{o:Option α}{p:α->Bool}(h:o.any p=true):∃v,o=some v/\p v=true:=by
 cases o with
 |none=>cases h
 |some v=>exact⟨v,rfl,h⟩
section
variable {P:wM}{w:World}{K:Frag}{mg:vJ}{base:Heap}{x:Str}{C f:Addr}{fd:GF}{ps:xQ}{sp:Sp}
theorem uf (h:xU K C f Av zH "ValueError.__new__"=true)(k:AI K C)(sa:findIn K (.ref C) "__setattr__"=some (some (.builtin "object.__setattr__"))):Gy K C:=by
 simp only[xU,Bool.and_eq_true] at h;refine⟨k,?_,sa⟩;obtain⟨cd,e,q⟩:=yW h.2.1;rw[e];rw[Az] at q;exact q
theorem DM (hm:mg x=some (.ref C))(h:xU K C f Av zH "ValueError.__new__"=true)(k:AI K C)(sa:findIn K (.ref C) "__setattr__"=some (some (.builtin "object.__setattr__")))(F:Cy P w K mg base (bc P w) 1 f fd ps sp)(b:L2.aI K fd ps []):IK P w K mg base x C ps sp:=by
 have s:=uf h k sa;simp only[xU,Bool.and_eq_true] at h;obtain⟨h0,_,h4,h5,h6⟩:=h;obtain⟨oC,e1,e2⟩:=yW h4;obtain⟨oI,e3,e4⟩:=yW h5;exact⟨hm,h0,s,k,⟨oC,e1,eq_of_beq e2⟩,⟨f,fd,oI,_,_,_,_,_,_,PySem.F.excBase_ValueError,by decide +kernel,rY,h6,e3,eq_of_beq e4,F,b⟩⟩
end
end Hd
namespace K16
open PySem L2 PySem.W
noncomputable abbrev uh:Stmt:=(aY 50)
theorem wO:uQ ["_law_thing"] ["_law_thing"] (ar uh):=dI (by decide +kernel)
variable {P:wM}{w:World}{K:PySem.W.Frag}{mg:vJ}{base:Heap}
theorem vT {f:Addr}{fd:GF}(F:E6 K "_law_whole" "_law_whole" uh f fd)(n:vk mg):Cy P w K mg base (bc P w) 1 f fd ["_law_thing"] su:=by
 refine F.okN wO (λvs H Q E h=>?_) (λGL A outer s H vs Q E hr h=>?_)
 ·obtain⟨x,T,rfl,_⟩:=h;rfl
 ·obtain⟨x,T,rfl,th,q⟩:=h
  refine⟨_,ao (aw (cp (aD bf (by rfl) n.isi (by rfl) (cj (pv 0) (cj (dh (by rfl) n.int (by rfl) (show aG (.ty "int") (.type "int") from rfl)) af)))
   (dC (xD (aD bf (by rfl) n.isi (by rfl) (cj (pv 0) (cj (dh (by rfl) n.bool (by rfl) (show aG (.ty "bool") (.type "bool") from rfl)) af))))))),?_⟩
  refine⟨_,rfl,x,.ty "int",_,_,_,rfl,rfl,th.ty,th.isInt,_,rfl,?_⟩;refine cT (λhi=>?_) (λhi=>?_)
  ·refine⟨_,rfl,x,.ty "bool",_,_,_,rfl,rfl,th.ty,th.isBool hi,_,rfl,?_⟩;simpa using q
  ·have e:dR x=false:=by
    cases th <;> first|rfl|exact absurd rfl hi
   rw[e] at q;exact q
open Nm
open Hd (gv ga fv cy fk cB cJ aW gU cg lW cU cX aU ia cZ rW oz rM iM uV jN C1 lN oZ fP wQ sm jQ tN)
section
variable {α:Type}{M:List α->Prop}
theorem EM (h:M []):∀us:List α,us.length=0->M us
 |[],_=>h
theorem pU (h:∀a,M [a]):∀us:List α,us.length=1->M us
 |[a],_=>h a
theorem E3 (h:∀a b,M [a,b]):∀us:List α,us.length=2->M us
 |[a,b],_=>h a b
theorem oN (h:∀a b c,M [a,b,c]):∀us:List α,us.length=3->M us
 |[a,b,c],_=>h a b c
theorem Ck (h:∀a b c d,M [a,b,c,d]):∀us:List α,us.length=4->M us
 |[a,b,c,d],_=>h a b c d
end
section
variable {K:Frag}{f T:Addr}{fd:GF}{oT:Obj}{t:Tok}{n:Nat}
theorem En:zd 10000000000000000000000000000000000000000000000000000000000000000:=⟨by decide +kernel⟩
theorem DF (F:Fq K "__init__" "Field.__init__" xC f fd T)(lT:K.lookup T=some oT)(dT:oT.data=.seq #[.int 0 t] n):L2.aI K fd zD []:=by
 obtain⟨oc,od,kV,doc,pm,an,GL,ct,GZ,rfl,lk,HB⟩:=F.ex;intro s us KX hl
 cases us with
 |nil=>simp at hl
 |cons a0 r1 =>
  cases r1 with
  |nil=>simp at hl
  |cons a1 r2 =>
   cases r2 with
   |nil=>exact binds_K KX rfl lT dT rfl rfl
   |cons a r=>simp at hl
theorem BD (F:Fq K "__init__" "Sum.__init__" qV f fd T)(lT:K.lookup T=some oT)(dT:oT.data=.seq #[.none] n):L2.aI K fd vX []:=by
 obtain⟨oc,od,kV,doc,pm,an,GL,ct,GZ,rfl,lk,HB⟩:=F.ex;intro s us KX hl
 cases us with
 |nil=>simp at hl
 |cons a0 r1 =>
  cases r1 with
  |nil=>simp at hl
  |cons a1 r2 =>
   cases r2 with
   |nil=>simp at hl
   |cons a2 r3 =>
    cases r3 with
    |nil=>exact binds_K KX rfl lT dT rfl rfl
    |cons a r=>simp at hl
theorem BY (F:Fq K "__init__" "System.__init__" DQ f fd T)(lT:K.lookup T=some oT)(dT:oT.data=.seq #[.none] n):L2.aI K fd ES []:=by
 obtain⟨oc,od,kV,doc,pm,an,GL,ct,GZ,rfl,lk,HB⟩:=F.ex;intro s us KX hl
 cases us with
 |nil=>simp at hl
 |cons a0 r1 =>
  cases r1 with
  |nil=>simp at hl
  |cons a1 r2 =>
   cases r2 with
   |nil=>simp at hl
   |cons a2 r3 =>
    cases r3 with
    |nil=>simp at hl
    |cons a3 r4 =>
     cases r4 with
     |nil=>simp at hl
     |cons a4 r5 =>
      cases r5 with
      |nil=>exact binds_K KX rfl lT dT rfl rfl
      |cons a r=>simp at hl
theorem Au (F:Fq K "__init__" "System.__init__" DQ f fd T)(lT:K.lookup T=some oT)(dT:oT.data=.seq #[.none] n):L2.aI K fd ES [.none]:=by
 obtain⟨oc,od,kV,doc,pm,an,GL,ct,GZ,rfl,lk,HB⟩:=F.ex;intro s us KX hl
 cases us with
 |nil=>simp at hl
 |cons a0 r1 =>
  cases r1 with
  |nil=>simp at hl
  |cons a1 r2 =>
   cases r2 with
   |nil=>simp at hl
   |cons a2 r3 =>
    cases r3 with
    |nil=>simp at hl
    |cons a3 r4 =>
     cases r4 with
     |nil=>exact binds_K KX rfl lT dT rfl rfl
     |cons a r=>simp at hl
theorem Cg (F:Fq K "__init__" "System.__init__" DQ f fd T)(lT:K.lookup T=some oT)(dT:oT.data=.seq #[.none] n):wF K fd ES ["noughts","uppers"] C3 EX:=by
 obtain⟨oc,od,kV,doc,pm,an,GL,ct,GZ,rfl,lk,HB⟩:=F.ex;refine⟨λs us ws KX hl=>?_,Am⟩;obtain⟨a,b,c,d,e,rfl,rfl⟩:=AB hl;exact binds_K KX rfl lT dT rfl rfl
end
section
variable {K:Frag}{x qual n:Str}{st:Stmt}{ps:xQ}
theorem gY {mg:vJ}{h:Heap}(X:K.In h)(G:h.Ns mainGlobals mg)(s:aU K (gv K n)=cZ x qual st)(b:cX K (gv K n) qual=true)(hb:∀(kV doc pm:Value)(an:p5)(GL ct:Value)(us:oH),us.length=ps.length->bindArgs (PySem.W.fnOf x qual (cP st) (cu st) (ar st) .none kV doc pm an GL ct) ⟨us,[]⟩=pure (ps.zip us)):∃fd,E6 K x qual st (ga K n) fd/\L2.aI K fd ps []/\mg n=some (.ref (ga K n))/\keepIn K (.ref (ga K n))=true:=by
 obtain⟨e,d⟩:=sm s b;obtain⟨fd,F⟩:=d.fn;exact⟨fd,F,F.binds hb,mg_of X G e,d.keep⟩
theorem pk {c:Str}(s:aU K (fv K c n)=cZ x qual st)(b:cX K (fv K c n) qual=true)(i:isFn K (.ref (cy (fv K c n)))=true)(hb:∀(kV doc pm:Value)(an:p5)(GL ct:Value)(us:oH),us.length=ps.length->bindArgs (PySem.W.fnOf x qual (cP st) (cu st) (ar st) .none kV doc pm an GL ct) ⟨us,[]⟩=pure (ps.zip us)):∃fd,E6 K x qual st (cy (fv K c n)) fd/\L2.aI K fd ps []/\L2.Meth K (ga K c) n (cy (fv K c n))/\findIn K (.ref (ga K c)) n=some (some (.ref (cy (fv K c n))))/\isFn K (.ref (cy (fv K c n)))=true:=by
 obtain⟨e,d⟩:=sm s b;obtain⟨fd,F⟩:=d.fn;exact⟨fd,F,F.binds hb,⟨e,i,d.keep⟩,e,i⟩
end
noncomputable def wI (_:World)(h:Heap):Prop:=∃K:Frag,vN K=dueK/\K.In h
theorem AK (w:World)(s:GH)(e:vN (Hd.wc qL s.heap)=dueK):wI w s.heap:=⟨_,e,Hd.nY _ _⟩
theorem si (w:World)(h h':Heap)(y:wI w h)(k:∀(b:Addr)(o:Obj),h.get? b=some o->h'.get? b=some o):wI w h':=let⟨K,e,i⟩:=y;⟨K,e,λa o q=>k a o (i a o q)⟩
set_option maxHeartbeats 0 in
theorem sr {l:OpenLaw}{w:World}{K:Frag}{mg:vJ}{h:Heap}{fa:Addr}(o:vN K=dueK)(X:K.In h)(G:h.Ns mainGlobals mg)(hfa:mg "law"=some (.ref fa)):
 ∃fd:FuncData,(∀(s:GH)(v:Value),BindsTo s fd ⟨[v],[]⟩ [("_law_script",v)])/\∀base:Heap,K.In base->base.Ns mainGlobals mg->Dx [] mg base->Cy l.prog w K mg base (bc l.prog w) 110 fa fd ["_law_script"] (v8 K):=by
 obtain⟨o1,o2⟩:=Prod.mk.inj (show(qK K,_)=(true,_) from o);simp only[List.cons.injEq,and_true] at o2;obtain⟨s0,s1,s2,s3,s4,s5,s6,s7,s8,s9,IT,Je,Vb,Nq,Sl,ZH,Sm,ZJ,s18,s19,Sq,Vf,LY,Su,OM,LZ,s26,s27,s28,s29,s30,s31,s32,s33,s34,s35,s36,s37,s38,s39,s40,s41,s42,s43,s44,s45,s46,s47,s48,s49,s50,s51,s52⟩:=o2;unfold qK at o1;simp only[Bool.and_eq_true] at o1;obtain⟨g0,g1,g2,g3,g4,g5,g6,g7,g8,g9,VU⟩:=o1;unfold Gw at g0;simp only[Bool.and_eq_true] at g0;obtain⟨h0,h1,h2,h3,h4,h5,h6,h7,h8,h9,h10,h11,h12,h13,h14,h15⟩:=g0;unfold Gk at g1;simp only[Bool.and_eq_true] at g1;obtain⟨h16,h17,h18,h19,h20,h21,h22,h23,h24,h25,h26,h27,h28,h29,h30,h31⟩:=g1;unfold F2 at g2;simp only[Bool.and_eq_true] at g2;obtain⟨h32,h33,h34,h35,h36,h37,h38,h39,h40,h41,h42,h43,h44,h45,h46,h47⟩:=g2;unfold FZ at g3;simp only[Bool.and_eq_true] at g3;obtain⟨h48,h49,h50,h51,h52,h53,h54,h55,h56,h57,h58,h59,h60,h61,h62,h63⟩:=g3;unfold F3 at g4;simp only[Bool.and_eq_true] at g4;obtain⟨h64,h65,h66,h67,h68,h69,h70,h71,h72,h73,h74,h75,h76,h77,h78,h79⟩:=g4;unfold Gq at g5;simp only[Bool.and_eq_true] at g5;obtain⟨h80,h81,h82,h83,h84,h85,h86,h87,h88,h89,h90,h91,h92,h93,h94,h95⟩:=g5;unfold F0 at g6;simp only[Bool.and_eq_true] at g6;obtain⟨h96,h97,h98,h99,h100,h101,h102,h103,h104,h105,h106,h107,h108,h109,h110,h111⟩:=g6;unfold F7 at g7;simp only[Bool.and_eq_true] at g7;obtain⟨h112,h113,h114,h115,h116,h117,h118,h119,h120,h121,h122,h123,h124,h125,h126,h127⟩:=g7;unfold F5 at g8;simp only[Bool.and_eq_true] at g8;obtain⟨h128,h129,h130,h131,h132,h133,h134,h135,h136,h137,h138,h139,h140,h141,h142,h143⟩:=g8;unfold Ge at g9;simp only[Bool.and_eq_true] at g9;obtain⟨h144,h145,h146,h147,h148,h149,h150,h151,h152,h153,h154,h155,h156,h157,h158,h159⟩:=g9;unfold Er at VU;simp only[Bool.and_eq_true] at VU;obtain⟨h160,h161,h162,h163,h164,h165,h166,h167⟩:=VU;have m:=λ{n:Str}{v:Value}(e:nsIn K mainGlobals n=some (some v))=>mg_of X G e;have m0:=λ{n:Str}(e:nsIn K mainGlobals n=some none)=>mg_none_of X G e;have GJ:=m0 (aW h0);have HX:=m0 (aW h1);have Mu:=m0 (aW h2);have IH:=m0 (aW h3);have HW:=m0 (aW h4);have GP:=m0 (aW h5);have GS:=m0 (aW h6);have Jn:=m0 (aW h7);have JP:=m0 (aW h8);have GN:=m0 (aW h9);have GW:=m0 (aW h10);have Ie:=m0 (aW h11);have HC:=m0 (aW h12);have JY:=m0 (aW h13);have GQ:=m0 (aW h14);have IG:=m0 (aW h15);have HN:=m0 (aW h16);have Ig:=m0 (aW h17);have Pe:=m (cB h18);have Kx:=m (cB h19);have J0:=m (cB h20);have IJ:=m (cB h21);have Jx:=m (cB h22);have Kz:=m (cB h23);have Jy:=m (cB h24);have Ji:=m (cB h25);have J1:=m (cB h26);obtain⟨Lk,IX⟩:=fP h27;have G4:=m IX;obtain⟨Kg,Iq⟩:=fP h28;have G9:=m Iq;obtain⟨Kh,Ir⟩:=fP h29;have Iu:=m Ir;obtain⟨VV,Mv⟩:=fP h30;have Mw:=m Mv;obtain⟨J5,Ih⟩:=fP h31;have Ii:=m Ih;obtain⟨aaT,VW,KA,Jp,KC⟩:=gY X G (ps:=["thing"]) s0 h32 λ_ _ _ _ _ _=>pU λ_=>rfl;obtain⟨aaU,VX,VY,Pf,VZ⟩:=gY X G (ps:=["thing"]) s1 h33 λ_ _ _ _ _ _=>pU λ_=>rfl;obtain⟨aaV,V0,V1,Pg,V2⟩:=gY X G (ps:=["thing"]) s2 h34 λ_ _ _ _ _ _=>pU λ_=>rfl;obtain⟨aaW,V3,V4,Ph,V5⟩:=gY X G (ps:=["field","thing"]) s3 h35 λ_ _ _ _ _ _=>E3 λ_ _=>rfl;obtain⟨aaX,V6,V7,Pj,V8⟩:=gY X G (ps:=["field","terms"]) s4 h36 λ_ _ _ _ _ _=>E3 λ_ _=>rfl;obtain⟨aaY,V9,Wa,Pk,afH⟩:=gY X G (ps:=["term"]) s5 h37 λ_ _ _ _ _ _=>pU λ_=>rfl;obtain⟨aaZ,Wb,Wc,Pl,Wd⟩:=gY X G (ps:=["field","terms"]) s6 h38 λ_ _ _ _ _ _=>E3 λ_ _=>rfl;obtain⟨aa0,We,Pn,Ll,Po⟩:=gY X G (ps:=["one","other"]) s7 h39 λ_ _ _ _ _ _=>E3 λ_ _=>rfl;obtain⟨aa1,Wf,Wg,Pp,Wh⟩:=gY X G (ps:=["top","bottom"]) s8 h40 λ_ _ _ _ _ _=>E3 λ_ _=>rfl;obtain⟨aa2,Wi,Wj,Pq,Wk⟩:=gY X G (ps:=["number"]) s9 h41 λ_ _ _ _ _ _=>pU λ_=>rfl;obtain⟨Wl,Pr,Pt,My,Pu⟩:=gY X G (ps:=["number"]) IT h42 λ_ _ _ _ _ _=>pU λ_=>rfl;obtain⟨Wm,Pw,Px,Mz,Py⟩:=gY X G (ps:=["names","product","number"]) Je h43 λ_ _ _ _ _ _=>oN λ_ _ _=>rfl;obtain⟨Wn,Pz,PB,MA,PD⟩:=gY X G (ps:=["names","terms"]) Vb h44 λ_ _ _ _ _ _=>E3 λ_ _=>rfl;obtain⟨Wo,PF,PH,MB,PL⟩:=gY X G (ps:=[]) Nq h45 λ_ _ _ _ _ _=>EM rfl;obtain⟨Wq,PM,PN,MC,PQ⟩:=gY X G (ps:=["field","places","thing"]) Sl h46 λ_ _ _ _ _ _=>oN λ_ _ _=>rfl;obtain⟨Ws,PR,Lm,J6,Ln⟩:=gY X G (ps:=["field","places","part","wishes"]) ZH h47 λ_ _ _ _ _ _=>Ck λ_ _ _ _=>rfl;obtain⟨Wu,PU,PV,MD,PY⟩:=gY X G (ps:=["field","places","uppers"]) Sm h48 λ_ _ _ _ _ _=>oN λ_ _ _=>rfl;obtain⟨Wv,PZ,P1,ME,P2⟩:=gY X G (ps:=["_law_script","_law_k"]) ZJ h49 λ_ _ _ _ _ _=>E3 λ_ _=>rfl;obtain⟨Ww,P4,IC,HS,ID⟩:=gY X G (ps:=["_law_room_here","_law_many"]) s18 h50 λ_ _ _ _ _ _=>E3 λ_ _=>rfl;obtain⟨Wx,P5,P6,MG,P7⟩:=gY X G (ps:=["_law_top","_law_base"]) s19 h51 λ_ _ _ _ _ _=>E3 λ_ _=>rfl;obtain⟨Wy,P8,P9,MH,Qa⟩:=gY X G (ps:=["_law_room_here"]) Sq h52 λ_ _ _ _ _ _=>pU λ_=>rfl;obtain⟨Wz,Qb,Qc,MI,Qd⟩:=gY X G (ps:=["_law_room_here","_law_prime_here"]) Vf h53 λ_ _ _ _ _ _=>E3 λ_ _=>rfl;obtain⟨WA,Qe,Qf,MJ,Qg⟩:=gY X G (ps:=["_law_room_here","_law_many","_law_share"]) LY h54 λ_ _ _ _ _ _=>oN λ_ _ _=>rfl;obtain⟨WB,Qh,Qi,MK,Qj⟩:=gY X G (ps:=["_law_room_here","_law_prime_here","_law_many","_law_most"]) Su h55 λ_ _ _ _ _ _=>Ck λ_ _ _ _=>rfl;obtain⟨WC,Qk,Ql,ML,Qm⟩:=gY X G (ps:=["_law_thing"]) OM h56 λ_ _ _ _ _ _=>pU λ_=>rfl;obtain⟨WD,Qn,Lo,J7,Lp⟩:=gY X G (ps:=["_law_things"]) LZ h57 λ_ _ _ _ _ _=>pU λ_=>rfl;obtain⟨WE,Qo,Lq,J8,Lr⟩:=gY X G (ps:=["_law_room_here","_law_things","_law_far"]) s26 h58 λ_ _ _ _ _ _=>oN λ_ _ _=>rfl;obtain⟨WG,Qp,Qq,MM,Qr⟩:=gY X G (ps:=["_law_one","_law_things"]) s27 h59 λ_ _ _ _ _ _=>E3 λ_ _=>rfl;obtain⟨WH,Qs,Qt,MN,Qu⟩:=gY X G (ps:=["_law_one","_law_things"]) s28 h60 λ_ _ _ _ _ _=>E3 λ_ _=>rfl;obtain⟨WI,Qv,Qw,MO,Qx⟩:=gY X G (ps:=["_law_field","_law_many","_law_lows","_law_highs"]) s29 h61 λ_ _ _ _ _ _=>Ck λ_ _ _ _=>rfl;obtain⟨WJ,Qy,Qz,MP,QA⟩:=gY X G (ps:=["_law_room_here","_law_things","_law_far"]) s30 h62 λ_ _ _ _ _ _=>oN λ_ _ _=>rfl;obtain⟨MQ,Ls,aa3,MR,aa4⟩:=gY X G (ps:=["_law_script"]) s31 h63 λ_ _ _ _ _ _=>pU λ_=>rfl;obtain⟨aa5,WK,WL,WM,afI,afJ⟩:=pk (ps:=["self"]) s32 h64 h65 λ_ _ _ _ _ _=>pU λ_=>rfl;obtain⟨aa6,WN,QB,QC,afK,afL⟩:=pk (ps:=["self"]) s33 h66 h67 λ_ _ _ _ _ _=>pU λ_=>rfl;obtain⟨aa7,WO,WQ,WR,afM,afN⟩:=pk (ps:=["self"]) s34 h68 h69 λ_ _ _ _ _ _=>pU λ_=>rfl;obtain⟨aa8,WS,WT,afO,WU,WV⟩:=pk (ps:=["self"]) s35 h70 h71 λ_ _ _ _ _ _=>pU λ_=>rfl;obtain⟨aa9,WW,WY,afP,WZ,W0⟩:=pk (ps:=["self"]) s36 h72 h73 λ_ _ _ _ _ _=>pU λ_=>rfl;obtain⟨aba,W2,MT,afQ,MU,MV⟩:=pk (ps:=["self","other"]) s37 h74 h75 λ_ _ _ _ _ _=>E3 λ_ _=>rfl;obtain⟨abb,W3,W4,W5,afR,afS⟩:=pk (ps:=["self","one","other"]) s38 h76 h77 λ_ _ _ _ _ _=>oN λ_ _ _=>rfl;obtain⟨abc,W6,W7,W8,afT,afU⟩:=pk (ps:=["self","top","bottom"]) s39 h78 h79 λ_ _ _ _ _ _=>oN λ_ _ _=>rfl;obtain⟨abd,W9,Xa,Xb,afV,afW⟩:=pk (ps:=["self","thing"]) s40 h80 h81 λ_ _ _ _ _ _=>E3 λ_ _=>rfl;obtain⟨abe,Xc,KD,KG,afX,afY⟩:=pk (ps:=["self"]) s41 h82 h83 λ_ _ _ _ _ _=>pU λ_=>rfl;obtain⟨abf,Xd,Xe,afZ,Xf,Xg⟩:=pk (ps:=["self","other"]) s42 h84 h85 λ_ _ _ _ _ _=>E3 λ_ _=>rfl;obtain⟨abg,Xh,QD,af0,QE,QF⟩:=pk (ps:=["self"]) s43 h86 h87 λ_ _ _ _ _ _=>pU λ_=>rfl;obtain⟨abh,Xi,Xj,Xk,af1,af2⟩:=pk (ps:=["self"]) s44 h88 h89 λ_ _ _ _ _ _=>pU λ_=>rfl;obtain⟨abi,Xl,Xm,Xn,af3,af4⟩:=pk (ps:=["self"]) s45 h90 h91 λ_ _ _ _ _ _=>pU λ_=>rfl;obtain⟨abj,Xo,QG,QH,af5,af6⟩:=pk (ps:=["self"]) s46 h92 h93 λ_ _ _ _ _ _=>pU λ_=>rfl;obtain⟨abk,Xp,QI,QJ,af7,af8⟩:=pk (ps:=["self"]) s47 h94 h95 λ_ _ _ _ _ _=>pU λ_=>rfl;obtain⟨abl,Xq,Xr,Xs,af9,aga⟩:=pk (ps:=["self"]) s48 h96 h97 λ_ _ _ _ _ _=>pU λ_=>rfl;obtain⟨abm,Xu,Xv,agb,agc,agd⟩:=pk (ps:=["self","part","number"]) s49 h98 h99 λ_ _ _ _ _ _=>oN λ_ _ _=>rfl;obtain⟨QK,QL⟩:=jQ s50 h100 h102;have Xw:=h101;have age:L2.Meth K _ "__init__" _:=⟨QK,h101,QL.keep⟩;obtain⟨abn,QM⟩:=QL.fn;obtain⟨agf,agg,agh,QN,QO,QP⟩:=iM h103;obtain⟨QQ,QR⟩:=jQ s51 h104 h106;have Xx:=h105;have agi:L2.Meth K _ "__init__" _:=⟨QQ,h105,QR.keep⟩;obtain⟨abo,QS⟩:=QR.fn;obtain⟨agj,agk,agl,QT,QU,QV⟩:=iM h107;obtain⟨QW,QX⟩:=jQ s52 h108 h110;have Xy:=h109;have agm:L2.Meth K _ "__init__" _:=⟨QW,h109,QX.keep⟩;obtain⟨abp,KH⟩:=QX.fn;obtain⟨agn,ago,agp,J9,Ka,QY⟩:=iM h111;have Xz:=hfa.symm.trans MR
 cases Xz
 have QZ:=jN QP;subst QZ;obtain⟨agq,Q0⟩:=lN QV;subst Q0;have Q1:=jN QY;subst Q1;have XA:=BD QM QN QO;have bFI:=DF QS QT QU;have XB:=BY KH J9 Ka;have XC:=Au KH J9 Ka;have XD:=Cg KH J9 Ka;have N:vk mg:=⟨GJ,HX,Mu⟩;have cF:Cp K mg (ga K "Field"):=⟨⟨h112,h113,h114,cg h115⟩,aW h116,Kx,(Bool.and_eq_true_iff.mpr h117),cg h118,cg h119,cU h120,cU h121⟩;have c:zz K mg (ga K "Sum"):=⟨⟨h122,h123,h124,cg h125⟩,aW h126,aW h127,Pe⟩;have cQ:vn K mg (ga K "Sum"):=⟨c,(Bool.and_eq_true_iff.mpr h128),cg h129,cg h119,cU h120,cU h130⟩;have cS:Fb K mg (ga K "System"):=⟨⟨h131,h132,h133,cg h134⟩,aW h135,aW h136,aW h137,aW h138,J0,(Bool.and_eq_true_iff.mpr h139),cg h140,cg h119,cU h120,cU h141⟩;have hP:=tN h142;have kNS:AI K (ga K "NoSystem"):=⟨h149,cg h150,aW h151,cg h152,cU h153,cU h154⟩;have Q2:findIn K (.ref (ga K "NoSystem")) "__setattr__"=some (some (.builtin "object.__setattr__")):=cg h155;have sNS:Gy K (ga K "NoSystem"):=Hd.uf h148 kNS Q2;refine⟨MQ,λs v=>?_,λbase _ _ BT=>?_⟩
 ·obtain⟨oc,od,kV,doc,pm,an,GL,ct,GZ,rfl,lk,HB⟩:=Ls.ex;exact .of_eq rfl
 have KI:=yc (P:=l.prog) (w:=w) (base:=base) VW N;have Q3:=CU (P:=l.prog) (w:=w) (base:=base) We HW;have XF:=vY (P:=l.prog) (w:=w) (base:=base) Wf Q3 Pn Ll Po;have XG:=qP (P:=l.prog) (w:=w) (base:=base) W6 cF G4 XF Wg Pp Wh;have XH:=AR (P:=l.prog) (w:=w) (base:=base) W3 cF XG W7 W8;have XI:=Al (P:=l.prog) (w:=w) (base:=base) QS cF KI KA Jp KC G4 J1 hP Jx h143;have XJ:=pA (P:=l.prog) (w:=w) (base:=base) W9 cF G4 N GS GP Q3 Pn Ll Po KI KA Jp KC;have MW:=Dj (P:=l.prog) (w:=w) (base:=base) W2 cF N;have KJ:=yX (P:=l.prog) (w:=w) (base:=base) Xc cF;have XM:=wg (P:=l.prog) (w:=w) (base:=base) VX G9 KI KA Jp KC;have XN:=sL (P:=l.prog) (w:=w) (base:=base) V0 GJ GS Jn JP XM VY Pf VZ;have XO:=zQ (P:=l.prog) (w:=w) (base:=base) V3 cF GJ GS GP XN V1 Pg V2 XJ Xa Xb;have XQ:=rB (P:=l.prog) (w:=w) (base:=base) V9 GP;have XR:=rG (P:=l.prog) (w:=w) (base:=base) V6 GJ GN GW XO V4 Ph V5;have XS:=AJ (P:=l.prog) (w:=w) (base:=base) Wb cF Ie XH W4 W5 XQ Wa Pk;have MX:=yE (P:=l.prog) (w:=w) (base:=base) QM c XS Wc Pl Wd XR V7 Pj V8;have XT:L2.Mk K _ _:=⟨h159,QK,Xw,h160⟩;have MkF:L2.Mk K _ _:=⟨h161,QQ,Xx,h162⟩;have XU:L2.Mk K _ _:=⟨h163,QW,Xy,h164⟩;have XW:=mf (P:=l.prog) (w:=w) (base:=base) Wi Ig HN En Mw Ii;have Q4:=rF (P:=l.prog) (w:=w) (base:=base) Pr HW XW Wj Pq Wk;have Q5:=oa (P:=l.prog) (w:=w) (base:=base) Pw HW Q4 Pt My Pu;have Q6:=mq (P:=l.prog) (w:=w) (base:=base) Pz Q5 Px Mz Py;have Q7:=vg (P:=l.prog) (w:=w) (base:=base) PF GQ G9;have XX:=zV (P:=l.prog) (w:=w) (base:=base) (CF:=ga K "Field") WS c HN Q6 PB MA PD Q7 PH MB PL;have XY:=xS (P:=l.prog) (w:=w) (base:=base) WW c cF HN XX WT WU WV KJ KD KG;have XZ:=vS (P:=l.prog) (w:=w) (base:=base) (CF:=ga K "Field") WK c;have Q8:=Ak (P:=l.prog) (w:=w) (base:=base) WN c GP;have X0:=wj (P:=l.prog) (w:=w) (base:=base) WO c HC;have S8:IK l.prog w K mg base "NoSystem" (ga K "NoSystem") Fp (eO (ga K "NoSystem") "part" "number"):=Hd.DM Ji h148 kNS Q2 (yj Xu sNS (aW h156) (aW h157)) Xv;have RF:GA l.prog w K mg base _ _ _ _:=⟨S8,aW h156,aW h157,cU h165,IJ,Kz,Jy,IH,cU h158,cU h166,cU h167⟩;have Q9:=CZ (P:=l.prog) (w:=w) (base:=base) PM cQ cF GJ MW MT MU MV XZ WL WM X0 WQ WR;have Lu:=DU (P:=l.prog) (w:=w) (base:=base) PR GJ GN GW GP Iu S8 Q9 PN MC PQ;have Ra:=Ec (P:=l.prog) (w:=w) (base:=base) PU cF GJ GN G4 S8 KJ KD KG Lu Lm J6 Ln;have MZ:=Dt (P:=l.prog) (w:=w) (base:=base) KH cS cF GJ G9 S8 KI KA Jp KC Lu Lm J6 Ln Ra PV MD PY;have X1:=BN (P:=l.prog) (w:=w) (base:=base) Xd cS cF GJ MW MT MU MV;have Ri:=Ab (P:=l.prog) (w:=w) (base:=base) (CF:=ga K "Field") Xh cS GP;have X2:=Dy (P:=l.prog) (w:=w) (base:=base) (CF:=ga K "Field") Xi cS;have X3:=DD (P:=l.prog) (w:=w) (base:=base) (CF:=ga K "Field") Xl cS;have Rm:=Ef (P:=l.prog) (w:=w) (base:=base) (CF:=ga K "Field") Xo cS GN;have Rn:=Dz (P:=l.prog) (w:=w) (base:=base) (CF:=ga K "Field") Xp cS GN;have X4:=zN (P:=l.prog) (w:=w) (base:=base) (CF:=ga K "Field") Xq cS cQ HC Q8 QB QC;have Ro:=zO (P:=l.prog) (w:=w) (base:=base) PZ GP;have IE:=Ax (P:=l.prog) (w:=w) (base:=base) (mg:=mg) P4;have Rq:=zX (P:=l.prog) (w:=w) (base:=base) P5 HW HX;have Ru:=vI (P:=l.prog) (w:=w) (base:=base) P8 IE IC HS ID;have Rv:=u5 (P:=l.prog) (w:=w) (base:=base) Qb IE IC HS ID Rq P6 MG P7;have Rw:=wu (P:=l.prog) (w:=w) (base:=base) Qe GS GQ IE IC HS ID;have Rx:=vA (P:=l.prog) (w:=w) (base:=base) Qh GQ IE IC HS ID Rw Qf MJ Qg Rv Qc MI Qd;have Ry:=vT (P:=l.prog) (w:=w) (base:=base) Qk N;have Lv:=CA (P:=l.prog) (w:=w) (base:=base) Qn cS XU GJ RF MZ XB;have Rz:=Ey (P:=l.prog) (w:=w) (base:=base) Qp cS cF cQ GP HC ⟨_,_,X2,Xj,Xk⟩ ⟨_,_,X3,Xm,Xn⟩ ⟨_,_,Rm,QG,QH⟩ ⟨_,_,Rn,QI,QJ⟩ ⟨_,_,X4,Xr,Xs⟩ ⟨_,_,Q8,QB,QC⟩ ⟨_,_,Ry,Ql,ML,Qm⟩ ⟨_,_,Ri,QD,QE,QF⟩ ⟨_,_,MW,MT,MU,MV⟩ (cg h144);have RA:=EA (P:=l.prog) (w:=w) (base:=base) Qs cS cF cQ GP GN (cU h146) h147 XU MZ XB XT MX XA ⟨_,_,KJ,KD,KG⟩ ⟨_,_,Ri,QD,QE,QF⟩ ⟨_,_,X1,Xe,Xf,Xg⟩ (cg h145);have RB:=Ei (P:=l.prog) (w:=w) (base:=base) Qv cS GN XU MZ XB XC XD ⟨_,_,Rm,QG,QH⟩ ⟨_,_,Rn,QI,QJ⟩ ⟨_,_,Rz,Qq,MM,Qr⟩ ⟨_,_,RA,Qt,MN,Qu⟩;have Lw:=Ds (P:=l.prog) (w:=w) (base:=base) Qo cF cQ GP GS XT MX XA ⟨_,_,KJ,KD,KG⟩ ⟨_,_,IE,IC,HS,ID⟩;have RC:=DX (P:=l.prog) (w:=w) (base:=base) Qy GN HX GQ ⟨_,_,Lw,Lq,J8,Lr⟩ ⟨_,_,Lv,Lo,J7,Lp⟩;exact BR Ls cF cQ HC JY GP GQ IG HX XT MX XA MkF XI bFI ⟨_,_,XY,WY,WZ,W0⟩ ⟨_,_,Ro,P1,ME,P2⟩ ⟨_,_,IE,IC,HS,ID⟩ ⟨_,_,Ru,P9,MH,Qa⟩ ⟨_,_,Rx,Qi,MK,Qj⟩ ⟨_,_,RB,Qw,MO,Qx⟩ ⟨_,_,Lw,Lq,J8,Lr⟩ ⟨_,_,RC,Qz,MP,QA⟩ ⟨_,_,Lv,Lo,J7,Lp⟩
theorem Fw {l:OpenLaw}{q:wM}{loose:xQ}{XP:(Str->Option Value)->Heap->Prop}{d:DefRec}(hn:l.most=some 63)(N4:d.params.defaults=[])(hd:d.name="law"):
 WalkO q loose XP wI l.row.toRowW d [] (λf vs=>PySem.call f vs):=by
 refine Hd.vK (n:=63) (k:=110) (x:="_law_script") (CX:=λw=>bc l.prog w) (sp:=λK=>v8 K) (φ:=λK=>vN K=dueK) (tabs:=λK=>[]) hn (by decide) N4 ⟨rfl,by decide,by decide,λ_=>rfl⟩ (λw h y=>y) ?_ (λw K mg fa h o X G e=>sr o X G (by rw[<-hd];exact e)) ?_ ?_
 ·intro w s₀ mg mb h K o Gr KX;exact⟨λr X5=>(nomatch X5),λr X5=>(nomatch X5)⟩
 ·intro K H a ns hl hO hS;refine⟨a,ns,rfl,?_,hl,λ_=>rfl⟩
  rcases hS with(hS|⟨o,hS⟩)|hS
  ·rcases hO.1 a with z|⟨o,xs,z⟩|⟨z,_⟩
   ·rw[z] at hS;cases hS
   ·rw[z] at hS;cases hS
   ·rw[z] at hS;cases hS
  ·exact .inl ⟨o,hS⟩
  ·exact .inr hS
 ·intro w H s e s' z;obtain⟨a,cls,a0,B,d,H',_,_,_,_,hE⟩:=z;exact hE.elim
end K16
open PySem PySem.W PyProof.Rows
set_option maxRecDepth 100000 in
set_option maxHeartbeats 0 in
theorem PySem.Challenge.cw_falsesums_k16_what_is_a_system_holds : PySem.Challenge.rw_falsesums_k16_what_is_a_system.Holds := by
 refine PySem.W.holds_law (by kernel_rfl) λagu=>?_
 refine PySem.W.holds_open (r:=PySem.Challenge.rw_falsesums_k16_what_is_a_system.row) (q:=K16.iU) (loose:=["Field","STEP"]) (Xt:=λs=>xlAt K16.iU K16.lv s&&recOk (PySem.Challenge.rw_falsesums_k16_what_is_a_system.row.toRowW).records s) (XP:=XL K16.iU K16.lv)
  (Yf:=λs=>K16.vN (Hd.wc K16.qL s.heap)) (Ya:=λ_=>K16.dueK) (YP:=K16.wI) (N:=9178) ?hl K16.AK K16.si (λs e=>xl_of s (Bool.and_eq_true_iff.mp e).1) XL.keeps (by rfl) (by rfl) (by rfl) (λs e=>recFacts_of (Bool.and_eq_true_iff.mp e).2) (by rfl) (by assumption) (by decide +kernel) ⟨rfl,rfl,rfl,rfl,rfl,by decide +kernel⟩ ?hw ?hc
 case hw=>w_witness2
 case hl=>exact Hd.aaJ K16.ran1 K16.ran3 K16.ran4
 case hc=>exact K16.Fw rfl rfl rfl
