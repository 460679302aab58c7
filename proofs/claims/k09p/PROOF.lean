import PyProof.Rows.All
import Wide.All
import OpenK.AllK
import Wide.FinOn
import Lean
import PyProof.EqAt
import PyProof.EqKinds
import PyProof.TupleCall
import PyProof.NeKinds
import KE.LcSums
import KE.KPairComp
import PyProof.EnumMake
import PyProof.EnumFor
import PyProof.ZipIter
import PyProof.Draws
import KE.KSortTup
import PyProof.Rows.SortWalk
import PyProof.Rows.MinMaxN
import PyProof.Rows.SetFrom
import PyProof.WalkInts
import KE.KSortKey
import PyProof.Rows.TupAdd
import PyProof.ListRange
import PyProof.ReprRoads
import PySem.Challenge.RW_falsesums_k09_whole_worths_go_along
set_option Elab.async false
set_option linter.all false
set_option maxRecDepth 100000
abbrev AU:=PySem.Value->PySem.Shared->Prop
abbrev Cw:=PySem.Str->Option PySem.Value
abbrev pL:=PySem.Shared
abbrev GS:=PySem.FuncData
abbrev xq:=PySem.Program
abbrev HF:=List PySem.Value
abbrev Il:=Array PySem.Value
abbrev xB:=List PySem.Expr
abbrev F3:=List PySem.Str
abbrev DT:=Option PySem.Addr
abbrev xA:=Array (Option PySem.Value)
abbrev IY:List PySem.Str:=["thing"]
abbrev xn:List PySem.Str:=["self","other"]
abbrev xV:List PySem.Str:=["self","top","bottom"]
abbrev qV:List PySem.Str:=["field","terms"]
abbrev Bl:List PySem.Str:=["self","thing"]
abbrev AY:List PySem.Str:=["self","one","other"]
abbrev FZ:List PySem.Str:=["self","field","terms"]
abbrev si:List PySem.Str:=["one","other"]
abbrev Ay:List PySem.Str:=["_law_prime_here","_law_one","_law_other"]
abbrev Ge:List PySem.Str:=["_law_room_here","_law_many"]
abbrev CG:List PySem.Str:=["self","prime"]
abbrev sC:List PySem.Str:=["_law_prime_here","_law_top","_law_bottom"]
abbrev EE:List PySem.Str:=["_law_room_here","_law_prime_here"]
abbrev tL:List PySem.Str:=["top","bottom"]
abbrev r6:List PySem.Str:=["_law_top","_law_bottom"]
abbrev AZ:List PySem.Str:=["field","thing"]
abbrev AW:List PySem.Str:=["_law_room_here","_law_many","_law_share"]
abbrev BL:List PySem.Str:=["self","number"]
abbrev B7:List PySem.Str:=["self","order"]
abbrev yE:List PySem.Str:=["_law_sums","_law_filling"]
abbrev AQ:List PySem.Str:=["_law_script","_law_k"]
abbrev Fe:List PySem.Str:=["_law_room_here","_law_prime_here","_law_many","_law_most"]
abbrev HQ:List PySem.Str:=["known","sums","product"]
abbrev Hn:List PySem.Str:=["_law_field","_law_room_here"]
abbrev Gg:List PySem.Str:=["_law_field","_law_prime_here","_law_sums","_law_number_here","_law_order"]
abbrev Cs:List PySem.Str:=["_law_one","_law_rows"]
def IW:=@PySem.wpAny_bind
def Fc:=@PySem.wpAny_pure
def Ez:=@PySem.Heap.get?_push_of_some
def IX:=@if_neg
def rB:=@List.mem_cons_of_mem
def qT:=@List.mem_cons_self
def yH:=@Nat.le_refl
def qk:=@if_pos
def EZ:=@List.length_map
def Jc:=@List.size_toArray
def Ep:=@PySem.Heap.lt_size
def Fg:=@PySem.Heap.get?_push_size
def Io:=@List.mem_append_right
def HK:=@List.mem_cons
def Hv:=@Nat.lt_of_le_of_lt
def IB:=@Nat.ne_of_lt
def Ip:=@Nat.lt_of_lt_of_le
def E7:=@Bool.false_ne_true
def Ax:=@PySem.wpAny_mono
def EA:=@List.mem_map
def Gq:=@List.mem_of_getElem?
def Gy:=@Nat.zero_le
def sR:=@List.length_cons
def Ig:=@Nat.le_trans
def tH:=@List.mem_append
def Ir:=@Bool.and_eq_true
def sf:=@List.take_add_one
def IA:=@decide_eq_false
def Iw:=@decide_eq_true
def GJ:=@List.getD_eq_getElem?_getD
def yh:=@Array.length_toList
def Bt:=@Ne.symm
def Ii:=@List.getElem?_eq_getElem
def yi:=@List.take_length
def BV:=@PySem.wpAny_holding
def zr:=@List.length_append
def CB:=@PySem.wpAny_setField_rec
def Bf:=@PySem.wpAny_newObj_type
def zV:=@PySem.wpAny_field
def IZ:=@List.map_cons
def ng:=@PySem.Heap.get?_update_other
def Bi:=@PySem.F.excBase_ValueError
def Bq:=@Bool.and_eq_true_iff
def tE:=@PySem.wpAny_callSpecial?_slot
def xo:=@List.length_take
def tP:=@PySem.wpAny_call_entry
def rM:=@PySem.wpAny_Call_Name_kw
def tN:=@List.pairwise_cons
def Aq:=@List.map_append
def uJ:=@Option.map_eq_some_iff
def CR:=@List.getElem?_map
def A6:=@List.mem_append_left
def Ho:=@Int.toNat_natCast
def uq:=@Int.mul_nonneg
def zc:=@List.mem_filter
def zp:=@List.getElem?_eq_some_iff
def DO:=@List.nodup_cons
def Eh:=@List.exists_cons_of_length_eq_add_one
def B5:=@PySem.Heap.size_push
def ye:=@Int.natAbs_mul
def E5:=@PySem.PassesOwn.never
def xS:=@Int.mul_assoc
def Bb:=@Nat.lt_trans
def GH:=@Nat.lt_irrefl
def sI:=@Nat.succ.inj
def Bn:=@PySem.Heap.SameBut.update
def Fn:=@PySem.Heap.get?_update_self
def B0:=@PyProof.Rows.slot_tuple_getitem
def Ec:=@congrArg
def DJ:=@Int.emod_lt_of_pos
def Ie:=@List.filterMap_cons
def jR:=@PySem.wpAny_truthy_bool
def xx:=@Nat.le_of_lt
def iL:=@PySem.wpAny_seqItems
def uG:=@PySem.W.kia_one
def BU:=@Bool.false_eq_true
def DZ:=@List.mem_singleton
def xr:=@List.lookup_cons
def GW:=@PySem.wpAny_standAt
def tU:=@Nat.ne_of_gt
def zF:=@PySem.Paired.snoc
def ni:=@Int.le_refl
def sS:=@Nat.lt_succ_of_lt
def yd:=@Int.emod_eq_of_lt
def mZ:=@of_decide_eq_true
def yp:=@List.append_nil
def rQ:=@Int.emod_nonneg
def Ek:=@PySem.F.slot_dict_itemiterator_next
def jP:=@Nat.min_le_right
def DQ:=@List.mem_range
def xt:=@Bool.false_and
def pF:=@PySem.boot_len
def Hg:=@PySem.Around.under_plainId
def AG:=@PyProof.Rows.callWith_type1
def pB:=@PySem.codeAny_builtin
def Ja:=@Nat.le_succ
def xR:=@Array.getElem?_eq_none
def mX:=@PySem.wpAny_attempt
def Je:=@Bool.true_and
def yo:=@List.pairwise_iff_getElem
def qK:=@PySem.wpAny_rule
def wR:=@if_false
def EU:=@List.all_map
def ET:=@PySem.wpAny_typeNameOfWhole_itemiter
def yO:=@Nat.lt_or_ge
def tj:=@List.mem_of_mem_take
def Ao:=@Int.mul_le_mul_of_nonneg_left
def Ex:=@beq_eq_false_iff_ne
def Co:=@PySem.mem_of_lookup
def Ef:=@List.nodup_nil
def EL:=@List.not_mem_nil
def Fz:=@beq_iff_eq
def BR:=@PySem.wpAny_letGo
def BO:=@PySem.wpAny_pyIter_tuple
def B8:=@Array.getD_eq_getD_getElem?
def wH:=@PyProof.Rows.F.plain_set_update_loop
def Ei:=@PySem.wpAny_passesOwn
def FJ:=@Bool.eq_iff_iff
def Ij:=@if_true
def Hw:=@Array.getElem?_toList
def CD:=@Int.mul_ne_zero
def HZ:=@List.any_cons
def Cg:=@Array.getElem?_eq_some_iff
def sY:=@Int.eq_of_mul_eq_mul_right
def qo:=@PySem.F.slot_tuple_iterator_next
def CV:=@PySem.plainId_quiet
def BE:=@List.append_assoc
def Iv:=@List.nodup_append
def Cp:=@PySem.codeAny_call_builtin
def Ab:=@PySem.wpAny_typeNameOf_itemiter
def GO:=@PySem.wpAny_setField
def CL:=@beq_self_eq_true
def Fd:=@Nat.lt_succ_self
def zL:=@PySem.codeAny_mono
def yB:=@Option.isSome_iff_exists
def Ea:=@Int.mul_comm
def BK:=@List.getElem_mem
def BP:=@List.all_eq_true
def wJ:=@List.map_map
def Ae:=@List.any_eq_true
def BC:=@PySem.F.called_set
def Iq:=@PySem.F.plain_max_loop
def HN:=@List.replicate_succ
def w9:=@Option.bind_eq_some_iff
def Ih:=@List.find?_cons
def xP:=@List.length_nil
def zP:=@List.foldl_cons
def xG:=@PySem.Obj.data_mapFields
def Bk:=@PySem.wpAny_pyNext_list_item
def Fq:=@PySem.sizeLine_eq
def zR:=@Int.fmod_nonneg_of_pos
def BH:=@PySem.wpAny_isOneOf_itemiter
def HY:=@Int.mul_pos
def yf:=@PySem.wpAny_pyIter_list
def wN:=@PySem.Calls.spliced_nil
def Hm:=@decide_eq_true_eq
def wD:=@PySem.wpAny_pyNext_list_end
def xi:=@PySem.wpAny_tryCatch
def EJ:=@PySem.wpAny_fieldsOf
def A4:=@List.length_filter_le
def mJ:=@PySem.F.slot_enumerate_next
def zC:=@PySem.wpAny_askSetting
def A2:=@PySem.wpAny_isInstance
def HP:=@List.mem_flatMap
def ui:=@Nat.mul_le_mul_right
def BI:=@PySem.Paired.length
def yy:=@List.getElem?_append_right
def rS:=@List.all_cons
def GA:=@Int.mul_one
def FD:=@List.mem_map_of_mem
def EC:=@List.getElem?_append_left
def HJ:=@PySem.W.KasT.kasWp_bind
def F9:=@PyProof.Rows.get?_update_seq
def yg:=@List.drop_eq_getElem_cons
def wK:=@Classical.byContradiction
def BA:=@PySem.wpAny_updateSeq
def yw:=@PySem.Calls.spliced_cons
def EG:=@PySem.tupleKind_room_in1
def CQ:=@PySem.F.args_tuple_add_2
def yl:=@PySem.wpAny_comprehension_free
def zw:=@Rat.divInt_eq_divInt_iff
def CP:=@PyProof.Rows.F.entry_set_update_loop
def FX:=@List.filter_append
def yn:=@PySem.wpAny_call
def tG:=@PySem.F.entry_tuple_add
def GL:=@List.length_eq_zero_iff
def qA:=@List.filter_cons_of_neg
def Bg:=@PySem.F.plainAttrs_list
def x5:=@List.flatten_cons
def ym:=@PySem.wpAny_pyIter_enum
def xQ:=@List.length_range
def yP:=@List.pairwise_map
def Bo:=@PySem.F.slot_tuple_add
def Cr:=@Nat.succ_ne_self
def CS:=@Nat.le_add_right
def Em:=@List.ext_getElem
def Ht:=@Array.size_empty
def Cb:=@List.length_replicate
def wI:=@PySem.Obj.isFreed_of_fields
def Ac:=@Array.getElem?_setIfInBounds_ne
def E9:=@PySem.F.args_dict_itemiterator_next_1
def FK:=@PySem.wpAny_execs_nil
def AO:=@PySem.wpAny_typeOf
def zj:=@List.forIn_cons
def Gu:=@PySem.F.entry_dict_itemiterator_next
def HL:=@PySem.wpAny_updateSeq_pair
def DI:=@PySem.F.slot_zip_next
def EH:=@Nat.mod_lt
def gW:=@Nat.succ_pos
def Hu:=@Int.natAbs_of_nonneg
def Bp:=@Int.mul_le_mul_of_nonneg_right
def zf:=@List.eq_nil_of_length_eq_zero
def wX:=@PySem.W.plainGet_of
def GX:=@Nat.mul_le_mul_left
def yV:=@PySem.wpAny_setEntries_of
def BF:=@Nat.add_le_add_left
def Bc:=@List.mergeSort_perm
def Ey:=@Prod.ext
def Ct:=@Int.gcd_pos_of_ne_zero_right
def zG:=@PySem.wpAny_newTuple
def EW:=@PySem.isSubtype_stop
def Ee:=@PySem.F.args_tuple_iterator_next_1
def wU:=@or_false
def yF:=@List.Perm.refl
def Ff:=@PySem.isSubtype_type
def xK:=@PySem.wpAny_of_eq
def sr:=@Int.one_mul
def xF:=@Array.append_assoc
def CJ:=@List.mem_filterMap
def CA:=@PySem.W.callWith_K
def qz:=@PySem.SeqAt.EqAt.int_int
def CT:=@Int.fmod_lt_of_pos
def EV:=@List.map_filterMap
def Fo:=@Int.natCast_nonneg
def B9:=@PySem.wpAny_onRaise
def tW:=@Bool.and_true
def zS:=@Option.isSome_map
def Fw:=@PySem.wpAny_pyIter_slot
def yb:=@PySem.wpAny_dictEntries
def wL:=@Nat.lt_trichotomy
def Fi:=@PySem.call_meets
def Ck:=@PySem.intKind_is
def sJ:=@PySem.noFill_tuple_add
def zU:=@List.length_drop
def Bw:=@Nat.mul_comm
def yk:=@PySem.W.looks_findIn
def yN:=@Nat.zero_add
def se:=@List.of_mem_zip
def AA:=@Nat.not_lt_zero
def GF:=@Int.natCast_mul
def EO:=@Prod.mk.inj
namespace L2
open PySem
theorem A8:(1:Nat)<=sizeLine:=by decide
theorem jJ:(2:Nat)<=sizeLine:=by decide
theorem aac:(4:Nat)<=sizeLine:=by decide
theorem aaf:(6:Nat)<=sizeLine:=by decide
noncomputable def aU (s:Stmt)(j:Nat):Stmt:=match s with
 | .ClassDef _ _ _ body _ _ _ _ _ _ _=>body.getD j (.Pass ⟨0,0,0,0⟩)
 |_=>.Pass ⟨0,0,0,0⟩
noncomputable def c7 (s:Stmt):Arguments:=match s with
 | .FunctionDef _ a _ _ _ _ _ _ _ _=>a
 |_=>{posonlyargs:=[],args:=[],vararg:=none,kwonlyargs:=[],kw_defaults:=[],kwarg:=none,defaults:=[]}
noncomputable def cK (s:Stmt):List Stmt:=match s with
 | .FunctionDef _ _ b _ _ _ _ _ _ _=>b
 |_=>[]
noncomputable def au (s:Stmt):Scope:=match s with
 | .FunctionDef _ _ _ _ _ _ sc _ _ _=>sc
 |_=>{kind:=.function,names:=[],isGenerator:=false,isCoroutine:=false}
end L2
namespace Hd
open PySem PySem.W PyProof.Rows
noncomputable def zT (as:List Addr)(h:Heap):Frag:=as.filterMap λa=>(h.get? a).map λo=>(a,o)
theorem pX (h:Heap):∀as:List Addr,(zT as h).In h
 |[],a,o,e=>by cases e
 |b::as,a,o,e=>by
  unfold zT at e;rw[Ie] at e
  cases q:h.get? b with
  |none =>
   rw[q] at e;exact pX h as a o e
  |some u =>
   rw[q] at e;dsimp only[Option.map_some] at e;rw[xr] at e
   by_cases z:a=b
   ·subst z;simp only[CL] at e;rw[q];exact e
   ·have:(a==b)=false:=by simpa using z
    simp only[this] at e;exact pX h as a o e
noncomputable abbrev uH:=Str×Str×Arguments×FuncBody×Scope×Addr×List (Str×Addr)×Value×Addr
noncomputable def C3 (fd:GS):uH:=(fd.name,fd.qualname,fd.params,fd.body,fd.scope,fd.globals,fd.closure,fd.defaults,fd.builtins)
noncomputable def rh (K:Frag)(v:Option (Option Value)):Option FuncData:=match v with
 |some (some (.ref f))=>(match K.lookup f with
  |some ⟨_,_,.func fd,_⟩=>some fd
  |_=>none)
 |_=>none
noncomputable def aZ (K:Frag)(v:Option (Option Value)):Option uH:=(rh K v).map C3
noncomputable def dG (x qual:Str)(st:Stmt):Option uH:=some (x,qual,L2.c7 st,.stmts (L2.cK st),L2.au st,mainGlobals,[],.none,builtinsNs)
noncomputable def cZ (v:Option (Option Value)):Addr:=match v with
 |some (some (.ref a))=>a
 |_=>0
noncomputable def fA (v:Option (Option Value)):Bool:=match v with
 |some (some (.ref _))=>true
 |_=>false
theorem cW {v:Option (Option Value)}(h:fA v=true):v=some (some (.ref (cZ v))):=by
 unfold fA at h
 split at h
 ·rfl
 ·cases h
noncomputable def eU (v:Option (Option Value)):Bool:=match v with
 |some none=>true
 |_=>false
theorem cm {v:Option (Option Value)}(h:eU v=true):v=some none:=by
 unfold eU at h
 split at h
 ·rfl
 ·cases h
noncomputable def dz (K:Frag)(v:Option (Option Value))(qual:Str):Bool:=keepIn K (.ref (cZ v))&&(match rh K v with
 |some fd=>codeIn K fd.code qual
 |none=>false)
noncomputable abbrev gv (K:Frag)(x:Str):Option (Option Value):=nsIn K mainGlobals x
noncomputable abbrev ga (K:Frag)(x:Str):Addr:=cZ (nsIn K mainGlobals x)
noncomputable abbrev fv (K:Frag)(c x:Str):Option (Option Value):=findIn K (.ref (cZ (nsIn K mainGlobals c))) x
noncomputable def iu (K:Frag)(v:Option (Option Value)):Option uH:=(rh K v).map λfd=>C3 {fd with defaults:=.none}
noncomputable def Hy (K:Frag)(v:Option (Option Value)):Value:=match rh K v with
 |some fd=>fd.defaults
 |none=>.none
noncomputable def pZ (K:Frag)(v:Option (Option Value)):Addr:=match Hy K v with
 | .ref a=>a
 |_=>0
noncomputable def uF (K:Frag)(v:Option (Option Value)):Bool:=match Hy K v with
 | .ref _=>true
 |_=>false
noncomputable def sV (K:Frag)(T:Addr)(p:Value->Bool):Bool:=match K.lookup T with
 |some o=>(match o.data with
  | .seq a _=>(match a.toList with
    |[v]=>p v
    |_=>false)
  |_=>false)
 |none=>false
theorem iG {K:Frag}{T:Addr}{p:Value->Bool}(h:sV K T p=true):∃o v n,K.lookup T=some o/\o.data=.seq #[v] n/\p v=true:=by
 unfold sV at h
 split at h
 ·rename_i o ho
  split at h
  ·rename_i a n hd
   split at h
   ·rename_i v hv
    have:a = #[v]:=by rw[<-Array.toArray_toList (xs:=a),hv]
    subst this;exact⟨o,v,n,ho,hd,h⟩
   ·cases h
  ·cases h
 ·cases h
noncomputable def Cu (n:Int)(v:Value):Bool:=match v with
 | .int i _=>i==n
 |_=>false
theorem jr {n:Int}{v:Value}(h:Cu n v=true):∃t,v=.int n t:=by
 unfold Cu at h
 split at h
 ·rename_i i t
  have:i=n:=by simpa using h
  exact⟨t,by rw[this]⟩
 ·cases h
noncomputable def yY (v:Value):Bool:=match v with
 | .none=>true
 |_=>false
theorem pJ {v:Value}(h:yY v=true):v=.none:=by
 unfold yY at h
 split at h
 ·rfl
 ·cases h
noncomputable def xW (v:Option (Option Value))(n:Int):Bool:=match v with
 |some (some u)=>Cu n u
 |_=>false
theorem jT {v:Option (Option Value)}{n:Int}(h:xW v n=true):∃t,v=some (some (.int n t)):=by
 unfold xW at h
 split at h
 ·obtain⟨t,rfl⟩:=jr h;exact⟨t,rfl⟩
 ·cases h
noncomputable def vt:List Value->List Int->Bool
 |[],[]=>true
 |v::vs,n::ns=>Cu n v&&vt vs ns
 |_,_=>false
noncomputable def Ak (K:Frag)(a:Addr)(ns:List Int):Bool:=match K.lookup a with
 |some o=>(match o.cls with
  | .type T=>T == "tuple"
  |_=>false)&&(match o.data with
  | .seq its _=>vt its.toList ns&&decide (its.size<=sizeLine)
  |_=>false)
 |none=>false
noncomputable def m9 (v:Option (Option Value))(s:String):Bool:=match v with
 |some (some (.builtin t))=>t==s
 |_=>false
theorem dZ {v:Option (Option Value)}{s:String}(h:m9 v s=true):v=some (some (.builtin s)):=by
 unfold m9 at h
 split at h
 ·rename_i t
  have:t=s:=by simpa using h
  rw[this]
 ·cases h
noncomputable def uM (v:Option Bool)(b:Bool):Bool:=match v with
 |some c=>c==b
 |none=>false
theorem jA {v:Option Bool}{b:Bool}(h:uM v b=true):v=some b:=by
 unfold uM at h
 split at h
 ·rename_i c
  have:c=b:=by simpa using h
  rw[this]
 ·cases h
noncomputable def Cc:List Obj->BT->Nat->Option BT
 |[],t,_=>some t
 |o::os,t,n=>match ((t.ins n o).get n).isSome with
  |true=>Cc os (t.ins n o) (n+1)
  |false=>none
theorem uZ (life:Life):∀(os:List Obj)(t t':BT)(n:Nat),Cc os t n=some t'->(absHeap t' (n+os.length) life).objs=(absHeap t n life).objs++os.toArray
 |[],t,t',n,h=>by
  cases h
  simp
 |o::os,t,t',n,h=>by
  unfold Cc at h
  cases q:((t.ins n o).get n).isSome with
  |false=>rw[q] at h;cases h
  |true =>
   rw[q] at h;have e:=uZ life os _ _ _ h;rw[absHeap_ins q] at e
   have:n+1+os.length=n+(o::os).length:=by simp only[sR];omega
   rw[this] at e;rw[e];show((absHeap t n life).objs.push o)++os.toArray=_;rw[<-Array.append_singleton,xF];simp
noncomputable def Im (s:pL):Option SharedT:=(Cc s.heap.objs.toList .nil 0).map λt=>⟨t,s.heap.objs.size,s.heap.life,s.gens,s.drawn,s.toks,s.os⟩
theorem aad {s:pL}{x:SharedT}(h:Im s=some x):x.abs=s:=by
 unfold Im at h;obtain⟨t,e,rfl⟩:=uJ.mp h;have g:=uZ s.heap.life _ _ _ _ e;obtain⟨⟨objs,life⟩,gens,drawn,toks,os⟩:=s
 have z:absHeap t objs.size life=⟨objs,life⟩:=by
  have a:(absHeap t objs.size life).objs=objs:=by
   have l:0+objs.toList.length=objs.size:=by simp
   rw[l] at g;rw[g];simp[absHeap,BT.list]
  exact Ec (Heap.mk · life) a
 show Shared.mk _ _ _ _ _=_;rw[z]
noncomputable def j6 (tb:String->Option Builtin)(p:xq)(w:World)(n₀:Nat)(ann:Option Value):Nat->SharedT->Thread->Option SharedT
 |0,_,_=>none
 |n+1,s,t=>match through t with
  |true=>some s
  |false=>match stepOk n₀ ann t with
   |false=>none
   |true=>match stepT (denote tb) p w s t with
    |some (s',t')=>j6 tb p w n₀ ann n s' t'
    |none=>none
section
variable {tb:String->Option Builtin}{p:xq}{w:World}{n₀:Nat}{ann:Option Value}
theorem lQ:∀{n:Nat}{s s':SharedT}{t:Thread},j6 tb p w n₀ ann n s t=some s'->topRun tb p w n₀ ann n s.abs t=some s'.abs
 |0,_,_,_,h=>by cases h
 |n+1,s,s',t,h=>by
  unfold j6 at h;unfold topRun
  cases he:through t with
  |true=>rw[he] at h;cases h;rfl
  |false =>
   rw[he] at h
   cases hk:stepOk n₀ ann t with
   |false=>rw[hk] at h;cases h
   |true =>
    rw[hk] at h
    cases hs:stepT (denote tb) p w s t with
    |none=>rw[hs] at h;cases h
    |some r=>obtain⟨s₂,t₂⟩:=r;rw[hs] at h;rw[stepT_spec hs];exact lQ h
end
noncomputable def mw (tb:String->Option Builtin)(p:xq)(w:World)(N:Nat)(s₀:pL):Option SharedT :=
 match s₀.heap.isNs mainGlobals&&s₀.gens.size==0 with
 |true=>(Im s₀).bind λx=>(j6 tb p w s₀.heap.objs.size (s₀.heap.nsMap mainGlobals "__annotations__") N x (topStub p)).bind λs₁=>match staticsOk (importedModules p.main.body) s₀.heap s₁.abs.heap&&namesBound p s₁.abs.heap&&gensDone s₁.abs&&laidKept s₀.heap s₁.abs.heap with
  |true=>some s₁
  |false=>none
 |false=>none
variable {p:xq}{N:Nat}
theorem aaj {tb:String->Option Builtin}{w:World}{s:pL}{y:SharedT}(h:mw tb p w N s=some y):topFrom tb p w N s=some y.abs:=by
 unfold mw at h;unfold topFrom
 cases q:(s.heap.isNs mainGlobals&&s.gens.size==0) with
 |false=>rw[q] at h;cases h
 |true =>
  rw[q] at h;obtain⟨x,ex,h⟩:=w9.mp h;obtain⟨z,ez,h⟩:=w9.mp h;have e:=lQ ez;rw[aad ex] at e;dsimp only;rw[e];show(match (staticsOk (importedModules p.main.body) s.heap z.abs.heap&&namesBound p z.abs.heap&&gensDone z.abs&&laidKept s.heap z.abs.heap) with|true=>some z.abs|false=>none)=_
  split at h
  ·cases h
   rename_i q2
   simp only[q2]
  ·cases h
noncomputable def cp (tb:String->Option Builtin)(p:xq)(w:World)(N:Nat):Option SharedT:=(fencedOpening tb p w N).bind (mw tb p w N)
theorem afp {tb:String->Option Builtin}{w:World}{y:SharedT}(h:cp tb p w N=some y):openEnds tb p w N=some y.abs:=by
 unfold cp at h;unfold openEnds;obtain⟨s,e,h⟩:=w9.mp h;rw[e];exact aaj h
theorem ae6 {q:xq}{loose:F3}{Xt:Shared->Bool}{α:Type}{Yf:Shared->α}{Ya:World->α}
 (h1:∀w,(cp treeTable p w N).map (λs=>openSeen q loose (importedModules p.main.body) Xt true s.abs)=some (openGood q loose))
 (h2:∀w,(cp treeTable p w N).map (λs=>Yf s.abs)=some (Ya w)):LeftO p q loose Xt Yf Ya N:=λw=>by
 obtain⟨y,e,z⟩:=uJ.mp (h1 w);have z2:=h2 w;rw[e] at z2;rw[afp e];show some (_,_)=_;have z3:Yf y.abs=Ya w:=Option.some.inj z2;rw[z,z3]
section
variable {p q:xq}{loose mods:F3}{Xt:Shared->Bool}{α:Type}{Yf:Shared->α}{Ya:World->α}{N:Nat}
noncomputable abbrev qR (q:xq)(s:pL):=(seen ((recsOf q).map (·.name)) (ownsOf q) [] {s with gens:=#[]},s.heap.bltView)
noncomputable abbrev qW (q:xq)(loose mods:F3)(Xt:Shared->Bool)(s:pL):Bool :=
 s.heap.keysOk (looseW q loose) ((recsOf q).map (·.name)) ((litsOf q).map (·.1)) ((clssOf q (looseW q loose)).map (·.name))&&s.heap.accountedOkI mods&&s.heap.isNs mainGlobals&&s.heap.isNs builtinsNs&&tablesOk q s.heap&&Xt s&&(if true then s.gens.size==0 else !leftWithCleanup s.gens)
noncomputable abbrev qO (q:xq)(loose:F3)(s:pL):=(tabsOk q s,pinSeenD q (drecsOf q) s,plainSeenE q (looseW q loose) s,plainSeenD q loose s,wideSeen q s,clsSeenW q loose s)
theorem aai
 (h1:∀w,(cp treeTable p w N).map (λs=>qR q s.abs)=some (expectedOf q,bltViewBooted))
 (h2:∀w,(cp treeTable p w N).map (λs=>qW q loose (importedModules p.main.body) Xt s.abs)=some true)
 (h3:∀w,(cp treeTable p w N).map (λs=>qO q loose s.abs)=some (true,pinGoodD (drecsOf q),plainGoodE q (looseW q loose),plainGoodD q loose,wideGood q,clsGoodW q loose))
 (h4:∀w,(cp treeTable p w N).map (λs=>Yf s.abs)=some (Ya w)):LeftO p q loose Xt Yf Ya N:=by
 refine ae6 (λw=>?_) h4;obtain⟨y,e,z1⟩:=uJ.mp (h1 w);have z2:=h2 w;have z3:=h3 w;rw[e] at z2 z3 |-;have z2:qW q loose (importedModules p.main.body) Xt y.abs=true:=Option.some.inj z2;have z3:qO q loose y.abs=_:=Option.some.inj z3;show some (openSeen q loose (importedModules p.main.body) Xt true y.abs)=_;have e1:openSeen q loose (importedModules p.main.body) Xt true y.abs=((qR q y.abs).1,(qR q y.abs).2,qW q loose (importedModules p.main.body) Xt y.abs,qO q loose y.abs):=rfl;rw[e1,z1,z2,z3];rfl
theorem aei
 (h1:∀w,(cp treeTable p w N).map (λs=>(qR q s.abs,qW q loose (importedModules p.main.body) Xt s.abs))=some ((expectedOf q,bltViewBooted),true))
 (h3:∀w,(cp treeTable p w N).map (λs=>qO q loose s.abs)=some (true,pinGoodD (drecsOf q),plainGoodE q (looseW q loose),plainGoodD q loose,wideGood q,clsGoodW q loose))
 (h4:∀w,(cp treeTable p w N).map (λs=>Yf s.abs)=some (Ya w)):LeftO p q loose Xt Yf Ya N:=by
 refine aai (λw=>?_) (λw=>?_) h3 h4
 ·obtain⟨y,e,z⟩:=uJ.mp (h1 w);rw[e];exact Ec some (EO z).1
 ·obtain⟨y,e,z⟩:=uJ.mp (h1 w);rw[e];exact Ec some (EO z).2
end
end Hd
namespace L2
open PySem
/-- an own class of exceptions without an __init__ -/
noncomputable def gB (K:PySem.W.Frag)(C:Addr)(M5:HF)(newId:String):Bool :=
 ((K.lookup C).any λo=>o.cls == .type "type"&&(o.slots.size==6&&o.slots.toList[4]?==some (some (.builtin newId))))&&(PySem.W.clsIn K C).any λcd=>cd.mro.head?==some (.ref C)&&(!cd.hasDel&&(PySem.W.tailIn K M5 cd.mro.tail&&(PySem.W.nsOkIn K cd.ns&&PySem.W.nsIn K cd.ns "__init__"==some none)))
end L2
namespace K09
open PySem L2 PySem.W
open Hd (gv ga fv cZ fA cW eU cm m9 dZ uM jA dz aZ iu dG uF pZ sV iG yY pJ Cu jr xW jT Ak)
noncomputable def ba (i:Nat):Stmt:=PySem.Challenge.pw_falsesums_k09_whole_worths_go_along.main.body.getD i (.Pass ⟨0,0,0,0⟩)
noncomputable def Ik:List Int:=[2,3,5,7,11,13,17,19,23,29,31,37,41,43,47,53,59,61,67,71,73,79,83,89,97]
noncomputable abbrev um:List Value:=[.type "ValueError",.type "Exception",.type "BaseException",.type "object"]
noncomputable abbrev ik:String:="ValueError.__new__"
noncomputable def IQ (K:Frag):Bool :=
 (eU (gv K "isinstance") &&
 (eU (gv K "int") &&
 (eU (gv K "bool") &&
 (eU (gv K "abs") &&
 (eU (gv K "len") &&
 (eU (gv K "tuple") &&
 (eU (gv K "all") &&
 (eU (gv K "zip") &&
 (eU (gv K "list") &&
 (eU (gv K "enumerate") &&
 (eU (gv K "sorted") &&
 (eU (gv K "max") &&
 (eU (gv K "min") &&
 (eU (gv K "set") &&
 (eU (gv K "range") &&
 (fA (gv K "Sum")))))))))))))))))
noncomputable def IM (K:Frag):Bool :=
 (fA (gv K "Field") &&
 (fA (gv K "NoFilling") &&
 (fA (gv K "NoOrder") &&
 (fA (gv K "NoSums") &&
 (fA (gv K "NoNumber") &&
 (fA (gv K "Unlike") &&
 (fA (gv K "NoField") &&
 (fA (gv K "PRIMES") &&
 (xW (gv K "FRACTIONS") 0 &&
 (xW (gv K "MOST_PLACES") 60 &&
 (dz K (gv K "is_whole") "is_whole" &&
 (dz K (gv K "is_place") "is_place" &&
 (dz K (gv K "is_product") "is_product" &&
 (dz K (gv K "is_order") "is_order" &&
 (dz K (gv K "is_row_of_bits") "is_row_of_bits" &&
 (dz K (gv K "is_term") "is_term"))))))))))))))))
noncomputable def IH (K:Frag):Bool :=
 (dz K (gv K "checked_terms") "checked_terms" &&
 (dz K (gv K "place_of_term") "place_of_term" &&
 (dz K (gv K "gathered") "gathered" &&
 (dz K (gv K "together") "together" &&
 (dz K (gv K "built") "built" &&
 (dz K (gv K "common_divisor") "common_divisor" &&
 (dz K (gv K "lowest") "lowest" &&
 (dz K (gv K "inverse") "inverse" &&
 (dz K (gv K "put_product") "put_product" &&
 (dz K (gv K "_law_room") "_law_room" &&
 (dz K (gv K "_law_take") "_law_take" &&
 (dz K (gv K "_law_lowest") "_law_lowest" &&
 (dz K (gv K "_law_make") "_law_make" &&
 (dz K (gv K "_law_plus") "_law_plus" &&
 (dz K (gv K "_law_times") "_law_times" &&
 (dz K (gv K "_law_prime") "_law_prime"))))))))))))))))
noncomputable def IF (K:Frag):Bool :=
 (dz K (gv K "_law_number") "_law_number" &&
 (dz K (gv K "_law_product") "_law_product" &&
 (dz K (gv K "_law_terms") "_law_terms" &&
 (dz K (gv K "_law_all") "_law_all" &&
 (dz K (gv K "_law_either") "_law_either" &&
 (dz K (gv K "_law_worths") "_law_worths" &&
 (dz K (gv K "_law_right") "_law_right" &&
 (dz K (gv K "_law_put_right") "_law_put_right" &&
 (dz K (gv K "law") "law" &&
 (dz K (fv K "Sum" "__eq__") "Sum.__eq__" &&
 (isFn K (.ref (cZ (fv K "Sum" "__eq__"))) &&
 (dz K (fv K "Sum" "is_like") "Sum.is_like" &&
 (isFn K (.ref (cZ (fv K "Sum" "is_like"))) &&
 (dz K (fv K "Sum" "reach") "Sum.reach" &&
 (isFn K (.ref (cZ (fv K "Sum" "reach"))) &&
 (dz K (fv K "Sum" "plus") "Sum.plus"))))))))))))))))
noncomputable def IE (K:Frag):Bool :=
 (isFn K (.ref (cZ (fv K "Sum" "plus"))) &&
 (dz K (fv K "Sum" "times") "Sum.times" &&
 (isFn K (.ref (cZ (fv K "Sum" "times"))) &&
 (dz K (fv K "Sum" "scaled") "Sum.scaled" &&
 (isFn K (.ref (cZ (fv K "Sum" "scaled"))) &&
 (dz K (fv K "Sum" "worth") "Sum.worth" &&
 (isFn K (.ref (cZ (fv K "Sum" "worth"))) &&
 (dz K (fv K "Sum" "renamed") "Sum.renamed" &&
 (isFn K (.ref (cZ (fv K "Sum" "renamed"))) &&
 (dz K (fv K "Sum" "put_in") "Sum.put_in" &&
 (isFn K (.ref (cZ (fv K "Sum" "put_in"))) &&
 (dz K (fv K "Field" "__eq__") "Field.__eq__" &&
 (isFn K (.ref (cZ (fv K "Field" "__eq__"))) &&
 (dz K (fv K "Field" "plus") "Field.plus" &&
 (isFn K (.ref (cZ (fv K "Field" "plus"))) &&
 (dz K (fv K "Field" "times") "Field.times"))))))))))))))))
noncomputable def ID (K:Frag):Bool :=
 (isFn K (.ref (cZ (fv K "Field" "times"))) &&
 (dz K (fv K "Field" "settled") "Field.settled" &&
 (isFn K (.ref (cZ (fv K "Field" "settled"))) &&
 (dz K (fv K "Field" "is_number") "Field.is_number" &&
 (isFn K (.ref (cZ (fv K "Field" "is_number"))) &&
 (dz K (fv K "Field" "quotient") "Field.quotient" &&
 (isFn K (.ref (cZ (fv K "Field" "quotient"))) &&
 (dz K (fv K "Sum" "__init__") "Sum.__init__" &&
 (isFn K (.ref (cZ (fv K "Sum" "__init__"))) &&
 (uF K (fv K "Sum" "__init__") &&
 (sV K (pZ K (fv K "Sum" "__init__")) (yY) &&
 (dz K (fv K "Field" "__init__") "Field.__init__" &&
 (isFn K (.ref (cZ (fv K "Field" "__init__"))) &&
 (uF K (fv K "Field" "__init__") &&
 (sV K (pZ K (fv K "Field" "__init__")) (Cu 0) &&
 (dz K (fv K "Field" "made") "Field.made"))))))))))))))))
noncomputable def IP (K:Frag):Bool :=
 (isFn K (.ref (cZ (fv K "Field" "made"))) &&
 (uF K (fv K "Field" "made") &&
 (sV K (pZ K (fv K "Field" "made")) (Cu 1) &&
 (plainGet K (ga K "Field") Str.empty &&
 (hasDictIn K (ga K "Field") &&
 (plainOver K (ga K "Field") &&
 (m9 (fv K "Field" "__setattr__") "object.__setattr__" &&
 (eU (fv K "Field" "its_prime") &&
 (((clsIn K (ga K "Field")).isSome&&typeIn K (.ref (ga K "Field"))==some (.type "type")) &&
 (m9 (fv K "Field" "__class__") "object.__class__" &&
 (m9 (specialIn K (.builtin "object.__class__") "__get__") "getset_descriptor.__get__" &&
 (uM (takesIn K (.builtin "object.__class__")) true &&
 (uM (mroIn K (ga K "Field") (.type "object")) true &&
 (plainGet K (ga K "Sum") Str.empty &&
 (hasDictIn K (ga K "Sum") &&
 (plainOver K (ga K "Sum")))))))))))))))))
noncomputable def IK (K:Frag):Bool :=
 (m9 (fv K "Sum" "__setattr__") "object.__setattr__" &&
 (eU (fv K "Sum" "its_field") &&
 (eU (fv K "Sum" "its_terms") &&
 (((clsIn K (ga K "Sum")).isSome&&typeIn K (.ref (ga K "Sum"))==some (.type "type")) &&
 (m9 (fv K "Sum" "__class__") "object.__class__" &&
 (uM (mroIn K (ga K "Sum") (.type "object")) true &&
 (Ak K (ga K "PRIMES") Ik &&
 (gB K (ga K "NoField") um ik &&
 (gB K (ga K "NoNumber") um ik &&
 (gB K (ga K "Unlike") um ik &&
 (gB K (ga K "NoSums") um ik &&
 (gB K (ga K "NoFilling") um ik &&
 (gB K (ga K "NoOrder") um ik &&
 (m9 (fv K "Sum" "__ne__") "object.__ne__" &&
 (makesIn K (ga K "Sum") &&
 (keepIn K (.ref (ga K "Sum"))))))))))))))))))
noncomputable def IL (K:Frag):Bool :=
 (makesIn K (ga K "Field") &&
 (keepIn K (.ref (ga K "Field"))))
noncomputable def uj (K:Frag):Bool:=IQ K&&(IM K&&(IH K&&(IF K&&(IE K&&(ID K&&(IP K&&(IK K&&(IL K))))))))
noncomputable def xp (K:Frag):Bool×List (Option Hd.uH):=(uj K,[aZ K (gv K "is_whole"),aZ K (gv K "is_place"),aZ K (gv K "is_product"),aZ K (gv K "is_order"),aZ K (gv K "is_row_of_bits"),aZ K (gv K "is_term"),aZ K (gv K "checked_terms"),aZ K (gv K "place_of_term"),aZ K (gv K "gathered"),aZ K (gv K "together"),aZ K (gv K "built"),aZ K (gv K "common_divisor"),aZ K (gv K "lowest"),aZ K (gv K "inverse"),aZ K (gv K "put_product"),aZ K (gv K "_law_room"),aZ K (gv K "_law_take"),aZ K (gv K "_law_lowest"),aZ K (gv K "_law_make"),aZ K (gv K "_law_plus"),aZ K (gv K "_law_times"),aZ K (gv K "_law_prime"),aZ K (gv K "_law_number"),aZ K (gv K "_law_product"),aZ K (gv K "_law_terms"),aZ K (gv K "_law_all"),aZ K (gv K "_law_either"),aZ K (gv K "_law_worths"),aZ K (gv K "_law_right"),aZ K (gv K "_law_put_right"),aZ K (gv K "law"),aZ K (fv K "Sum" "__eq__"),aZ K (fv K "Sum" "is_like"),aZ K (fv K "Sum" "reach"),aZ K (fv K "Sum" "plus"),aZ K (fv K "Sum" "times"),aZ K (fv K "Sum" "scaled"),aZ K (fv K "Sum" "worth"),aZ K (fv K "Sum" "renamed"),aZ K (fv K "Sum" "put_in"),aZ K (fv K "Field" "__eq__"),aZ K (fv K "Field" "plus"),aZ K (fv K "Field" "times"),aZ K (fv K "Field" "settled"),aZ K (fv K "Field" "is_number"),aZ K (fv K "Field" "quotient"),iu K (fv K "Sum" "__init__"),iu K (fv K "Field" "__init__"),iu K (fv K "Field" "made")])
noncomputable def dueK:Bool×List (Option Hd.uH):=(true,[dG "is_whole" "is_whole" ((ba 12)),dG "is_place" "is_place" ((ba 13)),dG "is_product" "is_product" ((ba 14)),dG "is_order" "is_order" ((ba 15)),dG "is_row_of_bits" "is_row_of_bits" ((ba 16)),dG "is_term" "is_term" ((ba 25)),dG "checked_terms" "checked_terms" ((ba 26)),dG "place_of_term" "place_of_term" ((ba 27)),dG "gathered" "gathered" ((ba 28)),dG "together" "together" ((ba 29)),dG "built" "built" ((ba 32)),dG "common_divisor" "common_divisor" ((ba 37)),dG "lowest" "lowest" ((ba 38)),dG "inverse" "inverse" ((ba 39)),dG "put_product" "put_product" ((ba 33)),dG "_law_room" "_law_room" ((ba 42)),dG "_law_take" "_law_take" ((ba 43)),dG "_law_lowest" "_law_lowest" ((ba 44)),dG "_law_make" "_law_make" ((ba 45)),dG "_law_plus" "_law_plus" ((ba 46)),dG "_law_times" "_law_times" ((ba 47)),dG "_law_prime" "_law_prime" ((ba 48)),dG "_law_number" "_law_number" ((ba 49)),dG "_law_product" "_law_product" ((ba 50)),dG "_law_terms" "_law_terms" ((ba 51)),dG "_law_all" "_law_all" ((ba 52)),dG "_law_either" "_law_either" ((ba 53)),dG "_law_worths" "_law_worths" ((ba 54)),dG "_law_right" "_law_right" ((ba 55)),dG "_law_put_right" "_law_put_right" ((ba 56)),dG "law" "law" ((ba 57)),dG "__eq__" "Sum.__eq__" (aU (ba 31) 1),dG "is_like" "Sum.is_like" (aU (ba 31) 9),dG "reach" "Sum.reach" (aU (ba 31) 8),dG "plus" "Sum.plus" (aU (ba 31) 10),dG "times" "Sum.times" (aU (ba 31) 11),dG "scaled" "Sum.scaled" (aU (ba 31) 12),dG "worth" "Sum.worth" (aU (ba 31) 13),dG "renamed" "Sum.renamed" (aU (ba 31) 14),dG "put_in" "Sum.put_in" (aU (ba 31) 15),dG "__eq__" "Field.__eq__" (aU (ba 40) 1),dG "plus" "Field.plus" (aU (ba 40) 6),dG "times" "Field.times" (aU (ba 40) 8),dG "settled" "Field.settled" (aU (ba 40) 10),dG "is_number" "Field.is_number" (aU (ba 40) 11),dG "quotient" "Field.quotient" (aU (ba 40) 5),dG "__init__" "Sum.__init__" (aU (ba 31) 0),dG "__init__" "Field.__init__" (aU (ba 40) 0),dG "made" "Field.made" (aU (ba 40) 4)])
noncomputable def ue:List Addr:=[3,30,31,43,44,55,56,67,68,79,80,91,92,103,104,131,132,138,139,143,144,148,149,153,154,186,187,193,194,200,201,205,206,212,213,226,232,233,239,240,286,287,293,294,300,301,305,306,310,311,315,316,320,321,325,326,328,329,339,340,346,347,348,354,355,361,362,368,369,377,383,384,390,391,406,412,413,419,420,426,427,440,441,454,455,461,462,464,465,475,476,482,483,489,490,494,495,501,502,508,509,515,516,522,523,527,528,534,535,539,540,544,545,549,550,554,555,559,560,564,565]
noncomputable def iz:Program:={PySem.Challenge.pw_falsesums_k09_whole_worths_go_along with main:={PySem.Challenge.pw_falsesums_k09_whole_worths_go_along.main with body:=[ba 0,ba 2,ba 3,ba 4,ba 5,ba 6,ba 7,ba 8,ba 9,ba 11,ba 12,ba 13,ba 14,ba 15,ba 16,ba 18,ba 19,ba 20,ba 21,ba 22,ba 23,ba 25,ba 26,ba 27,ba 28,ba 29,ba 30,ba 31,ba 32,ba 33,ba 35,ba 36,ba 37,ba 38,ba 39,ba 40,ba 42,ba 43,ba 44,ba 45,ba 46,ba 47,ba 48,ba 49,ba 50,ba 51,ba 52,ba 53,ba 54,ba 55,ba 56,ba 57]} }
noncomputable def lv:List (PySem.Str×WData):=[("STEP",.int 10000000000000000000000000000000000000000000000000000000000000000)]
end K09
section
open PySem PySem.W PyProof.Rows
set_option maxRecDepth 100000 in
set_option maxHeartbeats 0 in
theorem K09.ran1:∀w,(Hd.cp treeTable PySem.Challenge.rw_falsesums_k09_whole_worths_go_along.row.prog w 8516).map (λs=>(Hd.qR K09.iz s.abs,Hd.qW K09.iz ["STEP","Field"] (importedModules PySem.Challenge.rw_falsesums_k09_whole_worths_go_along.row.prog.main.body) (λs=>xlAt K09.iz K09.lv s&&recOk (PySem.Challenge.rw_falsesums_k09_whole_worths_go_along.row.toRowW).records s) s.abs))=some ((PyProof.Rows.expectedOf K09.iz,bltViewBooted),true):=by
 intro w;kernel_rfl
set_option maxRecDepth 100000 in
set_option maxHeartbeats 0 in
theorem K09.ran3:∀w,(Hd.cp treeTable PySem.Challenge.rw_falsesums_k09_whole_worths_go_along.row.prog w 8516).map (λs=>Hd.qO K09.iz ["STEP","Field"] s.abs)=some (true,pinGoodD (drecsOf K09.iz),plainGoodE K09.iz (looseW K09.iz ["STEP","Field"]),plainGoodD K09.iz ["STEP","Field"],wideGood K09.iz,clsGoodW K09.iz ["STEP","Field"]):=by
 intro w;kernel_rfl
set_option maxRecDepth 100000 in
set_option maxHeartbeats 0 in
theorem K09.ran4:∀w,(Hd.cp treeTable PySem.Challenge.rw_falsesums_k09_whole_worths_go_along.row.prog w 8516).map (λs=>K09.xp (Hd.zT K09.ue s.abs.heap))=some K09.dueK:=by
 intro w;kernel_rfl
end
namespace L2
open PySem PySem.Spec PyProof.Rows
noncomputable abbrev Key:=Sum Int Str
noncomputable def nK:Key->Value->Bool
 | .inl k,v=>Value.isInt k v
 | .inr x,v=>Value.isStrOf x v
noncomputable def afz (w:World):Key->Int
 | .inl k=>hashInt k
 | .inr x=>hashStr w x
theorem cC:∀{k:Key}{v:Value},nK k v=true->(∃i t,k=Sum.inl i/\v=Value.int i t)\/(∃x t,k=Sum.inr x/\v=Value.str x t)
 | .inl i,v,h=>by
   obtain⟨t,e⟩:=Value.isInt_shape (k:=i) (v:=v) h;exact .inl ⟨i,t,rfl,e⟩
 | .inr x,v,h=>by
   obtain⟨t,e⟩:=Value.isStrOf_shape (x:=x) (v:=v) h;exact .inr ⟨x,t,rfl,e⟩
theorem afw (i:Int)(t:Tok):nK (.inl i) (.int i t)=true:=by simp[nK,Value.isInt]
theorem afq (x:Str)(t:Tok):nK (.inr x) (.str x t)=true:=by simp[nK,Value.isStrOf]
theorem aae (a b:Int):decide ((Sum.inl a:Key)=Sum.inl b)=(a==b):=by
 by_cases e:a=b
 ·subst e;simp
 ·have h:¬(Sum.inl a:Key)=Sum.inl b:=λq=>e (Sum.inl.inj q);rw[IA h];exact(Ex.mpr e).symm
theorem aam (a b:Str):decide ((Sum.inr a:Key)=Sum.inr b)=decide (a=b):=by
 by_cases e:a=b
 ·subst e;simp
 ·have h:¬(Sum.inr a:Key)=Sum.inr b:=λq=>e (Sum.inr.inj q);rw[IA h,IA e]
theorem afF (a:Int)(b:Str):decide ((Sum.inl a:Key)=Sum.inr b)=false:=IA (λq=>nomatch q)
theorem aak (a:Str)(b:Int):decide ((Sum.inr a:Key)=Sum.inl b)=false:=IA (λq=>nomatch q)
noncomputable def cE (prog:xq)(w:World):PySem.KeyKind prog w Key where
 is:=nK
 hash:=afz w
 inj:=λv a b ha hb=>by
  rcases cC ha with⟨i,t,rfl,rfl⟩|⟨x,t,rfl,rfl⟩
  ·rcases cC hb with⟨j,u,rfl,e⟩|⟨y,u,rfl,e⟩
   ·injection e with e1 _;rw[e1]
   ·exact nomatch e
  ·rcases cC hb with⟨j,u,rfl,e⟩|⟨y,u,rfl,e⟩
   ·exact nomatch e
   ·injection e with e1 _;rw[e1]
 byValue:=λk v h=>by
  rcases cC h with⟨i,t,rfl,rfl⟩|⟨x,t,rfl,rfl⟩ <;> rfl
 pyHash:=λhv h=>by
  rcases cC hv with⟨i,t,rfl,rfl⟩|⟨x,t,rfl,rfl⟩
  ·exact wpAny_pyHash_int h
  ·exact wpAny_pyHash_str h
 eqBool:=λhu hv h=>by
  rcases cC hu with⟨i,t,rfl,rfl⟩|⟨x,t,rfl,rfl⟩
  ·rcases cC hv with⟨j,u,rfl,rfl⟩|⟨y,u,rfl,rfl⟩
   ·rw[aae] at h;exact wpAny_eqBool_int h
   ·rw[afF] at h;exact SeqAt.EqAt.int_str i t y u _ _ _ _ h
  ·rcases cC hv with⟨j,u,rfl,rfl⟩|⟨y,u,rfl,rfl⟩
   ·rw[aak] at h;exact SeqAt.EqAt.str_int x t j u _ _ _ _ h
   ·rw[aam] at h;exact wpAny_eqBool_str h
 «strs»:=λk x t v h=>by
  rcases cC h with⟨i,u,rfl,e⟩|⟨y,u,rfl,e⟩
  ·exact nomatch e
  ·injection e with e1 _
   subst e1
   cases v <;> rfl
theorem aah (prog:xq)(w:World)(i:Int)(t:Tok):(cE prog w).is (.inl i) (.int i t)=true:=afw i t
theorem aag (prog:xq)(w:World)(x:Str)(t:Tok):(cE prog w).is (.inr x) (.str x t)=true:=afq x t
inductive V where
 |non|bl (b:Bool)|int (i:Int)|str (x:Str)|byt (b:Array UInt8)|flt (b:UInt64)|ref (a:Addr)|ty (n:String)
 deriving DecidableEq
noncomputable def aL:V->Value->Prop
 | .non,u=>u=Value.none
 | .bl b,u=>u=Value.bool b
 | .int i,u=>∃t,u=Value.int i t
 | .str x,u=>∃t,u=Value.str x t
 | .byt b,u=>∃t,u=Value.bytes b t
 | .flt b,u=>∃t,u=Value.float b t
 | .ref a,u=>u=Value.ref a
 | .ty n,u=>u=Value.type n
noncomputable abbrev aN:List V->List Value->Prop:=Paired aL
variable {us:HF}
theorem aN.length {xs:List V}(r:aN xs us):xs.length=us.length:=BI r
theorem aN.get:∀{xs:List V}{us:HF}{i:Nat}{x:V},aN xs us->xs[i]?=some x->∃u,us[i]?=some u/\aL x u
 |_,_,_,_,.nil,e=>by simp at e
 |_,_,0,_,.cons r _,e=>by simp at e;subst e;exact⟨_,rfl,r⟩
 |_,_,i+1,x,.cons _ t,e=>by
  obtain⟨u,h1,h2⟩:=aN.get (i:=i) (x:=x) t (by simpa using e);exact⟨u,by simpa using h1,h2⟩
variable {u:Value}
theorem aN.set {x:V}(r:aL x u):∀{xs:List V}{us:HF}(i:Nat),aN xs us->aN (xs.set i x) (us.set i u)
 |_,_,_,.nil=>.nil
 |_,_,0,.cons _ t=>.cons r t
 |_,_,i+1,.cons q t=>.cons q (aN.set r i t)
theorem aN.append:∀{xs ys:List V}{us ws:HF},aN xs us->aN ys ws->aN (xs++ys) (us++ws)
 |_,_,_,_,.nil,s=>s
 |_,_,_,_,.cons r t,s=>.cons r (aN.append t s)
theorem aN.take:∀{xs:List V}{us:HF}(n:Nat),aN xs us->aN (xs.take n) (us.take n)
 |_,_,0,_=>.nil
 |_,_,_+1,.nil=>.nil
 |_,_,n+1,.cons r t=>.cons r (aN.take n t)
theorem aN.drop:∀{xs:List V}{us:HF}(n:Nat),aN xs us->aN (xs.drop n) (us.drop n)
 |_,_,0,r=>r
 |_,_,_+1,.nil=>.nil
 |_,_,n+1,.cons _ t=>aN.drop n t
noncomputable def gU:Option V->Option Value->Prop
 |some v,some u=>aL v u
 |none,none=>True
 |_,_=>False
noncomputable def KV {κ:Type}:List (κ×V)->List (κ×Value)->Prop:=Paired λ(p:κ×V)(q:κ×Value)=>p.1=q.1/\aL p.2 q.2
noncomputable def kV:Key->V
 | .inl i=>.int i
 | .inr x=>.str x
inductive HO where
 /-- a list -/
 |lst (xs:List V)
 /-- a tuple (never changes) -/
 |tup (xs:List V)
 /-- a dict O3 keys are ints and texts;one O3 keys are tuples of ints and texts (Mj empty one is both) -/
 |dK (Jf:List (Key×V))|dT (Jf:List (List Key×V))
 /-- a set of ints: its members,its size -/
 |set (S:Int->Bool)(n:Nat)
 /-- an instance of Mj class at C,its dict at dx,its attributes -/
 |ins (C dx:Addr)(fs:List (Str×V))
 /-- Mj dict of Mj instance at x -/
 |own (x:Addr)
 /-- Mj dict of an exception -/
 |xd (fs:List (Str×V))
 /-- a bound method,f of x -/
 |met (f x:Addr)
 /-- a range object lo,lo+1,.. below hi -/
 |rng (lo hi:Int)
 /-- a O4 Z9 is known to Mj object (Mj Us;a dict while a md Dj it): read,never written while it is so -/
 |frz (o:Obj)(u:HO)
 /-- a code O5 table -/
 |tbl (ps:Il)
 /-- any other O4,by aaa is true of its one object (a def of X3 own: aab a S n:=HO.ext λh=>..) -/
 |ext (φ:Heap->Prop)
noncomputable abbrev Hp:=Addr->Option HO
noncomputable def upd (H:Hp)(a:Addr)(o:HO):Hp:=λb=>if b=a then some o else H b
variable {H:Hp}{a:Addr}{o:HO}
theorem aj :upd H a o a=some o:=by unfold upd;rw[qk rfl]
variable {b:Addr}
theorem aA (h:b≠a):upd H a o b=H b:=by unfold upd;rw[IX h]
theorem vi {u:HO}:upd (upd H a o) a u=upd H a u:=by
 funext b;unfold upd;split <;> rfl
theorem nO {u:HO}(h:H a=some o)(h':H b=some u)(d:o≠u):a≠b:=by
 intro e;subst e;rw[h] at h';exact d (Option.some.inj h')
theorem aB (h:H a=some o)(h':H b=none):a≠b:=by
 intro e;subst e;rw[h] at h';cases h'
section
variable (P:xq)(w:World)
noncomputable def bJ (H:Hp)(h:Heap)(a:Addr):HO->Prop
 | .lst xs=>xs.length<=sizeLine/\∃(its:HF)(n:Nat),aN xs its/\h.get? a=some {cls:=.type "list",data:=.seq its.toArray n}
 | .tup xs=>xs.length<=sizeLine/\∃its:List Value,aN xs its/\IsTup h a its.toArray
 | .dK Jf=>Jf.length<=sizeLine/\(a==sysModules)=false/\∃vs,KV Jf vs/\h.DictOf (cE P w) a vs
 | .dT Jf=>Jf.length<=sizeLine/\(a==sysModules)=false/\∃xs:List (List Key×Addr×Value),
  Paired (λ(p:List Key×V)(q:List Key×Addr×Value)=>p.1=q.1/\H q.2.1=some (.tup (p.1.map kV))/\aL p.2 q.2.2) Jf xs /\
  ∃o es ep,h.get? a=some o/\o.ExactDict/\o.data=.dict es ep/\es.toList=xs.map (entryOfKey (tupleKind (cE P w)))/\(xs.map (·.1)).Nodup
 | .set S n=>h.SetOf (intKind P w) a S n
 | .ins C dx fs=>H dx=some (.own a)/\fs.length<=1000/\dx≠a/\h.get? a=some (PySem.W.instObj C dx) /\
  ∃mA,h.Ns1 dx mA/\(∀f,gU (fs.lookup f) (mA f))/\PySem.Within mA (fs.map (·.1))
 | .own _=>∃o,h.get? a=some o
 | .xd fs=>∃mA,h.Ns1 a mA/\∀f,gU (fs.lookup f) (mA f)
 | .rng lo hi=>∃t u v,h.get? a=some {cls:=.type "range",data:=.fields #[.int lo t,.int hi u,.int 1 v]}
 | .frz o u=>h.get? a=some o/\bJ H h a u
 | .tbl ps=>h.get? a=some {cls:=.none,data:=.fields ps}
 | .met f x=>h.get? a=some (PySem.W.methodObj (.ref f) (.ref x))
 | .ext φ=>φ h/\(∃o,h.get? a=some o)/\∀h1 h2:Heap,φ h1->(∀o,h1.get? a=some o->h2.get? a=some o)->φ h2
noncomputable def gk (H:Hp)(h:Heap):Prop:=∀a o,H a=some o->bJ P w H h a o
end
section
variable {P:xq}{w:World}{H H':Hp}{h h':Heap}{a:Addr}{o:HO}
theorem bJ.lt (x:bJ P w H h a o):a<h.objs.size:=by
 cases o with
 |lst xs=>obtain⟨_,_,_,_,e⟩:=x;exact Ep e
 |tup xs=>obtain⟨_,_,_,p⟩:=x;exact p.lt
 |dK Jf=>obtain⟨_,_,_,_,o,_,_,e,_⟩:=x;exact Ep e
 |dT Jf=>obtain⟨_,_,_,_,o,_,_,e,_⟩:=x;exact Ep e
 |set S n=>obtain⟨o,_,_,_,e,_⟩:=x;exact Ep e
 |ins C dx fs=>obtain⟨_,_,_,e,_⟩:=x;exact Ep e
 |own y=>obtain⟨_,e⟩:=x;exact Ep e
 |xd fs=>obtain⟨_,⟨_,_,_,e,_⟩,_⟩:=x;exact Ep e
 |rng lo hi=>obtain⟨_,_,_,e⟩:=x;exact Ep e
 |frz ob u=>obtain⟨e,_⟩:=x;exact Ep e
 |tbl ps=>exact Ep (show h.get? a=some _ from x)
 |met f y=>exact Ep (show h.get? a=some _ from x)
 |ext φ=>obtain⟨_,⟨_,e⟩,_⟩:=x;exact Ep e
theorem Paired.agE {α β:Type}{F G:α->β->Prop}:∀{l₁:List α}{l₂:List β},Paired F l₁ l₂->(∀a b,F a b->G a b)->Paired G l₁ l₂
 |_,_,.nil,_=>.nil
 |_,_,.cons r t,f=>.cons (f _ _ r) (Paired.agE t f)
theorem bJ.agX (x:bJ P w H h a o)(k:∀b u,(b=a\/H b=some (.own a))->h.get? b=some u->h'.get? b=some u)
 (ho:∀b,H b=some (.own a)->H' b=some (.own a))(ht:∀b xs,H b=some (.tup xs)->H' b=some (.tup xs)):bJ P w H' h' a o:=by
 induction o with
 |lst xs=>obtain⟨z,its,n,r,e⟩:=x;exact⟨z,its,n,r,k _ _ (.inl rfl) e⟩
 |tup xs=>obtain⟨z,its,r,ob,e,c⟩:=x;exact⟨z,its,r,ob,k _ _ (.inl rfl) e,c⟩
 |dK Jf=>obtain⟨z,y,vs,r,ob,es,ep,e,c⟩:=x;exact⟨z,y,vs,r,ob,es,ep,k _ _ (.inl rfl) e,c⟩
 |dT Jf =>
  obtain⟨z,y,xs,r,ob,es,ep,e,c⟩:=x;exact⟨z,y,xs,Paired.agE r λp q z=>⟨z.1,ht _ _ z.2.1,z.2.2⟩,ob,es,ep,k _ _ (.inl rfl) e,c⟩
 |set S n=>obtain⟨ob,es,ep,t,e,c⟩:=x;exact⟨ob,es,ep,t,k _ _ (.inl rfl) e,c⟩
 |ins C dx fs =>
  obtain⟨d,z,ne,e,mA,⟨od,es,ep,e2,c⟩,r⟩:=x;exact⟨ho _ d,z,ne,k _ _ (.inl rfl) e,mA,⟨od,es,ep,k _ _ (.inr d) e2,c⟩,r⟩
 |own y=>obtain⟨ob,e⟩:=x;exact⟨ob,k _ _ (.inl rfl) e⟩
 |xd fs=>obtain⟨mA,⟨od,es,ep,e,c⟩,r⟩:=x;exact⟨mA,⟨od,es,ep,k _ _ (.inl rfl) e,c⟩,r⟩
 |rng lo hi=>obtain⟨t,u,v,e⟩:=x;exact⟨t,u,v,k _ _ (.inl rfl) e⟩
 |frz ob u ih=>obtain⟨e,q⟩:=x;exact⟨k _ _ (.inl rfl) e,ih q⟩
 |tbl ps =>
  have e:h.get? a=some {cls:=.none,data:=.fields ps}:=x;show h'.get? a=some {cls:=.none,data:=.fields ps};exact k a _ (.inl rfl) e
 |met f y =>
  have e:h.get? a=some (PySem.W.methodObj (.ref f) (.ref y)):=x;show h'.get? a=some (PySem.W.methodObj (.ref f) (.ref y));exact k a _ (.inl rfl) e
 |ext φ=>obtain⟨p,⟨o,e⟩,st⟩:=x;exact⟨st _ _ p λo q=>k _ _ (.inl rfl) q,⟨o,k _ _ (.inl rfl) e⟩,st⟩
theorem gk.lt (x:gk P w H h)(e:H a=some o):a<h.objs.size:=(x a o e).lt
theorem gk.fresh (x:gk P w H h)(e:h.objs.size<=a):H a=none:=by
 cases q:H a with
 |none=>rfl
 |some u=>exact absurd (Ip (x.lt q) e) (GH _)
theorem gk.kept (x:gk P w H h)(k:∀b u,h.get? b=some u->h'.get? b=some u):gk P w H h':=λa o e =>
 (x a o e).agX (λb u _ q=>k b u q) (λ_ q=>q) λ_ _ q=>q
theorem gk.laid (x:gk P w H h)(k:∀b u,h.get? b=some u->h'.get? b=some u)(hp:h.objs.size<=a)(new:bJ P w (upd H a o) h' a o):gk P w (upd H a o) h':=λb u e=>by
 have hn:=x.fresh hp
 by_cases hb:b=a
 ·subst hb;rw[aj] at e;cases e;exact new
 ·rw[aA hb] at e
  exact(x b u e).agX (λc v _ q=>k c v q) (λc q=>by rw[aA (aB q hn)];exact q) λc xs q=>by rw[aA (aB q hn)];exact q
end
noncomputable def Rd (H:Hp)(a:Addr)(u:HO):Prop:=H a=some u\/∃o,H a=some (.frz o u)
variable {P:xq}{w:World}{h:Heap}
theorem Rd.ok {u:HO}(r:Rd H a u)(x:gk P w H h):bJ P w H h a u:=by
 rcases r with r|⟨o,r⟩
 ·exact x a u r
 ·obtain⟨_,q⟩:=x a _ r;exact q
noncomputable def GN:Option HO->Prop
 |some (.lst _)=>True
 |some (.dK _)=>True
 |some (.dT _)=>True
 |some (.set _ _)=>True
 |some (.ins _ _ _)=>True
 |some (.ext _)=>True
 |_=>False
section
variable {P:xq}{w:World}{H:Hp}{h h':Heap}{x e:Addr}{o':HO}
theorem gk.write (ok:gk P w H h)(mu:GN (H x))(he:e=x\/H e=some (.own x))(k:∀b u,b≠e->h.get? b=some u->h'.get? b=some u)(Ow:∃u,h'.get? e=some u)
 (new:bJ P w (upd H x o') h' x o'):gk P w (upd H x o') h':=λb u q=>by
 have O6:∀c y,H c=some (.own y)->c≠x:=λc y r z=>by subst z;rw[r] at mu;exact mu
 have Ut:∀c xs,H c=some (.tup xs)->c≠x:=λc xs r z=>by subst z;rw[r] at mu;exact mu
 by_cases hb:b=x
 ·subst hb;rw[aj] at q;cases q;exact new
 ·rw[aA hb] at q
  by_cases M6:b=e
  ·have q':H b=some (.own x):=by
    rcases he with z|z
    ·exact absurd (M6.trans z) hb
    ·rw[M6];exact z
   rw[q] at q';cases q';obtain⟨v,hv⟩:=Ow;exact⟨v,by rw[M6];exact hv⟩
  ·refine(ok b u q).agX (λc v hc r=>k c v ?_ r) (λc r=>by rw[aA (O6 c b r)];exact r) λc xs r=>by rw[aA (Ut c xs r)];exact r
   rcases hc with rfl|hc
   ·exact M6
   ·rintro rfl
    rcases he with z|z
    ·exact O6 c b hc z
    ·rw[hc] at z;cases z;exact hb rfl
end
structure Un (fs ex:List Addr)(H H':Hp)(h h':Heap):Prop where
 keep:∀b o,h.get? b=some o->H b=none->b∉fs->b∉ex->h'.get? b=some o
 slot:∀b o,h.get? b=some o->H b=none->b∈fs->b∉ex->∃sl,h'.get? b=some {o with slots:=sl}
 free:∀b o,h.get? b=some o->H b=none->b∉ex->H' b=none
 there:∀b o,h.get? b=some o->b∉ex->∃o',h'.get? b=some o'
 afT:∀b xs,H b=some (.tup xs)->H' b=some (.tup xs)
 afR:∀b o u,H b=some (.frz o u)->H' b=some (.frz o u)
 af5:∀b ps,H b=some (.tbl ps)->∃more,H' b=some (.tbl (ps++more))
section
variable {fs fs' ex ex':List Addr}{H H1 H2:Hp}{h h1 h2 h':Heap}{a x e:Addr}{o:HO}
theorem Un.any (u:Un fs ex H H1 h h1){ob:Obj}(q:h.get? b=some ob)(n:H b=none)(hx:b∉ex):∃sl,h1.get? b=some {ob with slots:=sl}:=by
 by_cases hb:b∈fs
 ·exact u.slot b ob q n hb hx
 ·exact⟨ob.slots,u.keep b ob q n hb hx⟩
theorem Un.kept (k:∀b u,h.get? b=some u->h'.get? b=some u):Un fs ex H H h h' :=
 ⟨λb ob q _ _ _=>k b ob q,λb ob q _ _ _=>⟨ob.slots,k b ob q⟩,λ_ _ _ n _=>n,λb ob q _=>⟨ob,k b ob q⟩,λ_ _ q=>q,λ_ _ _ q=>q,λ_ ps q=>⟨#[],by rw[q];simp⟩⟩
theorem Un.refl:Un fs ex H H h h:=Un.kept λ_ _ q=>q
theorem Un.laid (k:∀b u,h.get? b=some u->h'.get? b=some u)(hp:h.objs.size<=a)(hn:H a=none):Un fs ex H (upd H a o) h h' where
 keep:=λb u q _ _ _=>k b u q
 slot:=λb u q _ _ _=>⟨u.slots,k b u q⟩
 free:=λb u q n _=>by rw[aA (IB (Ip (Ep q) hp))];exact n
 there:=λb u q _=>⟨u,k b u q⟩
 afT:=λb xs q=>by rw[aA (aB q hn)];exact q
 afR:=λb u xs q=>by rw[aA (aB q hn)];exact q
 af5:=λb ps q=>⟨#[],by rw[aA (aB q hn),q];simp⟩
theorem Un.write (mu:GN (H x))(he:e=x\/H e=some (.own x))(k:∀b u,b≠e->h.get? b=some u->h'.get? b=some u)(Ow:∃u,h'.get? e=some u):Un fs ex H (upd H x o) h h':=by
 have hx:∀b,H b=none->b≠x:=λb n z=>by subst z;rw[n] at mu;exact mu
 have hb:∀b,H b=none->b≠e:=λb n z=>by
  subst z
  rcases he with r|r
  ·exact hx b n r
  ·rw[n] at r;cases r
 have hm:∀b u,H b=some u->¬GN (some u)->b≠x:=λb u q nm z=>by subst z;rw[q] at mu;exact nm mu
 refine⟨λb u q n _ _=>k b u (hb b n) q,λb u q n _ _=>⟨u.slots,k b u (hb b n) q⟩,λb u q n _=>by rw[aA (hx b n)];exact n,λb u q _=>?_,
  λb xs q=>by rw[aA (hm b _ q λz=>z)];exact q,λb u xs q=>by rw[aA (hm b _ q λz=>z)];exact q,λb ps q=>⟨#[],by rw[aA (hm b _ q λz=>z),q];simp⟩⟩
 by_cases M6:b=e
 ·subst M6;exact Ow
 ·exact⟨u,k b u M6 q⟩
end
noncomputable def Hz (h:Heap)(H:Hp):List Addr:=(List.range h.objs.size).filter λa=>(H a).isSome
noncomputable def mY (h:Heap)(H:Hp):Heap:=PySem.W.hideAll h (Hz h H)
theorem afs (h:Heap)(H:Hp):(mY h H).objs.size=h.objs.size:=PySem.W.hideAll_size _ _
theorem aav {o:Obj}(e:h.get? b=some o)(n:H b=none):(mY h H).get? b=some o :=
 PySem.W.hideAll_get _ e λhm=>by
  have q:(H b).isSome=true:=(zc.mp hm).2;rw[n] at q;simp at q
theorem afl {o:Obj}(e:(mY h H).get? b=some o):h.get? b=some o/\H b=none:=by
 have e':h.get? b=some o:=PySem.W.of_hideAll (Hz h H) e;refine⟨e',?_⟩
 cases q:H b with
 |none=>rfl
 |some x =>
  have hm:b∈Hz h H:=zc.mpr ⟨DQ.mpr (Ep e'),by simp[q]⟩;have z:(mY h H).get? b=none:=PySem.W.hideAll_none (Hz h H) hm;rw[z] at e;cases e
structure Mod (K:PySem.W.Frag)(mg:Cw)(base:Heap):Prop where
 kin:K.In base
 glob:base.Ns mainGlobals mg
 blt:∃mb,base.Ns builtinsNs mb/\∀x:Str,x ≠ "__name__"->mb x=bootBuiltins x
 nolimit:base.NoLimit
structure Cx where
 prog:Program
 w:World
 K:PySem.W.Frag
 mg:Str->Option Value
 base:Heap
 A:Around
 N:List Str
 s₀:Shared
 H₀:Hp
 env:Env
 outer:List Env
 stack:List Env
 ex:List Addr
 fn:Str->Bool
 calm:Bool
 pn:List (Addr×Obj)
 xe:Value->Shared->Prop
noncomputable def eQ (l:List Env):List Addr:=l.filterMap (·.frame)
noncomputable abbrev Cx.fs (X:Cx):List Addr:=eQ X.outer
noncomputable def HD (sc:Scope)(x:Str):Prop:=sc.names.lookup x=some .local\/sc.names.lookup x=some .cell\/sc.names.lookup x=some .free
noncomputable def Hh (sc:Scope)(x:Str):Prop:=sc.names.lookup x=some .local\/sc.names.lookup x=some .cell
noncomputable def aaq (env:Env)(h:Heap)(m:Cw)(x:Str)(u:Value):Prop :=
 (env.kindOf x=some .local/\m x=some u)\/((env.kindOf x=some .cell\/env.kindOf x=some .free)/\∃c,env.cells.lookup x=some c/\h.IsCell c (some u))
structure Cx.Ok (X:Cx):Prop where
 mod:Mod X.K X.mg X.base
 kind:X.env.scope.kind=.function
 glob:X.env.globals=mainGlobals
 blt:X.env.builtins=builtinsNs
 above:X.s₀.heap.objs.size<=X.env.locals
 inj:∀x y c,X.env.cells.lookup x=some c->X.env.cells.lookup y=some c->x=y
 has:∀x,(X.env.kindOf x=some .cell\/X.env.kindOf x=some .free)->∃c,X.env.cells.lookup x=some c
 cab:∀x c,X.fn x=true->X.env.cells.lookup x=some c->X.s₀.heap.objs.size<=c
 hd:X.calm=true->X.A.handled=none
 frames:X.A.frames=some X.stack
 stk:X.stack=X.outer\/(X.stack=X.env::X.outer/\X.env.frame=some X.env.locals)
 exf:∀b∈X.ex,b≠X.env.locals/\∀x c,X.env.cells.lookup x=some c->c≠b
 bs:∀b o,X.base.get? b=some o->X.s₀.heap.get? b=some o/\X.H₀ b=none
 bsz:X.base.objs.size<=X.s₀.heap.objs.size
 ahW:∀b o,X.base.get? b=some o->b∉X.ex
 aiw:∀b∈X.ex,b∉X.fs
 af8:X.s₀.heap.FunFrames X.base X.outer
 frf:∀b∈X.fs,X.H₀ b=none
structure Inv (X:Cx)(pins:List (Addr×Obj))(σ:List (Option V))(H:Hp)(s:pL):Prop where
 ok:X.Ok
 os:s.os=X.s₀.os
 bare:AllBare s.gens
 base:Un X.fs X.ex X.H₀ H X.s₀.heap s.heap
 loc:∃m,s.heap.Ns X.env.locals m/\∀(i:Nat)(x:Str)(v:V),X.N[i]?=some x->σ[i]?=some (some v)->HD X.env.scope x->∃u,aL v u/\aaq X.env s.heap m x u
 cell:∀x c,X.env.cells.lookup x=some c->∃v,s.heap.IsCell c v
 free:H X.env.locals=none
 afW:∀x c,X.env.cells.lookup x=some c->H c=none
 pin:∀p∈X.pn++pins,s.heap.get? p.1=some p.2/\H p.1=none/\p.1≠X.env.locals/\p.1∉X.fs/\∀v,p.2.data≠.cell v
 hok:gk X.prog X.w H s.heap
 len:σ.length=X.N.length
variable {N:F3}{i:Nat}{x:Str}{M:Model}{A:Around}
section
variable {X:Cx}{pins:List (Addr×Obj)}{σ:List (Option V)}{H H':Hp}{s:pL}{h':Heap}
theorem Cx.Ok.alu (ok:X.Ok){o:Obj}(e:X.base.get? b=some o):b∉X.fs:=λhb=>by
 have:=(ok.af8.mem hb).1;rw[e] at this;cases this
theorem Inv.bs (I:Inv X pins σ H s):∀b o,X.base.get? b=some o->s.heap.get? b=some o/\H b=none:=λb o e =>
 ⟨I.base.keep b o (I.ok.bs b o e).1 (I.ok.bs b o e).2 (I.ok.alu e) (I.ok.ahW b o e),I.base.free b o (I.ok.bs b o e).1 (I.ok.bs b o e).2 (I.ok.ahW b o e)⟩
theorem Inv.bk (I:Inv X pins σ H s):∀b o,X.base.get? b=some o->s.heap.get? b=some o:=λb o e=>(I.bs b o e).1
theorem Inv.mod (I:Inv X pins σ H s):Mod X.K X.mg X.base:=I.ok.mod
theorem Inv.kIn (I:Inv X pins σ H s):X.K.In s.heap:=I.ok.mod.kin.keeps I.bk
theorem Inv.fr (I:Inv X pins σ H s):∃m,Fr X.base X.env.locals s.heap m :=
 let⟨m,hn,_⟩:=I.loc
 ⟨m,hn,I.bk,Ig I.ok.bsz I.ok.above⟩
theorem Inv.lt (I:Inv X pins σ H s):X.env.locals<s.heap.objs.size:=let⟨_,hn,_⟩:=I.loc;hn.lt
theorem Inv.sz (I:Inv X pins σ H s):X.s₀.heap.objs.size<=s.heap.objs.size:=Ig I.ok.above (xx I.lt)
theorem Inv.ai4 (I:Inv X pins σ H s)(h:s.heap.objs.size<=a):a∉X.fs:=λhb=>by
 obtain⟨_,o,ho,_⟩:=I.ok.af8.mem hb;exact absurd (Ip (Ep ho) (Ig I.sz h)) (GH _)
theorem Inv.cne (I:Inv X pins σ H s):∀x c,X.env.cells.lookup x=some c->c≠X.env.locals:=λx c e z=>by
 obtain⟨v,o,ho,hd⟩:=I.cell x c e;obtain⟨m,⟨o',es,ep,J6,Uu,_⟩,_⟩:=I.loc;rw[z,J6] at ho;cases ho;rw[Uu] at hd;cases hd
theorem Inv.af8 (I:Inv X pins σ H s):s.heap.FunFrames X.base X.outer:=by
 have all:∀(l:List Env),(∀b∈eQ l,b∈X.fs)->X.s₀.heap.FunFrames X.base l->s.heap.FunFrames X.base l:=by
  intro l
  induction l with
  |nil=>intro _ _;trivial
  |cons env r ih =>
   intro hs hl;obtain⟨hk,⟨L,o,hf,hn,ho,hd⟩,hr⟩:=hl;have hL:L∈X.fs:=hs L (by unfold eQ;rw[Ie,hf];exact qT);obtain⟨sl,e⟩:=I.base.slot L o ho (I.ok.frf L hL) hL λz=>I.ok.aiw L z hL;exact⟨hk,⟨L,_,hf,hn,e,hd⟩,ih (λb hb=>hs b (by unfold eQ;rw[Ie,hf];exact rB _ hb)) hr⟩
 exact all X.outer (λ_ hb=>hb) I.ok.af8
theorem Inv.stack (I:Inv X pins σ H s):s.heap.FunFrames X.base X.stack:=by
 rcases I.ok.stk with e|⟨e,hf⟩
 ·rw[e];exact I.af8
 ·rw[e];obtain⟨m,hn,_⟩:=I.loc;refine .cons (by rw[I.ok.kind];decide) hf hn ?_ I.af8;exact Heap.get?_none_of_le (Ig I.ok.bsz I.ok.above)
theorem Inv.af0 (I:Inv X pins σ H s):∀b∈eQ X.stack,b∈X.env.locals::X.fs:=λb hb=>by
 rcases I.ok.stk with e|⟨e,hf⟩
 ·rw[e] at hb;exact rB _ hb
 ·rw[e] at hb;unfold eQ at hb;rw[Ie,hf] at hb;exact hb
theorem Inv.ags (I:Inv X pins σ H s):∀b∈eQ X.stack,H b=none:=λb hb=>by
 rcases HK.mp (I.af0 b hb) with e|hb
 ·rw[e];exact I.free
 ·obtain⟨_,o,ho,_⟩:=I.ok.af8.mem hb;exact I.base.free b o ho (I.ok.frf b hb) λz=>I.ok.aiw b z hb
theorem Inv.step {g':Array GenState}{t':Nat}{d':Drawn}{ch:List Addr}(I:Inv X pins σ H s)
 (LN:∀b∈ch,(b∈X.ex\/X.s₀.heap.objs.size<=b)/\b≠X.env.locals/\(∀x c,X.env.cells.lookup x=some c->c≠b)/\∀p∈X.pn++pins,p.1≠b)
 (keep:∀b o,b≠X.env.locals->b∉X.fs->b∉ch->s.heap.get? b=some o->H b=none->h'.get? b=some o)
 (slot:∀b o,b≠X.env.locals->b∈X.fs->b∉ch->s.heap.get? b=some o->H b=none->∃sl,h'.get? b=some {o with slots:=sl})(free:∀b o,b∉ch->s.heap.get? b=some o->H b=none->H' b=none)
 (there:∀b o,b∉ch->s.heap.get? b=some o->∃o',h'.get? b=some o')
 (afT:∀b xs,H b=some (.tup xs)->H' b=some (.tup xs))(afR:∀b o u,H b=some (.frz o u)->H' b=some (.frz o u))(af5:∀b ps,H b=some (.tbl ps)->∃more,H' b=some (.tbl (ps++more)))
 (ns:∀m,s.heap.Ns X.env.locals m->h'.Ns X.env.locals m)(hok:gk X.prog X.w H' h')(hg:AllBare g'):
 Inv X pins σ H' {s with heap:=h',gens:=g',drawn:=d',toks:=t'}:=by
 have X4:∀b o,X.s₀.heap.get? b=some o->b≠X.env.locals:=λb o e=>IB (Ip (Ep e) I.ok.above)
 have Tq:∀b o,X.s₀.heap.get? b=some o->b∉X.ex->b∉ch:=λb o e hx hb=>by
  rcases(LN b hb).1 with z|z
  ·exact hx z
  ·exact absurd (Ip (Ep e) z) (GH _)
 have cellK:∀x c,X.env.cells.lookup x=some c->∀v,s.heap.IsCell c v->h'.IsCell c v:=λx c e v ⟨o,ho,hd⟩=>by
  have O7:c∉ch:=λz=>(LN c z).2.2.1 x c e rfl
  by_cases hc:c∈X.fs
  ·obtain⟨sl,q⟩:=slot c o (I.cne x c e) hc O7 ho (I.afW x c e);exact⟨_,q,hd⟩
  ·exact⟨o,keep c o (I.cne x c e) hc O7 ho (I.afW x c e),hd⟩
 refine⟨I.ok,I.os,hg,⟨λb o e n hb hx=>?_,λb o e n hb hx=>?_,λb o e n hx=>?_,λb o e hx=>?_,λb xs e=>afT b xs (I.base.afT b xs e),λb o xs e=>afR b o xs (I.base.afR b o xs e),λb ps e=>?_⟩,?_,λx c e=>?_,?_,λx c e=>?_,λp hp=>?_,hok,I.len⟩
 ·exact keep b o (X4 b o e) hb (Tq b o e hx) (I.base.keep b o e n hb hx) (I.base.free b o e n hx)
 ·obtain⟨sl,e1⟩:=I.base.slot b o e n hb hx;obtain⟨LO,e2⟩:=slot b _ (X4 b o e) hb (Tq b o e hx) e1 (I.base.free b o e n hx);exact⟨LO,e2⟩
 ·obtain⟨o',e1⟩:=I.base.there b o e hx;exact free b o' (Tq b o e hx) e1 (I.base.free b o e n hx)
 ·obtain⟨o',e1⟩:=I.base.there b o e hx;exact there b o' (Tq b o e hx) e1
 ·obtain⟨m1,e1⟩:=I.base.af5 b ps e;obtain⟨m2,e2⟩:=af5 b _ e1;exact⟨m1++m2,by rw[e2,xF]⟩
 ·obtain⟨m,hn,hl⟩:=I.loc;refine⟨m,ns m hn,λi x v e1 e2 e3=>?_⟩;obtain⟨u,r,l⟩:=hl i x v e1 e2 e3;refine⟨u,r,?_⟩
  rcases l with l|⟨k,c,e,z⟩
  ·exact .inl l
  ·exact .inr ⟨k,c,e,cellK x c e _ z⟩
 ·obtain⟨v,z⟩:=I.cell x c e;exact⟨v,cellK x c e v z⟩
 ·obtain⟨m,⟨o,_,_,ho,_⟩,_⟩:=I.loc;exact free _ o (λz=>(LN _ z).2.1 rfl) ho I.free
 ·obtain⟨v,o,ho,hd⟩:=I.cell x c e;exact free c o (λz=>(LN c z).2.2.1 x c e rfl) ho (I.afW x c e)
 ·obtain⟨e,n,ne,nf,d⟩:=I.pin p hp;have O7:p.1∉ch:=λz=>(LN p.1 z).2.2.2 p hp rfl;exact⟨keep p.1 p.2 ne nf O7 e n,free p.1 p.2 O7 e n,ne,nf,d⟩
theorem Inv.un {t':Nat}(I:Inv X pins σ H s)(u:Un X.fs [] H H' s.heap h')(hok:gk X.prog X.w H' h'):Inv X pins σ H' {s with heap:=h',toks:=t'}:=by
 obtain⟨m,⟨o,es,ep,ho,r⟩,_⟩:=id I.loc;obtain⟨sl,hL⟩:=u.any ho I.free (by simp)
 exact I.step (g':=s.gens) (d':=s.drawn) (ch:=[]) (λ_ z=>nomatch z) (λb o _ hb _ e n=>u.keep b o e n hb (by simp)) (λb o _ hb _ e n=>u.slot b o e n hb (by simp)) (λb o _ e n=>u.free b o e n (by simp)) (λb o _ e=>u.there b o e (by simp)) u.afT u.afR u.af5 (λm' hm=>by
  obtain⟨o',es',O8,J6,r'⟩:=hm;rw[ho] at J6;cases J6
  exact⟨_,es',O8,hL,r'⟩) hok I.bare
theorem Inv.call {g':Array GenState}{t':Nat}{d':Drawn}{ch:List Addr}(I:Inv X pins σ H s)(u:Un (eQ X.stack) ch H H' s.heap h')(hok:gk X.prog X.w H' h')(hg:AllBare g')
 (LN:∀b∈ch,(b∈X.ex\/X.s₀.heap.objs.size<=b)/\b≠X.env.locals/\(∀x c,X.env.cells.lookup x=some c->c≠b)/\∀p∈X.pn++pins,p.1≠b):
 Inv X pins σ H' {s with heap:=h',gens:=g',drawn:=d',toks:=t'}:=by
 obtain⟨m,⟨o,es,ep,ho,r⟩,_⟩:=id I.loc;obtain⟨sl,hL⟩:=u.any ho I.free λz=>(LN _ z).2.1 rfl
 exact I.step (ch:=ch) LN (λb o hL hb hc e n=>u.keep b o e n (λz=>(HK.mp (I.af0 b z)).elim hL hb) hc) (λb o _ _ hc e n=>u.any e n hc) (λb o hc e n=>u.free b o e n hc) (λb o hc e=>u.there b o e hc) u.afT u.afR u.af5 (λm' hm=>by
  obtain⟨o',es',O8,J6,r'⟩:=hm;rw[ho] at J6;cases J6
  exact⟨_,es',O8,hL,r'⟩) hok hg
theorem Inv.turned {t':Nat}{it:Addr}(I:Inv X pins σ H s)(k:∀b o,b≠it->s.heap.get? b=some o->h'.get? b=some o)(hn:H it=none)(hL:it≠X.env.locals)
 (h1:it∈X.ex\/X.s₀.heap.objs.size<=it)(h2:∀x c,X.env.cells.lookup x=some c->c≠it)(h3:∀p∈X.pn++pins,p.1≠it):Inv X pins σ H {s with heap:=h',toks:=t'}:=by
 have Ml:∀b u,H b=some u->b≠it:=λb u e z=>by rw[z,hn] at e;cases e
 refine I.step (g':=s.gens) (d':=s.drawn) (ch:=[it]) (λb hb=>?_) (λb o _ _ hc e _=>k b o (λz=>hc (by simp[z])) e) (λb o _ _ hc e _=>⟨o.slots,k b o (λz=>hc (by simp[z])) e⟩) (λ_ _ _ _ n=>n)
  (λb o hc e=>⟨o,k b o (λz=>hc (by simp[z])) e⟩) (λ_ _ e=>e) (λ_ _ _ e=>e) (λb ps e=>⟨#[],by rw[e];simp⟩) (λm hm=>?_) (λb u e=>?_) I.bare
 ·have e:b=it:=by simpa using hb
  subst e;exact⟨h1,hL,h2,h3⟩
 ·obtain⟨o,es,ep,ho,r⟩:=hm;exact⟨o,es,ep,k _ o (Bt hL) ho,r⟩
 ·refine(I.hok b u e).agX (λc v hc q=>k c v ?_ q) (λ_ q=>q) λ_ _ q=>q
  rcases hc with z|z
  ·rw[z];exact Ml b u e
  ·exact Ml c _ z
theorem Inv.tok (I:Inv X pins σ H s)(t:Nat):Inv X pins σ H {s with toks:=t}:=I.un (h':=s.heap) (t':=t) Un.refl I.hok
theorem Inv.kept {t':Nat}(I:Inv X pins σ H s)(k:∀b u,s.heap.get? b=some u->h'.get? b=some u):Inv X pins σ H {s with heap:=h',toks:=t'}:=I.un (Un.kept k) (I.hok.kept k)
theorem Inv.laid {a:Addr}{o:HO}{t':Nat}(I:Inv X pins σ H s)(k:∀b u,s.heap.get? b=some u->h'.get? b=some u)(hp:s.heap.objs.size<=a)(new:bJ X.prog X.w (upd H a o) h' a o):
 Inv X pins σ (upd H a o) {s with heap:=h',toks:=t'}:=I.un (Un.laid k hp (I.hok.fresh hp)) (I.hok.laid k hp new)
theorem Inv.write {x e:Addr}{o:HO}{t':Nat}(I:Inv X pins σ H s)(mu:GN (H x))(he:e=x\/H e=some (.own x))(k:∀b u,b≠e->s.heap.get? b=some u->h'.get? b=some u)(Ow:∃u,h'.get? e=some u)
 (new:bJ X.prog X.w (upd H x o) h' x o):Inv X pins σ (upd H x o) {s with heap:=h',toks:=t'}:=I.un (Un.write mu he k Ow) (I.hok.write mu he k Ow new)
theorem Inv.afO {pins':List (Addr×Obj)}(I:Inv X pins σ H s)(h:∀p∈pins',s.heap.get? p.1=some p.2/\H p.1=none/\p.1≠X.env.locals/\p.1∉X.fs/\∀v,p.2.data≠.cell v):Inv X pins' σ H s :=
 ⟨I.ok,I.os,I.bare,I.base,I.loc,I.cell,I.free,I.afW,λp hp=>(tH.mp hp).elim (λz=>I.pin p (A6 _ z)) (h p),I.hok,I.len⟩
theorem rF (hN:N.Nodup){j:Nat}(a:N[i]?=some x)(b:N[j]?=some x):i=j:=by
 obtain⟨h1,e1⟩:=zp.mp a;obtain⟨h2,e2⟩:=zp.mp b;exact(List.getElem_inj hN).mp (e1.trans e2.symm)
theorem oB {E:AU}{v:V}{Q:Unit->Shared->Prop}(I:Inv X pins σ H s)(hN:X.N.Nodup)(hi:X.N[i]?=some x)(hx:Hh X.env.scope x)(r:aL v u)
 (h:∀s',Inv X pins (σ.set i (some v)) H s'->(∃a,Heap.SameBut a s.heap s'.heap/\(a=X.env.locals\/X.env.cells.lookup x=some a))->Q () s')(hf:X.fn x=true\/X.env.scope.names.lookup x=some .local:=by first|exact .inl rfl|exact .inr rfl|assumption):wpAny M A (storeName X.env x u) Q E s:=by
 obtain⟨m,hn,hl⟩:=id I.loc
 have Uv:(X.env.scope.kind == .class || (X.env.scope.kind == .module&&X.env.locals != X.env.globals))=false:=by rw[I.ok.kind];rfl
 have X5:i<σ.length:=by rw[I.len];exact(zp.mp hi).1
 have cne:=I.cne
 have tracked:∀{a:Addr}{h':Heap},(∃o,s.heap.get? a=some o/\H a=none)->Heap.SameBut a s.heap h'->gk X.prog X.w H h':=λ{a h'} ha hs b ob e=>by
  obtain⟨_,_,J9⟩:=ha;refine(I.hok b ob e).agX (λc w' hc q=>(hs.2 c ?_).trans q) (λ_ q=>q) λ_ _ q=>q;rintro rfl
  rcases hc with rfl|hc
  ·rw[J9] at e;cases e
  ·rw[J9] at hc;cases hc
 rcases hx with hk|hk
 ·refine wpAny_storeName_local hk hn (λh' Ox hs=>?_) Uv;obtain⟨oL,_,_,hoL,_⟩:=id hn;refine h _ ⟨I.ok,I.os,I.bare,⟨λb o e n hb hx=>?_,λb o e n hb hx=>?_,I.base.free,λb o e hx=>?_,I.base.afT,I.base.afR,I.base.af5⟩,⟨_,Ox,λj y v' e1 e2 e3=>?_⟩,λy c e=>?_,I.free,I.afW,λp hp=>?_,tracked ⟨oL,hoL,I.free⟩ hs,by simpa using I.len⟩ ⟨_,hs,.inl rfl⟩
  ·exact(hs.2 b (IB (Ip (Ep e) I.ok.above))).trans (I.base.keep b o e n hb hx)
  ·obtain⟨sl,e1⟩:=I.base.slot b o e n hb hx;exact⟨sl,(hs.2 b (IB (Ip (Ep e) I.ok.above))).trans e1⟩
  ·obtain⟨o',e1⟩:=I.base.there b o e hx;exact⟨o',(hs.2 b (IB (Ip (Ep e) I.ok.above))).trans e1⟩
  ·by_cases hj:j=i
   ·subst hj;rw[hi] at e1;cases e1;rw[List.getElem?_set_self X5] at e2
    cases e2
    exact⟨u,r,.inl ⟨hk,by simp⟩⟩
   ·rw[List.getElem?_set_ne (Bt hj)] at e2;obtain⟨u',r',q⟩:=hl j y v' e1 e2 e3;refine⟨u',r',?_⟩
    rcases q with⟨k,e⟩|⟨k,c,e,z⟩
    ·refine .inl ⟨k,?_⟩;have:y≠x:=λe=>hj (rF hN e1 (e▸hi));simp[this,e]
    ·exact .inr ⟨k,c,e,z.sameBut hs (cne y c e)⟩
  ·obtain⟨w',z⟩:=I.cell y c e;exact⟨w',z.sameBut hs (cne y c e)⟩
  ·obtain⟨e,n,ne,nf,d⟩:=I.pin p hp;exact⟨(hs.2 p.1 ne).trans e,n,ne,nf,d⟩
 ·have Uw:X.fn x=true:=by
   rcases hf with z|z
   ·exact z
   ·rw[z] at hk;cases hk
  obtain⟨c,hc⟩:=I.ok.has x (.inl hk);obtain⟨w',z⟩:=I.cell x c hc;refine wpAny_storeName_cell I.ok.kind hk hc z (λh' Jv hs=>?_);obtain⟨oc,X6,Ux⟩:=id z;refine h {s with heap:=h'} ⟨I.ok,I.os,I.bare,⟨λb o e n hb hx=>?_,λb o e n hb hx=>?_,I.base.free,λb o e hx=>?_,I.base.afT,I.base.afR,I.base.af5⟩,⟨m,hn.sameBut hs (Bt (cne x c hc)),λj y v' e1 e2 e3=>?_⟩,λy c' e=>?_,I.free,I.afW,λp hp=>?_,tracked ⟨oc,X6,I.afW x c hc⟩ hs,by simpa using I.len⟩ ⟨c,hs,.inr hc⟩
  ·exact(hs.2 b (IB (Ip (Ep e) (I.ok.cab x c Uw hc)))).trans (I.base.keep b o e n hb hx)
  ·obtain⟨sl,e1⟩:=I.base.slot b o e n hb hx;exact⟨sl,(hs.2 b (IB (Ip (Ep e) (I.ok.cab x c Uw hc)))).trans e1⟩
  ·obtain⟨o',e1⟩:=I.base.there b o e hx;exact⟨o',(hs.2 b (IB (Ip (Ep e) (I.ok.cab x c Uw hc)))).trans e1⟩
  ·by_cases hj:j=i
   ·subst hj;rw[hi] at e1;cases e1;rw[List.getElem?_set_self X5] at e2
    cases e2
    exact⟨u,r,.inr ⟨.inl hk,c,hc,Jv⟩⟩
   ·rw[List.getElem?_set_ne (Bt hj)] at e2;obtain⟨u',r',q⟩:=hl j y v' e1 e2 e3;refine⟨u',r',?_⟩
    rcases q with q|⟨k,c',e,z'⟩
    ·exact .inl q
    ·refine .inr ⟨k,c',e,z'.sameBut hs ?_⟩;rintro rfl;exact hj (rF hN e1 (I.ok.inj _ _ _ e hc▸hi))
  ·by_cases X7:c'=c
   ·subst X7;exact⟨_,Jv⟩
   ·obtain⟨w2,z2⟩:=I.cell y c' e;exact⟨w2,z2.sameBut hs X7⟩
  ·obtain⟨e,n,ne,nf,d⟩:=I.pin p hp;refine⟨(hs.2 p.1 ?_).trans e,n,ne,nf,d⟩;intro q;rw[q,X6] at e;have q':oc=p.2:=Option.some.inj e;exact d w' (by rw[<-q'];exact Ux)
theorem iN {E:AU}{v:V}{Q:Unit->Shared->Prop}(I:Inv X pins σ H s)(hN:X.N.Nodup)(hi:X.N[i]?=some x)(hx:Hh X.env.scope x)(r:aL v u)
 (h:∀s',Inv X pins (σ.set i (some v)) H s'->Q () s')(hf:X.fn x=true\/X.env.scope.names.lookup x=some .local:=by first|exact .inl rfl|exact .inr rfl|assumption):wpAny M A (storeName X.env x u) Q E s :=
 oB I hN hi hx r (λs' I' _=>h s' I') hf
theorem Inv.aiO {s':pL}{ch:List Addr}(I:Inv X pins σ H s)(ho:s'.os=s.os)(u:Un (eQ X.stack) ch H H' s.heap s'.heap)(hok:gk X.prog X.w H' s'.heap)(hg:AllBare s'.gens)
 (LN:∀b∈ch,(b∈X.ex\/X.s₀.heap.objs.size<=b)/\b≠X.env.locals/\(∀x c,X.env.cells.lookup x=some c->c≠b)/\∀p∈X.pn++pins,p.1≠b):Inv X pins σ H' s':=by
 obtain⟨h',g',d',t',o'⟩:=s';have e:o'=s.os:=ho;subst e;exact I.call (g':=g') (t':=t') (d':=d') u hok hg LN
end
noncomputable abbrev XK:=Value->Option Addr->Hp->Prop
noncomputable abbrev St:=List (Option V)
noncomputable abbrev VK:=V->Hp->Prop
noncomputable abbrev TE:=St->Hp->VK->Prop
noncomputable abbrev TT:=St->Hp->(Bool->Hp->Prop)->Prop
noncomputable abbrev TA:=St->Hp->(List V->Hp->Prop)->Prop
structure Ends where
 nx:St->Hp->Prop
 rt:VK
 bk:St->Hp->Prop:=λ_ _=>False
 ct:St->Hp->Prop:=λ_ _=>False
noncomputable abbrev TS:=Ends->St->Hp->Prop
noncomputable def EP (X:Cx)(pins:List (Addr×Obj))(σ:St)(Q:VK)(u:Value)(s':pL):Prop:=∃v H',Inv X pins σ H' s'/\aL v u/\Q v H'
noncomputable def TP (X:Cx)(pins:List (Addr×Obj))(σ:St)(Q:Bool->Hp->Prop)(b:Bool)(s':pL):Prop:=∃H',Inv X pins σ H' s'/\Q b H'
noncomputable def AP (X:Cx)(pins:List (Addr×Obj))(σ:St)(Q:List V->Hp->Prop)(us:HF)(s':pL):Prop:=∃vs H',Inv X pins σ H' s'/\aN vs us/\Q vs H'
noncomputable def SP (X:Cx)(pins:List (Addr×Obj))(D:Ends)(f:Flow)(s':pL):Prop :=
 match f with
 | .next=>∃σ' H',Inv X pins σ' H' s'/\D.nx σ' H'
 | .brk=>∃σ' H',Inv X pins σ' H' s'/\D.bk σ' H'
 | .cont=>∃σ' H',Inv X pins σ' H' s'/\D.ct σ' H'
 | .ret u=>∃v σ' H',Inv X pins σ' H' s'/\aL v u/\D.rt v H'
noncomputable def PE (X:Cx)(e:Expr)(t:TE):Prop :=
 ∀(pins:List (Addr×Obj))(s:pL)(σ:St)(H:Hp)(Q:VK),Inv X pins σ H s->t σ H Q->wpAny (model X.prog X.w) X.A (eval e X.env) (EP X pins σ Q) X.xe s
noncomputable def PT (X:Cx)(e:Expr)(t:TT):Prop :=
 ∀(pins:List (Addr×Obj))(s:pL)(σ:St)(H:Hp)(Q:Bool->Hp->Prop),Inv X pins σ H s->t σ H Q->wpAny (model X.prog X.w) X.A (isTrue e X.env (eval e X.env)) (TP X pins σ Q) X.xe s
noncomputable def PW (X:Cx)(e:Expr)(t:TT):Prop :=
 ∀(dq:Sem Value)(pins:List (Addr×Obj))(s:pL)(σ:St)(H:Hp)(Q:Bool->Hp->Prop),Inv X pins σ H s->t σ H Q->wpAny (model X.prog X.w) X.A (isTrue e X.env dq) (TP X pins σ Q) X.xe s
variable {X:Cx}{e:Expr}
theorem PW.pt {t:TT}(h:PW X e t):PT X e t:=h _
noncomputable def PA (X:Cx)(es:xB)(t:TA):Prop :=
 ∀(pos:Pos)(pins:List (Addr×Obj))(s:pL)(σ:St)(H:Hp)(Q:List V->Hp->Prop),Inv X pins σ H s->t σ H Q->wpAny (model X.prog X.w) X.A (spliced (backTo pos (starEach es X.env))) (AP X pins σ Q) X.xe s
noncomputable def PS (X:Cx)(st:Stmt)(t:TS):Prop :=
 ∀(pins:List (Addr×Obj))(s:pL)(σ:St)(H:Hp)(D:Ends),Inv X pins σ H s->t D σ H->wpAny (model X.prog X.w) X.A (exec st X.env) (SP X pins D) X.xe s
noncomputable def qc (X:Cx)(st:List Stmt)(t:TS):Prop :=
 ∀(pins:List (Addr×Obj))(s:pL)(σ:St)(H:Hp)(D:Ends),Inv X pins σ H s->t D σ H->wpAny (model X.prog X.w) X.A (execs st X.env) (SP X pins D) X.xe s
variable {s:pL}
theorem cx {α:Type}{t:Sem α}{Q Q':α->Shared->Prop}{E:AU}(h:wpAny M A t Q E s)(hQ:∀a s,Q a s->Q' a s):wpAny M A t Q' E s:=Ax h hQ λ_ _ x=>x
variable {pins:List (Addr×Obj)}{σ:St}{op:CmpOp}
section
variable {X:Cx}
noncomputable def dg (i:Nat):TE:=λσ H Q=>∃v,σ[i]?=some (some v)/\Q v H
noncomputable def tC (v:V):TE:=λ_ H Q=>Q v H
theorem Fun {pos:Pos}(hN:X.N[i]?=some x)(hv:HD X.env.scope x)(hd:(x==("__debug__":Str))=false:=by decide)(JU:(x==("__classdict__":Str))=false:=by decide):PE X (.Name x pos) (dg i):=by
 intro pins s σ H Q I h;obtain⟨v,e,h⟩:=h;obtain⟨m,hn,hl⟩:=I.loc;obtain⟨u,r,l⟩:=hl i x v hN e hv;have fin:EP X pins σ Q u s:=⟨v,H,I,r,h⟩
 rcases l with⟨hk,hm⟩|⟨hk,c,hc,Kz⟩
 ·exact wpAny_Name (wpAny_loadName_local I.ok.kind hk hn hm fin) hd
 ·rcases hk with hk|hk
  ·exact wpAny_Name (wpAny_loadName_cell I.ok.kind hk hc Kz fin) hd
  ·exact wpAny_Name (wpAny_loadName_free I.ok.kind hk hc Kz fin JU) hd
theorem aq {i j pos}:PE X (.Constant (.int i) j pos) (tC (.int i)):=λ_ _ _ H _ I h=>wpAny_Constant_int ⟨.int i,H,I.tok _,⟨_,rfl⟩,h⟩
theorem fJ {b j pos}:PE X (.Constant (.bool b) j pos) (tC (.bl b)):=λ_ _ _ H _ I h=>Constant_bool ⟨.bl b,H,I,rfl,h⟩
theorem ae5 {j pos}:PE X (.Constant .none j pos) (tC .non):=λ_ _ _ H _ I h=>Constant_none ⟨.non,H,I,rfl,h⟩
theorem eI {x j pos}:PE X (.Constant (.str x) j pos) (tC (.str x)):=λ_ _ _ H _ I h=>Calls.Constant_str ⟨.str x,H,I.tok _,⟨_,rfl⟩,h⟩
noncomputable def Gl (X:Cx)(x:Str):Prop:=X.env.kindOf x=some .globalImplicit
theorem iO {E:AU}{pos:Pos}{Q:AU}(I:Inv X pins σ H s)(hg:Gl X x)(hm:X.mg x=some u)(h:Q u s)
 (hd:(x==("__debug__":Str))=false:=by decide):wpAny (model X.prog X.w) X.A (eval (.Name x pos) X.env) Q E s :=
 Calls.Name_function_global I.ok.kind hg (Calls.loadGlobal_global (by rw[I.ok.glob];exact I.mod.glob.keeps I.bk) hm h) hd
theorem c8 {E:AU}{pos:Pos}{Q:AU}(I:Inv X pins σ H s)(hg:Gl X x)(hm:X.mg x=none)(hv:bootBuiltins x=some u)(h:Q u s)
 (hn:x ≠ "__name__":=by decide)(hd:(x==("__debug__":Str))=false:=by decide):wpAny (model X.prog X.w) X.A (eval (.Name x pos) X.env) Q E s:=by
 obtain⟨mb,h1,h2⟩:=I.mod.blt;exact Calls.Name_function_global I.ok.kind hg (Calls.loadGlobal_builtin (by rw[I.ok.glob];exact I.mod.glob.keeps I.bk) hm (by rw[I.ok.blt];exact h1.keeps I.bk) ((h2 x hn).trans hv) h) hd
theorem d3 {v:V}{pos:Pos}(hg:Gl X x)(hm:X.mg x=some u)(r:aL v u)(hd:(x==("__debug__":Str))=false:=by decide):PE X (.Name x pos) (tC v):=
 λ_ _ _ H _ I h=>iO I hg hm ⟨v,H,I,r,h⟩ hd
theorem d7 {v:V}{pos:Pos}(hg:Gl X x)(hm:X.mg x=none)(hv:bootBuiltins x=some u)(r:aL v u)(hn:x ≠ "__name__":=by decide)(hd:(x==("__debug__":Str))=false:=by decide):PE X (.Name x pos) (tC v):=
 λ_ _ _ H _ I h=>c8 I hg hm hv ⟨v,H,I,r,h⟩ hn hd
variable {a b:Expr}{ta tb:TE}{pos:Pos}
noncomputable def PC (X:Cx)(op:CmpOp)(a b:Expr)(t:TE):Prop :=
 ∀(pins:List (Addr×Obj))(s:pL)(σ:St)(H:Hp)(Q:VK),Inv X pins σ H s->t σ H Q →
  wpAny (model X.prog X.w) X.A (eval a X.env) (λv s₁=>wpAny (model X.prog X.w) X.A (eval b X.env) (λu s₂=>wpAny (model X.prog X.w) X.A (compareOp op v u) (EP X pins σ Q) X.xe s₂) X.xe s₁) X.xe s
noncomputable def tB (t:TE):TT:=λσ H Q=>t σ H λx H1=>∃c,x=.bl c/\Q c H1
theorem zh {t:TE}(h:PC X op a b t)(h1:behindInMarks op b=false:=by first|exact O9 _ (by decide) (by decide)|rfl):PT X (.Compare a [op] [b] pos) (tB t):=by
 intro pins s σ H Q I hw;refine wpAny_isTrue_Compare1 (cx (h pins s σ H _ I hw) λv s1 h1=>cx h1 λu s2 h2=>cx h2 λc s3 z'=>?_) h1;obtain⟨x,H1,I1,r1,q1⟩:=z';obtain⟨d,rfl,q⟩:=q1
 cases r1
 exact jR ⟨H1,I1,q⟩
theorem cB {t:TE}(h:PE X e t)(he:∀dq,isTrue e X.env dq=(do let v <-dq;standAt e.pos;holding [v] (truthy v)):=by intro _;rfl):PT X e (tB t):=by
 intro pins s σ H Q I hw;refine isTrue_plain (cx (h pins s σ H _ I hw) λv s1 z'=>?_) (he _);obtain⟨x,H1,I1,r1,q1⟩:=z';obtain⟨d,rfl,q⟩:=q1
 cases r1
 exact jR ⟨H1,I1,q⟩
variable {tA Tr:TT}{rest:xB}
noncomputable def aas (t u:TT):TT:=λσ H Q=>t σ H λc H1=>if c=true then u σ H1 Q else Q false H1
noncomputable def aal (t u:TT):TT:=λσ H Q=>t σ H λc H1=>if c=true then Q true H1 else u σ H1 Q
noncomputable def Eo (t:TT):TT:=λσ H Q=>t σ H λc H1=>Q (!c) H1
theorem aaI (ha:PT X a tA):PW X (.BoolOp .And [a] pos) tA:=by
 intro wh pins s σ H Q I h;refine isTrue_and (cx (ha pins s σ H Q I h) λc s1 e=>?_)
 cases c with
 |true=>exact isTrue_and_nil e
 |false=>exact e
theorem f9 (ha:PT X a tA):PW X (.BoolOp .Or [a] pos) tA:=by
 intro wh pins s σ H Q I h;refine isTrue_or (cx (ha pins s σ H Q I h) λc s1 e=>?_)
 cases c with
 |false=>exact isTrue_or_nil e
 |true=>exact e
theorem aaw (ha:PT X a tA)(hb:PW X (.BoolOp .And (b::rest) pos) Tr):PW X (.BoolOp .And (a::b::rest) pos) (aas tA Tr):=by
 intro wh pins s σ H Q I h;refine isTrue_and (cx (ha pins s σ H _ I h) λc s1 z'=>?_);obtain⟨H1,I1,q1⟩:=z'
 cases c with
 |true=>exact hb wh pins s1 σ H1 Q I1 q1
 |false=>exact⟨H1,I1,q1⟩
theorem iP (ha:PT X a tA)(hb:PW X (.BoolOp .Or (b::rest) pos) Tr):PW X (.BoolOp .Or (a::b::rest) pos) (aal tA Tr):=by
 intro wh pins s σ H Q I h;refine isTrue_or (cx (ha pins s σ H _ I h) λc s1 z'=>?_);obtain⟨H1,I1,q1⟩:=z'
 cases c with
 |true=>exact⟨H1,I1,q1⟩
 |false=>exact hb wh pins s1 σ H1 Q I1 q1
theorem cz (ha:PT X a tA):PT X (.UnaryOp .Not a pos) (Eo tA):=by
 intro pins s σ H Q I h;exact isTrue_not (ha pins s σ H (λc H1=>Q (!c) H1) I h)
noncomputable def aay (ta tb:TE):TE:=λσ H Q=>ta σ H λx H1=>∃c,x=.bl c/\if c=true then tb σ H1 Q else Q (.bl false) H1
noncomputable def afv (ta:TE):TE:=λσ H Q=>ta σ H λx H1=>∃c,x=.bl c/\Q (.bl (!c)) H1
theorem fk {op}{t:TE}(h:PE X a t):PE X (.BoolOp op [a] pos) t:=λpins s σ H Q I hw=>BoolOp_one (h pins s σ H Q I hw)
theorem dH (ha:PE X a ta)(hb:PE X (.BoolOp .And (b::rest) pos) tb):PE X (.BoolOp .And (a::b::rest) pos) (aay ta tb):=by
 intro pins s σ H Q I h;refine BoolOp_and (cx (ha pins s σ H _ I h) λv s1 z'=>?_);obtain⟨x,H1,I1,r1,q1⟩:=z';obtain⟨c,rfl,q1⟩:=q1
 cases r1
 refine jR ?_
 cases c with
 |true=>exact hb pins s1 σ H1 Q I1 q1
 |false=>exact⟨.bl false,H1,I1,rfl,q1⟩
theorem aan (ha:PE X a ta):PE X (.UnaryOp .Not a pos) (afv ta):=by
 intro pins s σ H Q I h;refine UnaryOp_ (cx (ha pins s σ H _ I h) λv s1 z'=>?_);obtain⟨x,H1,I1,r1,q1⟩:=z';obtain⟨c,rfl,q1⟩:=q1
 cases r1
 exact not_of (jR ⟨.bl (!c),H1,I1,rfl,q1⟩)
end
noncomputable def a8 (K:PySem.W.Frag)(H:Hp)(a:Addr)(xs:List V):Prop :=
 Rd H a (.lst xs) \/
  ∃(o:Obj)(its:Il)(n:Nat),K.lookup a=some o/\o.cls=.type "list"/\o.dict=none/\o.data=.seq its n/\its.size<=sizeLine/\aN xs its.toList
noncomputable def bq (K:PySem.W.Frag)(H:Hp)(a:Addr)(xs:List V):Prop :=
 Rd H a (.tup xs) \/
  ∃(o:Obj)(its:Il)(n:Nat),K.lookup a=some o/\o.cls=.type "tuple"/\o.data=.seq its n/\its.size<=sizeLine/\aN xs its.toList
noncomputable def afC:Value->Option V
 | .none=>some .non
 | .bool b=>some (.bl b)
 | .int i _=>some (.int i)
 | .str x _=>some (.str x)
 | .bytes b _=>some (.byt b)
 | .float b _=>some (.flt b)
 | .ref a=>some (.ref a)
 | .type n=>some (.ty n)
 |_=>none
theorem aL.abs {x:V}(r:aL x u):afC u=some x:=by
 cases x with
 |non=>cases r;rfl
 |bl _=>cases r;rfl
 |int _=>obtain⟨t,rfl⟩:=r;rfl
 |str _=>obtain⟨t,rfl⟩:=r;rfl
 |byt _=>obtain⟨t,rfl⟩:=r;rfl
 |flt _=>obtain⟨t,rfl⟩:=r;rfl
 |ref _=>cases r;rfl
 |ty _=>cases r;rfl
variable {y:V}
theorem aL.inj {x:V}(r:aL x u)(q:aL y u):x=y:=Option.some.inj (r.abs.symm.trans q.abs)
theorem aN.inj:∀{xs ys:List V}{us:HF},aN xs us->aN ys us->xs=ys
 |_,_,_,.nil,.nil=>rfl
 |_,_,_,.cons r t,.cons r' t'=>by rw[r.inj r',aN.inj t t']
variable {K:PySem.W.Frag}
section
variable {X:Cx}{pins:List (Addr×Obj)}{σ:St}{H:Hp}{s:pL}{a:Addr}{xs ys:List V}
theorem a8.of (h:H a=some (.lst xs)):a8 K H a xs:=.inl (.inl h)
theorem bq.of (h:H a=some (.tup xs)):bq K H a xs:=.inl (.inl h)
theorem Inv.list (I:Inv X pins σ H s)(h:a8 X.K H a xs):∃its:List Value,aN xs its/\PlainL s.heap a its.toArray/\xs.length<=sizeLine:=by
 rcases h with h|⟨o,its,n,hk,hc,hd,hs,hz,r⟩
 ·obtain⟨z,its,n,r,e⟩:=h.ok I.hok;exact⟨its,r,⟨_,n,e,rfl,rfl,rfl⟩,z⟩
 ·refine⟨its.toList,r,⟨o,n,I.kIn a o hk,hc,hd,by simpa using hs⟩,?_⟩;have e:=r.length;simp only[yh] at e;omega
theorem Inv.tuple (I:Inv X pins σ H s)(h:bq X.K H a xs):∃its:List Value,aN xs its/\IsTup s.heap a its.toArray/\xs.length<=sizeLine:=by
 rcases h with h|⟨o,its,n,hk,hc,hs,hz,r⟩
 ·obtain⟨z,its,r,p⟩:=h.ok I.hok;exact⟨its,r,p,z⟩
 ·refine⟨its.toList,r,⟨o,I.kIn a o hk,hc,n,by simpa using hs⟩,?_⟩;have e:=r.length;simp only[yh] at e;omega
theorem Inv.agw (I:Inv X pins σ H s)(h:a8 X.K H a xs)(h':a8 X.K H a ys):xs=ys:=by
 obtain⟨its,r,⟨o,n,e,_,_,d⟩,_⟩:=I.list h;obtain⟨its',r',⟨o',n',e',_,_,d'⟩,_⟩:=I.list h';rw[e] at e';cases e';rw[d] at d'
 injection d' with d1 _
 have:its=its':=by simpa using Ec Array.toList d1
 subst this;exact r.inj r'
theorem Inv.afX (I:Inv X pins σ H s)(h:bq X.K H a xs)(h':bq X.K H a ys):xs=ys:=by
 obtain⟨its,r,⟨o,e,_,n,d⟩,_⟩:=I.tuple h;obtain⟨its',r',⟨o',e',_,n',d'⟩,_⟩:=I.tuple h';rw[e] at e';cases e';rw[d] at d'
 injection d' with d1 _
 have:its=its':=by simpa using Ec Array.toList d1
 subst this;exact r.inj r'
end
noncomputable abbrev Cx.agF (X:Cx)(E:AU):Cx:={X with xe:=E}
noncomputable abbrev Cx.nox (X:Cx):Cx:=X.agF λ_ _=>False
theorem Cx.Ok.agF (ok:X.Ok)(E:AU):(X.agF E).Ok :=
 ⟨ok.mod,ok.kind,ok.glob,ok.blt,ok.above,ok.inj,ok.has,ok.cab,ok.hd,ok.frames,ok.stk,ok.exf,ok.bs,ok.bsz,ok.ahW,ok.aiw,ok.af8,ok.frf⟩
theorem Cx.Ok.af6 {E:AU}(ok:(X.agF E).Ok):X.Ok :=
 ⟨ok.mod,ok.kind,ok.glob,ok.blt,ok.above,ok.inj,ok.has,ok.cab,ok.hd,ok.frames,ok.stk,ok.exf,ok.bs,ok.bsz,ok.ahW,ok.aiw,ok.af8,ok.frf⟩
section
variable {X:Cx}{pins:List (Addr×Obj)}{σ:St}{H:Hp}{s:pL}{E:AU}
theorem Inv.agF (I:Inv X pins σ H s)(E:AU):Inv (X.agF E) pins σ H s:=⟨I.ok.agF E,I.os,I.bare,I.base,I.loc,I.cell,I.free,I.afW,I.pin,I.hok,I.len⟩
theorem Inv.af6 (I:Inv (X.agF E) pins σ H s):Inv X pins σ H s:=⟨I.ok.af6,I.os,I.bare,I.base,I.loc,I.cell,I.free,I.afW,I.pin,I.hok,I.len⟩
theorem SP.af6 {D:Ends}{f:Flow}{s':pL}(h:SP (X.agF E) pins D f s'):SP X pins D f s':=by
 cases f with
 |next=>obtain⟨σ',H',I,q⟩:=h;exact⟨σ',H',I.af6,q⟩
 |brk=>obtain⟨σ',H',I,q⟩:=h;exact⟨σ',H',I.af6,q⟩
 |cont=>obtain⟨σ',H',I,q⟩:=h;exact⟨σ',H',I.af6,q⟩
 |ret u=>obtain⟨v,σ',H',I,r,q⟩:=h;exact⟨v,σ',H',I.af6,r,q⟩
theorem qc.nox {st:List Stmt}{t:TS}(h:qc X.nox st t):qc X st t:=λpins s σ H D I hw =>
 Ax (h pins s σ H D (I.agF _) hw) (λ_ _ q=>q.af6) λ_ _ z=>False.elim z
end
section
variable {X:Cx}{st:Stmt}{rest:List Stmt}{t u:TS}{e:Expr}{te:TE}{pos:Pos}
noncomputable def tD:TS:=λD σ H=>D.nx σ H
noncomputable def rV (t u:TS):TS:=λD σ H=>t {D with nx:=u D} σ H
theorem aI:qc X [] tD:=λ_ _ σ H _ I h=>FK ⟨σ,H,I,h⟩
theorem ar (h1:PS X st t)(h2:qc X rest u):qc X (st::rest) (rV t u):=by
 intro pins s σ H D I h;refine wpAny_execs_cons (cx (h1 pins s σ H {D with nx:=u D} I h) λf s1 q=>?_)
 cases f with
 |next =>
  obtain⟨σ',H',I',q⟩:=q;exact h2 pins s1 σ' H' D I' q
 |ret v=>exact q
 |brk=>exact q
 |cont=>exact q
theorem az (h1:PS X st t):qc X [st] t:=by
 intro pins s σ H D I h;refine wpAny_execs_cons (cx (h1 pins s σ H D I h) λf s1 q=>?_)
 cases f with
 |next=>exact FK q
 |ret v=>exact q
 |brk=>exact q
 |cont=>exact q
theorem Inv.quiet (I:Inv X pins σ H s):interactive X.env=false:=by simp[interactive,I.ok.kind]
noncomputable def aar (te:TE):TS:=λD σ H=>te σ H λ_ H1=>D.nx σ H1
theorem vO (he:PE X e te)(hs:swapsWith e none pos.line X.env=pure false:=by rfl):PS X (.Expr e pos) (aar te):=by
 intro pins s σ H D I h;exact wpAny_Expr_any (cx (he pins s σ H _ I h) λv s1 ⟨x,H1,I1,r1,q1⟩=>⟨σ,H1,I1,q1⟩) I.quiet hs
noncomputable def aaA (te:TE):TS:=λD σ H=>te σ H D.rt
theorem aG (he:PE X e te):PS X (.Return (some e) pos) (aaA te):=by
 intro pins s σ H D I h;exact wpAny_Return_some (cx (he pins s σ H _ I h) λv s1 ⟨x,H1,I1,r1,q1⟩=>⟨x,σ,H1,I1,r1,q1⟩)
noncomputable def wG (c:TT)(t u:TS):TS:=λD σ H=>c σ H λb H1=>if b=true then t D σ H1 else u D σ H1
theorem bo {c:Expr}{a b:List Stmt}{tc:TT}(hc:PT X c tc)(ha:qc X a t)(hb:qc X b u):PS X (.If c a b pos) (wG tc t u):=by
 intro pins s σ H D I h;refine wpAny_If (cx (hc pins s σ H _ I h) λd s1 z'=>?_);obtain⟨H1,I1,q1⟩:=z'
 cases d with
 |true=>exact ha pins s1 σ H1 D I1 q1
 |false=>exact hb pins s1 σ H1 D I1 q1
noncomputable def Bv:TS:=λ_ _ _=>False
theorem qZ:PS X st Bv:=λ_ _ _ _ _ _ h=>h.elim
theorem afA {sts:List Stmt}:qc X sts Bv:=λ_ _ _ _ _ _ h=>h.elim
end
noncomputable abbrev TG:=V->St->Hp->(St->Hp->Prop)->Prop
noncomputable abbrev xg:=List V->St->Hp->(St->Hp->Prop)->Prop
noncomputable def PG (X:Cx)(target:Expr)(t:TG):Prop :=
 ∀(pins:List (Addr×Obj))(s:pL)(σ:St)(H:Hp)(v:V)(u:Value)(Q:St->Hp->Prop),Inv X pins σ H s->aL v u->t v σ H Q →
  wpAny (model X.prog X.w) X.A (assign target X.env u) (λ_ s'=>∃σ' H',Inv X pins σ' H' s'/\Q σ' H') X.xe s
noncomputable def G8 (X:Cx)(ts:xB)(t:xg):Prop :=
 ∀(pins:List (Addr×Obj))(s:pL)(σ:St)(H:Hp)(vs:List V)(us:HF)(Q:St->Hp->Prop),Inv X pins σ H s->aN vs us->t vs σ H Q →
  wpAny (model X.prog X.w) X.A (assignInOrder ((assignEach ts X.env).map (·.2)) us) (λ_ s'=>∃σ' H',Inv X pins σ' H' s'/\Q σ' H') X.xe s
noncomputable abbrev Fx:=V->V->V->Hp->(Hp->Prop)->Prop
noncomputable def GI (X:Cx)(t:Fx):Prop :=
 ∀(pins:List (Addr×Obj))(s:pL)(σ:St)(H:Hp)(o i v:V)(ov iv u:Value)(Q:Hp->Prop),Inv X pins σ H s->aL o ov->aL i iv->aL v u->t o i v H Q →
  wpAny (model X.prog X.w) X.A (setItem ov iv u) (λ_ s'=>∃H',Inv X pins σ H' s'/\Q H') X.xe s
variable {g:TG}{body:List Stmt}{tb:TS}
section
variable {X:Cx}{pos:Pos}
noncomputable def bK (i:Nat):TG:=λv σ H Q=>Q (σ.set i (some v)) H
theorem aF {i:Nat}(hN:X.N.Nodup)(hi:X.N[i]?=some x)(hx:Hh X.env.scope x)(hf:X.fn x=true\/X.env.scope.names.lookup x=some .local:=by first|exact .inl rfl|exact .inr rfl|assumption):PG X (.Name x pos) (bK i):=by
 intro pins s σ H v u Q I r h;exact wpAny_assign_Name (iN I hN hi hx r (λs' I'=>⟨_,H,I',h⟩) hf)
noncomputable def Iu:xg:=λvs σ H Q=>vs=[]/\Q σ H
noncomputable def cV (t:TG)(u:xg):xg:=λvs σ H Q=>∃v r,vs=v::r/\t v σ H λσ' H'=>u r σ' H' Q
theorem cJ:G8 X [] Iu:=by
 intro pins s σ H vs us Q I r h;obtain⟨e,h⟩:=h;subst e
 cases r
 exact assignInOrder_nil ⟨σ,H,I,h⟩
theorem aO {es:xB}{t:TG}{u:xg}(h1:PG X e t)(h2:G8 X es u)
 (hs:(assignEach (e::es) X.env).map (·.2)=assign e X.env::(assignEach es X.env).map (·.2):=by rfl):G8 X (e::es) (cV t u):=by
 intro pins s σ H vs us Q I r h;obtain⟨v,vr,e1,h⟩:=h;subst e1
 cases r with
 |cons r rr =>
  rw[hs];refine assignInOrder_cons (cx (h1 pins s σ H _ _ _ I r h) λ_ s1 z'=>?_);obtain⟨σ1,H1,I1,q1⟩:=z';exact h2 pins s1 σ1 H1 _ _ Q I1 rr q1
noncomputable def jM (K:PySem.W.Frag)(n:Nat)(t:xg):TG:=λv σ H Q=>∃a xs,v=.ref a/\bq K H a xs/\xs.length=n/\t xs σ H Q
theorem dJ {es:xB}{k:Nat}{t:xg}{n:Nat}(hc:X.calm=true)(h:G8 X es t)
 (hn:(assignEach es X.env).length=n:=by rfl)(M7:(assignEach es X.env).findIdx? (·.1)=none:=by rfl):PG X (.Tuple es k pos) (jM X.K n t):=by
 intro pins s σ H v u Q I r hw;obtain⟨a,xs,e1,hq,hl,hw⟩:=hw;subst e1
 cases r
 obtain⟨its,rv,ht,hz⟩:=I.tuple hq;refine assign_Tuple_tuple (I.ok.hd hc) ht (by simp[hn,<-hl,rv.length]) M7 λh' hx=>?_;have I1:Inv X pins σ H {s with heap:=h'}:=I.kept (t':=s.toks) λb o e=>hx b o (IB (Ep e)) e;exact h pins _ σ H xs _ Q I1 (by simpa using rv) hw
noncomputable def aap (to ti:TE)(t:Fx):TG:=λv σ H Q=>to σ H λo H1=>ti σ H1 λi H2=>t o i v H2 λH3=>Q σ H3
theorem pY {o i:Expr}{to ti:TE}{t:Fx}(ho:PE X o to)(hi:PE X i ti)(hs:GI X t)
 (ha:∀v,assign (.Subscript o i pos) X.env v=(do
  let ov <-holding [v] (eval o X.env)
  let iv <-holding [v,ov] (eval i X.env)
  standAt pos
  holding [v,ov,iv] (setItem ov iv v)
  release [v,ov,iv] []):=by intro _;rfl):PG X (.Subscript o i pos) (aap to ti t):=by
 intro pins s σ H v u Q I r h;rw[ha];refine IW (BV (cx (ho pins s σ H _ I h) λov s1 z'=>?_));obtain⟨x,H1,I1,r1,q1⟩:=z';refine IW (BV (cx (hi pins s1 σ H1 _ I1 q1) λiv s2 z'=>?_));obtain⟨y,H2,I2,r2,q2⟩:=z';refine IW (GW (IW (BV (cx (hs pins s2 σ H2 x y v ov iv u _ I2 r1 r2 r q2) λ_ s3 z'=>?_))));obtain⟨H3,I3,q3⟩:=z';exact wpAny_release ⟨σ,H3,I3,q3⟩
noncomputable def qh (te:TE)(g:TG):TS:=λD σ H=>te σ H λx H1=>g x σ H1 D.nx
theorem gr {tg:Expr}{te:TE}(he:PE X e te)(hg:PG X tg g)(hs:swapsWithSole [tg] e pos.line X.env=pure false:=by rfl)(hw:swappedStores [tg] e X.env=pure none:=by rfl)
 (h1:(assignEach [tg] X.env).map (·.2)=[assign tg X.env]:=by rfl):PS X (.Assign [tg] e pos) (qh te g):=by
 intro pins s σ H D I h;refine wpAny_Assign_stores (cx (he pins s σ H _ I h) λv s1 z'=>?_) hs hw;obtain⟨x,H1,I1,r1,q1⟩:=z';rw[h1];exact cx (hg pins s1 σ H1 x v _ I1 r1 q1) λ_ s2 q=>q
theorem aY {i:Nat}{x:Str}{e:Expr}{te:TE}{pos':Pos}(hN:X.N.Nodup)(hi:X.N[i]?=some x)(hx:Hh X.env.scope x)(he:PE X e te)(hs:swapsWith e (some (.Name x pos')) pos.line X.env=pure false:=by rfl)(hf:X.fn x=true\/X.env.scope.names.lookup x=some .local:=by first|exact .inl rfl|exact .inr rfl|assumption):
 PS X (.Assign [.Name x pos'] e pos) (qh te (bK i)):=by
 intro pins s σ H D I h;refine wpAny_Assign_Name (cx (he pins s σ H _ I h) λv s1 z'=>?_) hs;obtain⟨y,H1,I1,r1,q1⟩:=z';exact iN I1 hN hi hx r1 (λs2 I2=>⟨_,H1,I2,q1⟩) hf
noncomputable def aat (i j:Nat)(ta:TA):TS:=λD σ H=>ta σ H λvs H1=>∃v w,vs=[v,w]/\D.nx ((σ.set i (some v)).set j (some w)) H1
theorem jd {i j:Nat}{y:Str}{a b:Expr}{ta:TA}{px py pt:Pos} {kt k2 Uy}(hc:X.calm=true)(hN:X.N.Nodup)(hi:X.N[i]?=some x)(hj:X.N[j]?=some y)(Kq:i≠j)
 (hx:X.env.scope.names.lookup x=some .local)(hy:X.env.scope.names.lookup y=some .local)(ha:PA X [a,b] ta)
 (hw:swappedStores [.Tuple [.Name x px,.Name y py] kt pt] (.Tuple [a,b] k2 Uy) X.env=pure (some [x,y]))
 (hs:swapsWithSole [.Tuple [.Name x px,.Name y py] kt pt] (.Tuple [a,b] k2 Uy) pos.line X.env=pure false:=by rfl):
 PS X (.Assign [.Tuple [.Name x px,.Name y py] kt pt] (.Tuple [a,b] k2 Uy) pos) (aat i j ta):=by
 intro pins s σ H D I h;rw[exec_Assign_arm];refine IW (GW ?_);rw[hs];refine IW (Fc ?_);rw[IX (by decide)];refine IW (Tuple_ (cx (ha _ pins s σ H _ I h) λus s1 z'=>?_));obtain⟨vs,H1,I1,r1,q1⟩:=z';obtain⟨v,w,e1,q1⟩:=q1;subst e1
 obtain⟨u1,u2,rfl,rv,JV⟩:∃u1 u2,us=[u1,u2]/\aL v u1/\aL w u2:=by
  cases r1 with
  |cons p q =>
   cases q with
   |cons p' q' =>
    cases q'
    exact⟨_,_,rfl,p,p'⟩
 refine Bf ?_ jJ;have I2:Inv X pins σ H1 {s1 with heap:=s1.heap.push {cls:=.type "tuple",data:=.seq [u1,u2].toArray} }:=I1.kept (t':=s1.toks) λb o e=>Ez _ e;rw[hw];refine IW (Fc ?_);show wpAny (model X.prog X.w) X.A (do rule "assign.swapped-stores";let items <-unpackItems (.ref s1.heap.objs.size) 2 none;assignInOrder [λv=>bindName X.env y v,λv=>bindName X.env x v] items.reverse;pure Flow.next) _ _ _;refine IW (qK (IW (unpackItems_tuple (items:=#[u1,u2]) (I.ok.hd hc) (IsTup.new s1.heap _) λh' Uz=>?_)));have I3:=I2.kept (h':=h') (t':=s1.toks) λb o e=>Uz b o (IB (Ep e)) e;show wpAny _ _ (assignInOrder [λv=>bindName X.env y v,λv=>bindName X.env x v] [u2,u1]>>=λ_=>pure Flow.next) _ _ _;refine IW (assignInOrder_cons (wpAny_bindName (iN I3 hN hj (.inl hy) JV (λs2 I4=>?_) (.inr hy))));refine assignInOrder_cons (wpAny_bindName (iN I4 hN hi (.inl hx) rv (λs3 I5=>assignInOrder_nil (Fc ?_)) (.inr hx)));rw[List.set_comm _ _ (Bt Kq)] at I5;exact⟨_,H1,I5,q1⟩
noncomputable def aau (c:TT)(tb:TS):TS:=λD σ H=>∃W:Nat->St->Hp->Prop,(∃m,W m σ H)/\∀m σ H,W m σ H →
 c σ H λb H1=>if b=true then ∃N:St->Hp->Prop,(∀σ' H',N σ' H'->∃m',m'<m/\W m' σ' H')/\tb {D with nx:=N,ct:=N,bk:=D.nx} σ H1 else D.nx σ H1
theorem ma {c:Expr}{tc:TT}(hp:PassesOwn (model X.prog X.w) X.A X.env X.xe)(hc:PT X c tc)(hb:qc X body tb):PS X (.While c body [] pos) (aau tc tb):=by
 intro pins s σ H D I h;obtain⟨W,⟨m0,w0⟩,turn⟩:=h;refine wpAny_While (codeAny_whileLoop (λn s'=>∃σ' H',Inv X pins σ' H' s'/\W n σ' H') ?_ m0 ⟨σ,H,I,w0⟩);rintro n s1 ⟨σ1,H1,I1,w1⟩;refine Ei hp (cx (hc pins s1 σ1 H1 _ I1 (turn n σ1 H1 w1)) λb s2 z'=>?_);obtain⟨H2,I2,q2⟩:=z'
 cases b with
 |true =>
  obtain⟨N,hN,q2⟩:=q2;rw[qk rfl];refine Ei hp (cx (hb pins s2 σ1 H2 _ I2 q2) λf s3 q3=>?_)
  cases f with
  |next =>
   obtain⟨σ3,H3,I3,n3⟩:=q3;obtain⟨m',hm,w3⟩:=hN σ3 H3 n3;exact⟨m',hm,σ3,H3,I3,w3⟩
  |cont =>
   obtain⟨σ3,H3,I3,n3⟩:=q3;obtain⟨m',hm,w3⟩:=hN σ3 H3 n3;exact⟨m',hm,σ3,H3,I3,w3⟩
  |brk=>exact q3
  |ret v=>exact q3
 |false =>
  rw[IX E7];exact FK ⟨σ1,H2,I2,q2⟩
end
structure It where
 go:Nat->Hp->Prop
 yld:Nat->Hp->V->Hp->Prop
 stop:Nat->Hp->Prop
noncomputable def c4 (X:Cx)(pins:List (Addr×Obj))(H:Hp)(b:Addr):Prop :=
 H b=none/\b≠X.env.locals/\b∉X.fs/\(b∈X.ex\/X.s₀.heap.objs.size<=b)/\(∀x c,X.env.cells.lookup x=some c->c≠b)/\∀p∈X.pn++pins,p.1≠b
variable {H':Hp}
theorem Inv.agx (I:Inv X pins σ H s)(hb:s.heap.objs.size<=b)(hn:H' b=none):c4 X pins H' b:=by
 refine⟨hn,tU (Ip I.lt hb),I.ai4 hb,.inr (Ig I.sz hb),λx c e z=>?_,λp hp z=>?_⟩
 ·obtain⟨v,q⟩:=I.cell x c e;exact absurd (Ip q.lt (by rw[z];exact hb)) (GH _)
 ·exact absurd (Ip (Ep (I.pin p hp).1) (by rw[z];exact hb)) (GH _)
structure Turn (P:xq)(w:World)(K:PySem.W.Frag)(tg:Expr)(J:It)(fp:List Addr)(it:Addr)(tn:Nat->Heap->Prop):Prop where
 mem:it∈fp
 obj:∀i h,tn i h->∀b∈fp,∃o,h.get? b=some o/\∀v,o.data≠.cell v
 keep:∀i h h',tn i h->(∀b∈fp,∀o,h.get? b=some o->h'.get? b=some o)->tn i h'
 item:∀(X:Cx),X.prog=P->X.w=w->X.K=K->X.calm=true->∀(i:Nat)(pins:List (Addr×Obj))(s:pL)(σ:St)(H:Hp)(E:AU),Inv X pins σ H s->(∀b∈fp,c4 X pins H b)->tn i s.heap->J.go i H →
  wpAny (model P w) X.A (pyNext (.ref it)) (λr s1=>∃u,r=some u /\
   wpAny (model P w) X.A (letOwnedTupleGo tg (.ref it) u) (λ_ s2=>∃x H',Inv X pins σ H' s2/\aL x u/\J.yld i H x H'/\tn (i+1) s2.heap/\∀b∈fp,H' b=none) E s1) E s
 done:∀(X:Cx),X.prog=P->X.w=w->X.K=K->X.calm=true->∀(i:Nat)(pins:List (Addr×Obj))(s:pL)(σ:St)(H:Hp)(E:AU),Inv X pins σ H s->(∀b∈fp,c4 X pins H b)->tn i s.heap->J.stop i H →
  wpAny (model P w) X.A (pyNext (.ref it)) (λr s1=>r=none/\Inv X pins σ H s1) E s
 self:∀(A:Around)(i:Nat)(s:pL)(Q:AU)(E:AU),tn i s.heap->Q (.ref it) s->wpAny (model P w) A (pyIter (.ref it)) Q E s
noncomputable abbrev TI:=St->Hp->(It->Hp->Prop)->Prop
noncomputable def IG (X:Cx)(pins:List (Addr×Obj))(σ:St)(tg:Expr)(R:It->Hp->Prop)(Oy:Value)(s2:pL):Prop :=
 ∃(it:Addr)(fp:List Addr)(tn:Nat->Heap->Prop)(J:It)(H':Hp),Oy=.ref it/\Inv X pins σ H' s2/\Turn X.prog X.w X.K tg J fp it tn/\tn 0 s2.heap/\(∀b∈fp,c4 X pins H' b)/\R J H'
noncomputable def PI (X:Cx)(tg iter:Expr)(wi:TI):Prop :=
 ∀(pins:List (Addr×Obj))(s:pL)(σ:St)(H:Hp)(R:It->Hp->Prop),Inv X pins σ H s->wi σ H R →
  wpAny (model X.prog X.w) X.A (eval iter X.env) (λv s1=>wpAny (model X.prog X.w) X.A (pyIter v) (IG X pins σ tg R) X.xe s1) X.xe s
theorem yX {E:AU}{s:pL}{tg:Expr}{it:Addr}{o:Obj}{n:String}{vs:Il}{Q:Unit->Shared->Prop}(ho:s.heap.get? it=some o)(hc:o.cls=.type n)(hd:o.data=.fields vs)
 (hn:["enumerate","zip","dict_itemiterator","dict_reverseitemiterator","odict_iterator","itertools.zip_longest","itertools.pairwise"].contains n=false)(hQ:Q () s):wpAny M A (letOwnedTupleGo tg (.ref it) u) Q E s:=by
 unfold letOwnedTupleGo
 cases tg <;> first
  |exact Fc hQ
  |(cases u <;> first
   |exact Fc hQ
   |(refine IW (wpAny_load ho ?_)
     rw[hc,hd];show wpAny M A (if(["enumerate","zip","dict_itemiterator","dict_reverseitemiterator","odict_iterator","itertools.zip_longest","itertools.pairwise"].contains n&&vs[0]?==some (rawInt _))=true then _ else _) Q E s;rw[IX (by intro h;rw[hn,xt] at h;cases h)]
     exact Fc hQ))
noncomputable def BJ (K:PySem.W.Frag)(a:Addr):It :=
 ⟨λi H=>∃xs x,a8 K H a xs/\xs[i]?=some x,λi H x H'=>H'=H/\∀xs,a8 K H a xs->xs[i]?=some x,λi H=>∃xs,a8 K H a xs/\xs.length<=i⟩
noncomputable def HI (K:PySem.W.Frag)(a:Addr):It :=
 ⟨λi H=>∃xs x,bq K H a xs/\xs[i]?=some x,λi H x H'=>H'=H/\∀xs,bq K H a xs->xs[i]?=some x,λi H=>∃xs,bq K H a xs/\xs.length<=i⟩
noncomputable def ED (lo:Int)(n:Nat):It:=⟨λi _=>i<n,λi H x H'=>H'=H/\x=.int (lo+i),λi _=>n<=i⟩
theorem afE {tg:Expr}(a it:Addr):Turn P w K tg (BJ K a) [it] it (λi h=>h.IsListIter it a i) where
 mem:=by simp
 obj:=λi h st b hb=>by
  have e:b=it:=by simpa using hb
  subst e;obtain⟨o,e,c,d⟩:=st;exact⟨o,e,λv z=>by rw[d] at z;cases z⟩
 keep:=λi h h' st k=>st.at λo e=>k it (by simp) o e
 item:=by
  intro X hP hw hK hc i pins s σ H E I hf st hg;subst hP hw hK;obtain⟨xs,x,hq,hx⟩:=hg;obtain⟨its,rv,p,hz⟩:=I.list hq;obtain⟨u,hu,ru⟩:=rv.get hx;obtain⟨f0,f1,f2,f3,f4,f5⟩:=hf it (by simp);refine Bk st p.isList (x:=u) (by simpa using hu) λh' JW sb=>?_;have I1:Inv X pins σ H {s with heap:=h'}:=I.turned (t':=s.toks) (λb o hb e=>(sb.2 b hb).trans e) f0 f1 f3 f4 f5;obtain⟨o,e,c,d⟩:=id JW;exact⟨u,rfl,yX (s:={s with heap:=h'}) e c d (by decide) ⟨x,H,I1,ru,⟨rfl,λys hy=>by rw[I.agw hy hq];exact hx⟩,JW,λb hb=>(hf b hb).1⟩⟩
 done:=by
  intro X hP hw hK hc i pins s σ H E I hf st hg;subst hP hw hK;obtain⟨xs,hq,hx⟩:=hg;obtain⟨its,rv,p,hz⟩:=I.list hq;obtain⟨f0,f1,f2,f3,f4,f5⟩:=hf it (by simp);have hl:=rv.length;exact wD (I.ok.hd hc) st p.isList (by simp;omega) λh' eb=>⟨rfl,I.turned (t':=s.toks) (λb o hb e=>eb b o hb e) f0 f1 f3 f4 f5⟩
 self:=λ_ _ _ _ _ st h=>wpAny_pyIter_listiter st h
theorem aaz {tg:Expr}(a it:Addr):Turn P w K tg (HI K a) [it] it (λi h=>h.IsTupleIter it a i) where
 mem:=by simp
 obj:=λi h st b hb=>by
  have e:b=it:=by simpa using hb
  subst e;obtain⟨o,e,c,d⟩:=st;exact⟨o,e,λv z=>by rw[d] at z;cases z⟩
 keep:=λi h h' st k=>st.at λo e=>k it (by simp) o e
 item:=by
  intro X hP hw hK hc i pins s σ H E I hf st hg;subst hP hw hK;obtain⟨xs,x,hq,hx⟩:=hg;obtain⟨its,rv,p,hz⟩:=I.tuple hq;obtain⟨u,hu,ru⟩:=rv.get hx;obtain⟨f0,f1,f2,f3,f4,f5⟩:=hf it (by simp);refine wpAny_pyNext_tuple_item st (show s.heap.IsTuple a its.toArray from p) (x:=u) (by simpa using hu) λh' JW sb=>?_;have I1:Inv X pins σ H {s with heap:=h'}:=I.turned (t':=s.toks) (λb o hb e=>(sb.2 b hb).trans e) f0 f1 f3 f4 f5;obtain⟨o,e,c,d⟩:=id JW;exact⟨u,rfl,yX (s:={s with heap:=h'}) e c d (by decide) ⟨x,H,I1,ru,⟨rfl,λys hy=>by rw[I.afX hy hq];exact hx⟩,JW,λb hb=>(hf b hb).1⟩⟩
 done:=by
  intro X hP hw hK hc i pins s σ H E I hf st hg;subst hP hw hK;obtain⟨xs,hq,hx⟩:=hg;obtain⟨its,rv,p,hz⟩:=I.tuple hq;obtain⟨f0,f1,f2,f3,f4,f5⟩:=hf it (by simp);have hl:=rv.length;exact wpAny_pyNext_tuple_end (I.ok.hd hc) st (show s.heap.IsTuple a its.toArray from p) (by simp;omega) λh' eb=>⟨rfl,I.turned (t':=s.toks) (λb o hb e=>eb b o hb e) f0 f1 f3 f4 f5⟩
 self:=λ_ _ _ _ _ st h=>wpAny_pyIter_tupleiter st h
theorem aaB {tg:Expr}(it:Addr)(lo:Int)(n:Nat):Turn P w K tg (ED lo n) [it] it (λi h=>IsRangeIter h it (lo+(i:Nat)*1) ((n:Int)-(i:Nat)) 1) where
 mem:=by simp
 obj:=λi h st b hb=>by
  have e:b=it:=by simpa using hb
  subst e
  exact⟨_,st,λv z=>by
   have z':Data.fields _=Data.cell v:=z
   cases z'⟩
 keep:=λi h h' st k=>k it (by simp) _ st
 item:=by
  intro X hP hw hK hc i pins s σ H E I hf st hg;subst hP hw hK;obtain⟨f0,f1,f2,f3,f4,f5⟩:=hf it (by simp);have W:=Walks.range (prog:=X.prog) (w:=X.w) (I.ok.hd hc) it lo 1 n;refine W.item i s _ _ hg st λv h' tk hv JW kk=>?_;obtain⟨t,rfl⟩:=hv;have I1:Inv X pins σ H {s with heap:=h',toks:=tk}:=I.turned (λb o hb e=>kk b o (by simpa using hb) e) f0 f1 f3 f4 f5;refine⟨_,rfl,yX (s:={s with heap:=h',toks:=tk}) (n:="range_iterator") JW rfl rfl (by decide) ⟨.int (lo+i),H,I1,⟨t,?_⟩,⟨rfl,rfl⟩,JW,λb hb=>(hf b hb).1⟩⟩;rw[GA]
 done:=by
  intro X hP hw hK hc i pins s σ H E I hf st hg;subst hP hw hK;obtain⟨f0,f1,f2,f3,f4,f5⟩:=hf it (by simp);exact wpAny_pyNext_range_end (I.ok.hd hc) st (by have:n<=i:=hg;omega) λh' eb=>⟨rfl,I.turned (t':=s.toks) (λb o hb e=>eb b o hb e) f0 f1 f3 f4 f5⟩
 self:=λ_ _ _ _ _ st h=>wpAny_pyIter_rangeiter st h
variable {pos:Pos}{fp:List Addr}
section
variable {X:Cx}{tg:Expr}
noncomputable def Ai (K:PySem.W.Frag)(tl:TE):TI:=λσ H R=>tl σ H λx H1=>∃a,x=.ref a/\(∃xs,a8 K H1 a xs)/\R (BJ K a) H1
noncomputable def Fu (K:PySem.W.Frag)(tl:TE):TI:=λσ H R=>tl σ H λx H1=>∃a,x=.ref a/\(∃xs,bq K H1 a xs)/\R (HI K a) H1
theorem b9 {l:Expr}{tl:TE}(hl:PE X l tl):PI X tg l (Ai X.K tl):=by
 intro pins s σ H R I h;refine cx (hl pins s σ H _ I h) λv s1 z'=>?_;obtain⟨x,H1,I1,r1,q1⟩:=z';obtain⟨a,e,⟨xs,hq⟩,q⟩:=q1;subst e
 cases r1
 obtain⟨its,rv,p,hz⟩:=I1.list hq;refine yf p.isList ?_;refine⟨s1.heap.objs.size,[s1.heap.objs.size],_,_,H1,rfl,I1.kept (t':=s1.toks) λb o e=>Ez _ e,afE a _,⟨_,Fg _ rfl,rfl,rfl⟩,λb hb=>?_,q⟩
 have e:b=s1.heap.objs.size:=by simpa using hb
 subst e;exact I1.agx (yH _) (I1.hok.fresh (yH _))
theorem pA {l:Expr}{tl:TE}(hl:PE X l tl):PI X tg l (Fu X.K tl):=by
 intro pins s σ H R I h;refine cx (hl pins s σ H _ I h) λv s1 z'=>?_;obtain⟨x,H1,I1,r1,q1⟩:=z';obtain⟨a,e,⟨xs,hq⟩,q⟩:=q1;subst e
 cases r1
 obtain⟨its,rv,p,hz⟩:=I1.tuple hq;refine BO (show s1.heap.IsTuple a its.toArray from p) ?_;refine⟨s1.heap.objs.size,[s1.heap.objs.size],_,_,H1,rfl,I1.kept (t':=s1.toks) λb o e=>Ez _ e,aaz a _,⟨_,Fg _ rfl,rfl,rfl⟩,λb hb=>?_,q⟩
 have e:b=s1.heap.objs.size:=by simpa using hb
 subst e;exact I1.agx (yH _) (I1.hok.fresh (yH _))
theorem aaQ {R:It->Hp->Prop}{E:AU}{lo hi:Int}{t u v:Tok}{tk:Nat}(I:Inv X pins σ H s)(h1:-(2^62)<=lo)(h2:lo<2^62)(h3:-(2^62)<=hi)(h4:hi<2^62)
 (q:R (ED lo (hi-lo).toNat) H):wpAny (model X.prog X.w) X.A (pyIter (.ref s.heap.objs.size)) (IG X pins σ tg R) E {s with heap:=s.heap.push {cls:=.type "range",data:=.fields #[.int lo t,.int hi u,.int 1 v]},toks:=tk}:=by
 refine wpAny_pyIter_range (IsRange.new ..) (small_one h1 h2 h3 h4) ?_;have I1:Inv X pins σ H {s with heap:=s.heap.push {cls:=.type "range",data:=.fields #[.int lo t,.int hi u,.int 1 v]},toks:=tk}:=I.kept λb o e=>Ez _ e
 refine⟨(s.heap.push {cls:=.type "range",data:=.fields #[.int lo t,.int hi u,.int 1 v]}).objs.size,[(s.heap.push {cls:=.type "range",data:=.fields #[.int lo t,.int hi u,.int 1 v]}).objs.size],_,_,H,rfl,
  I1.kept (t':=tk) λb o e=>Ez _ e,aaB _ lo (hi-lo).toNat,?_,λb hb=>?_,q⟩
 ·have e1:lo+((0:Nat):Int)*1=lo:=by simp
  have e2:(((hi-lo).toNat:Nat):Int)-((0:Nat):Int)=Builtin.Range.rangeSize lo hi 1:=by rw[rangeSize_one];split <;> omega
  show IsRangeIter _ _ (lo+((0:Nat):Int)*1) ((((hi-lo).toNat:Nat):Int)-((0:Nat):Int)) 1;rw[e1,e2];exact Fg _ rfl
 ·have e:b=(s.heap.push {cls:=.type "range",data:=.fields #[.int lo t,.int hi u,.int 1 v]}).objs.size:=by simpa using hb
  subst e;exact I1.agx (yH _) (I1.hok.fresh (yH _))
noncomputable def aax (ta:TA):TI:=λσ H R=>ta σ H λvs H1=>∃j:Int,vs=[.int j]/\-(2^62)<=j/\j<2^62/\R (ED 0 j.toNat) H1
theorem df {a:Expr}{ta:TA}{p:Pos}(hg:Gl X "range")(hm:X.mg "range"=none)(ha:PA X [a] ta)(hs:starEach [a] X.env=[(false,eval a X.env)]:=by rfl):PI X tg (.Call (.Name "range" p) [a] [] pos) (aax ta):=by
 intro pins s σ H R I h;refine Call_ (c8 I hg hm boot_range (AG (cx (ha pos pins s σ H _ I h) λus s1 z'=>?_) hs rfl));obtain⟨vs,H1,I1,r1,q1⟩:=z';obtain⟨j,e,q1,q2,q⟩:=q1;subst e
 cases r1 with
 |cons r rr =>
  cases rr
  obtain⟨t,rfl⟩:=r;exact call_range_1 (aaQ I1 (by omega) (by omega) q1 q2 (by simpa using q))
noncomputable def aaF (wi:TI)(g:TG)(tb:TS):TS:=λD σ H=>wi σ H λJ H1=>∃W:Nat->Nat->St->Hp->Prop,(∃m,W 0 m σ H1)/\∀i m σ H,W i m σ H →
 (J.stop i H/\D.nx σ H)\/(J.go i H/\∃N:St->Hp->Prop,(∀σ' H',N σ' H'->∃m',m'<m/\W (i+1) m' σ' H')/\∀x H',J.yld i H x H'->g x σ H' λσ2 H2=>tb {D with nx:=N,ct:=N,bk:=D.nx} σ2 H2)
noncomputable def dI (fp:List Addr)(h:Heap):List (Addr×Obj):=fp.filterMap λb=>(h.get? b).map λo=>(b,o)
theorem cT {o:Obj}(hb:b∈fp)(e:h.get? b=some o):(b,o)∈dI fp h:=CJ.mpr ⟨b,hb,by rw[e];rfl⟩
theorem og {p:Addr×Obj}(hp:p∈dI fp h):p.1∈fp/\h.get? p.1=some p.2:=by
 obtain⟨b,hb,e⟩:=CJ.mp hp
 cases q:h.get? b with
 |none=>rw[q] at e;cases e
 |some o =>
  rw[q] at e;have e':(b,o)=p:=Option.some.inj e;subst e';exact⟨hb,q⟩
theorem Inv.pinned (I:Inv X pins σ H s)(hf:∀b∈fp,c4 X pins H b)(ho:∀b∈fp,∃o,s.heap.get? b=some o/\∀v,o.data≠.cell v):Inv X (pins++dI fp s.heap) σ H s :=
 I.afO λp hp=>(tH.mp hp).elim (λz=>I.pin p (Io _ z)) λz=>by
   obtain⟨hb,e⟩:=og z;obtain⟨f0,f1,f2,_⟩:=hf p.1 hb;obtain⟨o,e',d⟩:=ho p.1 hb;rw[e] at e';cases e';exact⟨e,f0,f1,f2,d⟩
theorem Inv.afK {pl:List (Addr×Obj)}(I:Inv X (pins++pl) σ H s):Inv X pins σ H s:=I.afO λp hp=>I.pin p (Io _ (A6 _ hp))
theorem eG {iter:Expr}{wi:TI}(hp:PassesOwn (model X.prog X.w) X.A X.env X.xe)(hc:X.calm=true)(hi:PI X tg iter wi)(hg:PG X tg g)(hb:qc X body tb)
 (hs:∀x,foldedSetIterable iter X.env x=pure x:=by intro _;rfl):PS X (.For tg iter body [] pos) (aaF wi g tb):=by
 intro pins s σ H D I h;refine wpAny_For (cx (hi pins s σ H _ I h) λv s1 h1=>cx h1 λOy s2 h2=>?_) hs;obtain⟨it,fp,tn,J,H2,e,I2,T,Kr,f2,W,⟨m0,w0⟩,turn⟩:=h2;subst e;have M8:∀{H':Hp},(∀b∈fp,H' b=none)->∀b∈fp,c4 X pins H' b:=λhn b hb=>⟨hn b hb,(f2 b hb).2⟩;refine codeAny_forLoop_any (λn s'=>∃i σ' H',Inv X pins σ' H' s'/\tn i s'.heap/\(∀b∈fp,H' b=none)/\W i n σ' H') ?_ m0 ⟨0,σ,H2,I2,Kr,λb hb=>(f2 b hb).1,w0⟩;rintro n s3 ⟨i,σ3,H3,I3,X8,X9,w3⟩
 rcases turn i n σ3 H3 w3 with⟨stop,qn⟩|⟨go,N,hN,step⟩
 ·refine Ei hp (cx (T.done X rfl rfl rfl hc i pins s3 σ3 H3 X.xe I3 (M8 X9) X8 stop) λr s4 z'=>?_);obtain⟨hr,I4⟩:=z';subst hr;exact FK ⟨σ3,H3,I4,qn⟩
 ·refine Ei hp (cx (T.item X rfl rfl rfl hc i pins s3 σ3 H3 X.xe I3 (M8 X9) X8 go) λr s4 z'=>?_);obtain⟨u,hr,h4⟩:=z';subst hr;refine Ei hp (cx h4 λ_ s5 z'=>?_);obtain⟨x,H5,I5,r5,y5,Pa,UA⟩:=z';have I5':=I5.pinned (M8 UA) (T.obj _ _ Pa);refine Ei hp (cx (hg _ s5 σ3 H5 x u _ I5' r5 (step x H5 y5)) λ_ s6 z'=>?_);obtain⟨σ6,H6,I6,q6⟩:=z';refine Ei hp (cx (hb _ s6 σ6 H6 _ I6 q6) λf s7 q7=>?_)
  have again:∀{σ7:St}{H7:Hp},Inv X (pins++dI fp s5.heap) σ7 H7 s7->N σ7 H7->∃m,m<n/\∃i σ' H',Inv X pins σ' H' s7/\tn i s7.heap/\(∀b∈fp,H' b=none)/\W i m σ' H':=λ{σ7 H7} I7 n7=>by
   obtain⟨m',hm,w7⟩:=hN σ7 H7 n7;refine⟨m',hm,i+1,σ7,H7,I7.afK,T.keep _ _ _ Pa λb hb o e=>(I7.pin (b,o) (Io _ (Io _ (cT hb e)))).1,λb hb=>?_,w7⟩;obtain⟨o,e,d⟩:=T.obj _ _ Pa b hb;exact(I7.pin (b,o) (Io _ (Io _ (cT hb e)))).2.1
  cases f with
  |next=>obtain⟨σ7,H7,I7,n7⟩:=q7;exact again I7 n7
  |cont=>obtain⟨σ7,H7,I7,n7⟩:=q7;exact again I7 n7
  |brk=>obtain⟨σ7,H7,I7,q7⟩:=q7;exact⟨σ7,H7,I7.afK,q7⟩
  |ret v=>obtain⟨x7,σ7,H7,I7,r7,q7⟩:=q7;exact⟨x7,σ7,H7,I7.afK,r7,q7⟩
end
theorem iV {K:PySem.W.Frag}{a:Addr}{xs:List V}{D:Ends}(Pv:Nat->St->Hp->Prop)(h0:Pv 0 σ H)(hl:∀i σ H,i<=xs.length->Pv i σ H->a8 K H a xs)
 (hs:∀i x σ H,xs[i]?=some x->Pv i σ H->g x σ H λσ2 H2=>tb {D with nx:=Pv (i+1),ct:=Pv (i+1),bk:=D.nx} σ2 H2)(hd:∀σ H,Pv xs.length σ H->D.nx σ H):
 ∃W:Nat->Nat->St->Hp->Prop,(∃m,W 0 m σ H)/\∀i m σ H,W i m σ H →
  ((BJ K a).stop i H/\D.nx σ H)\/((BJ K a).go i H/\∃N:St->Hp->Prop,(∀σ' H',N σ' H'->∃m',m'<m/\W (i+1) m' σ' H')/\∀x H',(BJ K a).yld i H x H'->g x σ H' λσ2 H2=>tb {D with nx:=N,ct:=N,bk:=D.nx} σ2 H2):=by
 refine⟨λi m σ H=>m=xs.length-i/\i<=xs.length/\Pv i σ H,⟨xs.length,by simp,Gy _,h0⟩,?_⟩;rintro i m σ H ⟨rfl,hi,p⟩;have q:=hl i σ H hi p
 by_cases Jk:i<xs.length
 ·refine .inr ⟨⟨xs,xs[i],q,by simp[Jk]⟩,Pv (i+1),λσ' H' p'=>⟨xs.length-(i+1),by omega,rfl,Jk,p'⟩,λx H' y=>?_⟩;obtain⟨e,y⟩:=y;subst e;exact hs i x σ _ (y xs q) p
 ·have e:i=xs.length:=by omega
  subst e;exact .inl ⟨⟨xs,q,yH _⟩,hd σ H p⟩
theorem jq {lo:Int}{n:Nat}{D:Ends}(Pv:Nat->St->Hp->Prop)(h0:Pv 0 σ H)
 (hs:∀i σ H,i<n->Pv i σ H->g (.int (lo+i)) σ H λσ2 H2=>tb {D with nx:=Pv (i+1),ct:=Pv (i+1),bk:=D.nx} σ2 H2)(hd:∀σ H,Pv n σ H->D.nx σ H):
 ∃W:Nat->Nat->St->Hp->Prop,(∃m,W 0 m σ H)/\∀i m σ H,W i m σ H →
  ((ED lo n).stop i H/\D.nx σ H)\/((ED lo n).go i H/\∃N:St->Hp->Prop,(∀σ' H',N σ' H'->∃m',m'<m/\W (i+1) m' σ' H')/\∀x H',(ED lo n).yld i H x H'->g x σ H' λσ2 H2=>tb {D with nx:=N,ct:=N,bk:=D.nx} σ2 H2):=by
 refine⟨λi m σ H=>m=n-i/\i<=n/\Pv i σ H,⟨n,by simp,Gy _,h0⟩,?_⟩;rintro i m σ H ⟨rfl,hi,p⟩
 by_cases Jk:i<n
 ·refine .inr ⟨Jk,Pv (i+1),λσ' H' p'=>⟨n-(i+1),by omega,rfl,Jk,p'⟩,λx H' y=>?_⟩;obtain⟨e,y⟩:=y;subst e y;exact hs i σ _ Jk p
 ·have e:i=n:=by omega
  subst e;exact .inl ⟨yH _,hd σ H p⟩
noncomputable abbrev R2:=V->V->Hp->VK->Prop
noncomputable def eT (X:Cx)(f:Value->Value->Sem Value)(r:R2):Prop :=
 ∀(pins:List (Addr×Obj))(s:pL)(σ:St)(H:Hp)(x y:V)(v u:Value)(Q:VK),Inv X pins σ H s->aL x v->aL y u->r x y H Q →
  wpAny (model X.prog X.w) X.A (f v u) (EP X pins σ Q) X.xe s
noncomputable def HW (X:Cx)(f:Value->Sem Value)(r:V->Hp->VK->Prop):Prop :=
 ∀(pins:List (Addr×Obj))(s:pL)(σ:St)(H:Hp)(x:V)(v:Value)(Q:VK),Inv X pins σ H s->aL x v->r x H Q →
  wpAny (model X.prog X.w) X.A (f v) (EP X pins σ Q) X.xe s
noncomputable def eW (X:Cx)(f:Value)(r:List V->Hp->VK->Prop):Prop :=
 ∀(pins:List (Addr×Obj))(s:pL)(σ:St)(H:Hp)(xs:List V)(us:HF)(Q:VK),Inv X pins σ H s->aN xs us->r xs H Q →
  wpAny (model X.prog X.w) X.A (call f us) (EP X pins σ Q) X.xe s
noncomputable def afL (X:Cx)(r:V->Hp->(Bool->Hp->Prop)->Prop):Prop :=
 ∀(pins:List (Addr×Obj))(s:pL)(σ:St)(H:Hp)(x:V)(v:Value)(Q:Bool->Hp->Prop),Inv X pins σ H s->aL x v->r x H Q →
  wpAny (model X.prog X.w) X.A (truthy v) (TP X pins σ Q) X.xe s
noncomputable def oq (r:R2)(ta tb:TE):TE:=λσ H Q=>ta σ H λx H1=>tb σ H1 λy H2=>r x y H2 Q
noncomputable def afI (r:V->Hp->VK->Prop)(ta:TE):TE:=λσ H Q=>ta σ H λx H1=>r x H1 Q
noncomputable def rI (C:Int->Int->Prop)(g:Int->Int->V):R2:=λx y H Q=>∃i j,x=.int i/\y=.int j/\C i j/\Q (g i j) H
noncomputable def AK (g:Int->Int->V):R2:=λx y H Q=>∃i j,x=.int i/\y=.int j/\Q (g i j) H
noncomputable def rU (g:Int->V):V->Hp->VK->Prop:=λx H Q=>∃i,x=.int i/\Q (g i) H
variable {f:Value->Value->Sem Value}
section
variable {X:Cx}{a b c:Expr}{ta tb tc:TE}{pos:Pos}
theorem Fb (ha:PE X a ta)(hb:PE X b tb){R:V->V->Hp->Prop}(I:Inv X pins σ H s)
 (h:ta σ H λx H1=>tb σ H1 λy H2=>R x y H2){Q:AU}
 (hf:∀v u s2 x y H2,Inv X pins σ H2 s2->aL x v->aL y u->R x y H2->wpAny (model X.prog X.w) X.A (f v u) Q X.xe s2):
 wpAny (model X.prog X.w) X.A (eval a X.env) (λv s₁=>wpAny (model X.prog X.w) X.A (eval b X.env) (λu s₂=>wpAny (model X.prog X.w) X.A (f v u) Q X.xe s₂) X.xe s₁) X.xe s:=by
 refine cx (ha pins s σ H _ I h) λv s1 z'=>?_;obtain⟨x,H1,I1,r1,q1⟩:=z';refine cx (hb pins s1 σ H1 _ I1 q1) λu s2 z'=>?_;obtain⟨y,H2,I2,r2,q2⟩:=z';exact hf v u s2 x y H2 I2 r1 r2 q2
theorem aH {op:Operator}{r:R2}(ho:eT X (binaryOp op) r)(ha:PE X a ta)(hb:PE X b tb):PE X (.BinOp a op b pos) (oq r ta tb):=by
 intro pins s σ H Q I h;exact wpAny_BinOp (Fb ha hb I h λv u s2 x y H2 I2 rx ry q=>ho pins s2 σ H2 x y v u Q I2 rx ry q)
theorem yZ {op:UnaryOp}{r:V->Hp->VK->Prop}(ho:HW X (unaryOp op) r)(ha:PE X a ta):PE X (.UnaryOp op a pos) (afI r ta):=by
 intro pins s σ H Q I h;exact UnaryOp_ (cx (ha pins s σ H _ I h) λv s1 ⟨x,H1,I1,r1,q1⟩=>ho pins s1 σ H1 x v Q I1 r1 q1)
theorem Er {C:Int->Int->Prop}{g:Int->Int->Int}
 (rule:∀(i j:Int)(t u:Tok)(s:pL)(Q:AU)(E:AU),C i j->Q (.int (g i j) s.toks) {s with toks:=s.toks+1}->wpAny (model X.prog X.w) X.A (f (.int i t) (.int j u)) Q E s):
 eT X f (rI C λi j=>.int (g i j)):=by
 intro pins s σ H x y v u Q I rx ry h;obtain⟨i,j,rfl,rfl,hc,q⟩:=h;obtain⟨t,rfl⟩:=rx;obtain⟨t',rfl⟩:=ry;exact rule i j t t' s _ _ hc ⟨.int (g i j),H,I.tok _,⟨_,rfl⟩,q⟩
theorem Hl {g:Int->Int->Int}
 (rule:∀(i j:Int)(t u:Tok)(s:pL)(Q:AU)(E:AU),Q (.int (g i j) s.toks) {s with toks:=s.toks+1}->wpAny (model X.prog X.w) X.A (f (.int i t) (.int j u)) Q E s):
 eT X f (AK λi j=>.int (g i j)):=by
 intro pins s σ H x y v u Q I rx ry h;obtain⟨i,j,rfl,rfl,q⟩:=h;obtain⟨t,rfl⟩:=rx;obtain⟨t',rfl⟩:=ry;exact rule i j t t' s _ _ ⟨.int (g i j),H,I.tok _,⟨_,rfl⟩,q⟩
theorem Cj {g:Int->Int->Bool}
 (rule:∀(i j:Int)(t u:Tok)(s:pL)(Q:AU)(E:AU),Q (.bool (g i j)) s->wpAny (model X.prog X.w) X.A (f (.int i t) (.int j u)) Q E s):
 eT X f (AK λi j=>.bl (g i j)):=by
 intro pins s σ H x y v u Q I rx ry h;obtain⟨i,j,rfl,rfl,q⟩:=h;obtain⟨t,rfl⟩:=rx;obtain⟨t',rfl⟩:=ry;exact rule i j t t' s _ _ ⟨.bl (g i j),H,I,rfl,q⟩
noncomputable def aaC (i j:Int):Prop:=0<j/\j<1073741824
noncomputable def aaE (i j:Int):Prop:=0<=j/\j<=1000000/\i.natAbs<2^64
noncomputable def wV (i j:Int):Prop:=(-(2^64)<i/\i<2^64)\/(-(2^64)<j/\j<2^64)
theorem wV.ok {i j:Int}(h:wV i j):IntMulOk i j:=by
 rcases h with⟨h1,h2⟩|⟨h1,h2⟩
 ·exact .of_left (intBits_le_64 h1 h2)
 ·exact .of_right (intBits_le_64 h1 h2)
theorem dD:eT X (binaryOp .Add) (AK λi j=>.int (i+j)):=Hl λ_ _ _ _ _ _ _ q=>add_int q
theorem lK:eT X (binaryOp .Sub) (AK λi j=>.int (i-j)):=Hl λ_ _ _ _ _ _ _ q=>sub_int q
theorem dM:eT X (binaryOp .Mult) (rI wV λi j=>.int (i*j)):=Er λ_ _ _ _ _ _ _ hc q=>mul_int q hc.ok
theorem aaM:eT X (binaryOp .FloorDiv) (rI aaC λi j=>.int (i/j)):=Er λi j _ _ _ _ _ hc q=>by
 have h1:(0:Int)<j:=hc.1;have h2:j<1073741824:=hc.2;exact floordiv_int (by omega) (by rw[Int.fdiv_eq_ediv_of_nonneg i (by omega)];exact q) (.inl (PyProof.noPylong_small (by omega)))
theorem da:eT X (binaryOp .Mod) (rI (λ_ j=>0<j) λi j=>.int (i%j)):=Er λi j _ _ _ _ _ hc q=>by
 have h1:(0:Int)<j:=hc;exact mod_int' (by omega) (by rw[Int.fmod_eq_emod_of_nonneg i (by omega)];exact q)
theorem wa:eT X (binaryOp .Mod) (rI (λ_ j=>j≠0) λi j=>.int (i.fmod j)):=Er λ_ _ _ _ _ _ _ hc q=>mod_int' hc q
theorem ju:eT X (binaryOp .Pow) (rI aaE λi j=>.int (i^j.toNat)):=Er λ_ _ _ _ _ _ _ hc q=>pow_int_small hc.1 hc.2.1 hc.2.2 q
theorem aaR {f:Value->Sem Value}{g:Int->Int}
 (rule:∀(i:Int)(t:Tok)(s:pL)(Q:AU)(E:AU),Q (.int (g i) s.toks) {s with toks:=s.toks+1}->wpAny (model X.prog X.w) X.A (f (.int i t)) Q E s):
 HW X f (rU λi=>.int (g i)):=by
 intro pins s σ H x v Q I rx h;obtain⟨i,rfl,q⟩:=h;obtain⟨t,rfl⟩:=rx;exact rule i t s _ _ ⟨.int (g i),H,I.tok _,⟨_,rfl⟩,q⟩
theorem tJ:HW X (unaryOp .USub) (rU λi=>.int (-i)):=aaR λ_ _ _ _ _ q=>neg_int q
end
noncomputable def Hj:V->V->Bool
 | .non,.non=>true| .non,.int _=>true| .int _,.non=>true| .non,.bl _=>true| .bl _,.non=>true| .non,.str _=>true| .str _,.non=>true
 | .int _,.int _=>true| .bl _,.bl _=>true| .str _,.str _=>true| .byt _,.byt _=>true
 | .int _,.str _=>true| .str _,.int _=>true| .bl _,.str _=>true| .str _,.bl _=>true
 |_,_=>false
noncomputable def rEq:R2:=λx y H Q=>Hj x y=true/\Q (.bl (decide (x=y))) H
noncomputable def rNe:R2:=λx y H Q=>Hj x y=true/\Q (.bl (!decide (x=y))) H
theorem vM {i j:Int}:decide (V.int i=V.int j)=(i==j):=by
 rw[FJ];simp
theorem yQ {i j:Bool}:decide (V.bl i=V.bl j)=(i==j):=by
 rw[FJ];simp
theorem uV {i j:Str}:decide (V.str i=V.str j)=(i==j):=by
 rw[FJ];simp
theorem vL {i j:Array UInt8}:decide (V.byt i=V.byt j)=(i.toList==j.toList):=by
 rw[FJ]
 cases i
 cases j
 simp
variable {Q:VK}
section
variable {X:Cx}{a b c:Expr}{ta tb tc:TE}{pos:Pos}
theorem bu {k k':Bool}(I:Inv X pins σ H s)(q:Q (.bl k) H)(e:k=k'):EP X pins σ Q (.bool k') s:=by
 subst e;exact⟨.bl k,H,I,rfl,q⟩
theorem dU:eT X (compareOp .Eq) rEq:=by
 intro pins s σ H x y v u Q I rx ry h;obtain⟨hs,q⟩:=h
 cases x with
 |non =>
  cases rx
  cases y with
  |non=>cases ry;exact PySem.EqNone.eq_none_none (bu I q (by simp))
  |bl j=>cases ry;exact PySem.EqNone.eq_none_bool (bu I q (by simp))
  |int j=>obtain⟨t',rfl⟩:=ry;exact PySem.EqNone.eq_none_int (bu I q (by simp))
  |str j=>obtain⟨t',rfl⟩:=ry;exact PySem.EqNone.eq_none_str (bu I q (by simp))
  |_=>exact absurd (show false=true from hs) E7
 |bl i =>
  cases rx
  cases y with
  |non=>cases ry;exact PySem.EqNone.eq_bool_none (bu I q (by simp))
  |bl j=>cases ry;exact eq_bool (bu I q yQ)
  |str j=>obtain⟨t',rfl⟩:=ry;exact PySem.EqMixed.eq_bool_str (bu I q (by simp))
  |_=>exact absurd (show false=true from hs) E7
 |int i =>
  obtain⟨t,rfl⟩:=rx
  cases y with
  |non=>cases ry;exact PySem.EqNone.eq_int_none (bu I q (by simp))
  |int j=>obtain⟨t',rfl⟩:=ry;exact eq_int (bu I q vM)
  |str j=>obtain⟨t',rfl⟩:=ry;exact PySem.EqMixed.eq_int_str (bu I q (by simp))
  |_=>exact absurd (show false=true from hs) E7
 |str i =>
  obtain⟨t,rfl⟩:=rx
  cases y with
  |non=>cases ry;exact PySem.EqNone.eq_str_none (bu I q (by simp))
  |bl j=>cases ry;exact PySem.EqMixed.eq_str_bool (bu I q (by simp))
  |int j=>obtain⟨t',rfl⟩:=ry;exact PySem.EqMixed.eq_str_int (bu I q (by simp))
  |str j=>obtain⟨t',rfl⟩:=ry;exact eq_str (bu I q uV)
  |_=>exact absurd (show false=true from hs) E7
 |byt i =>
  obtain⟨t,rfl⟩:=rx
  cases y with
  |byt j=>obtain⟨t',rfl⟩:=ry;exact PySem.W.eq_bytes (bu I q vL)
  |_=>exact absurd (show false=true from hs) E7
 |_=>cases y <;> exact absurd (show false=true from hs) E7
theorem nN:eT X (compareOp .NotEq) rNe:=by
 intro pins s σ H x y v u Q I rx ry h;obtain⟨hs,q⟩:=h
 cases x with
 |non =>
  cases rx
  cases y with
  |non=>cases ry;exact PySem.EqNone.ne_none_none (bu I q (by simp))
  |bl j=>cases ry;exact PySem.EqNone.ne_none_bool (bu I q (by simp))
  |int j=>obtain⟨t',rfl⟩:=ry;exact PySem.EqNone.ne_none_int (bu I q (by simp))
  |str j=>obtain⟨t',rfl⟩:=ry;exact PySem.EqNone.ne_none_str (bu I q (by simp))
  |_=>exact absurd (show false=true from hs) E7
 |bl i =>
  cases rx
  cases y with
  |non=>cases ry;exact PySem.EqNone.ne_bool_none (bu I q (by simp))
  |bl j=>cases ry;exact ne_bool (bu I q (Ec not yQ))
  |str j=>obtain⟨t',rfl⟩:=ry;exact PySem.EqMixed.ne_bool_str (bu I q (by simp))
  |_=>exact absurd (show false=true from hs) E7
 |int i =>
  obtain⟨t,rfl⟩:=rx
  cases y with
  |non=>cases ry;exact PySem.EqNone.ne_int_none (bu I q (by simp))
  |int j=>obtain⟨t',rfl⟩:=ry;exact ne_int (bu I q (Ec not vM))
  |str j=>obtain⟨t',rfl⟩:=ry;exact PySem.EqMixed.ne_int_str (bu I q (by simp))
  |_=>exact absurd (show false=true from hs) E7
 |str i =>
  obtain⟨t,rfl⟩:=rx
  cases y with
  |non=>cases ry;exact PySem.EqNone.ne_str_none (bu I q (by simp))
  |bl j=>cases ry;exact PySem.EqMixed.ne_str_bool (bu I q (by simp))
  |int j=>obtain⟨t',rfl⟩:=ry;exact PySem.EqMixed.ne_str_int (bu I q (by simp))
  |str j=>obtain⟨t',rfl⟩:=ry;exact ne_str (bu I q (Ec not uV))
  |_=>exact absurd (show false=true from hs) E7
 |byt i =>
  obtain⟨t,rfl⟩:=rx
  cases y with
  |byt j=>obtain⟨t',rfl⟩:=ry;exact PySem.W.ne_bytes (bu I q (Ec not vL))
  |_=>exact absurd (show false=true from hs) E7
 |_=>cases y <;> exact absurd (show false=true from hs) E7
theorem iJ:eT X (compareOp .Lt) (AK λi j=>.bl (decide (i<j))):=Cj λ_ _ _ _ _ _ _ q=>lt_int q
theorem vJ:eT X (compareOp .LtE) (AK λi j=>.bl (decide (i<=j))):=Cj λ_ _ _ _ _ _ _ q=>le_int q
theorem zv:eT X (compareOp .Gt) (AK λi j=>.bl (decide (j<i))):=Cj λ_ _ _ _ _ _ _ q=>gt_int q
theorem Dz:eT X (compareOp .GtE) (AK λi j=>.bl (decide (j<=i))):=Cj λ_ _ _ _ _ _ _ q=>ge_int q
theorem afx:eT X (compareOp .Is) (λx y H Q=>y=.non/\Q (.bl (decide (x=.non))) H):=by
 intro pins s σ H x y v u Q I rx ry h;obtain⟨rfl,q⟩:=h
 cases ry
 refine is_none_gen (bu I q ?_)
 cases x <;> first
  |(cases rx;rfl)
  |(obtain⟨t,rfl⟩:=rx;rfl)
theorem aM (b:Expr)(h:op ≠ .In:=by decide)(h2:op ≠ .NotIn:=by decide):behindInMarks op b=false:=by
 have e1:(op==CmpOp.In)=false:=by cases op <;> first|rfl|exact absurd rfl h
 have e2:(op==CmpOp.NotIn)=false:=by cases op <;> first|rfl|exact absurd rfl h2
 cases b <;> simp[behindInMarks,e1,e2]
theorem cN {r:R2}(ho:eT X (compareOp op) r)(ha:PE X a ta)(hb:PE X b tb)(hm:behindInMarks op b=false):PE X (.Compare a [op] [b] pos) (oq r ta tb):=by
 intro pins s σ H Q I h;exact wpAny_Compare1 (Fb ha hb I h λv u s2 x y H2 I2 rx ry q=>ho pins s2 σ H2 x y v u Q I2 rx ry q) hm
noncomputable def Dp (t:TE):TT:=λσ H Q=>t σ H λx H'=>∃k,x=.bl k/\Q k H'
theorem aS {r:R2}(ho:eT X (compareOp op) r)(ha:PE X a ta)(hb:PE X b tb)(hm:behindInMarks op b=false):PT X (.Compare a [op] [b] pos) (Dp (oq r ta tb)):=by
 intro pins s σ H Q I h
 refine wpAny_isTrue_Compare1 (cx (ha pins s σ H _ I h) λv s1 ⟨x,H1,I1,r1,q1⟩=>cx (hb pins s1 σ H1 _ I1 q1) λu s2 ⟨y,H2,I2,r2,q2⟩ =>
  cx (ho pins s2 σ H2 x y v u _ I2 r1 r2 q2) λc s3 ⟨z,H3,I3,r3,k,e,q3⟩=>?_) hm
 subst e
 cases r3
 exact jR ⟨H3,I3,q3⟩
noncomputable def afG (r r':R2)(ta tb tc:TE):TE:=λσ H Q=>ta σ H λx H1=>tb σ H1 λy H2=>r x y H2 λz H3=>∃k,z=.bl k /\
 (if k=true then tc σ H3 λw' H4=>r' y w' H4 Q else Q (.bl false) H3)
theorem mh {UB:CmpOp}{r r':R2}(ho:eT X (compareOp op) r)(J6:eT X (compareOp UB) r')(ha:PE X a ta)(hb:PE X b tb)(hc:PE X c tc)
 (hm:lastMarks [op,UB] [b,c]=false:=by with_unfolding_all rfl):PE X (.Compare a [op,UB] [b,c] pos) (afG r r' ta tb tc):=by
 intro pins s σ H Q I h
 refine Compare_chain (cx (ha pins s σ H _ I h) λv s1 ⟨x,H1,I1,r1,q1⟩=>chain_link (cx (hb pins s1 σ H1 _ I1 q1) λu s2 ⟨y,H2,I2,r2,q2⟩ =>
  cx (ho pins s2 σ H2 x y v u _ I2 r1 r2 q2) λd s3 ⟨z,H3,I3,r3,k,e,q3⟩=>?_)) hm
 subst e
 cases r3
 refine jR ?_
 cases k with
 |false=>exact ite_ff ⟨.bl false,H3,I3,rfl,q3⟩
 |true=>exact ite_tt (chain_last (cx (hc pins s3 σ H3 _ I3 q3) λw' s4 ⟨z',H4,I4,r4,q4⟩=>J6 pins s4 σ H4 y z' u w' Q I4 r2 r4 q4))
noncomputable def DS (K:PySem.W.Frag)(x:V)(H:Hp)(k:Bool):Prop :=
 match x with
 | .non=>k=false
 | .bl b=>k=b
 | .int i=>k=(i != 0)
 | .str y=>y.length<=sizeLine/\k=((y.length:Int) != 0)
 | .byt y=>y.size<=sizeLine/\k=((y.size:Int) != 0)
 | .ref p=>(∃xs,a8 K H p xs/\k = !xs.isEmpty)\/(∃xs,bq K H p xs/\k = !xs.isEmpty)\/∃Jf,H p=some (.dK Jf)/\k = !Jf.isEmpty
 |_=>False
theorem aaD {κ:Type}{Jf:List (κ×V)}{vs:List (κ×Value)}(r:KV Jf vs):(!vs.isEmpty) = !Jf.isEmpty:=by
 cases r <;> rfl
theorem lJ {xs:List V}{its:HF}(r:aN xs its):(!its.toArray.isEmpty) = !xs.isEmpty:=by
 cases r <;> simp
theorem kF:(sizeLine:Nat)<2^63:=by rw[Fq];decide
theorem abk:afL X (λx H Q=>∃k,DS X.K x H k/\Q k H):=by
 intro pins s σ H x v Q I rx h;obtain⟨k,e,q⟩:=h;have hl:=kF;have hs:sizeLine=16777216:=Fq
 cases x with
 |non =>
  cases rx
  have e':k=false:=e;subst e';exact truthy_none ⟨H,I,q⟩
 |bl b =>
  cases rx
  have e':k=b:=e;subst e';exact jR ⟨H,I,q⟩
 |int i =>
  obtain⟨t,rfl⟩:=rx;have e':k=(i != 0):=e;subst e';exact PySem.P.truthy_int ⟨H,I,q⟩
 |str y =>
  obtain⟨t,rfl⟩:=rx;obtain⟨hy,e'⟩:y.length<=sizeLine/\k=((y.length:Int) != 0):=e;subst e';exact PySem.P.truthy_str (by omega) ⟨H,I.tok _,q⟩
 |byt y =>
  obtain⟨t,rfl⟩:=rx;obtain⟨hy,e'⟩:y.size<=sizeLine/\k=((y.size:Int) != 0):=e;subst e';exact PySem.W.truthy_bytes (by omega) ⟨H,I.tok _,q⟩
 |ref p =>
  cases rx
  have e':(∃xs,a8 X.K H p xs/\k = !xs.isEmpty)\/(∃xs,bq X.K H p xs/\k = !xs.isEmpty)\/∃Jf,H p=some (.dK Jf)/\k = !Jf.isEmpty:=e
  rcases e' with⟨xs,hx,e'⟩|⟨xs,hx,e'⟩|⟨Jf,hx,e'⟩
  ·subst e';obtain⟨its,r,pl,hz⟩:=I.list hx;have hlen:=r.length;exact wpAny_truthy_list pl.isList (by simp only[Jc];omega) ⟨H,I.tok _,by rw[lJ r];exact q⟩
  ·subst e';obtain⟨its,r,pl,hz⟩:=I.tuple hx;have hlen:=r.length;exact truthy_tuple pl (by simp only[Jc];omega) ⟨H,I.tok _,by rw[lJ r];exact q⟩
  ·subst e';obtain⟨hz,hS,vs,r,m⟩:Jf.length<=sizeLine/\(p==sysModules)=false/\∃vs,KV Jf vs/\s.heap.DictOf (cE X.prog X.w) p vs:=I.hok p _ hx;have hlen:Jf.length=vs.length:=BI r;exact wpAny_truthy_dict hS m (by omega) ⟨H,I.tok _,by rw[aaD r];exact q⟩
 |_=>exact(show False from e).elim
theorem iY (ha:PE X a ta)(he:∀dq,isTrue a X.env dq=(do let v <-dq;standAt a.pos;holding [v] (truthy v))):
 PT X a (λσ H Q=>ta σ H λx H'=>∃k,DS X.K x H' k/\Q k H'):=by
 intro pins s σ H Q I h;exact isTrue_plain (cx (ha pins s σ H _ I h) λv s1 ⟨x,H1,I1,r1,q1⟩=>abk pins s1 σ H1 x v Q I1 r1 q1) (he _)
theorem fG {x:V}(r:aN [x] us):∃u,us=[u]/\aL x u:=by
 cases r with
 |cons r1 r2=>cases r2;exact⟨_,rfl,r1⟩
theorem yI {x:V}(r:aN [x,y] us):∃u w',us=[u,w']/\aL x u/\aL y w':=by
 cases r with
 |cons r1 r2 =>
  cases r2 with
  |cons r3 r4=>cases r4;exact⟨_,_,rfl,r1,r3⟩
theorem iS:eW X (.builtin "abs") (λxs H Q=>∃i,xs=[.int i]/\Q (.int (if i<0 then -i else i)) H):=by
 intro pins s σ H xs us Q I r h;obtain⟨i,rfl,q⟩:=h;obtain⟨u,rfl,t,rfl⟩:=fG r;exact call_abs_int λu tk=>⟨.int (if i<0 then -i else i),H,I.tok _,⟨_,rfl⟩,q⟩
theorem aaL (hc:X.calm=true):eW X (.builtin "max") (λxs H Q=>∃i j,xs=[.int i,.int j]/\Q (.int (if j>i then j else i)) H):=by
 intro pins s σ H xs us Q I r h;obtain⟨i,j,rfl,q⟩:=h;obtain⟨u,w',rfl,⟨t,rfl⟩,⟨t',rfl⟩⟩:=yI r;refine max_two_ints (I.ok.hd hc) λh' tk k=>⟨_,H,I.kept k,?_,q⟩
 by_cases hj:j>i
 ·rw[qk hj,qk hj];exact⟨_,rfl⟩
 ·rw[IX hj,IX hj];exact⟨_,rfl⟩
theorem afJ (hc:X.calm=true):eW X (.builtin "min") (λxs H Q=>∃i j,xs=[.int i,.int j]/\Q (.int (if j<i then j else i)) H):=by
 intro pins s σ H xs us Q I r h;obtain⟨i,j,rfl,q⟩:=h;obtain⟨u,w',rfl,⟨t,rfl⟩,⟨t',rfl⟩⟩:=yI r;refine min_two_ints (I.ok.hd hc) λh' tk k=>⟨_,H,I.kept k,?_,q⟩
 by_cases hj:j<i
 ·rw[qk hj,qk hj];exact⟨_,rfl⟩
 ·rw[IX hj,IX hj];exact⟨_,rfl⟩
theorem afM:eW X (.type "int") (λxs H Q=>(∃i,xs=[.int i]/\Q (.int i) H)\/∃k,xs=[.bl k]/\Q (.int (if k then 1 else 0)) H):=by
 intro pins s σ H xs us Q I r h
 rcases h with⟨i,rfl,q⟩|⟨k,rfl,q⟩
 ·obtain⟨u,rfl,t,rfl⟩:=fG r;exact call_int_int ⟨.int i,H,I,⟨_,rfl⟩,q⟩
 ·obtain⟨u,rfl,r1⟩:=fG r
  cases r1
  exact call_int_bool ⟨.int (if k then 1 else 0),H,I.tok _,⟨_,rfl⟩,q⟩
end
structure NI (h:Heap)(x dx C:Addr)(mA:Cw):Prop where
 obj:h.get? x=some (PySem.W.instObj C dx)
 ns:h.Ns1 dx mA
 ne:dx≠x
theorem aaH {dx:Addr}{mA:Cw}(n:h.Ns1 dx mA):∃od,h.get? dx=some od/\∀name,PySem.W.lookIn name od=some (mA name):=by
 obtain⟨o,es,ep,ho,hd,hk,_,hm⟩:=n;refine⟨o,ho,λname=>?_⟩;have e:=hm name;unfold nsFind findBy at e;rw[<-Array.find?_toList] at e;unfold PySem.W.lookIn;rw[hd];dsimp only
 split
 ·rename_i y q
  rw[q] at e;exact Ec some e
 ·rename_i q
  rw[q] at e
  have a:es.toList.any (·.refKey)=false:=by
   rw[List.any_eq_false];intro y hy;obtain⟨z,t,UC⟩:=hk y (Array.mem_toList_iff.mp hy);simp[DictEntry.refKey,UC]
  have a':¬es.toList.any (·.refKey)=true:=by rw[a];exact E7
  rw[IX a'];exact Ec some e
variable {C:Addr}
theorem NI.look {x dx:Addr}{mA:Cw}(I:NI h x dx C mA):∃od,PySem.W.InstAt h x (PySem.W.instObj C dx) C (some od)/\∀name,PySem.W.lookIn name od=some (mA name):=
 let⟨od,ho,hl⟩:=aaH I.ns
 ⟨od,⟨I.obj,rfl,rfl,ho⟩,hl⟩
variable {pl:Sem Bool}{kw:List (Str×Value)}
section
variable {prog:xq}{w:World}{A:Around}{E:AU}{s:pL}{K:PySem.W.Frag}{x dx C f:Addr}{mA:Cw}{name:Str}{v:Value}
theorem aaP {expr:Bool}{Q:AU}(X:K.In s.heap)(I:NI s.heap x dx C mA)(hg:PySem.W.plainGet K C name=true)(hh:PySem.W.hasDictIn K C=true)
 (ha:PySem.W.findIn K (.ref C) name=some none)(hv:mA name=some v)(hv':PySem.W.handedIn v=true)(h:Q v {s with toks:=s.toks+1}):
 wpAny (model prog w) A (getAttr (.ref x) name expr) Q E s:=by
 obtain⟨od,J,hl⟩:=I.look;exact PySem.W.get_value X J (wX hg).1 (PySem.W.findObj_own hh ha rfl (by rw[hl,hv])) hv' h
theorem aaN {Q:Value×List Value->Shared->Prop}(X:K.In s.heap)(I:NI s.heap x dx C mA)(hg:PySem.W.plainGet K C name=true)
 (hf:PySem.W.findIn K (.ref C) name=some (some (.ref f)))(ht:PySem.W.isFn K (.ref f)=true)(hv:mA name=none)(h:Q (.ref f,[.ref x]) s):
 wpAny (model prog w) A (getMethod (.ref x) name pl) Q E s:=by
 obtain⟨od,J,hl⟩:=I.look;exact PySem.W.method_fn X J (wX hg).1 (wX hg).2 hf (Fz.mp ht) (by show(PySem.W.lookIn name od).map (·.isSome)=some false;rw[hl,hv];rfl) h
theorem aaO {ns:F3}{Q:Unit->Shared->Prop}(X:K.In s.heap)(I:NI s.heap x dx C mA)
 (hs:PySem.W.findIn K (.ref C) "__setattr__"=some (some (.builtin "object.__setattr__")))(hp:PySem.W.plainOver K C=true)(ht:PySem.W.takerIn K C name=some none)(hh:PySem.W.hasDictIn K C=true)
 (hw:PySem.Within mA ns)(hsz:ns.length<=sizeLine)
 (h:∀h',NI h' x dx C (λy=>if y=name then some v else mA y)->Heap.SameBut dx s.heap h'->Q () {s with heap:=h',toks:=s.toks+2}):
 wpAny (model prog w) A (setAttr (.ref x) name v) Q E s:=by
 obtain⟨od,J,hl⟩:=I.look;refine PySem.W.set_plain X J hs (PySem.W.osa_open (s:={s with toks:=s.toks+1}) (r:=none) X J hp ht λb=>?_);obtain⟨cd,hc,Uu⟩:=PySem.W.any_some hh;have hx:s.heap.get? x=some ⟨.ref C,some dx,.plain,#[]⟩:=I.obj;refine IW (Fc (IW (IW (wpAny_loadPart hx (IW (PySem.W.Looks.here (s:={s with toks:=s.toks+1}) (PySem.W.looks_clsIn X hc) ?_))))));rw[Uu];refine Fc (a:=some dx) (IW (Fc (IW ?_)));refine wpAny_nsSet1 (s:={s with toks:=s.toks+1}) I.ns λh' Oz OA=>?_;obtain⟨oD,esD,epD,hoD,hdD,LZ⟩:=Oz.count (PySem.Within.cons name v hw);refine IW (wpAny_lookBehind hoD (by rw[hdD];exact pastItsLine_dict (Ig LZ (by rw[sR];omega))) ?_);exact Fc (h _ ⟨(OA.2 _ (Bt I.ne)).trans I.obj,Oz,I.ne⟩ OA)
theorem aa0 {R:Result->Shared->Prop}{vs:HF}(X:K.In s.heap)(hm:PySem.W.makesIn K C=true)
 (hi:PySem.W.findIn K (.ref C) "__init__"=some (some (.ref f)))(hf:PySem.W.typeIn K (.ref f)=some (.type "function"))
 (h:codeAny (model prog w) (A.under (.builtin "type.__call__" ⟨.ref C::vs,kw⟩)) (.call (.ref f) ⟨.ref (s.heap.objs.size+1):: vs,kw⟩) (PySem.W.InitBack (s.heap.objs.size+1) R)
  {s with heap:=(s.heap.push PySem.W.emptyDict).push (PySem.W.instObj C s.heap.objs.size)}):
 codeAny (model prog w) A (.call (.ref C) ⟨vs,kw⟩) R s:=by
 obtain⟨hh,g,d,t,os⟩:=s;exact PySem.W.make_core (PySem.W.makes_of X hm) (PySem.W.looks_findIn X hi) (λself=>PySem.W.bind_fn X self hf) (.inl rfl) h
end
noncomputable def dR (f:Str)(v:V):List (Str×V)->List (Str×V)
 |[]=>[(f,v)]
 |(g,x):: r=>if g=f then(g,v):: r else(g,x):: dR f v r
theorem jK (f g:Str)(v:V):∀fs:List (Str×V),(dR f v fs).lookup g=if g=f then some v else fs.lookup g
 |[]=>by
  show List.lookup g [(f,v)]=_
  by_cases h:g=f
  ·have hb:(g==f)=true:=Fz.mpr h;simp only[List.lookup,hb,qk h]
  ·have hb:(g==f)=false:=Ex.mpr h;simp only[List.lookup,hb,IX h]
 |(k,x):: r=>by
  have ih:=jK f g v r;rw[show dR f v ((k,x):: r)=(if k=f then(k,v):: r else(k,x):: dR f v r) from rfl]
  by_cases hk:k=f
  ·rw[qk hk]
   by_cases h:g=k
   ·have hb:(g==k)=true:=Fz.mpr h;simp only[List.lookup,hb,qk (h.trans hk)]
   ·have hb:(g==k)=false:=Ex.mpr h;simp only[List.lookup,hb,IX (λe:g=f=>h (e.trans hk.symm))]
  ·rw[IX hk]
   by_cases h:g=k
   ·have hb:(g==k)=true:=Fz.mpr h;simp only[List.lookup,hb,IX (λe:g=f=>hk (h.symm.trans e))]
   ·have hb:(g==k)=false:=Ex.mpr h;simp only[List.lookup,hb];exact ih
theorem jv (f:Str)(v:V):∀fs:List (Str×V),f∈(dR f v fs).map (·.1)/\∀g,g∈fs.map (·.1)->g∈(dR f v fs).map (·.1)
 |[]=>⟨by simp[dR],λg h=>by simp at h⟩
 |(k,x):: r=>by
  obtain⟨i1,i2⟩:=jv f v r;rw[show dR f v ((k,x):: r)=(if k=f then(k,v):: r else(k,x):: dR f v r) from rfl]
  by_cases hk:k=f
  ·rw[qk hk];subst hk;exact⟨by simp,λg h=>by simpa using h⟩
  ·rw[IX hk];refine⟨?_,λg h=>?_⟩
   ·rw[IZ];exact rB _ i1
   ·rw[IZ] at h |-
    rcases HK.mp h with e|e
    ·exact HK.mpr (.inl e)
    ·exact rB _ (i2 g e)
theorem jD (f:Str)(v:V):∀fs:List (Str×V),(dR f v fs).length<=fs.length+1
 |[]=>by simp[dR]
 |(k,x):: r=>by
  have ih:=jD f v r;rw[show dR f v ((k,x):: r)=(if k=f then(k,v):: r else(k,x):: dR f v r) from rfl]
  by_cases hk:k=f
  ·rw[qk hk,sR,sR];omega
  ·rw[IX hk,sR,sR];omega
theorem gU.some_of {v:V}{o:Option Value}(r:gU (some v) o):∃u,o=some u/\aL v u:=by
 cases o with
 |none=>exact(show False from r).elim
 |some u=>exact⟨u,rfl,r⟩
theorem gU.none_of {o:Option Value}(r:gU none o):o=none:=by
 cases o with
 |none=>rfl
 |some u=>exact(show False from r).elim
theorem aaW {v:V}(r:aL v u):PySem.W.handedIn u=true:=by
 cases v with
 |non=>cases(show u=Value.none from r);rfl
 |bl b=>cases(show u=Value.bool b from r);rfl
 |int i=>obtain⟨t,e⟩:=(show ∃t,u=Value.int i t from r);cases e;rfl
 |str x=>obtain⟨t,e⟩:=(show ∃t,u=Value.str x t from r);cases e;rfl
 |byt b=>obtain⟨t,e⟩:=(show ∃t,u=Value.bytes b t from r);cases e;rfl
 |flt b=>obtain⟨t,e⟩:=(show ∃t,u=Value.float b t from r);cases e;rfl
 |ref a=>cases(show u=Value.ref a from r);rfl
 |ty n=>cases(show u=Value.type n from r);rfl
section
variable {P:xq}{w:World}{H H':Hp}{h h':Heap}{a C dx:Addr}{fs fs':List (Str×V)}
theorem fT (hok:gk P w H h)(e:H a=some (.ins C dx fs)):∃mA,NI h a dx C mA/\(∀f,gU (fs.lookup f) (mA f))/\PySem.Within mA (fs.map (·.1))/\fs.length<=1000/\H dx=some (.own a):=by
 obtain⟨d,z,ne,ob,mA,n,r,q⟩:=(show bJ P w H h a (.ins C dx fs) from hok a _ e);exact⟨mA,⟨ob,n,ne⟩,r,q,z,d⟩
end
structure kJ (K:PySem.W.Frag)(C:Addr):Prop where
 pg:PySem.W.plainGet K C Str.empty=true
 hd:PySem.W.hasDictIn K C=true
 po:PySem.W.plainOver K C=true
 sa:PySem.W.findIn K (.ref C) "__setattr__"=some (some (.builtin "object.__setattr__"))
theorem kJ.get (c:kJ K C)(f:Str):PySem.W.plainGet K C f=true:=c.pg
noncomputable def eF (K:PySem.W.Frag)(C:Addr)(f:Str):Prop:=PySem.W.findIn K (.ref C) f=some none
theorem eF.aj0 {f:Str}(n:eF K C f):PySem.W.takerIn K C f=some none:=by
 unfold PySem.W.takerIn;rw[show PySem.W.findIn K (.ref C) f=some none from n];rfl
structure Meth (K:PySem.W.Frag)(C:Addr)(m:Str)(f:Addr):Prop where
 at_:PySem.W.findIn K (.ref C) m=some (some (.ref f))
 fn:PySem.W.isFn K (.ref f)=true
 kp:PySem.W.keepIn K (.ref f)=true
section
variable {X:Cx}{pins:List (Addr×Obj)}{σ:St}{H:Hp}{s:pL}{a C dx:Addr}{fs:List (Str×V)}{f:Str}{v:V}{A:Around}{E:AU}
theorem aaX {b:Bool}{Q:AU}(I:Inv X pins σ H s)(e:H a=some (.ins C dx fs))(c:kJ X.K C)(n:eF X.K C f)(l:fs.lookup f=some v)
 (h:∀u s',Inv X pins σ H s'->aL v u->Q u s'):wpAny (model X.prog X.w) A (getAttr (.ref a) f b) Q E s:=by
 obtain⟨mA,O,r,_,_,_⟩:=fT I.hok e;obtain⟨u,hu,ru⟩:=gU.some_of (v:=v) (o:=mA f) (by rw[<-l];exact r f);exact aaP I.kIn O (c.get f) c.hd n hu (aaW ru) (h u _ (I.tok _) ru)
theorem ke {m:Str}{g:Addr}{Q:Value×List Value->Shared->Prop}(I:Inv X pins σ H s)(e:H a=some (.ins C dx fs))(c:kJ X.K C)(k:Meth X.K C m g)(l:fs.lookup m=none)
 (h:Q (.ref g,[.ref a]) s):wpAny (model X.prog X.w) A (getMethod (.ref a) m pl) Q E s:=by
 obtain⟨mA,O,r,_,_,_⟩:=fT I.hok e;have hn:mA m=none:=gU.none_of (by rw[<-l];exact r m);exact aaN I.kIn O (c.get m) k.at_ k.fn hn h
theorem aa5 {Q:Unit->Shared->Prop}(I:Inv X pins σ H s)(e:H a=some (.ins C dx fs))(c:kJ X.K C)(n:eF X.K C f)(hl:fs.length<1000)(ry:aL y u)
 (h:∀s',Inv X pins σ (upd H a (.ins C dx (dR f y fs))) s'->Q () s'):wpAny (model X.prog X.w) A (setAttr (.ref a) f u) Q E s:=by
 obtain⟨mA,O,r,wi,_,ho⟩:=fT I.hok e
 have hz:(fs.map (·.1)).length<=sizeLine:=by rw[EZ,Fq];omega
 refine aaO I.kIn O c.sa c.po n.aj0 c.hd wi hz λh' O' sb=>h _ ?_;have hd:∃o,h'.get? dx=some o:=let⟨o,_,_,e',_⟩:=O'.ns;⟨o,e'⟩;refine I.write (x:=a) (e:=dx) (by rw[e];exact True.intro) (.inr ho) (λb q hb z=>(sb.2 b hb).trans z) hd ?_;refine⟨by rw[aA O.ne];exact ho,?_,O.ne,O'.obj,_,O'.ns,λg=>?_,λg hg=>?_⟩
 ·have:=jD f y fs;omega
 ·show gU ((dR f y fs).lookup g) (if g=f then some u else mA g);rw[jK]
  by_cases q:g=f
  ·rw[qk q,qk q];exact ry
  ·rw[IX q,IX q];exact r g
 ·by_cases q:g=f
  ·rw[q];exact(jv f y fs).1
  ·refine(jv f y fs).2 g (wi g λz=>hg ?_);show(if g=f then some u else mA g)=none;rw[IX q];exact z
theorem Inv.made (I:Inv X pins σ H s):Inv X pins σ (upd (upd H s.heap.objs.size (.own (s.heap.objs.size+1))) (s.heap.objs.size+1) (.ins C s.heap.objs.size []))
 {s with heap:=(s.heap.push PySem.W.emptyDict).push (PySem.W.instObj C s.heap.objs.size)}:=by
 have e1:(s.heap.push PySem.W.emptyDict).get? s.heap.objs.size=some PySem.W.emptyDict:=Fg s.heap rfl
 have e2:((s.heap.push PySem.W.emptyDict).push (PySem.W.instObj C s.heap.objs.size)).get? (s.heap.objs.size+1)=some (PySem.W.instObj C s.heap.objs.size):=by
  have:=Fg (s.heap.push PySem.W.emptyDict) (o:=PySem.W.instObj C s.heap.objs.size) rfl;rwa[B5] at this
 have e3:(s.heap.push PySem.W.emptyDict).Ns s.heap.objs.size (λ_=>none):=⟨PySem.W.emptyDict,#[],_,e1,rfl,(λe he=>absurd he (by simp)),λ_=>rfl⟩;have I1:=I.laid (a:=s.heap.objs.size) (o:=.own (s.heap.objs.size+1)) (h':=s.heap.push PySem.W.emptyDict) (t':=s.toks) (λb u q=>Ez _ q) (yH _) ⟨_,e1⟩;refine I1.laid (a:=s.heap.objs.size+1) (o:=.ins C s.heap.objs.size []) (t':=s.toks) (λb u q=>Ez _ q) (Nat.le_of_eq (B5 _ _)) ?_;have ne:s.heap.objs.size≠s.heap.objs.size+1:=IB (Fd _);refine⟨by rw[aA ne,aj],Gy _,ne,e2,λ_=>none,(Heap.Ns1.of_empty e3).at λo q=>Ez _ q,λ_=>True.intro,λy hy=>absurd rfl hy⟩
theorem abe {prog:xq}{env:Env}{f:Str}{s:pL}{Q:AU}(hb:attributeBase e f env (eval e env)=eval e env)
 (h:wpAny (model prog w) A (eval e env) (λo s₁=>wpAny (model prog w) A (getAttr o f true) Q E s₁) E s):wpAny (model prog w) A (eval (.Attribute e f pos) env) Q E s :=
 Attribute_any_ h (by rw[arm_eval_Attribute,hb])
end
noncomputable def Gx (K:PySem.W.Frag)(ta:TE)(f:Str):TE:=λσ H Q=>ta σ H λx H1=>∃a C dx fs v,x=.ref a/\H1 a=some (.ins C dx fs)/\kJ K C/\eF K C f/\fs.lookup f=some v/\Q v H1
noncomputable def afB (K:PySem.W.Frag)(ta tv:TE)(f:Str):TS:=λD σ H=>tv σ H λy H1=>ta σ H1 λx H2=>∃a C dx fs,x=.ref a/\H2 a=some (.ins C dx fs)/\kJ K C/\eF K C f/\fs.length<1000 /\
 D.nx σ (upd H2 a (.ins C dx (dR f y fs)))
section
variable {X:Cx}{o e value:Expr}{f:Str}{pos pos' UD:Pos}{ta tv:TE}
theorem bh (he:PE X e ta)(hb:attributeBase e f X.env (eval e X.env)=eval e X.env):PE X (.Attribute e f pos) (Gx X.K ta f):=by
 intro pins s σ H Q I h;refine abe hb (cx (he pins s σ H _ I h) λu s1 z'=>?_);obtain⟨x,H1,I1,rx,a,C,dx,fs,v,ex,ea,c,n,l,q⟩:=z';subst ex;obtain rfl:u=Value.ref a:=rx;exact aaX I1 ea c n l λu' s2 I2 ru=>⟨v,H1,I2,ru,q⟩
theorem oR (ha:PE X o ta)(hv:PE X value tv)(hs:swapsWith value (some (.Attribute o f pos')) pos.line X.env=pure false):PS X (.Assign [.Attribute o f pos'] value pos) (afB X.K ta tv f):=by
 intro pins s σ H D I h;refine plainObj_wpAny_Assign_Attribute (cx (hv pins s σ H _ I h) λu s1 ⟨y,H1,I1,ry,q⟩=>cx (ha pins s1 σ H1 _ I1 q) λov s2 z'=>?_) hs;obtain⟨x,H2,I2,rx,a,C,dx,fs,ex,ea,c,n,l,q2⟩:=z';subst ex;obtain rfl:ov=Value.ref a:=rx;exact aa5 I2 ea c n l ry λs3 I3=>⟨σ,_,I3,q2⟩
end
section
variable {X:Cx}{pins:List (Addr×Obj)}{σ:St}{H:Hp}{s:pL}{A:Around}{E:AU}{Q:AU}{c:Value}{b:Bool}
inductive Cv (K:PySem.W.Frag)(H:Hp):V->Value->Prop where
 |non:Cv K H .non (.type "NoneType")
 |bl (x:Bool):Cv K H (.bl x) (.type "bool")
 |int (i:Int):Cv K H (.int i) (.type "int")
 |str (x:Str):Cv K H (.str x) (.type "str")
 |flt (x:UInt64):Cv K H (.flt x) (.type "float")
 |lst {a:Addr}{xs:List V}(e:H a=some (.lst xs)):Cv K H (.ref a) (.type "list")
 |frz {a:Addr}{o:Obj}{xs:List V}(e:H a=some (.frz o (.lst xs))):Cv K H (.ref a) (.type "list")
 |tup {a:Addr}{xs:List V}(e:H a=some (.tup xs)):Cv K H (.ref a) (.type "tuple")
 |dK {a:Addr}{Jf:List (Key×V)}(e:H a=some (.dK Jf)):Cv K H (.ref a) (.type "dict")
 |dT {a:Addr}{Jf:List (List Key×V)}(e:H a=some (.dT Jf)):Cv K H (.ref a) (.type "dict")
 |ins {a C dx:Addr}{fs:List (Str×V)}(e:H a=some (.ins C dx fs))(cl:kJ K C)(ha:PySem.W.findIn K (.ref C) "__class__"=some (some (.builtin "object.__class__")))
  (hn:PySem.W.specialIn K (.builtin "object.__class__") "__get__"=some (some (.builtin "getset_descriptor.__get__")))(M9:PySem.W.takesIn K (.builtin "object.__class__")=some true)
  (hm:PySem.W.mroIn K C (.type "object")=some true):Cv K H (.ref a) (.ref C)
theorem abd {x:V}{t:Value}(I:Inv X pins σ H s)(rx:aL x u)(ty:Cv X.K H x t)(e:PySem.W.kitOne X.K t c=some b)(h:∀tk,Q (.bool b) {s with toks:=tk}):
 wpAny (model X.prog X.w) A (call (.builtin "isinstance") [u,c]) Q E s:=by
 cases ty with
 |non=>cases(show u=Value.none from rx);exact uG PySem.W.kitx_none I.kIn True.intro e (λz=>nomatch z) h
 |bl y=>cases(show u=Value.bool y from rx);exact uG PySem.W.kitx_bool I.kIn True.intro e (λz=>nomatch z) h
 |int i=>obtain⟨t,q⟩:=(show ∃t,u=Value.int i t from rx);cases q;exact uG PySem.W.kitx_int I.kIn True.intro e (λz=>nomatch z) h
 |str y=>obtain⟨t,q⟩:=(show ∃t,u=Value.str y t from rx);cases q;exact uG PySem.W.kitx_str I.kIn True.intro e (λz=>nomatch z) h
 |flt y=>obtain⟨t,q⟩:=(show ∃t,u=Value.float y t from rx);cases q;exact uG PySem.W.kitx_float I.kIn True.intro e (λz=>nomatch z) h
 |@lst a xs ea =>
  cases(show u=Value.ref a from rx)
  obtain⟨_,_,n,_,h1⟩:=(show bJ X.prog X.w H s.heap a (.lst xs) from I.hok a _ ea);exact uG PySem.W.kitx_list I.kIn ⟨_,h1,rfl⟩ e (λz=>nomatch z) h
 |@frz a ob xs ea =>
  cases(show u=Value.ref a from rx)
  obtain⟨_,_,_,n,_,h1⟩:=(show bJ X.prog X.w H s.heap a (.frz ob (.lst xs)) from I.hok a _ ea);exact uG PySem.W.kitx_list I.kIn ⟨_,h1,rfl⟩ e (λz=>nomatch z) h
 |@tup a xs ea =>
  cases(show u=Value.ref a from rx)
  obtain⟨_,_,_,p⟩:=(show bJ X.prog X.w H s.heap a (.tup xs) from I.hok a _ ea);obtain⟨o,h1,h2,_⟩:=p;exact uG PySem.W.kitx_tuple I.kIn ⟨o,h1,h2⟩ e (λz=>nomatch z) h
 |@dK a Jf ea =>
  cases(show u=Value.ref a from rx)
  obtain⟨_,_,vs,_,p⟩:=(show bJ X.prog X.w H s.heap a (.dK Jf) from I.hok a _ ea);obtain⟨o,es,ep,h1,h2,_⟩:=p;exact uG PySem.W.kitx_dict I.kIn ⟨o,h1,h2.1⟩ e (λz=>nomatch z) h
 |@dT a Jf ea =>
  cases(show u=Value.ref a from rx)
  obtain⟨_,_,xs,_,o,es,ep,h1,h2,_⟩:=(show bJ X.prog X.w H s.heap a (.dT Jf) from I.hok a _ ea);exact uG PySem.W.kitx_dict I.kIn ⟨o,h1,h2.1⟩ e (λz=>nomatch z) h
 |@ins a C dx fs ea cl ha hn M9 hm =>
  cases(show u=Value.ref a from rx)
  obtain⟨mA,O,_⟩:=fT I.hok ea;obtain⟨od,J,_⟩:=O.look;exact uG (PySem.W.kitx_own (cl.get _) cl.hd ha hn M9 hm) I.kIn J e (λz=>nomatch z) h
end
structure A1 (k:Nat)(A:Around):Prop where
 hd:A.handled=none
 dp:A.depth+3*k+5<recursionLimit
 un:A.units+16*k+200<cLine
 gd:A.guards=some []
theorem A1.mono {j k:Nat}(r:A1 k A)(h:j<=k):A1 j A:=⟨r.hd,by have:=r.dp;omega,by have:=r.un;omega,r.gd⟩
theorem A1.deeper {k:Nat}(r:A1 (k+1) A)(env:Env):A1 k (A.deeper env):=
 ⟨r.hd,by have:=r.dp;show A.depth+1+3*k+5<_;omega,by have:=r.un;show A.units+3+16*k+200<_;omega,r.gd⟩
theorem A1.in1 {k:Nat}(r:A1 (k+1) A):A1 k A.in1 :=
 ⟨r.hd,by have:=r.dp;show A.depth+3*k+5<_;omega,by have:=r.un;show A.units+1+16*k+200<_;omega,r.gd⟩
theorem abg :(A.under (.builtin "type.__call__" ⟨.ref C::us,kw⟩)).depth=A.depth+1:=by
 first|rfl|simp[Around.under,Code.weight,Code.isCreation,Code.isGuard,Code.isCaller,Code.frames,Code.isFrame,guardIds]
theorem aaY :(A.under (.builtin "type.__call__" ⟨.ref C::us,kw⟩)).guards=A.guards:=by
 first|rfl|simp[Around.under,Code.guards,Code.isGuard,guardIds,pushGuards]
theorem aaZ :(A.under (.builtin "type.__call__" ⟨.ref C::us,kw⟩)).units=A.units+1:=by
 first|rfl|simp[Around.under,Code.cUnits,Code.frames,Code.isFrame]
theorem A1.make {k:Nat}(r:A1 (k+1) A)(C:Addr)(us:HF)(kw:List (Str×Value)):A1 k (A.under (.builtin "type.__call__" ⟨.ref C::us,kw⟩)):=
 ⟨r.hd,by have:=r.dp;rw[abg];omega,by have:=r.un;rw[aaZ];omega,by rw[aaY];exact r.gd⟩
theorem A1.depth {k:Nat}(r:A1 k A):A.depth<recursionLimit:=by have:=r.dp;omega
theorem A1.units {k:Nat}(r:A1 k A):A.units+64<cLine:=by have:=r.un;omega
theorem A1.agM {k:Nat}(r:A1 k A):A.units<cLine:=by have:=r.un;omega
noncomputable def ya:TA:=λ_ H Q=>Q [] H
noncomputable def bx (ta:TE)(tr:TA):TA:=λσ H Q=>ta σ H λx H1=>tr σ H1 λxs H2=>Q (x::xs) H2
section
variable {X:Cx}{e:Expr}{es:xB}{te:TE}{t:TA}{pos:Pos}
theorem ai:PA X [] ya:=λ_ _ _ _ H Q I h=>wN ⟨[],H,I,.nil,h⟩
theorem c6 (ha:PE X e te)(hr:PA X es t)(hs:starEach (e::es) X.env=(false,eval e X.env):: starEach es X.env:=by rfl):PA X (e::es) (bx te t):=by
 intro pos pins s σ H Q I h;rw[hs];show wpAny _ _ (spliced ((false,eval e X.env):: backTo pos (starEach es X.env))) _ _ s;refine yw (cx (ha pins s σ H _ I h) λu s1 z'=>?_);obtain⟨x,H1,I1,r1,q1⟩:=z';exact cx (hr pos pins s1 σ H1 _ I1 q1) λus s2 ⟨xs,H2,I2,r2,q2⟩=>⟨x::xs,H2,I2,.cons r1 r2,q2⟩
noncomputable def xY (t:TA):TE:=λσ H Q=>t σ H λxs H1=>xs.length<=sizeLine/\∀p,H1 p=none->Q (.ref p) (upd H1 p (.tup xs))
noncomputable def EY (t:TA):TE:=λσ H Q=>t σ H λxs H1=>xs.length<=sizeLine/\∀p,H1 p=none->Q (.ref p) (upd H1 p (.lst xs))
theorem bF {x1}(h:PA X es t):PE X (.Tuple es x1 pos) (xY t):=by
 intro pins s σ H Q I hq;refine wpAny_Tuple_spliced (cx (h pos pins s σ H _ I hq) λus s1 ⟨xs,H1,I1,r,z,q⟩=>⟨by rw[<-r.length];exact z,?_⟩);have hf:H1 s1.heap.objs.size=none:=I1.hok.fresh (yH _);refine⟨.ref s1.heap.objs.size,upd H1 s1.heap.objs.size (.tup xs),I1.laid (t':=s1.toks) (λb u e=>Ez _ e) (yH _) ?_,rfl,q _ hf⟩;exact⟨z,us,r,⟨_,Fg _ rfl,rfl,_,rfl⟩⟩
theorem cM (h:PA X es t):PE X (.List es pos) (EY t):=by
 intro pins s σ H Q I hq;refine wpAny_List_spliced (cx (h pos pins s σ H _ I hq) λus s1 ⟨xs,H1,I1,r,z,q⟩=>⟨by rw[<-r.length];exact z,?_⟩);have hf:H1 s1.heap.objs.size=none:=I1.hok.fresh (yH _);refine⟨.ref s1.heap.objs.size,upd H1 s1.heap.objs.size (.lst xs),I1.laid (t':=s1.toks) (λb u e=>Ez _ e) (yH _) ?_,rfl,q _ hf⟩;exact⟨z,us,0,r,Fg _ rfl⟩
end
noncomputable abbrev Sp:=List V->Hp->VK->XK->Prop
noncomputable abbrev Jd:=List Env->Hp->Shared->XK->Value->Shared->Prop
structure EX (P:xq)(w:World)(K:PySem.W.Frag)(mg:Cw)(base:Heap)(A:Around)(outer:List Env)(s:pL)(H:Hp):Prop where
 frames:A.frames=some outer
 mod:Mod K mg base
 bs:∀b o,base.get? b=some o->s.heap.get? b=some o/\H b=none
 bsz:base.objs.size<=s.heap.objs.size
 af8:s.heap.FunFrames base outer
 frf:∀b∈eQ outer,H b=none
 hok:gk P w H s.heap
 bare:AllBare s.gens
noncomputable def CE (outer:List Env)(P:xq)(w:World)(H:Hp)(s:pL)(Q:VK)(u:Value)(s':pL):Prop :=
 ∃v H',s'.os=s.os/\AllBare s'.gens/\Un (eQ outer) [] H H' s.heap s'.heap/\gk P w H' s'.heap/\aL v u/\Q v H'
noncomputable def aa2 (CX:Jd)(outer:List Env)(P:xq)(w:World)(H:Hp)(s:pL)(Q:VK)(E:XK)(r:Result)(s':pL):Prop :=
 match r with
 | .ok (.ret u)=>CE outer P w H s Q u s'
 | .ok _=>False
 | .error e=>CX outer H s E e s'
structure xk (P:xq)(w:World)(K:PySem.W.Frag)(mg:Cw)(base:Heap)(CX:Jd)(k:Nat)(f:Addr)(fd:GS)(ps:F3)(sp:Sp):Prop where
 len:∀vs H Q E,sp vs H Q E->vs.length=ps.length
 run:∀(A:Around)(outer:List Env)(s:pL)(H:Hp)(args:Args)(us:HF)(vs:List V)(Q:VK)(E:XK),A1 k A->EX P w K mg base A outer s H->BindsTo s fd args (ps.zip us)->aN vs us->sp vs H Q E →
  codeAny (model P w) A (.call (.ref f) args) (aa2 CX outer P w H s Q E) s
variable {mg:Cw}{base:Heap}{CX:Jd}{ps:F3}
theorem xk.imp {k:Nat}{f:Addr}{fd:GS}{sp Yb:Sp}(F:xk P w K mg base CX k f fd ps sp)
 (h:∀vs H Q E,Yb vs H Q E->sp vs H Q E):xk P w K mg base CX k f fd ps Yb :=
 ⟨λvs H Q E q=>F.len vs H Q E (h _ _ _ _ q),λA outer s H args us vs Q E hr he hb hv hs=>F.run A outer s H args us vs Q E hr he hb hv (h _ _ _ _ hs)⟩
variable {outer:List Env}
theorem EX.make (e:EX P w K mg base A outer s H)(C:Addr)(us:HF)(kw:List (Str×Value)):
 EX P w K mg base (A.under (.builtin "type.__call__" ⟨.ref C::us,kw⟩)) outer s H:=⟨by first|exact e.frames|(simpa[Around.under,Code.envs,Code.isFrame,pushEnvs] using e.frames),e.mod,e.bs,e.bsz,e.af8,e.frf,e.hok,e.bare⟩
theorem EX.in1 (e:EX P w K mg base A outer s H):
 EX P w K mg base A.in1 outer s H:=⟨e.frames,e.mod,e.bs,e.bsz,e.af8,e.frf,e.hok,e.bare⟩
section
variable {X:Cx}{pins:List (Addr×Obj)}{σ:St}{H:Hp}{s s':pL}
theorem Inv.aiz (I:Inv X pins σ H s):EX X.prog X.w X.K X.mg X.base X.A X.stack s H :=
 ⟨I.ok.frames,I.ok.mod,I.bs,Ig I.ok.bsz I.sz,I.stack,I.ags,I.hok,I.bare⟩
theorem Inv.after (I:Inv X pins σ H s)(h:CE X.stack X.prog X.w H s Q u s'):EP X pins σ Q u s':=by
 obtain⟨v,H',os,bare,un,hok,r,q⟩:=h;obtain⟨hh,g,d,t,os'⟩:=s';obtain rfl:os'=s.os:=os;exact⟨v,H',I.call (h':=hh) (g':=g) (d':=d) (t':=t) (ch:=[]) un hok bare (λb z=>absurd z (by simp)),r,q⟩
end
noncomputable def A5 (sp:Sp)(dvs:List V)(E:XK)(t:TA):TE:=λσ H Q=>t σ H λvs H1=>sp (vs++dvs) H1 Q E
noncomputable def mf (C:Addr)(m:Str)(sp:Sp)(dvs:List V)(E:XK)(ta:TE)(t:TA):TE:=λσ H Q=>ta σ H λx H1=>∃a dx fs,x=.ref a/\H1 a=some (.ins C dx fs)/\fs.lookup m=none /\
 t σ H1 λvs H2=>sp (x::(vs++dvs)) H2 Q E
noncomputable def DA (C:Addr)(sp:Sp)(dvs:List V)(E:XK)(t:TA):TE:=λσ H Q=>t σ H λvs H1=>∀x dx,H1 x=none->H1 dx=none->dx≠x →
 sp (.ref x::(vs++dvs)) (upd (upd H1 dx (.own x)) x (.ins C dx [])) (λv H2=>v=.non/\Q (.ref x) H2) E
noncomputable def b8 (K:PySem.W.Frag)(fd:GS)(ps:F3)(ds:HF):Prop :=
 ∀(s:pL)(us:HF),K.In s.heap->(us++ds).length=ps.length->BindsTo s fd ⟨us,[]⟩ (ps.zip (us++ds))
theorem b8.all {fd:GS}(h:∀us:List Value,us.length=ps.length->bindArgs fd ⟨us,[]⟩=pure (ps.zip us)):b8 K fd ps []:=λs us _ hl=>by
 rw[yp] at hl |-;exact .of_eq (h us hl)
noncomputable def eK (CX:Jd)(X:Cx)(E:XK):Prop:=∀(pins:List (Addr×Obj))(σ:St)(H:Hp)(s:pL)(e:Value)(s':pL),Inv X pins σ H s->CX X.stack H s E e s'->X.xe e s'
section
variable {X:Cx}{CX:Jd}{k:Nat}{f C:Addr}{fd:GS}{ps:F3}{sp:Sp}{dvs:List V}{ds:HF}{E:XK}{x m:Str}{p pos apos:Pos}{e o:Expr}{es:xB}{ta:TE}{t:TA}
theorem oX {us:HF}{vs:List V}(F:xk X.prog X.w X.K X.mg X.base CX k f fd ps sp)(hr:A1 k X.A)(hb:b8 X.K fd ps ds)(hd:aN dvs ds)(hx:eK CX X E)
 (I:Inv X pins σ H s)(r:aN vs us)(h:sp (vs++dvs) H Q E):wpAny (model X.prog X.w) X.A (call (.ref f) us) (EP X pins σ Q) X.xe s:=by
 have r2:aN (vs++dvs) (us++ds):=r.append hd
 have hl:(us++ds).length=ps.length:=by rw[<-r2.length];exact F.len _ _ _ _ h
 refine yn (zL (F.run X.A X.stack s H ⟨us,[]⟩ (us++ds) (vs++dvs) Q E hr I.aiz (hb s us I.kIn hl) r2 h) λr s' hq=>?_)
 cases r with
 |error e=>exact hx pins σ H s e s' I hq
 |ok fl =>
  cases fl with
  |ret u=>exact I.after hq
  |next=>exact False.elim hq
  |brk=>exact False.elim hq
  |cont=>exact False.elim hq
theorem aD (F:xk X.prog X.w X.K X.mg X.base CX k f fd ps sp)(hr:A1 k X.A)(hg:Gl X x)(hm:X.mg x=some (.ref f))(hk:PySem.W.keepIn X.K (.ref f)=true)(hb:b8 X.K fd ps ds)(hd:aN dvs ds)(hx:eK CX X E)
 (ha:PA X (e::es) t)(Na:(x==("__debug__":Str))=false:=by decide)(he:starEach (e::es) X.env=(false,eval e X.env):: starEach es X.env:=by rfl)(Ks:(backTo pos (starEach es X.env)).any (·.1)=false:=by rfl):
 PE X (.Call (.Name x p) (e::es) [] pos) (A5 sp dvs E t):=by
 intro pins s σ H Q I h;refine rM (iO I hg hm ?_ Na);refine CA (h₀:=X.base) I.ok.mod.kin hk (cx (ha pos pins s σ H _ I h) λus s1 ⟨vs,H1,I1,r,q⟩=>⟨I1.kIn,?_⟩) he Ks;exact oX F hr hb hd hx I1 r q
theorem aR (he:PE X o ta)(c:kJ X.K C)(hm:Meth X.K C m f)(F:xk X.prog X.w X.K X.mg X.base CX k f fd ps sp)(hr:A1 k X.A)(hb:b8 X.K fd ps ds)(hd:aN dvs ds)(hx:eK CX X E)(ha:PA X (e::es) t)
 (M7:starEach (e::es) X.env=(false,eval e X.env):: starEach es X.env:=by rfl)(Ks:(backTo pos (starEach es X.env)).any (·.1)=false:=by rfl)
 (ht:eval (.Call (.Attribute o m apos) (e::es) [] pos) X.env=(do
  let ov <-eval o X.env
  standAt apos.atName
  let(f,first) <-holding [ov] (getMethod ov m pl)
  callWith pos f first (backTo pos (starEach (e::es) X.env)) (backToKw pos (keywordEach [] X.env))):=by rfl):
 PE X (.Call (.Attribute o m apos) (e::es) [] pos) (mf C m sp dvs E ta t):=by
 intro pins s σ H Q I h;refine PySem.W.methodCall_KW (pl:=pl) (cx (he pins s σ H _ I h) λu s1 z'=>?_) ht;obtain⟨x,H1,I1,rx,a,dx,fs,ex,ea,l,q⟩:=z';subst ex;obtain rfl:u=Value.ref a:=rx;refine ke I1 ea c hm l ?_;refine CA (first:=[.ref a]) (h₀:=X.base) I.ok.mod.kin hm.kp (cx (ha pos pins s1 σ H1 _ I1 q) λus s2 ⟨vs,H2,I2,r,q2⟩=>⟨I2.kIn,?_⟩) M7 Ks;exact oX (us:=.ref a::us) (vs:=.ref a::vs) F hr hb hd hx I2 (.cons rfl r) q2
theorem mi (he:PE X o ta)(c:kJ X.K C)(hm:Meth X.K C m f)(F:xk X.prog X.w X.K X.mg X.base CX k f fd ps sp)(hr:A1 k X.A)(hb:b8 X.K fd ps ds)(hd:aN dvs ds)(hx:eK CX X E)
 (ht:eval (.Call (.Attribute o m apos) [] [] pos) X.env=(do
  let ov <-eval o X.env
  standAt apos.atName
  let(f,first) <-holding [ov] (getMethod ov m pl)
  callWith pos f first (backTo pos (starEach [] X.env)) (backToKw pos (keywordEach [] X.env))):=by rfl):
 PE X (.Call (.Attribute o m apos) [] [] pos) (mf C m sp dvs E ta ya):=by
 intro pins s σ H Q I h;refine PySem.W.methodCall_KW (pl:=pl) (cx (he pins s σ H _ I h) λu s1 z'=>?_) ht;obtain⟨x,H1,I1,rx,a,dx,fs,ex,ea,l,q⟩:=z';subst ex;obtain rfl:u=Value.ref a:=rx;refine ke I1 ea c hm l ?_;exact PySem.W.callWith_K0 (first:=[.ref a]) I1.kIn hm.kp (oX (us:=[.ref a]) (vs:=[.ref a]) F hr hb hd hx I1 (.cons rfl .nil) q)
structure Mk (K:PySem.W.Frag)(C f:Addr):Prop where
 makes:PySem.W.makesIn K C=true
 init:PySem.W.findIn K (.ref C) "__init__"=some (some (.ref f))
 fn:PySem.W.isFn K (.ref f)=true
 kp:PySem.W.keepIn K (.ref C)=true
theorem aa6 {vs:List V}(M:Mk X.K C f)(F:xk X.prog X.w X.K X.mg X.base CX k f fd ps sp)(hr:A1 (k+1) X.A)(hb:b8 X.K fd ps ds)(hd:aN dvs ds)
 (hx:eK CX X E)(I:Inv X pins σ H s)(r:aN vs us)
 (h:∀x dx,H x=none->H dx=none->dx≠x->sp (.ref x::(vs++dvs)) (upd (upd H dx (.own x)) x (.ins C dx [])) (λv H2=>v=.non/\Q (.ref x) H2) E):
 wpAny (model X.prog X.w) X.A (call (.ref C) us) (EP X pins σ Q) X.xe s:=by
 have hq:=h (s.heap.objs.size+1) s.heap.objs.size (I.hok.fresh (Ja _)) (I.hok.fresh (yH _)) (IB (Fd _));have I2:=Inv.made (C:=C) I;have r2:aN (V.ref (s.heap.objs.size+1):: (vs++dvs)) (Value.ref (s.heap.objs.size+1):: (us++ds)):=.cons rfl (r.append hd)
 have hl:(Value.ref (s.heap.objs.size+1):: us++ds).length=ps.length:=by
  have e:=r2.length;rw[F.len _ _ _ _ hq] at e;exact e.symm
 refine yn (aa0 (f:=f) I.kIn M.makes M.init (Fz.mp M.fn) (zL (F.run _ X.stack _ _ ⟨Value.ref (s.heap.objs.size+1):: us,[]⟩ (Value.ref (s.heap.objs.size+1):: (us++ds)) _ _ E (hr.make C us [])
  (I2.aiz.make C us []) (hb _ (Value.ref (s.heap.objs.size+1):: us) I2.kIn hl) r2 hq) λr s' Pb=>?_))
 cases r with
 |error e=>exact hx pins σ _ _ e s' I2 Pb
 |ok fl =>
  cases fl with
  |ret u =>
   obtain⟨v,H',I3,rv,ev,q3⟩:=I2.after Pb;subst ev;exact⟨rv,⟨V.ref (s.heap.objs.size+1),H',I3,rfl,q3⟩⟩
  |next=>exact False.elim Pb
  |brk=>exact False.elim Pb
  |cont=>exact False.elim Pb
theorem eX (M:Mk X.K C f)(F:xk X.prog X.w X.K X.mg X.base CX k f fd ps sp)(hr:A1 (k+1) X.A)(hg:Gl X x)(hm:X.mg x=some (.ref C))(hb:b8 X.K fd ps ds)(hd:aN dvs ds)(hx:eK CX X E)
 (ha:PA X (e::es) t)(Na:(x==("__debug__":Str))=false:=by decide)(he:starEach (e::es) X.env=(false,eval e X.env):: starEach es X.env:=by rfl)(Ks:(backTo pos (starEach es X.env)).any (·.1)=false:=by rfl):
 PE X (.Call (.Name x p) (e::es) [] pos) (DA C sp dvs E t):=by
 intro pins s σ H Q I h;refine rM (iO I hg hm ?_ Na);refine CA (h₀:=X.base) I.ok.mod.kin M.kp (cx (ha pos pins s σ H _ I h) λus s1 ⟨vs,H1,I1,r,q⟩=>⟨I1.kIn,?_⟩) he Ks;exact aa6 M F hr hb hd hx I1 r q
end
noncomputable def PK (X:Cx)(Pc:List Keyword)(t:TA):Prop :=
 ∀(pos:Pos)(pins:List (Addr×Obj))(s:pL)(σ:St)(H:Hp)(Q:List V->Hp->Prop),Inv X pins σ H s->t σ H Q->wpAny (model X.prog X.w) X.A (evalAll ((backToKw pos (keywordEach Pc X.env)).map (·.2))) (AP X pins σ Q) X.xe s
section
variable {X:Cx}{CX:Jd}{k:Nat}{f C:Addr}{fd:GS}{ps ks:F3}{sp:Sp}{E:XK}{x m:Str}{p pos apos kpos:Pos}{e o:Expr}{es:xB}{Pc:List Keyword}{te ta:TE}{t tk:TA}{nm:Option Str}
theorem aa8:PK X [] ya:=λ_ _ _ _ H Q I h=>wpAny_evalAll_nil ⟨[],H,I,.nil,h⟩
theorem aba (ha:PE X e te)(hr:PK X Pc t):PK X (⟨nm,e,kpos⟩::Pc) (bx te t):=by
 intro pos pins s σ H Q I h;show wpAny _ _ (evalAll ((do let v <-eval e X.env;standAt pos;pure v):: (backToKw pos (keywordEach Pc X.env)).map (·.2))) _ _ s;refine wpAny_evalAll_cons (IW (cx (ha pins s σ H _ I h) λu s1 ⟨x,H1,I1,r1,q1⟩=>IW (GW (Fc ?_))));exact cx (hr pos pins s1 σ H1 _ I1 q1) λus s2 ⟨xs,H2,I2,r2,q2⟩=>⟨x::xs,H2,I2,.cons r1 r2,q2⟩
variable {g:List Value->List Value->List Value}{gV:List V->List V->List V}
end
structure Eb (N P:F3)(sc:Scope):Prop where
 kind:sc.kind=.function
 co:sc.isCoroutine=false
 gen:sc.isGenerator=false
 nd:N.Nodup
 pre:N.take P.length=P
 par:∀x∈P,sc.names.lookup x=some .local\/sc.names.lookup x=some .cell
 ai6:∀y∈sc.names,y.2≠.free
theorem dX {P:F3}{sc:Scope}(h:sc.kind=.function/\sc.isCoroutine=false/\sc.isGenerator=false/\N.Nodup/\N.take P.length=P/\(∀x∈P,sc.names.lookup x=some .local\/sc.names.lookup x=some .cell)/\∀y∈sc.names,y.2≠.free):Eb N P sc:=⟨h.1,h.2.1,h.2.2.1,h.2.2.2.1,h.2.2.2.2.1,h.2.2.2.2.2.1,h.2.2.2.2.2.2⟩
variable {kindOf:Str->Option NameKind}
theorem oF :∀{binds:List (Str×Value)}{m:Cw},(∀v,(x,v)∉binds)->bindL kindOf binds m x=m x
 |[],_,_=>rfl
 |(n,v):: r,m,h=>by
  unfold bindL;rw[oF λw hw=>h w (rB _ hw)]
  split
  ·have:x≠n:=by rintro rfl;exact h v qT
   simp[this]
  ·rfl
theorem oG :∀{binds:List (Str×Value)}{m:Cw},(∀v,(x,v)∉binds)->bindC kindOf binds m x=m x
 |[],_,_=>rfl
 |(n,v):: r,m,h=>by
  unfold bindC;rw[oG λw hw=>h w (rB _ hw)]
  split
  ·rfl
  ·have:x≠n:=by rintro rfl;exact h v qT
   simp[this]
theorem oK {v:Value}:∀{P:F3}{vs:HF}{i:Nat}{m:Cw},P.Nodup->P[i]?=some x->vs[i]?=some v->kindOf x=some .local →
 bindL kindOf (P.zip vs) m x=some v
 |[],_,_,_,_,h,_,_=>by simp at h
 |_::_,[],_,_,_,_,h,_=>by simp at h
 |p::P,w::vs,0,m,nd,h1,h2,hk=>by
  simp at h1 h2;subst h1;subst h2;show bindL kindOf ((p,w):: P.zip vs) m p=_;unfold bindL;rw[oF λv hv=>(DO.mp nd).1 (se hv).1,qk hk];simp
 |p::P,w::vs,i+1,m,nd,h1,h2,hk=>by
  show bindL kindOf ((p,w):: P.zip vs) m x=_;unfold bindL;exact oK (i:=i) (DO.mp nd).2 (by simpa using h1) (by simpa using h2) hk
theorem oH {v:Value}:∀{P:F3}{vs:HF}{i:Nat}{m:Cw},P.Nodup->P[i]?=some x->vs[i]?=some v->kindOf x≠some .local →
 bindC kindOf (P.zip vs) m x=some v
 |[],_,_,_,_,h,_,_=>by simp at h
 |_::_,[],_,_,_,_,h,_=>by simp at h
 |p::P,w::vs,0,m,nd,h1,h2,hk=>by
  simp at h1 h2;subst h1;subst h2;show bindC kindOf ((p,w):: P.zip vs) m p=_;unfold bindC;rw[oG λv hv=>(DO.mp nd).1 (se hv).1,IX hk];simp
 |p::P,w::vs,i+1,m,nd,h1,h2,hk=>by
  show bindC kindOf ((p,w):: P.zip vs) m x=_;unfold bindC;exact oH (i:=i) (DO.mp nd).2 (by simpa using h1) (by simpa using h2) hk
noncomputable def hV (N:F3)(vs:List V):St:=vs.map some++List.replicate (N.length-vs.length) none
noncomputable def gX (CX:Jd)(P:xq)(w:World)(K:PySem.W.Frag)(mg:Cw)(base:Heap)(N:F3)(qual:Str)(scope:Scope)(f:Addr)(cd:Value)(A:Around)(outer:List Env)(s:pL)(H:Hp)(E:XK):Cx where
 prog:=P
 w:=w
 K:=K
 mg:=mg
 base:=base
 A:=A.deeper (envOfC qual scope s.heap.objs.size f cd)
 N:=N
 s₀:=s
 H₀:=H
 env:=envOfC qual scope s.heap.objs.size f cd
 outer:=outer
 stack:=envOfC qual scope s.heap.objs.size f cd::outer
 ex:=[]
 calm:=true
 fn:=λ_=>true
 pn:=[]
 xe:=λe s'=>wpAny (model P w) (A.deeper (envOfC qual scope s.heap.objs.size f cd)) (leaving (envOfC qual scope s.heap.objs.size f cd) e) (λ_ UE=>CX outer H s E e UE) (λe' UE=>CX outer H s E e' UE) s'
theorem rq {sc:Scope}{n:Nat}(h:sc.names.lookup x=some .cell):∃c,(cellsFrom n sc.names []).lookup x=some c:=by
 have q:=PySem.W.cellsFrom_some sc.names n [] (.inl h);exact yB.mp q
theorem abb {qual:Str}{scope:Scope}{f:Addr}{cd:Value}{s1:pL}{E:XK}{vs:List V}
 (S:Eb N ps scope)(hd:A.handled=none)(e0:EX P w K mg base A outer s H)(hl:vs.length=ps.length)(r:aN vs us)
 (x:InCallC s s.heap.objs.size (bindL (envOfC qual scope s.heap.objs.size f cd).kindOf (ps.zip us) λ_=>none) (cellsFrom (s.heap.objs.size+1) scope.names []) (bindC (envOfC qual scope s.heap.objs.size f cd).kindOf (ps.zip us) λ_=>none) s1):
 Inv (gX CX P w K mg base N qual scope f cd A outer s H E) [] (hV N vs) H s1:=by
 have Ks:ps.length<=N.length:=by have:=Ec List.length S.pre;rw[xo] at this;omega
 obtain⟨h1,tk,rfl,hk⟩:=x.done;have Pd:∀b:Addr,b∉(gX CX P w K mg base N qual scope f cd A outer s H E).ex:=λb z=>absurd (show b∈([]:List Addr) from z) (by simp)
 refine⟨⟨e0.mod,S.kind,rfl,rfl,yH _,λy z c h1 h2=>?_,λy hy=>?_,λy c _ h=>?_,λ_=>hd,Around.frames_deeper e0.frames,.inr ⟨rfl,rfl⟩,λb z=>absurd z (Pd b),e0.bs,e0.bsz,λb _ _=>Pd b,λb z=>absurd z (Pd b),e0.af8,e0.frf⟩,
  rfl,e0.bare,Un.kept hk,⟨_,x.toInCall.ns,λi y v h1 h2 h3=>?_⟩,λy c h=>⟨_,x.cell y c h⟩,e0.hok.fresh (yH _),λy c h=>?_,λp hp=>absurd (show p∈([]:List (Addr×Obj)) from hp) (by simp),e0.hok.kept hk,?_⟩
 ·exact name_of_addr x.apart (Co h1) (Co h2)
 ·have hy:scope.names.lookup y=some .cell\/scope.names.lookup y=some .free:=hy
  rcases hy with hy|hy
  ·exact rq hy
  ·exact absurd rfl (S.ai6 _ (Co hy))
 ·exact xx (x.above y c (Co h))
 ·have hi:i<vs.length:=by
   unfold hV at h2
   by_cases hi:i<vs.length
   ·exact hi
   ·rw[yy (by simpa using hi)] at h2;rw[List.getElem?_replicate] at h2
    split at h2 <;> cases h2
  have ha:vs[i]?=some v:=by
   unfold hV at h2;rw[EC (by simpa using hi),CR] at h2
   cases e:vs[i]? with
   |none=>rw[e] at h2;cases h2
   |some a=>rw[e] at h2;cases h2;rfl
  obtain⟨u,hu,rv⟩:=r.get ha
  have hp:ps[i]?=some y:=by
   rw[<-S.pre,List.getElem?_take_of_lt (by omega)];exact h1
  have Yc:ps.Nodup:=by rw[<-S.pre];exact S.nd.sublist (List.take_sublist _ _)
  refine⟨u,rv,?_⟩
  rcases S.par y (Gq hp) with k|k
  ·exact .inl ⟨k,oK Yc hp hu k⟩
  ·obtain⟨c,e⟩:=rq (n:=s.heap.objs.size+1) k;refine .inr ⟨.inl k,c,e,?_⟩;have q:=x.cell y c e;rw[oH Yc hp hu (by show scope.names.lookup y≠_;rw[k];decide)] at q;exact q
 ·exact e0.hok.fresh (xx (x.above y c (Co h)))
 ·unfold hV;show _=N.length;rw[zr,EZ,Cb];omega
theorem y7 {k:Nat}{f:Addr}{name qual:Str}{params:Arguments}{scope:Scope}{dV kV doc pm Ji ct oc:Value}{an od:DT}
 {Jw:xA}{sp:Sp}(lk:K.lookup f=some ⟨oc,od,.func (PySem.W.fnOf name qual params body scope dV kV doc pm an Ji ct),Jw⟩)(JU:PySem.W.codeIn K Ji qual=true)(S:Eb N ps scope)
 (len:∀vs H Q E,sp vs H Q E->vs.length=ps.length)
 (JI:∀(A:Around)(outer:List Env)(s:pL)(H:Hp)(vs:List V)(Q:VK)(E:XK),A1 k (A.deeper (envOfC qual scope s.heap.objs.size f Ji))->sp vs H Q E →
  ∃t,qc (gX CX P w K mg base N qual scope f Ji A outer s H E) body t/\t {nx:=λ_ H'=>Q .non H',rt:=Q} (hV N vs) H):
 xk P w K mg base CX (k+1) f (PySem.W.fnOf name qual params body scope dV kV doc pm an Ji ct) ps sp:=by
 refine⟨len,λA outer s H args us vs Q E hr e0 hb r KZ=>?_⟩;have hl:=len _ _ _ _ KZ;have KX:K.In s.heap:=e0.mod.kin.keeps λb o e=>(e0.bs b o e).1;have lim:s.heap.NoLimit:=e0.mod.nolimit.keeps λb o e=>(e0.bs b o e).1
 have Ld:∀y∈ps.zip us,scope.names.lookup y.1=some .local\/(scope.names.lookup y.1=some .cell/\((cellsFrom (s.heap.objs.size+1) scope.names []).lookup y.1).isSome=true):=λ⟨n,v⟩ hy=>by
  rcases S.par n (se hy).1 with q|q
  ·exact .inl q
  ·exact .inr ⟨q,PySem.W.cellsFrom_some _ _ _ (.inl q)⟩
 refine codeAny_call_function hr.depth (KX _ _ lk) rfl S.co S.gen rfl (PySem.W.codeRec_of KX JU) (hb _ _ _ _ ?_);refine wpAny_newFunctionEnv_cells S.kind Ld λenv he s1 x=>?_;subst he;refine⟨lim.keeps x.toInCall.keep,codeAny_func ?_⟩;obtain⟨t,ht,hq⟩:=JI A outer s H vs Q E (hr.deeper _) KZ;have I:Inv (gX CX P w K mg base N qual scope f Ji A outer s H E) [] (hV N vs) H s1:=abb S hr.hd e0 hl r x;refine Ax (ht [] s1 (hV N vs) H _ I hq) (λfl s' hs=>?_) λe s' hs=>hs
 have fin:∀{σ':St}{H':Hp}{v:V}{u:Value},Inv (gX CX P w K mg base N qual scope f Ji A outer s H E) [] σ' H' s'->aL v u->Q v H'->CE outer P w H s Q u s' :=
  λ{σ' H' v u} J rv q=>⟨v,H',J.os,J.bare,J.base,J.hok,rv,q⟩
 cases fl with
 |ret u =>
  obtain⟨v,σ',H',J,rv,q⟩:=hs;exact fin J rv q
 |next =>
  obtain⟨σ',H',J,q⟩:=hs;exact fin (v:=V.non) (u:=Value.none) J rfl q
 |brk =>
  obtain⟨_,_,_,q⟩:=hs;exact False.elim q
 |cont =>
  obtain⟨_,_,_,q⟩:=hs;exact False.elim q
section
variable {X:Cx}{x:Str}{p pos:Pos}{e:Expr}{es:xB}{t:TA}{id T:String}{r:List V->Hp->VK->Prop}
noncomputable def Gh (r:List V->Hp->VK->Prop)(t:TA):TE:=λσ H Q=>t σ H λvs H1=>r vs H1 Q
theorem aK (hc:eW X (.builtin id) r)(hg:Gl X x)(hm:X.mg x=none)(hv:bootBuiltins x=some (.builtin id))(ha:PA X (e::es) t)(hn:x ≠ "__name__":=by decide)(Na:(x==("__debug__":Str))=false:=by decide)
 (he:starEach (e::es) X.env=(false,eval e X.env):: starEach es X.env:=by rfl)(Ks:(backTo pos (starEach es X.env)).any (·.1)=false:=by rfl):PE X (.Call (.Name x p) (e::es) [] pos) (Gh r t):=by
 intro pins s σ H Q I h;refine rM (c8 I hg hm hv ?_ hn Na);exact PyProof.Rows.callWith_builtin1 (cx (ha pos pins s σ H _ I h) λus s1 ⟨vs,H1,I1,r1,q1⟩=>hc pins s1 σ H1 vs us Q I1 r1 q1) he Ks
theorem eA (hc:eW X (.type T) r)(hg:Gl X x)(hm:X.mg x=none)(hv:bootBuiltins x=some (.type T))(ha:PA X (e::es) t)(hn:x ≠ "__name__":=by decide)(Na:(x==("__debug__":Str))=false:=by decide)
 (he:starEach (e::es) X.env=(false,eval e X.env):: starEach es X.env:=by rfl)(Ks:(backTo pos (starEach es X.env)).any (·.1)=false:=by rfl):PE X (.Call (.Name x p) (e::es) [] pos) (Gh r t):=by
 intro pins s σ H Q I h;refine rM (c8 I hg hm hv ?_ hn Na);exact AG (cx (ha pos pins s σ H _ I h) λus s1 ⟨vs,H1,I1,r1,q1⟩=>hc pins s1 σ H1 vs us Q I1 r1 q1) he Ks
end
section
variable {κ:Type} [DecidableEq κ]
noncomputable def dQ (Jf:List (κ×V))(k:κ):Option V:=(Jf.find? λkv=>decide (kv.1=k)).map (·.2)
noncomputable def fR (Jf:List (κ×V))(k:κ)(v:V):List (κ×V):=
 if(Jf.any λkv=>decide (kv.1=k))=true then Jf.map (λkv=>if kv.1=k then(kv.1,v) else kv) else Jf++[(k,v)]
theorem cG {p:κ×V}{r:List (κ×V)}{k:κ}(e:p.1=k):dQ (p::r) k=some p.2:=by simp[dQ,Ih,e]
theorem cD {p:κ×V}{r:List (κ×V)}{k:κ}(e:¬p.1=k):dQ (p::r) k=dQ r k:=by simp[dQ,Ih,e]
theorem gK (k:κ):∀Jf:List (κ×V),(Jf.any λkv=>decide (kv.1=k))=(dQ Jf k).isSome
 |[]=>rfl
 |p::r=>by
  rw[HZ]
  by_cases e:p.1=k
  ·simp only[cG e,Iw e,Bool.true_or,Option.isSome_some]
  ·rw[cD e,IA e,Bool.false_or];exact gK k r
theorem qY (k j:κ)(y:V):∀Jf:List (κ×V),dQ (Jf.map λkv=>if kv.1=k then(kv.1,y) else kv) j=(dQ Jf j).map λx=>if j=k then y else x
 |[]=>rfl
 |p::r=>by
  have ih:=qY k j y r;rw[IZ]
  by_cases h:p.1=k
  ·rw[qk h]
   by_cases e:p.1=j
   ·rw[cG (p:=(p.1,y)) e,cG e,Option.map_some,qk (e.symm.trans h)]
   ·rw[cD (p:=(p.1,y)) e,cD e,ih]
  ·rw[IX h]
   by_cases e:p.1=j
   ·rw[cG (p:=p) e,cG e,Option.map_some,IX (λz=>h (e.trans z))]
   ·rw[cD (p:=p) e,cD e,ih]
theorem oA (k j:κ)(y:V):∀Jf:List (κ×V),dQ Jf k=none->dQ (Jf++[(k,y)]) j=if j=k then some y else dQ Jf j
 |[],_=>by
  by_cases e:k=j
  ·rw[qk e.symm];exact cG (p:=(k,y)) e
  ·rw[IX (λz=>e z.symm)];exact cD (p:=(k,y)) e
 |p::r,hn=>by
  rw[List.cons_append]
  have hk:¬p.1=k:=λz=>by rw[cG z] at hn;cases hn
  rw[cD hk] at hn;have ih:=oA k j y r hn
  by_cases e:p.1=j
  ·rw[cG e,cG e,IX (λz=>hk (e.trans z))]
  ·rw[cD e,cD e,ih]
theorem lR (Jf:List (κ×V))(k j:κ)(y:V):dQ (fR Jf k y) j=if j=k then some y else dQ Jf j:=by
 unfold fR
 by_cases a:(Jf.any λkv=>decide (kv.1=k))=true
 ·rw[qk a,qY];rw[gK] at a
  by_cases e:j=k
  ·obtain⟨x,hx⟩:=yB.mp a;rw[qk e,e,hx,Option.map_some,qk rfl]
  ·rw[IX e]
   cases dQ Jf j with
   |none=>rfl
   |some x=>rw[Option.map_some,IX e]
 ·rw[IX a];refine oA k j y Jf ?_;rw[gK] at a
  cases q:dQ Jf k with
  |none=>rfl
  |some x=>rw[q] at a;exact(a rfl).elim
theorem gM (Jf:List (κ×V))(k:κ)(v:V):(fR Jf k v).length<=Jf.length+1:=by
 unfold fR
 split
 ·rw[EZ];omega
 ·rw[zr,sR,xP];omega
theorem gU.afY {o:Option V}{u:Option Value}(r:gU o u):o.isSome=u.isSome:=by
 cases o with
 |none=>cases u with
  |none=>rfl
  |some _=>exact(show False from r).elim
 |some _=>cases u with
  |none=>exact(show False from r).elim
  |some _=>rfl
theorem KV.val {Jf:List (κ×V)}{vs:List (κ×Value)}(r:KV Jf vs)(k:κ):gU (dQ Jf k) (valueAt vs k):=by
 unfold KV at r
 induction r with
 |nil=>exact True.intro
 |@cons p q ps qs h t ih =>
  obtain⟨h1,h2⟩:=h
  by_cases e:p.1=k
  ·have e':q.1=k:=h1.symm.trans e
   have b:valueAt (q::qs) k=some q.2:=by simp[valueAt,Ih,e']
   rw[cG e,b];exact h2
  ·have e':¬q.1=k:=λz=>e (h1.trans z)
   have b:valueAt (q::qs) k=valueAt qs k:=by simp[valueAt,Ih,e']
   rw[cD e,b];exact ih
theorem KV.any {Jf:List (κ×V)}{vs:List (κ×Value)}(r:KV Jf vs)(k:κ):(Jf.any λkv=>decide (kv.1=k))=vs.any λkv=>decide (kv.1=k):=by
 unfold KV at r
 induction r with
 |nil=>rfl
 |cons h t ih=>rw[HZ,HZ,ih,h.1]
theorem KV.ai7 {Jf:List (κ×V)}{vs:List (κ×Value)}(r:KV Jf vs)(k:κ)(ry:aL y u):
 KV (Jf.map λkv=>if kv.1=k then(kv.1,y) else kv) (vs.map λkv=>if kv.1=k then(kv.1,u) else kv):=by
 unfold KV at r |-
 induction r with
 |nil=>exact .nil
 |@cons p q ps qs h t ih =>
  rw[IZ,IZ];refine .cons ?_ ih;obtain⟨h1,h2⟩:=h
  by_cases e:p.1=k
  ·rw[qk e,qk (h1.symm.trans e)];exact⟨h1,ry⟩
  ·rw[IX e,IX (λz=>e (h1.trans z))];exact⟨h1,h2⟩
theorem KV.put {Jf:List (κ×V)}{vs:List (κ×Value)}(r:KV Jf vs)(k:κ)(ry:aL y u):KV (fR Jf k y) (stored vs k u):=by
 unfold fR stored;rw[r.any k]
 by_cases e:(vs.any λkv=>decide (kv.1=k))=true
 ·rw[qk e,qk e];exact r.ai7 k ry
 ·rw[IX e,IX e];exact zF r ⟨rfl,ry⟩
theorem KV.length {Jf:List (κ×V)}{vs:List (κ×Value)}(r:KV Jf vs):Jf.length=vs.length:=BI r
end
theorem qp {k:Key}(r:aL (kV k) u):(cE P w).is k u=true:=by
 cases k with
 |inl i=>obtain⟨t,e⟩:=(show ∃t,u=Value.int i t from r);subst e;exact aah P w i t
 |inr x=>obtain⟨t,e⟩:=(show ∃t,u=Value.str x t from r);subst e;exact aag P w x t
theorem nv :∀{ks:List Key}{us:HF},aN (ks.map kV) us->ItemsAre (cE P w) ks us
 |[],_,r=>by rw[List.map_nil] at r;cases r;exact .nil
 |k::ks,_,r=>by
  rw[IZ] at r
  cases r with
  |cons h t=>exact .cons (qp h) (nv t)
noncomputable abbrev KT (H:Hp):List (List Key×V)->List (List Key×Addr×Value)->Prop:=Paired λp q=>p.1=q.1/\H q.2.1=some (.tup (p.1.map kV))/\aL p.2 q.2.2
variable {Jf:List (List Key×V)}{xs:List (List Key×Addr×Value)}
theorem KT.val (r:KT H Jf xs)(k:List Key):gU (dQ Jf k) ((atKey xs k).map (·.2)):=by
 induction r with
 |nil=>exact True.intro
 |@cons p q ps qs h t ih =>
  obtain⟨h1,_,h2⟩:=h
  by_cases e:p.1=k
  ·have e':q.1=k:=h1.symm.trans e
   have b:atKey (q::qs) k=some q.2:=by simp[atKey,Ih,e']
   rw[cG e,b];exact h2
  ·have e':¬q.1=k:=λz=>e (h1.trans z)
   have b:atKey (q::qs) k=atKey qs k:=by simp[atKey,Ih,e']
   rw[cD e,b];exact ih
theorem KT.ai7 (r:KT H Jf xs)(k:List Key)(ry:aL y u):
 KT H (Jf.map λkv=>if kv.1=k then(kv.1,y) else kv) (xs.map (putAt k u)):=by
 induction r with
 |nil=>exact .nil
 |@cons p q ps qs h t ih =>
  rw[IZ,IZ];refine .cons ?_ ih;obtain⟨h1,h2,h3⟩:=h;unfold putAt
  by_cases e:p.1=k
  ·rw[qk e,qk (h1.symm.trans e)];exact⟨h1,h2,ry⟩
  ·rw[IX e,IX (λz=>e (h1.trans z))];exact⟨h1,h2,h3⟩
theorem KT.put (r:KT H Jf xs)(k:List Key)(hb:H b=some (.tup (k.map kV)))(ry:aL y u):
 KT H (fR Jf k y) (storedH xs k b u):=by
 have e:(Jf.any λkv=>decide (kv.1=k))=(atKey xs k).isSome:=by
  rw[gK,(r.val k).afY,zS]
 unfold fR storedH;rw[e]
 by_cases q:(atKey xs k).isSome=true
 ·rw[qk q,qk q];exact r.ai7 k ry
 ·rw[IX q,IX q];exact zF r ⟨rfl,hb,ry⟩
theorem KT.keeps (r:KT H Jf xs)(ht:∀b ys,H b=some (.tup ys)->H' b=some (.tup ys)):KT H' Jf xs :=
 Paired.agE r λ_ _ z=>⟨z.1,ht _ _ z.2.1,z.2.2⟩
section
variable {P:xq}{w:World}{H:Hp}{h:Heap}{a:Addr}
theorem C2 {u:HO}(ok:gk P w H h)(e:Rd H a u):bJ P w H h a u:=e.ok ok
theorem qL {Jf:List (Key×V)}(ok:gk P w H h)(e:Rd H a (.dK Jf)):Jf.length<=sizeLine/\(a==sysModules)=false/\∃vs,KV Jf vs/\h.DictOf (cE P w) a vs :=
 show bJ P w H h a (.dK Jf) from C2 ok e
theorem abf {Jf:List (Key×V)}(ok:gk P w H h)(e:H a=some (.dK Jf)):Jf.length<=sizeLine/\(a==sysModules)=false/\∃vs,KV Jf vs/\h.DictOf (cE P w) a vs:=qL ok (.inl e)
theorem jy {ks:List Key}(ok:gk P w H h)(e:H a=some (.tup (ks.map kV))):(tupleKind (cE P w)).is h ks a:=by
 obtain⟨_,its,r,o,h1,h2,n,h3⟩:=(show bJ P w H h a (.tup (ks.map kV)) from ok a _ e);exact⟨o,its.toArray,n,h1,h2,h3,by simpa using nv r⟩
theorem qy (ok:gk P w H h)(e:Rd H a (.dT Jf)):Jf.length<=sizeLine/\(a==sysModules)=false /\
 ∃xs,KT H Jf xs/\h.DictOfH (tupleKind (cE P w)) a xs:=by
 obtain⟨z,y,xs,r,o,es,ep,h1,h2,h3,h4,h5⟩:=(show bJ P w H h a (.dT Jf) from C2 ok e);refine⟨z,y,xs,r,o,es,ep,h1,h2,h3,h4,λx hx=>?_,h5⟩
 have all:∀{l:List (List Key×V)}{m:List (List Key×Addr×Value)},KT H l m->∀x∈m,(tupleKind (cE P w)).is h x.1 x.2.1:=by
  intro l m q
  induction q with
  |nil=>intro x hx;exact nomatch hx
  |@cons p q ps qs hq t ih =>
   intro x hx
   rcases HK.mp hx with e|hx
   ·subst e;exact jy ok (by rw[<-hq.1];exact hq.2.1)
   ·exact ih x hx
 exact all r x hx
theorem Di (ok:gk P w H h)(e:H a=some (.dT Jf)):Jf.length<=sizeLine/\(a==sysModules)=false /\
 ∃xs,KT H Jf xs/\h.DictOfH (tupleKind (cE P w)) a xs:=qy ok (.inl e)
end
noncomputable def i9 (H:Hp)(a:Addr)(y:V)(r:Option V):Prop :=
 (∃Jf k,Rd H a (.dK Jf)/\y=kV k/\r=dQ Jf k)\/∃Jf k b,Rd H a (.dT Jf)/\y=.ref b/\H b=some (.tup (k.map kV))/\r=dQ Jf k
noncomputable def tX (H:Hp)(a:Addr)(y v:V)(H':Hp):Prop :=
 (∃Jf k,H a=some (.dK Jf)/\y=kV k/\Jf.length<sizeLine/\H'=upd H a (.dK (fR Jf k v))) \/
 ∃Jf k b,H a=some (.dT Jf)/\y=.ref b/\H b=some (.tup (k.map kV))/\Jf.length<sizeLine/\H'=upd H a (.dT (fR Jf k v))
theorem i9.t {b:Addr}{k:List Key}(e:H a=some (.dT Jf))(eb:H b=some (.tup (k.map kV))):i9 H a (.ref b) (dQ Jf k):=.inr ⟨Jf,k,b,.inl e,rfl,eb,rfl⟩
theorem tX.t {b:Addr}{k:List Key}{v:V}(e:H a=some (.dT Jf))(eb:H b=some (.tup (k.map kV)))(hl:Jf.length<sizeLine):
 tX H a (.ref b) v (upd H a (.dT (fR Jf k v))):=.inr ⟨Jf,k,b,e,rfl,eb,hl,rfl⟩
section
variable {X:Cx}{pins:List (Addr×Obj)}{σ:St}{H:Hp}{s:pL}{a:Addr}{y v:V}{u r:Value}{o:Option V}{A:Around}{E:AU}
theorem Inv.big (I:Inv X pins σ H s):sysModules<s.heap.objs.size:=by
 have h:mainGlobals<s.heap.objs.size:=(I.mod.glob.keeps I.bk).lt;exact Bb (by decide) h
theorem abS {Q:AU}(hu:A.units+1<cLine)(I:Inv X pins σ H s)(g:i9 H a y (some v))(ry:aL y u)(h:∀w' s',Inv X pins σ H s'->aL v w'->Q w' s'):
 wpAny (model X.prog X.w) A (getItem (.ref a) u) Q E s:=by
 rcases g with⟨Jf,k,e,ey,l⟩|⟨Jf,k,b,e,ey,eb,l⟩
 ·subst ey;obtain⟨z,hd,vs,rel,dd⟩:=qL I.hok e;obtain⟨w',hw,JV⟩:=gU.some_of (v:=v) (o:=valueAt vs k) (by rw[l];exact rel.val k);exact wpAny_getItem_of (qp ry) dd.mapOf hw (h w' _ (I.tok _) JV)
 ·subst ey
  cases(show u=Value.ref b from ry)
  obtain⟨z,hd,xs,rel,dd⟩:=qy I.hok e;obtain⟨w',hw,JV⟩:=gU.some_of (v:=v) (o:=(atKey xs k).map (·.2)) (by rw[l];exact rel.val k);obtain⟨p,hp,OB⟩:=uJ.mp hw;refine wpAny_getItem_heap (EG hu) (jy I.hok eb) dd hp ?_;rw[OB];exact h w' _ (I.tok _) JV
theorem acb {Q:AU}(hu:A.units+1<cLine)(I:Inv X pins σ H s)(g:i9 H a y o)(ry:aL y u)(h:∀s',Inv X pins σ H s'->Q (.bool o.isSome) s'):
 wpAny (model X.prog X.w) A (compareOp .In u (.ref a)) Q E s:=by
 rcases g with⟨Jf,k,e,ey,l⟩|⟨Jf,k,b,e,ey,eb,l⟩
 ·subst ey;obtain⟨z,hd,vs,rel,dd⟩:=qL I.hok e;refine wpAny_in_of (qp ry) hd dd.mapOf ?_;rw[<-(rel.val k).afY,<-l];exact h _ (I.tok _)
 ·subst ey
  cases(show u=Value.ref b from ry)
  obtain⟨z,hd,xs,rel,dd⟩:=qy I.hok e;refine wpAny_in_heap (EG hu) (jy I.hok eb) hd dd ?_;have q:=(rel.val k).afY;rw[zS] at q;rw[<-q,<-l];exact h _ (I.tok _)
theorem isI {Q:AU}(hu:A.units+1<cLine)(I:Inv X pins σ H s)(g:i9 H a y o)(ry:aL y u)(h:∀s',Inv X pins σ H s'->Q (.bool (!o.isSome)) s'):
 wpAny (model X.prog X.w) A (compareOp .NotIn u (.ref a)) Q E s:=by
 rcases g with⟨Jf,k,e,ey,l⟩|⟨Jf,k,b,e,ey,eb,l⟩
 ·subst ey;obtain⟨z,hd,vs,rel,dd⟩:=qL I.hok e;refine wpAny_notIn_of (qp ry) hd dd.mapOf ?_;rw[<-(rel.val k).afY,<-l];exact h _ (I.tok _)
 ·subst ey
  cases(show u=Value.ref b from ry)
  obtain⟨z,hd,xs,rel,dd⟩:=qy I.hok e;refine wpAny_notIn_heap (EG hu) (jy I.hok eb) hd dd ?_;have q:=(rel.val k).afY;rw[zS] at q;rw[<-q,<-l];exact h _ (I.tok _)
theorem pK {h':Heap}{t':Nat}{ob:HO}(I:Inv X pins σ H s)(mu:GN (H a))(hs:Heap.SameBut a s.heap h')(he:∃q,h'.get? a=some q)(new:bJ X.prog X.w (upd H a ob) h' a ob):
 Inv X pins σ (upd H a ob) {s with heap:=h',toks:=t'}:=
 I.write (x:=a) (e:=a) mu (.inl rfl) (λb q hb z=>(hs.2 b hb).trans z) he new
theorem aga {h':Heap}{Jf:List (Key×V)}{vs:List (Key×Value)}(z:Jf.length<=sizeLine)(hd:(a==sysModules)=false)(rel:KV Jf vs)(dd:h'.DictOf (cE P w) a vs):
 bJ P w H' h' a (.dK Jf):=⟨z,hd,vs,rel,dd⟩
theorem Gth {Q:Unit->Shared->Prop}(hu:A.units+1<cLine)(I:Inv X pins σ H s)(g:tX H a y v H')(ry:aL y u)(rv:aL v r)(h:∀s',Inv X pins σ H' s'->Q () s'):
 wpAny (model X.prog X.w) A (setItem (.ref a) u r) Q E s:=by
 rcases g with⟨Jf,k,e,ey,l,eH⟩|⟨Jf,k,b,e,ey,eb,l,eH⟩
 ·subst ey eH;obtain⟨z,hd,vs,rel,dd⟩:=abf I.hok e
  have hz:vs.length<=sizeLine:=by rw[<-rel.length];exact z
  have hl:(fR Jf k v).length<=sizeLine:=by have:=gM Jf k v;omega
  refine wpAny_setItem_pairs (hsz:=hz) (qp ry) dd λh' OC hs=>h _ ?_;have he:∃q,h'.get? a=some q:=let⟨q,_,_,hq,_⟩:=OC;⟨q,hq⟩;exact pK I (by rw[e];exact True.intro) hs he (aga hl hd (rel.put k rv) OC)
 ·subst ey eH
  cases(show u=Value.ref b from ry)
  obtain⟨z,hd,xs,rel,dd⟩:=Di I.hok e
  have hz:xs.length<=sizeLine:=by rw[<-BI rel];exact z
  have hl:(fR Jf k v).length<=sizeLine:=by have:=gM Jf k v;omega
  refine wpAny_setItem_heap (hsz:=hz) (EG hu) (jy I.hok eb) dd λh' OC hs=>h _ ?_;obtain⟨q,es,ep,hq,h2,h3,h4,_,h5⟩:=OC;refine pK I (by rw[e];exact True.intro) hs ⟨q,hq⟩ ⟨hl,hd,_,(rel.put k eb rv).keeps λc ys ec=>?_,q,es,ep,hq,h2,h3,h4,h5⟩;rw[aA (nO ec e (λz=>nomatch z))];exact ec
end
noncomputable def Gj (i:Expr):Prop:=∀ov iv,subscripted i false ov iv=operate [ov,iv] (getItem ov iv)
theorem afQ {prog:xq}{E:AU}{env:Env}{value slice:Expr}{T id:String}{Q:AU}
 (hl:typeLookup (.type T) "__getitem__"=pure (some (.builtin id)))(hs:Gj slice)
 (h:wpAny (model prog w) A (eval value env) (λo s₁=>wpAny (model prog w) A (eval slice env) (λi s₂=>s₂.TypeIs o T/\wpAny (model prog w) A (getItem o i) Q E s₂) E s₁) E s):
 wpAny (model prog w) A (eval (.Subscript value slice pos) env) Q E s:=by
 refine Subscript_ (Ax h (λo s₁ h₁=>Ax h₁ (λi s₂ h₂=>?_) λ_ _ x=>x) λ_ _ x=>x);obtain⟨hT,h₂⟩:=h₂;unfold subscriptTail;refine IW ?_;rw[getitemInPython_of_ne hT.not_modules];refine IW (wpAny_specialOf hT hl ?_)
 have fin:wpAny (model prog w) A (subscripted slice false o i) (λr s₃=>wpAny (model prog w) A (letTemporaryGo value o r>>=λ_=>pure r) Q E s₃) E s₂:=by
  rw[hs o i];exact wpAny_operating (Ax h₂ (λr s₃ h₃=>IW (wpAny_letTemporaryGo (Fc h₃))) λ_ _ x=>x)
 first
  |exact Fc (IW fin)
  |exact IW (Fc (IW fin))
  |exact IW fin
theorem afN {o:Option V}(I:Inv X pins σ H s)(g:i9 H a y o):s.TypeIs (.ref a) "dict":=by
 rcases g with⟨Jf,k,e,_,_⟩|⟨Jf,k,b,e,_,_,_⟩
 ·obtain⟨_,_,vs,_,dd⟩:=qL I.hok e;exact dd.typeIs
 ·obtain⟨_,_,xs,_,dd⟩:=qy I.hok e;exact dd.typeIs
noncomputable def aaG (td ty:TE):TE:=λσ H Q=>td σ H λx H1=>ty σ H1 λy H2=>∃a v,x=.ref a/\i9 H2 a y (some v)/\Q v H2
noncomputable def aaJ (ty td:TE):TE:=λσ H Q=>ty σ H λy H1=>td σ H1 λx H2=>∃a o,x=.ref a/\i9 H2 a y o/\Q (.bl o.isSome) H2
noncomputable def aaU (ty td:TE):TE:=λσ H Q=>ty σ H λy H1=>td σ H1 λx H2=>∃a o,x=.ref a/\i9 H2 a y o/\Q (.bl (!o.isSome)) H2
noncomputable def aa4 (td ty tv:TE):TS:=λD σ H=>tv σ H λv H1=>td σ H1 λx H2=>ty σ H2 λy H3=>∃a H4,x=.ref a/\tX H3 a y v H4/\D.nx σ H4
section
variable {X:Cx}{o i e value:Expr}{pos pos' UD:Pos}{td ty tv:TE}
theorem pQ (hu:X.A.units+1<cLine)(ho:PE X o td)(hi:PE X i ty)(hs:Gj i):PE X (.Subscript o i pos) (aaG td ty):=by
 intro pins s σ H Q I h;refine afQ PySem.F.slot_dict_getitem.lookup hs (cx (ho pins s σ H _ I h) λu s1 ⟨x,H1,I1,rx,q1⟩=>cx (hi pins s1 σ H1 _ I1 q1) λiv s2 z'=>?_);obtain⟨y,H2,I2,ry,a,v,ex,g,q2⟩:=z';subst ex;obtain rfl:u=Value.ref a:=rx;exact⟨afN I2 g,abS hu I2 g ry λw' s3 I3 JV=>⟨v,H2,I3,JV,q2⟩⟩
theorem abc (hu:X.A.units+1<cLine)(hi:PE X i ty)(ho:PE X o td):PC X .In i o (aaJ ty td):=by
 intro pins s σ H Q I h;refine cx (hi pins s σ H _ I h) λiv s1 ⟨y,H1,I1,ry,q1⟩=>cx (ho pins s1 σ H1 _ I1 q1) λu s2 z'=>?_;obtain⟨x,H2,I2,rx,a,ov,ex,g,q2⟩:=z';subst ex;obtain rfl:u=Value.ref a:=rx;exact acb hu I2 g ry λs3 I3=>⟨.bl ov.isSome,H2,I3,rfl,q2⟩
theorem abo (hu:X.A.units+1<cLine)(hi:PE X i ty)(ho:PE X o td):PC X .NotIn i o (aaU ty td):=by
 intro pins s σ H Q I h;refine cx (hi pins s σ H _ I h) λiv s1 ⟨y,H1,I1,ry,q1⟩=>cx (ho pins s1 σ H1 _ I1 q1) λu s2 z'=>?_;obtain⟨x,H2,I2,rx,a,ov,ex,g,q2⟩:=z';subst ex;obtain rfl:u=Value.ref a:=rx;exact isI hu I2 g ry λs3 I3=>⟨.bl (!ov.isSome),H2,I3,rfl,q2⟩
theorem we (hu:X.A.units+1<cLine)(ho:PE X o td)(hi:PE X i ty)(hv:PE X value tv)(hs:swapsWith value (some (.Subscript o i pos')) pos.line X.env=pure false):
 PS X (.Assign [.Subscript o i pos'] value pos) (aa4 td ty tv):=by
 intro pins s σ H D I h;refine wpAny_Assign_Subscript (cx (hv pins s σ H _ I h) λr s1 ⟨v,H1,I1,rv,q1⟩=>cx (ho pins s1 σ H1 _ I1 q1) λu s2 ⟨x,H2,I2,rx,q2⟩=>cx (hi pins s2 σ H2 _ I2 q2) λiv s3 z'=>?_) hs;obtain⟨y,H3,I3,ry,a,H4,ex,g,q3⟩:=z';subst ex;obtain rfl:u=Value.ref a:=rx;exact Gth hu I3 g ry rv λs4 I4=>⟨σ,H4,I4,q3⟩
end
theorem rd (h:Heap)(hb:sysModules<h.objs.size):bJ P w H (h.push {cls:=.type "dict",data:=.dict #[]}) h.objs.size (.dT []):=
 ⟨Gy _,Ex.mpr (Bt (IB hb)),[],.nil,_,#[],0,Fg _ rfl,⟨rfl,rfl,rfl⟩,rfl,rfl,Ef⟩
noncomputable def ai8:TE:=λ_ H Q=>∀p,H p=none->Q (.ref p) (upd H p (.dT []))
section
variable {X:Cx}{pos:Pos}
theorem abx:PE X (.Dict [] [] pos) ai8:=λpins s σ H Q I h =>
 wpAny_Dict_empty ⟨.ref s.heap.objs.size,_,I.laid (a:=s.heap.objs.size) (o:=.dT []) (t':=s.toks) (λ_ _ q=>Ez _ q) (yH _) (rd s.heap I.big),rfl,h _ (I.hok.fresh (yH _))⟩
end
end L2
namespace HT
open PySem PyProof.Rows
noncomputable def de:List Int->List Int->Bool
 |[],[]=>false
 |[],_::_=>true
 |_::_,[]=>false
 |x::xs,y::ys=>if x=y then de xs ys else decide (x<y)
theorem eC (x y:Int)(xs ys:List Int):de (x::xs) (y::ys)=if x=y then de xs ys else decide (x<y):=rfl
theorem aby:de [] []=false:=rfl
theorem Cls (y:Int)(ys:List Int):de [] (y::ys)=true:=rfl
theorem agf (x:Int)(xs:List Int):de (x::xs) []=false:=rfl
theorem agg (A:Around)(s:pL)(a:Int)(t:Tok)(c:Int)(u:Tok):∃e,SeqAt.EqAt A s (.int a t) (.int c u) e/\(e=true↔a=c):=
 ⟨(a==c),qz a t c u,by simp⟩
theorem rnm (A:Around)(s:pL)(a:Int)(t:Tok)(c:Int)(u:Tok)(prog:xq)(w:World)(E:AU)(Q:AU)(h:Q (.bool (decide (a<c))) s):
 wpAny (model prog w) A (richCompare .Lt (.int a t) (.int c u)) Q E s :=
 (PyProof.Rows.lt_int h:wpAny (model prog w) A (compareOp .Lt (.int a t) (.int c u)) Q E s)
section
open PySem.SeqAt
open PySem.AutoSeq1 (wpAny_loadPart')
open PySem.MeetsSeq PySem.MeetsSeq2 PySem.MeetsSeq3
theorem aaS (l b:Addr)(items Jr:Il)(n n2:Nat)(dd Mm:DT)(sl Le:xA)(ns ms:List Int)(hi:IntsAre items.toList ns)(hj:IntsAre Jr.toList ms):
 Meets (Builtin.«tuple.__lt__» ⟨[.ref l,.ref b],[]⟩)
  (λ_ R s=>s.heap.get? l=some {cls:=.type "tuple",dict:=dd,data:=.seq items n,slots:=sl}/\s.heap.get? b=some {cls:=.type "tuple",dict:=Mm,data:=.seq Jr n2,slots:=Le} /\
   R (.ok (.ret (.bool (de ns ms)))) s):=
 .of_wp λprog w A R s h=>by
  obtain⟨hp,g,d,tk,os⟩:=s;obtain⟨hl,hb,h⟩:=h;have f2:=AutoSeq1.sub_tuple_tuple
  have z1:items.size=ns.length:=by rw[<-hi.length];simp
  have z2:Jr.size=ms.length:=by rw[<-hj.length];simp
  wp_walk using wpAny_loadPart' hl,wpAny_loadPart' hb,wpAny_forIn_list _ (λrest b s'=>b.1=none/\s'=⟨hp,g,d,tk,os⟩/\∃(vs ws:HF)(Mn OD:List Int),rest=vs.zip ws /\
   IntsAre vs Mn/\IntsAre ws OD/\Mn.length+Jr.size=OD.length+items.size/\R (.ok (.ret (.bool (de Mn OD)))) ⟨hp,g,d,tk,os⟩) _
  case turn =>
   rintro⟨y,x⟩ rest b s' ⟨Ju,rfl,vs,ws,Mn,OD,hz,UG,Ts,hlen,hR⟩
   cases UG with
   |nil=>rw[List.zip_nil_left] at hz;cases hz
   |cons a t UH =>
    cases Ts with
    |nil=>rw[List.zip_nil_right] at hz;cases hz
    |cons c u UI =>
     rw[List.zip_cons_cons] at hz
     injection hz with hyx Pe
     injection hyx with hy hx
     subst hy hx;rw[eC] at hR;simp only[sR] at hlen;obtain⟨e,he,Pf⟩:=agg A.in1 ⟨hp,g,d,tk,os⟩ a t c u;refine IW (he prog w _ _ ?_)
     cases e with
     |true =>
      rw[qk (Pf.mp rfl)] at hR
      wp_walk
      exact⟨rfl,rfl,_,_,_,_,Pe,UH,UI,by omega,hR⟩
     |false =>
      rw[IX (λq=>absurd (Pf.mpr q) E7)] at hR;have hri:=rnm A.in1 ⟨hp,g,d,tk,os⟩ a t c u prog w
      wp_walk using hri
      exact⟨_,rfl,by simpa using hR⟩
  case fin =>
   rintro⟨b1,b2⟩ s' ⟨Ju,rfl,vs,ws,Mn,OD,hz,UG,Ts,hlen,hR⟩;simp only at Ju;subst Ju
   have hv:de Mn OD=decide (items.size<Jr.size):=by
    cases UG with
    |nil =>
     cases Ts with
     |nil =>
      simp only[xP] at hlen;rw[aby];exact(IA (by omega)).symm
     |cons c u hw =>
      simp only[xP,sR] at hlen;rw[Cls];exact(Iw (by omega)).symm
    |cons a t hv =>
     cases Ts with
     |nil =>
      simp only[xP,sR] at hlen;rw[agf];exact(IA (by omega)).symm
     |cons c u hw =>
      rw[List.zip_cons_cons] at hz
      cases hz
   rw[hv] at hR
   wp_walk
   exact⟨_,rfl,by simpa[Builtin.Tuple.tupleCompareSizes] using hR⟩
  case h =>
   exact⟨rfl,rfl,items.toList,Jr.toList,ns,ms,rfl,hi,hj,by omega,h⟩
end
section
variable {prog:xq}{w:World}{A:Around}{E:AU}{s:pL}
theorem abw {l b:Addr}{items Jr:Il}{ns ms:List Int}{Q:AU}(hl:IsTup s.heap l items)(hb:IsTup s.heap b Jr)(hi:IntsAre items.toList ns)(hj:IntsAre Jr.toList ms)
 (hu:A.units<cLine)(h:Q (.bool (de ns ms)) s):wpAny (model prog w) A (compareOp .Lt (.ref l) (.ref b)) Q E s:=by
 obtain⟨⟨cls,dd,data,sl⟩,ho,hc,n,hd⟩:=id hl;obtain⟨⟨Pg,Mm,data2,Le⟩,KL,K0,n2,hd2⟩:=id hb;simp only at hc hd K0 hd2;subst hc hd K0 hd2
 exact richCompare_meets_room (op:=.Lt) ⟨_,ho,rfl⟩ ⟨_,KL,rfl⟩ PySem.F.slot_tuple_lt PySem.F.entry_tuple_lt (PySem.F.args_tuple_lt_2 _ _) (aaS l b items Jr n n2 dd Mm sl Le ns ms hi hj)
  ⟨ho,KL,show Value.bool (de ns ms)≠Value.notImplemented/\Q (.bool (de ns ms)) s from⟨(λx=>nomatch x),h⟩⟩ hu
theorem agi {t b:Addr}{vs ws:HF}{Q:AU}(ht:IsTup s.heap t vs.toArray)(hb:IsTup s.heap b ws.toArray)(hv:vs≠[])
 (h1:ws=[]->Q (.ref t) s)(h2:ws≠[]->Q (.ref s.heap.objs.size) {s with heap:=s.heap.push {cls:=.type "tuple",data:=.seq (vs++ws).toArray} })
 (hsz:vs.length+ws.length<=sizeLine):wpAny (model prog w) A (binaryOp .Add (.ref t) (.ref b)) Q E s:=by
 obtain⟨⟨cls,dd,data,sl⟩,ho,hc,n,hd⟩:=id ht;obtain⟨⟨Pg,Mm,data2,Le⟩,KL,K0,n2,hd2⟩:=id hb;simp only at hc hd K0 hd2;subst hc hd K0 hd2
 have e:vs.toArray++ws.toArray=(vs++ws).toArray:=by simp
 by_cases hw:ws=[]
 ·exact concat_meets ⟨_,ho,rfl⟩ ⟨_,KL,rfl⟩ sJ seq_tuple_add Bo tG (CQ _ _)
   (tuple_addW1 t b vs.toArray ws.toArray n n2 dd Mm sl Le (by simpa using hv) (by simp[hw])) ⟨ho,KL,h1 hw⟩
 ·refine concat_meets ⟨_,ho,rfl⟩ ⟨_,KL,rfl⟩ sJ seq_tuple_add Bo tG (CQ _ _)
   (tuple_addW2 t b vs.toArray ws.toArray n n2 dd Mm sl Le (by simpa using hv) (by simpa using hw) (by rw[Jc,Jc];exact hsz)) ⟨ho,KL,?_⟩
  rw[e];exact h2 hw
noncomputable def eP (n d:Nat):Option Int->Nat
 |none=>d
 |some v=>if v<0 then(v+(n:Int)).toNat else min v.toNat n
theorem TyX (n d:Nat):eP n d none=d:=rfl
theorem afP (n d k:Nat):eP n d (some (k:Int))=min k n:=by
 show(if(k:Int)<0 then((k:Int)+(n:Int)).toNat else min (k:Int).toNat n)=min k n;rw[IX (by omega),Ho]
theorem afU (n d:Nat)(hd:d<=n)(o:Option Int):eP n d o<=n:=by
 cases o with
 |none=>exact hd
 |some v =>
  show(if v<0 then(v+(n:Int)).toNat else min v.toNat n)<=n
  by_cases hv:v<0
  ·rw[qk hv];omega
  ·rw[IX hv];exact jP _ _
theorem vn (v:Int)(n d:Nat):(if v<0 then max (v+(n:Int)) 0 else min v (n:Int))=((eP n d (some v):Nat):Int):=by
 show(if v<0 then max (v+(n:Int)) 0 else min v (n:Int))=(((if v<0 then(v+(n:Int)).toNat else min v.toNat n):Nat):Int)
 by_cases hv:v<0
 ·simp only[qk hv];omega
 ·simp only[IX hv];omega
theorem aaV (lo hi:Option Int)(n:Nat):Builtin.Slice.sliceAdjust lo hi 1 (n:Int)=(((eP n 0 lo:Nat):Int),((eP n n hi:Nat):Int)):=by
 have h1:¬((1:Int)<0):=by omega
 unfold Builtin.Slice.sliceAdjust;simp only[h1,wR];refine Ey ?_ ?_
 ·cases lo with
  |none=>rfl
  |some v=>exact vn v n 0
 ·cases hi with
  |none=>rfl
  |some v=>exact vn v n n
theorem aa1 (i j:Nat):Builtin.Slice.slicePlaces (i:Int) (j:Int) 1=j-i:=by
 unfold Builtin.Slice.slicePlaces
 have h1:(1:Int)>0:=by omega
 simp only[h1,Ij,Int.ediv_one]
 split <;> omega
theorem lF {v:Value}{o:Option Int}{Q:Option Int->Shared->Prop}(p:IsPart v o)(h:Q o s):wpAny (model prog w) A (Builtin.Slice.slicePartIndex v) Q E s:=by
 cases p with
 |none=>exact slicePart_none h
 |int i t=>exact slicePart_int h
theorem fL {sl:Addr}{vl vu:Value}{lo hi:Option Int}{n:Nat}{Q:Int×Int×Nat->Shared->Prop}(hs:s.heap.IsSliceOf sl vl vu .none)(pl:IsPart vl lo)(pu:IsPart vu hi)
 (h:Q (((eP n 0 lo:Nat):Int),1,eP n n hi-eP n 0 lo) s):wpAny (model prog w) A (Builtin.Slice.sliceApplied (.ref sl) (pure (n:Int))) Q E s:=by
 obtain⟨os,Nb,Tt,Ph⟩:=id hs;unfold Builtin.Slice.sliceApplied Builtin.Slice.sliceFields;refine IW (IW (zV Nb Ph (x:=vl) rfl (IW (zV Nb Ph (x:=vu) rfl (IW (zV Nb Ph (x:=.none) rfl (Fc ?_)))))));refine IW (slicePart_none ?_);show wpAny _ _ (if((1:Int)==0)=true then _ else _) _ _ s;rw[IX (by decide)];refine IW (lF pl (IW (lF pu (IW (Fc ?_)))));show wpAny _ _ (match Builtin.Slice.sliceAdjust lo hi 1 (n:Int) with|(lo,hi)=>pure (lo,(1:Int),Builtin.Slice.slicePlaces lo hi 1)) _ _ s;rw[aaV lo hi n];show wpAny _ _ (pure (((eP n 0 lo:Nat):Int),(1:Int),Builtin.Slice.slicePlaces ((eP n 0 lo:Nat):Int) ((eP n n hi:Nat):Int) 1)) _ _ s;rw[aa1];exact Fc h
theorem aa3 (xs:Il)(i k:Nat):((List.range k).filterMap λ(m:Nat)=>xs[((i:Int)+(m:Int)*1).toNat]?).toArray=((xs.toList.drop i).take k).toArray:=by
 have e:(λ(m:Nat)=>xs[((i:Int)+(m:Int)*1).toNat]?)=λm=>xs[i+m]?:=by
  funext m
  have:((i:Int)+(m:Int)*1).toNat=i+m:=by omega
  rw[this]
 rw[e];have:=pick_run xs i k;rw[List.filterMap_map] at this;have e2:((λx=>xs[x]?) ∘ λx=>i+x)=λm=>xs[i+m]?:=rfl;rw[e2] at this;rw[this]
theorem abp {t sl:Addr}{items:Il}{vl vu:Value}{lo hi:Option Int}{Q:AU}(ht:IsTup s.heap t items)(hs:s.heap.IsSliceOf sl vl vu .none)(pl:IsPart vl lo)(pu:IsPart vu hi)
 (hw:¬(eP items.size 0 lo=0/\eP items.size items.size hi=items.size))
 (h:Q (.ref s.heap.objs.size) {s with heap:=s.heap.push {cls:=.type "tuple",data:=.seq ((items.toList.drop (eP items.size 0 lo)).take (eP items.size items.size hi-eP items.size 0 lo)).toArray} })
 (hsz:items.size<=sizeLine):wpAny (model prog w) A (getItem (.ref t) (.ref sl)) Q E s:=by
 have KA:sizeOk (.seq ((items.toList.drop (eP items.size 0 lo)).take (eP items.size items.size hi-eP items.size 0 lo)).toArray):=by
  show((items.toList.drop (eP items.size 0 lo)).take (eP items.size items.size hi-eP items.size 0 lo)).toArray.size<=sizeLine;rw[Jc,xo,zU,yh];omega
 have hj:eP items.size items.size hi<=items.size:=afU _ _ (yH _) hi;obtain⟨os,Nb,Tt,Ph⟩:=id hs;have UJ:s.TypeIs (.ref sl) "slice":=⟨os,Nb,Tt⟩;unfold getItem
 try with_reducible refine BV ?_
 first|refine IW (Fc ?_)|skip
 refine IW (wpAny_sequenceKey ht.typeIs (by decide) ?_)
 refine IW (tE (name:=Str.ofString "__getitem__") ht.typeIs B0
  (tP B0 ht.typeIs entry_tuple_getitem ?_ (args_tuple_getitem _ _)))
 show wpAny _ _ (Builtin.Tuple.tupleItemsOf (.ref t)>>=_) _ _ s;refine IW (tupleItemsOf_ ht ?_);refine IW (AO UJ ?_);rw[qk (by decide)];refine IW (fL hs pl pu ?_)
 have Pj:¬((((eP items.size 0 lo:Nat):Int)==0&&(1:Int)==1&&(eP items.size items.size hi-eP items.size 0 lo)==items.size)=true):=by
  intro q;rw[Ir,Ir] at q;have q1:((eP items.size 0 lo:Nat):Int)=0:=eq_of_beq q.1.1;have q2:eP items.size items.size hi-eP items.size 0 lo=items.size:=eq_of_beq q.2;exact hw ⟨by omega,by omega⟩
 show wpAny _ _ (if(((eP items.size 0 lo:Nat):Int)==0&&(1:Int)==1&&(eP items.size items.size hi-eP items.size 0 lo)==items.size)=true then _ else _) _ _ s;rw[IX Pj,aa3]
 first
  |exact IW (m:=Builtin.Tuple.tupleExact _) (Bf (Fc ⟨_,rfl,Fc h⟩) KA)
  |exact IW (m:=Builtin.Tuple.tupleExact _) (Bf (IW (Fc (Fc ⟨_,rfl,Fc h⟩))) KA)
  |exact IW (IW (m:=Builtin.Tuple.tupleExact _) (Bf (Fc (Fc ⟨_,rfl,Fc h⟩)) KA))
  |exact IW (IW (m:=Builtin.Tuple.tupleExact _) (Bf (Fc ⟨_,rfl,Fc h⟩) KA))
end
end HT
namespace L2
open PySem PySem.Spec PyProof.Rows
noncomputable abbrev TO:=St->Hp->(Option Int->Hp->Prop)->Prop
noncomputable def PO (X:Cx)(e:Option Expr)(t:TO):Prop :=
 ∀(pins:List (Addr×Obj))(s:pL)(σ:St)(H:Hp)(Q:Option Int->Hp->Prop),Inv X pins σ H s->t σ H Q →
  wpAny (model X.prog X.w) X.A (evalPart e X.env) (λu s'=>∃o H',Inv X pins σ H' s'/\IsPart u o/\Q o H') X.xe s
noncomputable def aiA:TO:=λ_ H Q=>Q none H
noncomputable def abv (t:TE):TO:=λσ H Q=>t σ H λx H1=>∃i,x=.int i/\Q (some i) H1
theorem mz {ns:List Int}:∀{us:HF},aN (ns.map V.int) us->IntsAre us ns:=by
 induction ns with
 |nil=>intro us r;rw[List.map_nil] at r;cases r;exact .nil
 |cons n ns ih =>
  intro us r;rw[IZ] at r
  cases r with
  |cons r1 r2 =>
   obtain⟨t,e⟩:=r1;subst e;exact .cons n t (ih r2)
variable {xs:List V}
section
variable {X:Cx}{e:Expr}{te:TE}{lo hi:Option Expr}{tl th:TO}{pos p2:Pos}
theorem j4:PO X none aiA:=by
 intro pins s σ H Q I h;rw[evalPart_none];exact Fc ⟨none,H,I,.none,h⟩
theorem jS (h:PE X e te):PO X (some e) (abv te):=by
 intro pins s σ H Q I hw;rw[evalPart_some];refine cx (h pins s σ H _ I hw) λu s1 z'=>?_;obtain⟨x,H1,I1,r1,q1⟩:=z';obtain⟨i,rfl,q⟩:=q1;obtain⟨t,rfl⟩:=r1;exact⟨some i,H1,I1,.int i t,q⟩
noncomputable def HM (X:Cx)(r:V->Option Int->Option Int->Hp->VK->Prop):Prop :=
 ∀(pins:List (Addr×Obj))(s:pL)(σ:St)(H:Hp)(x:V)(v vl vu:Value)(lo hi:Option Int)(sl:Addr)(Q:VK),Inv X pins σ H s->aL x v->s.heap.IsSliceOf sl vl vu .none->IsPart vl lo->IsPart vu hi->r x lo hi H Q →
  ∃T id,typeLookup (.type T) "__getitem__"=pure (some (.builtin id))/\s.TypeIs v T/\wpAny (model X.prog X.w) X.A (getItem v (.ref sl)) (EP X pins σ Q) X.xe s
noncomputable def abM (r:V->Option Int->Option Int->Hp->VK->Prop)(te:TE)(tl th:TO):TE:=λσ H Q=>te σ H λx H1=>tl σ H1 λl H2=>th σ H2 λu H3=>r x l u H3 Q
theorem iX {r:V->Option Int->Option Int->Hp->VK->Prop}(hr:HM X r)(he:PE X e te)(hl:PO X lo tl)(hu:PO X hi th):PE X (.Subscript e (.Slice lo hi none p2) pos) (abM r te tl th):=by
 intro pins s σ H Q I h;refine Subscript_ (cx (he pins s σ H _ I h) λv s1 z'=>?_);obtain⟨x,H1,I1,r1,q1⟩:=z';refine wpAny_Slice (cx (hl pins s1 σ H1 _ I1 q1) λvl s2 ⟨l,H2,I2,pl,q2⟩=>cx (hu pins s2 σ H2 _ I2 q2) λvu s3 z'=>?_);obtain⟨u,H3,I3,pu,q3⟩:=z';rw[evalPart_none];refine Fc ?_;have I4:Inv X pins σ H3 {s3 with heap:=s3.heap.push {cls:=.type "slice",data:=.fields #[vl,vu,.none]} }:=I3.kept (t':=s3.toks) λb ob q=>Ez _ q;obtain⟨T,id,hT,ht,hg⟩:=hr pins {s3 with heap:=s3.heap.push {cls:=.type "slice",data:=.fields #[vl,vu,.none]} } σ H3 x v vl vu l u s3.heap.objs.size Q I4 r1 (Heap.IsSliceOf.new ..) pl pu q3;show wpAny (model X.prog X.w) X.A (subscriptTail e (.Slice lo hi none p2) v (.ref s3.heap.objs.size)) (EP X pins σ Q) X.xe {s3 with heap:=s3.heap.push {cls:=.type "slice",data:=.fields #[vl,vu,.none]} };exact tail_any (ops:=[.ref s3.heap.objs.size,v]) ht hT hg (by with_unfolding_all rfl)
noncomputable def kq (xs:List V)(lo hi:Option Int):List V:=(xs.drop (HT.eP xs.length 0 lo)).take (HT.eP xs.length xs.length hi-HT.eP xs.length 0 lo)
theorem abR (xs:List V)(lo hi:Option Int):(kq xs lo hi).length<=xs.length:=by
 unfold kq;rw[xo,zU];omega
noncomputable def ago (K:PySem.W.Frag):V->Option Int->Option Int->Hp->VK->Prop:=λx lo hi H Q=>∃a xs,x=.ref a/\bq K H a xs /\
 ¬(HT.eP xs.length 0 lo=0/\HT.eP xs.length xs.length hi=xs.length)/\∀p,H p=none->Q (.ref p) (upd H p (.tup (kq xs lo hi)))
theorem agp:HM X (ago X.K):=by
 intro pins s σ H x v vl vu lo hi sl Q I rx hs pl pu h;obtain⟨a,xs,rfl,hx,hw,q⟩:=h
 cases rx
 obtain⟨its,r,ht,hz⟩:=I.tuple hx
 have hlen:its.toArray.size=xs.length:=by rw[Jc];exact r.length.symm
 refine⟨"tuple",_,B0.lookup,ht.typeIs,?_⟩;refine HT.abp ht hs pl pu (by rw[hlen];exact hw) ?_ (by rw[hlen];exact hz);rw[hlen];refine⟨.ref s.heap.objs.size,_,I.laid (t':=s.toks) (o:=.tup (kq xs lo hi)) (λb ob q=>Ez _ q) (yH _) ?_,rfl,q _ (I.hok.fresh (yH _))⟩;exact⟨Ig (abR xs lo hi) hz,_,(r.drop (HT.eP xs.length 0 lo)).take (HT.eP xs.length xs.length hi-HT.eP xs.length 0 lo),IsTup.new _ _⟩
noncomputable def agq (K:PySem.W.Frag):R2:=λx y H Q=>∃a b xs ys,x=.ref a/\y=.ref b/\bq K H a xs/\bq K H b ys/\xs≠[]/\xs.length+ys.length<=sizeLine /\
 (ys=[]->Q (.ref a) H)/\(ys≠[]->∀p,H p=none->Q (.ref p) (upd H p (.tup (xs++ys))))
theorem aN.agN {us:HF}(r:aN xs us):us=[]↔xs=[]:=by
 cases r with
 |nil=>simp
 |cons _ _=>simp
theorem vG:eT X (binaryOp .Add) (agq X.K):=by
 intro pins s σ H x y v u Q I rx ry h;obtain⟨a,b,xs,ys,rfl,rfl,ha,hb,hx,hz,q1,q2⟩:=h
 cases rx
 cases ry
 obtain⟨its,r1,p1,_⟩:=I.tuple ha;obtain⟨Jj,r2,p2,_⟩:=I.tuple hb;refine HT.agi p1 p2 (λz=>hx (r1.agN.mp z)) (λz=>⟨.ref a,H,I,rfl,q1 (r2.agN.mp z)⟩) (λz=>?_) (by rw[<-r1.length,<-r2.length];exact hz);refine⟨.ref s.heap.objs.size,_,I.laid (t':=s.toks) (o:=.tup (xs++ys)) (λb ob q=>Ez _ q) (yH _) ?_,rfl,q2 (λw=>z (r2.agN.mpr w)) _ (I.hok.fresh (yH _))⟩;exact⟨by rw[zr];exact hz,_,r1.append r2,IsTup.new _ _⟩
end
noncomputable def xI (n:Nat)(i:Int):Option Nat:=if 0<=i then(if i<n then some i.toNat else none) else if -(n:Int)<=i then some (i+n).toNat else none
noncomputable def qX {α:Type}(xs:List α)(i:Int):Option α:=(xI xs.length i).bind λj=>xs[j]?
variable {n:Nat}
theorem uQ {i:Int}{j:Nat}(h:xI n i=some j):seqIndex? i n=some j/\j<n/\-(n:Int)<=i/\i<n:=by
 unfold xI at h
 by_cases h0:0<=i
 ·rw[qk h0] at h
  by_cases h1:i<n
  ·rw[qk h1] at h;have e:i.toNat=j:=Option.some.inj h;exact⟨by rw[seqIndex_of h0 h1,e],by omega,by omega,h1⟩
  ·rw[IX h1] at h;cases h
 ·rw[IX h0] at h
  by_cases h1:-(n:Int)<=i
  ·rw[qk h1] at h;have e:(i+n).toNat=j:=Option.some.inj h;exact⟨by rw[seqIndex_neg (by omega) h1,e],by omega,h1,by omega⟩
  ·rw[IX h1] at h;cases h
theorem vN {α:Type}{xs:List α}{i:Int}{v:α}(h:qX xs i=some v):∃j,seqIndex? i xs.length=some j/\xs[j]?=some v/\j<xs.length/\-(xs.length:Int)<=i/\i<xs.length:=by
 unfold qX at h
 cases e:xI xs.length i with
 |none=>rw[e] at h;cases h
 |some j =>
  rw[e] at h;obtain⟨h1,h2,h3,h4⟩:=uQ e;exact⟨j,h1,h,h2,h3,h4⟩
theorem pN {α:Type}{xs:List α}{j:Nat}{v:α}(h:xs[j]?=some v):qX xs (j:Int)=some v:=by
 have hj:j<xs.length:=(zp.mp h).1
 have e:xI xs.length (j:Int)=some j:=by
  unfold xI;rw[qk (by omega),qk (by omega)];simp
 unfold qX;rw[e];exact h
noncomputable def aaT (b:Expr):Prop:=∀o i,subscripted b false o i=operate [o,i] (getItem o i)
noncomputable def Ds (X:Cx)(r:R2):Prop :=
 ∀(value slice:Expr)(pins:List (Addr×Obj))(s:pL)(σ:St)(H:Hp)(x y:V)(v u:Value)(Q:VK),Inv X pins σ H s->aL x v->aL y u->r x y H Q →
  subscripted slice false v u=operate [v,u] (getItem v u)->wpAny (model X.prog X.w) X.A (subscriptTail value slice v u) (EP X pins σ Q) X.xe s
noncomputable def IC (X:Cx)(id:String)(r:V->List V->Hp->VK->Prop):Prop :=
 ∀(pins:List (Addr×Obj))(s:pL)(σ:St)(H:Hp)(x:V)(xs:List V)(v:Value)(us:HF)(Q:VK),Inv X pins σ H s->aL x v->aN xs us->r x xs H Q →
  wpAny (model X.prog X.w) X.A (call (.builtin id) (v::us)) (EP X pins σ Q) X.xe s
variable {pins:List (Addr×Obj)}{σ:St}{H:Hp}{s:pL}{its:HF}{x:V}
section
variable {X:Cx}{a b:Expr}{ta tb:TE}{pos:Pos}
theorem bf {r:R2}(hr:Ds X r)(ha:PE X a ta)(hb:PE X b tb)(hs:aaT b):PE X (.Subscript a b pos) (oq r ta tb):=by
 intro pins s σ H Q I h;exact Subscript_ (Fb ha hb I h λv u s2 x y H2 I2 rx ry q=>hr a b pins s2 σ H2 x y v u Q I2 rx ry q (hs _ _))
noncomputable def EN (K:PySem.W.Frag):R2:=λx y H Q=>∃p xs i v,x=.ref p/\y=.int i/\a8 K H p xs/\qX xs i=some v/\Q v H
noncomputable def zO (K:PySem.W.Frag):R2:=λx y H Q=>∃p xs i v,x=.ref p/\y=.int i/\bq K H p xs/\qX xs i=some v/\Q v H
theorem cq:Ds X (EN X.K):=by
 intro value slice pins s σ H x y v u Q I rx ry h hs;obtain⟨p,xs,i,z,rfl,rfl,hq,he,q⟩:=h
 cases rx
 obtain⟨t,rfl⟩:=ry;obtain⟨its,r,pl,hz⟩:=I.list hq;obtain⟨j,h1,h2,h3,h4,h5⟩:=vN he;obtain⟨w,ew,JV⟩:=r.get h2;have hl:=r.length;have hn:=kF;have fin:EP X pins σ Q w s:=⟨z,H,I,JV,q⟩
 by_cases h0:0<=i
 ·have hj:i.toNat=j:=by
   rw[seqIndex_of h0 h5] at h1;exact Option.some.inj h1
  exact item_listR pl.isList h0 (by omega) (by rw[hj];simpa using ew) fin hs
 ·have hj:(i+(its.toArray.size:Int)).toNat=j:=by
   rw[seqIndex_neg (by omega) h4] at h1;rw[Jc,<-hl];exact Option.some.inj h1
  exact subscriptTail_builtinR (x:=w) pl.isList.typeIs slot_list_getitem.lookup
   (wpAny_getItem_list_neg (Q:=λr s'=>r=w/\EP X pins σ Q r s') pl.isList (by omega) (by rw[Jc] <;> omega) (by omega) (by rw[hj];simpa using ew) ⟨rfl,fin⟩) hs
theorem bH:Ds X (zO X.K):=by
 intro value slice pins s σ H x y v u Q I rx ry h hs;obtain⟨p,xs,i,z,rfl,rfl,hq,he,q⟩:=h
 cases rx
 obtain⟨t,rfl⟩:=ry;obtain⟨its,r,pl,hz⟩:=I.tuple hq;obtain⟨j,h1,h2,h3,h4,h5⟩:=vN he;obtain⟨w,ew,JV⟩:=r.get h2;have hl:=r.length;have hn:=kF;have fin:EP X pins σ Q w s:=⟨z,H,I,JV,q⟩
 exact subscriptTail_builtinR (x:=w) pl.typeIs slot_tuple_getitem.lookup
  (getItem_tuple (j:=j) (Q:=λr s'=>r=w/\EP X pins σ Q r s') pl (by omega) (by omega) (by rw[Jc,<-hl];exact h1) (by simpa using ew) ⟨rfl,fin⟩) hs
theorem abq (its:HF)(n j:Nat)(u:Value):Obj.mapSeq (·.setIfInBounds j u) {cls:=.type "list",data:=.seq its.toArray n}={cls:=.type "list",data:=.seq (its.set j u).toArray n}:=by
 simp[Obj.mapSeq]
theorem Inv.lst {p:Addr}(I:Inv X pins σ H s)(h:H p=some (.lst xs)):
 ∃(its:HF)(n:Nat),aN xs its/\s.heap.get? p=some {cls:=.type "list",data:=.seq its.toArray n}/\xs.length<=sizeLine:=by
 obtain⟨z,its,n,r,e⟩:=I.hok p _ h;exact⟨its,n,r,e,z⟩
theorem Inv.ai9 {p:Addr}{ys:List V}{its':HF}{n':Nat}{f:Obj->Obj}(I:Inv X pins σ H s)(h:H p=some (.lst xs))
 (ho:s.heap.get? p=some {cls:=.type "list",data:=.seq its.toArray n})(hf:f {cls:=.type "list",data:=.seq its.toArray n}={cls:=.type "list",data:=.seq its'.toArray n'})(r:aN ys its')(hz:ys.length<=sizeLine)(t:Nat):
 Inv X pins σ (upd H p (.lst ys)) {s with heap:=s.heap.update p f,toks:=t}:=by
 have e:(s.heap.update p f).get? p=some {cls:=.type "list",data:=.seq its'.toArray n'}:=by
  rw[Fn f ho (by rw[hf] <;> rfl),hf]
 refine I.write (x:=p) (e:=p) (by rw[h];trivial) (.inl rfl) (λb u hb q=>(ng _ _ (Bt hb)).trans q) ⟨_,e⟩ ?_;exact⟨hz,its',n',r,e⟩
noncomputable def aj1:V->V->V->Hp->(Hp->Prop)->Prop:=λo i v H Q=>∃p xs k j,o=.ref p/\i=.int k/\H p=some (.lst xs)/\xI xs.length k=some j/\Q (upd H p (.lst (xs.set j v)))
theorem iM:GI X aj1:=by
 intro pins s σ H o i v ov iv u Q I ro ri rv h;obtain⟨p,xs,k,j,rfl,rfl,hp,hj,q⟩:=h
 cases ro
 obtain⟨t,rfl⟩:=ri;obtain⟨its,n,r,ho,hz⟩:=I.lst hp;obtain⟨h1,h2,h3,h4⟩:=uQ hj;have hl:=r.length;have hn:=kF
 have I':Inv X pins σ (upd H p (.lst (xs.set j v))) {s with heap:=s.heap.update p (Obj.mapSeq (·.setIfInBounds j u))}:=
  I.ai9 hp ho (abq its n j u) (r.set rv j) (by rw[List.length_set];exact hz) s.toks
 by_cases h0:0<=k
 ·have hk:k.toNat=j:=by
   rw[seqIndex_of h0 h4] at h1;exact Option.some.inj h1
  exact PySem.W.ki_setAt ho h0 (by omega) (by rw[Jc,<-hl];exact h4) (by rw[hk];exact⟨_,I',q⟩)
 ·have hk:(k+(its.toArray.size:Int)).toNat=j:=by
   rw[seqIndex_neg (by omega) h3] at h1;rw[Jc,<-hl];exact Option.some.inj h1
  exact PySem.W.ki_setBack ho (by omega) (by rw[Jc,<-hl];exact h3) (by omega) (by rw[hk];exact⟨_,I',q⟩)
noncomputable def jL:V->Bool
 | .non=>true
 | .bl _=>true
 | .int _=>true
 | .str _=>true
 |_=>false
noncomputable def C0:V->V->Bool
 | .non,.non=>true
 | .bl a,.bl b=>a==b
 | .bl a,.int b=>(if a then 1 else 0)==b
 | .int a,.bl b=>a==(if b then 1 else 0)
 | .int a,.int b=>a==b
 | .str a,.str b=>a==b
 |_,_=>false
theorem ab3 {A:Around}{y:V}{u v:Value}(ry:aL y u)(rx:aL x v)(fy:jL y=true)(fx:jL x=true):SeqAt.EqAt A s u v (C0 y x):=by
 cases y with
 |non =>
  cases ry
  cases x with
  |non=>cases rx;exact SeqAt.EqAt.same _
  |bl b=>cases rx;exact SeqAt.EqAt.none_bool b
  |int b=>obtain⟨t,rfl⟩:=rx;exact SeqAt.EqAt.none_int b t
  |str b=>obtain⟨t,rfl⟩:=rx;exact SeqAt.EqAt.none_str b t
  |_=>exact absurd (show false=true from fx) E7
 |bl a =>
  cases ry
  cases x with
  |non=>cases rx;exact SeqAt.EqAt.bool_none a
  |bl b=>cases rx;exact SeqAt.EqAt.bool_bool a b
  |int b=>obtain⟨t,rfl⟩:=rx;exact SeqAt.EqAt.bool_int a b t
  |str b=>obtain⟨t,rfl⟩:=rx;exact SeqAt.EqAt.bool_str a b t
  |_=>exact absurd (show false=true from fx) E7
 |int a =>
  obtain⟨t',rfl⟩:=ry
  cases x with
  |non=>cases rx;exact SeqAt.EqAt.int_none a t'
  |bl b=>cases rx;exact SeqAt.EqAt.int_bool a t' b
  |int b=>obtain⟨t,rfl⟩:=rx;exact qz a t' b t
  |str b=>obtain⟨t,rfl⟩:=rx;exact SeqAt.EqAt.int_str a t' b t
  |_=>exact absurd (show false=true from fx) E7
 |str a =>
  obtain⟨t',rfl⟩:=ry
  cases x with
  |non=>cases rx;exact SeqAt.EqAt.str_none a t'
  |bl b=>cases rx;exact SeqAt.EqAt.str_bool a t' b
  |int b=>obtain⟨t,rfl⟩:=rx;exact SeqAt.EqAt.str_int a t' b t
  |str b=>obtain⟨t,rfl⟩:=rx;exact SeqAt.EqAt.str_str a t' b t
  |_=>exact absurd (show false=true from fx) E7
 |_=>exact absurd (show false=true from fy) E7
noncomputable def Cn (x:V)(u:Value):Bool:=match u with
 | .none=>C0 .non x
 | .bool b=>C0 (.bl b) x
 | .int i _=>C0 (.int i) x
 | .str z _=>C0 (.str z) x
 |_=>false
theorem Al {y:V}{u:Value}(r:aL y u)(f:jL y=true):Cn x u=C0 y x:=by
 cases y with
 |non=>cases r;rfl
 |bl b=>cases r;rfl
 |int i=>obtain⟨t,rfl⟩:=r;rfl
 |str z=>obtain⟨t,rfl⟩:=r;rfl
 |_=>exact absurd (show false=true from f) E7
theorem pb :∀{xs:List V}{us:HF},aN xs us->xs.all jL=true->us.any (Cn x)=xs.any λy=>C0 y x
 |_,_,.nil,_=>rfl
 |y::xs,u::us,.cons r t,f=>by
  rw[rS,Ir] at f;rw[HZ,HZ,Al r f.1,pb t f.2]
theorem ku {A:Around}{v:Value}(rx:aL x v)(fx:jL x=true):∀{xs:List V}{us:HF},aN xs us->xs.all jL=true->∀u∈us,SeqAt.EqAt A s u v (Cn x u)
 |_,_,.nil,_=>λu hu=>by cases hu
 |y::xs,u::us,.cons r t,f=>λu' hu=>by
  rw[rS,Ir] at f
  rcases HK.mp hu with rfl|hu
  ·rw[Al r f.1];exact ab3 r rx f.1 fx
  ·exact ku rx fx t f.2 u' hu
noncomputable def F6 (x:V)(xs:List V):Bool:=xs.any λy=>C0 y x
noncomputable def CXT (K:PySem.W.Frag)(neg:Bool):R2:=λx y H Q=>∃p xs,y=.ref p/\(a8 K H p xs\/bq K H p xs)/\jL x=true/\xs.all jL=true/\Q (.bl (if neg then !F6 x xs else F6 x xs)) H
theorem agy:eT X (compareOp .NotIn) (CXT X.K true):=by
 intro pins s σ H x y v u Q I rx ry h;obtain⟨p,xs,rfl,hq,fx,fs,q⟩:=h
 cases ry
 rcases hq with hq|hq
 ·obtain⟨its,r,pl,hz⟩:=I.list hq;refine SeqAt.notIn_listAt (Cn x) pl.isList (λw hw=>ku rx fx r fs w (by simpa using hw)) ⟨.bl _,H,I,rfl,?_⟩;rw[show its.toArray.any (Cn x)=its.any (Cn x) by simp,pb r fs];exact q
 ·obtain⟨its,r,pl,hz⟩:=I.tuple hq;refine SeqAt.notIn_tupleAt (Cn x) pl (λw hw=>ku rx fx r fs w (by simpa using hw)) ⟨.bl _,H,I,rfl,?_⟩;rw[show its.toArray.any (Cn x)=its.any (Cn x) by simp,pb r fs];exact q
theorem cb:eW X (.builtin "len") (λxs H Q=>∃p ys,xs=[.ref p]/\(a8 X.K H p ys\/bq X.K H p ys)/\Q (.int ys.length) H):=by
 intro pins s σ H xs us Q I r h;obtain⟨p,ys,rfl,hq,q⟩:=h;obtain⟨u,rfl,rx⟩:=fG r
 cases rx
 have hn:=kF
 rcases hq with hq|hq
 ·obtain⟨its,r',pl,hz⟩:=I.list hq;have hlen:=r'.length;exact Calls.call_len_list pl.isList (by simp only[Jc] <;> omega) ⟨.int ys.length,H,I.tok _,⟨s.toks+1,by rw[Jc,hlen]⟩,q⟩
 ·obtain⟨its,r',pl,hz⟩:=I.tuple hq;have hlen:=r'.length;exact len_tuple pl (by simp only[Jc] <;> omega) ⟨.int ys.length,H,I.tok _,⟨s.toks+1,by rw[Jc,hlen]⟩,q⟩
theorem dO:eW X (.type "tuple") (λxs H Q=>∃p ys,xs=[.ref p]/\((a8 X.K H p ys/\∀l,H l=none->Q (.ref l) (upd H l (.tup ys)))\/(bq X.K H p ys/\Q (.ref p) H))):=by
 intro pins s σ H xs us Q I r h;obtain⟨p,ys,rfl,h⟩:=h;obtain⟨u,rfl,rx⟩:=fG r
 cases rx
 rcases h with⟨hq,q⟩|⟨hq,q⟩
 ·obtain⟨its,r',pl,hz⟩:=I.list hq;have hlen:=r'.length;refine call_tuple_list pl.isList (λh' kp=>?_) (by simp only[Jc] <;> omega);have I1:Inv X pins σ H {s with heap:=h'}:=I.kept (t':=s.toks) kp
  have I2:Inv X pins σ (upd H h'.objs.size (.tup ys)) {s with heap:=h'.push {cls:=.type "tuple",data:=.seq its.toArray} }:=
   I1.laid (t':=s.toks) (λb o e=>Ez _ e) (yH _) (show bJ X.prog X.w _ _ _ (.tup ys) from⟨hz,its,r',IsTup.new _ _⟩)
  exact⟨.ref h'.objs.size,_,I2,rfl,q _ (I1.hok.fresh (yH _))⟩
 ·obtain⟨its,r',pl,hz⟩:=I.tuple hq;exact call_tuple_same pl ⟨.ref p,H,I,rfl,q⟩
noncomputable def IU (K:PySem.W.Frag)(T:String)(x:V)(H:Hp):Prop:=match x with
 | .str _=>T="str"
 | .int _=>T="int"
 | .ref p=>(T="list"/\∃xs,a8 K H p xs)\/(T="tuple"/\∃o,K.lookup p=some o/\o.cls=.type "tuple"/\o.dict=none) \/
  (T="dict"/\((∃Jf,H p=some (.dK Jf))\/∃Jf,H p=some (.dT Jf)))\/(T="set"/\∃S n,H p=some (.set S n))
 |_=>False
theorem agz {T:String}{v:Value}(I:Inv X pins σ H s)(r:aL x v)(ty:IU X.K T x H):
 s.TypeIs v T/\∀a,v=.ref a->∃ob,s.heap.get? a=some ob/\ob.dict=none:=by
 cases x with
 |str z =>
  obtain⟨t,rfl⟩:=r
  cases(show T="str" from ty)
  exact⟨typeIs_str s z t,λ_ e=>nomatch e⟩
 |int i =>
  obtain⟨t,rfl⟩:=r
  cases(show T="int" from ty)
  exact⟨typeIs_int s i t,λ_ e=>nomatch e⟩
 |ref p =>
  cases r
  rcases ty with⟨rfl,xs,hq⟩|⟨rfl,o,hk,hc,hd⟩|⟨rfl,hk⟩|⟨rfl,S,n,hk⟩
  ·obtain⟨its,_,pl,_⟩:=I.list hq;refine⟨pl.isList.typeIs,λa e=>?_⟩
   cases e
   obtain⟨o,n,e,c,hd,_⟩:=pl;exact⟨o,e,hd⟩
  ·refine⟨⟨o,I.kIn p o hk,hc⟩,λa e=>?_⟩
   cases e
   exact⟨o,I.kIn _ o hk,hd⟩
  ·have z:∃o,s.heap.get? p=some o/\o.ExactDict:=by
    rcases hk with⟨Jf,hk⟩|⟨Jf,hk⟩
    ·obtain⟨_,_,_,_,o,_,_,e,ex,_⟩:=I.hok p _ hk;exact⟨o,e,ex⟩
    ·obtain⟨_,_,_,_,o,_,_,e,ex,_⟩:=I.hok p _ hk;exact⟨o,e,ex⟩
   obtain⟨o,e,ex⟩:=z;refine⟨⟨o,e,ex.1⟩,λa e2=>?_⟩
   cases e2
   exact⟨o,e,ex.2.1⟩
  ·obtain⟨o,_,_,_,e,ex,_⟩:=I.hok p _ hk;refine⟨⟨o,e,ex.1⟩,λa e2=>?_⟩
   cases e2
   exact⟨o,e,ex.2.1⟩
 |_=>exact False.elim ty
noncomputable def IS (K:PySem.W.Frag)(T:String)(r:V->List V->Hp->VK->Prop)(to:TE)(t:TA):TE:=λσ H Q=>to σ H λx H1=>IU K T x H1/\t σ H1 λxs H2=>r x xs H2 Q
variable {o e:Expr}{es:xB}{to:TE}{t:TA}{name:Str}{apos Jy:Pos}{T id:String}{r:V->List V->Hp->VK->Prop}
theorem As (pa:PlainAttrs T)(slot:Slot T name id)(hty:typeOf (.builtin id)=pure (.type "method_descriptor"))(hm:IC X id r)(ho:PE X o to)(ha:PA X (e::es) t)
 (Lf:attributeBase o name X.env (eval o X.env)=eval o X.env:=by rfl)
 (UK:((backTo Jy (starEach (e::es) X.env)).all (λx=>!x.1)&&(backToKw Jy (keywordEach [] X.env)).all (λx=>x.1.isSome)
  && decide ((e::es).length+([]:List Keyword).length+(if([]:List Keyword).isEmpty then 0 else 1)<30))=true:=by rfl)
 (Lg:(apos.endLine==Jy.line)=true:=by rfl)(hs:starEach (e::es) X.env=(false,eval e X.env):: starEach es X.env:=by rfl)(Nc:(backTo Jy (starEach es X.env)).any (·.1)=false:=by rfl):
 PE X (.Call (.Attribute o name apos) (e::es) [] Jy) (IS X.K T r to t):=by
 intro pins s σ H Q I h;refine wpAny_Call_method_late Lf UK Lg rfl (cx (ho pins s σ H _ I h) λv s1 z'=>?_);obtain⟨x,H1,I1,r1,ty,q1⟩:=z';obtain⟨h1,h2⟩:=agz I1 r1 ty;refine⟨T,id,pa,slot,hty,h1,h2,?_⟩;have hA:=ha Jy pins s1 σ H1 _ I1 q1;rw[hs] at hA |-;refine Calls.callWith_builtin (by show(false || (backTo Jy (starEach es X.env)).any (·.1))=false;rw[Nc] <;> rfl) (Calls.evalArgs_plain ?_);exact cx hA λus s2 ⟨vs,H2,I2,r2,q2⟩=>hm pins s2 σ H2 x vs v us Q I2 r1 r2 q2
/- xs.append(e),list.index on a Pk tuple .. are IC facts of 06m -/
end
noncomputable def Iy (X:Cx)(id:String)(r:V->List V->Hp->VK->Prop):Prop :=
 ∀(pins:List (Addr×Obj))(s:pL)(σ:St)(H:Hp)(x:V)(xs:List V)(v:Value)(us:HF)(Q:VK),Inv X pins σ H s->aL x v->aN xs us->r x xs H Q →
  wpAny (model X.prog X.w) X.A (call (.builtin id) (v::us)) (EP X pins σ Q) X.xe s
theorem aN.one:∀{x:V}{us:HF},aN [x] us->∃u,us=[u]/\aL x u
 |_,_,.cons r .nil=>⟨_,rfl,r⟩
theorem aN.eraseIdx:∀{xs:List V}{us:HF}(i:Nat),aN xs us->aN (xs.eraseIdx i) (us.eraseIdx i)
 |_,_,_,.nil=>.nil
 |_,_,0,.cons _ t=>t
 |_,_,i+1,.cons r t=>.cons r (aN.eraseIdx i t)
theorem aN.rep {us:HF}(h:aN xs us):∀k:Nat,aN (List.replicate k xs).flatten (List.replicate k us).flatten
 |0=>.nil
 |k+1=>by
  rw[HN,HN,x5,x5];exact aN.append h (aN.rep h k)
theorem ou {α:Type}:∀(l:List α)(i:Nat),(l.eraseIdx i).length<=l.length
 |[],_=>yH _
 |_::_,0=>Ja _
 |_::r,i+1=>Nat.succ_le_succ (ou r i)
theorem nR (its:HF):∀(k:Nat)(acc:HF),
 List.foldl (λx1 x2=>x1++x2) acc.toArray (List.replicate k its.toArray)=(acc++(List.replicate k its).flatten).toArray
 |0,acc=>by simp
 |k+1,acc=>by
  have e:acc.toArray++its.toArray=(acc++its).toArray:=by simp
  have e2:(acc++its)++(List.replicate k its).flatten=acc++(List.replicate (k+1) its).flatten:=by
   rw[HN,x5,BE]
  rw[<-e2,<-nR its k (acc++its),<-e,HN,zP]
section
variable {X:Cx}{pins:List (Addr×Obj)}{σ:St}{H:Hp}{s:pL}{l b:Addr}{xs ys zs:List V}
theorem Inv.aja {its':HF}{f:Array Value->Array Value}{t':Nat}(I:Inv X pins σ H s)(hH:H l=some (.lst xs))
 (e:s.heap.get? l=some {cls:=.type "list",data:=.seq its.toArray n})(hf:f its.toArray=its'.toArray)(hv:aN ys its')(hz:ys.length<=sizeLine):
 Inv X pins σ (upd H l (.lst ys)) {s with heap:=s.heap.update l (Obj.mapSeq f),toks:=t'}:=by
 have q:=PySem.IsL.update e f;rw[hf] at q;refine I.write (x:=l) (e:=l) (by rw[hH];exact trivial) (.inl rfl) (λb' u hb hu=>(ng s.heap (Obj.mapSeq f) (Bt hb)).trans hu) ⟨_,q⟩ ?_;exact⟨hz,its',_,hv,q⟩
theorem Inv.aj2 {t':Nat}(I:Inv X pins σ H s)(hv:aN ys its)(hz:ys.length<=sizeLine):
 Inv X pins σ (upd H s.heap.objs.size (.lst ys)) {s with heap:=s.heap.push {cls:=.type "list",data:=.seq its.toArray},toks:=t'}:=
 I.laid (λ_ _ q=>Ez _ q) (yH _) ⟨hz,its,0,hv,Fg _ rfl⟩
theorem Inv.fresh (I:Inv X pins σ H s):H s.heap.objs.size=none:=I.hok.fresh (yH _)
theorem Inv.ahh (I:Inv X pins σ H s)(hH:H l=some (.lst xs)):xs.length<=sizeLine/\∃(its:HF)(n:Nat),aN xs its/\xs.length=its.length/\s.heap.get? l=some {cls:=.type "list",data:=.seq its.toArray n}:=by
 obtain⟨z,its,n,r,e⟩:=I.hok l _ hH;exact⟨z,its,n,r,r.length,e⟩
theorem rC (h:n<=sizeLine):Builtin.List.listTooLong n=false:=by
 unfold Builtin.List.listTooLong;exact IA (by omega)
end
section
variable {X:Cx}
noncomputable def aiB:V->List V->Hp->VK->Prop:=λx vs H Q=>∃l xs y,x=.ref l/\vs=[y]/\H l=some (.lst xs)/\xs.length<sizeLine/\Q .non (upd H l (.lst (xs++[y])))
theorem TmX:Iy X "list.append" aiB:=by
 intro pins s σ H x vs v us Q I rx rv h;obtain⟨l,xs,y,rfl,rfl,hH,hz,q⟩:=h
 cases rx
 obtain⟨u,rfl,ru⟩:=rv.one;obtain⟨z,its,n,r,hl,e⟩:=I.ahh hH;refine Fi F.slot_list_append ⟨_,e,rfl⟩ F.entry_list_append (F.args_list_append_2 _ _) (PySem.list_append l its.toArray n u (by rw[Jc];omega)) ⟨e,?_⟩;refine⟨.non,_,I.aja (its':=its++[u]) hH e (by simp) (r.append (.cons ru .nil)) ?_,rfl,q⟩;rw[zr,List.length_singleton];omega
noncomputable def aiC:V->List V->Hp->VK->Prop:=λx vs H Q=>∃l b xs zs,x=.ref l/\vs=[.ref b]/\H l=some (.lst xs)/\H b=some (.lst zs)/\xs.length+zs.length<=sizeLine/\Q .non (upd H l (.lst (xs++zs)))
theorem agC:Iy X "list.extend" aiC:=by
 intro pins s σ H x vs v us Q I rx rv h;obtain⟨l,b,xs,zs,rfl,rfl,hH,hB,hz,q⟩:=h
 cases rx
 obtain⟨u,rfl,ru⟩:=rv.one
 cases ru
 obtain⟨z,its,n,r,hl,e⟩:=I.ahh hH;obtain⟨z2,Jj,n2,r2,KC,e2⟩:=I.ahh hB
 have hsz:its.toArray.size+Jj.toArray.size<=sizeLine:=by rw[Jc,Jc];omega
 have Lh:¬(!its.toArray.isEmpty&&Builtin.List.listTooLong (its.toArray.size+Jj.toArray.size))=true:=by
  rw[rC hsz,Bool.and_false];exact E7
 refine Fi F.slot_list_extend ⟨_,e,rfl⟩ F.entry_list_extend (F.args_list_extend_2 _ _)
  (AutoSeq1.list_extend_list_list_0 l its.toArray n b Jj.toArray n2 Lh (by rw[Jc];omega) (by omega)) ⟨e,e2,?_⟩
 refine⟨.non,_,I.aja (its':=its++Jj) hH e (by simp) (r.append r2) ?_,rfl,q⟩;rw[zr];omega
noncomputable def DU:V->List V->Hp->VK->Prop:=λx vs H Q=>∃l xs i k y,x=.ref l/\vs=[.int i]/\H l=some (.lst xs)/\-(2^63)<=i/\i<2^63/\seqIndex? i xs.length=some k/\xs[k]?=some y/\Q y (upd H l (.lst (xs.eraseIdx k)))
theorem afS:Iy X "list.pop" DU:=by
 intro pins s σ H x vs v us Q I rx rv h;obtain⟨l,xs,i,k,y,rfl,rfl,hH,h1,h2,hk,hy,q⟩:=h
 cases rx
 obtain⟨u,rfl,ru⟩:=rv.one;obtain⟨t,rfl⟩:=ru;obtain⟨z,its,n,r,hl,e⟩:=I.ahh hH;obtain⟨w,hw,JV⟩:=r.get hy
 refine Fi F.slot_list_pop ⟨_,e,rfl⟩ F.entry_list_pop (F.args_list_pop_2 _ _)
  (MeetsSeq.list_pop_at l its.toArray n i t k w (fitsIndex_both h1 h2) (by rw[Jc,<-hl];exact hk) (by rw[<-Hw];exact hw) (by rw[Jc];omega)) ⟨e,?_⟩
 refine⟨y,_,I.aja (its':=its.eraseIdx k) hH e ?_ (r.eraseIdx k) ?_,JV,q⟩
 ·show its.toArray.eraseIdxIfInBounds k=(its.eraseIdx k).toArray;rw[List.eraseIdxIfInBounds_toArray]
 ·have:=ou xs k;omega
noncomputable def alv:R2:=λx y H Q=>∃l b xs zs,x=.ref l/\y=.ref b/\H l=some (.lst xs)/\H b=some (.lst zs)/\xs.length+zs.length<=sizeLine/\∀p,H p=none->Q (.ref p) (upd H p (.lst (xs++zs)))
theorem yS:eT X (binaryOp .Add) alv:=by
 intro pins s σ H x y v u Q I rx ry h;obtain⟨l,b,xs,zs,rfl,rfl,hH,hB,hz,q⟩:=h
 cases rx
 cases ry
 obtain⟨z,its,n,r,hl,e⟩:=I.ahh hH;obtain⟨z2,Jj,n2,r2,KC,e2⟩:=I.ahh hB;refine PySem.P.add_list e e2 ?_ (by rw[Jc,Jc];omega)
 have ea:its.toArray++Jj.toArray=(its++Jj).toArray:=by simp
 rw[ea];exact⟨.ref _,_,I.aj2 (t':=s.toks) (r.append r2) (by rw[zr];omega),rfl,q _ I.fresh⟩
noncomputable def alw:R2:=λx y H Q=>∃l k xs,x=.ref l/\y=.int k/\H l=some (.lst xs)/\-(2^63)<=k/\k<2^63/\xs.length*k.toNat<=sizeLine /\
 ∀p,H p=none->Q (.ref p) (upd H p (.lst (List.replicate k.toNat xs).flatten))
theorem abh {α:Type}(xs:List α)(k:Nat):(List.replicate k xs).flatten.length=k*xs.length:=by
 induction k with
 |zero=>simp
 |succ k ih=>rw[HN,x5,zr,ih,Nat.succ_mul,Nat.add_comm]
theorem abl:eT X (binaryOp .Mult) alw:=by
 intro pins s σ H x y v u Q I rx ry h;obtain⟨l,k,xs,rfl,rfl,hH,h1,h2,hz,q⟩:=h
 cases rx
 obtain⟨t,rfl⟩:=ry;obtain⟨z,its,n,r,hl,e⟩:=I.ahh hH
 have hlen:its.toArray.size*k.toNat<=sizeLine:=by rw[Jc,<-hl];exact hz
 have UL:¬its.toArray.size*k.toNat>(2^63-1)/8:=by
  have:(sizeLine:Nat)<=(2^63-1)/8:=by decide
  omega
 have UM:¬(!Builtin.List.listFitsIndex k)=true:=by
  rw[fitsIndex_both h1 h2];exact E7
 have Lh:¬Builtin.List.listTooLong (its.toArray.size*k.toNat)=true:=by
  rw[rC hlen];exact E7
 have UO:List.foldl (λx1 x2=>x1++x2) #[] (List.replicate (if its.toArray.isEmpty=true then 0 else k.toNat) its.toArray)=(List.replicate k.toNat its).flatten.toArray:=by
  have f0:∀m:Nat,List.foldl (λx1 x2=>x1++x2) #[] (List.replicate m its.toArray)=(List.replicate m its).flatten.toArray:=λm=>by
   have:=nR its m [];rw[List.nil_append] at this;exact this
  rw[f0]
  cases its with
  |nil=>simp
  |cons a r'=>rw[IX (by simp)]
 refine wpAny_binaryOp_repeat_ref (T:="list") (U:="int") (by decide) ⟨_,e,rfl⟩ (λs'=>typeIs_int s' k t) noFill_list_mul F.fills_int_mul F.slot_int_rmul repeat_list F.slot_int_index.lookup
  (Fi F.slot_int_rmul (typeIs_int s k t) F.entry_int_rmul (F.args_int_rmul_2 _ _) (int___rmul___int_list k t l its.toArray n)
   ⟨e,rfl,⟨_,e,rfl⟩,Fi F.slot_list_mul ⟨_,e,rfl⟩ F.entry_list_mul (F.args_list_mul_2 _ _) (AutoListH.list___mul___list_int_3 l its.toArray n k t UM UL Lh) ⟨e,?_⟩⟩)
 rw[UO];exact⟨.ref _,_,I.aj2 (t':=s.toks) (r.rep k.toNat) (by rw[abh,Bw];exact hz),rfl,q _ I.fresh⟩
end
end L2
namespace Yd
open PySem PySem.W PySem.Calls PyProof.Rows
theorem abn {P:Params}{h:Heap}:∀(ns:List Int)(vs:HF),WellAll P h vs (ns.map WData.int)->IntsAre vs ns:=by
 intro ns
 induction ns with
 |nil =>
  intro vs w;rw[List.map_nil] at w
  cases w
  exact .nil
 |cons n ns ih =>
  intro vs w;rw[IZ] at w
  cases w with
  |cons a b =>
   cases a
   exact .cons _ _ (ih _ b)
theorem abu {l:OpenLaw}{n:Nat}(hn:l.most=some n){P:Params}{h:Heap}{args:List WData}{vals:HF}
 (L4:l.row.toRowW.claim.pre args=true)(UP:WellAll P h vals args):
 ∃a vs ns,vals=[Value.ref a]/\args=[WData.list (ns.map WData.int)]/\h.get? a=some {cls:=.type "list",data:=.seq vs.toArray}/\IntsAre vs ns/\ns.length<=n:=by
 have hsh:WShape.hasAll [] args [.list .int]=true:=(pre_splitW L4).1;have hc:l.pre.holds [] {args:=args}=true:=(pre_splitW L4).2;obtain⟨d,r,rfl,h1,h2⟩:=hasAllW_cons hsh;obtain rfl:=hasAllW_nil h2;obtain⟨xs,rfl,h3⟩:=hasW_list h1;obtain⟨ns,rfl⟩:=items_int h3
 have hlen:ns.length<=n:=by
  unfold OpenLaw.pre at hc
  have h4:(WTm.not (.lt (.lit (.int (n:Int))) (.len (.arg 0)))).holds [] {args:=[.list (ns.map .int)]}=true:=by
   have h4:=(holds_andW hc).1;rw[hn] at h4;exact h4
  have h5:=condW_of h4 (w_not (w_lt w_lit (w_len_list (w_arg rfl))));rw[EZ] at h5;refine Nat.le_of_not_lt λq=>?_
  have q':(n:Int)<((ns.length:Nat):Int):=by omega
  first
   |(rw[Iw q'] at h5;exact absurd h5 (by decide))
   |(simp at h5;omega)
 cases UP with
 |cons w1 w2 =>
  cases w2
  cases w1 with
  |list ho Nf=>exact⟨_,_,ns,rfl,rfl,ho,abn ns _ Nf,hlen⟩
theorem abC (l:OpenLaw)(args:List WData):l.row.toRowW.claim.post args (.bool true) args=true :=
 postW_of (r:=l.row.toRowW) (X:=(true==true))
  (show WShape.has [] (.bool true) .bool=true by first|rfl|decide|simp[WShape.has,WShape.arms,WShape.armsAll])
  (show(WTm.eq .res (.lit (.bool true))).value [] {args:=args,res:=some (.bool true),after:=args}=some (.bool (true==true)) from w_eq_bool (w_res rfl) w_lit) rfl
theorem abD {l:OpenLaw}{n:Nat}{q:xq}{loose:F3}{XP:(Str->Option Value)->Heap->Prop}{YP:World->Heap->Prop}{d:DefRec}
 (hn:l.most=some n)(Pl:d.params.defaults=[])
 (call:∀(w:World)(s₀ s₁:pL)(mg mb:Cw)(fa:Addr)(o:Obj)(pm cd doc:Value)(a:Addr)(vs:HF)(ns:List Int),
  Ground q loose [] XP w s₀ mg mb s₁.heap->YP w s₁.heap →
  s₁.heap.get? fa=some o->o.data=.func (docDef d.name d.params d.body d.scope pm cd doc)->s₁.heap.CodeRec cd d.name->mg d.name=some (.ref fa) →
  s₁.heap.get? a=some {cls:=.type "list",data:=.seq vs.toArray}->IntsAre vs ns->ns.length<=n->s₁.gens = #[] →
  codeAny (model l.prog w) callerA (.call (.ref fa) ⟨[.ref a],[]⟩) (λr s'=>r=.ok (.ret (.bool true))/\OldK s₁.heap s'.heap/\s'.os=s₁.os/\AllBare s'.gens) s₁):
 WalkO q loose XP YP l.row.toRowW d [] (λf vs=>PySem.call f vs):=by
 intro w s₀ s₁ mg mb G Y fa o pm cd doc dV kV ho hd JU hD UQ hg args vals as L4 aao hrd UP Pn;obtain rfl:dV=.none:=Dflts.none hD Pl;obtain rfl:kV=.none:=Dflts.noKw hD;obtain⟨a,vs,ns,rfl,rfl,Ng,hints,hlen⟩:=abu hn L4 UP;refine enter_call (zL (call w s₀ s₁ mg mb fa o pm cd doc a vs ns G Y ho (fd_plain hd) JU UQ Ng hints hlen hg) λr s' hq=>?_);obtain⟨rfl,h2,h3,h4⟩:=hq;exact⟨.inl ⟨.bool true,.bool true,[],rfl,λ_=>rfl,.bool true,abC l _,λ_=>⟨List.Pairwise.nil,λ_ hm=>(nomatch hm)⟩⟩,h2,h3,h4⟩
end Yd
namespace L2
open PySem PySem.Spec PyProof.Rows
theorem oh:∀{vs:HF}{ns:List Int},IntsAre vs ns->aN (ns.map V.int) vs
 |_,_,.nil=>.nil
 |_,_,.cons n t h=>.cons ⟨t,rfl⟩ (oh h)
structure FY (K:PySem.W.Frag)(x qual:Str)(st:Stmt)(f:Addr)(fd:GS):Prop where
 ex:∃(oc:Value)(od:DT)(kV doc pm:Value)(an:DT)(Ji ct:Value)(Jw:xA),
  fd=PySem.W.fnOf x qual (c7 st) (cK st) (au st) .none kV doc pm an Ji ct/\K.lookup f=some ⟨oc,od,.func fd,Jw⟩/\PySem.W.codeIn K Ji qual=true
 kp:PySem.W.keepIn K (.ref f)=true
variable {x qual:Str}{st:Stmt}{f:Addr}{fd:GS}{ps:F3}
section
variable {P:xq}{w:World}{K:PySem.W.Frag}{mg:Cw}{base:Heap}
theorem FY.binds (F:FY K x qual st f fd)
 (h:∀(kV doc pm:Value)(an:DT)(Ji ct:Value)(us:HF),us.length=ps.length->bindArgs (PySem.W.fnOf x qual (c7 st) (cK st) (au st) .none kV doc pm an Ji ct) ⟨us,[]⟩=pure (ps.zip us)):b8 K fd ps []:=by
 obtain⟨oc,od,kV,doc,pm,an,Ji,ct,Jw,rfl,lk,JU⟩:=F.ex;exact .all (h kV doc pm an Ji ct)
theorem abG {oc:Value}{od an:DT}{Jw:xA}{kV doc pm Ji ct:Value}(l:K.lookup f=some ⟨oc,od,.func (PySem.W.fnOf x qual (c7 st) (cK st) (au st) .none kV doc pm an Ji ct),Jw⟩)
 (c:PySem.W.codeIn K Ji qual=true)(k:PySem.W.keepIn K (.ref f)=true):FY K x qual st f (PySem.W.fnOf x qual (c7 st) (cK st) (au st) .none kV doc pm an Ji ct):=⟨⟨oc,od,kV,doc,pm,an,Ji,ct,Jw,rfl,l,c⟩,k⟩
end
theorem abH {n:Nat}(h:n<=1000):n<sizeLine:=Hv h (by decide)
section
variable {X:Cx}
theorem pv (i:Nat){pos:Pos}(hN:X.N[i]?=some x:=by rfl)(hv:HD X.env.scope x:=by first|exact Or.inl rfl|exact Or.inr (Or.inl rfl)|exact Or.inr (Or.inr rfl))(hd:(x==("__debug__":Str))=false:=by decide)
 (JU:(x==("__classdict__":Str))=false:=by decide):PE X (.Name x pos) (dg i):=Fun hN hv hd JU
end
theorem cu {A B:Prop}(h:B):if false=true then A else B:=by
 rw[IX E7];exact h
theorem cA {A B:Prop}(h:A):if true=true then A else B:=by
 rw[qk rfl];exact h
theorem cX {c A B:Prop} [Decidable c](h1:c->A)(h2:¬c->B):if c then A else B:=by
 by_cases h:c
 ·rw[qk h];exact h1 h
 ·rw[IX h];exact h2 h
noncomputable def aE (H H':Hp):Prop:=∀b o,H b=some o->H' b=some o
theorem aE.refl (H:Hp):aE H H:=λ_ _ h=>h
variable {H:Hp}
theorem aE.trans {H1 H2:Hp}(a:aE H H1)(b:aE H1 H2):aE H H2:=λc o h=>b c o (a c o h)
variable {P:xq}{w:World}{h:Heap}{a:Addr}
theorem d9 {o:HO}(x:gk P w H h)(hn:H a=none)(new:bJ P w (upd H a o) h a o):gk P w (upd H a o) h:=λb u e=>by
 by_cases hb:b=a
 ·subst hb;rw[aj] at e;cases e;exact new
 ·rw[aA hb] at e
  exact(x b u e).agX (λc v _ q=>q) (λc q=>by rw[aA (aB q hn)];exact q) λc xs q=>by rw[aA (aB q hn)];exact q
variable {env:Env}
section
variable {prog:xq}{w:World}{A:Around}{R:Result->Shared->Prop}{s:pL}
theorem abI {elt target iter:Expr}{ifs:xB}{scope:Scope}{pos:Pos}{it acc:Value}(I:Nat->Shared->Prop)
 (turn:∀n s,I n s->wpAny (model prog w) A (pyNext it) (λr s₁=>match r with
  |none=>R (.ok .next) s₁
  |some v=>wpAny (model prog w) A (letOwnedTupleGo target it v) (λ_ s₁=>wpAny (model prog w) A (assign target env v) (λ_ s₂ =>
   wpAny (model prog w) A (forIn ifs true λc r=>if r=true then do let ok <-isTrue c env (eval c env);pure (ForInStep.yield ok) else pure (ForInStep.yield r)) (λok s₃ =>
    if ok=true then wpAny (model prog w) A (eval elt env) (λx s₄ =>
     wpAny (model prog w) A (call (.builtin "list.append") [acc,x]) (λ_ s₅=>∃m,m<n/\I m s₅) (λ_ _=>False) s₄) (λ_ _=>False) s₃
    else ∃m,m<n/\I m s₃) (λ_ _=>False) s₂) (λ_ _=>False) s₁) (λ_ _=>False) s₁) (λ_ _=>False) s)
 (n:Nat)(h:I n s):
 codeAny (model prog w) A (.compLoop (.ListComp elt [⟨target,iter,ifs,0⟩] scope pos) 0 it acc env) R s:=by
 refine codeAny_loop rfl I (λn s hI=>?_) n h;show wpAny _ A ((compTurn (.ListComp elt [⟨target,iter,ifs,0⟩] scope pos) 0 it acc env).onRaise (λx=>do noteFrame x env;theTreesLotGoes x)) _ _ s;refine wpAny_noted ?_;rw[compTurn_list];refine IW (GW (IW (Ax (turn n s hI) (λr s₁ h₁=>?_) λ_ _ z=>False.elim z)))
 cases r with
 |none=>exact Fc h₁
 |some v =>
  refine IW (Ax h₁ (λ_ Ye Po=>?_) λ_ _ z=>False.elim z);refine IW (Ax Po (λ_ s₂ h₂=>IW (Ax h₂ (λok s₃ h₃=>?_) λ_ _ z=>False.elim z)) λ_ _ z=>False.elim z)
  cases ok with
  |false=>exact Fc ⟨rfl,h₃⟩
  |true =>
   exact IW (IW (Ax h₃ (λx s₄ h₄=>IW (Ax h₄ (λ_ s₅ h₅=>Fc (Fc ⟨rfl,h₅⟩)) λ_ _ z=>False.elim z)) λ_ _ z=>False.elim z))
end
noncomputable def eO (names:List (Str×NameKind))(env:Env):List (Str×Addr):=((names.filter λx=>x.2 == .free).map λx=>(x.1,(env.cells.lookup x.1).getD 0)).reverse
theorem abO {scope:Scope}(h:∀x∈scope.names,x.2=.free->∃c,env.cells.lookup x.1=some c):closureFor scope env=pure (eO scope.names env):=by
 have key:∀(names:List (Str×NameKind))(cs:List (Str×Addr)),(∀x∈names,x.2=.free->∃c,env.cells.lookup x.1=some c) →
  (forIn names cs (λ(x:Str×NameKind)(r:List (Str×Addr))=>if(x.2==NameKind.free)=true then(do let a <-cellOf env x.1;pure (ForInStep.yield ((x.1,a):: r))) else pure (ForInStep.yield r)):Sem (List (Str×Addr)))=pure (eO names env++cs):=by
  intro names
  induction names with
  |nil=>intro cs _;rfl
  |cons x r ih =>
   intro cs hn;rw[zj];obtain⟨n,k⟩:=x
   by_cases hk:k=.free
   ·subst hk;obtain⟨c,hc⟩:=hn (n,.free) qT rfl
    have hco:cellOf env n=pure c:=by unfold cellOf;rw[hc]
    simp only[CL,Ij,hco,pure_bind];rw[ih _ λy hy=>hn y (rB _ hy)];simp[eO,hc]
   ·have hb:(k==NameKind.free)=false:=by simpa using hk
    simp only[hb,BU,wR,pure_bind];rw[ih _ λy hy=>hn y (rB _ hy)];simp[eO,hb]
 have z:=key scope.names [] h;rw[yp] at z;unfold closureFor
 first
  |exact z
  |(simp only[bind_pure];exact z)
  |(simp;exact z)
theorem lY {names:List (Str×NameKind)}(h:∀x∈names,x.2=.free->∃c,env.cells.lookup x.1=some c){c:Addr}(e:(eO names env).lookup x=some c):env.cells.lookup x=some c:=by
 have m:=Co e;unfold eO at m;rw[List.mem_reverse,EA] at m;obtain⟨y,hy,e'⟩:=m;rw[zc] at hy;obtain⟨c',Jv⟩:=h y hy.1 (by simpa using hy.2);rw[Jv] at e'
 injection e' with e1 e2
 subst e1;rw[Jv];exact Ec some e2
theorem rJ {names:List (Str×NameKind)}{env:Env}(hm:(x,NameKind.free)∈names):∃c,(eO names env).lookup x=some c:=by
 have m:∃c,(x,c)∈eO names env:=⟨(env.cells.lookup x).getD 0,by
  unfold eO;rw[List.mem_reverse,EA]
  exact⟨(x,.free),zc.mpr ⟨hm,rfl⟩,rfl⟩⟩
 obtain⟨c,m⟩:=m
 cases q:(eO names env).lookup x with
 |some d=>exact⟨d,rfl⟩
 |none =>
  exfalso
  have:∀(l:List (Str×Addr)),(x,c)∈l->l.lookup x≠none:=by
   intro l
   induction l with
   |nil=>intro h;cases h
   |cons p r ih =>
    intro h;rw[xr]
    rcases HK.mp h with h|h
    ·subst h;simp
    ·split
     ·simp
     ·exact ih h
  exact this _ m q
noncomputable def cS (X:Cx)(N:F3)(scope:Scope)(C:Addr)(fp:List Addr)(s:pL)(H:Hp):Cx where
 prog:=X.prog
 w:=X.w
 K:=X.K
 mg:=X.mg
 base:=X.base
 A:=X.A
 N:=N
 s₀:=s
 H₀:=H
 env:=compEnvC scope (eO scope.names X.env) C X.env
 outer:=X.stack
 stack:=X.stack
 ex:=fp
 fn:=λ_=>false
 calm:=X.calm
 pn:=[]
 xe:=λ_ _=>False
noncomputable def σC (nl:Nat)(js:List Nat)(σ:St):St:=List.replicate nl none++js.map λj=>(σ[j]?).join
structure sM (X:Cx)(N:F3)(nl:Nat)(js:List Nat)(osc scope:Scope):Prop where
 out:X.env.scope=osc
 kind:scope.kind=.function
 cell:∀y∈scope.names,y.2≠.cell
 names:∀y∈scope.names,y.2=.local->scope.names.lookup y.1=some .local
 free:∀y∈scope.names,y.2=.free->osc.names.lookup y.1=some .cell\/osc.names.lookup y.1=some .free
 len:N.length=nl+js.length
 src:Paired (λj x=>X.N[j]?=some x/\(x,NameKind.free)∈scope.names) js (N.drop nl)
 alx:∀y∈scope.names,y.2=.free->scope.names.lookup y.1≠some .local
theorem fW {env:Env}:∀{names:List (Str×NameKind)}{x:Str}{k:NameKind},(∀y∈names,y.2≠.cell) →
 (names.map λ(n,k)=>if(k==NameKind.free&&env.scope.kind == .function&&env.kindOf n==some .cell) then(n,NameKind.cell) else(n,k)).lookup x=some k->(k=.cell\/k=.free)->(x,NameKind.free)∈names
 |[],_,_,_,h,_=>by simp at h
 |(n,k0):: r,x,k,hc,h,hk=>by
  have h:List.lookup x ((if(k0==NameKind.free&&env.scope.kind == .function&&env.kindOf n==some .cell)=true then(n,NameKind.cell) else(n,k0)):: r.map λ(n,k)=>if(k==NameKind.free&&env.scope.kind == .function&&env.kindOf n==some .cell) then(n,NameKind.cell) else(n,k))=some k:=h;have ih:=@fW env r x k λy hy=>hc y (rB _ hy)
  by_cases hx:x=n
  ·subst hx
   have Nh:k0=.free:=by
    by_cases hb:(k0==NameKind.free&&env.scope.kind == .function&&env.kindOf x==some .cell)=true
    ·have:=(Bq.mp (Bq.mp hb).1).1;simpa using this
    ·rw[IX hb] at h;simp only[xr,CL] at h;have e:k0=k:=Option.some.inj h
     rcases hk with z|z
     ·exact absurd (e.trans z) (hc (x,k0) qT)
     ·exact e.trans z
   subst Nh;exact qT
  ·have hb:(x==n)=false:=by simpa using hx
   refine rB _ (ih ?_ hk)
   by_cases Jv:(k0==NameKind.free&&env.scope.kind == .function&&env.kindOf n==some .cell)=true
   ·rw[qk Jv] at h;simp only[xr,hb] at h;exact h
   ·rw[IX Jv] at h;simp only[xr,hb] at h;exact h
variable {pins:List (Addr×Obj)}{σ:St}{s:pL}{C:Addr}{g:TG}{tt:TT}{te:TE}
section
variable {X:Cx}{tg iter elt:Expr}{ifs:xB}{scope osc:Scope}{pos:Pos}{N:F3}{nl:Nat}{js:List Nat}
noncomputable def Bd (X:Cx)(ifs:xB)(t:TT):Prop :=
 ∀(pins:List (Addr×Obj))(s:pL)(σ:St)(H:Hp)(Q:Bool->Hp->Prop),Inv X pins σ H s->t σ H Q →
  wpAny (model X.prog X.w) X.A (forIn ifs true λc r=>if r=true then do let ok <-isTrue c X.env (eval c X.env);pure (ForInStep.yield ok) else pure (ForInStep.yield r)) (TP X pins σ Q) X.xe s
noncomputable def oZ:TT:=λ_ H Q=>Q true H
theorem ck:Bd X [] oZ:=λ_ _ _ H _ I h=>wpAny_tests_nil ⟨H,I,h⟩
theorem gR {c:Expr}{t:TT}(h:PT X c t):Bd X [c] t:=λpins s σ H Q I hw=>wpAny_tests_one (h pins s σ H Q I hw)
theorem cY {s:pL}{b:Addr}{h':Heap}(I:Inv X pins σ H s)(f:c4 X pins H b)(sb:Heap.SameBut b s.heap h'):Inv X pins σ H {s with heap:=h'}:=
 I.turned (t':=s.toks) (λc o hc e=>(sb.2 c hc).trans e) f.1 f.2.1 f.2.2.2.1 f.2.2.2.2.1 f.2.2.2.2.2
noncomputable def jI (J:It)(g:TG)(tt:TT)(te:TE)(W:Nat->Nat->List V->St->Hp->Prop)(Fin:List V->Hp->Prop):Prop :=
 ∀i m xs σ' H',W i m xs σ' H'->xs.length<sizeLine/\((J.stop i H'/\Fin xs H') \/
  (J.go i H'/\∀x H2,J.yld i H' x H2->g x σ' H2 λσ3 H3=>tt σ3 H3 λb H4 =>
   if b=true then te σ3 H4 λy H5=>∃m',m'<m/\W (i+1) m' (xs++[y]) σ3 H5 else ∃m',m'<m/\W (i+1) m' xs σ3 H4))
theorem oj {fp:List Addr}{h1:Heap}{tk:Nat}(S:sM X N nl js osc scope)(I:Inv X pins σ H s)(f:∀b∈fp,c4 X pins H b)(L8:∀b∈fp,b<s.heap.objs.size)
 (hC:s.heap.objs.size<=C)(old:∀b o,s.heap.get? b=some o->h1.get? b=some o){m1:Cw}(OE:h1.Ns C m1):
 Inv (cS X N scope C fp s H) [] (σC nl js σ) H {s with heap:=h1,toks:=tk}:=by
 have J9:∀y∈scope.names,y.2=.free->X.env.kindOf y.1=some .cell\/X.env.kindOf y.1=some .free:=λy hy hf=>by
  have:=S.free y hy hf;rw[<-S.out] at this;exact this
 have JJ:∀y∈scope.names,y.2=.free->∃c,X.env.cells.lookup y.1=some c:=λy hy hf=>I.ok.has y.1 (J9 y hy hf);have sub:∀x c,(eO scope.names X.env).lookup x=some c->X.env.cells.lookup x=some c:=λx c e=>lY JJ e
 have Ni:∀b∈fp,b∉eQ X.stack:=λb hb z=>by
  rcases HK.mp (I.af0 b z) with q|q
  ·exact(f b hb).2.1 q
  ·exact(f b hb).2.2.1 q
 refine⟨⟨I.ok.mod,S.kind,I.ok.glob,I.ok.blt,hC,λx y c e1 e2=>I.ok.inj x y c (sub x c e1) (sub y c e2),λx hx=>?_,λx c z _=>absurd z (by show ¬(false=true);decide),I.ok.hd,I.ok.frames,.inl rfl,
  λb hb=>⟨IB (Ip (L8 b hb) hC),λx c e=>(f b hb).2.2.2.2.1 x c (sub x c e)⟩,I.bs,Ig I.ok.bsz I.sz,λb o e hb=>?_,Ni,I.stack,I.ags⟩,
  rfl,I.bare,Un.kept old,⟨m1,OE,λi x v e1 e2 e3=>?_⟩,λx c e=>?_,I.hok.fresh hC,λx c e=>I.afW x c (sub x c e),λp hp=>absurd (show p∈([]:List (Addr×Obj)) from hp) (by simp),I.hok.kept old,?_⟩
 ·have hx:(relabel scope X.env).names.lookup x=some .cell\/(relabel scope X.env).names.lookup x=some .free:=hx
  have m:(x,NameKind.free)∈scope.names:=by
   rcases hx with z|z
   ·exact fW S.cell z (.inl rfl)
   ·exact fW S.cell z (.inr rfl)
  exact rJ m
 ·rcases(f b hb).2.2.2.1 with z|z
  ·exact I.ok.ahW b o e z
  ·exact absurd (Ip (Ep e) (Ig I.ok.bsz z)) (GH _)
 ·-- Mj names
  have e1:N[i]?=some x:=e1;unfold σC at e2
  by_cases hi:i<nl
  ·rw[EC (by simpa using hi),List.getElem?_replicate] at e2
   split at e2 <;> cases e2
  ·obtain⟨k,rfl⟩:∃k,i=nl+k:=⟨i-nl,by omega⟩;rw[yy (by simp),Cb,Nat.add_sub_cancel_left,CR] at e2
   cases ej:js[k]? with
   |none=>rw[ej] at e2;cases e2
   |some j =>
    rw[ej] at e2;have e2:some ((σ[j]?).join)=some (some v):=e2;have e2:=Option.some.inj e2
    have e4:σ[j]?=some (some v):=by
     cases q:σ[j]? with
     |none=>rw[q] at e2;cases e2
     |some z=>rw[q] at e2;exact Ec some e2
    have e5:(N.drop nl)[k]?=some x:=by rw[List.getElem?_drop];exact e1
    have gp:∀{l1:List Nat}{l2:F3}{k:Nat}{j:Nat}{x:Str},Paired (λj x=>X.N[j]?=some x/\(x,NameKind.free)∈scope.names) l1 l2->l1[k]?=some j->l2[k]?=some x->X.N[j]?=some x/\(x,NameKind.free)∈scope.names:=by
     intro l1 l2 k j x p
     induction p generalizing k with
     |nil=>intro h;simp at h
     |cons r _ ih =>
      intro h1 h2
      cases k with
      |zero=>simp at h1 h2;subst h1;subst h2;exact r
      |succ k=>exact ih (by simpa using h1) (by simpa using h2)
    obtain⟨hx,hm⟩:=gp S.src ej e5;have hk:=J9 (x,.free) hm rfl;obtain⟨m,hn,hl⟩:=I.loc
    have vis:HD X.env.scope x:=by
     rcases hk with z|z
     ·exact .inr (.inl z)
     ·exact .inr (.inr z)
    obtain⟨u,r,l⟩:=hl j x v hx e4 vis;refine⟨u,r,?_⟩
    rcases l with⟨k1,_⟩|⟨_,c,hc,Kz⟩
    ·exfalso
     rcases hk with z|z <;> (rw[z] at k1;cases k1)
    ·obtain⟨c',Jv⟩:=rJ (env:=X.env) hm;have:=sub x c' Jv;rw[hc] at this
     cases this
     refine .inr ⟨?_,c,Jv,?_⟩
     ·rcases e3 with z|z|z
      ·-- a name of Mj Tu own: no
       exfalso
       have lk:scope.names.lookup x=some .local:=by
        have gen:∀(l:List (Str×NameKind)),(l.map λ(n,k)=>if(k==NameKind.free&&X.env.scope.kind == .function&&X.env.kindOf n==some .cell) then(n,NameKind.cell) else(n,k)).lookup x=some .local->l.lookup x=some .local:=by
         intro l
         induction l with
         |nil=>intro h;simp at h
         |cons p r ih =>
          obtain⟨n,k0⟩:=p;intro h;have h:List.lookup x ((if(k0==NameKind.free&&X.env.scope.kind == .function&&X.env.kindOf n==some .cell)=true then(n,NameKind.cell) else(n,k0)):: r.map λ(n,k)=>if(k==NameKind.free&&X.env.scope.kind == .function&&X.env.kindOf n==some .cell) then(n,NameKind.cell) else(n,k))=some .local:=h
          cases hb:x==n with
          |true =>
           by_cases Jv:(k0==NameKind.free&&X.env.scope.kind == .function&&X.env.kindOf n==some .cell)=true
           ·rw[qk Jv] at h;simp only[xr,hb] at h;cases h
           ·rw[IX Jv] at h;simp only[xr,hb] at h |-;exact h
          |false =>
           simp only[xr,hb];refine ih ?_
           by_cases Jv:(k0==NameKind.free&&X.env.scope.kind == .function&&X.env.kindOf n==some .cell)=true
           ·rw[qk Jv] at h;simp only[xr,hb] at h;exact h
           ·rw[IX Jv] at h;simp only[xr,hb] at h;exact h
        exact gen _ z
       exact S.alx (x,.free) hm rfl lk
      ·exact .inl z
      ·exact .inr z
     ·obtain⟨o,ho,hd⟩:=Kz;exact⟨o,old _ _ ho,hd⟩
 ·obtain⟨v,o,ho,hd⟩:=I.cell x c (sub x c e);exact⟨v,o,old _ _ ho,hd⟩
 ·show(σC nl js σ).length=N.length;unfold σC;rw[zr,Cb,EZ,S.len]
noncomputable abbrev iF (ys:HF)(k:Nat):Obj:={cls:=.type "list",data:=.seq ys.toArray k}
theorem kX {J:It}{it:Addr}{fp:List Addr}{tn:Nat->Heap->Prop}{W:Nat->Nat->List V->St->Hp->Prop}{Fin:List V->Hp->Prop}
 {E:AU}{RR:Value->Addr->Result->Shared->Prop}
 (S:sM X N nl js osc scope)(hc:X.calm=true)(hg:∀C fp s H,PG (cS X N scope C fp s H) tg g)(ht:∀C fp s H,Bd (cS X N scope C fp s H) ifs tt)(he:∀C fp s H,PE (cS X N scope C fp s H) elt te)
 (I:Inv X pins σ H s)(T:Turn X.prog X.w X.K tg J fp it tn)(st:tn 0 s.heap)(f:∀b∈fp,c4 X pins H b)(w0:∃m,W 0 m [] (σC nl js σ) H)(hW:jI J g tt te W Fin)
 (UR:∀(D C:Addr)(H':Hp)(s':pL)(xs:List V)(m:Cw),Inv X pins σ (upd H' D (.lst xs)) s'->H' D=none->s'.heap.Ns C m->c4 X pins (upd H' D (.lst xs)) C->Fin xs H'->RR (.ref D) C (.ok .next) s'):
 wpAny (model X.prog X.w) X.A (newList []) (λacc s₃=>wpAny (model X.prog X.w) X.A (newFunctionEnv scope X.env.globals (eO scope.names X.env) [] X.env.qual none .none (some X.env)) (λLi s₄ =>
  codeAny (model X.prog X.w) X.A (.compStart (.ListComp elt [⟨tg,iter,ifs,0⟩] scope pos) 0 (.ref it) acc {Li with scope:=relabel scope X.env}) (RR acc Li.locals) s₄) E s₃) E s:=by
 have L8:∀b∈fp,b<s.heap.objs.size:=λb hb=>by
  obtain⟨o,e,_⟩:=T.obj 0 _ st b hb;exact Ep e
 refine Bf (wpAny_newFunctionEnv S.cell (by intro y hy;simp at hy) (λh₁ Kt J0=>?_) S.kind);dsimp only at Kt J0 |-;generalize Nj:s.heap.push {cls:=.type "list",dict:=none,data:=.seq ([]:HF).toArray}=H2 at Kt J0 |-
 have hC:H2.objs.size=s.heap.objs.size+1:=by rw[<-Nj,B5]
 have LP:s.heap.objs.size≠H2.objs.size:=by rw[hC];exact IB (Fd _)
 have below:∀b,b<s.heap.objs.size->b≠H2.objs.size/\b≠s.heap.objs.size:=λb hb=>⟨by rw[hC];exact IB (sS hb),IB hb⟩;have old:∀b o,s.heap.get? b=some o->h₁.get? b=some o:=λb o e=>J0.extBut b o (below b (Ep e)).1 (Ez _ (Nj▸Ez _ e));have Nl:h₁.get? s.heap.objs.size=some {cls:=.type "list",data:=.seq ([]:HF).toArray 0}:=J0.extBut _ _ LP (Ez _ (Nj▸Fg _ rfl))
 have Lj:s.heap.objs.size<=H2.objs.size:=by rw[hC];exact Ja _
 have JJ:∀y∈scope.names,y.2=.free->∃c,X.env.cells.lookup y.1=some c:=λy hy hf=>by
  have z:=S.free y hy hf;rw[<-S.out] at z;exact I.ok.has y.1 z
 have sub:∀x c,(eO scope.names X.env).lookup x=some c->X.env.cells.lookup x=some c:=λx c e=>lY JJ e
 have US:∀x c,(eO scope.names X.env).lookup x=some c->c<s.heap.objs.size:=λx c e=>by
  obtain⟨v,q⟩:=I.cell x c (sub x c e);exact q.lt
 have Ni:∀b∈fp,b∉eQ X.stack:=λb hb z=>by
  rcases HK.mp (I.af0 b z) with q|q
  ·exact(f b hb).2.1 q
  ·exact(f b hb).2.2.1 q
 have OF:s.heap.objs.size∉eQ X.stack:=λz=>by
  rcases HK.mp (I.af0 _ z) with q|q
  ·exact absurd I.lt (by rw[<-q];exact GH _)
  ·exact I.ai4 (yH _) q
 have Pp:s.heap.objs.size∉fp:=λz=>GH _ (L8 _ z)
 have Nn:∀{H':Hp}{ob:Obj},(∀b∈fp,H' b=none)->∀b∈fp,c4 (cS X N scope H2.objs.size fp s H) [(s.heap.objs.size,ob)] H' b:=λ{H' ob} hn b hb =>
  ⟨hn b hb,(below b (L8 b hb)).1,Ni b hb,.inl hb,λx c e=>(f b hb).2.2.2.2.1 x c (sub x c e),λp hp z=>by
   have e:p=(s.heap.objs.size,ob):=by
    have:p∈[(s.heap.objs.size,ob)]:=hp;simpa using this
   subst e
   exact Pp (by rw[show s.heap.objs.size=b from z];exact hb)⟩
 have UT:∀{H':Hp},H' s.heap.objs.size=none->c4 (cS X N scope H2.objs.size fp s H) [] H' s.heap.objs.size:=λ{H'} hn =>
  ⟨hn,LP,OF,.inr (yH _),λx c e=>IB (US x c e),λp hp=>absurd (show p∈([]:List (Addr×Obj)) from hp) (by simp)⟩
 have L9:∀{σ':St}{H':Hp}{s':pL}{ys:HF}{k:Nat},Inv (cS X N scope H2.objs.size fp s H) [] σ' H' s'->H' s.heap.objs.size=none->s'.heap.get? s.heap.objs.size=some (iF ys k) →
  Inv (cS X N scope H2.objs.size fp s H) [(s.heap.objs.size,iF ys k)] σ' H' s':=λ{σ' H' s' ys k} I' hn hl=>I'.afO λp hp=>by
  have e:p=(s.heap.objs.size,iF ys k):=by simpa using hp
  subst e;exact⟨hl,hn,LP,OF,λv z=>by cases z⟩
 have md:∀s₃:Shared,s₃={s with heap:=h₁,toks:=s.toks+([]:List (Str×Value)).length} →
  codeAny (model X.prog X.w) X.A (.compLoop (.ListComp elt [⟨tg,iter,ifs,0⟩] scope pos) 0 (.ref it) (.ref s.heap.objs.size) (compEnvC scope (eO scope.names X.env) H2.objs.size X.env))
   (RR (.ref s.heap.objs.size) H2.objs.size) s₃:=by
  rintro s₃ rfl;obtain⟨m0,w0⟩:=w0;have I0:Inv (cS X N scope H2.objs.size fp s H) [] (σC nl js σ) H {s with heap:=h₁,toks:=s.toks+([]:List (Str×Value)).length}:=oj S I f L8 Lj old Kt
  refine abI (λn s'=>∃i σ' H' xs ys k,Inv (cS X N scope H2.objs.size fp s H) [(s.heap.objs.size,iF ys k)] σ' H' s'/\tn i s'.heap/\(∀b∈fp,H' b=none)/\aN xs ys/\W i n xs σ' H') ?_ m0
   ⟨0,σC nl js σ,H,[],[],0,L9 I0 (I.hok.fresh (yH _)) Nl,T.keep _ _ _ st λb _ o e=>old b o e,λb hb=>(f b hb).1,.nil,w0⟩
  rintro n s' ⟨i,σ',H',xs,ys,k,I',JW,Pq,rv,w'⟩;obtain⟨hz,hw⟩:=hW i n xs σ' H' w'
  rcases hw with⟨stop,fin⟩|⟨go,step⟩
  ·refine Ax (T.done (cS X N scope H2.objs.size fp s H) rfl rfl rfl hc i _ s' σ' H' (λ_ _=>False) I' (Nn Pq) JW stop) (λr s1 z'=>?_) λ_ _ z=>z;obtain⟨hr,I1⟩:=z';subst hr;obtain⟨p1,p2,_⟩:=I1.pin (s.heap.objs.size,iF ys k) (by show _∈([]:List (Addr×Obj))++[_];simp);have u1:Un (eQ X.stack) fp H H' s.heap s1.heap:=I1.base
   have u2:Un (eQ X.stack) fp H (upd H' s.heap.objs.size (.lst xs)) s.heap s1.heap:=⟨u1.keep,u1.slot,λb o e n hx=>by rw[aA (IB (Ep e))];exact u1.free b o e n hx,u1.there,
    λb zs e=>by rw[aA (aB (u1.afT b zs e) p2)];exact u1.afT b zs e,λb o zs e=>by rw[aA (aB (u1.afR b o zs e) p2)];exact u1.afR b o zs e,λb ps e=>by
     obtain⟨mo,q⟩:=u1.af5 b ps e
     exact⟨mo,by rw[aA (aB q p2)];exact q⟩⟩
   have hk:gk X.prog X.w (upd H' s.heap.objs.size (.lst xs)) s1.heap:=d9 I1.hok p2 ⟨xx hz,ys,k,rv,p1⟩;have I3:Inv X pins σ (upd H' s.heap.objs.size (.lst xs)) s1:=I.aiO I1.os u2 hk I1.bare λb hb=>⟨(f b hb).2.2.2.1,(f b hb).2.1,(f b hb).2.2.2.2.1,(f b hb).2.2.2.2.2⟩;obtain⟨mm,UU,_⟩:=I1.loc
   have UW:upd H' s.heap.objs.size (.lst xs) H2.objs.size=none:=by rw[aA (Bt LP)];exact I1.free
   exact UR _ _ H' s1 xs mm I3 p2 UU (I.agx Lj UW) fin
  ·refine Ax (T.item (cS X N scope H2.objs.size fp s H) rfl rfl rfl hc i _ s' σ' H' (λ_ _=>False) I' (Nn Pq) JW go) (λr s1 z'=>?_) λ_ _ z=>z;obtain⟨u,hr,h4⟩:=z';subst hr;refine Ax h4 (λ_ s2 z'=>?_) λ_ _ z=>z;obtain⟨x,Pr,I2,r2,y2,Kr,UX⟩:=z';have UY:=I2.pinned (Nn UX) (T.obj _ _ Kr);refine Ax (hg _ _ _ _ _ s2 σ' Pr x u _ UY r2 (step x Pr y2)) (λ_ s3 z'=>?_) λ_ _ z=>z;obtain⟨σ3,H3,I3,q3⟩:=z';refine Ax (ht _ _ _ _ _ s3 σ3 H3 _ I3 q3) (λok s4 z'=>?_) λ_ _ z=>z;obtain⟨H4,I4,q4⟩:=z'
   have back:∀{s5:pL}{H5:Hp},Inv (cS X N scope H2.objs.size fp s H) ([(s.heap.objs.size,iF ys k)]++dI fp s2.heap) σ3 H5 s5->tn (i+1) s5.heap/\∀b∈fp,H5 b=none:=λ{s5 H5} I5 =>
    ⟨T.keep _ _ _ Kr λb hb o e=>(I5.pin (b,o) (Io _ (Io _ (cT hb e)))).1,λb hb=>by
     obtain⟨o,e,d⟩:=T.obj _ _ Kr b hb
     exact(I5.pin (b,o) (Io _ (Io _ (cT hb e)))).2.1⟩
   cases ok with
   |false =>
    rw[IX E7] at q4 |-;obtain⟨m',hm,w4⟩:=q4;exact⟨m',hm,i+1,σ3,H4,xs,ys,k,I4.afK,(back I4).1,(back I4).2,rv,w4⟩
   |true =>
    rw[qk rfl] at q4 |-;refine Ax (he _ _ _ _ _ s4 σ3 H4 _ I4 q4) (λv s5 z'=>?_) λ_ _ z=>z;obtain⟨y,H5,I5,r5,m',hm,w5⟩:=z';obtain⟨p1,p2,_⟩:=I5.pin (s.heap.objs.size,iF ys k) (Io _ (A6 _ (by simp)));obtain⟨Pa,UA⟩:=back I5;refine append_at (its:=ys.toArray) p1 (λh' sb hD=>?_) (by rw[Jc,<-rv.length];exact xx hz);have I6:Inv (cS X N scope H2.objs.size fp s H) [] σ3 H5 {s5 with heap:=h'}:=cY (I5.afO (pins':=[]) λp hp=>absurd hp (by simp)) (UT p2) sb;refine⟨m',hm,i+1,σ3,H5,xs++[y],ys++[v],k+1,L9 I6 p2 ?_,T.keep _ _ _ Pa λb hb o e=>(sb.2 b λz=>Pp (z▸hb)).trans e,UA,rv.append (.cons r5 .nil),w5⟩;rw[hD];show some _=some (iF (ys++[v]) (k+1));rw[iF,<-List.push_toArray]
 exact codeAny_compStart_list (md _ rfl) (T.self X.A 0 _ _ _ (T.keep _ _ _ st λb _ o e=>old b o e) (md _ rfl))
noncomputable def uT (wi:TI)(g:TG)(tt:TT)(te:TE)(nl:Nat)(js:List Nat):TE:=λσ H Q=>wi σ H λJ H1 =>
 ∃W:Nat->Nat->List V->St->Hp->Prop,(∃m,W 0 m [] (σC nl js σ) H1)/\jI J g tt te W λxs H'=>∀D,H' D=none->Q (.ref D) (upd H' D (.lst xs))
theorem ib (S:sM X N nl js osc scope)(I:Inv X pins σ H s):closureFor scope X.env=pure (eO scope.names X.env):=abO λy hy hf=>by
 have z:=S.free y hy hf;rw[<-S.out] at z;exact I.ok.has y.1 z
theorem cj {wi:TI}(S:sM X N nl js osc scope)(hc:X.calm=true)(hi:PI X tg iter wi)(hg:∀C fp s H,PG (cS X N scope C fp s H) tg g)(ht:∀C fp s H,Bd (cS X N scope C fp s H) ifs tt)
 (he:∀C fp s H,PE (cS X N scope C fp s H) elt te)(hs:∀x,foldedSetIterable iter X.env x=pure x:=by intro _;rfl):
 PE X (.ListComp elt [⟨tg,iter,ifs,0⟩] scope pos) (uT wi g tt te nl js):=by
 intro pins s σ H Q I h;rw[eval_ListComp];refine yl (use:=none) rfl hs (ib S I) S.kind S.names (cx (hi pins s σ H _ I h) λv s1 h1=>cx h1 λOy s2 h2=>?_);obtain⟨it,fp,tn,J,H2,e,I2,T,Kr,f2,W,w0,hW⟩:=h2;subst e;refine kX (RR:=λacc C=>compPost (model X.prog X.w) X.A X.xe none (EP X pins σ Q) acc C) S hc hg ht he I2 T Kr f2 w0 hW ?_;intro D C H' s' xs m I3 hD hn fC fin;exact⟨m,hn,λh' sb=>⟨.ref D,_,cY I3 fC sb,rfl,fin D hD⟩⟩
theorem jV {i:Nat}{y:Str}{py Pt:Pos}{wi:TI}(S:sM X N nl js osc scope)(hc:X.calm=true)(hN:X.N.Nodup)(hy:X.N[i]?=some y)(hl:Hh X.env.scope y)(hi:PI X tg iter wi)
 (hg:∀C fp s H,PG (cS X N scope C fp s H) tg g)(ht:∀C fp s H,Bd (cS X N scope C fp s H) ifs tt)(he:∀C fp s H,PE (cS X N scope C fp s H) elt te)
 (hsw:swapsWith (.ListComp elt [⟨tg,iter,ifs,0⟩] scope pos) (some (.Name y py)) Pt.line X.env=pure true)(hs:∀x,foldedSetIterable iter X.env x=pure x:=by intro _;rfl)
 (hf:X.fn y=true\/X.env.scope.names.lookup y=some .local:=by first|exact .inl rfl|exact .inr rfl|assumption):
 PS X (.Assign [.Name y py] (.ListComp elt [⟨tg,iter,ifs,0⟩] scope pos) Pt) (qh (uT wi g tt te nl js) (bK i)):=by
 intro pins s σ H D I h;rw[exec_Assign_Name_used _ _ _ _ hsw];refine IW (GW (IW ?_));show wpAny _ X.A (do let _ <-comprehension (.ListComp elt [⟨tg,iter,ifs,0⟩] scope pos) scope X.env _ (newList []) false (eval iter X.env) (some (assign (.Name y py) X.env))) _ _ s
 refine IW (Ax (yl (use:=some (assign (.Name y py) X.env)) (Q:=λ_ s'=>SP X pins D .next s') rfl hs (ib S I) S.kind S.names
  (cx (hi pins s σ H _ I h) λv s1 h1=>cx h1 λOy s2 h2=>?_)) (λ_ s' hq=>Fc (Fc hq)) λ_ _ e=>e)
 obtain⟨it,fp,tn,J,H2,e,I2,T,Kr,f2,W,w0,hW⟩:=h2;subst e;refine kX (RR:=λacc C=>compPost (model X.prog X.w) X.A X.xe (some (assign (.Name y py) X.env)) (λ_ s'=>SP X pins D .next s') acc C) S hc hg ht he I2 T Kr f2 w0 hW ?_;intro Dd C H' s' xs m I3 hD hn fC fin;show wpAny _ X.A (assign (.Name y py) X.env (.ref Dd)) _ _ _;refine wpAny_assign_Name (oB I3 hN hy hl (show aL (.ref Dd) (.ref Dd) from rfl) (λs4 I4 z'=>?_) hf);obtain⟨a,sb,ha⟩:=z';refine⟨m,hn.sameBut sb ?_,λh' Mo=>⟨_,_,cY I4 fC Mo,fin Dd hD⟩⟩
 rcases ha with z|z
 ·rw[z];exact fC.2.1
 ·exact λq=>fC.2.2.2.2.1 _ _ z q.symm
end
open PySem.W
noncomputable def abP (h B:Heap)(e:Addr)(cls a0 fl:Value)(d:DT):Prop :=
 ∃(o:Obj)(vs:Il)(T:Addr)(oT:Obj)(ts:Il),h.get? e=some o/\o.dict=d/\(o.cls=cls/\vs[0]?=some a0)/\o.data=.fields vs/\vs[1]?=some (.ref T)/\B.get? T=none/\T≠e/\h.get? T=some oT/\oT.data=.fields ts/\ts[3]?=some fl
structure Es (B:Heap)(l:List Env)(e:Addr)(cls a0 fl:Value)(d:DT)(h:Heap):Prop where
 st:B.StaysIn h
 new:B.get? e=none
 fr:h.FunFrames B l
 tr:abP h B e cls a0 fl d
variable {o:Obj}{vs:Il}
section
variable {M:Model}{A:Around}{E:AU}{s:pL}{B:Heap}{env:Env}{outer:List Env}{L e:Addr}{cls a0:Value}{d:DT}{Q:Unit->Shared->Prop}
theorem uW {hd:Value}{nx:Bool}(Ll:A.frames=some (env::outer))(fr:s.heap.FunFrames B (env::outer))(hf:env.frame=some L)(st:B.StaysIn s.heap)(new:B.get? e=none)
 (he:s.heap.get? e=some o)(KN:o.dict=d)(hc:o.cls=cls)(hv:o.data=.fields vs)(h1:1<vs.size)(h0:vs[0]?=some a0)
 (h:∀h',Es B (env::outer) e cls a0 (rawInt L) d h'->s.heap.UpToSlots h'->Q () {s with heap:=h'}):
 wpAny M A (do let a <-frameOf env;let pl <-entryPlaceOf L nx;let b <-EntryCells.newEntry hd a .none (rawInt L) .none pl;setField (.ref e) 1 b) Q E s:=by
 have nf:e∉(env::outer).filterMap (·.frame):=λm=>by
  obtain⟨_,o',J6,q⟩:=fr.mem m;rw[he] at J6;cases J6;exact q vs hv
 refine IW (wpAny_frameOf_fun Ll fr hf λg sl=>IW (wpAny_entryPlaceOf λpl Ks=>?_));unfold EntryCells.newEntry newFields;refine IW (Bf ?_ (Ks.sizeOk5 _ _ _ _ _));have e1:g.get? e=some o:=(sl.2.1 e nf).trans he;have Yg:B.StaysIn g:=λb ob q=>(sl.2.1 b λm=>by rw[(fr.mem m).1] at q;cases q).trans (st b ob q);have ne:g.objs.size≠e:=tU (Ep e1);have dv:=xG hv (·.setIfInBounds 1 (Value.ref g.objs.size))
 have kp:∀(oT:Obj) b ob,b≠e->g.get? b=some ob->((g.push oT).update e (Obj.mapFields (·.setIfInBounds 1 (Value.ref g.objs.size)))).get? b=some ob:=λoT b ob hb q =>
  (ng _ _ (Bt hb)).trans (Ez _ q)
 have nr:∀b ob,s.heap.get? b=some ob->(∀ws,ob.data≠.fields ws)->b≠e:=λb ob q hn z=>by rw[z,he] at q;cases q;exact hn vs hv
 refine GO (Ez _ e1) hv h1 (h _ ⟨λb ob q=>kp _ b ob (λz=>by rw[z,new] at q;cases q) (Yg b ob q),new,fr.of_keeps λb ob q hn=>?_,?_⟩ λb ob q hn=>?_)
 ·obtain⟨z,q1⟩:=sl.2.2 b ob q;exact⟨_,kp _ b _ (nr b ob q hn) q1,rfl⟩
 ·refine⟨_,_,g.objs.size,_,_,Fn _ (Ez _ e1) (wI dv),?_,⟨(Obj.cls_mapFields _ _).trans hc,by rw[Ac (by decide)];exact h0⟩,dv,by simp[h1],Yg.fresh,ne,
   (ng _ _ (Bt ne)).trans (Fg g rfl),rfl,by first|(simp;done)|(rcases Ks with rfl|⟨_,_,_,_,_,_,_,rfl⟩ <;> simp)⟩
  rw[<-KN]
  cases o
  dsimp only at hv;subst hv;rfl
 ·obtain⟨z,q1⟩:=sl.2.2 b ob q;exact⟨z,kp _ b _ (nr b ob q hn) q1⟩
theorem abT (Ll:A.frames=some (env::outer))(hf:env.frame=some L)(x:Es B (env::outer) e cls a0 .none d s.heap)
 (h:∀h',Es B (env::outer) e cls a0 (rawInt L) d h'->s.heap.UpToSlots h'->Q () {s with heap:=h'}):wpAny M A (noteFrame (.ref e) env) Q E s:=by
 obtain⟨o,vs,T,oT,ts,he,KN,⟨hc,h0⟩,hv,h1,nT,Te,hT,Mp,h3⟩:=x.tr;unfold noteFrame;simp only[hf];refine IW (zV he hv h1 ?_);rw[qk (by simp)];refine IW (zV hT Mp h3 ?_);rw[IX (by simp[rawInt])];refine IW (GO hT Mp (Cg.mp h3).1 ?_);have ot:∀b,b≠T->(s.heap.update T (Obj.mapFields (·.setIfInBounds 3 Value.none))).get? b=s.heap.get? b:=λb hb=>ng _ _ (Bt hb)
 have nr:∀b ob,s.heap.get? b=some ob->(∀ws,ob.data≠.fields ws)->b≠T:=λb ob q hn z=>by rw[z,hT] at q;cases q;exact hn ts Mp
 refine uW (s:={s with heap:=s.heap.update T (Obj.mapFields (·.setIfInBounds 3 Value.none))}) Ll (x.fr.of_keeps λb ob q hn=>⟨ob,(ot b (nr b ob q hn)).trans q,rfl⟩) hf (λb ob q=>(ot b λz=>by rw[z,nT] at q;cases q).trans (x.st b ob q)) x.new
  ((ot e (Bt Te)).trans he) KN hc hv (Cg.mp h1).1 h0 λh' y up=>h h' y λb ob q hn=>up b ob ((ot b (nr b ob q hn)).trans q) hn
theorem abV (Ll:A.frames=some (env::outer))(fr:s.heap.FunFrames B (env::outer))(hf:env.frame=some L)(st:B.StaysIn s.heap)(new:B.get? e=none)
 (he:s.heap.get? e=some o)(KN:o.dict=d)(hc:o.cls=cls)(hv:o.data=.fields vs)(h1:vs[1]?=some .none)(h0:vs[0]?=some a0)
 (h:∀h',Es B (env::outer) e cls a0 (rawInt L) d h'->s.heap.UpToSlots h'->Q () {s with heap:=h'}):wpAny M A (noteFrame (.ref e) env) Q E s:=by
 unfold noteFrame;simp only[hf];refine IW (zV he hv h1 ?_);rw[IX (by decide)];exact uW Ll fr hf st new he KN hc hv (Cg.mp h1).1 h0 h
theorem qv {l:List Env}{fl:Value}(x:Es B l e cls a0 fl d s.heap)(h:∀h',Es B l e cls a0 .none d h'->s.heap.UpToSlots h'->Q () {s with heap:=h'}):wpAny M A (setFlight (.ref e) none) Q E s:=by
 obtain⟨o,vs,T,oT,ts,he,KN,hc,hv,h1,nT,Te,hT,Mp,h3⟩:=x.tr;have z3:3<ts.size:=(Cg.mp h3).1;have ot:∀b,b≠T->(s.heap.update T (Obj.mapFields (·.setIfInBounds 3 Value.none))).get? b=s.heap.get? b:=λb hb=>ng _ _ (Bt hb)
 have nr:∀b ob,s.heap.get? b=some ob->(∀ws,ob.data≠.fields ws)->b≠T:=λb ob q hn z=>by rw[z,hT] at q;cases q;exact hn ts Mp
 unfold setFlight;refine IW (zV he hv h1 ?_);rw[qk (by simp)];refine GO hT Mp z3 (h _ ⟨λb ob q=>(ot b λz=>by rw[z,nT] at q;cases q).trans (x.st b ob q),x.new,x.fr.of_keeps λb ob q hn=>⟨ob,(ot b (nr b ob q hn)).trans q,rfl⟩,?_⟩ λb ob q hn=>⟨ob.slots,(ot b (nr b ob q hn)).trans q⟩);exact⟨o,vs,T,_,_,(ot e (Bt Te)).trans he,KN,hc,hv,h1,nT,Te,Fn _ hT (wI (xG Mp _)),xG Mp _,by simp[z3]⟩
theorem Es.out {fl:Value}(x:Es B (env::outer) e cls a0 fl d h):Es B outer e cls a0 fl d h:=⟨x.st,x.new,x.fr.2.2,x.tr⟩
theorem ab5 (Ll:A.frames=some (env::outer))(hf:env.frame=some L)(x:Es B (env::outer) e cls a0 .none d s.heap)
 (h:∀h',Es B outer e cls a0 .none d h'->s.heap.UpToSlots h'->Q () {s with heap:=h'}):wpAny M A (leaving env (.ref e)) Q E s:=by
 unfold leaving;exact IW (abT Ll hf x λg y up=>qv (s:={s with heap:=g}) y λg2 y2 UZ=>h g2 y2.out (up.trans UZ))
theorem afH (Ll:A.frames=some (env::outer))(fr:s.heap.FunFrames B (env::outer))(hf:env.frame=some L)(st:B.StaysIn s.heap)(new:B.get? e=none)
 (he:s.heap.get? e=some o)(KN:o.dict=d)(hc:o.cls=cls)(hv:o.data=.fields vs)(h1:vs[1]?=some .none)(h0:vs[0]?=some a0)
 (h:∀h',Es B outer e cls a0 .none d h'->s.heap.UpToSlots h'->Q () {s with heap:=h'}):wpAny M A (leaving env (.ref e)) Q E s:=by
 unfold leaving;exact IW (abV Ll fr hf st new he KN hc hv h1 h0 λg y up=>qv (s:={s with heap:=g}) y λg2 y2 UZ=>h g2 y2.out (up.trans UZ))
end
theorem bJ.there {o:HO}(x:bJ P w H h a o):∃ob,h.get? a=some ob:=by
 cases o with
 |lst xs=>obtain⟨_,_,_,_,e⟩:=x;exact⟨_,e⟩
 |tup xs=>obtain⟨_,_,_,ob,e,_⟩:=x;exact⟨_,e⟩
 |dK Jf=>obtain⟨_,_,_,_,o,_,_,e,_⟩:=x;exact⟨_,e⟩
 |dT Jf=>obtain⟨_,_,_,_,o,_,_,e,_⟩:=x;exact⟨_,e⟩
 |set S n=>obtain⟨o,_,_,_,e,_⟩:=x;exact⟨_,e⟩
 |ins C dx fs=>obtain⟨_,_,_,e,_⟩:=x;exact⟨_,e⟩
 |own y=>obtain⟨_,e⟩:=x;exact⟨_,e⟩
 |xd fs=>obtain⟨_,⟨_,_,_,e,_⟩,_⟩:=x;exact⟨_,e⟩
 |rng lo hi=>obtain⟨_,_,_,e⟩:=x;exact⟨_,e⟩
 |frz ob u=>obtain⟨e,_⟩:=x;exact⟨_,e⟩
 |tbl ps=>exact⟨_,(show h.get? a=some _ from x)⟩
 |met f y=>exact⟨_,(show h.get? a=some _ from x)⟩
 |ext φ=>obtain⟨_,⟨_,e⟩,_⟩:=x;exact⟨_,e⟩
structure sO (P:xq)(w:World)(l:List Env)(H₀:Hp)(h₀:Heap)(a:Addr)(cls:Value)(H:Hp)(h:Heap)(B:Heap)(a0:Value)(d:DT):Prop where
 fly:Es B l a cls a0 .none d h
 un:Un (eQ l) [] H₀ H h₀ h
 keep:∀b o,h₀.get? b=some o->H₀ b=none->b∉eQ l->B.get? b=some o
 there:∀b o,h₀.get? b=some o->b∉eQ l->∃o',B.get? b=some o'
 hok:gk P w H B
 new:H a=none
noncomputable def cI (P:xq)(w:World):Jd:=λouter H₀ s₀ E e s'=>∃(a:Addr)(cls a0:Value)(B:Heap)(d:DT)(H:Hp),e=.ref a/\s'.os=s₀.os/\AllBare s'.gens/\sO P w outer H₀ s₀.heap a cls H s'.heap B a0 d/\E cls d H
variable {cls:Value}
section
variable {X:Cx}{pins:List (Addr×Obj)}{σ:St}{H H':Hp}{s s':pL}{P:xq}{w:World}
theorem eZ {base:Heap}{l:List Env}(F:h.FunFrames base l){b:Addr}(hb:b∈eQ l)(e:h.get? b=some o):∀vs,o.data≠.fields vs:=by
 obtain⟨_,o',e',d⟩:=F.mem hb;rw[e] at e'
 cases e'
 exact d
theorem afV {outer:List Env}{h' LQ B:Heap}{e t:Addr}{args:HF}{d:DT}(I:Inv X pins σ H s)(hex:X.ex=[])(M7:X.stack=X.env::X.outer)(hm:Heap.MadeExcOf s.heap h' e cls args)
 (hB:B=PySem.W.hideAll s.heap (eQ X.stack))(hf:Es B X.outer e cls (.ref t) .none d LQ)(Tv:h'.UpToSlots LQ):sO X.prog X.w X.outer X.H₀ X.s₀.heap e cls H LQ B (.ref t) d:=by
 subst hB;have st:=hf.st;have Pu:∀b o,s.heap.get? b=some o->b∉eQ X.stack->(PySem.W.hideAll s.heap (eQ X.stack)).get? b=some o:=λb o e n=>PySem.W.hideAll_get _ e n
 have old:∀b o,X.s₀.heap.get? b=some o->b∉eQ X.outer->b∉eQ X.stack:=λb o e n z=>by
  rcases HK.mp (I.af0 b z) with q|q
  ·exact absurd (Ip (Ep e) I.ok.above) (by rw[q];exact GH _)
  ·exact n q
 have base:Un (eQ X.outer) [] X.H₀ H X.s₀.heap s.heap:=by
  have z:=I.base;rw[hex] at z;exact z
 refine⟨hf,⟨λb o e n hb _=>st b o (Pu b o (base.keep b o e n hb (by simp)) (old b o e hb)),λb o e n hb _=>?_,base.free,λb o e _=>?_,base.afT,base.afR,base.af5⟩,λb o e n hb=>Pu b o (base.keep b o e n hb (by simp)) (old b o e hb),λb o e hb=>?_,λb u e=>?_,?_⟩
 ·obtain⟨sl,e1⟩:=base.slot b o e n hb (by simp);obtain⟨LO,e2⟩:=Tv b _ (hm.keeps b _ e1) (eZ I.af8 hb e1);exact⟨LO,e2⟩
 ·obtain⟨o',e1⟩:=base.there b o e (by simp)
  by_cases hb:b∈eQ X.outer
  ·obtain⟨LO,e2⟩:=Tv b _ (hm.keeps b _ e1) (eZ I.af8 hb e1);exact⟨_,e2⟩
  ·exact⟨o',st b o' (Pu b o' e1 (old b o e hb))⟩
 ·obtain⟨o',e1⟩:=base.there b o e (by simp);exact⟨o',Pu b o' e1 (old b o e hb)⟩
 ·exact(I.hok b u e).agX (λc v hc q=>Pu c v q λz=>by
   have n:=I.ags c z
   rcases hc with hc|hc
   ·rw[hc,e] at n;cases n
   ·rw[n] at hc;cases hc) (λ_ q=>q) λ_ _ q=>q
 ·cases q:H e with
  |none=>rfl
  |some u =>
   obtain⟨ob,e1⟩:=(I.hok e u q).there;rw[hm.new] at e1
   cases e1
theorem aa7 {LQ B:Heap}{a0:Value}{d:DT}(I:Inv X pins σ H s)(hex:X.ex=[])(F:sO X.prog X.w X.stack H s.heap a cls H' s'.heap B a0 d)
 (hf:Es B X.outer a cls a0 .none d LQ)(Tv:s'.heap.UpToSlots LQ):sO X.prog X.w X.outer X.H₀ X.s₀.heap a cls H' LQ B a0 d:=by
 have st:=hf.st
 have sub:∀b,b∈eQ X.outer->b∈eQ X.stack:=λb hb=>by
  rcases I.ok.stk with z|⟨z,Ll⟩
  ·rw[z];exact hb
  ·rw[z];unfold eQ;rw[Ie,Ll];exact rB _ hb
 have old:∀b o,X.s₀.heap.get? b=some o->b∉eQ X.outer->b∉eQ X.stack:=λb o e n z=>by
  rcases HK.mp (I.af0 b z) with q|q
  ·exact absurd (Ip (Ep e) I.ok.above) (by rw[q];exact GH _)
  ·exact n q
 have base:Un (eQ X.outer) [] X.H₀ H X.s₀.heap s.heap:=by
  have z:=I.base;rw[hex] at z;exact z
 have kB:∀b o,X.s₀.heap.get? b=some o->X.H₀ b=none->b∉eQ X.outer->B.get? b=some o:=λb o e n hb =>
  F.keep b o (base.keep b o e n hb (by simp)) (base.free b o e n (by simp)) (old b o e hb)
 have tB:∀b o,X.s₀.heap.get? b=some o->b∉eQ X.outer->∃o',B.get? b=some o':=λb o e hb=>by
  obtain⟨o',e1⟩:=base.there b o e (by simp);exact F.there b o' e1 (old b o e hb)
 have Le:∀b o,s.heap.get? b=some o->H b=none->b∈eQ X.outer->∃sl,LQ.get? b=some {o with slots:=sl}:=λb o e n hb=>by
  obtain⟨sl,e1⟩:=F.un.slot b o e n (sub b hb) (by simp);obtain⟨LO,e2⟩:=Tv b _ e1 (λvs q=>eZ I.af8 hb e vs q);exact⟨LO,e2⟩
 refine⟨hf,⟨λb o e n hb _=>st b o (kB b o e n hb),λb o e n hb _=>?_,λb o e n _=>?_,λb o e _=>?_,λb xs e=>F.un.afT b xs (base.afT b xs e),λb o xs e=>F.un.afR b o xs (base.afR b o xs e),λb ps e=>?_⟩,kB,tB,F.hok,F.new⟩
 ·obtain⟨sl,e1⟩:=base.slot b o e n hb (by simp);obtain⟨LO,e2⟩:=Le b _ e1 (base.free b o e n (by simp)) hb;exact⟨LO,e2⟩
 ·obtain⟨o',e1⟩:=base.there b o e (by simp);exact F.un.free b o' e1 (base.free b o e n (by simp)) (by simp)
 ·by_cases hb:b∈eQ X.outer
  ·obtain⟨o',e1⟩:=base.there b o e (by simp);have n:H b=none:=I.ags b (sub b hb);obtain⟨sl,e2⟩:=Le b o' e1 n hb;exact⟨_,e2⟩
  ·obtain⟨o',e1⟩:=tB b o e hb;exact⟨o',st b o' e1⟩
 ·obtain⟨m1,e1⟩:=base.af5 b ps e;obtain⟨m2,e2⟩:=F.un.af5 b _ e1;exact⟨m1++m2,by rw[e2,xF]⟩
end
theorem abi {K:PySem.W.Frag}{cd:ClassData}(h:PySem.W.clsIn K C=some cd):∃c d s,K.lookup C=some ⟨c,d,.cls cd,s⟩:=by
 unfold PySem.W.clsIn at h
 cases ho:K.lookup C with
 |none=>rw[ho] at h;cases h
 |some o =>
  rw[ho] at h;obtain⟨c,d,x,s⟩:=o
  cases x <;> cases h
  exact⟨_,_,_,rfl⟩
theorem abm {α:Type}{l:List α}(h:l.length=6):∃a b c d e f,l=[a,b,c,d,e,f]:=by
 obtain⟨a,l,rfl⟩:=Eh h;obtain⟨b,l,rfl⟩:=Eh (sI h);obtain⟨c,l,rfl⟩:=Eh (sI (sI h));obtain⟨d,l,rfl⟩:=Eh (sI (sI (sI h)));obtain⟨e,l,rfl⟩:=Eh (sI (sI (sI (sI h))));obtain⟨f,rfl⟩:=List.length_eq_one_iff.mp (sI (sI (sI (sI (sI h)))));exact⟨a,b,c,d,e,f,rfl⟩
theorem abr {K:PySem.W.Frag}{M5:HF}{newId:String}(X:K.In h)(q:gB K C M5 newId=true):
 ∃bm N nm qn bs hd sn sub ab col dd k0 k1 k2 k3 k5 mN,h.get? C=some (excClassObj nm qn C N bs bm hd sn sub ab col dd k0 k1 k2 k3 k5 newId)/\h.Ns N mN/\mN "__init__"=none/\OwnTail h M5 bm:=by
 have q1:=Bq.mp q;obtain⟨cd,hc,q2⟩:=(Option.any_eq_true _ _).mp q1.2;obtain⟨c,dd,sl,ho⟩:=abi hc;have q3:=Bq.mp q2;have q4:=Bq.mp q3.2;have q5:=Bq.mp q4.2;have q6:=Bq.mp q5.2
 have e1:(c == .type "type"&&(sl.size==6&&sl.toList[4]?==some (some (.builtin newId))))=true:=by
  have z:=q1.1;rw[ho] at z;exact z
 have e2:=Bq.mp e1;have e3:=Bq.mp e2.2;obtain⟨k0,k1,k2,k3,k4,k5,e⟩:=abm (l:=sl.toList) (eq_of_beq e3.1)
 have e4:k4=some (.builtin newId):=by
  have z:=eq_of_beq e3.2;rw[e] at z;exact Option.some.inj z
 have e5:sl = #[k0,k1,k2,k3,some (.builtin newId),k5]:=Array.toList_inj.mp (by rw[e,e4])
 have e6:cd.mro=.ref C::cd.mro.tail:=by
  obtain⟨r,z⟩:=List.head?_eq_some_iff.mp (eq_of_beq q3.1);rw[z];rfl
 have e7:cd.hasDel=false:=by simpa using q4.1
 refine⟨cd.mro.tail,cd.ns,cd.name,cd.qualname,cd.bases,cd.hasDict,cd.slotNames,cd.subclasses,cd.abstract,cd.collection,dd,k0,k1,k2,k3,k5,_,(X _ _ ho).trans ?_,.of_isNs (PySem.W.isNs_of_in X q6.1),PySem.W.nsMap_none_of_in X q6.1 (eq_of_beq q6.2),PySem.W.tail_of_in X q5.1⟩;rw[e5,eq_of_beq e2.1];show some (Obj.mk _ _ (.cls cd) _)=some (Obj.mk _ _ (.cls ⟨_,_,_,_,_,_,_,_,_,_,false⟩) _);rw[<-e6,<-e7]
noncomputable def zg (X:Cx)(E:St->XK):Prop:=∀(pins:List (Addr×Obj))(σ:St)(H:Hp)(s:pL)(h':Heap)(e:Addr)(cls:Value)(args:HF),Inv X pins σ H s->Heap.MadeExcOf s.heap h' e cls args->E σ cls none H->X.xe (.ref e) {s with heap:=h'}
noncomputable def abt (C:Addr)(E:St->XK)(t:TA):TS:=λ_ σ H=>t σ H λvs H1=>vs.length<=sizeLine/\E σ (.ref C) none H1
section
variable {X:Cx}{E:St->XK}{x:Str}{C:Addr}{B newId Np:String}{M5:HF}{np Jy pos:Pos}{e:Expr}{es:xB}{t:TA}
theorem cU (FB:ExcBaseFacts B newId Np M5)(q:gB X.K C M5 newId=true)(hc:X.calm=true)(hR:zg X E)(hg:Gl X x)(hm:X.mg x=some (.ref C))(ha:PA X (e::es) t)
 (he:starEach (e::es) X.env=(false,eval e X.env):: starEach es X.env:=by rfl)(Ks:(backTo Jy (starEach es X.env)).any (·.1)=false:=by rfl)(hd:(x==("__debug__":Str))=false:=by decide):
 PS X (.Raise (some (.Call (.Name x np) (e::es) [] Jy)) none pos) (abt C E t):=by
 intro pins s σ H D I h;obtain⟨bm,N,nm,qn,bs,hdct,sn,sub,ab,col,dd,k0,k1,k2,k3,k5,mN,hC,hN,hni,T⟩:=abr I.ok.mod.kin q
 refine wpAny_Raise_call_subT (C:=C) (nm:=nm) (q:=qn) (N:=N) (bs:=bs) (bm:=bm) (hdct:=hdct) (sn:=sn) (sub:=sub) (ab:=ab) (col:=col) (dd:=dd) (k0:=k0) (k1:=k1) (k2:=k2) (k3:=k3) (k5:=k5)
  FB (mN:=mN) (T.hasType FB.hasBase) (I.ok.hd hc) (by rw[he];show(false || (backTo Jy (starEach es X.env)).any (·.1))=false;rw[Ks];rfl) hni (iO I hg hm ⟨rfl,?_⟩ hd)
 have z:=ha Jy pins s σ H _ I h;rw[he] at z |-;refine Calls.evalArgs_plain (Ax z (λus s₂ z'=>?_) λ_ _ y=>y);obtain⟨vs,H2,I2,rv,hl,hE⟩:=z';exact⟨rfl,by rw[<-rv.length];exact hl,I2.bk _ _ hC,hN.keeps I2.bk,T.keeps I2.bk,λh' e' Tw=>hR pins σ H2 s₂ h' e' _ _ I2 Tw hE⟩
end
section
variable {P:xq}{w:World}{K:PySem.W.Frag}{mg:Cw}{base:Heap}{N:F3}{qual:Str}{scope:Scope}{f:Addr}{cd:Value}{A:Around}{outer:List Env}{s:pL}{H:Hp}{E:XK}
theorem cy:zg (gX (cI P w) P w K mg base N qual scope f cd A outer s H E) λ_=>E:=by
 intro pins σ H1 s1 h' e cls args I hm hE;have M7:(gX (cI P w) P w K mg base N qual scope f cd A outer s H E).stack=(gX (cI P w) P w K mg base N qual scope f cd A outer s H E).env::outer:=rfl;have hl:=I.stack;obtain⟨t,he,htn,ht⟩:=hm.there;have hB:∀b o,(PySem.W.hideAll s1.heap (eQ (gX (cI P w) P w K mg base N qual scope f cd A outer s H E).stack)).get? b=some o->s1.heap.get? b=some o:=λb o q=>PySem.W.of_hideAll _ q
 have nB:(PySem.W.hideAll s1.heap (eQ (gX (cI P w) P w K mg base N qual scope f cd A outer s H E).stack)).get? e=none:=by
  cases q:(PySem.W.hideAll s1.heap (eQ (gX (cI P w) P w K mg base N qual scope f cd A outer s H E).stack)).get? e with
  |none=>rfl
  |some o=>have z:=hB _ _ q;rw[hm.new] at z;cases z
 have fr1:=PySem.W.funFrames_hide hl λenv he a ha=>CJ.mpr ⟨env,he,ha⟩
 refine afH (B:=PySem.W.hideAll s1.heap (eQ (gX (cI P w) P w K mg base N qual scope f cd A outer s H E).stack)) (s:={s1 with heap:=h'}) (d:=none) (cls:=cls) (a0:=.ref t) I.ok.frames (fr1.of_keeps λb o q _=>⟨o,hm.keeps b o q,rfl⟩) rfl
  (λb o q=>hm.keeps b o (hB b o q)) nB he rfl rfl rfl rfl rfl λLQ x1 x4=>?_
 exact⟨e,cls,.ref t,_,none,H1,rfl,I.os,I.bare,afV (outer:=outer) I rfl rfl hm rfl x1 x4,hE⟩
theorem abz:eK (cI P w) (gX (cI P w) P w K mg base N qual scope f cd A outer s H E) E:=by
 intro pins σ H1 s1 e s' I hx;obtain⟨a,cls,a0,B,d,H',rfl,ho,hg,F,hE⟩:=hx;refine ab5 (L:=s.heap.objs.size) I.ok.frames rfl F.fly λLQ x1 x2=>?_;exact⟨a,cls,a0,B,d,H',rfl,ho.trans I.os,hg,aa7 I rfl F x1 x2,hE⟩
end
theorem ae {X:Cx}:eK (cI P w) X λ_ _ _=>False:=by
 intro pins σ H1 s1 e s' I hx;obtain⟨a,cls,a0,B,d,H',_,_,_,_,hE⟩:=hx;exact hE.elim
noncomputable def Gw (a:Addr)(cls:Value):HO:=.ext λh=>∃o vs,h.get? a=some o/\o.cls=cls/\o.data=.fields vs
theorem uR (k:gk P w H h)(e:H a=some (Gw a cls)):∃o vs,h.get? a=some o/\o.cls=cls/\o.data=.fields vs:=(k a _ e).1
structure BN (K:Frag)(C:Addr):Prop where
 cls:(clsIn K C).isSome=true
 ga:findIn K (.ref C) "__getattribute__"=some (some (.builtin "BaseException.__getattribute__"))
 gx:findIn K (.ref C) "__getattr__"=some none
 ca:findIn K (.ref C) "__class__"=some (some (.builtin "object.__class__"))
 ob:mroIn K C (.type "object")=some true
 be:mroIn K C (.type "BaseException")=some true
section
variable {prog:xq}{w:World}{A:Around}{E:AU}{K:Frag}{x C:Addr}{ox:Obj}
theorem abA {M:Model}{Mq:Value}{Q:Unit->Shared->Prop}(X:K.In s.heap)(k:BN K C)(e:s.heap.get? x=some ox)(hc:ox.cls=.ref C)(hq:Q () s):
 wpAny M A (checkBuiltinCall "BaseException.__getattribute__" ⟨[.ref x,Mq],[]⟩) Q E s:=by
 obtain⟨hh,g,d,t,os⟩:=s;have L0:Looks M hh (typeOf (.ref x)) (.ref C):=hc▸(Looks.ld e).andThen .now;have L5:=looks_mroIn (M:=M) X k.be
 have hk:builtinKind "BaseException.__getattribute__"=some .slot:=by decide +kernel
 have Ku:splitId "BaseException.__getattribute__"=some ("BaseException","__getattribute__"):=by decide +kernel
 have ha:=F.args_bexc_ga (.ref x) Mq;simp only[checkBuiltinCall,hk,Ku];unfold isInstance
 repeat (any_goals (first|assumption|lk|wp_step))
open Builtin Builtin.ObjectAttr Builtin.Getset_descriptor in
theorem abB {R:Result->Shared->Prop}{tp:Value}(X:K.In s.heap)(k:BN K C)(e:s.heap.get? x=some ox)(hc:ox.cls=.ref C)(h:R (.ok (.ret (.ref C))) s):
 codeAny (model prog w) A (.call (.builtin "getset_descriptor.__get__") ⟨[.builtin "object.__class__",.ref x,tp],[]⟩) R s:=by
 obtain⟨hh,g,dr,t,os⟩:=s;have L0:Looks (model prog w) hh (typeOf (.ref x)) (.ref C):=hc▸(Looks.ld e).andThen .now;have L1:=looks_mroIn (M:=model prog w) X k.ob;refine Cp KF.slot_gs.plain KF.entry_gs (KF.slot_gs.check _ _ _ _ _ _ _ _ KF.type_class (KF.args_gs _ _ _) ?_);unfold Builtin.«getset_descriptor.__get__» descrGet;rw[dga_obj];refine IW (Fc ?_);unfold descrGetter descrCheckInstance descrNameAndClass isInstance;simp only[KF.owner_class]
 repeat lk
 refine⟨Code.quiet_builtin _ (by decide +kernel),pB KF.entry_class ?_⟩;unfold Builtin.«object.__class__» shownTypeOf
 repeat lk
 exact h
theorem abF {tk:Tok}{Q:PySem.Fin->Shared->Prop}(X:K.In s.heap)(k:BN K C)(e:s.heap.get? x=some ox)(hc:ox.cls=.ref C)(hq:Q (.done (.ret (.ref C))) s):
 wpAny (model prog w) A (Builtin.«object.__getattribute__» ⟨[.ref x,.str "__class__" tk],[]⟩) Q E s:=by
 obtain⟨hh,g,d,t,os⟩:=s;have L0:Looks (model prog w) hh (typeOf (.ref x)) (.ref C):=hc▸(Looks.ld e).andThen .now;have L3:=yk (M:=model prog w) X k.ca;have f5:=F.typeOf_object_class;have f6:=F.slot_gs_get.lookup;have f7:=F.slot_gs_set.lookup
 repeat (any_goals (first|assumption|(with_reducible refine Looks.at (by assumption) ?_)|(with_reducible refine Looks.at L0 ?_)|wp_step))
 refine abB X k e hc ?_
 repeat (any_goals (first|assumption|wp_step))
theorem abL {tk:Tok}{fill expr:Bool}{Q:AU}{s:pL}(X:K.In s.heap)(k:BN K C)(e:s.heap.get? x=some ox)(hc:ox.cls=.ref C)(hq:Q (.ref C) s):
 wpAny (model prog w) A (getAttrBy (.ref x) (.str "__class__" tk) fill expr) Q E s:=by
 obtain⟨hh,g,d,t,os⟩:=s;have L0:Looks (model prog w) hh (typeOf (.ref x)) (.ref C):=hc▸(Looks.ld e).andThen .now;have L1:=yk (M:=model prog w) X k.ga;have L2:=yk (M:=model prog w) X k.gx;have f3:=F.attr_ValueError.ga.bind (.ref x)
 have hx0:(expr&&onTheHeap (Value.builtin "BaseException.__getattribute__"))=false:=by cases expr <;> rfl
 have Mr:(Value.builtin "BaseException.__getattribute__"==Value.builtin "object.__getattribute__")=false:=by decide +kernel
 have hx1:(onTheHeap (Value.ref C)&&Value.builtin "BaseException.__getattribute__"==Value.builtin "object.__getattribute__")=false:=by rw[Mr];rfl
 repeat (any_goals (first|assumption|(with_reducible refine Looks.at (by assumption) ?_)|(with_reducible refine Looks.at L0 ?_)|wp_step))
 refine Cp F.attr_ValueError.ga.plain F.entry_bexc_ga (abA X k e hc (abF X k e hc ?_))
 repeat (any_goals (first|assumption|wp_step))
theorem TGs {Q:Option Value->Shared->Prop}(X:K.In s.heap)(k:BN K C)(e:s.heap.get? x=some ox)(hc:ox.cls=.ref C)(hq:Q (some (.ref C)) {s with toks:=s.toks+1}):
 wpAny (model prog w) A (getAttr? (.ref x) "__class__") Q E s:=by
 unfold getAttr? getAttrBy?;refine IW (wpAny_mkText (IW (mX (abL (s:={s with toks:=s.toks+1}) X k e hc ?_))));exact Fc hq
theorem afZ (k:BN K C):KitX K (.ref x) (.ref C) (λh=>∃o,h.get? x=some o/\o.cls=.ref C) where
 ty:=λ_ _ _ ⟨o,e,hc⟩=>hc▸(Looks.ld e).andThen .now
 it:=λ_ _ X _=>by
  have LZ:=k.cls;unfold clsIn at LZ
  split at LZ
  ·rename_i c' d' cd' LO ho
   intro A' Q' E' s' kk q;unfold isType loadHead;exact IW (wpAny_loadPart (kk _ _ (X _ _ ho)) (Fc q))
  ·cases LZ
 ne:=λh tp dd its n sl X htp=>by
  have LZ:=k.cls;refine Bool.eq_false_iff.mpr λq=>?_;have e:C=tp:=Value.ref.inj (Fz.mp q);subst e;unfold clsIn at LZ
  split at LZ
  ·rename_i c' d' cd' LO ho
   have z:=(X _ _ ho).symm.trans htp
   cases z
  ·cases LZ
 ca:=λX ⟨o,e,hc⟩ q=>TGs X k e hc q
end
section
variable {X:Cx}{pins:List (Addr×Obj)}{σ:St}{H:Hp}{s:pL}
inductive zy (K:Frag)(H:Hp):V->Value->Prop where
 |of {x:V}{t:Value}(h:Cv K H x t):zy K H x t
 |exc {a C:Addr}(e:H a=some (Gw a (.ref C)))(k:BN K C):zy K H (.ref a) (.ref C)
theorem ab0 {A:Around}{E:AU}{Q:AU}{x:V}{u t c:Value}{b:Bool}(I:Inv X pins σ H s)(rx:aL x u)(ty:zy X.K H x t)(e:kitOne X.K t c=some b)(h:∀tk,Q (.bool b) {s with toks:=tk}):
 wpAny (model X.prog X.w) A (call (.builtin "isinstance") [u,c]) Q E s:=by
 cases ty with
 |of z=>exact abd I rx z e h
 |exc ea k =>
  rename_i a C
  cases(show u=Value.ref a from rx)
  obtain⟨o,vs,h1,h2,_⟩:=uR I.hok ea;exact kia_one (afZ k) I.kIn ⟨o,h1,h2⟩ e (λz=>nomatch z) h
noncomputable def acf:V->Value->Prop
 | .ty n,c=>c=.type n
 | .ref a,c=>c=.ref a
 |_,_=>False
theorem bX:eW X (.builtin "isinstance") (λxs H Q=>∃x c t cv b,xs=[x,c]/\acf c cv/\zy X.K H x t/\kitOne X.K t cv=some b/\Q (.bl b) H):=by
 intro pins s σ H xs us Q I r h;obtain⟨x,c,t,cv,b,rfl,hc,ty,e,q⟩:=h
 cases r with
 |cons r1 r2 =>
  cases r2 with
  |cons r2 r3 =>
   cases r3
   rename_i u uc
   have huc:uc=cv:=by
    cases c with
    |ty n=>cases(show uc=Value.type n from r2);exact hc.symm
    |ref a=>cases(show uc=Value.ref a from r2);exact hc.symm
    |_=>exact hc.elim
   subst huc;exact ab0 I r1 ty e λtk=>⟨.bl b,H,I.tok tk,rfl,q⟩
end
variable {N:F3}{sp:Sp}
section
variable {P:xq}{w:World}{K:PySem.W.Frag}{mg:Cw}{base:Heap}
theorem FY.okN {k:Nat}(F:FY K x qual st f fd)(S:Eb N ps (au st))(len:∀vs H Q E,sp vs H Q E->vs.length=ps.length)
 (JI:∀(Ji:Value)(A:Around)(outer:List Env)(s:pL)(H:Hp)(vs:List V)(Q:VK)(E:XK),A1 k (A.deeper (envOfC qual (au st) s.heap.objs.size f Ji))->sp vs H Q E →
  ∃t,qc (gX (cI P w) P w K mg base N qual (au st) f Ji A outer s H E).nox (cK st) t/\t {nx:=λ_ H'=>Q .non H',rt:=Q} (hV N vs) H):xk P w K mg base (cI P w) (k+1) f fd ps sp:=by
 obtain⟨oc,od,kV,doc,pm,an,Ji,ct,Jw,rfl,lk,JU⟩:=F.ex;refine y7 lk JU S len λA outer s H vs Q E hr KZ=>?_;obtain⟨t,h,q⟩:=JI Ji A outer s H vs Q E hr KZ;exact⟨t,h.nox,q⟩
theorem FY.okE {k:Nat}(F:FY K x qual st f fd)(S:Eb N ps (au st))(len:∀vs H Q E,sp vs H Q E->vs.length=ps.length)
 (JI:∀(Ji:Value)(A:Around)(outer:List Env)(s:pL)(H:Hp)(vs:List V)(Q:VK)(E:XK),A1 k (A.deeper (envOfC qual (au st) s.heap.objs.size f Ji))->sp vs H Q E →
  ∃t,qc (gX (cI P w) P w K mg base N qual (au st) f Ji A outer s H E) (cK st) t/\t {nx:=λ_ H'=>Q .non H',rt:=Q} (hV N vs) H):xk P w K mg base (cI P w) (k+1) f fd ps sp:=by
 obtain⟨oc,od,kV,doc,pm,an,Ji,ct,Jw,rfl,lk,JU⟩:=F.ex;exact y7 lk JU S len λA outer s H vs Q E hr KZ=>JI Ji A outer s H vs Q E hr KZ
end
section
variable {X:Cx}{pins:List (Addr×Obj)}{σ:St}{H:Hp}{s:pL}
theorem Ah {x:V}{u t:Value}(I:Inv X pins σ H s)(rx:aL x u)(ty:zy X.K H x t):Looks (model X.prog X.w) s.heap (typeOf u) t:=by
 cases ty with
 |of ty =>
  cases ty with
  |non=>cases(show u=Value.none from rx);exact kitx_none.ty _ _ I.kIn True.intro
  |bl y=>cases(show u=Value.bool y from rx);exact kitx_bool.ty _ _ I.kIn True.intro
  |int i=>obtain⟨t,q⟩:=(show ∃t,u=Value.int i t from rx);cases q;exact kitx_int.ty _ _ I.kIn True.intro
  |str y=>obtain⟨t,q⟩:=(show ∃t,u=Value.str y t from rx);cases q;exact kitx_str.ty _ _ I.kIn True.intro
  |flt y=>obtain⟨t,q⟩:=(show ∃t,u=Value.float y t from rx);cases q;exact kitx_float.ty _ _ I.kIn True.intro
  |@lst a xs ea =>
   cases(show u=Value.ref a from rx)
   obtain⟨_,_,n,_,h1⟩:=(show bJ X.prog X.w H s.heap a (.lst xs) from I.hok a _ ea);exact kitx_list.ty _ _ I.kIn ⟨_,h1,rfl⟩
  |@frz a ob xs ea =>
   cases(show u=Value.ref a from rx)
   obtain⟨_,_,_,n,_,h1⟩:=(show bJ X.prog X.w H s.heap a (.frz ob (.lst xs)) from I.hok a _ ea);exact kitx_list.ty _ _ I.kIn ⟨_,h1,rfl⟩
  |@tup a xs ea =>
   cases(show u=Value.ref a from rx)
   obtain⟨_,_,_,p⟩:=(show bJ X.prog X.w H s.heap a (.tup xs) from I.hok a _ ea);obtain⟨o,h1,h2,_⟩:=p;exact kitx_tuple.ty _ _ I.kIn ⟨o,h1,h2⟩
  |@dK a Jf ea =>
   cases(show u=Value.ref a from rx)
   obtain⟨_,_,vs,_,p⟩:=(show bJ X.prog X.w H s.heap a (.dK Jf) from I.hok a _ ea);obtain⟨o,es,ep,h1,h2,_⟩:=p;exact kitx_dict.ty _ _ I.kIn ⟨o,h1,h2.1⟩
  |@dT a Jf ea =>
   cases(show u=Value.ref a from rx)
   obtain⟨_,_,xs,_,o,es,ep,h1,h2,_⟩:=(show bJ X.prog X.w H s.heap a (.dT Jf) from I.hok a _ ea);exact kitx_dict.ty _ _ I.kIn ⟨o,h1,h2.1⟩
  |@ins a C dx fs ea cl ha hn M9 hm =>
   cases(show u=Value.ref a from rx)
   obtain⟨mA,O,_⟩:=fT I.hok ea;obtain⟨od,J,_⟩:=O.look;exact J.type
 |exc ea k =>
  rename_i a C
  cases(show u=Value.ref a from rx)
  obtain⟨o,vs,h1,h2,_⟩:=uR I.hok ea;exact h2▸(Looks.ld h1).andThen .now
end
variable {K:Frag}
section
variable {X:Cx}{CX:Jd}{k:Nat}{f C:Addr}{fd:GS}{ps:F3}{sp:Sp}{E:XK}
noncomputable def pf (K:Frag)(C:Addr)(sp:Sp)(E:XK)(neg:Bool):R2:=λx y H Q=>∃p dx fs t,x=.ref p/\H p=some (.ins C dx fs)/\zy K H y t/\notFirst K C t=true/\sp [x,y] H (λv H'=>∃b,v=.bl b/\Q (.bl (b != neg)) H') E
theorem ml (hs:findIn X.K (.ref C) "__eq__"=some (some (.ref f)))(hf:isFn X.K (.ref f)=true)(F:xk X.prog X.w X.K X.mg X.base CX k f fd ps sp)(hr:A1 k X.A)(hb:b8 X.K fd ps [])(hx:eK CX X E):
 eT X (compareOp .Eq) (pf X.K C sp E false):=by
 intro pins s σ H x y v u Q I rx ry h;obtain⟨p,dx,fs,t,rfl,ep,ty,hn,q⟩:=h
 cases(show v=Value.ref p from rx)
 obtain⟨mA,O,_⟩:=fT I.hok ep;obtain⟨od,J,_⟩:=O.look;obtain⟨m,Fm⟩:=I.fr;refine cmp_ofEq (cmp_K hr.agM Fm I.mod.kin J (Ah I ry ty) hn hs hf ?_);refine cx (oX (dvs:=[]) F hr hb .nil hx I (us:=[.ref p,u]) (vs:=[.ref p,y]) (.cons rx (.cons ry .nil)) q) λr s1 z'=>?_;obtain⟨z,H1,I1,rz,b,eb,q1⟩:=z';subst eb
 cases(show r=Value.bool b from rz)
 exact⟨.bl b,H1,I1,rfl,by simpa using q1⟩
theorem acj {Q:VK}{us:HF}{vs:List V}(F:xk X.prog X.w X.K X.mg X.base CX k f fd ps sp)(hr:A1 (k+1) X.A)(hb:b8 X.K fd ps [])(hx:eK CX X E)
 (I:Inv X pins σ H s)(r:aN vs us)(h:sp vs H Q E):wpAny (model X.prog X.w) X.A.in1 (call (.ref f) us) (EP X pins σ Q) X.xe s:=by
 have hl:us.length=ps.length:=by rw[<-r.length];exact F.len _ _ _ _ h
 have Ju:=hb s us I.kIn (by rw[yp];exact hl);rw[yp] at Ju;refine yn (zL (F.run X.A.in1 X.stack s H ⟨us,[]⟩ us vs Q E hr.in1 I.aiz.in1 Ju r h) λr s' hq=>?_)
 cases r with
 |error e=>exact hx pins σ H s e s' I hq
 |ok fl =>
  cases fl with
  |ret u=>exact I.after hq
  |next=>exact False.elim hq
  |brk=>exact False.elim hq
  |cont=>exact False.elim hq
theorem AC {M:Model}{A:Around}{E':AU}{x:Addr}{b:Value}{ox:Obj}{od:Option Obj}{Q:Unit->Shared->Prop}(X:K.In s.heap)(J:InstAt s.heap x ox C od)(hm:mroIn K C (.type "object")=some true)(hq:Q () s):
 wpAny M A (checkBuiltinCall "object.__ne__" ⟨[.ref x,b],[]⟩) Q E' s:=by
 obtain⟨hh,g,d,t,os⟩:=s;have L0:=J.type (M:=M);have L5:=looks_mroIn (M:=M) X hm;have hk:=F.cmpKind_ne;have Ku:=F.cmpSplit_ne;have ha:=F.cmpArgs_ne (.ref x) b;simp only[checkBuiltinCall,hk,Ku];unfold isInstance
 repeat (any_goals (first|assumption|lk|wp_step))
theorem acu (hs:findIn X.K (.ref C) "__eq__"=some (some (.ref f)))(hf:isFn X.K (.ref f)=true)(OE:findIn X.K (.ref C) "__ne__"=some (some (.builtin "object.__ne__")))(hm:mroIn X.K C (.type "object")=some true)
 (F:xk X.prog X.w X.K X.mg X.base CX k f fd ps sp)(hr:A1 (k+1) X.A)(hb:b8 X.K fd ps [])(hx:eK CX X E):
 eT X (compareOp .NotEq) (pf X.K C sp E true):=by
 intro pins s σ H x y v u Q I rx ry h;obtain⟨p,dx,fs,t,rfl,ep,ty,hn,q⟩:=h
 cases(show v=Value.ref p from rx)
 obtain⟨mA,O,_⟩:=fT I.hok ep;obtain⟨od,J,_⟩:=O.look;have hu:X.A.units+64<cLine:=hr.units
 have Px:wpAny (model X.prog X.w) X.A.in1 (call (.ref f) [.ref p,u]) (λr s'=>∃b,r=.bool b/\EP X pins σ Q (.bool (!b)) s') X.xe s:=by
  refine Ax (acj F hr hb hx I (us:=[.ref p,u]) (vs:=[.ref p,y]) (.cons rx (.cons ry .nil)) q) (λr s1 z'=>?_) λ_ _ e=>e;obtain⟨z,H1,I1,rz,b,eb,q1⟩:=z';subst eb
  cases(show r=Value.bool b from rz)
  exact⟨b,rfl,.bl (!b),H1,I1,rfl,by simpa using q1⟩
 have entry:wpAny (model X.prog X.w) X.A.in1 (Builtin.«object.__ne__» ⟨[.ref p,u],[]⟩) (λfin s'=>∃b,fin=.done (.ret (.bool (!b)))/\EP X pins σ Q (.bool (!b)) s') X.xe s:=by
  unfold Builtin.«object.__ne__»;refine IW (m:=slotArgs "__ne__" 1 _) (Fc ?_);refine IW (wpAny_cRoomFor (by show X.A.units+1<cLine;omega) ?_);refine IW (ifBound_K I.kIn J hs hf (Ax Px (λr s1 z=>?_) λ_ _ e=>e));obtain⟨b,rfl,q1⟩:=z;exact IW (jR (Fc ⟨b,rfl,q1⟩))
 have S:=PySem.F.cmp_object.ne
 have inner:wpAny (model X.prog X.w) X.A (callSpecialIfBound? (.ref p) "__ne__" [u]) (λr s'=>∃b,r=some (.bool (!b))/\EP X pins σ Q (.bool (!b)) s') X.xe s:=by
  simp only[callSpecialIfBound?,bindSpecialIfBound?];refine BV (IW (IW (IW (J.type.here ((yk I.kIn OE).here ?_)))));simp only[S.bind];refine IW (zC (wpAny_ite ?_))
  have fin:wpAny (model X.prog X.w) X.A (call (.builtin "object.__ne__") ([.ref p]++[u])>>=λv=>pure (some v)) (λr s'=>∃b,r=some (.bool (!b))/\EP X pins σ Q (.bool (!b)) s') X.xe s:=by
   refine IW (yn (Cp S.plain PySem.F.cmpEntry_ne (AC I.kIn J hm (Ax entry (λfin s1 z=>?_) λ_ _ e=>e))));obtain⟨b,rfl,q1⟩:=z;exact Fc ⟨b,rfl,q1⟩
  split
  ·exact IW (Fc (Fc fin))
  ·exact xi (IW (Fc (Fc fin)))
 have one:wpAny (model X.prog X.w) X.A (tryCompare (.ref p) "__ne__" u) (λr s'=>∃v,r=some v/\EP X pins σ Q v s') X.xe s:=by
  unfold tryCompare;refine IW (Ax inner (λr s1 z=>?_) λ_ _ e=>e);obtain⟨b,rfl,q1⟩:=z;exact Fc ⟨_,rfl,q1⟩
 refine cmp_ofNotEq ?_;unfold richCompare;simp only[oneThing_ref];refine BV (IW (wpAny_cRoomFor (by omega) ?_));rw[cmpInfo_NotEq];dsimp only;refine IW (J.type.here (IW ((Ah I ry ty).here ?_)))
 split
 ·rename_i qq
  have e:subIn X.K t (.ref C)=some false:=by
   rcases Bool.or_eq_true_iff.mp hn with e|e
   ·rw[Fz.mp e] at qq;simp at qq
   ·exact Fz.mp e
  refine IW ((looks_subIn I.kIn e).here ?_);simp only[BU,wR];refine IW (Ax one (λr s' z=>?_) λ_ _ e=>e);obtain⟨v,rfl,hq⟩:=z;exact Fc hq
 ·refine IW (Fc ?_);simp only[BU,wR];refine IW (Ax one (λr s' z=>?_) λ_ _ e=>e);obtain⟨v,rfl,hq⟩:=z;exact Fc hq
end
section
variable {X:Cx}
noncomputable def acw (K:PySem.W.Frag):R2:=λx y H Q=>∃p q xs,x=.ref p/\y=.ref q/\a8 K H p xs/\a8 K H q []/\Q (.bl (decide (xs=[]))) H
theorem rN {k:Nat}(hr:A1 k X.A):eT X (compareOp .Eq) (acw X.K):=by
 intro pins s σ H x y v u Q I rx ry h;obtain⟨p,q,xs,rfl,rfl,h1,h2,w⟩:=h
 cases(show v=Value.ref p from rx)
 cases(show u=Value.ref q from ry)
 obtain⟨its,r1,p1,_⟩:=I.list h1;obtain⟨Jj,r2,p2,_⟩:=I.list h2
 cases r2
 by_cases e:xs=[]
 ·subst e
  cases r1
  refine SeqAt.eq_listAt (e:=λ_=>true) p1.isList p2.isList rfl hr.agM (λj a b=>absurd a (by simp)) ⟨.bl true,H,I,?_,by simpa using w⟩;rfl
 ·refine SeqAt.eq_list_lengthsAt p1.isList p2.isList ?_ hr.agM ⟨.bl false,H,I,rfl,by simpa[e] using w⟩;have hl:=r1.length;have hx:xs.length≠0:=λz=>e (zf z)
  have:its.toArray.size≠0:=by rw[Jc];omega
  simpa using this
end
noncomputable def zu (tabs:List (Addr×Addr))(H:Hp):Prop:=(∀b,H b=none\/(∃o xs,H b=some (.frz o (.lst xs)))\/(H b=some (.tbl #[])/\∃c,(c,b)∈tabs))/\∀q∈tabs,H q.2=some (.tbl #[])
structure tV (tabs:List (Addr×Addr))(mg:Cw)(base:Heap):Prop where
 hd:∀q∈tabs,CodeHd base q.1 q.2
 bm:∃bm ob,mg "__builtins__"=some (.ref bm)/\bm≠builtinsNs/\base.get? bm=some ob/\ob.cls=.type "module"/\ob.dict=some builtinsNs/\ob.data=.plain
theorem acz {mg mb:Cw}{CX:Jd}{k:Nat}{fa:Addr}{s₁:pL}{vs:HF}{ns:List Int}{tabs:List (Addr×Addr)}
 (KX:K.In s₁.heap)(OE:s₁.heap.Ns mainGlobals mg)(hb:s₁.heap.Ns builtinsNs mb)(hbb:∀x:Str,x ≠ "__name__"->mb x=bootBuiltins x)(U0:s₁.heap.NoLimit)(hg:s₁.gens = #[])
 (ha:s₁.heap.get? a=some {cls:=.type "list",data:=.seq vs.toArray})(hi:IntsAre vs ns)(hl:ns.length<=sizeLine)(hr:A1 k callerA)(hT:TabsAt tabs s₁.heap)(hKT:∀q∈tabs,K.lookup q.2=none)
 (hbm:∃bm ob,mg "__builtins__"=some (.ref bm)/\bm≠builtinsNs/\s₁.heap.get? bm=some ob/\ob.cls=.type "module"/\ob.dict=some builtinsNs/\ob.data=.plain)
 (F:∀base:Heap,K.In base->base.Ns mainGlobals mg->tV tabs mg base->xk P w K mg base CX k fa fd [x] sp)(Py:∀(s:pL)(u:Value),BindsTo s fd ⟨[u],[]⟩ [(x,u)])
 (KZ:∀H:Hp,zu tabs H->a8 K H a (ns.map V.int)->sp [.ref a] H (λv _=>v=.bl true) λ_ _ _=>False)
 (U1:∀H e s',CX [] H s₁ (λ_ _ _=>False) e s'->False):
 codeAny (model P w) callerA (.call (.ref fa) ⟨[.ref a],[]⟩) (λr s'=>r=.ok (.ret (.bool true))/\OldK s₁.heap s'.heap/\s'.os=s₁.os/\AllBare s'.gens) s₁:=by
 have rv:=oh hi;have U2:=hi.length;have uM:∀b,(∃c,(c,b)∈tabs)->s₁.heap.get? b=some (tabObj #[]):=λb ⟨c,hc⟩=>(hT _ hc).2
 have core:∀H:Hp,zu tabs H->a8 K H a (ns.map V.int)->gk P w H s₁.heap->(∀b,H b≠none->b=a\/∃c,(c,b)∈tabs)->(H a≠none->K.lookup a=none) →
  codeAny (model P w) callerA (.call (.ref fa) ⟨[.ref a],[]⟩) (λr s'=>r=.ok (.ret (.bool true))/\OldK s₁.heap s'.heap/\s'.os=s₁.os/\AllBare s'.gens) s₁:=by
  intro H hO hS hok hA hK;have base_of:∀{b:Addr}{o:Obj},s₁.heap.get? b=some o->H b=none->(mY s₁.heap H).get? b=some o:=λe n=>aav e n
  have Yh:∀{b:Addr}{o:Obj},s₁.heap.get? b=some o->o.cls≠.none->(∀its n,o.data≠.seq its n)->H b=none:=λ{b o} e d1 d2=>by
   cases q:H b with
   |none=>rfl
   |some u =>
    rcases hA b (by rw[q];simp) with e'|e'
    ·subst e';rw[ha] at e;cases e;exact absurd rfl (d2 _ _)
    ·rw[uM b e'] at e;cases e;exact absurd rfl d1
  have Pd:∀{b:Addr}{o:Obj}{es:Array DictEntry}{ep:Nat},s₁.heap.get? b=some o->o.data=.dict es ep->H b=none:=λ{b o es ep} e d=>by
   cases q:H b with
   |none=>rfl
   |some u =>
    rcases hA b (by rw[q];simp) with e'|e'
    ·subst e';rw[ha] at e;cases e;have d':Data.seq vs.toArray _=Data.dict es ep:=d
     cases d'
    ·rw[uM b e'] at e;cases e;have d':Data.fields #[]=Data.dict es ep:=d
     cases d'
  have TB:∀{b:Addr}{m:Cw},s₁.heap.Ns b m->(mY s₁.heap H).Ns b m:=λ{b m} ⟨o,es,ep,e,d,r⟩=>⟨o,es,ep,base_of e (Pd e d),d,r⟩
  have Yi:K.In (mY s₁.heap H):=λb o e=>base_of (KX b o e) (by
   cases q:H b with
   |none=>rfl
   |some u =>
    rcases hA b (by rw[q];simp) with e'|⟨c,e'⟩
    ·subst e';rw[hK (by rw[q];simp)] at e;cases e
    ·have z:=hKT _ e'
     rw[z] at e;cases e)
  have hM:Mod K mg (mY s₁.heap H):=⟨Yi,TB OE,⟨mb,TB hb,hbb⟩,let⟨mc,h1,h2⟩:=U0;⟨mc,TB h1,h2⟩⟩
  have hBT:tV tabs mg (mY s₁.heap H):=by
   refine⟨λq hq=>?_,?_⟩
   ·obtain⟨o,ws,file,tf,flags,tg,inF,text,tt,e1,r1,r2,r3⟩:=(hT q hq).1;exact⟨o,ws,file,tf,flags,tg,inF,text,tt,base_of e1 (Yh e1 (by rw[r1];intro z;cases z) (λits n z=>by rw[r2] at z;cases z)),r1,r2,r3⟩
   ·obtain⟨bm,ob,b1,b2,b3,b4,b5,b6⟩:=hbm;exact⟨bm,ob,b1,b2,base_of b3 (Yh b3 (by rw[b4];intro z;cases z) (λits n z=>by rw[b6] at z;cases z)),b4,b5,b6⟩
  have e0:EX P w K mg (mY s₁.heap H) callerA [] s₁ H:=⟨rfl,hM,λb o e=>afl e,Nat.le_of_eq (afs _ _),trivial,λb hb=>absurd (show b∈([]:List Addr) from hb) (by simp),hok,.of_eq hg⟩;refine zL ((F _ Yi (TB OE) hBT).run callerA [] s₁ H ⟨[.ref a],[]⟩ [.ref a] [.ref a] _ _ hr e0 (Py s₁ (.ref a)) (.cons rfl .nil) (KZ H hO hS)) λr s' h=>?_
  cases r with
  |error e=>exact(U1 H e s' h).elim
  |ok fl =>
   cases fl with
   |next=>exact False.elim h
   |brk=>exact False.elim h
   |cont=>exact False.elim h
   |ret u =>
    obtain⟨v,H',os,bare,un,Pz,r',q⟩:=h;have q':v=.bl true:=q;subst q';obtain rfl:u=Value.bool true:=r';refine⟨rfl,⟨λb o e=>?_,λb o e=>un.there b o e (by simp)⟩,os,bare⟩
    cases q:H b with
    |none=>exact .inl (un.keep b o e q (by intro z;exact absurd (show b∈([]:List Addr) from z) (by simp)) (by simp))
    |some u =>
     rcases hO.1 b with z|⟨ob,xs,z⟩|⟨z,c,hc⟩
     ·rw[q] at z;cases z
     ·have z2:=un.afR b ob _ z;obtain⟨e1,_⟩:=hok b _ z;obtain⟨e2,_⟩:=Pz b _ z2;rw[e] at e1;cases e1;exact .inl e2
     ·obtain⟨more,z2⟩:=un.af5 b _ z;have e2:s'.heap.get? b=some {cls:=.none,data:=.fields (#[]++more)}:=Pz b _ z2;have e1:=uM b ⟨c,hc⟩;rw[e] at e1;cases e1;exact .inr (.inl ⟨((hT _ hc).1.tab (hT _ hc).2).isCodeTable,rfl,#[],more,rfl,e2⟩)
 have aT:∀c,(c,a)∉tabs:=λc hc=>by
  have z:=uM a ⟨c,hc⟩;rw[ha] at z
  cases z
 have PB:∀b,Decidable (∃c,(c,b)∈tabs):=λb=>Classical.propDecidable _
 cases hk:K.lookup a with
 |some o =>
  have e:=KX a o hk;rw[ha] at e
  cases e
  refine core (λb=>@ite _ (∃c,(c,b)∈tabs) (PB b) (some (.tbl #[])) none) ⟨λb=>?_,λq hq=>?_⟩ (.inr ⟨_,vs.toArray,_,hk,rfl,rfl,rfl,by rw[Jc,U2];exact hl,by simpa using rv⟩) (λb u z=>?_) (λb z=>?_) λz=>?_
  ·by_cases hb:∃c,(c,b)∈tabs
   ·exact .inr (.inr ⟨qk hb,hb⟩)
   ·exact .inl (IX hb)
  ·exact qk ⟨q.1,hq⟩
  ·by_cases hb:∃c,(c,b)∈tabs
   ·have z':=(qk hb).symm.trans z
    cases z'
    exact uM b hb
   ·have z':=(IX hb).symm.trans z
    cases z'
  ·by_cases hb:∃c,(c,b)∈tabs
   ·exact .inr hb
   ·exact absurd (IX hb) z
  ·exact absurd (IX λ⟨c,hc⟩=>aT c hc) z
 |none =>
  refine core (λb=>if b=a then some (.frz {cls:=.type "list",data:=.seq vs.toArray} (.lst (ns.map V.int))) else @ite _ (∃c,(c,b)∈tabs) (PB b) (some (.tbl #[])) none) ⟨λb=>?_,λq hq=>?_⟩ (.inl (.inr ⟨{cls:=.type "list",data:=.seq vs.toArray},qk rfl⟩)) (λb u z=>?_) (λb z=>?_) λ_=>hk
  ·by_cases hb:b=a
   ·exact .inr (.inl ⟨_,_,qk hb⟩)
   ·by_cases ht:∃c,(c,b)∈tabs
    ·exact .inr (.inr ⟨(IX hb).trans (qk ht),ht⟩)
    ·exact .inl ((IX hb).trans (IX ht))
  ·have hb:q.2≠a:=λz=>aT q.1 (by rw[<-z];exact hq);exact(IX hb).trans (qk ⟨q.1,hq⟩)
  ·by_cases hb:b=a
   ·have z':=(qk hb).symm.trans z
    cases z'
    subst hb;exact⟨ha,by rw[EZ];exact hl,vs,_,rv,ha⟩
   ·have z':=(IX hb).symm.trans z
    by_cases ht:∃c,(c,b)∈tabs
    ·have z2:=(qk ht).symm.trans z'
     cases z2
     exact uM b ht
    ·have z2:=(IX ht).symm.trans z'
     cases z2
  ·by_cases hb:b=a
   ·exact .inl hb
   ·by_cases ht:∃c,(c,b)∈tabs
    ·exact .inr ht
    ·exact absurd ((IX hb).trans (IX ht)) z
structure Et (K:Frag)(x qual:Str)(st:Stmt)(f:Addr)(fd:GS)(T:Addr):Prop where
 ex:∃(oc:Value)(od:DT)(kV doc pm:Value)(an:DT)(Ji ct:Value)(Jw:xA),
  fd=fnOf x qual (c7 st) (cK st) (au st) (.ref T) kV doc pm an Ji ct/\K.lookup f=some ⟨oc,od,.func fd,Jw⟩/\codeIn K Ji qual=true
 kp:keepIn K (.ref f)=true
section
variable {P:xq}{w:World}{K:Frag}{mg:Cw}{base:Heap}
theorem Et.okE {T:Addr}{k:Nat}(F:Et K x qual st f fd T)(S:Eb N ps (au st))(len:∀vs H Q E,sp vs H Q E->vs.length=ps.length)
 (JI:∀(Ji:Value)(A:Around)(outer:List Env)(s:pL)(H:Hp)(vs:List V)(Q:VK)(E:XK),A1 k (A.deeper (envOfC qual (au st) s.heap.objs.size f Ji))->sp vs H Q E →
  ∃t,qc (gX (cI P w) P w K mg base N qual (au st) f Ji A outer s H E) (cK st) t/\t {nx:=λ_ H'=>Q .non H',rt:=Q} (hV N vs) H):xk P w K mg base (cI P w) (k+1) f fd ps sp:=by
 obtain⟨oc,od,kV,doc,pm,an,Ji,ct,Jw,rfl,lk,JU⟩:=F.ex;exact y7 lk JU S len λA outer s H vs Q E hr KZ=>JI Ji A outer s H vs Q E hr KZ
theorem acB {T:Addr}{oc:Value}{od an:DT}{Jw:xA}{kV doc pm Ji ct:Value}(l:K.lookup f=some ⟨oc,od,.func (fnOf x qual (c7 st) (cK st) (au st) (.ref T) kV doc pm an Ji ct),Jw⟩)
 (c:codeIn K Ji qual=true)(k:keepIn K (.ref f)=true):Et K x qual st f (fnOf x qual (c7 st) (cK st) (au st) (.ref T) kV doc pm an Ji ct) T:=⟨⟨oc,od,kV,doc,pm,an,Ji,ct,Jw,rfl,l,c⟩,k⟩
end
noncomputable def ff:Expr->Bool
 | .Starred _ _=>true
 |_=>false
theorem aX {e:Expr}{rest:xB}(h:ff e=false):starEach (e::rest) env=(false,eval e env):: starEach rest env:=by
 cases e <;> first|rfl|cases h
section
variable {X:Cx}{e:Expr}{es:xB}{te:TE}{t:TA}
theorem ao (ha:PE X e te)(hr:PA X es t)(h:ff e=false:=by rfl):PA X (e::es) (bx te t):=c6 ha hr (aX h)
end
inductive D where
 |non|bl (b:Bool)|int (i:Int)|str (x:Str)|lst (ds:List D)|tup (ds:List D)
mutual
noncomputable def aQ (K:Frag)(H:Hp):D->V->Prop
 | .non,v=>v=.non
 | .bl b,v=>v=.bl b
 | .int i,v=>v=.int i
 | .str x,v=>v=.str x
 | .lst ds,v=>∃a xs,v=.ref a/\a8 K H a xs/\bz K H ds xs
 | .tup ds,v=>∃a xs,v=.ref a/\bq K H a xs/\bz K H ds xs
noncomputable def bz (K:Frag)(H:Hp):List D->List V->Prop
 |[],xs=>xs=[]
 |d::ds,xs=>∃y ys,xs=y::ys/\aQ K H d y/\bz K H ds ys
end
mutual
noncomputable def d6:D->D->Bool
 | .non,.non=>true
 | .bl a,.bl b=>a==b
 | .bl a,.int b=>(if a then 1 else 0)==b
 | .int a,.bl b=>a==(if b then 1 else 0)
 | .int a,.int b=>a==b
 | .str a,.str b=>a==b
 | .lst a,.lst b=>eB a b
 | .tup a,.tup b=>eB a b
 |_,_=>false
noncomputable def eB:List D->List D->Bool
 |[],[]=>true
 |a::as,b::bs=>d6 a b&&eB as bs
 |_,_=>false
end
mutual
noncomputable def jz:D->Nat
 | .lst ds=>fK ds+1
 | .tup ds=>fK ds+1
 |_=>0
noncomputable def fK:List D->Nat
 |[]=>0
 |d::ds=>max (jz d) (fK ds)
end
theorem vf:∀{ds:List D}{d:D},d∈ds->jz d<=fK ds
 |e::ds,d,h=>by
  unfold fK
  rcases HK.mp h with rfl|h
  ·exact Nat.le_max_left _ _
  ·exact Ig (vf h) (Nat.le_max_right _ _)
theorem ip:∀(as bs:List D),eB as bs=((List.range (min as.length bs.length)).all (λj=>d6 (as.getD j .non) (bs.getD j .non))&&as.length==bs.length)
 |[],[]=>rfl
 |[],b::bs=>by simp;rfl
 |a::as,[]=>by simp;rfl
 |a::as,b::bs=>by
  show(d6 a b&&eB as bs)=_;rw[ip as bs]
  have e:min (a::as).length (b::bs).length=min as.length bs.length+1:=by simp[Nat.succ_min_succ]
  rw[e,List.range_succ_eq_map,rS,EU]
  have h1:((a::as).length==(b::bs).length)=(as.length==bs.length):=by simp
  rw[h1,Bool.and_assoc];rfl
theorem bz.len :∀{ds:List D}{xs:List V},bz K H ds xs->ds.length=xs.length
 |[],xs,h=>by
  have h:xs=[]:=by unfold bz at h;exact h
  rw[h];rfl
 |d::ds,xs,h=>by
  unfold bz at h;obtain⟨y,ys,rfl,_,h⟩:=h;simp[bz.len h]
theorem bz.get :∀{ds:List D}{xs:List V}{j:Nat}(hj:j<xs.length),bz K H ds xs->aQ K H (ds.getD j .non) xs[j]/\ds.getD j .non∈ds
 |[],xs,j,hj,h=>by
  have h:xs=[]:=by unfold bz at h;exact h
  subst h;exact absurd hj (by simp)
 |d::ds,xs,j,hj,h=>by
  unfold bz at h;obtain⟨y,ys,rfl,hd,h⟩:=h
  cases j with
  |zero=>exact⟨hd,qT⟩
  |succ j =>
   obtain⟨h1,h2⟩:=bz.get (j:=j) (by simpa using hj) h;exact⟨h1,rB _ h2⟩
mutual
theorem fO:∀d:D,d6 d d=true
 | .non=>rfl
 | .bl b=>CL b
 | .int i=>CL i
 | .str x=>CL x
 | .lst ds=>jw ds
 | .tup ds=>jw ds
theorem jw:∀ds:List D,eB ds ds=true
 |[]=>rfl
 |d::ds=>by show(d6 d d&&eB ds ds)=true;rw[fO d,jw ds];rfl
end
section
variable {X:Cx}{pins:List (Addr×Obj)}{σ:St}{H:Hp}{s:pL}
theorem gI (I:Inv X pins σ H s){xs ys:List V}(h1:a8 X.K H a xs)(h2:bq X.K H a ys):False:=by
 obtain⟨its,_,p1,_⟩:=I.list h1;obtain⟨Jj,_,p2,_⟩:=I.tuple h2;exact SeqAt.ne_of_list_tuple p1.isList (show s.heap.IsTuple a Jj.toArray from p2) rfl
mutual
theorem lO (I:Inv X pins σ H s):∀(d e:D)(v:V),aQ X.K H d v->aQ X.K H e v->d6 d e=true
 | .non,e,v,h1,h2=>by
   unfold aQ at h1;subst h1
   cases e <;> unfold aQ at h2 <;> first|(obtain⟨_,_,z,_⟩:=h2;cases z;done)|rfl|(cases h2;done)
 | .bl b,e,v,h1,h2=>by
   unfold aQ at h1;subst h1
   cases e <;> unfold aQ at h2 <;> first|(obtain⟨_,_,z,_⟩:=h2;cases z;done)|(cases h2;exact fO _)|(cases h2;done)
 | .int b,e,v,h1,h2=>by
   unfold aQ at h1;subst h1
   cases e <;> unfold aQ at h2 <;> first|(obtain⟨_,_,z,_⟩:=h2;cases z;done)|(cases h2;exact fO _)|(cases h2;done)
 | .str b,e,v,h1,h2=>by
   unfold aQ at h1;subst h1
   cases e <;> unfold aQ at h2 <;> first|(obtain⟨_,_,z,_⟩:=h2;cases z;done)|(cases h2;exact fO _)|(cases h2;done)
 | .lst ds,e,v,h1,h2=>by
   unfold aQ at h1;obtain⟨a,xs,rfl,q,r⟩:=h1
   cases e with
   |lst es =>
    unfold aQ at h2;obtain⟨b,ys,z,q2,r2⟩:=h2
    cases z
    have e:=I.agw q q2;subst e;exact jj I ds es xs r r2
   |tup es =>
    unfold aQ at h2;obtain⟨b,ys,z,q2,r2⟩:=h2
    cases z
    exact(gI I q q2).elim
   |_=>unfold aQ at h2;cases h2
 | .tup ds,e,v,h1,h2=>by
   unfold aQ at h1;obtain⟨a,xs,rfl,q,r⟩:=h1
   cases e with
   |tup es =>
    unfold aQ at h2;obtain⟨b,ys,z,q2,r2⟩:=h2
    cases z
    have e:=I.afX q q2;subst e;exact jj I ds es xs r r2
   |lst es =>
    unfold aQ at h2;obtain⟨b,ys,z,q2,r2⟩:=h2
    cases z
    exact(gI I q2 q).elim
   |_=>unfold aQ at h2;cases h2
theorem jj (I:Inv X pins σ H s):∀(ds es:List D)(xs:List V),bz X.K H ds xs->bz X.K H es xs->eB ds es=true
 |[],es,xs,h1,h2=>by
  unfold bz at h1;subst h1
  cases es with
  |nil=>rfl
  |cons e es=>unfold bz at h2;obtain⟨_,_,z,_⟩:=h2;cases z
 |d::ds,es,xs,h1,h2=>by
  unfold bz at h1;obtain⟨y,ys,rfl,hd,h1⟩:=h1
  cases es with
  |nil=>unfold bz at h2;cases h2
  |cons e es =>
   unfold bz at h2;obtain⟨_,_,z,he,h2⟩:=h2
   cases z
   show(d6 d e&&eB ds es)=true;rw[lO I d e y hd he,jj I ds es ys h1 h2];rfl
end
theorem ll (I:Inv X pins σ H s)(n:Nat)(ih:n≠0->∀(A:Around)(d e:D)(x y:V)(u v:Value),jz d<=n-1->A.units+(n-1)<cLine->aQ X.K H d x->aQ X.K H e y->aL x u->aL y v->SeqAt.EqAt A s u v (d6 d e))
 (hn0:n≠0)(A:Around)(hu:A.units+n<cLine){ds es:List D}{xs ys:List V}{its Jj:HF}(r1:bz X.K H ds xs)(r2:bz X.K H es ys)(rv:aN xs its)(J7:aN ys Jj)(hn:fK ds<=n-1):
 ∀j (h1:j<its.toArray.size)(h2:j<Jj.toArray.size),SeqAt.EqAt A.in1 s its.toArray[j] Jj.toArray[j] (d6 (ds.getD j .non) (es.getD j .non)):=by
 intro j h1 h2
 have e1:j<xs.length:=by rw[rv.length];simpa using h1
 have e2:j<ys.length:=by rw[J7.length];simpa using h2
 obtain⟨d1,m1⟩:=r1.get e1;obtain⟨d2,m2⟩:=r2.get e2;obtain⟨u,hu1,ru⟩:=rv.get (Ii e1);obtain⟨v,hv1,rv'⟩:=J7.get (Ii e2)
 have z1:its.toArray[j]=u:=by
  have:=zp.mp hu1;obtain⟨_,q⟩:=this;simpa using q
 have z2:Jj.toArray[j]=v:=by
  have:=zp.mp hv1;obtain⟨_,q⟩:=this;simpa using q
 rw[z1,z2];exact ih hn0 A.in1 _ _ _ _ _ _ (Ig (vf m1) hn) (by show A.units+1+(n-1)<cLine;omega) d1 d2 ru rv'
theorem om (I:Inv X pins σ H s)(n:Nat)(ih:n≠0->∀(A:Around)(d e:D)(x y:V)(u v:Value),jz d<=n-1->A.units+(n-1)<cLine->aQ X.K H d x->aQ X.K H e y->aL x u->aL y v->SeqAt.EqAt A s u v (d6 d e))
 (A:Around)(d e:D)(x y:V)(u v:Value)(hn:jz d<=n)(hu:A.units+n<cLine)(h1:aQ X.K H d x)(h2:aQ X.K H e y)(rx:aL x u)(ry:aL y v):
 SeqAt.RcAt A s u v (d6 d e)/\SeqAt.EqAt A s u v (d6 d e)/\SeqAt.RcNeAt A s u v (!d6 d e):=by
 have Jm:A.units<cLine:=by omega
 cases d with
 |non =>
  unfold aQ at h1;subst h1
  cases rx
  cases e with
  |non =>
   unfold aQ at h2;subst h2
   cases ry
   exact⟨.none_none,.same _,.none_none⟩
  |bl q =>
   unfold aQ at h2;subst h2
   cases ry
   exact⟨.none_bool q,.none_bool q,.none_bool q⟩
  |int q =>
   unfold aQ at h2;subst h2;obtain⟨tq,rfl⟩:=ry;exact⟨.none_int q tq,.none_int q tq,.none_int q tq⟩
  |str q =>
   unfold aQ at h2;subst h2;obtain⟨tq,rfl⟩:=ry;exact⟨.none_str q tq,.none_str q tq,.none_str q tq⟩
  |lst es =>
   unfold aQ at h2;obtain⟨b,ys,rfl,q2,r2⟩:=h2
   cases ry
   obtain⟨Jj,J7,p2,_⟩:=I.list q2;exact⟨.none_list  p2.isList Jm,.none_list  p2.isList Jm,.none_list  p2.isList Jm⟩
  |tup es =>
   unfold aQ at h2;obtain⟨b,ys,rfl,q2,r2⟩:=h2
   cases ry
   obtain⟨Jj,J7,p2,_⟩:=I.tuple q2;have p2:s.heap.IsTuple b Jj.toArray:=p2;exact⟨.none_tuple  p2 Jm,.none_tuple  p2 Jm,.none_tuple  p2 Jm⟩
 |bl p =>
  unfold aQ at h1;subst h1
  cases rx
  cases e with
  |non =>
   unfold aQ at h2;subst h2
   cases ry
   exact⟨.bool_none p,.bool_none p,.bool_none p⟩
  |bl q =>
   unfold aQ at h2;subst h2
   cases ry
   exact⟨.bool_bool p q,.bool_bool p q,.bool_bool p q⟩
  |int q =>
   unfold aQ at h2;subst h2;obtain⟨tq,rfl⟩:=ry;exact⟨.bool_int p q tq,.bool_int p q tq,.bool_int p q tq⟩
  |str q =>
   unfold aQ at h2;subst h2;obtain⟨tq,rfl⟩:=ry;exact⟨.bool_str p q tq,.bool_str p q tq,.bool_str p q tq⟩
  |lst es =>
   unfold aQ at h2;obtain⟨b,ys,rfl,q2,r2⟩:=h2
   cases ry
   obtain⟨Jj,J7,p2,_⟩:=I.list q2;exact⟨.bool_list p p2.isList Jm,.bool_list p p2.isList Jm,.bool_list p p2.isList Jm⟩
  |tup es =>
   unfold aQ at h2;obtain⟨b,ys,rfl,q2,r2⟩:=h2
   cases ry
   obtain⟨Jj,J7,p2,_⟩:=I.tuple q2;have p2:s.heap.IsTuple b Jj.toArray:=p2;exact⟨.bool_tuple p p2 Jm,.bool_tuple p p2 Jm,.bool_tuple p p2 Jm⟩
 |int p =>
  unfold aQ at h1;subst h1;obtain⟨tp,rfl⟩:=rx
  cases e with
  |non =>
   unfold aQ at h2;subst h2
   cases ry
   exact⟨.int_none p tp,.int_none p tp,.int_none p tp⟩
  |bl q =>
   unfold aQ at h2;subst h2
   cases ry
   exact⟨.int_bool p tp q,.int_bool p tp q,.int_bool p tp q⟩
  |int q =>
   unfold aQ at h2;subst h2;obtain⟨tq,rfl⟩:=ry;exact⟨.int_int p tp q tq,.int_int p tp q tq,.int_int p tp q tq⟩
  |str q =>
   unfold aQ at h2;subst h2;obtain⟨tq,rfl⟩:=ry;exact⟨.int_str p tp q tq,.int_str p tp q tq,.int_str p tp q tq⟩
  |lst es =>
   unfold aQ at h2;obtain⟨b,ys,rfl,q2,r2⟩:=h2
   cases ry
   obtain⟨Jj,J7,p2,_⟩:=I.list q2;exact⟨.int_list p tp p2.isList Jm,.int_list p tp p2.isList Jm,.int_list p tp p2.isList Jm⟩
  |tup es =>
   unfold aQ at h2;obtain⟨b,ys,rfl,q2,r2⟩:=h2
   cases ry
   obtain⟨Jj,J7,p2,_⟩:=I.tuple q2;have p2:s.heap.IsTuple b Jj.toArray:=p2;exact⟨.int_tuple p tp p2 Jm,.int_tuple p tp p2 Jm,.int_tuple p tp p2 Jm⟩
 |str p =>
  unfold aQ at h1;subst h1;obtain⟨tp,rfl⟩:=rx
  cases e with
  |non =>
   unfold aQ at h2;subst h2
   cases ry
   exact⟨.str_none p tp,.str_none p tp,.str_none p tp⟩
  |bl q =>
   unfold aQ at h2;subst h2
   cases ry
   exact⟨.str_bool p tp q,.str_bool p tp q,.str_bool p tp q⟩
  |int q =>
   unfold aQ at h2;subst h2;obtain⟨tq,rfl⟩:=ry;exact⟨.str_int p tp q tq,.str_int p tp q tq,.str_int p tp q tq⟩
  |str q =>
   unfold aQ at h2;subst h2;obtain⟨tq,rfl⟩:=ry;exact⟨.str_str p tp q tq,.str_str p tp q tq,.str_str p tp q tq⟩
  |lst es =>
   unfold aQ at h2;obtain⟨b,ys,rfl,q2,r2⟩:=h2
   cases ry
   obtain⟨Jj,J7,p2,_⟩:=I.list q2;exact⟨.str_list p tp p2.isList Jm,.str_list p tp p2.isList Jm,.str_list p tp p2.isList Jm⟩
  |tup es =>
   unfold aQ at h2;obtain⟨b,ys,rfl,q2,r2⟩:=h2
   cases ry
   obtain⟨Jj,J7,p2,_⟩:=I.tuple q2;have p2:s.heap.IsTuple b Jj.toArray:=p2;exact⟨.str_tuple p tp p2 Jm,.str_tuple p tp p2 Jm,.str_tuple p tp p2 Jm⟩
 |lst ds =>
  unfold aQ at h1;obtain⟨a,xs,rfl,q1,r1⟩:=id h1
  cases rx
  obtain⟨its,rv,p1,_⟩:=I.list q1;have p1:s.heap.IsList a its.toArray:=p1.isList
  cases e with
  |non =>
   unfold aQ at h2;subst h2
   cases ry
   exact⟨.list_none  p1 Jm,.list_none  p1 Jm,.list_none  p1 Jm⟩
  |bl q =>
   unfold aQ at h2;subst h2
   cases ry
   exact⟨.list_bool q p1 Jm,.list_bool q p1 Jm,.list_bool q p1 Jm⟩
  |int q =>
   unfold aQ at h2;subst h2;obtain⟨tq,rfl⟩:=ry;exact⟨.list_int q tq p1 Jm,.list_int q tq p1 Jm,.list_int q tq p1 Jm⟩
  |str q =>
   unfold aQ at h2;subst h2;obtain⟨tq,rfl⟩:=ry;exact⟨.list_str q tq p1 Jm,.list_str q tq p1 Jm,.list_str q tq p1 Jm⟩
  |lst es =>
   unfold aQ at h2;obtain⟨b,ys,rfl,q2,r2⟩:=id h2
   cases ry
   obtain⟨Jj,J7,p2,_⟩:=I.list q2;have p2:s.heap.IsList b Jj.toArray:=p2.isList;have el:=ll I n ih (by unfold jz at hn;omega) A hu r1 r2 rv J7 (by unfold jz at hn;omega)
   have l1:its.toArray.size=ds.length:=by rw[Jc,<-rv.length,r1.len]
   have l2:Jj.toArray.size=es.length:=by rw[Jc,<-J7.length,r2.len]
   have dr:=ip ds es
   have key:SeqAt.RcAt A s (.ref a) (.ref b) (eB ds es)/\SeqAt.RcNeAt A s (.ref a) (.ref b) (!eB ds es):=by
    by_cases hl:ds.length=es.length
    ·have hs:its.toArray.size=Jj.toArray.size:=by rw[l1,l2,hl]
     have z:(List.range its.toArray.size).all (λj=>d6 (ds.getD j .non) (es.getD j .non))=eB ds es:=by rw[dr,l1,hl];simp
     have c1:=SeqAt.RcAt.lists p1 p2 hs Jm el;have c2:=SeqAt.RcNeAt.lists p1 p2 hs Jm el;rw[z] at c1 c2;exact⟨c1,c2⟩
    ·have z:eB ds es=false:=by rw[dr];simp[hl]
     have hs:(its.toArray.size != Jj.toArray.size)=true:=by rw[l1,l2];simpa using hl
     rw[z];exact⟨SeqAt.RcAt.lists_lengths p1 p2 hs Jm,SeqAt.RcNeAt.lists_lengths p1 p2 hs Jm⟩
   have Nq:d6 (.lst ds) (.lst es)=eB ds es:=rfl
   by_cases JX:a=b
   ·subst JX;have z:=lO I (.lst ds) (.lst es) (.ref a) (by unfold aQ;exact⟨a,xs,rfl,q1,r1⟩) (by unfold aQ;exact⟨a,ys,rfl,q2,r2⟩);refine⟨by rw[Nq];exact key.1,by rw[z];exact .same _,by rw[Nq];exact key.2⟩
   ·rw[Nq];exact⟨key.1,.of_refs JX key.1,key.2⟩
  |tup es =>
   unfold aQ at h2;obtain⟨b,ys,rfl,q2,r2⟩:=id h2
   cases ry
   obtain⟨Jj,J7,p2,_⟩:=I.tuple q2;have p2:s.heap.IsTuple b Jj.toArray:=p2;exact⟨.list_tuple p1 p2 Jm,.list_tuple p1 p2 Jm,.list_tuple p1 p2 Jm⟩
 |tup ds =>
  unfold aQ at h1;obtain⟨a,xs,rfl,q1,r1⟩:=id h1
  cases rx
  obtain⟨its,rv,p1,_⟩:=I.tuple q1;have p1:s.heap.IsTuple a its.toArray:=p1
  cases e with
  |non =>
   unfold aQ at h2;subst h2
   cases ry
   exact⟨.tuple_none  p1 Jm,.tuple_none  p1 Jm,.tuple_none  p1 Jm⟩
  |bl q =>
   unfold aQ at h2;subst h2
   cases ry
   exact⟨.tuple_bool q p1 Jm,.tuple_bool q p1 Jm,.tuple_bool q p1 Jm⟩
  |int q =>
   unfold aQ at h2;subst h2;obtain⟨tq,rfl⟩:=ry;exact⟨.tuple_int q tq p1 Jm,.tuple_int q tq p1 Jm,.tuple_int q tq p1 Jm⟩
  |str q =>
   unfold aQ at h2;subst h2;obtain⟨tq,rfl⟩:=ry;exact⟨.tuple_str q tq p1 Jm,.tuple_str q tq p1 Jm,.tuple_str q tq p1 Jm⟩
  |lst es =>
   unfold aQ at h2;obtain⟨b,ys,rfl,q2,r2⟩:=id h2
   cases ry
   obtain⟨Jj,J7,p2,_⟩:=I.list q2;have p2:s.heap.IsList b Jj.toArray:=p2.isList;exact⟨.tuple_list p1 p2 Jm,.tuple_list p1 p2 Jm,.tuple_list p1 p2 Jm⟩
  |tup es =>
   unfold aQ at h2;obtain⟨b,ys,rfl,q2,r2⟩:=id h2
   cases ry
   obtain⟨Jj,J7,p2,_⟩:=I.tuple q2;have p2:s.heap.IsTuple b Jj.toArray:=p2;have el:=ll I n ih (by unfold jz at hn;omega) A hu r1 r2 rv J7 (by unfold jz at hn;omega)
   have l1:its.toArray.size=ds.length:=by rw[Jc,<-rv.length,r1.len]
   have l2:Jj.toArray.size=es.length:=by rw[Jc,<-J7.length,r2.len]
   have dr:=ip ds es
   have key:SeqAt.RcAt A s (.ref a) (.ref b) (eB ds es)/\SeqAt.RcNeAt A s (.ref a) (.ref b) (!eB ds es):=by
    have z:((List.range (min its.toArray.size Jj.toArray.size)).all (λj=>d6 (ds.getD j .non) (es.getD j .non))&&its.toArray.size==Jj.toArray.size)=eB ds es:=by rw[dr,l1,l2]
    have c1:=SeqAt.RcAt.tuples p1 p2 Jm el;have c2:=SeqAt.RcNeAt.tuples p1 p2 Jm el;rw[z] at c1 c2;exact⟨c1,c2⟩
   have Nq:d6 (.tup ds) (.tup es)=eB ds es:=rfl
   by_cases JX:a=b
   ·subst JX;have z:=lO I (.tup ds) (.tup es) (.ref a) (by unfold aQ;exact⟨a,xs,rfl,q1,r1⟩) (by unfold aQ;exact⟨a,ys,rfl,q2,r2⟩);refine⟨by rw[Nq];exact key.1,by rw[z];exact .same _,by rw[Nq];exact key.2⟩
   ·rw[Nq];exact⟨key.1,.of_refs JX key.1,key.2⟩
theorem fH (I:Inv X pins σ H s):∀(n:Nat)(A:Around)(d e:D)(x y:V)(u v:Value),jz d<=n->A.units+n<cLine->aQ X.K H d x->aQ X.K H e y->aL x u->aL y v →
 SeqAt.RcAt A s u v (d6 d e)/\SeqAt.EqAt A s u v (d6 d e)/\SeqAt.RcNeAt A s u v (!d6 d e):=by
 intro n
 induction n with
 |zero=>exact λA d e x y u v hn hu h1 h2 rx ry=>om I 0 (λz=>absurd z (by simp)) A d e x y u v hn hu h1 h2 rx ry
 |succ n ih=>exact λA d e x y u v hn hu h1 h2 rx ry=>om I (n+1) (λ_ A d e x y u v hn hu h1 h2 rx ry=>(ih A d e x y u v hn hu h1 h2 rx ry).2.1) A d e x y u v hn hu h1 h2 rx ry
end
section
variable {X:Cx}
noncomputable def mK (K:Frag)(neg:Bool):R2:=λx y H Q=>∃d e,aQ K H d x/\aQ K H e y/\jz d<=32/\Q (.bl (d6 d e != neg)) H
theorem acM {k:Nat}(hr:A1 k X.A):eT X (compareOp .Eq) (mK X.K false):=by
 intro pins s σ H x y v u Q I rx ry h;obtain⟨d,e,h1,h2,hd,q⟩:=h;have z:=(fH I 32 X.A d e x y v u hd (by have:=hr.units;omega) h1 h2 rx ry).1;exact z X.prog X.w X.xe _ ⟨.bl (d6 d e),H,I,rfl,by simpa using q⟩
theorem ij {k:Nat}(hr:A1 k X.A):eT X (compareOp .NotEq) (mK X.K true):=by
 intro pins s σ H x y v u Q I rx ry h;obtain⟨d,e,h1,h2,hd,q⟩:=h;have z:=(fH I 32 X.A d e x y v u hd (by have:=hr.units;omega) h1 h2 rx ry).2.2
 exact z X.prog X.w X.xe _ ⟨.bl (!d6 d e),H,I,rfl,by
  have e1:(d6 d e != true) = !d6 d e:=by cases d6 d e <;> rfl
  rw[e1] at q
  exact q⟩
end
end L2
namespace Nm
noncomputable def di (a b:Int):Int:=(Int.gcd a b:Int)
noncomputable def dv (t b:Int):Int:=if b<0 then -(di t b) else di t b
noncomputable def dA (t b:Int):Int:=t.fdiv (dv t b)
noncomputable def cO (t b:Int):Int:=b.fdiv (dv t b)
variable {b:Int}
theorem fF {t:Int}(h:b≠0):0<di t b:=by
 unfold di;have:0<Int.gcd t b:=Ct _ h;omega
theorem nt {t:Int}(h:b≠0):dv t b≠0:=by
 have:=fF (t:=t) h;unfold dv
 split <;> omega
theorem acR {t:Int}:dv t b ∣ t:=by
 unfold dv di
 split
 ·exact Int.neg_dvd.mpr (Int.gcd_dvd_left ..)
 ·exact Int.gcd_dvd_left ..
theorem ag1 {t:Int}:dv t b ∣ b:=by
 unfold dv di
 split
 ·exact Int.neg_dvd.mpr (Int.gcd_dvd_right ..)
 ·exact Int.gcd_dvd_right ..
theorem qB {a:Int}(h:b ∣ a)(hb:b≠0):a.fdiv b*b=a:=by
 obtain⟨c,rfl⟩:=h;rw[Int.mul_fdiv_cancel_left _ hb,Ea]
theorem nM {t:Int}(h:b≠0):dA t b*dv t b=t:=qB acR (nt h)
theorem jH {t:Int}(h:b≠0):cO t b*dv t b=b:=qB ag1 (nt h)
theorem pO {t:Int}(h:b≠0):0<cO t b:=by
 have e:=jH (t:=t) h;have g:=fF (t:=t) h
 by_cases hb:b<0
 ·have hd:dv t b = -(di t b):=by unfold dv;rw[qk hb]
  rw[hd] at e
  by_cases hl:0<cO t b
  ·exact hl
  ·have:0<=cO t b * -(di t b):=by
    have:=Int.mul_nonneg_of_nonpos_of_nonpos (a:=cO t b) (b:=-(di t b)) (by omega) (by omega);exact this
   omega
 ·have hd:dv t b=di t b:=by unfold dv;rw[IX hb]
  rw[hd] at e
  by_cases hl:0<cO t b
  ·exact hl
  ·have:cO t b*di t b<=0:=Int.mul_nonpos_of_nonpos_of_nonneg (by omega) (by omega);omega
theorem nC {t:Int}:(dv t b).natAbs=Int.gcd t b:=by
 unfold dv di
 split <;> simp
theorem vY {t:Int}(h:b≠0):Int.gcd (dA t b) (cO t b)=1:=by
 have e1:=nM (t:=t) h;have e2:=jH (t:=t) h;have g:0<Int.gcd t b:=Ct _ h;have e3:Int.gcd (dA t b*dv t b) (cO t b*dv t b)=Int.gcd (dA t b) (cO t b)*(dv t b).natAbs:=Int.gcd_mul_right ..;rw[e1,e2,nC] at e3
 have:Int.gcd (dA t b) (cO t b)*Int.gcd t b=1*Int.gcd t b:=by omega
 exact Nat.eq_of_mul_eq_mul_right g this
theorem lB {t t' b':Int}(h:b≠0)(hp:0<b')(hg:Int.gcd t' b'=1)(he:t*b'=t'*b):dA t b=t'/\cO t b=b':=by
 have e1:=nM (t:=t) h;have e2:=jH (t:=t) h;have g:=nt (t:=t) h;have lp:=pO (t:=t) h;have lg:=vY (t:=t) h
 have e3:dA t b*b'=t'*cO t b:=by
  have z:(dA t b*b')*dv t b=(t'*cO t b)*dv t b:=by
   rw[Int.mul_right_comm,e1,he,xS,e2]
  exact sY g z
 have n3:(dA t b).natAbs*b'.natAbs=t'.natAbs*(cO t b).natAbs:=by
  have:=Ec Int.natAbs e3;rw[ye,ye] at this;exact this
 have c1:Nat.Coprime (cO t b).natAbs (dA t b).natAbs:=by
  rw[Nat.coprime_comm];exact lg
 have c2:Nat.Coprime b'.natAbs t'.natAbs:=by
  rw[Nat.coprime_comm];exact hg
 have d1:(cO t b).natAbs ∣ b'.natAbs:=c1.dvd_of_dvd_mul_left ⟨t'.natAbs,by rw[n3,Bw]⟩;have d2:b'.natAbs ∣ (cO t b).natAbs:=c2.dvd_of_dvd_mul_left ⟨(dA t b).natAbs,by rw[<-n3,Bw]⟩;have e4:(cO t b).natAbs=b'.natAbs:=Nat.dvd_antisymm d1 d2
 have e5:cO t b=b':=by omega
 refine⟨?_,e5⟩;rw[e5] at e3;exact sY (by omega) e3
theorem lG {t b:Int}(hp:0<b)(hg:Int.gcd t b=1):dA t b=t/\cO t b=b:=lB (by omega) hp hg rfl
theorem kM (a b:Int):Int.gcd b (a.fmod b)=Int.gcd a b:=by
 rw[Int.fmod_def,Int.gcd_comm a b]
 first
  |exact Int.gcd_sub_mul_left_right ..
  |simp
theorem uP (a b:Int)(h:b≠0):(a.fmod b).natAbs<b.natAbs:=by
 by_cases hb:0<b
 ·have h1:=CT a hb;have h2:=zR a hb;omega
 ·have e:a.fmod b = -((-a).fmod (-b)):=by
   have:=Int.fmod_def a b;rw[Int.neg_fmod_neg];omega
  have h1:=CT (-a) (b:=-b) (by omega);have h2:=zR (-a) (b:=-b) (by omega);omega
noncomputable def sg (b:Int):Int:=if b<0 then -1 else 1
noncomputable def ab (b:Int):Int:=if b<0 then -b else b
theorem ko (b:Int):ab b=(b.natAbs:Int):=by unfold ab;split <;> omega
theorem af1 {t:Int}(h:b≠0):(sg b*t).fdiv (di t b)=dA t b:=by
 have g:=fF (t:=t) h;have e:=nM (t:=t) h
 have z:sg b*t=dA t b*di t b:=by
  unfold sg dv at *
  split
  ·rename_i hb
   rw[qk hb] at e
   have:dA t b * -di t b = -(dA t b*di t b):=by rw[Int.mul_neg]
   omega
  ·rename_i hb
   rw[IX hb] at e;omega
 rw[z,Int.mul_fdiv_cancel _ (by omega)]
theorem abJ {t:Int}(h:b≠0):(ab b).fdiv (di t b)=cO t b:=by
 have g:=fF (t:=t) h;have e:=jH (t:=t) h
 have z:ab b=cO t b*di t b:=by
  unfold ab dv at *
  split
  ·rename_i hb
   rw[qk hb] at e
   have:cO t b * -di t b = -(cO t b*di t b):=by rw[Int.mul_neg]
   omega
  ·rename_i hb
   rw[IX hb] at e;omega
 rw[z,Int.mul_fdiv_cancel _ (by omega)]
theorem ab1 (a b:Int):Int.gcd (ab a) (ab b)=Int.gcd a b:=by
 rw[ko,ko];simp[Int.gcd]
noncomputable def B (n:Nat)(i:Int):Prop:=i.natAbs<2^n
variable {n:Nat}{i:Int}
theorem B.mono {m:Nat}(h:B n i)(hn:n<=m):B m i:=Ip h (Nat.pow_le_pow_right (by decide) hn)
variable {j:Int}
theorem B.mul {m:Nat}(h:B n i)(k:B m j):B (n+m) (i*j):=by
 unfold B at *;rw[ye,Nat.pow_add];exact Nat.mul_lt_mul'' h k
theorem B.add (h:B n i)(k:B n j):B (n+1) (i+j):=by
 unfold B at *;rw[Nat.pow_succ];have:=Int.natAbs_add_le i j;omega
theorem B.le (h:B n i)(k:j.natAbs<=i.natAbs):B n j:=Hv k h
theorem uA {x d y:Int}(e:x*d=y)(hd:d≠0):x.natAbs<=y.natAbs:=by
 have:x.natAbs*d.natAbs=y.natAbs:=by rw[<-ye,e]
 have h1:1<=d.natAbs:=by omega
 calc x.natAbs=x.natAbs*1:=(Nat.mul_one _).symm
  _<=x.natAbs*d.natAbs:=GX _ h1
  _=y.natAbs:=this
theorem vg {t:Int}(h:b≠0):(dA t b).natAbs<=t.natAbs:=uA (nM h) (nt h)
theorem wm {t:Int}(h:b≠0):(cO t b).natAbs<=b.natAbs:=uA (jH h) (nt h)
theorem Dw {t:Int}(h:b≠0):(dv t b).natAbs<=b.natAbs:=by
 have e:=jH (t:=t) h;have lp:=pO (t:=t) h;exact uA (x:=dv t b) (d:=cO t b) (by rw[Ea];exact e) (by omega)
theorem ab9 {t:Int}(h:b≠0):(di t b).natAbs<=b.natAbs:=by
 have e:=Dw (t:=t) h;rw[nC] at e;unfold di;simpa using e
structure Num (p t b:Int):Prop where
 pos:0<b
 red:Int.gcd t b=1
 pr:p≠0->b=1/\0<=t/\t<p
theorem Num.ofP {p t:Int}(h0:0<=t)(h1:t<p):Num p t 1:=⟨by decide,by simp,λ_=>⟨rfl,h0,h1⟩⟩
theorem Num.low {t:Int}(h:b≠0):Num 0 (dA t b) (cO t b):=⟨pO h,vY h,λz=>absurd rfl z⟩
noncomputable def c9 (p t b:Int):Int:=if p=0 then dA t b else t%p
noncomputable def dw (p t b:Int):Int:=if p=0 then cO t b else 1
theorem Num.set {p t:Int}(hp:0<=p)(h:b≠0):Num p (c9 p t b) (dw p t b):=by
 unfold c9 dw
 by_cases z:p=0
 ·subst z;simp only[Ij];exact Num.low h
 ·simp only[z,wR];exact Num.ofP (rQ _ z) (DJ _ (by omega))
theorem Num.self {p t:Int}(n:Num p t b)(hp:0<=p):c9 p t b=t/\dw p t b=b:=by
 unfold c9 dw
 by_cases z:p=0
 ·simp only[z,Ij];exact lG n.pos n.red
 ·simp only[z,wR];obtain⟨h1,h2,h3⟩:=n.pr z;exact⟨yd h2 h3,h1.symm⟩
theorem aca {p t t' b':Int}(h:b≠0)(n:Num p t' b')(hp:0<=p)(e0:p=0->t*b'=t'*b)(e1:p≠0->t%p=t'%p):c9 p t b=t'/\dw p t b=b':=by
 unfold c9 dw
 by_cases z:p=0
 ·simp only[z,Ij];exact lB h n.pos n.red (e0 z)
 ·simp only[z,wR];obtain⟨h1,h2,h3⟩:=n.pr z;exact⟨by rw[e1 z];exact yd h2 h3,h1.symm⟩
end Nm
namespace L2
open PySem PySem.Spec PyProof.Rows PySem.W
variable {i:Int}
theorem C8 (h:Nm.B 9000 i):i.natAbs.log2<9000:=by
 by_cases z:i.natAbs=0
 ·rw[z];decide
 ·exact(Nat.log2_lt z).mpr h
theorem yz (h:Nm.B 9000 i):Builtin.Int.intBits i<=2^20:=by
 have l:=C8 h;unfold Builtin.Int.intBits
 split
 ·exact Gy _
 ·have:(9000:Nat)<=2^20:=by decide
  omega
section
variable {X:Cx}
theorem fM:eT X (binaryOp .FloorDiv) (rI (λ_ j=>j≠0/\Nm.B 9000 j) λi j=>.int (i.fdiv j)):=Er λ_ _ _ _ _ _ _ hc q=>floordiv_int hc.1 q (.inl (PyProof.noPylong_of_log2 (C8 hc.2)))
theorem dN:eT X (binaryOp .Mult) (rI (λi j=>Nm.B 9000 i/\Nm.B 9000 j) λi j=>.int (i*j)):=Er λ_ _ _ _ _ _ _ hc q=>mul_int q (IntMulOk.of_bits (yz hc.1) (yz hc.2))
end
noncomputable def EF:Expr->Option Int
 | .Constant (.int i) _ _=>some i
 |_=>none
theorem ace {e:Expr}(h:EF e=some i):∃k p,e = .Constant (.int i) k p:=by
 unfold EF at h
 split at h
 ·cases h
  exact⟨_,_,rfl⟩
 ·cases h
noncomputable def vV:List Expr->Option (List Int)
 |[]=>some []
 |e::es=>(EF e).bind λi=>(vV es).map (i :: ·)
noncomputable def acq (ns:List Int):TA:=λ_ H Q=>Q (ns.map V.int) H
theorem uU {X:Cx}:∀{es:xB}{ns:List Int},vV es=some ns->PA X es (acq ns)
 |[],ns,h=>by
  cases h
  exact ai
 |x::es,ns,h=>by
  unfold vV at h;obtain⟨i,hi,h⟩:=w9.mp h;obtain⟨ms,e,rfl⟩:=uJ.mp h;obtain⟨k,p,rfl⟩:=ace hi;exact ao (aq (j:=k) (pos:=p)) (uU e)
noncomputable def ac9 (ns:List Int):TE:=λ_ H Q=>∀p,H p=none->Q (.ref p) (upd H p (.lst (ns.map V.int)))
theorem p6 {X:Cx}{es:xB}{pos:Pos}{ns:List Int}(h:vV es=some ns)(hl:ns.length<=1000):PE X (.List es pos) (ac9 ns):=by
 intro pins s σ H Q I q;refine cM (uU h) pins s σ H Q I ?_;refine⟨?_,q⟩;rw[EZ];exact xx (abH hl)
end L2
namespace K09
open PySem L2 PySem.W Nm
noncomputable abbrev GD:Stmt:=(ba 37)
noncomputable abbrev v9:Stmt:=(ba 38)
noncomputable abbrev qH:Stmt:=(ba 39)
noncomputable def bY (t b:Int):HO:=.tup [.int t,.int b]
noncomputable def AV:Sp:=λvs H Q _=>∃a b:Int,vs=[.int a,.int b]/\Q (.int (di a b)) H
noncomputable def tY:Sp:=λvs H Q _=>∃t b:Int,vs=[.int t,.int b]/\b≠0/\B 9000 b/\∀p,H p=none->Q (.ref p) (upd H p (bY (dA t b) (cO t b)))
noncomputable def GV:Sp:=λvs H Q _=>∃m p:Int,vs=[.int m,.int p]/\p∈Ik/\m%p≠0/\∀v,0<=v->v<p->(v*m)%p=1->Q (.int v) H
variable {p:Int}
theorem dC (h:p∈Ik):2<=p/\p<=97:=by
 have:∀q∈Ik,2<=q/\q<=97:=by decide
 exact this p h
theorem adv {r:Int}(h:p∈Ik)(h0:0<r)(h1:r<p):Int.gcd p r=1:=by
 have key:∀q∈Ik,∀k:_root_.Fin 98,0<k.val->((k.val:Nat):Int)<q->Int.gcd q ((k.val:Nat):Int)=1:=by decide +kernel
 have hp:=dC h;have z:=key p h ⟨r.toNat,by omega⟩
 have e:((r.toNat:Nat):Int)=r:=by omega
 simp only[e] at z;exact z (by omega) h1
variable {P:xq}{w:World}{K:PySem.W.Frag}{mg:Cw}{base:Heap}
theorem DB:Eb si si (au GD):=dX (by decide +kernel)
variable {f:Addr}{fd:GS}
theorem ad7 (F:FY K "common_divisor" "common_divisor" GD f fd)(mA:mg "abs"=none):xk P w K mg base (cI P w) 1 f fd si AV:=by
 refine F.okN DB (λvs H Q E h=>?_) (λJi A outer s H vs Q E hr h=>?_)
 ·obtain⟨a,b,rfl,_⟩:=h;rfl
 ·obtain⟨a,b,rfl,q⟩:=h
  refine⟨_,ar (ma E5 (iY (pv 1) (λ_=>rfl)) (az (jd (i:=0) (j:=1) rfl DB.nd rfl rfl (by decide) rfl rfl (ao (pv 1) (ao (aH wa (pv 0) (pv 1)) ai)) rfl)))
   (az (aG (aK iS (by rfl) mA (by rfl) (ao (pv 0) ai)))),?_⟩
  refine⟨λm σ H'=>∃c d:Int,σ=[some (.int c),some (.int d)]/\H'=H/\m=d.natAbs/\Int.gcd c d=Int.gcd a b,⟨_,a,b,rfl,rfl,rfl,rfl⟩,?_⟩;rintro m σ H' ⟨c,d,rfl,rfl,rfl,hg⟩;refine⟨_,rfl,_,rfl,?_⟩;refine cX (λh=>?_) (λh=>?_)
  ·have hd:d≠0:=by simpa using h
   refine⟨λσ' Ms=>∃c' d':Int,σ'=[some (.int c'),some (.int d')]/\Ms=H'/\d'.natAbs<d.natAbs/\Int.gcd c' d'=Int.gcd a b,λσ' Ms ⟨c',d',e1,e2,e3,e4⟩=>⟨_,e3,c',d',e1,e2,rfl,e4⟩,?_⟩;refine⟨_,rfl,_,rfl,_,rfl,_,_,rfl,rfl,hd,_,_,rfl,d,c.fmod d,rfl,rfl,uP c d hd,?_⟩;rw[kM,hg]
  ·have hd:d=0:=by simpa using h
   subst hd;refine⟨_,rfl,c,rfl,?_⟩
   have e:(if c<0 then -c else c)=di a b:=by
    unfold di;rw[<-hg];have:=ko c;unfold ab at this;rw[this];simp
   rw[e];exact q
theorem kK:Eb ["top","bottom","divisor"] tL (au v9):=dX (by decide +kernel)
noncomputable abbrev Ca (P:xq)(w:World)(K:PySem.W.Frag)(mg:Cw)(base:Heap)(k:Nat)(ps:F3)(n:Str)(sp:Sp):Prop:=∃f fd,xk P w K mg base (cI P w) k f fd ps sp/\L2.b8 K fd ps []/\mg n=some (.ref f)/\keepIn K (.ref f)=true
noncomputable abbrev Cm (P:xq)(w:World)(K:PySem.W.Frag)(mg:Cw)(base:Heap)(k:Nat)(ps:F3)(C:Addr)(n:Str)(sp:Sp):Prop:=∃f fd,xk P w K mg base (cI P w) k f fd ps sp/\L2.b8 K fd ps []/\L2.Meth K C n f
theorem aec (F:FY K "lowest" "lowest" v9 f fd)(q0:Ca P w K mg base 1 si "common_divisor" AV):
 xk P w K mg base (cI P w) 2 f fd tL tY:=by
 obtain⟨fg,U3,FG,bG,mG,kG⟩:=q0;refine F.okN kK (λvs H Q E h=>?_) (λJi A outer s H vs Q E hr h=>?_)
 ·obtain⟨a,b,rfl,_⟩:=h;rfl
 ·obtain⟨t,b,rfl,hb,hB,q⟩:=h
  refine⟨_,ar (bo (aS dU (pv 1) aq (aM _)) (az (aG (bF (ao (pv 0) (ao aq ai))))) aI)
   (ar (aY (i:=2) kK.nd rfl (Or.inl rfl) (aD FG hr (by rfl) mG kG bG .nil ae (ao (pv 0) (ao (pv 1) ai))))
   (ar (bo (aS iJ (pv 1) aq (aM _)) (az (aY (i:=2) kK.nd rfl (Or.inl rfl) (yZ tJ (pv 2)))) aI)
   (az (aG (bF (ao (aH fM (pv 0) (pv 2)) (ao (aH fM (pv 1) (pv 2)) ai))))))),?_⟩
  refine⟨_,rfl,rfl,_,rfl,?_⟩;refine cX (λh=>?_) (λh=>?_)
  ·have e:b=1:=by simpa using h
   subst e;have z:=lG (t:=t) (b:=1) (by decide) (by simp);refine⟨_,rfl,jJ,λp hp=>?_⟩;have y:=q p hp;rw[z.1,z.2] at y;exact y
  ·refine⟨_,rfl,_,rfl,t,b,rfl,?_⟩;refine⟨_,rfl,_,_,rfl,rfl,_,rfl,?_⟩;have gp:=fF (t:=t) hb
   have fin:∀d:Int,d=dv t b->xY (bx (oq (rI (λ_ j=>j≠0/\Nm.B 9000 j) λi j=>V.int (i.fdiv j)) (dg 0) (dg 2)) (bx (oq (rI (λ_ j=>j≠0/\Nm.B 9000 j) λi j=>V.int (i.fdiv j)) (dg 1) (dg 2)) ya)) [some (.int t),some (.int b),some (.int d)] H Q:=by
    intro d hd
    have TC:d≠0:=by rw[hd];exact nt hb
    have Yj:B 9000 d:=by rw[hd];exact hB.le (Dw hb)
    refine⟨_,rfl,_,rfl,_,_,rfl,rfl,⟨TC,Yj⟩,_,rfl,_,rfl,_,_,rfl,rfl,⟨TC,Yj⟩,jJ,λp hp=>?_⟩;have y:=q p hp;unfold dA cO at y;rw[<-hd] at y;exact y
   refine cX (λh2=>?_) (λh2=>?_)
   ·have e:b<0:=by simpa using h2
    exact⟨_,rfl,_,rfl,fin _ (by unfold dv;rw[qk e])⟩
   ·have e:¬b<0:=by simpa using h2
    exact fin _ (by unfold dv;rw[IX e])
structure Eu (m p r s l ls:Int):Prop where
 r0:0<r
 rl:r<l
 lp:l<=p
 g:Int.gcd l r=1
 e1:∃k,s*m-r=p*k
 e2:∃k,ls*m-l=p*k
variable {l:Int}
theorem Eu.step {m r s ls:Int}(h:Eu m p r s l ls)(h1:r≠1):Eu m p (l-l.fdiv r*r) (ls-l.fdiv r*s) r s/\(l-l.fdiv r*r).toNat<r.toNat:=by
 obtain⟨r0,rl,lp,g,⟨k1,e1⟩,⟨k2,e2⟩⟩:=h
 have em:l-l.fdiv r*r=l.fmod r:=by rw[Int.fmod_def,Ea]
 have a:=CT l r0;have b:=zR l r0
 have gg:Int.gcd r (l.fmod r)=1:=by rw[kM,g]
 have nz:l.fmod r≠0:=by
  intro z;rw[z] at gg;simp at gg;omega
 rw[em];refine⟨⟨by omega,a,by omega,gg,⟨k2-l.fdiv r*k1,?_⟩,⟨k1,e1⟩⟩,by omega⟩;rw[<-em];generalize l.fdiv r=q
 have:(ls-q*s)*m-(l-q*r)=(ls*m-l)-q*(s*m-r):=by
  rw[Int.sub_mul,Int.mul_sub,xS];omega
 rw[this,e1,e2,Int.mul_sub,Int.mul_left_comm]
theorem Eu.fin {m s ls:Int}(h:Eu m p 1 s l ls)(hp:2<=p):0<=s%p/\s%p<p/\(s%p*m)%p=1:=by
 obtain⟨_,_,_,_,⟨k1,e1⟩,_⟩:=h;refine⟨rQ _ (by omega),DJ _ (by omega),?_⟩
 have e:s*m=p*k1+1:=by omega
 rw[Int.mul_emod,Int.emod_emod,<-Int.mul_emod,e,Int.mul_add_emod_self_left];exact yd (by omega) (by omega)
noncomputable abbrev ahg:List Str:=["number","prime","rest","share","last","last_share","many"]
theorem eh:Eb ahg ["number","prime"] (au qH):=dX (by decide +kernel)
theorem af9 (F:FY K "inverse" "inverse" qH f fd):xk P w K mg base (cI P w) 1 f fd ["number","prime"] GV:=by
 refine F.okN eh (λvs H Q E h=>?_) (λJi A outer s H vs Q E hr h=>?_)
 ·obtain⟨a,b,rfl,_⟩:=h;rfl
 ·obtain⟨m,p,rfl,hp,hm,q⟩:=h;have OB:=dC hp
  refine⟨_,ar (jd (i:=2) (j:=3) rfl eh.nd rfl rfl (by decide) rfl rfl (ao (aH da (pv 0) (pv 1)) (ao aq ai)) rfl)
   (ar (jd (i:=4) (j:=5) rfl eh.nd rfl rfl (by decide) rfl rfl (ao (pv 1) (ao aq ai)) rfl)
   (ar (ma E5 (aS nN (pv 2) aq (aM _))
    (ar (aY (i:=6) eh.nd rfl (Or.inl rfl) (aH fM (pv 4) (pv 2)))
    (ar (jd (i:=4) (j:=2) rfl eh.nd rfl rfl (by decide) rfl rfl (ao (pv 2) (ao (aH lK (pv 4) (aH dM (pv 6) (pv 2))) ai)) rfl)
    (az (jd (i:=5) (j:=3) rfl eh.nd rfl rfl (by decide) rfl rfl (ao (pv 3) (ao (aH lK (pv 5) (aH dM (pv 6) (pv 3))) ai)) rfl)))))
   (az (aG (aH da (pv 3) (pv 1)))))),?_⟩
  refine⟨_,rfl,_,rfl,_,_,rfl,rfl,(by show(0:Int)<p;omega),_,_,rfl,?_⟩;refine⟨_,rfl,_,_,rfl,?_⟩;have r0:0<=m%p:=rQ _ (by omega);have r1:m%p<p:=DJ _ (by omega)
  have E0:Eu m p (m%p) 1 p 0:=by
   refine⟨by omega,r1,ni _,adv hp (by omega) r1,⟨m/p,?_⟩,⟨-1,by omega⟩⟩;have:=Int.emod_add_mul_ediv m p;omega
  refine⟨λn σ H'=>∃(r s l ls:Int)(o:Option V),σ=[some (.int m),some (.int p),some (.int r),some (.int s),some (.int l),some (.int ls),o]/\H'=H/\n=r.toNat/\Eu m p r s l ls,⟨_,_,_,_,_,_,rfl,rfl,rfl,E0⟩,?_⟩;rintro n σ H' ⟨r,s,l,ls,o,rfl,rfl,rfl,E⟩;refine⟨_,rfl,rfl,_,rfl,?_⟩;refine cX (λh=>?_) (λh=>?_)
  ·have Jp:r≠1:=by simpa using h
   obtain⟨E',lt⟩:=E.step Jp;have e0:=E.r0;have e1:=E.rl;have e2:=E.lp;have q0:0<=l.fdiv r:=Int.fdiv_nonneg (by omega) (by omega)
   have q1:l.fdiv r<=l:=by
    rw[Int.fdiv_eq_ediv_of_nonneg _ (by omega)];exact Int.ediv_le_self _ (by omega)
   refine⟨λσ' Ms=>∃(r' s' l' TF:Int)(o:Option V),σ'=[some (.int m),some (.int p),some (.int r'),some (.int s'),some (.int l'),some (.int TF),o]/\Ms=H'/\r'.toNat<r.toNat/\Eu m p r' s' l' TF,λσ' Ms ⟨r',s',l',TF,o',z1,z2,z3,z4⟩=>⟨_,z3,r',s',l',TF,o',z1,z2,rfl,z4⟩,?_⟩;refine⟨_,rfl,_,rfl,_,_,rfl,rfl,⟨by omega,?_⟩,?_⟩
   ·have:r.natAbs<2^7:=by omega
    exact(show B 7 r from this).mono (by decide)
   ·refine⟨_,rfl,_,rfl,_,rfl,_,rfl,_,_,rfl,rfl,.inl ⟨by omega,by omega⟩,_,_,rfl,rfl,_,_,rfl,?_⟩;refine⟨_,rfl,_,rfl,_,rfl,_,rfl,_,_,rfl,rfl,.inl ⟨by omega,by omega⟩,_,_,rfl,rfl,_,_,rfl,?_⟩;exact⟨_,_,_,_,_,rfl,rfl,lt,E'⟩
  ·have Jp:r=1:=by simpa using h
   subst Jp;obtain⟨f0,f1,f2⟩:=E.fin OB.1;exact⟨_,rfl,_,rfl,_,_,rfl,rfl,(by show(0:Int)<p;omega),q _ f0 f1 f2⟩
noncomputable abbrev yA:Stmt:=(ba 12)
noncomputable abbrev yG:Stmt:=aU (ba 40) 0
inductive Th (H:Hp):V->String->Prop where
 |non:Th H .non "NoneType"
 |bl (b:Bool):Th H (.bl b) "bool"
 |int (i:Int):Th H (.int i) "int"
 |str (x:Str):Th H (.str x) "str"
 |lst {a:Addr}{xs:List V}(e:H a=some (.lst xs)):Th H (.ref a) "list"
 |tup {a:Addr}{xs:List V}(e:H a=some (.tup xs)):Th H (.ref a) "tuple"
 |dK {a:Addr}{Jf:List (Key×V)}(e:H a=some (.dK Jf)):Th H (.ref a) "dict"
variable {K:Frag}{H:Hp}{x:V}
theorem Th.ty {T:String}(h:Th H x T):zy K H x (.type T):=by
 cases h with
 |non=>exact .of .non
 |bl b=>exact .of (.bl b)
 |int i=>exact .of (.int i)
 |str x=>exact .of (.str x)
 |lst e=>exact .of (.lst e)
 |tup e=>exact .of (.tup e)
 |dK e=>exact .of (.dK e)
noncomputable def dq:V->Bool
 | .int _=>true
 |_=>false
noncomputable def Hs:V->Bool
 | .int _=>true
 | .bl _=>true
 |_=>false
theorem Th.isInt {T:String}(h:Th H x T):kitOne K (.type T) (.type "int")=some (Hs x):=by cases h <;> rfl
theorem Th.isBool {T:String}(h:Th H x T)(hi:Hs x=true):kitOne K (.type T) (.type "bool")=some (!dq x):=by
 cases h with
 |int i=>rfl
 |bl b=>rfl
 |_=>cases hi
noncomputable def uE:Sp:=λvs H Q _=>∃x T,vs=[x]/\Th H x T/\Q (.bl (dq x)) H
structure wO (mg:Cw):Prop where
 isi:mg "isinstance"=none
 int:mg "int"=none
 bool:mg "bool"=none
theorem ahi:Eb IY IY (au yA):=dX (by decide +kernel)
theorem agb (F:FY K "is_whole" "is_whole" yA f fd)(n:wO mg):xk P w K mg base (cI P w) 1 f fd IY uE:=by
 refine F.okN ahi (λvs H Q E h=>?_) (λJi A outer s H vs Q E hr h=>?_)
 ·obtain⟨x,T,rfl,_⟩:=h;rfl
 ·obtain⟨x,T,rfl,th,q⟩:=h
  refine⟨_,az (aG (dH (aK bX (by rfl) n.isi (by rfl) (c6 (pv 0) (c6 (d7 (by rfl) n.int (by rfl) (show aL (.ty "int") (.type "int") from rfl)) ai)))
   (fk (aan (aK bX (by rfl) n.isi (by rfl) (c6 (pv 0) (c6 (d7 (by rfl) n.bool (by rfl) (show aL (.ty "bool") (.type "bool") from rfl)) ai))))))),?_⟩
  refine⟨_,rfl,x,.ty "int",_,_,_,rfl,rfl,th.ty,th.isInt,_,rfl,?_⟩;refine cX (λhi=>?_) (λhi=>?_)
  ·refine⟨_,rfl,x,.ty "bool",_,_,_,rfl,rfl,th.ty,th.isBool hi,_,rfl,?_⟩;simpa using q
  ·have e:dq x=false:=by
    cases th <;> first|rfl|exact absurd rfl hi
   rw[e] at q;exact q
noncomputable def jG (i:Int):Bool:=i==0 || Ik.any λp=>p==i
noncomputable def good:V->Bool
 | .int i=>jG i
 |_=>false
noncomputable def dS (i:Int):List (Str×V):=[("its_prime",.int i)]
noncomputable def sy (C NF:Addr):Sp:=λvs H Q E=>∃(p dx:Addr)(x:V)(T:String),vs=[.ref p,x]/\Th H x T/\H p=some (.ins C dx [])/\(good x=true->Q .non (upd H p (.ins C dx [("its_prime",x)])))/\(good x=false->E (.ref NF) none H)
structure Fv (K:Frag)(mg:Cw)(C:Addr):Prop where
 cl:kJ K C
 nP:eF K C "its_prime"
 mgC:mg "Field"=some (.ref C)
 isC:((clsIn K C).isSome&&typeIn K (.ref C)==some (.type "type"))=true
 ca:findIn K (.ref C) "__class__"=some (some (.builtin "object.__class__"))
 sp:specialIn K (.builtin "object.__class__") "__get__"=some (some (.builtin "getset_descriptor.__get__"))
 tk:takesIn K (.builtin "object.__class__")=some true
 ob:mroIn K C (.type "object")=some true
variable {mg:Cw}{C:Addr}
theorem Fv.ty (c:Fv K mg C){p dx:Addr}{fs:List (Str×V)}(e:H p=some (.ins C dx fs)):zy K H (.ref p) (.ref C):=.of (.ins e c.cl c.ca c.sp c.tk c.ob)
theorem Fv.is (c:Fv K mg C):kitOne K (.ref C) (.ref C)=some true:=by
 unfold kitOne;rw[qk (by simp)]
theorem Fv.no (c:Fv K mg C){T:String}(h:Th H x T):kitOne K (.type T) (.ref C)=some false:=by
 show(if(Value.type T==Value.ref C)=true then some true else(if((clsIn K C).isSome&&typeIn K (.ref C)==some (.type "type"))=true then subIn K (.type T) (.ref C) else none))=some false;rw[IX (by intro z;cases Fz.mp z),qk c.isC]
 cases h <;> rfl
theorem ki (i:Int):F6 (.int i) (Ik.map V.int)=Ik.any λp=>p==i:=by
 unfold F6;rw[List.any_map];rfl
theorem ahl:Eb CG CG (au yG):=dX (by decide +kernel)
variable {tF:Tok}
theorem af2 {NF aP T:Addr}(F:Et K "__init__" "Field.__init__" yG f fd T)(c:Fv K mg C)(q0:Ca P w K mg base 1 IY "is_whole" uE)
 (mF:mg "FRACTIONS"=some (.int 0 tF))(mP:mg "PRIMES"=some (.ref aP))(hP:∀H:Hp,bq K H aP (Ik.map V.int))(mN:mg "NoField"=some (.ref NF))(qN:gB K NF um ik=true):xk P w K mg base (cI P w) 2 f fd CG (sy C NF):=by
 obtain⟨fw,PD,FW,bW,mW,kW⟩:=q0;refine F.okE ahl (λvs H Q E h=>?_) (λJi A outer s H vs Q E hr h=>?_)
 ·obtain⟨p,dx,x,T,rfl,_⟩:=h;rfl
 ·obtain⟨p,dx,x,T,rfl,th,hp,hq,hE⟩:=h
  refine⟨_,ar (bo (PW.pt (iP (cz (cB (aD FW hr (by rfl) mW kW bW .nil ae (c6 (pv 1) ai))))
   (f9 (PW.pt (aaw (aS nN (pv 1) (d3 (by rfl) mF (show aL (.int 0) (.int 0 tF) from⟨_,rfl⟩)) (aM _)) (aaI (aS agy (pv 1) (d3 (by rfl) mP (show aL (.ref aP) (.ref aP) from rfl)) (by rfl))))))))
   (az (cU Bi qN rfl cy (by rfl) mN (c6 eI ai))) aI)
   (az (oR (pv 0) (pv 1) rfl)),?_⟩
  have fin:good x=true->∃(a C' PF:Addr)(fs:List (Str×V)),V.ref p=.ref a/\H a=some (.ins C' PF fs)/\kJ K C'/\eF K C' "its_prime"/\fs.length<1000/\Q .non (upd H a (.ins C' PF (dR "its_prime" x fs))):=λg=>⟨p,C,dx,[],rfl,hp,c.cl,c.nP,by decide,hq g⟩;refine⟨_,rfl,x,T,rfl,th,_,rfl,?_⟩
  cases th with
  |int i =>
   refine cu ?_;refine⟨_,rfl,rfl,_,rfl,?_⟩;refine cX (λh0=>?_) (λh0=>?_)
   ·refine⟨_,rfl,aP,_,rfl,.inr (hP _),rfl,rfl,_,rfl,?_⟩;refine cX (λh1=>?_) (λh1=>?_)
    ·refine⟨by decide,hE ?_⟩
     have e1:¬i=0:=by simpa using h0
     have e2:F6 (.int i) (Ik.map V.int)=false:=by simpa using h1
     rw[ki] at e2;show jG i=false;unfold jG;rw[e2];simpa using e1
    ·have e2:F6 (.int i) (Ik.map V.int)=true:=by simpa using h1
     rw[ki] at e2;exact⟨_,rfl,_,rfl,fin (by show jG i=true;unfold jG;rw[e2];simp)⟩
   ·have e1:i=0:=by simpa using h0
    exact cu ⟨_,rfl,_,rfl,fin (by show jG i=true;rw[e1];rfl)⟩
  |_=>exact cA (cA ⟨by decide,hE rfl⟩)
noncomputable abbrev Dm:Stmt:=aU (ba 40) 5
noncomputable abbrev CZ:Stmt:=aU (ba 40) 6
noncomputable abbrev AL:Stmt:=aU (ba 40) 8
noncomputable abbrev qe:Stmt:=aU (ba 40) 10
noncomputable def FP (p:Int):Prop:=p=0\/p∈Ik
theorem FP.nn (h:FP p):0<=p:=by
 rcases h with h|h
 ·omega
 ·have:=dC h;omega
theorem FP.two (h:FP p)(z:p≠0):p∈Ik/\2<=p/\p<=97:=by
 rcases h with h|h
 ·exact absurd h z
 ·exact⟨h,dC h⟩
noncomputable def rZ (C NN:Addr):Sp:=λvs H Q E=>∃(s dx:Addr)(p t b:Int),vs=[.ref s,.int t,.int b]/\H s=some (.ins C dx (dS p))/\FP p/\B 9000 b /\
 (p=0->b=0->E (.ref NN) none H)/\(p=0->b≠0->∀a,H a=none->Q (.ref a) (upd H a (bY (dA t b) (cO t b)))) /\
 (p≠0->b%p=0->E (.ref NN) none H)/\(p≠0->b%p≠0->∀v,0<=v->v<p->(v*b)%p=1->∀a,H a=none->Q (.ref a) (upd H a (bY (t*v%p) 1)))
noncomputable def ji (C:Addr):Sp:=λvs H Q _=>∃(s dx:Addr)(p t b:Int),vs=[.ref s,.int t,.int b]/\H s=some (.ins C dx (dS p))/\FP p/\B 9000 b/\b≠0/\∀a,H a=none->Q (.ref a) (upd H a (bY (c9 p t b) (dw p t b)))
noncomputable def oo (C:Addr)(g:Int->Int->Int->Int->Int):Sp:=λvs H Q _=>∃(s dx a1 a2:Addr)(p t1 b1 t2 b2:Int),vs=[.ref s,.ref a1,.ref a2]/\H s=some (.ins C dx (dS p))/\FP p/\H a1=some (bY t1 b1)/\H a2=some (bY t2 b2) /\
 B 4000 t1/\B 4000 b1/\B 4000 t2/\B 4000 b2/\b1≠0/\b2≠0/\∀a,H a=none->Q (.ref a) (upd H a (bY (c9 p (g t1 b1 t2 b2) (b1*b2)) (dw p (g t1 b1 t2 b2) (b1*b2))))
noncomputable def jE (t1 b1 t2 b2:Int):Int:=t1*b2+t2*b1
noncomputable def hZ (t1 b1 t2 b2:Int):Int:=t1*t2
theorem aa9:Eb xV xV (au Dm):=dX (by decide +kernel)
theorem abj {NN:Addr}(F:FY K "quotient" "Field.quotient" Dm f fd)(c:Fv K mg C)(mF:mg "FRACTIONS"=some (.int 0 tF))(mN:mg "NoNumber"=some (.ref NN))(qN:gB K NN um ik=true)
 (q0:Ca P w K mg base 2 tL "lowest" tY)
 (q1:Ca P w K mg base 1 ["number","prime"] "inverse" GV):
 xk P w K mg base (cI P w) 3 f fd xV (rZ C NN):=by
 obtain⟨fl,Mt,FL,bL,mL,kL⟩:=q0;obtain⟨fv,fdv,FV,bV,mV,kV⟩:=q1;refine F.okE aa9 (λvs H Q E h=>?_) (λJi A outer s H vs Q E hr h=>?_)
 ·obtain⟨s,dx,p,t,b,rfl,_⟩:=h;rfl
 ·obtain⟨s,dx,p,t,b,rfl,hs,hp,hB,q1,q2,q3,q4⟩:=h;have Jp:A1 1 _:=hr.mono (by decide)
  refine⟨_,ar (bo (aS dU (bh (pv 0) rfl) (d3 (by rfl) mF (show aL (.int 0) (.int 0 tF) from⟨_,rfl⟩)) (aM _))
   (ar (bo (aS dU (pv 2) aq (aM _)) (az (cU Bi qN rfl cy (by rfl) mN (ao eI ai))) aI)
   (az (aG (aD FL hr (by rfl) mL kL bL .nil ae (ao (pv 1) (ao (pv 2) ai)))))) aI)
   (ar (bo (aS dU (aH da (pv 2) (bh (pv 0) rfl)) aq (aM _)) (az (cU Bi qN rfl cy (by rfl) mN (ao eI ai))) aI)
   (az (aG (bF (ao (aH da (aH dM (pv 1) (aD FV Jp (by rfl) mV kV bV .nil ae (ao (pv 2) (ao (bh (pv 0) rfl) ai)))) (bh (pv 0) rfl)) (ao aq ai)))))),?_⟩
  refine⟨_,rfl,s,C,dx,_,_,rfl,hs,c.cl,c.nP,rfl,rfl,_,rfl,?_⟩;refine cX (λh=>?_) (λh=>?_)
  ·have JC:p=0:=by simpa using h
   refine⟨_,rfl,rfl,_,rfl,?_⟩;refine cX (λh2=>?_) (λh2=>?_)
   ·have hb:b=0:=by simpa using h2
    exact⟨by decide,q1 JC hb⟩
   ·have hb:b≠0:=by simpa using h2
    exact⟨_,rfl,_,rfl,t,b,rfl,hb,hB,q2 JC hb⟩
  ·have JC:p≠0:=by simpa using h
   obtain⟨PH,p2,OG⟩:=hp.two JC;refine⟨_,rfl,_,rfl,s,C,dx,_,_,rfl,hs,c.cl,c.nP,rfl,_,_,rfl,rfl,(by show(0:Int)<p;omega),rfl,_,rfl,?_⟩;refine cX (λh2=>?_) (λh2=>?_)
   ·have hb:b%p=0:=by simpa using h2
    exact⟨by decide,q3 JC hb⟩
   ·have hb:b%p≠0:=by simpa using h2
    refine⟨_,rfl,_,rfl,_,rfl,s,C,dx,_,_,rfl,hs,c.cl,c.nP,rfl,b,p,rfl,PH,hb,λv v0 v1 v2=>?_⟩;refine⟨_,_,rfl,rfl,.inr ⟨by omega,by omega⟩,_,rfl,s,C,dx,_,_,rfl,hs,c.cl,c.nP,rfl,_,_,rfl,rfl,(by show(0:Int)<p;omega),jJ,λa ha=>q4 JC hb v v0 v1 v2 a ha⟩
theorem abN:Eb xV xV (au qe):=dX (by decide +kernel)
theorem abW (F:FY K "settled" "Field.settled" qe f fd)(c:Fv K mg C)(mF:mg "FRACTIONS"=some (.int 0 tF))
 (q0:Ca P w K mg base 2 tL "lowest" tY):
 xk P w K mg base (cI P w) 3 f fd xV (ji C):=by
 obtain⟨fl,Mt,FL,bL,mL,kL⟩:=q0;refine F.okN abN (λvs H Q E h=>?_) (λJi A outer s H vs Q E hr h=>?_)
 ·obtain⟨s,dx,p,t,b,rfl,_⟩:=h;rfl
 ·obtain⟨s,dx,p,t,b,rfl,hs,hp,hB,hb,q⟩:=h
  refine⟨_,ar (bo (aS dU (bh (pv 0) rfl) (d3 (by rfl) mF (show aL (.int 0) (.int 0 tF) from⟨_,rfl⟩)) (aM _))
   (az (aG (aD FL hr (by rfl) mL kL bL .nil ae (ao (pv 1) (ao (pv 2) ai))))) aI)
   (az (aG (bF (ao (aH da (pv 1) (bh (pv 0) rfl)) (ao aq ai))))),?_⟩
  refine⟨_,rfl,s,C,dx,_,_,rfl,hs,c.cl,c.nP,rfl,rfl,_,rfl,?_⟩;refine cX (λh=>?_) (λh=>?_)
  ·have JC:p=0:=by simpa using h
   refine⟨_,rfl,_,rfl,t,b,rfl,hb,hB,λa ha=>?_⟩;have y:=q a ha;unfold c9 dw at y;rw[qk JC,qk JC] at y;exact y
  ·have JC:p≠0:=by simpa using h
   obtain⟨PH,p2,OG⟩:=hp.two JC;refine⟨_,rfl,_,rfl,s,C,dx,_,_,rfl,hs,c.cl,c.nP,rfl,_,_,rfl,rfl,(by show(0:Int)<p;omega),jJ,λa ha=>?_⟩;have y:=q a ha;unfold c9 dw at y;rw[IX JC,IX JC] at y;exact y
theorem a0 (x y:V):qX [x,y] 0=some x:=rfl
theorem a1 (x y:V):qX [x,y] 1=some y:=rfl
theorem abY:Eb AY AY (au CZ):=dX (by decide +kernel)
variable {b:Int}
theorem p9 {a:Int}(h:a≠0)(k:b≠0):a*b≠0:=CD h k
theorem abZ (F:FY K "plus" "Field.plus" CZ f fd)(c:Fv K mg C)(q0:Cm P w K mg base 3 xV C "settled" (ji C)):
 xk P w K mg base (cI P w) 4 f fd AY (oo C jE):=by
 obtain⟨fs,Yk,FS,bS,mS⟩:=q0;refine F.okN abY (λvs H Q E h=>?_) (λJi A outer s H vs Q E hr h=>?_)
 ·obtain⟨s,dx,a1,a2,p,t1,b1,t2,b2,rfl,_⟩:=h;rfl
 ·obtain⟨s,dx,x1,x2,p,t1,b1,t2,b2,rfl,hs,hp,h1,h2,B1,B2,B3,B4,n1,n2,q⟩:=h;refine⟨_,az (aG (aR (pv 0) c.cl mS FS hr bS .nil ae (ao (aH dD (aH dN (bf bH (pv 1) aq (λ_ _=>rfl)) (bf bH (pv 2) aq (λ_ _=>rfl))) (aH dN (bf bH (pv 2) aq (λ_ _=>rfl)) (bf bH (pv 1) aq (λ_ _=>rfl)))) (ao (aH dN (bf bH (pv 1) aq (λ_ _=>rfl)) (bf bH (pv 2) aq (λ_ _=>rfl))) ai)))),?_⟩;refine⟨_,rfl,s,dx,_,rfl,hs,rfl,?_⟩;refine⟨_,rfl,x1,_,0,_,rfl,rfl,bq.of h1,a0 _ _,_,rfl,x2,_,1,_,rfl,rfl,bq.of h2,a1 _ _,_,_,rfl,rfl,⟨B1.mono (by decide),B4.mono (by decide)⟩,?_⟩;refine⟨_,rfl,x2,_,0,_,rfl,rfl,bq.of h2,a0 _ _,_,rfl,x1,_,1,_,rfl,rfl,bq.of h1,a1 _ _,_,_,rfl,rfl,⟨B3.mono (by decide),B2.mono (by decide)⟩,_,_,rfl,rfl,?_⟩;refine⟨_,rfl,x1,_,1,_,rfl,rfl,bq.of h1,a1 _ _,_,rfl,x2,_,1,_,rfl,rfl,bq.of h2,a1 _ _,_,_,rfl,rfl,⟨B2.mono (by decide),B4.mono (by decide)⟩,?_⟩;exact⟨s,dx,p,_,_,rfl,hs,hp,(B2.mul B4).mono (by decide),p9 n1 n2,q⟩
noncomputable abbrev C5:Stmt:=(ba 42)
noncomputable abbrev Dg:Stmt:=(ba 43)
noncomputable abbrev Dh:Stmt:=(ba 44)
noncomputable abbrev Dc:Stmt:=(ba 45)
noncomputable abbrev zW:Stmt:=(ba 46)
theorem av {a:Addr}{o:HO}(h:H a=none):aE H (upd H a o):=λb u e=>by rw[aA (aB e h)];exact e
noncomputable def AF (K:PySem.W.Frag):Sp:=λvs H Q _=>∃(a:Addr)(ns:List Int)(k:Int),vs=[.ref a,.int k]/\a8 K H a (ns.map V.int)/\ns.length<=63/\0<=k/\k<=63 /\
 ∀(p:Addr)(l r:Int),H p=none->0<=r->r<2147483647->Q (.ref p) (upd H p (.lst [.int l,.int r]))
noncomputable def yT:Sp:=λvs H Q _=>∃(p:Addr)(l r m:Int),vs=[.ref p,.int m]/\H p=some (.lst [.int l,.int r])/\0<=r/\r<2147483647/\0<m/\m<18446744073709551616 /\
 ∀(z l' r':Int),0<=z->z<m->0<=r'->r'<2147483647->Q (.int z) (upd H p (.lst [.int l',.int r']))
variable {Q:VK}
theorem iR {k c:Int}{x:Option V}(Nh:0<=k)(PJ:k<=63)(q:∀(p:Addr)(l r:Int),H p=none->0<=r->r<2147483647->Q (.ref p) (upd H p (.lst [.int l,.int r]))):
 EY (bx (dg 3) (bx (oq (rI (λ_ j=>0<j) λi j=>.int (i%j)) (oq (rI wV λi j=>.int (i*j)) (oq (AK λi j=>.int (i+j)) (oq (AK λi j=>.int (i+j)) (oq (rI (λ_ j=>0<j) λi j=>.int (i%j)) (dg 2) (tC (.int 2147483629)))
  (oq (rI wV λi j=>.int (i*j)) (oq (rI wV λi j=>.int (i*j)) (tC (.int 104729)) (dg 1)) (dg 1))) (tC (.int 7))) (tC (.int 48271))) (tC (.int 2147483647))) ya)) [x,some (.int k),some (.int c),some (.int l)] H Q:=by
 have h1:(0:Int)<=104729*k:=by omega
 have h2:104729*k<=6597927:=by omega
 refine⟨_,rfl,_,rfl,_,_,rfl,rfl,(by show(0:Int)<2147483629;decide),_,rfl,_,_,rfl,rfl,.inl ⟨by decide,by decide⟩,_,rfl,_,_,rfl,rfl,.inl ⟨by omega,by omega⟩,_,_,rfl,rfl,_,_,rfl,rfl,_,_,rfl,rfl,.inr ⟨by decide,by decide⟩,_,_,rfl,rfl,(by show(0:Int)<2147483647;decide),jJ,λp hp=>?_⟩;exact q p _ _ hp (rQ _ (by decide)) (DJ _ (by decide))
theorem lA:Eb ["_law_script","_law_k","_law_cell","_law_left"] AQ (au C5):=dX (by decide +kernel)
theorem ab6 (F:FY K "_law_room" "_law_room" C5 f fd)(hlen:mg "len"=none):xk P w K mg base (cI P w) 1 f fd AQ (AF K):=by
 refine F.okN lA (λvs H Q E h=>?_) (λJi A outer s H vs Q E hr h=>?_)
 ·obtain⟨a,ns,k,rfl,_⟩:=h;rfl
 ·obtain⟨a,ns,k,rfl,hS,hn,Nh,PJ,q⟩:=h
  refine⟨_,ar (aY (i:=2) lA.nd rfl (Or.inl rfl) aq)
   (ar (bo (aS iJ (pv 1) (aK cb (by rfl) hlen pF (c6 (pv 0) ai)) (aM _))
    (az (aY (i:=2) lA.nd rfl (Or.inl rfl) (bf cq (pv 0) (pv 1) (λ_ _=>rfl)))) aI)
   (ar (aY (i:=3) lA.nd rfl (Or.inl rfl) aq)
   (ar (bo (aS Dz (pv 2) (aH ju aq aq) (aM _)) (az (aY (i:=3) lA.nd rfl (Or.inl rfl) (pv 2))) aI)
   (az (aG (cM (c6 (pv 3) (c6
    (aH da (aH dM (aH dD (aH dD (aH da (pv 2) aq) (aH dM (aH dM aq (pv 1)) (pv 1))) aq) aq) aq) ai)))))))),?_⟩
  refine⟨_,rfl,_,rfl,a,_,rfl,.inl hS,_,_,rfl,rfl,_,rfl,?_⟩;refine cX (λh=>?_) (λh=>?_)
  ·have Jk:k.toNat<ns.length:=by
    have h1:=mZ h;rw[EZ] at h1;omega
   obtain⟨c,hc⟩:∃c,qX (ns.map V.int) k=some (V.int c):=by
    refine⟨ns[k.toNat],?_⟩
    have e:((k.toNat:Nat):Int)=k:=by omega
    have z:=pN (xs:=ns.map V.int) (j:=k.toNat) (v:=V.int ns[k.toNat]) (by rw[CR];simp[Jk]);rw[e] at z;exact z
   refine⟨_,rfl,_,rfl,a,_,k,_,rfl,rfl,hS,hc,?_⟩;refine⟨_,rfl,_,_,rfl,rfl,⟨by decide,by decide,by decide⟩,_,_,rfl,rfl,_,rfl,?_⟩;refine cX (λh2=>?_) (λh2=>?_)
   ·exact⟨_,rfl,iR Nh PJ q⟩
   ·exact iR Nh PJ q
  ·refine⟨_,rfl,_,_,rfl,rfl,⟨by decide,by decide,by decide⟩,_,_,rfl,rfl,_,rfl,?_⟩;refine cX (λh2=>?_) (λh2=>?_)
   ·exact⟨_,rfl,iR Nh PJ q⟩
   ·exact iR Nh PJ q
theorem oV:Eb ["_law_room_here","_law_many","_law_found"] Ge (au Dg):=dX (by decide +kernel)
theorem ack (F:FY K "_law_take" "_law_take" Dg f fd):xk P w K mg base (cI P w) 1 f fd Ge yT:=by
 refine F.okN oV (λvs H Q E h=>?_) (λJi A outer s H vs Q E hr h=>?_)
 ·obtain⟨p,l,r,m,rfl,_⟩:=h;rfl
 ·obtain⟨p,l,r,m,rfl,hp,TH,Jp,OH,hm1,q⟩:=h
  refine⟨_,ar (bo (aS zv (bf cq (pv 0) aq (λ_ _=>rfl)) aq (aM _))
   (ar (aY (i:=2) oV.nd rfl (Or.inl rfl) (aH da (bf cq (pv 0) aq (λ_ _=>rfl)) (pv 1)))
   (ar (gr (aH fM (bf cq (pv 0) aq (λ_ _=>rfl)) (pv 1)) (pY (pv 0) aq iM))
   (az (aG (pv 2))))) aI)
   (ar (gr (aH da (aH dD (aH dM (bf cq (pv 0) aq (λ_ _=>rfl)) aq) aq) aq) (pY (pv 0) aq iM))
   (ar (aY (i:=2) oV.nd rfl (Or.inl rfl) (aH aaM (aH da (aH dM (bf cq (pv 0) aq (λ_ _=>rfl)) (bf cq (pv 0) aq (λ_ _=>rfl))) aq) aq))
   (ar (bo (aS zv (pv 1) (aH ju aq aq) (aM _))
    (ar (gr (aH da (aH dD (aH dM (bf cq (pv 0) aq (λ_ _=>rfl)) aq) aq) aq) (pY (pv 0) aq iM))
    (az (aY (i:=2) oV.nd rfl (Or.inl rfl) (aH dD (aH dM (pv 2) aq) (aH da (aH dM (bf cq (pv 0) aq (λ_ _=>rfl)) (bf cq (pv 0) aq (λ_ _=>rfl))) aq))))) aI)
   (az (aG (aH da (pv 2) (pv 1))))))),?_⟩
  have i0:∀x y:V,qX [x,y] 0=some x:=λ_ _=>rfl;have i1:∀x y:V,qX [x,y] 1=some y:=λ_ _=>rfl;have n0:xI [V.int l,V.int r].length 0=some 0:=rfl;have n1:∀x y:V,xI [x,y].length 1=some 1:=λ_ _=>rfl;refine⟨_,rfl,p,_,0,_,rfl,rfl,a8.of hp,i0 _ _,_,_,rfl,rfl,_,rfl,?_⟩;refine cX (λh=>?_) (λh=>?_)
  ·refine⟨_,rfl,p,_,0,_,rfl,rfl,a8.of hp,i0 _ _,_,rfl,_,_,rfl,rfl,OH,?_⟩;refine⟨_,rfl,p,_,0,_,rfl,rfl,a8.of hp,i0 _ _,_,rfl,_,_,rfl,rfl,⟨by omega,(show B 64 m from(by show m.natAbs<2^64;omega)).mono (by decide)⟩,_,rfl,p,_,0,0,rfl,rfl,hp,n0,?_⟩;exact⟨_,rfl,q _ _ _ (rQ _ (by omega)) (DJ _ OH) TH Jp⟩
  ·have e1:∀t:Int,0<=t%2147483647/\t%2147483647<2147483647:=λt=>⟨rQ _ (by decide),DJ _ (by decide)⟩;refine⟨_,rfl,p,_,1,_,rfl,rfl,a8.of hp,i1 _ _,_,_,rfl,rfl,.inl ⟨by omega,by omega⟩,_,_,rfl,rfl,_,_,rfl,rfl,(by show(0:Int)<2147483647;decide),_,rfl,p,_,1,1,rfl,rfl,hp,n1 _ _,?_⟩;refine⟨_,rfl,p,_,1,_,rfl,rfl,a8.of aj,i1 _ _,_,rfl,p,_,1,_,rfl,rfl,a8.of aj,i1 _ _,_,_,rfl,rfl,.inl ⟨by omega,by omega⟩,_,_,rfl,rfl,(by show(0:Int)<2147483629;decide),_,_,rfl,rfl,⟨by decide,by decide⟩,?_⟩;refine⟨_,rfl,_,_,rfl,rfl,⟨by decide,by decide,by decide⟩,_,_,rfl,rfl,_,rfl,?_⟩;refine cX (λh2=>?_) (λh2=>?_)
   ·refine⟨_,rfl,p,_,1,_,rfl,rfl,a8.of aj,i1 _ _,_,_,rfl,rfl,.inl ⟨by omega,by omega⟩,_,_,rfl,rfl,_,_,rfl,rfl,(by show(0:Int)<2147483647;decide),_,rfl,p,_,1,1,rfl,rfl,aj,n1 _ _,?_⟩;rw[vi];refine⟨_,rfl,_,_,rfl,rfl,.inr ⟨by decide,by decide⟩,_,rfl,p,_,1,_,rfl,rfl,a8.of aj,i1 _ _,_,rfl,p,_,1,_,rfl,rfl,a8.of aj,i1 _ _,_,_,rfl,rfl,.inl ⟨by omega,by omega⟩,_,_,rfl,rfl,(by show(0:Int)<2147483587;decide),_,_,rfl,rfl,?_⟩;exact⟨_,rfl,_,rfl,_,_,rfl,rfl,OH,q _ _ _ (rQ _ (by omega)) (DJ _ OH) (e1 _).1 (e1 _).2⟩
   ·exact⟨_,rfl,_,rfl,_,_,rfl,rfl,OH,q _ _ _ (rQ _ (by omega)) (DJ _ OH) (e1 _).1 (e1 _).2⟩
noncomputable def He (H:Hp)(Q:VK)(t b:Int):Prop:=∀(H':Hp)(a:Addr),aE H H'->H' a=some (bY t b)->Q (.ref a) H'
theorem He.of {H':Hp}{t:Int}(q:He H Q t b)(S:aE H H'):∀a,H' a=none->Q (.ref a) (upd H' a (bY t b)):=λa ha=>q _ a (S.trans (av ha)) aj
noncomputable def Gk:Sp:=λvs H Q _=>∃t b:Int,vs=[.int t,.int b]/\b≠0/\B 9000 b/\B 9000 t/\He H Q (dA t b) (cO t b)
noncomputable def E8:Sp:=λvs H Q _=>∃p t b:Int,vs=[.int p,.int t,.int b]/\FP p/\b≠0/\B 9000 b/\B 9000 t/\(p≠0->b=1)/\He H Q (c9 p t b) (dw p t b)
noncomputable def my (g:Int->Int->Int->Int->Int):Sp:=λvs H Q _=>∃(p t1 b1 t2 b2:Int)(a1 a2:Addr),vs=[.int p,.ref a1,.ref a2]/\FP p/\H a1=some (bY t1 b1)/\H a2=some (bY t2 b2)/\B 4000 t1/\B 4000 b1/\B 4000 t2/\B 4000 b2/\b1≠0/\b2≠0/\(p≠0->b1*b2=1) /\
 He H Q (c9 p (g t1 b1 t2 b2) (b1*b2)) (dw p (g t1 b1 t2 b2) (b1*b2))
noncomputable abbrev acm:List Str:=["_law_top","_law_bottom","_law_one","_law_other","_law_sign"]
theorem lX:Eb acm r6 (au Dh):=dX (by decide +kernel)
theorem Df (c:Int):(if c<0 then -c else c)=ab c:=rfl
theorem acr (F:FY K "_law_lowest" "_law_lowest" Dh f fd)(mA:mg "abs"=none)(mI:mg "int"=none):xk P w K mg base (cI P w) 1 f fd r6 Gk:=by
 refine F.okN lX (λvs H Q E h=>?_) (λJi A outer s H vs Q E hr h=>?_)
 ·obtain⟨a,b,rfl,_⟩:=h;rfl
 ·obtain⟨t,b,rfl,hb,hB,hT,q⟩:=h
  refine⟨_,ar (aY (i:=2) lX.nd rfl (Or.inl rfl) (aK iS (by rfl) mA (by rfl) (ao (pv 0) ai)))
   (ar (aY (i:=3) lX.nd rfl (Or.inl rfl) (aK iS (by rfl) mA (by rfl) (ao (pv 1) ai)))
   (ar (ma E5 (aS nN (pv 3) aq (aM _)) (az (jd (i:=2) (j:=3) rfl lX.nd rfl rfl (by decide) rfl rfl (ao (pv 3) (ao (aH wa (pv 2) (pv 3)) ai)) rfl)))
   (ar (aY (i:=4) lX.nd rfl (Or.inl rfl) (bf cq (cM (ao aq (ao (yZ tJ aq) ai))) (eA afM (by rfl) mI (by rfl) (ao (cN iJ (pv 1) aq (aM _)) ai)) (λ_ _=>rfl)))
   (az (aG (bF (ao (aH fM (aH dM (pv 4) (pv 0)) (pv 2)) (ao (aH fM (aK iS (by rfl) mA (by rfl) (ao (pv 1) ai)) (pv 2)) ai)))))))),?_⟩
  refine⟨_,rfl,t,rfl,_,rfl,b,rfl,?_⟩;rw[Df,Df];refine⟨λm σ H'=>∃c d:Int,σ=[some (.int t),some (.int b),some (.int c),some (.int d),none]/\H'=H/\m=d.natAbs/\Int.gcd c d=Int.gcd t b/\0<=c/\0<=d,⟨_,ab t,ab b,rfl,rfl,rfl,ab1 t b,by rw[ko];omega,by rw[ko];omega⟩,?_⟩;rintro m σ H' ⟨c,d,rfl,rfl,rfl,hg,hc0,TC⟩;refine⟨_,rfl,rfl,_,rfl,?_⟩;refine cX (λh=>?_) (λh=>?_)
  ·have hd:d≠0:=by simpa using h
   refine⟨λσ' Ms=>∃c' d':Int,σ'=[some (.int t),some (.int b),some (.int c'),some (.int d'),none]/\Ms=H'/\d'.natAbs<d.natAbs/\Int.gcd c' d'=Int.gcd t b/\0<=c'/\0<=d',λσ' Ms ⟨c',d',e1,e2,e3,e4,e5,e6⟩=>⟨_,e3,c',d',e1,e2,rfl,e4,e5,e6⟩,?_⟩;refine⟨_,rfl,_,rfl,_,rfl,_,_,rfl,rfl,hd,_,_,rfl,d,c.fmod d,rfl,rfl,uP c d hd,by rw[kM,hg],TC,zR c (by omega)⟩
  ·have hd:d=0:=by simpa using h
   subst hd
   have eg:c=di t b:=by
    unfold di;rw[<-hg];simp;omega
   have gp:=fF (t:=t) hb;have Yl:B 9000 (di t b):=hB.le (ab9 hb);subst eg;refine⟨_,rfl,jJ,λz hz=>?_⟩;have S:=av (o:=.lst [V.int 1,V.int (-1)]) hz;refine⟨_,rfl,_,_,rfl,rfl,.inr ⟨_,rfl,?_⟩⟩
   have JF:qX [V.int 1,V.int (-1)] (if decide (b<0)=true then 1 else 0)=some (.int (sg b)):=by
    unfold sg
    by_cases Nr:b<0
    ·simp[Nr];rfl
    ·simp[Nr];rfl
   refine⟨z,_,_,_,rfl,rfl,a8.of aj,JF,?_⟩
   have sg1:-1<=sg b/\sg b<=1:=by unfold sg;split <;> decide
   refine⟨_,rfl,_,rfl,_,_,rfl,rfl,.inl ⟨by omega,by omega⟩,_,rfl,_,_,rfl,rfl,⟨by omega,Yl⟩,_,rfl,b,rfl,_,rfl,_,_,rfl,rfl,⟨by omega,Yl⟩,jJ,λa ha=>?_⟩;have y:=q.of S a ha;rw[<-af1 (t:=t) hb,<-abJ (t:=t) hb] at y;exact y
theorem acs:Eb sC sC (au Dc):=dX (by decide +kernel)
theorem acx (F:FY K "_law_make" "_law_make" Dc f fd)(q0:Ca P w K mg base 1 r6 "_law_lowest" Gk):
 xk P w K mg base (cI P w) 2 f fd sC E8:=by
 obtain⟨fl,Mt,FL,bL,mL,kL⟩:=q0;refine F.okN acs (λvs H Q E h=>?_) (λJi A outer s H vs Q E hr h=>?_)
 ·obtain⟨p,t,b,rfl,_⟩:=h;rfl
 ·obtain⟨p,t,b,rfl,hp,hb,hB,hT,h1,q⟩:=h
  refine⟨_,ar (bo (aS dU (pv 0) aq (aM _)) (az (aG (aD FL hr (by rfl) mL kL bL .nil ae (ao (pv 1) (ao (pv 2) ai))))) aI)
   (ar (bo (aS nN (aH da (pv 2) (pv 0)) aq (aM _)) afA aI)
   (az (aG (bF (ao (aH da (pv 1) (pv 0)) (ao aq ai)))))),?_⟩
  refine⟨_,rfl,rfl,_,rfl,?_⟩;refine cX (λh=>?_) (λh=>?_)
  ·have JC:p=0:=by simpa using h
   unfold c9 dw at q;rw[qk JC,qk JC] at q;exact⟨_,rfl,_,rfl,t,b,rfl,hb,hB,hT,q⟩
  ·have JC:p≠0:=by simpa using h
   obtain⟨PH,p2,OG⟩:=hp.two JC;have TJ:=h1 JC;subst TJ;refine⟨_,rfl,_,rfl,_,_,rfl,rfl,(by show(0:Int)<p;omega),rfl,_,rfl,?_⟩;have e1:(1:Int)%p=1:=yd (by decide) (by omega);refine cX (λh=>absurd h (by simp[e1])) (λ_=>?_);unfold c9 dw at q;rw[IX JC,IX JC] at q;exact⟨_,rfl,_,rfl,_,_,rfl,rfl,(by show(0:Int)<p;omega),jJ,q.of (aE.refl _)⟩
theorem acy:Eb Ay Ay (au zW):=dX (by decide +kernel)
theorem acA (F:FY K "_law_plus" "_law_plus" zW f fd)(q0:Ca P w K mg base 2 sC "_law_make" E8):
 xk P w K mg base (cI P w) 3 f fd Ay (my jE):=by
 obtain⟨fl,Mt,FL,bL,mL,kL⟩:=q0;refine F.okN acy (λvs H Q E h=>?_) (λJi A outer s H vs Q E hr h=>?_)
 ·obtain⟨p,t1,b1,t2,b2,x1,x2,rfl,_⟩:=h;rfl
 ·obtain⟨p,t1,b1,t2,b2,x1,x2,rfl,hp,h1,h2,B1,B2,B3,B4,n1,n2,hb,q⟩:=h;refine⟨_,az (aG (aD FL hr (by rfl) mL kL bL .nil ae (ao (pv 0) (ao (aH dD (aH dN (bf bH (pv 1) aq (λ_ _=>rfl)) (bf bH (pv 2) aq (λ_ _=>rfl))) (aH dN (bf bH (pv 2) aq (λ_ _=>rfl)) (bf bH (pv 1) aq (λ_ _=>rfl)))) (ao (aH dN (bf bH (pv 1) aq (λ_ _=>rfl)) (bf bH (pv 2) aq (λ_ _=>rfl))) ai))))),?_⟩;refine⟨_,rfl,?_⟩;refine⟨_,rfl,x1,_,0,_,rfl,rfl,bq.of h1,a0 _ _,_,rfl,x2,_,1,_,rfl,rfl,bq.of h2,a1 _ _,_,_,rfl,rfl,⟨B1.mono (by decide),B4.mono (by decide)⟩,?_⟩;refine⟨_,rfl,x2,_,0,_,rfl,rfl,bq.of h2,a0 _ _,_,rfl,x1,_,1,_,rfl,rfl,bq.of h1,a1 _ _,_,_,rfl,rfl,⟨B3.mono (by decide),B2.mono (by decide)⟩,_,_,rfl,rfl,?_⟩;refine⟨_,rfl,x1,_,1,_,rfl,rfl,bq.of h1,a1 _ _,_,rfl,x2,_,1,_,rfl,rfl,bq.of h2,a1 _ _,_,_,rfl,rfl,⟨B2.mono (by decide),B4.mono (by decide)⟩,?_⟩;exact⟨p,_,_,rfl,hp,p9 n1 n2,(B2.mul B4).mono (by decide),((B1.mul B4).add (B3.mul B2)).mono (by decide),hb,q⟩
noncomputable abbrev zN:Stmt:=(ba 48)
noncomputable abbrev vk:Stmt:=(ba 49)
noncomputable def bg (H:Hp)(r:Addr):Prop:=∃l x:Int,H r=some (.lst [.int l,.int x])/\0<=x/\x<2147483647
noncomputable def SameBut (r:Addr)(H H':Hp):Prop:=∀b o,H b=some o->b≠r->H' b=some o
theorem SameBut.trans {r:Addr}{H1 H2:Hp}(a:SameBut r H H1)(b:SameBut r H1 H2):SameBut r H H2:=λc o e n=>b c o (a c o e n) n
theorem SameBut.of {r:Addr}{H1:Hp}(a:aE H H1):SameBut r H H1:=λc o e _=>a c o e
theorem SameBut.upd {r:Addr}{o:HO}:SameBut r H (upd H r o):=λb u e n=>by rw[aA n];exact e
noncomputable def Ci:Sp:=λvs H Q _=>∃r:Addr,vs=[.ref r]/\bg H r/\∀(p:Int)(H':Hp),FP p->bg H' r->SameBut r H H'->Q (.int p) H'
noncomputable def DK:Sp:=λvs H Q _=>∃(r:Addr)(p:Int),vs=[.ref r,.int p]/\FP p/\bg H r/\∀(a:Addr)(t b:Int)(H':Hp),Num p t b->B 45 t->B 45 b->H' a=some (bY t b)->bg H' r->SameBut r H H'->Q (.ref a) H'
theorem acD {a:Addr}{t:Int}(h:H a=some (bY t b)):aQ K H (.tup [.int t,.int b]) (.ref a):=by
 unfold aQ;refine⟨a,_,rfl,bq.of h,?_⟩;unfold bz;refine⟨_,_,rfl,by unfold aQ;rfl,?_⟩;unfold bz;refine⟨_,_,rfl,by unfold aQ;rfl,?_⟩;unfold bz;rfl
theorem acG (t b:Int):jz (.tup [.int t,.int b])=1:=by simp[jz,fK]
theorem jX {xs:List Int}{w:Int}(h0:0<=w)(h1:w<xs.length):∃x∈xs,qX (xs.map V.int) w=some (.int x):=by
 have hl:w.toNat<xs.length:=by omega
 refine⟨xs[w.toNat],BK hl,?_⟩;have z:=pN (xs:=xs.map V.int) (j:=w.toNat) (v:=V.int xs[w.toNat]) (by rw[CR];simp[hl])
 have e:((w.toNat:Nat):Int)=w:=by omega
 rw[e] at z;exact z
theorem mr:Eb ["_law_room_here","_law_at","_law_some"] ["_law_room_here"] (au zN):=dX (by decide +kernel)
set_option maxHeartbeats 1000000 in
theorem acH (F:FY K "_law_prime" "_law_prime" zN f fd)(q0:Ca P w K mg base 1 Ge "_law_take" yT):
 xk P w K mg base (cI P w) 2 f fd ["_law_room_here"] Ci:=by
 obtain⟨ft,Nt,FT,bT,mT,kT⟩:=q0;refine F.okN mr (λvs H Q E h=>?_) (λJi A outer s H vs Q E hr h=>?_)
 ·obtain⟨r,rfl,_⟩:=h;rfl
 ·obtain⟨r,rfl,⟨l,x,hR,x0,x1⟩,q⟩:=h
  refine⟨_,ar (aY (i:=1) mr.nd rfl (Or.inl rfl) (aD FT hr (by rfl) mT kT bT .nil ae (ao (pv 0) (ao aq ai))))
   (ar (bo (aS dU (pv 1) aq (aM _))
    (@ar _ _ _ _ _ (@aY _ _ 2 _ _ _ _ mr.nd rfl (Or.inl rfl) (@p6 _ _ _ [11,13,17,19,23,29,31,37,41,43,47,53,59,61,67,71,73,79,83,89] rfl (by decide)) rfl (Or.inl rfl))
    (az (aG (bf cq (pv 2) (aD FT hr (by rfl) mT kT bT .nil ae (ao (pv 0) (ao aq ai))) (λ_ _=>rfl))))) aI)
   (@az _ _ _ (@aG _ _ _ _ (bf cq (@p6 _ _ _ [0,0,2,3,5,7,97,0] rfl (by decide)) (pv 1) (λ_ _=>rfl))))),?_⟩
  refine⟨_,rfl,r,l,x,9,rfl,hR,x0,x1,by decide,by decide,λz l2 r2 z0 z1 g0 g1=>?_⟩;refine⟨_,rfl,rfl,_,rfl,?_⟩;have Nu:(upd H r (.lst [.int l2,.int r2])) r=some (.lst [.int l2,.int r2]):=aj;have S2:SameBut r H (upd H r (.lst [.int l2,.int r2])):=SameBut.upd;generalize (upd H r (.lst [.int l2,.int r2]))=H2 at Nu S2 |-;refine cX (λh=>?_) (λh=>?_)
  ·refine λm hm=>?_;have S3:=av (o:=.lst ([11,13,17,19,23,29,31,37,41,43,47,53,59,61,67,71,73,79,83,89].map V.int)) hm;have em:(upd H2 m (.lst ([11,13,17,19,23,29,31,37,41,43,47,53,59,61,67,71,73,79,83,89].map V.int))) m=some (.lst ([11,13,17,19,23,29,31,37,41,43,47,53,59,61,67,71,73,79,83,89].map V.int)):=aj;have Mu:=S3 _ _ Nu;refine⟨_,rfl,_,rfl,r,l2,r2,20,rfl,Mu,g0,g1,by decide,by decide,λz' l3 r3 z0' z1' g0' PL=>?_⟩;obtain⟨y,hy,JF⟩:=jX (xs:=[11,13,17,19,23,29,31,37,41,43,47,53,59,61,67,71,73,79,83,89]) z0' z1';have nm:m≠r:=nO em Mu (by intro z;cases z);refine⟨m,_,z',_,rfl,rfl,a8.of (by rw[aA nm];exact em),JF,?_⟩
   have all:∀y∈([11,13,17,19,23,29,31,37,41,43,47,53,59,61,67,71,73,79,83,89]:List Int),y∈Ik:=by decide
   exact q y _ (.inr (all y hy)) ⟨l3,r3,aj,g0',PL⟩ ((S2.trans (SameBut.of S3)).trans SameBut.upd)
  ·have hz:z<8:=by
    have:z≠8:=by simpa using h
    omega
   refine λm hm=>?_;have S3:=av (o:=.lst ([0,0,2,3,5,7,97,0].map V.int)) hm;have em:(upd H2 m (.lst ([0,0,2,3,5,7,97,0].map V.int))) m=some (.lst ([0,0,2,3,5,7,97,0].map V.int)):=aj;obtain⟨y,hy,JF⟩:=jX (xs:=[0,0,2,3,5,7,97,0]) z0 hz;refine⟨_,rfl,m,_,z,_,rfl,rfl,a8.of em,JF,?_⟩
   have all:∀y∈([0,0,2,3,5,7,97,0]:List Int),y=0\/y∈Ik:=by decide
   exact q y _ (all y hy) ⟨l2,r2,S3 _ _ Nu,g0,g1⟩ (S2.trans (SameBut.of S3))
theorem acJ:Eb EE EE (au vk):=dX (by decide +kernel)
theorem uL {H H2:Hp}{r:Addr}{t:Int}(q:∀(a:Addr)(t b:Int)(H':Hp),Num 0 t b->B 45 t->B 45 b->H' a=some (bY t b)->bg H' r->SameBut r H H'->Q (.ref a) H')(hb:0<b)(hB:B 45 b)(hT:B 45 t)(hR:bg H2 r)(S:SameBut r H H2):Gk [.int t,.int b] H2 Q λ_ _ _=>False:=by
 have Nr:b≠0:=by omega
 refine⟨t,b,rfl,Nr,hB.mono (by decide),hT.mono (by decide),λH' a S' e=>?_⟩;refine q a _ _ H' (Num.low Nr) (hT.le (vg Nr)) (hB.le (wm Nr)) e ?_ (S.trans (SameBut.of S'));obtain⟨l,x,h,z⟩:=hR;exact⟨l,x,S' _ _ h,z⟩
set_option maxHeartbeats 1000000 in
theorem acW (F:FY K "_law_number" "_law_number" vk f fd)(q0:Ca P w K mg base 1 Ge "_law_take" yT)
 (q1:Ca P w K mg base 1 r6 "_law_lowest" Gk):
 xk P w K mg base (cI P w) 2 f fd EE DK:=by
 obtain⟨ft,Nt,FT,bT,mT,kT⟩:=q0;obtain⟨fl,Mt,FL,bL,mL,kL⟩:=q1;refine F.okN acJ (λvs H Q E h=>?_) (λJi A outer s H vs Q E hr h=>?_)
 ·obtain⟨r,p,rfl,_⟩:=h;rfl
 ·obtain⟨r,p,rfl,hp,⟨l,x,hR,x0,x1⟩,q⟩:=h
  refine⟨_,ar (bo (aS zv (pv 1) aq (aM _)) (az (aG (bF (ao (aD FT hr (by rfl) mT kT bT .nil ae (ao (pv 0) (ao (pv 1) ai))) (ao aq ai))))) aI)
   (ar (bo (aS dU (aD FT hr (by rfl) mT kT bT .nil ae (ao (pv 0) (ao aq ai))) aq (aM _))
    (az (aG (aD FL hr (by rfl) mL kL bL .nil ae
     (ao (aH lK (aD FT hr (by rfl) mT kT bT .nil ae (ao (pv 0) (ao (aH dM aq (aH ju aq aq)) ai rfl))) (aH ju aq aq))
     (ao (bf cq (cM (ao aq (ao aq (ao (aH ju aq aq) (ao (aH dD (aH ju aq aq) aq) ai rfl) rfl) rfl) rfl))
      (aD FT hr (by rfl) mT kT bT .nil ae (ao (pv 0) (ao aq ai))) (λ_ _=>rfl)) ai rfl))))) aI)
   (az (aG (aD FL hr (by rfl) mL kL bL .nil ae
    (ao (aH lK (aD FT hr (by rfl) mT kT bT .nil ae (ao (pv 0) (ao aq ai))) aq)
    (ao (bf cq (@p6 _ _ _ [1,1,2,3] rfl (by decide)) (aD FT hr (by rfl) mT kT bT .nil ae (ao (pv 0) (ao aq ai))) (λ_ _=>rfl)) ai rfl)))))),?_⟩
  refine⟨_,rfl,_,_,rfl,rfl,_,rfl,?_⟩;refine cX (λh=>?_) (λh=>?_)
  ·have JC:0<p:=by simpa using h
   obtain⟨_,p2,OG⟩:=hp.two (by omega);refine⟨_,rfl,_,rfl,r,l,x,p,rfl,hR,x0,x1,JC,by omega,λz l2 r2 z0 z1 g0 g1=>?_⟩;refine⟨jJ,λa ha=>?_⟩;have S:=av (o:=bY z 1) ha;refine q a z 1 _ (Num.ofP z0 z1) ?_ (by show(1:Int).natAbs<2^45;decide) aj ⟨l2,r2,S _ _ aj,g0,g1⟩ (SameBut.upd.trans (SameBut.of S));show z.natAbs<2^45;omega
  ·have JC:p=0:=by
    have:=hp.nn
    have h':¬0<p:=by simpa using h
    omega
   subst JC;refine⟨_,rfl,r,l,x,8,rfl,hR,x0,x1,by decide,by decide,λz l2 r2 z0 z1 g0 g1=>⟨rfl,_,rfl,?_⟩⟩;have Nu:(upd H r (.lst [.int l2,.int r2])) r=some (.lst [.int l2,.int r2]):=aj;have S2:SameBut r H (upd H r (.lst [.int l2,.int r2])):=SameBut.upd;generalize (upd H r (.lst [.int l2,.int r2]))=H2 at Nu S2 |-;refine cX (λh=>?_) (λh=>?_)
   ·refine⟨_,rfl,_,_,rfl,rfl,⟨by decide,by decide,by decide⟩,_,_,rfl,rfl,.inl ⟨by decide,by decide⟩,r,l2,r2,_,rfl,Nu,g0,g1,by decide,by decide,λy l3 r3 y0 y1 k0 k1=>?_⟩;refine⟨_,_,rfl,rfl,⟨by decide,by decide,by decide⟩,_,_,rfl,rfl,?_⟩;refine⟨_,_,rfl,rfl,⟨by decide,by decide,by decide⟩,_,_,rfl,rfl,⟨by decide,by decide,by decide⟩,_,_,rfl,rfl,aac,λm hm=>?_⟩;have S3:SameBut r H2 (upd H2 r (.lst [.int l3,.int r3])):=SameBut.upd;have Mu:(upd H2 r (.lst [.int l3,.int r3])) r=some (.lst [.int l3,.int r3]):=aj;generalize (upd H2 r (.lst [.int l3,.int r3]))=H3 at hm S3 Mu |-;have S4:=av (o:=.lst ([1,7,10^(6:Int).toNat,10^(12:Int).toNat+39].map V.int)) hm;have em:(upd H3 m (.lst ([1,7,10^(6:Int).toNat,10^(12:Int).toNat+39].map V.int))) m=some (.lst ([1,7,10^(6:Int).toNat,10^(12:Int).toNat+39].map V.int)):=aj;have PM:=S4 _ _ Mu;refine⟨_,rfl,r,l3,r3,4,rfl,PM,k0,k1,by decide,by decide,λv l4 r4 v0 v1 j0 j1=>?_⟩;have nm:m≠r:=nO em PM (by intro z;cases z);obtain⟨b,hb,JF⟩:=jX (xs:=[1,7,10^(6:Int).toNat,10^(12:Int).toNat+39]) v0 v1;refine⟨m,_,v,_,rfl,rfl,a8.of (by rw[aA nm];exact em),JF,?_⟩
    have bb:∀b∈([1,7,10^(6:Int).toNat,10^(12:Int).toNat+39]:List Int),0<b/\b.natAbs<2^45:=by decide
    obtain⟨b0,bB⟩:=bb b hb;refine uL (H:=H) q b0 bB ?_ ⟨l4,r4,aj,j0,j1⟩ (((S2.trans S3).trans (SameBut.of S4)).trans SameBut.upd)
    have e1:(2:Int)*10^(12:Int).toNat=2000000000000:=by decide
    have e2:(10:Int)^(12:Int).toNat=1000000000000:=by decide
    rw[e1] at y1;show(y-10^(12:Int).toNat).natAbs<2^45;rw[e2];omega
   ·refine⟨_,rfl,r,l2,r2,19,rfl,Nu,g0,g1,by decide,by decide,λy l3 r3 y0 y1 k0 k1=>?_⟩;refine⟨_,_,rfl,rfl,λm hm=>?_⟩;have S3:SameBut r H2 (upd H2 r (.lst [.int l3,.int r3])):=SameBut.upd;have Mu:(upd H2 r (.lst [.int l3,.int r3])) r=some (.lst [.int l3,.int r3]):=aj;generalize (upd H2 r (.lst [.int l3,.int r3]))=H3 at hm S3 Mu |-;have S4:=av (o:=.lst ([1,1,2,3].map V.int)) hm;have em:(upd H3 m (.lst ([1,1,2,3].map V.int))) m=some (.lst ([1,1,2,3].map V.int)):=aj;have PM:=S4 _ _ Mu;refine⟨_,rfl,r,l3,r3,4,rfl,PM,k0,k1,by decide,by decide,λv l4 r4 v0 v1 j0 j1=>?_⟩;have nm:m≠r:=nO em PM (by intro z;cases z);obtain⟨b,hb,JF⟩:=jX (xs:=[1,1,2,3]) v0 v1;refine⟨m,_,v,_,rfl,rfl,a8.of (by rw[aA nm];exact em),JF,?_⟩
    have bb:∀b∈([1,1,2,3]:List Int),0<b/\b.natAbs<2^45:=by decide
    obtain⟨b0,bB⟩:=bb b hb;refine uL (H:=H) q b0 bB ?_ ⟨l4,r4,aj,j0,j1⟩ (((S2.trans S3).trans (SameBut.of S4)).trans SameBut.upd);show(y-9).natAbs<2^45;omega
end K09
namespace L2
open PySem PySem.Spec PyProof.Rows PySem.W
end L2
namespace K09
open PySem L2 PySem.W Nm
noncomputable abbrev zi:Stmt:=aU (ba 40) 4
noncomputable abbrev nG:Stmt:=aU (ba 40) 11
variable {H:Hp}{x:V}
theorem Th.same {H':Hp}{T:String}(h:Th H x T)(s:aE H H'):Th H' x T:=by
 cases h with
 |non=>exact .non
 |bl b=>exact .bl b
 |int i=>exact .int i
 |str x=>exact .str x
 |lst e=>exact .lst (s _ _ e)
 |tup e=>exact .tup (s _ _ e)
 |dK e=>exact .dK (s _ _ e)
inductive TX (H:Hp):V->Option (V×V)->Prop where
 |no {x:V}{T:String}:Th H x T->T ≠ "tuple"->TX H x none
 |odd {a:Addr}{xs:List V}:H a=some (.tup xs)->xs.length≠2->TX H (.ref a) none
 |two {a:Addr}{y z:V}{Ty Tz:String}:H a=some (.tup [y,z])->Th H y Ty->Th H z Tz->TX H (.ref a) (some (y,z))
theorem TX.same {H':Hp}{o:Option (V×V)}(h:TX H x o)(s:aE H H'):TX H' x o:=by
 cases h with
 |no th n=>exact .no (th.same s) n
 |odd e n=>exact .odd (s _ _ e) n
 |two e h1 h2=>exact .two (s _ _ e) (h1.same s) (h2.same s)
noncomputable def tw (p:Int):Option (V×V)->Bool
 |some (.int t,.int b)=>if p=0 then decide (1<=b)&&decide (Int.gcd t b=1) else decide (b=1)&&(decide (0<=t)&&decide (t<p))
 |_=>false
theorem Th.isTup {K:Frag}{T:String}(h:Th H x T):kitOne K (.type T) (.type "tuple")=some (decide (T="tuple")):=by cases h <;> rfl
noncomputable def ia (C NN:Addr):Sp:=λvs H Q E=>∃(s dx:Addr)(p:Int)(x y:V)(Tx Ty:String),vs=[.ref s,x,y]/\H s=some (.ins C dx (dS p))/\Th H x Tx/\Th H y Ty/\(∀t b,x=.int t->y=.int b->rZ C NN [.ref s,.int t,.int b] H Q E)/\((dq x&&dq y)=false->E (.ref NN) none H)
noncomputable def ie (C:Addr):Sp:=λvs H Q _=>∃(s dx:Addr)(p:Int)(x:V)(o:Option (V×V)),vs=[.ref s,x]/\H s=some (.ins C dx (dS p))/\FP p/\TX H x o/\Q (.bl (tw p o)) H
variable {P:xq}{w:World}{K:PySem.W.Frag}{mg:Cw}{base:Heap}
theorem acY:Eb xV xV (au zi):=dX (by decide +kernel)
theorem ac5 {f C NN T:Addr}{fd:GS}(F:Et K "made" "Field.made" zi f fd T)(c:Fv K mg C)(mN:mg "NoNumber"=some (.ref NN))(qN:gB K NN um ik=true)
 (q1:Cm P w K mg base 3 xV C "quotient" (rZ C NN))
 (q0:Ca P w K mg base 1 IY "is_whole" uE):xk P w K mg base (cI P w) 4 f fd xV (ia C NN):=by
 obtain⟨fw,PD,FW,bW,mW,kW⟩:=q0;obtain⟨fq,fdq,FQ,bQ,mQ⟩:=q1;refine F.okE acY (λvs H Q E h=>?_) (λJi A outer s H vs Q E hr h=>?_)
 ·obtain⟨s,dx,p,x,y,Tx,Ty,rfl,_⟩:=h;rfl
 ·obtain⟨s,dx,p,x,y,Tx,Ty,rfl,hs,hx,hy,q,qE⟩:=h;have Jp:A1 1 _:=hr.mono (by decide)
  refine⟨_,ar (bo (PW.pt (iP (cz (cB (aD FW Jp (by rfl) mW kW bW .nil ae (ao (pv 1) ai)))) (f9 (cz (cB (aD FW Jp (by rfl) mW kW bW .nil ae (ao (pv 2) ai)))))))
   (az (cU Bi qN rfl cy (by rfl) mN (ao eI ai))) aI)
   (az (aG (aR (E:=E) (pv 0) c.cl mQ FQ hr bQ .nil abz (ao (pv 1) (ao (pv 2) ai))))),?_⟩
  refine⟨_,rfl,x,Tx,rfl,hx,_,rfl,?_⟩
  cases e1:dq x with
  |false=>exact cA (cA ⟨by decide,qE (by rw[e1];rfl)⟩)
  |true =>
   refine cu ⟨_,rfl,y,Ty,rfl,hy,_,rfl,?_⟩
   cases e2:dq y with
   |false=>exact cA ⟨by decide,qE (by rw[e1,e2];rfl)⟩
   |true =>
    have z1:∃t,x=.int t:=by cases x <;> first|exact⟨_,rfl⟩|cases e1
    have z2:∃b,y=.int b:=by cases y <;> first|exact⟨_,rfl⟩|cases e2
    obtain⟨t,rfl⟩:=z1;obtain⟨b,rfl⟩:=z2;exact cu ⟨_,rfl,s,dx,_,rfl,hs,rfl,_,rfl,_,rfl,q t b rfl rfl⟩
theorem iy:Eb ["self","thing","top","bottom"] Bl (au nG):=dX (by decide +kernel)
theorem ac8 {f C:Addr}{fd:GS}{tF:Tok}(F:FY K "is_number" "Field.is_number" nG f fd)(c:Fv K mg C)(mF:mg "FRACTIONS"=some (.int 0 tF))(n:wO mg)(mT:mg "tuple"=none)(mN:mg "len"=none)
 (q0:Ca P w K mg base 1 si "common_divisor" AV)
 (q1:Ca P w K mg base 1 IY "is_whole" uE):xk P w K mg base (cI P w) 2 f fd Bl (ie C):=by
 obtain⟨fg,U3,FG,bG,mG,kG⟩:=q0;obtain⟨fw,PD,FW,bW,mW,kW⟩:=q1;refine F.okN iy (λvs H Q E h=>?_) (λJi A outer s H vs Q E hr h=>?_)
 ·obtain⟨s,dx,p,x,o,rfl,_⟩:=h;rfl
 ·obtain⟨s,dx,p,x,o,rfl,hs,hp,tx,q⟩:=h
  refine⟨_,ar (bo (PW.pt (iP (cz (cB (aK bX (by rfl) n.isi (by rfl) (ao (pv 1) (ao (d7 (by rfl) mT (by rfl) (show aL (.ty "tuple") (.type "tuple") from rfl)) ai)))))
   (f9 (aS nN (aK cb (by rfl) mN pF (ao (pv 1) ai)) aq (aM _))))) (az (aG fJ)) aI)
   (ar (gr (pv 1) (dJ rfl (aO (aF (i:=2) iy.nd rfl (Or.inl rfl)) (aO (aF (i:=3) iy.nd rfl (Or.inl rfl)) cJ))))
   (ar (bo (PW.pt (iP (cz (cB (aD FW hr (by rfl) mW kW bW .nil ae (ao (pv 2) ai)))) (f9 (cz (cB (aD FW hr (by rfl) mW kW bW .nil ae (ao (pv 3) ai))))))) (az (aG fJ)) aI)
   (ar (bo (aS dU (bh (pv 0) rfl) (d3 (by rfl) mF (show aL (.int 0) (.int 0 tF) from⟨_,rfl⟩)) (aM _))
    (az (aG (dH (cN Dz (pv 3) aq (aM _)) (fk (cN dU (aD FG hr (by rfl) mG kG bG .nil ae (ao (pv 2) (ao (pv 3) ai))) aq (aM _)))))) aI)
   (az (aG (dH (cN dU (pv 3) aq (aM _)) (fk (mh vJ iJ aq (pv 2) (bh (pv 0) rfl))))))))),?_⟩
  cases tx with
  |@no x T th ne =>
   refine⟨_,rfl,x,.ty "tuple",_,_,_,rfl,rfl,th.ty,th.isTup,_,rfl,?_⟩;rw[IA ne];exact cA (cA q)
  |@odd a xs ha hl =>
   refine⟨_,rfl,.ref a,.ty "tuple",_,_,_,rfl,rfl,.of (.tup ha),rfl,_,rfl,cu ?_⟩;refine⟨_,rfl,a,_,rfl,.inr (bq.of ha),rfl,_,rfl,?_⟩;refine cX (λ_=>q) (λh=>absurd (by simp;omega) h)
  |@two a y z Ty Tz ha hy hz =>
   refine⟨_,rfl,.ref a,.ty "tuple",_,_,_,rfl,rfl,.of (.tup ha),rfl,_,rfl,cu ?_⟩;refine⟨_,rfl,a,_,rfl,.inr (bq.of ha),rfl,_,rfl,?_⟩;refine cX (λh=>absurd h (by simp)) (λ_=>?_);refine⟨_,rfl,a,_,rfl,bq.of ha,rfl,_,_,rfl,_,_,rfl,rfl,?_⟩;refine⟨_,rfl,y,Ty,rfl,hy,_,rfl,?_⟩
   cases e1:dq y with
   |false =>
    have z1:tw p (some (y,z))=false:=by cases y <;> first|rfl|cases e1
    rw[z1] at q;exact cA (cA q)
   |true =>
    refine cu ⟨_,rfl,z,Tz,rfl,hz,_,rfl,?_⟩
    cases e2:dq z with
    |false =>
     have z1:tw p (some (y,z))=false:=by cases y <;> cases z <;> first|rfl|cases e2
     rw[z1] at q;exact cA q
    |true =>
     have z1:∃t,y=.int t:=by cases y <;> first|exact⟨_,rfl⟩|cases e1
     have z2:∃b,z=.int b:=by cases z <;> first|exact⟨_,rfl⟩|cases e2
     obtain⟨t,rfl⟩:=z1;obtain⟨b,rfl⟩:=z2;refine cu ?_;refine⟨_,rfl,s,C,dx,_,_,rfl,hs,c.cl,c.nP,rfl,rfl,_,rfl,?_⟩;refine cX (λh=>?_) (λh=>?_)
     ·have JC:p=0:=by simpa using h
      have z1:tw p (some (.int t,.int b))=(decide (1<=b)&&decide (Int.gcd t b=1)):=by simp[tw,JC]
      rw[z1] at q;refine⟨_,rfl,_,_,rfl,rfl,_,rfl,?_⟩;refine cX (λh1=>?_) (λh1=>?_)
      ·refine⟨_,rfl,_,rfl,t,b,rfl,rfl,?_⟩
       have e3:decide (V.int (di t b)=V.int 1)=decide (Int.gcd t b=1):=by
        unfold di
        by_cases g:Int.gcd t b=1
        ·simp[g]
        ·have:¬((Int.gcd t b:Nat):Int)=1:=by omega
         simp[g,this]
       have KO:decide (1<=b)=true:=h1;rw[KO,Je,<-e3] at q;exact q
      ·have KO:decide (1<=b)=false:=by simpa using h1
       rw[KO,xt] at q;exact q
     ·have JC:p≠0:=by simpa using h
      have z1:tw p (some (.int t,.int b))=(decide (b=1)&&(decide (0<=t)&&decide (t<p))):=by simp[tw,JC]
      rw[z1] at q;refine⟨_,rfl,rfl,_,rfl,?_⟩;refine cX (λh1=>?_) (λh1=>?_)
      ·have KO:decide (b=1)=true:=by simpa using h1
       rw[KO,Je] at q;refine⟨_,rfl,_,_,rfl,rfl,_,rfl,?_⟩;refine cX (λh2=>?_) (λh2=>?_)
       ·refine⟨_,rfl,s,C,dx,_,_,rfl,hs,c.cl,c.nP,rfl,_,_,rfl,rfl,?_⟩;have Lm:decide (0<=t)=true:=h2;rw[Lm,Je] at q;exact q
       ·have Lm:decide (0<=t)=false:=by simpa using h2
        rw[Lm,xt] at q;exact q
      ·have KO:decide (b=1)=false:=by simpa using h1
       rw[KO,xt] at q;exact q
end K09
namespace L2
open PySem PySem.Spec PyProof.Rows PySem.W
noncomputable def F5:V->Bool->Prop
 | .bl b,c=>c=b
 | .int i,c=>c=(i != 0)
 |_,_=>False
theorem aV {α β:Type}{R:α->β->Prop}:∀{l:List α}{m:List β}{i:Nat}{a:α},Paired R l m->l[i]?=some a->∃b,m[i]?=some b/\R a b
 |[],_,i,a,h,e=>by simp at e
 |x::l,_,i,a,h,e=>by
  cases h with
  |cons h1 h2 =>
   cases i with
   |zero=>simp at e;subst e;exact⟨_,rfl,h1⟩
   |succ i=>simpa using aV h2 (by simpa using e)
theorem lH {α β:Type}{R:α->β->Prop}:∀{l:List α}{m:List β}{i:Nat}{b:β},Paired R l m->m[i]?=some b->∃a,l[i]?=some a/\R a b
 |[],m,i,b,h,e=>by cases h;simp at e
 |x::l,_,i,b,h,e=>by
  cases h with
  |cons h1 h2 =>
   cases i with
   |zero=>simp at e;subst e;exact⟨_,rfl,h1⟩
   |succ i=>simpa using lH h2 (by simpa using e)
section
variable {X:Cx}
theorem adX {A:Around}{Q:Bool->Shared->Prop}{E:AU}{s:pL}{y:V}{c:Bool}{u:Value}(t:F5 y c)(r:aL y u)(h:Q c s):wpAny (model X.prog X.w) A (truthy u) Q E s:=by
 cases y with
 |bl b =>
  cases(show u=Value.bool b from r)
  cases(show c=b from t)
  exact jR h
 |int i =>
  obtain⟨k,rfl⟩:=(show ∃k,u=Value.int i k from r)
  cases(show c=(i != 0) from t)
  exact PyProof.Rows.truthy_int h
 |_=>exact t.elim
theorem fB (hc:X.calm=true):eW X (.builtin "all") (λxs H Q=>∃l ys bs,xs=[.ref l]/\a8 X.K H l ys/\Paired F5 ys bs/\Q (.bl (bs.all id)) H):=by
 intro pins s σ H xs us Q I r h;obtain⟨l,ys,bs,rfl,hl,hp,q⟩:=h;obtain⟨u,rfl,ru⟩:=fG r
 cases(show u=Value.ref l from ru)
 obtain⟨its,rv,pl,hz⟩:=I.list hl
 have Jk:l<s.heap.objs.size:=by obtain⟨o,n,e,_⟩:=pl;exact Ep e
 refine call_all_walk (yf pl.isList ?_)
 refine⟨s.heap.objs.size,[s.heap.objs.size,l],[s.heap.objs.size],its.toArray.size,_,_,λi=>(bs[i]?).getD true,rfl,Walks.list (A:=X.A.in1) (I.ok.hd hc) _ l (IB Jk) its.toArray,
  ⟨⟨_,Fg _ rfl,rfl,rfl⟩,pl.isList.push _⟩,λi v s' Q' E' hP hQ=>?_,λh' tk hk=>?_⟩
 ·have e:its[i]?=some v:=by simpa using hP
  obtain⟨y,ey,ry⟩:=lH rv e;obtain⟨b,eb,tb⟩:=aV hp ey;simp only[eb,Option.getD_some] at hQ;exact adX tb ry hQ
 ·have n:its.toArray.size=bs.length:=by rw[Jc,<-rv.length,hp.length]
  have e:((List.range its.toArray.size).all λi=>(bs[i]?).getD true)=bs.all id:=by rw[n];exact LSm.range_all bs
  rw[e];exact⟨.bl (bs.all id),H,I.kept (t':=tk) (LSm.kept_iter hk),rfl,q⟩
end
section
variable {X:Cx}{pins:List (Addr×Obj)}{σ:St}{H:Hp}{s:pL}{h':Heap}
theorem Inv.ahz (I:Inv X pins σ H s){a:Addr}(hp:s.heap.get? a=none):H a=none:=by
 cases q:H a with
 |none=>rfl
 |some u =>
  obtain⟨ob,e1⟩:=(I.hok a u q).there;rw[hp] at e1
  cases e1
theorem Inv.newObj {a:Addr}{o:HO}{t':Nat}(I:Inv X pins σ H s)(k:∀b u,s.heap.get? b=some u->h'.get? b=some u)(hp:s.heap.get? a=none)(new:bJ X.prog X.w (upd H a o) h' a o):
 Inv X pins σ (upd H a o) {s with heap:=h',toks:=t'}:=by
 have hn:=I.ahz hp
 have nb:∀b u,s.heap.get? b=some u->b≠a:=λb u e z=>by rw[z,hp] at e;cases e
 exact I.un ⟨λb u q _ _ _=>k b u q,λb u q _ _ _=>⟨u.slots,k b u q⟩,λb u q n _=>by rw[aA (nb b u q)];exact n,λb u q _=>⟨u,k b u q⟩,
  λb xs q=>by rw[aA (aB q hn)];exact q,λb u xs q=>by rw[aA (aB q hn)];exact q,λb ps q=>⟨#[],by rw[aA (aB q hn),q];simp⟩⟩ (d9 (I.hok.kept k) hn new)
end
end L2
namespace OI
open PySem PySem.W PyProof.Rows
section
variable {prog:xq}{w:World}{A:Around}{E:AU}{s:pL}{d it:Addr}{es:Array DictEntry}{ep:Nat}{o:Obj}
structure Raw (h:Heap)(d:Addr)(es:Array DictEntry)(ep:Nat):Prop where
 ex:∃o,h.get? d=some o/\o.ExactDict/\o.data=.dict es ep
theorem Raw.ty (r:Raw s.heap d es ep):s.TypeIs (.ref d) "dict":=let⟨o,h,x,_⟩:=r.ex;⟨o,h,x.1⟩
theorem Raw.keep {h h':Heap}(r:Raw h d es ep)(k:∀o,h.get? d=some o->h'.get? d=some o):Raw h' d es ep:=let⟨o,h1,x⟩:=r.ex;⟨o,k o h1,x⟩
theorem Sig {Q:AU}(r:Raw s.heap d es ep)(hd:(d==sysModules)=false)(h:Q (.ref s.heap.objs.size) {s with heap:=s.heap.push {cls:=.type "dict_items",data:=.fields #[.ref d]} }):
 wpAny (model prog w) A (call (.builtin "dict.items") [.ref d]) Q E s:=by
 refine tP F.slot_dict_items r.ty F.entry_dict_items ?_ (F.args_dict_items_1 _);unfold Builtin.«dict.items» Builtin.Dict.noArgs;refine IW (IW (wpAny_notOrdered_dict r.ty (Fc ?_)));show wpAny _ _ (Builtin.Dict.showsAll d>>=_) _ _ s;unfold Builtin.Dict.showsAll;rw[IX (by rw[hd];exact E7)];exact IW (Fc (IW (Bf (Fc ⟨_,rfl,h⟩))))
theorem agG {v:Addr}{Q:AU}(hv:s.heap.IsItemsView v d)(r:Raw s.heap d es ep)
 (hQ:Q (.ref s.heap.objs.size) {s with heap:=s.heap.push {cls:=.type "dict_itemiterator",data:=.fields #[.none,.bool false,.ref d,.int 0 0,.int es.size 0,.int ep 0,.none,.none]} }):wpAny (model prog w) A (pyIter (.ref v)) Q E s:=by
 obtain⟨ov,g1,g2,g3⟩:=id hv;obtain⟨o,h1,h2,h3⟩:=r.ex;refine Fw hv.typeIs F.slot_dict_items_iter (tP F.slot_dict_items_iter hv.typeIs F.entry_dict_items_iter ?_ (F.args_dict_items_iter_1 _));unfold Builtin.«dict_items.__iter__» Builtin.Dict_items.dictOf;refine IW (Fc (IW (IW (zV g1 g3 (x:=.ref d) rfl (Fc (IW ?_))))));unfold Builtin.Dict_items.newIterator;refine IW (yb h1 h3 (IW (wpAny_dictEpoch h1 h3 ?_)));simp only[show Builtin.Dict_items.ownsTuple "dict_itemiterator"=true from by decide,Ij];refine Bf (Fc ⟨_,rfl,"dict_itemiterator",_,⟨_,Fg _ rfl,rfl⟩,Ek.lookup,?_⟩) (by simp only[sizeOk,Builtin.Dict_items.ownedTupleFields,Jc,zr,sR,xP,Fq];omega);simpa[rawInt,Builtin.Dict_items.ownedTupleFields] using hQ
theorem af7 {i:Nat}{ok ov:Value}{Q:Option Value->Shared->Prop}(hit:IsItemIter s.heap it d i es.size ep ok ov)(r:Raw s.heap d es ep)(hi:i<es.size)
 (hQ:∀h',IsItemIterOut h' it d (i+1) es.size ep es[i].key es[i].val s.heap.objs.size->h'.get? s.heap.objs.size=some {cls:=.type "tuple",data:=.seq #[es[i].key,es[i].val]}->h'.objs.size=s.heap.objs.size+1 →
  (∀b o,b≠it->s.heap.get? b=some o->h'.get? b=some o)->Q (some (.ref s.heap.objs.size)) {s with heap:=h'}):wpAny (model prog w) A (pyNext (.ref it)) Q E s:=by
 obtain⟨hp,g,dr,tk,os⟩:=s;obtain⟨o,h1,h2,h3⟩:=r.ex;have hT:Shared.TypeIs ⟨hp,g,dr,tk,os⟩ (.ref it) "dict_itemiterator":=⟨_,hit,rfl⟩;unfold pyNext;refine IW (mX (tE (name:=Str.ofString "__next__") hT Ek (tP Ek hT Gu ?_ (E9 _))));refine IW (Fc (IW (IW ?_)))
 first|refine IW (ET hT (Fc (IW (EJ hit rfl ?_))))|refine IW (Ab hT (Fc (IW (EJ hit rfl ?_))))
 simp only[show Builtin.Dict_items.ownsTuple "dict_itemiterator"=true from by decide,Ij];show wpAny _ _ (if(Value.ref d==Value.none)=true then _ else _) _ _ _;rw[IX (show ¬((Value.ref d==Value.none)=true) from E7)];refine IW (Fc (IW (yb h1 h3 ?_)));rw[IX (by simp)];refine IW (Fc (IW (wpAny_dictEpoch h1 h3 ?_)));rw[IX (by simp)];refine Fc ?_;simp only[show ¬((i:Int)<0) from by omega,wR,Ho,Array.getElem?_eq_getElem hi];refine IW ?_
 first|refine IW (ET hT (Fc (IW (BH hT ?_))))|refine IW (Ab hT (Fc (IW (BH hT ?_))))
 show wpAny _ _ (setField (.ref it) 3 (rawInt ((i:Int)+1))>>=_) _ _ ⟨hp,g,dr,tk,os⟩;refine IW (CB hit (by simp) λk1 e1 (b1:Heap.SameBut it hp k1)=>?_)
 have q1:IsItemIter k1 it d (i+1) es.size ep ok ov:=by
  unfold IsItemIter;rw[show((i+1:Nat):Int)=(i:Int)+1 by omega];simpa[rawInt] using e1
 have t1:Shared.TypeIs ⟨k1,g,dr,tk,os⟩ (.ref it) "dict_itemiterator":=⟨_,q1,rfl⟩;refine IW (BV (IW (BH t1 (IW (BH t1 ?_)))));show wpAny _ _ (Builtin.Dict_items.pairFromOwner (.ref it) 6 es[i].key es[i].val) _ _ ⟨k1,g,dr,tk,os⟩;unfold Builtin.Dict_items.pairFromOwner;refine IW (zG ?_);have q2:IsItemIter (k1.push {cls:=.type "tuple",data:=.seq #[es[i].key,es[i].val]}) it d (i+1) es.size ep ok ov:=Ez _ q1;have z1:k1.objs.size=hp.objs.size:=b1.1;have ne:hp.objs.size≠it:=tU (Ep hit)
 have w2:(k1.push {cls:=.type "tuple",data:=.seq #[es[i].key,es[i].val]}).get? hp.objs.size=some {cls:=.type "tuple",data:=.seq #[es[i].key,es[i].val]}:=by rw[<-z1];exact Fg _ rfl
 have z2:(k1.push {cls:=.type "tuple",data:=.seq #[es[i].key,es[i].val]}).objs.size=hp.objs.size+1:=by rw[B5,z1]
 have p2:∀b o,b≠it->hp.get? b=some o->(k1.push {cls:=.type "tuple",data:=.seq #[es[i].key,es[i].val]}).get? b=some o:=λb o hb e=>Ez _ (b1.extBut b o hb e);show wpAny _ _ (Builtin.Dict_items.ownedTupleIsFree (.ref it)>>=_) _ _ ⟨k1.push {cls:=.type "tuple",data:=.seq #[es[i].key,es[i].val]},g,dr,tk,os⟩;rw[z1];generalize k1.push {cls:=.type "tuple",data:=.seq #[es[i].key,es[i].val]}=k2 at q2 w2 z2 p2 |-;unfold Builtin.Dict_items.ownedTupleIsFree;refine IW (IW (zV q2 rfl (x:=.none) rfl (Fc ?_)));simp only[Ij];refine IW (zV q2 rfl (x:=ok) rfl (IW (zV q2 rfl (x:=ov) rfl (IW (CB q2 (by simp) λk3 e3 (b3:Heap.SameBut it k2 k3)=>?_)))));have q3:IsItemIter k3 it d (i+1) es.size ep es[i].key ov:=e3;refine IW (CB q3 (by simp) λk4 e4 (b4:Heap.SameBut it k3 k4)=>?_);have q4:IsItemIter k4 it d (i+1) es.size ep es[i].key es[i].val:=e4;refine IW (CB q4 (by simp) λk5 e5 (b5:Heap.SameBut it k4 k5)=>?_);have q5:IsItemIterOut k5 it d (i+1) es.size ep es[i].key es[i].val hp.objs.size:=e5;refine IW (CB q5 (by simp) λk6 e6 (b6:Heap.SameBut it k5 k6)=>?_);have q6:IsItemIterOut k6 it d (i+1) es.size ep es[i].key es[i].val hp.objs.size:=e6;have go:∀b o,b≠it->k2.get? b=some o->k6.get? b=some o:=λb o hb e=>b6.extBut b o hb (b5.extBut b o hb (b4.extBut b o hb (b3.extBut b o hb e)));exact IW (BR (Fc (Fc ⟨_,rfl,Fc (hQ k6 q6 (go _ _ ne w2) (by show k6.objs.size=hp.objs.size+1;rw[b6.1,b5.1,b4.1,b3.1,z2]) λb o hb e=>go b o hb (p2 b o hb e))⟩)))
theorem ahI {i:Nat}{ok ov:Value}{Q:Option Value->Shared->Prop}(hh:A.handled=none)(hit:IsItemIter s.heap it d i es.size ep ok ov)(r:Raw s.heap d es ep)(hi:es.size<=i)
 (hQ:∀h',Heap.ExtBut it s.heap h'->Q none {s with heap:=h'}):wpAny (model prog w) A (pyNext (.ref it)) Q E s:=by
 obtain⟨o,h1,h2,h3⟩:=r.ex;have hT:s.TypeIs (.ref it) "dict_itemiterator":=⟨_,hit,rfl⟩;unfold pyNext;refine IW (mX (tE (name:=Str.ofString "__next__") hT Ek (tP Ek hT Gu ?_ (E9 _))));refine IW (Fc (IW (IW ?_)))
 first|refine IW (ET hT (Fc (IW (EJ hit rfl ?_))))|refine IW (Ab hT (Fc (IW (EJ hit rfl ?_))))
 simp only[show Builtin.Dict_items.ownsTuple "dict_itemiterator"=true from by decide,Ij];show wpAny _ _ (if(Value.ref d==Value.none)=true then _ else _) _ _ _;rw[IX (show ¬((Value.ref d==Value.none)=true) from E7)];refine IW (Fc (IW (yb h1 h3 ?_)));rw[IX (by simp)];refine IW (Fc (IW (wpAny_dictEpoch h1 h3 ?_)));rw[IX (by simp)];refine Fc ?_;simp only[show ¬((i:Int)<0) from by omega,wR,Ho,xR hi];refine IW ?_
 first|refine IW (ET hT (Fc ?_))|refine IW (Ab hT (Fc ?_))
 show wpAny _ _ (setField (.ref it) 2 .none>>=_) _ _ s;refine IW (GO hit rfl (by simp) ?_);show wpAny _ _ (newExc (.type "StopIteration") []>>=_) _ _ _;refine IW ?_;simp only[newExc,newTuple];refine IW (Bf (IW (m:=firstArgMember _ _) (xK (a:=Value.none) (by first|rfl|(simp only[firstArgMember];rfl)) (Bf ?_ (by size_fits)))) (by size_fits));simp only[raiseNew];refine IW (wpAny_handled ?_);rw[show A.in1.handled=none from hh];refine IW (Fc (wpAny_throw ?_));refine IW (A2 (T:="StopIteration") (b:=true) ⟨_,Fg _ rfl,rfl⟩ EW ?_);exact Fc (hQ _ (((Bn ..).extBut.push _).push _))
end
end OI
namespace L2
open PySem PySem.Spec PyProof.Rows PySem.W
noncomputable abbrev xw (o:Obj)(Jf:List (List Key×V)):HO:=.frz o (.dT Jf)
noncomputable def HS (d:Addr)(o:Obj)(Jf:List (List Key×V)):It :=
 ⟨λi H=>i<Jf.length/\H d=some (xw o Jf),λi H x H'=>∃p b k v,Jf[i]?=some (k,v)/\H p=none/\H b=some (.tup (k.map kV))/\x=.ref p/\H'=upd H p (.tup [.ref b,v]),λi H=>Jf.length<=i/\H d=some (xw o Jf)⟩
theorem lU {α β:Type}{R:α->β->Prop}:∀{l:List α}{m:List β}{i:Nat}{a:α},Paired R l m->l[i]?=some a->∃b,m[i]?=some b/\R a b
 |_,_,_,_,.nil,e=>by simp at e
 |_,_,0,_,.cons r _,e=>by simp at e;subst e;exact⟨_,rfl,r⟩
 |_,_,i+1,a,.cons _ t,e=>by
  obtain⟨b,h1,h2⟩:=lU (i:=i) (a:=a) t (by simpa using e);exact⟨b,by simpa using h1,h2⟩
section
variable {X:Cx}{pins:List (Addr×Obj)}{σ:St}{H:Hp}{s:pL}{d:Addr}{o:Obj}{Jf:List (List Key×V)}
theorem sN (I:Inv X pins σ H s)(e:H d=some (xw o Jf)):∃es ep,o.data=.dict es ep/\OI.Raw s.heap d es ep/\es.size=Jf.length/\(d==sysModules)=false /\
 ∀(i:Nat)(hi:i<es.size) k v,Jf[i]?=some (k,v)->∃b,es[i].key=.ref b/\H b=some (.tup (k.map kV))/\aL v es[i].val:=by
 obtain⟨h0,z,y,xs,r,o',es,ep,h1,h2,h3,h4,h5⟩:=(show bJ X.prog X.w H s.heap d (xw o Jf) from I.hok d _ e);rw[h0] at h1
 cases h1
 have hl:es.size=Jf.length:=by
  rw[<-yh,h4,EZ];exact(BI r).symm
 refine⟨es,ep,h3,⟨_,h0,h2,h3⟩,hl,y,λi hi k v hk=>?_⟩;obtain⟨q,hq,e1,e2,e3⟩:=lU r hk
 have z1:es.toList[i]?=some (entryOfKey (tupleKind (cE X.prog X.w)) q):=by rw[h4,CR,hq];rfl
 have z2:es[i]=entryOfKey (tupleKind (cE X.prog X.w)) q:=by
  have z3:es.toList[i]?=some es[i]:=by simp[hi]
  rw[z3] at z1;exact Option.some.inj z1
 rw[z2];exact⟨q.2.1,rfl,e2,e3⟩
theorem Inv.freeze (I:Inv X pins σ H s)(e:H d=some (.dT Jf)):∃o,s.heap.get? d=some o/\Inv X pins σ (upd H d (xw o Jf)) s:=by
 obtain⟨z,y,xs,r,o,es,ep,h1,h2⟩:=(show bJ X.prog X.w H s.heap d (.dT Jf) from I.hok d _ e);refine⟨o,h1,I.write (t':=s.toks) (h':=s.heap) (x:=d) (e:=d) (o:=xw o Jf) (by rw[e];exact True.intro) (.inl rfl) (λ_ _ _ q=>q) ⟨o,h1⟩ ⟨h1,z,y,xs,?_,o,es,ep,h1,h2⟩⟩;exact Paired.agE r λp q w=>⟨w.1,by rw[aA (nO w.2.1 e (by intro z;cases z))];exact w.2.1,w.2.2⟩
end
variable {elts:xB}{x1:Nat}{tp:Pos}
theorem af3 {P:xq}{w:World}{K:Frag}(d it:Addr)(o:Obj)(Jf:List (List Key×V))(es:Array DictEntry)(ep:Nat)(ho:o.data=.dict es ep):Turn P w K (.Tuple elts x1 tp) (HS d o Jf) [it] it (λi h=>∃ok ov,IsItemIter h it d i es.size ep ok ov) where
 mem:=by simp
 obj:=λi h st b hb=>by
  have e:b=it:=by simpa using hb
  subst e;obtain⟨ok,ov,e⟩:=st;exact⟨_,e,λv z=>by cases z⟩
 keep:=λi h h' st k=>let⟨ok,ov,e⟩:=st;⟨ok,ov,k it (by simp) _ e⟩
 item:=by
  intro X hP hw hK hc i pins s σ H E I hf st hg;subst hP hw hK;obtain⟨Jk,hd⟩:=hg;obtain⟨ok,ov,hit⟩:=st;obtain⟨es',O8,J6,raw,hl,hm,Ym⟩:=sN I hd;rw[ho] at J6
  cases J6
  obtain⟨f0,f1,f2,f3,f4,f5⟩:=hf it (by simp)
  have hi:i<es.size:=by omega
  refine OI.af7 hit raw hi λh' q1 q2 q3 q4=>?_;obtain⟨⟨k,v⟩,hk⟩:∃kv,Jf[i]?=some kv:=⟨Jf[i],by simp[Jk]⟩;obtain⟨b,eb,hb,rv⟩:=Ym i hi k v hk;refine⟨_,rfl,wpAny_letOwnedTupleGo_items (s:={s with heap:=h'}) q1 λh2 q5 q6=>?_⟩;have Ml:s.heap.objs.size≠it:=tU (Ep hit);have I1:Inv X pins σ H {s with heap:=h2}:=I.turned (t':=s.toks) (λb o hb e=>(q6.2 b hb).trans (q4 b o hb e)) f0 f1 f3 f4 f5;have tup:h2.get? s.heap.objs.size=some {cls:=.type "tuple",data:=.seq #[es[i].key,es[i].val]}:=(q6.2 _ Ml).trans q2;have fr:H s.heap.objs.size=none:=I.hok.fresh (yH _)
  have I2:Inv X pins σ (upd H s.heap.objs.size (.tup [.ref b,v])) {s with heap:=h2}:=by
   refine⟨I1.ok,I1.os,I1.bare,?_,I1.loc,I1.cell,?_,λx c e=>?_,λp hp=>?_,d9 I1.hok fr ⟨by show 2<=sizeLine;decide,[.ref b,es[i].val],.cons rfl (.cons rv .nil),?_⟩,I1.len⟩
   ·have u:=I1.base;refine⟨u.keep,u.slot,λb' o' e n hx=>?_,u.there,λb' xs e=>?_,λb' o' u' e=>?_,λb' ps e=>?_⟩
    ·have ne:b'≠s.heap.objs.size:=IB (Ip (Ep e) I.sz);rw[aA ne];exact u.free b' o' e n hx
    ·rw[aA (aB (u.afT b' xs e) fr)];exact u.afT b' xs e
    ·rw[aA (aB (u.afR b' o' u' e) fr)];exact u.afR b' o' u' e
    ·obtain⟨m,q⟩:=u.af5 b' ps e;exact⟨m,by rw[aA (aB q fr)];exact q⟩
   ·rw[aA (IB I.lt)];exact I1.free
   ·obtain⟨v',q⟩:=I.cell x c e;rw[aA (IB q.lt)];exact I1.afW x c e
   ·obtain⟨e,n,r⟩:=I1.pin p hp;have lt:p.1<s.heap.objs.size:=Ep (I.pin p hp).1;exact⟨e,by rw[aA (IB lt)];exact n,r⟩
   ·exact⟨_,tup,rfl,0,by rw[<-eb]⟩
  refine⟨.ref s.heap.objs.size,_,I2,rfl,⟨s.heap.objs.size,b,k,v,hk,fr,hb,rfl,rfl⟩,⟨_,_,q5⟩,λb' Ju=>?_⟩
  have e:b'=it:=by simpa using Ju
  subst e;rw[aA (Bt Ml)];exact f0
 done:=by
  intro X hP hw hK hc i pins s σ H E I hf st hg;subst hP hw hK;obtain⟨Jk,hd⟩:=hg;obtain⟨ok,ov,hit⟩:=st;obtain⟨es',O8,J6,raw,hl,hm,Ym⟩:=sN I hd;rw[ho] at J6
  cases J6
  obtain⟨f0,f1,f2,f3,f4,f5⟩:=hf it (by simp);exact OI.ahI (I.ok.hd hc) hit raw (by omega) λh' eb=>⟨rfl,I.turned (t':=s.toks) (λb o hb e=>eb b o hb e) f0 f1 f3 f4 f5⟩
 self:=λA i s Q E st h=>by
  obtain⟨ok,ov,hit⟩:=st;exact kcp_self hit h
noncomputable def IJ (H1:Hp)(d:Addr)(Jf:List (List Key×V))(R:Obj->Hp->Prop):Prop:=(∃o,H1 d=some (xw o Jf)/\R o H1)\/(H1 d=some (.dT Jf)/\∀o,R o (upd H1 d (xw o Jf)))
noncomputable def af4 (td:TE):TI:=λσ H R=>td σ H λx H1=>∃d Jf,x=.ref d/\IJ H1 d Jf λo H2=>R (HS d o Jf) H2
section
variable {X:Cx}{pins:List (Addr×Obj)}{σ:St}{H:Hp}{s:pL}
theorem abE {d:Addr}{Jf:List (List Key×V)}{R:Obj->Hp->Prop}(I:Inv X pins σ H s)(h:IJ H d Jf R):∃o H2,Inv X pins σ H2 s/\H2 d=some (xw o Jf)/\R o H2:=by
 rcases h with⟨o,e,r⟩|⟨e,r⟩
 ·exact⟨o,H,I,e,r⟩
 ·obtain⟨o,_,I2⟩:=I.freeze e;exact⟨o,_,I2,aj,r o⟩
theorem abK {oe:Expr}{td:TE}{apos Jy:Pos}(ho:PE X oe td)(Lf:attributeBase oe "items" X.env (eval oe X.env)=eval oe X.env:=by rfl)(Lg:(apos.endLine==Jy.line)=true:=by rfl):
 PI X (.Tuple elts x1 tp) (.Call (.Attribute oe "items" apos) [] [] Jy) (af4 td):=by
 intro pins s σ H R I h;refine wpAny_Call_method0_late Lf Lg (cx (ho pins s σ H _ I h) λv s1 z'=>?_);obtain⟨x,H1,I1,r1,d,Jf,ex,fz⟩:=z';subst ex
 cases(show v=Value.ref d from r1)
 obtain⟨o,H2,I2,hd,rr⟩:=abE I1 fz;obtain⟨es,ep,hod,raw,hl,hm,_⟩:=sN I2 hd;refine⟨"dict","dict.items",PySem.F.plainAttrs_dict,PySem.F.slot_dict_items,PySem.F.type_dict_items,raw.ty,λa e=>?_,Calls.callWith_builtin rfl (PySem.evalArgs_none (OI.Sig raw hm ?_))⟩
 ·cases e
  obtain⟨o',h1,h2,_⟩:=raw.ex;exact⟨o',h1,h2.2.1⟩
 ·have I3:Inv X pins σ H2 {s1 with heap:=s1.heap.push {cls:=.type "dict_items",data:=.fields #[.ref d]} }:=I2.kept (t':=s1.toks) λb ob q=>Ez _ q;refine OI.agG (s:={s1 with heap:=s1.heap.push {cls:=.type "dict_items",data:=.fields #[.ref d]} }) ⟨_,Fg _ rfl,rfl,rfl⟩ (raw.keep λo e=>Ez _ e) ?_;generalize s1.heap.push {cls:=.type "dict_items",data:=.fields #[.ref d]}=h2 at I3 |-;refine⟨h2.objs.size,[h2.objs.size],_,HS d o Jf,H2,rfl,I3.kept (t':=s1.toks) λb ob q=>Ez _ q,af3 d _ o Jf es ep hod,⟨_,_,Fg _ rfl⟩,λb hb=>?_,rr⟩
  have e:b=h2.objs.size:=by simpa using hb
  subst e;exact I3.agx (yH _) (I3.hok.fresh (yH _))
theorem Inv.ah2 {s2:pL}{T:Addr}{xs:List V}{its:HF}(I:Inv X pins σ H s)(I1:Inv X pins σ H s2)(hT:s.heap.objs.size<=T)(e:s2.heap.get? T=some {cls:=.type "tuple",data:=.seq its.toArray})(r:aN xs its)(hz:xs.length<=sizeLine):
 Inv X pins σ (upd H T (.tup xs)) s2:=by
 have fr:H T=none:=I.hok.fresh hT;refine⟨I1.ok,I1.os,I1.bare,?_,I1.loc,I1.cell,?_,λx c e=>?_,λp hp=>?_,d9 I1.hok fr ⟨hz,its,r,⟨_,e,rfl,0,rfl⟩⟩,I1.len⟩
 ·have u:=I1.base;refine⟨u.keep,u.slot,λb' o' e n hx=>?_,u.there,λb' xs e=>?_,λb' o' u' e=>?_,λb' ps e=>?_⟩
  ·have ne:b'≠T:=IB (Ip (Ep e) (Ig I.sz hT));rw[aA ne];exact u.free b' o' e n hx
  ·rw[aA (aB (u.afT b' xs e) fr)];exact u.afT b' xs e
  ·rw[aA (aB (u.afR b' o' u' e) fr)];exact u.afR b' o' u' e
  ·obtain⟨m,q⟩:=u.af5 b' ps e;exact⟨m,by rw[aA (aB q fr)];exact q⟩
 ·rw[aA (IB (Ip I.lt hT))];exact I1.free
 ·obtain⟨v',q⟩:=I.cell x c e;rw[aA (IB (Ip q.lt hT))];exact I1.afW x c e
 ·obtain⟨e,n,r⟩:=I1.pin p hp;have lt:p.1<s.heap.objs.size:=Ep (I.pin p hp).1;exact⟨e,by rw[aA (IB (Ip lt hT))];exact n,r⟩
theorem Inv.agt {h':Heap}{t':Nat}{ch:List Addr}(I:Inv X pins σ H s)(k:∀b o,b∉ch->s.heap.get? b=some o->h'.get? b=some o)(hf:∀b∈ch,c4 X pins H b):Inv X pins σ H {s with heap:=h',toks:=t'}:=by
 have Ml:∀b u,H b=some u->b∉ch:=λb u e z=>by rw[(hf b z).1] at e;cases e
 refine I.step (g':=s.gens) (d':=s.drawn) (ch:=ch) (λb hb=>?_) (λb o _ _ hc e _=>k b o hc e) (λb o _ _ hc e _=>⟨o.slots,k b o hc e⟩) (λ_ _ _ _ n=>n)
  (λb o hc e=>⟨o,k b o hc e⟩) (λ_ _ e=>e) (λ_ _ _ e=>e) (λb ps e=>⟨#[],by rw[e];simp⟩) (λm hm=>?_) (λb u e=>?_) I.bare
 ·obtain⟨f0,f1,f2,f3,f4,f5⟩:=hf b hb;exact⟨f3,f1,f4,f5⟩
 ·obtain⟨o,es,ep,ho,r⟩:=hm;exact⟨o,es,ep,k _ o (λz=>(hf _ z).2.1 rfl) ho,r⟩
 ·refine(I.hok b u e).agX (λc v hc q=>k c v ?_ q) (λ_ q=>q) λ_ _ q=>q
  rcases hc with z|z
  ·rw[z];exact Ml b u e
  ·exact Ml c _ z
end
noncomputable def HR (K:Frag)(a:Addr):It :=
 ⟨λi H=>∃xs x,a8 K H a xs/\xs[i]?=some x,λi H x H'=>∃T y,(∀xs,a8 K H a xs->xs[i]?=some y)/\H T=none/\x=.ref T/\H'=upd H T (.tup [.int i,y]),λi H=>∃xs,a8 K H a xs/\xs.length<=i⟩
theorem abQ {P:xq}{w:World}{K:Frag}(a e it:Addr)(JG:e≠it):Turn P w K (.Tuple elts x1 tp) (HR K a) [e,it] e (λi h=>∃old,IsEnum h e it i old/\h.IsListIter it a i) where
 mem:=by simp
 obj:=λi h st b hb=>by
  obtain⟨old,h1,o,h2,_,h3⟩:=st
  rcases(by simpa using hb:b=e\/b=it) with z|z
  ·subst z;exact⟨_,h1,λv z=>by cases z⟩
  ·subst z;exact⟨o,h2,λv z=>by rw[h3] at z;cases z⟩
 keep:=λi h h' st k=>let⟨old,h1,h2⟩:=st;⟨old,k e (by simp) _ h1,h2.at λo q=>k it (by simp) o q⟩
 item:=by
  intro X hP hw hK hc i pins s σ H E I hf st hg;subst hP hw hK;obtain⟨xs,x,hq,hx⟩:=hg;obtain⟨its,rv,p,hz⟩:=I.list hq;obtain⟨u,hu,ru⟩:=rv.get hx;obtain⟨old,he,hit⟩:=st;refine wpAny_pyNext_enum_item he hit p.isList (x:=u) (by simpa using hu) JG λh' q1 q2 q3 q4 q5=>?_;refine⟨_,rfl,wpAny_letOwnedTupleGo_enum (s:={s with heap:=h',toks:=s.toks+1}) q1 λh2 q6 q7=>?_⟩;have PN:s.heap.objs.size≠e:=tU (Ep he)
  have I1:Inv X pins σ H {s with heap:=h2,toks:=s.toks+1}:=I.agt (t':=s.toks+1) (ch:=[e,it]) (λb o hb z=>by
   have Ju:b≠e/\b≠it:=by simpa using hb
   exact(q7.2 b Ju.1).trans (q5 b o Ju.1 Ju.2 z)) hf
  have tup:h2.get? s.heap.objs.size=some {cls:=.type "tuple",data:=.seq #[.int i s.toks,u]}:=(q7.2 _ PN).trans q3;have fr:H s.heap.objs.size=none:=I.hok.fresh (yH _);have I2:=I.ah2 (xs:=[.int i,x]) (its:=[.int i s.toks,u]) I1 (yH _) tup (.cons ⟨_,rfl⟩ (.cons ru .nil)) jJ;refine⟨.ref s.heap.objs.size,_,I2,rfl,⟨s.heap.objs.size,x,λys hy=>by rw[I.agw hy hq];exact hx,fr,rfl,rfl⟩,⟨u,q6,q2.at λo q=>(q7.2 _ (Bt JG)).trans q⟩,λb hb=>?_⟩
  have nb:b≠s.heap.objs.size:=by
   rcases(by simpa using hb:b=e\/b=it) with z|z
   ·subst z;exact Bt PN
   ·subst z;obtain⟨o,q,_⟩:=hit;exact IB (Ep q)
  rw[aA nb];exact(hf b hb).1
 done:=by
  intro X hP hw hK hc i pins s σ H E I hf st hg;subst hP hw hK;obtain⟨xs,hq,hx⟩:=hg;obtain⟨its,rv,p,hz⟩:=I.list hq;have hl:=rv.length;obtain⟨old,he,hit⟩:=st;obtain⟨f0,f1,f2,f3,f4,f5⟩:=hf it (by simp);exact wpAny_pyNext_enum_end (I.ok.hd hc) he hit p.isList (by simp;omega) λh' eb=>⟨rfl,I.turned (t':=s.toks) (λb o hb e=>eb b o hb e) f0 f1 f3 f4 f5⟩
 self:=λ_ _ _ _ _ st h=>let⟨old,h1,_⟩:=st;ym h1 h
noncomputable def acd (K:Frag)(tl:TE):TI:=λσ H R=>bx tl ya σ H λvs H1=>∃a xs,vs=[.ref a]/\a8 K H1 a xs/\R (HR K a) H1
theorem acn {X:Cx}{l:Expr}{tl:TE}{p pos:Pos}(hl:PE X l tl)(hg:Gl X "enumerate")(hm:X.mg "enumerate"=none)(hs:ff l=false:=by rfl):
 PI X (.Tuple elts x1 tp) (.Call (.Name "enumerate" p) [l] [] pos) (acd X.K tl):=by
 intro pins s σ H R I h;refine rM (c8 I hg hm (by rfl) ?_ (by decide) (by decide));refine AG (cx (ao hl ai hs pos pins s σ H _ I h) λus s1 z'=>?_) (aX hs) rfl;obtain⟨vs,H1,I1,r1,a,xs,hv,hq,rr⟩:=z';subst hv;obtain⟨u,rfl,ru⟩:=fG r1
 cases(show u=Value.ref a from ru)
 obtain⟨its,rv,pl,hz⟩:=I1.list hq;refine call_enumerate_list pl.isList λh' q1 q2 q3 q4=>?_;have I2:Inv X pins σ H1 {s1 with heap:=h'}:=I1.kept (t':=s1.toks) q4;refine ym (s:={s1 with heap:=h'}) q1 ?_;refine⟨s1.heap.objs.size+1,[s1.heap.objs.size+1,s1.heap.objs.size],_,HR X.K a,H1,rfl,I2,abQ a _ _ (Cr _),⟨_,q1,q2⟩,λb hb=>?_,rr⟩
 have Ju:s1.heap.objs.size<=b:=by
  rcases(by simpa using hb:b=s1.heap.objs.size+1\/b=s1.heap.objs.size) with z|z
  ·rw[z];exact Ja _
  ·rw[z];exact yH _
 exact I1.agx Ju (I1.hok.fresh Ju)
end L2
namespace Zp
open PySem PyProof.Rows
section
variable {prog:xq}{w:World}{A:Around}{E:AU}{s:pL}
theorem iH {it t:Addr}{i:Nat}{items:Il}{x:Value}{Q:AU}(hit:s.heap.IsTupleIter it t i)(ht:s.heap.IsTuple t items)(hx:items[i]?=some x)
 (hQ:∀h',h'.IsTupleIter it t (i+1)->Heap.SameBut it s.heap h'->Q x {s with heap:=h'}):wpAny (model prog w) A (Builtin.SmallTypes.nextOf (.ref it)) Q E s:=by
 obtain⟨o,ho,hc,hd⟩:=id hit;obtain⟨ol,PQ,_,nl,U4⟩:=ht;unfold Builtin.SmallTypes.nextOf;refine IW (tE (name:=Str.ofString "__next__") hit.typeIs qo (tP qo hit.typeIs F.entry_tuple_iterator_next ?_ (Ee _)));show wpAny _ _ (field (.ref it) 0>>=_) _ _ s;refine IW (zV ho hd (x:=.ref t) rfl ?_);show wpAny _ _ (if(Value.ref t==Value.none)=true then _ else _) _ _ s;rw[IX (show ¬((Value.ref t==Value.none)=true) from E7)];show wpAny _ _ (field (.ref it) 1>>=_) _ _ s;refine IW (zV ho hd (x:=.int i 0) rfl ?_);show wpAny _ _ (seqItems? (.ref t)>>=_) _ _ s;refine IW (iL PQ U4 ?_);simp only[Ho,hx];refine IW (GO ho hd (by simp) (Fc ⟨x,rfl,Fc (hQ _ ?_ (Bn ..))⟩));exact⟨_,Fn _ ho (wI (xG hd _)),(Obj.cls_mapFields ..).trans hc,by rw[xG hd];simp[rawInt]⟩
theorem p8 {it t:Addr}{i:Nat}{items:Il}{Q:AU}(hh:A.handled=none)(hit:s.heap.IsTupleIter it t i)(ht:s.heap.IsTuple t items)(hx:items[i]?=none)
 (hE:∀h' e,Heap.ExtBut it s.heap h'->(∃o,h'.get? e=some o/\o.cls=.type "StopIteration")->E (.ref e) {s with heap:=h'}):wpAny (model prog w) A (Builtin.SmallTypes.nextOf (.ref it)) Q E s:=by
 obtain⟨o,ho,hc,hd⟩:=id hit;obtain⟨ol,PQ,_,nl,U4⟩:=ht;unfold Builtin.SmallTypes.nextOf;refine IW (tE (name:=Str.ofString "__next__") hit.typeIs qo (tP qo hit.typeIs F.entry_tuple_iterator_next ?_ (Ee _)));show wpAny _ _ (field (.ref it) 0>>=_) _ _ s;refine IW (zV ho hd (x:=.ref t) rfl ?_);show wpAny _ _ (if(Value.ref t==Value.none)=true then _ else _) _ _ s;rw[IX (show ¬((Value.ref t==Value.none)=true) from E7)];show wpAny _ _ (field (.ref it) 1>>=_) _ _ s;refine IW (zV ho hd (x:=.int i 0) rfl ?_);show wpAny _ _ (seqItems? (.ref t)>>=_) _ _ s;refine IW (iL PQ U4 ?_);simp only[Ho,hx];refine IW (qK (IW (GO ho hd (by simp) ?_)));show wpAny _ _ (newExc (.type "StopIteration") []>>=_) _ _ _;refine IW ?_;simp only[newExc,newTuple];refine IW (Bf ?_ (by size_fits));refine IW (m:=firstArgMember _ _) (xK (a:=Value.none) (by first|rfl|(simp only[firstArgMember];rfl)) ?_);refine Bf ?_ (by size_fits);simp only[raiseNew];refine IW (wpAny_handled ?_)
 first|rw[show A.in1.handled=none from hh]|rw[hh]
 refine IW (Fc (wpAny_throw ?_));exact hE _ _ (((Bn ..).extBut.push _).push _) ⟨_,Fg _ rfl,rfl⟩
end
structure Apart (z TI TO i1 i2 l1 l2:Addr):Prop where
 TIz:TI≠z
 TOz:TO≠z
 i1z:i1≠z
 i2z:i2≠z
 TITO:TI≠TO
 TIi1:TI≠i1
 TIi2:TI≠i2
 TOi1:TO≠i1
 TOi2:TO≠i2
 i12:i1≠i2
 l1n:l1 ∉ [z,TO,i1,i2]
 l2n:l2 ∉ [z,TO,i1,i2]
structure Zs (h:Heap)(z TI TO i1 i2 l1 l2:Addr)(k:Nat):Prop where
 hz:IsZip h z TI TO .none
 hTI:IsPair h TI (.ref i1) (.ref i2)
 TK:∃a b,IsPair h TO a b
 h1:h.IsTupleIter i1 l1 k
 h2:h.IsTupleIter i2 l2 k
theorem eV {h h':Heap}{i l:Addr}{k:Nat}(x:h.IsTupleIter i l k)(q:∀o,h.get? i=some o->h'.get? i=some o):h'.IsTupleIter i l k:=let⟨o,a,b⟩:=x;⟨o,q o a,b⟩
section
variable {prog:xq}{w:World}{A:Around}{E:AU}{s:pL}{z TI TO i1 i2 l1 l2:Addr}{k:Nat}{xs ys:Il}{x y:Value}
theorem item {Q:AU}(D:Apart z TI TO i1 i2 l1 l2)(Z:Zs s.heap z TI TO i1 i2 l1 l2 k)(Kv:s.heap.IsTuple l1 xs)(KC:s.heap.IsTuple l2 ys)(hx:xs[k]?=some x)(hy:ys[k]?=some y)
 (hQ:∀h',IsZip h' z TI TO (rawInt s.heap.objs.size)->(∃a b,IsPair h' TO a b)->h'.IsTupleIter i1 l1 (k+1)->h'.IsTupleIter i2 l2 (k+1)->IsPair h' s.heap.objs.size x y →
  (∀c o,c ∉ [z,TO,i1,i2]->s.heap.get? c=some o->h'.get? c=some o)->Q (.ref s.heap.objs.size) {s with heap:=h'}):
 wpAny (model prog w) A (Builtin.«zip.__next__» ⟨[.ref z],[]⟩) (λfin s'=>∃v,fin=.done (.ret v)/\Q v s') E s:=by
 obtain⟨hz,hTI,⟨a,b,TK⟩,h1,h2⟩:=Z
 have n1:l1≠z/\l1≠TO/\l1≠i1/\l1≠i2:=by simpa using D.l1n
 have n2:l2≠z/\l2≠TO/\l2≠i1/\l2≠i2:=by simpa using D.l2n
 show wpAny _ _ (field (.ref z) 2>>=_) _ _ _;refine IW (zV hz rfl (x:=.bool false) rfl ?_);show wpAny _ _ (field (.ref z) 3>>=_) _ _ _;refine IW (zV hz rfl (x:=.ref TI) rfl ?_);refine IW (iL hTI rfl ?_);show wpAny _ _ (Builtin.SmallTypes.ownedTupleIsFree (.ref z)>>=_) _ _ _;refine IW ?_;unfold Builtin.SmallTypes.ownedTupleIsFree;refine IW (zV hz rfl (x:=.none) rfl (Fc ?_));simp only[Ij];refine IW (qK ?_);refine IW (zV hz rfl (x:=.ref TO) rfl ?_);refine IW (CB hz (by simp) λg1 LR s1=>?_)
 replace LR:IsZip g1 z TI TO .ellipsis:=LR
 refine IW ?_;simp only[List.zipIdx_cons,List.zipIdx_nil,zj,List.forIn_nil];refine IW (IW (B9 ?_));show wpAny _ _ (Builtin.SmallTypes.nextOf (.ref i1)>>=_) _ _ _;refine IW (iH (h1.extBut s1.extBut D.i1z) (Kv.extBut s1.extBut n1.1) hx λg2 a2 s2=>Fc ?_);have t2:IsPair g2 TO a b:=s2.extBut _ _ D.TOi1 (s1.extBut _ _ D.TOz TK);refine IW (iL t2 rfl ?_);refine IW (HL t2 λg3 t3 s3=>?_)
 replace t3:IsPair g3 TO x b:=t3
 refine IW (BR (Fc ?_));refine IW (IW (B9 ?_));show wpAny _ _ (Builtin.SmallTypes.nextOf (.ref i2)>>=_) _ _ _;refine IW (iH (((h2.extBut s1.extBut D.i2z).extBut s2.extBut D.i12.symm).extBut s3.extBut D.TOi2.symm) (((KC.extBut s1.extBut n2.1).extBut s2.extBut n2.2.2.1).extBut s3.extBut n2.2.1) hy λg4 a4 s4=>Fc ?_);have t4:IsPair g4 TO x b:=s4.extBut _ _ D.TOi2 t3;refine IW (iL t4 rfl ?_);refine IW (HL t4 λg5 t5 s5=>?_)
 replace t5:IsPair g5 TO x y:=t5
 refine IW (BR (Fc (Fc ?_)));refine IW (iL t5 rfl ?_);refine IW (zG ?_)
 have sz:g5.objs.size=s.heap.objs.size:=by rw[s5.1,s4.1,s3.1,s2.1,s1.1]
 have z5:IsZip g5 z TI TO .ellipsis:=s5.extBut _ _ D.TOz.symm (s4.extBut _ _ D.i2z.symm (s3.extBut _ _ D.TOz.symm (s2.extBut _ _ D.i1z.symm LR)))
 have k5:∀c o,c ∉ [z,TO,i1,i2]->s.heap.get? c=some o->g5.get? c=some o:=λc o hc e=>by
  have Jv:c≠z/\c≠TO/\c≠i1/\c≠i2:=by simpa using hc
  exact s5.extBut _ _ Jv.2.1 (s4.extBut _ _ Jv.2.2.2 (s3.extBut _ _ Jv.2.1 (s2.extBut _ _ Jv.2.2.1 (s1.extBut _ _ Jv.1 e))))
 have a5:g5.IsTupleIter i1 l1 (k+1):=((a2.extBut s3.extBut D.TOi1.symm).extBut s4.extBut D.i12).extBut s5.extBut D.TOi1.symm;have b5:g5.IsTupleIter i2 l2 (k+1):=a4.extBut s5.extBut D.TOi2.symm;have Yn:z<g5.objs.size:=Ep z5;show wpAny _ _ (Builtin.SmallTypes.ownedTupleHandOut (.ref z) (.ref g5.objs.size)>>=_) _ _ _;refine IW ?_;unfold Builtin.SmallTypes.ownedTupleHandOut;have z6:IsZip (g5.push {cls:=.type "tuple",data:=.seq #[x,y]}) z TI TO .ellipsis:=Ez _ z5;refine IW (CB z6 (by simp) λg7 z7 s7=>?_)
 replace z7:IsZip g7 z TI TO (rawInt g5.objs.size):=z7
 refine CB z7 (by simp) λg8 z8 s8=>?_
 replace z8:IsZip g8 z TI TO (rawInt g5.objs.size):=z8
 have up:∀c o,c≠z->g5.get? c=some o->g8.get? c=some o:=λc o c1 e=>s8.extBut _ _ c1 (s7.extBut _ _ c1 (Ez _ e));have t8:IsPair g8 g5.objs.size x y:=s8.extBut _ _ (tU Yn) (s7.extBut _ _ (tU Yn) (Fg _ rfl));rw[sz] at z8 t8;refine Fc ⟨_,rfl,?_⟩;show Q (.ref g5.objs.size) _;rw[sz];exact hQ g8 z8 ⟨x,y,up _ _ D.TOz t5⟩ (eV a5 λo e=>up _ o D.i1z e) (eV b5 λo e=>up _ o D.i2z e) t8 λc o hc e=>up c o (λq=>hc (by simp[q])) (k5 c o hc e)
theorem acE {Q:Fin->Shared->Prop}(hh:A.handled=none)(D:Apart z TI TO i1 i2 l1 l2)(Z:Zs s.heap z TI TO i1 i2 l1 l2 k)(Kv:s.heap.IsTuple l1 xs)(KC:s.heap.IsTuple l2 ys)(Nv:xs[k]?=none\/ys[k]?=none)
 (hE:∀h' e,(∀c o,c ∉ [z,TO,i1,i2]->s.heap.get? c=some o->h'.get? c=some o)->(∃o,h'.get? e=some o/\o.cls=.type "StopIteration")->E (.ref e) {s with heap:=h'}):
 wpAny (model prog w) A (Builtin.«zip.__next__» ⟨[.ref z],[]⟩) Q E s:=by
 obtain⟨hz,hTI,⟨a,b,TK⟩,h1,h2⟩:=Z
 have n1:l1≠z/\l1≠TO/\l1≠i1/\l1≠i2:=by simpa using D.l1n
 have n2:l2≠z/\l2≠TO/\l2≠i1/\l2≠i2:=by simpa using D.l2n
 show wpAny _ _ (field (.ref z) 2>>=_) _ _ _;refine IW (zV hz rfl (x:=.bool false) rfl ?_);show wpAny _ _ (field (.ref z) 3>>=_) _ _ _;refine IW (zV hz rfl (x:=.ref TI) rfl ?_);refine IW (iL hTI rfl ?_);show wpAny _ _ (Builtin.SmallTypes.ownedTupleIsFree (.ref z)>>=_) _ _ _;refine IW ?_;unfold Builtin.SmallTypes.ownedTupleIsFree;refine IW (zV hz rfl (x:=.none) rfl (Fc ?_));simp only[Ij];refine IW (qK ?_);refine IW (zV hz rfl (x:=.ref TO) rfl ?_);refine IW (CB hz (by simp) λg1 LR s1=>?_)
 replace LR:IsZip g1 z TI TO .ellipsis:=LR
 refine IW ?_;simp only[List.zipIdx_cons,List.zipIdx_nil,zj,List.forIn_nil];refine IW (IW (B9 ?_));show wpAny _ _ (Builtin.SmallTypes.nextOf (.ref i1)>>=_) _ _ _
 cases hx:xs[k]? with
 |none =>
  refine IW (p8 hh (h1.extBut s1.extBut D.i1z) (Kv.extBut s1.extBut n1.1) hx λg2 e s2 he=>?_);obtain⟨oe,Nw,PR⟩:=he;have z2:IsZip g2 z TI TO .ellipsis:=s2 _ _ D.i1z.symm LR
  have ez:e≠z:=λq=>by subst q;rw[z2] at Nw;cases Nw;simp at PR
  refine CB z2 (by simp) λg3 _ s3=>hE g3 e (λc o hc q=>?_) ⟨oe,s3.extBut _ _ ez Nw,PR⟩
  have Jv:c≠z/\c≠TO/\c≠i1/\c≠i2:=by simpa using hc
  exact s3.extBut _ _ Jv.1 (s2 _ _ Jv.2.2.1 (s1.extBut _ _ Jv.1 q))
 |some x =>
  have hy:ys[k]?=none:=by
   rcases Nv with h|h
   ·rw[hx] at h;cases h
   ·exact h
  refine IW (iH (h1.extBut s1.extBut D.i1z) (Kv.extBut s1.extBut n1.1) hx λg2 a2 s2=>Fc ?_);have t2:IsPair g2 TO a b:=s2.extBut _ _ D.TOi1 (s1.extBut _ _ D.TOz TK);refine IW (iL t2 rfl ?_);refine IW (HL t2 λg3 t3 s3=>?_);refine IW (BR (Fc ?_));refine IW (IW (B9 ?_));show wpAny _ _ (Builtin.SmallTypes.nextOf (.ref i2)>>=_) _ _ _;refine IW (p8 hh (((h2.extBut s1.extBut D.i2z).extBut s2.extBut D.i12.symm).extBut s3.extBut D.TOi2.symm) (((KC.extBut s1.extBut n2.1).extBut s2.extBut n2.2.2.1).extBut s3.extBut n2.2.1) hy λg4 e s4 he=>?_);obtain⟨oe,Nw,PR⟩:=he;have z4:IsZip g4 z TI TO .ellipsis:=s4 _ _ D.i2z.symm (s3.extBut _ _ D.TOz.symm (s2.extBut _ _ D.i1z.symm LR))
  have ez:e≠z:=λq=>by subst q;rw[z4] at Nw;cases Nw;simp at PR
  refine CB z4 (by simp) λg5 _ s5=>hE g5 e (λc o hc q=>?_) ⟨oe,s5.extBut _ _ ez Nw,PR⟩
  have Jv:c≠z/\c≠TO/\c≠i1/\c≠i2:=by simpa using hc
  exact s5.extBut _ _ Jv.1 (s4 _ _ Jv.2.2.2 (s3.extBut _ _ Jv.2.1 (s2.extBut _ _ Jv.2.2.1 (s1.extBut _ _ Jv.1 q))))
theorem acK {Q:Option Value->Shared->Prop}(D:Apart z TI TO i1 i2 l1 l2)(Z:Zs s.heap z TI TO i1 i2 l1 l2 k)(Kv:s.heap.IsTuple l1 xs)(KC:s.heap.IsTuple l2 ys)(hx:xs[k]?=some x)(hy:ys[k]?=some y)
 (hQ:∀h',IsZip h' z TI TO (rawInt s.heap.objs.size)->(∃a b,IsPair h' TO a b)->h'.IsTupleIter i1 l1 (k+1)->h'.IsTupleIter i2 l2 (k+1)->IsPair h' s.heap.objs.size x y →
  (∀c o,c ∉ [z,TO,i1,i2]->s.heap.get? c=some o->h'.get? c=some o)->Q (some (.ref s.heap.objs.size)) {s with heap:=h'}):
 wpAny (model prog w) A (pyNext (.ref z)) Q E s:=by
 have hT:s.TypeIs (.ref z) "zip":=⟨_,Z.hz,rfl⟩;unfold pyNext
 exact IW (mX (tE (name:=Str.ofString "__next__") hT DI
  (tP DI hT F.entry_zip_next (item D Z Kv KC hx hy λh' a1 a2 a3 a4 a5 a6=>Fc (hQ h' a1 a2 a3 a4 a5 a6)) (F.args_zip_next_1 _))))
theorem acS {Q:Option Value->Shared->Prop}(hh:A.handled=none)(D:Apart z TI TO i1 i2 l1 l2)(Z:Zs s.heap z TI TO i1 i2 l1 l2 k)(Kv:s.heap.IsTuple l1 xs)(KC:s.heap.IsTuple l2 ys)(Nv:xs[k]?=none\/ys[k]?=none)
 (hQ:∀h',(∀c o,c ∉ [z,TO,i1,i2]->s.heap.get? c=some o->h'.get? c=some o)->Q none {s with heap:=h'}):wpAny (model prog w) A (pyNext (.ref z)) Q E s:=by
 have hT:s.TypeIs (.ref z) "zip":=⟨_,Z.hz,rfl⟩;unfold pyNext
 refine IW (mX (tE (name:=Str.ofString "__next__") hT DI
  (tP DI hT F.entry_zip_next (acE hh D Z Kv KC Nv λh' e hk he=>?_) (F.args_zip_next_1 _))))
 obtain⟨o,ho,hc⟩:=he;refine IW (A2 (T:="StopIteration") (b:=true) ⟨o,ho,hc⟩ EW ?_);exact Fc (hQ _ hk)
end
noncomputable abbrev g1 (h:Heap)(l1:Addr):Heap:=h.push {cls:=.type "tuple_iterator",data:=.fields #[.ref l1,.int 0 0]}
noncomputable abbrev g2 (h:Heap)(l1 l2:Addr):Heap:=(g1 h l1).push {cls:=.type "tuple_iterator",data:=.fields #[.ref l2,.int 0 0]}
noncomputable abbrev g3 (h:Heap)(l1 l2:Addr):Heap:=(g2 h l1 l2).push {cls:=.type "tuple",data:=.seq #[.ref h.objs.size,.ref (g1 h l1).objs.size]}
noncomputable abbrev g4 (h:Heap)(l1 l2:Addr):Heap:=(g3 h l1 l2).push {cls:=.type "tuple",data:=.seq #[.none,.none]}
noncomputable abbrev g5 (h:Heap)(l1 l2:Addr):Heap:=(g4 h l1 l2).push {cls:=.type "zip",data:=.fields #[.none,.bool false,.bool false,.ref (g2 h l1 l2).objs.size,.ref (g3 h l1 l2).objs.size]}
theorem acT (l1 l2:Addr)(xs ys:Il):
 Meets (Builtin.«zip.__new__» ⟨[.type "zip",.ref l1,.ref l2],[]⟩) (λ_ R s=>s.heap.IsTuple l1 xs/\s.heap.IsTuple l2 ys/\R (.ok (.ret (.ref (g4 s.heap l1 l2).objs.size))) {s with heap:=g5 s.heap l1 l2}):=
 .of_wp λprog w A R s h=>by
  obtain⟨hp,g,d,tk,os⟩:=s;obtain⟨Kv,KC,h⟩:=h;have aaK:=sub_zip;have OJ:Heap.IsTuple (Shared.heap ⟨hp,g,d,tk,os⟩) l1 xs:=Kv;have Ma:Heap.IsTuple (Shared.heap ⟨hp.push {cls:=.type "tuple_iterator",data:=.fields #[.ref l1,.int 0 0]},g,d,tk,os⟩) l2 ys:=Heap.IsTuple.push KC _
  wp_walk using BO OJ,BO Ma
  exact⟨_,rfl,h⟩
section
variable {prog:xq}{w:World}{A:Around}{E:AU}{s:pL}
theorem acU {l1 l2:Addr}{xs ys:Il}{Q:AU}(Kv:s.heap.IsTuple l1 xs)(KC:s.heap.IsTuple l2 ys)
 (h:∀h',Zs h' (s.heap.objs.size+4) (s.heap.objs.size+2) (s.heap.objs.size+3) s.heap.objs.size (s.heap.objs.size+1) l1 l2 0->(∀c o,s.heap.get? c=some o->h'.get? c=some o)->Q (.ref (s.heap.objs.size+4)) {s with heap:=h'}):
 wpAny (model prog w) A (call (.type "zip") [.ref l1,.ref l2]) Q E s:=by
 refine callType_new F.called_zip (by decide) (F.typeCall_zip_2 _ _) (F.newCall_zip_2 _ _) (λobj=>F.args_object_init_3 obj _ _) F.entry_zip_new (acT l1 l2 xs ys) ⟨Kv,KC,?_⟩;have z1:(g1 s.heap l1).objs.size=s.heap.objs.size+1:=B5 ..
 have z2:(g2 s.heap l1 l2).objs.size=s.heap.objs.size+2:=by rw[B5,z1]
 have z3:(g3 s.heap l1 l2).objs.size=s.heap.objs.size+3:=by rw[B5,z2]
 have z4:(g4 s.heap l1 l2).objs.size=s.heap.objs.size+4:=by rw[B5,z3]
 have q5:(g5 s.heap l1 l2).get? (g4 s.heap l1 l2).objs.size=some _:=Fg _ rfl;have q4:(g5 s.heap l1 l2).get? (g3 s.heap l1 l2).objs.size=some _:=Ez _ (Fg _ rfl);have q3:(g5 s.heap l1 l2).get? (g2 s.heap l1 l2).objs.size=some _:=Ez _ (Ez _ (Fg _ rfl));have q2:(g5 s.heap l1 l2).get? (g1 s.heap l1).objs.size=some _:=Ez _ (Ez _ (Ez _ (Fg _ rfl)));have q1:(g5 s.heap l1 l2).get? s.heap.objs.size=some _:=Ez _ (Ez _ (Ez _ (Ez _ (Fg _ rfl))));show _/\_;rw[z2,z3,z4] at q5;rw[z1,z2] at q3;rw[z3] at q4;rw[z1] at q2;rw[z4];exact⟨⟨_,q5,rfl⟩,h _ ⟨q5,q3,⟨_,_,q4⟩,⟨_,q1,rfl,rfl⟩,⟨_,q2,rfl,rfl⟩⟩ λc o e=>Ez _ (Ez _ (Ez _ (Ez _ (Ez _ e))))⟩
end
theorem cR {a b:Nat}(h:a≠b):(a:Addr)≠b:=h
theorem ac1 (n a b:Nat)(ha:a<n)(hb:b<n):Apart (n+4) (n+2) (n+3) n (n+1) a b:=by
 refine⟨cR ?_,cR ?_,cR ?_,cR ?_,cR ?_,cR ?_,cR ?_,cR ?_,cR ?_,cR ?_,?_,?_⟩
 any_goals omega
 ·simp only[HK,EL,wU,not_or];exact⟨cR (by omega),cR (by omega),cR (by omega),cR (by omega)⟩
 ·simp only[HK,EL,wU,not_or];exact⟨cR (by omega),cR (by omega),cR (by omega),cR (by omega)⟩
end Zp
namespace L2
open PySem PySem.Spec PyProof.Rows PySem.W
noncomputable def Hx (K:Frag)(a b:Addr):It :=
 ⟨λi H=>∃xs ys x y,bq K H a xs/\bq K H b ys/\xs[i]?=some x/\ys[i]?=some y,
  λi H v H'=>∃T x y,(∀xs,bq K H a xs->xs[i]?=some x)/\(∀ys,bq K H b ys->ys[i]?=some y)/\H T=none/\v=.ref T/\H'=upd H T (.tup [x,y]),
  λi H=>∃xs ys,bq K H a xs/\bq K H b ys/\(xs.length<=i\/ys.length<=i)⟩
theorem ac2 {P:xq}{w:World}{K:Frag}{elts:xB}{x1:Nat}{tp:Pos}{a b z TI TO i1 i2:Addr}(D:Zp.Apart z TI TO i1 i2 a b):
 Turn P w K (.Tuple elts x1 tp) (Hx K a b) [z,TO,i1,i2,TI] z (λi h=>Zp.Zs h z TI TO i1 i2 a b i) where
 mem:=by simp
 obj:=λi h st c hb=>by
  obtain⟨h1,h2,⟨_,_,h3⟩,⟨o4,h4,_,d4⟩,⟨o5,h5,_,d5⟩⟩:=st
  rcases(by simpa using hb:c=z\/c=TO\/c=i1\/c=i2\/c=TI) with q|q|q|q|q
  ·subst q;exact⟨_,h1,λv q=>by cases q⟩
  ·subst q;exact⟨_,h3,λv q=>by cases q⟩
  ·subst q;exact⟨_,h4,λv q=>by rw[d4] at q;cases q⟩
  ·subst q;exact⟨_,h5,λv q=>by rw[d5] at q;cases q⟩
  ·subst q;exact⟨_,h2,λv q=>by cases q⟩
 keep:=λi h h' st k=>by
  obtain⟨h1,h2,⟨_,_,h3⟩,h4,h5⟩:=st;exact⟨k z (by simp) _ h1,k TI (by simp) _ h2,⟨_,_,k TO (by simp) _ h3⟩,Zp.eV h4 λo q=>k i1 (by simp) o q,Zp.eV h5 λo q=>k i2 (by simp) o q⟩
 item:=by
  intro X hP hw hK hc i pins s σ H E I hf st hg;subst hP hw hK;obtain⟨xs,ys,x,y,hq,hr,hx,hy⟩:=hg;obtain⟨its,rv,p,hz⟩:=I.tuple hq;obtain⟨PU,JV,p',Yo⟩:=I.tuple hr;obtain⟨u,hu,ru⟩:=rv.get hx;obtain⟨v,hv,U5⟩:=JV.get hy;refine Zp.acK D st (show s.heap.IsTuple a its.toArray from p) (show s.heap.IsTuple b PU.toArray from p') (x:=u) (y:=v) (by simpa using hu) (by simpa using hv) λh' q1 q2 q3 q4 q5 q6=>?_;refine⟨_,rfl,wpAny_letOwnedTupleGo_zip (s:={s with heap:=h'}) q1 λh2 q7 q8=>?_⟩;have lt:∀c o,s.heap.get? c=some o->c≠s.heap.objs.size:=λc o e=>IB (Ep e)
  have I1:Inv X pins σ H {s with heap:=h2}:=I.agt (t':=s.toks) (ch:=[z,TO,i1,i2]) (λc o hc e=>(q8.2 c λq=>hc (by simp[q])).trans (q6 c o hc e)) λc hc=>hf c (by
   rcases(by simpa using hc:c=z\/c=TO\/c=i1\/c=i2) with q|q|q|q <;> simp[q])
  have nz:s.heap.objs.size≠z:=Bt (lt z _ st.hz);have tup:h2.get? s.heap.objs.size=some {cls:=.type "tuple",data:=.seq #[u,v]}:=(q8.2 _ nz).trans q5;have fr:H s.heap.objs.size=none:=I.hok.fresh (yH _);have I2:=I.ah2 (xs:=[x,y]) (its:=[u,v]) I1 (yH _) tup (.cons ru (.cons U5 .nil)) jJ;have up:∀c o,c≠z->h'.get? c=some o->h2.get? c=some o:=λc o hc e=>(q8.2 c hc).trans e;obtain⟨aa,bb,q2⟩:=q2;have U6:IsPair h' TI (.ref i1) (.ref i2):=q6 TI _ (by simp only[HK,EL,wU,not_or];exact⟨D.TIz,D.TITO,D.TIi1,D.TIi2⟩) st.hTI
  refine⟨.ref s.heap.objs.size,_,I2,rfl,⟨s.heap.objs.size,x,y,λzs Mv=>by rw[I.afX Mv hq];exact hx,λzs Mv=>by rw[I.afX Mv hr];exact hy,fr,rfl,rfl⟩,
   ⟨q7,up _ _ D.TIz U6,⟨aa,bb,up _ _ D.TOz q2⟩,Zp.eV q3 λo e=>up _ o D.i1z e,Zp.eV q4 λo e=>up _ o D.i2z e⟩,λc hb=>?_⟩
  have nb:c≠s.heap.objs.size:=by
   obtain⟨h1,h2,⟨_,_,h3⟩,⟨o4,h4,_,d4⟩,⟨o5,h5,_,d5⟩⟩:=st
   rcases(by simpa using hb:c=z\/c=TO\/c=i1\/c=i2\/c=TI) with q|q|q|q|q <;> subst q
   ·exact lt _ _ h1
   ·exact lt _ _ h3
   ·exact lt _ _ h4
   ·exact lt _ _ h5
   ·exact lt _ _ h2
  rw[aA nb];exact(hf c hb).1
 done:=by
  intro X hP hw hK hc i pins s σ H E I hf st hg;subst hP hw hK;obtain⟨xs,ys,hq,hr,hx⟩:=hg;obtain⟨its,rv,p,hz⟩:=I.tuple hq;obtain⟨PU,JV,p',Yo⟩:=I.tuple hr;have l1:=rv.length;have l2:=JV.length
  refine Zp.acS (I.ok.hd hc) D st (show s.heap.IsTuple a its.toArray from p) (show s.heap.IsTuple b PU.toArray from p') (by
   rcases hx with q|q
   ·left;simp;omega
   ·right;simp;omega) λh' q=>⟨rfl,?_⟩
  exact I.agt (t':=s.toks) (ch:=[z,TO,i1,i2]) q λc hc=>hf c (by
   rcases(by simpa using hc:c=z\/c=TO\/c=i1\/c=i2) with q|q|q|q <;> simp[q])
 self:=λ_ _ _ _ _ st h=>wpAny_pyIter_zip st.hz h
noncomputable def ac3 (K:Frag)(ta tb:TE):TI:=λσ H R=>bx ta (bx tb ya) σ H λvs H1=>∃a b xs ys,vs=[.ref a,.ref b]/\bq K H1 a xs/\bq K H1 b ys/\R (Hx K a b) H1
theorem Fk {X:Cx}{ea eb:Expr}{ta tb:TE}{elts:xB}{x1:Nat}{tp p pos:Pos}(ha:PE X ea ta)(hb:PE X eb tb)(hg:Gl X "zip")(hm:X.mg "zip"=none)(hs:ff ea=false:=by rfl)(Mw:ff eb=false:=by rfl):
 PI X (.Tuple elts x1 tp) (.Call (.Name "zip" p) [ea,eb] [] pos) (ac3 X.K ta tb):=by
 intro pins s σ H R I h;refine rM (c8 I hg hm (by rfl) ?_ (by decide) (by decide));refine AG (cx (ao ha (ao hb ai Mw) hs pos pins s σ H _ I h) λus s1 z'=>?_) (aX hs) (by rw[aX Mw];rfl);obtain⟨vs,H1,I1,r1,a,b,xs,ys,hv,hq,hr,rr⟩:=z';subst hv;obtain⟨u,u',rfl,ru,U5⟩:=yI r1
 cases(show u=Value.ref a from ru)
 cases(show u'=Value.ref b from U5)
 obtain⟨its,rv,pl,hz⟩:=I1.tuple hq;obtain⟨PU,JV,Yp,Yo⟩:=I1.tuple hr;refine Zp.acU (show s1.heap.IsTuple a its.toArray from pl) (show s1.heap.IsTuple b PU.toArray from Yp) λh' q1 q4=>?_;have I2:Inv X pins σ H1 {s1 with heap:=h'}:=I1.kept (t':=s1.toks) q4
 have la:a<s1.heap.objs.size:=by obtain⟨o,e,_⟩:=pl;exact Ep e
 have lb:b<s1.heap.objs.size:=by obtain⟨o,e,_⟩:=Yp;exact Ep e
 refine wpAny_pyIter_zip (s:={s1 with heap:=h'}) q1.hz ?_;refine⟨s1.heap.objs.size+4,[s1.heap.objs.size+4,s1.heap.objs.size+3,s1.heap.objs.size,s1.heap.objs.size+1,s1.heap.objs.size+2],_,Hx X.K a b,H1,rfl,I2,ac2 (Zp.ac1 _ _ _ la lb),q1,λc hc=>?_,rr⟩
 have Ju:s1.heap.objs.size<=c:=by
  rcases(by simpa using hc:c=s1.heap.objs.size+4\/c=s1.heap.objs.size+3\/c=s1.heap.objs.size\/c=s1.heap.objs.size+1\/c=s1.heap.objs.size+2) with q|q|q|q|q <;> rw[q]
  ·exact CS _ _
  ·exact CS _ _
  ·exact yH _
  ·exact CS _ _
  ·exact CS _ _
 exact I1.agx Ju (I1.hok.fresh Ju)
end L2
namespace K09
open PySem L2 PySem.W
noncomputable abbrev IR:Stmt:=aU (ba 40) 1
noncomputable abbrev Aa:Stmt:=(ba 13)
noncomputable abbrev iW:Stmt:=(ba 14)
noncomputable def ER (C:Addr):Sp:=λvs H Q _=>∃(p dx:Addr)(i:Int)(y:V),vs=[.ref p,y]/\H p=some (.ins C dx (dS i)) /\
 ((∃q dy j,y=.ref q/\H q=some (.ins C dy (dS j))/\Q (.bl (decide (i=j))) H)\/∃T,Th H y T/\Q (.bl false) H)
noncomputable def b7:V->Bool
 | .int i=>decide (0<=i)&&decide (i<60)
 |_=>false
noncomputable def CH:Sp:=λvs H Q _=>∃x T,vs=[x]/\Th H x T/\Q (.bl (b7 x)) H
variable {P:xq}{w:World}{K:PySem.W.Frag}{mg:Cw}{base:Heap}
theorem adf:Eb xn xn (au IR):=dX (by decide +kernel)
theorem adg {f C:Addr}{fd:GS}(F:FY K "__eq__" "Field.__eq__" IR f fd)(c:Fv K mg C)(n:wO mg):xk P w K mg base (cI P w) 1 f fd xn (ER C):=by
 refine F.okN adf (λvs H Q E h=>?_) (λJi A outer s H vs Q E hr h=>?_)
 ·obtain⟨p,dx,i,y,rfl,_⟩:=h;rfl
 ·obtain⟨p,dx,i,y,rfl,hp,h⟩:=h
  refine⟨_,az (aG (dH (aK bX (by rfl) n.isi (by rfl) (c6 (pv 1) (c6 (d3 (by rfl) c.mgC (show aL (.ref C) (.ref C) from rfl)) ai)))
   (fk (cN dU (bh (pv 0) rfl) (bh (pv 1) rfl) (aM _))))),?_⟩
  rcases h with⟨q,dy,j,rfl,hq,z⟩|⟨T,th,z⟩
  ·refine⟨_,rfl,.ref q,.ref C,_,_,_,rfl,rfl,c.ty hq,c.is,_,rfl,?_⟩;refine cA ?_;refine⟨_,rfl,p,C,dx,_,_,rfl,hp,c.cl,c.nP,rfl,_,rfl,q,C,dy,_,_,rfl,hq,c.cl,c.nP,rfl,rfl,?_⟩
   have e:decide (V.int i=V.int j)=decide (i=j):=by simp
   rw[e];exact z
  ·exact⟨_,rfl,y,.ref C,_,_,_,rfl,rfl,th.ty,c.no th,_,rfl,cu z⟩
theorem adk:Eb IY IY (au Aa):=dX (by decide +kernel)
theorem adS {f:Addr}{fd:GS}{tM:Tok}(F:FY K "is_place" "is_place" Aa f fd)(mMP:mg "MOST_PLACES"=some (.int 60 tM))
 (q0:Ca P w K mg base 1 IY "is_whole" uE):xk P w K mg base (cI P w) 2 f fd IY CH:=by
 obtain⟨fw,PD,FW,bW,mW,kW⟩:=q0;refine F.okN adk (λvs H Q E h=>?_) (λJi A outer s H vs Q E hr h=>?_)
 ·obtain⟨x,T,rfl,_⟩:=h;rfl
 ·obtain⟨x,T,rfl,th,q⟩:=h;have Jp:A1 1 _:=hr.mono (by decide);refine⟨_,az (aG (dH (aD FW Jp (by rfl) mW kW bW .nil ae (ao (pv 0) ai rfl)) (fk (mh vJ iJ aq (pv 0) (d3 (by rfl) mMP (show aL (.int 60) (.int 60 tM) from⟨_,rfl⟩)))))),?_⟩;refine⟨_,rfl,x,T,rfl,th,_,rfl,?_⟩
  cases e:dq x with
  |false =>
   have z:b7 x=false:=by cases x <;> first|rfl|cases e
   rw[z] at q;exact cu q
  |true =>
   have z1:∃i,x=.int i:=by cases x <;> first|exact⟨_,rfl⟩|cases e
   obtain⟨i,rfl⟩:=z1;refine cA ?_;refine⟨_,rfl,_,_,rfl,rfl,_,rfl,?_⟩;refine cX (λh=>?_) (λh=>?_)
   ·refine⟨_,_,rfl,rfl,?_⟩;have h':decide (0<=i)=true:=h
    have z:b7 (.int i)=decide (i<60):=by show(decide (0<=i)&&decide (i<60))=_;rw[h',Je]
    rw[z] at q;exact q
   ·have h':decide (0<=i)=false:=by simpa using h
    have z:b7 (.int i)=false:=by show(decide (0<=i)&&decide (i<60))=_;rw[h',xt]
    rw[z] at q;exact q
end K09
namespace HT
open PySem PyProof.Rows
section
variable {prog:xq}{w:World}{A:Around}{E:AU}{s:pL}
theorem adY {t sl:Addr}{items:Il}{vl vu:Value}{lo hi:Option Int}{Q:AU}(ht:IsTup s.heap t items)(hs:s.heap.IsSliceOf sl vl vu .none)(pl:IsPart vl lo)(pu:IsPart vu hi)
 (h0:eP items.size 0 lo=0)(h1:eP items.size items.size hi=items.size)(h:Q (.ref t) s):wpAny (model prog w) A (getItem (.ref t) (.ref sl)) Q E s:=by
 obtain⟨os,Nb,Tt,Ph⟩:=id hs;have UJ:s.TypeIs (.ref sl) "slice":=⟨os,Nb,Tt⟩;unfold getItem
 try with_reducible refine BV ?_
 first|refine IW (Fc ?_)|skip
 refine IW (wpAny_sequenceKey ht.typeIs (by decide) ?_)
 refine IW (tE (name:=Str.ofString "__getitem__") ht.typeIs B0
  (tP B0 ht.typeIs entry_tuple_getitem ?_ (args_tuple_getitem _ _)))
 show wpAny _ _ (Builtin.Tuple.tupleItemsOf (.ref t)>>=_) _ _ s;refine IW (tupleItemsOf_ ht ?_);refine IW (AO UJ ?_);rw[qk (by decide)];refine IW (fL hs pl pu ?_);rw[h0,h1]
 have Ln:((((0:Nat):Int)==0&&(1:Int)==1&&(items.size-0)==items.size)=true):=by simp
 dsimp only;rw[qk Ln];show wpAny _ _ (Builtin.Tuple.tupleIsExact (.ref t)>>=_) _ _ s;refine IW ?_;unfold Builtin.Tuple.tupleIsExact;refine IW (AO ht.typeIs (Fc ?_));rw[qk (by decide)];refine IW (qK ?_);exact Fc ⟨_,rfl,Fc h⟩
end
end HT
namespace L2
open PySem PySem.Spec PyProof.Rows PySem.W
variable {X:Cx}
noncomputable def GU (K:Frag):V->Option Int->Option Int->Hp->VK->Prop:=λx lo hi H Q=>∃a xs,x=.ref a/\bq K H a xs/\(kq xs lo hi=xs->Q (.ref a) H)/\∀p,H p=none->Q (.ref p) (upd H p (.tup (kq xs lo hi)))
theorem kd:HM X (GU X.K):=by
 intro pins s σ H x v vl vu lo hi sl Q I rx hs pl pu h;obtain⟨a,xs,rfl,hx,h1,h2⟩:=h
 by_cases hw:HT.eP xs.length 0 lo=0/\HT.eP xs.length xs.length hi=xs.length
 ·cases rx
  obtain⟨its,r,ht,hz⟩:=I.tuple hx
  have hlen:its.toArray.size=xs.length:=by rw[Jc];exact r.length.symm
  refine⟨"tuple",_,B0.lookup,ht.typeIs,?_⟩;refine HT.adY ht hs pl pu (by rw[hlen];exact hw.1) (by rw[hlen];exact hw.2) ?_;refine⟨.ref a,H,I,rfl,h1 ?_⟩;unfold kq;rw[hw.1,hw.2];simp
 ·exact agp pins s σ H (.ref a) v vl vu lo hi sl Q I rx hs pl pu ⟨a,xs,rfl,hx,hw,h2⟩
end L2
namespace K09
open PySem L2 PySem.W
inductive PX (H:Hp):V->Option (List V)->Prop where
 |no {x:V}{T:String}:Th H x T->T ≠ "tuple"->PX H x none
 |tup {a:Addr}{xs:List V}:H a=some (.tup xs)->xs.length<4000->(∀y∈xs,∃T,Th H y T)->PX H (.ref a) (some xs)
noncomputable def Hr:V->V->Bool
 | .int a,.int b=>decide (a<b)
 |_,_=>false
noncomputable def jF (xs:List V):Bool:=(xs.zip (xs.drop 1)).all λp=>Hr p.1 p.2
noncomputable def lW:Option (List V)->Bool
 |none=>false
 |some xs=>xs.all b7&&jF xs
noncomputable def y4:Sp:=λvs H Q _=>∃x o,vs=[x]/\PX H x o/\∀H',aE H H'->Q (.bl (lW o)) H'
theorem Gd (xs:List V):kq xs (some 1) none=xs.drop 1:=by
 unfold kq HT.eP
 cases xs with
 |nil=>rfl
 |cons x xs=>simp
theorem aef:Eb IY IY (au iW):=dX (by decide +kernel)
theorem lZ:∀bs:List Bool,Paired F5 (bs.map V.bl) bs
 |[]=>.nil
 |b::bs=>.cons rfl (lZ bs)
variable {P:xq}{w:World}{K:PySem.W.Frag}{mg:Cw}{base:Heap}
variable {f:Addr}{fd:GS}
theorem aeg (F:FY K "is_product" "is_product" iW f fd)(Jg:mg "isinstance"=none)(m_tuple:mg "tuple"=none)(Jo:mg "all"=none)(Lo:mg "zip"=none)
 (q0:Ca P w K mg base 2 IY "is_place" CH):xk P w K mg base (cI P w) 3 f fd IY y4:=by
 obtain⟨fp,OK,FP,bP,mP,kP⟩:=q0;refine F.okN aef (λvs H Q E h=>?_) (λJi A outer s H vs Q E hr h=>?_)
 ·obtain⟨x,o,rfl,_⟩:=h;rfl
 ·obtain⟨x,o,rfl,px,q⟩:=h;have JD:A1 2 _:=hr.mono (by decide)
  refine⟨_,(ar (bo (PW.pt (iP (cz (cB (aK bX (by rfl) Jg (by rfl) (ao (pv 0) (ao (d7 (by rfl) m_tuple (by rfl) (show aL (.ty "tuple") (.type "tuple") from rfl)) ai rfl) rfl)))) (f9 (cz (cB (aK (fB rfl) (by rfl) Jo (by rfl) (ao (cj (N:=["place"]) (nl:=1) (js:=[]) (osc:=au iW) ⟨rfl,rfl,by decide +kernel,by decide +kernel,by decide +kernel,rfl,.nil,by decide +kernel⟩ rfl
   (pA (pv 0))
   (λC fp s H=>aF (i:=0) (by show(["place"]:F3).Nodup;decide +kernel) rfl (Or.inl rfl) (Or.inr rfl))
   (λC fp s H=>ck)
   (λC fp s H=>(aD FP JD (by rfl) mP kP bP .nil ae (ao (pv 0) ai rfl)))) ai rfl))))))) (az (aG fJ)) aI)
   (az (aG (aK (fB rfl) (by rfl) Jo (by rfl) (ao (cj (g:=jM K 2 (cV (bK 0) (cV (bK 1) Iu))) (N:=["place","later"]) (nl:=2) (js:=[]) (osc:=au iW) ⟨rfl,rfl,by decide +kernel,by decide +kernel,by decide +kernel,rfl,.nil,by decide +kernel⟩ rfl
    (Fk (pv 0) (iX kd (pv 0) (jS aq) j4) (by rfl) Lo)
    (λC fp s H=>(dJ (X:=cS _ ["place","later"] _ C fp s H) rfl (aO (aF (X:=cS _ ["place","later"] _ C fp s H) (i:=0) (by show(["place","later"]:F3).Nodup;decide +kernel) rfl (Or.inl rfl) (Or.inr rfl)) (aO (aF (X:=cS _ ["place","later"] _ C fp s H) (i:=1) (by show(["place","later"]:F3).Nodup;decide +kernel) rfl (Or.inl rfl) (Or.inr rfl)) cJ))))
    (λC fp s H=>ck)
    (λC fp s H=>(cN iJ (pv 0) (pv 1) (aM _)))) ai rfl))))),?_⟩
  cases px with
  |@no x T th ne =>
   refine⟨_,rfl,x,.ty "tuple",_,_,_,rfl,rfl,th.ty,th.isTup,_,rfl,?_⟩;rw[IA ne];exact cA (cA (q _ (aE.refl _)))
  |@tup a xs ha hl PV =>
   refine⟨_,rfl,.ref a,.ty "tuple",_,_,_,rfl,rfl,.of (.tup ha),rfl,_,rfl,cu ?_⟩;have Yq:∀n,n<=xs.length->n<sizeLine:=λn hn=>Hv hn (Bb hl (by decide));refine⟨_,rfl,a,rfl,⟨xs,bq.of ha⟩,?_⟩;refine⟨λi m ys σ' H'=>m=xs.length-i/\i<=xs.length/\ys=((xs.take i).map b7).map V.bl/\H=H'/\∃o,σ'=[o],⟨xs.length,by simp,Gy _,by simp,rfl,none,rfl⟩,?_⟩;rintro i m ys σ' H' ⟨rfl,hi,rfl,rfl,o,rfl⟩;refine⟨Yq _ (by simp;omega),?_⟩
   by_cases Jk:i<xs.length
   ·refine .inr ⟨⟨xs,xs[i],bq.of ha,by simp[Jk]⟩,λy H2 hy=>?_⟩;obtain⟨rfl,hy⟩:=hy;have ey:=hy xs (bq.of ha);obtain⟨T,th⟩:=PV y (Gq ey);dsimp only[oZ,bK];refine cA ⟨_,rfl,y,T,rfl,th,xs.length-(i+1),by omega,rfl,Jk,?_,rfl,_,rfl⟩
    have e2:xs.take (i+1)=xs.take i++[y]:=by
     rw[sf,ey];rfl
    rw[e2];simp
   ·have ei:i=xs.length:=by omega
    subst ei;refine .inl ⟨⟨xs,bq.of ha,yH _⟩,λD hD=>?_⟩;rw[yi];refine⟨D,_,xs.map b7,rfl,a8.of aj,lZ _,_,rfl,?_⟩;have sD:aE H (upd H D (.lst ((xs.map b7).map V.bl))):=av hD
    cases hp:(xs.map b7).all id with
    |false =>
     have z:lW (some xs)=false:=by
      show(xs.all b7&&jF xs)=_
      have:xs.all b7=false:=by rw[<-hp,EU];rfl
      rw[this,xt]
     rw[z] at q;exact cA (q _ sD)
    |true =>
     refine cu ?_
     have z:lW (some xs)=jF xs:=by
      show(xs.all b7&&jF xs)=_
      have:xs.all b7=true:=by rw[<-hp,EU];rfl
      rw[this,Je]
     rw[z] at q;generalize upd H D (.lst ((xs.map b7).map V.bl))=H1 at sD |-;have JK:=sD _ _ ha
     have hint:∀y∈xs,∃n,y=V.int n:=λy hy=>by
      have:b7 y=true:=BP.mp hp _ (FD hy)
      cases y <;> first|exact⟨_,rfl⟩|cases this
     have key:∀(b:Addr)(H2:Hp),aE H H2->H2 a=some (.tup xs)->H2 b=some (.tup (xs.drop 1)) →
      ∃W:Nat->Nat->List V->St->Hp->Prop,(∃m,W 0 m [] [none,none] H2)/\jI (Hx K a b) (jM K 2 (cV (bK 0) (cV (bK 1) Iu))) oZ (oq (AK λi j=>V.bl (decide (i<j))) (dg 0) (dg 1)) W
       λys H'=>∀D,H' D=none->∃l zs bs,[V.ref D]=[V.ref l]/\a8 K (upd H' D (.lst ys)) l zs/\Paired F5 zs bs/\Q (.bl (bs.all id)) (upd H' D (.lst ys)):=by
      intro b H2 s2 h2a h2b;refine⟨λi m ys σ' H'=>m=(xs.drop 1).length-i/\i<=(xs.drop 1).length/\ys=(((xs.zip (xs.drop 1)).take i).map λp=>Hr p.1 p.2).map V.bl/\aE H2 H'/\∃o1 o2,σ'=[o1,o2],⟨(xs.drop 1).length,by simp,Gy _,by simp,aE.refl _,none,none,rfl⟩,?_⟩;rintro i m ys σ' H' ⟨rfl,hi,rfl,sH,o1,o2,rfl⟩;have Nx:=sH _ _ h2a;have Ju:=sH _ _ h2b;refine⟨Yq _ (by simp;omega),?_⟩
      by_cases Jk:i<(xs.drop 1).length
      ·have Lp:i<xs.length:=by rw[zU] at Jk;omega
       refine .inr ⟨⟨xs,xs.drop 1,xs[i],(xs.drop 1)[i],bq.of Nx,bq.of Ju,by simp[Lp],by rw[Ii Jk]⟩,λv H3 hv=>?_⟩;obtain⟨T,x,y,hx,hy,hT,rfl,rfl⟩:=hv;have ex:=hx xs (bq.of Nx);have ey:=hy (xs.drop 1) (bq.of Ju);obtain⟨n,rfl⟩:=hint x (Gq ex);obtain⟨k,rfl⟩:=hint y (List.mem_of_mem_drop (Gq ey));refine⟨T,_,rfl,bq.of aj,rfl,_,_,rfl,_,_,rfl,rfl,?_⟩;dsimp only[oZ];refine cA ⟨_,rfl,_,rfl,n,k,rfl,rfl,(xs.drop 1).length-(i+1),by omega,rfl,Jk,?_,λc u e=>?_,_,_,rfl⟩
       ·have ez:(xs.zip (xs.drop 1))[i]?=some (V.int n,V.int k):=by
         rw[List.getElem?_zip_eq_some];exact⟨ex,ey⟩
        have e2:(xs.zip (xs.drop 1)).take (i+1)=(xs.zip (xs.drop 1)).take i++[(V.int n,V.int k)]:=by
         rw[sf,ez];rfl
        rw[e2];simp[Hr]
       ·rw[aA (aB (sH _ _ e) hT)];exact sH _ _ e
      ·have ei:i=(xs.drop 1).length:=by omega
       subst ei;refine .inl ⟨⟨xs,xs.drop 1,bq.of Nx,bq.of Ju,.inr (yH _)⟩,λD' Ny=>?_⟩
       have et:(xs.zip (xs.drop 1)).take (xs.drop 1).length=xs.zip (xs.drop 1):=by
        apply List.take_of_length_le;rw[List.length_zip];exact jP _ _
       rw[et];refine⟨D',_,(xs.zip (xs.drop 1)).map λp=>Hr p.1 p.2,rfl,a8.of aj,lZ _,?_⟩
       have er:((xs.zip (xs.drop 1)).map λp=>Hr p.1 p.2).all id=jF xs:=by rw[EU];rfl
       rw[er];refine q _ λc u e=>?_;have e1:=sH _ _ (s2 _ _ e);rw[aA (aB e1 Ny)];exact e1
     refine⟨_,rfl,_,rfl,1,rfl,a,xs,rfl,bq.of JK,λe=>?_,λp Yr=>?_⟩
     ·rw[Gd] at e;exact⟨a,a,xs,xs.drop 1,rfl,bq.of JK,bq.of (by rw[e];exact JK),key a H1 sD JK (by rw[e];exact JK)⟩
     ·rw[Gd];have np:a≠p:=aB JK Yr;exact⟨a,p,xs,xs.drop 1,rfl,bq.of (by rw[aA np];exact JK),bq.of aj,key p _ (λc u e=>by rw[aA (aB (sD _ _ e) Yr)];exact sD _ _ e) (by rw[aA np];exact JK) aj⟩
noncomputable abbrev C7:Stmt:=(ba 25)
theorem PX.same {H H':Hp}{x:V}{o:Option (List V)}(h:PX H x o)(s:aE H H'):PX H' x o:=by
 cases h with
 |no th n=>exact .no (th.same s) n
 |tup e l h=>exact .tup (s _ _ e) l λy hy=>let⟨T,t⟩:=h y hy;⟨T,t.same s⟩
inductive yq (p:Int)(H:Hp):V->Bool->Prop where
 |no {x:V}{T:String}:Th H x T->T ≠ "tuple"->yq p H x false
 |odd {a:Addr}{xs:List V}:H a=some (.tup xs)->xs.length≠2->yq p H (.ref a) false
 |two {a:Addr}{y z:V}{o:Option (List V)}{o2:Option (V×V)}:H a=some (.tup [y,z])->PX H y o->TX H z o2->yq p H (.ref a) (lW o&&tw p o2)
theorem yq.same {p:Int}{H H':Hp}{x:V}{b:Bool}(h:yq p H x b)(s:aE H H'):yq p H' x b:=by
 cases h with
 |no th n=>exact .no (th.same s) n
 |odd e n=>exact .odd (s _ _ e) n
 |two e h1 h2=>exact .two (s _ _ e) (h1.same s) (h2.same s)
noncomputable def AD (C:Addr):Sp:=λvs H Q _=>∃(s dx:Addr)(p:Int)(x:V)(b:Bool),vs=[.ref s,x]/\H s=some (.ins C dx (dS p))/\FP p/\yq p H x b/\∀H',aE H H'->Q (.bl b) H'
theorem afg:Eb AZ AZ (au C7):=dX (by decide +kernel)
theorem afh {C:Addr}(F:FY K "is_term" "is_term" C7 f fd)(c:Fv K mg C)(Jg:mg "isinstance"=none)(m_tuple:mg "tuple"=none)(m_len:mg "len"=none)
 (q0:Ca P w K mg base 3 IY "is_product" y4)
 (q1:Cm P w K mg base 2 Bl C "is_number" (ie C)):xk P w K mg base (cI P w) 4 f fd AZ (AD C):=by
 obtain⟨fp,OK,FP',bP,mP,kP⟩:=q0;obtain⟨fi,fdi,FI,bI,mI⟩:=q1;refine F.okN afg (λvs H Q E h=>?_) (λJi A outer s H vs Q E hr h=>?_)
 ·obtain⟨s,dx,p,x,b,rfl,_⟩:=h;rfl
 ·obtain⟨s0,dx,p,x,b,rfl,hs,hp,tx,q⟩:=h;have K1:A1 3 _:=hr.mono (by decide);have JD:A1 2 _:=hr.mono (by decide)
  refine⟨_,az (aG (dH (aK bX (by rfl) Jg (by rfl) (ao (pv 1) (ao (d7 (by rfl) m_tuple (by rfl) (show aL (.ty "tuple") (.type "tuple") from rfl)) ai rfl) rfl))
   (dH (cN dU (aK cb (by rfl) m_len pF (ao (pv 1) ai rfl)) aq (aM _))
   (dH (aD FP' K1 (by rfl) mP kP bP .nil ae (ao (bf bH (pv 1) aq (λ_ _=>rfl)) ai rfl))
   (fk (aR (pv 0) c.cl mI FI JD bI .nil ae (ao (bf bH (pv 1) aq (λ_ _=>rfl)) ai rfl))))))),?_⟩
  cases tx with
  |@no x T th ne =>
   refine⟨_,rfl,x,.ty "tuple",_,_,_,rfl,rfl,th.ty,th.isTup,_,rfl,?_⟩;rw[IA ne];exact cu (q _ (aE.refl _))
  |@odd a xs ha hl =>
   refine⟨_,rfl,.ref a,.ty "tuple",_,_,_,rfl,rfl,.of (.tup ha),rfl,_,rfl,cA ?_⟩;refine⟨_,rfl,a,_,rfl,.inr (bq.of ha),rfl,_,rfl,?_⟩;refine cX (λh=>absurd h (by simp;omega)) (λh=>?_);exact q _ (aE.refl _)
  |@two a y z o o2 ha hy hz =>
   refine⟨_,rfl,.ref a,.ty "tuple",_,_,_,rfl,rfl,.of (.tup ha),rfl,_,rfl,cA ?_⟩;refine⟨_,rfl,a,_,rfl,.inr (bq.of ha),rfl,_,rfl,cA ?_⟩;refine⟨_,rfl,a,_,0,y,rfl,rfl,bq.of ha,rfl,y,o,rfl,hy,λH' sH=>⟨_,rfl,?_⟩⟩;have Mw:=sH _ _ hs;have Nx:=sH _ _ ha
   cases e:lW o with
   |false =>
    rw[e,xt] at q;exact cu (q _ sH)
   |true =>
    rw[e,Je] at q;refine cA ⟨_,rfl,s0,dx,_,rfl,Mw,rfl,_,rfl,a,_,1,z,rfl,rfl,bq.of Nx,rfl,s0,dx,p,z,o2,rfl,Mw,hp,hz.same sH,q _ sH⟩
noncomputable abbrev qt:Stmt:=(ba 26)
noncomputable abbrev rT:Stmt:=(ba 27)
noncomputable def nQ (C:Addr):Sp:=λvs H Q _=>∃(s dx:Addr)(p:Int)(x:V),vs=[.ref s,x]/\H s=some (.ins C dx (dS p))/\FP p /\
 ((x=.non/\∀l,H l=none->Q (.ref l) (upd H l (.lst [])))\/∃l ys,x=.ref l/\H l=some (.lst ys)/\ys.length<4000/\(∀y∈ys,yq p H y true)/\∀H',aE H H'->Q (.ref l) H')
noncomputable def sW:Sp:=λvs H Q _=>∃(a b:Addr)(z:V)(xs:List V),vs=[.ref a]/\H a=some (.tup [.ref b,z])/\H b=some (.tup xs)/\∀t,H t=none->Q (.ref t) (upd H t (.tup [.int xs.length,.ref b]))
theorem jx:Eb ["field","terms","number","thing"] qV (au qt):=dX (by decide +kernel)
theorem ag0:Eb ["term"] ["term"] (au rT):=dX (by decide +kernel)
theorem agc (F:FY K "place_of_term" "place_of_term" rT f fd)(m_len:mg "len"=none):xk P w K mg base (cI P w) 1 f fd ["term"] sW:=by
 refine F.okN ag0 (λvs H Q E h=>?_) (λJi A outer s H vs Q E hr h=>?_)
 ·obtain⟨a,b,z,xs,rfl,_⟩:=h;rfl
 ·obtain⟨a,b,z,xs,rfl,ha,hb,q⟩:=h;refine⟨_,(az (aG (bF (ao (aK cb (by rfl) m_len pF (ao (bf bH (pv 0) aq (λ_ _=>rfl)) ai rfl)) (ao (bf bH (pv 0) aq (λ_ _=>rfl)) ai rfl) rfl)))),?_⟩;refine⟨_,rfl,a,_,0,_,rfl,rfl,bq.of ha,rfl,b,xs,rfl,.inr (bq.of hb),_,rfl,a,_,0,_,rfl,rfl,bq.of ha,rfl,jJ,λt ht=>q t ht⟩
theorem agd {C:Addr}(F:FY K "checked_terms" "checked_terms" qt f fd)(Jg:mg "isinstance"=none)(m_list:mg "list"=none)(Jl:mg "enumerate"=none)
 (q0:Ca P w K mg base 4 AZ "is_term" (AD C)):xk P w K mg base (cI P w) 5 f fd qV (nQ C):=by
 obtain⟨ft,Nt,FT,bT,mT,kT⟩:=q0;refine F.okN jx (λvs H Q E h=>?_) (λJi A outer s H vs Q E hr h=>?_)
 ·obtain⟨s,dx,p,x,rfl,_⟩:=h;rfl
 ·obtain⟨s0,dx,p,x,rfl,hs,hp,h⟩:=h;have KD:A1 4 _:=hr.mono (by decide)
  refine⟨_,(ar (bo (aS afx (pv 1) ae5 (aM _)) (az (aG (cM ai))) aI)
   (ar (bo (cz (cB (aK bX (by rfl) Jg (by rfl) (ao (pv 1) (ao (d7 (by rfl) m_list (by rfl) (show aL (.ty "list") (.type "list") from rfl)) ai rfl) rfl)))) (az (qZ)) aI)
   (ar (eG E5 rfl (acn (pv 1) (by rfl) Jl) (dJ rfl (aO (aF (i:=2) jx.nd rfl (Or.inl rfl)) (aO (aF (i:=3) jx.nd rfl (Or.inl rfl)) cJ)))
   (az (bo (cz (cB (aD FT KD (by rfl) mT kT bT .nil ae (ao (pv 0) (ao (pv 3) ai rfl) rfl)))) (az (qZ)) aI)))
   (az (aG (pv 1)))))),?_⟩
  rcases h with⟨rfl,q⟩|⟨l,ys,rfl,hl,hlen,OL,q⟩
  ·refine⟨_,rfl,rfl,_,rfl,?_⟩;exact cA ⟨Gy _,λl hl=>q l hl⟩
  ·refine⟨_,rfl,rfl,_,rfl,cu ?_⟩;refine⟨_,rfl,.ref l,.ty "list",_,_,_,rfl,rfl,.of (.lst hl),rfl,_,rfl,cu ?_⟩;refine⟨_,rfl,l,ys,rfl,a8.of hl,?_⟩;refine⟨λi m σ' H'=>m=ys.length-i/\i<=ys.length/\aE H H'/\∃o1 o2,σ'=[some (.ref s0),some (.ref l),o1,o2],⟨ys.length,by simp,Gy _,aE.refl _,none,none,rfl⟩,?_⟩;rintro i m σ' H' ⟨rfl,hi,sH,o1,o2,rfl⟩;have KG:=sH _ _ hl
   by_cases Jk:i<ys.length
   ·refine .inr ⟨⟨ys,ys[i],a8.of KG,by simp[Jk]⟩,λσ' H'=>i+1<=ys.length/\aE H H'/\∃o1 o2,σ'=[some (.ref s0),some (.ref l),o1,o2],?_,λv H2 hv=>?_⟩
    ·rintro σ' H' ⟨h1,h2,h3⟩;exact⟨ys.length-(i+1),by omega,rfl,h1,h2,h3⟩
    ·obtain⟨T,y,hy,hT,rfl,rfl⟩:=hv;have ey:=hy ys (a8.of KG)
     have s2:aE H (upd H' T (.tup [.int i,y])):=λc u e=>by
      rw[aA (aB (sH _ _ e) hT)];exact sH _ _ e
     have ty:=(OL y (Gq ey)).same s2;refine⟨T,_,rfl,bq.of aj,rfl,_,_,rfl,_,_,rfl,rfl,?_⟩;refine⟨_,rfl,_,rfl,s0,dx,p,y,true,rfl,s2 _ _ hs,hp,ty,λH3 s3=>⟨_,rfl,cu ?_⟩⟩;exact⟨Jk,λc u e=>s3 _ _ (s2 _ _ e),_,_,rfl⟩
   ·refine .inl ⟨⟨ys,a8.of KG,by omega⟩,?_⟩;exact⟨_,rfl,q _ sH⟩
end K09
namespace Srt
open PySem PySem.W PyProof.Rows
structure Pm (n:Nat)(r:Nat->Nat)(p:Array Nat):Prop where
 size:p.size=n
 lt:∀k,k<n->p.getD k 0<n
 ne:∀k l,k<n->l<n->k≠l->r (p.getD k 0)≠r (p.getD l 0)
 perm:p.Perm (List.range n).toArray
variable {p:Array Nat}{m j:Nat}
section
variable {n:Nat}{r:Nat->Nat}
theorem Pm.nq {n:Nat}{r:Nat->Nat}(P:Pm n r p)(k l:Nat)(hk:k<n)(hl:l<n)(h:k≠l):p.getD k 0≠p.getD l 0:=λz=>P.ne k l hk hl h (by rw[z])
theorem getD_some {k:Nat}(h:k<p.size):p[k]?=some (p.getD k 0):=by simp[Array.getD,h]
theorem vw (inj:∀i j,i<n->j<n->i≠j->r i≠r j)(hp:p.Perm (List.range n).toArray):Pm n r p:=by
 have hl:p.toList.Perm (List.range n):=by simpa using hp.toList
 have hs:p.size=n:=by rw[<-yh,hl.length_eq,xQ]
 have Jk:∀k,k<n->p.getD k 0<n:=λk hk=>by
  have hm:p.getD k 0∈p.toList:=by
   rw[show p.getD k 0=p[k]'(by omega) by simp[Array.getD,hs,hk]];exact Array.mem_toList_iff.mpr (Array.getElem_mem _)
  exact DQ.mp (hl.mem_iff.mp hm)
 refine⟨hs,Jk,λk l hk KG JG=>inj _ _ (Jk k hk) (Jk l KG) λe=>JG ?_,hp⟩;have nd:p.toList.Nodup:=hl.nodup_iff.mpr List.nodup_range
 have e1:p.toList[k]'(by simp;omega)=p.toList[l]'(by simp;omega):=by
  rw[show p.getD k 0=p[k]'(by omega) by simp[Array.getD,hs,hk],show p.getD l 0=p[l]'(by omega) by simp[Array.getD,hs,KG]] at e;simpa using e
 have pw:=yo.mp (show p.toList.Pairwise (· ≠ ·) from nd)
 rcases wL k l with z|z|z
 ·exact absurd e1 (pw k l _ _ z)
 ·exact z
 ·exact absurd e1.symm (pw l k _ _ z)
noncomputable def Up (r:Nat->Nat)(p:Array Nat)(m:Nat):Prop:=∀i j,i<j->j<m->r (p.getD i 0)<r (p.getD j 0)
noncomputable def Dn (r:Nat->Nat)(p:Array Nat)(m:Nat):Prop:=∀i j,i<j->j<m->r (p.getD j 0)<r (p.getD i 0)
theorem Up.succ (h:Up r p m)(h1:1<=m)(e:r (p.getD (m-1) 0)<r (p.getD m 0)):Up r p (m+1):=λi j Kq hj=>by
 by_cases z:j=m
 ·subst z
  by_cases z2:i=j-1
  ·subst z2;exact e
  ·exact Bb (h i (j-1) (by omega) (by omega)) e
 ·exact h i j Kq (by omega)
theorem Dn.succ (h:Dn r p m)(h1:1<=m)(e:r (p.getD m 0)<r (p.getD (m-1) 0)):Dn r p (m+1):=λi j Kq hj=>by
 by_cases z:j=m
 ·subst z
  by_cases z2:i=j-1
  ·subst z2;exact e
  ·exact Bb e (h i (j-1) (by omega) (by omega))
 ·exact h i j Kq (by omega)
theorem vA {k:Nat}(hm:m<=p.size)(hk:k<p.size):(kas_rev p 0 m).getD k 0=if k<m then p.getD (m-1-k) 0 else p.getD k 0:=by
 have e:=getElem?_mirror_all (xs:=p) (i:=0) hm k;have hs:(kas_rev p 0 m).size=p.size:=mirror_size _ _ _ _;have e2:(kas_rev p 0 m)[k]?=some ((kas_rev p 0 m).getD k 0):=getD_some (by rw[hs];exact hk)
 have e3:(kas_rev p 0 m)[k]?=if 0<=k/\k<m then p[0+m-1-k]? else p[k]?:=e
 rw[e2] at e3
 by_cases h:k<m
 ·rw[qk ⟨Gy _,h⟩,show 0+m-1-k=m-1-k by omega,getD_some (by omega)] at e3;rw[qk h];exact Option.some.inj e3
 ·rw[IX (λz=>h z.2),getD_some hk] at e3;rw[IX h];exact Option.some.inj e3
theorem Dn.rev (h:Dn r p m)(hm:m<=p.size):Up r (kas_rev p 0 m) m:=λi j Kq hj=>by
 rw[vA hm (by omega),vA hm (by omega),qk (by omega),qk hj];exact h _ _ (by omega) (by omega)
variable {cmp:Nat->Nat->(Bool->Shared->Prop)->Shared->Prop}{s:pL}
theorem sj (hc:∀i j C,i<n->j<n->i≠j->C (decide (r i<r j)) s->cmp i j C s)(P:Pm n r p){Q:Nat->Shared->Prop}:∀(f m:Nat),1<=m->m+f=n->Up r p m →
 (∀m',m<=m'->m'<=n->Up r p m'->(m'<n->r (p.getD m' 0)<r (p.getD (m'-1) 0))->Q m' s)->(kas_asc p f m).kasWp cmp Q s
 |0,m,h1,hm,hu,hQ=>hQ m (yH _) (by omega) hu λh=>by omega
 |f+1,m,h1,hm,hu,hQ=>by
  refine hc _ _ _ (P.lt m (by omega)) (P.lt (m-1) (by omega)) (P.nq m (m-1) (by omega) (by omega) (by omega)) ?_;show((if decide (r (p.getD m 0)<r (p.getD (m-1) 0))=true then KasT.ret m else kas_asc p f (m+1)).kasWp cmp Q s)
  by_cases h:r (p.getD m 0)<r (p.getD (m-1) 0)
  ·rw[qk (Iw h)];exact hQ m (yH _) (by omega) hu λ_=>h
  ·rw[IX (by simpa using h)];have ne:=P.ne m (m-1) (by omega) (by omega) (by omega);exact sj hc P f (m+1) (by omega) (by omega) (hu.succ h1 (by omega)) λm' h2=>hQ m' (by omega)
theorem v7 (hc:∀i j C,i<n->j<n->i≠j->C (decide (r i<r j)) s->cmp i j C s)(P:Pm n r p){Q:Array Nat×Nat×Nat->Shared->Prop}:∀(f m:Nat),1<=m->m+f=n->Dn r p m →
 (∀m',m<=m'->m'<=n->Dn r p m'->Q (p,m',0) s)->(kas_desc f p m 0).kasWp cmp Q s
 |0,m,h1,hm,hu,hQ=>hQ m (yH _) (by omega) hu
 |f+1,m,h1,hm,hu,hQ=>by
  refine hc _ _ _ (P.lt m (by omega)) (P.lt (m-1) (by omega)) (P.nq m (m-1) (by omega) (by omega) (by omega)) ?_
  by_cases h:r (p.getD m 0)<r (p.getD (m-1) 0)
  ·rw[Iw h];exact v7 hc P f (m+1) (by omega) (by omega) (hu.succ h1 h) λm' h2=>hQ m' (by omega)
  ·rw[IA h];refine hc _ _ _ (P.lt (m-1) (by omega)) (P.lt m (by omega)) (P.nq (m-1) m (by omega) (by omega) (by omega)) ?_;have ne:=P.ne m (m-1) (by omega) (by omega) (by omega);rw[Iw (show r (p.getD (m-1) 0)<r (p.getD m 0) by omega)];exact hQ m (yH _) (by omega) hu
theorem age (inj:∀i j,i<n->j<n->i≠j->r i≠r j)(hc:∀i j C,i<n->j<n->i≠j->C (decide (r i<r j)) s->cmp i j C s)(P:Pm n r p){Q:Nat×Array Nat->Shared->Prop}(h1:1<=m)(hm:m<=n)(hd:Dn r p m)
 (hQ:∀m' p',m'<=n->1<=m'->Pm n r p'->Up r p' m'->Q (m',p') s):(kas_tail3 m n p).kasWp cmp Q s:=by
 unfold kas_tail3;rw[HJ];have P':Pm n r (kas_rev p 0 m):=vw inj ((mirror_perm _ _ _ _).trans P.perm);exact sj hc P' (n-m) m h1 (by omega) (hd.rev (by rw[P.size];exact hm)) λm' h2 h3 h4 _=>hQ m' _ h3 (by omega) P' h4
theorem agh (inj:∀i j,i<n->j<n->i≠j->r i≠r j)(hc:∀i j C,i<n->j<n->i≠j->C (decide (r i<r j)) s->cmp i j C s)(h0:1<=n)(P:Pm n r p){Q:Nat×Array Nat->Shared->Prop}
 (hQ:∀m' p',m'<=n->1<=m'->Pm n r p'->Up r p' m'->Q (m',p') s):(kas_count n p).kasWp cmp Q s:=by
 unfold kas_count;rw[HJ];refine sj hc P (n-1) 1 (yH _) (by omega) (λi j Kq hj=>by omega) λm h1 h2 h3 h4=>?_
 by_cases e:m=n
 ·subst e;rw[qk (by simp)];exact hQ _ _ (yH _) h1 P h3
 ·rw[IX (by simpa using e)]
  by_cases h5:m>1
  ·rw[qk h5];refine hc _ _ _ (P.lt 0 (by omega)) (P.lt (m-1) (by omega)) (P.nq 0 (m-1) (by omega) (by omega) (by omega)) ?_;rw[Iw (h3 0 (m-1) (by omega) (by omega))];exact hQ _ _ h2 h1 P h3
  ·rw[IX h5]
   have e1:m=1:=by omega
   subst e1;unfold kas_descPart;rw[HJ];have d2:Dn r p (1+1):=Dn.succ (λi j Kq hj=>by omega) (yH _) (h4 (by omega));refine v7 hc P (n-(1+1)) (1+1) (by omega) (by omega) d2 λm' h6 h7 h8=>?_;show((if 0>0 then _ else kas_tail3 m' n p).kasWp cmp Q s);rw[IX (by omega)];exact age inj hc P (by omega) h7 h8 hQ
theorem kf (hc:∀i j C,i<n->j<n->i≠j->C (decide (r i<r j)) s->cmp i j C s)(P:Pm n r p){Q:Nat->Shared->Prop}{k:Nat}(hk:k<n)(hu:Up r p k):∀(f l q:Nat),l<=q->q<=k->q-l<=f->(∀j,j<l->r (p.getD j 0)<r (p.getD k 0))->(∀j,q<=j->j<k->r (p.getD k 0)<r (p.getD j 0)) →
 (∀l',l'<=k->(∀j,j<l'->r (p.getD j 0)<r (p.getD k 0))->(∀j,l'<=j->j<k->r (p.getD k 0)<r (p.getD j 0))->Q l' s)->(kas_place p k f l q).kasWp cmp Q s
 |0,l,q,h1,h2,h3,h4,h5,hQ=>hQ l (by omega) h4 λj h6 h7=>h5 j (by omega) h7
 |f+1,l,q,h1,h2,h3,h4,h5,hQ=>by
  unfold kas_place
  by_cases h:l ≥ q
  ·rw[qk h];exact hQ l (by omega) h4 λj h6 h7=>h5 j (by omega) h7
  ·rw[IX h];refine hc _ _ _ (P.lt k hk) (P.lt ((l+q)/2) (by omega)) (P.nq k ((l+q)/2) hk (by omega) (by omega)) ?_;have ne:=P.ne k ((l+q)/2) hk (by omega) (by omega)
   by_cases z:r (p.getD k 0)<r (p.getD ((l+q)/2) 0)
   ·rw[Iw z];refine kf hc P hk hu f l ((l+q)/2) (by omega) (by omega) (by omega) h4 (λj h6 h7=>?_) hQ
    by_cases e:j=(l+q)/2
    ·subst e;exact z
    ·exact Bb z (hu _ _ (by omega) h7)
   ·rw[IA z];refine kf hc P hk hu f ((l+q)/2+1) q (by omega) h2 (by omega) (λj h6=>?_) h5 hQ
    by_cases e:j=(l+q)/2
    ·subst e;omega
    ·have:=hu j ((l+q)/2) (by omega) (by omega);omega
theorem uN {k l:Nat}(hk:k<p.size)(hl:l<=k)(hj:j<p.size):(bubble p k (k-l)).getD j 0=if j=l then p.getD k 0 else if l<j/\j<=k then p.getD (j-1) 0 else p.getD j 0:=by
 have e:=getElem?_bubble hk (k-l) (by omega) j;rw[show k-(k-l)=l by omega,getD_some (by rw[bubble_size];exact hj)] at e
 by_cases h1:j=l
 ·rw[qk h1,getD_some hk] at e;rw[qk h1];exact Option.some.inj e
 ·rw[IX h1] at e |-
  by_cases h2:l<j/\j<=k
  ·rw[qk h2,getD_some (by omega)] at e;rw[qk h2];exact Option.some.inj e
  ·rw[IX h2,getD_some hj] at e;rw[IX h2];exact Option.some.inj e
theorem AB (inj:∀i j,i<n->j<n->i≠j->r i≠r j)(hc:∀i j C,i<n->j<n->i≠j->C (decide (r i<r j)) s->cmp i j C s){Q:Array Nat->Shared->Prop}(hQ:∀p',Pm n r p'->Up r p' n->Q p' s):∀(f:Nat)(p:Array Nat)(k:Nat),Pm n r p->k+f=n->Up r p k->(kas_bin f p k).kasWp cmp Q s
 |0,p,k,P,hk,hu=>hQ p P (by rw[<-hk];exact hu)
 |f+1,p,k,P,hk,hu=>by
  unfold kas_bin;rw[HJ];refine kf hc P (by omega) hu k 0 k (Gy _) (yH _) (by omega) (λj h=>by omega) (λj h1 h2=>by omega) λl h1 h2 h3=>?_;have P':Pm n r (bubble p k (k-l)):=vw inj ((bubble_perm _ _ _).trans P.perm);refine AB inj hc hQ f _ (k+1) P' (by omega) λi j Kq hj=>?_;have sz:=P.size;rw[uN (by omega) h1 (by omega),uN (by omega) h1 (by omega)]
  by_cases e1:i=l
  ·rw[qk e1,IX (by omega),qk ⟨by omega,by omega⟩];exact h3 _ (by omega) (by omega)
  ·rw[IX e1]
   by_cases e2:j=l
   ·rw[qk e2,IX (by omega)];exact h2 _ (by omega)
   ·rw[IX e2]
    by_cases e3:l<j
    ·rw[qk (show l<j/\j<=k from⟨e3,by omega⟩)]
     by_cases e4:l<i
     ·rw[qk ⟨e4,by omega⟩];exact hu _ _ (by omega) (by omega)
     ·rw[IX (by omega)];exact hu _ _ (by omega) (by omega)
    ·rw[IX (by omega),IX (by omega)];exact hu _ _ Kq (by omega)
theorem agk (inj:∀i j,i<n->j<n->i≠j->r i≠r j)(hc:∀i j C,i<n->j<n->i≠j->C (decide (r i<r j)) s->cmp i j C s)(h0:1<=n){Q:Array Nat->Shared->Prop}(hQ:∀p',Pm n r p'->Up r p' n->Q p' s):(kas_sort n).kasWp cmp Q s:=by
 unfold kas_sort;rw[HJ];refine agh inj hc h0 (vw inj (Array.Perm.refl _)) λm p h1 h2 P hu=>?_;show((if m<n then kas_bin (n-max m 1) p (max m 1) else KasT.ret p).kasWp cmp Q s)
 by_cases h:m<n
 ·rw[qk h,show max m 1=m by omega];exact AB inj hc hQ _ _ _ P (by omega) hu
 ·rw[IX h]
  have e:m=n:=by omega
  subst e;exact hQ p P hu
end
variable {n:Nat}
section
variable {prog:xq}{w:World}{A:Around}{E:AU}{s:pL}
noncomputable def agl (prog:xq)(w:World)(A:Around)(ks:HF)(r:Nat->Nat)(s:pL):Prop :=
 ∃κ,(∀Q:SortKind->Shared->Prop,Q κ s->wpAny (model prog w) A (keyKind' ks.toArray) Q (λ_ _=>False) s)/\∀i j C,i<ks.length->j<ks.length->i≠j->C (decide (r i<r j)) s->kas_ask prog w A κ ks i j C s
noncomputable def gY (vs:HF)(p:Array Nat):List Value:=p.toList.map λi=>vs.getD i Value.none
theorem agm (vs:HF):gY vs (List.range vs.length).toArray=vs:=by
 unfold gY;apply Em
 ·simp
 ·intro i h1 h2;simp[h2]
theorem gD (h:n<64):n<=sizeLine:=by rw[Fq];omega
end
open L2
noncomputable abbrev Ky:=Int×List Int
noncomputable def mD (a b:Ky):Bool:=if a.1=b.1 then HT.de a.2 b.2 else decide (a.1<b.1)
theorem me:∀xs:List Int,HT.de xs xs=false
 |[]=>rfl
 |x::xs=>by rw[HT.eC,qk rfl];exact me xs
theorem nX:∀{xs ys zs:List Int},HT.de xs ys=true->HT.de ys zs=true->HT.de xs zs=true
 |[],[],_,h,_=>by cases h
 |[],y::ys,[],_,h=>by cases h
 |[],y::ys,z::zs,_,_=>rfl
 |x::xs,[],_,h,_=>by cases h
 |x::xs,y::ys,[],_,h=>by cases h
 |x::xs,y::ys,z::zs,h1,h2=>by
  rw[HT.eC] at h1 h2 |-
  by_cases e1:x=y
  ·rw[qk e1] at h1
   by_cases e2:y=z
   ·rw[qk e2] at h2;rw[qk (e1.trans e2)];exact nX h1 h2
   ·rw[IX e2] at h2;rw[e1,IX e2];exact h2
  ·rw[IX e1] at h1;have l1:=mZ h1
   by_cases e2:y=z
   ·rw[<-e2,IX e1];exact h1
   ·rw[IX e2] at h2;have l2:=mZ h2;rw[IX (by omega)];exact Iw (by omega)
theorem oE:∀{xs ys:List Int},xs≠ys->HT.de xs ys=true\/HT.de ys xs=true
 |[],[],h=>absurd rfl h
 |[],y::ys,_=>.inl rfl
 |x::xs,[],_=>.inr rfl
 |x::xs,y::ys,h=>by
  rw[HT.eC,HT.eC]
  by_cases e:x=y
  ·subst e;rw[qk rfl,qk rfl];exact oE λz=>h (by rw[z])
  ·rw[IX e,IX (Bt e)];simp only[Hm];omega
theorem lD (a:Ky):mD a a=false:=by unfold mD;rw[qk rfl];exact me _
theorem je {a b c:Ky}(h1:mD a b=true)(h2:mD b c=true):mD a c=true:=by
 unfold mD at h1 h2 |-
 by_cases e1:a.1=b.1
 ·rw[qk e1] at h1
  by_cases e2:b.1=c.1
  ·rw[qk e2] at h2;rw[qk (e1.trans e2)];exact nX h1 h2
  ·rw[IX e2] at h2;rw[e1,IX e2];exact h2
 ·rw[IX e1] at h1;have l1:=mZ h1
  by_cases e2:b.1=c.1
  ·rw[<-e2,IX e1];exact h1
  ·rw[IX e2] at h2;have l2:=mZ h2;rw[IX (by omega)];exact Iw (by omega)
theorem jt {a b:Ky}(h:a≠b):mD a b=true\/mD b a=true:=by
 unfold mD
 by_cases e:a.1=b.1
 ·rw[qk e,qk e.symm];exact oE λz=>h (Ey e z)
 ·rw[IX e,IX (Bt e)];simp only[Hm];omega
noncomputable def c5 (ks:List Ky)(i:Nat):Ky:=ks.getD i (0,[])
noncomputable def rk (ks:List Ky)(i:Nat):Nat:=(List.range ks.length).countP λj=>mD (c5 ks j) (c5 ks i)
theorem nA {α:Type}{p q:α->Bool}:∀{l:List α},(∀x∈l,p x=true->q x=true)->(∃x∈l,q x=true/\p x=false)->l.countP p<l.countP q
 |[],_,⟨x,hx,_⟩=>by cases hx
 |a::l,h,⟨x,hx,h1,h2⟩=>by
  have le:∀l':List α,(∀x∈l',p x=true->q x=true)->l'.countP p<=l'.countP q:=λl' h'=>List.countP_mono_left h';rw[List.countP_cons,List.countP_cons]
  rcases HK.mp hx with rfl|hx
  ·rw[qk h1,IX (by rw[h2];exact E7)];have:=le l λx hx=>h x (rB _ hx);omega
  ·have ih:=nA (l:=l) (λx hx=>h x (rB _ hx)) ⟨x,hx,h1,h2⟩;have h0:=h a qT
   cases e:p a with
   |false=>simp only[BU,wR];omega
   |true=>rw[h0 e];simp only[Ij];omega
variable {ks:List Ky}
theorem iD {i:Nat}(hi:i<ks.length)(h:mD (c5 ks i) (c5 ks j)=true):rk ks i<rk ks j :=
 nA (λl _ hl=>je hl h) ⟨i,DQ.mpr hi,h,lD _⟩
theorem AR {i:Nat}(hi:i<ks.length)(hj:j<ks.length):decide (rk ks i<rk ks j)=mD (c5 ks i) (c5 ks j):=by
 cases e:mD (c5 ks i) (c5 ks j) with
 |true=>exact Iw (iD hi e)
 |false =>
  refine IA λz=>?_
  by_cases k:c5 ks i=c5 ks j
  ·unfold rk at z;rw[k] at z;exact GH _ z
  ·rcases jt k with h|h
   ·rw[e] at h;cases h
   ·exact Nat.lt_asymm z (iD hj h)
theorem abU (nd:ks.Nodup):∀i j,i<ks.length->j<ks.length->i≠j->rk ks i≠rk ks j:=λi j hi hj JG z=>by
 have k:c5 ks i≠c5 ks j:=λe=>by
  have e':ks[i]=ks[j]:=by
   unfold c5 at e;simpa[hi,hj] using e
  have pw:=yo.mp (show ks.Pairwise (· ≠ ·) from nd)
  rcases Nat.lt_or_gt_of_ne JG with l|l
  ·exact pw i j _ _ l e'
  ·exact pw j i _ _ l e'.symm
 rcases jt k with h|h
 ·have:=iD hi h;omega
 ·have:=iD hj h;omega
noncomputable def vq (K:Frag)(H:Hp)(x:V)(k:Ky):Prop:=∃a b rest,x=.ref a/\bq K H a (.int k.1 :: .ref b::rest)/\bq K H b (k.2.map V.int)
noncomputable def dY (K:Frag)(H:Hp):List V->List Ky->Prop
 |[],[]=>True
 |x::xs,k::ks=>vq K H x k/\dY K H xs ks
 |_,_=>False
variable {K:Frag}{H:Hp}
theorem dY.len :∀{xs:List V}{ks:List Ky},dY K H xs ks->xs.length=ks.length
 |[],[],_=>rfl
 |_::_,_::_,⟨_,r⟩=>Ec (·+1) r.len
 |[],_::_,h=>h.elim
 |_::_,[],h=>h.elim
theorem dY.get :∀{xs:List V}{ks:List Ky}{i:Nat}{x:V},dY K H xs ks->xs[i]?=some x->vq K H x (c5 ks i)
 |x::xs,k::ks,0,y,⟨h,_⟩,e=>by simp at e;subst e;exact h
 |x::xs,k::ks,i+1,y,⟨_,r⟩,e=>by
  have:=r.get (i:=i) (x:=y) (by simpa using e);simpa[c5] using this
 |[],[],i,y,_,e=>by simp at e
 |[],_::_,_,_,h,_=>h.elim
 |_::_,[],_,_,h,_=>h.elim
theorem ic :∀ns:List Int,bz K H (ns.map D.int) (ns.map V.int)
 |[]=>by unfold bz;rfl
 |n::ns=>by unfold bz;exact⟨_,_,rfl,by unfold aQ;rfl,ic ns⟩
theorem abX (ns:List Int):jz (.tup (ns.map D.int))<=1:=by
 unfold jz
 have:∀ms:List Int,fK (ms.map D.int)=0:=λms=>by
  induction ms with
  |nil=>unfold fK;rfl
  |cons m ms ih=>rw[IZ];unfold fK;rw[ih];unfold jz;rfl
 rw[this];omega
theorem iZ:∀ns ms:List Int,eB (ns.map D.int) (ms.map D.int)=decide (ns=ms)
 |[],[]=>by simp;rfl
 |[],m::ms=>by simp;rfl
 |n::ns,[]=>by simp;rfl
 |n::ns,m::ms=>by
  show((n==m)&&eB (ns.map D.int) (ms.map D.int))=_;rw[iZ ns ms]
  by_cases e:n=m
  ·subst e;simp
  ·simp[e]
variable {xs:List V}{us:HF}
section
variable {X:Cx}{pins:List (Addr×Obj)}{σ:L2.St}{H:Hp}{s:pL}
theorem ab7 {A:Around}{x y:V}{u v:Value}{k j:Ky}{C:Bool->Shared->Prop}{E:AU}(I:Inv X pins σ H s)(hA:A.units+2<cLine)(hx:vq X.K H x k)(hy:vq X.K H y j)(rx:aL x u)(ry:aL y v)(ne:k≠j)(h:C (mD k j) s):
 wpAny (model X.prog X.w) A (keyLt' (tuples' true) u v) C E s:=by
 obtain⟨a,b,rest,rfl,h1,h2⟩:=hx;obtain⟨a',b',Ys,rfl,KO,Lm⟩:=hy
 cases(show u=Value.ref a from rx)
 cases(show v=Value.ref a' from ry)
 obtain⟨its,r1,⟨o1,g1,_,n1,d1⟩,_⟩:=I.tuple h1;obtain⟨its',TL,⟨o1',PL,_,n1',d1'⟩,_⟩:=I.tuple KO;refine kat_lt g1 d1 PL d1' ?_
 cases r1 with
 |cons q1 r1 =>
  cases r1 with
  |cons q2 r1 =>
   cases TL with
   |cons q1' TL =>
    cases TL with
    |cons q2' TL =>
     obtain⟨t,rfl⟩:=q1;obtain⟨t',rfl⟩:=q1'
     rename_i w2 _ w2' _
     cases(show w2=Value.ref b from q2)
     cases(show w2'=Value.ref b' from q2')
     show KatLex _ _ _ _ _ _ ((Value.int k.1 t,Value.int j.1 t'):: (Value.ref b,Value.ref b'):: _) 0 s;refine kat_cons (qz k.1 t j.1 t' X.prog X.w _ _ ?_)
     have klt_def:mD k j=if k.1=j.1 then HT.de k.2 j.2 else decide (k.1<j.1):=rfl
     refine kat_go (λe=>kat_yes ?_) λe=>kat_no ?_
     ·have e1:k.1=j.1:=by simpa using e
      have n2:k.2≠j.2:=λz=>ne (Ey e1 z);have dd:=(fH I 1 A (.tup (k.2.map D.int)) (.tup (j.2.map D.int)) (.ref b) (.ref b') (.ref b) (.ref b') (abX _) (by omega) (by unfold aQ;exact⟨b,_,rfl,h2,ic _⟩) (by unfold aQ;exact⟨b',_,rfl,Lm,ic _⟩) rfl rfl).2.1;have e2:d6 (.tup (k.2.map D.int)) (.tup (j.2.map D.int))=false:=(iZ _ _).trans (IA n2);rw[e2] at dd;refine kat_cons (dd X.prog X.w _ _ (kat_no ?_));rw[klt_def,qk e1] at h;obtain⟨Jj,p2,t2,_⟩:=I.tuple h2;obtain⟨Yt,p2',t2',_⟩:=I.tuple Lm;exact kat_one _ _ (HT.abw t2 t2' (mz p2) (mz p2') (by omega) h)
     ·have e1:k.1≠j.1:=by simpa using e
      rw[klt_def,IX e1] at h;exact oneLt_int h
theorem acg (I:Inv X pins σ H s)(xs:List V):∀(ks:List Ky)(us:HF),dY X.K H xs ks->aN xs us->∃fs:List Value,KatTups s.heap us fs/\fs.length=us.length/\∀f∈fs,∃i t,f=Value.int i t:=by
 induction xs with
 |nil =>
  intro ks us _ r
  cases r
  exact⟨[],.nil,rfl,λf hf=>by cases hf⟩
 |cons x xs ih =>
  intro ks us h r
  cases ks with
  |nil=>exact h.elim
  |cons k ks =>
   cases r with
   |cons rx rv =>
    rename_i u us
    obtain⟨⟨a,b,rest,e,h1,_⟩,hr⟩:=h;obtain⟨fs,t,hl,hf⟩:=ih ks us hr rv;subst e
    cases(show u=Value.ref a from rx)
    obtain⟨its,r1,⟨o1,g1,c1,n1,d1⟩,_⟩:=I.tuple h1
    cases r1 with
    |cons q1 r1 =>
     obtain⟨tk,rfl⟩:=q1;refine⟨Value.int k.1 tk::fs,.cons g1 c1 d1 rfl t,by simp[hl],λf hf'=>?_⟩
     rcases HK.mp hf' with rfl|z
     ·exact⟨_,_,rfl⟩
     ·exact hf f z
theorem ach {A:Around}(I:Inv X pins σ H s)(hA:A.units+2<cLine)(hk:dY X.K H xs ks)(rv:aN xs us)(nd:ks.Nodup)(h2:2<=us.length):agl X.prog X.w A us (rk ks) s:=by
 obtain⟨fs,t,hl,hf⟩:=acg I xs ks us hk rv;have xj:=hk.len;have HE:=rv.length;refine⟨tuples' true,λQ hq=>kat_kind (T:=Value.type "int") t (by omega) (λv hv=>?_) (by decide) hq,λi j C hi hj JG hc=>?_⟩
 ·obtain⟨i,tk,rfl⟩:=hf v hv;exact .now
 ·have gi:∃x,xs[i]?=some x/\aL x (us.getD i .none):=by
   have Yu:i<xs.length:=by omega
   obtain⟨u,e,r⟩:=rv.get (i:=i) (x:=xs[i]) (by simp[Yu]);refine⟨xs[i],by simp[Yu],?_⟩;rw[GJ,e];exact r
  have gj:∃x,xs[j]?=some x/\aL x (us.getD j .none):=by
   have LS:j<xs.length:=by omega
   obtain⟨u,e,r⟩:=rv.get (i:=j) (x:=xs[j]) (by simp[LS]);refine⟨xs[j],by simp[LS],?_⟩;rw[GJ,e];exact r
  obtain⟨x,ex,rx⟩:=gi;obtain⟨y,ey,ry⟩:=gj;rw[AR (by omega) (by omega)] at hc
  have kne:c5 ks i≠c5 ks j:=λz=>by
   have e':ks[i]'(by omega)=ks[j]'(by omega):=by
    unfold c5 at z;simpa[show i<ks.length by omega,show j<ks.length by omega] using z
   have pw:=yo.mp (show ks.Pairwise (· ≠ ·) from nd)
   rcases Nat.lt_or_gt_of_ne JG with l|l
   ·exact pw i j _ _ l e'
   ·exact pw j i _ _ l e'.symm
  exact ab7 I hA (hk.get ex) (hk.get ey) rx ry kne hc
end
section
variable {α:Type}
noncomputable def mH (k:Ky)(x:α):List (Ky×α)->List (Ky×α)
 |[]=>[(k,x)]
 |(j,y):: r=>if mD k j=true then(k,x):: (j,y):: r else(j,y):: mH k x r
noncomputable def eN:List (Ky×α)->List (Ky×α)
 |[]=>[]
 |(k,x):: r=>mH k x (eN r)
theorem jB (k:Ky)(x:α):∀l:List (Ky×α),(mH k x l).Perm ((k,x):: l)
 |[]=>.refl _
 |(j,y):: r=>by
  unfold mH
  split
  ·exact .refl _
  ·exact((jB k x r).cons _).trans (.swap _ _ _)
theorem dE:∀l:List (Ky×α),(eN l).Perm l
 |[]=>.refl _
 |(k,x):: r=>(jB k x _).trans ((dE r).cons _)
noncomputable def EK (l:List (Ky×α)):Prop:=l.Pairwise λa b=>mD a.1 b.1=true
theorem vW {k:Ky}{x:α}:∀{l:List (Ky×α)},EK l->(∀p∈l,p.1≠k)->EK (mH k x l)
 |[],_,_=>List.pairwise_singleton _ _
 |(j,y):: r,h,hn=>by
  obtain⟨h1,h2⟩:=tN.mp h;unfold mH
  by_cases e:mD k j=true
  ·rw[qk e];refine tN.mpr ⟨λp hp=>?_,h⟩
   rcases HK.mp hp with rfl|hp
   ·exact e
   ·exact je e (h1 p hp)
  ·rw[IX e];have jk:mD j k=true:=(jt (hn _ qT)).resolve_right e;refine tN.mpr ⟨λp hp=>?_,vW h2 λp hp=>hn p (rB _ hp)⟩
   rcases HK.mp ((jB k x r).mem_iff.mp hp) with rfl|hp
   ·exact jk
   ·exact h1 p hp
theorem mj:∀{l:List (Ky×α)},(l.map (·.1)).Nodup->EK (eN l)
 |[],_=>.nil
 |(k,x):: r,h=>by
  obtain⟨h1,h2⟩:=DO.mp h;exact vW (mj h2) λp hp z=>h1 (z▸FD (f:=(·.1)) ((dE r).mem_iff.mp hp))
theorem oJ:∀{l1 l2:List (Ky×α)},EK l1->EK l2->l1.Perm l2->l1=l2
 |[],l2,_,_,p=>(List.nil_perm.mp p).symm
 |a::l1,[],_,_,p=>(List.nil_perm.mp p.symm)
 |a::l1,b::l2,h1,h2,p=>by
  obtain⟨u1,v1⟩:=tN.mp h1;obtain⟨u2,v2⟩:=tN.mp h2
  have e:a=b:=by
   rcases HK.mp (p.mem_iff.mp qT) with z|z
   ·exact z
   ·rcases HK.mp (p.mem_iff.mpr (qT (a:=b) (l:=l2))) with w|w
    ·exact w.symm
    ·have c1:=u2 a z;have c2:=u1 b w;have c3:=je c1 c2;rw[lD] at c3
     cases c3
  subst e;rw[oJ v1 v2 (List.Perm.cons_inv p)]
theorem rK {l1 l2:List (Ky×α)}(nd:(l2.map (·.1)).Nodup)(h:EK l1)(p:l1.Perm l2):l1=eN l2:=oJ h (mj nd) (p.trans (dE l2).symm)
theorem aci {l1 l2:List (Ky×α)}(nd:(l2.map (·.1)).Nodup)(p:l1.Perm l2):eN l1=eN l2:=by
 refine rK nd (mj ?_) ((dE l1).trans p);exact(p.map (·.1)).nodup_iff.mpr nd
end
noncomputable def Gv (xs:List V)(p:Array Nat):List V:=p.toList.map λi=>xs.getD i .non
theorem aco (rv:aN xs us){r:Nat->Nat}(P:Pm n r p)(hn:n<=xs.length):aN (Gv xs p) (gY us p):=by
 have key:∀l:List Nat,(∀i∈l,i<xs.length)->aN (l.map λi=>xs.getD i .non) (l.map λi=>us.getD i Value.none):=by
  intro l
  induction l with
  |nil=>intro _;exact .nil
  |cons i l ih =>
   intro h;have hi:=h i qT;obtain⟨u,e,r⟩:=rv.get (i:=i) (x:=xs[i]) (by simp[hi]);refine .cons ?_ (ih λj hj=>h j (rB _ hj));show aL (xs.getD i .non) (us.getD i Value.none);rw[GJ,GJ,e,show xs[i]?=some xs[i] by simp[hi]];exact r
 refine key p.toList λi hi=>?_
 have z:i∈(List.range n):=by
  have pl:p.toList.Perm (List.range n):=by simpa using P.perm.toList
  exact pl.mem_iff.mp hi
 have:=DQ.mp z;omega
theorem acv (hl:xs.length=ks.length)(nd:ks.Nodup)(P:Pm xs.length (rk ks) p)(U:Up (rk ks) p xs.length):Gv xs p=(eN (ks.zip xs)).map (·.2):=by
 have pl:p.toList.Perm (List.range xs.length):=by simpa using P.perm.toList
 have e1:(List.range xs.length).map (λi=>(c5 ks i,xs.getD i V.non))=ks.zip xs:=by
  apply Em
  ·simp[hl]
  ·intro i h1 h2
   have hi:i<xs.length:=by simpa using h1
   have hk:i<ks.length:=by omega
   simp[c5,hi,hk]
 have z:p.toList.map (λi=>(c5 ks i,xs.getD i V.non))=eN (ks.zip xs):=by
  refine rK ?_ ?_ ?_
  ·rw[List.map_fst_zip (by omega)];exact nd
  ·unfold EK;rw[yP];refine yo.mpr λi j hi hj Kq=>?_;have sz:=P.size;rw[yh] at hi hj;have u:=U i j Kq (by omega)
   have gi:p.getD i 0=p.toList[i]:=by simp[Array.getD,hi]
   have gj:p.getD j 0=p.toList[j]:=by simp[Array.getD,hj]
   rw[gi,gj] at u
   have bi:p.toList[i]<ks.length:=by rw[<-gi,<-hl];exact P.lt i (by omega)
   have bj:p.toList[j]<ks.length:=by rw[<-gj,<-hl];exact P.lt j (by omega)
   rw[<-AR bi bj];exact Iw u
  ·exact(pl.map _).trans (by rw[e1])
 rw[<-z,wJ];rfl
noncomputable def nJ (sp:Sp):List V->Hp->(List V->Hp->Prop)->Prop
 |[],H,R=>R [] H
 |x::xs,H,R=>sp [x] H (λk H1=>nJ sp xs H1 λks H2=>R (k::ks) H2) λ_ _ _=>False
variable {b:Addr}{ob:Obj}
section
variable {X:Cx}{pins:List (Addr×Obj)}{σ:L2.St}{H:Hp}{s:pL}
theorem acF {D:Addr}{o:HO}(I:Inv X pins σ H s)(f:c4 X pins H D)(hD:X.s₀.heap.objs.size<=D)(new:bJ X.prog X.w (upd H D o) s.heap D o):Inv X pins σ (upd H D o) s:=by
 obtain⟨f0,f1,f2,f3,f4,f5⟩:=f;have u:=I.base;refine⟨I.ok,I.os,I.bare,⟨u.keep,u.slot,λb' o' e n hx=>?_,u.there,λb' xs e=>?_,λb' o' u' e=>?_,λb' ps e=>?_⟩,I.loc,I.cell,?_,λx c e=>?_,λp hp=>?_,d9 I.hok f0 new,I.len⟩
 ·rw[aA (IB (Ip (Ep e) hD))];exact u.free b' o' e n hx
 ·rw[aA (aB (u.afT b' xs e) f0)];exact u.afT b' xs e
 ·rw[aA (aB (u.afR b' o' u' e) f0)];exact u.afR b' o' u' e
 ·obtain⟨m,q⟩:=u.af5 b' ps e;exact⟨m,by rw[aA (aB q f0)];exact q⟩
 ·rw[aA (Bt f1)];exact I.free
 ·rw[aA (f4 x c e)];exact I.afW x c e
 ·obtain⟨e,n,r⟩:=I.pin p hp;exact⟨e,by rw[aA (f5 p hp)];exact n,r⟩
theorem acL {c:Addr}(f:c4 X pins H b)(h:c≠b):c4 X (pins++[(c,ob)]) H b:=by
 obtain⟨f0,f1,f2,f3,f4,f5⟩:=f;refine⟨f0,f1,f2,f3,f4,λp hp=>?_⟩;rw[<-BE] at hp
 rcases tH.mp hp with z|z
 ·exact f5 p z
 ·have e:p=(c,ob):=by simpa using z
  subst e;exact h
theorem pI {H':Hp}(f:c4 X pins H b)(h:H' b=none):c4 X pins H' b:=⟨h,f.2⟩
theorem v5 (I:Inv X pins σ H s)(f:c4 X pins H b)(e:s.heap.get? b=some ob)(d:∀v,ob.data≠.cell v):Inv X (pins++[(b,ob)]) σ H s:=I.afO λp hp=>by
 rcases tH.mp hp with z|z
 ·exact I.pin p (Io _ z)
 ·have e1:p=(b,ob):=by simpa using z
  subst e1;exact⟨e,f.1,f.2.1,f.2.2.1,d⟩
theorem nZ (I:Inv X (pins++[(b,ob)]) σ H s):Inv X pins σ H s:=I.afO λp hp=>I.pin p (Io _ (A6 _ hp))
theorem Au (I:Inv X (pins++[(b,ob)]) σ H s):s.heap.get? b=some ob/\H b=none:=by
 obtain⟨e,n,_⟩:=I.pin (b,ob) (Io _ (Io _ (by simp)));exact⟨e,n⟩
end
theorem kI {c:String}{xs:Il}:∀v,(seqObj c xs n).data≠.cell v:=λv z=>by cases z
variable {s:pL}{Q:VK}
section
variable {X:Cx}{pins:List (Addr×Obj)}{σ:L2.St}{k:Nat}{f:Addr}{fd:GS}{ps:F3}{sp:Sp}{A:Around}{E:AU}
theorem acO {x:V}{u:Value}(F:xk X.prog X.w X.K X.mg X.base (cI X.prog X.w) k f fd ps sp)(hr:A1 k A)(hA:∀H s,Inv X pins σ H s->EX X.prog X.w X.K X.mg X.base A X.stack s H)(hb:b8 X.K fd ps [])(I:Inv X pins σ H s)(r:aL x u)(h:sp [x] H Q λ_ _ _=>False):
 wpAny (model X.prog X.w) A (call (.ref f) [u]) (EP X pins σ Q) (λ_ _=>False) s:=by
 have hl:([u]:HF).length+([]:HF).length=ps.length:=by have:=F.len _ _ _ _ h;simpa using this
 have bd:=hb s [u] I.kIn hl;rw[yp] at bd;refine yn (zL (F.run A X.stack s H ⟨[u],[]⟩ [u] [x] Q _ hr (hA H s I) bd (.cons r .nil) h) λres s' hq=>?_)
 cases res with
 |error e =>
  obtain⟨a,cls,a0,B,d,H',_,_,_,_,hE⟩:=hq;exact hE.elim
 |ok fl =>
  cases fl with
  |ret v=>exact I.after hq
  |next=>exact False.elim hq
  |brk=>exact False.elim hq
  |cont=>exact False.elim hq
end
noncomputable abbrev kY (X:Cx)(xs:List V)(Q:VK):List V->Hp->Prop:=λks H2=>∃kz,dY X.K H2 ks kz/\kz.Nodup/\∀D,H2 D=none->Q (.ref D) (upd H2 D (.lst ((eN (kz.zip xs)).map (·.2))))
section
variable {X:Cx}{pins:List (Addr×Obj)}{σ:L2.St}{k:Nat}{f:Addr}{fd:GS}{ps:F3}{sp:Sp}{A:Around}{E:AU}
theorem acQ {ks vs:HF}(h:ks.length=vs.length):((ks.toArray.zip vs.toArray).map (·.2))=vs.toArray:=by
 apply Array.toList_inj.mp;rw[Array.toList_map,ksk_zip];simp only[List.toList_toArray] at *;exact List.map_snd_zip (by omega)
theorem acV {D kS:Addr}{e1 c:Nat}{kV:List V}{ks:HF}{P:PySem.Fin->Shared->Prop}(hA:A.units+2<cLine)(hD:X.s₀.heap.objs.size<=D)(fD:c4 X pins H D)(fS:c4 X pins H kS)(ne:kS≠D)
 (I:Inv X pins σ H s)(eD:s.heap.get? D=some (seqObj "list" #[] e1))(eS:s.heap.get? kS=some (seqObj "list" ks.toArray c))(rx:aN xs us)(Nz:aN kV ks)(hl:kV.length=xs.length)(h64:xs.length<64)(w:kY X xs Q kV H)
 (hP:∀s',EP X pins σ Q (.ref D) s'->P (.done (.ret .none)) s'):wpAny (model X.prog X.w) A (ksk_end D false us.toArray e1 (.ref kS) ks.toArray) P E s:=by
 obtain⟨kz,hk,nd,q⟩:=w;have l1:=rx.length;have l2:=Nz.length;have l3:=hk.len;have inj:=abU nd
 have fin:∀p,Pm xs.length (rk kz) p->Up (rk kz) p xs.length->∀st:SortSt,(arrOf st).map (·.2)=(gY us p).toArray->failedOf st=none->wpAny (model X.prog X.w) A (ksk_tail D false e1 (.ref kS) st) P E s:=λp pm up st U7 hf=>by
  have U8:=aco rx pm (yH _);rw[acv (by omega) nd pm up] at U8
  have hlen:((eN (kz.zip xs)).map (·.2)).length<=sizeLine:=by
   rw[EZ,(dE _).length_eq,List.length_zip];exact Ig (jP _ _) (gD h64)
  have U9:(gY us p).toArray.size<=sizeLine:=by rw[Jc,<-U8.length];exact hlen
  have K2:=Bn s.heap kS (Obj.mapSeq λ_=>(#[]:Il));have Lq:(s.heap.update kS (Obj.mapSeq λ_=>(#[]:Il))).get? D=some (seqObj "list" #[] e1):=(K2.2 D (Bt ne)).trans eD;have I1:Inv X pins σ H {s with heap:=s.heap.update kS (Obj.mapSeq λ_=>(#[]:Il))}:=cY I fS K2;unfold ksk_tail;dsimp only;rw[U7];refine IW (listUpdate_at eS rfl (IW (BR ?_)) (by rw[Jc,<-l2,hl];exact gD h64) (Gy _));generalize s.heap.update kS (Obj.mapSeq λ_=>(#[]:Il))=h1 at Lq I1 |-;have Mb:=Bn h1 D (Obj.mapSeq λ_=>(gY us p).toArray);obtain⟨c2,K0⟩:∃c2,(h1.update D (Obj.mapSeq λ_=>(gY us p).toArray)).get? D=some (seqObj "list" (gY us p).toArray c2):=⟨_,F9 Lq λ_=>(gY us p).toArray⟩;have I2:Inv X pins σ H {s with heap:=h1.update D (Obj.mapSeq λ_=>(gY us p).toArray)}:=cY (s:={s with heap:=h1}) I1 fD Mb;have I3:=acF (o:=.lst ((eN (kz.zip xs)).map (·.2))) I2 fD hD ⟨hlen,_,c2,U8,K0⟩;refine IW (seqEpoch_at Lq rfl (IW (listUpdate_at Lq rfl ?_ (Gy _) (Nat.le_succ_of_le U9))));rw[hf];simp only[bne_self_eq_false,BU,wR];exact Fc (hP _ ⟨.ref D,_,I3,rfl,q D fD.1⟩)
 have P0:Pm xs.length (rk kz) (List.range xs.length).toArray:=vw (λi j hi hj=>inj i j (by omega) (by omega)) (Array.Perm.refl _);unfold ksk_end;dsimp only;rw[IX E7];simp only[BU,wR]
 by_cases h2:us.toArray.size<2
 ·have small:xs.length<2:=by rw[l1];simpa using h2
  rw[qk h2,qk h2];refine IW (Fc ?_);rw[StateT.run_pure];refine IW (Fc ?_);refine fin (List.range xs.length).toArray P0 (λi j Kq hj=>by omega) _ ?_ rfl;show(ks.toArray.zip us.toArray).map (·.2)=_;rw[acQ (by omega),l1,agm]
 ·have big:2<=us.length:=by simpa using h2
  rw[IX h2,IX h2];obtain⟨κ,Ld,Va⟩:=ach (A:=A) I hA hk Nz nd (by omega);refine IW (Ax (Ld (λκ' s0=>(kas_sort us.length).kasWp (kas_ask X.prog X.w A κ' ks) (λp s'=>s'=s/\Pm us.length (rk kz) p/\Up (rk kz) p us.length) s0) (agk (n:=us.length) (r:=rk kz) (λi j hi hj=>inj i j (by omega) (by omega)) (λi j C hi hj=>Va i j C (by omega) (by omega)) (by omega) λp pm up=>⟨rfl,pm,up⟩)) (λκ' s0 hw=>?_) λ_ _ x=>x.elim);refine IW (Ax (kat_run (κ:=κ') (Q:=λJW s'=>∃p:Array Nat,arrOf JW=p.map (kas_item (ks.toArray.zip us.toArray))/\failedOf JW=none/\s'=s/\Pm us.length (rk kz) p/\Up (rk kz) p us.length) (by omega) big (by omega) (λp' JW s' _ a2 a3 a4=>⟨p',a2,a3,a4⟩) hw) ?_ λ_ _ e=>e);rintro⟨⟨⟩,JW⟩ s' ⟨p,U7,hf,rfl,pm,up⟩;exact fin p (by rw[l1];exact pm) (by rw[l1];exact up) JW (kat_snds (by omega) U7) hf
theorem acZ {α:Type}{l:List α}{x:α}(h:l[j]?=some x):l.drop j=x::l.drop (j+1):=by
 obtain⟨hj,e⟩:=zp.mp h;rw[yg hj,e]
theorem ac0 {D:Addr}{P:PySem.Fin->Shared->Prop}(F:xk X.prog X.w X.K X.mg X.base (cI X.prog X.w) k f fd ps sp)(hr:A1 k A)(hE:∀pins' H s,Inv X pins' σ H s->EX X.prog X.w X.K X.mg X.base A X.stack s H)(hb:b8 X.K fd ps [])
 (hD:X.s₀.heap.objs.size<=D)(fD:c4 X pins H D)(I:Inv X pins σ H s)(eD:s.heap.get? D=some (seqObj "list" us.toArray n))(rx:aN xs us)(h64:xs.length<64)(h:nJ sp xs H (kY X xs Q))
 (hP:∀s',EP X pins σ Q (.ref D) s'->P (.done (.ret .none)) s'):wpAny (model X.prog X.w) A (ksk_tree D (.ref f) false) P E s:=by
 have l1:=rx.length
 have s64:us.toArray.size<=sizeLine:=by rw[Jc,<-l1];exact gD h64
 obtain⟨e1,Lq⟩:∃e1,(s.heap.update D (Obj.mapSeq λ_=>(#[]:Il))).get? D=some (seqObj "list" #[] e1):=⟨_,F9 eD λ_=>#[]⟩;have I1:Inv X pins σ H {s with heap:=s.heap.update D (Obj.mapSeq λ_=>(#[]:Il))}:=cY I fD (Bn _ _ _);unfold ksk_tree;refine IW (listItems_at eD rfl (IW (listUpdate_at eD rfl (IW (seqEpoch_at Lq rfl (IW (zG ?_ (by show us.length<=_;rw[<-l1];exact gD h64))))) s64 (Gy _))));refine IW (wpAny_newList (BV ?_) (Gy _));generalize s.heap.update D (Obj.mapSeq λ_=>(#[]:Il))=h1 at Lq I1 |-;dsimp only;have I2:Inv X pins σ H {s with heap:=h1.push (seqObj "tuple" us.toArray 0)}:=I1.kept (t':=s.toks) λb o q=>Ez _ q;have Vb:(h1.push (seqObj "tuple" us.toArray 0)).get? D=some (seqObj "list" #[] e1):=Ez _ Lq;show wpAny (model X.prog X.w) A (ksk_rest D (.ref f) false us.toArray e1 (.ref (h1.push (seqObj "tuple" us.toArray 0)).objs.size)) P E {s with heap:=(h1.push (seqObj "tuple" us.toArray 0)).push (seqObj "list" #[] 0)};generalize h1.push (seqObj "tuple" us.toArray 0)=h2 at I2 Vb |-;have ne:h2.objs.size≠D:=tU (Ep Vb);have Vc:c4 X pins H h2.objs.size:=I2.agx (yH _) (I2.hok.fresh (yH _));have I3:Inv X pins σ H {s with heap:=h2.push (seqObj "list" #[] 0)}:=I2.kept (t':=s.toks) λb o q=>Ez _ q;have eD3:(h2.push (seqObj "list" #[] 0)).get? D=some (seqObj "list" #[] e1):=Ez _ Vb;have Yv:(h2.push (seqObj "list" #[] 0)).get? h2.objs.size=some (seqObj "list" ([]:HF).toArray 0):=Fg _ rfl;have fD':∀{H':Hp},H' D=none->c4 X pins H' D:=λz=>pI fD z;have Vd:∀{H':Hp},H' h2.objs.size=none->c4 X pins H' h2.objs.size:=λz=>pI Vc z;generalize h2.objs.size=kS at ne Vc Yv Vd |-;unfold ksk_rest;refine IW (qK ?_);rw[List.forIn_toArray]
 let II:Nat->Shared->Prop:=λj s'=>∃(H':Hp)(c:Nat)(kV:List V)(ks:HF),Inv X (pins++[(D,seqObj "list" #[] e1)]) σ H' s'/\s'.heap.get? kS=some (seqObj "list" ks.toArray c)/\H' kS=none/\aN kV ks/\kV.length=j/\nJ sp (xs.drop j) H' λk2 H2=>kY X xs Q (kV++k2) H2
 have I4:Inv X (pins++[(D,seqObj "list" #[] e1)]) σ H {s with heap:=h2.push (seqObj "list" #[] 0)}:=v5 I3 fD eD3 kI;refine IW (Ax (ksk_fold (E:=E) (Q:=λ_ s'=>II us.length s') II us 0 {s with heap:=h2.push (seqObj "list" #[] 0)} ⟨H,0,[],[],I4,Yv,Vc.1,.nil,rfl,by simpa using h⟩ (λj u s' hu hI=>?_) λs' hd=>by simpa using hd) (λ_ s' hI=>?_) λ_ _ e=>e)
 ·rw[yN] at hI |-;obtain⟨H',c,kV,ks,J,eS,nS,Nz,hl,t⟩:=hI;have hj:j<us.length:=(zp.mp hu).1;obtain⟨x,hx⟩:∃x,xs[j]?=some x:=⟨xs[j]'(by omega),by simp[show j<xs.length by omega]⟩;obtain⟨u',Yw,rx'⟩:=rx.get hx;rw[hu] at Yw
  cases Yw
  rw[acZ hx] at t;have Yx:c4 X (pins++[(D,seqObj "list" #[] e1)]) H' kS:=acL (Vd nS) (Bt ne);have J2:=v5 J Yx eS kI;refine IW (mX (Ax (acO F hr (hE _) hb J2 rx' t) (λkv s2 hk=>?_) λ_ _ z=>z.elim));obtain⟨v,H2,J3,rv,t2⟩:=hk;obtain⟨Yy,Yz⟩:=Au J3;have J4:=nZ J3;have fS2:c4 X (pins++[(D,seqObj "list" #[] e1)]) H2 kS:=pI Yx Yz
  have ea:ks.toArray.push kv=(ks++[kv]).toArray:=by simp
  obtain⟨c2,K0⟩:∃c2,(s2.heap.update kS (Obj.mapSeq (·.push kv))).get? kS=some (seqObj "list" (ks++[kv]).toArray c2):=⟨_,by rw[<-ea];exact F9 Yy (·.push kv)⟩;have lk:=Nz.length;refine IW (listUpdate_at Yy rfl ?_ (by rw[Jc];exact gD (by omega)) (Ig (Nat.le_of_eq (Array.size_push ..)) (by rw[Jc];exact Nat.succ_le_succ (gD (by omega)))));refine Fc ⟨rfl,H2,c2,kV++[v],ks++[kv],cY J4 fS2 (Bn _ _ _),K0,Yz,Nz.append (.cons rv .nil),by simp[hl],?_⟩
  have e:∀k2:List V,kV++[v]++k2=kV++v::k2:=λk2=>by simp
  simp only[e];exact t2
 ·obtain⟨H',c,kV,ks,J,eS,nS,Nz,hl,t⟩:=hI;rw[<-l1,List.drop_length] at t
  have w:kY X xs Q kV H':=by
   have z:kY X xs Q (kV++[]) H':=t;rwa[yp] at z
  obtain⟨TM,nD⟩:=Au J;refine IW (listItems_at eS rfl ?_);exact acV (by have:=hr.units;omega) hD (fD' nD) (Vd nS) ne (nZ J) TM eS rx Nz (by omega) h64 w hP
theorem ac4 {l:Addr}(F:xk X.prog X.w X.K X.mg X.base (cI X.prog X.w) k f fd ps sp)(hr:A1 (k+2) X.A)(hb:b8 X.K fd ps [])
 (I:Inv X pins σ H s)(hl:a8 X.K H l xs)(h64:xs.length<64)(h:nJ sp xs H (kY X xs Q)):wpAny (model X.prog X.w) X.A (call (.builtin "sorted") [.ref l] [(Str.ofString "key",.ref f)]) (EP X pins σ Q) E s:=by
 obtain⟨us,rx,pl,_⟩:=I.list hl;have l1:=rx.length;refine call_function_entry_kw kind_sorted plain_sorted entry_sorted (ksk_s1 _ _) ?_;unfold Builtin.«sorted»;refine IW (m:=checkCount "sorted" 1 1 _) (Fc (IW (collect_list pl.isList (IW (wpAny_newList ?_ (gD (by omega)))) (gD (by omega)))))
 have sz:((s.heap.push (seqObj "list" #[] 0)).update s.heap.objs.size (Obj.mapSeq (·++us.toArray))).objs.size=s.heap.objs.size+1:=by rw[Heap.size_update];exact size_push' _ _
 have Ve:(((s.heap.push (seqObj "list" #[] 0)).update s.heap.objs.size (Obj.mapSeq (·++us.toArray))).push (seqObj "list" us.toArray 0)).get? (s.heap.objs.size+1)=some (seqObj "list" us.toArray 0):=by
  rw[<-sz];exact Fg _ rfl
 have old:∀b o,s.heap.get? b=some o->(((s.heap.push (seqObj "list" #[] 0)).update s.heap.objs.size (Obj.mapSeq (·++us.toArray))).push (seqObj "list" us.toArray 0)).get? b=some o:=λb o q=>by
  have lt:b<s.heap.objs.size:=Ep q;refine Ez _ ?_;rw[Heap.get?_update_ne _ _ _ _ (IB lt)];exact Ez _ q
 show wpAny _ _ _ _ _ {s with heap:=((s.heap.push (seqObj "list" #[] 0)).update s.heap.objs.size (Obj.mapSeq (·++us.toArray))).push (seqObj "list" us.toArray 0)};rw[sz];generalize ((s.heap.push (seqObj "list" #[] 0)).update s.heap.objs.size (Obj.mapSeq (·++us.toArray))).push (seqObj "list" us.toArray 0)=h5 at Ve old |-;have I5:Inv X pins σ H {s with heap:=h5}:=I.kept (t':=s.toks) old;have fD:c4 X pins H (s.heap.objs.size+1):=I.agx (Ja _) (I.hok.fresh (Ja _));refine IW (BV (wpAny_call_entry_kw slot_list_sort ⟨_,Ve,rfl⟩ entry_list_sort ?body (ksk_l1 _ _)))
 case body =>
  show wpAny (model X.prog X.w) X.A.in1.in1 (Builtin.«list.sort» ⟨[.ref (s.heap.objs.size+1)],[(Str.ofString "key",.ref f)]⟩) _ _ _;rw[ksk_t1];exact ac0 (A:=X.A.in1.in1) F hr.in1.in1 (λpins' H' s' J=>J.aiz.in1.in1) hb (Ig I.sz (Ja _)) fD I5 Ve rx h64 h λs' q=>⟨_,rfl,Fc ⟨_,rfl,q⟩⟩
end
noncomputable def ada (X:Cx)(sp:Sp)(ta:TE):TE:=λσ H Q=>bx ta ya σ H λvs H1=>∃l xs,vs=[.ref l]/\a8 X.K H1 l xs/\xs.length<64/\nJ sp xs H1 (kY X xs Q)
section
variable {X:Cx}{k:Nat}{f:Addr}{fd:GS}{ps:F3}{sp:Sp}{e:Expr}{ta:TE}{x:Str}{p p2 kpos pos:Pos}
theorem adl (F:xk X.prog X.w X.K X.mg X.base (cI X.prog X.w) k f fd ps sp)(hr:A1 (k+2) X.A)(hb:b8 X.K fd ps [])(hg:Gl X "sorted")(hm:X.mg "sorted"=none)(hgf:Gl X x)(hmf:X.mg x=some (.ref f))(ha:PE X e ta)(hs:ff e=false:=by rfl)(hd:(x==("__debug__":Str))=false:=by decide):
 PE X (.Call (.Name "sorted" p) [e] [⟨some "key",.Name x p2,kpos⟩] pos) (ada X sp ta):=by
 intro pins s σ H Q I h;refine rM (c8 I hg hm (by rfl) ?_ (by decide) (by decide));refine callWith_builtin_kwB (by rw[aX hs];rfl) rfl (evalArgs_kw2 rfl ?_ (aX hs));refine cx (ao ha ai hs pos pins s σ H _ I h) λus s1 z'=>?_;obtain⟨vs,H1,I1,r1,⟨l,xs,hv,hl,h64,ht⟩⟩:=z';subst hv
 cases r1 with
 |cons ra rb =>
  cases rb
  cases ra
  refine kwAll_cons (iO I1 hgf hmf (kwAll_nil ?_) hd);exact ac4 F hr hb I1 hl h64 ht
end
end Srt
namespace K09
open PySem L2 PySem.W Nm Srt
variable {n:Nat}{p:Int}
theorem adm {t b:Int}(hp:FP p)(h:B n t)(hb:b≠0)(hn:7<=n):B n (c9 p t b):=by
 unfold c9
 by_cases z:p=0
 ·rw[qk z];exact h.le (vg hb)
 ·rw[IX z];obtain⟨_,p2,OG⟩:=hp.two z;have h0:=rQ t (b:=p) (by omega);have h1:=DJ t (b:=p) (by omega)
  have:B 7 (t%p):=by
   show(t%p).natAbs<2^7;omega
  exact this.mono hn
theorem adt {n:Nat}{t b:Int}(h:B n b)(hb:b≠0)(hn:1<=n):B n (dw p t b):=by
 unfold dw
 by_cases z:p=0
 ·rw[qk z];exact h.le (wm hb)
 ·rw[IX z];exact(show B 1 (1:Int) from(by show(1:Int).natAbs<2^1;decide)).mono hn
noncomputable abbrev Tm:=List Int×Int×Int
noncomputable def dn (p:Int)(a b:Int×Int):Int×Int:=(c9 p (jE a.1 a.2 b.1 b.2) (a.2*b.2),dw p (jE a.1 a.2 b.1 b.2) (a.2*b.2))
noncomputable def Gn (p:Int)(n:Nat)(a:Int×Int):Prop:=Num p a.1 a.2/\B n a.1/\B n a.2
theorem Gn.ne {a:Int×Int}(h:Gn p n a):a.2≠0:=by have:=h.1.pos;omega
theorem adC {m:Nat}{a b:Int×Int}(hp:FP p)(ha:Gn p n a)(hb:Gn p m b)(h7:7<=n+m+1):Gn p (n+m+1) (dn p a b):=by
 have nz:a.2*b.2≠0:=CD ha.ne hb.ne;refine⟨Num.set hp.nn nz,adm hp ?_ nz h7,(adt (n:=n+m) (ha.2.2.mul hb.2.2) nz (by omega)).mono (by omega)⟩;have h1:B (n+m) (a.1*b.2):=ha.2.1.mul hb.2.2;have h2:B (n+m) (b.1*a.2):=(hb.2.1.mul ha.2.2).mono (by omega);exact h1.add h2
theorem adD {n:Nat}{b:Int×Int}(hp:FP p)(hb:Gn p n b):dn p (0,1) b=b:=by
 obtain⟨h1,h2⟩:=hb.1.self hp.nn;unfold dn jE
 have e1:(0:Int)*b.2+b.1*1=b.1:=by omega
 have e2:(1:Int)*b.2=b.2:=by omega
 rw[e1,e2,h1,h2]
noncomputable def dj (p:Int)(d:List Tm)(t:Tm):List Tm:=if d.any (λe=>decide (e.1=t.1))=true then d.map (λe=>if e.1=t.1 then(e.1,dn p e.2 t.2) else e) else d++[t]
noncomputable def bZ (p:Int)(ts:List Tm):List Tm:=ts.foldl (dj p) []
noncomputable def rp (p:Int)(n:Nat)(d:List Tm):Prop:=∀e∈d,Gn p n e.2
variable {d:List Tm}
theorem adE {m:Nat}{t:Tm}(hp:FP p)(hd:rp p n d)(ht:Gn p m t.2)(h7:7<=n+m+1):rp p (n+m+1) (dj p d t):=by
 have up:∀e∈d,Gn p (n+m+1) e.2:=λe he=>⟨(hd e he).1,(hd e he).2.1.mono (by omega),(hd e he).2.2.mono (by omega)⟩;unfold dj
 split
 ·intro e he;obtain⟨e0,h0,rfl⟩:=EA.mp he
  by_cases q:e0.1=t.1
  ·rw[qk q];exact adC hp (hd e0 h0) ht h7
  ·rw[IX q];exact up e0 h0
 ·intro e he
  rcases tH.mp he with he|he
  ·exact up e he
  ·have:e=t:=by simpa using he
   subst this;exact⟨ht.1,ht.2.1.mono (by omega),ht.2.2.mono (by omega)⟩
theorem ow {t:Tm}(hd:(d.map (·.1)).Nodup):((dj p d t).map (·.1)).Nodup:=by
 unfold dj
 split
 ·rw[wJ]
  have:((λe:Tm=>e.1) ∘ λe=>if e.1=t.1 then(e.1,dn p e.2 t.2) else e)=λe=>e.1:=by
   funext e
   show(if e.1=t.1 then(e.1,dn p e.2 t.2) else e).1=e.1
   split <;> rfl
  rw[this];exact hd
 ·rename_i q
  rw[Aq];refine Iv.mpr ⟨hd,by simp,λa ha b hb z=>?_⟩
  have:b=t.1:=by simpa using hb
  subst this;subst z;obtain⟨e,he,e1⟩:=EA.mp ha;exact q (Ae.mpr ⟨e,he,by simpa using e1⟩)
theorem adF {t:Tm}:(dj p d t).length<=d.length+1:=by
 unfold dj
 split <;> simp
noncomputable def gs (t:Tm):Ky:=(t.1.length,t.1)
noncomputable def iq (d:List Tm):List Tm:=(eN ((d.filter λe=>e.2.1 != 0).map λe=>(gs e,e))).map (·.2)
theorem ny (p:Int)(ts:List Tm)(t:Tm):bZ p (ts++[t])=dj p (bZ p ts) t:=by
 unfold bZ;rw[List.foldl_append];rfl
theorem jn {m:Nat}(hp:FP p):∀(n:Nat)(ts:List Tm),ts.length=n->(∀t∈ts,Gn p m t.2)->rp p ((m+1)*n+7) (bZ p ts)/\((bZ p ts).map (·.1)).Nodup/\(bZ p ts).length<=n
 |0,ts,hn,_=>by
  have:ts=[]:=GL.mp hn;subst this;refine And.intro (λe he=>?_) (And.intro Ef (yH 0));exact absurd (show e∈([]:List Tm) from he) (by simp)
 |n+1,ts,hn,h=>by
  obtain⟨TN,t,rfl⟩:∃TN t,ts=TN++[t]:=by
   have JG:ts≠[]:=by intro z;rw[z] at hn;cases hn
   exact⟨ts.dropLast,ts.getLast JG,(List.dropLast_concat_getLast JG).symm⟩
  have hl:TN.length=n:=by simpa using hn
  obtain⟨g1,g2,g3⟩:=jn hp n TN hl λt ht=>h t (A6 _ ht);rw[ny];have gt:=h t (Io _ (by simp));have e2:(m+1)*(n+1)=(m+1)*n+(m+1):=Nat.mul_succ _ _;refine⟨λe he=>?_,ow g2,Ig adF (by omega)⟩;have:=adE hp g1 gt (by omega) e he;exact⟨this.1,this.2.1.mono (by omega),this.2.2.mono (by omega)⟩
end K09
namespace Nm
open Lean.Grind in
structure Val (p:Int)(R:Type) [CommRing R](v:Int×Int->R):Prop where
 zero:v (0,1)=0
 one:v (1,1)=1
 set:∀{t b:Int}{a c:Int×Int},Num p a.1 a.2->Num p c.1 c.2->(t=a.1*c.2+c.1*a.2->b=a.2*c.2->v (c9 p t b,dw p t b)=v a+v c)/\(t=a.1*c.1->b=a.2*c.2->v (c9 p t b,dw p t b)=v a*v c)
 inj:∀{a c:Int×Int},Num p a.1 a.2->Num p c.1 c.2->v a=v c->a=c
theorem jl {t b:Int}(h:b≠0):c9 0 t b*b=t*dw 0 t b:=by
 have e1:=nM (t:=t) h;have e2:=jH (t:=t) h;show dA t b*b=t*cO t b;generalize dA t b=x at *;generalize cO t b=y at *;generalize dv t b=d at *;subst e1;subst e2;grind
theorem adJ:Val 0 Rat (λa=>Rat.divInt a.1 a.2) where
 zero:=by decide +kernel
 one:=by decide +kernel
 set:=by
  intro t b a c na nc
  have ha:a.2≠0:=by have:=na.pos;omega
  have hc:c.2≠0:=by have:=nc.pos;omega
  have hb:a.2*c.2≠0:=CD ha hc;refine⟨λet eb=>?_,λet eb=>?_⟩
  ·subst eb;subst et
   have hs:dw 0 (a.1*c.2+c.1*a.2) (a.2*c.2)≠0:=by have:=(Num.set (p:=0) (t:=a.1*c.2+c.1*a.2) (ni 0) hb).pos;omega
   show Rat.divInt _ _=Rat.divInt _ _+Rat.divInt _ _;rw[Rat.divInt_add_divInt _ _ ha hc,zw hs hb];exact jl hb
  ·subst eb;subst et
   have hs:dw 0 (a.1*c.1) (a.2*c.2)≠0:=by have:=(Num.set (p:=0) (t:=a.1*c.1) (ni 0) hb).pos;omega
   show Rat.divInt _ _=Rat.divInt _ _*Rat.divInt _ _;rw[Rat.divInt_mul_divInt,zw hs hb];exact jl hb
 inj:=by
  intro a c na nc e
  have ha:a.2≠0:=by have:=na.pos;omega
  have hc:c.2≠0:=by have:=nc.pos;omega
  have e:=(zw ha hc).mp e;obtain⟨h1,h2⟩:=aca (p:=0) ha nc (ni 0) (λ_=>e) (λz=>absurd rfl z);obtain⟨g1,g2⟩:=na.self (ni 0);exact Ey (g1.symm.trans h1) (g2.symm.trans h2)
theorem adK {n:Nat} [NeZero n](h2:2<=n):Val (n:Int) (Fin n) (λa=>Fin.ofNat n a.1.toNat) where
 zero:=rfl
 one:=rfl
 set:=by
  intro t b a c na nc
  have hz:(n:Int)≠0:=by omega
  obtain⟨a2,a0,a1⟩:=na.pr hz;obtain⟨c2,c0,c1⟩:=nc.pr hz
  have key:∀x y z:Int,0<=x->0<=y->0<=z->z=x+y->(z%(n:Int)).toNat%n=(x.toNat%n+y.toNat%n)%n:=by
   intro x y z hx hy hz e;obtain⟨x,rfl⟩:∃m:Nat,x=(m:Int):=⟨x.toNat,by omega⟩;obtain⟨y,rfl⟩:∃m:Nat,y=(m:Int):=⟨y.toNat,by omega⟩;subst e;rw[show((x:Int)+(y:Int))%(n:Int)=(((x+y)%n:Nat):Int) from by push_cast;rfl];rw[Ho,Ho,Ho,Nat.mod_mod,Nat.add_mod]
  have Vf:∀x y z:Int,0<=x->0<=y->z=x*y->(z%(n:Int)).toNat%n=(x.toNat%n)*(y.toNat%n)%n:=by
   intro x y z hx hy e;obtain⟨x,rfl⟩:∃m:Nat,x=(m:Int):=⟨x.toNat,by omega⟩;obtain⟨y,rfl⟩:∃m:Nat,y=(m:Int):=⟨y.toNat,by omega⟩;subst e;rw[show((x:Int)*(y:Int))%(n:Int)=(((x*y)%n:Nat):Int) from by push_cast;rfl];rw[Ho,Ho,Ho,Nat.mod_mod,Nat.mul_mod]
  refine⟨λet eb=>?_,λet eb=>?_⟩
  ·apply Fin.ext;show(c9 (n:Int) t b).toNat%n=(a.1.toNat%n+c.1.toNat%n)%n;unfold c9;rw[IX hz];exact key a.1 c.1 t a0 c0 (by rw[et,a2,c2];omega) (by rw[et,a2,c2];omega)
  ·apply Fin.ext;show(c9 (n:Int) t b).toNat%n=(a.1.toNat%n)*(c.1.toNat%n)%n;unfold c9;rw[IX hz];exact Vf a.1 c.1 t a0 c0 et
 inj:=by
  intro a c na nc e
  have hz:(n:Int)≠0:=by omega
  obtain⟨a2,a0,a1⟩:=na.pr hz;obtain⟨c2,c0,c1⟩:=nc.pr hz;have e:a.1.toNat%n=c.1.toNat%n:=Ec Fin.val e;rw[Nat.mod_eq_of_lt (by omega),Nat.mod_eq_of_lt (by omega)] at e;exact Ey (by omega) (by omega)
theorem adL {p:Int}(hp:p=0\/2<=p):∃(R:Type)(i:Lean.Grind.CommRing R)(v:Int×Int->R),@Val p R i v:=by
 rcases hp with rfl|hp
 ·exact⟨Rat,_,_,adJ⟩
 ·obtain⟨n,rfl⟩:∃n:Nat,p=(n:Int):=⟨p.toNat,by omega⟩;have:NeZero n:=⟨by omega⟩;exact⟨Fin n,_,_,adK (by omega)⟩
end Nm
namespace K09
open PySem L2 PySem.W Nm Srt
variable {d ts:List Tm}
section
variable {p:Int}{R:Type} [Lean.Grind.CommRing R]{v:Int×Int->R}
noncomputable def S (v:Int×Int->R):List Tm->(List Int->R)->R
 |[],_=>0
 |t::ts,F=>v t.2*F t.1+S v ts F
theorem gH (a b:List Tm)(F:List Int->R):S v (a++b) F=S v a F+S v b F:=by
 induction a with
 |nil=>show S v b F=0+S v b F;grind
 |cons t a ih =>
  show v t.2*F t.1+S v (a++b) F=v t.2*F t.1+S v a F+S v b F;rw[ih];grind
theorem adM (a:List Tm)(F G:List Int->R):S v a (λi=>F i+G i)=S v a F+S v a G:=by
 induction a with
 |nil=>show(0:R)=0+0;grind
 |cons t a ih =>
  show v t.2*(F t.1+G t.1)+S v a (λi=>F i+G i)=(v t.2*F t.1+S v a F)+(v t.2*G t.1+S v a G);rw[ih];grind
theorem yC (a:List Tm)(c:R)(F:List Int->R):S v a (λi=>c*F i)=c*S v a F:=by
 induction a with
 |nil=>show(0:R)=c*0;grind
 |cons t a ih =>
  show v t.2*(c*F t.1)+S v a (λi=>c*F i)=c*(v t.2*F t.1+S v a F);rw[ih];grind
theorem adR {a b:List Tm}(h:a.Perm b)(F:List Int->R):S v a F=S v b F:=by
 induction h with
 |nil=>rfl
 |cons x _ ih=>show _+_=_+_;rw[ih]
 |swap x y l =>
  show v y.2*F y.1+(v x.2*F x.1+S v l F)=v x.2*F x.1+(v y.2*F y.1+S v l F);grind
 |trans _ _ i1 i2=>exact i1.trans i2
noncomputable def aW (p:Int)(d:List Tm):Prop:=∀e∈d,Num p e.2.1 e.2.2
theorem iA {a b:Int×Int}(hp:0<=p)(ha:Num p a.1 a.2)(hb:Num p b.1 b.2):Num p (dn p a b).1 (dn p a b).2 :=
 Num.set hp (CD (by have:=ha.pos;omega) (by have:=hb.pos;omega))
theorem adT {t:Tm}(hp:0<=p)(hd:aW p d)(ht:Num p t.2.1 t.2.2):aW p (dj p d t):=by
 intro e he;unfold dj at he
 split at he
 ·obtain⟨e0,h0,rfl⟩:=EA.mp he
  by_cases q:e0.1=t.1
  ·rw[qk q];exact iA hp (hd e0 h0) ht
  ·rw[IX q];exact hd e0 h0
 ·rcases tH.mp he with he|he
  ·exact hd e he
  ·have:e=t:=by simpa using he
   rw[this];exact ht
theorem GZ (V:Val p R v){x:Int×Int}(hx:Num p x.1 x.2)(k:List Int)(F:List Int->R):∀{d:List Tm},aW p d->(d.map (·.1)).Nodup →
 S v (d.map λe=>if e.1=k then(e.1,dn p e.2 x) else e) F=S v d F+(if d.any (λe=>decide (e.1=k))=true then v x*F k else 0)
 |[],_,_=>by show(0:R)=0+0;grind
 |e::d,hn,hd=>by
  rw[IZ] at hd;obtain⟨h1,h2⟩:=DO.mp hd;have Oz:aW p d:=λe he=>hn e (rB _ he);have ih:=GZ V hx k F Oz h2;rw[IZ,HZ]
  by_cases q:e.1=k
  ·have no:d.any (λe=>decide (e.1=k))=false:=by
    rw[List.any_eq_false];intro e' NA z
    have:e'.1=k:=by simpa using z
    exact h1 (EA.mpr ⟨e',NA,by rw[this,q]⟩)
   rw[no,IX (by simp)] at ih;rw[qk q,no,Iw q];have ev:v (dn p e.2 x)=v e.2+v x:=(V.set (hn e qT) hx).1 rfl rfl;show v (dn p e.2 x)*F e.1+S v (d.map _) F=v e.2*F e.1+S v d F+v x*F k;rw[ih,ev,q];grind
  ·rw[IX q,IA q,Bool.false_or];show v e.2*F e.1+S v (d.map _) F=v e.2*F e.1+S v d F+_;rw[ih];grind
theorem adW (V:Val p R v){t:Tm}(hn:aW p d)(ht:Num p t.2.1 t.2.2)(hd:(d.map (·.1)).Nodup)(F:List Int->R):S v (dj p d t) F=S v d F+v t.2*F t.1:=by
 unfold dj
 split
 ·rename_i q
  rw[GZ V ht t.1 F hn hd,qk q]
 ·rw[gH];show S v d F+(v t.2*F t.1+0)=_;grind
theorem uX (V:Val p R v)(hp:0<=p)(F:List Int->R):∀(ts d:List Tm),aW p ts->aW p d->(d.map (·.1)).Nodup →
 S v (ts.foldl (dj p) d) F=S v d F+S v ts F/\aW p (ts.foldl (dj p) d)/\((ts.foldl (dj p) d).map (·.1)).Nodup
 |[],d,_,hn,hd=>⟨by show S v d F=S v d F+0;grind,hn,hd⟩
 |t::ts,d,ht,hn,hd=>by
  have h1:=ht t qT;obtain⟨i1,i2⟩:=uX V hp F ts (dj p d t) (λe he=>ht e (rB _ he)) (adT hp hn h1) (ow hd);refine⟨?_,i2⟩;show S v (ts.foldl (dj p) (dj p d t)) F=S v d F+(v t.2*F t.1+S v ts F);rw[i1,adW V hn h1 hd];grind
theorem gf (V:Val p R v)(hp:0<=p)(h:aW p ts)(F:List Int->R):S v (bZ p ts) F=S v ts F/\aW p (bZ p ts)/\((bZ p ts).map (·.1)).Nodup:=by
 obtain⟨h1,h2⟩:=uX V hp F ts [] h (λe he=>nomatch he) Ef;refine⟨?_,h2⟩;show S v (ts.foldl (dj p) []) F=_;rw[h1];show(0:R)+S v ts F=S v ts F;grind
theorem ad9 {t b:Int}(h:Num p t b)(z:t=0):b=1:=by
 have:=h.red;have:=h.pos;rw[z,Int.gcd_zero_left] at *;omega
theorem qC (V:Val p R v)(F:List Int->R):∀{d:List Tm},aW p d->S v (d.filter λe=>e.2.1 != 0) F=S v d F
 |[],_=>rfl
 |e::d,h=>by
  have ih:=qC V F (d:=d) λe he=>h e (rB _ he)
  by_cases q:e.2.1=0
  ·rw[qA (by simp[q]),ih];have e2:e.2=(0,1):=Ey q (ad9 (h e qT) q);show _=v e.2*F e.1+S v d F;rw[e2,V.zero];grind
  ·rw[List.filter_cons_of_pos (by simp[q])];show v e.2*F e.1+S v _ F=v e.2*F e.1+S v d F;rw[ih]
theorem dF (d:List Tm):(iq d).Perm (d.filter λe=>e.2.1 != 0):=by
 unfold iq;have h:=(dE ((d.filter λe=>e.2.1 != 0).map λe=>(gs e,e))).map (·.2);rw[wJ] at h;have e:((λx:Ky×Tm=>x.2) ∘ λe=>(gs e,e))=id:=rfl;rw[e,List.map_id] at h;exact h
theorem aea (V:Val p R v)(h:aW p d)(F:List Int->R):S v (iq d) F=S v d F:=by
 rw[adR (dF d),qC V F h]
theorem aed (h:aW p d):aW p (iq d):=λe he=>h e (zc.mp ((dF d).mem_iff.mp he)).1
theorem pV (V:Val p R v)(hp:0<=p)(h:aW p ts)(F:List Int->R):S v (iq (bZ p ts)) F=S v ts F:=by
 obtain⟨h1,h2,_⟩:=gf V hp h F;rw[aea V h2,h1]
theorem aee (V:Val p R v)(hp:0<=p)(h:aW p ts):aW p (iq (bZ p ts)):=aed (gf V hp h λ_=>0).2.1
noncomputable def dl (k:List Int):List Int->R:=λi=>if i=k then 1 else 0
theorem DN {k:List Int}:∀{d:List Tm},k∉d.map (·.1)->S v d (dl k)=0
 |[],_=>rfl
 |e::d,h=>by
  rw[IZ,HK,not_or] at h;show v e.2*(if e.1=k then 1 else 0)+S v d (dl k)=0;rw[IX (λz=>h.1 z.symm),DN h.2];grind
theorem F0:∀{d:List Tm}{e:Tm},(d.map (·.1)).Nodup->e∈d->S v d (dl e.1)=v e.2
 |x::d,e,hd,he=>by
  rw[IZ] at hd;obtain⟨h1,h2⟩:=DO.mp hd;show v x.2*(if x.1=e.1 then 1 else 0)+S v d (dl e.1)=v e.2
  rcases HK.mp he with rfl|he
  ·rw[qk rfl,DN h1];grind
  ·rw[IX (λz=>h1 (EA.mpr ⟨e,he,z.symm⟩)),F0 h2 he];grind
theorem qr (V:Val p R v){c:List Tm}(hn:aW p d)(hd:(d.map (·.1)).Nodup)(cn:aW p c)(cd:(c.map (·.1)).Nodup)(h:∀F:List Int->R,S v d F=S v c F){e:Tm}(he:e∈d.filter λe=>e.2.1 != 0):e∈c.filter λe=>e.2.1 != 0:=by
 obtain⟨h1,h2⟩:=zc.mp he;refine zc.mpr ⟨?_,h2⟩;have e1:=F0 (v:=v) hd h1;rw[h] at e1
 by_cases k:e.1∈c.map (·.1)
 ·obtain⟨e',NA,ek⟩:=EA.mp k;have e2:=F0 (v:=v) cd NA;rw[ek,e1] at e2;have e3:=V.inj (hn e h1) (cn e' NA) e2;have:e=e':=Ey ek.symm e3;rw[this];exact NA
 ·rw[DN k] at e1;have e3:=V.inj (a:=(0,1)) (c:=e.2) ⟨by decide,by decide,λz=>⟨rfl,by decide,?_⟩⟩ (hn e h1) (V.zero.trans e1)
  ·rw[<-e3] at h2;exact absurd h2 (by decide)
  ·have:=((hn e h1).pr z).2;show(0:Int)<p;omega
theorem qM (h:(d.map (·.1)).Nodup):d.Nodup:=by
 induction d with
 |nil=>exact Ef
 |cons e d ih =>
  rw[IZ] at h;obtain⟨h1,h2⟩:=DO.mp h;exact DO.mpr ⟨λz=>h1 (EA.mpr ⟨e,z,rfl⟩),ih h2⟩
theorem ae9 (V:Val p R v){c:List Tm}(hn:aW p d)(hd:(d.map (·.1)).Nodup)(cn:aW p c)(cd:(c.map (·.1)).Nodup)(h:∀F:List Int->R,S v d F=S v c F):iq d=iq c:=by
 have nd:=(qM hd).filter (λe:Tm=>e.2.1 != 0);have nc:=(qM cd).filter (λe:Tm=>e.2.1 != 0);have pm:(d.filter λe=>e.2.1 != 0).Perm (c.filter λe=>e.2.1 != 0):=(List.perm_ext_iff_of_nodup nd nc).mpr λe=>⟨qr V hn hd cn cd h,qr V cn cd hn hd λF=>(h F).symm⟩;unfold iq;congr 1;refine aci ?_ (pm.map _);rw[wJ];have cf:((c.filter λe=>e.2.1 != 0).map (·.1)).Nodup:=cd.sublist (List.filter_sublist.map _);generalize (c.filter λe=>e.2.1 != 0)=l at cf
 induction l with
 |nil=>exact Ef
 |cons e l ih =>
  rw[IZ] at cf |-;obtain⟨h1,h2⟩:=DO.mp cf;refine DO.mpr ⟨λz=>?_,ih h2⟩;obtain⟨x,hx,ex⟩:=EA.mp z;have ex:gs x=gs e:=ex;exact h1 (EA.mpr ⟨x,hx,Ec Prod.snd ex⟩)
theorem Dq (V:Val p R v)(hp:0<=p){us:List Tm}(ht:aW p ts)(hu:aW p us)(h:∀F:List Int->R,S v ts F=S v us F):iq (bZ p ts)=iq (bZ p us):=by
 obtain⟨_,t1,t2⟩:=gf V hp ht λ_=>0;obtain⟨_,u1,u2⟩:=gf V hp hu λ_=>0
 exact ae9 V t1 t2 u1 u2 λF=>by rw[(gf V hp ht F).1,(gf V hp hu F).1,h]
end
end K09
namespace L2
open PySem PySem.Spec PyProof.Rows PySem.W
theorem fP:∀{ns:List Int}{us:HF},aN (ns.map V.int) us->IntsAre us ns
 |[],us,r=>by cases r;exact .nil
 |n::ns,us,r=>by
  rw[IZ] at r
  cases r with
  |cons h t =>
   obtain⟨k,rfl⟩:=(show ∃k,_=Value.int n k from h);exact .cons n k (fP t)
theorem tZ:∀{us:HF}{ns:List Int},IntsAre us ns->aN (ns.map V.int) us
 |_,_,.nil=>.nil
 |_,_,.cons n t h=>.cons ⟨t,rfl⟩ (tZ h)
section
variable {X:Cx}
theorem afb:eW X (.builtin "sorted") (λxs H Q=>∃(l:Addr)(ns:List Int),xs=[.ref l]/\a8 X.K H l (ns.map V.int)/\ns.length<64/\∀(D:Addr)(ms:List Int),H D=none->ms.Perm ns->ms.Pairwise (· <= ·)->Q (.ref D) (upd H D (.lst (ms.map V.int)))):=by
 intro pins s σ H xs us Q I r h;obtain⟨l,ns,rfl,hl,h64,q⟩:=h;obtain⟨u,rfl,ru⟩:=fG r
 cases(show u=Value.ref l from ru)
 obtain⟨its,rv,pl,hz⟩:=I.list hl;have e1:=rv.length;rw[EZ] at e1;refine sorted_ints pl.isList (fP rv) (by omega) λout ms a1 a2 a3=>?_;obtain⟨c,hc⟩:=sortedAll_at s.heap its out
 have fr:s.heap.get? (s.heap.objs.size+1)=none:=by
  cases e:s.heap.get? (s.heap.objs.size+1) with
  |none=>rfl
  |some o=>exact absurd (Ep e) (Nat.not_lt.mpr (Ja _))
 have hlen:(ms.map V.int).length<=sizeLine:=by
  rw[EZ,a2.length_eq];exact Ig (xx h64) (by decide)
 exact⟨.ref _,_,I.newObj (t':=s.toks) (o:=.lst (ms.map V.int)) (λ_ _ e=>sortedAll_old e) fr ⟨hlen,out.toList,c,tZ a1,by simpa using hc⟩,rfl,q _ ms (I.ahz fr) a2 a3⟩
noncomputable def nh (ns:List Int):Nat:=(firstMet (λi=>ns.getD i 0) ns.length).length
noncomputable def afk (K:Frag)(ta:TE):TE:=λσ H Q=>bx ta ya σ H λvs H1=>∃(l:Addr)(ns:List Int),vs=[.ref l]/\a8 K H1 l (ns.map V.int)/\ns.length<4000/\Q (.int (nh ns)) H1
theorem afm {e:Expr}{ta:TE}{p p2 pos JL:Pos}(ha:PE X e ta)(hc:X.calm=true)(PY:Gl X "len")(PZ:X.mg "len"=none)(Vg:Gl X "set")(Mc:X.mg "set"=none)(hs:ff e=false:=by rfl):
 PE X (.Call (.Name "len" p) [.Call (.Name "set" p2) [e] [] JL] [] pos) (afk X.K ta):=by
 intro pins s σ H Q I h;refine rM (c8 I PY PZ (by rfl) ?_ (by decide) (by decide));refine callWith_builtin1 ?_ (aX rfl) rfl;rw[aX rfl];show wpAny _ _ (spliced ((false,eval (.Call (.Name "set" p2) [e] [] JL) X.env):: backTo pos (starEach [] X.env))) _ _ s;refine yw ?_;refine rM (c8 I Vg Mc (by rfl) ?_ (by decide) (by decide));refine callWith_type1 (cx (ao ha ai hs JL pins s σ H _ I h) λus s1 z'=>?_) (aX hs) rfl;obtain⟨vs,H1,I1,r1,l,ns,hv,hq,hz,q⟩:=z';subst hv;obtain⟨u,rfl,ru⟩:=fG r1
 cases(show u=Value.ref l from ru)
 obtain⟨its,rv,pl,YA⟩:=I1.list hq;have e1:=rv.length;rw[EZ] at e1;refine call_set_list (I.ok.hd hc) pl.isList (by simpa using fP rv) (by rw[Jc];show its.length+1<4096;omega) λh' tk hS old=>?_;obtain⟨o,es,ep,t,ho,hx,hd,_,_,_,hf,hn⟩:=hS;have Vh:∀b o,s1.heap.get? b=some o->h'.get? b=some o:=λb o e=>old b o (Ep e) e;have I2:Inv X pins σ H1 {s1 with heap:=h',toks:=tk}:=I1.kept (t':=tk) Vh
 have en:es.size=nh ns:=by rw[hn];unfold nh;rw[Jc,<-e1]
 have le:nh ns<=ns.length:=firstMet_length_le _ _;refine wN ?_;refine call_len_set (s:={s1 with heap:=h',toks:=tk}) ho hx hd hf (by rw[en];omega) ?_;exact⟨.int (nh ns),H1,I2.tok _,⟨_,by rw[en]⟩,q⟩
end
theorem vy:∀(ns acc:List Int),(ns.foldl step_dedup acc).length<=acc.length+ns.length
 |[],acc=>by simp
 |n::ns,acc=>by
  have h:=vy ns (step_dedup acc n)
  have e:(step_dedup acc n).length<=acc.length+1:=by
   unfold step_dedup
   split
   ·omega
   ·simp
  simp only[zP,sR];omega
theorem vo:∀(ns acc:List Int),acc.Nodup->((ns.foldl step_dedup acc).length=acc.length+ns.length↔(acc++ns).Nodup)
 |[],acc,h=>by simp[h]
 |n::ns,acc,h=>by
  by_cases q:acc.any (·==n)=true
  ·have e:step_dedup acc n=acc:=by unfold step_dedup;rw[qk q]
   have m:n∈acc:=by simpa using q
   have l:=vy ns acc;constructor
   ·intro z;rw[zP,e,sR] at z;omega
   ·intro z;exact absurd rfl ((Iv.mp z).2.2 n m n qT)
  ·have e:step_dedup acc n=acc++[n]:=by unfold step_dedup;rw[IX q]
   have m:n∉acc:=by simpa using q
   have nd:(acc++[n]).Nodup:=by
    refine Iv.mpr ⟨h,by simp,λa ha b hb z=>?_⟩
    have:b=n:=by simpa using hb
    subst this;subst z;exact m ha
   have ih:=vo ns (acc++[n]) nd;rw[zP,e];rw[BE] at ih;simp only[zr,sR,xP] at ih |-;rw[<-(show acc++([n]++ns)=acc++n::ns from rfl),<-ih];constructor <;> intro z <;> omega
theorem uK (ns:List Int):nh ns=ns.length↔ns.Nodup:=by
 have e:(List.range ns.length).map (λi=>ns.getD i 0)=ns:=by
  apply Em
  ·simp
  ·intro i h1 h2;simp[h2]
 unfold nh firstMet;rw[e];simpa using vo ns [] Ef
end L2
namespace St
open PySem
noncomputable abbrev T:=SetTable
noncomputable def Up (xs:Array Nat):Prop:=∀i j,i<j->j<xs.size->xs.getD i 0<xs.getD j 0
noncomputable def HC (xs:Array Nat)(j r:Nat):Prop:=r<=xs.size/\(∀k,k<r->xs.getD k 0<j)/\∀k,r<=k->k<xs.size->j<=xs.getD k 0
variable {xs:Array Nat}
theorem afn {k d e:Nat}(h:k<xs.size):xs.getD k d=xs.getD k e:=by
 simp[Array.getD,h]
variable {j:Nat}
theorem afu (u:Up xs):∀(f lo hi:Nat),lo<=hi->hi<=xs.size->hi-lo<=f->(∀k,k<lo->xs.getD k 0<j)->(∀k,hi<=k->k<xs.size->j<=xs.getD k 0) →
 HC xs j (SetTable.below.go xs j f lo hi):=by
 intro f
 induction f with
 |zero =>
  intro lo hi h1 h2 h3 h4 h5
  have e:lo=hi:=by omega
  subst e;exact⟨h2,h4,h5⟩
 |succ f ih =>
  intro lo hi h1 h2 h3 h4 h5;unfold SetTable.below.go
  by_cases h:lo<hi
  ·rw[qk h]
   have hm:(lo+hi)/2<xs.size:=by omega
   have e:xs.getD ((lo+hi)/2) j=xs.getD ((lo+hi)/2) 0:=afn hm;dsimp only;rw[e]
   by_cases g:xs.getD ((lo+hi)/2) 0<j
   ·rw[qk g];refine ih _ _ (by omega) h2 (by omega) (λk hk=>?_) h5
    rcases yO k ((lo+hi)/2) with q|q
    ·exact Bb (u _ _ q hm) g
    ·have:k=(lo+hi)/2:=by omega
     rw[this];exact g
   ·rw[IX g];refine ih _ _ (by omega) (by omega) (by omega) h4 (λk hk hk2=>?_)
    rcases yO ((lo+hi)/2) k with q|q
    ·exact Ig (Nat.not_lt.mp g) (xx (u _ _ q hk2))
    ·have:k=(lo+hi)/2:=by omega
     rw[this];exact Nat.not_lt.mp g
  ·rw[IX h]
   have e:lo=hi:=by omega
   subst e;exact⟨h2,h4,h5⟩
theorem fN (u:Up xs)(j:Nat):HC xs j (SetTable.below xs j):=
 afu u _ _ _ (Gy _) (yH _) (by omega) (λk hk=>absurd hk (AA _)) (λk h1 h2=>absurd h1 (by omega))
theorem sG {r q:Nat}(a:HC xs j r)(b:HC xs j q):r=q:=by
 rcases wL r q with h|h|h
 ·have h1:=b.2.1 r h;have h2:=a.2.2 r (yH _) (Ip h b.1);omega
 ·exact h
 ·have h1:=a.2.1 q h;have h2:=b.2.2 q (yH _) (Ip h a.1);omega
theorem ahw (u:Up xs):SetTable.below xs 0=0 :=
 sG (fN u 0) ⟨Gy _,λk hk=>absurd hk (AA _),λ_ _ _=>Gy _⟩
variable {i:Nat}
theorem ahx (u:Up xs)(h:i<xs.size):SetTable.below xs (xs.getD i 0+1)=i+1:=by
 refine sG (fN u _) ⟨h,λk hk=>?_,λk h1 h2=>?_⟩
 ·rcases yO k i with q|q
  ·exact sS (u _ _ q h)
  ·have:k=i:=by omega
   rw[this];exact Fd _
 ·exact u _ _ (by omega) h2
theorem uv (h:i<xs.size):xs[i]?=some (xs.getD i 0):=by
 simp[Array.getD,h]
noncomputable def yr (xs:Array Nat)(j:Nat):Prop:=∃k,k<xs.size/\xs.getD k 0=j
theorem nV {t:T}(u:Up t.place)(h:yr t.place j):∃i,t.slot j=.live i:=by
 obtain⟨k,hk,rfl⟩:=h
 have hb:SetTable.below t.place (t.place.getD k 0)=k:=by
  refine sG (fN u _) ⟨xx hk,λq hq=>u _ _ hq hk,λq h1 h2=>?_⟩
  rcases yO k q with g|g
  ·exact xx (u _ _ g h2)
  ·have:q=k:=by omega
   rw[this];exact yH _
 refine⟨k,?_⟩;unfold SetTable.slot;dsimp only;rw[hb,uv hk];simp
theorem jo {t:T}(u:Up t.place)(d:t.dummies = #[])(h:¬yr t.place j):t.slot j=.empty:=by
 unfold SetTable.slot;dsimp only
 have e:(t.place[SetTable.below t.place j]?==some j)=false:=by
  rcases yO (SetTable.below t.place j) t.place.size with g|g
  ·rw[uv g];have:t.place.getD (SetTable.below t.place j) 0≠j:=λq=>h ⟨_,g,q⟩;simpa using this
  ·rw[xR g];rfl
 have e2:SetTable.has t.dummies j=false:=by rw[d];simp[SetTable.has]
 rw[e,e2];rfl
theorem fj {α:Type}(xs:Array α)(p:Nat)(x:α)(h:p<=xs.size):(SetTable.insertAt xs p x).size=xs.size+1:=by
 rw[<-yh,SetTable.toList_insertAt];simp;omega
theorem hJ {p x k:Nat}(h:p<=xs.size):(SetTable.insertAt xs p x).getD k 0=if k<p then xs.getD k 0 else if k=p then x else xs.getD (k-1) 0:=by
 have e:∀(ys:Array Nat)(k:Nat),ys.getD k 0=(ys.toList[k]?).getD 0:=by
  intro ys k;rw[Hw,B8]
 rw[e,e,e,SetTable.toList_insertAt]
 have hl:(xs.toList.take p).length=p:=by simp[h]
 by_cases g:k<p
 ·rw[qk g,EC (by omega),List.getElem?_take_of_lt g]
 ·rw[IX g,yy (by omega),hl]
  by_cases g2:k=p
  ·subst g2;simp
  ·rw[IX g2];obtain⟨q,hq⟩:∃q,k=p+(q+1):=⟨k-p-1,by omega⟩;subst hq;rw[show p+(q+1)-p=q+1 from by omega,List.getElem?_cons_succ,List.getElem?_drop,show p+(q+1)-1=p+q from by omega]
theorem ahy (u:Up xs)(h:¬yr xs j):Up (SetTable.insertAt xs (SetTable.below xs j) j):=by
 obtain⟨c1,c2,c3⟩:=fN u j;generalize SetTable.below xs j=p at c1 c2 c3;intro a b JX hb;rw[fj _ _ _ c1] at hb;rw[hJ c1,hJ c1];have gt:∀k,p<=k->k<xs.size->j<xs.getD k 0:=λk h1 h2=>Nat.lt_of_le_of_ne (c3 k h1 h2) λe=>h ⟨k,h2,e.symm⟩
 by_cases ha:a<p
 ·rw[qk ha]
  by_cases TJ:b<p
  ·rw[qk TJ];exact u _ _ JX (by omega)
  ·rw[IX TJ]
   by_cases YB:b=p
   ·rw[qk YB];exact c2 _ ha
   ·rw[IX YB];exact Bb (c2 _ ha) (gt _ (by omega) (by omega))
 ·rw[IX ha]
  by_cases LU:a=p
  ·rw[qk LU,IX (by omega),IX (by omega)];exact gt _ (by omega) (by omega)
  ·rw[IX LU,IX (by omega),IX (by omega)];exact u _ _ (by omega) (by omega)
noncomputable def it (m:Nat):Nat->Nat->Nat
 |0,x=>x
 |n+1,x=>it m n ((x*5+1)%m)
theorem uw (m a:Nat):∀b x,it m (b+a) x=it m a (it m b x):=by
 intro b
 induction b with
 |zero=>intro x;rw[yN];rfl
 |succ b ih=>intro x;rw[Nat.succ_add];exact ih _
noncomputable def round (m:Nat):Bool:=it m m 0==0&&(List.range m).all λy=>(List.range m).any λn=>it m n 0==y
variable {m:Nat}
theorem agO (h:round m=true){x y:Nat}(hx:x<m)(hy:y<m):∃n,n<m/\it m n x=y:=by
 obtain⟨h1,h2⟩:=Bq.mp h
 have h0:it m m 0=0:=by simpa using h1
 have on:∀y,y<m->∃n,n<m/\it m n 0=y:=λy hy=>by
  have h3:=BP.mp h2 y (DQ.mpr hy);obtain⟨n,hn,e⟩:=Ae.mp h3;exact⟨n,DQ.mp hn,by simpa using e⟩
 obtain⟨a,ha,rfl⟩:=on x hx;obtain⟨b,hb,rfl⟩:=on y hy
 rcases yO b a with g|g
 ·refine⟨(m-a)+b,by omega,?_⟩
  have e:it m (m-a) (it m a 0)=0:=by rw[<-uw,show a+(m-a)=m from by omega,h0]
  rw[uw,e]
 ·exact⟨b-a,by omega,by rw[<-uw,show a+(b-a)=b from by omega]⟩
theorem Lin:round 8=true:=by decide +kernel
theorem ahE:round 32=true:=by decide +kernel
theorem agr:round 128=true:=by decide +kernel
noncomputable def ky (k:Nat):Prop:=k=7\/k=31\/k=127
theorem ky.round {k:Nat}(h:ky k):St.round (k+1)=true:=by
 rcases h with rfl|rfl|rfl
 ·exact Lin
 ·exact ahE
 ·exact agr
noncomputable def lp (mask:Nat):Nat->Nat->Nat->Nat×Nat
 |0,i,p=>(i,p)
 |n+1,i,p=>lp mask n (SetTable.leap mask i p).1 (SetTable.leap mask i p).2
theorem agv (mask a:Nat):∀b i p,lp mask (b+a) i p=lp mask a (lp mask b i p).1 (lp mask b i p).2:=by
 intro b
 induction b with
 |zero=>intro i p;rw[yN];rfl
 |succ b ih=>intro i p;rw[Nat.succ_add];exact ih _ _
theorem agD (mask:Nat):∀n i p,(lp mask n i p).2=p/32^n:=by
 intro n
 induction n with
 |zero=>intro i p;show p=_;rw[Nat.pow_zero,Nat.div_one]
 |succ n ih =>
  intro i p;show(lp mask n _ _).2=_;rw[ih];show p/32/32^n=_;rw[Nat.div_div_eq_div_mul,Nat.pow_succ,Bw]
theorem agQ (mask:Nat):∀n i p,i<mask+1->(lp mask n i p).1<mask+1:=by
 intro n
 induction n with
 |zero=>intro i p h;exact h
 |succ n ih=>intro i p h;exact ih _ _ (EH _ (gW _))
theorem agR (mask:Nat):∀n i,(lp mask n i 0).1=it (mask+1) n i:=by
 intro n
 induction n with
 |zero=>intro i;rfl
 |succ n ih=>intro i;exact ih _
variable {mask:Nat}
theorem reach (hm:ky mask){p y:Nat}(hi:i<mask+1)(hp:p<2^64)(hy:y<mask+1):∃n,n<mask+15/\(lp mask n i p).1=y:=by
 have e:(lp mask 13 i p).2=0:=by
  rw[agD];exact Nat.div_eq_of_lt (Bb hp (by decide))
 obtain⟨n,hn,h⟩:=agO hm.round (agQ mask 13 i p hi) hy;refine⟨13+n,by omega,?_⟩;rw[agv,e,agR,h]
theorem vH (h:Int):SetTable.bits h<2^64:=by
 unfold SetTable.bits;have h1:0<=h%(2^64:Int):=rQ _ (by decide);have h2:h%(2^64:Int)<2^64:=DJ _ (by decide);omega
theorem AN (h:i<mask+1):SetTable.runEnd mask i<mask+1/\i<=SetTable.runEnd mask i/\SetTable.runEnd mask i<=i+9:=by
 unfold SetTable.runEnd
 split <;> omega
variable {owner:Array (Option Nat)}
theorem agS :∀(n f i p y:Nat),i<mask+1->n<f->(lp mask n i p).1=y->owner.getD y (some 0)=none →
 ∃j,SetTable.layClean.free mask owner f i p=some j/\owner.getD j (some 0)=none:=by
 intro n
 induction n with
 |zero =>
  intro f i p y hi hf hy ho;obtain⟨f,rfl⟩:∃g,f=g+1:=⟨f-1,by omega⟩
  cases(show i=y from hy)
  unfold SetTable.layClean.free
  cases e:(List.range (SetTable.runEnd mask i+1-i)).find? λk=>(owner.getD (i+k) (some 0)).isNone with
  |some k =>
   have:=List.find?_some e;exact⟨i+k,rfl,by simpa using this⟩
  |none =>
   have h0:=List.find?_eq_none.mp e 0 (DQ.mpr (by have:=AN hi;omega));rw[Nat.add_zero,ho] at h0;exact absurd rfl h0
 |succ n ih =>
  intro f i p y hi hf hy ho;obtain⟨f,rfl⟩:∃g,f=g+1:=⟨f-1,by omega⟩;unfold SetTable.layClean.free
  cases e:(List.range (SetTable.runEnd mask i+1-i)).find? λk=>(owner.getD (i+k) (some 0)).isNone with
  |some k =>
   have:=List.find?_some e;exact⟨i+k,rfl,by simpa using this⟩
  |none=>exact ih f _ _ y (EH _ (gW _)) (by omega) hy ho
theorem ab8 {t:T}{h:Int}(u:Up t.place)(d:t.dummies = #[]){F:Nat}:∀(k f:Nat)(p:SetTable.Probe),p.more=k->p.dummy=none->k+1+F=f →
 (∀q:SetTable.Probe,q.j=q.i->q.more=SetTable.runEnd t.mask q.i-q.i->q.dummy=none->(q.i,q.perturb)=SetTable.leap t.mask p.i p.perturb->∃j,SetTable.probe.go t (λ_=>h+1) h F q=some (.empty j none)/\¬yr t.place j) →
 ∃j,SetTable.probe.go t (λ_=>h+1) h f p=some (.empty j none)/\¬yr t.place j:=by
 intro k
 induction k with
 |zero =>
  intro f p hk hd hf hn;obtain⟨f,rfl⟩:∃g,f=g+1:=⟨f-1,by omega⟩
  have hF:F=f:=by omega
  subst hF;unfold SetTable.probe.go
  by_cases g:yr t.place p.j
  ·obtain⟨i,e⟩:=nV u g;rw[e];dsimp only;rw[IX (by simp;omega)];refine hn _ ?_ ?_ ?_ ?_ <;> unfold SetTable.advance <;> rw[IX (by omega)]
   ·exact hd
  ·rw[jo u d g];exact⟨_,by rw[hd],g⟩
 |succ k ih =>
  intro f p hk hd hf hn;obtain⟨f,rfl⟩:∃g,f=g+1:=⟨f-1,by omega⟩;unfold SetTable.probe.go
  by_cases g:yr t.place p.j
  ·obtain⟨i,e⟩:=nV u g;rw[e];dsimp only;rw[IX (by simp;omega)]
   have ea:t.advance p={p with j:=p.j+1,more:=p.more-1}:=by unfold SetTable.advance;rw[qk (by omega)]
   rw[ea];exact ih f _ (by show p.more-1=k;omega) hd (by omega) hn
  ·rw[jo u d g];exact⟨_,by rw[hd],g⟩
theorem ac6 {t:T}{h:Int}(u:Up t.place)(d:t.dummies = #[]):∀(n f:Nat)(p:SetTable.Probe)(y:Nat),p.i<t.mask+1->p.j=p.i->p.more=SetTable.runEnd t.mask p.i-p.i->p.dummy=none →
 10*n<f->(lp t.mask n p.i p.perturb).1=y->¬yr t.place y->∃j,SetTable.probe.go t (λ_=>h+1) h f p=some (.empty j none)/\¬yr t.place j:=by
 intro n
 induction n with
 |zero =>
  intro f p y hi hj hm hd hf hy hn;obtain⟨f,rfl⟩:∃g,f=g+1:=⟨f-1,by omega⟩;have e:p.j=y:=hj.trans hy;unfold SetTable.probe.go;rw[e,jo u d hn];exact⟨_,by rw[hd],hn⟩
 |succ n ih =>
  intro f p y hi hj hm hd hf hy hn;have hr:=AN hi;refine ab8 u d (F:=f-(p.more+1)) p.more f p rfl hd (by omega) λq q1 q2 q3 q4=>?_;have e1:q.i=(SetTable.leap t.mask p.i p.perturb).1:=Ec Prod.fst q4;have e2:q.perturb=(SetTable.leap t.mask p.i p.perturb).2:=Ec Prod.snd q4;refine ih _ q y (by rw[e1];exact EH _ (gW _)) q1 q2 q3 (by omega) ?_ hn;rw[e1,e2];exact hy
theorem adb (u:Up xs):∀m,(∀y,y<m+1->yr xs y)->∃k,k<xs.size/\xs.getD k 0=m/\m<=k:=by
 intro m
 induction m with
 |zero=>intro h;obtain⟨k,hk,e⟩:=h 0 (by omega);exact⟨k,hk,e,Gy _⟩
 |succ m ih =>
  intro h;obtain⟨k,hk,e,hl⟩:=ih λy hy=>h y (by omega);obtain⟨q,hq,e2⟩:=h (m+1) (by omega);refine⟨q,hq,e2,?_⟩
  rcases wL k q with g|g|g
  ·omega
  ·subst g;omega
  ·have:=u _ _ g hk;omega
theorem CK (u:Up xs)(h:xs.size<m+1):∃y,y<m+1/\¬yr xs y:=by
 refine wK λn=>?_;obtain⟨k,hk,_,hl⟩:=adb u m λy hy=>wK λg=>n ⟨y,hy,g⟩;omega
theorem adh {t:T}(hm:ky t.mask)(u:Up t.place)(d:t.dummies = #[])(hs:t.place.size<t.mask+1)(h:Int):∃j,t.freeSlot h=some (j,false)/\¬yr t.place j:=by
 obtain⟨y,hy,hn⟩:=CK u hs;have hi:SetTable.bits h%(t.mask+1)<t.mask+1:=EH _ (gW _);obtain⟨n,hl,e⟩:=reach hm hi (vH h) hy;obtain⟨j,e2,hj⟩:=ac6 (h:=h) u d n (10*SetTable.turns t.mask) (t.probeStart h) y hi rfl rfl rfl (by unfold SetTable.turns;omega) e hn;refine⟨j,?_,hj⟩;unfold SetTable.freeSlot SetTable.probe;rw[e2];rfl
noncomputable def BQ (owner:Array (Option Nat))(m:Nat):List Nat:=(List.range m).filterMap λj=>owner.getD j none
structure Laid (owner:Array (Option Nat))(m k:Nat):Prop where
 size:owner.size=m
 all:(BQ owner m).Perm (List.range k)
theorem adi (h:owner.getD j (some 0)=none):j<owner.size/\owner.getD j none=none:=by
 rcases yO j owner.size with g|g
 ·refine⟨g,?_⟩;rw[<-h];simp[Array.getD,g]
 ·simp[Array.getD,Nat.not_lt.mpr g] at h
theorem rP {α β:Type}{f:α->Option β}:∀{l:List α},(∀x,x∈l->f x≠none)->(l.filterMap f).length=l.length
 |[],_=>rfl
 |x::l,h=>by
  obtain⟨y,e⟩:=Option.ne_none_iff_exists'.mp (h x qT);rw[List.filterMap_cons_some e,sR,sR,rP λz hz=>h z (rB _ hz)]
theorem Laid.CK {k:Nat}(L:Laid owner m k)(h:k<m):∃y,y<m/\owner.getD y (some 0)=none:=by
 refine wK λn=>?_
 have e:(BQ owner m).length=m:=by
  unfold BQ;rw[rP,xQ];intro y hy e;have Mv:=DQ.mp hy;refine n ⟨y,Mv,?_⟩;rw[<-e];simp[Array.getD,L.size,Mv]
 rw[L.all.length_eq,xQ] at e;omega
theorem kQ {α β:Type}{f g:α->Option β}:∀{l:List α},(∀x,x∈l->f x=g x)->l.filterMap f=l.filterMap g
 |[],_=>rfl
 |x::l,h=>by
  rw[Ie,Ie,h x qT,kQ λz hz=>h z (rB _ hz)]
theorem adn {k:Nat}(hs:owner.size=m)(hj:j<m)(ho:owner.getD j none=none):(BQ (owner.setIfInBounds j (some k)) m).Perm (k::BQ owner m):=by
 obtain⟨a,b,e⟩:=List.append_of_mem (DQ.mpr hj);have nd:(a++j::b).Nodup:=e▸List.nodup_range
 have na:∀x,x∈a->x≠j:=λx hx q=>by
  rw[Iv] at nd;exact nd.2.2 x hx j qT q
 have nb:∀x,x∈b->x≠j:=λx hx q=>by
  rw[Iv] at nd;exact(DO.mp nd.2.1).1 (q▸hx)
 have ne:∀x,x≠j->(owner.setIfInBounds j (some k)).getD x none=owner.getD x none:=λx hx=>by
  rw[B8,B8,Ac (Bt hx)]
 have ej:(owner.setIfInBounds j (some k)).getD j none=some k:=by
  rw[B8,Array.getElem?_setIfInBounds_self_of_lt (by omega)];rfl
 unfold BQ;rw[e,List.filterMap_append,List.filterMap_append,Ie,Ie,ej,ho];dsimp only;rw[kQ λx hx=>ne x (na x hx),kQ λx hx=>ne x (nb x hx)];exact List.perm_middle
theorem adp (hm:ky mask):∀(hs:List Int)(owner:Array (Option Nat))(k:Nat),Laid owner (mask+1) k->k+hs.length<mask+1 →
 ∃Lr,hs.foldl (λacc h=>do
  let(owner,k) <-acc
  let j <-SetTable.layClean.free mask owner (SetTable.turns mask) (SetTable.bits h%(mask+1)) (SetTable.bits h)
  pure (owner.setIfInBounds j (some k),k+1)) (some (owner,k))=some (Lr,k+hs.length)/\Laid Lr (mask+1) (k+hs.length):=by
 intro hs
 induction hs with
 |nil=>intro owner k L _;exact⟨owner,rfl,L⟩
 |cons h hs ih =>
  intro owner k L hl;rw[sR] at hl;obtain⟨y,hy,ho⟩:=L.CK (by omega);have hi:SetTable.bits h%(mask+1)<mask+1:=EH _ (gW _);obtain⟨n,hn,e⟩:=reach hm hi (vH h) hy;obtain⟨j,ej,hj⟩:=agS n (SetTable.turns mask) _ _ y hi (by unfold SetTable.turns;omega) e ho;obtain⟨j1,j2⟩:=adi hj
  have L':Laid (owner.setIfInBounds j (some k)) (mask+1) (k+1):=by
   refine⟨by rw[Array.size_setIfInBounds];exact L.size,(adn L.size (by rw[<-L.size];exact j1) j2).trans ?_⟩;rw[List.range_succ];exact(List.Perm.cons k L.all).trans (List.perm_append_singleton k _).symm
  obtain⟨o',e',l'⟩:=ih _ _ L' (by omega);refine⟨o',?_,by rw[sR,show k+(hs.length+1)=k+1+hs.length from by omega];exact l'⟩;rw[zP,sR,show k+(hs.length+1)=k+1+hs.length from by omega];show List.foldl _ ((SetTable.layClean.free mask owner (SetTable.turns mask) (SetTable.bits h%(mask+1)) (SetTable.bits h)).bind _) hs=_;rw[ej];exact e'
theorem adq (m:Nat):BQ (Array.replicate m none) m=[]:=by
 unfold BQ;rw[List.filterMap_eq_nil_iff];intro j hj;have LS:=DQ.mp hj;simp[Array.getD,LS]
theorem adw (hm:ky mask)(hs:Array Int)(h:hs.size<mask+1):∃owner,SetTable.layClean mask hs=some owner/\Laid owner (mask+1) hs.size:=by
 obtain⟨o,e,l⟩:=adp hm hs.toList (Array.replicate (mask+1) none) 0 ⟨Array.size_replicate,by rw[adq];exact yF _⟩ (by rw[yh];omega);rw[yh,yN] at e l;refine⟨o,?_,l⟩;unfold SetTable.layClean;rw[<-Array.foldl_toList];rw[e];rfl
theorem adx {l:List Nat}(h:l.Pairwise (· < ·)):Up l.toArray:=by
 intro i j Kq hj;rw[Jc] at hj;have:=yo.mp h i j (by omega) hj Kq;rw[show l.toArray.getD i 0=l[i] from by simp[Array.getD,show i<l.length from by omega],show l.toArray.getD j 0=l[j] from by simp[Array.getD,hj]];exact this
theorem ady {t:T}{hs:Array Int}{wanted:Nat}(em:SetTable.sizeAbove wanted-1=mask)(hm:ky mask)(h:hs.size<mask+1):
 ∃t' order,t.relaid hs wanted=some (t',order)/\t'.mask=mask/\t'.dummies = #[]/\t'.led=t.led/\t'.plain=t.plain/\Up t'.place/\t'.place.size=hs.size/\order.toList.Perm (List.range hs.size):=by
 obtain⟨o,e,l⟩:=adw hm hs h;unfold SetTable.relaid SetTable.laid;rw[em,e];refine⟨_,_,rfl,rfl,rfl,rfl,rfl,?_,?_,?_⟩
 ·dsimp only;rw[EV];refine adx (List.Pairwise.filterMap _ (λa a' haa b hb b' Ju=>?_) (List.pairwise_lt_range (n:=mask+1)))
  cases ea:o.getD a none with
  |none=>rw[ea] at hb;cases hb
  |some x =>
   cases YC:o.getD a' none with
   |none=>rw[YC] at Ju;cases Ju
   |some x' =>
    rw[ea] at hb;rw[YC] at Ju
    cases hb;cases Ju
    exact haa
 ·have e1:=l.all.length_eq;rw[xQ] at e1;dsimp only;rw[Jc,EZ,<-e1];unfold BQ;rw[show(λj=>o.getD j none)=(λj=>((o.getD j none).map (j,·)).map Prod.snd) from funext λj=>by cases o.getD j none <;> rfl,<-EV,EZ]
 ·dsimp only;rw[EV]
  have e2:(λx=>Option.map (λx=>x.snd) (Option.map (λx_1=>(x,x_1)) (o.getD x none)))=λj=>o.getD j none:=funext λj=>by cases o.getD j none <;> rfl
  rw[e2];exact l.all
structure Ok (led:Bool)(n:Nat)(t:T):Prop where
 mask:ky t.mask
 room:n*5<t.mask*3
 size:t.place.size=n
 up:Up t.place
 dum:t.dummies = #[]
 plain:t.plain=true
 led:t.led=led
variable {led:Bool}{n:Nat}
theorem Ok.fits {t:T}(o:Ok led n t):t.fits n=true:=by
 have h1:=o.room;have h2:=o.size;simp only[SetTable.fits,SetTable.fill,Ir,Fz,Hm,o.dum];refine⟨h2,?_⟩;rw[h2,Ht];omega
theorem Ok.fresh (led:Bool):Ok led 0 (.fresh 0 0 led):=
 ⟨.inl rfl,by show 0*5<7*3;decide,rfl,λi j _ h=>absurd h (AA _),rfl,rfl,rfl⟩
theorem adA {t:T}(o:Ok led n t){es:Array (Int×Value)}(he:es.size=n)(h:Int)(x:Value):∃es' t',layNew t es h x=(es',t',false,false)/\es'.size=n+1 /\
 ky t'.mask/\t'.mask=t.mask/\t'.place.size=n+1/\Up t'.place/\t'.dummies = #[]/\t'.plain=true/\t'.led=led/\t'.fits (n+1)=true:=by
 have hr:=o.room;have hs:=o.size;obtain⟨j,ej,hj⟩:=adh o.mask o.up o.dum (by rw[hs];omega) h;have c:=fN o.up j
 have e1:(SetTable.insertAt t.place (SetTable.below t.place j) j).size=n+1:=by rw[fj _ _ _ c.1,hs]
 have e2:(SetTable.insertAt es (SetTable.below t.place j) (h,x)).size=n+1:=by rw[fj _ _ _ (by have:=c.1;omega),he]
 have e3:SetTable.has t.dummies j=false:=by rw[o.dum];simp[SetTable.has]
 have ep:t.put j=({t with place:=SetTable.insertAt t.place (SetTable.below t.place j) j},SetTable.below t.place j):=by
  unfold SetTable.put;dsimp only;rw[e3];rfl
 have ef:SetTable.fits {t with place:=SetTable.insertAt t.place (SetTable.below t.place j) j} (n+1)=true:=by
  simp only[SetTable.fits,SetTable.fill,Ir,Fz,Hm,o.dum];refine⟨e1,?_⟩;rw[e1,Ht];omega
 refine⟨SetTable.insertAt es (SetTable.below t.place j) (h,x),{t with place:=SetTable.insertAt t.place (SetTable.below t.place j) j},?_,e2,o.mask,rfl,e1,ahy o.up hj,o.dum,o.plain,o.led,ef⟩;unfold layNew;rw[ej];dsimp only;rw[ep];dsimp only;unfold SetTable.orStandIn;rw[e2,ef];rfl
theorem adI:SetTable.sizeAbove (SetTable.grown 5)-1=31:=by decide
theorem adN:SetTable.sizeAbove (SetTable.grown 19)-1=127:=by decide
theorem adO {t:T}(hn:n<76)(hm:ky t.mask)(hr:n*5<t.mask*3)(hs:t.place.size=n+1)(d:t.dummies = #[])(hp:t.plain=true)(hl:t.led=led)
 {es:Array (Int×Value)}(he:es.size=n+1)(hf:t.tooFull=true):∃es' t',relayAll t es (SetTable.grown es.size)=(es',t',false)/\es'.size=n+1/\Ok led (n+1) t':=by
 have full:(n+1)*5 ≥ t.mask*3:=by
  have:=hf;simp only[SetTable.tooFull,SetTable.fill,hs,d,Ht,Hm] at this;omega
 have two:(t.mask=7/\n+1=5)\/(t.mask=31/\n+1=19):=by
  rcases hm with e|e|e <;> omega
 obtain⟨mask,em,Tw,Jk,P1⟩:∃mask,SetTable.sizeAbove (SetTable.grown es.size)-1=mask/\ky mask/\n+1<mask+1/\(n+1)*5<mask*3:=by
  rw[he]
  rcases two with⟨_,e⟩|⟨_,e⟩
  ·exact⟨31,by rw[e];exact adI,.inr (.inl rfl),by omega,by omega⟩
  ·exact⟨127,by rw[e];exact adN,.inr (.inr rfl),by omega,by omega⟩
 have e0:(es.map (·.1)).size=n+1:=by rw[Array.size_map];exact he
 obtain⟨t',order,er,m1,m2,m3,m4,m5,m6,m7⟩:=ady (t:=t) (hs:=es.map (·.1)) em Tw (by rw[e0];exact Jk);rw[e0] at m6 m7
 have es':(order.filterMap (es[·]?)).size=n+1:=by
  have:=(m7.filterMap (λi=>es[i]?)).length_eq;rw[<-he,filterMap_getElem?_range] at this;rw[<-yh,Array.toList_filterMap];refine this.trans ?_;rw[yh,he]
 have O:Ok led (n+1) t':=⟨by rw[m1];exact Tw,by rw[m1];exact P1,m6,m5,m2,m4.trans hp,m3.trans hl⟩;refine⟨order.filterMap (es[·]?),t',?_,es',O⟩;unfold relayAll;rw[er];dsimp only
 have c:coversAll order es.size=true:=by unfold coversAll;rw[he];exact List.isPerm_iff.mpr m7
 rw[es',c,O.fits];rfl
open PyProof.Rows
noncomputable def num:Value->Int
 | .int n _=>n
 |_=>0
noncomputable abbrev Ent:=Int×Value
noncomputable def adV (e:Ent):Prop:=∃n t,e=(hashInt n,.int n t)
structure lj (es:Array Ent)(ns:List Int):Prop where
 Cu:∀e,e∈es.toList->adV e
 perm:(es.toList.map λe=>num e.2).Perm ns
noncomputable abbrev jN (es:Array Ent)(ep:Nat)(t:T):Obj:={cls:=.type "set",dict:=none,data:=.set es ep t,slots:=#[]}
noncomputable def jO (led:Bool)(h:Heap)(a:Addr)(ns:List Int):Prop:=∃es ep t,h.get? a=some (jN es ep t)/\lj es ns/\es.size=ns.length/\Ok led ns.length t
theorem rf:∀{vs:HF},(∀v,v∈vs->∃n t,v=.int n t)->IntsAre vs (vs.map num)
 |[],_=>.nil
 |v::vs,h=>by
  obtain⟨n,t,rfl⟩:=h v qT;exact .cons n t (rf λu hu=>h u (rB _ hu))
variable {es:Array Ent}{ns:List Int}{h:Heap}{a:Addr}{ep:Nat}
section
variable {prog:xq}{w:World}{A:Around}{E:AU}{s:pL}
theorem lj.elems (c:lj es ns):ElemsOf (intKind prog w) es.toList:=by
 intro e he;obtain⟨n,t,rfl⟩:=c.Cu e he;exact⟨⟨n,Ck _ _ _ _,rfl⟩,rfl⟩
theorem lj.has (c:lj es ns)(k:Int):(∃e,e∈es.toList/\(intKind prog w).is k e.2=true)↔k∈ns:=by
 rw[<-c.perm.mem_iff,EA];constructor
 ·rintro⟨e,he,hk⟩;obtain⟨n,t,rfl⟩:=c.Cu e he;refine⟨_,he,?_⟩;exact(intKind prog w).inj (.int n t) n k (Ck _ _ _ _) hk
 ·rintro⟨e,he,hk⟩;obtain⟨n,t,rfl⟩:=c.Cu e he
  cases(show n=k from hk)
  exact⟨_,he,Ck _ _ _ _⟩
theorem lj.push {es':Array Ent}(c:lj es ns){k:Int}{tk:Tok}(p:es'.toList.Perm (es.toList++[(hashInt k,.int k tk)])):lj es' (ns++[k]):=by
 refine⟨λe he=>?_,?_⟩
 ·rcases tH.mp (p.mem_iff.mp he) with h|h
  ·exact c.Cu e h
  ·rw[DZ] at h;exact⟨k,tk,h⟩
 ·refine(p.map _).trans ?_;rw[Aq];exact c.perm.append (yF _)
theorem lj.aiP {es':Array Ent}(c:lj es ns)(p:es'.toList.Perm es.toList):lj es' ns :=
 ⟨λe he=>c.Cu e (p.mem_iff.mp he),(p.map _).trans c.perm⟩
theorem rD {k:Int}(h:k∈ns):step_dedup ns k=ns:=by
 unfold step_dedup;rw[qk (Ae.mpr ⟨k,h,by simp⟩)]
theorem jm {k:Int}(h:k∉ns):step_dedup ns k=ns++[k]:=by
 unfold step_dedup;rw[IX λg=>?_];obtain⟨x,hx,e⟩:=Ae.mp g;exact h ((by simpa using e:x=k)▸hx)
theorem ve {es':Array Ent}{t t':T}(ho:h.get? a=some (jN es ep t)):(h.update a (Obj.putSet es' t')).get? a=some (jN es' (ep+1) t'):=
 Fn (Obj.putSet es' t') ho rfl
theorem adZ {k:Int}{tk:Tok}{Q:Bool->Shared->Prop}(S:jO led s.heap a ns)(hn:ns.length<76)
 (hQ:∀b h',Heap.SameBut a s.heap h'->jO led h' a (step_dedup ns k)->Q b {s with heap:=h'}):wpAny (model prog w) A (setAddHashed a (.int k tk) (hashInt k)) Q E s:=by
 obtain⟨es,ep,t,ho,c,hz,O⟩:=S
 have hf:t.fits es.size=true:=by rw[hz];exact O.fits
 have YD:ElemsOf (intKind prog w) es.toList:=c.elems
 have hb:es.size<scanBound:=by show _<4096;omega
 unfold setAddHashed setAddHashedIn;refine BV (IW (wpAny_setState_of ho rfl hf ?_));dsimp only;rw[byScan_of (knd:=intKind prog w) rfl hb YD,qk rfl];unfold setAddByScan;refine IW (IW (qK (IW (wpAny_setScan_of (knd:=intKind prog w) (Ck _ _ k tk) ho rfl hf YD ?_))))
 cases hr:List.findIdx? (λe=>(intKind prog w).is k e.2) es.toList with
 |some j =>
  obtain⟨hj,hpj,_⟩:=List.findIdx?_eq_some_iff_getElem.mp hr;have hk:k∈ns:=(c.has (prog:=prog) (w:=w) k).mp ⟨_,BK hj,hpj⟩;refine Fc (Fc ?_);have:=hQ false s.heap (Heap.SameBut.refl a s.heap) (by rw[rD hk];exact⟨es,ep,t,ho,c,hz,O⟩)
  cases s;exact this
 |none =>
  have hk:k∉ns:=λh=>by
   obtain⟨e,he,hp⟩:=(c.has (prog:=prog) (w:=w) k).mpr h;have:=List.findIdx?_eq_none_iff.mp hr e he;rw[hp] at this;cases this
  obtain⟨OM,t1,eL,z1,m1,m2,p1,u1,d1,Vi,l1,f1⟩:=adA O hz (hashInt k) (.int k tk);have hp:=layNew_perm t es (hashInt k) (.int k tk);rw[eL,Array.toList_push] at hp;have c1:lj OM (ns++[k]):=c.push hp;dsimp only;rw[eL];dsimp only;refine IW (Fc ?_);rw[Vi,qk rfl,hashByValue_scannable 8 (x:=.int k tk) rfl];refine IW (Fc ?_);rw[qk (show plainKind (.int k tk)=true from rfl)]
  have len:(ns++[k]).length=ns.length+1:=by rw[zr];rfl
  refine IW (wpAny_storeSet_of ho rfl ?_ (fits_of_scanBound (by rw[z1];show _<4096;omega)));have NB:=ve (es':=OM) (t':=t1) ho;have K2:=Bn s.heap a (Obj.putSet OM t1)
  by_cases Ls:t1.tooFull=true
  ·obtain⟨es2,t2,eR,z2,O2⟩:=adO hn m1 (by rw[m2];exact O.room) p1 d1 Vi l1 z1 Ls;have OB:=relayAll_perm t1 OM (SetTable.grown OM.size);rw[eR] at OB;rw[qk (by rw[Ls];rfl)];rw[eR];dsimp only;refine IW (Fc ?_);refine IW (wpAny_storeSet_of NB rfl ?_ (fits_of_scanBound (by rw[z2];show _<4096;omega)));refine Fc (Fc (hQ true _ (K2.trans (Bn _ a _)) ?_));rw[jm hk];exact⟨es2,_,t2,ve NB,c1.aiP OB,by rw[len];exact z2,by rw[len];exact O2⟩
  ·have YE:t1.tooFull=false:=by simpa using Ls
   rw[IX (by rw[YE];decide)];refine Fc (Fc (hQ true _ K2 ?_));rw[jm hk];refine⟨OM,_,t1,NB,c1,by rw[len];exact z1,?_⟩;rw[len];refine⟨m1,?_,p1,u1,d1,Vi,l1⟩;simp only[SetTable.tooFull,SetTable.fill,p1,d1,Ht,decide_eq_false_iff_not] at YE;omega
end
noncomputable abbrev own (w:World):Bool:=!w.params.followText "set-order"
noncomputable abbrev GE:Array GenState->Array GenState->Prop:=λa b=>b=a
structure Src (prog:xq)(w:World)(c:String)(its:Il)(Is:Heap->Addr->Prop)(ON:Addr->Obj):Prop where
 type:∀h l,Is h l->∃o,h.get? l=some o/\o.cls=.type c
 keep:∀h h' l,Is h l->(∀o,h.get? l=some o->h'.get? l=some o)->Is h' l
 iter:∀(A:Around)(s:pL) l (Q:AU)(E:AU),Is s.heap l->Q (.ref s.heap.objs.size) {s with heap:=s.heap.push (ON l)}->wpAny (model prog w) A (pyIter (.ref l)) Q E s
 walk:∀(A:Around) I l,A.handled=none->l≠I->∃G,WalksS prog w A I [I,l] [I] GE its.size (λi v=>its[i]?=some v) G/\∀s:Shared,Is s.heap l->s.heap.get? I=some (ON l)->G 0 s
 ah5:∀(h:Heap) l,(h.push (ON l)).get? h.objs.size=some (ON l)
 s1:isSubtype (.type c) (.type "set")=pure false
 s2:isSubtype (.type c) (.type "frozenset")=pure false
 nd:(Value.type c==Value.type "dict")=false
section
variable {prog:xq}{w:World}{A:Around}{R:Result->Shared->Prop}{I:Addr}{fp wr:List Addr}{n:Nat}{P:Nat->Value->Prop}{G:Nat->Shared->Prop}
theorem ad2 (W:WalksS prog w A.in1 I fp wr GE n P G)(a:Addr)(ha:a∉fp)(val:Nat->Int)(hv:∀i v,P i v->∃t,v=.int (val i) t)(hn:n<76):
 ∀(k i:Nat)(s:pL),n-i=k->i<=n->G i s->jO led s.heap a (firstMet val i) →
  (∀z,Moved (a::wr) GE s z->jO led z.heap a (firstMet val n)->R (.ok (.ret .none)) z) →
  codeAny (model prog w) A (.builtin "set.update.loop" ⟨[.ref a,.ref I],[]⟩) R s:=by
 have aw:a∉wr:=λh=>ha (W.sub _ h);have up:∀b,b∈wr->b∈a::wr:=λb hb=>rB _ hb;have mv:∀{y z:pL}{ns:List Int},Moved wr GE y z->jO led y.heap a ns->jO led z.heap a ns:=λm ⟨es,ep,t,o,r⟩=>⟨es,ep,t,m.heap a _ aw o,r⟩;intro k
 induction k with
 |zero =>
  intro i s hk hi g S hR
  cases(show i=n by omega)
  refine pB CP ?_;rw[Hg wH _];refine IW (m:=pyNext (.ref I)) ?_;exact W.done s _ _ g λz m=>Fc (hR z (m.mono up) (mv m S))
 |succ k ih =>
  intro i s hk hi g S hR;refine pB CP ?_;rw[Hg wH _];refine IW (m:=pyNext (.ref I)) ?_;refine W.item i s _ _ (by omega) g λv z hp g1 m=>?_;obtain⟨t,rfl⟩:=hv i v hp;refine IW (m:=holding [Value.int (val i) t] (setAdd a (.int (val i) t))) (BV ?_);unfold setAdd;refine BV (IW ((intKind prog w).pyHash (k:=val i) (Ck _ _ _ _) ?_));refine adZ (s:={z with toks:=z.toks+1}) (show jO led z.heap a _ from mv m S) (by have:=firstMet_length_le val i;omega) λb h' sb S1=>?_;rw[<-firstMet_succ] at S1;refine Fc ⟨CV wH _,ih (i+1) _ (by omega) (by omega) (W.frame _ z _ _ g1 (Ja _) λb hb o e=>?_) S1 λy m1 S2=>?_⟩
  ·rw[sb.2 b λh:b=a=>ha (h▸hb)];exact e
  ·refine hR y (Moved.trans W.gtrans ((m.mono up).then_heap (Ja _) λb o hb e=>?_) m1) S2;rw[sb.2 b λh:b=a=>hb (by rw[h];exact qT)];exact e
end
section
variable {prog:xq}{w:World}{A:Around}{E:AU}{s:pL}
noncomputable abbrev pP (w:World):Obj:=jN #[] 0 (.fresh 0 0 (own w))
theorem ad3 (v:Value){Q:AU}(h:Q (.ref s.heap.objs.size) {s with heap:=s.heap.push (pP w)}):
 codeAny (model prog w) A (.call (.builtin "set.__new__") ⟨[.type "set",v],[]⟩) (wants Q E) s:=by
 refine codeAny_of_tree (show wpAny _ A.in1 (checkBuiltinCall "set.__new__" ⟨[.type "set",v],[]⟩>>=λ_=>again (.builtin "set.__new__" ⟨[.type "set",v],[]⟩)) _ _ s from ?_);refine IW (xK (F.newCall_set_1 v) (Fc ⟨CV F.plain_set_new _,pB F.entry_set_new ?_⟩));rw[Hg F.plain_set_new _];unfold Builtin.«set.__new__» Builtin.Frozenset.newClass;have su:=sub_set_self
 cases s
 dsimp only
 wp_walk
 refine zC (Fc ?_);dsimp only[newObj];exact IW (wpAny_alloc (Fc (Fc h)))
set_option maxHeartbeats 3200000 in
theorem qf {c:String}{its:Il}{Is:Heap->Addr->Prop}{ON:Addr->Obj}(X:Src prog w c its Is ON){l:Addr}{Q:AU}
 (hh:A.handled=none)(hl:Is s.heap l)(hi:IntsAre its.toList ns)(hb:its.size<76)
 (h:∀(h':Heap)(tk:Nat),jO (own w) h' s.heap.objs.size (firstMet (λi=>ns.getD i 0) its.size)->(∀b o,b<s.heap.objs.size->s.heap.get? b=some o->h'.get? b=some o) →
  s.toks<=tk->Q (.ref s.heap.objs.size) {s with heap:=h',toks:=tk}):
 wpAny (model prog w) A (call (.type "set") [.ref l]) Q E s:=by
 obtain⟨_,_,mro⟩:=BC.mro;have made:=BC.made;have su:=BC.sub;refine yn (codeAny_of_tree (show wpAny _ _ (callAny (.type "set") _) _ _ _ from Fc ⟨Code.quiet_builtin _ (by decide +kernel),pB F.entry_type_call ?_⟩));rw[Around.under_plain (weight_type_call_type "set" [.ref l] []) rfl];have k1:=BC.notType;have k2:=BC.canCreate;have k3:=F.typeCall_set_1 (.ref l)
 repeat (any_goals (first|assumption|wp_step))
 refine zL (ad3 (.ref l) (E:=E) (Q:=λv z=>v=.ref s.heap.objs.size/\z={s with heap:=s.heap.push (pP w)}) ⟨rfl,rfl⟩) λr z hr=>?_
 cases r with
 |error e=>exact hr
 |ok fl =>
  cases fl with
  |ret obj =>
   obtain⟨rfl,rfl⟩:=hr;have oS:(s.heap.push (pP w)).get? s.heap.objs.size=some (pP w):=Fg _ rfl;have tS:Shared.TypeIs {s with heap:=s.heap.push (pP w)} (.ref s.heap.objs.size) "set":=⟨_,oS,rfl⟩;have k4:=BC.init.lookup;have k5:=BC.init.bind (.ref s.heap.objs.size)
   repeat (any_goals (first|assumption|wp_step))
   refine zL (Cp (R:=wants (λv z=>v=.none/\∃h' tk,z={s with heap:=h',toks:=tk}/\jO (own w) h' s.heap.objs.size (firstMet (λi=>ns.getD i 0) its.size) /\
    (∀b o,b<s.heap.objs.size->s.heap.get? b=some o->h'.get? b=some o)/\s.toks<=tk) E) BC.init.plain F.entry_set_init (check_set_init_1 tS ?_)) λr z hr=>?_
   ·have lS:Is (s.heap.push (pP w)) l:=X.keep _ _ _ hl λo e=>Ez _ e;obtain⟨⟨oc,od,oda,Jw⟩,PQ,YF⟩:=X.type _ _ lS;dsimp only at YF;subst YF
    have Jk:l<s.heap.objs.size:=by
     obtain⟨o,e,_⟩:=X.type _ _ hl;exact Ep e
    have tl:Shared.TypeIs {s with heap:=s.heap.push (pP w)} (.ref l) c:=⟨_,PQ,rfl⟩;have k6:=X.s1;have k7:=X.s2;have k8:=X.nd;unfold Builtin.«set.__init__» noKeywords Builtin.Frozenset.updateFrom;generalize ePI:pyIter=PI
    wp_walk
    subst ePI;refine X.iter _ _ _ _ _ lS ?_;refine IW (wpAny_runValue ?_)
    have h3:A.in1.in1.in1.handled=none:=by simp[hh]
    have nI:l≠(s.heap.push (pP w)).objs.size:=by rw[B5];exact IB (sS Jk)
    have nf:s.heap.objs.size ∉ [(s.heap.push (pP w)).objs.size,l]:=by
     rw[B5];simp only[HK,EL,wU,not_or];exact⟨IB (Fd _),tU Jk⟩
    obtain⟨G,W,g0⟩:=X.walk A.in1.in1.in1 _ l h3 nI
    refine ad2 W s.heap.objs.size nf (λi=>ns.getD i 0) (λi v e=>IntsAre.int_at hi i v (by rw[Hw];exact e)) hb (its.size-0) 0 _ rfl (Gy _)
     (g0 _ (X.keep _ _ _ lS λo e=>Ez _ e) (X.ah5 _ _)) ⟨#[],0,_,Ez _ oS,⟨λe he=>by simp at he,yF _⟩,rfl,Ok.fresh _⟩ ?_
    intro z m S
    have NC:∀b o,b<s.heap.objs.size->s.heap.get? b=some o->z.heap.get? b=some o:=λb o hb e=>by
     refine m.heap b o ?_ (Ez _ (Ez _ e));rw[B5];simp only[HK,EL,wU,not_or];exact⟨IB hb,IB (sS hb)⟩
    have ez:z={s with heap:=z.heap,toks:=z.toks}:=by
     have e1:z.gens=s.gens:=m.gens;have e2:z.drawn=s.drawn:=m.drawn;have e3:z.os=s.os:=m.os
     cases z;cases e1;cases e2;cases e3;rfl
    refine Fc (show wpAny _ _ (ret Value.none) _ _ _ from Fc ⟨rfl,z.heap,z.toks,ez,S,NC,m.toks⟩)
   ·cases r with
    |error e=>exact hr
    |ok fl =>
     cases fl with
     |ret v =>
      obtain⟨rfl,h',tk,rfl,S,NC,M9⟩:=hr
      repeat (any_goals (first|assumption|wp_step))
      exact h h' tk S NC M9
     |_=>exact hr.elim
  |_=>exact hr.elim
end
theorem ad4 (prog:xq)(w:World)(its:Il):Src prog w "list" its (λh l=>h.IsList l its) (λl=>{cls:=.type "list_iterator",data:=.fields #[.ref l,.int 0 0]}) where
 type:=λh l ⟨o,e,c,_⟩=>⟨o,e,c⟩
 keep:=λh h' l ⟨o,e,r⟩ k=>⟨o,k o e,r⟩
 iter:=λA s l Q E hl h=>yf hl h
 walk:=λA I l hh JG=>⟨_,(Walks.list hh I l JG its).toS,λs hl e=>⟨⟨_,e,rfl,rfl⟩,hl⟩⟩
 ah5:=λh l=>Fg _ rfl
 s1:=F.sub_list_set
 s2:=F.sub_list_frozenset
 nd:=by decide
theorem ad5 (prog:xq)(w:World)(its:Il):Src prog w "tuple" its (λh l=>h.IsTuple l its) (λl=>{cls:=.type "tuple_iterator",data:=.fields #[.ref l,.int 0 0]}) where
 type:=λh l ⟨o,e,c,_⟩=>⟨o,e,c⟩
 keep:=λh h' l ⟨o,e,r⟩ k=>⟨o,k o e,r⟩
 iter:=λA s l Q E hl h=>BO hl h
 walk:=λA I l hh JG=>⟨_,(Walks.tuple hh I l JG its).toS,λs hl e=>⟨⟨_,e,rfl,rfl⟩,hl⟩⟩
 ah5:=λh l=>Fg _ rfl
 s1:=by rw[Ff];kernel_rfl
 s2:=by rw[Ff];kernel_rfl
 nd:=by decide
theorem fY {α:Type}{l:List α}(h:i<l.length):(l[i]::l.eraseIdx i).Perm l:=by
 rw[List.eraseIdx_eq_take_drop_succ];refine(List.perm_middle).symm.trans ?_;rw[<-yg h,List.take_append_drop]
theorem ad6 {α:Type}(f:Nat->Nat):∀(n k:Nat)(l:List α)(out:Array α),n=l.length->(pickOrder.go f n k l out).toList.Perm (out.toList++l):=by
 intro n
 induction n with
 |zero =>
  intro k l out h
  cases l with
  |nil=>unfold pickOrder.go;rw[yp]
  |cons x l=>cases h
 |succ n ih =>
  intro k l out h;unfold pickOrder.go;have hl:f k%l.length<l.length:=EH _ (by omega);rw[Ii hl];dsimp only;refine(ih (k+1) _ _ (by rw[List.length_eraseIdx_of_lt hl];omega)).trans ?_;rw[Array.toList_push,BE];exact List.Perm.append_left _ (fY hl)
theorem aeh {α:Type}(f:Nat->Nat)(xs:Array α):(pickOrder f xs).toList.Perm xs.toList:=by
 have:=ad6 f xs.size 0 xs.toList #[] (by rw[yh]);exact this
noncomputable def yt (w:World)(a:Addr)(ep:Nat)(es:Array Ent):Array Ent:=if w.params.followText "set-order" then pickOrder (w.params.setOrder a ep) es else es
theorem kR (w:World)(a:Addr)(ep:Nat)(es:Array Ent):(yt w a ep es).toList.Perm es.toList:=by
 unfold yt
 split
 ·exact aeh _ _
 ·exact yF _
noncomputable def gZ (w:World)(t:T)(i:Nat):Nat:=if w.params.followText "set-order" then 0 else if i=0 then 0 else t.place.getD (i-1) 0+1
noncomputable abbrev yu (w:World)(t:T)(a:Addr)(n ep i:Nat):Obj:={cls:=.type "set_iterator",data:=.fields #[rawInt (gZ w t i),rawInt i,.ref a,rawInt n,rawInt ep]}
theorem gO:Slot "set_iterator" "__next__" "set_iterator.__next__" :=
 .of (owner:="set_iterator") (n:="__next__") (by rw[typeLookup_type,builtinLookup_eq_fast];kernel_rfl) (by decide +kernel) (by decide +kernel) (by decide +kernel) (by first|exact .inl (by decide +kernel)|exact .inr (by decide +kernel)) (by rw[Ff];kernel_rfl)
theorem vX:entryFor table "set_iterator.__next__"=some Builtin.«set_iterator.__next__»:=entryFor_of_tree (by kernel_rfl)
theorem vI (a:Value):argsOk "set_iterator.__next__" ⟨[a],[]⟩:=by unfold argsOk;kernel_rfl
theorem wB:Slot "set_iterator" "__iter__" "set_iterator.__iter__" :=
 .of (owner:="set_iterator") (n:="__iter__") (by rw[typeLookup_type,builtinLookup_eq_fast];kernel_rfl) (by decide +kernel) (by decide +kernel) (by decide +kernel) (by first|exact .inl (by decide +kernel)|exact .inr (by decide +kernel)) (by rw[Ff];kernel_rfl)
theorem ae0:entryFor table "set_iterator.__iter__"=some Builtin.«dict_keyiterator.__iter__» :=
 entryFor_alias (id':="dict_keyiterator.__iter__") (by kernel_rfl) rfl (by decide +kernel) (by kernel_rfl)
theorem ae1 (a:Value):argsOk "set_iterator.__iter__" ⟨[a],[]⟩:=by unfold argsOk;kernel_rfl
theorem ae3:entryFor table "set.__iter__"=some Builtin.«frozenset.__iter__» :=
 entryFor_alias (id':="frozenset.__iter__") (by kernel_rfl) rfl (by decide +kernel) (by kernel_rfl)
variable {I:Addr}
section
variable {prog:xq}{w:World}{A:Around}{E:AU}{s:pL}
theorem kr {t:T}{Q:(Array Ent×Nat×T)->Shared->Prop}(ho:s.heap.get? a=some (jN es ep t))(O:Ok led n t)(hz:es.size=n)(h:Q (es,ep,t) s):
 wpAny (model prog w) A (setState a) Q E s:=wpAny_setState_of ho rfl (by rw[hz];exact O.fits) h
theorem tR {Q:Bool->Shared->Prop}(h:Q (w.params.followText "set-order") s):wpAny (model prog w) A setsByText Q E s:=by
 unfold setsByText;exact IW (zC (Fc h))
theorem uS {t:T}{Q:Option (Value×Nat)->Shared->Prop}(ho:s.heap.get? a=some (jN es ep t))(O:Ok (own w) n t)(hz:es.size=n)(hi:i<=n)
 (h:Q (((yt w a ep es)[i]?).map λe=>(e.2,gZ w t (i+1))) s):wpAny (model prog w) A (setNext a (gZ w t i) i ep) Q E s:=by
 unfold setNext;refine IW (kr ho O hz ?_);dsimp only;refine IW (tR ?_)
 by_cases ht:w.params.followText "set-order"=true
 ·rw[qk ht,IX (by simp)];unfold setWalk;refine IW (IW (kr ho O hz ?_));dsimp only;refine IW (tR ?_);rw[qk ht];refine IW (zC (Fc (Fc ?_)));simp only[yt,gZ,ht,Ij] at h |-;exact h
 ·rw[IX ht]
  have hd:(!t.plain&&decide (es.size>1))=false:=by rw[O.plain];rfl
  show wpAny _ _ (if(!t.plain&&decide (es.size>1))=true then _ else _) _ _ _;rw[hd,IX (by decide)]
  have Vj:t.led=true:=by rw[O.led];simp[own,ht]
  refine IW ?_;show wpAny _ _ (if(!t.led&&!es.isEmpty)=true then _ else _) _ _ _;rw[Vj,IX (by simp)];refine Fc ?_
  have eb:SetTable.below t.place (gZ w t i)=i:=by
   unfold gZ;rw[IX ht]
   by_cases h0:i=0
   ·rw[qk h0,h0];exact ahw O.up
   ·rw[IX h0,ahx O.up (by rw[O.size];omega)];omega
  refine Fc ?_;rw[eb]
  have eo:yt w a ep es=es:=by unfold yt;rw[IX ht]
  rw[eo] at h
  rcases yO i n with g|g
  ·have e1:es[i]?=some (es[i]'(by omega)):=by simp[show i<es.size from by omega]
   have e2:t.place[i]?=some (t.place.getD i 0):=uv (by rw[O.size];exact g);rw[e1] at h;rw[e1,e2]
   have e3:gZ w t (i+1)=t.place.getD i 0+1:=by unfold gZ;rw[IX ht,IX (by omega)];rfl
   rw[e3] at h;exact h
  ·have e1:es[i]?=none:=xR (by omega);rw[e1] at h |-;exact h
theorem ae4 {t:T}{x:Ent}{Q:Option Value->Shared->Prop}(ho:s.heap.get? a=some (jN es ep t))(hI:s.heap.get? I=some (yu w t a n ep i))(O:Ok (own w) n t)(hz:es.size=n)
 (hi:i<n)(hx:(yt w a ep es)[i]?=some x)(hQ:∀h',h'.get? I=some (yu w t a n ep (i+1))->Heap.SameBut I s.heap h'->Q (some x.2) {s with heap:=h'}):
 wpAny (model prog w) A (pyNext (.ref I)) Q E s:=by
 have tI:s.TypeIs (.ref I) "set_iterator":=⟨_,hI,rfl⟩;unfold pyNext;refine IW (mX (tE (name:=Str.ofString "__next__") tI gO (tP gO tI vX ?_ (vI _))));unfold Builtin.«set_iterator.__next__»;refine IW (m:=slotArgs "__next__" 0 _) (Fc ?_);refine IW (EJ hI rfl ?_);dsimp only[rawInt];refine IW (yV ho rfl (by rw[hz];exact O.fits) ?_);rw[IX (by rw[hz];simp)];simp only[Ho];refine IW (uS ho O hz (xx hi) ?_);rw[hx];dsimp only[Option.map];refine IW (CB hI (by simp) λh1 o1 b1=>?_);refine IW (CB (s:={s with heap:=h1}) o1 (by simp) λh2 o2 b2=>?_);refine Fc ⟨_,rfl,Fc (hQ h2 ?_ (b1.trans b2))⟩;rw[o2];rfl
theorem ae7 {t:T}{Q:Option Value->Shared->Prop}(hh:A.handled=none)(ho:s.heap.get? a=some (jN es ep t))(hI:s.heap.get? I=some (yu w t a n ep n))(O:Ok (own w) n t)(hz:es.size=n)
 (hQ:∀h',Heap.ExtBut I s.heap h'->Q none {s with heap:=h'}):wpAny (model prog w) A (pyNext (.ref I)) Q E s:=by
 have tI:s.TypeIs (.ref I) "set_iterator":=⟨_,hI,rfl⟩;have hx:(yt w a ep es)[n]?=none:=xR (by rw[<-yh,(kR w a ep es).length_eq,yh,hz];exact yH _);unfold pyNext;refine IW (mX (tE (name:=Str.ofString "__next__") tI gO (tP gO tI vX ?_ (vI _))));unfold Builtin.«set_iterator.__next__»;refine IW (m:=slotArgs "__next__" 0 _) (Fc ?_);refine IW (EJ hI rfl ?_);dsimp only[rawInt];refine IW (yV ho rfl (by rw[hz];exact O.fits) ?_);rw[IX (by rw[hz];simp)];simp only[Ho];refine IW (uS ho O hz (yH _) ?_);rw[hx];dsimp only[Option.map];refine IW (GO hI rfl (by simp) ?_);refine IW (m:=newExc (.type "StopIteration") []) ?_;unfold newExc newTuple;refine IW (Bf ?_ (by size_fits));refine IW (m:=firstArgMember _ _) (xK (a:=Value.none) rfl ?_);refine Bf ?_ (by size_fits);unfold raiseNew;refine IW (wpAny_handled ?_);rw[show A.in1.handled=none from hh];refine IW (Fc (wpAny_throw ?_));refine IW (A2 (b:=true) (T:="StopIteration") ⟨_,Fg _ rfl,rfl⟩ EW ?_);refine Fc (hQ _ ?_);exact((Bn ..).extBut.push _).push _
theorem Dj {es:Array Ent}{ep:Nat}{t:T}(hh:A.handled=none)(JG:a≠I)(O:Ok (own w) n t)(hz:es.size=n):
 WalksS prog w A I [I,a] [I] GE n (λi v=>((yt w a ep es)[i]?).map Prod.snd=some v) (λi s=>s.heap.get? a=some (jN es ep t)/\s.heap.get? I=some (yu w t a n ep i)) where
 sub:=λb hb=>by simp at hb;simp[hb]
 grefl:=λ_=>rfl
 gtrans:=λ_ _ _ h1 h2=>h2.trans h1
 frame:=λi s h' tk g _ k=>⟨k a (by simp) _ g.1,k I (by simp) _ g.2⟩
 item:=λi s Q E hi g hQ=>by
  have hl:i<(yt w a ep es).size:=by rw[<-yh,(kR w a ep es).length_eq,yh,hz];exact hi
  have hx:(yt w a ep es)[i]?=some ((yt w a ep es)[i]):=by simp[hl]
  refine ae4 g.1 g.2 O hz hi hx λh' o b=>hQ _ _ (by rw[hx];rfl) ⟨b.extBut a _ JG g.1,o⟩ ⟨λc o hc e=>b.extBut c o (λh=>hc (by simp[h])) e,rfl,rfl,rfl,yH _⟩
 done:=λs Q E g hQ=>ae7 hh g.1 g.2 O hz λh' k=>hQ _ ⟨λc o hc e=>k c o (λh=>hc (by simp[h])) e,rfl,rfl,rfl,yH _⟩
 self:=λi s Q E g hQ=>by
  have tI:s.TypeIs (.ref I) "set_iterator":=⟨_,g.2,rfl⟩;refine Fw tI wB (tP wB tI ae0 ?_ (ae1 _));exact Fc ⟨_,rfl,"set_iterator",_,tI,gO.lookup,hQ⟩
theorem ae8 {t:T}{Q:AU}(ho:s.heap.get? a=some (jN es ep t))(O:Ok (own w) n t)(hz:es.size=n)
 (h:Q (.ref s.heap.objs.size) {s with heap:=s.heap.push (yu w t a n ep 0)}):wpAny (model prog w) A (pyIter (.ref a)) Q E s:=by
 have ta:s.TypeIs (.ref a) "set":=⟨_,ho,rfl⟩
 have hf:t.fits es.size=true:=by rw[hz];exact O.fits
 refine Fw ta F.slot_set_iter (tP F.slot_set_iter ta ae3 ?_ (F.args_set_iter_1 _));unfold Builtin.«frozenset.__iter__» Builtin.Frozenset.slot0;refine IW (m:=slotArgs "__iter__" 0 _>>=_) (IW (Fc (Fc ?_)));unfold Builtin.Frozenset.sizeOf;refine IW (IW (yV ho rfl hf (Fc ?_)))
 have es0:gZ w t 0=0:=by unfold gZ;split <;> rfl
 unfold setDrawn;refine IW (IW (kr ho O hz ?_));dsimp only;refine IW (tR (Fc ?_))
 have hd:(!w.params.followText "set-order"&&(!t.plain&&decide (es.size>1)))=false:=by rw[O.plain];simp
 refine(show wpAny _ _ (if(!w.params.followText "set-order"&&(!t.plain&&decide (es.size>1)))=true then _ else _) _ _ _ from ?_);rw[hd,IX (by decide)];refine IW (Fc (IW (wpAny_setEpoch_of ho rfl hf ?_)));refine IW (Bf (Fc ⟨_,rfl,"set_iterator",_,⟨_,Fg _ rfl,rfl⟩,gO.lookup,?_⟩));rw[hz];unfold yu at h;rw[es0] at h;exact h
end
noncomputable abbrev i8 (xs:Il)(c:Nat):Obj:={cls:=.type "list",dict:=none,data:=.seq xs c,slots:=#[]}
section
variable {prog:xq}{w:World}{A:Around}{E:AU}{s:pL}
theorem afc:typeLookup (.type "set") "__len__"=pure (some (.builtin "set.__len__")):=F.slot_set_len.lookup
theorem qu {α:Type}{c:Bool}{x y:Sem α}{Q:α->Shared->Prop}(h:c=true)(g:wpAny (model prog w) A x Q E s):wpAny (model prog w) A (if c=true then x else y) Q E s:=by
 rw[qk h];exact g
theorem afd {Q:Bool->Shared->Prop}(ta:s.TypeIs (.ref a) "set")(h:Q false s):wpAny (model prog w) A (Builtin.List.listLengthHint (.ref a)) Q E s:=by
 unfold Builtin.List.listLengthHint;refine IW (wpAny_specialOf ta afc ?_);dsimp only;rw[show splitId "set.__len__"=some ("set","__len__") from by decide +kernel];dsimp only;refine IW (A2 ta sub_set_self ?_);rw[IX (by decide)];exact qu (by decide +kernel) (IW (AO ta (Fc h)))
theorem oY {P:Array Ent}(c:lj es ns)(p:P.toList.Perm es.toList){acc:Il}(hz:es.size=n)(h:ItemsOf (λi v=>(P[i]?).map Prod.snd=some v) acc n):
 ∃ms,IntsAre acc.toList ms/\ms.Perm ns:=by
 have hP:P.toList.length=n:=by rw[p.length_eq,yh,hz]
 have e:acc.toList=P.toList.map Prod.snd:=by
  refine List.ext_getElem? λi=>?_;rw[CR,Hw,Hw]
  rcases yO i n with g|g
  ·have ha:acc[i]?=some (acc[i]'(by rw[h.1];exact g)):=by simp[h.1,g]
   rw[ha,h.2 i _ ha]
  ·rw[xR (by rw[h.1];exact g),xR (by rw[<-yh,hP];exact g)];rfl
 have c':lj P ns:=c.aiP p;refine⟨_,rf (vs:=acc.toList) λv hv=>?_,?_⟩
 ·rw[e] at hv;obtain⟨x,hx,rfl⟩:=EA.mp hv;obtain⟨k,t,rfl⟩:=c'.Cu x hx;exact⟨k,t,rfl⟩
 ·rw[e,wJ];exact c'.perm
set_option maxHeartbeats 3000000 in
theorem afe {Q:List Value->Shared->Prop}(hh:A.handled=none)(S:jO (own w) s.heap a ns)(hn:ns.length<4000)
 (hQ:∀(h':Heap)(tk:Nat)(vs:HF)(ms:List Int),IntsAre vs ms->ms.Perm ns->(∀b o,s.heap.get? b=some o->h'.get? b=some o)->s.toks<=tk->Q vs {s with heap:=h',toks:=tk}):
 wpAny (model prog w) A (collect (.ref a)) Q E s:=by
 obtain⟨es,ep,t,ho,c,hz,O⟩:=S;have Jk:a<s.heap.objs.size:=Ep ho;unfold collect;refine IW (wpAny_runValue (pB PySem.F.entry_proto_collect ?_));rw[Hg PySem.F.plain_proto_collect _];refine IW (m:=newList []) (Bf ?_);refine Fc ⟨CV PySem.F.plain_list_iadd _,pB PySem.F.entry_list_iadd ?_⟩;rw[Hg PySem.F.plain_list_iadd _];refine(show wpAny _ A.in1 (Builtin.List.listExtendWith (.ref s.heap.objs.size) (.ref a) (.ref s.heap.objs.size)) _ _ _ from ?_);unfold Builtin.List.listExtendWith;have NB:(s.heap.push (i8 #[] 0)).get? a=some (jN es ep t):=Ez _ ho;refine IW (AO (T:="set") ⟨_,NB,rfl⟩ ?_)
 rw[IX (by
  have:Builtin.List.listSameRef (.ref s.heap.objs.size) (.ref a)=false:=by
   simp only[Builtin.List.listSameRef,Ex];exact tU Jk
  rw[this];decide)]
 refine IW (ae8 (s:={s with heap:=s.heap.push (i8 #[] 0)}) NB O hz ?_);have KL:((s.heap.push (i8 #[] 0)).push (yu w t a ns.length ep 0)).get? a=some (jN es ep t):=Ez _ NB;refine IW (BV (afd ⟨_,KL,rfl⟩ ?_));have hI0:((s.heap.push (i8 #[] 0)).push (yu w t a ns.length ep 0)).get? (s.heap.push (i8 #[] 0)).objs.size=some (yu w t a ns.length ep 0):=Fg _ rfl;have P2:((s.heap.push (i8 #[] 0)).push (yu w t a ns.length ep 0)).get? s.heap.objs.size=some (i8 #[] 0):=Ez _ (Fg _ rfl);have A8:(s.heap.push (i8 #[] 0)).objs.size=s.heap.objs.size+1:=B5 _ _;refine qu (by decide +kernel) (IW (qK (IW ?_)));refine(show wpAny _ A.in1 (updateSeq s.heap.objs.size (·.push .none)>>=λ_=>updateSeq s.heap.objs.size (·.pop)) _ _ _ from IW (BA P2 rfl ?_));have OJ:=Fn (Obj.mapSeq (·.push Value.none)) P2 rfl;refine BA OJ rfl ?_;have Ma:=Fn (Obj.mapSeq (·.pop)) OJ rfl
 have up:∀b o,b≠s.heap.objs.size->((s.heap.push (i8 #[] 0)).push (yu w t a ns.length ep 0)).get? b=some o →
  ((((s.heap.push (i8 #[] 0)).push (yu w t a ns.length ep 0)).update s.heap.objs.size (Obj.mapSeq (·.push Value.none))).update s.heap.objs.size (Obj.mapSeq (·.pop))).get? b=some o :=
  λb o hb e=>(ng _ _ (Bt hb)).trans ((ng _ _ (Bt hb)).trans e)
 have nI:a≠(s.heap.push (i8 #[] 0)).objs.size:=by rw[A8];exact IB (sS Jk)
 have nL:(s.heap.push (i8 #[] 0)).objs.size≠s.heap.objs.size:=by rw[A8];exact Cr _
 have W:=Dj (prog:=prog) (A:=A.in1) (ep:=ep) (es:=es) (by simp[hh]) nI O hz
 refine Fc ⟨CV PySem.F.plain_extend_loop _,codeAny_extend_loopS W (by rw[Fq];omega) s.heap.objs.size (by
  simp only[HK,EL,wU,not_or];exact⟨nL.symm,tU Jk⟩) _ ns.length 0 _ _ _ rfl (Gy _) ⟨up _ _ (IB Jk) KL,up _ _ nL hI0⟩ Ma (ItemsOf.nil _) λz acc c' m oz it=>?_⟩
 refine IW (wpAny_load oz (Fc ?_));obtain⟨ms,i1,i2⟩:=oY c (kR w a ep es) hz it
 have ez:z={s with heap:=z.heap,toks:=z.toks}:=by
  have e1:z.gens=s.gens:=m.gens;have e2:z.drawn=s.drawn:=m.drawn;have e3:z.os=s.os:=m.os
  cases z;cases e1;cases e2;cases e3;rfl
 rw[ez];refine hQ z.heap z.toks acc.toList ms i1 i2 (λb o e=>?_) m.toks;have hb:=Ep e;refine m.heap b o ?_ (up b o (IB hb) (Ez _ (Ez _ e)));simp only[HK,EL,wU,not_or];refine⟨IB hb,?_⟩;rw[A8];exact IB (sS hb)
theorem aff {D:Addr}{vs:HF}{c:Nat}(out:Il)(e:h.get? D=some (seqObj "list" vs.toArray c)):∃c',(sortedHeap h D vs out).get? D=some (i8 out c'):=by
 have hD:=Ep e;have e1:=F9 e (λ_=>#[]);unfold sortedHeap;have e2:(((h.update D (Obj.mapSeq λ_=>#[])).push (seqObj "tuple" vs.toArray 0)).push (seqObj "list" #[] 0)).get? D=_:=Ez _ (Ez _ e1);exact⟨_,F9 e2 λ_=>out⟩
theorem afi {D b:Addr}{vs:HF}{out:Il}{o:Obj}(hb:b≠D)(e:h.get? b=some o):(sortedHeap h D vs out).get? b=some o:=by
 unfold sortedHeap;refine(ng _ _ (Bt hb)).trans (Ez _ (Ez _ ((ng _ _ (Bt hb)).trans e)))
theorem afj {Q:AU}(hh:A.handled=none)(S:jO (own w) s.heap a ns)(h64:ns.length<64)
 (h:∀(h':Heap)(tk:Nat)(D:Addr)(out:Il)(ms:List Int)(c:Nat),IntsAre out.toList ms->ms.Perm ns->ms.Pairwise (· <= ·)->h'.get? D=some (i8 out c)->s.heap.get? D=none →
  (∀b o,s.heap.get? b=some o->h'.get? b=some o)->s.toks<=tk->Q (.ref D) {s with heap:=h',toks:=tk}):wpAny (model prog w) A (call (.builtin "sorted") [.ref a]) Q E s:=by
 refine Calls.call_function_entry kind_sorted plain_sorted entry_sorted (args_sorted1 _) ?_;unfold Builtin.«sorted»;refine IW (m:=checkCount "sorted" 1 1 _) (Fc ?_);refine IW (afe (by simpa using hh) S (by omega) λh1 tk vs ms i1 i2 k1 t1=>?_)
 have hv:vs.length<64:=by
  have:=i1.length;rw[this,i2.length_eq];exact h64
 refine IW (m:=newList vs) (wpAny_newList ?_ (hsz:=by rw[Fq];omega));have oD:(h1.push (seqObj "list" vs.toArray 0)).get? h1.objs.size=some (seqObj "list" vs.toArray 0):=Fg _ rfl
 have fr:s.heap.get? h1.objs.size=none:=by
  cases e:s.heap.get? h1.objs.size with
  |none=>rfl
  |some o=>exact absurd (Ep (k1 _ _ e)) (GH _)
 refine IW (BV (tP slot_list_sort ⟨_,oD,rfl⟩ entry_list_sort (list_sort_tree oD i1 hv λout Mn a1 a2 a3=>⟨_,rfl,?_⟩) (args_list_sort _)));obtain⟨c,oc⟩:=aff out oD;refine Fc ⟨_,rfl,h _ tk _ out Mn c a1 (a2.trans i2) a3 oc fr (λb o e=>?_) t1⟩;exact afi (λq=>by rw[q,fr] at e;cases e) (Ez _ (k1 b o e))
end
end St
namespace L2
open PySem PySem.Spec PyProof.Rows PySem.W
noncomputable def xZ (ns:List Int):List Int:=firstMet (λi=>ns.getD i 0) ns.length
theorem nY (ns:List Int):xZ ns=ns.foldl step_dedup []:=by
 have e:(List.range ns.length).map (λi=>ns.getD i 0)=ns:=by
  apply Em
  ·simp
  ·intro i h1 h2;simp[h2]
 unfold xZ firstMet;rw[e]
theorem gQ:∀(ns acc:List Int),acc.Nodup->(ns.foldl step_dedup acc).Nodup/\∀x,x∈ns.foldl step_dedup acc↔x∈acc\/x∈ns
 |[],acc,h=>⟨h,λx=>by simp⟩
 |n::ns,acc,h=>by
  rw[zP]
  by_cases q:n∈acc
  ·rw[St.rD q];obtain⟨a,b⟩:=gQ ns acc h;refine⟨a,λx=>(b x).trans ⟨λz=>z.imp id (rB _),λz=>?_⟩⟩
   rcases z with z|z
   ·exact .inl z
   ·rcases HK.mp z with rfl|z
    ·exact .inl q
    ·exact .inr z
  ·rw[St.jm q]
   have nd:(acc++[n]).Nodup:=by
    refine Iv.mpr ⟨h,by simp,λa ha b hb z=>?_⟩;rw[DZ] at hb;exact q (hb▸z▸ha)
   obtain⟨a,b⟩:=gQ ns (acc++[n]) nd;refine⟨a,λx=>(b x).trans ?_⟩;rw[tH,DZ,HK,or_assoc]
theorem afo (ns:List Int):(xZ ns).Nodup:=by rw[nY];exact(gQ ns [] Ef).1
theorem afr (ns:List Int)(x:Int):x∈xZ ns↔x∈ns:=by
 rw[nY,(gQ ns [] Ef).2];simp
theorem vp (ns:List Int):(xZ ns).length<=ns.length:=firstMet_length_le _ _
theorem aft {ms:List Int}(h:ms.Pairwise (· <= ·))(d:ms.Nodup):ms.Pairwise (· < ·):=
 (List.Pairwise.and h d).imp λ⟨a,b⟩=>Int.lt_iff_le_and_ne.mpr ⟨a,b⟩
theorem uO:∀{xs ys:List Int},xs.Pairwise (· < ·)->ys.Pairwise (· < ·)->(∀x,x∈xs↔x∈ys)->xs=ys
 |[],[],_,_,_=>rfl
 |[],y::ys,_,_,h=>absurd ((h y).mpr qT) (by simp)
 |x::xs,[],_,_,h=>absurd ((h x).mp qT) (by simp)
 |x::xs,y::ys,a,b,h=>by
  obtain⟨a1,a2⟩:=tN.mp a;obtain⟨b1,b2⟩:=tN.mp b
  have e:x=y:=by
   rcases HK.mp ((h x).mp qT) with e|e
   ·exact e
   ·rcases HK.mp ((h y).mpr qT) with e2|e2
    ·exact e2.symm
    ·have:=b1 _ e;have:=a1 _ e2;omega
  subst e;rw[uO a2 b2 λz=>⟨λhz=>?_,λhz=>?_⟩]
  ·rcases HK.mp ((h z).mp (rB _ hz)) with e|e
   ·have:=a1 _ hz;omega
   ·exact e
  ·rcases HK.mp ((h z).mpr (rB _ hz)) with e|e
   ·have:=b1 _ hz;omega
   ·exact e
noncomputable def ah1 (K:Frag)(ta:TE):TE:=λσ H Q=>bx ta ya σ H λvs H1=>∃(l:Addr)(ns:List Int),vs=[.ref l]/\(a8 K H1 l (ns.map V.int)\/bq K H1 l (ns.map V.int))/\ns.length<64 /\
 ∀(D:Addr)(ms:List Int),H1 D=none->ms.Pairwise (· < ·)->(∀x,x∈ms↔x∈ns)->Q (.ref D) (upd H1 D (.lst (ms.map V.int)))
section
variable {X:Cx}
theorem agA {e:Expr}{ta:TE}{p p2 pos JL:Pos}{K:Frag}(hK:X.K=K)(ha:PE X e ta)(hc:X.calm=true)(PY:Gl X "sorted")(PZ:X.mg "sorted"=none)(Vg:Gl X "set")(Mc:X.mg "set"=none)(hs:ff e=false:=by rfl):
 PE X (.Call (.Name "sorted" p) [.Call (.Name "set" p2) [e] [] JL] [] pos) (ah1 K ta):=by
 subst hK;intro pins s σ H Q I h;refine rM (c8 I PY PZ (by rfl) ?_ (by decide) (by decide));refine callWith_builtin1 ?_ (aX rfl) rfl;rw[aX rfl];show wpAny _ _ (spliced ((false,eval (.Call (.Name "set" p2) [e] [] JL) X.env):: backTo pos (starEach [] X.env))) _ _ s;refine yw ?_;refine rM (c8 I Vg Mc (by rfl) ?_ (by decide) (by decide));refine callWith_type1 (cx (ao ha ai hs JL pins s σ H _ I h) λus s1 z'=>?_) (aX hs) rfl;obtain⟨vs,H1,I1,r1,l,ns,hv,hq,hz,q⟩:=z';subst hv;obtain⟨u,rfl,ru⟩:=fG r1
 cases(show u=Value.ref l from ru)
 have hd:=I.ok.hd hc
 have fin:∀(h':Heap)(tk:Nat),St.jO (St.own X.w) h' s1.heap.objs.size (xZ ns)->(∀b o,b<s1.heap.objs.size->s1.heap.get? b=some o->h'.get? b=some o) →
  wpAny (model X.prog X.w) X.A (call (.builtin "sorted") [.ref s1.heap.objs.size]) (EP X pins σ Q) X.xe {s1 with heap:=h',toks:=tk}:=by
  intro h' tk S old;have I2:Inv X pins σ H1 {s1 with heap:=h',toks:=tk}:=I1.kept (t':=tk) λb o e=>old b o (Ep e) e;refine St.afj (s:={s1 with heap:=h',toks:=tk}) hd S (by have:=vp ns;omega) λh2 tk2 D out ms c i1 i2 i3 oD fr k2 _=>?_
  have hlen:(ms.map V.int).length<=sizeLine:=by
   rw[EZ,i2.length_eq,Fq];have:=vp ns;omega
  exact⟨.ref D,_,I2.newObj (t':=tk2) (o:=.lst (ms.map V.int)) k2 fr ⟨hlen,out.toList,c,tZ i1,by simpa using oD⟩,rfl,
   q D ms (I2.ahz fr) (aft i3 (i2.symm.nodup (afo ns))) λx=>(i2.mem_iff).trans (afr ns x)⟩
 rcases hq with hq|hq
 ·obtain⟨its,rv,pl,YA⟩:=I1.list hq;have e1:=rv.length;rw[EZ] at e1;refine St.qf (St.ad4 X.prog X.w its.toArray) hd pl.isList (by simpa using fP rv) (by rw[Jc];omega) λh' tk S old _=>?_
  have es:its.toArray.size=ns.length:=by rw[Jc];exact e1.symm
  rw[es] at S;exact wN (fin h' tk S old)
 ·obtain⟨its,rv,pl,YA⟩:=I1.tuple hq;have e1:=rv.length;rw[EZ] at e1;refine St.qf (St.ad5 X.prog X.w its.toArray) hd pl (by simpa using fP rv) (by rw[Jc];omega) λh' tk S old _=>?_
  have es:its.toArray.size=ns.length:=by rw[Jc];exact e1.symm
  rw[es] at S;exact wN (fin h' tk S old)
end
end L2
namespace K09
open PySem L2 PySem.W Nm Srt
noncomputable def oW (x:Int):List Int->List Int
 |[]=>[x]
 |y::l=>if x<y then x::y::l else if x=y then y::l else y::oW x l
noncomputable def mE:List Int->List Int
 |[]=>[]
 |x::l=>oW x (mE l)
theorem lN {x z:Int}:∀{l:List Int},z∈oW x l↔z=x\/z∈l
 |[]=>by simp[oW]
 |y::l=>by
  unfold oW
  by_cases h:x<y
  ·rw[qk h];simp
  ·rw[IX h]
   by_cases g:x=y
   ·rw[qk g,g];simp
   ·rw[IX g,HK,lN (l:=l),HK];constructor
    ·rintro(h|h|h)
     ·exact .inr (.inl h)
     ·exact .inl h
     ·exact .inr (.inr h)
    ·rintro(h|h|h)
     ·exact .inr (.inl h)
     ·exact .inl h
     ·exact .inr (.inr h)
theorem vP {x:Int}:∀{l:List Int},l.Pairwise (· < ·)->(oW x l).Pairwise (· < ·)
 |[],_=>by simp[oW]
 |y::l,h=>by
  obtain⟨h1,h2⟩:=tN.mp h;unfold oW
  by_cases g:x<y
  ·rw[qk g];refine tN.mpr ⟨λz hz=>?_,h⟩
   rcases HK.mp hz with rfl|hz
   ·exact g
   ·have:=h1 z hz;omega
  ·rw[IX g]
   by_cases e:x=y
   ·rw[qk e];exact h
   ·rw[IX e];refine tN.mpr ⟨λz hz=>?_,vP h2⟩
    rcases lN.mp hz with rfl|hz
    ·omega
    ·exact h1 z hz
theorem tT:∀l:List Int,(mE l).Pairwise (· < ·)
 |[]=>List.Pairwise.nil
 |x::l=>vP (tT l)
theorem gP {z:Int}:∀{l:List Int},z∈mE l↔z∈l
 |[]=>Iff.rfl
 |x::l=>by
  show z∈oW x (mE l)↔_;rw[lN,gP,HK]
theorem uh {l m:List Int}(h:m.Pairwise (· < ·))(e:∀z,z∈m↔z∈l):m=mE l:=uO h (tT l) λz=>by rw[gP,e]
noncomputable def cH (p:Int)(a b:Int×Int):Int×Int:=(c9 p (hZ a.1 a.2 b.1 b.2) (a.2*b.2),dw p (hZ a.1 a.2 b.1 b.2) (a.2*b.2))
noncomputable def dh (p:Int)(a b:List Tm):List Tm:=a.flatMap λx=>b.map λy=>(mE (x.1++y.1),cH p x.2 y.2)
noncomputable def fh (p:Int)(c:Int×Int)(a:List Tm):List Tm:=a.map λx=>(x.1,cH p x.2 c)
noncomputable abbrev tg (p:Int)(ts:List Tm):List Tm:=iq (bZ p ts)
variable {a b:Int×Int}
section
variable {p:Int}{R:Type} [Lean.Grind.CommRing R]{v:Int×Int->R}
theorem eM (hp:0<=p)(ha:Num p a.1 a.2)(hb:Num p b.1 b.2):Num p (cH p a b).1 (cH p a b).2 :=
 Num.set hp (CD (by have:=ha.pos;omega) (by have:=hb.pos;omega))
theorem eE (V:Val p R v)(ha:Num p a.1 a.2)(hb:Num p b.1 b.2):v (cH p a b)=v a*v b:=(V.set ha hb).2 rfl rfl
theorem gC (hp:0<=p){a b:List Tm}(ha:aW p a)(hb:aW p b):aW p (dh p a b):=λe he=>by
 obtain⟨x,hx,he⟩:=HP.mp he;obtain⟨y,hy,rfl⟩:=EA.mp he;exact eM hp (ha x hx) (hb y hy)
theorem kE (hp:0<=p){a:List Tm}{c:Int×Int}(ha:aW p a)(hc:Num p c.1 c.2):aW p (fh p c a):=λe he=>by
 obtain⟨x,hx,rfl⟩:=EA.mp he;exact eM hp (ha x hx) hc
theorem wy {a b:List Tm}(ha:aW p a)(hb:aW p b):aW p (a++b):=λe he=>by
 rcases tH.mp he with h|h
 ·exact ha e h
 ·exact hb e h
theorem Dr (V:Val p R v){x:Tm}(hx:Num p x.2.1 x.2.2)(F:List Int->R):∀{b:List Tm},aW p b->S v (b.map λy=>(mE (x.1++y.1),cH p x.2 y.2)) F=v x.2*S v b (λj=>F (mE (x.1++j)))
 |[],_=>by show(0:R)=v x.2*0;grind
 |y::b,h=>by
  have ih:=Dr V hx F (b:=b) λe he=>h e (rB _ he);show v (cH p x.2 y.2)*F (mE (x.1++y.1))+S v (b.map _) F=v x.2*(v y.2*F (mE (x.1++y.1))+S v b (λj=>F (mE (x.1++j))));rw[ih,eE V hx (h y qT)];grind
theorem zK (V:Val p R v){a b:List Tm}(ha:aW p a)(hb:aW p b)(F:List Int->R):S v (dh p a b) F=S v a (λi=>S v b (λj=>F (mE (i++j)))):=by
 induction a with
 |nil=>rfl
 |cons x a ih =>
  have ih:=ih λe he=>ha e (rB _ he)
  have e:dh p (x::a) b=(b.map λy=>(mE (x.1++y.1),cH p x.2 y.2))++dh p a b:=by simp[dh]
  rw[e,gH,Dr V (ha x qT) F hb,ih];rfl
theorem zM (V:Val p R v){a:List Tm}{c:Int×Int}(ha:aW p a)(hc:Num p c.1 c.2)(F:List Int->R):S v (fh p c a) F=v c*S v a F:=by
 induction a with
 |nil=>show(0:R)=v c*0;grind
 |cons x a ih =>
  have ih:=ih λe he=>ha e (rB _ he);show v (cH p x.2 c)*F x.1+S v (fh p c a) F=v c*(v x.2*F x.1+S v a F);rw[ih,eE V (ha x qT) hc];grind
theorem jY {F G:List Int->R}(h:∀i,F i=G i)(a:List Tm):S v a F=S v a G:=by
 have:F=G:=funext h;rw[this]
end
section
variable {p:Int}{a b c:List Tm}
theorem FP.v {p:Int}(hp:FP p):∃(R:Type)(i:Lean.Grind.CommRing R)(v:Int×Int->R),@Val p R i v:=adL (by
 rcases hp with h|h
 ·exact .inl h
 ·exact .inr (dC h).1)
theorem FP.tn {p:Int}(hp:FP p){a:List Tm}(ha:aW p a):aW p (tg p a):=by
 obtain⟨R,i,v,V⟩:=hp.v;exact aee V hp.nn ha
end
noncomputable abbrev ix (ks:List Int):List Key:=ks.map Sum.inl
theorem gL (ks:List Int):(ix ks).map kV=ks.map V.int:=by unfold ix;rw[wJ];rfl
theorem iC {a b:List Int}(h:ix a=ix b):a=b:=by
 have e:(ix a).map kV=(ix b).map kV:=by rw[h]
 rw[gL,gL] at e
 have inj:∀{x y:List Int},x.map V.int=y.map V.int->x=y:=by
  intro x
  induction x with
  |nil=>intro y h;cases y with
   |nil=>rfl
   |cons c y=>simp at h
  |cons b x ih=>intro y h;cases y with
   |nil=>simp at h
   |cons c y =>
    rw[IZ,IZ] at h
    injection h with h1 h2
    injection h1 with h1
    rw[h1,ih h2]
 exact inj e
noncomputable def F4 (H:Hp)(y:V)(t:Tm):Prop:=∃a pr nu,y=.ref a/\H a=some (.tup [.ref pr,.ref nu])/\H pr=some (.tup (t.1.map V.int))/\H nu=some (bY t.2.1 t.2.2)
noncomputable abbrev bA (H:Hp):List V->List Tm->Prop:=Paired (F4 H)
noncomputable abbrev DR (H:Hp):List (List Key×V)->List Tm->Prop:=Paired λkv e=>kv.1=ix e.1/\∃a,kv.2=.ref a/\H a=some (bY e.2.1 e.2.2)
noncomputable def aJ (H H':Hp):Prop:=∀b xs,H b=some (.tup xs)->H' b=some (.tup xs)
variable {H H':Hp}
theorem aJ.of (s:aE H H'):aJ H H':=λb xs e=>s b _ e
theorem aJ.trans {H1 H2:Hp}(a:aJ H H1)(b:aJ H1 H2):aJ H H2:=λc xs e=>b c xs (a c xs e)
theorem aJ.upd {d:Addr}{o:HO}(h:∀xs,H d≠some (.tup xs)):aJ H (upd H d o):=λb xs e=>by
 have:b≠d:=λz=>h xs (z▸e);rw[aA this];exact e
theorem F4.keep {y:V}{t:Tm}(h:F4 H y t)(k:aJ H H'):F4 H' y t:=let⟨a,pr,nu,e,h1,h2,h3⟩:=h;⟨a,pr,nu,e,k _ _ h1,k _ _ h2,k _ _ h3⟩
variable {ts:List Tm}
theorem bA.keep {ys:List V}(h:bA H ys ts)(k:aJ H H'):bA H' ys ts:=Paired.agE h λ_ _ z=>z.keep k
variable {Jf:List (List Key×V)}{d:List Tm}
theorem DR.keep (h:DR H Jf d)(k:aJ H H'):DR H' Jf d:=Paired.agE h λ_ _ z=>⟨z.1,let⟨a,e,h⟩:=z.2;⟨a,e,k _ _ h⟩⟩
theorem zJ (k:List Int):∀{Jf:List (List Key×V)}{d:List Tm},DR H Jf d->d.any (λe=>decide (e.1=k))=false->dQ Jf (ix k)=none
 |_,_,.nil,_=>rfl
 |_,_,.cons (a:=kv) (b:=e) h t,q=>by
  rw[HZ,Bool.or_eq_false_iff] at q
  have ne:¬kv.1=ix k:=λz=>by
   have:e.1=k:=iC (h.1.symm.trans z);simp[this] at q
  rw[cD ne];exact zJ k t q.2
theorem uC (k:List Int):∀{Jf:List (List Key×V)}{d:List Tm},DR H Jf d->d.any (λe=>decide (e.1=k))=true->∃e∈d,e.1=k/\∃a,dQ Jf (ix k)=some (.ref a)/\H a=some (bY e.2.1 e.2.2)
 |_,_,.nil,q=>by simp at q
 |_,_,.cons (a:=kv) (b:=e) h t,q=>by
  by_cases z:e.1=k
  ·obtain⟨a,e1,ha⟩:=h.2;refine⟨e,qT,z,a,?_,ha⟩;rw[cG (by rw[h.1,z]),e1]
  ·have ne:¬kv.1=ix k:=λw=>z (iC (h.1.symm.trans w));rw[HZ,IA z,Bool.false_or] at q;obtain⟨e',m,z',a,h1,h2⟩:=uC k t q;exact⟨e',rB _ m,z',a,by rw[cD ne];exact h1,h2⟩
theorem ahj (k:List Int)(h:DR H Jf d):(Jf.any λkv=>decide (kv.1=ix k))=d.any λe=>decide (e.1=k):=by
 rw[gK]
 cases q:d.any λe=>decide (e.1=k) with
 |false=>rw[zJ k h q];rfl
 |true =>
  obtain⟨_,_,_,a,e,_⟩:=uC k h q;rw[e];rfl
variable {p:Int}
theorem agB {t:Tm}{a:Addr}(h:DR H Jf d)(nd:(d.map (·.1)).Nodup)
 (Pj:d.any (λe=>decide (e.1=t.1))=false->H a=some (bY t.2.1 t.2.2))(Ln:∀e∈d,e.1=t.1->H a=some (bY (dn p e.2 t.2).1 (dn p e.2 t.2).2)):DR H (fR Jf (ix t.1) (.ref a)) (dj p d t):=by
 unfold fR dj;rw[ahj t.1 h]
 by_cases q:d.any (λe=>decide (e.1=t.1))=true
 ·rw[qk q,qk q]
  have go:∀{Jf:List (List Key×V)}{d:List Tm},DR H Jf d->(∀e∈d,e.1=t.1->H a=some (bY (dn p e.2 t.2).1 (dn p e.2 t.2).2)) →
   DR H (Jf.map λkv=>if kv.1=ix t.1 then(kv.1,V.ref a) else kv) (d.map λe=>if e.1=t.1 then(e.1,dn p e.2 t.2) else e):=by
   intro Jf d h
   induction h with
   |nil=>intro _;exact .nil
   |@cons kv e ks es h0 ht ih =>
    intro hy;rw[IZ,IZ];refine .cons ?_ (ih λe' m=>hy e' (rB _ m))
    by_cases z:e.1=t.1
    ·rw[qk z,qk (by rw[h0.1,z])];exact⟨h0.1,a,rfl,hy e qT z⟩
    ·rw[IX z,IX (λw=>z (iC (h0.1.symm.trans w)))];exact h0
  exact go h Ln
 ·have q':d.any (λe=>decide (e.1=t.1))=false:=Bool.eq_false_iff.mpr q;rw[IX q,IX q];exact zF h ⟨rfl,a,rfl,Pj q'⟩
noncomputable abbrev y3:Stmt:=(ba 28)
structure xh (p:Int)(ts:List Tm):Prop where
 len:ts.length<4000
 num:∀t∈ts,Gn p 4000 t.2
 steps:∀i,i<=ts.length->rp p 4000 (bZ p (ts.take i))
 few:(bZ p ts).length<64
noncomputable def pW (C:Addr):Sp:=λvs H Q _=>∃(s dx l:Addr)(p:Int)(ys:List V)(ts:List Tm),vs=[.ref s,.ref l]/\H s=some (.ins C dx (dS p))/\FP p/\H l=some (.lst ys)/\bA H ys ts/\xh p ts /\
 ∀H' D zs,aE H H'->H D=none->H' D=some (.lst zs)->bA H' zs (iq (bZ p ts))->Q (.ref D) H'
theorem none_of {a:Addr}(s:aE H H')(h:H' a=none):H a=none:=by
 cases e:H a with
 |none=>rfl
 |some o=>rw[s _ _ e] at h;cases h
theorem jc:Eb ["field","terms","totals","product","number","kept"] qV (au y3):=dX (by decide +kernel)
theorem oC {α β:Type}{R:α->β->Prop}{k:Ky}{x:α}{y:β}(h:R x y):∀{l:List (Ky×α)}{m:List (Ky×β)},Paired (λa b=>a.1=b.1/\R a.2 b.2) l m->Paired (λa b=>a.1=b.1/\R a.2 b.2) (mH k x l) (mH k y m)
 |_,_,.nil=>.cons ⟨rfl,h⟩ .nil
 |_,_,.cons (a:=(j,u)) (b:=(j',v)) (l₁:=r) (l₂:=r') h0 t=>by
  obtain⟨e,h1⟩:=h0;have e:j=j':=e;subst e;show Paired _ (if mD k j=true then(k,x):: (j,u):: r else(j,u):: mH k x r) (if mD k j=true then(k,y):: (j,v):: r' else(j,v):: mH k y r')
  by_cases z:mD k j=true
  ·rw[qk z,qk z];exact .cons ⟨rfl,h⟩ (.cons ⟨rfl,h1⟩ t)
  ·rw[IX z,IX z];exact .cons ⟨rfl,h1⟩ (oC h t)
theorem lq {α β:Type}{R:α->β->Prop}:∀{l:List (Ky×α)}{m:List (Ky×β)},Paired (λa b=>a.1=b.1/\R a.2 b.2) l m->Paired (λa b=>a.1=b.1/\R a.2 b.2) (eN l) (eN m)
 |_,_,.nil=>.nil
 |_,_,.cons (a:=(j,u)) (b:=(j',v)) (l₁:=r) (l₂:=r') h0 t=>by
  obtain⟨e,h1⟩:=h0;have e:j=j':=e;subst e;exact oC h1 (lq t)
theorem qQ {α β:Type}{R:α->β->Prop}:∀{l:List (Ky×α)}{m:List (Ky×β)},Paired (λa b=>a.1=b.1/\R a.2 b.2) l m->Paired R (l.map (·.2)) (m.map (·.2))
 |_,_,.nil=>.nil
 |_,_,.cons h t=>.cons h.2 (qQ t)
theorem rL {R:V->Tm->Prop}:∀{xs:List V}{es:List Tm},Paired R xs es->Paired (λa b=>a.1=b.1/\R a.2 b.2) ((es.map gs).zip xs) (es.map λe=>(gs e,e))
 |_,_,.nil=>.nil
 |_,_,.cons h t=>.cons ⟨rfl,h⟩ (rL t)
theorem oI:∀{xs:List V}{es:List Tm}{H:Hp}{R:List V->Hp->Prop},bA H xs es →
 (∀ks H2,aE H H2->Paired (λx e=>∃a b,x=.ref a/\H2 a=some (.tup [.int e.1.length,.ref b])/\H2 b=some (.tup (e.1.map V.int))) ks es->R ks H2)->nJ sW xs H R
 |_,_,H,R,.nil,h=>h [] H (aE.refl _) .nil
 |_,_,H,R,.cons (b:=e) h0 t,h=>by
  obtain⟨a,pr,nu,rfl,ha,Jt,JB⟩:=h0;refine⟨a,pr,.ref nu,_,rfl,ha,Jt,λtt htt=>?_⟩;rw[EZ];have sU:aE H (upd H tt (.tup [.int e.1.length,.ref pr])):=av htt;refine oI (bA.keep t (aJ.of sU)) λks H2 s2 hk=>h _ H2 (λb u z=>s2 _ _ (sU _ _ z)) (.cons ⟨tt,pr,rfl,s2 _ _ aj,s2 _ _ (sU _ _ Jt)⟩ hk)
theorem qw {K:Frag}:∀{ks:List V}{es:List Tm},Paired (λx e=>∃a b,x=.ref a/\H a=some (.tup [.int e.1.length,.ref b])/\H b=some (.tup (e.1.map V.int))) ks es->dY K H ks (es.map gs)
 |_,_,.nil=>True.intro
 |_,_,.cons h t=>by
  obtain⟨a,b,rfl,h1,h2⟩:=h;exact⟨⟨a,b,[],rfl,bq.of h1,bq.of h2⟩,qw t⟩
theorem agP (h:(d.map (·.1)).Nodup)(f:Tm->Bool):((d.filter f).map gs).Nodup:=by
 have h1:((d.filter f).map (·.1)).Nodup:=h.sublist (List.filter_sublist.map _)
 have e:(d.filter f).map gs=((d.filter f).map (·.1)).map λk=>((k.length:Int),k):=by rw[wJ];rfl
 rw[e];unfold List.Nodup at h1 |-;rw[yP];exact h1.imp λh z=>h (EO z).2
theorem agj (h:(d.map (·.1)).Nodup):∀{e e':Tm},e∈d->e'∈d->e.1=e'.1->e=e':=by
 induction d with
 |nil=>intro e e' h1;exact nomatch h1
 |cons a d ih =>
  rw[IZ,DO] at h;intro e e' h1 h2 z
  rcases HK.mp h1 with h3|h3
  ·rcases HK.mp h2 with h4|h4
   ·rw[h3,h4]
   ·exact absurd (by rw[<-h3,z];exact FD (f:=(·.1)) h4) h.1
  ·rcases HK.mp h2 with h4|h4
   ·exact absurd (by rw[<-h4,<-z];exact FD (f:=(·.1)) h3) h.1
   ·exact ih h.2 h3 h4 z
variable {P:xq}{w:World}{K:PySem.W.Frag}{mg:Cw}{base:Heap}
theorem ah4 {f fo C:Addr}{fd TQ:GS}(F:FY K "gathered" "gathered" y3 f fd)(c:Fv K mg C)(Jn:mg "sorted"=none)
 (q0:Cm P w K mg base 4 AY C "plus" (oo C jE))
 (FPo:xk P w K mg base (cI P w) 1 fo TQ ["term"] sW)(bPo:L2.b8 K TQ ["term"] [])(mPo:mg "place_of_term"=some (.ref fo)):xk P w K mg base (cI P w) 5 f fd qV (pW C):=by
 obtain⟨fp,OK,P4,P6,P7⟩:=q0;refine F.okN jc (λvs H Q E h=>?_) (λJi A outer s H vs Q E hr h=>?_)
 ·obtain⟨s,dx,l,p,ys,ts,rfl,_⟩:=h;rfl
 ·obtain⟨s0,dx,l,p,ys,ts,rfl,hs,hp,hl,Ko,G,q⟩:=h;have h64:=G.len;have hG:=G.num;have KD:A1 4 _:=hr.mono (by decide);have hrS:A1 3 _:=hr.mono (by decide);have hu:=(hr.units:_+64<cLine)
  replace hu:=Hv (BF (by decide:1<=64) _) hu
  refine⟨_,(ar (@aY _ _ 2 _ _ _ _ jc.nd rfl (Or.inl rfl) abx rfl (Or.inl rfl))
   (ar (eG E5 rfl (b9 (pv 1)) (dJ rfl (aO (aF (i:=3) jc.nd rfl (Or.inl rfl)) (aO (aF (i:=4) jc.nd rfl (Or.inl rfl)) cJ)))
   (ar (bo (zh (abc hu (pv 3) (pv 2))) (az (@aY _ _ 4 _ _ _ _ jc.nd rfl (Or.inl rfl) (aR (pv 0) c.cl P7 P4 KD P6 .nil ae (ao (pQ hu (pv 2) (pv 3) (λ_ _=>rfl)) (ao (pv 4) ai rfl) rfl)) rfl (Or.inl rfl))) aI)
   (az (we hu (pv 2) (pv 3) (pv 4) (by rfl)))))
   (ar (jV (i:=5) (g:=jM K 2 (cV (bK 0) (cV (bK 1) Iu))) (N:=["product","number"]) (nl:=2) (js:=[]) (osc:=au y3) ⟨rfl,rfl,by decide +kernel,by decide +kernel,by decide +kernel,rfl,.nil,by decide +kernel⟩ rfl jc.nd rfl (Or.inl rfl)
    (abK (pv 2))
    (λC fp s H=>(dJ (X:=cS _ ["product","number"] _ C fp s H) rfl (aO (aF (X:=cS _ ["product","number"] _ C fp s H) (i:=0) (by show(["product","number"]:F3).Nodup;decide +kernel) rfl (Or.inl rfl) (Or.inr rfl)) (aO (aF (X:=cS _ ["product","number"] _ C fp s H) (i:=1) (by show(["product","number"]:F3).Nodup;decide +kernel) rfl (Or.inl rfl) (Or.inr rfl)) cJ))))
    (λC fp s H=>(gR (aS nN (bf (show Ds _ (zO K) from bH) (pv 1) aq (λ_ _=>rfl)) aq (aM _))))
    (λC fp s H=>(bF (ao (pv 0) (ao (pv 1) ai rfl) rfl))) (by rfl))
   (az (aG (adl FPo hrS bPo (by rfl) Jn (by rfl) mPo (pv 5))))))),?_⟩
  have hlen:=Ko.length
  have gg:∀i,i<=ts.length->rp p 4000 (bZ p (ts.take i))/\((bZ p (ts.take i)).map (·.1)).Nodup/\(bZ p (ts.take i)).length<=i:=λi hi=>by
   obtain⟨_,g2,g3⟩:=jn (m:=4000) hp i (ts.take i) (by simp;omega) λt ht=>hG t (tj ht);exact⟨G.steps i hi,g2,g3⟩
  refine λdd KN=>?_;have s1:aE H (upd H dd (.dT [])):=av KN;refine⟨_,rfl,l,rfl,⟨ys,a8.of (s1 _ _ hl)⟩,?_⟩
  refine⟨λi m σ' H'=>m=ts.length-i/\i<=ts.length/\aE H H'/\(∃Jf,H' dd=some (.dT Jf)/\DR H' Jf (bZ p (ts.take i)))/\∃o3 o4,σ'=[some (.ref s0),some (.ref l),some (.ref dd),o3,o4,none],
   ⟨ts.length,by simp,Gy _,s1,⟨[],aj,.nil⟩,none,none,rfl⟩,?_⟩
  rintro i m' σ' H' ⟨rfl,hi,sH,⟨Jf,hd,dr⟩,o3,o4,rfl⟩;have KG:=sH _ _ hl;have Mw:=sH _ _ hs;obtain⟨gd,TR,gl⟩:=gg i hi
  by_cases Jk:i<ts.length
  ·have hly:i<ys.length:=by omega
   refine .inr ⟨⟨ys,ys[i],a8.of KG,by simp[hly]⟩,λσ' H'=>i+1<=ts.length/\aE H H'/\(∃Jf,H' dd=some (.dT Jf)/\DR H' Jf (bZ p (ts.take (i+1))))/\∃o3 o4,σ'=[some (.ref s0),some (.ref l),some (.ref dd),o3,o4,none],?_,λy H2 hy=>?_⟩
   ·rintro σ' H' ⟨h1,h2,h3,h4⟩;exact⟨ts.length-(i+1),by omega,rfl,h1,h2,h3,h4⟩
   ·obtain⟨rfl,hy⟩:=hy;obtain⟨t,et,tr⟩:=aV Ko (hy ys (a8.of KG));obtain⟨a,pr,nu,rfl,ha,Jt,JB⟩:=tr.keep (aJ.of sH);have gt:=hG t (Gq et)
    have JM:ts.take (i+1)=ts.take i++[t]:=by rw[sf,et];rfl
    have Md:∀H3:Hp,aJ H2 H3->H3 pr=some (.tup ((ix t.1).map kV)):=λH3 k=>by rw[gL];exact k _ _ Jt
    have fin:∀(H3:Hp)(an:Addr),aE H H3->aJ H2 H3->H3 dd=some (.dT Jf)->((bZ p (ts.take i)).any (λe=>decide (e.1=t.1))=false->H3 an=some (bY t.2.1 t.2.2)) →
     (∀e∈bZ p (ts.take i),e.1=t.1->H3 an=some (bY (dn p e.2 t.2).1 (dn p e.2 t.2).2)) →
     aE H (upd H3 dd (.dT (fR Jf (ix t.1) (.ref an))))/\∃Js,(upd H3 dd (.dT (fR Jf (ix t.1) (.ref an)))) dd=some (.dT Js)/\DR (upd H3 dd (.dT (fR Jf (ix t.1) (.ref an)))) Js (bZ p (ts.take (i+1))):=by
     intro H3 an s3 k3 h3 Pj Ln;refine⟨λb u e=>by rw[aA (aB e KN)];exact s3 b u e,_,aj,?_⟩;rw[JM,ny];exact(agB (dr.keep k3) TR Pj Ln).keep (aJ.upd λxs z=>by rw[h3] at z;cases z)
    have P8:Jf.length<sizeLine:=by
     rw[dr.length];exact Hv gl (Bb (Hv hi h64) (by decide))
    refine⟨a,_,rfl,bq.of ha,rfl,_,_,rfl,_,_,rfl,rfl,?_⟩;refine⟨_,rfl,_,rfl,dd,_,rfl,i9.t hd (Md _ λ_ _ e=>e),_,rfl,?_⟩
    cases hq:(bZ p (ts.take i)).any (λe=>decide (e.1=t.1)) with
    |false =>
     rw[zJ t.1 dr hq];refine cu ?_;refine⟨_,rfl,_,rfl,_,rfl,dd,_,rfl,tX.t hd (Md _ λ_ _ e=>e) P8,?_⟩
     obtain⟨f1,f2⟩:=fin H2 nu sH (λ_ _ e=>e) hd (λ_=>JB) λe he z=>by
      have:(bZ p (ts.take i)).any (λe=>decide (e.1=t.1))=true:=Ae.mpr ⟨e,he,by simpa using z⟩;rw[hq] at this;cases this
     exact⟨Jk,f1,f2,_,_,rfl⟩
    |true =>
     obtain⟨e,he,ek,a0,hv,Vk⟩:=uC t.1 dr hq;rw[hv];refine cA ?_;have ge:=gd e he
     refine⟨_,rfl,s0,dx,_,rfl,Mw,rfl,_,rfl,_,rfl,dd,_,rfl,(by rw[<-hv];exact i9.t hd (Md _ λ_ _ e=>e)),_,rfl,s0,dx,a0,nu,p,e.2.1,e.2.2,t.2.1,t.2.2,rfl,Mw,hp,Vk,JB,
      ge.2.1,ge.2.2,gt.2.1,gt.2.2,ge.ne,gt.ne,λa1 JK=>?_⟩
     have sU:aE H2 (upd H2 a1 (bY (dn p e.2 t.2).1 (dn p e.2 t.2).2)):=av JK;refine⟨_,rfl,_,rfl,_,rfl,dd,_,rfl,tX.t (sU _ _ hd) (Md _ (aJ.of sU)) P8,?_⟩
     obtain⟨f1,f2⟩:=fin _ a1 (λb u z=>sU _ _ (sH _ _ z)) (aJ.of sU) (sU _ _ hd) (λz=>by rw[hq] at z;cases z) λe' NA z=>by
      have:e'=e:=agj TR NA he (z.trans ek.symm);subst this;exact aj
     exact⟨Jk,f1,f2,_,_,rfl⟩
  ·have ei:i=ts.length:=by omega
   subst ei;refine .inl ⟨⟨ys,a8.of KG,by omega⟩,?_⟩;rw[yi] at dr gd TR gl;refine⟨_,rfl,dd,Jf,rfl,.inr ⟨hd,λo=>?_⟩⟩
   have sF:aE H (upd H' dd (xw o Jf)):=λb u e=>by rw[aA (aB e KN)];exact sH b u e
   have drF:DR (upd H' dd (xw o Jf)) Jf (bZ p ts):=dr.keep (aJ.upd λxs z=>by rw[hd] at z;cases z);have kl:Jf.length=(bZ p ts).length:=dr.length
   refine⟨λi m xs σ' H2=>m=(bZ p ts).length-i/\i<=(bZ p ts).length/\aE H H2/\H2 dd=some (xw o Jf)/\DR H2 Jf (bZ p ts)/\bA H2 xs (((bZ p ts).take i).filter λe=>e.2.1 != 0)/\∃o1 o2,σ'=[o1,o2],
    ⟨(bZ p ts).length,by simp,Gy _,sF,aj,drF,.nil,none,none,rfl⟩,?_⟩
   rintro i m' xs σ' H2 ⟨rfl,hi2,s2,hd2,Vl,Mr,o1,o2,rfl⟩
   have xl:xs.length<=(bZ p ts).length:=by
    rw[Mr.length];exact Ig (A4 _ _) (by simp;omega)
   refine⟨Hv (Ig xl gl) (Bb h64 (by decide)),?_⟩
   by_cases P9:i<(bZ p ts).length
   ·refine .inr ⟨⟨by omega,hd2⟩,λx H3 hx=>?_⟩;obtain⟨pp,b,k,v,hk,PH,hb,rfl,rfl⟩:=hx;obtain⟨e,ee,ek,a,ev,ha⟩:=aV Vl hk;have ek:k=ix e.1:=ek;have ev:v=.ref a:=ev;subst ek;subst ev;have sP:aE H2 (upd H2 pp (.tup [.ref b,.ref a])):=av PH
    have JM:(bZ p ts).take (i+1)=(bZ p ts).take i++[e]:=by rw[sf,ee];rfl
    rw[gL] at hb;refine⟨pp,_,rfl,bq.of aj,rfl,_,_,rfl,_,_,rfl,rfl,?_⟩;refine⟨_,rfl,a,_,0,_,rfl,rfl,bq.of (sP _ _ ha),rfl,rfl,_,rfl,?_⟩;have dP:upd H2 pp (.tup [.ref b,.ref a]) dd=some (xw o Jf):=sP _ _ hd2
    cases hz:(e.2.1 != 0) with
    |true =>
     have z:(!decide (V.int e.2.1=V.int 0))=true:=by
      have:e.2.1≠0:=by simpa using hz
      simp[this]
     rw[z];refine cA ⟨_,rfl,_,rfl,jJ,λt' TU=>?_⟩;have sT:aE (upd H2 pp (.tup [.ref b,.ref a])) (upd (upd H2 pp (.tup [.ref b,.ref a])) t' (.tup [.ref b,.ref a])):=av TU;have sA:aE H2 (upd (upd H2 pp (.tup [.ref b,.ref a])) t' (.tup [.ref b,.ref a])):=λc u e=>sT _ _ (sP _ _ e);refine⟨(bZ p ts).length-(i+1),by omega,rfl,P9,λc u e=>sA _ _ (s2 _ _ e),sA _ _ hd2,Vl.keep (aJ.of sA),?_,_,_,rfl⟩;rw[JM,FX]
     have ef:[e].filter (λe=>e.2.1 != 0)=[e]:=by simp[hz]
     rw[ef];exact zF (bA.keep Mr (aJ.of sA)) ⟨t',b,a,rfl,aj,sA _ _ hb,sA _ _ ha⟩
    |false =>
     have z:(!decide (V.int e.2.1=V.int 0))=false:=by
      have:e.2.1=0:=by simpa using hz
      simp[this]
     rw[z];refine cu ⟨(bZ p ts).length-(i+1),by omega,rfl,P9,λc u e=>sP _ _ (s2 _ _ e),sP _ _ hd2,Vl.keep (aJ.of sP),?_,_,_,rfl⟩;rw[JM,FX]
     have ef:[e].filter (λe=>e.2.1 != 0)=[]:=by simp[hz]
     rw[ef,yp];exact bA.keep Mr (aJ.of sP)
   ·have ei2:i=(bZ p ts).length:=by omega
    subst ei2;refine .inl ⟨⟨by omega,hd2⟩,λD hD=>?_⟩;rw[yi] at Mr;have sD:aE H2 (upd H2 D (.lst xs)):=av hD;refine⟨_,rfl,D,xs,rfl,a8.of aj,Hv xl G.few,?_⟩;refine oI (bA.keep Mr (aJ.of sD)) λks H3 s3 hk=>?_;refine⟨_,qw hk,agP TR _,λD2 TV=>?_⟩;have sE:aE H3 (upd H3 D2 (.lst ((eN ((((bZ p ts).filter λe=>e.2.1 != 0).map gs).zip xs)).map (·.2)))):=av TV;refine q _ D2 _ (λc u e=>sE _ _ (s3 _ _ (sD _ _ (s2 _ _ e)))) (none_of (λc u e=>s3 _ _ (sD _ _ (s2 _ _ e))) TV) aj ?_;have hx3:bA H3 xs ((bZ p ts).filter λe=>e.2.1 != 0):=bA.keep Mr (aJ.of λc u e=>s3 _ _ (sD _ _ e));exact bA.keep (qQ (lq (rL hx3))) (aJ.of sE)
structure Cd (p D M:Int)(a:Int×Int):Prop where
 num:Num p a.1 a.2
 d:p=0->∃k:Int,a.2*k=D/\((a.1*k).natAbs:Int)<=M
variable {M:Int}
theorem Cd.mono {D M':Int}(h:Cd p D M a)(m:M<=M'):Cd p D M' a:=⟨h.num,λz=>by
 obtain⟨k,e,l⟩:=h.d z
 exact⟨k,e,Int.le_trans l m⟩⟩
variable {N:Int}
theorem Cd.add {D:Int}(hp:FP p)(ha:Cd p D M a)(hb:Cd p D N b):Cd p D (M+N) (dn p a b):=by
 have na:=ha.num.pos;have nb:=hb.num.pos;have nz:a.2*b.2≠0:=CD (by omega) (by omega);refine⟨Num.set hp.nn nz,λz=>?_⟩;subst z;obtain⟨x,ex,lx⟩:=ha.d rfl;obtain⟨y,ey,ly⟩:=hb.d rfl;have cr:=jl (t:=a.1*b.2+b.1*a.2) nz;have nm:Num 0 (c9 0 (a.1*b.2+b.1*a.2) (a.2*b.2)) (dw 0 (a.1*b.2+b.1*a.2) (a.2*b.2)):=Num.set (ni 0) nz;show ∃k,dw 0 (a.1*b.2+b.1*a.2) (a.2*b.2)*k=D/\(((c9 0 (a.1*b.2+b.1*a.2) (a.2*b.2))*k).natAbs:Int)<=M+N;generalize c9 0 (a.1*b.2+b.1*a.2) (a.2*b.2)=t at cr nm |-;generalize dw 0 (a.1*b.2+b.1*a.2) (a.2*b.2)=u at cr nm |-;obtain⟨a1,a2⟩:=a;obtain⟨b1,b2⟩:=b;dsimp only at *
 have e1:t*D=(a1*x+b1*y)*u:=by
  refine sY nz ?_
  have h1:(a1*b2+b1*a2)*D=(a1*x+b1*y)*(a2*b2):=by
   have:(a1*b2+b1*a2)*D=a1*b2*D+b1*a2*D:=by grind
   rw[this]
   have p1:a1*b2*D=a1*x*(a2*b2):=by rw[<-ex];grind
   have p2:b1*a2*D=b1*y*(a2*b2):=by rw[<-ey];grind
   rw[p1,p2];grind
  have:t*D*(a2*b2)=t*(a2*b2)*D:=by grind
  rw[this,cr]
  have:(a1*b2+b1*a2)*u*D=(a1*b2+b1*a2)*D*u:=by grind
  rw[this,h1];grind
 have dv:u ∣ D:=by
  have g:Int.gcd u t=1:=by rw[Int.gcd_comm];exact nm.red
  have h1:u ∣ t*D:=⟨a1*x+b1*y,by rw[e1];grind⟩;have h2:=Int.natAbs_dvd_natAbs.mpr h1;rw[ye] at h2;exact Int.natAbs_dvd_natAbs.mp (Nat.Coprime.dvd_of_dvd_mul_left (show Nat.Coprime u.natAbs t.natAbs from g) h2)
 obtain⟨k,ek⟩:=dv;refine⟨k,ek.symm,?_⟩;have up:=nm.pos
 have e2:t*k=a1*x+b1*y:=by
  refine sY (show u≠0 by omega) ?_;rw[<-e1,ek];grind
 rw[e2];have:=Int.natAbs_add_le (a1*x) (b1*y);omega
theorem Cd.mul {D D':Int}(hp:FP p)(ha:Cd p D M a)(hb:Cd p D' N b):Cd p (D*D') (M*N) (cH p a b):=by
 have na:=ha.num.pos;have nb:=hb.num.pos;have nz:a.2*b.2≠0:=CD (by omega) (by omega);refine⟨Num.set hp.nn nz,λz=>?_⟩;subst z;obtain⟨x,ex,lx⟩:=ha.d rfl;obtain⟨y,ey,ly⟩:=hb.d rfl;have e1:=nM (t:=a.1*b.1) nz;have e2:=jH (t:=a.1*b.1) nz;refine⟨Nm.dv (a.1*b.1) (a.2*b.2)*(x*y),?_,?_⟩
 ·show cO (a.1*b.1) (a.2*b.2)*(Nm.dv (a.1*b.1) (a.2*b.2)*(x*y))=D*D';rw[<-xS,e2,<-ex,<-ey];grind
 ·show((dA (a.1*b.1) (a.2*b.2)*(Nm.dv (a.1*b.1) (a.2*b.2)*(x*y))).natAbs:Int)<=M*N;rw[<-xS,e1,show a.1*b.1*(x*y)=(a.1*x)*(b.1*y) by grind,ye];push_cast;exact Int.mul_le_mul lx ly (by omega) (by omega)
theorem FP.bits (hp:FP p)(z:p≠0){t b:Int}(h:Num p t b):B 7 t/\B 7 b:=by
 obtain⟨_,_,OG⟩:=hp.two z;obtain⟨h1,h2,h3⟩:=h.pr z;constructor
 ·show t.natAbs<2^7;omega
 ·show b.natAbs<2^7;omega
variable {n:Nat}
theorem Cd.gn {D:Int}(hp:FP p)(h:Cd p D M a)(h7:7<=n)(ND:D≠0)(hD:B n D)(hM:B n M):Gn p n a:=by
 by_cases z:p=0
 ·obtain⟨k,e,l⟩:=h.d z;have kz:k≠0:=λw=>ND (by rw[<-e,w,Int.mul_zero])
  have k1:1<=k.natAbs:=by omega
  refine⟨h.num,?_,?_⟩
  ·have:(a.1*k).natAbs<=M.natAbs:=by omega
   rw[ye] at this;exact hM.le (Ig (Nat.le_mul_of_pos_right _ k1) this)
  ·rw[<-e] at hD;refine hD.le ?_;rw[ye];exact Nat.le_mul_of_pos_right _ k1
 ·obtain⟨h1,h2⟩:=hp.bits z h.num;exact⟨h.num,h1.mono h7,h2.mono h7⟩
theorem ads {D:Int}{t:Tm}(hp:FP p)(hN:0<=N)(hM:0<=M)(hd:∀e∈d,Cd p D M e.2)(ht:Cd p D N t.2):∀e∈dj p d t,Cd p D (M+N) e.2:=by
 intro e he;unfold dj at he
 split at he
 ·obtain⟨e0,h0,rfl⟩:=EA.mp he
  by_cases q:e0.1=t.1
  ·rw[qk q];exact(hd e0 h0).add hp ht
  ·rw[IX q];exact(hd e0 h0).mono (by omega)
 ·rcases tH.mp he with he|he
  ·exact(hd e he).mono (by omega)
  ·have:e=t:=by simpa using he
   rw[this];exact ht.mono (by omega)
theorem vK {D:Int}(hp:FP p)(hN:0<=N):∀(ts d:List Tm)(M:Int),0<=M->(∀e∈d,Cd p D M e.2)->(∀t∈ts,Cd p D N t.2)->∀e∈ts.foldl (dj p) d,Cd p D (M+N*ts.length) e.2
 |[],d,M,hM,hd,_,e,he=>(hd e he).mono (by simp)
 |t::ts,d,M,hM,hd,ht,e,he=>by
  have:=vK hp hN ts (dj p d t) (M+N) (by omega) (ads hp hN hM hd (ht t qT)) (λt h=>ht t (rB _ h)) e he;refine this.mono ?_;rw[sR];push_cast;rw[Int.mul_add];omega
theorem wo {D:Int}{ts:List Tm}(hp:FP p)(hN:0<=N)(h:∀t∈ts,Cd p D N t.2):∀e∈bZ p ts,Cd p D (N*ts.length) e.2:=λe he=>by
 have:=vK hp hN ts [] 0 (ni 0) (λe h=>nomatch h) h e he;rwa[Int.zero_add] at this
theorem Dy {D:Int}(hp:FP p)(hN:0<=N)(h:∀t∈ts,Cd p D N t.2):∀e∈tg p ts,Cd p D (N*ts.length) e.2:=λe he=>wo hp hN h e (zc.mp ((dF _).mem_iff.mp he)).1
theorem xh.cd {D:Int}(hp:FP p)(hN:0<=N)(h:∀t∈ts,Cd p D N t.2)(ND:D≠0)(hD:B 4000 D)(hM:B 4000 (N*ts.length))(len:ts.length<4000)(few:(bZ p ts).length<64):xh p ts:=by
 have up:∀i:Nat,i<=ts.length->B 4000 (N*(i:Int)):=λi hi=>hM.le (by
  rw[ye,ye]
  exact GX _ (by omega))
 refine⟨len,λt ht=>?_,λi hi e he=>?_,few⟩
 ·by_cases z:ts.length=0
  ·rw[GL.mp z] at ht
   exact nomatch ht
  ·refine(h t ht).gn hp (by decide) ND hD ?_;have:=up 1 (by omega);simpa using this
 ·have g:=wo (ts:=ts.take i) hp hN (λt ht=>h t (tj ht)) e he;rw[xo,Nat.min_eq_left hi] at g;exact g.gn hp (by decide) ND hD (up i hi)
theorem qS {α:Type} [BEq α] [LawfulBEq α]:∀{l m:List α},l.Nodup->(∀x∈l,x∈m)->l.length<=m.length
 |[],m,_,_=>Gy _
 |x::l,m,h,hm=>by
  obtain⟨h1,h2⟩:=DO.mp h;have hx:=hm x qT;have ih:=qS (l:=l) (m:=m.erase x) h2 λy hy=>(List.mem_erase_of_ne (λ(e:y=x)=>h1 (by rw[<-e];exact hy))).mpr (hm y (rB _ hy));have e:=List.length_erase_of_mem hx;have p:0<m.length:=List.length_pos_of_mem hx;rw[sR];omega
noncomputable def dW:List Int->List (List Int)
 |[]=>[[]]
 |x::l=>(dW l).map (x :: ·)++dW l
theorem gE:∀{l ks:List Int},l.Pairwise (· < ·)->ks.Pairwise (· < ·)->(∀k∈ks,k∈l)->ks∈dW l
 |[],[],_,_,_=>DZ.mpr rfl
 |[],k::ks,_,_,h=>nomatch h k qT
 |x::l,[],hl,hk,h=>Io _ (gE (tN.mp hl).2 hk λk z=>nomatch z)
 |x::l,k::ks,hl,hk,h=>by
  obtain⟨l1,l2⟩:=tN.mp hl;obtain⟨k1,k2⟩:=tN.mp hk
  by_cases e:k=x
  ·subst e;refine A6 _ (EA.mpr ⟨ks,gE l2 k2 λz hz=>?_,rfl⟩)
   rcases HK.mp (h z (rB _ hz)) with w|w
   ·have:=k1 z hz;omega
   ·exact w
  ·have kx:k∈l:=by
    rcases HK.mp (h k qT) with w|w
    ·exact absurd w e
    ·exact w
   have lx:=l1 k kx;refine Io _ (gE l2 hk λz hz=>?_)
   rcases HK.mp (h z hz) with w|w
   ·rcases HK.mp hz with v|v
    ·exact absurd (v.symm.trans w) e
    ·have:=k1 z v;omega
   ·exact w
noncomputable def P5 (ks:List Int):Prop:=ks.Pairwise (· < ·)/\∀k∈ks,0<=k/\k<5
variable {ks:List Int}
theorem P5.mem (h:P5 ks):ks∈dW [0,1,2,3,4]:=gE (by decide) h.1 λk hk=>by
 have:=h.2 k hk
 have:k=0\/k=1\/k=2\/k=3\/k=4:=by omega
 rcases this with h|h|h|h|h <;> (rw[h];decide)
theorem P5.len (h:P5 ks):ks.length<=5:=by
 have:∀l∈dW [0,1,2,3,4],l.length<=5:=by decide
 exact this ks h.mem
theorem P5.both {ms:List Int}(h:P5 ks)(g:P5 ms):P5 (mE (ks++ms)):=⟨tT _,λk hk=>by
 rcases tH.mp (gP.mp hk) with z|z
 ·exact h.2 k z
 ·exact g.2 k z⟩
theorem adP {t e:Tm}(h:e∈dj p d t):(∃x∈d,e.1=x.1)\/e.1=t.1:=by
 unfold dj at h
 split at h
 ·obtain⟨x,hx,rfl⟩:=EA.mp h;refine .inl ⟨x,hx,?_⟩
  split <;> rfl
 ·rcases tH.mp h with h|h
  ·exact .inl ⟨e,h,rfl⟩
  ·have:e=t:=by simpa using h
   exact .inr (by rw[this])
theorem lh :∀(ts d:List Tm)(e:Tm),e∈ts.foldl (dj p) d->(∃x∈d,e.1=x.1)\/∃x∈ts,e.1=x.1
 |[],d,e,h=>.inl ⟨e,h,rfl⟩
 |t::ts,d,e,h=>by
  rcases lh ts (dj p d t) e h with⟨x,hx,ex⟩|⟨x,hx,ex⟩
  ·rcases adP hx with⟨y,hy,ey⟩|ey
   ·exact .inl ⟨y,hy,ex.trans ey⟩
   ·exact .inr ⟨t,qT,ex.trans ey⟩
  ·exact .inr ⟨x,rB _ hx,ex⟩
theorem vC (h:∀t∈ts,P5 t.1):∀e∈bZ p ts,P5 e.1:=λe he=>by
 rcases lh ts [] e he with⟨x,hx,_⟩|⟨x,hx,ex⟩
 ·exact nomatch hx
 ·rw[ex];exact h x hx
theorem DF (h:∀t∈ts,P5 t.1):∀e∈tg p ts,P5 e.1:=λe he=>vC h e (zc.mp ((dF _).mem_iff.mp he)).1
theorem qm (hp:FP p)(hn:aW p ts)(h:∀t∈ts,P5 t.1):(bZ p ts).length<=32:=by
 obtain⟨R,i,v,V⟩:=hp.v;have nd:=(gf V hp.nn hn λ_=>0).2.2
 have:=qS (l:=(bZ p ts).map (·.1)) (m:=dW [0,1,2,3,4]) nd λk hk=>by
  obtain⟨e,he,rfl⟩:=EA.mp hk;exact(vC h e he).mem
 rw[EZ] at this;exact this
theorem adQ (hp:FP p)(hn:aW p ts)(h:∀t∈ts,P5 t.1):(tg p ts).length<=32:=by
 rw[(dF (bZ p ts)).length_eq];exact Ig (A4 _ _) (qm hp hn h)
structure Tl (p D M:Int)(n:Nat)(ts:List Tm):Prop where
 d:∀t∈ts,Cd p D M t.2
 k:∀t∈ts,P5 t.1
 l:ts.length<=n
theorem Tl.num {D:Int}(h:Tl p D M n ts):aW p ts:=λt ht=>(h.d t ht).num
theorem Tl.gth {D:Int}(h:Tl p D M n ts)(hp:FP p)(hM:0<=M)(ND:D≠0)(hD:B 4000 D)(hB:B 4000 (M*n))(hn:n<4000):xh p ts:=by
 have hl:=h.l;refine xh.cd hp hM h.d ND hD (hB.le ?_) (by omega) (Hv (qm hp h.num h.k) (by decide));rw[ye,ye];exact GX _ (by omega)
theorem Tl.tg {D:Int}(h:Tl p D M n ts)(hp:FP p)(hM:0<=M):Tl p D (M*n) 32 (tg p ts):=by
 have hl:=h.l;refine⟨λe he=>(Dy hp hM h.d e he).mono (Ao (by omega) hM),DF h.k,adQ hp h.num h.k⟩
theorem Tl.mul {D E:Int}{m:Nat}{a b:List Tm}(h:Tl p D M n a)(g:Tl p E N m b)(hp:FP p):Tl p (D*E) (M*N) (n*m) (dh p a b):=by
 refine⟨λe he=>?_,λe he=>?_,?_⟩
 ·obtain⟨x,hx,he⟩:=HP.mp he;obtain⟨y,hy,rfl⟩:=EA.mp he;exact(h.d x hx).mul hp (g.d y hy)
 ·obtain⟨x,hx,he⟩:=HP.mp he;obtain⟨y,hy,rfl⟩:=EA.mp he;exact(h.k x hx).both (g.k y hy)
 ·unfold dh;rw[List.length_flatMap];simp only[EZ];rw[List.map_const',List.sum_replicate_nat];exact Nat.mul_le_mul h.l g.l
theorem uD {p:Int}:∀{ts:List Tm},(∀t∈ts,Gn p 45 t.2)->∃D:Int,0<D/\B (45*ts.length+1) D/\∀t∈ts,Cd p D (35184372088832*D) t.2
 |[],_=>⟨1,by decide,by unfold B;decide,λt h=>nomatch h⟩
 |t::ts,h=>by
  obtain⟨D,d0,dB,hd⟩:=uD (ts:=ts) λt ht=>h t (rB _ ht);obtain⟨n,b1,b2⟩:=h t qT;have bp:=n.pos
  have dle:D<=D*t.2.2:=by
   have:=Ao (show 1<=t.2.2 by omega) (show 0<=D by omega);omega
  refine⟨D*t.2.2,HY d0 bp,?_,λu hu=>?_⟩
  ·have:=dB.mul b2;exact this.mono (by rw[sR];omega)
  ·rcases HK.mp hu with rfl|hu
   ·refine⟨n,λ_=>⟨D,Ea _ _,?_⟩⟩;rw[ye];have bt:u.2.1.natAbs<35184372088832:=Ip b1 (by decide);have h1:u.2.1.natAbs*D.natAbs<=35184372088832*D.natAbs:=ui _ (by omega)
    have h2:((35184372088832*D.natAbs:Nat):Int)=35184372088832*D:=by
     rw[GF,Hu (show 0<=D by omega)];rfl
    have h3:((u.2.1.natAbs*D.natAbs:Nat):Int)<=((35184372088832*D.natAbs:Nat):Int):=Int.ofNat_le.mpr h1;rw[h2] at h3;exact Int.le_trans h3 (Ao dle (by decide))
   ·have c:=hd u hu;refine⟨c.num,λz=>?_⟩;obtain⟨k,ek,lk⟩:=c.d z;refine⟨k*t.2.2,by rw[<-xS,ek],?_⟩;rw[<-xS,ye];rw[GF,Hu (show 0<=t.2.2 by omega),<-xS];exact Bp lk (show 0<=t.2.2 by omega)
noncomputable abbrev pT:Stmt:=aU (ba 31) 0
noncomputable def DW (ks:List Int):Prop:=lW (some (ks.map V.int))=true/\ks.length<4000
theorem oP {t b:Int}(n:Num p t b):tw p (some (.int t,.int b))=true:=by
 unfold tw;dsimp only
 by_cases z:p=0
 ·rw[qk z,n.red];have:=n.pos;simp;omega
 ·rw[IX z];obtain⟨h1,h2,h3⟩:=n.pr z;simp[h1,h2,h3]
theorem adU {y:V}{t:Tm}(h:F4 H y t)(g:Gn p n t.2)(pd:DW t.1):yq p H y true:=by
 obtain⟨a,pr,nu,rfl,ha,Jt,JB⟩:=h
 have e:yq p H (.ref a) (lW (some (t.1.map V.int))&&tw p (some (.int t.2.1,.int t.2.2))):=.two ha (.tup Jt (by rw[EZ];exact pd.2) λy hy=>by
  obtain⟨k,_,rfl⟩:=EA.mp hy
  exact⟨_,.int k⟩) (.two JB (.int _) (.int _))
 rw[pd.1,oP g.1] at e;exact e
theorem zB :∀{ys:List V}{ts:List Tm},bA H ys ts->(∀t∈ts,Gn p n t.2/\DW t.1)->∀y∈ys,yq p H y true
 |_,_,.nil,_,y,hy=>nomatch hy
 |_,_,.cons h t,g,y,hy=>by
  rcases HK.mp hy with rfl|hy
  ·exact adU h (g _ qT).1 (g _ qT).2
  ·exact zB t (λt ht=>g t (rB _ ht)) y hy
structure F2 (K:Frag)(mg:Cw)(C:Addr):Prop where
 cl:kJ K C
 nF:eF K C "its_field"
 nT:eF K C "its_terms"
 mgC:mg "Sum"=some (.ref C)
noncomputable def pq (fl D:Addr):List (Str×V):=[("its_field",.ref fl),("its_terms",.ref D)]
noncomputable def fV (C CF:Addr):Sp:=λvs H Q _=>∃(s dx fl Jh:Addr)(p:Int)(x:V)(ts:List Tm),vs=[.ref s,.ref fl,x]/\H s=some (.ins C dx [])/\H fl=some (.ins CF Jh (dS p))/\FP p /\
 ((x=.non/\ts=[])\/∃l ys,x=.ref l/\H l=some (.lst ys)/\bA H ys ts)/\xh p ts/\(∀t∈ts,DW t.1) /\
 ∀H' D zs,SameBut s H H'->H D=none->H' s=some (.ins C dx (pq fl D))->H' D=some (.lst zs)->bA H' zs (iq (bZ p ts))->Q .non H'
theorem ad0:Eb FZ FZ (au pT):=dX (by decide +kernel)
theorem ad1 {f C CF T:Addr}{fd:GS}(F:Et K "__init__" "Sum.__init__" pT f fd T)(c:F2 K mg C)
 (q0:Ca P w K mg base 5 qV "gathered" (pW CF))
 (q1:Ca P w K mg base 5 qV "checked_terms" (nQ CF)):
 xk P w K mg base (cI P w) 6 f fd FZ (fV C CF):=by
 obtain⟨fg,U3,FG,bG,mG,kG⟩:=q0;obtain⟨fc,fdc,FC,bC,mC,kC⟩:=q1;refine F.okE ad0 (λvs H Q E h=>?_) (λJi A outer s H vs Q E hr h=>?_)
 ·obtain⟨s,dx,fl,Jh,p,x,ts,rfl,_⟩:=h;rfl
 ·obtain⟨s0,dx,fl,Jh,p,x,ts,rfl,hs,hf,hp,hx,G,hP,q⟩:=h;have hG:∀t∈ts,Gn p 4000 t.2/\DW t.1:=λt ht=>⟨G.num t ht,hP t ht⟩;have Ka:A1 5 _:=hr.mono (by decide);refine⟨_,ar (oR (pv 0) (pv 1) rfl) (az (oR (pv 0) (aD FG Ka (by rfl) mG kG bG .nil ae (ao (pv 1) (ao (aD FC Ka (by rfl) mC kC bC .nil ae (ao (pv 1) (ao (pv 2) ai rfl) rfl)) ai rfl) rfl)) rfl)),?_⟩;refine⟨_,rfl,_,rfl,s0,C,dx,_,rfl,hs,c.cl,c.nF,by decide,?_⟩
  have Ni:fl≠s0:=λz=>by
   rw[z,hs] at hf
   injection hf with hf
   injection hf with _ _ hf
   cases hf
  have NG:upd H s0 (.ins C dx (dR "its_field" (.ref fl) [])) fl=some (.ins CF Jh (dS p)):=by rw[aA Ni];exact hf
  have kT:aJ H (upd H s0 (.ins C dx (dR "its_field" (.ref fl) []))):=aJ.upd λxs z=>by rw[hs] at z;cases z
  have fin:∀(H2:Hp)(l:Addr)(ys:List V),aE (upd H s0 (.ins C dx (dR "its_field" (.ref fl) []))) H2->H2 l=some (.lst ys)->bA H2 ys ts->pW CF [.ref fl,.ref l] H2 (λy H1=>dg 0 [some (.ref s0),some (.ref fl),some x] H1 λx2 H2=>∃a C dx fs,x2=.ref a/\H2 a=some (.ins C dx fs)/\kJ K C/\eF K C "its_terms"/\fs.length<1000 /\
   Q .non (upd H2 a (.ins C dx (dR "its_terms" y fs)))) λ_ _ _=>False:=by
   intro H2 l ys s2 hl ht;refine⟨fl,Jh,l,p,ys,ts,rfl,s2 _ _ NG,hp,hl,ht,G,λH3 D zs s3 h0 hD hz=>?_⟩;have Vm:H3 s0=some (.ins C dx (dR "its_field" (.ref fl) [])):=s3 _ _ (s2 _ _ aj);refine⟨_,rfl,s0,C,dx,_,rfl,Vm,c.cl,c.nT,(by show 1<1000;decide),?_⟩
   have nD:D≠s0:=λz=>by rw[z,Vm] at hD;cases hD
   refine q _ D zs (λb u e nb=>?_) (none_of (λc u e=>e) (by
    cases e:H D with
    |none=>rfl
    |some u=>rw[s2 D u (by rw[aA nD];exact e)] at h0;cases h0)) aj (by rw[aA nD];exact hD) (bA.keep hz (aJ.upd λxs z=>by rw[Vm] at z;cases z))
   rw[aA nb];exact s3 _ _ (s2 _ _ (by rw[aA nb];exact e))
  rcases hx with⟨rfl,rfl⟩|⟨l,ys,rfl,hl,ht⟩
  ·refine⟨_,rfl,_,rfl,_,rfl,fl,Jh,p,.non,rfl,NG,hp,.inl ⟨rfl,λl hl=>?_⟩⟩;exact fin _ l [] (av hl) aj .nil
  ·have nl:l≠s0:=λz=>by rw[z,hs] at hl;cases hl
   have Kv:upd H s0 (.ins C dx (dR "its_field" (.ref fl) [])) l=some (.lst ys):=by rw[aA nl];exact hl
   have KH:=bA.keep ht kT;refine⟨_,rfl,_,rfl,_,rfl,fl,Jh,p,.ref l,rfl,NG,hp,.inr ⟨l,ys,rfl,Kv,?_,zB KH hG,λH2 s2=>?_⟩⟩
   ·rw[ht.length];have:=G.len;omega
   ·exact fin _ l ys s2 (s2 _ _ Kv) (bA.keep KH (aJ.of s2))
end K09
namespace Mx
open PySem PyProof.Rows
noncomputable def jQ:Option Int->List Int->Option Int
 |b,[]=>b
 |none,n::ns=>jQ (some n) ns
 |some m,n::ns=>jQ (some (if n>m then n else m)) ns
noncomputable def kept (c:Nat):Option (Int×Tok)->Obj
 |none=>{cls:=.type "list",dict:=none,data:=.seq #[] c,slots:=#[]}
 |some (m,t)=>{cls:=.type "list",dict:=none,data:=.seq #[.int m t,.int m t] c,slots:=#[]}
section
variable {prog:xq}{w:World}{A:Around}{E:AU}{s:pL}{R:Result->Shared->Prop}
theorem ad8 {a b:Int}{t u:Tok}{Q:AU}(h:Q (.bool (decide (a>b))) s):wpAny (model prog w) A (richCompare .Gt (.int a t) (.int b u)) Q E s :=
 CmpOf.ints_gt (P:=λi v=>∃t,v=.int (if i=0 then a else b) t) (λi=>if i=0 then a else b) (λ{_ _} h=>h) 0 1 _ _ s Q E ⟨t,by simp⟩ ⟨u,by simp⟩ (by simpa using h)
theorem aeb (a v:Value):argsOk "max" ⟨[a],[(Str.ofString "default",v)]⟩:=by unfold argsOk;kernel_rfl
theorem md {I l S:Addr}{items:Il}{d:Value}(hh:A.handled=none)(My:S≠I)(Qa:S≠l)(OO:l≠I):∀(ns:List Int)(i:Nat)(s:pL)(b:Option (Int×Tok))(c:Nat),
 s.heap.IsListIter I l i->s.heap.IsList l items->IntsAre (items.toList.drop i) ns->s.heap.get? S=some (kept c b) →
 (∀v h' tk,(match jQ (b.map (·.1)) ns with|none=>v=d|some m=>∃t,v=.int m t)->(∀x o,x≠I->x≠S->s.heap.get? x=some o->h'.get? x=some o)->R (.ok (.ret v)) {s with heap:=h',toks:=tk}) →
 codeAny (model prog w) A (.builtin "max.loop" ⟨[.ref I,.none,.ref S],[(Str.ofString "default",d)]⟩) R s
 |[],i,s,b,c,hit,hl,hn,hS,hR=>by
  have hx:items[i]?=none:=by
   have e:items.toList.drop i=[]:=by cases hq:items.toList.drop i with
    |nil=>rfl
    |cons x r=>rw[hq] at hn;cases hn
   have:=List.drop_eq_nil_iff.mp e;simp at this |-;omega
  refine pB F.entry_max_loop ?_;rw[Hg Iq _]
  cases b with
  |none =>
   show wpAny _ A.in1 (seqItems? (.ref S)>>=_) _ _ s;refine IW (iL hS rfl ?_);show wpAny _ A.in1 (tryCatch (pyNext (.ref I)) _>>=_) _ _ s;refine IW (xi (wD hh hit hl hx λh' eb=>?_));refine IW (qK (Fc ?_));exact hR d h' s.toks rfl λx o h1 _ e=>eb x o h1 e
  |some p =>
   obtain⟨m,t⟩:=p;show wpAny _ A.in1 (seqItems? (.ref S)>>=_) _ _ s;refine IW (iL hS rfl ?_);show wpAny _ A.in1 (tryCatch (pyNext (.ref I)) _>>=_) _ _ s;refine IW (xi (wD hh hit hl hx λh' eb=>?_));have Mz:=eb S _ My hS;show wpAny _ A.in1 (updateSeq S (λ_=>#[])>>=_) _ _ _;refine IW (BA Mz rfl (IW (BR (Fc ?_))));exact hR _ _ s.toks ⟨t,rfl⟩ λx o h1 h2 e=>(ng _ _ (Bt h2)).trans (eb x o h1 e)
 |n::ns,i,s,b,c,hit,hl,hn,hS,hR=>by
  have Kb:(toString "max"++toString ".loop":String)="max.loop":=by decide
  obtain⟨t,hx,Ox⟩:∃t,items[i]?=some (.int n t)/\IntsAre (items.toList.drop (i+1)) ns:=by
   cases hq:items.toList.drop i with
   |nil=>rw[hq] at hn;cases hn
   |cons x r =>
    rw[hq] at hn
    cases hn with
    |cons _ t hr =>
     refine⟨t,?_,?_⟩
     ·have:(items.toList.drop i)[0]?=some (Value.int n t):=by rw[hq];rfl
      simpa using this
     ·have:items.toList.drop (i+1)=(items.toList.drop i).drop 1:=by rw[List.drop_drop,Nat.add_comm]
      rw[this,hq];exact hr
  refine pB F.entry_max_loop ?_;rw[Hg Iq _]
  cases b with
  |none =>
   show wpAny _ A.in1 (seqItems? (.ref S)>>=_) _ _ s;refine IW (iL hS rfl ?_);show wpAny _ A.in1 (tryCatch (pyNext (.ref I)) _>>=_) _ _ s;refine IW (xi (Bk hit hl hx λh' Me sb=>?_));have Mz:=(sb.2 S My).trans hS;show wpAny _ A.in1 (updateSeq S (λ_=>#[.int n t,.int n t])>>=_) _ _ _;refine IW (BA Mz rfl ?_);rw[Kb];refine Fc ⟨CV Iq _,?_⟩;have up:∀x o,x≠S->h'.get? x=some o->(h'.update S (Obj.mapSeq λ_=>#[.int n t,.int n t])).get? x=some o:=λx o hx e=>(ng _ _ (Bt hx)).trans e;refine md hh My Qa OO ns (i+1) _ (some (n,t)) _ (Me.at λo e=>up I o (Bt My) e) ((hl.extBut sb.extBut OO).at λo e=>up l o (Bt Qa) e) Ox (Fn _ Mz rfl) λv h2 tk hv hk=>?_;exact hR v h2 tk hv λx o h1 h3 e=>hk x o h1 h3 (up x o h3 ((sb.2 x h1).trans e))
  |some p =>
   obtain⟨m,u⟩:=p;show wpAny _ A.in1 (seqItems? (.ref S)>>=_) _ _ s;refine IW (iL hS rfl ?_);show wpAny _ A.in1 (tryCatch (pyNext (.ref I)) _>>=_) _ _ s;refine IW (xi (Bk hit hl hx λh' Me sb=>?_));have Mz:=(sb.2 S My).trans hS;show wpAny _ A.in1 (tryCatch (holding [.int n t,.int n t] (richCompare .Gt (.int n t) (.int m u)>>=_)) _>>=_) _ _ _;refine IW (xi (BV (IW (ad8 ?_))));refine IW (BV (jR ?_));refine IW (BR (Fc ?_))
   by_cases hb:n>m
   ·simp only[Iw hb,Ij];refine IW (BA Mz rfl (IW (BR ?_)));rw[Kb];refine Fc ⟨CV Iq _,?_⟩;have up:∀x o,x≠S->h'.get? x=some o->(h'.update S (Obj.mapSeq λ_=>#[.int n t,.int n t])).get? x=some o:=λx o hx e=>(ng _ _ (Bt hx)).trans e;refine md hh My Qa OO ns (i+1) _ (some (n,t)) _ (Me.at λo e=>up I o (Bt My) e) ((hl.extBut sb.extBut OO).at λo e=>up l o (Bt Qa) e) Ox (Fn _ Mz rfl) λv h2 tk hv hk=>?_;refine hR v h2 tk ?_ λx o h1 h3 e=>hk x o h1 h3 (up x o h3 ((sb.2 x h1).trans e));simpa only[Option.map_some,jQ,qk hb] using hv
   ·simp only[IA hb,BU,wR];refine IW (BR ?_);rw[Kb];refine Fc ⟨CV Iq _,?_⟩;refine md hh My Qa OO ns (i+1) _ (some (m,u)) c Me (hl.extBut sb.extBut OO) Ox Mz λv h2 tk hv hk=>?_;refine hR v h2 tk ?_ λx o h1 h3 e=>hk x o h1 h3 ((sb.2 x h1).trans e);simpa only[Option.map_some,jQ,IX hb] using hv
theorem ahX {id:String}{b:Builtin}{args:HF}{kw:List (Str×Value)}{Q:AU}(hk:builtinKind id=none)(hp:plainId id=true)(hb:entryFor table id=some b)(ha:argsOk id ⟨args,kw⟩)
 (hc:wpAny (model prog w) A.in1 (b ⟨args,kw⟩) (λfin s'=>match fin with
  | .done f=>(match (Except.ok f:Result) with| .ok (.ret v)=>Q v s'| .ok _=>False| .error e=>E e s')
  | .again c'=>c'.quiet=true/\codeAny (model prog w) A c' (λr s'=>match r with| .ok (.ret v)=>Q v s'| .ok _=>False| .error e=>E e s') s') E s):
 wpAny (model prog w) A (call (.builtin id) args kw) Q E s:=by
 refine yn (Cp hp hb ?_);simp only[checkBuiltinCall,hk]
 cases Vn:Manifest.signature? id with
 |none=>exact Fc hc
 |some C3 =>
  have Nx:Bind.checkArgs id C3 ⟨args,kw⟩=pure ():=by simpa only[argsOk,Vn] using ha
  simp only[Nx];exact Fc hc
theorem ahZ {l:Addr}{items:Il}{ns:List Int}{d:Value}{Q:AU}(hh:A.handled=none)(hl:s.heap.IsList l items)(hn:IntsAre items.toList ns)
 (hQ:∀v h' tk,(match jQ none ns with|none=>v=d|some m=>∃t,v=.int m t)->(∀x o,s.heap.get? x=some o->h'.get? x=some o)->Q v {s with heap:=h',toks:=tk}):
 wpAny (model prog w) A (call (.builtin "max") [.ref l] [(Str.ofString "default",d)]) Q E s:=by
 have Kb:(toString "max"++toString ".loop":String)="max.loop":=by decide
 refine ahX F.kind_max F.plain_max F.entry_max (aeb _ _) ?_;show wpAny _ A.in1 (Builtin.Builtins.bindParams "max" ["key","default"] 0 ⟨[],[(Str.ofString "default",d)]⟩>>=_) _ _ s;refine IW (xK (show Builtin.Builtins.bindParams "max" ["key","default"] 0 ⟨[],[(Str.ofString "default",d)]⟩=pure [none,some d] from rfl) ?_);refine IW (Fc ?_);refine IW (yf hl ?_);refine IW (Bf ?_);rw[Kb]
 have lt:l<s.heap.objs.size:=by obtain⟨o,e,_⟩:=hl;exact Ep e
 have sz:(s.heap.push {cls:=.type "list_iterator",data:=.fields #[.ref l,.int 0 0]}).objs.size=s.heap.objs.size+1:=B5 ..;have g2:∀x o,s.heap.get? x=some o->((s.heap.push {cls:=.type "list_iterator",data:=.fields #[.ref l,.int 0 0]}).push {cls:=.type "list",data:=.seq #[]}).get? x=some o:=λx o e=>Ez _ (Ez _ e);refine Fc ⟨CV Iq _,md (items:=items) hh ?_ ?_ (IB lt) ns 0 _ none 0 ⟨_,Ez _ (Fg _ rfl),rfl,rfl⟩ (hl.at λo e=>g2 l o e) (by simpa using hn) (Fg _ rfl) λv h' tk hv hk=>?_⟩
 ·show(s.heap.push _).objs.size≠s.heap.objs.size;rw[sz];exact Cr _
 ·show(s.heap.push _).objs.size≠l;rw[sz];exact tU (sS lt)
 ·refine hQ v h' tk hv λx o e=>hk x o (IB (Ep e)) ?_ (g2 x o e);show x≠(s.heap.push _).objs.size;rw[sz];exact IB (sS (Ep e))
end
end Mx
namespace L2
open PySem PySem.Spec PyProof.Rows PySem.W
section
variable {X:Cx}{e d:Expr}{ta td:TE}{p kpos pos:Pos}
noncomputable def agH (K:Frag)(ta td:TE):TE:=λσ H Q=>bx ta ya σ H λvs H1=>bx td ya σ H1 λds H2=>∃(l:Addr)(ns:List Int)(dv:V),vs=[.ref l]/\ds=[dv]/\a8 K H2 l (ns.map V.int)/\Q (match Mx.jQ none ns with|none=>dv|some m=>.int m) H2
theorem agY (ha:PE X e ta)(hd:PE X d td)(hc:X.calm=true)(hg:Gl X "max")(hm:X.mg "max"=none)(hs:ff e=false:=by rfl):PE X (.Call (.Name "max" p) [e] [⟨some "default",d,kpos⟩] pos) (agH X.K ta td):=by
 intro pins s σ H Q I h;refine rM (c8 I hg hm (by rfl) ?_ (by decide) (by decide));refine callWith_builtin_kwB (by rw[aX hs];rfl) rfl (evalArgs_kw2 rfl ?_ (aX hs));refine cx (ao ha ai hs pos pins s σ H _ I h) λus s1 z'=>?_;obtain⟨vs,H1,I1,r1,h1⟩:=z';refine cx (aba (nm:=some "default") (kpos:=kpos) hd aa8 pos pins s1 σ H1 _ I1 h1) λws s2 z'=>?_;obtain⟨ds,H2,I2,r2,l,ns,dv,e1,e2,hl,q⟩:=z';subst e1 e2;obtain⟨u,rfl,ru⟩:=fG r1
 cases(show u=Value.ref l from ru)
 obtain⟨w',rfl,JV⟩:=fG r2;obtain⟨its,rv,pl,hz⟩:=I2.list hl;show wpAny _ X.A (call (.builtin "max") [.ref l] [(Str.ofString "default",w')]) _ _ s2;refine Mx.ahZ (I.ok.hd hc) pl.isList (by simpa using fP rv) λv h' tk hv hk=>?_;refine⟨_,H2,I2.kept (t':=tk) hk,?_,q⟩
 cases hb:Mx.jQ none ns with
 |none=>rw[hb] at hv;cases hv;exact JV
 |some m=>rw[hb] at hv;obtain⟨t,rfl⟩:=hv;exact⟨t,rfl⟩
end
theorem nU:∀(ns:List Int)(m:Int),∃b,Mx.jQ (some m) ns=some b/\(b=m\/b∈ns)/\m<=b/\∀a∈ns,a<=b
 |[],m=>⟨m,rfl,.inl rfl,ni _,λa h=>nomatch h⟩
 |n::ns,m=>by
  obtain⟨b,h1,h2,h3,h4⟩:=nU ns (if n>m then n else m);refine⟨b,h1,?_,?_,λa ha=>?_⟩
  ·rcases h2 with q|q
   ·by_cases z:n>m
    ·rw[qk z] at q;exact .inr (by simp[q])
    ·rw[IX z] at q;exact .inl q
   ·exact .inr (rB _ q)
  ·split at h3 <;> omega
  ·rcases HK.mp ha with rfl|ha
   ·split at h3 <;> omega
   ·exact h4 a ha
theorem jf {ns:List Int}(h:ns≠[]):∃b,Mx.jQ none ns=some b/\b∈ns/\∀a∈ns,a<=b:=by
 cases ns with
 |nil=>exact absurd rfl h
 |cons n ns =>
  obtain⟨b,h1,h2,h3,h4⟩:=nU ns n;refine⟨b,h1,?_,λa ha=>?_⟩
  ·rcases h2 with q|q
   ·simp[q]
   ·exact rB _ q
  ·rcases HK.mp ha with rfl|ha
   ·exact h3
   ·exact h4 a ha
end L2
namespace K09
open PySem L2 PySem.W Nm Srt
noncomputable abbrev uu:Stmt:=aU (ba 31) 8
structure xJ (C CF:Addr)(H:Hp)(s:Addr)(p:Int)(ts:List Tm):Prop where
 ex:∃dx fl Jh D zs,H s=some (.ins C dx (pq fl D))/\H fl=some (.ins CF Jh (dS p))/\H D=some (.lst zs)/\bA H zs ts
noncomputable abbrev vT:Stmt:=(ba 47)
theorem agI:Eb Ay Ay (au vT):=dX (by decide +kernel)
variable {P:xq}{w:World}{K:PySem.W.Frag}{mg:Cw}{base:Heap}
variable {f:Addr}{fd:GS}
theorem ahA (F:FY K "_law_times" "_law_times" vT f fd)(q0:Ca P w K mg base 2 sC "_law_make" E8):
 xk P w K mg base (cI P w) 3 f fd Ay (my hZ):=by
 obtain⟨fl,Mt,FL,bL,mL,kL⟩:=q0;refine F.okN agI (λvs H Q E h=>?_) (λJi A outer s H vs Q E hr h=>?_)
 ·obtain⟨p,t1,b1,t2,b2,x1,x2,rfl,_⟩:=h;rfl
 ·obtain⟨p,t1,b1,t2,b2,x1,x2,rfl,hp,h1,h2,B1,B2,B3,B4,n1,n2,hb,q⟩:=h;refine⟨_,az (aG (aD FL hr (by rfl) mL kL bL .nil ae (ao (pv 0) (ao (aH dN (bf bH (pv 1) aq (λ_ _=>rfl)) (bf bH (pv 2) aq (λ_ _=>rfl))) (ao (aH dN (bf bH (pv 1) aq (λ_ _=>rfl)) (bf bH (pv 2) aq (λ_ _=>rfl))) ai))))),?_⟩;refine⟨_,rfl,?_⟩;refine⟨_,rfl,x1,_,0,_,rfl,rfl,bq.of h1,a0 _ _,_,rfl,x2,_,0,_,rfl,rfl,bq.of h2,a0 _ _,_,_,rfl,rfl,⟨B1.mono (by decide),B3.mono (by decide)⟩,?_⟩;refine⟨_,rfl,x1,_,1,_,rfl,rfl,bq.of h1,a1 _ _,_,rfl,x2,_,1,_,rfl,rfl,bq.of h2,a1 _ _,_,_,rfl,rfl,⟨B2.mono (by decide),B4.mono (by decide)⟩,?_⟩;exact⟨p,_,_,rfl,hp,p9 n1 n2,(B2.mul B4).mono (by decide),(B1.mul B3).mono (by decide),hb,q⟩
noncomputable abbrev zm:Stmt:=(ba 32)
theorem agZ (p:Int):xh p []:=⟨by decide,λt h=>(nomatch h),λi hi e he=>by
 have:bZ p (([]:List Tm).take i)=[]:=by simp[bZ]
 rw[this] at he
 exact(nomatch he),Nat.zero_lt_succ 63⟩
noncomputable def jg (C CF:Addr)(H0 H:Hp)(s:Addr)(p:Int)(ts:List Tm):Prop:=∃dx fl Jh D zs,H s=some (.ins C dx (pq fl D))/\H fl=some (.ins CF Jh (dS p))/\H D=some (.lst zs)/\bA H zs ts/\H0 D=none
variable {C CF:Addr}{H:Hp}
theorem jg.r {H0:Hp}{s:Addr}{p:Int}{ts:List Tm}(h:jg C CF H0 H s p ts):xJ C CF H s p ts:=let⟨dx,fl,Jh,D,zs,h1,h2,h3,h4,_⟩:=h;⟨dx,fl,Jh,D,zs,h1,h2,h3,h4⟩
theorem Du {H':Hp}{a:Addr}(s:aE H H')(h:H' a=none):H a=none:=by
 cases z:H a with
 |none=>rfl
 |some o=>rw[s _ _ z] at h;cases h
theorem jg.of {H0 H1:Hp}{s:Addr}{p:Int}{ts:List Tm}(h:jg C CF H1 H s p ts)(k:aE H0 H1):jg C CF H0 H s p ts:=let⟨dx,fl,Jh,D,zs,h1,h2,h3,h4,h5⟩:=h;⟨dx,fl,Jh,D,zs,h1,h2,h3,h4,Du k h5⟩
noncomputable def gS (C CF:Addr):Sp:=λvs H Q _=>∃(fl Jh l:Addr)(p:Int)(ys:List V)(ts:List Tm),vs=[.ref fl,.ref l]/\H fl=some (.ins CF Jh (dS p))/\FP p/\H l=some (.lst ys)/\bA H ys ts/\xh p ts/\∀H' s,aE H H'->jg C CF H H' s p (tg p ts)->Q (.ref s) H'
theorem wt:Eb ["field","terms","one"] qV (au zm):=dX (by decide +kernel)
theorem aiQ:Eb AY AY (au AL):=dX (by decide +kernel)
theorem ah6 (F:FY K "times" "Field.times" AL f fd)(c:Fv K mg C)(q0:Cm P w K mg base 3 xV C "settled" (ji C)):
 xk P w K mg base (cI P w) 4 f fd AY (oo C hZ):=by
 obtain⟨fs,Yk,FS,bS,mS⟩:=q0;refine F.okN aiQ (λvs H Q E h=>?_) (λJi A outer s H vs Q E hr h=>?_)
 ·obtain⟨s,dx,a1,a2,p,t1,b1,t2,b2,rfl,_⟩:=h;rfl
 ·obtain⟨s,dx,x1,x2,p,t1,b1,t2,b2,rfl,hs,hp,h1,h2,B1,B2,B3,B4,n1,n2,q⟩:=h;refine⟨_,az (aG (aR (pv 0) c.cl mS FS hr bS .nil ae (ao (aH dN (bf bH (pv 1) aq (λ_ _=>rfl)) (bf bH (pv 2) aq (λ_ _=>rfl))) (ao (aH dN (bf bH (pv 1) aq (λ_ _=>rfl)) (bf bH (pv 2) aq (λ_ _=>rfl))) ai)))),?_⟩;refine⟨_,rfl,s,dx,_,rfl,hs,rfl,?_⟩;refine⟨_,rfl,x1,_,0,_,rfl,rfl,bq.of h1,a0 _ _,_,rfl,x2,_,0,_,rfl,rfl,bq.of h2,a0 _ _,_,_,rfl,rfl,⟨B1.mono (by decide),B3.mono (by decide)⟩,?_⟩;refine⟨_,rfl,x1,_,1,_,rfl,rfl,bq.of h1,a1 _ _,_,rfl,x2,_,1,_,rfl,rfl,bq.of h2,a1 _ _,_,_,rfl,rfl,⟨B2.mono (by decide),B4.mono (by decide)⟩,?_⟩;exact⟨s,dx,p,_,_,rfl,hs,hp,(B2.mul B4).mono (by decide),p9 n1 n2,q⟩
theorem ahC {fI:Addr}{J5:GS}(F:FY K "built" "built" zm f fd)(c:F2 K mg C)(M:Mk K C fI)
 (FI:xk P w K mg base (cI P w) 6 fI J5 FZ (fV C CF))(bI:L2.b8 K J5 FZ [Value.none])
 (q0:Ca P w K mg base 5 qV "gathered" (pW CF)):
 xk P w K mg base (cI P w) 8 f fd qV (gS C CF):=by
 obtain⟨fg,U3,FG,bG,mG,kG⟩:=q0;refine F.okN wt (λvs H Q E h=>?_) (λJi A outer s H vs Q E hr h=>?_)
 ·obtain⟨fl,Jh,l,p,ys,ts,rfl,_⟩:=h;rfl
 ·obtain⟨fl,Jh,l,p,ys,ts,rfl,hf,hp,hl,ht,G,q⟩:=h;have Ka:A1 5 _:=hr.mono (by decide)
  refine⟨_,ar (@aY _ _ 2 _ _ _ _ wt.nd rfl (Or.inl rfl) (eX (dvs:=[.non]) M FI hr (by rfl) c.mgC bI (.cons rfl .nil) ae (ao (pv 0) ai rfl)) rfl (Or.inl rfl))
   (ar (oR (pv 2) (aD FG Ka (by rfl) mG kG bG .nil ae (ao (pv 0) (ao (pv 1) ai rfl) rfl)) rfl)
   (az (aG (pv 2)))),?_⟩
  refine⟨_,rfl,λx dx hx Lu ne=>?_⟩
  have s0:∀b u,H b=some u->upd (upd H dx (.own x)) x (.ins C dx []) b=some u:=λb u e=>by
   rw[aA (aB e hx),aA (aB e Lu)];exact e
  refine⟨x,dx,fl,Jh,p,.non,[],rfl,aj,s0 _ _ hf,hp,.inl ⟨rfl,rfl⟩,agZ p,(λt ht=>nomatch ht),λH1 D0 zs0 sb _ Vo ND hz0=>⟨rfl,?_⟩⟩;have s1:aE H H1:=λb u e=>sb _ _ (s0 _ _ e) (aB e hx);refine⟨_,rfl,_,rfl,fl,Jh,l,p,ys,ts,rfl,s1 _ _ hf,hp,s1 _ _ hl,bA.keep ht (aJ.of s1),G,λH2 D zs s2 nD0 hD hz=>?_⟩;have OA:=s2 _ _ Vo;refine⟨_,rfl,x,C,dx,_,rfl,OA,c.cl,c.nT,(by show 2<1000;decide),?_⟩
  have nD:D≠x:=λz=>by rw[z,OA] at hD;cases hD
  have s3:aE H (upd H2 x (.ins C dx (dR "its_terms" (.ref D) (dR "its_terms" (.ref D0) (dR "its_field" (.ref fl) []))))):=λb u e=>by
   rw[aA (aB e hx)];exact s2 _ _ (s1 _ _ e)
  exact⟨_,rfl,q _ x s3 ⟨dx,fl,Jh,D,zs,aj,s3 _ _ hf,by rw[aA nD];exact hD,bA.keep hz (aJ.upd λxs z=>by rw[OA] at z;cases z),Du s1 nD0⟩⟩
end K09
namespace L2
open PySem PySem.Spec PyProof.Rows
end L2
namespace K09
open PySem L2 PySem.W Nm Srt
noncomputable def HX (t:Tm):Prop:=t.1.Pairwise (· < ·)/\t.1.length<32
theorem aiR (p:Int)(a b:List Tm)(x:Tm):dh p (a++[x]) b=dh p a b++b.map λy=>(mE (x.1++y.1),cH p x.2 y.2):=by simp[dh]
theorem rG (p:Int)(a b:List Tm):(dh p a b).length=a.length*b.length:=by
 unfold dh;rw[List.length_flatMap];simp only[EZ];rw[List.map_const',List.sum_replicate_nat]
end K09
namespace L2
open PySem
variable {H:Hp}
theorem ir {σ:St}{A B:Hp->Prop}(h:A H):oZ σ H λb H4=>if b=true then A H4 else B H4:=h
variable {tt:TT}{te:TE}{rest:St}
theorem kg {J:It}{n:Nat}{at_:Nat->V->Prop}{F:List V->Hp->Prop}(Pv:Nat->List V->Hp->Prop)(h0:Pv 0 [] H)
 (hz:∀i ys H',i<=n->Pv i ys H'->ys.length<sizeLine/\(i<n->J.go i H')/\(i=n->J.stop i H')/\∀x H2,J.yld i H' x H2->H2=H'/\at_ i x)
 (hs:∀i x ys H' (N:List V->Hp->Prop),i<n->at_ i x->Pv i ys H'->(∀zs H5,Pv (i+1) zs H5->N zs H5) →
  tt (some x::rest) H' λb H4=>if b=true then te (some x::rest) H4 λy H5=>N (ys++[y]) H5 else N ys H4)
 (hd:∀ys H',Pv n ys H'->F ys H'):
 ∃W:Nat->Nat->List V->St->Hp->Prop,(∃m,W 0 m [] (none::rest) H)/\jI J (bK 0) tt te W F:=by
 refine⟨λi m ys σ H'=>m=n-i/\i<=n/\Pv i ys H'/\∃o,σ=o::rest,⟨n,by simp,Gy _,h0,none,rfl⟩,?_⟩;rintro i m ys σ H' ⟨rfl,hi,p,o,rfl⟩;obtain⟨z1,z2,z3,z4⟩:=hz i ys H' hi p;refine⟨z1,?_⟩
 by_cases Jk:i<n
 ·refine .inr ⟨z2 Jk,λx H2 hy=>?_⟩;obtain⟨rfl,hx⟩:=z4 x H2 hy;exact hs i x ys H2 (λzs H5=>∃m',m'<n-i/\m'=n-(i+1)/\i+1<=n/\Pv (i+1) zs H5/\∃o',(some x::rest:St)=o'::rest) Jk hx p λzs H5 h=>⟨n-(i+1),by omega,rfl,Jk,h,_,rfl⟩
 ·have:i=n:=by omega
  subst this;exact .inl ⟨z3 rfl,hd ys H' p⟩
variable {a:Addr}
theorem rY {K:PySem.W.Frag}{xs:List V}{F:List V->Hp->Prop}(Pv:Nat->List V->Hp->Prop)(h0:Pv 0 [] H)
 (hz:∀i ys H',i<=xs.length->Pv i ys H'->ys.length<sizeLine/\bq K H' a xs)
 (hs:∀i x ys H' (N:List V->Hp->Prop),i<xs.length->xs[i]?=some x->Pv i ys H'->(∀zs H5,Pv (i+1) zs H5->N zs H5) →
  tt (some x::rest) H' λb H4=>if b=true then te (some x::rest) H4 λy H5=>N (ys++[y]) H5 else N ys H4)
 (hd:∀ys H',Pv xs.length ys H'->F ys H'):
 ∃W:Nat->Nat->List V->St->Hp->Prop,(∃m,W 0 m [] (none::rest) H)/\jI (HI K a) (bK 0) tt te W F:=by
 refine kg (n:=xs.length) (at_:=λi x=>xs[i]?=some x) Pv h0 (λi ys H' hi p=>?_) hs hd;obtain⟨z1,z2⟩:=hz i ys H' hi p;exact⟨z1,λh=>⟨xs,xs[i],z2,by simp[h]⟩,λh=>⟨xs,z2,by omega⟩,λx H2 hy=>⟨hy.1,hy.2 xs z2⟩⟩
theorem dm {K:PySem.W.Frag}{xs:List V}{F:List V->Hp->Prop}(Pv:Nat->List V->Hp->Prop)(h0:Pv 0 [] H)
 (hz:∀i ys H',i<=xs.length->Pv i ys H'->ys.length<sizeLine/\a8 K H' a xs)
 (hs:∀i x ys H' (N:List V->Hp->Prop),i<xs.length->xs[i]?=some x->Pv i ys H'->(∀zs H5,Pv (i+1) zs H5->N zs H5) →
  tt (some x::rest) H' λb H4=>if b=true then te (some x::rest) H4 λy H5=>N (ys++[y]) H5 else N ys H4)
 (hd:∀ys H',Pv xs.length ys H'->F ys H'):
 ∃W:Nat->Nat->List V->St->Hp->Prop,(∃m,W 0 m [] (none::rest) H)/\jI (BJ K a) (bK 0) tt te W F:=by
 refine kg (n:=xs.length) (at_:=λi x=>xs[i]?=some x) Pv h0 (λi ys H' hi p=>?_) hs hd;obtain⟨z1,z2⟩:=hz i ys H' hi p;exact⟨z1,λh=>⟨xs,xs[i],z2,by simp[h]⟩,λh=>⟨xs,z2,by omega⟩,λx H2 hy=>⟨hy.1,hy.2 xs z2⟩⟩
theorem kZ {lo:Int}{n:Nat}{rest:St}{F:List V->Hp->Prop}(Pv:Nat->List V->Hp->Prop)(h0:Pv 0 [] H)
 (hz:∀i ys H',i<=n->Pv i ys H'->ys.length<sizeLine)
 (hs:∀i ys H' (N:List V->Hp->Prop),i<n->Pv i ys H'->(∀zs H5,Pv (i+1) zs H5->N zs H5) →
  tt (some (.int (lo+i)):: rest) H' λb H4=>if b=true then te (some (.int (lo+i)):: rest) H4 λy H5=>N (ys++[y]) H5 else N ys H4)
 (hd:∀ys H',Pv n ys H'->F ys H'):
 ∃W:Nat->Nat->List V->St->Hp->Prop,(∃m,W 0 m [] (none::rest) H)/\jI (ED lo n) (bK 0) tt te W F:=by
 refine kg (n:=n) (at_:=λi x=>x=.int (lo+i)) Pv h0 (λi ys H' hi p=>?_) (λi x ys H' N h1 h2=>by subst h2;exact hs i ys H' N h1) hd;exact⟨hz i ys H' hi p,λh=>h,λh=>by show n<=i;omega,λx H2 hy=>hy⟩
theorem nW {K:PySem.W.Frag}{xs:List V}{F:List V->Hp->Prop}(Pv:Nat->List V->Hp->Prop)(h0:Pv 0 [] H)
 (hz:∀i ys H',i<=xs.length->Pv i ys H'->ys.length<sizeLine/\a8 K H' a xs)
 (hs:∀i x ys H',i<xs.length->xs[i]?=some x->Pv i ys H' →
  ∃b u v,x=.ref b/\bq K H' b [u,v]/\∀(N:List V->Hp->Prop),(∀zs H5,Pv (i+1) zs H5->N zs H5)->tt (some u::some v::rest) H' λb H4=>if b=true then te (some u::some v::rest) H4 λy H5=>N (ys++[y]) H5 else N ys H4)
 (hd:∀ys H',Pv xs.length ys H'->F ys H'):
 ∃W:Nat->Nat->List V->St->Hp->Prop,(∃m,W 0 m [] (none::none::rest) H)/\jI (BJ K a) (jM K 2 (cV (bK 0) (cV (bK 1) Iu))) tt te W F:=by
 refine⟨λi m ys σ H'=>m=xs.length-i/\i<=xs.length/\Pv i ys H'/\∃o o2,σ=o::o2::rest,⟨xs.length,by simp,Gy _,h0,none,none,rfl⟩,?_⟩;rintro i m ys σ H' ⟨rfl,hi,p,o,o2,rfl⟩;obtain⟨z1,z2⟩:=hz i ys H' hi p;refine⟨z1,?_⟩
 by_cases Jk:i<xs.length
 ·refine .inr ⟨⟨xs,xs[i],z2,by simp[Jk]⟩,λx H2 hy=>?_⟩;obtain⟨rfl,hx⟩:=hy;obtain⟨b,u,v,rfl,hb,h⟩:=hs i x ys H2 Jk (hx xs z2) p;exact⟨_,[u,v],rfl,hb,rfl,_,_,rfl,_,_,rfl,rfl,h (λzs H5=>∃m',m'<xs.length-i/\m'=xs.length-(i+1)/\i+1<=xs.length/\Pv (i+1) zs H5/\∃o o2,(some u::some v::rest:St)=o::o2::rest) λzs H5 h=>⟨xs.length-(i+1),by omega,rfl,Jk,h,_,_,rfl⟩⟩
 ·have:i=xs.length:=by omega
  subst this;exact .inl ⟨⟨xs,z2,yH _⟩,hd ys H' p⟩
end L2
namespace K09
open PySem L2 PySem.W Nm Srt
noncomputable abbrev ur:Stmt:=(ba 50)
theorem vS:∀{ks:List Int},ks.Pairwise (· < ·)->jF (ks.map V.int)=true
 |[],_=>rfl
 |[k],_=>rfl
 |a::b::ks,h=>by
  obtain⟨h1,h2⟩:=tN.mp h;have ih:=vS h2;unfold jF at ih |-;have e:((a::b::ks).map V.int).zip (((a::b::ks).map V.int).drop 1)=(V.int a,V.int b):: (((b::ks).map V.int).zip (((b::ks).map V.int).drop 1)):=rfl;rw[e,rS,ih,tW];exact Iw (h1 b qT)
theorem ze {ks:List Int}(h:ks.Pairwise (· < ·))(hb:∀k∈ks,0<=k/\k<60)(hl:ks.length<4000):DW ks:=by
 refine⟨?_,hl⟩;show((ks.map V.int).all b7&&jF (ks.map V.int))=true;rw[vS h,tW,EU,BP];intro k hk;obtain⟨h0,h1⟩:=hb k hk;show(decide (0<=k)&&decide (k<60))=true;rw[Iw h0,Iw h1];rfl
noncomputable def wQ:Sp:=λvs H Q _=>∃(r:Addr)(many share:Int),vs=[.ref r,.int many,.int share]/\bg H r/\0<=many/\many<=60/\0<share/\share<1000 /\
 ∀(a:Addr)(ks:List Int)(H':Hp),ks.Pairwise (· < ·)->(∀k∈ks,0<=k/\k<many)->ks.length<=60->H' a=some (.tup (ks.map V.int))->bg H' r->SameBut r H H'->Q (.ref a) H'
theorem aiS:Eb AW AW (au ur):=dX (by decide +kernel)
variable {P:xq}{w:World}{K:PySem.W.Frag}{mg:Cw}{base:Heap}
variable {f:Addr}{fd:GS}
theorem zX (F:FY K "_law_product" "_law_product" ur f fd)(m_tuple:mg "tuple"=none)(m_range:mg "range"=none)
 (q0:Ca P w K mg base 1 Ge "_law_take" yT):
 xk P w K mg base (cI P w) 2 f fd AW wQ:=by
 obtain⟨ft,Nt,FT,bT,mT,kT⟩:=q0;refine F.okN aiS (λvs H Q E h=>?_) (λJi A outer s H vs Q E hr h=>?_)
 ·obtain⟨r,many,share,rfl,_⟩:=h;rfl
 ·obtain⟨r,many,share,rfl,hR,m0,m1,s0,s1,q⟩:=h;have Jp:A1 1 _:=hr.mono (by decide)
  refine⟨_,(az (aG (eA dO (by rfl) m_tuple (by rfl) (ao (cj (N:=["_law_place","_law_room_here","_law_share"]) (nl:=1) (js:=[0,2]) (osc:=au ur) ⟨rfl,rfl,by decide +kernel,by decide +kernel,by decide +kernel,rfl,(.cons ⟨rfl,by decide +kernel⟩ (.cons ⟨rfl,by decide +kernel⟩ .nil)),by decide +kernel⟩ rfl
   (df (by rfl) m_range (ao (pv 1) ai rfl))
   (λC fp s H=>aF (i:=0) (by show(["_law_place","_law_room_here","_law_share"]:F3).Nodup;decide +kernel) rfl (Or.inl rfl) (Or.inr rfl))
   (λC fp s H=>(gR (aS dU (aD FT Jp (by rfl) mT kT bT .nil ae (ao (pv 1) (ao (pv 2) ai rfl) rfl)) aq (aM _))))
   (λC fp s H=>(pv 0))) ai rfl)))),?_⟩
  refine⟨_,rfl,many,rfl,by omega,by omega,?_⟩
  refine⟨λi m xs σ' H'=>m=many.toNat-i/\i<=many.toNat/\(∃ks:List Int,xs=ks.map V.int/\ks.Pairwise (· < ·)/\(∀k∈ks,0<=k/\k<(i:Int))/\ks.length<=i)/\bg H' r/\SameBut r H H'/\∃o,σ'=[o,some (.ref r),some (.int share)],
   ⟨many.toNat,by simp,Gy _,⟨[],rfl,.nil,λk h=>(nomatch h),yH _⟩,hR,λ_ _ e _=>e,none,rfl⟩,?_⟩
  rintro i m xs σ' H' ⟨rfl,hi,⟨ks,rfl,MA,OP,Vp⟩,⟨l,x,JP,x0,x1⟩,sb,o,rfl⟩;refine⟨by rw[EZ];exact Hv (Ig Vp (show i<=60 by omega)) (by decide),?_⟩
  by_cases Jk:i<many.toNat
  ·refine .inr ⟨Jk,λy H2 hy=>?_⟩;obtain⟨rfl,rfl⟩:=hy;refine⟨_,rfl,_,rfl,r,l,x,share,rfl,JP,x0,x1,s0,by omega,λz l2 r2 z0 z1 g0 g1=>?_⟩;have Mb:SameBut r H (upd H2 r (.lst [.int l2,.int r2])):=sb.trans SameBut.upd;have R2:bg (upd H2 r (.lst [.int l2,.int r2])) r:=⟨l2,r2,aj,g0,g1⟩;refine⟨rfl,_,rfl,?_⟩;refine cX (λh=>?_) (λh=>?_)
   ·refine⟨_,rfl,many.toNat-(i+1),by omega,rfl,Jk,⟨ks++[0+(i:Int)],by simp,?_,?_,by simp;omega⟩,R2,Mb,_,rfl⟩
    ·refine List.pairwise_append.mpr ⟨MA,List.pairwise_singleton _ _,λa ha b hb=>?_⟩
     have:b=0+(i:Int):=by simpa using hb
     have:=(OP a ha).2;omega
    ·intro k hk
     rcases tH.mp hk with hk|hk
     ·have:=OP k hk;omega
     ·have:k=0+(i:Int):=by simpa using hk
      omega
   ·exact⟨many.toNat-(i+1),by omega,rfl,Jk,⟨ks,rfl,MA,λk hk=>by have:=OP k hk;omega,by omega⟩,R2,Mb,_,rfl⟩
  ·have ei:i=many.toNat:=by omega
   refine .inl ⟨by show many.toNat<=i;omega,λD hD=>?_⟩;refine⟨D,_,rfl,.inl ⟨a8.of aj,λa ha=>?_⟩⟩;have nD:r≠D:=aB JP hD;have na:r≠a:=aB (show upd H' D (.lst (ks.map V.int)) r=some (.lst [.int l,.int x]) by rw[aA nD];exact JP) ha;refine q a ks _ MA (λk hk=>by have:=OP k hk;omega) (by omega) aj ⟨l,x,by rw[aA na,aA nD];exact JP,x0,x1⟩ λb u e nb=>?_;have e1:=sb b u e nb
   have e2:upd H' D (.lst (ks.map V.int)) b=some u:=by rw[aA (aB e1 hD)];exact e1
   rw[aA (aB e2 ha)];exact e2
noncomputable abbrev wg:Stmt:=(ba 51)
noncomputable def BZ (p many:Int)(t:Tm):Prop:=Gn p 45 t.2/\t.1.Pairwise (· < ·)/\(∀k∈t.1,0<=k/\k<many)/\t.1.length<=60
noncomputable def Be:Sp:=λvs H Q _=>∃(r:Addr)(p many most:Int),vs=[.ref r,.int p,.int many,.int most]/\bg H r/\FP p/\0<=many/\many<=60/\0<=most/\most<=40 /\
 ∀(D:Addr)(ys:List V)(ts:List Tm)(H':Hp),H' D=some (.lst ys)->bA H' ys ts->(ts.length:Int)<=most->(∀t∈ts,BZ p many t)->bg H' r->SameBut r H H'->Q (.ref D) H'
variable {H:Hp}
theorem bg.ahB {H':Hp}{r:Addr}(h:bg H r)(s:SameBut r H H'):aJ H H':=λb xs e=>s b _ e λz=>by
 obtain⟨l,x,e',_⟩:=h;rw[z,e'] at e
 cases e
theorem iK:Eb ["_law_room_here","_law_prime_here","_law_many","_law_most","_law_found","_law_k","_law_product_here"] Fe (au wg):=dX (by decide +kernel)
theorem xC (F:FY K "_law_terms" "_law_terms" wg f fd)(m_range:mg "range"=none)
 (q0:Ca P w K mg base 1 Ge "_law_take" yT)
 (q1:Ca P w K mg base 2 AW "_law_product" wQ)
 (q2:Ca P w K mg base 2 EE "_law_number" DK):
 xk P w K mg base (cI P w) 3 f fd Fe Be:=by
 obtain⟨ft,Nt,FT,bT,mT,kT⟩:=q0;obtain⟨fp,OK,FP,bP,mP,kP⟩:=q1;obtain⟨fn,fdn,FN,bN,mN,kN⟩:=q2;refine F.okN iK (λvs H Q E h=>?_) (λJi A outer s H vs Q E hr h=>?_)
 ·obtain⟨r,p,many,most,rfl,_⟩:=h;rfl
 ·obtain⟨r,p,many,most,rfl,hR,hp,m0,m1,n0,n1,q⟩:=h;have JD:A1 2 _:=hr.mono (by decide);have Jp:A1 1 _:=hr.mono (by decide)
  refine⟨_,(ar (@aY _ _ 4 _ _ _ _ iK.nd rfl (Or.inl rfl) (cM ai) rfl (Or.inl rfl))
   (ar (eG E5 rfl (df (by rfl) m_range (ao (aD FT Jp (by rfl) mT kT bT .nil ae (ao (pv 0) (ao (aH dD (pv 3) aq) ai rfl) rfl)) ai rfl)) (aF (i:=5) iK.nd rfl (Or.inl rfl))
   (ar (@aY _ _ 6 _ _ _ _ iK.nd rfl (Or.inl rfl) (aD FP JD (by rfl) mP kP bP .nil ae (ao (pv 0) (ao (pv 2) (ao (aH dD aq (aD FT Jp (by rfl) mT kT bT .nil ae (ao (pv 0) (ao aq ai rfl) rfl))) ai rfl) rfl) rfl)) rfl (Or.inl rfl))
   (az (vO (As Bg PySem.F.slot_list_append PySem.F.type_list_append TmX (pv 4) (ao (bF (ao (pv 6) (ao (aD FN JD (by rfl) mN kN bN .nil ae (ao (pv 0) (ao (pv 1) ai rfl) rfl)) ai rfl) rfl)) ai rfl))))))
   (az (aG (pv 4))))),?_⟩
  refine⟨Gy _,λD hD=>?_⟩;obtain⟨l0,x0,YG,a0,a1⟩:=hR;have OQ:r≠D:=aB YG hD
  have hR1:upd H D (.lst []) r=some (.lst [.int l0,.int x0]):=by rw[aA OQ];exact YG
  refine⟨_,rfl,_,rfl,_,_,rfl,rfl,r,l0,x0,most+1,rfl,hR1,a0,a1,by omega,by omega,λz l1 x1 z0 z1 b0 b1=>?_⟩
  have K2:SameBut r H (upd (upd H D (.lst [])) r (.lst [.int l1,.int x1])):=λb u e nb=>by rw[aA nb,aA (aB e hD)];exact e
  have R1:bg (upd (upd H D (.lst [])) r (.lst [.int l1,.int x1])) r:=⟨l1,x1,aj,b0,b1⟩
  have Lq:upd (upd H D (.lst [])) r (.lst [.int l1,.int x1]) D=some (.lst []):=by rw[aA (Bt OQ)];exact aj
  generalize upd (upd H D (.lst [])) r (.lst [.int l1,.int x1])=H1 at K2 R1 Lq |-;refine⟨z,rfl,by omega,by omega,?_⟩
  refine⟨λi m σ' H'=>m=z.toNat-i/\i<=z.toNat/\bg H' r/\SameBut r H H'/\(∃ys ts,H' D=some (.lst ys)/\bA H' ys ts/\ts.length=i/\∀t∈ts,BZ p many t)/\∃o5 o6,σ'=[some (.ref r),some (.int p),some (.int many),some (.int most),some (.ref D),o5,o6],
   ⟨z.toNat,by simp,Gy _,R1,K2,⟨[],[],Lq,.nil,rfl,λt h=>(nomatch h)⟩,none,none,rfl⟩,?_⟩
  rintro i m σ' H' ⟨rfl,hi,JP,Mo,⟨ys,ts,eD,ht,tl,tg⟩,o5,o6,rfl⟩
  by_cases Jk:i<z.toNat
  ·refine .inr ⟨Jk,λσ' H'=>bg H' r/\SameBut r H H'/\(∃ys ts,H' D=some (.lst ys)/\bA H' ys ts/\ts.length=i+1/\∀t∈ts,BZ p many t)/\∃o5 o6,σ'=[some (.ref r),some (.int p),some (.int many),some (.int most),some (.ref D),o5,o6],?_,λy H2 hy=>?_⟩
   ·rintro σ' H' ⟨h1,h2,h3,h4⟩;exact⟨z.toNat-(i+1),by omega,rfl,Jk,h1,h2,h3,h4⟩
   ·obtain⟨rfl,rfl⟩:=hy;obtain⟨l2,x2,e2,c0,c1⟩:=JP;refine⟨_,rfl,_,rfl,_,rfl,r,l2,x2,2,rfl,e2,c0,c1,by decide,by decide,λu l3 x3 u0 u1 d0 d1=>?_⟩;have R3:bg (upd H2 r (.lst [.int l3,.int x3])) r:=⟨l3,x3,aj,d0,d1⟩;have TY:SameBut r H2 (upd H2 r (.lst [.int l3,.int x3])):=SameBut.upd;generalize upd H2 r (.lst [.int l3,.int x3])=H3 at R3 TY |-;refine⟨_,_,rfl,rfl,r,many,2+u,rfl,R3,m0,m1,by omega,by omega,λa ks H4 MA OP Vp ha R4 Vq=>?_⟩;have TM:H4 D=some (.lst ys):=Vq _ _ (TY _ _ eD (Bt OQ)) (Bt OQ);have k2:aJ H2 H3:=bg.ahB ⟨l2,x2,e2,c0,c1⟩ TY;have k3:aJ H3 H4:=R3.ahB Vq;refine⟨_,rfl,.inl ⟨rfl,_,a8.of TM⟩,_,rfl,_,rfl,_,rfl,r,p,rfl,hp,R4,λan tt bb H5 hn B1 B2 hn5 R5 OR=>?_⟩;have k4:aJ H4 H5:=R4.ahB OR;refine⟨jJ,λtu Lx=>?_⟩;have eD5:H5 D=some (.lst ys):=OR _ _ TM (Bt OQ);have sU:aE H5 (upd H5 tu (.tup [.ref a,.ref an])):=av Lx;have YH:=sU _ _ eD5;refine⟨D,ys,.ref tu,rfl,rfl,YH,?_,?_⟩
    ·rw[ht.length];exact Hv (show ts.length<=60 by omega) (by decide)
    have kD:aJ (upd H5 tu (.tup [.ref a,.ref an])) (upd (upd H5 tu (.tup [.ref a,.ref an])) D (.lst (ys++[.ref tu]))):=aJ.upd λxs z=>by rw[YH] at z;cases z
    have kA:aJ H2 (upd (upd H5 tu (.tup [.ref a,.ref an])) D (.lst (ys++[.ref tu]))):=((k2.trans k3).trans k4).trans ((aJ.of sU).trans kD);obtain⟨l6,x6,e6,f0,f1⟩:=R5;refine⟨⟨l6,x6,by rw[aA OQ];exact sU _ _ e6,f0,f1⟩,λb u e nb=>?_,⟨_,ts++[(ks,tt,bb)],aj,zF (bA.keep ht kA) ⟨tu,a,an,rfl,kD _ _ aj,kD _ _ (sU _ _ (k4 _ _ ha)),kD _ _ (sU _ _ hn5)⟩,by simp[tl],λt h=>?_⟩,_,_,rfl⟩
    ·have nb2:b≠D:=aB e hD;rw[aA nb2];exact sU _ _ (OR _ _ (Vq _ _ (TY _ _ (Mo _ _ e nb) nb) nb) nb)
    ·rcases tH.mp h with h|h
     ·exact tg t h
     ·have:t=(ks,tt,bb):=by simpa using h
      subst this;exact⟨⟨hn,B1,B2⟩,MA,OP,Vp⟩
  ·have ei:i=z.toNat:=by omega
   refine .inl ⟨by show z.toNat<=i;omega,?_⟩;exact⟨_,rfl,q D ys ts H' eD ht (by omega) tg JP Mo⟩
noncomputable def Lv (p:Int)(m n:Nat)(ts:List Tm):Prop:=∃D M:Int,0<D/\0<=M/\B m D/\B m M/\Tl p D M n ts
section
variable {p:Int}{m n m' n':Nat}{a b ts:List Tm}
theorem Lv.num (h:Lv p m n ts):aW p ts:=by
 obtain⟨D,M,_,_,_,_,h⟩:=h;exact h.num
theorem Lv.len (h:Lv p m n ts):ts.length<=n:=by
 obtain⟨D,M,_,_,_,_,h⟩:=h;exact h.l
theorem Lv.k (h:Lv p m n ts):∀t∈ts,P5 t.1:=by
 obtain⟨D,M,_,_,_,_,h⟩:=h;exact h.k
theorem Lv.prd (h:Lv p m n ts):∀t∈ts,DW t.1:=λt ht=>ze (h.k t ht).1 (λk hk=>by have:=(h.k t ht).2 k hk;omega) (by have:=(h.k t ht).len;omega)
theorem Lv.mono (h:Lv p m n ts)(h1:m<=m')(h2:n<=n'):Lv p m' n' ts:=by
 obtain⟨D,M,d0,m0,bd,bm,h⟩:=h;exact⟨D,M,d0,m0,bd.mono h1,bm.mono h1,h.d,h.k,Ig h.l h2⟩
theorem vQ {n k:Nat}(h:n<2^k):B k (n:Int):=by
 unfold B;rw[Int.natAbs_natCast];exact h
theorem Lv.gth (h:Lv p m n ts)(hp:FP p)(hm:m+12<=4000)(hn:n<4000):xh p ts:=by
 obtain⟨D,M,d0,m0,bd,bm,h⟩:=h;exact h.gth hp m0 (by omega) (bd.mono (by omega)) ((bm.mul (vQ (k:=12) (Ip hn (by decide)))).mono hm) hn
theorem Lv.tg (h:Lv p m n ts)(hp:FP p)(hn:n<2048):Lv p (m+11) 32 (tg p ts):=by
 obtain⟨D,M,d0,m0,bd,bm,h⟩:=h;exact⟨D,M*n,d0,uq m0 (Fo _),bd.mono (by omega),bm.mul (vQ (k:=11) (Ip hn (by decide))),h.tg hp m0⟩
theorem Lv.mul (h:Lv p m n a)(g:Lv p m' n' b)(hp:FP p):Lv p (m+m') (n*n') (dh p a b):=by
 obtain⟨D,M,d0,m0,bd,bm,h⟩:=h;obtain⟨E,N,e0,n0,be,bn,g⟩:=g;exact⟨D*E,M*N,HY d0 e0,uq m0 n0,bd.mul be,bm.mul bn,h.mul g hp⟩
theorem Cd.up {D M E:Int}{x:Int×Int}(h:Cd p D M x)(he:0<=E):Cd p (D*E) (M*E) x:=⟨h.num,λz=>by
 obtain⟨k,ek,lk⟩:=h.d z;refine⟨k*E,by rw[<-xS,ek],?_⟩;rw[<-xS,ye,GF,Hu he]
 exact Bp lk he⟩
theorem Lv.app (h:Lv p m n a)(g:Lv p m' n' b):Lv p (m+m'+1) (n+n') (a++b):=by
 obtain⟨D,M,d0,m0,bd,bm,h⟩:=h;obtain⟨E,N,e0,n0,be,bn,g⟩:=g;have me0:0<=M*E:=uq m0 (by omega);have nd0:0<=N*D:=uq n0 (by omega);refine⟨D*E,M*E+N*D,HY d0 e0,by omega,(bd.mul be).mono (by omega),(bm.mul be).add ?_,λt ht=>?_,λt ht=>?_,?_⟩
 ·rw[Nat.add_comm m m'];exact bn.mul bd
 ·rcases tH.mp ht with ht|ht
  ·exact((h.d t ht).up (E:=E) (by omega)).mono (by omega)
  ·have:=(g.d t ht).up (E:=D) (by omega);rw[Ea E D] at this;exact this.mono (by omega)
 ·rcases tH.mp ht with ht|ht
  ·exact h.k t ht
  ·exact g.k t ht
 ·rw[zr];have:=h.l;have:=g.l;omega
theorem Lv.scl {c:Int×Int}(h:Lv p m n a)(g:Gn p m' c)(hp:FP p):Lv p (m+m') n (fh p c a):=by
 obtain⟨D,M,d0,m0,bd,bm,h⟩:=h;have cd:Cd p c.2 (c.1.natAbs:Int) c:=⟨g.1,λ_=>⟨1,GA _,by rw[GA];exact ni _⟩⟩;have bc:B m' ((c.1.natAbs:Nat):Int):=g.2.1.le (by rw[Int.natAbs_natCast];exact yH _);refine⟨D*c.2,M*c.1.natAbs,HY d0 g.1.pos,uq m0 (Fo _),bd.mul g.2.2,bm.mul bc,λt ht=>?_,λt ht=>?_,?_⟩
 ·obtain⟨x,hx,rfl⟩:=EA.mp ht;exact(h.d x hx).mul hp cd
 ·obtain⟨x,hx,rfl⟩:=EA.mp ht;exact h.k x hx
 ·unfold fh;rw[EZ];exact h.l
theorem Lv.gn (h:Lv p m n ts)(hp:FP p)(hm:m+12<=4000)(hn:n<4000):∀t∈ts,Gn p 4000 t.2/\HX t:=λt ht =>
 ⟨(h.gth hp hm hn).num t ht,(h.k t ht).1,by have:=(h.k t ht).len;omega⟩
theorem DP (hl:ts.length<=6)(h:∀t∈ts,BZ p 5 t):Lv p 320 6 ts:=by
 obtain⟨D,d0,dB,hd⟩:=uD (p:=p) (ts:=ts) λt ht=>(h t ht).1;refine⟨D,35184372088832*D,d0,uq (by decide) (by omega),dB.mono (by omega),?_,hd,λt ht=>⟨(h t ht).2.1,(h t ht).2.2.1⟩,hl⟩
 have:B 46 (35184372088832:Int):=by unfold B;decide
 exact(this.mul dB).mono (by omega)
end
noncomputable def fw (p:Int)(R:Int->List Tm):List Tm->List Int->List Tm
 |a,[]=>a
 |a,k::ks=>fw p R (tg p (dh p a (R k))) ks
theorem vE (p:Int)(R:Int->List Tm)(k:Int):∀(a:List Tm)(ks:List Int),fw p R a (ks++[k])=tg p (dh p (fw p R a ks) (R k))
 |a,[]=>rfl
 |a,x::ks=>vE p R k (tg p (dh p a (R x))) ks
noncomputable abbrev pw (p:Int)(R:Int->List Tm)(ks:List Int):List Tm:=fw p R [([],(1,1))] ks
noncomputable def jh (p:Int)(R:Int->List Tm)(ts:List Tm):List Tm:=ts.flatMap λt=>tg p (fh p t.2 (pw p R t.1))
noncomputable def Bm (p:Int)(R:Int->List Tm)(ts:List Tm):List Tm:=ts.flatMap λt=>fw p R [([],t.2)] t.1
theorem fU {p:Int}(hp:FP p):Num p 1 1:=⟨by decide,by decide,λz=>⟨rfl,by decide,by
 rcases hp with h|h
 ·exact absurd h z
 ·have:=(dC h).1
  omega⟩⟩
section
variable {p:Int}{A:Type} [Lean.Grind.CommRing A]{v:Int×Int->A}{R:Int->List Tm}
noncomputable def Gf (v:Int×Int->A)(R:Int->List Tm):List Int->(List Int->A)->List Int->A
 |[],F,i=>F i
 |k::ks,F,i=>S v (R k) λj=>Gf v R ks F (mE (i++j))
theorem zo (hp:FP p):∀{ks:List Int}{a:List Tm},(∀k∈ks,aW p (R k))->aW p a->aW p (fw p R a ks)
 |[],a,_,ha=>ha
 |k::ks,a,hR,ha=>zo hp (ks:=ks) (λx hx=>hR x (rB _ hx)) (hp.tn (gC hp.nn ha (hR k qT)))
theorem E6 (V:Val p A v)(hp:FP p)(F:List Int->A):∀{ks:List Int}{a:List Tm},(∀k∈ks,aW p (R k))->aW p a->S v (fw p R a ks) F=S v a (Gf v R ks F)
 |[],a,_,_=>rfl
 |k::ks,a,hR,ha=>by
  have hk:=hR k qT;have hm:=gC hp.nn ha hk;have JP:∀x∈ks,aW p (R x):=λx hx=>hR x (rB _ hx);show S v (fw p R (tg p (dh p a (R k))) ks) F=S v a (Gf v R (k::ks) F);rw[E6 V hp F JP (hp.tn hm),pV V hp.nn hm,zK V ha hk];rfl
end
section
variable {p:Int}{R:Int->List Tm}{ts:List Tm}
theorem BB {t:Tm}(h:Num p t.2.1 t.2.2):aW p [([],t.2)]:=λe he=>by
 have:e=([],t.2):=by simpa using he
 rw[this];exact h
theorem zd (hp:FP p){ks:List Int}(hR:∀k∈ks,aW p (R k)):aW p (pw p R ks):=zo hp hR λe he=>by
 have:e=([],(1,1)):=by simpa using he
 rw[this];exact fU hp
theorem yW (hp:FP p)(ht:aW p ts)(hR:∀t∈ts,∀k∈t.1,aW p (R k)):aW p (jh p R ts):=λe he=>by
 obtain⟨t,TU,he⟩:=HP.mp he;exact hp.tn (kE hp.nn (zd hp (hR t TU)) (ht t TU)) e he
theorem DE {A:Type} [Lean.Grind.CommRing A]{v:Int×Int->A}(V:Val p A v)(hp:FP p)(F:List Int->A):∀{ts:List Tm},aW p ts->(∀t∈ts,∀k∈t.1,aW p (R k)) →
 S v (jh p R ts) F=S v ts (λi=>Gf v R i F [])/\S v (Bm p R ts) F=S v ts (λi=>Gf v R i F [])
 |[],_,_=>⟨rfl,rfl⟩
 |t::ts,ht,hR=>by
  have h0:=ht t qT;have hk:=hR t qT;obtain⟨i1,i2⟩:=DE V hp F (ts:=ts) (λe he=>ht e (rB _ he)) λe he=>hR e (rB _ he);have MA:=zd hp hk
  have e1:aW p [(([]:List Int),((1:Int),(1:Int)))]:=λe he=>by
   have:e=([],(1,1)):=by simpa using he
   rw[this];exact fU hp
  constructor
  ·show S v (tg p (fh p t.2 (pw p R t.1))++jh p R ts) F=v t.2*Gf v R t.1 F []+S v ts _;rw[gH,i1,pV V hp.nn (kE hp.nn MA h0),zM V MA h0,E6 V hp F hk e1];show v t.2*(v (1,1)*Gf v R t.1 F []+0)+_=_;rw[V.one];grind
  ·show S v (fw p R [([],t.2)] t.1++Bm p R ts) F=v t.2*Gf v R t.1 F []+S v ts _;rw[gH,i2,E6 V hp F hk (BB h0)];show v t.2*Gf v R t.1 F []+0+_=_;grind
theorem rm (hp:FP p)(h:aW p ts):tg p (tg p ts)=tg p ts:=by
 obtain⟨A,i,v,V⟩:=hp.v;exact Dq V hp.nn (hp.tn h) h λF=>pV V hp.nn h F
end
structure Rk (p:Int)(Dk Mk:Int->Int)(R:Int->List Tm)(k:Int):Prop where
 d0:0<Dk k
 m0:0<=Mk k
 bd:B 190 (Dk k)
 bm:B 190 (Mk k)
 tl:Tl p (Dk k) (Mk k) 32 (R k)
noncomputable def pD (Dk:Int->Int):List Int->Int
 |[]=>1
 |k::ks=>Dk k*pD Dk ks
noncomputable def pM (Mk:Int->Int):List Int->Int
 |[]=>1
 |k::ks=>Mk k*1024*pM Mk ks
section
variable {p D M E N:Int}{n m:Nat}{a b ts:List Tm}{Dk Mk:Int->Int}{R:Int->List Tm}{ks l:List Int}
theorem Tl.mono (h:Tl p D M n a)(hm:M<=N)(hn:n<=m):Tl p D N m a:=⟨λt ht=>(h.d t ht).mono hm,h.k,Ig h.l hn⟩
theorem Tl.up (h:Tl p D M n a)(he:0<=E):Tl p (D*E) (M*E) n a:=⟨λt ht=>(h.d t ht).up he,h.k,h.l⟩
theorem vd (hp:FP p):∀{ks:List Int}{a:List Tm}{D M:Int}{n:Nat},n<=32->0<=M->(∀k∈ks,Rk p Dk Mk R k)->Tl p D M n a->Tl p (D*pD Dk ks) (M*pM Mk ks) 32 (fw p R a ks)
 |[],a,D,M,n,hn,hM,_,h=>by
  show Tl p (D*1) (M*1) 32 a;rw[GA,GA];exact h.mono (ni _) hn
 |k::ks,a,D,M,n,hn,hM,hR,h=>by
  have r:=hR k qT;have m0:0<=M*Mk k:=uq hM r.m0;have h1:=(h.mul r.tl hp).tg hp m0
  have h2:Tl p (D*Dk k) (M*Mk k*1024) 32 (tg p (dh p a (R k))):=h1.mono (Ao (by
   have:n*32<=1024:=Ig (ui 32 hn) (by decide)
   exact_mod_cast this) m0) (yH _)
  have h3:=vd hp (ks:=ks) (yH 32) (uq m0 (by decide)) (λx hx=>hR x (rB _ hx)) h2;show Tl p (D*(Dk k*pD Dk ks)) (M*(Mk k*1024*pM Mk ks)) 32 (fw p R (tg p (dh p a (R k))) ks);rw[<-xS,<-xS,<-xS];exact h3
theorem oU:∀{ks:List Int},(∀k∈ks,Rk p Dk Mk R k)->0<pD Dk ks
 |[],_=>by show(0:Int)<1;decide
 |k::ks,h=>HY (h k qT).d0 (oU (ks:=ks) λx hx=>h x (rB _ hx))
theorem vB:∀{ks:List Int},(∀k∈ks,Rk p Dk Mk R k)->0<=pM Mk ks
 |[],_=>by show(0:Int)<=1;decide
 |k::ks,h=>uq (uq (h k qT).m0 (by decide)) (vB (ks:=ks) λx hx=>h x (rB _ hx))
theorem CC:∀{ks:List Int},(∀k∈ks,Rk p Dk Mk R k)->B (190*ks.length+1) (pD Dk ks)
 |[],_=>by show B 1 1;unfold B;decide
 |k::ks,h=>((h k qT).bd.mul (CC (ks:=ks) λx hx=>h x (rB _ hx))).mono (by rw[sR];omega)
theorem Bh:∀{ks:List Int},(∀k∈ks,Rk p Dk Mk R k)->B (201*ks.length+1) (pM Mk ks)
 |[],_=>by show B 1 1;unfold B;decide
 |k::ks,h=>(((h k qT).bm.mul (show B 11 (1024:Int) by unfold B;decide)).mul (Bh (ks:=ks) λx hx=>h x (rB _ hx))).mono (by rw[sR];omega)
theorem vU:∀{l ks:List Int},(∀k∈l,Rk p Dk Mk R k)->ks∈dW l->∃c,0<c/\pD Dk ks*c=pD Dk l/\B (190*l.length+1) c
 |[],ks,_,h=>by
  have:ks=[]:=by simpa[dW] using h
  rw[this];exact⟨1,by decide,rfl,by unfold B;decide⟩
 |x::l,ks,hR,h=>by
  have hx:=hR x qT;have hl:∀k∈l,Rk p Dk Mk R k:=λk hk=>hR k (rB _ hk)
  rcases tH.mp (show ks∈(dW l).map (x :: ·)++dW l from h) with h|h
  ·obtain⟨ks',hk,rfl⟩:=EA.mp h;obtain⟨c,c0,e,bc⟩:=vU hl hk;refine⟨c,c0,?_,bc.mono (by rw[sR];omega)⟩;show Dk x*pD Dk ks'*c=Dk x*pD Dk l;rw[xS,e]
  ·obtain⟨c,c0,e,bc⟩:=vU hl h;refine⟨c*Dk x,HY c0 hx.d0,?_,(bc.mul hx.bd).mono (by rw[sR];omega)⟩;show pD Dk ks*(c*Dk x)=Dk x*pD Dk l;rw[<-xS,e,Ea]
noncomputable def Lw (p D:Int)(m n:Nat)(ts:List Tm):Prop:=∃M:Int,0<=M/\B m M/\Tl p D M n ts
theorem Lw.app {m' n':Nat}(h:Lw p D m n a)(g:Lw p D m' n' b)(hm:m<=m'):Lw p D (m'+1) (n+n') (a++b):=by
 obtain⟨M,m0,bm,h⟩:=h;obtain⟨N,n0,bn,g⟩:=g;refine⟨M+N,by omega,(bm.mono hm).add bn,λt ht=>?_,λt ht=>?_,?_⟩
 ·rcases tH.mp ht with ht|ht
  ·exact(h.d t ht).mono (by omega)
  ·exact(g.d t ht).mono (by omega)
 ·rcases tH.mp ht with ht|ht
  ·exact h.k t ht
  ·exact g.k t ht
 ·rw[zr];have:=h.l;have:=g.l;omega
theorem Lw.lv (h:Lw p D m n a)(d0:0<D)(bd:B m D):Lv p m n a:=by
 obtain⟨M,m0,bm,h⟩:=h;exact⟨D,M,d0,m0,bd,bm,h⟩
structure Nk (p Dd Nd:Int)(x:Int×Int):Prop where
 d0:0<Dd
 n0:0<=Nd
 bd:B 290 Dd
 bn:B 290 Nd
 cd:Cd p Dd Nd x
theorem D7 {x:Int×Int}(h:Nk p D N x):Tl p D N 1 [([],x)]:=⟨λt ht=>by
 have:t=([],x):=by simpa using ht
 rw[this]
 exact h.cd,λt ht=>by
 have:t=([],x):=by simpa using ht
 rw[this]
 exact⟨List.Pairwise.nil,λk hk=>(nomatch hk)⟩,yH _⟩
theorem oO (hp:FP p):Tl p 1 1 1 [([],(1,1))]:=⟨λt ht=>by
 have:t=([],(1,1)):=by simpa using ht
 rw[this]
 exact⟨fU hp,λ_=>⟨1,rfl,by decide⟩⟩,λt ht=>by
 have:t=([],(1,1)):=by simpa using ht
 rw[this]
 exact⟨List.Pairwise.nil,λk hk=>(nomatch hk)⟩,yH _⟩
theorem C1 (hp:FP p)(hR:∀k∈ks,Rk p Dk Mk R k)(hl:ks.length<=4):Lv p 810 32 (pw p R ks):=by
 have h:=vd hp (by decide) (by decide) hR (oO hp);rw[sr,sr] at h;exact⟨_,_,oU hR,vB hR,(CC hR).mono (by omega),(Bh hR).mono (by omega),h⟩
theorem Rk.lv {k:Int}(h:Rk p Dk Mk R k):Lv p 190 32 (R k):=⟨_,_,h.d0,h.m0,h.bd,h.bm,h.tl⟩
noncomputable abbrev l4:List Int:=[0,1,2,3]
structure T4 (p Dd Nd:Int)(t:Tm):Prop where
 n:Nk p Dd Nd t.2
 k:t.1∈dW l4
theorem w8 {ks:List Int}(h:ks∈dW l4):ks.length<=4/\(∀k∈ks,k∈l4)/\ks.Pairwise (· < ·):=by
 have:∀ks∈dW l4,ks.length<=4/\(∀k∈ks,k∈l4)/\ks.Pairwise (· < ·):=by decide +kernel
 exact this ks h
theorem GM {t:Tm}(hp:FP p)(h:T4 p D N t)(hR:∀k∈l4,Rk p Dk Mk R k):Lw p (D*pD Dk l4) 1900 32 (fw p R [([],t.2)] t.1):=by
 obtain⟨c,c0,e,bc⟩:=vU hR h.k;obtain⟨h1,h2,_⟩:=w8 h.k;have JP:∀k∈t.1,Rk p Dk Mk R k:=λk hk=>hR k (h2 k hk);have z:=(vd hp (by decide) h.n.n0 JP (D7 h.n)).up (E:=c) (by omega);rw[xS,e] at z;have bc:B 761 c:=bc;exact⟨_,uq (uq h.n.n0 (vB JP)) (by omega),(((h.n.bn.mul (Bh JP)).mul bc)).mono (by omega),z⟩
theorem Am {t:Tm}(hp:FP p)(h:T4 p D N t)(hR:∀k∈l4,Rk p Dk Mk R k):Lw p (D*pD Dk l4) 1910 32 (tg p (fh p t.2 (pw p R t.1)))/\Lv p 1110 32 (fh p t.2 (pw p R t.1)):=by
 obtain⟨c,c0,e,bc⟩:=vU hR h.k;obtain⟨h1,h2,_⟩:=w8 h.k;have JP:∀k∈t.1,Rk p Dk Mk R k:=λk hk=>hR k (h2 k hk);have bc:B 761 c:=bc;have w:=vd hp (by decide) (by decide) JP (oO hp);rw[sr,sr] at w
 have s:Tl p (D*pD Dk t.1) (pM Mk t.1*N) 32 (fh p t.2 (pw p R t.1)):=⟨λx hx=>by
  obtain⟨y,hy,rfl⟩:=EA.mp hx;rw[Ea]
  exact(w.d y hy).mul hp h.n.cd,λx hx=>by
  obtain⟨y,hy,rfl⟩:=EA.mp hx
  exact w.k y hy,by
  unfold fh;rw[EZ]
  exact w.l⟩
 have m0:0<=pM Mk t.1*N:=uq (vB JP) h.n.n0;have bm:B 1100 (pM Mk t.1*N):=((Bh JP).mul h.n.bn).mono (by omega);have z:=(s.tg hp m0).up (E:=c) (by omega);rw[xS,e] at z;refine⟨⟨_,uq (uq m0 (by decide)) (by omega),((bm.mul (show B 6 ((32:Nat):Int) by unfold B;decide)).mul bc).mono (by decide),z⟩,_,_,HY h.n.d0 (oU JP),m0,(h.n.bd.mul (CC JP)).mono (by omega),bm.mono (by decide),s⟩
theorem vz (hp:FP p)(hR:∀k∈l4,Rk p Dk Mk R k):∀{ts:List Tm},(∀t∈ts,T4 p D N t)->Lw p (D*pD Dk l4) (1910+ts.length) (32*ts.length) (Bm p R ts)
 |[],_=>⟨0,by decide,by unfold B;exact Nat.pow_pos (by decide),λt ht=>(nomatch ht),λt ht=>(nomatch ht),yH _⟩
 |t::ts,h=>by
  have z:=Lw.app (GM hp (h t qT) hR) (vz hp hR (ts:=ts) λx hx=>h x (rB _ hx)) (by omega);rw[sR,show 32*(ts.length+1)=32+32*ts.length by omega];exact z
theorem vR (hp:FP p)(hR:∀k∈l4,Rk p Dk Mk R k):∀{ts:List Tm},(∀t∈ts,T4 p D N t)->Lw p (D*pD Dk l4) (1910+ts.length) (32*ts.length) (jh p R ts)
 |[],_=>⟨0,by decide,by unfold B;exact Nat.pow_pos (by decide),λt ht=>(nomatch ht),λt ht=>(nomatch ht),yH _⟩
 |t::ts,h=>by
  have z:=Lw.app (Am hp (h t qT) hR).1 (vR hp hR (ts:=ts) λx hx=>h x (rB _ hx)) (by omega);rw[sR,show 32*(ts.length+1)=32+32*ts.length by omega];exact z
theorem ug (hp:FP p)(hD:0<D)(bD:B 290 D)(hR:∀k∈l4,Rk p Dk Mk R k)(h:∀t∈ts,T4 p D N t)(hl:ts.length<=6):Lv p 1920 192 (jh p R ts)/\Lv p 1920 192 (Bm p R ts):=by
 have d0:0<D*pD Dk l4:=HY hD (oU hR);have bd:B (1910+ts.length) (D*pD Dk l4):=(bD.mul (show B 761 (pD Dk l4) from CC hR)).mono (by omega);exact⟨((vR hp hR h).lv d0 bd).mono (by omega) (by omega),((vz hp hR h).lv d0 bd).mono (by omega) (by omega)⟩
end
noncomputable abbrev GP:Stmt:=aU (ba 31) 1
structure zY (K:Frag)(mg:Cw)(C:Addr):Prop where
 c:F2 K mg C
 isC:((clsIn K C).isSome&&typeIn K (.ref C)==some (.type "type"))=true
 ca:findIn K (.ref C) "__class__"=some (some (.builtin "object.__class__"))
 sp:specialIn K (.builtin "object.__class__") "__get__"=some (some (.builtin "getset_descriptor.__get__"))
 tk:takesIn K (.builtin "object.__class__")=some true
 ob:mroIn K C (.type "object")=some true
variable {K:Frag}{C:Addr}
theorem zY.ty {mg:Cw}(c:zY K mg C){p dx:Addr}{fs:List (Str×V)}(e:H p=some (.ins C dx fs)):zy K H (.ref p) (.ref C):=.of (.ins e c.c.cl c.ca c.sp c.tk c.ob)
theorem zY.is {mg:Cw}(c:zY K mg C):kitOne K (.ref C) (.ref C)=some true:=by
 unfold kitOne;rw[qk (by simp)]
theorem j8 :notFirst K C (.ref C)=true:=by unfold notFirst;simp
noncomputable def qd (t:Tm):D:=.tup [.tup (t.1.map D.int),.tup [.int t.2.1,.int t.2.2]]
theorem Az :∀ns:List Int,bz K H (ns.map D.int) (ns.map V.int)
 |[]=>by unfold bz;rfl
 |n::ns=>by
  show bz K H (.int n::ns.map D.int) (.int n::ns.map V.int);unfold bz;exact⟨_,_,rfl,(by unfold aQ;rfl),Az ns⟩
theorem Fl:∀ns:List Int,fK (ns.map D.int)=0
 |[]=>by simp[fK]
 |n::ns=>by rw[IZ];unfold fK;rw[Fl ns];simp[jz]
theorem CU {y:V}{t:Tm}(h:F4 H y t):aQ K H (qd t) y:=by
 obtain⟨a,pr,nu,rfl,ha,Jt,JB⟩:=h;unfold qd aQ;refine⟨a,_,rfl,bq.of ha,?_⟩;unfold bz;refine⟨_,_,rfl,(by unfold aQ;exact⟨pr,_,rfl,bq.of Jt,Az _⟩),?_⟩;unfold bz;refine⟨_,_,rfl,acD JB,?_⟩;unfold bz;rfl
theorem qg :∀{ys:List V}{ts:List Tm},bA H ys ts->bz K H (ts.map qd) ys
 |_,_,.nil=>by unfold bz;rfl
 |_,_,.cons (b:=t) h r=>by
  show bz K H (qd t::_) _;unfold bz;exact⟨_,_,rfl,CU h,qg r⟩
theorem u4:∀ts:List Tm,fK (ts.map qd)<=2
 |[]=>by unfold fK;decide
 |t::ts=>by
  show fK (qd t::ts.map qd)<=2;unfold fK;have:=u4 ts
  have h:jz (qd t)=2:=by
   unfold qd jz fK fK fK;rw[acG,show jz (.tup (t.1.map D.int))=1 from by unfold jz;rw[Fl]];rfl
  omega
noncomputable abbrev lE (ts:List Tm):D:=.lst (ts.map qd)
theorem qx {a:Addr}{ys:List V}{ts:List Tm}(e:H a=some (.lst ys))(h:bA H ys ts):aQ K H (lE ts) (.ref a):=by
 unfold aQ;exact⟨a,ys,rfl,a8.of e,qg h⟩
theorem A9 (ts:List Tm):jz (lE ts)<=32:=by
 unfold jz;have:=u4 ts;omega
variable {CF:Addr}
theorem xJ.same {H':Hp}{s:Addr}{p:Int}{ts:List Tm}(h:xJ C CF H s p ts)(k:aE H H'):xJ C CF H' s p ts:=by
 obtain⟨dx,fl,Jh,D,zs,h1,h2,h3,h4⟩:=h.ex;exact⟨dx,fl,Jh,D,zs,k _ _ h1,k _ _ h2,k _ _ h3,bA.keep h4 (aJ.of k)⟩
noncomputable def wd (K:Frag)(C CF:Addr):Sp:=λvs H Q _=>∃(s:Addr)(p:Int)(ts:List Tm)(y:V),vs=[.ref s,y]/\xJ C CF H s p ts /\
 ((∃s' p' YI,y=.ref s'/\xJ C CF H s' p' YI/\Q (.bl (decide (p=p')&&d6 (lE ts) (lE YI))) H)\/∃t,zy K H y t/\kitOne K t (.ref C)=some false/\Q (.bl false) H)
theorem GY:Eb xn xn (au GP):=dX (by decide +kernel)
theorem EM {fe:Addr}{Qb:GS}(F:FY K "__eq__" "Sum.__eq__" GP f fd)(c:zY K mg C)(cF:Fv K mg CF)(Jg:mg "isinstance"=none)
 (FE:xk P w K mg base (cI P w) 1 fe Qb xn (ER CF))(bE:L2.b8 K Qb xn [])(nE:findIn K (.ref CF) "__eq__"=some (some (.ref fe)))(iE:isFn K (.ref fe)=true):
 xk P w K mg base (cI P w) 2 f fd xn (wd K C CF):=by
 refine F.okN GY (λvs H Q E h=>?_) (λJi A outer s H vs Q E hr h=>?_)
 ·obtain⟨s,p,ts,y,rfl,_⟩:=h;rfl
 ·obtain⟨s0,p,ts,y,rfl,S,h⟩:=h;have Jp:A1 1 _:=hr.mono (by decide);refine⟨_,(az (aG (dH (aK bX (by rfl) Jg (by rfl) (ao (pv 1) (ao (d3 (by rfl) c.c.mgC (show aL (.ref C) (.ref C) from rfl)) ai rfl) rfl)) (dH (cN (ml nE iE FE Jp bE ae) (bh (pv 0) rfl) (bh (pv 1) rfl) (aM _)) (fk (cN (acM hr) (bh (pv 0) rfl) (bh (pv 1) rfl) (aM _))))))),?_⟩
  rcases h with⟨s1,p1,us,rfl,S1,q⟩|⟨t,ty,kt,q⟩
  ·obtain⟨dx,fl,Jh,Dd,zs,h1,h2,h3,h4⟩:=S.ex;obtain⟨LV,MB,KP,OS,Qc,g1,g2,g3,g4⟩:=S1.ex;refine⟨_,rfl,.ref s1,.ref C,_,_,_,rfl,rfl,c.ty g1,c.is,_,rfl,cA ?_⟩;refine⟨_,rfl,s0,C,dx,_,_,rfl,h1,c.c.cl,c.c.nF,rfl,_,rfl,s1,C,LV,_,_,rfl,g1,c.c.cl,c.c.nF,rfl,?_⟩;refine⟨fl,Jh,_,.ref CF,rfl,h2,cF.ty g2,j8,fl,Jh,p,.ref MB,rfl,h2,.inl ⟨MB,KP,p1,rfl,g2,_,rfl,_,rfl,?_⟩⟩
   have eb:(decide (p=p1) != false)=decide (p=p1):=by simp
   rw[eb]
   cases hb:decide (p=p1) with
   |false =>
    rw[hb,xt] at q;exact cu q
   |true =>
    rw[hb,Je] at q;refine cA ⟨_,rfl,s0,C,dx,_,_,rfl,h1,c.c.cl,c.c.nT,rfl,_,rfl,s1,C,LV,_,_,rfl,g1,c.c.cl,c.c.nT,rfl,?_⟩;refine⟨_,_,qx h3 h4,qx g3 g4,A9 _,?_⟩;simpa using q
  ·exact⟨_,rfl,y,.ref C,_,_,_,rfl,rfl,ty,kt,_,rfl,cu q⟩
noncomputable abbrev GK:Stmt:=(ba 29)
noncomputable def Ce:Sp:=λvs H Q _=>∃(a b:Addr)(ks ms:List Int),vs=[.ref a,.ref b]/\H a=some (.tup (ks.map V.int))/\H b=some (.tup (ms.map V.int))/\ks.Pairwise (· < ·)/\ms.Pairwise (· < ·)/\ks.length+ms.length<64 /\
 ∀c H',aE H H'->H' c=some (.tup ((mE (ks++ms)).map V.int))->Q (.ref c) H'
theorem Hi:Eb si si (au GK):=dX (by decide +kernel)
theorem DH (F:FY K "together" "together" GK f fd)(m_tuple:mg "tuple"=none)(Jn:mg "sorted"=none)(JY:mg "set"=none):xk P w K mg base (cI P w) 1 f fd si Ce:=by
 refine F.okN Hi (λvs H Q E h=>?_) (λJi A outer s H vs Q E hr h=>?_)
 ·obtain⟨a,b,ks,ms,rfl,_⟩:=h;rfl
 ·obtain⟨a,b,ks,ms,rfl,ha,hb,pk,pm,hl,q⟩:=h
  refine⟨_,(ar (bo (cz (iY (pv 0) (λ_=>rfl))) (az (aG (pv 1))) aI)
   (ar (bo (cz (iY (pv 1) (λ_=>rfl))) (az (aG (pv 0))) aI)
   (az (aG (eA dO (by rfl) m_tuple (by rfl) (ao (agA rfl (aH vG (pv 0) (pv 1)) rfl (by rfl) Jn (by rfl) JY) ai rfl)))))),?_⟩
  refine⟨_,rfl,!(ks.map V.int).isEmpty,.inr (.inl ⟨_,bq.of ha,rfl⟩),?_⟩
  cases ks with
  |nil =>
   refine cA ⟨_,rfl,q b H (aE.refl _) ?_⟩;rw[hb,<-uh pm (l:=[]++ms) λz=>Iff.rfl]
  |cons k ks =>
   refine cu ⟨_,rfl,!(ms.map V.int).isEmpty,.inr (.inl ⟨_,bq.of hb,rfl⟩),?_⟩
   cases ms with
   |nil =>
    refine cA ⟨_,rfl,q a H (aE.refl _) ?_⟩;rw[ha,<-uh pk (l:=(k::ks)++[]) λz=>by simp]
   |cons m ms =>
    refine cu ?_;refine⟨_,rfl,_,rfl,a,b,_,_,rfl,rfl,bq.of ha,bq.of hb,(by simp),Ig (show _<=64 by simp only[EZ];omega) (by decide),(λz=>by cases z),λ_ c hc=>?_⟩;refine⟨c,(k::ks)++(m::ms),rfl,.inr (bq.of (by rw[aj,Aq])),(by rw[zr];exact hl),λD us hD pw mem=>?_⟩;refine⟨D,_,rfl,.inl ⟨a8.of aj,λl KG=>q l _ (((av hc).trans (av hD)).trans (av KG)) ?_⟩⟩;rw[aj,uh pw mem]
noncomputable abbrev C6:Stmt:=aU (ba 31) 9
noncomputable abbrev Gc:Stmt:=aU (ba 31) 10
theorem iU {α β:Type}{R:α->β->Prop}:∀{l:List α}{m:List β}{l':List α}{m':List β},Paired R l m->Paired R l' m'->Paired R (l++l') (m++m')
 |_,_,_,_,.nil,h=>h
 |_,_,_,_,.cons a t,h=>.cons a (iU t h)
noncomputable def sX (C CF:Addr):Sp:=λvs H Q _=>∃(s s':Addr)(p p':Int)(a b:List Tm),vs=[.ref s,.ref s']/\xJ C CF H s p a/\xJ C CF H s' p' b/\Q (.bl (decide (p'=p))) H
noncomputable def yv (C CF UN:Addr):Sp:=λvs H Q E=>∃(s s':Addr)(p p':Int)(a b:List Tm),vs=[.ref s,.ref s']/\xJ C CF H s p a/\xJ C CF H s' p' b/\FP p/\a.length+b.length<4000 /\
 (p'=p->xh p (a++b)/\∀H' u,aE H H'->jg C CF H H' u p (tg p (a++b))->Q (.ref u) H')/\(p'≠p->E (.ref UN) none H)
theorem FH:Eb Bl Bl (au C6):=dX (by decide +kernel)
theorem Gm:Eb xn xn (au Gc):=dX (by decide +kernel)
theorem AH {UN:Addr}(F:FY K "plus" "Sum.plus" Gc f fd)(c:zY K mg C)(mU:mg "Unlike"=some (.ref UN))(qU:gB K UN um ik=true)
 (q1:Cm P w K mg base 2 Bl C "is_like" (sX C CF))
 (q0:Ca P w K mg base 8 qV "built" (gS C CF)):
 xk P w K mg base (cI P w) 9 f fd xn (yv C CF UN):=by
 obtain⟨fb,TZ,NH,NJ,NK,NL⟩:=q0;obtain⟨fl,Mt,Qd,Qe,Qf⟩:=q1;refine F.okE Gm (λvs H Q E h=>?_) (λJi A outer s H vs Q E hr h=>?_)
 ·obtain⟨s,s',p,p',a,b,rfl,_⟩:=h;rfl
 ·obtain⟨s0,s1,p,p',a,b,rfl,S,S1,hp,hl,q1,q2⟩:=h;have Kw:A1 8 _:=hr;have JD:A1 2 _:=Kw.mono (by decide)
  refine⟨_,(ar (bo (cz (cB (aR (pv 0) c.c.cl Qf Qd JD Qe .nil ae (ao (pv 1) ai rfl)))) (az (cU Bi qU rfl cy (by rfl) mU (ao eI ai rfl))) aI)
   (az (aG (aD NH Kw (by rfl) NK NL NJ .nil ae (ao (bh (pv 0) rfl) (ao (aH yS (bh (pv 0) rfl) (bh (pv 1) rfl)) ai rfl) rfl))))),?_⟩
  obtain⟨dx,Mf,Jh,Dd,zs,h1,h2,h3,h4⟩:=S.ex;obtain⟨LV,MB,KP,OS,Qc,g1,g2,g3,g4⟩:=S1.ex;refine⟨_,rfl,s0,dx,_,rfl,h1,rfl,_,rfl,s0,s1,p,p',a,b,rfl,S,S1,_,rfl,?_⟩
  by_cases e:p'=p
  ·rw[Iw e];obtain⟨G,q1⟩:=q1 e;refine cu ⟨_,rfl,s0,C,dx,_,_,rfl,h1,c.c.cl,c.c.nF,rfl,_,rfl,s0,C,dx,_,_,rfl,h1,c.c.cl,c.c.nT,rfl,_,rfl,s1,C,LV,_,_,rfl,g1,c.c.cl,c.c.nT,rfl,?_⟩;have z1:=h4.length;have z2:=g4.length;refine⟨Dd,OS,_,_,rfl,rfl,h3,g3,Ig (show _<=4000 by omega) (by decide),λl KG=>?_⟩;have s2:=av (o:=.lst (zs++Qc)) KG;exact⟨Mf,Jh,l,p,_,a++b,rfl,s2 _ _ h2,hp,aj,iU (bA.keep h4 (aJ.of s2)) (bA.keep g4 (aJ.of s2)),G,λH' u s3 hu=>q1 _ u (s2.trans s3) (hu.of s2)⟩
  ·rw[IA e];exact cA ⟨by decide,q2 e⟩
end K09
namespace L2
open PySem PySem.Spec PyProof.Rows
section
variable {prog:xq}{w:World}{A:Around}{R:Result->Shared->Prop}{s:pL}
theorem qP (elt:Expr)(g0:Comprehension)(target iter:Expr)(ifs:xB)(scope:Scope)(pos:Pos)(it acc:Value)(env:Env):
 compTurn (.ListComp elt [g0,⟨target,iter,ifs,0⟩] scope pos) 1 it acc env=(do
  standAt iter.pos
  match <-pyNext it with
  |none=>pure (.done .next)
  |some v=>do
   letOwnedTupleGo target it v
   assign target env v
   let ok <-forIn ifs true λc r=>if r=true then do let ok <-PySem.isTrue c env (eval c env);pure (ForInStep.yield ok) else pure (ForInStep.yield r)
   if ok=true then do
    let _ <-(do
     let x <-eval elt env
     let _ <-call (Value.builtin "list.append") [acc,x]
     pure ())
    again (.compLoop (.ListComp elt [g0,⟨target,iter,ifs,0⟩] scope pos) 1 it acc env)
   else again (.compLoop (.ListComp elt [g0,⟨target,iter,ifs,0⟩] scope pos) 1 it acc env)):=by
 unfold compTurn;rfl
theorem pe (elt t0 i0:Expr)(t1 i1:Expr)(LW if1:xB)(scope:Scope)(pos:Pos)(it acc:Value)(env:Env):
 compTurn (.ListComp elt [⟨t0,i0,LW,0⟩,⟨t1,i1,if1,0⟩] scope pos) 0 it acc env=(do
  standAt i0.pos
  match <-pyNext it with
  |none=>pure (.done .next)
  |some v=>do
   letOwnedTupleGo t0 it v
   assign t0 env v
   let ok <-forIn LW true λc r=>if r=true then do let ok <-PySem.isTrue c env (eval c env);pure (ForInStep.yield ok) else pure (ForInStep.yield r)
   if ok=true then do
    let x <-eval i1 env
    standAt i1.pos
    let x <-foldedSetIterable i1 env x
    let y <-holding [x] (pyIter x)
    let _ <-runOwn (.compStart (.ListComp elt [⟨t0,i0,LW,0⟩,⟨t1,i1,if1,0⟩] scope pos) 1 y acc env) env
    again (.compLoop (.ListComp elt [⟨t0,i0,LW,0⟩,⟨t1,i1,if1,0⟩] scope pos) 0 it acc env)
   else again (.compLoop (.ListComp elt [⟨t0,i0,LW,0⟩,⟨t1,i1,if1,0⟩] scope pos) 0 it acc env)):=by
 unfold compTurn;rfl
theorem rW {elt target iter:Expr}{g0:Comprehension}{ifs:xB}{scope:Scope}{pos:Pos}{it acc:Value}{env:Env}(I:Nat->Shared->Prop)
 (turn:∀n s,I n s->wpAny (model prog w) A (pyNext it) (λr s₁=>match r with
  |none=>R (.ok .next) s₁
  |some v=>wpAny (model prog w) A (letOwnedTupleGo target it v) (λ_ s₁=>wpAny (model prog w) A (assign target env v) (λ_ s₂ =>
   wpAny (model prog w) A (forIn ifs true λc r=>if r=true then do let ok <-isTrue c env (eval c env);pure (ForInStep.yield ok) else pure (ForInStep.yield r)) (λok s₃ =>
    if ok=true then wpAny (model prog w) A (eval elt env) (λx s₄ =>
     wpAny (model prog w) A (call (.builtin "list.append") [acc,x]) (λ_ s₅=>∃m,m<n/\I m s₅) (λ_ _=>False) s₄) (λ_ _=>False) s₃
    else ∃m,m<n/\I m s₃) (λ_ _=>False) s₂) (λ_ _=>False) s₁) (λ_ _=>False) s₁) (λ_ _=>False) s)
 (n:Nat)(h:I n s):
 codeAny (model prog w) A (.compLoop (.ListComp elt [g0,⟨target,iter,ifs,0⟩] scope pos) 1 it acc env) R s:=by
 refine codeAny_loop rfl I (λn s hI=>?_) n h;show wpAny _ A ((compTurn (.ListComp elt [g0,⟨target,iter,ifs,0⟩] scope pos) 1 it acc env).onRaise (λx=>do noteFrame x env;theTreesLotGoes x)) _ _ s;refine wpAny_noted ?_;rw[qP];refine IW (GW (IW (Ax (turn n s hI) (λr s₁ h₁=>?_) λ_ _ z=>False.elim z)))
 cases r with
 |none=>exact Fc h₁
 |some v =>
  refine IW (Ax h₁ (λ_ Ye Po=>?_) λ_ _ z=>False.elim z);refine IW (Ax Po (λ_ s₂ h₂=>IW (Ax h₂ (λok s₃ h₃=>?_) λ_ _ z=>False.elim z)) λ_ _ z=>False.elim z)
  cases ok with
  |false=>exact Fc ⟨rfl,h₃⟩
  |true =>
   exact IW (IW (Ax h₃ (λx s₄ h₄=>IW (Ax h₄ (λ_ s₅ h₅=>Fc (Fc ⟨rfl,h₅⟩)) λ_ _ z=>False.elim z)) λ_ _ z=>False.elim z))
theorem pC {elt t0 i0 t1 i1:Expr}{LW if1:xB}{scope:Scope}{pos:Pos}{it acc:Value}{env:Env}(I:Nat->Shared->Prop)(Qg:∀x,foldedSetIterable i1 env x=pure x)
 (turn:∀n s,I n s->wpAny (model prog w) A (pyNext it) (λr s₁=>match r with
  |none=>R (.ok .next) s₁
  |some v=>wpAny (model prog w) A (letOwnedTupleGo t0 it v) (λ_ s₁=>wpAny (model prog w) A (assign t0 env v) (λ_ s₂ =>
   wpAny (model prog w) A (forIn LW true λc r=>if r=true then do let ok <-isTrue c env (eval c env);pure (ForInStep.yield ok) else pure (ForInStep.yield r)) (λok s₃ =>
    if ok=true then wpAny (model prog w) A (eval i1 env) (λx s₄ =>
     wpAny (model prog w) A (holding [x] (pyIter x)) (λy s₅=>wpAny (model prog w) A (runOwn (.compStart (.ListComp elt [⟨t0,i0,LW,0⟩,⟨t1,i1,if1,0⟩] scope pos) 1 y acc env) env) (λ_ s₆=>∃m,m<n/\I m s₆) (λ_ _=>False) s₅) (λ_ _=>False) s₄) (λ_ _=>False) s₃
    else ∃m,m<n/\I m s₃) (λ_ _=>False) s₂) (λ_ _=>False) s₁) (λ_ _=>False) s₁) (λ_ _=>False) s)
 (n:Nat)(h:I n s):
 codeAny (model prog w) A (.compLoop (.ListComp elt [⟨t0,i0,LW,0⟩,⟨t1,i1,if1,0⟩] scope pos) 0 it acc env) R s:=by
 refine codeAny_loop rfl I (λn s hI=>?_) n h;show wpAny _ A ((compTurn (.ListComp elt [⟨t0,i0,LW,0⟩,⟨t1,i1,if1,0⟩] scope pos) 0 it acc env).onRaise (λx=>do noteFrame x env;theTreesLotGoes x)) _ _ s;refine wpAny_noted ?_;rw[pe];refine IW (GW (IW (Ax (turn n s hI) (λr s₁ h₁=>?_) λ_ _ z=>False.elim z)))
 cases r with
 |none=>exact Fc h₁
 |some v =>
  refine IW (Ax h₁ (λ_ Ye Po=>?_) λ_ _ z=>False.elim z);refine IW (Ax Po (λ_ s₂ h₂=>IW (Ax h₂ (λok s₃ h₃=>?_) λ_ _ z=>False.elim z)) λ_ _ z=>False.elim z)
  cases ok with
  |false=>exact Fc ⟨rfl,h₃⟩
  |true =>
   refine IW (Ax h₃ (λx s₄ h₄=>?_) λ_ _ z=>False.elim z);refine IW (GW ?_);rw[Qg];refine IW (Fc ?_);exact IW (Ax h₄ (λy s₅ h₅=>IW (Ax h₅ (λ_ s₆ h₆=>Fc ⟨rfl,h₆⟩) λ_ _ z=>False.elim z)) λ_ _ z=>False.elim z)
theorem gJ {elt target iter g0 ifs scope pos it acc env}
 (h0:codeAny (model prog w) A (.compLoop (.ListComp elt [g0,⟨target,iter,ifs,0⟩] scope pos) 1 it acc env) R s)
 (h:wpAny (model prog w) A (pyIter it) (λVr s'=>codeAny (model prog w) A (.compLoop (.ListComp elt [g0,⟨target,iter,ifs,0⟩] scope pos) 1 Vr acc env) R s')
  (notedBy (model prog w) A env λx s'=>R (.error x) s') s):
 codeAny (model prog w) A (.compStart (.ListComp elt [g0,⟨target,iter,ifs,0⟩] scope pos) 1 it acc env) R s:=by
 refine codeAny_of_tree ?_;show wpAny _ _ ((compStart (.ListComp elt [g0,⟨target,iter,ifs,0⟩] scope pos) 1 it acc env).onRaise (λx=>do noteFrame x env;standAt theWindowsPlace)) _ _ s;refine wpAny_notedAt ?_;unfold compStart;show wpAny _ _ (ask>>=_) _ _ s;refine IW (zC (wpAny_ite ?_))
 split
 ·first
   |exact IW (Fc (Fc (And.intro rfl h0)))
   |exact Fc (And.intro rfl h0)
 ·first
   |exact IW (qK (IW (GW (IW (Ax h (λVr s' h'=>Fc (And.intro rfl h')) λ_ _ x=>x)))))
   |(refine IW (qK ?_);show wpAny _ _ (standAt iter.pos>>=_) _ _ s;exact IW (GW (IW (Ax h (λVr s' h'=>Fc (And.intro rfl h')) λ_ _ x=>x))))
end
variable {te:TE}
section
variable {X:Cx}{tg iter elt MC JE:Expr}{ifs KQ:xB}{scope osc:Scope}{pos:Pos}{N:F3}{nl:Nat}{js:List Nat}
noncomputable def Gz (J:It)(g:TG)(tt:TT)(te:TE)(W:Nat->Nat->List V->St->Hp->Prop)(Fin:List V->St->Hp->Prop):Prop :=
 ∀i m xs σ' H',W i m xs σ' H'->xs.length<sizeLine/\((J.stop i H'/\Fin xs σ' H') \/
  (J.go i H'/\∀x H2,J.yld i H' x H2->g x σ' H2 λσ3 H3=>tt σ3 H3 λb H4 =>
   if b=true then te σ3 H4 λy H5=>∃m',m'<m/\W (i+1) m' (xs++[y]) σ3 H5 else ∃m',m'<m/\W (i+1) m' xs σ3 H4))
noncomputable def ux (J:It)(g:TG)(tt:TT)(wi1:TI)(g1:TG)(Mg:TT)(te:TE)(W:Nat->Nat->List V->St->Hp->Prop)(Fin:List V->Hp->Prop):Prop :=
 ∀i m xs σ' H',W i m xs σ' H'->xs.length<sizeLine/\((J.stop i H'/\Fin xs H') \/
  (J.go i H'/\∀x H2,J.yld i H' x H2->g x σ' H2 λσ3 H3=>tt σ3 H3 λb H4 =>
   if b=true then wi1 σ3 H4 λJ1 H5=>∃W1:Nat->Nat->List V->St->Hp->Prop,(∃m1,W1 0 m1 xs σ3 H5)/\Gz J1 g1 Mg te W1 λys σ6 H6=>∃m',m'<m/\W (i+1) m' ys σ6 H6
   else ∃m',m'<m/\W (i+1) m' xs σ3 H4))
theorem rE {pins:List (Addr×Obj)}{σ:St}{H:Hp}{s:pL}{J:It}{it:Addr}{fp:List Addr}{tn:Nat->Heap->Prop}{g g1:TG}{tt Mg:TT}{wi1:TI}{W:Nat->Nat->List V->St->Hp->Prop}{Fin:List V->Hp->Prop}
 {E:AU}{RR:Value->Addr->Result->Shared->Prop}
 (S:sM X N nl js osc scope)(hc:X.calm=true)(hg:∀C fp s H,PG (cS X N scope C fp s H) tg g)(ht:∀C fp s H,Bd (cS X N scope C fp s H) ifs tt)(Vs:∀C fp s H,PI (cS X N scope C fp s H) MC JE wi1)(Vt:∀C fp s H,PG (cS X N scope C fp s H) MC g1)(KH:∀C fp s H,Bd (cS X N scope C fp s H) KQ Mg)(he:∀C fp s H,PE (cS X N scope C fp s H) elt te)
 (I:Inv X pins σ H s)(T:Turn X.prog X.w X.K tg J fp it tn)(st:tn 0 s.heap)(f:∀b∈fp,c4 X pins H b)(w0:∃m,W 0 m [] (σC nl js σ) H)(hW:ux J g tt wi1 g1 Mg te W Fin)(NG:∀env x,foldedSetIterable JE env x=pure x)
 (UR:∀(D C:Addr)(H':Hp)(s':pL)(xs:List V)(m:Cw),Inv X pins σ (upd H' D (.lst xs)) s'->H' D=none->s'.heap.Ns C m->c4 X pins (upd H' D (.lst xs)) C->Fin xs H'->RR (.ref D) C (.ok .next) s'):
 wpAny (model X.prog X.w) X.A (newList []) (λacc s₃=>wpAny (model X.prog X.w) X.A (newFunctionEnv scope X.env.globals (eO scope.names X.env) [] X.env.qual none .none (some X.env)) (λLi s₄ =>
  codeAny (model X.prog X.w) X.A (.compStart (.ListComp elt [⟨tg,iter,ifs,0⟩,⟨MC,JE,KQ,0⟩] scope pos) 0 (.ref it) acc {Li with scope:=relabel scope X.env}) (RR acc Li.locals) s₄) E s₃) E s:=by
 have L8:∀b∈fp,b<s.heap.objs.size:=λb hb=>by
  obtain⟨o,e,_⟩:=T.obj 0 _ st b hb;exact Ep e
 refine Bf (wpAny_newFunctionEnv S.cell (by intro y hy;simp at hy) (λh₁ Kt J0=>?_) S.kind);dsimp only at Kt J0 |-;generalize Nj:s.heap.push {cls:=.type "list",dict:=none,data:=.seq ([]:HF).toArray}=H2 at Kt J0 |-
 have hC:H2.objs.size=s.heap.objs.size+1:=by rw[<-Nj,B5]
 have LP:s.heap.objs.size≠H2.objs.size:=by rw[hC];exact IB (Fd _)
 have below:∀b,b<s.heap.objs.size->b≠H2.objs.size/\b≠s.heap.objs.size:=λb hb=>⟨by rw[hC];exact IB (sS hb),IB hb⟩;have old:∀b o,s.heap.get? b=some o->h₁.get? b=some o:=λb o e=>J0.extBut b o (below b (Ep e)).1 (Ez _ (Nj▸Ez _ e));have Nl:h₁.get? s.heap.objs.size=some {cls:=.type "list",data:=.seq ([]:HF).toArray 0}:=J0.extBut _ _ LP (Ez _ (Nj▸Fg _ rfl))
 have Lj:s.heap.objs.size<=H2.objs.size:=by rw[hC];exact Ja _
 have JJ:∀y∈scope.names,y.2=.free->∃c,X.env.cells.lookup y.1=some c:=λy hy hf=>by
  have z:=S.free y hy hf;rw[<-S.out] at z;exact I.ok.has y.1 z
 have sub:∀x c,(eO scope.names X.env).lookup x=some c->X.env.cells.lookup x=some c:=λx c e=>lY JJ e
 have US:∀x c,(eO scope.names X.env).lookup x=some c->c<s.heap.objs.size:=λx c e=>by
  obtain⟨v,q⟩:=I.cell x c (sub x c e);exact q.lt
 have Ni:∀b∈fp,b∉eQ X.stack:=λb hb z=>by
  rcases HK.mp (I.af0 b z) with q|q
  ·exact(f b hb).2.1 q
  ·exact(f b hb).2.2.1 q
 have OF:s.heap.objs.size∉eQ X.stack:=λz=>by
  rcases HK.mp (I.af0 _ z) with q|q
  ·exact absurd I.lt (by rw[<-q];exact GH _)
  ·exact I.ai4 (yH _) q
 have Pp:s.heap.objs.size∉fp:=λz=>GH _ (L8 _ z)
 have Nn:∀{H':Hp}{ob:Obj},(∀b∈fp,H' b=none)->∀b∈fp,c4 (cS X N scope H2.objs.size fp s H) [(s.heap.objs.size,ob)] H' b:=λ{H' ob} hn b hb =>
  ⟨hn b hb,(below b (L8 b hb)).1,Ni b hb,.inl hb,λx c e=>(f b hb).2.2.2.2.1 x c (sub x c e),λp hp z=>by
   have e:p=(s.heap.objs.size,ob):=by
    have:p∈[(s.heap.objs.size,ob)]:=hp;simpa using this
   subst e
   exact Pp (by rw[show s.heap.objs.size=b from z];exact hb)⟩
 have UT:∀{H':Hp},H' s.heap.objs.size=none->c4 (cS X N scope H2.objs.size fp s H) [] H' s.heap.objs.size:=λ{H'} hn =>
  ⟨hn,LP,OF,.inr (yH _),λx c e=>IB (US x c e),λp hp=>absurd (show p∈([]:List (Addr×Obj)) from hp) (by simp)⟩
 have L9:∀{σ':St}{H':Hp}{s':pL}{ys:HF}{k:Nat},Inv (cS X N scope H2.objs.size fp s H) [] σ' H' s'->H' s.heap.objs.size=none->s'.heap.get? s.heap.objs.size=some (iF ys k) →
  Inv (cS X N scope H2.objs.size fp s H) [(s.heap.objs.size,iF ys k)] σ' H' s':=λ{σ' H' s' ys k} I' hn hl=>I'.afO λp hp=>by
  have e:p=(s.heap.objs.size,iF ys k):=by simpa using hp
  subst e;exact⟨hl,hn,LP,OF,λv z=>by cases z⟩
 have md:∀s₃:Shared,s₃={s with heap:=h₁,toks:=s.toks+([]:List (Str×Value)).length} →
  codeAny (model X.prog X.w) X.A (.compLoop (.ListComp elt [⟨tg,iter,ifs,0⟩,⟨MC,JE,KQ,0⟩] scope pos) 0 (.ref it) (.ref s.heap.objs.size) (compEnvC scope (eO scope.names X.env) H2.objs.size X.env))
   (RR (.ref s.heap.objs.size) H2.objs.size) s₃:=by
  rintro s₃ rfl;obtain⟨m0,w0⟩:=w0;have I0:Inv (cS X N scope H2.objs.size fp s H) [] (σC nl js σ) H {s with heap:=h₁,toks:=s.toks+([]:List (Str×Value)).length}:=oj S I f L8 Lj old Kt
  refine pC (λn s'=>∃i σ' H' xs ys k,Inv (cS X N scope H2.objs.size fp s H) [(s.heap.objs.size,iF ys k)] σ' H' s'/\tn i s'.heap/\(∀b∈fp,H' b=none)/\aN xs ys/\W i n xs σ' H') (NG _) ?_ m0
   ⟨0,σC nl js σ,H,[],[],0,L9 I0 (I.hok.fresh (yH _)) Nl,T.keep _ _ _ st λb _ o e=>old b o e,λb hb=>(f b hb).1,.nil,w0⟩
  rintro n s' ⟨i,σ',H',xs,ys,k,I',JW,Pq,rv,w'⟩;obtain⟨hz,hw⟩:=hW i n xs σ' H' w'
  rcases hw with⟨stop,fin⟩|⟨go,step⟩
  ·refine Ax (T.done (cS X N scope H2.objs.size fp s H) rfl rfl rfl hc i _ s' σ' H' (λ_ _=>False) I' (Nn Pq) JW stop) (λr s1 z'=>?_) λ_ _ z=>z;obtain⟨hr,I1⟩:=z';subst hr;obtain⟨p1,p2,_⟩:=I1.pin (s.heap.objs.size,iF ys k) (by show _∈([]:List (Addr×Obj))++[_];simp);have u1:Un (eQ X.stack) fp H H' s.heap s1.heap:=I1.base
   have u2:Un (eQ X.stack) fp H (upd H' s.heap.objs.size (.lst xs)) s.heap s1.heap:=⟨u1.keep,u1.slot,λb o e n hx=>by rw[aA (IB (Ep e))];exact u1.free b o e n hx,u1.there,
    λb zs e=>by rw[aA (aB (u1.afT b zs e) p2)];exact u1.afT b zs e,λb o zs e=>by rw[aA (aB (u1.afR b o zs e) p2)];exact u1.afR b o zs e,λb ps e=>by
     obtain⟨mo,q⟩:=u1.af5 b ps e
     exact⟨mo,by rw[aA (aB q p2)];exact q⟩⟩
   have hk:gk X.prog X.w (upd H' s.heap.objs.size (.lst xs)) s1.heap:=d9 I1.hok p2 ⟨xx hz,ys,k,rv,p1⟩;have I3:Inv X pins σ (upd H' s.heap.objs.size (.lst xs)) s1:=I.aiO I1.os u2 hk I1.bare λb hb=>⟨(f b hb).2.2.2.1,(f b hb).2.1,(f b hb).2.2.2.2.1,(f b hb).2.2.2.2.2⟩;obtain⟨mm,UU,_⟩:=I1.loc
   have UW:upd H' s.heap.objs.size (.lst xs) H2.objs.size=none:=by rw[aA (Bt LP)];exact I1.free
   exact UR _ _ H' s1 xs mm I3 p2 UU (I.agx Lj UW) fin
  ·refine Ax (T.item (cS X N scope H2.objs.size fp s H) rfl rfl rfl hc i _ s' σ' H' (λ_ _=>False) I' (Nn Pq) JW go) (λr s1 z'=>?_) λ_ _ z=>z;obtain⟨u,hr,h4⟩:=z';subst hr;refine Ax h4 (λ_ s2 z'=>?_) λ_ _ z=>z;obtain⟨x,Pr,I2,r2,y2,Kr,UX⟩:=z';have UY:=I2.pinned (Nn UX) (T.obj _ _ Kr);refine Ax (hg _ _ _ _ _ s2 σ' Pr x u _ UY r2 (step x Pr y2)) (λ_ s3 z'=>?_) λ_ _ z=>z;obtain⟨σ3,H3,I3,q3⟩:=z';refine Ax (ht _ _ _ _ _ s3 σ3 H3 _ I3 q3) (λok s4 z'=>?_) λ_ _ z=>z;obtain⟨H4,I4,q4⟩:=z'
   have Ly:∀{s5:pL}{H5:Hp}{σ5:St}{YJ:HF}{k5:Nat},Inv (cS X N scope H2.objs.size fp s H) ([(s.heap.objs.size,iF YJ k5)]++dI fp s2.heap) σ5 H5 s5->tn (i+1) s5.heap/\∀b∈fp,H5 b=none:=λ{s5 H5 σ5 YJ k5} I5 =>
    ⟨T.keep _ _ _ Kr λb hb o e=>(I5.pin (b,o) (Io _ (Io _ (cT hb e)))).1,λb hb=>by
     obtain⟨o,e,d⟩:=T.obj _ _ Kr b hb
     exact(I5.pin (b,o) (Io _ (Io _ (cT hb e)))).2.1⟩
   cases ok with
   |false =>
    rw[IX E7] at q4 |-;obtain⟨m',hm,w4⟩:=q4;exact⟨m',hm,i+1,σ3,H4,xs,ys,k,I4.afK,(Ly I4).1,(Ly I4).2,rv,w4⟩
   |true =>
    rw[qk rfl] at q4 |-;refine Ax (Vs _ _ _ _ _ s4 σ3 H4 _ I4 q4) (λv s5 h5=>BV (Ax h5 (λOy s6 h6=>?_) λ_ _ z=>z)) λ_ _ z=>z;obtain⟨it1,OT,YK,J1,H6,e,I6,T1,YL,f6,W1,⟨m1,w1⟩,hW1⟩:=h6;subst e;have pl:∀{s7:pL}{H7:Hp}{σ7:St}{Kp:HF}{k7:Nat},Inv (cS X N scope H2.objs.size fp s H) ([(s.heap.objs.size,iF Kp k7)]++dI fp s2.heap) σ7 H7 s7->∀p∈dI fp s2.heap,s7.heap.get? p.1=some p.2/\H7 p.1=none/\p.1≠H2.objs.size/\p.1∉eQ X.stack/\∀v,p.2.data≠.cell v:=λI7 p hp=>I7.pin p (Io _ (Io _ hp))
    have Vu:∀{H7:Hp}{Kp:HF}{k7:Nat},(∀b∈OT,H7 b=none)->∀b∈OT,c4 (cS X N scope H2.objs.size fp s H) ([(s.heap.objs.size,iF Kp k7)]++dI fp s2.heap) H7 b:=λ{H7 Kp k7} hn b hb=>by
     obtain⟨g0,PL,g2,g3,g4,g5⟩:=f6 b hb;refine⟨hn b hb,PL,g2,g3,g4,λp hp=>?_⟩
     rcases tH.mp (show p∈[(s.heap.objs.size,iF Kp k7)]++dI fp s2.heap from hp) with z|z
     ·have e:p=(s.heap.objs.size,iF Kp k7):=by simpa using z
      subst e;exact g5 (s.heap.objs.size,iF ys k) (Io _ (A6 _ (by simp)))
     ·exact g5 p (Io _ (Io _ z))
    refine wpAny_runOwn ?_;show codeAny _ X.A _ _ s6
    have MD:codeAny (model X.prog X.w) X.A (.compLoop (.ListComp elt [⟨tg,iter,ifs,0⟩,⟨MC,JE,KQ,0⟩] scope pos) 1 (.ref it1) (.ref s.heap.objs.size) (compEnvC scope (eO scope.names X.env) H2.objs.size X.env))
     (λr s'=>match r with
      | .ok f=>∃m,m<n/\∃i σ' H' xs ys k,Inv (cS X N scope H2.objs.size fp s H) [(s.heap.objs.size,iF ys k)] σ' H' s'/\tn i s'.heap/\(∀b∈fp,H' b=none)/\aN xs ys/\W i m xs σ' H'
      | .error e=>cameBackBy (model X.prog X.w) X.A (compEnvC scope (eO scope.names X.env) H2.objs.size X.env) (λ_ _=>False) e s') s6:=by
     refine rW (λn' s'=>∃j σ' H' YM YN k',Inv (cS X N scope H2.objs.size fp s H) ([(s.heap.objs.size,iF YN k')]++dI fp s2.heap) σ' H' s'/\YK j s'.heap/\(∀b∈OT,H' b=none)/\aN YM YN/\W1 j n' YM σ' H') ?_ m1
      ⟨0,σ3,H6,xs,ys,k,I6,YL,λb hb=>(f6 b hb).1,rv,w1⟩
     rintro n' s7 ⟨j,σ7,H7,T2,Kp,k7,I7,YO,YQ,T3,w7⟩;obtain⟨hz7,hw7⟩:=hW1 j n' T2 σ7 H7 w7
     rcases hw7 with⟨stop,m',hm,fin⟩|⟨go,step⟩
     ·refine Ax (T1.done (cS X N scope H2.objs.size fp s H) rfl rfl rfl hc j _ s7 σ7 H7 (λ_ _=>False) I7 (Vu YQ) YO stop) (λr s8 z'=>?_) λ_ _ z=>z;obtain⟨hr,I8⟩:=z';subst hr;have bk:=Ly I8;exact⟨m',hm,i+1,σ7,H7,T2,Kp,k7,I8.afK,bk.1,bk.2,T3,fin⟩
     ·refine Ax (T1.item (cS X N scope H2.objs.size fp s H) rfl rfl rfl hc j _ s7 σ7 H7 (λ_ _=>False) I7 (Vu YQ) YO go) (λr s8 z'=>?_) λ_ _ z=>z;obtain⟨u8,hr,h8⟩:=z';subst hr;refine Ax h8 (λ_ s9 z'=>?_) λ_ _ z=>z;obtain⟨x9,H9,I9,r9,y9,Vv,fr9⟩:=z';have I9':=I9.pinned (Vu fr9) (T1.obj _ _ Vv);refine Ax (Vt _ _ _ _ _ s9 σ7 H9 x9 u8 _ I9' r9 (step x9 H9 y9)) (λ_ sa z'=>?_) λ_ _ z=>z;obtain⟨σa,Ha,Ia,qa⟩:=z';refine Ax (KH _ _ _ _ _ sa σa Ha _ Ia qa) (λok sb z'=>?_) λ_ _ z=>z;obtain⟨Hb,Ib,qb⟩:=z'
      have Lz:∀{sc:pL}{Hc:Hp},Inv (cS X N scope H2.objs.size fp s H) (([(s.heap.objs.size,iF Kp k7)]++dI fp s2.heap)++dI OT s9.heap) σa Hc sc->YK (j+1) sc.heap/\∀b∈OT,Hc b=none:=λ{sc Hc} Ic =>
       ⟨T1.keep _ _ _ Vv λb hb o e=>(Ic.pin (b,o) (Io _ (Io _ (cT hb e)))).1,λb hb=>by
        obtain⟨o,e,d⟩:=T1.obj _ _ Vv b hb
        exact(Ic.pin (b,o) (Io _ (Io _ (cT hb e)))).2.1⟩
      cases ok with
      |false =>
       rw[IX E7] at qb |-;obtain⟨m',hm,wb⟩:=qb;exact⟨m',hm,j+1,σa,Hb,T2,Kp,k7,Ib.afK,(Lz Ib).1,(Lz Ib).2,T3,wb⟩
      |true =>
       rw[qk rfl] at qb |-;refine Ax (he _ _ _ _ _ sb σa Hb _ Ib qb) (λvc sc z'=>?_) λ_ _ z=>z;obtain⟨yc,Hc,Ic,rc,m',hm,wc⟩:=z';obtain⟨stc,frc⟩:=Lz Ic;have Id:=Ic.afK;obtain⟨p1,p2,_⟩:=Id.pin (s.heap.objs.size,iF Kp k7) (Io _ (A6 _ (by simp)));have df1:s.heap.objs.size∉OT:=λhb=>(f6 _ hb).2.2.2.2.2 (s.heap.objs.size,iF ys k) (Io _ (A6 _ (by simp))) rfl;refine append_at (its:=Kp.toArray) p1 (λh' Mo hD=>?_) (by rw[Jc,<-T3.length];exact xx hz7);have I10:Inv (cS X N scope H2.objs.size fp s H) [] σa Hc {sc with heap:=h'}:=cY (Id.afO (pins':=[]) λp hp=>absurd hp (by simp)) (UT p2) Mo
       have Ny:h'.get? s.heap.objs.size=some (iF (Kp++[vc]) (k7+1)):=by
        rw[hD];show some _=some (iF (Kp++[vc]) (k7+1));rw[iF,<-List.push_toArray]
       refine⟨m',hm,j+1,σa,Hc,T2++[yc],Kp++[vc],k7+1,I10.afO λp hp=>?_,T1.keep _ _ _ stc λb hb o e=>(Mo.2 b λz=>df1 (z▸hb)).trans e,frc,T3.append (.cons rc .nil),wc⟩
       rcases tH.mp hp with z|z
       ·have e:p=(s.heap.objs.size,iF (Kp++[vc]) (k7+1)):=by simpa using z
        subst e;exact⟨Ny,p2,LP,OF,λv z=>by cases z⟩
       ·obtain⟨a1,a2,a3,a4,a5⟩:=pl Id p z;exact⟨(Mo.2 p.1 λe=>Pp (e▸(og z).1)).trans a1,a2,a3,a4,a5⟩
    exact gJ MD (T1.self X.A 0 _ _ _ YL MD)
 exact codeAny_compStart_list (md _ rfl) (T.self X.A 0 _ _ _ (T.keep _ _ _ st λb _ o e=>old b o e) (md _ rfl))
noncomputable def DM (wi:TI)(g:TG)(tt:TT)(wi1:TI)(g1:TG)(Mg:TT)(te:TE)(nl:Nat)(js:List Nat):TE:=λσ H Q=>wi σ H λJ H1 =>
 ∃W:Nat->Nat->List V->St->Hp->Prop,(∃m,W 0 m [] (σC nl js σ) H1)/\ux J g tt wi1 g1 Mg te W λxs H'=>∀D,H' D=none->Q (.ref D) (upd H' D (.lst xs))
theorem yU {wi wi1:TI}{g g1:TG}{tt Mg:TT}(S:sM X N nl js osc scope)(hc:X.calm=true)(hi:PI X tg iter wi)(hg:∀C fp s H,PG (cS X N scope C fp s H) tg g)(ht:∀C fp s H,Bd (cS X N scope C fp s H) ifs tt)
 (Vs:∀C fp s H,PI (cS X N scope C fp s H) MC JE wi1)(Vt:∀C fp s H,PG (cS X N scope C fp s H) MC g1)(KH:∀C fp s H,Bd (cS X N scope C fp s H) KQ Mg)
 (he:∀C fp s H,PE (cS X N scope C fp s H) elt te)(hs:∀x,foldedSetIterable iter X.env x=pure x:=by intro _;rfl)(NG:∀env x,foldedSetIterable JE env x=pure x:=by intro _ _;rfl):
 PE X (.ListComp elt [⟨tg,iter,ifs,0⟩,⟨MC,JE,KQ,0⟩] scope pos) (DM wi g tt wi1 g1 Mg te nl js):=by
 intro pins s σ H Q I h;rw[eval_ListComp];refine yl (use:=none) rfl hs (ib S I) S.kind S.names (cx (hi pins s σ H _ I h) λv s1 h1=>cx h1 λOy s2 h2=>?_);obtain⟨it,fp,tn,J,H2,e,I2,T,Kr,f2,W,w0,hW⟩:=h2;subst e;refine rE (RR:=λacc C=>compPost (model X.prog X.w) X.A X.xe none (EP X pins σ Q) acc C) S hc hg ht Vs Vt KH he I2 T Kr f2 w0 hW NG ?_;intro D C H' s' xs m I3 hD hn fC fin;exact⟨m,hn,λh' sb=>⟨.ref D,_,cY I3 fC sb,rfl,fin D hD⟩⟩
end
theorem F1 {K:PySem.W.Frag}{a a1:Addr}{xs xs1:List V}{wi1:TI}{rest:St}{H:Hp}{F:List V->Hp->Prop}(Pv:Nat->List V->Hp->Prop)(Pw:Nat->V->V->Nat->List V->Hp->Prop)(h0:Pv 0 [] H)
 (hz:∀i ys H',i<=xs.length->Pv i ys H'->ys.length<sizeLine/\a8 K H' a xs)
 (hs:∀i x ys H',i<xs.length->xs[i]?=some x->Pv i ys H'->∃b u v,x=.ref b/\bq K H' b [u,v]/\Pw i u v 0 ys H'/\∀o2 o3 R,R (BJ K a1) H'->wi1 (some u::some v::o2::o3::rest) H' R)
 (LR:∀i u v j ys H',i<xs.length->j<=xs1.length->Pw i u v j ys H'->ys.length<sizeLine/\a8 K H' a1 xs1)
 (Vo:∀i u v j x ys H',i<xs.length->j<xs1.length->xs1[j]?=some x->Pw i u v j ys H'->∃b u' v',x=.ref b/\bq K H' b [u',v'] /\
  ∀(N:List V->Hp->Prop),(∀zs H5,Pw i u v (j+1) zs H5->N zs H5)->te (some u::some v::some u'::some v'::rest) H' λy H5=>N (ys++[y]) H5)
 (he1:∀i u v ys H',i<xs.length->Pw i u v xs1.length ys H'->Pv (i+1) ys H')
 (hd:∀ys H',Pv xs.length ys H'->F ys H'):
 ∃W:Nat->Nat->List V->St->Hp->Prop,(∃m,W 0 m [] (none::none::none::none::rest) H)/\ux (BJ K a) (jM K 2 (cV (bK 0) (cV (bK 1) Iu))) oZ wi1 (jM K 2 (cV (bK 2) (cV (bK 3) Iu))) oZ te W F:=by
 refine⟨λi m ys σ H'=>m=xs.length-i/\i<=xs.length/\Pv i ys H'/\∃o o1 o2 o3,σ=o::o1::o2::o3::rest,⟨xs.length,by simp,Gy _,h0,none,none,none,none,rfl⟩,?_⟩;rintro i m ys σ H' ⟨rfl,hi,p,o,o1,o2,o3,rfl⟩;obtain⟨z1,z2⟩:=hz i ys H' hi p;refine⟨z1,?_⟩
 by_cases Jk:i<xs.length
 ·refine .inr ⟨⟨xs,xs[i],z2,by simp[Jk]⟩,λx H2 hy=>?_⟩;obtain⟨rfl,hx⟩:=hy;obtain⟨b,u,v,rfl,hb,pw,h⟩:=hs i x ys H2 Jk (hx xs z2) p;refine⟨_,[u,v],rfl,hb,rfl,_,_,rfl,_,_,rfl,rfl,?_⟩;refine ir (h _ _ _ ⟨λj m ys σ H'=>m=xs1.length-j/\j<=xs1.length/\Pw i u v j ys H'/\∃o2 o3,σ=some u::some v::o2::o3::rest,⟨xs1.length,by simp,Gy _,pw,_,_,rfl⟩,?_⟩);rintro j m ys σ H' ⟨rfl,hj,p,o2,o3,rfl⟩;obtain⟨z1,z2⟩:=LR i u v j ys H' Jk hj p;refine⟨z1,?_⟩
  by_cases Lp:j<xs1.length
  ·refine .inr ⟨⟨xs1,xs1[j],z2,by simp[Lp]⟩,λx H2 hy=>?_⟩;obtain⟨rfl,hx⟩:=hy;obtain⟨b,u',v',rfl,hb,h⟩:=Vo i u v j x ys H2 Jk Lp (hx xs1 z2) p;refine⟨_,[u',v'],rfl,hb,rfl,_,_,rfl,_,_,rfl,rfl,?_⟩;exact ir (h (λzs H5=>∃m',m'<xs1.length-j/\m'=xs1.length-(j+1)/\j+1<=xs1.length/\Pw i u v (j+1) zs H5/\∃o2 o3,(some u::some v::some u'::some v'::rest:St)=some u::some v::o2::o3::rest) λzs H5 h=>⟨xs1.length-(j+1),by omega,rfl,Lp,h,_,_,rfl⟩)
  ·have:j=xs1.length:=by omega
   subst this;exact .inl ⟨⟨xs1,z2,yH _⟩,xs.length-(i+1),by omega,rfl,Jk,he1 i u v ys H' Jk p,_,_,_,_,rfl⟩
 ·have:i=xs.length:=by omega
  subst this;exact .inl ⟨⟨xs,z2,yH _⟩,hd ys H' p⟩
end L2
namespace K09
open PySem L2 PySem.W Nm Srt
noncomputable abbrev FF:Stmt:=aU (ba 31) 11
noncomputable def qJ (C CF UN:Addr):Sp:=λvs H Q E=>∃(s s':Addr)(p p':Int)(a b:List Tm),vs=[.ref s,.ref s']/\xJ C CF H s p a/\xJ C CF H s' p' b/\FP p/\a.length*b.length<4000 /\
 (∀t∈a,Gn p 4000 t.2/\HX t)/\(p'=p->(∀t∈b,Gn p 4000 t.2/\HX t)/\xh p (dh p a b)/\∀H' u,aE H H'->jg C CF H H' u p (tg p (dh p a b))->Q (.ref u) H')/\(p'≠p->E (.ref UN) none H)
theorem DD:Eb ["self","other","field"] xn (au FF):=dX (by decide +kernel)
variable {P:xq}{w:World}{K:PySem.W.Frag}{mg:Cw}{base:Heap}
variable {f C CF:Addr}{fd:GS}
set_option maxHeartbeats 1000000 in
theorem wC {UN:Addr}(F:FY K "times" "Sum.times" FF f fd)(c:zY K mg C)(cF:Fv K mg CF)(mU:mg "Unlike"=some (.ref UN))(qU:gB K UN um ik=true)
 (q2:Cm P w K mg base 2 Bl C "is_like" (sX C CF))
 (q0:Ca P w K mg base 1 si "together" Ce)
 (q3:Cm P w K mg base 4 AY CF "times" (oo CF hZ))
 (q1:Ca P w K mg base 8 qV "built" (gS C CF)):
 xk P w K mg base (cI P w) 9 f fd xn (qJ C CF UN):=by
 obtain⟨fo,TQ,FTo,bTo,mTo,kTo⟩:=q0;obtain⟨fb,TZ,NH,NJ,NK,NL⟩:=q1;obtain⟨fl,Mt,Qd,Qe,Qf⟩:=q2;obtain⟨ft,Nt,K3,K4,K5⟩:=q3;refine F.okE DD (λvs H Q E h=>?_) (λJi A outer s H vs Q E hr h=>?_)
 ·obtain⟨s,s',p,p',a,b,rfl,_⟩:=h;rfl
 ·obtain⟨s0,s1,p,p',a,b,rfl,S,S1,hp,hl,ga,q1,q2⟩:=h;have Kw:A1 8 _:=hr;have KD:A1 4 _:=Kw.mono (by decide);have JD:A1 2 _:=Kw.mono (by decide);have Jp:A1 1 _:=Kw.mono (by decide)
  refine⟨_,(ar (bo (cz (cB (aR (pv 0) c.c.cl Qf Qd JD Qe .nil ae (ao (pv 1) ai rfl)))) (az (cU Bi qU rfl cy (by rfl) mU (ao eI ai rfl))) aI)
   (ar (@aY _ _ 2 _ _ _ _ DD.nd rfl (Or.inr rfl) (bh (pv 0) rfl) rfl (Or.inl rfl))
   (az (aG (aD NH Kw (by rfl) NK NL NJ .nil ae (ao (pv 2) (ao (yU (wi1:=Ai K (Gx K (dg 4) "its_terms")) (g:=jM K 2 (cV (bK 0) (cV (bK 1) Iu))) (g1:=jM K 2 (cV (bK 2) (cV (bK 3) Iu))) (N:=["product","number","more","factor","other","field"]) (nl:=4) (js:=[1,2]) (osc:=au FF) ⟨rfl,rfl,by decide +kernel,by decide +kernel,by decide +kernel,rfl,(.cons ⟨rfl,by decide +kernel⟩ (.cons ⟨rfl,by decide +kernel⟩ .nil)),by decide +kernel⟩ rfl
    (b9 (bh (pv 0) rfl))
    (λCq fq sq Hq=>(dJ (X:=cS _ ["product","number","more","factor","other","field"] _ Cq fq sq Hq) rfl (aO (aF (X:=cS _ ["product","number","more","factor","other","field"] _ Cq fq sq Hq) (i:=0) (by show(["product","number","more","factor","other","field"]:F3).Nodup;decide +kernel) rfl (Or.inl rfl) (Or.inr rfl)) (aO (aF (X:=cS _ ["product","number","more","factor","other","field"] _ Cq fq sq Hq) (i:=1) (by show(["product","number","more","factor","other","field"]:F3).Nodup;decide +kernel) rfl (Or.inl rfl) (Or.inr rfl)) cJ))))
    (λCq fq sq Hq=>ck)
    (λCq fq sq Hq=>(b9 (X:=cS _ ["product","number","more","factor","other","field"] _ Cq fq sq Hq) (bh (X:=cS _ ["product","number","more","factor","other","field"] _ Cq fq sq Hq) (pv (X:=cS _ ["product","number","more","factor","other","field"] _ Cq fq sq Hq) 4) rfl)))
    (λCq fq sq Hq=>(dJ (X:=cS _ ["product","number","more","factor","other","field"] _ Cq fq sq Hq) rfl (aO (aF (X:=cS _ ["product","number","more","factor","other","field"] _ Cq fq sq Hq) (i:=2) (by show(["product","number","more","factor","other","field"]:F3).Nodup;decide +kernel) rfl (Or.inl rfl) (Or.inr rfl)) (aO (aF (X:=cS _ ["product","number","more","factor","other","field"] _ Cq fq sq Hq) (i:=3) (by show(["product","number","more","factor","other","field"]:F3).Nodup;decide +kernel) rfl (Or.inl rfl) (Or.inr rfl)) cJ))))
    (λCq fq sq Hq=>ck)
    (λCq fq sq Hq=>(bF (ao (aD FTo Jp (by rfl) mTo kTo bTo .nil ae (ao (pv 0) (ao (pv 2) ai rfl) rfl)) (ao (aR (pv 5) cF.cl K5 K3 KD K4 .nil ae (ao (pv 1) (ao (pv 3) ai rfl) rfl)) ai rfl) rfl)))) ai rfl) rfl)))))),?_⟩
  obtain⟨dx,Mf,Jh,Dd,zs,h1,h2,h3,h4⟩:=S.ex;obtain⟨LV,MB,KP,OS,Qc,g1,g2,g3,g4⟩:=S1.ex;refine⟨_,rfl,s0,dx,_,rfl,h1,rfl,_,rfl,s0,s1,p,p',a,b,rfl,S,S1,_,rfl,?_⟩
  by_cases e:p'=p
  ·rw[Iw e];obtain⟨gb,G,q1⟩:=q1 e;refine cu ⟨_,rfl,s0,C,dx,_,_,rfl,h1,c.c.cl,c.c.nF,rfl,?_⟩;have za:=h4.length;have zb:=g4.length;refine⟨_,rfl,_,rfl,s0,C,dx,_,_,rfl,h1,c.c.cl,c.c.nT,rfl,Dd,rfl,⟨_,a8.of h3⟩,?_⟩
   refine F1 (xs:=zs) (xs1:=Qc) (a1:=OS) (λi us H'=>aE H H'/\bA H' us (dh p (a.take i) b)) (λi u v j us H'=>aE H H'/\∃x pr nu,a[i]?=some x/\u=.ref pr/\v=.ref nu/\H pr=some (.tup (x.1.map V.int))/\H nu=some (bY x.2.1 x.2.2)/\bA H' us (dh p (a.take i) b++(b.take j).map λy=>(mE (x.1++y.1),cH p x.2 y.2)))
    ⟨aE.refl _,.nil⟩ (λi us H' hi h=>?_) (λi v us H' hi Vw h=>?_) (λi u v j us H' hi hj h=>?_) (λi u v j y us H' hi hj hy h=>?_) (λi u v us H' hi h=>?_) (λus H' h=>?_)
   ·refine⟨?_,a8.of (h.1 _ _ h3)⟩;rw[h.2.length,rG,xo];exact Hv (ui _ (jP _ _)) (Ip hl (by decide))
   ·obtain⟨sH,hu⟩:=h;obtain⟨x,ex,at_,pr,nu,rfl,JF,Jt,JB⟩:=aV h4 Vw;refine⟨at_,.ref pr,.ref nu,rfl,bq.of (sH _ _ JF),⟨sH,x,pr,nu,ex,rfl,rfl,Jt,JB,by simpa using hu⟩,λo2 o3 R hR=>?_⟩;exact⟨_,rfl,s1,C,LV,_,_,rfl,sH _ _ g1,c.c.cl,c.c.nT,rfl,OS,rfl,⟨_,a8.of (sH _ _ g3)⟩,hR⟩
   ·obtain⟨sH,x,pr,nu,ex,rfl,rfl,Jt,JB,hu⟩:=h;refine⟨?_,a8.of (sH _ _ g3)⟩;rw[hu.length,zr,rG,EZ,xo,xo]
    have hi:i<a.length:=by omega
    have h1:min i a.length=i:=by omega
    have h2:min j b.length=j:=by omega
    rw[h1,h2];have h3:(i+1)*b.length<=a.length*b.length:=ui _ (by omega);rw[Nat.succ_mul] at h3;exact Ip (show _<4000 by omega) (by decide)
   ·obtain⟨sH,x,pr,nu,ex,rfl,rfl,Jt,JB,hu⟩:=h;obtain⟨z,ez,at2,OU,YR,rfl,Vx,Vy,Vz⟩:=aV g4 hy;have gx:=ga x (Gq ex);have gz:=gb z (Gq ez)
    have VA:b.take (j+1)=b.take j++[z]:=by rw[sf,ez];rfl
    refine⟨at2,.ref OU,.ref YR,rfl,bq.of (sH _ _ Vx),λN k=>?_⟩;refine⟨_,rfl,_,rfl,pr,OU,x.1,z.1,rfl,sH _ _ Jt,sH _ _ Vy,gx.2.1,gz.2.1,(by have:=gx.2.2;have:=gz.2.2;omega),λcc H3 s3 ec=>?_⟩;have Qi:=sH.trans s3;refine⟨_,rfl,Mf,Jh,_,rfl,Qi _ _ h2,rfl,_,rfl,_,rfl,Mf,Jh,nu,YR,p,x.2.1,x.2.2,z.2.1,z.2.2,rfl,Qi _ _ h2,hp,Qi _ _ JB,Qi _ _ Vz,gx.1.2.1,gx.1.2.2,gz.1.2.1,gz.1.2.2,gx.1.ne,gz.1.ne,λa1 JK=>?_⟩;have r1:=av (o:=bY (cH p x.2 z.2).1 (cH p x.2 z.2).2) JK;have e1:upd H3 a1 (bY (cH p x.2 z.2).1 (cH p x.2 z.2).2) a1=some (bY (cH p x.2 z.2).1 (cH p x.2 z.2).2):=aj;change ya _ (upd H3 a1 (bY (cH p x.2 z.2).1 (cH p x.2 z.2).2)) _;generalize upd H3 a1 (bY (cH p x.2 z.2).1 (cH p x.2 z.2).2)=H4 at r1 e1 |-;refine⟨jJ,λtu Lx=>?_⟩;have r2:=av (o:=.tup [.ref cc,.ref a1]) Lx;have NM:=r1.trans r2;refine k _ _ ⟨Qi.trans NM,x,pr,nu,ex,rfl,rfl,Jt,JB,?_⟩;rw[VA,Aq,<-BE];exact zF (bA.keep hu (aJ.of (s3.trans NM))) ⟨tu,cc,a1,rfl,aj,NM _ _ ec,r2 _ _ e1⟩
   ·obtain⟨sH,x,pr,nu,ex,rfl,rfl,Jt,JB,hu⟩:=h
    have JM:a.take (i+1)=a.take i++[x]:=by rw[sf,ex];rfl
    refine⟨sH,?_⟩;rw[JM,aiR];rw[zb,yi] at hu;exact hu
   ·obtain⟨sH,hu⟩:=h;rw[za,yi] at hu;intro l hl;have r1:=av (o:=.lst us) hl;exact⟨Mf,Jh,l,p,_,_,rfl,r1 _ _ (sH _ _ h2),hp,aj,bA.keep hu (aJ.of r1),G,λH2 u s2 VB=>q1 _ u ((sH.trans r1).trans s2) (VB.of (sH.trans r1))⟩
  ·rw[IA e];exact cA ⟨by decide,q2 e⟩
noncomputable def pR (K:Frag)(C CF:Addr):Sp:=λvs H Q _=>∃(s:Addr)(p:Int)(a:List Tm)(y:V),vs=[.ref s,y]/\xJ C CF H s p a /\
 ((∃s' p' b,y=.ref s'/\xJ C CF H s' p' b/\Q (.bl (decide (p'=p))) H)\/∃t,zy K H y t/\kitOne K t (.ref C)=some false/\Q (.bl false) H)
theorem AX {fe:Addr}{Qb:GS}(F:FY K "is_like" "Sum.is_like" C6 f fd)(c:zY K mg C)(cF:Fv K mg CF)(Jg:mg "isinstance"=none)
 (FE:xk P w K mg base (cI P w) 1 fe Qb xn (ER CF))(bE:L2.b8 K Qb xn [])(nE:findIn K (.ref CF) "__eq__"=some (some (.ref fe)))(iE:isFn K (.ref fe)=true):
 xk P w K mg base (cI P w) 2 f fd Bl (pR K C CF):=by
 refine F.okN FH (λvs H Q E h=>?_) (λJi A outer s H vs Q E hr h=>?_)
 ·obtain⟨s,p,a,y,rfl,_⟩:=h;rfl
 ·obtain⟨s0,p,a,y,rfl,S,q⟩:=h;have Jp:A1 1 _:=hr.mono (by decide);refine⟨_,(az (aG (dH (aK bX (by rfl) Jg (by rfl) (ao (pv 1) (ao (d3 (by rfl) c.c.mgC (show aL (.ref C) (.ref C) from rfl)) ai rfl) rfl)) (fk (cN (ml nE iE FE Jp bE ae) (bh (pv 1) rfl) (bh (pv 0) rfl) (aM _)))))),?_⟩;obtain⟨dx,fl,Jh,Dd,zs,h1,h2,h3,h4⟩:=S.ex
  rcases q with⟨s1,p',b,rfl,S1,q⟩|⟨t,ty,kt,q⟩
  ·obtain⟨LV,MB,KP,OS,Qc,g1,g2,g3,g4⟩:=S1.ex;refine⟨_,rfl,.ref s1,.ref C,_,_,_,rfl,rfl,c.ty g1,c.is,_,rfl,cA ?_⟩;refine⟨_,rfl,s1,C,LV,_,_,rfl,g1,c.c.cl,c.c.nF,rfl,_,rfl,s0,C,dx,_,_,rfl,h1,c.c.cl,c.c.nF,rfl,?_⟩;refine⟨MB,KP,_,.ref CF,rfl,g2,cF.ty h2,j8,MB,KP,p',.ref fl,rfl,g2,.inl ⟨fl,Jh,p,rfl,h2,_,rfl,?_⟩⟩;simpa using q
  ·exact⟨_,rfl,y,.ref C,_,_,_,rfl,rfl,ty,kt,_,rfl,cu q⟩
theorem v8 (h:xk P w K mg base (cI P w) 2 f fd Bl (pR K C CF)):xk P w K mg base (cI P w) 2 f fd Bl (sX C CF):=
 h.imp λvs H Q E ⟨s,s',p,p',a,b,e,S,S',q⟩=>⟨s,p,a,.ref s',e,S,.inl ⟨s',p',b,rfl,S',q⟩⟩
end K09
namespace L2
open PySem PySem.Spec PyProof.Rows PySem.W
open AutoSeq1 (wpAny_loadPart')
theorem xO (l:Addr)(its:Il)(n:Nat)(VC:DT)(sl:xA):
 Meets (Builtin.«enumerate.__new__» ⟨[.type "enumerate",.ref l],[]⟩) (λ_ R s=>s.heap.get? l=some ⟨.type "tuple",VC,.seq its n,sl⟩/\∀h1 h2,h1=s.heap.push {cls:=.type "tuple_iterator",data:=.fields #[.ref l,.int 0 0]} →
  h2=h1.push {cls:=.type "enumerate",data:=.fields #[.none,.bool false,.ref s.heap.objs.size,rawInt 0,.none,.none]}->R (.ok (.ret (.ref h1.objs.size))) {s with heap:=h2}):=
 .of_wp λprog w A R s h=>by
  obtain⟨hp,g,d,tk,os⟩:=s;obtain⟨hl,h⟩:=h;have h:=h _ _ rfl rfl;have sb:=sub_enumerate;have hT:Heap.IsTuple (Shared.heap ⟨hp,g,d,tk,os⟩) l its:=⟨_,hl,rfl,n,rfl⟩
  wp_walk using wpAny_loadPart' hl
  refine wpAny_stack_any λst=>Fc ?_
  split
  ·rename_i c _ _ _ _ _
   cases(c==Value.type "enumerate") <;> (wp_walk using wpAny_loadPart' hl,BO hT;exact⟨_,rfl,h⟩)
  ·wp_walk using wpAny_loadPart' hl,BO hT
   exact⟨_,rfl,h⟩
section
variable {prog:xq}{w:World}{A:Around}{E:AU}{s:pL}{e it l:Addr}{i:Nat}{xs:Il}{x old:Value}
theorem uk {Q:Option Value->Shared->Prop}(he:IsEnum s.heap e it i old)(hit:s.heap.IsTupleIter it l i)(hl:s.heap.IsTuple l xs)(hx:xs[i]?=some x)(ne:e≠it)
 (q:∀g,IsEnumOut g e it ((i:Int)+1) x s.heap.objs.size->g.IsTupleIter it l (i+1)->g.get? s.heap.objs.size=some {cls:=.type "tuple",data:=.seq #[.int i s.toks,x]} →
  (∀b o,b≠e->b≠it->s.heap.get? b=some o->g.get? b=some o)->Q (some (.ref s.heap.objs.size)) {s with heap:=g,toks:=s.toks+1}):wpAny (model prog w) A (pyNext (.ref e)) Q E s:=by
 have ty:s.TypeIs (.ref e) "enumerate":=⟨_,he,rfl⟩;unfold pyNext;refine IW (mX (tE (name:=Str.ofString "__next__") ty mJ (tP mJ ty F.entry_enumerate_next ?_ (F.args_enumerate_next_1 _))));obtain⟨hp,g,d,tk,os⟩:=s;refine IW (m:=field (.ref e) 2) (zV he rfl (x:=.ref it) rfl (IW (Zp.iH hit hl hx λh1 i1 s1=>?_)));have s1:Heap.SameBut it hp h1:=s1;have e1:IsEnum h1 e it i old:=(s1.2 e ne).trans he;refine IW (m:=field (.ref e) 3) (zV e1 rfl (x:=rawInt i) rfl (IW (m:=field (.ref e) 4) (zV e1 rfl (x:=.none) rfl ?_)));refine IW (m:=mkInt i) (wpAny_mkInt (IW (m:=setField (.ref e) 3 (rawInt ((i:Int)+1))) (CB e1 (by simp) λh2 e2 s2=>?_)));have s2:Heap.SameBut e h1 h2:=s2;have e2:IsEnum h2 e it ((i:Int)+1) old:=e2;refine IW (m:=setField (.ref e) 4 .none) (CB e2 (by simp) λh3 e3 s3=>?_);have s3:Heap.SameBut e h2 h3:=s3;have e3:IsEnum h3 e it ((i:Int)+1) old:=e3;refine IW (m:=newTuple [.int i tk,x]) (zG ?_)
 have sz:h3.objs.size=hp.objs.size:=by rw[s3.1,s2.1,s1.1]
 have e4:IsEnum (h3.push {cls:=.type "tuple",data:=.seq #[.int i tk,x]}) e it ((i:Int)+1) old:=Ez _ e3
 have t4:(h3.push {cls:=.type "tuple",data:=.seq #[.int i tk,x]}).get? hp.objs.size=some {cls:=.type "tuple",data:=.seq #[.int i tk,x]}:=by rw[<-sz];exact Fg _ rfl
 have k4:∀b o,b≠e->b≠it->hp.get? b=some o->(h3.push {cls:=.type "tuple",data:=.seq #[.int i tk,x]}).get? b=some o:=λb o n1 n2 hb=>Ez _ ((s3.2 b n1).trans ((s2.2 b n1).trans ((s1.2 b n2).trans hb)))
 have i4:(h3.push {cls:=.type "tuple",data:=.seq #[.int i tk,x]}).IsTupleIter it l (i+1):=by
  obtain⟨o,ho,r⟩:=i1;exact⟨o,Ez _ ((s3.2 it ne.symm).trans ((s2.2 it ne.symm).trans ho)),r⟩
 show wpAny _ _ (Builtin.SmallTypes.ownedTupleIsFree (.ref e)>>=_) _ _ {heap:=h3.push {cls:=.type "tuple",data:=.seq #[.int i tk,x]},gens:=g,drawn:=d,toks:=tk+1,os:=os};rw[sz];generalize h3.push {cls:=.type "tuple",data:=.seq #[.int i tk,x]}=h4 at e4 t4 k4 i4 |-;have el:e≠hp.objs.size:=IB (Ep he);clear e3 s3 e2 s2 e1 s1 i1 sz;unfold Builtin.SmallTypes.ownedTupleIsFree;refine IW (IW (zV e4 rfl (x:=.none) rfl (Fc ?_)));simp only[Ij];refine IW (qK (IW (zV e4 rfl (x:=old) rfl (IW (CB e4 (by simp) λh5 e5 s5=>?_)))));have s5:Heap.SameBut e h4 h5:=s5;have e5:IsEnum h5 e it ((i:Int)+1) x:=e5;show wpAny _ _ (Builtin.SmallTypes.ownedTupleHandOut (.ref e) (.ref hp.objs.size)>>=_) _ _ {heap:=h5,gens:=g,drawn:=d,toks:=tk+1,os:=os};unfold Builtin.SmallTypes.ownedTupleHandOut;refine IW (IW (CB e5 (by simp) λh6 e6 s6=>?_));have s6:Heap.SameBut e h5 h6:=s6;have e6:IsEnumOut h6 e it ((i:Int)+1) x hp.objs.size:=e6;refine CB e6 (by simp) λh7 e7 s7=>?_;have s7:Heap.SameBut e h6 h7:=s7;have up:∀b,b≠e->h7.get? b=h4.get? b:=λb n=>(s7.2 b n).trans ((s6.2 b n).trans (s5.2 b n));refine IW (BR (Fc ⟨_,rfl,Fc (q h7 e7 ?_ ((up _ el.symm).trans t4) λb o n1 n2 hb=>(up b n1).trans (k4 b o n1 n2 hb))⟩));obtain⟨o,ho,r⟩:=i4;exact⟨o,(up it ne.symm).trans ho,r⟩
theorem xM {Q:Option Value->Shared->Prop}(hh:A.handled=none)(he:IsEnum s.heap e it i old)(hit:s.heap.IsTupleIter it l i)(hl:s.heap.IsTuple l xs)(hx:xs[i]?=none)
 (q:∀g,Heap.ExtBut it s.heap g->Q none {s with heap:=g}):wpAny (model prog w) A (pyNext (.ref e)) Q E s:=by
 have ty:s.TypeIs (.ref e) "enumerate":=⟨_,he,rfl⟩;unfold pyNext;refine IW (mX (tE (name:=Str.ofString "__next__") ty mJ (tP mJ ty F.entry_enumerate_next ?_ (F.args_enumerate_next_1 _))));refine IW (m:=field (.ref e) 2) (zV he rfl (x:=.ref it) rfl (IW (Zp.p8 hh hit hl hx λg x e' Uz=>?_)));obtain⟨o,ho,hc⟩:=Uz;exact IW (A2 (T:="StopIteration") (b:=true) ⟨o,ho,hc⟩ EW (Fc (q _ e')))
theorem sh {Q:AU}(hT:s.heap.IsTuple l xs)(q:∀g,IsEnum g (s.heap.objs.size+1) s.heap.objs.size 0 .none->g.IsTupleIter s.heap.objs.size l 0->(∀b o,s.heap.get? b=some o->g.get? b=some o)->Q (.ref (s.heap.objs.size+1)) {s with heap:=g}):
 wpAny (model prog w) A (call (.type "enumerate") [.ref l]) Q E s:=by
 obtain⟨⟨c,VC,dt,sl⟩,hl,hc,n,hd⟩:=hT;have hc:c=.type "tuple":=hc;have hd:dt=.seq xs n:=hd;subst hc hd;refine callType_new F.called_enumerate (by decide) (F.typeCall_enumerate_1 _) (F.newCall_enumerate_1 _) (λobj=>F.args_object_init_2 obj _) F.entry_enumerate_new (xO l xs n VC sl) ⟨hl,λh1 h2 e1 e2=>?_⟩
 have z1:h1.objs.size=s.heap.objs.size+1:=by rw[e1];exact B5 ..
 have g1:h1.get? s.heap.objs.size=some {cls:=.type "tuple_iterator",data:=.fields #[.ref l,.int 0 0]}:=by rw[e1];exact Fg _ rfl
 have en:IsEnum h2 (s.heap.objs.size+1) s.heap.objs.size 0 .none:=by rw[e2,<-z1];exact Fg _ rfl
 show _/\_;rw[z1];exact⟨⟨_,en,rfl⟩,q h2 en ⟨_,by rw[e2];exact Ez _ g1,rfl,rfl⟩ λb o hb=>by rw[e2,e1];exact Ez _ (Ez _ hb)⟩
end
noncomputable def wZ (K:Frag)(a:Addr):It :=
 ⟨λi H=>∃xs x,bq K H a xs/\xs[i]?=some x,λi H x H'=>∃T y,(∀xs,bq K H a xs->xs[i]?=some y)/\H T=none/\x=.ref T/\H'=upd H T (.tup [.int i,y]),λi H=>∃xs,bq K H a xs/\xs.length<=i⟩
theorem uo {P:xq}{w:World}{K:Frag}{elts:xB}{x1:Nat}{tp:Pos}(a e it:Addr)(JG:e≠it):Turn P w K (.Tuple elts x1 tp) (wZ K a) [e,it] e (λi h=>∃old,IsEnum h e it i old/\h.IsTupleIter it a i) where
 mem:=by simp
 obj:=λi h st b hb=>by
  obtain⟨old,h1,o,h2,_,h3⟩:=st
  rcases(by simpa using hb:b=e\/b=it) with z|z
  ·subst z;exact⟨_,h1,λv z=>by cases z⟩
  ·subst z;exact⟨o,h2,λv z=>by rw[h3] at z;cases z⟩
 keep:=λi h h' st k=>let⟨old,h1,h2⟩:=st;⟨old,k e (by simp) _ h1,Zp.eV h2 λo q=>k it (by simp) o q⟩
 item:=by
  intro X hP hw hK hc i pins s σ H E I hf st hg;subst hP hw hK;obtain⟨xs,x,hq,hx⟩:=hg;obtain⟨its,rv,p,hz⟩:=I.tuple hq;obtain⟨u,hu,ru⟩:=rv.get hx;obtain⟨old,he,hit⟩:=st;refine uk he hit (show s.heap.IsTuple a its.toArray from p) (x:=u) (by simpa using hu) JG λh' q1 q2 q3 q5=>?_;refine⟨_,rfl,wpAny_letOwnedTupleGo_enum (s:={s with heap:=h',toks:=s.toks+1}) q1 λh2 q6 q7=>?_⟩;have PN:s.heap.objs.size≠e:=tU (Ep he)
  have I1:Inv X pins σ H {s with heap:=h2,toks:=s.toks+1}:=I.agt (t':=s.toks+1) (ch:=[e,it]) (λb o hb z=>by
   have Ju:b≠e/\b≠it:=by simpa using hb
   exact(q7.2 b Ju.1).trans (q5 b o Ju.1 Ju.2 z)) hf
  have tup:h2.get? s.heap.objs.size=some {cls:=.type "tuple",data:=.seq #[.int i s.toks,u]}:=(q7.2 _ PN).trans q3;have fr:H s.heap.objs.size=none:=I.hok.fresh (yH _);have I2:=I.ah2 (xs:=[.int i,x]) (its:=[.int i s.toks,u]) I1 (yH _) tup (.cons ⟨_,rfl⟩ (.cons ru .nil)) jJ;refine⟨.ref s.heap.objs.size,_,I2,rfl,⟨s.heap.objs.size,x,λys hy=>by rw[I.afX hy hq];exact hx,fr,rfl,rfl⟩,⟨u,q6,Zp.eV q2 λo q=>(q7.2 _ (Bt JG)).trans q⟩,λb hb=>?_⟩
  have nb:b≠s.heap.objs.size:=by
   rcases(by simpa using hb:b=e\/b=it) with z|z
   ·subst z;exact Bt PN
   ·subst z;obtain⟨o,q,_⟩:=hit;exact IB (Ep q)
  rw[aA nb];exact(hf b hb).1
 done:=by
  intro X hP hw hK hc i pins s σ H E I hf st hg;subst hP hw hK;obtain⟨xs,hq,hx⟩:=hg;obtain⟨its,rv,p,hz⟩:=I.tuple hq;have hl:=rv.length;obtain⟨old,he,hit⟩:=st;obtain⟨f0,f1,f2,f3,f4,f5⟩:=hf it (by simp);exact xM (I.ok.hd hc) he hit (show s.heap.IsTuple a its.toArray from p) (by simp;omega) λh' eb=>⟨rfl,I.turned (t':=s.toks) (λb o hb e=>eb b o hb e) f0 f1 f3 f4 f5⟩
 self:=λ_ _ _ _ _ st h=>let⟨old,h1,_⟩:=st;ym h1 h
noncomputable def Fp (K:Frag)(tl:TE):TI:=λσ H R=>bx tl ya σ H λvs H1=>∃a xs,vs=[.ref a]/\bq K H1 a xs/\R (wZ K a) H1
theorem zH {X:Cx}{l:Expr}{tl:TE}{elts:xB}{x1:Nat}{tp p pos:Pos}(hl:PE X l tl)(hg:Gl X "enumerate")(hm:X.mg "enumerate"=none)(hs:ff l=false:=by rfl):
 PI X (.Tuple elts x1 tp) (.Call (.Name "enumerate" p) [l] [] pos) (Fp X.K tl):=by
 intro pins s σ H R I h;refine rM (c8 I hg hm (by rfl) ?_ (by decide) (by decide));refine AG (cx (ao hl ai hs pos pins s σ H _ I h) λus s1 z'=>?_) (aX hs) rfl;obtain⟨vs,H1,I1,r1,a,xs,hv,hq,rr⟩:=z';subst hv;obtain⟨u,rfl,ru⟩:=fG r1
 cases(show u=Value.ref a from ru)
 obtain⟨its,rv,pl,hz⟩:=I1.tuple hq;refine sh (show s1.heap.IsTuple a its.toArray from pl) λh' q1 q2 q4=>?_;have I2:Inv X pins σ H1 {s1 with heap:=h'}:=I1.kept (t':=s1.toks) q4;refine ym (s:={s1 with heap:=h'}) q1 ?_;refine⟨s1.heap.objs.size+1,[s1.heap.objs.size+1,s1.heap.objs.size],_,wZ X.K a,H1,rfl,I2,uo a _ _ (Cr _),⟨_,q1,q2⟩,λb hb=>?_,rr⟩
 have Ju:s1.heap.objs.size<=b:=by
  rcases(by simpa using hb:b=s1.heap.objs.size+1\/b=s1.heap.objs.size) with z|z
  ·rw[z];exact Ja _
  ·rw[z];exact yH _
 exact I1.agx Ju (I1.hok.fresh Ju)
theorem oi {α:Type}{l:List α}{i:Nat}{a:α}(h:l[i]?=some a):i<l.length:=(zp.mp h).1
end L2
namespace K09
open PySem L2 PySem.W Nm Srt
noncomputable abbrev IT:Stmt:=(ba 33)
section
variable {C CF UN s s':Addr}{H:Hp}{p:Int}{a b:List Tm}{m m':Nat}{Q:VK}{E:XK}
theorem AI (S:xJ C CF H s p a)(S':xJ C CF H s' p b)(hp:FP p)(la:Lv p m 32 a)(lb:Lv p m' 32 b)(hm:m+m'+12<=4000)
 (q:∀H' u,aE H H'->jg C CF H H' u p (tg p (dh p a b))->Q (.ref u) H'):qJ C CF UN [.ref s,.ref s'] H Q E :=
 ⟨s,s',p,p,a,b,rfl,S,S',hp,Hv (Nat.mul_le_mul la.len lb.len) (by decide),la.gn hp (by omega) (by decide),λ_=>⟨lb.gn hp (by omega) (by decide),(la.mul lb hp).gth hp hm (by decide),q⟩,λz=>absurd rfl z⟩
theorem xJ.hd (S:xJ C CF H s p a):∃dx fl D,H s=some (.ins C dx (pq fl D)):=by
 obtain⟨dx,fl,Jh,D,zs,h,_⟩:=S.ex;exact⟨dx,_,_,h⟩
theorem xJ.but {H':Hp}{d:Addr}{Jf:List (List Key×V)}(S:xJ C CF H s p a)(hd:H d=some (.dT Jf))(k:SameBut d H H'):xJ C CF H' s p a:=by
 obtain⟨dx,fl,Jh,D,zs,h1,h2,h3,h4⟩:=S.ex
 have n:∀{b:Addr}{o:HO},H b=some o->(∀Jf,o≠.dT Jf)->b≠d:=λ{b o} e z w=>by
  rw[w,hd] at e;exact z _ (Option.some.inj e).symm
 exact⟨dx,fl,Jh,D,zs,k _ _ h1 (n h1 λ_ z=>by cases z),k _ _ h2 (n h2 λ_ z=>by cases z),k _ _ h3 (n h3 λ_ z=>by cases z),bA.keep h4 λb xs e=>k _ _ e (n e λ_ z=>by cases z)⟩
end
noncomputable def jC (C CF T:Addr)(H:Hp)(s:Addr)(p:Int)(ts:List Tm):Prop:=∃dx fl Jh D zs,H s=some (.ins C dx (pq fl D))/\H fl=some (.ins CF Jh (dS p))/\H D=some (.lst zs)/\bA H zs ts/\D≠T
section
variable {C CF T s d:Addr}{H H':Hp}{p:Int}{ts:List Tm}{R:Int->List Tm}{Jf Js:List (List Key×V)}
theorem jC.r (h:jC C CF T H s p ts):xJ C CF H s p ts:=let⟨dx,fl,Jh,D,zs,h1,h2,h3,h4,_⟩:=h;⟨dx,fl,Jh,D,zs,h1,h2,h3,h4⟩
theorem jg.t {o:HO}(h:jg C CF H H' s p ts)(e:H T=some o):jC C CF T H' s p ts:=let⟨dx,fl,Jh,D,zs,h1,h2,h3,h4,h5⟩:=h;⟨dx,fl,Jh,D,zs,h1,h2,h3,h4,λz=>by rw[z,e] at h5;cases h5⟩
theorem jC.same (h:jC C CF T H s p ts)(k:aE H H'):jC C CF T H' s p ts:=let⟨dx,fl,Jh,D,zs,h1,h2,h3,h4,h5⟩:=h;⟨dx,fl,Jh,D,zs,k _ _ h1,k _ _ h2,k _ _ h3,bA.keep h4 (aJ.of k),h5⟩
theorem jC.but (h:jC C CF T H s p ts)(hd:H d=some (.dT Jf))(k:SameBut d H H'):jC C CF T H' s p ts:=by
 obtain⟨dx,fl,Jh,D,zs,h1,h2,h3,h4,h5⟩:=h
 have n:∀{b:Addr}{o:HO},H b=some o->(∀Jf,o≠.dT Jf)->b≠d:=λ{b o} e z w=>by
  rw[w,hd] at e;exact z _ (Option.some.inj e).symm
 exact⟨dx,fl,Jh,D,zs,k _ _ h1 (n h1 λ_ z=>by cases z),k _ _ h2 (n h2 λ_ z=>by cases z),k _ _ h3 (n h3 λ_ z=>by cases z),bA.keep h4 λb xs e=>k _ _ e (n e λ_ z=>by cases z),h5⟩
theorem jC.lst {ws:List V}(h:jC C CF T H s p ts)(hT:H T=some (.lst ws))(k:SameBut T H H'):jC C CF T H' s p ts:=by
 obtain⟨dx,fl,Jh,D,zs,h1,h2,h3,h4,h5⟩:=h;exact⟨dx,fl,Jh,D,zs,k _ _ h1 (λz=>by rw[z,hT] at h1;cases h1),k _ _ h2 (λz=>by rw[z,hT] at h2;cases h2),k _ _ h3 h5,bA.keep h4 (λb xs e=>k _ _ e λz=>by rw[z,hT] at e;cases e),h5⟩
structure Known (C CF T:Addr)(p:Int)(R:Int->List Tm)(H:Hp)(Jf:List (List Key×V)):Prop where
 ok:∀ks v,dQ Jf (ix ks)=some v->∃s,v=.ref s/\jC C CF T H s p (pw p R ks)
 nil:(dQ Jf (ix [])).isSome=true
theorem Known.same (h:Known C CF T p R H Jf)(k:aE H H'):Known C CF T p R H' Jf :=
 ⟨λks v e=>let⟨s,e1,S⟩:=h.ok ks v e;⟨s,e1,S.same k⟩,h.nil⟩
theorem Known.lst {ws:List V}(h:Known C CF T p R H Jf)(hT:H T=some (.lst ws))(k:SameBut T H H'):Known C CF T p R H' Jf :=
 ⟨λks v e=>let⟨s,e1,S⟩:=h.ok ks v e;⟨s,e1,S.lst hT k⟩,h.nil⟩
end
theorem rX (xs:List V)(j:Nat):kq xs none (some (j:Int))=xs.take j:=by
 unfold kq;rw[HT.TyX,HT.afP,List.drop_zero,Nat.sub_zero];exact(List.take_eq_take_iff.mpr (by omega))
theorem zQ {K:Frag}{a:Addr}{xs:List V}{j:Nat}{i:Int}{H:Hp}{Q:VK}(ei:i=(j:Int))(ha:H a=some (.tup xs))(q:∀b H',aE H H'->H' b=some (.tup (xs.take j))->Q (.ref b) H'):GU K (.ref a) none (some i) H Q:=by
 subst ei;exact⟨a,xs,rfl,bq.of ha,λe=>q a H (aE.refl _) (by rw[ha,<-rX,e]),λp hp=>q p _ (av hp) (by rw[aj,rX])⟩
theorem xU {K:Frag}{a:Addr}{xs:List V}{g:TG}{tb:TS}{D:Ends}{σ:St}{H:Hp}(Pv:Nat->St->Hp->Prop)(h0:Pv 0 σ H)(hl:∀i σ H,i<=xs.length->Pv i σ H->bq K H a xs)
 (hs:∀i x σ H T,xs[i]?=some x->Pv i σ H->H T=none->g (.ref T) σ (upd H T (.tup [.int i,x])) λσ2 H2=>tb {D with nx:=Pv (i+1),ct:=Pv (i+1),bk:=D.nx} σ2 H2)(hd:∀σ H,Pv xs.length σ H->D.nx σ H):
 ∃W:Nat->Nat->St->Hp->Prop,(∃m,W 0 m σ H)/\∀i m σ H,W i m σ H →
  ((wZ K a).stop i H/\D.nx σ H)\/((wZ K a).go i H/\∃N:St->Hp->Prop,(∀σ' H',N σ' H'->∃m',m'<m/\W (i+1) m' σ' H')/\∀x H',(wZ K a).yld i H x H'->g x σ H' λσ2 H2=>tb {D with nx:=N,ct:=N,bk:=D.nx} σ2 H2):=by
 refine⟨λi m σ H=>m=xs.length-i/\i<=xs.length/\Pv i σ H,⟨xs.length,by simp,Gy _,h0⟩,?_⟩;rintro i m σ H ⟨rfl,hi,p⟩;have q:=hl i σ H hi p
 by_cases Jk:i<xs.length
 ·refine .inr ⟨⟨xs,xs[i],q,by simp[Jk]⟩,Pv (i+1),λσ' H' p'=>⟨xs.length-(i+1),by omega,rfl,Jk,p'⟩,λx H' y=>?_⟩;obtain⟨T,y,hy,hT,rfl,rfl⟩:=y;exact hs i y σ H T (hy xs q) p hT
 ·have e:i=xs.length:=by omega
  subst e;exact .inl ⟨⟨xs,q,yH _⟩,hd _ _ p⟩
noncomputable def uz (C CF:Addr)(p:Int)(R:Int->List Tm)(H:Hp)(zs:List V)(k:Int):Prop:=0<=k/\∃s,zs[k.toNat]?=some (.ref s)/\xJ C CF H s p (R k)
noncomputable def Gi (C CF:Addr):Sp:=λvs H Q _=>∃(d l pr T:Addr)(p:Int)(Jf:List (List Key×V))(zs:List V)(ks:List Int)(R:Int->List Tm)(Dk Mk:Int->Int)(ws:List V),vs=[.ref d,.ref l,.ref pr]/\FP p/\H T=some (.lst ws)/\H d=some (.dT Jf)/\Known C CF T p R H Jf/\Jf.length+ks.length<4000/\H l=some (.lst zs)/\H pr=some (.tup (ks.map V.int)) /\
 ks.length<=4/\(∀k∈ks,uz C CF p R H zs k/\Rk p Dk Mk R k)/\∀H' Js s,SameBut d H H'->H' d=some (.dT Js)->Known C CF T p R H' Js->Js.length<=Jf.length+ks.length->xJ C CF H' s p (pw p R ks)->Q (.ref s) H'
theorem DY:Eb ["known","sums","product","many","place"] HQ (au IT):=dX (by decide +kernel)
variable {P:xq}{w:World}{K:PySem.W.Frag}{mg:Cw}{base:Heap}
variable {f C:Addr}{fd:GS}
set_option maxHeartbeats 1000000 in
theorem GR {CF UN:Addr}(F:FY K "put_product" "put_product" IT f fd)(c:zY K mg C)(Jl:mg "enumerate"=none)
 (q0:Cm P w K mg base 9 xn C "times" (qJ C CF UN)):
 xk P w K mg base (cI P w) 10 f fd HQ (Gi C CF):=by
 obtain⟨ft,Nt,K3,K4,K5⟩:=q0;refine F.okN DY (λvs H Q E h=>?_) (λJi A outer s H vs Q E hr h=>?_)
 ·obtain⟨d,l,pr,T0,p,Jf,zs,ks,R,Dk,Mk,ws,rfl,_⟩:=h;rfl
 ·obtain⟨d,l,pr,T0,p,Jf,zs,ks,R,Dk,Mk,ws,rfl,hp,VD,hd,kn,hlen,hl,Jt,h4,hR,q⟩:=h;have Jx:A1 9 _:=hr;have hu:=(hr.units:_+64<cLine)
  replace hu:=Hv (BF (by decide:1<=64) _) hu
  refine⟨_,(ar (eG E5 rfl (zH (pv 2) (by rfl) Jl) (dJ rfl (aO (aF (i:=3) DY.nd rfl (Or.inl rfl)) (aO (aF (i:=4) DY.nd rfl (Or.inl rfl)) cJ)))
   (az (bo (zh (abo hu (iX kd (pv 2) j4 (jS (aH dD (pv 3) aq))) (pv 0))) (az (we hu (pv 0) (iX kd (pv 2) j4 (jS (aH dD (pv 3) aq))) (aR (pQ hu (pv 0) (iX kd (pv 2) j4 (jS (pv 3))) (λ_ _=>rfl)) c.c.cl K5 K3 Jx K4 .nil ae (ao (bf cq (pv 1) (pv 4) (λ_ _=>rfl)) ai rfl)) (by rfl))) aI)))
   (az (aG (pQ hu (pv 0) (pv 2) (λ_ _=>rfl))))),?_⟩
  refine⟨_,rfl,pr,_,rfl,bq.of Jt,?_⟩
  refine xU (K:=K) (a:=pr) (xs:=ks.map V.int) (λj σ H'=>SameBut d H H'/\(∃Js,H' d=some (.dT Js)/\Known C CF T0 p R H' Js/\Js.length<=Jf.length+j/\(dQ Js (ix (ks.take j))).isSome=true)/\∃o3 o4,σ=[some (.ref d),some (.ref l),some (.ref pr),o3,o4])
   ⟨SameBut.of (aE.refl _),⟨Jf,hd,kn,yH _,by rw[List.take_zero];exact kn.nil⟩,_,_,rfl⟩ (λj σ H' _ h=>bq.of (h.1 _ _ Jt λz=>by rw[z,hd] at Jt;cases Jt)) ?_ ?_
  ·rintro j y σ H1 T hy ⟨s1,⟨Js,Qj,NP,VE,v1⟩,o3,o4,rfl⟩ hT
   obtain⟨k,ek,rfl⟩:∃k,ks[j]?=some k/\y=.int k:=by
    rw[CR] at hy;obtain⟨k,h1,h2⟩:=uJ.mp hy;exact⟨k,h1,h2.symm⟩
   have hj:j<ks.length:=oi ek;have s2:=av (o:=.tup [.int j,.int k]) hT;have e2:upd H1 T (.tup [.int j,.int k]) T=some (.tup [.int j,.int k]):=aj;generalize upd H1 T _=H2 at s2 e2 |-
   have VF:pr≠d:=λz=>by rw[z,hd] at Jt;cases Jt
   have nl:l≠d:=λz=>by rw[z,hd] at hl;cases hl
   have OU:=s2 _ _ (s1 _ _ Jt VF);refine⟨T,_,rfl,bq.of e2,rfl,_,_,rfl,_,_,rfl,rfl,?_⟩;have JP:=hR k (Gq ek);obtain⟨k0,sk,ezk,Sk⟩:=JP.1
   have JM:ks.take (j+1)=ks.take j++[k]:=by rw[sf,ek];rfl
   have YS:(ks.map V.int).take (j+1)=(ks.take (j+1)).map V.int:=List.map_take.symm;have VG:(ks.map V.int).take j=(ks.take j).map V.int:=List.map_take.symm;refine⟨_,rfl,_,rfl,_,_,rfl,rfl,_,rfl,?_⟩;refine zQ (j:=j+1) (by omega) OU λb H3 s3 eb=>?_;rw[YS,<-gL] at eb;have K6:=s2.trans s3;have VH:=K6 _ _ Qj;refine⟨_,rfl,d,_,rfl,i9.t VH eb,_,rfl,?_⟩
   cases hv:dQ Js (ix (ks.take (j+1))) with
   |some v =>
    exact cu ⟨s1.trans (SameBut.of K6),⟨Js,VH,NP.same K6,by omega,by rw[hv];rfl⟩,_,_,rfl⟩
   |none =>
    refine cA ?_;obtain⟨v,ev⟩:=yB.mp v1;obtain⟨u,rfl,Su⟩:=NP.ok _ v ev;refine⟨_,rfl,_,rfl,_,rfl,_,rfl,?_⟩;refine zQ (j:=j) rfl (s3 _ _ OU) λb0 H4 s4 YT=>?_;rw[VG,<-gL] at YT;have Kc:=K6.trans s4;refine⟨d,.ref u,rfl,by rw[<-ev];exact i9.t (s4 _ _ VH) YT,?_⟩;have YU:=Su.r.same Kc;obtain⟨du,_,_,hu4⟩:=YU.hd
    have nT0:T0≠d:=λz=>by rw[z,hd] at VD;cases VD
    have VI:=Kc _ _ (s1 _ _ hl nl);have Sk4:=(Sk.but hd s1).same Kc;refine⟨u,du,_,rfl,hu4,rfl,_,rfl,_,rfl,l,zs,k,.ref sk,rfl,rfl,a8.of VI,(by rw[show k=((k.toNat:Nat):Int) by omega];exact pN ezk),?_⟩;dsimp only[ya];have rt:∀x∈ks.take j,Rk p Dk Mk R x:=λx hx=>(hR x (tj hx)).2;refine AI YU Sk4 hp (C1 hp rt (by rw[xo];omega)) JP.2.lv (by decide) λH5 w s5 S5=>?_;rw[<-vE,<-JM] at S5;have S5:=S5.t (Kc _ _ (s1 _ _ VD nT0));have VJ:=Kc.trans s5;refine⟨_,rfl,_,rfl,_,rfl,_,_,rfl,rfl,_,rfl,?_⟩;refine zQ (j:=j+1) (by omega) (s5 _ _ (s4 _ _ (s3 _ _ OU))) λb1 H6 s6 YV=>?_;rw[YS,<-gL] at YV;have Qk:=VJ.trans s6;have VL:=Qk _ _ Qj;have sb:SameBut d H6 (upd H6 d (.dT (fR Js (ix (ks.take (j+1))) (.ref w)))):=SameBut.upd;refine⟨d,_,rfl,tX.t VL YV (Ip (show Js.length<4000 by omega) (by decide)),(s1.trans (SameBut.of Qk)).trans sb,⟨_,aj,⟨λxs v e=>?_,?_⟩,?_,?_⟩,_,_,rfl⟩
    ·rw[lR] at e
     by_cases z:ix xs=ix (ks.take (j+1))
     ·rw[qk z] at e;have zz:=iC z;subst zz
      injection e with e
      exact⟨w,e.symm,(S5.same s6).but VL sb⟩
     ·rw[IX z] at e;obtain⟨x,e1,Sx⟩:=NP.ok xs v e;exact⟨x,e1,(Sx.same Qk).but VL sb⟩
    ·rw[lR]
     split
     ·rfl
     ·exact NP.nil
    ·have:=gM Js (ix (ks.take (j+1))) (.ref w);omega
    ·rw[lR,qk rfl];rfl
  ·rintro σ H1 ⟨s1,⟨Js,Qj,NP,VE,v1⟩,o3,o4,rfl⟩;rw[EZ] at VE v1;rw[yi] at v1;obtain⟨v,ev⟩:=yB.mp v1;obtain⟨u,rfl,S⟩:=NP.ok ks v ev
   have VF:pr≠d:=λz=>by rw[z,hd] at Jt;cases Jt
   refine⟨_,rfl,_,rfl,d,.ref u,rfl,?_,q H1 Js u s1 Qj NP VE S.r⟩;rw[<-ev];exact i9.t Qj (by rw[gL];exact s1 _ _ Jt VF)
noncomputable abbrev DV:Stmt:=aU (ba 31) 12
noncomputable def vF (C CF NN:Addr):Sp:=λvs H Q E=>∃(s:Addr)(p:Int)(a:List Tm)(x:V)(o:Option (V×V)),vs=[.ref s,x]/\xJ C CF H s p a/\FP p/\a.length<4000/\(∀t∈a,Gn p 4000 t.2)/\TX H x o /\
 (∀t b y,x=.ref y->H y=some (bY t b)->tw p o=true->B 4000 t/\B 4000 b/\Num p t b/\xh p (fh p (t,b) a)/\∀H' u,aE H H'->jg C CF H H' u p (tg p (fh p (t,b) a))->Q (.ref u) H')/\(tw p o=true->∃y t b,x=.ref y/\H y=some (bY t b))/\(tw p o=false->E (.ref NN) none H)
theorem C4:Eb ["self","number","field"] BL (au DV):=dX (by decide +kernel)
set_option maxHeartbeats 1000000 in
theorem xy {CF NN:Addr}(F:FY K "scaled" "Sum.scaled" DV f fd)(c:zY K mg C)(cF:Fv K mg CF)(mN:mg "NoNumber"=some (.ref NN))(qN:gB K NN um ik=true)
 (q1:Cm P w K mg base 2 Bl CF "is_number" (ie CF))
 (q2:Cm P w K mg base 4 AY CF "times" (oo CF hZ))
 (q0:Ca P w K mg base 8 qV "built" (gS C CF)):
 xk P w K mg base (cI P w) 9 f fd BL (vF C CF NN):=by
 obtain⟨fb,TZ,NH,NJ,NK,NL⟩:=q0;obtain⟨fn,fdn,VM,VN,VO⟩:=q1;obtain⟨ft,Nt,K3,K4,K5⟩:=q2;refine F.okE C4 (λvs H Q E h=>?_) (λJi A outer s H vs Q E hr h=>?_)
 ·obtain⟨s,p,a,x,o,rfl,_⟩:=h;rfl
 ·obtain⟨s0,p,a,x,o,rfl,S,hp,al,ag,tx,q1,q2,q3⟩:=h;have Kw:A1 8 _:=hr;have KD:A1 4 _:=Kw.mono (by decide);have JD:A1 2 _:=Kw.mono (by decide)
  refine⟨_,(ar (@aY _ _ 2 _ _ _ _ C4.nd rfl (Or.inr rfl) (bh (pv 0) rfl) rfl (Or.inl rfl))
   (ar (bo (cz (cB (aR (pv 2) cF.cl VO VM JD VN .nil ae (ao (pv 1) ai rfl)))) (az (cU Bi qN rfl cy (by rfl) mN (ao eI ai rfl))) aI)
   (az (aG (aD NH Kw (by rfl) NK NL NJ .nil ae (ao (pv 2) (ao (cj (g:=jM K 2 (cV (bK 0) (cV (bK 1) Iu))) (N:=["product","factor","number","field"]) (nl:=2) (js:=[1,2]) (osc:=au DV) ⟨rfl,rfl,by decide +kernel,by decide +kernel,by decide +kernel,rfl,(.cons ⟨rfl,by decide +kernel⟩ (.cons ⟨rfl,by decide +kernel⟩ .nil)),by decide +kernel⟩ rfl
    (b9 (bh (pv 0) rfl))
    (λCq fq sq Hq=>(dJ (X:=cS _ ["product","factor","number","field"] _ Cq fq sq Hq) rfl (aO (aF (X:=cS _ ["product","factor","number","field"] _ Cq fq sq Hq) (i:=0) (by show(["product","factor","number","field"]:F3).Nodup;decide +kernel) rfl (Or.inl rfl) (Or.inr rfl)) (aO (aF (X:=cS _ ["product","factor","number","field"] _ Cq fq sq Hq) (i:=1) (by show(["product","factor","number","field"]:F3).Nodup;decide +kernel) rfl (Or.inl rfl) (Or.inr rfl)) cJ))))
    (λCq fq sq Hq=>ck)
    (λCq fq sq Hq=>(bF (ao (pv 0) (ao (aR (pv 3) cF.cl K5 K3 KD K4 .nil ae (ao (pv 1) (ao (pv 2) ai rfl) rfl)) ai rfl) rfl)))) ai rfl) rfl)))))),?_⟩
  obtain⟨dx,fl,Jh,Dd,zs,h1,h2,h3,h4⟩:=S.ex;refine⟨_,rfl,s0,C,dx,_,_,rfl,h1,c.c.cl,c.c.nF,rfl,?_⟩;refine⟨_,rfl,fl,Jh,_,rfl,h2,rfl,_,rfl,fl,Jh,p,x,o,rfl,h2,hp,tx,_,rfl,?_⟩
  cases hn:tw p o with
  |false=>exact cA ⟨by decide,q3 hn⟩
  |true =>
   obtain⟨y,t,b,rfl,hy⟩:=q2 hn;obtain⟨bt,bb,nm,G,q⟩:=q1 t b y rfl hy hn;refine cu ?_;have zl:=h4.length;refine⟨_,rfl,_,rfl,s0,C,dx,_,_,rfl,h1,c.c.cl,c.c.nT,rfl,Dd,rfl,⟨_,a8.of h3⟩,?_⟩;refine nW (xs:=zs) (λi us H'=>aE H H'/\bA H' us (fh p (t,b) (a.take i))) ⟨aE.refl _,.nil⟩ (λi us H' hi h=>?_) (λi v us H' hi Vw h=>?_) (λus H' h=>?_)
   ·refine⟨?_,a8.of (h.1 _ _ h3)⟩;rw[h.2.length];unfold fh;rw[EZ,xo];exact Hv (show _<=4000 by omega) (by decide)
   ·obtain⟨sH,hu⟩:=h;obtain⟨u,eu,at_,pr,nu,rfl,JF,Jt,JB⟩:=aV h4 Vw;have gu:=ag u (Gq eu)
    have JM:a.take (i+1)=a.take i++[u]:=by rw[sf,eu];rfl
    refine⟨at_,.ref pr,.ref nu,rfl,bq.of (sH _ _ JF),λN k=>?_⟩;refine ir ⟨_,rfl,_,rfl,fl,Jh,_,rfl,sH _ _ h2,rfl,_,rfl,_,rfl,fl,Jh,nu,y,p,u.2.1,u.2.2,t,b,rfl,sH _ _ h2,hp,sH _ _ JB,sH _ _ hy,gu.2.1,gu.2.2,bt,bb,gu.ne,(by have:=nm.pos;omega),λa1 JK=>?_⟩;have r1:=av (o:=bY (cH p u.2 (t,b)).1 (cH p u.2 (t,b)).2) JK;have e1:upd H' a1 (bY (cH p u.2 (t,b)).1 (cH p u.2 (t,b)).2) a1=some (bY (cH p u.2 (t,b)).1 (cH p u.2 (t,b)).2):=aj;change ya _ (upd H' a1 (bY (cH p u.2 (t,b)).1 (cH p u.2 (t,b)).2)) _;generalize upd H' a1 (bY (cH p u.2 (t,b)).1 (cH p u.2 (t,b)).2)=H1 at r1 e1 |-;refine⟨jJ,λtu Lx=>?_⟩;have r2:=av (o:=.tup [.ref pr,.ref a1]) Lx;have NM:=r1.trans r2;refine k _ _ ⟨sH.trans NM,?_⟩;rw[JM];unfold fh;rw[Aq];exact zF (bA.keep hu (aJ.of NM)) ⟨tu,pr,a1,rfl,aj,NM _ _ (sH _ _ Jt),r2 _ _ e1⟩
   obtain⟨sH,hu⟩:=h;rw[zl,yi] at hu;intro l hl;have r1:=av (o:=.lst us) hl;exact⟨fl,Jh,l,p,_,_,rfl,r1 _ _ (sH _ _ h2),hp,aj,bA.keep hu (aJ.of r1),G,λH2 u s2 VB=>q _ u ((sH.trans r1).trans s2) (VB.of (sH.trans r1))⟩
noncomputable def CO (t:Tm):Int:=t.1.getLastD 0+1
noncomputable def cL (ts:List Tm):Int:=(Mx.jQ none ((ts.filter λt=>!t.1.isEmpty).map CO)).getD 0
noncomputable def jU (C:Addr):Sp:=λvs H Q _=>∃(s dx fl D:Addr)(zs:List V)(ts:List Tm),vs=[.ref s]/\H s=some (.ins C dx (pq fl D))/\H D=some (.lst zs)/\bA H zs ts/\ts.length<4000/\(∀t∈ts,t.1.length<4000)/\∀H',aE H H'->Q (.int (cL ts)) H'
theorem CY:Eb ["self"] ["self"] (au uu):=dX (by decide +kernel)
theorem BW {ks:List Int}(h:ks≠[]):qX (ks.map V.int) (-1)=some (.int (ks.getLastD 0)):=by
 have hl:0<ks.length:=List.length_pos_iff.mpr h;unfold qX xI;rw[EZ,IX (by decide),qk (by omega)];show(ks.map V.int)[((-1:Int)+(ks.length:Int)).toNat]?=_
 have e:((-1:Int)+(ks.length:Int)).toNat=ks.length-1:=by omega
 rw[e,CR,Ii (by omega)]
 have g:ks.getLastD 0=ks[ks.length-1]'(by omega):=by
  rw[List.getLastD_eq_getLast?,List.getLast?_eq_getElem?,Ii (by omega)];rfl
 rw[g];rfl
theorem zI (F:FY K "reach" "Sum.reach" uu f fd)(c:F2 K mg C)(m_max:mg "max"=none):xk P w K mg base (cI P w) 1 f fd ["self"] (jU C):=by
 refine F.okN CY (λvs H Q E h=>?_) (λJi A outer s H vs Q E hr h=>?_)
 ·obtain⟨s,dx,fl,D,zs,ts,rfl,_⟩:=h;rfl
 ·obtain⟨s0,dx,fl,D,zs,ts,rfl,hs,hD,hz,hl,KC,q⟩:=h
  refine⟨_,az (aG (agY (cj (g:=jM K 2 (cV (bK 0) (cV (bK 1) Iu))) (N:=["product","number"]) (nl:=2) (js:=[]) (osc:=au uu) ⟨rfl,rfl,by decide +kernel,by decide +kernel,by decide +kernel,rfl,.nil,by decide +kernel⟩ rfl
   (b9 (bh (pv 0) rfl))
   (λC fp s H=>(dJ (X:=cS _ ["product","number"] _ C fp s H) rfl (aO (aF (X:=cS _ ["product","number"] _ C fp s H) (i:=0) (by show(["product","number"]:F3).Nodup;decide +kernel) rfl (Or.inl rfl) (Or.inr rfl)) (aO (aF (X:=cS _ ["product","number"] _ C fp s H) (i:=1) (by show(["product","number"]:F3).Nodup;decide +kernel) rfl (Or.inl rfl) (Or.inr rfl)) cJ))))
   (λC fp s H=>gR (show PT _ _ (λσ H Q=>dg 0 σ H λx H'=>∃k,DS K x H' k/\Q k H') from iY (pv 0) (λ_=>rfl)))
   (λC fp s H=>(aH dD (bf (show Ds _ (zO K) from bH) (pv 0) (yZ tJ aq) (λ_ _=>rfl)) aq))) aq rfl (by rfl) m_max)),?_⟩
  refine⟨_,rfl,s0,C,dx,_,_,rfl,hs,c.cl,c.nT,rfl,D,rfl,⟨zs,a8.of hD⟩,?_⟩;refine⟨λi m xs σ' H'=>m=zs.length-i/\i<=zs.length/\aE H H'/\xs=(((ts.take i).filter λt=>!t.1.isEmpty).map CO).map V.int/\∃o1 o2,σ'=[o1,o2],⟨zs.length,by simp,Gy _,aE.refl _,rfl,none,none,rfl⟩,?_⟩;rintro i m xs σ' H' ⟨rfl,hi,sH,rfl,o1,o2,rfl⟩;have zl:=hz.length;have Ny:=sH _ _ hD;refine⟨?_,?_⟩
  ·rw[EZ,EZ];exact Hv (A4 _ _) (Hv (by simp;omega) (Bb hl (by decide)))
  by_cases Jk:i<zs.length
  ·refine .inr ⟨⟨zs,zs[i],a8.of Ny,by simp[Jk]⟩,λy H2 hy=>?_⟩;obtain⟨rfl,hy⟩:=hy;obtain⟨t,et,tr⟩:=aV hz (hy zs (a8.of Ny));obtain⟨a,pr,nu,rfl,ha,Jt,JB⟩:=tr.keep (aJ.of sH)
   have JM:ts.take (i+1)=ts.take i++[t]:=by rw[sf,et];rfl
   refine⟨a,_,rfl,bq.of ha,rfl,_,_,rfl,_,_,rfl,rfl,?_⟩;refine⟨_,rfl,!t.1.isEmpty,.inr (.inl ⟨_,bq.of Jt,by simp⟩),?_⟩
   cases hb:t.1.isEmpty with
   |false =>
    have ne:t.1≠[]:=by intro z;rw[z] at hb;cases hb
    refine cA ⟨_,rfl,_,rfl,pr,_,-1,_,rfl,rfl,bq.of Jt,BW ne,_,_,rfl,rfl,zs.length-(i+1),by omega,rfl,Jk,sH,?_,_,_,rfl⟩;rw[JM,FX];simp[hb,CO]
   |true =>
    refine cu ⟨zs.length-(i+1),by omega,rfl,Jk,sH,?_,_,_,rfl⟩;rw[JM,FX];simp[hb]
  ·have ei:i=zs.length:=by omega
   subst ei;refine .inl ⟨⟨zs,a8.of Ny,yH _⟩,λL hL=>?_⟩;rw[zl,yi];refine⟨L,_,.int 0,rfl,rfl,a8.of aj,?_⟩;have q':=q _ (λb u z=>by rw[aA (aB (sH _ _ z) hL)];exact sH _ _ z:aE H (upd H' L (.lst (((ts.filter λt=>!t.1.isEmpty).map CO).map V.int))));unfold cL at q';show Q _ (upd H' L (.lst (((ts.filter λt=>!t.1.isEmpty).map CO).map V.int)));generalize upd H' L (.lst (((ts.filter λt=>!t.1.isEmpty).map CO).map V.int))=H9 at q' |-;generalize Mx.jQ none ((ts.filter λt=>!t.1.isEmpty).map CO)=ob at q' |-
   cases ob <;> exact q'
end K09
namespace L2
open PySem PySem.Spec PyProof.Rows
section
variable {prog:xq}{w:World}{A:Around}{E:AU}{s:pL}{env:Env}
theorem mn {k v:Expr}{pos:Pos}{Q:AU}
 (h:wpAny (model prog w) A (eval k env) (λkv s₁=>wpAny (model prog w) A (eval v env) (λvv s₂=>wpAny (model prog w) A (dictSet s.heap.objs.size kv vv) (λ_ s₃=>Q (.ref s.heap.objs.size) s₃) E s₂) E s₁) E
  {s with heap:=s.heap.push {cls:=.type "dict",data:=.dict #[]} }):
 wpAny (model prog w) A (eval (.Dict [some k] [v] pos) env) Q E s:=by
 rw[arm_eval_Dict,zip_pairTrees [some k] [v] env pos rfl rfl,dictDisplay_pairs _ (by intro z;cases z) (by show 1<17;decide)];refine IW (GW (IW ?_));unfold subDict;refine IW (wpAny_alloc ?_);refine IW (BV ?_);rw[qk (by show 1<=15;decide)];refine IW (pairTrees_cons_walk (Ax h (λkv s₁ h₁=>Ax h₁ (λvv s₂ h₂=>pairTrees_nil_walk ?_) λ_ _ e=>e) λ_ _ e=>e));refine BV ?_;rw[zj];refine IW (IW (IW (Ax h₂ (λ_ s₃ h₃=>Fc ?_) λ_ _ e=>e)));dsimp only;rw[List.forIn_nil];exact Fc (Fc (Fc (Fc h₃)))
end
section
variable {X:Cx}{k v:Expr}{tk tv:TE}{pos:Pos}
noncomputable def Fy (tk tv:TE):TE:=λσ H Q=>∀p,H p=none->tk σ (upd H p (.dT [])) λx H1=>tv σ H1 λy H2=>∃b ks,x=.ref b/\H2 b=some (.tup (ks.map kV))/\H2 p=some (.dT [])/\Q (.ref p) (upd H2 p (.dT [(ks,y)]))
theorem A3 (hu:X.A.units+1<cLine)(hk:PE X k tk)(hv:PE X v tv):PE X (.Dict [some k] [v] pos) (Fy tk tv):=by
 intro pins s σ H Q I q;have hn:=I.hok.fresh (yH s.heap.objs.size);have I1:=I.laid (a:=s.heap.objs.size) (o:=.dT []) (h':=s.heap.push {cls:=.type "dict",data:=.dict #[]}) (t':=s.toks) (λ_ _ q=>Ez _ q) (yH _) (rd s.heap I.big);refine mn (cx (hk pins _ σ _ _ I1 (q _ hn)) λkv s1 ⟨x,H1,I2,rx,q1⟩=>cx (hv pins s1 σ H1 _ I2 q1) λvv s2 z'=>?_);obtain⟨y,H2,I3,ry,b,ks,ex,eb,e,q2⟩:=z';subst ex
 cases(show kv=Value.ref b from rx)
 obtain⟨z,hd,xs,rel,dd⟩:=Di I3.hok e
 have hz:xs.length<=sizeLine:=by rw[<-BI rel];exact z
 refine wpAny_dictSet_heap (knd:=tupleKind (cE X.prog X.w)) (hsz:=hz) (show X.A.units<cLine by omega) (jy I3.hok eb) dd λh' OC hs=>⟨.ref s.heap.objs.size,_,?_,rfl,q2⟩;obtain⟨qq,es,ep,hq,h2,h3,h4,_,h5⟩:=OC
 have hl:(fR [] ks y).length<=sizeLine:=by show 1<=sizeLine;decide
 refine pK I3 (by rw[e];exact True.intro) hs ⟨qq,hq⟩ ⟨hl,hd,_,(rel.put ks eb ry).keeps λc ys ec=>?_,qq,es,ep,hq,h2,h3,h4,h5⟩;rw[aA (nO ec e (λz=>nomatch z))];exact ec
end
end L2
namespace K09
open PySem L2 PySem.W Nm Srt
noncomputable abbrev Iz:Stmt:=aU (ba 31) 15
noncomputable def Lk (K:Frag)(C CF:Addr)(p:Int)(H:Hp)(z:V)(b:Bool):Prop:=(∃s' p' c,z=.ref s'/\xJ C CF H s' p' c/\b=decide (p'=p))\/∃t,zy K H z t/\kitOne K t (.ref C)=some false/\b=false
variable {CF:Addr}{H:Hp}{p:Int}
theorem G6 {NN:Addr}{Q:VK}{E:XK}{fl Jh:Addr}(hf:H fl=some (.ins CF Jh (dS p)))(hp:FP p)(q:∀a,H a=none->Q (.ref a) (upd H a (bY 1 1))):ia CF NN [.ref fl,.int 1,.int 1] H Q E:=by
 have m1:p≠0->(1:Int)%p=1:=λz=>by
  have:2<=p:=by
   rcases hp with h|h
   ·exact absurd h z
   ·exact(dC h).1
  exact yd (by decide) (by omega)
 refine⟨fl,Jh,p,.int 1,.int 1,_,_,rfl,hf,.int 1,.int 1,λt b e1 e2=>?_,λz=>by cases z⟩
 injection e1 with e1
 injection e2 with e2
 subst e1;subst e2;refine⟨fl,Jh,p,1,1,rfl,hf,hp,by unfold B;decide +kernel,(λ_ z=>by cases z),(λ_ _ a ha=>?_),(λz w=>by rw[m1 z] at w;cases w),λz _ v v0 v1 e a ha=>?_⟩
 ·have e1:dA 1 1=1:=by decide +kernel
  have e2:cO 1 1=1:=by decide +kernel
  rw[e1,e2];exact q a ha
 ·rw[Ea] at e;rw[e];exact q a ha
variable {H':Hp}
theorem oa {s dx:Addr}{o u:HO}(h1:H s=none)(h2:H dx=none)(ne:dx≠s)(k:SameBut s (upd (upd H dx o) s u) H'):aE H H':=λb v e=>by
 have b1:b≠s:=aB e h1;have b2:b≠dx:=aB e h2;exact k b v (by rw[aA b1,aA b2];exact e) b1
variable {C:Addr}
theorem mx {fl Jh s dx l:Addr}{ys:List V}{ts:List Tm}{Q:Hp->Prop}{E:XK}(hs:H s=none)(Lu:H dx=none)(ne:dx≠s)(hf:H fl=some (.ins CF Jh (dS p)))(hp:FP p)(hl:H l=some (.lst ys))(ht:bA H ys ts)(G:xh p ts)(hP:∀t∈ts,DW t.1)
 (q:∀H',aE H H'->xJ C CF H' s p (tg p ts)->Q H'):
 fV C CF [.ref s,.ref fl,.ref l] (upd (upd H dx (.own s)) s (.ins C dx [])) (λv H2=>v=.non/\Q H2) E:=by
 have hS:aE H (upd (upd H dx (.own s)) s (.ins C dx [])):=(av Lu).trans (av (by rw[aA (Bt ne)];exact hs));refine⟨s,dx,fl,Jh,p,_,ts,rfl,aj,hS _ _ hf,hp,.inr ⟨l,ys,rfl,hS _ _ hl,bA.keep ht (aJ.of hS)⟩,G,hP,λH' D zs k _ h1 h2 h3=>?_⟩;have sm:=oa hs Lu ne k;exact⟨rfl,q H' sm ⟨dx,fl,Jh,D,zs,h1,sm _ _ hf,h2,h3⟩⟩
theorem FA (hp:FP p):tg p [([],(1,1))]=[([],(1,1))]:=by
 have e:bZ p [([],(1,1))]=[([],(1,1))]:=by simp[bZ,dj]
 show iq (bZ p [([],(1,1))])=_;rw[e];decide +kernel
theorem w6 (p:Int)(R:Int->List Tm)(a:List Tm)(t:Tm):jh p R (a++[t])=jh p R a++tg p (fh p t.2 (pw p R t.1)):=by simp[jh]
theorem uz.same {R:Int->List Tm}{zs:List V}{k:Int}(h:uz C CF p R H zs k)(S:aE H H'):uz C CF p R H' zs k:=⟨h.1,let⟨s,e,z⟩:=h.2;⟨s,e,z.same S⟩⟩
theorem yL {d:Addr}{Jf:List (List Key×V)}(hd:H d=some (.dT Jf))(k:SameBut d H H'):aJ H H':=λb xs e=>k _ _ e λz=>by
 rw[z,hd] at e
 cases e
theorem BX (hp:FP p):xh p [([],(1,1))]:=(show Lv p 2 1 [([],(1,1))] from⟨1,1,by decide,by decide,by unfold B;decide,by unfold B;decide,oO hp⟩).gth hp (by decide) (by decide)
noncomputable def El (K:Frag)(C CF NS:Addr):Sp:=λvs H Q E=>∃(s:Addr)(p:Int)(a:List Tm)(y:V),vs=[.ref s,y]/\xJ C CF H s p a/\FP p/\a.length<=6/\(∀t∈a,t.1.length<4000) /\
 ((∃t,zy K H y t/\kitOne K t (.type "list")=some false/\∀H',aE H H'->E (.ref NS) none H') \/
 ∃l zs bs,y=.ref l/\H l=some (.lst zs)/\zs.length<4000/\Paired (Lk K C CF p H) zs bs /\
  ((bs.all id=false\/(zs.length:Int)<cL a)->∀H',aE H H'->E (.ref NS) none H') /\
  (bs.all id=true->cL a<=zs.length->∃(R:Int->List Tm)(Dk Mk:Int->Int)(Dd Nd:Int),0<Dd/\B 290 Dd/\(∀t∈a,T4 p Dd Nd t)/\(∀k∈l4,Rk p Dk Mk R k)/\(∀t∈a,∀k∈t.1,uz C CF p R H zs k)/\∀H' u,aE H H'->xJ C CF H' u p (tg p (jh p R a))->Q (.ref u) H'))
theorem zk:Eb ["self","sums","known","terms","product","number"] ["self","sums"] (au Iz):=dX (by decide +kernel)
variable {P:xq}{w:World}{K:PySem.W.Frag}{mg:Cw}{base:Heap}
set_option maxHeartbeats 1000000 in
theorem Av {f fm fI NS NN:Addr}{fd Ql J5:GS}{tM:Tok}(F:FY K "put_in" "Sum.put_in" Iz f fd)(c:zY K mg C)(cF:Fv K mg CF)(mN:mg "NoSums"=some (.ref NS))(qN:gB K NS um ik=true)
 (Jg:mg "isinstance"=none)(m_list:mg "list"=none)(Jo:mg "all"=none)(m_len:mg "len"=none)
 (q2:Cm P w K mg base 2 Bl C "is_like" (pR K C CF))
 (q3:Cm P w K mg base 1 ["self"] C "reach" (jU C))
 (VP:xk P w K mg base (cI P w) 4 fm Ql xV (ia CF NN))(VQ:L2.b8 K Ql xV [.int 1 tM])(VR:L2.Meth K CF "made" fm)
 (M:Mk K C fI)(FI:xk P w K mg base (cI P w) 6 fI J5 FZ (fV C CF))(bI:L2.b8 K J5 FZ [])
 (q0:Ca P w K mg base 10 HQ "put_product" (Gi C CF))
 (q4:Cm P w K mg base 9 BL C "scaled" (vF C CF NN))
 (q1:Ca P w K mg base 8 qV "built" (gS C CF)):
 xk P w K mg base (cI P w) 11 f fd ["self","sums"] (El K C CF NS):=by
 obtain⟨fp,OK,FPp,bPp,mPp,kPp⟩:=q0;obtain⟨fb,TZ,NH,NJ,NK,NL⟩:=q1;obtain⟨fl,Mt,Qd,Qe,Qf⟩:=q2;obtain⟨fr,YW,FRe,bRe,mRe⟩:=q3;obtain⟨fs,Yk,Qm,Qn,Qo⟩:=q4;refine F.okE zk (λvs H Q E h=>?_) (λJi A outer s H vs Q E hr h=>?_)
 ·obtain⟨s,p,a,y,rfl,_⟩:=h;rfl
 ·obtain⟨s0,p,a,y,rfl,S,hp,al,ak,q⟩:=h;have JQ:A1 10 _:=hr;have Jx:A1 9 _:=JQ.mono (by decide);have Kw:A1 8 _:=JQ.mono (by decide);have ME:A1 7 _:=JQ.mono (by decide);have KD:A1 4 _:=JQ.mono (by decide);have JD:A1 2 _:=JQ.mono (by decide);have Jp:A1 1 _:=JQ.mono (by decide);have hu:=(hr.units:_+64<cLine)
  replace hu:=Hv (BF (by decide:1<=64) _) hu
  refine⟨_,(ar (bo (PW.pt (iP (cz (cB (aK bX (by rfl) Jg (by rfl) (ao (pv 1) (ao (d7 (by rfl) m_list (by rfl) (show aL (.ty "list") (.type "list") from rfl)) ai rfl) rfl)))) (f9 (cz (cB (aK (fB rfl) (by rfl) Jo (by rfl) (ao (cj (N:=["one","self"]) (nl:=1) (js:=[0]) (osc:=au Iz) ⟨rfl,rfl,by decide +kernel,by decide +kernel,by decide +kernel,rfl,(.cons ⟨rfl,by decide +kernel⟩ .nil),by decide +kernel⟩ rfl
   (b9 (pv 1))
   (λCq fq sq Hq=>aF (i:=0) (by show(["one","self"]:F3).Nodup;decide +kernel) rfl (Or.inl rfl) (Or.inr rfl))
   (λCq fq sq Hq=>ck)
   (λCq fq sq Hq=>(aR (pv 1) c.c.cl Qf Qd JD Qe .nil ae (ao (pv 0) ai rfl)))) ai rfl))))))) (az (cU Bi qN rfl cy (by rfl) mN (ao eI ai rfl))) aI)
   (ar (bo (aS iJ (aK cb (by rfl) m_len pF (ao (pv 1) ai rfl)) (mi (pv 0) c.c.cl mRe FRe Jp bRe .nil ae) (aM _)) (az (cU Bi qN rfl cy (by rfl) mN (ao eI ai rfl))) aI)
   (ar (@aY _ _ 2 _ _ _ _ zk.nd rfl (Or.inl rfl) (A3 hu (bF ai) (eX M FI ME (by rfl) c.c.mgC bI .nil ae (ao (bh (pv 0) rfl) (ao (cM (ao (bF (ao (bF ai) (ao (aR (dvs:=[.int 1]) (bh (pv 0) rfl) cF.cl VR VP KD VQ (.cons ⟨_,rfl⟩ .nil) ae (ao aq ai rfl)) ai rfl) rfl)) ai rfl)) ai rfl) rfl))) rfl (Or.inl rfl))
   (ar (@aY _ _ 3 _ _ _ _ zk.nd rfl (Or.inl rfl) (cM ai) rfl (Or.inl rfl))
   (qc.nox (ar (eG E5 rfl (b9 (bh (pv 0) rfl)) (dJ rfl (aO (aF (i:=4) zk.nd rfl (Or.inl rfl)) (aO (aF (i:=5) zk.nd rfl (Or.inl rfl)) cJ)))
   (az (vO (As Bg PySem.F.slot_list_extend PySem.F.type_list_extend agC (pv 3) (ao (bh (aR (aD FPp JQ (by rfl) mPp kPp bPp .nil ae (ao (pv 2) (ao (pv 1) (ao (pv 4) ai rfl) rfl) rfl)) c.c.cl Qo Qm Jx Qn .nil ae (ao (pv 5) ai rfl)) rfl) ai rfl)))))
   (az (aG (aD NH Kw (by rfl) NK NL NJ .nil ae (ao (bh (pv 0) rfl) (ao (pv 3) ai rfl) rfl)))))))))),?_⟩
  obtain⟨dx,Mf,Jh,Dd,zt,h1,h2,h3,h4⟩:=S.ex
  rcases q with⟨t,ty,kt,q⟩|⟨l,zs,bs,rfl,hl,lz,lk,qE,q⟩
  ·refine⟨_,rfl,y,.ty "list",_,_,_,rfl,rfl,ty,kt,_,rfl,cA (cA ⟨by decide,q _ (aE.refl _)⟩)⟩
  ·refine⟨_,rfl,.ref l,.ty "list",_,_,_,rfl,rfl,.of (.lst hl),rfl,_,rfl,cu ?_⟩;have lb:=lk.length;refine⟨_,rfl,l,rfl,⟨_,a8.of hl⟩,?_⟩;refine dm (xs:=zs) (λi us H'=>H=H'/\us=(bs.take i).map V.bl) ⟨rfl,rfl⟩ (λi us H' hi h=>?_) (λi x us H' N hi hx h k=>?_) (λus H' h=>?_)
   ·obtain⟨rfl,rfl⟩:=h;refine⟨?_,a8.of hl⟩;rw[EZ,xo];exact Hv (show _<=4000 by omega) (by decide)
   ·obtain⟨rfl,rfl⟩:=h;obtain⟨b,eb,hb⟩:=aV lk hx
    have ebn:bs.take (i+1)=bs.take i++[b]:=by rw[sf,eb];rfl
    have fin:N ((bs.take i).map V.bl++[V.bl b]) H:=k _ _ ⟨rfl,by rw[ebn,Aq];rfl⟩;refine ir ⟨_,rfl,s0,dx,_,rfl,h1,rfl,_,rfl,s0,p,a,x,rfl,S,?_⟩
    rcases hb with⟨s',p',cc,e,S',OV⟩|⟨t,ty,kt,OV⟩
    ·exact .inl ⟨s',p',cc,e,S',by rw[<-OV];exact fin⟩
    ·exact .inr ⟨t,ty,kt,by rw[<-OV];exact fin⟩
   ·obtain⟨rfl,rfl⟩:=h;rw[lb,yi];intro L hL;have s1:=av (o:=.lst (bs.map V.bl)) hL;have e1:upd H L (.lst (bs.map V.bl)) L=some (.lst (bs.map V.bl)):=aj;generalize upd H L _=H1 at s1 e1 |-
    have tr:Paired F5 (bs.map V.bl) bs:=by
     clear lb lk qE q e1
     induction bs with
     |nil=>exact .nil
     |cons b bs ih=>exact .cons rfl ih
    refine⟨L,_,bs,rfl,a8.of e1,tr,_,rfl,?_⟩
    cases hb:bs.all id with
    |false=>exact cA ⟨by decide,qE (.inl hb) _ s1⟩
    |true =>
     refine cu ?_;refine⟨_,rfl,l,zs,rfl,.inl (a8.of (s1 _ _ hl)),_,rfl,s0,dx,_,rfl,s1 _ _ h1,rfl,s0,dx,Mf,Dd,zt,a,rfl,s1 _ _ h1,s1 _ _ h3,bA.keep h4 (aJ.of s1),by omega,ak,λH2 s2=>?_⟩;have OW:=s1.trans s2;refine⟨_,_,rfl,rfl,_,rfl,?_⟩
     by_cases T5:(zs.length:Int)<cL a
     ·rw[Iw T5];exact cA ⟨by decide,qE (.inr T5) _ OW⟩
     ·rw[IA T5];obtain⟨R,Dk,Mk,Dd',Nd,d0,bd,VS,K7,VT,q⟩:=q hb (by omega);refine cu ?_;have S2:=S.same OW;have KO:=OW _ _ h1;have Lm:=OW _ _ h2;intro d T6;have s3:=av (o:=.dT []) T6;have e3:upd H2 d (.dT []) d=some (.dT []):=aj;generalize upd H2 d _=H3 at s3 e3 |-;refine⟨by decide,λtu Lx=>?_⟩;have s4:=av (o:=.tup []) Lx;have e4:upd H3 tu (.tup []) tu=some (.tup []):=aj;generalize upd H3 tu _=H4 at s4 e4 |-;have OX:=s3.trans s4;refine⟨_,rfl,s0,C,dx,_,_,rfl,OX _ _ KO,c.c.cl,c.c.nF,rfl,?_⟩;refine⟨by decide,λt5 YX=>?_⟩;have s5:=av (o:=.tup []) YX;have e5:upd H4 t5 (.tup []) t5=some (.tup []):=aj;generalize upd H4 t5 _=H5 at s5 e5 |-;have NQ:=OX.trans s5;refine⟨_,rfl,s0,C,dx,_,_,rfl,NQ _ _ KO,c.c.cl,c.c.nF,rfl,Mf,Jh,_,rfl,NQ _ _ Lm,rfl,?_⟩;dsimp only[tC,bx,ya];refine G6 (NQ _ _ Lm) hp λn6 YY=>?_;have s6:=av (o:=bY 1 1) YY;have e6:upd H5 n6 (bY 1 1) n6=some (bY 1 1):=aj;generalize upd H5 n6 _=H6 at s6 e6 |-;refine⟨jJ,λt7 YZ=>?_⟩;have s7:=av (o:=.tup [.ref t5,.ref n6]) YZ;have e7:upd H6 t7 (.tup [.ref t5,.ref n6]) t7=some (.tup [.ref t5,.ref n6]):=aj;generalize upd H6 t7 _=H7 at s7 e7 |-;refine⟨A8,λl8 Y0=>?_⟩;have s8:=av (o:=.lst [.ref t7]) Y0;have e8:upd H7 l8 (.lst [.ref t7]) l8=some (.lst [.ref t7]):=aj;generalize upd H7 l8 _=H8 at s8 e8 |-;have T7:=s6.trans (s7.trans s8);have T8:=NQ.trans T7;intro x9 Y1 Y2 Qp ne9
      refine mx (ts:=[([],(1,1))]) Y2 Qp ne9 (T8 _ _ Lm) hp e8 (.cons ⟨t7,t5,n6,rfl,s8 _ _ e7,T7 _ _ e5,(s7.trans s8) _ _ e6⟩ .nil) (BX hp) (λt ht=>by
       have:t=([],(1,1)):=by simpa using ht
       rw[this]
       exact ze List.Pairwise.nil (λk hk=>(nomatch hk)) (by decide)) λH9 s9 S9=>?_
      rw[FA hp] at S9;have T9:=s5.trans (T7.trans s9);have Ua:=OX.trans T9;have VU:=T9 _ _ (s4 _ _ e3);refine⟨tu,[],rfl,T9 _ _ e4,VU,?_⟩;have sb:SameBut d H9 (upd H9 d (.dT [([],.ref x9)])):=SameBut.upd
      have kn:∀T,(upd H9 d (.dT [([],.ref x9)])) T=none->Known C CF T p R (upd H9 d (.dT [([],.ref x9)])) [([],.ref x9)]:=by
       intro T hTn;refine⟨λks v e=>?_,by rw[cG (p:=(([]:List Key),V.ref x9)) (k:=ix []) rfl];rfl⟩
       by_cases z:([]:List Key)=ix ks
       ·rw[cG (p:=(([]:List Key),V.ref x9)) z] at e;have z:([]:List Int)=ks:=iC (show ix []=ix ks from z);subst z
        injection e with e
        obtain⟨PF,Y3,VV,D9,zs9,g1,g2,g3,g4⟩:=(S9.but VU sb).ex;exact⟨x9,e.symm,PF,Y3,VV,D9,zs9,g1,g2,g3,g4,λw=>by rw[w,hTn] at g3;cases g3⟩
       ·rw[cD (p:=(([]:List Key),V.ref x9)) z] at e
        cases e
      have sm:aE H (upd H9 d (.dT [([],.ref x9)])):=λb o e=>by
       have:=OW _ _ e;rw[aA (aB this T6)];exact Ua _ _ this
      have OY:upd H9 d (.dT [([],.ref x9)]) d=some (.dT [([],.ref x9)]):=aj;generalize upd H9 d _=Y4 at sm kn OY sb |-;refine⟨Gy _,λT hT=>?_⟩;have OZ:=av (o:=.lst []) hT;have Y5:upd Y4 T (.lst []) T=some (.lst []):=aj;generalize upd Y4 T _=H11 at OZ Y5 |-
      have nT:T≠d:=λz=>by rw[z,OY] at hT;cases hT
      have nTH:H T=none:=by
       cases z:H T with
       |none=>rfl
       |some o=>rw[sm _ _ z] at hT;cases hT
      have ndH:H d=none:=by
       cases z:H d with
       |none=>rfl
       |some o=>rw[OW _ _ z] at T6;cases T6
      have NR:=sm.trans OZ;clear s1 s2 s3 s4 s5 s6 s7 s8 s9 T7 T8 NQ OX T9 Ua e1 e3 e4 e5 e6 e7 e8 Y2 Qp Lx YX YY YZ Y0 hL S9 VU sb S2 KO Lm;have zl:=h4.length;obtain⟨lP,lL⟩:=ug hp d0 bd K7 VS al;refine⟨_,rfl,s0,C,dx,_,_,rfl,NR _ _ h1,c.c.cl,c.c.nT,rfl,Dd,rfl,⟨_,a8.of (NR _ _ h3)⟩,?_⟩
      refine iV (K:=K) (a:=Dd) (xs:=zt) (λi σ H'=>aE H H'/\(∃Jf,H' d=some (.dT Jf)/\Known C CF T p R H' Jf/\Jf.length<=1+4*i)/\(∃ws,H' T=some (.lst ws)/\bA H' ws (jh p R (a.take i)))/\∃o4 o5,σ=[some (.ref s0),some (.ref l),some (.ref d),some (.ref T),o4,o5])
       ⟨NR,⟨_,OZ _ _ OY,(kn T hT).same OZ,(by show 1<=1+4*0;decide)⟩,⟨[],Y5,.nil⟩,_,_,rfl⟩ (λi σ H' _ h=>a8.of (h.1 _ _ h3)) ?_ ?_
      ·rintro i y σ H12 hy ⟨J8,⟨Jf,NT,Qq,VW⟩,⟨ws,LA,hw⟩,o4,o5,rfl⟩;obtain⟨t,et,at_,pr,nu,rfl,JF,Jt,JB⟩:=aV h4 hy;have tm:=Gq et;have hi:i<a.length:=oi et;have t4:=VS t tm;obtain⟨k4,Y6,kp4⟩:=w8 t4.k
       have JM:a.take (i+1)=a.take i++[t]:=by rw[sf,et];rfl
       refine⟨at_,_,rfl,bq.of (J8 _ _ JF),rfl,_,_,rfl,_,_,rfl,rfl,?_⟩;refine⟨_,rfl,.inl ⟨rfl,_,a8.of LA⟩,_,rfl,_,rfl,_,rfl,d,l,pr,T,p,Jf,zs,t.1,R,Dk,Mk,ws,rfl,hp,LA,NT,Qq,by omega,J8 _ _ hl,J8 _ _ Jt,k4,λk hk=>⟨(VT t tm k hk).same J8,K7 k (Y6 k hk)⟩,λY7 Qr u K6 VX VY ab2 Su=>?_⟩;have VZ:=yL NT K6;have Mh:aE H Y7:=λb o e=>K6 _ _ (J8 _ _ e) (aB e ndH);have Qs:=K6 _ _ LA nT;have lw:=C1 hp (λk hk=>K7 k (Y6 k hk)) k4;obtain⟨du,_,_,V0⟩:=Su.hd;have nn:=t4.n.cd.num;have gn:Gn p 4000 t.2:=t4.n.cd.gn hp (by decide) (by have:=t4.n.d0;omega) (t4.n.bd.mono (by decide)) (t4.n.bn.mono (by decide));refine⟨u,du,_,rfl,V0,rfl,_,rfl,u,p,pw p R t.1,.ref nu,some (.int t.2.1,.int t.2.2),rfl,Su,hp,Hv lw.len (by decide),λx hx=>(lw.gn hp (by decide) (by decide) x hx).1,.two (Mh _ _ JB) (.int _) (.int _),?_,λ_=>⟨nu,_,_,rfl,Mh _ _ JB⟩,λz=>by rw[oP nn] at z;cases z⟩;intro t' b' y ey Mv Ox
       injection ey with ey
       subst ey;have e:=(Mh _ _ JB).symm.trans Mv
       injection e with e
       injection e with e
       injection e with e1 e
       injection e with e2 _
       injection e1 with e1
       injection e2 with e2
       subst e1;subst e2;refine⟨gn.2.1,gn.2.2,nn,(Am hp t4 K7).2.gth hp (by decide) (by decide),λUb x Kc Sx=>?_⟩;obtain⟨dxx,flx,ab4,Dx,zx,x1,x2,x3,x4⟩:=Sx.r.ex;refine⟨x,C,dxx,_,_,rfl,x1,c.c.cl,c.c.nT,rfl,T,Dx,ws,zx,rfl,rfl,Kc _ _ Qs,x3,?_,?_⟩
       ·rw[hw.length,x4.length];have h1:=((ug hp d0 bd K7 (ts:=a.take i) (λt ht=>VS t (tj ht)) (by rw[xo];omega)).1).len;have h2:=((Am hp t4 K7).2.tg hp (by decide)).len;have h2:(tg p (fh p (t.2.1,t.2.2) (pw p R t.1))).length<=32:=h2;exact Ig (show _<=4000 by omega) (by decide)
       have Qu:=Kc _ _ Qs
       have kL:aJ Ub (upd Ub T (.lst (ws++zx))):=aJ.upd λxs w=>by rw[Qu] at w;cases w
       have sb:SameBut T Ub (upd Ub T (.lst (ws++zx))):=SameBut.upd;have V1:=Kc _ _ VX;refine⟨λb o e=>?_,⟨Qr,by rw[aA (Bt nT)];exact V1,?_,by omega⟩,⟨_,aj,?_⟩,_,_,rfl⟩
       ·rw[aA (aB e nTH)];exact Kc _ _ (Mh _ _ e)
       ·exact(VY.same Kc).lst Qu sb
       ·rw[JM,w6];exact iU (bA.keep hw (VZ.trans ((aJ.of Kc).trans kL))) (bA.keep x4 kL)
      ·rintro σ H12 ⟨J8,⟨Jf,NT,Qq,VW⟩,⟨ws,LA,hw⟩,o4,o5,rfl⟩;rw[zl,yi] at hw;exact⟨_,rfl,s0,C,dx,_,_,rfl,J8 _ _ h1,c.c.cl,c.c.nF,rfl,_,rfl,Mf,Jh,T,p,ws,_,rfl,J8 _ _ h2,hp,LA,hw,lP.gth hp (by decide) (by decide),λY7 u K6 Su=>q _ u (J8.trans K6) Su.r⟩
end K09
namespace L2
open PySem PySem.W
noncomputable def Ad (K:Frag):List V->Hp->VK->Prop:=λxs H Q=>∃p ys,xs=[.ref p]/\((a8 K H p ys/\∀l,H l=none->Q (.ref l) (upd H l (.tup ys)))\/(bq K H p ys/\Q (.ref p) H))
noncomputable def wj (K:Frag):List V->Hp->VK->Prop:=λxs H Q=>∃p ys,xs=[.ref p]/\(a8 K H p ys\/bq K H p ys)/\Q (.int ys.length) H
noncomputable def AE (K:Frag):List V->Hp->VK->Prop:=λxs H Q=>∃(l:Addr)(ns:List Int),xs=[.ref l]/\a8 K H l (ns.map V.int)/\ns.length<64/\∀(D:Addr)(ms:List Int),H D=none->ms.Perm ns->ms.Pairwise (· <= ·)->Q (.ref D) (upd H D (.lst (ms.map V.int)))
variable {K:Frag}
section
variable {X:Cx}
theorem lM (hK:X.K=K):eW X (.type "tuple") (Ad K):=by subst hK;exact dO
theorem xf {K:Frag}(hK:X.K=K):eW X (.builtin "len") (wj K):=by subst hK;exact cb
theorem BS (hK:X.K=K):eW X (.builtin "sorted") (AE K):=by subst hK;exact afb
theorem GQ {K:Frag}(hK:X.K=K):Ds X (zO K):=by subst hK;exact bH
theorem GC (hK:X.K=K):Ds X (EN K):=by subst hK;exact cq
variable {tg l:Expr}{tl:TE}
theorem Hk (hK:X.K=K)(hl:PE X l tl):PI X tg l (Fu K tl):=by subst hK;exact pA hl
end
open PySem.Spec PyProof.Rows
section
variable {X:Cx}
noncomputable def E4 (K:PySem.W.Frag):R2:=λx y H Q=>∃p q xs,x=.ref p/\y=.ref q/\a8 K H p xs/\a8 K H q []/\Q (.bl (!decide (xs=[]))) H
theorem y6 {k:Nat}(hr:A1 k X.A):eT X (compareOp .NotEq) (E4 X.K):=by
 intro pins s σ H x y v u Q I rx ry h;obtain⟨p,q,xs,rfl,rfl,h1,h2,w⟩:=h
 by_cases e:xs=[]
 ·subst e;refine ij hr pins s σ H _ _ v u Q I rx ry ⟨.lst [],.lst [],?_,?_,by decide,w⟩
  ·unfold aQ;exact⟨p,[],rfl,h1,by unfold bz;rfl⟩
  ·unfold aQ;exact⟨q,[],rfl,h2,by unfold bz;rfl⟩
 ·cases(show v=Value.ref p from rx)
  cases(show u=Value.ref q from ry)
  obtain⟨its,r1,p1,_⟩:=I.list h1;obtain⟨Jj,r2,p2,_⟩:=I.list h2
  cases r2
  have hl:=r1.length;have hx:xs.length≠0:=λz=>e (zf z)
  have hs:(its.toArray.size != ([]:HF).toArray.size)=true:=by
   have:its.toArray.size≠0:=by rw[Jc];omega
   simpa using this
  exact SeqAt.RcNeAt.lists_lengths p1.isList p2.isList hs hr.agM X.prog X.w X.xe _ ⟨.bl true,H,I,rfl,by simpa[e] using w⟩
end
end L2
namespace K09
open PySem L2 PySem.W Nm Srt
noncomputable def HU (ks:List Int):Prop:=ks.Pairwise (· < ·)/\(∀k∈ks,0<=k)/\ks.length<64
theorem j3:∀{ks:List Int}{k:Int}(d:Int),ks.Pairwise (· < ·)->k∈ks->k<=ks.getLastD d
 |[],_,_,_,h=>nomatch h
 |[a],k,d,_,h=>by
  have:k=a:=by simpa using h
  subst this;exact ni _
 |a::b::r,k,d,hp,h=>by
  obtain⟨h1,h2⟩:=tN.mp hp;have e:(a::b::r).getLastD d=(b::r).getLastD a:=rfl;rw[e]
  rcases HK.mp h with rfl|h
  ·have:=j3 k h2 (qT (a:=b) (l:=r));have:=h1 b qT;omega
  ·exact j3 a h2 h
variable {ts:List Tm}
theorem lV {t:Tm}{k:Int}(ht:t∈ts)(hp:t.1.Pairwise (· < ·))(hk:k∈t.1):k<cL ts:=by
 have ne:t.1≠[]:=by intro z;rw[z] at hk;cases hk
 have hm:CO t∈(ts.filter λt=>!t.1.isEmpty).map CO:=EA.mpr ⟨t,zc.mpr ⟨ht,by
  cases q:t.1 with
  |nil=>exact absurd q ne
  |cons a r=>rfl⟩,rfl⟩
 obtain⟨b,e,_,hb⟩:=jf (ns:=(ts.filter λt=>!t.1.isEmpty).map CO) (by intro z;rw[z] at hm;cases hm);unfold cL;rw[e];have h1:=hb _ hm;have h2:=j3 0 hp hk;unfold CO at h1;show k<b;omega
variable {H:Hp}{ns:List Int}
theorem eJ {K:Frag}{a:Addr}(h:H a=some (.tup (ns.map V.int))):aQ K H (.tup (ns.map D.int)) (.ref a):=by
 unfold aQ;exact⟨a,_,rfl,bq.of h,Az ns⟩
theorem j7 (ns:List Int):jz (.tup (ns.map D.int))=1:=by unfold jz;rw[Fl]
theorem AS (h:∀t∈ts,HU t.1):0<=cL ts:=by
 unfold cL
 by_cases ne:(ts.filter λt=>!t.1.isEmpty).map CO=[]
 ·rw[ne];exact ni _
 ·obtain⟨b,e,b1,b2⟩:=jf ne;rw[e];show 0<=b;obtain⟨t,ht,rfl⟩:=EA.mp b1;obtain⟨KH,Qv⟩:=zc.mp ht
  have ne1:t.1≠[]:=by intro z;rw[z] at Qv;cases Qv
  obtain⟨k,r,ek⟩:=List.exists_cons_of_ne_nil ne1;obtain⟨p1,p2,p3⟩:=h t KH
  have km:k∈t.1:=by rw[ek];exact qT
  have h3:=j3 0 p1 km;have h4:=p2 k km;unfold CO;omega
theorem qD {n:Int}(hn:0<=n)(h:∀t∈ts,∀k∈t.1,k<n):cL ts<=n:=by
 unfold cL
 by_cases ne:(ts.filter λt=>!t.1.isEmpty).map CO=[]
 ·rw[ne];exact hn
 ·obtain⟨b,e,b1,b2⟩:=jf ne;rw[e];show b<=n;obtain⟨t,ht,rfl⟩:=EA.mp b1;obtain⟨KH,Qv⟩:=zc.mp ht
  have ne1:t.1≠[]:=by intro z;rw[z] at Qv;cases Qv
  have:t.1.getLastD 0∈t.1:=by
   rw[List.getLastD_eq_getLast?,List.getLast?_eq_some_getLast ne1];exact List.getLast_mem ne1
  have:=h t KH _ this;unfold CO;omega
noncomputable abbrev A0:Stmt:=(ba 16)
noncomputable def pU:V->Bool
 | .int i=>decide (0<=i)&&decide (i<=1)
 |_=>false
noncomputable def zD:Option (List V)->Bool
 |none=>false
 |some xs=>xs.all pU
noncomputable def AJ:Sp:=λvs H Q _=>∃x o,vs=[x]/\PX H x o/\∀H',aE H H'->Q (.bl (zD o)) H'
theorem DL:Eb IY IY (au A0):=dX (by decide +kernel)
variable {P:xq}{w:World}{K:PySem.W.Frag}{mg:Cw}{base:Heap}
variable {f:Addr}{fd:GS}
theorem Br (F:FY K "is_row_of_bits" "is_row_of_bits" A0 f fd)(Jg:mg "isinstance"=none)(m_tuple:mg "tuple"=none)(Jo:mg "all"=none)
 (q0:Ca P w K mg base 1 IY "is_whole" uE):xk P w K mg base (cI P w) 2 f fd IY AJ:=by
 obtain⟨fw,PD,FW,bW,mW,kW⟩:=q0;refine F.okN DL (λvs H Q E h=>?_) (λJi A outer s H vs Q E hr h=>?_)
 ·obtain⟨x,o,rfl,_⟩:=h;rfl
 ·obtain⟨x,o,rfl,px,q⟩:=h;have Jp:A1 1 _:=hr.mono (by decide)
  refine⟨_,az (aG (dH (aK bX (by rfl) Jg (by rfl) (ao (pv 0) (ao (d7 (by rfl) m_tuple (by rfl) (show aL (.ty "tuple") (.type "tuple") from rfl)) ai rfl) rfl))
   (fk (aK (fB rfl) (by rfl) Jo (by rfl) (ao (cj (N:=["bit"]) (nl:=1) (js:=[]) (osc:=au A0) ⟨rfl,rfl,by decide +kernel,by decide +kernel,by decide +kernel,rfl,.nil,by decide +kernel⟩ rfl
    (pA (pv 0))
    (λC fp s H=>aF (i:=0) (by show(["bit"]:F3).Nodup;decide +kernel) rfl (Or.inl rfl) (Or.inr rfl))
    (λC fp s H=>ck)
    (λC fp s H=>(dH (aD FW Jp (by rfl) mW kW bW .nil ae (ao (pv 0) ai rfl)) (fk (mh vJ vJ aq (pv 0) aq))))) ai rfl))))),?_⟩
  cases px with
  |@no x T th ne =>
   refine⟨_,rfl,x,.ty "tuple",_,_,_,rfl,rfl,th.ty,th.isTup,_,rfl,?_⟩;rw[IA ne];exact cu (q _ (aE.refl _))
  |@tup a xs ha hl PV =>
   refine⟨_,rfl,.ref a,.ty "tuple",_,_,_,rfl,rfl,.of (.tup ha),rfl,_,rfl,cA ?_⟩;refine⟨_,rfl,a,rfl,⟨xs,bq.of ha⟩,?_⟩;refine⟨λi m ys σ' H'=>m=xs.length-i/\i<=xs.length/\ys=((xs.take i).map pU).map V.bl/\H=H'/\∃o,σ'=[o],⟨xs.length,by simp,Gy _,by simp,rfl,none,rfl⟩,?_⟩;rintro i m ys σ' H' ⟨rfl,hi,rfl,rfl,o,rfl⟩;refine⟨Hv (by simp;omega) (Bb hl (by decide)),?_⟩
   by_cases Jk:i<xs.length
   ·refine .inr ⟨⟨xs,xs[i],bq.of ha,by simp[Jk]⟩,λy H2 hy=>?_⟩;obtain⟨rfl,hy⟩:=hy;have ey:=hy xs (bq.of ha);obtain⟨T,th⟩:=PV y (Gq ey)
    have e2:xs.take (i+1)=xs.take i++[y]:=by
     rw[sf,ey];rfl
    have done:∀b,b=pU y->∃m',m'<xs.length-i/\m'=xs.length-(i+1)/\i+1<=xs.length/\((xs.take i).map pU).map V.bl++[V.bl b]=((xs.take (i+1)).map pU).map V.bl/\H2=H2/\∃o,([some y]:St)=[o]:=λb hb =>
     ⟨xs.length-(i+1),by omega,rfl,Jk,by rw[e2,hb];simp,rfl,_,rfl⟩
    dsimp only[oZ,bK];refine cA ⟨_,rfl,y,T,rfl,th,_,rfl,?_⟩
    cases e:dq y with
    |false =>
     have z:pU y=false:=by cases y <;> first|rfl|cases e
     exact cu (done false z.symm)
    |true =>
     have z1:∃n,y=.int n:=by cases y <;> first|exact⟨_,rfl⟩|cases e
     obtain⟨n,rfl⟩:=z1;refine cA ⟨_,rfl,_,_,rfl,rfl,_,rfl,?_⟩;refine cX (λh=>?_) (λh=>?_)
     ·have h':decide (0<=n)=true:=h;exact⟨_,_,rfl,rfl,done _ (by show _=(decide (0<=n)&&decide (n<=1));rw[h',Je])⟩
     ·have h':decide (0<=n)=false:=by simpa using h
      exact done false (by show _=(decide (0<=n)&&decide (n<=1));rw[h',xt])
   ·have ei:i=xs.length:=by omega
    subst ei;refine .inl ⟨⟨xs,bq.of ha,yH _⟩,λD hD=>?_⟩;rw[yi];refine⟨D,_,xs.map pU,rfl,a8.of aj,lZ _,?_⟩
    have z:(xs.map pU).all id=zD (some xs):=by rw[EU];rfl
    rw[z];exact q _ (av hD)
noncomputable abbrev tQ:Stmt:=(ba 15)
inductive LX (H:Hp):V->Option (List V)->Prop where
 |no {x:V}{T:String}:Th H x T->T ≠ "list"->LX H x none
 |lst {a:Addr}{xs:List V}:H a=some (.lst xs)->xs.length<4000->(∀y∈xs,∃T,Th H y T)->LX H (.ref a) (some xs)
theorem Th.aj5 {K:Frag}{x:V}{T:String}(h:Th H x T):kitOne K (.type T) (.type "list")=some (decide (T="list")):=by cases h <;> rfl
noncomputable def pG:Option (List V)->Bool
 |none=>false
 |some xs=>xs.all b7&&decide xs.Nodup
theorem oY {xs:List V}(h:xs.all b7=true):∃ns:List Int,xs=ns.map V.int:=by
 induction xs with
 |nil=>exact⟨[],rfl⟩
 |cons x xs ih =>
  rw[rS,Ir] at h;obtain⟨ns,rfl⟩:=ih h.2
  have:∃n,x=V.int n:=by
   have:=h.1
   cases x <;> first|exact⟨_,rfl⟩|cases this
  obtain⟨n,rfl⟩:=this;exact⟨n::ns,rfl⟩
theorem ig :(ns.map V.int).Nodup↔ns.Nodup:=by
 unfold List.Nodup;rw[yP];constructor
 ·intro h;exact h.imp λh z=>h (by rw[z])
 ·intro h;exact h.imp λh z=>h (by injection z)
noncomputable def An:Sp:=λvs H Q _=>∃x o,vs=[x]/\LX H x o/\∀H',aE H H'->Q (.bl (pG o)) H'
theorem BM:Eb IY IY (au tQ):=dX (by decide +kernel)
theorem Ag (F:FY K "is_order" "is_order" tQ f fd)(Jg:mg "isinstance"=none)(m_list:mg "list"=none)(Jo:mg "all"=none)(m_len:mg "len"=none)(JY:mg "set"=none)
 (q0:Ca P w K mg base 2 IY "is_place" CH):xk P w K mg base (cI P w) 3 f fd IY An:=by
 obtain⟨fp,OK,FP,bP,mP,kP⟩:=q0;refine F.okN BM (λvs H Q E h=>?_) (λJi A outer s H vs Q E hr h=>?_)
 ·obtain⟨x,o,rfl,_⟩:=h;rfl
 ·obtain⟨x,o,rfl,px,q⟩:=h;have JD:A1 2 _:=hr.mono (by decide)
  refine⟨_,(ar (bo (PW.pt (iP (cz (cB (aK bX (by rfl) Jg (by rfl) (ao (pv 0) (ao (d7 (by rfl) m_list (by rfl) (show aL (.ty "list") (.type "list") from rfl)) ai rfl) rfl)))) (f9 (cz (cB (aK (fB rfl) (by rfl) Jo (by rfl) (ao (cj (N:=["place"]) (nl:=1) (js:=[]) (osc:=au tQ) ⟨rfl,rfl,by decide +kernel,by decide +kernel,by decide +kernel,rfl,.nil,by decide +kernel⟩ rfl
   (b9 (pv 0))
   (λC fp s H=>aF (i:=0) (by show(["place"]:F3).Nodup;decide +kernel) rfl (Or.inl rfl) (Or.inr rfl))
   (λC fp s H=>ck)
   (λC fp s H=>(aD FP JD (by rfl) mP kP bP .nil ae (ao (pv 0) ai rfl)))) ai rfl))))))) (az (aG fJ)) aI)
   (az (aG (cN dU (afm (pv 0) rfl (by rfl) m_len (by rfl) JY) (aK cb (by rfl) m_len pF (ao (pv 0) ai rfl)) (aM _))))),?_⟩
  cases px with
  |@no x T th ne =>
   refine⟨_,rfl,x,.ty "list",_,_,_,rfl,rfl,th.ty,th.aj5,_,rfl,?_⟩;rw[IA ne];exact cA (cA (q _ (aE.refl _)))
  |@lst a xs ha hl PV =>
   refine⟨_,rfl,.ref a,.ty "list",_,_,_,rfl,rfl,.of (.lst ha),rfl,_,rfl,cu ?_⟩;refine⟨_,rfl,a,rfl,⟨xs,a8.of ha⟩,?_⟩;refine⟨λi m ys σ' H'=>m=xs.length-i/\i<=xs.length/\ys=((xs.take i).map b7).map V.bl/\H=H'/\∃o,σ'=[o],⟨xs.length,by simp,Gy _,by simp,rfl,none,rfl⟩,?_⟩;rintro i m ys σ' H' ⟨rfl,hi,rfl,rfl,o,rfl⟩;refine⟨Hv (by simp;omega) (Bb hl (by decide)),?_⟩
   by_cases Jk:i<xs.length
   ·refine .inr ⟨⟨xs,xs[i],a8.of ha,by simp[Jk]⟩,λy H2 hy=>?_⟩;obtain⟨rfl,hy⟩:=hy;have ey:=hy xs (a8.of ha);obtain⟨T,th⟩:=PV y (Gq ey);dsimp only[oZ,bK];refine cA ⟨_,rfl,y,T,rfl,th,xs.length-(i+1),by omega,rfl,Jk,?_,rfl,_,rfl⟩
    have e2:xs.take (i+1)=xs.take i++[y]:=by
     rw[sf,ey];rfl
    rw[e2];simp
   ·have ei:i=xs.length:=by omega
    subst ei;refine .inl ⟨⟨xs,a8.of ha,yH _⟩,λD hD=>?_⟩;rw[yi];refine⟨D,_,xs.map b7,rfl,a8.of aj,lZ _,_,rfl,?_⟩;have sD:aE H (upd H D (.lst ((xs.map b7).map V.bl))):=av hD
    cases hp:(xs.map b7).all id with
    |false =>
     have z:pG (some xs)=false:=by
      show(xs.all b7&&decide xs.Nodup)=_
      have:xs.all b7=false:=by rw[<-hp,EU];rfl
      rw[this,xt]
     rw[z] at q;exact cA (q _ sD)
    |true =>
     refine cu ?_
     have Y8:xs.all b7=true:=by rw[<-hp,EU];rfl
     have z:pG (some xs)=decide xs.Nodup:=by
      show(xs.all b7&&decide xs.Nodup)=_;rw[Y8,Je]
     rw[z] at q;obtain⟨ns,rfl⟩:=oY Y8;have JK:=sD _ _ ha;refine⟨_,rfl,a,ns,rfl,a8.of JK,by rw[EZ] at hl;exact hl,_,rfl,a,_,rfl,.inl (a8.of JK),rfl,?_⟩;rw[EZ]
     have e:decide (V.int (nh ns:Int)=V.int (ns.length:Int))=decide (ns.map V.int).Nodup:=by
      by_cases nd:ns.Nodup
      ·rw[Iw (ig.mpr nd),(uK ns).mpr nd];simp
      ·rw[IA (λz=>nd (ig.mp z))];have:nh ns≠ns.length:=λz=>nd ((uK ns).mp z)
       have:¬((nh ns:Nat):Int)=(ns.length:Int):=by omega
       simp[this]
     rw[e];exact q _ sD
noncomputable abbrev sQ:Stmt:=aU (ba 31) 13
noncomputable def dk (bs:List Int)(ks:List Int):Bool:=(ks.filter λk=>bs.getD k.toNat 0==0).isEmpty
noncomputable def cg (p:Int)(bs:List Int)(a:Int×Int)(t:Tm):Int×Int:=if dk bs t.1=true then dn p a t.2 else a
noncomputable def aC (p:Int)(bs:List Int)(ts:List Tm):Int×Int:=ts.foldl (cg p bs) (0,1)
theorem kh (p:Int)(bs:List Int)(ts:List Tm)(t:Tm):aC p bs (ts++[t])=cg p bs (aC p bs ts) t:=by
 unfold aC;rw[List.foldl_append];rfl
theorem oQ {bs:List Int}{k:Int}(h0:0<=k)(h1:k<(bs.length:Int)):qX (bs.map V.int) k=some (.int (bs.getD k.toNat 0)):=by
 unfold qX xI;rw[EZ,qk h0,qk h1];show(bs.map V.int)[k.toNat]?=_
 have hk:k.toNat<bs.length:=by omega
 rw[CR,Ii hk,GJ,Ii hk];rfl
variable {p:Int}
theorem B6 {D:Int}(hp:FP p)(hD:0<D):Cd p D 0 (0,1):=⟨⟨by decide,by decide,λz=>⟨rfl,by decide,by have:=(hp.two z).2.1;show(0:Int)<p;omega⟩⟩,λ_=>⟨D,sr _,by simp⟩⟩
theorem rj {D M:Int}{bs:List Int}(hp:FP p)(hD:0<D)(hM:0<=M):∀(ts:List Tm)(a:Int×Int)(N:Int),0<=N->Cd p D N a->(∀t∈ts,Cd p D M t.2)->Cd p D (N+M*ts.length) (ts.foldl (cg p bs) a)
 |[],a,N,_,ha,_=>ha.mono (by simp)
 |t::ts,a,N,hN,ha,h=>by
  have ht:=h t qT
  have a1:Cd p D (N+M) (cg p bs a t):=by
   unfold cg
   split
   ·exact ha.add hp ht
   ·exact ha.mono (by omega)
  have:=rj (bs:=bs) hp hD hM ts _ (N+M) (by omega) a1 λt h'=>h t (rB _ h');refine this.mono ?_;rw[sR];push_cast;rw[Int.mul_add];omega
variable {m n:Nat}
theorem Lv.worth (bs:List Int)(h:Lv p m n ts)(hp:FP p)(hm:m+12<=4000)(hn:n<4000):Gn p (m+12) (aC p bs ts):=by
 obtain⟨D,M,d0,m0,bd,bm,h⟩:=h;have c:=rj (bs:=bs) hp d0 m0 ts (0,1) 0 (ni 0) (B6 hp d0) h.d;rw[Int.zero_add] at c;have hl:=h.l;exact c.gn hp (by omega) (by omega) (bd.mono (by omega)) (bm.mul (vQ (k:=12) (Ip (show ts.length<4096 by omega) (by decide))))
theorem Lv.take (h:Lv p m n ts)(i:Nat):Lv p m n (ts.take i):=by
 obtain⟨D,M,d0,m0,bd,bm,h⟩:=h;exact⟨D,M,d0,m0,bd,bm,λt ht=>h.d t (tj ht),λt ht=>h.k t (tj ht),by rw[xo];have:=h.l;omega⟩
theorem Lv.prw (h:Lv p m n ts):∀t∈ts,HU t.1:=λt ht=>⟨(h.k t ht).1,λk hk=>((h.k t ht).2 k hk).1,by have:=(h.k t ht).len;omega⟩
theorem Lv.reach (h:Lv p m n ts):cL ts<=5:=qD (by decide) λt ht k hk=>((h.k t ht).2 k hk).2
noncomputable def tK (bs:List Int):Prop:=5<=bs.length/\bs.length<64/\∀b∈bs,0<=b/\b<=1
structure Wb (ts:List Tm)(bs:List Int):Prop where
 l:bs.length<64
 b:∀b∈bs,0<=b/\b<=1
 r:cL ts<=bs.length
theorem tK.lng {bs:List Int}(h:tK bs)(l:Lv p m n ts):Wb ts bs:=⟨h.2.1,h.2.2,by have:=l.reach;have:=h.1;omega⟩
theorem Wb.all {bs:List Int}(h:Wb ts bs):zD (some (bs.map V.int))=true:=by
 show(bs.map V.int).all pU=true;rw[BP];intro y hy;obtain⟨b,hb,rfl⟩:=EA.mp hy;have:=h.b b hb;show(decide (0<=b)&&decide (b<=1))=true;simp[this]
structure xN (C CF:Addr)(H:Hp)(s dx fl Jh D:Addr)(p:Int)(zs:List V)(ts:List Tm):Prop where
 hs:H s=some (.ins C dx (pq fl D))
 hf:H fl=some (.ins CF Jh (dS p))
 hp:FP p
 hD:H D=some (.lst zs)
 hz:bA H zs ts
variable {C CF:Addr}
theorem xN.same {H':Hp}{s dx fl Jh D:Addr}{zs:List V}(h:xN C CF H s dx fl Jh D p zs ts)(e:aE H H'):xN C CF H' s dx fl Jh D p zs ts :=
 ⟨e _ _ h.hs,e _ _ h.hf,h.hp,e _ _ h.hD,bA.keep h.hz (aJ.of e)⟩
noncomputable def ph (C CF:Addr):Sp:=λvs H Q _=>∃(s a:Addr)(p:Int)(ts:List Tm)(m n:Nat)(bs:List Int),vs=[.ref s,.ref a]/\xJ C CF H s p ts/\FP p/\Lv p m n ts/\m+12<=4000/\n<4000/\H a=some (.tup (bs.map V.int))/\Wb ts bs /\
 ∀H' a,aE H H'->H' a=some (bY (aC p bs ts).1 (aC p bs ts).2)->Q (.ref a) H'
theorem i6:Eb ["self","filling","total","product","number"] ["self","filling"] (au sQ):=dX (by decide +kernel)
theorem vZ:∀ns:List Int,Paired F5 (ns.map V.int) (ns.map λn=>n != 0)
 |[]=>.nil
 |b::bs=>.cons rfl (vZ bs)
variable {ks:List Int}
theorem uI {bs:List Int}:((ks.map λk=>bs.getD k.toNat 0).map λn=>n != 0).all id=dk bs ks:=by
 unfold dk;rw[wJ,EU]
 induction ks with
 |nil=>rfl
 |cons k r ih =>
  rw[rS,ih];show((bs.getD k.toNat 0 != 0)&&_)=_
  by_cases z:bs.getD k.toNat 0=0
  ·rw[List.filter_cons_of_pos (by show(bs.getD k.toNat 0==0)=true;rw[z];rfl)];rw[z];rfl
  ·rw[qA (by show ¬(bs.getD k.toNat 0==0)=true;intro y;exact z (eq_of_beq y))]
   have:(bs.getD k.toNat 0 != 0)=true:=by simpa using z
   rw[this,Je]
theorem Gp {NN:Addr}{Q:VK}{E:XK}{fl Jh:Addr}(hf:H fl=some (.ins CF Jh (dS p)))(hp:FP p)(q:∀a,H a=none->Q (.ref a) (upd H a (bY 0 1))):ia CF NN [.ref fl,.int 0,.int 1] H Q E:=by
 refine⟨fl,Jh,p,.int 0,.int 1,"int","int",rfl,hf,.int 0,.int 1,λt b e1 e2=>?_,λz=>by cases z⟩
 cases e1
 cases e2
 refine⟨fl,Jh,p,0,1,rfl,hf,hp,(by show(1:Int).natAbs<2^9000;exact Ip (by decide:(1:Int).natAbs<2^1) (Nat.pow_le_pow_right (by decide) (by decide))),λ_ z=>absurd z (by decide),λ_ _ a ha=>?_,λz y=>?_,λz _ v v0 v1 v2 a ha=>?_⟩
 ·have z:=lG (t:=0) (b:=1) (by decide) (by simp);rw[z.1,z.2];exact q a ha
 ·have:=(hp.two z).2.1;rw[yd (by decide) (by omega)] at y
  cases y
 ·rw[Int.zero_mul,Int.zero_emod];exact q a ha
theorem Ap {NF NN fm:Addr}{Ql:GS}{tM:Tok}(F:FY K "worth" "Sum.worth" sQ f fd)(c:F2 K mg C)(cF:Fv K mg CF)(m_len:mg "len"=none)(Jo:mg "all"=none)
 (q0:Ca P w K mg base 2 IY "is_row_of_bits" AJ)
 (q1:Cm P w K mg base 1 ["self"] C "reach" (jU C))
 (FM:xk P w K mg base (cI P w) 4 fm Ql xV (ia CF NN))(bM:L2.b8 K Ql xV [.int 1 tM])(mM:L2.Meth K CF "made" fm)
 (q2:Cm P w K mg base 4 AY CF "plus" (oo CF jE))
 (mN:mg "NoFilling"=some (.ref NF))(qN:gB K NF um ik=true):xk P w K mg base (cI P w) 5 f fd ["self","filling"] (ph C CF):=by
 obtain⟨fb,TZ,FB,bB,mB,kB⟩:=q0;obtain⟨fr,YW,FR,bR,mR⟩:=q1;obtain⟨fp,OK,FP,bP,mP⟩:=q2;refine F.okE i6 (λvs H Q E h=>?_) (λJi A outer s H vs Q E hr h=>?_)
 ·obtain⟨s,a,p,ts,m,n,bs,rfl,_⟩:=h;rfl
 ·obtain⟨s0,a,p,ts,m,n,bs,rfl,⟨dx,fl,Jh,D,zs,S1,S2,S3,S4⟩,hp,L,hm,hn,ha,hb,q⟩:=h;have S:xN C CF H s0 dx fl Jh D p zs ts:=⟨S1,S2,hp,S3,S4⟩;clear S1 S2 S3 S4;have KD:A1 4 _:=hr.mono (by decide);have JD:A1 2 _:=hr.mono (by decide);have Jp:A1 1 _:=hr.mono (by decide);have Jk:=L.len;have hG:=L.prw;have hrc:=hb.r
  refine⟨_,(ar (bo (PW.pt (iP (cz (cB (aD FB JD (by rfl) mB kB bB .nil ae (ao (pv 1) ai rfl)))) (f9 (aS iJ (aK cb (by rfl) m_len pF (ao (pv 1) ai rfl)) (mi (pv 0) c.cl mR FR Jp bR .nil ae) (aM _))))) (az (cU Bi qN rfl cy (by rfl) mN (ao eI ai rfl))) aI)
   (ar (@aY _ _ 2 _ _ _ _ i6.nd rfl (Or.inl rfl) (aR (dvs:=[.int 1]) (bh (pv 0) rfl) cF.cl mM FM KD bM (.cons ⟨_,rfl⟩ .nil) ae (ao aq ai rfl)) rfl (Or.inl rfl))
   (qc.nox (ar (eG E5 rfl (b9 (bh (pv 0) rfl)) (dJ rfl (aO (aF (i:=3) i6.nd rfl (Or.inl rfl)) (aO (aF (i:=4) i6.nd rfl (Or.inl rfl)) cJ)))
   (az (bo (cB (aK (fB rfl) (by rfl) Jo (by rfl) (ao (cj (N:=["place","filling"]) (nl:=1) (js:=[1]) (osc:=au sQ) ⟨rfl,rfl,by decide +kernel,by decide +kernel,by decide +kernel,rfl,(.cons ⟨rfl,by decide +kernel⟩ .nil),by decide +kernel⟩ rfl
    (pA (pv 3))
    (λC fp s H=>aF (i:=0) (by show(["place","filling"]:F3).Nodup;decide +kernel) rfl (Or.inl rfl) (Or.inr rfl))
    (λC fp s H=>ck)
    (λC fp s H=>(bf (show Ds _ (zO K) from bH) (pv 1) (pv 0) (λ_ _=>rfl)))) ai rfl))) (az (@aY _ _ 2 _ _ _ _ i6.nd rfl (Or.inl rfl) (aR (bh (pv 0) rfl) cF.cl mP FP KD bP .nil ae (ao (pv 2) (ao (pv 4) ai rfl) rfl)) rfl (Or.inl rfl))) aI)))
   (az (aG (pv 2))))))),?_⟩
  refine⟨_,rfl,.ref a,some (bs.map V.int),rfl,.tup ha (by rw[EZ];have:=hb.l;omega) (λy hy=>?_),λH1 s1=>⟨_,rfl,?_⟩⟩
  ·obtain⟨b,_,rfl⟩:=EA.mp hy;exact⟨_,.int b⟩
  rw[hb.all];refine cu ?_;have JK:=s1 _ _ ha;have S1:=S.same s1;refine⟨_,rfl,a,bs.map V.int,rfl,.inr (bq.of JK),_,rfl,s0,dx,_,rfl,S1.hs,rfl,s0,dx,fl,D,zs,ts,rfl,S1.hs,S1.hD,S1.hz,by omega,λt ht=>by have:=(hG t ht).2.2;omega,λH2 s2=>?_⟩;refine⟨_,_,rfl,rfl,_,rfl,?_⟩;have J8:=s1.trans s2;refine cX (λh=>?_) (λh=>?_)
  ·have h':(((bs.map V.int).length:Nat):Int)<cL ts:=by simpa using h
   rw[EZ] at h';omega
  ·have h5:=hb.r;have q':=q
   have gg:∀i,i<=ts.length->Gn p 4000 (aC p bs (ts.take i)):=λi hi=>by
    have b:=(L.take i).worth bs hp hm hn;exact⟨b.1,b.2.1.mono hm,b.2.2.mono hm⟩
   have gT:=(L.gth hp hm hn).num;have S2:=S.same J8;have LU:=J8 _ _ ha;have hlen:=S.hz.length;refine⟨_,rfl,s0,C,dx,_,_,rfl,S2.hs,c.cl,c.nF,rfl,fl,Jh,_,rfl,S2.hf,rfl,Gp S2.hf S.hp λa0 Vk=>?_⟩;have s3:aE H (upd H2 a0 (bY 0 1)):=J8.trans (av Vk);have S3:=S.same s3;refine⟨_,rfl,s0,C,dx,_,_,rfl,S3.hs,c.cl,c.nT,rfl,D,rfl,⟨zs,a8.of S3.hD⟩,?_⟩
   refine iV (xs:=zs) (λi σ' H'=>aE H H'/\∃aw o3 o4,H' aw=some (bY (aC p bs (ts.take i)).1 (aC p bs (ts.take i)).2)/\σ'=[some (.ref s0),some (.ref a),some (.ref aw),o3,o4])
    ⟨s3,a0,none,none,aj,rfl⟩ (λi σ' H' _ h=>a8.of (h.1 _ _ S.hD)) (λi y σ' H' hy h=>?_) (λσ' H' h=>?_)
   ·obtain⟨sH,aw,o3,o4,hw,rfl⟩:=h;obtain⟨t,et,tr⟩:=aV S.hz hy;obtain⟨at_,pr,nu,rfl,JF,Jt,JB⟩:=tr.keep (aJ.of sH);have tm:=Gq et;obtain⟨pw,k0,kl⟩:=hG t tm;have gt:=gT t tm
    have ilt:i<ts.length:=by
     rcases yO i ts.length with z|z
     ·exact z
     ·rw[List.getElem?_eq_none z] at et;cases et
    have JM:ts.take (i+1)=ts.take i++[t]:=by rw[sf,et];rfl
    have SH:=S.same sH;have V2:=sH _ _ ha;refine⟨at_,_,rfl,bq.of JF,rfl,_,_,rfl,_,_,rfl,rfl,?_⟩;refine⟨_,rfl,pr,rfl,⟨_,bq.of Jt⟩,?_⟩;refine rY (xs:=t.1.map V.int) (λj us H3=>H'=H3/\us=((t.1.take j).map λk=>bs.getD k.toNat 0).map V.int) ⟨rfl,rfl⟩ (λj us H3 hj h=>?_) (λj x us H3 N hj hx h k=>?_) (λus H3 h=>?_)
    ·obtain⟨rfl,rfl⟩:=h;exact⟨Hv (by simp;omega) (Bb kl (by decide)),bq.of Jt⟩
    ·obtain⟨rfl,rfl⟩:=h
     have LS:j<t.1.length:=by simpa using hj
     have ex:t.1[j]?=some t.1[j]:=by simp[LS]
     have ev:x=.int t.1[j]:=by
      rw[CR,ex] at hx;exact(Option.some.inj hx).symm
     subst ev;have km:=BK LS;have k1:=lV tm pw km
     have ek:t.1.take (j+1)=t.1.take j++[t.1[j]]:=by rw[sf,ex];rfl
     refine ir ⟨_,rfl,_,rfl,a,_,_,_,rfl,rfl,bq.of V2,oQ (k0 _ km) (by omega),k _ _ ⟨rfl,?_⟩⟩;rw[ek,Aq,Aq];rfl
    ·obtain⟨rfl,rfl⟩:=h;intro L hL;rw[EZ,yi];have sL:aE H' (upd H' L (.lst ((t.1.map λk=>bs.getD k.toNat 0).map V.int))):=av hL;refine⟨L,_,_,rfl,a8.of aj,vZ _,_,rfl,?_⟩;rw[uI];have gw:=gg i (xx ilt);have SL:=SH.same sL
     cases Qw:dk bs t.1 with
     |true =>
      have ew:cg p bs (aC p bs (ts.take i)) t=dn p (aC p bs (ts.take i)) t.2:=by unfold cg;rw[qk Qw]
      refine cA ⟨_,rfl,s0,C,dx,_,_,rfl,SL.hs,c.cl,c.nF,rfl,fl,Jh,_,rfl,SL.hf,rfl,_,rfl,_,rfl,fl,Jh,aw,nu,p,(aC p bs (ts.take i)).1,(aC p bs (ts.take i)).2,t.2.1,t.2.2,rfl,SL.hf,S.hp,sL _ _ hw,sL _ _ JB,gw.2.1,gw.2.2,gt.2.1,gt.2.2,gw.ne,gt.ne,λan han=>?_⟩;refine⟨sH.trans (sL.trans (av han)),an,_,_,?_,rfl⟩;rw[JM,kh,ew];exact aj
     |false =>
      have ew:cg p bs (aC p bs (ts.take i)) t=aC p bs (ts.take i):=by unfold cg;rw[IX (by rw[Qw];decide)]
      refine cu ⟨sH.trans sL,aw,_,_,?_,rfl⟩;rw[JM,kh,ew];exact sL _ _ hw
   ·obtain⟨sH,aw,o3,o4,hw,rfl⟩:=h;rw[hlen,yi] at hw;exact⟨_,rfl,q' _ aw sH hw⟩
noncomputable abbrev iT:Stmt:=aU (ba 31) 14
noncomputable def IV (sc osc:Scope):Scope:={sc with names:=sc.names.map λ(n,k)=>if(k == .free&&osc.kind == .function&&osc.names.lookup n==some .cell) then(n,.cell) else(n,k)}
noncomputable def xT (ns:List Int):List Int:=ns.mergeSort λa b=>decide (a<=b)
theorem CW {ms:List Int}(p:ms.Perm ns)(h:ms.Pairwise (· <= ·)):ms=xT ns:=by
 have h2:(xT ns).Pairwise (· <= ·):=by
  have z:=List.pairwise_mergeSort (le:=λa b:Int=>decide (a<=b)) (by simp;intro a b c;omega) (by simp;intro a b;omega) ns;exact z.imp λh=>mZ h
 exact List.Perm.eq_of_pairwise (le:=λa b:Int=>a<=b) (λa b _ _ h1 h2=>Int.le_antisymm h1 h2) h h2 (p.trans (Bc ns _).symm)
noncomputable def zZ (ns:List Int)(t:Tm):Tm:=(xT (t.1.map λk=>ns.getD k.toNat 0),t.2)
structure Hf (ns:List Int):Prop where
 len:ns.length=5
 nd:ns.Nodup
 pl:∀n∈ns,0<=n/\n<5
theorem Hf.all (h:Hf ns):pG (some (ns.map V.int))=true:=by
 show((ns.map V.int).all b7&&decide (ns.map V.int).Nodup)=true;rw[Ir];refine⟨BP.mpr λy hy=>?_,Iw (ig.mpr h.nd)⟩;obtain⟨b,hb,rfl⟩:=EA.mp hy;have:=h.pl b hb;show(decide (0<=b)&&decide (b<60))=true;rw[Ir];exact⟨Iw this.1,Iw (by omega)⟩
noncomputable def nj (C CF:Addr):Sp:=λvs H Q _=>∃(s a:Addr)(p:Int)(ts:List Tm)(m n:Nat)(ns:List Int),vs=[.ref s,.ref a]/\xJ C CF H s p ts/\FP p/\Lv p m n ts/\m+12<=4000/\n<4000/\H a=some (.lst (ns.map V.int))/\Hf ns/\xh p (ts.map (zZ ns)) /\
 ∀H' u,aE H H'->jg C CF H H' u p (tg p (ts.map (zZ ns)))->Q (.ref u) H'
theorem yj:Eb B7 B7 (au iT):=dX (by decide +kernel)
theorem uy {NO:Addr}(F:FY K "renamed" "Sum.renamed" iT f fd)(c:F2 K mg C)(m_len:mg "len"=none)(m_tuple:mg "tuple"=none)(Jn:mg "sorted"=none)
 (q0:Ca P w K mg base 3 IY "is_order" An)
 (q2:Cm P w K mg base 1 ["self"] C "reach" (jU C))
 (q1:Ca P w K mg base 8 qV "built" (gS C CF))
 (mN:mg "NoOrder"=some (.ref NO))(qN:gB K NO um ik=true):xk P w K mg base (cI P w) 9 f fd B7 (nj C CF):=by
 obtain⟨fo,TQ,FO,bO,mO,kO⟩:=q0;obtain⟨fu,fdu,FU,bU,mU,kU⟩:=q1;obtain⟨fr,YW,FR,bR,mR⟩:=q2;refine F.okE yj (λvs H Q E h=>?_) (λJi A outer s H vs Q E hr h=>?_)
 ·obtain⟨s,a,p,ts,m,n,ns,rfl,_⟩:=h;rfl
 ·obtain⟨s0,a,p,ts,m,n,ns,rfl,⟨dx,fl,Jh,D,zs,S1,S2,S3,S4⟩,hp,L,hm,hn,ha,hb,hgt,q⟩:=h;have S:xN C CF H s0 dx fl Jh D p zs ts:=⟨S1,S2,hp,S3,S4⟩;clear S1 S2 S3 S4;have Kw:A1 8 _:=hr.mono (by decide);have K1:A1 3 _:=hr.mono (by decide);have Jp:A1 1 _:=hr.mono (by decide);have Jk:=L.len;have hG:=L.prw;have hrc:=L.reach;have h5:=hb.len
  refine⟨_,(ar (bo (PW.pt (iP (cz (cB (aD FO K1 (by rfl) mO kO bO .nil ae (ao (pv 1) ai rfl)))) (f9 (aS iJ (aK cb (by rfl) m_len pF (ao (pv 1) ai rfl)) (mi (pv 0) c.cl mR FR Jp bR .nil ae) (aM _))))) (az (cU Bi qN rfl cy (by rfl) mN (ao eI ai rfl))) aI)
   (az (aG (aD FU Kw (by rfl) mU kU bU .nil ae (ao (bh (pv 0) rfl) (ao (cj (g:=jM K 2 (cV (bK 0) (cV (bK 1) Iu))) (te:=xY (bx (Gh (Ad K) (bx (Gh (AE K) (bx (uT (Fu K (dg 0)) (bK 0) oZ (oq (EN K) (dg 1) (dg 0)) 1 [2]) ya)) ya)) (bx (dg 1) ya))) (N:=["product","number","order"]) (nl:=2) (js:=[1]) (osc:=au iT) ⟨rfl,rfl,by decide +kernel,by decide +kernel,by decide +kernel,rfl,(.cons ⟨rfl,by decide +kernel⟩ .nil),by decide +kernel⟩ rfl
    (b9 (bh (pv 0) rfl))
    (λC fp s H=>(dJ (X:=cS _ ["product","number","order"] _ C fp s H) rfl (aO (aF (X:=cS _ ["product","number","order"] _ C fp s H) (i:=0) (by show(["product","number","order"]:F3).Nodup;decide +kernel) rfl (Or.inl rfl) (Or.inr rfl)) (aO (aF (X:=cS _ ["product","number","order"] _ C fp s H) (i:=1) (by show(["product","number","order"]:F3).Nodup;decide +kernel) rfl (Or.inl rfl) (Or.inr rfl)) cJ))))
    (λC fp s H=>ck)
    (λC fp s H=>(bF (ao (eA (lM rfl) (by rfl) m_tuple (by rfl) (ao (aK (BS rfl) (by rfl) Jn (by rfl) (ao (cj (N:=["place","order"]) (nl:=1) (js:=[2]) (osc:=IV _ (au iT)) ⟨rfl,rfl,by decide +kernel,by decide +kernel,by decide +kernel,rfl,(.cons ⟨rfl,by decide +kernel⟩ .nil),by decide +kernel⟩ rfl
    (Hk rfl (pv 0))
    (λC fp s H=>aF (i:=0) (by show(["place","order"]:F3).Nodup;decide +kernel) rfl (Or.inl rfl) (Or.inr rfl))
    (λC fp s H=>ck)
    (λC fp s H=>(bf (GC rfl) (pv 1) (pv 0) (λ_ _=>rfl)))) ai rfl)) ai rfl)) (ao (pv 1) ai rfl) rfl)))) ai rfl) rfl))))),?_⟩
  refine⟨_,rfl,.ref a,some (ns.map V.int),rfl,.lst ha (by rw[EZ];omega) (λy hy=>?_),λH1 s1=>⟨_,rfl,?_⟩⟩
  ·obtain⟨b,_,rfl⟩:=EA.mp hy;exact⟨_,.int b⟩
  rw[hb.all];refine cu ?_;have JK:=s1 _ _ ha;have S1:=S.same s1;refine⟨_,rfl,a,ns.map V.int,rfl,.inl (a8.of JK),_,rfl,s0,dx,_,rfl,S1.hs,rfl,s0,dx,fl,D,zs,ts,rfl,S1.hs,S1.hD,S1.hz,by omega,λt ht=>by have:=(hG t ht).2.2;omega,λH2 s2=>?_⟩;refine⟨_,_,rfl,rfl,_,rfl,?_⟩;have J8:=s1.trans s2;refine cX (λh=>?_) (λh=>?_)
  ·have h':(((ns.map V.int).length:Nat):Int)<cL ts:=by simpa using h
   rw[EZ] at h';omega
  ·have gT:=(L.gth hp hm hn).num;have S2:=S.same J8;have hlen:=S.hz.length;refine⟨_,rfl,s0,C,dx,_,_,rfl,S2.hs,c.cl,c.nF,rfl,_,rfl,s0,C,dx,_,_,rfl,S2.hs,c.cl,c.nT,rfl,D,rfl,⟨zs,a8.of S2.hD⟩,?_⟩;refine nW (xs:=zs) (λi ys H'=>aE H H'/\bA H' ys ((ts.take i).map (zZ ns))) ⟨J8,.nil⟩ (λi ys H' hi h=>?_) (λi y ys H' hi hy h=>?_) (λys H' h=>?_)
   ·refine⟨?_,a8.of (h.1 _ _ S.hD)⟩;rw[h.2.length,EZ];exact Hv (by simp;omega) (Bb hn (by decide))
   ·obtain⟨sH,OL⟩:=h;obtain⟨t,et,tr⟩:=aV S.hz hy;obtain⟨at_,pr,nu,rfl,JF,Jt,JB⟩:=tr.keep (aJ.of sH);have tm:=Gq et;obtain⟨pw,k0,kl⟩:=hG t tm;have gt:=gT t tm
    have JM:ts.take (i+1)=ts.take i++[t]:=by rw[sf,et];rfl
    have V2:=sH _ _ ha;refine⟨at_,.ref pr,.ref nu,rfl,bq.of JF,λN k=>ir ?_⟩;refine⟨_,rfl,pr,rfl,⟨_,bq.of Jt⟩,?_⟩;refine rY (xs:=t.1.map V.int) (λj us H3=>H'=H3/\us=((t.1.take j).map λk=>ns.getD k.toNat 0).map V.int) ⟨rfl,rfl⟩ (λj us H3 hj h=>?_) (λj x us H3 N hj hx h k=>?_) (λus H3 h=>?_)
    ·obtain⟨rfl,rfl⟩:=h;exact⟨Hv (by simp;omega) (Bb kl (by decide)),bq.of Jt⟩
    ·obtain⟨rfl,rfl⟩:=h
     have LS:j<t.1.length:=by simpa using hj
     have ex:t.1[j]?=some t.1[j]:=by simp[LS]
     have ev:x=.int t.1[j]:=by
      rw[CR,ex] at hx;exact(Option.some.inj hx).symm
     subst ev;have km:=BK LS;have k1:=lV tm pw km
     have ek:t.1.take (j+1)=t.1.take j++[t.1[j]]:=by rw[sf,ex];rfl
     refine ir ⟨_,rfl,_,rfl,a,_,_,_,rfl,rfl,a8.of V2,oQ (k0 _ km) (by omega),k _ _ ⟨rfl,?_⟩⟩;rw[ek,Aq,Aq];rfl
    ·obtain⟨rfl,rfl⟩:=h;intro L hL;rw[EZ,yi];have sL:aE H' (upd H' L (.lst ((t.1.map λk=>ns.getD k.toNat 0).map V.int))):=av hL;refine⟨L,_,rfl,a8.of aj,by rw[EZ];exact kl,λD2 ms TV perm pwm=>?_⟩;have em:=CW perm pwm;subst em;refine⟨D2,_,rfl,.inl ⟨a8.of aj,λa2 LU=>?_⟩⟩;refine⟨_,rfl,jJ,λtu Lx=>k _ _ ?_⟩;have s5:=((sL.trans (av TV)).trans (av LU)).trans (av (o:=.tup [.ref a2,.ref nu]) Lx);refine⟨sH.trans s5,?_⟩;rw[JM,Aq];refine zF (bA.keep OL (aJ.of s5)) ⟨tu,a2,nu,rfl,aj,?_,s5 _ _ JB⟩;rw[aA (aB aj Lx)];exact aj
   ·obtain⟨sH,OL⟩:=h;rw[hlen,yi] at OL;intro L hL;have sL:aE H' (upd H' L (.lst ys)):=av hL;have sA:=sH.trans sL;exact⟨fl,Jh,L,p,ys,_,rfl,sA _ _ S.hf,S.hp,aj,bA.keep OL (aJ.of sL),hgt,λH9 s' s9 e9=>q H9 s' (sA.trans s9) (e9.of sA)⟩
theorem br {bs:List Int}:dk bs ks=true ↔ ∀k∈ks,bs.getD k.toNat 0≠0:=by
 unfold dk;rw[List.isEmpty_iff,List.filter_eq_nil_iff];constructor
 ·intro h k hk z;exact h k hk (by rw[z];rfl)
 ·intro h k hk z;exact h k hk (eq_of_beq z)
section
variable {p:Int}{R:Type} [Lean.Grind.CommRing R]{v:Int×Int->R}
noncomputable def fl (bs:List Int)(ks:List Int):R:=if dk bs ks=true then 1 else 0
theorem yK {bs a b:List Int}:(fl bs (mE (a++b)):R)=fl bs a*fl bs b:=by
 unfold fl
 by_cases ha:dk bs a=true
 ·by_cases hb:dk bs b=true
  ·rw[qk ha,qk hb,qk (br.mpr λk hk=>?_)]
   ·grind
   ·rcases tH.mp (gP.mp hk) with h|h
    ·exact br.mp ha k h
    ·exact br.mp hb k h
  ·rw[IX hb,IX λz=>hb (br.mpr λk hk=>br.mp z k (gP.mpr (Io _ hk)))];grind
 ·rw[IX ha,IX λz=>ha (br.mpr λk hk=>br.mp z k (gP.mpr (A6 _ hk)))];grind
theorem vj (a:List Tm)(c:R)(F:List Int->R):S v a (λi=>F i*c)=S v a F*c:=by
 rw[jY (G:=λi=>c*F i) (λi=>by grind),yC];grind
theorem fX (V:Val p R v)(hp:0<=p){bs:List Int}:∀{ts:List Tm}{a:Int×Int},aW p ts->Num p a.1 a.2->v (ts.foldl (cg p bs) a)=v a+S v ts (fl bs)/\Num p (ts.foldl (cg p bs) a).1 (ts.foldl (cg p bs) a).2
 |[],a,_,ha=>⟨by show v a=v a+0;grind,ha⟩
 |t::ts,a,h,ha=>by
  have ht:=h t qT;have h2:aW p ts:=λe he=>h e (rB _ he);show v (ts.foldl (cg p bs) (cg p bs a t))=v a+(v t.2*fl bs t.1+S v ts (fl bs))/\Num p (ts.foldl (cg p bs) (cg p bs a t)).1 (ts.foldl (cg p bs) (cg p bs a t)).2;unfold cg fl
  by_cases f:dk bs t.1=true
  ·rw[qk f,qk f];obtain⟨e,n⟩:=fX V hp (bs:=bs) h2 (iA hp ha ht);refine⟨?_,n⟩;have ev:v (dn p a t.2)=v a+v t.2:=(V.set ha ht).1 rfl rfl;have e:v (ts.foldl (cg p bs) (dn p a t.2))=_:=e;unfold cg fl at e;rw[e,ev];grind
  ·rw[IX f,IX f];obtain⟨e,n⟩:=fX V hp (bs:=bs) h2 ha;refine⟨?_,n⟩;have e:v (ts.foldl (cg p bs) a)=_:=e;unfold cg fl at e;rw[e];grind
theorem gN {p:Int}(hp:FP p):Num p 0 1:=⟨by decide,by decide,λz=>⟨rfl,by decide,by have:=(hp.two z).2.1;omega⟩⟩
theorem cw (V:Val p R v)(hp:FP p){bs:List Int}(h:aW p ts):v (aC p bs ts)=S v ts (fl bs):=by
 have:=(fX V hp.nn (bs:=bs) h (a:=(0,1)) (gN hp)).1;rw[V.zero] at this;show v (ts.foldl (cg p bs) (0,1))=_;rw[this];grind
end
theorem cP (hp:FP p){bs:List Int}(h:aW p ts):Num p (aC p bs ts).1 (aC p bs ts).2:=by
 obtain⟨R,i,v,V⟩:=hp.v;exact(fX V hp.nn (bs:=bs) h (a:=(0,1)) (gN hp)).2
section
variable {p:Int}{a b ts:List Tm}{bs:List Int}
theorem kj (hp:FP p)(ha:aW p a)(hb:aW p b):aC p bs (tg p (a++b))=dn p (aC p bs a) (aC p bs b):=by
 obtain⟨R,i,v,V⟩:=hp.v;have JX:=wy ha hb;have na:=cP hp (bs:=bs) ha;have nb:=cP hp (bs:=bs) hb;refine V.inj (cP hp (hp.tn JX)) (iA hp.nn na nb) ?_;rw[cw V hp (hp.tn JX),pV V hp.nn JX,gH,show v (dn p (aC p bs a) (aC p bs b))=_ from(V.set na nb).1 rfl rfl,cw V hp ha,cw V hp hb]
theorem BY {R:Type} [Lean.Grind.CommRing R]{v:Int×Int->R}(V:Val p R v)(ha:aW p a)(hb:aW p b):S v (dh p a b) (fl bs)=S v a (fl bs)*S v b (fl bs):=by
 rw[zK V ha hb,<-vj];refine jY (λi=>?_) a;rw[<-yC];exact jY (λj=>yK) b
theorem gA (hp:FP p)(ha:aW p a)(hb:aW p b):aC p bs (tg p (dh p a b))=cH p (aC p bs a) (aC p bs b):=by
 obtain⟨R,i,v,V⟩:=hp.v;have JX:=gC hp.nn ha hb;have na:=cP hp (bs:=bs) ha;have nb:=cP hp (bs:=bs) hb;refine V.inj (cP hp (hp.tn JX)) (eM hp.nn na nb) ?_;rw[cw V hp (hp.tn JX),pV V hp.nn JX,BY V ha hb,eE V na nb,cw V hp ha,cw V hp hb]
theorem ja {c:Int×Int}(hp:FP p)(ha:aW p a)(hc:Num p c.1 c.2):aC p bs (tg p (fh p c a))=cH p (aC p bs a) c:=by
 obtain⟨R,i,v,V⟩:=hp.v;have JX:=kE hp.nn ha hc;have na:=cP hp (bs:=bs) ha;refine V.inj (cP hp (hp.tn JX)) (eM hp.nn na hc) ?_;rw[cw V hp (hp.tn JX),pV V hp.nn JX,zM V ha hc,eE V na hc,cw V hp ha];grind
theorem il {cs:List Int}(hp:FP p)(ha:aW p a)(hb:aW p b)(h:∀{R:Type} [Lean.Grind.CommRing R]{v:Int×Int->R},Val p R v->S v a (fl bs)=S v b (fl cs)):aC p bs a=aC p cs b:=by
 obtain⟨R,i,v,V⟩:=hp.v;refine V.inj (cP hp ha) (cP hp hb) ?_;rw[cw V hp ha,cw V hp hb,h V]
end
theorem mq {l:List Int}{z:Int}:z∈xT l↔z∈l:=(Bc l _).mem_iff
variable {led:List Int}
theorem uB {bs:List Int}{t:Tm}(hk:P5 t.1)(h:∀k:Int,0<=k->k<5->led.getD (ns.getD k.toNat 0).toNat 0=bs.getD k.toNat 0):dk led (zZ ns t).1=dk bs t.1:=by
 rw[FJ,br,br];constructor
 ·intro g k q;have:=hk.2 k q;rw[<-h k this.1 this.2];exact g _ (mq.mpr (EA.mpr ⟨k,q,rfl⟩))
 ·intro g k q;obtain⟨j,hj,rfl⟩:=EA.mp (mq.mp q);have:=hk.2 j hj;rw[h j this.1 this.2];exact g j hj
theorem vh (ns:List Int)(h:aW p ts):aW p (ts.map (zZ ns)):=λe he=>by
 obtain⟨x,hx,rfl⟩:=EA.mp he;exact h x hx
theorem C9 {R:Type} [Lean.Grind.CommRing R]{v:Int×Int->R}{bs:List Int}(h:∀k:Int,0<=k->k<5->led.getD (ns.getD k.toNat 0).toNat 0=bs.getD k.toNat 0):∀{ts:List Tm},(∀t∈ts,P5 t.1)->S v (ts.map (zZ ns)) (fl led)=S v ts (fl bs)
 |[],_=>rfl
 |t::ts,hk=>by
  show v t.2*fl led (zZ ns t).1+S v (ts.map (zZ ns)) (fl led)=v t.2*fl bs t.1+S v ts (fl bs);rw[C9 h λe he=>hk e (rB _ he)];unfold fl;rw[uB (hk t qT) h]
theorem m8 {led bs ns:List Int}(hp:FP p)(hn:aW p ts)(hk:∀t∈ts,P5 t.1)(h:∀k:Int,0<=k->k<5->led.getD (ns.getD k.toNat 0).toNat 0=bs.getD k.toNat 0):aC p led (tg p (ts.map (zZ ns)))=aC p bs ts :=
 il hp (hp.tn (vh ns hn)) hn λV=>by rw[pV V hp.nn (vh ns hn),C9 h hk]
theorem Do {A:Type} [Lean.Grind.CommRing A]{v:Int×Int->A}{R:Int->List Tm}{bs led:List Int}:∀{ks:List Int}(i:List Int),(∀k∈ks,S v (R k) (fl bs)=if led.getD k.toNat 0≠0 then 1 else 0)->Gf v R ks (fl bs) i=fl bs i*fl led ks
 |[],i,_=>by
  show fl bs i=fl bs i*(1:A);grind
 |k::ks,i,h=>by
  show S v (R k) (λj=>Gf v R ks (fl bs) (mE (i++j)))=_
  have e:S v (R k) (λj=>Gf v R ks (fl bs) (mE (i++j)))=S v (R k) (λj=>fl bs j*(fl bs i*fl led ks)):=jY (λj=>by
   rw[Do (mE (i++j)) λx hx=>h x (rB _ hx),yK]
   grind) (R k)
  have e2:(fl led (k::ks):A)=(if led.getD k.toNat 0≠0 then 1 else 0)*fl led ks:=by
   unfold fl
   by_cases z:led.getD k.toNat 0≠0
   ·rw[qk z]
    by_cases f:dk led ks=true
    ·rw[qk f,qk (br.mpr λx hx=>by
      rcases HK.mp hx with rfl|hx
      ·exact z
      ·exact br.mp f x hx)]
     grind
    ·rw[IX f,IX λy=>f (br.mpr λx hx=>br.mp y x (rB _ hx))];grind
   ·rw[IX z,IX λy=>z (br.mp y k qT)];grind
  rw[e,vj,h k qT,e2];grind
theorem wY {bs:List Int}{R:Int->List Tm}(hp:FP p)(hn:aW p ts)(hR:∀t∈ts,∀k∈t.1,aW p (R k))(h:∀t∈ts,∀k∈t.1,aC p bs (R k)=(if led.getD k.toNat 0≠0 then(1,1) else(0,1))):aC p bs (tg p (jh p R ts))=aC p led ts:=by
 have ha:=yW hp hn hR;refine il hp (hp.tn ha) hn λ{A} _ {v} V=>?_;rw[pV V hp.nn ha,(DE V hp (fl bs) hn hR).1]
 have key:∀us:List Tm,(∀t∈us,t∈ts)->S v us (λi=>Gf v R i (fl bs) [])=S v us (fl led):=by
  intro us hu
  induction us with
  |nil=>rfl
  |cons t us ih =>
   show v t.2*Gf v R t.1 (fl bs) []+S v us _=v t.2*fl led t.1+S v us (fl led);have tm:=hu t qT;rw[ih λe he=>hu e (rB _ he),Do (led:=led) [] λk hk=>?_]
   ·have:(fl bs []:A)=1:=rfl;rw[this];grind
   ·rw[<-cw V hp (hR t tm k hk),h t tm k hk]
    by_cases z:led.getD k.toNat 0≠0
    ·rw[qk z,qk z,V.one]
    ·rw[IX z,IX z,V.zero]
 exact key ts λt h=>h
structure Fs {R:Type} [Lean.Grind.CommRing R](l:List Int)(L:(List Int->R)->R):Prop where
 add:∀F G,L (λi=>F i+G i)=L F+L G
 mul:∀c F,L (λi=>c*F i)=c*L F
 sup:∀F G,(∀i∈dW l,F i=G i)->L F=L G
open Classical in
noncomputable def u7 {R:Type} [Lean.Grind.CommRing R](U i:List Int):R:=if ∀k∈i,k∈U then 1 else 0
theorem lI:∀{l i:List Int},i∈dW l->∀k∈i,k∈l
 |[],i,h,k,hk=>by
  have:i=[]:=by simpa[dW] using h
  rw[this] at hk
  cases hk
 |x::l,i,h,k,hk=>by
  rcases tH.mp h with h|h
  ·obtain⟨m,hm,rfl⟩:=EA.mp h
   rcases HK.mp hk with rfl|hk
   ·exact qT
   ·exact rB _ (lI hm k hk)
  ·exact rB _ (lI h k hk)
open Classical in
theorem oN {R:Type} [Lean.Grind.CommRing R]:∀{l:List Int}{L:(List Int->R)->R},l.Nodup->Fs l L->(∀U∈dW l,L (u7 U)=0)->∀F,L F=0
 |[],L,_,hL,h,F=>by
  have e:L F=L (λi=>F []*u7 [] i):=hL.sup _ _ λi hi=>by
   have:i=[]:=by simpa[dW] using hi
   subst this
   have:(u7 [] []:R)=1:=qk λk hk=>nomatch hk
   rw[this];grind
  rw[e,hL.mul,h [] (DZ.mpr rfl)];grind
 |x::l,L,hd,hL,h,F=>by
  obtain⟨hx,hd⟩:=DO.mp hd;have n1:∀i∈dW l,x∉i:=λi hi z=>hx (lI hi x z);have f1:∀i∈dW l,i.filter (λk=>decide (k≠x))=i:=λi hi=>List.filter_eq_self.mpr λk hk=>Iw λz=>n1 i hi (by rw[<-z];exact hk)
  have f2:∀m∈dW l,(x::m).filter (λk=>decide (k≠x))=m:=λm hm=>by
   rw[qA (by simp),f1 m hm]
  have up1:∀F G:List Int->R,(∀i∈dW l,F i=G i)->∀i∈dW (x::l),F (i.filter λk=>decide (k≠x))=G (i.filter λk=>decide (k≠x)):=λF G g i hi=>by
   rcases tH.mp hi with z|z
   ·obtain⟨m,hm,rfl⟩:=EA.mp z;rw[f2 m hm];exact g m hm
   ·rw[f1 i z];exact g i z
  have L1:Fs l λG=>L λi=>G (i.filter λk=>decide (k≠x)):=⟨λF G=>hL.add _ _,λc F=>hL.mul _ _,λF G g=>hL.sup _ _ (up1 F G g)⟩
  have z1:=oN hd L1 λU hU=>by
   have e:L (λi=>u7 U (i.filter λk=>decide (k≠x)))=L (u7 (x::U)):=hL.sup _ _ λi _=>by
    unfold u7;congr 1;refine propext ⟨λg k hk=>?_,λg k hk=>?_⟩
    ·by_cases q:k=x
     ·rw[q];exact qT
     ·exact rB _ (g k (zc.mpr ⟨hk,Iw q⟩))
    ·obtain⟨h1,h2⟩:=zc.mp hk
     rcases HK.mp (g k h1) with q|q
     ·exact absurd q (mZ h2)
     ·exact q
   rw[e];exact h _ (A6 _ (EA.mpr ⟨U,hU,rfl⟩))
  have L0:Fs l λG=>L λi=>if x∈i then 0 else G i:=by
   refine⟨λF G=>?_,λc F=>?_,λF G g=>hL.sup _ _ λi hi=>?_⟩
   ·rw[<-hL.add];refine Ec L (funext λi=>?_)
    by_cases q:x∈i
    ·simp only[qk q];grind
    ·simp only[IX q]
   ·rw[<-hL.mul];refine Ec L (funext λi=>?_)
    by_cases q:x∈i
    ·simp only[qk q];grind
    ·simp only[IX q]
   ·by_cases q:x∈i
    ·rw[qk q,qk q]
    ·rw[IX q,IX q]
     rcases tH.mp hi with z|z
     ·obtain⟨m,hm,rfl⟩:=EA.mp z;exact absurd qT q
     ·exact g i z
  have z0:=oN hd L0 λU hU=>by
   have e:L (λi=>if x∈i then 0 else u7 U i)=L (u7 U):=hL.sup _ _ λi _=>by
    by_cases q:x∈i
    ·rw[qk q];exact(IX λg=>n1 U hU (g x q)).symm
    ·rw[IX q]
   rw[e];exact h _ (Io _ hU)
  have e:L F=L (λi=>(if x∈i then 0 else F i+(-1)*F (x::i))+F (x::i.filter λk=>decide (k≠x))):=hL.sup _ _ λi hi=>by
   rcases tH.mp hi with z|z
   ·obtain⟨m,hm,rfl⟩:=EA.mp z;rw[qk qT,f2 m hm];grind
   ·rw[IX (n1 i z),f1 i z];grind
  rw[e,hL.add];have a1:=z1 λi=>F (x::i);have a0:=z0 λi=>F i+(-1)*F (x::i);have a1:L (λi=>F (x::i.filter λk=>decide (k≠x)))=0:=a1;have a0:L (λi=>if x∈i then 0 else F i+(-1)*F (x::i))=0:=a0;rw[a1,a0];grind
section
variable {K:Frag}{mg:Cw}{C CF NS s l:Addr}{H:Hp}{p Dd Nd:Int}{a:List Tm}{zs:List V}{R:Int->List Tm}{Dk Mk:Int->Int}{Q:VK}{E:XK}
structure Due (p Dd Nd:Int)(a:List Tm):Prop where
 d0:0<Dd
 bd:B 290 Dd
 t4:∀t∈a,T4 p Dd Nd t
 len:a.length<=6
 self:tg p a=a
theorem Due.short (h:Due p Dd Nd a):∀t∈a,t.1.length<4000:=λt ht=>by have:=(w8 (h.t4 t ht).k).1;omega
theorem Due.num (h:Due p Dd Nd a):aW p a:=λt ht=>(h.t4 t ht).n.cd.num
theorem Due.prw (h:Due p Dd Nd a):∀t∈a,HU t.1:=λt ht=>by
 obtain⟨h1,h2,h3⟩:=w8 (h.t4 t ht).k;refine⟨h3,λk hk=>?_,by omega⟩;have:=h2 k hk;simp at this;omega
theorem Due.four (h:Due p Dd Nd a){t:Tm}(ht:t∈a){k:Int}(hk:k∈t.1):0<=k/\k<4/\k<cL a:=by
 have hl:=(w8 (h.t4 t ht).k).2.1 k hk;have h3:=lV ht (h.prw t ht).1 hk;simp at hl;omega
theorem Due.reach (h:Due p Dd Nd a):0<=cL a/\cL a<=4:=⟨AS h.prw,qD (by decide) λt ht k hk=>(h.four ht hk).2.1⟩
theorem CN (S:xJ C CF H s p a)(hp:FP p)(d:Due p Dd Nd a)(K7:∀k∈l4,Rk p Dk Mk R k)(hl:H l=some (.lst zs))(lz:zs.length<4000)(hz:∀z∈zs,∃s' c,z=.ref s'/\xJ C CF H s' p c)(T5:cL a<=zs.length)(VT:∀t∈a,∀k∈t.1,uz C CF p R H zs k)
 (q:∀H' u,aE H H'->xJ C CF H' u p (tg p (jh p R a))->Q (.ref u) H'):El K C CF NS [.ref s,.ref l] H Q E:=by
 have al:(zs.map λ_=>true).all id=true:=by
  rw[EU,BP];exact λ_ _=>rfl
 refine⟨s,p,a,.ref l,rfl,S,hp,d.len,d.short,.inr ⟨l,zs,zs.map λ_=>true,rfl,hl,lz,?_,λz=>?_,λ_ _=>⟨R,Dk,Mk,Dd,Nd,d.d0,d.bd,d.t4,K7,VT,q⟩⟩⟩
 ·have:∀ws:List V,(∀z∈ws,∃s' c,z=.ref s'/\xJ C CF H s' p c)->Paired (Lk K C CF p H) ws (ws.map λ_=>true):=by
   intro ws
   induction ws with
   |nil=>intro _;exact .nil
   |cons z ws ih =>
    intro h;obtain⟨s',c,e,S'⟩:=h z qT;exact .cons (.inl ⟨s',p,c,e,S',by simp⟩) (ih λy hy=>h y (rB _ hy))
  exact this zs hz
 ·rcases z with z|z
  ·rw[al] at z;cases z
  ·omega
end
variable {raw:List Tm}
theorem Bz {t:Tm}(h:t∈tg p raw):∃x∈raw,t.1=x.1:=by
 rcases lh raw [] t (zc.mp ((dF _).mem_iff.mp h)).1 with⟨x,hx,_⟩|⟨x,hx,e⟩
 ·exact nomatch hx
 ·exact⟨x,hx,e⟩
theorem EB (hp:FP p)(h:∀t∈raw,Gn p 45 t.2):(tg p raw).length<=raw.length:=by
 rw[(dF (bZ p raw)).length_eq];exact Ig (A4 _ _) (jn (m:=45) hp raw.length raw rfl h).2.2
theorem BD {m:Int}(h:∀t∈raw,BZ p m t):aW p raw:=λt ht=>(h t ht).1.1
theorem Ew (hp:FP p)(hl:raw.length<=5)(h:∀t∈raw,BZ p 4 t):∃Dd Nd,Due p Dd Nd (tg p raw):=by
 obtain⟨D,d0,dB,hd⟩:=uD (p:=p) (ts:=raw) λt ht=>(h t ht).1;have n0:(0:Int)<=35184372088832*D:=uq (by decide) (by omega);have bN:B 280 (35184372088832*D*raw.length):=(((show B 46 (35184372088832:Int) by unfold B;decide).mul dB).mul (vQ (k:=3) (Hv hl (by decide)))).mono (by omega);refine⟨D,35184372088832*D*raw.length,d0,dB.mono (by omega),λt ht=>⟨⟨d0,uq n0 (Fo _),dB.mono (by omega),bN.mono (by decide),Dy hp n0 hd t ht⟩,?_⟩,Ig (EB hp λt ht=>(h t ht).1) (by omega),rm hp (BD h)⟩;obtain⟨x,hx,e⟩:=Bz ht;rw[e];refine gE (by decide) (h x hx).2.1 λk hk=>?_;have:=(h x hx).2.2.1 k hk
 have:k=0\/k=1\/k=2\/k=3:=by omega
 simpa using this
theorem Due.lv {Dd Nd:Int}{a:List Tm}(h:Due p Dd Nd a):Lv p 290 6 a:=by
 by_cases z:a=[]
 ·subst z;exact⟨1,0,by decide,by decide,by unfold B;exact Nat.one_lt_pow (by decide) (by decide),by unfold B;exact Nat.pow_pos (by decide),λt ht=>(nomatch ht),λt ht=>(nomatch ht),Gy _⟩
 ·obtain⟨t,ht⟩:=List.exists_mem_of_ne_nil a z;have n:=(h.t4 t ht).n;refine⟨Dd,Nd,n.d0,n.n0,n.bd,n.bn,λt ht=>(h.t4 t ht).n.cd,λt ht=>⟨(h.prw t ht).1,λk hk=>?_⟩,h.len⟩;have:=h.four ht hk;omega
noncomputable def gF:Nat->List (List Int)
 |0=>[[]]
 |n+1=>(gF n).map (·++[0])++(gF n).map (·++[1])
noncomputable abbrev l5:List Int:=[0,1,2,3,4]
noncomputable def Fh (U:List Int):List Int:=l5.map λk=>if k∈U then 1 else 0
theorem yJ:∀U∈dW l5,Fh U∈gF 5:=by decide +kernel
theorem xv:∀bs∈gF 5,bs.length=5/\∀b∈bs,b=0\/b=1:=by decide +kernel
theorem pE {bs:List Int}(h:bs∈gF 5):tK bs:=by
 obtain⟨h1,h2⟩:=xv bs h;refine⟨by omega,by omega,λb hb=>?_⟩
 rcases h2 b hb with z|z <;> subst z <;> decide
theorem wA {R:Type} [Lean.Grind.CommRing R]{U:List Int}(h:P5 ks):(fl (Fh U) ks:R)=u7 U ks:=by
 unfold fl u7;congr 1;rw[br];refine propext ⟨λg k hk=>?_,λg k hk=>?_⟩
 ·have:=h.2 k hk;have g:=g k hk
  have c:k=0\/k=1\/k=2\/k=3\/k=4:=by omega
  by_cases m:k∈U
  ·exact m
  ·exfalso;apply g
   rcases c with z|z|z|z|z <;> subst z <;> exact IX m
 ·have:=h.2 k hk;have m:=g k hk
  have c:k=0\/k=1\/k=2\/k=3\/k=4:=by omega
  have e:(Fh U).getD k.toNat 0=1:=by rcases c with z|z|z|z|z <;> subst z <;> exact qk m
  rw[e];decide
theorem qj {R:Type} [Lean.Grind.CommRing R]{v:Int×Int->R}{F G:List Int->R}:∀{a:List Tm},(∀t∈a,F t.1=G t.1)->S v a F=S v a G
 |[],_=>rfl
 |t::a,h=>by
  show v t.2*F t.1+S v a F=v t.2*G t.1+S v a G;rw[h t qT,qj λe he=>h e (rB _ he)]
theorem wk {a b:List Tm}(hp:FP p)(ha:aW p a)(hb:aW p b)(ka:∀t∈a,P5 t.1)(kb:∀t∈b,P5 t.1)(h:∀bs∈gF 5,aC p bs a=aC p bs b):tg p a=tg p b:=by
 obtain⟨R,i,v,V⟩:=hp.v;refine Dq V hp.nn ha hb λF=>?_
 have L:Fs l5 λF:List Int->R=>S v a F+(-1)*S v b F:=by
  refine⟨λF G=>?_,λc F=>?_,λF G g=>?_⟩
  ·simp only[adM];grind
  ·simp only[yC];grind
  ·rw[qj λt ht=>g _ (ka t ht).mem,qj (a:=b) λt ht=>g _ (kb t ht).mem]
 have z:=oN (by decide) L (λU hU=>by
  have e:=Ec v (h _ (yJ U hU));rw[cw V hp ha,cw V hp hb,qj (G:=u7 U) λt ht=>wA (ka t ht),qj (a:=b) (G:=u7 U) λt ht=>wA (kb t ht)] at e;show S v a (u7 U)+(-1)*S v b (u7 U)=0;rw[e]
  grind) F
 have z:S v a F+(-1)*S v b F=0:=z;grind
noncomputable def F7 (w:Int×Int):Prop:=w=(0,1)\/w=(1,1)
theorem vx (hp:FP p){a b:Int×Int}(ha:F7 a)(hb:F7 b):F7 (cH p a b)/\cH p a a=a:=by
 obtain⟨R,i,v,V⟩:=hp.v;have n0:Num p (0,1).1 (0,1).2:=gN hp;have n1:Num p (1,1).1 (1,1).2:=fU hp;have m:∀x y z:Int×Int,Num p x.1 x.2->Num p y.1 y.2->Num p z.1 z.2->v x*v y=v z->cH p x y=z:=λx y z hx hy hz e=>V.inj (eM hp.nn hx hy) hz (by rw[eE V hx hy,e]);have V3:cH p (0,1) (0,1)=(0,1):=m _ _ _ n0 n0 n0 (by rw[V.zero];grind);have z01:cH p (0,1) (1,1)=(0,1):=m _ _ _ n0 n1 n0 (by rw[V.zero];grind);have z10:cH p (1,1) (0,1)=(0,1):=m _ _ _ n1 n0 n0 (by rw[V.zero];grind);have V4:cH p (1,1) (1,1)=(1,1):=m _ _ _ n1 n1 n1 (by rw[V.one];grind)
 rcases ha with rfl|rfl <;> rcases hb with rfl|rfl
 ·exact⟨.inl V3,V3⟩
 ·exact⟨.inl z01,V3⟩
 ·exact⟨.inl z10,V4⟩
 ·exact⟨.inr V4,V4⟩
structure Row (p:Int)(m:Nat)(r:List Tm):Prop where
 lv:Lv p m 32 r
 self:tg p r=r
 bit:∀bs∈gF 5,F7 (aC p bs r)
section
variable {p:Int}{m n:Nat}{r q:List Tm}
theorem Row.mono (h:Row p m r)(l:m<=n):Row p n r:=⟨h.lv.mono l (yH _),h.self,h.bit⟩
theorem Row.idem (h:Row p m r)(hp:FP p):tg p (dh p r r)=r:=by
 have hn:=h.lv.num;have hm:=gC hp.nn hn hn
 have km:∀t∈dh p r r,P5 t.1:=λt ht=>by
  obtain⟨x,hx,ht⟩:=HP.mp ht;obtain⟨y,hy,rfl⟩:=EA.mp ht;exact(h.lv.k x hx).both (h.lv.k y hy)
 have e:=wk hp (hp.tn hm) hn (DF km) h.lv.k λbs KI=>by
  rw[gA hp hn hn];exact(vx hp (h.bit bs KI) (h.bit bs KI)).2
 rw[rm hp hm,h.self] at e;exact e
theorem Row.mul (h:Row p m r)(g:Row p n q)(hp:FP p):Row p (m+n+11) (tg p (dh p r q)):=by
 refine⟨(h.lv.mul g.lv hp).tg hp (by decide),rm hp (gC hp.nn h.lv.num g.lv.num),λbs KI=>?_⟩;rw[gA hp h.lv.num g.lv.num];exact(vx hp (h.bit bs KI) (g.bit bs KI)).1
end
theorem nk (hp:FP p)(bs ks:List Int):aC p bs [(ks,(1,1))]=if dk bs ks=true then(1,1) else(0,1):=by
 show cg p bs (0,1) (ks,(1,1))=_;unfold cg
 split
 ·exact adD (n:=7) hp ⟨fU hp,(by unfold B;decide:B 7 (1:Int)),(by unfold B;decide:B 7 (1:Int))⟩
 ·rfl
theorem lC (hp:FP p)(hk:P5 ks):Lv p 1 1 [(ks,(1,1))]:=⟨1,1,by decide,by decide,by unfold B;decide,by unfold B;decide,λt ht=>by
 have:t=(ks,(1,1)):=by simpa using ht
 subst this
 exact⟨fU hp,λ_=>⟨1,rfl,ni 1⟩⟩,λt ht=>by
 have:t=(ks,(1,1)):=by simpa using ht
 subst this
 exact hk,yH 1⟩
theorem qG {bs:List Int}(hp:FP p)(h:aW p ts):aC p bs (tg p ts)=aC p bs ts:=il hp (hp.tn h) h λV=>pV V hp.nn h _
theorem jZ (hp:FP p)(hk:P5 ks):Row p 12 (tg p [(ks,(1,1))]):=by
 have l:=lC hp hk;refine⟨l.tg hp (by decide),rm hp l.num,λbs _=>?_⟩;rw[qG hp l.num,nk hp]
 split
 ·exact .inr rfl
 ·exact .inl rfl
theorem pH :Row p 12 []:=⟨⟨1,0,by decide,by decide,by unfold B;decide,by unfold B;decide,⟨λt ht=>(nomatch ht),λt ht=>(nomatch ht),Gy _⟩⟩,rfl,λbs _=>.inl rfl⟩
noncomputable def m1 (p:Int):Int×Int:=if p=0 then(-1,1) else(p-1,1)
theorem DC (hp:FP p):Gn p 7 (m1 p)/\dn p (1,1) (m1 p)=(0,1):=by
 unfold m1
 by_cases z:p=0
 ·subst z;exact⟨⟨⟨by decide,by decide,λy=>absurd rfl y⟩,(by unfold B;decide:B 7 (-1:Int)),(by unfold B;decide:B 7 (1:Int))⟩,by decide⟩
 ·rw[IX z];obtain⟨_,p2,OG⟩:=hp.two z;refine⟨⟨⟨(by decide:(0:Int)<1),?_,λ_=>⟨rfl,by show 0<=p-1;omega,by show p-1<p;omega⟩⟩,?_,(by unfold B;decide:B 7 (1:Int))⟩,?_⟩
  ·show Int.gcd (p-1) 1=1;simp
  ·show(p-1).natAbs<2^7;omega
  ·show(c9 p (1*1+(p-1)*1) (1*1),dw p (1*1+(p-1)*1) (1*1))=(0,1);unfold c9 dw;rw[IX z,IX z,show(1:Int)*1+(p-1)*1=p by omega,Int.emod_self]
theorem yx (hp:FP p){j:Int}(hj:0<=j/\j<5):Row p 54 (tg p (tg p [([],(1,1))]++tg p (fh p (m1 p) (tg p [([j],(1,1))])))):=by
 have p5:P5 [j]:=⟨by simp,λk hk=>by
  have:k=j:=by simpa using hk
  rw[this];exact hj⟩
 have p0:P5 []:=⟨by simp,λk hk=>nomatch hk⟩;obtain⟨g,e⟩:=DC hp;have lu:=(lC hp p0).tg hp (by decide);have lx:=(lC hp p5).tg hp (by decide);have ls:=(lx.scl g hp).tg hp (by decide);have la:=(lu.app ls).tg hp (by decide);refine⟨la,rm hp (wy lu.num ls.num),λbs KI=>?_⟩;obtain⟨R,i,v,V⟩:=hp.v;have n0:Num p (0,1).1 (0,1).2:=gN hp;have n1:Num p (1,1).1 (1,1).2:=fU hp
 have eu:aC p bs (tg p [([],(1,1))])=(1,1):=by rw[qG hp (lC hp p0).num,nk hp];rfl
 rw[kj hp lu.num ls.num,eu,ja hp lx.num g.1]
 rcases(jZ hp p5).bit bs KI with z|z
 ·right;rw[z];have e1:cH p (0,1) (m1 p)=(0,1):=V.inj (eM hp.nn n0 g.1) n0 (by rw[eE V n0 g.1,V.zero];grind);rw[e1];exact V.inj (iA hp.nn n1 n0) n1 (by rw[show v (dn p (1,1) (0,1))=_ from(V.set n1 n0).1 rfl rfl,V.zero];grind)
 ·left;rw[z];have e1:cH p (1,1) (m1 p)=m1 p:=V.inj (eM hp.nn n1 g.1) g.1 (by rw[eE V n1 g.1,V.one];grind);rw[e1];exact e
end K09
namespace L2
open PySem PySem.Spec PyProof.Rows PySem.W
section
variable {X:Cx}
theorem rA {H:Hp}{p:Addr}{o:HO}(h:H p=none):aE H (upd H p o):=λb u e=>by rw[aA (aB e h)];exact e
noncomputable def wF:R2:=λx y H Q=>∃a b xs ys,x=.ref a/\y=.ref b/\H a=some (.tup xs)/\H b=some (.tup ys)/\xs.length+ys.length<=sizeLine/\∀p H',aE H H'->H' p=some (.tup (xs++ys))->Q (.ref p) H'
theorem u3:eT X (binaryOp .Add) wF:=by
 intro pins s σ H x y v u Q I rx ry h;obtain⟨a,b,xs,ys,rfl,rfl,ha,hb,hz,q⟩:=h
 by_cases hx:xs=[]
 ·subst hx
  cases rx
  cases ry
  obtain⟨its,r1,p1,_⟩:=I.tuple (bq.of ha);obtain⟨Jj,r2,p2,_⟩:=I.tuple (bq.of hb)
  cases r1
  obtain⟨⟨cls,dd,data,sl⟩,ho,hc,n,hd⟩:=id p1;obtain⟨⟨Pg,Mm,data2,Le⟩,KL,K0,n2,hd2⟩:=id p2;simp only at hc hd K0 hd2;subst hc hd K0 hd2
  exact concat_meets ⟨_,ho,rfl⟩ ⟨_,KL,rfl⟩ sJ seq_tuple_add Bo tG (CQ _ _)
   (tuple_addW0 a b _ Jj.toArray n n2 dd Mm sl Le (by simp)) ⟨ho,KL,.ref b,H,I,rfl,q b H (aE.refl _) hb⟩
 ·exact vG pins s σ H _ _ v u Q I rx ry ⟨a,b,xs,ys,rfl,rfl,bq.of ha,bq.of hb,hx,hz,λe=>q a H (aE.refl _) (by rw[e,yp];exact ha),λ_ p hp=>q p _ (rA hp) aj⟩
noncomputable def aj6:R2:=λx y H Q=>∃a b xs ys,x=.ref a/\y=.ref b/\H a=some (.lst xs)/\H b=some (.lst ys)/\xs.length+ys.length<=sizeLine/\∀p H',H p=none->aE H H'->H' p=some (.lst (xs++ys))->Q (.ref p) H'
theorem Cf:eT X (binaryOp .Add) aj6:=by
 intro pins s σ H x y v u Q I rx ry h;obtain⟨a,b,xs,ys,rfl,rfl,ha,hb,hz,q⟩:=h;exact yS pins s σ H _ _ v u Q I rx ry ⟨a,b,xs,ys,rfl,rfl,ha,hb,hz,λp hp=>q p _ hp (rA hp) aj⟩
noncomputable def wz (K:Frag):R2:=λx y H Q=>∃p a b d e1 e2,y=.ref p/\a8 K H p [.ref a,.ref b]/\a≠b/\aQ K H d x/\aQ K H e1 (.ref a)/\aQ K H e2 (.ref b)/\jz e1<=32/\jz e2<=32/\Q (.bl (!(d6 e1 d || d6 e2 d))) H
theorem wW {k:Nat}(hr:A1 k X.A):eT X (compareOp .NotIn) (wz X.K):=by
 intro pins s σ H x y v u Q I rx ry h;obtain⟨p,a,b,d,e1,e2,rfl,hq,ne,hd,h1,h2,d1,d2,q⟩:=h
 cases ry
 obtain⟨its,r,pl,hz⟩:=I.list hq
 have e:its=[.ref a,.ref b]:=by
  cases r with
  |cons r1 r2 =>
   cases r2 with
   |cons r3 r4 =>
    cases r4
    rw[show _=Value.ref a from r1,show _=Value.ref b from r3]
 subst e;have hu:=hr.units
 have nb:(Value.ref b==Value.ref a)=false:=by simpa using ne.symm
 refine SeqAt.notIn_listAt (λw=>if w == .ref a then d6 e1 d else d6 e2 d) pl.isList (λw hw=>?_) ⟨.bl _,H,I,rfl,?_⟩
 ·have hw:w=.ref a\/w=.ref b:=by simpa using hw
  rcases hw with rfl|rfl
  ·have z:=(fH I 32 X.A.in1 e1 d (.ref a) x (.ref a) v d1 (by show X.A.units+1+32<_;omega) h1 hd rfl rx).2.1;rw[show(if(Value.ref a==Value.ref a)=true then d6 e1 d else d6 e2 d)=d6 e1 d from qk (by simp)];exact z
  ·have z:=(fH I 32 X.A.in1 e2 d (.ref b) x (.ref b) v d2 (by show X.A.units+1+32<_;omega) h2 hd rfl rx).2.1;rw[show(if(Value.ref b==Value.ref a)=true then d6 e1 d else d6 e2 d)=d6 e2 d from IX (by rw[nb];decide)];exact z
 ·have e:([Value.ref a,.ref b].toArray.any λw=>if w == .ref a then d6 e1 d else d6 e2 d)=(d6 e1 d || d6 e2 d):=by
   simp[ne.symm]
  rw[e];exact q
end
end L2
namespace K09
open PySem L2 PySem.W Nm Srt
noncomputable abbrev HV:Stmt:=(ba 52)
noncomputable def Bx (H:Hp)(y:V)(bs:List Int):Prop:=∃a,y=.ref a/\H a=some (.tup (bs.map V.int))
variable {H H':Hp}{y:V}
theorem Bx.keep {bs:List Int}(h:Bx H y bs)(k:aJ H H'):Bx H' y bs:=let⟨a,e,h⟩:=h;⟨a,e,k _ _ h⟩
noncomputable abbrev eY (H:Hp):List V->List (List Int)->Prop:=Paired (Bx H)
variable {ys:List V}
theorem eY.keep {bs:List (List Int)}(h:eY H ys bs)(k:aJ H H'):eY H' ys bs:=Paired.agE h λ_ _ z=>z.keep k
noncomputable def CI:Sp:=λvs H Q _=>∃n:Nat,vs=[.int n]/\n<=5/\∀H' D ys,aE H H'->H' D=some (.lst ys)->eY H' ys (gF n)->Q (.ref D) H'
theorem wq:Eb ["_law_many","_law_found","_law_place"] ["_law_many"] (au HV):=dX (by decide +kernel)
theorem gG:∀n,n<=5->(gF n).length<=32:=by decide +kernel
theorem nH:∀n,n<=5->∀bs∈gF n,bs.length<=5:=by decide +kernel
theorem qF {K:Frag}{D:Addr}{Qx:List (List Int)}{b:Int}{σ:St}{F:VK}(e:σ[1]?=some (some (.ref D)))(hD:H D=some (.lst ys))(hb:eY H ys Qx)(hl:Qx.length<=32)(hr:∀bs∈Qx,bs.length<=5)
 (q:∀H' D2 zs,aE H H'->H' D2=some (.lst zs)->eY H' zs (Qx.map (·++[b]))->F (.ref D2) H'):uT (Ai K (dg 1)) (bK 0) oZ (oq wF (dg 0) (xY (bx (tC (V.int b)) ya))) 1 [] σ H F:=by
 have hlen:=hb.length;refine⟨_,e,D,rfl,⟨_,a8.of hD⟩,?_⟩;refine dm (xs:=ys) (λi us H3=>aE H H3/\eY H3 us ((Qx.take i).map (·++[b]))) ⟨aE.refl _,.nil⟩ (λi us H3 hi h=>?_) (λi x us H3 N hi hx h k=>?_) (λus H3 h=>?_)
 ·refine⟨?_,a8.of (h.1 _ _ hD)⟩;rw[h.2.length,EZ,xo];exact Hv (jP _ _) (Hv hl (by decide))
 ·obtain⟨s3,h3⟩:=h;obtain⟨bs,eb,a,rfl,ha⟩:=aV hb hx;have hrb:=hr bs (Gq eb);refine ir ⟨_,rfl,A8,λt1 KH=>?_⟩;have s4:=av (o:=.tup [.int b]) KH;have e4:upd H3 t1 (.tup [.int b]) t1=some (.tup [.int b]):=aj;generalize upd H3 t1 _=H4 at s4 e4 |-;refine⟨a,t1,_,_,rfl,rfl,s4 _ _ (s3 _ _ ha),e4,?_,λp H5 s5 e5=>k _ _ ⟨s3.trans (s4.trans s5),?_⟩⟩
  ·rw[EZ];exact Ig (Nat.add_le_add_right hrb 1) (by decide)
  ·rw[sf,eb,Aq];refine zF (eY.keep h3 (aJ.of (s4.trans s5))) ⟨p,rfl,?_⟩;rw[e5,Aq];rfl
 ·obtain⟨s3,h3⟩:=h;rw[hlen,yi] at h3;intro L hL;exact q _ L us (s3.trans (av hL)) aj (eY.keep h3 (aJ.of (av hL)))
variable {P:xq}{w:World}{K:PySem.W.Frag}{mg:Cw}{base:Heap}
set_option maxHeartbeats 1000000 in
theorem Ej {f:Addr}{fd:GS}(F:FY K "_law_all" "_law_all" HV f fd)(m_range:mg "range"=none):xk P w K mg base (cI P w) 1 f fd ["_law_many"] CI:=by
 refine F.okN wq (λvs H Q E h=>?_) (λJi A outer s H vs Q E hr h=>?_)
 ·obtain⟨n,rfl,_⟩:=h;rfl
 ·obtain⟨n,rfl,hn,q⟩:=h
  refine⟨_,(ar (@aY _ _ 1 _ _ _ _ wq.nd rfl (Or.inl rfl) (cM (ao (bF ai) ai rfl)) rfl (Or.inl rfl))
   (ar (eG E5 rfl (df (by rfl) m_range (ao (pv 0) ai rfl)) (aF (i:=2) wq.nd rfl (Or.inl rfl))
   (az (@aY _ _ 1 _ _ _ _ wq.nd rfl (Or.inl rfl) (aH Cf (cj (N:=["_law_row"]) (nl:=1) (js:=[]) (osc:=au HV) ⟨rfl,rfl,by decide +kernel,by decide +kernel,by decide +kernel,rfl,.nil,by decide +kernel⟩ rfl
    (b9 (pv 1))
    (λCq fq sq Hq=>aF (i:=0) (by show(["_law_row"]:F3).Nodup;decide +kernel) rfl (Or.inl rfl) (Or.inr rfl))
    (λCq fq sq Hq=>ck)
    (λCq fq sq Hq=>(aH u3 (pv 0) (bF (ao aq ai rfl))))) (cj (N:=["_law_row"]) (nl:=1) (js:=[]) (osc:=au HV) ⟨rfl,rfl,by decide +kernel,by decide +kernel,by decide +kernel,rfl,.nil,by decide +kernel⟩ rfl
    (b9 (pv 1))
    (λCq fq sq Hq=>aF (i:=0) (by show(["_law_row"]:F3).Nodup;decide +kernel) rfl (Or.inl rfl) (Or.inr rfl))
    (λCq fq sq Hq=>ck)
    (λCq fq sq Hq=>(aH u3 (pv 0) (bF (ao aq ai rfl)))))) rfl (Or.inl rfl))))
   (az (aG (pv 1))))),?_⟩
  refine⟨Gy _,λt0 ht0=>?_⟩;have s0:=av (o:=.tup []) ht0;have e0:upd H t0 (.tup []) t0=some (.tup []):=aj;generalize upd H t0 _=H0 at s0 e0 |-;refine⟨A8,λL hL=>?_⟩;have s1:=s0.trans (av (o:=.lst [.ref t0]) hL);have e1:upd H0 L (.lst [.ref t0]) L=some (.lst [.ref t0]):=aj;have b1:eY (upd H0 L (.lst [.ref t0])) [.ref t0] (gF 0):=.cons ⟨t0,rfl,av hL _ _ e0⟩ .nil;generalize upd H0 L _=H1 at s1 e1 b1 |-;refine⟨_,rfl,(n:Int),rfl,by omega,by omega,?_⟩;refine jq (lo:=0) (λi σ H'=>aE H H'/\∃D ys o2,H' D=some (.lst ys)/\eY H' ys (gF i)/\σ=[some (.int n),some (.ref D),o2]) ⟨s1,L,_,_,e1,b1,rfl⟩ ?_ ?_
  ·rintro i σ H2 hi ⟨s2,D,ys,o2,hD,hb,rfl⟩
   have hi:i<=5:=by omega
   unfold bK qh oq;refine qF rfl hD hb (gG i hi) (nH i hi) λH3 D3 zs s3 e3 b3=>?_;refine qF rfl (s3 _ _ hD) (eY.keep hb (aJ.of s3)) (gG i hi) (nH i hi) λH4 D4 us s4 e4 b4=>?_;refine⟨D3,D4,_,_,rfl,rfl,s4 _ _ e3,e4,?_,λp H5 _ s5 e5=>?_⟩
   ·rw[b3.length,b4.length,EZ,EZ];exact Ig (Nat.add_le_add (gG i hi) (gG i hi)) (by decide)
   ·exact⟨s2.trans (s3.trans (s4.trans s5)),p,_,_,e5,iU (eY.keep b3 (aJ.of (s4.trans s5))) (eY.keep b4 (aJ.of s5)),rfl⟩
  ·rintro σ H2 ⟨s2,D,ys,o2,hD,hb,rfl⟩;exact⟨_,rfl,q _ D ys s2 hD (by simpa using hb)⟩
structure xD (P:xq)(w:World)(K:Frag)(mg:Cw)(base:Heap)(C CF KR NS NN UN fI K8:Addr)(J5 JH:GS)(tM:Tok):Prop where
 c:zY K mg C
 cF:Fv K mg CF
 M:Mk K C fI
 FI:xk P w K mg base (cI P w) 6 fI J5 FZ (fV C CF)
 bI:L2.b8 K J5 FZ []
 bI1:L2.b8 K J5 FZ [Value.none]
 MF:Mk K CF K8
 FFI:xk P w K mg base (cI P w) 2 K8 JH CG (sy CF KR)
 bFFI:L2.b8 K JH CG []
 ne:findIn K (.ref C) "__ne__"=some (some (.builtin "object.__ne__"))
 eq:∃f fd,xk P w K mg base (cI P w) 2 f fd xn (wd K C CF)/\L2.b8 K fd xn []/\findIn K (.ref C) "__eq__"=some (some (.ref f))/\isFn K (.ref f)=true
 made:∃f fd,xk P w K mg base (cI P w) 4 f fd xV (ia CF NN)/\L2.b8 K fd xV [.int 1 tM]/\L2.Meth K CF "made" f
 room:Ca P w K mg base 1 AQ "_law_room" (AF K)
 take:Ca P w K mg base 1 Ge "_law_take" yT
 prime:Ca P w K mg base 2 ["_law_room_here"] "_law_prime" Ci
 number:Ca P w K mg base 2 EE "_law_number" DK
 terms:Ca P w K mg base 3 Fe "_law_terms" Be
 lplus:Ca P w K mg base 3 Ay "_law_plus" (my jE)
 ltimes:Ca P w K mg base 3 Ay "_law_times" (my hZ)
 all:Ca P w K mg base 1 ["_law_many"] "_law_all" CI
 worth:Cm P w K mg base 5 ["self","filling"] C "worth" (ph C CF)
 renamed:Cm P w K mg base 9 B7 C "renamed" (nj C CF)
 plus:Cm P w K mg base 9 xn C "plus" (yv C CF UN)
 times:Cm P w K mg base 9 xn C "times" (qJ C CF UN)
 scaled:Cm P w K mg base 9 BL C "scaled" (vF C CF NN)
 putin:Cm P w K mg base 11 ["self","sums"] C "put_in" (El K C CF NS)
 m_max:mg "max"=none
 m_min:mg "min"=none
 m_len:mg "len"=none
 m_range:mg "range"=none
 m_list:mg "list"=none
 m_tuple:mg "tuple"=none
noncomputable def Bs (H:Hp)(y:V)(w:Int×Int):Prop:=∃a,y=.ref a/\H a=some (bY w.1 w.2)
theorem Bs.keep {w:Int×Int}(h:Bs H y w)(k:aJ H H'):Bs H' y w:=let⟨a,e,h⟩:=h;⟨a,e,k _ _ h⟩
noncomputable abbrev gh (H:Hp):List V->List (Int×Int)->Prop:=Paired (Bs H)
theorem gh.keep {ws:List (Int×Int)}(h:gh H ys ws)(k:aJ H H'):gh H' ys ws:=Paired.agE h λ_ _ z=>z.keep k
noncomputable def HA (C CF:Addr)(p:Int)(H:Hp)(y:V)(ts:List Tm):Prop:=∃s,y=.ref s/\xJ C CF H s p ts
theorem HA.same {C CF:Addr}{p:Int}{ts:List Tm}(h:HA C CF p H y ts)(k:aE H H'):HA C CF p H' y ts:=let⟨s,e,h⟩:=h;⟨s,e,h.same k⟩
noncomputable abbrev fZ (C CF:Addr)(p:Int)(H:Hp):List V->List (List Tm)->Prop:=Paired (HA C CF p H)
theorem fZ.same {C CF:Addr}{p:Int}{ts:List (List Tm)}(h:fZ C CF p H ys ts)(k:aE H H'):fZ C CF p H' ys ts:=Paired.agE h λ_ _ z=>z.same k
noncomputable abbrev pj:Stmt:=(ba 54)
noncomputable def ql (C CF:Addr):Sp:=λvs H Q _=>∃(l a:Addr)(p:Int)(m n:Nat)(zs:List V)(Kx:List (List Tm))(bs:List Int),vs=[.ref l,.ref a]/\H l=some (.lst zs)/\fZ C CF p H zs Kx/\Kx.length<60/\FP p/\(∀ts∈Kx,Lv p m n ts)/\m+12<=4000/\n<4000/\H a=some (.tup (bs.map V.int))/\tK bs /\
 ∀H' D ys,aE H H'->H' D=some (.lst ys)->gh H' ys (Kx.map (aC p bs))->Q (.ref D) H'
theorem zq:Eb yE yE (au pj):=dX (by decide +kernel)
section
variable {P:xq}{w:World}{K:PySem.W.Frag}{mg:Cw}{base:Heap}{C CF KR NS NN UN fI K8:Addr}{J5 JH:GS}{tM:Tok}
set_option maxHeartbeats 1000000 in
theorem wM {f:Addr}{fd:GS}(F:FY K "_law_worths" "_law_worths" pj f fd)(W:xD P w K mg base C CF KR NS NN UN fI K8 J5 JH tM):xk P w K mg base (cI P w) 6 f fd yE (ql C CF):=by
 obtain⟨fw,PD,K9,Lb,Lc⟩:=W.worth;refine F.okN zq (λvs H Q E h=>?_) (λJi A outer s H vs Q E hr h=>?_)
 ·obtain⟨l,a,p,m,n,zs,Kx,bs,rfl,_⟩:=h;rfl
 ·obtain⟨l,a,p,m,n,zs,Kx,bs,rfl,hl,hz,hlen,hp,Y9,hm,hn,ha,hb,q⟩:=h;have Ka:A1 5 _:=hr
  refine⟨_,(az (aG (cj (N:=["_law_one","_law_filling"]) (nl:=1) (js:=[1]) (osc:=au pj) ⟨rfl,rfl,by decide +kernel,by decide +kernel,by decide +kernel,rfl,(.cons ⟨rfl,by decide +kernel⟩ .nil),by decide +kernel⟩ rfl
   (b9 (pv 0))
   (λCq fq sq Hq=>aF (i:=0) (by show(["_law_one","_law_filling"]:F3).Nodup;decide +kernel) rfl (Or.inl rfl) (Or.inr rfl))
   (λCq fq sq Hq=>ck)
   (λCq fq sq Hq=>(aR (pv 0) W.c.c.cl Lc K9 Ka Lb .nil ae (ao (pv 1) ai rfl)))))),?_⟩
  have zl:=hz.length;refine⟨_,rfl,l,rfl,⟨_,a8.of hl⟩,?_⟩;refine dm (xs:=zs) (λi us H3=>aE H H3/\gh H3 us ((Kx.take i).map (aC p bs))) ⟨aE.refl _,.nil⟩ (λi us H3 hi h=>?_) (λi x us H3 N hi hx h k=>?_) (λus H3 h=>?_)
  ·refine⟨?_,a8.of (h.1 _ _ hl)⟩;rw[h.2.length,EZ,xo];exact Hv (jP _ _) (Bb hlen (by decide))
  ·obtain⟨s3,h3⟩:=h;obtain⟨ts,et,so,rfl,So⟩:=aV hz hx;obtain⟨dx,fl,Jh,D0,zs0,g1,g2,g3,g4⟩:=(So.same s3).ex;refine ir ⟨_,rfl,so,dx,_,rfl,g1,rfl,_,rfl,so,a,p,ts,m,n,bs,rfl,So.same s3,hp,Y9 ts (Gq et),hm,hn,s3 _ _ ha,hb.lng (Y9 ts (Gq et)),λH5 a5 s5 e5=>k _ _ ⟨s3.trans s5,?_⟩⟩;rw[sf,et,Aq];exact zF (gh.keep h3 (aJ.of s5)) ⟨a5,rfl,e5⟩
  ·obtain⟨s3,h3⟩:=h;rw[zl,yi] at h3;intro L hL;exact q _ L us (s3.trans (av hL)) aj (gh.keep h3 (aJ.of (av hL)))
end
end K09
namespace L2
open PySem PySem.Spec PyProof.Rows
variable {items:Il}
section
variable {prog:xq}{w:World}{A:Around}{E:AU}{s:pL}
theorem oy {it t:Addr}(JG:t≠it):∀(n i:Nat)(s:pL)(Q:List Value->Shared->Prop),s.heap.IsListIter it t i->s.heap.IsList t items->i+n<=items.size →
 (∀h',h'.IsListIter it t (i+n)->Heap.SameBut it s.heap h'->Q ((items.toList.drop i).take n) {s with heap:=h'})->wpAny (model prog w) A (draw (.ref it) n) Q E s
 |0,i,s,Q,hit,_,_,hQ=>by
  show wpAny _ _ (pure []) Q E s;exact Fc (by simpa using hQ s.heap hit (Heap.SameBut.refl ..))
 |n+1,i,s,Q,hit,ht,hle,hQ=>by
  have Jk:i<items.size:=by omega
  show wpAny _ _ (pyNext (.ref it)>>=_) Q E s;refine IW (Bk hit ht (x:=items[i]) (by simp[Jk]) λh₁ NU Qy=>?_)
  have KH:h₁.IsList t items:=by
   obtain⟨o,ho,r⟩:=ht;exact⟨o,(Qy.2 t JG).trans ho,r⟩
  refine IW (BV (oy JG n (i+1) _ _ NU KH (by omega) λh₂ V5 hs₂=>Fc ?_))
  have hd:items.toList.drop i=items[i]::items.toList.drop (i+1):=by simp[yg,Jk]
  have:=hQ h₂ (by rw[show i+(n+1)=i+1+n by omega];exact V5) (Qy.trans hs₂);rw[hd,List.take_succ_cons] at this;exact this
theorem jb {t:Addr}{Q:List Value->Shared->Prop}(hh:A.handled=none)(ht:s.heap.IsList t items)
 (hQ:∀h',Heap.ExtBut s.heap.objs.size s.heap h'->Q items.toList {s with heap:=h'}):wpAny (model prog w) A (unpackItems (.ref t) items.size none) Q E s:=by
 have Jk:t≠s.heap.objs.size:=by obtain⟨o,ho,_⟩:=ht;exact IB (Ep ho)
 have keep:∀{h':Heap},Heap.ExtBut s.heap.objs.size s.heap h'->h'.IsList t items:=λ{h'} e=>by
  obtain⟨o,ho,r⟩:=ht;exact⟨o,e t o Jk ho,r⟩
 unfold unpackItems;refine IW ?_
 ·unfold notIterableAtAll;refine IW (wpAny_specialOf ht.typeIs slot_list_iter.lookup ?_);refine Fc ?_;simp only[BU,wR];refine IW (BV (yf ht ?_));refine IW (BV (oy Jk items.size 0 _ _ ⟨_,Fg _ rfl,rfl,rfl⟩ (keep λb o hb e=>Ez _ e) (by omega) λh₁ NU Qy=>?_))
  have Nf:List.take items.size (List.drop 0 items.toList)=items.toList:=by
   rw[List.drop_zero];exact List.take_of_length_le (by simp)
  rw[Nf];rw[IX (by simp)];have ht₁:h₁.IsList t items:=keep λb o hb e=>(Qy.2 b hb).trans (Ez _ e);refine IW (BV (wD hh NU ht₁ (by simp) λh₂ he₂=>?_));simp only[Option.isSome_none,BU,wR];refine Fc (hQ h₂ λb o hb e=>he₂ b o hb (Qy.extBut b o hb (Ez _ e)))
theorem iI {env:Env}{elts:xB} {x1}{pos:Pos}{t:Addr}{Q:Unit->Shared->Prop}(hh:A.handled=none)(ht:s.heap.IsList t items)
 (hn:(assignEach elts env).length=items.size)(Qz:(assignEach elts env).findIdx? (·.1)=none)
 (h:∀h',Heap.ExtBut s.heap.objs.size s.heap h'->wpAny (model prog w) A (assignInOrder ((assignEach elts env).map (·.2)) items.toList) Q E {s with heap:=h'}):
 wpAny (model prog w) A (assign (.Tuple elts x1 pos) env (.ref t)) Q E s:=by
 rw[assign_Tuple];refine IW (GW ?_);unfold unpack;rw[hn,Qz];exact IW (BV (jb hh ht h))
end
section
variable {X:Cx}{pos:Pos}
noncomputable def Gs (K:PySem.W.Frag)(n:Nat)(t:xg):TG:=λv σ H Q=>∃a xs,v=.ref a/\a8 K H a xs/\xs.length=n/\t xs σ H Q
theorem p4 {es:xB}{k:Nat}{t:xg}{n:Nat}(hc:X.calm=true)(h:G8 X es t)
 (hn:(assignEach es X.env).length=n:=by rfl)(M7:(assignEach es X.env).findIdx? (·.1)=none:=by rfl):PG X (.Tuple es k pos) (Gs X.K n t):=by
 intro pins s σ H v u Q I r hw;obtain⟨a,xs,e1,hq,hl,hw⟩:=hw;subst e1
 cases r
 obtain⟨its,rv,ht,hz⟩:=I.list hq;refine iI (I.ok.hd hc) ht.isList (by simp[hn,<-hl,rv.length]) M7 λh' hx=>?_;have I1:Inv X pins σ H {s with heap:=h'}:=I.kept (t':=s.toks) λb o e=>hx b o (IB (Ep e)) e;exact h pins _ σ H xs _ Q I1 (by simpa using rv) hw
end
end L2
namespace K09
open PySem L2 PySem.W Nm Srt
variable {Jh:Addr}{ts:List Tm}
section
variable {K:Frag}{C CF UN NN s s':Addr}{H:Hp}{p:Int}{a b:List Tm}{m m' n n':Nat}{Q:VK}{E:XK}
theorem yR (hp:FP p)(Sa:xJ C CF H s p a)(Sb:xJ C CF H s' p b)(la:Lv p m n a)(lb:Lv p m' n' b)(hm:m+m'+13<=4000)(hn:n+n'<4000)(q:∀H' u,aE H H'->xJ C CF H' u p (tg p (a++b))->Q (.ref u) H'):yv C CF UN [.ref s,.ref s'] H Q E :=
 ⟨s,s',p,p,a,b,rfl,Sa,Sb,hp,by have:=la.len;have:=lb.len;omega,λ_=>⟨(la.app lb).gth hp (by omega) hn,λH' u S x=>q H' u S x.r⟩,λz=>absurd rfl z⟩
theorem jW (hp:FP p)(Sa:xJ C CF H s p a)(Sb:xJ C CF H s' p b)(la:Lv p m n a)(lb:Lv p m' n' b)(hm:m+m'+12<=4000)(hn:n*n'<4000)(h1:n<4000)(h2:n'<4000)(q:∀H' u,aE H H'->xJ C CF H' u p (tg p (dh p a b))->Q (.ref u) H'):qJ C CF UN [.ref s,.ref s'] H Q E :=
 ⟨s,s',p,p,a,b,rfl,Sa,Sb,hp,Hv (Nat.mul_le_mul la.len lb.len) hn,la.gn hp (by omega) h1,λ_=>⟨lb.gn hp (by omega) h2,(la.mul lb hp).gth hp hm hn,λH' u S x=>q H' u S x.r⟩,λz=>absurd rfl z⟩
theorem rO {y:Addr}{c:Int×Int}(hp:FP p)(Sa:xJ C CF H s p a)(la:Lv p m n a)(hy:H y=some (bY c.1 c.2))(g:Gn p m' c)(hm:m+m'+12<=4000)(hn:n<4000)(q:∀H' u,aE H H'->xJ C CF H' u p (tg p (fh p c a))->Q (.ref u) H'):vF C CF NN [.ref s,.ref y] H Q E:=by
 refine⟨s,p,a,.ref y,some (.int c.1,.int c.2),rfl,Sa,hp,by have:=la.len;omega,λt ht=>(la.gn hp (by omega) hn t ht).1,.two hy (.int _) (.int _),λt b' y' e1 e2 _=>?_,λ_=>⟨y,_,_,rfl,hy⟩,λz=>by rw[oP g.1] at z;cases z⟩
 cases e1
 rw[hy] at e2
 cases e2
 exact⟨g.2.1.mono (by omega),g.2.2.mono (by omega),g.1,(la.scl g hp).gth hp hm hn,λH' u S x=>q H' u S x.r⟩
theorem Cy {fl:Addr}(hf:H fl=some (.ins CF Jh (dS p)))(hp:FP p)(q:∀a,H a=none->Q (.ref a) (upd H a (bY (m1 p).1 (m1 p).2))):ia CF NN [.ref fl,.int (0-1),.int 1] H Q E:=by
 have m1':p≠0->(1:Int)%p=1:=λz=>by
  have:=(hp.two z).2.1;exact yd (by decide) (by omega)
 refine⟨fl,Jh,p,.int (-1),.int 1,_,_,rfl,hf,.int (-1),.int 1,λt b e1 e2=>?_,λz=>by cases z⟩
 injection e1 with e1
 injection e2 with e2
 subst e1;subst e2;refine⟨fl,Jh,p,-1,1,rfl,hf,hp,by unfold B;decide +kernel,(λ_ z=>by cases z),(λz _ a ha=>?_),(λz w=>by rw[m1' z] at w;cases w),λz _ v v0 v1 e a ha=>?_⟩
 ·have e1:dA (-1) 1 = -1:=by decide +kernel
  have e2:cO (-1) 1=1:=by decide +kernel
  rw[e1,e2];have:=q a ha;unfold m1 at this;rw[qk z] at this;exact this
 ·have:=q a ha;unfold m1 at this;rw[IX z] at this;have p2:=(hp.two z).2.1
  have ev:v=1:=by
   have:=yd v0 v1;rw[GA] at e;omega
  have em:-1*v%p=p-1:=by
   rw[ev,GA,<-Int.add_emod_right,yd (by omega) (by omega)];omega
  rw[em];exact this
theorem zA {fl:Addr}{ks:List Int}{tf tk:TE}{σ:St}(hp:FP p)(hk:P5 ks)(JZ:H fl=some (.ins CF Jh (dS p)))(hf:∀{H':Hp}{Q':VK},Q' (.ref fl) H'->tf σ H' Q')
 (M9:∀{H1:Hp}{Q':VK},(∀a H2,aE H1 H2->H2 a=some (.tup (ks.map V.int))->Q' (.ref a) H2)->tk σ H1 Q')(q:∀H' s,aE H H'->xJ C CF H' s p (tg p [(ks,(1,1))])->Q (.ref s) H'):
 DA C (fV C CF) [] E (bx tf (bx (EY (bx (xY (bx tk (bx (xY (bx (tC (V.int 1)) (bx (tC (V.int 1)) ya))) ya))) ya)) ya)) σ H Q:=by
 refine hf (M9 λa1 H1 s1 e1=>?_);refine⟨jJ,λa2 LU=>?_⟩;have s2:=av (o:=.tup [.int 1,.int 1]) LU;have e2:upd H1 a2 (.tup [.int 1,.int 1]) a2=some (.tup [.int 1,.int 1]):=aj;generalize upd H1 a2 _=H2 at s2 e2 |-;refine⟨jJ,λa3 ha3=>?_⟩;have s3:=av (o:=.tup [.ref a1,.ref a2]) ha3;have e3:upd H2 a3 (.tup [.ref a1,.ref a2]) a3=some (.tup [.ref a1,.ref a2]):=aj;generalize upd H2 a3 _=H3 at s3 e3 |-;refine⟨A8,λa4 ha4=>?_⟩;have s4:=av (o:=.lst [.ref a3]) ha4;have e4:upd H3 a4 (.lst [.ref a3]) a4=some (.lst [.ref a3]):=aj;generalize upd H3 a4 _=H4 at s4 e4 |-;intro x dx hx Lu ne;have Kc:=s2.trans (s3.trans s4);have S:=s1.trans Kc;have l:=lC hp hk;refine mx (ts:=[(ks,(1,1))]) hx Lu ne (S _ _ JZ) hp e4 (.cons ⟨a3,a1,a2,rfl,s4 _ _ e3,Kc _ _ e1,(s3.trans s4) _ _ e2⟩ .nil) (l.gth hp (by decide) (by decide)) l.prd λH' s' Sm=>q H' x (S.trans s') Sm
theorem yD {fl x dx:Addr}{Qh:Hp->Prop}(hs:H x=none)(Lu:H dx=none)(ne:dx≠x)(hf:H fl=some (.ins CF Jh (dS p)))(hp:FP p)(q:∀H',aE H H'->xJ C CF H' x p []->Qh H'):
 fV C CF [.ref x,.ref fl,.non] (upd (upd H dx (.own x)) x (.ins C dx [])) (λv H2=>v=.non/\Qh H2) E:=by
 have hS:aE H (upd (upd H dx (.own x)) x (.ins C dx [])):=(av Lu).trans (av (by rw[aA (Bt ne)];exact hs));refine⟨x,dx,fl,Jh,p,.non,[],rfl,aj,hS _ _ hf,hp,.inl ⟨rfl,rfl⟩,pH.lv.gth hp (by decide) (by decide),λt ht=>(nomatch ht),λH' D zs k _ h1 h2 h3=>?_⟩;have sm:=oa hs Lu ne k;exact⟨rfl,q H' sm ⟨dx,fl,Jh,D,zs,h1,sm _ _ hf,h2,h3⟩⟩
theorem xJ.at {C CF:Addr}{H:Hp}{s:Addr}{p:Int}(h:xJ C CF H s p ts):∃dx fl D,H s=some (.ins C dx (pq fl D)):=let⟨dx,fl,Jh,D,zs,h1,_⟩:=h.ex;⟨dx,fl,D,h1⟩
end
variable {H H':Hp}
theorem bg.same {r:Addr}(h:bg H r)(s:aE H H'):bg H' r:=let⟨l,x,e,z⟩:=h;⟨l,x,s _ _ e,z⟩
theorem Cz {r:Addr}{ys:List V}(h:bA H ys ts)(R:bg H r)(S:SameBut r H H'):bA H' ys ts:=bA.keep h (R.ahB S)
variable {C CF s:Addr}{p:Int}
theorem xJ.room {r:Addr}(h:xJ C CF H s p ts)(R:bg H r)(S:SameBut r H H'):xJ C CF H' s p ts:=by
 obtain⟨dx,fl,Jh,D,zs,h1,h2,h3,h4⟩:=h.ex;obtain⟨l,x,e,_⟩:=id R;refine⟨dx,fl,Jh,D,zs,S _ _ h1 λz=>?_,S _ _ h2 λz=>?_,S _ _ h3 λz=>?_,Cz h4 R S⟩
 ·rw[z,e] at h1;cases h1
 ·rw[z,e] at h2;cases h2
 ·rw[z,e] at h3
  cases h3
  cases h4 with
  |cons y _ =>
   obtain⟨a,_,_,z,_⟩:=y
   cases z
noncomputable abbrev pS:Stmt:=(ba 53)
noncomputable def qi (C CF:Addr):Sp:=λvs H Q _=>∃(fl Jh r:Addr)(p:Int),vs=[.ref fl,.ref r]/\H fl=some (.ins CF Jh (dS p))/\FP p/\bg H r/\∀H' s ts,Row p 190 ts->xJ C CF H' s p ts->bg H' r->SameBut r H H'->Q (.ref s) H'
theorem fQ:Eb ["_law_field","_law_room_here","_law_places","_law_one","_law_other","_law_rest","_law_some"] Hn (au pS):=dX (by decide +kernel)
variable {f:Addr}{fd:GS}
section
variable {P:xq}{w:World}{K:PySem.W.Frag}{mg:Cw}{base:Heap}{C CF KR NS NN UN fI K8:Addr}{J5 JH:GS}{tM:Tok}
set_option maxHeartbeats 1000000 in
theorem xm (F:FY K "_law_either" "_law_either" pS f fd)(W:xD P w K mg base C CF KR NS NN UN fI K8 J5 JH tM):xk P w K mg base (cI P w) 10 f fd Hn (qi C CF):=by
 obtain⟨fTk,V6,QA,QB,QC,QD⟩:=W.take;obtain⟨fPl,V7,P4,P6,P7⟩:=W.plus;obtain⟨Za,QE,K3,K4,K5⟩:=W.times;obtain⟨fSc,V8,Qm,Qn,Qo⟩:=W.scaled;obtain⟨fMa,acp,VP,VQ,VR⟩:=W.made;refine F.okN fQ (λvs H Q E h=>?_) (λJi A outer s H vs Q E hr h=>?_)
 ·obtain⟨fl,Jh,r,p,rfl,_⟩:=h;rfl
 ·obtain⟨fl,Jh,r,p,rfl,JZ,hp,Rm,q⟩:=h;have Jx:A1 9 _:=hr;have ME:A1 7 _:=Jx.mono (by decide);have KD:A1 4 _:=Jx.mono (by decide);have Jp:A1 1 _:=Jx.mono (by decide)
  refine⟨_,(ar (@aY _ _ 2 _ _ _ _ fQ.nd rfl (Or.inl rfl) (cM (ao (aD QA Jp (by rfl) QC QD QB .nil ae (ao (pv 1) (ao aq ai rfl) rfl)) (ao (aD QA Jp (by rfl) QC QD QB .nil ae (ao (pv 1) (ao aq ai rfl) rfl)) ai rfl) rfl)) rfl (Or.inl rfl))
   (ar (gr (cj (N:=["_law_place","_law_field"]) (nl:=1) (js:=[0]) (osc:=au pS) ⟨rfl,rfl,by decide +kernel,by decide +kernel,by decide +kernel,rfl,(.cons ⟨rfl,by decide +kernel⟩ .nil),by decide +kernel⟩ rfl
    (b9 (pv 2))
    (λCq fq sq Hq=>aF (i:=0) (by show(["_law_place","_law_field"]:F3).Nodup;decide +kernel) rfl (Or.inl rfl) (Or.inr rfl))
    (λCq fq sq Hq=>ck)
    (λCq fq sq Hq=>(eX W.M W.FI ME (by rfl) W.c.c.mgC W.bI .nil ae (ao (pv 1) (ao (cM (ao (bF (ao (bF (ao (pv 0) ai rfl)) (ao (bF (ao aq (ao aq ai rfl) rfl)) ai rfl) rfl)) ai rfl)) ai rfl) rfl)))) (p4 rfl (aO (aF (i:=3) fQ.nd rfl (Or.inl rfl)) (aO (aF (i:=4) fQ.nd rfl (Or.inl rfl)) cJ))))
   (ar (@aY _ _ 5 _ _ _ _ fQ.nd rfl (Or.inl rfl) (aR (eX W.M W.FI ME (by rfl) W.c.c.mgC W.bI .nil ae (ao (pv 0) (ao (cM (ao (bF (ao (bF ai) (ao (bF (ao aq (ao aq ai rfl) rfl)) ai rfl) rfl)) ai rfl)) ai rfl) rfl)) W.c.c.cl P7 P4 Jx P6 .nil ae (ao (aR (pv 4) W.c.c.cl Qo Qm Jx Qn .nil ae (ao (aR (dvs:=[.int 1]) (pv 0) W.cF.cl VR VP KD VQ (.cons ⟨_,rfl⟩ .nil) ae (ao (aH lK aq aq) ai rfl)) ai rfl)) ai rfl)) rfl (Or.inl rfl))
   (ar (@aY _ _ 6 _ _ _ _ fQ.nd rfl (Or.inl rfl) (cM (ao (pv 3) (ao (pv 5) (ao (aR (pv 3) W.c.c.cl K5 K3 Jx K4 .nil ae (ao (pv 5) ai rfl)) (ao (aR (pv 3) W.c.c.cl K5 K3 Jx K4 .nil ae (ao (pv 4) ai rfl)) (ao (eX (dvs:=[.non]) W.M W.FI ME (by rfl) W.c.c.mgC W.bI1 (.cons rfl .nil) ae (ao (pv 0) ai rfl)) (ao (eX W.M W.FI ME (by rfl) W.c.c.mgC W.bI .nil ae (ao (pv 0) (ao (cM (ao (bF (ao (bF ai) (ao (bF (ao aq (ao aq ai rfl) rfl)) ai rfl) rfl)) ai rfl)) ai rfl) rfl)) ai rfl) rfl) rfl) rfl) rfl) rfl)) rfl (Or.inl rfl))
   (az (aG (bf cq (pv 6) (aD QA Jp (by rfl) QC QD QB .nil ae (ao (pv 1) (ao aq ai rfl) rfl)) (λ_ _=>rfl)))))))),?_⟩
  obtain⟨l0,x0,V9,y0,z0⟩:=id Rm;refine⟨_,rfl,r,l0,x0,5,rfl,V9,y0,z0,by decide,by decide,λi l1 x1 i0 i5 y1 z1=>?_⟩
  have K2:SameBut r H (upd H r (.lst [.int l1,.int x1])):=λb o e n=>by rw[aA n];exact e
  have Wa:upd H r (.lst [.int l1,.int x1]) r=some (.lst [.int l1,.int x1]):=aj;generalize upd H r _=H1 at K2 Wa |-;refine⟨_,rfl,r,l1,x1,5,rfl,Wa,y1,z1,by decide,by decide,λj l2 x2 j0 j5 y2 z2=>?_⟩
  have Mb:SameBut r H (upd H1 r (.lst [.int l2,.int x2])):=K2.trans λb o e n=>by rw[aA n];exact e
  have R2:bg (upd H1 r (.lst [.int l2,.int x2])) r:=⟨l2,x2,aj,y2,z2⟩;generalize upd H1 r _=H2 at Mb R2 |-
  have fr:fl≠r:=λz=>by rw[z,V9] at JZ;cases JZ
  have JZ:=Mb _ _ JZ fr;refine⟨jJ,λL hL=>?_⟩;have s3:=av (o:=.lst [.int i,.int j]) hL;have e3:upd H2 L (.lst [.int i,.int j]) L=some (.lst [.int i,.int j]):=aj;generalize upd H2 L _=H3 at s3 e3 |-
  have pz:∀z∈[i,j],P5 [z]:=λz hz=>⟨by simp,λk hk=>by
   have ek:k=z:=by simpa using hk
   have ez:z=i\/z=j:=by simpa using hz
   rcases ez with rfl|rfl <;> omega⟩
  refine⟨_,rfl,L,rfl,⟨_,a8.of e3⟩,?_⟩;refine dm (xs:=[.int i,.int j]) (λk us H'=>aE H3 H'/\fZ C CF p H' us (([i,j].take k).map λz=>tg p [([z],(1,1))])) ⟨aE.refl _,.nil⟩ (λk us H' hk h=>?_) (λk x us H' N hk hx h kk=>?_) (λus H' h=>?_)
  ·refine⟨?_,a8.of (h.1 _ _ e3)⟩;rw[h.2.length,EZ,xo];exact Hv (jP _ _) (show 2<sizeLine by decide)
  ·obtain⟨s4,h4⟩:=h
   obtain⟨z,ez,rfl⟩:∃z,[i,j][k]?=some z/\x=.int z:=by
    rw[show([.int i,.int j]:List V)=[i,j].map V.int from rfl,CR] at hx;obtain⟨z,e1,e2⟩:=uJ.mp hx;exact⟨z,e1,e2.symm⟩
   refine ir (zA (fl:=fl) hp (pz z (Gq ez)) (s4 _ _ (s3 _ _ JZ)) (λq=>⟨_,rfl,q⟩) (λq=>⟨_,rfl,A8,λa ha=>q a _ (av ha) aj⟩) λH5 s5 S5 Sm=>kk _ _ ⟨s4.trans S5,?_⟩);rw[sf,ez,Aq];exact zF (fZ.same h4 S5) ⟨s5,rfl,Sm⟩
  ·obtain⟨s4,h4⟩:=h;intro L2 Ma;have s5:=s4.trans (av (o:=.lst us) Ma);have e5:upd H' L2 (.lst us) L2=some (.lst us):=aj;have h5:=fZ.same h4 (av (o:=.lst us) Ma);generalize upd H' L2 _=H5 at s5 e5 h5 |-
   cases h5 with
   |cons b1 t1 =>
   cases t1 with
   |cons b2 t2 =>
   cases t2
   obtain⟨u1,rfl,S1⟩:=b1;obtain⟨u2,rfl,S2⟩:=b2;have JZ:=s5 _ _ (s3 _ _ JZ);have R5:=(R2.same s3).same s5;have OR:=Mb.trans (.of (s3.trans s5));clear s4 h4 s5 s3 Ma hL e3 V9 Wa K2 Mb R2;have w1:=jZ hp (pz i (by simp));have w2:=jZ hp (pz j (by simp));refine⟨L2,_,rfl,a8.of e5,rfl,_,_,rfl,_,_,rfl,rfl,?_⟩;dsimp only[rV,qh,mf,bx,ya,bK];have p0:P5 []:=⟨by simp,λk hk=>nomatch hk⟩;have wu:=jZ hp p0;have wr:=yx hp ⟨j0,j5⟩;refine zA (fl:=fl) hp p0 JZ (λq=>⟨_,rfl,q⟩) (λq=>⟨Gy _,λa ha=>q a _ (av ha) aj⟩) λH6 u6 s6 S6=>?_
   obtain⟨dx6,fl6,D6,g6⟩:=S6.at
   have S1:=S1.same s6;have S2:=S2.same s6;have JZ:=s6 _ _ JZ
   obtain⟨MG,Uc,D2,g2⟩:=S2.at
   refine⟨u6,dx6,_,rfl,g6,rfl,_,rfl,u2,MG,_,rfl,g2,rfl,_,rfl,fl,Jh,_,rfl,JZ,rfl,0,1,rfl,rfl,Cy JZ hp λa7 ha7=>?_⟩;have s7:=av (o:=bY (m1 p).1 (m1 p).2) ha7;have e7:upd H6 a7 (bY (m1 p).1 (m1 p).2) a7=some (bY (m1 p).1 (m1 p).2):=aj;generalize upd H6 a7 _=H7 at s7 e7 |-;obtain⟨gm,_⟩:=DC hp;refine rO hp (S2.same s7) w2.lv e7 gm (by decide) (by decide) λH8 u8 s8 S8=>?_;have Wc:=s7.trans s8;refine yR hp (S6.same Wc) S8 wu.lv ((w2.lv.scl gm hp).tg hp (by decide)) (by decide) (by decide) λH9 u9 s9 S9=>?_;have O0:=Wc.trans s9;have S1:=S1.same O0;have S2:=S2.same O0;have JZ:=O0 _ _ JZ;have R9:=(R5.same s6).same O0;have Zb:=OR.trans (.of (s6.trans O0));clear O0 Wc s7 s8 s9 s6 S6 S8 e7 R5 OR g6 g2
   obtain⟨LV,MB,D1,g1⟩:=S1.at
   refine⟨_,rfl,_,rfl,_,rfl,u1,LV,_,rfl,g1,rfl,_,rfl,?_⟩;dsimp only[ya,bx,mf];refine jW hp S1 S9 w1.lv wr.lv (by decide) (by decide) (by decide) (by decide) λHa ua sa Sa=>?_;have QF:=S1.same sa
   obtain⟨dxa,fla,Da,ga⟩:=QF.at
   refine⟨_,rfl,u1,dxa,_,rfl,ga,rfl,_,rfl,?_⟩;dsimp only[ya,bx,mf];refine jW hp QF (S2.same sa) w1.lv w2.lv (by decide) (by decide) (by decide) (by decide) λHb ub sb Sb=>?_;have NV:=sb _ _ (sa _ _ JZ);refine⟨_,rfl,λxc dxc hc hdc nc=>yD hc hdc nc NV hp λHc sc Sc=>?_⟩;refine zA (fl:=fl) hp p0 (sc _ _ NV) (λq=>⟨_,rfl,q⟩) (λq=>⟨Gy _,λa ha=>q a _ (av ha) aj⟩) λHd ud sd Sd=>?_;have S9d:=((S9.same sa).same sb).same (sc.trans sd);have S1d:=((S1.same sa).same sb).same (sc.trans sd);have Sad:=(Sa.same sb).same (sc.trans sd);have Sbd:=Sb.same (sc.trans sd);have Scd:=Sc.same sd;have HV:=sa.trans (sb.trans (sc.trans sd));have Rd:=R9.same HV;have sbd:=Zb.trans (.of HV);clear HV sa sb sc sd QF R9 Zb ga g1 NV;refine⟨aaf,λL6 QG=>?_⟩;have s6:=av (o:=.lst [.ref u1,.ref u9,.ref ua,.ref ub,.ref xc,.ref ud]) QG;have e6:upd Hd L6 (.lst [.ref u1,.ref u9,.ref ua,.ref ub,.ref xc,.ref ud]) L6=some (.lst [.ref u1,.ref u9,.ref ua,.ref ub,.ref xc,.ref ud]):=aj;generalize upd Hd L6 _=QH at s6 e6 |-;obtain⟨l8,x8,Zc,y8,z8⟩:=Rd.same s6;refine⟨_,rfl,_,rfl,r,l8,x8,6,rfl,Zc,y8,z8,by decide,by decide,λk l9 x9 k0 k6 y9 z9=>?_⟩
   have nL:L6≠r:=λz=>by rw[z,Zc] at e6;cases e6
   have Wd:SameBut r QH (upd QH r (.lst [.int l9,.int x9])):=λb o e n=>by rw[aA n];exact e
   have R9:bg (upd QH r (.lst [.int l9,.int x9])) r:=⟨l9,x9,aj,y9,z9⟩;have e9:=Wd _ _ e6 nL;have key:∀u ts,xJ C CF Hd u p ts->Row p 190 ts->Q (.ref u) (upd QH r (.lst [.int l9,.int x9])):=λu ts S w=>q _ u ts w ((S.same s6).room (Rd.same s6) Wd) R9 (sbd.trans ((SameBut.of s6).trans Wd));generalize upd QH r _=H9' at e9 key |-
   have kc:k=0\/k=1\/k=2\/k=3\/k=4\/k=5:=by omega
   rcases kc with rfl|rfl|rfl|rfl|rfl|rfl
   ·exact⟨L6,_,_,.ref u1,rfl,rfl,a8.of e9,rfl,key u1 _ S1d (w1.mono (by decide))⟩
   ·exact⟨L6,_,_,.ref u9,rfl,rfl,a8.of e9,rfl,key u9 _ S9d (wr.mono (by decide))⟩
   ·exact⟨L6,_,_,.ref ua,rfl,rfl,a8.of e9,rfl,key ua _ Sad ((w1.mul wr hp).mono (by decide))⟩
   ·exact⟨L6,_,_,.ref ub,rfl,rfl,a8.of e9,rfl,key ub _ Sbd ((w1.mul w2 hp).mono (by decide))⟩
   ·exact⟨L6,_,_,.ref xc,rfl,rfl,a8.of e9,rfl,key xc _ Scd (pH.mono (by decide))⟩
   ·exact⟨L6,_,_,.ref ud,rfl,rfl,a8.of e9,rfl,key ud _ Sd (wu.mono (by decide))⟩
end
variable {ns:List Int}
theorem Hf.at (o:Hf ns){k:Int}(h:0<=k/\k<5):ns[k.toNat]?=some (ns.getD k.toNat 0)/\0<=ns.getD k.toNat 0/\ns.getD k.toNat 0<5:=by
 have l:=o.len
 have hk:k.toNat<ns.length:=by omega
 have e:ns.getD k.toNat 0=ns[k.toNat]:=by rw[GJ,Ii hk];rfl
 rw[e];exact⟨Ii hk,o.pl _ (BK hk)⟩
theorem Hf.inj (o:Hf ns){k j:Int}(h:0<=k/\k<5)(g:0<=j/\j<5)(e:ns.getD k.toNat 0=ns.getD j.toNat 0):k=j:=by
 have l:=o.len
 have hk:k.toNat<ns.length:=by omega
 have hj:j.toNat<ns.length:=by omega
 have e1:=(o.at h).1;have e2:=(o.at g).1;rw[e,<-e2] at e1;have:=(List.getElem?_inj hk o.nd).mp e1;omega
theorem DX {t:Tm}(o:Hf ns)(h:P5 t.1):P5 (zZ ns t).1:=by
 refine⟨?_,λk hk=>?_⟩
 ·have le:(xT (t.1.map λk=>ns.getD k.toNat 0)).Pairwise (· <= ·):=by
   have z:=List.pairwise_mergeSort (le:=λa b:Int=>decide (a<=b)) (by simp;intro a b c;omega) (by simp;intro a b;omega) (t.1.map λk=>ns.getD k.toNat 0);exact z.imp λh=>mZ h
  have nd:(xT (t.1.map λk=>ns.getD k.toNat 0)).Nodup:=by
   refine(Bc _ _).nodup_iff.mpr ?_;refine yP.mpr ?_;refine List.Pairwise.imp_of_mem ?_ h.1;intro a b ha hb JX z;have:=o.inj (h.2 a ha) (h.2 b hb) z;omega
  exact(List.Pairwise.and le nd).imp λh=>by
   obtain⟨h1,h2⟩:=h;have:_≠_:=h2;omega
 ·obtain⟨j,hj,rfl⟩:=EA.mp (mq.mp hk);exact(o.at (h.2 j hj)).2
variable {m n:Nat}
theorem Lv.zZ (h:Lv p m n ts)(o:Hf ns):Lv p m n (ts.map (zZ ns)):=by
 obtain⟨D,M,d0,m0,bd,bm,h⟩:=h;refine⟨D,M,d0,m0,bd,bm,λt ht=>?_,λt ht=>?_,by rw[EZ];exact h.l⟩
 ·obtain⟨x,hx,rfl⟩:=EA.mp ht;exact h.d x hx
 ·obtain⟨x,hx,rfl⟩:=EA.mp ht;exact DX o (h.k x hx)
structure Hand (C CF:Addr)(H:Hp)(p:Int)(a b:List Tm)(c:Int×Int)(ns:List Int)(l s1 s2 nu lo:Addr):Prop where
 hl:H l=some (.lst [.ref s1,.ref s2])
 S1:xJ C CF H s1 p a
 S2:xJ C CF H s2 p b
 hn:H nu=some (bY c.1 c.2)
 ho:H lo=some (.lst (ns.map V.int))
variable {a:List Tm}
theorem Hand.same {b:List Tm}{c:Int×Int}{l s1 s2 nu lo:Addr}(h:Hand C CF H p a b c ns l s1 s2 nu lo)(s:aE H H'):Hand C CF H' p a b c ns l s1 s2 nu lo :=
 ⟨s _ _ h.hl,h.S1.same s,h.S2.same s,s _ _ h.hn,s _ _ h.ho⟩
variable {K:Frag}
theorem p7 {x y:Addr}{w:Int×Int}{Q:VK}(hx:H x=some (bY w.1 w.2))(hy:H y=some (bY w.1 w.2))(q:Q (.bl false) H):mK K true (.ref x) (.ref y) H Q :=
 ⟨.tup ([w.1,w.2].map D.int),.tup ([w.1,w.2].map D.int),eJ hx,eJ hy,by rw[j7];decide,by rw[fO];exact q⟩
theorem Af {s1 z af ah ay:Addr}{r:List Tm}{x y:Int×Int}{bs:List Int}{m:Str}{Zd:Sp}{g:Int->Int->Int->Int->Int}{i j k n:Nat}{σ:St}{E1 E2 E3:XK}{Qt:Bool->Hp->Prop}(hp:FP p)
 (e5:σ[5]?=some (some (.ref s1)))(ei:σ[i]?=some (some (.ref z)))(e7:σ[7]?=some (some (.ref af)))(e1:σ[1]?=some (some (.int p)))(e8:σ[8]?=some (some (.ref ah)))(ej:σ[j]?=some (some (.ref ay)))
 (S1:xJ C CF H s1 p a)(hm:∀fl D,(pq fl D).lookup m=none)(hM:∀{Q:VK},(∀H' u,aE H H'->xJ C CF H' u p r->Q (.ref u) H')->Zd [.ref s1,.ref z] H Q E2)
 (hL:Lv p k n r)(hk:k+12<=4000)(hn:n<4000)(Jz:H af=some (.tup (bs.map V.int)))(hb:tK bs)(KJ:H ah=some (bY x.1 x.2))(hay:H ay=some (bY y.1 y.2))(gx:Gn p 4000 x)(gy:Gn p 4000 y)
 (hw:(c9 p (g x.1 x.2 y.1 y.2) (x.2*y.2),dw p (g x.1 x.2 y.1 y.2) (x.2*y.2))=aC p bs r)(q:∀H',aE H H'->Qt false H'):
 Dp (oq (mK K true) (mf C "worth" (ph C CF) [] E1 (mf C m Zd [] E2 (dg 5) (bx (dg i) ya)) (bx (dg 7) ya)) (A5 (my g) [] E3 (bx (dg 1) (bx (dg 8) (bx (dg j) ya))))) σ H Qt:=by
 obtain⟨dx,fl,D,g1⟩:=S1.at
 refine⟨_,e5,s1,dx,_,rfl,g1,hm fl D,_,ei,hM λH2 u t2 S2=>?_⟩
 obtain⟨MG,Uc,D2,g2⟩:=S2.at
 refine⟨u,MG,_,rfl,g2,rfl,_,e7,u,af,p,r,k,n,bs,rfl,S2,hp,hL,hk,hn,t2 _ _ Jz,hb.lng hL,λH3 a3 t3 e3=>?_⟩;have We:=t2.trans t3;refine⟨_,e1,_,e8,_,ej,p,x.1,x.2,y.1,y.2,ah,ay,rfl,hp,We _ _ KJ,We _ _ hay,gx.2.1,gx.2.2,gy.2.1,gy.2.2,gx.ne,gy.ne,λz=>?_,λH4 a4 t4 e4=>?_⟩
 ·rw[(gx.1.pr z).1,(gy.1.pr z).1];rfl
 ·have e4:H4 a4=some (bY (aC p bs r).1 (aC p bs r).2):=by rw[<-hw];exact e4
  exact p7 (t4 _ _ e3) e4 ⟨false,rfl,q _ (We.trans t4)⟩
theorem l7 (h:Lv p m n ts)(hp:FP p)(hn:n<2048)(hm:m<=900):Lv p 911 32 (tg p ts):=(h.tg hp hn).mono (by omega) (yH _)
theorem Gn.mono {w:Int×Int}(h:Gn p m w)(l:m<=n):Gn p n w:=⟨h.1,h.2.1.mono l,h.2.2.mono l⟩
theorem Ft (t u:Tm):d6 (qd t) (qd u)=decide (t=u):=by
 show(eB (t.1.map D.int) (u.1.map D.int)&&((t.2.1==u.2.1&&(t.2.2==u.2.2&&true))&&true))=decide (t=u);rw[iZ,tW,tW];obtain⟨k,x,y⟩:=t;obtain⟨k',x',y'⟩:=u;rw[FJ];simp[Ir]
theorem wx:∀ts us:List Tm,eB (ts.map qd) (us.map qd)=decide (ts=us)
 |[],[]=>rfl
 |[],u::us=>by simp;rfl
 |t::ts,[]=>by simp;rfl
 |t::ts,u::us=>by
  show(d6 (qd t) (qd u)&&eB (ts.map qd) (us.map qd))=_;rw[Ft,wx ts us]
  by_cases e:t=u
  ·subst e;simp
  ·simp[e]
theorem GB {b:Bool}{P Q:Prop}(h:b=false)(q:Q):if b=true then P else Q:=by rw[IX (by rw[h];decide)];exact q
theorem GT {b:Bool}{P Q:Prop}(h:b=true)(q:P):if b=true then P else Q:=by rw[qk h];exact q
noncomputable def gq (ns bs:List Int):Nat->List Int
 |0=>[0,0,0,0,0]
 |i+1=>(gq ns bs i).set (ns.getD i 0).toNat (bs.getD i 0)
theorem iB (ns bs:List Int):∀i,(gq ns bs i).length=5
 |0=>rfl
 |i+1=>by
  show((gq ns bs i).set _ _).length=5;rw[List.length_set,iB]
theorem q9 {ns bs:List Int}(h:tK bs):∀i,i<=5->tK (gq ns bs i)
 |0,_=>⟨(by decide:5<=5),(by decide:5<64),(by decide:∀b∈([0,0,0,0,0]:List Int),0<=b/\b<=1)⟩
 |i+1,hi=>by
  obtain⟨h1,h2,h3⟩:=q9 (ns:=ns) h i (by omega);refine⟨by rw[iB];decide,by rw[iB];decide,λb hb=>?_⟩
  rcases List.mem_or_eq_of_mem_set hb with z|z
  ·exact h3 b z
  ·rw[z]
   have hl:i<bs.length:=by have:=h.1;omega
   rw[GJ,Ii hl];exact h.2.2 _ (BK hl)
theorem AM {bs:List Int}(o:Hf ns):∀i:Nat,i<=5->∀k:Int,0<=k->k<i->(gq ns bs i).getD (ns.getD k.toNat 0).toNat 0=bs.getD k.toNat 0
 |0,_,k,h0,hk=>by omega
 |i+1,hi,k,h0,hk=>by
  have Ze:0<=k/\k<5:=⟨h0,by omega⟩;have Zf:0<=(i:Int)/\(i:Int)<5:=⟨by omega,by omega⟩;obtain⟨_,a0,a5⟩:=o.at Ze;obtain⟨_,b0,b5⟩:=o.at Zf;have ei:((i:Int)).toNat=i:=Ho i;rw[ei] at b0 b5;show((gq ns bs i).set (ns.getD i 0).toNat (bs.getD i 0)).getD _ 0=_;rw[GJ,List.getElem?_set]
  by_cases e:k=i
  ·subst e;rw[ei,qk rfl,qk (by rw[iB];omega)];rfl
  ·have ne:(ns.getD i 0).toNat≠(ns.getD k.toNat 0).toNat:=λz=>e (o.inj Ze Zf (by rw[ei];omega));rw[IX ne,<-GJ];exact AM o i (by omega) k h0 (by omega)
theorem Jb {k:Int}(h0:0<=k)(hk:k<n):xI n k=some k.toNat:=by
 unfold xI;rw[qk h0,qk hk]
noncomputable abbrev sv:Stmt:=(ba 55)
noncomputable def uY (C CF:Addr):Sp:=λvs H Q _=>∃(fv:V)(p:Int)(a b:List Tm)(c:Int×Int)(ns:List Int)(l s1 s2 nu lo:Addr),vs=[fv,.int p,.ref l,.ref nu,.ref lo]/\FP p/\Hand C CF H p a b c ns l s1 s2 nu lo/\Lv p 290 6 a/\Lv p 290 6 b/\tg p a=a/\tg p b=b/\Gn p 45 c/\Hf ns/\∀H',aE H H'->Q (.bl true) H'
theorem d8:Eb ["_law_field","_law_prime_here","_law_sums","_law_number_here","_law_order","_law_one","_law_other","_law_filling","_law_here","_law_there","_law_led","_law_place","_law_alike"] Gg (au sv):=dX (by decide +kernel)
section
variable {P:xq}{w:World}{K:PySem.W.Frag}{mg:Cw}{base:Heap}{C CF KR NS NN UN fI K8:Addr}{J5 JH:GS}{tM:Tok}
set_option maxHeartbeats 1000000 in
theorem Aj (F:FY K "_law_right" "_law_right" sv f fd)(W:xD P w K mg base C CF KR NS NN UN fI K8 J5 JH tM)
 (q0:Ca P w K mg base 6 yE "_law_worths" (ql C CF)):
 xk P w K mg base (cI P w) 10 f fd Gg (uY C CF):=by
 obtain⟨fWs,acC,FWs,bWs,mWs,kWs⟩:=q0;obtain⟨fAl,Wf,Ud,Ue,Ug,Uh⟩:=W.all;obtain⟨fLp,acI,FLp,bLp,mLp,kLp⟩:=W.lplus;obtain⟨fLm,acN,Zg,Zh,Zi,Zj⟩:=W.ltimes;obtain⟨fWo,Wg,K9,Lb,Lc⟩:=W.worth;obtain⟨fRn,acP,FRn,bRn,mRn⟩:=W.renamed;obtain⟨fPl,V7,P4,P6,P7⟩:=W.plus;obtain⟨Za,QE,K3,K4,K5⟩:=W.times;obtain⟨fSc,V8,Qm,Qn,Qo⟩:=W.scaled;obtain⟨fE,fdE,FE,bE,nE,iE⟩:=W.eq;refine F.okN d8 (λvs H Q E h=>?_) (λJi A outer s H vs Q E hr h=>?_)
 ·obtain⟨fv,p,a,b,c,ns,l,s1,s2,nu,lo,rfl,_⟩:=h;rfl
 ·obtain⟨fv,p,a,b,c,ns,l,s1,s2,nu,lo,rfl,hp,hd,la,lb,ta,tb,gc,o5,q⟩:=h;have Jx:A1 9 _:=hr;have hr6:A1 6 _:=Jx.mono (by decide);have Ka:A1 5 _:=Jx.mono (by decide);have K1:A1 3 _:=Jx.mono (by decide);have JD:A1 2 _:=Jx.mono (by decide);have Jp:A1 1 _:=Jx.mono (by decide)
  refine⟨_,(ar (gr (pv 2) (p4 rfl (aO (aF (i:=5) d8.nd rfl (Or.inr rfl)) (aO (aF (i:=6) d8.nd rfl (Or.inr rfl)) cJ))))
   (ar (eG E5 rfl (b9 (aD Ud Jp (by rfl) Ug Uh Ue .nil ae (ao aq ai rfl))) (aF (i:=7) d8.nd rfl (Or.inl rfl))
   (ar (gr (aD FWs hr6 (by rfl) mWs kWs bWs .nil ae (ao (pv 2) (ao (pv 7) ai rfl) rfl)) (p4 rfl (aO (aF (i:=8) d8.nd rfl (Or.inl rfl)) (aO (aF (i:=9) d8.nd rfl (Or.inl rfl)) cJ))))
   (ar (bo (aS (show eT _ _ (mK K true) from ij Jx) (aR (aR (pv 5) W.c.c.cl P7 P4 Jx P6 .nil ae (ao (pv 6) ai rfl)) W.c.c.cl Lc K9 Ka Lb .nil ae (ao (pv 7) ai rfl)) (aD FLp K1 (by rfl) mLp kLp bLp .nil ae (ao (pv 1) (ao (pv 8) (ao (pv 9) ai rfl) rfl) rfl)) (aM _)) (az (aG fJ)) aI)
   (ar (bo (aS (show eT _ _ (mK K true) from ij Jx) (aR (aR (pv 5) W.c.c.cl K5 K3 Jx K4 .nil ae (ao (pv 6) ai rfl)) W.c.c.cl Lc K9 Ka Lb .nil ae (ao (pv 7) ai rfl)) (aD Zg K1 (by rfl) Zi Zj Zh .nil ae (ao (pv 1) (ao (pv 8) (ao (pv 9) ai rfl) rfl) rfl)) (aM _)) (az (aG fJ)) aI)
   (ar (bo (aS (show eT _ _ (mK K true) from ij Jx) (aR (aR (pv 5) W.c.c.cl Qo Qm Jx Qn .nil ae (ao (pv 3) ai rfl)) W.c.c.cl Lc K9 Ka Lb .nil ae (ao (pv 7) ai rfl)) (aD Zg K1 (by rfl) Zi Zj Zh .nil ae (ao (pv 1) (ao (pv 8) (ao (pv 3) ai rfl) rfl) rfl)) (aM _)) (az (aG fJ)) aI)
   (ar (@aY _ _ 10 _ _ _ _ d8.nd rfl (Or.inl rfl) (aH abl (cM (ao aq ai rfl)) aq) rfl (Or.inl rfl))
   (ar (eG E5 rfl (df (by rfl) W.m_range (ao aq ai rfl)) (aF (i:=11) d8.nd rfl (Or.inl rfl))
   (az (gr (bf bH (pv 7) (pv 11) (λ_ _=>rfl)) (pY (pv 10) (bf cq (pv 4) (pv 11) (λ_ _=>rfl)) iM))))
   (az (bo (aS (show eT _ _ (mK K true) from ij Jx) (aR (aR (pv 5) W.c.c.cl mRn FRn Jx bRn .nil ae (ao (pv 4) ai rfl)) W.c.c.cl Lc K9 Ka Lb .nil ae (ao (eA dO (by rfl) W.m_tuple (by rfl) (ao (pv 10) ai rfl)) ai rfl)) (pv 8) (aM _)) (az (aG fJ)) aI)))))))))
   (ar (@aY _ _ 12 _ _ _ _ d8.nd rfl (Or.inl rfl) (cN (rN Jx) (cj (N:=["_law_filling","_law_one","_law_other"]) (nl:=1) (js:=[5,6]) (osc:=au sv) ⟨rfl,rfl,by decide +kernel,by decide +kernel,by decide +kernel,rfl,(.cons ⟨rfl,by decide +kernel⟩ (.cons ⟨rfl,by decide +kernel⟩ .nil)),by decide +kernel⟩ rfl
    (b9 (aD Ud Jp (by rfl) Ug Uh Ue .nil ae (ao aq ai rfl)))
    (λCq fq sq Hq=>aF (i:=0) (by show(["_law_filling","_law_one","_law_other"]:F3).Nodup;decide +kernel) rfl (Or.inl rfl) (Or.inr rfl))
    (λCq fq sq Hq=>(gR (aS (show eT _ _ (mK K true) from ij Jx) (aR (pv 1) W.c.c.cl Lc K9 Ka Lb .nil ae (ao (pv 0) ai rfl)) (aR (pv 2) W.c.c.cl Lc K9 Ka Lb .nil ae (ao (pv 0) ai rfl)) (aM _))))
    (λCq fq sq Hq=>(pv 0))) (cM ai) (aM _)) rfl (Or.inl rfl))
   (az (aG (cN dU (cN (ml nE iE FE JD bE ae) (pv 5) (pv 6) (aM _)) (pv 12) (aM _))))))),?_⟩
  refine⟨_,rfl,l,_,rfl,a8.of hd.hl,rfl,_,_,rfl,_,_,rfl,rfl,?_⟩;refine⟨5,rfl,yH 5,λH1 Dl ys t1 hD hb=>?_⟩;refine⟨Dl,rfl,⟨_,a8.of hD⟩,?_⟩;have h1:=hd.same t1;have q1:∀H',aE H1 H'->Q (.bl true) H':=λH' t=>q H' (t1.trans t);clear q;refine iV (K:=K) (a:=Dl) (xs:=ys) (λi σ H'=>aE H1 H'/\∃o7 o8 o9 Wh NW Ui,σ=[some fv,some (.int p),some (.ref l),some (.ref nu),some (.ref lo),some (.ref s1),some (.ref s2),o7,o8,o9,Wh,NW,Ui]) ⟨aE.refl _,_,_,_,_,_,_,rfl⟩ (λj σ H' _ h=>a8.of (h.1 _ _ hD)) ?_ ?_
  ·rintro i y σ H2 hy ⟨t2,o7,o8,o9,Wh,NW,Ui,rfl⟩;obtain⟨bs,eb,af,rfl,Jz⟩:=aV hb hy;have KI:bs∈gF 5:=Gq eb;have bits:=pE KI;have Jz:=t2 _ _ Jz;have h2:=h1.same t2;refine⟨_,rfl,_,rfl,l,af,p,290,6,[.ref s1,.ref s2],[a,b],bs,rfl,h2.hl,.cons ⟨s1,rfl,h2.S1⟩ (.cons ⟨s2,rfl,h2.S2⟩ .nil),(show 2<60 by decide),hp,(λts Ko=>?_),by decide,by decide,Jz,bits,λH3 D3 Zk t3 e3 n3=>?_⟩
   ·rcases HK.mp Ko with rfl|Ko
    ·exact la
    ·rw[DZ.mp Ko];exact lb
   ·cases n3 with
    |cons b1 r1 =>
    cases r1 with
    |cons b2 r2 =>
    cases r2
    obtain⟨ah,rfl,KJ⟩:=b1;obtain⟨at_,rfl,JF⟩:=b2;refine⟨D3,_,rfl,a8.of e3,rfl,_,_,rfl,_,_,rfl,rfl,?_⟩;have Jz:=t3 _ _ Jz;have h3:=h2.same t3;have t3:=t2.trans t3;have ga:Gn p 4000 (aC p bs a):=(la.worth bs hp (by decide) (by decide)).mono (by decide);have gb:Gn p 4000 (aC p bs b):=(lb.worth bs hp (by decide) (by decide)).mono (by decide);have gc':Gn p 4000 c:=gc.mono (by decide);clear h2 t2 e3;dsimp only[rV,wG];refine Af (k:=911) (n:=32) (y:=aC p bs b) hp rfl rfl rfl rfl rfl rfl h3.S1 (λ_ _=>rfl) (λq=>yR hp h3.S1 h3.S2 la lb (by decide) (by decide) q) (l7 (la.app lb) hp (by decide) (by decide)) (by decide) (by decide) Jz bits KJ JF ga gb (kj hp la.num lb.num).symm λH4 t4=>cu ?_;have h4:=h3.same t4;have Jz:=t4 _ _ Jz;have KJ:=t4 _ _ KJ
    have JF:=t4 _ _ JF
    have t4:=t3.trans t4;clear h3 t3;dsimp only[tD];refine Af (k:=911) (n:=32) (y:=aC p bs b) hp rfl rfl rfl rfl rfl rfl h4.S1 (λ_ _=>rfl) (λq=>jW hp h4.S1 h4.S2 la lb (by decide) (by decide) (by decide) (by decide) q) (l7 (la.mul lb hp) hp (by decide) (by decide)) (by decide) (by decide) Jz bits KJ JF ga gb (gA hp la.num lb.num).symm λH5 t5=>cu ?_;have h5:=h4.same t5;have Jz:=t5 _ _ Jz;have KJ:=t5 _ _ KJ;have t5:=t4.trans t5
    clear h4 t4 JF
    dsimp only[tD];refine Af (k:=911) (n:=32) (y:=c) hp rfl rfl rfl rfl rfl rfl h5.S1 (λ_ _=>rfl) (λq=>rO hp h5.S1 la h5.hn gc (by decide) (by decide) q) (l7 (la.scl gc hp) hp (by decide) (by decide)) (by decide) (by decide) Jz bits KJ h5.hn ga gc' (ja hp la.num gc.1).symm λH6 t6=>cu ?_;have h6:=h5.same t6;have Jz:=t6 _ _ Jz;have KJ:=t6 _ _ KJ;have t6:=t5.trans t6;clear h5 t5;dsimp only[tD];refine⟨A8,λL0 P2=>?_⟩;have t7:=av (o:=.lst [.int 0]) P2;have e7:upd H6 L0 (.lst [.int 0]) L0=some (.lst [.int 0]):=aj;generalize upd H6 L0 _=H7 at t7 e7 |-;refine⟨L0,5,_,rfl,rfl,e7,by decide,by decide,(by show 1*5<=sizeLine;decide),λL hL=>?_⟩;have t8:aE H7 (upd H7 L (.lst ((gq ns bs 0).map V.int))):=av hL;have e8:upd H7 L (.lst ((gq ns bs 0).map V.int)) L=some (.lst ((gq ns bs 0).map V.int)):=aj;have h7:=h6.same t7;have Jz:=t7 _ _ Jz;have KJ:=t7 _ _ KJ;have t7:=t6.trans t7;show rV _ _ _ _ (upd H7 L (.lst ((gq ns bs 0).map V.int)));generalize upd H7 L _=H8 at t8 e8 |-;clear h6 t6 e7 P2;refine⟨5,rfl,by decide,by decide,?_⟩;refine jq (lo:=0) (λi σ H'=>aE H7 H'/\H' L=some (.lst ((gq ns bs i).map V.int))/\∃NW,σ=[some fv,some (.int p),some (.ref l),some (.ref nu),some (.ref lo),some (.ref s1),some (.ref s2),some (.ref af),some (.ref ah),some (.ref at_),some (.ref L),NW,Ui]) ⟨t8,e8,_,rfl⟩ ?_ ?_
    ·rintro i σ H9 hi ⟨t9,e9,NW,rfl⟩;have hi:i<5:=hi;have h9:=h7.same t9;have i5:0<=0+(i:Int)/\0+(i:Int)<5:=⟨by omega,by omega⟩;obtain⟨_,b0,b5⟩:=o5.at i5
     have ei:(0+(i:Int)).toNat=i:=by omega
     refine⟨_,rfl,_,rfl,af,_,_,_,rfl,rfl,bq.of (t9 _ _ Jz),oQ i5.1 (by have:=bits.1;omega),_,rfl,_,rfl,_,rfl,lo,_,_,_,rfl,rfl,a8.of h9.ho,oQ i5.1 (by rw[o5.len];omega),L,_,_,_,rfl,rfl,e9,Jb b0 (by rw[EZ,iB];exact b5),?_⟩;refine⟨λb o e=>by rw[aA (aB e hL)];exact t9 b o e,?_,_,rfl⟩;rw[aj,<-List.map_set,ei];rfl
    ·rintro σ H9 ⟨t9,e9,NW,rfl⟩;have e9:H9 L=some (.lst ((gq ns bs 5).map V.int)):=e9;dsimp only[wG];have h9:=h7.same t9;have lr:=la.zZ o5
     obtain⟨dx,fl,Dt,g1⟩:=h9.S1.at
     refine⟨_,rfl,s1,dx,_,rfl,g1,rfl,_,rfl,s1,lo,p,a,290,6,ns,rfl,h9.S1,hp,la,by decide,by decide,h9.ho,o5,lr.gth hp (by decide) (by decide),λHa u ta Sa=>?_⟩
     obtain⟨MG,Uc,D2,g2⟩:=Sa.r.at
     refine⟨u,MG,_,rfl,g2,rfl,_,rfl,L,_,rfl,.inl ⟨a8.of (ta _ _ e9),λlt Jk=>?_⟩⟩;have tb:=av (o:=.tup ((gq ns bs 5).map V.int)) Jk;have OV:upd Ha lt (.tup ((gq ns bs 5).map V.int)) lt=some (.tup ((gq ns bs 5).map V.int)):=aj;dsimp only[ya];generalize upd Ha lt _=Hb at tb OV |-;refine⟨u,lt,p,tg p (a.map (zZ ns)),911,32,gq ns bs 5,rfl,Sa.r.same tb,hp,l7 lr hp (by decide) (by decide),by decide,by decide,OV,(q9 bits 5 (yH 5)).lng (l7 lr hp (by decide) (by decide)),λHc ac tc ec=>?_⟩;have Zl:=(ta.trans tb).trans tc;refine⟨_,rfl,p7 (w:=aC p bs a) ?_ (Zl _ _ (t9 _ _ KJ)) ⟨false,rfl,cu ?_⟩⟩
     ·rw[<-m8 (led:=gq ns bs 5) (ns:=ns) hp la.num la.k λk k0 k5=>AM o5 5 (yH 5) k k0 (by omega)];exact ec
     ·exact⟨t7.trans (t9.trans Zl),_,_,_,_,_,_,rfl⟩
  ·rintro σ H2 ⟨t2,o7,o8,o9,Wh,NW,Ui,rfl⟩;have h2:=h1.same t2;dsimp only[rV,qh,oq];refine⟨5,rfl,yH 5,λH3 D3 Zk t3 Zm Zn=>?_⟩;refine⟨D3,rfl,⟨_,a8.of Zm⟩,?_⟩;have zl:=Zn.length;refine dm (K:=K) (xs:=Zk) (λi us H'=>aE H3 H'/\us.length<=i/\(us=[] ↔ ∀bs∈(gF 5).take i,aC p bs a=aC p bs b)) ⟨aE.refl _,yH _,by simp⟩ (λi us H' hi h=>?_) (λi x us H' N hi hx h kk=>?_) (λus H' h=>?_)
   ·refine⟨Hv h.2.1 (Hv hi ?_),a8.of (h.1 _ _ Zm)⟩;rw[zl];exact Hv (gG 5 (yH 5)) (by decide)
   ·obtain⟨t4,QI,w4⟩:=h;obtain⟨bs,eb,af,rfl,Jz⟩:=aV Zn hx;have bits:=pE (Gq eb);have Jz:=t4 _ _ Jz;have h4:=h2.same (t3.trans t4)
    obtain⟨dx,fl,Dt,g1⟩:=h4.S1.at
    refine⟨_,rfl,s1,dx,_,rfl,g1,rfl,_,rfl,s1,af,p,a,290,6,bs,rfl,h4.S1,hp,la,by decide,by decide,Jz,bits.lng la,λH5 a5 t5 e5=>?_⟩;have h5:=h4.same t5
    obtain⟨MG,Uc,Dt2,g2⟩:=h5.S2.at
    refine⟨_,rfl,s2,MG,_,rfl,g2,rfl,_,rfl,s2,af,p,b,290,6,bs,rfl,h5.S2,hp,lb,by decide,by decide,t5 _ _ Jz,bits.lng lb,λH6 a6 t6 e6=>?_⟩;refine⟨.tup ([(aC p bs a).1,(aC p bs a).2].map D.int),.tup ([(aC p bs b).1,(aC p bs b).2].map D.int),eJ (t6 _ _ e5),eJ e6,by rw[j7];decide,_,rfl,?_⟩;have Zo:=t4.trans (t5.trans t6)
    have ed:d6 (.tup ([(aC p bs a).1,(aC p bs a).2].map D.int)) (.tup ([(aC p bs b).1,(aC p bs b).2].map D.int))=decide (aC p bs a=aC p bs b):=by
     refine(iZ _ _).trans ?_;rw[FJ];simp[Prod.ext_iff]
    rw[ed]
    have JM:(gF 5).take (i+1)=(gF 5).take i++[bs]:=by rw[sf,eb];rfl
    by_cases ew:aC p bs a=aC p bs b
    ·refine GB (by simp[ew]) (kk _ _ ⟨Zo,by omega,?_⟩);rw[JM];refine⟨λg x hx=>?_,λg=>w4.mpr λx hx=>g x (A6 _ hx)⟩
     rcases tH.mp hx with hx|hx
     ·exact w4.mp g x hx
     ·rw[DZ.mp hx];exact ew
    ·refine GT (by simp[ew]) ⟨_,rfl,kk _ _ ⟨Zo,?_,?_⟩⟩
     ·rw[zr];show us.length+1<=i+1;omega
     ·rw[JM];simp[ew]
   ·obtain⟨t4,_,w4⟩:=h;rw[zl,yi] at w4;intro L hL;have t5:=t4.trans (av (o:=.lst us) hL);have e5:upd H' L (.lst us) L=some (.lst us):=aj;generalize upd H' L _=H5 at t5 e5 |-;refine⟨Gy _,λL2 Ma=>?_⟩;have t6:=av (o:=.lst []) Ma;have e6:upd H5 L2 (.lst []) L2=some (.lst []):=aj;generalize upd H5 L2 _=H6 at t6 e6 |-;have Zq:=t3.trans (t5.trans t6);have h6:=h2.same Zq
    obtain⟨dx,fl,Dt,g1⟩:=h6.S1.at
    obtain⟨MG,Uc,Dt2,g2⟩:=h6.S2.at
    refine⟨L,L2,us,rfl,rfl,a8.of (t6 _ _ e5),a8.of e6,?_⟩;refine⟨_,rfl,_,rfl,s1,dx,_,.ref C,rfl,g1,W.c.ty g2,j8,s1,p,a,.ref s2,rfl,h6.S1,.inl ⟨s2,p,b,rfl,h6.S2,_,rfl,_,rfl,rfl,?_⟩⟩;have ed:d6 (lE a) (lE b)=decide (a=b):=wx a b
    have ew:(us=[])↔a=b:=by
     rw[w4];constructor
     ·intro g;have:=wk hp la.num lb.num la.k lb.k g;rw[ta,tb] at this;exact this
     ·intro g bs _;rw[g]
    have e:decide (V.bl ((decide (p=p)&&d6 (lE a) (lE b)) != false)=V.bl (decide (us=[])))=true:=by
     rw[ed]
     by_cases z:a=b
     ·simp[z,ew.mpr z]
     ·have:us≠[]:=λy=>z (ew.mp y);simp[z,this]
    rw[e];exact q1 _ (t2.trans Zq)
end
noncomputable abbrev xH:Stmt:=(ba 56)
structure By (C CF:Addr)(H:Hp)(p:Int)(a:List Tm)(rs:List (List Tm))(s l:Addr)(zs:List V):Prop where
 S:xJ C CF H s p a
 hl:H l=some (.lst zs)
 hz:fZ C CF p H zs rs
variable {rs:List (List Tm)}{zs:List V}
theorem By.same {l:Addr}(h:By C CF H p a rs s l zs)(t:aE H H'):By C CF H' p a rs s l zs:=⟨h.S.same t,t _ _ h.hl,fZ.same h.hz t⟩
noncomputable def Dv (C CF:Addr):Sp:=λvs H Q _=>∃(s l:Addr)(p Dd Nd:Int)(a:List Tm)(rs:List (List Tm))(zs:List V),vs=[.ref s,.ref l]/\FP p/\By C CF H p a rs s l zs/\Due p Dd Nd a/\rs.length=4/\(∀r∈rs,Row p 190 r)/\∀H',aE H H'->Q (.bl true) H'
theorem vD:Eb ["_law_one","_law_rows","_law_whole","_law_filling","_law_led"] Cs (au xH):=dX (by decide +kernel)
theorem Bj (h:fZ C CF p H zs rs):∀z∈zs,∃s' c,z=.ref s'/\xJ C CF H s' p c:=by
 intro z hz;obtain⟨i,hi,e⟩:=List.getElem_of_mem hz;obtain⟨c,_,s',e',S⟩:=aV h (by rw[Ii hi,e]);exact⟨s',c,e',S⟩
theorem D5 (h:fZ C CF p H zs rs){k:Int}(k0:0<=k)(k1:k<zs.length):uz C CF p (λk=>rs.getD k.toNat []) H zs k:=by
 have hk:k.toNat<zs.length:=by omega
 obtain⟨c,ec,s',e',S⟩:=aV h (Ii hk);refine⟨k0,s',by rw[Ii hk,e'],?_⟩;show xJ C CF H s' p (rs.getD k.toNat []);rw[GJ,ec];exact S
theorem Bu {bs:List Int}(rs:List (List Tm))(n:Nat):(rs.map λr=>(aC p bs r).1).getD n 0=(aC p bs (rs.getD n [])).1:=by
 rw[GJ,GJ,CR]
 cases rs[n]? <;> rfl
theorem F8 {s':Addr}{Q:VK}{mg:Cw}(c:zY K mg C)(S:xJ C CF H s p a)(S':xJ C CF H s' p a){X:XK}(q:Q (.bl false) H):pf K C (wd K C CF) X true (.ref s) (.ref s') H Q:=by
 obtain⟨dx,_,_,h⟩:=S.at
 obtain⟨PF,_,_,h'⟩:=S'.at
 refine⟨s,dx,_,.ref C,rfl,h,c.ty h',j8,s,p,a,.ref s',rfl,S,.inl ⟨s',p,a,rfl,S',_,rfl,?_⟩⟩;rw[fO];simpa using q
theorem Ba (h:∀r∈rs,Row p 190 r):∃Dk Mk,∀k,Rk p Dk Mk (λk:Int=>rs.getD k.toNat []) k:=by
 have h1:∀k:Int,Lv p 190 32 (rs.getD k.toNat []):=λk=>by
  rw[GJ]
  cases e:rs[k.toNat]? with
  |none=>exact pH.lv.mono (by decide) (yH _)
  |some r=>exact(h r (Gq e)).lv
 obtain⟨Dk,h2⟩:=Classical.axiomOfChoice h1;obtain⟨Mk,h3⟩:=Classical.axiomOfChoice h2;exact⟨Dk,Mk,λk=>let⟨a,b,c,d,e⟩:=h3 k;⟨a,b,c,d,e⟩⟩
section
variable {P:xq}{w:World}{K:PySem.W.Frag}{mg:Cw}{base:Heap}{C CF KR NS NN UN fI K8:Addr}{J5 JH:GS}{tM:Tok}
set_option maxHeartbeats 1000000 in
theorem ES (F:FY K "_law_put_right" "_law_put_right" xH f fd)(W:xD P w K mg base C CF KR NS NN UN fI K8 J5 JH tM):xk P w K mg base (cI P w) 12 f fd Cs (Dv C CF):=by
 obtain⟨fAl,Wf,Ud,Ue,Ug,Uh⟩:=W.all;obtain⟨fWo,Wg,K9,Lb,Lc⟩:=W.worth;obtain⟨Za,QE,K3,K4,K5⟩:=W.times;obtain⟨fPi,acX,FPi,bPi,mPi⟩:=W.putin;obtain⟨fE,fdE,FE,bE,nE,iE⟩:=W.eq;refine F.okN vD (λvs H Q E h=>?_) (λJi A outer s H vs Q E hr h=>?_)
 ·obtain⟨s0,l,p,Dd,Nd,a,rs,zs,rfl,_⟩:=h;rfl
 ·obtain⟨s0,l,p,Dd,Nd,a,rs,zs,rfl,hp,hd,du,h4,JR,q⟩:=h;have KS:A1 11 _:=hr;have Jx:A1 9 _:=KS.mono (by decide);have Ka:A1 5 _:=KS.mono (by decide);have K1:A1 3 _:=KS.mono (by decide);have JD:A1 2 _:=KS.mono (by decide);have Jp:A1 1 _:=KS.mono (by decide)
  refine⟨_,(ar (@aY _ _ 2 _ _ _ _ vD.nd rfl (Or.inl rfl) (aR (pv 0) W.c.c.cl mPi FPi KS bPi .nil ae (ao (pv 1) ai rfl)) rfl (Or.inl rfl))
   (ar (eG E5 rfl (b9 (aD Ud Jp (by rfl) Ug Uh Ue .nil ae (ao aq ai rfl))) (aF (i:=3) vD.nd rfl (Or.inr rfl))
   (ar (jV (i:=4) (N:=["_law_row","_law_filling"]) (nl:=1) (js:=[3]) (osc:=au xH) ⟨rfl,rfl,by decide +kernel,by decide +kernel,by decide +kernel,rfl,(.cons ⟨rfl,by decide +kernel⟩ .nil),by decide +kernel⟩ rfl vD.nd rfl (Or.inl rfl)
    (b9 (pv 1))
    (λCq fq sq Hq=>aF (i:=0) (by show(["_law_row","_law_filling"]:F3).Nodup;decide +kernel) rfl (Or.inl rfl) (Or.inr rfl))
    (λCq fq sq Hq=>ck)
    (λCq fq sq Hq=>(aR (pv 0) W.c.c.cl Lc K9 Ka Lb .nil ae (ao (pv 1) ai rfl))) (by rfl))
   (ar (bo (aS (y6 Jx) (cj (N:=["_law_some"]) (nl:=1) (js:=[]) (osc:=au xH) ⟨rfl,rfl,by decide +kernel,by decide +kernel,by decide +kernel,rfl,.nil,by decide +kernel⟩ rfl
    (b9 (pv 4))
    (λCq fq sq Hq=>aF (i:=0) (by show(["_law_some"]:F3).Nodup;decide +kernel) rfl (Or.inl rfl) (Or.inr rfl))
    (λCq fq sq Hq=>(gR (aS (show eT _ _ (wz K) from wW Jx) (pv 0) (cM (ao (bF (ao aq (ao aq ai rfl) rfl)) (ao (bF (ao aq (ao aq ai rfl) rfl)) ai rfl) rfl)) (by rfl))))
    (λCq fq sq Hq=>(pv 0))) (cM ai) (aM _)) (az (aG fJ)) aI)
   (az (bo (aS (show eT _ _ (mK K true) from ij Jx) (aR (pv 2) W.c.c.cl Lc K9 Ka Lb .nil ae (ao (pv 3) ai rfl)) (aR (pv 0) W.c.c.cl Lc K9 Ka Lb .nil ae (ao (eA (lM rfl) (by rfl) W.m_tuple (by rfl) (ao (cj (N:=["_law_some"]) (nl:=1) (js:=[]) (osc:=au xH) ⟨rfl,rfl,by decide +kernel,by decide +kernel,by decide +kernel,rfl,.nil,by decide +kernel⟩ rfl
    (b9 (pv 4))
    (λCq fq sq Hq=>aF (i:=0) (by show(["_law_some"]:F3).Nodup;decide +kernel) rfl (Or.inl rfl) (Or.inr rfl))
    (λCq fq sq Hq=>ck)
    (λCq fq sq Hq=>(bf (GQ (K:=K) rfl) (pv 0) aq (λ_ _=>rfl)))) ai rfl)) ai rfl)) (aM _)) (az (aG fJ)) aI)))))
   (az (aG (cN (rN Jx) (cj (N:=["_law_row"]) (nl:=1) (js:=[]) (osc:=au xH) ⟨rfl,rfl,by decide +kernel,by decide +kernel,by decide +kernel,rfl,.nil,by decide +kernel⟩ rfl
    (b9 (pv 1))
    (λCq fq sq Hq=>aF (i:=0) (by show(["_law_row"]:F3).Nodup;decide +kernel) rfl (Or.inl rfl) (Or.inr rfl))
    (λCq fq sq Hq=>(gR (aS (show eT _ _ (pf K C (wd K C CF) (λ_ _ _=>False) true) from acu nE iE W.ne W.c.ob FE K1 bE ae) (aR (pv 0) W.c.c.cl K5 K3 Jx K4 .nil ae (ao (pv 0) ai rfl)) (pv 0) (aM _))))
    (λCq fq sq Hq=>(pv 0))) (cM ai) (aM _)))))),?_⟩
  obtain⟨Dk,Mk,K7⟩:=Ba JR;have zl:=hd.hz.length
  obtain⟨dx,fl,Dt,g0⟩:=hd.S.at
  refine⟨_,rfl,s0,dx,_,rfl,g0,rfl,_,rfl,?_⟩;dsimp only[ya];refine CN hd.S hp du (λk _=>K7 k) hd.hl (by omega) (Bj hd.hz) (by have:=du.reach;omega) (λt ht k hk=>?_) λH1 u t1 S1=>?_
  ·have:=du.four ht hk;exact D5 hd.hz this.1 (by omega)
  have lw:Lv p 1931 32 (tg p (jh p (λk:Int=>rs.getD k.toNat []) a)):=(ug hp du.d0 du.bd (λk _=>K7 k) du.t4 du.len).1.tg hp (by decide);have hd:=hd.same t1;have q:∀H',aE H1 H'->Q (.bl true) H':=λH' t=>q H' (t1.trans t);clear t1 g0;refine⟨5,rfl,yH 5,λH2 Dl ys t2 hD hb=>?_⟩;refine⟨Dl,rfl,⟨_,a8.of hD⟩,?_⟩;have hd:=hd.same t2;have S1:=S1.same t2;have q:∀H',aE H2 H'->Q (.bl true) H':=λH' t=>q H' (t2.trans t);clear t2;refine iV (K:=K) (a:=Dl) (xs:=ys) (λi σ H'=>aE H2 H'/\∃o3 o4,σ=[some (.ref s0),some (.ref l),some (.ref u),o3,o4]) ⟨aE.refl _,_,_,rfl⟩ (λj σ H' _ h=>a8.of (h.1 _ _ hD)) ?_ ?_
  ·rintro i y σ H3 hy ⟨t3,o3,o4,rfl⟩;obtain⟨bs,eb,af,rfl,Jz⟩:=aV hb hy;have KI:bs∈gF 5:=Gq eb;have bits:=pE KI;have Jz:=t3 _ _ Jz;have h3:=hd.same t3;have S3:=S1.same t3;dsimp only[rV,qh,bK];refine⟨_,rfl,l,rfl,⟨_,a8.of h3.hl⟩,?_⟩;refine dm (K:=K) (xs:=zs) (λi us H'=>aE H3 H'/\gh H' us ((rs.take i).map (aC p bs))) ⟨aE.refl _,.nil⟩ (λi us H' hi h=>?_) (λi x us H' N hi hx h k=>?_) (λus H' h=>?_)
   ·refine⟨?_,a8.of (h.1 _ _ h3.hl)⟩;rw[h.2.length,EZ,xo];exact Hv (jP _ _) (by rw[h4];decide)
   ·obtain⟨t4,n4⟩:=h;obtain⟨r,er,so,rfl,So⟩:=aV h3.hz hx;have rw_:=JR r (Gq er)
    obtain⟨Wi,fl4,D4,g4⟩:=(So.same t4).at
    refine ir ⟨_,rfl,so,Wi,_,rfl,g4,rfl,_,rfl,so,af,p,r,190,32,bs,rfl,So.same t4,hp,rw_.lv,by decide,by decide,t4 _ _ Jz,bits.lng rw_.lv,λH5 a5 t5 e5=>k _ _ ⟨t4.trans t5,?_⟩⟩;rw[sf,er,Aq];exact zF (gh.keep n4 (aJ.of t5)) ⟨a5,rfl,e5⟩
   ·obtain⟨t4,n4⟩:=h;rw[zl,yi] at n4;intro L hL;have t5:=t4.trans (av (o:=.lst us) hL);have e5:upd H' L (.lst us) L=some (.lst us):=aj;have n5:=gh.keep n4 (aJ.of (av (o:=.lst us) hL));generalize upd H' L _=H5 at t5 e5 n5 |-;have nl:=n5.length;rw[EZ] at nl
    have bt:∀w∈rs.map (aC p bs),F7 w:=λw hw=>by
     obtain⟨r,NX,rfl⟩:=EA.mp hw;exact(JR r NX).bit bs KI
    refine⟨_,rfl,L,rfl,⟨_,a8.of e5⟩,?_⟩;refine dm (K:=K) (xs:=us) (λi Uj H'=>aE H5 H'/\Uj=[]) ⟨aE.refl _,rfl⟩ (λi Uj H' hi h=>?_) (λi x Uj H' N hi hx h k=>?_) (λUj H' h=>?_)
    ·obtain⟨t6,rfl⟩:=h;exact⟨by decide,a8.of (t6 _ _ e5)⟩
    ·obtain⟨t6,rfl⟩:=h;obtain⟨w,ew,ax,rfl,Wj⟩:=aV n5 hx;have bw:=bt w (Gq ew);refine⟨_,rfl,jJ,λa1 JK=>?_⟩;have v1:=av (o:=.tup [.int 0,.int 1]) JK;have f1:upd H' a1 (.tup [.int 0,.int 1]) a1=some (.tup [.int 0,.int 1]):=aj;generalize upd H' a1 _=Ha at v1 f1 |-;refine⟨jJ,λa2 LU=>?_⟩;have v2:=av (o:=.tup [.int 1,.int 1]) LU;have f2:upd Ha a2 (.tup [.int 1,.int 1]) a2=some (.tup [.int 1,.int 1]):=aj;have n12:a1≠a2:=aB f1 LU;generalize upd Ha a2 _=Hb at v2 f2 |-;refine⟨jJ,λL1 OJ=>?_⟩;have v3:=av (o:=.lst [.ref a1,.ref a2]) OJ;have f3:upd Hb L1 (.lst [.ref a1,.ref a2]) L1=some (.lst [.ref a1,.ref a2]):=aj;generalize upd Hb L1 _=Hc at v3 f3 |-;have v:=v1.trans (v2.trans v3);have hc:=v _ _ (t6 _ _ Wj)
     have nb:(!(d6 (.tup ([0,1].map D.int)) (.tup ([w.1,w.2].map D.int)) || d6 (.tup ([1,1].map D.int)) (.tup ([w.1,w.2].map D.int))))=false:=by
      rcases bw with rfl|rfl <;> rfl
     refine⟨L1,a1,a2,.tup ([w.1,w.2].map D.int),.tup ([0,1].map D.int),.tup ([1,1].map D.int),rfl,a8.of f3,n12,eJ hc,eJ ((v2.trans v3) _ _ f1),eJ (v3 _ _ f2),by rw[j7];decide,by rw[j7];decide,_,rfl,?_⟩;rw[nb];exact cu (k _ _ ⟨t6.trans v,rfl⟩)
    ·obtain⟨t6,rfl⟩:=h;intro L6 QG;have v1:=t6.trans (av (o:=.lst []) QG);have f1:upd H' L6 (.lst []) L6=some (.lst []):=aj;generalize upd H' L6 _=Ha at v1 f1 |-;refine⟨Gy _,λL7 Wk=>?_⟩;have v2:=av (o:=.lst []) Wk;have f2:upd Ha L7 (.lst []) L7=some (.lst []):=aj;generalize upd Ha L7 _=Hb at v2 f2 |-;have v:=v1.trans v2;refine⟨L6,L7,[],rfl,rfl,a8.of (v2 _ _ f1),a8.of f2,false,rfl,cu ?_⟩;have t8:=t5.trans v;have h8:=h3.same t8;have S8:=S3.same t8;have Jz:=t8 _ _ Jz;have n8:=gh.keep n5 (aJ.of v);have e8:=v _ _ e5;have t8:=t3.trans t8;clear v1 v2 v f1 f2 t6 t5 h3 S3 n5 e5 t3 n4 t4;dsimp only[tD,wG]
     obtain⟨dx8,fl8,D8,g8⟩:=S8.at
     refine⟨_,rfl,u,dx8,_,rfl,g8,rfl,_,rfl,u,af,p,_,1931,32,bs,rfl,S8,hp,lw,by decide,by decide,Jz,bits.lng lw,λH9 a9 t9 e9=>?_⟩;have h9:=h8.same t9;have n9:=gh.keep n8 (aJ.of t9);have OY:=t9 _ _ e8
     obtain⟨Y1,Y3,D9,g9⟩:=h9.S.at
     refine⟨_,rfl,s0,Y1,_,rfl,g9,rfl,?_⟩;refine⟨_,rfl,L,rfl,⟨_,a8.of OY⟩,?_⟩;refine dm (K:=K) (xs:=us) (λi vs H'=>aE H9 H'/\vs=((rs.take i).map λr=>(aC p bs r).1).map V.int) ⟨aE.refl _,rfl⟩ (λi vs H' hi h=>?_) (λi x vs H' N hi hx h k=>?_) (λvs H' h=>?_)
     ·obtain⟨ta,rfl⟩:=h;refine⟨?_,a8.of (ta _ _ OY)⟩;rw[EZ,EZ,xo];exact Hv (jP _ _) (by rw[h4];decide)
     ·obtain⟨ta,rfl⟩:=h;obtain⟨w,ew,ax,rfl,Wj⟩:=aV n9 hx;rw[CR] at ew;obtain⟨r,er,rfl⟩:=uJ.mp ew;refine ir ⟨_,rfl,ax,_,0,_,rfl,rfl,bq.of (ta _ _ Wj),rfl,k _ _ ⟨ta,?_⟩⟩;rw[sf,er,Aq,Aq];rfl
     ·obtain⟨ta,rfl⟩:=h;rw[nl,yi];intro La hLa;have va:=ta.trans (av (o:=.lst ((rs.map λr=>(aC p bs r).1).map V.int)) hLa);have fa:upd H' La (.lst ((rs.map λr=>(aC p bs r).1).map V.int)) La=some (.lst ((rs.map λr=>(aC p bs r).1).map V.int)):=aj;generalize upd H' La _=Ha at va fa |-;refine⟨La,_,rfl,.inl ⟨a8.of fa,λlt Jk=>?_⟩⟩;have vb:=av (o:=.tup ((rs.map λr=>(aC p bs r).1).map V.int)) Jk;have fb:upd Ha lt (.tup ((rs.map λr=>(aC p bs r).1).map V.int)) lt=some (.tup ((rs.map λr=>(aC p bs r).1).map V.int)):=aj;generalize upd Ha lt _=Hb at vb fb |-;have v:=va.trans vb;have wl:Wb a (rs.map λr=>(aC p bs r).1):=⟨by rw[EZ,h4];decide,λb Ju=>?_,by rw[EZ,h4];exact du.reach.2⟩
      ·refine⟨s0,lt,p,a,290,6,rs.map λr=>(aC p bs r).1,rfl,h9.S.same v,hp,du.lv,by decide,by decide,fb,wl,λHc ac tc ec=>?_⟩;have vc:=v.trans tc;refine p7 (w:=aC p (rs.map λr=>(aC p bs r).1) a) ?_ ec ⟨false,rfl,cu ?_⟩
       ·rw[<-wY (bs:=bs) (R:=λk:Int=>rs.getD k.toNat []) hp du.num (λt _ k _=>(K7 k).tl.num) λt _ k _=>?_]
        ·exact vc _ _ e9
        ·rw[Bu]
         have bk:F7 (aC p bs (rs.getD k.toNat [])):=by
          rw[GJ]
          cases er:rs[k.toNat]? with
          |none=>exact .inl rfl
          |some r=>exact(JR r (Gq er)).bit bs KI
         rcases bk with z|z <;> rw[z] <;> rfl
       ·exact⟨t8.trans (t9.trans vc),_,_,rfl⟩
      ·obtain⟨r,NX,rfl⟩:=EA.mp Ju
       rcases(JR r NX).bit bs KI with z|z <;> rw[z] <;> decide
  ·rintro σ H3 ⟨t3,o3,o4,rfl⟩;have h3:=hd.same t3;dsimp only[oq];refine⟨_,rfl,l,rfl,⟨_,a8.of h3.hl⟩,?_⟩;refine dm (K:=K) (xs:=zs) (λi us H'=>aE H3 H'/\us=[]) ⟨aE.refl _,rfl⟩ (λi us H' hi h=>?_) (λi x us H' N hi hx h k=>?_) (λus H' h=>?_)
   ·obtain⟨t4,rfl⟩:=h;exact⟨by decide,a8.of (t4 _ _ h3.hl)⟩
   ·obtain⟨t4,rfl⟩:=h;obtain⟨r,er,so,rfl,So⟩:=aV h3.hz hx;have rw_:=JR r (Gq er);have So:=So.same t4
    obtain⟨Wi,fl4,D4,g4⟩:=So.at
    refine⟨_,rfl,so,Wi,_,rfl,g4,rfl,_,rfl,?_⟩;dsimp only[ya];refine jW hp So So rw_.lv rw_.lv (by decide) (by decide) (by decide) (by decide) λH5 u5 t5 S5=>?_;rw[rw_.idem hp] at S5;exact⟨_,rfl,F8 W.c S5 (So.same t5) ⟨false,rfl,cu (k _ _ ⟨t4.trans t5,rfl⟩)⟩⟩
   ·obtain⟨t4,rfl⟩:=h;intro L6 QG;have v1:=t4.trans (av (o:=.lst []) QG);have f1:upd H' L6 (.lst []) L6=some (.lst []):=aj;generalize upd H' L6 _=Ha at v1 f1 |-;refine⟨Gy _,λL7 Wk=>?_⟩;have v2:=av (o:=.lst []) Wk;have f2:upd Ha L7 (.lst []) L7=some (.lst []):=aj;generalize upd Ha L7 _=Hb at v2 f2 |-;exact⟨L6,L7,[],rfl,rfl,a8.of (v2 _ _ f1),a8.of f2,q _ (t3.trans (v1.trans v2))⟩
end
end K09
namespace L2
open PySem PySem.Spec PyProof.Rows PySem.W
section
variable {X:Cx}
noncomputable def hX:Int->Nat->List Int
 |_,0=>[]
 |i,n+1=>i::hX (i+1) n
theorem i7:∀(n:Nat)(i:Int),(hX i n).length=n
 |0,_=>rfl
 |n+1,i=>by show(hX (i+1) n).length+1=n+1;rw[i7 n]
theorem rn:∀(us:HF)(i:Int),(∀(j:Nat)(v:Value),us[j]?=some v->∃t,v=Value.int (i+(j:Nat)) t)->aN ((hX i us.length).map V.int) us
 |[],_,_=>.nil
 |u::us,i,h=>by
  obtain⟨t,e⟩:=h 0 u rfl;refine .cons ⟨t,by rw[e];simp⟩ (rn us (i+1) λj v hv=>?_);obtain⟨t,e⟩:=h (j+1) v (by simpa using hv);refine⟨t,?_⟩;rw[e];congr 1;omega
noncomputable def xX (ta:TA):TE:=λσ H Q=>ta σ H λvs H1=>∃j:Int,vs=[.int j]/\(-(2^62)<=j/\j<2^62)/\j.toNat<=4000/\∀D,H1 D=none->Q (.ref D) (upd H1 D (.lst ((hX 0 j.toNat).map V.int)))
theorem rH {a:Expr}{ta:TA}{p p2 pos JL:Pos}(ha:PA X [a] ta)(hc:X.calm=true)(PY:Gl X "list")(PZ:X.mg "list"=none)(hgr:Gl X "range")(hmr:X.mg "range"=none)(hs:starEach [a] X.env=[(false,eval a X.env)]:=by rfl):
 PE X (.Call (.Name "list" p) [.Call (.Name "range" p2) [a] [] JL] [] pos) (xX ta):=by
 intro pins s σ H Q I h;refine rM (c8 I PY PZ (by rfl) ?_ (by decide) (by decide));refine callWith_type1 ?_ (aX rfl) rfl;rw[aX rfl];show wpAny _ _ (spliced ((false,eval (.Call (.Name "range" p2) [a] [] JL) X.env):: backTo pos (starEach [] X.env))) _ _ s;refine yw ?_;refine rM (c8 I hgr hmr boot_range ?_ (by decide) (by decide));refine callWith_type1 (cx (ha JL pins s σ H _ I h) λus s1 z'=>?_) hs rfl;obtain⟨vs,H1,I1,r1,q1⟩:=z';obtain⟨j,e,⟨q1,q2⟩,hz,q⟩:=q1;subst e
 cases r1 with
 |cons r rr =>
  cases rr
  obtain⟨t,rfl⟩:=r;refine call_range_1 ?_;refine wN ?_;have I2:Inv X pins σ H1 {s1 with heap:=s1.heap.push {cls:=.type "range",data:=.fields #[.int 0 s1.toks,.int j t,.int 1 (s1.toks+1)]},toks:=s1.toks+1+1}:=I1.kept λb o e=>Ez _ e;refine call_list_range (n:=j.toNat) (I.ok.hd hc) (IsRange.new ..) (small_one (by decide) (by decide) q1 q2) (by rw[rangeSize_one];split <;> omega) (Ig hz (by decide)) λh' tk acc c hk hD hI=>?_
  have fr:(s1.heap.push {cls:=.type "range",data:=.fields #[.int 0 s1.toks,.int j t,.int 1 (s1.toks+1)]}).get? (s1.heap.push {cls:=.type "range",data:=.fields #[.int 0 s1.toks,.int j t,.int 1 (s1.toks+1)]}).objs.size=none:=by
   cases e:(s1.heap.push {cls:=.type "range",data:=.fields #[.int 0 s1.toks,.int j t,.int 1 (s1.toks+1)]}).get? (s1.heap.push {cls:=.type "range",data:=.fields #[.int 0 s1.toks,.int j t,.int 1 (s1.toks+1)]}).objs.size with
   |none=>rfl
   |some o=>exact absurd (Ep e) (GH _)
  have hv:aN ((hX 0 j.toNat).map V.int) acc.toList:=by
   have z:=rn acc.toList 0 λk v hv=>by
    obtain⟨t,e⟩:=hI.2 k v (by simpa using hv);exact⟨t,by rw[e];simp⟩
   rw[yh,hI.1] at z;exact z
  exact⟨.ref _,_,I2.newObj (t':=tk) (o:=.lst ((hX 0 j.toNat).map V.int)) hk fr ⟨by rw[EZ,i7];exact Ig hz (by decide),acc.toList,c,hv,by simpa using hD⟩,rfl,q _ (I2.ahz fr)⟩
end
end L2
namespace K09
open PySem L2 PySem.W Nm Srt
noncomputable def A7 (K:Frag)(H:Hp)(a:Addr)(ns:List Int):Prop:=(∃o,H a=some (.frz o (.lst (ns.map V.int))))\/∃(o:Obj)(its:Il)(n:Nat),K.lookup a=some o/\o.cls=.type "list"/\o.dict=none/\o.data=.seq its n/\its.size<=sizeLine/\L2.aN (ns.map V.int) its.toList
variable {K:Frag}{H:Hp}{a:Addr}{ns:List Int}
theorem A7.sq (h:A7 K H a ns):a8 K H a (ns.map V.int):=by
 rcases h with⟨o,h⟩|h
 ·exact .inl (.inr ⟨o,h⟩)
 ·exact .inr h
variable {H':Hp}
theorem A7.same (h:A7 K H a ns)(S:aE H H'):A7 K H' a ns:=by
 rcases h with⟨o,h⟩|h
 ·exact .inl ⟨o,S _ _ h⟩
 ·exact .inr h
theorem A7.but {r:Addr}(h:A7 K H a ns)(R:bg H r)(S:SameBut r H H'):A7 K H' a ns:=by
 rcases h with⟨o,h⟩|h
 ·refine .inl ⟨o,S _ _ h λz=>?_⟩;obtain⟨l,x,e,_⟩:=R;rw[z,e] at h
  cases h
 ·exact .inr h
variable {p:Int}
theorem FP.good (h:FP p):good (.int p)=true:=by
 show jG p=true;unfold jG
 rcases h with h|h
 ·rw[h];rfl
 ·have:(Ik.any λq=>q==p)=true:=by
   rw[Ae];exact⟨p,h,by simp⟩
  rw[this];simp
theorem tO {CF KR fl Jh:Addr}{Q:Hp->Prop}{E:XK}(hf:H fl=none)(hd:H Jh=none)(ne:Jh≠fl)(hp:FP p)(q:∀H',aE H H'->H' fl=some (.ins CF Jh (dS p))->Q H'):
 sy CF KR [.ref fl,.int p] (upd (upd H Jh (.own fl)) fl (.ins CF Jh [])) (λv H2=>v=.non/\Q H2) E:=by
 refine⟨fl,Jh,.int p,"int",rfl,.int p,aj,λ_=>⟨rfl,?_⟩,λg=>by rw[hp.good] at g;cases g⟩;rw[vi];exact q _ ((av hd).trans (av (by rw[aA (Bt ne)];exact hf))) aj
theorem xE (ns:List Int):∀k:Nat,(ns.map V.int).eraseIdx k=(ns.eraseIdx k).map V.int:=by
 induction ns with
 |nil=>intro k;rfl
 |cons n ns ih =>
  intro k
  cases k with
  |zero=>rfl
  |succ k =>
   show V.int n::(ns.map V.int).eraseIdx k=V.int n::(ns.eraseIdx k).map V.int;rw[ih]
theorem Fj {z:Int}{n:Nat}(h0:0<=z)(h1:z<(n:Int)):seqIndex? z n=some z.toNat:=by
 unfold seqIndex?
 have e:¬z<0:=by omega
 simp[e,h0,h1]
theorem BZ.up {t:Tm}(h:BZ p 4 t):BZ p 5 t:=⟨h.1,h.2.1,λk hk=>by have:=h.2.2.1 k hk;omega,h.2.2.2⟩
theorem fY:∀(l:List Int)(i:Nat)(h:i<l.length),(l[i]::l.eraseIdx i).Perm l
 |x::l,0,_=>.refl _
 |x::l,i+1,h=>(List.Perm.swap x _ _).trans ((fY l i (Nat.lt_of_succ_lt_succ h)).cons x)
theorem EI {α:Type}{l:List α}(h:l.length=2):∃a b,l=[a,b]:=by
 obtain⟨a,l,rfl⟩:=Eh h;obtain⟨b,rfl⟩:=List.length_eq_one_iff.mp (sI h);exact⟨a,b,rfl⟩
theorem fZ.room {C CF r:Addr}{ys:List V}{ts:List (List Tm)}(h:fZ C CF p H ys ts)(R:bg H r)(k:SameBut r H H'):fZ C CF p H' ys ts:=Paired.agE h λ_ _ z=>let⟨s,e,h⟩:=z;⟨s,e,h.room R k⟩
theorem En {ms:List Int}(h:ms.Perm (hX 0 5)):Hf ms:=by
 have e:hX 0 5=[0,1,2,3,4]:=rfl;rw[e] at h;refine⟨h.length_eq,h.nodup_iff.mpr (by decide),λn hn=>?_⟩;have:=h.mem_iff.mp hn;simp at this;omega
noncomputable abbrev Aw:Stmt:=(ba 57)
noncomputable def yM (K:Frag):Sp:=λvs H Q _=>∃(a:Addr)(ns:List Int),vs=[.ref a]/\A7 K H a ns/\ns.length<=63/\∀H',Q (.bl true) H'
theorem iQ:Eb ["_law_script","_law_k","_law_room_here","_law_prime_here","_law_field","_law_number_here","_law_left","_law_order","_law_sums"] ["_law_script"] (au Aw):=dX (by decide +kernel)
section
variable {P:xq}{w:World}{K:PySem.W.Frag}{mg:Cw}{base:Heap}{C CF KR NS NN UN fI K8:Addr}{J5 JH:GS}{tM:Tok}
set_option maxHeartbeats 2000000 in
theorem Ed {f:Addr}{fd:GS}(F:FY K "law" "law" Aw f fd)(W:xD P w K mg base C CF KR NS NN UN fI K8 J5 JH tM)
 (q0:Ca P w K mg base 10 Hn "_law_either" (qi C CF))
 (q1:Ca P w K mg base 10 Gg "_law_right" (uY C CF))
 (q2:Ca P w K mg base 12 Cs "_law_put_right" (Dv C CF)):
 xk P w K mg base (cI P w) 13 f fd ["_law_script"] (yM K):=by
 obtain⟨fEi,ac7,FEi,bEi,mEi,kEi⟩:=q0;obtain⟨fRi,ade,FRi,bRi,mRi,kRi⟩:=q1;obtain⟨fPu,adj,FPu,bPu,mPu,kPu⟩:=q2;obtain⟨fRm,ado,FRm,bRm,mRm,kRm⟩:=W.room;obtain⟨fPr,adu,FPr,bPr,mPr,kPr⟩:=W.prime;obtain⟨fNu,adz,VM,VN,VO,kNu⟩:=W.number;obtain⟨fTk,V6,QA,QB,QC,QD⟩:=W.take;obtain⟨fLt,adB,FLt,bLt,mLt,kLt⟩:=W.terms;refine F.okN iQ (λvs H Q E h=>?_) (λJi A outer s H vs Q E hr h=>?_)
 ·obtain⟨a,ns,rfl,_⟩:=h;rfl
 ·obtain⟨a,ns,rfl,Zr,hlen,fin⟩:=h;have KU:A1 12 _:=hr;have JQ:A1 10 _:=KU.mono (by decide);have ME:A1 7 _:=KU.mono (by decide);have K1:A1 3 _:=KU.mono (by decide);have JD:A1 2 _:=KU.mono (by decide);have Jp:A1 1 _:=KU.mono (by decide)
  refine⟨_,(ar (eG E5 rfl (df (by rfl) W.m_range (ao (aK (aaL rfl) (by rfl) W.m_max (by rfl) (ao aq (ao (aK (afJ rfl) (by rfl) W.m_min (by rfl) (ao (aK cb (by rfl) W.m_len pF (ao (pv 0) ai rfl)) (ao aq ai rfl) rfl)) ai rfl) rfl)) ai rfl)) (aF (i:=1) iQ.nd rfl (Or.inl rfl))
   (ar (@aY _ _ 2 _ _ _ _ iQ.nd rfl (Or.inr rfl) (aD FRm Jp (by rfl) mRm kRm bRm .nil ae (ao (pv 0) (ao (pv 1) ai rfl) rfl)) rfl (Or.inl rfl))
   (ar (@aY _ _ 3 _ _ _ _ iQ.nd rfl (Or.inr rfl) (aD FPr JD (by rfl) mPr kPr bPr .nil ae (ao (pv 2) ai rfl)) rfl (Or.inl rfl))
   (ar (@aY _ _ 4 _ _ _ _ iQ.nd rfl (Or.inr rfl) (eX W.MF W.FFI K1 (by rfl) W.cF.mgC W.bFFI .nil ae (ao (pv 3) ai rfl)) rfl (Or.inl rfl))
   (ar (@aY _ _ 5 _ _ _ _ iQ.nd rfl (Or.inl rfl) (aD VM JD (by rfl) VO kNu VN .nil ae (ao (pv 2) (ao (pv 3) ai rfl) rfl)) rfl (Or.inl rfl))
   (ar (@aY _ _ 6 _ _ _ _ iQ.nd rfl (Or.inr rfl) (rH (ao aq ai rfl) rfl (by rfl) W.m_list (by rfl) W.m_range) rfl (Or.inl rfl))
   (ar (jV (i:=7) (te:=IS K "list" DU (dg 2) (bx (A5 yT [] (λ_ _ _=>False) (bx (dg 1) (bx (Gh (wj K) (bx (dg 2) ya)) ya))) ya)) (N:=["_law_place","_law_room_here","_law_left"]) (nl:=1) (js:=[2,6]) (osc:=au Aw) ⟨rfl,rfl,by decide +kernel,by decide +kernel,by decide +kernel,rfl,(.cons ⟨rfl,by decide +kernel⟩ (.cons ⟨rfl,by decide +kernel⟩ .nil)),by decide +kernel⟩ rfl iQ.nd rfl (Or.inl rfl)
    (df (by rfl) W.m_range (ao aq ai rfl))
    (λCq fq sq Hq=>aF (i:=0) (by show(["_law_place","_law_room_here","_law_left"]:F3).Nodup;decide +kernel) rfl (Or.inl rfl) (Or.inr rfl))
    (λCq fq sq Hq=>ck)
    (λCq fq sq Hq=>(As Bg PySem.F.slot_list_pop PySem.F.type_list_pop afS (pv 2) (ao (aD QA Jp (by rfl) QC QD QB .nil ae (ao (pv 1) (ao (aK (xf (K:=K) rfl) (by rfl) W.m_len pF (ao (pv 2) ai rfl)) ai rfl) rfl)) ai rfl))) (by rfl))
   (ar (jV (i:=8) (N:=["_law_k","_law_room_here","_law_prime_here","_law_field"]) (nl:=1) (js:=[2,3,4]) (osc:=au Aw) ⟨rfl,rfl,by decide +kernel,by decide +kernel,by decide +kernel,rfl,(.cons ⟨rfl,by decide +kernel⟩ (.cons ⟨rfl,by decide +kernel⟩ (.cons ⟨rfl,by decide +kernel⟩ .nil))),by decide +kernel⟩ rfl iQ.nd rfl (Or.inl rfl)
    (df (by rfl) W.m_range (ao aq ai rfl))
    (λCq fq sq Hq=>aF (i:=0) (by show(["_law_k","_law_room_here","_law_prime_here","_law_field"]:F3).Nodup;decide +kernel) rfl (Or.inl rfl) (Or.inr rfl))
    (λCq fq sq Hq=>ck)
    (λCq fq sq Hq=>(eX W.M W.FI ME (by rfl) W.c.c.mgC W.bI .nil ae (ao (pv 3) (ao (aD FLt K1 (by rfl) mLt kLt bLt .nil ae (ao (pv 1) (ao (pv 2) (ao aq (ao aq ai rfl) rfl) rfl) rfl)) ai rfl) rfl))) (by rfl))
   (ar (bo (cz (cB (aD FRi JQ (by rfl) mRi kRi bRi .nil ae (ao (pv 4) (ao (pv 3) (ao (pv 8) (ao (pv 5) (ao (pv 7) ai rfl) rfl) rfl) rfl) rfl)))) (az (aG fJ)) aI)
   (az (bo (cz (cB (aD FPu KU (by rfl) mPu kPu bPu .nil ae (ao (bf cq (pv 8) aq (λ_ _=>rfl)) (ao (cj (N:=["_law_k","_law_room_here","_law_field"]) (nl:=1) (js:=[2,4]) (osc:=au Aw) ⟨rfl,rfl,by decide +kernel,by decide +kernel,by decide +kernel,rfl,(.cons ⟨rfl,by decide +kernel⟩ (.cons ⟨rfl,by decide +kernel⟩ .nil)),by decide +kernel⟩ rfl
    (df (by rfl) W.m_range (ao aq ai rfl))
    (λCq fq sq Hq=>aF (i:=0) (by show(["_law_k","_law_room_here","_law_field"]:F3).Nodup;decide +kernel) rfl (Or.inl rfl) (Or.inr rfl))
    (λCq fq sq Hq=>ck)
    (λCq fq sq Hq=>(aD FEi JQ (by rfl) mEi kEi bEi .nil ae (ao (pv 2) (ao (pv 1) ai rfl) rfl)))) ai rfl) rfl)))) (az (aG fJ)) aI)))))))))))
   (az (aG fJ))),?_⟩
  refine⟨_,rfl,a,_,rfl,.inl Zr.sq,_,_,rfl,_,_,rfl,_,rfl,?_,?_,?_⟩
  ·rw[EZ]
   split <;> split <;> omega
  ·rw[EZ]
   split <;> split <;> omega
  refine jq (lo:=0) (λi σ H'=>(∃o1 o2 o3 o4 o5 o6 o7 o8,σ=[some (.ref a),o1,o2,o3,o4,o5,o6,o7,o8])/\A7 K H' a ns) ⟨⟨_,_,_,_,_,_,_,_,rfl⟩,Zr⟩ ?_ ?_
  ·rintro i σ G0 hi ⟨⟨o1,o2,o3,o4,o5,o6,o7,o8,rfl⟩,Wl⟩
   have adG:i<60:=by
    rw[EZ] at hi
    split at hi <;> split at hi <;> omega
   refine⟨_,rfl,_,rfl,a,ns,0+(i:Int),rfl,Wl.sq,hlen,by omega,by omega,λr l1 r1 TH Jp JD=>?_⟩;have S1:=av (o:=.lst [.int l1,.int r1]) TH;have Wm:=Wl.same S1;have R1:bg (upd G0 r (.lst [.int l1,.int r1])) r:=⟨l1,r1,aj,Jp,JD⟩;generalize (upd G0 r (.lst [.int l1,.int r1]))=G1 at Wm R1 |-;clear Wl TH S1;refine⟨_,rfl,r,rfl,R1,λp G2 hp R2 S2=>?_⟩;have Zt:=Wm.but R1 S2;clear Wm S2 R1;refine⟨_,rfl,λfl Jh JZ QJ JG=>?_⟩;refine tO JZ QJ JG hp λG3 S3 Uk=>?_;have R3:=R2.same S3;have Zu:=Zt.same S3;clear Zt S3 R2 JZ QJ;refine⟨_,rfl,_,rfl,r,p,rfl,hp,R3,λnu t b G4 Wn bt bb JB R4 S4=>?_⟩
   have nf:fl≠r:=λz=>by
    obtain⟨l,x,e,_⟩:=R3;rw[z,e] at Uk
    cases Uk
   have Zv:=S4 _ _ Uk nf;have Zw:=Zu.but R3 S4
   have nn:nu≠r:=λz=>by
    obtain⟨l,x,e,_⟩:=R4;rw[z,e] at JB
    cases JB
   clear Zu S4 R3 Uk;refine⟨5,rfl,by decide,by decide,λLL QK=>?_⟩;have S5:=av (o:=.lst ((hX 0 5).map V.int)) QK;have e5:upd G4 LL (.lst ((hX 0 5).map V.int)) LL=some (.lst ((hX 0 5).map V.int)):=aj
   have nl:LL≠r:=λz=>by
    obtain⟨l,x,e,_⟩:=R4;rw[z,e] at QK
    cases QK
   have R5:=R4.same S5;show rV _ _ _ _ (upd G4 LL (.lst ((hX 0 5).map V.int)));generalize upd G4 LL _=G5 at S5 e5 R5 |-;refine⟨5,rfl,by decide,by decide,?_⟩
   refine kZ (lo:=0) (n:=(5:Int).toNat) (rest:=[some (.ref r),some (.ref LL)]) (λj us H'=>bg H' r/\SameBut r G4 H'/\∃left ms:List Int,H' LL=some (.lst (left.map V.int))/\us=ms.map V.int/\ms.length=j/\(ms++left).Perm (hX 0 5))
    ⟨R5,.of S5,hX 0 5,[],e5,rfl,rfl,.refl _⟩ (λj us H' hj h=>?_) (λj us H' N hj h k=>?_) (λus H' h=>?_)
   ·obtain⟨_,_,left,ms,_,rfl,Mc,_⟩:=h;rw[EZ,Mc];exact Hv hj (by decide)
   ·obtain⟨RH,kH,left,ms,Kd,rfl,Mc,O1⟩:=h;have hj5:j<5:=hj;have hl:=O1.length_eq;rw[zr,i7] at hl
    have adH:0<left.length:=by omega
    obtain⟨la,xa,ha,a0,a1⟩:=id RH;refine ir ⟨_,rfl,.inl ⟨rfl,_,a8.of Kd⟩,_,rfl,_,rfl,LL,_,rfl,.inl (a8.of Kd),r,la,xa,((left.map V.int).length:Int),rfl,ha,a0,a1,by rw[EZ];omega,by rw[EZ];omega,λz lb xb z0 z1 c0 c1=>?_⟩;rw[EZ] at z1;have RB:bg (upd H' r (.lst [.int lb,.int xb])) r:=⟨lb,xb,aj,c0,c1⟩;have SB:SameBut r H' (upd H' r (.lst [.int lb,.int xb])):=SameBut.upd;generalize upd H' r _=HB at RB SB |-;have NY:=SB _ _ Kd nl
    have hz:z.toNat<left.length:=by omega
    refine⟨LL,_,z,z.toNat,.int left[z.toNat],rfl,rfl,NY,by omega,by omega,by rw[EZ];exact Fj z0 z1,by rw[CR];simp[hz],k _ _ ?_⟩;rw[xE];refine⟨?_,λb o e q1=>?_,left.eraseIdx z.toNat,ms++[left[z.toNat]],aj,by simp,by simp[Mc],?_⟩
    ·obtain⟨lc,xc,hc,d⟩:=RB;exact⟨lc,xc,by rw[aA (Bt nl)];exact hc,d⟩
    ·rw[aA (aB e QK)];exact(kH.trans SB) b o e q1
    ·rw[BE];exact((fY left z.toNat hz).append_left ms).trans O1
   ·obtain⟨R6,k6,left,ms,Kd,rfl,Mc,O1⟩:=h;have hl:=O1.length_eq;rw[zr,i7] at hl;have hm5:ms.length=5:=Mc;have el:left=[]:=GL.mp (by omega);rw[el,yp] at O1;have o5':=En O1;intro lo Pn;have S7:=av (o:=.lst (ms.map V.int)) Pn;have ho:upd H' lo (.lst (ms.map V.int)) lo=some (.lst (ms.map V.int)):=aj;have R7:=R6.same S7;have k7:=k6.trans (.of S7)
    have nlo:lo≠r:=λz=>by
     obtain⟨l,x,e,_⟩:=R6;rw[z,e] at Pn
     cases Pn
    have Ul:=k7 _ _ Zv nf;have NZ:=k7 _ _ JB nn;have Wo:=Zw.but R4 k7;generalize upd H' lo _=G7 at S7 ho R7 k7 Ul NZ Wo |-;clear k6 S7 Pn R6 Kd k7 Zv JB Zw R4 S5 e5 R5 QK;dsimp only[bK,rV,qh];refine⟨2,rfl,by decide,by decide,?_⟩
    refine kZ (lo:=0) (n:=(2:Int).toNat) (rest:=[some (.ref r),some (.int p),some (.ref fl)]) (λj us H'=>bg H' r/\SameBut r G7 H'/\∃Kx:List (List Tm),fZ C CF p H' us Kx/\Kx.length=j/\∀ts∈Kx,∃Dd Nd,Due p Dd Nd ts)
     ⟨R7,.of (aE.refl _),[],.nil,rfl,λts Ko=>nomatch Ko⟩ (λj us H' hj h=>?_) (λj us H' N hj h k=>?_) (λus H' h=>?_)
    ·obtain⟨_,_,Kx,hu,ht,_⟩:=h;rw[hu.length,ht];exact Hv hj (by decide)
    ·obtain⟨RH,kH,Kx,hu,ht,Um⟩:=h;refine ir ⟨_,rfl,_,rfl,_,rfl,r,p,4,5,rfl,RH,hp,by decide,by decide,by decide,by decide,λD1 y1 raw Ha hD1 hy1 rl rg Ra Sa=>?_⟩;intro x dx hx Lu ne;have lv:=DP (p:=p) (ts:=raw) (by omega) λt ht=>(rg t ht).up;refine mx hx Lu ne (Sa _ _ (kH _ _ Ul nf) nf) hp hD1 hy1 (lv.gth hp (by decide) (by decide)) lv.prd λHb Sb Smb=>?_;refine k _ _ ⟨Ra.same Sb,kH.trans (Sa.trans (.of Sb)),Kx++[tg p raw],zF (fZ.same (hu.room RH Sa) Sb) ⟨x,rfl,Smb⟩,by simp[ht],λts Ko=>?_⟩
     rcases tH.mp Ko with Ko|Ko
     ·exact Um ts Ko
     ·rw[DZ.mp Ko];exact Ew hp (by omega) rg
    ·obtain⟨R8,k8,Kx,hu,ht,Um⟩:=h;intro ls Uo;have S9:=av (o:=.lst us) Uo;have Uq:upd H' ls (.lst us) ls=some (.lst us):=aj
     have nls:ls≠r:=λz=>by
      obtain⟨l,x,e,_⟩:=R8;rw[z,e] at Uo
      cases Uo
     have R9:=R8.same S9;have k9:=k8.trans (.of S9);have hu:=fZ.same hu S9;generalize upd H' ls _=G9 at S9 Uq R9 k9 hu |-;obtain⟨x1,x2,rfl⟩:=EI ht
     cases hu with
     |cons b1 r1 =>
     cases r1 with
     |cons b2 r2 =>
     cases r2
     obtain⟨s1,rfl,S1⟩:=b1;obtain⟨s2,rfl,S2⟩:=b2;obtain⟨Dd,Nd,Wq⟩:=Um x1 (by simp);obtain⟨De,Ne',Zx⟩:=Um x2 (by simp);have Zy:=k9 _ _ Ul nf;have QL:=k9 _ _ NZ nn;have Zz:=k9 _ _ ho nlo;have ZA:=Wo.but R7 k9;clear S9 k9 k8 R8 R7 Ul NZ ho Wo Uo;dsimp only[wG,Eo,tB];refine⟨_,rfl,_,rfl,_,rfl,_,rfl,_,rfl,.ref fl,p,x1,x2,(t,b),ms,ls,s1,s2,nu,lo,rfl,hp,⟨Uq,S1,S2,QL,Zz⟩,Wq.lv,Zx.lv,Wq.self,Zx.self,⟨Wn,bt,bb⟩,o5',λGa Sa=>⟨true,rfl,cu ?_⟩⟩;have Wr:=Sa _ _ Zy;have hla:=Sa _ _ Uq;have Ra:=R9.same Sa;have sca:=ZA.same Sa;have QF:=S1.same Sa;clear Zy Uq R9 ZA S1 S2 QL Zz Sa;dsimp only[tD,wG,Eo,tB];refine⟨_,rfl,ls,_,0,.ref s1,rfl,rfl,a8.of hla,rfl,?_⟩;refine⟨4,rfl,by decide,by decide,?_⟩
     refine kZ (lo:=0) (n:=(4:Int).toNat) (rest:=[some (.ref r),some (.ref fl)]) (λj us H'=>bg H' r/\SameBut r Ga H'/\∃rs:List (List Tm),fZ C CF p H' us rs/\rs.length=j/\∀q∈rs,Row p 190 q)
      ⟨Ra,.of (aE.refl _),[],.nil,rfl,λts Ko=>nomatch Ko⟩ (λj us H' hj h=>?_) (λj us H' N hj h k=>?_) (λus H' h=>?_)
     ·obtain⟨_,_,rs,hu,ht,_⟩:=h;rw[hu.length,ht];exact Hv hj (by decide)
     ·obtain⟨RH,kH,rs,hu,ht,JR⟩:=h;refine ir ⟨_,rfl,_,rfl,fl,Jh,r,p,rfl,kH _ _ Wr nf,hp,RH,λHb sb tb Ws Sb Rb kb=>?_⟩;refine k _ _ ⟨Rb,kH.trans kb,rs++[tb],zF (hu.room RH kb) ⟨sb,rfl,Sb⟩,by simp[ht],λq hq=>?_⟩
      rcases tH.mp hq with hq|hq
      ·exact JR q hq
      ·rw[DZ.mp hq];exact Ws
     ·obtain⟨Rb,kb,rs,hu,ht,JR⟩:=h;intro QI VI;have Ur:=av (o:=.lst us) VI;have h10:upd H' QI (.lst us) QI=some (.lst us):=aj;have hu:=fZ.same hu Ur;have ZC:=(QF.room Ra kb).same Ur;have ZD:=(sca.but Ra kb).same Ur;generalize upd H' QI _=G10 at Ur h10 hu ZC ZD |-;exact⟨s1,QI,p,Dd,Nd,x1,rs,us,rfl,hp,⟨ZC,h10,hu⟩,Wq,ht,JR,λGb Sb=>⟨true,rfl,cu ⟨⟨_,_,_,_,_,_,_,_,rfl⟩,ZD.same Sb⟩⟩⟩
  ·rintro σ H' ⟨⟨o1,o2,o3,o4,o5,o6,o7,o8,rfl⟩,_⟩;exact fin _
end
end K09
namespace Hd
open PySem PySem.W PyProof.Rows
noncomputable def qI (K:Frag)(x qual:Str)(st:Stmt)(f:Addr):Prop:=∃(oc:Value)(od:DT)(kV doc pm:Value)(an:DT)(Ji ct:Value)(Jw:xA),
 K.lookup f=some ⟨oc,od,.func (fnOf x qual (L2.c7 st) (L2.cK st) (L2.au st) .none kV doc pm an Ji ct),Jw⟩/\codeIn K Ji qual=true/\keepIn K (.ref f)=true
variable {K:Frag}{x qual:Str}{st:Stmt}
theorem sZ {v:Option (Option Value)}(h:aZ K v=dG x qual st)(b:dz K v qual=true):v=some (some (.ref (cZ v)))/\qI K x qual st (cZ v):=by
 unfold aZ at h;obtain⟨fd,e,s⟩:=uJ.mp (show(rh K v).map C3=some _ from h);unfold dz at b;rw[e] at b;rw[Ir] at b;unfold rh at e
 split at e
 ·rename_i f
  split at e
  ·rename_i oc od fd' Jw hl
   cases e
   refine⟨rfl,oc,od,fd.kwdefaults,fd.doc,fd.pyModule,fd.annotations,fd.code,fd.closureTuple,Jw,?_,b.2,b.1⟩;show K.lookup f=_;rw[hl];obtain⟨n,q,p,bd,sc,g,c,dv,kv,dc,pm,an,cd,ct,bl⟩:=fd;unfold C3 at s;simp only[Prod.mk.injEq] at s;obtain⟨rfl,rfl,rfl,rfl,rfl,rfl,rfl,rfl,rfl⟩:=s;rfl
  ·cases e
 ·cases e
theorem qI.fn {f:Addr}(d:qI K x qual st f):∃fd,L2.FY K x qual st f fd:=by
 obtain⟨oc,od,kV,doc,pm,an,Ji,ct,Jw,l,c,k⟩:=d;exact⟨_,L2.abG l c k⟩
theorem qI.keep {f:Addr}(d:qI K x qual st f):keepIn K (.ref f)=true:=by
 obtain⟨oc,od,kV,doc,pm,an,Ji,ct,Jw,l,c,k⟩:=d;exact k
end Hd
namespace L2
open PySem PySem.Spec PyProof.Rows PySem.W
end L2
namespace Hd
open PySem PySem.W PyProof.Rows
noncomputable def zE (K:Frag)(x qual:Str)(st:Stmt)(f T:Addr):Prop:=∃(oc:Value)(od:DT)(kV doc pm:Value)(an:DT)(Ji ct:Value)(Jw:xA),
 K.lookup f=some ⟨oc,od,.func (fnOf x qual (L2.c7 st) (L2.cK st) (L2.au st) (.ref T) kV doc pm an Ji ct),Jw⟩/\codeIn K Ji qual=true/\keepIn K (.ref f)=true
variable {K:Frag}{x qual:Str}{st:Stmt}
theorem j9 {v:Option (Option Value)}(h:iu K v=dG x qual st)(b:dz K v qual=true)(d:uF K v=true):v=some (some (.ref (cZ v)))/\zE K x qual st (cZ v) (pZ K v):=by
 unfold iu at h;obtain⟨fd,e,s⟩:=uJ.mp (show(rh K v).map (λfd=>C3 {fd with defaults:=.none})=some _ from h)
 have hd:fd.defaults=.ref (pZ K v):=by
  unfold uF Hy at d;unfold pZ Hy;rw[e] at d |-;dsimp only at d |-
  cases q:fd.defaults with
  |ref a=>rfl
  |_=>rw[q] at d;cases d
 unfold dz at b;rw[e] at b;rw[Ir] at b;generalize pZ K v=T at hd;unfold rh at e
 split at e
 ·rename_i f
  split at e
  ·rename_i oc od fd' Jw hl
   cases e
   refine⟨rfl,oc,od,fd.kwdefaults,fd.doc,fd.pyModule,fd.annotations,fd.code,fd.closureTuple,Jw,?_,b.2,b.1⟩;show K.lookup f=_;rw[hl];obtain⟨n,q,p,bd,sc,g,c,dv,kv,dc,pm,an,cd,ct,bl⟩:=fd;unfold C3 at s;simp only[Prod.mk.injEq] at s;have hd:dv=.ref T:=hd;subst hd;obtain⟨rfl,rfl,rfl,rfl,rfl,rfl,rfl,_,rfl⟩:=s;rfl
  ·cases e
 ·cases e
theorem zE.fn {f T:Addr}(d:zE K x qual st f T):∃fd,L2.Et K x qual st f fd T:=by
 obtain⟨oc,od,kV,doc,pm,an,Ji,ct,Jw,l,c,k⟩:=d;exact⟨_,L2.acB l c k⟩
theorem zE.keep {f T:Addr}(d:zE K x qual st f T):keepIn K (.ref f)=true:=by
 obtain⟨oc,od,kV,doc,pm,an,Ji,ct,Jw,l,c,k⟩:=d;exact k
theorem rR:∀{vs:HF}{ns:List Int},vt vs ns=true->L2.aN (ns.map L2.V.int) vs
 |[],[],_=>.nil
 |v::vs,n::ns,h=>by
  unfold vt at h;rw[Ir] at h;obtain⟨t,rfl⟩:=jr h.1;exact .cons ⟨t,rfl⟩ (rR h.2)
 |[],_::_,h=>by cases h
 |_::_,[],h=>by cases h
theorem vm {a:Addr}{ns:List Int}(h:Ak K a ns=true)(H:L2.Hp):L2.bq K H a (ns.map L2.V.int):=by
 unfold Ak at h
 split at h
 ·rename_i o ho
  rw[Ir] at h;obtain⟨h1,h2⟩:=h
  split at h1
  ·rename_i T hT
   split at h2
   ·rename_i its n hd
    rw[Ir] at h2
    have:T="tuple":=by simpa using h1
    subst this;exact .inr ⟨o,its,n,ho,hT,hd,mZ h2.2,rR h2.1⟩
   ·cases h2
  ·cases h1
 ·cases h
open L2 in
theorem xu {l:OpenLaw}{n k:Nat}{q:xq}{loose:F3}{XP:(Str->Option Value)->Heap->Prop}{YP:World->Heap->Prop}{d:DefRec}{CX:World->Jd}{sp:Frag->Sp}{x:Str}{φ:Frag->Prop}{tabs:Frag->List (Addr×Addr)}
 (hn:l.most=some n)(Oz:n<=sizeLine)(Pl:d.params.defaults=[])(hr:A1 k callerA)
 (hY:∀(w:World)(h:Heap),YP w h->∃K:Frag,φ K/\K.In h)
 (hT:∀(w:World)(s₀:pL)(mg mb:Cw)(h:Heap)(K:Frag),φ K->Ground q loose [] XP w s₀ mg mb h->K.In h->TabsAt (tabs K) h/\∀r∈tabs K,K.lookup r.2=none)
 (F:∀(w:World)(K:Frag)(mg:Cw)(fa:Addr)(h:Heap),φ K->K.In h->h.Ns mainGlobals mg->mg d.name=some (.ref fa) →
  ∃fd:FuncData,(∀(s:pL)(u:Value),BindsTo s fd ⟨[u],[]⟩ [(x,u)])/\∀base:Heap,K.In base->base.Ns mainGlobals mg->tV (tabs K) mg base->xk l.prog w K mg base (CX w) k fa fd [x] (sp K))
 (KZ:∀(K:Frag)(H:Hp)(a:Addr)(ns:List Int),ns.length<=n->zu (tabs K) H->a8 K H a (ns.map V.int)->sp K [.ref a] H (λv _=>v=.bl true) λ_ _ _=>False)
 (U1:∀(w:World)(H:Hp)(s:pL)(e:Value)(s':pL),CX w [] H s (λ_ _ _=>False) e s'->False):
 WalkO q loose XP YP l.row.toRowW d [] (λf vs=>PySem.call f vs):=by
 refine Yd.abD hn Pl λw s₀ s₁ mg mb fa o pm cd doc a vs ns G Y ho hd JU UQ Ng hints hlen hg=>?_;obtain⟨K,hφ,KX⟩:=hY w _ Y;obtain⟨fd,hb,hF⟩:=F w K mg fa _ hφ KX G.T.g UQ;obtain⟨t1,t2⟩:=hT w s₀ mg mb _ K hφ G KX;exact acz KX G.T.g G.T.b G.T.builtins G.T.nolimit hg Ng hints (Ig hlen Oz) hr t1 t2 G.T.bmain hF hb (λH hO hS=>KZ K H a ns hlen hO hS) λH e s'=>U1 w H s₁ e s'
end Hd
namespace K09
open PySem L2 PySem.W Nm
open Hd (gv ga fv cZ fA cW eU cm m9 dZ uM jA dz aZ iu dG uF pZ sV iG yY pJ Cu jr xW jT Ak sZ j9 vm)
section
variable {α:Type}{M:List α->Prop}
theorem xj (h:∀a,M [a]):∀us:List α,us.length=1->M us
 |[a],_=>h a
theorem HE (h:∀a b,M [a,b]):∀us:List α,us.length=2->M us
 |[a,b],_=>h a b
theorem oM (h:∀a b c,M [a,b,c]):∀us:List α,us.length=3->M us
 |[a,b,c],_=>h a b c
theorem HH (h:∀a b c d,M [a,b,c,d]):∀us:List α,us.length=4->M us
 |[a,b,c,d],_=>h a b c d
theorem HG (h:∀a b c d e,M [a,b,c,d,e]):∀us:List α,us.length=5->M us
 |[a,b,c,d,e],_=>h a b c d e
end
section
variable {K:Frag}{f T:Addr}{fd:GS}{oT:Obj}{t:Tok}{n:Nat}
theorem GG (F:Et K "__init__" "Field.__init__" yG f fd T)(lT:K.lookup T=some oT)(dT:oT.data=.seq #[.int 0 t] n):L2.b8 K fd CG []:=by
 obtain⟨oc,od,kV,doc,pm,an,Ji,ct,Jw,rfl,lk,JU⟩:=F.ex;intro s us KX hl
 cases us with
 |nil=>simp at hl
 |cons a0 r1 =>
  cases r1 with
  |nil=>simp at hl
  |cons a1 r2 =>
   cases r2 with
   |nil=>exact binds_K KX rfl lT dT rfl rfl
   |cons a r=>simp at hl
theorem Eg (F:Et K "made" "Field.made" zi f fd T)(lT:K.lookup T=some oT)(dT:oT.data=.seq #[.int 1 t] n):L2.b8 K fd xV [.int 1 t]:=by
 obtain⟨oc,od,kV,doc,pm,an,Ji,ct,Jw,rfl,lk,JU⟩:=F.ex;intro s us KX hl
 cases us with
 |nil=>simp at hl
 |cons a0 r1 =>
  cases r1 with
  |nil=>simp at hl
  |cons a1 r2 =>
   cases r2 with
   |nil=>exact binds_K KX rfl lT dT rfl rfl
   |cons a r=>simp at hl
theorem DG (F:Et K "__init__" "Sum.__init__" pT f fd T)(lT:K.lookup T=some oT)(dT:oT.data=.seq #[.none] n):L2.b8 K fd FZ []:=by
 obtain⟨oc,od,kV,doc,pm,an,Ji,ct,Jw,rfl,lk,JU⟩:=F.ex;intro s us KX hl
 cases us with
 |nil=>simp at hl
 |cons a0 r1 =>
  cases r1 with
  |nil=>simp at hl
  |cons a1 r2 =>
   cases r2 with
   |nil=>simp at hl
   |cons a2 r3 =>
    cases r3 with
    |nil=>exact binds_K KX rfl lT dT rfl rfl
    |cons a r=>simp at hl
theorem CM (F:Et K "__init__" "Sum.__init__" pT f fd T)(lT:K.lookup T=some oT)(dT:oT.data=.seq #[.none] n):L2.b8 K fd FZ [.none]:=by
 obtain⟨oc,od,kV,doc,pm,an,Ji,ct,Jw,rfl,lk,JU⟩:=F.ex;intro s us KX hl
 cases us with
 |nil=>simp at hl
 |cons a0 r1 =>
  cases r1 with
  |nil=>simp at hl
  |cons a1 r2 =>
   cases r2 with
   |nil=>exact binds_K KX rfl lT dT rfl rfl
   |cons a r=>simp at hl
end
section
variable {K:Frag}{x qual n:Str}{st:Stmt}{ps:F3}
theorem iw {mg:Cw}{h:Heap}(X:K.In h)(G:h.Ns mainGlobals mg)(s:aZ K (gv K n)=dG x qual st)(b:dz K (gv K n) qual=true)(hb:∀(kV doc pm:Value)(an:DT)(Ji ct:Value)(us:HF),us.length=ps.length->bindArgs (PySem.W.fnOf x qual (c7 st) (cK st) (au st) .none kV doc pm an Ji ct) ⟨us,[]⟩=pure (ps.zip us)):∃fd,FY K x qual st (ga K n) fd/\L2.b8 K fd ps []/\mg n=some (.ref (ga K n))/\keepIn K (.ref (ga K n))=true:=by
 obtain⟨e,d⟩:=sZ s b;obtain⟨fd,F⟩:=d.fn;exact⟨fd,F,F.binds hb,mg_of X G e,d.keep⟩
theorem sx {c:Str}(s:aZ K (fv K c n)=dG x qual st)(b:dz K (fv K c n) qual=true)(i:isFn K (.ref (cZ (fv K c n)))=true)(hb:∀(kV doc pm:Value)(an:DT)(Ji ct:Value)(us:HF),us.length=ps.length->bindArgs (PySem.W.fnOf x qual (c7 st) (cK st) (au st) .none kV doc pm an Ji ct) ⟨us,[]⟩=pure (ps.zip us)):∃fd,FY K x qual st (cZ (fv K c n)) fd/\L2.b8 K fd ps []/\L2.Meth K (ga K c) n (cZ (fv K c n))/\findIn K (.ref (ga K c)) n=some (some (.ref (cZ (fv K c n))))/\isFn K (.ref (cZ (fv K c n)))=true:=by
 obtain⟨e,d⟩:=sZ s b;obtain⟨fd,F⟩:=d.fn;exact⟨fd,F,F.binds hb,⟨e,i,d.keep⟩,e,i⟩
end
noncomputable def Ar (_:World)(h:Heap):Prop:=∃K:Frag,xp K=dueK/\K.In h
theorem BG (w:World)(s:pL)(e:xp (Hd.zT ue s.heap)=dueK):Ar w s.heap:=⟨_,e,Hd.pX _ _⟩
theorem r8 (w:World)(h h':Heap)(y:Ar w h)(k:∀(b:Addr)(o:Obj),h.get? b=some o->h'.get? b=some o):Ar w h':=let⟨K,e,i⟩:=y;⟨K,e,λa o q=>k a o (i a o q)⟩
set_option maxHeartbeats 0 in
theorem uf {l:OpenLaw}{w:World}{K:Frag}{mg:Cw}{h:Heap}{fa:Addr}(o:xp K=dueK)(X:K.In h)(G:h.Ns mainGlobals mg)(Wr:mg "law"=some (.ref fa)):
 ∃fd:FuncData,(∀(s:pL)(v:Value),BindsTo s fd ⟨[v],[]⟩ [("_law_script",v)])/\∀base:Heap,K.In base->base.Ns mainGlobals mg->tV [] mg base->xk l.prog w K mg base (cI l.prog w) 13 fa fd ["_law_script"] (yM K):=by
 obtain⟨o1,o2⟩:=EO (show(uj K,_)=(true,_) from o);simp only[List.cons.injEq,and_true] at o2;obtain⟨s0,s1,s2,s3,s4,s5,s6,s7,s8,s9,s10,OZ,J8,K6,Kc,VJ,Qk,s17,s18,s19,s20,s21,s22,s23,OX,NQ,s26,s27,T8,Ua,s30,s31,s32,s33,s34,s35,s36,s37,s38,s39,s40,s41,s42,s43,s44,s45,s46,s47,s48⟩:=o2;unfold uj at o1;simp only[Ir] at o1;obtain⟨g0,g1,g2,g3,g4,g5,g6,g7,g8⟩:=o1;unfold IQ at g0;simp only[Ir] at g0;obtain⟨h0,h1,h2,h3,h4,h5,h6,h7,h8,h9,h10,h11,h12,h13,h14,h15⟩:=g0;unfold IM at g1;simp only[Ir] at g1;obtain⟨h16,h17,h18,h19,h20,h21,h22,h23,h24,h25,h26,h27,h28,h29,h30,h31⟩:=g1;unfold IH at g2;simp only[Ir] at g2;obtain⟨h32,h33,h34,h35,h36,h37,h38,h39,h40,h41,h42,h43,h44,h45,h46,h47⟩:=g2;unfold IF at g3;simp only[Ir] at g3;obtain⟨h48,h49,h50,h51,h52,h53,h54,h55,h56,h57,h58,h59,h60,h61,h62,h63⟩:=g3;unfold IE at g4;simp only[Ir] at g4;obtain⟨h64,h65,h66,h67,h68,h69,h70,h71,h72,h73,h74,h75,h76,h77,h78,h79⟩:=g4;unfold ID at g5;simp only[Ir] at g5;obtain⟨h80,h81,h82,h83,h84,h85,h86,h87,h88,h89,h90,h91,h92,h93,h94,h95⟩:=g5;unfold IP at g6;simp only[Ir] at g6;obtain⟨h96,h97,h98,h99,h100,h101,h102,h103,h104,h105,h106,h107,h108,h109,h110,h111⟩:=g6;unfold IK at g7;simp only[Ir] at g7;obtain⟨h112,h113,h114,h115,h116,h117,h118,h119,h120,h121,h122,h123,h124,h125,h126,h127⟩:=g7;unfold IL at g8;simp only[Ir] at g8;obtain⟨h128,h129⟩:=g8;have m:=λ{n:Str}{v:Value}(e:nsIn K mainGlobals n=some (some v))=>mg_of X G e;have m0:=λ{n:Str}(e:nsIn K mainGlobals n=some none)=>mg_none_of X G e;have Jg:=m0 (cm h0);have MH:=m0 (cm h1);have N0:=m0 (cm h2);have MI:=m0 (cm h3);have m_len:=m0 (cm h4);have m_tuple:=m0 (cm h5);have Jo:=m0 (cm h6);have Lo:=m0 (cm h7);have m_list:=m0 (cm h8);have Jl:=m0 (cm h9);have Jn:=m0 (cm h10);have m_max:=m0 (cm h11);have m_min:=m0 (cm h12);have JY:=m0 (cm h13);have m_range:=m0 (cm h14);have QM:=m (cW h15);have Mi:=m (cW h16);have Ke:=m (cW h17);have KW:=m (cW h18);have LB:=m (cW h19);have JA:=m (cW h20);have Kf:=m (cW h21);have KY:=m (cW h22);have LC:=m (cW h23);obtain⟨MJ,Kg⟩:=jT h24;have Jq:=m Kg;obtain⟨LY,JS⟩:=jT h25;have JT:=m JS;obtain⟨ZE,Wt,LD,Kh,LF⟩:=iw X G (ps:=["thing"]) s0 h26 λ_ _ _ _ _ _=>xj λ_=>rfl;obtain⟨ZF,Wu,QN,MK,QO⟩:=iw X G (ps:=["thing"]) s1 h27 λ_ _ _ _ _ _=>xj λ_=>rfl;obtain⟨ZG,Wv,Ww,QP,Wx⟩:=iw X G (ps:=["thing"]) s2 h28 λ_ _ _ _ _ _=>xj λ_=>rfl;obtain⟨ZH,Wy,Wz,QQ,WA⟩:=iw X G (ps:=["thing"]) s3 h29 λ_ _ _ _ _ _=>xj λ_=>rfl;obtain⟨ZI,WB,WC,QR,WD⟩:=iw X G (ps:=["thing"]) s4 h30 λ_ _ _ _ _ _=>xj λ_=>rfl;obtain⟨ZJ,WE,WG,QS,WH⟩:=iw X G (ps:=["field","thing"]) s5 h31 λ_ _ _ _ _ _=>HE λ_ _=>rfl;obtain⟨ZK,WI,WJ,QT,WK⟩:=iw X G (ps:=["field","terms"]) s6 h32 λ_ _ _ _ _ _=>HE λ_ _=>rfl;obtain⟨ZL,WL,WM,QU,aej⟩:=iw X G (ps:=["term"]) s7 h33 λ_ _ _ _ _ _=>xj λ_=>rfl;obtain⟨ZM,WN,QV,ML,QW⟩:=iw X G (ps:=["field","terms"]) s8 h34 λ_ _ _ _ _ _=>HE λ_ _=>rfl;obtain⟨ZN,WO,WQ,QX,WR⟩:=iw X G (ps:=["one","other"]) s9 h35 λ_ _ _ _ _ _=>HE λ_ _=>rfl;obtain⟨WS,QY,Ki,JN,Kj⟩:=iw X G (ps:=["field","terms"]) s10 h36 λ_ _ _ _ _ _=>HE λ_ _=>rfl;obtain⟨WT,QZ,MM,LG,MN⟩:=iw X G (ps:=["one","other"]) OZ h37 λ_ _ _ _ _ _=>HE λ_ _=>rfl;obtain⟨WU,Q0,MO,LH,MP⟩:=iw X G (ps:=["top","bottom"]) J8 h38 λ_ _ _ _ _ _=>HE λ_ _=>rfl;obtain⟨WV,Q1,Q2,N1,Q3⟩:=iw X G (ps:=["number","prime"]) K6 h39 λ_ _ _ _ _ _=>HE λ_ _=>rfl;obtain⟨WW,Q4,Q5,N2,Q6⟩:=iw X G (ps:=["known","sums","product"]) Kc h40 λ_ _ _ _ _ _=>oM λ_ _ _=>rfl;obtain⟨WX,Q7,Q8,N3,Q9⟩:=iw X G (ps:=["_law_script","_law_k"]) VJ h41 λ_ _ _ _ _ _=>HE λ_ _=>rfl;obtain⟨WY,Rc,Kk,JO,Kl⟩:=iw X G (ps:=["_law_room_here","_law_many"]) Qk h42 λ_ _ _ _ _ _=>HE λ_ _=>rfl;obtain⟨WZ,Rf,MQ,LI,MR⟩:=iw X G (ps:=["_law_top","_law_bottom"]) s17 h43 λ_ _ _ _ _ _=>HE λ_ _=>rfl;obtain⟨W0,Rg,MS,LJ,MT⟩:=iw X G (ps:=["_law_prime_here","_law_top","_law_bottom"]) s18 h44 λ_ _ _ _ _ _=>oM λ_ _ _=>rfl;obtain⟨W2,Rh,Ri,N4,Rj⟩:=iw X G (ps:=["_law_prime_here","_law_one","_law_other"]) s19 h45 λ_ _ _ _ _ _=>oM λ_ _ _=>rfl;obtain⟨W3,Rl,Rn,N5,Ro⟩:=iw X G (ps:=["_law_prime_here","_law_one","_law_other"]) s20 h46 λ_ _ _ _ _ _=>oM λ_ _ _=>rfl;obtain⟨W4,Rp,Rq,N6,Rr⟩:=iw X G (ps:=["_law_room_here"]) s21 h47 λ_ _ _ _ _ _=>xj λ_=>rfl;obtain⟨W5,Rt,MU,LK,MV⟩:=iw X G (ps:=["_law_room_here","_law_prime_here"]) s22 h48 λ_ _ _ _ _ _=>HE λ_ _=>rfl;obtain⟨W6,Ru,Rv,N7,Rw⟩:=iw X G (ps:=["_law_room_here","_law_many","_law_share"]) s23 h49 λ_ _ _ _ _ _=>oM λ_ _ _=>rfl;obtain⟨W7,Rx,Ry,N8,Rz⟩:=iw X G (ps:=["_law_room_here","_law_prime_here","_law_many","_law_most"]) OX h50 λ_ _ _ _ _ _=>HH λ_ _ _ _=>rfl;obtain⟨W8,RA,RC,N9,RD⟩:=iw X G (ps:=["_law_many"]) NQ h51 λ_ _ _ _ _ _=>xj λ_=>rfl;obtain⟨W9,RE,RF,Oa,RG⟩:=iw X G (ps:=["_law_field","_law_room_here"]) s26 h52 λ_ _ _ _ _ _=>HE λ_ _=>rfl;obtain⟨Xa,RI,RJ,Ob,RK⟩:=iw X G (ps:=["_law_sums","_law_filling"]) s27 h53 λ_ _ _ _ _ _=>HE λ_ _=>rfl;obtain⟨Xb,RL,RM,Oc,RN⟩:=iw X G (ps:=["_law_field","_law_prime_here","_law_sums","_law_number_here","_law_order"]) T8 h54 λ_ _ _ _ _ _=>HG λ_ _ _ _ _=>rfl;obtain⟨Xc,RO,RP,Od,RQ⟩:=iw X G (ps:=["_law_one","_law_rows"]) Ua h55 λ_ _ _ _ _ _=>HE λ_ _=>rfl;obtain⟨Oe,MW,ZO,Of,ZP⟩:=iw X G (ps:=["_law_script"]) s30 h56 λ_ _ _ _ _ _=>xj λ_=>rfl;obtain⟨ZQ,Xd,Xe,aek,Xf,Xg⟩:=sx (ps:=["self","other"]) s31 h57 h58 λ_ _ _ _ _ _=>HE λ_ _=>rfl;obtain⟨ZR,Xh,Og,Oh,ael,aem⟩:=sx (ps:=["self","thing"]) s32 h59 h60 λ_ _ _ _ _ _=>HE λ_ _=>rfl;obtain⟨ZS,Xi,Oi,Oj,aen,aeo⟩:=sx (ps:=["self"]) s33 h61 h62 λ_ _ _ _ _ _=>xj λ_=>rfl;obtain⟨ZT,Xj,Xk,Xl,aep,aeq⟩:=sx (ps:=["self","other"]) s34 h63 h64 λ_ _ _ _ _ _=>HE λ_ _=>rfl;obtain⟨ZU,Xm,RS,RT,aer,aes⟩:=sx (ps:=["self","other"]) s35 h65 h66 λ_ _ _ _ _ _=>HE λ_ _=>rfl;obtain⟨ZV,Xn,RU,RV,aet,aeu⟩:=sx (ps:=["self","number"]) s36 h67 h68 λ_ _ _ _ _ _=>HE λ_ _=>rfl;obtain⟨ZW,Xo,Xp,Xq,aev,aew⟩:=sx (ps:=["self","filling"]) s37 h69 h70 λ_ _ _ _ _ _=>HE λ_ _=>rfl;obtain⟨ZX,Xr,Xs,Xu,aex,aey⟩:=sx (ps:=["self","order"]) s38 h71 h72 λ_ _ _ _ _ _=>HE λ_ _=>rfl;obtain⟨ZY,Xv,Xw,Xx,aez,aeA⟩:=sx (ps:=["self","sums"]) s39 h73 h74 λ_ _ _ _ _ _=>HE λ_ _=>rfl;obtain⟨ZZ,Xy,RW,aeB,RX,RY⟩:=sx (ps:=["self","other"]) s40 h75 h76 λ_ _ _ _ _ _=>HE λ_ _=>rfl;obtain⟨Z0,Xz,RZ,R0,aeC,aeD⟩:=sx (ps:=["self","one","other"]) s41 h77 h78 λ_ _ _ _ _ _=>oM λ_ _ _=>rfl;obtain⟨Z1,XA,Se,Sf,aeE,aeF⟩:=sx (ps:=["self","one","other"]) s42 h79 h80 λ_ _ _ _ _ _=>oM λ_ _ _=>rfl;obtain⟨Z2,XB,Sg,Sh,aeG,aeH⟩:=sx (ps:=["self","top","bottom"]) s43 h81 h82 λ_ _ _ _ _ _=>oM λ_ _ _=>rfl;obtain⟨Z3,XC,Si,Sj,aeI,aeJ⟩:=sx (ps:=["self","thing"]) s44 h83 h84 λ_ _ _ _ _ _=>HE λ_ _=>rfl;obtain⟨Z4,XD,XE,XF,aeK,aeL⟩:=sx (ps:=["self","top","bottom"]) s45 h85 h86 λ_ _ _ _ _ _=>oM λ_ _ _=>rfl;obtain⟨Sl,Sn⟩:=j9 s46 h87 h89;have XG:=h88;have aeM:L2.Meth K _ "__init__" _:=⟨Sl,h88,Sn.keep⟩;obtain⟨Z5,Ol⟩:=Sn.fn;obtain⟨aeN,aeO,aeP,MX,MY,Sq⟩:=iG h90;obtain⟨Sr,Ss⟩:=j9 s47 h91 h93;have XH:=h92;have aeQ:L2.Meth K _ "__init__" _:=⟨Sr,h92,Ss.keep⟩;obtain⟨Z6,Sv⟩:=Ss.fn;obtain⟨aeR,aeS,aeT,Sw,Sy,Sz⟩:=iG h94;obtain⟨XI,SA⟩:=j9 s48 h95 h97;have aeU:=h96;have Om:L2.Meth K _ "made" _:=⟨XI,h96,SA.keep⟩;obtain⟨Z7,SD⟩:=SA.fn;obtain⟨aeV,aeW,aeX,SE,SF,SG⟩:=iG h98;have XJ:=Wr.symm.trans Of
 cases XJ
 have SI:=pJ Sq;subst SI;obtain⟨aeY,SJ⟩:=jr Sz;subst SJ;obtain⟨aeZ,SK⟩:=jr SG;subst SK;have Z8:=DG Ol MX MY;have SM:=CM Ol MX MY;have bFI:=GG Sv Sw Sy;have Oo:=Eg SD SE SF;have N:wO mg:=⟨Jg,MH,N0⟩;have cF:Fv K mg (ga K "Field"):=⟨⟨h99,h100,h101,dZ h102⟩,cm h103,Mi,(Bq.mpr h104),dZ h105,dZ h106,jA h107,jA h108⟩;have c:F2 K mg (ga K "Sum"):=⟨⟨h109,h110,h111,dZ h112⟩,cm h113,cm h114,QM⟩;have cQ:zY K mg (ga K "Sum"):=⟨c,(Bq.mpr h115),dZ h116,dZ h106,jA h107,jA h117⟩;have hP:=vm h118;refine⟨Oe,λs v=>?_,λbase _ _ BT=>?_⟩
 ·obtain⟨oc,od,kV,doc,pm,an,Ji,ct,Jw,rfl,lk,JU⟩:=MW.ex;exact .of_eq rfl
 have LM:=agb (P:=l.prog) (w:=w) (base:=base) Wt N;have SN:=af9 (P:=l.prog) (w:=w) (base:=base) (mg:=mg) Q1;have MZ:=ad7 (P:=l.prog) (w:=w) (base:=base) QZ MI;have M0:=aec Q0 ⟨_,_,MZ,MM,LG,MN⟩;have SO:=abW XB cF Jq ⟨_,_,M0,MO,LH,MP⟩;have SQ:=abZ Xz cF ⟨_,_,SO,Sg,Sh⟩;have SR:=ah6 XA cF ⟨_,_,SO,Sg,Sh⟩;have XM:=abj XD cF Jq JA h120 ⟨_,_,M0,MO,LH,MP⟩ ⟨_,_,SN,Q2,N1,Q3⟩;have Oq:=ac5 SD cF JA h120 ⟨_,_,XM,XE,XF⟩ ⟨_,_,LM,LD,Kh,LF⟩;have XN:=af2 Sv cF ⟨_,_,LM,LD,Kh,LF⟩ Jq LC hP KY h119;have SS:=ac8 XC cF Jq N m_tuple m_len ⟨_,_,MZ,MM,LG,MN⟩ ⟨_,_,LM,LD,Kh,LF⟩;have SU:=adg (P:=l.prog) (w:=w) (base:=base) Xy cF N;have SV:=adS Wu JT ⟨_,_,LM,LD,Kh,LF⟩;have XO:=aeg Wv Jg m_tuple Jo Lo ⟨_,_,SV,QN,MK,QO⟩;have XQ:=Ag Wy Jg m_list Jo m_len JY ⟨_,_,SV,QN,MK,QO⟩;have XR:=Br WB Jg m_tuple Jo ⟨_,_,LM,LD,Kh,LF⟩;have XS:=afh WE cF Jg m_tuple m_len ⟨_,_,XO,Ww,QP,Wx⟩ ⟨_,_,SS,Si,Sj⟩;have XT:=agc (P:=l.prog) (w:=w) (base:=base) WL m_len;have XU:=agd WI Jg m_list Jl ⟨_,_,XS,WG,QS,WH⟩;have SW:=ah4 WN cF Jn ⟨_,_,SQ,RZ,R0⟩ XT WM QU;have Ot:=ad1 Ol c ⟨_,_,SW,QV,ML,QW⟩ ⟨_,_,XU,WJ,QT,WK⟩;have XW:L2.Mk K _ _:=⟨h126,Sl,XG,h127⟩;have MkF:L2.Mk K _ _:=⟨h128,Sr,XH,h129⟩;have Km:=ahC QY c XW Ot SM ⟨_,_,SW,QV,ML,QW⟩;have XX:=DH (P:=l.prog) (w:=w) (base:=base) (mg:=mg) WO m_tuple Jn JY;have XY:=EM Xd cQ cF Jg SU RW RX RY;have Ou:=AX Xh cQ cF Jg SU RW RX RY;have Ov:=zI (P:=l.prog) (w:=w) (base:=base) Xi c m_max;have XZ:=AH Xj cQ Kf h121 ⟨_,_,v8 Ou,Og,Oh⟩ ⟨_,_,Km,Ki,JN,Kj⟩;have SX:=wC Xm cQ cF Kf h121 ⟨_,_,v8 Ou,Og,Oh⟩ ⟨_,_,XX,WQ,QX,WR⟩ ⟨_,_,SR,Se,Sf⟩ ⟨_,_,Km,Ki,JN,Kj⟩;have SY:=xy Xn cQ cF JA h120 ⟨_,_,SS,Si,Sj⟩ ⟨_,_,SR,Se,Sf⟩ ⟨_,_,Km,Ki,JN,Kj⟩;have X0:=Ap Xo c cF m_len Jo ⟨_,_,XR,WC,QR,WD⟩ ⟨_,_,Ov,Oi,Oj⟩ Oq Oo Om ⟨_,_,SQ,RZ,R0⟩ Ke h123;have X1:=uy Xr c m_len m_tuple Jn ⟨_,_,XQ,Wz,QQ,WA⟩ ⟨_,_,Ov,Oi,Oj⟩ ⟨_,_,Km,Ki,JN,Kj⟩ KW h124;have S0:=GR Q4 cQ Jl ⟨_,_,SX,RS,RT⟩;have X2:=Av Xv cQ cF LB h122 Jg m_list Jo m_len ⟨_,_,Ou,Og,Oh⟩ ⟨_,_,Ov,Oi,Oj⟩ Oq Oo Om XW Ot Z8 ⟨_,_,S0,Q5,N2,Q6⟩ ⟨_,_,SY,RU,RV⟩ ⟨_,_,Km,Ki,JN,Kj⟩;have Ta:=ab6 (P:=l.prog) (w:=w) (base:=base) Q7 m_len;have Kn:=ack (P:=l.prog) (w:=w) (base:=base) (mg:=mg) Rc;have M1:=acr (P:=l.prog) (w:=w) (base:=base) Rf MI MH;have M3:=acx Rg ⟨_,_,M1,MQ,LI,MR⟩;have Tb:=acA Rh ⟨_,_,M3,MS,LJ,MT⟩;have Tc:=ahA Rl ⟨_,_,M3,MS,LJ,MT⟩;have Td:=acH Rp ⟨_,_,Kn,Kk,JO,Kl⟩;have M4:=acW Rt ⟨_,_,Kn,Kk,JO,Kl⟩ ⟨_,_,M1,MQ,LI,MR⟩;have Tf:=zX Ru m_tuple m_range ⟨_,_,Kn,Kk,JO,Kl⟩;have Tg:=xC Rx m_range ⟨_,_,Kn,Kk,JO,Kl⟩ ⟨_,_,Tf,Rv,N7,Rw⟩ ⟨_,_,M4,MU,LK,MV⟩;have Ti:=Ej (P:=l.prog) (w:=w) (base:=base) RA m_range;have W:xD l.prog w K mg base _ _ _ _ _ _ _ _ _ _ _:={c:=cQ,cF:=cF,M:=XW,FI:=Ot,bI:=Z8,bI1:=SM,MF:=MkF,FFI:=XN,bFFI:=bFI,ne:=dZ h125,eq:=⟨_,_,XY,Xe,Xf,Xg⟩,made:=⟨_,_,Oq,Oo,Om⟩,room:=⟨_,_,Ta,Q8,N3,Q9⟩,take:=⟨_,_,Kn,Kk,JO,Kl⟩,prime:=⟨_,_,Td,Rq,N6,Rr⟩,number:=⟨_,_,M4,MU,LK,MV⟩,terms:=⟨_,_,Tg,Ry,N8,Rz⟩,lplus:=⟨_,_,Tb,Ri,N4,Rj⟩,ltimes:=⟨_,_,Tc,Rn,N5,Ro⟩,all:=⟨_,_,Ti,RC,N9,RD⟩,worth:=⟨_,_,X0,Xp,Xq⟩,renamed:=⟨_,_,X1,Xs,Xu⟩,plus:=⟨_,_,XZ,Xk,Xl⟩,times:=⟨_,_,SX,RS,RT⟩,scaled:=⟨_,_,SY,RU,RV⟩,putin:=⟨_,_,X2,Xw,Xx⟩,m_max:=m_max,m_min:=m_min,m_len:=m_len,m_range:=m_range,m_list:=m_list,m_tuple:=m_tuple};have Tj:=wM RI W;have Tn:=xm RE W;have To:=Aj RL W ⟨_,_,Tj,RJ,Ob,RK⟩;have Tp:=ES RO W;exact Ed MW W ⟨_,_,Tn,RF,Oa,RG⟩ ⟨_,_,To,RM,Oc,RN⟩ ⟨_,_,Tp,RP,Od,RQ⟩
theorem walk {l:OpenLaw}{q:xq}{loose:F3}{XP:(Str->Option Value)->Heap->Prop}{d:DefRec}(hn:l.most=some 63)(Pl:d.params.defaults=[])(hd:d.name="law"):
 WalkO q loose XP Ar l.row.toRowW d [] (λf vs=>PySem.call f vs):=by
 refine Hd.xu (n:=63) (k:=13) (x:="_law_script") (CX:=λw=>cI l.prog w) (sp:=λK=>yM K) (φ:=λK=>xp K=dueK) (tabs:=λK=>[]) hn (by decide) Pl ⟨rfl,by decide,by decide,rfl⟩ (λw h y=>y) ?_ (λw K mg fa h o X G e=>uf o X G (by rw[<-hd];exact e)) ?_ ?_
 ·intro w s₀ mg mb h K o Gr KX;exact⟨λr NX=>(nomatch NX),λr NX=>(nomatch NX)⟩
 ·intro K H a ns hl hO hS;refine⟨a,ns,rfl,?_,hl,λ_=>rfl⟩
  rcases hS with(hS|⟨o,hS⟩)|hS
  ·rcases hO.1 a with z|⟨o,xs,z⟩|⟨z,_⟩
   ·rw[z] at hS;cases hS
   ·rw[z] at hS;cases hS
   ·rw[z] at hS;cases hS
  ·exact .inl ⟨o,hS⟩
  ·exact .inr hS
 ·intro w H s e s' z;obtain⟨a,cls,a0,B,d,H',_,_,_,_,hE⟩:=z;exact hE.elim
end K09
open PySem PySem.W PyProof.Rows
set_option maxRecDepth 100000 in
set_option maxHeartbeats 0 in
theorem PySem.Challenge.cw_falsesums_k09_whole_worths_go_along_holds : PySem.Challenge.rw_falsesums_k09_whole_worths_go_along.Holds := by
 refine PySem.W.holds_law (by kernel_rfl) λae2=>?_
 refine PySem.W.holds_open (r:=PySem.Challenge.rw_falsesums_k09_whole_worths_go_along.row) (q:=K09.iz) (loose:=["STEP","Field"]) (Xt:=λs=>xlAt K09.iz K09.lv s&&recOk (PySem.Challenge.rw_falsesums_k09_whole_worths_go_along.row.toRowW).records s) (XP:=XL K09.iz K09.lv)
  (Yf:=λs=>K09.xp (Hd.zT K09.ue s.heap)) (Ya:=λ_=>K09.dueK) (YP:=K09.Ar) (N:=8516) ?hl K09.BG K09.r8 (λs e=>xl_of s (Bq.mp e).1) XL.keeps (by rfl) (by rfl) (by rfl) (λs e=>recFacts_of (Bq.mp e).2) (by rfl) (by assumption) (by decide +kernel) ⟨rfl,rfl,rfl,rfl,rfl,by decide +kernel⟩ ?hw ?hc
 case hw=>w_witness2
 case hl=>exact Hd.aei K09.ran1 K09.ran3 K09.ran4
 case hc=>exact K09.walk rfl rfl rfl
