import PyProof.Rows.All
import Wide.All
import OpenK.AllK
import Wide.FinOn
import Lean
import PyProof.EqAt
import PyProof.EqKinds
import PyProof.TupleCall
import PyProof.NeKinds
import KE.LcSums
import KE.KPairComp
import PyProof.EnumMake
import PyProof.EnumFor
import PyProof.ZipIter
import PyProof.Draws
import KE.KSortTup
import PyProof.Rows.SortWalk
import PyProof.Rows.MinMaxN
import PyProof.Rows.SetFrom
import PyProof.WalkInts
import KE.KSortKey
import PyProof.Rows.TupAdd
import PyProof.ReprRoads
import PyProof.Rows.RegStrFacts
import PySem.Challenge.RW_falsesums_k44_brackets
set_option Elab.async false
set_option linter.all false
set_option maxRecDepth 100000
abbrev pH:=PySem.Value->PySem.Shared->Prop
abbrev u9:=PySem.Str->Option PySem.Value
abbrev Bi:=PySem.Shared
abbrev BG:=PySem.FuncData
abbrev yo:=PySem.Program
abbrev u6:=Option PySem.Value
abbrev nN:=List PySem.Value
abbrev Cu:=Array PySem.Value
abbrev wI:=List PySem.Expr
abbrev Ez:=List PySem.Str
abbrev vi:=Option PySem.Addr
abbrev Fm:=Array (Option PySem.Value)
abbrev n6:List PySem.Str:=["thing"]
abbrev Bt:List PySem.Str:=["self","top","bottom"]
abbrev EK:List PySem.Str:=["_law_thing"]
abbrev vk:List PySem.Str:=["_law_prime","_law_one","_law_other"]
abbrev xk:List PySem.Str:=["_law_room_here","_law_many"]
abbrev rm:List PySem.Str:=["field","terms"]
abbrev pq:List PySem.Str:=["_law_room_here","_law_held","_law_lacked"]
abbrev ph:List PySem.Str:=["one","other"]
abbrev qH:List PySem.Str:=["self","prime"]
abbrev De:List PySem.Str:=["self","one","other"]
abbrev ER:List PySem.Str:=["_law_prime","_law_top","_law_base"]
abbrev CR:List PySem.Str:=["self","field","terms"]
abbrev EV:List PySem.Str:=["top","bottom"]
abbrev CD:List PySem.Str:=["field","thing"]
abbrev Dc:List PySem.Str:=["_law_prime","_law_terms"]
abbrev EU:List PySem.Str:=["_law_script","_law_k"]
abbrev EI:List PySem.Str:=["_law_top","_law_base"]
def X9:=@PySem.wpAny_bind
def Yb:=@PySem.wpAny_pure
def Yc:=@PySem.Heap.get?_push_of_some
def Yd:=@if_neg
def Ye:=@Nat.le_refl
def Yg:=@List.length_map
def Yh:=@if_pos
def Yi:=@List.mem_cons_of_mem
def Yj:=@List.size_toArray
def Yk:=@PySem.Heap.get?_push_size
def Yl:=@List.mem_cons_self
def Ym:=@PySem.Heap.lt_size
def Yn:=@List.mem_cons
def Yo:=@Nat.lt_of_le_of_lt
def Yp:=@Bool.false_ne_true
def Yq:=@Nat.le_trans
def Yr:=@Nat.ne_of_lt
def Ys:=@Nat.lt_of_lt_of_le
def Yt:=@Nat.zero_le
def Yu:=@decide_eq_false
def Yv:=@List.take_length
def Yw:=@List.length_append
def Yx:=@List.mem_append_right
def Yy:=@Bool.and_eq_true
def Yz:=@Array.length_toList
def YA:=@List.mem_of_getElem?
def YB:=@PySem.wpAny_newObj_type
def YC:=@List.length_cons
def YD:=@decide_eq_true
def YE:=@List.take_add_one
def YF:=@List.map_cons
def YG:=@List.mem_map
def YH:=@Option.map_eq_some_iff
def YI:=@List.mem_append
def YJ:=@PySem.wpAny_call_entry
def YK:=@Bool.and_eq_true_iff
def YL:=@PySem.Heap.get?_update_other
def YM:=@Ne.symm
def YN:=@PySem.wpAny_callSpecial?_slot
def YO:=@List.getElem?_eq_some_iff
def YQ:=@List.pairwise_cons
def YR:=@PySem.wpAny_mono
def YS:=@List.exists_cons_of_length_eq_add_one
def YT:=@List.nodup_cons
def YU:=@List.getElem?_map
def YV:=@Int.toNat_natCast
def YW:=@PySem.wpAny_field
def YX:=@Nat.lt_trans
def YY:=@PySem.wpAny_holding
def YZ:=@List.getElem?_eq_getElem
def Y0:=@PySem.wpAny_setField_rec
def Y1:=@PySem.Heap.SameBut.update
def Y2:=@List.map_append
def Y3:=@PySem.Heap.get?_update_self
def Y4:=@PySem.PassesOwn.never
def Y5:=@Nat.succ.inj
def Y6:=@PySem.wpAny_Call_Name_kw
def Y7:=@List.mem_filter
def Y8:=@List.length_take
def Y9:=@PySem.wpAny_truthy_bool
def Za:=@PyProof.Rows.slot_tuple_getitem
def Zb:=@PySem.Heap.size_push
def Zc:=@List.append_nil
def Zd:=@Int.emod_lt_of_pos
def Ze:=@congrArg
def Zf:=@List.filterMap_cons
def Zg:=@of_decide_eq_true
def Zh:=@Nat.lt_irrefl
def Zi:=@Nat.le_of_lt
def Zj:=@PySem.wpAny_seqItems
def Zk:=@PySem.W.kia_one
def Zl:=@Bool.false_eq_true
def Zm:=@List.mem_singleton
def Zn:=@decide_eq_false_iff_not
def Zo:=@List.lookup_cons
def Zq:=@List.mem_of_mem_take
def Zr:=@Bool.true_and
def Zt:=@List.getD_eq_getElem?_getD
def Zu:=@Array.getElem?_eq_none
def Zv:=@if_false
def Zw:=@Int.emod_nonneg
def Zx:=@List.length_filter_le
def Zy:=@PySem.F.slot_dict_itemiterator_next
def Zz:=@Nat.ne_of_gt
def ZA:=@List.not_mem_nil
def ZC:=@List.any_eq_true
def ZD:=@List.mem_range
def ZE:=@List.mem_append_left
def ZF:=@Bool.false_and
def ZG:=@Nat.pow_le_pow_right
def ZH:=@PySem.wpAny_fieldsOf
def ZI:=@PySem.F.slot_dict_keyiterator_next
def ZJ:=@PySem.Around.under_plainId
def ZK:=@Nat.lt_succ_of_lt
def ZL:=@Bool.eq_iff_iff
def ZM:=@PySem.codeAny_builtin
def ZN:=@PySem.wpAny_attempt
def ZO:=@PySem.F.excBase_ValueError
def ZP:=@Nat.min_le_right
def ZQ:=@List.all_eq_true
def ZR:=@if_true
def ZS:=@PySem.Obj.data_mapFields
def ZT:=@PySem.wpAny_setField
def ZU:=@PySem.boot_len
def ZV:=@List.filter_append
def ZW:=@List.pairwise_iff_getElem
def ZX:=@PySem.sizeLine_eq
def ZY:=@Int.le_refl
def ZZ:=@PySem.wpAny_typeNameOfWhole_itemiter
def Z0:=@Nat.lt_or_ge
def Z1:=@Bool.not_eq_true'
def Z2:=@PySem.Str.length_append
def Z3:=@List.all_cons
def Z4:=@PySem.wpAny_typeNameOfWhole_keyiter
def Z5:=@beq_eq_false_iff_ne
def Z6:=@PySem.mem_of_lookup
def Z7:=@Int.natAbs_mul
def Z8:=@PyProof.Rows.callWith_type1
def Z9:=@List.all_map
def Ah:=@Array.getD_eq_getD_getElem?
def Dj:=@PyProof.Rows.F.plain_set_update_loop
def Ak:=@PySem.wpAny_passesOwn
def v7:=@Int.mul_ne_zero
def Al:=@PyProof.Rows.get?_update_seq
def CQ:=@List.any_cons
def qZ:=@Array.getElem?_eq_some_iff
def nX:=@Int.eq_of_mul_eq_mul_right
def lA:=@PySem.F.slot_tuple_iterator_next
def x6:=@PySem.plainId_quiet
def yH:=@PySem.wpAny_dictEntries
def Bl:=@beq_iff_eq
def BZ:=@PySem.wpAny_typeNameOf_itemiter
def vO:=@Nat.le_succ
def ET:=@PySem.wpAny_letGo
def yr:=@List.nodup_nil
def yj:=@beq_self_eq_true
def C3:=@PySem.F.args_tuple_add_2
def Fq:=@PySem.wpAny_typeNameOf_keyiter
def rR:=@List.map_map
def C1:=@PySem.F.plain_max_loop
def CK:=@PySem.F.called_set
def DT:=@Nat.mul_le_mul_left
def DU:=@PySem.F.entry_tuple_add
def uF:=@PyProof.Rows.listUpdate_at
def Fp:=@PySem.wpAny_rule
def zr:=@List.find?_cons
def vK:=@List.length_nil
def D9:=@PySem.wpAny_dictEpoch
def uU:=@PySem.Paired.snoc
def uQ:=@PySem.F.slot_tuple_add
def Bz:=@Int.fmod_nonneg_of_pos
def jh:=@PySem.wpAny_isOneOf_itemiter
def Be:=@PySem.wpAny_pyIter_list
def x3:=@Int.emod_eq_of_lt
def Bu:=@decide_eq_true_eq
def B9:=@List.nodup_append
def qP:=@PySem.codeAny_mono
def va:=@PySem.Obj.isFreed_of_fields
def vx:=@Array.getElem?_toList
def BH:=@Nat.lt_succ_self
def om:=@PySem.codeAny_call_builtin
def xy:=@PySem.wpAny_isInstance
def DZ:=@List.getElem?_append_right
def D5:=@PySem.wpAny_newList
def CO:=@List.mem_map_of_mem
def mK:=@PySem.Heap.get?_update_ne
def Bf:=@List.getElem?_append_left
def kZ:=@PySem.W.KasT.kasWp_bind
def zK:=@PySem.Calls.call_function_entry
def yL:=@List.drop_eq_getElem_cons
def jz:=@PySem.wpAny_updateSeq
def CH:=@Classical.byContradiction
def lr:=@PySem.wpAny_pyIter_tuple
def uV:=@PySem.Calls.spliced_cons
def Fo:=@PySem.tupleKind_room_in1
def ED:=@or_false
def BI:=@Rat.divInt_eq_divInt_iff
def wU:=@PyProof.Rows.F.entry_set_update_loop
def C2:=@decide_eq_true_iff
def jK:=@PySem.wpAny_tryCatch
def vf:=@Option.bind_eq_some_iff
def CM:=@List.pairwise_singleton
def vb:=@List.filter_cons_of_neg
def NI:=@List.filter_cons_of_pos
def wF:=@PySem.Calls.spliced_nil
def Aj:=@PySem.wpAny_pyIter_slot
def uR:=@List.length_range
def qB:=@PySem.wpAny_pyNext_list_item
def zC:=@PySem.Calls.callWith_builtin
def wk:=@List.length_eq_one_iff
def uZ:=@PySem.wpAny_of_eq
def xN:=@PySem.Paired.length
def v9:=@PySem.wpAny_standAt
def qI:=@PySem.noFill_tuple_add
def xp:=@Nat.le_add_right
def BP:=@Array.size_empty
def Cy:=@PySem.wpAny_pyNext_list_end
def zk:=@List.length_replicate
def B0:=@PySem.F.slot_dict_get
def Ai:=@PySem.wpAny_isOneOf_keyiter
def Ei:=@Array.getElem?_setIfInBounds_ne
def Bg:=@PySem.F.args_dict_itemiterator_next_1
def Ek:=@PySem.wpAny_execs_nil
def vJ:=@PySem.Calls.evalArgs_plain
def kU:=@PySem.wpAny_typeOf
def qo:=@List.any_map
def x8:=@PySem.F.entry_dict_itemiterator_next
def xi:=@PySem.F.args_dict_keyiterator_next_1
def rL:=@PySem.wpAny_updateSeq_pair
def ze:=@PySem.F.slot_zip_next
def uN:=@not_or
def zO:=@Nat.zero_add
def Et:=@Nat.mod_lt
def zB:=@Nat.succ_pos
def Az:=@List.eq_nil_of_length_eq_zero
def xV:=@PySem.F.entry_dict_keyiterator_next
def CS:=@PySem.W.plainGet_of
def zL:=@List.filter_sublist
def AA:=@PySem.wpAny_setEntries_of
def Af:=@List.mergeSort_perm
def rf:=@Prod.ext
def gE:=@Int.gcd_pos_of_ne_zero_right
def BB:=@PySem.wpAny_newTuple
def qa:=@PySem.isSubtype_stop
def Er:=@PySem.F.args_tuple_iterator_next_1
def yW:=@List.dropLast_concat_getLast
def yU:=@List.Perm.refl
def vC:=@PySem.isSubtype_type
def CI:=@PyProof.Rows.seqEpoch_at
def EW:=@Array.append_assoc
def Aq:=@List.mem_filterMap
def B6:=@PySem.W.callWith_K
def zG:=@PySem.SeqAt.EqAt.int_int
def yK:=@Int.fmod_lt_of_pos
def xQ:=@List.map_filterMap
def kX:=@PySem.seq_tuple_add
def jj:=@Int.mul_assoc
def nG:=@PySem.wpAny_handled
def uK:=@PySem.wpAny_onRaise
def EJ:=@List.any_eq_false
def CW:=@List.take_sublist
def y3:=@PySem.Obj.cls_mapFields
def oV:=@Nat.lt_trichotomy
def qq:=@Nat.le_succ_of_le
def rK:=@bne_self_eq_false
def qK:=@List.append_assoc
def rC:=@PySem.wpAny_call
def rA:=@PySem.intKind_is
def xn:=@Nat.le_of_eq
def BJ:=@PySem.concat_meets
def vn:=@List.length_drop
def uL:=@Array.toList_inj
def u3:=@Nat.succ_ne_self
def vV:=@List.ext_getElem
def qy:=@PySem.wpAny_askSetting
def vI:=@List.of_mem_zip
def Bj:=@List.forIn_cons
def DX:=@List.length_zip
def xa:=@Array.Perm.refl
def yR:=@Nat.not_lt_zero
def uC:=@Nat.min_eq_left
def Ey:=@Prod.mk.inj
namespace L2
open PySem
theorem AV:(1:Nat)<=sizeLine:=by decide
theorem hJ:(2:Nat)<=sizeLine:=by decide
theorem Ff:(3:Nat)<=sizeLine:=by decide
noncomputable def bh (s:Stmt)(j:Nat):Stmt:=match s with
 | .ClassDef _ _ _ body _ _ _ _ _ _ _=>body.getD j (.Pass ⟨0,0,0,0⟩)
 |_=>.Pass ⟨0,0,0,0⟩
noncomputable def cL (s:Stmt):Arguments:=match s with
 | .FunctionDef _ a _ _ _ _ _ _ _ _=>a
 |_=>{posonlyargs:=[],args:=[],vararg:=none,kwonlyargs:=[],kw_defaults:=[],kwarg:=none,defaults:=[]}
noncomputable def cj (s:Stmt):List Stmt:=match s with
 | .FunctionDef _ _ b _ _ _ _ _ _ _=>b
 |_=>[]
noncomputable def ar (s:Stmt):Scope:=match s with
 | .FunctionDef _ _ _ _ _ _ sc _ _ _=>sc
 |_=>{kind:=.function,names:=[],isGenerator:=false,isCoroutine:=false}
end L2
namespace Hd
open PySem PySem.W PyProof.Rows
noncomputable def xg (as:List Addr)(h:Heap):Frag:=as.filterMap λa=>(h.get? a).map λo=>(a,o)
theorem mO (h:Heap):∀as:List Addr,(xg as h).In h
 |[],a,o,e=>by cases e
 |b::as,a,o,e=>by
  unfold xg at e;rw[Zf] at e
  cases q:h.get? b with
  |none =>
   rw[q] at e;exact mO h as a o e
  |some u =>
   rw[q] at e;dsimp only[Option.map_some] at e;rw[Zo] at e
   by_cases z:a=b
   ·subst z;simp only[yj] at e;rw[q];exact e
   ·have:(a==b)=false:=by simpa using z
    simp only[this] at e;exact mO h as a o e
noncomputable abbrev Bn:=Str×Str×Arguments×FuncBody×Scope×Addr×List (Str×Addr)×Value×Addr
noncomputable def AJ (fd:BG):Bn:=(fd.name,fd.qualname,fd.params,fd.body,fd.scope,fd.globals,fd.closure,fd.defaults,fd.builtins)
noncomputable def pX (K:Frag)(v:Option (Option Value)):Option FuncData:=match v with
 |some (some (.ref f))=>(match K.lookup f with
  |some ⟨_,_,.func fd,_⟩=>some fd
  |_=>none)
 |_=>none
noncomputable def a8 (K:Frag)(v:Option (Option Value)):Option Bn:=(pX K v).map AJ
noncomputable def eh (x qual:Str)(st:Stmt):Option Bn:=some (x,qual,L2.cL st,.stmts (L2.cj st),L2.ar st,mainGlobals,[],.none,builtinsNs)
noncomputable def df (v:Option (Option Value)):Addr:=match v with
 |some (some (.ref a))=>a
 |_=>0
noncomputable def gJ (v:Option (Option Value)):Bool:=match v with
 |some (some (.ref _))=>true
 |_=>false
theorem dn {v:Option (Option Value)}(h:gJ v=true):v=some (some (.ref (df v))):=by
 unfold gJ at h
 split at h
 ·rfl
 ·cases h
noncomputable def dO (v:Option (Option Value)):Bool:=match v with
 |some none=>true
 |_=>false
theorem bu {v:Option (Option Value)}(h:dO v=true):v=some none:=by
 unfold dO at h
 split at h
 ·rfl
 ·cases h
noncomputable def dS (K:Frag)(v:Option (Option Value))(qual:Str):Bool:=keepIn K (.ref (df v))&&(match pX K v with
 |some fd=>codeIn K fd.code qual
 |none=>false)
noncomputable abbrev gv (K:Frag)(x:Str):Option (Option Value):=nsIn K mainGlobals x
noncomputable abbrev ga (K:Frag)(x:Str):Addr:=df (nsIn K mainGlobals x)
noncomputable abbrev fv (K:Frag)(c x:Str):Option (Option Value):=findIn K (.ref (df (nsIn K mainGlobals c))) x
noncomputable def gP (K:Frag)(v:Option (Option Value)):Option Bn:=(pX K v).map λfd=>AJ {fd with defaults:=.none}
noncomputable def Ea (K:Frag)(v:Option (Option Value)):Value:=match pX K v with
 |some fd=>fd.defaults
 |none=>.none
noncomputable def nE (K:Frag)(v:Option (Option Value)):Addr:=match Ea K v with
 | .ref a=>a
 |_=>0
noncomputable def rJ (K:Frag)(v:Option (Option Value)):Bool:=match Ea K v with
 | .ref _=>true
 |_=>false
noncomputable def qj (K:Frag)(T:Addr)(p:Value->Bool):Bool:=match K.lookup T with
 |some o=>(match o.data with
  | .seq a _=>(match a.toList with
    |[v]=>p v
    |_=>false)
  |_=>false)
 |none=>false
theorem hX {K:Frag}{T:Addr}{p:Value->Bool}(h:qj K T p=true):∃o v n,K.lookup T=some o/\o.data=.seq #[v] n/\p v=true:=by
 unfold qj at h
 split at h
 ·rename_i o ho
  split at h
  ·rename_i a n hd
   split at h
   ·rename_i v hv
    have:a = #[v]:=by rw[<-Array.toArray_toList (xs:=a),hv]
    subst this;exact⟨o,v,n,ho,hd,h⟩
   ·cases h
  ·cases h
 ·cases h
noncomputable def Ex (n:Int)(v:Value):Bool:=match v with
 | .int i _=>i==n
 |_=>false
theorem iG {n:Int}{v:Value}(h:Ex n v=true):∃t,v=.int n t:=by
 unfold Ex at h
 split at h
 ·rename_i i t
  have:i=n:=by simpa using h
  exact⟨t,by rw[this]⟩
 ·cases h
noncomputable def wd (v:Value):Bool:=match v with
 | .none=>true
 |_=>false
theorem nW {v:Value}(h:wd v=true):v=.none:=by
 unfold wd at h
 split at h
 ·rfl
 ·cases h
noncomputable def vj (v:Option (Option Value))(n:Int):Bool:=match v with
 |some (some u)=>Ex n u
 |_=>false
theorem jo {v:Option (Option Value)}{n:Int}(h:vj v n=true):∃t,v=some (some (.int n t)):=by
 unfold vj at h
 split at h
 ·obtain⟨t,rfl⟩:=iG h;exact⟨t,rfl⟩
 ·cases h
noncomputable def tH:List Value->List Int->Bool
 |[],[]=>true
 |v::vs,n::ns=>Ex n v&&tH vs ns
 |_,_=>false
noncomputable def wC (K:Frag)(a:Addr)(ns:List Int):Bool:=match K.lookup a with
 |some o=>(match o.cls with
  | .type T=>T == "tuple"
  |_=>false)&&(match o.data with
  | .seq its _=>tH its.toList ns&&decide (its.size<=sizeLine)
  |_=>false)
 |none=>false
noncomputable def BN (K:Frag):Bool:=match K.lookup sysModules with
 |some o=>(match o.cls with
  | .type T=>T == "dict"
  |_=>false)
 |none=>false
noncomputable def nj (v:Option (Option Value))(s:String):Bool:=match v with
 |some (some (.builtin t))=>t==s
 |_=>false
theorem eC {v:Option (Option Value)}{s:String}(h:nj v s=true):v=some (some (.builtin s)):=by
 unfold nj at h
 split at h
 ·rename_i t
  have:t=s:=by simpa using h
  rw[this]
 ·cases h
noncomputable def uk (v:Option Bool)(b:Bool):Bool:=match v with
 |some c=>c==b
 |none=>false
theorem iU {v:Option Bool}{b:Bool}(h:uk v b=true):v=some b:=by
 unfold uk at h
 split at h
 ·rename_i c
  have:c=b:=by simpa using h
  rw[this]
 ·cases h
noncomputable def zR:List Obj->BT->Nat->Option BT
 |[],t,_=>some t
 |o::os,t,n=>match ((t.ins n o).get n).isSome with
  |true=>zR os (t.ins n o) (n+1)
  |false=>none
theorem ud (life:Life):∀(os:List Obj)(t t':BT)(n:Nat),zR os t n=some t'->(absHeap t' (n+os.length) life).objs=(absHeap t n life).objs++os.toArray
 |[],t,t',n,h=>by
  cases h
  simp
 |o::os,t,t',n,h=>by
  unfold zR at h
  cases q:((t.ins n o).get n).isSome with
  |false=>rw[q] at h;cases h
  |true =>
   rw[q] at h;have e:=ud life os _ _ _ h;rw[absHeap_ins q] at e
   have:n+1+os.length=n+(o::os).length:=by simp only[YC];omega
   rw[this] at e;rw[e];show((absHeap t n life).objs.push o)++os.toArray=_;rw[<-Array.append_singleton,EW];simp
noncomputable def Ew (s:Bi):Option SharedT:=(zR s.heap.objs.toList .nil 0).map λt=>⟨t,s.heap.objs.size,s.heap.life,s.gens,s.drawn,s.toks,s.os⟩
theorem acT {s:Bi}{x:SharedT}(h:Ew s=some x):x.abs=s:=by
 unfold Ew at h;obtain⟨t,e,rfl⟩:=YH.mp h;have g:=ud s.heap.life _ _ _ _ e;obtain⟨⟨objs,life⟩,gens,drawn,toks,os⟩:=s
 have z:absHeap t objs.size life=⟨objs,life⟩:=by
  have a:(absHeap t objs.size life).objs=objs:=by
   have l:0+objs.toList.length=objs.size:=by simp
   rw[l] at g;rw[g];simp[absHeap,BT.list]
  exact Ze (Heap.mk · life) a
 show Shared.mk _ _ _ _ _=_;rw[z]
noncomputable def jr (tb:String->Option Builtin)(p:yo)(w:World)(n₀:Nat)(ann:u6):Nat->SharedT->Thread->Option SharedT
 |0,_,_=>none
 |n+1,s,t=>match through t with
  |true=>some s
  |false=>match stepOk n₀ ann t with
   |false=>none
   |true=>match stepT (denote tb) p w s t with
    |some (s',t')=>jr tb p w n₀ ann n s' t'
    |none=>none
section
variable {tb:String->Option Builtin}{p:yo}{w:World}{n₀:Nat}{ann:u6}
theorem jy:∀{n:Nat}{s s':SharedT}{t:Thread},jr tb p w n₀ ann n s t=some s'->topRun tb p w n₀ ann n s.abs t=some s'.abs
 |0,_,_,_,h=>by cases h
 |n+1,s,s',t,h=>by
  unfold jr at h;unfold topRun
  cases he:through t with
  |true=>rw[he] at h;cases h;rfl
  |false =>
   rw[he] at h
   cases hk:stepOk n₀ ann t with
   |false=>rw[hk] at h;cases h
   |true =>
    rw[hk] at h
    cases hs:stepT (denote tb) p w s t with
    |none=>rw[hs] at h;cases h
    |some r=>obtain⟨s₂,t₂⟩:=r;rw[hs] at h;rw[stepT_spec hs];exact jy h
end
noncomputable def jx (tb:String->Option Builtin)(p:yo)(w:World)(N:Nat)(s₀:Bi):Option SharedT :=
 match s₀.heap.isNs mainGlobals&&s₀.gens.size==0 with
 |true=>(Ew s₀).bind λx=>(jr tb p w s₀.heap.objs.size (s₀.heap.nsMap mainGlobals "__annotations__") N x (topStub p)).bind λs₁=>match staticsOk (importedModules p.main.body) s₀.heap s₁.abs.heap&&namesBound p s₁.abs.heap&&gensDone s₁.abs&&laidKept s₀.heap s₁.abs.heap with
  |true=>some s₁
  |false=>none
 |false=>none
variable {p:yo}{N:Nat}
theorem acr {tb:String->Option Builtin}{w:World}{s:Bi}{y:SharedT}(h:jx tb p w N s=some y):topFrom tb p w N s=some y.abs:=by
 unfold jx at h;unfold topFrom
 cases q:(s.heap.isNs mainGlobals&&s.gens.size==0) with
 |false=>rw[q] at h;cases h
 |true =>
  rw[q] at h;obtain⟨x,ex,h⟩:=vf.mp h;obtain⟨z,ez,h⟩:=vf.mp h;have e:=jy ez;rw[acT ex] at e;dsimp only;rw[e];show(match (staticsOk (importedModules p.main.body) s.heap z.abs.heap&&namesBound p z.abs.heap&&gensDone z.abs&&laidKept s.heap z.abs.heap) with|true=>some z.abs|false=>none)=_
  split at h
  ·cases h
   rename_i q2
   simp only[q2]
  ·cases h
noncomputable def bE (tb:String->Option Builtin)(p:yo)(w:World)(N:Nat):Option SharedT:=(fencedOpening tb p w N).bind (jx tb p w N)
theorem adv {tb:String->Option Builtin}{w:World}{y:SharedT}(h:bE tb p w N=some y):openEnds tb p w N=some y.abs:=by
 unfold bE at h;unfold openEnds;obtain⟨s,e,h⟩:=vf.mp h;rw[e];exact acr h
theorem ab3 {q:yo}{loose:Ez}{Xt:Shared->Bool}{α:Type}{Yf:Shared->α}{Ya:World->α}
 (h1:∀w,(bE treeTable p w N).map (λs=>openSeen q loose (importedModules p.main.body) Xt true s.abs)=some (openGood q loose))
 (h2:∀w,(bE treeTable p w N).map (λs=>Yf s.abs)=some (Ya w)):LeftO p q loose Xt Yf Ya N:=λw=>by
 obtain⟨y,e,z⟩:=YH.mp (h1 w);have z2:=h2 w;rw[e] at z2;rw[adv e];show some (_,_)=_;have z3:Yf y.abs=Ya w:=Option.some.inj z2;rw[z,z3]
section
variable {p q:yo}{loose mods:Ez}{Xt:Shared->Bool}{α:Type}{Yf:Shared->α}{Ya:World->α}{N:Nat}
noncomputable abbrev pR (q:yo)(s:Bi):=(seen ((recsOf q).map (·.name)) (ownsOf q) [] {s with gens:=#[]},s.heap.bltView)
noncomputable abbrev pF (q:yo)(loose mods:Ez)(Xt:Shared->Bool)(s:Bi):Bool :=
 s.heap.keysOk (looseW q loose) ((recsOf q).map (·.name)) ((litsOf q).map (·.1)) ((clssOf q (looseW q loose)).map (·.name))&&s.heap.accountedOkI mods&&s.heap.isNs mainGlobals&&s.heap.isNs builtinsNs&&tablesOk q s.heap&&Xt s&&(if true then s.gens.size==0 else !leftWithCleanup s.gens)
noncomputable abbrev oU (q:yo)(loose:Ez)(s:Bi):=(tabsOk q s,pinSeenD q (drecsOf q) s,plainSeenE q (looseW q loose) s,plainSeenD q loose s,wideSeen q s,clsSeenW q loose s)
theorem adm
 (h1:∀w,(bE treeTable p w N).map (λs=>pR q s.abs)=some (expectedOf q,bltViewBooted))
 (h2:∀w,(bE treeTable p w N).map (λs=>pF q loose (importedModules p.main.body) Xt s.abs)=some true)
 (h3:∀w,(bE treeTable p w N).map (λs=>oU q loose s.abs)=some (true,pinGoodD (drecsOf q),plainGoodE q (looseW q loose),plainGoodD q loose,wideGood q,clsGoodW q loose))
 (h4:∀w,(bE treeTable p w N).map (λs=>Yf s.abs)=some (Ya w)):LeftO p q loose Xt Yf Ya N:=by
 refine ab3 (λw=>?_) h4;obtain⟨y,e,z1⟩:=YH.mp (h1 w);have z2:=h2 w;have z3:=h3 w;rw[e] at z2 z3 |-;have z2:pF q loose (importedModules p.main.body) Xt y.abs=true:=Option.some.inj z2;have z3:oU q loose y.abs=_:=Option.some.inj z3;show some (openSeen q loose (importedModules p.main.body) Xt true y.abs)=_;have e1:openSeen q loose (importedModules p.main.body) Xt true y.abs=((pR q y.abs).1,(pR q y.abs).2,pF q loose (importedModules p.main.body) Xt y.abs,oU q loose y.abs):=rfl;rw[e1,z1,z2,z3];rfl
theorem acq
 (h1:∀w,(bE treeTable p w N).map (λs=>(pR q s.abs,pF q loose (importedModules p.main.body) Xt s.abs))=some ((expectedOf q,bltViewBooted),true))
 (h3:∀w,(bE treeTable p w N).map (λs=>oU q loose s.abs)=some (true,pinGoodD (drecsOf q),plainGoodE q (looseW q loose),plainGoodD q loose,wideGood q,clsGoodW q loose))
 (h4:∀w,(bE treeTable p w N).map (λs=>Yf s.abs)=some (Ya w)):LeftO p q loose Xt Yf Ya N:=by
 refine adm (λw=>?_) (λw=>?_) h3 h4
 ·obtain⟨y,e,z⟩:=YH.mp (h1 w);rw[e];exact Ze some (Ey z).1
 ·obtain⟨y,e,z⟩:=YH.mp (h1 w);rw[e];exact Ze some (Ey z).2
end
end Hd
namespace L2
open PySem
/-- an own class of exceptions without an __init__ -/
noncomputable def nR (K:PySem.W.Frag)(C:Addr)(IJ:nN)(newId:String):Bool :=
 ((K.lookup C).any λo=>o.cls == .type "type"&&(o.slots.size==6&&o.slots.toList[4]?==some (some (.builtin newId))))&&(PySem.W.clsIn K C).any λcd=>cd.mro.head?==some (.ref C)&&(!cd.hasDel&&(PySem.W.tailIn K IJ cd.mro.tail&&(PySem.W.nsOkIn K cd.ns&&PySem.W.nsIn K cd.ns "__init__"==some none)))
end L2
namespace K44
open PySem L2 PySem.W
open Hd (gv ga fv df gJ dn dO bu nj eC uk iU dS a8 gP eh rJ nE qj hX wd nW Ex iG vj jo wC)
noncomputable def bc (i:Nat):Stmt:=PySem.Challenge.pw_falsesums_k44_brackets.main.body.getD i (.Pass ⟨0,0,0,0⟩)
noncomputable def cO:List Int:=[2,3,5,7,11,13,17,19,23,29,31,37,41,43,47,53,59,61,67,71,73,79,83,89,97]
noncomputable abbrev C0:List Value:=[.type "ValueError",.type "Exception",.type "BaseException",.type "object"]
noncomputable abbrev qG:String:="ValueError.__new__"
noncomputable def E9 (K:Frag):Bool :=
 (dO (gv K "isinstance") &&
 (dO (gv K "int") &&
 (dO (gv K "bool") &&
 (dO (gv K "abs") &&
 (dO (gv K "len") &&
 (dO (gv K "tuple") &&
 (dO (gv K "all") &&
 (dO (gv K "any") &&
 (dO (gv K "zip") &&
 (dO (gv K "list") &&
 (dO (gv K "enumerate") &&
 (dO (gv K "sorted") &&
 (dO (gv K "max") &&
 (dO (gv K "min") &&
 (dO (gv K "set") &&
 (dO (gv K "range")))))))))))))))))
noncomputable def EZ (K:Frag):Bool :=
 (dO (gv K "repr") &&
 (gJ (gv K "Sum") &&
 (gJ (gv K "Field") &&
 (gJ (gv K "NoFilling") &&
 (gJ (gv K "NoNumber") &&
 (gJ (gv K "NoField") &&
 (gJ (gv K "PRIMES") &&
 (vj (gv K "FRACTIONS") 0 &&
 (vj (gv K "MOST_PLACES") 60 &&
 (dS K (gv K "is_whole") "is_whole" &&
 (dS K (gv K "is_place") "is_place" &&
 (dS K (gv K "is_product") "is_product" &&
 (dS K (gv K "is_row_of_bits") "is_row_of_bits" &&
 (dS K (gv K "is_term") "is_term" &&
 (dS K (gv K "checked_terms") "checked_terms" &&
 (dS K (gv K "place_of_term") "place_of_term"))))))))))))))))
noncomputable def E7 (K:Frag):Bool :=
 (dS K (gv K "gathered") "gathered" &&
 (dS K (gv K "common_divisor") "common_divisor" &&
 (dS K (gv K "lowest") "lowest" &&
 (dS K (gv K "inverse") "inverse" &&
 (dS K (gv K "bracket_sum") "bracket_sum" &&
 (dS K (gv K "is_bracket") "is_bracket" &&
 (dS K (gv K "_law_room") "_law_room" &&
 (dS K (gv K "_law_take") "_law_take" &&
 (dS K (gv K "_law_lowest") "_law_lowest" &&
 (dS K (gv K "_law_make") "_law_make" &&
 (dS K (gv K "_law_plus") "_law_plus" &&
 (dS K (gv K "_law_times") "_law_times" &&
 (dS K (gv K "_law_gather") "_law_gather" &&
 (dS K (gv K "_law_mult") "_law_mult" &&
 (dS K (gv K "_law_filling") "_law_filling" &&
 (dS K (gv K "_law_whole") "_law_whole"))))))))))))))))
noncomputable def Fe (K:Frag):Bool :=
 (dS K (gv K "_law_is_product") "_law_is_product" &&
 (dS K (gv K "_law_is_bracket") "_law_is_bracket" &&
 (dS K (gv K "_law_bent") "_law_bent" &&
 (dS K (gv K "_law_right") "_law_right" &&
 (dS K (gv K "law") "law" &&
 (dS K (fv K "Sum" "reach") "Sum.reach" &&
 (isFn K (.ref (df (fv K "Sum" "reach"))) &&
 (dS K (fv K "Sum" "field") "Sum.field" &&
 (isFn K (.ref (df (fv K "Sum" "field"))) &&
 (dS K (fv K "Sum" "terms") "Sum.terms" &&
 (isFn K (.ref (df (fv K "Sum" "terms"))) &&
 (dS K (fv K "Sum" "worth") "Sum.worth" &&
 (isFn K (.ref (df (fv K "Sum" "worth"))) &&
 (dS K (fv K "Field" "prime") "Field.prime" &&
 (isFn K (.ref (df (fv K "Field" "prime"))) &&
 (dS K (fv K "Field" "plus") "Field.plus"))))))))))))))))
noncomputable def EX (K:Frag):Bool :=
 (isFn K (.ref (df (fv K "Field" "plus"))) &&
 (dS K (fv K "Field" "settled") "Field.settled" &&
 (isFn K (.ref (df (fv K "Field" "settled"))) &&
 (dS K (fv K "Field" "is_number") "Field.is_number" &&
 (isFn K (.ref (df (fv K "Field" "is_number"))) &&
 (dS K (fv K "Field" "quotient") "Field.quotient" &&
 (isFn K (.ref (df (fv K "Field" "quotient"))) &&
 (dS K (fv K "Sum" "__init__") "Sum.__init__" &&
 (isFn K (.ref (df (fv K "Sum" "__init__"))) &&
 (rJ K (fv K "Sum" "__init__") &&
 (qj K (nE K (fv K "Sum" "__init__")) (wd) &&
 (dS K (fv K "Field" "__init__") "Field.__init__" &&
 (isFn K (.ref (df (fv K "Field" "__init__"))) &&
 (rJ K (fv K "Field" "__init__") &&
 (qj K (nE K (fv K "Field" "__init__")) (Ex 0) &&
 (dS K (fv K "Field" "made") "Field.made"))))))))))))))))
noncomputable def E2 (K:Frag):Bool :=
 (isFn K (.ref (df (fv K "Field" "made"))) &&
 (rJ K (fv K "Field" "made") &&
 (qj K (nE K (fv K "Field" "made")) (Ex 1) &&
 (plainGet K (ga K "Field") Str.empty &&
 (hasDictIn K (ga K "Field") &&
 (plainOver K (ga K "Field") &&
 (nj (fv K "Field" "__setattr__") "object.__setattr__" &&
 (dO (fv K "Field" "its_prime") &&
 (((clsIn K (ga K "Field")).isSome&&typeIn K (.ref (ga K "Field"))==some (.type "type")) &&
 (nj (fv K "Field" "__class__") "object.__class__" &&
 (nj (specialIn K (.builtin "object.__class__") "__get__") "getset_descriptor.__get__" &&
 (uk (takesIn K (.builtin "object.__class__")) true &&
 (uk (mroIn K (ga K "Field") (.type "object")) true &&
 (plainGet K (ga K "Sum") Str.empty &&
 (hasDictIn K (ga K "Sum") &&
 (plainOver K (ga K "Sum")))))))))))))))))
noncomputable def Fg (K:Frag):Bool :=
 (nj (fv K "Sum" "__setattr__") "object.__setattr__" &&
 (dO (fv K "Sum" "its_field") &&
 (dO (fv K "Sum" "its_terms") &&
 (((clsIn K (ga K "Sum")).isSome&&typeIn K (.ref (ga K "Sum"))==some (.type "type")) &&
 (nj (fv K "Sum" "__class__") "object.__class__" &&
 (uk (mroIn K (ga K "Sum") (.type "object")) true &&
 (wC K (ga K "PRIMES") cO &&
 (BN K &&
 (nR K (ga K "NoField") C0 qG &&
 (nR K (ga K "NoNumber") C0 qG &&
 (nR K (ga K "NoFilling") C0 qG &&
 (makesIn K (ga K "Sum") &&
 (keepIn K (.ref (ga K "Sum")) &&
 (makesIn K (ga K "Field") &&
 (keepIn K (.ref (ga K "Field")))))))))))))))))
noncomputable def qO (K:Frag):Bool:=E9 K&&(EZ K&&(E7 K&&(Fe K&&(EX K&&(E2 K&&(Fg K))))))
noncomputable def vc (K:Frag):Bool×List (Option Hd.Bn):=(qO K,[a8 K (gv K "is_whole"),a8 K (gv K "is_place"),a8 K (gv K "is_product"),a8 K (gv K "is_row_of_bits"),a8 K (gv K "is_term"),a8 K (gv K "checked_terms"),a8 K (gv K "place_of_term"),a8 K (gv K "gathered"),a8 K (gv K "common_divisor"),a8 K (gv K "lowest"),a8 K (gv K "inverse"),a8 K (gv K "bracket_sum"),a8 K (gv K "is_bracket"),a8 K (gv K "_law_room"),a8 K (gv K "_law_take"),a8 K (gv K "_law_lowest"),a8 K (gv K "_law_make"),a8 K (gv K "_law_plus"),a8 K (gv K "_law_times"),a8 K (gv K "_law_gather"),a8 K (gv K "_law_mult"),a8 K (gv K "_law_filling"),a8 K (gv K "_law_whole"),a8 K (gv K "_law_is_product"),a8 K (gv K "_law_is_bracket"),a8 K (gv K "_law_bent"),a8 K (gv K "_law_right"),a8 K (gv K "law"),a8 K (fv K "Sum" "reach"),a8 K (fv K "Sum" "field"),a8 K (fv K "Sum" "terms"),a8 K (fv K "Sum" "worth"),a8 K (fv K "Field" "prime"),a8 K (fv K "Field" "plus"),a8 K (fv K "Field" "settled"),a8 K (fv K "Field" "is_number"),a8 K (fv K "Field" "quotient"),gP K (fv K "Sum" "__init__"),gP K (fv K "Field" "__init__"),gP K (fv K "Field" "made")])
noncomputable def dueK:Bool×List (Option Hd.Bn):=(true,[eh "is_whole" "is_whole" ((bc 10)),eh "is_place" "is_place" ((bc 11)),eh "is_product" "is_product" ((bc 12)),eh "is_row_of_bits" "is_row_of_bits" ((bc 13)),eh "is_term" "is_term" ((bc 29)),eh "checked_terms" "checked_terms" ((bc 30)),eh "place_of_term" "place_of_term" ((bc 31)),eh "gathered" "gathered" ((bc 32)),eh "common_divisor" "common_divisor" ((bc 17)),eh "lowest" "lowest" ((bc 18)),eh "inverse" "inverse" ((bc 19)),eh "bracket_sum" "bracket_sum" ((bc 38)),eh "is_bracket" "is_bracket" ((bc 37)),eh "_law_room" "_law_room" ((bc 40)),eh "_law_take" "_law_take" ((bc 41)),eh "_law_lowest" "_law_lowest" ((bc 42)),eh "_law_make" "_law_make" ((bc 44)),eh "_law_plus" "_law_plus" ((bc 45)),eh "_law_times" "_law_times" ((bc 46)),eh "_law_gather" "_law_gather" ((bc 47)),eh "_law_mult" "_law_mult" ((bc 48)),eh "_law_filling" "_law_filling" ((bc 49)),eh "_law_whole" "_law_whole" ((bc 43)),eh "_law_is_product" "_law_is_product" ((bc 50)),eh "_law_is_bracket" "_law_is_bracket" ((bc 51)),eh "_law_bent" "_law_bent" ((bc 52)),eh "_law_right" "_law_right" ((bc 53)),eh "law" "law" ((bc 54)),eh "reach" "Sum.reach" (bh (bc 34) 8),eh "field" "Sum.field" (bh (bc 34) 5),eh "terms" "Sum.terms" (bh (bc 34) 6),eh "worth" "Sum.worth" (bh (bc 34) 13),eh "prime" "Field.prime" (bh (bc 20) 3),eh "plus" "Field.plus" (bh (bc 20) 6),eh "settled" "Field.settled" (bh (bc 20) 10),eh "is_number" "Field.is_number" (bh (bc 20) 11),eh "quotient" "Field.quotient" (bh (bc 20) 5),eh "__init__" "Sum.__init__" (bh (bc 34) 0),eh "__init__" "Field.__init__" (bh (bc 20) 0),eh "made" "Field.made" (bh (bc 20) 4)])
noncomputable def qW:List Addr:=[1,3,30,31,43,44,55,56,79,80,107,108,114,115,119,120,124,125,126,132,133,139,140,146,147,155,161,162,182,183,184,190,191,197,198,204,205,232,233,239,240,242,243,279,280,286,287,293,294,298,299,312,318,319,353,354,360,361,372,373,405,406,422,423,438,439,443,444,450,451,457,458,464,465,471,472,476,477,483,484,490,491,495,496,502,503,507,508,512,513,517,518,524,525,529,530,534,535]
noncomputable def ic:Program:={PySem.Challenge.pw_falsesums_k44_brackets with main:={PySem.Challenge.pw_falsesums_k44_brackets.main with body:=[bc 0,bc 2,bc 3,bc 4,bc 5,bc 6,bc 7,bc 9,bc 10,bc 11,bc 12,bc 13,bc 15,bc 16,bc 17,bc 18,bc 19,bc 20,bc 22,bc 23,bc 24,bc 25,bc 26,bc 27,bc 29,bc 30,bc 31,bc 32,bc 33,bc 34,bc 35,bc 37,bc 38,bc 40,bc 41,bc 42,bc 43,bc 44,bc 45,bc 46,bc 47,bc 48,bc 49,bc 50,bc 51,bc 52,bc 53,bc 54]} }
noncomputable def lv:List (PySem.Str×WData):=[("STEP",.int 10000000000000000000000000000000000000000000000000000000000000000)]
end K44
section
open PySem PySem.W PyProof.Rows
set_option maxRecDepth 100000 in
set_option maxHeartbeats 0 in
theorem K44.ran1:∀w,(Hd.bE treeTable PySem.Challenge.rw_falsesums_k44_brackets.row.prog w 7592).map (λs=>(Hd.pR K44.ic s.abs,Hd.pF K44.ic ["Field","STEP"] (importedModules PySem.Challenge.rw_falsesums_k44_brackets.row.prog.main.body) (λs=>xlAt K44.ic K44.lv s&&recOk (PySem.Challenge.rw_falsesums_k44_brackets.row.toRowW).records s) s.abs))=some ((PyProof.Rows.expectedOf K44.ic,bltViewBooted),true):=by
 intro w;kernel_rfl
set_option maxRecDepth 100000 in
set_option maxHeartbeats 0 in
theorem K44.ran3:∀w,(Hd.bE treeTable PySem.Challenge.rw_falsesums_k44_brackets.row.prog w 7592).map (λs=>Hd.oU K44.ic ["Field","STEP"] s.abs)=some (true,pinGoodD (drecsOf K44.ic),plainGoodE K44.ic (looseW K44.ic ["Field","STEP"]),plainGoodD K44.ic ["Field","STEP"],wideGood K44.ic,clsGoodW K44.ic ["Field","STEP"]):=by
 intro w;kernel_rfl
set_option maxRecDepth 100000 in
set_option maxHeartbeats 0 in
theorem K44.ran4:∀w,(Hd.bE treeTable PySem.Challenge.rw_falsesums_k44_brackets.row.prog w 7592).map (λs=>K44.vc (Hd.xg K44.qW s.abs.heap))=some K44.dueK:=by
 intro w;kernel_rfl
end
namespace L2
open PySem PySem.Spec PyProof.Rows
noncomputable abbrev Key:=Sum Int Str
noncomputable def ma:Key->Value->Bool
 | .inl k,v=>Value.isInt k v
 | .inr x,v=>Value.isStrOf x v
noncomputable def adN (w:World):Key->Int
 | .inl k=>hashInt k
 | .inr x=>hashStr w x
theorem b8:∀{k:Key}{v:Value},ma k v=true->(∃i t,k=Sum.inl i/\v=Value.int i t)\/(∃x t,k=Sum.inr x/\v=Value.str x t)
 | .inl i,v,h=>by
   obtain⟨t,e⟩:=Value.isInt_shape (k:=i) (v:=v) h;exact .inl ⟨i,t,rfl,e⟩
 | .inr x,v,h=>by
   obtain⟨t,e⟩:=Value.isStrOf_shape (x:=x) (v:=v) h;exact .inr ⟨x,t,rfl,e⟩
theorem acF (i:Int)(t:Tok):ma (.inl i) (.int i t)=true:=by simp[ma,Value.isInt]
theorem Fun (x:Str)(t:Tok):ma (.inr x) (.str x t)=true:=by simp[ma,Value.isStrOf]
theorem abY (a b:Int):decide ((Sum.inl a:Key)=Sum.inl b)=(a==b):=by
 by_cases e:a=b
 ·subst e;simp
 ·have h:¬(Sum.inl a:Key)=Sum.inl b:=λq=>e (Sum.inl.inj q);rw[Yu h];exact(Z5.mpr e).symm
theorem adG (a b:Str):decide ((Sum.inr a:Key)=Sum.inr b)=decide (a=b):=by
 by_cases e:a=b
 ·subst e;simp
 ·have h:¬(Sum.inr a:Key)=Sum.inr b:=λq=>e (Sum.inr.inj q);rw[Yu h,Yu e]
theorem adj (a:Int)(b:Str):decide ((Sum.inl a:Key)=Sum.inr b)=false:=Yu (λq=>nomatch q)
theorem acD (a:Str)(b:Int):decide ((Sum.inr a:Key)=Sum.inl b)=false:=Yu (λq=>nomatch q)
noncomputable def bX (prog:yo)(w:World):PySem.KeyKind prog w Key where
 is:=ma
 hash:=adN w
 inj:=λv a b ha hb=>by
  rcases b8 ha with⟨i,t,rfl,rfl⟩|⟨x,t,rfl,rfl⟩
  ·rcases b8 hb with⟨j,u,rfl,e⟩|⟨y,u,rfl,e⟩
   ·injection e with e1 _;rw[e1]
   ·exact nomatch e
  ·rcases b8 hb with⟨j,u,rfl,e⟩|⟨y,u,rfl,e⟩
   ·exact nomatch e
   ·injection e with e1 _;rw[e1]
 byValue:=λk v h=>by
  rcases b8 h with⟨i,t,rfl,rfl⟩|⟨x,t,rfl,rfl⟩ <;> rfl
 pyHash:=λhv h=>by
  rcases b8 hv with⟨i,t,rfl,rfl⟩|⟨x,t,rfl,rfl⟩
  ·exact wpAny_pyHash_int h
  ·exact wpAny_pyHash_str h
 eqBool:=λhu hv h=>by
  rcases b8 hu with⟨i,t,rfl,rfl⟩|⟨x,t,rfl,rfl⟩
  ·rcases b8 hv with⟨j,u,rfl,rfl⟩|⟨y,u,rfl,rfl⟩
   ·rw[abY] at h;exact wpAny_eqBool_int h
   ·rw[adj] at h;exact SeqAt.EqAt.int_str i t y u _ _ _ _ h
  ·rcases b8 hv with⟨j,u,rfl,rfl⟩|⟨y,u,rfl,rfl⟩
   ·rw[acD] at h;exact SeqAt.EqAt.str_int x t j u _ _ _ _ h
   ·rw[adG] at h;exact wpAny_eqBool_str h
 «strs»:=λk x t v h=>by
  rcases b8 h with⟨i,u,rfl,e⟩|⟨y,u,rfl,e⟩
  ·exact nomatch e
  ·injection e with e1 _
   subst e1
   cases v <;> rfl
theorem adW (prog:yo)(w:World)(i:Int)(t:Tok):(bX prog w).is (.inl i) (.int i t)=true:=acF i t
theorem acB (prog:yo)(w:World)(x:Str)(t:Tok):(bX prog w).is (.inr x) (.str x t)=true:=Fun x t
inductive V where
 |non|bl (b:Bool)|int (i:Int)|str (x:Str)|byt (b:Array UInt8)|flt (b:UInt64)|ref (a:Addr)|ty (n:String)
 deriving DecidableEq
noncomputable def aG:V->Value->Prop
 | .non,u=>u=Value.none
 | .bl b,u=>u=Value.bool b
 | .int i,u=>∃t,u=Value.int i t
 | .str x,u=>∃t,u=Value.str x t
 | .byt b,u=>∃t,u=Value.bytes b t
 | .flt b,u=>∃t,u=Value.float b t
 | .ref a,u=>u=Value.ref a
 | .ty n,u=>u=Value.type n
noncomputable abbrev aR:List V->List Value->Prop:=Paired aG
variable {us:nN}
theorem aR.length {xs:List V}(r:aR xs us):xs.length=us.length:=xN r
theorem aR.get:∀{xs:List V}{us:nN}{i:Nat}{x:V},aR xs us->xs[i]?=some x->∃u,us[i]?=some u/\aG x u
 |_,_,_,_,.nil,e=>by simp at e
 |_,_,0,_,.cons r _,e=>by simp at e;subst e;exact⟨_,rfl,r⟩
 |_,_,i+1,x,.cons _ t,e=>by
  obtain⟨u,h1,h2⟩:=aR.get (i:=i) (x:=x) t (by simpa using e);exact⟨u,by simpa using h1,h2⟩
variable {u:Value}
theorem aR.set {x:V}(r:aG x u):∀{xs:List V}{us:nN}(i:Nat),aR xs us->aR (xs.set i x) (us.set i u)
 |_,_,_,.nil=>.nil
 |_,_,0,.cons _ t=>.cons r t
 |_,_,i+1,.cons q t=>.cons q (aR.set r i t)
theorem aR.append:∀{xs ys:List V}{us ws:nN},aR xs us->aR ys ws->aR (xs++ys) (us++ws)
 |_,_,_,_,.nil,s=>s
 |_,_,_,_,.cons r t,s=>.cons r (aR.append t s)
theorem aR.take:∀{xs:List V}{us:nN}(n:Nat),aR xs us->aR (xs.take n) (us.take n)
 |_,_,0,_=>.nil
 |_,_,_+1,.nil=>.nil
 |_,_,n+1,.cons r t=>.cons r (aR.take n t)
theorem aR.drop:∀{xs:List V}{us:nN}(n:Nat),aR xs us->aR (xs.drop n) (us.drop n)
 |_,_,0,r=>r
 |_,_,_+1,.nil=>.nil
 |_,_,n+1,.cons _ t=>aR.drop n t
noncomputable def fO:Option V->Option Value->Prop
 |some v,some u=>aG v u
 |none,none=>True
 |_,_=>False
noncomputable def KV {κ:Type}:List (κ×V)->List (κ×Value)->Prop:=Paired λ(p:κ×V)(q:κ×Value)=>p.1=q.1/\aG p.2 q.2
noncomputable def kV:Key->V
 | .inl i=>.int i
 | .inr x=>.str x
inductive HO where
 /-- a list -/
 |lst (xs:List V)
 /-- a tuple (never changes) -/
 |tup (xs:List V)
 /-- a dict JQ keys are ints and texts;one JQ keys are tuples of ints and texts (Ic empty one is both) -/
 |dK (Ft:List (Key×V))|dT (Ft:List (List Key×V))
 /-- a set of ints: its members,its size -/
 |set (S:Int->Bool)(n:Nat)
 /-- an instance of Ic class at C,its dict at dx,its attributes -/
 |ins (C dx:Addr)(fs:List (Str×V))
 /-- Ic dict of Ic instance at x -/
 |own (x:Addr)
 /-- Ic dict of an exception -/
 |xd (fs:List (Str×V))
 /-- a bound method,f of x -/
 |met (f x:Addr)
 /-- a range object lo,lo+1,.. below hi -/
 |rng (lo hi:Int)
 /-- a JR Sw is known to Ic object (Ic Nw;a dict while a oH AZ it): read,never written while it is so -/
 |frz (o:Obj)(u:HO)
 /-- a code JS table -/
 |tbl (ps:Cu)
 /-- any other JR,by Sx is true of its one object (a def of QG own: Sy a S n:=HO.ext λh=>..) -/
 |ext (φ:Heap->Prop)
noncomputable abbrev Hp:=Addr->Option HO
noncomputable def upd (H:Hp)(a:Addr)(o:HO):Hp:=λb=>if b=a then some o else H b
variable {H:Hp}{a:Addr}{o:HO}
theorem ai :upd H a o a=some o:=by unfold upd;rw[Yh rfl]
variable {b:Addr}
theorem aA (h:b≠a):upd H a o b=H b:=by unfold upd;rw[Yd h]
theorem uy {u:HO}:upd (upd H a o) a u=upd H a u:=by
 funext b;unfold upd;split <;> rfl
theorem A8 {u:HO}(h:H a=some o)(h':H b=some u)(d:o≠u):a≠b:=by
 intro e;subst e;rw[h] at h';exact d (Option.some.inj h')
theorem aB (h:H a=some o)(h':H b=none):a≠b:=by
 intro e;subst e;rw[h] at h';cases h'
section
variable (P:yo)(w:World)
noncomputable def bD (H:Hp)(h:Heap)(a:Addr):HO->Prop
 | .lst xs=>xs.length<=sizeLine/\∃(its:nN)(n:Nat),aR xs its/\h.get? a=some {cls:=.type "list",data:=.seq its.toArray n}
 | .tup xs=>xs.length<=sizeLine/\∃its:List Value,aR xs its/\IsTup h a its.toArray
 | .dK Ft=>Ft.length<=sizeLine/\(a==sysModules)=false/\∃vs,KV Ft vs/\h.DictOf (bX P w) a vs
 | .dT Ft=>Ft.length<=sizeLine/\(a==sysModules)=false/\∃xs:List (List Key×Addr×Value),
  Paired (λ(p:List Key×V)(q:List Key×Addr×Value)=>p.1=q.1/\H q.2.1=some (.tup (p.1.map kV))/\aG p.2 q.2.2) Ft xs /\
  ∃o es ep,h.get? a=some o/\o.ExactDict/\o.data=.dict es ep/\es.toList=xs.map (entryOfKey (tupleKind (bX P w)))/\(xs.map (·.1)).Nodup
 | .set S n=>h.SetOf (intKind P w) a S n
 | .ins C dx fs=>H dx=some (.own a)/\fs.length<=1000/\dx≠a/\h.get? a=some (PySem.W.instObj C dx) /\
  ∃mA,h.Ns1 dx mA/\(∀f,fO (fs.lookup f) (mA f))/\PySem.Within mA (fs.map (·.1))
 | .own _=>∃o,h.get? a=some o
 | .xd fs=>∃mA,h.Ns1 a mA/\∀f,fO (fs.lookup f) (mA f)
 | .rng lo hi=>∃t u v,h.get? a=some {cls:=.type "range",data:=.fields #[.int lo t,.int hi u,.int 1 v]}
 | .frz o u=>h.get? a=some o/\bD H h a u
 | .tbl ps=>h.get? a=some {cls:=.none,data:=.fields ps}
 | .met f x=>h.get? a=some (PySem.W.methodObj (.ref f) (.ref x))
 | .ext φ=>φ h/\(∃o,h.get? a=some o)/\∀h1 h2:Heap,φ h1->(∀o,h1.get? a=some o->h2.get? a=some o)->φ h2
noncomputable def fX (H:Hp)(h:Heap):Prop:=∀a o,H a=some o->bD P w H h a o
end
section
variable {P:yo}{w:World}{H H':Hp}{h h':Heap}{a:Addr}{o:HO}
theorem bD.lt (x:bD P w H h a o):a<h.objs.size:=by
 cases o with
 |lst xs=>obtain⟨_,_,_,_,e⟩:=x;exact Ym e
 |tup xs=>obtain⟨_,_,_,p⟩:=x;exact p.lt
 |dK Ft=>obtain⟨_,_,_,_,o,_,_,e,_⟩:=x;exact Ym e
 |dT Ft=>obtain⟨_,_,_,_,o,_,_,e,_⟩:=x;exact Ym e
 |set S n=>obtain⟨o,_,_,_,e,_⟩:=x;exact Ym e
 |ins C dx fs=>obtain⟨_,_,_,e,_⟩:=x;exact Ym e
 |own y=>obtain⟨_,e⟩:=x;exact Ym e
 |xd fs=>obtain⟨_,⟨_,_,_,e,_⟩,_⟩:=x;exact Ym e
 |rng lo hi=>obtain⟨_,_,_,e⟩:=x;exact Ym e
 |frz ob u=>obtain⟨e,_⟩:=x;exact Ym e
 |tbl ps=>exact Ym (show h.get? a=some _ from x)
 |met f y=>exact Ym (show h.get? a=some _ from x)
 |ext φ=>obtain⟨_,⟨_,e⟩,_⟩:=x;exact Ym e
theorem Paired.adn {α β:Type}{F G:α->β->Prop}:∀{l₁:List α}{l₂:List β},Paired F l₁ l₂->(∀a b,F a b->G a b)->Paired G l₁ l₂
 |_,_,.nil,_=>.nil
 |_,_,.cons r t,f=>.cons (f _ _ r) (Paired.adn t f)
theorem bD.adk (x:bD P w H h a o)(k:∀b u,(b=a\/H b=some (.own a))->h.get? b=some u->h'.get? b=some u)
 (ho:∀b,H b=some (.own a)->H' b=some (.own a))(ht:∀b xs,H b=some (.tup xs)->H' b=some (.tup xs)):bD P w H' h' a o:=by
 induction o with
 |lst xs=>obtain⟨z,its,n,r,e⟩:=x;exact⟨z,its,n,r,k _ _ (.inl rfl) e⟩
 |tup xs=>obtain⟨z,its,r,ob,e,c⟩:=x;exact⟨z,its,r,ob,k _ _ (.inl rfl) e,c⟩
 |dK Ft=>obtain⟨z,y,vs,r,ob,es,ep,e,c⟩:=x;exact⟨z,y,vs,r,ob,es,ep,k _ _ (.inl rfl) e,c⟩
 |dT Ft =>
  obtain⟨z,y,xs,r,ob,es,ep,e,c⟩:=x;exact⟨z,y,xs,Paired.adn r λp q z=>⟨z.1,ht _ _ z.2.1,z.2.2⟩,ob,es,ep,k _ _ (.inl rfl) e,c⟩
 |set S n=>obtain⟨ob,es,ep,t,e,c⟩:=x;exact⟨ob,es,ep,t,k _ _ (.inl rfl) e,c⟩
 |ins C dx fs =>
  obtain⟨d,z,ne,e,mA,⟨od,es,ep,e2,c⟩,r⟩:=x;exact⟨ho _ d,z,ne,k _ _ (.inl rfl) e,mA,⟨od,es,ep,k _ _ (.inr d) e2,c⟩,r⟩
 |own y=>obtain⟨ob,e⟩:=x;exact⟨ob,k _ _ (.inl rfl) e⟩
 |xd fs=>obtain⟨mA,⟨od,es,ep,e,c⟩,r⟩:=x;exact⟨mA,⟨od,es,ep,k _ _ (.inl rfl) e,c⟩,r⟩
 |rng lo hi=>obtain⟨t,u,v,e⟩:=x;exact⟨t,u,v,k _ _ (.inl rfl) e⟩
 |frz ob u ih=>obtain⟨e,q⟩:=x;exact⟨k _ _ (.inl rfl) e,ih q⟩
 |tbl ps =>
  have e:h.get? a=some {cls:=.none,data:=.fields ps}:=x;show h'.get? a=some {cls:=.none,data:=.fields ps};exact k a _ (.inl rfl) e
 |met f y =>
  have e:h.get? a=some (PySem.W.methodObj (.ref f) (.ref y)):=x;show h'.get? a=some (PySem.W.methodObj (.ref f) (.ref y));exact k a _ (.inl rfl) e
 |ext φ=>obtain⟨p,⟨o,e⟩,st⟩:=x;exact⟨st _ _ p λo q=>k _ _ (.inl rfl) q,⟨o,k _ _ (.inl rfl) e⟩,st⟩
theorem fX.lt (x:fX P w H h)(e:H a=some o):a<h.objs.size:=(x a o e).lt
theorem fX.fresh (x:fX P w H h)(e:h.objs.size<=a):H a=none:=by
 cases q:H a with
 |none=>rfl
 |some u=>exact absurd (Ys (x.lt q) e) (Zh _)
theorem fX.kept (x:fX P w H h)(k:∀b u,h.get? b=some u->h'.get? b=some u):fX P w H h':=λa o e =>
 (x a o e).adk (λb u _ q=>k b u q) (λ_ q=>q) λ_ _ q=>q
theorem fX.laid (x:fX P w H h)(k:∀b u,h.get? b=some u->h'.get? b=some u)(hp:h.objs.size<=a)(new:bD P w (upd H a o) h' a o):fX P w (upd H a o) h':=λb u e=>by
 have hn:=x.fresh hp
 by_cases hb:b=a
 ·subst hb;rw[ai] at e;cases e;exact new
 ·rw[aA hb] at e
  exact(x b u e).adk (λc v _ q=>k c v q) (λc q=>by rw[aA (aB q hn)];exact q) λc xs q=>by rw[aA (aB q hn)];exact q
end
noncomputable def Rd (H:Hp)(a:Addr)(u:HO):Prop:=H a=some u\/∃o,H a=some (.frz o u)
theorem Rd.of {u:HO}(h:H a=some u):Rd H a u:=.inl h
variable {P:yo}{w:World}{h:Heap}
theorem Rd.ok {u:HO}(r:Rd H a u)(x:fX P w H h):bD P w H h a u:=by
 rcases r with r|⟨o,r⟩
 ·exact x a u r
 ·obtain⟨_,q⟩:=x a _ r;exact q
noncomputable def DO:Option HO->Prop
 |some (.lst _)=>True
 |some (.dK _)=>True
 |some (.dT _)=>True
 |some (.set _ _)=>True
 |some (.ins _ _ _)=>True
 |some (.ext _)=>True
 |_=>False
section
variable {P:yo}{w:World}{H:Hp}{h h':Heap}{x e:Addr}{o':HO}
theorem fX.write (ok:fX P w H h)(mu:DO (H x))(he:e=x\/H e=some (.own x))(k:∀b u,b≠e->h.get? b=some u->h'.get? b=some u)(JD:∃u,h'.get? e=some u)
 (new:bD P w (upd H x o') h' x o'):fX P w (upd H x o') h':=λb u q=>by
 have JT:∀c y,H c=some (.own y)->c≠x:=λc y r z=>by subst z;rw[r] at mu;exact mu
 have Nx:∀c xs,H c=some (.tup xs)->c≠x:=λc xs r z=>by subst z;rw[r] at mu;exact mu
 by_cases hb:b=x
 ·subst hb;rw[ai] at q;cases q;exact new
 ·rw[aA hb] at q
  by_cases IK:b=e
  ·have q':H b=some (.own x):=by
    rcases he with z|z
    ·exact absurd (IK.trans z) hb
    ·rw[IK];exact z
   rw[q] at q';cases q';obtain⟨v,hv⟩:=JD;exact⟨v,by rw[IK];exact hv⟩
  ·refine(ok b u q).adk (λc v hc r=>k c v ?_ r) (λc r=>by rw[aA (JT c b r)];exact r) λc xs r=>by rw[aA (Nx c xs r)];exact r
   rcases hc with rfl|hc
   ·exact IK
   ·rintro rfl
    rcases he with z|z
    ·exact JT c b hc z
    ·rw[hc] at z;cases z;exact hb rfl
end
structure Un (fs ex:List Addr)(H H':Hp)(h h':Heap):Prop where
 keep:∀b o,h.get? b=some o->H b=none->b∉fs->b∉ex->h'.get? b=some o
 slot:∀b o,h.get? b=some o->H b=none->b∈fs->b∉ex->∃sl,h'.get? b=some {o with slots:=sl}
 free:∀b o,h.get? b=some o->H b=none->b∉ex->H' b=none
 there:∀b o,h.get? b=some o->b∉ex->∃o',h'.get? b=some o'
 acK:∀b xs,H b=some (.tup xs)->H' b=some (.tup xs)
 acH:∀b o u,H b=some (.frz o u)->H' b=some (.frz o u)
 acO:∀b ps,H b=some (.tbl ps)->∃more,H' b=some (.tbl (ps++more))
section
variable {fs Sz ex Xs:List Addr}{H H1 H2:Hp}{h h1 h2 h':Heap}{a x e:Addr}{o:HO}
theorem Un.any (u:Un fs ex H H1 h h1){ob:Obj}(q:h.get? b=some ob)(n:H b=none)(hx:b∉ex):∃sl,h1.get? b=some {ob with slots:=sl}:=by
 by_cases hb:b∈fs
 ·exact u.slot b ob q n hb hx
 ·exact⟨ob.slots,u.keep b ob q n hb hx⟩
theorem Un.kept (k:∀b u,h.get? b=some u->h'.get? b=some u):Un fs ex H H h h' :=
 ⟨λb ob q _ _ _=>k b ob q,λb ob q _ _ _=>⟨ob.slots,k b ob q⟩,λ_ _ _ n _=>n,λb ob q _=>⟨ob,k b ob q⟩,λ_ _ q=>q,λ_ _ _ q=>q,λ_ ps q=>⟨#[],by rw[q];simp⟩⟩
theorem Un.refl:Un fs ex H H h h:=Un.kept λ_ _ q=>q
theorem Un.laid (k:∀b u,h.get? b=some u->h'.get? b=some u)(hp:h.objs.size<=a)(hn:H a=none):Un fs ex H (upd H a o) h h' where
 keep:=λb u q _ _ _=>k b u q
 slot:=λb u q _ _ _=>⟨u.slots,k b u q⟩
 free:=λb u q n _=>by rw[aA (Yr (Ys (Ym q) hp))];exact n
 there:=λb u q _=>⟨u,k b u q⟩
 acK:=λb xs q=>by rw[aA (aB q hn)];exact q
 acH:=λb u xs q=>by rw[aA (aB q hn)];exact q
 acO:=λb ps q=>⟨#[],by rw[aA (aB q hn),q];simp⟩
theorem Un.write (mu:DO (H x))(he:e=x\/H e=some (.own x))(k:∀b u,b≠e->h.get? b=some u->h'.get? b=some u)(JD:∃u,h'.get? e=some u):Un fs ex H (upd H x o) h h':=by
 have hx:∀b,H b=none->b≠x:=λb n z=>by subst z;rw[n] at mu;exact mu
 have hb:∀b,H b=none->b≠e:=λb n z=>by
  subst z
  rcases he with r|r
  ·exact hx b n r
  ·rw[n] at r;cases r
 have hm:∀b u,H b=some u->¬DO (some u)->b≠x:=λb u q nm z=>by subst z;rw[q] at mu;exact nm mu
 refine⟨λb u q n _ _=>k b u (hb b n) q,λb u q n _ _=>⟨u.slots,k b u (hb b n) q⟩,λb u q n _=>by rw[aA (hx b n)];exact n,λb u q _=>?_,
  λb xs q=>by rw[aA (hm b _ q λz=>z)];exact q,λb u xs q=>by rw[aA (hm b _ q λz=>z)];exact q,λb ps q=>⟨#[],by rw[aA (hm b _ q λz=>z),q];simp⟩⟩
 by_cases IK:b=e
 ·subst IK;exact JD
 ·exact⟨u,k b u IK q⟩
end
noncomputable def Eg (h:Heap)(H:Hp):List Addr:=(List.range h.objs.size).filter λa=>(H a).isSome
noncomputable def lq (h:Heap)(H:Hp):Heap:=PySem.W.hideAll h (Eg h H)
theorem adU (h:Heap)(H:Hp):(lq h H).objs.size=h.objs.size:=PySem.W.hideAll_size _ _
theorem adK {o:Obj}(e:h.get? b=some o)(n:H b=none):(lq h H).get? b=some o :=
 PySem.W.hideAll_get _ e λhm=>by
  have q:(H b).isSome=true:=(Y7.mp hm).2;rw[n] at q;simp at q
theorem acQ {o:Obj}(e:(lq h H).get? b=some o):h.get? b=some o/\H b=none:=by
 have e':h.get? b=some o:=PySem.W.of_hideAll (Eg h H) e;refine⟨e',?_⟩
 cases q:H b with
 |none=>rfl
 |some x =>
  have hm:b∈Eg h H:=Y7.mpr ⟨ZD.mpr (Ym e'),by simp[q]⟩;have z:(lq h H).get? b=none:=PySem.W.hideAll_none (Eg h H) hm;rw[z] at e;cases e
structure Mod (K:PySem.W.Frag)(mg:u9)(base:Heap):Prop where
 kin:K.In base
 glob:base.Ns mainGlobals mg
 blt:∃mb,base.Ns builtinsNs mb/\∀x:Str,x ≠ "__name__"->mb x=bootBuiltins x
 nolimit:base.NoLimit
structure Cx where
 prog:Program
 w:World
 K:PySem.W.Frag
 mg:Str->Option Value
 base:Heap
 A:Around
 N:List Str
 s₀:Shared
 H₀:Hp
 env:Env
 outer:List Env
 stack:List Env
 ex:List Addr
 fn:Str->Bool
 calm:Bool
 pn:List (Addr×Obj)
 xe:Value->Shared->Prop
noncomputable def eZ (l:List Env):List Addr:=l.filterMap (·.frame)
noncomputable abbrev Cx.fs (X:Cx):List Addr:=eZ X.outer
noncomputable def Ec (sc:Scope)(x:Str):Prop:=sc.names.lookup x=some .local\/sc.names.lookup x=some .cell\/sc.names.lookup x=some .free
noncomputable def DM (sc:Scope)(x:Str):Prop:=sc.names.lookup x=some .local\/sc.names.lookup x=some .cell
noncomputable def isI (env:Env)(h:Heap)(m:u9)(x:Str)(u:Value):Prop :=
 (env.kindOf x=some .local/\m x=some u)\/((env.kindOf x=some .cell\/env.kindOf x=some .free)/\∃c,env.cells.lookup x=some c/\h.IsCell c (some u))
structure Cx.Ok (X:Cx):Prop where
 mod:Mod X.K X.mg X.base
 kind:X.env.scope.kind=.function
 glob:X.env.globals=mainGlobals
 blt:X.env.builtins=builtinsNs
 above:X.s₀.heap.objs.size<=X.env.locals
 inj:∀x y c,X.env.cells.lookup x=some c->X.env.cells.lookup y=some c->x=y
 has:∀x,(X.env.kindOf x=some .cell\/X.env.kindOf x=some .free)->∃c,X.env.cells.lookup x=some c
 cab:∀x c,X.fn x=true->X.env.cells.lookup x=some c->X.s₀.heap.objs.size<=c
 hd:X.calm=true->X.A.handled=none
 frames:X.A.frames=some X.stack
 stk:X.stack=X.outer\/(X.stack=X.env::X.outer/\X.env.frame=some X.env.locals)
 exf:∀b∈X.ex,b≠X.env.locals/\∀x c,X.env.cells.lookup x=some c->c≠b
 bs:∀b o,X.base.get? b=some o->X.s₀.heap.get? b=some o/\X.H₀ b=none
 bsz:X.base.objs.size<=X.s₀.heap.objs.size
 adI:∀b o,X.base.get? b=some o->b∉X.ex
 ad1:∀b∈X.ex,b∉X.fs
 acP:X.s₀.heap.FunFrames X.base X.outer
 frf:∀b∈X.fs,X.H₀ b=none
structure Inv (X:Cx)(pins:List (Addr×Obj))(σ:List (Option V))(H:Hp)(s:Bi):Prop where
 ok:X.Ok
 os:s.os=X.s₀.os
 bare:AllBare s.gens
 base:Un X.fs X.ex X.H₀ H X.s₀.heap s.heap
 loc:∃m,s.heap.Ns X.env.locals m/\∀(i:Nat)(x:Str)(v:V),X.N[i]?=some x->σ[i]?=some (some v)->Ec X.env.scope x->∃u,aG v u/\isI X.env s.heap m x u
 cell:∀x c,X.env.cells.lookup x=some c->∃v,s.heap.IsCell c v
 free:H X.env.locals=none
 acI:∀x c,X.env.cells.lookup x=some c->H c=none
 pin:∀p∈X.pn++pins,s.heap.get? p.1=some p.2/\H p.1=none/\p.1≠X.env.locals/\p.1∉X.fs/\∀v,p.2.data≠.cell v
 hok:fX X.prog X.w H s.heap
 len:σ.length=X.N.length
variable {N:Ez}{i:Nat}{x:Str}{M:Model}{A:Around}
section
variable {X:Cx}{pins:List (Addr×Obj)}{σ:List (Option V)}{H H':Hp}{s:Bi}{h':Heap}
theorem Cx.Ok.agE (ok:X.Ok){o:Obj}(e:X.base.get? b=some o):b∉X.fs:=λhb=>by
 have:=(ok.acP.mem hb).1;rw[e] at this;cases this
theorem Inv.bs (I:Inv X pins σ H s):∀b o,X.base.get? b=some o->s.heap.get? b=some o/\H b=none:=λb o e =>
 ⟨I.base.keep b o (I.ok.bs b o e).1 (I.ok.bs b o e).2 (I.ok.agE e) (I.ok.adI b o e),I.base.free b o (I.ok.bs b o e).1 (I.ok.bs b o e).2 (I.ok.adI b o e)⟩
theorem Inv.bk (I:Inv X pins σ H s):∀b o,X.base.get? b=some o->s.heap.get? b=some o:=λb o e=>(I.bs b o e).1
theorem Inv.mod (I:Inv X pins σ H s):Mod X.K X.mg X.base:=I.ok.mod
theorem Inv.kIn (I:Inv X pins σ H s):X.K.In s.heap:=I.ok.mod.kin.keeps I.bk
theorem Inv.lt (I:Inv X pins σ H s):X.env.locals<s.heap.objs.size:=let⟨_,hn,_⟩:=I.loc;hn.lt
theorem Inv.sz (I:Inv X pins σ H s):X.s₀.heap.objs.size<=s.heap.objs.size:=Yq I.ok.above (Zi I.lt)
theorem Inv.ae3 (I:Inv X pins σ H s)(h:s.heap.objs.size<=a):a∉X.fs:=λhb=>by
 obtain⟨_,o,ho,_⟩:=I.ok.acP.mem hb;exact absurd (Ys (Ym ho) (Yq I.sz h)) (Zh _)
theorem Inv.cne (I:Inv X pins σ H s):∀x c,X.env.cells.lookup x=some c->c≠X.env.locals:=λx c e z=>by
 obtain⟨v,o,ho,hd⟩:=I.cell x c e;obtain⟨m,⟨o',es,ep,F0,Ny,_⟩,_⟩:=I.loc;rw[z,F0] at ho;cases ho;rw[Ny] at hd;cases hd
theorem Inv.acP (I:Inv X pins σ H s):s.heap.FunFrames X.base X.outer:=by
 have all:∀(l:List Env),(∀b∈eZ l,b∈X.fs)->X.s₀.heap.FunFrames X.base l->s.heap.FunFrames X.base l:=by
  intro l
  induction l with
  |nil=>intro _ _;trivial
  |cons env r ih =>
   intro hs hl;obtain⟨hk,⟨L,o,hf,hn,ho,hd⟩,hr⟩:=hl;have hL:L∈X.fs:=hs L (by unfold eZ;rw[Zf,hf];exact Yl);obtain⟨sl,e⟩:=I.base.slot L o ho (I.ok.frf L hL) hL λz=>I.ok.ad1 L z hL;exact⟨hk,⟨L,_,hf,hn,e,hd⟩,ih (λb hb=>hs b (by unfold eZ;rw[Zf,hf];exact Yi _ hb)) hr⟩
 exact all X.outer (λ_ hb=>hb) I.ok.acP
theorem Inv.stack (I:Inv X pins σ H s):s.heap.FunFrames X.base X.stack:=by
 rcases I.ok.stk with e|⟨e,hf⟩
 ·rw[e];exact I.acP
 ·rw[e];obtain⟨m,hn,_⟩:=I.loc;refine .cons (by rw[I.ok.kind];decide) hf hn ?_ I.acP;exact Heap.get?_none_of_le (Yq I.ok.bsz I.ok.above)
theorem Inv.acR (I:Inv X pins σ H s):∀b∈eZ X.stack,b∈X.env.locals::X.fs:=λb hb=>by
 rcases I.ok.stk with e|⟨e,hf⟩
 ·rw[e] at hb;exact Yi _ hb
 ·rw[e] at hb;unfold eZ at hb;rw[Zf,hf] at hb;exact hb
theorem Inv.ac2 (I:Inv X pins σ H s):∀b∈eZ X.stack,H b=none:=λb hb=>by
 rcases Yn.mp (I.acR b hb) with e|hb
 ·rw[e];exact I.free
 ·obtain⟨_,o,ho,_⟩:=I.ok.acP.mem hb;exact I.base.free b o ho (I.ok.frf b hb) λz=>I.ok.ad1 b z hb
theorem Inv.step {g':Array GenState}{t':Nat}{d':Drawn}{ch:List Addr}(I:Inv X pins σ H s)
 (HH:∀b∈ch,(b∈X.ex\/X.s₀.heap.objs.size<=b)/\b≠X.env.locals/\(∀x c,X.env.cells.lookup x=some c->c≠b)/\∀p∈X.pn++pins,p.1≠b)
 (keep:∀b o,b≠X.env.locals->b∉X.fs->b∉ch->s.heap.get? b=some o->H b=none->h'.get? b=some o)
 (slot:∀b o,b≠X.env.locals->b∈X.fs->b∉ch->s.heap.get? b=some o->H b=none->∃sl,h'.get? b=some {o with slots:=sl})(free:∀b o,b∉ch->s.heap.get? b=some o->H b=none->H' b=none)
 (there:∀b o,b∉ch->s.heap.get? b=some o->∃o',h'.get? b=some o')
 (acK:∀b xs,H b=some (.tup xs)->H' b=some (.tup xs))(acH:∀b o u,H b=some (.frz o u)->H' b=some (.frz o u))(acO:∀b ps,H b=some (.tbl ps)->∃more,H' b=some (.tbl (ps++more)))
 (ns:∀m,s.heap.Ns X.env.locals m->h'.Ns X.env.locals m)(hok:fX X.prog X.w H' h')(hg:AllBare g'):
 Inv X pins σ H' {s with heap:=h',gens:=g',drawn:=d',toks:=t'}:=by
 have QH:∀b o,X.s₀.heap.get? b=some o->b≠X.env.locals:=λb o e=>Yr (Ys (Ym e) I.ok.above)
 have MQ:∀b o,X.s₀.heap.get? b=some o->b∉X.ex->b∉ch:=λb o e hx hb=>by
  rcases(HH b hb).1 with z|z
  ·exact hx z
  ·exact absurd (Ys (Ym e) z) (Zh _)
 have cellK:∀x c,X.env.cells.lookup x=some c->∀v,s.heap.IsCell c v->h'.IsCell c v:=λx c e v ⟨o,ho,hd⟩=>by
  have JU:c∉ch:=λz=>(HH c z).2.2.1 x c e rfl
  by_cases hc:c∈X.fs
  ·obtain⟨sl,q⟩:=slot c o (I.cne x c e) hc JU ho (I.acI x c e);exact⟨_,q,hd⟩
  ·exact⟨o,keep c o (I.cne x c e) hc JU ho (I.acI x c e),hd⟩
 refine⟨I.ok,I.os,hg,⟨λb o e n hb hx=>?_,λb o e n hb hx=>?_,λb o e n hx=>?_,λb o e hx=>?_,λb xs e=>acK b xs (I.base.acK b xs e),λb o xs e=>acH b o xs (I.base.acH b o xs e),λb ps e=>?_⟩,?_,λx c e=>?_,?_,λx c e=>?_,λp hp=>?_,hok,I.len⟩
 ·exact keep b o (QH b o e) hb (MQ b o e hx) (I.base.keep b o e n hb hx) (I.base.free b o e n hx)
 ·obtain⟨sl,e1⟩:=I.base.slot b o e n hb hx;obtain⟨HI,e2⟩:=slot b _ (QH b o e) hb (MQ b o e hx) e1 (I.base.free b o e n hx);exact⟨HI,e2⟩
 ·obtain⟨o',e1⟩:=I.base.there b o e hx;exact free b o' (MQ b o e hx) e1 (I.base.free b o e n hx)
 ·obtain⟨o',e1⟩:=I.base.there b o e hx;exact there b o' (MQ b o e hx) e1
 ·obtain⟨m1,e1⟩:=I.base.acO b ps e;obtain⟨m2,e2⟩:=acO b _ e1;exact⟨m1++m2,by rw[e2,EW]⟩
 ·obtain⟨m,hn,hl⟩:=I.loc;refine⟨m,ns m hn,λi x v e1 e2 e3=>?_⟩;obtain⟨u,r,l⟩:=hl i x v e1 e2 e3;refine⟨u,r,?_⟩
  rcases l with l|⟨k,c,e,z⟩
  ·exact .inl l
  ·exact .inr ⟨k,c,e,cellK x c e _ z⟩
 ·obtain⟨v,z⟩:=I.cell x c e;exact⟨v,cellK x c e v z⟩
 ·obtain⟨m,⟨o,_,_,ho,_⟩,_⟩:=I.loc;exact free _ o (λz=>(HH _ z).2.1 rfl) ho I.free
 ·obtain⟨v,o,ho,hd⟩:=I.cell x c e;exact free c o (λz=>(HH c z).2.2.1 x c e rfl) ho (I.acI x c e)
 ·obtain⟨e,n,ne,nf,d⟩:=I.pin p hp;have JU:p.1∉ch:=λz=>(HH p.1 z).2.2.2 p hp rfl;exact⟨keep p.1 p.2 ne nf JU e n,free p.1 p.2 JU e n,ne,nf,d⟩
theorem Inv.un {t':Nat}(I:Inv X pins σ H s)(u:Un X.fs [] H H' s.heap h')(hok:fX X.prog X.w H' h'):Inv X pins σ H' {s with heap:=h',toks:=t'}:=by
 obtain⟨m,⟨o,es,ep,ho,r⟩,_⟩:=id I.loc;obtain⟨sl,hL⟩:=u.any ho I.free (by simp)
 exact I.step (g':=s.gens) (d':=s.drawn) (ch:=[]) (λ_ z=>nomatch z) (λb o _ hb _ e n=>u.keep b o e n hb (by simp)) (λb o _ hb _ e n=>u.slot b o e n hb (by simp)) (λb o _ e n=>u.free b o e n (by simp)) (λb o _ e=>u.there b o e (by simp)) u.acK u.acH u.acO (λm' hm=>by
  obtain⟨o',es',IL,F0,r'⟩:=hm;rw[ho] at F0;cases F0
  exact⟨_,es',IL,hL,r'⟩) hok I.bare
theorem Inv.call {g':Array GenState}{t':Nat}{d':Drawn}{ch:List Addr}(I:Inv X pins σ H s)(u:Un (eZ X.stack) ch H H' s.heap h')(hok:fX X.prog X.w H' h')(hg:AllBare g')
 (HH:∀b∈ch,(b∈X.ex\/X.s₀.heap.objs.size<=b)/\b≠X.env.locals/\(∀x c,X.env.cells.lookup x=some c->c≠b)/\∀p∈X.pn++pins,p.1≠b):
 Inv X pins σ H' {s with heap:=h',gens:=g',drawn:=d',toks:=t'}:=by
 obtain⟨m,⟨o,es,ep,ho,r⟩,_⟩:=id I.loc;obtain⟨sl,hL⟩:=u.any ho I.free λz=>(HH _ z).2.1 rfl
 exact I.step (ch:=ch) HH (λb o hL hb hc e n=>u.keep b o e n (λz=>(Yn.mp (I.acR b z)).elim hL hb) hc) (λb o _ _ hc e n=>u.any e n hc) (λb o hc e n=>u.free b o e n hc) (λb o hc e=>u.there b o e hc) u.acK u.acH u.acO (λm' hm=>by
  obtain⟨o',es',IL,F0,r'⟩:=hm;rw[ho] at F0;cases F0
  exact⟨_,es',IL,hL,r'⟩) hok hg
theorem Inv.turned {t':Nat}{it:Addr}(I:Inv X pins σ H s)(k:∀b o,b≠it->s.heap.get? b=some o->h'.get? b=some o)(hn:H it=none)(hL:it≠X.env.locals)
 (h1:it∈X.ex\/X.s₀.heap.objs.size<=it)(h2:∀x c,X.env.cells.lookup x=some c->c≠it)(h3:∀p∈X.pn++pins,p.1≠it):Inv X pins σ H {s with heap:=h',toks:=t'}:=by
 have Ie:∀b u,H b=some u->b≠it:=λb u e z=>by rw[z,hn] at e;cases e
 refine I.step (g':=s.gens) (d':=s.drawn) (ch:=[it]) (λb hb=>?_) (λb o _ _ hc e _=>k b o (λz=>hc (by simp[z])) e) (λb o _ _ hc e _=>⟨o.slots,k b o (λz=>hc (by simp[z])) e⟩) (λ_ _ _ _ n=>n)
  (λb o hc e=>⟨o,k b o (λz=>hc (by simp[z])) e⟩) (λ_ _ e=>e) (λ_ _ _ e=>e) (λb ps e=>⟨#[],by rw[e];simp⟩) (λm hm=>?_) (λb u e=>?_) I.bare
 ·have e:b=it:=by simpa using hb
  subst e;exact⟨h1,hL,h2,h3⟩
 ·obtain⟨o,es,ep,ho,r⟩:=hm;exact⟨o,es,ep,k _ o (YM hL) ho,r⟩
 ·refine(I.hok b u e).adk (λc v hc q=>k c v ?_ q) (λ_ q=>q) λ_ _ q=>q
  rcases hc with z|z
  ·rw[z];exact Ie b u e
  ·exact Ie c _ z
theorem Inv.tok (I:Inv X pins σ H s)(t:Nat):Inv X pins σ H {s with toks:=t}:=I.un (h':=s.heap) (t':=t) Un.refl I.hok
theorem Inv.kept {t':Nat}(I:Inv X pins σ H s)(k:∀b u,s.heap.get? b=some u->h'.get? b=some u):Inv X pins σ H {s with heap:=h',toks:=t'}:=I.un (Un.kept k) (I.hok.kept k)
theorem Inv.laid {a:Addr}{o:HO}{t':Nat}(I:Inv X pins σ H s)(k:∀b u,s.heap.get? b=some u->h'.get? b=some u)(hp:s.heap.objs.size<=a)(new:bD X.prog X.w (upd H a o) h' a o):
 Inv X pins σ (upd H a o) {s with heap:=h',toks:=t'}:=I.un (Un.laid k hp (I.hok.fresh hp)) (I.hok.laid k hp new)
theorem Inv.write {x e:Addr}{o:HO}{t':Nat}(I:Inv X pins σ H s)(mu:DO (H x))(he:e=x\/H e=some (.own x))(k:∀b u,b≠e->s.heap.get? b=some u->h'.get? b=some u)(JD:∃u,h'.get? e=some u)
 (new:bD X.prog X.w (upd H x o) h' x o):Inv X pins σ (upd H x o) {s with heap:=h',toks:=t'}:=I.un (Un.write mu he k JD) (I.hok.write mu he k JD new)
theorem Inv.acM {pins':List (Addr×Obj)}(I:Inv X pins σ H s)(h:∀p∈pins',s.heap.get? p.1=some p.2/\H p.1=none/\p.1≠X.env.locals/\p.1∉X.fs/\∀v,p.2.data≠.cell v):Inv X pins' σ H s :=
 ⟨I.ok,I.os,I.bare,I.base,I.loc,I.cell,I.free,I.acI,λp hp=>(YI.mp hp).elim (λz=>I.pin p (ZE _ z)) (h p),I.hok,I.len⟩
theorem pA (hN:N.Nodup){j:Nat}(a:N[i]?=some x)(b:N[j]?=some x):i=j:=by
 obtain⟨h1,e1⟩:=YO.mp a;obtain⟨h2,e2⟩:=YO.mp b;exact(List.getElem_inj hN).mp (e1.trans e2.symm)
theorem lH {E:pH}{v:V}{Q:Unit->Shared->Prop}(I:Inv X pins σ H s)(hN:X.N.Nodup)(hi:X.N[i]?=some x)(hx:DM X.env.scope x)(r:aG v u)
 (h:∀s',Inv X pins (σ.set i (some v)) H s'->(∃a,Heap.SameBut a s.heap s'.heap/\(a=X.env.locals\/X.env.cells.lookup x=some a))->Q () s')(hf:X.fn x=true\/X.env.scope.names.lookup x=some .local:=by first|exact .inl rfl|exact .inr rfl|assumption):wpAny M A (storeName X.env x u) Q E s:=by
 obtain⟨m,hn,hl⟩:=id I.loc
 have Nz:(X.env.scope.kind == .class || (X.env.scope.kind == .module&&X.env.locals != X.env.globals))=false:=by rw[I.ok.kind];rfl
 have QI:i<σ.length:=by rw[I.len];exact(YO.mp hi).1
 have cne:=I.cne
 have tracked:∀{a:Addr}{h':Heap},(∃o,s.heap.get? a=some o/\H a=none)->Heap.SameBut a s.heap h'->fX X.prog X.w H h':=λ{a h'} ha hs b ob e=>by
  obtain⟨_,_,Gm⟩:=ha;refine(I.hok b ob e).adk (λc w' hc q=>(hs.2 c ?_).trans q) (λ_ q=>q) λ_ _ q=>q;rintro rfl
  rcases hc with rfl|hc
  ·rw[Gm] at e;cases e
  ·rw[Gm] at hc;cases hc
 rcases hx with hk|hk
 ·refine wpAny_storeName_local hk hn (λh' JV hs=>?_) Nz;obtain⟨oL,_,_,SA,_⟩:=id hn;refine h _ ⟨I.ok,I.os,I.bare,⟨λb o e n hb hx=>?_,λb o e n hb hx=>?_,I.base.free,λb o e hx=>?_,I.base.acK,I.base.acH,I.base.acO⟩,⟨_,JV,λj y v' e1 e2 e3=>?_⟩,λy c e=>?_,I.free,I.acI,λp hp=>?_,tracked ⟨oL,SA,I.free⟩ hs,by simpa using I.len⟩ ⟨_,hs,.inl rfl⟩
  ·exact(hs.2 b (Yr (Ys (Ym e) I.ok.above))).trans (I.base.keep b o e n hb hx)
  ·obtain⟨sl,e1⟩:=I.base.slot b o e n hb hx;exact⟨sl,(hs.2 b (Yr (Ys (Ym e) I.ok.above))).trans e1⟩
  ·obtain⟨o',e1⟩:=I.base.there b o e hx;exact⟨o',(hs.2 b (Yr (Ys (Ym e) I.ok.above))).trans e1⟩
  ·by_cases hj:j=i
   ·subst hj;rw[hi] at e1;cases e1;rw[List.getElem?_set_self QI] at e2
    cases e2
    exact⟨u,r,.inl ⟨hk,by simp⟩⟩
   ·rw[List.getElem?_set_ne (YM hj)] at e2;obtain⟨u',r',q⟩:=hl j y v' e1 e2 e3;refine⟨u',r',?_⟩
    rcases q with⟨k,e⟩|⟨k,c,e,z⟩
    ·refine .inl ⟨k,?_⟩;have:y≠x:=λe=>hj (pA hN e1 (e▸hi));simp[this,e]
    ·exact .inr ⟨k,c,e,z.sameBut hs (cne y c e)⟩
  ·obtain⟨w',z⟩:=I.cell y c e;exact⟨w',z.sameBut hs (cne y c e)⟩
  ·obtain⟨e,n,ne,nf,d⟩:=I.pin p hp;exact⟨(hs.2 p.1 ne).trans e,n,ne,nf,d⟩
 ·have NA:X.fn x=true:=by
   rcases hf with z|z
   ·exact z
   ·rw[z] at hk;cases hk
  obtain⟨c,hc⟩:=I.ok.has x (.inl hk);obtain⟨w',z⟩:=I.cell x c hc;refine wpAny_storeName_cell I.ok.kind hk hc z (λh' FU hs=>?_);obtain⟨oc,QJ,NB⟩:=id z;refine h {s with heap:=h'} ⟨I.ok,I.os,I.bare,⟨λb o e n hb hx=>?_,λb o e n hb hx=>?_,I.base.free,λb o e hx=>?_,I.base.acK,I.base.acH,I.base.acO⟩,⟨m,hn.sameBut hs (YM (cne x c hc)),λj y v' e1 e2 e3=>?_⟩,λy c' e=>?_,I.free,I.acI,λp hp=>?_,tracked ⟨oc,QJ,I.acI x c hc⟩ hs,by simpa using I.len⟩ ⟨c,hs,.inr hc⟩
  ·exact(hs.2 b (Yr (Ys (Ym e) (I.ok.cab x c NA hc)))).trans (I.base.keep b o e n hb hx)
  ·obtain⟨sl,e1⟩:=I.base.slot b o e n hb hx;exact⟨sl,(hs.2 b (Yr (Ys (Ym e) (I.ok.cab x c NA hc)))).trans e1⟩
  ·obtain⟨o',e1⟩:=I.base.there b o e hx;exact⟨o',(hs.2 b (Yr (Ys (Ym e) (I.ok.cab x c NA hc)))).trans e1⟩
  ·by_cases hj:j=i
   ·subst hj;rw[hi] at e1;cases e1;rw[List.getElem?_set_self QI] at e2
    cases e2
    exact⟨u,r,.inr ⟨.inl hk,c,hc,FU⟩⟩
   ·rw[List.getElem?_set_ne (YM hj)] at e2;obtain⟨u',r',q⟩:=hl j y v' e1 e2 e3;refine⟨u',r',?_⟩
    rcases q with q|⟨k,c',e,z'⟩
    ·exact .inl q
    ·refine .inr ⟨k,c',e,z'.sameBut hs ?_⟩;rintro rfl;exact hj (pA hN e1 (I.ok.inj _ _ _ e hc▸hi))
  ·by_cases QK:c'=c
   ·subst QK;exact⟨_,FU⟩
   ·obtain⟨w2,z2⟩:=I.cell y c' e;exact⟨w2,z2.sameBut hs QK⟩
  ·obtain⟨e,n,ne,nf,d⟩:=I.pin p hp;refine⟨(hs.2 p.1 ?_).trans e,n,ne,nf,d⟩;intro q;rw[q,QJ] at e;have q':oc=p.2:=Option.some.inj e;exact d w' (by rw[<-q'];exact NB)
theorem iA {E:pH}{v:V}{Q:Unit->Shared->Prop}(I:Inv X pins σ H s)(hN:X.N.Nodup)(hi:X.N[i]?=some x)(hx:DM X.env.scope x)(r:aG v u)
 (h:∀s',Inv X pins (σ.set i (some v)) H s'->Q () s')(hf:X.fn x=true\/X.env.scope.names.lookup x=some .local:=by first|exact .inl rfl|exact .inr rfl|assumption):wpAny M A (storeName X.env x u) Q E s :=
 lH I hN hi hx r (λs' I' _=>h s' I') hf
theorem Inv.ae4 {s':Bi}{ch:List Addr}(I:Inv X pins σ H s)(ho:s'.os=s.os)(u:Un (eZ X.stack) ch H H' s.heap s'.heap)(hok:fX X.prog X.w H' s'.heap)(hg:AllBare s'.gens)
 (HH:∀b∈ch,(b∈X.ex\/X.s₀.heap.objs.size<=b)/\b≠X.env.locals/\(∀x c,X.env.cells.lookup x=some c->c≠b)/\∀p∈X.pn++pins,p.1≠b):Inv X pins σ H' s':=by
 obtain⟨h',g',d',t',o'⟩:=s';have e:o'=s.os:=ho;subst e;exact I.call (g':=g') (t':=t') (d':=d') u hok hg HH
end
noncomputable abbrev XK:=Value->Option Addr->Hp->Prop
noncomputable abbrev St:=List (Option V)
noncomputable abbrev VK:=V->Hp->Prop
noncomputable abbrev TE:=St->Hp->VK->Prop
noncomputable abbrev TT:=St->Hp->(Bool->Hp->Prop)->Prop
noncomputable abbrev TA:=St->Hp->(List V->Hp->Prop)->Prop
structure Ends where
 nx:St->Hp->Prop
 rt:VK
 bk:St->Hp->Prop:=λ_ _=>False
 ct:St->Hp->Prop:=λ_ _=>False
noncomputable abbrev TS:=Ends->St->Hp->Prop
noncomputable def EP (X:Cx)(pins:List (Addr×Obj))(σ:St)(Q:VK)(u:Value)(s':Bi):Prop:=∃v H',Inv X pins σ H' s'/\aG v u/\Q v H'
noncomputable def TP (X:Cx)(pins:List (Addr×Obj))(σ:St)(Q:Bool->Hp->Prop)(b:Bool)(s':Bi):Prop:=∃H',Inv X pins σ H' s'/\Q b H'
noncomputable def AP (X:Cx)(pins:List (Addr×Obj))(σ:St)(Q:List V->Hp->Prop)(us:nN)(s':Bi):Prop:=∃vs H',Inv X pins σ H' s'/\aR vs us/\Q vs H'
noncomputable def SP (X:Cx)(pins:List (Addr×Obj))(D:Ends)(f:Flow)(s':Bi):Prop :=
 match f with
 | .next=>∃σ' H',Inv X pins σ' H' s'/\D.nx σ' H'
 | .brk=>∃σ' H',Inv X pins σ' H' s'/\D.bk σ' H'
 | .cont=>∃σ' H',Inv X pins σ' H' s'/\D.ct σ' H'
 | .ret u=>∃v σ' H',Inv X pins σ' H' s'/\aG v u/\D.rt v H'
noncomputable def PE (X:Cx)(e:Expr)(t:TE):Prop :=
 ∀(pins:List (Addr×Obj))(s:Bi)(σ:St)(H:Hp)(Q:VK),Inv X pins σ H s->t σ H Q->wpAny (model X.prog X.w) X.A (eval e X.env) (EP X pins σ Q) X.xe s
noncomputable def PT (X:Cx)(e:Expr)(t:TT):Prop :=
 ∀(pins:List (Addr×Obj))(s:Bi)(σ:St)(H:Hp)(Q:Bool->Hp->Prop),Inv X pins σ H s->t σ H Q->wpAny (model X.prog X.w) X.A (isTrue e X.env (eval e X.env)) (TP X pins σ Q) X.xe s
noncomputable def PW (X:Cx)(e:Expr)(t:TT):Prop :=
 ∀(cg:Sem Value)(pins:List (Addr×Obj))(s:Bi)(σ:St)(H:Hp)(Q:Bool->Hp->Prop),Inv X pins σ H s->t σ H Q->wpAny (model X.prog X.w) X.A (isTrue e X.env cg) (TP X pins σ Q) X.xe s
variable {X:Cx}{e:Expr}
theorem PW.pt {t:TT}(h:PW X e t):PT X e t:=h _
noncomputable def PA (X:Cx)(es:wI)(t:TA):Prop :=
 ∀(pos:Pos)(pins:List (Addr×Obj))(s:Bi)(σ:St)(H:Hp)(Q:List V->Hp->Prop),Inv X pins σ H s->t σ H Q->wpAny (model X.prog X.w) X.A (spliced (backTo pos (starEach es X.env))) (AP X pins σ Q) X.xe s
noncomputable def PS (X:Cx)(st:Stmt)(t:TS):Prop :=
 ∀(pins:List (Addr×Obj))(s:Bi)(σ:St)(H:Hp)(D:Ends),Inv X pins σ H s->t D σ H->wpAny (model X.prog X.w) X.A (exec st X.env) (SP X pins D) X.xe s
noncomputable def oO (X:Cx)(st:List Stmt)(t:TS):Prop :=
 ∀(pins:List (Addr×Obj))(s:Bi)(σ:St)(H:Hp)(D:Ends),Inv X pins σ H s->t D σ H->wpAny (model X.prog X.w) X.A (execs st X.env) (SP X pins D) X.xe s
variable {s:Bi}
theorem bO {α:Type}{t:Sem α}{Q Q':α->Shared->Prop}{E:pH}(h:wpAny M A t Q E s)(hQ:∀a s,Q a s->Q' a s):wpAny M A t Q' E s:=YR h hQ λ_ _ x=>x
variable {pins:List (Addr×Obj)}{σ:St}{op:CmpOp}
section
variable {X:Cx}
noncomputable def cc (i:Nat):TE:=λσ H Q=>∃v,σ[i]?=some (some v)/\Q v H
noncomputable def tC (v:V):TE:=λ_ H Q=>Q v H
theorem acS {pos:Pos}(hN:X.N[i]?=some x)(hv:Ec X.env.scope x)(hd:(x==("__debug__":Str))=false:=by decide)(Gg:(x==("__classdict__":Str))=false:=by decide):PE X (.Name x pos) (cc i):=by
 intro pins s σ H Q I h;obtain⟨v,e,h⟩:=h;obtain⟨m,hn,hl⟩:=I.loc;obtain⟨u,r,l⟩:=hl i x v hN e hv;have fin:EP X pins σ Q u s:=⟨v,H,I,r,h⟩
 rcases l with⟨hk,hm⟩|⟨hk,c,hc,GO⟩
 ·exact wpAny_Name (wpAny_loadName_local I.ok.kind hk hn hm fin) hd
 ·rcases hk with hk|hk
  ·exact wpAny_Name (wpAny_loadName_cell I.ok.kind hk hc GO fin) hd
  ·exact wpAny_Name (wpAny_loadName_free I.ok.kind hk hc GO fin Gg) hd
theorem ak {i j pos}:PE X (.Constant (.int i) j pos) (tC (.int i)):=λ_ _ _ H _ I h=>wpAny_Constant_int ⟨.int i,H,I.tok _,⟨_,rfl⟩,h⟩
theorem eE {b j pos}:PE X (.Constant (.bool b) j pos) (tC (.bl b)):=λ_ _ _ H _ I h=>Constant_bool ⟨.bl b,H,I,rfl,h⟩
theorem rh {j pos}:PE X (.Constant .none j pos) (tC .non):=λ_ _ _ H _ I h=>Constant_none ⟨.non,H,I,rfl,h⟩
theorem gQ {x j pos}:PE X (.Constant (.str x) j pos) (tC (.str x)):=λ_ _ _ H _ I h=>Calls.Constant_str ⟨.str x,H,I.tok _,⟨_,rfl⟩,h⟩
noncomputable def Gl (X:Cx)(x:Str):Prop:=X.env.kindOf x=some .globalImplicit
theorem gs {E:pH}{pos:Pos}{Q:pH}(I:Inv X pins σ H s)(hg:Gl X x)(hm:X.mg x=some u)(h:Q u s)
 (hd:(x==("__debug__":Str))=false:=by decide):wpAny (model X.prog X.w) X.A (eval (.Name x pos) X.env) Q E s :=
 Calls.Name_function_global I.ok.kind hg (Calls.loadGlobal_global (by rw[I.ok.glob];exact I.mod.glob.keeps I.bk) hm h) hd
theorem eI {E:pH}{pos:Pos}{Q:pH}(I:Inv X pins σ H s)(hg:Gl X x)(hm:X.mg x=none)(hv:bootBuiltins x=some u)(h:Q u s)
 (hn:x ≠ "__name__":=by decide)(hd:(x==("__debug__":Str))=false:=by decide):wpAny (model X.prog X.w) X.A (eval (.Name x pos) X.env) Q E s:=by
 obtain⟨mb,h1,h2⟩:=I.mod.blt;exact Calls.Name_function_global I.ok.kind hg (Calls.loadGlobal_builtin (by rw[I.ok.glob];exact I.mod.glob.keeps I.bk) hm (by rw[I.ok.blt];exact h1.keeps I.bk) ((h2 x hn).trans hv) h) hd
theorem fB {v:V}{pos:Pos}(hg:Gl X x)(hm:X.mg x=some u)(r:aG v u)(hd:(x==("__debug__":Str))=false:=by decide):PE X (.Name x pos) (tC v):=
 λ_ _ _ H _ I h=>gs I hg hm ⟨v,H,I,r,h⟩ hd
theorem cC {v:V}{pos:Pos}(hg:Gl X x)(hm:X.mg x=none)(hv:bootBuiltins x=some u)(r:aG v u)(hn:x ≠ "__name__":=by decide)(hd:(x==("__debug__":Str))=false:=by decide):PE X (.Name x pos) (tC v):=
 λ_ _ _ H _ I h=>eI I hg hm hv ⟨v,H,I,r,h⟩ hn hd
variable {a b:Expr}{ta tb:TE}{pos:Pos}
noncomputable def PC (X:Cx)(op:CmpOp)(a b:Expr)(t:TE):Prop :=
 ∀(pins:List (Addr×Obj))(s:Bi)(σ:St)(H:Hp)(Q:VK),Inv X pins σ H s->t σ H Q →
  wpAny (model X.prog X.w) X.A (eval a X.env) (λv s₁=>wpAny (model X.prog X.w) X.A (eval b X.env) (λu s₂=>wpAny (model X.prog X.w) X.A (compareOp op v u) (EP X pins σ Q) X.xe s₂) X.xe s₁) X.xe s
noncomputable def tB (t:TE):TT:=λσ H Q=>t σ H λx H1=>∃c,x=.bl c/\Q c H1
theorem adX {t:TE}(h:PC X op a b t)(h1:behindInMarks op b=false:=by first|exact JW _ (by decide) (by decide)|rfl):PT X (.Compare a [op] [b] pos) (tB t):=by
 intro pins s σ H Q I hw;refine wpAny_isTrue_Compare1 (bO (h pins s σ H _ I hw) λv s1 h1=>bO h1 λu s2 h2=>bO h2 λc s3 z'=>?_) h1;obtain⟨x,H1,I1,r1,q1⟩:=z';obtain⟨d,rfl,q⟩:=q1
 cases r1
 exact Y9 ⟨H1,I1,q⟩
theorem bU {t:TE}(h:PE X e t)(he:∀cg,isTrue e X.env cg=(do let v <-cg;standAt e.pos;holding [v] (truthy v)):=by intro _;rfl):PT X e (tB t):=by
 intro pins s σ H Q I hw;refine isTrue_plain (bO (h pins s σ H _ I hw) λv s1 z'=>?_) (he _);obtain⟨x,H1,I1,r1,q1⟩:=z';obtain⟨d,rfl,q⟩:=q1
 cases r1
 exact Y9 ⟨H1,I1,q⟩
variable {tA MR:TT}{rest:wI}
noncomputable def Cls (t u:TT):TT:=λσ H Q=>t σ H λc H1=>if c=true then u σ H1 Q else Q false H1
noncomputable def acV (t u:TT):TT:=λσ H Q=>t σ H λc H1=>if c=true then Q true H1 else u σ H1 Q
noncomputable def acW (t:TT):TT:=λσ H Q=>t σ H λc H1=>Q (!c) H1
theorem acX (ha:PT X a tA):PW X (.BoolOp .And [a] pos) tA:=by
 intro wh pins s σ H Q I h;refine isTrue_and (bO (ha pins s σ H Q I h) λc s1 e=>?_)
 cases c with
 |true=>exact isTrue_and_nil e
 |false=>exact e
theorem dD (ha:PT X a tA):PW X (.BoolOp .Or [a] pos) tA:=by
 intro wh pins s σ H Q I h;refine isTrue_or (bO (ha pins s σ H Q I h) λc s1 e=>?_)
 cases c with
 |false=>exact isTrue_or_nil e
 |true=>exact e
theorem acE (ha:PT X a tA)(hb:PW X (.BoolOp .And (b::rest) pos) MR):PW X (.BoolOp .And (a::b::rest) pos) (Cls tA MR):=by
 intro wh pins s σ H Q I h;refine isTrue_and (bO (ha pins s σ H _ I h) λc s1 z'=>?_);obtain⟨H1,I1,q1⟩:=z'
 cases c with
 |true=>exact hb wh pins s1 σ H1 Q I1 q1
 |false=>exact⟨H1,I1,q1⟩
theorem dE (ha:PT X a tA)(hb:PW X (.BoolOp .Or (b::rest) pos) MR):PW X (.BoolOp .Or (a::b::rest) pos) (acV tA MR):=by
 intro wh pins s σ H Q I h;refine isTrue_or (bO (ha pins s σ H _ I h) λc s1 z'=>?_);obtain⟨H1,I1,q1⟩:=z'
 cases c with
 |true=>exact⟨H1,I1,q1⟩
 |false=>exact hb wh pins s1 σ H1 Q I1 q1
theorem bN (ha:PT X a tA):PT X (.UnaryOp .Not a pos) (acW tA):=by
 intro pins s σ H Q I h;exact isTrue_not (ha pins s σ H (λc H1=>Q (!c) H1) I h)
noncomputable def AE (ta tb:TE):TE:=λσ H Q=>ta σ H λx H1=>∃c,x=.bl c/\if c=true then tb σ H1 Q else Q (.bl false) H1
noncomputable def acJ (ta:TE):TE:=λσ H Q=>ta σ H λx H1=>∃c,x=.bl c/\Q (.bl (!c)) H1
theorem eJ {op}{t:TE}(h:PE X a t):PE X (.BoolOp op [a] pos) t:=λpins s σ H Q I hw=>BoolOp_one (h pins s σ H Q I hw)
theorem dA (ha:PE X a ta)(hb:PE X (.BoolOp .And (b::rest) pos) tb):PE X (.BoolOp .And (a::b::rest) pos) (AE ta tb):=by
 intro pins s σ H Q I h;refine BoolOp_and (bO (ha pins s σ H _ I h) λv s1 z'=>?_);obtain⟨x,H1,I1,r1,q1⟩:=z';obtain⟨c,rfl,q1⟩:=q1
 cases r1
 refine Y9 ?_
 cases c with
 |true=>exact hb pins s1 σ H1 Q I1 q1
 |false=>exact⟨.bl false,H1,I1,rfl,q1⟩
theorem rB (ha:PE X a ta):PE X (.UnaryOp .Not a pos) (acJ ta):=by
 intro pins s σ H Q I h;refine UnaryOp_ (bO (ha pins s σ H _ I h) λv s1 z'=>?_);obtain⟨x,H1,I1,r1,q1⟩:=z';obtain⟨c,rfl,q1⟩:=q1
 cases r1
 exact not_of (Y9 ⟨.bl (!c),H1,I1,rfl,q1⟩)
end
noncomputable def bo (K:PySem.W.Frag)(H:Hp)(a:Addr)(xs:List V):Prop :=
 Rd H a (.lst xs) \/
  ∃(o:Obj)(its:Cu)(n:Nat),K.lookup a=some o/\o.cls=.type "list"/\o.dict=none/\o.data=.seq its n/\its.size<=sizeLine/\aR xs its.toList
noncomputable def aU (K:PySem.W.Frag)(H:Hp)(a:Addr)(xs:List V):Prop :=
 Rd H a (.tup xs) \/
  ∃(o:Obj)(its:Cu)(n:Nat),K.lookup a=some o/\o.cls=.type "tuple"/\o.data=.seq its n/\its.size<=sizeLine/\aR xs its.toList
noncomputable def adY:Value->Option V
 | .none=>some .non
 | .bool b=>some (.bl b)
 | .int i _=>some (.int i)
 | .str x _=>some (.str x)
 | .bytes b _=>some (.byt b)
 | .float b _=>some (.flt b)
 | .ref a=>some (.ref a)
 | .type n=>some (.ty n)
 |_=>none
theorem aG.abs {x:V}(r:aG x u):adY u=some x:=by
 cases x with
 |non=>cases r;rfl
 |bl _=>cases r;rfl
 |int _=>obtain⟨t,rfl⟩:=r;rfl
 |str _=>obtain⟨t,rfl⟩:=r;rfl
 |byt _=>obtain⟨t,rfl⟩:=r;rfl
 |flt _=>obtain⟨t,rfl⟩:=r;rfl
 |ref _=>cases r;rfl
 |ty _=>cases r;rfl
variable {y:V}
theorem aG.inj {x:V}(r:aG x u)(q:aG y u):x=y:=Option.some.inj (r.abs.symm.trans q.abs)
theorem aR.inj:∀{xs ys:List V}{us:nN},aR xs us->aR ys us->xs=ys
 |_,_,_,.nil,.nil=>rfl
 |_,_,_,.cons r t,.cons r' t'=>by rw[r.inj r',aR.inj t t']
variable {K:PySem.W.Frag}
section
variable {X:Cx}{pins:List (Addr×Obj)}{σ:St}{H:Hp}{s:Bi}{a:Addr}{xs ys:List V}
theorem bo.of (h:H a=some (.lst xs)):bo K H a xs:=.inl (.inl h)
theorem aU.of (h:H a=some (.tup xs)):aU K H a xs:=.inl (.inl h)
theorem Inv.list (I:Inv X pins σ H s)(h:bo X.K H a xs):∃its:List Value,aR xs its/\PlainL s.heap a its.toArray/\xs.length<=sizeLine:=by
 rcases h with h|⟨o,its,n,hk,hc,hd,hs,hz,r⟩
 ·obtain⟨z,its,n,r,e⟩:=h.ok I.hok;exact⟨its,r,⟨_,n,e,rfl,rfl,rfl⟩,z⟩
 ·refine⟨its.toList,r,⟨o,n,I.kIn a o hk,hc,hd,by simpa using hs⟩,?_⟩;have e:=r.length;simp only[Yz] at e;omega
theorem Inv.tuple (I:Inv X pins σ H s)(h:aU X.K H a xs):∃its:List Value,aR xs its/\IsTup s.heap a its.toArray/\xs.length<=sizeLine:=by
 rcases h with h|⟨o,its,n,hk,hc,hs,hz,r⟩
 ·obtain⟨z,its,r,p⟩:=h.ok I.hok;exact⟨its,r,p,z⟩
 ·refine⟨its.toList,r,⟨o,I.kIn a o hk,hc,n,by simpa using hs⟩,?_⟩;have e:=r.length;simp only[Yz] at e;omega
theorem Inv.ac4 (I:Inv X pins σ H s)(h:bo X.K H a xs)(h':bo X.K H a ys):xs=ys:=by
 obtain⟨its,r,⟨o,n,e,_,_,d⟩,_⟩:=I.list h;obtain⟨its',r',⟨o',n',e',_,_,d'⟩,_⟩:=I.list h';rw[e] at e';cases e';rw[d] at d'
 injection d' with d1 _
 have:its=its':=by simpa using Ze Array.toList d1
 subst this;exact r.inj r'
theorem Inv.acN (I:Inv X pins σ H s)(h:aU X.K H a xs)(h':aU X.K H a ys):xs=ys:=by
 obtain⟨its,r,⟨o,e,_,n,d⟩,_⟩:=I.tuple h;obtain⟨its',r',⟨o',e',_,n',d'⟩,_⟩:=I.tuple h';rw[e] at e';cases e';rw[d] at d'
 injection d' with d1 _
 have:its=its':=by simpa using Ze Array.toList d1
 subst this;exact r.inj r'
end
noncomputable abbrev Cx.ac8 (X:Cx)(E:pH):Cx:={X with xe:=E}
noncomputable abbrev Cx.nox (X:Cx):Cx:=X.ac8 λ_ _=>False
theorem Cx.Ok.ac8 (ok:X.Ok)(E:pH):(X.ac8 E).Ok :=
 ⟨ok.mod,ok.kind,ok.glob,ok.blt,ok.above,ok.inj,ok.has,ok.cab,ok.hd,ok.frames,ok.stk,ok.exf,ok.bs,ok.bsz,ok.adI,ok.ad1,ok.acP,ok.frf⟩
theorem Cx.Ok.acL {E:pH}(ok:(X.ac8 E).Ok):X.Ok :=
 ⟨ok.mod,ok.kind,ok.glob,ok.blt,ok.above,ok.inj,ok.has,ok.cab,ok.hd,ok.frames,ok.stk,ok.exf,ok.bs,ok.bsz,ok.adI,ok.ad1,ok.acP,ok.frf⟩
section
variable {X:Cx}{pins:List (Addr×Obj)}{σ:St}{H:Hp}{s:Bi}{E:pH}
theorem Inv.ac8 (I:Inv X pins σ H s)(E:pH):Inv (X.ac8 E) pins σ H s:=⟨I.ok.ac8 E,I.os,I.bare,I.base,I.loc,I.cell,I.free,I.acI,I.pin,I.hok,I.len⟩
theorem Inv.acL (I:Inv (X.ac8 E) pins σ H s):Inv X pins σ H s:=⟨I.ok.acL,I.os,I.bare,I.base,I.loc,I.cell,I.free,I.acI,I.pin,I.hok,I.len⟩
theorem SP.acL {D:Ends}{f:Flow}{s':Bi}(h:SP (X.ac8 E) pins D f s'):SP X pins D f s':=by
 cases f with
 |next=>obtain⟨σ',H',I,q⟩:=h;exact⟨σ',H',I.acL,q⟩
 |brk=>obtain⟨σ',H',I,q⟩:=h;exact⟨σ',H',I.acL,q⟩
 |cont=>obtain⟨σ',H',I,q⟩:=h;exact⟨σ',H',I.acL,q⟩
 |ret u=>obtain⟨v,σ',H',I,r,q⟩:=h;exact⟨v,σ',H',I.acL,r,q⟩
theorem oO.nox {st:List Stmt}{t:TS}(h:oO X.nox st t):oO X st t:=λpins s σ H D I hw =>
 YR (h pins s σ H D (I.ac8 _) hw) (λ_ _ q=>q.acL) λ_ _ z=>False.elim z
end
section
variable {X:Cx}{st:Stmt}{rest:List Stmt}{t u:TS}{e:Expr}{te:TE}{pos:Pos}
noncomputable def vL:TS:=λD σ H=>D.nx σ H
noncomputable def qT (t u:TS):TS:=λD σ H=>t {D with nx:=u D} σ H
theorem aS:oO X [] vL:=λ_ _ σ H _ I h=>Ek ⟨σ,H,I,h⟩
theorem au (h1:PS X st t)(h2:oO X rest u):oO X (st::rest) (qT t u):=by
 intro pins s σ H D I h;refine wpAny_execs_cons (bO (h1 pins s σ H {D with nx:=u D} I h) λf s1 q=>?_)
 cases f with
 |next =>
  obtain⟨σ',H',I',q⟩:=q;exact h2 pins s1 σ' H' D I' q
 |ret v=>exact q
 |brk=>exact q
 |cont=>exact q
theorem ax (h1:PS X st t):oO X [st] t:=by
 intro pins s σ H D I h;refine wpAny_execs_cons (bO (h1 pins s σ H D I h) λf s1 q=>?_)
 cases f with
 |next=>exact Ek q
 |ret v=>exact q
 |brk=>exact q
 |cont=>exact q
theorem Inv.quiet (I:Inv X pins σ H s):interactive X.env=false:=by simp[interactive,I.ok.kind]
noncomputable def ac1 (te:TE):TS:=λD σ H=>te σ H λ_ H1=>D.nx σ H1
theorem Gth (he:PE X e te)(hs:swapsWith e none pos.line X.env=pure false:=by rfl):PS X (.Expr e pos) (ac1 te):=by
 intro pins s σ H D I h;exact wpAny_Expr_any (bO (he pins s σ H _ I h) λv s1 ⟨x,H1,I1,r1,q1⟩=>⟨σ,H1,I1,q1⟩) I.quiet hs
noncomputable def Dz (te:TE):TS:=λD σ H=>te σ H D.rt
theorem aF (he:PE X e te):PS X (.Return (some e) pos) (Dz te):=by
 intro pins s σ H D I h;exact wpAny_Return_some (bO (he pins s σ H _ I h) λv s1 ⟨x,H1,I1,r1,q1⟩=>⟨x,σ,H1,I1,r1,q1⟩)
noncomputable def Aw (c:TT)(t u:TS):TS:=λD σ H=>c σ H λb H1=>if b=true then t D σ H1 else u D σ H1
theorem bF {c:Expr}{a b:List Stmt}{tc:TT}(hc:PT X c tc)(ha:oO X a t)(hb:oO X b u):PS X (.If c a b pos) (Aw tc t u):=by
 intro pins s σ H D I h;refine wpAny_If (bO (hc pins s σ H _ I h) λd s1 z'=>?_);obtain⟨H1,I1,q1⟩:=z'
 cases d with
 |true=>exact ha pins s1 σ H1 D I1 q1
 |false=>exact hb pins s1 σ H1 D I1 q1
noncomputable def qt:TS:=λ_ _ _=>False
theorem oP:PS X st qt:=λ_ _ _ _ _ _ h=>h.elim
theorem adZ {SD:List Stmt}:oO X SD qt:=λ_ _ _ _ _ _ h=>h.elim
end
noncomputable abbrev TG:=V->St->Hp->(St->Hp->Prop)->Prop
noncomputable abbrev yX:=List V->St->Hp->(St->Hp->Prop)->Prop
noncomputable def PG (X:Cx)(target:Expr)(t:TG):Prop :=
 ∀(pins:List (Addr×Obj))(s:Bi)(σ:St)(H:Hp)(v:V)(u:Value)(Q:St->Hp->Prop),Inv X pins σ H s->aG v u->t v σ H Q →
  wpAny (model X.prog X.w) X.A (assign target X.env u) (λ_ s'=>∃σ' H',Inv X pins σ' H' s'/\Q σ' H') X.xe s
noncomputable def Ed (X:Cx)(ts:wI)(t:yX):Prop :=
 ∀(pins:List (Addr×Obj))(s:Bi)(σ:St)(H:Hp)(vs:List V)(us:nN)(Q:St->Hp->Prop),Inv X pins σ H s->aR vs us->t vs σ H Q →
  wpAny (model X.prog X.w) X.A (assignInOrder ((assignEach ts X.env).map (·.2)) us) (λ_ s'=>∃σ' H',Inv X pins σ' H' s'/\Q σ' H') X.xe s
noncomputable abbrev Bh:=V->V->V->Hp->(Hp->Prop)->Prop
noncomputable def D1 (X:Cx)(t:Bh):Prop :=
 ∀(pins:List (Addr×Obj))(s:Bi)(σ:St)(H:Hp)(o i v:V)(ov iv u:Value)(Q:Hp->Prop),Inv X pins σ H s->aG o ov->aG i iv->aG v u->t o i v H Q →
  wpAny (model X.prog X.w) X.A (setItem ov iv u) (λ_ s'=>∃H',Inv X pins σ H' s'/\Q H') X.xe s
variable {k:Nat}{g:TG}{body:List Stmt}{tb:TS}
section
variable {X:Cx}{pos:Pos}
noncomputable def bw (i:Nat):TG:=λv σ H Q=>Q (σ.set i (some v)) H
theorem aD {i:Nat}(hN:X.N.Nodup)(hi:X.N[i]?=some x)(hx:DM X.env.scope x)(hf:X.fn x=true\/X.env.scope.names.lookup x=some .local:=by first|exact .inl rfl|exact .inr rfl|assumption):PG X (.Name x pos) (bw i):=by
 intro pins s σ H v u Q I r h;exact wpAny_assign_Name (iA I hN hi hx r (λs' I'=>⟨_,H,I',h⟩) hf)
noncomputable def qx:yX:=λvs σ H Q=>vs=[]/\Q σ H
noncomputable def cR (t:TG)(u:yX):yX:=λvs σ H Q=>∃v r,vs=v::r/\t v σ H λσ' H'=>u r σ' H' Q
theorem cp:Ed X [] qx:=by
 intro pins s σ H vs us Q I r h;obtain⟨e,h⟩:=h;subst e
 cases r
 exact assignInOrder_nil ⟨σ,H,I,h⟩
theorem aN {es:wI}{t:TG}{u:yX}(h1:PG X e t)(h2:Ed X es u)
 (hs:(assignEach (e::es) X.env).map (·.2)=assign e X.env::(assignEach es X.env).map (·.2):=by rfl):Ed X (e::es) (cR t u):=by
 intro pins s σ H vs us Q I r h;obtain⟨v,vr,e1,h⟩:=h;subst e1
 cases r with
 |cons r rr =>
  rw[hs];refine assignInOrder_cons (bO (h1 pins s σ H _ _ _ I r h) λ_ s1 z'=>?_);obtain⟨σ1,H1,I1,q1⟩:=z';exact h2 pins s1 σ1 H1 _ _ Q I1 rr q1
noncomputable def lu (K:PySem.W.Frag)(n:Nat)(t:yX):TG:=λv σ H Q=>∃a xs,v=.ref a/\aU K H a xs/\xs.length=n/\t xs σ H Q
theorem cY {es:wI}{t:yX}{n:Nat}(hc:X.calm=true)(h:Ed X es t)
 (hn:(assignEach es X.env).length=n:=by rfl)(JX:(assignEach es X.env).findIdx? (·.1)=none:=by rfl):PG X (.Tuple es k pos) (lu X.K n t):=by
 intro pins s σ H v u Q I r hw;obtain⟨a,xs,e1,hq,hl,hw⟩:=hw;subst e1
 cases r
 obtain⟨its,rv,ht,hz⟩:=I.tuple hq;refine assign_Tuple_tuple (I.ok.hd hc) ht (by simp[hn,<-hl,rv.length]) JX λh' hx=>?_;have I1:Inv X pins σ H {s with heap:=h'}:=I.kept (t':=s.toks) λb o e=>hx b o (Yr (Ym e)) e;exact h pins _ σ H xs _ Q I1 (by simpa using rv) hw
noncomputable def CXT (to ti:TE)(t:Bh):TG:=λv σ H Q=>to σ H λo H1=>ti σ H1 λi H2=>t o i v H2 λH3=>Q σ H3
theorem qA {o i:Expr}{to ti:TE}{t:Bh}(ho:PE X o to)(hi:PE X i ti)(hs:D1 X t)
 (ha:∀v,assign (.Subscript o i pos) X.env v=(do
  let ov <-holding [v] (eval o X.env)
  let iv <-holding [v,ov] (eval i X.env)
  standAt pos
  holding [v,ov,iv] (setItem ov iv v)
  release [v,ov,iv] []):=by intro _;rfl):PG X (.Subscript o i pos) (CXT to ti t):=by
 intro pins s σ H v u Q I r h;rw[ha];refine X9 (YY (bO (ho pins s σ H _ I h) λov s1 z'=>?_));obtain⟨x,H1,I1,r1,q1⟩:=z';refine X9 (YY (bO (hi pins s1 σ H1 _ I1 q1) λiv s2 z'=>?_));obtain⟨y,H2,I2,r2,q2⟩:=z';refine X9 (v9 (X9 (YY (bO (hs pins s2 σ H2 x y v ov iv u _ I2 r1 r2 r q2) λ_ s3 z'=>?_))));obtain⟨H3,I3,q3⟩:=z';exact wpAny_release ⟨σ,H3,I3,q3⟩
noncomputable def ll (te:TE)(g:TG):TS:=λD σ H=>te σ H λx H1=>g x σ H1 D.nx
theorem kD {tg:Expr}{te:TE}(he:PE X e te)(hg:PG X tg g)(hs:swapsWithSole [tg] e pos.line X.env=pure false:=by rfl)(hw:swappedStores [tg] e X.env=pure none:=by rfl)
 (h1:(assignEach [tg] X.env).map (·.2)=[assign tg X.env]:=by rfl):PS X (.Assign [tg] e pos) (ll te g):=by
 intro pins s σ H D I h;refine wpAny_Assign_stores (bO (he pins s σ H _ I h) λv s1 z'=>?_) hs hw;obtain⟨x,H1,I1,r1,q1⟩:=z';rw[h1];exact bO (hg pins s1 σ H1 x v _ I1 r1 q1) λ_ s2 q=>q
theorem aX {i:Nat}{x:Str}{e:Expr}{te:TE}{pos':Pos}(hN:X.N.Nodup)(hi:X.N[i]?=some x)(hx:DM X.env.scope x)(he:PE X e te)(hs:swapsWith e (some (.Name x pos')) pos.line X.env=pure false:=by rfl)(hf:X.fn x=true\/X.env.scope.names.lookup x=some .local:=by first|exact .inl rfl|exact .inr rfl|assumption):
 PS X (.Assign [.Name x pos'] e pos) (ll te (bw i)):=by
 intro pins s σ H D I h;refine wpAny_Assign_Name (bO (he pins s σ H _ I h) λv s1 z'=>?_) hs;obtain⟨y,H1,I1,r1,q1⟩:=z';exact iA I1 hN hi hx r1 (λs2 I2=>⟨_,H1,I2,q1⟩) hf
noncomputable def TmX (i j:Nat)(ta:TA):TS:=λD σ H=>ta σ H λvs H1=>∃v w,vs=[v,w]/\D.nx ((σ.set i (some v)).set j (some w)) H1
theorem iX {i j:Nat}{y:Str}{a b:Expr}{ta:TA}{px py pt:Pos} {kt k2 NC}(hc:X.calm=true)(hN:X.N.Nodup)(hi:X.N[i]?=some x)(hj:X.N[j]?=some y)(GD:i≠j)
 (hx:X.env.scope.names.lookup x=some .local)(hy:X.env.scope.names.lookup y=some .local)(ha:PA X [a,b] ta)
 (hw:swappedStores [.Tuple [.Name x px,.Name y py] kt pt] (.Tuple [a,b] k2 NC) X.env=pure (some [x,y]))
 (hs:swapsWithSole [.Tuple [.Name x px,.Name y py] kt pt] (.Tuple [a,b] k2 NC) pos.line X.env=pure false:=by rfl):
 PS X (.Assign [.Tuple [.Name x px,.Name y py] kt pt] (.Tuple [a,b] k2 NC) pos) (TmX i j ta):=by
 intro pins s σ H D I h;rw[exec_Assign_arm];refine X9 (v9 ?_);rw[hs];refine X9 (Yb ?_);rw[Yd (by decide)];refine X9 (Tuple_ (bO (ha _ pins s σ H _ I h) λus s1 z'=>?_));obtain⟨vs,H1,I1,r1,q1⟩:=z';obtain⟨v,w,e1,q1⟩:=q1;subst e1
 obtain⟨u1,u2,rfl,rv,Gb⟩:∃u1 u2,us=[u1,u2]/\aG v u1/\aG w u2:=by
  cases r1 with
  |cons p q =>
   cases q with
   |cons p' q' =>
    cases q'
    exact⟨_,_,rfl,p,p'⟩
 refine YB ?_ hJ;have I2:Inv X pins σ H1 {s1 with heap:=s1.heap.push {cls:=.type "tuple",data:=.seq [u1,u2].toArray} }:=I1.kept (t':=s1.toks) λb o e=>Yc _ e;rw[hw];refine X9 (Yb ?_);show wpAny (model X.prog X.w) X.A (do rule "assign.swapped-stores";let items <-unpackItems (.ref s1.heap.objs.size) 2 none;assignInOrder [λv=>bindName X.env y v,λv=>bindName X.env x v] items.reverse;pure Flow.next) _ _ _;refine X9 (Fp (X9 (unpackItems_tuple (items:=#[u1,u2]) (I.ok.hd hc) (IsTup.new s1.heap _) λh' SE=>?_)));have I3:=I2.kept (h':=h') (t':=s1.toks) λb o e=>SE b o (Yr (Ym e)) e;show wpAny _ _ (assignInOrder [λv=>bindName X.env y v,λv=>bindName X.env x v] [u2,u1]>>=λ_=>pure Flow.next) _ _ _;refine X9 (assignInOrder_cons (wpAny_bindName (iA I3 hN hj (.inl hy) Gb (λs2 I4=>?_) (.inr hy))));refine assignInOrder_cons (wpAny_bindName (iA I4 hN hi (.inl hx) rv (λs3 I5=>assignInOrder_nil (Yb ?_)) (.inr hx)));rw[List.set_comm _ _ (YM GD)] at I5;exact⟨_,H1,I5,q1⟩
noncomputable def aal (c:TT)(tb:TS):TS:=λD σ H=>∃W:Nat->St->Hp->Prop,(∃m,W m σ H)/\∀m σ H,W m σ H →
 c σ H λb H1=>if b=true then ∃N:St->Hp->Prop,(∀σ' H',N σ' H'->∃m',m'<m/\W m' σ' H')/\tb {D with nx:=N,ct:=N,bk:=D.nx} σ H1 else D.nx σ H1
theorem jF {c:Expr}{tc:TT}(hp:PassesOwn (model X.prog X.w) X.A X.env X.xe)(hc:PT X c tc)(hb:oO X body tb):PS X (.While c body [] pos) (aal tc tb):=by
 intro pins s σ H D I h;obtain⟨W,⟨m0,w0⟩,turn⟩:=h;refine wpAny_While (codeAny_whileLoop (λn s'=>∃σ' H',Inv X pins σ' H' s'/\W n σ' H') ?_ m0 ⟨σ,H,I,w0⟩);rintro n s1 ⟨σ1,H1,I1,w1⟩;refine Ak hp (bO (hc pins s1 σ1 H1 _ I1 (turn n σ1 H1 w1)) λb s2 z'=>?_);obtain⟨H2,I2,q2⟩:=z'
 cases b with
 |true =>
  obtain⟨N,hN,q2⟩:=q2;rw[Yh rfl];refine Ak hp (bO (hb pins s2 σ1 H2 _ I2 q2) λf s3 q3=>?_)
  cases f with
  |next =>
   obtain⟨σ3,H3,I3,n3⟩:=q3;obtain⟨m',hm,w3⟩:=hN σ3 H3 n3;exact⟨m',hm,σ3,H3,I3,w3⟩
  |cont =>
   obtain⟨σ3,H3,I3,n3⟩:=q3;obtain⟨m',hm,w3⟩:=hN σ3 H3 n3;exact⟨m',hm,σ3,H3,I3,w3⟩
  |brk=>exact q3
  |ret v=>exact q3
 |false =>
  rw[Yd Yp];exact Ek ⟨σ1,H2,I2,q2⟩
end
structure It where
 go:Nat->Hp->Prop
 yld:Nat->Hp->V->Hp->Prop
 stop:Nat->Hp->Prop
noncomputable def c8 (X:Cx)(pins:List (Addr×Obj))(H:Hp)(b:Addr):Prop :=
 H b=none/\b≠X.env.locals/\b∉X.fs/\(b∈X.ex\/X.s₀.heap.objs.size<=b)/\(∀x c,X.env.cells.lookup x=some c->c≠b)/\∀p∈X.pn++pins,p.1≠b
variable {H':Hp}
theorem Inv.ada (I:Inv X pins σ H s)(hb:s.heap.objs.size<=b)(hn:H' b=none):c8 X pins H' b:=by
 refine⟨hn,Zz (Ys I.lt hb),I.ae3 hb,.inr (Yq I.sz hb),λx c e z=>?_,λp hp z=>?_⟩
 ·obtain⟨v,q⟩:=I.cell x c e;exact absurd (Ys q.lt (by rw[z];exact hb)) (Zh _)
 ·exact absurd (Ys (Ym (I.pin p hp).1) (by rw[z];exact hb)) (Zh _)
structure Turn (P:yo)(w:World)(K:PySem.W.Frag)(tg:Expr)(J:It)(fp:List Addr)(it:Addr)(tn:Nat->Heap->Prop):Prop where
 mem:it∈fp
 obj:∀i h,tn i h->∀b∈fp,∃o,h.get? b=some o/\∀v,o.data≠.cell v
 keep:∀i h h',tn i h->(∀b∈fp,∀o,h.get? b=some o->h'.get? b=some o)->tn i h'
 item:∀(X:Cx),X.prog=P->X.w=w->X.K=K->X.calm=true->∀(i:Nat)(pins:List (Addr×Obj))(s:Bi)(σ:St)(H:Hp)(E:pH),Inv X pins σ H s->(∀b∈fp,c8 X pins H b)->tn i s.heap->J.go i H →
  wpAny (model P w) X.A (pyNext (.ref it)) (λr s1=>∃u,r=some u /\
   wpAny (model P w) X.A (letOwnedTupleGo tg (.ref it) u) (λ_ s2=>∃x H',Inv X pins σ H' s2/\aG x u/\J.yld i H x H'/\tn (i+1) s2.heap/\∀b∈fp,H' b=none) E s1) E s
 done:∀(X:Cx),X.prog=P->X.w=w->X.K=K->X.calm=true->∀(i:Nat)(pins:List (Addr×Obj))(s:Bi)(σ:St)(H:Hp)(E:pH),Inv X pins σ H s->(∀b∈fp,c8 X pins H b)->tn i s.heap->J.stop i H →
  wpAny (model P w) X.A (pyNext (.ref it)) (λr s1=>r=none/\Inv X pins σ H s1) E s
 self:∀(A:Around)(i:Nat)(s:Bi)(Q:pH)(E:pH),tn i s.heap->Q (.ref it) s->wpAny (model P w) A (pyIter (.ref it)) Q E s
noncomputable abbrev TI:=St->Hp->(It->Hp->Prop)->Prop
noncomputable def Fc (X:Cx)(pins:List (Addr×Obj))(σ:St)(tg:Expr)(R:It->Hp->Prop)(MS:Value)(s2:Bi):Prop :=
 ∃(it:Addr)(fp:List Addr)(tn:Nat->Heap->Prop)(J:It)(H':Hp),MS=.ref it/\Inv X pins σ H' s2/\Turn X.prog X.w X.K tg J fp it tn/\tn 0 s2.heap/\(∀b∈fp,c8 X pins H' b)/\R J H'
noncomputable def PI (X:Cx)(tg iter:Expr)(wi:TI):Prop :=
 ∀(pins:List (Addr×Obj))(s:Bi)(σ:St)(H:Hp)(R:It->Hp->Prop),Inv X pins σ H s->wi σ H R →
  wpAny (model X.prog X.w) X.A (eval iter X.env) (λv s1=>wpAny (model X.prog X.w) X.A (pyIter v) (Fc X pins σ tg R) X.xe s1) X.xe s
theorem ub {E:pH}{s:Bi}{tg:Expr}{it:Addr}{o:Obj}{n:String}{vs:Cu}{Q:Unit->Shared->Prop}(ho:s.heap.get? it=some o)(hc:o.cls=.type n)(hd:o.data=.fields vs)
 (hn:["enumerate","zip","dict_itemiterator","dict_reverseitemiterator","odict_iterator","itertools.zip_longest","itertools.pairwise"].contains n=false)(hQ:Q () s):wpAny M A (letOwnedTupleGo tg (.ref it) u) Q E s:=by
 unfold letOwnedTupleGo
 cases tg <;> first
  |exact Yb hQ
  |(cases u <;> first
   |exact Yb hQ
   |(refine X9 (wpAny_load ho ?_)
     rw[hc,hd];show wpAny M A (if(["enumerate","zip","dict_itemiterator","dict_reverseitemiterator","odict_iterator","itertools.zip_longest","itertools.pairwise"].contains n&&vs[0]?==some (rawInt _))=true then _ else _) Q E s;rw[Yd (by intro h;rw[hn,ZF] at h;cases h)]
     exact Yb hQ))
noncomputable def yV (K:PySem.W.Frag)(a:Addr):It :=
 ⟨λi H=>∃xs x,bo K H a xs/\xs[i]?=some x,λi H x H'=>H'=H/\∀xs,bo K H a xs->xs[i]?=some x,λi H=>∃xs,bo K H a xs/\xs.length<=i⟩
noncomputable def C8 (K:PySem.W.Frag)(a:Addr):It :=
 ⟨λi H=>∃xs x,aU K H a xs/\xs[i]?=some x,λi H x H'=>H'=H/\∀xs,aU K H a xs->xs[i]?=some x,λi H=>∃xs,aU K H a xs/\xs.length<=i⟩
noncomputable def Cw (lo:Int)(n:Nat):It:=⟨λi _=>i<n,λi H x H'=>H'=H/\x=.int (lo+i),λi _=>n<=i⟩
theorem abE {tg:Expr}(a it:Addr):Turn P w K tg (yV K a) [it] it (λi h=>h.IsListIter it a i) where
 mem:=by simp
 obj:=λi h st b hb=>by
  have e:b=it:=by simpa using hb
  subst e;obtain⟨o,e,c,d⟩:=st;exact⟨o,e,λv z=>by rw[d] at z;cases z⟩
 keep:=λi h h' st k=>st.at λo e=>k it (by simp) o e
 item:=by
  intro X hP hw hK hc i pins s σ H E I hf st hg;subst hP hw hK;obtain⟨xs,x,hq,hx⟩:=hg;obtain⟨its,rv,p,hz⟩:=I.list hq;obtain⟨u,hu,ru⟩:=rv.get hx;obtain⟨f0,f1,f2,f3,f4,f5⟩:=hf it (by simp);refine qB st p.isList (x:=u) (by simpa using hu) λh' F8 sb=>?_;have I1:Inv X pins σ H {s with heap:=h'}:=I.turned (t':=s.toks) (λb o hb e=>(sb.2 b hb).trans e) f0 f1 f3 f4 f5;obtain⟨o,e,c,d⟩:=id F8;exact⟨u,rfl,ub (s:={s with heap:=h'}) e c d (by decide) ⟨x,H,I1,ru,⟨rfl,λys hy=>by rw[I.ac4 hy hq];exact hx⟩,F8,λb hb=>(hf b hb).1⟩⟩
 done:=by
  intro X hP hw hK hc i pins s σ H E I hf st hg;subst hP hw hK;obtain⟨xs,hq,hx⟩:=hg;obtain⟨its,rv,p,hz⟩:=I.list hq;obtain⟨f0,f1,f2,f3,f4,f5⟩:=hf it (by simp);have hl:=rv.length;exact Cy (I.ok.hd hc) st p.isList (by simp;omega) λh' eb=>⟨rfl,I.turned (t':=s.toks) (λb o hb e=>eb b o hb e) f0 f1 f3 f4 f5⟩
 self:=λ_ _ _ _ _ st h=>wpAny_pyIter_listiter st h
theorem ac9 {tg:Expr}(a it:Addr):Turn P w K tg (C8 K a) [it] it (λi h=>h.IsTupleIter it a i) where
 mem:=by simp
 obj:=λi h st b hb=>by
  have e:b=it:=by simpa using hb
  subst e;obtain⟨o,e,c,d⟩:=st;exact⟨o,e,λv z=>by rw[d] at z;cases z⟩
 keep:=λi h h' st k=>st.at λo e=>k it (by simp) o e
 item:=by
  intro X hP hw hK hc i pins s σ H E I hf st hg;subst hP hw hK;obtain⟨xs,x,hq,hx⟩:=hg;obtain⟨its,rv,p,hz⟩:=I.tuple hq;obtain⟨u,hu,ru⟩:=rv.get hx;obtain⟨f0,f1,f2,f3,f4,f5⟩:=hf it (by simp);refine wpAny_pyNext_tuple_item st (show s.heap.IsTuple a its.toArray from p) (x:=u) (by simpa using hu) λh' F8 sb=>?_;have I1:Inv X pins σ H {s with heap:=h'}:=I.turned (t':=s.toks) (λb o hb e=>(sb.2 b hb).trans e) f0 f1 f3 f4 f5;obtain⟨o,e,c,d⟩:=id F8;exact⟨u,rfl,ub (s:={s with heap:=h'}) e c d (by decide) ⟨x,H,I1,ru,⟨rfl,λys hy=>by rw[I.acN hy hq];exact hx⟩,F8,λb hb=>(hf b hb).1⟩⟩
 done:=by
  intro X hP hw hK hc i pins s σ H E I hf st hg;subst hP hw hK;obtain⟨xs,hq,hx⟩:=hg;obtain⟨its,rv,p,hz⟩:=I.tuple hq;obtain⟨f0,f1,f2,f3,f4,f5⟩:=hf it (by simp);have hl:=rv.length;exact wpAny_pyNext_tuple_end (I.ok.hd hc) st (show s.heap.IsTuple a its.toArray from p) (by simp;omega) λh' eb=>⟨rfl,I.turned (t':=s.toks) (λb o hb e=>eb b o hb e) f0 f1 f3 f4 f5⟩
 self:=λ_ _ _ _ _ st h=>wpAny_pyIter_tupleiter st h
theorem adb {tg:Expr}(it:Addr)(lo:Int)(n:Nat):Turn P w K tg (Cw lo n) [it] it (λi h=>IsRangeIter h it (lo+(i:Nat)*1) ((n:Int)-(i:Nat)) 1) where
 mem:=by simp
 obj:=λi h st b hb=>by
  have e:b=it:=by simpa using hb
  subst e
  exact⟨_,st,λv z=>by
   have z':Data.fields _=Data.cell v:=z
   cases z'⟩
 keep:=λi h h' st k=>k it (by simp) _ st
 item:=by
  intro X hP hw hK hc i pins s σ H E I hf st hg;subst hP hw hK;obtain⟨f0,f1,f2,f3,f4,f5⟩:=hf it (by simp);have W:=Walks.range (prog:=X.prog) (w:=X.w) (I.ok.hd hc) it lo 1 n;refine W.item i s _ _ hg st λv h' tk hv F8 kk=>?_;obtain⟨t,rfl⟩:=hv;have I1:Inv X pins σ H {s with heap:=h',toks:=tk}:=I.turned (λb o hb e=>kk b o (by simpa using hb) e) f0 f1 f3 f4 f5;refine⟨_,rfl,ub (s:={s with heap:=h',toks:=tk}) (n:="range_iterator") F8 rfl rfl (by decide) ⟨.int (lo+i),H,I1,⟨t,?_⟩,⟨rfl,rfl⟩,F8,λb hb=>(hf b hb).1⟩⟩;rw[Int.mul_one]
 done:=by
  intro X hP hw hK hc i pins s σ H E I hf st hg;subst hP hw hK;obtain⟨f0,f1,f2,f3,f4,f5⟩:=hf it (by simp);exact wpAny_pyNext_range_end (I.ok.hd hc) st (by have:n<=i:=hg;omega) λh' eb=>⟨rfl,I.turned (t':=s.toks) (λb o hb e=>eb b o hb e) f0 f1 f3 f4 f5⟩
 self:=λ_ _ _ _ _ st h=>wpAny_pyIter_rangeiter st h
variable {pos:Pos}{fp:List Addr}
section
variable {X:Cx}{tg:Expr}
noncomputable def AL (K:PySem.W.Frag)(tl:TE):TI:=λσ H R=>tl σ H λx H1=>∃a,x=.ref a/\(∃xs,bo K H1 a xs)/\R (yV K a) H1
noncomputable def Bp (K:PySem.W.Frag)(tl:TE):TI:=λσ H R=>tl σ H λx H1=>∃a,x=.ref a/\(∃xs,aU K H1 a xs)/\R (C8 K a) H1
theorem dN {l:Expr}{tl:TE}(hl:PE X l tl):PI X tg l (AL X.K tl):=by
 intro pins s σ H R I h;refine bO (hl pins s σ H _ I h) λv s1 z'=>?_;obtain⟨x,H1,I1,r1,q1⟩:=z';obtain⟨a,e,⟨xs,hq⟩,q⟩:=q1;subst e
 cases r1
 obtain⟨its,rv,p,hz⟩:=I1.list hq;refine Be p.isList ?_;refine⟨s1.heap.objs.size,[s1.heap.objs.size],_,_,H1,rfl,I1.kept (t':=s1.toks) λb o e=>Yc _ e,abE a _,⟨_,Yk _ rfl,rfl,rfl⟩,λb hb=>?_,q⟩
 have e:b=s1.heap.objs.size:=by simpa using hb
 subst e;exact I1.ada (Ye _) (I1.hok.fresh (Ye _))
theorem dy {l:Expr}{tl:TE}(hl:PE X l tl):PI X tg l (Bp X.K tl):=by
 intro pins s σ H R I h;refine bO (hl pins s σ H _ I h) λv s1 z'=>?_;obtain⟨x,H1,I1,r1,q1⟩:=z';obtain⟨a,e,⟨xs,hq⟩,q⟩:=q1;subst e
 cases r1
 obtain⟨its,rv,p,hz⟩:=I1.tuple hq;refine lr (show s1.heap.IsTuple a its.toArray from p) ?_;refine⟨s1.heap.objs.size,[s1.heap.objs.size],_,_,H1,rfl,I1.kept (t':=s1.toks) λb o e=>Yc _ e,ac9 a _,⟨_,Yk _ rfl,rfl,rfl⟩,λb hb=>?_,q⟩
 have e:b=s1.heap.objs.size:=by simpa using hb
 subst e;exact I1.ada (Ye _) (I1.hok.fresh (Ye _))
theorem ad0 {R:It->Hp->Prop}{E:pH}{lo hi:Int}{t u v:Tok}{tk:Nat}(I:Inv X pins σ H s)(h1:-(2^62)<=lo)(h2:lo<2^62)(h3:-(2^62)<=hi)(h4:hi<2^62)
 (q:R (Cw lo (hi-lo).toNat) H):wpAny (model X.prog X.w) X.A (pyIter (.ref s.heap.objs.size)) (Fc X pins σ tg R) E {s with heap:=s.heap.push {cls:=.type "range",data:=.fields #[.int lo t,.int hi u,.int 1 v]},toks:=tk}:=by
 refine wpAny_pyIter_range (IsRange.new ..) (small_one h1 h2 h3 h4) ?_;have I1:Inv X pins σ H {s with heap:=s.heap.push {cls:=.type "range",data:=.fields #[.int lo t,.int hi u,.int 1 v]},toks:=tk}:=I.kept λb o e=>Yc _ e
 refine⟨(s.heap.push {cls:=.type "range",data:=.fields #[.int lo t,.int hi u,.int 1 v]}).objs.size,[(s.heap.push {cls:=.type "range",data:=.fields #[.int lo t,.int hi u,.int 1 v]}).objs.size],_,_,H,rfl,
  I1.kept (t':=tk) λb o e=>Yc _ e,adb _ lo (hi-lo).toNat,?_,λb hb=>?_,q⟩
 ·have e1:lo+((0:Nat):Int)*1=lo:=by simp
  have e2:(((hi-lo).toNat:Nat):Int)-((0:Nat):Int)=Builtin.Range.rangeSize lo hi 1:=by rw[rangeSize_one];split <;> omega
  show IsRangeIter _ _ (lo+((0:Nat):Int)*1) ((((hi-lo).toNat:Nat):Int)-((0:Nat):Int)) 1;rw[e1,e2];exact Yk _ rfl
 ·have e:b=(s.heap.push {cls:=.type "range",data:=.fields #[.int lo t,.int hi u,.int 1 v]}).objs.size:=by simpa using hb
  subst e;exact I1.ada (Ye _) (I1.hok.fresh (Ye _))
noncomputable def AU (ta:TA):TI:=λσ H R=>ta σ H λvs H1=>∃j:Int,vs=[.int j]/\-(2^62)<=j/\j<2^62/\R (Cw 0 j.toNat) H1
theorem dR {a:Expr}{ta:TA}{p:Pos}(hg:Gl X "range")(hm:X.mg "range"=none)(ha:PA X [a] ta)(hs:starEach [a] X.env=[(false,eval a X.env)]:=by rfl):PI X tg (.Call (.Name "range" p) [a] [] pos) (AU ta):=by
 intro pins s σ H R I h;refine Call_ (eI I hg hm boot_range (Z8 (bO (ha pos pins s σ H _ I h) λus s1 z'=>?_) hs rfl));obtain⟨vs,H1,I1,r1,q1⟩:=z';obtain⟨j,e,q1,q2,q⟩:=q1;subst e
 cases r1 with
 |cons r rr =>
  cases rr
  obtain⟨t,rfl⟩:=r;exact call_range_1 (ad0 I1 (by omega) (by omega) q1 q2 (by simpa using q))
noncomputable def DH (wi:TI)(g:TG)(tb:TS):TS:=λD σ H=>wi σ H λJ H1=>∃W:Nat->Nat->St->Hp->Prop,(∃m,W 0 m σ H1)/\∀i m σ H,W i m σ H →
 (J.stop i H/\D.nx σ H)\/(J.go i H/\∃N:St->Hp->Prop,(∀σ' H',N σ' H'->∃m',m'<m/\W (i+1) m' σ' H')/\∀x H',J.yld i H x H'->g x σ H' λσ2 H2=>tb {D with nx:=N,ct:=N,bk:=D.nx} σ2 H2)
noncomputable def jY (fp:List Addr)(h:Heap):List (Addr×Obj):=fp.filterMap λb=>(h.get? b).map λo=>(b,o)
theorem ff {o:Obj}(hb:b∈fp)(e:h.get? b=some o):(b,o)∈jY fp h:=Aq.mpr ⟨b,hb,by rw[e];rfl⟩
theorem aan {p:Addr×Obj}(hp:p∈jY fp h):p.1∈fp/\h.get? p.1=some p.2:=by
 obtain⟨b,hb,e⟩:=Aq.mp hp
 cases q:h.get? b with
 |none=>rw[q] at e;cases e
 |some o =>
  rw[q] at e;have e':(b,o)=p:=Option.some.inj e;subst e';exact⟨hb,q⟩
theorem Inv.pinned (I:Inv X pins σ H s)(hf:∀b∈fp,c8 X pins H b)(ho:∀b∈fp,∃o,s.heap.get? b=some o/\∀v,o.data≠.cell v):Inv X (pins++jY fp s.heap) σ H s :=
 I.acM λp hp=>(YI.mp hp).elim (λz=>I.pin p (Yx _ z)) λz=>by
   obtain⟨hb,e⟩:=aan z;obtain⟨f0,f1,f2,_⟩:=hf p.1 hb;obtain⟨o,e',d⟩:=ho p.1 hb;rw[e] at e';cases e';exact⟨e,f0,f1,f2,d⟩
theorem Inv.acU {pl:List (Addr×Obj)}(I:Inv X (pins++pl) σ H s):Inv X pins σ H s:=I.acM λp hp=>I.pin p (Yx _ (ZE _ hp))
theorem dU {iter:Expr}{wi:TI}(hp:PassesOwn (model X.prog X.w) X.A X.env X.xe)(hc:X.calm=true)(hi:PI X tg iter wi)(hg:PG X tg g)(hb:oO X body tb)
 (hs:∀x,foldedSetIterable iter X.env x=pure x:=by intro _;rfl):PS X (.For tg iter body [] pos) (DH wi g tb):=by
 intro pins s σ H D I h;refine wpAny_For (bO (hi pins s σ H _ I h) λv s1 h1=>bO h1 λMS s2 h2=>?_) hs;obtain⟨it,fp,tn,J,H2,e,I2,T,HR,f2,W,⟨m0,w0⟩,turn⟩:=h2;subst e;have IM:∀{H':Hp},(∀b∈fp,H' b=none)->∀b∈fp,c8 X pins H' b:=λhn b hb=>⟨hn b hb,(f2 b hb).2⟩;refine codeAny_forLoop_any (λn s'=>∃i σ' H',Inv X pins σ' H' s'/\tn i s'.heap/\(∀b∈fp,H' b=none)/\W i n σ' H') ?_ m0 ⟨0,σ,H2,I2,HR,λb hb=>(f2 b hb).1,w0⟩;rintro n s3 ⟨i,σ3,H3,I3,QL,QM,w3⟩
 rcases turn i n σ3 H3 w3 with⟨stop,qn⟩|⟨go,N,hN,step⟩
 ·refine Ak hp (bO (T.done X rfl rfl rfl hc i pins s3 σ3 H3 X.xe I3 (IM QM) QL stop) λr s4 z'=>?_);obtain⟨hr,I4⟩:=z';subst hr;exact Ek ⟨σ3,H3,I4,qn⟩
 ·refine Ak hp (bO (T.item X rfl rfl rfl hc i pins s3 σ3 H3 X.xe I3 (IM QM) QL go) λr s4 z'=>?_);obtain⟨u,hr,h4⟩:=z';subst hr;refine Ak hp (bO h4 λ_ s5 z'=>?_);obtain⟨x,H5,I5,r5,y5,JY,ND⟩:=z';have SF:=I5.pinned (IM ND) (T.obj _ _ JY);refine Ak hp (bO (hg _ s5 σ3 H5 x u _ SF r5 (step x H5 y5)) λ_ s6 z'=>?_);obtain⟨σ6,H6,I6,q6⟩:=z';refine Ak hp (bO (hb _ s6 σ6 H6 _ I6 q6) λf s7 q7=>?_)
  have again:∀{σ7:St}{H7:Hp},Inv X (pins++jY fp s5.heap) σ7 H7 s7->N σ7 H7->∃m,m<n/\∃i σ' H',Inv X pins σ' H' s7/\tn i s7.heap/\(∀b∈fp,H' b=none)/\W i m σ' H':=λ{σ7 H7} I7 n7=>by
   obtain⟨m',hm,w7⟩:=hN σ7 H7 n7;refine⟨m',hm,i+1,σ7,H7,I7.acU,T.keep _ _ _ JY λb hb o e=>(I7.pin (b,o) (Yx _ (Yx _ (ff hb e)))).1,λb hb=>?_,w7⟩;obtain⟨o,e,d⟩:=T.obj _ _ JY b hb;exact(I7.pin (b,o) (Yx _ (Yx _ (ff hb e)))).2.1
  cases f with
  |next=>obtain⟨σ7,H7,I7,n7⟩:=q7;exact again I7 n7
  |cont=>obtain⟨σ7,H7,I7,n7⟩:=q7;exact again I7 n7
  |brk=>obtain⟨σ7,H7,I7,q7⟩:=q7;exact⟨σ7,H7,I7.acU,q7⟩
  |ret v=>obtain⟨x7,σ7,H7,I7,r7,q7⟩:=q7;exact⟨x7,σ7,H7,I7.acU,r7,q7⟩
end
theorem ik {K:PySem.W.Frag}{a:Addr}{xs:List V}{D:Ends}(Pv:Nat->St->Hp->Prop)(h0:Pv 0 σ H)(hl:∀i σ H,i<=xs.length->Pv i σ H->bo K H a xs)
 (hs:∀i x σ H,xs[i]?=some x->Pv i σ H->g x σ H λσ2 H2=>tb {D with nx:=Pv (i+1),ct:=Pv (i+1),bk:=D.nx} σ2 H2)(hd:∀σ H,Pv xs.length σ H->D.nx σ H):
 ∃W:Nat->Nat->St->Hp->Prop,(∃m,W 0 m σ H)/\∀i m σ H,W i m σ H →
  ((yV K a).stop i H/\D.nx σ H)\/((yV K a).go i H/\∃N:St->Hp->Prop,(∀σ' H',N σ' H'->∃m',m'<m/\W (i+1) m' σ' H')/\∀x H',(yV K a).yld i H x H'->g x σ H' λσ2 H2=>tb {D with nx:=N,ct:=N,bk:=D.nx} σ2 H2):=by
 refine⟨λi m σ H=>m=xs.length-i/\i<=xs.length/\Pv i σ H,⟨xs.length,by simp,Yt _,h0⟩,?_⟩;rintro i m σ H ⟨rfl,hi,p⟩;have q:=hl i σ H hi p
 by_cases Fy:i<xs.length
 ·refine .inr ⟨⟨xs,xs[i],q,by simp[Fy]⟩,Pv (i+1),λσ' H' p'=>⟨xs.length-(i+1),by omega,rfl,Fy,p'⟩,λx H' y=>?_⟩;obtain⟨e,y⟩:=y;subst e;exact hs i x σ _ (y xs q) p
 ·have e:i=xs.length:=by omega
  subst e;exact .inl ⟨⟨xs,q,Ye _⟩,hd σ H p⟩
theorem um {K:PySem.W.Frag}{a:Addr}{xs:List V}{D:Ends}(Pv:Nat->St->Hp->Prop)(h0:Pv 0 σ H)(hl:∀i σ H,i<=xs.length->Pv i σ H->aU K H a xs)
 (hs:∀i x σ H,xs[i]?=some x->Pv i σ H->g x σ H λσ2 H2=>tb {D with nx:=Pv (i+1),ct:=Pv (i+1),bk:=D.nx} σ2 H2)(hd:∀σ H,Pv xs.length σ H->D.nx σ H):
 ∃W:Nat->Nat->St->Hp->Prop,(∃m,W 0 m σ H)/\∀i m σ H,W i m σ H →
  ((C8 K a).stop i H/\D.nx σ H)\/((C8 K a).go i H/\∃N:St->Hp->Prop,(∀σ' H',N σ' H'->∃m',m'<m/\W (i+1) m' σ' H')/\∀x H',(C8 K a).yld i H x H'->g x σ H' λσ2 H2=>tb {D with nx:=N,ct:=N,bk:=D.nx} σ2 H2):=by
 refine⟨λi m σ H=>m=xs.length-i/\i<=xs.length/\Pv i σ H,⟨xs.length,by simp,Yt _,h0⟩,?_⟩;rintro i m σ H ⟨rfl,hi,p⟩;have q:=hl i σ H hi p
 by_cases Fy:i<xs.length
 ·refine .inr ⟨⟨xs,xs[i],q,by simp[Fy]⟩,Pv (i+1),λσ' H' p'=>⟨xs.length-(i+1),by omega,rfl,Fy,p'⟩,λx H' y=>?_⟩;obtain⟨e,y⟩:=y;subst e;exact hs i x σ _ (y xs q) p
 ·have e:i=xs.length:=by omega
  subst e;exact .inl ⟨⟨xs,q,Ye _⟩,hd σ H p⟩
theorem lM {lo:Int}{n:Nat}{D:Ends}(Pv:Nat->St->Hp->Prop)(h0:Pv 0 σ H)
 (hs:∀i σ H,i<n->Pv i σ H->g (.int (lo+i)) σ H λσ2 H2=>tb {D with nx:=Pv (i+1),ct:=Pv (i+1),bk:=D.nx} σ2 H2)(hd:∀σ H,Pv n σ H->D.nx σ H):
 ∃W:Nat->Nat->St->Hp->Prop,(∃m,W 0 m σ H)/\∀i m σ H,W i m σ H →
  ((Cw lo n).stop i H/\D.nx σ H)\/((Cw lo n).go i H/\∃N:St->Hp->Prop,(∀σ' H',N σ' H'->∃m',m'<m/\W (i+1) m' σ' H')/\∀x H',(Cw lo n).yld i H x H'->g x σ H' λσ2 H2=>tb {D with nx:=N,ct:=N,bk:=D.nx} σ2 H2):=by
 refine⟨λi m σ H=>m=n-i/\i<=n/\Pv i σ H,⟨n,by simp,Yt _,h0⟩,?_⟩;rintro i m σ H ⟨rfl,hi,p⟩
 by_cases Fy:i<n
 ·refine .inr ⟨Fy,Pv (i+1),λσ' H' p'=>⟨n-(i+1),by omega,rfl,Fy,p'⟩,λx H' y=>?_⟩;obtain⟨e,y⟩:=y;subst e y;exact hs i σ _ Fy p
 ·have e:i=n:=by omega
  subst e;exact .inl ⟨Ye _,hd σ H p⟩
noncomputable abbrev R2:=V->V->Hp->VK->Prop
noncomputable def eA (X:Cx)(f:Value->Value->Sem Value)(r:R2):Prop :=
 ∀(pins:List (Addr×Obj))(s:Bi)(σ:St)(H:Hp)(x y:V)(v u:Value)(Q:VK),Inv X pins σ H s->aG x v->aG y u->r x y H Q →
  wpAny (model X.prog X.w) X.A (f v u) (EP X pins σ Q) X.xe s
noncomputable def Eo (X:Cx)(f:Value->Sem Value)(r:V->Hp->VK->Prop):Prop :=
 ∀(pins:List (Addr×Obj))(s:Bi)(σ:St)(H:Hp)(x:V)(v:Value)(Q:VK),Inv X pins σ H s->aG x v->r x H Q →
  wpAny (model X.prog X.w) X.A (f v) (EP X pins σ Q) X.xe s
noncomputable def cS (X:Cx)(f:Value)(r:List V->Hp->VK->Prop):Prop :=
 ∀(pins:List (Addr×Obj))(s:Bi)(σ:St)(H:Hp)(xs:List V)(us:nN)(Q:VK),Inv X pins σ H s->aR xs us->r xs H Q →
  wpAny (model X.prog X.w) X.A (call f us) (EP X pins σ Q) X.xe s
noncomputable def aao (X:Cx)(r:V->Hp->(Bool->Hp->Prop)->Prop):Prop :=
 ∀(pins:List (Addr×Obj))(s:Bi)(σ:St)(H:Hp)(x:V)(v:Value)(Q:Bool->Hp->Prop),Inv X pins σ H s->aG x v->r x H Q →
  wpAny (model X.prog X.w) X.A (truthy v) (TP X pins σ Q) X.xe s
noncomputable def kx (r:R2)(ta tb:TE):TE:=λσ H Q=>ta σ H λx H1=>tb σ H1 λy H2=>r x y H2 Q
noncomputable def aaz (r:V->Hp->VK->Prop)(ta:TE):TE:=λσ H Q=>ta σ H λx H1=>r x H1 Q
noncomputable def rI (C:Int->Int->Prop)(g:Int->Int->V):R2:=λx y H Q=>∃i j,x=.int i/\y=.int j/\C i j/\Q (g i j) H
noncomputable def vU (g:Int->Int->V):R2:=λx y H Q=>∃i j,x=.int i/\y=.int j/\Q (g i j) H
noncomputable def rU (g:Int->V):V->Hp->VK->Prop:=λx H Q=>∃i,x=.int i/\Q (g i) H
variable {f:Value->Value->Sem Value}{r:R2}
section
variable {X:Cx}{a b c:Expr}{ta tb tc:TE}{pos:Pos}
theorem BW (ha:PE X a ta)(hb:PE X b tb){R:V->V->Hp->Prop}(I:Inv X pins σ H s)
 (h:ta σ H λx H1=>tb σ H1 λy H2=>R x y H2){Q:pH}
 (hf:∀v u s2 x y H2,Inv X pins σ H2 s2->aG x v->aG y u->R x y H2->wpAny (model X.prog X.w) X.A (f v u) Q X.xe s2):
 wpAny (model X.prog X.w) X.A (eval a X.env) (λv s₁=>wpAny (model X.prog X.w) X.A (eval b X.env) (λu s₂=>wpAny (model X.prog X.w) X.A (f v u) Q X.xe s₂) X.xe s₁) X.xe s:=by
 refine bO (ha pins s σ H _ I h) λv s1 z'=>?_;obtain⟨x,H1,I1,r1,q1⟩:=z';refine bO (hb pins s1 σ H1 _ I1 q1) λu s2 z'=>?_;obtain⟨y,H2,I2,r2,q2⟩:=z';exact hf v u s2 x y H2 I2 r1 r2 q2
theorem aK {op:Operator}(ho:eA X (binaryOp op) r)(ha:PE X a ta)(hb:PE X b tb):PE X (.BinOp a op b pos) (kx r ta tb):=by
 intro pins s σ H Q I h;exact wpAny_BinOp (BW ha hb I h λv u s2 x y H2 I2 rx ry q=>ho pins s2 σ H2 x y v u Q I2 rx ry q)
theorem oE {op:UnaryOp}{r:V->Hp->VK->Prop}(ho:Eo X (unaryOp op) r)(ha:PE X a ta):PE X (.UnaryOp op a pos) (aaz r ta):=by
 intro pins s σ H Q I h;exact UnaryOp_ (bO (ha pins s σ H _ I h) λv s1 ⟨x,H1,I1,r1,q1⟩=>ho pins s1 σ H1 x v Q I1 r1 q1)
theorem Cf {C:Int->Int->Prop}{g:Int->Int->Int}
 (rule:∀(i j:Int)(t u:Tok)(s:Bi)(Q:pH)(E:pH),C i j->Q (.int (g i j) s.toks) {s with toks:=s.toks+1}->wpAny (model X.prog X.w) X.A (f (.int i t) (.int j u)) Q E s):
 eA X f (rI C λi j=>.int (g i j)):=by
 intro pins s σ H x y v u Q I rx ry h;obtain⟨i,j,rfl,rfl,hc,q⟩:=h;obtain⟨t,rfl⟩:=rx;obtain⟨t',rfl⟩:=ry;exact rule i j t t' s _ _ hc ⟨.int (g i j),H,I.tok _,⟨_,rfl⟩,q⟩
theorem Dm {g:Int->Int->Int}
 (rule:∀(i j:Int)(t u:Tok)(s:Bi)(Q:pH)(E:pH),Q (.int (g i j) s.toks) {s with toks:=s.toks+1}->wpAny (model X.prog X.w) X.A (f (.int i t) (.int j u)) Q E s):
 eA X f (vU λi j=>.int (g i j)):=by
 intro pins s σ H x y v u Q I rx ry h;obtain⟨i,j,rfl,rfl,q⟩:=h;obtain⟨t,rfl⟩:=rx;obtain⟨t',rfl⟩:=ry;exact rule i j t t' s _ _ ⟨.int (g i j),H,I.tok _,⟨_,rfl⟩,q⟩
theorem zW {g:Int->Int->Bool}
 (rule:∀(i j:Int)(t u:Tok)(s:Bi)(Q:pH)(E:pH),Q (.bool (g i j)) s->wpAny (model X.prog X.w) X.A (f (.int i t) (.int j u)) Q E s):
 eA X f (vU λi j=>.bl (g i j)):=by
 intro pins s σ H x y v u Q I rx ry h;obtain⟨i,j,rfl,rfl,q⟩:=h;obtain⟨t,rfl⟩:=rx;obtain⟨t',rfl⟩:=ry;exact rule i j t t' s _ _ ⟨.bl (g i j),H,I,rfl,q⟩
noncomputable def aa4 (i j:Int):Prop:=0<j/\j<1073741824
noncomputable def adf (i j:Int):Prop:=0<=j/\j<=1000000/\i.natAbs<2^64
noncomputable def uX (i j:Int):Prop:=(-(2^64)<i/\i<2^64)\/(-(2^64)<j/\j<2^64)
theorem uX.ok {i j:Int}(h:uX i j):IntMulOk i j:=by
 rcases h with⟨h1,h2⟩|⟨h1,h2⟩
 ·exact .of_left (intBits_le_64 h1 h2)
 ·exact .of_right (intBits_le_64 h1 h2)
theorem fh:eA X (binaryOp .Add) (vU λi j=>.int (i+j)):=Dm λ_ _ _ _ _ _ _ q=>add_int q
theorem qC:eA X (binaryOp .Sub) (vU λi j=>.int (i-j)):=Dm λ_ _ _ _ _ _ _ q=>sub_int q
theorem dC:eA X (binaryOp .Mult) (rI uX λi j=>.int (i*j)):=Cf λ_ _ _ _ _ _ _ hc q=>mul_int q hc.ok
theorem adi:eA X (binaryOp .FloorDiv) (rI aa4 λi j=>.int (i/j)):=Cf λi j _ _ _ _ _ hc q=>by
 have h1:(0:Int)<j:=hc.1;have h2:j<1073741824:=hc.2;exact floordiv_int (by omega) (by rw[Int.fdiv_eq_ediv_of_nonneg i (by omega)];exact q) (.inl (PyProof.noPylong_small (by omega)))
theorem cM:eA X (binaryOp .Mod) (rI (λ_ j=>0<j) λi j=>.int (i%j)):=Cf λi j _ _ _ _ _ hc q=>by
 have h1:(0:Int)<j:=hc;exact mod_int' (by omega) (by rw[Int.fmod_eq_emod_of_nonneg i (by omega)];exact q)
theorem uq:eA X (binaryOp .Mod) (rI (λ_ j=>j≠0) λi j=>.int (i.fmod j)):=Cf λ_ _ _ _ _ _ _ hc q=>mod_int' hc q
theorem yc:eA X (binaryOp .Pow) (rI adf λi j=>.int (i^j.toNat)):=Cf λ_ _ _ _ _ _ _ hc q=>pow_int_small hc.1 hc.2.1 hc.2.2 q
theorem adV {f:Value->Sem Value}{g:Int->Int}
 (rule:∀(i:Int)(t:Tok)(s:Bi)(Q:pH)(E:pH),Q (.int (g i) s.toks) {s with toks:=s.toks+1}->wpAny (model X.prog X.w) X.A (f (.int i t)) Q E s):
 Eo X f (rU λi=>.int (g i)):=by
 intro pins s σ H x v Q I rx h;obtain⟨i,rfl,q⟩:=h;obtain⟨t,rfl⟩:=rx;exact rule i t s _ _ ⟨.int (g i),H,I.tok _,⟨_,rfl⟩,q⟩
theorem kN:Eo X (unaryOp .USub) (rU λi=>.int (-i)):=adV λ_ _ _ _ _ q=>neg_int q
end
noncomputable def Ds:V->V->Bool
 | .non,.non=>true| .non,.int _=>true| .int _,.non=>true| .non,.bl _=>true| .bl _,.non=>true| .non,.str _=>true| .str _,.non=>true
 | .int _,.int _=>true| .bl _,.bl _=>true| .str _,.str _=>true| .byt _,.byt _=>true
 | .int _,.str _=>true| .str _,.int _=>true| .bl _,.str _=>true| .str _,.bl _=>true
 |_,_=>false
noncomputable def Cr:R2:=λx y H Q=>Ds x y=true/\Q (.bl (decide (x=y))) H
noncomputable def rNe:R2:=λx y H Q=>Ds x y=true/\Q (.bl (!decide (x=y))) H
theorem uo {i j:Int}:decide (V.int i=V.int j)=(i==j):=by
 rw[ZL];simp
theorem xm {i j:Bool}:decide (V.bl i=V.bl j)=(i==j):=by
 rw[ZL];simp
theorem tQ {i j:Str}:decide (V.str i=V.str j)=(i==j):=by
 rw[ZL];simp
theorem ue {i j:Array UInt8}:decide (V.byt i=V.byt j)=(i.toList==j.toList):=by
 rw[ZL]
 cases i
 cases j
 simp
variable {Q:VK}
section
variable {X:Cx}{a b c:Expr}{ta tb tc:TE}{pos:Pos}
theorem bf {k k':Bool}(I:Inv X pins σ H s)(q:Q (.bl k) H)(e:k=k'):EP X pins σ Q (.bool k') s:=by
 subst e;exact⟨.bl k,H,I,rfl,q⟩
theorem fL:eA X (compareOp .Eq) Cr:=by
 intro pins s σ H x y v u Q I rx ry h;obtain⟨hs,q⟩:=h
 cases x with
 |non =>
  cases rx
  cases y with
  |non=>cases ry;exact PySem.EqNone.eq_none_none (bf I q (by simp))
  |bl j=>cases ry;exact PySem.EqNone.eq_none_bool (bf I q (by simp))
  |int j=>obtain⟨t',rfl⟩:=ry;exact PySem.EqNone.eq_none_int (bf I q (by simp))
  |str j=>obtain⟨t',rfl⟩:=ry;exact PySem.EqNone.eq_none_str (bf I q (by simp))
  |_=>exact absurd (show false=true from hs) Yp
 |bl i =>
  cases rx
  cases y with
  |non=>cases ry;exact PySem.EqNone.eq_bool_none (bf I q (by simp))
  |bl j=>cases ry;exact eq_bool (bf I q xm)
  |str j=>obtain⟨t',rfl⟩:=ry;exact PySem.EqMixed.eq_bool_str (bf I q (by simp))
  |_=>exact absurd (show false=true from hs) Yp
 |int i =>
  obtain⟨t,rfl⟩:=rx
  cases y with
  |non=>cases ry;exact PySem.EqNone.eq_int_none (bf I q (by simp))
  |int j=>obtain⟨t',rfl⟩:=ry;exact eq_int (bf I q uo)
  |str j=>obtain⟨t',rfl⟩:=ry;exact PySem.EqMixed.eq_int_str (bf I q (by simp))
  |_=>exact absurd (show false=true from hs) Yp
 |str i =>
  obtain⟨t,rfl⟩:=rx
  cases y with
  |non=>cases ry;exact PySem.EqNone.eq_str_none (bf I q (by simp))
  |bl j=>cases ry;exact PySem.EqMixed.eq_str_bool (bf I q (by simp))
  |int j=>obtain⟨t',rfl⟩:=ry;exact PySem.EqMixed.eq_str_int (bf I q (by simp))
  |str j=>obtain⟨t',rfl⟩:=ry;exact eq_str (bf I q tQ)
  |_=>exact absurd (show false=true from hs) Yp
 |byt i =>
  obtain⟨t,rfl⟩:=rx
  cases y with
  |byt j=>obtain⟨t',rfl⟩:=ry;exact PySem.W.eq_bytes (bf I q ue)
  |_=>exact absurd (show false=true from hs) Yp
 |_=>cases y <;> exact absurd (show false=true from hs) Yp
theorem fY:eA X (compareOp .NotEq) rNe:=by
 intro pins s σ H x y v u Q I rx ry h;obtain⟨hs,q⟩:=h
 cases x with
 |non =>
  cases rx
  cases y with
  |non=>cases ry;exact PySem.EqNone.ne_none_none (bf I q (by simp))
  |bl j=>cases ry;exact PySem.EqNone.ne_none_bool (bf I q (by simp))
  |int j=>obtain⟨t',rfl⟩:=ry;exact PySem.EqNone.ne_none_int (bf I q (by simp))
  |str j=>obtain⟨t',rfl⟩:=ry;exact PySem.EqNone.ne_none_str (bf I q (by simp))
  |_=>exact absurd (show false=true from hs) Yp
 |bl i =>
  cases rx
  cases y with
  |non=>cases ry;exact PySem.EqNone.ne_bool_none (bf I q (by simp))
  |bl j=>cases ry;exact ne_bool (bf I q (Ze not xm))
  |str j=>obtain⟨t',rfl⟩:=ry;exact PySem.EqMixed.ne_bool_str (bf I q (by simp))
  |_=>exact absurd (show false=true from hs) Yp
 |int i =>
  obtain⟨t,rfl⟩:=rx
  cases y with
  |non=>cases ry;exact PySem.EqNone.ne_int_none (bf I q (by simp))
  |int j=>obtain⟨t',rfl⟩:=ry;exact ne_int (bf I q (Ze not uo))
  |str j=>obtain⟨t',rfl⟩:=ry;exact PySem.EqMixed.ne_int_str (bf I q (by simp))
  |_=>exact absurd (show false=true from hs) Yp
 |str i =>
  obtain⟨t,rfl⟩:=rx
  cases y with
  |non=>cases ry;exact PySem.EqNone.ne_str_none (bf I q (by simp))
  |bl j=>cases ry;exact PySem.EqMixed.ne_str_bool (bf I q (by simp))
  |int j=>obtain⟨t',rfl⟩:=ry;exact PySem.EqMixed.ne_str_int (bf I q (by simp))
  |str j=>obtain⟨t',rfl⟩:=ry;exact ne_str (bf I q (Ze not tQ))
  |_=>exact absurd (show false=true from hs) Yp
 |byt i =>
  obtain⟨t,rfl⟩:=rx
  cases y with
  |byt j=>obtain⟨t',rfl⟩:=ry;exact PySem.W.ne_bytes (bf I q (Ze not ue))
  |_=>exact absurd (show false=true from hs) Yp
 |_=>cases y <;> exact absurd (show false=true from hs) Yp
theorem ix:eA X (compareOp .Lt) (vU λi j=>.bl (decide (i<j))):=zW λ_ _ _ _ _ _ _ q=>lt_int q
theorem n4:eA X (compareOp .LtE) (vU λi j=>.bl (decide (i<=j))):=zW λ_ _ _ _ _ _ _ q=>le_int q
theorem AG:eA X (compareOp .Gt) (vU λi j=>.bl (decide (j<i))):=zW λ_ _ _ _ _ _ _ q=>gt_int q
theorem AO:eA X (compareOp .GtE) (vU λi j=>.bl (decide (j<=i))):=zW λ_ _ _ _ _ _ _ q=>ge_int q
theorem aaf:eA X (compareOp .Is) (λx y H Q=>y=.non/\Q (.bl (decide (x=.non))) H):=by
 intro pins s σ H x y v u Q I rx ry h;obtain⟨rfl,q⟩:=h
 cases ry
 refine is_none_gen (bf I q ?_)
 cases x <;> first
  |(cases rx;rfl)
  |(obtain⟨t,rfl⟩:=rx;rfl)
theorem aV (b:Expr)(h:op ≠ .In:=by decide)(h2:op ≠ .NotIn:=by decide):behindInMarks op b=false:=by
 have e1:(op==CmpOp.In)=false:=by cases op <;> first|rfl|exact absurd rfl h
 have e2:(op==CmpOp.NotIn)=false:=by cases op <;> first|rfl|exact absurd rfl h2
 cases b <;> simp[behindInMarks,e1,e2]
theorem cu (ho:eA X (compareOp op) r)(ha:PE X a ta)(hb:PE X b tb)(hm:behindInMarks op b=false):PE X (.Compare a [op] [b] pos) (kx r ta tb):=by
 intro pins s σ H Q I h;exact wpAny_Compare1 (BW ha hb I h λv u s2 x y H2 I2 rx ry q=>ho pins s2 σ H2 x y v u Q I2 rx ry q) hm
noncomputable def tT (t:TE):TT:=λσ H Q=>t σ H λx H'=>∃k,x=.bl k/\Q k H'
theorem aO (ho:eA X (compareOp op) r)(ha:PE X a ta)(hb:PE X b tb)(hm:behindInMarks op b=false):PT X (.Compare a [op] [b] pos) (tT (kx r ta tb)):=by
 intro pins s σ H Q I h
 refine wpAny_isTrue_Compare1 (bO (ha pins s σ H _ I h) λv s1 ⟨x,H1,I1,r1,q1⟩=>bO (hb pins s1 σ H1 _ I1 q1) λu s2 ⟨y,H2,I2,r2,q2⟩ =>
  bO (ho pins s2 σ H2 x y v u _ I2 r1 r2 q2) λc s3 ⟨z,H3,I3,r3,k,e,q3⟩=>?_) hm
 subst e
 cases r3
 exact Y9 ⟨H3,I3,q3⟩
noncomputable def xK (r r':R2)(ta tb tc:TE):TE:=λσ H Q=>ta σ H λx H1=>tb σ H1 λy H2=>r x y H2 λz H3=>∃k,z=.bl k /\
 (if k=true then tc σ H3 λw' H4=>r' y w' H4 Q else Q (.bl false) H3)
theorem kA {IP:CmpOp}{r':R2}(ho:eA X (compareOp op) r)(F0:eA X (compareOp IP) r')(ha:PE X a ta)(hb:PE X b tb)(hc:PE X c tc)
 (hm:lastMarks [op,IP] [b,c]=false:=by with_unfolding_all rfl):PE X (.Compare a [op,IP] [b,c] pos) (xK r r' ta tb tc):=by
 intro pins s σ H Q I h
 refine Compare_chain (bO (ha pins s σ H _ I h) λv s1 ⟨x,H1,I1,r1,q1⟩=>chain_link (bO (hb pins s1 σ H1 _ I1 q1) λu s2 ⟨y,H2,I2,r2,q2⟩ =>
  bO (ho pins s2 σ H2 x y v u _ I2 r1 r2 q2) λd s3 ⟨z,H3,I3,r3,k,e,q3⟩=>?_)) hm
 subst e
 cases r3
 refine Y9 ?_
 cases k with
 |false=>exact ite_ff ⟨.bl false,H3,I3,rfl,q3⟩
 |true=>exact ite_tt (chain_last (bO (hc pins s3 σ H3 _ I3 q3) λw' s4 ⟨z',H4,I4,r4,q4⟩=>F0 pins s4 σ H4 y z' u w' Q I4 r2 r4 q4))
theorem aaj {IP:CmpOp}{r':R2}(ho:eA X (compareOp op) r)(F0:eA X (compareOp IP) r')(ha:PE X a ta)(hb:PE X b tb)(hc:PE X c tc)
 (hm:lastMarks [op,IP] [b,c]=false:=by with_unfolding_all rfl):PT X (.Compare a [op,IP] [b,c] pos) (tT (xK r r' ta tb tc)):=by
 intro pins s σ H Q I h
 refine isTrue_chain (bO (ha pins s σ H _ I h) λv s1 ⟨x,H1,I1,r1,q1⟩=>test_link (bO (hb pins s1 σ H1 _ I1 q1) λu s2 ⟨y,H2,I2,r2,q2⟩ =>
  bO (ho pins s2 σ H2 x y v u _ I2 r1 r2 q2) λd s3 ⟨z,H3,I3,r3,k,e,q3⟩=>?_)) hm
 subst e
 cases r3
 refine Y9 ?_
 cases k with
 |false =>
  obtain⟨k',e',q'⟩:=q3
  cases e'
  exact ite_ff ⟨H3,I3,q'⟩
 |true =>
  refine ite_tt (test_last (bO (hc pins s3 σ H3 _ I3 q3) λw' s4 ⟨z',H4,I4,r4,q4⟩=>bO (F0 pins s4 σ H4 y z' u w' _ I4 r2 r4 q4) λd' s5 ⟨z2,H5,I5,r5,k2,e2,q5⟩=>?_));subst e2
  cases r5
  exact Y9 ⟨H5,I5,q5⟩
noncomputable def Bm (K:PySem.W.Frag)(x:V)(H:Hp)(k:Bool):Prop :=
 match x with
 | .non=>k=false
 | .bl b=>k=b
 | .int i=>k=(i != 0)
 | .str y=>y.length<=sizeLine/\k=((y.length:Int) != 0)
 | .byt y=>y.size<=sizeLine/\k=((y.size:Int) != 0)
 | .ref p=>(∃xs,bo K H p xs/\k = !xs.isEmpty)\/(∃xs,aU K H p xs/\k = !xs.isEmpty)\/∃Ft,H p=some (.dK Ft)/\k = !Ft.isEmpty
 |_=>False
theorem aat {κ:Type}{Ft:List (κ×V)}{vs:List (κ×Value)}(r:KV Ft vs):(!vs.isEmpty) = !Ft.isEmpty:=by
 cases r <;> rfl
theorem kI {xs:List V}{its:nN}(r:aR xs its):(!its.toArray.isEmpty) = !xs.isEmpty:=by
 cases r <;> simp
theorem j5:(sizeLine:Nat)<2^63:=by rw[ZX];decide
theorem aav:aao X (λx H Q=>∃k,Bm X.K x H k/\Q k H):=by
 intro pins s σ H x v Q I rx h;obtain⟨k,e,q⟩:=h;have hl:=j5;have hs:sizeLine=16777216:=ZX
 cases x with
 |non =>
  cases rx
  have e':k=false:=e;subst e';exact truthy_none ⟨H,I,q⟩
 |bl b =>
  cases rx
  have e':k=b:=e;subst e';exact Y9 ⟨H,I,q⟩
 |int i =>
  obtain⟨t,rfl⟩:=rx;have e':k=(i != 0):=e;subst e';exact PySem.P.truthy_int ⟨H,I,q⟩
 |str y =>
  obtain⟨t,rfl⟩:=rx;obtain⟨hy,e'⟩:y.length<=sizeLine/\k=((y.length:Int) != 0):=e;subst e';exact PySem.P.truthy_str (by omega) ⟨H,I.tok _,q⟩
 |byt y =>
  obtain⟨t,rfl⟩:=rx;obtain⟨hy,e'⟩:y.size<=sizeLine/\k=((y.size:Int) != 0):=e;subst e';exact PySem.W.truthy_bytes (by omega) ⟨H,I.tok _,q⟩
 |ref p =>
  cases rx
  have e':(∃xs,bo X.K H p xs/\k = !xs.isEmpty)\/(∃xs,aU X.K H p xs/\k = !xs.isEmpty)\/∃Ft,H p=some (.dK Ft)/\k = !Ft.isEmpty:=e
  rcases e' with⟨xs,hx,e'⟩|⟨xs,hx,e'⟩|⟨Ft,hx,e'⟩
  ·subst e';obtain⟨its,r,pl,hz⟩:=I.list hx;have hlen:=r.length;exact wpAny_truthy_list pl.isList (by simp only[Yj];omega) ⟨H,I.tok _,by rw[kI r];exact q⟩
  ·subst e';obtain⟨its,r,pl,hz⟩:=I.tuple hx;have hlen:=r.length;exact truthy_tuple pl (by simp only[Yj];omega) ⟨H,I.tok _,by rw[kI r];exact q⟩
  ·subst e';obtain⟨hz,hS,vs,r,m⟩:Ft.length<=sizeLine/\(p==sysModules)=false/\∃vs,KV Ft vs/\s.heap.DictOf (bX X.prog X.w) p vs:=I.hok p _ hx;have hlen:Ft.length=vs.length:=xN r;exact wpAny_truthy_dict hS m (by omega) ⟨H,I.tok _,by rw[aat r];exact q⟩
 |_=>exact(show False from e).elim
theorem ow (ha:PE X a ta)(he:∀cg,isTrue a X.env cg=(do let v <-cg;standAt a.pos;holding [v] (truthy v))):
 PT X a (λσ H Q=>ta σ H λx H'=>∃k,Bm X.K x H' k/\Q k H'):=by
 intro pins s σ H Q I h;exact isTrue_plain (bO (ha pins s σ H _ I h) λv s1 ⟨x,H1,I1,r1,q1⟩=>aav pins s1 σ H1 x v Q I1 r1 q1) (he _)
theorem dw {x:V}(r:aR [x] us):∃u,us=[u]/\aG x u:=by
 cases r with
 |cons r1 r2=>cases r2;exact⟨_,rfl,r1⟩
theorem wV {x:V}(r:aR [x,y] us):∃u w',us=[u,w']/\aG x u/\aG y w':=by
 cases r with
 |cons r1 r2 =>
  cases r2 with
  |cons r3 r4=>cases r4;exact⟨_,_,rfl,r1,r3⟩
theorem iD:cS X (.builtin "abs") (λxs H Q=>∃i,xs=[.int i]/\Q (.int (if i<0 then -i else i)) H):=by
 intro pins s σ H xs us Q I r h;obtain⟨i,rfl,q⟩:=h;obtain⟨u,rfl,t,rfl⟩:=dw r;exact call_abs_int λu tk=>⟨.int (if i<0 then -i else i),H,I.tok _,⟨_,rfl⟩,q⟩
theorem aaD (hc:X.calm=true):cS X (.builtin "max") (λxs H Q=>∃i j,xs=[.int i,.int j]/\Q (.int (if j>i then j else i)) H):=by
 intro pins s σ H xs us Q I r h;obtain⟨i,j,rfl,q⟩:=h;obtain⟨u,w',rfl,⟨t,rfl⟩,⟨t',rfl⟩⟩:=wV r;refine max_two_ints (I.ok.hd hc) λh' tk k=>⟨_,H,I.kept k,?_,q⟩
 by_cases hj:j>i
 ·rw[Yh hj,Yh hj];exact⟨_,rfl⟩
 ·rw[Yd hj,Yd hj];exact⟨_,rfl⟩
theorem acG (hc:X.calm=true):cS X (.builtin "min") (λxs H Q=>∃i j,xs=[.int i,.int j]/\Q (.int (if j<i then j else i)) H):=by
 intro pins s σ H xs us Q I r h;obtain⟨i,j,rfl,q⟩:=h;obtain⟨u,w',rfl,⟨t,rfl⟩,⟨t',rfl⟩⟩:=wV r;refine min_two_ints (I.ok.hd hc) λh' tk k=>⟨_,H,I.kept k,?_,q⟩
 by_cases hj:j<i
 ·rw[Yh hj,Yh hj];exact⟨_,rfl⟩
 ·rw[Yd hj,Yd hj];exact⟨_,rfl⟩
theorem gu:cS X (.type "int") (λxs H Q=>(∃i,xs=[.int i]/\Q (.int i) H)\/∃k,xs=[.bl k]/\Q (.int (if k then 1 else 0)) H):=by
 intro pins s σ H xs us Q I r h
 rcases h with⟨i,rfl,q⟩|⟨k,rfl,q⟩
 ·obtain⟨u,rfl,t,rfl⟩:=dw r;exact call_int_int ⟨.int i,H,I,⟨_,rfl⟩,q⟩
 ·obtain⟨u,rfl,r1⟩:=dw r
  cases r1
  exact call_int_bool ⟨.int (if k then 1 else 0),H,I.tok _,⟨_,rfl⟩,q⟩
end
structure EE (h:Heap)(x dx C:Addr)(mA:u9):Prop where
 obj:h.get? x=some (PySem.W.instObj C dx)
 ns:h.Ns1 dx mA
 ne:dx≠x
theorem adl {dx:Addr}{mA:u9}(n:h.Ns1 dx mA):∃od,h.get? dx=some od/\∀name,PySem.W.lookIn name od=some (mA name):=by
 obtain⟨o,es,ep,ho,hd,hk,_,hm⟩:=n;refine⟨o,ho,λname=>?_⟩;have e:=hm name;unfold nsFind findBy at e;rw[<-Array.find?_toList] at e;unfold PySem.W.lookIn;rw[hd];dsimp only
 split
 ·rename_i y q
  rw[q] at e;exact Ze some e
 ·rename_i q
  rw[q] at e
  have a:es.toList.any (·.refKey)=false:=by
   rw[EJ];intro y hy;obtain⟨z,t,NG⟩:=hk y (Array.mem_toList_iff.mp hy);simp[DictEntry.refKey,NG]
  have a':¬es.toList.any (·.refKey)=true:=by rw[a];exact Yp
  rw[Yd a'];exact Ze some e
variable {C:Addr}
theorem EE.look {x dx:Addr}{mA:u9}(I:EE h x dx C mA):∃od,PySem.W.InstAt h x (PySem.W.instObj C dx) C (some od)/\∀name,PySem.W.lookIn name od=some (mA name):=
 let⟨od,ho,hl⟩:=adl I.ns
 ⟨od,⟨I.obj,rfl,rfl,ho⟩,hl⟩
variable {pl:Sem Bool}{kw:List (Str×Value)}
section
variable {prog:yo}{w:World}{A:Around}{E:pH}{s:Bi}{K:PySem.W.Frag}{x dx C f:Addr}{mA:u9}{name:Str}{v:Value}
theorem aac {expr:Bool}{Q:pH}(X:K.In s.heap)(I:EE s.heap x dx C mA)(hg:PySem.W.plainGet K C name=true)(hh:PySem.W.hasDictIn K C=true)
 (ha:PySem.W.findIn K (.ref C) name=some none)(hv:mA name=some v)(SG:PySem.W.handedIn v=true)(h:Q v {s with toks:=s.toks+1}):
 wpAny (model prog w) A (getAttr (.ref x) name expr) Q E s:=by
 obtain⟨od,J,hl⟩:=I.look;exact PySem.W.get_value X J (CS hg).1 (PySem.W.findObj_own hh ha rfl (by rw[hl,hv])) SG h
theorem aad {Q:Value×List Value->Shared->Prop}(X:K.In s.heap)(I:EE s.heap x dx C mA)(hg:PySem.W.plainGet K C name=true)
 (hf:PySem.W.findIn K (.ref C) name=some (some (.ref f)))(ht:PySem.W.isFn K (.ref f)=true)(hv:mA name=none)(h:Q (.ref f,[.ref x]) s):
 wpAny (model prog w) A (getMethod (.ref x) name pl) Q E s:=by
 obtain⟨od,J,hl⟩:=I.look;exact PySem.W.method_fn X J (CS hg).1 (CS hg).2 hf (Bl.mp ht) (by show(PySem.W.lookIn name od).map (·.isSome)=some false;rw[hl,hv];rfl) h
theorem aae {ns:Ez}{Q:Unit->Shared->Prop}(X:K.In s.heap)(I:EE s.heap x dx C mA)
 (hs:PySem.W.findIn K (.ref C) "__setattr__"=some (some (.builtin "object.__setattr__")))(hp:PySem.W.plainOver K C=true)(ht:PySem.W.takerIn K C name=some none)(hh:PySem.W.hasDictIn K C=true)
 (hw:PySem.Within mA ns)(hsz:ns.length<=sizeLine)
 (h:∀h',EE h' x dx C (λy=>if y=name then some v else mA y)->Heap.SameBut dx s.heap h'->Q () {s with heap:=h',toks:=s.toks+2}):
 wpAny (model prog w) A (setAttr (.ref x) name v) Q E s:=by
 obtain⟨od,J,hl⟩:=I.look;refine PySem.W.set_plain X J hs (PySem.W.osa_open (s:={s with toks:=s.toks+1}) (r:=none) X J hp ht λb=>?_);obtain⟨cd,hc,Ny⟩:=PySem.W.any_some hh;have hx:s.heap.get? x=some ⟨.ref C,some dx,.plain,#[]⟩:=I.obj;refine X9 (Yb (X9 (X9 (wpAny_loadPart hx (X9 (PySem.W.Looks.here (s:={s with toks:=s.toks+1}) (PySem.W.looks_clsIn X hc) ?_))))));rw[Ny];refine Yb (a:=some dx) (X9 (Yb (X9 ?_)));refine wpAny_nsSet1 (s:={s with toks:=s.toks+1}) I.ns λh' JE QN=>?_;obtain⟨oD,Xu,Xv,SI,SJ,HS⟩:=JE.count (PySem.Within.cons name v hw);refine X9 (wpAny_lookBehind SI (by rw[SJ];exact pastItsLine_dict (Yq HS (by rw[YC];omega))) ?_);exact Yb (h _ ⟨(QN.2 _ (YM I.ne)).trans I.obj,JE,I.ne⟩ QN)
theorem aap {R:Result->Shared->Prop}{vs:nN}(X:K.In s.heap)(hm:PySem.W.makesIn K C=true)
 (hi:PySem.W.findIn K (.ref C) "__init__"=some (some (.ref f)))(hf:PySem.W.typeIn K (.ref f)=some (.type "function"))
 (h:codeAny (model prog w) (A.under (.builtin "type.__call__" ⟨.ref C::vs,kw⟩)) (.call (.ref f) ⟨.ref (s.heap.objs.size+1):: vs,kw⟩) (PySem.W.InitBack (s.heap.objs.size+1) R)
  {s with heap:=(s.heap.push PySem.W.emptyDict).push (PySem.W.instObj C s.heap.objs.size)}):
 codeAny (model prog w) A (.call (.ref C) ⟨vs,kw⟩) R s:=by
 obtain⟨hh,g,d,t,os⟩:=s;exact PySem.W.make_core (PySem.W.makes_of X hm) (PySem.W.looks_findIn X hi) (λself=>PySem.W.bind_fn X self hf) (.inl rfl) h
end
noncomputable def dX (f:Str)(v:V):List (Str×V)->List (Str×V)
 |[]=>[(f,v)]
 |(g,x):: r=>if g=f then(g,v):: r else(g,x):: dX f v r
theorem i7 (f g:Str)(v:V):∀fs:List (Str×V),(dX f v fs).lookup g=if g=f then some v else fs.lookup g
 |[]=>by
  show List.lookup g [(f,v)]=_
  by_cases h:g=f
  ·have hb:(g==f)=true:=Bl.mpr h;simp only[List.lookup,hb,Yh h]
  ·have hb:(g==f)=false:=Z5.mpr h;simp only[List.lookup,hb,Yd h]
 |(k,x):: r=>by
  have ih:=i7 f g v r;rw[show dX f v ((k,x):: r)=(if k=f then(k,v):: r else(k,x):: dX f v r) from rfl]
  by_cases hk:k=f
  ·rw[Yh hk]
   by_cases h:g=k
   ·have hb:(g==k)=true:=Bl.mpr h;simp only[List.lookup,hb,Yh (h.trans hk)]
   ·have hb:(g==k)=false:=Z5.mpr h;simp only[List.lookup,hb,Yd (λe:g=f=>h (e.trans hk.symm))]
  ·rw[Yd hk]
   by_cases h:g=k
   ·have hb:(g==k)=true:=Bl.mpr h;simp only[List.lookup,hb,Yd (λe:g=f=>hk (h.symm.trans e))]
   ·have hb:(g==k)=false:=Z5.mpr h;simp only[List.lookup,hb];exact ih
theorem iW (f:Str)(v:V):∀fs:List (Str×V),f∈(dX f v fs).map (·.1)/\∀g,g∈fs.map (·.1)->g∈(dX f v fs).map (·.1)
 |[]=>⟨by simp[dX],λg h=>by simp at h⟩
 |(k,x):: r=>by
  obtain⟨i1,i2⟩:=iW f v r;rw[show dX f v ((k,x):: r)=(if k=f then(k,v):: r else(k,x):: dX f v r) from rfl]
  by_cases hk:k=f
  ·rw[Yh hk];subst hk;exact⟨by simp,λg h=>by simpa using h⟩
  ·rw[Yd hk];refine⟨?_,λg h=>?_⟩
   ·rw[YF];exact Yi _ i1
   ·rw[YF] at h |-
    rcases Yn.mp h with e|e
    ·exact Yn.mpr (.inl e)
    ·exact Yi _ (i2 g e)
theorem i6 (f:Str)(v:V):∀fs:List (Str×V),(dX f v fs).length<=fs.length+1
 |[]=>by simp[dX]
 |(k,x):: r=>by
  have ih:=i6 f v r;rw[show dX f v ((k,x):: r)=(if k=f then(k,v):: r else(k,x):: dX f v r) from rfl]
  by_cases hk:k=f
  ·rw[Yh hk,YC,YC];omega
  ·rw[Yd hk,YC,YC];omega
theorem fO.some_of {v:V}{o:u6}(r:fO (some v) o):∃u,o=some u/\aG v u:=by
 cases o with
 |none=>exact(show False from r).elim
 |some u=>exact⟨u,rfl,r⟩
theorem fO.none_of {o:u6}(r:fO none o):o=none:=by
 cases o with
 |none=>rfl
 |some u=>exact(show False from r).elim
theorem aay {v:V}(r:aG v u):PySem.W.handedIn u=true:=by
 cases v with
 |non=>cases(show u=Value.none from r);rfl
 |bl b=>cases(show u=Value.bool b from r);rfl
 |int i=>obtain⟨t,e⟩:=(show ∃t,u=Value.int i t from r);cases e;rfl
 |str x=>obtain⟨t,e⟩:=(show ∃t,u=Value.str x t from r);cases e;rfl
 |byt b=>obtain⟨t,e⟩:=(show ∃t,u=Value.bytes b t from r);cases e;rfl
 |flt b=>obtain⟨t,e⟩:=(show ∃t,u=Value.float b t from r);cases e;rfl
 |ref a=>cases(show u=Value.ref a from r);rfl
 |ty n=>cases(show u=Value.type n from r);rfl
section
variable {P:yo}{w:World}{H H':Hp}{h h':Heap}{a C dx:Addr}{fs Sz:List (Str×V)}
theorem jt (hok:fX P w H h)(e:H a=some (.ins C dx fs)):∃mA,EE h a dx C mA/\(∀f,fO (fs.lookup f) (mA f))/\PySem.Within mA (fs.map (·.1))/\fs.length<=1000/\H dx=some (.own a):=by
 obtain⟨d,z,ne,ob,mA,n,r,q⟩:=(show bD P w H h a (.ins C dx fs) from hok a _ e);exact⟨mA,⟨ob,n,ne⟩,r,q,z,d⟩
end
structure Ej (K:PySem.W.Frag)(C:Addr):Prop where
 pg:PySem.W.plainGet K C Str.empty=true
 hd:PySem.W.hasDictIn K C=true
 po:PySem.W.plainOver K C=true
 sa:PySem.W.findIn K (.ref C) "__setattr__"=some (some (.builtin "object.__setattr__"))
theorem Ej.get (c:Ej K C)(f:Str):PySem.W.plainGet K C f=true:=c.pg
noncomputable def d0 (K:PySem.W.Frag)(C:Addr)(f:Str):Prop:=PySem.W.findIn K (.ref C) f=some none
theorem d0.ae6 {f:Str}(n:d0 K C f):PySem.W.takerIn K C f=some none:=by
 unfold PySem.W.takerIn;rw[show PySem.W.findIn K (.ref C) f=some none from n];rfl
structure Meth (K:PySem.W.Frag)(C:Addr)(m:Str)(f:Addr):Prop where
 at_:PySem.W.findIn K (.ref C) m=some (some (.ref f))
 fn:PySem.W.isFn K (.ref f)=true
 kp:PySem.W.keepIn K (.ref f)=true
section
variable {X:Cx}{pins:List (Addr×Obj)}{σ:St}{H:Hp}{s:Bi}{a C dx:Addr}{fs:List (Str×V)}{f:Str}{v:V}{A:Around}{E:pH}
theorem aaL {b:Bool}{Q:pH}(I:Inv X pins σ H s)(e:H a=some (.ins C dx fs))(c:Ej X.K C)(n:d0 X.K C f)(l:fs.lookup f=some v)
 (h:∀u s',Inv X pins σ H s'->aG v u->Q u s'):wpAny (model X.prog X.w) A (getAttr (.ref a) f b) Q E s:=by
 obtain⟨mA,O,r,_,_,_⟩:=jt I.hok e;obtain⟨u,hu,ru⟩:=fO.some_of (v:=v) (o:=mA f) (by rw[<-l];exact r f);exact aac I.kIn O (c.get f) c.hd n hu (aay ru) (h u _ (I.tok _) ru)
theorem jM {m:Str}{g:Addr}{Q:Value×List Value->Shared->Prop}(I:Inv X pins σ H s)(e:H a=some (.ins C dx fs))(c:Ej X.K C)(k:Meth X.K C m g)(l:fs.lookup m=none)
 (h:Q (.ref g,[.ref a]) s):wpAny (model X.prog X.w) A (getMethod (.ref a) m pl) Q E s:=by
 obtain⟨mA,O,r,_,_,_⟩:=jt I.hok e;have hn:mA m=none:=fO.none_of (by rw[<-l];exact r m);exact aad I.kIn O (c.get m) k.at_ k.fn hn h
theorem abO {Q:Unit->Shared->Prop}(I:Inv X pins σ H s)(e:H a=some (.ins C dx fs))(c:Ej X.K C)(n:d0 X.K C f)(hl:fs.length<1000)(ry:aG y u)
 (h:∀s',Inv X pins σ (upd H a (.ins C dx (dX f y fs))) s'->Q () s'):wpAny (model X.prog X.w) A (setAttr (.ref a) f u) Q E s:=by
 obtain⟨mA,O,r,wi,_,ho⟩:=jt I.hok e
 have hz:(fs.map (·.1)).length<=sizeLine:=by rw[Yg,ZX];omega
 refine aae I.kIn O c.sa c.po n.ae6 c.hd wi hz λh' O' sb=>h _ ?_;have hd:∃o,h'.get? dx=some o:=let⟨o,_,_,e',_⟩:=O'.ns;⟨o,e'⟩;refine I.write (x:=a) (e:=dx) (by rw[e];exact True.intro) (.inr ho) (λb q hb z=>(sb.2 b hb).trans z) hd ?_;refine⟨by rw[aA O.ne];exact ho,?_,O.ne,O'.obj,_,O'.ns,λg=>?_,λg hg=>?_⟩
 ·have:=i6 f y fs;omega
 ·show fO ((dX f y fs).lookup g) (if g=f then some u else mA g);rw[i7]
  by_cases q:g=f
  ·rw[Yh q,Yh q];exact ry
  ·rw[Yd q,Yd q];exact r g
 ·by_cases q:g=f
  ·rw[q];exact(iW f y fs).1
  ·refine(iW f y fs).2 g (wi g λz=>hg ?_);show(if g=f then some u else mA g)=none;rw[Yd q];exact z
theorem Inv.made (I:Inv X pins σ H s):Inv X pins σ (upd (upd H s.heap.objs.size (.own (s.heap.objs.size+1))) (s.heap.objs.size+1) (.ins C s.heap.objs.size []))
 {s with heap:=(s.heap.push PySem.W.emptyDict).push (PySem.W.instObj C s.heap.objs.size)}:=by
 have e1:(s.heap.push PySem.W.emptyDict).get? s.heap.objs.size=some PySem.W.emptyDict:=Yk s.heap rfl
 have e2:((s.heap.push PySem.W.emptyDict).push (PySem.W.instObj C s.heap.objs.size)).get? (s.heap.objs.size+1)=some (PySem.W.instObj C s.heap.objs.size):=by
  have:=Yk (s.heap.push PySem.W.emptyDict) (o:=PySem.W.instObj C s.heap.objs.size) rfl;rwa[Zb] at this
 have e3:(s.heap.push PySem.W.emptyDict).Ns s.heap.objs.size (λ_=>none):=⟨PySem.W.emptyDict,#[],_,e1,rfl,(λe he=>absurd he (by simp)),λ_=>rfl⟩;have I1:=I.laid (a:=s.heap.objs.size) (o:=.own (s.heap.objs.size+1)) (h':=s.heap.push PySem.W.emptyDict) (t':=s.toks) (λb u q=>Yc _ q) (Ye _) ⟨_,e1⟩;refine I1.laid (a:=s.heap.objs.size+1) (o:=.ins C s.heap.objs.size []) (t':=s.toks) (λb u q=>Yc _ q) (xn (Zb _ _)) ?_;have ne:s.heap.objs.size≠s.heap.objs.size+1:=Yr (BH _);refine⟨by rw[aA ne,ai],Yt _,ne,e2,λ_=>none,(Heap.Ns1.of_empty e3).at λo q=>Yc _ q,λ_=>True.intro,λy hy=>absurd rfl hy⟩
theorem TGs {prog:yo}{env:Env}{f:Str}{s:Bi}{Q:pH}(hb:attributeBase e f env (eval e env)=eval e env)
 (h:wpAny (model prog w) A (eval e env) (λo s₁=>wpAny (model prog w) A (getAttr o f true) Q E s₁) E s):wpAny (model prog w) A (eval (.Attribute e f pos) env) Q E s :=
 Attribute_any_ h (by rw[arm_eval_Attribute,hb])
end
noncomputable def ado (K:PySem.W.Frag)(ta:TE)(f:Str):TE:=λσ H Q=>ta σ H λx H1=>∃a C dx fs v,x=.ref a/\H1 a=some (.ins C dx fs)/\Ej K C/\d0 K C f/\fs.lookup f=some v/\Q v H1
noncomputable def adq (K:PySem.W.Frag)(ta tv:TE)(f:Str):TS:=λD σ H=>tv σ H λy H1=>ta σ H1 λx H2=>∃a C dx fs,x=.ref a/\H2 a=some (.ins C dx fs)/\Ej K C/\d0 K C f/\fs.length<1000 /\
 D.nx σ (upd H2 a (.ins C dx (dX f y fs)))
section
variable {X:Cx}{o e value:Expr}{f:Str}{pos pos' NH:Pos}{ta tv:TE}
theorem cN (he:PE X e ta)(hb:attributeBase e f X.env (eval e X.env)=eval e X.env):PE X (.Attribute e f pos) (ado X.K ta f):=by
 intro pins s σ H Q I h;refine TGs hb (bO (he pins s σ H _ I h) λu s1 z'=>?_);obtain⟨x,H1,I1,rx,a,C,dx,fs,v,ex,ea,c,n,l,q⟩:=z';subst ex;obtain rfl:u=Value.ref a:=rx;exact aaL I1 ea c n l λu' s2 I2 ru=>⟨v,H1,I2,ru,q⟩
theorem rG (ha:PE X o ta)(hv:PE X value tv)(hs:swapsWith value (some (.Attribute o f pos')) pos.line X.env=pure false):PS X (.Assign [.Attribute o f pos'] value pos) (adq X.K ta tv f):=by
 intro pins s σ H D I h;refine plainObj_wpAny_Assign_Attribute (bO (hv pins s σ H _ I h) λu s1 ⟨y,H1,I1,ry,q⟩=>bO (ha pins s1 σ H1 _ I1 q) λov s2 z'=>?_) hs;obtain⟨x,H2,I2,rx,a,C,dx,fs,ex,ea,c,n,l,q2⟩:=z';subst ex;obtain rfl:ov=Value.ref a:=rx;exact abO I2 ea c n l ry λs3 I3=>⟨σ,_,I3,q2⟩
end
section
variable {X:Cx}{pins:List (Addr×Obj)}{σ:St}{H:Hp}{s:Bi}{A:Around}{E:pH}{Q:pH}{c:Value}{b:Bool}
inductive zU (K:PySem.W.Frag)(H:Hp):V->Value->Prop where
 |non:zU K H .non (.type "NoneType")
 |bl (x:Bool):zU K H (.bl x) (.type "bool")
 |int (i:Int):zU K H (.int i) (.type "int")
 |str (x:Str):zU K H (.str x) (.type "str")
 |flt (x:UInt64):zU K H (.flt x) (.type "float")
 |lst {a:Addr}{xs:List V}(e:H a=some (.lst xs)):zU K H (.ref a) (.type "list")
 |frz {a:Addr}{o:Obj}{xs:List V}(e:H a=some (.frz o (.lst xs))):zU K H (.ref a) (.type "list")
 |tup {a:Addr}{xs:List V}(e:H a=some (.tup xs)):zU K H (.ref a) (.type "tuple")
 |dK {a:Addr}{Ft:List (Key×V)}(e:H a=some (.dK Ft)):zU K H (.ref a) (.type "dict")
 |dT {a:Addr}{Ft:List (List Key×V)}(e:H a=some (.dT Ft)):zU K H (.ref a) (.type "dict")
 |ins {a C dx:Addr}{fs:List (Str×V)}(e:H a=some (.ins C dx fs))(cl:Ej K C)(ha:PySem.W.findIn K (.ref C) "__class__"=some (some (.builtin "object.__class__")))
  (hn:PySem.W.specialIn K (.builtin "object.__class__") "__get__"=some (some (.builtin "getset_descriptor.__get__")))(MT:PySem.W.takesIn K (.builtin "object.__class__")=some true)
  (hm:PySem.W.mroIn K C (.type "object")=some true):zU K H (.ref a) (.ref C)
theorem adu {x:V}{t:Value}(I:Inv X pins σ H s)(rx:aG x u)(ty:zU X.K H x t)(e:PySem.W.kitOne X.K t c=some b)(h:∀tk,Q (.bool b) {s with toks:=tk}):
 wpAny (model X.prog X.w) A (call (.builtin "isinstance") [u,c]) Q E s:=by
 cases ty with
 |non=>cases(show u=Value.none from rx);exact Zk PySem.W.kitx_none I.kIn True.intro e (λz=>nomatch z) h
 |bl y=>cases(show u=Value.bool y from rx);exact Zk PySem.W.kitx_bool I.kIn True.intro e (λz=>nomatch z) h
 |int i=>obtain⟨t,q⟩:=(show ∃t,u=Value.int i t from rx);cases q;exact Zk PySem.W.kitx_int I.kIn True.intro e (λz=>nomatch z) h
 |str y=>obtain⟨t,q⟩:=(show ∃t,u=Value.str y t from rx);cases q;exact Zk PySem.W.kitx_str I.kIn True.intro e (λz=>nomatch z) h
 |flt y=>obtain⟨t,q⟩:=(show ∃t,u=Value.float y t from rx);cases q;exact Zk PySem.W.kitx_float I.kIn True.intro e (λz=>nomatch z) h
 |@lst a xs ea =>
  cases(show u=Value.ref a from rx)
  obtain⟨_,_,n,_,h1⟩:=(show bD X.prog X.w H s.heap a (.lst xs) from I.hok a _ ea);exact Zk PySem.W.kitx_list I.kIn ⟨_,h1,rfl⟩ e (λz=>nomatch z) h
 |@frz a ob xs ea =>
  cases(show u=Value.ref a from rx)
  obtain⟨_,_,_,n,_,h1⟩:=(show bD X.prog X.w H s.heap a (.frz ob (.lst xs)) from I.hok a _ ea);exact Zk PySem.W.kitx_list I.kIn ⟨_,h1,rfl⟩ e (λz=>nomatch z) h
 |@tup a xs ea =>
  cases(show u=Value.ref a from rx)
  obtain⟨_,_,_,p⟩:=(show bD X.prog X.w H s.heap a (.tup xs) from I.hok a _ ea);obtain⟨o,h1,h2,_⟩:=p;exact Zk PySem.W.kitx_tuple I.kIn ⟨o,h1,h2⟩ e (λz=>nomatch z) h
 |@dK a Ft ea =>
  cases(show u=Value.ref a from rx)
  obtain⟨_,_,vs,_,p⟩:=(show bD X.prog X.w H s.heap a (.dK Ft) from I.hok a _ ea);obtain⟨o,es,ep,h1,h2,_⟩:=p;exact Zk PySem.W.kitx_dict I.kIn ⟨o,h1,h2.1⟩ e (λz=>nomatch z) h
 |@dT a Ft ea =>
  cases(show u=Value.ref a from rx)
  obtain⟨_,_,xs,_,o,es,ep,h1,h2,_⟩:=(show bD X.prog X.w H s.heap a (.dT Ft) from I.hok a _ ea);exact Zk PySem.W.kitx_dict I.kIn ⟨o,h1,h2.1⟩ e (λz=>nomatch z) h
 |@ins a C dx fs ea cl ha hn MT hm =>
  cases(show u=Value.ref a from rx)
  obtain⟨mA,O,_⟩:=jt I.hok ea;obtain⟨od,J,_⟩:=O.look;exact Zk (PySem.W.kitx_own (cl.get _) cl.hd ha hn MT hm) I.kIn J e (λz=>nomatch z) h
end
structure wa (k:Nat)(A:Around):Prop where
 hd:A.handled=none
 dp:A.depth+3*k+5<recursionLimit
 un:A.units+16*k+200<cLine
 gd:A.guards=some []
theorem wa.mono {j:Nat}(r:wa k A)(h:j<=k):wa j A:=⟨r.hd,by have:=r.dp;omega,by have:=r.un;omega,r.gd⟩
theorem wa.deeper (r:wa (k+1) A)(env:Env):wa k (A.deeper env):=
 ⟨r.hd,by have:=r.dp;show A.depth+1+3*k+5<_;omega,by have:=r.un;show A.units+3+16*k+200<_;omega,r.gd⟩
theorem wa.in1 (r:wa (k+1) A):wa k A.in1 :=
 ⟨r.hd,by have:=r.dp;show A.depth+3*k+5<_;omega,by have:=r.un;show A.units+1+16*k+200<_;omega,r.gd⟩
theorem ad3 :(A.under (.builtin "type.__call__" ⟨.ref C::us,kw⟩)).depth=A.depth+1:=by
 first|rfl|simp[Around.under,Code.weight,Code.isCreation,Code.isGuard,Code.isCaller,Code.frames,Code.isFrame,guardIds]
theorem ad4 :(A.under (.builtin "type.__call__" ⟨.ref C::us,kw⟩)).guards=A.guards:=by
 first|rfl|simp[Around.under,Code.guards,Code.isGuard,guardIds,pushGuards]
theorem ad6 :(A.under (.builtin "type.__call__" ⟨.ref C::us,kw⟩)).units=A.units+1:=by
 first|rfl|simp[Around.under,Code.cUnits,Code.frames,Code.isFrame]
theorem wa.make (r:wa (k+1) A)(C:Addr)(us:nN)(kw:List (Str×Value)):wa k (A.under (.builtin "type.__call__" ⟨.ref C::us,kw⟩)):=
 ⟨r.hd,by have:=r.dp;rw[ad3];omega,by have:=r.un;rw[ad6];omega,by rw[ad4];exact r.gd⟩
theorem wa.depth (r:wa k A):A.depth<recursionLimit:=by have:=r.dp;omega
theorem wa.units (r:wa k A):A.units+64<cLine:=by have:=r.un;omega
theorem wa.adp (r:wa k A):A.units<cLine:=by have:=r.un;omega
noncomputable def Co:TA:=λ_ H Q=>Q [] H
noncomputable def bq (ta:TE)(tr:TA):TA:=λσ H Q=>ta σ H λx H1=>tr σ H1 λxs H2=>Q (x::xs) H2
section
variable {X:Cx}{e:Expr}{es:wI}{te:TE}{t:TA}{pos:Pos}
theorem ag:PA X [] Co:=λ_ _ _ _ H Q I h=>wF ⟨[],H,I,.nil,h⟩
theorem cq (ha:PE X e te)(hr:PA X es t)(hs:starEach (e::es) X.env=(false,eval e X.env):: starEach es X.env:=by rfl):PA X (e::es) (bq te t):=by
 intro pos pins s σ H Q I h;rw[hs];show wpAny _ _ (spliced ((false,eval e X.env):: backTo pos (starEach es X.env))) _ _ s;refine uV (bO (ha pins s σ H _ I h) λu s1 z'=>?_);obtain⟨x,H1,I1,r1,q1⟩:=z';exact bO (hr pos pins s1 σ H1 _ I1 q1) λus s2 ⟨xs,H2,I2,r2,q2⟩=>⟨x::xs,H2,I2,.cons r1 r2,q2⟩
noncomputable def ng (t:TA):TE:=λσ H Q=>t σ H λxs H1=>xs.length<=sizeLine/\∀p,H1 p=none->Q (.ref p) (upd H1 p (.tup xs))
noncomputable def rD (t:TA):TE:=λσ H Q=>t σ H λxs H1=>xs.length<=sizeLine/\∀p,H1 p=none->Q (.ref p) (upd H1 p (.lst xs))
theorem aJ {x1}(h:PA X es t):PE X (.Tuple es x1 pos) (ng t):=by
 intro pins s σ H Q I hq;refine wpAny_Tuple_spliced (bO (h pos pins s σ H _ I hq) λus s1 ⟨xs,H1,I1,r,z,q⟩=>⟨by rw[<-r.length];exact z,?_⟩);have hf:H1 s1.heap.objs.size=none:=I1.hok.fresh (Ye _);refine⟨.ref s1.heap.objs.size,upd H1 s1.heap.objs.size (.tup xs),I1.laid (t':=s1.toks) (λb u e=>Yc _ e) (Ye _) ?_,rfl,q _ hf⟩;exact⟨z,us,r,⟨_,Yk _ rfl,rfl,_,rfl⟩⟩
theorem cE (h:PA X es t):PE X (.List es pos) (rD t):=by
 intro pins s σ H Q I hq;refine wpAny_List_spliced (bO (h pos pins s σ H _ I hq) λus s1 ⟨xs,H1,I1,r,z,q⟩=>⟨by rw[<-r.length];exact z,?_⟩);have hf:H1 s1.heap.objs.size=none:=I1.hok.fresh (Ye _);refine⟨.ref s1.heap.objs.size,upd H1 s1.heap.objs.size (.lst xs),I1.laid (t':=s1.toks) (λb u e=>Yc _ e) (Ye _) ?_,rfl,q _ hf⟩;exact⟨z,us,0,r,Yk _ rfl⟩
end
noncomputable abbrev Sp:=List V->Hp->VK->XK->Prop
noncomputable abbrev EL:=List Env->Hp->Shared->XK->Value->Shared->Prop
structure DP (P:yo)(w:World)(K:PySem.W.Frag)(mg:u9)(base:Heap)(A:Around)(outer:List Env)(s:Bi)(H:Hp):Prop where
 frames:A.frames=some outer
 mod:Mod K mg base
 bs:∀b o,base.get? b=some o->s.heap.get? b=some o/\H b=none
 bsz:base.objs.size<=s.heap.objs.size
 acP:s.heap.FunFrames base outer
 frf:∀b∈eZ outer,H b=none
 hok:fX P w H s.heap
 bare:AllBare s.gens
noncomputable def CE (outer:List Env)(P:yo)(w:World)(H:Hp)(s:Bi)(Q:VK)(u:Value)(s':Bi):Prop :=
 ∃v H',s'.os=s.os/\AllBare s'.gens/\Un (eZ outer) [] H H' s.heap s'.heap/\fX P w H' s'.heap/\aG v u/\Q v H'
noncomputable def aea (CX:EL)(outer:List Env)(P:yo)(w:World)(H:Hp)(s:Bi)(Q:VK)(E:XK)(r:Result)(s':Bi):Prop :=
 match r with
 | .ok (.ret u)=>CE outer P w H s Q u s'
 | .ok _=>False
 | .error e=>CX outer H s E e s'
structure ya (P:yo)(w:World)(K:PySem.W.Frag)(mg:u9)(base:Heap)(CX:EL)(k:Nat)(f:Addr)(fd:BG)(ps:Ez)(sp:Sp):Prop where
 len:∀vs H Q E,sp vs H Q E->vs.length=ps.length
 run:∀(A:Around)(outer:List Env)(s:Bi)(H:Hp)(args:Args)(us:nN)(vs:List V)(Q:VK)(E:XK),wa k A->DP P w K mg base A outer s H->BindsTo s fd args (ps.zip us)->aR vs us->sp vs H Q E →
  codeAny (model P w) A (.call (.ref f) args) (aea CX outer P w H s Q E) s
variable {mg:u9}{base:Heap}{outer:List Env}
theorem DP.make (e:DP P w K mg base A outer s H)(C:Addr)(us:nN)(kw:List (Str×Value)):
 DP P w K mg base (A.under (.builtin "type.__call__" ⟨.ref C::us,kw⟩)) outer s H:=⟨by first|exact e.frames|(simpa[Around.under,Code.envs,Code.isFrame,pushEnvs] using e.frames),e.mod,e.bs,e.bsz,e.acP,e.frf,e.hok,e.bare⟩
theorem DP.in1 (e:DP P w K mg base A outer s H):
 DP P w K mg base A.in1 outer s H:=⟨e.frames,e.mod,e.bs,e.bsz,e.acP,e.frf,e.hok,e.bare⟩
section
variable {X:Cx}{pins:List (Addr×Obj)}{σ:St}{H:Hp}{s s':Bi}
theorem Inv.aep (I:Inv X pins σ H s):DP X.prog X.w X.K X.mg X.base X.A X.stack s H :=
 ⟨I.ok.frames,I.ok.mod,I.bs,Yq I.ok.bsz I.sz,I.stack,I.ac2,I.hok,I.bare⟩
theorem Inv.after (I:Inv X pins σ H s)(h:CE X.stack X.prog X.w H s Q u s'):EP X pins σ Q u s':=by
 obtain⟨v,H',os,bare,un,hok,r,q⟩:=h;obtain⟨hh,g,d,t,SK⟩:=s';obtain rfl:SK=s.os:=os;exact⟨v,H',I.call (h':=hh) (g':=g) (d':=d) (t':=t) (ch:=[]) un hok bare (λb z=>absurd z (by simp)),r,q⟩
end
noncomputable def yi (sp:Sp)(dvs:List V)(E:XK)(t:TA):TE:=λσ H Q=>t σ H λvs H1=>sp (vs++dvs) H1 Q E
noncomputable def AX (C:Addr)(m:Str)(sp:Sp)(dvs:List V)(E:XK)(ta:TE)(t:TA):TE:=λσ H Q=>ta σ H λx H1=>∃a dx fs,x=.ref a/\H1 a=some (.ins C dx fs)/\fs.lookup m=none /\
 t σ H1 λvs H2=>sp (x::(vs++dvs)) H2 Q E
noncomputable def AQ (C:Addr)(sp:Sp)(dvs:List V)(E:XK)(t:TA):TE:=λσ H Q=>t σ H λvs H1=>∀x dx,H1 x=none->H1 dx=none->dx≠x →
 sp (.ref x::(vs++dvs)) (upd (upd H1 dx (.own x)) x (.ins C dx [])) (λv H2=>v=.non/\Q (.ref x) H2) E
noncomputable def ck (K:PySem.W.Frag)(fd:BG)(ps:Ez)(ds:nN):Prop :=
 ∀(s:Bi)(us:nN),K.In s.heap->(us++ds).length=ps.length->BindsTo s fd ⟨us,[]⟩ (ps.zip (us++ds))
variable {ps:Ez}
theorem ck.all {fd:BG}(h:∀us:List Value,us.length=ps.length->bindArgs fd ⟨us,[]⟩=pure (ps.zip us)):ck K fd ps []:=λs us _ hl=>by
 rw[Zc] at hl |-;exact .of_eq (h us hl)
noncomputable def fH (CX:EL)(X:Cx)(E:XK):Prop:=∀(pins:List (Addr×Obj))(σ:St)(H:Hp)(s:Bi)(e:Value)(s':Bi),Inv X pins σ H s->CX X.stack H s E e s'->X.xe e s'
section
variable {X:Cx}{CX:EL}{k:Nat}{f C:Addr}{fd:BG}{ps:Ez}{sp:Sp}{dvs:List V}{ds:nN}{E:XK}{x m:Str}{p pos apos:Pos}{e o:Expr}{es:wI}{ta:TE}{t:TA}
theorem rq {us:nN}{vs:List V}(F:ya X.prog X.w X.K X.mg X.base CX k f fd ps sp)(hr:wa k X.A)(hb:ck X.K fd ps ds)(hd:aR dvs ds)(hx:fH CX X E)
 (I:Inv X pins σ H s)(r:aR vs us)(h:sp (vs++dvs) H Q E):wpAny (model X.prog X.w) X.A (call (.ref f) us) (EP X pins σ Q) X.xe s:=by
 have r2:aR (vs++dvs) (us++ds):=r.append hd
 have hl:(us++ds).length=ps.length:=by rw[<-r2.length];exact F.len _ _ _ _ h
 refine rC (qP (F.run X.A X.stack s H ⟨us,[]⟩ (us++ds) (vs++dvs) Q E hr I.aep (hb s us I.kIn hl) r2 h) λr s' hq=>?_)
 cases r with
 |error e=>exact hx pins σ H s e s' I hq
 |ok fl =>
  cases fl with
  |ret u=>exact I.after hq
  |next=>exact False.elim hq
  |brk=>exact False.elim hq
  |cont=>exact False.elim hq
theorem aH (F:ya X.prog X.w X.K X.mg X.base CX k f fd ps sp)(hr:wa k X.A)(hg:Gl X x)(hm:X.mg x=some (.ref f))(hk:PySem.W.keepIn X.K (.ref f)=true)(hb:ck X.K fd ps ds)(hd:aR dvs ds)(hx:fH CX X E)
 (ha:PA X (e::es) t)(HU:(x==("__debug__":Str))=false:=by decide)(he:starEach (e::es) X.env=(false,eval e X.env):: starEach es X.env:=by rfl)(GI:(backTo pos (starEach es X.env)).any (·.1)=false:=by rfl):
 PE X (.Call (.Name x p) (e::es) [] pos) (yi sp dvs E t):=by
 intro pins s σ H Q I h;refine Y6 (gs I hg hm ?_ HU);refine B6 (h₀:=X.base) I.ok.mod.kin hk (bO (ha pos pins s σ H _ I h) λus s1 ⟨vs,H1,I1,r,q⟩=>⟨I1.kIn,?_⟩) he GI;exact rq F hr hb hd hx I1 r q
theorem fE (he:PE X o ta)(c:Ej X.K C)(hm:Meth X.K C m f)(F:ya X.prog X.w X.K X.mg X.base CX k f fd ps sp)(hr:wa k X.A)(hb:ck X.K fd ps ds)(hd:aR dvs ds)(hx:fH CX X E)(ha:PA X (e::es) t)
 (JX:starEach (e::es) X.env=(false,eval e X.env):: starEach es X.env:=by rfl)(GI:(backTo pos (starEach es X.env)).any (·.1)=false:=by rfl)
 (ht:eval (.Call (.Attribute o m apos) (e::es) [] pos) X.env=(do
  let ov <-eval o X.env
  standAt apos.atName
  let(f,first) <-holding [ov] (getMethod ov m pl)
  callWith pos f first (backTo pos (starEach (e::es) X.env)) (backToKw pos (keywordEach [] X.env))):=by rfl):
 PE X (.Call (.Attribute o m apos) (e::es) [] pos) (AX C m sp dvs E ta t):=by
 intro pins s σ H Q I h;refine PySem.W.methodCall_KW (pl:=pl) (bO (he pins s σ H _ I h) λu s1 z'=>?_) ht;obtain⟨x,H1,I1,rx,a,dx,fs,ex,ea,l,q⟩:=z';subst ex;obtain rfl:u=Value.ref a:=rx;refine jM I1 ea c hm l ?_;refine B6 (first:=[.ref a]) (h₀:=X.base) I.ok.mod.kin hm.kp (bO (ha pos pins s1 σ H1 _ I1 q) λus s2 ⟨vs,H2,I2,r,q2⟩=>⟨I2.kIn,?_⟩) JX GI;exact rq (us:=.ref a::us) (vs:=.ref a::vs) F hr hb hd hx I2 (.cons rfl r) q2
theorem iq (he:PE X o ta)(c:Ej X.K C)(hm:Meth X.K C m f)(F:ya X.prog X.w X.K X.mg X.base CX k f fd ps sp)(hr:wa k X.A)(hb:ck X.K fd ps ds)(hd:aR dvs ds)(hx:fH CX X E)
 (ht:eval (.Call (.Attribute o m apos) [] [] pos) X.env=(do
  let ov <-eval o X.env
  standAt apos.atName
  let(f,first) <-holding [ov] (getMethod ov m pl)
  callWith pos f first (backTo pos (starEach [] X.env)) (backToKw pos (keywordEach [] X.env))):=by rfl):
 PE X (.Call (.Attribute o m apos) [] [] pos) (AX C m sp dvs E ta Co):=by
 intro pins s σ H Q I h;refine PySem.W.methodCall_KW (pl:=pl) (bO (he pins s σ H _ I h) λu s1 z'=>?_) ht;obtain⟨x,H1,I1,rx,a,dx,fs,ex,ea,l,q⟩:=z';subst ex;obtain rfl:u=Value.ref a:=rx;refine jM I1 ea c hm l ?_;exact PySem.W.callWith_K0 (first:=[.ref a]) I1.kIn hm.kp (rq (us:=[.ref a]) (vs:=[.ref a]) F hr hb hd hx I1 (.cons rfl .nil) q)
structure Mk (K:PySem.W.Frag)(C f:Addr):Prop where
 makes:PySem.W.makesIn K C=true
 init:PySem.W.findIn K (.ref C) "__init__"=some (some (.ref f))
 fn:PySem.W.isFn K (.ref f)=true
 kp:PySem.W.keepIn K (.ref C)=true
theorem n9 {us:nN}{vs:List V}(M:Mk X.K C f)(F:ya X.prog X.w X.K X.mg X.base CX k f fd ps sp)(hr:wa (k+1) X.A)(hb:ck X.K fd ps ds)(hd:aR dvs ds)
 (hx:fH CX X E)(I:Inv X pins σ H s)(r:aR vs us)
 (h:∀x dx,H x=none->H dx=none->dx≠x->sp (.ref x::(vs++dvs)) (upd (upd H dx (.own x)) x (.ins C dx [])) (λv H2=>v=.non/\Q (.ref x) H2) E):
 wpAny (model X.prog X.w) X.A (call (.ref C) us) (EP X pins σ Q) X.xe s:=by
 have hq:=h (s.heap.objs.size+1) s.heap.objs.size (I.hok.fresh (vO _)) (I.hok.fresh (Ye _)) (Yr (BH _));have I2:=Inv.made (C:=C) I;have r2:aR (V.ref (s.heap.objs.size+1):: (vs++dvs)) (Value.ref (s.heap.objs.size+1):: (us++ds)):=.cons rfl (r.append hd)
 have hl:(Value.ref (s.heap.objs.size+1):: us++ds).length=ps.length:=by
  have e:=r2.length;rw[F.len _ _ _ _ hq] at e;exact e.symm
 refine rC (aap (f:=f) I.kIn M.makes M.init (Bl.mp M.fn) (qP (F.run _ X.stack _ _ ⟨Value.ref (s.heap.objs.size+1):: us,[]⟩ (Value.ref (s.heap.objs.size+1):: (us++ds)) _ _ E (hr.make C us [])
  (I2.aep.make C us []) (hb _ (Value.ref (s.heap.objs.size+1):: us) I2.kIn hl) r2 hq) λr s' JZ=>?_))
 cases r with
 |error e=>exact hx pins σ _ _ e s' I2 JZ
 |ok fl =>
  cases fl with
  |ret u =>
   obtain⟨v,H',I3,rv,ev,q3⟩:=I2.after JZ;subst ev;exact⟨rv,⟨V.ref (s.heap.objs.size+1),H',I3,rfl,q3⟩⟩
  |next=>exact False.elim JZ
  |brk=>exact False.elim JZ
  |cont=>exact False.elim JZ
theorem aak (M:Mk X.K C f)(F:ya X.prog X.w X.K X.mg X.base CX k f fd ps sp)(hr:wa (k+1) X.A)(hg:Gl X x)(hm:X.mg x=some (.ref C))(hb:ck X.K fd ps ds)(hd:aR dvs ds)(hx:fH CX X E)
 (ha:PA X (e::es) t)(HU:(x==("__debug__":Str))=false:=by decide)(he:starEach (e::es) X.env=(false,eval e X.env):: starEach es X.env:=by rfl)(GI:(backTo pos (starEach es X.env)).any (·.1)=false:=by rfl):
 PE X (.Call (.Name x p) (e::es) [] pos) (AQ C sp dvs E t):=by
 intro pins s σ H Q I h;refine Y6 (gs I hg hm ?_ HU);refine B6 (h₀:=X.base) I.ok.mod.kin M.kp (bO (ha pos pins s σ H _ I h) λus s1 ⟨vs,H1,I1,r,q⟩=>⟨I1.kIn,?_⟩) he GI;exact n9 M F hr hb hd hx I1 r q
theorem aaq (M:Mk X.K C f)(F:ya X.prog X.w X.K X.mg X.base CX k f fd ps sp)(hr:wa (k+1) X.A)(hg:Gl X x)(hm:X.mg x=some (.ref C))(hb:ck X.K fd ps ds)(hd:aR dvs ds)(hx:fH CX X E)
 (HU:(x==("__debug__":Str))=false:=by decide):PE X (.Call (.Name x p) [] [] pos) (AQ C sp dvs E Co):=by
 intro pins s σ H Q I h;refine Y6 (gs I hg hm ?_ HU);exact PySem.W.callWith_K0 I.kIn M.kp (n9 (us:=[]) M F hr hb hd hx I .nil h)
end
noncomputable def PK (X:Cx)(J0:List Keyword)(t:TA):Prop :=
 ∀(pos:Pos)(pins:List (Addr×Obj))(s:Bi)(σ:St)(H:Hp)(Q:List V->Hp->Prop),Inv X pins σ H s->t σ H Q->wpAny (model X.prog X.w) X.A (evalAll ((backToKw pos (keywordEach J0 X.env)).map (·.2))) (AP X pins σ Q) X.xe s
section
variable {X:Cx}{CX:EL}{k:Nat}{f C:Addr}{fd:BG}{ps ks:Ez}{sp:Sp}{E:XK}{x m:Str}{p pos apos kpos:Pos}{e o:Expr}{es:wI}{J0:List Keyword}{te ta:TE}{t tk:TA}{nm:Option Str}
theorem aau:PK X [] Co:=λ_ _ _ _ H Q I h=>wpAny_evalAll_nil ⟨[],H,I,.nil,h⟩
theorem aaA (ha:PE X e te)(hr:PK X J0 t):PK X (⟨nm,e,kpos⟩::J0) (bq te t):=by
 intro pos pins s σ H Q I h;show wpAny _ _ (evalAll ((do let v <-eval e X.env;standAt pos;pure v):: (backToKw pos (keywordEach J0 X.env)).map (·.2))) _ _ s;refine wpAny_evalAll_cons (X9 (bO (ha pins s σ H _ I h) λu s1 ⟨x,H1,I1,r1,q1⟩=>X9 (v9 (Yb ?_))));exact bO (hr pos pins s1 σ H1 _ I1 q1) λus s2 ⟨xs,H2,I2,r2,q2⟩=>⟨x::xs,H2,I2,.cons r1 r2,q2⟩
variable {g:List Value->List Value->List Value}{gV:List V->List V->List V}
end
structure CP (N P:Ez)(sc:Scope):Prop where
 kind:sc.kind=.function
 co:sc.isCoroutine=false
 gen:sc.isGenerator=false
 nd:N.Nodup
 pre:N.take P.length=P
 par:∀x∈P,sc.names.lookup x=some .local\/sc.names.lookup x=some .cell
 aeq:∀y∈sc.names,y.2≠.free
theorem fe {P:Ez}{sc:Scope}(h:sc.kind=.function/\sc.isCoroutine=false/\sc.isGenerator=false/\N.Nodup/\N.take P.length=P/\(∀x∈P,sc.names.lookup x=some .local\/sc.names.lookup x=some .cell)/\∀y∈sc.names,y.2≠.free):CP N P sc:=⟨h.1,h.2.1,h.2.2.1,h.2.2.2.1,h.2.2.2.2.1,h.2.2.2.2.2.1,h.2.2.2.2.2.2⟩
variable {kindOf:Str->Option NameKind}
theorem lU :∀{binds:List (Str×Value)}{m:u9},(∀v,(x,v)∉binds)->bindL kindOf binds m x=m x
 |[],_,_=>rfl
 |(n,v):: r,m,h=>by
  unfold bindL;rw[lU λw hw=>h w (Yi _ hw)]
  split
  ·have:x≠n:=by rintro rfl;exact h v Yl
   simp[this]
  ·rfl
theorem mz :∀{binds:List (Str×Value)}{m:u9},(∀v,(x,v)∉binds)->bindC kindOf binds m x=m x
 |[],_,_=>rfl
 |(n,v):: r,m,h=>by
  unfold bindC;rw[mz λw hw=>h w (Yi _ hw)]
  split
  ·rfl
  ·have:x≠n:=by rintro rfl;exact h v Yl
   simp[this]
theorem lF {v:Value}:∀{P:Ez}{vs:nN}{i:Nat}{m:u9},P.Nodup->P[i]?=some x->vs[i]?=some v->kindOf x=some .local →
 bindL kindOf (P.zip vs) m x=some v
 |[],_,_,_,_,h,_,_=>by simp at h
 |_::_,[],_,_,_,_,h,_=>by simp at h
 |p::P,w::vs,0,m,nd,h1,h2,hk=>by
  simp at h1 h2;subst h1;subst h2;show bindL kindOf ((p,w):: P.zip vs) m p=_;unfold bindL;rw[lU λv hv=>(YT.mp nd).1 (vI hv).1,Yh hk];simp
 |p::P,w::vs,i+1,m,nd,h1,h2,hk=>by
  show bindL kindOf ((p,w):: P.zip vs) m x=_;unfold bindL;exact lF (i:=i) (YT.mp nd).2 (by simpa using h1) (by simpa using h2) hk
theorem mw {v:Value}:∀{P:Ez}{vs:nN}{i:Nat}{m:u9},P.Nodup->P[i]?=some x->vs[i]?=some v->kindOf x≠some .local →
 bindC kindOf (P.zip vs) m x=some v
 |[],_,_,_,_,h,_,_=>by simp at h
 |_::_,[],_,_,_,_,h,_=>by simp at h
 |p::P,w::vs,0,m,nd,h1,h2,hk=>by
  simp at h1 h2;subst h1;subst h2;show bindC kindOf ((p,w):: P.zip vs) m p=_;unfold bindC;rw[mz λv hv=>(YT.mp nd).1 (vI hv).1,Yd hk];simp
 |p::P,w::vs,i+1,m,nd,h1,h2,hk=>by
  show bindC kindOf ((p,w):: P.zip vs) m x=_;unfold bindC;exact mw (i:=i) (YT.mp nd).2 (by simpa using h1) (by simpa using h2) hk
noncomputable def gH (N:Ez)(vs:List V):St:=vs.map some++List.replicate (N.length-vs.length) none
noncomputable def gF (CX:EL)(P:yo)(w:World)(K:PySem.W.Frag)(mg:u9)(base:Heap)(N:Ez)(qual:Str)(scope:Scope)(f:Addr)(cd:Value)(A:Around)(outer:List Env)(s:Bi)(H:Hp)(E:XK):Cx where
 prog:=P
 w:=w
 K:=K
 mg:=mg
 base:=base
 A:=A.deeper (envOfC qual scope s.heap.objs.size f cd)
 N:=N
 s₀:=s
 H₀:=H
 env:=envOfC qual scope s.heap.objs.size f cd
 outer:=outer
 stack:=envOfC qual scope s.heap.objs.size f cd::outer
 ex:=[]
 calm:=true
 fn:=λ_=>true
 pn:=[]
 xe:=λe s'=>wpAny (model P w) (A.deeper (envOfC qual scope s.heap.objs.size f cd)) (leaving (envOfC qual scope s.heap.objs.size f cd) e) (λ_ NJ=>CX outer H s E e NJ) (λe' NJ=>CX outer H s E e' NJ) s'
theorem pB {sc:Scope}{n:Nat}(h:sc.names.lookup x=some .cell):∃c,(cellsFrom n sc.names []).lookup x=some c:=by
 have q:=PySem.W.cellsFrom_some sc.names n [] (.inl h);exact Option.isSome_iff_exists.mp q
theorem aaB {CX:EL}{qual:Str}{scope:Scope}{f:Addr}{cd:Value}{s1:Bi}{E:XK}{vs:List V}
 (S:CP N ps scope)(hd:A.handled=none)(e0:DP P w K mg base A outer s H)(hl:vs.length=ps.length)(r:aR vs us)
 (x:InCallC s s.heap.objs.size (bindL (envOfC qual scope s.heap.objs.size f cd).kindOf (ps.zip us) λ_=>none) (cellsFrom (s.heap.objs.size+1) scope.names []) (bindC (envOfC qual scope s.heap.objs.size f cd).kindOf (ps.zip us) λ_=>none) s1):
 Inv (gF CX P w K mg base N qual scope f cd A outer s H E) [] (gH N vs) H s1:=by
 have GI:ps.length<=N.length:=by have:=Ze List.length S.pre;rw[Y8] at this;omega
 obtain⟨h1,tk,rfl,hk⟩:=x.done;have J1:∀b:Addr,b∉(gF CX P w K mg base N qual scope f cd A outer s H E).ex:=λb z=>absurd (show b∈([]:List Addr) from z) (by simp)
 refine⟨⟨e0.mod,S.kind,rfl,rfl,Ye _,λy z c h1 h2=>?_,λy hy=>?_,λy c _ h=>?_,λ_=>hd,Around.frames_deeper e0.frames,.inr ⟨rfl,rfl⟩,λb z=>absurd z (J1 b),e0.bs,e0.bsz,λb _ _=>J1 b,λb z=>absurd z (J1 b),e0.acP,e0.frf⟩,
  rfl,e0.bare,Un.kept hk,⟨_,x.toInCall.ns,λi y v h1 h2 h3=>?_⟩,λy c h=>⟨_,x.cell y c h⟩,e0.hok.fresh (Ye _),λy c h=>?_,λp hp=>absurd (show p∈([]:List (Addr×Obj)) from hp) (by simp),e0.hok.kept hk,?_⟩
 ·exact name_of_addr x.apart (Z6 h1) (Z6 h2)
 ·have hy:scope.names.lookup y=some .cell\/scope.names.lookup y=some .free:=hy
  rcases hy with hy|hy
  ·exact pB hy
  ·exact absurd rfl (S.aeq _ (Z6 hy))
 ·exact Zi (x.above y c (Z6 h))
 ·have hi:i<vs.length:=by
   unfold gH at h2
   by_cases hi:i<vs.length
   ·exact hi
   ·rw[DZ (by simpa using hi)] at h2;rw[List.getElem?_replicate] at h2
    split at h2 <;> cases h2
  have ha:vs[i]?=some v:=by
   unfold gH at h2;rw[Bf (by simpa using hi),YU] at h2
   cases e:vs[i]? with
   |none=>rw[e] at h2;cases h2
   |some a=>rw[e] at h2;cases h2;rfl
  obtain⟨u,hu,rv⟩:=r.get ha
  have hp:ps[i]?=some y:=by
   rw[<-S.pre,List.getElem?_take_of_lt (by omega)];exact h1
  have QO:ps.Nodup:=by rw[<-S.pre];exact S.nd.sublist (CW _ _)
  refine⟨u,rv,?_⟩
  rcases S.par y (YA hp) with k|k
  ·exact .inl ⟨k,lF QO hp hu k⟩
  ·obtain⟨c,e⟩:=pB (n:=s.heap.objs.size+1) k;refine .inr ⟨.inl k,c,e,?_⟩;have q:=x.cell y c e;rw[mw QO hp hu (by show scope.names.lookup y≠_;rw[k];decide)] at q;exact q
 ·exact e0.hok.fresh (Zi (x.above y c (Z6 h)))
 ·unfold gH;show _=N.length;rw[Yw,Yg,zk];omega
theorem xu {CX:EL}{f:Addr}{name qual:Str}{params:Arguments}{scope:Scope}{dV kV doc pm Fv ct oc:Value}{an od:vi}
 {FX:Fm}{sp:Sp}(lk:K.lookup f=some ⟨oc,od,.func (PySem.W.fnOf name qual params body scope dV kV doc pm an Fv ct),FX⟩)(Gg:PySem.W.codeIn K Fv qual=true)(S:CP N ps scope)
 (len:∀vs H Q E,sp vs H Q E->vs.length=ps.length)
 (F3:∀(A:Around)(outer:List Env)(s:Bi)(H:Hp)(vs:List V)(Q:VK)(E:XK),wa k (A.deeper (envOfC qual scope s.heap.objs.size f Fv))->sp vs H Q E →
  ∃t,oO (gF CX P w K mg base N qual scope f Fv A outer s H E) body t/\t {nx:=λ_ H'=>Q .non H',rt:=Q} (gH N vs) H):
 ya P w K mg base CX (k+1) f (PySem.W.fnOf name qual params body scope dV kV doc pm an Fv ct) ps sp:=by
 refine⟨len,λA outer s H args us vs Q E hr e0 hb r GY=>?_⟩;have hl:=len _ _ _ _ GY;have KX:K.In s.heap:=e0.mod.kin.keeps λb o e=>(e0.bs b o e).1;have lim:s.heap.NoLimit:=e0.mod.nolimit.keeps λb o e=>(e0.bs b o e).1
 have Gp:∀y∈ps.zip us,scope.names.lookup y.1=some .local\/(scope.names.lookup y.1=some .cell/\((cellsFrom (s.heap.objs.size+1) scope.names []).lookup y.1).isSome=true):=λ⟨n,v⟩ hy=>by
  rcases S.par n (vI hy).1 with q|q
  ·exact .inl q
  ·exact .inr ⟨q,PySem.W.cellsFrom_some _ _ _ (.inl q)⟩
 refine codeAny_call_function hr.depth (KX _ _ lk) rfl S.co S.gen rfl (PySem.W.codeRec_of KX Gg) (hb _ _ _ _ ?_);refine wpAny_newFunctionEnv_cells S.kind Gp λenv he s1 x=>?_;subst he;refine⟨lim.keeps x.toInCall.keep,codeAny_func ?_⟩;obtain⟨t,ht,hq⟩:=F3 A outer s H vs Q E (hr.deeper _) GY;have I:Inv (gF CX P w K mg base N qual scope f Fv A outer s H E) [] (gH N vs) H s1:=aaB S hr.hd e0 hl r x;refine YR (ht [] s1 (gH N vs) H _ I hq) (λfl s' hs=>?_) λe s' hs=>hs
 have fin:∀{σ':St}{H':Hp}{v:V}{u:Value},Inv (gF CX P w K mg base N qual scope f Fv A outer s H E) [] σ' H' s'->aG v u->Q v H'->CE outer P w H s Q u s' :=
  λ{σ' H' v u} J rv q=>⟨v,H',J.os,J.bare,J.base,J.hok,rv,q⟩
 cases fl with
 |ret u =>
  obtain⟨v,σ',H',J,rv,q⟩:=hs;exact fin J rv q
 |next =>
  obtain⟨σ',H',J,q⟩:=hs;exact fin (v:=V.non) (u:=Value.none) J rfl q
 |brk =>
  obtain⟨_,_,_,q⟩:=hs;exact False.elim q
 |cont =>
  obtain⟨_,_,_,q⟩:=hs;exact False.elim q
section
variable {X:Cx}{x:Str}{p pos:Pos}{e:Expr}{es:wI}{t:TA}{id T:String}{r:List V->Hp->VK->Prop}
noncomputable def DS (r:List V->Hp->VK->Prop)(t:TA):TE:=λσ H Q=>t σ H λvs H1=>r vs H1 Q
theorem aE (hc:cS X (.builtin id) r)(hg:Gl X x)(hm:X.mg x=none)(hv:bootBuiltins x=some (.builtin id))(ha:PA X (e::es) t)(hn:x ≠ "__name__":=by decide)(HU:(x==("__debug__":Str))=false:=by decide)
 (he:starEach (e::es) X.env=(false,eval e X.env):: starEach es X.env:=by rfl)(GI:(backTo pos (starEach es X.env)).any (·.1)=false:=by rfl):PE X (.Call (.Name x p) (e::es) [] pos) (DS r t):=by
 intro pins s σ H Q I h;refine Y6 (eI I hg hm hv ?_ hn HU);exact PyProof.Rows.callWith_builtin1 (bO (ha pos pins s σ H _ I h) λus s1 ⟨vs,H1,I1,r1,q1⟩=>hc pins s1 σ H1 vs us Q I1 r1 q1) he GI
theorem bt (hc:cS X (.type T) r)(hg:Gl X x)(hm:X.mg x=none)(hv:bootBuiltins x=some (.type T))(ha:PA X (e::es) t)(hn:x ≠ "__name__":=by decide)(HU:(x==("__debug__":Str))=false:=by decide)
 (he:starEach (e::es) X.env=(false,eval e X.env):: starEach es X.env:=by rfl)(GI:(backTo pos (starEach es X.env)).any (·.1)=false:=by rfl):PE X (.Call (.Name x p) (e::es) [] pos) (DS r t):=by
 intro pins s σ H Q I h;refine Y6 (eI I hg hm hv ?_ hn HU);exact Z8 (bO (ha pos pins s σ H _ I h) λus s1 ⟨vs,H1,I1,r1,q1⟩=>hc pins s1 σ H1 vs us Q I1 r1 q1) he GI
end
section
variable {κ:Type} [DecidableEq κ]
noncomputable def iP (Ft:List (κ×V))(k:κ):Option V:=(Ft.find? λkv=>decide (kv.1=k)).map (·.2)
noncomputable def fF (Ft:List (κ×V))(k:κ)(v:V):List (κ×V):=
 if(Ft.any λkv=>decide (kv.1=k))=true then Ft.map (λkv=>if kv.1=k then(kv.1,v) else kv) else Ft++[(k,v)]
theorem ig {p:κ×V}{r:List (κ×V)}{k:κ}(e:p.1=k):iP (p::r) k=some p.2:=by simp[iP,zr,e]
theorem gh {p:κ×V}{r:List (κ×V)}{k:κ}(e:¬p.1=k):iP (p::r) k=iP r k:=by simp[iP,zr,e]
theorem kn (k:κ):∀Ft:List (κ×V),(Ft.any λkv=>decide (kv.1=k))=(iP Ft k).isSome
 |[]=>rfl
 |p::r=>by
  rw[CQ]
  by_cases e:p.1=k
  ·simp only[ig e,YD e,Bool.true_or,Option.isSome_some]
  ·rw[gh e,Yu e,Bool.false_or];exact kn k r
theorem je (Ft:List (κ×V))(k:κ)(v:V):(fF Ft k v).length<=Ft.length+1:=by
 unfold fF
 split
 ·rw[Yg];omega
 ·rw[Yw,YC,vK];omega
theorem fO.acY {o:Option V}{u:u6}(r:fO o u):o.isSome=u.isSome:=by
 cases o with
 |none=>cases u with
  |none=>rfl
  |some _=>exact(show False from r).elim
 |some _=>cases u with
  |none=>exact(show False from r).elim
  |some _=>rfl
theorem fO.getD {o:Option V}{u:u6}{d:V}{d':Value}(r:fO o u)(rd:aG d d'):aG (o.getD d) (u.getD d'):=by
 cases o with
 |none=>cases u with
  |none=>exact rd
  |some _=>exact(show False from r).elim
 |some _=>cases u with
  |none=>exact(show False from r).elim
  |some _=>exact r
theorem KV.val {Ft:List (κ×V)}{vs:List (κ×Value)}(r:KV Ft vs)(k:κ):fO (iP Ft k) (valueAt vs k):=by
 unfold KV at r
 induction r with
 |nil=>exact True.intro
 |@cons p q ps qs h t ih =>
  obtain⟨h1,h2⟩:=h
  by_cases e:p.1=k
  ·have e':q.1=k:=h1.symm.trans e
   have b:valueAt (q::qs) k=some q.2:=by simp[valueAt,zr,e']
   rw[ig e,b];exact h2
  ·have e':¬q.1=k:=λz=>e (h1.trans z)
   have b:valueAt (q::qs) k=valueAt qs k:=by simp[valueAt,zr,e']
   rw[gh e,b];exact ih
theorem KV.any {Ft:List (κ×V)}{vs:List (κ×Value)}(r:KV Ft vs)(k:κ):(Ft.any λkv=>decide (kv.1=k))=vs.any λkv=>decide (kv.1=k):=by
 unfold KV at r
 induction r with
 |nil=>rfl
 |cons h t ih=>rw[CQ,CQ,ih,h.1]
theorem KV.aer {Ft:List (κ×V)}{vs:List (κ×Value)}(r:KV Ft vs)(k:κ)(ry:aG y u):
 KV (Ft.map λkv=>if kv.1=k then(kv.1,y) else kv) (vs.map λkv=>if kv.1=k then(kv.1,u) else kv):=by
 unfold KV at r |-
 induction r with
 |nil=>exact .nil
 |@cons p q ps qs h t ih =>
  rw[YF,YF];refine .cons ?_ ih;obtain⟨h1,h2⟩:=h
  by_cases e:p.1=k
  ·rw[Yh e,Yh (h1.symm.trans e)];exact⟨h1,ry⟩
  ·rw[Yd e,Yd (λz=>e (h1.trans z))];exact⟨h1,h2⟩
theorem KV.put {Ft:List (κ×V)}{vs:List (κ×Value)}(r:KV Ft vs)(k:κ)(ry:aG y u):KV (fF Ft k y) (stored vs k u):=by
 unfold fF stored;rw[r.any k]
 by_cases e:(vs.any λkv=>decide (kv.1=k))=true
 ·rw[Yh e,Yh e];exact r.aer k ry
 ·rw[Yd e,Yd e];exact uU r ⟨rfl,ry⟩
theorem KV.length {Ft:List (κ×V)}{vs:List (κ×Value)}(r:KV Ft vs):Ft.length=vs.length:=xN r
end
theorem pb {k:Key}(r:aG (kV k) u):(bX P w).is k u=true:=by
 cases k with
 |inl i=>obtain⟨t,e⟩:=(show ∃t,u=Value.int i t from r);subst e;exact adW P w i t
 |inr x=>obtain⟨t,e⟩:=(show ∃t,u=Value.str x t from r);subst e;exact acB P w x t
theorem lO :∀{ks:List Key}{us:nN},aR (ks.map kV) us->ItemsAre (bX P w) ks us
 |[],_,r=>by rw[List.map_nil] at r;cases r;exact .nil
 |k::ks,_,r=>by
  rw[YF] at r
  cases r with
  |cons h t=>exact .cons (pb h) (lO t)
noncomputable abbrev KT (H:Hp):List (List Key×V)->List (List Key×Addr×Value)->Prop:=Paired λp q=>p.1=q.1/\H q.2.1=some (.tup (p.1.map kV))/\aG p.2 q.2.2
variable {Ft:List (List Key×V)}{xs:List (List Key×Addr×Value)}
theorem KT.val (r:KT H Ft xs)(k:List Key):fO (iP Ft k) ((atKey xs k).map (·.2)):=by
 induction r with
 |nil=>exact True.intro
 |@cons p q ps qs h t ih =>
  obtain⟨h1,_,h2⟩:=h
  by_cases e:p.1=k
  ·have e':q.1=k:=h1.symm.trans e
   have b:atKey (q::qs) k=some q.2:=by simp[atKey,zr,e']
   rw[ig e,b];exact h2
  ·have e':¬q.1=k:=λz=>e (h1.trans z)
   have b:atKey (q::qs) k=atKey qs k:=by simp[atKey,zr,e']
   rw[gh e,b];exact ih
theorem KT.aer (r:KT H Ft xs)(k:List Key)(ry:aG y u):
 KT H (Ft.map λkv=>if kv.1=k then(kv.1,y) else kv) (xs.map (putAt k u)):=by
 induction r with
 |nil=>exact .nil
 |@cons p q ps qs h t ih =>
  rw[YF,YF];refine .cons ?_ ih;obtain⟨h1,h2,h3⟩:=h;unfold putAt
  by_cases e:p.1=k
  ·rw[Yh e,Yh (h1.symm.trans e)];exact⟨h1,h2,ry⟩
  ·rw[Yd e,Yd (λz=>e (h1.trans z))];exact⟨h1,h2,h3⟩
theorem KT.put (r:KT H Ft xs)(k:List Key)(hb:H b=some (.tup (k.map kV)))(ry:aG y u):
 KT H (fF Ft k y) (storedH xs k b u):=by
 have e:(Ft.any λkv=>decide (kv.1=k))=(atKey xs k).isSome:=by
  rw[kn,(r.val k).acY,Option.isSome_map]
 unfold fF storedH;rw[e]
 by_cases q:(atKey xs k).isSome=true
 ·rw[Yh q,Yh q];exact r.aer k ry
 ·rw[Yd q,Yd q];exact uU r ⟨rfl,hb,ry⟩
theorem KT.keeps (r:KT H Ft xs)(ht:∀b ys,H b=some (.tup ys)->H' b=some (.tup ys)):KT H' Ft xs :=
 Paired.adn r λ_ _ z=>⟨z.1,ht _ _ z.2.1,z.2.2⟩
section
variable {P:yo}{w:World}{H:Hp}{h:Heap}{a:Addr}
theorem AF {u:HO}(ok:fX P w H h)(e:Rd H a u):bD P w H h a u:=e.ok ok
theorem jS {Ft:List (Key×V)}(ok:fX P w H h)(e:Rd H a (.dK Ft)):Ft.length<=sizeLine/\(a==sysModules)=false/\∃vs,KV Ft vs/\h.DictOf (bX P w) a vs :=
 show bD P w H h a (.dK Ft) from AF ok e
theorem aaC {Ft:List (Key×V)}(ok:fX P w H h)(e:H a=some (.dK Ft)):Ft.length<=sizeLine/\(a==sysModules)=false/\∃vs,KV Ft vs/\h.DictOf (bX P w) a vs:=jS ok (.inl e)
theorem kF {ks:List Key}(ok:fX P w H h)(e:H a=some (.tup (ks.map kV))):(tupleKind (bX P w)).is h ks a:=by
 obtain⟨_,its,r,o,h1,h2,n,h3⟩:=(show bD P w H h a (.tup (ks.map kV)) from ok a _ e);exact⟨o,its.toArray,n,h1,h2,h3,by simpa using lO r⟩
theorem l8 (ok:fX P w H h)(e:Rd H a (.dT Ft)):Ft.length<=sizeLine/\(a==sysModules)=false /\
 ∃xs,KT H Ft xs/\h.DictOfH (tupleKind (bX P w)) a xs:=by
 obtain⟨z,y,xs,r,o,es,ep,h1,h2,h3,h4,h5⟩:=(show bD P w H h a (.dT Ft) from AF ok e);refine⟨z,y,xs,r,o,es,ep,h1,h2,h3,h4,λx hx=>?_,h5⟩
 have all:∀{l:List (List Key×V)}{m:List (List Key×Addr×Value)},KT H l m->∀x∈m,(tupleKind (bX P w)).is h x.1 x.2.1:=by
  intro l m q
  induction q with
  |nil=>intro x hx;exact nomatch hx
  |@cons p q ps qs hq t ih =>
   intro x hx
   rcases Yn.mp hx with e|hx
   ·subst e;exact kF ok (by rw[<-hq.1];exact hq.2.1)
   ·exact ih x hx
 exact all r x hx
theorem aaS (ok:fX P w H h)(e:H a=some (.dT Ft)):Ft.length<=sizeLine/\(a==sysModules)=false /\
 ∃xs,KT H Ft xs/\h.DictOfH (tupleKind (bX P w)) a xs:=l8 ok (.inl e)
end
noncomputable def iH (H:Hp)(a:Addr)(y:V)(r:Option V):Prop :=
 (∃Ft k,Rd H a (.dK Ft)/\y=kV k/\r=iP Ft k)\/∃Ft k b,Rd H a (.dT Ft)/\y=.ref b/\H b=some (.tup (k.map kV))/\r=iP Ft k
noncomputable def p0 (H:Hp)(a:Addr)(y v:V)(H':Hp):Prop :=
 (∃Ft k,H a=some (.dK Ft)/\y=kV k/\Ft.length<sizeLine/\H'=upd H a (.dK (fF Ft k v))) \/
 ∃Ft k b,H a=some (.dT Ft)/\y=.ref b/\H b=some (.tup (k.map kV))/\Ft.length<sizeLine/\H'=upd H a (.dT (fF Ft k v))
theorem iH.t {b:Addr}{k:List Key}(e:H a=some (.dT Ft))(eb:H b=some (.tup (k.map kV))):iH H a (.ref b) (iP Ft k):=.inr ⟨Ft,k,b,.inl e,rfl,eb,rfl⟩
theorem p0.t {b:Addr}{k:List Key}{v:V}(e:H a=some (.dT Ft))(eb:H b=some (.tup (k.map kV)))(hl:Ft.length<sizeLine):
 p0 H a (.ref b) v (upd H a (.dT (fF Ft k v))):=.inr ⟨Ft,k,b,e,rfl,eb,hl,rfl⟩
section
variable {X:Cx}{pins:List (Addr×Obj)}{σ:St}{H:Hp}{s:Bi}{a:Addr}{y v:V}{u r:Value}{o:Option V}{A:Around}{E:pH}
theorem Inv.big (I:Inv X pins σ H s):sysModules<s.heap.objs.size:=by
 have h:mainGlobals<s.heap.objs.size:=(I.mod.glob.keeps I.bk).lt;exact YX (by decide) h
theorem abj {Q:pH}(hu:A.units+1<cLine)(I:Inv X pins σ H s)(g:iH H a y (some v))(ry:aG y u)(h:∀w' s',Inv X pins σ H s'->aG v w'->Q w' s'):
 wpAny (model X.prog X.w) A (getItem (.ref a) u) Q E s:=by
 rcases g with⟨Ft,k,e,ey,l⟩|⟨Ft,k,b,e,ey,eb,l⟩
 ·subst ey;obtain⟨z,hd,vs,rel,dd⟩:=jS I.hok e;obtain⟨w',hw,Gb⟩:=fO.some_of (v:=v) (o:=valueAt vs k) (by rw[l];exact rel.val k);exact wpAny_getItem_of (pb ry) dd.mapOf hw (h w' _ (I.tok _) Gb)
 ·subst ey
  cases(show u=Value.ref b from ry)
  obtain⟨z,hd,xs,rel,dd⟩:=l8 I.hok e;obtain⟨w',hw,Gb⟩:=fO.some_of (v:=v) (o:=(atKey xs k).map (·.2)) (by rw[l];exact rel.val k);obtain⟨p,hp,JF⟩:=YH.mp hw;refine wpAny_getItem_heap (Fo hu) (kF I.hok eb) dd hp ?_;rw[JF];exact h w' _ (I.tok _) Gb
theorem abG {Q:pH}(hu:A.units+1<cLine)(I:Inv X pins σ H s)(g:iH H a y o)(ry:aG y u)(h:∀s',Inv X pins σ H s'->Q (.bool o.isSome) s'):
 wpAny (model X.prog X.w) A (compareOp .In u (.ref a)) Q E s:=by
 rcases g with⟨Ft,k,e,ey,l⟩|⟨Ft,k,b,e,ey,eb,l⟩
 ·subst ey;obtain⟨z,hd,vs,rel,dd⟩:=jS I.hok e;refine wpAny_in_of (pb ry) hd dd.mapOf ?_;rw[<-(rel.val k).acY,<-l];exact h _ (I.tok _)
 ·subst ey
  cases(show u=Value.ref b from ry)
  obtain⟨z,hd,xs,rel,dd⟩:=l8 I.hok e;refine wpAny_in_heap (Fo hu) (kF I.hok eb) hd dd ?_;have q:=(rel.val k).acY;rw[Option.isSome_map] at q;rw[<-q,<-l];exact h _ (I.tok _)
theorem sO {h':Heap}{t':Nat}{ob:HO}(I:Inv X pins σ H s)(mu:DO (H a))(hs:Heap.SameBut a s.heap h')(he:∃q,h'.get? a=some q)(new:bD X.prog X.w (upd H a ob) h' a ob):
 Inv X pins σ (upd H a ob) {s with heap:=h',toks:=t'}:=
 I.write (x:=a) (e:=a) mu (.inl rfl) (λb q hb z=>(hs.2 b hb).trans z) he new
theorem Sig {h':Heap}{Ft:List (Key×V)}{vs:List (Key×Value)}(z:Ft.length<=sizeLine)(hd:(a==sysModules)=false)(rel:KV Ft vs)(dd:h'.DictOf (bX P w) a vs):
 bD P w H' h' a (.dK Ft):=⟨z,hd,vs,rel,dd⟩
theorem TyX {Q:Unit->Shared->Prop}(hu:A.units+1<cLine)(I:Inv X pins σ H s)(g:p0 H a y v H')(ry:aG y u)(rv:aG v r)(h:∀s',Inv X pins σ H' s'->Q () s'):
 wpAny (model X.prog X.w) A (setItem (.ref a) u r) Q E s:=by
 rcases g with⟨Ft,k,e,ey,l,eH⟩|⟨Ft,k,b,e,ey,eb,l,eH⟩
 ·subst ey eH;obtain⟨z,hd,vs,rel,dd⟩:=aaC I.hok e
  have hz:vs.length<=sizeLine:=by rw[<-rel.length];exact z
  have hl:(fF Ft k v).length<=sizeLine:=by have:=je Ft k v;omega
  refine wpAny_setItem_pairs (hsz:=hz) (pb ry) dd λh' MU hs=>h _ ?_;have he:∃q,h'.get? a=some q:=let⟨q,_,_,hq,_⟩:=MU;⟨q,hq⟩;exact sO I (by rw[e];exact True.intro) hs he (Sig hl hd (rel.put k rv) MU)
 ·subst ey eH
  cases(show u=Value.ref b from ry)
  obtain⟨z,hd,xs,rel,dd⟩:=aaS I.hok e
  have hz:xs.length<=sizeLine:=by rw[<-xN rel];exact z
  have hl:(fF Ft k v).length<=sizeLine:=by have:=je Ft k v;omega
  refine wpAny_setItem_heap (hsz:=hz) (Fo hu) (kF I.hok eb) dd λh' MU hs=>h _ ?_;obtain⟨q,es,ep,hq,h2,h3,h4,_,h5⟩:=MU;refine sO I (by rw[e];exact True.intro) hs ⟨q,hq⟩ ⟨hl,hd,_,(rel.put k eb rv).keeps λc ys ec=>?_,q,es,ep,hq,h2,h3,h4,h5⟩;rw[aA (A8 ec e (λz=>nomatch z))];exact ec
end
noncomputable def DN (i:Expr):Prop:=∀ov iv,subscripted i false ov iv=operate [ov,iv] (getItem ov iv)
theorem adF {prog:yo}{E:pH}{env:Env}{value slice:Expr}{T id:String}{Q:pH}
 (hl:typeLookup (.type T) "__getitem__"=pure (some (.builtin id)))(hs:DN slice)
 (h:wpAny (model prog w) A (eval value env) (λo s₁=>wpAny (model prog w) A (eval slice env) (λi s₂=>s₂.TypeIs o T/\wpAny (model prog w) A (getItem o i) Q E s₂) E s₁) E s):
 wpAny (model prog w) A (eval (.Subscript value slice pos) env) Q E s:=by
 refine Subscript_ (YR h (λo s₁ h₁=>YR h₁ (λi s₂ h₂=>?_) λ_ _ x=>x) λ_ _ x=>x);obtain⟨hT,h₂⟩:=h₂;unfold subscriptTail;refine X9 ?_;rw[getitemInPython_of_ne hT.not_modules];refine X9 (wpAny_specialOf hT hl ?_)
 have fin:wpAny (model prog w) A (subscripted slice false o i) (λr s₃=>wpAny (model prog w) A (letTemporaryGo value o r>>=λ_=>pure r) Q E s₃) E s₂:=by
  rw[hs o i];exact wpAny_operating (YR h₂ (λr s₃ h₃=>X9 (wpAny_letTemporaryGo (Yb h₃))) λ_ _ x=>x)
 first
  |exact Yb (X9 fin)
  |exact X9 (Yb (X9 fin))
  |exact X9 fin
theorem ad5 {o:Option V}(I:Inv X pins σ H s)(g:iH H a y o):s.TypeIs (.ref a) "dict":=by
 rcases g with⟨Ft,k,e,_,_⟩|⟨Ft,k,b,e,_,_,_⟩
 ·obtain⟨_,_,vs,_,dd⟩:=jS I.hok e;exact dd.typeIs
 ·obtain⟨_,_,xs,_,dd⟩:=l8 I.hok e;exact dd.typeIs
noncomputable def ad7 (td ty:TE):TE:=λσ H Q=>td σ H λx H1=>ty σ H1 λy H2=>∃a v,x=.ref a/\iH H2 a y (some v)/\Q v H2
noncomputable def ad8 (ty td:TE):TE:=λσ H Q=>ty σ H λy H1=>td σ H1 λx H2=>∃a o,x=.ref a/\iH H2 a y o/\Q (.bl o.isSome) H2
noncomputable def aaw (td ty tv:TE):TS:=λD σ H=>tv σ H λv H1=>td σ H1 λx H2=>ty σ H2 λy H3=>∃a H4,x=.ref a/\p0 H3 a y v H4/\D.nx σ H4
section
variable {X:Cx}{o i e value:Expr}{pos pos' NH:Pos}{td ty tv:TE}
theorem m9 (hu:X.A.units+1<cLine)(ho:PE X o td)(hi:PE X i ty)(hs:DN i):PE X (.Subscript o i pos) (ad7 td ty):=by
 intro pins s σ H Q I h;refine adF PySem.F.slot_dict_getitem.lookup hs (bO (ho pins s σ H _ I h) λu s1 ⟨x,H1,I1,rx,q1⟩=>bO (hi pins s1 σ H1 _ I1 q1) λiv s2 z'=>?_);obtain⟨y,H2,I2,ry,a,v,ex,g,q2⟩:=z';subst ex;obtain rfl:u=Value.ref a:=rx;exact⟨ad5 I2 g,abj hu I2 g ry λw' s3 I3 Gb=>⟨v,H2,I3,Gb,q2⟩⟩
theorem aaH (hu:X.A.units+1<cLine)(hi:PE X i ty)(ho:PE X o td):PC X .In i o (ad8 ty td):=by
 intro pins s σ H Q I h;refine bO (hi pins s σ H _ I h) λiv s1 ⟨y,H1,I1,ry,q1⟩=>bO (ho pins s1 σ H1 _ I1 q1) λu s2 z'=>?_;obtain⟨x,H2,I2,rx,a,ov,ex,g,q2⟩:=z';subst ex;obtain rfl:u=Value.ref a:=rx;exact abG hu I2 g ry λs3 I3=>⟨.bl ov.isSome,H2,I3,rfl,q2⟩
theorem tJ (hu:X.A.units+1<cLine)(ho:PE X o td)(hi:PE X i ty)(hv:PE X value tv)(hs:swapsWith value (some (.Subscript o i pos')) pos.line X.env=pure false):
 PS X (.Assign [.Subscript o i pos'] value pos) (aaw td ty tv):=by
 intro pins s σ H D I h;refine wpAny_Assign_Subscript (bO (hv pins s σ H _ I h) λr s1 ⟨v,H1,I1,rv,q1⟩=>bO (ho pins s1 σ H1 _ I1 q1) λu s2 ⟨x,H2,I2,rx,q2⟩=>bO (hi pins s2 σ H2 _ I2 q2) λiv s3 z'=>?_) hs;obtain⟨y,H3,I3,ry,a,H4,ex,g,q3⟩:=z';subst ex;obtain rfl:u=Value.ref a:=rx;exact TyX hu I3 g ry rv λs4 I4=>⟨σ,H4,I4,q3⟩
end
theorem aaI (h:Heap)(hb:sysModules<h.objs.size):bD P w H (h.push {cls:=.type "dict",data:=.dict #[]}) h.objs.size (.dT []):=
 ⟨Yt _,Z5.mpr (YM (Yr hb)),[],.nil,_,#[],0,Yk _ rfl,⟨rfl,rfl,rfl⟩,rfl,rfl,yr⟩
noncomputable def aes:TE:=λ_ H Q=>∀p,H p=none->Q (.ref p) (upd H p (.dT []))
section
variable {X:Cx}{pos:Pos}
theorem n5:PE X (.Dict [] [] pos) aes:=λpins s σ H Q I h =>
 wpAny_Dict_empty ⟨.ref s.heap.objs.size,_,I.laid (a:=s.heap.objs.size) (o:=.dT []) (t':=s.toks) (λ_ _ q=>Yc _ q) (Ye _) (aaI s.heap I.big),rfl,h _ (I.hok.fresh (Ye _))⟩
end
structure M2 (X:Cx)(o:Expr)(m:Str)(apos:Pos)(e f:Expr)(FF:Pos):Prop where
 base:attributeBase o m X.env (eval o X.env)=eval o X.env
 few:((backTo FF (starEach [e,f] X.env)).all (λx=>!x.1)&&(backToKw FF (keywordEach [] X.env)).all (λx=>x.1.isSome)
  && decide (([e,f]:wI).length+([]:List Keyword).length+(if([]:List Keyword).isEmpty then 0 else 1)<30))=true
 line:(apos.endLine==FF.line)=true
 trees:backTo FF (starEach [e,f] X.env)=[(false,eval e X.env),(false,eval f X.env)]
noncomputable def E3 (H:Hp)(a:Addr):Prop:=(∃Ft,Rd H a (.dK Ft))\/∃Ft,Rd H a (.dT Ft)
theorem aaJ (I:Inv X pins σ H s)(d:E3 H a):
 s.TypeIs (.ref a) "dict"/\(∀b,Value.ref a=.ref b->∃ob,s.heap.get? b=some ob/\ob.dict=none)/\(a==sysModules)=false:=by
 rcases d with⟨Ft,e⟩|⟨Ft,e⟩
 ·obtain⟨_,hd,vs,_,dd⟩:=jS I.hok e;refine⟨dd.typeIs,λb q=>?_,hd⟩
  cases q
  obtain⟨ob,_,_,h1,h2,_⟩:=dd;exact⟨ob,h1,h2.2.1⟩
 ·obtain⟨_,hd,xs,_,dd⟩:=l8 I.hok e;refine⟨dd.typeIs,λb q=>?_,hd⟩
  cases q
  obtain⟨ob,_,_,h1,h2,_⟩:=dd;exact⟨ob,h1,h2.2.1⟩
section
variable {X:Cx}{pins:List (Addr×Obj)}{σ:St}{H:Hp}{s:Bi}{a:Addr}{y d:V}{u r:Value}{o:Option V}{A:Around}{E:pH}
theorem aaK {Q:pH}(hu:A.units+1<cLine)(I:Inv X pins σ H s)(g:iH H a y o)(ry:aG y u)(rd:aG d r)(h:∀w' s',Inv X pins σ H s'->aG (o.getD d) w'->Q w' s'):
 wpAny (model X.prog X.w) A (call (.builtin "dict.get") [.ref a,u,r]) Q E s:=by
 rcases g with⟨Ft,k,e,ey,l⟩|⟨Ft,k,b,e,ey,eb,l⟩
 ·subst ey;obtain⟨z,hd,vs,rel,dd⟩:=jS I.hok e;refine call_meetsIn B0 dd.typeIs PySem.F.entry_dict_get (PySem.F.args_dict_get_3 _ _ _) (meets_dict_get_default (bX X.prog X.w) a (pb ry) hd r) ⟨_,dd.mapOf,h _ _ (I.tok _) ?_⟩;rw[l];exact(rel.val k).getD rd
 ·subst ey
  cases(show u=Value.ref b from ry)
  obtain⟨z,hd,xs,rel,dd⟩:=l8 I.hok e;refine call_meetsIn B0 dd.typeIs PySem.F.entry_dict_get (PySem.F.args_dict_get_3 _ _ _) (meetsH_dict_get_default (tupleKind (bX X.prog X.w)) a b hd r) ⟨Fo hu,k,xs,kF I.hok eb,dd,h _ _ (I.tok _) ?_⟩;rw[l];exact(rel.val k).getD rd
end
noncomputable def aaO (td ty tx:TE):TE:=λσ H Q=>td σ H λx H1=>∃a,x=.ref a/\E3 H1 a/\ty σ H1 λy H2=>tx σ H2 λz H3=>∃o,iH H3 a y o/\Q (o.getD z) H3
section
variable {X:Cx}{o e f:Expr}{apos FF:Pos}{td ty tx:TE}
theorem aaQ (hu:X.A.units+1<cLine)(ho:PE X o td)(he:PE X e ty)(hf:PE X f tx)(m:M2 X o "get" apos e f FF):PE X (.Call (.Attribute o "get" apos) [e,f] [] FF) (aaO td ty tx):=by
 intro pins s σ H Q I h;refine wpAny_Call_method m.base m.few m.line PySem.F.plainAttrs_dict B0 PySem.F.type_dict_get (bO (ho pins s σ H _ I h) λu s1 z'=>?_);obtain⟨x,H1,I1,rx,a,ex,d,q1⟩:=z';subst ex;obtain rfl:u=Value.ref a:=rx;obtain⟨t1,t2,_⟩:=aaJ I1 d;refine⟨t1,t2,?_⟩;rw[m.trees]
 refine zC rfl (vJ (uV (bO (he pins s1 σ H1 _ I1 q1) λiv s2 ⟨y,H2,I2,ry,q2⟩ =>
  uV (bO (hf pins s2 σ H2 _ I2 q2) λfv s3 ⟨z,H3,I3,rz,ov,g,q3⟩=>wF ?_))))
 exact aaK hu I3 g ry rz λw' s4 I4 Gb=>⟨_,H3,I4,Gb,q3⟩
end
end L2
namespace HT
open PySem PyProof.Rows
noncomputable def cT:List Int->List Int->Bool
 |[],[]=>false
 |[],_::_=>true
 |_::_,[]=>false
 |x::xs,y::ys=>if x=y then cT xs ys else decide (x<y)
theorem d9 (x y:Int)(xs ys:List Int):cT (x::xs) (y::ys)=if x=y then cT xs ys else decide (x<y):=rfl
theorem aaW:cT [] []=false:=rfl
theorem aaZ (y:Int)(ys:List Int):cT [] (y::ys)=true:=rfl
theorem aa8 (x:Int)(xs:List Int):cT (x::xs) []=false:=rfl
theorem abk (A:Around)(s:Bi)(a:Int)(t:Tok)(c:Int)(u:Tok):∃e,SeqAt.EqAt A s (.int a t) (.int c u) e/\(e=true↔a=c):=
 ⟨(a==c),zG a t c u,by simp⟩
theorem abl (A:Around)(s:Bi)(a:Int)(t:Tok)(c:Int)(u:Tok)(prog:yo)(w:World)(E:pH)(Q:pH)(h:Q (.bool (decide (a<c))) s):
 wpAny (model prog w) A (richCompare .Lt (.int a t) (.int c u)) Q E s :=
 (PyProof.Rows.lt_int h:wpAny (model prog w) A (compareOp .Lt (.int a t) (.int c u)) Q E s)
section
open PySem.SeqAt
open PySem.AutoSeq1 (wpAny_loadPart')
open PySem.MeetsSeq PySem.MeetsSeq2 PySem.MeetsSeq3
theorem aby (l b:Addr)(items FJ:Cu)(n n2:Nat)(dd HJ:vi)(sl GU:Fm)(ns ms:List Int)(hi:IntsAre items.toList ns)(hj:IntsAre FJ.toList ms):
 Meets (Builtin.«tuple.__lt__» ⟨[.ref l,.ref b],[]⟩)
  (λ_ R s=>s.heap.get? l=some {cls:=.type "tuple",dict:=dd,data:=.seq items n,slots:=sl}/\s.heap.get? b=some {cls:=.type "tuple",dict:=HJ,data:=.seq FJ n2,slots:=GU} /\
   R (.ok (.ret (.bool (cT ns ms)))) s):=
 .of_wp λprog w A R s h=>by
  obtain⟨hp,g,d,tk,os⟩:=s;obtain⟨hl,hb,h⟩:=h;have f2:=AutoSeq1.sub_tuple_tuple
  have z1:items.size=ns.length:=by rw[<-hi.length];simp
  have z2:FJ.size=ms.length:=by rw[<-hj.length];simp
  wp_walk using wpAny_loadPart' hl,wpAny_loadPart' hb,wpAny_forIn_list _ (λrest b s'=>b.1=none/\s'=⟨hp,g,d,tk,os⟩/\∃(vs ws:nN)(HK GP:List Int),rest=vs.zip ws /\
   IntsAre vs HK/\IntsAre ws GP/\HK.length+FJ.size=GP.length+items.size/\R (.ok (.ret (.bool (cT HK GP)))) ⟨hp,g,d,tk,os⟩) _
  case turn =>
   rintro⟨y,x⟩ rest b s' ⟨FZ,rfl,vs,ws,HK,GP,hz,NK,MV,hlen,hR⟩
   cases NK with
   |nil=>rw[List.zip_nil_left] at hz;cases hz
   |cons a t NL =>
    cases MV with
    |nil=>rw[List.zip_nil_right] at hz;cases hz
    |cons c u NM =>
     rw[List.zip_cons_cons] at hz
     injection hz with SM F4
     injection SM with hy hx
     subst hy hx;rw[d9] at hR;simp only[YC] at hlen;obtain⟨e,he,J5⟩:=abk A.in1 ⟨hp,g,d,tk,os⟩ a t c u;refine X9 (he prog w _ _ ?_)
     cases e with
     |true =>
      rw[Yh (J5.mp rfl)] at hR
      wp_walk
      exact⟨rfl,rfl,_,_,_,_,F4,NL,NM,by omega,hR⟩
     |false =>
      rw[Yd (λq=>absurd (J5.mpr q) Yp)] at hR;have SN:=abl A.in1 ⟨hp,g,d,tk,os⟩ a t c u prog w
      wp_walk using SN
      exact⟨_,rfl,by simpa using hR⟩
  case fin =>
   rintro⟨b1,b2⟩ s' ⟨FZ,rfl,vs,ws,HK,GP,hz,NK,MV,hlen,hR⟩;simp only at FZ;subst FZ
   have hv:cT HK GP=decide (items.size<FJ.size):=by
    cases NK with
    |nil =>
     cases MV with
     |nil =>
      simp only[vK] at hlen;rw[aaW];exact(Yu (by omega)).symm
     |cons c u hw =>
      simp only[vK,YC] at hlen;rw[aaZ];exact(YD (by omega)).symm
    |cons a t hv =>
     cases MV with
     |nil =>
      simp only[vK,YC] at hlen;rw[aa8];exact(Yu (by omega)).symm
     |cons c u hw =>
      rw[List.zip_cons_cons] at hz
      cases hz
   rw[hv] at hR
   wp_walk
   exact⟨_,rfl,by simpa[Builtin.Tuple.tupleCompareSizes] using hR⟩
  case h =>
   exact⟨rfl,rfl,items.toList,FJ.toList,ns,ms,rfl,hi,hj,by omega,h⟩
end
section
variable {prog:yo}{w:World}{A:Around}{E:pH}{s:Bi}
theorem abz {l b:Addr}{items FJ:Cu}{ns ms:List Int}{Q:pH}(hl:IsTup s.heap l items)(hb:IsTup s.heap b FJ)(hi:IntsAre items.toList ns)(hj:IntsAre FJ.toList ms)
 (hu:A.units<cLine)(h:Q (.bool (cT ns ms)) s):wpAny (model prog w) A (compareOp .Lt (.ref l) (.ref b)) Q E s:=by
 obtain⟨⟨cls,dd,data,sl⟩,ho,hc,n,hd⟩:=id hl;obtain⟨⟨IQ,HJ,data2,GU⟩,GF,Gq,n2,hd2⟩:=id hb;simp only at hc hd Gq hd2;subst hc hd Gq hd2
 exact richCompare_meets_room (op:=.Lt) ⟨_,ho,rfl⟩ ⟨_,GF,rfl⟩ PySem.F.slot_tuple_lt PySem.F.entry_tuple_lt (PySem.F.args_tuple_lt_2 _ _) (aby l b items FJ n n2 dd HJ sl GU ns ms hi hj)
  ⟨ho,GF,show Value.bool (cT ns ms)≠Value.notImplemented/\Q (.bool (cT ns ms)) s from⟨(λx=>nomatch x),h⟩⟩ hu
theorem abF {t b:Addr}{vs ws:nN}{Q:pH}(ht:IsTup s.heap t vs.toArray)(hb:IsTup s.heap b ws.toArray)(hv:vs≠[])
 (h1:ws=[]->Q (.ref t) s)(h2:ws≠[]->Q (.ref s.heap.objs.size) {s with heap:=s.heap.push {cls:=.type "tuple",data:=.seq (vs++ws).toArray} })
 (hsz:vs.length+ws.length<=sizeLine):wpAny (model prog w) A (binaryOp .Add (.ref t) (.ref b)) Q E s:=by
 obtain⟨⟨cls,dd,data,sl⟩,ho,hc,n,hd⟩:=id ht;obtain⟨⟨IQ,HJ,data2,GU⟩,GF,Gq,n2,hd2⟩:=id hb;simp only at hc hd Gq hd2;subst hc hd Gq hd2
 have e:vs.toArray++ws.toArray=(vs++ws).toArray:=by simp
 by_cases hw:ws=[]
 ·exact BJ ⟨_,ho,rfl⟩ ⟨_,GF,rfl⟩ qI kX uQ DU (C3 _ _)
   (tuple_addW1 t b vs.toArray ws.toArray n n2 dd HJ sl GU (by simpa using hv) (by simp[hw])) ⟨ho,GF,h1 hw⟩
 ·refine BJ ⟨_,ho,rfl⟩ ⟨_,GF,rfl⟩ qI kX uQ DU (C3 _ _)
   (tuple_addW2 t b vs.toArray ws.toArray n n2 dd HJ sl GU (by simpa using hv) (by simpa using hw) (by rw[Yj,Yj];exact hsz)) ⟨ho,GF,?_⟩
  rw[e];exact h2 hw
noncomputable def c7 (n d:Nat):Option Int->Nat
 |none=>d
 |some v=>if v<0 then(v+(n:Int)).toNat else min v.toNat n
theorem abH (n d k:Nat):c7 n d (some (k:Int))=min k n:=by
 show(if(k:Int)<0 then((k:Int)+(n:Int)).toNat else min (k:Int).toNat n)=min k n;rw[Yd (by omega),YV]
theorem abW (n d:Nat)(hd:d<=n)(o:Option Int):c7 n d o<=n:=by
 cases o with
 |none=>exact hd
 |some v =>
  show(if v<0 then(v+(n:Int)).toNat else min v.toNat n)<=n
  by_cases hv:v<0
  ·rw[Yh hv];omega
  ·rw[Yd hv];exact ZP _ _
theorem tY (v:Int)(n d:Nat):(if v<0 then max (v+(n:Int)) 0 else min v (n:Int))=((c7 n d (some v):Nat):Int):=by
 show(if v<0 then max (v+(n:Int)) 0 else min v (n:Int))=(((if v<0 then(v+(n:Int)).toNat else min v.toNat n):Nat):Int)
 by_cases hv:v<0
 ·simp only[Yh hv];omega
 ·simp only[Yd hv];omega
theorem ach (lo hi:Option Int)(n:Nat):Builtin.Slice.sliceAdjust lo hi 1 (n:Int)=(((c7 n 0 lo:Nat):Int),((c7 n n hi:Nat):Int)):=by
 have h1:¬((1:Int)<0):=by omega
 unfold Builtin.Slice.sliceAdjust;simp only[h1,Zv];refine rf ?_ ?_
 ·cases lo with
  |none=>rfl
  |some v=>exact tY v n 0
 ·cases hi with
  |none=>rfl
  |some v=>exact tY v n n
theorem aci (i j:Nat):Builtin.Slice.slicePlaces (i:Int) (j:Int) 1=j-i:=by
 unfold Builtin.Slice.slicePlaces
 have h1:(1:Int)>0:=by omega
 simp only[h1,ZR,Int.ediv_one]
 split <;> omega
theorem jR {v:Value}{o:Option Int}{Q:Option Int->Shared->Prop}(p:IsPart v o)(h:Q o s):wpAny (model prog w) A (Builtin.Slice.slicePartIndex v) Q E s:=by
 cases p with
 |none=>exact slicePart_none h
 |int i t=>exact slicePart_int h
theorem eN {sl:Addr}{vl vu:Value}{lo hi:Option Int}{n:Nat}{Q:Int×Int×Nat->Shared->Prop}(hs:s.heap.IsSliceOf sl vl vu .none)(pl:IsPart vl lo)(pu:IsPart vu hi)
 (h:Q (((c7 n 0 lo:Nat):Int),1,c7 n n hi-c7 n 0 lo) s):wpAny (model prog w) A (Builtin.Slice.sliceApplied (.ref sl) (pure (n:Int))) Q E s:=by
 obtain⟨os,IS,MW,IT⟩:=id hs;unfold Builtin.Slice.sliceApplied Builtin.Slice.sliceFields;refine X9 (X9 (YW IS IT (x:=vl) rfl (X9 (YW IS IT (x:=vu) rfl (X9 (YW IS IT (x:=.none) rfl (Yb ?_)))))));refine X9 (slicePart_none ?_);show wpAny _ _ (if((1:Int)==0)=true then _ else _) _ _ s;rw[Yd (by decide)];refine X9 (jR pl (X9 (jR pu (X9 (Yb ?_)))));show wpAny _ _ (match Builtin.Slice.sliceAdjust lo hi 1 (n:Int) with|(lo,hi)=>pure (lo,(1:Int),Builtin.Slice.slicePlaces lo hi 1)) _ _ s;rw[ach lo hi n];show wpAny _ _ (pure (((c7 n 0 lo:Nat):Int),(1:Int),Builtin.Slice.slicePlaces ((c7 n 0 lo:Nat):Int) ((c7 n n hi:Nat):Int) 1)) _ _ s;rw[aci];exact Yb h
theorem ac5 (xs:Cu)(i k:Nat):((List.range k).filterMap λ(m:Nat)=>xs[((i:Int)+(m:Int)*1).toNat]?).toArray=((xs.toList.drop i).take k).toArray:=by
 have e:(λ(m:Nat)=>xs[((i:Int)+(m:Int)*1).toNat]?)=λm=>xs[i+m]?:=by
  funext m
  have:((i:Int)+(m:Int)*1).toNat=i+m:=by omega
  rw[this]
 rw[e];have:=pick_run xs i k;rw[List.filterMap_map] at this;have e2:((λx=>xs[x]?) ∘ λx=>i+x)=λm=>xs[i+m]?:=rfl;rw[e2] at this;rw[this]
theorem ac7 {t sl:Addr}{items:Cu}{vl vu:Value}{lo hi:Option Int}{Q:pH}(ht:IsTup s.heap t items)(hs:s.heap.IsSliceOf sl vl vu .none)(pl:IsPart vl lo)(pu:IsPart vu hi)
 (hw:¬(c7 items.size 0 lo=0/\c7 items.size items.size hi=items.size))
 (h:Q (.ref s.heap.objs.size) {s with heap:=s.heap.push {cls:=.type "tuple",data:=.seq ((items.toList.drop (c7 items.size 0 lo)).take (c7 items.size items.size hi-c7 items.size 0 lo)).toArray} })
 (hsz:items.size<=sizeLine):wpAny (model prog w) A (getItem (.ref t) (.ref sl)) Q E s:=by
 have GQ:sizeOk (.seq ((items.toList.drop (c7 items.size 0 lo)).take (c7 items.size items.size hi-c7 items.size 0 lo)).toArray):=by
  show((items.toList.drop (c7 items.size 0 lo)).take (c7 items.size items.size hi-c7 items.size 0 lo)).toArray.size<=sizeLine;rw[Yj,Y8,vn,Yz];omega
 have hj:c7 items.size items.size hi<=items.size:=abW _ _ (Ye _) hi;obtain⟨os,IS,MW,IT⟩:=id hs;have NO:s.TypeIs (.ref sl) "slice":=⟨os,IS,MW⟩;unfold getItem
 try with_reducible refine YY ?_
 first|refine X9 (Yb ?_)|skip
 refine X9 (wpAny_sequenceKey ht.typeIs (by decide) ?_)
 refine X9 (YN (name:=Str.ofString "__getitem__") ht.typeIs Za
  (YJ Za ht.typeIs entry_tuple_getitem ?_ (args_tuple_getitem _ _)))
 show wpAny _ _ (Builtin.Tuple.tupleItemsOf (.ref t)>>=_) _ _ s;refine X9 (tupleItemsOf_ ht ?_);refine X9 (kU NO ?_);rw[Yh (by decide)];refine X9 (eN hs pl pu ?_)
 have IU:¬((((c7 items.size 0 lo:Nat):Int)==0&&(1:Int)==1&&(c7 items.size items.size hi-c7 items.size 0 lo)==items.size)=true):=by
  intro q;rw[Yy,Yy] at q;have q1:((c7 items.size 0 lo:Nat):Int)=0:=eq_of_beq q.1.1;have q2:c7 items.size items.size hi-c7 items.size 0 lo=items.size:=eq_of_beq q.2;exact hw ⟨by omega,by omega⟩
 show wpAny _ _ (if(((c7 items.size 0 lo:Nat):Int)==0&&(1:Int)==1&&(c7 items.size items.size hi-c7 items.size 0 lo)==items.size)=true then _ else _) _ _ s;rw[Yd IU,ac5]
 first
  |exact X9 (m:=Builtin.Tuple.tupleExact _) (YB (Yb ⟨_,rfl,Yb h⟩) GQ)
  |exact X9 (m:=Builtin.Tuple.tupleExact _) (YB (X9 (Yb (Yb ⟨_,rfl,Yb h⟩))) GQ)
  |exact X9 (X9 (m:=Builtin.Tuple.tupleExact _) (YB (Yb (Yb ⟨_,rfl,Yb h⟩)) GQ))
  |exact X9 (X9 (m:=Builtin.Tuple.tupleExact _) (YB (Yb ⟨_,rfl,Yb h⟩) GQ))
end
end HT
namespace L2
open PySem PySem.Spec PyProof.Rows
noncomputable abbrev TO:=St->Hp->(Option Int->Hp->Prop)->Prop
noncomputable def PO (X:Cx)(e:Option Expr)(t:TO):Prop :=
 ∀(pins:List (Addr×Obj))(s:Bi)(σ:St)(H:Hp)(Q:Option Int->Hp->Prop),Inv X pins σ H s->t σ H Q →
  wpAny (model X.prog X.w) X.A (evalPart e X.env) (λu s'=>∃o H',Inv X pins σ H' s'/\IsPart u o/\Q o H') X.xe s
noncomputable def zA:TO:=λ_ H Q=>Q none H
noncomputable def A2 (t:TE):TO:=λσ H Q=>t σ H λx H1=>∃i,x=.int i/\Q (some i) H1
theorem jB {ns:List Int}:∀{us:nN},aR (ns.map V.int) us->IntsAre us ns:=by
 induction ns with
 |nil=>intro us r;rw[List.map_nil] at r;cases r;exact .nil
 |cons n ns ih =>
  intro us r;rw[YF] at r
  cases r with
  |cons r1 r2 =>
   obtain⟨t,e⟩:=r1;subst e;exact .cons n t (ih r2)
variable {xs:List V}
section
variable {X:Cx}{e:Expr}{te:TE}{lo hi:Option Expr}{tl th:TO}{pos p2:Pos}
theorem mY:PO X none zA:=by
 intro pins s σ H Q I h;rw[evalPart_none];exact Yb ⟨none,H,I,.none,h⟩
theorem nM (h:PE X e te):PO X (some e) (A2 te):=by
 intro pins s σ H Q I hw;rw[evalPart_some];refine bO (h pins s σ H _ I hw) λu s1 z'=>?_;obtain⟨x,H1,I1,r1,q1⟩:=z';obtain⟨i,rfl,q⟩:=q1;obtain⟨t,rfl⟩:=r1;exact⟨some i,H1,I1,.int i t,q⟩
noncomputable def Ee (X:Cx)(r:V->Option Int->Option Int->Hp->VK->Prop):Prop :=
 ∀(pins:List (Addr×Obj))(s:Bi)(σ:St)(H:Hp)(x:V)(v vl vu:Value)(lo hi:Option Int)(sl:Addr)(Q:VK),Inv X pins σ H s->aG x v->s.heap.IsSliceOf sl vl vu .none->IsPart vl lo->IsPart vu hi->r x lo hi H Q →
  ∃T id,typeLookup (.type T) "__getitem__"=pure (some (.builtin id))/\s.TypeIs v T/\wpAny (model X.prog X.w) X.A (getItem v (.ref sl)) (EP X pins σ Q) X.xe s
noncomputable def EY (r:V->Option Int->Option Int->Hp->VK->Prop)(te:TE)(tl th:TO):TE:=λσ H Q=>te σ H λx H1=>tl σ H1 λl H2=>th σ H2 λu H3=>r x l u H3 Q
theorem ky {r:V->Option Int->Option Int->Hp->VK->Prop}(hr:Ee X r)(he:PE X e te)(hl:PO X lo tl)(hu:PO X hi th):PE X (.Subscript e (.Slice lo hi none p2) pos) (EY r te tl th):=by
 intro pins s σ H Q I h;refine Subscript_ (bO (he pins s σ H _ I h) λv s1 z'=>?_);obtain⟨x,H1,I1,r1,q1⟩:=z';refine wpAny_Slice (bO (hl pins s1 σ H1 _ I1 q1) λvl s2 ⟨l,H2,I2,pl,q2⟩=>bO (hu pins s2 σ H2 _ I2 q2) λvu s3 z'=>?_);obtain⟨u,H3,I3,pu,q3⟩:=z';rw[evalPart_none];refine Yb ?_;have I4:Inv X pins σ H3 {s3 with heap:=s3.heap.push {cls:=.type "slice",data:=.fields #[vl,vu,.none]} }:=I3.kept (t':=s3.toks) λb ob q=>Yc _ q;obtain⟨T,id,hT,ht,hg⟩:=hr pins {s3 with heap:=s3.heap.push {cls:=.type "slice",data:=.fields #[vl,vu,.none]} } σ H3 x v vl vu l u s3.heap.objs.size Q I4 r1 (Heap.IsSliceOf.new ..) pl pu q3;show wpAny (model X.prog X.w) X.A (subscriptTail e (.Slice lo hi none p2) v (.ref s3.heap.objs.size)) (EP X pins σ Q) X.xe {s3 with heap:=s3.heap.push {cls:=.type "slice",data:=.fields #[vl,vu,.none]} };exact tail_any (ops:=[.ref s3.heap.objs.size,v]) ht hT hg (by with_unfolding_all rfl)
noncomputable def hU (xs:List V)(lo hi:Option Int):List V:=(xs.drop (HT.c7 xs.length 0 lo)).take (HT.c7 xs.length xs.length hi-HT.c7 xs.length 0 lo)
theorem ja (xs:List V)(lo hi:Option Int):(hU xs lo hi).length<=xs.length:=by
 unfold hU;rw[Y8,vn];omega
noncomputable def aef (K:PySem.W.Frag):V->Option Int->Option Int->Hp->VK->Prop:=λx lo hi H Q=>∃a xs,x=.ref a/\aU K H a xs /\
 ¬(HT.c7 xs.length 0 lo=0/\HT.c7 xs.length xs.length hi=xs.length)/\∀p,H p=none->Q (.ref p) (upd H p (.tup (hU xs lo hi)))
theorem aeg:Ee X (aef X.K):=by
 intro pins s σ H x v vl vu lo hi sl Q I rx hs pl pu h;obtain⟨a,xs,rfl,hx,hw,q⟩:=h
 cases rx
 obtain⟨its,r,ht,hz⟩:=I.tuple hx
 have hlen:its.toArray.size=xs.length:=by rw[Yj];exact r.length.symm
 refine⟨"tuple",_,Za.lookup,ht.typeIs,?_⟩;refine HT.ac7 ht hs pl pu (by rw[hlen];exact hw) ?_ (by rw[hlen];exact hz);rw[hlen];refine⟨.ref s.heap.objs.size,_,I.laid (t':=s.toks) (o:=.tup (hU xs lo hi)) (λb ob q=>Yc _ q) (Ye _) ?_,rfl,q _ (I.hok.fresh (Ye _))⟩;exact⟨Yq (ja xs lo hi) hz,_,(r.drop (HT.c7 xs.length 0 lo)).take (HT.c7 xs.length xs.length hi-HT.c7 xs.length 0 lo),IsTup.new _ _⟩
noncomputable def aeh (K:PySem.W.Frag):R2:=λx y H Q=>∃a b xs ys,x=.ref a/\y=.ref b/\aU K H a xs/\aU K H b ys/\xs≠[]/\xs.length+ys.length<=sizeLine /\
 (ys=[]->Q (.ref a) H)/\(ys≠[]->∀p,H p=none->Q (.ref p) (upd H p (.tup (xs++ys))))
theorem aR.ac3 {us:nN}(r:aR xs us):us=[]↔xs=[]:=by
 cases r with
 |nil=>simp
 |cons _ _=>simp
theorem ur:eA X (binaryOp .Add) (aeh X.K):=by
 intro pins s σ H x y v u Q I rx ry h;obtain⟨a,b,xs,ys,rfl,rfl,ha,hb,hx,hz,q1,q2⟩:=h
 cases rx
 cases ry
 obtain⟨its,r1,p1,_⟩:=I.tuple ha;obtain⟨Fx,r2,p2,_⟩:=I.tuple hb;refine HT.abF p1 p2 (λz=>hx (r1.ac3.mp z)) (λz=>⟨.ref a,H,I,rfl,q1 (r2.ac3.mp z)⟩) (λz=>?_) (by rw[<-r1.length,<-r2.length];exact hz);refine⟨.ref s.heap.objs.size,_,I.laid (t':=s.toks) (o:=.tup (xs++ys)) (λb ob q=>Yc _ q) (Ye _) ?_,rfl,q2 (λw=>z (r2.ac3.mpr w)) _ (I.hok.fresh (Ye _))⟩;exact⟨by rw[Yw];exact hz,_,r1.append r2,IsTup.new _ _⟩
end
noncomputable def xj (n:Nat)(i:Int):Option Nat:=if 0<=i then(if i<n then some i.toNat else none) else if -(n:Int)<=i then some (i+n).toNat else none
noncomputable def p9 {α:Type}(xs:List α)(i:Int):Option α:=(xj xs.length i).bind λj=>xs[j]?
variable {n:Nat}
theorem sN {i:Int}{j:Nat}(h:xj n i=some j):seqIndex? i n=some j/\j<n/\-(n:Int)<=i/\i<n:=by
 unfold xj at h
 by_cases h0:0<=i
 ·rw[Yh h0] at h
  by_cases h1:i<n
  ·rw[Yh h1] at h;have e:i.toNat=j:=Option.some.inj h;exact⟨by rw[seqIndex_of h0 h1,e],by omega,by omega,h1⟩
  ·rw[Yd h1] at h;cases h
 ·rw[Yd h0] at h
  by_cases h1:-(n:Int)<=i
  ·rw[Yh h1] at h;have e:(i+n).toNat=j:=Option.some.inj h;exact⟨by rw[seqIndex_neg (by omega) h1,e],by omega,h1,by omega⟩
  ·rw[Yd h1] at h;cases h
theorem rY {α:Type}{xs:List α}{i:Int}{v:α}(h:p9 xs i=some v):∃j,seqIndex? i xs.length=some j/\xs[j]?=some v/\j<xs.length/\-(xs.length:Int)<=i/\i<xs.length:=by
 unfold p9 at h
 cases e:xj xs.length i with
 |none=>rw[e] at h;cases h
 |some j =>
  rw[e] at h;obtain⟨h1,h2,h3,h4⟩:=sN e;exact⟨j,h1,h,h2,h3,h4⟩
theorem r6 {α:Type}{xs:List α}{j:Nat}{v:α}(h:xs[j]?=some v):p9 xs (j:Int)=some v:=by
 have hj:j<xs.length:=(YO.mp h).1
 have e:xj xs.length (j:Int)=some j:=by
  unfold xj;rw[Yh (by omega),Yh (by omega)];simp
 unfold p9;rw[e];exact h
noncomputable def aaa (b:Expr):Prop:=∀o i,subscripted b false o i=operate [o,i] (getItem o i)
noncomputable def AI (X:Cx)(r:R2):Prop :=
 ∀(value slice:Expr)(pins:List (Addr×Obj))(s:Bi)(σ:St)(H:Hp)(x y:V)(v u:Value)(Q:VK),Inv X pins σ H s->aG x v->aG y u->r x y H Q →
  subscripted slice false v u=operate [v,u] (getItem v u)->wpAny (model X.prog X.w) X.A (subscriptTail value slice v u) (EP X pins σ Q) X.xe s
noncomputable def E4 (X:Cx)(id:String)(r:V->List V->Hp->VK->Prop):Prop :=
 ∀(pins:List (Addr×Obj))(s:Bi)(σ:St)(H:Hp)(x:V)(xs:List V)(v:Value)(us:nN)(Q:VK),Inv X pins σ H s->aG x v->aR xs us->r x xs H Q →
  wpAny (model X.prog X.w) X.A (call (.builtin id) (v::us)) (EP X pins σ Q) X.xe s
variable {pins:List (Addr×Obj)}{σ:St}{H:Hp}{s:Bi}{its:nN}{x:V}
section
variable {X:Cx}{a b:Expr}{ta tb:TE}{pos:Pos}
theorem aY {r:R2}(hr:AI X r)(ha:PE X a ta)(hb:PE X b tb)(hs:aaa b):PE X (.Subscript a b pos) (kx r ta tb):=by
 intro pins s σ H Q I h;exact Subscript_ (BW ha hb I h λv u s2 x y H2 I2 rx ry q=>hr a b pins s2 σ H2 x y v u Q I2 rx ry q (hs _ _))
noncomputable def wo (K:PySem.W.Frag):R2:=λx y H Q=>∃p xs i v,x=.ref p/\y=.int i/\bo K H p xs/\p9 xs i=some v/\Q v H
noncomputable def xq (K:PySem.W.Frag):R2:=λx y H Q=>∃p xs i v,x=.ref p/\y=.int i/\aU K H p xs/\p9 xs i=some v/\Q v H
theorem cA:AI X (wo X.K):=by
 intro value slice pins s σ H x y v u Q I rx ry h hs;obtain⟨p,xs,i,z,rfl,rfl,hq,he,q⟩:=h
 cases rx
 obtain⟨t,rfl⟩:=ry;obtain⟨its,r,pl,hz⟩:=I.list hq;obtain⟨j,h1,h2,h3,h4,h5⟩:=rY he;obtain⟨w,ew,Gb⟩:=r.get h2;have hl:=r.length;have hn:=j5;have fin:EP X pins σ Q w s:=⟨z,H,I,Gb,q⟩
 by_cases h0:0<=i
 ·have hj:i.toNat=j:=by
   rw[seqIndex_of h0 h5] at h1;exact Option.some.inj h1
  exact item_listR pl.isList h0 (by omega) (by rw[hj];simpa using ew) fin hs
 ·have hj:(i+(its.toArray.size:Int)).toNat=j:=by
   rw[seqIndex_neg (by omega) h4] at h1;rw[Yj,<-hl];exact Option.some.inj h1
  exact subscriptTail_builtinR (x:=w) pl.isList.typeIs slot_list_getitem.lookup
   (wpAny_getItem_list_neg (Q:=λr s'=>r=w/\EP X pins σ Q r s') pl.isList (by omega) (by rw[Yj] <;> omega) (by omega) (by rw[hj];simpa using ew) ⟨rfl,fin⟩) hs
theorem bJ:AI X (xq X.K):=by
 intro value slice pins s σ H x y v u Q I rx ry h hs;obtain⟨p,xs,i,z,rfl,rfl,hq,he,q⟩:=h
 cases rx
 obtain⟨t,rfl⟩:=ry;obtain⟨its,r,pl,hz⟩:=I.tuple hq;obtain⟨j,h1,h2,h3,h4,h5⟩:=rY he;obtain⟨w,ew,Gb⟩:=r.get h2;have hl:=r.length;have hn:=j5;have fin:EP X pins σ Q w s:=⟨z,H,I,Gb,q⟩
 exact subscriptTail_builtinR (x:=w) pl.typeIs slot_tuple_getitem.lookup
  (getItem_tuple (j:=j) (Q:=λr s'=>r=w/\EP X pins σ Q r s') pl (by omega) (by omega) (by rw[Yj,<-hl];exact h1) (by simpa using ew) ⟨rfl,fin⟩) hs
theorem aag (its:nN)(n j:Nat)(u:Value):Obj.mapSeq (·.setIfInBounds j u) {cls:=.type "list",data:=.seq its.toArray n}={cls:=.type "list",data:=.seq (its.set j u).toArray n}:=by
 simp[Obj.mapSeq]
theorem Inv.lst {p:Addr}(I:Inv X pins σ H s)(h:H p=some (.lst xs)):
 ∃(its:nN)(n:Nat),aR xs its/\s.heap.get? p=some {cls:=.type "list",data:=.seq its.toArray n}/\xs.length<=sizeLine:=by
 obtain⟨z,its,n,r,e⟩:=I.hok p _ h;exact⟨its,n,r,e,z⟩
theorem Inv.aet {p:Addr}{ys:List V}{its':nN}{n':Nat}{f:Obj->Obj}(I:Inv X pins σ H s)(h:H p=some (.lst xs))
 (ho:s.heap.get? p=some {cls:=.type "list",data:=.seq its.toArray n})(hf:f {cls:=.type "list",data:=.seq its.toArray n}={cls:=.type "list",data:=.seq its'.toArray n'})(r:aR ys its')(hz:ys.length<=sizeLine)(t:Nat):
 Inv X pins σ (upd H p (.lst ys)) {s with heap:=s.heap.update p f,toks:=t}:=by
 have e:(s.heap.update p f).get? p=some {cls:=.type "list",data:=.seq its'.toArray n'}:=by
  rw[Y3 f ho (by rw[hf] <;> rfl),hf]
 refine I.write (x:=p) (e:=p) (by rw[h];trivial) (.inl rfl) (λb u hb q=>(YL _ _ (YM hb)).trans q) ⟨_,e⟩ ?_;exact⟨hz,its',n',r,e⟩
noncomputable def ae7:V->V->V->Hp->(Hp->Prop)->Prop:=λo i v H Q=>∃p xs k j,o=.ref p/\i=.int k/\H p=some (.lst xs)/\xj xs.length k=some j/\Q (upd H p (.lst (xs.set j v)))
theorem kh:D1 X ae7:=by
 intro pins s σ H o i v ov iv u Q I ro ri rv h;obtain⟨p,xs,k,j,rfl,rfl,hp,hj,q⟩:=h
 cases ro
 obtain⟨t,rfl⟩:=ri;obtain⟨its,n,r,ho,hz⟩:=I.lst hp;obtain⟨h1,h2,h3,h4⟩:=sN hj;have hl:=r.length;have hn:=j5
 have I':Inv X pins σ (upd H p (.lst (xs.set j v))) {s with heap:=s.heap.update p (Obj.mapSeq (·.setIfInBounds j u))}:=
  I.aet hp ho (aag its n j u) (r.set rv j) (by rw[List.length_set];exact hz) s.toks
 by_cases h0:0<=k
 ·have hk:k.toNat=j:=by
   rw[seqIndex_of h0 h4] at h1;exact Option.some.inj h1
  exact PySem.W.ki_setAt ho h0 (by omega) (by rw[Yj,<-hl];exact h4) (by rw[hk];exact⟨_,I',q⟩)
 ·have hk:(k+(its.toArray.size:Int)).toNat=j:=by
   rw[seqIndex_neg (by omega) h3] at h1;rw[Yj,<-hl];exact Option.some.inj h1
  exact PySem.W.ki_setBack ho (by omega) (by rw[Yj,<-hl];exact h3) (by omega) (by rw[hk];exact⟨_,I',q⟩)
theorem aah (lo hi:Option Int)(n:Nat):(sliceBounds lo hi none n).1=((HT.c7 n 0 lo:Nat):Int)/\(sliceBounds lo hi none n).2.1=((HT.c7 n n hi:Nat):Int)/\(sliceBounds lo hi none n).2.2=1:=by
 refine⟨?_,?_,rfl⟩
 ·cases lo with
  |none=>simp[sliceBounds,HT.c7]
  |some i =>
   simp only[sliceBounds,HT.c7,Option.getD_none,show(1:Int)>0 by decide,ZR]
   by_cases h:i<0
   ·simp only[h,ZR] <;> omega
   ·simp only[h,Zv] <;> omega
 ·cases hi with
  |none=>simp[sliceBounds,HT.c7]
  |some i =>
   simp only[sliceBounds,HT.c7,Option.getD_none,show(1:Int)>0 by decide,ZR]
   by_cases h:i<0
   ·simp only[h,ZR] <;> omega
   ·simp only[h,Zv] <;> omega
theorem aai (its:nN)(lo hi:Option Int):slicePick its.toArray lo hi none=((its.drop (HT.c7 its.length 0 lo)).take (HT.c7 its.length its.length hi-HT.c7 its.length 0 lo)).toArray:=by
 obtain⟨h1,h2,h3⟩:=aah lo hi its.toArray.size;unfold slicePick;rw[h1,h2,h3];simp only[sliceRange_one,pick_run,Yj] <;> rfl
noncomputable def Dk (K:PySem.W.Frag):V->Option Int->Option Int->Hp->VK->Prop:=λx lo hi H Q=>∃a xs,x=.ref a/\bo K H a xs/\∀p,H p=none->Q (.ref p) (upd H p (.lst (hU xs lo hi)))
theorem tO:Ee X (Dk X.K):=by
 intro pins s σ H x v vl vu lo hi sl Q I rx hs pl pu h;obtain⟨a,xs,rfl,hx,q⟩:=h
 cases rx
 obtain⟨its,r,ht,hz⟩:=I.list hx;have hlen:=r.length;refine⟨"list",_,slot_list_getitem.lookup,ht.isList.typeIs,?_⟩;refine wpAny_getItem_list_slice ht.isList hs pl pu .none (by simp) ?_ (by rw[Yj] <;> omega);rw[aai,<-hlen];refine⟨.ref s.heap.objs.size,_,I.laid (t':=s.toks) (o:=.lst (hU xs lo hi)) (λb ob q=>Yc _ q) (Ye _) ?_,rfl,q _ (I.hok.fresh (Ye _))⟩;exact⟨Yq (ja xs lo hi) hz,_,0,(r.drop (HT.c7 xs.length 0 lo)).take (HT.c7 xs.length xs.length hi-HT.c7 xs.length 0 lo),Yk _ rfl⟩
noncomputable def ir:V->Bool
 | .non=>true
 | .bl _=>true
 | .int _=>true
 | .str _=>true
 |_=>false
noncomputable def A5:V->V->Bool
 | .non,.non=>true
 | .bl a,.bl b=>a==b
 | .bl a,.int b=>(if a then 1 else 0)==b
 | .int a,.bl b=>a==(if b then 1 else 0)
 | .int a,.int b=>a==b
 | .str a,.str b=>a==b
 |_,_=>false
theorem aam {A:Around}{y:V}{u v:Value}(ry:aG y u)(rx:aG x v)(fy:ir y=true)(fx:ir x=true):SeqAt.EqAt A s u v (A5 y x):=by
 cases y with
 |non =>
  cases ry
  cases x with
  |non=>cases rx;exact SeqAt.EqAt.same _
  |bl b=>cases rx;exact SeqAt.EqAt.none_bool b
  |int b=>obtain⟨t,rfl⟩:=rx;exact SeqAt.EqAt.none_int b t
  |str b=>obtain⟨t,rfl⟩:=rx;exact SeqAt.EqAt.none_str b t
  |_=>exact absurd (show false=true from fx) Yp
 |bl a =>
  cases ry
  cases x with
  |non=>cases rx;exact SeqAt.EqAt.bool_none a
  |bl b=>cases rx;exact SeqAt.EqAt.bool_bool a b
  |int b=>obtain⟨t,rfl⟩:=rx;exact SeqAt.EqAt.bool_int a b t
  |str b=>obtain⟨t,rfl⟩:=rx;exact SeqAt.EqAt.bool_str a b t
  |_=>exact absurd (show false=true from fx) Yp
 |int a =>
  obtain⟨t',rfl⟩:=ry
  cases x with
  |non=>cases rx;exact SeqAt.EqAt.int_none a t'
  |bl b=>cases rx;exact SeqAt.EqAt.int_bool a t' b
  |int b=>obtain⟨t,rfl⟩:=rx;exact zG a t' b t
  |str b=>obtain⟨t,rfl⟩:=rx;exact SeqAt.EqAt.int_str a t' b t
  |_=>exact absurd (show false=true from fx) Yp
 |str a =>
  obtain⟨t',rfl⟩:=ry
  cases x with
  |non=>cases rx;exact SeqAt.EqAt.str_none a t'
  |bl b=>cases rx;exact SeqAt.EqAt.str_bool a t' b
  |int b=>obtain⟨t,rfl⟩:=rx;exact SeqAt.EqAt.str_int a t' b t
  |str b=>obtain⟨t,rfl⟩:=rx;exact SeqAt.EqAt.str_str a t' b t
  |_=>exact absurd (show false=true from fx) Yp
 |_=>exact absurd (show false=true from fy) Yp
noncomputable def qe (x:V)(u:Value):Bool:=match u with
 | .none=>A5 .non x
 | .bool b=>A5 (.bl b) x
 | .int i _=>A5 (.int i) x
 | .str z _=>A5 (.str z) x
 |_=>false
theorem yp {y:V}{u:Value}(r:aG y u)(f:ir y=true):qe x u=A5 y x:=by
 cases y with
 |non=>cases r;rfl
 |bl b=>cases r;rfl
 |int i=>obtain⟨t,rfl⟩:=r;rfl
 |str z=>obtain⟨t,rfl⟩:=r;rfl
 |_=>exact absurd (show false=true from f) Yp
theorem il :∀{xs:List V}{us:nN},aR xs us->xs.all ir=true->us.any (qe x)=xs.any λy=>A5 y x
 |_,_,.nil,_=>rfl
 |y::xs,u::us,.cons r t,f=>by
  rw[Z3,Yy] at f;rw[CQ,CQ,yp r f.1,il t f.2]
theorem fQ {A:Around}{v:Value}(rx:aG x v)(fx:ir x=true):∀{xs:List V}{us:nN},aR xs us->xs.all ir=true->∀u∈us,SeqAt.EqAt A s u v (qe x u)
 |_,_,.nil,_=>λu hu=>by cases hu
 |y::xs,u::us,.cons r t,f=>λu' hu=>by
  rw[Z3,Yy] at f
  rcases Yn.mp hu with rfl|hu
  ·rw[yp r f.1];exact aam r rx f.1 fx
  ·exact fQ rx fx t f.2 u' hu
noncomputable def fW (x:V)(xs:List V):Bool:=xs.any λy=>A5 y x
noncomputable def yC (K:PySem.W.Frag)(neg:Bool):R2:=λx y H Q=>∃p xs,y=.ref p/\(bo K H p xs\/aU K H p xs)/\ir x=true/\xs.all ir=true/\Q (.bl (if neg then !fW x xs else fW x xs)) H
theorem gy:eA X (compareOp .In) (yC X.K false):=by
 intro pins s σ H x y v u Q I rx ry h;obtain⟨p,xs,rfl,hq,fx,fs,q⟩:=h
 cases ry
 rcases hq with hq|hq
 ·obtain⟨its,r,pl,hz⟩:=I.list hq;refine SeqAt.in_listAt (qe x) pl.isList (λw hw=>fQ rx fx r fs w (by simpa using hw)) ⟨.bl _,H,I,rfl,?_⟩;rw[show its.toArray.any (qe x)=its.any (qe x) by simp,il r fs];exact q
 ·obtain⟨its,r,pl,hz⟩:=I.tuple hq;refine SeqAt.in_tupleAt (qe x) pl (λw hw=>fQ rx fx r fs w (by simpa using hw)) ⟨.bl _,H,I,rfl,?_⟩;rw[show its.toArray.any (qe x)=its.any (qe x) by simp,il r fs];exact q
theorem dF:eA X (compareOp .NotIn) (yC X.K true):=by
 intro pins s σ H x y v u Q I rx ry h;obtain⟨p,xs,rfl,hq,fx,fs,q⟩:=h
 cases ry
 rcases hq with hq|hq
 ·obtain⟨its,r,pl,hz⟩:=I.list hq;refine SeqAt.notIn_listAt (qe x) pl.isList (λw hw=>fQ rx fx r fs w (by simpa using hw)) ⟨.bl _,H,I,rfl,?_⟩;rw[show its.toArray.any (qe x)=its.any (qe x) by simp,il r fs];exact q
 ·obtain⟨its,r,pl,hz⟩:=I.tuple hq;refine SeqAt.notIn_tupleAt (qe x) pl (λw hw=>fQ rx fx r fs w (by simpa using hw)) ⟨.bl _,H,I,rfl,?_⟩;rw[show its.toArray.any (qe x)=its.any (qe x) by simp,il r fs];exact q
theorem bH:cS X (.builtin "len") (λxs H Q=>∃p ys,xs=[.ref p]/\(bo X.K H p ys\/aU X.K H p ys)/\Q (.int ys.length) H):=by
 intro pins s σ H xs us Q I r h;obtain⟨p,ys,rfl,hq,q⟩:=h;obtain⟨u,rfl,rx⟩:=dw r
 cases rx
 have hn:=j5
 rcases hq with hq|hq
 ·obtain⟨its,r',pl,hz⟩:=I.list hq;have hlen:=r'.length;exact Calls.call_len_list pl.isList (by simp only[Yj] <;> omega) ⟨.int ys.length,H,I.tok _,⟨s.toks+1,by rw[Yj,hlen]⟩,q⟩
 ·obtain⟨its,r',pl,hz⟩:=I.tuple hq;have hlen:=r'.length;exact len_tuple pl (by simp only[Yj] <;> omega) ⟨.int ys.length,H,I.tok _,⟨s.toks+1,by rw[Yj,hlen]⟩,q⟩
theorem dM:cS X (.type "list") (λxs H Q=>∃p ys,xs=[.ref p]/\(bo X.K H p ys\/aU X.K H p ys)/\∀l,H l=none->Q (.ref l) (upd H l (.lst ys))):=by
 intro pins s σ H xs us Q I r h;obtain⟨p,ys,rfl,hq,q⟩:=h;obtain⟨u,rfl,rx⟩:=dw r
 cases rx
 have fin:∀(its:nN),aR ys its->ys.length<=sizeLine->∀(h':Heap)(c':Nat),(∀b o',s.heap.get? b=some o'->h'.get? b=some o') →
  h'.get? s.heap.objs.size=some {cls:=.type "list",dict:=none,data:=.seq its.toArray c',slots:=#[]}->EP X pins σ Q (.ref s.heap.objs.size) {s with heap:=h'}:=λits r' hz h' c' kp e =>
  ⟨.ref s.heap.objs.size,_,I.laid (t':=s.toks) kp (Ye _) (show bD X.prog X.w _ h' _ (.lst ys) from⟨hz,its,c',r',e⟩),rfl,q _ (I.hok.fresh (Ye _))⟩
 rcases hq with hq|hq
 ·obtain⟨its,r',pl,hz⟩:=I.list hq;have hlen:=r'.length;obtain⟨o,ho,hc,n,hd⟩:=pl.isList;exact call_list_seq p (.inl rfl) ho hc hd (λh' c' kp e=>fin its r' hz h' c' kp e) (by simp only[Yj] <;> omega)
 ·obtain⟨its,r',pl,hz⟩:=I.tuple hq;have hlen:=r'.length;obtain⟨o,ho,hc,n,hd⟩:=pl;exact call_list_seq p (.inr rfl) ho hc hd (λh' c' kp e=>fin its r' hz h' c' kp e) (by simp only[Yj] <;> omega)
theorem dh:cS X (.type "tuple") (λxs H Q=>∃p ys,xs=[.ref p]/\((bo X.K H p ys/\∀l,H l=none->Q (.ref l) (upd H l (.tup ys)))\/(aU X.K H p ys/\Q (.ref p) H))):=by
 intro pins s σ H xs us Q I r h;obtain⟨p,ys,rfl,h⟩:=h;obtain⟨u,rfl,rx⟩:=dw r
 cases rx
 rcases h with⟨hq,q⟩|⟨hq,q⟩
 ·obtain⟨its,r',pl,hz⟩:=I.list hq;have hlen:=r'.length;refine call_tuple_list pl.isList (λh' kp=>?_) (by simp only[Yj] <;> omega);have I1:Inv X pins σ H {s with heap:=h'}:=I.kept (t':=s.toks) kp
  have I2:Inv X pins σ (upd H h'.objs.size (.tup ys)) {s with heap:=h'.push {cls:=.type "tuple",data:=.seq its.toArray} }:=
   I1.laid (t':=s.toks) (λb o e=>Yc _ e) (Ye _) (show bD X.prog X.w _ _ _ (.tup ys) from⟨hz,its,r',IsTup.new _ _⟩)
  exact⟨.ref h'.objs.size,_,I2,rfl,q _ (I1.hok.fresh (Ye _))⟩
 ·obtain⟨its,r',pl,hz⟩:=I.tuple hq;exact call_tuple_same pl ⟨.ref p,H,I,rfl,q⟩
noncomputable def E5 (K:PySem.W.Frag)(T:String)(x:V)(H:Hp):Prop:=match x with
 | .str _=>T="str"
 | .int _=>T="int"
 | .ref p=>(T="list"/\∃xs,bo K H p xs)\/(T="tuple"/\∃o,K.lookup p=some o/\o.cls=.type "tuple"/\o.dict=none) \/
  (T="dict"/\((∃Ft,H p=some (.dK Ft))\/∃Ft,H p=some (.dT Ft)))\/(T="set"/\∃S n,H p=some (.set S n))
 |_=>False
theorem aar {T:String}{v:Value}(I:Inv X pins σ H s)(r:aG x v)(ty:E5 X.K T x H):
 s.TypeIs v T/\∀a,v=.ref a->∃ob,s.heap.get? a=some ob/\ob.dict=none:=by
 cases x with
 |str z =>
  obtain⟨t,rfl⟩:=r
  cases(show T="str" from ty)
  exact⟨typeIs_str s z t,λ_ e=>nomatch e⟩
 |int i =>
  obtain⟨t,rfl⟩:=r
  cases(show T="int" from ty)
  exact⟨typeIs_int s i t,λ_ e=>nomatch e⟩
 |ref p =>
  cases r
  rcases ty with⟨rfl,xs,hq⟩|⟨rfl,o,hk,hc,hd⟩|⟨rfl,hk⟩|⟨rfl,S,n,hk⟩
  ·obtain⟨its,_,pl,_⟩:=I.list hq;refine⟨pl.isList.typeIs,λa e=>?_⟩
   cases e
   obtain⟨o,n,e,c,hd,_⟩:=pl;exact⟨o,e,hd⟩
  ·refine⟨⟨o,I.kIn p o hk,hc⟩,λa e=>?_⟩
   cases e
   exact⟨o,I.kIn _ o hk,hd⟩
  ·have z:∃o,s.heap.get? p=some o/\o.ExactDict:=by
    rcases hk with⟨Ft,hk⟩|⟨Ft,hk⟩
    ·obtain⟨_,_,_,_,o,_,_,e,ex,_⟩:=I.hok p _ hk;exact⟨o,e,ex⟩
    ·obtain⟨_,_,_,_,o,_,_,e,ex,_⟩:=I.hok p _ hk;exact⟨o,e,ex⟩
   obtain⟨o,e,ex⟩:=z;refine⟨⟨o,e,ex.1⟩,λa e2=>?_⟩
   cases e2
   exact⟨o,e,ex.2.1⟩
  ·obtain⟨o,_,_,_,e,ex,_⟩:=I.hok p _ hk;refine⟨⟨o,e,ex.1⟩,λa e2=>?_⟩
   cases e2
   exact⟨o,e,ex.2.1⟩
 |_=>exact False.elim ty
noncomputable def aas (K:PySem.W.Frag)(T:String)(r:V->List V->Hp->VK->Prop)(to:TE)(t:TA):TE:=λσ H Q=>to σ H λx H1=>E5 K T x H1/\t σ H1 λxs H2=>r x xs H2 Q
variable {o e:Expr}{es:wI}{to:TE}{t:TA}{name:Str}{apos FF:Pos}{T id:String}{r:V->List V->Hp->VK->Prop}
theorem aax (pa:PlainAttrs T)(slot:Slot T name id)(SO:typeOf (.builtin id)=pure (.type "method_descriptor"))(hm:E4 X id r)(ho:PE X o to)(ha:PA X (e::es) t)
 (G7:attributeBase o name X.env (eval o X.env)=eval o X.env:=by rfl)
 (NP:((backTo FF (starEach (e::es) X.env)).all (λx=>!x.1)&&(backToKw FF (keywordEach [] X.env)).all (λx=>x.1.isSome)
  && decide ((e::es).length+([]:List Keyword).length+(if([]:List Keyword).isEmpty then 0 else 1)<30))=true:=by rfl)
 (G8:(apos.endLine==FF.line)=true:=by rfl)(hs:starEach (e::es) X.env=(false,eval e X.env):: starEach es X.env:=by rfl)(IV:(backTo FF (starEach es X.env)).any (·.1)=false:=by rfl):
 PE X (.Call (.Attribute o name apos) (e::es) [] FF) (aas X.K T r to t):=by
 intro pins s σ H Q I h;refine wpAny_Call_method_late G7 NP G8 rfl (bO (ho pins s σ H _ I h) λv s1 z'=>?_);obtain⟨x,H1,I1,r1,ty,q1⟩:=z';obtain⟨h1,h2⟩:=aar I1 r1 ty;refine⟨T,id,pa,slot,SO,h1,h2,?_⟩;have hA:=ha FF pins s1 σ H1 _ I1 q1;rw[hs] at hA |-;refine zC (by show(false || (backTo FF (starEach es X.env)).any (·.1))=false;rw[IV] <;> rfl) (vJ ?_);exact bO hA λus s2 ⟨vs,H2,I2,r2,q2⟩=>hm pins s2 σ H2 x vs v us Q I2 r1 r2 q2
/- xs.append(e),list.index on a J6 tuple .. are E4 facts of 06m -/
end
noncomputable def Fk (X:Cx)(id:String)(r:V->List V->Hp->VK->Prop):Prop :=
 ∀(pins:List (Addr×Obj))(s:Bi)(σ:St)(H:Hp)(x:V)(xs:List V)(v:Value)(us:nN)(Q:VK),Inv X pins σ H s->aG x v->aR xs us->r x xs H Q →
  wpAny (model X.prog X.w) X.A (call (.builtin id) (v::us)) (EP X pins σ Q) X.xe s
theorem aR.one:∀{x:V}{us:nN},aR [x] us->∃u,us=[u]/\aG x u
 |_,_,.cons r .nil=>⟨_,rfl,r⟩
section
variable {X:Cx}{pins:List (Addr×Obj)}{σ:St}{H:Hp}{s:Bi}{l b:Addr}{xs ys zs:List V}
theorem Inv.agF {its':nN}{f:Array Value->Array Value}{t':Nat}(I:Inv X pins σ H s)(hH:H l=some (.lst xs))
 (e:s.heap.get? l=some {cls:=.type "list",data:=.seq its.toArray n})(hf:f its.toArray=its'.toArray)(hv:aR ys its')(hz:ys.length<=sizeLine):
 Inv X pins σ (upd H l (.lst ys)) {s with heap:=s.heap.update l (Obj.mapSeq f),toks:=t'}:=by
 have q:=PySem.IsL.update e f;rw[hf] at q;refine I.write (x:=l) (e:=l) (by rw[hH];exact trivial) (.inl rfl) (λb' u hb hu=>(YL s.heap (Obj.mapSeq f) (YM hb)).trans hu) ⟨_,q⟩ ?_;exact⟨hz,its',_,hv,q⟩
theorem Inv.agG {t':Nat}(I:Inv X pins σ H s)(hv:aR ys its)(hz:ys.length<=sizeLine):
 Inv X pins σ (upd H s.heap.objs.size (.lst ys)) {s with heap:=s.heap.push {cls:=.type "list",data:=.seq its.toArray},toks:=t'}:=
 I.laid (λ_ _ q=>Yc _ q) (Ye _) ⟨hz,its,0,hv,Yk _ rfl⟩
theorem Inv.fresh (I:Inv X pins σ H s):H s.heap.objs.size=none:=I.hok.fresh (Ye _)
theorem Inv.aeu (I:Inv X pins σ H s)(hH:H l=some (.lst xs)):xs.length<=sizeLine/\∃(its:nN)(n:Nat),aR xs its/\xs.length=its.length/\s.heap.get? l=some {cls:=.type "list",data:=.seq its.toArray n}:=by
 obtain⟨z,its,n,r,e⟩:=I.hok l _ hH;exact⟨z,its,n,r,r.length,e⟩
end
section
variable {X:Cx}
noncomputable def ad2:V->List V->Hp->VK->Prop:=λx vs H Q=>∃l xs y,x=.ref l/\vs=[y]/\H l=some (.lst xs)/\xs.length<sizeLine/\Q .non (upd H l (.lst (xs++[y])))
theorem aaE:Fk X "list.append" ad2:=by
 intro pins s σ H x vs v us Q I rx rv h;obtain⟨l,xs,y,rfl,rfl,hH,hz,q⟩:=h
 cases rx
 obtain⟨u,rfl,ru⟩:=rv.one;obtain⟨z,its,n,r,hl,e⟩:=I.aeu hH;refine call_meets F.slot_list_append ⟨_,e,rfl⟩ F.entry_list_append (F.args_list_append_2 _ _) (PySem.list_append l its.toArray n u (by rw[Yj];omega)) ⟨e,?_⟩;refine⟨.non,_,I.agF (its':=its++[u]) hH e (by simp) (r.append (.cons ru .nil)) ?_,rfl,q⟩;rw[Yw,List.length_singleton];omega
noncomputable def agH:R2:=λx y H Q=>∃l b xs zs,x=.ref l/\y=.ref b/\H l=some (.lst xs)/\H b=some (.lst zs)/\xs.length+zs.length<=sizeLine/\∀p,H p=none->Q (.ref p) (upd H p (.lst (xs++zs)))
theorem aaF:eA X (binaryOp .Add) agH:=by
 intro pins s σ H x y v u Q I rx ry h;obtain⟨l,b,xs,zs,rfl,rfl,hH,hB,hz,q⟩:=h
 cases rx
 cases ry
 obtain⟨z,its,n,r,hl,e⟩:=I.aeu hH;obtain⟨z2,Fx,n2,r2,GV,e2⟩:=I.aeu hB;refine PySem.P.add_list e e2 ?_ (by rw[Yj,Yj];omega)
 have ea:its.toArray++Fx.toArray=(its++Fx).toArray:=by simp
 rw[ea];exact⟨.ref _,_,I.agG (t':=s.toks) (r.append r2) (by rw[Yw];omega),rfl,q _ I.fresh⟩
end
end L2
namespace QP
open PySem PySem.W PySem.Calls PyProof.Rows
theorem aaG {P:Params}{h:Heap}:∀(ns:List Int)(vs:nN),WellAll P h vs (ns.map WData.int)->IntsAre vs ns:=by
 intro ns
 induction ns with
 |nil =>
  intro vs w;rw[List.map_nil] at w
  cases w
  exact .nil
 |cons n ns ih =>
  intro vs w;rw[YF] at w
  cases w with
  |cons a b =>
   cases a
   exact .cons _ _ (ih _ b)
theorem aaM {l:OpenLaw}{n:Nat}(hn:l.most=some n){P:Params}{h:Heap}{args:List WData}{vals:nN}
 (HV:l.row.toRowW.claim.pre args=true)(NQ:WellAll P h vals args):
 ∃a vs ns,vals=[Value.ref a]/\args=[WData.list (ns.map WData.int)]/\h.get? a=some {cls:=.type "list",data:=.seq vs.toArray}/\IntsAre vs ns/\ns.length<=n:=by
 have SQ:WShape.hasAll [] args [.list .int]=true:=(pre_splitW HV).1;have hc:l.pre.holds [] {args:=args}=true:=(pre_splitW HV).2;obtain⟨d,r,rfl,h1,h2⟩:=hasAllW_cons SQ;obtain rfl:=hasAllW_nil h2;obtain⟨xs,rfl,h3⟩:=hasW_list h1;obtain⟨ns,rfl⟩:=items_int h3
 have hlen:ns.length<=n:=by
  unfold OpenLaw.pre at hc
  have h4:(WTm.not (.lt (.lit (.int (n:Int))) (.len (.arg 0)))).holds [] {args:=[.list (ns.map .int)]}=true:=by
   have h4:=(holds_andW hc).1;rw[hn] at h4;exact h4
  have h5:=condW_of h4 (w_not (w_lt w_lit (w_len_list (w_arg rfl))));rw[Yg] at h5;refine Nat.le_of_not_lt λq=>?_
  have q':(n:Int)<((ns.length:Nat):Int):=by omega
  first
   |(rw[YD q'] at h5;exact absurd h5 (by decide))
   |(simp at h5;omega)
 cases NQ with
 |cons w1 w2 =>
  cases w2
  cases w1 with
  |list ho NR=>exact⟨_,_,ns,rfl,rfl,ho,aaG ns _ NR,hlen⟩
theorem aaN (l:OpenLaw)(args:List WData):l.row.toRowW.claim.post args (.bool true) args=true :=
 postW_of (r:=l.row.toRowW) (X:=(true==true))
  (show WShape.has [] (.bool true) .bool=true by first|rfl|decide|simp[WShape.has,WShape.arms,WShape.armsAll])
  (show(WTm.eq .res (.lit (.bool true))).value [] {args:=args,res:=some (.bool true),after:=args}=some (.bool (true==true)) from w_eq_bool (w_res rfl) w_lit) rfl
theorem aaP {l:OpenLaw}{n:Nat}{q:yo}{loose:Ez}{XP:(Str->Option Value)->Heap->Prop}{YP:World->Heap->Prop}{d:DefRec}
 (hn:l.most=some n)(J7:d.params.defaults=[])
 (call:∀(w:World)(s₀ s₁:Bi)(mg mb:u9)(fa:Addr)(o:Obj)(pm cd doc:Value)(a:Addr)(vs:nN)(ns:List Int),
  Ground q loose [] XP w s₀ mg mb s₁.heap->YP w s₁.heap →
  s₁.heap.get? fa=some o->o.data=.func (docDef d.name d.params d.body d.scope pm cd doc)->s₁.heap.CodeRec cd d.name->mg d.name=some (.ref fa) →
  s₁.heap.get? a=some {cls:=.type "list",data:=.seq vs.toArray}->IntsAre vs ns->ns.length<=n->s₁.gens = #[] →
  codeAny (model l.prog w) callerA (.call (.ref fa) ⟨[.ref a],[]⟩) (λr s'=>r=.ok (.ret (.bool true))/\OldK s₁.heap s'.heap/\s'.os=s₁.os/\AllBare s'.gens) s₁):
 WalkO q loose XP YP l.row.toRowW d [] (λf vs=>PySem.call f vs):=by
 intro w s₀ s₁ mg mb G Y fa o pm cd doc dV kV ho hd Gg hD NS hg args vals as HV SR Xw NQ Xx;obtain rfl:dV=.none:=Dflts.none hD J7;obtain rfl:kV=.none:=Dflts.noKw hD;obtain⟨a,vs,ns,rfl,rfl,IW,hints,hlen⟩:=aaM hn HV NQ;refine enter_call (qP (call w s₀ s₁ mg mb fa o pm cd doc a vs ns G Y ho (fd_plain hd) Gg NS IW hints hlen hg) λr s' hq=>?_);obtain⟨rfl,h2,h3,h4⟩:=hq;exact⟨.inl ⟨.bool true,.bool true,[],rfl,λ_=>rfl,.bool true,aaN l _,λ_=>⟨List.Pairwise.nil,λ_ hm=>(nomatch hm)⟩⟩,h2,h3,h4⟩
end QP
namespace L2
open PySem PySem.Spec PyProof.Rows
theorem lL:∀{vs:nN}{ns:List Int},IntsAre vs ns->aR (ns.map V.int) vs
 |_,_,.nil=>.nil
 |_,_,.cons n t h=>.cons ⟨t,rfl⟩ (lL h)
structure ve (K:PySem.W.Frag)(x qual:Str)(st:Stmt)(f:Addr)(fd:BG):Prop where
 ex:∃(oc:Value)(od:vi)(kV doc pm:Value)(an:vi)(Fv ct:Value)(FX:Fm),
  fd=PySem.W.fnOf x qual (cL st) (cj st) (ar st) .none kV doc pm an Fv ct/\K.lookup f=some ⟨oc,od,.func fd,FX⟩/\PySem.W.codeIn K Fv qual=true
 kp:PySem.W.keepIn K (.ref f)=true
variable {x qual:Str}{st:Stmt}{f:Addr}{fd:BG}{ps:Ez}
section
variable {P:yo}{w:World}{K:PySem.W.Frag}{mg:u9}{base:Heap}
theorem ve.binds (F:ve K x qual st f fd)
 (h:∀(kV doc pm:Value)(an:vi)(Fv ct:Value)(us:nN),us.length=ps.length->bindArgs (PySem.W.fnOf x qual (cL st) (cj st) (ar st) .none kV doc pm an Fv ct) ⟨us,[]⟩=pure (ps.zip us)):ck K fd ps []:=by
 obtain⟨oc,od,kV,doc,pm,an,Fv,ct,FX,rfl,lk,Gg⟩:=F.ex;exact .all (h kV doc pm an Fv ct)
theorem aaT {oc:Value}{od an:vi}{FX:Fm}{kV doc pm Fv ct:Value}(l:K.lookup f=some ⟨oc,od,.func (PySem.W.fnOf x qual (cL st) (cj st) (ar st) .none kV doc pm an Fv ct),FX⟩)
 (c:PySem.W.codeIn K Fv qual=true)(k:PySem.W.keepIn K (.ref f)=true):ve K x qual st f (PySem.W.fnOf x qual (cL st) (cj st) (ar st) .none kV doc pm an Fv ct):=⟨⟨oc,od,kV,doc,pm,an,Fv,ct,FX,rfl,l,c⟩,k⟩
end
section
variable {X:Cx}
theorem pv (i:Nat){pos:Pos}(hN:X.N[i]?=some x:=by rfl)(hv:Ec X.env.scope x:=by first|exact Or.inl rfl|exact Or.inr (Or.inl rfl)|exact Or.inr (Or.inr rfl))(hd:(x==("__debug__":Str))=false:=by decide)
 (Gg:(x==("__classdict__":Str))=false:=by decide):PE X (.Name x pos) (cc i):=acS hN hv hd Gg
end
theorem b7 {A B:Prop}(h:B):if false=true then A else B:=by
 rw[Yd Yp];exact h
theorem bA {A B:Prop}(h:A):if true=true then A else B:=by
 rw[Yh rfl];exact h
theorem cG {c A B:Prop} [Decidable c](h1:c->A)(h2:¬c->B):if c then A else B:=by
 by_cases h:c
 ·rw[Yh h];exact h1 h
 ·rw[Yd h];exact h2 h
noncomputable def aC (H H':Hp):Prop:=∀b o,H b=some o->H' b=some o
theorem aC.refl (H:Hp):aC H H:=λ_ _ h=>h
variable {H:Hp}
theorem aC.trans {H1 H2:Hp}(a:aC H H1)(b:aC H1 H2):aC H H2:=λc o h=>b c o (a c o h)
variable {P:yo}{w:World}{h:Heap}{a:Addr}
theorem eY {o:HO}(x:fX P w H h)(hn:H a=none)(new:bD P w (upd H a o) h a o):fX P w (upd H a o) h:=λb u e=>by
 by_cases hb:b=a
 ·subst hb;rw[ai] at e;cases e;exact new
 ·rw[aA hb] at e
  exact(x b u e).adk (λc v _ q=>q) (λc q=>by rw[aA (aB q hn)];exact q) λc xs q=>by rw[aA (aB q hn)];exact q
variable {env:Env}
section
variable {prog:yo}{w:World}{A:Around}{R:Result->Shared->Prop}{s:Bi}
theorem aaU {elt target iter:Expr}{ifs:wI}{scope:Scope}{pos:Pos}{it acc:Value}(I:Nat->Shared->Prop)
 (turn:∀n s,I n s->wpAny (model prog w) A (pyNext it) (λr s₁=>match r with
  |none=>R (.ok .next) s₁
  |some v=>wpAny (model prog w) A (letOwnedTupleGo target it v) (λ_ s₁=>wpAny (model prog w) A (assign target env v) (λ_ s₂ =>
   wpAny (model prog w) A (forIn ifs true λc r=>if r=true then do let ok <-isTrue c env (eval c env);pure (ForInStep.yield ok) else pure (ForInStep.yield r)) (λok s₃ =>
    if ok=true then wpAny (model prog w) A (eval elt env) (λx s₄ =>
     wpAny (model prog w) A (call (.builtin "list.append") [acc,x]) (λ_ s₅=>∃m,m<n/\I m s₅) (λ_ _=>False) s₄) (λ_ _=>False) s₃
    else ∃m,m<n/\I m s₃) (λ_ _=>False) s₂) (λ_ _=>False) s₁) (λ_ _=>False) s₁) (λ_ _=>False) s)
 (n:Nat)(h:I n s):
 codeAny (model prog w) A (.compLoop (.ListComp elt [⟨target,iter,ifs,0⟩] scope pos) 0 it acc env) R s:=by
 refine codeAny_loop rfl I (λn s hI=>?_) n h;show wpAny _ A ((compTurn (.ListComp elt [⟨target,iter,ifs,0⟩] scope pos) 0 it acc env).onRaise (λx=>do noteFrame x env;theTreesLotGoes x)) _ _ s;refine wpAny_noted ?_;rw[compTurn_list];refine X9 (v9 (X9 (YR (turn n s hI) (λr s₁ h₁=>?_) λ_ _ z=>False.elim z)))
 cases r with
 |none=>exact Yb h₁
 |some v =>
  refine X9 (YR h₁ (λ_ Xy SS=>?_) λ_ _ z=>False.elim z);refine X9 (YR SS (λ_ s₂ h₂=>X9 (YR h₂ (λok s₃ h₃=>?_) λ_ _ z=>False.elim z)) λ_ _ z=>False.elim z)
  cases ok with
  |false=>exact Yb ⟨rfl,h₃⟩
  |true =>
   exact X9 (X9 (YR h₃ (λx s₄ h₄=>X9 (YR h₄ (λ_ s₅ h₅=>Yb (Yb ⟨rfl,h₅⟩)) λ_ _ z=>False.elim z)) λ_ _ z=>False.elim z))
end
noncomputable def gf (names:List (Str×NameKind))(env:Env):List (Str×Addr):=((names.filter λx=>x.2 == .free).map λx=>(x.1,(env.cells.lookup x.1).getD 0)).reverse
theorem aa1 {scope:Scope}(h:∀x∈scope.names,x.2=.free->∃c,env.cells.lookup x.1=some c):closureFor scope env=pure (gf scope.names env):=by
 have key:∀(names:List (Str×NameKind))(cs:List (Str×Addr)),(∀x∈names,x.2=.free->∃c,env.cells.lookup x.1=some c) →
  (forIn names cs (λ(x:Str×NameKind)(r:List (Str×Addr))=>if(x.2==NameKind.free)=true then(do let a <-cellOf env x.1;pure (ForInStep.yield ((x.1,a):: r))) else pure (ForInStep.yield r)):Sem (List (Str×Addr)))=pure (gf names env++cs):=by
  intro names
  induction names with
  |nil=>intro cs _;rfl
  |cons x r ih =>
   intro cs hn;rw[Bj];obtain⟨n,k⟩:=x
   by_cases hk:k=.free
   ·subst hk;obtain⟨c,hc⟩:=hn (n,.free) Yl rfl
    have SU:cellOf env n=pure c:=by unfold cellOf;rw[hc]
    simp only[yj,ZR,SU,pure_bind];rw[ih _ λy hy=>hn y (Yi _ hy)];simp[gf,hc]
   ·have hb:(k==NameKind.free)=false:=by simpa using hk
    simp only[hb,Zl,Zv,pure_bind];rw[ih _ λy hy=>hn y (Yi _ hy)];simp[gf,hb]
 have z:=key scope.names [] h;rw[Zc] at z;unfold closureFor
 first
  |exact z
  |(simp only[bind_pure];exact z)
  |(simp;exact z)
theorem pD {names:List (Str×NameKind)}(h:∀x∈names,x.2=.free->∃c,env.cells.lookup x.1=some c){c:Addr}(e:(gf names env).lookup x=some c):env.cells.lookup x=some c:=by
 have m:=Z6 e;unfold gf at m;rw[List.mem_reverse,YG] at m;obtain⟨y,hy,e'⟩:=m;rw[Y7] at hy;obtain⟨c',FU⟩:=h y hy.1 (by simpa using hy.2);rw[FU] at e'
 injection e' with e1 e2
 subst e1;rw[FU];exact Ze some e2
theorem pY {names:List (Str×NameKind)}{env:Env}(hm:(x,NameKind.free)∈names):∃c,(gf names env).lookup x=some c:=by
 have m:∃c,(x,c)∈gf names env:=⟨(env.cells.lookup x).getD 0,by
  unfold gf;rw[List.mem_reverse,YG]
  exact⟨(x,.free),Y7.mpr ⟨hm,rfl⟩,rfl⟩⟩
 obtain⟨c,m⟩:=m
 cases q:(gf names env).lookup x with
 |some d=>exact⟨d,rfl⟩
 |none =>
  exfalso
  have:∀(l:List (Str×Addr)),(x,c)∈l->l.lookup x≠none:=by
   intro l
   induction l with
   |nil=>intro h;cases h
   |cons p r ih =>
    intro h;rw[Zo]
    rcases Yn.mp h with h|h
    ·subst h;simp
    ·split
     ·simp
     ·exact ih h
  exact this _ m q
noncomputable def fK (X:Cx)(N:Ez)(scope:Scope)(C:Addr)(fp:List Addr)(s:Bi)(H:Hp):Cx where
 prog:=X.prog
 w:=X.w
 K:=X.K
 mg:=X.mg
 base:=X.base
 A:=X.A
 N:=N
 s₀:=s
 H₀:=H
 env:=compEnvC scope (gf scope.names X.env) C X.env
 outer:=X.stack
 stack:=X.stack
 ex:=fp
 fn:=λ_=>false
 calm:=X.calm
 pn:=[]
 xe:=λ_ _=>False
noncomputable def σC (nl:Nat)(js:List Nat)(σ:St):St:=List.replicate nl none++js.map λj=>(σ[j]?).join
structure wy (X:Cx)(N:Ez)(nl:Nat)(js:List Nat)(osc scope:Scope):Prop where
 out:X.env.scope=osc
 kind:scope.kind=.function
 cell:∀y∈scope.names,y.2≠.cell
 names:∀y∈scope.names,y.2=.local->scope.names.lookup y.1=some .local
 free:∀y∈scope.names,y.2=.free->osc.names.lookup y.1=some .cell\/osc.names.lookup y.1=some .free
 len:N.length=nl+js.length
 src:Paired (λj x=>X.N[j]?=some x/\(x,NameKind.free)∈scope.names) js (N.drop nl)
 agI:∀y∈scope.names,y.2=.free->scope.names.lookup y.1≠some .local
theorem fj {env:Env}:∀{names:List (Str×NameKind)}{x:Str}{k:NameKind},(∀y∈names,y.2≠.cell) →
 (names.map λ(n,k)=>if(k==NameKind.free&&env.scope.kind == .function&&env.kindOf n==some .cell) then(n,NameKind.cell) else(n,k)).lookup x=some k->(k=.cell\/k=.free)->(x,NameKind.free)∈names
 |[],_,_,_,h,_=>by simp at h
 |(n,k0):: r,x,k,hc,h,hk=>by
  have h:List.lookup x ((if(k0==NameKind.free&&env.scope.kind == .function&&env.kindOf n==some .cell)=true then(n,NameKind.cell) else(n,k0)):: r.map λ(n,k)=>if(k==NameKind.free&&env.scope.kind == .function&&env.kindOf n==some .cell) then(n,NameKind.cell) else(n,k))=some k:=h;have ih:=@fj env r x k λy hy=>hc y (Yi _ hy)
  by_cases hx:x=n
  ·subst hx
   have IX:k0=.free:=by
    by_cases hb:(k0==NameKind.free&&env.scope.kind == .function&&env.kindOf x==some .cell)=true
    ·have:=(YK.mp (YK.mp hb).1).1;simpa using this
    ·rw[Yd hb] at h;simp only[Zo,yj] at h;have e:k0=k:=Option.some.inj h
     rcases hk with z|z
     ·exact absurd (e.trans z) (hc (x,k0) Yl)
     ·exact e.trans z
   subst IX;exact Yl
  ·have hb:(x==n)=false:=by simpa using hx
   refine Yi _ (ih ?_ hk)
   by_cases FU:(k0==NameKind.free&&env.scope.kind == .function&&env.kindOf n==some .cell)=true
   ·rw[Yh FU] at h;simp only[Zo,hb] at h;exact h
   ·rw[Yd FU] at h;simp only[Zo,hb] at h;exact h
variable {pins:List (Addr×Obj)}{σ:St}{s:Bi}{C:Addr}{g:TG}{tt:TT}{te:TE}
section
variable {X:Cx}{tg iter elt:Expr}{ifs:wI}{scope osc:Scope}{pos:Pos}{N:Ez}{nl:Nat}{js:List Nat}
noncomputable def Dr (X:Cx)(ifs:wI)(t:TT):Prop :=
 ∀(pins:List (Addr×Obj))(s:Bi)(σ:St)(H:Hp)(Q:Bool->Hp->Prop),Inv X pins σ H s->t σ H Q →
  wpAny (model X.prog X.w) X.A (forIn ifs true λc r=>if r=true then do let ok <-isTrue c X.env (eval c X.env);pure (ForInStep.yield ok) else pure (ForInStep.yield r)) (TP X pins σ Q) X.xe s
noncomputable def EB:TT:=λ_ H Q=>Q true H
theorem cX:Dr X [] EB:=λ_ _ _ H _ I h=>wpAny_tests_nil ⟨H,I,h⟩
theorem dG {c:Expr}{t:TT}(h:PT X c t):Dr X [c] t:=λpins s σ H Q I hw=>wpAny_tests_one (h pins s σ H Q I hw)
theorem de {s:Bi}{b:Addr}{h':Heap}(I:Inv X pins σ H s)(f:c8 X pins H b)(sb:Heap.SameBut b s.heap h'):Inv X pins σ H {s with heap:=h'}:=
 I.turned (t':=s.toks) (λc o hc e=>(sb.2 c hc).trans e) f.1 f.2.1 f.2.2.2.1 f.2.2.2.2.1 f.2.2.2.2.2
noncomputable def jN (J:It)(g:TG)(tt:TT)(te:TE)(W:Nat->Nat->List V->St->Hp->Prop)(Fin:List V->Hp->Prop):Prop :=
 ∀i m xs σ' H',W i m xs σ' H'->xs.length<sizeLine/\((J.stop i H'/\Fin xs H') \/
  (J.go i H'/\∀x H2,J.yld i H' x H2->g x σ' H2 λσ3 H3=>tt σ3 H3 λb H4 =>
   if b=true then te σ3 H4 λy H5=>∃m',m'<m/\W (i+1) m' (xs++[y]) σ3 H5 else ∃m',m'<m/\W (i+1) m' xs σ3 H4))
theorem aa2 {fp:List Addr}{h1:Heap}{tk:Nat}(S:wy X N nl js osc scope)(I:Inv X pins σ H s)(f:∀b∈fp,c8 X pins H b)(J8:∀b∈fp,b<s.heap.objs.size)
 (hC:s.heap.objs.size<=C)(old:∀b o,s.heap.get? b=some o->h1.get? b=some o){m1:u9}(MX:h1.Ns C m1):
 Inv (fK X N scope C fp s H) [] (σC nl js σ) H {s with heap:=h1,toks:=tk}:=by
 have Gm:∀y∈scope.names,y.2=.free->X.env.kindOf y.1=some .cell\/X.env.kindOf y.1=some .free:=λy hy hf=>by
  have:=S.free y hy hf;rw[<-S.out] at this;exact this
 have GJ:∀y∈scope.names,y.2=.free->∃c,X.env.cells.lookup y.1=some c:=λy hy hf=>I.ok.has y.1 (Gm y hy hf);have sub:∀x c,(gf scope.names X.env).lookup x=some c->X.env.cells.lookup x=some c:=λx c e=>pD GJ e
 have J9:∀b∈fp,b∉eZ X.stack:=λb hb z=>by
  rcases Yn.mp (I.acR b z) with q|q
  ·exact(f b hb).2.1 q
  ·exact(f b hb).2.2.1 q
 refine⟨⟨I.ok.mod,S.kind,I.ok.glob,I.ok.blt,hC,λx y c e1 e2=>I.ok.inj x y c (sub x c e1) (sub y c e2),λx hx=>?_,λx c z _=>absurd z (by show ¬(false=true);decide),I.ok.hd,I.ok.frames,.inl rfl,
  λb hb=>⟨Yr (Ys (J8 b hb) hC),λx c e=>(f b hb).2.2.2.2.1 x c (sub x c e)⟩,I.bs,Yq I.ok.bsz I.sz,λb o e hb=>?_,J9,I.stack,I.ac2⟩,
  rfl,I.bare,Un.kept old,⟨m1,MX,λi x v e1 e2 e3=>?_⟩,λx c e=>?_,I.hok.fresh hC,λx c e=>I.acI x c (sub x c e),λp hp=>absurd (show p∈([]:List (Addr×Obj)) from hp) (by simp),I.hok.kept old,?_⟩
 ·have hx:(relabel scope X.env).names.lookup x=some .cell\/(relabel scope X.env).names.lookup x=some .free:=hx
  have m:(x,NameKind.free)∈scope.names:=by
   rcases hx with z|z
   ·exact fj S.cell z (.inl rfl)
   ·exact fj S.cell z (.inr rfl)
  exact pY m
 ·rcases(f b hb).2.2.2.1 with z|z
  ·exact I.ok.adI b o e z
  ·exact absurd (Ys (Ym e) (Yq I.ok.bsz z)) (Zh _)
 ·-- Ic names
  have e1:N[i]?=some x:=e1;unfold σC at e2
  by_cases hi:i<nl
  ·rw[Bf (by simpa using hi),List.getElem?_replicate] at e2
   split at e2 <;> cases e2
  ·obtain⟨k,rfl⟩:∃k,i=nl+k:=⟨i-nl,by omega⟩;rw[DZ (by simp),zk,Nat.add_sub_cancel_left,YU] at e2
   cases ej:js[k]? with
   |none=>rw[ej] at e2;cases e2
   |some j =>
    rw[ej] at e2;have e2:some ((σ[j]?).join)=some (some v):=e2;have e2:=Option.some.inj e2
    have e4:σ[j]?=some (some v):=by
     cases q:σ[j]? with
     |none=>rw[q] at e2;cases e2
     |some z=>rw[q] at e2;exact Ze some e2
    have e5:(N.drop nl)[k]?=some x:=by rw[List.getElem?_drop];exact e1
    have gp:∀{l1:List Nat}{l2:Ez}{k:Nat}{j:Nat}{x:Str},Paired (λj x=>X.N[j]?=some x/\(x,NameKind.free)∈scope.names) l1 l2->l1[k]?=some j->l2[k]?=some x->X.N[j]?=some x/\(x,NameKind.free)∈scope.names:=by
     intro l1 l2 k j x p
     induction p generalizing k with
     |nil=>intro h;simp at h
     |cons r _ ih =>
      intro h1 h2
      cases k with
      |zero=>simp at h1 h2;subst h1;subst h2;exact r
      |succ k=>exact ih (by simpa using h1) (by simpa using h2)
    obtain⟨hx,hm⟩:=gp S.src ej e5;have hk:=Gm (x,.free) hm rfl;obtain⟨m,hn,hl⟩:=I.loc
    have SV:Ec X.env.scope x:=by
     rcases hk with z|z
     ·exact .inr (.inl z)
     ·exact .inr (.inr z)
    obtain⟨u,r,l⟩:=hl j x v hx e4 SV;refine⟨u,r,?_⟩
    rcases l with⟨k1,_⟩|⟨_,c,hc,GO⟩
    ·exfalso
     rcases hk with z|z <;> (rw[z] at k1;cases k1)
    ·obtain⟨c',FU⟩:=pY (env:=X.env) hm;have:=sub x c' FU;rw[hc] at this
     cases this
     refine .inr ⟨?_,c,FU,?_⟩
     ·rcases e3 with z|z|z
      ·-- a name of Ic MY own: no
       exfalso
       have lk:scope.names.lookup x=some .local:=by
        have gen:∀(l:List (Str×NameKind)),(l.map λ(n,k)=>if(k==NameKind.free&&X.env.scope.kind == .function&&X.env.kindOf n==some .cell) then(n,NameKind.cell) else(n,k)).lookup x=some .local->l.lookup x=some .local:=by
         intro l
         induction l with
         |nil=>intro h;simp at h
         |cons p r ih =>
          obtain⟨n,k0⟩:=p;intro h;have h:List.lookup x ((if(k0==NameKind.free&&X.env.scope.kind == .function&&X.env.kindOf n==some .cell)=true then(n,NameKind.cell) else(n,k0)):: r.map λ(n,k)=>if(k==NameKind.free&&X.env.scope.kind == .function&&X.env.kindOf n==some .cell) then(n,NameKind.cell) else(n,k))=some .local:=h
          cases hb:x==n with
          |true =>
           by_cases FU:(k0==NameKind.free&&X.env.scope.kind == .function&&X.env.kindOf n==some .cell)=true
           ·rw[Yh FU] at h;simp only[Zo,hb] at h;cases h
           ·rw[Yd FU] at h;simp only[Zo,hb] at h |-;exact h
          |false =>
           simp only[Zo,hb];refine ih ?_
           by_cases FU:(k0==NameKind.free&&X.env.scope.kind == .function&&X.env.kindOf n==some .cell)=true
           ·rw[Yh FU] at h;simp only[Zo,hb] at h;exact h
           ·rw[Yd FU] at h;simp only[Zo,hb] at h;exact h
        exact gen _ z
       exact S.agI (x,.free) hm rfl lk
      ·exact .inl z
      ·exact .inr z
     ·obtain⟨o,ho,hd⟩:=GO;exact⟨o,old _ _ ho,hd⟩
 ·obtain⟨v,o,ho,hd⟩:=I.cell x c (sub x c e);exact⟨v,o,old _ _ ho,hd⟩
 ·show(σC nl js σ).length=N.length;unfold σC;rw[Yw,zk,Yg,S.len]
noncomputable abbrev zq (ys:nN)(k:Nat):Obj:={cls:=.type "list",data:=.seq ys.toArray k}
theorem jJ {J:It}{it:Addr}{fp:List Addr}{tn:Nat->Heap->Prop}{W:Nat->Nat->List V->St->Hp->Prop}{Fin:List V->Hp->Prop}
 {E:pH}{RR:Value->Addr->Result->Shared->Prop}
 (S:wy X N nl js osc scope)(hc:X.calm=true)(hg:∀C fp s H,PG (fK X N scope C fp s H) tg g)(ht:∀C fp s H,Dr (fK X N scope C fp s H) ifs tt)(he:∀C fp s H,PE (fK X N scope C fp s H) elt te)
 (I:Inv X pins σ H s)(T:Turn X.prog X.w X.K tg J fp it tn)(st:tn 0 s.heap)(f:∀b∈fp,c8 X pins H b)(w0:∃m,W 0 m [] (σC nl js σ) H)(hW:jN J g tt te W Fin)
 (SW:∀(D C:Addr)(H':Hp)(s':Bi)(xs:List V)(m:u9),Inv X pins σ (upd H' D (.lst xs)) s'->H' D=none->s'.heap.Ns C m->c8 X pins (upd H' D (.lst xs)) C->Fin xs H'->RR (.ref D) C (.ok .next) s'):
 wpAny (model X.prog X.w) X.A (newList []) (λacc s₃=>wpAny (model X.prog X.w) X.A (newFunctionEnv scope X.env.globals (gf scope.names X.env) [] X.env.qual none .none (some X.env)) (λKa s₄ =>
  codeAny (model X.prog X.w) X.A (.compStart (.ListComp elt [⟨tg,iter,ifs,0⟩] scope pos) 0 (.ref it) acc {Ka with scope:=relabel scope X.env}) (RR acc Ka.locals) s₄) E s₃) E s:=by
 have J8:∀b∈fp,b<s.heap.objs.size:=λb hb=>by
  obtain⟨o,e,_⟩:=T.obj 0 _ st b hb;exact Ym e
 refine YB (wpAny_newFunctionEnv S.cell (by intro y hy;simp at hy) (λh₁ IY HW=>?_) S.kind);dsimp only at IY HW |-;generalize NT:s.heap.push {cls:=.type "list",dict:=none,data:=.seq ([]:nN).toArray}=H2 at IY HW |-
 have hC:H2.objs.size=s.heap.objs.size+1:=by rw[<-NT,Zb]
 have MZ:s.heap.objs.size≠H2.objs.size:=by rw[hC];exact Yr (BH _)
 have below:∀b,b<s.heap.objs.size->b≠H2.objs.size/\b≠s.heap.objs.size:=λb hb=>⟨by rw[hC];exact Yr (ZK hb),Yr hb⟩;have old:∀b o,s.heap.get? b=some o->h₁.get? b=some o:=λb o e=>HW.extBut b o (below b (Ym e)).1 (Yc _ (NT▸Yc _ e));have NU:h₁.get? s.heap.objs.size=some {cls:=.type "list",data:=.seq ([]:nN).toArray 0}:=HW.extBut _ _ MZ (Yc _ (NT▸Yk _ rfl))
 have Kb:s.heap.objs.size<=H2.objs.size:=by rw[hC];exact vO _
 have GJ:∀y∈scope.names,y.2=.free->∃c,X.env.cells.lookup y.1=some c:=λy hy hf=>by
  have z:=S.free y hy hf;rw[<-S.out] at z;exact I.ok.has y.1 z
 have sub:∀x c,(gf scope.names X.env).lookup x=some c->X.env.cells.lookup x=some c:=λx c e=>pD GJ e
 have SX:∀x c,(gf scope.names X.env).lookup x=some c->c<s.heap.objs.size:=λx c e=>by
  obtain⟨v,q⟩:=I.cell x c (sub x c e);exact q.lt
 have J9:∀b∈fp,b∉eZ X.stack:=λb hb z=>by
  rcases Yn.mp (I.acR b z) with q|q
  ·exact(f b hb).2.1 q
  ·exact(f b hb).2.2.1 q
 have QQ:s.heap.objs.size∉eZ X.stack:=λz=>by
  rcases Yn.mp (I.acR _ z) with q|q
  ·exact absurd I.lt (by rw[<-q];exact Zh _)
  ·exact I.ae3 (Ye _) q
 have QR:s.heap.objs.size∉fp:=λz=>Zh _ (J8 _ z)
 have NV:∀{H':Hp}{ob:Obj},(∀b∈fp,H' b=none)->∀b∈fp,c8 (fK X N scope H2.objs.size fp s H) [(s.heap.objs.size,ob)] H' b:=λ{H' ob} hn b hb =>
  ⟨hn b hb,(below b (J8 b hb)).1,J9 b hb,.inl hb,λx c e=>(f b hb).2.2.2.2.1 x c (sub x c e),λp hp z=>by
   have e:p=(s.heap.objs.size,ob):=by
    have:p∈[(s.heap.objs.size,ob)]:=hp;simpa using this
   subst e
   exact QR (by rw[show s.heap.objs.size=b from z];exact hb)⟩
 have SY:∀{H':Hp},H' s.heap.objs.size=none->c8 (fK X N scope H2.objs.size fp s H) [] H' s.heap.objs.size:=λ{H'} hn =>
  ⟨hn,MZ,QQ,.inr (Ye _),λx c e=>Yr (SX x c e),λp hp=>absurd (show p∈([]:List (Addr×Obj)) from hp) (by simp)⟩
 have Kc:∀{σ':St}{H':Hp}{s':Bi}{ys:nN}{k:Nat},Inv (fK X N scope H2.objs.size fp s H) [] σ' H' s'->H' s.heap.objs.size=none->s'.heap.get? s.heap.objs.size=some (zq ys k) →
  Inv (fK X N scope H2.objs.size fp s H) [(s.heap.objs.size,zq ys k)] σ' H' s':=λ{σ' H' s' ys k} I' hn hl=>I'.acM λp hp=>by
  have e:p=(s.heap.objs.size,zq ys k):=by simpa using hp
  subst e;exact⟨hl,hn,MZ,QQ,λv z=>by cases z⟩
 have oH:∀s₃:Shared,s₃={s with heap:=h₁,toks:=s.toks+([]:List (Str×Value)).length} →
  codeAny (model X.prog X.w) X.A (.compLoop (.ListComp elt [⟨tg,iter,ifs,0⟩] scope pos) 0 (.ref it) (.ref s.heap.objs.size) (compEnvC scope (gf scope.names X.env) H2.objs.size X.env))
   (RR (.ref s.heap.objs.size) H2.objs.size) s₃:=by
  rintro s₃ rfl;obtain⟨m0,w0⟩:=w0;have I0:Inv (fK X N scope H2.objs.size fp s H) [] (σC nl js σ) H {s with heap:=h₁,toks:=s.toks+([]:List (Str×Value)).length}:=aa2 S I f J8 Kb old IY
  refine aaU (λn s'=>∃i σ' H' xs ys k,Inv (fK X N scope H2.objs.size fp s H) [(s.heap.objs.size,zq ys k)] σ' H' s'/\tn i s'.heap/\(∀b∈fp,H' b=none)/\aR xs ys/\W i n xs σ' H') ?_ m0
   ⟨0,σC nl js σ,H,[],[],0,Kc I0 (I.hok.fresh (Ye _)) NU,T.keep _ _ _ st λb _ o e=>old b o e,λb hb=>(f b hb).1,.nil,w0⟩
  rintro n s' ⟨i,σ',H',xs,ys,k,I',F8,QS,rv,w'⟩;obtain⟨hz,hw⟩:=hW i n xs σ' H' w'
  rcases hw with⟨stop,fin⟩|⟨go,step⟩
  ·refine YR (T.done (fK X N scope H2.objs.size fp s H) rfl rfl rfl hc i _ s' σ' H' (λ_ _=>False) I' (NV QS) F8 stop) (λr s1 z'=>?_) λ_ _ z=>z;obtain⟨hr,I1⟩:=z';subst hr;obtain⟨p1,p2,_⟩:=I1.pin (s.heap.objs.size,zq ys k) (by show _∈([]:List (Addr×Obj))++[_];simp);have u1:Un (eZ X.stack) fp H H' s.heap s1.heap:=I1.base
   have u2:Un (eZ X.stack) fp H (upd H' s.heap.objs.size (.lst xs)) s.heap s1.heap:=⟨u1.keep,u1.slot,λb o e n hx=>by rw[aA (Yr (Ym e))];exact u1.free b o e n hx,u1.there,
    λb zs e=>by rw[aA (aB (u1.acK b zs e) p2)];exact u1.acK b zs e,λb o zs e=>by rw[aA (aB (u1.acH b o zs e) p2)];exact u1.acH b o zs e,λb ps e=>by
     obtain⟨mo,q⟩:=u1.acO b ps e
     exact⟨mo,by rw[aA (aB q p2)];exact q⟩⟩
   have hk:fX X.prog X.w (upd H' s.heap.objs.size (.lst xs)) s1.heap:=eY I1.hok p2 ⟨Zi hz,ys,k,rv,p1⟩;have I3:Inv X pins σ (upd H' s.heap.objs.size (.lst xs)) s1:=I.ae4 I1.os u2 hk I1.bare λb hb=>⟨(f b hb).2.2.2.1,(f b hb).2.1,(f b hb).2.2.2.2.1,(f b hb).2.2.2.2.2⟩;obtain⟨mm,S0,_⟩:=I1.loc
   have S7:upd H' s.heap.objs.size (.lst xs) H2.objs.size=none:=by rw[aA (YM MZ)];exact I1.free
   exact SW _ _ H' s1 xs mm I3 p2 S0 (I.ada Kb S7) fin
  ·refine YR (T.item (fK X N scope H2.objs.size fp s H) rfl rfl rfl hc i _ s' σ' H' (λ_ _=>False) I' (NV QS) F8 go) (λr s1 z'=>?_) λ_ _ z=>z;obtain⟨u,hr,h4⟩:=z';subst hr;refine YR h4 (λ_ s2 z'=>?_) λ_ _ z=>z;obtain⟨x,QT,I2,r2,y2,HR,S9⟩:=z';have Ta:=I2.pinned (NV S9) (T.obj _ _ HR);refine YR (hg _ _ _ _ _ s2 σ' QT x u _ Ta r2 (step x QT y2)) (λ_ s3 z'=>?_) λ_ _ z=>z;obtain⟨σ3,H3,I3,q3⟩:=z';refine YR (ht _ _ _ _ _ s3 σ3 H3 _ I3 q3) (λok s4 z'=>?_) λ_ _ z=>z;obtain⟨H4,I4,q4⟩:=z'
   have back:∀{s5:Bi}{H5:Hp},Inv (fK X N scope H2.objs.size fp s H) ([(s.heap.objs.size,zq ys k)]++jY fp s2.heap) σ3 H5 s5->tn (i+1) s5.heap/\∀b∈fp,H5 b=none:=λ{s5 H5} I5 =>
    ⟨T.keep _ _ _ HR λb hb o e=>(I5.pin (b,o) (Yx _ (Yx _ (ff hb e)))).1,λb hb=>by
     obtain⟨o,e,d⟩:=T.obj _ _ HR b hb
     exact(I5.pin (b,o) (Yx _ (Yx _ (ff hb e)))).2.1⟩
   cases ok with
   |false =>
    rw[Yd Yp] at q4 |-;obtain⟨m',hm,w4⟩:=q4;exact⟨m',hm,i+1,σ3,H4,xs,ys,k,I4.acU,(back I4).1,(back I4).2,rv,w4⟩
   |true =>
    rw[Yh rfl] at q4 |-;refine YR (he _ _ _ _ _ s4 σ3 H4 _ I4 q4) (λv s5 z'=>?_) λ_ _ z=>z;obtain⟨y,H5,I5,r5,m',hm,w5⟩:=z';obtain⟨p1,p2,_⟩:=I5.pin (s.heap.objs.size,zq ys k) (Yx _ (ZE _ (by simp)));obtain⟨JY,ND⟩:=back I5;refine append_at (its:=ys.toArray) p1 (λh' sb hD=>?_) (by rw[Yj,<-rv.length];exact Zi hz);have I6:Inv (fK X N scope H2.objs.size fp s H) [] σ3 H5 {s5 with heap:=h'}:=de (I5.acM (pins':=[]) λp hp=>absurd hp (by simp)) (SY p2) sb;refine⟨m',hm,i+1,σ3,H5,xs++[y],ys++[v],k+1,Kc I6 p2 ?_,T.keep _ _ _ JY λb hb o e=>(sb.2 b λz=>QR (z▸hb)).trans e,ND,rv.append (.cons r5 .nil),w5⟩;rw[hD];show some _=some (zq (ys++[v]) (k+1));rw[zq,<-List.push_toArray]
 exact codeAny_compStart_list (oH _ rfl) (T.self X.A 0 _ _ _ (T.keep _ _ _ st λb _ o e=>old b o e) (oH _ rfl))
noncomputable def pP (wi:TI)(g:TG)(tt:TT)(te:TE)(nl:Nat)(js:List Nat):TE:=λσ H Q=>wi σ H λJ H1 =>
 ∃W:Nat->Nat->List V->St->Hp->Prop,(∃m,W 0 m [] (σC nl js σ) H1)/\jN J g tt te W λxs H'=>∀D,H' D=none->Q (.ref D) (upd H' D (.lst xs))
theorem jV (S:wy X N nl js osc scope)(I:Inv X pins σ H s):closureFor scope X.env=pure (gf scope.names X.env):=aa1 λy hy hf=>by
 have z:=S.free y hy hf;rw[<-S.out] at z;exact I.ok.has y.1 z
theorem bY {wi:TI}(S:wy X N nl js osc scope)(hc:X.calm=true)(hi:PI X tg iter wi)(hg:∀C fp s H,PG (fK X N scope C fp s H) tg g)(ht:∀C fp s H,Dr (fK X N scope C fp s H) ifs tt)
 (he:∀C fp s H,PE (fK X N scope C fp s H) elt te)(hs:∀x,foldedSetIterable iter X.env x=pure x:=by intro _;rfl):
 PE X (.ListComp elt [⟨tg,iter,ifs,0⟩] scope pos) (pP wi g tt te nl js):=by
 intro pins s σ H Q I h;rw[eval_ListComp];refine wpAny_comprehension_free (use:=none) rfl hs (jV S I) S.kind S.names (bO (hi pins s σ H _ I h) λv s1 h1=>bO h1 λMS s2 h2=>?_);obtain⟨it,fp,tn,J,H2,e,I2,T,HR,f2,W,w0,hW⟩:=h2;subst e;refine jJ (RR:=λacc C=>compPost (model X.prog X.w) X.A X.xe none (EP X pins σ Q) acc C) S hc hg ht he I2 T HR f2 w0 hW ?_;intro D C H' s' xs m I3 hD hn fC fin;exact⟨m,hn,λh' sb=>⟨.ref D,_,de I3 fC sb,rfl,fin D hD⟩⟩
theorem tj {i:Nat}{y:Str}{py Kd:Pos}{wi:TI}(S:wy X N nl js osc scope)(hc:X.calm=true)(hN:X.N.Nodup)(hy:X.N[i]?=some y)(hl:DM X.env.scope y)(hi:PI X tg iter wi)
 (hg:∀C fp s H,PG (fK X N scope C fp s H) tg g)(ht:∀C fp s H,Dr (fK X N scope C fp s H) ifs tt)(he:∀C fp s H,PE (fK X N scope C fp s H) elt te)
 (Tb:swapsWith (.ListComp elt [⟨tg,iter,ifs,0⟩] scope pos) (some (.Name y py)) Kd.line X.env=pure true)(hs:∀x,foldedSetIterable iter X.env x=pure x:=by intro _;rfl)
 (hf:X.fn y=true\/X.env.scope.names.lookup y=some .local:=by first|exact .inl rfl|exact .inr rfl|assumption):
 PS X (.Assign [.Name y py] (.ListComp elt [⟨tg,iter,ifs,0⟩] scope pos) Kd) (ll (pP wi g tt te nl js) (bw i)):=by
 intro pins s σ H D I h;rw[exec_Assign_Name_used _ _ _ _ Tb];refine X9 (v9 (X9 ?_));show wpAny _ X.A (do let _ <-comprehension (.ListComp elt [⟨tg,iter,ifs,0⟩] scope pos) scope X.env _ (newList []) false (eval iter X.env) (some (assign (.Name y py) X.env))) _ _ s
 refine X9 (YR (wpAny_comprehension_free (use:=some (assign (.Name y py) X.env)) (Q:=λ_ s'=>SP X pins D .next s') rfl hs (jV S I) S.kind S.names
  (bO (hi pins s σ H _ I h) λv s1 h1=>bO h1 λMS s2 h2=>?_)) (λ_ s' hq=>Yb (Yb hq)) λ_ _ e=>e)
 obtain⟨it,fp,tn,J,H2,e,I2,T,HR,f2,W,w0,hW⟩:=h2;subst e;refine jJ (RR:=λacc C=>compPost (model X.prog X.w) X.A X.xe (some (assign (.Name y py) X.env)) (λ_ s'=>SP X pins D .next s') acc C) S hc hg ht he I2 T HR f2 w0 hW ?_;intro Dd C H' s' xs m I3 hD hn fC fin;show wpAny _ X.A (assign (.Name y py) X.env (.ref Dd)) _ _ _;refine wpAny_assign_Name (lH I3 hN hy hl (show aG (.ref Dd) (.ref Dd) from rfl) (λs4 I4 z'=>?_) hf);obtain⟨a,sb,ha⟩:=z';refine⟨m,hn.sameBut sb ?_,λh' Tc=>⟨_,_,de I4 fC Tc,fin Dd hD⟩⟩
 rcases ha with z|z
 ·rw[z];exact fC.2.1
 ·exact λq=>fC.2.2.2.2.1 _ _ z q.symm
end
open PySem.W
noncomputable def aa3 (h B:Heap)(e:Addr)(cls a0 fl:Value)(d:vi):Prop :=
 ∃(o:Obj)(vs:Cu)(T:Addr)(oT:Obj)(ts:Cu),h.get? e=some o/\o.dict=d/\(o.cls=cls/\vs[0]?=some a0)/\o.data=.fields vs/\vs[1]?=some (.ref T)/\B.get? T=none/\T≠e/\h.get? T=some oT/\oT.data=.fields ts/\ts[3]?=some fl
structure CT (B:Heap)(l:List Env)(e:Addr)(cls a0 fl:Value)(d:vi)(h:Heap):Prop where
 st:B.StaysIn h
 new:B.get? e=none
 fr:h.FunFrames B l
 tr:aa3 h B e cls a0 fl d
variable {o:Obj}{vs:Cu}
section
variable {M:Model}{A:Around}{E:pH}{s:Bi}{B:Heap}{env:Env}{outer:List Env}{L e:Addr}{cls a0:Value}{d:vi}{Q:Unit->Shared->Prop}
theorem sV {hd:Value}{nx:Bool}(G9:A.frames=some (env::outer))(fr:s.heap.FunFrames B (env::outer))(hf:env.frame=some L)(st:B.StaysIn s.heap)(new:B.get? e=none)
 (he:s.heap.get? e=some o)(Gs:o.dict=d)(hc:o.cls=cls)(hv:o.data=.fields vs)(h1:1<vs.size)(h0:vs[0]?=some a0)
 (h:∀h',CT B (env::outer) e cls a0 (rawInt L) d h'->s.heap.UpToSlots h'->Q () {s with heap:=h'}):
 wpAny M A (do let a <-frameOf env;let pl <-entryPlaceOf L nx;let b <-EntryCells.newEntry hd a .none (rawInt L) .none pl;setField (.ref e) 1 b) Q E s:=by
 have nf:e∉(env::outer).filterMap (·.frame):=λm=>by
  obtain⟨_,o',F0,q⟩:=fr.mem m;rw[he] at F0;cases F0;exact q vs hv
 refine X9 (wpAny_frameOf_fun G9 fr hf λg sl=>X9 (wpAny_entryPlaceOf λpl GI=>?_));unfold EntryCells.newEntry newFields;refine X9 (YB ?_ (GI.sizeOk5 _ _ _ _ _));have e1:g.get? e=some o:=(sl.2.1 e nf).trans he;have QU:B.StaysIn g:=λb ob q=>(sl.2.1 b λm=>by rw[(fr.mem m).1] at q;cases q).trans (st b ob q);have ne:g.objs.size≠e:=Zz (Ym e1);have dv:=ZS hv (·.setIfInBounds 1 (Value.ref g.objs.size))
 have kp:∀(oT:Obj) b ob,b≠e->g.get? b=some ob->((g.push oT).update e (Obj.mapFields (·.setIfInBounds 1 (Value.ref g.objs.size)))).get? b=some ob:=λoT b ob hb q =>
  (YL _ _ (YM hb)).trans (Yc _ q)
 have nr:∀b ob,s.heap.get? b=some ob->(∀ws,ob.data≠.fields ws)->b≠e:=λb ob q hn z=>by rw[z,he] at q;cases q;exact hn vs hv
 refine ZT (Yc _ e1) hv h1 (h _ ⟨λb ob q=>kp _ b ob (λz=>by rw[z,new] at q;cases q) (QU b ob q),new,fr.of_keeps λb ob q hn=>?_,?_⟩ λb ob q hn=>?_)
 ·obtain⟨z,q1⟩:=sl.2.2 b ob q;exact⟨_,kp _ b _ (nr b ob q hn) q1,rfl⟩
 ·refine⟨_,_,g.objs.size,_,_,Y3 _ (Yc _ e1) (va dv),?_,⟨(y3 _ _).trans hc,by rw[Ei (by decide)];exact h0⟩,dv,by simp[h1],QU.fresh,ne,
   (YL _ _ (YM ne)).trans (Yk g rfl),rfl,by first|(simp;done)|(rcases GI with rfl|⟨_,_,_,_,_,_,_,rfl⟩ <;> simp)⟩
  rw[<-Gs]
  cases o
  dsimp only at hv;subst hv;rfl
 ·obtain⟨z,q1⟩:=sl.2.2 b ob q;exact⟨z,kp _ b _ (nr b ob q hn) q1⟩
theorem aa7 (G9:A.frames=some (env::outer))(hf:env.frame=some L)(x:CT B (env::outer) e cls a0 .none d s.heap)
 (h:∀h',CT B (env::outer) e cls a0 (rawInt L) d h'->s.heap.UpToSlots h'->Q () {s with heap:=h'}):wpAny M A (noteFrame (.ref e) env) Q E s:=by
 obtain⟨o,vs,T,oT,ts,he,Gs,⟨hc,h0⟩,hv,h1,nT,Te,hT,Ig,h3⟩:=x.tr;unfold noteFrame;simp only[hf];refine X9 (YW he hv h1 ?_);rw[Yh (by simp)];refine X9 (YW hT Ig h3 ?_);rw[Yd (by simp[rawInt])];refine X9 (ZT hT Ig (qZ.mp h3).1 ?_);have ot:∀b,b≠T->(s.heap.update T (Obj.mapFields (·.setIfInBounds 3 Value.none))).get? b=s.heap.get? b:=λb hb=>YL _ _ (YM hb)
 have nr:∀b ob,s.heap.get? b=some ob->(∀ws,ob.data≠.fields ws)->b≠T:=λb ob q hn z=>by rw[z,hT] at q;cases q;exact hn ts Ig
 refine sV (s:={s with heap:=s.heap.update T (Obj.mapFields (·.setIfInBounds 3 Value.none))}) G9 (x.fr.of_keeps λb ob q hn=>⟨ob,(ot b (nr b ob q hn)).trans q,rfl⟩) hf (λb ob q=>(ot b λz=>by rw[z,nT] at q;cases q).trans (x.st b ob q)) x.new
  ((ot e (YM Te)).trans he) Gs hc hv (qZ.mp h1).1 h0 λh' y up=>h h' y λb ob q hn=>up b ob ((ot b (nr b ob q hn)).trans q) hn
theorem abd (G9:A.frames=some (env::outer))(fr:s.heap.FunFrames B (env::outer))(hf:env.frame=some L)(st:B.StaysIn s.heap)(new:B.get? e=none)
 (he:s.heap.get? e=some o)(Gs:o.dict=d)(hc:o.cls=cls)(hv:o.data=.fields vs)(h1:vs[1]?=some .none)(h0:vs[0]?=some a0)
 (h:∀h',CT B (env::outer) e cls a0 (rawInt L) d h'->s.heap.UpToSlots h'->Q () {s with heap:=h'}):wpAny M A (noteFrame (.ref e) env) Q E s:=by
 unfold noteFrame;simp only[hf];refine X9 (YW he hv h1 ?_);rw[Yd (by decide)];exact sV G9 fr hf st new he Gs hc hv (qZ.mp h1).1 h0 h
theorem pI {l:List Env}{fl:Value}(x:CT B l e cls a0 fl d s.heap)(h:∀h',CT B l e cls a0 .none d h'->s.heap.UpToSlots h'->Q () {s with heap:=h'}):wpAny M A (setFlight (.ref e) none) Q E s:=by
 obtain⟨o,vs,T,oT,ts,he,Gs,hc,hv,h1,nT,Te,hT,Ig,h3⟩:=x.tr;have z3:3<ts.size:=(qZ.mp h3).1;have ot:∀b,b≠T->(s.heap.update T (Obj.mapFields (·.setIfInBounds 3 Value.none))).get? b=s.heap.get? b:=λb hb=>YL _ _ (YM hb)
 have nr:∀b ob,s.heap.get? b=some ob->(∀ws,ob.data≠.fields ws)->b≠T:=λb ob q hn z=>by rw[z,hT] at q;cases q;exact hn ts Ig
 unfold setFlight;refine X9 (YW he hv h1 ?_);rw[Yh (by simp)];refine ZT hT Ig z3 (h _ ⟨λb ob q=>(ot b λz=>by rw[z,nT] at q;cases q).trans (x.st b ob q),x.new,x.fr.of_keeps λb ob q hn=>⟨ob,(ot b (nr b ob q hn)).trans q,rfl⟩,?_⟩ λb ob q hn=>⟨ob.slots,(ot b (nr b ob q hn)).trans q⟩);exact⟨o,vs,T,_,_,(ot e (YM Te)).trans he,Gs,hc,hv,h1,nT,Te,Y3 _ hT (va (ZS Ig _)),ZS Ig _,by simp[z3]⟩
theorem CT.out {fl:Value}(x:CT B (env::outer) e cls a0 fl d h):CT B outer e cls a0 fl d h:=⟨x.st,x.new,x.fr.2.2,x.tr⟩
theorem abe (G9:A.frames=some (env::outer))(hf:env.frame=some L)(x:CT B (env::outer) e cls a0 .none d s.heap)
 (h:∀h',CT B outer e cls a0 .none d h'->s.heap.UpToSlots h'->Q () {s with heap:=h'}):wpAny M A (leaving env (.ref e)) Q E s:=by
 unfold leaving;exact X9 (aa7 G9 hf x λg y up=>pI (s:={s with heap:=g}) y λg2 y2 NW=>h g2 y2.out (up.trans NW))
theorem abf (G9:A.frames=some (env::outer))(fr:s.heap.FunFrames B (env::outer))(hf:env.frame=some L)(st:B.StaysIn s.heap)(new:B.get? e=none)
 (he:s.heap.get? e=some o)(Gs:o.dict=d)(hc:o.cls=cls)(hv:o.data=.fields vs)(h1:vs[1]?=some .none)(h0:vs[0]?=some a0)
 (h:∀h',CT B outer e cls a0 .none d h'->s.heap.UpToSlots h'->Q () {s with heap:=h'}):wpAny M A (leaving env (.ref e)) Q E s:=by
 unfold leaving;exact X9 (abd G9 fr hf st new he Gs hc hv h1 h0 λg y up=>pI (s:={s with heap:=g}) y λg2 y2 NW=>h g2 y2.out (up.trans NW))
end
theorem bD.there {o:HO}(x:bD P w H h a o):∃ob,h.get? a=some ob:=by
 cases o with
 |lst xs=>obtain⟨_,_,_,_,e⟩:=x;exact⟨_,e⟩
 |tup xs=>obtain⟨_,_,_,ob,e,_⟩:=x;exact⟨_,e⟩
 |dK Ft=>obtain⟨_,_,_,_,o,_,_,e,_⟩:=x;exact⟨_,e⟩
 |dT Ft=>obtain⟨_,_,_,_,o,_,_,e,_⟩:=x;exact⟨_,e⟩
 |set S n=>obtain⟨o,_,_,_,e,_⟩:=x;exact⟨_,e⟩
 |ins C dx fs=>obtain⟨_,_,_,e,_⟩:=x;exact⟨_,e⟩
 |own y=>obtain⟨_,e⟩:=x;exact⟨_,e⟩
 |xd fs=>obtain⟨_,⟨_,_,_,e,_⟩,_⟩:=x;exact⟨_,e⟩
 |rng lo hi=>obtain⟨_,_,_,e⟩:=x;exact⟨_,e⟩
 |frz ob u=>obtain⟨e,_⟩:=x;exact⟨_,e⟩
 |tbl ps=>exact⟨_,(show h.get? a=some _ from x)⟩
 |met f y=>exact⟨_,(show h.get? a=some _ from x)⟩
 |ext φ=>obtain⟨_,⟨_,e⟩,_⟩:=x;exact⟨_,e⟩
structure CZ (P:yo)(w:World)(l:List Env)(H₀:Hp)(h₀:Heap)(a:Addr)(cls:Value)(H:Hp)(h:Heap)(B:Heap)(a0:Value)(d:vi):Prop where
 fly:CT B l a cls a0 .none d h
 un:Un (eZ l) [] H₀ H h₀ h
 keep:∀b o,h₀.get? b=some o->H₀ b=none->b∉eZ l->B.get? b=some o
 there:∀b o,h₀.get? b=some o->b∉eZ l->∃o',B.get? b=some o'
 hok:fX P w H B
 new:H a=none
noncomputable def cD (P:yo)(w:World):EL:=λouter H₀ s₀ E e s'=>∃(a:Addr)(cls a0:Value)(B:Heap)(d:vi)(H:Hp),e=.ref a/\s'.os=s₀.os/\AllBare s'.gens/\CZ P w outer H₀ s₀.heap a cls H s'.heap B a0 d/\E cls d H
variable {cls:Value}
section
variable {X:Cx}{pins:List (Addr×Obj)}{σ:St}{H H':Hp}{s s':Bi}{P:yo}{w:World}
theorem eF {base:Heap}{l:List Env}(F:h.FunFrames base l){b:Addr}(hb:b∈eZ l)(e:h.get? b=some o):∀vs,o.data≠.fields vs:=by
 obtain⟨_,o',e',d⟩:=F.mem hb;rw[e] at e'
 cases e'
 exact d
theorem abm {outer:List Env}{h' HL B:Heap}{e t:Addr}{args:nN}{d:vi}(I:Inv X pins σ H s)(hex:X.ex=[])(JX:X.stack=X.env::X.outer)(hm:Heap.MadeExcOf s.heap h' e cls args)
 (hB:B=PySem.W.hideAll s.heap (eZ X.stack))(hf:CT B X.outer e cls (.ref t) .none d HL)(M0:h'.UpToSlots HL):CZ X.prog X.w X.outer X.H₀ X.s₀.heap e cls H HL B (.ref t) d:=by
 subst hB;have st:=hf.st;have Ke:∀b o,s.heap.get? b=some o->b∉eZ X.stack->(PySem.W.hideAll s.heap (eZ X.stack)).get? b=some o:=λb o e n=>PySem.W.hideAll_get _ e n
 have old:∀b o,X.s₀.heap.get? b=some o->b∉eZ X.outer->b∉eZ X.stack:=λb o e n z=>by
  rcases Yn.mp (I.acR b z) with q|q
  ·exact absurd (Ys (Ym e) I.ok.above) (by rw[q];exact Zh _)
  ·exact n q
 have base:Un (eZ X.outer) [] X.H₀ H X.s₀.heap s.heap:=by
  have z:=I.base;rw[hex] at z;exact z
 refine⟨hf,⟨λb o e n hb _=>st b o (Ke b o (base.keep b o e n hb (by simp)) (old b o e hb)),λb o e n hb _=>?_,base.free,λb o e _=>?_,base.acK,base.acH,base.acO⟩,λb o e n hb=>Ke b o (base.keep b o e n hb (by simp)) (old b o e hb),λb o e hb=>?_,λb u e=>?_,?_⟩
 ·obtain⟨sl,e1⟩:=base.slot b o e n hb (by simp);obtain⟨HI,e2⟩:=M0 b _ (hm.keeps b _ e1) (eF I.acP hb e1);exact⟨HI,e2⟩
 ·obtain⟨o',e1⟩:=base.there b o e (by simp)
  by_cases hb:b∈eZ X.outer
  ·obtain⟨HI,e2⟩:=M0 b _ (hm.keeps b _ e1) (eF I.acP hb e1);exact⟨_,e2⟩
  ·exact⟨o',st b o' (Ke b o' e1 (old b o e hb))⟩
 ·obtain⟨o',e1⟩:=base.there b o e (by simp);exact⟨o',Ke b o' e1 (old b o e hb)⟩
 ·exact(I.hok b u e).adk (λc v hc q=>Ke c v q λz=>by
   have n:=I.ac2 c z
   rcases hc with hc|hc
   ·rw[hc,e] at n;cases n
   ·rw[n] at hc;cases hc) (λ_ q=>q) λ_ _ q=>q
 ·cases q:H e with
  |none=>rfl
  |some u =>
   obtain⟨ob,e1⟩:=(I.hok e u q).there;rw[hm.new] at e1
   cases e1
theorem abn {HL B:Heap}{a0:Value}{d:vi}(I:Inv X pins σ H s)(hex:X.ex=[])(F:CZ X.prog X.w X.stack H s.heap a cls H' s'.heap B a0 d)
 (hf:CT B X.outer a cls a0 .none d HL)(M0:s'.heap.UpToSlots HL):CZ X.prog X.w X.outer X.H₀ X.s₀.heap a cls H' HL B a0 d:=by
 have st:=hf.st
 have sub:∀b,b∈eZ X.outer->b∈eZ X.stack:=λb hb=>by
  rcases I.ok.stk with z|⟨z,G9⟩
  ·rw[z];exact hb
  ·rw[z];unfold eZ;rw[Zf,G9];exact Yi _ hb
 have old:∀b o,X.s₀.heap.get? b=some o->b∉eZ X.outer->b∉eZ X.stack:=λb o e n z=>by
  rcases Yn.mp (I.acR b z) with q|q
  ·exact absurd (Ys (Ym e) I.ok.above) (by rw[q];exact Zh _)
  ·exact n q
 have base:Un (eZ X.outer) [] X.H₀ H X.s₀.heap s.heap:=by
  have z:=I.base;rw[hex] at z;exact z
 have kB:∀b o,X.s₀.heap.get? b=some o->X.H₀ b=none->b∉eZ X.outer->B.get? b=some o:=λb o e n hb =>
  F.keep b o (base.keep b o e n hb (by simp)) (base.free b o e n (by simp)) (old b o e hb)
 have tB:∀b o,X.s₀.heap.get? b=some o->b∉eZ X.outer->∃o',B.get? b=some o':=λb o e hb=>by
  obtain⟨o',e1⟩:=base.there b o e (by simp);exact F.there b o' e1 (old b o e hb)
 have GU:∀b o,s.heap.get? b=some o->H b=none->b∈eZ X.outer->∃sl,HL.get? b=some {o with slots:=sl}:=λb o e n hb=>by
  obtain⟨sl,e1⟩:=F.un.slot b o e n (sub b hb) (by simp);obtain⟨HI,e2⟩:=M0 b _ e1 (λvs q=>eF I.acP hb e vs q);exact⟨HI,e2⟩
 refine⟨hf,⟨λb o e n hb _=>st b o (kB b o e n hb),λb o e n hb _=>?_,λb o e n _=>?_,λb o e _=>?_,λb xs e=>F.un.acK b xs (base.acK b xs e),λb o xs e=>F.un.acH b o xs (base.acH b o xs e),λb ps e=>?_⟩,kB,tB,F.hok,F.new⟩
 ·obtain⟨sl,e1⟩:=base.slot b o e n hb (by simp);obtain⟨HI,e2⟩:=GU b _ e1 (base.free b o e n (by simp)) hb;exact⟨HI,e2⟩
 ·obtain⟨o',e1⟩:=base.there b o e (by simp);exact F.un.free b o' e1 (base.free b o e n (by simp)) (by simp)
 ·by_cases hb:b∈eZ X.outer
  ·obtain⟨o',e1⟩:=base.there b o e (by simp);have n:H b=none:=I.ac2 b (sub b hb);obtain⟨sl,e2⟩:=GU b o' e1 n hb;exact⟨_,e2⟩
  ·obtain⟨o',e1⟩:=tB b o e hb;exact⟨o',st b o' e1⟩
 ·obtain⟨m1,e1⟩:=base.acO b ps e;obtain⟨m2,e2⟩:=F.un.acO b _ e1;exact⟨m1++m2,by rw[e2,EW]⟩
end
theorem abo {K:PySem.W.Frag}{cd:ClassData}(h:PySem.W.clsIn K C=some cd):∃c d s,K.lookup C=some ⟨c,d,.cls cd,s⟩:=by
 unfold PySem.W.clsIn at h
 cases ho:K.lookup C with
 |none=>rw[ho] at h;cases h
 |some o =>
  rw[ho] at h;obtain⟨c,d,x,s⟩:=o
  cases x <;> cases h
  exact⟨_,_,_,rfl⟩
theorem abw {α:Type}{l:List α}(h:l.length=6):∃a b c d e f,l=[a,b,c,d,e,f]:=by
 obtain⟨a,l,rfl⟩:=YS h;obtain⟨b,l,rfl⟩:=YS (Y5 h);obtain⟨c,l,rfl⟩:=YS (Y5 (Y5 h));obtain⟨d,l,rfl⟩:=YS (Y5 (Y5 (Y5 h)));obtain⟨e,l,rfl⟩:=YS (Y5 (Y5 (Y5 (Y5 h))));obtain⟨f,rfl⟩:=wk.mp (Y5 (Y5 (Y5 (Y5 (Y5 h)))));exact⟨a,b,c,d,e,f,rfl⟩
theorem abD {K:PySem.W.Frag}{IJ:nN}{newId:String}(X:K.In h)(q:nR K C IJ newId=true):
 ∃bm N nm qn bs hd sn sub ab col dd k0 k1 k2 k3 k5 mN,h.get? C=some (excClassObj nm qn C N bs bm hd sn sub ab col dd k0 k1 k2 k3 k5 newId)/\h.Ns N mN/\mN "__init__"=none/\OwnTail h IJ bm:=by
 have q1:=YK.mp q;obtain⟨cd,hc,q2⟩:=(Option.any_eq_true _ _).mp q1.2;obtain⟨c,dd,sl,ho⟩:=abo hc;have q3:=YK.mp q2;have q4:=YK.mp q3.2;have q5:=YK.mp q4.2;have q6:=YK.mp q5.2
 have e1:(c == .type "type"&&(sl.size==6&&sl.toList[4]?==some (some (.builtin newId))))=true:=by
  have z:=q1.1;rw[ho] at z;exact z
 have e2:=YK.mp e1;have e3:=YK.mp e2.2;obtain⟨k0,k1,k2,k3,k4,k5,e⟩:=abw (l:=sl.toList) (eq_of_beq e3.1)
 have e4:k4=some (.builtin newId):=by
  have z:=eq_of_beq e3.2;rw[e] at z;exact Option.some.inj z
 have e5:sl = #[k0,k1,k2,k3,some (.builtin newId),k5]:=uL.mp (by rw[e,e4])
 have e6:cd.mro=.ref C::cd.mro.tail:=by
  obtain⟨r,z⟩:=List.head?_eq_some_iff.mp (eq_of_beq q3.1);rw[z];rfl
 have e7:cd.hasDel=false:=by simpa using q4.1
 refine⟨cd.mro.tail,cd.ns,cd.name,cd.qualname,cd.bases,cd.hasDict,cd.slotNames,cd.subclasses,cd.abstract,cd.collection,dd,k0,k1,k2,k3,k5,_,(X _ _ ho).trans ?_,.of_isNs (PySem.W.isNs_of_in X q6.1),PySem.W.nsMap_none_of_in X q6.1 (eq_of_beq q6.2),PySem.W.tail_of_in X q5.1⟩;rw[e5,eq_of_beq e2.1];show some (Obj.mk _ _ (.cls cd) _)=some (Obj.mk _ _ (.cls ⟨_,_,_,_,_,_,_,_,_,_,false⟩) _);rw[<-e6,<-e7]
noncomputable def xh (X:Cx)(E:St->XK):Prop:=∀(pins:List (Addr×Obj))(σ:St)(H:Hp)(s:Bi)(h':Heap)(e:Addr)(cls:Value)(args:nN),Inv X pins σ H s->Heap.MadeExcOf s.heap h' e cls args->E σ cls none H->X.xe (.ref e) {s with heap:=h'}
noncomputable def abQ (C:Addr)(E:St->XK)(t:TA):TS:=λ_ σ H=>t σ H λvs H1=>vs.length<=sizeLine/\E σ (.ref C) none H1
section
variable {X:Cx}{E:St->XK}{x:Str}{C:Addr}{B newId IZ:String}{IJ:nN}{np FF pos:Pos}{e:Expr}{es:wI}{t:TA}
theorem fR (FB:ExcBaseFacts B newId IZ IJ)(q:nR X.K C IJ newId=true)(hc:X.calm=true)(hR:xh X E)(hg:Gl X x)(hm:X.mg x=some (.ref C))(ha:PA X (e::es) t)
 (he:starEach (e::es) X.env=(false,eval e X.env):: starEach es X.env:=by rfl)(GI:(backTo FF (starEach es X.env)).any (·.1)=false:=by rfl)(hd:(x==("__debug__":Str))=false:=by decide):
 PS X (.Raise (some (.Call (.Name x np) (e::es) [] FF)) none pos) (abQ C E t):=by
 intro pins s σ H D I h;obtain⟨bm,N,nm,qn,bs,hdct,sn,sub,ab,col,dd,k0,k1,k2,k3,k5,mN,hC,hN,Td,T⟩:=abD I.ok.mod.kin q
 refine wpAny_Raise_call_subT (C:=C) (nm:=nm) (q:=qn) (N:=N) (bs:=bs) (bm:=bm) (hdct:=hdct) (sn:=sn) (sub:=sub) (ab:=ab) (col:=col) (dd:=dd) (k0:=k0) (k1:=k1) (k2:=k2) (k3:=k3) (k5:=k5)
  FB (mN:=mN) (T.hasType FB.hasBase) (I.ok.hd hc) (by rw[he];show(false || (backTo FF (starEach es X.env)).any (·.1))=false;rw[GI];rfl) Td (gs I hg hm ⟨rfl,?_⟩ hd)
 have z:=ha FF pins s σ H _ I h;rw[he] at z |-;refine vJ (YR z (λus s₂ z'=>?_) λ_ _ y=>y);obtain⟨vs,H2,I2,rv,hl,hE⟩:=z';exact⟨rfl,by rw[<-rv.length];exact hl,I2.bk _ _ hC,hN.keeps I2.bk,T.keeps I2.bk,λh' e' M3=>hR pins σ H2 s₂ h' e' _ _ I2 M3 hE⟩
end
section
variable {P:yo}{w:World}{K:PySem.W.Frag}{mg:u9}{base:Heap}{N:Ez}{qual:Str}{scope:Scope}{f:Addr}{cd:Value}{A:Around}{outer:List Env}{s:Bi}{H:Hp}{E:XK}
theorem dZ:xh (gF (cD P w) P w K mg base N qual scope f cd A outer s H E) λ_=>E:=by
 intro pins σ H1 s1 h' e cls args I hm hE;have JX:(gF (cD P w) P w K mg base N qual scope f cd A outer s H E).stack=(gF (cD P w) P w K mg base N qual scope f cd A outer s H E).env::outer:=rfl;have hl:=I.stack;obtain⟨t,he,Xz,ht⟩:=hm.there;have hB:∀b o,(PySem.W.hideAll s1.heap (eZ (gF (cD P w) P w K mg base N qual scope f cd A outer s H E).stack)).get? b=some o->s1.heap.get? b=some o:=λb o q=>PySem.W.of_hideAll _ q
 have nB:(PySem.W.hideAll s1.heap (eZ (gF (cD P w) P w K mg base N qual scope f cd A outer s H E).stack)).get? e=none:=by
  cases q:(PySem.W.hideAll s1.heap (eZ (gF (cD P w) P w K mg base N qual scope f cd A outer s H E).stack)).get? e with
  |none=>rfl
  |some o=>have z:=hB _ _ q;rw[hm.new] at z;cases z
 have Tf:=PySem.W.funFrames_hide hl λenv he a ha=>Aq.mpr ⟨env,he,ha⟩
 refine abf (B:=PySem.W.hideAll s1.heap (eZ (gF (cD P w) P w K mg base N qual scope f cd A outer s H E).stack)) (s:={s1 with heap:=h'}) (d:=none) (cls:=cls) (a0:=.ref t) I.ok.frames (Tf.of_keeps λb o q _=>⟨o,hm.keeps b o q,rfl⟩) rfl
  (λb o q=>hm.keeps b o (hB b o q)) nB he rfl rfl rfl rfl rfl λHL x1 x4=>?_
 exact⟨e,cls,.ref t,_,none,H1,rfl,I.os,I.bare,abm (outer:=outer) I rfl rfl hm rfl x1 x4,hE⟩
theorem abR:fH (cD P w) (gF (cD P w) P w K mg base N qual scope f cd A outer s H E) E:=by
 intro pins σ H1 s1 e s' I hx;obtain⟨a,cls,a0,B,d,H',rfl,ho,hg,F,hE⟩:=hx;refine abe (L:=s.heap.objs.size) I.ok.frames rfl F.fly λHL x1 x2=>?_;exact⟨a,cls,a0,B,d,H',rfl,ho.trans I.os,hg,abn I rfl F x1 x2,hE⟩
end
theorem ao {X:Cx}:fH (cD P w) X λ_ _ _=>False:=by
 intro pins σ H1 s1 e s' I hx;obtain⟨a,cls,a0,B,d,H',_,_,_,_,hE⟩:=hx;exact hE.elim
noncomputable def Di (a:Addr)(cls:Value):HO:=.ext λh=>∃o vs,h.get? a=some o/\o.cls=cls/\o.data=.fields vs
theorem abU (k:fX P w H h)(e:H a=some (Di a cls)):∃o vs,h.get? a=some o/\o.cls=cls/\o.data=.fields vs:=(k a _ e).1
structure EM (K:Frag)(C:Addr):Prop where
 cls:(clsIn K C).isSome=true
 ga:findIn K (.ref C) "__getattribute__"=some (some (.builtin "BaseException.__getattribute__"))
 gx:findIn K (.ref C) "__getattr__"=some none
 ca:findIn K (.ref C) "__class__"=some (some (.builtin "object.__class__"))
 ob:mroIn K C (.type "object")=some true
 be:mroIn K C (.type "BaseException")=some true
section
variable {prog:yo}{w:World}{A:Around}{E:pH}{K:Frag}{x C:Addr}{ox:Obj}
theorem abV {M:Model}{Ih:Value}{Q:Unit->Shared->Prop}(X:K.In s.heap)(k:EM K C)(e:s.heap.get? x=some ox)(hc:ox.cls=.ref C)(hq:Q () s):
 wpAny M A (checkBuiltinCall "BaseException.__getattribute__" ⟨[.ref x,Ih],[]⟩) Q E s:=by
 obtain⟨hh,g,d,t,os⟩:=s;have L0:Looks M hh (typeOf (.ref x)) (.ref C):=hc▸(Looks.ld e).andThen .now;have L5:=looks_mroIn (M:=M) X k.be
 have hk:builtinKind "BaseException.__getattribute__"=some .slot:=by decide +kernel
 have I8:splitId "BaseException.__getattribute__"=some ("BaseException","__getattribute__"):=by decide +kernel
 have ha:=F.args_bexc_ga (.ref x) Ih;simp only[checkBuiltinCall,hk,I8];unfold isInstance
 repeat (any_goals (first|assumption|lk|wp_step))
open Builtin Builtin.ObjectAttr Builtin.Getset_descriptor in
theorem ab5 {R:Result->Shared->Prop}{tp:Value}(X:K.In s.heap)(k:EM K C)(e:s.heap.get? x=some ox)(hc:ox.cls=.ref C)(h:R (.ok (.ret (.ref C))) s):
 codeAny (model prog w) A (.call (.builtin "getset_descriptor.__get__") ⟨[.builtin "object.__class__",.ref x,tp],[]⟩) R s:=by
 obtain⟨hh,g,dr,t,os⟩:=s;have L0:Looks (model prog w) hh (typeOf (.ref x)) (.ref C):=hc▸(Looks.ld e).andThen .now;have L1:=looks_mroIn (M:=model prog w) X k.ob;refine om KF.slot_gs.plain KF.entry_gs (KF.slot_gs.check _ _ _ _ _ _ _ _ KF.type_class (KF.args_gs _ _ _) ?_);unfold Builtin.«getset_descriptor.__get__» descrGet;rw[dga_obj];refine X9 (Yb ?_);unfold descrGetter descrCheckInstance descrNameAndClass isInstance;simp only[KF.owner_class]
 repeat lk
 refine⟨Code.quiet_builtin _ (by decide +kernel),ZM KF.entry_class ?_⟩;unfold Builtin.«object.__class__» shownTypeOf
 repeat lk
 exact h
theorem ab6 {tk:Tok}{Q:PySem.Fin->Shared->Prop}(X:K.In s.heap)(k:EM K C)(e:s.heap.get? x=some ox)(hc:ox.cls=.ref C)(hq:Q (.done (.ret (.ref C))) s):
 wpAny (model prog w) A (Builtin.«object.__getattribute__» ⟨[.ref x,.str "__class__" tk],[]⟩) Q E s:=by
 obtain⟨hh,g,d,t,os⟩:=s;have L0:Looks (model prog w) hh (typeOf (.ref x)) (.ref C):=hc▸(Looks.ld e).andThen .now;have L3:=looks_findIn (M:=model prog w) X k.ca;have f5:=F.typeOf_object_class;have f6:=F.slot_gs_get.lookup;have f7:=F.slot_gs_set.lookup
 repeat (any_goals (first|assumption|(with_reducible refine Looks.at (by assumption) ?_)|(with_reducible refine Looks.at L0 ?_)|wp_step))
 refine ab5 X k e hc ?_
 repeat (any_goals (first|assumption|wp_step))
theorem ab7 {tk:Tok}{fill expr:Bool}{Q:pH}{s:Bi}(X:K.In s.heap)(k:EM K C)(e:s.heap.get? x=some ox)(hc:ox.cls=.ref C)(hq:Q (.ref C) s):
 wpAny (model prog w) A (getAttrBy (.ref x) (.str "__class__" tk) fill expr) Q E s:=by
 obtain⟨hh,g,d,t,os⟩:=s;have L0:Looks (model prog w) hh (typeOf (.ref x)) (.ref C):=hc▸(Looks.ld e).andThen .now;have L1:=looks_findIn (M:=model prog w) X k.ga;have L2:=looks_findIn (M:=model prog w) X k.gx;have f3:=F.attr_ValueError.ga.bind (.ref x)
 have M4:(expr&&onTheHeap (Value.builtin "BaseException.__getattribute__"))=false:=by cases expr <;> rfl
 have GR:(Value.builtin "BaseException.__getattribute__"==Value.builtin "object.__getattribute__")=false:=by decide +kernel
 have M5:(onTheHeap (Value.ref C)&&Value.builtin "BaseException.__getattribute__"==Value.builtin "object.__getattribute__")=false:=by rw[GR];rfl
 repeat (any_goals (first|assumption|(with_reducible refine Looks.at (by assumption) ?_)|(with_reducible refine Looks.at L0 ?_)|wp_step))
 refine om F.attr_ValueError.ga.plain F.entry_bexc_ga (abV X k e hc (ab6 X k e hc ?_))
 repeat (any_goals (first|assumption|wp_step))
theorem ab8 {Q:Option Value->Shared->Prop}(X:K.In s.heap)(k:EM K C)(e:s.heap.get? x=some ox)(hc:ox.cls=.ref C)(hq:Q (some (.ref C)) {s with toks:=s.toks+1}):
 wpAny (model prog w) A (getAttr? (.ref x) "__class__") Q E s:=by
 unfold getAttr? getAttrBy?;refine X9 (wpAny_mkText (X9 (ZN (ab7 (s:={s with toks:=s.toks+1}) X k e hc ?_))));exact Yb hq
theorem acj (k:EM K C):KitX K (.ref x) (.ref C) (λh=>∃o,h.get? x=some o/\o.cls=.ref C) where
 ty:=λ_ _ _ ⟨o,e,hc⟩=>hc▸(Looks.ld e).andThen .now
 it:=λ_ _ X _=>by
  have HS:=k.cls;unfold clsIn at HS
  split at HS
  ·rename_i c' d' Tg HI ho
   intro A' Q' E' s' kk q;unfold isType loadHead;exact X9 (wpAny_loadPart (kk _ _ (X _ _ ho)) (Yb q))
  ·cases HS
 ne:=λh tp dd its n sl X Ti=>by
  have HS:=k.cls;refine Bool.eq_false_iff.mpr λq=>?_;have e:C=tp:=Value.ref.inj (Bl.mp q);subst e;unfold clsIn at HS
  split at HS
  ·rename_i c' d' Tg HI ho
   have z:=(X _ _ ho).symm.trans Ti
   cases z
  ·cases HS
 ca:=λX ⟨o,e,hc⟩ q=>ab8 X k e hc q
end
section
variable {X:Cx}{pins:List (Addr×Obj)}{σ:St}{H:Hp}{s:Bi}
inductive uS (K:Frag)(H:Hp):V->Value->Prop where
 |of {x:V}{t:Value}(h:zU K H x t):uS K H x t
 |exc {a C:Addr}(e:H a=some (Di a (.ref C)))(k:EM K C):uS K H (.ref a) (.ref C)
theorem ack {A:Around}{E:pH}{Q:pH}{x:V}{u t c:Value}{b:Bool}(I:Inv X pins σ H s)(rx:aG x u)(ty:uS X.K H x t)(e:kitOne X.K t c=some b)(h:∀tk,Q (.bool b) {s with toks:=tk}):
 wpAny (model X.prog X.w) A (call (.builtin "isinstance") [u,c]) Q E s:=by
 cases ty with
 |of z=>exact adu I rx z e h
 |exc ea k =>
  rename_i a C
  cases(show u=Value.ref a from rx)
  obtain⟨o,vs,h1,h2,_⟩:=abU I.hok ea;exact kia_one (acj k) I.kIn ⟨o,h1,h2⟩ e (λz=>nomatch z) h
noncomputable def acA:V->Value->Prop
 | .ty n,c=>c=.type n
 | .ref a,c=>c=.ref a
 |_,_=>False
theorem aZ:cS X (.builtin "isinstance") (λxs H Q=>∃x c t cv b,xs=[x,c]/\acA c cv/\uS X.K H x t/\kitOne X.K t cv=some b/\Q (.bl b) H):=by
 intro pins s σ H xs us Q I r h;obtain⟨x,c,t,cv,b,rfl,hc,ty,e,q⟩:=h
 cases r with
 |cons r1 r2 =>
  cases r2 with
  |cons r2 r3 =>
   cases r3
   rename_i u uc
   have Tj:uc=cv:=by
    cases c with
    |ty n=>cases(show uc=Value.type n from r2);exact hc.symm
    |ref a=>cases(show uc=Value.ref a from r2);exact hc.symm
    |_=>exact hc.elim
   subst Tj;exact ack I r1 ty e λtk=>⟨.bl b,H,I.tok tk,rfl,q⟩
end
variable {N:Ez}{k:Nat}{sp:Sp}
section
variable {P:yo}{w:World}{K:PySem.W.Frag}{mg:u9}{base:Heap}
theorem ve.okN (F:ve K x qual st f fd)(S:CP N ps (ar st))(len:∀vs H Q E,sp vs H Q E->vs.length=ps.length)
 (F3:∀(Fv:Value)(A:Around)(outer:List Env)(s:Bi)(H:Hp)(vs:List V)(Q:VK)(E:XK),wa k (A.deeper (envOfC qual (ar st) s.heap.objs.size f Fv))->sp vs H Q E →
  ∃t,oO (gF (cD P w) P w K mg base N qual (ar st) f Fv A outer s H E).nox (cj st) t/\t {nx:=λ_ H'=>Q .non H',rt:=Q} (gH N vs) H):ya P w K mg base (cD P w) (k+1) f fd ps sp:=by
 obtain⟨oc,od,kV,doc,pm,an,Fv,ct,FX,rfl,lk,Gg⟩:=F.ex;refine xu lk Gg S len λA outer s H vs Q E hr GY=>?_;obtain⟨t,h,q⟩:=F3 Fv A outer s H vs Q E hr GY;exact⟨t,h.nox,q⟩
theorem ve.okE (F:ve K x qual st f fd)(S:CP N ps (ar st))(len:∀vs H Q E,sp vs H Q E->vs.length=ps.length)
 (F3:∀(Fv:Value)(A:Around)(outer:List Env)(s:Bi)(H:Hp)(vs:List V)(Q:VK)(E:XK),wa k (A.deeper (envOfC qual (ar st) s.heap.objs.size f Fv))->sp vs H Q E →
  ∃t,oO (gF (cD P w) P w K mg base N qual (ar st) f Fv A outer s H E) (cj st) t/\t {nx:=λ_ H'=>Q .non H',rt:=Q} (gH N vs) H):ya P w K mg base (cD P w) (k+1) f fd ps sp:=by
 obtain⟨oc,od,kV,doc,pm,an,Fv,ct,FX,rfl,lk,Gg⟩:=F.ex;exact xu lk Gg S len λA outer s H vs Q E hr GY=>F3 Fv A outer s H vs Q E hr GY
end
section
variable {X:Cx}
noncomputable def adx (K:PySem.W.Frag):R2:=λx y H Q=>∃p q xs,x=.ref p/\y=.ref q/\bo K H p xs/\bo K H q []/\Q (.bl (decide (xs=[]))) H
theorem oJ (hr:wa k X.A):eA X (compareOp .Eq) (adx X.K):=by
 intro pins s σ H x y v u Q I rx ry h;obtain⟨p,q,xs,rfl,rfl,h1,h2,w⟩:=h
 cases(show v=Value.ref p from rx)
 cases(show u=Value.ref q from ry)
 obtain⟨its,r1,p1,_⟩:=I.list h1;obtain⟨Fx,r2,p2,_⟩:=I.list h2
 cases r2
 by_cases e:xs=[]
 ·subst e
  cases r1
  refine SeqAt.eq_listAt (e:=λ_=>true) p1.isList p2.isList rfl hr.adp (λj a b=>absurd a (by simp)) ⟨.bl true,H,I,?_,by simpa using w⟩;rfl
 ·refine SeqAt.eq_list_lengthsAt p1.isList p2.isList ?_ hr.adp ⟨.bl false,H,I,rfl,by simpa[e] using w⟩;have hl:=r1.length;have hx:xs.length≠0:=λz=>e (Az z)
  have:its.toArray.size≠0:=by rw[Yj];omega
  simpa using this
end
noncomputable def wm (tabs:List (Addr×Addr))(H:Hp):Prop:=(∀b,H b=none\/(∃o xs,H b=some (.frz o (.lst xs)))\/(H b=some (.tbl #[])/\∃c,(c,b)∈tabs))/\∀q∈tabs,H q.2=some (.tbl #[])
structure vo (tabs:List (Addr×Addr))(mg:u9)(base:Heap):Prop where
 hd:∀q∈tabs,CodeHd base q.1 q.2
 bm:∃bm ob,mg "__builtins__"=some (.ref bm)/\bm≠builtinsNs/\base.get? bm=some ob/\ob.cls=.type "module"/\ob.dict=some builtinsNs/\ob.data=.plain
variable {K:Frag}
theorem ady {mg mb:u9}{CX:EL}{fa:Addr}{s₁:Bi}{vs:nN}{ns:List Int}{tabs:List (Addr×Addr)}
 (KX:K.In s₁.heap)(MX:s₁.heap.Ns mainGlobals mg)(hb:s₁.heap.Ns builtinsNs mb)(Tn:∀x:Str,x ≠ "__name__"->mb x=bootBuiltins x)(NX:s₁.heap.NoLimit)(hg:s₁.gens = #[])
 (ha:s₁.heap.get? a=some {cls:=.type "list",data:=.seq vs.toArray})(hi:IntsAre vs ns)(hl:ns.length<=sizeLine)(hr:wa k callerA)(hT:TabsAt tabs s₁.heap)(To:∀q∈tabs,K.lookup q.2=none)
 (Tp:∃bm ob,mg "__builtins__"=some (.ref bm)/\bm≠builtinsNs/\s₁.heap.get? bm=some ob/\ob.cls=.type "module"/\ob.dict=some builtinsNs/\ob.data=.plain)
 (F:∀base:Heap,K.In base->base.Ns mainGlobals mg->vo tabs mg base->ya P w K mg base CX k fa fd [x] sp)(Kf:∀(s:Bi)(u:Value),BindsTo s fd ⟨[u],[]⟩ [(x,u)])
 (GY:∀H:Hp,wm tabs H->bo K H a (ns.map V.int)->sp [.ref a] H (λv _=>v=.bl true) λ_ _ _=>False)
 (NY:∀H e s',CX [] H s₁ (λ_ _ _=>False) e s'->False):
 codeAny (model P w) callerA (.call (.ref fa) ⟨[.ref a],[]⟩) (λr s'=>r=.ok (.ret (.bool true))/\OldK s₁.heap s'.heap/\s'.os=s₁.os/\AllBare s'.gens) s₁:=by
 have rv:=lL hi;have NZ:=hi.length;have uk:∀b,(∃c,(c,b)∈tabs)->s₁.heap.get? b=some (tabObj #[]):=λb ⟨c,hc⟩=>(hT _ hc).2
 have core:∀H:Hp,wm tabs H->bo K H a (ns.map V.int)->fX P w H s₁.heap->(∀b,H b≠none->b=a\/∃c,(c,b)∈tabs)->(H a≠none->K.lookup a=none) →
  codeAny (model P w) callerA (.call (.ref fa) ⟨[.ref a],[]⟩) (λr s'=>r=.ok (.ret (.bool true))/\OldK s₁.heap s'.heap/\s'.os=s₁.os/\AllBare s'.gens) s₁:=by
  intro H hO hS hok hA hK;have base_of:∀{b:Addr}{o:Obj},s₁.heap.get? b=some o->H b=none->(lq s₁.heap H).get? b=some o:=λe n=>adK e n
  have QV:∀{b:Addr}{o:Obj},s₁.heap.get? b=some o->o.cls≠.none->(∀its n,o.data≠.seq its n)->H b=none:=λ{b o} e d1 d2=>by
   cases q:H b with
   |none=>rfl
   |some u =>
    rcases hA b (by rw[q];simp) with e'|e'
    ·subst e';rw[ha] at e;cases e;exact absurd rfl (d2 _ _)
    ·rw[uk b e'] at e;cases e;exact absurd rfl d1
  have J1:∀{b:Addr}{o:Obj}{es:Array DictEntry}{ep:Nat},s₁.heap.get? b=some o->o.data=.dict es ep->H b=none:=λ{b o es ep} e d=>by
   cases q:H b with
   |none=>rfl
   |some u =>
    rcases hA b (by rw[q];simp) with e'|e'
    ·subst e';rw[ha] at e;cases e;have d':Data.seq vs.toArray _=Data.dict es ep:=d
     cases d'
    ·rw[uk b e'] at e;cases e;have d':Data.fields #[]=Data.dict es ep:=d
     cases d'
  have M6:∀{b:Addr}{m:u9},s₁.heap.Ns b m->(lq s₁.heap H).Ns b m:=λ{b m} ⟨o,es,ep,e,d,r⟩=>⟨o,es,ep,base_of e (J1 e d),d,r⟩
  have QW:K.In (lq s₁.heap H):=λb o e=>base_of (KX b o e) (by
   cases q:H b with
   |none=>rfl
   |some u =>
    rcases hA b (by rw[q];simp) with e'|⟨c,e'⟩
    ·subst e';rw[hK (by rw[q];simp)] at e;cases e
    ·have z:=To _ e'
     rw[z] at e;cases e)
  have hM:Mod K mg (lq s₁.heap H):=⟨QW,M6 MX,⟨mb,M6 hb,Tn⟩,let⟨mc,h1,h2⟩:=NX;⟨mc,M6 h1,h2⟩⟩
  have Tq:vo tabs mg (lq s₁.heap H):=by
   refine⟨λq hq=>?_,?_⟩
   ·obtain⟨o,ws,file,tf,flags,tg,Tr,text,tt,e1,r1,r2,r3⟩:=(hT q hq).1;exact⟨o,ws,file,tf,flags,tg,Tr,text,tt,base_of e1 (QV e1 (by rw[r1];intro z;cases z) (λits n z=>by rw[r2] at z;cases z)),r1,r2,r3⟩
   ·obtain⟨bm,ob,b1,b2,b3,b4,b5,b6⟩:=Tp;exact⟨bm,ob,b1,b2,base_of b3 (QV b3 (by rw[b4];intro z;cases z) (λits n z=>by rw[b6] at z;cases z)),b4,b5,b6⟩
  have e0:DP P w K mg (lq s₁.heap H) callerA [] s₁ H:=⟨rfl,hM,λb o e=>acQ e,xn (adU _ _),trivial,λb hb=>absurd (show b∈([]:List Addr) from hb) (by simp),hok,.of_eq hg⟩;refine qP ((F _ QW (M6 MX) Tq).run callerA [] s₁ H ⟨[.ref a],[]⟩ [.ref a] [.ref a] _ _ hr e0 (Kf s₁ (.ref a)) (.cons rfl .nil) (GY H hO hS)) λr s' h=>?_
  cases r with
  |error e=>exact(NY H e s' h).elim
  |ok fl =>
   cases fl with
   |next=>exact False.elim h
   |brk=>exact False.elim h
   |cont=>exact False.elim h
   |ret u =>
    obtain⟨v,H',os,bare,un,Kg,r',q⟩:=h;have q':v=.bl true:=q;subst q';obtain rfl:u=Value.bool true:=r';refine⟨rfl,⟨λb o e=>?_,λb o e=>un.there b o e (by simp)⟩,os,bare⟩
    cases q:H b with
    |none=>exact .inl (un.keep b o e q (by intro z;exact absurd (show b∈([]:List Addr) from z) (by simp)) (by simp))
    |some u =>
     rcases hO.1 b with z|⟨ob,xs,z⟩|⟨z,c,hc⟩
     ·rw[q] at z;cases z
     ·have z2:=un.acH b ob _ z;obtain⟨e1,_⟩:=hok b _ z;obtain⟨e2,_⟩:=Kg b _ z2;rw[e] at e1;cases e1;exact .inl e2
     ·obtain⟨more,z2⟩:=un.acO b _ z;have e2:s'.heap.get? b=some {cls:=.none,data:=.fields (#[]++more)}:=Kg b _ z2;have e1:=uk b ⟨c,hc⟩;rw[e] at e1;cases e1;exact .inr (.inl ⟨((hT _ hc).1.tab (hT _ hc).2).isCodeTable,rfl,#[],more,rfl,e2⟩)
 have aT:∀c,(c,a)∉tabs:=λc hc=>by
  have z:=uk a ⟨c,hc⟩;rw[ha] at z
  cases z
 have Kh:∀b,Decidable (∃c,(c,b)∈tabs):=λb=>Classical.propDecidable _
 cases hk:K.lookup a with
 |some o =>
  have e:=KX a o hk;rw[ha] at e
  cases e
  refine core (λb=>@ite _ (∃c,(c,b)∈tabs) (Kh b) (some (.tbl #[])) none) ⟨λb=>?_,λq hq=>?_⟩ (.inr ⟨_,vs.toArray,_,hk,rfl,rfl,rfl,by rw[Yj,NZ];exact hl,by simpa using rv⟩) (λb u z=>?_) (λb z=>?_) λz=>?_
  ·by_cases hb:∃c,(c,b)∈tabs
   ·exact .inr (.inr ⟨Yh hb,hb⟩)
   ·exact .inl (Yd hb)
  ·exact Yh ⟨q.1,hq⟩
  ·by_cases hb:∃c,(c,b)∈tabs
   ·have z':=(Yh hb).symm.trans z
    cases z'
    exact uk b hb
   ·have z':=(Yd hb).symm.trans z
    cases z'
  ·by_cases hb:∃c,(c,b)∈tabs
   ·exact .inr hb
   ·exact absurd (Yd hb) z
  ·exact absurd (Yd λ⟨c,hc⟩=>aT c hc) z
 |none =>
  refine core (λb=>if b=a then some (.frz {cls:=.type "list",data:=.seq vs.toArray} (.lst (ns.map V.int))) else @ite _ (∃c,(c,b)∈tabs) (Kh b) (some (.tbl #[])) none) ⟨λb=>?_,λq hq=>?_⟩ (.inl (.inr ⟨{cls:=.type "list",data:=.seq vs.toArray},Yh rfl⟩)) (λb u z=>?_) (λb z=>?_) λ_=>hk
  ·by_cases hb:b=a
   ·exact .inr (.inl ⟨_,_,Yh hb⟩)
   ·by_cases ht:∃c,(c,b)∈tabs
    ·exact .inr (.inr ⟨(Yd hb).trans (Yh ht),ht⟩)
    ·exact .inl ((Yd hb).trans (Yd ht))
  ·have hb:q.2≠a:=λz=>aT q.1 (by rw[<-z];exact hq);exact(Yd hb).trans (Yh ⟨q.1,hq⟩)
  ·by_cases hb:b=a
   ·have z':=(Yh hb).symm.trans z
    cases z'
    subst hb;exact⟨ha,by rw[Yg];exact hl,vs,_,rv,ha⟩
   ·have z':=(Yd hb).symm.trans z
    by_cases ht:∃c,(c,b)∈tabs
    ·have z2:=(Yh ht).symm.trans z'
     cases z2
     exact uk b ht
    ·have z2:=(Yd ht).symm.trans z'
     cases z2
  ·by_cases hb:b=a
   ·exact .inl hb
   ·by_cases ht:∃c,(c,b)∈tabs
    ·exact .inr ht
    ·exact absurd ((Yd hb).trans (Yd ht)) z
structure rn (K:Frag)(x qual:Str)(st:Stmt)(f:Addr)(fd:BG)(T:Addr):Prop where
 ex:∃(oc:Value)(od:vi)(kV doc pm:Value)(an:vi)(Fv ct:Value)(FX:Fm),
  fd=fnOf x qual (cL st) (cj st) (ar st) (.ref T) kV doc pm an Fv ct/\K.lookup f=some ⟨oc,od,.func fd,FX⟩/\codeIn K Fv qual=true
 kp:keepIn K (.ref f)=true
section
variable {P:yo}{w:World}{K:Frag}{mg:u9}{base:Heap}
theorem rn.okE {T:Addr}(F:rn K x qual st f fd T)(S:CP N ps (ar st))(len:∀vs H Q E,sp vs H Q E->vs.length=ps.length)
 (F3:∀(Fv:Value)(A:Around)(outer:List Env)(s:Bi)(H:Hp)(vs:List V)(Q:VK)(E:XK),wa k (A.deeper (envOfC qual (ar st) s.heap.objs.size f Fv))->sp vs H Q E →
  ∃t,oO (gF (cD P w) P w K mg base N qual (ar st) f Fv A outer s H E) (cj st) t/\t {nx:=λ_ H'=>Q .non H',rt:=Q} (gH N vs) H):ya P w K mg base (cD P w) (k+1) f fd ps sp:=by
 obtain⟨oc,od,kV,doc,pm,an,Fv,ct,FX,rfl,lk,Gg⟩:=F.ex;exact xu lk Gg S len λA outer s H vs Q E hr GY=>F3 Fv A outer s H vs Q E hr GY
theorem adz {T:Addr}{oc:Value}{od an:vi}{FX:Fm}{kV doc pm Fv ct:Value}(l:K.lookup f=some ⟨oc,od,.func (fnOf x qual (cL st) (cj st) (ar st) (.ref T) kV doc pm an Fv ct),FX⟩)
 (c:codeIn K Fv qual=true)(k:keepIn K (.ref f)=true):rn K x qual st f (fnOf x qual (cL st) (cj st) (ar st) (.ref T) kV doc pm an Fv ct) T:=⟨⟨oc,od,kV,doc,pm,an,Fv,ct,FX,rfl,l,c⟩,k⟩
end
noncomputable def fZ:Expr->Bool
 | .Starred _ _=>true
 |_=>false
theorem bz {e:Expr}{rest:wI}(h:fZ e=false):starEach (e::rest) env=(false,eval e env):: starEach rest env:=by
 cases e <;> first|rfl|cases h
section
variable {X:Cx}{e:Expr}{es:wI}{te:TE}{t:TA}
theorem aj (ha:PE X e te)(hr:PA X es t)(h:fZ e=false:=by rfl):PA X (e::es) (bq te t):=cq ha hr (bz h)
end
inductive D where
 |non|bl (b:Bool)|int (i:Int)|str (x:Str)|lst (ds:List D)|tup (ds:List D)
mutual
noncomputable def aM (K:Frag)(H:Hp):D->V->Prop
 | .non,v=>v=.non
 | .bl b,v=>v=.bl b
 | .int i,v=>v=.int i
 | .str x,v=>v=.str x
 | .lst ds,v=>∃a xs,v=.ref a/\bo K H a xs/\bg K H ds xs
 | .tup ds,v=>∃a xs,v=.ref a/\aU K H a xs/\bg K H ds xs
noncomputable def bg (K:Frag)(H:Hp):List D->List V->Prop
 |[],xs=>xs=[]
 |d::ds,xs=>∃y ys,xs=y::ys/\aM K H d y/\bg K H ds ys
end
mutual
noncomputable def gZ:D->D->Bool
 | .non,.non=>true
 | .bl a,.bl b=>a==b
 | .bl a,.int b=>(if a then 1 else 0)==b
 | .int a,.bl b=>a==(if b then 1 else 0)
 | .int a,.int b=>a==b
 | .str a,.str b=>a==b
 | .lst a,.lst b=>eG a b
 | .tup a,.tup b=>eG a b
 |_,_=>false
noncomputable def eG:List D->List D->Bool
 |[],[]=>true
 |a::as,b::bs=>gZ a b&&eG as bs
 |_,_=>false
end
mutual
noncomputable def iR:D->Nat
 | .lst ds=>eP ds+1
 | .tup ds=>eP ds+1
 |_=>0
noncomputable def eP:List D->Nat
 |[]=>0
 |d::ds=>max (iR d) (eP ds)
end
theorem uu:∀{ds:List D}{d:D},d∈ds->iR d<=eP ds
 |e::ds,d,h=>by
  unfold eP
  rcases Yn.mp h with rfl|h
  ·exact Nat.le_max_left _ _
  ·exact Yq (uu h) (Nat.le_max_right _ _)
theorem gS:∀(as bs:List D),eG as bs=((List.range (min as.length bs.length)).all (λj=>gZ (as.getD j .non) (bs.getD j .non))&&as.length==bs.length)
 |[],[]=>rfl
 |[],b::bs=>by simp;rfl
 |a::as,[]=>by simp;rfl
 |a::as,b::bs=>by
  show(gZ a b&&eG as bs)=_;rw[gS as bs]
  have e:min (a::as).length (b::bs).length=min as.length bs.length+1:=by simp[Nat.succ_min_succ]
  rw[e,List.range_succ_eq_map,Z3,Z9]
  have h1:((a::as).length==(b::bs).length)=(as.length==bs.length):=by simp
  rw[h1,Bool.and_assoc];rfl
theorem bg.len :∀{ds:List D}{xs:List V},bg K H ds xs->ds.length=xs.length
 |[],xs,h=>by
  have h:xs=[]:=by unfold bg at h;exact h
  rw[h];rfl
 |d::ds,xs,h=>by
  unfold bg at h;obtain⟨y,ys,rfl,_,h⟩:=h;simp[bg.len h]
theorem bg.get :∀{ds:List D}{xs:List V}{j:Nat}(hj:j<xs.length),bg K H ds xs->aM K H (ds.getD j .non) xs[j]/\ds.getD j .non∈ds
 |[],xs,j,hj,h=>by
  have h:xs=[]:=by unfold bg at h;exact h
  subst h;exact absurd hj (by simp)
 |d::ds,xs,j,hj,h=>by
  unfold bg at h;obtain⟨y,ys,rfl,hd,h⟩:=h
  cases j with
  |zero=>exact⟨hd,Yl⟩
  |succ j =>
   obtain⟨h1,h2⟩:=bg.get (j:=j) (by simpa using hj) h;exact⟨h1,Yi _ h2⟩
mutual
theorem e8:∀d:D,gZ d d=true
 | .non=>rfl
 | .bl b=>yj b
 | .int i=>yj i
 | .str x=>yj x
 | .lst ds=>iV ds
 | .tup ds=>iV ds
theorem iV:∀ds:List D,eG ds ds=true
 |[]=>rfl
 |d::ds=>by show(gZ d d&&eG ds ds)=true;rw[e8 d,iV ds];rfl
end
section
variable {X:Cx}{pins:List (Addr×Obj)}{σ:St}{H:Hp}{s:Bi}
theorem fU (I:Inv X pins σ H s){xs ys:List V}(h1:bo X.K H a xs)(h2:aU X.K H a ys):False:=by
 obtain⟨its,_,p1,_⟩:=I.list h1;obtain⟨Fx,_,p2,_⟩:=I.tuple h2;exact SeqAt.ne_of_list_tuple p1.isList (show s.heap.IsTuple a Fx.toArray from p2) rfl
mutual
theorem ke (I:Inv X pins σ H s):∀(d e:D)(v:V),aM X.K H d v->aM X.K H e v->gZ d e=true
 | .non,e,v,h1,h2=>by
   unfold aM at h1;subst h1
   cases e <;> unfold aM at h2 <;> first|(obtain⟨_,_,z,_⟩:=h2;cases z;done)|rfl|(cases h2;done)
 | .bl b,e,v,h1,h2=>by
   unfold aM at h1;subst h1
   cases e <;> unfold aM at h2 <;> first|(obtain⟨_,_,z,_⟩:=h2;cases z;done)|(cases h2;exact e8 _)|(cases h2;done)
 | .int b,e,v,h1,h2=>by
   unfold aM at h1;subst h1
   cases e <;> unfold aM at h2 <;> first|(obtain⟨_,_,z,_⟩:=h2;cases z;done)|(cases h2;exact e8 _)|(cases h2;done)
 | .str b,e,v,h1,h2=>by
   unfold aM at h1;subst h1
   cases e <;> unfold aM at h2 <;> first|(obtain⟨_,_,z,_⟩:=h2;cases z;done)|(cases h2;exact e8 _)|(cases h2;done)
 | .lst ds,e,v,h1,h2=>by
   unfold aM at h1;obtain⟨a,xs,rfl,q,r⟩:=h1
   cases e with
   |lst es =>
    unfold aM at h2;obtain⟨b,ys,z,q2,r2⟩:=h2
    cases z
    have e:=I.ac4 q q2;subst e;exact iK I ds es xs r r2
   |tup es =>
    unfold aM at h2;obtain⟨b,ys,z,q2,r2⟩:=h2
    cases z
    exact(fU I q q2).elim
   |_=>unfold aM at h2;cases h2
 | .tup ds,e,v,h1,h2=>by
   unfold aM at h1;obtain⟨a,xs,rfl,q,r⟩:=h1
   cases e with
   |tup es =>
    unfold aM at h2;obtain⟨b,ys,z,q2,r2⟩:=h2
    cases z
    have e:=I.acN q q2;subst e;exact iK I ds es xs r r2
   |lst es =>
    unfold aM at h2;obtain⟨b,ys,z,q2,r2⟩:=h2
    cases z
    exact(fU I q2 q).elim
   |_=>unfold aM at h2;cases h2
theorem iK (I:Inv X pins σ H s):∀(ds es:List D)(xs:List V),bg X.K H ds xs->bg X.K H es xs->eG ds es=true
 |[],es,xs,h1,h2=>by
  unfold bg at h1;subst h1
  cases es with
  |nil=>rfl
  |cons e es=>unfold bg at h2;obtain⟨_,_,z,_⟩:=h2;cases z
 |d::ds,es,xs,h1,h2=>by
  unfold bg at h1;obtain⟨y,ys,rfl,hd,h1⟩:=h1
  cases es with
  |nil=>unfold bg at h2;cases h2
  |cons e es =>
   unfold bg at h2;obtain⟨_,_,z,he,h2⟩:=h2
   cases z
   show(gZ d e&&eG ds es)=true;rw[ke I d e y hd he,iK I ds es ys h1 h2];rfl
end
theorem j3 (I:Inv X pins σ H s)(n:Nat)(ih:n≠0->∀(A:Around)(d e:D)(x y:V)(u v:Value),iR d<=n-1->A.units+(n-1)<cLine->aM X.K H d x->aM X.K H e y->aG x u->aG y v->SeqAt.EqAt A s u v (gZ d e))
 (Ts:n≠0)(A:Around)(hu:A.units+n<cLine){ds es:List D}{xs ys:List V}{its Fx:nN}(r1:bg X.K H ds xs)(r2:bg X.K H es ys)(rv:aR xs its)(Gj:aR ys Fx)(hn:eP ds<=n-1):
 ∀j (h1:j<its.toArray.size)(h2:j<Fx.toArray.size),SeqAt.EqAt A.in1 s its.toArray[j] Fx.toArray[j] (gZ (ds.getD j .non) (es.getD j .non)):=by
 intro j h1 h2
 have e1:j<xs.length:=by rw[rv.length];simpa using h1
 have e2:j<ys.length:=by rw[Gj.length];simpa using h2
 obtain⟨d1,m1⟩:=r1.get e1;obtain⟨d2,m2⟩:=r2.get e2;obtain⟨u,Tt,ru⟩:=rv.get (YZ e1);obtain⟨v,Tu,Tv⟩:=Gj.get (YZ e2)
 have z1:its.toArray[j]=u:=by
  have:=YO.mp Tt;obtain⟨_,q⟩:=this;simpa using q
 have z2:Fx.toArray[j]=v:=by
  have:=YO.mp Tu;obtain⟨_,q⟩:=this;simpa using q
 rw[z1,z2];exact ih Ts A.in1 _ _ _ _ _ _ (Yq (uu m1) hn) (by show A.units+1+(n-1)<cLine;omega) d1 d2 ru Tv
theorem lQ (I:Inv X pins σ H s)(n:Nat)(ih:n≠0->∀(A:Around)(d e:D)(x y:V)(u v:Value),iR d<=n-1->A.units+(n-1)<cLine->aM X.K H d x->aM X.K H e y->aG x u->aG y v->SeqAt.EqAt A s u v (gZ d e))
 (A:Around)(d e:D)(x y:V)(u v:Value)(hn:iR d<=n)(hu:A.units+n<cLine)(h1:aM X.K H d x)(h2:aM X.K H e y)(rx:aG x u)(ry:aG y v):
 SeqAt.RcAt A s u v (gZ d e)/\SeqAt.EqAt A s u v (gZ d e)/\SeqAt.RcNeAt A s u v (!gZ d e):=by
 have FE:A.units<cLine:=by omega
 cases d with
 |non =>
  unfold aM at h1;subst h1
  cases rx
  cases e with
  |non =>
   unfold aM at h2;subst h2
   cases ry
   exact⟨.none_none,.same _,.none_none⟩
  |bl q =>
   unfold aM at h2;subst h2
   cases ry
   exact⟨.none_bool q,.none_bool q,.none_bool q⟩
  |int q =>
   unfold aM at h2;subst h2;obtain⟨tq,rfl⟩:=ry;exact⟨.none_int q tq,.none_int q tq,.none_int q tq⟩
  |str q =>
   unfold aM at h2;subst h2;obtain⟨tq,rfl⟩:=ry;exact⟨.none_str q tq,.none_str q tq,.none_str q tq⟩
  |lst es =>
   unfold aM at h2;obtain⟨b,ys,rfl,q2,r2⟩:=h2
   cases ry
   obtain⟨Fx,Gj,p2,_⟩:=I.list q2;exact⟨.none_list  p2.isList FE,.none_list  p2.isList FE,.none_list  p2.isList FE⟩
  |tup es =>
   unfold aM at h2;obtain⟨b,ys,rfl,q2,r2⟩:=h2
   cases ry
   obtain⟨Fx,Gj,p2,_⟩:=I.tuple q2;have p2:s.heap.IsTuple b Fx.toArray:=p2;exact⟨.none_tuple  p2 FE,.none_tuple  p2 FE,.none_tuple  p2 FE⟩
 |bl p =>
  unfold aM at h1;subst h1
  cases rx
  cases e with
  |non =>
   unfold aM at h2;subst h2
   cases ry
   exact⟨.bool_none p,.bool_none p,.bool_none p⟩
  |bl q =>
   unfold aM at h2;subst h2
   cases ry
   exact⟨.bool_bool p q,.bool_bool p q,.bool_bool p q⟩
  |int q =>
   unfold aM at h2;subst h2;obtain⟨tq,rfl⟩:=ry;exact⟨.bool_int p q tq,.bool_int p q tq,.bool_int p q tq⟩
  |str q =>
   unfold aM at h2;subst h2;obtain⟨tq,rfl⟩:=ry;exact⟨.bool_str p q tq,.bool_str p q tq,.bool_str p q tq⟩
  |lst es =>
   unfold aM at h2;obtain⟨b,ys,rfl,q2,r2⟩:=h2
   cases ry
   obtain⟨Fx,Gj,p2,_⟩:=I.list q2;exact⟨.bool_list p p2.isList FE,.bool_list p p2.isList FE,.bool_list p p2.isList FE⟩
  |tup es =>
   unfold aM at h2;obtain⟨b,ys,rfl,q2,r2⟩:=h2
   cases ry
   obtain⟨Fx,Gj,p2,_⟩:=I.tuple q2;have p2:s.heap.IsTuple b Fx.toArray:=p2;exact⟨.bool_tuple p p2 FE,.bool_tuple p p2 FE,.bool_tuple p p2 FE⟩
 |int p =>
  unfold aM at h1;subst h1;obtain⟨tp,rfl⟩:=rx
  cases e with
  |non =>
   unfold aM at h2;subst h2
   cases ry
   exact⟨.int_none p tp,.int_none p tp,.int_none p tp⟩
  |bl q =>
   unfold aM at h2;subst h2
   cases ry
   exact⟨.int_bool p tp q,.int_bool p tp q,.int_bool p tp q⟩
  |int q =>
   unfold aM at h2;subst h2;obtain⟨tq,rfl⟩:=ry;exact⟨.int_int p tp q tq,.int_int p tp q tq,.int_int p tp q tq⟩
  |str q =>
   unfold aM at h2;subst h2;obtain⟨tq,rfl⟩:=ry;exact⟨.int_str p tp q tq,.int_str p tp q tq,.int_str p tp q tq⟩
  |lst es =>
   unfold aM at h2;obtain⟨b,ys,rfl,q2,r2⟩:=h2
   cases ry
   obtain⟨Fx,Gj,p2,_⟩:=I.list q2;exact⟨.int_list p tp p2.isList FE,.int_list p tp p2.isList FE,.int_list p tp p2.isList FE⟩
  |tup es =>
   unfold aM at h2;obtain⟨b,ys,rfl,q2,r2⟩:=h2
   cases ry
   obtain⟨Fx,Gj,p2,_⟩:=I.tuple q2;have p2:s.heap.IsTuple b Fx.toArray:=p2;exact⟨.int_tuple p tp p2 FE,.int_tuple p tp p2 FE,.int_tuple p tp p2 FE⟩
 |str p =>
  unfold aM at h1;subst h1;obtain⟨tp,rfl⟩:=rx
  cases e with
  |non =>
   unfold aM at h2;subst h2
   cases ry
   exact⟨.str_none p tp,.str_none p tp,.str_none p tp⟩
  |bl q =>
   unfold aM at h2;subst h2
   cases ry
   exact⟨.str_bool p tp q,.str_bool p tp q,.str_bool p tp q⟩
  |int q =>
   unfold aM at h2;subst h2;obtain⟨tq,rfl⟩:=ry;exact⟨.str_int p tp q tq,.str_int p tp q tq,.str_int p tp q tq⟩
  |str q =>
   unfold aM at h2;subst h2;obtain⟨tq,rfl⟩:=ry;exact⟨.str_str p tp q tq,.str_str p tp q tq,.str_str p tp q tq⟩
  |lst es =>
   unfold aM at h2;obtain⟨b,ys,rfl,q2,r2⟩:=h2
   cases ry
   obtain⟨Fx,Gj,p2,_⟩:=I.list q2;exact⟨.str_list p tp p2.isList FE,.str_list p tp p2.isList FE,.str_list p tp p2.isList FE⟩
  |tup es =>
   unfold aM at h2;obtain⟨b,ys,rfl,q2,r2⟩:=h2
   cases ry
   obtain⟨Fx,Gj,p2,_⟩:=I.tuple q2;have p2:s.heap.IsTuple b Fx.toArray:=p2;exact⟨.str_tuple p tp p2 FE,.str_tuple p tp p2 FE,.str_tuple p tp p2 FE⟩
 |lst ds =>
  unfold aM at h1;obtain⟨a,xs,rfl,q1,r1⟩:=id h1
  cases rx
  obtain⟨its,rv,p1,_⟩:=I.list q1;have p1:s.heap.IsList a its.toArray:=p1.isList
  cases e with
  |non =>
   unfold aM at h2;subst h2
   cases ry
   exact⟨.list_none  p1 FE,.list_none  p1 FE,.list_none  p1 FE⟩
  |bl q =>
   unfold aM at h2;subst h2
   cases ry
   exact⟨.list_bool q p1 FE,.list_bool q p1 FE,.list_bool q p1 FE⟩
  |int q =>
   unfold aM at h2;subst h2;obtain⟨tq,rfl⟩:=ry;exact⟨.list_int q tq p1 FE,.list_int q tq p1 FE,.list_int q tq p1 FE⟩
  |str q =>
   unfold aM at h2;subst h2;obtain⟨tq,rfl⟩:=ry;exact⟨.list_str q tq p1 FE,.list_str q tq p1 FE,.list_str q tq p1 FE⟩
  |lst es =>
   unfold aM at h2;obtain⟨b,ys,rfl,q2,r2⟩:=id h2
   cases ry
   obtain⟨Fx,Gj,p2,_⟩:=I.list q2;have p2:s.heap.IsList b Fx.toArray:=p2.isList;have el:=j3 I n ih (by unfold iR at hn;omega) A hu r1 r2 rv Gj (by unfold iR at hn;omega)
   have l1:its.toArray.size=ds.length:=by rw[Yj,<-rv.length,r1.len]
   have l2:Fx.toArray.size=es.length:=by rw[Yj,<-Gj.length,r2.len]
   have dr:=gS ds es
   have key:SeqAt.RcAt A s (.ref a) (.ref b) (eG ds es)/\SeqAt.RcNeAt A s (.ref a) (.ref b) (!eG ds es):=by
    by_cases hl:ds.length=es.length
    ·have hs:its.toArray.size=Fx.toArray.size:=by rw[l1,l2,hl]
     have z:(List.range its.toArray.size).all (λj=>gZ (ds.getD j .non) (es.getD j .non))=eG ds es:=by rw[dr,l1,hl];simp
     have c1:=SeqAt.RcAt.lists p1 p2 hs FE el;have c2:=SeqAt.RcNeAt.lists p1 p2 hs FE el;rw[z] at c1 c2;exact⟨c1,c2⟩
    ·have z:eG ds es=false:=by rw[dr];simp[hl]
     have hs:(its.toArray.size != Fx.toArray.size)=true:=by rw[l1,l2];simpa using hl
     rw[z];exact⟨SeqAt.RcAt.lists_lengths p1 p2 hs FE,SeqAt.RcNeAt.lists_lengths p1 p2 hs FE⟩
   have I9:gZ (.lst ds) (.lst es)=eG ds es:=rfl
   by_cases Ii:a=b
   ·subst Ii;have z:=ke I (.lst ds) (.lst es) (.ref a) (by unfold aM;exact⟨a,xs,rfl,q1,r1⟩) (by unfold aM;exact⟨a,ys,rfl,q2,r2⟩);refine⟨by rw[I9];exact key.1,by rw[z];exact .same _,by rw[I9];exact key.2⟩
   ·rw[I9];exact⟨key.1,.of_refs Ii key.1,key.2⟩
  |tup es =>
   unfold aM at h2;obtain⟨b,ys,rfl,q2,r2⟩:=id h2
   cases ry
   obtain⟨Fx,Gj,p2,_⟩:=I.tuple q2;have p2:s.heap.IsTuple b Fx.toArray:=p2;exact⟨.list_tuple p1 p2 FE,.list_tuple p1 p2 FE,.list_tuple p1 p2 FE⟩
 |tup ds =>
  unfold aM at h1;obtain⟨a,xs,rfl,q1,r1⟩:=id h1
  cases rx
  obtain⟨its,rv,p1,_⟩:=I.tuple q1;have p1:s.heap.IsTuple a its.toArray:=p1
  cases e with
  |non =>
   unfold aM at h2;subst h2
   cases ry
   exact⟨.tuple_none  p1 FE,.tuple_none  p1 FE,.tuple_none  p1 FE⟩
  |bl q =>
   unfold aM at h2;subst h2
   cases ry
   exact⟨.tuple_bool q p1 FE,.tuple_bool q p1 FE,.tuple_bool q p1 FE⟩
  |int q =>
   unfold aM at h2;subst h2;obtain⟨tq,rfl⟩:=ry;exact⟨.tuple_int q tq p1 FE,.tuple_int q tq p1 FE,.tuple_int q tq p1 FE⟩
  |str q =>
   unfold aM at h2;subst h2;obtain⟨tq,rfl⟩:=ry;exact⟨.tuple_str q tq p1 FE,.tuple_str q tq p1 FE,.tuple_str q tq p1 FE⟩
  |lst es =>
   unfold aM at h2;obtain⟨b,ys,rfl,q2,r2⟩:=id h2
   cases ry
   obtain⟨Fx,Gj,p2,_⟩:=I.list q2;have p2:s.heap.IsList b Fx.toArray:=p2.isList;exact⟨.tuple_list p1 p2 FE,.tuple_list p1 p2 FE,.tuple_list p1 p2 FE⟩
  |tup es =>
   unfold aM at h2;obtain⟨b,ys,rfl,q2,r2⟩:=id h2
   cases ry
   obtain⟨Fx,Gj,p2,_⟩:=I.tuple q2;have p2:s.heap.IsTuple b Fx.toArray:=p2;have el:=j3 I n ih (by unfold iR at hn;omega) A hu r1 r2 rv Gj (by unfold iR at hn;omega)
   have l1:its.toArray.size=ds.length:=by rw[Yj,<-rv.length,r1.len]
   have l2:Fx.toArray.size=es.length:=by rw[Yj,<-Gj.length,r2.len]
   have dr:=gS ds es
   have key:SeqAt.RcAt A s (.ref a) (.ref b) (eG ds es)/\SeqAt.RcNeAt A s (.ref a) (.ref b) (!eG ds es):=by
    have z:((List.range (min its.toArray.size Fx.toArray.size)).all (λj=>gZ (ds.getD j .non) (es.getD j .non))&&its.toArray.size==Fx.toArray.size)=eG ds es:=by rw[dr,l1,l2]
    have c1:=SeqAt.RcAt.tuples p1 p2 FE el;have c2:=SeqAt.RcNeAt.tuples p1 p2 FE el;rw[z] at c1 c2;exact⟨c1,c2⟩
   have I9:gZ (.tup ds) (.tup es)=eG ds es:=rfl
   by_cases Ii:a=b
   ·subst Ii;have z:=ke I (.tup ds) (.tup es) (.ref a) (by unfold aM;exact⟨a,xs,rfl,q1,r1⟩) (by unfold aM;exact⟨a,ys,rfl,q2,r2⟩);refine⟨by rw[I9];exact key.1,by rw[z];exact .same _,by rw[I9];exact key.2⟩
   ·rw[I9];exact⟨key.1,.of_refs Ii key.1,key.2⟩
theorem iI (I:Inv X pins σ H s):∀(n:Nat)(A:Around)(d e:D)(x y:V)(u v:Value),iR d<=n->A.units+n<cLine->aM X.K H d x->aM X.K H e y->aG x u->aG y v →
 SeqAt.RcAt A s u v (gZ d e)/\SeqAt.EqAt A s u v (gZ d e)/\SeqAt.RcNeAt A s u v (!gZ d e):=by
 intro n
 induction n with
 |zero=>exact λA d e x y u v hn hu h1 h2 rx ry=>lQ I 0 (λz=>absurd z (by simp)) A d e x y u v hn hu h1 h2 rx ry
 |succ n ih=>exact λA d e x y u v hn hu h1 h2 rx ry=>lQ I (n+1) (λ_ A d e x y u v hn hu h1 h2 rx ry=>(ih A d e x y u v hn hu h1 h2 rx ry).2.1) A d e x y u v hn hu h1 h2 rx ry
end
section
variable {X:Cx}
noncomputable def yP (K:Frag)(neg:Bool):R2:=λx y H Q=>∃d e,aM K H d x/\aM K H e y/\iR d<=32/\Q (.bl (gZ d e != neg)) H
theorem adC (hr:wa k X.A):eA X (compareOp .Eq) (yP X.K false):=by
 intro pins s σ H x y v u Q I rx ry h;obtain⟨d,e,h1,h2,hd,q⟩:=h;have z:=(iI I 32 X.A d e x y v u hd (by have:=hr.units;omega) h1 h2 rx ry).1;exact z X.prog X.w X.xe _ ⟨.bl (gZ d e),H,I,rfl,by simpa using q⟩
theorem mE (hr:wa k X.A):eA X (compareOp .NotEq) (yP X.K true):=by
 intro pins s σ H x y v u Q I rx ry h;obtain⟨d,e,h1,h2,hd,q⟩:=h;have z:=(iI I 32 X.A d e x y v u hd (by have:=hr.units;omega) h1 h2 rx ry).2.2
 exact z X.prog X.w X.xe _ ⟨.bl (!gZ d e),H,I,rfl,by
  have e1:(gZ d e != true) = !gZ d e:=by cases gZ d e <;> rfl
  rw[e1] at q
  exact q⟩
end
end L2
namespace Nm
noncomputable def cV (a b:Int):Int:=(Int.gcd a b:Int)
noncomputable def dv (t b:Int):Int:=if b<0 then -(cV t b) else cV t b
noncomputable def dq (t b:Int):Int:=t.fdiv (dv t b)
noncomputable def cw (t b:Int):Int:=b.fdiv (dv t b)
variable {b:Int}
theorem eW {t:Int}(h:b≠0):0<cV t b:=by
 unfold cV;have:0<Int.gcd t b:=gE _ h;omega
theorem lP {t:Int}(h:b≠0):dv t b≠0:=by
 have:=eW (t:=t) h;unfold dv
 split <;> omega
theorem aej {t:Int}:dv t b ∣ t:=by
 unfold dv cV
 split
 ·exact Int.neg_dvd.mpr (Int.gcd_dvd_left ..)
 ·exact Int.gcd_dvd_left ..
theorem aek {t:Int}:dv t b ∣ b:=by
 unfold dv cV
 split
 ·exact Int.neg_dvd.mpr (Int.gcd_dvd_right ..)
 ·exact Int.gcd_dvd_right ..
theorem oK {a:Int}(h:b ∣ a)(hb:b≠0):a.fdiv b*b=a:=by
 obtain⟨c,rfl⟩:=h;rw[Int.mul_fdiv_cancel_left _ hb,Int.mul_comm]
theorem lV {t:Int}(h:b≠0):dq t b*dv t b=t:=oK aej (lP h)
theorem jd {t:Int}(h:b≠0):cw t b*dv t b=b:=oK aek (lP h)
theorem m8 {t:Int}(h:b≠0):0<cw t b:=by
 have e:=jd (t:=t) h;have g:=eW (t:=t) h
 by_cases hb:b<0
 ·have hd:dv t b = -(cV t b):=by unfold dv;rw[Yh hb]
  rw[hd] at e
  by_cases hl:0<cw t b
  ·exact hl
  ·have:0<=cw t b * -(cV t b):=by
    have:=Int.mul_nonneg_of_nonpos_of_nonpos (a:=cw t b) (b:=-(cV t b)) (by omega) (by omega);exact this
   omega
 ·have hd:dv t b=cV t b:=by unfold dv;rw[Yd hb]
  rw[hd] at e
  by_cases hl:0<cw t b
  ·exact hl
  ·have:cw t b*cV t b<=0:=Int.mul_nonpos_of_nonpos_of_nonneg (by omega) (by omega);omega
theorem lI {t:Int}:(dv t b).natAbs=Int.gcd t b:=by
 unfold dv cV
 split <;> simp
theorem uh {t:Int}(h:b≠0):Int.gcd (dq t b) (cw t b)=1:=by
 have e1:=lV (t:=t) h;have e2:=jd (t:=t) h;have g:0<Int.gcd t b:=gE _ h;have e3:Int.gcd (dq t b*dv t b) (cw t b*dv t b)=Int.gcd (dq t b) (cw t b)*(dv t b).natAbs:=Int.gcd_mul_right ..;rw[e1,e2,lI] at e3
 have:Int.gcd (dq t b) (cw t b)*Int.gcd t b=1*Int.gcd t b:=by omega
 exact Nat.eq_of_mul_eq_mul_right g this
theorem jQ {t t' b':Int}(h:b≠0)(hp:0<b')(hg:Int.gcd t' b'=1)(he:t*b'=t'*b):dq t b=t'/\cw t b=b':=by
 have e1:=lV (t:=t) h;have e2:=jd (t:=t) h;have g:=lP (t:=t) h;have lp:=m8 (t:=t) h;have lg:=uh (t:=t) h
 have e3:dq t b*b'=t'*cw t b:=by
  have z:(dq t b*b')*dv t b=(t'*cw t b)*dv t b:=by
   rw[Int.mul_right_comm,e1,he,jj,e2]
  exact nX g z
 have n3:(dq t b).natAbs*b'.natAbs=t'.natAbs*(cw t b).natAbs:=by
  have:=Ze Int.natAbs e3;rw[Z7,Z7] at this;exact this
 have c1:Nat.Coprime (cw t b).natAbs (dq t b).natAbs:=by
  rw[Nat.coprime_comm];exact lg
 have c2:Nat.Coprime b'.natAbs t'.natAbs:=by
  rw[Nat.coprime_comm];exact hg
 have d1:(cw t b).natAbs ∣ b'.natAbs:=c1.dvd_of_dvd_mul_left ⟨t'.natAbs,by rw[n3,Nat.mul_comm]⟩;have d2:b'.natAbs ∣ (cw t b).natAbs:=c2.dvd_of_dvd_mul_left ⟨(dq t b).natAbs,by rw[<-n3,Nat.mul_comm]⟩;have e4:(cw t b).natAbs=b'.natAbs:=Nat.dvd_antisymm d1 d2
 have e5:cw t b=b':=by omega
 refine⟨?_,e5⟩;rw[e5] at e3;exact nX (by omega) e3
theorem jW {t b:Int}(hp:0<b)(hg:Int.gcd t b=1):dq t b=t/\cw t b=b:=jQ (by omega) hp hg rfl
theorem kc (a b:Int):Int.gcd b (a.fmod b)=Int.gcd a b:=by
 rw[Int.fmod_def,Int.gcd_comm a b]
 first
  |exact Int.gcd_sub_mul_left_right ..
  |simp
theorem tV (a b:Int)(h:b≠0):(a.fmod b).natAbs<b.natAbs:=by
 by_cases hb:0<b
 ·have h1:=yK a hb;have h2:=Bz a hb;omega
 ·have e:a.fmod b = -((-a).fmod (-b)):=by
   have:=Int.fmod_def a b;rw[Int.neg_fmod_neg];omega
  have h1:=yK (-a) (b:=-b) (by omega);have h2:=Bz (-a) (b:=-b) (by omega);omega
noncomputable def sg (b:Int):Int:=if b<0 then -1 else 1
noncomputable def ab (b:Int):Int:=if b<0 then -b else b
theorem kf (b:Int):ab b=(b.natAbs:Int):=by unfold ab;split <;> omega
theorem aab {t:Int}(h:b≠0):(sg b*t).fdiv (cV t b)=dq t b:=by
 have g:=eW (t:=t) h;have e:=lV (t:=t) h
 have z:sg b*t=dq t b*cV t b:=by
  unfold sg dv at *
  split
  ·rename_i hb
   rw[Yh hb] at e
   have:dq t b * -cV t b = -(dq t b*cV t b):=by rw[Int.mul_neg]
   omega
  ·rename_i hb
   rw[Yd hb] at e;omega
 rw[z,Int.mul_fdiv_cancel _ (by omega)]
theorem aaR {t:Int}(h:b≠0):(ab b).fdiv (cV t b)=cw t b:=by
 have g:=eW (t:=t) h;have e:=jd (t:=t) h
 have z:ab b=cw t b*cV t b:=by
  unfold ab dv at *
  split
  ·rename_i hb
   rw[Yh hb] at e
   have:cw t b * -cV t b = -(cw t b*cV t b):=by rw[Int.mul_neg]
   omega
  ·rename_i hb
   rw[Yd hb] at e;omega
 rw[z,Int.mul_fdiv_cancel _ (by omega)]
theorem aaV (a b:Int):Int.gcd (ab a) (ab b)=Int.gcd a b:=by
 rw[kf,kf];simp[Int.gcd]
noncomputable def B (n:Nat)(i:Int):Prop:=i.natAbs<2^n
variable {n:Nat}{i:Int}
theorem B.mono {m:Nat}(h:B n i)(hn:n<=m):B m i:=Ys h (ZG (by decide) hn)
variable {j:Int}
theorem B.mul {m:Nat}(h:B n i)(k:B m j):B (n+m) (i*j):=by
 unfold B at *;rw[Z7,Nat.pow_add];exact Nat.mul_lt_mul'' h k
theorem B.add (h:B n i)(k:B n j):B (n+1) (i+j):=by
 unfold B at *;rw[Nat.pow_succ];have:=Int.natAbs_add_le i j;omega
theorem B.le (h:B n i)(k:j.natAbs<=i.natAbs):B n j:=Yo k h
theorem qD {x d y:Int}(e:x*d=y)(hd:d≠0):x.natAbs<=y.natAbs:=by
 have:x.natAbs*d.natAbs=y.natAbs:=by rw[<-Z7,e]
 have h1:1<=d.natAbs:=by omega
 calc x.natAbs=x.natAbs*1:=(Nat.mul_one _).symm
  _<=x.natAbs*d.natAbs:=DT _ h1
  _=y.natAbs:=this
theorem aaX {t:Int}(h:b≠0):(dq t b).natAbs<=t.natAbs:=qD (lV h) (lP h)
theorem aaY {t:Int}(h:b≠0):(cw t b).natAbs<=b.natAbs:=qD (jd h) (lP h)
theorem AC {t:Int}(h:b≠0):(dv t b).natAbs<=b.natAbs:=by
 have e:=jd (t:=t) h;have lp:=m8 (t:=t) h;exact qD (x:=dv t b) (d:=cw t b) (by rw[Int.mul_comm];exact e) (by omega)
theorem aa0 {t:Int}(h:b≠0):(cV t b).natAbs<=b.natAbs:=by
 have e:=AC (t:=t) h;rw[lI] at e;unfold cV;simpa using e
structure Num (p t b:Int):Prop where
 pos:0<b
 red:Int.gcd t b=1
 pr:p≠0->b=1/\0<=t/\t<p
theorem Num.ofP {p t:Int}(h0:0<=t)(h1:t<p):Num p t 1:=⟨by decide,by simp,λ_=>⟨rfl,h0,h1⟩⟩
theorem Num.low {t:Int}(h:b≠0):Num 0 (dq t b) (cw t b):=⟨m8 h,uh h,λz=>absurd rfl z⟩
noncomputable def cZ (p t b:Int):Int:=if p=0 then dq t b else t%p
noncomputable def da (p t b:Int):Int:=if p=0 then cw t b else 1
theorem Num.set {p t b:Int}(hp:0<=p)(h:b≠0):Num p (cZ p t b) (da p t b):=by
 unfold cZ da
 by_cases z:p=0
 ·subst z;simp only[ZR];exact Num.low h
 ·simp only[z,Zv];exact Num.ofP (Zw _ z) (Zd _ (by omega))
theorem Num.self {p t:Int}(n:Num p t b)(hp:0<=p):cZ p t b=t/\da p t b=b:=by
 unfold cZ da
 by_cases z:p=0
 ·simp only[z,ZR];exact jW n.pos n.red
 ·simp only[z,Zv];obtain⟨h1,h2,h3⟩:=n.pr z;exact⟨x3 h2 h3,h1.symm⟩
theorem aa5 {p t t' b':Int}(h:b≠0)(n:Num p t' b')(hp:0<=p)(e0:p=0->t*b'=t'*b)(e1:p≠0->t%p=t'%p):cZ p t b=t'/\da p t b=b':=by
 unfold cZ da
 by_cases z:p=0
 ·simp only[z,ZR];exact jQ h n.pos n.red (e0 z)
 ·simp only[z,Zv];obtain⟨h1,h2,h3⟩:=n.pr z;exact⟨by rw[e1 z];exact x3 h2 h3,h1.symm⟩
end Nm
namespace L2
open PySem PySem.Spec PyProof.Rows PySem.W
theorem AM {i:Int}(h:Nm.B 9000 i):i.natAbs.log2<9000:=by
 by_cases z:i.natAbs=0
 ·rw[z];decide
 ·exact(Nat.log2_lt z).mpr h
theorem yf {i:Int}(h:Nm.B 9000 i):Builtin.Int.intBits i<=2^20:=by
 have l:=AM h;unfold Builtin.Int.intBits
 split
 ·exact Yt _
 ·have:(9000:Nat)<=2^20:=by decide
  omega
section
variable {X:Cx}
theorem eO:eA X (binaryOp .FloorDiv) (rI (λ_ j=>j≠0/\Nm.B 9000 j) λi j=>.int (i.fdiv j)):=Cf λ_ _ _ _ _ _ _ hc q=>floordiv_int hc.1 q (.inl (PyProof.noPylong_of_log2 (AM hc.2)))
theorem dH:eA X (binaryOp .Mult) (rI (λi j=>Nm.B 9000 i/\Nm.B 9000 j) λi j=>.int (i*j)):=Cf λ_ _ _ _ _ _ _ hc q=>mul_int q (IntMulOk.of_bits (yf hc.1) (yf hc.2))
end
end L2
namespace K44
open PySem L2 PySem.W Nm
noncomputable abbrev DL:Stmt:=(bc 17)
noncomputable abbrev sG:Stmt:=(bc 18)
noncomputable abbrev og:Stmt:=(bc 19)
noncomputable def cx (t b:Int):HO:=.tup [.int t,.int b]
noncomputable def D8:Sp:=λvs H Q _=>∃a b:Int,vs=[.int a,.int b]/\Q (.int (cV a b)) H
noncomputable def yG:Sp:=λvs H Q _=>∃t b:Int,vs=[.int t,.int b]/\b≠0/\B 9000 b/\∀p,H p=none->Q (.ref p) (upd H p (cx (dq t b) (cw t b)))
noncomputable def vB:Sp:=λvs H Q _=>∃m p:Int,vs=[.int m,.int p]/\p∈cO/\m%p≠0/\∀v,0<=v->v<p->(v*m)%p=1->Q (.int v) H
variable {p:Int}
theorem eT (h:p∈cO):2<=p/\p<=97:=by
 have:∀q∈cO,2<=q/\q<=97:=by decide
 exact this p h
theorem aa9 {r:Int}(h:p∈cO)(h0:0<r)(h1:r<p):Int.gcd p r=1:=by
 have key:∀q∈cO,∀k:_root_.Fin 98,0<k.val->((k.val:Nat):Int)<q->Int.gcd q ((k.val:Nat):Int)=1:=by decide +kernel
 have hp:=eT h;have z:=key p h ⟨r.toNat,by omega⟩
 have e:((r.toNat:Nat):Int)=r:=by omega
 simp only[e] at z;exact z (by omega) h1
variable {P:yo}{w:World}{K:PySem.W.Frag}{mg:u9}{base:Heap}
theorem A9:CP ph ph (ar DL):=fe (by decide +kernel)
variable {f:Addr}{fd:BG}
theorem aba (F:ve K "common_divisor" "common_divisor" DL f fd)(mA:mg "abs"=none):ya P w K mg base (cD P w) 1 f fd ph D8:=by
 refine F.okN A9 (λvs H Q E h=>?_) (λFv A outer s H vs Q E hr h=>?_)
 ·obtain⟨a,b,rfl,_⟩:=h;rfl
 ·obtain⟨a,b,rfl,q⟩:=h
  refine⟨_,au (jF Y4 (ow (pv 1) (λ_=>rfl)) (ax (iX (i:=0) (j:=1) rfl A9.nd rfl rfl (by decide) rfl rfl (aj (pv 1) (aj (aK uq (pv 0) (pv 1)) ag)) rfl)))
   (ax (aF (aE iD (by rfl) mA (by rfl) (aj (pv 0) ag)))),?_⟩
  refine⟨λm σ H'=>∃c d:Int,σ=[some (.int c),some (.int d)]/\H'=H/\m=d.natAbs/\Int.gcd c d=Int.gcd a b,⟨_,a,b,rfl,rfl,rfl,rfl⟩,?_⟩;rintro m σ H' ⟨c,d,rfl,rfl,rfl,hg⟩;refine⟨_,rfl,_,rfl,?_⟩;refine cG (λh=>?_) (λh=>?_)
  ·have hd:d≠0:=by simpa using h
   refine⟨λσ' Ij=>∃c' d':Int,σ'=[some (.int c'),some (.int d')]/\Ij=H'/\d'.natAbs<d.natAbs/\Int.gcd c' d'=Int.gcd a b,λσ' Ij ⟨c',d',e1,e2,e3,e4⟩=>⟨_,e3,c',d',e1,e2,rfl,e4⟩,?_⟩;refine⟨_,rfl,_,rfl,_,rfl,_,_,rfl,rfl,hd,_,_,rfl,d,c.fmod d,rfl,rfl,tV c d hd,?_⟩;rw[kc,hg]
  ·have hd:d=0:=by simpa using h
   subst hd;refine⟨_,rfl,c,rfl,?_⟩
   have e:(if c<0 then -c else c)=cV a b:=by
    unfold cV;rw[<-hg];have:=kf c;unfold ab at this;rw[this];simp
   rw[e];exact q
theorem jw:CP ["top","bottom","divisor"] EV (ar sG):=fe (by decide +kernel)
noncomputable abbrev Ca (P:yo)(w:World)(K:PySem.W.Frag)(mg:u9)(base:Heap)(k:Nat)(ps:Ez)(n:Str)(sp:Sp):Prop:=∃f fd,ya P w K mg base (cD P w) k f fd ps sp/\L2.ck K fd ps []/\mg n=some (.ref f)/\keepIn K (.ref f)=true
noncomputable abbrev Cm (P:yo)(w:World)(K:PySem.W.Frag)(mg:u9)(base:Heap)(k:Nat)(ps:Ez)(C:Addr)(n:Str)(sp:Sp):Prop:=∃f fd,ya P w K mg base (cD P w) k f fd ps sp/\L2.ck K fd ps []/\L2.Meth K C n f
theorem abb (F:ve K "lowest" "lowest" sG f fd)(q0:Ca P w K mg base 1 ph "common_divisor" D8):
 ya P w K mg base (cD P w) 2 f fd EV yG:=by
 obtain⟨fg,N0,FG,bG,mG,kG⟩:=q0;refine F.okN jw (λvs H Q E h=>?_) (λFv A outer s H vs Q E hr h=>?_)
 ·obtain⟨a,b,rfl,_⟩:=h;rfl
 ·obtain⟨t,b,rfl,hb,hB,q⟩:=h
  refine⟨_,au (bF (aO fL (pv 1) ak (aV _)) (ax (aF (aJ (aj (pv 0) (aj ak ag))))) aS)
   (au (aX (i:=2) jw.nd rfl (Or.inl rfl) (aH FG hr (by rfl) mG kG bG .nil ao (aj (pv 0) (aj (pv 1) ag))))
   (au (bF (aO ix (pv 1) ak (aV _)) (ax (aX (i:=2) jw.nd rfl (Or.inl rfl) (oE kN (pv 2)))) aS)
   (ax (aF (aJ (aj (aK eO (pv 0) (pv 2)) (aj (aK eO (pv 1) (pv 2)) ag))))))),?_⟩
  refine⟨_,rfl,rfl,_,rfl,?_⟩;refine cG (λh=>?_) (λh=>?_)
  ·have e:b=1:=by simpa using h
   subst e;have z:=jW (t:=t) (b:=1) (by decide) (by simp);refine⟨_,rfl,hJ,λp hp=>?_⟩;have y:=q p hp;rw[z.1,z.2] at y;exact y
  ·refine⟨_,rfl,_,rfl,t,b,rfl,?_⟩;refine⟨_,rfl,_,_,rfl,rfl,_,rfl,?_⟩;have gp:=eW (t:=t) hb
   have fin:∀d:Int,d=dv t b->ng (bq (kx (rI (λ_ j=>j≠0/\Nm.B 9000 j) λi j=>V.int (i.fdiv j)) (cc 0) (cc 2)) (bq (kx (rI (λ_ j=>j≠0/\Nm.B 9000 j) λi j=>V.int (i.fdiv j)) (cc 1) (cc 2)) Co)) [some (.int t),some (.int b),some (.int d)] H Q:=by
    intro d hd
    have M7:d≠0:=by rw[hd];exact lP hb
    have QX:B 9000 d:=by rw[hd];exact hB.le (AC hb)
    refine⟨_,rfl,_,rfl,_,_,rfl,rfl,⟨M7,QX⟩,_,rfl,_,rfl,_,_,rfl,rfl,⟨M7,QX⟩,hJ,λp hp=>?_⟩;have y:=q p hp;unfold dq cw at y;rw[<-hd] at y;exact y
   refine cG (λh2=>?_) (λh2=>?_)
   ·have e:b<0:=by simpa using h2
    exact⟨_,rfl,_,rfl,fin _ (by unfold dv;rw[Yh e])⟩
   ·have e:¬b<0:=by simpa using h2
    exact fin _ (by unfold dv;rw[Yd e])
structure Eu (m p r s l ls:Int):Prop where
 r0:0<r
 rl:r<l
 lp:l<=p
 g:Int.gcd l r=1
 e1:∃k,s*m-r=p*k
 e2:∃k,ls*m-l=p*k
variable {l:Int}
theorem Eu.step {m r s ls:Int}(h:Eu m p r s l ls)(h1:r≠1):Eu m p (l-l.fdiv r*r) (ls-l.fdiv r*s) r s/\(l-l.fdiv r*r).toNat<r.toNat:=by
 obtain⟨r0,rl,lp,g,⟨k1,e1⟩,⟨k2,e2⟩⟩:=h
 have em:l-l.fdiv r*r=l.fmod r:=by rw[Int.fmod_def,Int.mul_comm]
 have a:=yK l r0;have b:=Bz l r0
 have gg:Int.gcd r (l.fmod r)=1:=by rw[kc,g]
 have nz:l.fmod r≠0:=by
  intro z;rw[z] at gg;simp at gg;omega
 rw[em];refine⟨⟨by omega,a,by omega,gg,⟨k2-l.fdiv r*k1,?_⟩,⟨k1,e1⟩⟩,by omega⟩;rw[<-em];generalize l.fdiv r=q
 have:(ls-q*s)*m-(l-q*r)=(ls*m-l)-q*(s*m-r):=by
  rw[Int.sub_mul,Int.mul_sub,jj];omega
 rw[this,e1,e2,Int.mul_sub,Int.mul_left_comm]
theorem Eu.fin {m s ls:Int}(h:Eu m p 1 s l ls)(hp:2<=p):0<=s%p/\s%p<p/\(s%p*m)%p=1:=by
 obtain⟨_,_,_,_,⟨k1,e1⟩,_⟩:=h;refine⟨Zw _ (by omega),Zd _ (by omega),?_⟩
 have e:s*m=p*k1+1:=by omega
 rw[Int.mul_emod,Int.emod_emod,<-Int.mul_emod,e,Int.mul_add_emod_self_left];exact x3 (by omega) (by omega)
noncomputable abbrev abc:List Str:=["number","prime","rest","share","last","last_share","many"]
theorem dQ:CP abc ["number","prime"] (ar og):=fe (by decide +kernel)
theorem abg (F:ve K "inverse" "inverse" og f fd):ya P w K mg base (cD P w) 1 f fd ["number","prime"] vB:=by
 refine F.okN dQ (λvs H Q E h=>?_) (λFv A outer s H vs Q E hr h=>?_)
 ·obtain⟨a,b,rfl,_⟩:=h;rfl
 ·obtain⟨m,p,rfl,hp,hm,q⟩:=h;have JF:=eT hp
  refine⟨_,au (iX (i:=2) (j:=3) rfl dQ.nd rfl rfl (by decide) rfl rfl (aj (aK cM (pv 0) (pv 1)) (aj ak ag)) rfl)
   (au (iX (i:=4) (j:=5) rfl dQ.nd rfl rfl (by decide) rfl rfl (aj (pv 1) (aj ak ag)) rfl)
   (au (jF Y4 (aO fY (pv 2) ak (aV _))
    (au (aX (i:=6) dQ.nd rfl (Or.inl rfl) (aK eO (pv 4) (pv 2)))
    (au (iX (i:=4) (j:=2) rfl dQ.nd rfl rfl (by decide) rfl rfl (aj (pv 2) (aj (aK qC (pv 4) (aK dC (pv 6) (pv 2))) ag)) rfl)
    (ax (iX (i:=5) (j:=3) rfl dQ.nd rfl rfl (by decide) rfl rfl (aj (pv 3) (aj (aK qC (pv 5) (aK dC (pv 6) (pv 3))) ag)) rfl)))))
   (ax (aF (aK cM (pv 3) (pv 1)))))),?_⟩
  refine⟨_,rfl,_,rfl,_,_,rfl,rfl,(by show(0:Int)<p;omega),_,_,rfl,?_⟩;refine⟨_,rfl,_,_,rfl,?_⟩;have r0:0<=m%p:=Zw _ (by omega);have r1:m%p<p:=Zd _ (by omega)
  have E0:Eu m p (m%p) 1 p 0:=by
   refine⟨by omega,r1,ZY _,aa9 hp (by omega) r1,⟨m/p,?_⟩,⟨-1,by omega⟩⟩;have:=Int.emod_add_mul_ediv m p;omega
  refine⟨λn σ H'=>∃(r s l ls:Int)(o:Option V),σ=[some (.int m),some (.int p),some (.int r),some (.int s),some (.int l),some (.int ls),o]/\H'=H/\n=r.toNat/\Eu m p r s l ls,⟨_,_,_,_,_,_,rfl,rfl,rfl,E0⟩,?_⟩;rintro n σ H' ⟨r,s,l,ls,o,rfl,rfl,rfl,E⟩;refine⟨_,rfl,rfl,_,rfl,?_⟩;refine cG (λh=>?_) (λh=>?_)
  ·have FN:r≠1:=by simpa using h
   obtain⟨E',lt⟩:=E.step FN;have e0:=E.r0;have e1:=E.rl;have e2:=E.lp;have q0:0<=l.fdiv r:=Int.fdiv_nonneg (by omega) (by omega)
   have q1:l.fdiv r<=l:=by
    rw[Int.fdiv_eq_ediv_of_nonneg _ (by omega)];exact Int.ediv_le_self _ (by omega)
   refine⟨λσ' Ij=>∃(r' s' l' M8:Int)(o:Option V),σ'=[some (.int m),some (.int p),some (.int r'),some (.int s'),some (.int l'),some (.int M8),o]/\Ij=H'/\r'.toNat<r.toNat/\Eu m p r' s' l' M8,λσ' Ij ⟨r',s',l',M8,o',z1,z2,z3,z4⟩=>⟨_,z3,r',s',l',M8,o',z1,z2,rfl,z4⟩,?_⟩;refine⟨_,rfl,_,rfl,_,_,rfl,rfl,⟨by omega,?_⟩,?_⟩
   ·have:r.natAbs<2^7:=by omega
    exact(show B 7 r from this).mono (by decide)
   ·refine⟨_,rfl,_,rfl,_,rfl,_,rfl,_,_,rfl,rfl,.inl ⟨by omega,by omega⟩,_,_,rfl,rfl,_,_,rfl,?_⟩;refine⟨_,rfl,_,rfl,_,rfl,_,rfl,_,_,rfl,rfl,.inl ⟨by omega,by omega⟩,_,_,rfl,rfl,_,_,rfl,?_⟩;exact⟨_,_,_,_,_,rfl,rfl,lt,E'⟩
  ·have FN:r=1:=by simpa using h
   subst FN;obtain⟨f0,f1,f2⟩:=E.fin JF.1;exact⟨_,rfl,_,rfl,_,_,rfl,rfl,(by show(0:Int)<p;omega),q _ f0 f1 f2⟩
noncomputable abbrev wX:Stmt:=(bc 10)
noncomputable abbrev yg:Stmt:=bh (bc 20) 0
inductive Th (H:Hp):V->String->Prop where
 |non:Th H .non "NoneType"
 |bl (b:Bool):Th H (.bl b) "bool"
 |int (i:Int):Th H (.int i) "int"
 |str (x:Str):Th H (.str x) "str"
 |lst {a:Addr}{xs:List V}(e:H a=some (.lst xs)):Th H (.ref a) "list"
 |tup {a:Addr}{xs:List V}(e:H a=some (.tup xs)):Th H (.ref a) "tuple"
 |dK {a:Addr}{Ft:List (Key×V)}(e:H a=some (.dK Ft)):Th H (.ref a) "dict"
variable {K:Frag}{H:Hp}{x:V}
theorem Th.ty {T:String}(h:Th H x T):uS K H x (.type T):=by
 cases h with
 |non=>exact .of .non
 |bl b=>exact .of (.bl b)
 |int i=>exact .of (.int i)
 |str x=>exact .of (.str x)
 |lst e=>exact .of (.lst e)
 |tup e=>exact .of (.tup e)
 |dK e=>exact .of (.dK e)
noncomputable def cg:V->Bool
 | .int _=>true
 |_=>false
noncomputable def DJ:V->Bool
 | .int _=>true
 | .bl _=>true
 |_=>false
theorem Th.isInt {T:String}(h:Th H x T):kitOne K (.type T) (.type "int")=some (DJ x):=by cases h <;> rfl
theorem Th.isBool {T:String}(h:Th H x T)(hi:DJ x=true):kitOne K (.type T) (.type "bool")=some (!cg x):=by
 cases h with
 |int i=>rfl
 |bl b=>rfl
 |_=>cases hi
noncomputable def vv:Sp:=λvs H Q _=>∃x T,vs=[x]/\Th H x T/\Q (.bl (cg x)) H
structure Ap (mg:u9):Prop where
 isi:mg "isinstance"=none
 int:mg "int"=none
 bool:mg "bool"=none
theorem abh:CP n6 n6 (ar wX):=fe (by decide +kernel)
theorem abi (F:ve K "is_whole" "is_whole" wX f fd)(n:Ap mg):ya P w K mg base (cD P w) 1 f fd n6 vv:=by
 refine F.okN abh (λvs H Q E h=>?_) (λFv A outer s H vs Q E hr h=>?_)
 ·obtain⟨x,T,rfl,_⟩:=h;rfl
 ·obtain⟨x,T,rfl,th,q⟩:=h
  refine⟨_,ax (aF (dA (aE aZ (by rfl) n.isi (by rfl) (cq (pv 0) (cq (cC (by rfl) n.int (by rfl) (show aG (.ty "int") (.type "int") from rfl)) ag)))
   (eJ (rB (aE aZ (by rfl) n.isi (by rfl) (cq (pv 0) (cq (cC (by rfl) n.bool (by rfl) (show aG (.ty "bool") (.type "bool") from rfl)) ag))))))),?_⟩
  refine⟨_,rfl,x,.ty "int",_,_,_,rfl,rfl,th.ty,th.isInt,_,rfl,?_⟩;refine cG (λhi=>?_) (λhi=>?_)
  ·refine⟨_,rfl,x,.ty "bool",_,_,_,rfl,rfl,th.ty,th.isBool hi,_,rfl,?_⟩;simpa using q
  ·have e:cg x=false:=by
    cases th <;> first|rfl|exact absurd rfl hi
   rw[e] at q;exact q
noncomputable def jc (i:Int):Bool:=i==0 || cO.any λp=>p==i
noncomputable def good:V->Bool
 | .int i=>jc i
 |_=>false
noncomputable def gG (i:Int):List (Str×V):=[("its_prime",.int i)]
noncomputable def rP (C NF:Addr):Sp:=λvs H Q E=>∃(p dx:Addr)(x:V)(T:String),vs=[.ref p,x]/\Th H x T/\H p=some (.ins C dx [])/\(good x=true->Q .non (upd H p (.ins C dx [("its_prime",x)])))/\(good x=false->E (.ref NF) none H)
structure BE (K:Frag)(mg:u9)(C:Addr):Prop where
 cl:Ej K C
 nP:d0 K C "its_prime"
 mgC:mg "Field"=some (.ref C)
 Tw:((clsIn K C).isSome&&typeIn K (.ref C)==some (.type "type"))=true
 ca:findIn K (.ref C) "__class__"=some (some (.builtin "object.__class__"))
 sp:specialIn K (.builtin "object.__class__") "__get__"=some (some (.builtin "getset_descriptor.__get__"))
 tk:takesIn K (.builtin "object.__class__")=some true
 ob:mroIn K C (.type "object")=some true
theorem j4 (i:Int):fW (.int i) (cO.map V.int)=cO.any λp=>p==i:=by
 unfold fW;rw[qo];rfl
theorem abp:CP qH qH (ar yg):=fe (by decide +kernel)
variable {C:Addr}{tF:Tok}
theorem abq {NF aP T:Addr}(F:rn K "__init__" "Field.__init__" yg f fd T)(c:BE K mg C)(q0:Ca P w K mg base 1 n6 "is_whole" vv)
 (mF:mg "FRACTIONS"=some (.int 0 tF))(mP:mg "PRIMES"=some (.ref aP))(hP:∀H:Hp,aU K H aP (cO.map V.int))(mN:mg "NoField"=some (.ref NF))(qN:nR K NF C0 qG=true):ya P w K mg base (cD P w) 2 f fd qH (rP C NF):=by
 obtain⟨fw,Ki,FW,bW,mW,kW⟩:=q0;refine F.okE abp (λvs H Q E h=>?_) (λFv A outer s H vs Q E hr h=>?_)
 ·obtain⟨p,dx,x,T,rfl,_⟩:=h;rfl
 ·obtain⟨p,dx,x,T,rfl,th,hp,hq,hE⟩:=h
  refine⟨_,au (bF (PW.pt (dE (bN (bU (aH FW hr (by rfl) mW kW bW .nil ao (cq (pv 1) ag))))
   (dD (PW.pt (acE (aO fY (pv 1) (fB (by rfl) mF (show aG (.int 0) (.int 0 tF) from⟨_,rfl⟩)) (aV _)) (acX (aO dF (pv 1) (fB (by rfl) mP (show aG (.ref aP) (.ref aP) from rfl)) (by rfl))))))))
   (ax (fR ZO qN rfl dZ (by rfl) mN (cq gQ ag))) aS)
   (ax (rG (pv 0) (pv 1) rfl)),?_⟩
  have fin:good x=true->∃(a C' QY:Addr)(fs:List (Str×V)),V.ref p=.ref a/\H a=some (.ins C' QY fs)/\Ej K C'/\d0 K C' "its_prime"/\fs.length<1000/\Q .non (upd H a (.ins C' QY (dX "its_prime" x fs))):=λg=>⟨p,C,dx,[],rfl,hp,c.cl,c.nP,by decide,hq g⟩;refine⟨_,rfl,x,T,rfl,th,_,rfl,?_⟩
  cases th with
  |int i =>
   refine b7 ?_;refine⟨_,rfl,rfl,_,rfl,?_⟩;refine cG (λh0=>?_) (λh0=>?_)
   ·refine⟨_,rfl,aP,_,rfl,.inr (hP _),rfl,rfl,_,rfl,?_⟩;refine cG (λh1=>?_) (λh1=>?_)
    ·refine⟨by decide,hE ?_⟩
     have e1:¬i=0:=by simpa using h0
     have e2:fW (.int i) (cO.map V.int)=false:=by simpa using h1
     rw[j4] at e2;show jc i=false;unfold jc;rw[e2];simpa using e1
    ·have e2:fW (.int i) (cO.map V.int)=true:=by simpa using h1
     rw[j4] at e2;exact⟨_,rfl,_,rfl,fin (by show jc i=true;unfold jc;rw[e2];simp)⟩
   ·have e1:i=0:=by simpa using h0
    exact b7 ⟨_,rfl,_,rfl,fin (by show jc i=true;rw[e1];rfl)⟩
  |_=>exact bA (bA ⟨by decide,hE rfl⟩)
noncomputable abbrev AS:Stmt:=bh (bc 20) 5
noncomputable abbrev AN:Stmt:=bh (bc 20) 6
noncomputable abbrev pJ:Stmt:=bh (bc 20) 10
noncomputable def FP (p:Int):Prop:=p=0\/p∈cO
theorem FP.nn (h:FP p):0<=p:=by
 rcases h with h|h
 ·omega
 ·have:=eT h;omega
theorem FP.two (h:FP p)(z:p≠0):p∈cO/\2<=p/\p<=97:=by
 rcases h with h|h
 ·exact absurd h z
 ·exact⟨h,eT h⟩
noncomputable def rQ (C NN:Addr):Sp:=λvs H Q E=>∃(s dx:Addr)(p t b:Int),vs=[.ref s,.int t,.int b]/\H s=some (.ins C dx (gG p))/\FP p/\B 9000 b /\
 (p=0->b=0->E (.ref NN) none H)/\(p=0->b≠0->∀a,H a=none->Q (.ref a) (upd H a (cx (dq t b) (cw t b)))) /\
 (p≠0->b%p=0->E (.ref NN) none H)/\(p≠0->b%p≠0->∀v,0<=v->v<p->(v*b)%p=1->∀a,H a=none->Q (.ref a) (upd H a (cx (t*v%p) 1)))
noncomputable def mx (C:Addr):Sp:=λvs H Q _=>∃(s dx:Addr)(p t b:Int),vs=[.ref s,.int t,.int b]/\H s=some (.ins C dx (gG p))/\FP p/\B 9000 b/\b≠0/\∀a,H a=none->Q (.ref a) (upd H a (cx (cZ p t b) (da p t b)))
noncomputable def xJ (C:Addr)(g:Int->Int->Int->Int->Int):Sp:=λvs H Q _=>∃(s dx a1 a2:Addr)(p t1 b1 t2 b2:Int),vs=[.ref s,.ref a1,.ref a2]/\H s=some (.ins C dx (gG p))/\FP p/\H a1=some (cx t1 b1)/\H a2=some (cx t2 b2) /\
 B 4000 t1/\B 4000 b1/\B 4000 t2/\B 4000 b2/\b1≠0/\b2≠0/\∀a,H a=none->Q (.ref a) (upd H a (cx (cZ p (g t1 b1 t2 b2) (b1*b2)) (da p (g t1 b1 t2 b2) (b1*b2))))
noncomputable def i8 (t1 b1 t2 b2:Int):Int:=t1*b2+t2*b1
noncomputable def mD (t1 b1 t2 b2:Int):Int:=t1*t2
theorem abr:CP Bt Bt (ar AS):=fe (by decide +kernel)
theorem abt {NN:Addr}(F:ve K "quotient" "Field.quotient" AS f fd)(c:BE K mg C)(mF:mg "FRACTIONS"=some (.int 0 tF))(mN:mg "NoNumber"=some (.ref NN))(qN:nR K NN C0 qG=true)
 (q0:Ca P w K mg base 2 EV "lowest" yG)
 (q1:Ca P w K mg base 1 ["number","prime"] "inverse" vB):
 ya P w K mg base (cD P w) 3 f fd Bt (rQ C NN):=by
 obtain⟨fl,Kj,FL,bL,mL,kL⟩:=q0;obtain⟨fv,XA,FV,bV,mV,kV⟩:=q1;refine F.okE abr (λvs H Q E h=>?_) (λFv A outer s H vs Q E hr h=>?_)
 ·obtain⟨s,dx,p,t,b,rfl,_⟩:=h;rfl
 ·obtain⟨s,dx,p,t,b,rfl,hs,hp,hB,q1,q2,q3,q4⟩:=h;have FN:wa 1 _:=hr.mono (by decide)
  refine⟨_,au (bF (aO fL (cN (pv 0) rfl) (fB (by rfl) mF (show aG (.int 0) (.int 0 tF) from⟨_,rfl⟩)) (aV _))
   (au (bF (aO fL (pv 2) ak (aV _)) (ax (fR ZO qN rfl dZ (by rfl) mN (aj gQ ag))) aS)
   (ax (aF (aH FL hr (by rfl) mL kL bL .nil ao (aj (pv 1) (aj (pv 2) ag)))))) aS)
   (au (bF (aO fL (aK cM (pv 2) (cN (pv 0) rfl)) ak (aV _)) (ax (fR ZO qN rfl dZ (by rfl) mN (aj gQ ag))) aS)
   (ax (aF (aJ (aj (aK cM (aK dC (pv 1) (aH FV FN (by rfl) mV kV bV .nil ao (aj (pv 2) (aj (cN (pv 0) rfl) ag)))) (cN (pv 0) rfl)) (aj ak ag)))))),?_⟩
  refine⟨_,rfl,s,C,dx,_,_,rfl,hs,c.cl,c.nP,rfl,rfl,_,rfl,?_⟩;refine cG (λh=>?_) (λh=>?_)
  ·have F1:p=0:=by simpa using h
   refine⟨_,rfl,rfl,_,rfl,?_⟩;refine cG (λh2=>?_) (λh2=>?_)
   ·have hb:b=0:=by simpa using h2
    exact⟨by decide,q1 F1 hb⟩
   ·have hb:b≠0:=by simpa using h2
    exact⟨_,rfl,_,rfl,t,b,rfl,hb,hB,q2 F1 hb⟩
  ·have F1:p≠0:=by simpa using h
   obtain⟨Kk,p2,M9⟩:=hp.two F1;refine⟨_,rfl,_,rfl,s,C,dx,_,_,rfl,hs,c.cl,c.nP,rfl,_,_,rfl,rfl,(by show(0:Int)<p;omega),rfl,_,rfl,?_⟩;refine cG (λh2=>?_) (λh2=>?_)
   ·have hb:b%p=0:=by simpa using h2
    exact⟨by decide,q3 F1 hb⟩
   ·have hb:b%p≠0:=by simpa using h2
    refine⟨_,rfl,_,rfl,_,rfl,s,C,dx,_,_,rfl,hs,c.cl,c.nP,rfl,b,p,rfl,Kk,hb,λv v0 v1 v2=>?_⟩;refine⟨_,_,rfl,rfl,.inr ⟨by omega,by omega⟩,_,rfl,s,C,dx,_,_,rfl,hs,c.cl,c.nP,rfl,_,_,rfl,rfl,(by show(0:Int)<p;omega),hJ,λa ha=>q4 F1 hb v v0 v1 v2 a ha⟩
theorem abx:CP Bt Bt (ar pJ):=fe (by decide +kernel)
theorem abC (F:ve K "settled" "Field.settled" pJ f fd)(c:BE K mg C)(mF:mg "FRACTIONS"=some (.int 0 tF))
 (q0:Ca P w K mg base 2 EV "lowest" yG):
 ya P w K mg base (cD P w) 3 f fd Bt (mx C):=by
 obtain⟨fl,Kj,FL,bL,mL,kL⟩:=q0;refine F.okN abx (λvs H Q E h=>?_) (λFv A outer s H vs Q E hr h=>?_)
 ·obtain⟨s,dx,p,t,b,rfl,_⟩:=h;rfl
 ·obtain⟨s,dx,p,t,b,rfl,hs,hp,hB,hb,q⟩:=h
  refine⟨_,au (bF (aO fL (cN (pv 0) rfl) (fB (by rfl) mF (show aG (.int 0) (.int 0 tF) from⟨_,rfl⟩)) (aV _))
   (ax (aF (aH FL hr (by rfl) mL kL bL .nil ao (aj (pv 1) (aj (pv 2) ag))))) aS)
   (ax (aF (aJ (aj (aK cM (pv 1) (cN (pv 0) rfl)) (aj ak ag))))),?_⟩
  refine⟨_,rfl,s,C,dx,_,_,rfl,hs,c.cl,c.nP,rfl,rfl,_,rfl,?_⟩;refine cG (λh=>?_) (λh=>?_)
  ·have F1:p=0:=by simpa using h
   refine⟨_,rfl,_,rfl,t,b,rfl,hb,hB,λa ha=>?_⟩;have y:=q a ha;unfold cZ da at y;rw[Yh F1,Yh F1] at y;exact y
  ·have F1:p≠0:=by simpa using h
   obtain⟨Kk,p2,M9⟩:=hp.two F1;refine⟨_,rfl,_,rfl,s,C,dx,_,_,rfl,hs,c.cl,c.nP,rfl,_,_,rfl,rfl,(by show(0:Int)<p;omega),hJ,λa ha=>?_⟩;have y:=q a ha;unfold cZ da at y;rw[Yd F1,Yd F1] at y;exact y
theorem a0 (x y:V):p9 [x,y] 0=some x:=rfl
theorem a1 (x y:V):p9 [x,y] 1=some y:=rfl
theorem abK:CP De De (ar AN):=fe (by decide +kernel)
variable {b:Int}
theorem rg {a:Int}(h:a≠0)(k:b≠0):a*b≠0:=v7 h k
theorem abL (F:ve K "plus" "Field.plus" AN f fd)(c:BE K mg C)(q0:Cm P w K mg base 3 Bt C "settled" (mx C)):
 ya P w K mg base (cD P w) 4 f fd De (xJ C i8):=by
 obtain⟨fs,XB,FS,bS,mS⟩:=q0;refine F.okN abK (λvs H Q E h=>?_) (λFv A outer s H vs Q E hr h=>?_)
 ·obtain⟨s,dx,a1,a2,p,t1,b1,t2,b2,rfl,_⟩:=h;rfl
 ·obtain⟨s,dx,x1,x2,p,t1,b1,t2,b2,rfl,hs,hp,h1,h2,B1,B2,B3,B4,n1,n2,q⟩:=h;refine⟨_,ax (aF (fE (pv 0) c.cl mS FS hr bS .nil ao (aj (aK fh (aK dH (aY bJ (pv 1) ak (λ_ _=>rfl)) (aY bJ (pv 2) ak (λ_ _=>rfl))) (aK dH (aY bJ (pv 2) ak (λ_ _=>rfl)) (aY bJ (pv 1) ak (λ_ _=>rfl)))) (aj (aK dH (aY bJ (pv 1) ak (λ_ _=>rfl)) (aY bJ (pv 2) ak (λ_ _=>rfl))) ag)))),?_⟩;refine⟨_,rfl,s,dx,_,rfl,hs,rfl,?_⟩;refine⟨_,rfl,x1,_,0,_,rfl,rfl,aU.of h1,a0 _ _,_,rfl,x2,_,1,_,rfl,rfl,aU.of h2,a1 _ _,_,_,rfl,rfl,⟨B1.mono (by decide),B4.mono (by decide)⟩,?_⟩;refine⟨_,rfl,x2,_,0,_,rfl,rfl,aU.of h2,a0 _ _,_,rfl,x1,_,1,_,rfl,rfl,aU.of h1,a1 _ _,_,_,rfl,rfl,⟨B3.mono (by decide),B2.mono (by decide)⟩,_,_,rfl,rfl,?_⟩;refine⟨_,rfl,x1,_,1,_,rfl,rfl,aU.of h1,a1 _ _,_,rfl,x2,_,1,_,rfl,rfl,aU.of h2,a1 _ _,_,_,rfl,rfl,⟨B2.mono (by decide),B4.mono (by decide)⟩,?_⟩;exact⟨s,dx,p,_,_,rfl,hs,hp,(B2.mul B4).mono (by decide),rg n1 n2,q⟩
noncomputable abbrev AD:Stmt:=(bc 40)
noncomputable abbrev Bb:Stmt:=(bc 41)
noncomputable abbrev A0:Stmt:=(bc 42)
noncomputable abbrev A6:Stmt:=(bc 44)
noncomputable abbrev wL:Stmt:=(bc 45)
theorem aq {a:Addr}{o:HO}(h:H a=none):aC H (upd H a o):=λb u e=>by rw[aA (aB e h)];exact e
noncomputable def vW (K:PySem.W.Frag):Sp:=λvs H Q _=>∃(a:Addr)(ns:List Int)(k:Int),vs=[.ref a,.int k]/\bo K H a (ns.map V.int)/\ns.length<=63/\0<=k/\k<=63 /\
 ∀(p:Addr)(l r:Int),H p=none->0<=r->r<2147483647->Q (.ref p) (upd H p (.lst [.int l,.int r]))
noncomputable def ie:Sp:=λvs H Q _=>∃(p:Addr)(l r m:Int),vs=[.ref p,.int m]/\H p=some (.lst [.int l,.int r])/\0<=r/\r<2147483647/\0<m/\m<18446744073709551616 /\
 ∀(z l' r':Int),0<=z->z<m->0<=r'->r'<2147483647->Q (.int z) (upd H p (.lst [.int l',.int r']))
theorem iw {Q:VK}{k c:Int}{x:Option V}(IX:0<=k)(Kl:k<=63)(q:∀(p:Addr)(l r:Int),H p=none->0<=r->r<2147483647->Q (.ref p) (upd H p (.lst [.int l,.int r]))):
 rD (bq (cc 3) (bq (kx (rI (λ_ j=>0<j) λi j=>.int (i%j)) (kx (rI uX λi j=>.int (i*j)) (kx (vU λi j=>.int (i+j)) (kx (vU λi j=>.int (i+j)) (kx (rI (λ_ j=>0<j) λi j=>.int (i%j)) (cc 2) (tC (.int 2147483629)))
  (kx (rI uX λi j=>.int (i*j)) (kx (rI uX λi j=>.int (i*j)) (tC (.int 104729)) (cc 1)) (cc 1))) (tC (.int 7))) (tC (.int 48271))) (tC (.int 2147483647))) Co)) [x,some (.int k),some (.int c),some (.int l)] H Q:=by
 have h1:(0:Int)<=104729*k:=by omega
 have h2:104729*k<=6597927:=by omega
 refine⟨_,rfl,_,rfl,_,_,rfl,rfl,(by show(0:Int)<2147483629;decide),_,rfl,_,_,rfl,rfl,.inl ⟨by decide,by decide⟩,_,rfl,_,_,rfl,rfl,.inl ⟨by omega,by omega⟩,_,_,rfl,rfl,_,_,rfl,rfl,_,_,rfl,rfl,.inr ⟨by decide,by decide⟩,_,_,rfl,rfl,(by show(0:Int)<2147483647;decide),hJ,λp hp=>?_⟩;exact q p _ _ hp (Zw _ (by decide)) (Zd _ (by decide))
theorem jH:CP ["_law_script","_law_k","_law_cell","_law_left"] EU (ar AD):=fe (by decide +kernel)
theorem abM (F:ve K "_law_room" "_law_room" AD f fd)(hlen:mg "len"=none):ya P w K mg base (cD P w) 1 f fd EU (vW K):=by
 refine F.okN jH (λvs H Q E h=>?_) (λFv A outer s H vs Q E hr h=>?_)
 ·obtain⟨a,ns,k,rfl,_⟩:=h;rfl
 ·obtain⟨a,ns,k,rfl,hS,hn,IX,Kl,q⟩:=h
  refine⟨_,au (aX (i:=2) jH.nd rfl (Or.inl rfl) ak)
   (au (bF (aO ix (pv 1) (aE bH (by rfl) hlen ZU (cq (pv 0) ag)) (aV _))
    (ax (aX (i:=2) jH.nd rfl (Or.inl rfl) (aY cA (pv 0) (pv 1) (λ_ _=>rfl)))) aS)
   (au (aX (i:=3) jH.nd rfl (Or.inl rfl) ak)
   (au (bF (aO AO (pv 2) (aK yc ak ak) (aV _)) (ax (aX (i:=3) jH.nd rfl (Or.inl rfl) (pv 2))) aS)
   (ax (aF (cE (cq (pv 3) (cq
    (aK cM (aK dC (aK fh (aK fh (aK cM (pv 2) ak) (aK dC (aK dC ak (pv 1)) (pv 1))) ak) ak) ak) ag)))))))),?_⟩
  refine⟨_,rfl,_,rfl,a,_,rfl,.inl hS,_,_,rfl,rfl,_,rfl,?_⟩;refine cG (λh=>?_) (λh=>?_)
  ·have Fy:k.toNat<ns.length:=by
    have h1:=Zg h;rw[Yg] at h1;omega
   obtain⟨c,hc⟩:∃c,p9 (ns.map V.int) k=some (V.int c):=by
    refine⟨ns[k.toNat],?_⟩
    have e:((k.toNat:Nat):Int)=k:=by omega
    have z:=r6 (xs:=ns.map V.int) (j:=k.toNat) (v:=V.int ns[k.toNat]) (by rw[YU];simp[Fy]);rw[e] at z;exact z
   refine⟨_,rfl,_,rfl,a,_,k,_,rfl,rfl,hS,hc,?_⟩;refine⟨_,rfl,_,_,rfl,rfl,⟨by decide,by decide,by decide⟩,_,_,rfl,rfl,_,rfl,?_⟩;refine cG (λh2=>?_) (λh2=>?_)
   ·exact⟨_,rfl,iw IX Kl q⟩
   ·exact iw IX Kl q
  ·refine⟨_,rfl,_,_,rfl,rfl,⟨by decide,by decide,by decide⟩,_,_,rfl,rfl,_,rfl,?_⟩;refine cG (λh2=>?_) (λh2=>?_)
   ·exact⟨_,rfl,iw IX Kl q⟩
   ·exact iw IX Kl q
theorem nH:CP ["_law_room_here","_law_many","_law_found"] xk (ar Bb):=fe (by decide +kernel)
theorem abN (F:ve K "_law_take" "_law_take" Bb f fd):ya P w K mg base (cD P w) 1 f fd xk ie:=by
 refine F.okN nH (λvs H Q E h=>?_) (λFv A outer s H vs Q E hr h=>?_)
 ·obtain⟨p,l,r,m,rfl,_⟩:=h;rfl
 ·obtain⟨p,l,r,m,rfl,hp,Ik,FN,JG,XC,q⟩:=h
  refine⟨_,au (bF (aO AG (aY cA (pv 0) ak (λ_ _=>rfl)) ak (aV _))
   (au (aX (i:=2) nH.nd rfl (Or.inl rfl) (aK cM (aY cA (pv 0) ak (λ_ _=>rfl)) (pv 1)))
   (au (kD (aK eO (aY cA (pv 0) ak (λ_ _=>rfl)) (pv 1)) (qA (pv 0) ak kh))
   (ax (aF (pv 2))))) aS)
   (au (kD (aK cM (aK fh (aK dC (aY cA (pv 0) ak (λ_ _=>rfl)) ak) ak) ak) (qA (pv 0) ak kh))
   (au (aX (i:=2) nH.nd rfl (Or.inl rfl) (aK adi (aK cM (aK dC (aY cA (pv 0) ak (λ_ _=>rfl)) (aY cA (pv 0) ak (λ_ _=>rfl))) ak) ak))
   (au (bF (aO AG (pv 1) (aK yc ak ak) (aV _))
    (au (kD (aK cM (aK fh (aK dC (aY cA (pv 0) ak (λ_ _=>rfl)) ak) ak) ak) (qA (pv 0) ak kh))
    (ax (aX (i:=2) nH.nd rfl (Or.inl rfl) (aK fh (aK dC (pv 2) ak) (aK cM (aK dC (aY cA (pv 0) ak (λ_ _=>rfl)) (aY cA (pv 0) ak (λ_ _=>rfl))) ak))))) aS)
   (ax (aF (aK cM (pv 2) (pv 1))))))),?_⟩
  have i0:∀x y:V,p9 [x,y] 0=some x:=λ_ _=>rfl;have i1:∀x y:V,p9 [x,y] 1=some y:=λ_ _=>rfl;have n0:xj [V.int l,V.int r].length 0=some 0:=rfl;have n1:∀x y:V,xj [x,y].length 1=some 1:=λ_ _=>rfl;refine⟨_,rfl,p,_,0,_,rfl,rfl,bo.of hp,i0 _ _,_,_,rfl,rfl,_,rfl,?_⟩;refine cG (λh=>?_) (λh=>?_)
  ·refine⟨_,rfl,p,_,0,_,rfl,rfl,bo.of hp,i0 _ _,_,rfl,_,_,rfl,rfl,JG,?_⟩;refine⟨_,rfl,p,_,0,_,rfl,rfl,bo.of hp,i0 _ _,_,rfl,_,_,rfl,rfl,⟨by omega,(show B 64 m from(by show m.natAbs<2^64;omega)).mono (by decide)⟩,_,rfl,p,_,0,0,rfl,rfl,hp,n0,?_⟩;exact⟨_,rfl,q _ _ _ (Zw _ (by omega)) (Zd _ JG) Ik FN⟩
  ·have e1:∀t:Int,0<=t%2147483647/\t%2147483647<2147483647:=λt=>⟨Zw _ (by decide),Zd _ (by decide)⟩;refine⟨_,rfl,p,_,1,_,rfl,rfl,bo.of hp,i1 _ _,_,_,rfl,rfl,.inl ⟨by omega,by omega⟩,_,_,rfl,rfl,_,_,rfl,rfl,(by show(0:Int)<2147483647;decide),_,rfl,p,_,1,1,rfl,rfl,hp,n1 _ _,?_⟩;refine⟨_,rfl,p,_,1,_,rfl,rfl,bo.of ai,i1 _ _,_,rfl,p,_,1,_,rfl,rfl,bo.of ai,i1 _ _,_,_,rfl,rfl,.inl ⟨by omega,by omega⟩,_,_,rfl,rfl,(by show(0:Int)<2147483629;decide),_,_,rfl,rfl,⟨by decide,by decide⟩,?_⟩;refine⟨_,rfl,_,_,rfl,rfl,⟨by decide,by decide,by decide⟩,_,_,rfl,rfl,_,rfl,?_⟩;refine cG (λh2=>?_) (λh2=>?_)
   ·refine⟨_,rfl,p,_,1,_,rfl,rfl,bo.of ai,i1 _ _,_,_,rfl,rfl,.inl ⟨by omega,by omega⟩,_,_,rfl,rfl,_,_,rfl,rfl,(by show(0:Int)<2147483647;decide),_,rfl,p,_,1,1,rfl,rfl,ai,n1 _ _,?_⟩;rw[uy];refine⟨_,rfl,_,_,rfl,rfl,.inr ⟨by decide,by decide⟩,_,rfl,p,_,1,_,rfl,rfl,bo.of ai,i1 _ _,_,rfl,p,_,1,_,rfl,rfl,bo.of ai,i1 _ _,_,_,rfl,rfl,.inl ⟨by omega,by omega⟩,_,_,rfl,rfl,(by show(0:Int)<2147483587;decide),_,_,rfl,rfl,?_⟩;exact⟨_,rfl,_,rfl,_,_,rfl,rfl,JG,q _ _ _ (Zw _ (by omega)) (Zd _ JG) (e1 _).1 (e1 _).2⟩
   ·exact⟨_,rfl,_,rfl,_,_,rfl,rfl,JG,q _ _ _ (Zw _ (by omega)) (Zd _ JG) (e1 _).1 (e1 _).2⟩
noncomputable def Dx (H:Hp)(Q:VK)(t b:Int):Prop:=∀(H':Hp)(a:Addr),aC H H'->H' a=some (cx t b)->Q (.ref a) H'
theorem Dx.of {H':Hp}{Q:VK}{t:Int}(q:Dx H Q t b)(S:aC H H'):∀a,H' a=none->Q (.ref a) (upd H' a (cx t b)):=λa ha=>q _ a (S.trans (aq ha)) ai
noncomputable def qc:Sp:=λvs H Q _=>∃t b:Int,vs=[.int t,.int b]/\b≠0/\B 9000 b/\B 9000 t/\Dx H Q (dq t b) (cw t b)
noncomputable def EA:Sp:=λvs H Q _=>∃p t b:Int,vs=[.int p,.int t,.int b]/\FP p/\b≠0/\B 9000 b/\B 9000 t/\(p≠0->b=1)/\Dx H Q (cZ p t b) (da p t b)
noncomputable def nO (g:Int->Int->Int->Int->Int):Sp:=λvs H Q _=>∃(p t1 b1 t2 b2:Int)(a1 a2:Addr),vs=[.int p,.ref a1,.ref a2]/\FP p/\H a1=some (cx t1 b1)/\H a2=some (cx t2 b2)/\B 4000 t1/\B 4000 b1/\B 4000 t2/\B 4000 b2/\b1≠0/\b2≠0/\(p≠0->b1*b2=1) /\
 Dx H Q (cZ p (g t1 b1 t2 b2) (b1*b2)) (da p (g t1 b1 t2 b2) (b1*b2))
noncomputable abbrev abX:List Str:=["_law_top","_law_base","_law_one","_law_other","_law_sign"]
theorem j7:CP abX EI (ar A0):=fe (by decide +kernel)
theorem A4 (c:Int):(if c<0 then -c else c)=ab c:=rfl
theorem abZ (F:ve K "_law_lowest" "_law_lowest" A0 f fd)(mA:mg "abs"=none)(mI:mg "int"=none):ya P w K mg base (cD P w) 1 f fd EI qc:=by
 refine F.okN j7 (λvs H Q E h=>?_) (λFv A outer s H vs Q E hr h=>?_)
 ·obtain⟨a,b,rfl,_⟩:=h;rfl
 ·obtain⟨t,b,rfl,hb,hB,hT,q⟩:=h
  refine⟨_,au (aX (i:=2) j7.nd rfl (Or.inl rfl) (aE iD (by rfl) mA (by rfl) (aj (pv 0) ag)))
   (au (aX (i:=3) j7.nd rfl (Or.inl rfl) (aE iD (by rfl) mA (by rfl) (aj (pv 1) ag)))
   (au (jF Y4 (aO fY (pv 3) ak (aV _)) (ax (iX (i:=2) (j:=3) rfl j7.nd rfl rfl (by decide) rfl rfl (aj (pv 3) (aj (aK uq (pv 2) (pv 3)) ag)) rfl)))
   (au (aX (i:=4) j7.nd rfl (Or.inl rfl) (aY cA (cE (aj ak (aj (oE kN ak) ag))) (bt gu (by rfl) mI (by rfl) (aj (cu ix (pv 1) ak (aV _)) ag)) (λ_ _=>rfl)))
   (ax (aF (aJ (aj (aK eO (aK dC (pv 4) (pv 0)) (pv 2)) (aj (aK eO (aE iD (by rfl) mA (by rfl) (aj (pv 1) ag)) (pv 2)) ag)))))))),?_⟩
  refine⟨_,rfl,t,rfl,_,rfl,b,rfl,?_⟩;rw[A4,A4];refine⟨λm σ H'=>∃c d:Int,σ=[some (.int t),some (.int b),some (.int c),some (.int d),none]/\H'=H/\m=d.natAbs/\Int.gcd c d=Int.gcd t b/\0<=c/\0<=d,⟨_,ab t,ab b,rfl,rfl,rfl,aaV t b,by rw[kf];omega,by rw[kf];omega⟩,?_⟩;rintro m σ H' ⟨c,d,rfl,rfl,rfl,hg,XD,M7⟩;refine⟨_,rfl,rfl,_,rfl,?_⟩;refine cG (λh=>?_) (λh=>?_)
  ·have hd:d≠0:=by simpa using h
   refine⟨λσ' Ij=>∃c' d':Int,σ'=[some (.int t),some (.int b),some (.int c'),some (.int d'),none]/\Ij=H'/\d'.natAbs<d.natAbs/\Int.gcd c' d'=Int.gcd t b/\0<=c'/\0<=d',λσ' Ij ⟨c',d',e1,e2,e3,e4,e5,e6⟩=>⟨_,e3,c',d',e1,e2,rfl,e4,e5,e6⟩,?_⟩;refine⟨_,rfl,_,rfl,_,rfl,_,_,rfl,rfl,hd,_,_,rfl,d,c.fmod d,rfl,rfl,tV c d hd,by rw[kc,hg],M7,Bz c (by omega)⟩
  ·have hd:d=0:=by simpa using h
   subst hd
   have eg:c=cV t b:=by
    unfold cV;rw[<-hg];simp;omega
   have gp:=eW (t:=t) hb;have QZ:B 9000 (cV t b):=hB.le (aa0 hb);subst eg;refine⟨_,rfl,hJ,λz hz=>?_⟩;have S:=aq (o:=.lst [V.int 1,V.int (-1)]) hz;refine⟨_,rfl,_,_,rfl,rfl,.inr ⟨_,rfl,?_⟩⟩
   have Ja:p9 [V.int 1,V.int (-1)] (if decide (b<0)=true then 1 else 0)=some (.int (sg b)):=by
    unfold sg
    by_cases N3:b<0
    ·simp[N3];rfl
    ·simp[N3];rfl
   refine⟨z,_,_,_,rfl,rfl,bo.of ai,Ja,?_⟩
   have XE:-1<=sg b/\sg b<=1:=by unfold sg;split <;> decide
   refine⟨_,rfl,_,rfl,_,_,rfl,rfl,.inl ⟨by omega,by omega⟩,_,rfl,_,_,rfl,rfl,⟨by omega,QZ⟩,_,rfl,b,rfl,_,rfl,_,_,rfl,rfl,⟨by omega,QZ⟩,hJ,λa ha=>?_⟩;have y:=q.of S a ha;rw[<-aab (t:=t) hb,<-aaR (t:=t) hb] at y;exact y
theorem ab0:CP ER ER (ar A6):=fe (by decide +kernel)
theorem ab1 (F:ve K "_law_make" "_law_make" A6 f fd)(q0:Ca P w K mg base 1 EI "_law_lowest" qc):
 ya P w K mg base (cD P w) 2 f fd ER EA:=by
 obtain⟨fl,Kj,FL,bL,mL,kL⟩:=q0;refine F.okN ab0 (λvs H Q E h=>?_) (λFv A outer s H vs Q E hr h=>?_)
 ·obtain⟨p,t,b,rfl,_⟩:=h;rfl
 ·obtain⟨p,t,b,rfl,hp,hb,hB,hT,h1,q⟩:=h
  refine⟨_,au (bF (aO fL (pv 0) ak (aV _)) (ax (aF (aH FL hr (by rfl) mL kL bL .nil ao (aj (pv 1) (aj (pv 2) ag))))) aS)
   (au (bF (aO fY (aK cM (pv 2) (pv 0)) ak (aV _)) adZ aS)
   (ax (aF (aJ (aj (aK cM (pv 1) (pv 0)) (aj ak ag)))))),?_⟩
  refine⟨_,rfl,rfl,_,rfl,?_⟩;refine cG (λh=>?_) (λh=>?_)
  ·have F1:p=0:=by simpa using h
   unfold cZ da at q;rw[Yh F1,Yh F1] at q;exact⟨_,rfl,_,rfl,t,b,rfl,hb,hB,hT,q⟩
  ·have F1:p≠0:=by simpa using h
   obtain⟨Kk,p2,M9⟩:=hp.two F1;have Jb:=h1 F1;subst Jb;refine⟨_,rfl,_,rfl,_,_,rfl,rfl,(by show(0:Int)<p;omega),rfl,_,rfl,?_⟩;have e1:(1:Int)%p=1:=x3 (by decide) (by omega);refine cG (λh=>absurd h (by simp[e1])) (λ_=>?_);unfold cZ da at q;rw[Yd F1,Yd F1] at q;exact⟨_,rfl,_,rfl,_,_,rfl,rfl,(by show(0:Int)<p;omega),hJ,q.of (aC.refl _)⟩
theorem ab2:CP vk vk (ar wL):=fe (by decide +kernel)
theorem ab4 (F:ve K "_law_plus" "_law_plus" wL f fd)(q0:Ca P w K mg base 2 ER "_law_make" EA):
 ya P w K mg base (cD P w) 3 f fd vk (nO i8):=by
 obtain⟨fl,Kj,FL,bL,mL,kL⟩:=q0;refine F.okN ab2 (λvs H Q E h=>?_) (λFv A outer s H vs Q E hr h=>?_)
 ·obtain⟨p,t1,b1,t2,b2,x1,x2,rfl,_⟩:=h;rfl
 ·obtain⟨p,t1,b1,t2,b2,x1,x2,rfl,hp,h1,h2,B1,B2,B3,B4,n1,n2,hb,q⟩:=h;refine⟨_,ax (aF (aH FL hr (by rfl) mL kL bL .nil ao (aj (pv 0) (aj (aK fh (aK dH (aY bJ (pv 1) ak (λ_ _=>rfl)) (aY bJ (pv 2) ak (λ_ _=>rfl))) (aK dH (aY bJ (pv 2) ak (λ_ _=>rfl)) (aY bJ (pv 1) ak (λ_ _=>rfl)))) (aj (aK dH (aY bJ (pv 1) ak (λ_ _=>rfl)) (aY bJ (pv 2) ak (λ_ _=>rfl))) ag))))),?_⟩;refine⟨_,rfl,?_⟩;refine⟨_,rfl,x1,_,0,_,rfl,rfl,aU.of h1,a0 _ _,_,rfl,x2,_,1,_,rfl,rfl,aU.of h2,a1 _ _,_,_,rfl,rfl,⟨B1.mono (by decide),B4.mono (by decide)⟩,?_⟩;refine⟨_,rfl,x2,_,0,_,rfl,rfl,aU.of h2,a0 _ _,_,rfl,x1,_,1,_,rfl,rfl,aU.of h1,a1 _ _,_,_,rfl,rfl,⟨B3.mono (by decide),B2.mono (by decide)⟩,_,_,rfl,rfl,?_⟩;refine⟨_,rfl,x1,_,1,_,rfl,rfl,aU.of h1,a1 _ _,_,rfl,x2,_,1,_,rfl,rfl,aU.of h2,a1 _ _,_,_,rfl,rfl,⟨B2.mono (by decide),B4.mono (by decide)⟩,?_⟩;exact⟨p,_,_,rfl,hp,rg n1 n2,(B2.mul B4).mono (by decide),((B1.mul B4).add (B3.mul B2)).mono (by decide),hb,q⟩
noncomputable def a7 (H:Hp)(r:Addr):Prop:=∃l x:Int,H r=some (.lst [.int l,.int x])/\0<=x/\x<2147483647
noncomputable def SameBut (r:Addr)(H H':Hp):Prop:=∀b o,H b=some o->b≠r->H' b=some o
variable {r:Addr}
theorem SameBut.trans {H1 H2:Hp}(a:SameBut r H H1)(b:SameBut r H1 H2):SameBut r H H2:=λc o e n=>b c o (a c o e n) n
theorem SameBut.of {H1:Hp}(a:aC H H1):SameBut r H H1:=λc o e _=>a c o e
theorem SameBut.upd {o:HO}:SameBut r H (upd H r o):=λb u e n=>by rw[aA n];exact e
theorem Bx {a:Addr}{t:Int}(h:H a=some (cx t b)):aM K H (.tup [.int t,.int b]) (.ref a):=by
 unfold aM;refine⟨a,_,rfl,aU.of h,?_⟩;unfold bg;refine⟨_,_,rfl,by unfold aM;rfl,?_⟩;unfold bg;refine⟨_,_,rfl,by unfold aM;rfl,?_⟩;unfold bg;rfl
theorem DV (t b:Int):iR (.tup [.int t,.int b])=1:=by simp[iR,eP]
theorem ab9 (t b u d:Int):gZ (.tup [.int t,.int b]) (.tup [.int u,.int d])=(t==u&&b==d):=by simp[gZ,eG]
end K44
namespace L2
open PySem PySem.Spec PyProof.Rows PySem.W
end L2
namespace K44
open PySem L2 PySem.W Nm
noncomputable abbrev xC:Stmt:=bh (bc 20) 4
noncomputable abbrev mi:Stmt:=bh (bc 20) 11
variable {H:Hp}{x:V}
theorem Th.same {H':Hp}{T:String}(h:Th H x T)(s:aC H H'):Th H' x T:=by
 cases h with
 |non=>exact .non
 |bl b=>exact .bl b
 |int i=>exact .int i
 |str x=>exact .str x
 |lst e=>exact .lst (s _ _ e)
 |tup e=>exact .tup (s _ _ e)
 |dK e=>exact .dK (s _ _ e)
inductive TX (H:Hp):V->Option (V×V)->Prop where
 |no {x:V}{T:String}:Th H x T->T ≠ "tuple"->TX H x none
 |odd {a:Addr}{xs:List V}:H a=some (.tup xs)->xs.length≠2->TX H (.ref a) none
 |two {a:Addr}{y z:V}{Ty Tz:String}:H a=some (.tup [y,z])->Th H y Ty->Th H z Tz->TX H (.ref a) (some (y,z))
theorem TX.same {H':Hp}{o:Option (V×V)}(h:TX H x o)(s:aC H H'):TX H' x o:=by
 cases h with
 |no th n=>exact .no (th.same s) n
 |odd e n=>exact .odd (s _ _ e) n
 |two e h1 h2=>exact .two (s _ _ e) (h1.same s) (h2.same s)
noncomputable def wz (p:Int):Option (V×V)->Bool
 |some (.int t,.int b)=>if p=0 then decide (1<=b)&&decide (Int.gcd t b=1) else decide (b=1)&&(decide (0<=t)&&decide (t<p))
 |_=>false
theorem Th.isTup {K:Frag}{T:String}(h:Th H x T):kitOne K (.type T) (.type "tuple")=some (decide (T="tuple")):=by cases h <;> rfl
noncomputable def qF (C NN:Addr):Sp:=λvs H Q E=>∃(s dx:Addr)(p:Int)(x y:V)(Tx Ty:String),vs=[.ref s,x,y]/\H s=some (.ins C dx (gG p))/\Th H x Tx/\Th H y Ty/\(∀t b,x=.int t->y=.int b->rQ C NN [.ref s,.int t,.int b] H Q E)/\((cg x&&cg y)=false->E (.ref NN) none H)
noncomputable def ki (C:Addr):Sp:=λvs H Q _=>∃(s dx:Addr)(p:Int)(x:V)(o:Option (V×V)),vs=[.ref s,x]/\H s=some (.ins C dx (gG p))/\FP p/\TX H x o/\Q (.bl (wz p o)) H
variable {P:yo}{w:World}{K:PySem.W.Frag}{mg:u9}{base:Heap}
theorem aca:CP Bt Bt (ar xC):=fe (by decide +kernel)
theorem acb {f C NN T:Addr}{fd:BG}(F:rn K "made" "Field.made" xC f fd T)(c:BE K mg C)(mN:mg "NoNumber"=some (.ref NN))(qN:nR K NN C0 qG=true)
 (q1:Cm P w K mg base 3 Bt C "quotient" (rQ C NN))
 (q0:Ca P w K mg base 1 n6 "is_whole" vv):ya P w K mg base (cD P w) 4 f fd Bt (qF C NN):=by
 obtain⟨fw,Ki,FW,bW,mW,kW⟩:=q0;obtain⟨fq,XF,FQ,bQ,mQ⟩:=q1;refine F.okE aca (λvs H Q E h=>?_) (λFv A outer s H vs Q E hr h=>?_)
 ·obtain⟨s,dx,p,x,y,Tx,Ty,rfl,_⟩:=h;rfl
 ·obtain⟨s,dx,p,x,y,Tx,Ty,rfl,hs,hx,hy,q,qE⟩:=h;have FN:wa 1 _:=hr.mono (by decide)
  refine⟨_,au (bF (PW.pt (dE (bN (bU (aH FW FN (by rfl) mW kW bW .nil ao (aj (pv 1) ag)))) (dD (bN (bU (aH FW FN (by rfl) mW kW bW .nil ao (aj (pv 2) ag)))))))
   (ax (fR ZO qN rfl dZ (by rfl) mN (aj gQ ag))) aS)
   (ax (aF (fE (E:=E) (pv 0) c.cl mQ FQ hr bQ .nil abR (aj (pv 1) (aj (pv 2) ag))))),?_⟩
  refine⟨_,rfl,x,Tx,rfl,hx,_,rfl,?_⟩
  cases e1:cg x with
  |false=>exact bA (bA ⟨by decide,qE (by rw[e1];rfl)⟩)
  |true =>
   refine b7 ⟨_,rfl,y,Ty,rfl,hy,_,rfl,?_⟩
   cases e2:cg y with
   |false=>exact bA ⟨by decide,qE (by rw[e1,e2];rfl)⟩
   |true =>
    have z1:∃t,x=.int t:=by cases x <;> first|exact⟨_,rfl⟩|cases e1
    have z2:∃b,y=.int b:=by cases y <;> first|exact⟨_,rfl⟩|cases e2
    obtain⟨t,rfl⟩:=z1;obtain⟨b,rfl⟩:=z2;exact b7 ⟨_,rfl,s,dx,_,rfl,hs,rfl,_,rfl,_,rfl,q t b rfl rfl⟩
theorem gU:CP ["self","thing","top","bottom"] ["self","thing"] (ar mi):=fe (by decide +kernel)
theorem acd {f C:Addr}{fd:BG}{tF:Tok}(F:ve K "is_number" "Field.is_number" mi f fd)(c:BE K mg C)(mF:mg "FRACTIONS"=some (.int 0 tF))(n:Ap mg)(mT:mg "tuple"=none)(mN:mg "len"=none)
 (q0:Ca P w K mg base 1 ph "common_divisor" D8)
 (q1:Ca P w K mg base 1 n6 "is_whole" vv):ya P w K mg base (cD P w) 2 f fd ["self","thing"] (ki C):=by
 obtain⟨fg,N0,FG,bG,mG,kG⟩:=q0;obtain⟨fw,Ki,FW,bW,mW,kW⟩:=q1;refine F.okN gU (λvs H Q E h=>?_) (λFv A outer s H vs Q E hr h=>?_)
 ·obtain⟨s,dx,p,x,o,rfl,_⟩:=h;rfl
 ·obtain⟨s,dx,p,x,o,rfl,hs,hp,tx,q⟩:=h
  refine⟨_,au (bF (PW.pt (dE (bN (bU (aE aZ (by rfl) n.isi (by rfl) (aj (pv 1) (aj (cC (by rfl) mT (by rfl) (show aG (.ty "tuple") (.type "tuple") from rfl)) ag)))))
   (dD (aO fY (aE bH (by rfl) mN ZU (aj (pv 1) ag)) ak (aV _))))) (ax (aF eE)) aS)
   (au (kD (pv 1) (cY rfl (aN (aD (i:=2) gU.nd rfl (Or.inl rfl)) (aN (aD (i:=3) gU.nd rfl (Or.inl rfl)) cp))))
   (au (bF (PW.pt (dE (bN (bU (aH FW hr (by rfl) mW kW bW .nil ao (aj (pv 2) ag)))) (dD (bN (bU (aH FW hr (by rfl) mW kW bW .nil ao (aj (pv 3) ag))))))) (ax (aF eE)) aS)
   (au (bF (aO fL (cN (pv 0) rfl) (fB (by rfl) mF (show aG (.int 0) (.int 0 tF) from⟨_,rfl⟩)) (aV _))
    (ax (aF (dA (cu AO (pv 3) ak (aV _)) (eJ (cu fL (aH FG hr (by rfl) mG kG bG .nil ao (aj (pv 2) (aj (pv 3) ag))) ak (aV _)))))) aS)
   (ax (aF (dA (cu fL (pv 3) ak (aV _)) (eJ (kA n4 ix ak (pv 2) (cN (pv 0) rfl))))))))),?_⟩
  cases tx with
  |@no x T th ne =>
   refine⟨_,rfl,x,.ty "tuple",_,_,_,rfl,rfl,th.ty,th.isTup,_,rfl,?_⟩;rw[Yu ne];exact bA (bA q)
  |@odd a xs ha hl =>
   refine⟨_,rfl,.ref a,.ty "tuple",_,_,_,rfl,rfl,.of (.tup ha),rfl,_,rfl,b7 ?_⟩;refine⟨_,rfl,a,_,rfl,.inr (aU.of ha),rfl,_,rfl,?_⟩;refine cG (λ_=>q) (λh=>absurd (by simp;omega) h)
  |@two a y z Ty Tz ha hy hz =>
   refine⟨_,rfl,.ref a,.ty "tuple",_,_,_,rfl,rfl,.of (.tup ha),rfl,_,rfl,b7 ?_⟩;refine⟨_,rfl,a,_,rfl,.inr (aU.of ha),rfl,_,rfl,?_⟩;refine cG (λh=>absurd h (by simp)) (λ_=>?_);refine⟨_,rfl,a,_,rfl,aU.of ha,rfl,_,_,rfl,_,_,rfl,rfl,?_⟩;refine⟨_,rfl,y,Ty,rfl,hy,_,rfl,?_⟩
   cases e1:cg y with
   |false =>
    have z1:wz p (some (y,z))=false:=by cases y <;> first|rfl|cases e1
    rw[z1] at q;exact bA (bA q)
   |true =>
    refine b7 ⟨_,rfl,z,Tz,rfl,hz,_,rfl,?_⟩
    cases e2:cg z with
    |false =>
     have z1:wz p (some (y,z))=false:=by cases y <;> cases z <;> first|rfl|cases e2
     rw[z1] at q;exact bA q
    |true =>
     have z1:∃t,y=.int t:=by cases y <;> first|exact⟨_,rfl⟩|cases e1
     have z2:∃b,z=.int b:=by cases z <;> first|exact⟨_,rfl⟩|cases e2
     obtain⟨t,rfl⟩:=z1;obtain⟨b,rfl⟩:=z2;refine b7 ?_;refine⟨_,rfl,s,C,dx,_,_,rfl,hs,c.cl,c.nP,rfl,rfl,_,rfl,?_⟩;refine cG (λh=>?_) (λh=>?_)
     ·have F1:p=0:=by simpa using h
      have z1:wz p (some (.int t,.int b))=(decide (1<=b)&&decide (Int.gcd t b=1)):=by simp[wz,F1]
      rw[z1] at q;refine⟨_,rfl,_,_,rfl,rfl,_,rfl,?_⟩;refine cG (λh1=>?_) (λh1=>?_)
      ·refine⟨_,rfl,_,rfl,t,b,rfl,rfl,?_⟩
       have e3:decide (V.int (cV t b)=V.int 1)=decide (Int.gcd t b=1):=by
        unfold cV
        by_cases g:Int.gcd t b=1
        ·simp[g]
        ·have:¬((Int.gcd t b:Nat):Int)=1:=by omega
         simp[g,this]
       have HX:decide (1<=b)=true:=h1;rw[HX,Zr,<-e3] at q;exact q
      ·have HX:decide (1<=b)=false:=by simpa using h1
       rw[HX,ZF] at q;exact q
     ·have F1:p≠0:=by simpa using h
      have z1:wz p (some (.int t,.int b))=(decide (b=1)&&(decide (0<=t)&&decide (t<p))):=by simp[wz,F1]
      rw[z1] at q;refine⟨_,rfl,rfl,_,rfl,?_⟩;refine cG (λh1=>?_) (λh1=>?_)
      ·have HX:decide (b=1)=true:=by simpa using h1
       rw[HX,Zr] at q;refine⟨_,rfl,_,_,rfl,rfl,_,rfl,?_⟩;refine cG (λh2=>?_) (λh2=>?_)
       ·refine⟨_,rfl,s,C,dx,_,_,rfl,hs,c.cl,c.nP,rfl,_,_,rfl,rfl,?_⟩;have JH:decide (0<=t)=true:=h2;rw[JH,Zr] at q;exact q
       ·have JH:decide (0<=t)=false:=by simpa using h2
        rw[JH,ZF] at q;exact q
      ·have HX:decide (b=1)=false:=by simpa using h1
       rw[HX,ZF] at q;exact q
end K44
namespace L2
open PySem PySem.Spec PyProof.Rows PySem.W
noncomputable def C4:V->Bool->Prop
 | .bl b,c=>c=b
 | .int i,c=>c=(i != 0)
 |_,_=>False
theorem bK {α β:Type}{R:α->β->Prop}:∀{l:List α}{m:List β}{i:Nat}{a:α},Paired R l m->l[i]?=some a->∃b,m[i]?=some b/\R a b
 |[],_,i,a,h,e=>by simp at e
 |x::l,_,i,a,h,e=>by
  cases h with
  |cons h1 h2 =>
   cases i with
   |zero=>simp at e;subst e;exact⟨_,rfl,h1⟩
   |succ i=>simpa using bK h2 (by simpa using e)
theorem gY {α β:Type}{R:α->β->Prop}:∀{l:List α}{m:List β}{i:Nat}{b:β},Paired R l m->m[i]?=some b->∃a,l[i]?=some a/\R a b
 |[],m,i,b,h,e=>by cases h;simp at e
 |x::l,_,i,b,h,e=>by
  cases h with
  |cons h1 h2 =>
   cases i with
   |zero=>simp at e;subst e;exact⟨_,rfl,h1⟩
   |succ i=>simpa using gY h2 (by simpa using e)
section
variable {X:Cx}
theorem xR {A:Around}{Q:Bool->Shared->Prop}{E:pH}{s:Bi}{y:V}{c:Bool}{u:Value}(t:C4 y c)(r:aG y u)(h:Q c s):wpAny (model X.prog X.w) A (truthy u) Q E s:=by
 cases y with
 |bl b =>
  cases(show u=Value.bool b from r)
  cases(show c=b from t)
  exact Y9 h
 |int i =>
  obtain⟨k,rfl⟩:=(show ∃k,u=Value.int i k from r)
  cases(show c=(i != 0) from t)
  exact PyProof.Rows.truthy_int h
 |_=>exact t.elim
theorem ip (hc:X.calm=true):cS X (.builtin "all") (λxs H Q=>∃l ys bs,xs=[.ref l]/\bo X.K H l ys/\Paired C4 ys bs/\Q (.bl (bs.all id)) H):=by
 intro pins s σ H xs us Q I r h;obtain⟨l,ys,bs,rfl,hl,hp,q⟩:=h;obtain⟨u,rfl,ru⟩:=dw r
 cases(show u=Value.ref l from ru)
 obtain⟨its,rv,pl,hz⟩:=I.list hl
 have Fy:l<s.heap.objs.size:=by obtain⟨o,n,e,_⟩:=pl;exact Ym e
 refine call_all_walk (Be pl.isList ?_)
 refine⟨s.heap.objs.size,[s.heap.objs.size,l],[s.heap.objs.size],its.toArray.size,_,_,λi=>(bs[i]?).getD true,rfl,Walks.list (A:=X.A.in1) (I.ok.hd hc) _ l (Yr Fy) its.toArray,
  ⟨⟨_,Yk _ rfl,rfl,rfl⟩,pl.isList.push _⟩,λi v s' Q' E' hP hQ=>?_,λh' tk hk=>?_⟩
 ·have e:its[i]?=some v:=by simpa using hP
  obtain⟨y,ey,ry⟩:=gY rv e;obtain⟨b,eb,tb⟩:=bK hp ey;simp only[eb,Option.getD_some] at hQ;exact xR tb ry hQ
 ·have n:its.toArray.size=bs.length:=by rw[Yj,<-rv.length,hp.length]
  have e:((List.range its.toArray.size).all λi=>(bs[i]?).getD true)=bs.all id:=by rw[n];exact LSm.range_all bs
  rw[e];exact⟨.bl (bs.all id),H,I.kept (t':=tk) (LSm.kept_iter hk),rfl,q⟩
end
section
variable {X:Cx}{pins:List (Addr×Obj)}{σ:St}{H:Hp}{s:Bi}{h':Heap}
theorem Inv.adA (I:Inv X pins σ H s){a:Addr}(hp:s.heap.get? a=none):H a=none:=by
 cases q:H a with
 |none=>rfl
 |some u =>
  obtain⟨ob,e1⟩:=(I.hok a u q).there;rw[hp] at e1
  cases e1
theorem Inv.newObj {a:Addr}{o:HO}{t':Nat}(I:Inv X pins σ H s)(k:∀b u,s.heap.get? b=some u->h'.get? b=some u)(hp:s.heap.get? a=none)(new:bD X.prog X.w (upd H a o) h' a o):
 Inv X pins σ (upd H a o) {s with heap:=h',toks:=t'}:=by
 have hn:=I.adA hp
 have nb:∀b u,s.heap.get? b=some u->b≠a:=λb u e z=>by rw[z,hp] at e;cases e
 exact I.un ⟨λb u q _ _ _=>k b u q,λb u q _ _ _=>⟨u.slots,k b u q⟩,λb u q n _=>by rw[aA (nb b u q)];exact n,λb u q _=>⟨u,k b u q⟩,
  λb xs q=>by rw[aA (aB q hn)];exact q,λb u xs q=>by rw[aA (aB q hn)];exact q,λb ps q=>⟨#[],by rw[aA (aB q hn),q];simp⟩⟩ (eY (I.hok.kept k) hn new)
end
end L2
namespace HY
open PySem PySem.W PyProof.Rows
variable {i:Nat}
section
variable {prog:yo}{w:World}{A:Around}{E:pH}{s:Bi}{d it:Addr}{es:Array DictEntry}{ep:Nat}{o:Obj}
structure Raw (h:Heap)(d:Addr)(es:Array DictEntry)(ep:Nat):Prop where
 ex:∃o,h.get? d=some o/\o.ExactDict/\o.data=.dict es ep
theorem Raw.ty (r:Raw s.heap d es ep):s.TypeIs (.ref d) "dict":=let⟨o,h,x,_⟩:=r.ex;⟨o,h,x.1⟩
theorem Raw.keep {h h':Heap}(r:Raw h d es ep)(k:∀o,h.get? d=some o->h'.get? d=some o):Raw h' d es ep:=let⟨o,h1,x⟩:=r.ex;⟨o,k o h1,x⟩
theorem ace {Q:pH}(r:Raw s.heap d es ep)(hd:(d==sysModules)=false)(h:Q (.ref s.heap.objs.size) {s with heap:=s.heap.push {cls:=.type "dict_items",data:=.fields #[.ref d]} }):
 wpAny (model prog w) A (call (.builtin "dict.items") [.ref d]) Q E s:=by
 refine YJ F.slot_dict_items r.ty F.entry_dict_items ?_ (F.args_dict_items_1 _);unfold Builtin.«dict.items» Builtin.Dict.noArgs;refine X9 (X9 (wpAny_notOrdered_dict r.ty (Yb ?_)));show wpAny _ _ (Builtin.Dict.showsAll d>>=_) _ _ s;unfold Builtin.Dict.showsAll;rw[Yd (by rw[hd];exact Yp)];exact X9 (Yb (X9 (YB (Yb ⟨_,rfl,h⟩))))
theorem acf {v:Addr}{Q:pH}(hv:s.heap.IsItemsView v d)(r:Raw s.heap d es ep)
 (hQ:Q (.ref s.heap.objs.size) {s with heap:=s.heap.push {cls:=.type "dict_itemiterator",data:=.fields #[.none,.bool false,.ref d,.int 0 0,.int es.size 0,.int ep 0,.none,.none]} }):wpAny (model prog w) A (pyIter (.ref v)) Q E s:=by
 obtain⟨ov,g1,g2,g3⟩:=id hv;obtain⟨o,h1,h2,h3⟩:=r.ex;refine Aj hv.typeIs F.slot_dict_items_iter (YJ F.slot_dict_items_iter hv.typeIs F.entry_dict_items_iter ?_ (F.args_dict_items_iter_1 _));unfold Builtin.«dict_items.__iter__» Builtin.Dict_items.dictOf;refine X9 (Yb (X9 (X9 (YW g1 g3 (x:=.ref d) rfl (Yb (X9 ?_))))));unfold Builtin.Dict_items.newIterator;refine X9 (yH h1 h3 (X9 (D9 h1 h3 ?_)));simp only[show Builtin.Dict_items.ownsTuple "dict_itemiterator"=true from by decide,ZR];refine YB (Yb ⟨_,rfl,"dict_itemiterator",_,⟨_,Yk _ rfl,rfl⟩,Zy.lookup,?_⟩) (by simp only[sizeOk,Builtin.Dict_items.ownedTupleFields,Yj,Yw,YC,vK,ZX];omega);simpa[rawInt,Builtin.Dict_items.ownedTupleFields] using hQ
theorem acg {ok ov:Value}{Q:Option Value->Shared->Prop}(hit:IsItemIter s.heap it d i es.size ep ok ov)(r:Raw s.heap d es ep)(hi:i<es.size)
 (hQ:∀h',IsItemIterOut h' it d (i+1) es.size ep es[i].key es[i].val s.heap.objs.size->h'.get? s.heap.objs.size=some {cls:=.type "tuple",data:=.seq #[es[i].key,es[i].val]}->h'.objs.size=s.heap.objs.size+1 →
  (∀b o,b≠it->s.heap.get? b=some o->h'.get? b=some o)->Q (some (.ref s.heap.objs.size)) {s with heap:=h'}):wpAny (model prog w) A (pyNext (.ref it)) Q E s:=by
 obtain⟨hp,g,dr,tk,os⟩:=s;obtain⟨o,h1,h2,h3⟩:=r.ex;have hT:Shared.TypeIs ⟨hp,g,dr,tk,os⟩ (.ref it) "dict_itemiterator":=⟨_,hit,rfl⟩;unfold pyNext;refine X9 (ZN (YN (name:=Str.ofString "__next__") hT Zy (YJ Zy hT x8 ?_ (Bg _))));refine X9 (Yb (X9 (X9 ?_)))
 first|refine X9 (ZZ hT (Yb (X9 (ZH hit rfl ?_))))|refine X9 (BZ hT (Yb (X9 (ZH hit rfl ?_))))
 simp only[show Builtin.Dict_items.ownsTuple "dict_itemiterator"=true from by decide,ZR];show wpAny _ _ (if(Value.ref d==Value.none)=true then _ else _) _ _ _;rw[Yd (show ¬((Value.ref d==Value.none)=true) from Yp)];refine X9 (Yb (X9 (yH h1 h3 ?_)));rw[Yd (by simp)];refine X9 (Yb (X9 (D9 h1 h3 ?_)));rw[Yd (by simp)];refine Yb ?_;simp only[show ¬((i:Int)<0) from by omega,Zv,YV,Array.getElem?_eq_getElem hi];refine X9 ?_
 first|refine X9 (ZZ hT (Yb (X9 (jh hT ?_))))|refine X9 (BZ hT (Yb (X9 (jh hT ?_))))
 show wpAny _ _ (setField (.ref it) 3 (rawInt ((i:Int)+1))>>=_) _ _ ⟨hp,g,dr,tk,os⟩;refine X9 (Y0 hit (by simp) λk1 e1 (b1:Heap.SameBut it hp k1)=>?_)
 have q1:IsItemIter k1 it d (i+1) es.size ep ok ov:=by
  unfold IsItemIter;rw[show((i+1:Nat):Int)=(i:Int)+1 by omega];simpa[rawInt] using e1
 have t1:Shared.TypeIs ⟨k1,g,dr,tk,os⟩ (.ref it) "dict_itemiterator":=⟨_,q1,rfl⟩;refine X9 (YY (X9 (jh t1 (X9 (jh t1 ?_)))));show wpAny _ _ (Builtin.Dict_items.pairFromOwner (.ref it) 6 es[i].key es[i].val) _ _ ⟨k1,g,dr,tk,os⟩;unfold Builtin.Dict_items.pairFromOwner;refine X9 (BB ?_);have q2:IsItemIter (k1.push {cls:=.type "tuple",data:=.seq #[es[i].key,es[i].val]}) it d (i+1) es.size ep ok ov:=Yc _ q1;have z1:k1.objs.size=hp.objs.size:=b1.1;have ne:hp.objs.size≠it:=Zz (Ym hit)
 have w2:(k1.push {cls:=.type "tuple",data:=.seq #[es[i].key,es[i].val]}).get? hp.objs.size=some {cls:=.type "tuple",data:=.seq #[es[i].key,es[i].val]}:=by rw[<-z1];exact Yk _ rfl
 have z2:(k1.push {cls:=.type "tuple",data:=.seq #[es[i].key,es[i].val]}).objs.size=hp.objs.size+1:=by rw[Zb,z1]
 have p2:∀b o,b≠it->hp.get? b=some o->(k1.push {cls:=.type "tuple",data:=.seq #[es[i].key,es[i].val]}).get? b=some o:=λb o hb e=>Yc _ (b1.extBut b o hb e);show wpAny _ _ (Builtin.Dict_items.ownedTupleIsFree (.ref it)>>=_) _ _ ⟨k1.push {cls:=.type "tuple",data:=.seq #[es[i].key,es[i].val]},g,dr,tk,os⟩;rw[z1];generalize k1.push {cls:=.type "tuple",data:=.seq #[es[i].key,es[i].val]}=k2 at q2 w2 z2 p2 |-;unfold Builtin.Dict_items.ownedTupleIsFree;refine X9 (X9 (YW q2 rfl (x:=.none) rfl (Yb ?_)));simp only[ZR];refine X9 (YW q2 rfl (x:=ok) rfl (X9 (YW q2 rfl (x:=ov) rfl (X9 (Y0 q2 (by simp) λk3 e3 (b3:Heap.SameBut it k2 k3)=>?_)))));have q3:IsItemIter k3 it d (i+1) es.size ep es[i].key ov:=e3;refine X9 (Y0 q3 (by simp) λk4 e4 (b4:Heap.SameBut it k3 k4)=>?_);have q4:IsItemIter k4 it d (i+1) es.size ep es[i].key es[i].val:=e4;refine X9 (Y0 q4 (by simp) λk5 e5 (b5:Heap.SameBut it k4 k5)=>?_);have q5:IsItemIterOut k5 it d (i+1) es.size ep es[i].key es[i].val hp.objs.size:=e5;refine X9 (Y0 q5 (by simp) λk6 e6 (b6:Heap.SameBut it k5 k6)=>?_);have q6:IsItemIterOut k6 it d (i+1) es.size ep es[i].key es[i].val hp.objs.size:=e6;have go:∀b o,b≠it->k2.get? b=some o->k6.get? b=some o:=λb o hb e=>b6.extBut b o hb (b5.extBut b o hb (b4.extBut b o hb (b3.extBut b o hb e)));exact X9 (ET (Yb (Yb ⟨_,rfl,Yb (hQ k6 q6 (go _ _ ne w2) (by show k6.objs.size=hp.objs.size+1;rw[b6.1,b5.1,b4.1,b3.1,z2]) λb o hb e=>go b o hb (p2 b o hb e))⟩)))
theorem acm {ok ov:Value}{Q:Option Value->Shared->Prop}(hh:A.handled=none)(hit:IsItemIter s.heap it d i es.size ep ok ov)(r:Raw s.heap d es ep)(hi:es.size<=i)
 (hQ:∀h',Heap.ExtBut it s.heap h'->Q none {s with heap:=h'}):wpAny (model prog w) A (pyNext (.ref it)) Q E s:=by
 obtain⟨o,h1,h2,h3⟩:=r.ex;have hT:s.TypeIs (.ref it) "dict_itemiterator":=⟨_,hit,rfl⟩;unfold pyNext;refine X9 (ZN (YN (name:=Str.ofString "__next__") hT Zy (YJ Zy hT x8 ?_ (Bg _))));refine X9 (Yb (X9 (X9 ?_)))
 first|refine X9 (ZZ hT (Yb (X9 (ZH hit rfl ?_))))|refine X9 (BZ hT (Yb (X9 (ZH hit rfl ?_))))
 simp only[show Builtin.Dict_items.ownsTuple "dict_itemiterator"=true from by decide,ZR];show wpAny _ _ (if(Value.ref d==Value.none)=true then _ else _) _ _ _;rw[Yd (show ¬((Value.ref d==Value.none)=true) from Yp)];refine X9 (Yb (X9 (yH h1 h3 ?_)));rw[Yd (by simp)];refine X9 (Yb (X9 (D9 h1 h3 ?_)));rw[Yd (by simp)];refine Yb ?_;simp only[show ¬((i:Int)<0) from by omega,Zv,YV,Zu hi];refine X9 ?_
 first|refine X9 (ZZ hT (Yb ?_))|refine X9 (BZ hT (Yb ?_))
 show wpAny _ _ (setField (.ref it) 2 .none>>=_) _ _ s;refine X9 (ZT hit rfl (by simp) ?_);show wpAny _ _ (newExc (.type "StopIteration") []>>=_) _ _ _;refine X9 ?_;simp only[newExc,newTuple];refine X9 (YB (X9 (m:=firstArgMember _ _) (uZ (a:=Value.none) (by first|rfl|(simp only[firstArgMember];rfl)) (YB ?_ (by size_fits)))) (by size_fits));simp only[raiseNew];refine X9 (nG ?_);rw[show A.in1.handled=none from hh];refine X9 (Yb (wpAny_throw ?_));refine X9 (xy (T:="StopIteration") (b:=true) ⟨_,Yk _ rfl,rfl⟩ qa ?_);exact Yb (hQ _ (((Y1 ..).extBut.push _).push _))
theorem acn {Q:pH}(r:Raw s.heap d es ep)(hd:(d==sysModules)=false)
 (hQ:Q (.ref s.heap.objs.size) {s with heap:=s.heap.push {cls:=.type "dict_keyiterator",data:=.fields #[.ref d,.int 0 0,.int es.size 0,.int ep 0]} }):wpAny (model prog w) A (pyIter (.ref d)) Q E s:=by
 obtain⟨o,h1,h2,h3⟩:=r.ex;refine Aj r.ty F.slot_dict_iter (YJ F.slot_dict_iter r.ty F.entry_dict_iter ?_ (F.args_dict_iter_1 _));unfold Builtin.«dict.__iter__» Builtin.Dict.dictSlotNone;refine X9 (X9 (wpAny_notOrdered_dict r.ty (?_:wpAny _ _ (pure (Value.ref d)) _ _ s)));refine Yb ?_;show wpAny _ _ (Builtin.Dict.showsAll d>>=_) _ _ s;unfold Builtin.Dict.showsAll;rw[Yd (by rw[hd];exact Yp)];refine X9 (Yb (X9 (yH h1 h3 (X9 (D9 h1 h3 (X9 (YB (Yb ⟨_,rfl,"dict_keyiterator",_,⟨_,Yk _ rfl,rfl⟩,ZI.lookup,?_⟩))))))));simpa[rawInt] using hQ
theorem aco {Q:Option Value->Shared->Prop}(hit:s.heap.IsKeyIter it d i es.size ep)(r:Raw s.heap d es ep)(hi:i<es.size)
 (hQ:∀h',h'.IsKeyIter it d (i+1) es.size ep->Heap.SameBut it s.heap h'->Q (some es[i].key) {s with heap:=h'}):wpAny (model prog w) A (pyNext (.ref it)) Q E s:=by
 obtain⟨oi,g1,g2,g3⟩:=id hit;obtain⟨o,h1,h2,h3⟩:=r.ex;have hT:=hit.typeIs;unfold pyNext;refine X9 (ZN (YN (name:=Str.ofString "__next__") hT ZI (YJ ZI hT xV ?_ (xi _))));refine X9 (Yb (X9 (X9 ?_)))
 first|refine X9 (Z4 hT (Yb (X9 (ZH g1 g3 ?_))))|refine X9 (Fq hT (Yb (X9 (ZH g1 g3 ?_))))
 simp only[show Builtin.Dict_items.ownsTuple "dict_keyiterator"=false from by decide,Zl,Zv];show wpAny _ _ (if(Value.ref d==Value.none)=true then _ else _) _ _ _;rw[Yd (show ¬((Value.ref d==Value.none)=true) from Yp)];refine X9 (Yb (X9 (yH h1 h3 ?_)));rw[Yd (by simp)];refine X9 (Yb (X9 (D9 h1 h3 ?_)));rw[Yd (by simp)];refine Yb ?_;simp only[show ¬((i:Int)<0) from by omega,Zv,YV,Array.getElem?_eq_getElem hi];refine X9 ?_
 first|refine X9 (Z4 hT (Yb (X9 (Ai hT ?_))))|refine X9 (Fq hT (Yb (X9 (Ai hT ?_))))
 show wpAny _ _ (setField (.ref it) 1 (rawInt ((i:Int)+1))>>=_) _ _ s;refine X9 (ZT g1 g3 (by simp) ?_);have q1:(s.heap.update it (Obj.mapFields (·.setIfInBounds 1 (rawInt ((i:Int)+1))))).IsKeyIter it d (i+1) es.size ep:=⟨_,Y3 _ g1 (va (ZS g3 _)),(y3 ..).trans g2,by rw[ZS g3];simp[rawInt]⟩;refine X9 (YY (X9 (Ai (s:={s with heap:=s.heap.update it (Obj.mapFields (·.setIfInBounds 1 (rawInt ((i:Int)+1))))}) q1.typeIs (?_:wpAny _ _ (pure es[i].key) _ _ _))));exact Yb (Yb ⟨_,rfl,Yb (hQ _ q1 (Y1 ..))⟩)
theorem acp {Q:Option Value->Shared->Prop}(hh:A.handled=none)(hit:s.heap.IsKeyIter it d i es.size ep)(r:Raw s.heap d es ep)(hi:es.size<=i)
 (hQ:∀h',Heap.ExtBut it s.heap h'->Q none {s with heap:=h'}):wpAny (model prog w) A (pyNext (.ref it)) Q E s:=by
 obtain⟨oi,g1,g2,g3⟩:=id hit;obtain⟨o,h1,h2,h3⟩:=r.ex;have hT:=hit.typeIs;unfold pyNext;refine X9 (ZN (YN (name:=Str.ofString "__next__") hT ZI (YJ ZI hT xV ?_ (xi _))));refine X9 (Yb (X9 (X9 ?_)))
 first|refine X9 (Z4 hT (Yb (X9 (ZH g1 g3 ?_))))|refine X9 (Fq hT (Yb (X9 (ZH g1 g3 ?_))))
 simp only[show Builtin.Dict_items.ownsTuple "dict_keyiterator"=false from by decide,Zl,Zv];show wpAny _ _ (if(Value.ref d==Value.none)=true then _ else _) _ _ _;rw[Yd (show ¬((Value.ref d==Value.none)=true) from Yp)];refine X9 (Yb (X9 (yH h1 h3 ?_)));rw[Yd (by simp)];refine X9 (Yb (X9 (D9 h1 h3 ?_)));rw[Yd (by simp)];refine Yb ?_;simp only[show ¬((i:Int)<0) from by omega,Zv,YV,Zu hi];refine X9 ?_
 first|refine X9 (Z4 hT (Yb ?_))|refine X9 (Fq hT (Yb ?_))
 show wpAny _ _ (setField (.ref it) 0 .none>>=_) _ _ s;refine X9 (ZT g1 g3 (by simp) ?_);show wpAny _ _ (newExc (.type "StopIteration") []>>=_) _ _ _;refine X9 ?_;simp only[newExc,newTuple];refine X9 (YB (X9 (m:=firstArgMember _ _) (uZ (a:=Value.none) (by first|rfl|(simp only[firstArgMember];rfl)) (YB ?_ (by size_fits)))) (by size_fits));simp only[raiseNew];refine X9 (nG ?_);rw[show A.in1.handled=none from hh];refine X9 (Yb (wpAny_throw ?_));refine X9 (xy (T:="StopIteration") (b:=true) ⟨_,Yk _ rfl,rfl⟩ qa ?_);exact Yb (hQ _ (((Y1 ..).extBut.push _).push _))
end
end HY
namespace L2
open PySem PySem.Spec PyProof.Rows PySem.W
noncomputable abbrev nZ (o:Obj)(Ft:List (List Key×V)):HO:=.frz o (.dT Ft)
noncomputable def Es (d:Addr)(o:Obj)(Ft:List (List Key×V)):It :=
 ⟨λi H=>i<Ft.length/\H d=some (nZ o Ft),λi H x H'=>∃p b k v,Ft[i]?=some (k,v)/\H p=none/\H b=some (.tup (k.map kV))/\x=.ref p/\H'=upd H p (.tup [.ref b,v]),λi H=>Ft.length<=i/\H d=some (nZ o Ft)⟩
noncomputable def Ep (d:Addr)(o:Obj)(Ft:List (List Key×V)):It :=
 ⟨λi H=>i<Ft.length/\H d=some (nZ o Ft),λi H x H'=>∃b k v,Ft[i]?=some (k,v)/\H b=some (.tup (k.map kV))/\x=.ref b/\H'=H,λi H=>Ft.length<=i/\H d=some (nZ o Ft)⟩
theorem kb {α β:Type}{R:α->β->Prop}:∀{l:List α}{m:List β}{i:Nat}{a:α},Paired R l m->l[i]?=some a->∃b,m[i]?=some b/\R a b
 |_,_,_,_,.nil,e=>by simp at e
 |_,_,0,_,.cons r _,e=>by simp at e;subst e;exact⟨_,rfl,r⟩
 |_,_,i+1,a,.cons _ t,e=>by
  obtain⟨b,h1,h2⟩:=kb (i:=i) (a:=a) t (by simpa using e);exact⟨b,by simpa using h1,h2⟩
section
variable {X:Cx}{pins:List (Addr×Obj)}{σ:St}{H:Hp}{s:Bi}{d:Addr}{o:Obj}{Ft:List (List Key×V)}
theorem iL (I:Inv X pins σ H s)(e:H d=some (nZ o Ft)):∃es ep,o.data=.dict es ep/\HY.Raw s.heap d es ep/\es.size=Ft.length/\(d==sysModules)=false /\
 ∀(i:Nat)(hi:i<es.size) k v,Ft[i]?=some (k,v)->∃b,es[i].key=.ref b/\H b=some (.tup (k.map kV))/\aG v es[i].val:=by
 obtain⟨h0,z,y,xs,r,o',es,ep,h1,h2,h3,h4,h5⟩:=(show bD X.prog X.w H s.heap d (nZ o Ft) from I.hok d _ e);rw[h0] at h1
 cases h1
 have hl:es.size=Ft.length:=by
  rw[<-Yz,h4,Yg];exact(xN r).symm
 refine⟨es,ep,h3,⟨_,h0,h2,h3⟩,hl,y,λi hi k v hk=>?_⟩;obtain⟨q,hq,e1,e2,e3⟩:=kb r hk
 have z1:es.toList[i]?=some (entryOfKey (tupleKind (bX X.prog X.w)) q):=by rw[h4,YU,hq];rfl
 have z2:es[i]=entryOfKey (tupleKind (bX X.prog X.w)) q:=by
  have z3:es.toList[i]?=some es[i]:=by simp[hi]
  rw[z3] at z1;exact Option.some.inj z1
 rw[z2];exact⟨q.2.1,rfl,e2,e3⟩
theorem Inv.freeze (I:Inv X pins σ H s)(e:H d=some (.dT Ft)):∃o,s.heap.get? d=some o/\Inv X pins σ (upd H d (nZ o Ft)) s:=by
 obtain⟨z,y,xs,r,o,es,ep,h1,h2⟩:=(show bD X.prog X.w H s.heap d (.dT Ft) from I.hok d _ e);refine⟨o,h1,I.write (t':=s.toks) (h':=s.heap) (x:=d) (e:=d) (o:=nZ o Ft) (by rw[e];exact True.intro) (.inl rfl) (λ_ _ _ q=>q) ⟨o,h1⟩ ⟨h1,z,y,xs,?_,o,es,ep,h1,h2⟩⟩;exact Paired.adn r λp q w=>⟨w.1,by rw[aA (A8 w.2.1 e (by intro z;cases z))];exact w.2.1,w.2.2⟩
end
variable {P:yo}{w:World}{K:Frag}{elts:wI}{x1:Nat}{tp:Pos}
theorem acs (d it:Addr)(o:Obj)(Ft:List (List Key×V))(es:Array DictEntry)(ep:Nat)(ho:o.data=.dict es ep):Turn P w K (.Tuple elts x1 tp) (Es d o Ft) [it] it (λi h=>∃ok ov,IsItemIter h it d i es.size ep ok ov) where
 mem:=by simp
 obj:=λi h st b hb=>by
  have e:b=it:=by simpa using hb
  subst e;obtain⟨ok,ov,e⟩:=st;exact⟨_,e,λv z=>by cases z⟩
 keep:=λi h h' st k=>let⟨ok,ov,e⟩:=st;⟨ok,ov,k it (by simp) _ e⟩
 item:=by
  intro X hP hw hK hc i pins s σ H E I hf st hg;subst hP hw hK;obtain⟨Fy,hd⟩:=hg;obtain⟨ok,ov,hit⟩:=st;obtain⟨es',IL,F0,raw,hl,hm,Km⟩:=iL I hd;rw[ho] at F0
  cases F0
  obtain⟨f0,f1,f2,f3,f4,f5⟩:=hf it (by simp)
  have hi:i<es.size:=by omega
  refine HY.acg hit raw hi λh' q1 q2 q3 q4=>?_;obtain⟨⟨k,v⟩,hk⟩:∃kv,Ft[i]?=some kv:=⟨Ft[i],by simp[Fy]⟩;obtain⟨b,eb,hb,rv⟩:=Km i hi k v hk;refine⟨_,rfl,wpAny_letOwnedTupleGo_items (s:={s with heap:=h'}) q1 λh2 q5 q6=>?_⟩;have Ie:s.heap.objs.size≠it:=Zz (Ym hit);have I1:Inv X pins σ H {s with heap:=h2}:=I.turned (t':=s.toks) (λb o hb e=>(q6.2 b hb).trans (q4 b o hb e)) f0 f1 f3 f4 f5;have tup:h2.get? s.heap.objs.size=some {cls:=.type "tuple",data:=.seq #[es[i].key,es[i].val]}:=(q6.2 _ Ie).trans q2;have fr:H s.heap.objs.size=none:=I.hok.fresh (Ye _)
  have I2:Inv X pins σ (upd H s.heap.objs.size (.tup [.ref b,v])) {s with heap:=h2}:=by
   refine⟨I1.ok,I1.os,I1.bare,?_,I1.loc,I1.cell,?_,λx c e=>?_,λp hp=>?_,eY I1.hok fr ⟨by show 2<=sizeLine;decide,[.ref b,es[i].val],.cons rfl (.cons rv .nil),?_⟩,I1.len⟩
   ·have u:=I1.base;refine⟨u.keep,u.slot,λb' o' e n hx=>?_,u.there,λb' xs e=>?_,λb' o' u' e=>?_,λb' ps e=>?_⟩
    ·have ne:b'≠s.heap.objs.size:=Yr (Ys (Ym e) I.sz);rw[aA ne];exact u.free b' o' e n hx
    ·rw[aA (aB (u.acK b' xs e) fr)];exact u.acK b' xs e
    ·rw[aA (aB (u.acH b' o' u' e) fr)];exact u.acH b' o' u' e
    ·obtain⟨m,q⟩:=u.acO b' ps e;exact⟨m,by rw[aA (aB q fr)];exact q⟩
   ·rw[aA (Yr I.lt)];exact I1.free
   ·obtain⟨v',q⟩:=I.cell x c e;rw[aA (Yr q.lt)];exact I1.acI x c e
   ·obtain⟨e,n,r⟩:=I1.pin p hp;have lt:p.1<s.heap.objs.size:=Ym (I.pin p hp).1;exact⟨e,by rw[aA (Yr lt)];exact n,r⟩
   ·exact⟨_,tup,rfl,0,by rw[<-eb]⟩
  refine⟨.ref s.heap.objs.size,_,I2,rfl,⟨s.heap.objs.size,b,k,v,hk,fr,hb,rfl,rfl⟩,⟨_,_,q5⟩,λb' FZ=>?_⟩
  have e:b'=it:=by simpa using FZ
  subst e;rw[aA (YM Ie)];exact f0
 done:=by
  intro X hP hw hK hc i pins s σ H E I hf st hg;subst hP hw hK;obtain⟨Fy,hd⟩:=hg;obtain⟨ok,ov,hit⟩:=st;obtain⟨es',IL,F0,raw,hl,hm,Km⟩:=iL I hd;rw[ho] at F0
  cases F0
  obtain⟨f0,f1,f2,f3,f4,f5⟩:=hf it (by simp);exact HY.acm (I.ok.hd hc) hit raw (by omega) λh' eb=>⟨rfl,I.turned (t':=s.toks) (λb o hb e=>eb b o hb e) f0 f1 f3 f4 f5⟩
 self:=λA i s Q E st h=>by
  obtain⟨ok,ov,hit⟩:=st;exact kcp_self hit h
theorem acu {tg:Expr}(d it:Addr)(o:Obj)(Ft:List (List Key×V))(es:Array DictEntry)(ep:Nat)(ho:o.data=.dict es ep):Turn P w K tg (Ep d o Ft) [it] it (λi h=>h.IsKeyIter it d i es.size ep) where
 mem:=by simp
 obj:=λi h st b hb=>by
  have e:b=it:=by simpa using hb
  subst e;obtain⟨o,e,c,d⟩:=st;exact⟨o,e,λv z=>by rw[d] at z;cases z⟩
 keep:=λi h h' st k=>st.at λo e=>k it (by simp) o e
 item:=by
  intro X hP hw hK hc i pins s σ H E I hf st hg;subst hP hw hK;obtain⟨Fy,hd⟩:=hg;obtain⟨es',IL,F0,raw,hl,hm,Km⟩:=iL I hd;rw[ho] at F0
  cases F0
  obtain⟨f0,f1,f2,f3,f4,f5⟩:=hf it (by simp)
  have hi:i<es.size:=by omega
  refine HY.aco st raw hi λh' q1 q2=>?_;obtain⟨⟨k,v⟩,hk⟩:∃kv,Ft[i]?=some kv:=⟨Ft[i],by simp[Fy]⟩;obtain⟨b,eb,hb,rv⟩:=Km i hi k v hk;have I1:Inv X pins σ H {s with heap:=h'}:=I.turned (t':=s.toks) (λb o hb e=>(q2.2 b hb).trans e) f0 f1 f3 f4 f5;obtain⟨oi,e,c,dd⟩:=id q1;exact⟨_,rfl,ub (s:={s with heap:=h'}) e c dd (by decide) ⟨.ref b,H,I1,eb,⟨b,k,v,hk,hb,rfl,rfl⟩,q1,λb hb=>(hf b hb).1⟩⟩
 done:=by
  intro X hP hw hK hc i pins s σ H E I hf st hg;subst hP hw hK;obtain⟨Fy,hd⟩:=hg;obtain⟨es',IL,F0,raw,hl,hm,Km⟩:=iL I hd;rw[ho] at F0
  cases F0
  obtain⟨f0,f1,f2,f3,f4,f5⟩:=hf it (by simp);exact HY.acp (I.ok.hd hc) st raw (by omega) λh' eb=>⟨rfl,I.turned (t':=s.toks) (λb o hb e=>eb b o hb e) f0 f1 f3 f4 f5⟩
 self:=λ_ _ _ _ _ st h=>wpAny_pyIter_keyiter st h
noncomputable def EO (H1:Hp)(d:Addr)(Ft:List (List Key×V))(R:Obj->Hp->Prop):Prop:=(∃o,H1 d=some (nZ o Ft)/\R o H1)\/(H1 d=some (.dT Ft)/\∀o,R o (upd H1 d (nZ o Ft)))
noncomputable def acv (td:TE):TI:=λσ H R=>td σ H λx H1=>∃d Ft,x=.ref d/\EO H1 d Ft λo H2=>R (Es d o Ft) H2
noncomputable def acw (td:TE):TI:=λσ H R=>td σ H λx H1=>∃d Ft,x=.ref d/\EO H1 d Ft λo H2=>R (Ep d o Ft) H2
section
variable {X:Cx}{pins:List (Addr×Obj)}{σ:St}{H:Hp}{s:Bi}
theorem wu {d:Addr}{Ft:List (List Key×V)}{R:Obj->Hp->Prop}(I:Inv X pins σ H s)(h:EO H d Ft R):∃o H2,Inv X pins σ H2 s/\H2 d=some (nZ o Ft)/\R o H2:=by
 rcases h with⟨o,e,r⟩|⟨e,r⟩
 ·exact⟨o,H,I,e,r⟩
 ·obtain⟨o,_,I2⟩:=I.freeze e;exact⟨o,_,I2,ai,r o⟩
theorem acx {oe:Expr}{td:TE}{apos FF:Pos}(ho:PE X oe td)(G7:attributeBase oe "items" X.env (eval oe X.env)=eval oe X.env:=by rfl)(G8:(apos.endLine==FF.line)=true:=by rfl):
 PI X (.Tuple elts x1 tp) (.Call (.Attribute oe "items" apos) [] [] FF) (acv td):=by
 intro pins s σ H R I h;refine wpAny_Call_method0_late G7 G8 (bO (ho pins s σ H _ I h) λv s1 z'=>?_);obtain⟨x,H1,I1,r1,d,Ft,ex,fz⟩:=z';subst ex
 cases(show v=Value.ref d from r1)
 obtain⟨o,H2,I2,hd,rr⟩:=wu I1 fz;obtain⟨es,ep,N4,raw,hl,hm,_⟩:=iL I2 hd;refine⟨"dict","dict.items",PySem.F.plainAttrs_dict,PySem.F.slot_dict_items,PySem.F.type_dict_items,raw.ty,λa e=>?_,zC rfl (PySem.evalArgs_none (HY.ace raw hm ?_))⟩
 ·cases e
  obtain⟨o',h1,h2,_⟩:=raw.ex;exact⟨o',h1,h2.2.1⟩
 ·have I3:Inv X pins σ H2 {s1 with heap:=s1.heap.push {cls:=.type "dict_items",data:=.fields #[.ref d]} }:=I2.kept (t':=s1.toks) λb ob q=>Yc _ q;refine HY.acf (s:={s1 with heap:=s1.heap.push {cls:=.type "dict_items",data:=.fields #[.ref d]} }) ⟨_,Yk _ rfl,rfl,rfl⟩ (raw.keep λo e=>Yc _ e) ?_;generalize s1.heap.push {cls:=.type "dict_items",data:=.fields #[.ref d]}=h2 at I3 |-;refine⟨h2.objs.size,[h2.objs.size],_,Es d o Ft,H2,rfl,I3.kept (t':=s1.toks) λb ob q=>Yc _ q,acs d _ o Ft es ep N4,⟨_,_,Yk _ rfl⟩,λb hb=>?_,rr⟩
  have e:b=h2.objs.size:=by simpa using hb
  subst e;exact I3.ada (Ye _) (I3.hok.fresh (Ye _))
theorem acy {tg oe:Expr}{td:TE}(ho:PE X oe td):PI X tg oe (acw td):=by
 intro pins s σ H R I h;refine bO (ho pins s σ H _ I h) λv s1 z'=>?_;obtain⟨x,H1,I1,r1,d,Ft,ex,fz⟩:=z';subst ex
 cases(show v=Value.ref d from r1)
 obtain⟨o,H2,I2,hd,rr⟩:=wu I1 fz;obtain⟨es,ep,N4,raw,hl,hm,_⟩:=iL I2 hd;refine HY.acn raw hm ⟨s1.heap.objs.size,[s1.heap.objs.size],_,Ep d o Ft,H2,rfl,I2.kept (t':=s1.toks) λb ob q=>Yc _ q,acu d _ o Ft es ep N4,⟨_,Yk _ rfl,rfl,rfl⟩,λb hb=>?_,rr⟩
 have e:b=s1.heap.objs.size:=by simpa using hb
 subst e;exact I2.ada (Ye _) (I2.hok.fresh (Ye _))
theorem Inv.aeb {s2:Bi}{T:Addr}{xs:List V}{its:nN}(I:Inv X pins σ H s)(I1:Inv X pins σ H s2)(hT:s.heap.objs.size<=T)(e:s2.heap.get? T=some {cls:=.type "tuple",data:=.seq its.toArray})(r:aR xs its)(hz:xs.length<=sizeLine):
 Inv X pins σ (upd H T (.tup xs)) s2:=by
 have fr:H T=none:=I.hok.fresh hT;refine⟨I1.ok,I1.os,I1.bare,?_,I1.loc,I1.cell,?_,λx c e=>?_,λp hp=>?_,eY I1.hok fr ⟨hz,its,r,⟨_,e,rfl,0,rfl⟩⟩,I1.len⟩
 ·have u:=I1.base;refine⟨u.keep,u.slot,λb' o' e n hx=>?_,u.there,λb' xs e=>?_,λb' o' u' e=>?_,λb' ps e=>?_⟩
  ·have ne:b'≠T:=Yr (Ys (Ym e) (Yq I.sz hT));rw[aA ne];exact u.free b' o' e n hx
  ·rw[aA (aB (u.acK b' xs e) fr)];exact u.acK b' xs e
  ·rw[aA (aB (u.acH b' o' u' e) fr)];exact u.acH b' o' u' e
  ·obtain⟨m,q⟩:=u.acO b' ps e;exact⟨m,by rw[aA (aB q fr)];exact q⟩
 ·rw[aA (Yr (Ys I.lt hT))];exact I1.free
 ·obtain⟨v',q⟩:=I.cell x c e;rw[aA (Yr (Ys q.lt hT))];exact I1.acI x c e
 ·obtain⟨e,n,r⟩:=I1.pin p hp;have lt:p.1<s.heap.objs.size:=Ym (I.pin p hp).1;exact⟨e,by rw[aA (Yr (Ys lt hT))];exact n,r⟩
theorem Inv.adg {h':Heap}{t':Nat}{ch:List Addr}(I:Inv X pins σ H s)(k:∀b o,b∉ch->s.heap.get? b=some o->h'.get? b=some o)(hf:∀b∈ch,c8 X pins H b):Inv X pins σ H {s with heap:=h',toks:=t'}:=by
 have Ie:∀b u,H b=some u->b∉ch:=λb u e z=>by rw[(hf b z).1] at e;cases e
 refine I.step (g':=s.gens) (d':=s.drawn) (ch:=ch) (λb hb=>?_) (λb o _ _ hc e _=>k b o hc e) (λb o _ _ hc e _=>⟨o.slots,k b o hc e⟩) (λ_ _ _ _ n=>n)
  (λb o hc e=>⟨o,k b o hc e⟩) (λ_ _ e=>e) (λ_ _ _ e=>e) (λb ps e=>⟨#[],by rw[e];simp⟩) (λm hm=>?_) (λb u e=>?_) I.bare
 ·obtain⟨f0,f1,f2,f3,f4,f5⟩:=hf b hb;exact⟨f3,f1,f4,f5⟩
 ·obtain⟨o,es,ep,ho,r⟩:=hm;exact⟨o,es,ep,k _ o (λz=>(hf _ z).2.1 rfl) ho,r⟩
 ·refine(I.hok b u e).adk (λc v hc q=>k c v ?_ q) (λ_ q=>q) λ_ _ q=>q
  rcases hc with z|z
  ·rw[z];exact Ie b u e
  ·exact Ie c _ z
end
noncomputable def ES (K:Frag)(a:Addr):It :=
 ⟨λi H=>∃xs x,bo K H a xs/\xs[i]?=some x,λi H x H'=>∃T y,(∀xs,bo K H a xs->xs[i]?=some y)/\H T=none/\x=.ref T/\H'=upd H T (.tup [.int i,y]),λi H=>∃xs,bo K H a xs/\xs.length<=i⟩
theorem acz (a e it:Addr)(F2:e≠it):Turn P w K (.Tuple elts x1 tp) (ES K a) [e,it] e (λi h=>∃old,IsEnum h e it i old/\h.IsListIter it a i) where
 mem:=by simp
 obj:=λi h st b hb=>by
  obtain⟨old,h1,o,h2,_,h3⟩:=st
  rcases(by simpa using hb:b=e\/b=it) with z|z
  ·subst z;exact⟨_,h1,λv z=>by cases z⟩
  ·subst z;exact⟨o,h2,λv z=>by rw[h3] at z;cases z⟩
 keep:=λi h h' st k=>let⟨old,h1,h2⟩:=st;⟨old,k e (by simp) _ h1,h2.at λo q=>k it (by simp) o q⟩
 item:=by
  intro X hP hw hK hc i pins s σ H E I hf st hg;subst hP hw hK;obtain⟨xs,x,hq,hx⟩:=hg;obtain⟨its,rv,p,hz⟩:=I.list hq;obtain⟨u,hu,ru⟩:=rv.get hx;obtain⟨old,he,hit⟩:=st;refine wpAny_pyNext_enum_item he hit p.isList (x:=u) (by simpa using hu) F2 λh' q1 q2 q3 q4 q5=>?_;refine⟨_,rfl,wpAny_letOwnedTupleGo_enum (s:={s with heap:=h',toks:=s.toks+1}) q1 λh2 q6 q7=>?_⟩;have Q0:s.heap.objs.size≠e:=Zz (Ym he)
  have I1:Inv X pins σ H {s with heap:=h2,toks:=s.toks+1}:=I.adg (t':=s.toks+1) (ch:=[e,it]) (λb o hb z=>by
   have FZ:b≠e/\b≠it:=by simpa using hb
   exact(q7.2 b FZ.1).trans (q5 b o FZ.1 FZ.2 z)) hf
  have tup:h2.get? s.heap.objs.size=some {cls:=.type "tuple",data:=.seq #[.int i s.toks,u]}:=(q7.2 _ Q0).trans q3;have fr:H s.heap.objs.size=none:=I.hok.fresh (Ye _);have I2:=I.aeb (xs:=[.int i,x]) (its:=[.int i s.toks,u]) I1 (Ye _) tup (.cons ⟨_,rfl⟩ (.cons ru .nil)) hJ;refine⟨.ref s.heap.objs.size,_,I2,rfl,⟨s.heap.objs.size,x,λys hy=>by rw[I.ac4 hy hq];exact hx,fr,rfl,rfl⟩,⟨u,q6,q2.at λo q=>(q7.2 _ (YM F2)).trans q⟩,λb hb=>?_⟩
  have nb:b≠s.heap.objs.size:=by
   rcases(by simpa using hb:b=e\/b=it) with z|z
   ·subst z;exact YM Q0
   ·subst z;obtain⟨o,q,_⟩:=hit;exact Yr (Ym q)
  rw[aA nb];exact(hf b hb).1
 done:=by
  intro X hP hw hK hc i pins s σ H E I hf st hg;subst hP hw hK;obtain⟨xs,hq,hx⟩:=hg;obtain⟨its,rv,p,hz⟩:=I.list hq;have hl:=rv.length;obtain⟨old,he,hit⟩:=st;obtain⟨f0,f1,f2,f3,f4,f5⟩:=hf it (by simp);exact wpAny_pyNext_enum_end (I.ok.hd hc) he hit p.isList (by simp;omega) λh' eb=>⟨rfl,I.turned (t':=s.toks) (λb o hb e=>eb b o hb e) f0 f1 f3 f4 f5⟩
 self:=λ_ _ _ _ _ st h=>let⟨old,h1,_⟩:=st;wpAny_pyIter_enum h1 h
noncomputable def adL (K:Frag)(tl:TE):TI:=λσ H R=>bq tl Co σ H λvs H1=>∃a xs,vs=[.ref a]/\bo K H1 a xs/\R (ES K a) H1
theorem ac6 {X:Cx}{l:Expr}{tl:TE}{p pos:Pos}(hl:PE X l tl)(hg:Gl X "enumerate")(hm:X.mg "enumerate"=none)(hs:fZ l=false:=by rfl):
 PI X (.Tuple elts x1 tp) (.Call (.Name "enumerate" p) [l] [] pos) (adL X.K tl):=by
 intro pins s σ H R I h;refine Y6 (eI I hg hm (by rfl) ?_ (by decide) (by decide));refine Z8 (bO (aj hl ag hs pos pins s σ H _ I h) λus s1 z'=>?_) (bz hs) rfl;obtain⟨vs,H1,I1,r1,a,xs,hv,hq,rr⟩:=z';subst hv;obtain⟨u,rfl,ru⟩:=dw r1
 cases(show u=Value.ref a from ru)
 obtain⟨its,rv,pl,hz⟩:=I1.list hq;refine call_enumerate_list pl.isList λh' q1 q2 q3 q4=>?_;have I2:Inv X pins σ H1 {s1 with heap:=h'}:=I1.kept (t':=s1.toks) q4;refine wpAny_pyIter_enum (s:={s1 with heap:=h'}) q1 ?_;refine⟨s1.heap.objs.size+1,[s1.heap.objs.size+1,s1.heap.objs.size],_,ES X.K a,H1,rfl,I2,acz a _ _ (u3 _),⟨_,q1,q2⟩,λb hb=>?_,rr⟩
 have FZ:s1.heap.objs.size<=b:=by
  rcases(by simpa using hb:b=s1.heap.objs.size+1\/b=s1.heap.objs.size) with z|z
  ·rw[z];exact vO _
  ·rw[z];exact Ye _
 exact I1.ada FZ (I1.hok.fresh FZ)
end L2
namespace Zp
open PySem PyProof.Rows
section
variable {prog:yo}{w:World}{A:Around}{E:pH}{s:Bi}
theorem kK {it t:Addr}{i:Nat}{items:Cu}{x:Value}{Q:pH}(hit:s.heap.IsTupleIter it t i)(ht:s.heap.IsTuple t items)(hx:items[i]?=some x)
 (hQ:∀h',h'.IsTupleIter it t (i+1)->Heap.SameBut it s.heap h'->Q x {s with heap:=h'}):wpAny (model prog w) A (Builtin.SmallTypes.nextOf (.ref it)) Q E s:=by
 obtain⟨o,ho,hc,hd⟩:=id hit;obtain⟨ol,Kn,_,nl,N5⟩:=ht;unfold Builtin.SmallTypes.nextOf;refine X9 (YN (name:=Str.ofString "__next__") hit.typeIs lA (YJ lA hit.typeIs F.entry_tuple_iterator_next ?_ (Er _)));show wpAny _ _ (field (.ref it) 0>>=_) _ _ s;refine X9 (YW ho hd (x:=.ref t) rfl ?_);show wpAny _ _ (if(Value.ref t==Value.none)=true then _ else _) _ _ s;rw[Yd (show ¬((Value.ref t==Value.none)=true) from Yp)];show wpAny _ _ (field (.ref it) 1>>=_) _ _ s;refine X9 (YW ho hd (x:=.int i 0) rfl ?_);show wpAny _ _ (seqItems? (.ref t)>>=_) _ _ s;refine X9 (Zj Kn N5 ?_);simp only[YV,hx];refine X9 (ZT ho hd (by simp) (Yb ⟨x,rfl,Yb (hQ _ ?_ (Y1 ..))⟩));exact⟨_,Y3 _ ho (va (ZS hd _)),(y3 ..).trans hc,by rw[ZS hd];simp[rawInt]⟩
theorem sv {it t:Addr}{i:Nat}{items:Cu}{Q:pH}(hh:A.handled=none)(hit:s.heap.IsTupleIter it t i)(ht:s.heap.IsTuple t items)(hx:items[i]?=none)
 (hE:∀h' e,Heap.ExtBut it s.heap h'->(∃o,h'.get? e=some o/\o.cls=.type "StopIteration")->E (.ref e) {s with heap:=h'}):wpAny (model prog w) A (Builtin.SmallTypes.nextOf (.ref it)) Q E s:=by
 obtain⟨o,ho,hc,hd⟩:=id hit;obtain⟨ol,Kn,_,nl,N5⟩:=ht;unfold Builtin.SmallTypes.nextOf;refine X9 (YN (name:=Str.ofString "__next__") hit.typeIs lA (YJ lA hit.typeIs F.entry_tuple_iterator_next ?_ (Er _)));show wpAny _ _ (field (.ref it) 0>>=_) _ _ s;refine X9 (YW ho hd (x:=.ref t) rfl ?_);show wpAny _ _ (if(Value.ref t==Value.none)=true then _ else _) _ _ s;rw[Yd (show ¬((Value.ref t==Value.none)=true) from Yp)];show wpAny _ _ (field (.ref it) 1>>=_) _ _ s;refine X9 (YW ho hd (x:=.int i 0) rfl ?_);show wpAny _ _ (seqItems? (.ref t)>>=_) _ _ s;refine X9 (Zj Kn N5 ?_);simp only[YV,hx];refine X9 (Fp (X9 (ZT ho hd (by simp) ?_)));show wpAny _ _ (newExc (.type "StopIteration") []>>=_) _ _ _;refine X9 ?_;simp only[newExc,newTuple];refine X9 (YB ?_ (by size_fits));refine X9 (m:=firstArgMember _ _) (uZ (a:=Value.none) (by first|rfl|(simp only[firstArgMember];rfl)) ?_);refine YB ?_ (by size_fits);simp only[raiseNew];refine X9 (nG ?_)
 first|rw[show A.in1.handled=none from hh]|rw[hh]
 refine X9 (Yb (wpAny_throw ?_));exact hE _ _ (((Y1 ..).extBut.push _).push _) ⟨_,Yk _ rfl,rfl⟩
end
structure Apart (z TI TO i1 i2 l1 l2:Addr):Prop where
 TIz:TI≠z
 TOz:TO≠z
 i1z:i1≠z
 i2z:i2≠z
 TITO:TI≠TO
 TIi1:TI≠i1
 TIi2:TI≠i2
 TOi1:TO≠i1
 TOi2:TO≠i2
 i12:i1≠i2
 l1n:l1 ∉ [z,TO,i1,i2]
 l2n:l2 ∉ [z,TO,i1,i2]
structure Zs (h:Heap)(z TI TO i1 i2 l1 l2:Addr)(k:Nat):Prop where
 hz:IsZip h z TI TO .none
 hTI:IsPair h TI (.ref i1) (.ref i2)
 Na:∃a b,IsPair h TO a b
 h1:h.IsTupleIter i1 l1 k
 h2:h.IsTupleIter i2 l2 k
theorem gm {h h':Heap}{i l:Addr}{k:Nat}(x:h.IsTupleIter i l k)(q:∀o,h.get? i=some o->h'.get? i=some o):h'.IsTupleIter i l k:=let⟨o,a,b⟩:=x;⟨o,q o a,b⟩
section
variable {prog:yo}{w:World}{A:Around}{E:pH}{s:Bi}{z TI TO i1 i2 l1 l2:Addr}{k:Nat}{xs ys:Cu}{x y:Value}
theorem item {Q:pH}(D:Apart z TI TO i1 i2 l1 l2)(Z:Zs s.heap z TI TO i1 i2 l1 l2 k)(Gk:s.heap.IsTuple l1 xs)(GV:s.heap.IsTuple l2 ys)(hx:xs[k]?=some x)(hy:ys[k]?=some y)
 (hQ:∀h',IsZip h' z TI TO (rawInt s.heap.objs.size)->(∃a b,IsPair h' TO a b)->h'.IsTupleIter i1 l1 (k+1)->h'.IsTupleIter i2 l2 (k+1)->IsPair h' s.heap.objs.size x y →
  (∀c o,c ∉ [z,TO,i1,i2]->s.heap.get? c=some o->h'.get? c=some o)->Q (.ref s.heap.objs.size) {s with heap:=h'}):
 wpAny (model prog w) A (Builtin.«zip.__next__» ⟨[.ref z],[]⟩) (λfin s'=>∃v,fin=.done (.ret v)/\Q v s') E s:=by
 obtain⟨hz,hTI,⟨a,b,Na⟩,h1,h2⟩:=Z
 have n1:l1≠z/\l1≠TO/\l1≠i1/\l1≠i2:=by simpa using D.l1n
 have n2:l2≠z/\l2≠TO/\l2≠i1/\l2≠i2:=by simpa using D.l2n
 show wpAny _ _ (field (.ref z) 2>>=_) _ _ _;refine X9 (YW hz rfl (x:=.bool false) rfl ?_);show wpAny _ _ (field (.ref z) 3>>=_) _ _ _;refine X9 (YW hz rfl (x:=.ref TI) rfl ?_);refine X9 (Zj hTI rfl ?_);show wpAny _ _ (Builtin.SmallTypes.ownedTupleIsFree (.ref z)>>=_) _ _ _;refine X9 ?_;unfold Builtin.SmallTypes.ownedTupleIsFree;refine X9 (YW hz rfl (x:=.none) rfl (Yb ?_));simp only[ZR];refine X9 (Fp ?_);refine X9 (YW hz rfl (x:=.ref TO) rfl ?_);refine X9 (Y0 hz (by simp) λg1 HM s1=>?_)
 replace HM:IsZip g1 z TI TO .ellipsis:=HM
 refine X9 ?_;simp only[List.zipIdx_cons,List.zipIdx_nil,Bj,List.forIn_nil];refine X9 (X9 (uK ?_));show wpAny _ _ (Builtin.SmallTypes.nextOf (.ref i1)>>=_) _ _ _;refine X9 (kK (h1.extBut s1.extBut D.i1z) (Gk.extBut s1.extBut n1.1) hx λg2 a2 s2=>Yb ?_);have t2:IsPair g2 TO a b:=s2.extBut _ _ D.TOi1 (s1.extBut _ _ D.TOz Na);refine X9 (Zj t2 rfl ?_);refine X9 (rL t2 λg3 t3 s3=>?_)
 replace t3:IsPair g3 TO x b:=t3
 refine X9 (ET (Yb ?_));refine X9 (X9 (uK ?_));show wpAny _ _ (Builtin.SmallTypes.nextOf (.ref i2)>>=_) _ _ _;refine X9 (kK (((h2.extBut s1.extBut D.i2z).extBut s2.extBut D.i12.symm).extBut s3.extBut D.TOi2.symm) (((GV.extBut s1.extBut n2.1).extBut s2.extBut n2.2.2.1).extBut s3.extBut n2.2.1) hy λg4 a4 s4=>Yb ?_);have t4:IsPair g4 TO x b:=s4.extBut _ _ D.TOi2 t3;refine X9 (Zj t4 rfl ?_);refine X9 (rL t4 λg5 t5 s5=>?_)
 replace t5:IsPair g5 TO x y:=t5
 refine X9 (ET (Yb (Yb ?_)));refine X9 (Zj t5 rfl ?_);refine X9 (BB ?_)
 have sz:g5.objs.size=s.heap.objs.size:=by rw[s5.1,s4.1,s3.1,s2.1,s1.1]
 have z5:IsZip g5 z TI TO .ellipsis:=s5.extBut _ _ D.TOz.symm (s4.extBut _ _ D.i2z.symm (s3.extBut _ _ D.TOz.symm (s2.extBut _ _ D.i1z.symm HM)))
 have k5:∀c o,c ∉ [z,TO,i1,i2]->s.heap.get? c=some o->g5.get? c=some o:=λc o hc e=>by
  have FU:c≠z/\c≠TO/\c≠i1/\c≠i2:=by simpa using hc
  exact s5.extBut _ _ FU.2.1 (s4.extBut _ _ FU.2.2.2 (s3.extBut _ _ FU.2.1 (s2.extBut _ _ FU.2.2.1 (s1.extBut _ _ FU.1 e))))
 have a5:g5.IsTupleIter i1 l1 (k+1):=((a2.extBut s3.extBut D.TOi1.symm).extBut s4.extBut D.i12).extBut s5.extBut D.TOi1.symm;have b5:g5.IsTupleIter i2 l2 (k+1):=a4.extBut s5.extBut D.TOi2.symm;have Q1:z<g5.objs.size:=Ym z5;show wpAny _ _ (Builtin.SmallTypes.ownedTupleHandOut (.ref z) (.ref g5.objs.size)>>=_) _ _ _;refine X9 ?_;unfold Builtin.SmallTypes.ownedTupleHandOut;have z6:IsZip (g5.push {cls:=.type "tuple",data:=.seq #[x,y]}) z TI TO .ellipsis:=Yc _ z5;refine X9 (Y0 z6 (by simp) λg7 z7 s7=>?_)
 replace z7:IsZip g7 z TI TO (rawInt g5.objs.size):=z7
 refine Y0 z7 (by simp) λg8 z8 s8=>?_
 replace z8:IsZip g8 z TI TO (rawInt g5.objs.size):=z8
 have up:∀c o,c≠z->g5.get? c=some o->g8.get? c=some o:=λc o c1 e=>s8.extBut _ _ c1 (s7.extBut _ _ c1 (Yc _ e));have t8:IsPair g8 g5.objs.size x y:=s8.extBut _ _ (Zz Q1) (s7.extBut _ _ (Zz Q1) (Yk _ rfl));rw[sz] at z8 t8;refine Yb ⟨_,rfl,?_⟩;show Q (.ref g5.objs.size) _;rw[sz];exact hQ g8 z8 ⟨x,y,up _ _ D.TOz t5⟩ (gm a5 λo e=>up _ o D.i1z e) (gm b5 λo e=>up _ o D.i2z e) t8 λc o hc e=>up c o (λq=>hc (by simp[q])) (k5 c o hc e)
theorem ads {Q:Fin->Shared->Prop}(hh:A.handled=none)(D:Apart z TI TO i1 i2 l1 l2)(Z:Zs s.heap z TI TO i1 i2 l1 l2 k)(Gk:s.heap.IsTuple l1 xs)(GV:s.heap.IsTuple l2 ys)(Jc:xs[k]?=none\/ys[k]?=none)
 (hE:∀h' e,(∀c o,c ∉ [z,TO,i1,i2]->s.heap.get? c=some o->h'.get? c=some o)->(∃o,h'.get? e=some o/\o.cls=.type "StopIteration")->E (.ref e) {s with heap:=h'}):
 wpAny (model prog w) A (Builtin.«zip.__next__» ⟨[.ref z],[]⟩) Q E s:=by
 obtain⟨hz,hTI,⟨a,b,Na⟩,h1,h2⟩:=Z
 have n1:l1≠z/\l1≠TO/\l1≠i1/\l1≠i2:=by simpa using D.l1n
 have n2:l2≠z/\l2≠TO/\l2≠i1/\l2≠i2:=by simpa using D.l2n
 show wpAny _ _ (field (.ref z) 2>>=_) _ _ _;refine X9 (YW hz rfl (x:=.bool false) rfl ?_);show wpAny _ _ (field (.ref z) 3>>=_) _ _ _;refine X9 (YW hz rfl (x:=.ref TI) rfl ?_);refine X9 (Zj hTI rfl ?_);show wpAny _ _ (Builtin.SmallTypes.ownedTupleIsFree (.ref z)>>=_) _ _ _;refine X9 ?_;unfold Builtin.SmallTypes.ownedTupleIsFree;refine X9 (YW hz rfl (x:=.none) rfl (Yb ?_));simp only[ZR];refine X9 (Fp ?_);refine X9 (YW hz rfl (x:=.ref TO) rfl ?_);refine X9 (Y0 hz (by simp) λg1 HM s1=>?_)
 replace HM:IsZip g1 z TI TO .ellipsis:=HM
 refine X9 ?_;simp only[List.zipIdx_cons,List.zipIdx_nil,Bj,List.forIn_nil];refine X9 (X9 (uK ?_));show wpAny _ _ (Builtin.SmallTypes.nextOf (.ref i1)>>=_) _ _ _
 cases hx:xs[k]? with
 |none =>
  refine X9 (sv hh (h1.extBut s1.extBut D.i1z) (Gk.extBut s1.extBut n1.1) hx λg2 e s2 he=>?_);obtain⟨oe,Jd,Ko⟩:=he;have z2:IsZip g2 z TI TO .ellipsis:=s2 _ _ D.i1z.symm HM
  have ez:e≠z:=λq=>by subst q;rw[z2] at Jd;cases Jd;simp at Ko
  refine Y0 z2 (by simp) λg3 _ s3=>hE g3 e (λc o hc q=>?_) ⟨oe,s3.extBut _ _ ez Jd,Ko⟩
  have FU:c≠z/\c≠TO/\c≠i1/\c≠i2:=by simpa using hc
  exact s3.extBut _ _ FU.1 (s2 _ _ FU.2.2.1 (s1.extBut _ _ FU.1 q))
 |some x =>
  have hy:ys[k]?=none:=by
   rcases Jc with h|h
   ·rw[hx] at h;cases h
   ·exact h
  refine X9 (kK (h1.extBut s1.extBut D.i1z) (Gk.extBut s1.extBut n1.1) hx λg2 a2 s2=>Yb ?_);have t2:IsPair g2 TO a b:=s2.extBut _ _ D.TOi1 (s1.extBut _ _ D.TOz Na);refine X9 (Zj t2 rfl ?_);refine X9 (rL t2 λg3 t3 s3=>?_);refine X9 (ET (Yb ?_));refine X9 (X9 (uK ?_));show wpAny _ _ (Builtin.SmallTypes.nextOf (.ref i2)>>=_) _ _ _;refine X9 (sv hh (((h2.extBut s1.extBut D.i2z).extBut s2.extBut D.i12.symm).extBut s3.extBut D.TOi2.symm) (((GV.extBut s1.extBut n2.1).extBut s2.extBut n2.2.2.1).extBut s3.extBut n2.2.1) hy λg4 e s4 he=>?_);obtain⟨oe,Jd,Ko⟩:=he;have z4:IsZip g4 z TI TO .ellipsis:=s4 _ _ D.i2z.symm (s3.extBut _ _ D.TOz.symm (s2.extBut _ _ D.i1z.symm HM))
  have ez:e≠z:=λq=>by subst q;rw[z4] at Jd;cases Jd;simp at Ko
  refine Y0 z4 (by simp) λg5 _ s5=>hE g5 e (λc o hc q=>?_) ⟨oe,s5.extBut _ _ ez Jd,Ko⟩
  have FU:c≠z/\c≠TO/\c≠i1/\c≠i2:=by simpa using hc
  exact s5.extBut _ _ FU.1 (s4 _ _ FU.2.2.2 (s3.extBut _ _ FU.2.1 (s2.extBut _ _ FU.2.2.1 (s1.extBut _ _ FU.1 q))))
theorem acZ {Q:Option Value->Shared->Prop}(D:Apart z TI TO i1 i2 l1 l2)(Z:Zs s.heap z TI TO i1 i2 l1 l2 k)(Gk:s.heap.IsTuple l1 xs)(GV:s.heap.IsTuple l2 ys)(hx:xs[k]?=some x)(hy:ys[k]?=some y)
 (hQ:∀h',IsZip h' z TI TO (rawInt s.heap.objs.size)->(∃a b,IsPair h' TO a b)->h'.IsTupleIter i1 l1 (k+1)->h'.IsTupleIter i2 l2 (k+1)->IsPair h' s.heap.objs.size x y →
  (∀c o,c ∉ [z,TO,i1,i2]->s.heap.get? c=some o->h'.get? c=some o)->Q (some (.ref s.heap.objs.size)) {s with heap:=h'}):
 wpAny (model prog w) A (pyNext (.ref z)) Q E s:=by
 have hT:s.TypeIs (.ref z) "zip":=⟨_,Z.hz,rfl⟩;unfold pyNext
 exact X9 (ZN (YN (name:=Str.ofString "__next__") hT ze
  (YJ ze hT F.entry_zip_next (item D Z Gk GV hx hy λh' a1 a2 a3 a4 a5 a6=>Yb (hQ h' a1 a2 a3 a4 a5 a6)) (F.args_zip_next_1 _))))
theorem ac0 {Q:Option Value->Shared->Prop}(hh:A.handled=none)(D:Apart z TI TO i1 i2 l1 l2)(Z:Zs s.heap z TI TO i1 i2 l1 l2 k)(Gk:s.heap.IsTuple l1 xs)(GV:s.heap.IsTuple l2 ys)(Jc:xs[k]?=none\/ys[k]?=none)
 (hQ:∀h',(∀c o,c ∉ [z,TO,i1,i2]->s.heap.get? c=some o->h'.get? c=some o)->Q none {s with heap:=h'}):wpAny (model prog w) A (pyNext (.ref z)) Q E s:=by
 have hT:s.TypeIs (.ref z) "zip":=⟨_,Z.hz,rfl⟩;unfold pyNext
 refine X9 (ZN (YN (name:=Str.ofString "__next__") hT ze
  (YJ ze hT F.entry_zip_next (ads hh D Z Gk GV Jc λh' e hk he=>?_) (F.args_zip_next_1 _))))
 obtain⟨o,ho,hc⟩:=he;refine X9 (xy (T:="StopIteration") (b:=true) ⟨o,ho,hc⟩ qa ?_);exact Yb (hQ _ hk)
end
noncomputable abbrev g1 (h:Heap)(l1:Addr):Heap:=h.push {cls:=.type "tuple_iterator",data:=.fields #[.ref l1,.int 0 0]}
noncomputable abbrev g2 (h:Heap)(l1 l2:Addr):Heap:=(g1 h l1).push {cls:=.type "tuple_iterator",data:=.fields #[.ref l2,.int 0 0]}
noncomputable abbrev g3 (h:Heap)(l1 l2:Addr):Heap:=(g2 h l1 l2).push {cls:=.type "tuple",data:=.seq #[.ref h.objs.size,.ref (g1 h l1).objs.size]}
noncomputable abbrev g4 (h:Heap)(l1 l2:Addr):Heap:=(g3 h l1 l2).push {cls:=.type "tuple",data:=.seq #[.none,.none]}
noncomputable abbrev g5 (h:Heap)(l1 l2:Addr):Heap:=(g4 h l1 l2).push {cls:=.type "zip",data:=.fields #[.none,.bool false,.bool false,.ref (g2 h l1 l2).objs.size,.ref (g3 h l1 l2).objs.size]}
theorem adh (l1 l2:Addr)(xs ys:Cu):
 Meets (Builtin.«zip.__new__» ⟨[.type "zip",.ref l1,.ref l2],[]⟩) (λ_ R s=>s.heap.IsTuple l1 xs/\s.heap.IsTuple l2 ys/\R (.ok (.ret (.ref (g4 s.heap l1 l2).objs.size))) {s with heap:=g5 s.heap l1 l2}):=
 .of_wp λprog w A R s h=>by
  obtain⟨hp,g,d,tk,os⟩:=s;obtain⟨Gk,GV,h⟩:=h;have TB:=sub_zip;have Nb:Heap.IsTuple (Shared.heap ⟨hp,g,d,tk,os⟩) l1 xs:=Gk;have Kp:Heap.IsTuple (Shared.heap ⟨hp.push {cls:=.type "tuple_iterator",data:=.fields #[.ref l1,.int 0 0]},g,d,tk,os⟩) l2 ys:=Heap.IsTuple.push GV _
  wp_walk using lr Nb,lr Kp
  exact⟨_,rfl,h⟩
section
variable {prog:yo}{w:World}{A:Around}{E:pH}{s:Bi}
theorem adO {l1 l2:Addr}{xs ys:Cu}{Q:pH}(Gk:s.heap.IsTuple l1 xs)(GV:s.heap.IsTuple l2 ys)
 (h:∀h',Zs h' (s.heap.objs.size+4) (s.heap.objs.size+2) (s.heap.objs.size+3) s.heap.objs.size (s.heap.objs.size+1) l1 l2 0->(∀c o,s.heap.get? c=some o->h'.get? c=some o)->Q (.ref (s.heap.objs.size+4)) {s with heap:=h'}):
 wpAny (model prog w) A (call (.type "zip") [.ref l1,.ref l2]) Q E s:=by
 refine callType_new F.called_zip (by decide) (F.typeCall_zip_2 _ _) (F.newCall_zip_2 _ _) (λobj=>F.args_object_init_3 obj _ _) F.entry_zip_new (adh l1 l2 xs ys) ⟨Gk,GV,?_⟩;have z1:(g1 s.heap l1).objs.size=s.heap.objs.size+1:=Zb ..
 have z2:(g2 s.heap l1 l2).objs.size=s.heap.objs.size+2:=by rw[Zb,z1]
 have z3:(g3 s.heap l1 l2).objs.size=s.heap.objs.size+3:=by rw[Zb,z2]
 have z4:(g4 s.heap l1 l2).objs.size=s.heap.objs.size+4:=by rw[Zb,z3]
 have q5:(g5 s.heap l1 l2).get? (g4 s.heap l1 l2).objs.size=some _:=Yk _ rfl;have q4:(g5 s.heap l1 l2).get? (g3 s.heap l1 l2).objs.size=some _:=Yc _ (Yk _ rfl);have q3:(g5 s.heap l1 l2).get? (g2 s.heap l1 l2).objs.size=some _:=Yc _ (Yc _ (Yk _ rfl));have q2:(g5 s.heap l1 l2).get? (g1 s.heap l1).objs.size=some _:=Yc _ (Yc _ (Yc _ (Yk _ rfl)));have q1:(g5 s.heap l1 l2).get? s.heap.objs.size=some _:=Yc _ (Yc _ (Yc _ (Yc _ (Yk _ rfl))));show _/\_;rw[z2,z3,z4] at q5;rw[z1,z2] at q3;rw[z3] at q4;rw[z1] at q2;rw[z4];exact⟨⟨_,q5,rfl⟩,h _ ⟨q5,q3,⟨_,_,q4⟩,⟨_,q1,rfl,rfl⟩,⟨_,q2,rfl,rfl⟩⟩ λc o e=>Yc _ (Yc _ (Yc _ (Yc _ (Yc _ e))))⟩
end
theorem cm {a b:Nat}(h:a≠b):(a:Addr)≠b:=h
theorem adt (n a b:Nat)(ha:a<n)(hb:b<n):Apart (n+4) (n+2) (n+3) n (n+1) a b:=by
 refine⟨cm ?_,cm ?_,cm ?_,cm ?_,cm ?_,cm ?_,cm ?_,cm ?_,cm ?_,cm ?_,?_,?_⟩
 any_goals omega
 ·simp only[Yn,ZA,ED,uN];exact⟨cm (by omega),cm (by omega),cm (by omega),cm (by omega)⟩
 ·simp only[Yn,ZA,ED,uN];exact⟨cm (by omega),cm (by omega),cm (by omega),cm (by omega)⟩
end Zp
namespace L2
open PySem PySem.Spec PyProof.Rows PySem.W
noncomputable def Eh (K:Frag)(a b:Addr):It :=
 ⟨λi H=>∃xs ys x y,aU K H a xs/\aU K H b ys/\xs[i]?=some x/\ys[i]?=some y,
  λi H v H'=>∃T x y,(∀xs,aU K H a xs->xs[i]?=some x)/\(∀ys,aU K H b ys->ys[i]?=some y)/\H T=none/\v=.ref T/\H'=upd H T (.tup [x,y]),
  λi H=>∃xs ys,aU K H a xs/\aU K H b ys/\(xs.length<=i\/ys.length<=i)⟩
theorem aa6 {P:yo}{w:World}{K:Frag}{elts:wI}{x1:Nat}{tp:Pos}{a b z TI TO i1 i2:Addr}(D:Zp.Apart z TI TO i1 i2 a b):
 Turn P w K (.Tuple elts x1 tp) (Eh K a b) [z,TO,i1,i2,TI] z (λi h=>Zp.Zs h z TI TO i1 i2 a b i) where
 mem:=by simp
 obj:=λi h st c hb=>by
  obtain⟨h1,h2,⟨_,_,h3⟩,⟨o4,h4,_,d4⟩,⟨o5,h5,_,d5⟩⟩:=st
  rcases(by simpa using hb:c=z\/c=TO\/c=i1\/c=i2\/c=TI) with q|q|q|q|q
  ·subst q;exact⟨_,h1,λv q=>by cases q⟩
  ·subst q;exact⟨_,h3,λv q=>by cases q⟩
  ·subst q;exact⟨_,h4,λv q=>by rw[d4] at q;cases q⟩
  ·subst q;exact⟨_,h5,λv q=>by rw[d5] at q;cases q⟩
  ·subst q;exact⟨_,h2,λv q=>by cases q⟩
 keep:=λi h h' st k=>by
  obtain⟨h1,h2,⟨_,_,h3⟩,h4,h5⟩:=st;exact⟨k z (by simp) _ h1,k TI (by simp) _ h2,⟨_,_,k TO (by simp) _ h3⟩,Zp.gm h4 λo q=>k i1 (by simp) o q,Zp.gm h5 λo q=>k i2 (by simp) o q⟩
 item:=by
  intro X hP hw hK hc i pins s σ H E I hf st hg;subst hP hw hK;obtain⟨xs,ys,x,y,hq,hr,hx,hy⟩:=hg;obtain⟨its,rv,p,hz⟩:=I.tuple hq;obtain⟨Kq,Gb,p',Q2⟩:=I.tuple hr;obtain⟨u,hu,ru⟩:=rv.get hx;obtain⟨v,hv,N6⟩:=Gb.get hy;refine Zp.acZ D st (show s.heap.IsTuple a its.toArray from p) (show s.heap.IsTuple b Kq.toArray from p') (x:=u) (y:=v) (by simpa using hu) (by simpa using hv) λh' q1 q2 q3 q4 q5 q6=>?_;refine⟨_,rfl,wpAny_letOwnedTupleGo_zip (s:={s with heap:=h'}) q1 λh2 q7 q8=>?_⟩;have lt:∀c o,s.heap.get? c=some o->c≠s.heap.objs.size:=λc o e=>Yr (Ym e)
  have I1:Inv X pins σ H {s with heap:=h2}:=I.adg (t':=s.toks) (ch:=[z,TO,i1,i2]) (λc o hc e=>(q8.2 c λq=>hc (by simp[q])).trans (q6 c o hc e)) λc hc=>hf c (by
   rcases(by simpa using hc:c=z\/c=TO\/c=i1\/c=i2) with q|q|q|q <;> simp[q])
  have nz:s.heap.objs.size≠z:=YM (lt z _ st.hz);have tup:h2.get? s.heap.objs.size=some {cls:=.type "tuple",data:=.seq #[u,v]}:=(q8.2 _ nz).trans q5;have fr:H s.heap.objs.size=none:=I.hok.fresh (Ye _);have I2:=I.aeb (xs:=[x,y]) (its:=[u,v]) I1 (Ye _) tup (.cons ru (.cons N6 .nil)) hJ;have up:∀c o,c≠z->h'.get? c=some o->h2.get? c=some o:=λc o hc e=>(q8.2 c hc).trans e;obtain⟨aa,bb,q2⟩:=q2;have N7:IsPair h' TI (.ref i1) (.ref i2):=q6 TI _ (by simp only[Yn,ZA,ED,uN];exact⟨D.TIz,D.TITO,D.TIi1,D.TIi2⟩) st.hTI
  refine⟨.ref s.heap.objs.size,_,I2,rfl,⟨s.heap.objs.size,x,y,λzs JI=>by rw[I.acN JI hq];exact hx,λzs JI=>by rw[I.acN JI hr];exact hy,fr,rfl,rfl⟩,
   ⟨q7,up _ _ D.TIz N7,⟨aa,bb,up _ _ D.TOz q2⟩,Zp.gm q3 λo e=>up _ o D.i1z e,Zp.gm q4 λo e=>up _ o D.i2z e⟩,λc hb=>?_⟩
  have nb:c≠s.heap.objs.size:=by
   obtain⟨h1,h2,⟨_,_,h3⟩,⟨o4,h4,_,d4⟩,⟨o5,h5,_,d5⟩⟩:=st
   rcases(by simpa using hb:c=z\/c=TO\/c=i1\/c=i2\/c=TI) with q|q|q|q|q <;> subst q
   ·exact lt _ _ h1
   ·exact lt _ _ h3
   ·exact lt _ _ h4
   ·exact lt _ _ h5
   ·exact lt _ _ h2
  rw[aA nb];exact(hf c hb).1
 done:=by
  intro X hP hw hK hc i pins s σ H E I hf st hg;subst hP hw hK;obtain⟨xs,ys,hq,hr,hx⟩:=hg;obtain⟨its,rv,p,hz⟩:=I.tuple hq;obtain⟨Kq,Gb,p',Q2⟩:=I.tuple hr;have l1:=rv.length;have l2:=Gb.length
  refine Zp.ac0 (I.ok.hd hc) D st (show s.heap.IsTuple a its.toArray from p) (show s.heap.IsTuple b Kq.toArray from p') (by
   rcases hx with q|q
   ·left;simp;omega
   ·right;simp;omega) λh' q=>⟨rfl,?_⟩
  exact I.adg (t':=s.toks) (ch:=[z,TO,i1,i2]) q λc hc=>hf c (by
   rcases(by simpa using hc:c=z\/c=TO\/c=i1\/c=i2) with q|q|q|q <;> simp[q])
 self:=λ_ _ _ _ _ st h=>wpAny_pyIter_zip st.hz h
noncomputable def abu (K:Frag)(ta tb:TE):TI:=λσ H R=>bq ta (bq tb Co) σ H λvs H1=>∃a b xs ys,vs=[.ref a,.ref b]/\aU K H1 a xs/\aU K H1 b ys/\R (Eh K a b) H1
theorem abv {X:Cx}{ea eb:Expr}{ta tb:TE}{elts:wI}{x1:Nat}{tp p pos:Pos}(ha:PE X ea ta)(hb:PE X eb tb)(hg:Gl X "zip")(hm:X.mg "zip"=none)(hs:fZ ea=false:=by rfl)(Il:fZ eb=false:=by rfl):
 PI X (.Tuple elts x1 tp) (.Call (.Name "zip" p) [ea,eb] [] pos) (abu X.K ta tb):=by
 intro pins s σ H R I h;refine Y6 (eI I hg hm (by rfl) ?_ (by decide) (by decide));refine Z8 (bO (aj ha (aj hb ag Il) hs pos pins s σ H _ I h) λus s1 z'=>?_) (bz hs) (by rw[bz Il];rfl);obtain⟨vs,H1,I1,r1,a,b,xs,ys,hv,hq,hr,rr⟩:=z';subst hv;obtain⟨u,u',rfl,ru,N6⟩:=wV r1
 cases(show u=Value.ref a from ru)
 cases(show u'=Value.ref b from N6)
 obtain⟨its,rv,pl,hz⟩:=I1.tuple hq;obtain⟨Kq,Gb,Q3,Q2⟩:=I1.tuple hr;refine Zp.adO (show s1.heap.IsTuple a its.toArray from pl) (show s1.heap.IsTuple b Kq.toArray from Q3) λh' q1 q4=>?_;have I2:Inv X pins σ H1 {s1 with heap:=h'}:=I1.kept (t':=s1.toks) q4
 have la:a<s1.heap.objs.size:=by obtain⟨o,e,_⟩:=pl;exact Ym e
 have lb:b<s1.heap.objs.size:=by obtain⟨o,e,_⟩:=Q3;exact Ym e
 refine wpAny_pyIter_zip (s:={s1 with heap:=h'}) q1.hz ?_;refine⟨s1.heap.objs.size+4,[s1.heap.objs.size+4,s1.heap.objs.size+3,s1.heap.objs.size,s1.heap.objs.size+1,s1.heap.objs.size+2],_,Eh X.K a b,H1,rfl,I2,aa6 (Zp.adt _ _ _ la lb),q1,λc hc=>?_,rr⟩
 have FZ:s1.heap.objs.size<=c:=by
  rcases(by simpa using hc:c=s1.heap.objs.size+4\/c=s1.heap.objs.size+3\/c=s1.heap.objs.size\/c=s1.heap.objs.size+1\/c=s1.heap.objs.size+2) with q|q|q|q|q <;> rw[q]
  ·exact xp _ _
  ·exact xp _ _
  ·exact Ye _
  ·exact xp _ _
  ·exact xp _ _
 exact I1.ada FZ (I1.hok.fresh FZ)
end L2
namespace K44
open PySem L2 PySem.W
noncomputable abbrev sf:Stmt:=bh (bc 20) 3
noncomputable abbrev yx:Stmt:=(bc 11)
noncomputable abbrev iB:Stmt:=(bc 12)
noncomputable def tK (C:Addr):Sp:=λvs H Q _=>∃(p dx:Addr)(i:Int),vs=[.ref p]/\H p=some (.ins C dx (gG i))/\Q (.int i) H
noncomputable def oZ:V->Bool
 | .int i=>decide (0<=i)&&decide (i<60)
 |_=>false
noncomputable def qb:Sp:=λvs H Q _=>∃x T,vs=[x]/\Th H x T/\Q (.bl (oZ x)) H
variable {P:yo}{w:World}{K:PySem.W.Frag}{mg:u9}{base:Heap}
theorem abA:CP ["self"] ["self"] (ar sf):=fe (by decide +kernel)
theorem abB {f C:Addr}{fd:BG}(F:ve K "prime" "Field.prime" sf f fd)(c:BE K mg C):ya P w K mg base (cD P w) 1 f fd ["self"] (tK C):=by
 refine F.okN abA (λvs H Q E h=>?_) (λFv A outer s H vs Q E hr h=>?_)
 ·obtain⟨p,dx,i,rfl,_⟩:=h;rfl
 ·obtain⟨p,dx,i,rfl,hp,q⟩:=h;exact⟨_,ax (aF (cN (pv 0) rfl)),_,rfl,p,C,dx,_,_,rfl,hp,c.cl,c.nP,rfl,q⟩
theorem abI:CP n6 n6 (ar yx):=fe (by decide +kernel)
theorem abJ {f:Addr}{fd:BG}{tM:Tok}(F:ve K "is_place" "is_place" yx f fd)(TC:mg "MOST_PLACES"=some (.int 60 tM))
 (q0:Ca P w K mg base 1 n6 "is_whole" vv):ya P w K mg base (cD P w) 2 f fd n6 qb:=by
 obtain⟨fw,Ki,FW,bW,mW,kW⟩:=q0;refine F.okN abI (λvs H Q E h=>?_) (λFv A outer s H vs Q E hr h=>?_)
 ·obtain⟨x,T,rfl,_⟩:=h;rfl
 ·obtain⟨x,T,rfl,th,q⟩:=h;have FN:wa 1 _:=hr.mono (by decide);refine⟨_,ax (aF (dA (aH FW FN (by rfl) mW kW bW .nil ao (aj (pv 0) ag rfl)) (eJ (kA n4 ix ak (pv 0) (fB (by rfl) TC (show aG (.int 60) (.int 60 tM) from⟨_,rfl⟩)))))),?_⟩;refine⟨_,rfl,x,T,rfl,th,_,rfl,?_⟩
  cases e:cg x with
  |false =>
   have z:oZ x=false:=by cases x <;> first|rfl|cases e
   rw[z] at q;exact b7 q
  |true =>
   have z1:∃i,x=.int i:=by cases x <;> first|exact⟨_,rfl⟩|cases e
   obtain⟨i,rfl⟩:=z1;refine bA ?_;refine⟨_,rfl,_,_,rfl,rfl,_,rfl,?_⟩;refine cG (λh=>?_) (λh=>?_)
   ·refine⟨_,_,rfl,rfl,?_⟩;have h':decide (0<=i)=true:=h
    have z:oZ (.int i)=decide (i<60):=by show(decide (0<=i)&&decide (i<60))=_;rw[h',Zr]
    rw[z] at q;exact q
   ·have h':decide (0<=i)=false:=by simpa using h
    have z:oZ (.int i)=false:=by show(decide (0<=i)&&decide (i<60))=_;rw[h',ZF]
    rw[z] at q;exact q
end K44
namespace HT
open PySem PyProof.Rows
section
variable {prog:yo}{w:World}{A:Around}{E:pH}{s:Bi}
theorem abP {t sl:Addr}{items:Cu}{vl vu:Value}{lo hi:Option Int}{Q:pH}(ht:IsTup s.heap t items)(hs:s.heap.IsSliceOf sl vl vu .none)(pl:IsPart vl lo)(pu:IsPart vu hi)
 (h0:c7 items.size 0 lo=0)(h1:c7 items.size items.size hi=items.size)(h:Q (.ref t) s):wpAny (model prog w) A (getItem (.ref t) (.ref sl)) Q E s:=by
 obtain⟨os,IS,MW,IT⟩:=id hs;have NO:s.TypeIs (.ref sl) "slice":=⟨os,IS,MW⟩;unfold getItem
 try with_reducible refine YY ?_
 first|refine X9 (Yb ?_)|skip
 refine X9 (wpAny_sequenceKey ht.typeIs (by decide) ?_)
 refine X9 (YN (name:=Str.ofString "__getitem__") ht.typeIs Za
  (YJ Za ht.typeIs entry_tuple_getitem ?_ (args_tuple_getitem _ _)))
 show wpAny _ _ (Builtin.Tuple.tupleItemsOf (.ref t)>>=_) _ _ s;refine X9 (tupleItemsOf_ ht ?_);refine X9 (kU NO ?_);rw[Yh (by decide)];refine X9 (eN hs pl pu ?_);rw[h0,h1]
 have GK:((((0:Nat):Int)==0&&(1:Int)==1&&(items.size-0)==items.size)=true):=by simp
 dsimp only;rw[Yh GK];show wpAny _ _ (Builtin.Tuple.tupleIsExact (.ref t)>>=_) _ _ s;refine X9 ?_;unfold Builtin.Tuple.tupleIsExact;refine X9 (kU ht.typeIs (Yb ?_));rw[Yh (by decide)];refine X9 (Fp ?_);exact Yb ⟨_,rfl,Yb h⟩
end
end HT
namespace L2
open PySem PySem.Spec PyProof.Rows PySem.W
variable {X:Cx}
noncomputable def abS (K:Frag):V->Option Int->Option Int->Hp->VK->Prop:=λx lo hi H Q=>∃a xs,x=.ref a/\aU K H a xs/\(hU xs lo hi=xs->Q (.ref a) H)/\∀p,H p=none->Q (.ref p) (upd H p (.tup (hU xs lo hi)))
theorem abT:Ee X (abS X.K):=by
 intro pins s σ H x v vl vu lo hi sl Q I rx hs pl pu h;obtain⟨a,xs,rfl,hx,h1,h2⟩:=h
 by_cases hw:HT.c7 xs.length 0 lo=0/\HT.c7 xs.length xs.length hi=xs.length
 ·cases rx
  obtain⟨its,r,ht,hz⟩:=I.tuple hx
  have hlen:its.toArray.size=xs.length:=by rw[Yj];exact r.length.symm
  refine⟨"tuple",_,Za.lookup,ht.typeIs,?_⟩;refine HT.abP ht hs pl pu (by rw[hlen];exact hw.1) (by rw[hlen];exact hw.2) ?_;refine⟨.ref a,H,I,rfl,h1 ?_⟩;unfold hU;rw[hw.1,hw.2];simp
 ·exact aeg pins s σ H (.ref a) v vl vu lo hi sl Q I rx hs pl pu ⟨a,xs,rfl,hx,hw,h2⟩
end L2
namespace K44
open PySem L2 PySem.W
inductive PX (H:Hp):V->Option (List V)->Prop where
 |no {x:V}{T:String}:Th H x T->T ≠ "tuple"->PX H x none
 |tup {a:Addr}{xs:List V}:H a=some (.tup xs)->xs.length<4000->(∀y∈xs,∃T,Th H y T)->PX H (.ref a) (some xs)
noncomputable def DD:V->V->Bool
 | .int a,.int b=>decide (a<b)
 |_,_=>false
noncomputable def dY (xs:List V):Bool:=(xs.zip (xs.drop 1)).all λp=>DD p.1 p.2
noncomputable def cJ:Option (List V)->Bool
 |none=>false
 |some xs=>xs.all oZ&&dY xs
noncomputable def vp:Sp:=λvs H Q _=>∃x o,vs=[x]/\PX H x o/\∀H',aC H H'->Q (.bl (cJ o)) H'
theorem Dg (xs:List V):hU xs (some 1) none=xs.drop 1:=by
 unfold hU HT.c7
 cases xs with
 |nil=>rfl
 |cons x xs=>simp
theorem ad9:CP n6 n6 (ar iB):=fe (by decide +kernel)
theorem ko:∀bs:List Bool,Paired C4 (bs.map V.bl) bs
 |[]=>.nil
 |b::bs=>.cons rfl (ko bs)
variable {P:yo}{w:World}{K:PySem.W.Frag}{mg:u9}{base:Heap}
variable {f:Addr}{fd:BG}
theorem adJ (F:ve K "is_product" "is_product" iB f fd)(Fs:mg "isinstance"=none)(Fu:mg "tuple"=none)(FY:mg "all"=none)(Hl:mg "zip"=none)
 (q0:Ca P w K mg base 2 n6 "is_place" qb):ya P w K mg base (cD P w) 3 f fd n6 vp:=by
 obtain⟨fp,Kr,FP,bP,mP,kP⟩:=q0;refine F.okN ad9 (λvs H Q E h=>?_) (λFv A outer s H vs Q E hr h=>?_)
 ·obtain⟨x,o,rfl,_⟩:=h;rfl
 ·obtain⟨x,o,rfl,px,q⟩:=h;have GL:wa 2 _:=hr.mono (by decide)
  refine⟨_,(au (bF (PW.pt (dE (bN (bU (aE aZ (by rfl) Fs (by rfl) (aj (pv 0) (aj (cC (by rfl) Fu (by rfl) (show aG (.ty "tuple") (.type "tuple") from rfl)) ag rfl) rfl)))) (dD (bN (bU (aE (ip rfl) (by rfl) FY (by rfl) (aj (bY (N:=["place"]) (nl:=1) (js:=[]) (osc:=ar iB) ⟨rfl,rfl,by decide +kernel,by decide +kernel,by decide +kernel,rfl,.nil,by decide +kernel⟩ rfl
   (dy (pv 0))
   (λC fp s H=>aD (i:=0) (by show(["place"]:Ez).Nodup;decide +kernel) rfl (Or.inl rfl) (Or.inr rfl))
   (λC fp s H=>cX)
   (λC fp s H=>(aH FP GL (by rfl) mP kP bP .nil ao (aj (pv 0) ag rfl)))) ag rfl))))))) (ax (aF eE)) aS)
   (ax (aF (aE (ip rfl) (by rfl) FY (by rfl) (aj (bY (g:=lu K 2 (cR (bw 0) (cR (bw 1) qx))) (N:=["place","later"]) (nl:=2) (js:=[]) (osc:=ar iB) ⟨rfl,rfl,by decide +kernel,by decide +kernel,by decide +kernel,rfl,.nil,by decide +kernel⟩ rfl
    (abv (pv 0) (ky abT (pv 0) (nM ak) mY) (by rfl) Hl)
    (λC fp s H=>(cY (X:=fK _ ["place","later"] _ C fp s H) rfl (aN (aD (X:=fK _ ["place","later"] _ C fp s H) (i:=0) (by show(["place","later"]:Ez).Nodup;decide +kernel) rfl (Or.inl rfl) (Or.inr rfl)) (aN (aD (X:=fK _ ["place","later"] _ C fp s H) (i:=1) (by show(["place","later"]:Ez).Nodup;decide +kernel) rfl (Or.inl rfl) (Or.inr rfl)) cp))))
    (λC fp s H=>cX)
    (λC fp s H=>(cu ix (pv 0) (pv 1) (aV _)))) ag rfl))))),?_⟩
  cases px with
  |@no x T th ne =>
   refine⟨_,rfl,x,.ty "tuple",_,_,_,rfl,rfl,th.ty,th.isTup,_,rfl,?_⟩;rw[Yu ne];exact bA (bA (q _ (aC.refl _)))
  |@tup a xs ha hl Ks =>
   refine⟨_,rfl,.ref a,.ty "tuple",_,_,_,rfl,rfl,.of (.tup ha),rfl,_,rfl,b7 ?_⟩;have Q4:∀n,n<=xs.length->n<sizeLine:=λn hn=>Yo hn (YX hl (by decide));refine⟨_,rfl,a,rfl,⟨xs,aU.of ha⟩,?_⟩;refine⟨λi m ys σ' H'=>m=xs.length-i/\i<=xs.length/\ys=((xs.take i).map oZ).map V.bl/\H=H'/\∃o,σ'=[o],⟨xs.length,by simp,Yt _,by simp,rfl,none,rfl⟩,?_⟩;rintro i m ys σ' H' ⟨rfl,hi,rfl,rfl,o,rfl⟩;refine⟨Q4 _ (by simp;omega),?_⟩
   by_cases Fy:i<xs.length
   ·refine .inr ⟨⟨xs,xs[i],aU.of ha,by simp[Fy]⟩,λy H2 hy=>?_⟩;obtain⟨rfl,hy⟩:=hy;have ey:=hy xs (aU.of ha);obtain⟨T,th⟩:=Ks y (YA ey);dsimp only[EB,bw];refine bA ⟨_,rfl,y,T,rfl,th,xs.length-(i+1),by omega,rfl,Fy,?_,rfl,_,rfl⟩
    have e2:xs.take (i+1)=xs.take i++[y]:=by
     rw[YE,ey];rfl
    rw[e2];simp
   ·have ei:i=xs.length:=by omega
    subst ei;refine .inl ⟨⟨xs,aU.of ha,Ye _⟩,λD hD=>?_⟩;rw[Yv];refine⟨D,_,xs.map oZ,rfl,bo.of ai,ko _,_,rfl,?_⟩;have sD:aC H (upd H D (.lst ((xs.map oZ).map V.bl))):=aq hD
    cases hp:(xs.map oZ).all id with
    |false =>
     have z:cJ (some xs)=false:=by
      show(xs.all oZ&&dY xs)=_
      have:xs.all oZ=false:=by rw[<-hp,Z9];rfl
      rw[this,ZF]
     rw[z] at q;exact bA (q _ sD)
    |true =>
     refine b7 ?_
     have z:cJ (some xs)=dY xs:=by
      show(xs.all oZ&&dY xs)=_
      have:xs.all oZ=true:=by rw[<-hp,Z9];rfl
      rw[this,Zr]
     rw[z] at q;generalize upd H D (.lst ((xs.map oZ).map V.bl))=H1 at sD |-;have Gu:=sD _ _ ha
     have hint:∀y∈xs,∃n,y=V.int n:=λy hy=>by
      have:oZ y=true:=ZQ.mp hp _ (CO hy)
      cases y <;> first|exact⟨_,rfl⟩|cases this
     have key:∀(b:Addr)(H2:Hp),aC H H2->H2 a=some (.tup xs)->H2 b=some (.tup (xs.drop 1)) →
      ∃W:Nat->Nat->List V->St->Hp->Prop,(∃m,W 0 m [] [none,none] H2)/\jN (Eh K a b) (lu K 2 (cR (bw 0) (cR (bw 1) qx))) EB (kx (vU λi j=>V.bl (decide (i<j))) (cc 0) (cc 1)) W
       λys H'=>∀D,H' D=none->∃l zs bs,[V.ref D]=[V.ref l]/\bo K (upd H' D (.lst ys)) l zs/\Paired C4 zs bs/\Q (.bl (bs.all id)) (upd H' D (.lst ys)):=by
      intro b H2 s2 TF TH;refine⟨λi m ys σ' H'=>m=(xs.drop 1).length-i/\i<=(xs.drop 1).length/\ys=(((xs.zip (xs.drop 1)).take i).map λp=>DD p.1 p.2).map V.bl/\aC H2 H'/\∃o1 o2,σ'=[o1,o2],⟨(xs.drop 1).length,by simp,Yt _,by simp,aC.refl _,none,none,rfl⟩,?_⟩;rintro i m ys σ' H' ⟨rfl,hi,rfl,sH,o1,o2,rfl⟩;have Je:=sH _ _ TF;have FZ:=sH _ _ TH;refine⟨Q4 _ (by simp;omega),?_⟩
      by_cases Fy:i<(xs.drop 1).length
      ·have N8:i<xs.length:=by rw[vn] at Fy;omega
       refine .inr ⟨⟨xs,xs.drop 1,xs[i],(xs.drop 1)[i],aU.of Je,aU.of FZ,by simp[N8],by rw[YZ Fy]⟩,λv H3 hv=>?_⟩;obtain⟨T,x,y,hx,hy,hT,rfl,rfl⟩:=hv;have ex:=hx xs (aU.of Je);have ey:=hy (xs.drop 1) (aU.of FZ);obtain⟨n,rfl⟩:=hint x (YA ex);obtain⟨k,rfl⟩:=hint y (List.mem_of_mem_drop (YA ey));refine⟨T,_,rfl,aU.of ai,rfl,_,_,rfl,_,_,rfl,rfl,?_⟩;dsimp only[EB];refine bA ⟨_,rfl,_,rfl,n,k,rfl,rfl,(xs.drop 1).length-(i+1),by omega,rfl,Fy,?_,λc u e=>?_,_,_,rfl⟩
       ·have ez:(xs.zip (xs.drop 1))[i]?=some (V.int n,V.int k):=by
         rw[List.getElem?_zip_eq_some];exact⟨ex,ey⟩
        have e2:(xs.zip (xs.drop 1)).take (i+1)=(xs.zip (xs.drop 1)).take i++[(V.int n,V.int k)]:=by
         rw[YE,ez];rfl
        rw[e2];simp[DD]
       ·rw[aA (aB (sH _ _ e) hT)];exact sH _ _ e
      ·have ei:i=(xs.drop 1).length:=by omega
       subst ei;refine .inl ⟨⟨xs,xs.drop 1,aU.of Je,aU.of FZ,.inr (Ye _)⟩,λD' Kt=>?_⟩
       have et:(xs.zip (xs.drop 1)).take (xs.drop 1).length=xs.zip (xs.drop 1):=by
        apply List.take_of_length_le;rw[DX];exact ZP _ _
       rw[et];refine⟨D',_,(xs.zip (xs.drop 1)).map λp=>DD p.1 p.2,rfl,bo.of ai,ko _,?_⟩
       have er:((xs.zip (xs.drop 1)).map λp=>DD p.1 p.2).all id=dY xs:=by rw[Z9];rfl
       rw[er];refine q _ λc u e=>?_;have e1:=sH _ _ (s2 _ _ e);rw[aA (aB e1 Kt)];exact e1
     refine⟨_,rfl,_,rfl,1,rfl,a,xs,rfl,aU.of Gu,λe=>?_,λp Q5=>?_⟩
     ·rw[Dg] at e;exact⟨a,a,xs,xs.drop 1,rfl,aU.of Gu,aU.of (by rw[e];exact Gu),key a H1 sD Gu (by rw[e];exact Gu)⟩
     ·rw[Dg];have np:a≠p:=aB Gu Q5;exact⟨a,p,xs,xs.drop 1,rfl,aU.of (by rw[aA np];exact Gu),aU.of ai,key p _ (λc u e=>by rw[aA (aB (sD _ _ e) Q5)];exact sD _ _ e) (by rw[aA np];exact Gu) ai⟩
noncomputable abbrev A3:Stmt:=(bc 29)
theorem PX.same {H H':Hp}{x:V}{o:Option (List V)}(h:PX H x o)(s:aC H H'):PX H' x o:=by
 cases h with
 |no th n=>exact .no (th.same s) n
 |tup e l h=>exact .tup (s _ _ e) l λy hy=>let⟨T,t⟩:=h y hy;⟨T,t.same s⟩
inductive Em (p:Int)(H:Hp):V->Bool->Prop where
 |no {x:V}{T:String}:Th H x T->T ≠ "tuple"->Em p H x false
 |odd {a:Addr}{xs:List V}:H a=some (.tup xs)->xs.length≠2->Em p H (.ref a) false
 |two {a:Addr}{y z:V}{o:Option (List V)}{o2:Option (V×V)}:H a=some (.tup [y,z])->PX H y o->TX H z o2->Em p H (.ref a) (cJ o&&wz p o2)
theorem Em.same {p:Int}{H H':Hp}{x:V}{b:Bool}(h:Em p H x b)(s:aC H H'):Em p H' x b:=by
 cases h with
 |no th n=>exact .no (th.same s) n
 |odd e n=>exact .odd (s _ _ e) n
 |two e h1 h2=>exact .two (s _ _ e) (h1.same s) (h2.same s)
noncomputable def yu (C:Addr):Sp:=λvs H Q _=>∃(s dx:Addr)(p:Int)(x:V)(b:Bool),vs=[.ref s,x]/\H s=some (.ins C dx (gG p))/\FP p/\Em p H x b/\∀H',aC H H'->Q (.bl b) H'
theorem rEq:CP CD CD (ar A3):=fe (by decide +kernel)
theorem adw {C:Addr}(F:ve K "is_term" "is_term" A3 f fd)(c:BE K mg C)(Fs:mg "isinstance"=none)(Fu:mg "tuple"=none)(Fz:mg "len"=none)
 (q0:Ca P w K mg base 3 n6 "is_product" vp)
 (q1:Cm P w K mg base 2 ["self","thing"] C "is_number" (ki C)):ya P w K mg base (cD P w) 4 f fd CD (yu C):=by
 obtain⟨fp,Kr,TJ,bP,mP,kP⟩:=q0;obtain⟨fi,XG,FI,bI,mI⟩:=q1;refine F.okN rEq (λvs H Q E h=>?_) (λFv A outer s H vs Q E hr h=>?_)
 ·obtain⟨s,dx,p,x,b,rfl,_⟩:=h;rfl
 ·obtain⟨s0,dx,p,x,b,rfl,hs,hp,tx,q⟩:=h;have GZ:wa 3 _:=hr.mono (by decide);have GL:wa 2 _:=hr.mono (by decide)
  refine⟨_,ax (aF (dA (aE aZ (by rfl) Fs (by rfl) (aj (pv 1) (aj (cC (by rfl) Fu (by rfl) (show aG (.ty "tuple") (.type "tuple") from rfl)) ag rfl) rfl))
   (dA (cu fL (aE bH (by rfl) Fz ZU (aj (pv 1) ag rfl)) ak (aV _))
   (dA (aH TJ GZ (by rfl) mP kP bP .nil ao (aj (aY bJ (pv 1) ak (λ_ _=>rfl)) ag rfl))
   (eJ (fE (pv 0) c.cl mI FI GL bI .nil ao (aj (aY bJ (pv 1) ak (λ_ _=>rfl)) ag rfl))))))),?_⟩
  cases tx with
  |@no x T th ne =>
   refine⟨_,rfl,x,.ty "tuple",_,_,_,rfl,rfl,th.ty,th.isTup,_,rfl,?_⟩;rw[Yu ne];exact b7 (q _ (aC.refl _))
  |@odd a xs ha hl =>
   refine⟨_,rfl,.ref a,.ty "tuple",_,_,_,rfl,rfl,.of (.tup ha),rfl,_,rfl,bA ?_⟩;refine⟨_,rfl,a,_,rfl,.inr (aU.of ha),rfl,_,rfl,?_⟩;refine cG (λh=>absurd h (by simp;omega)) (λh=>?_);exact q _ (aC.refl _)
  |@two a y z o o2 ha hy hz =>
   refine⟨_,rfl,.ref a,.ty "tuple",_,_,_,rfl,rfl,.of (.tup ha),rfl,_,rfl,bA ?_⟩;refine⟨_,rfl,a,_,rfl,.inr (aU.of ha),rfl,_,rfl,bA ?_⟩;refine⟨_,rfl,a,_,0,y,rfl,rfl,aU.of ha,rfl,y,o,rfl,hy,λH' sH=>⟨_,rfl,?_⟩⟩;have Il:=sH _ _ hs;have Je:=sH _ _ ha
   cases e:cJ o with
   |false =>
    rw[e,ZF] at q;exact b7 (q _ sH)
   |true =>
    rw[e,Zr] at q;refine bA ⟨_,rfl,s0,dx,_,rfl,Il,rfl,_,rfl,a,_,1,z,rfl,rfl,aU.of Je,rfl,s0,dx,p,z,o2,rfl,Il,hp,hz.same sH,q _ sH⟩
noncomputable abbrev pS:Stmt:=(bc 30)
noncomputable abbrev pW:Stmt:=(bc 31)
noncomputable def mh (C:Addr):Sp:=λvs H Q _=>∃(s dx:Addr)(p:Int)(x:V),vs=[.ref s,x]/\H s=some (.ins C dx (gG p))/\FP p /\
 ((x=.non/\∀l,H l=none->Q (.ref l) (upd H l (.lst [])))\/∃l ys,x=.ref l/\H l=some (.lst ys)/\ys.length<4000/\(∀y∈ys,Em p H y true)/\∀H',aC H H'->Q (.ref l) H')
noncomputable def uI:Sp:=λvs H Q _=>∃(a b:Addr)(z:V)(xs:List V),vs=[.ref a]/\H a=some (.tup [.ref b,z])/\H b=some (.tup xs)/\∀t,H t=none->Q (.ref t) (upd H t (.tup [.int xs.length,.ref b]))
theorem iY:CP ["field","terms","number","thing"] rm (ar pS):=fe (by decide +kernel)
theorem ade:CP ["term"] ["term"] (ar pW):=fe (by decide +kernel)
theorem adM (F:ve K "place_of_term" "place_of_term" pW f fd)(Fz:mg "len"=none):ya P w K mg base (cD P w) 1 f fd ["term"] uI:=by
 refine F.okN ade (λvs H Q E h=>?_) (λFv A outer s H vs Q E hr h=>?_)
 ·obtain⟨a,b,z,xs,rfl,_⟩:=h;rfl
 ·obtain⟨a,b,z,xs,rfl,ha,hb,q⟩:=h;refine⟨_,(ax (aF (aJ (aj (aE bH (by rfl) Fz ZU (aj (aY bJ (pv 0) ak (λ_ _=>rfl)) ag rfl)) (aj (aY bJ (pv 0) ak (λ_ _=>rfl)) ag rfl) rfl)))),?_⟩;refine⟨_,rfl,a,_,0,_,rfl,rfl,aU.of ha,rfl,b,xs,rfl,.inr (aU.of hb),_,rfl,a,_,0,_,rfl,rfl,aU.of ha,rfl,hJ,λt ht=>q t ht⟩
theorem adB {C:Addr}(F:ve K "checked_terms" "checked_terms" pS f fd)(Fs:mg "isinstance"=none)(FA:mg "list"=none)(FO:mg "enumerate"=none)
 (q0:Ca P w K mg base 4 CD "is_term" (yu C)):ya P w K mg base (cD P w) 5 f fd rm (mh C):=by
 obtain⟨ft,TK,FT,bT,mT,kT⟩:=q0;refine F.okN iY (λvs H Q E h=>?_) (λFv A outer s H vs Q E hr h=>?_)
 ·obtain⟨s,dx,p,x,rfl,_⟩:=h;rfl
 ·obtain⟨s0,dx,p,x,rfl,hs,hp,h⟩:=h;have GW:wa 4 _:=hr.mono (by decide)
  refine⟨_,(au (bF (aO aaf (pv 1) rh (aV _)) (ax (aF (cE ag))) aS)
   (au (bF (bN (bU (aE aZ (by rfl) Fs (by rfl) (aj (pv 1) (aj (cC (by rfl) FA (by rfl) (show aG (.ty "list") (.type "list") from rfl)) ag rfl) rfl)))) (ax (oP)) aS)
   (au (dU Y4 rfl (ac6 (pv 1) (by rfl) FO) (cY rfl (aN (aD (i:=2) iY.nd rfl (Or.inl rfl)) (aN (aD (i:=3) iY.nd rfl (Or.inl rfl)) cp)))
   (ax (bF (bN (bU (aH FT GW (by rfl) mT kT bT .nil ao (aj (pv 0) (aj (pv 3) ag rfl) rfl)))) (ax (oP)) aS)))
   (ax (aF (pv 1)))))),?_⟩
  rcases h with⟨rfl,q⟩|⟨l,ys,rfl,hl,hlen,Gv,q⟩
  ·refine⟨_,rfl,rfl,_,rfl,?_⟩;exact bA ⟨Yt _,λl hl=>q l hl⟩
  ·refine⟨_,rfl,rfl,_,rfl,b7 ?_⟩;refine⟨_,rfl,.ref l,.ty "list",_,_,_,rfl,rfl,.of (.lst hl),rfl,_,rfl,b7 ?_⟩;refine⟨_,rfl,l,ys,rfl,bo.of hl,?_⟩;refine⟨λi m σ' H'=>m=ys.length-i/\i<=ys.length/\aC H H'/\∃o1 o2,σ'=[some (.ref s0),some (.ref l),o1,o2],⟨ys.length,by simp,Yt _,aC.refl _,none,none,rfl⟩,?_⟩;rintro i m σ' H' ⟨rfl,hi,sH,o1,o2,rfl⟩;have GG:=sH _ _ hl
   by_cases Fy:i<ys.length
   ·refine .inr ⟨⟨ys,ys[i],bo.of GG,by simp[Fy]⟩,λσ' H'=>i+1<=ys.length/\aC H H'/\∃o1 o2,σ'=[some (.ref s0),some (.ref l),o1,o2],?_,λv H2 hv=>?_⟩
    ·rintro σ' H' ⟨h1,h2,h3⟩;exact⟨ys.length-(i+1),by omega,rfl,h1,h2,h3⟩
    ·obtain⟨T,y,hy,hT,rfl,rfl⟩:=hv;have ey:=hy ys (bo.of GG)
     have s2:aC H (upd H' T (.tup [.int i,y])):=λc u e=>by
      rw[aA (aB (sH _ _ e) hT)];exact sH _ _ e
     have ty:=(Gv y (YA ey)).same s2;refine⟨T,_,rfl,aU.of ai,rfl,_,_,rfl,_,_,rfl,rfl,?_⟩;refine⟨_,rfl,_,rfl,s0,dx,p,y,true,rfl,s2 _ _ hs,hp,ty,λH3 s3=>⟨_,rfl,b7 ?_⟩⟩;exact⟨Fy,λc u e=>s3 _ _ (s2 _ _ e),_,_,rfl⟩
   ·refine .inl ⟨⟨ys,bo.of GG,by omega⟩,?_⟩;exact⟨_,rfl,q _ sH⟩
end K44
namespace Srt
open PySem PySem.W PyProof.Rows
structure Pm (n:Nat)(r:Nat->Nat)(p:Array Nat):Prop where
 size:p.size=n
 lt:∀k,k<n->p.getD k 0<n
 ne:∀k l,k<n->l<n->k≠l->r (p.getD k 0)≠r (p.getD l 0)
 perm:p.Perm (List.range n).toArray
variable {p:Array Nat}{k m j:Nat}
section
variable {n:Nat}{r:Nat->Nat}
theorem Pm.nq {n:Nat}{r:Nat->Nat}(P:Pm n r p)(k l:Nat)(hk:k<n)(hl:l<n)(h:k≠l):p.getD k 0≠p.getD l 0:=λz=>P.ne k l hk hl h (by rw[z])
theorem getD_some (h:k<p.size):p[k]?=some (p.getD k 0):=by simp[Array.getD,h]
theorem pk (inj:∀i j,i<n->j<n->i≠j->r i≠r j)(hp:p.Perm (List.range n).toArray):Pm n r p:=by
 have hl:p.toList.Perm (List.range n):=by simpa using hp.toList
 have hs:p.size=n:=by rw[<-Yz,hl.length_eq,uR]
 have Fy:∀k,k<n->p.getD k 0<n:=λk hk=>by
  have hm:p.getD k 0∈p.toList:=by
   rw[show p.getD k 0=p[k]'(by omega) by simp[Array.getD,hs,hk]];exact Array.mem_toList_iff.mpr (Array.getElem_mem _)
  exact ZD.mp (hl.mem_iff.mp hm)
 refine⟨hs,Fy,λk l hk GG F2=>inj _ _ (Fy k hk) (Fy l GG) λe=>F2 ?_,hp⟩;have nd:p.toList.Nodup:=hl.nodup_iff.mpr List.nodup_range
 have e1:p.toList[k]'(by simp;omega)=p.toList[l]'(by simp;omega):=by
  rw[show p.getD k 0=p[k]'(by omega) by simp[Array.getD,hs,hk],show p.getD l 0=p[l]'(by omega) by simp[Array.getD,hs,GG]] at e;simpa using e
 have pw:=ZW.mp (show p.toList.Pairwise (· ≠ ·) from nd)
 rcases oV k l with z|z|z
 ·exact absurd e1 (pw k l _ _ z)
 ·exact z
 ·exact absurd e1.symm (pw l k _ _ z)
noncomputable def Up (r:Nat->Nat)(p:Array Nat)(m:Nat):Prop:=∀i j,i<j->j<m->r (p.getD i 0)<r (p.getD j 0)
noncomputable def Dn (r:Nat->Nat)(p:Array Nat)(m:Nat):Prop:=∀i j,i<j->j<m->r (p.getD j 0)<r (p.getD i 0)
theorem Up.succ (h:Up r p m)(h1:1<=m)(e:r (p.getD (m-1) 0)<r (p.getD m 0)):Up r p (m+1):=λi j GD hj=>by
 by_cases z:j=m
 ·subst z
  by_cases z2:i=j-1
  ·subst z2;exact e
  ·exact YX (h i (j-1) (by omega) (by omega)) e
 ·exact h i j GD (by omega)
theorem Dn.succ (h:Dn r p m)(h1:1<=m)(e:r (p.getD m 0)<r (p.getD (m-1) 0)):Dn r p (m+1):=λi j GD hj=>by
 by_cases z:j=m
 ·subst z
  by_cases z2:i=j-1
  ·subst z2;exact e
  ·exact YX e (h i (j-1) (by omega) (by omega))
 ·exact h i j GD (by omega)
theorem uw (hm:m<=p.size)(hk:k<p.size):(kas_rev p 0 m).getD k 0=if k<m then p.getD (m-1-k) 0 else p.getD k 0:=by
 have e:=getElem?_mirror_all (xs:=p) (i:=0) hm k;have hs:(kas_rev p 0 m).size=p.size:=mirror_size _ _ _ _;have e2:(kas_rev p 0 m)[k]?=some ((kas_rev p 0 m).getD k 0):=getD_some (by rw[hs];exact hk)
 have e3:(kas_rev p 0 m)[k]?=if 0<=k/\k<m then p[0+m-1-k]? else p[k]?:=e
 rw[e2] at e3
 by_cases h:k<m
 ·rw[Yh ⟨Yt _,h⟩,show 0+m-1-k=m-1-k by omega,getD_some (by omega)] at e3;rw[Yh h];exact Option.some.inj e3
 ·rw[Yd (λz=>h z.2),getD_some hk] at e3;rw[Yd h];exact Option.some.inj e3
theorem Dn.rev (h:Dn r p m)(hm:m<=p.size):Up r (kas_rev p 0 m) m:=λi j GD hj=>by
 rw[uw hm (by omega),uw hm (by omega),Yh (by omega),Yh hj];exact h _ _ (by omega) (by omega)
variable {cmp:Nat->Nat->(Bool->Shared->Prop)->Shared->Prop}{s:Bi}
theorem rH (hc:∀i j C,i<n->j<n->i≠j->C (decide (r i<r j)) s->cmp i j C s)(P:Pm n r p){Q:Nat->Shared->Prop}:∀(f m:Nat),1<=m->m+f=n->Up r p m →
 (∀m',m<=m'->m'<=n->Up r p m'->(m'<n->r (p.getD m' 0)<r (p.getD (m'-1) 0))->Q m' s)->(kas_asc p f m).kasWp cmp Q s
 |0,m,h1,hm,hu,hQ=>hQ m (Ye _) (by omega) hu λh=>by omega
 |f+1,m,h1,hm,hu,hQ=>by
  refine hc _ _ _ (P.lt m (by omega)) (P.lt (m-1) (by omega)) (P.nq m (m-1) (by omega) (by omega) (by omega)) ?_;show((if decide (r (p.getD m 0)<r (p.getD (m-1) 0))=true then KasT.ret m else kas_asc p f (m+1)).kasWp cmp Q s)
  by_cases h:r (p.getD m 0)<r (p.getD (m-1) 0)
  ·rw[Yh (YD h)];exact hQ m (Ye _) (by omega) hu λ_=>h
  ·rw[Yd (by simpa using h)];have ne:=P.ne m (m-1) (by omega) (by omega) (by omega);exact rH hc P f (m+1) (by omega) (by omega) (hu.succ h1 (by omega)) λm' h2=>hQ m' (by omega)
theorem si (hc:∀i j C,i<n->j<n->i≠j->C (decide (r i<r j)) s->cmp i j C s)(P:Pm n r p){Q:Array Nat×Nat×Nat->Shared->Prop}:∀(f m:Nat),1<=m->m+f=n->Dn r p m →
 (∀m',m<=m'->m'<=n->Dn r p m'->Q (p,m',0) s)->(kas_desc f p m 0).kasWp cmp Q s
 |0,m,h1,hm,hu,hQ=>hQ m (Ye _) (by omega) hu
 |f+1,m,h1,hm,hu,hQ=>by
  refine hc _ _ _ (P.lt m (by omega)) (P.lt (m-1) (by omega)) (P.nq m (m-1) (by omega) (by omega) (by omega)) ?_
  by_cases h:r (p.getD m 0)<r (p.getD (m-1) 0)
  ·rw[YD h];exact si hc P f (m+1) (by omega) (by omega) (hu.succ h1 h) λm' h2=>hQ m' (by omega)
  ·rw[Yu h];refine hc _ _ _ (P.lt (m-1) (by omega)) (P.lt m (by omega)) (P.nq (m-1) m (by omega) (by omega) (by omega)) ?_;have ne:=P.ne m (m-1) (by omega) (by omega) (by omega);rw[YD (show r (p.getD (m-1) 0)<r (p.getD m 0) by omega)];exact hQ m (Ye _) (by omega) hu
theorem adQ (inj:∀i j,i<n->j<n->i≠j->r i≠r j)(hc:∀i j C,i<n->j<n->i≠j->C (decide (r i<r j)) s->cmp i j C s)(P:Pm n r p){Q:Nat×Array Nat->Shared->Prop}(h1:1<=m)(hm:m<=n)(hd:Dn r p m)
 (hQ:∀m' p',m'<=n->1<=m'->Pm n r p'->Up r p' m'->Q (m',p') s):(kas_tail3 m n p).kasWp cmp Q s:=by
 unfold kas_tail3;rw[kZ];have P':Pm n r (kas_rev p 0 m):=pk inj ((mirror_perm _ _ _ _).trans P.perm);exact rH hc P' (n-m) m h1 (by omega) (hd.rev (by rw[P.size];exact hm)) λm' h2 h3 h4 _=>hQ m' _ h3 (by omega) P' h4
theorem aed (inj:∀i j,i<n->j<n->i≠j->r i≠r j)(hc:∀i j C,i<n->j<n->i≠j->C (decide (r i<r j)) s->cmp i j C s)(h0:1<=n)(P:Pm n r p){Q:Nat×Array Nat->Shared->Prop}
 (hQ:∀m' p',m'<=n->1<=m'->Pm n r p'->Up r p' m'->Q (m',p') s):(kas_count n p).kasWp cmp Q s:=by
 unfold kas_count;rw[kZ];refine rH hc P (n-1) 1 (Ye _) (by omega) (λi j GD hj=>by omega) λm h1 h2 h3 h4=>?_
 by_cases e:m=n
 ·subst e;rw[Yh (by simp)];exact hQ _ _ (Ye _) h1 P h3
 ·rw[Yd (by simpa using e)]
  by_cases h5:m>1
  ·rw[Yh h5];refine hc _ _ _ (P.lt 0 (by omega)) (P.lt (m-1) (by omega)) (P.nq 0 (m-1) (by omega) (by omega) (by omega)) ?_;rw[YD (h3 0 (m-1) (by omega) (by omega))];exact hQ _ _ h2 h1 P h3
  ·rw[Yd h5]
   have e1:m=1:=by omega
   subst e1;unfold kas_descPart;rw[kZ];have d2:Dn r p (1+1):=Dn.succ (λi j GD hj=>by omega) (Ye _) (h4 (by omega));refine si hc P (n-(1+1)) (1+1) (by omega) (by omega) d2 λm' h6 h7 h8=>?_;show((if 0>0 then _ else kas_tail3 m' n p).kasWp cmp Q s);rw[Yd (by omega)];exact adQ inj hc P (by omega) h7 h8 hQ
theorem jX (hc:∀i j C,i<n->j<n->i≠j->C (decide (r i<r j)) s->cmp i j C s)(P:Pm n r p){Q:Nat->Shared->Prop}(hk:k<n)(hu:Up r p k):∀(f l q:Nat),l<=q->q<=k->q-l<=f->(∀j,j<l->r (p.getD j 0)<r (p.getD k 0))->(∀j,q<=j->j<k->r (p.getD k 0)<r (p.getD j 0)) →
 (∀l',l'<=k->(∀j,j<l'->r (p.getD j 0)<r (p.getD k 0))->(∀j,l'<=j->j<k->r (p.getD k 0)<r (p.getD j 0))->Q l' s)->(kas_place p k f l q).kasWp cmp Q s
 |0,l,q,h1,h2,h3,h4,h5,hQ=>hQ l (by omega) h4 λj h6 h7=>h5 j (by omega) h7
 |f+1,l,q,h1,h2,h3,h4,h5,hQ=>by
  unfold kas_place
  by_cases h:l ≥ q
  ·rw[Yh h];exact hQ l (by omega) h4 λj h6 h7=>h5 j (by omega) h7
  ·rw[Yd h];refine hc _ _ _ (P.lt k hk) (P.lt ((l+q)/2) (by omega)) (P.nq k ((l+q)/2) hk (by omega) (by omega)) ?_;have ne:=P.ne k ((l+q)/2) hk (by omega) (by omega)
   by_cases z:r (p.getD k 0)<r (p.getD ((l+q)/2) 0)
   ·rw[YD z];refine jX hc P hk hu f l ((l+q)/2) (by omega) (by omega) (by omega) h4 (λj h6 h7=>?_) hQ
    by_cases e:j=(l+q)/2
    ·subst e;exact z
    ·exact YX z (hu _ _ (by omega) h7)
   ·rw[Yu z];refine jX hc P hk hu f ((l+q)/2+1) q (by omega) h2 (by omega) (λj h6=>?_) h5 hQ
    by_cases e:j=(l+q)/2
    ·subst e;omega
    ·have:=hu j ((l+q)/2) (by omega) (by omega);omega
theorem rX {l:Nat}(hk:k<p.size)(hl:l<=k)(hj:j<p.size):(bubble p k (k-l)).getD j 0=if j=l then p.getD k 0 else if l<j/\j<=k then p.getD (j-1) 0 else p.getD j 0:=by
 have e:=getElem?_bubble hk (k-l) (by omega) j;rw[show k-(k-l)=l by omega,getD_some (by rw[bubble_size];exact hj)] at e
 by_cases h1:j=l
 ·rw[Yh h1,getD_some hk] at e;rw[Yh h1];exact Option.some.inj e
 ·rw[Yd h1] at e |-
  by_cases h2:l<j/\j<=k
  ·rw[Yh h2,getD_some (by omega)] at e;rw[Yh h2];exact Option.some.inj e
  ·rw[Yd h2,getD_some hj] at e;rw[Yd h2];exact Option.some.inj e
theorem vZ (inj:∀i j,i<n->j<n->i≠j->r i≠r j)(hc:∀i j C,i<n->j<n->i≠j->C (decide (r i<r j)) s->cmp i j C s){Q:Array Nat->Shared->Prop}(hQ:∀p',Pm n r p'->Up r p' n->Q p' s):∀(f:Nat)(p:Array Nat)(k:Nat),Pm n r p->k+f=n->Up r p k->(kas_bin f p k).kasWp cmp Q s
 |0,p,k,P,hk,hu=>hQ p P (by rw[<-hk];exact hu)
 |f+1,p,k,P,hk,hu=>by
  unfold kas_bin;rw[kZ];refine jX hc P (by omega) hu k 0 k (Yt _) (Ye _) (by omega) (λj h=>by omega) (λj h1 h2=>by omega) λl h1 h2 h3=>?_;have P':Pm n r (bubble p k (k-l)):=pk inj ((bubble_perm _ _ _).trans P.perm);refine vZ inj hc hQ f _ (k+1) P' (by omega) λi j GD hj=>?_;have sz:=P.size;rw[rX (by omega) h1 (by omega),rX (by omega) h1 (by omega)]
  by_cases e1:i=l
  ·rw[Yh e1,Yd (by omega),Yh ⟨by omega,by omega⟩];exact h3 _ (by omega) (by omega)
  ·rw[Yd e1]
   by_cases e2:j=l
   ·rw[Yh e2,Yd (by omega)];exact h2 _ (by omega)
   ·rw[Yd e2]
    by_cases e3:l<j
    ·rw[Yh (show l<j/\j<=k from⟨e3,by omega⟩)]
     by_cases e4:l<i
     ·rw[Yh ⟨e4,by omega⟩];exact hu _ _ (by omega) (by omega)
     ·rw[Yd (by omega)];exact hu _ _ (by omega) (by omega)
    ·rw[Yd (by omega),Yd (by omega)];exact hu _ _ GD (by omega)
theorem sY (inj:∀i j,i<n->j<n->i≠j->r i≠r j)(hc:∀i j C,i<n->j<n->i≠j->C (decide (r i<r j)) s->cmp i j C s)(h0:1<=n){Q:Array Nat->Shared->Prop}(hQ:∀p',Pm n r p'->Up r p' n->Q p' s):(kas_sort n).kasWp cmp Q s:=by
 unfold kas_sort;rw[kZ];refine aed inj hc h0 (pk inj (xa _)) λm p h1 h2 P hu=>?_;show((if m<n then kas_bin (n-max m 1) p (max m 1) else KasT.ret p).kasWp cmp Q s)
 by_cases h:m<n
 ·rw[Yh h,show max m 1=m by omega];exact vZ inj hc hQ _ _ _ P (by omega) hu
 ·rw[Yd h]
  have e:m=n:=by omega
  subst e;exact hQ p P hu
end
variable {vs:nN}{n:Nat}
section
variable {prog:yo}{w:World}{A:Around}{E:pH}{s:Bi}
noncomputable def mH (prog:yo)(w:World)(A:Around)(ks:nN)(r:Nat->Nat)(s:Bi):Prop :=
 ∃κ,(∀Q:SortKind->Shared->Prop,Q κ s->wpAny (model prog w) A (keyKind' ks.toArray) Q (λ_ _=>False) s)/\∀i j C,i<ks.length->j<ks.length->i≠j->C (decide (r i<r j)) s->kas_ask prog w A κ ks i j C s
noncomputable def cU (vs:nN)(p:Array Nat):List Value:=p.toList.map λi=>vs.getD i Value.none
theorem oB (vs:nN):cU vs (List.range vs.length).toArray=vs:=by
 unfold cU;apply vV
 ·simp
 ·intro i h1 h2;simp[h2]
theorem aee {r:Nat->Nat}(P:Pm vs.length r p):(cU vs p).length=vs.length:=by
 unfold cU;rw[Yg,Yz,P.size]
theorem c5 (h:n<64):n<=sizeLine:=by rw[ZX];omega
noncomputable def xx (a:Addr)(h h':Heap):Prop:=∀b o,b≠a->h.get? b=some o->h'.get? b=some o
theorem adR {h:Heap}{a:Addr}{o1 o2:Obj}{g:Obj->Obj}:xx a h (((h.update a g).push o1).push o2):=λb o hb e=>by
 refine Yc _ (Yc _ ?_);rw[mK _ _ _ _ hb];exact e
theorem adD {a:Addr}{r:Nat->Nat}{P:PySem.Fin->Shared->Prop}(ho:s.heap.get? a=some (seqObj "list" vs.toArray n))(h64:vs.length<64)
 (inj:∀i j,i<vs.length->j<vs.length->i≠j->r i≠r j)
 (hk:2<=vs.length->∀h',xx a s.heap h'->mH prog w A vs r {s with heap:=h'})
 (hP:∀h' p c,xx a s.heap h'->h'.get? a=some (seqObj "list" (cU vs p).toArray c)->Pm vs.length r p->Up r p vs.length->P (.done (.ret .none)) {s with heap:=h'}):
 wpAny (model prog w) A (Builtin.«list.sort» ⟨[.ref a],[]⟩) P E s:=by
 have ha:a<s.heap.objs.size:=Ym ho;obtain⟨e1,HN⟩:∃e1,(s.heap.update a (Obj.mapSeq λ_=>(#[]:Cu))).get? a=some (seqObj "list" #[] e1):=⟨_,Al ho λ_=>#[]⟩;rw[list_sort_plain];refine X9 (listItems_at ho rfl (X9 (uF ho rfl (X9 (CI HN rfl (X9 (BB (X9 (D5 ?_ (Yt _))) (c5 h64))))) (by rw[Yj];exact c5 h64) (Yt _))));refine YY (?_:wpAny (model prog w) A _ P E {s with heap:=((s.heap.update a (Obj.mapSeq λ_=>(#[]:Cu))).push (seqObj "tuple" vs.toArray 0)).push (seqObj "list" #[] 0)});have kp:xx a s.heap (((s.heap.update a (Obj.mapSeq λ_=>(#[]:Cu))).push (seqObj "tuple" vs.toArray 0)).push (seqObj "list" #[] 0)):=adR;have JJ:(((s.heap.update a (Obj.mapSeq λ_=>(#[]:Cu))).push (seqObj "tuple" vs.toArray 0)).push (seqObj "list" #[] 0)).get? a=some (seqObj "list" #[] e1):=Yc _ (Yc _ HN);generalize ((s.heap.update a (Obj.mapSeq λ_=>(#[]:Cu))).push (seqObj "tuple" vs.toArray 0)).push (seqObj "list" #[] 0)=h6 at kp JJ |-
 have fin:∀p,Pm vs.length r p->Up r p vs.length->P (.done (.ret .none)) {s with heap:=h6.update a (Obj.mapSeq λ_=>(cU vs p).toArray)}:=λp pm up=>by
  obtain⟨c2,Gq⟩:∃c2,(h6.update a (Obj.mapSeq λ_=>(cU vs p).toArray)).get? a=some (seqObj "list" (cU vs p).toArray c2):=⟨_,Al JJ λ_=>(cU vs p).toArray⟩;exact hP _ p c2 (λb o hb e=>by rw[mK _ _ _ _ hb];exact kp b o hb e) Gq pm up
 have last:∀p,Pm vs.length r p->(List.toArray (cU vs p)).size<=sizeLine:=λp pm=>by rw[Yj,aee pm];exact c5 h64
 dsimp only
 by_cases h2:vs.toArray.size<2
 ·have small:vs.length<2:=by simpa using h2
  rw[Yh h2,Yh h2];refine X9 (Yb ?_);rw[StateT.run_pure];refine X9 (Yb ?_)
  have hm:(arrOf (SortSt.mk' general' (vs.toArray.zip vs.toArray) #[] 7 none)).map (·.2)=(cU vs (List.range vs.length).toArray).toArray:=by
   rw[oB];show(vs.toArray.zip vs.toArray).map (·.2)=vs.toArray;apply uL.mp;simp[List.map_snd_zip]
  have P0:Pm vs.length r (List.range vs.length).toArray:=pk inj (xa _)
  have U0:Up r (List.range vs.length).toArray vs.length:=λi j GD hj=>by omega
  dsimp only;rw[hm];refine X9 (CI JJ rfl (X9 (uF JJ rfl ?_ (Yt _) (qq (last _ P0)))));simp only[rK,Zl,Zv];exact Yb (fin _ P0 U0)
 ·have big:2<=vs.length:=by simpa using h2
  rw[Yd h2,Yd h2];obtain⟨κ,Gp,Jf⟩:=hk big h6 kp;refine X9 (YR (Gp (λκ' s0=>(kas_sort vs.length).kasWp (kas_ask prog w A κ' vs) (λp s'=>s'={s with heap:=h6}/\Pm vs.length r p/\Up r p vs.length) s0) (sY (n:=vs.length) (r:=r) inj Jf (by omega) (Q:=λp s'=>s'={s with heap:=h6}/\Pm vs.length r p/\Up r p vs.length) λp pm up=>⟨rfl,pm,up⟩)) (λκ' s0 hw=>?_) λ_ _ x=>x.elim);refine X9 (YR (kat_run (κ:=κ') (Q:=λF8 s'=>∃p:Array Nat,arrOf F8=p.map (kas_item (vs.toArray.zip vs.toArray))/\failedOf F8=none/\s'={s with heap:=h6}/\Pm vs.length r p/\Up r p vs.length) rfl big h64 (λp' F8 s' _ a2 a3 a4=>⟨p',a2,a3,a4⟩) hw) ?_ λ_ _ e=>e);rintro⟨⟨⟩,F8⟩ s' ⟨p,Ku,hf,rfl,pm,up⟩;dsimp only;rw[kat_snds rfl Ku];refine X9 (CI JJ rfl (X9 (uF JJ rfl ?_ (Yt _) (qq (last _ pm)))));rw[hf];simp only[rK,Zl,Zv];exact Yb (fin p pm up)
theorem adS {l:Addr}{r:Nat->Nat}{Q:pH}(hl:s.heap.IsList l vs.toArray)(h64:vs.length<64)
 (inj:∀i j,i<vs.length->j<vs.length->i≠j->r i≠r j)
 (hk:2<=vs.length->∀h',(∀b o,s.heap.get? b=some o->h'.get? b=some o)->mH prog w A.in1.in1 vs r {s with heap:=h'})
 (hQ:∀h' D p c,(∀b o,s.heap.get? b=some o->h'.get? b=some o)->s.heap.get? D=none->h'.get? D=some (seqObj "list" (cU vs p).toArray c)->Pm vs.length r p->Up r p vs.length->Q (.ref D) {s with heap:=h'}):
 wpAny (model prog w) A (call (.builtin "sorted") [.ref l]) Q E s:=by
 refine zK kind_sorted plain_sorted entry_sorted (args_sorted1 _) ?_;unfold Builtin.«sorted»;refine X9 (m:=checkCount "sorted" 1 1 _) (Yb (X9 (collect_list hl (X9 (D5 ?_ (c5 h64))) (c5 h64))))
 have sz:((s.heap.push (seqObj "list" #[] 0)).update s.heap.objs.size (Obj.mapSeq (·++vs.toArray))).objs.size=s.heap.objs.size+1:=by rw[Heap.size_update];exact size_push' _ _
 have Jg:(((s.heap.push (seqObj "list" #[] 0)).update s.heap.objs.size (Obj.mapSeq (·++vs.toArray))).push (seqObj "list" vs.toArray 0)).get? (s.heap.objs.size+1)=some (seqObj "list" vs.toArray 0):=by
  rw[<-sz];exact Yk _ rfl
 have old:∀b o,s.heap.get? b=some o->(((s.heap.push (seqObj "list" #[] 0)).update s.heap.objs.size (Obj.mapSeq (·++vs.toArray))).push (seqObj "list" vs.toArray 0)).get? b=some o:=λb o q=>by
  have lt:b<s.heap.objs.size:=Ym q;refine Yc _ ?_;rw[mK _ _ _ _ (Yr lt)];exact Yc _ q
 have new:s.heap.get? (s.heap.objs.size+1)=none:=Heap.get?_none_of_le (vO _);show wpAny _ _ _ _ _ {s with heap:=((s.heap.push (seqObj "list" #[] 0)).update s.heap.objs.size (Obj.mapSeq (·++vs.toArray))).push (seqObj "list" vs.toArray 0)};rw[sz];generalize ((s.heap.push (seqObj "list" #[] 0)).update s.heap.objs.size (Obj.mapSeq (·++vs.toArray))).push (seqObj "list" vs.toArray 0)=h5 at Jg old |-;have kp:∀h',xx (s.heap.objs.size+1) h5 h'->∀b o,s.heap.get? b=some o->h'.get? b=some o:=λh' k b o q=>k b o (λz=>by rw[z,new] at q;cases q) (old b o q);refine X9 (YY (YJ slot_list_sort ⟨_,Jg,rfl⟩ entry_list_sort (adD (s:={s with heap:=h5}) (r:=r) Jg h64 inj (λb h' k=>hk b h' (kp h' k)) λh' p c k e pm up=>⟨_,rfl,?_⟩) (args_list_sort _)));exact Yb ⟨_,rfl,hQ h' _ p c (kp h' k) new e pm up⟩
end
open L2
noncomputable abbrev Ky:=Int×List Int
noncomputable def kR (a b:Ky):Bool:=if a.1=b.1 then HT.cT a.2 b.2 else decide (a.1<b.1)
theorem jA:∀xs:List Int,HT.cT xs xs=false
 |[]=>rfl
 |x::xs=>by rw[HT.d9,Yh rfl];exact jA xs
theorem l6:∀{xs ys zs:List Int},HT.cT xs ys=true->HT.cT ys zs=true->HT.cT xs zs=true
 |[],[],_,h,_=>by cases h
 |[],y::ys,[],_,h=>by cases h
 |[],y::ys,z::zs,_,_=>rfl
 |x::xs,[],_,h,_=>by cases h
 |x::xs,y::ys,[],_,h=>by cases h
 |x::xs,y::ys,z::zs,h1,h2=>by
  rw[HT.d9] at h1 h2 |-
  by_cases e1:x=y
  ·rw[Yh e1] at h1
   by_cases e2:y=z
   ·rw[Yh e2] at h2;rw[Yh (e1.trans e2)];exact l6 h1 h2
   ·rw[Yd e2] at h2;rw[e1,Yd e2];exact h2
  ·rw[Yd e1] at h1;have l1:=Zg h1
   by_cases e2:y=z
   ·rw[<-e2,Yd e1];exact h1
   ·rw[Yd e2] at h2;have l2:=Zg h2;rw[Yd (by omega)];exact YD (by omega)
theorem mj:∀{xs ys:List Int},xs≠ys->HT.cT xs ys=true\/HT.cT ys xs=true
 |[],[],h=>absurd rfl h
 |[],y::ys,_=>.inl rfl
 |x::xs,[],_=>.inr rfl
 |x::xs,y::ys,h=>by
  rw[HT.d9,HT.d9]
  by_cases e:x=y
  ·subst e;rw[Yh rfl,Yh rfl];exact mj λz=>h (by rw[z])
  ·rw[Yd e,Yd (YM e)];simp only[Bu];omega
theorem kO (a:Ky):kR a a=false:=by unfold kR;rw[Yh rfl];exact jA _
theorem iM {a b c:Ky}(h1:kR a b=true)(h2:kR b c=true):kR a c=true:=by
 unfold kR at h1 h2 |-
 by_cases e1:a.1=b.1
 ·rw[Yh e1] at h1
  by_cases e2:b.1=c.1
  ·rw[Yh e2] at h2;rw[Yh (e1.trans e2)];exact l6 h1 h2
  ·rw[Yd e2] at h2;rw[e1,Yd e2];exact h2
 ·rw[Yd e1] at h1;have l1:=Zg h1
  by_cases e2:b.1=c.1
  ·rw[<-e2,Yd e1];exact h1
  ·rw[Yd e2] at h2;have l2:=Zg h2;rw[Yd (by omega)];exact YD (by omega)
theorem i4 {a b:Ky}(h:a≠b):kR a b=true\/kR b a=true:=by
 unfold kR
 by_cases e:a.1=b.1
 ·rw[Yh e,Yh e.symm];exact mj λz=>h (rf e z)
 ·rw[Yd e,Yd (YM e)];simp only[Bu];omega
noncomputable def cH (ks:List Ky)(i:Nat):Ky:=ks.getD i (0,[])
noncomputable def rk (ks:List Ky)(i:Nat):Nat:=(List.range ks.length).countP λj=>kR (cH ks j) (cH ks i)
theorem me {α:Type}{p q:α->Bool}:∀{l:List α},(∀x∈l,p x=true->q x=true)->(∃x∈l,q x=true/\p x=false)->l.countP p<l.countP q
 |[],_,⟨x,hx,_⟩=>by cases hx
 |a::l,h,⟨x,hx,h1,h2⟩=>by
  have le:∀l':List α,(∀x∈l',p x=true->q x=true)->l'.countP p<=l'.countP q:=λl' h'=>List.countP_mono_left h';rw[List.countP_cons,List.countP_cons]
  rcases Yn.mp hx with rfl|hx
  ·rw[Yh h1,Yd (by rw[h2];exact Yp)];have:=le l λx hx=>h x (Yi _ hx);omega
  ·have ih:=me (l:=l) (λx hx=>h x (Yi _ hx)) ⟨x,hx,h1,h2⟩;have h0:=h a Yl
   cases e:p a with
   |false=>simp only[Zl,Zv];omega
   |true=>rw[h0 e];simp only[ZR];omega
variable {ks:List Ky}
theorem hV {i:Nat}(hi:i<ks.length)(h:kR (cH ks i) (cH ks j)=true):rk ks i<rk ks j :=
 me (λl _ hl=>iM hl h) ⟨i,ZD.mpr hi,h,kO _⟩
theorem xW {i:Nat}(hi:i<ks.length)(hj:j<ks.length):decide (rk ks i<rk ks j)=kR (cH ks i) (cH ks j):=by
 cases e:kR (cH ks i) (cH ks j) with
 |true=>exact YD (hV hi e)
 |false =>
  refine Yu λz=>?_
  by_cases k:cH ks i=cH ks j
  ·unfold rk at z;rw[k] at z;exact Zh _ z
  ·rcases i4 k with h|h
   ·rw[e] at h;cases h
   ·exact Nat.lt_asymm z (hV hj h)
theorem yb (nd:ks.Nodup):∀i j,i<ks.length->j<ks.length->i≠j->rk ks i≠rk ks j:=λi j hi hj F2 z=>by
 have k:cH ks i≠cH ks j:=λe=>by
  have e':ks[i]=ks[j]:=by
   unfold cH at e;simpa[hi,hj] using e
  have pw:=ZW.mp (show ks.Pairwise (· ≠ ·) from nd)
  rcases Nat.lt_or_gt_of_ne F2 with l|l
  ·exact pw i j _ _ l e'
  ·exact pw j i _ _ l e'.symm
 rcases i4 k with h|h
 ·have:=hV hi h;omega
 ·have:=hV hj h;omega
noncomputable def tZ (K:Frag)(H:Hp)(x:V)(k:Ky):Prop:=∃a b rest,x=.ref a/\aU K H a (.int k.1 :: .ref b::rest)/\aU K H b (k.2.map V.int)
noncomputable def c6 (K:Frag)(H:Hp):List V->List Ky->Prop
 |[],[]=>True
 |x::xs,k::ks=>tZ K H x k/\c6 K H xs ks
 |_,_=>False
variable {K:Frag}{H:Hp}
theorem c6.len :∀{xs:List V}{ks:List Ky},c6 K H xs ks->xs.length=ks.length
 |[],[],_=>rfl
 |_::_,_::_,⟨_,r⟩=>Ze (·+1) r.len
 |[],_::_,h=>h.elim
 |_::_,[],h=>h.elim
theorem c6.get :∀{xs:List V}{ks:List Ky}{i:Nat}{x:V},c6 K H xs ks->xs[i]?=some x->tZ K H x (cH ks i)
 |x::xs,k::ks,0,y,⟨h,_⟩,e=>by simp at e;subst e;exact h
 |x::xs,k::ks,i+1,y,⟨_,r⟩,e=>by
  have:=r.get (i:=i) (x:=y) (by simpa using e);simpa[cH] using this
 |[],[],i,y,_,e=>by simp at e
 |[],_::_,_,_,h,_=>h.elim
 |_::_,[],_,_,h,_=>h.elim
theorem gO :∀ns:List Int,bg K H (ns.map D.int) (ns.map V.int)
 |[]=>by unfold bg;rfl
 |n::ns=>by unfold bg;exact⟨_,_,rfl,by unfold aM;rfl,gO ns⟩
theorem adT (ns:List Int):iR (.tup (ns.map D.int))<=1:=by
 unfold iR
 have:∀ms:List Int,eP (ms.map D.int)=0:=λms=>by
  induction ms with
  |nil=>unfold eP;rfl
  |cons m ms ih=>rw[YF];unfold eP;rw[ih];unfold iR;rfl
 rw[this];omega
theorem j8:∀ns ms:List Int,eG (ns.map D.int) (ms.map D.int)=decide (ns=ms)
 |[],[]=>by simp;rfl
 |[],m::ms=>by simp;rfl
 |n::ns,[]=>by simp;rfl
 |n::ns,m::ms=>by
  show((n==m)&&eG (ns.map D.int) (ms.map D.int))=_;rw[j8 ns ms]
  by_cases e:n=m
  ·subst e;simp
  ·simp[e]
variable {xs:List V}{us:nN}
section
variable {X:Cx}{pins:List (Addr×Obj)}{σ:L2.St}{H:Hp}{s:Bi}
theorem afb {A:Around}{x y:V}{u v:Value}{k j:Ky}{C:Bool->Shared->Prop}{E:pH}(I:Inv X pins σ H s)(hA:A.units+2<cLine)(hx:tZ X.K H x k)(hy:tZ X.K H y j)(rx:aG x u)(ry:aG y v)(ne:k≠j)(h:C (kR k j) s):
 wpAny (model X.prog X.w) A (keyLt' (tuples' true) u v) C E s:=by
 obtain⟨a,b,rest,rfl,h1,h2⟩:=hx;obtain⟨a',b',Q6,rfl,HX,JH⟩:=hy
 cases(show u=Value.ref a from rx)
 cases(show v=Value.ref a' from ry)
 obtain⟨its,r1,⟨o1,g1,_,n1,d1⟩,_⟩:=I.tuple h1;obtain⟨its',Nc,⟨XH,TL,_,XI,TM⟩,_⟩:=I.tuple HX;refine kat_lt g1 d1 TL TM ?_
 cases r1 with
 |cons q1 r1 =>
  cases r1 with
  |cons q2 r1 =>
   cases Nc with
   |cons TN Nc =>
    cases Nc with
    |cons TQ Nc =>
     obtain⟨t,rfl⟩:=q1;obtain⟨t',rfl⟩:=TN
     rename_i w2 _ TR _
     cases(show w2=Value.ref b from q2)
     cases(show TR=Value.ref b' from TQ)
     show KatLex _ _ _ _ _ _ ((Value.int k.1 t,Value.int j.1 t'):: (Value.ref b,Value.ref b'):: _) 0 s;refine kat_cons (zG k.1 t j.1 t' X.prog X.w _ _ ?_)
     have klt_def:kR k j=if k.1=j.1 then HT.cT k.2 j.2 else decide (k.1<j.1):=rfl
     refine kat_go (λe=>kat_yes ?_) λe=>kat_no ?_
     ·have e1:k.1=j.1:=by simpa using e
      have n2:k.2≠j.2:=λz=>ne (rf e1 z);have dd:=(iI I 1 A (.tup (k.2.map D.int)) (.tup (j.2.map D.int)) (.ref b) (.ref b') (.ref b) (.ref b') (adT _) (by omega) (by unfold aM;exact⟨b,_,rfl,h2,gO _⟩) (by unfold aM;exact⟨b',_,rfl,JH,gO _⟩) rfl rfl).2.1;have e2:gZ (.tup (k.2.map D.int)) (.tup (j.2.map D.int))=false:=(j8 _ _).trans (Yu n2);rw[e2] at dd;refine kat_cons (dd X.prog X.w _ _ (kat_no ?_));rw[klt_def,Yh e1] at h;obtain⟨Fx,p2,t2,_⟩:=I.tuple h2;obtain⟨Q7,TU,TV,_⟩:=I.tuple JH;exact kat_one _ _ (HT.abz t2 TV (jB p2) (jB TU) (by omega) h)
     ·have e1:k.1≠j.1:=by simpa using e
      rw[klt_def,Yd e1] at h;exact oneLt_int h
theorem y6 (I:Inv X pins σ H s)(xs:List V):∀(ks:List Ky)(us:nN),c6 X.K H xs ks->aR xs us->∃fs:List Value,KatTups s.heap us fs/\fs.length=us.length/\∀f∈fs,∃i t,f=Value.int i t:=by
 induction xs with
 |nil =>
  intro ks us _ r
  cases r
  exact⟨[],.nil,rfl,λf hf=>by cases hf⟩
 |cons x xs ih =>
  intro ks us h r
  cases ks with
  |nil=>exact h.elim
  |cons k ks =>
   cases r with
   |cons rx rv =>
    rename_i u us
    obtain⟨⟨a,b,rest,e,h1,_⟩,hr⟩:=h;obtain⟨fs,t,hl,hf⟩:=ih ks us hr rv;subst e
    cases(show u=Value.ref a from rx)
    obtain⟨its,r1,⟨o1,g1,c1,n1,d1⟩,_⟩:=I.tuple h1
    cases r1 with
    |cons q1 r1 =>
     obtain⟨tk,rfl⟩:=q1;refine⟨Value.int k.1 tk::fs,.cons g1 c1 d1 rfl t,by simp[hl],λf TY=>?_⟩
     rcases Yn.mp TY with rfl|z
     ·exact⟨_,_,rfl⟩
     ·exact hf f z
theorem jG {A:Around}(I:Inv X pins σ H s)(hA:A.units+2<cLine)(hk:c6 X.K H xs ks)(rv:aR xs us)(nd:ks.Nodup)(h2:2<=us.length):mH X.prog X.w A us (rk ks) s:=by
 obtain⟨fs,t,hl,hf⟩:=y6 I xs ks us hk rv;have zg:=hk.len;have Fl:=rv.length;refine⟨tuples' true,λQ hq=>kat_kind (T:=Value.type "int") t (by omega) (λv hv=>?_) (by decide) hq,λi j C hi hj F2 hc=>?_⟩
 ·obtain⟨i,tk,rfl⟩:=hf v hv;exact .now
 ·have gi:∃x,xs[i]?=some x/\aG x (us.getD i .none):=by
   have Q8:i<xs.length:=by omega
   obtain⟨u,e,r⟩:=rv.get (i:=i) (x:=xs[i]) (by simp[Q8]);refine⟨xs[i],by simp[Q8],?_⟩;rw[Zt,e];exact r
  have gj:∃x,xs[j]?=some x/\aG x (us.getD j .none):=by
   have Jh:j<xs.length:=by omega
   obtain⟨u,e,r⟩:=rv.get (i:=j) (x:=xs[j]) (by simp[Jh]);refine⟨xs[j],by simp[Jh],?_⟩;rw[Zt,e];exact r
  obtain⟨x,ex,rx⟩:=gi;obtain⟨y,ey,ry⟩:=gj;rw[xW (by omega) (by omega)] at hc
  have TZ:cH ks i≠cH ks j:=λz=>by
   have e':ks[i]'(by omega)=ks[j]'(by omega):=by
    unfold cH at z;simpa[show i<ks.length by omega,show j<ks.length by omega] using z
   have pw:=ZW.mp (show ks.Pairwise (· ≠ ·) from nd)
   rcases Nat.lt_or_gt_of_ne F2 with l|l
   ·exact pw i j _ _ l e'
   ·exact pw j i _ _ l e'.symm
  exact afb I hA (hk.get ex) (hk.get ey) rx ry TZ hc
end
section
variable {α:Type}
noncomputable def lB (k:Ky)(x:α):List (Ky×α)->List (Ky×α)
 |[]=>[(k,x)]
 |(j,y):: r=>if kR k j=true then(k,x):: (j,y):: r else(j,y):: lB k x r
noncomputable def cP:List (Ky×α)->List (Ky×α)
 |[]=>[]
 |(k,x):: r=>lB k x (cP r)
theorem iO (k:Ky)(x:α):∀l:List (Ky×α),(lB k x l).Perm ((k,x):: l)
 |[]=>.refl _
 |(j,y):: r=>by
  unfold lB
  split
  ·exact .refl _
  ·exact((iO k x r).cons _).trans (.swap _ _ _)
theorem cz:∀l:List (Ky×α),(cP l).Perm l
 |[]=>.refl _
 |(k,x):: r=>(iO k x _).trans ((cz r).cons _)
noncomputable def BR (l:List (Ky×α)):Prop:=l.Pairwise λa b=>kR a.1 b.1=true
theorem ua {k:Ky}{x:α}:∀{l:List (Ky×α)},BR l->(∀p∈l,p.1≠k)->BR (lB k x l)
 |[],_,_=>CM _ _
 |(j,y):: r,h,hn=>by
  obtain⟨h1,h2⟩:=YQ.mp h;unfold lB
  by_cases e:kR k j=true
  ·rw[Yh e];refine YQ.mpr ⟨λp hp=>?_,h⟩
   rcases Yn.mp hp with rfl|hp
   ·exact e
   ·exact iM e (h1 p hp)
  ·rw[Yd e];have jk:kR j k=true:=(i4 (hn _ Yl)).resolve_right e;refine YQ.mpr ⟨λp hp=>?_,ua h2 λp hp=>hn p (Yi _ hp)⟩
   rcases Yn.mp ((iO k x r).mem_iff.mp hp) with rfl|hp
   ·exact jk
   ·exact h1 p hp
theorem jT:∀{l:List (Ky×α)},(l.map (·.1)).Nodup->BR (cP l)
 |[],_=>.nil
 |(k,x):: r,h=>by
  obtain⟨h1,h2⟩:=YT.mp h;exact ua (jT h2) λp hp z=>h1 (z▸CO (f:=(·.1)) ((cz r).mem_iff.mp hp))
theorem mq:∀{l1 l2:List (Ky×α)},BR l1->BR l2->l1.Perm l2->l1=l2
 |[],l2,_,_,p=>(List.nil_perm.mp p).symm
 |a::l1,[],_,_,p=>(List.nil_perm.mp p.symm)
 |a::l1,b::l2,h1,h2,p=>by
  obtain⟨u1,v1⟩:=YQ.mp h1;obtain⟨u2,v2⟩:=YQ.mp h2
  have e:a=b:=by
   rcases Yn.mp (p.mem_iff.mp Yl) with z|z
   ·exact z
   ·rcases Yn.mp (p.mem_iff.mpr (Yl (a:=b) (l:=l2))) with w|w
    ·exact w.symm
    ·have c1:=u2 a z;have c2:=u1 b w;have c3:=iM c1 c2;rw[kO] at c3
     cases c3
  subst e;rw[mq v1 v2 (List.Perm.cons_inv p)]
theorem oM {l1 l2:List (Ky×α)}(nd:(l2.map (·.1)).Nodup)(h:BR l1)(p:l1.Perm l2):l1=cP l2:=mq h (jT nd) (p.trans (cz l2).symm)
theorem oY {l1 l2:List (Ky×α)}(nd:(l2.map (·.1)).Nodup)(p:l1.Perm l2):cP l1=cP l2:=by
 refine oM nd (jT ?_) ((cz l1).trans p);exact(p.map (·.1)).nodup_iff.mpr nd
end
noncomputable def Dy (xs:List V)(p:Array Nat):List V:=p.toList.map λi=>xs.getD i .non
theorem pK (rv:aR xs us){r:Nat->Nat}(P:Pm n r p)(hn:n<=xs.length):aR (Dy xs p) (cU us p):=by
 have key:∀l:List Nat,(∀i∈l,i<xs.length)->aR (l.map λi=>xs.getD i .non) (l.map λi=>us.getD i Value.none):=by
  intro l
  induction l with
  |nil=>intro _;exact .nil
  |cons i l ih =>
   intro h;have hi:=h i Yl;obtain⟨u,e,r⟩:=rv.get (i:=i) (x:=xs[i]) (by simp[hi]);refine .cons ?_ (ih λj hj=>h j (Yi _ hj));show aG (xs.getD i .non) (us.getD i Value.none);rw[Zt,Zt,e,show xs[i]?=some xs[i] by simp[hi]];exact r
 refine key p.toList λi hi=>?_
 have z:i∈(List.range n):=by
  have pl:p.toList.Perm (List.range n):=by simpa using P.perm.toList
  exact pl.mem_iff.mp hi
 have:=ZD.mp z;omega
theorem pV (hl:xs.length=ks.length)(nd:ks.Nodup)(P:Pm xs.length (rk ks) p)(U:Up (rk ks) p xs.length):Dy xs p=(cP (ks.zip xs)).map (·.2):=by
 have pl:p.toList.Perm (List.range xs.length):=by simpa using P.perm.toList
 have e1:(List.range xs.length).map (λi=>(cH ks i,xs.getD i V.non))=ks.zip xs:=by
  apply vV
  ·simp[hl]
  ·intro i h1 h2
   have hi:i<xs.length:=by simpa using h1
   have hk:i<ks.length:=by omega
   simp[cH,hi,hk]
 have z:p.toList.map (λi=>(cH ks i,xs.getD i V.non))=cP (ks.zip xs):=by
  refine oM ?_ ?_ ?_
  ·rw[List.map_fst_zip (by omega)];exact nd
  ·unfold BR;rw[List.pairwise_map];refine ZW.mpr λi j hi hj GD=>?_;have sz:=P.size;rw[Yz] at hi hj;have u:=U i j GD (by omega)
   have gi:p.getD i 0=p.toList[i]:=by simp[Array.getD,hi]
   have gj:p.getD j 0=p.toList[j]:=by simp[Array.getD,hj]
   rw[gi,gj] at u
   have bi:p.toList[i]<ks.length:=by rw[<-gi,<-hl];exact P.lt i (by omega)
   have bj:p.toList[j]<ks.length:=by rw[<-gj,<-hl];exact P.lt j (by omega)
   rw[<-xW bi bj];exact YD u
  ·exact(pl.map _).trans (by rw[e1])
 rw[<-z,rR];rfl
noncomputable def C9 (K:Frag):List V->Hp->VK->Prop:=λvs H Q=>∃l xs ks,vs=[.ref l]/\bo K H l xs/\xs.length<64/\c6 K H xs ks/\ks.Nodup/\∀D,H D=none->Q (.ref D) (upd H D (.lst ((cP (ks.zip xs)).map (·.2))))
section
variable {X:Cx}{k:Nat}
theorem pZ (hr:wa (k+2) X.A):cS X (.builtin "sorted") (C9 X.K):=by
 intro pins s σ H vs us Q I r h;obtain⟨l,xs,ks,rfl,hl,h64,hk,nd,q⟩:=h;obtain⟨u,rfl,ru⟩:=dw r
 cases(show u=Value.ref l from ru)
 obtain⟨its,rv,pl,hz⟩:=I.list hl;have ln:=rv.length;have lk:=hk.len;have inj:=yb nd;refine adS (r:=rk ks) pl.isList (by omega) (λi j hi hj=>inj i j (by omega) (by omega)) (λh2 h' kp=>?_) λh' D p c kp hD e pm up=>?_
 ·exact jG (s:={s with heap:=h'}) (I.kept (t':=s.toks) kp) (by have:=(hr.in1.in1).units;omega) hk rv nd h2
 ·have Q9:Pm xs.length (rk ks) p:=by rw[ln];exact pm
  have T1:Up (rk ks) p xs.length:=by rw[ln];exact up
  have hv:=pK rv Q9 (Ye _);rw[pV lk nd Q9 T1] at hv
  have hlen:((cP (ks.zip xs)).map (·.2)).length<=sizeLine:=by
   rw[Yg,(cz _).length_eq,DX];exact Yq (ZP _ _) (c5 h64)
  exact⟨.ref D,_,I.newObj (t':=s.toks) (o:=.lst ((cP (ks.zip xs)).map (·.2))) kp hD ⟨hlen,_,c,hv,e⟩,rfl,q D (I.adA hD)⟩
end
noncomputable def mf (sp:Sp):List V->Hp->(List V->Hp->Prop)->Prop
 |[],H,R=>R [] H
 |x::xs,H,R=>sp [x] H (λk H1=>mf sp xs H1 λks H2=>R (k::ks) H2) λ_ _ _=>False
variable {b:Addr}{ob:Obj}
section
variable {X:Cx}{pins:List (Addr×Obj)}{σ:L2.St}{H:Hp}{s:Bi}
theorem vw {D:Addr}{o:HO}(I:Inv X pins σ H s)(f:c8 X pins H D)(hD:X.s₀.heap.objs.size<=D)(new:bD X.prog X.w (upd H D o) s.heap D o):Inv X pins σ (upd H D o) s:=by
 obtain⟨f0,f1,f2,f3,f4,f5⟩:=f;have u:=I.base;refine⟨I.ok,I.os,I.bare,⟨u.keep,u.slot,λb' o' e n hx=>?_,u.there,λb' xs e=>?_,λb' o' u' e=>?_,λb' ps e=>?_⟩,I.loc,I.cell,?_,λx c e=>?_,λp hp=>?_,eY I.hok f0 new,I.len⟩
 ·rw[aA (Yr (Ys (Ym e) hD))];exact u.free b' o' e n hx
 ·rw[aA (aB (u.acK b' xs e) f0)];exact u.acK b' xs e
 ·rw[aA (aB (u.acH b' o' u' e) f0)];exact u.acH b' o' u' e
 ·obtain⟨m,q⟩:=u.acO b' ps e;exact⟨m,by rw[aA (aB q f0)];exact q⟩
 ·rw[aA (YM f1)];exact I.free
 ·rw[aA (f4 x c e)];exact I.acI x c e
 ·obtain⟨e,n,r⟩:=I.pin p hp;exact⟨e,by rw[aA (f5 p hp)];exact n,r⟩
theorem zi {c:Addr}(f:c8 X pins H b)(h:c≠b):c8 X (pins++[(c,ob)]) H b:=by
 obtain⟨f0,f1,f2,f3,f4,f5⟩:=f;refine⟨f0,f1,f2,f3,f4,λp hp=>?_⟩;rw[<-qK] at hp
 rcases YI.mp hp with z|z
 ·exact f5 p z
 ·have e:p=(c,ob):=by simpa using z
  subst e;exact h
theorem nV {H':Hp}(f:c8 X pins H b)(h:H' b=none):c8 X pins H' b:=⟨h,f.2⟩
theorem tX (I:Inv X pins σ H s)(f:c8 X pins H b)(e:s.heap.get? b=some ob)(d:∀v,ob.data≠.cell v):Inv X (pins++[(b,ob)]) σ H s:=I.acM λp hp=>by
 rcases YI.mp hp with z|z
 ·exact I.pin p (Yx _ z)
 ·have e1:p=(b,ob):=by simpa using z
  subst e1;exact⟨e,f.1,f.2.1,f.2.2.1,d⟩
theorem lY (I:Inv X (pins++[(b,ob)]) σ H s):Inv X pins σ H s:=I.acM λp hp=>I.pin p (Yx _ (ZE _ hp))
theorem wO (I:Inv X (pins++[(b,ob)]) σ H s):s.heap.get? b=some ob/\H b=none:=by
 obtain⟨e,n,_⟩:=I.pin (b,ob) (Yx _ (Yx _ (by simp)));exact⟨e,n⟩
end
theorem jL {c:String}{xs:Cu}:∀v,(seqObj c xs n).data≠.cell v:=λv z=>by cases z
variable {s:Bi}{Q:VK}
section
variable {X:Cx}{pins:List (Addr×Obj)}{σ:L2.St}{k:Nat}{f:Addr}{fd:BG}{ps:Ez}{sp:Sp}{A:Around}{E:pH}
theorem yB {x:V}{u:Value}(F:ya X.prog X.w X.K X.mg X.base (cD X.prog X.w) k f fd ps sp)(hr:wa k A)(hA:∀H s,Inv X pins σ H s->DP X.prog X.w X.K X.mg X.base A X.stack s H)(hb:ck X.K fd ps [])(I:Inv X pins σ H s)(r:aG x u)(h:sp [x] H Q λ_ _ _=>False):
 wpAny (model X.prog X.w) A (call (.ref f) [u]) (EP X pins σ Q) (λ_ _=>False) s:=by
 have hl:([u]:nN).length+([]:nN).length=ps.length:=by have:=F.len _ _ _ _ h;simpa using this
 have bd:=hb s [u] I.kIn hl;rw[Zc] at bd;refine rC (qP (F.run A X.stack s H ⟨[u],[]⟩ [u] [x] Q _ hr (hA H s I) bd (.cons r .nil) h) λres s' hq=>?_)
 cases res with
 |error e =>
  obtain⟨a,cls,a0,B,d,H',_,_,_,_,hE⟩:=hq;exact hE.elim
 |ok fl =>
  cases fl with
  |ret v=>exact I.after hq
  |next=>exact False.elim hq
  |brk=>exact False.elim hq
  |cont=>exact False.elim hq
end
noncomputable abbrev jD (X:Cx)(xs:List V)(Q:VK):List V->Hp->Prop:=λks H2=>∃kz,c6 X.K H2 ks kz/\kz.Nodup/\∀D,H2 D=none->Q (.ref D) (upd H2 D (.lst ((cP (kz.zip xs)).map (·.2))))
section
variable {X:Cx}{pins:List (Addr×Obj)}{σ:L2.St}{k:Nat}{f:Addr}{fd:BG}{ps:Ez}{sp:Sp}{A:Around}{E:pH}
theorem Ac {ks:nN}(h:ks.length=vs.length):((ks.toArray.zip vs.toArray).map (·.2))=vs.toArray:=by
 apply uL.mp;rw[Array.toList_map,ksk_zip];simp only[List.toList_toArray] at *;exact List.map_snd_zip (by omega)
theorem u5 {D kS:Addr}{e1 c:Nat}{kV:List V}{ks:nN}{P:PySem.Fin->Shared->Prop}(hA:A.units+2<cLine)(hD:X.s₀.heap.objs.size<=D)(fD:c8 X pins H D)(fS:c8 X pins H kS)(ne:kS≠D)
 (I:Inv X pins σ H s)(eD:s.heap.get? D=some (seqObj "list" #[] e1))(eS:s.heap.get? kS=some (seqObj "list" ks.toArray c))(rx:aR xs us)(Ji:aR kV ks)(hl:kV.length=xs.length)(h64:xs.length<64)(w:jD X xs Q kV H)
 (hP:∀s',EP X pins σ Q (.ref D) s'->P (.done (.ret .none)) s'):wpAny (model X.prog X.w) A (ksk_end D false us.toArray e1 (.ref kS) ks.toArray) P E s:=by
 obtain⟨kz,hk,nd,q⟩:=w;have l1:=rx.length;have l2:=Ji.length;have l3:=hk.len;have inj:=yb nd
 have fin:∀p,Pm xs.length (rk kz) p->Up (rk kz) p xs.length->∀st:SortSt,(arrOf st).map (·.2)=(cU us p).toArray->failedOf st=none->wpAny (model X.prog X.w) A (ksk_tail D false e1 (.ref kS) st) P E s:=λp pm up st Ku hf=>by
  have N9:=pK rx pm (Ye _);rw[pV (by omega) nd pm up] at N9
  have hlen:((cP (kz.zip xs)).map (·.2)).length<=sizeLine:=by
   rw[Yg,(cz _).length_eq,DX];exact Yq (ZP _ _) (c5 h64)
  have Oa:(cU us p).toArray.size<=sizeLine:=by rw[Yj,<-N9.length];exact hlen
  have Kv:=Y1 s.heap kS (Obj.mapSeq λ_=>(#[]:Cu));have Im:(s.heap.update kS (Obj.mapSeq λ_=>(#[]:Cu))).get? D=some (seqObj "list" #[] e1):=(Kv.2 D (YM ne)).trans eD;have I1:Inv X pins σ H {s with heap:=s.heap.update kS (Obj.mapSeq λ_=>(#[]:Cu))}:=de I fS Kv;unfold ksk_tail;dsimp only;rw[Ku];refine X9 (uF eS rfl (X9 (ET ?_)) (by rw[Yj,<-l2,hl];exact c5 h64) (Yt _));generalize s.heap.update kS (Obj.mapSeq λ_=>(#[]:Cu))=h1 at Im I1 |-;have T2:=Y1 h1 D (Obj.mapSeq λ_=>(cU us p).toArray);obtain⟨c2,Gq⟩:∃c2,(h1.update D (Obj.mapSeq λ_=>(cU us p).toArray)).get? D=some (seqObj "list" (cU us p).toArray c2):=⟨_,Al Im λ_=>(cU us p).toArray⟩;have I2:Inv X pins σ H {s with heap:=h1.update D (Obj.mapSeq λ_=>(cU us p).toArray)}:=de (s:={s with heap:=h1}) I1 fD T2;have I3:=vw (o:=.lst ((cP (kz.zip xs)).map (·.2))) I2 fD hD ⟨hlen,_,c2,N9,Gq⟩;refine X9 (CI Im rfl (X9 (uF Im rfl ?_ (Yt _) (qq Oa))));rw[hf];simp only[rK,Zl,Zv];exact Yb (hP _ ⟨.ref D,_,I3,rfl,q D fD.1⟩)
 have P0:Pm xs.length (rk kz) (List.range xs.length).toArray:=pk (λi j hi hj=>inj i j (by omega) (by omega)) (xa _);unfold ksk_end;dsimp only;rw[Yd Yp];simp only[Zl,Zv]
 by_cases h2:us.toArray.size<2
 ·have small:xs.length<2:=by rw[l1];simpa using h2
  rw[Yh h2,Yh h2];refine X9 (Yb ?_);rw[StateT.run_pure];refine X9 (Yb ?_);refine fin (List.range xs.length).toArray P0 (λi j GD hj=>by omega) _ ?_ rfl;show(ks.toArray.zip us.toArray).map (·.2)=_;rw[Ac (by omega),l1,oB]
 ·have big:2<=us.length:=by simpa using h2
  rw[Yd h2,Yd h2];obtain⟨κ,Gp,Jf⟩:=jG (A:=A) I hA hk Ji nd (by omega);refine X9 (YR (Gp (λκ' s0=>(kas_sort us.length).kasWp (kas_ask X.prog X.w A κ' ks) (λp s'=>s'=s/\Pm us.length (rk kz) p/\Up (rk kz) p us.length) s0) (sY (n:=us.length) (r:=rk kz) (λi j hi hj=>inj i j (by omega) (by omega)) (λi j C hi hj=>Jf i j C (by omega) (by omega)) (by omega) λp pm up=>⟨rfl,pm,up⟩)) (λκ' s0 hw=>?_) λ_ _ x=>x.elim);refine X9 (YR (kat_run (κ:=κ') (Q:=λF8 s'=>∃p:Array Nat,arrOf F8=p.map (kas_item (ks.toArray.zip us.toArray))/\failedOf F8=none/\s'=s/\Pm us.length (rk kz) p/\Up (rk kz) p us.length) (by omega) big (by omega) (λp' F8 s' _ a2 a3 a4=>⟨p',a2,a3,a4⟩) hw) ?_ λ_ _ e=>e);rintro⟨⟨⟩,F8⟩ s' ⟨p,Ku,hf,rfl,pm,up⟩;exact fin p (by rw[l1];exact pm) (by rw[l1];exact up) F8 (kat_snds (by omega) Ku) hf
theorem wb {α:Type}{l:List α}{x:α}(h:l[j]?=some x):l.drop j=x::l.drop (j+1):=by
 obtain⟨hj,e⟩:=YO.mp h;rw[yL hj,e]
theorem lj {D:Addr}{P:PySem.Fin->Shared->Prop}(F:ya X.prog X.w X.K X.mg X.base (cD X.prog X.w) k f fd ps sp)(hr:wa k A)(hE:∀pins' H s,Inv X pins' σ H s->DP X.prog X.w X.K X.mg X.base A X.stack s H)(hb:ck X.K fd ps [])
 (hD:X.s₀.heap.objs.size<=D)(fD:c8 X pins H D)(I:Inv X pins σ H s)(eD:s.heap.get? D=some (seqObj "list" us.toArray n))(rx:aR xs us)(h64:xs.length<64)(h:mf sp xs H (jD X xs Q))
 (hP:∀s',EP X pins σ Q (.ref D) s'->P (.done (.ret .none)) s'):wpAny (model X.prog X.w) A (ksk_tree D (.ref f) false) P E s:=by
 have l1:=rx.length
 have T3:us.toArray.size<=sizeLine:=by rw[Yj,<-l1];exact c5 h64
 obtain⟨e1,Im⟩:∃e1,(s.heap.update D (Obj.mapSeq λ_=>(#[]:Cu))).get? D=some (seqObj "list" #[] e1):=⟨_,Al eD λ_=>#[]⟩;have I1:Inv X pins σ H {s with heap:=s.heap.update D (Obj.mapSeq λ_=>(#[]:Cu))}:=de I fD (Y1 _ _ _);unfold ksk_tree;refine X9 (listItems_at eD rfl (X9 (uF eD rfl (X9 (CI Im rfl (X9 (BB ?_ (by show us.length<=_;rw[<-l1];exact c5 h64))))) T3 (Yt _))));refine X9 (D5 (YY ?_) (Yt _));generalize s.heap.update D (Obj.mapSeq λ_=>(#[]:Cu))=h1 at Im I1 |-;dsimp only;have I2:Inv X pins σ H {s with heap:=h1.push (seqObj "tuple" us.toArray 0)}:=I1.kept (t':=s.toks) λb o q=>Yc _ q;have Jj:(h1.push (seqObj "tuple" us.toArray 0)).get? D=some (seqObj "list" #[] e1):=Yc _ Im;show wpAny (model X.prog X.w) A (ksk_rest D (.ref f) false us.toArray e1 (.ref (h1.push (seqObj "tuple" us.toArray 0)).objs.size)) P E {s with heap:=(h1.push (seqObj "tuple" us.toArray 0)).push (seqObj "list" #[] 0)};generalize h1.push (seqObj "tuple" us.toArray 0)=h2 at I2 Jj |-;have ne:h2.objs.size≠D:=Zz (Ym Jj);have Ob:c8 X pins H h2.objs.size:=I2.ada (Ye _) (I2.hok.fresh (Ye _));have I3:Inv X pins σ H {s with heap:=h2.push (seqObj "list" #[] 0)}:=I2.kept (t':=s.toks) λb o q=>Yc _ q;have T4:(h2.push (seqObj "list" #[] 0)).get? D=some (seqObj "list" #[] e1):=Yc _ Jj;have Rb:(h2.push (seqObj "list" #[] 0)).get? h2.objs.size=some (seqObj "list" ([]:nN).toArray 0):=Yk _ rfl;have T5:∀{H':Hp},H' D=none->c8 X pins H' D:=λz=>nV fD z;have Oc:∀{H':Hp},H' h2.objs.size=none->c8 X pins H' h2.objs.size:=λz=>nV Ob z;generalize h2.objs.size=kS at ne Ob Rb Oc |-;unfold ksk_rest;refine X9 (Fp ?_);rw[List.forIn_toArray]
 let II:Nat->Shared->Prop:=λj s'=>∃(H':Hp)(c:Nat)(kV:List V)(ks:nN),Inv X (pins++[(D,seqObj "list" #[] e1)]) σ H' s'/\s'.heap.get? kS=some (seqObj "list" ks.toArray c)/\H' kS=none/\aR kV ks/\kV.length=j/\mf sp (xs.drop j) H' λk2 H2=>jD X xs Q (kV++k2) H2
 have I4:Inv X (pins++[(D,seqObj "list" #[] e1)]) σ H {s with heap:=h2.push (seqObj "list" #[] 0)}:=tX I3 fD T4 jL;refine X9 (YR (ksk_fold (E:=E) (Q:=λ_ s'=>II us.length s') II us 0 {s with heap:=h2.push (seqObj "list" #[] 0)} ⟨H,0,[],[],I4,Rb,Ob.1,.nil,rfl,by simpa using h⟩ (λj u s' hu hI=>?_) λs' hd=>by simpa using hd) (λ_ s' hI=>?_) λ_ _ e=>e)
 ·rw[zO] at hI |-;obtain⟨H',c,kV,ks,J,eS,nS,Ji,hl,t⟩:=hI;have hj:j<us.length:=(YO.mp hu).1;obtain⟨x,hx⟩:∃x,xs[j]?=some x:=⟨xs[j]'(by omega),by simp[show j<xs.length by omega]⟩;obtain⟨u',Rc,T6⟩:=rx.get hx;rw[hu] at Rc
  cases Rc
  rw[wb hx] at t;have Rf:c8 X (pins++[(D,seqObj "list" #[] e1)]) H' kS:=zi (Oc nS) (YM ne);have J2:=tX J Rf eS jL;refine X9 (ZN (YR (yB F hr (hE _) hb J2 T6 t) (λkv s2 hk=>?_) λ_ _ z=>z.elim));obtain⟨v,H2,J3,rv,t2⟩:=hk;obtain⟨Rg,Rh⟩:=wO J3;have J4:=lY J3;have T7:c8 X (pins++[(D,seqObj "list" #[] e1)]) H2 kS:=nV Rf Rh
  have ea:ks.toArray.push kv=(ks++[kv]).toArray:=by simp
  obtain⟨c2,Gq⟩:∃c2,(s2.heap.update kS (Obj.mapSeq (·.push kv))).get? kS=some (seqObj "list" (ks++[kv]).toArray c2):=⟨_,by rw[<-ea];exact Al Rg (·.push kv)⟩;have lk:=Ji.length;refine X9 (uF Rg rfl ?_ (by rw[Yj];exact c5 (by omega)) (Yq (xn (Array.size_push ..)) (by rw[Yj];exact Nat.succ_le_succ (c5 (by omega)))));refine Yb ⟨rfl,H2,c2,kV++[v],ks++[kv],de J4 T7 (Y1 _ _ _),Gq,Rh,Ji.append (.cons rv .nil),by simp[hl],?_⟩
  have e:∀k2:List V,kV++[v]++k2=kV++v::k2:=λk2=>by simp
  simp only[e];exact t2
 ·obtain⟨H',c,kV,ks,J,eS,nS,Ji,hl,t⟩:=hI;rw[<-l1,List.drop_length] at t
  have w:jD X xs Q kV H':=by
   have z:jD X xs Q (kV++[]) H':=t;rwa[Zc] at z
  obtain⟨T8,nD⟩:=wO J;refine X9 (listItems_at eS rfl ?_);exact u5 (by have:=hr.units;omega) hD (T5 nD) (Oc nS) ne (lY J) T8 eS rx Ji (by omega) h64 w hP
theorem qM {l:Addr}(F:ya X.prog X.w X.K X.mg X.base (cD X.prog X.w) k f fd ps sp)(hr:wa (k+2) X.A)(hb:ck X.K fd ps [])
 (I:Inv X pins σ H s)(hl:bo X.K H l xs)(h64:xs.length<64)(h:mf sp xs H (jD X xs Q)):wpAny (model X.prog X.w) X.A (call (.builtin "sorted") [.ref l] [(Str.ofString "key",.ref f)]) (EP X pins σ Q) E s:=by
 obtain⟨us,rx,pl,_⟩:=I.list hl;have l1:=rx.length;refine call_function_entry_kw kind_sorted plain_sorted entry_sorted (ksk_s1 _ _) ?_;unfold Builtin.«sorted»;refine X9 (m:=checkCount "sorted" 1 1 _) (Yb (X9 (collect_list pl.isList (X9 (D5 ?_ (c5 (by omega)))) (c5 (by omega)))))
 have sz:((s.heap.push (seqObj "list" #[] 0)).update s.heap.objs.size (Obj.mapSeq (·++us.toArray))).objs.size=s.heap.objs.size+1:=by rw[Heap.size_update];exact size_push' _ _
 have Jg:(((s.heap.push (seqObj "list" #[] 0)).update s.heap.objs.size (Obj.mapSeq (·++us.toArray))).push (seqObj "list" us.toArray 0)).get? (s.heap.objs.size+1)=some (seqObj "list" us.toArray 0):=by
  rw[<-sz];exact Yk _ rfl
 have old:∀b o,s.heap.get? b=some o->(((s.heap.push (seqObj "list" #[] 0)).update s.heap.objs.size (Obj.mapSeq (·++us.toArray))).push (seqObj "list" us.toArray 0)).get? b=some o:=λb o q=>by
  have lt:b<s.heap.objs.size:=Ym q;refine Yc _ ?_;rw[mK _ _ _ _ (Yr lt)];exact Yc _ q
 show wpAny _ _ _ _ _ {s with heap:=((s.heap.push (seqObj "list" #[] 0)).update s.heap.objs.size (Obj.mapSeq (·++us.toArray))).push (seqObj "list" us.toArray 0)};rw[sz];generalize ((s.heap.push (seqObj "list" #[] 0)).update s.heap.objs.size (Obj.mapSeq (·++us.toArray))).push (seqObj "list" us.toArray 0)=h5 at Jg old |-;have I5:Inv X pins σ H {s with heap:=h5}:=I.kept (t':=s.toks) old;have fD:c8 X pins H (s.heap.objs.size+1):=I.ada (vO _) (I.hok.fresh (vO _));refine X9 (YY (wpAny_call_entry_kw slot_list_sort ⟨_,Jg,rfl⟩ entry_list_sort ?body (ksk_l1 _ _)))
 case body =>
  show wpAny (model X.prog X.w) X.A.in1.in1 (Builtin.«list.sort» ⟨[.ref (s.heap.objs.size+1)],[(Str.ofString "key",.ref f)]⟩) _ _ _;rw[ksk_t1];exact lj (A:=X.A.in1.in1) F hr.in1.in1 (λpins' H' s' J=>J.aep.in1.in1) hb (Yq I.sz (vO _)) fD I5 Jg rx h64 h λs' q=>⟨_,rfl,Yb ⟨_,rfl,q⟩⟩
end
noncomputable def BY (X:Cx)(sp:Sp)(ta:TE):TE:=λσ H Q=>bq ta Co σ H λvs H1=>∃l xs,vs=[.ref l]/\bo X.K H1 l xs/\xs.length<64/\mf sp xs H1 (jD X xs Q)
section
variable {X:Cx}{k:Nat}{f:Addr}{fd:BG}{ps:Ez}{sp:Sp}{e:Expr}{ta:TE}{x:Str}{p p2 kpos pos:Pos}
theorem wK (F:ya X.prog X.w X.K X.mg X.base (cD X.prog X.w) k f fd ps sp)(hr:wa (k+2) X.A)(hb:ck X.K fd ps [])(hg:Gl X "sorted")(hm:X.mg "sorted"=none)(T9:Gl X x)(Ua:X.mg x=some (.ref f))(ha:PE X e ta)(hs:fZ e=false:=by rfl)(hd:(x==("__debug__":Str))=false:=by decide):
 PE X (.Call (.Name "sorted" p) [e] [⟨some "key",.Name x p2,kpos⟩] pos) (BY X sp ta):=by
 intro pins s σ H Q I h;refine Y6 (eI I hg hm (by rfl) ?_ (by decide) (by decide));refine callWith_builtin_kwB (by rw[bz hs];rfl) rfl (evalArgs_kw2 rfl ?_ (bz hs));refine bO (aj ha ag hs pos pins s σ H _ I h) λus s1 z'=>?_;obtain⟨vs,H1,I1,r1,⟨l,xs,hv,hl,h64,ht⟩⟩:=z';subst hv
 cases r1 with
 |cons ra rb =>
  cases rb
  cases ra
  refine kwAll_cons (gs I1 T9 Ua (kwAll_nil ?_) hd);exact qM F hr hb I1 hl h64 ht
end
end Srt
namespace K44
open PySem L2 PySem.W Nm Srt
variable {n:Nat}{p b:Int}
theorem CU {t:Int}(hp:FP p)(h:B n t)(hb:b≠0)(hn:7<=n):B n (cZ p t b):=by
 unfold cZ
 by_cases z:p=0
 ·rw[Yh z];exact h.le (aaX hb)
 ·rw[Yd z];obtain⟨_,p2,M9⟩:=hp.two z;have h0:=Zw t (b:=p) (by omega);have h1:=Zd t (b:=p) (by omega)
  have:B 7 (t%p):=by
   show(t%p).natAbs<2^7;omega
  exact this.mono hn
theorem CA {n:Nat}{t:Int}(h:B n b)(hb:b≠0)(hn:1<=n):B n (da p t b):=by
 unfold da
 by_cases z:p=0
 ·rw[Yh z];exact h.le (aaY hb)
 ·rw[Yd z];exact(show B 1 (1:Int) from(by show(1:Int).natAbs<2^1;decide)).mono hn
noncomputable abbrev Tm:=List Int×Int×Int
noncomputable def cW (p:Int)(a b:Int×Int):Int×Int:=(cZ p (i8 a.1 a.2 b.1 b.2) (a.2*b.2),da p (i8 a.1 a.2 b.1 b.2) (a.2*b.2))
noncomputable def Gn (p:Int)(n:Nat)(a:Int×Int):Prop:=Num p a.1 a.2/\B n a.1/\B n a.2
theorem Gn.ne {a:Int×Int}(h:Gn p n a):a.2≠0:=by have:=h.1.pos;omega
theorem md {m:Nat}{a b:Int×Int}(hp:FP p)(ha:Gn p n a)(hb:Gn p m b)(h7:7<=n+m+1):Gn p (n+m+1) (cW p a b):=by
 have nz:a.2*b.2≠0:=v7 ha.ne hb.ne;refine⟨Num.set hp.nn nz,CU hp ?_ nz h7,(CA (n:=n+m) (ha.2.2.mul hb.2.2) nz (by omega)).mono (by omega)⟩;have h1:B (n+m) (a.1*b.2):=ha.2.1.mul hb.2.2;have h2:B (n+m) (b.1*a.2):=(hb.2.1.mul ha.2.2).mono (by omega);exact h1.add h2
theorem uJ {b:Int×Int}(hp:FP p)(hb:Gn p n b):cW p (0,1) b=b:=by
 obtain⟨h1,h2⟩:=hb.1.self hp.nn;unfold cW i8
 have e1:(0:Int)*b.2+b.1*1=b.1:=by omega
 have e2:(1:Int)*b.2=b.2:=by omega
 rw[e1,e2,h1,h2]
noncomputable def cK (p:Int)(d:List Tm)(t:Tm):List Tm:=if d.any (λe=>decide (e.1=t.1))=true then d.map (λe=>if e.1=t.1 then(e.1,cW p e.2 t.2) else e) else d++[t]
noncomputable def aW (p:Int)(ts:List Tm):List Tm:=ts.foldl (cK p) []
noncomputable def lK (p:Int)(n:Nat)(d:List Tm):Prop:=∀e∈d,Gn p n e.2
variable {d:List Tm}
theorem vM {m:Nat}{t:Tm}(hp:FP p)(hd:lK p n d)(ht:Gn p m t.2)(h7:7<=n+m+1):lK p (n+m+1) (cK p d t):=by
 have up:∀e∈d,Gn p (n+m+1) e.2:=λe he=>⟨(hd e he).1,(hd e he).2.1.mono (by omega),(hd e he).2.2.mono (by omega)⟩;unfold cK
 split
 ·intro e he;obtain⟨e0,h0,rfl⟩:=YG.mp he
  by_cases q:e0.1=t.1
  ·rw[Yh q];exact md hp (hd e0 h0) ht h7
  ·rw[Yd q];exact up e0 h0
 ·intro e he
  rcases YI.mp he with he|he
  ·exact up e he
  ·have:e=t:=by simpa using he
   subst this;exact⟨ht.1,ht.2.1.mono (by omega),ht.2.2.mono (by omega)⟩
theorem l7 {t:Tm}(hd:(d.map (·.1)).Nodup):((cK p d t).map (·.1)).Nodup:=by
 unfold cK
 split
 ·rw[rR]
  have:((λe:Tm=>e.1) ∘ λe=>if e.1=t.1 then(e.1,cW p e.2 t.2) else e)=λe=>e.1:=by
   funext e
   show(if e.1=t.1 then(e.1,cW p e.2 t.2) else e).1=e.1
   split <;> rfl
  rw[this];exact hd
 ·rename_i q
  rw[Y2];refine B9.mpr ⟨hd,by simp,λa ha b hb z=>?_⟩
  have:b=t.1:=by simpa using hb
  subst this;subst z;obtain⟨e,he,e1⟩:=YG.mp ha;exact q (ZC.mpr ⟨e,he,by simpa using e1⟩)
theorem oF {p:Int}{d:List Tm}{t:Tm}:(cK p d t).length<=d.length+1:=by
 unfold cK
 split <;> simp
noncomputable def eB (t:Tm):Ky:=(t.1.length,t.1)
noncomputable def eu (d:List Tm):List Tm:=(cP ((d.filter λe=>e.2.1 != 0).map λe=>(eB e,e))).map (·.2)
theorem iQ (p:Int)(ts:List Tm)(t:Tm):aW p (ts++[t])=cK p (aW p ts) t:=by
 unfold aW;rw[List.foldl_append];rfl
theorem eQ {m:Nat}(hp:FP p):∀(n:Nat)(ts:List Tm),ts.length=n->(∀t∈ts,Gn p m t.2)->lK p ((m+1)*n+7) (aW p ts)/\((aW p ts).map (·.1)).Nodup/\(aW p ts).length<=n
 |0,ts,hn,_=>by
  have:ts=[]:=List.length_eq_zero_iff.mp hn;subst this;refine And.intro (λe he=>?_) (And.intro yr (Ye 0));exact absurd (show e∈([]:List Tm) from he) (by simp)
 |n+1,ts,hn,h=>by
  obtain⟨HZ,t,rfl⟩:∃HZ t,ts=HZ++[t]:=by
   have F2:ts≠[]:=by intro z;rw[z] at hn;cases hn
   exact⟨ts.dropLast,ts.getLast F2,(yW F2).symm⟩
  have hl:HZ.length=n:=by simpa using hn
  obtain⟨g1,g2,g3⟩:=eQ hp n HZ hl λt ht=>h t (ZE _ ht);rw[iQ];have gt:=h t (Yx _ (by simp));have e2:(m+1)*(n+1)=(m+1)*n+(m+1):=Nat.mul_succ _ _;refine⟨λe he=>?_,l7 g2,Yq oF (by omega)⟩;have:=vM hp g1 gt (by omega) e he;exact⟨this.1,this.2.1.mono (by omega),this.2.2.mono (by omega)⟩
noncomputable abbrev ji (ks:List Int):List Key:=ks.map Sum.inl
theorem iS (ks:List Int):(ji ks).map kV=ks.map V.int:=by unfold ji;rw[rR];rfl
theorem mJ {a b:List Int}(h:ji a=ji b):a=b:=by
 have e:(ji a).map kV=(ji b).map kV:=by rw[h]
 rw[iS,iS] at e
 have inj:∀{x y:List Int},x.map V.int=y.map V.int->x=y:=by
  intro x
  induction x with
  |nil=>intro y h;cases y with
   |nil=>rfl
   |cons c y=>simp at h
  |cons b x ih=>intro y h;cases y with
   |nil=>simp at h
   |cons c y =>
    rw[YF,YF] at h
    injection h with h1 h2
    injection h1 with h1
    rw[h1,ih h2]
 exact inj e
noncomputable def C7 (H:Hp)(y:V)(t:Tm):Prop:=∃a pr nu,y=.ref a/\H a=some (.tup [.ref pr,.ref nu])/\H pr=some (.tup (t.1.map V.int))/\H nu=some (cx t.2.1 t.2.2)
noncomputable abbrev bp (H:Hp):List V->List Tm->Prop:=Paired (C7 H)
noncomputable abbrev DR (H:Hp):List (List Key×V)->List Tm->Prop:=Paired λkv e=>kv.1=ji e.1/\∃a,kv.2=.ref a/\H a=some (cx e.2.1 e.2.2)
noncomputable def aI (H H':Hp):Prop:=∀b xs,H b=some (.tup xs)->H' b=some (.tup xs)
variable {H H':Hp}
theorem aI.of (s:aC H H'):aI H H':=λb xs e=>s b _ e
theorem aI.trans {H1 H2:Hp}(a:aI H H1)(b:aI H1 H2):aI H H2:=λc xs e=>b c xs (a c xs e)
theorem aI.upd {d:Addr}{o:HO}(h:∀xs,H d≠some (.tup xs)):aI H (upd H d o):=λb xs e=>by
 have:b≠d:=λz=>h xs (z▸e);rw[aA this];exact e
variable {y:V}
theorem C7.keep {t:Tm}(h:C7 H y t)(k:aI H H'):C7 H' y t:=let⟨a,pr,nu,e,h1,h2,h3⟩:=h;⟨a,pr,nu,e,k _ _ h1,k _ _ h2,k _ _ h3⟩
variable {ts:List Tm}
theorem bp.keep {ys:List V}(h:bp H ys ts)(k:aI H H'):bp H' ys ts:=Paired.adn h λ_ _ z=>z.keep k
variable {Ft:List (List Key×V)}
theorem DR.keep (h:DR H Ft d)(k:aI H H'):DR H' Ft d:=Paired.adn h λ_ _ z=>⟨z.1,let⟨a,e,h⟩:=z.2;⟨a,e,k _ _ h⟩⟩
theorem ux (k:List Int):∀{Ft:List (List Key×V)}{d:List Tm},DR H Ft d->d.any (λe=>decide (e.1=k))=false->iP Ft (ji k)=none
 |_,_,.nil,_=>rfl
 |_,_,.cons (a:=kv) (b:=e) h t,q=>by
  rw[CQ,Bool.or_eq_false_iff] at q
  have ne:¬kv.1=ji k:=λz=>by
   have:e.1=k:=mJ (h.1.symm.trans z);simp[this] at q
  rw[gh ne];exact ux k t q.2
theorem kE (k:List Int):∀{Ft:List (List Key×V)}{d:List Tm},DR H Ft d->d.any (λe=>decide (e.1=k))=true->∃e∈d,e.1=k/\∃a,iP Ft (ji k)=some (.ref a)/\H a=some (cx e.2.1 e.2.2)
 |_,_,.nil,q=>by simp at q
 |_,_,.cons (a:=kv) (b:=e) h t,q=>by
  by_cases z:e.1=k
  ·obtain⟨a,e1,ha⟩:=h.2;refine⟨e,Yl,z,a,?_,ha⟩;rw[ig (by rw[h.1,z]),e1]
  ·have ne:¬kv.1=ji k:=λw=>z (mJ (h.1.symm.trans w));rw[CQ,Yu z,Bool.false_or] at q;obtain⟨e',m,z',a,h1,h2⟩:=kE k t q;exact⟨e',Yi _ m,z',a,by rw[gh ne];exact h1,h2⟩
theorem B8 (k:List Int)(h:DR H Ft d):(Ft.any λkv=>decide (kv.1=ji k))=d.any λe=>decide (e.1=k):=by
 rw[kn]
 cases q:d.any λe=>decide (e.1=k) with
 |false=>rw[ux k h q];rfl
 |true =>
  obtain⟨_,_,_,a,e,_⟩:=kE k h q;rw[e];rfl
theorem wD {t:Tm}{a:Addr}(h:DR H Ft d)(nd:(d.map (·.1)).Nodup)
 (IU:d.any (λe=>decide (e.1=t.1))=false->H a=some (cx t.2.1 t.2.2))(GK:∀e∈d,e.1=t.1->H a=some (cx (cW p e.2 t.2).1 (cW p e.2 t.2).2)):DR H (fF Ft (ji t.1) (.ref a)) (cK p d t):=by
 unfold fF cK;rw[B8 t.1 h]
 by_cases q:d.any (λe=>decide (e.1=t.1))=true
 ·rw[Yh q,Yh q]
  have go:∀{Ft:List (List Key×V)}{d:List Tm},DR H Ft d->(∀e∈d,e.1=t.1->H a=some (cx (cW p e.2 t.2).1 (cW p e.2 t.2).2)) →
   DR H (Ft.map λkv=>if kv.1=ji t.1 then(kv.1,V.ref a) else kv) (d.map λe=>if e.1=t.1 then(e.1,cW p e.2 t.2) else e):=by
   intro Ft d h
   induction h with
   |nil=>intro _;exact .nil
   |@cons kv e ks es h0 ht ih =>
    intro hy;rw[YF,YF];refine .cons ?_ (ih λe' m=>hy e' (Yi _ m))
    by_cases z:e.1=t.1
    ·rw[Yh z,Yh (by rw[h0.1,z])];exact⟨h0.1,a,rfl,hy e Yl z⟩
    ·rw[Yd z,Yd (λw=>z (mJ (h0.1.symm.trans w)))];exact h0
  exact go h GK
 ·have q':d.any (λe=>decide (e.1=t.1))=false:=Bool.eq_false_iff.mpr q;rw[Yd q,Yd q];exact uU h ⟨rfl,a,rfl,IU q'⟩
noncomputable abbrev wZ:Stmt:=(bc 32)
structure Ar (p:Int)(ts:List Tm):Prop where
 len:ts.length<4000
 num:∀t∈ts,Gn p 4000 t.2
 steps:∀i,i<=ts.length->lK p 4000 (aW p (ts.take i))
 few:(aW p ts).length<64
theorem Ar.of {m:Nat}(hp:FP p)(h64:ts.length<64)(hG:∀t∈ts,Gn p m t.2)(hm:(m+1)*ts.length+7<=4000)(Kw:m<=4000):Ar p ts:=by
 refine⟨by omega,λt ht=>⟨(hG t ht).1,(hG t ht).2.1.mono Kw,(hG t ht).2.2.mono Kw⟩,λi hi=>?_,?_⟩
 ·obtain⟨g1,g2,g3⟩:=eQ (m:=m) hp i (ts.take i) (by simp;omega) λt ht=>hG t (Zq ht);intro e he;have b:=g1 e he;have le:(m+1)*i+7<=4000:=Yq (Nat.add_le_add_right (DT _ hi) _) hm;exact⟨b.1,b.2.1.mono le,b.2.2.mono le⟩
 ·exact Yo (eQ (m:=m) hp ts.length ts rfl hG).2.2 h64
noncomputable def qJ (C:Addr):Sp:=λvs H Q _=>∃(s dx l:Addr)(p:Int)(ys:List V)(ts:List Tm),vs=[.ref s,.ref l]/\H s=some (.ins C dx (gG p))/\FP p/\H l=some (.lst ys)/\bp H ys ts/\Ar p ts /\
 ∀H' D zs,aC H H'->H D=none->H' D=some (.lst zs)->bp H' zs (eu (aW p ts))->Q (.ref D) H'
theorem none_of {a:Addr}(s:aC H H')(h:H' a=none):H a=none:=by
 cases e:H a with
 |none=>rfl
 |some o=>rw[s _ _ e] at h;cases h
theorem iT:CP ["field","terms","totals","product","number","kept"] rm (ar wZ):=fe (by decide +kernel)
theorem lN {α β:Type}{R:α->β->Prop}{k:Ky}{x:α}{y:β}(h:R x y):∀{l:List (Ky×α)}{m:List (Ky×β)},Paired (λa b=>a.1=b.1/\R a.2 b.2) l m->Paired (λa b=>a.1=b.1/\R a.2 b.2) (lB k x l) (lB k y m)
 |_,_,.nil=>.cons ⟨rfl,h⟩ .nil
 |_,_,.cons (a:=(j,u)) (b:=(j',v)) (l₁:=r) (l₂:=r') h0 t=>by
  obtain⟨e,h1⟩:=h0;have e:j=j':=e;subst e;show Paired _ (if kR k j=true then(k,x):: (j,u):: r else(j,u):: lB k x r) (if kR k j=true then(k,y):: (j,v):: r' else(j,v):: lB k y r')
  by_cases z:kR k j=true
  ·rw[Yh z,Yh z];exact .cons ⟨rfl,h⟩ (.cons ⟨rfl,h1⟩ t)
  ·rw[Yd z,Yd z];exact .cons ⟨rfl,h1⟩ (lN h t)
theorem gN {α β:Type}{R:α->β->Prop}:∀{l:List (Ky×α)}{m:List (Ky×β)},Paired (λa b=>a.1=b.1/\R a.2 b.2) l m->Paired (λa b=>a.1=b.1/\R a.2 b.2) (cP l) (cP m)
 |_,_,.nil=>.nil
 |_,_,.cons (a:=(j,u)) (b:=(j',v)) (l₁:=r) (l₂:=r') h0 t=>by
  obtain⟨e,h1⟩:=h0;have e:j=j':=e;subst e;exact lN h1 (gN t)
theorem jE {α β:Type}{R:α->β->Prop}:∀{l:List (Ky×α)}{m:List (Ky×β)},Paired (λa b=>a.1=b.1/\R a.2 b.2) l m->Paired R (l.map (·.2)) (m.map (·.2))
 |_,_,.nil=>.nil
 |_,_,.cons h t=>.cons h.2 (jE t)
theorem j0 {R:V->Tm->Prop}:∀{xs:List V}{es:List Tm},Paired R xs es->Paired (λa b=>a.1=b.1/\R a.2 b.2) ((es.map eB).zip xs) (es.map λe=>(eB e,e))
 |_,_,.nil=>.nil
 |_,_,.cons h t=>.cons ⟨rfl,h⟩ (j0 t)
theorem my:∀{xs:List V}{es:List Tm}{H:Hp}{R:List V->Hp->Prop},bp H xs es →
 (∀ks H2,aC H H2->Paired (λx e=>∃a b,x=.ref a/\H2 a=some (.tup [.int e.1.length,.ref b])/\H2 b=some (.tup (e.1.map V.int))) ks es->R ks H2)->mf uI xs H R
 |_,_,H,R,.nil,h=>h [] H (aC.refl _) .nil
 |_,_,H,R,.cons (b:=e) h0 t,h=>by
  obtain⟨a,pr,nu,rfl,ha,Gd,Gw⟩:=h0;refine⟨a,pr,.ref nu,_,rfl,ha,Gd,λtt Od=>?_⟩;rw[Yg];have sU:aC H (upd H tt (.tup [.int e.1.length,.ref pr])):=aq Od;refine my (bp.keep t (aI.of sU)) λks H2 s2 hk=>h _ H2 (λb u z=>s2 _ _ (sU _ _ z)) (.cons ⟨tt,pr,rfl,s2 _ _ ai,s2 _ _ (sU _ _ Gd)⟩ hk)
theorem oa {K:Frag}:∀{ks:List V}{es:List Tm},Paired (λx e=>∃a b,x=.ref a/\H a=some (.tup [.int e.1.length,.ref b])/\H b=some (.tup (e.1.map V.int))) ks es->c6 K H ks (es.map eB)
 |_,_,.nil=>True.intro
 |_,_,.cons h t=>by
  obtain⟨a,b,rfl,h1,h2⟩:=h;exact⟨⟨a,b,[],rfl,aU.of h1,aU.of h2⟩,oa t⟩
theorem sR (h:(d.map (·.1)).Nodup)(f:Tm->Bool):((d.filter f).map eB).Nodup:=by
 have h1:((d.filter f).map (·.1)).Nodup:=h.sublist (zL.map _)
 have e:(d.filter f).map eB=((d.filter f).map (·.1)).map λk=>((k.length:Int),k):=by rw[rR];rfl
 rw[e];unfold List.Nodup at h1 |-;rw[List.pairwise_map];exact h1.imp λh z=>h (Ey z).2
theorem gW (h:(d.map (·.1)).Nodup):∀{e e':Tm},e∈d->e'∈d->e.1=e'.1->e=e':=by
 induction d with
 |nil=>intro e e' h1;exact nomatch h1
 |cons a d ih =>
  rw[YF,YT] at h;intro e e' h1 h2 z
  rcases Yn.mp h1 with h3|h3
  ·rcases Yn.mp h2 with h4|h4
   ·rw[h3,h4]
   ·exact absurd (by rw[<-h3,z];exact CO (f:=(·.1)) h4) h.1
  ·rcases Yn.mp h2 with h4|h4
   ·exact absurd (by rw[<-h4,<-z];exact CO (f:=(·.1)) h3) h.1
   ·exact ih h.2 h3 h4 z
variable {P:yo}{w:World}{K:PySem.W.Frag}{mg:u9}{base:Heap}
variable {f:Addr}{fd:BG}
theorem yQ {fo C:Addr}{Ri:BG}(F:ve K "gathered" "gathered" wZ f fd)(c:BE K mg C)(Fw:mg "sorted"=none)
 (q0:Cm P w K mg base 4 De C "plus" (xJ C i8))
 (Ub:ya P w K mg base (cD P w) 1 fo Ri ["term"] uI)(Uc:L2.ck K Ri ["term"] [])(Ud:mg "place_of_term"=some (.ref fo)):ya P w K mg base (cD P w) 5 f fd rm (qJ C):=by
 obtain⟨fp,Kr,Ue,Ug,Uh⟩:=q0;refine F.okN iT (λvs H Q E h=>?_) (λFv A outer s H vs Q E hr h=>?_)
 ·obtain⟨s,dx,l,p,ys,ts,rfl,_⟩:=h;rfl
 ·obtain⟨s0,dx,l,p,ys,ts,rfl,hs,hp,hl,Kx,G,q⟩:=h;have h64:=G.len;have hG:=G.num;have GW:wa 4 _:=hr.mono (by decide);have Oe:wa 3 _:=hr.mono (by decide);have hu:=(hr.units:_+64<cLine)
  replace hu:=Yo (Nat.add_le_add_left (by decide:1<=64) _) hu
  refine⟨_,(au (@aX _ _ 2 _ _ _ _ iT.nd rfl (Or.inl rfl) n5 rfl (Or.inl rfl))
   (au (dU Y4 rfl (dN (pv 1)) (cY rfl (aN (aD (i:=3) iT.nd rfl (Or.inl rfl)) (aN (aD (i:=4) iT.nd rfl (Or.inl rfl)) cp)))
   (au (bF (adX (aaH hu (pv 3) (pv 2))) (ax (@aX _ _ 4 _ _ _ _ iT.nd rfl (Or.inl rfl) (fE (pv 0) c.cl Uh Ue GW Ug .nil ao (aj (m9 hu (pv 2) (pv 3) (λ_ _=>rfl)) (aj (pv 4) ag rfl) rfl)) rfl (Or.inl rfl))) aS)
   (ax (tJ hu (pv 2) (pv 3) (pv 4) (by rfl)))))
   (au (tj (i:=5) (g:=lu K 2 (cR (bw 0) (cR (bw 1) qx))) (N:=["product","number"]) (nl:=2) (js:=[]) (osc:=ar wZ) ⟨rfl,rfl,by decide +kernel,by decide +kernel,by decide +kernel,rfl,.nil,by decide +kernel⟩ rfl iT.nd rfl (Or.inl rfl)
    (acx (pv 2))
    (λC fp s H=>(cY (X:=fK _ ["product","number"] _ C fp s H) rfl (aN (aD (X:=fK _ ["product","number"] _ C fp s H) (i:=0) (by show(["product","number"]:Ez).Nodup;decide +kernel) rfl (Or.inl rfl) (Or.inr rfl)) (aN (aD (X:=fK _ ["product","number"] _ C fp s H) (i:=1) (by show(["product","number"]:Ez).Nodup;decide +kernel) rfl (Or.inl rfl) (Or.inr rfl)) cp))))
    (λC fp s H=>(dG (aO fY (aY (show AI _ (xq K) from bJ) (pv 1) ak (λ_ _=>rfl)) ak (aV _))))
    (λC fp s H=>(aJ (aj (pv 0) (aj (pv 1) ag rfl) rfl))) (by rfl))
   (ax (aF (wK Ub Oe Uc (by rfl) Fw (by rfl) Ud (pv 5))))))),?_⟩
  have hlen:=Kx.length
  have gg:∀i,i<=ts.length->lK p 4000 (aW p (ts.take i))/\((aW p (ts.take i)).map (·.1)).Nodup/\(aW p (ts.take i)).length<=i:=λi hi=>by
   obtain⟨_,g2,g3⟩:=eQ (m:=4000) hp i (ts.take i) (by simp;omega) λt ht=>hG t (Zq ht);exact⟨G.steps i hi,g2,g3⟩
  refine λdd Gs=>?_;have s1:aC H (upd H dd (.dT [])):=aq Gs;refine⟨_,rfl,l,rfl,⟨ys,bo.of (s1 _ _ hl)⟩,?_⟩
  refine⟨λi m σ' H'=>m=ts.length-i/\i<=ts.length/\aC H H'/\(∃Ft,H' dd=some (.dT Ft)/\DR H' Ft (aW p (ts.take i)))/\∃o3 o4,σ'=[some (.ref s0),some (.ref l),some (.ref dd),o3,o4,none],
   ⟨ts.length,by simp,Yt _,s1,⟨[],ai,.nil⟩,none,none,rfl⟩,?_⟩
  rintro i m' σ' H' ⟨rfl,hi,sH,⟨Ft,hd,dr⟩,o3,o4,rfl⟩;have GG:=sH _ _ hl;have Il:=sH _ _ hs;obtain⟨gd,HP,gl⟩:=gg i hi
  by_cases Fy:i<ts.length
  ·have Of:i<ys.length:=by omega
   refine .inr ⟨⟨ys,ys[i],bo.of GG,by simp[Of]⟩,λσ' H'=>i+1<=ts.length/\aC H H'/\(∃Ft,H' dd=some (.dT Ft)/\DR H' Ft (aW p (ts.take (i+1))))/\∃o3 o4,σ'=[some (.ref s0),some (.ref l),some (.ref dd),o3,o4,none],?_,λy H2 hy=>?_⟩
   ·rintro σ' H' ⟨h1,h2,h3,h4⟩;exact⟨ts.length-(i+1),by omega,rfl,h1,h2,h3,h4⟩
   ·obtain⟨rfl,hy⟩:=hy;obtain⟨t,et,tr⟩:=bK Kx (hy ys (bo.of GG));obtain⟨a,pr,nu,rfl,ha,Gd,Gw⟩:=tr.keep (aI.of sH);have gt:=hG t (YA et)
    have F5:ts.take (i+1)=ts.take i++[t]:=by rw[YE,et];rfl
    have Gx:∀H3:Hp,aI H2 H3->H3 pr=some (.tup ((ji t.1).map kV)):=λH3 k=>by rw[iS];exact k _ _ Gd
    have fin:∀(H3:Hp)(an:Addr),aC H H3->aI H2 H3->H3 dd=some (.dT Ft)->((aW p (ts.take i)).any (λe=>decide (e.1=t.1))=false->H3 an=some (cx t.2.1 t.2.2)) →
     (∀e∈aW p (ts.take i),e.1=t.1->H3 an=some (cx (cW p e.2 t.2).1 (cW p e.2 t.2).2)) →
     aC H (upd H3 dd (.dT (fF Ft (ji t.1) (.ref an))))/\∃Hm,(upd H3 dd (.dT (fF Ft (ji t.1) (.ref an)))) dd=some (.dT Hm)/\DR (upd H3 dd (.dT (fF Ft (ji t.1) (.ref an)))) Hm (aW p (ts.take (i+1))):=by
     intro H3 an s3 k3 h3 IU GK;refine⟨λb u e=>by rw[aA (aB e Gs)];exact s3 b u e,_,ai,?_⟩;rw[F5,iQ];exact(wD (dr.keep k3) HP IU GK).keep (aI.upd λxs z=>by rw[h3] at z;cases z)
    have Hn:Ft.length<sizeLine:=by
     rw[dr.length];exact Yo gl (YX (Yo hi h64) (by decide))
    refine⟨a,_,rfl,aU.of ha,rfl,_,_,rfl,_,_,rfl,rfl,?_⟩;refine⟨_,rfl,_,rfl,dd,_,rfl,iH.t hd (Gx _ λ_ _ e=>e),_,rfl,?_⟩
    cases hq:(aW p (ts.take i)).any (λe=>decide (e.1=t.1)) with
    |false =>
     rw[ux t.1 dr hq];refine b7 ?_;refine⟨_,rfl,_,rfl,_,rfl,dd,_,rfl,p0.t hd (Gx _ λ_ _ e=>e) Hn,?_⟩
     obtain⟨f1,f2⟩:=fin H2 nu sH (λ_ _ e=>e) hd (λ_=>Gw) λe he z=>by
      have:(aW p (ts.take i)).any (λe=>decide (e.1=t.1))=true:=ZC.mpr ⟨e,he,by simpa using z⟩;rw[hq] at this;cases this
     exact⟨Fy,f1,f2,_,_,rfl⟩
    |true =>
     obtain⟨e,he,ek,a0,hv,JK⟩:=kE t.1 dr hq;rw[hv];refine bA ?_;have ge:=gd e he
     refine⟨_,rfl,s0,dx,_,rfl,Il,rfl,_,rfl,_,rfl,dd,_,rfl,(by rw[<-hv];exact iH.t hd (Gx _ λ_ _ e=>e)),_,rfl,s0,dx,a0,nu,p,e.2.1,e.2.2,t.2.1,t.2.2,rfl,Il,hp,JK,Gw,
      ge.2.1,ge.2.2,gt.2.1,gt.2.2,ge.ne,gt.ne,λa1 Gu=>?_⟩
     have sU:aC H2 (upd H2 a1 (cx (cW p e.2 t.2).1 (cW p e.2 t.2).2)):=aq Gu;refine⟨_,rfl,_,rfl,_,rfl,dd,_,rfl,p0.t (sU _ _ hd) (Gx _ (aI.of sU)) Hn,?_⟩
     obtain⟨f1,f2⟩:=fin _ a1 (λb u z=>sU _ _ (sH _ _ z)) (aI.of sU) (sU _ _ hd) (λz=>by rw[hq] at z;cases z) λe' Ho z=>by
      have:e'=e:=gW HP Ho he (z.trans ek.symm);subst this;exact ai
     exact⟨Fy,f1,f2,_,_,rfl⟩
  ·have ei:i=ts.length:=by omega
   subst ei;refine .inl ⟨⟨ys,bo.of GG,by omega⟩,?_⟩;rw[Yv] at dr gd HP gl;refine⟨_,rfl,dd,Ft,rfl,.inr ⟨hd,λo=>?_⟩⟩
   have sF:aC H (upd H' dd (nZ o Ft)):=λb u e=>by rw[aA (aB e Gs)];exact sH b u e
   have Og:DR (upd H' dd (nZ o Ft)) Ft (aW p ts):=dr.keep (aI.upd λxs z=>by rw[hd] at z;cases z);have kl:Ft.length=(aW p ts).length:=dr.length
   refine⟨λi m xs σ' H2=>m=(aW p ts).length-i/\i<=(aW p ts).length/\aC H H2/\H2 dd=some (nZ o Ft)/\DR H2 Ft (aW p ts)/\bp H2 xs (((aW p ts).take i).filter λe=>e.2.1 != 0)/\∃o1 o2,σ'=[o1,o2],
    ⟨(aW p ts).length,by simp,Yt _,sF,ai,Og,.nil,none,none,rfl⟩,?_⟩
   rintro i m' xs σ' H2 ⟨rfl,Ui,s2,hd2,Io,GR,o1,o2,rfl⟩
   have xl:xs.length<=(aW p ts).length:=by
    rw[GR.length];exact Yq (Zx _ _) (by simp;omega)
   refine⟨Yo (Yq xl gl) (YX h64 (by decide)),?_⟩
   by_cases Hr:i<(aW p ts).length
   ·refine .inr ⟨⟨by omega,hd2⟩,λx H3 hx=>?_⟩;obtain⟨pp,b,k,v,hk,Kk,hb,rfl,rfl⟩:=hx;obtain⟨e,ee,ek,a,ev,ha⟩:=bK Io hk;have ek:k=ji e.1:=ek;have ev:v=.ref a:=ev;subst ek;subst ev;have sP:aC H2 (upd H2 pp (.tup [.ref b,.ref a])):=aq Kk
    have F5:(aW p ts).take (i+1)=(aW p ts).take i++[e]:=by rw[YE,ee];rfl
    rw[iS] at hb;refine⟨pp,_,rfl,aU.of ai,rfl,_,_,rfl,_,_,rfl,rfl,?_⟩;refine⟨_,rfl,a,_,0,_,rfl,rfl,aU.of (sP _ _ ha),rfl,rfl,_,rfl,?_⟩;have dP:upd H2 pp (.tup [.ref b,.ref a]) dd=some (nZ o Ft):=sP _ _ hd2
    cases hz:(e.2.1 != 0) with
    |true =>
     have z:(!decide (V.int e.2.1=V.int 0))=true:=by
      have:e.2.1≠0:=by simpa using hz
      simp[this]
     rw[z];refine bA ⟨_,rfl,_,rfl,hJ,λt' Kz=>?_⟩;have sT:aC (upd H2 pp (.tup [.ref b,.ref a])) (upd (upd H2 pp (.tup [.ref b,.ref a])) t' (.tup [.ref b,.ref a])):=aq Kz;have sA:aC H2 (upd (upd H2 pp (.tup [.ref b,.ref a])) t' (.tup [.ref b,.ref a])):=λc u e=>sT _ _ (sP _ _ e);refine⟨(aW p ts).length-(i+1),by omega,rfl,Hr,λc u e=>sA _ _ (s2 _ _ e),sA _ _ hd2,Io.keep (aI.of sA),?_,_,_,rfl⟩;rw[F5,ZV]
     have ef:[e].filter (λe=>e.2.1 != 0)=[e]:=by simp[hz]
     rw[ef];exact uU (bp.keep GR (aI.of sA)) ⟨t',b,a,rfl,ai,sA _ _ hb,sA _ _ ha⟩
    |false =>
     have z:(!decide (V.int e.2.1=V.int 0))=false:=by
      have:e.2.1=0:=by simpa using hz
      simp[this]
     rw[z];refine b7 ⟨(aW p ts).length-(i+1),by omega,rfl,Hr,λc u e=>sP _ _ (s2 _ _ e),sP _ _ hd2,Io.keep (aI.of sP),?_,_,_,rfl⟩;rw[F5,ZV]
     have ef:[e].filter (λe=>e.2.1 != 0)=[]:=by simp[hz]
     rw[ef,Zc];exact bp.keep GR (aI.of sP)
   ·have Oh:i=(aW p ts).length:=by omega
    subst Oh;refine .inl ⟨⟨by omega,hd2⟩,λD hD=>?_⟩;rw[Yv] at GR;have sD:aC H2 (upd H2 D (.lst xs)):=aq hD;refine⟨_,rfl,D,xs,rfl,bo.of ai,Yo xl G.few,?_⟩;refine my (bp.keep GR (aI.of sD)) λks H3 s3 hk=>?_;refine⟨_,oa hk,sR HP _,λD2 Nd=>?_⟩;have sE:aC H3 (upd H3 D2 (.lst ((cP ((((aW p ts).filter λe=>e.2.1 != 0).map eB).zip xs)).map (·.2)))):=aq Nd;refine q _ D2 _ (λc u e=>sE _ _ (s3 _ _ (sD _ _ (s2 _ _ e)))) (none_of (λc u e=>s3 _ _ (sD _ _ (s2 _ _ e))) Nd) ai ?_;have Nf:bp H3 xs ((aW p ts).filter λe=>e.2.1 != 0):=bp.keep GR (aI.of λc u e=>s3 _ _ (sD _ _ e));exact bp.keep (jE (gN (j0 Nf))) (aI.of sE)
noncomputable abbrev nA:Stmt:=(bc 47)
noncomputable def vE:Sp:=λvs H Q _=>∃(l:Addr)(p:Int)(ys:List V)(ts:List Tm),vs=[.int p,.ref l]/\FP p/\H l=some (.lst ys)/\bp H ys ts/\Ar p ts /\
 ∀H' D zs,aC H H'->H' D=some (.lst zs)->bp H' zs (eu (aW p ts))->Q (.ref D) H'
theorem iC:CP ["_law_prime","_law_terms","_law_found","_law_product","_law_number","_law_rows"] Dc (ar nA):=fe (by decide +kernel)
noncomputable def yM (H:Hp)(x:V)(e:Tm):Prop:=∃t b a,x=.ref t/\H t=some (.tup [.int e.1.length,.ref b,.ref a])/\H b=some (.tup (e.1.map V.int))/\H a=some (cx e.2.1 e.2.2)
theorem yM.keep {t:Tm}(h:yM H y t)(k:aI H H'):yM H' y t:=let⟨a,pr,nu,e,h1,h2,h3⟩:=h;⟨a,pr,nu,e,k _ _ h1,k _ _ h2,k _ _ h3⟩
noncomputable abbrev gL (H:Hp):List V->List Tm->Prop:=Paired (yM H)
theorem gL.keep {ys:List V}(h:gL H ys ts)(k:aI H H'):gL H' ys ts:=Paired.adn h λ_ _ z=>z.keep k
theorem lR {K:Frag}:∀{ks:List V}{es:List Tm},gL H ks es->c6 K H ks (es.map eB)
 |_,_,.nil=>True.intro
 |_,_,.cons h t=>by
  obtain⟨t0,b,a,rfl,h1,h2,h3⟩:=h;exact⟨⟨t0,b,[.ref a],rfl,aU.of h1,aU.of h2⟩,lR t⟩
theorem xv (F:ve K "_law_gather" "_law_gather" nA f fd)(Fw:mg "sorted"=none)(Fz:mg "len"=none)
 (q0:Ca P w K mg base 3 vk "_law_plus" (nO i8)):
 ya P w K mg base (cD P w) 4 f fd Dc vE:=by
 obtain⟨fl,Kj,Uj,Uk,Ul,Um⟩:=q0;refine F.okN iC (λvs H Q E h=>?_) (λFv A outer s H vs Q E hr h=>?_)
 ·obtain⟨l,p,ys,ts,rfl,_⟩:=h;rfl
 ·obtain⟨l,p,ys,ts,rfl,hp,hl,Kx,G,q⟩:=h;have h64:=G.len;have hG:=G.num;have GZ:wa 3 _:=hr.mono (by decide);have Oe:wa (1+2) _:=hr.mono (by decide);have FN:wa 1 _:=hr.mono (by decide);have hu:=(hr.units:_+64<cLine)
  replace hu:=Yo (Nat.add_le_add_left (by decide:1<=64) _) hu
  refine⟨_,(au (@aX _ _ 2 _ _ _ _ iC.nd rfl (Or.inr rfl) n5 rfl (Or.inl rfl))
   (au (dU Y4 rfl (dN (pv 1)) (cY rfl (aN (aD (i:=3) iC.nd rfl (Or.inl rfl)) (aN (aD (i:=4) iC.nd rfl (Or.inl rfl)) cp)))
   (ax (tJ hu (pv 2) (pv 3) (aH Uj GZ (by rfl) Ul Um Uk .nil ao (aj (pv 0) (aj (aaQ hu (pv 2) (pv 3) (aJ (aj ak (aj ak ag rfl) rfl)) ⟨rfl,rfl,rfl,rfl⟩) (aj (pv 4) ag rfl) rfl) rfl)) (by rfl))))
   (au (tj (i:=5) (N:=["_law_product","_law_found"]) (nl:=1) (js:=[2]) (osc:=ar nA) ⟨rfl,rfl,by decide +kernel,by decide +kernel,by decide +kernel,rfl,(.cons ⟨rfl,by decide +kernel⟩ .nil),by decide +kernel⟩ rfl iC.nd rfl (Or.inl rfl)
    (acy (pv 2))
    (λC fp s H=>aD (i:=0) (by show(["_law_product","_law_found"]:Ez).Nodup;decide +kernel) rfl (Or.inl rfl) (Or.inr rfl))
    (λC fp s H=>(dG (aO (show eA _ _ (yP K true) from mE FN) (m9 hu (pv 1) (pv 0) (λ_ _=>rfl)) (aJ (aj ak (aj ak ag rfl) rfl)) (aV _))))
    (λC fp s H=>(aJ (aj (aE (show cS _ _ (λxs H Q=>∃p ys,xs=[.ref p]/\(bo K H p ys\/aU K H p ys)/\Q (.int ys.length) H) from bH) (by rfl) Fz ZU (aj (pv 0) ag rfl)) (aj (pv 0) (aj (m9 hu (pv 1) (pv 0) (λ_ _=>rfl)) ag rfl) rfl) rfl))) (by rfl))
   (ax (aF (bY (g:=lu K 3 (cR (bw 0) (cR (bw 1) (cR (bw 2) qx)))) (N:=["_law_many","_law_product","_law_number"]) (nl:=3) (js:=[]) (osc:=ar nA) ⟨rfl,rfl,by decide +kernel,by decide +kernel,by decide +kernel,rfl,.nil,by decide +kernel⟩ rfl
    (dN (aE (pZ Oe) (by rfl) Fw (by rfl) (aj (pv 5) ag rfl)))
    (λC fp s H=>(cY (X:=fK _ ["_law_many","_law_product","_law_number"] _ C fp s H) rfl (aN (aD (X:=fK _ ["_law_many","_law_product","_law_number"] _ C fp s H) (i:=0) (by show(["_law_many","_law_product","_law_number"]:Ez).Nodup;decide +kernel) rfl (Or.inl rfl) (Or.inr rfl)) (aN (aD (X:=fK _ ["_law_many","_law_product","_law_number"] _ C fp s H) (i:=1) (by show(["_law_many","_law_product","_law_number"]:Ez).Nodup;decide +kernel) rfl (Or.inl rfl) (Or.inr rfl)) (aN (aD (X:=fK _ ["_law_many","_law_product","_law_number"] _ C fp s H) (i:=2) (by show(["_law_many","_law_product","_law_number"]:Ez).Nodup;decide +kernel) rfl (Or.inl rfl) (Or.inr rfl)) cp)))))
    (λC fp s H=>cX)
    (λC fp s H=>(aJ (aj (pv 1) (aj (pv 2) ag rfl) rfl))))))))),?_⟩
  have hlen:=Kx.length
  have gg:∀i,i<=ts.length->lK p 4000 (aW p (ts.take i))/\((aW p (ts.take i)).map (·.1)).Nodup/\(aW p (ts.take i)).length<=i:=λi hi=>by
   obtain⟨_,g2,g3⟩:=eQ (m:=4000) hp i (ts.take i) (by simp;omega) λt ht=>hG t (Zq ht);exact⟨G.steps i hi,g2,g3⟩
  have one:∀{n:Nat}{a:Int×Int},Gn p n a->p≠0->a.2=1:=λh z=>(h.1.pr z).1;refine λdd Gs=>?_;have s1:aC H (upd H dd (.dT [])):=aq Gs;refine⟨_,rfl,l,rfl,⟨ys,bo.of (s1 _ _ hl)⟩,?_⟩
  refine⟨λi m σ' H'=>m=ts.length-i/\i<=ts.length/\aC H H'/\(∃Ft,H' dd=some (.dT Ft)/\DR H' Ft (aW p (ts.take i)))/\∃o3 o4,σ'=[some (.int p),some (.ref l),some (.ref dd),o3,o4,none],
   ⟨ts.length,by simp,Yt _,s1,⟨[],ai,.nil⟩,none,none,rfl⟩,?_⟩
  rintro i m' σ' H' ⟨rfl,hi,sH,⟨Ft,hd,dr⟩,o3,o4,rfl⟩;have GG:=sH _ _ hl;obtain⟨gd,HP,gl⟩:=gg i hi
  by_cases Fy:i<ts.length
  ·have Of:i<ys.length:=by omega
   refine .inr ⟨⟨ys,ys[i],bo.of GG,by simp[Of]⟩,λσ' H'=>i+1<=ts.length/\aC H H'/\(∃Ft,H' dd=some (.dT Ft)/\DR H' Ft (aW p (ts.take (i+1))))/\∃o3 o4,σ'=[some (.int p),some (.ref l),some (.ref dd),o3,o4,none],?_,λy H2 hy=>?_⟩
   ·rintro σ' H' ⟨h1,h2,h3,h4⟩;exact⟨ts.length-(i+1),by omega,rfl,h1,h2,h3,h4⟩
   ·obtain⟨rfl,hy⟩:=hy;obtain⟨t,et,tr⟩:=bK Kx (hy ys (bo.of GG));obtain⟨a,pr,nu,rfl,ha,Gd,Gw⟩:=tr.keep (aI.of sH);have gt:=hG t (YA et)
    have F5:ts.take (i+1)=ts.take i++[t]:=by rw[YE,et];rfl
    have Gx:∀H3:Hp,aI H2 H3->H3 pr=some (.tup ((ji t.1).map kV)):=λH3 k=>by rw[iS];exact k _ _ Gd
    have fin:∀(H3:Hp)(an:Addr),aC H H3->aI H2 H3->H3 dd=some (.dT Ft)->((aW p (ts.take i)).any (λe=>decide (e.1=t.1))=false->H3 an=some (cx t.2.1 t.2.2)) →
     (∀e∈aW p (ts.take i),e.1=t.1->H3 an=some (cx (cW p e.2 t.2).1 (cW p e.2 t.2).2)) →
     aC H (upd H3 dd (.dT (fF Ft (ji t.1) (.ref an))))/\∃Hm,(upd H3 dd (.dT (fF Ft (ji t.1) (.ref an)))) dd=some (.dT Hm)/\DR (upd H3 dd (.dT (fF Ft (ji t.1) (.ref an)))) Hm (aW p (ts.take (i+1))):=by
     intro H3 an s3 k3 h3 IU GK;refine⟨λb u e=>by rw[aA (aB e Gs)];exact s3 b u e,_,ai,?_⟩;rw[F5,iQ];exact(wD (dr.keep k3) HP IU GK).keep (aI.upd λxs z=>by rw[h3] at z;cases z)
    have Hn:Ft.length<sizeLine:=by
     rw[dr.length];exact Yo gl (YX (Yo hi h64) (by decide))
    refine⟨a,_,rfl,aU.of ha,rfl,_,_,rfl,_,_,rfl,rfl,?_⟩;refine⟨_,rfl,_,rfl,dd,rfl,.inr ⟨Ft,.inl hd⟩,_,rfl,hJ,λt0 Oi=>?_⟩;have sZ:aC H2 (upd H2 t0 (.tup [.int 0,.int 1])):=aq Oi;refine⟨_,iH.t (sZ _ _ hd) (Gx _ (aI.of sZ)),?_⟩
    cases hq:(aW p (ts.take i)).any (λe=>decide (e.1=t.1)) with
    |false =>
     rw[ux t.1 dr hq];refine⟨_,rfl,p,0,1,t.2.1,t.2.2,t0,nu,rfl,hp,ai,sZ _ _ Gw,(by unfold B;decide),(by show(1:Nat)<2^4000;exact Nat.one_lt_two_pow (by decide)),gt.2.1,gt.2.2,(by decide),gt.ne,λz=>by rw[one gt z];decide,λH3 an s3 h3=>?_⟩;have ez:cW p (0,1) t.2=t.2:=uJ hp gt
     have Uo:H3 an=some (cx t.2.1 t.2.2):=by
      have:H3 an=some (cx (cW p (0,1) t.2).1 (cW p (0,1) t.2).2):=h3;rw[ez] at this;exact this
     have sA:aC H2 H3:=λb u e=>s3 _ _ (sZ _ _ e);refine⟨_,rfl,_,rfl,dd,_,rfl,p0.t (sA _ _ hd) (Gx _ (aI.of sA)) Hn,?_⟩
     obtain⟨f1,f2⟩:=fin H3 an (λb u e=>sA _ _ (sH _ _ e)) (aI.of sA) (sA _ _ hd) (λ_=>Uo) λe he z=>by
      have:(aW p (ts.take i)).any (λe=>decide (e.1=t.1))=true:=ZC.mpr ⟨e,he,by simpa using z⟩;rw[hq] at this;cases this
     exact⟨Fy,f1,f2,_,_,rfl⟩
    |true =>
     obtain⟨e,he,ek,a0,hv,JK⟩:=kE t.1 dr hq;rw[hv];have ge:=gd e he;refine⟨_,rfl,p,e.2.1,e.2.2,t.2.1,t.2.2,a0,nu,rfl,hp,sZ _ _ JK,sZ _ _ Gw,ge.2.1,ge.2.2,gt.2.1,gt.2.2,ge.ne,gt.ne,λz=>by rw[one gt z,one ge z];decide,λH3 an s3 h3=>?_⟩;have sA:aC H2 H3:=λb u e=>s3 _ _ (sZ _ _ e);refine⟨_,rfl,_,rfl,dd,_,rfl,p0.t (sA _ _ hd) (Gx _ (aI.of sA)) Hn,?_⟩
     obtain⟨f1,f2⟩:=fin H3 an (λb u e=>sA _ _ (sH _ _ e)) (aI.of sA) (sA _ _ hd) (λz=>by rw[hq] at z;cases z) λe' Ho z=>by
      have:e'=e:=gW HP Ho he (z.trans ek.symm);subst this;exact h3
     exact⟨Fy,f1,f2,_,_,rfl⟩
  ·have ei:i=ts.length:=by omega
   subst ei;refine .inl ⟨⟨ys,bo.of GG,by omega⟩,?_⟩;rw[Yv] at dr gd HP gl;refine⟨_,rfl,dd,Ft,rfl,.inr ⟨hd,λo=>?_⟩⟩
   have sF:aC H (upd H' dd (nZ o Ft)):=λb u e=>by rw[aA (aB e Gs)];exact sH b u e
   have Og:DR (upd H' dd (nZ o Ft)) Ft (aW p ts):=dr.keep (aI.upd λxs z=>by rw[hd] at z;cases z);have kl:Ft.length=(aW p ts).length:=dr.length
   refine⟨λi m xs σ' H2=>m=(aW p ts).length-i/\i<=(aW p ts).length/\aC H H2/\H2 dd=some (nZ o Ft)/\DR H2 Ft (aW p ts)/\gL H2 xs (((aW p ts).take i).filter λe=>e.2.1 != 0)/\∃o1,σ'=[o1,some (.ref dd)],
    ⟨(aW p ts).length,by simp,Yt _,sF,ai,Og,.nil,none,rfl⟩,?_⟩
   rintro i m' xs σ' H2 ⟨rfl,Ui,s2,hd2,Io,GR,o1,rfl⟩
   have xl:xs.length<=(aW p ts).length:=by
    rw[GR.length];exact Yq (Zx _ _) (by simp;omega)
   refine⟨Yo (Yq xl gl) (YX h64 (by decide)),?_⟩
   by_cases Hr:i<(aW p ts).length
   ·refine .inr ⟨⟨by omega,hd2⟩,λx H3 hx=>?_⟩;obtain⟨b,k,v,hk,hb,rfl,rfl⟩:=hx;obtain⟨e,ee,ek,_⟩:=bK Io hk;have ek:k=ji e.1:=ek;subst ek;have he:=YA ee;have ge:=gd e he
    have F5:(aW p ts).take (i+1)=(aW p ts).take i++[e]:=by rw[YE,ee];rfl
    obtain⟨e',Ho,Uq,a,hv,ha⟩:=kE e.1 Io (ZC.mpr ⟨e,he,by simp⟩);have:e'=e:=gW HP Ho he Uq;subst this;have dg:∀H4:Hp,aC H3 H4->iH H4 dd (.ref b) (some (.ref a)):=λH4 s4=>.inr ⟨Ft,ji e'.1,b,.inr ⟨o,s4 _ _ hd2⟩,rfl,s4 _ _ hb,hv.symm⟩;have FZ:=hb;rw[iS] at FZ;refine⟨_,rfl,_,rfl,dd,.ref a,rfl,dg _ (aC.refl _),hJ,λt0 Oi=>?_⟩;have sZ:aC H3 (upd H3 t0 (cx 0 1)):=aq Oi;refine⟨_,_,Bx (sZ _ _ ha),Bx ai,by rw[DV];decide,_,rfl,?_⟩;rw[ab9]
    cases hz:(e'.2.1 != 0) with
    |true =>
     have z:((e'.2.1==0&&e'.2.2==1) != true)=true:=by
      have:e'.2.1≠0:=by simpa using hz
      simp[this]
     rw[z];refine bA ⟨_,rfl,b,_,rfl,.inr (aU.of (sZ _ _ FZ)),_,rfl,_,rfl,_,rfl,dd,.ref a,rfl,dg _ sZ,Ff,λt' Kz=>?_⟩;rw[Yg];have sT:aC (upd H3 t0 (cx 0 1)) (upd (upd H3 t0 (cx 0 1)) t' (.tup [.int e'.1.length,.ref b,.ref a])):=aq Kz;have sA:aC H3 (upd (upd H3 t0 (cx 0 1)) t' (.tup [.int e'.1.length,.ref b,.ref a])):=λc u e=>sT _ _ (sZ _ _ e);refine⟨(aW p ts).length-(i+1),by omega,rfl,Hr,λc u e=>sA _ _ (s2 _ _ e),sA _ _ hd2,Io.keep (aI.of sA),?_,_,rfl⟩;rw[F5,ZV]
     have ef:[e'].filter (λe=>e.2.1 != 0)=[e']:=by simp[hz]
     rw[ef];exact uU (gL.keep GR (aI.of sA)) ⟨t',b,a,rfl,ai,sA _ _ FZ,sA _ _ ha⟩
    |false =>
     have z:((e'.2.1==0&&e'.2.2==1) != true)=false:=by
      have h0:e'.2.1=0:=by simpa using hz
      have h1:e'.2.2=1:=by
       have g1:=ge.1.pos;have g2:=ge.1.red;rw[h0] at g2
       have:e'.2.2.natAbs=1:=by simpa using g2
       omega
      simp[h0,h1]
     rw[z];refine b7 ⟨(aW p ts).length-(i+1),by omega,rfl,Hr,λc u e=>sZ _ _ (s2 _ _ e),sZ _ _ hd2,Io.keep (aI.of sZ),?_,_,rfl⟩;rw[F5,ZV]
     have ef:[e'].filter (λe=>e.2.1 != 0)=[]:=by simp[hz]
     rw[ef,Zc];exact gL.keep GR (aI.of sZ)
   ·have Oh:i=(aW p ts).length:=by omega
    subst Oh;refine .inl ⟨⟨by omega,hd2⟩,λD hD=>?_⟩;rw[Yv] at GR;have sD:aC H2 (upd H2 D (.lst xs)):=aq hD;have Nf:=gL.keep GR (aI.of sD);refine⟨_,rfl,D,xs,_,rfl,bo.of ai,Yo xl G.few,lR Nf,sR HP _,λD2 Nd=>?_⟩;have Oj:gL (upd H2 D (.lst xs)) ((cP ((((aW p ts).filter λe=>e.2.1 != 0).map eB).zip xs)).map (·.2)) (eu (aW p ts)):=jE (gN (j0 Nf));generalize (cP ((((aW p ts).filter λe=>e.2.1 != 0).map eB).zip xs)).map (·.2)=zs at Oj |-;have zl:=Oj.length
    have tl:(eu (aW p ts)).length<=(aW p ts).length:=by
     unfold eu;rw[Yg,(cz _).length_eq,Yg];exact Zx _ _
    have sE:aC (upd H2 D (.lst xs)) (upd (upd H2 D (.lst xs)) D2 (.lst zs)):=aq Nd;have Rj:=gL.keep Oj (aI.of sE);have Rk:aC H (upd (upd H2 D (.lst xs)) D2 (.lst zs)):=λc u e=>sE _ _ (sD _ _ (s2 _ _ e));have Jj:upd (upd H2 D (.lst xs)) D2 (.lst zs) D2=some (.lst zs):=ai;generalize upd (upd H2 D (.lst xs)) D2 (.lst zs)=H4 at Rj Rk Jj |-;refine⟨D2,rfl,⟨zs,bo.of Jj⟩,?_⟩;refine⟨λi m us σ' H5=>m=zs.length-i/\i<=zs.length/\aC H4 H5/\bp H5 us ((eu (aW p ts)).take i)/\∃o1 o2 o3,σ'=[o1,o2,o3],⟨zs.length,by simp,Yt _,aC.refl _,.nil,none,none,none,rfl⟩,?_⟩;rintro i m' us σ' H5 ⟨rfl,XJ,s5,Ng,o1,o2,o3,rfl⟩
    have ul:us.length<=zs.length:=by
     rw[Ng.length];simp;omega
    refine⟨Yo (Yq ul (Yq (xn zl) (Yq tl gl))) (YX h64 (by decide)),?_⟩;have Ol:=s5 _ _ Jj
    by_cases KA:i<zs.length
    ·refine .inr ⟨⟨zs,zs[i],bo.of Ol,by simp[KA]⟩,λx H6 hx=>?_⟩;obtain⟨rfl,hx⟩:=hx;obtain⟨e,ee,er⟩:=bK Rj (hx zs (bo.of Ol));obtain⟨t0,b,a,rfl,h1,h2,h3⟩:=er.keep (aI.of s5)
     have F5:(eu (aW p ts)).take (i+1)=(eu (aW p ts)).take i++[e]:=by rw[YE,ee];rfl
     refine⟨t0,_,rfl,aU.of h1,rfl,_,_,rfl,_,_,rfl,_,_,rfl,rfl,?_⟩;dsimp only[EB];refine bA ⟨_,rfl,_,rfl,hJ,λt' Kz=>?_⟩;have sT:aC H6 (upd H6 t' (.tup [.ref b,.ref a])):=aq Kz;refine⟨zs.length-(i+1),by omega,rfl,KA,λc u e=>sT _ _ (s5 _ _ e),?_,_,_,_,rfl⟩;rw[F5];exact uU (bp.keep Ng (aI.of sT)) ⟨t',b,a,rfl,ai,sT _ _ h2,sT _ _ h3⟩
    ·have Ur:i=zs.length:=by omega
     subst Ur;refine .inl ⟨⟨zs,bo.of Ol,Ye _⟩,λD3 Us=>?_⟩;rw[zl,Yv] at Ng;have sL:aC H5 (upd H5 D3 (.lst us)):=aq Us;exact q _ D3 _ (λc u e=>sL _ _ (s5 _ _ (Rk _ _ e))) ai (bp.keep Ng (aI.of sL))
noncomputable abbrev qr:Stmt:=bh (bc 34) 0
noncomputable def C6 (ks:List Int):Prop:=cJ (some (ks.map V.int))=true/\ks.length<4000
theorem zF {t:Int}(n:Num p t b):wz p (some (.int t,.int b))=true:=by
 unfold wz;dsimp only
 by_cases z:p=0
 ·rw[Yh z,n.red];have:=n.pos;simp;omega
 ·rw[Yd z];obtain⟨h1,h2,h3⟩:=n.pr z;simp[h1,h2,h3]
theorem DE {t:Tm}(h:C7 H y t)(g:Gn p n t.2)(pd:C6 t.1):Em p H y true:=by
 obtain⟨a,pr,nu,rfl,ha,Gd,Gw⟩:=h
 have e:Em p H (.ref a) (cJ (some (t.1.map V.int))&&wz p (some (.int t.2.1,.int t.2.2))):=.two ha (.tup Gd (by rw[Yg];exact pd.2) λy hy=>by
  obtain⟨k,_,rfl⟩:=YG.mp hy
  exact⟨_,.int k⟩) (.two Gw (.int _) (.int _))
 rw[pd.1,zF g.1] at e;exact e
theorem vX :∀{ys:List V}{ts:List Tm},bp H ys ts->(∀t∈ts,Gn p n t.2/\C6 t.1)->∀y∈ys,Em p H y true
 |_,_,.nil,_,y,hy=>nomatch hy
 |_,_,.cons h t,g,y,hy=>by
  rcases Yn.mp hy with rfl|hy
  ·exact DE h (g _ Yl).1 (g _ Yl).2
  ·exact vX t (λt ht=>g t (Yi _ ht)) y hy
structure vg (K:Frag)(mg:u9)(C:Addr):Prop where
 cl:Ej K C
 nF:d0 K C "its_field"
 nT:d0 K C "its_terms"
 mgC:mg "Sum"=some (.ref C)
noncomputable def vF (fl D:Addr):List (Str×V):=[("its_field",.ref fl),("its_terms",.ref D)]
noncomputable def mU (C CF:Addr):Sp:=λvs H Q _=>∃(s dx fl FK:Addr)(p:Int)(x:V)(ts:List Tm),vs=[.ref s,.ref fl,x]/\H s=some (.ins C dx [])/\H fl=some (.ins CF FK (gG p))/\FP p /\
 ((x=.non/\ts=[])\/∃l ys,x=.ref l/\H l=some (.lst ys)/\bp H ys ts)/\Ar p ts/\(∀t∈ts,C6 t.1) /\
 ∀H' D zs,SameBut s H H'->H D=none->H' s=some (.ins C dx (vF fl D))->H' D=some (.lst zs)->bp H' zs (eu (aW p ts))->Q .non H'
theorem zX:CP CR CR (ar qr):=fe (by decide +kernel)
theorem xr {C CF T:Addr}(F:rn K "__init__" "Sum.__init__" qr f fd T)(c:vg K mg C)
 (q0:Ca P w K mg base 5 rm "gathered" (qJ CF))
 (q1:Ca P w K mg base 5 rm "checked_terms" (mh CF)):
 ya P w K mg base (cD P w) 6 f fd CR (mU C CF):=by
 obtain⟨fg,N0,FG,bG,mG,kG⟩:=q0;obtain⟨fc,XM,FC,bC,mC,kC⟩:=q1;refine F.okE zX (λvs H Q E h=>?_) (λFv A outer s H vs Q E hr h=>?_)
 ·obtain⟨s,dx,fl,FK,p,x,ts,rfl,_⟩:=h;rfl
 ·obtain⟨s0,dx,fl,FK,p,x,ts,rfl,hs,hf,hp,hx,G,hP,q⟩:=h;have hG:∀t∈ts,Gn p 4000 t.2/\C6 t.1:=λt ht=>⟨G.num t ht,hP t ht⟩;have KC:wa 5 _:=hr.mono (by decide);refine⟨_,au (rG (pv 0) (pv 1) rfl) (ax (rG (pv 0) (aH FG KC (by rfl) mG kG bG .nil ao (aj (pv 1) (aj (aH FC KC (by rfl) mC kC bC .nil ao (aj (pv 1) (aj (pv 2) ag rfl) rfl)) ag rfl) rfl)) rfl)),?_⟩;refine⟨_,rfl,_,rfl,s0,C,dx,_,rfl,hs,c.cl,c.nF,by decide,?_⟩
  have J9:fl≠s0:=λz=>by
   rw[z,hs] at hf
   injection hf with hf
   injection hf with _ _ hf
   cases hf
  have Om:upd H s0 (.ins C dx (dX "its_field" (.ref fl) [])) fl=some (.ins CF FK (gG p)):=by rw[aA J9];exact hf
  have kT:aI H (upd H s0 (.ins C dx (dX "its_field" (.ref fl) []))):=aI.upd λxs z=>by rw[hs] at z;cases z
  have fin:∀(H2:Hp)(l:Addr)(ys:List V),aC (upd H s0 (.ins C dx (dX "its_field" (.ref fl) []))) H2->H2 l=some (.lst ys)->bp H2 ys ts->qJ CF [.ref fl,.ref l] H2 (λy H1=>cc 0 [some (.ref s0),some (.ref fl),some x] H1 λx2 H2=>∃a C dx fs,x2=.ref a/\H2 a=some (.ins C dx fs)/\Ej K C/\d0 K C "its_terms"/\fs.length<1000 /\
   Q .non (upd H2 a (.ins C dx (dX "its_terms" y fs)))) λ_ _ _=>False:=by
   intro H2 l ys s2 hl ht;refine⟨fl,FK,l,p,ys,ts,rfl,s2 _ _ Om,hp,hl,ht,G,λH3 D zs s3 h0 hD hz=>?_⟩;have Oo:H3 s0=some (.ins C dx (dX "its_field" (.ref fl) [])):=s3 _ _ (s2 _ _ ai);refine⟨_,rfl,s0,C,dx,_,rfl,Oo,c.cl,c.nT,(by show 1<1000;decide),?_⟩
   have nD:D≠s0:=λz=>by rw[z,Oo] at hD;cases hD
   refine q _ D zs (λb u e nb=>?_) (none_of (λc u e=>e) (by
    cases e:H D with
    |none=>rfl
    |some u=>rw[s2 D u (by rw[aA nD];exact e)] at h0;cases h0)) ai (by rw[aA nD];exact hD) (bp.keep hz (aI.upd λxs z=>by rw[Oo] at z;cases z))
   rw[aA nb];exact s3 _ _ (s2 _ _ (by rw[aA nb];exact e))
  rcases hx with⟨rfl,rfl⟩|⟨l,ys,rfl,hl,ht⟩
  ·refine⟨_,rfl,_,rfl,_,rfl,fl,FK,p,.non,rfl,Om,hp,.inl ⟨rfl,λl hl=>?_⟩⟩;exact fin _ l [] (aq hl) ai .nil
  ·have nl:l≠s0:=λz=>by rw[z,hs] at hl;cases hl
   have Gk:upd H s0 (.ins C dx (dX "its_field" (.ref fl) [])) l=some (.lst ys):=by rw[aA nl];exact hl
   have Nh:=bp.keep ht kT;refine⟨_,rfl,_,rfl,_,rfl,fl,FK,p,.ref l,rfl,Om,hp,.inr ⟨l,ys,rfl,Gk,?_,vX Nh hG,λH2 s2=>?_⟩⟩
   ·rw[ht.length];have:=G.len;omega
   ·exact fin _ l ys s2 (s2 _ _ Gk) (bp.keep Nh (aI.of s2))
end K44
namespace L2
open PySem PySem.Spec PyProof.Rows PySem.W
theorem fV:∀{ns:List Int}{us:nN},aR (ns.map V.int) us->IntsAre us ns
 |[],us,r=>by cases r;exact .nil
 |n::ns,us,r=>by
  rw[YF] at r
  cases r with
  |cons h t =>
   obtain⟨k,rfl⟩:=(show ∃k,_=Value.int n k from h);exact .cons n k (fV t)
theorem qS:∀{us:nN}{ns:List Int},IntsAre us ns->aR (ns.map V.int) us
 |_,_,.nil=>.nil
 |_,_,.cons n t h=>.cons ⟨t,rfl⟩ (qS h)
end L2
namespace Mx
open PySem PyProof.Rows
noncomputable def jf:Option Int->List Int->Option Int
 |b,[]=>b
 |none,n::ns=>jf (some n) ns
 |some m,n::ns=>jf (some (if n>m then n else m)) ns
noncomputable def kept (c:Nat):Option (Int×Tok)->Obj
 |none=>{cls:=.type "list",dict:=none,data:=.seq #[] c,slots:=#[]}
 |some (m,t)=>{cls:=.type "list",dict:=none,data:=.seq #[.int m t,.int m t] c,slots:=#[]}
section
variable {prog:yo}{w:World}{A:Around}{E:pH}{s:Bi}{R:Result->Shared->Prop}
theorem Ag {a b:Int}{t u:Tok}{Q:pH}(h:Q (.bool (decide (a>b))) s):wpAny (model prog w) A (richCompare .Gt (.int a t) (.int b u)) Q E s :=
 CmpOf.ints_gt (P:=λi v=>∃t,v=.int (if i=0 then a else b) t) (λi=>if i=0 then a else b) (λ{_ _} h=>h) 0 1 _ _ s Q E ⟨t,by simp⟩ ⟨u,by simp⟩ (by simpa using h)
theorem Bv (a v:Value):argsOk "max" ⟨[a],[(Str.ofString "default",v)]⟩:=by unfold argsOk;kernel_rfl
theorem oH {I l S:Addr}{items:Cu}{d:Value}(hh:A.handled=none)(Ip:S≠I)(KD:S≠l)(JL:l≠I):∀(ns:List Int)(i:Nat)(s:Bi)(b:Option (Int×Tok))(c:Nat),
 s.heap.IsListIter I l i->s.heap.IsList l items->IntsAre (items.toList.drop i) ns->s.heap.get? S=some (kept c b) →
 (∀v h' tk,(match jf (b.map (·.1)) ns with|none=>v=d|some m=>∃t,v=.int m t)->(∀x o,x≠I->x≠S->s.heap.get? x=some o->h'.get? x=some o)->R (.ok (.ret v)) {s with heap:=h',toks:=tk}) →
 codeAny (model prog w) A (.builtin "max.loop" ⟨[.ref I,.none,.ref S],[(Str.ofString "default",d)]⟩) R s
 |[],i,s,b,c,hit,hl,hn,hS,hR=>by
  have hx:items[i]?=none:=by
   have e:items.toList.drop i=[]:=by cases hq:items.toList.drop i with
    |nil=>rfl
    |cons x r=>rw[hq] at hn;cases hn
   have:=List.drop_eq_nil_iff.mp e;simp at this |-;omega
  refine ZM F.entry_max_loop ?_;rw[ZJ C1 _]
  cases b with
  |none =>
   show wpAny _ A.in1 (seqItems? (.ref S)>>=_) _ _ s;refine X9 (Zj hS rfl ?_);show wpAny _ A.in1 (tryCatch (pyNext (.ref I)) _>>=_) _ _ s;refine X9 (jK (Cy hh hit hl hx λh' eb=>?_));refine X9 (Fp (Yb ?_));exact hR d h' s.toks rfl λx o h1 _ e=>eb x o h1 e
  |some p =>
   obtain⟨m,t⟩:=p;show wpAny _ A.in1 (seqItems? (.ref S)>>=_) _ _ s;refine X9 (Zj hS rfl ?_);show wpAny _ A.in1 (tryCatch (pyNext (.ref I)) _>>=_) _ _ s;refine X9 (jK (Cy hh hit hl hx λh' eb=>?_));have Iq:=eb S _ Ip hS;show wpAny _ A.in1 (updateSeq S (λ_=>#[])>>=_) _ _ _;refine X9 (jz Iq rfl (X9 (ET (Yb ?_))));exact hR _ _ s.toks ⟨t,rfl⟩ λx o h1 h2 e=>(YL _ _ (YM h2)).trans (eb x o h1 e)
 |n::ns,i,s,b,c,hit,hl,hn,hS,hR=>by
  have Gy:(toString "max"++toString ".loop":String)="max.loop":=by decide
  obtain⟨t,hx,JV⟩:∃t,items[i]?=some (.int n t)/\IntsAre (items.toList.drop (i+1)) ns:=by
   cases hq:items.toList.drop i with
   |nil=>rw[hq] at hn;cases hn
   |cons x r =>
    rw[hq] at hn
    cases hn with
    |cons _ t hr =>
     refine⟨t,?_,?_⟩
     ·have:(items.toList.drop i)[0]?=some (Value.int n t):=by rw[hq];rfl
      simpa using this
     ·have:items.toList.drop (i+1)=(items.toList.drop i).drop 1:=by rw[List.drop_drop,Nat.add_comm]
      rw[this,hq];exact hr
  refine ZM F.entry_max_loop ?_;rw[ZJ C1 _]
  cases b with
  |none =>
   show wpAny _ A.in1 (seqItems? (.ref S)>>=_) _ _ s;refine X9 (Zj hS rfl ?_);show wpAny _ A.in1 (tryCatch (pyNext (.ref I)) _>>=_) _ _ s;refine X9 (jK (qB hit hl hx λh' Ia sb=>?_));have Iq:=(sb.2 S Ip).trans hS;show wpAny _ A.in1 (updateSeq S (λ_=>#[.int n t,.int n t])>>=_) _ _ _;refine X9 (jz Iq rfl ?_);rw[Gy];refine Yb ⟨x6 C1 _,?_⟩;have up:∀x o,x≠S->h'.get? x=some o->(h'.update S (Obj.mapSeq λ_=>#[.int n t,.int n t])).get? x=some o:=λx o hx e=>(YL _ _ (YM hx)).trans e;refine oH hh Ip KD JL ns (i+1) _ (some (n,t)) _ (Ia.at λo e=>up I o (YM Ip) e) ((hl.extBut sb.extBut JL).at λo e=>up l o (YM KD) e) JV (Y3 _ Iq rfl) λv h2 tk hv hk=>?_;exact hR v h2 tk hv λx o h1 h3 e=>hk x o h1 h3 (up x o h3 ((sb.2 x h1).trans e))
  |some p =>
   obtain⟨m,u⟩:=p;show wpAny _ A.in1 (seqItems? (.ref S)>>=_) _ _ s;refine X9 (Zj hS rfl ?_);show wpAny _ A.in1 (tryCatch (pyNext (.ref I)) _>>=_) _ _ s;refine X9 (jK (qB hit hl hx λh' Ia sb=>?_));have Iq:=(sb.2 S Ip).trans hS;show wpAny _ A.in1 (tryCatch (holding [.int n t,.int n t] (richCompare .Gt (.int n t) (.int m u)>>=_)) _>>=_) _ _ _;refine X9 (jK (YY (X9 (Ag ?_))));refine X9 (YY (Y9 ?_));refine X9 (ET (Yb ?_))
   by_cases hb:n>m
   ·simp only[YD hb,ZR];refine X9 (jz Iq rfl (X9 (ET ?_)));rw[Gy];refine Yb ⟨x6 C1 _,?_⟩;have up:∀x o,x≠S->h'.get? x=some o->(h'.update S (Obj.mapSeq λ_=>#[.int n t,.int n t])).get? x=some o:=λx o hx e=>(YL _ _ (YM hx)).trans e;refine oH hh Ip KD JL ns (i+1) _ (some (n,t)) _ (Ia.at λo e=>up I o (YM Ip) e) ((hl.extBut sb.extBut JL).at λo e=>up l o (YM KD) e) JV (Y3 _ Iq rfl) λv h2 tk hv hk=>?_;refine hR v h2 tk ?_ λx o h1 h3 e=>hk x o h1 h3 (up x o h3 ((sb.2 x h1).trans e));simpa only[Option.map_some,jf,Yh hb] using hv
   ·simp only[Yu hb,Zl,Zv];refine X9 (ET ?_);rw[Gy];refine Yb ⟨x6 C1 _,?_⟩;refine oH hh Ip KD JL ns (i+1) _ (some (m,u)) c Ia (hl.extBut sb.extBut JL) JV Iq λv h2 tk hv hk=>?_;refine hR v h2 tk ?_ λx o h1 h3 e=>hk x o h1 h3 ((sb.2 x h1).trans e);simpa only[Option.map_some,jf,Yd hb] using hv
theorem zN {id:String}{b:Builtin}{args:nN}{kw:List (Str×Value)}{Q:pH}(hk:builtinKind id=none)(hp:plainId id=true)(hb:entryFor table id=some b)(ha:argsOk id ⟨args,kw⟩)
 (hc:wpAny (model prog w) A.in1 (b ⟨args,kw⟩) (λfin s'=>match fin with
  | .done f=>(match (Except.ok f:Result) with| .ok (.ret v)=>Q v s'| .ok _=>False| .error e=>E e s')
  | .again c'=>c'.quiet=true/\codeAny (model prog w) A c' (λr s'=>match r with| .ok (.ret v)=>Q v s'| .ok _=>False| .error e=>E e s') s') E s):
 wpAny (model prog w) A (call (.builtin id) args kw) Q E s:=by
 refine rC (om hp hb ?_);simp only[checkBuiltinCall,hk]
 cases Oq:Manifest.signature? id with
 |none=>exact Yb hc
 |some AJ =>
  have Je:Bind.checkArgs id AJ ⟨args,kw⟩=pure ():=by simpa only[argsOk,Oq] using ha
  simp only[Je];exact Yb hc
theorem BQ {l:Addr}{items:Cu}{ns:List Int}{d:Value}{Q:pH}(hh:A.handled=none)(hl:s.heap.IsList l items)(hn:IntsAre items.toList ns)
 (hQ:∀v h' tk,(match jf none ns with|none=>v=d|some m=>∃t,v=.int m t)->(∀x o,s.heap.get? x=some o->h'.get? x=some o)->Q v {s with heap:=h',toks:=tk}):
 wpAny (model prog w) A (call (.builtin "max") [.ref l] [(Str.ofString "default",d)]) Q E s:=by
 have Gy:(toString "max"++toString ".loop":String)="max.loop":=by decide
 refine zN F.kind_max F.plain_max F.entry_max (Bv _ _) ?_;show wpAny _ A.in1 (Builtin.Builtins.bindParams "max" ["key","default"] 0 ⟨[],[(Str.ofString "default",d)]⟩>>=_) _ _ s;refine X9 (uZ (show Builtin.Builtins.bindParams "max" ["key","default"] 0 ⟨[],[(Str.ofString "default",d)]⟩=pure [none,some d] from rfl) ?_);refine X9 (Yb ?_);refine X9 (Be hl ?_);refine X9 (YB ?_);rw[Gy]
 have lt:l<s.heap.objs.size:=by obtain⟨o,e,_⟩:=hl;exact Ym e
 have sz:(s.heap.push {cls:=.type "list_iterator",data:=.fields #[.ref l,.int 0 0]}).objs.size=s.heap.objs.size+1:=Zb ..;have g2:∀x o,s.heap.get? x=some o->((s.heap.push {cls:=.type "list_iterator",data:=.fields #[.ref l,.int 0 0]}).push {cls:=.type "list",data:=.seq #[]}).get? x=some o:=λx o e=>Yc _ (Yc _ e);refine Yb ⟨x6 C1 _,oH (items:=items) hh ?_ ?_ (Yr lt) ns 0 _ none 0 ⟨_,Yc _ (Yk _ rfl),rfl,rfl⟩ (hl.at λo e=>g2 l o e) (by simpa using hn) (Yk _ rfl) λv h' tk hv hk=>?_⟩
 ·show(s.heap.push _).objs.size≠s.heap.objs.size;rw[sz];exact u3 _
 ·show(s.heap.push _).objs.size≠l;rw[sz];exact Zz (ZK lt)
 ·refine hQ v h' tk hv λx o e=>hk x o (Yr (Ym e)) ?_ (g2 x o e);show x≠(s.heap.push _).objs.size;rw[sz];exact Yr (ZK (Ym e))
end
end Mx
namespace L2
open PySem PySem.Spec PyProof.Rows PySem.W
section
variable {X:Cx}{e d:Expr}{ta td:TE}{p kpos pos:Pos}
noncomputable def DG (K:Frag)(ta td:TE):TE:=λσ H Q=>bq ta Co σ H λvs H1=>bq td Co σ H1 λds H2=>∃(l:Addr)(ns:List Int)(dv:V),vs=[.ref l]/\ds=[dv]/\bo K H2 l (ns.map V.int)/\Q (match Mx.jf none ns with|none=>dv|some m=>.int m) H2
theorem zI (ha:PE X e ta)(hd:PE X d td)(hc:X.calm=true)(hg:Gl X "max")(hm:X.mg "max"=none)(hs:fZ e=false:=by rfl):PE X (.Call (.Name "max" p) [e] [⟨some "default",d,kpos⟩] pos) (DG X.K ta td):=by
 intro pins s σ H Q I h;refine Y6 (eI I hg hm (by rfl) ?_ (by decide) (by decide));refine callWith_builtin_kwB (by rw[bz hs];rfl) rfl (evalArgs_kw2 rfl ?_ (bz hs));refine bO (aj ha ag hs pos pins s σ H _ I h) λus s1 z'=>?_;obtain⟨vs,H1,I1,r1,h1⟩:=z';refine bO (aaA (nm:=some "default") (kpos:=kpos) hd aau pos pins s1 σ H1 _ I1 h1) λws s2 z'=>?_;obtain⟨ds,H2,I2,r2,l,ns,dv,e1,e2,hl,q⟩:=z';subst e1 e2;obtain⟨u,rfl,ru⟩:=dw r1
 cases(show u=Value.ref l from ru)
 obtain⟨w',rfl,Gb⟩:=dw r2;obtain⟨its,rv,pl,hz⟩:=I2.list hl;show wpAny _ X.A (call (.builtin "max") [.ref l] [(Str.ofString "default",w')]) _ _ s2;refine Mx.BQ (I.ok.hd hc) pl.isList (by simpa using fV rv) λv h' tk hv hk=>?_;refine⟨_,H2,I2.kept (t':=tk) hk,?_,q⟩
 cases hb:Mx.jf none ns with
 |none=>rw[hb] at hv;cases hv;exact Gb
 |some m=>rw[hb] at hv;obtain⟨t,rfl⟩:=hv;exact⟨t,rfl⟩
end
theorem lG:∀(ns:List Int)(m:Int),∃b,Mx.jf (some m) ns=some b/\(b=m\/b∈ns)/\m<=b/\∀a∈ns,a<=b
 |[],m=>⟨m,rfl,.inl rfl,ZY _,λa h=>nomatch h⟩
 |n::ns,m=>by
  obtain⟨b,h1,h2,h3,h4⟩:=lG ns (if n>m then n else m);refine⟨b,h1,?_,?_,λa ha=>?_⟩
  ·rcases h2 with q|q
   ·by_cases z:n>m
    ·rw[Yh z] at q;exact .inr (by simp[q])
    ·rw[Yd z] at q;exact .inl q
   ·exact .inr (Yi _ q)
  ·split at h3 <;> omega
  ·rcases Yn.mp ha with rfl|ha
   ·split at h3 <;> omega
   ·exact h4 a ha
theorem l0 {ns:List Int}(h:ns≠[]):∃b,Mx.jf none ns=some b/\b∈ns/\∀a∈ns,a<=b:=by
 cases ns with
 |nil=>exact absurd rfl h
 |cons n ns =>
  obtain⟨b,h1,h2,h3,h4⟩:=lG ns n;refine⟨b,h1,?_,λa ha=>?_⟩
  ·rcases h2 with q|q
   ·simp[q]
   ·exact Yi _ q
  ·rcases Yn.mp ha with rfl|ha
   ·exact h3
   ·exact h4 a ha
end L2
namespace K44
open PySem L2 PySem.W Nm Srt
noncomputable abbrev sI:Stmt:=bh (bc 34) 5
noncomputable abbrev rW:Stmt:=bh (bc 34) 6
noncomputable abbrev qz:Stmt:=bh (bc 34) 8
structure zP (C CF:Addr)(H:Hp)(s:Addr)(p:Int)(ts:List Tm):Prop where
 ex:∃dx fl FK D zs,H s=some (.ins C dx (vF fl D))/\H fl=some (.ins CF FK (gG p))/\H D=some (.lst zs)/\bp H zs ts
noncomputable def oo (C CF:Addr):Sp:=λvs H Q _=>∃(s dx fl D:Addr),vs=[.ref s]/\H s=some (.ins C dx (vF fl D))/\Q (.ref fl) H
noncomputable def oh (C CF:Addr):Sp:=λvs H Q _=>∃(s dx fl D:Addr)(zs:List V),vs=[.ref s]/\H s=some (.ins C dx (vF fl D))/\H D=some (.lst zs)/\∀l,H l=none->Q (.ref l) (upd H l (.lst zs))
theorem xo:CP ["self"] ["self"] (ar sI):=fe (by decide +kernel)
theorem yt:CP ["self"] ["self"] (ar rW):=fe (by decide +kernel)
variable {P:yo}{w:World}{K:PySem.W.Frag}{mg:u9}{base:Heap}
variable {f C:Addr}{fd:BG}
theorem u0 {CF:Addr}(F:ve K "field" "Sum.field" sI f fd)(c:vg K mg C):ya P w K mg base (cD P w) 1 f fd ["self"] (oo C CF):=by
 refine F.okN xo (λvs H Q E h=>?_) (λFv A outer s H vs Q E hr h=>?_)
 ·obtain⟨s,dx,fl,D,rfl,_⟩:=h;rfl
 ·obtain⟨s0,dx,fl,D,rfl,hs,q⟩:=h;exact⟨_,ax (aF (cN (pv 0) rfl)),_,rfl,s0,C,dx,_,_,rfl,hs,c.cl,c.nF,rfl,q⟩
theorem uG {CF:Addr}(F:ve K "terms" "Sum.terms" rW f fd)(c:vg K mg C)(FA:mg "list"=none):ya P w K mg base (cD P w) 1 f fd ["self"] (oh C CF):=by
 refine F.okN yt (λvs H Q E h=>?_) (λFv A outer s H vs Q E hr h=>?_)
 ·obtain⟨s,dx,fl,D,zs,rfl,_⟩:=h;rfl
 ·obtain⟨s0,dx,fl,D,zs,rfl,hs,hD,q⟩:=h;refine⟨_,ax (aF (bt dM (by rfl) FA (by rfl) (aj (cN (pv 0) rfl) ag rfl))),?_⟩;exact⟨_,rfl,s0,C,dx,_,_,rfl,hs,c.cl,c.nT,rfl,D,zs,rfl,.inl (bo.of hD),λl hl=>q l hl⟩
noncomputable def DQ (t:Tm):Int:=t.1.getLastD 0+1
noncomputable def fu (ts:List Tm):Int:=(Mx.jf none ((ts.filter λt=>!t.1.isEmpty).map DQ)).getD 0
noncomputable def tP (C:Addr):Sp:=λvs H Q _=>∃(s dx fl D:Addr)(zs:List V)(ts:List Tm),vs=[.ref s]/\H s=some (.ins C dx (vF fl D))/\H D=some (.lst zs)/\bp H zs ts/\ts.length<4000/\(∀t∈ts,t.1.length<4000)/\∀H',aC H H'->Q (.int (fu ts)) H'
theorem zV:CP ["self"] ["self"] (ar qz):=fe (by decide +kernel)
theorem zy {ks:List Int}(h:ks≠[]):p9 (ks.map V.int) (-1)=some (.int (ks.getLastD 0)):=by
 have hl:0<ks.length:=List.length_pos_iff.mpr h;unfold p9 xj;rw[Yg,Yd (by decide),Yh (by omega)];show(ks.map V.int)[((-1:Int)+(ks.length:Int)).toNat]?=_
 have e:((-1:Int)+(ks.length:Int)).toNat=ks.length-1:=by omega
 rw[e,YU,YZ (by omega)]
 have g:ks.getLastD 0=ks[ks.length-1]'(by omega):=by
  rw[List.getLastD_eq_getLast?,List.getLast?_eq_getElem?,YZ (by omega)];rfl
 rw[g];rfl
theorem wQ (F:ve K "reach" "Sum.reach" qz f fd)(c:vg K mg C)(Ge:mg "max"=none):ya P w K mg base (cD P w) 1 f fd ["self"] (tP C):=by
 refine F.okN zV (λvs H Q E h=>?_) (λFv A outer s H vs Q E hr h=>?_)
 ·obtain⟨s,dx,fl,D,zs,ts,rfl,_⟩:=h;rfl
 ·obtain⟨s0,dx,fl,D,zs,ts,rfl,hs,hD,hz,hl,GV,q⟩:=h
  refine⟨_,ax (aF (zI (bY (g:=lu K 2 (cR (bw 0) (cR (bw 1) qx))) (N:=["product","number"]) (nl:=2) (js:=[]) (osc:=ar qz) ⟨rfl,rfl,by decide +kernel,by decide +kernel,by decide +kernel,rfl,.nil,by decide +kernel⟩ rfl
   (dN (cN (pv 0) rfl))
   (λC fp s H=>(cY (X:=fK _ ["product","number"] _ C fp s H) rfl (aN (aD (X:=fK _ ["product","number"] _ C fp s H) (i:=0) (by show(["product","number"]:Ez).Nodup;decide +kernel) rfl (Or.inl rfl) (Or.inr rfl)) (aN (aD (X:=fK _ ["product","number"] _ C fp s H) (i:=1) (by show(["product","number"]:Ez).Nodup;decide +kernel) rfl (Or.inl rfl) (Or.inr rfl)) cp))))
   (λC fp s H=>dG (show PT _ _ (λσ H Q=>cc 0 σ H λx H'=>∃k,Bm K x H' k/\Q k H') from ow (pv 0) (λ_=>rfl)))
   (λC fp s H=>(aK fh (aY (show AI _ (xq K) from bJ) (pv 0) (oE kN ak) (λ_ _=>rfl)) ak))) ak rfl (by rfl) Ge)),?_⟩
  refine⟨_,rfl,s0,C,dx,_,_,rfl,hs,c.cl,c.nT,rfl,D,rfl,⟨zs,bo.of hD⟩,?_⟩;refine⟨λi m xs σ' H'=>m=zs.length-i/\i<=zs.length/\aC H H'/\xs=(((ts.take i).filter λt=>!t.1.isEmpty).map DQ).map V.int/\∃o1 o2,σ'=[o1,o2],⟨zs.length,by simp,Yt _,aC.refl _,rfl,none,none,rfl⟩,?_⟩;rintro i m xs σ' H' ⟨rfl,hi,sH,rfl,o1,o2,rfl⟩;have zl:=hz.length;have Kt:=sH _ _ hD;refine⟨?_,?_⟩
  ·rw[Yg,Yg];exact Yo (Zx _ _) (Yo (by simp;omega) (YX hl (by decide)))
  by_cases Fy:i<zs.length
  ·refine .inr ⟨⟨zs,zs[i],bo.of Kt,by simp[Fy]⟩,λy H2 hy=>?_⟩;obtain⟨rfl,hy⟩:=hy;obtain⟨t,et,tr⟩:=bK hz (hy zs (bo.of Kt));obtain⟨a,pr,nu,rfl,ha,Gd,Gw⟩:=tr.keep (aI.of sH)
   have F5:ts.take (i+1)=ts.take i++[t]:=by rw[YE,et];rfl
   refine⟨a,_,rfl,aU.of ha,rfl,_,_,rfl,_,_,rfl,rfl,?_⟩;refine⟨_,rfl,!t.1.isEmpty,.inr (.inl ⟨_,aU.of Gd,by simp⟩),?_⟩
   cases hb:t.1.isEmpty with
   |false =>
    have ne:t.1≠[]:=by intro z;rw[z] at hb;cases hb
    refine bA ⟨_,rfl,_,rfl,pr,_,-1,_,rfl,rfl,aU.of Gd,zy ne,_,_,rfl,rfl,zs.length-(i+1),by omega,rfl,Fy,sH,?_,_,_,rfl⟩;rw[F5,ZV];simp[hb,DQ]
   |true =>
    refine b7 ⟨zs.length-(i+1),by omega,rfl,Fy,sH,?_,_,_,rfl⟩;rw[F5,ZV];simp[hb]
  ·have ei:i=zs.length:=by omega
   subst ei;refine .inl ⟨⟨zs,bo.of Kt,Ye _⟩,λL hL=>?_⟩;rw[zl,Yv];refine⟨L,_,.int 0,rfl,rfl,bo.of ai,?_⟩;have q':=q _ (λb u z=>by rw[aA (aB (sH _ _ z) hL)];exact sH _ _ z:aC H (upd H' L (.lst (((ts.filter λt=>!t.1.isEmpty).map DQ).map V.int))));unfold fu at q';show Q _ (upd H' L (.lst (((ts.filter λt=>!t.1.isEmpty).map DQ).map V.int)));generalize upd H' L (.lst (((ts.filter λt=>!t.1.isEmpty).map DQ).map V.int))=H9 at q' |-;generalize Mx.jf none ((ts.filter λt=>!t.1.isEmpty).map DQ)=ob at q' |-
   cases ob <;> exact q'
structure zo (K:Frag)(mg:u9)(C:Addr):Prop where
 c:vg K mg C
 Tw:((clsIn K C).isSome&&typeIn K (.ref C)==some (.type "type"))=true
 ca:findIn K (.ref C) "__class__"=some (some (.builtin "object.__class__"))
 sp:specialIn K (.builtin "object.__class__") "__get__"=some (some (.builtin "getset_descriptor.__get__"))
 tk:takesIn K (.builtin "object.__class__")=some true
 ob:mroIn K C (.type "object")=some true
variable {K:Frag}{H:Hp}
theorem zo.ty {mg:u9}(c:zo K mg C){p dx:Addr}{fs:List (Str×V)}(e:H p=some (.ins C dx fs)):uS K H (.ref p) (.ref C):=.of (.ins e c.c.cl c.ca c.sp c.tk c.ob)
theorem zo.is {mg:u9}(c:zo K mg C):kitOne K (.ref C) (.ref C)=some true:=by
 unfold kitOne;rw[Yh (by simp)]
noncomputable def yD (t:Tm):D:=.tup [.tup (t.1.map D.int),.tup [.int t.2.1,.int t.2.2]]
theorem uj :∀ns:List Int,bg K H (ns.map D.int) (ns.map V.int)
 |[]=>by unfold bg;rfl
 |n::ns=>by
  show bg K H (.int n::ns.map D.int) (.int n::ns.map V.int);unfold bg;exact⟨_,_,rfl,(by unfold aM;rfl),uj ns⟩
theorem zY:∀ns:List Int,eP (ns.map D.int)=0
 |[]=>by simp[eP]
 |n::ns=>by rw[YF];unfold eP;rw[zY ns];simp[iR]
theorem y9 {y:V}{t:Tm}(h:C7 H y t):aM K H (yD t) y:=by
 obtain⟨a,pr,nu,rfl,ha,Gd,Gw⟩:=h;unfold yD aM;refine⟨a,_,rfl,aU.of ha,?_⟩;unfold bg;refine⟨_,_,rfl,(by unfold aM;exact⟨pr,_,rfl,aU.of Gd,uj _⟩),?_⟩;unfold bg;refine⟨_,_,rfl,Bx Gw,?_⟩;unfold bg;rfl
theorem p3 :∀{ys:List V}{ts:List Tm},bp H ys ts->bg K H (ts.map yD) ys
 |_,_,.nil=>by unfold bg;rfl
 |_,_,.cons (b:=t) h r=>by
  show bg K H (yD t::_) _;unfold bg;exact⟨_,_,rfl,y9 h,p3 r⟩
theorem rZ:∀ts:List Tm,eP (ts.map yD)<=2
 |[]=>by unfold eP;decide
 |t::ts=>by
  show eP (yD t::ts.map yD)<=2;unfold eP;have:=rZ ts
  have h:iR (yD t)=2:=by
   unfold yD iR eP eP eP;rw[DV,show iR (.tup (t.1.map D.int))=1 from by unfold iR;rw[zY]];rfl
  omega
noncomputable abbrev lE (ts:List Tm):D:=.lst (ts.map yD)
theorem oq {a:Addr}{ys:List V}{ts:List Tm}(e:H a=some (.lst ys))(h:bp H ys ts):aM K H (lE ts) (.ref a):=by
 unfold aM;exact⟨a,ys,rfl,bo.of e,p3 h⟩
theorem yZ (ts:List Tm):iR (lE ts)<=32:=by
 unfold iR;have:=rZ ts;omega
theorem zP.same {CF:Addr}{H':Hp}{s:Addr}{p:Int}{ts:List Tm}(h:zP C CF H s p ts)(k:aC H H'):zP C CF H' s p ts:=by
 obtain⟨dx,fl,FK,D,zs,h1,h2,h3,h4⟩:=h.ex;exact⟨dx,fl,FK,D,zs,k _ _ h1,k _ _ h2,k _ _ h3,bp.keep h4 (aI.of k)⟩
end K44
namespace Nm
open Lean.Grind in
structure Val (p:Int)(R:Type) [CommRing R](v:Int×Int->R):Prop where
 zero:v (0,1)=0
 one:v (1,1)=1
 set:∀{t b:Int}{a c:Int×Int},Num p a.1 a.2->Num p c.1 c.2->(t=a.1*c.2+c.1*a.2->b=a.2*c.2->v (cZ p t b,da p t b)=v a+v c)/\(t=a.1*c.1->b=a.2*c.2->v (cZ p t b,da p t b)=v a*v c)
 inj:∀{a c:Int×Int},Num p a.1 a.2->Num p c.1 c.2->v a=v c->a=c
theorem iN {t b:Int}(h:b≠0):cZ 0 t b*b=t*da 0 t b:=by
 have e1:=lV (t:=t) h;have e2:=jd (t:=t) h;show dq t b*b=t*cw t b;generalize dq t b=x at *;generalize cw t b=y at *;generalize dv t b=d at *;subst e1;subst e2;grind
theorem zm:Val 0 Rat (λa=>Rat.divInt a.1 a.2) where
 zero:=by decide +kernel
 one:=by decide +kernel
 set:=by
  intro t b a c na nc
  have ha:a.2≠0:=by have:=na.pos;omega
  have hc:c.2≠0:=by have:=nc.pos;omega
  have hb:a.2*c.2≠0:=v7 ha hc;refine⟨λet eb=>?_,λet eb=>?_⟩
  ·subst eb;subst et
   have hs:da 0 (a.1*c.2+c.1*a.2) (a.2*c.2)≠0:=by have:=(Num.set (p:=0) (t:=a.1*c.2+c.1*a.2) (ZY 0) hb).pos;omega
   show Rat.divInt _ _=Rat.divInt _ _+Rat.divInt _ _;rw[Rat.divInt_add_divInt _ _ ha hc,BI hs hb];exact iN hb
  ·subst eb;subst et
   have hs:da 0 (a.1*c.1) (a.2*c.2)≠0:=by have:=(Num.set (p:=0) (t:=a.1*c.1) (ZY 0) hb).pos;omega
   show Rat.divInt _ _=Rat.divInt _ _*Rat.divInt _ _;rw[Rat.divInt_mul_divInt,BI hs hb];exact iN hb
 inj:=by
  intro a c na nc e
  have ha:a.2≠0:=by have:=na.pos;omega
  have hc:c.2≠0:=by have:=nc.pos;omega
  have e:=(BI ha hc).mp e;obtain⟨h1,h2⟩:=aa5 (p:=0) ha nc (ZY 0) (λ_=>e) (λz=>absurd rfl z);obtain⟨g1,g2⟩:=na.self (ZY 0);exact rf (g1.symm.trans h1) (g2.symm.trans h2)
theorem Av {n:Nat} [NeZero n](h2:2<=n):Val (n:Int) (Fin n) (λa=>Fin.ofNat n a.1.toNat) where
 zero:=rfl
 one:=rfl
 set:=by
  intro t b a c na nc
  have hz:(n:Int)≠0:=by omega
  obtain⟨a2,a0,a1⟩:=na.pr hz;obtain⟨c2,c0,c1⟩:=nc.pr hz
  have key:∀x y z:Int,0<=x->0<=y->0<=z->z=x+y->(z%(n:Int)).toNat%n=(x.toNat%n+y.toNat%n)%n:=by
   intro x y z hx hy hz e;obtain⟨x,rfl⟩:∃m:Nat,x=(m:Int):=⟨x.toNat,by omega⟩;obtain⟨y,rfl⟩:∃m:Nat,y=(m:Int):=⟨y.toNat,by omega⟩;subst e;rw[show((x:Int)+(y:Int))%(n:Int)=(((x+y)%n:Nat):Int) from by push_cast;rfl];rw[YV,YV,YV,Nat.mod_mod,Nat.add_mod]
  have Ot:∀x y z:Int,0<=x->0<=y->z=x*y->(z%(n:Int)).toNat%n=(x.toNat%n)*(y.toNat%n)%n:=by
   intro x y z hx hy e;obtain⟨x,rfl⟩:∃m:Nat,x=(m:Int):=⟨x.toNat,by omega⟩;obtain⟨y,rfl⟩:∃m:Nat,y=(m:Int):=⟨y.toNat,by omega⟩;subst e;rw[show((x:Int)*(y:Int))%(n:Int)=(((x*y)%n:Nat):Int) from by push_cast;rfl];rw[YV,YV,YV,Nat.mod_mod,Nat.mul_mod]
  refine⟨λet eb=>?_,λet eb=>?_⟩
  ·apply Fin.ext;show(cZ (n:Int) t b).toNat%n=(a.1.toNat%n+c.1.toNat%n)%n;unfold cZ;rw[Yd hz];exact key a.1 c.1 t a0 c0 (by rw[et,a2,c2];omega) (by rw[et,a2,c2];omega)
  ·apply Fin.ext;show(cZ (n:Int) t b).toNat%n=(a.1.toNat%n)*(c.1.toNat%n)%n;unfold cZ;rw[Yd hz];exact Ot a.1 c.1 t a0 c0 et
 inj:=by
  intro a c na nc e
  have hz:(n:Int)≠0:=by omega
  obtain⟨a2,a0,a1⟩:=na.pr hz;obtain⟨c2,c0,c1⟩:=nc.pr hz;have e:a.1.toNat%n=c.1.toNat%n:=Ze Fin.val e;rw[Nat.mod_eq_of_lt (by omega),Nat.mod_eq_of_lt (by omega)] at e;exact rf (by omega) (by omega)
theorem Cc {p:Int}(hp:p=0\/2<=p):∃(R:Type)(i:Lean.Grind.CommRing R)(v:Int×Int->R),@Val p R i v:=by
 rcases hp with rfl|hp
 ·exact⟨Rat,_,_,zm⟩
 ·obtain⟨n,rfl⟩:∃n:Nat,p=(n:Int):=⟨p.toNat,by omega⟩;have:NeZero n:=⟨by omega⟩;exact⟨Fin n,_,_,Av (by omega)⟩
end Nm
namespace K44
open PySem L2 PySem.W Nm Srt
variable {d ts:List Tm}
section
variable {p:Int}{R:Type} [Lean.Grind.CommRing R]{v:Int×Int->R}
noncomputable def S (v:Int×Int->R):List Tm->(List Int->R)->R
 |[],_=>0
 |t::ts,F=>v t.2*F t.1+S v ts F
theorem hZ (a b:List Tm)(F:List Int->R):S v (a++b) F=S v a F+S v b F:=by
 induction a with
 |nil=>show S v b F=0+S v b F;grind
 |cons t a ih =>
  show v t.2*F t.1+S v (a++b) F=v t.2*F t.1+S v a F+S v b F;rw[ih];grind
theorem Do (a:List Tm)(F G:List Int->R):S v a (λi=>F i+G i)=S v a F+S v a G:=by
 induction a with
 |nil=>show(0:R)=0+0;grind
 |cons t a ih =>
  show v t.2*(F t.1+G t.1)+S v a (λi=>F i+G i)=(v t.2*F t.1+S v a F)+(v t.2*G t.1+S v a G);rw[ih];grind
theorem AR (a:List Tm)(c:R)(F:List Int->R):S v a (λi=>c*F i)=c*S v a F:=by
 induction a with
 |nil=>show(0:R)=c*0;grind
 |cons t a ih =>
  show v t.2*(c*F t.1)+S v a (λi=>c*F i)=c*(v t.2*F t.1+S v a F);rw[ih];grind
theorem Bq {a b:List Tm}(h:a.Perm b)(F:List Int->R):S v a F=S v b F:=by
 induction h with
 |nil=>rfl
 |cons x _ ih=>show _+_=_+_;rw[ih]
 |swap x y l =>
  show v y.2*F y.1+(v x.2*F x.1+S v l F)=v x.2*F x.1+(v y.2*F y.1+S v l F);grind
 |trans _ _ i1 i2=>exact i1.trans i2
noncomputable def cb (p:Int)(d:List Tm):Prop:=∀e∈d,Num p e.2.1 e.2.2
theorem pL {a b:Int×Int}(hp:0<=p)(ha:Num p a.1 a.2)(hb:Num p b.1 b.2):Num p (cW p a b).1 (cW p a b).2 :=
 Num.set hp (v7 (by have:=ha.pos;omega) (by have:=hb.pos;omega))
theorem xX {t:Tm}(hp:0<=p)(hd:cb p d)(ht:Num p t.2.1 t.2.2):cb p (cK p d t):=by
 intro e he;unfold cK at he
 split at he
 ·obtain⟨e0,h0,rfl⟩:=YG.mp he
  by_cases q:e0.1=t.1
  ·rw[Yh q];exact pL hp (hd e0 h0) ht
  ·rw[Yd q];exact hd e0 h0
 ·rcases YI.mp he with he|he
  ·exact hd e he
  ·have:e=t:=by simpa using he
   rw[this];exact ht
theorem DC (V:Val p R v){x:Int×Int}(hx:Num p x.1 x.2)(k:List Int)(F:List Int->R):∀{d:List Tm},cb p d->(d.map (·.1)).Nodup →
 S v (d.map λe=>if e.1=k then(e.1,cW p e.2 x) else e) F=S v d F+(if d.any (λe=>decide (e.1=k))=true then v x*F k else 0)
 |[],_,_=>by show(0:R)=0+0;grind
 |e::d,hn,hd=>by
  rw[YF] at hd;obtain⟨h1,h2⟩:=YT.mp hd;have JE:cb p d:=λe he=>hn e (Yi _ he);have ih:=DC V hx k F JE h2;rw[YF,CQ]
  by_cases q:e.1=k
  ·have no:d.any (λe=>decide (e.1=k))=false:=by
    rw[EJ];intro e' Ho z
    have:e'.1=k:=by simpa using z
    exact h1 (YG.mpr ⟨e',Ho,by rw[this,q]⟩)
   rw[no,Yd (by simp)] at ih;rw[Yh q,no,YD q];have ev:v (cW p e.2 x)=v e.2+v x:=(V.set (hn e Yl) hx).1 rfl rfl;show v (cW p e.2 x)*F e.1+S v (d.map _) F=v e.2*F e.1+S v d F+v x*F k;rw[ih,ev,q];grind
  ·rw[Yd q,Yu q,Bool.false_or];show v e.2*F e.1+S v (d.map _) F=v e.2*F e.1+S v d F+_;rw[ih];grind
theorem BC (V:Val p R v){t:Tm}(hn:cb p d)(ht:Num p t.2.1 t.2.2)(hd:(d.map (·.1)).Nodup)(F:List Int->R):S v (cK p d t) F=S v d F+v t.2*F t.1:=by
 unfold cK
 split
 ·rename_i q
  rw[DC V ht t.1 F hn hd,Yh q]
 ·rw[hZ];show S v d F+(v t.2*F t.1+0)=_;grind
theorem sX (V:Val p R v)(hp:0<=p)(F:List Int->R):∀(ts d:List Tm),cb p ts->cb p d->(d.map (·.1)).Nodup →
 S v (ts.foldl (cK p) d) F=S v d F+S v ts F/\cb p (ts.foldl (cK p) d)/\((ts.foldl (cK p) d).map (·.1)).Nodup
 |[],d,_,hn,hd=>⟨by show S v d F=S v d F+0;grind,hn,hd⟩
 |t::ts,d,ht,hn,hd=>by
  have h1:=ht t Yl;obtain⟨i1,i2⟩:=sX V hp F ts (cK p d t) (λe he=>ht e (Yi _ he)) (xX hp hn h1) (l7 hd);refine⟨?_,i2⟩;show S v (ts.foldl (cK p) (cK p d t)) F=S v d F+(v t.2*F t.1+S v ts F);rw[i1,BC V hn h1 hd];grind
theorem gB (V:Val p R v)(hp:0<=p)(h:cb p ts)(F:List Int->R):S v (aW p ts) F=S v ts F/\cb p (aW p ts)/\((aW p ts).map (·.1)).Nodup:=by
 obtain⟨h1,h2⟩:=sX V hp F ts [] h (λe he=>nomatch he) yr;refine⟨?_,h2⟩;show S v (ts.foldl (cK p) []) F=_;rw[h1];show(0:R)+S v ts F=S v ts F;grind
theorem xY {t b:Int}(h:Num p t b)(z:t=0):b=1:=by
 have:=h.red;have:=h.pos;rw[z,Int.gcd_zero_left] at *;omega
theorem oA (V:Val p R v)(F:List Int->R):∀{d:List Tm},cb p d->S v (d.filter λe=>e.2.1 != 0) F=S v d F
 |[],_=>rfl
 |e::d,h=>by
  have ih:=oA V F (d:=d) λe he=>h e (Yi _ he)
  by_cases q:e.2.1=0
  ·rw[vb (by simp[q]),ih];have e2:e.2=(0,1):=rf q (xY (h e Yl) q);show _=v e.2*F e.1+S v d F;rw[e2,V.zero];grind
  ·rw[NI (by simp[q])];show v e.2*F e.1+S v _ F=v e.2*F e.1+S v d F;rw[ih]
theorem eU (d:List Tm):(eu d).Perm (d.filter λe=>e.2.1 != 0):=by
 unfold eu;have h:=(cz ((d.filter λe=>e.2.1 != 0).map λe=>(eB e,e))).map (·.2);rw[rR] at h;have e:((λx:Ky×Tm=>x.2) ∘ λe=>(eB e,e))=id:=rfl;rw[e,List.map_id] at h;exact h
theorem Cj (V:Val p R v)(h:cb p d)(F:List Int->R):S v (eu d) F=S v d F:=by
 rw[Bq (eU d),oA V F h]
theorem xP (h:cb p d):cb p (eu d):=λe he=>h e (Y7.mp ((eU d).mem_iff.mp he)).1
theorem BA (V:Val p R v)(hp:0<=p)(h:cb p ts)(F:List Int->R):S v (eu (aW p ts)) F=S v ts F:=by
 obtain⟨h1,h2,_⟩:=gB V hp h F;rw[Cj V h2,h1]
theorem CY (V:Val p R v)(hp:0<=p)(h:cb p ts):cb p (eu (aW p ts)):=xP (gB V hp h λ_=>0).2.1
noncomputable def dl (k:List Int):List Int->R:=λi=>if i=k then 1 else 0
theorem BK {k:List Int}:∀{d:List Tm},k∉d.map (·.1)->S v d (dl k)=0
 |[],_=>rfl
 |e::d,h=>by
  rw[YF,Yn,uN] at h;show v e.2*(if e.1=k then 1 else 0)+S v d (dl k)=0;rw[Yd (λz=>h.1 z.symm),BK h.2];grind
theorem BU:∀{d:List Tm}{e:Tm},(d.map (·.1)).Nodup->e∈d->S v d (dl e.1)=v e.2
 |x::d,e,hd,he=>by
  rw[YF] at hd;obtain⟨h1,h2⟩:=YT.mp hd;show v x.2*(if x.1=e.1 then 1 else 0)+S v d (dl e.1)=v e.2
  rcases Yn.mp he with rfl|he
  ·rw[Yh rfl,BK h1];grind
  ·rw[Yd (λz=>h1 (YG.mpr ⟨e,he,z.symm⟩)),BU h2 he];grind
theorem oX (V:Val p R v){c:List Tm}(hn:cb p d)(hd:(d.map (·.1)).Nodup)(cn:cb p c)(cd:(c.map (·.1)).Nodup)(h:∀F:List Int->R,S v d F=S v c F){e:Tm}(he:e∈d.filter λe=>e.2.1 != 0):e∈c.filter λe=>e.2.1 != 0:=by
 obtain⟨h1,h2⟩:=Y7.mp he;refine Y7.mpr ⟨?_,h2⟩;have e1:=BU (v:=v) hd h1;rw[h] at e1
 by_cases k:e.1∈c.map (·.1)
 ·obtain⟨e',Ho,ek⟩:=YG.mp k;have e2:=BU (v:=v) cd Ho;rw[ek,e1] at e2;have e3:=V.inj (hn e h1) (cn e' Ho) e2;have:e=e':=rf ek.symm e3;rw[this];exact Ho
 ·rw[BK k] at e1;have e3:=V.inj (a:=(0,1)) (c:=e.2) ⟨by decide,by decide,λz=>⟨rfl,by decide,?_⟩⟩ (hn e h1) (V.zero.trans e1)
  ·rw[<-e3] at h2;exact absurd h2 (by decide)
  ·have:=((hn e h1).pr z).2;show(0:Int)<p;omega
theorem oN (h:(d.map (·.1)).Nodup):d.Nodup:=by
 induction d with
 |nil=>exact yr
 |cons e d ih =>
  rw[YF] at h;obtain⟨h1,h2⟩:=YT.mp h;exact YT.mpr ⟨λz=>h1 (YG.mpr ⟨e,z,rfl⟩),ih h2⟩
theorem y0 (V:Val p R v){c:List Tm}(hn:cb p d)(hd:(d.map (·.1)).Nodup)(cn:cb p c)(cd:(c.map (·.1)).Nodup)(h:∀F:List Int->R,S v d F=S v c F):eu d=eu c:=by
 have nd:=(oN hd).filter (λe:Tm=>e.2.1 != 0);have nc:=(oN cd).filter (λe:Tm=>e.2.1 != 0);have pm:(d.filter λe=>e.2.1 != 0).Perm (c.filter λe=>e.2.1 != 0):=(List.perm_ext_iff_of_nodup nd nc).mpr λe=>⟨oX V hn hd cn cd h,oX V cn cd hn hd λF=>(h F).symm⟩;unfold eu;congr 1;refine oY ?_ (pm.map _);rw[rR];have cf:((c.filter λe=>e.2.1 != 0).map (·.1)).Nodup:=cd.sublist (zL.map _);generalize (c.filter λe=>e.2.1 != 0)=l at cf
 induction l with
 |nil=>exact yr
 |cons e l ih =>
  rw[YF] at cf |-;obtain⟨h1,h2⟩:=YT.mp cf;refine YT.mpr ⟨λz=>?_,ih h2⟩;obtain⟨x,hx,ex⟩:=YG.mp z;have ex:eB x=eB e:=ex;exact h1 (YG.mpr ⟨x,hx,Ze Prod.snd ex⟩)
theorem AB (V:Val p R v)(hp:0<=p){us:List Tm}(ht:cb p ts)(hu:cb p us)(h:∀F:List Int->R,S v ts F=S v us F):eu (aW p ts)=eu (aW p us):=by
 obtain⟨_,t1,t2⟩:=gB V hp ht λ_=>0;obtain⟨_,u1,u2⟩:=gB V hp hu λ_=>0
 exact y0 V t1 t2 u1 u2 λF=>by rw[(gB V hp ht F).1,(gB V hp hu F).1,h]
end
end K44
namespace St
open PySem
noncomputable abbrev T:=SetTable
noncomputable def Up (xs:Array Nat):Prop:=∀i j,i<j->j<xs.size->xs.getD i 0<xs.getD j 0
noncomputable def Eb (xs:Array Nat)(j r:Nat):Prop:=r<=xs.size/\(∀k,k<r->xs.getD k 0<j)/\∀k,r<=k->k<xs.size->j<=xs.getD k 0
variable {xs:Array Nat}{k:Nat}
theorem xF {d e:Nat}(h:k<xs.size):xs.getD k d=xs.getD k e:=by
 simp[Array.getD,h]
variable {j:Nat}
theorem Cn (u:Up xs):∀(f lo hi:Nat),lo<=hi->hi<=xs.size->hi-lo<=f->(∀k,k<lo->xs.getD k 0<j)->(∀k,hi<=k->k<xs.size->j<=xs.getD k 0) →
 Eb xs j (SetTable.below.go xs j f lo hi):=by
 intro f
 induction f with
 |zero =>
  intro lo hi h1 h2 h3 h4 h5
  have e:lo=hi:=by omega
  subst e;exact⟨h2,h4,h5⟩
 |succ f ih =>
  intro lo hi h1 h2 h3 h4 h5;unfold SetTable.below.go
  by_cases h:lo<hi
  ·rw[Yh h]
   have hm:(lo+hi)/2<xs.size:=by omega
   have e:xs.getD ((lo+hi)/2) j=xs.getD ((lo+hi)/2) 0:=xF hm;dsimp only;rw[e]
   by_cases g:xs.getD ((lo+hi)/2) 0<j
   ·rw[Yh g];refine ih _ _ (by omega) h2 (by omega) (λk hk=>?_) h5
    rcases Z0 k ((lo+hi)/2) with q|q
    ·exact YX (u _ _ q hm) g
    ·have:k=(lo+hi)/2:=by omega
     rw[this];exact g
   ·rw[Yd g];refine ih _ _ (by omega) (by omega) (by omega) h4 (λk hk Ut=>?_)
    rcases Z0 ((lo+hi)/2) k with q|q
    ·exact Yq (Nat.not_lt.mp g) (Zi (u _ _ q Ut))
    ·have:k=(lo+hi)/2:=by omega
     rw[this];exact Nat.not_lt.mp g
  ·rw[Yd h]
   have e:lo=hi:=by omega
   subst e;exact⟨h2,h4,h5⟩
theorem eV (u:Up xs)(j:Nat):Eb xs j (SetTable.below xs j):=
 Cn u _ _ _ (Yt _) (Ye _) (by omega) (λk hk=>absurd hk (yR _)) (λk h1 h2=>absurd h1 (by omega))
theorem qV {r q:Nat}(a:Eb xs j r)(b:Eb xs j q):r=q:=by
 rcases oV r q with h|h|h
 ·have h1:=b.2.1 r h;have h2:=a.2.2 r (Ye _) (Ys h b.1);omega
 ·exact h
 ·have h1:=a.2.1 q h;have h2:=b.2.2 q (Ye _) (Ys h a.1);omega
theorem rM (u:Up xs):SetTable.below xs 0=0 :=
 qV (eV u 0) ⟨Yt _,λk hk=>absurd hk (yR _),λ_ _ _=>Yt _⟩
variable {i:Nat}
theorem ql (u:Up xs)(h:i<xs.size):SetTable.below xs (xs.getD i 0+1)=i+1:=by
 refine qV (eV u _) ⟨h,λk hk=>?_,λk h1 h2=>?_⟩
 ·rcases Z0 k i with q|q
  ·exact ZK (u _ _ q h)
  ·have:k=i:=by omega
   rw[this];exact BH _
 ·exact u _ _ (by omega) h2
theorem qL (h:i<xs.size):xs[i]?=some (xs.getD i 0):=by
 simp[Array.getD,h]
noncomputable def vR (xs:Array Nat)(j:Nat):Prop:=∃k,k<xs.size/\xs.getD k 0=j
theorem lJ {t:T}(u:Up t.place)(h:vR t.place j):∃i,t.slot j=.live i:=by
 obtain⟨k,hk,rfl⟩:=h
 have hb:SetTable.below t.place (t.place.getD k 0)=k:=by
  refine qV (eV u _) ⟨Zi hk,λq hq=>u _ _ hq hk,λq h1 h2=>?_⟩
  rcases Z0 k q with g|g
  ·exact Zi (u _ _ g h2)
  ·have:q=k:=by omega
   rw[this];exact Ye _
 refine⟨k,?_⟩;unfold SetTable.slot;dsimp only;rw[hb,qL hk];simp
theorem iF {t:T}(u:Up t.place)(d:t.dummies = #[])(h:¬vR t.place j):t.slot j=.empty:=by
 unfold SetTable.slot;dsimp only
 have e:(t.place[SetTable.below t.place j]?==some j)=false:=by
  rcases Z0 (SetTable.below t.place j) t.place.size with g|g
  ·rw[qL g];have:t.place.getD (SetTable.below t.place j) 0≠j:=λq=>h ⟨_,g,q⟩;simpa using this
  ·rw[Zu g];rfl
 have e2:SetTable.has t.dummies j=false:=by rw[d];simp[SetTable.has]
 rw[e,e2];rfl
theorem eM {α:Type}(xs:Array α)(p:Nat)(x:α)(h:p<=xs.size):(SetTable.insertAt xs p x).size=xs.size+1:=by
 rw[<-Yz,SetTable.toList_insertAt];simp;omega
theorem gI {p x:Nat}(h:p<=xs.size):(SetTable.insertAt xs p x).getD k 0=if k<p then xs.getD k 0 else if k=p then x else xs.getD (k-1) 0:=by
 have e:∀(ys:Array Nat)(k:Nat),ys.getD k 0=(ys.toList[k]?).getD 0:=by
  intro ys k;rw[vx,Ah]
 rw[e,e,e,SetTable.toList_insertAt]
 have hl:(xs.toList.take p).length=p:=by simp[h]
 by_cases g:k<p
 ·rw[Yh g,Bf (by omega),List.getElem?_take_of_lt g]
 ·rw[Yd g,DZ (by omega),hl]
  by_cases g2:k=p
  ·subst g2;simp
  ·rw[Yd g2];obtain⟨q,hq⟩:∃q,k=p+(q+1):=⟨k-p-1,by omega⟩;subst hq;rw[show p+(q+1)-p=q+1 from by omega,List.getElem?_cons_succ,List.getElem?_drop,show p+(q+1)-1=p+q from by omega]
theorem vA (u:Up xs)(h:¬vR xs j):Up (SetTable.insertAt xs (SetTable.below xs j) j):=by
 obtain⟨c1,c2,c3⟩:=eV u j;generalize SetTable.below xs j=p at c1 c2 c3;intro a b Ii hb;rw[eM _ _ _ c1] at hb;rw[gI c1,gI c1];have gt:∀k,p<=k->k<xs.size->j<xs.getD k 0:=λk h1 h2=>Nat.lt_of_le_of_ne (c3 k h1 h2) λe=>h ⟨k,h2,e.symm⟩
 by_cases ha:a<p
 ·rw[Yh ha]
  by_cases Jb:b<p
  ·rw[Yh Jb];exact u _ _ Ii (by omega)
  ·rw[Yd Jb]
   by_cases KG:b=p
   ·rw[Yh KG];exact c2 _ ha
   ·rw[Yd KG];exact YX (c2 _ ha) (gt _ (by omega) (by omega))
 ·rw[Yd ha]
  by_cases Hs:a=p
  ·rw[Yh Hs,Yd (by omega),Yd (by omega)];exact gt _ (by omega) (by omega)
  ·rw[Yd Hs,Yd (by omega),Yd (by omega)];exact u _ _ (by omega) (by omega)
noncomputable def it (m:Nat):Nat->Nat->Nat
 |0,x=>x
 |n+1,x=>it m n ((x*5+1)%m)
theorem rE (m a:Nat):∀b x,it m (b+a) x=it m a (it m b x):=by
 intro b
 induction b with
 |zero=>intro x;rw[zO];rfl
 |succ b ih=>intro x;rw[Nat.succ_add];exact ih _
noncomputable def round (m:Nat):Bool:=it m m 0==0&&(List.range m).all λy=>(List.range m).any λn=>it m n 0==y
variable {m:Nat}
theorem D0 (h:round m=true){x y:Nat}(hx:x<m)(hy:y<m):∃n,n<m/\it m n x=y:=by
 obtain⟨h1,h2⟩:=YK.mp h
 have h0:it m m 0=0:=by simpa using h1
 have on:∀y,y<m->∃n,n<m/\it m n 0=y:=λy hy=>by
  have h3:=ZQ.mp h2 y (ZD.mpr hy);obtain⟨n,hn,e⟩:=ZC.mp h3;exact⟨n,ZD.mp hn,by simpa using e⟩
 obtain⟨a,ha,rfl⟩:=on x hx;obtain⟨b,hb,rfl⟩:=on y hy
 rcases Z0 b a with g|g
 ·refine⟨(m-a)+b,by omega,?_⟩
  have e:it m (m-a) (it m a 0)=0:=by rw[<-rE,show a+(m-a)=m from by omega,h0]
  rw[rE,e]
 ·exact⟨b-a,by omega,by rw[<-rE,show a+(b-a)=b from by omega]⟩
theorem B5:round 8=true:=by decide +kernel
theorem z9:round 32=true:=by decide +kernel
theorem xM:round 128=true:=by decide +kernel
noncomputable def kH (k:Nat):Prop:=k=7\/k=31\/k=127
theorem kH.round (h:kH k):St.round (k+1)=true:=by
 rcases h with rfl|rfl|rfl
 ·exact B5
 ·exact z9
 ·exact xM
noncomputable def lp (mask:Nat):Nat->Nat->Nat->Nat×Nat
 |0,i,p=>(i,p)
 |n+1,i,p=>lp mask n (SetTable.leap mask i p).1 (SetTable.leap mask i p).2
theorem Bw (mask a:Nat):∀b i p,lp mask (b+a) i p=lp mask a (lp mask b i p).1 (lp mask b i p).2:=by
 intro b
 induction b with
 |zero=>intro i p;rw[zO];rfl
 |succ b ih=>intro i p;rw[Nat.succ_add];exact ih _ _
theorem EG (mask:Nat):∀n i p,(lp mask n i p).2=p/32^n:=by
 intro n
 induction n with
 |zero=>intro i p;show p=_;rw[Nat.pow_zero,Nat.div_one]
 |succ n ih =>
  intro i p;show(lp mask n _ _).2=_;rw[ih];show p/32/32^n=_;rw[Nat.div_div_eq_div_mul,Nat.pow_succ,Nat.mul_comm]
theorem Dl (mask:Nat):∀n i p,i<mask+1->(lp mask n i p).1<mask+1:=by
 intro n
 induction n with
 |zero=>intro i p h;exact h
 |succ n ih=>intro i p h;exact ih _ _ (Et _ (zB _))
theorem Dw (mask:Nat):∀n i,(lp mask n i 0).1=it (mask+1) n i:=by
 intro n
 induction n with
 |zero=>intro i;rfl
 |succ n ih=>intro i;exact ih _
variable {mask:Nat}
theorem A1 (hm:kH mask){p y:Nat}(hi:i<mask+1)(hp:p<2^64)(hy:y<mask+1):∃n,n<mask+15/\(lp mask n i p).1=y:=by
 have e:(lp mask 13 i p).2=0:=by
  rw[EG];exact Nat.div_eq_of_lt (YX hp (by decide))
 obtain⟨n,hn,h⟩:=D0 hm.round (Dl mask 13 i p hi) hy;refine⟨13+n,by omega,?_⟩;rw[Bw,e,Dw,h]
theorem tN (h:Int):SetTable.bits h<2^64:=by
 unfold SetTable.bits;have h1:0<=h%(2^64:Int):=Zw _ (by decide);have h2:h%(2^64:Int)<2^64:=Zd _ (by decide);omega
theorem wY (h:i<mask+1):SetTable.runEnd mask i<mask+1/\i<=SetTable.runEnd mask i/\SetTable.runEnd mask i<=i+9:=by
 unfold SetTable.runEnd
 split <;> omega
variable {owner:Array (Option Nat)}
theorem yT :∀(n f i p y:Nat),i<mask+1->n<f->(lp mask n i p).1=y->owner.getD y (some 0)=none →
 ∃j,SetTable.layClean.free mask owner f i p=some j/\owner.getD j (some 0)=none:=by
 intro n
 induction n with
 |zero =>
  intro f i p y hi hf hy ho;obtain⟨f,rfl⟩:∃g,f=g+1:=⟨f-1,by omega⟩
  cases(show i=y from hy)
  unfold SetTable.layClean.free
  cases e:(List.range (SetTable.runEnd mask i+1-i)).find? λk=>(owner.getD (i+k) (some 0)).isNone with
  |some k =>
   have:=List.find?_some e;exact⟨i+k,rfl,by simpa using this⟩
  |none =>
   have h0:=List.find?_eq_none.mp e 0 (ZD.mpr (by have:=wY hi;omega));rw[Nat.add_zero,ho] at h0;exact absurd rfl h0
 |succ n ih =>
  intro f i p y hi hf hy ho;obtain⟨f,rfl⟩:∃g,f=g+1:=⟨f-1,by omega⟩;unfold SetTable.layClean.free
  cases e:(List.range (SetTable.runEnd mask i+1-i)).find? λk=>(owner.getD (i+k) (some 0)).isNone with
  |some k =>
   have:=List.find?_some e;exact⟨i+k,rfl,by simpa using this⟩
  |none=>exact ih f _ _ y (Et _ (zB _)) (by omega) hy ho
theorem vD {t:T}{h:Int}(u:Up t.place)(d:t.dummies = #[]){F:Nat}:∀(k f:Nat)(p:SetTable.Probe),p.more=k->p.dummy=none->k+1+F=f →
 (∀q:SetTable.Probe,q.j=q.i->q.more=SetTable.runEnd t.mask q.i-q.i->q.dummy=none->(q.i,q.perturb)=SetTable.leap t.mask p.i p.perturb->∃j,SetTable.probe.go t (λ_=>h+1) h F q=some (.empty j none)/\¬vR t.place j) →
 ∃j,SetTable.probe.go t (λ_=>h+1) h f p=some (.empty j none)/\¬vR t.place j:=by
 intro k
 induction k with
 |zero =>
  intro f p hk hd hf hn;obtain⟨f,rfl⟩:∃g,f=g+1:=⟨f-1,by omega⟩
  have hF:F=f:=by omega
  subst hF;unfold SetTable.probe.go
  by_cases g:vR t.place p.j
  ·obtain⟨i,e⟩:=lJ u g;rw[e];dsimp only;rw[Yd (by simp;omega)];refine hn _ ?_ ?_ ?_ ?_ <;> unfold SetTable.advance <;> rw[Yd (by omega)]
   ·exact hd
  ·rw[iF u d g];exact⟨_,by rw[hd],g⟩
 |succ k ih =>
  intro f p hk hd hf hn;obtain⟨f,rfl⟩:∃g,f=g+1:=⟨f-1,by omega⟩;unfold SetTable.probe.go
  by_cases g:vR t.place p.j
  ·obtain⟨i,e⟩:=lJ u g;rw[e];dsimp only;rw[Yd (by simp;omega)]
   have ea:t.advance p={p with j:=p.j+1,more:=p.more-1}:=by unfold SetTable.advance;rw[Yh (by omega)]
   rw[ea];exact ih f _ (by show p.more-1=k;omega) hd (by omega) hn
  ·rw[iF u d g];exact⟨_,by rw[hd],g⟩
theorem xD {t:T}{h:Int}(u:Up t.place)(d:t.dummies = #[]):∀(n f:Nat)(p:SetTable.Probe)(y:Nat),p.i<t.mask+1->p.j=p.i->p.more=SetTable.runEnd t.mask p.i-p.i->p.dummy=none →
 10*n<f->(lp t.mask n p.i p.perturb).1=y->¬vR t.place y->∃j,SetTable.probe.go t (λ_=>h+1) h f p=some (.empty j none)/\¬vR t.place j:=by
 intro n
 induction n with
 |zero =>
  intro f p y hi hj hm hd hf hy hn;obtain⟨f,rfl⟩:∃g,f=g+1:=⟨f-1,by omega⟩;have e:p.j=y:=hj.trans hy;unfold SetTable.probe.go;rw[e,iF u d hn];exact⟨_,by rw[hd],hn⟩
 |succ n ih =>
  intro f p y hi hj hm hd hf hy hn;have hr:=wY hi;refine vD u d (F:=f-(p.more+1)) p.more f p rfl hd (by omega) λq q1 q2 q3 q4=>?_;have e1:q.i=(SetTable.leap t.mask p.i p.perturb).1:=Ze Prod.fst q4;have e2:q.perturb=(SetTable.leap t.mask p.i p.perturb).2:=Ze Prod.snd q4;refine ih _ q y (by rw[e1];exact Et _ (zB _)) q1 q2 q3 (by omega) ?_ hn;rw[e1,e2];exact hy
theorem CJ (u:Up xs):∀m,(∀y,y<m+1->vR xs y)->∃k,k<xs.size/\xs.getD k 0=m/\m<=k:=by
 intro m
 induction m with
 |zero=>intro h;obtain⟨k,hk,e⟩:=h 0 (by omega);exact⟨k,hk,e,Yt _⟩
 |succ m ih =>
  intro h;obtain⟨k,hk,e,hl⟩:=ih λy hy=>h y (by omega);obtain⟨q,hq,e2⟩:=h (m+1) (by omega);refine⟨q,hq,e2,?_⟩
  rcases oV k q with g|g|g
  ·omega
  ·subst g;omega
  ·have:=u _ _ g hk;omega
theorem Dp (u:Up xs)(h:xs.size<m+1):∃y,y<m+1/\¬vR xs y:=by
 refine CH λn=>?_;obtain⟨k,hk,_,hl⟩:=CJ u m λy hy=>CH λg=>n ⟨y,hy,g⟩;omega
theorem vm {t:T}(hm:kH t.mask)(u:Up t.place)(d:t.dummies = #[])(hs:t.place.size<t.mask+1)(h:Int):∃j,t.freeSlot h=some (j,false)/\¬vR t.place j:=by
 obtain⟨y,hy,hn⟩:=Dp u hs;have hi:SetTable.bits h%(t.mask+1)<t.mask+1:=Et _ (zB _);obtain⟨n,hl,e⟩:=A1 hm hi (tN h) hy;obtain⟨j,e2,hj⟩:=xD (h:=h) u d n (10*SetTable.turns t.mask) (t.probeStart h) y hi rfl rfl rfl (by unfold SetTable.turns;omega) e hn;refine⟨j,?_,hj⟩;unfold SetTable.freeSlot SetTable.probe;rw[e2];rfl
noncomputable def zv (owner:Array (Option Nat))(m:Nat):List Nat:=(List.range m).filterMap λj=>owner.getD j none
structure Laid (owner:Array (Option Nat))(m k:Nat):Prop where
 size:owner.size=m
 all:(zv owner m).Perm (List.range k)
theorem getD_none (h:owner.getD j (some 0)=none):j<owner.size/\owner.getD j none=none:=by
 rcases Z0 j owner.size with g|g
 ·refine⟨g,?_⟩;rw[<-h];simp[Array.getD,g]
 ·simp[Array.getD,Nat.not_lt.mpr g] at h
theorem n8 {α β:Type}{f:α->Option β}:∀{l:List α},(∀x,x∈l->f x≠none)->(l.filterMap f).length=l.length
 |[],_=>rfl
 |x::l,h=>by
  obtain⟨y,e⟩:=Option.ne_none_iff_exists'.mp (h x Yl);rw[List.filterMap_cons_some e,YC,YC,n8 λz hz=>h z (Yi _ hz)]
theorem Laid.Dp (L:Laid owner m k)(h:k<m):∃y,y<m/\owner.getD y (some 0)=none:=by
 refine CH λn=>?_
 have e:(zv owner m).length=m:=by
  unfold zv;rw[n8,uR];intro y hy e;have JI:=ZD.mp hy;refine n ⟨y,JI,?_⟩;rw[<-e];simp[Array.getD,L.size,JI]
 rw[L.all.length_eq,uR] at e;omega
theorem jC {α β:Type}{f g:α->Option β}:∀{l:List α},(∀x,x∈l->f x=g x)->l.filterMap f=l.filterMap g
 |[],_=>rfl
 |x::l,h=>by
  rw[Zf,Zf,h x Yl,jC λz hz=>h z (Yi _ hz)]
theorem Ao (hs:owner.size=m)(hj:j<m)(ho:owner.getD j none=none):(zv (owner.setIfInBounds j (some k)) m).Perm (k::zv owner m):=by
 obtain⟨a,b,e⟩:=List.append_of_mem (ZD.mpr hj);have nd:(a++j::b).Nodup:=e▸List.nodup_range
 have na:∀x,x∈a->x≠j:=λx hx q=>by
  rw[B9] at nd;exact nd.2.2 x hx j Yl q
 have nb:∀x,x∈b->x≠j:=λx hx q=>by
  rw[B9] at nd;exact(YT.mp nd.2.1).1 (q▸hx)
 have ne:∀x,x≠j->(owner.setIfInBounds j (some k)).getD x none=owner.getD x none:=λx hx=>by
  rw[Ah,Ah,Ei (YM hx)]
 have ej:(owner.setIfInBounds j (some k)).getD j none=some k:=by
  rw[Ah,Array.getElem?_setIfInBounds_self_of_lt (by omega)];rfl
 unfold zv;rw[e,List.filterMap_append,List.filterMap_append,Zf,Zf,ej,ho];dsimp only;rw[jC λx hx=>ne x (na x hx),jC λx hx=>ne x (nb x hx)];exact List.perm_middle
theorem vq (hm:kH mask):∀(hs:List Int)(owner:Array (Option Nat))(k:Nat),Laid owner (mask+1) k->k+hs.length<mask+1 →
 ∃Ht,hs.foldl (λacc h=>do
  let(owner,k) <-acc
  let j <-SetTable.layClean.free mask owner (SetTable.turns mask) (SetTable.bits h%(mask+1)) (SetTable.bits h)
  pure (owner.setIfInBounds j (some k),k+1)) (some (owner,k))=some (Ht,k+hs.length)/\Laid Ht (mask+1) (k+hs.length):=by
 intro hs
 induction hs with
 |nil=>intro owner k L _;exact⟨owner,rfl,L⟩
 |cons h hs ih =>
  intro owner k L hl;rw[YC] at hl;obtain⟨y,hy,ho⟩:=L.Dp (by omega);have hi:SetTable.bits h%(mask+1)<mask+1:=Et _ (zB _);obtain⟨n,hn,e⟩:=A1 hm hi (tN h) hy;obtain⟨j,ej,hj⟩:=yT n (SetTable.turns mask) _ _ y hi (by unfold SetTable.turns;omega) e ho;obtain⟨j1,j2⟩:=getD_none hj
  have L':Laid (owner.setIfInBounds j (some k)) (mask+1) (k+1):=by
   refine⟨by rw[Array.size_setIfInBounds];exact L.size,(Ao L.size (by rw[<-L.size];exact j1) j2).trans ?_⟩;rw[List.range_succ];exact(List.Perm.cons k L.all).trans (List.perm_append_singleton k _).symm
  obtain⟨o',e',l'⟩:=ih _ _ L' (by omega);refine⟨o',?_,by rw[YC,show k+(hs.length+1)=k+1+hs.length from by omega];exact l'⟩;rw[List.foldl_cons,YC,show k+(hs.length+1)=k+1+hs.length from by omega];show List.foldl _ ((SetTable.layClean.free mask owner (SetTable.turns mask) (SetTable.bits h%(mask+1)) (SetTable.bits h)).bind _) hs=_;rw[ej];exact e'
theorem xA (m:Nat):zv (Array.replicate m none) m=[]:=by
 unfold zv;rw[List.filterMap_eq_nil_iff];intro j hj;have Jh:=ZD.mp hj;simp[Array.getD,Jh]
theorem qh (hm:kH mask)(hs:Array Int)(h:hs.size<mask+1):∃owner,SetTable.layClean mask hs=some owner/\Laid owner (mask+1) hs.size:=by
 obtain⟨o,e,l⟩:=vq hm hs.toList (Array.replicate (mask+1) none) 0 ⟨Array.size_replicate,by rw[xA];exact yU _⟩ (by rw[Yz];omega);rw[Yz,zO] at e l;refine⟨o,?_,l⟩;unfold SetTable.layClean;rw[<-Array.foldl_toList];rw[e];rfl
theorem DY {l:List Nat}(h:l.Pairwise (· < ·)):Up l.toArray:=by
 intro i j GD hj;rw[Yj] at hj;have:=ZW.mp h i j (by omega) hj GD;rw[show l.toArray.getD i 0=l[i] from by simp[Array.getD,show i<l.length from by omega],show l.toArray.getD j 0=l[j] from by simp[Array.getD,hj]];exact this
theorem oI {t:T}{hs:Array Int}{wanted:Nat}(em:SetTable.sizeAbove wanted-1=mask)(hm:kH mask)(h:hs.size<mask+1):
 ∃t' order,t.relaid hs wanted=some (t',order)/\t'.mask=mask/\t'.dummies = #[]/\t'.led=t.led/\t'.plain=t.plain/\Up t'.place/\t'.place.size=hs.size/\order.toList.Perm (List.range hs.size):=by
 obtain⟨o,e,l⟩:=qh hm hs h;unfold SetTable.relaid SetTable.laid;rw[em,e];refine⟨_,_,rfl,rfl,rfl,rfl,rfl,?_,?_,?_⟩
 ·dsimp only;rw[xQ];refine DY (List.Pairwise.filterMap _ (λa a' Uu b hb b' FZ=>?_) (List.pairwise_lt_range (n:=mask+1)))
  cases ea:o.getD a none with
  |none=>rw[ea] at hb;cases hb
  |some x =>
   cases Rl:o.getD a' none with
   |none=>rw[Rl] at FZ;cases FZ
   |some x' =>
    rw[ea] at hb;rw[Rl] at FZ
    cases hb;cases FZ
    exact Uu
 ·have e1:=l.all.length_eq;rw[uR] at e1;dsimp only;rw[Yj,Yg,<-e1];unfold zv;rw[show(λj=>o.getD j none)=(λj=>((o.getD j none).map (j,·)).map Prod.snd) from funext λj=>by cases o.getD j none <;> rfl,<-xQ,Yg]
 ·dsimp only;rw[xQ]
  have e2:(λx=>Option.map (λx=>x.snd) (Option.map (λx_1=>(x,x_1)) (o.getD x none)))=λj=>o.getD j none:=funext λj=>by cases o.getD j none <;> rfl
  rw[e2];exact l.all
structure Ok (led:Bool)(n:Nat)(t:T):Prop where
 mask:kH t.mask
 room:n*5<t.mask*3
 size:t.place.size=n
 up:Up t.place
 dum:t.dummies = #[]
 plain:t.plain=true
 led:t.led=led
variable {led:Bool}{n:Nat}
theorem Ok.fits {t:T}(o:Ok led n t):t.fits n=true:=by
 have h1:=o.room;have h2:=o.size;simp only[SetTable.fits,SetTable.fill,Yy,Bl,Bu,o.dum];refine⟨h2,?_⟩;rw[h2,BP];omega
theorem Ok.fresh (led:Bool):Ok led 0 (.fresh 0 0 led):=
 ⟨.inl rfl,by show 0*5<7*3;decide,rfl,λi j _ h=>absurd h (yR _),rfl,rfl,rfl⟩
theorem zT {t:T}(o:Ok led n t){es:Array (Int×Value)}(he:es.size=n)(h:Int)(x:Value):∃es' t',layNew t es h x=(es',t',false,false)/\es'.size=n+1 /\
 kH t'.mask/\t'.mask=t.mask/\t'.place.size=n+1/\Up t'.place/\t'.dummies = #[]/\t'.plain=true/\t'.led=led/\t'.fits (n+1)=true:=by
 have hr:=o.room;have hs:=o.size;obtain⟨j,ej,hj⟩:=vm o.mask o.up o.dum (by rw[hs];omega) h;have c:=eV o.up j
 have e1:(SetTable.insertAt t.place (SetTable.below t.place j) j).size=n+1:=by rw[eM _ _ _ c.1,hs]
 have e2:(SetTable.insertAt es (SetTable.below t.place j) (h,x)).size=n+1:=by rw[eM _ _ _ (by have:=c.1;omega),he]
 have e3:SetTable.has t.dummies j=false:=by rw[o.dum];simp[SetTable.has]
 have ep:t.put j=({t with place:=SetTable.insertAt t.place (SetTable.below t.place j) j},SetTable.below t.place j):=by
  unfold SetTable.put;dsimp only;rw[e3];rfl
 have ef:SetTable.fits {t with place:=SetTable.insertAt t.place (SetTable.below t.place j) j} (n+1)=true:=by
  simp only[SetTable.fits,SetTable.fill,Yy,Bl,Bu,o.dum];refine⟨e1,?_⟩;rw[e1,BP];omega
 refine⟨SetTable.insertAt es (SetTable.below t.place j) (h,x),{t with place:=SetTable.insertAt t.place (SetTable.below t.place j) j},?_,e2,o.mask,rfl,e1,vA o.up hj,o.dum,o.plain,o.led,ef⟩;unfold layNew;rw[ej];dsimp only;rw[ep];dsimp only;unfold SetTable.orStandIn;rw[e2,ef];rfl
theorem zh:SetTable.sizeAbove (SetTable.grown 5)-1=31:=by decide
theorem y4:SetTable.sizeAbove (SetTable.grown 19)-1=127:=by decide
theorem u4 {t:T}(hn:n<76)(hm:kH t.mask)(hr:n*5<t.mask*3)(hs:t.place.size=n+1)(d:t.dummies = #[])(hp:t.plain=true)(hl:t.led=led)
 {es:Array (Int×Value)}(he:es.size=n+1)(hf:t.tooFull=true):∃es' t',relayAll t es (SetTable.grown es.size)=(es',t',false)/\es'.size=n+1/\Ok led (n+1) t':=by
 have full:(n+1)*5 ≥ t.mask*3:=by
  have:=hf;simp only[SetTable.tooFull,SetTable.fill,hs,d,BP,Bu] at this;omega
 have two:(t.mask=7/\n+1=5)\/(t.mask=31/\n+1=19):=by
  rcases hm with e|e|e <;> omega
 obtain⟨mask,em,M3,Fy,KH⟩:∃mask,SetTable.sizeAbove (SetTable.grown es.size)-1=mask/\kH mask/\n+1<mask+1/\(n+1)*5<mask*3:=by
  rw[he]
  rcases two with⟨_,e⟩|⟨_,e⟩
  ·exact⟨31,by rw[e];exact zh,.inr (.inl rfl),by omega,by omega⟩
  ·exact⟨127,by rw[e];exact y4,.inr (.inr rfl),by omega,by omega⟩
 have e0:(es.map (·.1)).size=n+1:=by rw[Array.size_map];exact he
 obtain⟨t',order,er,m1,m2,m3,m4,m5,m6,m7⟩:=oI (t:=t) (hs:=es.map (·.1)) em M3 (by rw[e0];exact Fy);rw[e0] at m6 m7
 have es':(order.filterMap (es[·]?)).size=n+1:=by
  have:=(m7.filterMap (λi=>es[i]?)).length_eq;rw[<-he,filterMap_getElem?_range] at this;rw[<-Yz,Array.toList_filterMap];refine this.trans ?_;rw[Yz,he]
 have O:Ok led (n+1) t':=⟨by rw[m1];exact M3,by rw[m1];exact KH,m6,m5,m2,m4.trans hp,m3.trans hl⟩;refine⟨order.filterMap (es[·]?),t',?_,es',O⟩;unfold relayAll;rw[er];dsimp only
 have c:coversAll order es.size=true:=by unfold coversAll;rw[he];exact List.isPerm_iff.mpr m7
 rw[es',c,O.fits];rfl
open PyProof.Rows
noncomputable def num:Value->Int
 | .int n _=>n
 |_=>0
noncomputable abbrev Ent:=Int×Value
noncomputable def El (e:Ent):Prop:=∃n t,e=(hashInt n,.int n t)
structure EH (es:Array Ent)(ns:List Int):Prop where
 Ex:∀e,e∈es.toList->El e
 perm:(es.toList.map λe=>num e.2).Perm ns
noncomputable abbrev jl (es:Array Ent)(ep:Nat)(t:T):Obj:={cls:=.type "set",dict:=none,data:=.set es ep t,slots:=#[]}
noncomputable def jm (led:Bool)(h:Heap)(a:Addr)(ns:List Int):Prop:=∃es ep t,h.get? a=some (jl es ep t)/\EH es ns/\es.size=ns.length/\Ok led ns.length t
theorem pC:∀{vs:nN},(∀v,v∈vs->∃n t,v=.int n t)->IntsAre vs (vs.map num)
 |[],_=>.nil
 |v::vs,h=>by
  obtain⟨n,t,rfl⟩:=h v Yl;exact .cons n t (pC λu hu=>h u (Yi _ hu))
variable {es:Array Ent}{ns:List Int}{h:Heap}{a:Addr}{ep:Nat}
section
variable {prog:yo}{w:World}{A:Around}{E:pH}{s:Bi}
theorem EH.elems (c:EH es ns):ElemsOf (intKind prog w) es.toList:=by
 intro e he;obtain⟨n,t,rfl⟩:=c.Ex e he;exact⟨⟨n,rA _ _ _ _,rfl⟩,rfl⟩
theorem EH.has (c:EH es ns)(k:Int):(∃e,e∈es.toList/\(intKind prog w).is k e.2=true)↔k∈ns:=by
 rw[<-c.perm.mem_iff,YG];constructor
 ·rintro⟨e,he,hk⟩;obtain⟨n,t,rfl⟩:=c.Ex e he;refine⟨_,he,?_⟩;exact(intKind prog w).inj (.int n t) n k (rA _ _ _ _) hk
 ·rintro⟨e,he,hk⟩;obtain⟨n,t,rfl⟩:=c.Ex e he
  cases(show n=k from hk)
  exact⟨_,he,rA _ _ _ _⟩
theorem EH.push {es':Array Ent}(c:EH es ns){k:Int}{tk:Tok}(p:es'.toList.Perm (es.toList++[(hashInt k,.int k tk)])):EH es' (ns++[k]):=by
 refine⟨λe he=>?_,?_⟩
 ·rcases YI.mp (p.mem_iff.mp he) with h|h
  ·exact c.Ex e h
  ·rw[Zm] at h;exact⟨k,tk,h⟩
 ·refine(p.map _).trans ?_;rw[Y2];exact c.perm.append (yU _)
theorem EH.aec {es':Array Ent}(c:EH es ns)(p:es'.toList.Perm es.toList):EH es' ns :=
 ⟨λe he=>c.Ex e (p.mem_iff.mp he),(p.map _).trans c.perm⟩
theorem pj {k:Int}(h:k∈ns):step_dedup ns k=ns:=by
 unfold step_dedup;rw[Yh (ZC.mpr ⟨k,h,by simp⟩)]
theorem iZ {k:Int}(h:k∉ns):step_dedup ns k=ns++[k]:=by
 unfold step_dedup;rw[Yd λg=>?_];obtain⟨x,hx,e⟩:=ZC.mp g;exact h ((by simpa using e:x=k)▸hx)
theorem tR {es':Array Ent}{t t':T}(ho:h.get? a=some (jl es ep t)):(h.update a (Obj.putSet es' t')).get? a=some (jl es' (ep+1) t'):=
 Y3 (Obj.putSet es' t') ho rfl
theorem DI {k:Int}{tk:Tok}{Q:Bool->Shared->Prop}(S:jm led s.heap a ns)(hn:ns.length<76)
 (hQ:∀b h',Heap.SameBut a s.heap h'->jm led h' a (step_dedup ns k)->Q b {s with heap:=h'}):wpAny (model prog w) A (setAddHashed a (.int k tk) (hashInt k)) Q E s:=by
 obtain⟨es,ep,t,ho,c,hz,O⟩:=S
 have hf:t.fits es.size=true:=by rw[hz];exact O.fits
 have Rn:ElemsOf (intKind prog w) es.toList:=c.elems
 have hb:es.size<scanBound:=by show _<4096;omega
 unfold setAddHashed setAddHashedIn;refine YY (X9 (wpAny_setState_of ho rfl hf ?_));dsimp only;rw[byScan_of (knd:=intKind prog w) rfl hb Rn,Yh rfl];unfold setAddByScan;refine X9 (X9 (Fp (X9 (wpAny_setScan_of (knd:=intKind prog w) (rA _ _ k tk) ho rfl hf Rn ?_))))
 cases hr:List.findIdx? (λe=>(intKind prog w).is k e.2) es.toList with
 |some j =>
  obtain⟨hj,Uv,_⟩:=List.findIdx?_eq_some_iff_getElem.mp hr;have hk:k∈ns:=(c.has (prog:=prog) (w:=w) k).mp ⟨_,List.getElem_mem hj,Uv⟩;refine Yb (Yb ?_);have:=hQ false s.heap (Heap.SameBut.refl a s.heap) (by rw[pj hk];exact⟨es,ep,t,ho,c,hz,O⟩)
  cases s;exact this
 |none =>
  have hk:k∉ns:=λh=>by
   obtain⟨e,he,hp⟩:=(c.has (prog:=prog) (w:=w) k).mpr h;have:=List.findIdx?_eq_none_iff.mp hr e he;rw[hp] at this;cases this
  obtain⟨JM,t1,eL,z1,m1,m2,p1,u1,d1,Ou,l1,f1⟩:=zT O hz (hashInt k) (.int k tk);have hp:=layNew_perm t es (hashInt k) (.int k tk);rw[eL,Array.toList_push] at hp;have c1:EH JM (ns++[k]):=c.push hp;dsimp only;rw[eL];dsimp only;refine X9 (Yb ?_);rw[Ou,Yh rfl,hashByValue_scannable 8 (x:=.int k tk) rfl];refine X9 (Yb ?_);rw[Yh (show plainKind (.int k tk)=true from rfl)]
  have len:(ns++[k]).length=ns.length+1:=by rw[Yw];rfl
  refine X9 (wpAny_storeSet_of ho rfl ?_ (fits_of_scanBound (by rw[z1];show _<4096;omega)));have HN:=tR (es':=JM) (t':=t1) ho;have Kv:=Y1 s.heap a (Obj.putSet JM t1)
  by_cases Hu:t1.tooFull=true
  ·obtain⟨Uw,t2,eR,z2,O2⟩:=u4 hn m1 (by rw[m2];exact O.room) p1 d1 Ou l1 z1 Hu;have JF:=relayAll_perm t1 JM (SetTable.grown JM.size);rw[eR] at JF;rw[Yh (by rw[Hu];rfl)];rw[eR];dsimp only;refine X9 (Yb ?_);refine X9 (wpAny_storeSet_of HN rfl ?_ (fits_of_scanBound (by rw[z2];show _<4096;omega)));refine Yb (Yb (hQ true _ (Kv.trans (Y1 _ a _)) ?_));rw[iZ hk];exact⟨Uw,_,t2,tR HN,c1.aec JF,by rw[len];exact z2,by rw[len];exact O2⟩
  ·have Ro:t1.tooFull=false:=by simpa using Hu
   rw[Yd (by rw[Ro];decide)];refine Yb (Yb (hQ true _ Kv ?_));rw[iZ hk];refine⟨JM,_,t1,HN,c1,by rw[len];exact z1,?_⟩;rw[len];refine⟨m1,?_,p1,u1,d1,Ou,l1⟩;simp only[SetTable.tooFull,SetTable.fill,p1,d1,BP,Zn] at Ro;omega
end
noncomputable abbrev own (w:World):Bool:=!w.params.followText "set-order"
noncomputable abbrev GE:Array GenState->Array GenState->Prop:=λa b=>b=a
structure Src (prog:yo)(w:World)(c:String)(its:Cu)(Is:Heap->Addr->Prop)(JN:Addr->Obj):Prop where
 type:∀h l,Is h l->∃o,h.get? l=some o/\o.cls=.type c
 keep:∀h h' l,Is h l->(∀o,h.get? l=some o->h'.get? l=some o)->Is h' l
 iter:∀(A:Around)(s:Bi) l (Q:pH)(E:pH),Is s.heap l->Q (.ref s.heap.objs.size) {s with heap:=s.heap.push (JN l)}->wpAny (model prog w) A (pyIter (.ref l)) Q E s
 walk:∀(A:Around) I l,A.handled=none->l≠I->∃G,WalksS prog w A I [I,l] [I] GE its.size (λi v=>its[i]?=some v) G/\∀s:Shared,Is s.heap l->s.heap.get? I=some (JN l)->G 0 s
 adP:∀(h:Heap) l,(h.push (JN l)).get? h.objs.size=some (JN l)
 s1:isSubtype (.type c) (.type "set")=pure false
 s2:isSubtype (.type c) (.type "frozenset")=pure false
 nd:(Value.type c==Value.type "dict")=false
section
variable {prog:yo}{w:World}{A:Around}{R:Result->Shared->Prop}{I:Addr}{fp wr:List Addr}{n:Nat}{P:Nat->Value->Prop}{G:Nat->Shared->Prop}
theorem u7 (W:WalksS prog w A.in1 I fp wr GE n P G)(a:Addr)(ha:a∉fp)(val:Nat->Int)(hv:∀i v,P i v->∃t,v=.int (val i) t)(hn:n<76):
 ∀(k i:Nat)(s:Bi),n-i=k->i<=n->G i s->jm led s.heap a (firstMet val i) →
  (∀z,Moved (a::wr) GE s z->jm led z.heap a (firstMet val n)->R (.ok (.ret .none)) z) →
  codeAny (model prog w) A (.builtin "set.update.loop" ⟨[.ref a,.ref I],[]⟩) R s:=by
 have aw:a∉wr:=λh=>ha (W.sub _ h);have up:∀b,b∈wr->b∈a::wr:=λb hb=>Yi _ hb;have mv:∀{y z:Bi}{ns:List Int},Moved wr GE y z->jm led y.heap a ns->jm led z.heap a ns:=λm ⟨es,ep,t,o,r⟩=>⟨es,ep,t,m.heap a _ aw o,r⟩;intro k
 induction k with
 |zero =>
  intro i s hk hi g S hR
  cases(show i=n by omega)
  refine ZM wU ?_;rw[ZJ Dj _];refine X9 (m:=pyNext (.ref I)) ?_;exact W.done s _ _ g λz m=>Yb (hR z (m.mono up) (mv m S))
 |succ k ih =>
  intro i s hk hi g S hR;refine ZM wU ?_;rw[ZJ Dj _];refine X9 (m:=pyNext (.ref I)) ?_;refine W.item i s _ _ (by omega) g λv z hp g1 m=>?_;obtain⟨t,rfl⟩:=hv i v hp;refine X9 (m:=holding [Value.int (val i) t] (setAdd a (.int (val i) t))) (YY ?_);unfold setAdd;refine YY (X9 ((intKind prog w).pyHash (k:=val i) (rA _ _ _ _) ?_));refine DI (s:={z with toks:=z.toks+1}) (show jm led z.heap a _ from mv m S) (by have:=firstMet_length_le val i;omega) λb h' sb S1=>?_;rw[<-firstMet_succ] at S1;refine Yb ⟨x6 Dj _,ih (i+1) _ (by omega) (by omega) (W.frame _ z _ _ g1 (vO _) λb hb o e=>?_) S1 λy m1 S2=>?_⟩
  ·rw[sb.2 b λh:b=a=>ha (h▸hb)];exact e
  ·refine hR y (Moved.trans W.gtrans ((m.mono up).then_heap (vO _) λb o hb e=>?_) m1) S2;rw[sb.2 b λh:b=a=>hb (by rw[h];exact Yl)];exact e
end
section
variable {prog:yo}{w:World}{A:Around}{E:pH}{s:Bi}
noncomputable abbrev mZ (w:World):Obj:=jl #[] 0 (.fresh 0 0 (own w))
theorem DB (v:Value){Q:pH}(h:Q (.ref s.heap.objs.size) {s with heap:=s.heap.push (mZ w)}):
 codeAny (model prog w) A (.call (.builtin "set.__new__") ⟨[.type "set",v],[]⟩) (wants Q E) s:=by
 refine codeAny_of_tree (show wpAny _ A.in1 (checkBuiltinCall "set.__new__" ⟨[.type "set",v],[]⟩>>=λ_=>again (.builtin "set.__new__" ⟨[.type "set",v],[]⟩)) _ _ s from ?_);refine X9 (uZ (F.newCall_set_1 v) (Yb ⟨x6 F.plain_set_new _,ZM F.entry_set_new ?_⟩));rw[ZJ F.plain_set_new _];unfold Builtin.«set.__new__» Builtin.Frozenset.newClass;have su:=sub_set_self
 cases s
 dsimp only
 wp_walk
 refine qy (Yb ?_);dsimp only[newObj];exact X9 (wpAny_alloc (Yb (Yb h)))
set_option maxHeartbeats 3200000 in
theorem pU {c:String}{its:Cu}{Is:Heap->Addr->Prop}{JN:Addr->Obj}(X:Src prog w c its Is JN){l:Addr}{Q:pH}
 (hh:A.handled=none)(hl:Is s.heap l)(hi:IntsAre its.toList ns)(hb:its.size<76)
 (h:∀(h':Heap)(tk:Nat),jm (own w) h' s.heap.objs.size (firstMet (λi=>ns.getD i 0) its.size)->(∀b o,b<s.heap.objs.size->s.heap.get? b=some o->h'.get? b=some o) →
  s.toks<=tk->Q (.ref s.heap.objs.size) {s with heap:=h',toks:=tk}):
 wpAny (model prog w) A (call (.type "set") [.ref l]) Q E s:=by
 obtain⟨_,_,mro⟩:=CK.mro;have made:=CK.made;have su:=CK.sub;refine rC (codeAny_of_tree (show wpAny _ _ (callAny (.type "set") _) _ _ _ from Yb ⟨Code.quiet_builtin _ (by decide +kernel),ZM F.entry_type_call ?_⟩));rw[Around.under_plain (weight_type_call_type "set" [.ref l] []) rfl];have k1:=CK.notType;have k2:=CK.canCreate;have k3:=F.typeCall_set_1 (.ref l)
 repeat (any_goals (first|assumption|wp_step))
 refine qP (DB (.ref l) (E:=E) (Q:=λv z=>v=.ref s.heap.objs.size/\z={s with heap:=s.heap.push (mZ w)}) ⟨rfl,rfl⟩) λr z hr=>?_
 cases r with
 |error e=>exact hr
 |ok fl =>
  cases fl with
  |ret obj =>
   obtain⟨rfl,rfl⟩:=hr;have oS:(s.heap.push (mZ w)).get? s.heap.objs.size=some (mZ w):=Yk _ rfl;have tS:Shared.TypeIs {s with heap:=s.heap.push (mZ w)} (.ref s.heap.objs.size) "set":=⟨_,oS,rfl⟩;have k4:=CK.init.lookup;have k5:=CK.init.bind (.ref s.heap.objs.size)
   repeat (any_goals (first|assumption|wp_step))
   refine qP (om (R:=wants (λv z=>v=.none/\∃h' tk,z={s with heap:=h',toks:=tk}/\jm (own w) h' s.heap.objs.size (firstMet (λi=>ns.getD i 0) its.size) /\
    (∀b o,b<s.heap.objs.size->s.heap.get? b=some o->h'.get? b=some o)/\s.toks<=tk) E) CK.init.plain F.entry_set_init (check_set_init_1 tS ?_)) λr z hr=>?_
   ·have lS:Is (s.heap.push (mZ w)) l:=X.keep _ _ _ hl λo e=>Yc _ e;obtain⟨⟨oc,od,XN,FX⟩,Kn,Ov⟩:=X.type _ _ lS;dsimp only at Ov;subst Ov
    have Fy:l<s.heap.objs.size:=by
     obtain⟨o,e,_⟩:=X.type _ _ hl;exact Ym e
    have tl:Shared.TypeIs {s with heap:=s.heap.push (mZ w)} (.ref l) c:=⟨_,Kn,rfl⟩;have k6:=X.s1;have k7:=X.s2;have k8:=X.nd;unfold Builtin.«set.__init__» noKeywords Builtin.Frozenset.updateFrom;generalize Ux:pyIter=PI
    wp_walk
    subst Ux;refine X.iter _ _ _ _ _ lS ?_;refine X9 (wpAny_runValue ?_)
    have h3:A.in1.in1.in1.handled=none:=by simp[hh]
    have nI:l≠(s.heap.push (mZ w)).objs.size:=by rw[Zb];exact Yr (ZK Fy)
    have nf:s.heap.objs.size ∉ [(s.heap.push (mZ w)).objs.size,l]:=by
     rw[Zb];simp only[Yn,ZA,ED,uN];exact⟨Yr (BH _),Zz Fy⟩
    obtain⟨G,W,g0⟩:=X.walk A.in1.in1.in1 _ l h3 nI
    refine u7 W s.heap.objs.size nf (λi=>ns.getD i 0) (λi v e=>IntsAre.int_at hi i v (by rw[vx];exact e)) hb (its.size-0) 0 _ rfl (Yt _)
     (g0 _ (X.keep _ _ _ lS λo e=>Yc _ e) (X.adP _ _)) ⟨#[],0,_,Yc _ oS,⟨λe he=>by simp at he,yU _⟩,rfl,Ok.fresh _⟩ ?_
    intro z m S
    have Jk:∀b o,b<s.heap.objs.size->s.heap.get? b=some o->z.heap.get? b=some o:=λb o hb e=>by
     refine m.heap b o ?_ (Yc _ (Yc _ e));rw[Zb];simp only[Yn,ZA,ED,uN];exact⟨Yr hb,Yr (ZK hb)⟩
    have ez:z={s with heap:=z.heap,toks:=z.toks}:=by
     have e1:z.gens=s.gens:=m.gens;have e2:z.drawn=s.drawn:=m.drawn;have e3:z.os=s.os:=m.os
     cases z;cases e1;cases e2;cases e3;rfl
    refine Yb (show wpAny _ _ (ret Value.none) _ _ _ from Yb ⟨rfl,z.heap,z.toks,ez,S,Jk,m.toks⟩)
   ·cases r with
    |error e=>exact hr
    |ok fl =>
     cases fl with
     |ret v =>
      obtain⟨rfl,h',tk,rfl,S,Jk,MT⟩:=hr
      repeat (any_goals (first|assumption|wp_step))
      exact h h' tk S Jk MT
     |_=>exact hr.elim
  |_=>exact hr.elim
end
theorem wM (prog:yo)(w:World)(its:Cu):Src prog w "list" its (λh l=>h.IsList l its) (λl=>{cls:=.type "list_iterator",data:=.fields #[.ref l,.int 0 0]}) where
 type:=λh l ⟨o,e,c,_⟩=>⟨o,e,c⟩
 keep:=λh h' l ⟨o,e,r⟩ k=>⟨o,k o e,r⟩
 iter:=λA s l Q E hl h=>Be hl h
 walk:=λA I l hh F2=>⟨_,(Walks.list hh I l F2 its).toS,λs hl e=>⟨⟨_,e,rfl,rfl⟩,hl⟩⟩
 adP:=λh l=>Yk _ rfl
 s1:=F.sub_list_set
 s2:=F.sub_list_frozenset
 nd:=by decide
theorem Ay (prog:yo)(w:World)(its:Cu):Src prog w "tuple" its (λh l=>h.IsTuple l its) (λl=>{cls:=.type "tuple_iterator",data:=.fields #[.ref l,.int 0 0]}) where
 type:=λh l ⟨o,e,c,_⟩=>⟨o,e,c⟩
 keep:=λh h' l ⟨o,e,r⟩ k=>⟨o,k o e,r⟩
 iter:=λA s l Q E hl h=>lr hl h
 walk:=λA I l hh F2=>⟨_,(Walks.tuple hh I l F2 its).toS,λs hl e=>⟨⟨_,e,rfl,rfl⟩,hl⟩⟩
 adP:=λh l=>Yk _ rfl
 s1:=by rw[vC];kernel_rfl
 s2:=by rw[vC];kernel_rfl
 nd:=by decide
theorem qp {α:Type}{l:List α}(h:i<l.length):(l[i]::l.eraseIdx i).Perm l:=by
 rw[List.eraseIdx_eq_take_drop_succ];refine(List.perm_middle).symm.trans ?_;rw[<-yL h,List.take_append_drop]
theorem An {α:Type}(f:Nat->Nat):∀(n k:Nat)(l:List α)(out:Array α),n=l.length->(pickOrder.go f n k l out).toList.Perm (out.toList++l):=by
 intro n
 induction n with
 |zero =>
  intro k l out h
  cases l with
  |nil=>unfold pickOrder.go;rw[Zc]
  |cons x l=>cases h
 |succ n ih =>
  intro k l out h;unfold pickOrder.go;have hl:f k%l.length<l.length:=Et _ (by omega);rw[YZ hl];dsimp only;refine(ih (k+1) _ _ (by rw[List.length_eraseIdx_of_lt hl];omega)).trans ?_;rw[Array.toList_push,qK];exact List.Perm.append_left _ (qp hl)
theorem uO {α:Type}(f:Nat->Nat)(xs:Array α):(pickOrder f xs).toList.Perm xs.toList:=by
 have:=An f xs.size 0 xs.toList #[] (by rw[Yz]);exact this
noncomputable def vP (w:World)(a:Addr)(ep:Nat)(es:Array Ent):Array Ent:=if w.params.followText "set-order" then pickOrder (w.params.setOrder a ep) es else es
theorem kq (w:World)(a:Addr)(ep:Nat)(es:Array Ent):(vP w a ep es).toList.Perm es.toList:=by
 unfold vP
 split
 ·exact uO _ _
 ·exact yU _
noncomputable def gK (w:World)(t:T)(i:Nat):Nat:=if w.params.followText "set-order" then 0 else if i=0 then 0 else t.place.getD (i-1) 0+1
noncomputable abbrev vT (w:World)(t:T)(a:Addr)(n ep i:Nat):Obj:={cls:=.type "set_iterator",data:=.fields #[rawInt (gK w t i),rawInt i,.ref a,rawInt n,rawInt ep]}
theorem gk:Slot "set_iterator" "__next__" "set_iterator.__next__" :=
 .of (owner:="set_iterator") (n:="__next__") (by rw[typeLookup_type,builtinLookup_eq_fast];kernel_rfl) (by decide +kernel) (by decide +kernel) (by decide +kernel) (by first|exact .inl (by decide +kernel)|exact .inr (by decide +kernel)) (by rw[vC];kernel_rfl)
theorem ui:entryFor table "set_iterator.__next__"=some Builtin.«set_iterator.__next__»:=entryFor_of_tree (by kernel_rfl)
theorem uf (a:Value):argsOk "set_iterator.__next__" ⟨[a],[]⟩:=by unfold argsOk;kernel_rfl
theorem tW:Slot "set_iterator" "__iter__" "set_iterator.__iter__" :=
 .of (owner:="set_iterator") (n:="__iter__") (by rw[typeLookup_type,builtinLookup_eq_fast];kernel_rfl) (by decide +kernel) (by decide +kernel) (by decide +kernel) (by first|exact .inl (by decide +kernel)|exact .inr (by decide +kernel)) (by rw[vC];kernel_rfl)
theorem Au:entryFor table "set_iterator.__iter__"=some Builtin.«dict_keyiterator.__iter__» :=
 entryFor_alias (id':="dict_keyiterator.__iter__") (by kernel_rfl) rfl (by decide +kernel) (by kernel_rfl)
theorem y1 (a:Value):argsOk "set_iterator.__iter__" ⟨[a],[]⟩:=by unfold argsOk;kernel_rfl
theorem oW:entryFor table "set.__iter__"=some Builtin.«frozenset.__iter__» :=
 entryFor_alias (id':="frozenset.__iter__") (by kernel_rfl) rfl (by decide +kernel) (by kernel_rfl)
variable {I:Addr}
section
variable {prog:yo}{w:World}{A:Around}{E:pH}{s:Bi}
theorem kr {t:T}{Q:(Array Ent×Nat×T)->Shared->Prop}(ho:s.heap.get? a=some (jl es ep t))(O:Ok led n t)(hz:es.size=n)(h:Q (es,ep,t) s):
 wpAny (model prog w) A (setState a) Q E s:=wpAny_setState_of ho rfl (by rw[hz];exact O.fits) h
theorem qu {Q:Bool->Shared->Prop}(h:Q (w.params.followText "set-order") s):wpAny (model prog w) A setsByText Q E s:=by
 unfold setsByText;exact X9 (qy (Yb h))
theorem se {t:T}{Q:Option (Value×Nat)->Shared->Prop}(ho:s.heap.get? a=some (jl es ep t))(O:Ok (own w) n t)(hz:es.size=n)(hi:i<=n)
 (h:Q (((vP w a ep es)[i]?).map λe=>(e.2,gK w t (i+1))) s):wpAny (model prog w) A (setNext a (gK w t i) i ep) Q E s:=by
 unfold setNext;refine X9 (kr ho O hz ?_);dsimp only;refine X9 (qu ?_)
 by_cases ht:w.params.followText "set-order"=true
 ·rw[Yh ht,Yd (by simp)];unfold setWalk;refine X9 (X9 (kr ho O hz ?_));dsimp only;refine X9 (qu ?_);rw[Yh ht];refine X9 (qy (Yb (Yb ?_)));simp only[vP,gK,ht,ZR] at h |-;exact h
 ·rw[Yd ht]
  have hd:(!t.plain&&decide (es.size>1))=false:=by rw[O.plain];rfl
  show wpAny _ _ (if(!t.plain&&decide (es.size>1))=true then _ else _) _ _ _;rw[hd,Yd (by decide)]
  have Ow:t.led=true:=by rw[O.led];simp[own,ht]
  refine X9 ?_;show wpAny _ _ (if(!t.led&&!es.isEmpty)=true then _ else _) _ _ _;rw[Ow,Yd (by simp)];refine Yb ?_
  have eb:SetTable.below t.place (gK w t i)=i:=by
   unfold gK;rw[Yd ht]
   by_cases h0:i=0
   ·rw[Yh h0,h0];exact rM O.up
   ·rw[Yd h0,ql O.up (by rw[O.size];omega)];omega
  refine Yb ?_;rw[eb]
  have eo:vP w a ep es=es:=by unfold vP;rw[Yd ht]
  rw[eo] at h
  rcases Z0 i n with g|g
  ·have e1:es[i]?=some (es[i]'(by omega)):=by simp[show i<es.size from by omega]
   have e2:t.place[i]?=some (t.place.getD i 0):=qL (by rw[O.size];exact g);rw[e1] at h;rw[e1,e2]
   have e3:gK w t (i+1)=t.place.getD i 0+1:=by unfold gK;rw[Yd ht,Yd (by omega)];rfl
   rw[e3] at h;exact h
  ·have e1:es[i]?=none:=Zu (by omega);rw[e1] at h |-;exact h
theorem zu {t:T}{x:Ent}{Q:Option Value->Shared->Prop}(ho:s.heap.get? a=some (jl es ep t))(hI:s.heap.get? I=some (vT w t a n ep i))(O:Ok (own w) n t)(hz:es.size=n)
 (hi:i<n)(hx:(vP w a ep es)[i]?=some x)(hQ:∀h',h'.get? I=some (vT w t a n ep (i+1))->Heap.SameBut I s.heap h'->Q (some x.2) {s with heap:=h'}):
 wpAny (model prog w) A (pyNext (.ref I)) Q E s:=by
 have tI:s.TypeIs (.ref I) "set_iterator":=⟨_,hI,rfl⟩;unfold pyNext;refine X9 (ZN (YN (name:=Str.ofString "__next__") tI gk (YJ gk tI ui ?_ (uf _))));unfold Builtin.«set_iterator.__next__»;refine X9 (m:=slotArgs "__next__" 0 _) (Yb ?_);refine X9 (ZH hI rfl ?_);dsimp only[rawInt];refine X9 (AA ho rfl (by rw[hz];exact O.fits) ?_);rw[Yd (by rw[hz];simp)];simp only[YV];refine X9 (se ho O hz (Zi hi) ?_);rw[hx];dsimp only[Option.map];refine X9 (Y0 hI (by simp) λh1 o1 b1=>?_);refine X9 (Y0 (s:={s with heap:=h1}) o1 (by simp) λh2 o2 b2=>?_);refine Yb ⟨_,rfl,Yb (hQ h2 ?_ (b1.trans b2))⟩;rw[o2];rfl
theorem Cp {t:T}{Q:Option Value->Shared->Prop}(hh:A.handled=none)(ho:s.heap.get? a=some (jl es ep t))(hI:s.heap.get? I=some (vT w t a n ep n))(O:Ok (own w) n t)(hz:es.size=n)
 (hQ:∀h',Heap.ExtBut I s.heap h'->Q none {s with heap:=h'}):wpAny (model prog w) A (pyNext (.ref I)) Q E s:=by
 have tI:s.TypeIs (.ref I) "set_iterator":=⟨_,hI,rfl⟩;have hx:(vP w a ep es)[n]?=none:=Zu (by rw[<-Yz,(kq w a ep es).length_eq,Yz,hz];exact Ye _);unfold pyNext;refine X9 (ZN (YN (name:=Str.ofString "__next__") tI gk (YJ gk tI ui ?_ (uf _))));unfold Builtin.«set_iterator.__next__»;refine X9 (m:=slotArgs "__next__" 0 _) (Yb ?_);refine X9 (ZH hI rfl ?_);dsimp only[rawInt];refine X9 (AA ho rfl (by rw[hz];exact O.fits) ?_);rw[Yd (by rw[hz];simp)];simp only[YV];refine X9 (se ho O hz (Ye _) ?_);rw[hx];dsimp only[Option.map];refine X9 (ZT hI rfl (by simp) ?_);refine X9 (m:=newExc (.type "StopIteration") []) ?_;unfold newExc newTuple;refine X9 (YB ?_ (by size_fits));refine X9 (m:=firstArgMember _ _) (uZ (a:=Value.none) rfl ?_);refine YB ?_ (by size_fits);unfold raiseNew;refine X9 (nG ?_);rw[show A.in1.handled=none from hh];refine X9 (Yb (wpAny_throw ?_));refine X9 (xy (b:=true) (T:="StopIteration") ⟨_,Yk _ rfl,rfl⟩ qa ?_);refine Yb (hQ _ ?_);exact((Y1 ..).extBut.push _).push _
theorem AZ {es:Array Ent}{ep:Nat}{t:T}(hh:A.handled=none)(F2:a≠I)(O:Ok (own w) n t)(hz:es.size=n):
 WalksS prog w A I [I,a] [I] GE n (λi v=>((vP w a ep es)[i]?).map Prod.snd=some v) (λi s=>s.heap.get? a=some (jl es ep t)/\s.heap.get? I=some (vT w t a n ep i)) where
 sub:=λb hb=>by simp at hb;simp[hb]
 grefl:=λ_=>rfl
 gtrans:=λ_ _ _ h1 h2=>h2.trans h1
 frame:=λi s h' tk g _ k=>⟨k a (by simp) _ g.1,k I (by simp) _ g.2⟩
 item:=λi s Q E hi g hQ=>by
  have hl:i<(vP w a ep es).size:=by rw[<-Yz,(kq w a ep es).length_eq,Yz,hz];exact hi
  have hx:(vP w a ep es)[i]?=some ((vP w a ep es)[i]):=by simp[hl]
  refine zu g.1 g.2 O hz hi hx λh' o b=>hQ _ _ (by rw[hx];rfl) ⟨b.extBut a _ F2 g.1,o⟩ ⟨λc o hc e=>b.extBut c o (λh=>hc (by simp[h])) e,rfl,rfl,rfl,Ye _⟩
 done:=λs Q E g hQ=>Cp hh g.1 g.2 O hz λh' k=>hQ _ ⟨λc o hc e=>k c o (λh=>hc (by simp[h])) e,rfl,rfl,rfl,Ye _⟩
 self:=λi s Q E g hQ=>by
  have tI:s.TypeIs (.ref I) "set_iterator":=⟨_,g.2,rfl⟩;refine Aj tI tW (YJ tW tI Au ?_ (y1 _));exact Yb ⟨_,rfl,"set_iterator",_,tI,gk.lookup,hQ⟩
theorem Cb {t:T}{Q:pH}(ho:s.heap.get? a=some (jl es ep t))(O:Ok (own w) n t)(hz:es.size=n)
 (h:Q (.ref s.heap.objs.size) {s with heap:=s.heap.push (vT w t a n ep 0)}):wpAny (model prog w) A (pyIter (.ref a)) Q E s:=by
 have ta:s.TypeIs (.ref a) "set":=⟨_,ho,rfl⟩
 have hf:t.fits es.size=true:=by rw[hz];exact O.fits
 refine Aj ta F.slot_set_iter (YJ F.slot_set_iter ta oW ?_ (F.args_set_iter_1 _));unfold Builtin.«frozenset.__iter__» Builtin.Frozenset.slot0;refine X9 (m:=slotArgs "__iter__" 0 _>>=_) (X9 (Yb (Yb ?_)));unfold Builtin.Frozenset.sizeOf;refine X9 (X9 (AA ho rfl hf (Yb ?_)))
 have Uy:gK w t 0=0:=by unfold gK;split <;> rfl
 unfold setDrawn;refine X9 (X9 (kr ho O hz ?_));dsimp only;refine X9 (qu (Yb ?_))
 have hd:(!w.params.followText "set-order"&&(!t.plain&&decide (es.size>1)))=false:=by rw[O.plain];simp
 refine(show wpAny _ _ (if(!w.params.followText "set-order"&&(!t.plain&&decide (es.size>1)))=true then _ else _) _ _ _ from ?_);rw[hd,Yd (by decide)];refine X9 (Yb (X9 (wpAny_setEpoch_of ho rfl hf ?_)));refine X9 (YB (Yb ⟨_,rfl,"set_iterator",_,⟨_,Yk _ rfl,rfl⟩,gk.lookup,?_⟩));rw[hz];unfold vT at h;rw[Uy] at h;exact h
end
noncomputable abbrev gX (xs:Cu)(c:Nat):Obj:={cls:=.type "list",dict:=none,data:=.seq xs c,slots:=#[]}
section
variable {prog:yo}{w:World}{A:Around}{E:pH}{s:Bi}
theorem xB:typeLookup (.type "set") "__len__"=pure (some (.builtin "set.__len__")):=F.slot_set_len.lookup
theorem oR {α:Type}{c:Bool}{x y:Sem α}{Q:α->Shared->Prop}(h:c=true)(g:wpAny (model prog w) A x Q E s):wpAny (model prog w) A (if c=true then x else y) Q E s:=by
 rw[Yh h];exact g
theorem Bs {Q:Bool->Shared->Prop}(ta:s.TypeIs (.ref a) "set")(h:Q false s):wpAny (model prog w) A (Builtin.List.listLengthHint (.ref a)) Q E s:=by
 unfold Builtin.List.listLengthHint;refine X9 (wpAny_specialOf ta xB ?_);dsimp only;rw[show splitId "set.__len__"=some ("set","__len__") from by decide +kernel];dsimp only;refine X9 (xy ta sub_set_self ?_);rw[Yd (by decide)];exact oR (by decide +kernel) (X9 (kU ta (Yb h)))
theorem ny {P:Array Ent}(c:EH es ns)(p:P.toList.Perm es.toList){acc:Cu}(hz:es.size=n)(h:ItemsOf (λi v=>(P[i]?).map Prod.snd=some v) acc n):
 ∃ms,IntsAre acc.toList ms/\ms.Perm ns:=by
 have hP:P.toList.length=n:=by rw[p.length_eq,Yz,hz]
 have e:acc.toList=P.toList.map Prod.snd:=by
  refine List.ext_getElem? λi=>?_;rw[YU,vx,vx]
  rcases Z0 i n with g|g
  ·have ha:acc[i]?=some (acc[i]'(by rw[h.1];exact g)):=by simp[h.1,g]
   rw[ha,h.2 i _ ha]
  ·rw[Zu (by rw[h.1];exact g),Zu (by rw[<-Yz,hP];exact g)];rfl
 have c':EH P ns:=c.aec p;refine⟨_,pC (vs:=acc.toList) λv hv=>?_,?_⟩
 ·rw[e] at hv;obtain⟨x,hx,rfl⟩:=YG.mp hv;obtain⟨k,t,rfl⟩:=c'.Ex x hx;exact⟨k,t,rfl⟩
 ·rw[e,rR];exact c'.perm
set_option maxHeartbeats 3000000 in
theorem uD {Q:List Value->Shared->Prop}(hh:A.handled=none)(S:jm (own w) s.heap a ns)(hn:ns.length<4000)
 (hQ:∀(h':Heap)(tk:Nat)(vs:nN)(ms:List Int),IntsAre vs ms->ms.Perm ns->(∀b o,s.heap.get? b=some o->h'.get? b=some o)->s.toks<=tk->Q vs {s with heap:=h',toks:=tk}):
 wpAny (model prog w) A (collect (.ref a)) Q E s:=by
 obtain⟨es,ep,t,ho,c,hz,O⟩:=S;have Fy:a<s.heap.objs.size:=Ym ho;unfold collect;refine X9 (wpAny_runValue (ZM PySem.F.entry_proto_collect ?_));rw[ZJ PySem.F.plain_proto_collect _];refine X9 (m:=newList []) (YB ?_);refine Yb ⟨x6 PySem.F.plain_list_iadd _,ZM PySem.F.entry_list_iadd ?_⟩;rw[ZJ PySem.F.plain_list_iadd _];refine(show wpAny _ A.in1 (Builtin.List.listExtendWith (.ref s.heap.objs.size) (.ref a) (.ref s.heap.objs.size)) _ _ _ from ?_);unfold Builtin.List.listExtendWith;have HN:(s.heap.push (gX #[] 0)).get? a=some (jl es ep t):=Yc _ ho;refine X9 (kU (T:="set") ⟨_,HN,rfl⟩ ?_)
 rw[Yd (by
  have:Builtin.List.listSameRef (.ref s.heap.objs.size) (.ref a)=false:=by
   simp only[Builtin.List.listSameRef,Z5];exact Zz Fy
  rw[this];decide)]
 refine X9 (Cb (s:={s with heap:=s.heap.push (gX #[] 0)}) HN O hz ?_);have GF:((s.heap.push (gX #[] 0)).push (vT w t a ns.length ep 0)).get? a=some (jl es ep t):=Yc _ HN;refine X9 (YY (Bs ⟨_,GF,rfl⟩ ?_));have Uz:((s.heap.push (gX #[] 0)).push (vT w t a ns.length ep 0)).get? (s.heap.push (gX #[] 0)).objs.size=some (vT w t a ns.length ep 0):=Yk _ rfl;have Rp:((s.heap.push (gX #[] 0)).push (vT w t a ns.length ep 0)).get? s.heap.objs.size=some (gX #[] 0):=Yc _ (Yk _ rfl);have AV:(s.heap.push (gX #[] 0)).objs.size=s.heap.objs.size+1:=Zb _ _;refine oR (by decide +kernel) (X9 (Fp (X9 ?_)));refine(show wpAny _ A.in1 (updateSeq s.heap.objs.size (·.push .none)>>=λ_=>updateSeq s.heap.objs.size (·.pop)) _ _ _ from X9 (jz Rp rfl ?_));have Nb:=Y3 (Obj.mapSeq (·.push Value.none)) Rp rfl;refine jz Nb rfl ?_;have Kp:=Y3 (Obj.mapSeq (·.pop)) Nb rfl
 have up:∀b o,b≠s.heap.objs.size->((s.heap.push (gX #[] 0)).push (vT w t a ns.length ep 0)).get? b=some o →
  ((((s.heap.push (gX #[] 0)).push (vT w t a ns.length ep 0)).update s.heap.objs.size (Obj.mapSeq (·.push Value.none))).update s.heap.objs.size (Obj.mapSeq (·.pop))).get? b=some o :=
  λb o hb e=>(YL _ _ (YM hb)).trans ((YL _ _ (YM hb)).trans e)
 have nI:a≠(s.heap.push (gX #[] 0)).objs.size:=by rw[AV];exact Yr (ZK Fy)
 have nL:(s.heap.push (gX #[] 0)).objs.size≠s.heap.objs.size:=by rw[AV];exact u3 _
 have W:=AZ (prog:=prog) (A:=A.in1) (ep:=ep) (es:=es) (by simp[hh]) nI O hz
 refine Yb ⟨x6 PySem.F.plain_extend_loop _,codeAny_extend_loopS W (by rw[ZX];omega) s.heap.objs.size (by
  simp only[Yn,ZA,ED,uN];exact⟨nL.symm,Zz Fy⟩) _ ns.length 0 _ _ _ rfl (Yt _) ⟨up _ _ (Yr Fy) GF,up _ _ nL Uz⟩ Kp (ItemsOf.nil _) λz acc c' m oz it=>?_⟩
 refine X9 (wpAny_load oz (Yb ?_));obtain⟨ms,i1,i2⟩:=ny c (kq w a ep es) hz it
 have ez:z={s with heap:=z.heap,toks:=z.toks}:=by
  have e1:z.gens=s.gens:=m.gens;have e2:z.drawn=s.drawn:=m.drawn;have e3:z.os=s.os:=m.os
  cases z;cases e1;cases e2;cases e3;rfl
 rw[ez];refine hQ z.heap z.toks acc.toList ms i1 i2 (λb o e=>?_) m.toks;have hb:=Ym e;refine m.heap b o ?_ (up b o (Yr hb) (Yc _ (Yc _ e)));simp only[Yn,ZA,ED,uN];refine⟨Yr hb,?_⟩;rw[AV];exact Yr (ZK hb)
theorem mn {D:Addr}{vs:nN}{c:Nat}(out:Cu)(e:h.get? D=some (seqObj "list" vs.toArray c)):∃c',(sortedHeap h D vs out).get? D=some (gX out c'):=by
 have hD:=Ym e;have e1:=Al e (λ_=>#[]);unfold sortedHeap;have e2:(((h.update D (Obj.mapSeq λ_=>#[])).push (seqObj "tuple" vs.toArray 0)).push (seqObj "list" #[] 0)).get? D=_:=Yc _ (Yc _ e1);exact⟨_,Al e2 λ_=>out⟩
theorem kg {D b:Addr}{vs:nN}{out:Cu}{o:Obj}(hb:b≠D)(e:h.get? b=some o):(sortedHeap h D vs out).get? b=some o:=by
 unfold sortedHeap;refine(YL _ _ (YM hb)).trans (Yc _ (Yc _ ((YL _ _ (YM hb)).trans e)))
theorem yz {Q:pH}(hh:A.handled=none)(S:jm (own w) s.heap a ns)(h64:ns.length<64)
 (h:∀(h':Heap)(tk:Nat)(D:Addr)(out:Cu)(ms:List Int)(c:Nat),IntsAre out.toList ms->ms.Perm ns->ms.Pairwise (· <= ·)->h'.get? D=some (gX out c)->s.heap.get? D=none →
  (∀b o,s.heap.get? b=some o->h'.get? b=some o)->s.toks<=tk->Q (.ref D) {s with heap:=h',toks:=tk}):wpAny (model prog w) A (call (.builtin "sorted") [.ref a]) Q E s:=by
 refine zK kind_sorted plain_sorted entry_sorted (args_sorted1 _) ?_;unfold Builtin.«sorted»;refine X9 (m:=checkCount "sorted" 1 1 _) (Yb ?_);refine X9 (uD (by simpa using hh) S (by omega) λh1 tk vs ms i1 i2 k1 t1=>?_)
 have hv:vs.length<64:=by
  have:=i1.length;rw[this,i2.length_eq];exact h64
 refine X9 (m:=newList vs) (D5 ?_ (hsz:=by rw[ZX];omega));have oD:(h1.push (seqObj "list" vs.toArray 0)).get? h1.objs.size=some (seqObj "list" vs.toArray 0):=Yk _ rfl
 have fr:s.heap.get? h1.objs.size=none:=by
  cases e:s.heap.get? h1.objs.size with
  |none=>rfl
  |some o=>exact absurd (Ym (k1 _ _ e)) (Zh _)
 refine X9 (YY (YJ slot_list_sort ⟨_,oD,rfl⟩ entry_list_sort (list_sort_tree oD i1 hv λout HK a1 a2 a3=>⟨_,rfl,?_⟩) (args_list_sort _)));obtain⟨c,oc⟩:=mn out oD;refine Yb ⟨_,rfl,h _ tk _ out HK c a1 (a2.trans i2) a3 oc fr (λb o e=>?_) t1⟩;exact kg (λq=>by rw[q,fr] at e;cases e) (Yc _ (k1 b o e))
end
end St
namespace L2
open PySem PySem.Spec PyProof.Rows PySem.W
noncomputable def vG (ns:List Int):List Int:=firstMet (λi=>ns.getD i 0) ns.length
theorem lX (ns:List Int):vG ns=ns.foldl step_dedup []:=by
 have e:(List.range ns.length).map (λi=>ns.getD i 0)=ns:=by
  apply vV
  ·simp
  ·intro i h1 h2;simp[h2]
 unfold vG firstMet;rw[e]
theorem gq:∀(ns acc:List Int),acc.Nodup->(ns.foldl step_dedup acc).Nodup/\∀x,x∈ns.foldl step_dedup acc↔x∈acc\/x∈ns
 |[],acc,h=>⟨h,λx=>by simp⟩
 |n::ns,acc,h=>by
  rw[List.foldl_cons]
  by_cases q:n∈acc
  ·rw[St.pj q];obtain⟨a,b⟩:=gq ns acc h;refine⟨a,λx=>(b x).trans ⟨λz=>z.imp id (Yi _),λz=>?_⟩⟩
   rcases z with z|z
   ·exact .inl z
   ·rcases Yn.mp z with rfl|z
    ·exact .inl q
    ·exact .inr z
  ·rw[St.iZ q]
   have nd:(acc++[n]).Nodup:=by
    refine B9.mpr ⟨h,by simp,λa ha b hb z=>?_⟩;rw[Zm] at hb;exact q (hb▸z▸ha)
   obtain⟨a,b⟩:=gq ns (acc++[n]) nd;refine⟨a,λx=>(b x).trans ?_⟩;rw[YI,Zm,Yn,or_assoc]
theorem rO (ns:List Int):(vG ns).Nodup:=by rw[lX];exact(gq ns [] yr).1
theorem yy (ns:List Int)(x:Int):x∈vG ns↔x∈ns:=by
 rw[lX,(gq ns [] yr).2];simp
theorem sM (ns:List Int):(vG ns).length<=ns.length:=firstMet_length_le _ _
theorem Dv {ms:List Int}(h:ms.Pairwise (· <= ·))(d:ms.Nodup):ms.Pairwise (· < ·):=
 (List.Pairwise.and h d).imp λ⟨a,b⟩=>Int.lt_iff_le_and_ne.mpr ⟨a,b⟩
theorem nU:∀{xs ys:List Int},xs.Pairwise (· < ·)->ys.Pairwise (· < ·)->(∀x,x∈xs↔x∈ys)->xs=ys
 |[],[],_,_,_=>rfl
 |[],y::ys,_,_,h=>absurd ((h y).mpr Yl) (by simp)
 |x::xs,[],_,_,h=>absurd ((h x).mp Yl) (by simp)
 |x::xs,y::ys,a,b,h=>by
  obtain⟨a1,a2⟩:=YQ.mp a;obtain⟨b1,b2⟩:=YQ.mp b
  have e:x=y:=by
   rcases Yn.mp ((h x).mp Yl) with e|e
   ·exact e
   ·rcases Yn.mp ((h y).mpr Yl) with e2|e2
    ·exact e2.symm
    ·have:=b1 _ e;have:=a1 _ e2;omega
  subst e;rw[nU a2 b2 λz=>⟨λhz=>?_,λhz=>?_⟩]
  ·rcases Yn.mp ((h z).mp (Yi _ hz)) with e|e
   ·have:=a1 _ hz;omega
   ·exact e
  ·rcases Yn.mp ((h z).mpr (Yi _ hz)) with e|e
   ·have:=b1 _ hz;omega
   ·exact e
noncomputable def yh (K:Frag)(ta:TE):TE:=λσ H Q=>bq ta Co σ H λvs H1=>∃(l:Addr)(ns:List Int),vs=[.ref l]/\(bo K H1 l (ns.map V.int)\/aU K H1 l (ns.map V.int))/\ns.length<64 /\
 ∀(D:Addr)(ms:List Int),H1 D=none->ms.Pairwise (· < ·)->(∀x,x∈ms↔x∈ns)->Q (.ref D) (upd H1 D (.lst (ms.map V.int)))
section
variable {X:Cx}
theorem kJ {e:Expr}{ta:TE}{p p2 pos Jl:Pos}{K:Frag}(hK:X.K=K)(ha:PE X e ta)(hc:X.calm=true)(UA:Gl X "sorted")(UB:X.mg "sorted"=none)(UC:Gl X "set")(UD:X.mg "set"=none)(hs:fZ e=false:=by rfl):
 PE X (.Call (.Name "sorted" p) [.Call (.Name "set" p2) [e] [] Jl] [] pos) (yh K ta):=by
 subst hK;intro pins s σ H Q I h;refine Y6 (eI I UA UB (by rfl) ?_ (by decide) (by decide));refine callWith_builtin1 ?_ (bz rfl) rfl;rw[bz rfl];show wpAny _ _ (spliced ((false,eval (.Call (.Name "set" p2) [e] [] Jl) X.env):: backTo pos (starEach [] X.env))) _ _ s;refine uV ?_;refine Y6 (eI I UC UD (by rfl) ?_ (by decide) (by decide));refine callWith_type1 (bO (aj ha ag hs Jl pins s σ H _ I h) λus s1 z'=>?_) (bz hs) rfl;obtain⟨vs,H1,I1,r1,l,ns,hv,hq,hz,q⟩:=z';subst hv;obtain⟨u,rfl,ru⟩:=dw r1
 cases(show u=Value.ref l from ru)
 have hd:=I.ok.hd hc
 have fin:∀(h':Heap)(tk:Nat),St.jm (St.own X.w) h' s1.heap.objs.size (vG ns)->(∀b o,b<s1.heap.objs.size->s1.heap.get? b=some o->h'.get? b=some o) →
  wpAny (model X.prog X.w) X.A (call (.builtin "sorted") [.ref s1.heap.objs.size]) (EP X pins σ Q) X.xe {s1 with heap:=h',toks:=tk}:=by
  intro h' tk S old;have I2:Inv X pins σ H1 {s1 with heap:=h',toks:=tk}:=I1.kept (t':=tk) λb o e=>old b o (Ym e) e;refine St.yz (s:={s1 with heap:=h',toks:=tk}) hd S (by have:=sM ns;omega) λh2 UE D out ms c i1 i2 i3 oD fr k2 _=>?_
  have hlen:(ms.map V.int).length<=sizeLine:=by
   rw[Yg,i2.length_eq,ZX];have:=sM ns;omega
  exact⟨.ref D,_,I2.newObj (t':=UE) (o:=.lst (ms.map V.int)) k2 fr ⟨hlen,out.toList,c,qS i1,by simpa using oD⟩,rfl,
   q D ms (I2.adA fr) (Dv i3 (i2.symm.nodup (rO ns))) λx=>(i2.mem_iff).trans (yy ns x)⟩
 rcases hq with hq|hq
 ·obtain⟨its,rv,pl,UG⟩:=I1.list hq;have e1:=rv.length;rw[Yg] at e1;refine St.pU (St.wM X.prog X.w its.toArray) hd pl.isList (by simpa using fV rv) (by rw[Yj];omega) λh' tk S old _=>?_
  have es:its.toArray.size=ns.length:=by rw[Yj];exact e1.symm
  rw[es] at S;exact wF (fin h' tk S old)
 ·obtain⟨its,rv,pl,UG⟩:=I1.tuple hq;have e1:=rv.length;rw[Yg] at e1;refine St.pU (St.Ay X.prog X.w its.toArray) hd pl (by simpa using fV rv) (by rw[Yj];omega) λh' tk S old _=>?_
  have es:its.toArray.size=ns.length:=by rw[Yj];exact e1.symm
  rw[es] at S;exact wF (fin h' tk S old)
end
end L2
namespace K44
open PySem L2 PySem.W Nm Srt
noncomputable def ni (x:Int):List Int->List Int
 |[]=>[x]
 |y::l=>if x<y then x::y::l else if x=y then y::l else y::ni x l
noncomputable def fP:List Int->List Int
 |[]=>[]
 |x::l=>ni x (fP l)
theorem jO {x z:Int}:∀{l:List Int},z∈ni x l↔z=x\/z∈l
 |[]=>by simp[ni]
 |y::l=>by
  unfold ni
  by_cases h:x<y
  ·rw[Yh h];simp
  ·rw[Yd h]
   by_cases g:x=y
   ·rw[Yh g,g];simp
   ·rw[Yd g,Yn,jO (l:=l),Yn];constructor
    ·rintro(h|h|h)
     ·exact .inr (.inl h)
     ·exact .inl h
     ·exact .inr (.inr h)
    ·rintro(h|h|h)
     ·exact .inr (.inl h)
     ·exact .inl h
     ·exact .inr (.inr h)
theorem tE {x:Int}:∀{l:List Int},l.Pairwise (· < ·)->(ni x l).Pairwise (· < ·)
 |[],_=>by simp[ni]
 |y::l,h=>by
  obtain⟨h1,h2⟩:=YQ.mp h;unfold ni
  by_cases g:x<y
  ·rw[Yh g];refine YQ.mpr ⟨λz hz=>?_,h⟩
   rcases Yn.mp hz with rfl|hz
   ·exact g
   ·have:=h1 z hz;omega
  ·rw[Yd g]
   by_cases e:x=y
   ·rw[Yh e];exact h
   ·rw[Yd e];refine YQ.mpr ⟨λz hz=>?_,tE h2⟩
    rcases jO.mp hz with rfl|hz
    ·omega
    ·exact h1 z hz
theorem rj:∀l:List Int,(fP l).Pairwise (· < ·)
 |[]=>List.Pairwise.nil
 |x::l=>tE (rj l)
theorem iu {z:Int}:∀{l:List Int},z∈fP l↔z∈l
 |[]=>Iff.rfl
 |x::l=>by
  show z∈ni x (fP l)↔_;rw[jO,iu,Yn]
theorem qU {l m:List Int}(h:m.Pairwise (· < ·))(e:∀z,z∈m↔z∈l):m=fP l:=nU h (rj l) λz=>by rw[iu,e]
noncomputable def lh (p:Int)(a b:Int×Int):Int×Int:=(cZ p (mD a.1 a.2 b.1 b.2) (a.2*b.2),da p (mD a.1 a.2 b.1 b.2) (a.2*b.2))
noncomputable def eX (p:Int)(a b:List Tm):List Tm:=a.flatMap λx=>b.map λy=>(fP (x.1++y.1),lh p x.2 y.2)
noncomputable abbrev tg (p:Int)(ts:List Tm):List Tm:=eu (aW p ts)
variable {a b:Int×Int}
section
variable {p:Int}{R:Type} [Lean.Grind.CommRing R]{v:Int×Int->R}
theorem x5 (hp:0<=p)(ha:Num p a.1 a.2)(hb:Num p b.1 b.2):Num p (lh p a b).1 (lh p a b).2 :=
 Num.set hp (v7 (by have:=ha.pos;omega) (by have:=hb.pos;omega))
theorem wj (V:Val p R v)(ha:Num p a.1 a.2)(hb:Num p b.1 b.2):v (lh p a b)=v a*v b:=(V.set ha hb).2 rfl rfl
theorem j9 (hp:0<=p){a b:List Tm}(ha:cb p a)(hb:cb p b):cb p (eX p a b):=λe he=>by
 obtain⟨x,hx,he⟩:=List.mem_flatMap.mp he;obtain⟨y,hy,rfl⟩:=YG.mp he;exact x5 hp (ha x hx) (hb y hy)
theorem AY (V:Val p R v){x:Tm}(hx:Num p x.2.1 x.2.2)(F:List Int->R):∀{b:List Tm},cb p b->S v (b.map λy=>(fP (x.1++y.1),lh p x.2 y.2)) F=v x.2*S v b (λj=>F (fP (x.1++j)))
 |[],_=>by show(0:R)=v x.2*0;grind
 |y::b,h=>by
  have ih:=AY V hx F (b:=b) λe he=>h e (Yi _ he);show v (lh p x.2 y.2)*F (fP (x.1++y.1))+S v (b.map _) F=v x.2*(v y.2*F (fP (x.1++y.1))+S v b (λj=>F (fP (x.1++j))));rw[ih,wj V hx (h y Yl)];grind
theorem BD (V:Val p R v){a b:List Tm}(ha:cb p a)(hb:cb p b)(F:List Int->R):S v (eX p a b) F=S v a (λi=>S v b (λj=>F (fP (i++j)))):=by
 induction a with
 |nil=>rfl
 |cons x a ih =>
  have ih:=ih λe he=>ha e (Yi _ he)
  have e:eX p (x::a) b=(b.map λy=>(fP (x.1++y.1),lh p x.2 y.2))++eX p a b:=by simp[eX]
  rw[e,hZ,AY V (ha x Yl) F hb,ih];rfl
theorem nv {F G:List Int->R}(h:∀i,F i=G i)(a:List Tm):S v a F=S v a G:=by
 have:F=G:=funext h;rw[this]
end
section
variable {p:Int}{a b c:List Tm}
theorem FP.v {p:Int}(hp:FP p):∃(R:Type)(i:Lean.Grind.CommRing R)(v:Int×Int->R),@Val p R i v:=Cc (by
 rcases hp with h|h
 ·exact .inl h
 ·exact .inr (eT h).1)
theorem FP.tn {p:Int}(hp:FP p){a:List Tm}(ha:cb p a):cb p (tg p a):=by
 obtain⟨R,i,v,V⟩:=hp.v;exact CY V hp.nn ha
end
structure Cd (p D M:Int)(a:Int×Int):Prop where
 num:Num p a.1 a.2
 d:p=0->∃k:Int,a.2*k=D/\((a.1*k).natAbs:Int)<=M
variable {p M:Int}
theorem Cd.mono {D M':Int}(h:Cd p D M a)(m:M<=M'):Cd p D M' a:=⟨h.num,λz=>by
 obtain⟨k,e,l⟩:=h.d z
 exact⟨k,e,Int.le_trans l m⟩⟩
variable {N:Int}
theorem Cd.add {D:Int}(hp:FP p)(ha:Cd p D M a)(hb:Cd p D N b):Cd p D (M+N) (cW p a b):=by
 have na:=ha.num.pos;have nb:=hb.num.pos;have nz:a.2*b.2≠0:=v7 (by omega) (by omega);refine⟨Num.set hp.nn nz,λz=>?_⟩;subst z;obtain⟨x,ex,lx⟩:=ha.d rfl;obtain⟨y,ey,ly⟩:=hb.d rfl;have cr:=iN (t:=a.1*b.2+b.1*a.2) nz;have nm:Num 0 (cZ 0 (a.1*b.2+b.1*a.2) (a.2*b.2)) (da 0 (a.1*b.2+b.1*a.2) (a.2*b.2)):=Num.set (ZY 0) nz;show ∃k,da 0 (a.1*b.2+b.1*a.2) (a.2*b.2)*k=D/\(((cZ 0 (a.1*b.2+b.1*a.2) (a.2*b.2))*k).natAbs:Int)<=M+N;generalize cZ 0 (a.1*b.2+b.1*a.2) (a.2*b.2)=t at cr nm |-;generalize da 0 (a.1*b.2+b.1*a.2) (a.2*b.2)=u at cr nm |-;obtain⟨a1,a2⟩:=a;obtain⟨b1,b2⟩:=b;dsimp only at *
 have e1:t*D=(a1*x+b1*y)*u:=by
  refine nX nz ?_
  have h1:(a1*b2+b1*a2)*D=(a1*x+b1*y)*(a2*b2):=by
   have:(a1*b2+b1*a2)*D=a1*b2*D+b1*a2*D:=by grind
   rw[this]
   have p1:a1*b2*D=a1*x*(a2*b2):=by rw[<-ex];grind
   have p2:b1*a2*D=b1*y*(a2*b2):=by rw[<-ey];grind
   rw[p1,p2];grind
  have:t*D*(a2*b2)=t*(a2*b2)*D:=by grind
  rw[this,cr]
  have:(a1*b2+b1*a2)*u*D=(a1*b2+b1*a2)*D*u:=by grind
  rw[this,h1];grind
 have dv:u ∣ D:=by
  have g:Int.gcd u t=1:=by rw[Int.gcd_comm];exact nm.red
  have h1:u ∣ t*D:=⟨a1*x+b1*y,by rw[e1];grind⟩;have h2:=Int.natAbs_dvd_natAbs.mpr h1;rw[Z7] at h2;exact Int.natAbs_dvd_natAbs.mp (Nat.Coprime.dvd_of_dvd_mul_left (show Nat.Coprime u.natAbs t.natAbs from g) h2)
 obtain⟨k,ek⟩:=dv;refine⟨k,ek.symm,?_⟩;have up:=nm.pos
 have e2:t*k=a1*x+b1*y:=by
  refine nX (show u≠0 by omega) ?_;rw[<-e1,ek];grind
 rw[e2];have:=Int.natAbs_add_le (a1*x) (b1*y);omega
theorem Cd.mul {D D':Int}(hp:FP p)(ha:Cd p D M a)(hb:Cd p D' N b):Cd p (D*D') (M*N) (lh p a b):=by
 have na:=ha.num.pos;have nb:=hb.num.pos;have nz:a.2*b.2≠0:=v7 (by omega) (by omega);refine⟨Num.set hp.nn nz,λz=>?_⟩;subst z;obtain⟨x,ex,lx⟩:=ha.d rfl;obtain⟨y,ey,ly⟩:=hb.d rfl;have e1:=lV (t:=a.1*b.1) nz;have e2:=jd (t:=a.1*b.1) nz;refine⟨Nm.dv (a.1*b.1) (a.2*b.2)*(x*y),?_,?_⟩
 ·show cw (a.1*b.1) (a.2*b.2)*(Nm.dv (a.1*b.1) (a.2*b.2)*(x*y))=D*D';rw[<-jj,e2,<-ex,<-ey];grind
 ·show((dq (a.1*b.1) (a.2*b.2)*(Nm.dv (a.1*b.1) (a.2*b.2)*(x*y))).natAbs:Int)<=M*N;rw[<-jj,e1,show a.1*b.1*(x*y)=(a.1*x)*(b.1*y) by grind,Z7];push_cast;exact Int.mul_le_mul lx ly (by omega) (by omega)
theorem FP.bits (hp:FP p)(z:p≠0){t b:Int}(h:Num p t b):B 7 t/\B 7 b:=by
 obtain⟨_,_,M9⟩:=hp.two z;obtain⟨h1,h2,h3⟩:=h.pr z;constructor
 ·show t.natAbs<2^7;omega
 ·show b.natAbs<2^7;omega
theorem Cd.gn {D:Int}{n:Nat}(hp:FP p)(h:Cd p D M a)(h7:7<=n)(UH:D≠0)(hD:B n D)(hM:B n M):Gn p n a:=by
 by_cases z:p=0
 ·obtain⟨k,e,l⟩:=h.d z;have kz:k≠0:=λw=>UH (by rw[<-e,w,Int.mul_zero])
  have k1:1<=k.natAbs:=by omega
  refine⟨h.num,?_,?_⟩
  ·have:(a.1*k).natAbs<=M.natAbs:=by omega
   rw[Z7] at this;exact hM.le (Yq (Nat.le_mul_of_pos_right _ k1) this)
  ·rw[<-e] at hD;refine hD.le ?_;rw[Z7];exact Nat.le_mul_of_pos_right _ k1
 ·obtain⟨h1,h2⟩:=hp.bits z h.num;exact⟨h.num,h1.mono h7,h2.mono h7⟩
theorem zw {D:Int}{d:List Tm}{t:Tm}(hp:FP p)(hN:0<=N)(hM:0<=M)(hd:∀e∈d,Cd p D M e.2)(ht:Cd p D N t.2):∀e∈cK p d t,Cd p D (M+N) e.2:=by
 intro e he;unfold cK at he
 split at he
 ·obtain⟨e0,h0,rfl⟩:=YG.mp he
  by_cases q:e0.1=t.1
  ·rw[Yh q];exact(hd e0 h0).add hp ht
  ·rw[Yd q];exact(hd e0 h0).mono (by omega)
 ·rcases YI.mp he with he|he
  ·exact(hd e he).mono (by omega)
  ·have:e=t:=by simpa using he
   rw[this];exact ht.mono (by omega)
theorem uB {D:Int}(hp:FP p)(hN:0<=N):∀(ts d:List Tm)(M:Int),0<=M->(∀e∈d,Cd p D M e.2)->(∀t∈ts,Cd p D N t.2)->∀e∈ts.foldl (cK p) d,Cd p D (M+N*ts.length) e.2
 |[],d,M,hM,hd,_,e,he=>(hd e he).mono (by simp)
 |t::ts,d,M,hM,hd,ht,e,he=>by
  have:=uB hp hN ts (cK p d t) (M+N) (by omega) (zw hp hN hM hd (ht t Yl)) (λt h=>ht t (Yi _ h)) e he;refine this.mono ?_;rw[YC];push_cast;rw[Int.mul_add];omega
theorem zj {D:Int}{ts:List Tm}(hp:FP p)(hN:0<=N)(h:∀t∈ts,Cd p D N t.2):∀e∈aW p ts,Cd p D (N*ts.length) e.2:=λe he=>by
 have:=uB hp hN ts [] 0 (ZY 0) (λe h=>nomatch h) h e he;rwa[Int.zero_add] at this
theorem Dh {p D N:Int}{ts:List Tm}(hp:FP p)(hN:0<=N)(h:∀t∈ts,Cd p D N t.2):∀e∈tg p ts,Cd p D (N*ts.length) e.2:=λe he=>zj hp hN h e (Y7.mp ((eU _).mem_iff.mp he)).1
end K44
namespace L2
open PySem PySem.W
noncomputable def rF (K:Frag):List V->Hp->VK->Prop:=λxs H Q=>∃p ys,xs=[.ref p]/\((bo K H p ys/\∀l,H l=none->Q (.ref l) (upd H l (.tup ys)))\/(aU K H p ys/\Q (.ref p) H))
noncomputable def tD (K:Frag):List V->Hp->VK->Prop:=λxs H Q=>∃p ys,xs=[.ref p]/\(bo K H p ys\/aU K H p ys)/\∀l,H l=none->Q (.ref l) (upd H l (.lst ys))
section
variable {X:Cx}
theorem fA {K:Frag}(hK:X.K=K):cS X (.type "tuple") (rF K):=by subst hK;exact dh
theorem mr {K:Frag}(hK:X.K=K):cS X (.type "list") (tD K):=by subst hK;exact dM
theorem i9 {K:Frag}(hK:X.K=K):AI X (xq K):=by subst hK;exact bJ
theorem r8 {K:Frag}(hK:X.K=K):AI X (wo K):=by subst hK;exact cA
variable {tg l:Expr}{tl:TE}
end
open PySem.Spec PyProof.Rows
section
variable {X:Cx}
noncomputable def BO (K:PySem.W.Frag):R2:=λx y H Q=>∃p q xs,x=.ref p/\y=.ref q/\bo K H p xs/\bo K H q []/\Q (.bl (!decide (xs=[]))) H
theorem w8 {k:Nat}(hr:wa k X.A):eA X (compareOp .NotEq) (BO X.K):=by
 intro pins s σ H x y v u Q I rx ry h;obtain⟨p,q,xs,rfl,rfl,h1,h2,w⟩:=h
 by_cases e:xs=[]
 ·subst e;refine mE hr pins s σ H _ _ v u Q I rx ry ⟨.lst [],.lst [],?_,?_,by decide,w⟩
  ·unfold aM;exact⟨p,[],rfl,h1,by unfold bg;rfl⟩
  ·unfold aM;exact⟨q,[],rfl,h2,by unfold bg;rfl⟩
 ·cases(show v=Value.ref p from rx)
  cases(show u=Value.ref q from ry)
  obtain⟨its,r1,p1,_⟩:=I.list h1;obtain⟨Fx,r2,p2,_⟩:=I.list h2
  cases r2
  have hl:=r1.length;have hx:xs.length≠0:=λz=>e (Az z)
  have hs:(its.toArray.size != ([]:nN).toArray.size)=true:=by
   have:its.toArray.size≠0:=by rw[Yj];omega
   simpa using this
  exact SeqAt.RcNeAt.lists_lengths p1.isList p2.isList hs hr.adp X.prog X.w X.xe _ ⟨.bl true,H,I,rfl,by simpa[e] using w⟩
end
end L2
namespace K44
open PySem L2 PySem.W Nm Srt
noncomputable def Fi (ks:List Int):Prop:=ks.Pairwise (· < ·)/\(∀k∈ks,0<=k)/\ks.length<64
theorem nJ:∀{ks:List Int}{k:Int}(d:Int),ks.Pairwise (· < ·)->k∈ks->k<=ks.getLastD d
 |[],_,_,_,h=>nomatch h
 |[a],k,d,_,h=>by
  have:k=a:=by simpa using h
  subst this;exact ZY _
 |a::b::r,k,d,hp,h=>by
  obtain⟨h1,h2⟩:=YQ.mp hp;have e:(a::b::r).getLastD d=(b::r).getLastD a:=rfl;rw[e]
  rcases Yn.mp h with rfl|h
  ·have:=nJ k h2 (Yl (a:=b) (l:=r));have:=h1 b Yl;omega
  ·exact nJ a h2 h
theorem xw {ts:List Tm}{t:Tm}{k:Int}(ht:t∈ts)(hp:t.1.Pairwise (· < ·))(hk:k∈t.1):k<fu ts:=by
 have ne:t.1≠[]:=by intro z;rw[z] at hk;cases hk
 have hm:DQ t∈(ts.filter λt=>!t.1.isEmpty).map DQ:=YG.mpr ⟨t,Y7.mpr ⟨ht,by
  cases q:t.1 with
  |nil=>exact absurd q ne
  |cons a r=>rfl⟩,rfl⟩
 obtain⟨b,e,_,hb⟩:=l0 (ns:=(ts.filter λt=>!t.1.isEmpty).map DQ) (by intro z;rw[z] at hm;cases hm);unfold fu;rw[e];have h1:=hb _ hm;have h2:=nJ 0 hp hk;unfold DQ at h1;show k<b;omega
theorem oj {K:Frag}{H:Hp}{a:Addr}{ns:List Int}(h:H a=some (.tup (ns.map V.int))):aM K H (.tup (ns.map D.int)) (.ref a):=by
 unfold aM;exact⟨a,_,rfl,aU.of h,uj ns⟩
theorem zJ (ns:List Int):iR (.tup (ns.map D.int))=1:=by unfold iR;rw[zY]
theorem ym {ts:List Tm}{n:Int}(hn:0<=n)(h:∀t∈ts,∀k∈t.1,k<n):fu ts<=n:=by
 unfold fu
 by_cases ne:(ts.filter λt=>!t.1.isEmpty).map DQ=[]
 ·rw[ne];exact hn
 ·obtain⟨b,e,b1,b2⟩:=l0 ne;rw[e];show b<=n;obtain⟨t,ht,rfl⟩:=YG.mp b1;obtain⟨Nh,Rq⟩:=Y7.mp ht
  have ne1:t.1≠[]:=by intro z;rw[z] at Rq;cases Rq
  have:t.1.getLastD 0∈t.1:=by
   rw[List.getLastD_eq_getLast?,List.getLast?_eq_some_getLast ne1];exact List.getLast_mem ne1
  have:=h t Nh _ this;unfold DQ;omega
noncomputable abbrev yA:Stmt:=(bc 13)
noncomputable def nC:V->Bool
 | .int i=>decide (0<=i)&&decide (i<=1)
 |_=>false
noncomputable def x9:Option (List V)->Bool
 |none=>false
 |some xs=>xs.all nC
noncomputable def xT:Sp:=λvs H Q _=>∃x o,vs=[x]/\PX H x o/\∀H',aC H H'->Q (.bl (x9 o)) H'
theorem B7:CP n6 n6 (ar yA):=fe (by decide +kernel)
variable {P:yo}{w:World}{K:PySem.W.Frag}{mg:u9}{base:Heap}
theorem Ab {f:Addr}{fd:BG}(F:ve K "is_row_of_bits" "is_row_of_bits" yA f fd)(Fs:mg "isinstance"=none)(Fu:mg "tuple"=none)(FY:mg "all"=none)
 (q0:Ca P w K mg base 1 n6 "is_whole" vv):ya P w K mg base (cD P w) 2 f fd n6 xT:=by
 obtain⟨fw,Ki,FW,bW,mW,kW⟩:=q0;refine F.okN B7 (λvs H Q E h=>?_) (λFv A outer s H vs Q E hr h=>?_)
 ·obtain⟨x,o,rfl,_⟩:=h;rfl
 ·obtain⟨x,o,rfl,px,q⟩:=h;have FN:wa 1 _:=hr.mono (by decide)
  refine⟨_,ax (aF (dA (aE aZ (by rfl) Fs (by rfl) (aj (pv 0) (aj (cC (by rfl) Fu (by rfl) (show aG (.ty "tuple") (.type "tuple") from rfl)) ag rfl) rfl))
   (eJ (aE (ip rfl) (by rfl) FY (by rfl) (aj (bY (N:=["bit"]) (nl:=1) (js:=[]) (osc:=ar yA) ⟨rfl,rfl,by decide +kernel,by decide +kernel,by decide +kernel,rfl,.nil,by decide +kernel⟩ rfl
    (dy (pv 0))
    (λC fp s H=>aD (i:=0) (by show(["bit"]:Ez).Nodup;decide +kernel) rfl (Or.inl rfl) (Or.inr rfl))
    (λC fp s H=>cX)
    (λC fp s H=>(dA (aH FW FN (by rfl) mW kW bW .nil ao (aj (pv 0) ag rfl)) (eJ (kA n4 n4 ak (pv 0) ak))))) ag rfl))))),?_⟩
  cases px with
  |@no x T th ne =>
   refine⟨_,rfl,x,.ty "tuple",_,_,_,rfl,rfl,th.ty,th.isTup,_,rfl,?_⟩;rw[Yu ne];exact b7 (q _ (aC.refl _))
  |@tup a xs ha hl Ks =>
   refine⟨_,rfl,.ref a,.ty "tuple",_,_,_,rfl,rfl,.of (.tup ha),rfl,_,rfl,bA ?_⟩;refine⟨_,rfl,a,rfl,⟨xs,aU.of ha⟩,?_⟩;refine⟨λi m ys σ' H'=>m=xs.length-i/\i<=xs.length/\ys=((xs.take i).map nC).map V.bl/\H=H'/\∃o,σ'=[o],⟨xs.length,by simp,Yt _,by simp,rfl,none,rfl⟩,?_⟩;rintro i m ys σ' H' ⟨rfl,hi,rfl,rfl,o,rfl⟩;refine⟨Yo (by simp;omega) (YX hl (by decide)),?_⟩
   by_cases Fy:i<xs.length
   ·refine .inr ⟨⟨xs,xs[i],aU.of ha,by simp[Fy]⟩,λy H2 hy=>?_⟩;obtain⟨rfl,hy⟩:=hy;have ey:=hy xs (aU.of ha);obtain⟨T,th⟩:=Ks y (YA ey)
    have e2:xs.take (i+1)=xs.take i++[y]:=by
     rw[YE,ey];rfl
    have done:∀b,b=nC y->∃m',m'<xs.length-i/\m'=xs.length-(i+1)/\i+1<=xs.length/\((xs.take i).map nC).map V.bl++[V.bl b]=((xs.take (i+1)).map nC).map V.bl/\H2=H2/\∃o,([some y]:St)=[o]:=λb hb =>
     ⟨xs.length-(i+1),by omega,rfl,Fy,by rw[e2,hb];simp,rfl,_,rfl⟩
    dsimp only[EB,bw];refine bA ⟨_,rfl,y,T,rfl,th,_,rfl,?_⟩
    cases e:cg y with
    |false =>
     have z:nC y=false:=by cases y <;> first|rfl|cases e
     exact b7 (done false z.symm)
    |true =>
     have z1:∃n,y=.int n:=by cases y <;> first|exact⟨_,rfl⟩|cases e
     obtain⟨n,rfl⟩:=z1;refine bA ⟨_,rfl,_,_,rfl,rfl,_,rfl,?_⟩;refine cG (λh=>?_) (λh=>?_)
     ·have h':decide (0<=n)=true:=h;exact⟨_,_,rfl,rfl,done _ (by show _=(decide (0<=n)&&decide (n<=1));rw[h',Zr])⟩
     ·have h':decide (0<=n)=false:=by simpa using h
      exact done false (by show _=(decide (0<=n)&&decide (n<=1));rw[h',ZF])
   ·have ei:i=xs.length:=by omega
    subst ei;refine .inl ⟨⟨xs,aU.of ha,Ye _⟩,λD hD=>?_⟩;rw[Yv];refine⟨D,_,xs.map nC,rfl,bo.of ai,ko _,?_⟩
    have z:(xs.map nC).all id=x9 (some xs):=by rw[Z9];rfl
    rw[z];exact q _ (aq hD)
end K44
namespace L2
open PySem
variable {H:Hp}
theorem wN {σ:St}{A B:Hp->Prop}(h:A H):EB σ H λb H4=>if b=true then A H4 else B H4:=h
variable {tt:TT}{te:TE}
theorem oQ {J:It}{n:Nat}{at_:Nat->V->Prop}{rest:St}{F:List V->Hp->Prop}(Pv:Nat->List V->Hp->Prop)(h0:Pv 0 [] H)
 (hz:∀i ys H',i<=n->Pv i ys H'->ys.length<sizeLine/\(i<n->J.go i H')/\(i=n->J.stop i H')/\∀x H2,J.yld i H' x H2->H2=H'/\at_ i x)
 (hs:∀i x ys H' (N:List V->Hp->Prop),i<n->at_ i x->Pv i ys H'->(∀zs H5,Pv (i+1) zs H5->N zs H5) →
  tt (some x::rest) H' λb H4=>if b=true then te (some x::rest) H4 λy H5=>N (ys++[y]) H5 else N ys H4)
 (hd:∀ys H',Pv n ys H'->F ys H'):
 ∃W:Nat->Nat->List V->St->Hp->Prop,(∃m,W 0 m [] (none::rest) H)/\jN J (bw 0) tt te W F:=by
 refine⟨λi m ys σ H'=>m=n-i/\i<=n/\Pv i ys H'/\∃o,σ=o::rest,⟨n,by simp,Yt _,h0,none,rfl⟩,?_⟩;rintro i m ys σ H' ⟨rfl,hi,p,o,rfl⟩;obtain⟨z1,z2,z3,z4⟩:=hz i ys H' hi p;refine⟨z1,?_⟩
 by_cases Fy:i<n
 ·refine .inr ⟨z2 Fy,λx H2 hy=>?_⟩;obtain⟨rfl,hx⟩:=z4 x H2 hy;exact hs i x ys H2 (λzs H5=>∃m',m'<n-i/\m'=n-(i+1)/\i+1<=n/\Pv (i+1) zs H5/\∃o',(some x::rest:St)=o'::rest) Fy hx p λzs H5 h=>⟨n-(i+1),by omega,rfl,Fy,h,_,rfl⟩
 ·have:i=n:=by omega
  subst this;exact .inl ⟨z3 rfl,hd ys H' p⟩
theorem dW {K:PySem.W.Frag}{a:Addr}{xs:List V}{rest:St}{F:List V->Hp->Prop}(Pv:Nat->List V->Hp->Prop)(h0:Pv 0 [] H)
 (hz:∀i ys H',i<=xs.length->Pv i ys H'->ys.length<sizeLine/\aU K H' a xs)
 (hs:∀i x ys H' (N:List V->Hp->Prop),i<xs.length->xs[i]?=some x->Pv i ys H'->(∀zs H5,Pv (i+1) zs H5->N zs H5) →
  tt (some x::rest) H' λb H4=>if b=true then te (some x::rest) H4 λy H5=>N (ys++[y]) H5 else N ys H4)
 (hd:∀ys H',Pv xs.length ys H'->F ys H'):
 ∃W:Nat->Nat->List V->St->Hp->Prop,(∃m,W 0 m [] (none::rest) H)/\jN (C8 K a) (bw 0) tt te W F:=by
 refine oQ (n:=xs.length) (at_:=λi x=>xs[i]?=some x) Pv h0 (λi ys H' hi p=>?_) hs hd;obtain⟨z1,z2⟩:=hz i ys H' hi p;exact⟨z1,λh=>⟨xs,xs[i],z2,by simp[h]⟩,λh=>⟨xs,z2,by omega⟩,λx H2 hy=>⟨hy.1,hy.2 xs z2⟩⟩
theorem pT {lo:Int}{n:Nat}{rest:St}{F:List V->Hp->Prop}(Pv:Nat->List V->Hp->Prop)(h0:Pv 0 [] H)
 (hz:∀i ys H',i<=n->Pv i ys H'->ys.length<sizeLine)
 (hs:∀i ys H' (N:List V->Hp->Prop),i<n->Pv i ys H'->(∀zs H5,Pv (i+1) zs H5->N zs H5) →
  tt (some (.int (lo+i)):: rest) H' λb H4=>if b=true then te (some (.int (lo+i)):: rest) H4 λy H5=>N (ys++[y]) H5 else N ys H4)
 (hd:∀ys H',Pv n ys H'->F ys H'):
 ∃W:Nat->Nat->List V->St->Hp->Prop,(∃m,W 0 m [] (none::rest) H)/\jN (Cw lo n) (bw 0) tt te W F:=by
 refine oQ (n:=n) (at_:=λi x=>x=.int (lo+i)) Pv h0 (λi ys H' hi p=>?_) (λi x ys H' N h1 h2=>by subst h2;exact hs i ys H' N h1) hd;exact⟨hz i ys H' hi p,λh=>h,λh=>by show n<=i;omega,λx H2 hy=>hy⟩
end L2
namespace K44
open PySem L2 PySem.W Nm Srt
noncomputable abbrev rN:Stmt:=bh (bc 34) 13
noncomputable def dz (bs:List Int)(ks:List Int):Bool:=(ks.filter λk=>bs.getD k.toNat 0==0).isEmpty
noncomputable def bZ (p:Int)(bs:List Int)(a:Int×Int)(t:Tm):Int×Int:=if dz bs t.1=true then cW p a t.2 else a
noncomputable def b0 (p:Int)(bs:List Int)(ts:List Tm):Int×Int:=ts.foldl (bZ p bs) (0,1)
theorem gR (p:Int)(bs:List Int)(ts:List Tm)(t:Tm):b0 p bs (ts++[t])=bZ p bs (b0 p bs ts) t:=by
 unfold b0;rw[List.foldl_append];rfl
variable {k:Int}
theorem qv {bs:List Int}(h0:0<=k)(h1:k<(bs.length:Int)):p9 (bs.map V.int) k=some (.int (bs.getD k.toNat 0)):=by
 unfold p9 xj;rw[Yg,Yh h0,Yh h1];show(bs.map V.int)[k.toNat]?=_
 have hk:k.toNat<bs.length:=by omega
 rw[YU,YZ hk,Zt,YZ hk];rfl
variable {p:Int}
theorem kQ {m:Nat}{bs:List Int}(hp:FP p):∀(n:Nat)(ts:List Tm),ts.length=n->(∀t∈ts,Gn p m t.2)->Gn p ((m+1)*n+7) (b0 p bs ts)
 |0,ts,hn,_=>by
  have:ts=[]:=List.length_eq_zero_iff.mp hn;subst this;show Gn p ((m+1)*0+7) (0,1);refine⟨⟨(by show(0:Int)<1;decide),(by show Int.gcd 0 1=1;decide),λz=>⟨rfl,(by show(0:Int)<=0;decide),?_⟩⟩,?_,?_⟩
  ·have:=(hp.two z).2.1;show(0:Int)<p;omega
  ·show(0:Int).natAbs<2^((m+1)*0+7);rw[Nat.mul_zero];decide
  ·show(1:Int).natAbs<2^((m+1)*0+7);rw[Nat.mul_zero];decide
 |n+1,ts,hn,h=>by
  obtain⟨HZ,t,rfl⟩:∃HZ t,ts=HZ++[t]:=by
   have F2:ts≠[]:=by intro z;rw[z] at hn;cases hn
   exact⟨ts.dropLast,ts.getLast F2,(yW F2).symm⟩
  have hl:HZ.length=n:=by simpa using hn
  have ih:=kQ (bs:=bs) hp n HZ hl λt ht=>h t (ZE _ ht);have gt:=h t (Yx _ (by simp));rw[gR];have e2:(m+1)*(n+1)=(m+1)*n+(m+1):=Nat.mul_succ _ _;unfold bZ
  split
  ·have g:=md hp ih gt (by omega);exact⟨g.1,g.2.1.mono (by omega),g.2.2.mono (by omega)⟩
  ·exact⟨ih.1,ih.2.1.mono (by omega),ih.2.2.mono (by omega)⟩
noncomputable def DW (p:Int)(m:Nat)(ts:List Tm):Prop:=ts.length<64/\(∀t∈ts,Gn p m t.2/\Fi t.1)/\(m+1)*ts.length+7<=4000/\m<=4000
structure Wb (ts:List Tm)(bs:List Int):Prop where
 l:bs.length<64
 b:∀b∈bs,0<=b/\b<=1
 r:fu ts<=bs.length
variable {ts:List Tm}
theorem Wb.all {bs:List Int}(h:Wb ts bs):x9 (some (bs.map V.int))=true:=by
 show(bs.map V.int).all nC=true;rw[ZQ];intro y hy;obtain⟨b,hb,rfl⟩:=YG.mp hy;have:=h.b b hb;show(decide (0<=b)&&decide (b<=1))=true;simp[this]
structure Cz (C CF:Addr)(H:Hp)(s dx fl FK D:Addr)(p:Int)(zs:List V)(ts:List Tm):Prop where
 hs:H s=some (.ins C dx (vF fl D))
 hf:H fl=some (.ins CF FK (gG p))
 hp:FP p
 hD:H D=some (.lst zs)
 hz:bp H zs ts
variable {CF:Addr}
theorem Cz.same {C:Addr}{H H':Hp}{s dx fl FK D:Addr}{zs:List V}(h:Cz C CF H s dx fl FK D p zs ts)(e:aC H H'):Cz C CF H' s dx fl FK D p zs ts :=
 ⟨e _ _ h.hs,e _ _ h.hf,h.hp,e _ _ h.hD,bp.keep h.hz (aI.of e)⟩
noncomputable def uA (C CF:Addr):Sp:=λvs H Q _=>∃(s a:Addr)(p:Int)(ts:List Tm)(m:Nat)(bs:List Int),vs=[.ref s,.ref a]/\zP C CF H s p ts/\FP p/\DW p m ts/\H a=some (.tup (bs.map V.int))/\Wb ts bs /\
 ∀H' a,aC H H'->H' a=some (cx (b0 p bs ts).1 (b0 p bs ts).2)->Q (.ref a) H'
theorem ib:CP ["self","filling","total","product","number"] ["self","filling"] (ar rN):=fe (by decide +kernel)
theorem tG:∀ns:List Int,Paired C4 (ns.map V.int) (ns.map λn=>n != 0)
 |[]=>.nil
 |b::bs=>.cons rfl (tG bs)
variable {ks:List Int}
theorem qd {bs:List Int}:((ks.map λk=>bs.getD k.toNat 0).map λn=>n != 0).all id=dz bs ks:=by
 unfold dz;rw[rR,Z9]
 induction ks with
 |nil=>rfl
 |cons k r ih =>
  rw[Z3,ih];show((bs.getD k.toNat 0 != 0)&&_)=_
  by_cases z:bs.getD k.toNat 0=0
  ·rw[NI (by show(bs.getD k.toNat 0==0)=true;rw[z];rfl)];rw[z];rfl
  ·rw[vb (by show ¬(bs.getD k.toNat 0==0)=true;intro y;exact z (eq_of_beq y))]
   have:(bs.getD k.toNat 0 != 0)=true:=by simpa using z
   rw[this,Zr]
theorem DK {NN:Addr}{H:Hp}{Q:VK}{E:XK}{fl FK:Addr}(hf:H fl=some (.ins CF FK (gG p)))(hp:FP p)(q:∀a,H a=none->Q (.ref a) (upd H a (cx 0 1))):qF CF NN [.ref fl,.int 0,.int 1] H Q E:=by
 refine⟨fl,FK,p,.int 0,.int 1,"int","int",rfl,hf,.int 0,.int 1,λt b e1 e2=>?_,λz=>by cases z⟩
 cases e1
 cases e2
 refine⟨fl,FK,p,0,1,rfl,hf,hp,(by show(1:Int).natAbs<2^9000;exact Ys (by decide:(1:Int).natAbs<2^1) (ZG (by decide) (by decide))),λ_ z=>absurd z (by decide),λ_ _ a ha=>?_,λz y=>?_,λz _ v v0 v1 v2 a ha=>?_⟩
 ·have z:=jW (t:=0) (b:=1) (by decide) (by simp);rw[z.1,z.2];exact q a ha
 ·have:=(hp.two z).2.1;rw[x3 (by decide) (by omega)] at y
  cases y
 ·rw[Int.zero_mul,Int.zero_emod];exact q a ha
variable {P:yo}{w:World}{K:PySem.W.Frag}{mg:u9}{base:Heap}
theorem yd {f C NF NN fm:Addr}{fd Ox:BG}{tM:Tok}(F:ve K "worth" "Sum.worth" rN f fd)(c:vg K mg C)(cF:BE K mg CF)(Fz:mg "len"=none)(FY:mg "all"=none)
 (q0:Ca P w K mg base 2 n6 "is_row_of_bits" xT)
 (q1:Cm P w K mg base 1 ["self"] C "reach" (tP C))
 (FM:ya P w K mg base (cD P w) 4 fm Ox Bt (qF CF NN))(bM:L2.ck K Ox Bt [.int 1 tM])(mM:L2.Meth K CF "made" fm)
 (q2:Cm P w K mg base 4 De CF "plus" (xJ CF i8))
 (mN:mg "NoFilling"=some (.ref NF))(qN:nR K NF C0 qG=true):ya P w K mg base (cD P w) 5 f fd ["self","filling"] (uA C CF):=by
 obtain⟨fb,XO,FB,bB,mB,kB⟩:=q0;obtain⟨fr,XQ,FR,bR,mR⟩:=q1;obtain⟨fp,Kr,FP,bP,mP⟩:=q2;refine F.okE ib (λvs H Q E h=>?_) (λFv A outer s H vs Q E hr h=>?_)
 ·obtain⟨s,a,p,ts,m,bs,rfl,_⟩:=h;rfl
 ·obtain⟨s0,a,p,ts,m,bs,rfl,⟨dx,fl,FK,D,zs,S1,S2,S3,S4⟩,hp,⟨Fy,KI,hm,Kw⟩,ha,hb,q⟩:=h;have S:Cz C CF H s0 dx fl FK D p zs ts:=⟨S1,S2,hp,S3,S4⟩;clear S1 S2 S3 S4;have GW:wa 4 _:=hr.mono (by decide);have GL:wa 2 _:=hr.mono (by decide);have FN:wa 1 _:=hr.mono (by decide);have hG:=λt ht=>(KI t ht).2;have XR:=hb.r
  refine⟨_,(au (bF (PW.pt (dE (bN (bU (aH FB GL (by rfl) mB kB bB .nil ao (aj (pv 1) ag rfl)))) (dD (aO ix (aE bH (by rfl) Fz ZU (aj (pv 1) ag rfl)) (iq (pv 0) c.cl mR FR FN bR .nil ao) (aV _))))) (ax (fR ZO qN rfl dZ (by rfl) mN (aj gQ ag rfl))) aS)
   (au (@aX _ _ 2 _ _ _ _ ib.nd rfl (Or.inl rfl) (fE (dvs:=[.int 1]) (cN (pv 0) rfl) cF.cl mM FM GW bM (.cons ⟨_,rfl⟩ .nil) ao (aj ak ag rfl)) rfl (Or.inl rfl))
   (oO.nox (au (dU Y4 rfl (dN (cN (pv 0) rfl)) (cY rfl (aN (aD (i:=3) ib.nd rfl (Or.inl rfl)) (aN (aD (i:=4) ib.nd rfl (Or.inl rfl)) cp)))
   (ax (bF (bU (aE (ip rfl) (by rfl) FY (by rfl) (aj (bY (N:=["place","filling"]) (nl:=1) (js:=[1]) (osc:=ar rN) ⟨rfl,rfl,by decide +kernel,by decide +kernel,by decide +kernel,rfl,(.cons ⟨rfl,by decide +kernel⟩ .nil),by decide +kernel⟩ rfl
    (dy (pv 3))
    (λC fp s H=>aD (i:=0) (by show(["place","filling"]:Ez).Nodup;decide +kernel) rfl (Or.inl rfl) (Or.inr rfl))
    (λC fp s H=>cX)
    (λC fp s H=>(aY (show AI _ (xq K) from bJ) (pv 1) (pv 0) (λ_ _=>rfl)))) ag rfl))) (ax (@aX _ _ 2 _ _ _ _ ib.nd rfl (Or.inl rfl) (fE (cN (pv 0) rfl) cF.cl mP FP GW bP .nil ao (aj (pv 2) (aj (pv 4) ag rfl) rfl)) rfl (Or.inl rfl))) aS)))
   (ax (aF (pv 2))))))),?_⟩
  refine⟨_,rfl,.ref a,some (bs.map V.int),rfl,.tup ha (by rw[Yg];have:=hb.l;omega) (λy hy=>?_),λH1 s1=>⟨_,rfl,?_⟩⟩
  ·obtain⟨b,_,rfl⟩:=YG.mp hy;exact⟨_,.int b⟩
  rw[hb.all];refine b7 ?_;have Gu:=s1 _ _ ha;have S1:=S.same s1;refine⟨_,rfl,a,bs.map V.int,rfl,.inr (aU.of Gu),_,rfl,s0,dx,_,rfl,S1.hs,rfl,s0,dx,fl,D,zs,ts,rfl,S1.hs,S1.hD,S1.hz,by omega,λt ht=>by have:=(hG t ht).2.2;omega,λH2 s2=>?_⟩;refine⟨_,_,rfl,rfl,_,rfl,?_⟩;have Gz:=s1.trans s2;refine cG (λh=>?_) (λh=>?_)
  ·have h':(((bs.map V.int).length:Nat):Int)<fu ts:=by simpa using h
   rw[Yg] at h';omega
  ·have h5:=hb.r;have q':=q
   have gg:∀i,i<=ts.length->Gn p 4000 (b0 p bs (ts.take i)):=λi hi=>by
    have b:=kQ (m:=m) (bs:=bs) S.hp i (ts.take i) (by simp;omega) λt ht=>(KI t (Zq ht)).1;have le:(m+1)*i+7<=4000:=Yq (Nat.add_le_add_right (DT _ hi) _) hm;exact⟨b.1,b.2.1.mono le,b.2.2.mono le⟩
   have gT:∀t∈ts,Gn p 4000 t.2:=λt ht=>⟨(KI t ht).1.1,(KI t ht).1.2.1.mono Kw,(KI t ht).1.2.2.mono Kw⟩;have S2:=S.same Gz;have Hs:=Gz _ _ ha;have hlen:=S.hz.length;refine⟨_,rfl,s0,C,dx,_,_,rfl,S2.hs,c.cl,c.nF,rfl,fl,FK,_,rfl,S2.hf,rfl,DK S2.hf S.hp λa0 JK=>?_⟩;have s3:aC H (upd H2 a0 (cx 0 1)):=Gz.trans (aq JK);have S3:=S.same s3;refine⟨_,rfl,s0,C,dx,_,_,rfl,S3.hs,c.cl,c.nT,rfl,D,rfl,⟨zs,bo.of S3.hD⟩,?_⟩
   refine ik (xs:=zs) (λi σ' H'=>aC H H'/\∃aw o3 o4,H' aw=some (cx (b0 p bs (ts.take i)).1 (b0 p bs (ts.take i)).2)/\σ'=[some (.ref s0),some (.ref a),some (.ref aw),o3,o4])
    ⟨s3,a0,none,none,ai,rfl⟩ (λi σ' H' _ h=>bo.of (h.1 _ _ S.hD)) (λi y σ' H' hy h=>?_) (λσ' H' h=>?_)
   ·obtain⟨sH,aw,o3,o4,hw,rfl⟩:=h;obtain⟨t,et,tr⟩:=bK S.hz hy;obtain⟨at_,pr,nu,rfl,Ja,Gd,Gw⟩:=tr.keep (aI.of sH);have tm:=YA et;obtain⟨pw,k0,kl⟩:=hG t tm;have gt:=gT t tm
    have UI:i<ts.length:=by
     rcases Z0 i ts.length with z|z
     ·exact z
     ·rw[List.getElem?_eq_none z] at et;cases et
    have F5:ts.take (i+1)=ts.take i++[t]:=by rw[YE,et];rfl
    have SH:=S.same sH;have UJ:=sH _ _ ha;refine⟨at_,_,rfl,aU.of Ja,rfl,_,_,rfl,_,_,rfl,rfl,?_⟩;refine⟨_,rfl,pr,rfl,⟨_,aU.of Gd⟩,?_⟩;refine dW (xs:=t.1.map V.int) (λj us H3=>H'=H3/\us=((t.1.take j).map λk=>bs.getD k.toNat 0).map V.int) ⟨rfl,rfl⟩ (λj us H3 hj h=>?_) (λj x us H3 N hj hx h k=>?_) (λus H3 h=>?_)
    ·obtain⟨rfl,rfl⟩:=h;exact⟨Yo (by simp;omega) (YX kl (by decide)),aU.of Gd⟩
    ·obtain⟨rfl,rfl⟩:=h
     have Jh:j<t.1.length:=by simpa using hj
     have ex:t.1[j]?=some t.1[j]:=by simp[Jh]
     have ev:x=.int t.1[j]:=by
      rw[YU,ex] at hx;exact(Option.some.inj hx).symm
     subst ev;have km:=List.getElem_mem Jh;have k1:=xw tm pw km
     have ek:t.1.take (j+1)=t.1.take j++[t.1[j]]:=by rw[YE,ex];rfl
     refine wN ⟨_,rfl,_,rfl,a,_,_,_,rfl,rfl,aU.of UJ,qv (k0 _ km) (by omega),k _ _ ⟨rfl,?_⟩⟩;rw[ek,Y2,Y2];rfl
    ·obtain⟨rfl,rfl⟩:=h;intro L hL;rw[Yg,Yv];have sL:aC H' (upd H' L (.lst ((t.1.map λk=>bs.getD k.toNat 0).map V.int))):=aq hL;refine⟨L,_,_,rfl,bo.of ai,tG _,_,rfl,?_⟩;rw[qd];have gw:=gg i (Zi UI);have SL:=SH.same sL
     cases KJ:dz bs t.1 with
     |true =>
      have ew:bZ p bs (b0 p bs (ts.take i)) t=cW p (b0 p bs (ts.take i)) t.2:=by unfold bZ;rw[Yh KJ]
      refine bA ⟨_,rfl,s0,C,dx,_,_,rfl,SL.hs,c.cl,c.nF,rfl,fl,FK,_,rfl,SL.hf,rfl,_,rfl,_,rfl,fl,FK,aw,nu,p,(b0 p bs (ts.take i)).1,(b0 p bs (ts.take i)).2,t.2.1,t.2.2,rfl,SL.hf,S.hp,sL _ _ hw,sL _ _ Gw,gw.2.1,gw.2.2,gt.2.1,gt.2.2,gw.ne,gt.ne,λan UK=>?_⟩;refine⟨sH.trans (sL.trans (aq UK)),an,_,_,?_,rfl⟩;rw[F5,gR,ew];exact ai
     |false =>
      have ew:bZ p bs (b0 p bs (ts.take i)) t=b0 p bs (ts.take i):=by unfold bZ;rw[Yd (by rw[KJ];decide)]
      refine b7 ⟨sH.trans sL,aw,_,_,?_,rfl⟩;rw[F5,gR,ew];exact sL _ _ hw
   ·obtain⟨sH,aw,o3,o4,hw,rfl⟩:=h;rw[hlen,Yv] at hw;exact⟨_,rfl,q' _ aw sH hw⟩
theorem b9 {bs:List Int}:dz bs ks=true ↔ ∀k∈ks,bs.getD k.toNat 0≠0:=by
 unfold dz;rw[List.isEmpty_iff,List.filter_eq_nil_iff];constructor
 ·intro h k hk z;exact h k hk (by rw[z];rfl)
 ·intro h k hk z;exact h k hk (eq_of_beq z)
section
variable {p:Int}{R:Type} [Lean.Grind.CommRing R]{v:Int×Int->R}
noncomputable def fl (bs:List Int)(ks:List Int):R:=if dz bs ks=true then 1 else 0
theorem CN {bs a b:List Int}:(fl bs (fP (a++b)):R)=fl bs a*fl bs b:=by
 unfold fl
 by_cases ha:dz bs a=true
 ·by_cases hb:dz bs b=true
  ·rw[Yh ha,Yh hb,Yh (b9.mpr λk hk=>?_)]
   ·grind
   ·rcases YI.mp (iu.mp hk) with h|h
    ·exact b9.mp ha k h
    ·exact b9.mp hb k h
  ·rw[Yd hb,Yd λz=>hb (b9.mpr λk hk=>b9.mp z k (iu.mpr (Yx _ hk)))];grind
 ·rw[Yd ha,Yd λz=>ha (b9.mpr λk hk=>b9.mp z k (iu.mpr (ZE _ hk)))];grind
theorem zM (a:List Tm)(c:R)(F:List Int->R):S v a (λi=>F i*c)=S v a F*c:=by
 rw[nv (G:=λi=>c*F i) (λi=>by grind),AR];grind
theorem fJ (V:Val p R v)(hp:0<=p){bs:List Int}:∀{ts:List Tm}{a:Int×Int},cb p ts->Num p a.1 a.2->v (ts.foldl (bZ p bs) a)=v a+S v ts (fl bs)/\Num p (ts.foldl (bZ p bs) a).1 (ts.foldl (bZ p bs) a).2
 |[],a,_,ha=>⟨by show v a=v a+0;grind,ha⟩
 |t::ts,a,h,ha=>by
  have ht:=h t Yl;have h2:cb p ts:=λe he=>h e (Yi _ he);show v (ts.foldl (bZ p bs) (bZ p bs a t))=v a+(v t.2*fl bs t.1+S v ts (fl bs))/\Num p (ts.foldl (bZ p bs) (bZ p bs a t)).1 (ts.foldl (bZ p bs) (bZ p bs a t)).2;unfold bZ fl
  by_cases f:dz bs t.1=true
  ·rw[Yh f,Yh f];obtain⟨e,n⟩:=fJ V hp (bs:=bs) h2 (pL hp ha ht);refine⟨?_,n⟩;have ev:v (cW p a t.2)=v a+v t.2:=(V.set ha ht).1 rfl rfl;have e:v (ts.foldl (bZ p bs) (cW p a t.2))=_:=e;unfold bZ fl at e;rw[e,ev];grind
  ·rw[Yd f,Yd f];obtain⟨e,n⟩:=fJ V hp (bs:=bs) h2 ha;refine⟨?_,n⟩;have e:v (ts.foldl (bZ p bs) a)=_:=e;unfold bZ fl at e;rw[e];grind
theorem iJ {p:Int}(hp:FP p):Num p 0 1:=⟨by decide,by decide,λz=>⟨rfl,by decide,by have:=(hp.two z).2.1;omega⟩⟩
theorem uE (V:Val p R v)(hp:FP p){bs:List Int}(h:cb p ts):v (b0 p bs ts)=S v ts (fl bs):=by
 have:=(fJ V hp.nn (bs:=bs) h (a:=(0,1)) (iJ hp)).1;rw[V.zero] at this;show v (ts.foldl (bZ p bs) (0,1))=_;rw[this];grind
end
theorem vH (hp:FP p){bs:List Int}(h:cb p ts):Num p (b0 p bs ts).1 (b0 p bs ts).2:=by
 obtain⟨R,i,v,V⟩:=hp.v;exact(fJ V hp.nn (bs:=bs) h (a:=(0,1)) (iJ hp)).2
noncomputable def kY (ns:List Int):List Int:=ns.mergeSort λa b=>decide (a<=b)
variable {ms:List Int}
theorem zc {ns:List Int}(p:ms.Perm ns)(h:ms.Pairwise (· <= ·)):ms=kY ns:=by
 have h2:(kY ns).Pairwise (· <= ·):=by
  have z:=List.pairwise_mergeSort (le:=λa b:Int=>decide (a<=b)) (by simp;intro a b c;omega) (by simp;intro a b;omega) ns;exact z.imp λh=>Zg h
 exact List.Perm.eq_of_pairwise (le:=λa b:Int=>a<=b) (λa b _ _ h1 h2=>Int.le_antisymm h1 h2) h h2 (p.trans (Af ns _).symm)
variable {l:List Int}
theorem jP {z:Int}:z∈kY l↔z∈l:=(Af l _).mem_iff
theorem zH (h:l.Nodup):(kY l).Pairwise (· < ·):=by
 have le:(kY l).Pairwise (· <= ·):=by
  have z:=List.pairwise_mergeSort (le:=λa b:Int=>decide (a<=b)) (by simp;intro a b c;omega) (by simp;intro a b;omega) l;exact z.imp λh=>Zg h
 have nd:(kY l).Nodup:=(Af _ _).nodup_iff.mpr h
 exact(List.Pairwise.and le nd).imp λh=>by
  obtain⟨h1,h2⟩:=h;have:_≠_:=h2;omega
theorem f9 (h:l.Pairwise (· < ·)):l.Nodup:=h.imp λh=>by
 show _≠_;omega
theorem pe {i:List Int}(h:i.Pairwise (· < ·))(n:k∉i):kY (i++[k])=fP (i++[k]):=by
 have nd:(i++[k]).Nodup:=by
  rw[B9]
  exact⟨f9 h,by simp,λa ha b hb e=>n (by
   have:b=k:=by simpa using hb
   rw[<-this,<-e]
   exact ha)⟩
 exact qU (zH nd) λz=>jP
theorem xc {i:List Int}(h:i.Pairwise (· < ·)):fP i=i:=(qU h λz=>Iff.rfl).symm
noncomputable def yE (k:Int)(t:Tm):Tm:=(kY (t.1++[k]),(-t.2.1,1))
noncomputable def gD:List Tm->List Int->List Tm
 |ts,[]=>ts
 |ts,k::ms=>gD (ts++ts.map (yE k)) ms
noncomputable abbrev fM (k:Int):List Tm:=[([],(1,1)),([k],(-1,1))]
noncomputable def jg:List Tm->List Int->List Tm
 |ts,[]=>ts
 |ts,k::ms=>jg (tg 0 (eX 0 ts (fM k))) ms
noncomputable def Bk (ms:List Int)(ts:List Tm):Prop:=∀t∈ts,(t.2=(1,1)\/t.2=(-1,1))/\t.1.Pairwise (· < ·)/\∀k∈ms,k∉t.1
theorem dB {w:Int×Int}(h:w=(1,1)\/w=(-1,1)):Gn 0 7 w:=by
 rcases h with rfl|rfl
 ·exact⟨⟨by decide,by decide,λz=>absurd rfl z⟩,by unfold B;decide,by unfold B;decide⟩
 ·exact⟨⟨by decide,by decide,λz=>absurd rfl z⟩,by unfold B;decide,by unfold B;decide⟩
theorem Bk.num (h:Bk ms ts):cb 0 ts:=λt ht=>(dB (h t ht).1).1
theorem Bk.next (h:Bk (k::ms) ts)(n:k∉ms):Bk ms (ts++ts.map (yE k)):=λt ht=>by
 rcases YI.mp ht with ht|ht
 ·obtain⟨h1,h2,h3⟩:=h t ht;exact⟨h1,h2,λj hj=>h3 j (Yi _ hj)⟩
 ·obtain⟨u,hu,rfl⟩:=YG.mp ht;obtain⟨h1,h2,h3⟩:=h u hu;have hk:=h3 k Yl;refine⟨?_,?_,λj hj z=>?_⟩
  ·show(-u.2.1,(1:Int))=(1,1)\/(-u.2.1,(1:Int))=(-1,1)
   rcases h1 with e|e <;> rw[e]
   ·exact .inr rfl
   ·exact .inl rfl
  ·show(kY (u.1++[k])).Pairwise (· < ·);rw[pe h2 hk];exact rj _
  ·rcases YI.mp (jP.mp z) with z|z
   ·exact h3 j (Yi _ hj) z
   ·have:j=k:=by simpa using z
    exact n (by rw[<-this];exact hj)
section
variable {R:Type} [Lean.Grind.CommRing R]{v:Int×Int->R}
theorem Bc (V:Val 0 R v){w:Int×Int}(h:w=(1,1)\/w=(-1,1)):v (-w.1,1) = -1*v w:=by
 have e:v (-1,1) = -1:=by
  have n1:=(dB (w:=(1,1)) (.inl rfl)).1;have n2:=(dB (w:=(-1,1)) (.inr rfl)).1;have z:=(V.set (t:=0) (b:=1) (a:=(1,1)) (c:=(-1,1)) n1 n2).1 rfl rfl;have z2:v (cZ 0 0 1,da 0 0 1)=v (0,1):=Ze v (by decide +kernel);rw[z2,V.zero,V.one] at z;grind
 rcases h with rfl|rfl
 ·show v (-1,1)=_;rw[e,V.one];grind
 ·show v (1,1)=_;rw[e,V.one];grind
theorem ye (V:Val 0 R v)(F:List Int->R):∀{ts:List Tm},Bk (k::ms) ts->S v (ts.map (yE k)) F = -1*S v ts (λi=>F (fP (i++[k])))
 |[],_=>by show(0:R) = -1*0;grind
 |t::ts,h=>by
  obtain⟨h1,h2,h3⟩:=h t Yl;have ih:=ye V F (ts:=ts) λe he=>h e (Yi _ he);show v (-t.2.1,1)*F (kY (t.1++[k]))+S v (ts.map (yE k)) F = -1*(v t.2*F (fP (t.1++[k]))+S v ts _);rw[ih,Bc V h1,pe h2 (h3 k Yl)];grind
theorem AW (F:List Int->R):∀{ts:List Tm},Bk ms ts->S v ts (λi=>F (fP (i++[])))=S v ts F
 |[],_=>rfl
 |t::ts,h=>by
  show v t.2*F (fP (t.1++[]))+S v ts _=v t.2*F t.1+S v ts F;rw[AW F (ts:=ts) λe he=>h e (Yi _ he),Zc,xc (h t Yl).2.1]
theorem iy (k:Int):cb 0 (fM k):=λe he=>by
 have:e=([],(1,1))\/e=([k],(-1,1)):=by simpa using he
 rcases this with rfl|rfl
 ·exact(dB (.inl rfl)).1
 ·exact(dB (.inr rfl)).1
theorem BF (V:Val 0 R v)(F:List Int->R){us:List Tm}(h:Bk (k::ms) ts)(hu:cb 0 us)(e:∀F:List Int->R,S v ts F=S v us F):S v (ts++ts.map (yE k)) F=S v (tg 0 (eX 0 us (fM k))) F:=by
 rw[BA V (by decide) (j9 (by decide) hu (iy k)),BD V hu (iy k),hZ,ye V F h,<-e]
 have e1:S v ts (λi=>S v (fM k) (λj=>F (fP (i++j))))=S v ts (λi=>F (fP (i++[])) + -1*F (fP (i++[k]))):=nv (λi=>by
  show v (1,1)*F (fP (i++[]))+(v (-1,1)*F (fP (i++[k]))+0)=_;have:=Bc V (w:=(1,1)) (.inl rfl);have z:v (-1,1) = -1*v (1,1):=this;rw[z,V.one]
  grind) ts
 rw[e1,Do,AR,AW F h]
end
theorem Ct :∀{ts us:List Tm},ms.Nodup->Bk ms ts->cb 0 us->(∀{R:Type} [Lean.Grind.CommRing R]{v:Int×Int->R},Val 0 R v->∀F:List Int->R,S v ts F=S v us F)->tg 0 (gD ts ms)=tg 0 (jg us ms):=by
 induction ms with
 |nil =>
  intro ts us _ h hu e;obtain⟨R,i,v,V⟩:=FP.v (p:=0) (.inl rfl);exact AB V (by decide) h.num hu (e V)
 |cons k ms ih =>
  intro ts us hd h hu e;obtain⟨h1,h2⟩:=YT.mp hd;exact ih h2 (h.next h1) (FP.tn (.inl rfl) (j9 (by decide) hu (iy k))) λV F=>BF V F h hu (e V)
noncomputable def fN (bs ks ms:List Int):Bool:=dz bs ks&&ms.all λk=>bs.getD k.toNat 0==0
section
variable {R:Type} [Lean.Grind.CommRing R]{v:Int×Int->R}{bs:List Int}
noncomputable def Da (bs:List Int):List Int->R
 |[]=>1
 |k::ms=>(1 + -1*fl bs [k])*Da bs ms
theorem Df (V:Val 0 R v):∀{ms:List Int}{ts:List Tm},ms.Nodup->Bk ms ts->S v (gD ts ms) (fl bs)=S v ts (fl bs)*Da bs ms
 |[],ts,_,_=>by show S v ts (fl bs)=S v ts (fl bs)*1;grind
 |k::ms,ts,hd,h=>by
  obtain⟨h1,h2⟩:=YT.mp hd;show S v (gD (ts++ts.map (yE k)) ms) (fl bs)=S v ts (fl bs)*((1 + -1*fl bs [k])*Da bs ms)
  have e:S v ts (λi=>fl bs (fP (i++[k])))=S v ts (fl bs)*fl bs [k]:=by
   rw[<-zM];exact nv (λi=>CN) ts
  rw[Df V h2 (h.next h1),hZ,ye V (fl bs) h,e];grind
theorem rV:∀ms:List Int,(Da bs ms:R)=if(ms.all λk=>bs.getD k.toNat 0==0)=true then 1 else 0
 |[]=>rfl
 |k::ms=>by
  show(1 + -1*fl bs [k])*Da bs ms=_;rw[rV ms,Z3]
  by_cases z:bs.getD k.toNat 0=0
  ·have f:(fl bs [k]:R)=0:=Yd λg=>b9.mp g k Yl z;rw[f,show(bs.getD k.toNat 0==0)=true from Bl.mpr z,Zr];grind
  ·have f:(fl bs [k]:R)=1:=Yh (b9.mpr λj hj=>by
    have:j=k:=by simpa using hj
    rw[this]
    exact z)
   have n:(bs.getD k.toNat 0==0)=false:=by simpa using z
   rw[f,n,ZF];show(1 + -1*1)*_=(0:R);grind
end
theorem Am (hp:FP p):Num p 1 1:=⟨by decide,by decide,λz=>⟨rfl,by decide,by have:=(hp.two z).2.1;omega⟩⟩
theorem yv :∀{ts:List Tm},ms.Nodup->Bk ms ts->cb 0 (gD ts ms):=by
 induction ms with
 |nil=>exact λ_ h=>h.num
 |cons k ms ih =>
  intro ts hd h;obtain⟨h1,h2⟩:=YT.mp hd;exact ih h2 (h.next h1)
theorem xb {bs:List Int}(hd:ms.Nodup)(h:Bk ms [(ks,(1,1))]):b0 0 bs (tg 0 (gD [(ks,(1,1))] ms))=if fN bs ks ms=true then(1,1) else(0,1):=by
 have hp:FP 0:=.inl rfl;obtain⟨R,i,v,V⟩:=hp.v;have hn:=yv hd h;have n0:Num 0 (0,1).1 (0,1).2:=iJ hp;have n1:Num 0 (1,1).1 (1,1).2:=Am hp
 have e:v (b0 0 bs (tg 0 (gD [(ks,(1,1))] ms)))=if fN bs ks ms=true then 1 else 0:=by
  rw[uE V hp (hp.tn hn),BA V hp.nn hn,Df V hd h,rV];show(v (1,1)*fl bs ks+0)*_=_;rw[V.one];unfold fl fN
  cases dz bs ks <;> cases(ms.all λk=>bs.getD k.toNat 0==0) <;> simp <;> grind
 have nw:=vH hp (bs:=bs) (hp.tn hn)
 by_cases g:fN bs ks ms=true
 ·rw[Yh g] at e |-;exact V.inj nw n1 (e.trans V.one.symm)
 ·rw[Yd g] at e |-;exact V.inj nw n0 (e.trans V.zero.symm)
end K44
namespace L2
open PySem PySem.Spec PyProof.Rows PySem.W
section
variable {X:Cx}
theorem oC {H:Hp}{p:Addr}{o:HO}(h:H p=none):aC H (upd H p o):=λb u e=>by rw[aA (aB e h)];exact e
noncomputable def wg:R2:=λx y H Q=>∃a b xs ys,x=.ref a/\y=.ref b/\H a=some (.tup xs)/\H b=some (.tup ys)/\xs.length+ys.length<=sizeLine/\∀p H',aC H H'->H' p=some (.tup (xs++ys))->Q (.ref p) H'
theorem iz:eA X (binaryOp .Add) wg:=by
 intro pins s σ H x y v u Q I rx ry h;obtain⟨a,b,xs,ys,rfl,rfl,ha,hb,hz,q⟩:=h
 by_cases hx:xs=[]
 ·subst hx
  cases rx
  cases ry
  obtain⟨its,r1,p1,_⟩:=I.tuple (aU.of ha);obtain⟨Fx,r2,p2,_⟩:=I.tuple (aU.of hb)
  cases r1
  obtain⟨⟨cls,dd,data,sl⟩,ho,hc,n,hd⟩:=id p1;obtain⟨⟨IQ,HJ,data2,GU⟩,GF,Gq,n2,hd2⟩:=id p2;simp only at hc hd Gq hd2;subst hc hd Gq hd2
  exact BJ ⟨_,ho,rfl⟩ ⟨_,GF,rfl⟩ qI kX uQ DU (C3 _ _)
   (tuple_addW0 a b _ Fx.toArray n n2 dd HJ sl GU (by simp)) ⟨ho,GF,.ref b,H,I,rfl,q b H (aC.refl _) hb⟩
 ·exact ur pins s σ H _ _ v u Q I rx ry ⟨a,b,xs,ys,rfl,rfl,aU.of ha,aU.of hb,hx,hz,λe=>q a H (aC.refl _) (by rw[e,Zc];exact ha),λ_ p hp=>q p _ (oC hp) ai⟩
noncomputable def vt:R2:=λx y H Q=>∃a b xs ys,x=.ref a/\y=.ref b/\H a=some (.lst xs)/\H b=some (.lst ys)/\xs.length+ys.length<=sizeLine/\∀p H',H p=none->aC H H'->H' p=some (.lst (xs++ys))->Q (.ref p) H'
theorem nK:eA X (binaryOp .Add) vt:=by
 intro pins s σ H x y v u Q I rx ry h;obtain⟨a,b,xs,ys,rfl,rfl,ha,hb,hz,q⟩:=h;exact aaF pins s σ H _ _ v u Q I rx ry ⟨a,b,xs,ys,rfl,rfl,ha,hb,hz,λp hp=>q p _ hp (oC hp) ai⟩
end
end L2
namespace St
open PySem PySem.Spec PyProof.Rows PySem.W
section
variable {prog:yo}{w:World}{A:Around}{E:pH}{s:Bi}
theorem wA {a:Addr}{us:nN}{ns:List Int}{Q:pH}(ht:s.heap.IsTuple a us.toArray)(i1:IntsAre us ns)(h64:us.length<64)
 (h:∀(h':Heap)(D:Addr)(out:Cu)(ms:List Int)(c:Nat),IntsAre out.toList ms->ms.Perm ns->ms.Pairwise (· <= ·)->h'.get? D=some (gX out c)->s.heap.get? D=none →
  (∀b o,s.heap.get? b=some o->h'.get? b=some o)->Q (.ref D) {s with heap:=h'}):wpAny (model prog w) A (call (.builtin "sorted") [.ref a]) Q E s:=by
 refine zK kind_sorted plain_sorted entry_sorted (args_sorted1 _) ?_;unfold Builtin.«sorted»;refine X9 (m:=checkCount "sorted" 1 1 _) (Yb ?_);obtain⟨o,ho,hc,n,hd⟩:=ht;refine X9 (wpAny_collect_seq a (.inr rfl) ho hc hd (λh1 k1=>?_) (by rw[ZX];simp;omega));rw[List.toList_toArray];refine X9 (m:=newList us) (D5 ?_ (hsz:=by rw[ZX];omega));have oD:(h1.push (seqObj "list" us.toArray 0)).get? h1.objs.size=some (seqObj "list" us.toArray 0):=Yk _ rfl
 have fr:s.heap.get? h1.objs.size=none:=by
  cases e:s.heap.get? h1.objs.size with
  |none=>rfl
  |some o=>exact absurd (Ym (k1 _ _ e)) (Zh _)
 refine X9 (YY (YJ slot_list_sort ⟨_,oD,rfl⟩ entry_list_sort (list_sort_tree oD i1 h64 λout HK a1 a2 a3=>⟨_,rfl,?_⟩) (args_list_sort _)));obtain⟨c,oc⟩:=mn out oD;refine Yb ⟨_,rfl,h _ _ out HK c a1 a2 a3 oc fr (λb o e=>?_)⟩;exact kg (λq=>by rw[q,fr] at e;cases e) (Yc _ (k1 b o e))
end
end St
namespace L2
open PySem PySem.Spec PyProof.Rows PySem.W
section
variable {X:Cx}
noncomputable def Bd (K:Frag):List V->Hp->VK->Prop:=λxs H Q=>∃(l:Addr)(ns:List Int),xs=[.ref l]/\aU K H l (ns.map V.int)/\ns.length<64/\∀(D:Addr)(ms:List Int),H D=none->ms.Perm ns->ms.Pairwise (· <= ·)->Q (.ref D) (upd H D (.lst (ms.map V.int)))
theorem yO {K:Frag}(hK:X.K=K):cS X (.builtin "sorted") (Bd K):=by
 subst hK;intro pins s σ H xs us Q I r h;obtain⟨l,ns,rfl,hl,h64,q⟩:=h;obtain⟨u,rfl,ru⟩:=dw r
 cases(show u=Value.ref l from ru)
 obtain⟨its,rv,pl,hz⟩:=I.tuple hl;have e1:=rv.length;rw[Yg] at e1;refine St.wA (us:=its) (show s.heap.IsTuple l its.toArray from pl) (fV rv) (by omega) λh' D out ms c a1 a2 a3 hD fr k=>?_
 have hlen:(ms.map V.int).length<=sizeLine:=by
  rw[Yg,a2.length_eq];exact Yq (Zi h64) (by decide)
 exact⟨.ref _,_,I.newObj (t':=s.toks) (o:=.lst (ms.map V.int)) k fr ⟨hlen,out.toList,c,qS a1,by simpa using hD⟩,rfl,q _ ms (I.adA fr) a2 a3⟩
end
theorem qQ {K:PySem.W.Frag}{a:Addr}{xs:List V}{tt:TT}{te:TE}{rest:St}{H:Hp}{F:List V->Hp->Prop}(Pv:Nat->List V->Hp->Prop)(h0:Pv 0 [] H)
 (hz:∀i ys H',i<=xs.length->Pv i ys H'->ys.length<sizeLine/\bo K H' a xs)
 (hs:∀i x ys H',i<xs.length->xs[i]?=some x->Pv i ys H' →
  ∃b u c v w,x=.ref b/\aU K H' b [u,.ref c]/\aU K H' c [v,w]/\∀(N:List V->Hp->Prop),(∀zs H5,Pv (i+1) zs H5->N zs H5)->tt (some u::some v::some w::rest) H' λb H4=>if b=true then te (some u::some v::some w::rest) H4 λy H5=>N (ys++[y]) H5 else N ys H4)
 (hd:∀ys H',Pv xs.length ys H'->F ys H'):
 ∃W:Nat->Nat->List V->St->Hp->Prop,(∃m,W 0 m [] (none::none::none::rest) H)/\jN (yV K a) (lu K 2 (cR (bw 0) (cR (lu K 2 (cR (bw 1) (cR (bw 2) qx))) qx))) tt te W F:=by
 refine⟨λi m ys σ H'=>m=xs.length-i/\i<=xs.length/\Pv i ys H'/\∃o o2 o3,σ=o::o2::o3::rest,⟨xs.length,by simp,Yt _,h0,none,none,none,rfl⟩,?_⟩;rintro i m ys σ H' ⟨rfl,hi,p,o,o2,o3,rfl⟩;obtain⟨z1,z2⟩:=hz i ys H' hi p;refine⟨z1,?_⟩
 by_cases Fy:i<xs.length
 ·refine .inr ⟨⟨xs,xs[i],z2,by simp[Fy]⟩,λx H2 hy=>?_⟩;obtain⟨rfl,hx⟩:=hy;obtain⟨b,u,c,v,w,rfl,hb,hc,h⟩:=hs i x ys H2 Fy (hx xs z2) p;exact⟨_,[u,.ref c],rfl,hb,rfl,_,_,rfl,_,_,rfl,c,[v,w],rfl,hc,rfl,_,_,rfl,_,_,rfl,rfl,rfl,h (λzs H5=>∃m',m'<xs.length-i/\m'=xs.length-(i+1)/\i+1<=xs.length/\Pv (i+1) zs H5/\∃o o2 o3,(some u::some v::some w::rest:St)=o::o2::o3::rest) λzs H5 h=>⟨xs.length-(i+1),by omega,rfl,Fy,h,_,_,_,rfl⟩⟩
 ·have:i=xs.length:=by omega
  subst this;exact .inl ⟨⟨xs,z2,Ye _⟩,hd ys H' p⟩
end L2
namespace K44
open PySem L2 PySem.W Nm Srt
noncomputable abbrev EC:Stmt:=(bc 38)
structure Br (ks ms:List Int):Prop where
 ku:ks.Pairwise (· < ·)
 mu:ms.Pairwise (· < ·)
 kp:∀k∈ks,0<=k/\k<7
 mp:∀k∈ms,0<=k/\k<7
 ap:∀k∈ms,k∉ks
 kl:ks.length<=5
 ml:ms.length<=5
variable {ms:List Int}
theorem Br.bk {ks:List Int}(h:Br ks ms):Bk ms [(ks,(1,1))]:=λt ht=>by
 have:t=(ks,(1,1)):=by simpa using ht
 rw[this];exact⟨.inl rfl,h.ku,h.ap⟩
theorem lW {α:Type}{l:List α}{i:Nat}{x:α}(h:l[i]?=some x):i<l.length:=(YO.mp h).1
theorem nQ:∀{ks:List Int},ks.Pairwise (· < ·)->dY (ks.map V.int)=true
 |[],_=>rfl
 |[k],_=>rfl
 |a::b::ks,h=>by
  obtain⟨h1,h2⟩:=YQ.mp h;have ih:=nQ h2;unfold dY at ih |-;have e:((a::b::ks).map V.int).zip (((a::b::ks).map V.int).drop 1)=(V.int a,V.int b):: (((b::ks).map V.int).zip (((b::ks).map V.int).drop 1)):=rfl;rw[e,Z3,ih,Bool.and_true];exact YD (h1 b Yl)
theorem Ce {ks:List Int}(h:ks.Pairwise (· < ·))(hb:∀k∈ks,0<=k/\k<60)(hl:ks.length<4000):C6 ks:=by
 refine⟨?_,hl⟩;show((ks.map V.int).all oZ&&dY (ks.map V.int))=true;rw[nQ h,Bool.and_true,Z9,ZQ];intro k hk;obtain⟨h0,h1⟩:=hb k hk;show(decide (0<=k)&&decide (k<60))=true;rw[YD h0,YD h1];rfl
theorem jI:∀{l:List Int}{lo:Int},lo<=7->l.Pairwise (· < ·)->(∀x∈l,lo<=x/\x<7)->(l.length:Int)<=7-lo
 |[],lo,h,_,_=>by show(0:Int)<=7-lo;omega
 |x::l,lo,h,hu,hx=>by
  obtain⟨h1,h2⟩:=YQ.mp hu;have b:=hx x Yl
  have:=jI (l:=l) (lo:=x+1) (by omega) h2 λy hy=>by have:=h1 y hy;have:=hx y (Yi _ hy);omega
  rw[YC];omega
noncomputable def Pl (ts:List Tm):Prop:=∀t∈ts,∀j∈t.1,0<=j/\j<7
theorem Pl.br :∀{ts:List Tm},(∀k∈ms,0<=k/\k<7)->Pl ts->Pl (gD ts ms):=by
 induction ms with
 |nil=>exact λ_ h=>h
 |cons k ms ih =>
  intro ts hm h;refine ih (λj hj=>hm j (Yi _ hj)) λt ht j hj=>?_
  rcases YI.mp ht with ht|ht
  ·exact h t ht j hj
  ·obtain⟨u,hu,rfl⟩:=YG.mp ht
   rcases YI.mp (jP.mp hj) with z|z
   ·exact h u hu j z
   ·have:j=k:=by simpa using z
    rw[this];exact hm k Yl
theorem p4 {α β:Type}{R:α->β->Prop}:∀{l:List α}{m:List β}{l':List α}{m':List β},Paired R l m->Paired R l' m'->Paired R (l++l') (m++m')
 |_,_,_,_,.nil,h=>h
 |_,_,_,_,.cons a t,h=>.cons a (p4 t h)
theorem pE:∀(ms:List Int)(ts:List Tm)(k:Int),gD ts (ms++[k])=gD ts ms++(gD ts ms).map (yE k)
 |[],_,_=>rfl
 |m::ms,ts,k=>pE ms _ k
theorem jv:∀(ms:List Int)(ts:List Tm),(gD ts ms).length=ts.length*2^ms.length
 |[],ts=>by show ts.length=ts.length*1;omega
 |k::ms,ts=>by
  show(gD (ts++ts.map (yE k)) ms).length=_;rw[jv ms,Yw,Yg,YC,Nat.pow_succ];grind
theorem Bk.take :∀{ts:List Tm}(i:Nat),ms.Nodup->Bk ms ts->Bk (ms.drop i) (gD ts (ms.take i)):=by
 induction ms with
 |nil=>intro ts i _ h;rw[List.take_nil,List.drop_nil];exact h
 |cons k ms ih =>
  intro ts i hd h;obtain⟨h1,h2⟩:=YT.mp hd
  cases i with
  |zero=>exact h
  |succ i=>exact ih i h2 (h.next h1)
variable {p:Int}
theorem FP.good (h:FP p):good (.int p)=true:=by
 show jc p=true;unfold jc
 rcases h with h|h
 ·rw[h];rfl
 ·have:(cO.any λq=>q==p)=true:=by
   rw[ZC];exact⟨p,h,by simp⟩
  rw[this];simp
variable {CF:Addr}{H:Hp}
theorem qY {Oy fl FK:Addr}{Q:Hp->Prop}{E:XK}(hf:H fl=none)(hd:H FK=none)(ne:FK≠fl)(hp:FP p)(q:∀H',aC H H'->H' fl=some (.ins CF FK (gG p))->Q H'):
 rP CF Oy [.ref fl,.int p] (upd (upd H FK (.own fl)) fl (.ins CF FK [])) (λv H2=>v=.non/\Q H2) E:=by
 refine⟨fl,FK,.int p,"int",rfl,.int p,ai,λ_=>⟨rfl,?_⟩,λg=>by rw[hp.good] at g;cases g⟩;rw[uy];exact q _ ((aq hd).trans (aq (by rw[aA (YM ne)];exact hf))) ai
theorem uH {H':Hp}{s dx:Addr}{o u:HO}(h1:H s=none)(h2:H dx=none)(ne:dx≠s)(k:SameBut s (upd (upd H dx o) s u) H'):aC H H':=λb v e=>by
 have b1:b≠s:=aB e h1;have b2:b≠dx:=aB e h2;exact k b v (by rw[aA b1,aA b2];exact e) b1
theorem xS {C fl FK s dx l:Addr}{ys:List V}{ts:List Tm}{Q:Hp->Prop}{E:XK}(hs:H s=none)(Ni:H dx=none)(ne:dx≠s)(hf:H fl=some (.ins CF FK (gG p)))(hp:FP p)(hl:H l=some (.lst ys))(ht:bp H ys ts)(G:Ar p ts)(hP:∀t∈ts,C6 t.1)
 (q:∀H',aC H H'->zP C CF H' s p (tg p ts)->Q H'):
 mU C CF [.ref s,.ref fl,.ref l] (upd (upd H dx (.own s)) s (.ins C dx [])) (λv H2=>v=.non/\Q H2) E:=by
 have hS:aC H (upd (upd H dx (.own s)) s (.ins C dx [])):=(aq Ni).trans (aq (by rw[aA (YM ne)];exact hs));refine⟨s,dx,fl,FK,p,_,ts,rfl,ai,hS _ _ hf,hp,.inr ⟨l,ys,rfl,hS _ _ hl,bp.keep ht (aI.of hS)⟩,G,hP,λH' D zs k _ h1 h2 h3=>?_⟩;have sm:=uH hs Ni ne k;exact⟨rfl,q H' sm ⟨dx,fl,FK,D,zs,h1,sm _ _ hf,h2,h3⟩⟩
noncomputable def D4 (C CF:Addr):Sp:=λvs H Q _=>∃(br ah al:Addr)(ks ms:List Int),vs=[.ref br]/\H br=some (.tup [.ref ah,.ref al])/\H ah=some (.tup (ks.map V.int))/\H al=some (.tup (ms.map V.int))/\Br ks ms/\∀H' s,aC H H'->zP C CF H' s 0 (tg 0 (gD [(ks,(1,1))] ms))->Q (.ref s) H'
theorem vh:CP ["bracket","held","lacked","terms","place"] ["bracket"] (ar EC):=fe (by decide +kernel)
variable {P:yo}{w:World}{K:PySem.W.Frag}{mg:u9}{base:Heap}
set_option maxHeartbeats 1000000 in
theorem Dq {f C Oy fI Rr:Addr}{fd Rt KL:BG}{t0:Tok}(F:ve K "bracket_sum" "bracket_sum" EC f fd)(c:vg K mg C)(cF:BE K mg CF)(Fu:mg "tuple"=none)(Fw:mg "sorted"=none)
 (M:Mk K C fI)(FI:ya P w K mg base (cD P w) 6 fI Rt CR (mU C CF))(bI:L2.ck K Rt CR [])
 (MF:Mk K CF Rr)(FFI:ya P w K mg base (cD P w) 2 Rr KL qH (rP CF Oy))(KN:L2.ck K KL qH [.int 0 t0]):ya P w K mg base (cD P w) 8 f fd ["bracket"] (D4 C CF):=by
 refine F.okN vh (λvs H Q E h=>?_) (λFv A outer s H vs Q E hr h=>?_)
 ·obtain⟨br,ah,al,ks,ms,rfl,_⟩:=h;rfl
 ·obtain⟨br,ah,al,ks,ms,rfl,UL,GS,GH,hb,q⟩:=h;have Ru:wa 7 _:=hr;have GZ:wa 3 _:=Ru.mono (by decide)
  refine⟨_,(au (kD (pv 0) (cY rfl (aN (aD (i:=1) vh.nd rfl (Or.inl rfl)) (aN (aD (i:=2) vh.nd rfl (Or.inl rfl)) cp))))
   (au (@aX _ _ 3 _ _ _ _ vh.nd rfl (Or.inl rfl) (cE (aj (aJ (aj (pv 1) (aj (aJ (aj ak (aj ak ag rfl) rfl)) ag rfl) rfl)) ag rfl)) rfl (Or.inl rfl))
   (au (dU Y4 rfl (dy (pv 2)) (aD (i:=4) vh.nd rfl (Or.inr rfl))
   (ax (@aX _ _ 3 _ _ _ _ vh.nd rfl (Or.inl rfl) (aK nK (pv 3) (bY (g:=(lu K 2 (cR (bw 0) (cR (lu K 2 (cR (bw 1) (cR (bw 2) qx))) qx)))) (N:=["product","top","bottom","place"]) (nl:=3) (js:=[4]) (osc:=ar EC) ⟨rfl,rfl,by decide +kernel,by decide +kernel,by decide +kernel,rfl,(.cons ⟨rfl,by decide +kernel⟩ .nil),by decide +kernel⟩ rfl
    (dN (pv 3))
    (λCq fq sq Hq=>(cY (X:=fK _ ["product","top","bottom","place"] _ Cq fq sq Hq) rfl (aN (aD (X:=fK _ ["product","top","bottom","place"] _ Cq fq sq Hq) (i:=0) (by show(["product","top","bottom","place"]:Ez).Nodup;decide +kernel) rfl (Or.inl rfl) (Or.inr rfl)) (aN ((cY (X:=fK _ ["product","top","bottom","place"] _ Cq fq sq Hq) rfl (aN (aD (X:=fK _ ["product","top","bottom","place"] _ Cq fq sq Hq) (i:=1) (by show(["product","top","bottom","place"]:Ez).Nodup;decide +kernel) rfl (Or.inl rfl) (Or.inr rfl)) (aN (aD (X:=fK _ ["product","top","bottom","place"] _ Cq fq sq Hq) (i:=2) (by show(["product","top","bottom","place"]:Ez).Nodup;decide +kernel) rfl (Or.inl rfl) (Or.inr rfl)) cp)))) cp))))
    (λCq fq sq Hq=>cX)
    (λCq fq sq Hq=>(aJ (aj (bt (fA rfl) (by rfl) Fu (by rfl) (aj (aE (yO rfl) (by rfl) Fw (by rfl) (aj (aK iz (pv 0) (aJ (aj (pv 3) ag rfl))) ag rfl)) ag rfl)) (aj (aJ (aj (oE kN (pv 1)) (aj ak ag rfl) rfl)) ag rfl) rfl))))) rfl (Or.inl rfl))))
   (ax (aF (aak M FI Ru (by rfl) c.mgC bI .nil ao (aj (aaq MF FFI GZ (by rfl) cF.mgC KN (.cons (show aG (.int 0) (.int 0 t0) from⟨_,rfl⟩) .nil) ao) (aj (pv 3) ag rfl) rfl))))))),?_⟩
  have nd:=f9 hb.mu;refine⟨_,rfl,br,_,rfl,aU.of UL,rfl,_,_,rfl,_,_,rfl,rfl,?_⟩;refine⟨_,rfl,hJ,λa1 Gu=>?_⟩;have s1:=aq (o:=.tup [.int 1,.int 1]) Gu;have e1:upd H a1 (.tup [.int 1,.int 1]) a1=some (.tup [.int 1,.int 1]):=ai;generalize upd H a1 _=H1 at s1 e1 |-;refine⟨hJ,λa2 Hs=>?_⟩;have s2:=aq (o:=.tup [.ref ah,.ref a1]) Hs;have e2:upd H1 a2 (.tup [.ref ah,.ref a1]) a2=some (.tup [.ref ah,.ref a1]):=ai;generalize upd H1 a2 _=H2 at s2 e2 |-;refine⟨AV,λL hL=>?_⟩;have s3:=aq (o:=.lst [.ref a2]) hL;have e3:upd H2 L (.lst [.ref a2]) L=some (.lst [.ref a2]):=ai;generalize upd H2 L _=H3 at s3 e3 |-;have S3:=s1.trans (s2.trans s3);have t3:bp H3 [.ref a2] [(ks,(1,1))]:=.cons ⟨a2,ah,a1,rfl,s3 _ _ e2,S3 _ _ GS,(s2.trans s3) _ _ e1⟩ .nil;refine⟨_,rfl,al,rfl,⟨_,aU.of (S3 _ _ GH)⟩,?_⟩;refine um (K:=K) (a:=al) (xs:=ms.map V.int) (λi σ H'=>aC H H'/\∃L ys o4,H' L=some (.lst ys)/\bp H' ys (gD [(ks,(1,1))] (ms.take i))/\σ=[some (.ref br),some (.ref ah),some (.ref al),some (.ref L),o4]) ⟨S3,L,_,_,e3,t3,rfl⟩ (λj σ H' _ h=>aU.of (h.1 _ _ GH)) ?_ ?_
  ·rintro i y σ H4 hy ⟨s4,L4,ys,o4,G6,Gv,rfl⟩;rw[YU] at hy;obtain⟨k,ek,rfl⟩:=YH.mp hy;have hi:i<ms.length:=lW ek;have Oz:=Bk.take i nd hb.bk
   have ed:ms.drop i=k::ms.drop (i+1):=by rw[yL hi];congr 1;rw[YZ hi] at ek;exact Option.some.inj ek
   rw[ed] at Oz
   have ln:(gD [(ks,(1,1))] (ms.take i)).length<=16:=by
    rw[jv,Y8,uC (Zi hi)];have:=hb.ml
    have h5:i<=4:=by omega
    exact Yq (DT _ (ZG (by decide) h5)) (show 1*2^4<=16 by decide)
   have F5:ms.take (i+1)=ms.take i++[k]:=by rw[YE,ek];rfl
   rw[F5,pE]
   have pl:Pl (gD [(ks,(1,1))] (ms.take i)):=Pl.br (λk hk=>hb.mp k (Zq hk)) λt ht j hj=>by
    have:t=(ks,(1,1)):=by simpa using ht
    rw[this] at hj;exact hb.kp j hj
   generalize gD [(ks,(1,1))] (ms.take i)=ts at Gv Oz ln pl |-;have yl:=Gv.length;dsimp only[bw,ll,kx];refine⟨_,rfl,_,rfl,L4,rfl,⟨_,bo.of G6⟩,?_⟩;refine qQ (K:=K) (xs:=ys) (λj us H'=>aC H4 H'/\bp H' us ((ts.take j).map (yE k))) ⟨aC.refl _,.nil⟩ (λj us H' hj h=>?_) (λj x us H' hj hx h=>?_) (λus H' h=>?_)
   ·refine⟨?_,bo.of (h.1 _ _ G6)⟩;rw[h.2.length,Yg,Y8];exact Yo (ZP _ _) (Yo ln (by decide))
   ·obtain⟨s5,h5⟩:=h;obtain⟨t,et,at_,pr,nu,rfl,Ja,Gd,Gw⟩:=bK Gv hx;have tm:=YA et;obtain⟨b1,b2,b3⟩:=Oz t tm;have tl:=jI (l:=t.1) (lo:=0) (by decide) b2 (pl t tm);refine⟨at_,.ref pr,nu,.int t.2.1,.int t.2.2,rfl,aU.of (s5 _ _ Ja),aU.of (s5 _ _ Gw),λN kk=>wN ?_⟩;refine⟨_,rfl,_,rfl,AV,λq1 UM=>?_⟩;have v1:=aq (o:=.tup [.int k]) UM;have f1:upd H' q1 (.tup [.int k]) q1=some (.tup [.int k]):=ai;generalize upd H' q1 _=Ha at v1 f1 |-;refine⟨pr,q1,_,_,rfl,rfl,v1 _ _ (s5 _ _ Gd),f1,?_,λq2 Hb v2 f2=>?_⟩
    ·rw[Yg];exact Yq (show t.1.length+1<=8 by omega) (by decide)
    have f2:Hb q2=some (.tup ((t.1++[k]).map V.int)):=by rw[f2,Y2];rfl
    refine⟨q2,t.1++[k],rfl,aU.of f2,by rw[Yw];show t.1.length+1<64;omega,λq3 GP UN perm UO=>?_⟩;have es:=zc perm UO;have v3:=aq (o:=.lst (GP.map V.int)) UN;have f3:upd Hb q3 (.lst (GP.map V.int)) q3=some (.lst (GP.map V.int)):=ai;generalize upd Hb q3 _=Hc at v3 f3 |-;refine⟨q3,_,rfl,.inl ⟨bo.of f3,λq4 UP=>?_⟩⟩;have v4:=aq (o:=.tup (GP.map V.int)) UP;have f4:upd Hc q4 (.tup (GP.map V.int)) q4=some (.tup (GP.map V.int)):=ai;generalize upd Hc q4 _=Hd at v4 f4 |-;refine⟨_,rfl,_,rfl,hJ,λq5 UQ=>?_⟩;have v5:=aq (o:=.tup [.int (-t.2.1),.int 1]) UQ;have f5:upd Hd q5 (.tup [.int (-t.2.1),.int 1]) q5=some (.tup [.int (-t.2.1),.int 1]):=ai;generalize upd Hd q5 _=He at v5 f5 |-;refine⟨hJ,λq6 UR=>?_⟩;have v6:=aq (o:=.tup [.ref q4,.ref q5]) UR;have f6:upd He q6 (.tup [.ref q4,.ref q5]) q6=some (.tup [.ref q4,.ref q5]):=ai;generalize upd He q6 _=Hf at v6 f6 |-;have v:=v1.trans (v2.trans (v3.trans (v4.trans (v5.trans v6))));refine kk _ _ ⟨s5.trans v,?_⟩;rw[YE,et,Y2];refine uU (bp.keep h5 (aI.of v)) ⟨q6,q4,q5,rfl,f6,?_,v6 _ _ f5⟩;rw[show(yE k t).1=GP from es.symm];exact(v5.trans v6) _ _ f4
   ·obtain⟨s5,h5⟩:=h;rw[yl,Yv] at h5;intro L6 JO;have v1:=s5.trans (aq (o:=.lst us) JO);have f1:upd H' L6 (.lst us) L6=some (.lst us):=ai;have h6:=bp.keep h5 (aI.of (aq (o:=.lst us) JO));generalize upd H' L6 _=Ha at v1 f1 h6 |-;refine⟨L4,L6,_,_,rfl,rfl,v1 _ _ G6,f1,?_,λL7 Hb _ v2 f2=>?_⟩
    ·rw[yl,h6.length,Yg];exact Yq (Nat.add_le_add ln ln) (by decide)
    ·exact⟨s4.trans (v1.trans v2),L7,_,_,f2,p4 (bp.keep Gv (aI.of (v1.trans v2))) (bp.keep h6 (aI.of v2)),rfl⟩
  ·rintro σ H4 ⟨s4,L4,ys,o4,G6,Gv,rfl⟩;rw[Yg,Yv] at Gv;have bk:=Bk.take ms.length nd hb.bk;rw[Yv] at bk
   have pl:Pl (gD [(ks,(1,1))] ms):=Pl.br hb.mp λt ht j hj=>by
    have:t=(ks,(1,1)):=by simpa using ht
    rw[this] at hj;exact hb.kp j hj
   have ln:(gD [(ks,(1,1))] ms).length<=32:=by
    rw[jv];exact Yq (DT _ (ZG (by decide) hb.ml)) (show 1*2^5<=32 by decide)
   generalize gD [(ks,(1,1))] ms=ts at Gv bk pl ln q;intro fl FK US OA F2;refine qY US OA F2 (.inl rfl) λH5 s5 UT=>?_;refine⟨_,rfl,λx dx hx Ni ne=>?_⟩;refine xS hx Ni ne UT (.inl rfl) (s5 _ _ G6) (bp.keep Gv (aI.of s5)) (Ar.of (.inl rfl) (by omega) (λt ht=>dB (bk t ht).1) (by omega) (by decide)) (λt ht=>?_) λH6 s6 S6=>q H6 x (s4.trans (s5.trans s6)) S6;have tl:=jI (l:=t.1) (lo:=0) (by decide) (bk t ht).2.1 (pl t ht);exact Ce (bk t ht).2.1 (λj hj=>by have:=pl t ht j hj;omega) (by omega)
end K44
namespace L2
open PySem PySem.Spec PyProof.Rows PySem.W
section
variable {X:Cx}
theorem xE (hc:X.calm=true):cS X (.builtin "any") (λxs H Q=>∃l ys bs,xs=[.ref l]/\bo X.K H l ys/\Paired C4 ys bs/\Q (.bl (bs.any id)) H):=by
 intro pins s σ H xs us Q I r h;obtain⟨l,ys,bs,rfl,hl,hp,q⟩:=h;obtain⟨u,rfl,ru⟩:=dw r
 cases(show u=Value.ref l from ru)
 obtain⟨its,rv,pl,hz⟩:=I.list hl
 have Fy:l<s.heap.objs.size:=by obtain⟨o,n,e,_⟩:=pl;exact Ym e
 refine call_any_walk (Be pl.isList ?_)
 refine⟨s.heap.objs.size,[s.heap.objs.size,l],[s.heap.objs.size],its.toArray.size,_,_,λi=>(bs[i]?).getD false,rfl,Walks.list (A:=X.A.in1) (I.ok.hd hc) _ l (Yr Fy) its.toArray,
  ⟨⟨_,Yk _ rfl,rfl,rfl⟩,pl.isList.push _⟩,λi v s' Q' E' hP hQ=>?_,λh' tk hk=>?_⟩
 ·have e:its[i]?=some v:=by simpa using hP
  obtain⟨y,ey,ry⟩:=gY rv e;obtain⟨b,eb,tb⟩:=bK hp ey;simp only[eb,Option.getD_some] at hQ;exact xR tb ry hQ
 ·have n:its.toArray.size=bs.length:=by rw[Yj,<-rv.length,hp.length]
  have e:((List.range its.toArray.size).any λi=>(bs[i]?).getD false)=bs.any id:=by rw[n];exact LSm.range_any bs
  rw[e];exact⟨.bl (bs.any id),H,I.kept (t':=tk) (LSm.kept_iter hk),rfl,q⟩
end
end L2
namespace K44
open PySem L2 PySem.W Nm Srt
noncomputable abbrev xG:Stmt:=(bc 37)
inductive BX (H:Hp):V->Option (Option (List V)×Option (List V))->Prop where
 |no {x:V}{T:String}:Th H x T->T ≠ "tuple"->BX H x none
 |odd {a:Addr}{xs:List V}:H a=some (.tup xs)->xs.length≠2->BX H (.ref a) none
 |two {a:Addr}{y z:V}{oy oz:Option (List V)}:H a=some (.tup [y,z])->PX H y oy->PX H z oz->BX H (.ref a) (some (oy,oz))
theorem BX.same {H H':Hp}{x:V}{o:Option (Option (List V)×Option (List V))}(h:BX H x o)(s:aC H H'):BX H' x o:=by
 cases h with
 |no t n=>exact .no (t.same s) n
 |odd e l=>exact .odd (s _ _ e) l
 |two e y z=>exact .two (s _ _ e) (y.same s) (z.same s)
noncomputable def En:Option (Option (List V)×Option (List V))->Bool
 |none=>false
 |some (oy,oz)=>cJ oy&&(cJ oz&&!((oz.getD []).any λy=>fW y (oy.getD [])))
theorem c9 (ns:List Int):(ns.map V.int).all ir=true:=by
 rw[Z9,ZQ];exact λ_ _=>rfl
variable {xs:List V}
theorem ny (h:xs.all oZ=true):∃ns:List Int,xs=ns.map V.int:=by
 induction xs with
 |nil=>exact⟨[],rfl⟩
 |cons x xs ih =>
  rw[Z3,Yy] at h;obtain⟨ns,rfl⟩:=ih h.2
  have:∃n,x=V.int n:=by
   have:=h.1
   cases x <;> first|exact⟨_,rfl⟩|cases this
  obtain⟨n,rfl⟩:=this;exact⟨n::ns,rfl⟩
theorem gA {o:Option (List V)}(h:cJ o=true):∃ns:List Int,o=some (ns.map V.int):=by
 cases o with
 |none=>cases h
 |some xs =>
  have h:(xs.all oZ&&dY xs)=true:=h;obtain⟨ns,rfl⟩:=ny (YK.mp h).1;exact⟨ns,rfl⟩
noncomputable def zS:Sp:=λvs H Q _=>∃x o,vs=[x]/\BX H x o/\∀H',aC H H'->Q (.bl (En o)) H'
theorem CV:CP n6 n6 (ar xG):=fe (by decide +kernel)
variable {P:yo}{w:World}{K:PySem.W.Frag}{mg:u9}{base:Heap}
variable {f:Addr}{fd:BG}
set_option maxHeartbeats 1000000 in
theorem As (F:ve K "is_bracket" "is_bracket" xG f fd)(Fs:mg "isinstance"=none)(Fu:mg "tuple"=none)(Fz:mg "len"=none)(Hv:mg "any"=none)
 (q0:Ca P w K mg base 3 n6 "is_product" vp):ya P w K mg base (cD P w) 4 f fd n6 zS:=by
 obtain⟨fp,Kr,FP,bP,mP,kP⟩:=q0;refine F.okN CV (λvs H Q E h=>?_) (λFv A outer s H vs Q E hr h=>?_)
 ·obtain⟨x,o,rfl,_⟩:=h;rfl
 ·obtain⟨x,o,rfl,bx,q⟩:=h;have GZ:wa 3 _:=hr
  refine⟨_,(au (bF (PW.pt (dE (bN (bU (aE aZ (by rfl) Fs (by rfl) (aj (pv 0) (aj (cC (by rfl) Fu (by rfl) (show aG (.ty "tuple") (.type "tuple") from rfl)) ag rfl) rfl)))) (dE (aO fY (aE bH (by rfl) Fz ZU (aj (pv 0) ag rfl)) ak (aV _)) (dE (bN (bU (aH FP GZ (by rfl) mP kP bP .nil ao (aj (aY (i9 (K:=K) rfl) (pv 0) ak (λ_ _=>rfl)) ag rfl)))) (dD (bN (bU (aH FP GZ (by rfl) mP kP bP .nil ao (aj (aY (i9 (K:=K) rfl) (pv 0) ak (λ_ _=>rfl)) ag rfl))))))))) (ax (aF eE)) aS)
   (ax (aF (rB (aE (xE rfl) (by rfl) Hv (by rfl) (aj (bY (N:=["place","thing"]) (nl:=1) (js:=[0]) (osc:=ar xG) ⟨rfl,rfl,by decide +kernel,by decide +kernel,by decide +kernel,rfl,(.cons ⟨rfl,by decide +kernel⟩ .nil),by decide +kernel⟩ rfl
    (dy (aY (i9 (K:=K) rfl) (pv 0) ak (λ_ _=>rfl)))
    (λCq fq sq Hq=>aD (i:=0) (by show(["place","thing"]:Ez).Nodup;decide +kernel) rfl (Or.inl rfl) (Or.inr rfl))
    (λCq fq sq Hq=>cX)
    (λCq fq sq Hq=>(cu (show eA _ _ (yC K false) from gy) (pv 0) (aY (i9 (K:=K) rfl) (pv 1) ak (λ_ _=>rfl)) (by rfl)))) ag rfl)))))),?_⟩
  cases bx with
  |@no x T th ne =>
   refine⟨_,rfl,x,.ty "tuple",_,_,_,rfl,rfl,th.ty,th.isTup,_,rfl,?_⟩;rw[Yu ne];exact bA (bA (q _ (aC.refl _)))
  |@odd a xs ha hl =>
   refine⟨_,rfl,.ref a,.ty "tuple",_,_,_,rfl,rfl,.of (.tup ha),rfl,_,rfl,b7 ?_⟩;refine⟨_,rfl,a,xs,rfl,.inr (aU.of ha),rfl,_,rfl,?_⟩
   have e:(!decide (V.int (xs.length:Int)=V.int 2))=true:=by
    rw[Z1,Zn];intro z
    injection z with z
    omega
   rw[e];exact bA (bA (q _ (aC.refl _)))
  |@two a y z oy oz ha py pz =>
   have q:∀H',aC H H'->Q (.bl (cJ oy&&(cJ oz&&!((oz.getD []).any λy=>fW y (oy.getD []))))) H':=q;refine⟨_,rfl,.ref a,.ty "tuple",_,_,_,rfl,rfl,.of (.tup ha),rfl,_,rfl,b7 ?_⟩;refine⟨_,rfl,a,[y,z],rfl,.inr (aU.of ha),rfl,_,rfl,b7 ?_⟩;refine⟨_,rfl,a,_,0,y,rfl,rfl,aU.of ha,rfl,y,oy,rfl,py,λH1 s1=>⟨_,rfl,?_⟩⟩
   cases ey:cJ oy with
   |false=>exact bA (bA (by
    have:=q H1 s1;rw[ey] at this
    exact this))
   |true =>
    refine b7 ?_;refine⟨_,rfl,a,_,1,z,rfl,rfl,aU.of (s1 _ _ ha),rfl,z,oz,rfl,pz.same s1,λH2 s2=>⟨_,rfl,?_⟩⟩;have Gz:=s1.trans s2
    cases ez:cJ oz with
    |false=>exact bA (by
     have:=q H2 Gz;rw[ey,ez] at this
     exact this)
    |true =>
     refine b7 ?_;obtain⟨ks,rfl⟩:=gA ey;obtain⟨ms,rfl⟩:=gA ez;rw[ey,ez] at q
     cases py with
     |@tup ay _ Ir _ _ =>
     cases pz with
     |@tup az _ Iu lz _ =>
     have Ir:=Gz _ _ Ir;have Iu:=Gz _ _ Iu;have Hs:=Gz _ _ ha;refine⟨_,rfl,a,_,1,.ref az,rfl,rfl,aU.of Hs,rfl,az,rfl,⟨_,aU.of Iu⟩,?_⟩;refine dW (K:=K) (xs:=ms.map V.int) (rest:=[some (.ref a)]) (λi us H'=>H2=H'/\us=((ms.take i).map λk=>fW (.int k) (ks.map V.int)).map V.bl) ⟨rfl,rfl⟩ (λi us H' hi h=>?_) (λi x us H' N hi hx h k=>?_) (λus H' h=>?_)
     ·obtain⟨rfl,rfl⟩:=h;refine⟨?_,aU.of Iu⟩;rw[Yg,Yg,Y8];rw[Yg] at lz;exact Yo (ZP _ _) (YX lz (by decide))
     ·obtain⟨rfl,rfl⟩:=h;rw[YU] at hx;obtain⟨m,em,rfl⟩:=YH.mp hx;refine wN ⟨_,rfl,_,rfl,a,_,0,.ref ay,rfl,rfl,aU.of Hs,rfl,ay,_,rfl,.inr (aU.of Ir),rfl,c9 ks,k _ _ ⟨rfl,?_⟩⟩;rw[YE,em,Y2,Y2];rfl
     ·obtain⟨rfl,rfl⟩:=h;rw[Yg,Yv];intro L hL;refine⟨L,_,ms.map λk=>fW (.int k) (ks.map V.int),rfl,bo.of ai,ko _,_,rfl,?_⟩
      have e:((ms.map λk=>fW (.int k) (ks.map V.int)).any id)=(((some (ms.map V.int)).getD []).any λy=>fW y ((some (ks.map V.int)).getD [])):=by
       rw[qo,Option.getD_some,Option.getD_some,qo];rfl
      rw[e];exact q _ (Gz.trans (aq hL))
noncomputable abbrev qg:Stmt:=(bc 49)
noncomputable def mX:Sp:=λvs H Q _=>∃(r:Addr)(many:Int),vs=[.ref r,.int many]/\a7 H r/\0<=many/\many<=100 /\
 ∀(a:Addr)(ks:List Int)(H':Hp),(∀k∈ks,0<=k/\k<=1)->(ks.length:Int)=many->H' a=some (.tup (ks.map V.int))->a7 H' r->SameBut r H H'->Q (.ref a) H'
theorem zZ:CP xk xk (ar qg):=fe (by decide +kernel)
theorem xt (F:ve K "_law_filling" "_law_filling" qg f fd)(Fu:mg "tuple"=none)(FD:mg "range"=none)
 (q0:Ca P w K mg base 1 xk "_law_take" ie):
 ya P w K mg base (cD P w) 2 f fd xk mX:=by
 obtain⟨ft,TK,FT,bT,mT,kT⟩:=q0;refine F.okN zZ (λvs H Q E h=>?_) (λFv A outer s H vs Q E hr h=>?_)
 ·obtain⟨r,many,rfl,_⟩:=h;rfl
 ·obtain⟨r,many,rfl,hR,m0,m1,q⟩:=h;have FN:wa 1 _:=hr.mono (by decide)
  refine⟨_,(ax (aF (bt dh (by rfl) Fu (by rfl) (aj (bY (N:=["_law_place","_law_room_here"]) (nl:=1) (js:=[0]) (osc:=ar qg) ⟨rfl,rfl,by decide +kernel,by decide +kernel,by decide +kernel,rfl,(.cons ⟨rfl,by decide +kernel⟩ .nil),by decide +kernel⟩ rfl
   (dR (by rfl) FD (aj (pv 1) ag rfl))
   (λC fp s H=>aD (i:=0) (by show(["_law_place","_law_room_here"]:Ez).Nodup;decide +kernel) rfl (Or.inl rfl) (Or.inr rfl))
   (λC fp s H=>cX)
   (λC fp s H=>(aH FT FN (by rfl) mT kT bT .nil ao (aj (pv 1) (aj ak ag rfl) rfl)))) ag rfl)))),?_⟩
  refine⟨_,rfl,many,rfl,by omega,by omega,?_⟩
  refine⟨λi m xs σ' H'=>m=many.toNat-i/\i<=many.toNat/\(∃ks:List Int,xs=ks.map V.int/\(∀k∈ks,0<=k/\k<=1)/\ks.length=i)/\a7 H' r/\SameBut r H H'/\∃o,σ'=[o,some (.ref r)],
   ⟨many.toNat,by simp,Yt _,⟨[],rfl,λk h=>(nomatch h),rfl⟩,hR,λ_ _ e _=>e,none,rfl⟩,?_⟩
  rintro i m xs σ' H' ⟨rfl,hi,⟨ks,rfl,Rv,UU⟩,⟨l,x,Nj,x0,x1⟩,sb,o,rfl⟩;refine⟨by rw[Yg];exact Yo (show ks.length<=100 by omega) (by decide),?_⟩
  by_cases Fy:i<many.toNat
  ·refine .inr ⟨Fy,λy H2 hy=>?_⟩;obtain⟨rfl,rfl⟩:=hy;dsimp only[EB,bw];refine bA ⟨_,rfl,r,l,x,2,rfl,Nj,x0,x1,by decide,by decide,λz l2 r2 z0 z1 g0 g1=>?_⟩;refine⟨many.toNat-(i+1),by omega,rfl,Fy,⟨ks++[z],by simp,λk hk=>?_,by simp[UU]⟩,⟨l2,r2,ai,g0,g1⟩,sb.trans SameBut.upd,_,rfl⟩
   rcases YI.mp hk with hk|hk
   ·exact Rv k hk
   ·have:k=z:=by simpa using hk
    omega
  ·have ei:i=many.toNat:=by omega
   refine .inl ⟨by show many.toNat<=i;omega,λD hD=>?_⟩;refine⟨D,_,rfl,.inl ⟨bo.of ai,λa ha=>?_⟩⟩;have nD:r≠D:=aB Nj hD;have na:r≠a:=aB (show upd H' D (.lst (ks.map V.int)) r=some (.lst [.int l,.int x]) by rw[aA nD];exact Nj) ha;refine q a ks _ Rv (by omega) ai ⟨l,x,by rw[aA na,aA nD];exact Nj,x0,x1⟩ λb u e nb=>?_;have e1:=sb b u e nb
   have e2:upd H' D (.lst (ks.map V.int)) b=some u:=by rw[aA (aB e1 hD)];exact e1
   rw[aA (aB e2 ha)];exact e2
noncomputable abbrev sC:Stmt:=(bc 43)
theorem xI:CP EK EK (ar sC):=fe (by decide +kernel)
theorem uY (F:ve K "_law_whole" "_law_whole" sC f fd)(n:Ap mg):ya P w K mg base (cD P w) 1 f fd EK vv:=by
 refine F.okN xI (λvs H Q E h=>?_) (λFv A outer s H vs Q E hr h=>?_)
 ·obtain⟨x,T,rfl,_⟩:=h;rfl
 ·obtain⟨x,T,rfl,th,q⟩:=h
  refine⟨_,ax (aF (dA (aE aZ (by rfl) n.isi (by rfl) (cq (pv 0) (cq (cC (by rfl) n.int (by rfl) (show aG (.ty "int") (.type "int") from rfl)) ag)))
   (eJ (rB (aE aZ (by rfl) n.isi (by rfl) (cq (pv 0) (cq (cC (by rfl) n.bool (by rfl) (show aG (.ty "bool") (.type "bool") from rfl)) ag))))))),?_⟩
  refine⟨_,rfl,x,.ty "int",_,_,_,rfl,rfl,th.ty,th.isInt,_,rfl,?_⟩;refine cG (λhi=>?_) (λhi=>?_)
  ·refine⟨_,rfl,x,.ty "bool",_,_,_,rfl,rfl,th.ty,th.isBool hi,_,rfl,?_⟩;simpa using q
  ·have e:cg x=false:=by
    cases th <;> first|rfl|exact absurd rfl hi
   rw[e] at q;exact q
noncomputable abbrev sW:Stmt:=(bc 50)
noncomputable def vd:Sp:=λvs H Q _=>∃x o,vs=[x]/\PX H x o/\(∀xs,o=some xs->xs.length<60)/\∀H',aC H H'->Q (.bl (cJ o)) H'
theorem CG:CP EK EK (ar sW):=fe (by decide +kernel)
theorem ug:∀{ks:List Int},dY (ks.map V.int)=true->ks.Pairwise (· < ·)
 |[],_=>.nil
 |[k],_=>by simp
 |a::b::ks,h=>by
  unfold dY at h;have e:((a::b::ks).map V.int).zip (((a::b::ks).map V.int).drop 1)=(V.int a,V.int b):: (((b::ks).map V.int).zip (((b::ks).map V.int).drop 1)):=rfl;rw[e,Z3,Yy] at h;have ih:=ug (ks:=b::ks) h.2;have lt:a<b:=Zg h.1;refine YQ.mpr ⟨λx hx=>?_,ih⟩
  rcases Yn.mp hx with rfl|hx
  ·exact lt
  ·have:=(YQ.mp ih).1 x hx;omega
theorem CB (h:xs.all cg=true):∃ns:List Int,xs=ns.map V.int:=by
 induction xs with
 |nil=>exact⟨[],rfl⟩
 |cons x xs ih =>
  rw[Z3,Yy] at h;obtain⟨ns,rfl⟩:=ih h.2
  have:∃n,x=V.int n:=by
   have:=h.1
   cases x <;> first|exact⟨_,rfl⟩|cases this
  obtain⟨n,rfl⟩:=this;exact⟨n::ns,rfl⟩
theorem vz (h:xs.all cg=false):cJ (some xs)=false:=by
 show(xs.all oZ&&dY xs)=false
 cases e:xs.all oZ with
 |false=>rfl
 |true =>
  exfalso
  have:xs.all cg=true:=by
   rw[ZQ] at e |-;intro x hx;have:=e x hx
   cases x <;> first|rfl|cases this
  rw[this] at h
  cases h
theorem kj {α β:Type}{us:List α}{l:List β}{i:Nat}{x:β}{f:β->Bool}(e:l[i]?=some x)(h:us=[]↔(l.take i).all f=true):(f x=true->(us=[]↔(l.take (i+1)).all f=true))/\∀y:α,f x=false->(us++[y]=[]↔(l.take (i+1)).all f=true):=by
 have es:l.take (i+1)=l.take i++[x]:=by rw[YE,e];rfl
 rw[es,List.all_append];refine⟨λg=>?_,λy g=>?_⟩
 ·rw[h];simp[g]
 ·simp[g]
theorem lD {K:Frag}{H:Hp}{a:Addr}{ns:List Int}(h:H a=some (.lst (ns.map V.int))):aM K H (.lst (ns.map D.int)) (.ref a):=by
 unfold aM;exact⟨a,_,rfl,bo.of h,uj ns⟩
theorem yq (ns:List Int):iR (.lst (ns.map D.int))=1:=by unfold iR;rw[zY]
set_option maxHeartbeats 1000000 in
theorem Aa (F:ve K "_law_is_product" "_law_is_product" sW f fd)(Fs:mg "isinstance"=none)(Fu:mg "tuple"=none)(FA:mg "list"=none)(Fw:mg "sorted"=none)(Gf:mg "set"=none)
 (q0:Ca P w K mg base 1 EK "_law_whole" vv):ya P w K mg base (cD P w) 2 f fd EK vd:=by
 obtain⟨fw,Ki,FW,bW,mW,kW⟩:=q0;refine F.okN CG (λvs H Q E h=>?_) (λFv A outer s H vs Q E hr h=>?_)
 ·obtain⟨x,o,rfl,_⟩:=h;rfl
 ·obtain⟨x,o,rfl,px,hl,q⟩:=h;have FN:wa 1 _:=hr
  refine⟨_,(au (bF (PW.pt (dE (bN (bU (aE aZ (by rfl) Fs (by rfl) (aj (pv 0) (aj (cC (by rfl) Fu (by rfl) (show aG (.ty "tuple") (.type "tuple") from rfl)) ag rfl) rfl)))) (dD (aO (w8 FN) (bY (N:=["_law_place"]) (nl:=1) (js:=[]) (osc:=ar sW) ⟨rfl,rfl,by decide +kernel,by decide +kernel,by decide +kernel,rfl,.nil,by decide +kernel⟩ rfl
   (dy (pv 0))
   (λCq fq sq Hq=>aD (i:=0) (by show(["_law_place"]:Ez).Nodup;decide +kernel) rfl (Or.inl rfl) (Or.inr rfl))
   (λCq fq sq Hq=>(dG (bN (bU (aH FW FN (by rfl) mW kW bW .nil ao (aj (pv 0) ag rfl))))))
   (λCq fq sq Hq=>(pv 0))) (cE ag) (aV _))))) (ax (aF eE)) aS)
   (ax (aF (dA (cu (adC FN) (bt dM (by rfl) FA (by rfl) (aj (pv 0) ag rfl)) (kJ rfl (pv 0) rfl (by rfl) Fw (by rfl) Gf) (aV _)) (eJ (cu (oJ FN) (bY (N:=["_law_place"]) (nl:=1) (js:=[]) (osc:=ar sW) ⟨rfl,rfl,by decide +kernel,by decide +kernel,by decide +kernel,rfl,.nil,by decide +kernel⟩ rfl
    (dy (pv 0))
    (λCq fq sq Hq=>aD (i:=0) (by show(["_law_place"]:Ez).Nodup;decide +kernel) rfl (Or.inl rfl) (Or.inr rfl))
    (λCq fq sq Hq=>(dG (bN (aaj n4 ix ak (pv 0) ak))))
    (λCq fq sq Hq=>(pv 0))) (cE ag) (aV _))))))),?_⟩
  cases px with
  |@no x T th ne =>
   refine⟨_,rfl,x,.ty "tuple",_,_,_,rfl,rfl,th.ty,th.isTup,_,rfl,?_⟩;rw[Yu ne];exact bA (bA (q _ (aC.refl _)))
  |@tup a xs ha _ Ks =>
   have hl:=hl xs rfl;refine⟨_,rfl,.ref a,.ty "tuple",_,_,_,rfl,rfl,.of (.tup ha),rfl,_,rfl,b7 ?_⟩;refine⟨_,rfl,a,rfl,⟨_,aU.of ha⟩,?_⟩;refine dW (K:=K) (xs:=xs) (rest:=[]) (λi us H'=>H=H'/\us.length<=i/\(us=[]↔(xs.take i).all cg=true)) ⟨rfl,Ye _,by simp⟩ (λi us H' hi h=>?_) (λi x us H' N hi hx h k=>?_) (λus H' h=>?_)
   ·obtain⟨rfl,h2,_⟩:=h;exact⟨Yo h2 (Yo hi (YX hl (by decide))),aU.of ha⟩
   ·obtain⟨rfl,h2,h3⟩:=h;obtain⟨T,th⟩:=Ks x (YA hx);obtain⟨g1,g2⟩:=kj hx h3;refine⟨_,rfl,x,T,rfl,th,_,rfl,?_⟩
    cases ew:cg x with
    |true=>exact b7 (k _ _ ⟨rfl,by omega,g1 ew⟩)
    |false=>exact bA ⟨_,rfl,k _ _ ⟨rfl,by rw[Yw];show us.length+1<=i+1;omega,g2 x ew⟩⟩
   ·obtain⟨rfl,_,h3⟩:=h;rw[Yv] at h3;intro L hL;have v1:=aq (o:=.lst us) hL;have f1:upd H L (.lst us) L=some (.lst us):=ai;generalize upd H L _=Ha at v1 f1 |-;refine⟨Yt _,λL2 Kp=>?_⟩;have v2:=aq (o:=.lst []) Kp;have f2:upd Ha L2 (.lst []) L2=some (.lst []):=ai;generalize upd Ha L2 _=Hb at v2 f2 |-;refine⟨L,L2,us,rfl,rfl,bo.of (v2 _ _ f1),bo.of f2,_,rfl,?_⟩;have v:=v1.trans v2
    cases ew:xs.all cg with
    |false =>
     have ne:us≠[]:=λz=>by rw[h3.mp z] at ew;cases ew
     rw[Yu ne];refine bA ?_;have:=q Hb v;rw[vz ew] at this;exact this
    |true =>
     have e0:us=[]:=h3.mpr ew;rw[YD e0];refine b7 ?_;obtain⟨ns,rfl⟩:=CB ew;rw[Yg] at hl;have ha:=v _ _ ha;refine⟨_,rfl,a,_,rfl,.inr (aU.of ha),λL3 KO=>?_⟩;have v3:=aq (o:=.lst (ns.map V.int)) KO;have f3:upd Hb L3 (.lst (ns.map V.int)) L3=some (.lst (ns.map V.int)):=ai;generalize upd Hb L3 _=Hc at v3 f3 |-;refine⟨_,rfl,a,ns,rfl,.inr (aU.of (v3 _ _ ha)),by omega,λL4 ms G6 up mem=>?_⟩;have v4:=aq (o:=.lst (ms.map V.int)) G6;have f4:upd Hc L4 (.lst (ms.map V.int)) L4=some (.lst (ms.map V.int)):=ai;generalize upd Hc L4 _=Hd at v4 f4 |-;refine⟨.lst (ns.map D.int),.lst (ms.map D.int),lD (v4 _ _ f3),lD f4,by rw[yq];decide,?_⟩;have ed:gZ (.lst (ns.map D.int)) (.lst (ms.map D.int))=decide (ns=ms):=j8 ns ms;rw[ed];have V4:=v.trans (v3.trans v4)
     by_cases en:ns=ms
     ·rw[YD en];refine⟨true,rfl,bA ?_⟩;have q:∀H',aC H H'->Q (.bl ((ns.map V.int).all oZ&&dY (ns.map V.int))) H':=q;rw[nQ (by rw[en];exact up),Bool.and_true] at q;have ha:=(v3.trans v4) _ _ ha;refine⟨_,rfl,a,rfl,⟨_,aU.of ha⟩,?_⟩;refine dW (K:=K) (xs:=ns.map V.int) (rest:=[]) (λi us H'=>Hd=H'/\us.length<=i/\(us=[]↔((ns.map V.int).take i).all oZ=true)) ⟨rfl,Ye _,by simp⟩ (λi us H' hi h=>?_) (λi x us H' N hi hx h k=>?_) (λus H' h=>?_)
      ·obtain⟨rfl,h2,_⟩:=h;rw[Yg] at hi;exact⟨Yo h2 (Yo hi (YX hl (by decide))),aU.of ha⟩
      ·obtain⟨rfl,h2,h3⟩:=h;obtain⟨g1,g2⟩:=kj hx h3;rw[YU] at hx;obtain⟨m,em,rfl⟩:=YH.mp hx;have no:oZ (.int m)=false->N (us++[.int m]) Hd:=λz=>k _ _ ⟨rfl,by rw[Yw];show us.length+1<=i+1;omega,g2 _ z⟩;refine⟨_,rfl,_,_,rfl,rfl,_,rfl,?_⟩;refine cG (λh=>?_) (λh=>?_)
       ·have h':decide (0<=m)=true:=h;refine⟨_,_,rfl,rfl,_,rfl,?_⟩
        cases e6:decide (m<60) with
        |true=>exact b7 (k _ _ ⟨rfl,by omega,g1 (by show(decide (0<=m)&&decide (m<60))=true;rw[h',e6];rfl)⟩)
        |false=>exact bA ⟨_,rfl,no (by show(decide (0<=m)&&decide (m<60))=false;rw[h',e6];rfl)⟩
       ·have h':decide (0<=m)=false:=by simpa using h
        refine⟨_,rfl,?_⟩;exact bA ⟨_,rfl,no (by show(decide (0<=m)&&decide (m<60))=false;rw[h'];rfl)⟩
      ·obtain⟨rfl,_,h3⟩:=h;rw[Yv] at h3;intro L5 OB;have v5:=aq (o:=.lst us) OB;have f5:upd Hd L5 (.lst us) L5=some (.lst us):=ai;generalize upd Hd L5 _=He at v5 f5 |-;refine⟨Yt _,λL6 JO=>?_⟩;have v6:=aq (o:=.lst []) JO;have f6:upd He L6 (.lst []) L6=some (.lst []):=ai;generalize upd He L6 _=Hf at v6 f6 |-;refine⟨L5,L6,us,rfl,rfl,bo.of (v6 _ _ f5),bo.of f6,?_⟩
       have e:decide (us=[])=(ns.map V.int).all oZ:=by
        rw[ZL,C2];exact h3
       rw[e];exact q _ (V4.trans (v5.trans v6))
     ·rw[Yu en];refine⟨false,rfl,b7 ?_⟩
      have e:cJ (some (ns.map V.int))=false:=by
       show((ns.map V.int).all oZ&&dY (ns.map V.int))=false
       cases er:dY (ns.map V.int) with
       |false=>rw[Bool.and_false]
       |true=>exact absurd (nU (ug er) up λz=>(mem z).symm) en
      have:=q Hd V4;rw[e] at this;exact this
noncomputable abbrev wq:Stmt:=(bc 51)
noncomputable def wc (o:Option (Option (List V)×Option (List V))):Prop:=∀oy oz,o=some (oy,oz)->(∀xs,oy=some xs->xs.length<60)/\∀xs,oz=some xs->xs.length<60
noncomputable def wG:Sp:=λvs H Q _=>∃x o,vs=[x]/\BX H x o/\wc o/\∀H',aC H H'->Q (.bl (En o)) H'
theorem Ci:CP EK EK (ar wq):=fe (by decide +kernel)
theorem dI (k:Int)(ns:List Int):fW (.int k) (ns.map V.int)=decide (k∈ns):=by
 unfold fW;rw[qo,ZL,ZC,C2];constructor
 ·rintro⟨x,hx,e⟩;have e:(x==k)=true:=e;rw[<-eq_of_beq e];exact hx
 ·intro h;exact⟨k,h,(by show(k==k)=true;simp)⟩
set_option maxHeartbeats 1000000 in
theorem zp (F:ve K "_law_is_bracket" "_law_is_bracket" wq f fd)(Fs:mg "isinstance"=none)(Fu:mg "tuple"=none)(Fz:mg "len"=none)
 (q0:Ca P w K mg base 2 EK "_law_is_product" vd):ya P w K mg base (cD P w) 3 f fd EK wG:=by
 obtain⟨fp,Kr,FP,bP,mP,kP⟩:=q0;refine F.okN Ci (λvs H Q E h=>?_) (λFv A outer s H vs Q E hr h=>?_)
 ·obtain⟨x,o,rfl,_⟩:=h;rfl
 ·obtain⟨x,o,rfl,bx,sh,q⟩:=h;have GL:wa 2 _:=hr
  refine⟨_,(au (bF (PW.pt (dE (bN (bU (aE aZ (by rfl) Fs (by rfl) (aj (pv 0) (aj (cC (by rfl) Fu (by rfl) (show aG (.ty "tuple") (.type "tuple") from rfl)) ag rfl) rfl)))) (dD (aO fY (aE bH (by rfl) Fz ZU (aj (pv 0) ag rfl)) ak (aV _))))) (ax (aF eE)) aS)
   (au (bF (PW.pt (dE (bN (bU (aH FP GL (by rfl) mP kP bP .nil ao (aj (aY (i9 (K:=K) rfl) (pv 0) ak (λ_ _=>rfl)) ag rfl)))) (dD (bN (bU (aH FP GL (by rfl) mP kP bP .nil ao (aj (aY (i9 (K:=K) rfl) (pv 0) ak (λ_ _=>rfl)) ag rfl))))))) (ax (aF eE)) aS)
   (ax (aF (cu (oJ GL) (bY (N:=["_law_place","_law_thing"]) (nl:=1) (js:=[0]) (osc:=ar wq) ⟨rfl,rfl,by decide +kernel,by decide +kernel,by decide +kernel,rfl,(.cons ⟨rfl,by decide +kernel⟩ .nil),by decide +kernel⟩ rfl
    (dy (aY (i9 (K:=K) rfl) (pv 0) ak (λ_ _=>rfl)))
    (λCq fq sq Hq=>aD (i:=0) (by show(["_law_place","_law_thing"]:Ez).Nodup;decide +kernel) rfl (Or.inl rfl) (Or.inr rfl))
    (λCq fq sq Hq=>(dG (aO (show eA _ _ (yC K false) from gy) (pv 0) (aY (i9 (K:=K) rfl) (pv 1) ak (λ_ _=>rfl)) (by rfl))))
    (λCq fq sq Hq=>(pv 0))) (cE ag) (aV _)))))),?_⟩
  cases bx with
  |@no x T th ne =>
   refine⟨_,rfl,x,.ty "tuple",_,_,_,rfl,rfl,th.ty,th.isTup,_,rfl,?_⟩;rw[Yu ne];exact bA (bA (q _ (aC.refl _)))
  |@odd a xs ha hl =>
   refine⟨_,rfl,.ref a,.ty "tuple",_,_,_,rfl,rfl,.of (.tup ha),rfl,_,rfl,b7 ?_⟩;refine⟨_,rfl,a,xs,rfl,.inr (aU.of ha),rfl,_,rfl,?_⟩
   have e:(!decide (V.int (xs.length:Int)=V.int 2))=true:=by
    rw[Z1,Zn];intro z
    injection z with z
    omega
   rw[e];exact bA (q _ (aC.refl _))
  |@two a y z oy oz ha py pz =>
   have q:∀H',aC H H'->Q (.bl (cJ oy&&(cJ oz&&!((oz.getD []).any λy=>fW y (oy.getD []))))) H':=q;obtain⟨sy,sz⟩:=sh oy oz rfl;refine⟨_,rfl,.ref a,.ty "tuple",_,_,_,rfl,rfl,.of (.tup ha),rfl,_,rfl,b7 ?_⟩;refine⟨_,rfl,a,[y,z],rfl,.inr (aU.of ha),rfl,_,rfl,b7 ?_⟩;refine⟨_,rfl,a,_,0,y,rfl,rfl,aU.of ha,rfl,y,oy,rfl,py,sy,λH1 s1=>⟨_,rfl,?_⟩⟩
   cases ey:cJ oy with
   |false=>exact bA (bA (by
    have:=q H1 s1;rw[ey] at this
    exact this))
   |true =>
    refine b7 ?_;refine⟨_,rfl,a,_,1,z,rfl,rfl,aU.of (s1 _ _ ha),rfl,z,oz,rfl,pz.same s1,sz,λH2 s2=>⟨_,rfl,?_⟩⟩;have Gz:=s1.trans s2
    cases ez:cJ oz with
    |false=>exact bA (by
     have:=q H2 Gz;rw[ey,ez] at this
     exact this)
    |true =>
     refine b7 ?_;obtain⟨ks,rfl⟩:=gA ey;obtain⟨ms,rfl⟩:=gA ez;rw[ey,ez] at q
     have lk:ks.length<60:=by have:=sy _ rfl;rwa[Yg] at this
     cases py with
     |@tup ay _ Ir _ _ =>
     cases pz with
     |@tup az _ Iu _ _ =>
     have Ir:=Gz _ _ Ir;have Iu:=Gz _ _ Iu;have Hs:=Gz _ _ ha;refine⟨_,rfl,a,_,0,.ref ay,rfl,rfl,aU.of Hs,rfl,ay,rfl,⟨_,aU.of Ir⟩,?_⟩;refine dW (K:=K) (xs:=ks.map V.int) (rest:=[some (.ref a)]) (λi us H'=>H2=H'/\us.length<=i/\(us=[]↔((ks.map V.int).take i).all (λx=>!fW x (ms.map V.int))=true)) ⟨rfl,Ye _,by simp⟩ (λi us H' hi h=>?_) (λi x us H' N hi hx h k=>?_) (λus H' h=>?_)
     ·obtain⟨rfl,h2,_⟩:=h;rw[Yg] at hi;exact⟨Yo h2 (Yo hi (YX lk (by decide))),aU.of Ir⟩
     ·obtain⟨rfl,h2,h3⟩:=h;obtain⟨g1,g2⟩:=kj (f:=λx=>!fW x (ms.map V.int)) hx h3;rw[YU] at hx;obtain⟨m,em,rfl⟩:=YH.mp hx;refine⟨_,rfl,_,rfl,a,_,1,.ref az,rfl,rfl,aU.of Hs,rfl,az,_,rfl,.inr (aU.of Iu),rfl,c9 ms,_,rfl,?_⟩
      cases e:fW (.int m) (ms.map V.int) with
      |true=>exact bA ⟨_,rfl,k _ _ ⟨rfl,by rw[Yw];show us.length+1<=i+1;omega,g2 _ (by show(!fW (.int m) (ms.map V.int))=false;rw[e];rfl)⟩⟩
      |false=>exact b7 (k _ _ ⟨rfl,by omega,g1 (by show(!fW (.int m) (ms.map V.int))=true;rw[e];rfl)⟩)
     ·obtain⟨rfl,_,h3⟩:=h;rw[Yv] at h3;intro L5 OB;have v5:=aq (o:=.lst us) OB;have f5:upd H2 L5 (.lst us) L5=some (.lst us):=ai;generalize upd H2 L5 _=He at v5 f5 |-;refine⟨Yt _,λL6 JO=>?_⟩;have v6:=aq (o:=.lst []) JO;have f6:upd He L6 (.lst []) L6=some (.lst []):=ai;generalize upd He L6 _=Hf at v6 f6 |-;refine⟨L5,L6,us,rfl,rfl,bo.of (v6 _ _ f5),bo.of f6,?_⟩
      have e:decide (us=[])=(true&&(true&&!(((some (ms.map V.int)).getD []).any λy=>fW y ((some (ks.map V.int)).getD [])))):=by
       rw[ZL,C2,h3,Zr,Zr,Option.getD_some,Option.getD_some,Z9,qo,ZQ,Z1,EJ];constructor
       ·intro g x hx z;have z:fW (.int x) (ks.map V.int)=true:=z;rw[dI,C2] at z;have y:=g x z;have y:(!fW (.int x) (ms.map V.int))=true:=y;rw[dI,YD hx] at y
        cases y
       ·intro g x hx;show(!fW (.int x) (ms.map V.int))=true;rw[dI,Z1,Zn];intro z;refine g x z ?_;show fW (.int x) (ks.map V.int)=true;rw[dI];exact YD hx
      rw[e];exact q _ (Gz.trans (v5.trans v6))
noncomputable abbrev tU:Stmt:=(bc 46)
theorem xZ:CP vk vk (ar tU):=fe (by decide +kernel)
theorem vy (F:ve K "_law_times" "_law_times" tU f fd)(q0:Ca P w K mg base 2 ER "_law_make" EA):
 ya P w K mg base (cD P w) 3 f fd vk (nO mD):=by
 obtain⟨fl,Kj,FL,bL,mL,kL⟩:=q0;refine F.okN xZ (λvs H Q E h=>?_) (λFv A outer s H vs Q E hr h=>?_)
 ·obtain⟨p,t1,b1,t2,b2,x1,x2,rfl,_⟩:=h;rfl
 ·obtain⟨p,t1,b1,t2,b2,x1,x2,rfl,hp,h1,h2,B1,B2,B3,B4,n1,n2,hb,q⟩:=h;refine⟨_,ax (aF (aH FL hr (by rfl) mL kL bL .nil ao (aj (pv 0) (aj (aK dH (aY bJ (pv 1) ak (λ_ _=>rfl)) (aY bJ (pv 2) ak (λ_ _=>rfl))) (aj (aK dH (aY bJ (pv 1) ak (λ_ _=>rfl)) (aY bJ (pv 2) ak (λ_ _=>rfl))) ag))))),?_⟩;refine⟨_,rfl,?_⟩;refine⟨_,rfl,x1,_,0,_,rfl,rfl,aU.of h1,a0 _ _,_,rfl,x2,_,0,_,rfl,rfl,aU.of h2,a0 _ _,_,_,rfl,rfl,⟨B1.mono (by decide),B3.mono (by decide)⟩,?_⟩;refine⟨_,rfl,x1,_,1,_,rfl,rfl,aU.of h1,a1 _ _,_,rfl,x2,_,1,_,rfl,rfl,aU.of h2,a1 _ _,_,_,rfl,rfl,⟨B2.mono (by decide),B4.mono (by decide)⟩,?_⟩;exact⟨p,_,_,rfl,hp,rg n1 n2,(B2.mul B4).mono (by decide),(B1.mul B3).mono (by decide),hb,q⟩
end K44
namespace L2
open PySem PySem.Spec PyProof.Rows
section
variable {prog:yo}{w:World}{A:Around}{E:pH}{s:Bi}
theorem yw {t b:Addr}{ws:nN}{Q:pH}(ht:IsTup s.heap t #[])(hb:IsTup s.heap b ws.toArray)(h:Q (.ref b) s):wpAny (model prog w) A (binaryOp .Add (.ref t) (.ref b)) Q E s:=by
 obtain⟨⟨cls,dd,data,sl⟩,ho,hc,n,hd⟩:=id ht;obtain⟨⟨IQ,HJ,data2,GU⟩,GF,Gq,n2,hd2⟩:=id hb;simp only at hc hd Gq hd2;subst hc hd Gq hd2
 exact BJ ⟨_,ho,rfl⟩ ⟨_,GF,rfl⟩ qI kX uQ DU (C3 _ _)
  (tuple_addW0 t b #[] ws.toArray n n2 dd HJ sl GU (by rfl)) ⟨ho,GF,h⟩
end
section
variable {X:Cx}
noncomputable def A7 (K:PySem.W.Frag):R2:=λx y H Q=>∃a b xs ys,x=.ref a/\y=.ref b/\aU K H a xs/\aU K H b ys/\xs.length+ys.length<=sizeLine /\
 (xs=[]->Q (.ref b) H)/\(xs≠[]->ys=[]->Q (.ref a) H)/\(xs≠[]->ys≠[]->∀p,H p=none->Q (.ref p) (upd H p (.tup (xs++ys))))
theorem yN:eA X (binaryOp .Add) (A7 X.K):=by
 intro pins s σ H x y v u Q I rx ry h;obtain⟨a,b,xs,ys,rfl,rfl,ha,hb,hz,q0,q1,q2⟩:=h
 by_cases hx:xs=[]
 ·cases rx
  cases ry
  obtain⟨its,r1,p1,_⟩:=I.tuple ha;obtain⟨Fx,r2,p2,_⟩:=I.tuple hb;have:its=[]:=r1.ac3.mpr hx;subst this;exact yw p1 p2 ⟨.ref b,H,I,rfl,q0 hx⟩
 ·exact ur pins s σ H _ _ v u Q I rx ry ⟨a,b,xs,ys,rfl,rfl,ha,hb,hx,hz,q1 hx,q2 hx⟩
end
end L2
namespace K44
open PySem L2 PySem.W Nm Srt
noncomputable abbrev Fh:Stmt:=(bc 48)
noncomputable def Ef (t:Tm):Prop:=t.1.Pairwise (· < ·)/\t.1.length<32
noncomputable def yY:Sp:=λvs H Q _=>∃(p:Int)(la lb:Addr)(ys us:List V)(a b:List Tm),vs=[.int p,.ref la,.ref lb]/\FP p/\H la=some (.lst ys)/\bp H ys a/\H lb=some (.lst us)/\bp H us b/\a.length*b.length<4000 /\
 (∀t∈a,Gn p 4000 t.2/\Ef t)/\(∀t∈b,Gn p 4000 t.2/\Ef t)/\Ar p (eX p a b)/\∀H' D zs,aC H H'->H' D=some (.lst zs)->bp H' zs (tg p (eX p a b))->Q (.ref D) H'
theorem rT:CP ["_law_prime","_law_one","_law_other","_law_found","_law_product","_law_number","_law_more","_law_factor","_law_both"] vk (ar Fh):=fe (by decide +kernel)
variable {K:Frag}{H:Hp}
theorem yI {a b:Addr}{xs ys:List V}{Q:VK}(ha:H a=some (.tup xs))(hb:H b=some (.tup ys))(hz:xs.length+ys.length<=sizeLine)(q:∀l H',aC H H'->H' l=some (.tup (xs++ys))->Q (.ref l) H'):A7 K (.ref a) (.ref b) H Q :=
 ⟨a,b,xs,ys,rfl,rfl,aU.of ha,aU.of hb,hz,λh=>q b H (aC.refl _) (by rw[hb,h];rfl),λ_ h=>q a H (aC.refl _) (by rw[ha,h,Zc]),λ_ _ l hl=>q l _ (aq hl) ai⟩
theorem uW (p:Int)(a b:List Tm)(x:Tm):eX p (a++[x]) b=eX p a b++b.map λy=>(fP (x.1++y.1),lh p x.2 y.2):=by simp[eX]
theorem pf (p:Int)(a b:List Tm):(eX p a b).length=a.length*b.length:=by
 unfold eX;rw[List.length_flatMap];simp only[Yg];rw[List.map_const',List.sum_replicate_nat]
variable {P:yo}{w:World}{K:PySem.W.Frag}{mg:u9}{base:Heap}
set_option maxHeartbeats 1000000 in
theorem wJ {f:Addr}{fd:BG}(F:ve K "_law_mult" "_law_mult" Fh f fd)(Fu:mg "tuple"=none)(Fw:mg "sorted"=none)(Gf:mg "set"=none)
 (q0:Ca P w K mg base 3 vk "_law_times" (nO mD))
 (q1:Ca P w K mg base 4 Dc "_law_gather" vE):
 ya P w K mg base (cD P w) 5 f fd vk yY:=by
 obtain⟨fm,Ox,FM,bM,mM,kM⟩:=q0;obtain⟨fg,N0,FG,bG,mG,kG⟩:=q1;refine F.okN rT (λvs H Q E h=>?_) (λFv A outer s H vs Q E hr h=>?_)
 ·obtain⟨p,la,lb,ys,us,a,b,rfl,_⟩:=h;rfl
 ·obtain⟨p,la,lb,ys,us,a,b,rfl,hp,Rw,Rx,Ry,Rz,Ii,ga,gb,G,q⟩:=h;have GW:wa 4 _:=hr;have GZ:wa 3 _:=GW.mono (by decide)
  refine⟨_,(au (@aX _ _ 3 _ _ _ _ rT.nd rfl (Or.inl rfl) (cE ag) rfl (Or.inl rfl))
   (au (dU Y4 rfl (dN (pv 1)) (cY rfl (aN (aD (i:=4) rT.nd rfl (Or.inl rfl)) (aN (aD (i:=5) rT.nd rfl (Or.inl rfl)) cp)))
   (ax (dU Y4 rfl (dN (pv 2)) (cY rfl (aN (aD (i:=6) rT.nd rfl (Or.inl rfl)) (aN (aD (i:=7) rT.nd rfl (Or.inl rfl)) cp)))
   (au (@aX _ _ 8 _ _ _ _ rT.nd rfl (Or.inl rfl) (bt dh (by rfl) Fu (by rfl) (aj (kJ rfl (aK yN (pv 4) (pv 6)) rfl (by rfl) Fw (by rfl) Gf) ag rfl)) rfl (Or.inl rfl))
   (ax (Gth (aax PySem.F.plainAttrs_list PySem.F.slot_list_append PySem.F.type_list_append aaE (pv 3) (aj (aJ (aj (pv 8) (aj (aH FM GZ (by rfl) mM kM bM .nil ao (aj (pv 0) (aj (pv 5) (aj (pv 7) ag rfl) rfl) rfl)) ag rfl) rfl)) ag rfl))))))))
   (ax (aF (aH FG GW (by rfl) mG kG bG .nil ao (aj (pv 0) (aj (pv 3) ag rfl) rfl)))))),?_⟩
  refine⟨Yt _,λL hL=>?_⟩;have s1:=aq (o:=.lst []) hL;have e1:upd H L (.lst []) L=some (.lst []):=ai;generalize upd H L _=H1 at s1 e1 |-;have za:=Rx.length;have zb:=Rz.length;refine⟨_,rfl,la,rfl,⟨_,bo.of (s1 _ _ Rw)⟩,?_⟩;refine ik (K:=K) (a:=la) (xs:=ys) (λi σ H'=>aC H H'/\(∃ws,H' L=some (.lst ws)/\bp H' ws (eX p (a.take i) b))/\∃o4 o5 o6 o7 o8,σ=[some (.int p),some (.ref la),some (.ref lb),some (.ref L),o4,o5,o6,o7,o8]) ⟨s1,⟨[],e1,.nil⟩,_,_,_,_,_,rfl⟩ (λj σ H' _ h=>bo.of (h.1 _ _ Rw)) ?_ ?_
  ·rintro i y σ H2 hy ⟨s2,⟨ws,eL,hw⟩,o4,o5,o6,o7,o8,rfl⟩;obtain⟨x,ex,at_,pr,nu,rfl,Ja,Gd,Gw⟩:=bK Rx hy;have gx:=ga x (YA ex);have hi:i<a.length:=(YO.mp ex).1
   have F5:a.take (i+1)=a.take i++[x]:=by rw[YE,ex];rfl
   refine⟨at_,_,rfl,aU.of (s2 _ _ Ja),rfl,_,_,rfl,_,_,rfl,rfl,?_⟩;refine⟨_,rfl,lb,rfl,⟨_,bo.of (s2 _ _ Ry)⟩,?_⟩;refine ik (K:=K) (a:=lb) (xs:=us) (λj σ H'=>aC H H'/\(∃ws,H' L=some (.lst ws)/\bp H' ws (eX p (a.take i) b++(b.take j).map λy=>(fP (x.1++y.1),lh p x.2 y.2)))/\∃o6 o7 o8,σ=[some (.int p),some (.ref la),some (.ref lb),some (.ref L),some (.ref pr),some (.ref nu),o6,o7,o8]) ⟨s2,⟨ws,eL,by simpa using hw⟩,_,_,_,rfl⟩ (λj σ H' _ h=>bo.of (h.1 _ _ Ry)) ?_ ?_
   ·rintro j y σ H3 hy ⟨s3,⟨ws,eL,hw⟩,o6,o7,o8,rfl⟩;obtain⟨z,ez,at2,XS,UW,rfl,OC,OD,OE⟩:=bK Rz hy;have gz:=gb z (YA ez);have hj:j<b.length:=(YO.mp ez).1
    have OF:b.take (j+1)=b.take j++[z]:=by rw[YE,ez];rfl
    refine⟨at2,_,rfl,aU.of (s3 _ _ OC),rfl,_,_,rfl,_,_,rfl,rfl,?_⟩
    have Gk:(x.1.map V.int).length+(z.1.map V.int).length<64:=by
     rw[Yg,Yg];have:=gx.2.2;have:=gz.2.2;omega
    refine⟨_,rfl,_,rfl,yI (s3 _ _ Gd) (s3 _ _ OD) (Yq (Zi Gk) (by decide)) λl H4 s4 el=>?_⟩;refine⟨l,x.1++z.1,rfl,.inr (aU.of (by rw[el,Y2])),(by rw[Yw];simpa using Gk),λD ms hD pw mem=>?_⟩;have em:ms=fP (x.1++z.1):=qU pw mem;subst em;refine⟨D,_,rfl,.inl ⟨bo.of ai,λtu RA=>?_⟩⟩;have s5:=(aq (o:=.lst ((fP (x.1++z.1)).map V.int)) hD).trans (aq (o:=.tup ((fP (x.1++z.1)).map V.int)) RA);have e5:upd (upd H4 D (.lst ((fP (x.1++z.1)).map V.int))) tu (.tup ((fP (x.1++z.1)).map V.int)) tu=some (.tup ((fP (x.1++z.1)).map V.int)):=ai;generalize upd (upd H4 D (.lst ((fP (x.1++z.1)).map V.int))) tu (.tup ((fP (x.1++z.1)).map V.int))=H5 at s5 e5 |-;have KP:=s4.trans s5;have OG:=s3.trans KP;have RB:=KP _ _ eL;clear hD RA;refine⟨_,rfl,.inl ⟨rfl,_,bo.of RB⟩,_,rfl,_,rfl,_,rfl,_,rfl,p,x.2.1,x.2.2,z.2.1,z.2.2,nu,UW,rfl,hp,OG _ _ Gw,OG _ _ OE,gx.1.2.1,gx.1.2.2,gz.1.2.1,gz.1.2.2,gx.1.ne,gz.1.ne,(λw=>by rw[(gx.1.1.pr w).1,(gz.1.1.pr w).1];rfl),λH6 an s6 e6=>?_⟩;refine⟨hJ,λtt Od=>?_⟩;have s7:=aq (o:=.tup [.ref tu,.ref an]) Od;have e7:upd H6 tt (.tup [.ref tu,.ref an]) tt=some (.tup [.ref tu,.ref an]):=ai;generalize upd H6 tt _=H7 at s7 e7 |-;have Nk:=s6.trans s7;have RC:=Nk _ _ RB
    have wl:ws.length<4000:=by
     rw[hw.length,Yw,pf,Yg,Y8,Y8]
     have h1:min i a.length=i:=by omega
     have h2:min j b.length=j:=by omega
     rw[h1,h2];have h3:(i+1)*b.length<=a.length*b.length:=Nat.mul_le_mul_right _ (by omega);rw[Nat.succ_mul] at h3;omega
    refine⟨L,ws,.ref tt,rfl,rfl,RC,Ys wl (by decide),?_⟩
    have kL:aI H7 (upd H7 L (.lst (ws++[.ref tt]))):=aI.upd λxs w=>by rw[RC] at w;cases w
    have UX:aI H3 H7:=aI.of (KP.trans Nk);refine⟨λc u e=>?_,⟨_,ai,?_⟩,_,_,_,rfl⟩
    ·rw[aA (aB e hL)];exact Nk _ _ (OG _ _ e)
    ·rw[OF,Y2,<-qK];exact uU (bp.keep hw (UX.trans kL)) ⟨tt,tu,an,rfl,kL _ _ e7,kL _ _ (Nk _ _ e5),kL _ _ (s7 _ _ e6)⟩
   ·rintro σ H3 ⟨s3,⟨ws,eL,hw⟩,o6,o7,o8,rfl⟩;refine⟨s3,⟨ws,eL,?_⟩,_,_,_,_,_,rfl⟩;rw[F5,uW];rw[zb,Yv] at hw;exact hw
  ·rintro σ H2 ⟨s2,⟨ws,eL,hw⟩,o4,o5,o6,o7,o8,rfl⟩;rw[za,Yv] at hw;exact⟨_,rfl,_,rfl,L,p,ws,_,rfl,hp,eL,hw,G,λH' D zs s3 hD hz=>q H' D zs (s2.trans s3) hD hz⟩
noncomputable abbrev j6:Stmt:=(bc 53)
structure Du (ts:List Tm)(n:Nat):Prop where
 cd:∀t∈ts,Cd 0 1 32 t.2
 up:∀t∈ts,t.1.Pairwise (· < ·)
 pl:Pl ts
 len:ts.length<=n
variable {p:Int}
theorem sS {raw:List Tm}{t:Tm}(h:t∈tg p raw):∃x∈raw,t.1=x.1:=by
 have fk:∀(ts d:List Tm)(e:Tm),e∈ts.foldl (cK p) d->(∃x∈d,e.1=x.1)\/∃x∈ts,e.1=x.1:=by
  intro ts
  induction ts with
  |nil=>exact λd e he=>.inl ⟨e,he,rfl⟩
  |cons t ts ih =>
   intro d e he
   rcases ih _ e he with⟨x,hx,e1⟩|⟨x,hx,e1⟩
   ·unfold cK at hx
    split at hx
    ·obtain⟨y,hy,rfl⟩:=YG.mp hx;refine .inl ⟨y,hy,?_⟩;rw[e1]
     split <;> rfl
    ·rcases YI.mp hx with hx|hx
     ·exact .inl ⟨x,hx,e1⟩
     ·have:x=t:=by simpa using hx
      exact .inr ⟨t,Yl,by rw[e1,this]⟩
   ·exact .inr ⟨x,Yi _ hx,e1⟩
 rcases fk raw [] t (Y7.mp ((eU _).mem_iff.mp h)).1 with⟨x,hx,_⟩|⟨x,hx,e⟩
 ·exact nomatch hx
 ·exact⟨x,hx,e⟩
theorem BS {raw:List Tm}:(tg p raw).length<=raw.length:=by
 have fk:∀(ts d:List Tm),(ts.foldl (cK p) d).length<=d.length+ts.length:=by
  intro ts
  induction ts with
  |nil=>exact λd=>Ye _
  |cons t ts ih =>
   intro d;have h1:=ih (cK p d t);have h2:=oF (p:=p) (d:=d) (t:=t);rw[YC];show(ts.foldl (cK p) (cK p d t)).length<=_;omega
 rw[(eU (aW p raw)).length_eq];refine Yq (Zx _ _) ?_;have:=fk raw [];rw[vK,zO] at this;exact this
theorem xO {ks ms:List Int}(h:Br ks ms)(i:Nat)(hi:i<=ms.length):Du (tg 0 (gD [(ks,(1,1))] (ms.take i))) (2^i):=by
 have nd:=f9 h.mu;have bk:=Bk.take i nd h.bk
 have ln:(gD [(ks,(1,1))] (ms.take i)).length=2^i:=by
  rw[jv,Y8,uC hi];show 1*2^i=2^i;omega
 have l5:2^i<=32:=Yq (ZG (by decide) (Yq hi h.ml)) (by decide)
 have pl:Pl (gD [(ks,(1,1))] (ms.take i)):=Pl.br (λk hk=>h.mp k (Zq hk)) λt ht j hj=>by
  have:t=(ks,(1,1)):=by simpa using ht
  rw[this] at hj;exact h.kp j hj
 generalize gD [(ks,(1,1))] (ms.take i)=ts at bk ln pl |-;refine⟨λt ht=>?_,λt ht=>?_,λt ht=>?_,by rw[<-ln];exact BS⟩
 ·refine(Dh (p:=0) (D:=1) (N:=1) (.inl rfl) (by decide) (λu hu=>?_) t ht).mono (by rw[ln];omega)
  rcases(bk u hu).1 with e|e
  ·rw[e];exact⟨(dB (.inl rfl)).1,λ_=>⟨1,by decide,by decide⟩⟩
  ·rw[e];exact⟨(dB (.inr rfl)).1,λ_=>⟨1,by decide,by decide⟩⟩
 ·obtain⟨x,hx,e⟩:=sS ht;rw[e];exact(bk x hx).2.1
 ·obtain⟨x,hx,e⟩:=sS ht;rw[e];exact pl x hx
section
variable {p:Int}{ts:List Tm}
theorem AK (hp:FP p)(h:cb p ts):tg p (tg p ts)=tg p ts:=by
 obtain⟨A,i,v,V⟩:=hp.v;exact AB V hp.nn (hp.tn h) h λF=>BA V hp.nn h F
end
theorem y8 (ks:List Int):tg 0 [(ks,(1,1))]=[(ks,(1,1))]:=by
 have e:aW 0 [(ks,(1,1))]=[(ks,(1,1))]:=by simp[aW,cK]
 show eu (aW 0 [(ks,(1,1))])=_;rw[e];rfl
theorem lC:∀(ms:List Int)(ts:List Tm)(k:Int),jg ts (ms++[k])=tg 0 (eX 0 (jg ts ms) (fM k))
 |[],_,_=>rfl
 |m::ms,ts,k=>lC ms _ k
theorem t7:∀(ms:List Int)(ts:List Tm),cb 0 ts->tg 0 ts=ts->tg 0 (jg ts ms)=jg ts ms
 |[],ts,_,e=>e
 |k::ms,ts,h,e=>by
  have hm:=j9 (p:=0) (by decide) h (iy k);exact t7 ms _ (FP.tn (.inl rfl) hm) (AK (.inl rfl) hm)
theorem wH {ks ms:List Int}(h:Br ks ms)(i:Nat):jg [(ks,(1,1))] (ms.take i)=tg 0 (gD [(ks,(1,1))] (ms.take i)):=by
 have bk:Bk (ms.take i) [(ks,(1,1))]:=λt ht=>let⟨a,b,c⟩:=h.bk t ht;⟨a,b,λk hk=>c k (Zq hk)⟩;have e:=Ct ((f9 h.mu).sublist (CW i ms)) bk bk.num λV F=>rfl;rw[e,t7 _ _ bk.num (y8 ks)]
theorem BM {us:List Tm}{n:Nat}{k:Int}(h:Du us n)(hn:n<=16):Ar 0 (eX 0 us (fM k))/\(eX 0 us (fM k)).length=us.length*2:=by
 have l:(eX 0 us (fM k)).length=us.length*2:=pf 0 us (fM k);refine⟨Ar.of (m:=16) (.inl rfl) (by have:=h.len;omega) (λt ht=>?_) (by have:=h.len;omega) (by decide),l⟩;obtain⟨x,hx,ht⟩:=List.mem_flatMap.mp ht;obtain⟨y,hy,rfl⟩:=YG.mp ht
 have cy:Cd 0 1 1 y.2:=by
  have:y=([],(1,1))\/y=([k],(-1,1)):=by simpa using hy
  rcases this with rfl|rfl
  ·exact⟨(dB (.inl rfl)).1,λ_=>⟨1,rfl,ZY 1⟩⟩
  ·exact⟨(dB (.inr rfl)).1,λ_=>⟨1,rfl,ZY 1⟩⟩
 exact((h.cd x hx).mul (.inl rfl) cy).gn (.inl rfl) (by decide) (by decide) (by unfold B;decide) (by unfold B;decide)
theorem Du.gn {us:List Tm}{n:Nat}(h:Du us n):∀t∈us,Gn 0 4000 t.2/\Ef t:=λt ht=>by
 have g:Gn 0 7 t.2:=(h.cd t ht).gn (.inl rfl) (by decide) (by decide) (by unfold B;decide) (by unfold B;decide);have tl:=jI (l:=t.1) (lo:=0) (by decide) (h.up t ht) (h.pl t ht);exact⟨⟨g.1,g.2.1.mono (by decide),g.2.2.mono (by decide)⟩,h.up t ht,by omega⟩
theorem zE (k:Int):∀t∈fM k,Gn 0 4000 t.2/\Ef t:=λt ht=>by
 have:t=([],(1,1))\/t=([k],(-1,1)):=by simpa using ht
 rcases this with rfl|rfl
 ·have g:=dB (w:=(1,1)) (.inl rfl);exact⟨⟨g.1,g.2.1.mono (by decide),g.2.2.mono (by decide)⟩,List.Pairwise.nil,Nat.zero_lt_succ _⟩
 ·have g:=dB (w:=(-1,1)) (.inr rfl);exact⟨⟨g.1,g.2.1.mono (by decide),g.2.2.mono (by decide)⟩,CM _ _,(by decide:1<32)⟩
theorem Fd {t:TS}{D:Ends}{σ:St}(R:St->Hp->Prop)(h:∀D':Ends,(∀σ' H',R σ' H'->D'.nx σ' H')->t D' σ H)(fin:∀σ' H',R σ' H'->D.nx σ' H'):t D σ H:=h D fin
theorem zd {x y:Addr}{w:Int×Int}{Q:VK}(hx:H x=some (cx w.1 w.2))(hy:H y=some (cx w.1 w.2))(q:Q (.bl false) H):yP K true (.ref x) (.ref y) H Q :=
 ⟨.tup ([w.1,w.2].map D.int),.tup ([w.1,w.2].map D.int),oj hx,oj hy,by rw[zJ];decide,by rw[e8];exact q⟩
theorem xU {bs:List Int}(h:∀b∈bs,0<=b/\b<=1)(n:Nat):0<=bs.getD n 0/\bs.getD n 0<=1:=by
 rw[Zt]
 cases e:bs[n]? with
 |none=>exact⟨by decide,by decide⟩
 |some b=>exact h b (YA e)
theorem y7 {bs ks ms:List Int}(h:∀b∈bs,0<=b/\b<=1):(!fW (.int 0) ((ks.map λk=>bs.getD k.toNat 0).map V.int)&&!fW (.int 1) ((ms.map λk=>bs.getD k.toNat 0).map V.int))=fN bs ks ms:=by
 unfold fN;rw[dI,dI];congr 1
 ·rw[ZL,Z1,Zn,b9];constructor
  ·intro g k hk z;exact g (YG.mpr ⟨k,hk,z⟩)
  ·intro g z;obtain⟨k,hk,e⟩:=YG.mp z;exact g k hk e
 ·rw[ZL,Z1,Zn,ZQ];constructor
  ·intro g k hk
   have b:=xU h k.toNat
   have n:bs.getD k.toNat 0≠1:=λz=>g (YG.mpr ⟨k,hk,z⟩)
   have:bs.getD k.toNat 0=0:=by omega
   exact Bl.mpr this
  ·intro g z;obtain⟨k,hk,e⟩:=YG.mp z;have:bs.getD k.toNat 0=0:=eq_of_beq (g k hk);omega
theorem lZ {i:Nat}{ap l:Addr}{ns bs:List Int}{σ:St}{F:VK}(e:σ[i]?=some (some (.ref ap)))(e7:σ[7]?=some (some (.ref l)))(RD:H ap=some (.tup (ns.map V.int)))(hl:H l=some (.lst (bs.map V.int)))(hn:ns.length<=5)(hp:∀k∈ns,0<=k/\k<(bs.length:Int))
 (q:∀H' D,aC H H'->H' D=some (.lst ((ns.map λk=>bs.getD k.toNat 0).map V.int))->F (.ref D) H'):pP (Bp K (cc i)) (bw 0) EB (kx (wo K) (cc 1) (cc 0)) 1 [7] σ H F:=by
 have F4:σC 1 [7] σ=[none,some (.ref l)]:=by
  show none :: [σ[7]?.join]=_;rw[e7];rfl
 refine⟨_,e,ap,rfl,⟨_,aU.of RD⟩,?_⟩;rw[F4];refine dW (K:=K) (xs:=ns.map V.int) (rest:=[some (.ref l)]) (λj us H'=>H=H'/\us=((ns.take j).map λk=>bs.getD k.toNat 0).map V.int) ⟨rfl,rfl⟩ (λj us H' hj h=>?_) (λj x us H' N hj hx h k=>?_) (λus H' h=>?_)
 ·obtain⟨rfl,rfl⟩:=h;refine⟨?_,aU.of RD⟩;rw[Yg,Yg,Y8];exact Yo (ZP _ _) (Yo hn (by decide))
 ·obtain⟨rfl,rfl⟩:=h;rw[YU] at hx;obtain⟨m,em,rfl⟩:=YH.mp hx;have b:=hp m (YA em);refine wN ⟨_,rfl,_,rfl,l,_,_,_,rfl,rfl,bo.of hl,qv b.1 b.2,k _ _ ⟨rfl,?_⟩⟩;rw[YE,em,Y2,Y2];rfl
 ·obtain⟨rfl,rfl⟩:=h;rw[Yg,Yv];intro D hD;exact q _ D (aq hD) ai
variable {H':Hp}{r:Addr}
theorem a7.adE (h:a7 H r)(s:SameBut r H H'):aI H H':=λb xs e=>s b _ e λz=>by
 obtain⟨l,x,e',_⟩:=h;rw[z,e'] at e
 cases e
theorem Ax {ys:List V}{ts:List Tm}(h:bp H ys ts)(R:a7 H r)(S:SameBut r H H'):bp H' ys ts:=bp.keep h (R.adE S)
theorem zP.room {C CF:Addr}{s:Addr}{ts:List Tm}(h:zP C CF H s p ts)(R:a7 H r)(S:SameBut r H H'):zP C CF H' s p ts:=by
 obtain⟨dx,fl,FK,D,zs,h1,h2,h3,h4⟩:=h.ex;obtain⟨l,x,e,_⟩:=id R;refine⟨dx,fl,FK,D,zs,S _ _ h1 λz=>?_,S _ _ h2 λz=>?_,S _ _ h3 λz=>?_,Ax h4 R S⟩
 ·rw[z,e] at h1;cases h1
 ·rw[z,e] at h2;cases h2
 ·rw[z,e] at h3
  cases h3
  cases h4 with
  |cons y _ =>
   obtain⟨a,_,_,z,_⟩:=y
   cases z
noncomputable def tL (C CF:Addr):Sp:=λvs H Q _=>∃(r ah al:Addr)(ks ms:List Int),vs=[.ref r,.ref ah,.ref al]/\a7 H r/\H ah=some (.tup (ks.map V.int))/\H al=some (.tup (ms.map V.int))/\Br ks ms/\∀H',a7 H' r->SameBut r H H'->Q (.bl true) H'
theorem dJ:CP ["_law_room_here","_law_held","_law_lacked","_law_one","_law_due","_law_place","_law_turn","_law_row","_law_good"] pq (ar j6):=fe (by decide +kernel)
set_option maxHeartbeats 2000000 in
theorem yk {f C CF:Addr}{fd:BG}(F:ve K "_law_right" "_law_right" j6 f fd)(c:zo K mg C)(cF:BE K mg CF)(Fs:mg "isinstance"=none)(F6:mg "int"=none)(FA:mg "list"=none)(Fu:mg "tuple"=none)(FD:mg "range"=none)
 (q0:Ca P w K mg base 8 ["bracket"] "bracket_sum" (D4 C CF))
 (q1:Ca P w K mg base 5 vk "_law_mult" yY)
 (q2:Ca P w K mg base 4 Dc "_law_gather" vE)
 (q3:Ca P w K mg base 2 xk "_law_filling" mX)
 (q4:Cm P w K mg base 1 ["self"] C "field" (oo C CF))
 (q5:Cm P w K mg base 1 ["self"] CF "prime" (tK CF))
 (q6:Cm P w K mg base 1 ["self"] C "terms" (oh C CF))
 (q7:Cm P w K mg base 5 ["self","filling"] C "worth" (uA C CF)):ya P w K mg base (cD P w) 9 f fd pq (tL C CF):=by
 obtain⟨XT,UY,UZ,U1,U2,U3⟩:=q0;obtain⟨XU,U4,U5,U6,U7,U8⟩:=q1;obtain⟨fG,XW,FG,bG,mG,kG⟩:=q2;obtain⟨XX,U9,Va,Vb,Vc,Vd⟩:=q3;obtain⟨XY,Ve,Vf,Vg,Vh⟩:=q4;obtain⟨XZ,Vi,Vj,Vk,Vl⟩:=q5;obtain⟨X0,Vm,Vn,Vo,Vp⟩:=q6;obtain⟨X1,Vq,Vr,Vs,Vt⟩:=q7;refine F.okN dJ (λvs H Q E h=>?_) (λFv A outer s H vs Q E hr h=>?_)
 ·obtain⟨r,ah,al,ks,ms,rfl,_⟩:=h;rfl
 ·obtain⟨r,ah,al,ks,ms,rfl,Rm,GS,GH,hb,q⟩:=h;have Jm:wa 8 _:=hr;have KC:wa 5 _:=Jm.mono (by decide);have GW:wa 4 _:=Jm.mono (by decide);have GL:wa 2 _:=Jm.mono (by decide);have FN:wa 1 _:=Jm.mono (by decide)
  refine⟨_,(au (@aX _ _ 3 _ _ _ _ dJ.nd rfl (Or.inl rfl) (aH UZ Jm (by rfl) U2 U3 U1 .nil ao (aj (aJ (aj (pv 1) (aj (pv 2) ag rfl) rfl)) ag rfl)) rfl (Or.inl rfl))
   (au (@aX _ _ 4 _ _ _ _ dJ.nd rfl (Or.inl rfl) (cE (aj (aJ (aj (pv 1) (aj (aJ (aj ak (aj ak ag rfl) rfl)) ag rfl) rfl)) ag rfl)) rfl (Or.inl rfl))
   (au (dU Y4 rfl (dy (pv 2)) (aD (i:=5) dJ.nd rfl (Or.inl rfl))
   (ax (@aX _ _ 4 _ _ _ _ dJ.nd rfl (Or.inl rfl) (aH U5 KC (by rfl) U7 U8 U6 .nil ao (aj ak (aj (pv 4) (aj (cE (aj (aJ (aj (aJ ag) (aj (aJ (aj ak (aj ak ag rfl) rfl)) ag rfl) rfl)) (aj (aJ (aj (aJ (aj (pv 5) ag rfl)) (aj (aJ (aj (oE kN ak) (aj ak ag rfl) rfl)) ag rfl) rfl)) ag rfl) rfl)) ag rfl) rfl) rfl)) rfl (Or.inl rfl))))
   (au (bF (PW.pt (dE (bN (bU (aE aZ (by rfl) Fs (by rfl) (aj (pv 3) (aj (fB (by rfl) c.c.mgC (show aG (.ref C) (.ref C) from rfl)) ag rfl) rfl)))) (dE (aO fY (iq (iq (pv 3) c.c.cl Vh Vf FN Vg .nil ao) cF.cl Vl Vj FN Vk .nil ao) ak (aV _)) (dD (aO (mE Jm) (iq (pv 3) c.c.cl Vp Vn FN Vo .nil ao) (aH FG GW (by rfl) mG kG bG .nil ao (aj ak (aj (pv 4) ag rfl) rfl)) (aV _)))))) (ax (aF eE)) aS)
   (au (dU Y4 rfl (dR (by rfl) FD (aj ak ag rfl)) (aD (i:=6) dJ.nd rfl (Or.inl rfl))
   (au (@aX _ _ 7 _ _ _ _ dJ.nd rfl (Or.inr rfl) (bt dM (by rfl) FA (by rfl) (aj (aH Va GL (by rfl) Vc Vd Vb .nil ao (aj (pv 0) (aj ak ag rfl) rfl)) ag rfl)) rfl (Or.inl rfl))
   (au (bF (aO ix (pv 6) ak (aV _)) (ax (@aX _ _ 7 _ _ _ _ dJ.nd rfl (Or.inr rfl) (bY (N:=["_law_place","_law_held","_law_lacked","_law_row"]) (nl:=1) (js:=[1,2,7]) (osc:=ar j6) ⟨rfl,rfl,by decide +kernel,by decide +kernel,by decide +kernel,rfl,(.cons ⟨rfl,by decide +kernel⟩ (.cons ⟨rfl,by decide +kernel⟩ (.cons ⟨rfl,by decide +kernel⟩ .nil))),by decide +kernel⟩ rfl
    (dR (by rfl) FD (aj ak ag rfl))
    (λCq fq sq Hq=>aD (i:=0) (by show(["_law_place","_law_held","_law_lacked","_law_row"]:Ez).Nodup;decide +kernel) rfl (Or.inl rfl) (Or.inr rfl))
    (λCq fq sq Hq=>cX)
    (λCq fq sq Hq=>(aY (r8 (K:=K) rfl) (cE (aj (aY (r8 (K:=K) rfl) (pv 3) (pv 0) (λ_ _=>rfl)) (aj ak (aj ak ag rfl) rfl) rfl)) (aK fh (bt gu (by rfl) F6 (by rfl) (aj (cu (show eA _ _ (yC K false) from gy) (pv 0) (pv 1) (by rfl)) ag rfl)) (aK dH ak (bt gu (by rfl) F6 (by rfl) (aj (cu (show eA _ _ (yC K false) from gy) (pv 0) (pv 2) (by rfl)) ag rfl)))) (λ_ _=>rfl)))) rfl (Or.inl rfl))) aS)
   (au (@aX _ _ 8 _ _ _ _ dJ.nd rfl (Or.inl rfl) (dA (cu (show eA _ _ (yC K true) from dF) ak (bY (N:=["_law_place","_law_row"]) (nl:=1) (js:=[7]) (osc:=ar j6) ⟨rfl,rfl,by decide +kernel,by decide +kernel,by decide +kernel,rfl,(.cons ⟨rfl,by decide +kernel⟩ .nil),by decide +kernel⟩ rfl
    (dy (pv 1))
    (λCq fq sq Hq=>aD (i:=0) (by show(["_law_place","_law_row"]:Ez).Nodup;decide +kernel) rfl (Or.inl rfl) (Or.inr rfl))
    (λCq fq sq Hq=>cX)
    (λCq fq sq Hq=>(aY (r8 (K:=K) rfl) (pv 1) (pv 0) (λ_ _=>rfl)))) (by rfl)) (eJ (cu (show eA _ _ (yC K true) from dF) ak (bY (N:=["_law_place","_law_row"]) (nl:=1) (js:=[7]) (osc:=ar j6) ⟨rfl,rfl,by decide +kernel,by decide +kernel,by decide +kernel,rfl,(.cons ⟨rfl,by decide +kernel⟩ .nil),by decide +kernel⟩ rfl
    (dy (pv 2))
    (λCq fq sq Hq=>aD (i:=0) (by show(["_law_place","_law_row"]:Ez).Nodup;decide +kernel) rfl (Or.inl rfl) (Or.inr rfl))
    (λCq fq sq Hq=>cX)
    (λCq fq sq Hq=>(aY (r8 (K:=K) rfl) (pv 1) (pv 0) (λ_ _=>rfl)))) (by rfl)))) rfl (Or.inl rfl))
   (ax (bF (aO (mE Jm) (fE (pv 3) c.c.cl Vt Vr KC Vs .nil ao (aj (bt dh (by rfl) Fu (by rfl) (aj (pv 7) ag rfl)) ag rfl)) (aJ (aj (bt gu (by rfl) F6 (by rfl) (aj (pv 8) ag rfl)) (aj ak ag rfl) rfl)) (aV _)) (ax (aF eE)) aS))))))
   (ax (aF eE))))))),?_⟩
  have nd:=f9 hb.mu;refine⟨_,rfl,_,rfl,hJ,λa1 Gu=>?_⟩;have v1:=aq (o:=.tup [.ref ah,.ref al]) Gu;have f1:upd H a1 (.tup [.ref ah,.ref al]) a1=some (.tup [.ref ah,.ref al]):=ai;generalize upd H a1 _=H1 at v1 f1 |-;refine⟨a1,ah,al,ks,ms,rfl,f1,v1 _ _ GS,v1 _ _ GH,hb,λH2 so v2 So=>?_⟩;have RE:=v1.trans v2;refine⟨_,rfl,hJ,λb1 Jb=>?_⟩;have w1:=aq (o:=.tup [.int 1,.int 1]) Jb;have g1:upd H2 b1 (.tup [.int 1,.int 1]) b1=some (.tup [.int 1,.int 1]):=ai;generalize upd H2 b1 _=Ha at w1 g1 |-;refine⟨hJ,λb2 KG=>?_⟩;have w2:=aq (o:=.tup [.ref ah,.ref b1]) KG;have g2:upd Ha b2 (.tup [.ref ah,.ref b1]) b2=some (.tup [.ref ah,.ref b1]):=ai;generalize upd Ha b2 _=Hb at w2 g2 |-;refine⟨AV,λL hL=>?_⟩;have w3:=aq (o:=.lst [.ref b2]) hL;have g3:upd Hb L (.lst [.ref b2]) L=some (.lst [.ref b2]):=ai;generalize upd Hb L _=Hc at w3 g3 |-;have OH:=w2.trans w3;have OI:=w1.trans OH;have V:=RE.trans OI;have t3:bp Hc [.ref b2] [(ks,(1,1))]:=.cons ⟨b2,ah,b1,rfl,w3 _ _ g2,V _ _ GS,OH _ _ g1⟩ .nil;have So:=So.same OI;have GS:=V _ _ GS;have GH:=V _ _ GH;have Rm:=(show a7 Hc r from let⟨l,x,e,z⟩:=Rm;⟨l,x,V _ _ e,z⟩);have q:∀H',a7 H' r->SameBut r Hc H'->Q (.bl true) H':=λH' R S=>q H' R ((SameBut.of V).trans S);clear V w1 w2 w3 OH OI v1 v2 RE f1 g1 g2 Gu Jb KG hL;refine⟨_,rfl,al,rfl,⟨_,aU.of GH⟩,?_⟩;refine um (K:=K) (a:=al) (xs:=ms.map V.int) (λi σ H'=>aC Hc H'/\∃L ys o5 o6 o7 o8,H' L=some (.lst ys)/\bp H' ys (jg [(ks,(1,1))] (ms.take i))/\σ=[some (.ref r),some (.ref ah),some (.ref al),some (.ref so),some (.ref L),o5,o6,o7,o8]) ⟨aC.refl _,L,_,_,_,_,_,g3,t3,rfl⟩ (λj σ H' _ h=>aU.of (h.1 _ _ GH)) ?_ ?_
  ·rintro i y σ H4 hy ⟨s4,L4,ys,o5,o6,o7,o8,G6,Gv,rfl⟩;rw[YU] at hy;obtain⟨k,ek,rfl⟩:=YH.mp hy;have hi:i<ms.length:=lW ek;have du:=xO hb i (Zi hi);rw[<-wH hb i] at du;have Vu:2^i<=16:=Yq (ZG (by decide) (show i<=4 by have:=hb.ml;omega)) (by decide)
   have F5:ms.take (i+1)=ms.take i++[k]:=by rw[YE,ek];rfl
   rw[F5,lC];generalize jg [(ks,(1,1))] (ms.take i)=us at Gv du |-;obtain⟨gt,gl⟩:=BM (k:=k) du Vu;dsimp only[bw,ll];refine⟨_,rfl,Yt _,λd1 Vv=>?_⟩;have w1:=aq (o:=.tup []) Vv;have g1:upd H4 d1 (.tup []) d1=some (.tup []):=ai;generalize upd H4 d1 _=Hd at w1 g1 |-;refine⟨hJ,λd2 hd2=>?_⟩;have w2:=aq (o:=.tup [.int 1,.int 1]) hd2;have g2:upd Hd d2 (.tup [.int 1,.int 1]) d2=some (.tup [.int 1,.int 1]):=ai;generalize upd Hd d2 _=He at w2 g2 |-;refine⟨hJ,λd3 OJ=>?_⟩;have w3:=aq (o:=.tup [.ref d1,.ref d2]) OJ;have g3:upd He d3 (.tup [.ref d1,.ref d2]) d3=some (.tup [.ref d1,.ref d2]):=ai;generalize upd He d3 _=Hf at w3 g3 |-;refine⟨_,rfl,AV,λd4 Vw=>?_⟩;have w4:=aq (o:=.tup [.int k]) Vw;have g4:upd Hf d4 (.tup [.int k]) d4=some (.tup [.int k]):=ai;generalize upd Hf d4 _=Hg at w4 g4 |-;refine⟨_,rfl,hJ,λd5 Vx=>?_⟩;have w5:=aq (o:=.tup [.int (-1),.int 1]) Vx;have g5:upd Hg d5 (.tup [.int (-1),.int 1]) d5=some (.tup [.int (-1),.int 1]):=ai;generalize upd Hg d5 _=Hh at w5 g5 |-;refine⟨hJ,λd6 Vy=>?_⟩;have w6:=aq (o:=.tup [.ref d4,.ref d5]) Vy;have g6:upd Hh d6 (.tup [.ref d4,.ref d5]) d6=some (.tup [.ref d4,.ref d5]):=ai;generalize upd Hh d6 _=Hi at w6 g6 |-;refine⟨hJ,λd7 Vz=>?_⟩;have w7:=aq (o:=.lst [.ref d3,.ref d6]) Vz;have g7:upd Hi d7 (.lst [.ref d3,.ref d6]) d7=some (.lst [.ref d3,.ref d6]):=ai;generalize upd Hi d7 _=Hj at w7 g7 |-;have RF:=w6.trans w7;have RG:=w5.trans RF;have RH:=w4.trans RG;have RI:=w3.trans RH;have RJ:=w2.trans RI;have OK:=w1.trans RJ;have tl:bp Hj [.ref d3,.ref d6] (fM k):=.cons ⟨d3,d1,d2,rfl,RH _ _ g3,RJ _ _ g1,RI _ _ g2⟩ (.cons ⟨d6,d4,d5,rfl,w7 _ _ g6,RG _ _ g4,RF _ _ g5⟩ .nil);refine⟨0,L4,d7,ys,_,us,fM k,rfl,.inl rfl,OK _ _ G6,bp.keep Gv (aI.of OK),g7,tl,?_,du.gn,zE k,gt,λHk D zs v8 hD VA=>⟨s4.trans (OK.trans v8),D,zs,_,_,_,_,hD,VA,rfl⟩⟩;show us.length*2<4000;have:=du.len;omega
  ·rintro σ H4 ⟨s4,L4,ys,o5,o6,o7,o8,G6,Gv,rfl⟩;rw[Yg,Yv] at Gv;have Nl:=wH hb ms.length;have du:=xO hb ms.length (Ye _);rw[<-Nl] at du;rw[Yv] at Nl du
   have VB:tg 0 (jg [(ks,(1,1))] ms)=tg 0 (gD [(ks,(1,1))] ms):=by
    rw[Nl];exact AK (.inl rfl) (yv nd hb.bk)
   have X2:2^ms.length<=32:=Yq (ZG (by decide) hb.ml) (by decide);have RK:Ar 0 (jg [(ks,(1,1))] ms):=Ar.of (m:=7) (.inl rfl) (by have:=du.len;omega) (λt ht=>(du.cd t ht).gn (.inl rfl) (by decide) (by decide) (by unfold B;decide) (by unfold B;decide)) (by have:=du.len;omega) (by decide);have So:=So.same s4;obtain⟨dx,fl,FK,Dt,zt,c1,c2,c3,c4⟩:=id So.ex;have fin:∀H5,aC H4 H5->True:=λ_ _=>trivial;dsimp only[qT,Aw];refine⟨_,rfl,.ref so,.ref C,_,_,_,rfl,rfl,c.ty c1,c.is,_,rfl,b7 ?_⟩;refine⟨_,rfl,so,dx,_,rfl,c1,rfl,so,dx,fl,Dt,rfl,c1,fl,FK,_,rfl,c2,rfl,fl,FK,0,rfl,c2,rfl,_,rfl,b7 ?_⟩;refine⟨_,rfl,so,dx,_,rfl,c1,rfl,so,dx,fl,Dt,zt,rfl,c1,c3,λl5 VC=>?_⟩;have w5:=aq (o:=.lst zt) VC;have g5:upd H4 l5 (.lst zt) l5=some (.lst zt):=ai;generalize upd H4 l5 _=H5 at w5 g5 |-;refine⟨_,rfl,L4,0,ys,_,rfl,.inl rfl,w5 _ _ G6,bp.keep Gv (aI.of w5),RK,λH6 D6 z6 w6 h6 t6=>?_⟩;have Nn:=w5.trans w6;have t6:bp H6 z6 (tg 0 (jg [(ks,(1,1))] ms)):=t6;rw[VB] at t6;refine⟨lE (tg 0 (gD [(ks,(1,1))] ms)),lE (tg 0 (gD [(ks,(1,1))] ms)),oq (w6 _ _ g5) (bp.keep c4 (aI.of Nn)),oq h6 t6,yZ _,_,rfl,?_⟩;rw[e8];refine b7 ?_;have s6:=s4.trans Nn;have So:=So.same Nn;have Rm:=(show a7 H6 r from let⟨l,x,e,z⟩:=Rm;⟨l,x,s6 _ _ e,z⟩);have GS:=s6 _ _ GS;have GH:=s6 _ _ GH;have q:∀H',a7 H' r->SameBut r H6 H'->Q (.bl true) H':=λH' R S=>q H' R ((SameBut.of s6).trans S);clear Nn w5 w6 g5 h6 t6 c1 c2 c3 c4 Gv G6 s4 s6 RK du Nl fin;dsimp only[vL]
   have nh:∀{H':Hp}{b:Addr}{xs:List V},H' b=some (.tup xs)->a7 H' r->b≠r:=λe R z=>by
    obtain⟨l,x,e2,_⟩:=R;rw[z,e2] at e
    cases e
   have nk:=nh GS Rm;have nm:=nh GH Rm
   have TO:DW 0 7 (tg 0 (gD [(ks,(1,1))] ms))/\fu (tg 0 (gD [(ks,(1,1))] ms))<=8:=by
    have du:=xO hb ms.length (Ye _);rw[Yv] at du;have dl:=du.len;refine⟨⟨by omega,λt ht=>⟨(du.cd t ht).gn (.inl rfl) (by decide) (by decide) (by unfold B;decide) (by unfold B;decide),du.up t ht,λk hk=>(du.pl t ht k hk).1,?_⟩,by omega,by decide⟩,ym (by decide) λt ht k hk=>by have:=du.pl t ht k hk;omega⟩;have tl:=jI (l:=t.1) (lo:=0) (by decide) (du.up t ht) (du.pl t ht);omega
   refine⟨4,rfl,by decide,by decide,?_⟩;refine lM (lo:=0) (λi σ H'=>a7 H' r/\SameBut r H6 H'/\∃o5 o6 o7 o8,σ=[some (.ref r),some (.ref ah),some (.ref al),some (.ref so),some (.ref L4),o5,o6,o7,o8]) ⟨Rm,.of (aC.refl _),_,_,_,_,rfl⟩ ?_ ?_
   ·rintro i σ H7 hi ⟨R7,k7,p5,p6,p7,p8,rfl⟩;refine⟨_,rfl,r,8,rfl,R7,by decide,by decide,λaf bs H8 RL hlen VD R8 k8=>?_⟩;refine⟨af,_,rfl,.inr (aU.of VD),λl9 VE=>?_⟩;have w9:=aq (o:=.lst (bs.map V.int)) VE;have g9:upd H8 l9 (.lst (bs.map V.int)) l9=some (.lst (bs.map V.int)):=ai;generalize upd H8 l9 _=H9 at w9 g9 |-;have k9:=k7.trans (k8.trans (.of w9));have R9:a7 H9 r:=let⟨l,x,e,z⟩:=R8;⟨l,x,w9 _ _ e,z⟩;dsimp only[bw,qT]
    have rl:∀{H':Hp}{l:Addr}{cs:List Int},H' l=some (.lst (cs.map V.int))->cs.length=8->a7 H' r->l≠r:=λe hc R z=>by
     obtain⟨a,x,e2,_⟩:=R;rw[z,e2] at e;have e3:=Ze List.length (HO.lst.inj (Option.some.inj e));rw[Yg,hc] at e3;have e3:(2:Nat)=8:=e3;omega
    refine Fd (λσ H'=>a7 H' r/\SameBut r H6 H'/\∃(L:Addr)(cs:List Int),H' L=some (.lst (cs.map V.int))/\cs.length=8/\(∀b∈cs,0<=b/\b<=1)/\σ=[some (.ref r),some (.ref ah),some (.ref al),some (.ref so),some (.ref L4),p5,some (.int (0+i)),some (.ref L),p8]) (λD' fin=>?_) ?_
    ·have h0:=fin [some (.ref r),some (.ref ah),some (.ref al),some (.ref so),some (.ref L4),p5,some (.int (0+i)),some (.ref l9),p8] H9 ⟨R9,k9,l9,bs,g9,by omega,RL,rfl⟩;dsimp only[Aw];refine⟨_,rfl,_,_,rfl,rfl,_,rfl,cG (λh=>?_) (λh=>h0)⟩;have OL:=k9 _ _ GS nk;have OM:=k9 _ _ GH nm;dsimp only[ll,bw];refine⟨8,rfl,by decide,by decide,?_⟩;refine pT (lo:=0) (n:=(8:Int).toNat) (rest:=[some (.ref ah),some (.ref al),some (.ref l9)]) (λj us H'=>aC H9 H'/\∃cs:List Int,us=cs.map V.int/\cs.length=j/\∀b∈cs,0<=b/\b<=1) ⟨aC.refl _,[],rfl,rfl,λb hb=>nomatch hb⟩ (λj us H' hj h=>?_) (λj us H' N hj h kk=>?_) (λus H' h=>?_)
     ·obtain⟨_,cs,rfl,hc,_⟩:=h;rw[Yg,hc];exact Yo hj (by decide)
     ·obtain⟨sj,cs,rfl,hc,JP⟩:=h;have X3:j<8:=hj
      have bj:=xU RL (0+(j:Int)).toNat
      refine wN ⟨_,rfl,_,rfl,l9,_,_,_,rfl,rfl,bo.of (sj _ _ g9),qv (by omega) (by omega),Ff,λL3 KO=>?_⟩;have w3:=aq (o:=.lst [.int (bs.getD (0+(j:Int)).toNat 0),.int 1,.int 0]) KO;have Np:upd H' L3 (.lst [.int (bs.getD (0+(j:Int)).toNat 0),.int 1,.int 0]) L3=some (.lst [.int (bs.getD (0+(j:Int)).toNat 0),.int 1,.int 0]):=ai;generalize upd H' L3 _=Hx at w3 Np |-;have sx:=sj.trans w3;refine⟨_,rfl,_,rfl,ah,_,rfl,.inr (aU.of (sx _ _ OL)),rfl,c9 ks,.inr ⟨_,rfl,?_⟩⟩;refine⟨_,rfl,_,rfl,al,_,rfl,.inr (aU.of (sx _ _ OM)),rfl,c9 ms,.inr ⟨_,rfl,?_⟩⟩;rw[show(if false=true then !fW (V.int (0+(j:Int))) (ks.map V.int) else fW (V.int (0+(j:Int))) (ks.map V.int))=decide (0+(j:Int)∈ks) from dI _ _,show(if false=true then !fW (V.int (0+(j:Int))) (ms.map V.int) else fW (V.int (0+(j:Int))) (ms.map V.int))=decide (0+(j:Int)∈ms) from dI _ _]
      have step:∀b:Int,0<=b/\b<=1->N (cs.map V.int++[.int b]) Hx:=λb FZ=>kk _ _ ⟨sx,cs++[b],by simp,by simp[hc],λx hx=>by
       rcases YI.mp hx with hx|hx
       ·exact JP x hx
       ·rw[Zm.mp hx];exact FZ⟩
      have bB:∀x:Int,0<=x/\x<=2->B 9000 x:=λx hx=>(show B 2 x by unfold B;omega).mono (by decide)
      by_cases m1:0+(j:Int)∈ks
      ·have m2:0+(j:Int)∉ms:=λz=>hb.ap _ z m1;rw[YD m1,Yu m2];exact⟨2,0,rfl,rfl,⟨bB 2 (by decide),bB 0 (by decide)⟩,1,0,rfl,rfl,L3,_,1,.int 1,rfl,rfl,bo.of Np,rfl,step 1 (by decide)⟩
      ·rw[Yu m1]
       by_cases m2:0+(j:Int)∈ms
       ·rw[YD m2];exact⟨2,1,rfl,rfl,⟨bB 2 (by decide),bB 1 (by decide)⟩,0,2,rfl,rfl,L3,_,2,.int 0,rfl,rfl,bo.of Np,rfl,step 0 (by decide)⟩
       ·rw[Yu m2];exact⟨2,0,rfl,rfl,⟨bB 2 (by decide),bB 0 (by decide)⟩,0,0,rfl,rfl,L3,_,0,_,rfl,rfl,bo.of Np,rfl,step _ bj⟩
     ·obtain⟨sj,cs,rfl,hc,JP⟩:=h;intro Lr VF;have sr:=sj.trans (aq (o:=.lst (cs.map V.int)) VF);have gr:upd H' Lr (.lst (cs.map V.int)) Lr=some (.lst (cs.map V.int)):=ai;generalize upd H' Lr _=Hx at sr gr |-;exact fin _ _ ⟨(let⟨l,x,e,z⟩:=R9;⟨l,x,sr _ _ e,z⟩),k9.trans (.of sr),Lr,cs,gr,hc,JP,rfl⟩
    ·rintro σ Ha ⟨Ra,ka,L,cs,hL,Ov,JP,rfl⟩;have ON:=ka _ _ GS nk;have OO:=ka _ _ GH nm
     have RM:∀{ns:List Int},(∀k∈ns,0<=k/\k<7)->∀k∈ns,0<=k/\k<(cs.length:Int):=λh k hk=>by have:=h k hk;omega
     dsimp only[qT];refine Fd (λσ H'=>aC Ha H'/\σ=[some (.ref r),some (.ref ah),some (.ref al),some (.ref so),some (.ref L4),p5,some (.int (0+i)),some (.ref L),some (.bl (fN cs ks ms))]) (λD' fin=>?_) ?_
     ·dsimp only[ll,AE,kx,tC,bw];refine lZ (i:=1) (σ:=[some (.ref r),some (.ref ah),some (.ref al),some (.ref so),some (.ref L4),p5,some (.int (0+i)),some (.ref L),p8]) rfl rfl ON hL hb.kl (RM hb.kp) λHb Lb sb gb=>?_;refine⟨Lb,_,rfl,.inl (bo.of gb),rfl,c9 _,_,rfl,?_⟩;have eg:=y7 (ks:=ks) (ms:=ms) JP
      show if(!fW (.int 0) ((ks.map λk=>cs.getD k.toNat 0).map V.int))=true then _ else _
      refine cG (λh=>?_) (λh=>?_)
      ·rw[h,Zr] at eg;refine lZ (i:=2) (σ:=[some (.ref r),some (.ref ah),some (.ref al),some (.ref so),some (.ref L4),p5,some (.int (0+i)),some (.ref L),p8]) rfl rfl (sb _ _ OO) (sb _ _ hL) hb.ml (RM hb.mp) λHd Ld sd gd=>?_;refine⟨Ld,_,rfl,.inl (bo.of gd),rfl,c9 _,?_⟩;refine fin _ _ ⟨sb.trans sd,?_⟩;rw[<-eg];rfl
      ·have h':(!fW (.int 0) ((ks.map λk=>cs.getD k.toNat 0).map V.int))=false:=by simpa using h
       rw[h',ZF] at eg;refine fin _ _ ⟨sb,?_⟩;rw[<-eg];rfl
     ·rintro σ Hb ⟨sb,rfl⟩;have RN:=(So.room Rm ka).same sb;obtain⟨dx,fl,FK,Dt,zt,c1,c2,c3,c4⟩:=id RN.ex;dsimp only[Aw];refine⟨_,rfl,so,dx,_,rfl,c1,rfl,_,rfl,L,_,rfl,.inl ⟨bo.of (sb _ _ hL),λlt Fy=>?_⟩⟩;have w1:=aq (o:=.tup (cs.map V.int)) Fy;have e1:upd Hb lt (.tup (cs.map V.int)) lt=some (.tup (cs.map V.int)):=ai;dsimp only[Co];generalize upd Hb lt _=Hd at w1 e1 |-;refine⟨so,lt,0,_,7,cs,rfl,RN.same w1,.inl rfl,TO.1,e1,⟨by omega,JP,by have:=TO.2;omega⟩,λHe ae we ee=>?_⟩;refine⟨_,rfl,.inr ⟨_,rfl,hJ,λa9 VG=>?_⟩⟩;have OP:=aq (o:=.tup [.int (if fN cs ks ms=true then 1 else 0),.int 1]) VG;have e9:upd He a9 (.tup [.int (if fN cs ks ms=true then 1 else 0),.int 1]) a9=some (.tup [.int (if fN cs ks ms=true then 1 else 0),.int 1]):=ai;generalize upd He a9 _=Hf at OP e9 |-
      have ew:b0 0 cs (tg 0 (gD [(ks,(1,1))] ms))=((if fN cs ks ms=true then 1 else 0),1):=by
       rw[xb nd hb.bk]
       cases fN cs ks ms <;> rfl
      have W:=sb.trans (w1.trans (we.trans OP));refine zd (w:=b0 0 cs (tg 0 (gD [(ks,(1,1))] ms))) (OP _ _ ee) ?_ ⟨false,rfl,b7 ?_⟩
      ·rw[ew];exact e9
      ·exact⟨(let⟨l,x,e,z⟩:=Ra;⟨l,x,W _ _ e,z⟩),ka.trans (.of W),_,_,_,_,rfl⟩
   ·rintro σ H7 ⟨R7,k7,p5,p6,p7,p8,rfl⟩;exact q H7 R7 k7
end K44
namespace L2
open PySem PySem.Spec PyProof.Rows PySem.W
mutual
noncomputable def jq (K:Frag)(H:Hp):PyData->V->Prop
 | .none,v=>v=.non
 | .bool b,v=>v=.bl b
 | .int i,v=>v=.int i
 | .str x,v=>v=.str x
 | .list ds,v=>∃a xs,v=.ref a/\bo K H a xs/\jZ K H ds xs
 | .tuple ds,v=>∃a xs,v=.ref a/\aU K H a xs/\jZ K H ds xs
 | .dict Ft,v=>Ft=[]/\∃a,v=.ref a/\Rd H a (.dK [])
noncomputable def jZ (K:Frag)(H:Hp):List PyData->List V->Prop
 |[],xs=>xs=[]
 |d::ds,xs=>∃y ys,xs=y::ys/\jq K H d y/\jZ K H ds ys
end
noncomputable def ou (K:Frag):Prop:=∃o,K.lookup sysModules=some o/\o.cls=.type "dict"
section
variable {X:Cx}{pins:List (Addr×Obj)}{σ:St}{H:Hp}{s:Bi}
theorem Ae (I:Inv X pins σ H s)(hS:ou X.K){a:Addr}{o:Obj}(e:s.heap.get? a=some o){T:String}(hc:o.cls=.type T)(hT:T ≠ "dict"):a≠sysModules:=by
 rintro rfl;obtain⟨o',l,c⟩:=hS;have e':=I.kIn _ _ l;rw[e] at e'
 cases e'
 rw[hc] at c
 injection c with c
 exact hT c
mutual
theorem oG (I:Inv X pins σ H s)(hS:ou X.K):∀(d:PyData)(v:V)(u:Value),jq X.K H d v->aG v u->∃as,Reads s.heap u d as/\sysModules∉as
 | .none,v,u,h,r=>by
   unfold jq at h;subst h
   cases(show u=Value.none from r)
   exact⟨_,.none,by simp⟩
 | .bool b,v,u,h,r=>by
   unfold jq at h;subst h
   cases(show u=Value.bool b from r)
   exact⟨_,.bool b,by simp⟩
 | .int i,v,u,h,r=>by
   unfold jq at h;subst h;obtain⟨t,rfl⟩:=(show ∃t,u=Value.int i t from r);exact⟨_,.int i t,by simp⟩
 | .str x,v,u,h,r=>by
   unfold jq at h;subst h;obtain⟨t,rfl⟩:=(show ∃t,u=Value.str x t from r);exact⟨_,.str x t,by simp⟩
 | .list ds,v,u,h,r=>by
   unfold jq at h;obtain⟨a,xs,rfl,hl,hd⟩:=h
   cases(show u=Value.ref a from r)
   obtain⟨its,rv,⟨o,n,e,hc,_,KQ⟩,_⟩:=I.list hl;obtain⟨as,ra,na⟩:=gc I hS ds xs its hd rv
   exact⟨_,.list e hc KQ (by simpa using ra),by
    have:=Ae I hS e hc (by decide);simp only[Yn,uN]
    exact⟨YM this,na⟩⟩
 | .tuple ds,v,u,h,r=>by
   unfold jq at h;obtain⟨a,xs,rfl,hl,hd⟩:=h
   cases(show u=Value.ref a from r)
   obtain⟨its,rv,⟨o,e,hc,n,KQ⟩,_⟩:=I.tuple hl;obtain⟨as,ra,na⟩:=gc I hS ds xs its hd rv;exact⟨_,.tuple e hc KQ (by simpa using ra),na⟩
 | .dict Ft,v,u,h,r=>by
   unfold jq at h;obtain⟨rfl,a,rfl,hl⟩:=h
   cases(show u=Value.ref a from r)
   obtain⟨_,F2,vs,kv,⟨o,es,ep,e,hx,KQ,_,pr,_⟩⟩:=jS I.hok hl
   have hv:vs=[]:=by cases kv;rfl
   subst hv
   have RO:es.toList=[]:=by
    cases hq:es.toList with
    |nil=>rfl
    |cons x l=>rw[hq] at pr;cases pr
   refine⟨[a]++[]++[],.dict e hx.1 KQ (by rw[RO];exact .nil) (by rw[RO];exact .nil),?_⟩;simp only[Zc,Zm];intro q;rw[q] at F2;simp at F2
theorem gc (I:Inv X pins σ H s)(hS:ou X.K):∀(ds:List PyData)(vs:List V)(us:nN),jZ X.K H ds vs->aR vs us->∃as,ReadsAll s.heap us ds as/\sysModules∉as
 |[],vs,us,h,r=>by
  unfold jZ at h;subst h
  cases r
  exact⟨_,.nil,by simp⟩
 |d::ds,vs,us,h,r=>by
  unfold jZ at h;obtain⟨y,ys,rfl,h1,h2⟩:=h
  cases r with
  |cons r1 r2 =>
   obtain⟨as,ra,na⟩:=oG I hS d y _ h1 r1;obtain⟨bs,rb,nb⟩:=gc I hS ds ys _ h2 r2;exact⟨_,.cons ra rb,by simp only[YI,uN];exact⟨na,nb⟩⟩
end
variable {k:Nat}
theorem qf (hr:wa k X.A)(hS:ou X.K):cS X (.builtin "repr") (λxs H Q=>∃a d,xs=[.ref a]/\jq X.K H d (.ref a)/\d.showable=true/\d.depth<=60/\d.shown.length<=sizeLine/\Q (.str d.shown) H):=by
 intro pins s σ H vs us Q I r h;obtain⟨a,d,rfl,hd,hs,Nq,hz,q⟩:=h;obtain⟨u,rfl,ru⟩:=dw r
 cases(show u=Value.ref a from ru)
 obtain⟨as,ra,na⟩:=oG I hS d _ _ hd (show aG (.ref a) (Value.ref a) from rfl);refine repr_of_reads' ra hs (λ_=>na) hr.gd (by have:=hr.units;omega) (λ_ _ e=>e) (λh' u tk hk=>?_) hz;exact⟨.str d.shown,H,I.kept (t':=tk) hk,⟨u,rfl⟩,q⟩
end
mutual
noncomputable def wt:PyData->Nat
 | .none=>4
 | .bool _=>5
 | .int _=>1921
 | .str x=>(reprText x).length
 | .list xs=>vQ xs+2
 | .tuple xs=>vQ xs+3
 | .dict _=>2
noncomputable def vQ:List PyData->Nat
 |[]=>0
 |x::xs=>wt x+2+vQ xs
end
theorem jb:∀(ts:Ez)(k:Nat)(acc:Str),(textFrom k acc ts).length<=acc.length+(ts.map λt=>t.length+2).sum
 |[],k,acc=>by simp[textFrom]
 |t::ts,k,acc=>by
  unfold textFrom;have h:=jb ts (k+1) (acc++(if k>0 then ", " else "":String)++t)
  have e:(acc++((if k>0 then ", " else "":String):Str)++t).length<=acc.length+2+t.length:=by
   rw[Z2,Z2]
   have:(((if k>0 then ", " else "":String):Str)).length<=2:=by
    split
    ·decide
    ·decide
   omega
  simp only[YF,List.sum_cons];omega
theorem tw:∀(ts:Ez),(Str.join ", " ts).length<=(ts.map λt=>t.length+2).sum
 |[]=>by
  show(Str.empty).length<=_;simp[Str.empty,Str.length]
 |[t]=>by
  show t.length<=_;simp
 |t::u::ts=>by
  show(t++(", ":String)++Str.join ", " (u::ts)).length<=_;rw[Z2,Z2];have h:=tw (u::ts)
  have e:(((", ":String):Str)).length=2:=by decide
  simp only[YF,List.sum_cons] at h |-;omega
mutual
theorem o9:∀(d:PyData)(K:Frag)(H:Hp)(v:V),jq K H d v->d.showable=true->d.shown.length<=wt d
 | .none,_,_,_,_,_=>by unfold PyData.shown wt;decide
 | .bool b,_,_,_,_,_=>by unfold PyData.shown wt;cases b <;> decide
 | .int i,_,_,_,_,h=>by
   unfold PyData.showable at h;unfold PyData.shown wt;exact int_text_len_1921 (Zg h)
 | .str x,_,_,_,_,_=>by unfold PyData.shown wt;exact Ye _
 | .list xs,K,H,v,r,h=>by
   unfold jq at r;obtain⟨a,vs,_,_,r⟩:=r;unfold PyData.showable at h;unfold PyData.shown wt listText;have e:=jb (PyData.shownAll xs) 0 (("[":String):Str);have f:=fT xs K H vs r h;rw[Z2]
   have l1:((("[":String):Str)).length=1:=by decide
   have l2:((("]":String):Str)).length=1:=by decide
   omega
 | .tuple xs,K,H,v,r,h=>by
   unfold jq at r;obtain⟨a,vs,_,_,r⟩:=r;unfold PyData.showable at h;unfold PyData.shown wt tupleText;have e:=tw (PyData.shownAll xs);have f:=fT xs K H vs r h;rw[Z2,Z2]
   have l1:((("(":String):Str)).length=1:=by decide
   have l2:((((if(PyData.shownAll xs).length==1 then ",)" else ")":String)):Str)).length<=2:=by
    split
    ·decide
    ·decide
   omega
 | .dict Ft,K,H,v,r,h=>by
   unfold jq at r;obtain⟨rfl,_⟩:=r;unfold PyData.shown wt;decide
theorem fT:∀(ds:List PyData)(K:Frag)(H:Hp)(vs:List V),jZ K H ds vs->PyData.showableAll ds=true->((PyData.shownAll ds).map λt=>t.length+2).sum<=vQ ds
 |[],_,_,_,_,_=>by unfold PyData.shownAll vQ;simp
 |d::ds,K,H,vs,r,h=>by
  unfold jZ at r;obtain⟨y,ys,_,r1,r2⟩:=r;unfold PyData.showableAll at h;rw[Yy] at h;unfold PyData.shownAll vQ;have a:=o9 d K H y r1 h.1;have b:=fT ds K H ys r2 h.2;simp only[YF,List.sum_cons];omega
end
theorem qw {X:Cx}(hr:wa k X.A)(hS:ou X.K):cS X (.builtin "repr") (λxs H Q=>∃a d,xs=[.ref a]/\jq X.K H d (.ref a)/\d.showable=true/\d.depth<=60/\wt d<=16777216/\Q (.str d.shown) H):=by
 intro pins s σ H vs us Q I r h;obtain⟨a,d,e,hd,hs,Nq,hz,q⟩:=h;exact qf hr hS pins s σ H vs us Q I r ⟨a,d,e,hd,hs,Nq,by rw[ZX];exact Yq (o9 d _ _ _ hd hs) hz,q⟩
noncomputable def EN (K:Frag)(H:Hp)(x:V)(z:Str):Prop:=(x=.non/\z="None")\/(∃y:Str,x=.str y/\(reprText y).length<=sizeLine/\z=reprText y)\/∃a d,x=.ref a/\jq K H d (.ref a)/\d.showable=true/\d.depth<=60/\wt d<=16777216/\z=d.shown
theorem jU {X:Cx}(hr:wa k X.A)(hS:ou X.K):cS X (.builtin "repr") (λxs H Q=>∃x z,xs=[x]/\EN X.K H x z/\Q (.str z) H):=by
 intro pins s σ H vs us Q I r h;obtain⟨x,z,rfl,hx,q⟩:=h
 rcases hx with⟨rfl,rfl⟩|⟨y,rfl,hz,rfl⟩|⟨a,d,rfl,hd,hs,Nq,hz,rfl⟩
 ·obtain⟨u,rfl,ru⟩:=dw r
  cases(show u=Value.none from ru)
  exact PySem.P.repr_of_none ⟨.str "None",H,I.kept (t':=s.toks+1) (λb o e=>e),⟨_,rfl⟩,q⟩
 ·obtain⟨u,rfl,ru⟩:=dw r;obtain⟨t,rfl⟩:=ru;exact PySem.P.repr_of_str ⟨.str (reprText y),H,I.kept (t':=s.toks+1) (λb o e=>e),⟨_,rfl⟩,q⟩ hz
 ·exact qw hr hS pins s σ H _ us Q I r ⟨a,d,rfl,hd,hs,Nq,hz,q⟩
end L2
namespace K44
open PySem L2 PySem.W Nm Srt
mutual
noncomputable def Dt (F:Addr->Prop)(H:Hp):PyData->V->Prop
 | .none,v=>v=.non
 | .bool b,v=>v=.bl b
 | .int i,v=>v=.int i
 | .str x,v=>v=.str x
 | .list ds,v=>∃a xs,v=.ref a/\F a/\H a=some (.lst xs)/\cI F H ds xs
 | .tuple ds,v=>∃a xs,v=.ref a/\H a=some (.tup xs)/\cI F H ds xs
 | .dict Ft,v=>Ft=[]/\∃a,v=.ref a/\H a=some (.dK [])
noncomputable def cI (F:Addr->Prop)(H:Hp):List PyData->List V->Prop
 |[],xs=>xs=[]
 |d::ds,xs=>∃y ys,xs=y::ys/\Dt F H d y/\cI F H ds ys
end
noncomputable def ba (F:Addr->Prop)(H H':Hp):Prop:=∀b o,H b=some o->(∀l,o=.lst l->F b)->H' b=some o
variable {H H':Hp}
theorem ba.of {F:Addr->Prop}(s:aC H H'):ba F H H':=λb o e _=>s b o e
variable {r:Addr}
theorem ba.but (R:a7 H r)(s:SameBut r H H'):ba (·≠r) H H':=λb o e k=>s b o e λz=>by
 obtain⟨l,x,h,_⟩:=R;rw[z,h] at e;exact k _ (Option.some.inj e).symm z
theorem ba.trans {F:Addr->Prop}{H1 H2:Hp}(a:ba F H H1)(b:ba F H1 H2):ba F H H2:=λc o e k=>b c o (a c o e k) k
variable {a:Addr}{xs:List V}
theorem ba.put {F:Addr->Prop}{ys:List V}(e:H a=some (.lst xs))(n:¬F a):ba F H (upd H a (.lst ys)):=λb o h k=>by
 by_cases z:b=a
 ·subst z;rw[e] at h;exact absurd (k _ (Option.some.inj h).symm) n
 ·rw[aA z];exact h
theorem ba.tup {F:Addr->Prop}(k:ba F H H'):aI H H':=λb xs e=>k b _ e λl z=>by cases z
theorem ba.lst {F:Addr->Prop}(k:ba F H H')(n:F a)(e:H a=some (.lst xs)):H' a=some (.lst xs):=k a _ e λ_ _=>n
mutual
theorem Dt.keep {F:Addr->Prop}(k:ba F H H'):∀(d:PyData)(v:V),Dt F H d v->Dt F H' d v
 | .none,v,h=>by unfold Dt at h |-;exact h
 | .bool b,v,h=>by unfold Dt at h |-;exact h
 | .int i,v,h=>by unfold Dt at h |-;exact h
 | .str x,v,h=>by unfold Dt at h |-;exact h
 | .list ds,v,h=>by
   unfold Dt at h |-;obtain⟨a,xs,e,n,ha,hd⟩:=h;exact⟨a,xs,e,n,k.lst n ha,cI.keep k ds xs hd⟩
 | .tuple ds,v,h=>by
   unfold Dt at h |-;obtain⟨a,xs,e,ha,hd⟩:=h;exact⟨a,xs,e,k.tup _ _ ha,cI.keep k ds xs hd⟩
 | .dict Ft,v,h=>by
   unfold Dt at h |-;obtain⟨e1,a,e,ha⟩:=h;exact⟨e1,a,e,k _ _ ha λl z=>by cases z⟩
theorem cI.keep {F:Addr->Prop}(k:ba F H H'):∀(ds:List PyData)(xs:List V),cI F H ds xs->cI F H' ds xs
 |[],xs,h=>by unfold cI at h |-;exact h
 |d::ds,xs,h=>by
  unfold cI at h |-;obtain⟨y,ys,e,h1,h2⟩:=h;exact⟨y,ys,e,Dt.keep k d y h1,cI.keep k ds ys h2⟩
end
mutual
theorem Dt.rd {F:Addr->Prop}{K:Frag}:∀(d:PyData)(v:V),Dt F H d v->jq K H d v
 | .none,v,h=>by unfold Dt at h;unfold jq;exact h
 | .bool b,v,h=>by unfold Dt at h;unfold jq;exact h
 | .int i,v,h=>by unfold Dt at h;unfold jq;exact h
 | .str x,v,h=>by unfold Dt at h;unfold jq;exact h
 | .list ds,v,h=>by
   unfold Dt at h;unfold jq;obtain⟨a,xs,e,n,ha,hd⟩:=h;exact⟨a,xs,e,bo.of ha,cI.rd ds xs hd⟩
 | .tuple ds,v,h=>by
   unfold Dt at h;unfold jq;obtain⟨a,xs,e,ha,hd⟩:=h;exact⟨a,xs,e,aU.of ha,cI.rd ds xs hd⟩
 | .dict Ft,v,h=>by
   unfold Dt at h;unfold jq;obtain⟨e1,a,e,ha⟩:=h;exact⟨e1,a,e,Rd.of ha⟩
theorem cI.rd {F:Addr->Prop}{K:Frag}:∀(ds:List PyData)(xs:List V),cI F H ds xs->jZ K H ds xs
 |[],xs,h=>by unfold cI at h;unfold jZ;exact h
 |d::ds,xs,h=>by
  unfold cI at h;unfold jZ;obtain⟨y,ys,e,h1,h2⟩:=h;exact⟨y,ys,e,Dt.rd d y h1,cI.rd ds ys h2⟩
end
variable {d:PyData}
theorem Dt.th {F:Addr->Prop}{v:V}(h:Dt F H d v):∃T,Th H v T:=by
 cases d with
 |none=>unfold Dt at h;subst h;exact⟨_,.non⟩
 |bool b=>unfold Dt at h;subst h;exact⟨_,.bl b⟩
 |int i=>unfold Dt at h;subst h;exact⟨_,.int i⟩
 |str x=>unfold Dt at h;subst h;exact⟨_,.str x⟩
 |list ds=>unfold Dt at h;obtain⟨a,xs,rfl,n,ha,hd⟩:=h;exact⟨_,.lst ha⟩
 |tuple ds=>unfold Dt at h;obtain⟨a,xs,rfl,ha,hd⟩:=h;exact⟨_,.tup ha⟩
 |dict Ft=>unfold Dt at h;obtain⟨_,a,rfl,ha⟩:=h;exact⟨_,.dK ha⟩
theorem cI.th {F:Addr->Prop}:∀{ds:List PyData}{xs:List V},cI F H ds xs->∀y∈xs,∃T,Th H y T
 |[],xs,h,y,hy=>by unfold cI at h;subst h;cases hy
 |d::ds,xs,h,y,hy=>by
  unfold cI at h;obtain⟨z,zs,rfl,h1,h2⟩:=h
  rcases Yn.mp hy with rfl|hy
  ·exact h1.th
  ·exact cI.th h2 y hy
theorem cI.len {F:Addr->Prop}:∀{ds:List PyData}{xs:List V},cI F H ds xs->xs.length=ds.length
 |[],xs,h=>by unfold cI at h;subst h;rfl
 |d::ds,xs,h=>by
  unfold cI at h;obtain⟨z,zs,rfl,h1,h2⟩:=h;rw[YC,YC,cI.len h2]
theorem cI.append {F:Addr->Prop}:∀{ds es:List PyData}{xs ys:List V},cI F H ds xs->cI F H es ys->cI F H (ds++es) (xs++ys)
 |[],es,xs,ys,h,k=>by unfold cI at h;subst h;exact k
 |d::ds,es,xs,ys,h,k=>by
  unfold cI at h;obtain⟨z,zs,rfl,h1,h2⟩:=h;show cI F H (d::(ds++es)) (z::(zs++ys));unfold cI;exact⟨z,_,rfl,h1,cI.append h2 k⟩
theorem cI.nil {F:Addr->Prop}:cI F H [] []:=by unfold cI;rfl
variable {ds:List PyData}{vs:List V}
theorem cI.cons {F:Addr->Prop}{d:PyData}{v:V}(h:Dt F H d v)(k:cI F H ds vs):cI F H (d::ds) (v::vs):=by
 unfold cI;exact⟨v,vs,rfl,h,k⟩
theorem cI.at {F:Addr->Prop}:∀{ds:List PyData}{xs:List V},cI F H ds xs->∀{i:Nat}{x:V},xs[i]?=some x->∃d,ds[i]?=some d/\Dt F H d x
 |[],xs,h,i,x,e=>by unfold cI at h;subst h;cases e
 |d::ds,xs,h,i,x,e=>by
  unfold cI at h;obtain⟨z,zs,rfl,h1,h2⟩:=h
  cases i with
  |zero=>cases e;exact⟨d,rfl,h1⟩
  |succ i=>exact cI.at h2 e
theorem BL {F:Addr->Prop}(i:Int):Dt F H (.int i) (.int i):=by unfold Dt;rfl
theorem E6 {F:Addr->Prop}:Dt F H .none .non:=by unfold Dt;rfl
theorem Fn {F:Addr->Prop}(b:Bool):Dt F H (.bool b) (.bl b):=by unfold Dt;rfl
theorem E8 {F:Addr->Prop}(x:Str):Dt F H (.str x) (.str x):=by unfold Dt;rfl
theorem CL {F:Addr->Prop}(e:H a=some (.tup xs))(h:cI F H ds xs):Dt F H (.tuple ds) (.ref a):=by unfold Dt;exact⟨a,xs,rfl,e,h⟩
theorem E1 {F:Addr->Prop}(n:F a)(e:H a=some (.lst xs))(h:cI F H ds xs):Dt F H (.list ds) (.ref a):=by unfold Dt;exact⟨a,xs,rfl,n,e,h⟩
theorem d8 {F:Addr->Prop}:∀ns:List Int,cI F H (ns.map PyData.int) (ns.map V.int)
 |[]=>.nil
 |n::ns=>.cons (BL n) (d8 ns)
theorem pQ:∀ns:List Int,vQ (ns.map PyData.int)=1923*ns.length
 |[]=>rfl
 |n::ns=>by
  show vQ (.int n::ns.map PyData.int)=_;unfold vQ;rw[pQ ns];simp[wt];omega
noncomputable def vS (n:Int):Prop:=-(2^60)<n/\n<2^60
theorem CC {n:Int}(h:vS n):PyData.showable (.int n)=true:=by
 unfold PyData.showable;refine YD ?_;obtain⟨h1,h2⟩:=h
 by_cases z:n.natAbs=0
 ·rw[z];decide
 ·exact YX ((Nat.log2_lt z).mpr (by omega:n.natAbs<2^60)) (by decide)
theorem t9:∀{ns:List Int},(∀n∈ns,vS n)->PyData.showableAll (ns.map PyData.int)=true
 |[],_=>rfl
 |n::ns,h=>by
  show PyData.showableAll (.int n::ns.map PyData.int)=true;unfold PyData.showableAll;rw[CC (h n Yl),t9 λm hm=>h m (Yi _ hm)];rfl
theorem r9:∀ns:List Int,PyData.depthAll (ns.map PyData.int)=0
 |[]=>rfl
 |n::ns=>by
  show PyData.depthAll (.int n::ns.map PyData.int)=0;unfold PyData.depthAll;rw[r9 ns];rfl
noncomputable def So (k m:Nat)(d:PyData):Prop:=d.showable=true/\d.depth<=k/\wt d<=m
noncomputable def i5 (k m:Nat)(ds:List PyData):Prop:=PyData.showableAll ds=true/\PyData.depthAll ds<=k/\vQ ds<=m
variable {k m:Nat}
theorem So.mono {l n:Nat}(h:So k m d)(h1:k<=l)(h2:m<=n):So l n d:=⟨h.1,by have:=h.2.1;omega,by have:=h.2.2;omega⟩
theorem i5.nil {k m:Nat}:i5 k m []:=⟨rfl,by unfold PyData.depthAll;omega,by unfold vQ;omega⟩
theorem i5.cons {k m n l:Nat}{d:PyData}(h:So k m d)(t:i5 k n ds)(hl:m+2+n<=l):i5 k l (d::ds):=by
 obtain⟨a,b,c⟩:=h;obtain⟨a',b',c'⟩:=t;refine⟨?_,?_,?_⟩
 ·rw[PyData.showableAll,a,a'];rfl
 ·rw[PyData.depthAll];omega
 ·rw[vQ];omega
theorem i5.tup (h:i5 k m ds):So (k+1) (m+3) (.tuple ds):=⟨by unfold PyData.showable;exact h.1,by have:=h.2.1;unfold PyData.depth;omega,by have:=h.2.2;unfold wt;omega⟩
theorem i5.lst (h:i5 k m ds):So (k+1) (m+3) (.list ds):=⟨by unfold PyData.showable;exact h.1,by have:=h.2.1;unfold PyData.depth;omega,by have:=h.2.2;unfold wt;omega⟩
theorem Fb :So k 1921 .none:=⟨rfl,by unfold PyData.depth;omega,by unfold wt;omega⟩
theorem Fj {k:Nat}(b:Bool):So k 1921 (.bool b):=⟨rfl,by unfold PyData.depth;omega,by unfold wt;omega⟩
variable {ns:List Int}
theorem pM {k:Nat}(h:∀n∈ns,vS n):i5 k (1923*ns.length) (ns.map PyData.int):=⟨t9 h,by rw[r9];omega,by rw[pQ];omega⟩
theorem Dt.px {F:Addr->Prop}{v:V}(h:Dt F H d v)(hl:∀ds,d=.tuple ds->ds.length<60):∃o,PX H v o/\∀xs,o=some xs->xs.length<60:=by
 have no:∀{T:String},Th H v T->T ≠ "tuple"->∃o,PX H v o/\∀xs,o=some xs->xs.length<60:=λt n=>⟨none,.no t n,λxs z=>by cases z⟩
 cases d with
 |none=>unfold Dt at h;subst h;exact no .non (by decide)
 |bool b=>unfold Dt at h;subst h;exact no (.bl b) (by decide)
 |int i=>unfold Dt at h;subst h;exact no (.int i) (by decide)
 |str x=>unfold Dt at h;subst h;exact no (.str x) (by decide)
 |list ds=>unfold Dt at h;obtain⟨a,xs,rfl,n,ha,hd⟩:=h;exact no (.lst ha) (by decide)
 |tuple ds =>
  unfold Dt at h;obtain⟨a,xs,rfl,ha,hd⟩:=h;have l:=hl ds rfl;rw[<-hd.len] at l;exact⟨some xs,.tup ha (by omega) hd.th,λys z=>by cases z;exact l⟩
 |dict Ft=>unfold Dt at h;obtain⟨_,a,rfl,ha⟩:=h;exact no (.dK ha) (by decide)
noncomputable abbrev dP (ks:List Int):PyData:=.tuple (ks.map PyData.int)
noncomputable def dj (F:Addr->Prop)(σ:St)(H0:Hp)(te:TE)(d:PyData):Prop:=∀(H:Hp)(Q:VK),aC H0 H->(∀v H',aC H H'->Dt F H' d v->Q v H')->te σ H Q
noncomputable def gM (F:Addr->Prop)(σ:St)(H0:Hp)(ta:TA)(ds:List PyData):Prop:=∀(H:Hp)(Q:List V->Hp->Prop),aC H0 H->(∀vs H',aC H H'->cI F H' ds vs->Q vs H')->ta σ H Q
variable {te:TE}{ta:TA}{i:Nat}{K:Frag}{ks:List Int}{Q:VK}
section
variable {F:Addr->Prop}{σ:St}{H0:Hp}
theorem aL:gM F σ H0 Co []:=λH Q s q=>q [] H (aC.refl _) .nil
theorem av (h:dj F σ H0 te d)(k:gM F σ H0 ta ds):gM F σ H0 (bq te ta) (d::ds):=λH Q s q =>
 h H _ s λv H1 s1 hd=>k H1 _ (s.trans s1) λvs H2 s2 IT=>q (v::vs) H2 (s1.trans s2) (.cons (Dt.keep (ba.of s2) _ _ hd) IT)
theorem rS (h:cI F H ds vs)(hl:ds.length<=100):vs.length<=sizeLine:=by
 rw[h.len];exact Yq hl (by decide)
theorem aQ (h:gM F σ H0 ta ds)(hl:ds.length<=100):dj F σ H0 (ng ta) (.tuple ds):=λH Q s q =>
 h H _ s λvs H1 s1 hd=>⟨rS hd hl,λp hp=>q _ _ (s1.trans (aq hp)) (CL ai (cI.keep (ba.of (aq hp)) _ _ hd))⟩
theorem vN (h:gM F σ H0 ta ds)(hF:∀a,H0 a=none->F a)(hl:ds.length<=100):dj F σ H0 (rD ta) (.list ds):=λH Q s q =>
 h H _ s λvs H1 s1 hd=>⟨rS hd hl,λp hp=>q _ _ (s1.trans (aq hp)) (E1 (hF p (none_of (s.trans s1) hp)) ai (cI.keep (ba.of (aq hp)) _ _ hd))⟩
theorem cB {v:V}(e:σ[i]?=some (some v))(h:Dt F H0 d v):dj F σ H0 (cc i) d:=λH Q s q=>⟨v,e,q v H (aC.refl _) (Dt.keep (ba.of s) _ _ h)⟩
theorem di {v:V}(h:∀{H:Hp},Dt F H d v):dj F σ H0 (tC v) d:=λH Q s q=>q v H (aC.refl _) h
theorem uM:dj F σ H0 (kx (vU λi j=>.int (i-j)) (tC (.int 0)) (tC (.int 1))) (.int (0-1)):=λH Q s q=>⟨0,1,rfl,rfl,q _ H (aC.refl _) (BL _)⟩
theorem ia (hF:∀a,H0 a=none->F a)(e:σ[i]?=some (some (.ref a)))(h:H0 a=some (.tup (ks.map V.int))):dj F σ H0 (DS (tD K) (bq (cc i) Co)) (.list (ks.map PyData.int)):=λH Q s q =>
 ⟨_,e,a,_,rfl,.inr (aU.of (s _ _ h)),λl hl=>q _ _ (aq hl) (E1 (hF l (none_of s hl)) ai (d8 ks))⟩
theorem gC {ta tb:TE}{es:List PyData}(h:dj F σ H0 ta (.tuple ds))(k:dj F σ H0 tb (.tuple es))(hl:ds.length+es.length<=100):dj F σ H0 (kx wg ta tb) (.tuple (ds++es)):=λH Q s q =>
 h H _ s λv H1 s1 hd=>k H1 _ (s.trans s1) λu H2 s2 he=>by
   have hd:=Dt.keep (ba.of s2) _ _ hd;unfold Dt at hd he;obtain⟨a,xs,rfl,ha,hx⟩:=hd;obtain⟨b,ys,rfl,hb,hy⟩:=he;refine⟨a,b,xs,ys,rfl,rfl,ha,hb,?_,λp H3 s3 hp=>q _ _ ((s1.trans s2).trans s3) (CL hp (cI.keep (ba.of s3) _ _ (hx.append hy)))⟩;rw[hx.len,hy.len];exact Yq hl (by decide)
theorem wB {ds:List PyData}(h:gM F σ H0 ta ds)(hl:ds.length<=100)(q:∀p vs H',H0 p=none->aC H0 H'->H' p=some (.lst vs)->cI F H' ds vs->Q (.ref p) H'):rD ta σ H0 Q :=
 h H0 _ (aC.refl _) λvs H1 s1 hd=>⟨rS hd hl,λp hp=>q p vs _ (none_of s1 hp) (s1.trans (aq hp)) ai (cI.keep (ba.of (aq hp)) _ _ hd)⟩
end
noncomputable def C5 (d:PyData):Prop:=So 5 100000 d/\(∀y z,d=.tuple [y,z]->(∀ds,y=.tuple ds->ds.length<60)/\∀ds,z=.tuple ds->ds.length<60)/\(d=.none\/(∃y,d=.str y)\/(∃ds,d=.list ds)\/∃ds,d=.tuple ds)
theorem pG {K:Frag}{F:Addr->Prop}{x:V}(h:Dt F H d x)(ok:C5 d):∃o,BX H x o/\wc o/\EN K H x d.shown:=by
 obtain⟨⟨o1,o2,o3⟩,sh,kd⟩:=ok
 have sn:wc none:=λoy oz z=>by cases z
 rcases kd with rfl|⟨y,rfl⟩|⟨ds,rfl⟩|⟨ds,rfl⟩
 ·unfold Dt at h;subst h;exact⟨none,.no .non (by decide),sn,.inl ⟨rfl,rfl⟩⟩
 ·unfold Dt at h;subst h;refine⟨none,.no (.str y) (by decide),sn,.inr (.inl ⟨y,rfl,?_,rfl⟩)⟩;unfold wt at o3;exact Yq o3 (by decide)
 ·have rd:=Dt.rd (K:=K) _ _ h;unfold Dt at h;obtain⟨a,xs,rfl,n,ha,hd⟩:=h;exact⟨none,.no (.lst ha) (by decide),sn,.inr (.inr ⟨a,_,rfl,rd,o1,by omega,by omega,rfl⟩)⟩
 ·have rd:=Dt.rd (K:=K) _ _ h;unfold Dt at h;obtain⟨a,xs,rfl,ha,hd⟩:=h;have rp:EN K H (.ref a) (PyData.tuple ds).shown:=.inr (.inr ⟨a,_,rfl,rd,o1,by omega,by omega,rfl⟩)
  by_cases l2:xs.length=2
  ·obtain⟨x1,xs,rfl⟩:=YS l2;obtain⟨x2,rfl⟩:=wk.mp (Y5 l2);have dl:=hd.len;obtain⟨d1,ds,rfl⟩:=YS (show ds.length=1+1 from dl.symm);obtain⟨d2,rfl⟩:=wk.mp (Y5 dl.symm);unfold cI at hd;obtain⟨_,_,z,h1,hd⟩:=hd
   cases z
   unfold cI at hd;obtain⟨_,_,z,h2,_⟩:=hd
   cases z
   obtain⟨s1,s2⟩:=sh d1 d2 rfl;obtain⟨oy,py,ly⟩:=h1.px s1;obtain⟨oz,pz,lz⟩:=h2.px s2;exact⟨some (oy,oz),.two ha py pz,λa b z=>by cases z;exact⟨ly,lz⟩,rp⟩
  ·exact⟨none,.odd ha l2,sn,rp⟩
noncomputable abbrev AH:Stmt:=(bc 52)
theorem zx (h:∀k∈ks,0<=k/\k<7):∀k∈ks,vS k:=λk hk=>by
 have:=h k hk;unfold vS;omega
theorem qi {k:Nat}(h:∀n∈ns,vS n)(l:ns.length<=7):So (k+1) 20000 (dP ns):=by
 have:=(pM (k:=k) h).tup;exact this.mono (Ye _) (by omega)
theorem D7 (h:∀n∈ns,vS n)(l:ns.length<=7):So (k+1) 20000 (.list (ns.map PyData.int)):=by
 have:=(pM (k:=k) h).lst;exact this.mono (Ye _) (by omega)
theorem eK {y z:PyData}(hy:So 4 20000 y)(hz:So 4 20000 z)(ly:∀ds,y=.tuple ds->ds.length<60)(lz:∀ds,z=.tuple ds->ds.length<60):C5 (.tuple [y,z]):=
 ⟨((i5.cons hy (i5.cons hz (i5.nil (m:=0)) (Ye _)) (Ye _)).tup).mono (Ye _) (by decide),λa b e=>by cases e;exact⟨ly,lz⟩,.inr (.inr (.inr ⟨_,rfl⟩))⟩
theorem qk (ns ms:List Int):PyData.tuple (ns.map PyData.int++ms.map PyData.int)=dP (ns++ms):=by
 show _=PyData.tuple ((ns++ms).map PyData.int);rw[Y2]
theorem lp (l:ns.length<=7):∀ds,dP ns=.tuple ds->ds.length<60:=λds e=>by
 have e:=PyData.tuple.inj e;rw[<-e,Yg];omega
variable {σ:St}
theorem uv {F:Addr->Prop}{H0:Hp}{ds es:List PyData}{L:Addr}(h:gM F σ H0 ta ds)(e:σ[i]?=some (some (.ref L)))(eL:H0 L=some (.lst vs))(hd:cI F H0 es vs)(hl:es.length+ds.length<=100)
 (q:∀L2 OQ H',H0 L2=none->aC H0 H'->H' L2=some (.lst OQ)->cI F H' (es++ds) OQ->Q (.ref L2) H'):kx vt (cc i) (rD ta) σ H0 Q:=by
 refine⟨_,e,?_⟩;refine wB h (by omega) λp ws H1 hp s1 ep hw=>⟨L,p,vs,ws,rfl,rfl,s1 _ _ eL,ep,?_,λL2 H2 h2 s2 e2=>?_⟩
 ·rw[hd.len,hw.len];exact Yq hl (by decide)
 ·exact q L2 _ _ (none_of s1 h2) (s1.trans s2) e2 ((cI.keep (ba.of (s1.trans s2)) _ _ hd).append (cI.keep (ba.of s2) _ _ hw))
theorem DA {ta tb:TE}(h:ta σ H λx H1=>tb σ H1 λy H2=>wo K x y H2 Q):kx (wo K) ta tb σ H Q:=h
noncomputable def Ba (ks ms:List Int):List PyData:=[.list [dP ks,dP ms],.tuple [dP ks],.tuple [dP ks,dP ms,.tuple []],.none,.str "",.tuple [.list (ks.map PyData.int),dP ms],.tuple [dP ks,.list (ms.map PyData.int)],
 .tuple [.tuple (ks.map PyData.int++[.int 7,.int 7]),dP ms],.tuple [dP ks,.tuple (ms.map PyData.int++[.int 60])],.tuple [.tuple ([.int (0-1)]++ks.map PyData.int),dP ms],.tuple [dP ks,.tuple [.bool true]],
 .tuple [dP ks,.none],.tuple [.tuple (ks.map PyData.int++[.int 3,.int 2]),dP ms],.tuple [dP ks,.tuple [.str "1"]]]
variable {ms:List Int}
theorem wR (h:Br ks ms):∀d∈Ba ks ms,C5 d:=by
 have sk:=zx h.kp;have sm:=zx h.mp;have lk:=h.kl;have lm:=h.ml;have k1:∀{k:Nat},So (k+1) 20000 (dP ks):=qi sk (by omega);have m1:∀{k:Nat},So (k+1) 20000 (dP ms):=qi sm (by omega)
 have cat:∀{ns:List Int},(∀n∈ns,vS n)->ns.length<=2->So 4 20000 (.tuple (ks.map PyData.int++ns.map PyData.int))/\∀ds,PyData.tuple (ks.map PyData.int++ns.map PyData.int)=.tuple ds->ds.length<60:=λ{ns} hs hl=>by
  rw[qk];exact⟨qi (k:=3) (λn hn=>by rcases YI.mp hn with z|z;exact sk n z;exact hs n z) (by rw[Yw];omega),lp (by rw[Yw];omega)⟩
 have KR:So 4 20000 (.tuple (ms.map PyData.int++[(60:Int)].map PyData.int))/\∀ds,PyData.tuple (ms.map PyData.int++[(60:Int)].map PyData.int)=.tuple ds->ds.length<60:=by
  rw[qk]
  exact⟨qi (k:=3) (λn hn=>by
   rcases YI.mp hn with z|z
   ·exact sm n z
   ·rw[Zm.mp z];unfold vS;omega) (by rw[Yw];show ms.length+1<=7;omega),lp (by rw[Yw];show ms.length+1<=7;omega)⟩
 have KS:So 4 20000 (.tuple ([(0-1:Int)].map PyData.int++ks.map PyData.int))/\∀ds,PyData.tuple ([(0-1:Int)].map PyData.int++ks.map PyData.int)=.tuple ds->ds.length<60:=by
  rw[qk]
  exact⟨qi (k:=3) (λn hn=>by
   rcases YI.mp hn with z|z
   ·rw[Zm.mp z];unfold vS;omega
   ·exact sk n z) (by rw[Yw];show 1+ks.length<=7;omega),lp (by rw[Yw];show 1+ks.length<=7;omega)⟩
 have s7:∀{a b:Int},a<100->b<100->0<=a->0<=b->∀n∈[a,b],vS n:=λ{a b} ha hb JK N3 n hn=>by
  have:n=a\/n=b:=by simpa using hn
  unfold vS
  rcases this with z|z <;> omega
 intro d hd;unfold Ba at hd;simp only[Yn,ZA,ED] at hd
 rcases hd with rfl|rfl|rfl|rfl|rfl|rfl|rfl|rfl|rfl|rfl|rfl|rfl|rfl|rfl
 ·exact⟨((i5.cons (k1 (k:=3)) (i5.cons m1 (i5.nil (m:=0)) (Ye _)) (Ye _)).lst).mono (Ye _) (by decide),(λa b e=>by cases e),.inr (.inr (.inl ⟨_,rfl⟩))⟩
 ·exact⟨((i5.cons (k1 (k:=3)) (i5.nil (m:=0)) (Ye _)).tup).mono (Ye _) (by decide),(λa b e=>by cases e),.inr (.inr (.inr ⟨_,rfl⟩))⟩
 ·exact⟨((i5.cons (k1 (k:=3)) (i5.cons m1 (i5.cons ((i5.nil (k:=3) (m:=0)).tup) (i5.nil (m:=0)) (Ye _)) (Ye _)) (Ye _)).tup).mono (Ye _) (by decide),(λa b e=>by cases e),.inr (.inr (.inr ⟨_,rfl⟩))⟩
 ·exact⟨Fb.mono (Ye _) (by decide),(λa b e=>by cases e),.inl rfl⟩
 ·exact⟨⟨rfl,by unfold PyData.depth;omega,by unfold wt;decide +kernel⟩,(λa b e=>by cases e),.inr (.inl ⟨_,rfl⟩)⟩
 ·exact eK (D7 sk (by omega)) m1 (λds e=>by cases e) (lp (by omega))
 ·exact eK k1 (D7 sm (by omega)) (lp (by omega)) (λds e=>by cases e)
 ·have c:=cat (ns:=[7,7]) (s7 (by decide) (by decide) (by decide) (by decide)) (by decide);exact eK c.1 m1 c.2 (lp (by omega))
 ·exact eK k1 KR.1 (lp (by omega)) KR.2
 ·exact eK KS.1 m1 KS.2 (lp (by omega))
 ·exact eK k1 (((i5.cons (Fj (k:=3) true) (i5.nil (m:=0)) (Ye _)).tup).mono (Ye _) (by decide)) (lp (by omega)) (λds e=>by cases e;decide)
 ·exact eK k1 (Fb.mono (Ye _) (by decide)) (lp (by omega)) (λds e=>by cases e)
 ·have c:=cat (ns:=[3,2]) (s7 (by decide) (by decide) (by decide) (by decide)) (by decide);exact eK c.1 m1 c.2 (lp (by omega))
 ·exact eK k1 (((i5.cons (k:=3) (m:=100) (d:=.str "1") ⟨rfl,by unfold PyData.depth;omega,by unfold wt;decide +kernel⟩ (i5.nil (m:=0)) (Ye _)).tup).mono (Ye _) (by decide)) (lp (by omega)) (λds e=>by cases e;decide)
noncomputable def xf:Sp:=λvs H Q _=>∃(r ah al:Addr)(ks ms:List Int),vs=[.ref r,.ref ah,.ref al]/\a7 H r/\H ah=some (.tup (ks.map V.int))/\H al=some (.tup (ms.map V.int))/\Br ks ms/\∀H' x,a7 H' r->SameBut r H H'->(∃d,Dt (·≠r) H' d x/\C5 d)->Q x H'
theorem q9:CP ["_law_room_here","_law_held","_law_lacked","_law_some"] pq (ar AH):=fe (by decide +kernel)
variable {P:yo}{w:World}{K:PySem.W.Frag}{mg:u9}{base:Heap}
set_option maxHeartbeats 600000 in
theorem zQ {f:Addr}{fd:BG}(F:ve K "_law_bent" "_law_bent" AH f fd)(FA:mg "list"=none)
 (q0:Ca P w K mg base 1 xk "_law_take" ie):ya P w K mg base (cD P w) 2 f fd pq xf:=by
 obtain⟨VH,OR,Nr,Nt,Nu,Nv⟩:=q0;refine F.okN q9 (λvs H Q E h=>?_) (λFv A outer s H vs Q E hr h=>?_)
 ·obtain⟨r,ah,al,ks,ms,rfl,_⟩:=h;rfl
 ·obtain⟨r,ah,al,ks,ms,rfl,Rm,GS,GH,hb,q⟩:=h;have FN:wa 1 _:=hr
  refine⟨_,(au (@aX _ _ 3 _ _ _ _ q9.nd rfl (Or.inl rfl) (cE (aj (cE (aj (pv 1) (aj (pv 2) ag rfl) rfl)) (aj (aJ (aj (pv 1) ag rfl)) (aj (aJ (aj (pv 1) (aj (pv 2) (aj (aJ ag) ag rfl) rfl) rfl)) (aj rh (aj gQ (aj (aJ (aj (bt (mr (K:=K) rfl) (by rfl) FA (by rfl) (aj (pv 1) ag rfl)) (aj (pv 2) ag rfl) rfl)) (aj (aJ (aj (pv 1) (aj (bt (mr (K:=K) rfl) (by rfl) FA (by rfl) (aj (pv 2) ag rfl)) ag rfl) rfl)) ag rfl) rfl) rfl) rfl) rfl) rfl) rfl)) rfl (Or.inl rfl))
   (au (@aX _ _ 3 _ _ _ _ q9.nd rfl (Or.inl rfl) (aK nK (pv 3) (cE (aj (aJ (aj (aK iz (pv 1) (aJ (aj ak (aj ak ag rfl) rfl))) (aj (pv 2) ag rfl) rfl)) (aj (aJ (aj (pv 1) (aj (aK iz (pv 2) (aJ (aj ak ag rfl))) ag rfl) rfl)) (aj (aJ (aj (aK iz (aJ (aj (aK qC ak ak) ag rfl)) (pv 1)) (aj (pv 2) ag rfl) rfl)) (aj (aJ (aj (pv 1) (aj (aJ (aj eE ag rfl)) ag rfl) rfl)) ag rfl) rfl) rfl) rfl))) rfl (Or.inl rfl))
   (ax (aF (aY cA (aK nK (pv 3) (cE (aj (aJ (aj (pv 1) (aj rh ag rfl) rfl)) (aj (aJ (aj (aK iz (pv 1) (aJ (aj ak (aj ak ag rfl) rfl))) (aj (pv 2) ag rfl) rfl)) (aj (aJ (aj (pv 1) (aj (aJ (aj gQ ag rfl)) ag rfl) rfl)) ag rfl) rfl) rfl))) (aH Nr FN (by rfl) Nu Nv Nt .nil ao (aj (pv 0) (aj ak ag rfl) rfl)) (λ_ _=>rfl)))))),?_⟩
  have hF:∀a,H a=none->a≠r:=λa e z=>by
   obtain⟨l,x,e2,_⟩:=Rm;rw[z,e2] at e
   cases e
  have dk:Dt (·≠r) H (dP ks) (.ref ah):=CL GS (d8 ks);have dm:Dt (·≠r) H (dP ms) (.ref al):=CL GH (d8 ms);have M1:∀{σ:St},σ[1]?=some (some (.ref ah))->dj (·≠r) σ H (cc 1) (dP ks):=λe=>cB e dk;have M2:∀{σ:St},σ[2]?=some (some (.ref al))->dj (·≠r) σ H (cc 2) (dP ms):=λe=>cB e dm;dsimp only[qT,ll]
  refine wB (F:=(·≠r)) (H0:=H) (ds:=[.list [dP ks,dP ms],.tuple [dP ks],.tuple [dP ks,dP ms,.tuple []],.none,.str "",.tuple [.list (ks.map PyData.int),dP ms],.tuple [dP ks,.list (ms.map PyData.int)]])
   (av (vN (av (M1 rfl) (av (M2 rfl) aL)) hF (by simp)) (av (aQ (av (M1 rfl) aL) (by simp)) (av (aQ (av (M1 rfl) (av (M2 rfl) (av (aQ aL (by simp)) aL))) (by simp))
    (av (di E6) (av (di (E8 _)) (av (aQ (av (ia hF rfl GS) (av (M2 rfl) aL)) (by simp)) (av (aQ (av (M1 rfl) (av (ia hF rfl GH) aL)) (by simp)) aL))))))) (by simp) λL vs H1 _ s1 eL hd=>?_
  dsimp only[bw,qT,ll];have RP:=Dt.keep (ba.of s1) _ _ dk;have RQ:=Dt.keep (ba.of s1) _ _ dm;have N1:∀{σ:St},σ[1]?=some (some (.ref ah))->dj (·≠r) σ H1 (cc 1) (dP ks):=λe=>cB e RP;have N2:∀{σ:St},σ[2]?=some (some (.ref al))->dj (·≠r) σ H1 (cc 2) (dP ms):=λe=>cB e RQ
  refine uv (F:=(·≠r)) (H0:=H1) (ds:=[.tuple [.tuple (ks.map PyData.int++[.int 7,.int 7]),dP ms],.tuple [dP ks,.tuple (ms.map PyData.int++[.int 60])],.tuple [.tuple ([.int (0-1)]++ks.map PyData.int),dP ms],.tuple [dP ks,.tuple [.bool true]]])
   (av (aQ (av (gC (N1 rfl) (aQ (av (di (BL 7)) (av (di (BL 7)) aL)) (by simp)) (by simp;have:=hb.kl;omega)) (av (N2 rfl) aL)) (by simp)) (av (aQ (av (N1 rfl) (av (gC (N2 rfl) (aQ (av (di (BL 60)) aL) (by simp)) (by simp;have:=hb.ml;omega)) aL)) (by simp))
    (av (aQ (av (gC (aQ (av uM aL) (by simp)) (N1 rfl) (by simp;have:=hb.kl;omega)) (av (N2 rfl) aL)) (by simp)) (av (aQ (av (N1 rfl) (av (aQ (av (di (Fn true)) aL) (by simp)) aL)) (by simp)) aL)))) rfl eL hd (by simp) λL2 OQ H2 _ s2 e2 d2=>?_
  dsimp only[bw,Dz];refine DA ?_;have VI:=Dt.keep (ba.of s2) _ _ RP;have VJ:=Dt.keep (ba.of s2) _ _ RQ;have O1:∀{σ:St},σ[1]?=some (some (.ref ah))->dj (·≠r) σ H2 (cc 1) (dP ks):=λe=>cB e VI;have O2:∀{σ:St},σ[2]?=some (some (.ref al))->dj (·≠r) σ H2 (cc 2) (dP ms):=λe=>cB e VJ
  refine uv (F:=(·≠r)) (H0:=H2) (ds:=[.tuple [dP ks,.none],.tuple [.tuple (ks.map PyData.int++[.int 3,.int 2]),dP ms],.tuple [dP ks,.tuple [.str "1"]]])
   (av (aQ (av (O1 rfl) (av (di E6) aL)) (by simp)) (av (aQ (av (gC (O1 rfl) (aQ (av (di (BL 3)) (av (di (BL 2)) aL)) (by simp)) (by simp;have:=hb.kl;omega)) (av (O2 rfl) aL)) (by simp))
    (av (aQ (av (O1 rfl) (av (aQ (av (di (E8 _)) aL) (by simp)) aL)) (by simp)) aL))) rfl e2 d2 (by simp) λL3 KU H3 n3 s3 e3 d3=>?_
  have S3:=(s1.trans s2).trans s3
  have KO:L3≠r:=λz=>by
   obtain⟨l,x,e,_⟩:=Rm;rw[z,(s1.trans s2) _ _ e] at n3
   cases n3
  obtain⟨l,x,er,M4,M5⟩:=Rm;have RS:=S3 _ _ er;refine⟨_,rfl,r,l,x,14,rfl,RS,M4,M5,by decide,by decide,λz l' r' RT HM Ik OS=>?_⟩;have ln:=d3.len
  have zz:z.toNat<KU.length:=by
   rw[ln];show z.toNat<14;omega
  have ez:KU[z.toNat]?=some KU[z.toNat]:=YZ zz;obtain⟨d,ed,OJ⟩:=d3.at ez;have kp:ba (·≠r) H3 (upd H3 r (.lst [.int l',.int r'])):=ba.put RS λh=>h rfl;refine⟨L3,KU,z,KU[z.toNat],rfl,rfl,bo.of (kp.lst KO e3),?_,q _ _ ⟨l',r',ai,Ik,OS⟩ (λb o e n=>?_) ⟨d,Dt.keep kp _ _ OJ,wR hb d (YA ed)⟩⟩
  ·have:=r6 ez;rwa[Int.toNat_of_nonneg RT] at this
  ·rw[aA n];exact S3 _ _ e
noncomputable def yF (K:Frag)(H:Hp)(a:Addr)(ns:List Int):Prop:=(∃o,H a=some (.frz o (.lst (ns.map V.int))))\/∃(o:Obj)(its:Cu)(n:Nat),K.lookup a=some o/\o.cls=.type "list"/\o.dict=none/\o.data=.seq its n/\its.size<=sizeLine/\L2.aR (ns.map V.int) its.toList
theorem yF.sq (h:yF K H a ns):bo K H a (ns.map V.int):=by
 rcases h with⟨o,h⟩|h
 ·exact .inl (.inr ⟨o,h⟩)
 ·exact .inr h
theorem yF.same (h:yF K H a ns)(S:aC H H'):yF K H' a ns:=by
 rcases h with⟨o,h⟩|h
 ·exact .inl ⟨o,S _ _ h⟩
 ·exact .inr h
theorem yF.but (h:yF K H a ns)(R:a7 H r)(S:SameBut r H H'):yF K H' a ns:=by
 rcases h with⟨o,h⟩|h
 ·refine .inl ⟨o,S _ _ h λz=>?_⟩;obtain⟨l,x,e,_⟩:=R;rw[z,e] at h
  cases h
 ·exact .inr h
theorem a7.same (h:a7 H r)(s:aC H H'):a7 H' r:=let⟨l,x,e,z⟩:=h;⟨l,x,s _ _ e,z⟩
theorem Bo (xs:List V):hU xs none (some 5)=xs.take 5:=by
 unfold hU;rw[show HT.c7 xs.length 0 none=0 from rfl,show HT.c7 xs.length xs.length (some (5:Int))=min 5 xs.length from HT.abH _ _ 5,List.drop_zero,Nat.sub_zero]
 by_cases h:5<=xs.length
 ·rw[uC h]
 ·rw[Nat.min_eq_right (by omega),Yv,List.take_of_length_le (by omega)]
structure Pr (ks:List Int):Prop where
 up:ks.Pairwise (· < ·)
 pl:∀k∈ks,0<=k/\k<7
 ln:ks.length<=5
noncomputable abbrev DF (K:Frag):TE:=DS (rF K) (bq (EY (Dk K) (pP (AU (bq (tC (V.int 7)) Co)) (bw 0) (tT (kx Cr (yi ie [] (λ_ _ _=>False) (bq (cc 1) (bq (tC (V.int 3)) Co))) (tC (V.int 0)))) (cc 0) 1 [2]) zA (A2 (tC (V.int 5)))) Co)
theorem uz (e:σ[2]?=some (some (.ref r)))(R:a7 H r)(q:∀a ks H',Pr ks->a7 H' r->SameBut r H H'->H' a=some (.tup (ks.map V.int))->Q (.ref a) H'):DF K σ H Q:=by
 have F4:σC 1 [2] σ=[none,some (.ref r)]:=by
  show none :: [σ[2]?.join]=_;rw[e];rfl
 refine⟨7,rfl,by decide,by decide,?_⟩;rw[F4]
 refine pT (lo:=0) (n:=(7:Int).toNat) (rest:=[some (.ref r)]) (λj us H'=>a7 H' r/\SameBut r H H'/\∃ks:List Int,us=ks.map V.int/\ks.Pairwise (· < ·)/\(∀k∈ks,0<=k/\k<(j:Int))/\ks.length<=j)
  ⟨R,λb o e _=>e,[],rfl,.nil,(λk hk=>by cases hk),Ye _⟩ (λj us H' hj h=>?_) (λj us H' N hj h k=>?_) (λus H' h=>?_)
 ·obtain⟨_,_,ks,rfl,_,_,hl⟩:=h;rw[Yg];exact Yo hl (Yo hj (by decide))
 ·obtain⟨⟨l,x,er,M4,M5⟩,S,ks,rfl,up,pl,hl⟩:=h;refine⟨_,rfl,r,l,x,3,rfl,er,M4,M5,by decide,by decide,λz l' r' RT HM Ik FN=>⟨rfl,_,rfl,?_⟩⟩;have R':a7 (upd H' r (.lst [.int l',.int r'])) r:=⟨l',r',ai,Ik,FN⟩
  have S':SameBut r H (upd H' r (.lst [.int l',.int r'])):=λb o e n=>by
   rw[aA n];exact S b o e n
  dsimp only
  split
  ·refine⟨_,rfl,k _ _ ⟨R',S',ks++[0+(j:Int)],by rw[Y2];rfl,?_,?_,?_⟩⟩
   ·refine List.pairwise_append.mpr ⟨up,CM _ _,λa ha b hb=>?_⟩;rw[Zm.mp hb];have:=(pl a ha).2;omega
   ·intro a ha
    rcases YI.mp ha with h|h
    ·have:=pl a h;omega
    ·rw[Zm.mp h];omega
   ·rw[Yw];show _+1<=_;omega
  ·exact k _ _ ⟨R',S',ks,rfl,up,λa ha=>by have:=pl a ha;omega,by omega⟩
 ·obtain⟨R',S',ks,rfl,up,pl,hl⟩:=h;intro D hD;refine⟨5,rfl,D,_,rfl,bo.of ai,λp hp=>⟨p,_,rfl,.inl ⟨bo.of ai,λl hl=>?_⟩⟩⟩;rw[Bo,<-List.map_take];have s1:=(aq (o:=.lst (ks.map V.int)) hD).trans (aq (o:=.lst (hU (ks.map V.int) none (some 5))) hp);rw[Bo,<-List.map_take] at s1;have s2:=s1.trans (aq (o:=.tup ((ks.take 5).map V.int)) (by rwa[Bo,<-List.map_take] at hl));exact q l (ks.take 5) _ ⟨up.sublist (CW _ _),λk hk=>pl k (Zq hk),by rw[Y8];omega⟩ (R'.same s2) (S'.trans (.of s2)) ai
theorem Pr.filter (h:Pr ks)(f:Int->Bool):Pr (ks.filter f):=⟨h.up.sublist zL,λk hk=>h.pl k (Y7.mp hk).1,Yq (Zx _ _) h.ln⟩
noncomputable abbrev Cg (K:Frag):TE:=DS (rF K) (bq (pP (Bp K (cc 4)) (bw 0) (tT (kx (yC K true) (cc 0) (cc 1))) (cc 0) 1 [3]) Co)
theorem xH {ah al:Addr}(e3:σ[3]?=some (some (.ref ah)))(e4:σ[4]?=some (some (.ref al)))(hh:H ah=some (.tup (ks.map V.int)))(hl:H al=some (.tup (ms.map V.int)))(hm:ms.length<=5)
 (q:∀a H',aC H H'->H' a=some (.tup ((ms.filter λm=>!decide (m∈ks)).map V.int))->Q (.ref a) H'):Cg K σ H Q:=by
 have F4:σC 1 [3] σ=[none,some (.ref ah)]:=by
  show none :: [σ[3]?.join]=_;rw[e3];rfl
 refine⟨_,e4,al,rfl,⟨_,aU.of hl⟩,?_⟩;rw[F4];refine dW (K:=K) (xs:=ms.map V.int) (rest:=[some (.ref ah)]) (λj us H'=>H=H'/\us=((ms.take j).filter λm=>!decide (m∈ks)).map V.int) ⟨rfl,rfl⟩ (λj us H' hj h=>?_) (λj x us H' N hj hx h k=>?_) (λus H' h=>?_)
 ·obtain⟨rfl,rfl⟩:=h;refine⟨?_,aU.of hl⟩;rw[Yg];refine Yo (Zx _ _) ?_;rw[Y8];exact Yo (ZP _ _) (Yo hm (by decide))
 ·obtain⟨rfl,rfl⟩:=h;rw[YU] at hx;obtain⟨m,em,rfl⟩:=YH.mp hx;refine⟨_,rfl,_,rfl,ah,_,rfl,.inr (aU.of hh),rfl,c9 ks,_,rfl,?_⟩
  have tk:(ms.take (j+1)).filter (λm=>!decide (m∈ks))=(ms.take j).filter (λm=>!decide (m∈ks))++[m].filter λm=>!decide (m∈ks):=by
   rw[YE,em,ZV];rfl
  rw[show(if true=true then !fW (V.int m) (ks.map V.int) else fW (V.int m) (ks.map V.int)) = !decide (m∈ks) from by rw[Yh rfl,dI]];dsimp only
  split
  ·rename_i z
   refine⟨_,rfl,k _ _ ⟨rfl,?_⟩⟩;rw[tk,NI (by exact z),Y2];rfl
  ·rename_i z
   refine k _ _ ⟨rfl,?_⟩;rw[tk,vb (by exact z),List.filter_nil,Zc]
 ·obtain⟨rfl,rfl⟩:=h;rw[Yg,Yv];intro D hD;refine⟨D,_,rfl,.inl ⟨bo.of ai,λl GG=>?_⟩⟩;exact q l _ ((aq hD).trans (aq GG)) ai
theorem Pr.br (hk:Pr ks)(hm:Pr ms):Br ks (ms.filter λm=>!decide (m∈ks)):=
 have f:=hm.filter λm=>!decide (m∈ks)
 ⟨hk.up,f.up,hk.pl,f.pl,λk h=>by
  have:=(Y7.mp h).2
  rwa[Z1,Zn] at this,hk.ln,f.ln⟩
theorem nY (hk:Pr ks)(hm:Pr ms):C5 (.tuple [dP ks,dP ms]):=by
 have lk:=hk.ln;have lm:=hm.ln;exact eK (qi (zx hk.pl) (by omega)) (qi (zx hm.pl) (by omega)) (lp (by omega)) (lp (by omega))
noncomputable def EF (H:Hp)(xs:List V):Prop:=∀x∈xs,∃F d,Dt F H d x/\C5 d
theorem ju {F:Addr->Prop}{H0:Hp}{Q:List V->Hp->Prop}(h:dj F σ H0 te d)(s:aC H0 H)(q:∀v H',aC H H'->Dt F H' d v->ta σ H' λvs H2=>Q (v::vs) H2):bq te ta σ H Q:=h H _ s q
theorem Cs (h:ta σ H λvs H1=>vs.length<=sizeLine/\∀p,H1 p=none->Q (.ref p) (upd H1 p (.lst vs))):rD ta σ H Q:=h
theorem yS {Q:List V->Hp->Prop}(h:te σ H λv H'=>ta σ H' λvs H2=>Q (v::vs) H2):bq te ta σ H Q:=h
theorem zD {K:Frag}{tl:TE}{g:TG}{tb:TS}{D:Ends}(h:tl σ H λx H1=>∃a,x=.ref a/\(∃xs,bo K H1 a xs)/\∃W:Nat->Nat->St->Hp->Prop,(∃m,W 0 m σ H1)/\∀i m σ H,W i m σ H →
 ((yV K a).stop i H/\D.nx σ H)\/((yV K a).go i H/\∃N:St->Hp->Prop,(∀σ' H',N σ' H'->∃m',m'<m/\W (i+1) m' σ' H')/\∀x H',(yV K a).yld i H x H'->g x σ H' λσ2 H2=>tb {D with nx:=N,ct:=N,bk:=D.nx} σ2 H2)):DH (AL K tl) g tb D σ H:=h
theorem sJ (x:V):(!decide (x=x))=false:=by
 rw[YD rfl];rfl
theorem uT {ah al ap:Addr}{fs:List Int}(e2:σ[2]?=some (some (.ref r)))(e3:σ[3]?=some (some (.ref ah)))(e4:σ[4]?=some (some (.ref al)))(e5:σ[5]?=some (some (.ref ap)))(R:a7 H r)(hk:Pr ks)(hm:Pr ms)(hf:Pr fs)(hb:Br ks fs)
 (h3:H ah=some (.tup (ks.map V.int)))(h4:H al=some (.tup (ms.map V.int)))(h5:H ap=some (.tup (fs.map V.int)))(q:∀p xs H',a7 H' r->SameBut r H H'->H' p=some (.lst xs)->EF H' xs->Q (.ref p) H'):
 rD (bq (ng (bq (cc 3) (bq (cc 4) Co))) (bq (ng (bq (cc 3) (bq (cc 5) Co))) (bq (ng (bq (cc 5) (bq (cc 3) Co))) (bq (yi xf [] (λ_ _ _=>False) (bq (cc 2) (bq (cc 3) (bq (cc 5) Co)))) (bq (ng (bq (ng Co) (bq (ng Co) Co))) Co))))) σ H Q:=by
 have d3:Dt (·≠r) H (dP ks) (.ref ah):=CL h3 (d8 ks);have d4:Dt (·≠r) H (dP ms) (.ref al):=CL h4 (d8 ms);have d5:Dt (·≠r) H (dP fs) (.ref ap):=CL h5 (d8 fs);have m3:=cB e3 d3;have m4:=cB e4 d4;have m5:=cB e5 d5;refine Cs ?_;refine ju (aQ (av m3 (av m4 aL)) (by simp)) (aC.refl _) λv1 H1 s1 t1=>?_;refine ju (aQ (av m3 (av m5 aL)) (by simp)) s1 λv2 H2 s2 t2=>?_;refine ju (aQ (av m5 (av m3 aL)) (by simp)) (s1.trans s2) λv3 H3 s3 t3=>?_;have S3:=(s1.trans s2).trans s3;refine yS ⟨_,e2,_,e3,_,e5,r,ah,ap,ks,fs,rfl,R.same S3,S3 _ _ h3,S3 _ _ h5,hb,λH4 v4 R4 S4 t4=>?_⟩;have k4:=ba.but (R.same S3) S4;refine ju (F:=(·≠r)) (H0:=H4) (aQ (av (aQ aL (by simp)) (av (aQ aL (by simp)) aL)) (by simp)) (aC.refl _) λv5 H5 s5 t5=>?_;refine⟨(by decide:5<=sizeLine),λp hp=>?_⟩;have s6:=s5.trans (aq (o:=.lst [v1,v2,v3,v4,v5]) hp);have k6:=ba.trans k4 (ba.of s6);refine q p _ _ (R4.same s6) (((SameBut.of S3).trans S4).trans (.of s6)) ai λx hx=>?_;obtain⟨d,t4,VL⟩:=t4;simp only[Yn,ZA,ED] at hx;have KW:Pr []:=⟨.nil,(λk hk=>by cases hk),Yt _⟩
 rcases hx with rfl|rfl|rfl|rfl|rfl
 ·exact⟨_,_,Dt.keep (ba.trans (ba.of (s2.trans s3)) k6) _ _ t1,nY hk hm⟩
 ·exact⟨_,_,Dt.keep (ba.trans (ba.of s3) k6) _ _ t2,nY hk hf⟩
 ·exact⟨_,_,Dt.keep k6 _ _ t3,nY hf hk⟩
 ·exact⟨_,d,Dt.keep (ba.of s6) _ _ t4,VL⟩
 ·exact⟨_,_,Dt.keep (ba.of (aq hp)) _ _ t5,nY KW KW⟩
noncomputable abbrev wx:Stmt:=(bc 54)
noncomputable def wW (K:Frag):Sp:=λvs H Q _=>∃(a:Addr)(ns:List Int),vs=[.ref a]/\yF K H a ns/\ns.length<=63/\∀H',Q (.bl true) H'
theorem ij:CP ["_law_script","_law_k","_law_room_here","_law_held","_law_lacked","_law_apart","_law_thing","_law_kept","_law_found"] ["_law_script"] (ar wx):=fe (by decide +kernel)
set_option maxHeartbeats 2000000 in
theorem BV {f C CF:Addr}{fd:BG}(F:ve K "law" "law" wx f fd)(hS:ou K)(Ge:mg "max"=none)(Hw:mg "min"=none)(Fz:mg "len"=none)(FD:mg "range"=none)(Fu:mg "tuple"=none)(Gh:mg "repr"=none)(Fs:mg "isinstance"=none)(Gi:mg "bool"=none)
 (q0:Ca P w K mg base 1 EU "_law_room" (vW K))
 (q1:Ca P w K mg base 1 xk "_law_take" ie)
 (q2:Ca P w K mg base 2 pq "_law_bent" xf)
 (q3:Ca P w K mg base 4 n6 "is_bracket" zS)
 (q4:Ca P w K mg base 3 EK "_law_is_bracket" wG)
 (q5:Ca P w K mg base 9 pq "_law_right" (tL C CF)):
 ya P w K mg base (cD P w) 10 f fd ["_law_script"] (wW K):=by
 obtain⟨X4,VM,VN,VO,VP,VQ⟩:=q0;obtain⟨VH,OR,Nr,Nt,Nu,Nv⟩:=q1;obtain⟨X5,VR,VS,VT,VU,VV⟩:=q2;obtain⟨X6,VW,VX,VY,VZ,V0⟩:=q3;obtain⟨X7,V1,V2,V3,V5,V6⟩:=q4;obtain⟨X8,V7,V8,V9,Wa,Wc⟩:=q5;refine F.okN ij (λvs H Q E h=>?_) (λFv A outer s H vs Q E hr h=>?_)
 ·obtain⟨a,ns,rfl,_⟩:=h;rfl
 ·obtain⟨a,ns,rfl,RU,hlen,fin⟩:=h;have KY:wa 9 _:=hr;have GW:wa 4 _:=KY.mono (by decide);have GZ:wa 3 _:=KY.mono (by decide);have GL:wa 2 _:=KY.mono (by decide);have FN:wa 1 _:=KY.mono (by decide)
  refine⟨_,(au (dU Y4 rfl (dR (by rfl) FD (aj (aE (aaD rfl) (by rfl) Ge (by rfl) (aj ak (aj (aE (acG rfl) (by rfl) Hw (by rfl) (aj (aE bH (by rfl) Fz ZU (aj (pv 0) ag rfl)) (aj ak ag rfl) rfl)) ag rfl) rfl)) ag rfl)) (aD (i:=1) ij.nd rfl (Or.inl rfl))
   (au (@aX _ _ 2 _ _ _ _ ij.nd rfl (Or.inr rfl) (aH VN FN (by rfl) VP VQ VO .nil ao (aj (pv 0) (aj (pv 1) ag rfl) rfl)) rfl (Or.inl rfl))
   (au (@aX _ _ 3 _ _ _ _ ij.nd rfl (Or.inr rfl) (bt (fA (K:=K) rfl) (by rfl) Fu (by rfl) (aj (ky tO (bY (N:=["_law_place","_law_room_here"]) (nl:=1) (js:=[2]) (osc:=ar wx) ⟨rfl,rfl,by decide +kernel,by decide +kernel,by decide +kernel,rfl,(.cons ⟨rfl,by decide +kernel⟩ .nil),by decide +kernel⟩ rfl
    (dR (by rfl) FD (aj ak ag rfl))
    (λCq fq sq Hq=>aD (i:=0) (by show(["_law_place","_law_room_here"]:Ez).Nodup;decide +kernel) rfl (Or.inl rfl) (Or.inr rfl))
    (λCq fq sq Hq=>(dG (aO fL (aH Nr FN (by rfl) Nu Nv Nt .nil ao (aj (pv 1) (aj ak ag rfl) rfl)) ak (aV _))))
    (λCq fq sq Hq=>(pv 0))) mY (nM ak)) ag rfl)) rfl (Or.inl rfl))
   (au (@aX _ _ 4 _ _ _ _ ij.nd rfl (Or.inl rfl) (bt (fA (K:=K) rfl) (by rfl) Fu (by rfl) (aj (ky tO (bY (N:=["_law_place","_law_room_here"]) (nl:=1) (js:=[2]) (osc:=ar wx) ⟨rfl,rfl,by decide +kernel,by decide +kernel,by decide +kernel,rfl,(.cons ⟨rfl,by decide +kernel⟩ .nil),by decide +kernel⟩ rfl
    (dR (by rfl) FD (aj ak ag rfl))
    (λCq fq sq Hq=>aD (i:=0) (by show(["_law_place","_law_room_here"]:Ez).Nodup;decide +kernel) rfl (Or.inl rfl) (Or.inr rfl))
    (λCq fq sq Hq=>(dG (aO fL (aH Nr FN (by rfl) Nu Nv Nt .nil ao (aj (pv 1) (aj ak ag rfl) rfl)) ak (aV _))))
    (λCq fq sq Hq=>(pv 0))) mY (nM ak)) ag rfl)) rfl (Or.inl rfl))
   (au (@aX _ _ 5 _ _ _ _ ij.nd rfl (Or.inl rfl) (bt (fA (K:=K) rfl) (by rfl) Fu (by rfl) (aj (bY (N:=["_law_place","_law_held"]) (nl:=1) (js:=[3]) (osc:=ar wx) ⟨rfl,rfl,by decide +kernel,by decide +kernel,by decide +kernel,rfl,(.cons ⟨rfl,by decide +kernel⟩ .nil),by decide +kernel⟩ rfl
    (dy (pv 4))
    (λCq fq sq Hq=>aD (i:=0) (by show(["_law_place","_law_held"]:Ez).Nodup;decide +kernel) rfl (Or.inl rfl) (Or.inr rfl))
    (λCq fq sq Hq=>(dG (aO (show eA _ _ (yC K true) from dF) (pv 0) (pv 1) (by rfl))))
    (λCq fq sq Hq=>(pv 0))) ag rfl)) rfl (Or.inl rfl))
   (au (dU Y4 rfl (dN (cE (aj (aJ (aj (pv 3) (aj (pv 4) ag rfl) rfl)) (aj (aJ (aj (pv 3) (aj (pv 5) ag rfl) rfl)) (aj (aJ (aj (pv 5) (aj (pv 3) ag rfl) rfl)) (aj (aH VS GL (by rfl) VU VV VT .nil ao (aj (pv 2) (aj (pv 3) (aj (pv 5) ag rfl) rfl) rfl)) (aj (aJ (aj (aJ ag) (aj (aJ ag) ag rfl) rfl)) ag rfl) rfl) rfl) rfl) rfl))) (aD (i:=6) ij.nd rfl (Or.inl rfl))
   (au (@aX _ _ 7 _ _ _ _ ij.nd rfl (Or.inl rfl) (aE (jU FN hS) (by rfl) Gh (by rfl) (aj (pv 6) ag rfl)) rfl (Or.inl rfl))
   (au (@aX _ _ 8 _ _ _ _ ij.nd rfl (Or.inl rfl) (aH VX GW (by rfl) VZ V0 VY .nil ao (aj (pv 6) ag rfl)) rfl (Or.inl rfl))
   (ax (bF (PW.pt (dE (bN (bU (aE aZ (by rfl) Fs (by rfl) (aj (pv 8) (aj (cC (by rfl) Gi (by rfl) (show aG (.ty "bool") (.type "bool") from rfl)) ag rfl) rfl)))) (dE (aO fY (pv 8) (aH V2 GZ (by rfl) V5 V6 V3 .nil ao (aj (pv 6) ag rfl)) (aV _)) (dD (aO fY (aE (jU FN hS) (by rfl) Gh (by rfl) (aj (pv 6) ag rfl)) (pv 7) (aV _)))))) (ax (aF eE)) aS)))))
   (ax (bF (bN (bU (aH V8 KY (by rfl) Wa Wc V9 .nil ao (aj (pv 2) (aj (pv 3) (aj (pv 5) ag rfl) rfl) rfl)))) (ax (aF eE)) aS))))))))
   (ax (aF eE))),?_⟩
  refine⟨_,rfl,a,_,rfl,.inl RU.sq,_,_,rfl,_,_,rfl,_,rfl,?_,?_,?_⟩
  ·rw[Yg]
   split <;> split <;> omega
  ·rw[Yg]
   split <;> split <;> omega
  refine lM (lo:=0) (λi σ H'=>(∃o1 o2 o3 o4 o5 o6 o7 o8,σ=[some (.ref a),o1,o2,o3,o4,o5,o6,o7,o8])/\yF K H' a ns) ⟨⟨_,_,_,_,_,_,_,_,rfl⟩,RU⟩ ?_ ?_
  ·rintro i σ G0 hi ⟨⟨o1,o2,o3,o4,o5,o6,o7,o8,rfl⟩,OT⟩
   have Wd:i<60:=by
    rw[Yg] at hi
    split at hi <;> split at hi <;> omega
   refine⟨_,rfl,_,rfl,a,ns,0+(i:Int),rfl,OT.sq,hlen,by omega,by omega,λr l1 r1 Ik FN GL=>?_⟩;have S1:=aq (o:=.lst [.int l1,.int r1]) Ik;have OU:=OT.same S1;have R1:a7 (upd G0 r (.lst [.int l1,.int r1])) r:=⟨l1,r1,ai,FN,GL⟩;generalize (upd G0 r (.lst [.int l1,.int r1]))=G1 at OU R1 |-;clear OT Ik S1;dsimp only[bw,qT,ll];refine uz rfl R1 λah ks G2 hk R2 S2 h2=>?_;refine uz rfl R2 λal ms G3 hm R3 S3 h3=>?_;have RV:=(OU.but R1 S2).but R2 S3;have h23:=R2.adE S3 _ _ h2;clear OU S2 S3 h2 R1 R2;refine xH rfl rfl h23 h3 hm.ln λap G4 S4 h4=>?_;have We:=RV.same S4;have R4:=R3.same S4;have a4:=S4 _ _ h23;have l4:=S4 _ _ h3;have hb:=hk.br hm;have hf:=hm.filter λm=>!decide (m∈ks);clear RV R3 S4 h23 h3;generalize (ms.filter λm=>!decide (m∈ks))=fs at h4 hb hf;refine zD (K:=K) ?_;refine uT rfl rfl rfl rfl R4 hk hm hf hb a4 l4 h4 λp xs G5 R5 S5 h5 ad=>?_;have Wf:=We.but R4 S5;have a5:=R4.adE S5 _ _ a4;have p5:=R4.adE S5 _ _ h4;refine⟨p,rfl,⟨_,bo.of h5⟩,?_⟩;refine ik (K:=K) (xs:=xs) (λj σ H'=>(∃o6 o7 o8,σ=[some (.ref a),some (.int (0+(i:Int))),some (.ref r),some (.ref ah),some (.ref al),some (.ref ap),o6,o7,o8])/\aC G5 H') ⟨⟨_,_,_,rfl⟩,aC.refl _⟩ (λj σ H' _ h=>bo.of (h.2 _ _ h5)) ?_ ?_
   ·rintro j x σ H' hx ⟨⟨o6,o7,o8,rfl⟩,s5⟩;obtain⟨F',d,dt,ok⟩:=ad x (YA hx);have dt:=Dt.keep (ba.of s5) _ _ dt;obtain⟨o,bx,sh,rp⟩:=pG (K:=K) dt ok;refine⟨_,rfl,x,_,rfl,rp,?_⟩;refine⟨_,rfl,x,o,rfl,bx,λH6 s6=>?_⟩;refine⟨_,rfl,_,_,_,_,true,rfl,rfl,(Th.bl (En o)).ty,rfl,true,rfl,?_⟩;refine⟨_,rfl,_,rfl,x,o,rfl,bx.same s6,sh,λH7 s7=>⟨rfl,_,rfl,?_⟩⟩;have Wg:=Dt.keep (ba.of (s6.trans s7)) _ _ dt;obtain⟨_,_,_,Wh⟩:=pG (K:=K) Wg ok;rw[sJ];refine⟨_,rfl,x,_,rfl,Wh,_,rfl,rfl,_,rfl,?_⟩;rw[sJ];exact⟨⟨_,_,_,rfl⟩,(s5.trans s6).trans s7⟩
   ·rintro σ H' ⟨⟨o6,o7,o8,rfl⟩,s5⟩;refine⟨_,rfl,_,rfl,_,rfl,r,ah,ap,ks,fs,rfl,R5.same s5,s5 _ _ a5,s5 _ _ p5,hb,λH8 R8 S8=>⟨true,rfl,?_⟩⟩;exact⟨⟨_,_,_,_,_,_,_,_,rfl⟩,(Wf.same s5).but (R5.same s5) S8⟩
  ·rintro σ H' _;exact fin H'
end K44
namespace Hd
open PySem PySem.W PyProof.Rows
noncomputable def pO (K:Frag)(x qual:Str)(st:Stmt)(f:Addr):Prop:=∃(oc:Value)(od:vi)(kV doc pm:Value)(an:vi)(Fv ct:Value)(FX:Fm),
 K.lookup f=some ⟨oc,od,.func (fnOf x qual (L2.cL st) (L2.cj st) (L2.ar st) .none kV doc pm an Fv ct),FX⟩/\codeIn K Fv qual=true/\keepIn K (.ref f)=true
variable {K:Frag}{x qual:Str}{st:Stmt}
theorem qR {v:Option (Option Value)}(h:a8 K v=eh x qual st)(b:dS K v qual=true):v=some (some (.ref (df v)))/\pO K x qual st (df v):=by
 unfold a8 at h;obtain⟨fd,e,s⟩:=YH.mp (show(pX K v).map AJ=some _ from h);unfold dS at b;rw[e] at b;rw[Yy] at b;unfold pX at e
 split at e
 ·rename_i f
  split at e
  ·rename_i oc od Wi FX hl
   cases e
   refine⟨rfl,oc,od,fd.kwdefaults,fd.doc,fd.pyModule,fd.annotations,fd.code,fd.closureTuple,FX,?_,b.2,b.1⟩;show K.lookup f=_;rw[hl];obtain⟨n,q,p,bd,sc,g,c,dv,kv,dc,pm,an,cd,ct,bl⟩:=fd;unfold AJ at s;simp only[Prod.mk.injEq] at s;obtain⟨rfl,rfl,rfl,rfl,rfl,rfl,rfl,rfl,rfl⟩:=s;rfl
  ·cases e
 ·cases e
variable {f:Addr}
theorem pO.fn (d:pO K x qual st f):∃fd,L2.ve K x qual st f fd:=by
 obtain⟨oc,od,kV,doc,pm,an,Fv,ct,FX,l,c,k⟩:=d;exact⟨_,L2.aaT l c k⟩
theorem pO.keep (d:pO K x qual st f):keepIn K (.ref f)=true:=by
 obtain⟨oc,od,kV,doc,pm,an,Fv,ct,FX,l,c,k⟩:=d;exact k
noncomputable def vY (K:Frag)(x qual:Str)(st:Stmt)(f T:Addr):Prop:=∃(oc:Value)(od:vi)(kV doc pm:Value)(an:vi)(Fv ct:Value)(FX:Fm),
 K.lookup f=some ⟨oc,od,.func (fnOf x qual (L2.cL st) (L2.cj st) (L2.ar st) (.ref T) kV doc pm an Fv ct),FX⟩/\codeIn K Fv qual=true/\keepIn K (.ref f)=true
theorem jn {v:Option (Option Value)}(h:gP K v=eh x qual st)(b:dS K v qual=true)(d:rJ K v=true):v=some (some (.ref (df v)))/\vY K x qual st (df v) (nE K v):=by
 unfold gP at h;obtain⟨fd,e,s⟩:=YH.mp (show(pX K v).map (λfd=>AJ {fd with defaults:=.none})=some _ from h)
 have hd:fd.defaults=.ref (nE K v):=by
  unfold rJ Ea at d;unfold nE Ea;rw[e] at d |-;dsimp only at d |-
  cases q:fd.defaults with
  |ref a=>rfl
  |_=>rw[q] at d;cases d
 unfold dS at b;rw[e] at b;rw[Yy] at b;generalize nE K v=T at hd;unfold pX at e
 split at e
 ·rename_i f
  split at e
  ·rename_i oc od Wi FX hl
   cases e
   refine⟨rfl,oc,od,fd.kwdefaults,fd.doc,fd.pyModule,fd.annotations,fd.code,fd.closureTuple,FX,?_,b.2,b.1⟩;show K.lookup f=_;rw[hl];obtain⟨n,q,p,bd,sc,g,c,dv,kv,dc,pm,an,cd,ct,bl⟩:=fd;unfold AJ at s;simp only[Prod.mk.injEq] at s;have hd:dv=.ref T:=hd;subst hd;obtain⟨rfl,rfl,rfl,rfl,rfl,rfl,rfl,_,rfl⟩:=s;rfl
  ·cases e
 ·cases e
theorem vY.fn {T:Addr}(d:vY K x qual st f T):∃fd,L2.rn K x qual st f fd T:=by
 obtain⟨oc,od,kV,doc,pm,an,Fv,ct,FX,l,c,k⟩:=d;exact⟨_,L2.adz l c k⟩
theorem vY.keep {T:Addr}(d:vY K x qual st f T):keepIn K (.ref f)=true:=by
 obtain⟨oc,od,kV,doc,pm,an,Fv,ct,FX,l,c,k⟩:=d;exact k
theorem pN:∀{vs:nN}{ns:List Int},tH vs ns=true->L2.aR (ns.map L2.V.int) vs
 |[],[],_=>.nil
 |v::vs,n::ns,h=>by
  unfold tH at h;rw[Yy] at h;obtain⟨t,rfl⟩:=iG h.1;exact .cons ⟨t,rfl⟩ (pN h.2)
 |[],_::_,h=>by cases h
 |_::_,[],h=>by cases h
theorem sQ {a:Addr}{ns:List Int}(h:wC K a ns=true)(H:L2.Hp):L2.aU K H a (ns.map L2.V.int):=by
 unfold wC at h
 split at h
 ·rename_i o ho
  rw[Yy] at h;obtain⟨h1,h2⟩:=h
  split at h1
  ·rename_i T hT
   split at h2
   ·rename_i its n hd
    rw[Yy] at h2
    have:T="tuple":=by simpa using h1
    subst this;exact .inr ⟨o,its,n,ho,hT,hd,Zg h2.2,pN h2.1⟩
   ·cases h2
  ·cases h1
 ·cases h
theorem yJ (h:BN K=true):L2.ou K:=by
 unfold BN at h
 split at h
 ·rename_i o ho
  split at h
  ·rename_i T hT
   have:T="dict":=by simpa using h
   subst this;exact⟨o,ho,hT⟩
  ·cases h
 ·cases h
open L2 in
theorem uP {l:OpenLaw}{n k:Nat}{q:yo}{loose:Ez}{XP:(Str->Option Value)->Heap->Prop}{YP:World->Heap->Prop}{d:DefRec}{CX:World->EL}{sp:Frag->Sp}{x:Str}{φ:Frag->Prop}{tabs:Frag->List (Addr×Addr)}
 (hn:l.most=some n)(JE:n<=sizeLine)(J7:d.params.defaults=[])(hr:wa k callerA)
 (hY:∀(w:World)(h:Heap),YP w h->∃K:Frag,φ K/\K.In h)
 (hT:∀(w:World)(s₀:Bi)(mg mb:u9)(h:Heap)(K:Frag),φ K->Ground q loose [] XP w s₀ mg mb h->K.In h->TabsAt (tabs K) h/\∀r∈tabs K,K.lookup r.2=none)
 (F:∀(w:World)(K:Frag)(mg:u9)(fa:Addr)(h:Heap),φ K->K.In h->h.Ns mainGlobals mg->mg d.name=some (.ref fa) →
  ∃fd:FuncData,(∀(s:Bi)(u:Value),BindsTo s fd ⟨[u],[]⟩ [(x,u)])/\∀base:Heap,K.In base->base.Ns mainGlobals mg->vo (tabs K) mg base->ya l.prog w K mg base (CX w) k fa fd [x] (sp K))
 (GY:∀(K:Frag)(H:Hp)(a:Addr)(ns:List Int),ns.length<=n->wm (tabs K) H->bo K H a (ns.map V.int)->sp K [.ref a] H (λv _=>v=.bl true) λ_ _ _=>False)
 (NY:∀(w:World)(H:Hp)(s:Bi)(e:Value)(s':Bi),CX w [] H s (λ_ _ _=>False) e s'->False):
 WalkO q loose XP YP l.row.toRowW d [] (λf vs=>PySem.call f vs):=by
 refine QP.aaP hn J7 λw s₀ s₁ mg mb fa o pm cd doc a vs ns G Y ho hd Gg NS IW hints hlen hg=>?_;obtain⟨K,hφ,KX⟩:=hY w _ Y;obtain⟨fd,hb,hF⟩:=F w K mg fa _ hφ KX G.T.g NS;obtain⟨t1,t2⟩:=hT w s₀ mg mb _ K hφ G KX;exact ady KX G.T.g G.T.b G.T.builtins G.T.nolimit hg IW hints (Yq hlen JE) hr t1 t2 G.T.bmain hF hb (λH hO hS=>GY K H a ns hlen hO hS) λH e s'=>NY w H s₁ e s'
end Hd
namespace K44
open PySem L2 PySem.W Nm
open Hd (gv ga fv df gJ dn dO bu nj eC uk iU dS a8 gP eh rJ nE qj hX wd nW Ex iG vj jo wC qR jn sQ)
section
variable {α:Type}{M:List α->Prop}
theorem zg (h:∀a,M [a]):∀us:List α,us.length=1->M us
 |[a],_=>h a
theorem Fl (h:∀a b,M [a,b]):∀us:List α,us.length=2->M us
 |[a,b],_=>h a b
theorem nt (h:∀a b c,M [a,b,c]):∀us:List α,us.length=3->M us
 |[a,b,c],_=>h a b c
end
section
variable {K:Frag}{f T:Addr}{fd:BG}{oT:Obj}{t:Tok}{n:Nat}
theorem Cv (F:rn K "__init__" "Field.__init__" yg f fd T)(lT:K.lookup T=some oT)(dT:oT.data=.seq #[.int 0 t] n):L2.ck K fd qH [.int 0 t]:=by
 obtain⟨oc,od,kV,doc,pm,an,Fv,ct,FX,rfl,lk,Gg⟩:=F.ex;intro s us KX hl
 cases us with
 |nil=>simp at hl
 |cons a0 r1 =>
  cases r1 with
  |nil=>exact binds_K KX rfl lT dT rfl rfl
  |cons a r=>simp at hl
theorem By (F:rn K "made" "Field.made" xC f fd T)(lT:K.lookup T=some oT)(dT:oT.data=.seq #[.int 1 t] n):L2.ck K fd Bt [.int 1 t]:=by
 obtain⟨oc,od,kV,doc,pm,an,Fv,ct,FX,rfl,lk,Gg⟩:=F.ex;intro s us KX hl
 cases us with
 |nil=>simp at hl
 |cons a0 r1 =>
  cases r1 with
  |nil=>simp at hl
  |cons a1 r2 =>
   cases r2 with
   |nil=>exact binds_K KX rfl lT dT rfl rfl
   |cons a r=>simp at hl
theorem Ck (F:rn K "__init__" "Sum.__init__" qr f fd T)(lT:K.lookup T=some oT)(dT:oT.data=.seq #[.none] n):L2.ck K fd CR []:=by
 obtain⟨oc,od,kV,doc,pm,an,Fv,ct,FX,rfl,lk,Gg⟩:=F.ex;intro s us KX hl
 cases us with
 |nil=>simp at hl
 |cons a0 r1 =>
  cases r1 with
  |nil=>simp at hl
  |cons a1 r2 =>
   cases r2 with
   |nil=>simp at hl
   |cons a2 r3 =>
    cases r3 with
    |nil=>exact binds_K KX rfl lT dT rfl rfl
    |cons a r=>simp at hl
end
section
variable {K:Frag}{x qual n:Str}{st:Stmt}{ps:Ez}
theorem iE {mg:u9}{h:Heap}(X:K.In h)(G:h.Ns mainGlobals mg)(s:a8 K (gv K n)=eh x qual st)(b:dS K (gv K n) qual=true)(hb:∀(kV doc pm:Value)(an:vi)(Fv ct:Value)(us:nN),us.length=ps.length->bindArgs (PySem.W.fnOf x qual (cL st) (cj st) (ar st) .none kV doc pm an Fv ct) ⟨us,[]⟩=pure (ps.zip us)):∃fd,ve K x qual st (ga K n) fd/\L2.ck K fd ps []/\mg n=some (.ref (ga K n))/\keepIn K (.ref (ga K n))=true:=by
 obtain⟨e,d⟩:=qR s b;obtain⟨fd,F⟩:=d.fn;exact⟨fd,F,F.binds hb,mg_of X G e,d.keep⟩
theorem Ad {c:Str}(s:a8 K (fv K c n)=eh x qual st)(b:dS K (fv K c n) qual=true)(i:isFn K (.ref (df (fv K c n)))=true)(hb:∀(kV doc pm:Value)(an:vi)(Fv ct:Value)(us:nN),us.length=ps.length->bindArgs (PySem.W.fnOf x qual (cL st) (cj st) (ar st) .none kV doc pm an Fv ct) ⟨us,[]⟩=pure (ps.zip us)):∃fd,ve K x qual st (df (fv K c n)) fd/\L2.ck K fd ps []/\L2.Meth K (ga K c) n (df (fv K c n))/\findIn K (.ref (ga K c)) n=some (some (.ref (df (fv K c n))))/\isFn K (.ref (df (fv K c n)))=true:=by
 obtain⟨e,d⟩:=qR s b;obtain⟨fd,F⟩:=d.fn;exact⟨fd,F,F.binds hb,⟨e,i,d.keep⟩,e,i⟩
end
noncomputable def yn (_:World)(h:Heap):Prop:=∃K:Frag,vc K=dueK/\K.In h
theorem zf (w:World)(s:Bi)(e:vc (Hd.xg qW s.heap)=dueK):yn w s.heap:=⟨_,e,Hd.mO _ _⟩
theorem qX (w:World)(h h':Heap)(y:yn w h)(k:∀(b:Addr)(o:Obj),h.get? b=some o->h'.get? b=some o):yn w h':=let⟨K,e,i⟩:=y;⟨K,e,λa o q=>k a o (i a o q)⟩
set_option maxHeartbeats 0 in
theorem qm {l:OpenLaw}{w:World}{K:Frag}{mg:u9}{h:Heap}{fa:Addr}(o:vc K=dueK)(X:K.In h)(G:h.Ns mainGlobals mg)(Wj:mg "law"=some (.ref fa)):
 ∃fd:FuncData,(∀(s:Bi)(v:Value),BindsTo s fd ⟨[v],[]⟩ [("_law_script",v)])/\∀base:Heap,K.In base->base.Ns mainGlobals mg->vo [] mg base->ya l.prog w K mg base (cD l.prog w) 10 fa fd ["_law_script"] (wW K):=by
 obtain⟨o1,o2⟩:=Ey (show(qO K,_)=(true,_) from o);simp only[List.cons.injEq,and_true] at o2;obtain⟨s0,s1,s2,s3,s4,s5,s6,s7,s8,s9,Wk,Wl,Gz,Wm,Wn,Wo,Wq,Wr,Ws,Wt,Wu,Wv,Ww,Wx,Wy,Wz,WA,WB,WC,WD,WE,WG,WH,WI,WJ,KP,WK,WL,WM,WN⟩:=o2;unfold qO at o1;simp only[Yy] at o1;obtain⟨g0,g1,g2,g3,g4,g5,g6⟩:=o1;unfold E9 at g0;simp only[Yy] at g0;obtain⟨h0,h1,h2,h3,h4,h5,h6,h7,h8,h9,h10,h11,h12,h13,h14,h15⟩:=g0;unfold EZ at g1;simp only[Yy] at g1;obtain⟨h16,h17,h18,h19,h20,h21,h22,h23,h24,h25,h26,h27,h28,h29,h30,h31⟩:=g1;unfold E7 at g2;simp only[Yy] at g2;obtain⟨h32,h33,h34,h35,h36,h37,h38,h39,h40,h41,h42,h43,h44,h45,h46,h47⟩:=g2;unfold Fe at g3;simp only[Yy] at g3;obtain⟨h48,h49,h50,h51,h52,h53,h54,h55,h56,h57,h58,h59,h60,h61,h62,h63⟩:=g3;unfold EX at g4;simp only[Yy] at g4;obtain⟨h64,h65,h66,h67,h68,h69,h70,h71,h72,h73,h74,h75,h76,h77,h78,h79⟩:=g4;unfold E2 at g5;simp only[Yy] at g5;obtain⟨h80,h81,h82,h83,h84,h85,h86,h87,h88,h89,h90,h91,h92,h93,h94,h95⟩:=g5;unfold Fg at g6;simp only[Yy] at g6;obtain⟨h96,h97,h98,h99,h100,h101,h102,h103,h104,h105,h106,h107,h108,h109,h110⟩:=g6;have m:=λ{n:Str}{v:Value}(e:nsIn K mainGlobals n=some (some v))=>mg_of X G e;have m0:=λ{n:Str}(e:nsIn K mainGlobals n=some none)=>mg_none_of X G e;have Fs:=m0 (bu h0);have F6:=m0 (bu h1);have Gi:=m0 (bu h2);have Iv:=m0 (bu h3);have Fz:=m0 (bu h4);have Fu:=m0 (bu h5);have FY:=m0 (bu h6);have Hv:=m0 (bu h7);have Hl:=m0 (bu h8);have FA:=m0 (bu h9);have FO:=m0 (bu h10);have Fw:=m0 (bu h11);have Ge:=m0 (bu h12);have Hw:=m0 (bu h13);have Gf:=m0 (bu h14);have FD:=m0 (bu h15);have Gh:=m0 (bu h16);have KZ:=m (dn h17);have Ib:=m (dn h18);have GA:=m (dn h19);have F7:=m (dn h20);have GX:=m (dn h21);have Hy:=m (dn h22);obtain⟨Iw,GB⟩:=jo h23;have FH:=m GB;obtain⟨HQ,F9⟩:=jo h24;have Ga:=m F9;obtain⟨RW,OV,Hz,GC,HA⟩:=iE X G (ps:=["thing"]) s0 h25 λ_ _ _ _ _ _=>zg λ_=>rfl;obtain⟨RX,OW,OX,K0,OY⟩:=iE X G (ps:=["thing"]) s1 h26 λ_ _ _ _ _ _=>zg λ_=>rfl;obtain⟨RY,OZ,K1,Iy,K2⟩:=iE X G (ps:=["thing"]) s2 h27 λ_ _ _ _ _ _=>zg λ_=>rfl;obtain⟨RZ,O0,O3,K3,O4⟩:=iE X G (ps:=["thing"]) s3 h28 λ_ _ _ _ _ _=>zg λ_=>rfl;obtain⟨R0,O5,O6,K4,O7⟩:=iE X G (ps:=["field","thing"]) s4 h29 λ_ _ _ _ _ _=>Fl λ_ _=>rfl;obtain⟨R6,O8,O9,K5,Pa⟩:=iE X G (ps:=["field","terms"]) s5 h30 λ_ _ _ _ _ _=>Fl λ_ _=>rfl;obtain⟨Sa,Pb,Pc,K6,WO⟩:=iE X G (ps:=["term"]) s6 h31 λ_ _ _ _ _ _=>zg λ_=>rfl;obtain⟨Sb,Pd,Pe,K7,Pf⟩:=iE X G (ps:=["field","terms"]) s7 h32 λ_ _ _ _ _ _=>Fl λ_ _=>rfl;obtain⟨Sd,Pg,K8,Iz,K9⟩:=iE X G (ps:=["one","other"]) s8 h33 λ_ _ _ _ _ _=>Fl λ_ _=>rfl;obtain⟨Se,Ph,La,IA,Lc⟩:=iE X G (ps:=["top","bottom"]) s9 h34 λ_ _ _ _ _ _=>Fl λ_ _=>rfl;obtain⟨Pj,Le,Lf,Jn,Lg⟩:=iE X G (ps:=["number","prime"]) Wk h35 λ_ _ _ _ _ _=>Fl λ_ _=>rfl;obtain⟨Pk,Lh,Li,Jo,Lj⟩:=iE X G (ps:=["bracket"]) Wl h36 λ_ _ _ _ _ _=>zg λ_=>rfl;obtain⟨Pn,Lk,Ll,Jp,Lm⟩:=iE X G (ps:=["thing"]) Gz h37 λ_ _ _ _ _ _=>zg λ_=>rfl;obtain⟨Po,Ln,Lo,Jq,Lp⟩:=iE X G (ps:=["_law_script","_law_k"]) Wm h38 λ_ _ _ _ _ _=>Fl λ_ _=>rfl;obtain⟨Pp,Lq,HB,GN,HC⟩:=iE X G (ps:=["_law_room_here","_law_many"]) Wn h39 λ_ _ _ _ _ _=>Fl λ_ _=>rfl;obtain⟨Pq,Ls,Lu,Jr,Lv⟩:=iE X G (ps:=["_law_top","_law_base"]) Wo h40 λ_ _ _ _ _ _=>Fl λ_ _=>rfl;obtain⟨Pt,Lw,IB,HD,IC⟩:=iE X G (ps:=["_law_prime","_law_top","_law_base"]) Wq h41 λ_ _ _ _ _ _=>nt λ_ _ _=>rfl;obtain⟨Pu,Lx,Ly,Js,Lz⟩:=iE X G (ps:=["_law_prime","_law_one","_law_other"]) Wr h42 λ_ _ _ _ _ _=>nt λ_ _ _=>rfl;obtain⟨Pw,LA,LB,Jt,LC⟩:=iE X G (ps:=["_law_prime","_law_one","_law_other"]) Ws h43 λ_ _ _ _ _ _=>nt λ_ _ _=>rfl;obtain⟨Px,LD,ID,HE,IE⟩:=iE X G (ps:=["_law_prime","_law_terms"]) Wt h44 λ_ _ _ _ _ _=>Fl λ_ _=>rfl;obtain⟨Py,LF,LG,Ju,LH⟩:=iE X G (ps:=["_law_prime","_law_one","_law_other"]) Wu h45 λ_ _ _ _ _ _=>nt λ_ _ _=>rfl;obtain⟨Pz,LI,LJ,Jv,LK⟩:=iE X G (ps:=["_law_room_here","_law_many"]) Wv h46 λ_ _ _ _ _ _=>Fl λ_ _=>rfl;obtain⟨PB,LL,LM,Jw,LN⟩:=iE X G (ps:=["_law_thing"]) Ww h47 λ_ _ _ _ _ _=>zg λ_=>rfl;obtain⟨PD,LO,LP,Jx,LQ⟩:=iE X G (ps:=["_law_thing"]) Wx h48 λ_ _ _ _ _ _=>zg λ_=>rfl;obtain⟨PF,LR,LS,Jy,LU⟩:=iE X G (ps:=["_law_thing"]) Wy h49 λ_ _ _ _ _ _=>zg λ_=>rfl;obtain⟨PH,LV,LW,Jz,LX⟩:=iE X G (ps:=["_law_room_here","_law_held","_law_lacked"]) Wz h50 λ_ _ _ _ _ _=>nt λ_ _ _=>rfl;obtain⟨PJ,LY,LZ,JA,L8⟩:=iE X G (ps:=["_law_room_here","_law_held","_law_lacked"]) WA h51 λ_ _ _ _ _ _=>nt λ_ _ _=>rfl;obtain⟨JB,IF,Sf,JC,Sg⟩:=iE X G (ps:=["_law_script"]) WB h52 λ_ _ _ _ _ _=>zg λ_=>rfl;obtain⟨Sh,PL,PM,PN,WQ,WR⟩:=Ad (ps:=["self"]) WC h53 h54 λ_ _ _ _ _ _=>zg λ_=>rfl;obtain⟨Si,PQ,PR,PU,WS,WT⟩:=Ad (ps:=["self"]) WD h55 h56 λ_ _ _ _ _ _=>zg λ_=>rfl;obtain⟨Sj,PV,PY,PZ,WU,WV⟩:=Ad (ps:=["self"]) WE h57 h58 λ_ _ _ _ _ _=>zg λ_=>rfl;obtain⟨Sk,P1,P2,P4,WW,WX⟩:=Ad (ps:=["self","filling"]) WG h59 h60 λ_ _ _ _ _ _=>Fl λ_ _=>rfl;obtain⟨Sl,P5,P6,P7,WY,WZ⟩:=Ad (ps:=["self"]) WH h61 h62 λ_ _ _ _ _ _=>zg λ_=>rfl;obtain⟨Sm,P8,L9,Ma,W0,W2⟩:=Ad (ps:=["self","one","other"]) WI h63 h64 λ_ _ _ _ _ _=>nt λ_ _ _=>rfl;obtain⟨Sn,P9,Qa,Qb,W3,W4⟩:=Ad (ps:=["self","top","bottom"]) WJ h65 h66 λ_ _ _ _ _ _=>nt λ_ _ _=>rfl;obtain⟨Sq,Qc,Qd,Qe,W5,W6⟩:=Ad (ps:=["self","thing"]) KP h67 h68 λ_ _ _ _ _ _=>Fl λ_ _=>rfl;obtain⟨Sr,Qf,Qg,Qh,W7,W8⟩:=Ad (ps:=["self","top","bottom"]) WK h69 h70 λ_ _ _ _ _ _=>nt λ_ _ _=>rfl;obtain⟨Mb,Mc⟩:=jn WL h71 h73;have Qi:=h72;have W9:L2.Meth K _ "__init__" _:=⟨Mb,h72,Mc.keep⟩;obtain⟨Ss,Md⟩:=Mc.fn;obtain⟨Xa,Xb,Xc,Me,Mf,Mg⟩:=hX h74;obtain⟨Mh,Mi⟩:=jn WM h75 h77;have Qj:=h76;have Xd:L2.Meth K _ "__init__" _:=⟨Mh,h76,Mi.keep⟩;obtain⟨Su,Mj⟩:=Mi.fn;obtain⟨Xe,Xf,Xg,Ml,Mm,Mn⟩:=hX h78;obtain⟨Qk,Mo⟩:=jn WN h79 h81;have Xh:=h80;have Ql:L2.Meth K _ "made" _:=⟨Qk,h80,Mo.keep⟩;obtain⟨Sv,Mp⟩:=Mo.fn;obtain⟨Xi,Xj,Xk,Mq,Mr,Ms⟩:=hX h82;have Qm:=Wj.symm.trans JC
 cases Qm
 have Mt:=nW Mg;subst Mt;obtain⟨Xl,Mu⟩:=iG Mn;subst Mu;obtain⟨Xm,Mv⟩:=iG Ms;subst Mv;have Xn:=Ck Md Me Mf;have Xo:=Cv Mj Ml Mm;have Qn:=By Mp Mq Mr;have N:Ap mg:=⟨Fs,F6,Gi⟩;have cF:BE K mg (ga K "Field"):=⟨⟨h83,h84,h85,eC h86⟩,bu h87,Ib,(YK.mpr h88),eC h89,eC h90,iU h91,iU h92⟩;have c:vg K mg (ga K "Sum"):=⟨⟨h93,h94,h95,eC h96⟩,bu h97,bu h98,KZ⟩;have cQ:zo K mg (ga K "Sum"):=⟨c,(YK.mpr h99),eC h100,eC h90,iU h91,iU h101⟩;have hP:=sQ h102;have hS:=yJ h103;refine⟨JB,λs v=>?_,λbase _ _ BT=>?_⟩
 ·obtain⟨oc,od,kV,doc,pm,an,Fv,ct,FX,rfl,lk,Gg⟩:=IF.ex;exact .of_eq rfl
 have HF:=abi (P:=l.prog) (w:=w) (base:=base) OV N;have Mw:=abg (P:=l.prog) (w:=w) (base:=base) (mg:=mg) Le;have My:=aba (P:=l.prog) (w:=w) (base:=base) Pg Iv;have Mz:=abb Ph ⟨_,_,My,K8,Iz,K9⟩;have Qo:=abC P9 cF FH ⟨_,_,Mz,La,IA,Lc⟩;have MA:=abL P8 cF ⟨_,_,Qo,Qa,Qb⟩;have Qp:=abt Qf cF FH F7 h105 ⟨_,_,Mz,La,IA,Lc⟩ ⟨_,_,Mw,Lf,Jn,Lg⟩;have Qq:=acb Mp cF F7 h105 ⟨_,_,Qp,Qg,Qh⟩ ⟨_,_,HF,Hz,GC,HA⟩;have Qr:=abq Mj cF ⟨_,_,HF,Hz,GC,HA⟩ FH Hy hP GX h104;have Qs:=acd Qc cF FH N Fu Fz ⟨_,_,My,K8,Iz,K9⟩ ⟨_,_,HF,Hz,GC,HA⟩;have Qt:=abB (P:=l.prog) (w:=w) (base:=base) P5 cF;have Qu:=abJ OW Ga ⟨_,_,HF,Hz,GC,HA⟩;have MB:=adJ OZ Fs Fu FY Hl ⟨_,_,Qu,OX,K0,OY⟩;have Qv:=Ab O0 Fs Fu FY ⟨_,_,HF,Hz,GC,HA⟩;have Qw:=adw O5 cF Fs Fu Fz ⟨_,_,MB,K1,Iy,K2⟩ ⟨_,_,Qs,Qd,Qe⟩;have Qx:=adM (P:=l.prog) (w:=w) (base:=base) Pb Fz;have Qy:=adB O8 Fs FA FO ⟨_,_,Qw,O6,K4,O7⟩;have Qz:=yQ Pd cF Fw ⟨_,_,MA,L9,Ma⟩ Qx Pc K6;have QA:=xr Md c ⟨_,_,Qz,Pe,K7,Pf⟩ ⟨_,_,Qy,O9,K5,Pa⟩;have Xp:L2.Mk K _ _:=⟨h107,Mb,Qi,h108⟩;have Xq:L2.Mk K _ _:=⟨h109,Mh,Qj,h110⟩;have QB:=u0 (P:=l.prog) (w:=w) (base:=base) (CF:=ga K "Field") PQ c;have QC:=uG (P:=l.prog) (w:=w) (base:=base) (CF:=ga K "Field") PV c FA;have QD:=wQ (P:=l.prog) (w:=w) (base:=base) PL c Ge;have QE:=yd P1 c cF Fz FY ⟨_,_,Qv,O3,K3,O4⟩ ⟨_,_,QD,PM,PN⟩ Qq Qn Ql ⟨_,_,MA,L9,Ma⟩ GA h106;have MC:=Dq Lh c cF Fu Fw Xp QA Xn Xq Qr Xo;have MD:=As Lk Fs Fu Fz Hv ⟨_,_,MB,K1,Iy,K2⟩;have ME:=abM (P:=l.prog) (w:=w) (base:=base) Ln Fz;have HG:=abN (P:=l.prog) (w:=w) (base:=base) (mg:=mg) Lq;have MG:=abZ (P:=l.prog) (w:=w) (base:=base) Ls Iv F6;have IG:=ab1 Lw ⟨_,_,MG,Lu,Jr,Lv⟩;have MH:=ab4 Lx ⟨_,_,IG,IB,HD,IC⟩;have MI:=vy LA ⟨_,_,IG,IB,HD,IC⟩;have IH:=xv LD Fw Fz ⟨_,_,MH,Ly,Js,Lz⟩;have MJ:=wJ LF Fu Fw Gf ⟨_,_,MI,LB,Jt,LC⟩ ⟨_,_,IH,ID,HE,IE⟩;have MK:=xt LI Fu FD ⟨_,_,HG,HB,GN,HC⟩;have ML:=uY (P:=l.prog) (w:=w) (base:=base) LL N;have MM:=Aa LO Fs Fu FA Fw Gf ⟨_,_,ML,LM,Jw,LN⟩;have MN:=zp LR Fs Fu Fz ⟨_,_,MM,LP,Jx,LQ⟩;have MO:=zQ LV FA ⟨_,_,HG,HB,GN,HC⟩;have MP:=yk LY cQ cF Fs F6 FA Fu FD ⟨_,_,MC,Li,Jo,Lj⟩ ⟨_,_,MJ,LG,Ju,LH⟩ ⟨_,_,IH,ID,HE,IE⟩ ⟨_,_,MK,LJ,Jv,LK⟩ ⟨_,_,QB,PR,PU⟩ ⟨_,_,Qt,P6,P7⟩ ⟨_,_,QC,PY,PZ⟩ ⟨_,_,QE,P2,P4⟩;exact BV IF hS Ge Hw Fz FD Fu Gh Fs Gi ⟨_,_,ME,Lo,Jq,Lp⟩ ⟨_,_,HG,HB,GN,HC⟩ ⟨_,_,MO,LW,Jz,LX⟩ ⟨_,_,MD,Ll,Jp,Lm⟩ ⟨_,_,MN,LS,Jy,LU⟩ ⟨_,_,MP,LZ,JA,L8⟩
theorem walk {l:OpenLaw}{q:yo}{loose:Ez}{XP:(Str->Option Value)->Heap->Prop}{d:DefRec}(hn:l.most=some 63)(J7:d.params.defaults=[])(hd:d.name="law"):
 WalkO q loose XP yn l.row.toRowW d [] (λf vs=>PySem.call f vs):=by
 refine Hd.uP (n:=63) (k:=10) (x:="_law_script") (CX:=λw=>cD l.prog w) (sp:=λK=>wW K) (φ:=λK=>vc K=dueK) (tabs:=λK=>[]) hn (by decide) J7 ⟨rfl,by decide,by decide,rfl⟩ (λw h y=>y) ?_ (λw K mg fa h o X G e=>qm o X G (by rw[<-hd];exact e)) ?_ ?_
 ·intro w s₀ mg mb h K o Gr KX;exact⟨λr QF=>(nomatch QF),λr QF=>(nomatch QF)⟩
 ·intro K H a ns hl hO hS;refine⟨a,ns,rfl,?_,hl,λ_=>rfl⟩
  rcases hS with(hS|⟨o,hS⟩)|hS
  ·rcases hO.1 a with z|⟨o,xs,z⟩|⟨z,_⟩
   ·rw[z] at hS;cases hS
   ·rw[z] at hS;cases hS
   ·rw[z] at hS;cases hS
  ·exact .inl ⟨o,hS⟩
  ·exact .inr hS
 ·intro w H s e s' z;obtain⟨a,cls,a0,B,d,H',_,_,_,_,hE⟩:=z;exact hE.elim
end K44
open PySem PySem.W PyProof.Rows
set_option maxRecDepth 100000 in
set_option maxHeartbeats 0 in
theorem PySem.Challenge.cw_falsesums_k44_brackets_holds : PySem.Challenge.rw_falsesums_k44_brackets.Holds := by
 refine PySem.W.holds_law (by kernel_rfl) λXr=>?_
 refine PySem.W.holds_open (r:=PySem.Challenge.rw_falsesums_k44_brackets.row) (q:=K44.ic) (loose:=["Field","STEP"]) (Xt:=λs=>xlAt K44.ic K44.lv s&&recOk (PySem.Challenge.rw_falsesums_k44_brackets.row.toRowW).records s) (XP:=XL K44.ic K44.lv)
  (Yf:=λs=>K44.vc (Hd.xg K44.qW s.heap)) (Ya:=λ_=>K44.dueK) (YP:=K44.yn) (N:=7592) ?hl K44.zf K44.qX (λs e=>xl_of s (YK.mp e).1) XL.keeps (by rfl) (by rfl) (by rfl) (λs e=>recFacts_of (YK.mp e).2) (by rfl) (by assumption) (by decide +kernel) ⟨rfl,rfl,rfl,rfl,rfl,by decide +kernel⟩ ?hw ?hc
 case hw=>w_witness2
 case hl=>exact Hd.acq K44.ran1 K44.ran3 K44.ran4
 case hc=>exact K44.walk rfl rfl rfl
