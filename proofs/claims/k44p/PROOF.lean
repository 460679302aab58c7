import PyProof.Rows.All
import Wide.All
import OpenK.AllK
import Wide.FinOn
import Lean
import PyProof.EqAt
import PyProof.EqKinds
import PyProof.TupleCall
import PyProof.NeKinds
import KE.LcSums
import KE.KPairComp
import PyProof.EnumMake
import PyProof.EnumFor
import PyProof.ZipIter
import PyProof.Draws
import KE.KSortTup
import PyProof.Rows.SortWalk
import PyProof.Rows.MinMaxN
import PyProof.Rows.SetFrom
import PyProof.WalkInts
import KE.KSortKey
import PyProof.Rows.TupAdd
import PyProof.ReprRoads
import PyProof.Rows.RegStrFacts
import PySem.Challenge.RW_falsesums_k44_brackets
set_option Elab.async false
set_option linter.all false
set_option maxRecDepth 100000
abbrev ph:=PySem.Value->PySem.Shared->Prop
abbrev vx:=PySem.Str->Option PySem.Value
abbrev Ci:=PySem.Shared
abbrev BB:=PySem.FuncData
abbrev wu:=PySem.Program
abbrev qt:=Option PySem.Value
abbrev m8:=List PySem.Value
abbrev BC:=Array PySem.Value
abbrev yD:=List PySem.Expr
abbrev EG:=List PySem.Str
abbrev vA:=Option PySem.Addr
abbrev CI:=Array (Option PySem.Value)
abbrev p4:List PySem.Str:=["thing"]
abbrev BD:List PySem.Str:=["self","top","bottom"]
abbrev ES:List PySem.Str:=["_law_thing"]
abbrev vv:List PySem.Str:=["_law_prime","_law_one","_law_other"]
abbrev wQ:List PySem.Str:=["_law_room_here","_law_many"]
abbrev n6:List PySem.Str:=["field","terms"]
abbrev qM:List PySem.Str:=["_law_room_here","_law_held","_law_lacked"]
abbrev DO:List PySem.Str:=["one","other"]
abbrev CR:List PySem.Str:=["self","prime"]
abbrev Ez:List PySem.Str:=["self","one","other"]
abbrev DE:List PySem.Str:=["_law_prime","_law_top","_law_base"]
abbrev Ah:List PySem.Str:=["self","field","terms"]
abbrev Bw:List PySem.Str:=["top","bottom"]
abbrev D8:List PySem.Str:=["field","thing"]
abbrev zP:List PySem.Str:=["_law_prime","_law_terms"]
abbrev Ew:List PySem.Str:=["_law_script","_law_k"]
abbrev EL:List PySem.Str:=["_law_top","_law_base"]
def X9:=@PySem.wpAny_bind
def Yb:=@PySem.wpAny_pure
def Yc:=@PySem.Heap.get?_push_of_some
def Yd:=@if_neg
def Ye:=@Nat.le_refl
def Yg:=@List.length_map
def Yh:=@if_pos
def Yi:=@List.mem_cons_of_mem
def Yj:=@List.size_toArray
def Yk:=@PySem.Heap.get?_push_size
def Yl:=@List.mem_cons_self
def Ym:=@PySem.Heap.lt_size
def Yn:=@List.mem_cons
def Yo:=@Nat.lt_of_le_of_lt
def Yp:=@Bool.false_ne_true
def Yq:=@Nat.le_trans
def Yr:=@Nat.ne_of_lt
def Ys:=@Nat.lt_of_lt_of_le
def Yt:=@Nat.zero_le
def Yu:=@decide_eq_false
def Yv:=@List.take_length
def Yw:=@List.length_append
def Yx:=@List.mem_append_right
def Yy:=@Bool.and_eq_true
def Yz:=@Array.length_toList
def YA:=@List.mem_of_getElem?
def YB:=@PySem.wpAny_newObj_type
def YC:=@List.length_cons
def YD:=@decide_eq_true
def YE:=@List.take_add_one
def YF:=@List.map_cons
def YG:=@List.mem_map
def YH:=@Option.map_eq_some_iff
def YI:=@List.mem_append
def YJ:=@PySem.wpAny_call_entry
def YK:=@Bool.and_eq_true_iff
def YL:=@PySem.Heap.get?_update_other
def YM:=@Ne.symm
def YN:=@PySem.wpAny_callSpecial?_slot
def YO:=@List.getElem?_eq_some_iff
def YQ:=@List.pairwise_cons
def YR:=@PySem.wpAny_mono
def YS:=@List.exists_cons_of_length_eq_add_one
def YT:=@List.nodup_cons
def YU:=@List.getElem?_map
def YV:=@Int.toNat_natCast
def YW:=@PySem.wpAny_field
def YX:=@Nat.lt_trans
def YY:=@PySem.wpAny_holding
def YZ:=@List.getElem?_eq_getElem
def Y0:=@PySem.wpAny_setField_rec
def Y1:=@PySem.Heap.SameBut.update
def Y2:=@List.map_append
def Y3:=@PySem.Heap.get?_update_self
def Y4:=@PySem.PassesOwn.never
def Y5:=@Nat.succ.inj
def Y6:=@PySem.wpAny_Call_Name_kw
def Y7:=@List.mem_filter
def Y8:=@List.length_take
def Y9:=@PySem.wpAny_truthy_bool
def Za:=@PyProof.Rows.slot_tuple_getitem
def Zb:=@PySem.Heap.size_push
def Zc:=@List.append_nil
def Zd:=@Int.emod_lt_of_pos
def Ze:=@congrArg
def Zf:=@List.filterMap_cons
def Zg:=@of_decide_eq_true
def Zh:=@Nat.lt_irrefl
def Zi:=@Nat.le_of_lt
def Zj:=@PySem.wpAny_seqItems
def Zk:=@PySem.W.kia_one
def Zl:=@Bool.false_eq_true
def Zm:=@List.mem_singleton
def Zn:=@decide_eq_false_iff_not
def Zo:=@List.lookup_cons
def Zq:=@List.mem_of_mem_take
def Zr:=@Bool.true_and
def Zt:=@List.getD_eq_getElem?_getD
def Zu:=@Array.getElem?_eq_none
def Zv:=@if_false
def Zw:=@Int.emod_nonneg
def Zx:=@List.length_filter_le
def Zy:=@PySem.F.slot_dict_itemiterator_next
def Zz:=@Nat.ne_of_gt
def ZA:=@List.not_mem_nil
def ZC:=@List.any_eq_true
def ZD:=@List.mem_range
def ZE:=@List.mem_append_left
def ZF:=@Bool.false_and
def ZG:=@Nat.pow_le_pow_right
def ZH:=@PySem.wpAny_fieldsOf
def ZI:=@PySem.F.slot_dict_keyiterator_next
def ZJ:=@PySem.Around.under_plainId
def ZK:=@Nat.lt_succ_of_lt
def ZL:=@Bool.eq_iff_iff
def ZM:=@PySem.codeAny_builtin
def ZN:=@PySem.wpAny_attempt
def ZO:=@PySem.F.excBase_ValueError
def ZP:=@Nat.min_le_right
def ZQ:=@List.all_eq_true
def ZR:=@if_true
def ZS:=@PySem.Obj.data_mapFields
def ZT:=@PySem.wpAny_setField
def ZU:=@PySem.boot_len
def ZV:=@List.filter_append
def ZW:=@List.pairwise_iff_getElem
def ZX:=@PySem.sizeLine_eq
def ZY:=@Int.le_refl
def ZZ:=@PySem.wpAny_typeNameOfWhole_itemiter
def Z0:=@Nat.lt_or_ge
def Z1:=@Bool.not_eq_true'
def Z2:=@PySem.Str.length_append
def Z3:=@List.all_cons
def Z4:=@PySem.wpAny_typeNameOfWhole_keyiter
def Z5:=@beq_eq_false_iff_ne
def Z6:=@PySem.mem_of_lookup
def Z7:=@Int.natAbs_mul
def Z8:=@PyProof.Rows.callWith_type1
def Z9:=@List.all_map
def rG:=@Array.getD_eq_getD_getElem?
def Di:=@PyProof.Rows.F.plain_set_update_loop
def xb:=@PySem.wpAny_passesOwn
def zU:=@Int.mul_ne_zero
def xV:=@PyProof.Rows.get?_update_seq
def yn:=@List.any_cons
def nW:=@Array.getElem?_eq_some_iff
def kY:=@Int.eq_of_mul_eq_mul_right
def CU:=@PySem.F.slot_tuple_iterator_next
def qZ:=@PySem.plainId_quiet
def vZ:=@PySem.wpAny_dictEntries
def BS:=@beq_iff_eq
def Cb:=@PySem.wpAny_typeNameOf_itemiter
def vI:=@Nat.le_succ
def EC:=@PySem.wpAny_letGo
def vB:=@List.nodup_nil
def C0:=@beq_self_eq_true
def Fo:=@PySem.F.args_tuple_add_2
def Df:=@PySem.wpAny_typeNameOf_keyiter
def CL:=@List.map_map
def Aq:=@PySem.F.plain_max_loop
def vg:=@PySem.F.called_set
def Ct:=@Nat.mul_le_mul_left
def Fq:=@PySem.F.entry_tuple_add
def rQ:=@PyProof.Rows.listUpdate_at
def Ej:=@PySem.wpAny_rule
def u4:=@List.find?_cons
def Dl:=@List.length_nil
def Dr:=@PySem.wpAny_dictEpoch
def vw:=@PySem.Paired.snoc
def vm:=@PySem.F.slot_tuple_add
def Cs:=@Int.fmod_nonneg_of_pos
def jm:=@PySem.wpAny_isOneOf_itemiter
def yr:=@PySem.wpAny_pyIter_list
def BY:=@Int.emod_eq_of_lt
def Bl:=@decide_eq_true_eq
def CT:=@List.nodup_append
def rC:=@PySem.codeAny_mono
def uP:=@PySem.Obj.isFreed_of_fields
def vD:=@Array.getElem?_toList
def x6:=@Nat.lt_succ_self
def pL:=@PySem.codeAny_call_builtin
def lj:=@PySem.wpAny_isInstance
def DV:=@List.getElem?_append_right
def vK:=@PySem.wpAny_newList
def CD:=@List.mem_map_of_mem
def m9:=@PySem.Heap.get?_update_ne
def B8:=@List.getElem?_append_left
def jV:=@PySem.W.KasT.kasWp_bind
def yW:=@PySem.Calls.call_function_entry
def y9:=@List.drop_eq_getElem_cons
def jL:=@PySem.wpAny_updateSeq
def CQ:=@Classical.byContradiction
def lA:=@PySem.wpAny_pyIter_tuple
def u3:=@PySem.Calls.spliced_cons
def Fl:=@PySem.tupleKind_room_in1
def EE:=@or_false
def BP:=@Rat.divInt_eq_divInt_iff
def x8:=@PyProof.Rows.F.entry_set_update_loop
def Cv:=@decide_eq_true_iff
def wM:=@PySem.wpAny_tryCatch
def uJ:=@Option.bind_eq_some_iff
def Cn:=@List.pairwise_singleton
def u6:=@List.filter_cons_of_neg
def NI:=@List.filter_cons_of_pos
def xq:=@PySem.Calls.spliced_nil
def Ad:=@PySem.wpAny_pyIter_slot
def uH:=@List.length_range
def rB:=@PySem.wpAny_pyNext_list_item
def zT:=@PySem.Calls.callWith_builtin
def xD:=@List.length_eq_one_iff
def EN:=@PySem.wpAny_of_eq
def yB:=@PySem.Paired.length
def lu:=@PySem.wpAny_standAt
def qi:=@PySem.noFill_tuple_add
def wq:=@Nat.le_add_right
def BK:=@Array.size_empty
def Bo:=@PySem.wpAny_pyNext_list_end
def yY:=@List.length_replicate
def BF:=@PySem.F.slot_dict_get
def Aj:=@PySem.wpAny_isOneOf_keyiter
def EW:=@Array.getElem?_setIfInBounds_ne
def Cu:=@PySem.F.args_dict_itemiterator_next_1
def Et:=@PySem.wpAny_execs_nil
def vd:=@PySem.Calls.evalArgs_plain
def qJ:=@PySem.wpAny_typeOf
def Ao:=@List.any_map
def wF:=@PySem.F.entry_dict_itemiterator_next
def vX:=@PySem.F.args_dict_keyiterator_next_1
def rP:=@PySem.wpAny_updateSeq_pair
def zp:=@PySem.F.slot_zip_next
def uG:=@not_or
def zF:=@Nat.zero_add
def CZ:=@Nat.mod_lt
def CH:=@Nat.succ_pos
def zq:=@List.eq_nil_of_length_eq_zero
def xj:=@PySem.F.entry_dict_keyiterator_next
def By:=@PySem.W.plainGet_of
def yU:=@List.filter_sublist
def zk:=@PySem.wpAny_setEntries_of
def zh:=@List.mergeSort_perm
def zD:=@Prod.ext
def gF:=@Int.gcd_pos_of_ne_zero_right
def C3:=@PySem.wpAny_newTuple
def qb:=@PySem.isSubtype_stop
def Ep:=@PySem.F.args_tuple_iterator_next_1
def Ai:=@List.dropLast_concat_getLast
def Az:=@List.Perm.refl
def uD:=@PySem.isSubtype_type
def qg:=@PyProof.Rows.seqEpoch_at
def EH:=@Array.append_assoc
def zA:=@List.mem_filterMap
def B9:=@PySem.W.callWith_K
def yP:=@PySem.SeqAt.EqAt.int_int
def Ar:=@Int.fmod_lt_of_pos
def wc:=@List.map_filterMap
def ll:=@PySem.seq_tuple_add
def jf:=@Int.mul_assoc
def mO:=@PySem.wpAny_handled
def vG:=@PySem.wpAny_onRaise
def ED:=@List.any_eq_false
def Ce:=@List.take_sublist
def zm:=@PySem.Obj.cls_mapFields
def pR:=@Nat.lt_trichotomy
def qe:=@Nat.le_succ_of_le
def qa:=@bne_self_eq_false
def qR:=@List.append_assoc
def qd:=@PySem.wpAny_call
def wO:=@PySem.intKind_is
def wk:=@Nat.le_of_eq
def Cg:=@PySem.concat_meets
def u7:=@List.length_drop
def uK:=@Array.toList_inj
def vN:=@Nat.succ_ne_self
def xQ:=@List.ext_getElem
def qK:=@PySem.wpAny_askSetting
def vL:=@List.of_mem_zip
def Bh:=@List.forIn_cons
def DN:=@List.length_zip
def xo:=@Array.Perm.refl
def zx:=@Nat.not_lt_zero
def vq:=@Nat.min_eq_left
def En:=@Prod.mk.inj
namespace L2
open PySem
theorem A3:(1:Nat)<=sizeLine:=by decide
theorem hJ:(2:Nat)<=sizeLine:=by decide
theorem E3:(3:Nat)<=sizeLine:=by decide
noncomputable def bh (s:Stmt)(j:Nat):Stmt:=match s with
 | .ClassDef _ _ _ body _ _ _ _ _ _ _=>body.getD j (.Pass ⟨0,0,0,0⟩)
 |_=>.Pass ⟨0,0,0,0⟩
noncomputable def cL (s:Stmt):Arguments:=match s with
 | .FunctionDef _ a _ _ _ _ _ _ _ _=>a
 |_=>{posonlyargs:=[],args:=[],vararg:=none,kwonlyargs:=[],kw_defaults:=[],kwarg:=none,defaults:=[]}
noncomputable def cj (s:Stmt):List Stmt:=match s with
 | .FunctionDef _ _ b _ _ _ _ _ _ _=>b
 |_=>[]
noncomputable def ar (s:Stmt):Scope:=match s with
 | .FunctionDef _ _ _ _ _ _ sc _ _ _=>sc
 |_=>{kind:=.function,names:=[],isGenerator:=false,isCoroutine:=false}
end L2
namespace Hd
open PySem PySem.W PyProof.Rows
noncomputable def xr (as:List Addr)(h:Heap):Frag:=as.filterMap λa=>(h.get? a).map λo=>(a,o)
theorem mH (h:Heap):∀as:List Addr,(xr as h).In h
 |[],a,o,e=>by cases e
 |b::as,a,o,e=>by
  unfold xr at e;rw[Zf] at e
  cases q:h.get? b with
  |none =>
   rw[q] at e;exact mH h as a o e
  |some u =>
   rw[q] at e;dsimp only[Option.map_some] at e;rw[Zo] at e
   by_cases z:a=b
   ·subst z;simp only[C0] at e;rw[q];exact e
   ·have:(a==b)=false:=by simpa using z
    simp only[this] at e;exact mH h as a o e
noncomputable abbrev uM:=Str×Str×Arguments×FuncBody×Scope×Addr×List (Str×Addr)×Value×Addr
noncomputable def Bc (fd:BB):uM:=(fd.name,fd.qualname,fd.params,fd.body,fd.scope,fd.globals,fd.closure,fd.defaults,fd.builtins)
noncomputable def oU (K:Frag)(v:Option (Option Value)):Option FuncData:=match v with
 |some (some (.ref f))=>(match K.lookup f with
  |some ⟨_,_,.func fd,_⟩=>some fd
  |_=>none)
 |_=>none
noncomputable def a8 (K:Frag)(v:Option (Option Value)):Option uM:=(oU K v).map Bc
noncomputable def eh (x qual:Str)(st:Stmt):Option uM:=some (x,qual,L2.cL st,.stmts (L2.cj st),L2.ar st,mainGlobals,[],.none,builtinsNs)
noncomputable def df (v:Option (Option Value)):Addr:=match v with
 |some (some (.ref a))=>a
 |_=>0
noncomputable def gH (v:Option (Option Value)):Bool:=match v with
 |some (some (.ref _))=>true
 |_=>false
theorem dn {v:Option (Option Value)}(h:gH v=true):v=some (some (.ref (df v))):=by
 unfold gH at h
 split at h
 ·rfl
 ·cases h
noncomputable def dJ (v:Option (Option Value)):Bool:=match v with
 |some none=>true
 |_=>false
theorem bu {v:Option (Option Value)}(h:dJ v=true):v=some none:=by
 unfold dJ at h
 split at h
 ·rfl
 ·cases h
noncomputable def dS (K:Frag)(v:Option (Option Value))(qual:Str):Bool:=keepIn K (.ref (df v))&&(match oU K v with
 |some fd=>codeIn K fd.code qual
 |none=>false)
noncomputable abbrev gv (K:Frag)(x:Str):Option (Option Value):=nsIn K mainGlobals x
noncomputable abbrev ga (K:Frag)(x:Str):Addr:=df (nsIn K mainGlobals x)
noncomputable abbrev fv (K:Frag)(c x:Str):Option (Option Value):=findIn K (.ref (df (nsIn K mainGlobals c))) x
noncomputable def gR (K:Frag)(v:Option (Option Value)):Option uM:=(oU K v).map λfd=>Bc {fd with defaults:=.none}
noncomputable def Ed (K:Frag)(v:Option (Option Value)):Value:=match oU K v with
 |some fd=>fd.defaults
 |none=>.none
noncomputable def nH (K:Frag)(v:Option (Option Value)):Addr:=match Ed K v with
 | .ref a=>a
 |_=>0
noncomputable def qw (K:Frag)(v:Option (Option Value)):Bool:=match Ed K v with
 | .ref _=>true
 |_=>false
noncomputable def qz (K:Frag)(T:Addr)(p:Value->Bool):Bool:=match K.lookup T with
 |some o=>(match o.data with
  | .seq a _=>(match a.toList with
    |[v]=>p v
    |_=>false)
  |_=>false)
 |none=>false
theorem ia {K:Frag}{T:Addr}{p:Value->Bool}(h:qz K T p=true):∃o v n,K.lookup T=some o/\o.data=.seq #[v] n/\p v=true:=by
 unfold qz at h
 split at h
 ·rename_i o ho
  split at h
  ·rename_i a n hd
   split at h
   ·rename_i v hv
    have:a = #[v]:=by rw[<-Array.toArray_toList (xs:=a),hv]
    subst this;exact⟨o,v,n,ho,hd,h⟩
   ·cases h
  ·cases h
 ·cases h
noncomputable def Eo (n:Int)(v:Value):Bool:=match v with
 | .int i _=>i==n
 |_=>false
theorem iP {n:Int}{v:Value}(h:Eo n v=true):∃t,v=.int n t:=by
 unfold Eo at h
 split at h
 ·rename_i i t
  have:i=n:=by simpa using h
  exact⟨t,by rw[this]⟩
 ·cases h
noncomputable def wo (v:Value):Bool:=match v with
 | .none=>true
 |_=>false
theorem nN {v:Value}(h:wo v=true):v=.none:=by
 unfold wo at h
 split at h
 ·rfl
 ·cases h
noncomputable def uI (v:Option (Option Value))(n:Int):Bool:=match v with
 |some (some u)=>Eo n u
 |_=>false
theorem jn {v:Option (Option Value)}{n:Int}(h:uI v n=true):∃t,v=some (some (.int n t)):=by
 unfold uI at h
 split at h
 ·obtain⟨t,rfl⟩:=iP h;exact⟨t,rfl⟩
 ·cases h
noncomputable def rZ:List Value->List Int->Bool
 |[],[]=>true
 |v::vs,n::ns=>Eo n v&&rZ vs ns
 |_,_=>false
noncomputable def xp (K:Frag)(a:Addr)(ns:List Int):Bool:=match K.lookup a with
 |some o=>(match o.cls with
  | .type T=>T == "tuple"
  |_=>false)&&(match o.data with
  | .seq its _=>rZ its.toList ns&&decide (its.size<=sizeLine)
  |_=>false)
 |none=>false
noncomputable def yx (K:Frag):Bool:=match K.lookup sysModules with
 |some o=>(match o.cls with
  | .type T=>T == "dict"
  |_=>false)
 |none=>false
noncomputable def ny (v:Option (Option Value))(s:String):Bool:=match v with
 |some (some (.builtin t))=>t==s
 |_=>false
theorem eE {v:Option (Option Value)}{s:String}(h:ny v s=true):v=some (some (.builtin s)):=by
 unfold ny at h
 split at h
 ·rename_i t
  have:t=s:=by simpa using h
  rw[this]
 ·cases h
noncomputable def tO (v:Option Bool)(b:Bool):Bool:=match v with
 |some c=>c==b
 |none=>false
theorem iJ {v:Option Bool}{b:Bool}(h:tO v b=true):v=some b:=by
 unfold tO at h
 split at h
 ·rename_i c
  have:c=b:=by simpa using h
  rw[this]
 ·cases h
noncomputable def zX:List Obj->BT->Nat->Option BT
 |[],t,_=>some t
 |o::os,t,n=>match ((t.ins n o).get n).isSome with
  |true=>zX os (t.ins n o) (n+1)
  |false=>none
theorem tY (life:Life):∀(os:List Obj)(t t':BT)(n:Nat),zX os t n=some t'->(absHeap t' (n+os.length) life).objs=(absHeap t n life).objs++os.toArray
 |[],t,t',n,h=>by
  cases h
  simp
 |o::os,t,t',n,h=>by
  unfold zX at h
  cases q:((t.ins n o).get n).isSome with
  |false=>rw[q] at h;cases h
  |true =>
   rw[q] at h;have e:=tY life os _ _ _ h;rw[absHeap_ins q] at e
   have:n+1+os.length=n+(o::os).length:=by simp only[YC];omega
   rw[this] at e;rw[e];show((absHeap t n life).objs.push o)++os.toArray=_;rw[<-Array.append_singleton,EH];simp
noncomputable def EO (s:Ci):Option SharedT:=(zX s.heap.objs.toList .nil 0).map λt=>⟨t,s.heap.objs.size,s.heap.life,s.gens,s.drawn,s.toks,s.os⟩
theorem acT {s:Ci}{x:SharedT}(h:EO s=some x):x.abs=s:=by
 unfold EO at h;obtain⟨t,e,rfl⟩:=YH.mp h;have g:=tY s.heap.life _ _ _ _ e;obtain⟨⟨objs,life⟩,gens,drawn,toks,os⟩:=s
 have z:absHeap t objs.size life=⟨objs,life⟩:=by
  have a:(absHeap t objs.size life).objs=objs:=by
   have l:0+objs.toList.length=objs.size:=by simp
   rw[l] at g;rw[g];simp[absHeap,BT.list]
  exact Ze (Heap.mk · life) a
 show Shared.mk _ _ _ _ _=_;rw[z]
noncomputable def jv (tb:String->Option Builtin)(p:wu)(w:World)(n₀:Nat)(ann:qt):Nat->SharedT->Thread->Option SharedT
 |0,_,_=>none
 |n+1,s,t=>match through t with
  |true=>some s
  |false=>match stepOk n₀ ann t with
   |false=>none
   |true=>match stepT (denote tb) p w s t with
    |some (s',t')=>jv tb p w n₀ ann n s' t'
    |none=>none
section
variable {tb:String->Option Builtin}{p:wu}{w:World}{n₀:Nat}{ann:qt}
theorem jW:∀{n:Nat}{s s':SharedT}{t:Thread},jv tb p w n₀ ann n s t=some s'->topRun tb p w n₀ ann n s.abs t=some s'.abs
 |0,_,_,_,h=>by cases h
 |n+1,s,s',t,h=>by
  unfold jv at h;unfold topRun
  cases he:through t with
  |true=>rw[he] at h;cases h;rfl
  |false =>
   rw[he] at h
   cases hk:stepOk n₀ ann t with
   |false=>rw[hk] at h;cases h
   |true =>
    rw[hk] at h
    cases hs:stepT (denote tb) p w s t with
    |none=>rw[hs] at h;cases h
    |some r=>obtain⟨s₂,t₂⟩:=r;rw[hs] at h;rw[stepT_spec hs];exact jW h
end
noncomputable def jX (tb:String->Option Builtin)(p:wu)(w:World)(N:Nat)(s₀:Ci):Option SharedT :=
 match s₀.heap.isNs mainGlobals&&s₀.gens.size==0 with
 |true=>(EO s₀).bind λx=>(jv tb p w s₀.heap.objs.size (s₀.heap.nsMap mainGlobals "__annotations__") N x (topStub p)).bind λs₁=>match staticsOk (importedModules p.main.body) s₀.heap s₁.abs.heap&&namesBound p s₁.abs.heap&&gensDone s₁.abs&&laidKept s₀.heap s₁.abs.heap with
  |true=>some s₁
  |false=>none
 |false=>none
variable {p:wu}{N:Nat}
theorem acr {tb:String->Option Builtin}{w:World}{s:Ci}{y:SharedT}(h:jX tb p w N s=some y):topFrom tb p w N s=some y.abs:=by
 unfold jX at h;unfold topFrom
 cases q:(s.heap.isNs mainGlobals&&s.gens.size==0) with
 |false=>rw[q] at h;cases h
 |true =>
  rw[q] at h;obtain⟨x,ex,h⟩:=uJ.mp h;obtain⟨z,ez,h⟩:=uJ.mp h;have e:=jW ez;rw[acT ex] at e;dsimp only;rw[e];show(match (staticsOk (importedModules p.main.body) s.heap z.abs.heap&&namesBound p z.abs.heap&&gensDone z.abs&&laidKept s.heap z.abs.heap) with|true=>some z.abs|false=>none)=_
  split at h
  ·cases h
   rename_i q2
   simp only[q2]
  ·cases h
noncomputable def bD (tb:String->Option Builtin)(p:wu)(w:World)(N:Nat):Option SharedT:=(fencedOpening tb p w N).bind (jX tb p w N)
theorem adv {tb:String->Option Builtin}{w:World}{y:SharedT}(h:bD tb p w N=some y):openEnds tb p w N=some y.abs:=by
 unfold bD at h;unfold openEnds;obtain⟨s,e,h⟩:=uJ.mp h;rw[e];exact acr h
theorem ab3 {q:wu}{loose:EG}{Xt:Shared->Bool}{α:Type}{Yf:Shared->α}{Ya:World->α}
 (h1:∀w,(bD treeTable p w N).map (λs=>openSeen q loose (importedModules p.main.body) Xt true s.abs)=some (openGood q loose))
 (h2:∀w,(bD treeTable p w N).map (λs=>Yf s.abs)=some (Ya w)):LeftO p q loose Xt Yf Ya N:=λw=>by
 obtain⟨y,e,z⟩:=YH.mp (h1 w);have z2:=h2 w;rw[e] at z2;rw[adv e];show some (_,_)=_;have z3:Yf y.abs=Ya w:=Option.some.inj z2;rw[z,z3]
section
variable {p q:wu}{loose mods:EG}{Xt:Shared->Bool}{α:Type}{Yf:Shared->α}{Ya:World->α}{N:Nat}
noncomputable abbrev pE (q:wu)(s:Ci):=(seen ((recsOf q).map (·.name)) (ownsOf q) [] {s with gens:=#[]},s.heap.bltView)
noncomputable abbrev oJ (q:wu)(loose mods:EG)(Xt:Shared->Bool)(s:Ci):Bool :=
 s.heap.keysOk (looseW q loose) ((recsOf q).map (·.name)) ((litsOf q).map (·.1)) ((clssOf q (looseW q loose)).map (·.name))&&s.heap.accountedOkI mods&&s.heap.isNs mainGlobals&&s.heap.isNs builtinsNs&&tablesOk q s.heap&&Xt s&&(if true then s.gens.size==0 else !leftWithCleanup s.gens)
noncomputable abbrev oX (q:wu)(loose:EG)(s:Ci):=(tabsOk q s,pinSeenD q (drecsOf q) s,plainSeenE q (looseW q loose) s,plainSeenD q loose s,wideSeen q s,clsSeenW q loose s)
theorem adm
 (h1:∀w,(bD treeTable p w N).map (λs=>pE q s.abs)=some (expectedOf q,bltViewBooted))
 (h2:∀w,(bD treeTable p w N).map (λs=>oJ q loose (importedModules p.main.body) Xt s.abs)=some true)
 (h3:∀w,(bD treeTable p w N).map (λs=>oX q loose s.abs)=some (true,pinGoodD (drecsOf q),plainGoodE q (looseW q loose),plainGoodD q loose,wideGood q,clsGoodW q loose))
 (h4:∀w,(bD treeTable p w N).map (λs=>Yf s.abs)=some (Ya w)):LeftO p q loose Xt Yf Ya N:=by
 refine ab3 (λw=>?_) h4;obtain⟨y,e,z1⟩:=YH.mp (h1 w);have z2:=h2 w;have z3:=h3 w;rw[e] at z2 z3 |-;have z2:oJ q loose (importedModules p.main.body) Xt y.abs=true:=Option.some.inj z2;have z3:oX q loose y.abs=_:=Option.some.inj z3;show some (openSeen q loose (importedModules p.main.body) Xt true y.abs)=_;have e1:openSeen q loose (importedModules p.main.body) Xt true y.abs=((pE q y.abs).1,(pE q y.abs).2,oJ q loose (importedModules p.main.body) Xt y.abs,oX q loose y.abs):=rfl;rw[e1,z1,z2,z3];rfl
theorem acq
 (h1:∀w,(bD treeTable p w N).map (λs=>(pE q s.abs,oJ q loose (importedModules p.main.body) Xt s.abs))=some ((expectedOf q,bltViewBooted),true))
 (h3:∀w,(bD treeTable p w N).map (λs=>oX q loose s.abs)=some (true,pinGoodD (drecsOf q),plainGoodE q (looseW q loose),plainGoodD q loose,wideGood q,clsGoodW q loose))
 (h4:∀w,(bD treeTable p w N).map (λs=>Yf s.abs)=some (Ya w)):LeftO p q loose Xt Yf Ya N:=by
 refine adm (λw=>?_) (λw=>?_) h3 h4
 ·obtain⟨y,e,z⟩:=YH.mp (h1 w);rw[e];exact Ze some (En z).1
 ·obtain⟨y,e,z⟩:=YH.mp (h1 w);rw[e];exact Ze some (En z).2
end
end Hd
namespace L2
open PySem
/-- an own class of exceptions without an __init__ -/
noncomputable def nG (K:PySem.W.Frag)(C:Addr)(IJ:m8)(newId:String):Bool :=
 ((K.lookup C).any λo=>o.cls == .type "type"&&(o.slots.size==6&&o.slots.toList[4]?==some (some (.builtin newId))))&&(PySem.W.clsIn K C).any λcd=>cd.mro.head?==some (.ref C)&&(!cd.hasDel&&(PySem.W.tailIn K IJ cd.mro.tail&&(PySem.W.nsOkIn K cd.ns&&PySem.W.nsIn K cd.ns "__init__"==some none)))
end L2
namespace K44
open PySem L2 PySem.W
open Hd (gv ga fv df gH dn dJ bu ny eE tO iJ dS a8 gR eh qw nH qz ia wo nN Eo iP uI jn xp yx)
noncomputable def ba (i:Nat):Stmt:=PySem.Challenge.pw_falsesums_k44_brackets.main.body.getD i (.Pass ⟨0,0,0,0⟩)
noncomputable def cM:List Int:=[2,3,5,7,11,13,17,19,23,29,31,37,41,43,47,53,59,61,67,71,73,79,83,89,97]
noncomputable abbrev Cc:List Value:=[.type "ValueError",.type "Exception",.type "BaseException",.type "object"]
noncomputable abbrev qh:String:="ValueError.__new__"
noncomputable def E8 (K:Frag):Bool :=
 (dJ (gv K "isinstance") &&
 (dJ (gv K "int") &&
 (dJ (gv K "bool") &&
 (dJ (gv K "abs") &&
 (dJ (gv K "len") &&
 (dJ (gv K "tuple") &&
 (dJ (gv K "all") &&
 (dJ (gv K "any") &&
 (dJ (gv K "zip") &&
 (dJ (gv K "list") &&
 (dJ (gv K "enumerate") &&
 (dJ (gv K "sorted") &&
 (dJ (gv K "max") &&
 (dJ (gv K "min") &&
 (dJ (gv K "set") &&
 (dJ (gv K "range")))))))))))))))))
noncomputable def E2 (K:Frag):Bool :=
 (dJ (gv K "repr") &&
 (gH (gv K "Sum") &&
 (gH (gv K "Field") &&
 (gH (gv K "NoFilling") &&
 (gH (gv K "NoNumber") &&
 (gH (gv K "NoField") &&
 (gH (gv K "PRIMES") &&
 (uI (gv K "FRACTIONS") 0 &&
 (uI (gv K "MOST_PLACES") 60 &&
 (dS K (gv K "is_whole") "is_whole" &&
 (dS K (gv K "is_place") "is_place" &&
 (dS K (gv K "is_product") "is_product" &&
 (dS K (gv K "is_row_of_bits") "is_row_of_bits" &&
 (dS K (gv K "is_term") "is_term" &&
 (dS K (gv K "checked_terms") "checked_terms" &&
 (dS K (gv K "place_of_term") "place_of_term"))))))))))))))))
noncomputable def E1 (K:Frag):Bool :=
 (dS K (gv K "gathered") "gathered" &&
 (dS K (gv K "common_divisor") "common_divisor" &&
 (dS K (gv K "lowest") "lowest" &&
 (dS K (gv K "inverse") "inverse" &&
 (dS K (gv K "bracket_sum") "bracket_sum" &&
 (dS K (gv K "is_bracket") "is_bracket" &&
 (dS K (gv K "_law_room") "_law_room" &&
 (dS K (gv K "_law_take") "_law_take" &&
 (dS K (gv K "_law_lowest") "_law_lowest" &&
 (dS K (gv K "_law_make") "_law_make" &&
 (dS K (gv K "_law_plus") "_law_plus" &&
 (dS K (gv K "_law_times") "_law_times" &&
 (dS K (gv K "_law_gather") "_law_gather" &&
 (dS K (gv K "_law_mult") "_law_mult" &&
 (dS K (gv K "_law_filling") "_law_filling" &&
 (dS K (gv K "_law_whole") "_law_whole"))))))))))))))))
noncomputable def EX (K:Frag):Bool :=
 (dS K (gv K "_law_is_product") "_law_is_product" &&
 (dS K (gv K "_law_is_bracket") "_law_is_bracket" &&
 (dS K (gv K "_law_bent") "_law_bent" &&
 (dS K (gv K "_law_right") "_law_right" &&
 (dS K (gv K "law") "law" &&
 (dS K (fv K "Sum" "reach") "Sum.reach" &&
 (isFn K (.ref (df (fv K "Sum" "reach"))) &&
 (dS K (fv K "Sum" "field") "Sum.field" &&
 (isFn K (.ref (df (fv K "Sum" "field"))) &&
 (dS K (fv K "Sum" "terms") "Sum.terms" &&
 (isFn K (.ref (df (fv K "Sum" "terms"))) &&
 (dS K (fv K "Sum" "worth") "Sum.worth" &&
 (isFn K (.ref (df (fv K "Sum" "worth"))) &&
 (dS K (fv K "Field" "prime") "Field.prime" &&
 (isFn K (.ref (df (fv K "Field" "prime"))) &&
 (dS K (fv K "Field" "plus") "Field.plus"))))))))))))))))
noncomputable def E9 (K:Frag):Bool :=
 (isFn K (.ref (df (fv K "Field" "plus"))) &&
 (dS K (fv K "Field" "settled") "Field.settled" &&
 (isFn K (.ref (df (fv K "Field" "settled"))) &&
 (dS K (fv K "Field" "is_number") "Field.is_number" &&
 (isFn K (.ref (df (fv K "Field" "is_number"))) &&
 (dS K (fv K "Field" "quotient") "Field.quotient" &&
 (isFn K (.ref (df (fv K "Field" "quotient"))) &&
 (dS K (fv K "Sum" "__init__") "Sum.__init__" &&
 (isFn K (.ref (df (fv K "Sum" "__init__"))) &&
 (qw K (fv K "Sum" "__init__") &&
 (qz K (nH K (fv K "Sum" "__init__")) (wo) &&
 (dS K (fv K "Field" "__init__") "Field.__init__" &&
 (isFn K (.ref (df (fv K "Field" "__init__"))) &&
 (qw K (fv K "Field" "__init__") &&
 (qz K (nH K (fv K "Field" "__init__")) (Eo 0) &&
 (dS K (fv K "Field" "made") "Field.made"))))))))))))))))
noncomputable def Fe (K:Frag):Bool :=
 (isFn K (.ref (df (fv K "Field" "made"))) &&
 (qw K (fv K "Field" "made") &&
 (qz K (nH K (fv K "Field" "made")) (Eo 1) &&
 (plainGet K (ga K "Field") Str.empty &&
 (hasDictIn K (ga K "Field") &&
 (plainOver K (ga K "Field") &&
 (ny (fv K "Field" "__setattr__") "object.__setattr__" &&
 (dJ (fv K "Field" "its_prime") &&
 (((clsIn K (ga K "Field")).isSome&&typeIn K (.ref (ga K "Field"))==some (.type "type")) &&
 (ny (fv K "Field" "__class__") "object.__class__" &&
 (ny (specialIn K (.builtin "object.__class__") "__get__") "getset_descriptor.__get__" &&
 (tO (takesIn K (.builtin "object.__class__")) true &&
 (tO (mroIn K (ga K "Field") (.type "object")) true &&
 (plainGet K (ga K "Sum") Str.empty &&
 (hasDictIn K (ga K "Sum") &&
 (plainOver K (ga K "Sum")))))))))))))))))
noncomputable def E5 (K:Frag):Bool :=
 (ny (fv K "Sum" "__setattr__") "object.__setattr__" &&
 (dJ (fv K "Sum" "its_field") &&
 (dJ (fv K "Sum" "its_terms") &&
 (((clsIn K (ga K "Sum")).isSome&&typeIn K (.ref (ga K "Sum"))==some (.type "type")) &&
 (ny (fv K "Sum" "__class__") "object.__class__" &&
 (tO (mroIn K (ga K "Sum") (.type "object")) true &&
 (xp K (ga K "PRIMES") cM &&
 (yx K &&
 (nG K (ga K "NoField") Cc qh &&
 (nG K (ga K "NoNumber") Cc qh &&
 (nG K (ga K "NoFilling") Cc qh &&
 (makesIn K (ga K "Sum") &&
 (keepIn K (.ref (ga K "Sum")) &&
 (makesIn K (ga K "Field") &&
 (keepIn K (.ref (ga K "Field")))))))))))))))))
noncomputable def ql (K:Frag):Bool:=E8 K&&(E2 K&&(E1 K&&(EX K&&(E9 K&&(Fe K&&(E5 K))))))
noncomputable def uX (K:Frag):Bool×List (Option Hd.uM):=(ql K,[a8 K (gv K "is_whole"),a8 K (gv K "is_place"),a8 K (gv K "is_product"),a8 K (gv K "is_row_of_bits"),a8 K (gv K "is_term"),a8 K (gv K "checked_terms"),a8 K (gv K "place_of_term"),a8 K (gv K "gathered"),a8 K (gv K "common_divisor"),a8 K (gv K "lowest"),a8 K (gv K "inverse"),a8 K (gv K "bracket_sum"),a8 K (gv K "is_bracket"),a8 K (gv K "_law_room"),a8 K (gv K "_law_take"),a8 K (gv K "_law_lowest"),a8 K (gv K "_law_make"),a8 K (gv K "_law_plus"),a8 K (gv K "_law_times"),a8 K (gv K "_law_gather"),a8 K (gv K "_law_mult"),a8 K (gv K "_law_filling"),a8 K (gv K "_law_whole"),a8 K (gv K "_law_is_product"),a8 K (gv K "_law_is_bracket"),a8 K (gv K "_law_bent"),a8 K (gv K "_law_right"),a8 K (gv K "law"),a8 K (fv K "Sum" "reach"),a8 K (fv K "Sum" "field"),a8 K (fv K "Sum" "terms"),a8 K (fv K "Sum" "worth"),a8 K (fv K "Field" "prime"),a8 K (fv K "Field" "plus"),a8 K (fv K "Field" "settled"),a8 K (fv K "Field" "is_number"),a8 K (fv K "Field" "quotient"),gR K (fv K "Sum" "__init__"),gR K (fv K "Field" "__init__"),gR K (fv K "Field" "made")])
noncomputable def dueK:Bool×List (Option Hd.uM):=(true,[eh "is_whole" "is_whole" ((ba 10)),eh "is_place" "is_place" ((ba 11)),eh "is_product" "is_product" ((ba 12)),eh "is_row_of_bits" "is_row_of_bits" ((ba 13)),eh "is_term" "is_term" ((ba 29)),eh "checked_terms" "checked_terms" ((ba 30)),eh "place_of_term" "place_of_term" ((ba 31)),eh "gathered" "gathered" ((ba 32)),eh "common_divisor" "common_divisor" ((ba 17)),eh "lowest" "lowest" ((ba 18)),eh "inverse" "inverse" ((ba 19)),eh "bracket_sum" "bracket_sum" ((ba 38)),eh "is_bracket" "is_bracket" ((ba 37)),eh "_law_room" "_law_room" ((ba 40)),eh "_law_take" "_law_take" ((ba 41)),eh "_law_lowest" "_law_lowest" ((ba 42)),eh "_law_make" "_law_make" ((ba 44)),eh "_law_plus" "_law_plus" ((ba 45)),eh "_law_times" "_law_times" ((ba 46)),eh "_law_gather" "_law_gather" ((ba 47)),eh "_law_mult" "_law_mult" ((ba 48)),eh "_law_filling" "_law_filling" ((ba 49)),eh "_law_whole" "_law_whole" ((ba 43)),eh "_law_is_product" "_law_is_product" ((ba 50)),eh "_law_is_bracket" "_law_is_bracket" ((ba 51)),eh "_law_bent" "_law_bent" ((ba 52)),eh "_law_right" "_law_right" ((ba 53)),eh "law" "law" ((ba 54)),eh "reach" "Sum.reach" (bh (ba 34) 8),eh "field" "Sum.field" (bh (ba 34) 5),eh "terms" "Sum.terms" (bh (ba 34) 6),eh "worth" "Sum.worth" (bh (ba 34) 13),eh "prime" "Field.prime" (bh (ba 20) 3),eh "plus" "Field.plus" (bh (ba 20) 6),eh "settled" "Field.settled" (bh (ba 20) 10),eh "is_number" "Field.is_number" (bh (ba 20) 11),eh "quotient" "Field.quotient" (bh (ba 20) 5),eh "__init__" "Sum.__init__" (bh (ba 34) 0),eh "__init__" "Field.__init__" (bh (ba 20) 0),eh "made" "Field.made" (bh (ba 20) 4)])
noncomputable def rT:List Addr:=[1,3,30,31,43,44,55,56,79,80,107,108,114,115,119,120,124,125,126,132,133,139,140,146,147,155,161,162,182,183,184,190,191,197,198,204,205,232,233,239,240,242,243,279,280,286,287,293,294,298,299,312,318,319,353,354,360,361,372,373,405,406,422,423,438,439,443,444,450,451,457,458,464,465,471,472,476,477,483,484,490,491,495,496,502,503,507,508,512,513,517,518,524,525,529,530,534,535]
noncomputable def iz:Program:={PySem.Challenge.pw_falsesums_k44_brackets with main:={PySem.Challenge.pw_falsesums_k44_brackets.main with body:=[ba 0,ba 2,ba 3,ba 4,ba 5,ba 6,ba 7,ba 9,ba 10,ba 11,ba 12,ba 13,ba 15,ba 16,ba 17,ba 18,ba 19,ba 20,ba 22,ba 23,ba 24,ba 25,ba 26,ba 27,ba 29,ba 30,ba 31,ba 32,ba 33,ba 34,ba 35,ba 37,ba 38,ba 40,ba 41,ba 42,ba 43,ba 44,ba 45,ba 46,ba 47,ba 48,ba 49,ba 50,ba 51,ba 52,ba 53,ba 54]} }
noncomputable def lv:List (PySem.Str×WData):=[("STEP",.int 10000000000000000000000000000000000000000000000000000000000000000)]
end K44
section
open PySem PySem.W PyProof.Rows
set_option maxRecDepth 100000 in
set_option maxHeartbeats 0 in
theorem K44.ran1:∀w,(Hd.bD treeTable PySem.Challenge.rw_falsesums_k44_brackets.row.prog w 7592).map (λs=>(Hd.pE K44.iz s.abs,Hd.oJ K44.iz ["Field","STEP"] (importedModules PySem.Challenge.rw_falsesums_k44_brackets.row.prog.main.body) (λs=>xlAt K44.iz K44.lv s&&recOk (PySem.Challenge.rw_falsesums_k44_brackets.row.toRowW).records s) s.abs))=some ((PyProof.Rows.expectedOf K44.iz,bltViewBooted),true):=by
 intro w;kernel_rfl
set_option maxRecDepth 100000 in
set_option maxHeartbeats 0 in
theorem K44.ran3:∀w,(Hd.bD treeTable PySem.Challenge.rw_falsesums_k44_brackets.row.prog w 7592).map (λs=>Hd.oX K44.iz ["Field","STEP"] s.abs)=some (true,pinGoodD (drecsOf K44.iz),plainGoodE K44.iz (looseW K44.iz ["Field","STEP"]),plainGoodD K44.iz ["Field","STEP"],wideGood K44.iz,clsGoodW K44.iz ["Field","STEP"]):=by
 intro w;kernel_rfl
set_option maxRecDepth 100000 in
set_option maxHeartbeats 0 in
theorem K44.ran4:∀w,(Hd.bD treeTable PySem.Challenge.rw_falsesums_k44_brackets.row.prog w 7592).map (λs=>K44.uX (Hd.xr K44.rT s.abs.heap))=some K44.dueK:=by
 intro w;kernel_rfl
end
namespace L2
open PySem PySem.Spec PyProof.Rows
noncomputable abbrev Key:=Sum Int Str
noncomputable def my:Key->Value->Bool
 | .inl k,v=>Value.isInt k v
 | .inr x,v=>Value.isStrOf x v
noncomputable def adN (w:World):Key->Int
 | .inl k=>hashInt k
 | .inr x=>hashStr w x
theorem b8:∀{k:Key}{v:Value},my k v=true->(∃i t,k=Sum.inl i/\v=Value.int i t)\/(∃x t,k=Sum.inr x/\v=Value.str x t)
 | .inl i,v,h=>by
   obtain⟨t,e⟩:=Value.isInt_shape (k:=i) (v:=v) h;exact .inl ⟨i,t,rfl,e⟩
 | .inr x,v,h=>by
   obtain⟨t,e⟩:=Value.isStrOf_shape (x:=x) (v:=v) h;exact .inr ⟨x,t,rfl,e⟩
theorem acF (i:Int)(t:Tok):my (.inl i) (.int i t)=true:=by simp[my,Value.isInt]
theorem Fun (x:Str)(t:Tok):my (.inr x) (.str x t)=true:=by simp[my,Value.isStrOf]
theorem abY (a b:Int):decide ((Sum.inl a:Key)=Sum.inl b)=(a==b):=by
 by_cases e:a=b
 ·subst e;simp
 ·have h:¬(Sum.inl a:Key)=Sum.inl b:=λq=>e (Sum.inl.inj q);rw[Yu h];exact(Z5.mpr e).symm
theorem adG (a b:Str):decide ((Sum.inr a:Key)=Sum.inr b)=decide (a=b):=by
 by_cases e:a=b
 ·subst e;simp
 ·have h:¬(Sum.inr a:Key)=Sum.inr b:=λq=>e (Sum.inr.inj q);rw[Yu h,Yu e]
theorem adj (a:Int)(b:Str):decide ((Sum.inl a:Key)=Sum.inr b)=false:=Yu (λq=>nomatch q)
theorem acD (a:Str)(b:Int):decide ((Sum.inr a:Key)=Sum.inl b)=false:=Yu (λq=>nomatch q)
noncomputable def bX (prog:wu)(w:World):PySem.KeyKind prog w Key where
 is:=my
 hash:=adN w
 inj:=λv a b ha hb=>by
  rcases b8 ha with⟨i,t,rfl,rfl⟩|⟨x,t,rfl,rfl⟩
  ·rcases b8 hb with⟨j,u,rfl,e⟩|⟨y,u,rfl,e⟩
   ·injection e with e1 _;rw[e1]
   ·exact nomatch e
  ·rcases b8 hb with⟨j,u,rfl,e⟩|⟨y,u,rfl,e⟩
   ·exact nomatch e
   ·injection e with e1 _;rw[e1]
 byValue:=λk v h=>by
  rcases b8 h with⟨i,t,rfl,rfl⟩|⟨x,t,rfl,rfl⟩ <;> rfl
 pyHash:=λhv h=>by
  rcases b8 hv with⟨i,t,rfl,rfl⟩|⟨x,t,rfl,rfl⟩
  ·exact wpAny_pyHash_int h
  ·exact wpAny_pyHash_str h
 eqBool:=λhu hv h=>by
  rcases b8 hu with⟨i,t,rfl,rfl⟩|⟨x,t,rfl,rfl⟩
  ·rcases b8 hv with⟨j,u,rfl,rfl⟩|⟨y,u,rfl,rfl⟩
   ·rw[abY] at h;exact wpAny_eqBool_int h
   ·rw[adj] at h;exact SeqAt.EqAt.int_str i t y u _ _ _ _ h
  ·rcases b8 hv with⟨j,u,rfl,rfl⟩|⟨y,u,rfl,rfl⟩
   ·rw[acD] at h;exact SeqAt.EqAt.str_int x t j u _ _ _ _ h
   ·rw[adG] at h;exact wpAny_eqBool_str h
 «strs»:=λk x t v h=>by
  rcases b8 h with⟨i,u,rfl,e⟩|⟨y,u,rfl,e⟩
  ·exact nomatch e
  ·injection e with e1 _
   subst e1
   cases v <;> rfl
theorem adW (prog:wu)(w:World)(i:Int)(t:Tok):(bX prog w).is (.inl i) (.int i t)=true:=acF i t
theorem acB (prog:wu)(w:World)(x:Str)(t:Tok):(bX prog w).is (.inr x) (.str x t)=true:=Fun x t
inductive V where
 |non|bl (b:Bool)|int (i:Int)|str (x:Str)|byt (b:Array UInt8)|flt (b:UInt64)|ref (a:Addr)|ty (n:String)
 deriving DecidableEq
noncomputable def aG:V->Value->Prop
 | .non,u=>u=Value.none
 | .bl b,u=>u=Value.bool b
 | .int i,u=>∃t,u=Value.int i t
 | .str x,u=>∃t,u=Value.str x t
 | .byt b,u=>∃t,u=Value.bytes b t
 | .flt b,u=>∃t,u=Value.float b t
 | .ref a,u=>u=Value.ref a
 | .ty n,u=>u=Value.type n
noncomputable abbrev aR:List V->List Value->Prop:=Paired aG
variable {us:m8}
theorem aR.length {xs:List V}(r:aR xs us):xs.length=us.length:=yB r
theorem aR.get:∀{xs:List V}{us:m8}{i:Nat}{x:V},aR xs us->xs[i]?=some x->∃u,us[i]?=some u/\aG x u
 |_,_,_,_,.nil,e=>by simp at e
 |_,_,0,_,.cons r _,e=>by simp at e;subst e;exact⟨_,rfl,r⟩
 |_,_,i+1,x,.cons _ t,e=>by
  obtain⟨u,h1,h2⟩:=aR.get (i:=i) (x:=x) t (by simpa using e);exact⟨u,by simpa using h1,h2⟩
variable {u:Value}
theorem aR.set {x:V}(r:aG x u):∀{xs:List V}{us:m8}(i:Nat),aR xs us->aR (xs.set i x) (us.set i u)
 |_,_,_,.nil=>.nil
 |_,_,0,.cons _ t=>.cons r t
 |_,_,i+1,.cons q t=>.cons q (aR.set r i t)
theorem aR.append:∀{xs ys:List V}{us ws:m8},aR xs us->aR ys ws->aR (xs++ys) (us++ws)
 |_,_,_,_,.nil,s=>s
 |_,_,_,_,.cons r t,s=>.cons r (aR.append t s)
theorem aR.take:∀{xs:List V}{us:m8}(n:Nat),aR xs us->aR (xs.take n) (us.take n)
 |_,_,0,_=>.nil
 |_,_,_+1,.nil=>.nil
 |_,_,n+1,.cons r t=>.cons r (aR.take n t)
theorem aR.drop:∀{xs:List V}{us:m8}(n:Nat),aR xs us->aR (xs.drop n) (us.drop n)
 |_,_,0,r=>r
 |_,_,_+1,.nil=>.nil
 |_,_,n+1,.cons _ t=>aR.drop n t
noncomputable def fO:Option V->Option Value->Prop
 |some v,some u=>aG v u
 |none,none=>True
 |_,_=>False
noncomputable def KV {κ:Type}:List (κ×V)->List (κ×Value)->Prop:=Paired λ(p:κ×V)(q:κ×Value)=>p.1=q.1/\aG p.2 q.2
noncomputable def kV:Key->V
 | .inl i=>.int i
 | .inr x=>.str x
inductive HO where
 /-- a list -/
 |lst (xs:List V)
 /-- a tuple (never changes) -/
 |tup (xs:List V)
 /-- a dict JQ keys are ints and texts;one JQ keys are tuples of ints and texts (Ic empty one is both) -/
 |dK (Ft:List (Key×V))|dT (Ft:List (List Key×V))
 /-- a set of ints: its members,its size -/
 |set (S:Int->Bool)(n:Nat)
 /-- an instance of Ic class at C,its dict at dx,its attributes -/
 |ins (C dx:Addr)(fs:List (Str×V))
 /-- Ic dict of Ic instance at x -/
 |own (x:Addr)
 /-- Ic dict of an exception -/
 |xd (fs:List (Str×V))
 /-- a bound method,f of x -/
 |met (f x:Addr)
 /-- a range object lo,lo+1,.. below hi -/
 |rng (lo hi:Int)
 /-- a JR Sw is known to Ic object (Ic Nw;a dict while a n9 AW it): read,never written while it is so -/
 |frz (o:Obj)(u:HO)
 /-- a code JS table -/
 |tbl (ps:BC)
 /-- any other JR,by Sx is true of its one object (a def of QG own: Sy a S n:=HO.ext λh=>..) -/
 |ext (φ:Heap->Prop)
noncomputable abbrev Hp:=Addr->Option HO
noncomputable def upd (H:Hp)(a:Addr)(o:HO):Hp:=λb=>if b=a then some o else H b
variable {H:Hp}{a:Addr}{o:HO}
theorem ai :upd H a o a=some o:=by unfold upd;rw[Yh rfl]
variable {b:Addr}
theorem aA (h:b≠a):upd H a o b=H b:=by unfold upd;rw[Yd h]
theorem tU {u:HO}:upd (upd H a o) a u=upd H a u:=by
 funext b;unfold upd;split <;> rfl
theorem Ba {u:HO}(h:H a=some o)(h':H b=some u)(d:o≠u):a≠b:=by
 intro e;subst e;rw[h] at h';exact d (Option.some.inj h')
theorem aB (h:H a=some o)(h':H b=none):a≠b:=by
 intro e;subst e;rw[h] at h';cases h'
section
variable (P:wu)(w:World)
noncomputable def bE (H:Hp)(h:Heap)(a:Addr):HO->Prop
 | .lst xs=>xs.length<=sizeLine/\∃(its:m8)(n:Nat),aR xs its/\h.get? a=some {cls:=.type "list",data:=.seq its.toArray n}
 | .tup xs=>xs.length<=sizeLine/\∃its:List Value,aR xs its/\IsTup h a its.toArray
 | .dK Ft=>Ft.length<=sizeLine/\(a==sysModules)=false/\∃vs,KV Ft vs/\h.DictOf (bX P w) a vs
 | .dT Ft=>Ft.length<=sizeLine/\(a==sysModules)=false/\∃xs:List (List Key×Addr×Value),
  Paired (λ(p:List Key×V)(q:List Key×Addr×Value)=>p.1=q.1/\H q.2.1=some (.tup (p.1.map kV))/\aG p.2 q.2.2) Ft xs /\
  ∃o es ep,h.get? a=some o/\o.ExactDict/\o.data=.dict es ep/\es.toList=xs.map (entryOfKey (tupleKind (bX P w)))/\(xs.map (·.1)).Nodup
 | .set S n=>h.SetOf (intKind P w) a S n
 | .ins C dx fs=>H dx=some (.own a)/\fs.length<=1000/\dx≠a/\h.get? a=some (PySem.W.instObj C dx) /\
  ∃mA,h.Ns1 dx mA/\(∀f,fO (fs.lookup f) (mA f))/\PySem.Within mA (fs.map (·.1))
 | .own _=>∃o,h.get? a=some o
 | .xd fs=>∃mA,h.Ns1 a mA/\∀f,fO (fs.lookup f) (mA f)
 | .rng lo hi=>∃t u v,h.get? a=some {cls:=.type "range",data:=.fields #[.int lo t,.int hi u,.int 1 v]}
 | .frz o u=>h.get? a=some o/\bE H h a u
 | .tbl ps=>h.get? a=some {cls:=.none,data:=.fields ps}
 | .met f x=>h.get? a=some (PySem.W.methodObj (.ref f) (.ref x))
 | .ext φ=>φ h/\(∃o,h.get? a=some o)/\∀h1 h2:Heap,φ h1->(∀o,h1.get? a=some o->h2.get? a=some o)->φ h2
noncomputable def fZ (H:Hp)(h:Heap):Prop:=∀a o,H a=some o->bE P w H h a o
end
section
variable {P:wu}{w:World}{H H':Hp}{h h':Heap}{a:Addr}{o:HO}
theorem bE.lt (x:bE P w H h a o):a<h.objs.size:=by
 cases o with
 |lst xs=>obtain⟨_,_,_,_,e⟩:=x;exact Ym e
 |tup xs=>obtain⟨_,_,_,p⟩:=x;exact p.lt
 |dK Ft=>obtain⟨_,_,_,_,o,_,_,e,_⟩:=x;exact Ym e
 |dT Ft=>obtain⟨_,_,_,_,o,_,_,e,_⟩:=x;exact Ym e
 |set S n=>obtain⟨o,_,_,_,e,_⟩:=x;exact Ym e
 |ins C dx fs=>obtain⟨_,_,_,e,_⟩:=x;exact Ym e
 |own y=>obtain⟨_,e⟩:=x;exact Ym e
 |xd fs=>obtain⟨_,⟨_,_,_,e,_⟩,_⟩:=x;exact Ym e
 |rng lo hi=>obtain⟨_,_,_,e⟩:=x;exact Ym e
 |frz ob u=>obtain⟨e,_⟩:=x;exact Ym e
 |tbl ps=>exact Ym (show h.get? a=some _ from x)
 |met f y=>exact Ym (show h.get? a=some _ from x)
 |ext φ=>obtain⟨_,⟨_,e⟩,_⟩:=x;exact Ym e
theorem Paired.adn {α β:Type}{F G:α->β->Prop}:∀{l₁:List α}{l₂:List β},Paired F l₁ l₂->(∀a b,F a b->G a b)->Paired G l₁ l₂
 |_,_,.nil,_=>.nil
 |_,_,.cons r t,f=>.cons (f _ _ r) (Paired.adn t f)
theorem bE.adk (x:bE P w H h a o)(k:∀b u,(b=a\/H b=some (.own a))->h.get? b=some u->h'.get? b=some u)
 (ho:∀b,H b=some (.own a)->H' b=some (.own a))(ht:∀b xs,H b=some (.tup xs)->H' b=some (.tup xs)):bE P w H' h' a o:=by
 induction o with
 |lst xs=>obtain⟨z,its,n,r,e⟩:=x;exact⟨z,its,n,r,k _ _ (.inl rfl) e⟩
 |tup xs=>obtain⟨z,its,r,ob,e,c⟩:=x;exact⟨z,its,r,ob,k _ _ (.inl rfl) e,c⟩
 |dK Ft=>obtain⟨z,y,vs,r,ob,es,ep,e,c⟩:=x;exact⟨z,y,vs,r,ob,es,ep,k _ _ (.inl rfl) e,c⟩
 |dT Ft =>
  obtain⟨z,y,xs,r,ob,es,ep,e,c⟩:=x;exact⟨z,y,xs,Paired.adn r λp q z=>⟨z.1,ht _ _ z.2.1,z.2.2⟩,ob,es,ep,k _ _ (.inl rfl) e,c⟩
 |set S n=>obtain⟨ob,es,ep,t,e,c⟩:=x;exact⟨ob,es,ep,t,k _ _ (.inl rfl) e,c⟩
 |ins C dx fs =>
  obtain⟨d,z,ne,e,mA,⟨od,es,ep,e2,c⟩,r⟩:=x;exact⟨ho _ d,z,ne,k _ _ (.inl rfl) e,mA,⟨od,es,ep,k _ _ (.inr d) e2,c⟩,r⟩
 |own y=>obtain⟨ob,e⟩:=x;exact⟨ob,k _ _ (.inl rfl) e⟩
 |xd fs=>obtain⟨mA,⟨od,es,ep,e,c⟩,r⟩:=x;exact⟨mA,⟨od,es,ep,k _ _ (.inl rfl) e,c⟩,r⟩
 |rng lo hi=>obtain⟨t,u,v,e⟩:=x;exact⟨t,u,v,k _ _ (.inl rfl) e⟩
 |frz ob u ih=>obtain⟨e,q⟩:=x;exact⟨k _ _ (.inl rfl) e,ih q⟩
 |tbl ps =>
  have e:h.get? a=some {cls:=.none,data:=.fields ps}:=x;show h'.get? a=some {cls:=.none,data:=.fields ps};exact k a _ (.inl rfl) e
 |met f y =>
  have e:h.get? a=some (PySem.W.methodObj (.ref f) (.ref y)):=x;show h'.get? a=some (PySem.W.methodObj (.ref f) (.ref y));exact k a _ (.inl rfl) e
 |ext φ=>obtain⟨p,⟨o,e⟩,st⟩:=x;exact⟨st _ _ p λo q=>k _ _ (.inl rfl) q,⟨o,k _ _ (.inl rfl) e⟩,st⟩
theorem fZ.lt (x:fZ P w H h)(e:H a=some o):a<h.objs.size:=(x a o e).lt
theorem fZ.fresh (x:fZ P w H h)(e:h.objs.size<=a):H a=none:=by
 cases q:H a with
 |none=>rfl
 |some u=>exact absurd (Ys (x.lt q) e) (Zh _)
theorem fZ.kept (x:fZ P w H h)(k:∀b u,h.get? b=some u->h'.get? b=some u):fZ P w H h':=λa o e =>
 (x a o e).adk (λb u _ q=>k b u q) (λ_ q=>q) λ_ _ q=>q
theorem fZ.laid (x:fZ P w H h)(k:∀b u,h.get? b=some u->h'.get? b=some u)(hp:h.objs.size<=a)(new:bE P w (upd H a o) h' a o):fZ P w (upd H a o) h':=λb u e=>by
 have hn:=x.fresh hp
 by_cases hb:b=a
 ·subst hb;rw[ai] at e;cases e;exact new
 ·rw[aA hb] at e
  exact(x b u e).adk (λc v _ q=>k c v q) (λc q=>by rw[aA (aB q hn)];exact q) λc xs q=>by rw[aA (aB q hn)];exact q
end
noncomputable def Rd (H:Hp)(a:Addr)(u:HO):Prop:=H a=some u\/∃o,H a=some (.frz o u)
theorem Rd.of {u:HO}(h:H a=some u):Rd H a u:=.inl h
variable {P:wu}{w:World}{h:Heap}
theorem Rd.ok {u:HO}(r:Rd H a u)(x:fZ P w H h):bE P w H h a u:=by
 rcases r with r|⟨o,r⟩
 ·exact x a u r
 ·obtain⟨_,q⟩:=x a _ r;exact q
noncomputable def D0:Option HO->Prop
 |some (.lst _)=>True
 |some (.dK _)=>True
 |some (.dT _)=>True
 |some (.set _ _)=>True
 |some (.ins _ _ _)=>True
 |some (.ext _)=>True
 |_=>False
section
variable {P:wu}{w:World}{H:Hp}{h h':Heap}{x e:Addr}{o':HO}
theorem fZ.write (ok:fZ P w H h)(mu:D0 (H x))(he:e=x\/H e=some (.own x))(k:∀b u,b≠e->h.get? b=some u->h'.get? b=some u)(JD:∃u,h'.get? e=some u)
 (new:bE P w (upd H x o') h' x o'):fZ P w (upd H x o') h':=λb u q=>by
 have JT:∀c y,H c=some (.own y)->c≠x:=λc y r z=>by subst z;rw[r] at mu;exact mu
 have Nx:∀c xs,H c=some (.tup xs)->c≠x:=λc xs r z=>by subst z;rw[r] at mu;exact mu
 by_cases hb:b=x
 ·subst hb;rw[ai] at q;cases q;exact new
 ·rw[aA hb] at q
  by_cases IK:b=e
  ·have q':H b=some (.own x):=by
    rcases he with z|z
    ·exact absurd (IK.trans z) hb
    ·rw[IK];exact z
   rw[q] at q';cases q';obtain⟨v,hv⟩:=JD;exact⟨v,by rw[IK];exact hv⟩
  ·refine(ok b u q).adk (λc v hc r=>k c v ?_ r) (λc r=>by rw[aA (JT c b r)];exact r) λc xs r=>by rw[aA (Nx c xs r)];exact r
   rcases hc with rfl|hc
   ·exact IK
   ·rintro rfl
    rcases he with z|z
    ·exact JT c b hc z
    ·rw[hc] at z;cases z;exact hb rfl
end
structure Un (fs ex:List Addr)(H H':Hp)(h h':Heap):Prop where
 keep:∀b o,h.get? b=some o->H b=none->b∉fs->b∉ex->h'.get? b=some o
 slot:∀b o,h.get? b=some o->H b=none->b∈fs->b∉ex->∃sl,h'.get? b=some {o with slots:=sl}
 free:∀b o,h.get? b=some o->H b=none->b∉ex->H' b=none
 there:∀b o,h.get? b=some o->b∉ex->∃o',h'.get? b=some o'
 acK:∀b xs,H b=some (.tup xs)->H' b=some (.tup xs)
 acH:∀b o u,H b=some (.frz o u)->H' b=some (.frz o u)
 acO:∀b ps,H b=some (.tbl ps)->∃more,H' b=some (.tbl (ps++more))
section
variable {fs Sz ex Xs:List Addr}{H H1 H2:Hp}{h h1 h2 h':Heap}{a x e:Addr}{o:HO}
theorem Un.any (u:Un fs ex H H1 h h1){ob:Obj}(q:h.get? b=some ob)(n:H b=none)(hx:b∉ex):∃sl,h1.get? b=some {ob with slots:=sl}:=by
 by_cases hb:b∈fs
 ·exact u.slot b ob q n hb hx
 ·exact⟨ob.slots,u.keep b ob q n hb hx⟩
theorem Un.kept (k:∀b u,h.get? b=some u->h'.get? b=some u):Un fs ex H H h h' :=
 ⟨λb ob q _ _ _=>k b ob q,λb ob q _ _ _=>⟨ob.slots,k b ob q⟩,λ_ _ _ n _=>n,λb ob q _=>⟨ob,k b ob q⟩,λ_ _ q=>q,λ_ _ _ q=>q,λ_ ps q=>⟨#[],by rw[q];simp⟩⟩
theorem Un.refl:Un fs ex H H h h:=Un.kept λ_ _ q=>q
theorem Un.laid (k:∀b u,h.get? b=some u->h'.get? b=some u)(hp:h.objs.size<=a)(hn:H a=none):Un fs ex H (upd H a o) h h' where
 keep:=λb u q _ _ _=>k b u q
 slot:=λb u q _ _ _=>⟨u.slots,k b u q⟩
 free:=λb u q n _=>by rw[aA (Yr (Ys (Ym q) hp))];exact n
 there:=λb u q _=>⟨u,k b u q⟩
 acK:=λb xs q=>by rw[aA (aB q hn)];exact q
 acH:=λb u xs q=>by rw[aA (aB q hn)];exact q
 acO:=λb ps q=>⟨#[],by rw[aA (aB q hn),q];simp⟩
theorem Un.write (mu:D0 (H x))(he:e=x\/H e=some (.own x))(k:∀b u,b≠e->h.get? b=some u->h'.get? b=some u)(JD:∃u,h'.get? e=some u):Un fs ex H (upd H x o) h h':=by
 have hx:∀b,H b=none->b≠x:=λb n z=>by subst z;rw[n] at mu;exact mu
 have hb:∀b,H b=none->b≠e:=λb n z=>by
  subst z
  rcases he with r|r
  ·exact hx b n r
  ·rw[n] at r;cases r
 have hm:∀b u,H b=some u->¬D0 (some u)->b≠x:=λb u q nm z=>by subst z;rw[q] at mu;exact nm mu
 refine⟨λb u q n _ _=>k b u (hb b n) q,λb u q n _ _=>⟨u.slots,k b u (hb b n) q⟩,λb u q n _=>by rw[aA (hx b n)];exact n,λb u q _=>?_,
  λb xs q=>by rw[aA (hm b _ q λz=>z)];exact q,λb u xs q=>by rw[aA (hm b _ q λz=>z)];exact q,λb ps q=>⟨#[],by rw[aA (hm b _ q λz=>z),q];simp⟩⟩
 by_cases IK:b=e
 ·subst IK;exact JD
 ·exact⟨u,k b u IK q⟩
end
noncomputable def Ec (h:Heap)(H:Hp):List Addr:=(List.range h.objs.size).filter λa=>(H a).isSome
noncomputable def lh (h:Heap)(H:Hp):Heap:=PySem.W.hideAll h (Ec h H)
theorem adU (h:Heap)(H:Hp):(lh h H).objs.size=h.objs.size:=PySem.W.hideAll_size _ _
theorem adK {o:Obj}(e:h.get? b=some o)(n:H b=none):(lh h H).get? b=some o :=
 PySem.W.hideAll_get _ e λhm=>by
  have q:(H b).isSome=true:=(Y7.mp hm).2;rw[n] at q;simp at q
theorem acQ {o:Obj}(e:(lh h H).get? b=some o):h.get? b=some o/\H b=none:=by
 have e':h.get? b=some o:=PySem.W.of_hideAll (Ec h H) e;refine⟨e',?_⟩
 cases q:H b with
 |none=>rfl
 |some x =>
  have hm:b∈Ec h H:=Y7.mpr ⟨ZD.mpr (Ym e'),by simp[q]⟩;have z:(lh h H).get? b=none:=PySem.W.hideAll_none (Ec h H) hm;rw[z] at e;cases e
structure Mod (K:PySem.W.Frag)(mg:vx)(base:Heap):Prop where
 kin:K.In base
 glob:base.Ns mainGlobals mg
 blt:∃mb,base.Ns builtinsNs mb/\∀x:Str,x ≠ "__name__"->mb x=bootBuiltins x
 nolimit:base.NoLimit
structure Cx where
 prog:Program
 w:World
 K:PySem.W.Frag
 mg:Str->Option Value
 base:Heap
 A:Around
 N:List Str
 s₀:Shared
 H₀:Hp
 env:Env
 outer:List Env
 stack:List Env
 ex:List Addr
 fn:Str->Bool
 calm:Bool
 pn:List (Addr×Obj)
 xe:Value->Shared->Prop
noncomputable def eQ (l:List Env):List Addr:=l.filterMap (·.frame)
noncomputable abbrev Cx.fs (X:Cx):List Addr:=eQ X.outer
noncomputable def Eh (sc:Scope)(x:Str):Prop:=sc.names.lookup x=some .local\/sc.names.lookup x=some .cell\/sc.names.lookup x=some .free
noncomputable def Dq (sc:Scope)(x:Str):Prop:=sc.names.lookup x=some .local\/sc.names.lookup x=some .cell
noncomputable def isI (env:Env)(h:Heap)(m:vx)(x:Str)(u:Value):Prop :=
 (env.kindOf x=some .local/\m x=some u)\/((env.kindOf x=some .cell\/env.kindOf x=some .free)/\∃c,env.cells.lookup x=some c/\h.IsCell c (some u))
structure Cx.Ok (X:Cx):Prop where
 mod:Mod X.K X.mg X.base
 kind:X.env.scope.kind=.function
 glob:X.env.globals=mainGlobals
 blt:X.env.builtins=builtinsNs
 above:X.s₀.heap.objs.size<=X.env.locals
 inj:∀x y c,X.env.cells.lookup x=some c->X.env.cells.lookup y=some c->x=y
 has:∀x,(X.env.kindOf x=some .cell\/X.env.kindOf x=some .free)->∃c,X.env.cells.lookup x=some c
 cab:∀x c,X.fn x=true->X.env.cells.lookup x=some c->X.s₀.heap.objs.size<=c
 hd:X.calm=true->X.A.handled=none
 frames:X.A.frames=some X.stack
 stk:X.stack=X.outer\/(X.stack=X.env::X.outer/\X.env.frame=some X.env.locals)
 exf:∀b∈X.ex,b≠X.env.locals/\∀x c,X.env.cells.lookup x=some c->c≠b
 bs:∀b o,X.base.get? b=some o->X.s₀.heap.get? b=some o/\X.H₀ b=none
 bsz:X.base.objs.size<=X.s₀.heap.objs.size
 adI:∀b o,X.base.get? b=some o->b∉X.ex
 ad1:∀b∈X.ex,b∉X.fs
 acP:X.s₀.heap.FunFrames X.base X.outer
 frf:∀b∈X.fs,X.H₀ b=none
structure Inv (X:Cx)(pins:List (Addr×Obj))(σ:List (Option V))(H:Hp)(s:Ci):Prop where
 ok:X.Ok
 os:s.os=X.s₀.os
 bare:AllBare s.gens
 base:Un X.fs X.ex X.H₀ H X.s₀.heap s.heap
 loc:∃m,s.heap.Ns X.env.locals m/\∀(i:Nat)(x:Str)(v:V),X.N[i]?=some x->σ[i]?=some (some v)->Eh X.env.scope x->∃u,aG v u/\isI X.env s.heap m x u
 cell:∀x c,X.env.cells.lookup x=some c->∃v,s.heap.IsCell c v
 free:H X.env.locals=none
 acI:∀x c,X.env.cells.lookup x=some c->H c=none
 pin:∀p∈X.pn++pins,s.heap.get? p.1=some p.2/\H p.1=none/\p.1≠X.env.locals/\p.1∉X.fs/\∀v,p.2.data≠.cell v
 hok:fZ X.prog X.w H s.heap
 len:σ.length=X.N.length
variable {N:EG}{i:Nat}{x:Str}{M:Model}{A:Around}
section
variable {X:Cx}{pins:List (Addr×Obj)}{σ:List (Option V)}{H H':Hp}{s:Ci}{h':Heap}
theorem Cx.Ok.agE (ok:X.Ok){o:Obj}(e:X.base.get? b=some o):b∉X.fs:=λhb=>by
 have:=(ok.acP.mem hb).1;rw[e] at this;cases this
theorem Inv.bs (I:Inv X pins σ H s):∀b o,X.base.get? b=some o->s.heap.get? b=some o/\H b=none:=λb o e =>
 ⟨I.base.keep b o (I.ok.bs b o e).1 (I.ok.bs b o e).2 (I.ok.agE e) (I.ok.adI b o e),I.base.free b o (I.ok.bs b o e).1 (I.ok.bs b o e).2 (I.ok.adI b o e)⟩
theorem Inv.bk (I:Inv X pins σ H s):∀b o,X.base.get? b=some o->s.heap.get? b=some o:=λb o e=>(I.bs b o e).1
theorem Inv.mod (I:Inv X pins σ H s):Mod X.K X.mg X.base:=I.ok.mod
theorem Inv.kIn (I:Inv X pins σ H s):X.K.In s.heap:=I.ok.mod.kin.keeps I.bk
theorem Inv.lt (I:Inv X pins σ H s):X.env.locals<s.heap.objs.size:=let⟨_,hn,_⟩:=I.loc;hn.lt
theorem Inv.sz (I:Inv X pins σ H s):X.s₀.heap.objs.size<=s.heap.objs.size:=Yq I.ok.above (Zi I.lt)
theorem Inv.ae3 (I:Inv X pins σ H s)(h:s.heap.objs.size<=a):a∉X.fs:=λhb=>by
 obtain⟨_,o,ho,_⟩:=I.ok.acP.mem hb;exact absurd (Ys (Ym ho) (Yq I.sz h)) (Zh _)
theorem Inv.cne (I:Inv X pins σ H s):∀x c,X.env.cells.lookup x=some c->c≠X.env.locals:=λx c e z=>by
 obtain⟨v,o,ho,hd⟩:=I.cell x c e;obtain⟨m,⟨o',es,ep,F0,Ny,_⟩,_⟩:=I.loc;rw[z,F0] at ho;cases ho;rw[Ny] at hd;cases hd
theorem Inv.acP (I:Inv X pins σ H s):s.heap.FunFrames X.base X.outer:=by
 have all:∀(l:List Env),(∀b∈eQ l,b∈X.fs)->X.s₀.heap.FunFrames X.base l->s.heap.FunFrames X.base l:=by
  intro l
  induction l with
  |nil=>intro _ _;trivial
  |cons env r ih =>
   intro hs hl;obtain⟨hk,⟨L,o,hf,hn,ho,hd⟩,hr⟩:=hl;have hL:L∈X.fs:=hs L (by unfold eQ;rw[Zf,hf];exact Yl);obtain⟨sl,e⟩:=I.base.slot L o ho (I.ok.frf L hL) hL λz=>I.ok.ad1 L z hL;exact⟨hk,⟨L,_,hf,hn,e,hd⟩,ih (λb hb=>hs b (by unfold eQ;rw[Zf,hf];exact Yi _ hb)) hr⟩
 exact all X.outer (λ_ hb=>hb) I.ok.acP
theorem Inv.stack (I:Inv X pins σ H s):s.heap.FunFrames X.base X.stack:=by
 rcases I.ok.stk with e|⟨e,hf⟩
 ·rw[e];exact I.acP
 ·rw[e];obtain⟨m,hn,_⟩:=I.loc;refine .cons (by rw[I.ok.kind];decide) hf hn ?_ I.acP;exact Heap.get?_none_of_le (Yq I.ok.bsz I.ok.above)
theorem Inv.acR (I:Inv X pins σ H s):∀b∈eQ X.stack,b∈X.env.locals::X.fs:=λb hb=>by
 rcases I.ok.stk with e|⟨e,hf⟩
 ·rw[e] at hb;exact Yi _ hb
 ·rw[e] at hb;unfold eQ at hb;rw[Zf,hf] at hb;exact hb
theorem Inv.ac2 (I:Inv X pins σ H s):∀b∈eQ X.stack,H b=none:=λb hb=>by
 rcases Yn.mp (I.acR b hb) with e|hb
 ·rw[e];exact I.free
 ·obtain⟨_,o,ho,_⟩:=I.ok.acP.mem hb;exact I.base.free b o ho (I.ok.frf b hb) λz=>I.ok.ad1 b z hb
theorem Inv.step {g':Array GenState}{t':Nat}{d':Drawn}{ch:List Addr}(I:Inv X pins σ H s)
 (HH:∀b∈ch,(b∈X.ex\/X.s₀.heap.objs.size<=b)/\b≠X.env.locals/\(∀x c,X.env.cells.lookup x=some c->c≠b)/\∀p∈X.pn++pins,p.1≠b)
 (keep:∀b o,b≠X.env.locals->b∉X.fs->b∉ch->s.heap.get? b=some o->H b=none->h'.get? b=some o)
 (slot:∀b o,b≠X.env.locals->b∈X.fs->b∉ch->s.heap.get? b=some o->H b=none->∃sl,h'.get? b=some {o with slots:=sl})(free:∀b o,b∉ch->s.heap.get? b=some o->H b=none->H' b=none)
 (there:∀b o,b∉ch->s.heap.get? b=some o->∃o',h'.get? b=some o')
 (acK:∀b xs,H b=some (.tup xs)->H' b=some (.tup xs))(acH:∀b o u,H b=some (.frz o u)->H' b=some (.frz o u))(acO:∀b ps,H b=some (.tbl ps)->∃more,H' b=some (.tbl (ps++more)))
 (ns:∀m,s.heap.Ns X.env.locals m->h'.Ns X.env.locals m)(hok:fZ X.prog X.w H' h')(hg:AllBare g'):
 Inv X pins σ H' {s with heap:=h',gens:=g',drawn:=d',toks:=t'}:=by
 have QH:∀b o,X.s₀.heap.get? b=some o->b≠X.env.locals:=λb o e=>Yr (Ys (Ym e) I.ok.above)
 have MQ:∀b o,X.s₀.heap.get? b=some o->b∉X.ex->b∉ch:=λb o e hx hb=>by
  rcases(HH b hb).1 with z|z
  ·exact hx z
  ·exact absurd (Ys (Ym e) z) (Zh _)
 have cellK:∀x c,X.env.cells.lookup x=some c->∀v,s.heap.IsCell c v->h'.IsCell c v:=λx c e v ⟨o,ho,hd⟩=>by
  have JU:c∉ch:=λz=>(HH c z).2.2.1 x c e rfl
  by_cases hc:c∈X.fs
  ·obtain⟨sl,q⟩:=slot c o (I.cne x c e) hc JU ho (I.acI x c e);exact⟨_,q,hd⟩
  ·exact⟨o,keep c o (I.cne x c e) hc JU ho (I.acI x c e),hd⟩
 refine⟨I.ok,I.os,hg,⟨λb o e n hb hx=>?_,λb o e n hb hx=>?_,λb o e n hx=>?_,λb o e hx=>?_,λb xs e=>acK b xs (I.base.acK b xs e),λb o xs e=>acH b o xs (I.base.acH b o xs e),λb ps e=>?_⟩,?_,λx c e=>?_,?_,λx c e=>?_,λp hp=>?_,hok,I.len⟩
 ·exact keep b o (QH b o e) hb (MQ b o e hx) (I.base.keep b o e n hb hx) (I.base.free b o e n hx)
 ·obtain⟨sl,e1⟩:=I.base.slot b o e n hb hx;obtain⟨HI,e2⟩:=slot b _ (QH b o e) hb (MQ b o e hx) e1 (I.base.free b o e n hx);exact⟨HI,e2⟩
 ·obtain⟨o',e1⟩:=I.base.there b o e hx;exact free b o' (MQ b o e hx) e1 (I.base.free b o e n hx)
 ·obtain⟨o',e1⟩:=I.base.there b o e hx;exact there b o' (MQ b o e hx) e1
 ·obtain⟨m1,e1⟩:=I.base.acO b ps e;obtain⟨m2,e2⟩:=acO b _ e1;exact⟨m1++m2,by rw[e2,EH]⟩
 ·obtain⟨m,hn,hl⟩:=I.loc;refine⟨m,ns m hn,λi x v e1 e2 e3=>?_⟩;obtain⟨u,r,l⟩:=hl i x v e1 e2 e3;refine⟨u,r,?_⟩
  rcases l with l|⟨k,c,e,z⟩
  ·exact .inl l
  ·exact .inr ⟨k,c,e,cellK x c e _ z⟩
 ·obtain⟨v,z⟩:=I.cell x c e;exact⟨v,cellK x c e v z⟩
 ·obtain⟨m,⟨o,_,_,ho,_⟩,_⟩:=I.loc;exact free _ o (λz=>(HH _ z).2.1 rfl) ho I.free
 ·obtain⟨v,o,ho,hd⟩:=I.cell x c e;exact free c o (λz=>(HH c z).2.2.1 x c e rfl) ho (I.acI x c e)
 ·obtain⟨e,n,ne,nf,d⟩:=I.pin p hp;have JU:p.1∉ch:=λz=>(HH p.1 z).2.2.2 p hp rfl;exact⟨keep p.1 p.2 ne nf JU e n,free p.1 p.2 JU e n,ne,nf,d⟩
theorem Inv.un {t':Nat}(I:Inv X pins σ H s)(u:Un X.fs [] H H' s.heap h')(hok:fZ X.prog X.w H' h'):Inv X pins σ H' {s with heap:=h',toks:=t'}:=by
 obtain⟨m,⟨o,es,ep,ho,r⟩,_⟩:=id I.loc;obtain⟨sl,hL⟩:=u.any ho I.free (by simp)
 exact I.step (g':=s.gens) (d':=s.drawn) (ch:=[]) (λ_ z=>nomatch z) (λb o _ hb _ e n=>u.keep b o e n hb (by simp)) (λb o _ hb _ e n=>u.slot b o e n hb (by simp)) (λb o _ e n=>u.free b o e n (by simp)) (λb o _ e=>u.there b o e (by simp)) u.acK u.acH u.acO (λm' hm=>by
  obtain⟨o',es',IL,F0,r'⟩:=hm;rw[ho] at F0;cases F0
  exact⟨_,es',IL,hL,r'⟩) hok I.bare
theorem Inv.call {g':Array GenState}{t':Nat}{d':Drawn}{ch:List Addr}(I:Inv X pins σ H s)(u:Un (eQ X.stack) ch H H' s.heap h')(hok:fZ X.prog X.w H' h')(hg:AllBare g')
 (HH:∀b∈ch,(b∈X.ex\/X.s₀.heap.objs.size<=b)/\b≠X.env.locals/\(∀x c,X.env.cells.lookup x=some c->c≠b)/\∀p∈X.pn++pins,p.1≠b):
 Inv X pins σ H' {s with heap:=h',gens:=g',drawn:=d',toks:=t'}:=by
 obtain⟨m,⟨o,es,ep,ho,r⟩,_⟩:=id I.loc;obtain⟨sl,hL⟩:=u.any ho I.free λz=>(HH _ z).2.1 rfl
 exact I.step (ch:=ch) HH (λb o hL hb hc e n=>u.keep b o e n (λz=>(Yn.mp (I.acR b z)).elim hL hb) hc) (λb o _ _ hc e n=>u.any e n hc) (λb o hc e n=>u.free b o e n hc) (λb o hc e=>u.there b o e hc) u.acK u.acH u.acO (λm' hm=>by
  obtain⟨o',es',IL,F0,r'⟩:=hm;rw[ho] at F0;cases F0
  exact⟨_,es',IL,hL,r'⟩) hok hg
theorem Inv.turned {t':Nat}{it:Addr}(I:Inv X pins σ H s)(k:∀b o,b≠it->s.heap.get? b=some o->h'.get? b=some o)(hn:H it=none)(hL:it≠X.env.locals)
 (h1:it∈X.ex\/X.s₀.heap.objs.size<=it)(h2:∀x c,X.env.cells.lookup x=some c->c≠it)(h3:∀p∈X.pn++pins,p.1≠it):Inv X pins σ H {s with heap:=h',toks:=t'}:=by
 have Ie:∀b u,H b=some u->b≠it:=λb u e z=>by rw[z,hn] at e;cases e
 refine I.step (g':=s.gens) (d':=s.drawn) (ch:=[it]) (λb hb=>?_) (λb o _ _ hc e _=>k b o (λz=>hc (by simp[z])) e) (λb o _ _ hc e _=>⟨o.slots,k b o (λz=>hc (by simp[z])) e⟩) (λ_ _ _ _ n=>n)
  (λb o hc e=>⟨o,k b o (λz=>hc (by simp[z])) e⟩) (λ_ _ e=>e) (λ_ _ _ e=>e) (λb ps e=>⟨#[],by rw[e];simp⟩) (λm hm=>?_) (λb u e=>?_) I.bare
 ·have e:b=it:=by simpa using hb
  subst e;exact⟨h1,hL,h2,h3⟩
 ·obtain⟨o,es,ep,ho,r⟩:=hm;exact⟨o,es,ep,k _ o (YM hL) ho,r⟩
 ·refine(I.hok b u e).adk (λc v hc q=>k c v ?_ q) (λ_ q=>q) λ_ _ q=>q
  rcases hc with z|z
  ·rw[z];exact Ie b u e
  ·exact Ie c _ z
theorem Inv.tok (I:Inv X pins σ H s)(t:Nat):Inv X pins σ H {s with toks:=t}:=I.un (h':=s.heap) (t':=t) Un.refl I.hok
theorem Inv.kept {t':Nat}(I:Inv X pins σ H s)(k:∀b u,s.heap.get? b=some u->h'.get? b=some u):Inv X pins σ H {s with heap:=h',toks:=t'}:=I.un (Un.kept k) (I.hok.kept k)
theorem Inv.laid {a:Addr}{o:HO}{t':Nat}(I:Inv X pins σ H s)(k:∀b u,s.heap.get? b=some u->h'.get? b=some u)(hp:s.heap.objs.size<=a)(new:bE X.prog X.w (upd H a o) h' a o):
 Inv X pins σ (upd H a o) {s with heap:=h',toks:=t'}:=I.un (Un.laid k hp (I.hok.fresh hp)) (I.hok.laid k hp new)
theorem Inv.write {x e:Addr}{o:HO}{t':Nat}(I:Inv X pins σ H s)(mu:D0 (H x))(he:e=x\/H e=some (.own x))(k:∀b u,b≠e->s.heap.get? b=some u->h'.get? b=some u)(JD:∃u,h'.get? e=some u)
 (new:bE X.prog X.w (upd H x o) h' x o):Inv X pins σ (upd H x o) {s with heap:=h',toks:=t'}:=I.un (Un.write mu he k JD) (I.hok.write mu he k JD new)
theorem Inv.acM {pins':List (Addr×Obj)}(I:Inv X pins σ H s)(h:∀p∈pins',s.heap.get? p.1=some p.2/\H p.1=none/\p.1≠X.env.locals/\p.1∉X.fs/\∀v,p.2.data≠.cell v):Inv X pins' σ H s :=
 ⟨I.ok,I.os,I.bare,I.base,I.loc,I.cell,I.free,I.acI,λp hp=>(YI.mp hp).elim (λz=>I.pin p (ZE _ z)) (h p),I.hok,I.len⟩
theorem pC (hN:N.Nodup){j:Nat}(a:N[i]?=some x)(b:N[j]?=some x):i=j:=by
 obtain⟨h1,e1⟩:=YO.mp a;obtain⟨h2,e2⟩:=YO.mp b;exact(List.getElem_inj hN).mp (e1.trans e2.symm)
theorem lZ {E:ph}{v:V}{Q:Unit->Shared->Prop}(I:Inv X pins σ H s)(hN:X.N.Nodup)(hi:X.N[i]?=some x)(hx:Dq X.env.scope x)(r:aG v u)
 (h:∀s',Inv X pins (σ.set i (some v)) H s'->(∃a,Heap.SameBut a s.heap s'.heap/\(a=X.env.locals\/X.env.cells.lookup x=some a))->Q () s')(hf:X.fn x=true\/X.env.scope.names.lookup x=some .local:=by first|exact .inl rfl|exact .inr rfl|assumption):wpAny M A (storeName X.env x u) Q E s:=by
 obtain⟨m,hn,hl⟩:=id I.loc
 have Nz:(X.env.scope.kind == .class || (X.env.scope.kind == .module&&X.env.locals != X.env.globals))=false:=by rw[I.ok.kind];rfl
 have QI:i<σ.length:=by rw[I.len];exact(YO.mp hi).1
 have cne:=I.cne
 have tracked:∀{a:Addr}{h':Heap},(∃o,s.heap.get? a=some o/\H a=none)->Heap.SameBut a s.heap h'->fZ X.prog X.w H h':=λ{a h'} ha hs b ob e=>by
  obtain⟨_,_,Gm⟩:=ha;refine(I.hok b ob e).adk (λc w' hc q=>(hs.2 c ?_).trans q) (λ_ q=>q) λ_ _ q=>q;rintro rfl
  rcases hc with rfl|hc
  ·rw[Gm] at e;cases e
  ·rw[Gm] at hc;cases hc
 rcases hx with hk|hk
 ·refine wpAny_storeName_local hk hn (λh' JV hs=>?_) Nz;obtain⟨oL,_,_,SA,_⟩:=id hn;refine h _ ⟨I.ok,I.os,I.bare,⟨λb o e n hb hx=>?_,λb o e n hb hx=>?_,I.base.free,λb o e hx=>?_,I.base.acK,I.base.acH,I.base.acO⟩,⟨_,JV,λj y v' e1 e2 e3=>?_⟩,λy c e=>?_,I.free,I.acI,λp hp=>?_,tracked ⟨oL,SA,I.free⟩ hs,by simpa using I.len⟩ ⟨_,hs,.inl rfl⟩
  ·exact(hs.2 b (Yr (Ys (Ym e) I.ok.above))).trans (I.base.keep b o e n hb hx)
  ·obtain⟨sl,e1⟩:=I.base.slot b o e n hb hx;exact⟨sl,(hs.2 b (Yr (Ys (Ym e) I.ok.above))).trans e1⟩
  ·obtain⟨o',e1⟩:=I.base.there b o e hx;exact⟨o',(hs.2 b (Yr (Ys (Ym e) I.ok.above))).trans e1⟩
  ·by_cases hj:j=i
   ·subst hj;rw[hi] at e1;cases e1;rw[List.getElem?_set_self QI] at e2
    cases e2
    exact⟨u,r,.inl ⟨hk,by simp⟩⟩
   ·rw[List.getElem?_set_ne (YM hj)] at e2;obtain⟨u',r',q⟩:=hl j y v' e1 e2 e3;refine⟨u',r',?_⟩
    rcases q with⟨k,e⟩|⟨k,c,e,z⟩
    ·refine .inl ⟨k,?_⟩;have:y≠x:=λe=>hj (pC hN e1 (e▸hi));simp[this,e]
    ·exact .inr ⟨k,c,e,z.sameBut hs (cne y c e)⟩
  ·obtain⟨w',z⟩:=I.cell y c e;exact⟨w',z.sameBut hs (cne y c e)⟩
  ·obtain⟨e,n,ne,nf,d⟩:=I.pin p hp;exact⟨(hs.2 p.1 ne).trans e,n,ne,nf,d⟩
 ·have NA:X.fn x=true:=by
   rcases hf with z|z
   ·exact z
   ·rw[z] at hk;cases hk
  obtain⟨c,hc⟩:=I.ok.has x (.inl hk);obtain⟨w',z⟩:=I.cell x c hc;refine wpAny_storeName_cell I.ok.kind hk hc z (λh' FU hs=>?_);obtain⟨oc,QJ,NB⟩:=id z;refine h {s with heap:=h'} ⟨I.ok,I.os,I.bare,⟨λb o e n hb hx=>?_,λb o e n hb hx=>?_,I.base.free,λb o e hx=>?_,I.base.acK,I.base.acH,I.base.acO⟩,⟨m,hn.sameBut hs (YM (cne x c hc)),λj y v' e1 e2 e3=>?_⟩,λy c' e=>?_,I.free,I.acI,λp hp=>?_,tracked ⟨oc,QJ,I.acI x c hc⟩ hs,by simpa using I.len⟩ ⟨c,hs,.inr hc⟩
  ·exact(hs.2 b (Yr (Ys (Ym e) (I.ok.cab x c NA hc)))).trans (I.base.keep b o e n hb hx)
  ·obtain⟨sl,e1⟩:=I.base.slot b o e n hb hx;exact⟨sl,(hs.2 b (Yr (Ys (Ym e) (I.ok.cab x c NA hc)))).trans e1⟩
  ·obtain⟨o',e1⟩:=I.base.there b o e hx;exact⟨o',(hs.2 b (Yr (Ys (Ym e) (I.ok.cab x c NA hc)))).trans e1⟩
  ·by_cases hj:j=i
   ·subst hj;rw[hi] at e1;cases e1;rw[List.getElem?_set_self QI] at e2
    cases e2
    exact⟨u,r,.inr ⟨.inl hk,c,hc,FU⟩⟩
   ·rw[List.getElem?_set_ne (YM hj)] at e2;obtain⟨u',r',q⟩:=hl j y v' e1 e2 e3;refine⟨u',r',?_⟩
    rcases q with q|⟨k,c',e,z'⟩
    ·exact .inl q
    ·refine .inr ⟨k,c',e,z'.sameBut hs ?_⟩;rintro rfl;exact hj (pC hN e1 (I.ok.inj _ _ _ e hc▸hi))
  ·by_cases QK:c'=c
   ·subst QK;exact⟨_,FU⟩
   ·obtain⟨w2,z2⟩:=I.cell y c' e;exact⟨w2,z2.sameBut hs QK⟩
  ·obtain⟨e,n,ne,nf,d⟩:=I.pin p hp;refine⟨(hs.2 p.1 ?_).trans e,n,ne,nf,d⟩;intro q;rw[q,QJ] at e;have q':oc=p.2:=Option.some.inj e;exact d w' (by rw[<-q'];exact NB)
theorem hU {E:ph}{v:V}{Q:Unit->Shared->Prop}(I:Inv X pins σ H s)(hN:X.N.Nodup)(hi:X.N[i]?=some x)(hx:Dq X.env.scope x)(r:aG v u)
 (h:∀s',Inv X pins (σ.set i (some v)) H s'->Q () s')(hf:X.fn x=true\/X.env.scope.names.lookup x=some .local:=by first|exact .inl rfl|exact .inr rfl|assumption):wpAny M A (storeName X.env x u) Q E s :=
 lZ I hN hi hx r (λs' I' _=>h s' I') hf
theorem Inv.ae4 {s':Ci}{ch:List Addr}(I:Inv X pins σ H s)(ho:s'.os=s.os)(u:Un (eQ X.stack) ch H H' s.heap s'.heap)(hok:fZ X.prog X.w H' s'.heap)(hg:AllBare s'.gens)
 (HH:∀b∈ch,(b∈X.ex\/X.s₀.heap.objs.size<=b)/\b≠X.env.locals/\(∀x c,X.env.cells.lookup x=some c->c≠b)/\∀p∈X.pn++pins,p.1≠b):Inv X pins σ H' s':=by
 obtain⟨h',g',d',t',o'⟩:=s';have e:o'=s.os:=ho;subst e;exact I.call (g':=g') (t':=t') (d':=d') u hok hg HH
end
noncomputable abbrev XK:=Value->Option Addr->Hp->Prop
noncomputable abbrev St:=List (Option V)
noncomputable abbrev VK:=V->Hp->Prop
noncomputable abbrev TE:=St->Hp->VK->Prop
noncomputable abbrev TT:=St->Hp->(Bool->Hp->Prop)->Prop
noncomputable abbrev TA:=St->Hp->(List V->Hp->Prop)->Prop
structure Ends where
 nx:St->Hp->Prop
 rt:VK
 bk:St->Hp->Prop:=λ_ _=>False
 ct:St->Hp->Prop:=λ_ _=>False
noncomputable abbrev TS:=Ends->St->Hp->Prop
noncomputable def EP (X:Cx)(pins:List (Addr×Obj))(σ:St)(Q:VK)(u:Value)(s':Ci):Prop:=∃v H',Inv X pins σ H' s'/\aG v u/\Q v H'
noncomputable def TP (X:Cx)(pins:List (Addr×Obj))(σ:St)(Q:Bool->Hp->Prop)(b:Bool)(s':Ci):Prop:=∃H',Inv X pins σ H' s'/\Q b H'
noncomputable def AP (X:Cx)(pins:List (Addr×Obj))(σ:St)(Q:List V->Hp->Prop)(us:m8)(s':Ci):Prop:=∃vs H',Inv X pins σ H' s'/\aR vs us/\Q vs H'
noncomputable def SP (X:Cx)(pins:List (Addr×Obj))(D:Ends)(f:Flow)(s':Ci):Prop :=
 match f with
 | .next=>∃σ' H',Inv X pins σ' H' s'/\D.nx σ' H'
 | .brk=>∃σ' H',Inv X pins σ' H' s'/\D.bk σ' H'
 | .cont=>∃σ' H',Inv X pins σ' H' s'/\D.ct σ' H'
 | .ret u=>∃v σ' H',Inv X pins σ' H' s'/\aG v u/\D.rt v H'
noncomputable def PE (X:Cx)(e:Expr)(t:TE):Prop :=
 ∀(pins:List (Addr×Obj))(s:Ci)(σ:St)(H:Hp)(Q:VK),Inv X pins σ H s->t σ H Q->wpAny (model X.prog X.w) X.A (eval e X.env) (EP X pins σ Q) X.xe s
noncomputable def PT (X:Cx)(e:Expr)(t:TT):Prop :=
 ∀(pins:List (Addr×Obj))(s:Ci)(σ:St)(H:Hp)(Q:Bool->Hp->Prop),Inv X pins σ H s->t σ H Q->wpAny (model X.prog X.w) X.A (isTrue e X.env (eval e X.env)) (TP X pins σ Q) X.xe s
noncomputable def PW (X:Cx)(e:Expr)(t:TT):Prop :=
 ∀(cg:Sem Value)(pins:List (Addr×Obj))(s:Ci)(σ:St)(H:Hp)(Q:Bool->Hp->Prop),Inv X pins σ H s->t σ H Q->wpAny (model X.prog X.w) X.A (isTrue e X.env cg) (TP X pins σ Q) X.xe s
variable {X:Cx}{e:Expr}
theorem PW.pt {t:TT}(h:PW X e t):PT X e t:=h _
noncomputable def PA (X:Cx)(es:yD)(t:TA):Prop :=
 ∀(pos:Pos)(pins:List (Addr×Obj))(s:Ci)(σ:St)(H:Hp)(Q:List V->Hp->Prop),Inv X pins σ H s->t σ H Q->wpAny (model X.prog X.w) X.A (spliced (backTo pos (starEach es X.env))) (AP X pins σ Q) X.xe s
noncomputable def PS (X:Cx)(st:Stmt)(t:TS):Prop :=
 ∀(pins:List (Addr×Obj))(s:Ci)(σ:St)(H:Hp)(D:Ends),Inv X pins σ H s->t D σ H->wpAny (model X.prog X.w) X.A (exec st X.env) (SP X pins D) X.xe s
noncomputable def oO (X:Cx)(st:List Stmt)(t:TS):Prop :=
 ∀(pins:List (Addr×Obj))(s:Ci)(σ:St)(H:Hp)(D:Ends),Inv X pins σ H s->t D σ H->wpAny (model X.prog X.w) X.A (execs st X.env) (SP X pins D) X.xe s
variable {s:Ci}
theorem bU {α:Type}{t:Sem α}{Q Q':α->Shared->Prop}{E:ph}(h:wpAny M A t Q E s)(hQ:∀a s,Q a s->Q' a s):wpAny M A t Q' E s:=YR h hQ λ_ _ x=>x
variable {pins:List (Addr×Obj)}{σ:St}{op:CmpOp}
section
variable {X:Cx}
noncomputable def cc (i:Nat):TE:=λσ H Q=>∃v,σ[i]?=some (some v)/\Q v H
noncomputable def tC (v:V):TE:=λ_ H Q=>Q v H
theorem acS {pos:Pos}(hN:X.N[i]?=some x)(hv:Eh X.env.scope x)(hd:(x==("__debug__":Str))=false:=by decide)(Gg:(x==("__classdict__":Str))=false:=by decide):PE X (.Name x pos) (cc i):=by
 intro pins s σ H Q I h;obtain⟨v,e,h⟩:=h;obtain⟨m,hn,hl⟩:=I.loc;obtain⟨u,r,l⟩:=hl i x v hN e hv;have fin:EP X pins σ Q u s:=⟨v,H,I,r,h⟩
 rcases l with⟨hk,hm⟩|⟨hk,c,hc,GO⟩
 ·exact wpAny_Name (wpAny_loadName_local I.ok.kind hk hn hm fin) hd
 ·rcases hk with hk|hk
  ·exact wpAny_Name (wpAny_loadName_cell I.ok.kind hk hc GO fin) hd
  ·exact wpAny_Name (wpAny_loadName_free I.ok.kind hk hc GO fin Gg) hd
theorem ak {i j pos}:PE X (.Constant (.int i) j pos) (tC (.int i)):=λ_ _ _ H _ I h=>wpAny_Constant_int ⟨.int i,H,I.tok _,⟨_,rfl⟩,h⟩
theorem eB {b j pos}:PE X (.Constant (.bool b) j pos) (tC (.bl b)):=λ_ _ _ H _ I h=>Constant_bool ⟨.bl b,H,I,rfl,h⟩
theorem rg {j pos}:PE X (.Constant .none j pos) (tC .non):=λ_ _ _ H _ I h=>Constant_none ⟨.non,H,I,rfl,h⟩
theorem gN {x j pos}:PE X (.Constant (.str x) j pos) (tC (.str x)):=λ_ _ _ H _ I h=>Calls.Constant_str ⟨.str x,H,I.tok _,⟨_,rfl⟩,h⟩
noncomputable def Gl (X:Cx)(x:Str):Prop:=X.env.kindOf x=some .globalImplicit
theorem gm {E:ph}{pos:Pos}{Q:ph}(I:Inv X pins σ H s)(hg:Gl X x)(hm:X.mg x=some u)(h:Q u s)
 (hd:(x==("__debug__":Str))=false:=by decide):wpAny (model X.prog X.w) X.A (eval (.Name x pos) X.env) Q E s :=
 Calls.Name_function_global I.ok.kind hg (Calls.loadGlobal_global (by rw[I.ok.glob];exact I.mod.glob.keeps I.bk) hm h) hd
theorem eK {E:ph}{pos:Pos}{Q:ph}(I:Inv X pins σ H s)(hg:Gl X x)(hm:X.mg x=none)(hv:bootBuiltins x=some u)(h:Q u s)
 (hn:x ≠ "__name__":=by decide)(hd:(x==("__debug__":Str))=false:=by decide):wpAny (model X.prog X.w) X.A (eval (.Name x pos) X.env) Q E s:=by
 obtain⟨mb,h1,h2⟩:=I.mod.blt;exact Calls.Name_function_global I.ok.kind hg (Calls.loadGlobal_builtin (by rw[I.ok.glob];exact I.mod.glob.keeps I.bk) hm (by rw[I.ok.blt];exact h1.keeps I.bk) ((h2 x hn).trans hv) h) hd
theorem fu {v:V}{pos:Pos}(hg:Gl X x)(hm:X.mg x=some u)(r:aG v u)(hd:(x==("__debug__":Str))=false:=by decide):PE X (.Name x pos) (tC v):=
 λ_ _ _ H _ I h=>gm I hg hm ⟨v,H,I,r,h⟩ hd
theorem cC {v:V}{pos:Pos}(hg:Gl X x)(hm:X.mg x=none)(hv:bootBuiltins x=some u)(r:aG v u)(hn:x ≠ "__name__":=by decide)(hd:(x==("__debug__":Str))=false:=by decide):PE X (.Name x pos) (tC v):=
 λ_ _ _ H _ I h=>eK I hg hm hv ⟨v,H,I,r,h⟩ hn hd
variable {a b:Expr}{ta tb:TE}{pos:Pos}
noncomputable def PC (X:Cx)(op:CmpOp)(a b:Expr)(t:TE):Prop :=
 ∀(pins:List (Addr×Obj))(s:Ci)(σ:St)(H:Hp)(Q:VK),Inv X pins σ H s->t σ H Q →
  wpAny (model X.prog X.w) X.A (eval a X.env) (λv s₁=>wpAny (model X.prog X.w) X.A (eval b X.env) (λu s₂=>wpAny (model X.prog X.w) X.A (compareOp op v u) (EP X pins σ Q) X.xe s₂) X.xe s₁) X.xe s
noncomputable def tB (t:TE):TT:=λσ H Q=>t σ H λx H1=>∃c,x=.bl c/\Q c H1
theorem adX {t:TE}(h:PC X op a b t)(h1:behindInMarks op b=false:=by first|exact JW _ (by decide) (by decide)|rfl):PT X (.Compare a [op] [b] pos) (tB t):=by
 intro pins s σ H Q I hw;refine wpAny_isTrue_Compare1 (bU (h pins s σ H _ I hw) λv s1 h1=>bU h1 λu s2 h2=>bU h2 λc s3 z'=>?_) h1;obtain⟨x,H1,I1,r1,q1⟩:=z';obtain⟨d,rfl,q⟩:=q1
 cases r1
 exact Y9 ⟨H1,I1,q⟩
theorem bO {t:TE}(h:PE X e t)(he:∀cg,isTrue e X.env cg=(do let v <-cg;standAt e.pos;holding [v] (truthy v)):=by intro _;rfl):PT X e (tB t):=by
 intro pins s σ H Q I hw;refine isTrue_plain (bU (h pins s σ H _ I hw) λv s1 z'=>?_) (he _);obtain⟨x,H1,I1,r1,q1⟩:=z';obtain⟨d,rfl,q⟩:=q1
 cases r1
 exact Y9 ⟨H1,I1,q⟩
variable {tA MR:TT}{rest:yD}
noncomputable def Cls (t u:TT):TT:=λσ H Q=>t σ H λc H1=>if c=true then u σ H1 Q else Q false H1
noncomputable def acV (t u:TT):TT:=λσ H Q=>t σ H λc H1=>if c=true then Q true H1 else u σ H1 Q
noncomputable def acW (t:TT):TT:=λσ H Q=>t σ H λc H1=>Q (!c) H1
theorem acX (ha:PT X a tA):PW X (.BoolOp .And [a] pos) tA:=by
 intro wh pins s σ H Q I h;refine isTrue_and (bU (ha pins s σ H Q I h) λc s1 e=>?_)
 cases c with
 |true=>exact isTrue_and_nil e
 |false=>exact e
theorem dD (ha:PT X a tA):PW X (.BoolOp .Or [a] pos) tA:=by
 intro wh pins s σ H Q I h;refine isTrue_or (bU (ha pins s σ H Q I h) λc s1 e=>?_)
 cases c with
 |false=>exact isTrue_or_nil e
 |true=>exact e
theorem acE (ha:PT X a tA)(hb:PW X (.BoolOp .And (b::rest) pos) MR):PW X (.BoolOp .And (a::b::rest) pos) (Cls tA MR):=by
 intro wh pins s σ H Q I h;refine isTrue_and (bU (ha pins s σ H _ I h) λc s1 z'=>?_);obtain⟨H1,I1,q1⟩:=z'
 cases c with
 |true=>exact hb wh pins s1 σ H1 Q I1 q1
 |false=>exact⟨H1,I1,q1⟩
theorem dE (ha:PT X a tA)(hb:PW X (.BoolOp .Or (b::rest) pos) MR):PW X (.BoolOp .Or (a::b::rest) pos) (acV tA MR):=by
 intro wh pins s σ H Q I h;refine isTrue_or (bU (ha pins s σ H _ I h) λc s1 z'=>?_);obtain⟨H1,I1,q1⟩:=z'
 cases c with
 |true=>exact⟨H1,I1,q1⟩
 |false=>exact hb wh pins s1 σ H1 Q I1 q1
theorem bN (ha:PT X a tA):PT X (.UnaryOp .Not a pos) (acW tA):=by
 intro pins s σ H Q I h;exact isTrue_not (ha pins s σ H (λc H1=>Q (!c) H1) I h)
noncomputable def AL (ta tb:TE):TE:=λσ H Q=>ta σ H λx H1=>∃c,x=.bl c/\if c=true then tb σ H1 Q else Q (.bl false) H1
noncomputable def acJ (ta:TE):TE:=λσ H Q=>ta σ H λx H1=>∃c,x=.bl c/\Q (.bl (!c)) H1
theorem eM {op}{t:TE}(h:PE X a t):PE X (.BoolOp op [a] pos) t:=λpins s σ H Q I hw=>BoolOp_one (h pins s σ H Q I hw)
theorem dz (ha:PE X a ta)(hb:PE X (.BoolOp .And (b::rest) pos) tb):PE X (.BoolOp .And (a::b::rest) pos) (AL ta tb):=by
 intro pins s σ H Q I h;refine BoolOp_and (bU (ha pins s σ H _ I h) λv s1 z'=>?_);obtain⟨x,H1,I1,r1,q1⟩:=z';obtain⟨c,rfl,q1⟩:=q1
 cases r1
 refine Y9 ?_
 cases c with
 |true=>exact hb pins s1 σ H1 Q I1 q1
 |false=>exact⟨.bl false,H1,I1,rfl,q1⟩
theorem qc (ha:PE X a ta):PE X (.UnaryOp .Not a pos) (acJ ta):=by
 intro pins s σ H Q I h;refine UnaryOp_ (bU (ha pins s σ H _ I h) λv s1 z'=>?_);obtain⟨x,H1,I1,r1,q1⟩:=z';obtain⟨c,rfl,q1⟩:=q1
 cases r1
 exact not_of (Y9 ⟨.bl (!c),H1,I1,rfl,q1⟩)
end
noncomputable def bo (K:PySem.W.Frag)(H:Hp)(a:Addr)(xs:List V):Prop :=
 Rd H a (.lst xs) \/
  ∃(o:Obj)(its:BC)(n:Nat),K.lookup a=some o/\o.cls=.type "list"/\o.dict=none/\o.data=.seq its n/\its.size<=sizeLine/\aR xs its.toList
noncomputable def aV (K:PySem.W.Frag)(H:Hp)(a:Addr)(xs:List V):Prop :=
 Rd H a (.tup xs) \/
  ∃(o:Obj)(its:BC)(n:Nat),K.lookup a=some o/\o.cls=.type "tuple"/\o.data=.seq its n/\its.size<=sizeLine/\aR xs its.toList
noncomputable def adY:Value->Option V
 | .none=>some .non
 | .bool b=>some (.bl b)
 | .int i _=>some (.int i)
 | .str x _=>some (.str x)
 | .bytes b _=>some (.byt b)
 | .float b _=>some (.flt b)
 | .ref a=>some (.ref a)
 | .type n=>some (.ty n)
 |_=>none
theorem aG.abs {x:V}(r:aG x u):adY u=some x:=by
 cases x with
 |non=>cases r;rfl
 |bl _=>cases r;rfl
 |int _=>obtain⟨t,rfl⟩:=r;rfl
 |str _=>obtain⟨t,rfl⟩:=r;rfl
 |byt _=>obtain⟨t,rfl⟩:=r;rfl
 |flt _=>obtain⟨t,rfl⟩:=r;rfl
 |ref _=>cases r;rfl
 |ty _=>cases r;rfl
variable {y:V}
theorem aG.inj {x:V}(r:aG x u)(q:aG y u):x=y:=Option.some.inj (r.abs.symm.trans q.abs)
theorem aR.inj:∀{xs ys:List V}{us:m8},aR xs us->aR ys us->xs=ys
 |_,_,_,.nil,.nil=>rfl
 |_,_,_,.cons r t,.cons r' t'=>by rw[r.inj r',aR.inj t t']
variable {K:PySem.W.Frag}
section
variable {X:Cx}{pins:List (Addr×Obj)}{σ:St}{H:Hp}{s:Ci}{a:Addr}{xs ys:List V}
theorem bo.of (h:H a=some (.lst xs)):bo K H a xs:=.inl (.inl h)
theorem aV.of (h:H a=some (.tup xs)):aV K H a xs:=.inl (.inl h)
theorem Inv.list (I:Inv X pins σ H s)(h:bo X.K H a xs):∃its:List Value,aR xs its/\PlainL s.heap a its.toArray/\xs.length<=sizeLine:=by
 rcases h with h|⟨o,its,n,hk,hc,hd,hs,hz,r⟩
 ·obtain⟨z,its,n,r,e⟩:=h.ok I.hok;exact⟨its,r,⟨_,n,e,rfl,rfl,rfl⟩,z⟩
 ·refine⟨its.toList,r,⟨o,n,I.kIn a o hk,hc,hd,by simpa using hs⟩,?_⟩;have e:=r.length;simp only[Yz] at e;omega
theorem Inv.tuple (I:Inv X pins σ H s)(h:aV X.K H a xs):∃its:List Value,aR xs its/\IsTup s.heap a its.toArray/\xs.length<=sizeLine:=by
 rcases h with h|⟨o,its,n,hk,hc,hs,hz,r⟩
 ·obtain⟨z,its,r,p⟩:=h.ok I.hok;exact⟨its,r,p,z⟩
 ·refine⟨its.toList,r,⟨o,I.kIn a o hk,hc,n,by simpa using hs⟩,?_⟩;have e:=r.length;simp only[Yz] at e;omega
theorem Inv.ac4 (I:Inv X pins σ H s)(h:bo X.K H a xs)(h':bo X.K H a ys):xs=ys:=by
 obtain⟨its,r,⟨o,n,e,_,_,d⟩,_⟩:=I.list h;obtain⟨its',r',⟨o',n',e',_,_,d'⟩,_⟩:=I.list h';rw[e] at e';cases e';rw[d] at d'
 injection d' with d1 _
 have:its=its':=by simpa using Ze Array.toList d1
 subst this;exact r.inj r'
theorem Inv.acN (I:Inv X pins σ H s)(h:aV X.K H a xs)(h':aV X.K H a ys):xs=ys:=by
 obtain⟨its,r,⟨o,e,_,n,d⟩,_⟩:=I.tuple h;obtain⟨its',r',⟨o',e',_,n',d'⟩,_⟩:=I.tuple h';rw[e] at e';cases e';rw[d] at d'
 injection d' with d1 _
 have:its=its':=by simpa using Ze Array.toList d1
 subst this;exact r.inj r'
end
noncomputable abbrev Cx.ac8 (X:Cx)(E:ph):Cx:={X with xe:=E}
noncomputable abbrev Cx.nox (X:Cx):Cx:=X.ac8 λ_ _=>False
theorem Cx.Ok.ac8 (ok:X.Ok)(E:ph):(X.ac8 E).Ok :=
 ⟨ok.mod,ok.kind,ok.glob,ok.blt,ok.above,ok.inj,ok.has,ok.cab,ok.hd,ok.frames,ok.stk,ok.exf,ok.bs,ok.bsz,ok.adI,ok.ad1,ok.acP,ok.frf⟩
theorem Cx.Ok.acL {E:ph}(ok:(X.ac8 E).Ok):X.Ok :=
 ⟨ok.mod,ok.kind,ok.glob,ok.blt,ok.above,ok.inj,ok.has,ok.cab,ok.hd,ok.frames,ok.stk,ok.exf,ok.bs,ok.bsz,ok.adI,ok.ad1,ok.acP,ok.frf⟩
section
variable {X:Cx}{pins:List (Addr×Obj)}{σ:St}{H:Hp}{s:Ci}{E:ph}
theorem Inv.ac8 (I:Inv X pins σ H s)(E:ph):Inv (X.ac8 E) pins σ H s:=⟨I.ok.ac8 E,I.os,I.bare,I.base,I.loc,I.cell,I.free,I.acI,I.pin,I.hok,I.len⟩
theorem Inv.acL (I:Inv (X.ac8 E) pins σ H s):Inv X pins σ H s:=⟨I.ok.acL,I.os,I.bare,I.base,I.loc,I.cell,I.free,I.acI,I.pin,I.hok,I.len⟩
theorem SP.acL {D:Ends}{f:Flow}{s':Ci}(h:SP (X.ac8 E) pins D f s'):SP X pins D f s':=by
 cases f with
 |next=>obtain⟨σ',H',I,q⟩:=h;exact⟨σ',H',I.acL,q⟩
 |brk=>obtain⟨σ',H',I,q⟩:=h;exact⟨σ',H',I.acL,q⟩
 |cont=>obtain⟨σ',H',I,q⟩:=h;exact⟨σ',H',I.acL,q⟩
 |ret u=>obtain⟨v,σ',H',I,r,q⟩:=h;exact⟨v,σ',H',I.acL,r,q⟩
theorem oO.nox {st:List Stmt}{t:TS}(h:oO X.nox st t):oO X st t:=λpins s σ H D I hw =>
 YR (h pins s σ H D (I.ac8 _) hw) (λ_ _ q=>q.acL) λ_ _ z=>False.elim z
end
section
variable {X:Cx}{st:Stmt}{rest:List Stmt}{t u:TS}{e:Expr}{te:TE}{pos:Pos}
noncomputable def uL:TS:=λD σ H=>D.nx σ H
noncomputable def rE (t u:TS):TS:=λD σ H=>t {D with nx:=u D} σ H
theorem aS:oO X [] uL:=λ_ _ σ H _ I h=>Et ⟨σ,H,I,h⟩
theorem au (h1:PS X st t)(h2:oO X rest u):oO X (st::rest) (rE t u):=by
 intro pins s σ H D I h;refine wpAny_execs_cons (bU (h1 pins s σ H {D with nx:=u D} I h) λf s1 q=>?_)
 cases f with
 |next =>
  obtain⟨σ',H',I',q⟩:=q;exact h2 pins s1 σ' H' D I' q
 |ret v=>exact q
 |brk=>exact q
 |cont=>exact q
theorem ax (h1:PS X st t):oO X [st] t:=by
 intro pins s σ H D I h;refine wpAny_execs_cons (bU (h1 pins s σ H D I h) λf s1 q=>?_)
 cases f with
 |next=>exact Et q
 |ret v=>exact q
 |brk=>exact q
 |cont=>exact q
theorem Inv.quiet (I:Inv X pins σ H s):interactive X.env=false:=by simp[interactive,I.ok.kind]
noncomputable def ac1 (te:TE):TS:=λD σ H=>te σ H λ_ H1=>D.nx σ H1
theorem Gth (he:PE X e te)(hs:swapsWith e none pos.line X.env=pure false:=by rfl):PS X (.Expr e pos) (ac1 te):=by
 intro pins s σ H D I h;exact wpAny_Expr_any (bU (he pins s σ H _ I h) λv s1 ⟨x,H1,I1,r1,q1⟩=>⟨σ,H1,I1,q1⟩) I.quiet hs
noncomputable def DG (te:TE):TS:=λD σ H=>te σ H D.rt
theorem aF (he:PE X e te):PS X (.Return (some e) pos) (DG te):=by
 intro pins s σ H D I h;exact wpAny_Return_some (bU (he pins s σ H _ I h) λv s1 ⟨x,H1,I1,r1,q1⟩=>⟨x,σ,H1,I1,r1,q1⟩)
noncomputable def yX (c:TT)(t u:TS):TS:=λD σ H=>c σ H λb H1=>if b=true then t D σ H1 else u D σ H1
theorem bF {c:Expr}{a b:List Stmt}{tc:TT}(hc:PT X c tc)(ha:oO X a t)(hb:oO X b u):PS X (.If c a b pos) (yX tc t u):=by
 intro pins s σ H D I h;refine wpAny_If (bU (hc pins s σ H _ I h) λd s1 z'=>?_);obtain⟨H1,I1,q1⟩:=z'
 cases d with
 |true=>exact ha pins s1 σ H1 D I1 q1
 |false=>exact hb pins s1 σ H1 D I1 q1
noncomputable def qm:TS:=λ_ _ _=>False
theorem pJ:PS X st qm:=λ_ _ _ _ _ _ h=>h.elim
theorem adZ {SD:List Stmt}:oO X SD qm:=λ_ _ _ _ _ _ h=>h.elim
end
noncomputable abbrev TG:=V->St->Hp->(St->Hp->Prop)->Prop
noncomputable abbrev ER:=List V->St->Hp->(St->Hp->Prop)->Prop
noncomputable def PG (X:Cx)(target:Expr)(t:TG):Prop :=
 ∀(pins:List (Addr×Obj))(s:Ci)(σ:St)(H:Hp)(v:V)(u:Value)(Q:St->Hp->Prop),Inv X pins σ H s->aG v u->t v σ H Q →
  wpAny (model X.prog X.w) X.A (assign target X.env u) (λ_ s'=>∃σ' H',Inv X pins σ' H' s'/\Q σ' H') X.xe s
noncomputable def Eg (X:Cx)(ts:yD)(t:ER):Prop :=
 ∀(pins:List (Addr×Obj))(s:Ci)(σ:St)(H:Hp)(vs:List V)(us:m8)(Q:St->Hp->Prop),Inv X pins σ H s->aR vs us->t vs σ H Q →
  wpAny (model X.prog X.w) X.A (assignInOrder ((assignEach ts X.env).map (·.2)) us) (λ_ s'=>∃σ' H',Inv X pins σ' H' s'/\Q σ' H') X.xe s
noncomputable abbrev B7:=V->V->V->Hp->(Hp->Prop)->Prop
noncomputable def Dz (X:Cx)(t:B7):Prop :=
 ∀(pins:List (Addr×Obj))(s:Ci)(σ:St)(H:Hp)(o i v:V)(ov iv u:Value)(Q:Hp->Prop),Inv X pins σ H s->aG o ov->aG i iv->aG v u->t o i v H Q →
  wpAny (model X.prog X.w) X.A (setItem ov iv u) (λ_ s'=>∃H',Inv X pins σ H' s'/\Q H') X.xe s
variable {k:Nat}{g:TG}{body:List Stmt}{tb:TS}
section
variable {X:Cx}{pos:Pos}
noncomputable def bw (i:Nat):TG:=λv σ H Q=>Q (σ.set i (some v)) H
theorem aD {i:Nat}(hN:X.N.Nodup)(hi:X.N[i]?=some x)(hx:Dq X.env.scope x)(hf:X.fn x=true\/X.env.scope.names.lookup x=some .local:=by first|exact .inl rfl|exact .inr rfl|assumption):PG X (.Name x pos) (bw i):=by
 intro pins s σ H v u Q I r h;exact wpAny_assign_Name (hU I hN hi hx r (λs' I'=>⟨_,H,I',h⟩) hf)
noncomputable def rM:ER:=λvs σ H Q=>vs=[]/\Q σ H
noncomputable def cS (t:TG)(u:ER):ER:=λvs σ H Q=>∃v r,vs=v::r/\t v σ H λσ' H'=>u r σ' H' Q
theorem cu:Eg X [] rM:=by
 intro pins s σ H vs us Q I r h;obtain⟨e,h⟩:=h;subst e
 cases r
 exact assignInOrder_nil ⟨σ,H,I,h⟩
theorem aO {es:yD}{t:TG}{u:ER}(h1:PG X e t)(h2:Eg X es u)
 (hs:(assignEach (e::es) X.env).map (·.2)=assign e X.env::(assignEach es X.env).map (·.2):=by rfl):Eg X (e::es) (cS t u):=by
 intro pins s σ H vs us Q I r h;obtain⟨v,vr,e1,h⟩:=h;subst e1
 cases r with
 |cons r rr =>
  rw[hs];refine assignInOrder_cons (bU (h1 pins s σ H _ _ _ I r h) λ_ s1 z'=>?_);obtain⟨σ1,H1,I1,q1⟩:=z';exact h2 pins s1 σ1 H1 _ _ Q I1 rr q1
noncomputable def kZ (K:PySem.W.Frag)(n:Nat)(t:ER):TG:=λv σ H Q=>∃a xs,v=.ref a/\aV K H a xs/\xs.length=n/\t xs σ H Q
theorem cY {es:yD}{t:ER}{n:Nat}(hc:X.calm=true)(h:Eg X es t)
 (hn:(assignEach es X.env).length=n:=by rfl)(JX:(assignEach es X.env).findIdx? (·.1)=none:=by rfl):PG X (.Tuple es k pos) (kZ X.K n t):=by
 intro pins s σ H v u Q I r hw;obtain⟨a,xs,e1,hq,hl,hw⟩:=hw;subst e1
 cases r
 obtain⟨its,rv,ht,hz⟩:=I.tuple hq;refine assign_Tuple_tuple (I.ok.hd hc) ht (by simp[hn,<-hl,rv.length]) JX λh' hx=>?_;have I1:Inv X pins σ H {s with heap:=h'}:=I.kept (t':=s.toks) λb o e=>hx b o (Yr (Ym e)) e;exact h pins _ σ H xs _ Q I1 (by simpa using rv) hw
noncomputable def CXT (to ti:TE)(t:B7):TG:=λv σ H Q=>to σ H λo H1=>ti σ H1 λi H2=>t o i v H2 λH3=>Q σ H3
theorem qp {o i:Expr}{to ti:TE}{t:B7}(ho:PE X o to)(hi:PE X i ti)(hs:Dz X t)
 (ha:∀v,assign (.Subscript o i pos) X.env v=(do
  let ov <-holding [v] (eval o X.env)
  let iv <-holding [v,ov] (eval i X.env)
  standAt pos
  holding [v,ov,iv] (setItem ov iv v)
  release [v,ov,iv] []):=by intro _;rfl):PG X (.Subscript o i pos) (CXT to ti t):=by
 intro pins s σ H v u Q I r h;rw[ha];refine X9 (YY (bU (ho pins s σ H _ I h) λov s1 z'=>?_));obtain⟨x,H1,I1,r1,q1⟩:=z';refine X9 (YY (bU (hi pins s1 σ H1 _ I1 q1) λiv s2 z'=>?_));obtain⟨y,H2,I2,r2,q2⟩:=z';refine X9 (lu (X9 (YY (bU (hs pins s2 σ H2 x y v ov iv u _ I2 r1 r2 r q2) λ_ s3 z'=>?_))));obtain⟨H3,I3,q3⟩:=z';exact wpAny_release ⟨σ,H3,I3,q3⟩
noncomputable def lr (te:TE)(g:TG):TS:=λD σ H=>te σ H λx H1=>g x σ H1 D.nx
theorem jZ {tg:Expr}{te:TE}(he:PE X e te)(hg:PG X tg g)(hs:swapsWithSole [tg] e pos.line X.env=pure false:=by rfl)(hw:swappedStores [tg] e X.env=pure none:=by rfl)
 (h1:(assignEach [tg] X.env).map (·.2)=[assign tg X.env]:=by rfl):PS X (.Assign [tg] e pos) (lr te g):=by
 intro pins s σ H D I h;refine wpAny_Assign_stores (bU (he pins s σ H _ I h) λv s1 z'=>?_) hs hw;obtain⟨x,H1,I1,r1,q1⟩:=z';rw[h1];exact bU (hg pins s1 σ H1 x v _ I1 r1 q1) λ_ s2 q=>q
theorem aX {i:Nat}{x:Str}{e:Expr}{te:TE}{pos':Pos}(hN:X.N.Nodup)(hi:X.N[i]?=some x)(hx:Dq X.env.scope x)(he:PE X e te)(hs:swapsWith e (some (.Name x pos')) pos.line X.env=pure false:=by rfl)(hf:X.fn x=true\/X.env.scope.names.lookup x=some .local:=by first|exact .inl rfl|exact .inr rfl|assumption):
 PS X (.Assign [.Name x pos'] e pos) (lr te (bw i)):=by
 intro pins s σ H D I h;refine wpAny_Assign_Name (bU (he pins s σ H _ I h) λv s1 z'=>?_) hs;obtain⟨y,H1,I1,r1,q1⟩:=z';exact hU I1 hN hi hx r1 (λs2 I2=>⟨_,H1,I2,q1⟩) hf
noncomputable def TmX (i j:Nat)(ta:TA):TS:=λD σ H=>ta σ H λvs H1=>∃v w,vs=[v,w]/\D.nx ((σ.set i (some v)).set j (some w)) H1
theorem iR {i j:Nat}{y:Str}{a b:Expr}{ta:TA}{px py pt:Pos} {kt k2 NC}(hc:X.calm=true)(hN:X.N.Nodup)(hi:X.N[i]?=some x)(hj:X.N[j]?=some y)(GD:i≠j)
 (hx:X.env.scope.names.lookup x=some .local)(hy:X.env.scope.names.lookup y=some .local)(ha:PA X [a,b] ta)
 (hw:swappedStores [.Tuple [.Name x px,.Name y py] kt pt] (.Tuple [a,b] k2 NC) X.env=pure (some [x,y]))
 (hs:swapsWithSole [.Tuple [.Name x px,.Name y py] kt pt] (.Tuple [a,b] k2 NC) pos.line X.env=pure false:=by rfl):
 PS X (.Assign [.Tuple [.Name x px,.Name y py] kt pt] (.Tuple [a,b] k2 NC) pos) (TmX i j ta):=by
 intro pins s σ H D I h;rw[exec_Assign_arm];refine X9 (lu ?_);rw[hs];refine X9 (Yb ?_);rw[Yd (by decide)];refine X9 (Tuple_ (bU (ha _ pins s σ H _ I h) λus s1 z'=>?_));obtain⟨vs,H1,I1,r1,q1⟩:=z';obtain⟨v,w,e1,q1⟩:=q1;subst e1
 obtain⟨u1,u2,rfl,rv,Gb⟩:∃u1 u2,us=[u1,u2]/\aG v u1/\aG w u2:=by
  cases r1 with
  |cons p q =>
   cases q with
   |cons p' q' =>
    cases q'
    exact⟨_,_,rfl,p,p'⟩
 refine YB ?_ hJ;have I2:Inv X pins σ H1 {s1 with heap:=s1.heap.push {cls:=.type "tuple",data:=.seq [u1,u2].toArray} }:=I1.kept (t':=s1.toks) λb o e=>Yc _ e;rw[hw];refine X9 (Yb ?_);show wpAny (model X.prog X.w) X.A (do rule "assign.swapped-stores";let items <-unpackItems (.ref s1.heap.objs.size) 2 none;assignInOrder [λv=>bindName X.env y v,λv=>bindName X.env x v] items.reverse;pure Flow.next) _ _ _;refine X9 (Ej (X9 (unpackItems_tuple (items:=#[u1,u2]) (I.ok.hd hc) (IsTup.new s1.heap _) λh' SE=>?_)));have I3:=I2.kept (h':=h') (t':=s1.toks) λb o e=>SE b o (Yr (Ym e)) e;show wpAny _ _ (assignInOrder [λv=>bindName X.env y v,λv=>bindName X.env x v] [u2,u1]>>=λ_=>pure Flow.next) _ _ _;refine X9 (assignInOrder_cons (wpAny_bindName (hU I3 hN hj (.inl hy) Gb (λs2 I4=>?_) (.inr hy))));refine assignInOrder_cons (wpAny_bindName (hU I4 hN hi (.inl hx) rv (λs3 I5=>assignInOrder_nil (Yb ?_)) (.inr hx)));rw[List.set_comm _ _ (YM GD)] at I5;exact⟨_,H1,I5,q1⟩
noncomputable def aal (c:TT)(tb:TS):TS:=λD σ H=>∃W:Nat->St->Hp->Prop,(∃m,W m σ H)/\∀m σ H,W m σ H →
 c σ H λb H1=>if b=true then ∃N:St->Hp->Prop,(∀σ' H',N σ' H'->∃m',m'<m/\W m' σ' H')/\tb {D with nx:=N,ct:=N,bk:=D.nx} σ H1 else D.nx σ H1
theorem kx {c:Expr}{tc:TT}(hp:PassesOwn (model X.prog X.w) X.A X.env X.xe)(hc:PT X c tc)(hb:oO X body tb):PS X (.While c body [] pos) (aal tc tb):=by
 intro pins s σ H D I h;obtain⟨W,⟨m0,w0⟩,turn⟩:=h;refine wpAny_While (codeAny_whileLoop (λn s'=>∃σ' H',Inv X pins σ' H' s'/\W n σ' H') ?_ m0 ⟨σ,H,I,w0⟩);rintro n s1 ⟨σ1,H1,I1,w1⟩;refine xb hp (bU (hc pins s1 σ1 H1 _ I1 (turn n σ1 H1 w1)) λb s2 z'=>?_);obtain⟨H2,I2,q2⟩:=z'
 cases b with
 |true =>
  obtain⟨N,hN,q2⟩:=q2;rw[Yh rfl];refine xb hp (bU (hb pins s2 σ1 H2 _ I2 q2) λf s3 q3=>?_)
  cases f with
  |next =>
   obtain⟨σ3,H3,I3,n3⟩:=q3;obtain⟨m',hm,w3⟩:=hN σ3 H3 n3;exact⟨m',hm,σ3,H3,I3,w3⟩
  |cont =>
   obtain⟨σ3,H3,I3,n3⟩:=q3;obtain⟨m',hm,w3⟩:=hN σ3 H3 n3;exact⟨m',hm,σ3,H3,I3,w3⟩
  |brk=>exact q3
  |ret v=>exact q3
 |false =>
  rw[Yd Yp];exact Et ⟨σ1,H2,I2,q2⟩
end
structure It where
 go:Nat->Hp->Prop
 yld:Nat->Hp->V->Hp->Prop
 stop:Nat->Hp->Prop
noncomputable def c8 (X:Cx)(pins:List (Addr×Obj))(H:Hp)(b:Addr):Prop :=
 H b=none/\b≠X.env.locals/\b∉X.fs/\(b∈X.ex\/X.s₀.heap.objs.size<=b)/\(∀x c,X.env.cells.lookup x=some c->c≠b)/\∀p∈X.pn++pins,p.1≠b
variable {H':Hp}
theorem Inv.ada (I:Inv X pins σ H s)(hb:s.heap.objs.size<=b)(hn:H' b=none):c8 X pins H' b:=by
 refine⟨hn,Zz (Ys I.lt hb),I.ae3 hb,.inr (Yq I.sz hb),λx c e z=>?_,λp hp z=>?_⟩
 ·obtain⟨v,q⟩:=I.cell x c e;exact absurd (Ys q.lt (by rw[z];exact hb)) (Zh _)
 ·exact absurd (Ys (Ym (I.pin p hp).1) (by rw[z];exact hb)) (Zh _)
structure Turn (P:wu)(w:World)(K:PySem.W.Frag)(tg:Expr)(J:It)(fp:List Addr)(it:Addr)(tn:Nat->Heap->Prop):Prop where
 mem:it∈fp
 obj:∀i h,tn i h->∀b∈fp,∃o,h.get? b=some o/\∀v,o.data≠.cell v
 keep:∀i h h',tn i h->(∀b∈fp,∀o,h.get? b=some o->h'.get? b=some o)->tn i h'
 item:∀(X:Cx),X.prog=P->X.w=w->X.K=K->X.calm=true->∀(i:Nat)(pins:List (Addr×Obj))(s:Ci)(σ:St)(H:Hp)(E:ph),Inv X pins σ H s->(∀b∈fp,c8 X pins H b)->tn i s.heap->J.go i H →
  wpAny (model P w) X.A (pyNext (.ref it)) (λr s1=>∃u,r=some u /\
   wpAny (model P w) X.A (letOwnedTupleGo tg (.ref it) u) (λ_ s2=>∃x H',Inv X pins σ H' s2/\aG x u/\J.yld i H x H'/\tn (i+1) s2.heap/\∀b∈fp,H' b=none) E s1) E s
 done:∀(X:Cx),X.prog=P->X.w=w->X.K=K->X.calm=true->∀(i:Nat)(pins:List (Addr×Obj))(s:Ci)(σ:St)(H:Hp)(E:ph),Inv X pins σ H s->(∀b∈fp,c8 X pins H b)->tn i s.heap->J.stop i H →
  wpAny (model P w) X.A (pyNext (.ref it)) (λr s1=>r=none/\Inv X pins σ H s1) E s
 self:∀(A:Around)(i:Nat)(s:Ci)(Q:ph)(E:ph),tn i s.heap->Q (.ref it) s->wpAny (model P w) A (pyIter (.ref it)) Q E s
noncomputable abbrev TI:=St->Hp->(It->Hp->Prop)->Prop
noncomputable def Fg (X:Cx)(pins:List (Addr×Obj))(σ:St)(tg:Expr)(R:It->Hp->Prop)(MS:Value)(s2:Ci):Prop :=
 ∃(it:Addr)(fp:List Addr)(tn:Nat->Heap->Prop)(J:It)(H':Hp),MS=.ref it/\Inv X pins σ H' s2/\Turn X.prog X.w X.K tg J fp it tn/\tn 0 s2.heap/\(∀b∈fp,c8 X pins H' b)/\R J H'
noncomputable def PI (X:Cx)(tg iter:Expr)(wi:TI):Prop :=
 ∀(pins:List (Addr×Obj))(s:Ci)(σ:St)(H:Hp)(R:It->Hp->Prop),Inv X pins σ H s->wi σ H R →
  wpAny (model X.prog X.w) X.A (eval iter X.env) (λv s1=>wpAny (model X.prog X.w) X.A (pyIter v) (Fg X pins σ tg R) X.xe s1) X.xe s
theorem uC {E:ph}{s:Ci}{tg:Expr}{it:Addr}{o:Obj}{n:String}{vs:BC}{Q:Unit->Shared->Prop}(ho:s.heap.get? it=some o)(hc:o.cls=.type n)(hd:o.data=.fields vs)
 (hn:["enumerate","zip","dict_itemiterator","dict_reverseitemiterator","odict_iterator","itertools.zip_longest","itertools.pairwise"].contains n=false)(hQ:Q () s):wpAny M A (letOwnedTupleGo tg (.ref it) u) Q E s:=by
 unfold letOwnedTupleGo
 cases tg <;> first
  |exact Yb hQ
  |(cases u <;> first
   |exact Yb hQ
   |(refine X9 (wpAny_load ho ?_)
     rw[hc,hd];show wpAny M A (if(["enumerate","zip","dict_itemiterator","dict_reverseitemiterator","odict_iterator","itertools.zip_longest","itertools.pairwise"].contains n&&vs[0]?==some (rawInt _))=true then _ else _) Q E s;rw[Yd (by intro h;rw[hn,ZF] at h;cases h)]
     exact Yb hQ))
noncomputable def ze (K:PySem.W.Frag)(a:Addr):It :=
 ⟨λi H=>∃xs x,bo K H a xs/\xs[i]?=some x,λi H x H'=>H'=H/\∀xs,bo K H a xs->xs[i]?=some x,λi H=>∃xs,bo K H a xs/\xs.length<=i⟩
noncomputable def C4 (K:PySem.W.Frag)(a:Addr):It :=
 ⟨λi H=>∃xs x,aV K H a xs/\xs[i]?=some x,λi H x H'=>H'=H/\∀xs,aV K H a xs->xs[i]?=some x,λi H=>∃xs,aV K H a xs/\xs.length<=i⟩
noncomputable def BM (lo:Int)(n:Nat):It:=⟨λi _=>i<n,λi H x H'=>H'=H/\x=.int (lo+i),λi _=>n<=i⟩
theorem abE {tg:Expr}(a it:Addr):Turn P w K tg (ze K a) [it] it (λi h=>h.IsListIter it a i) where
 mem:=by simp
 obj:=λi h st b hb=>by
  have e:b=it:=by simpa using hb
  subst e;obtain⟨o,e,c,d⟩:=st;exact⟨o,e,λv z=>by rw[d] at z;cases z⟩
 keep:=λi h h' st k=>st.at λo e=>k it (by simp) o e
 item:=by
  intro X hP hw hK hc i pins s σ H E I hf st hg;subst hP hw hK;obtain⟨xs,x,hq,hx⟩:=hg;obtain⟨its,rv,p,hz⟩:=I.list hq;obtain⟨u,hu,ru⟩:=rv.get hx;obtain⟨f0,f1,f2,f3,f4,f5⟩:=hf it (by simp);refine rB st p.isList (x:=u) (by simpa using hu) λh' F8 sb=>?_;have I1:Inv X pins σ H {s with heap:=h'}:=I.turned (t':=s.toks) (λb o hb e=>(sb.2 b hb).trans e) f0 f1 f3 f4 f5;obtain⟨o,e,c,d⟩:=id F8;exact⟨u,rfl,uC (s:={s with heap:=h'}) e c d (by decide) ⟨x,H,I1,ru,⟨rfl,λys hy=>by rw[I.ac4 hy hq];exact hx⟩,F8,λb hb=>(hf b hb).1⟩⟩
 done:=by
  intro X hP hw hK hc i pins s σ H E I hf st hg;subst hP hw hK;obtain⟨xs,hq,hx⟩:=hg;obtain⟨its,rv,p,hz⟩:=I.list hq;obtain⟨f0,f1,f2,f3,f4,f5⟩:=hf it (by simp);have hl:=rv.length;exact Bo (I.ok.hd hc) st p.isList (by simp;omega) λh' eb=>⟨rfl,I.turned (t':=s.toks) (λb o hb e=>eb b o hb e) f0 f1 f3 f4 f5⟩
 self:=λ_ _ _ _ _ st h=>wpAny_pyIter_listiter st h
theorem ac9 {tg:Expr}(a it:Addr):Turn P w K tg (C4 K a) [it] it (λi h=>h.IsTupleIter it a i) where
 mem:=by simp
 obj:=λi h st b hb=>by
  have e:b=it:=by simpa using hb
  subst e;obtain⟨o,e,c,d⟩:=st;exact⟨o,e,λv z=>by rw[d] at z;cases z⟩
 keep:=λi h h' st k=>st.at λo e=>k it (by simp) o e
 item:=by
  intro X hP hw hK hc i pins s σ H E I hf st hg;subst hP hw hK;obtain⟨xs,x,hq,hx⟩:=hg;obtain⟨its,rv,p,hz⟩:=I.tuple hq;obtain⟨u,hu,ru⟩:=rv.get hx;obtain⟨f0,f1,f2,f3,f4,f5⟩:=hf it (by simp);refine wpAny_pyNext_tuple_item st (show s.heap.IsTuple a its.toArray from p) (x:=u) (by simpa using hu) λh' F8 sb=>?_;have I1:Inv X pins σ H {s with heap:=h'}:=I.turned (t':=s.toks) (λb o hb e=>(sb.2 b hb).trans e) f0 f1 f3 f4 f5;obtain⟨o,e,c,d⟩:=id F8;exact⟨u,rfl,uC (s:={s with heap:=h'}) e c d (by decide) ⟨x,H,I1,ru,⟨rfl,λys hy=>by rw[I.acN hy hq];exact hx⟩,F8,λb hb=>(hf b hb).1⟩⟩
 done:=by
  intro X hP hw hK hc i pins s σ H E I hf st hg;subst hP hw hK;obtain⟨xs,hq,hx⟩:=hg;obtain⟨its,rv,p,hz⟩:=I.tuple hq;obtain⟨f0,f1,f2,f3,f4,f5⟩:=hf it (by simp);have hl:=rv.length;exact wpAny_pyNext_tuple_end (I.ok.hd hc) st (show s.heap.IsTuple a its.toArray from p) (by simp;omega) λh' eb=>⟨rfl,I.turned (t':=s.toks) (λb o hb e=>eb b o hb e) f0 f1 f3 f4 f5⟩
 self:=λ_ _ _ _ _ st h=>wpAny_pyIter_tupleiter st h
theorem adb {tg:Expr}(it:Addr)(lo:Int)(n:Nat):Turn P w K tg (BM lo n) [it] it (λi h=>IsRangeIter h it (lo+(i:Nat)*1) ((n:Int)-(i:Nat)) 1) where
 mem:=by simp
 obj:=λi h st b hb=>by
  have e:b=it:=by simpa using hb
  subst e
  exact⟨_,st,λv z=>by
   have z':Data.fields _=Data.cell v:=z
   cases z'⟩
 keep:=λi h h' st k=>k it (by simp) _ st
 item:=by
  intro X hP hw hK hc i pins s σ H E I hf st hg;subst hP hw hK;obtain⟨f0,f1,f2,f3,f4,f5⟩:=hf it (by simp);have W:=Walks.range (prog:=X.prog) (w:=X.w) (I.ok.hd hc) it lo 1 n;refine W.item i s _ _ hg st λv h' tk hv F8 kk=>?_;obtain⟨t,rfl⟩:=hv;have I1:Inv X pins σ H {s with heap:=h',toks:=tk}:=I.turned (λb o hb e=>kk b o (by simpa using hb) e) f0 f1 f3 f4 f5;refine⟨_,rfl,uC (s:={s with heap:=h',toks:=tk}) (n:="range_iterator") F8 rfl rfl (by decide) ⟨.int (lo+i),H,I1,⟨t,?_⟩,⟨rfl,rfl⟩,F8,λb hb=>(hf b hb).1⟩⟩;rw[Int.mul_one]
 done:=by
  intro X hP hw hK hc i pins s σ H E I hf st hg;subst hP hw hK;obtain⟨f0,f1,f2,f3,f4,f5⟩:=hf it (by simp);exact wpAny_pyNext_range_end (I.ok.hd hc) st (by have:n<=i:=hg;omega) λh' eb=>⟨rfl,I.turned (t':=s.toks) (λb o hb e=>eb b o hb e) f0 f1 f3 f4 f5⟩
 self:=λ_ _ _ _ _ st h=>wpAny_pyIter_rangeiter st h
variable {pos:Pos}{fp:List Addr}
section
variable {X:Cx}{tg:Expr}
noncomputable def AX (K:PySem.W.Frag)(tl:TE):TI:=λσ H R=>tl σ H λx H1=>∃a,x=.ref a/\(∃xs,bo K H1 a xs)/\R (ze K a) H1
noncomputable def BJ (K:PySem.W.Frag)(tl:TE):TI:=λσ H R=>tl σ H λx H1=>∃a,x=.ref a/\(∃xs,aV K H1 a xs)/\R (C4 K a) H1
theorem dM {l:Expr}{tl:TE}(hl:PE X l tl):PI X tg l (AX X.K tl):=by
 intro pins s σ H R I h;refine bU (hl pins s σ H _ I h) λv s1 z'=>?_;obtain⟨x,H1,I1,r1,q1⟩:=z';obtain⟨a,e,⟨xs,hq⟩,q⟩:=q1;subst e
 cases r1
 obtain⟨its,rv,p,hz⟩:=I1.list hq;refine yr p.isList ?_;refine⟨s1.heap.objs.size,[s1.heap.objs.size],_,_,H1,rfl,I1.kept (t':=s1.toks) λb o e=>Yc _ e,abE a _,⟨_,Yk _ rfl,rfl,rfl⟩,λb hb=>?_,q⟩
 have e:b=s1.heap.objs.size:=by simpa using hb
 subst e;exact I1.ada (Ye _) (I1.hok.fresh (Ye _))
theorem dB {l:Expr}{tl:TE}(hl:PE X l tl):PI X tg l (BJ X.K tl):=by
 intro pins s σ H R I h;refine bU (hl pins s σ H _ I h) λv s1 z'=>?_;obtain⟨x,H1,I1,r1,q1⟩:=z';obtain⟨a,e,⟨xs,hq⟩,q⟩:=q1;subst e
 cases r1
 obtain⟨its,rv,p,hz⟩:=I1.tuple hq;refine lA (show s1.heap.IsTuple a its.toArray from p) ?_;refine⟨s1.heap.objs.size,[s1.heap.objs.size],_,_,H1,rfl,I1.kept (t':=s1.toks) λb o e=>Yc _ e,ac9 a _,⟨_,Yk _ rfl,rfl,rfl⟩,λb hb=>?_,q⟩
 have e:b=s1.heap.objs.size:=by simpa using hb
 subst e;exact I1.ada (Ye _) (I1.hok.fresh (Ye _))
theorem ad0 {R:It->Hp->Prop}{E:ph}{lo hi:Int}{t u v:Tok}{tk:Nat}(I:Inv X pins σ H s)(h1:-(2^62)<=lo)(h2:lo<2^62)(h3:-(2^62)<=hi)(h4:hi<2^62)
 (q:R (BM lo (hi-lo).toNat) H):wpAny (model X.prog X.w) X.A (pyIter (.ref s.heap.objs.size)) (Fg X pins σ tg R) E {s with heap:=s.heap.push {cls:=.type "range",data:=.fields #[.int lo t,.int hi u,.int 1 v]},toks:=tk}:=by
 refine wpAny_pyIter_range (IsRange.new ..) (small_one h1 h2 h3 h4) ?_;have I1:Inv X pins σ H {s with heap:=s.heap.push {cls:=.type "range",data:=.fields #[.int lo t,.int hi u,.int 1 v]},toks:=tk}:=I.kept λb o e=>Yc _ e
 refine⟨(s.heap.push {cls:=.type "range",data:=.fields #[.int lo t,.int hi u,.int 1 v]}).objs.size,[(s.heap.push {cls:=.type "range",data:=.fields #[.int lo t,.int hi u,.int 1 v]}).objs.size],_,_,H,rfl,
  I1.kept (t':=tk) λb o e=>Yc _ e,adb _ lo (hi-lo).toNat,?_,λb hb=>?_,q⟩
 ·have e1:lo+((0:Nat):Int)*1=lo:=by simp
  have e2:(((hi-lo).toNat:Nat):Int)-((0:Nat):Int)=Builtin.Range.rangeSize lo hi 1:=by rw[rangeSize_one];split <;> omega
  show IsRangeIter _ _ (lo+((0:Nat):Int)*1) ((((hi-lo).toNat:Nat):Int)-((0:Nat):Int)) 1;rw[e1,e2];exact Yk _ rfl
 ·have e:b=(s.heap.push {cls:=.type "range",data:=.fields #[.int lo t,.int hi u,.int 1 v]}).objs.size:=by simpa using hb
  subst e;exact I1.ada (Ye _) (I1.hok.fresh (Ye _))
noncomputable def AF (ta:TA):TI:=λσ H R=>ta σ H λvs H1=>∃j:Int,vs=[.int j]/\-(2^62)<=j/\j<2^62/\R (BM 0 j.toNat) H1
theorem dR {a:Expr}{ta:TA}{p:Pos}(hg:Gl X "range")(hm:X.mg "range"=none)(ha:PA X [a] ta)(hs:starEach [a] X.env=[(false,eval a X.env)]:=by rfl):PI X tg (.Call (.Name "range" p) [a] [] pos) (AF ta):=by
 intro pins s σ H R I h;refine Call_ (eK I hg hm boot_range (Z8 (bU (ha pos pins s σ H _ I h) λus s1 z'=>?_) hs rfl));obtain⟨vs,H1,I1,r1,q1⟩:=z';obtain⟨j,e,q1,q2,q⟩:=q1;subst e
 cases r1 with
 |cons r rr =>
  cases rr
  obtain⟨t,rfl⟩:=r;exact call_range_1 (ad0 I1 (by omega) (by omega) q1 q2 (by simpa using q))
noncomputable def DT (wi:TI)(g:TG)(tb:TS):TS:=λD σ H=>wi σ H λJ H1=>∃W:Nat->Nat->St->Hp->Prop,(∃m,W 0 m σ H1)/\∀i m σ H,W i m σ H →
 (J.stop i H/\D.nx σ H)\/(J.go i H/\∃N:St->Hp->Prop,(∀σ' H',N σ' H'->∃m',m'<m/\W (i+1) m' σ' H')/\∀x H',J.yld i H x H'->g x σ H' λσ2 H2=>tb {D with nx:=N,ct:=N,bk:=D.nx} σ2 H2)
noncomputable def kO (fp:List Addr)(h:Heap):List (Addr×Obj):=fp.filterMap λb=>(h.get? b).map λo=>(b,o)
theorem ff {o:Obj}(hb:b∈fp)(e:h.get? b=some o):(b,o)∈kO fp h:=zA.mpr ⟨b,hb,by rw[e];rfl⟩
theorem aan {p:Addr×Obj}(hp:p∈kO fp h):p.1∈fp/\h.get? p.1=some p.2:=by
 obtain⟨b,hb,e⟩:=zA.mp hp
 cases q:h.get? b with
 |none=>rw[q] at e;cases e
 |some o =>
  rw[q] at e;have e':(b,o)=p:=Option.some.inj e;subst e';exact⟨hb,q⟩
theorem Inv.pinned (I:Inv X pins σ H s)(hf:∀b∈fp,c8 X pins H b)(ho:∀b∈fp,∃o,s.heap.get? b=some o/\∀v,o.data≠.cell v):Inv X (pins++kO fp s.heap) σ H s :=
 I.acM λp hp=>(YI.mp hp).elim (λz=>I.pin p (Yx _ z)) λz=>by
   obtain⟨hb,e⟩:=aan z;obtain⟨f0,f1,f2,_⟩:=hf p.1 hb;obtain⟨o,e',d⟩:=ho p.1 hb;rw[e] at e';cases e';exact⟨e,f0,f1,f2,d⟩
theorem Inv.acU {pl:List (Addr×Obj)}(I:Inv X (pins++pl) σ H s):Inv X pins σ H s:=I.acM λp hp=>I.pin p (Yx _ (ZE _ hp))
theorem dW {iter:Expr}{wi:TI}(hp:PassesOwn (model X.prog X.w) X.A X.env X.xe)(hc:X.calm=true)(hi:PI X tg iter wi)(hg:PG X tg g)(hb:oO X body tb)
 (hs:∀x,foldedSetIterable iter X.env x=pure x:=by intro _;rfl):PS X (.For tg iter body [] pos) (DT wi g tb):=by
 intro pins s σ H D I h;refine wpAny_For (bU (hi pins s σ H _ I h) λv s1 h1=>bU h1 λMS s2 h2=>?_) hs;obtain⟨it,fp,tn,J,H2,e,I2,T,HR,f2,W,⟨m0,w0⟩,turn⟩:=h2;subst e;have IM:∀{H':Hp},(∀b∈fp,H' b=none)->∀b∈fp,c8 X pins H' b:=λhn b hb=>⟨hn b hb,(f2 b hb).2⟩;refine codeAny_forLoop_any (λn s'=>∃i σ' H',Inv X pins σ' H' s'/\tn i s'.heap/\(∀b∈fp,H' b=none)/\W i n σ' H') ?_ m0 ⟨0,σ,H2,I2,HR,λb hb=>(f2 b hb).1,w0⟩;rintro n s3 ⟨i,σ3,H3,I3,QL,QM,w3⟩
 rcases turn i n σ3 H3 w3 with⟨stop,qn⟩|⟨go,N,hN,step⟩
 ·refine xb hp (bU (T.done X rfl rfl rfl hc i pins s3 σ3 H3 X.xe I3 (IM QM) QL stop) λr s4 z'=>?_);obtain⟨hr,I4⟩:=z';subst hr;exact Et ⟨σ3,H3,I4,qn⟩
 ·refine xb hp (bU (T.item X rfl rfl rfl hc i pins s3 σ3 H3 X.xe I3 (IM QM) QL go) λr s4 z'=>?_);obtain⟨u,hr,h4⟩:=z';subst hr;refine xb hp (bU h4 λ_ s5 z'=>?_);obtain⟨x,H5,I5,r5,y5,JY,ND⟩:=z';have SF:=I5.pinned (IM ND) (T.obj _ _ JY);refine xb hp (bU (hg _ s5 σ3 H5 x u _ SF r5 (step x H5 y5)) λ_ s6 z'=>?_);obtain⟨σ6,H6,I6,q6⟩:=z';refine xb hp (bU (hb _ s6 σ6 H6 _ I6 q6) λf s7 q7=>?_)
  have again:∀{σ7:St}{H7:Hp},Inv X (pins++kO fp s5.heap) σ7 H7 s7->N σ7 H7->∃m,m<n/\∃i σ' H',Inv X pins σ' H' s7/\tn i s7.heap/\(∀b∈fp,H' b=none)/\W i m σ' H':=λ{σ7 H7} I7 n7=>by
   obtain⟨m',hm,w7⟩:=hN σ7 H7 n7;refine⟨m',hm,i+1,σ7,H7,I7.acU,T.keep _ _ _ JY λb hb o e=>(I7.pin (b,o) (Yx _ (Yx _ (ff hb e)))).1,λb hb=>?_,w7⟩;obtain⟨o,e,d⟩:=T.obj _ _ JY b hb;exact(I7.pin (b,o) (Yx _ (Yx _ (ff hb e)))).2.1
  cases f with
  |next=>obtain⟨σ7,H7,I7,n7⟩:=q7;exact again I7 n7
  |cont=>obtain⟨σ7,H7,I7,n7⟩:=q7;exact again I7 n7
  |brk=>obtain⟨σ7,H7,I7,q7⟩:=q7;exact⟨σ7,H7,I7.acU,q7⟩
  |ret v=>obtain⟨x7,σ7,H7,I7,r7,q7⟩:=q7;exact⟨x7,σ7,H7,I7.acU,r7,q7⟩
end
theorem ij {K:PySem.W.Frag}{a:Addr}{xs:List V}{D:Ends}(Pv:Nat->St->Hp->Prop)(h0:Pv 0 σ H)(hl:∀i σ H,i<=xs.length->Pv i σ H->bo K H a xs)
 (hs:∀i x σ H,xs[i]?=some x->Pv i σ H->g x σ H λσ2 H2=>tb {D with nx:=Pv (i+1),ct:=Pv (i+1),bk:=D.nx} σ2 H2)(hd:∀σ H,Pv xs.length σ H->D.nx σ H):
 ∃W:Nat->Nat->St->Hp->Prop,(∃m,W 0 m σ H)/\∀i m σ H,W i m σ H →
  ((ze K a).stop i H/\D.nx σ H)\/((ze K a).go i H/\∃N:St->Hp->Prop,(∀σ' H',N σ' H'->∃m',m'<m/\W (i+1) m' σ' H')/\∀x H',(ze K a).yld i H x H'->g x σ H' λσ2 H2=>tb {D with nx:=N,ct:=N,bk:=D.nx} σ2 H2):=by
 refine⟨λi m σ H=>m=xs.length-i/\i<=xs.length/\Pv i σ H,⟨xs.length,by simp,Yt _,h0⟩,?_⟩;rintro i m σ H ⟨rfl,hi,p⟩;have q:=hl i σ H hi p
 by_cases Fy:i<xs.length
 ·refine .inr ⟨⟨xs,xs[i],q,by simp[Fy]⟩,Pv (i+1),λσ' H' p'=>⟨xs.length-(i+1),by omega,rfl,Fy,p'⟩,λx H' y=>?_⟩;obtain⟨e,y⟩:=y;subst e;exact hs i x σ _ (y xs q) p
 ·have e:i=xs.length:=by omega
  subst e;exact .inl ⟨⟨xs,q,Ye _⟩,hd σ H p⟩
theorem ur {K:PySem.W.Frag}{a:Addr}{xs:List V}{D:Ends}(Pv:Nat->St->Hp->Prop)(h0:Pv 0 σ H)(hl:∀i σ H,i<=xs.length->Pv i σ H->aV K H a xs)
 (hs:∀i x σ H,xs[i]?=some x->Pv i σ H->g x σ H λσ2 H2=>tb {D with nx:=Pv (i+1),ct:=Pv (i+1),bk:=D.nx} σ2 H2)(hd:∀σ H,Pv xs.length σ H->D.nx σ H):
 ∃W:Nat->Nat->St->Hp->Prop,(∃m,W 0 m σ H)/\∀i m σ H,W i m σ H →
  ((C4 K a).stop i H/\D.nx σ H)\/((C4 K a).go i H/\∃N:St->Hp->Prop,(∀σ' H',N σ' H'->∃m',m'<m/\W (i+1) m' σ' H')/\∀x H',(C4 K a).yld i H x H'->g x σ H' λσ2 H2=>tb {D with nx:=N,ct:=N,bk:=D.nx} σ2 H2):=by
 refine⟨λi m σ H=>m=xs.length-i/\i<=xs.length/\Pv i σ H,⟨xs.length,by simp,Yt _,h0⟩,?_⟩;rintro i m σ H ⟨rfl,hi,p⟩;have q:=hl i σ H hi p
 by_cases Fy:i<xs.length
 ·refine .inr ⟨⟨xs,xs[i],q,by simp[Fy]⟩,Pv (i+1),λσ' H' p'=>⟨xs.length-(i+1),by omega,rfl,Fy,p'⟩,λx H' y=>?_⟩;obtain⟨e,y⟩:=y;subst e;exact hs i x σ _ (y xs q) p
 ·have e:i=xs.length:=by omega
  subst e;exact .inl ⟨⟨xs,q,Ye _⟩,hd σ H p⟩
theorem lN {lo:Int}{n:Nat}{D:Ends}(Pv:Nat->St->Hp->Prop)(h0:Pv 0 σ H)
 (hs:∀i σ H,i<n->Pv i σ H->g (.int (lo+i)) σ H λσ2 H2=>tb {D with nx:=Pv (i+1),ct:=Pv (i+1),bk:=D.nx} σ2 H2)(hd:∀σ H,Pv n σ H->D.nx σ H):
 ∃W:Nat->Nat->St->Hp->Prop,(∃m,W 0 m σ H)/\∀i m σ H,W i m σ H →
  ((BM lo n).stop i H/\D.nx σ H)\/((BM lo n).go i H/\∃N:St->Hp->Prop,(∀σ' H',N σ' H'->∃m',m'<m/\W (i+1) m' σ' H')/\∀x H',(BM lo n).yld i H x H'->g x σ H' λσ2 H2=>tb {D with nx:=N,ct:=N,bk:=D.nx} σ2 H2):=by
 refine⟨λi m σ H=>m=n-i/\i<=n/\Pv i σ H,⟨n,by simp,Yt _,h0⟩,?_⟩;rintro i m σ H ⟨rfl,hi,p⟩
 by_cases Fy:i<n
 ·refine .inr ⟨Fy,Pv (i+1),λσ' H' p'=>⟨n-(i+1),by omega,rfl,Fy,p'⟩,λx H' y=>?_⟩;obtain⟨e,y⟩:=y;subst e y;exact hs i σ _ Fy p
 ·have e:i=n:=by omega
  subst e;exact .inl ⟨Ye _,hd σ H p⟩
noncomputable abbrev R2:=V->V->Hp->VK->Prop
noncomputable def eA (X:Cx)(f:Value->Value->Sem Value)(r:R2):Prop :=
 ∀(pins:List (Addr×Obj))(s:Ci)(σ:St)(H:Hp)(x y:V)(v u:Value)(Q:VK),Inv X pins σ H s->aG x v->aG y u->r x y H Q →
  wpAny (model X.prog X.w) X.A (f v u) (EP X pins σ Q) X.xe s
noncomputable def Es (X:Cx)(f:Value->Sem Value)(r:V->Hp->VK->Prop):Prop :=
 ∀(pins:List (Addr×Obj))(s:Ci)(σ:St)(H:Hp)(x:V)(v:Value)(Q:VK),Inv X pins σ H s->aG x v->r x H Q →
  wpAny (model X.prog X.w) X.A (f v) (EP X pins σ Q) X.xe s
noncomputable def cT (X:Cx)(f:Value)(r:List V->Hp->VK->Prop):Prop :=
 ∀(pins:List (Addr×Obj))(s:Ci)(σ:St)(H:Hp)(xs:List V)(us:m8)(Q:VK),Inv X pins σ H s->aR xs us->r xs H Q →
  wpAny (model X.prog X.w) X.A (call f us) (EP X pins σ Q) X.xe s
noncomputable def aao (X:Cx)(r:V->Hp->(Bool->Hp->Prop)->Prop):Prop :=
 ∀(pins:List (Addr×Obj))(s:Ci)(σ:St)(H:Hp)(x:V)(v:Value)(Q:Bool->Hp->Prop),Inv X pins σ H s->aG x v->r x H Q →
  wpAny (model X.prog X.w) X.A (truthy v) (TP X pins σ Q) X.xe s
noncomputable def kn (r:R2)(ta tb:TE):TE:=λσ H Q=>ta σ H λx H1=>tb σ H1 λy H2=>r x y H2 Q
noncomputable def Fk (r:V->Hp->VK->Prop)(ta:TE):TE:=λσ H Q=>ta σ H λx H1=>r x H1 Q
noncomputable def rI (C:Int->Int->Prop)(g:Int->Int->V):R2:=λx y H Q=>∃i j,x=.int i/\y=.int j/\C i j/\Q (g i j) H
noncomputable def vU (g:Int->Int->V):R2:=λx y H Q=>∃i j,x=.int i/\y=.int j/\Q (g i j) H
noncomputable def rU (g:Int->V):V->Hp->VK->Prop:=λx H Q=>∃i,x=.int i/\Q (g i) H
variable {f:Value->Value->Sem Value}{r:R2}
section
variable {X:Cx}{a b c:Expr}{ta tb tc:TE}{pos:Pos}
theorem CA (ha:PE X a ta)(hb:PE X b tb){R:V->V->Hp->Prop}(I:Inv X pins σ H s)
 (h:ta σ H λx H1=>tb σ H1 λy H2=>R x y H2){Q:ph}
 (hf:∀v u s2 x y H2,Inv X pins σ H2 s2->aG x v->aG y u->R x y H2->wpAny (model X.prog X.w) X.A (f v u) Q X.xe s2):
 wpAny (model X.prog X.w) X.A (eval a X.env) (λv s₁=>wpAny (model X.prog X.w) X.A (eval b X.env) (λu s₂=>wpAny (model X.prog X.w) X.A (f v u) Q X.xe s₂) X.xe s₁) X.xe s:=by
 refine bU (ha pins s σ H _ I h) λv s1 z'=>?_;obtain⟨x,H1,I1,r1,q1⟩:=z';refine bU (hb pins s1 σ H1 _ I1 q1) λu s2 z'=>?_;obtain⟨y,H2,I2,r2,q2⟩:=z';exact hf v u s2 x y H2 I2 r1 r2 q2
theorem aK {op:Operator}(ho:eA X (binaryOp op) r)(ha:PE X a ta)(hb:PE X b tb):PE X (.BinOp a op b pos) (kn r ta tb):=by
 intro pins s σ H Q I h;exact wpAny_BinOp (CA ha hb I h λv u s2 x y H2 I2 rx ry q=>ho pins s2 σ H2 x y v u Q I2 rx ry q)
theorem pq {op:UnaryOp}{r:V->Hp->VK->Prop}(ho:Es X (unaryOp op) r)(ha:PE X a ta):PE X (.UnaryOp op a pos) (Fk r ta):=by
 intro pins s σ H Q I h;exact UnaryOp_ (bU (ha pins s σ H _ I h) λv s1 ⟨x,H1,I1,r1,q1⟩=>ho pins s1 σ H1 x v Q I1 r1 q1)
theorem BO {C:Int->Int->Prop}{g:Int->Int->Int}
 (rule:∀(i j:Int)(t u:Tok)(s:Ci)(Q:ph)(E:ph),C i j->Q (.int (g i j) s.toks) {s with toks:=s.toks+1}->wpAny (model X.prog X.w) X.A (f (.int i t) (.int j u)) Q E s):
 eA X f (rI C λi j=>.int (g i j)):=by
 intro pins s σ H x y v u Q I rx ry h;obtain⟨i,j,rfl,rfl,hc,q⟩:=h;obtain⟨t,rfl⟩:=rx;obtain⟨t',rfl⟩:=ry;exact rule i j t t' s _ _ hc ⟨.int (g i j),H,I.tok _,⟨_,rfl⟩,q⟩
theorem C9 {g:Int->Int->Int}
 (rule:∀(i j:Int)(t u:Tok)(s:Ci)(Q:ph)(E:ph),Q (.int (g i j) s.toks) {s with toks:=s.toks+1}->wpAny (model X.prog X.w) X.A (f (.int i t) (.int j u)) Q E s):
 eA X f (vU λi j=>.int (g i j)):=by
 intro pins s σ H x y v u Q I rx ry h;obtain⟨i,j,rfl,rfl,q⟩:=h;obtain⟨t,rfl⟩:=rx;obtain⟨t',rfl⟩:=ry;exact rule i j t t' s _ _ ⟨.int (g i j),H,I.tok _,⟨_,rfl⟩,q⟩
theorem yL {g:Int->Int->Bool}
 (rule:∀(i j:Int)(t u:Tok)(s:Ci)(Q:ph)(E:ph),Q (.bool (g i j)) s->wpAny (model X.prog X.w) X.A (f (.int i t) (.int j u)) Q E s):
 eA X f (vU λi j=>.bl (g i j)):=by
 intro pins s σ H x y v u Q I rx ry h;obtain⟨i,j,rfl,rfl,q⟩:=h;obtain⟨t,rfl⟩:=rx;obtain⟨t',rfl⟩:=ry;exact rule i j t t' s _ _ ⟨.bl (g i j),H,I,rfl,q⟩
noncomputable def aaz (i j:Int):Prop:=0<j/\j<1073741824
noncomputable def aa4 (i j:Int):Prop:=0<=j/\j<=1000000/\i.natAbs<2^64
noncomputable def vt (i j:Int):Prop:=(-(2^64)<i/\i<2^64)\/(-(2^64)<j/\j<2^64)
theorem vt.ok {i j:Int}(h:vt i j):IntMulOk i j:=by
 rcases h with⟨h1,h2⟩|⟨h1,h2⟩
 ·exact .of_left (intBits_le_64 h1 h2)
 ·exact .of_right (intBits_le_64 h1 h2)
theorem fF:eA X (binaryOp .Add) (vU λi j=>.int (i+j)):=C9 λ_ _ _ _ _ _ _ q=>add_int q
theorem rD:eA X (binaryOp .Sub) (vU λi j=>.int (i-j)):=C9 λ_ _ _ _ _ _ _ q=>sub_int q
theorem dC:eA X (binaryOp .Mult) (rI vt λi j=>.int (i*j)):=BO λ_ _ _ _ _ _ _ hc q=>mul_int q hc.ok
theorem adf:eA X (binaryOp .FloorDiv) (rI aaz λi j=>.int (i/j)):=BO λi j _ _ _ _ _ hc q=>by
 have h1:(0:Int)<j:=hc.1;have h2:j<1073741824:=hc.2;exact floordiv_int (by omega) (by rw[Int.fdiv_eq_ediv_of_nonneg i (by omega)];exact q) (.inl (PyProof.noPylong_small (by omega)))
theorem cO:eA X (binaryOp .Mod) (rI (λ_ j=>0<j) λi j=>.int (i%j)):=BO λi j _ _ _ _ _ hc q=>by
 have h1:(0:Int)<j:=hc;exact mod_int' (by omega) (by rw[Int.fmod_eq_emod_of_nonneg i (by omega)];exact q)
theorem sS:eA X (binaryOp .Mod) (rI (λ_ j=>j≠0) λi j=>.int (i.fmod j)):=BO λ_ _ _ _ _ _ _ hc q=>mod_int' hc q
theorem xB:eA X (binaryOp .Pow) (rI aa4 λi j=>.int (i^j.toNat)):=BO λ_ _ _ _ _ _ _ hc q=>pow_int_small hc.1 hc.2.1 hc.2.2 q
theorem adi {f:Value->Sem Value}{g:Int->Int}
 (rule:∀(i:Int)(t:Tok)(s:Ci)(Q:ph)(E:ph),Q (.int (g i) s.toks) {s with toks:=s.toks+1}->wpAny (model X.prog X.w) X.A (f (.int i t)) Q E s):
 Es X f (rU λi=>.int (g i)):=by
 intro pins s σ H x v Q I rx h;obtain⟨i,rfl,q⟩:=h;obtain⟨t,rfl⟩:=rx;exact rule i t s _ _ ⟨.int (g i),H,I.tok _,⟨_,rfl⟩,q⟩
theorem j9:Es X (unaryOp .USub) (rU λi=>.int (-i)):=adi λ_ _ _ _ _ q=>neg_int q
end
noncomputable def Dw:V->V->Bool
 | .non,.non=>true| .non,.int _=>true| .int _,.non=>true| .non,.bl _=>true| .bl _,.non=>true| .non,.str _=>true| .str _,.non=>true
 | .int _,.int _=>true| .bl _,.bl _=>true| .str _,.str _=>true| .byt _,.byt _=>true
 | .int _,.str _=>true| .str _,.int _=>true| .bl _,.str _=>true| .str _,.bl _=>true
 |_,_=>false
noncomputable def Cz:R2:=λx y H Q=>Dw x y=true/\Q (.bl (decide (x=y))) H
noncomputable def rNe:R2:=λx y H Q=>Dw x y=true/\Q (.bl (!decide (x=y))) H
theorem sI {i j:Int}:decide (V.int i=V.int j)=(i==j):=by
 rw[ZL];simp
theorem yb {i j:Bool}:decide (V.bl i=V.bl j)=(i==j):=by
 rw[ZL];simp
theorem tE {i j:Str}:decide (V.str i=V.str j)=(i==j):=by
 rw[ZL];simp
theorem tH {i j:Array UInt8}:decide (V.byt i=V.byt j)=(i.toList==j.toList):=by
 rw[ZL]
 cases i
 cases j
 simp
variable {Q:VK}
section
variable {X:Cx}{a b c:Expr}{ta tb tc:TE}{pos:Pos}
theorem bf {k k':Bool}(I:Inv X pins σ H s)(q:Q (.bl k) H)(e:k=k'):EP X pins σ Q (.bool k') s:=by
 subst e;exact⟨.bl k,H,I,rfl,q⟩
theorem fN:eA X (compareOp .Eq) Cz:=by
 intro pins s σ H x y v u Q I rx ry h;obtain⟨hs,q⟩:=h
 cases x with
 |non =>
  cases rx
  cases y with
  |non=>cases ry;exact PySem.EqNone.eq_none_none (bf I q (by simp))
  |bl j=>cases ry;exact PySem.EqNone.eq_none_bool (bf I q (by simp))
  |int j=>obtain⟨t',rfl⟩:=ry;exact PySem.EqNone.eq_none_int (bf I q (by simp))
  |str j=>obtain⟨t',rfl⟩:=ry;exact PySem.EqNone.eq_none_str (bf I q (by simp))
  |_=>exact absurd (show false=true from hs) Yp
 |bl i =>
  cases rx
  cases y with
  |non=>cases ry;exact PySem.EqNone.eq_bool_none (bf I q (by simp))
  |bl j=>cases ry;exact eq_bool (bf I q yb)
  |str j=>obtain⟨t',rfl⟩:=ry;exact PySem.EqMixed.eq_bool_str (bf I q (by simp))
  |_=>exact absurd (show false=true from hs) Yp
 |int i =>
  obtain⟨t,rfl⟩:=rx
  cases y with
  |non=>cases ry;exact PySem.EqNone.eq_int_none (bf I q (by simp))
  |int j=>obtain⟨t',rfl⟩:=ry;exact eq_int (bf I q sI)
  |str j=>obtain⟨t',rfl⟩:=ry;exact PySem.EqMixed.eq_int_str (bf I q (by simp))
  |_=>exact absurd (show false=true from hs) Yp
 |str i =>
  obtain⟨t,rfl⟩:=rx
  cases y with
  |non=>cases ry;exact PySem.EqNone.eq_str_none (bf I q (by simp))
  |bl j=>cases ry;exact PySem.EqMixed.eq_str_bool (bf I q (by simp))
  |int j=>obtain⟨t',rfl⟩:=ry;exact PySem.EqMixed.eq_str_int (bf I q (by simp))
  |str j=>obtain⟨t',rfl⟩:=ry;exact eq_str (bf I q tE)
  |_=>exact absurd (show false=true from hs) Yp
 |byt i =>
  obtain⟨t,rfl⟩:=rx
  cases y with
  |byt j=>obtain⟨t',rfl⟩:=ry;exact PySem.W.eq_bytes (bf I q tH)
  |_=>exact absurd (show false=true from hs) Yp
 |_=>cases y <;> exact absurd (show false=true from hs) Yp
theorem fW:eA X (compareOp .NotEq) rNe:=by
 intro pins s σ H x y v u Q I rx ry h;obtain⟨hs,q⟩:=h
 cases x with
 |non =>
  cases rx
  cases y with
  |non=>cases ry;exact PySem.EqNone.ne_none_none (bf I q (by simp))
  |bl j=>cases ry;exact PySem.EqNone.ne_none_bool (bf I q (by simp))
  |int j=>obtain⟨t',rfl⟩:=ry;exact PySem.EqNone.ne_none_int (bf I q (by simp))
  |str j=>obtain⟨t',rfl⟩:=ry;exact PySem.EqNone.ne_none_str (bf I q (by simp))
  |_=>exact absurd (show false=true from hs) Yp
 |bl i =>
  cases rx
  cases y with
  |non=>cases ry;exact PySem.EqNone.ne_bool_none (bf I q (by simp))
  |bl j=>cases ry;exact ne_bool (bf I q (Ze not yb))
  |str j=>obtain⟨t',rfl⟩:=ry;exact PySem.EqMixed.ne_bool_str (bf I q (by simp))
  |_=>exact absurd (show false=true from hs) Yp
 |int i =>
  obtain⟨t,rfl⟩:=rx
  cases y with
  |non=>cases ry;exact PySem.EqNone.ne_int_none (bf I q (by simp))
  |int j=>obtain⟨t',rfl⟩:=ry;exact ne_int (bf I q (Ze not sI))
  |str j=>obtain⟨t',rfl⟩:=ry;exact PySem.EqMixed.ne_int_str (bf I q (by simp))
  |_=>exact absurd (show false=true from hs) Yp
 |str i =>
  obtain⟨t,rfl⟩:=rx
  cases y with
  |non=>cases ry;exact PySem.EqNone.ne_str_none (bf I q (by simp))
  |bl j=>cases ry;exact PySem.EqMixed.ne_str_bool (bf I q (by simp))
  |int j=>obtain⟨t',rfl⟩:=ry;exact PySem.EqMixed.ne_str_int (bf I q (by simp))
  |str j=>obtain⟨t',rfl⟩:=ry;exact ne_str (bf I q (Ze not tE))
  |_=>exact absurd (show false=true from hs) Yp
 |byt i =>
  obtain⟨t,rfl⟩:=rx
  cases y with
  |byt j=>obtain⟨t',rfl⟩:=ry;exact PySem.W.ne_bytes (bf I q (Ze not tH))
  |_=>exact absurd (show false=true from hs) Yp
 |_=>cases y <;> exact absurd (show false=true from hs) Yp
theorem ir:eA X (compareOp .Lt) (vU λi j=>.bl (decide (i<j))):=yL λ_ _ _ _ _ _ _ q=>lt_int q
theorem pb:eA X (compareOp .LtE) (vU λi j=>.bl (decide (i<=j))):=yL λ_ _ _ _ _ _ _ q=>le_int q
theorem AO:eA X (compareOp .Gt) (vU λi j=>.bl (decide (j<i))):=yL λ_ _ _ _ _ _ _ q=>gt_int q
theorem A4:eA X (compareOp .GtE) (vU λi j=>.bl (decide (j<=i))):=yL λ_ _ _ _ _ _ _ q=>ge_int q
theorem adV:eA X (compareOp .Is) (λx y H Q=>y=.non/\Q (.bl (decide (x=.non))) H):=by
 intro pins s σ H x y v u Q I rx ry h;obtain⟨rfl,q⟩:=h
 cases ry
 refine is_none_gen (bf I q ?_)
 cases x <;> first
  |(cases rx;rfl)
  |(obtain⟨t,rfl⟩:=rx;rfl)
theorem aU (b:Expr)(h:op ≠ .In:=by decide)(h2:op ≠ .NotIn:=by decide):behindInMarks op b=false:=by
 have e1:(op==CmpOp.In)=false:=by cases op <;> first|rfl|exact absurd rfl h
 have e2:(op==CmpOp.NotIn)=false:=by cases op <;> first|rfl|exact absurd rfl h2
 cases b <;> simp[behindInMarks,e1,e2]
theorem cp (ho:eA X (compareOp op) r)(ha:PE X a ta)(hb:PE X b tb)(hm:behindInMarks op b=false):PE X (.Compare a [op] [b] pos) (kn r ta tb):=by
 intro pins s σ H Q I h;exact wpAny_Compare1 (CA ha hb I h λv u s2 x y H2 I2 rx ry q=>ho pins s2 σ H2 x y v u Q I2 rx ry q) hm
noncomputable def uw (t:TE):TT:=λσ H Q=>t σ H λx H'=>∃k,x=.bl k/\Q k H'
theorem aN (ho:eA X (compareOp op) r)(ha:PE X a ta)(hb:PE X b tb)(hm:behindInMarks op b=false):PT X (.Compare a [op] [b] pos) (uw (kn r ta tb)):=by
 intro pins s σ H Q I h
 refine wpAny_isTrue_Compare1 (bU (ha pins s σ H _ I h) λv s1 ⟨x,H1,I1,r1,q1⟩=>bU (hb pins s1 σ H1 _ I1 q1) λu s2 ⟨y,H2,I2,r2,q2⟩ =>
  bU (ho pins s2 σ H2 x y v u _ I2 r1 r2 q2) λc s3 ⟨z,H3,I3,r3,k,e,q3⟩=>?_) hm
 subst e
 cases r3
 exact Y9 ⟨H3,I3,q3⟩
noncomputable def xv (r r':R2)(ta tb tc:TE):TE:=λσ H Q=>ta σ H λx H1=>tb σ H1 λy H2=>r x y H2 λz H3=>∃k,z=.bl k /\
 (if k=true then tc σ H3 λw' H4=>r' y w' H4 Q else Q (.bl false) H3)
theorem jG {IP:CmpOp}{r':R2}(ho:eA X (compareOp op) r)(F0:eA X (compareOp IP) r')(ha:PE X a ta)(hb:PE X b tb)(hc:PE X c tc)
 (hm:lastMarks [op,IP] [b,c]=false:=by with_unfolding_all rfl):PE X (.Compare a [op,IP] [b,c] pos) (xv r r' ta tb tc):=by
 intro pins s σ H Q I h
 refine Compare_chain (bU (ha pins s σ H _ I h) λv s1 ⟨x,H1,I1,r1,q1⟩=>chain_link (bU (hb pins s1 σ H1 _ I1 q1) λu s2 ⟨y,H2,I2,r2,q2⟩ =>
  bU (ho pins s2 σ H2 x y v u _ I2 r1 r2 q2) λd s3 ⟨z,H3,I3,r3,k,e,q3⟩=>?_)) hm
 subst e
 cases r3
 refine Y9 ?_
 cases k with
 |false=>exact ite_ff ⟨.bl false,H3,I3,rfl,q3⟩
 |true=>exact ite_tt (chain_last (bU (hc pins s3 σ H3 _ I3 q3) λw' s4 ⟨z',H4,I4,r4,q4⟩=>F0 pins s4 σ H4 y z' u w' Q I4 r2 r4 q4))
theorem aaf {IP:CmpOp}{r':R2}(ho:eA X (compareOp op) r)(F0:eA X (compareOp IP) r')(ha:PE X a ta)(hb:PE X b tb)(hc:PE X c tc)
 (hm:lastMarks [op,IP] [b,c]=false:=by with_unfolding_all rfl):PT X (.Compare a [op,IP] [b,c] pos) (uw (xv r r' ta tb tc)):=by
 intro pins s σ H Q I h
 refine isTrue_chain (bU (ha pins s σ H _ I h) λv s1 ⟨x,H1,I1,r1,q1⟩=>test_link (bU (hb pins s1 σ H1 _ I1 q1) λu s2 ⟨y,H2,I2,r2,q2⟩ =>
  bU (ho pins s2 σ H2 x y v u _ I2 r1 r2 q2) λd s3 ⟨z,H3,I3,r3,k,e,q3⟩=>?_)) hm
 subst e
 cases r3
 refine Y9 ?_
 cases k with
 |false =>
  obtain⟨k',e',q'⟩:=q3
  cases e'
  exact ite_ff ⟨H3,I3,q'⟩
 |true =>
  refine ite_tt (test_last (bU (hc pins s3 σ H3 _ I3 q3) λw' s4 ⟨z',H4,I4,r4,q4⟩=>bU (F0 pins s4 σ H4 y z' u w' _ I4 r2 r4 q4) λd' s5 ⟨z2,H5,I5,r5,k2,e2,q5⟩=>?_));subst e2
  cases r5
  exact Y9 ⟨H5,I5,q5⟩
noncomputable def BR (K:PySem.W.Frag)(x:V)(H:Hp)(k:Bool):Prop :=
 match x with
 | .non=>k=false
 | .bl b=>k=b
 | .int i=>k=(i != 0)
 | .str y=>y.length<=sizeLine/\k=((y.length:Int) != 0)
 | .byt y=>y.size<=sizeLine/\k=((y.size:Int) != 0)
 | .ref p=>(∃xs,bo K H p xs/\k = !xs.isEmpty)\/(∃xs,aV K H p xs/\k = !xs.isEmpty)\/∃Ft,H p=some (.dK Ft)/\k = !Ft.isEmpty
 |_=>False
theorem aaj {κ:Type}{Ft:List (κ×V)}{vs:List (κ×Value)}(r:KV Ft vs):(!vs.isEmpty) = !Ft.isEmpty:=by
 cases r <;> rfl
theorem jD {xs:List V}{its:m8}(r:aR xs its):(!its.toArray.isEmpty) = !xs.isEmpty:=by
 cases r <;> simp
theorem jN:(sizeLine:Nat)<2^63:=by rw[ZX];decide
theorem aat:aao X (λx H Q=>∃k,BR X.K x H k/\Q k H):=by
 intro pins s σ H x v Q I rx h;obtain⟨k,e,q⟩:=h;have hl:=jN;have hs:sizeLine=16777216:=ZX
 cases x with
 |non =>
  cases rx
  have e':k=false:=e;subst e';exact truthy_none ⟨H,I,q⟩
 |bl b =>
  cases rx
  have e':k=b:=e;subst e';exact Y9 ⟨H,I,q⟩
 |int i =>
  obtain⟨t,rfl⟩:=rx;have e':k=(i != 0):=e;subst e';exact PySem.P.truthy_int ⟨H,I,q⟩
 |str y =>
  obtain⟨t,rfl⟩:=rx;obtain⟨hy,e'⟩:y.length<=sizeLine/\k=((y.length:Int) != 0):=e;subst e';exact PySem.P.truthy_str (by omega) ⟨H,I.tok _,q⟩
 |byt y =>
  obtain⟨t,rfl⟩:=rx;obtain⟨hy,e'⟩:y.size<=sizeLine/\k=((y.size:Int) != 0):=e;subst e';exact PySem.W.truthy_bytes (by omega) ⟨H,I.tok _,q⟩
 |ref p =>
  cases rx
  have e':(∃xs,bo X.K H p xs/\k = !xs.isEmpty)\/(∃xs,aV X.K H p xs/\k = !xs.isEmpty)\/∃Ft,H p=some (.dK Ft)/\k = !Ft.isEmpty:=e
  rcases e' with⟨xs,hx,e'⟩|⟨xs,hx,e'⟩|⟨Ft,hx,e'⟩
  ·subst e';obtain⟨its,r,pl,hz⟩:=I.list hx;have hlen:=r.length;exact wpAny_truthy_list pl.isList (by simp only[Yj];omega) ⟨H,I.tok _,by rw[jD r];exact q⟩
  ·subst e';obtain⟨its,r,pl,hz⟩:=I.tuple hx;have hlen:=r.length;exact truthy_tuple pl (by simp only[Yj];omega) ⟨H,I.tok _,by rw[jD r];exact q⟩
  ·subst e';obtain⟨hz,hS,vs,r,m⟩:Ft.length<=sizeLine/\(p==sysModules)=false/\∃vs,KV Ft vs/\s.heap.DictOf (bX X.prog X.w) p vs:=I.hok p _ hx;have hlen:Ft.length=vs.length:=yB r;exact wpAny_truthy_dict hS m (by omega) ⟨H,I.tok _,by rw[aaj r];exact q⟩
 |_=>exact(show False from e).elim
theorem n8 (ha:PE X a ta)(he:∀cg,isTrue a X.env cg=(do let v <-cg;standAt a.pos;holding [v] (truthy v))):
 PT X a (λσ H Q=>ta σ H λx H'=>∃k,BR X.K x H' k/\Q k H'):=by
 intro pins s σ H Q I h;exact isTrue_plain (bU (ha pins s σ H _ I h) λv s1 ⟨x,H1,I1,r1,q1⟩=>aat pins s1 σ H1 x v Q I1 r1 q1) (he _)
theorem dj {x:V}(r:aR [x] us):∃u,us=[u]/\aG x u:=by
 cases r with
 |cons r1 r2=>cases r2;exact⟨_,rfl,r1⟩
theorem xt {x:V}(r:aR [x,y] us):∃u w',us=[u,w']/\aG x u/\aG y w':=by
 cases r with
 |cons r1 r2 =>
  cases r2 with
  |cons r3 r4=>cases r4;exact⟨_,_,rfl,r1,r3⟩
theorem ix:cT X (.builtin "abs") (λxs H Q=>∃i,xs=[.int i]/\Q (.int (if i<0 then -i else i)) H):=by
 intro pins s σ H xs us Q I r h;obtain⟨i,rfl,q⟩:=h;obtain⟨u,rfl,t,rfl⟩:=dj r;exact call_abs_int λu tk=>⟨.int (if i<0 then -i else i),H,I.tok _,⟨_,rfl⟩,q⟩
theorem aav (hc:X.calm=true):cT X (.builtin "max") (λxs H Q=>∃i j,xs=[.int i,.int j]/\Q (.int (if j>i then j else i)) H):=by
 intro pins s σ H xs us Q I r h;obtain⟨i,j,rfl,q⟩:=h;obtain⟨u,w',rfl,⟨t,rfl⟩,⟨t',rfl⟩⟩:=xt r;refine max_two_ints (I.ok.hd hc) λh' tk k=>⟨_,H,I.kept k,?_,q⟩
 by_cases hj:j>i
 ·rw[Yh hj,Yh hj];exact⟨_,rfl⟩
 ·rw[Yd hj,Yd hj];exact⟨_,rfl⟩
theorem aaD (hc:X.calm=true):cT X (.builtin "min") (λxs H Q=>∃i j,xs=[.int i,.int j]/\Q (.int (if j<i then j else i)) H):=by
 intro pins s σ H xs us Q I r h;obtain⟨i,j,rfl,q⟩:=h;obtain⟨u,w',rfl,⟨t,rfl⟩,⟨t',rfl⟩⟩:=xt r;refine min_two_ints (I.ok.hd hc) λh' tk k=>⟨_,H,I.kept k,?_,q⟩
 by_cases hj:j<i
 ·rw[Yh hj,Yh hj];exact⟨_,rfl⟩
 ·rw[Yd hj,Yd hj];exact⟨_,rfl⟩
theorem gy:cT X (.type "int") (λxs H Q=>(∃i,xs=[.int i]/\Q (.int i) H)\/∃k,xs=[.bl k]/\Q (.int (if k then 1 else 0)) H):=by
 intro pins s σ H xs us Q I r h
 rcases h with⟨i,rfl,q⟩|⟨k,rfl,q⟩
 ·obtain⟨u,rfl,t,rfl⟩:=dj r;exact call_int_int ⟨.int i,H,I,⟨_,rfl⟩,q⟩
 ·obtain⟨u,rfl,r1⟩:=dj r
  cases r1
  exact call_int_bool ⟨.int (if k then 1 else 0),H,I.tok _,⟨_,rfl⟩,q⟩
end
structure EB (h:Heap)(x dx C:Addr)(mA:vx):Prop where
 obj:h.get? x=some (PySem.W.instObj C dx)
 ns:h.Ns1 dx mA
 ne:dx≠x
theorem acG {dx:Addr}{mA:vx}(n:h.Ns1 dx mA):∃od,h.get? dx=some od/\∀name,PySem.W.lookIn name od=some (mA name):=by
 obtain⟨o,es,ep,ho,hd,hk,_,hm⟩:=n;refine⟨o,ho,λname=>?_⟩;have e:=hm name;unfold nsFind findBy at e;rw[<-Array.find?_toList] at e;unfold PySem.W.lookIn;rw[hd];dsimp only
 split
 ·rename_i y q
  rw[q] at e;exact Ze some e
 ·rename_i q
  rw[q] at e
  have a:es.toList.any (·.refKey)=false:=by
   rw[ED];intro y hy;obtain⟨z,t,NG⟩:=hk y (Array.mem_toList_iff.mp hy);simp[DictEntry.refKey,NG]
  have a':¬es.toList.any (·.refKey)=true:=by rw[a];exact Yp
  rw[Yd a'];exact Ze some e
variable {C:Addr}
theorem EB.look {x dx:Addr}{mA:vx}(I:EB h x dx C mA):∃od,PySem.W.InstAt h x (PySem.W.instObj C dx) C (some od)/\∀name,PySem.W.lookIn name od=some (mA name):=
 let⟨od,ho,hl⟩:=acG I.ns
 ⟨od,⟨I.obj,rfl,rfl,ho⟩,hl⟩
variable {pl:Sem Bool}{kw:List (Str×Value)}
section
variable {prog:wu}{w:World}{A:Around}{E:ph}{s:Ci}{K:PySem.W.Frag}{x dx C f:Addr}{mA:vx}{name:Str}{v:Value}
theorem adl {expr:Bool}{Q:ph}(X:K.In s.heap)(I:EB s.heap x dx C mA)(hg:PySem.W.plainGet K C name=true)(hh:PySem.W.hasDictIn K C=true)
 (ha:PySem.W.findIn K (.ref C) name=some none)(hv:mA name=some v)(SG:PySem.W.handedIn v=true)(h:Q v {s with toks:=s.toks+1}):
 wpAny (model prog w) A (getAttr (.ref x) name expr) Q E s:=by
 obtain⟨od,J,hl⟩:=I.look;exact PySem.W.get_value X J (By hg).1 (PySem.W.findObj_own hh ha rfl (by rw[hl,hv])) SG h
theorem aac {Q:Value×List Value->Shared->Prop}(X:K.In s.heap)(I:EB s.heap x dx C mA)(hg:PySem.W.plainGet K C name=true)
 (hf:PySem.W.findIn K (.ref C) name=some (some (.ref f)))(ht:PySem.W.isFn K (.ref f)=true)(hv:mA name=none)(h:Q (.ref f,[.ref x]) s):
 wpAny (model prog w) A (getMethod (.ref x) name pl) Q E s:=by
 obtain⟨od,J,hl⟩:=I.look;exact PySem.W.method_fn X J (By hg).1 (By hg).2 hf (BS.mp ht) (by show(PySem.W.lookIn name od).map (·.isSome)=some false;rw[hl,hv];rfl) h
theorem aad {ns:EG}{Q:Unit->Shared->Prop}(X:K.In s.heap)(I:EB s.heap x dx C mA)
 (hs:PySem.W.findIn K (.ref C) "__setattr__"=some (some (.builtin "object.__setattr__")))(hp:PySem.W.plainOver K C=true)(ht:PySem.W.takerIn K C name=some none)(hh:PySem.W.hasDictIn K C=true)
 (hw:PySem.Within mA ns)(hsz:ns.length<=sizeLine)
 (h:∀h',EB h' x dx C (λy=>if y=name then some v else mA y)->Heap.SameBut dx s.heap h'->Q () {s with heap:=h',toks:=s.toks+2}):
 wpAny (model prog w) A (setAttr (.ref x) name v) Q E s:=by
 obtain⟨od,J,hl⟩:=I.look;refine PySem.W.set_plain X J hs (PySem.W.osa_open (s:={s with toks:=s.toks+1}) (r:=none) X J hp ht λb=>?_);obtain⟨cd,hc,Ny⟩:=PySem.W.any_some hh;have hx:s.heap.get? x=some ⟨.ref C,some dx,.plain,#[]⟩:=I.obj;refine X9 (Yb (X9 (X9 (wpAny_loadPart hx (X9 (PySem.W.Looks.here (s:={s with toks:=s.toks+1}) (PySem.W.looks_clsIn X hc) ?_))))));rw[Ny];refine Yb (a:=some dx) (X9 (Yb (X9 ?_)));refine wpAny_nsSet1 (s:={s with toks:=s.toks+1}) I.ns λh' JE QN=>?_;obtain⟨oD,Xu,Xv,SI,SJ,HS⟩:=JE.count (PySem.Within.cons name v hw);refine X9 (wpAny_lookBehind SI (by rw[SJ];exact pastItsLine_dict (Yq HS (by rw[YC];omega))) ?_);exact Yb (h _ ⟨(QN.2 _ (YM I.ne)).trans I.obj,JE,I.ne⟩ QN)
theorem aae {R:Result->Shared->Prop}{vs:m8}(X:K.In s.heap)(hm:PySem.W.makesIn K C=true)
 (hi:PySem.W.findIn K (.ref C) "__init__"=some (some (.ref f)))(hf:PySem.W.typeIn K (.ref f)=some (.type "function"))
 (h:codeAny (model prog w) (A.under (.builtin "type.__call__" ⟨.ref C::vs,kw⟩)) (.call (.ref f) ⟨.ref (s.heap.objs.size+1):: vs,kw⟩) (PySem.W.InitBack (s.heap.objs.size+1) R)
  {s with heap:=(s.heap.push PySem.W.emptyDict).push (PySem.W.instObj C s.heap.objs.size)}):
 codeAny (model prog w) A (.call (.ref C) ⟨vs,kw⟩) R s:=by
 obtain⟨hh,g,d,t,os⟩:=s;exact PySem.W.make_core (PySem.W.makes_of X hm) (PySem.W.looks_findIn X hi) (λself=>PySem.W.bind_fn X self hf) (.inl rfl) h
end
noncomputable def dU (f:Str)(v:V):List (Str×V)->List (Str×V)
 |[]=>[(f,v)]
 |(g,x):: r=>if g=f then(g,v):: r else(g,x):: dU f v r
theorem i6 (f g:Str)(v:V):∀fs:List (Str×V),(dU f v fs).lookup g=if g=f then some v else fs.lookup g
 |[]=>by
  show List.lookup g [(f,v)]=_
  by_cases h:g=f
  ·have hb:(g==f)=true:=BS.mpr h;simp only[List.lookup,hb,Yh h]
  ·have hb:(g==f)=false:=Z5.mpr h;simp only[List.lookup,hb,Yd h]
 |(k,x):: r=>by
  have ih:=i6 f g v r;rw[show dU f v ((k,x):: r)=(if k=f then(k,v):: r else(k,x):: dU f v r) from rfl]
  by_cases hk:k=f
  ·rw[Yh hk]
   by_cases h:g=k
   ·have hb:(g==k)=true:=BS.mpr h;simp only[List.lookup,hb,Yh (h.trans hk)]
   ·have hb:(g==k)=false:=Z5.mpr h;simp only[List.lookup,hb,Yd (λe:g=f=>h (e.trans hk.symm))]
  ·rw[Yd hk]
   by_cases h:g=k
   ·have hb:(g==k)=true:=BS.mpr h;simp only[List.lookup,hb,Yd (λe:g=f=>hk (h.symm.trans e))]
   ·have hb:(g==k)=false:=Z5.mpr h;simp only[List.lookup,hb];exact ih
theorem iX (f:Str)(v:V):∀fs:List (Str×V),f∈(dU f v fs).map (·.1)/\∀g,g∈fs.map (·.1)->g∈(dU f v fs).map (·.1)
 |[]=>⟨by simp[dU],λg h=>by simp at h⟩
 |(k,x):: r=>by
  obtain⟨i1,i2⟩:=iX f v r;rw[show dU f v ((k,x):: r)=(if k=f then(k,v):: r else(k,x):: dU f v r) from rfl]
  by_cases hk:k=f
  ·rw[Yh hk];subst hk;exact⟨by simp,λg h=>by simpa using h⟩
  ·rw[Yd hk];refine⟨?_,λg h=>?_⟩
   ·rw[YF];exact Yi _ i1
   ·rw[YF] at h |-
    rcases Yn.mp h with e|e
    ·exact Yn.mpr (.inl e)
    ·exact Yi _ (i2 g e)
theorem jb (f:Str)(v:V):∀fs:List (Str×V),(dU f v fs).length<=fs.length+1
 |[]=>by simp[dU]
 |(k,x):: r=>by
  have ih:=jb f v r;rw[show dU f v ((k,x):: r)=(if k=f then(k,v):: r else(k,x):: dU f v r) from rfl]
  by_cases hk:k=f
  ·rw[Yh hk,YC,YC];omega
  ·rw[Yd hk,YC,YC];omega
theorem fO.some_of {v:V}{o:qt}(r:fO (some v) o):∃u,o=some u/\aG v u:=by
 cases o with
 |none=>exact(show False from r).elim
 |some u=>exact⟨u,rfl,r⟩
theorem fO.none_of {o:qt}(r:fO none o):o=none:=by
 cases o with
 |none=>rfl
 |some u=>exact(show False from r).elim
theorem aap {v:V}(r:aG v u):PySem.W.handedIn u=true:=by
 cases v with
 |non=>cases(show u=Value.none from r);rfl
 |bl b=>cases(show u=Value.bool b from r);rfl
 |int i=>obtain⟨t,e⟩:=(show ∃t,u=Value.int i t from r);cases e;rfl
 |str x=>obtain⟨t,e⟩:=(show ∃t,u=Value.str x t from r);cases e;rfl
 |byt b=>obtain⟨t,e⟩:=(show ∃t,u=Value.bytes b t from r);cases e;rfl
 |flt b=>obtain⟨t,e⟩:=(show ∃t,u=Value.float b t from r);cases e;rfl
 |ref a=>cases(show u=Value.ref a from r);rfl
 |ty n=>cases(show u=Value.type n from r);rfl
section
variable {P:wu}{w:World}{H H':Hp}{h h':Heap}{a C dx:Addr}{fs Sz:List (Str×V)}
theorem jo (hok:fZ P w H h)(e:H a=some (.ins C dx fs)):∃mA,EB h a dx C mA/\(∀f,fO (fs.lookup f) (mA f))/\PySem.Within mA (fs.map (·.1))/\fs.length<=1000/\H dx=some (.own a):=by
 obtain⟨d,z,ne,ob,mA,n,r,q⟩:=(show bE P w H h a (.ins C dx fs) from hok a _ e);exact⟨mA,⟨ob,n,ne⟩,r,q,z,d⟩
end
structure Em (K:PySem.W.Frag)(C:Addr):Prop where
 pg:PySem.W.plainGet K C Str.empty=true
 hd:PySem.W.hasDictIn K C=true
 po:PySem.W.plainOver K C=true
 sa:PySem.W.findIn K (.ref C) "__setattr__"=some (some (.builtin "object.__setattr__"))
theorem Em.get (c:Em K C)(f:Str):PySem.W.plainGet K C f=true:=c.pg
noncomputable def d8 (K:PySem.W.Frag)(C:Addr)(f:Str):Prop:=PySem.W.findIn K (.ref C) f=some none
theorem d8.ae6 {f:Str}(n:d8 K C f):PySem.W.takerIn K C f=some none:=by
 unfold PySem.W.takerIn;rw[show PySem.W.findIn K (.ref C) f=some none from n];rfl
structure Meth (K:PySem.W.Frag)(C:Addr)(m:Str)(f:Addr):Prop where
 at_:PySem.W.findIn K (.ref C) m=some (some (.ref f))
 fn:PySem.W.isFn K (.ref f)=true
 kp:PySem.W.keepIn K (.ref f)=true
section
variable {X:Cx}{pins:List (Addr×Obj)}{σ:St}{H:Hp}{s:Ci}{a C dx:Addr}{fs:List (Str×V)}{f:Str}{v:V}{A:Around}{E:ph}
theorem aay {b:Bool}{Q:ph}(I:Inv X pins σ H s)(e:H a=some (.ins C dx fs))(c:Em X.K C)(n:d8 X.K C f)(l:fs.lookup f=some v)
 (h:∀u s',Inv X pins σ H s'->aG v u->Q u s'):wpAny (model X.prog X.w) A (getAttr (.ref a) f b) Q E s:=by
 obtain⟨mA,O,r,_,_,_⟩:=jo I.hok e;obtain⟨u,hu,ru⟩:=fO.some_of (v:=v) (o:=mA f) (by rw[<-l];exact r f);exact adl I.kIn O (c.get f) c.hd n hu (aap ru) (h u _ (I.tok _) ru)
theorem j3 {m:Str}{g:Addr}{Q:Value×List Value->Shared->Prop}(I:Inv X pins σ H s)(e:H a=some (.ins C dx fs))(c:Em X.K C)(k:Meth X.K C m g)(l:fs.lookup m=none)
 (h:Q (.ref g,[.ref a]) s):wpAny (model X.prog X.w) A (getMethod (.ref a) m pl) Q E s:=by
 obtain⟨mA,O,r,_,_,_⟩:=jo I.hok e;have hn:mA m=none:=fO.none_of (by rw[<-l];exact r m);exact aac I.kIn O (c.get m) k.at_ k.fn hn h
theorem aaL {Q:Unit->Shared->Prop}(I:Inv X pins σ H s)(e:H a=some (.ins C dx fs))(c:Em X.K C)(n:d8 X.K C f)(hl:fs.length<1000)(ry:aG y u)
 (h:∀s',Inv X pins σ (upd H a (.ins C dx (dU f y fs))) s'->Q () s'):wpAny (model X.prog X.w) A (setAttr (.ref a) f u) Q E s:=by
 obtain⟨mA,O,r,wi,_,ho⟩:=jo I.hok e
 have hz:(fs.map (·.1)).length<=sizeLine:=by rw[Yg,ZX];omega
 refine aad I.kIn O c.sa c.po n.ae6 c.hd wi hz λh' O' sb=>h _ ?_;have hd:∃o,h'.get? dx=some o:=let⟨o,_,_,e',_⟩:=O'.ns;⟨o,e'⟩;refine I.write (x:=a) (e:=dx) (by rw[e];exact True.intro) (.inr ho) (λb q hb z=>(sb.2 b hb).trans z) hd ?_;refine⟨by rw[aA O.ne];exact ho,?_,O.ne,O'.obj,_,O'.ns,λg=>?_,λg hg=>?_⟩
 ·have:=jb f y fs;omega
 ·show fO ((dU f y fs).lookup g) (if g=f then some u else mA g);rw[i6]
  by_cases q:g=f
  ·rw[Yh q,Yh q];exact ry
  ·rw[Yd q,Yd q];exact r g
 ·by_cases q:g=f
  ·rw[q];exact(iX f y fs).1
  ·refine(iX f y fs).2 g (wi g λz=>hg ?_);show(if g=f then some u else mA g)=none;rw[Yd q];exact z
theorem Inv.made (I:Inv X pins σ H s):Inv X pins σ (upd (upd H s.heap.objs.size (.own (s.heap.objs.size+1))) (s.heap.objs.size+1) (.ins C s.heap.objs.size []))
 {s with heap:=(s.heap.push PySem.W.emptyDict).push (PySem.W.instObj C s.heap.objs.size)}:=by
 have e1:(s.heap.push PySem.W.emptyDict).get? s.heap.objs.size=some PySem.W.emptyDict:=Yk s.heap rfl
 have e2:((s.heap.push PySem.W.emptyDict).push (PySem.W.instObj C s.heap.objs.size)).get? (s.heap.objs.size+1)=some (PySem.W.instObj C s.heap.objs.size):=by
  have:=Yk (s.heap.push PySem.W.emptyDict) (o:=PySem.W.instObj C s.heap.objs.size) rfl;rwa[Zb] at this
 have e3:(s.heap.push PySem.W.emptyDict).Ns s.heap.objs.size (λ_=>none):=⟨PySem.W.emptyDict,#[],_,e1,rfl,(λe he=>absurd he (by simp)),λ_=>rfl⟩;have I1:=I.laid (a:=s.heap.objs.size) (o:=.own (s.heap.objs.size+1)) (h':=s.heap.push PySem.W.emptyDict) (t':=s.toks) (λb u q=>Yc _ q) (Ye _) ⟨_,e1⟩;refine I1.laid (a:=s.heap.objs.size+1) (o:=.ins C s.heap.objs.size []) (t':=s.toks) (λb u q=>Yc _ q) (wk (Zb _ _)) ?_;have ne:s.heap.objs.size≠s.heap.objs.size+1:=Yr (x6 _);refine⟨by rw[aA ne,ai],Yt _,ne,e2,λ_=>none,(Heap.Ns1.of_empty e3).at λo q=>Yc _ q,λ_=>True.intro,λy hy=>absurd rfl hy⟩
theorem abO {prog:wu}{env:Env}{f:Str}{s:Ci}{Q:ph}(hb:attributeBase e f env (eval e env)=eval e env)
 (h:wpAny (model prog w) A (eval e env) (λo s₁=>wpAny (model prog w) A (getAttr o f true) Q E s₁) E s):wpAny (model prog w) A (eval (.Attribute e f pos) env) Q E s :=
 Attribute_any_ h (by rw[arm_eval_Attribute,hb])
end
noncomputable def TGs (K:PySem.W.Frag)(ta:TE)(f:Str):TE:=λσ H Q=>ta σ H λx H1=>∃a C dx fs v,x=.ref a/\H1 a=some (.ins C dx fs)/\Em K C/\d8 K C f/\fs.lookup f=some v/\Q v H1
noncomputable def ado (K:PySem.W.Frag)(ta tv:TE)(f:Str):TS:=λD σ H=>tv σ H λy H1=>ta σ H1 λx H2=>∃a C dx fs,x=.ref a/\H2 a=some (.ins C dx fs)/\Em K C/\d8 K C f/\fs.length<1000 /\
 D.nx σ (upd H2 a (.ins C dx (dU f y fs)))
section
variable {X:Cx}{o e value:Expr}{f:Str}{pos pos' NH:Pos}{ta tv:TE}
theorem cN (he:PE X e ta)(hb:attributeBase e f X.env (eval e X.env)=eval e X.env):PE X (.Attribute e f pos) (TGs X.K ta f):=by
 intro pins s σ H Q I h;refine abO hb (bU (he pins s σ H _ I h) λu s1 z'=>?_);obtain⟨x,H1,I1,rx,a,C,dx,fs,v,ex,ea,c,n,l,q⟩:=z';subst ex;obtain rfl:u=Value.ref a:=rx;exact aay I1 ea c n l λu' s2 I2 ru=>⟨v,H1,I2,ru,q⟩
theorem qo (ha:PE X o ta)(hv:PE X value tv)(hs:swapsWith value (some (.Attribute o f pos')) pos.line X.env=pure false):PS X (.Assign [.Attribute o f pos'] value pos) (ado X.K ta tv f):=by
 intro pins s σ H D I h;refine plainObj_wpAny_Assign_Attribute (bU (hv pins s σ H _ I h) λu s1 ⟨y,H1,I1,ry,q⟩=>bU (ha pins s1 σ H1 _ I1 q) λov s2 z'=>?_) hs;obtain⟨x,H2,I2,rx,a,C,dx,fs,ex,ea,c,n,l,q2⟩:=z';subst ex;obtain rfl:ov=Value.ref a:=rx;exact aaL I2 ea c n l ry λs3 I3=>⟨σ,_,I3,q2⟩
end
section
variable {X:Cx}{pins:List (Addr×Obj)}{σ:St}{H:Hp}{s:Ci}{A:Around}{E:ph}{Q:ph}{c:Value}{b:Bool}
inductive Ak (K:PySem.W.Frag)(H:Hp):V->Value->Prop where
 |non:Ak K H .non (.type "NoneType")
 |bl (x:Bool):Ak K H (.bl x) (.type "bool")
 |int (i:Int):Ak K H (.int i) (.type "int")
 |str (x:Str):Ak K H (.str x) (.type "str")
 |flt (x:UInt64):Ak K H (.flt x) (.type "float")
 |lst {a:Addr}{xs:List V}(e:H a=some (.lst xs)):Ak K H (.ref a) (.type "list")
 |frz {a:Addr}{o:Obj}{xs:List V}(e:H a=some (.frz o (.lst xs))):Ak K H (.ref a) (.type "list")
 |tup {a:Addr}{xs:List V}(e:H a=some (.tup xs)):Ak K H (.ref a) (.type "tuple")
 |dK {a:Addr}{Ft:List (Key×V)}(e:H a=some (.dK Ft)):Ak K H (.ref a) (.type "dict")
 |dT {a:Addr}{Ft:List (List Key×V)}(e:H a=some (.dT Ft)):Ak K H (.ref a) (.type "dict")
 |ins {a C dx:Addr}{fs:List (Str×V)}(e:H a=some (.ins C dx fs))(cl:Em K C)(ha:PySem.W.findIn K (.ref C) "__class__"=some (some (.builtin "object.__class__")))
  (hn:PySem.W.specialIn K (.builtin "object.__class__") "__get__"=some (some (.builtin "getset_descriptor.__get__")))(MT:PySem.W.takesIn K (.builtin "object.__class__")=some true)
  (hm:PySem.W.mroIn K C (.type "object")=some true):Ak K H (.ref a) (.ref C)
theorem adq {x:V}{t:Value}(I:Inv X pins σ H s)(rx:aG x u)(ty:Ak X.K H x t)(e:PySem.W.kitOne X.K t c=some b)(h:∀tk,Q (.bool b) {s with toks:=tk}):
 wpAny (model X.prog X.w) A (call (.builtin "isinstance") [u,c]) Q E s:=by
 cases ty with
 |non=>cases(show u=Value.none from rx);exact Zk PySem.W.kitx_none I.kIn True.intro e (λz=>nomatch z) h
 |bl y=>cases(show u=Value.bool y from rx);exact Zk PySem.W.kitx_bool I.kIn True.intro e (λz=>nomatch z) h
 |int i=>obtain⟨t,q⟩:=(show ∃t,u=Value.int i t from rx);cases q;exact Zk PySem.W.kitx_int I.kIn True.intro e (λz=>nomatch z) h
 |str y=>obtain⟨t,q⟩:=(show ∃t,u=Value.str y t from rx);cases q;exact Zk PySem.W.kitx_str I.kIn True.intro e (λz=>nomatch z) h
 |flt y=>obtain⟨t,q⟩:=(show ∃t,u=Value.float y t from rx);cases q;exact Zk PySem.W.kitx_float I.kIn True.intro e (λz=>nomatch z) h
 |@lst a xs ea =>
  cases(show u=Value.ref a from rx)
  obtain⟨_,_,n,_,h1⟩:=(show bE X.prog X.w H s.heap a (.lst xs) from I.hok a _ ea);exact Zk PySem.W.kitx_list I.kIn ⟨_,h1,rfl⟩ e (λz=>nomatch z) h
 |@frz a ob xs ea =>
  cases(show u=Value.ref a from rx)
  obtain⟨_,_,_,n,_,h1⟩:=(show bE X.prog X.w H s.heap a (.frz ob (.lst xs)) from I.hok a _ ea);exact Zk PySem.W.kitx_list I.kIn ⟨_,h1,rfl⟩ e (λz=>nomatch z) h
 |@tup a xs ea =>
  cases(show u=Value.ref a from rx)
  obtain⟨_,_,_,p⟩:=(show bE X.prog X.w H s.heap a (.tup xs) from I.hok a _ ea);obtain⟨o,h1,h2,_⟩:=p;exact Zk PySem.W.kitx_tuple I.kIn ⟨o,h1,h2⟩ e (λz=>nomatch z) h
 |@dK a Ft ea =>
  cases(show u=Value.ref a from rx)
  obtain⟨_,_,vs,_,p⟩:=(show bE X.prog X.w H s.heap a (.dK Ft) from I.hok a _ ea);obtain⟨o,es,ep,h1,h2,_⟩:=p;exact Zk PySem.W.kitx_dict I.kIn ⟨o,h1,h2.1⟩ e (λz=>nomatch z) h
 |@dT a Ft ea =>
  cases(show u=Value.ref a from rx)
  obtain⟨_,_,xs,_,o,es,ep,h1,h2,_⟩:=(show bE X.prog X.w H s.heap a (.dT Ft) from I.hok a _ ea);exact Zk PySem.W.kitx_dict I.kIn ⟨o,h1,h2.1⟩ e (λz=>nomatch z) h
 |@ins a C dx fs ea cl ha hn MT hm =>
  cases(show u=Value.ref a from rx)
  obtain⟨mA,O,_⟩:=jo I.hok ea;obtain⟨od,J,_⟩:=O.look;exact Zk (PySem.W.kitx_own (cl.get _) cl.hd ha hn MT hm) I.kIn J e (λz=>nomatch z) h
end
structure xh (k:Nat)(A:Around):Prop where
 hd:A.handled=none
 dp:A.depth+3*k+5<recursionLimit
 un:A.units+16*k+200<cLine
 gd:A.guards=some []
theorem xh.mono {j:Nat}(r:xh k A)(h:j<=k):xh j A:=⟨r.hd,by have:=r.dp;omega,by have:=r.un;omega,r.gd⟩
theorem xh.deeper (r:xh (k+1) A)(env:Env):xh k (A.deeper env):=
 ⟨r.hd,by have:=r.dp;show A.depth+1+3*k+5<_;omega,by have:=r.un;show A.units+3+16*k+200<_;omega,r.gd⟩
theorem xh.in1 (r:xh (k+1) A):xh k A.in1 :=
 ⟨r.hd,by have:=r.dp;show A.depth+3*k+5<_;omega,by have:=r.un;show A.units+1+16*k+200<_;omega,r.gd⟩
theorem adu :(A.under (.builtin "type.__call__" ⟨.ref C::us,kw⟩)).depth=A.depth+1:=by
 first|rfl|simp[Around.under,Code.weight,Code.isCreation,Code.isGuard,Code.isCaller,Code.frames,Code.isFrame,guardIds]
theorem ad3 :(A.under (.builtin "type.__call__" ⟨.ref C::us,kw⟩)).guards=A.guards:=by
 first|rfl|simp[Around.under,Code.guards,Code.isGuard,guardIds,pushGuards]
theorem ad4 :(A.under (.builtin "type.__call__" ⟨.ref C::us,kw⟩)).units=A.units+1:=by
 first|rfl|simp[Around.under,Code.cUnits,Code.frames,Code.isFrame]
theorem xh.make (r:xh (k+1) A)(C:Addr)(us:m8)(kw:List (Str×Value)):xh k (A.under (.builtin "type.__call__" ⟨.ref C::us,kw⟩)):=
 ⟨r.hd,by have:=r.dp;rw[adu];omega,by have:=r.un;rw[ad4];omega,by rw[ad3];exact r.gd⟩
theorem xh.depth (r:xh k A):A.depth<recursionLimit:=by have:=r.dp;omega
theorem xh.units (r:xh k A):A.units+64<cLine:=by have:=r.un;omega
theorem xh.adp (r:xh k A):A.units<cLine:=by have:=r.un;omega
noncomputable def Bz:TA:=λ_ H Q=>Q [] H
noncomputable def bq (ta:TE)(tr:TA):TA:=λσ H Q=>ta σ H λx H1=>tr σ H1 λxs H2=>Q (x::xs) H2
section
variable {X:Cx}{e:Expr}{es:yD}{te:TE}{t:TA}{pos:Pos}
theorem ag:PA X [] Bz:=λ_ _ _ _ H Q I h=>xq ⟨[],H,I,.nil,h⟩
theorem cq (ha:PE X e te)(hr:PA X es t)(hs:starEach (e::es) X.env=(false,eval e X.env):: starEach es X.env:=by rfl):PA X (e::es) (bq te t):=by
 intro pos pins s σ H Q I h;rw[hs];show wpAny _ _ (spliced ((false,eval e X.env):: backTo pos (starEach es X.env))) _ _ s;refine u3 (bU (ha pins s σ H _ I h) λu s1 z'=>?_);obtain⟨x,H1,I1,r1,q1⟩:=z';exact bU (hr pos pins s1 σ H1 _ I1 q1) λus s2 ⟨xs,H2,I2,r2,q2⟩=>⟨x::xs,H2,I2,.cons r1 r2,q2⟩
noncomputable def nt (t:TA):TE:=λσ H Q=>t σ H λxs H1=>xs.length<=sizeLine/\∀p,H1 p=none->Q (.ref p) (upd H1 p (.tup xs))
noncomputable def qL (t:TA):TE:=λσ H Q=>t σ H λxs H1=>xs.length<=sizeLine/\∀p,H1 p=none->Q (.ref p) (upd H1 p (.lst xs))
theorem aJ {x1}(h:PA X es t):PE X (.Tuple es x1 pos) (nt t):=by
 intro pins s σ H Q I hq;refine wpAny_Tuple_spliced (bU (h pos pins s σ H _ I hq) λus s1 ⟨xs,H1,I1,r,z,q⟩=>⟨by rw[<-r.length];exact z,?_⟩);have hf:H1 s1.heap.objs.size=none:=I1.hok.fresh (Ye _);refine⟨.ref s1.heap.objs.size,upd H1 s1.heap.objs.size (.tup xs),I1.laid (t':=s1.toks) (λb u e=>Yc _ e) (Ye _) ?_,rfl,q _ hf⟩;exact⟨z,us,r,⟨_,Yk _ rfl,rfl,_,rfl⟩⟩
theorem cE (h:PA X es t):PE X (.List es pos) (qL t):=by
 intro pins s σ H Q I hq;refine wpAny_List_spliced (bU (h pos pins s σ H _ I hq) λus s1 ⟨xs,H1,I1,r,z,q⟩=>⟨by rw[<-r.length];exact z,?_⟩);have hf:H1 s1.heap.objs.size=none:=I1.hok.fresh (Ye _);refine⟨.ref s1.heap.objs.size,upd H1 s1.heap.objs.size (.lst xs),I1.laid (t':=s1.toks) (λb u e=>Yc _ e) (Ye _) ?_,rfl,q _ hf⟩;exact⟨z,us,0,r,Yk _ rfl⟩
end
noncomputable abbrev Sp:=List V->Hp->VK->XK->Prop
noncomputable abbrev EM:=List Env->Hp->Shared->XK->Value->Shared->Prop
structure Dm (P:wu)(w:World)(K:PySem.W.Frag)(mg:vx)(base:Heap)(A:Around)(outer:List Env)(s:Ci)(H:Hp):Prop where
 frames:A.frames=some outer
 mod:Mod K mg base
 bs:∀b o,base.get? b=some o->s.heap.get? b=some o/\H b=none
 bsz:base.objs.size<=s.heap.objs.size
 acP:s.heap.FunFrames base outer
 frf:∀b∈eQ outer,H b=none
 hok:fZ P w H s.heap
 bare:AllBare s.gens
noncomputable def CE (outer:List Env)(P:wu)(w:World)(H:Hp)(s:Ci)(Q:VK)(u:Value)(s':Ci):Prop :=
 ∃v H',s'.os=s.os/\AllBare s'.gens/\Un (eQ outer) [] H H' s.heap s'.heap/\fZ P w H' s'.heap/\aG v u/\Q v H'
noncomputable def ad6 (CX:EM)(outer:List Env)(P:wu)(w:World)(H:Hp)(s:Ci)(Q:VK)(E:XK)(r:Result)(s':Ci):Prop :=
 match r with
 | .ok (.ret u)=>CE outer P w H s Q u s'
 | .ok _=>False
 | .error e=>CX outer H s E e s'
structure yd (P:wu)(w:World)(K:PySem.W.Frag)(mg:vx)(base:Heap)(CX:EM)(k:Nat)(f:Addr)(fd:BB)(ps:EG)(sp:Sp):Prop where
 len:∀vs H Q E,sp vs H Q E->vs.length=ps.length
 run:∀(A:Around)(outer:List Env)(s:Ci)(H:Hp)(args:Args)(us:m8)(vs:List V)(Q:VK)(E:XK),xh k A->Dm P w K mg base A outer s H->BindsTo s fd args (ps.zip us)->aR vs us->sp vs H Q E →
  codeAny (model P w) A (.call (.ref f) args) (ad6 CX outer P w H s Q E) s
variable {mg:vx}{base:Heap}{outer:List Env}
theorem Dm.make (e:Dm P w K mg base A outer s H)(C:Addr)(us:m8)(kw:List (Str×Value)):
 Dm P w K mg base (A.under (.builtin "type.__call__" ⟨.ref C::us,kw⟩)) outer s H:=⟨by first|exact e.frames|(simpa[Around.under,Code.envs,Code.isFrame,pushEnvs] using e.frames),e.mod,e.bs,e.bsz,e.acP,e.frf,e.hok,e.bare⟩
theorem Dm.in1 (e:Dm P w K mg base A outer s H):
 Dm P w K mg base A.in1 outer s H:=⟨e.frames,e.mod,e.bs,e.bsz,e.acP,e.frf,e.hok,e.bare⟩
section
variable {X:Cx}{pins:List (Addr×Obj)}{σ:St}{H:Hp}{s s':Ci}
theorem Inv.aep (I:Inv X pins σ H s):Dm X.prog X.w X.K X.mg X.base X.A X.stack s H :=
 ⟨I.ok.frames,I.ok.mod,I.bs,Yq I.ok.bsz I.sz,I.stack,I.ac2,I.hok,I.bare⟩
theorem Inv.after (I:Inv X pins σ H s)(h:CE X.stack X.prog X.w H s Q u s'):EP X pins σ Q u s':=by
 obtain⟨v,H',os,bare,un,hok,r,q⟩:=h;obtain⟨hh,g,d,t,SK⟩:=s';obtain rfl:SK=s.os:=os;exact⟨v,H',I.call (h':=hh) (g':=g) (d':=d) (t':=t) (ch:=[]) un hok bare (λb z=>absurd z (by simp)),r,q⟩
end
noncomputable def wH (sp:Sp)(dvs:List V)(E:XK)(t:TA):TE:=λσ H Q=>t σ H λvs H1=>sp (vs++dvs) H1 Q E
noncomputable def AK (C:Addr)(m:Str)(sp:Sp)(dvs:List V)(E:XK)(ta:TE)(t:TA):TE:=λσ H Q=>ta σ H λx H1=>∃a dx fs,x=.ref a/\H1 a=some (.ins C dx fs)/\fs.lookup m=none /\
 t σ H1 λvs H2=>sp (x::(vs++dvs)) H2 Q E
noncomputable def Bd (C:Addr)(sp:Sp)(dvs:List V)(E:XK)(t:TA):TE:=λσ H Q=>t σ H λvs H1=>∀x dx,H1 x=none->H1 dx=none->dx≠x →
 sp (.ref x::(vs++dvs)) (upd (upd H1 dx (.own x)) x (.ins C dx [])) (λv H2=>v=.non/\Q (.ref x) H2) E
noncomputable def ck (K:PySem.W.Frag)(fd:BB)(ps:EG)(ds:m8):Prop :=
 ∀(s:Ci)(us:m8),K.In s.heap->(us++ds).length=ps.length->BindsTo s fd ⟨us,[]⟩ (ps.zip (us++ds))
variable {ps:EG}
theorem ck.all {fd:BB}(h:∀us:List Value,us.length=ps.length->bindArgs fd ⟨us,[]⟩=pure (ps.zip us)):ck K fd ps []:=λs us _ hl=>by
 rw[Zc] at hl |-;exact .of_eq (h us hl)
noncomputable def fB (CX:EM)(X:Cx)(E:XK):Prop:=∀(pins:List (Addr×Obj))(σ:St)(H:Hp)(s:Ci)(e:Value)(s':Ci),Inv X pins σ H s->CX X.stack H s E e s'->X.xe e s'
section
variable {X:Cx}{CX:EM}{k:Nat}{f C:Addr}{fd:BB}{ps:EG}{sp:Sp}{dvs:List V}{ds:m8}{E:XK}{x m:Str}{p pos apos:Pos}{e o:Expr}{es:yD}{ta:TE}{t:TA}
theorem qO {us:m8}{vs:List V}(F:yd X.prog X.w X.K X.mg X.base CX k f fd ps sp)(hr:xh k X.A)(hb:ck X.K fd ps ds)(hd:aR dvs ds)(hx:fB CX X E)
 (I:Inv X pins σ H s)(r:aR vs us)(h:sp (vs++dvs) H Q E):wpAny (model X.prog X.w) X.A (call (.ref f) us) (EP X pins σ Q) X.xe s:=by
 have r2:aR (vs++dvs) (us++ds):=r.append hd
 have hl:(us++ds).length=ps.length:=by rw[<-r2.length];exact F.len _ _ _ _ h
 refine qd (rC (F.run X.A X.stack s H ⟨us,[]⟩ (us++ds) (vs++dvs) Q E hr I.aep (hb s us I.kIn hl) r2 h) λr s' hq=>?_)
 cases r with
 |error e=>exact hx pins σ H s e s' I hq
 |ok fl =>
  cases fl with
  |ret u=>exact I.after hq
  |next=>exact False.elim hq
  |brk=>exact False.elim hq
  |cont=>exact False.elim hq
theorem aH (F:yd X.prog X.w X.K X.mg X.base CX k f fd ps sp)(hr:xh k X.A)(hg:Gl X x)(hm:X.mg x=some (.ref f))(hk:PySem.W.keepIn X.K (.ref f)=true)(hb:ck X.K fd ps ds)(hd:aR dvs ds)(hx:fB CX X E)
 (ha:PA X (e::es) t)(HU:(x==("__debug__":Str))=false:=by decide)(he:starEach (e::es) X.env=(false,eval e X.env):: starEach es X.env:=by rfl)(GI:(backTo pos (starEach es X.env)).any (·.1)=false:=by rfl):
 PE X (.Call (.Name x p) (e::es) [] pos) (wH sp dvs E t):=by
 intro pins s σ H Q I h;refine Y6 (gm I hg hm ?_ HU);refine B9 (h₀:=X.base) I.ok.mod.kin hk (bU (ha pos pins s σ H _ I h) λus s1 ⟨vs,H1,I1,r,q⟩=>⟨I1.kIn,?_⟩) he GI;exact qO F hr hb hd hx I1 r q
theorem fJ (he:PE X o ta)(c:Em X.K C)(hm:Meth X.K C m f)(F:yd X.prog X.w X.K X.mg X.base CX k f fd ps sp)(hr:xh k X.A)(hb:ck X.K fd ps ds)(hd:aR dvs ds)(hx:fB CX X E)(ha:PA X (e::es) t)
 (JX:starEach (e::es) X.env=(false,eval e X.env):: starEach es X.env:=by rfl)(GI:(backTo pos (starEach es X.env)).any (·.1)=false:=by rfl)
 (ht:eval (.Call (.Attribute o m apos) (e::es) [] pos) X.env=(do
  let ov <-eval o X.env
  standAt apos.atName
  let(f,first) <-holding [ov] (getMethod ov m pl)
  callWith pos f first (backTo pos (starEach (e::es) X.env)) (backToKw pos (keywordEach [] X.env))):=by rfl):
 PE X (.Call (.Attribute o m apos) (e::es) [] pos) (AK C m sp dvs E ta t):=by
 intro pins s σ H Q I h;refine PySem.W.methodCall_KW (pl:=pl) (bU (he pins s σ H _ I h) λu s1 z'=>?_) ht;obtain⟨x,H1,I1,rx,a,dx,fs,ex,ea,l,q⟩:=z';subst ex;obtain rfl:u=Value.ref a:=rx;refine j3 I1 ea c hm l ?_;refine B9 (first:=[.ref a]) (h₀:=X.base) I.ok.mod.kin hm.kp (bU (ha pos pins s1 σ H1 _ I1 q) λus s2 ⟨vs,H2,I2,r,q2⟩=>⟨I2.kIn,?_⟩) JX GI;exact qO (us:=.ref a::us) (vs:=.ref a::vs) F hr hb hd hx I2 (.cons rfl r) q2
theorem ip (he:PE X o ta)(c:Em X.K C)(hm:Meth X.K C m f)(F:yd X.prog X.w X.K X.mg X.base CX k f fd ps sp)(hr:xh k X.A)(hb:ck X.K fd ps ds)(hd:aR dvs ds)(hx:fB CX X E)
 (ht:eval (.Call (.Attribute o m apos) [] [] pos) X.env=(do
  let ov <-eval o X.env
  standAt apos.atName
  let(f,first) <-holding [ov] (getMethod ov m pl)
  callWith pos f first (backTo pos (starEach [] X.env)) (backToKw pos (keywordEach [] X.env))):=by rfl):
 PE X (.Call (.Attribute o m apos) [] [] pos) (AK C m sp dvs E ta Bz):=by
 intro pins s σ H Q I h;refine PySem.W.methodCall_KW (pl:=pl) (bU (he pins s σ H _ I h) λu s1 z'=>?_) ht;obtain⟨x,H1,I1,rx,a,dx,fs,ex,ea,l,q⟩:=z';subst ex;obtain rfl:u=Value.ref a:=rx;refine j3 I1 ea c hm l ?_;exact PySem.W.callWith_K0 (first:=[.ref a]) I1.kIn hm.kp (qO (us:=[.ref a]) (vs:=[.ref a]) F hr hb hd hx I1 (.cons rfl .nil) q)
structure Mk (K:PySem.W.Frag)(C f:Addr):Prop where
 makes:PySem.W.makesIn K C=true
 init:PySem.W.findIn K (.ref C) "__init__"=some (some (.ref f))
 fn:PySem.W.isFn K (.ref f)=true
 kp:PySem.W.keepIn K (.ref C)=true
theorem oC {us:m8}{vs:List V}(M:Mk X.K C f)(F:yd X.prog X.w X.K X.mg X.base CX k f fd ps sp)(hr:xh (k+1) X.A)(hb:ck X.K fd ps ds)(hd:aR dvs ds)
 (hx:fB CX X E)(I:Inv X pins σ H s)(r:aR vs us)
 (h:∀x dx,H x=none->H dx=none->dx≠x->sp (.ref x::(vs++dvs)) (upd (upd H dx (.own x)) x (.ins C dx [])) (λv H2=>v=.non/\Q (.ref x) H2) E):
 wpAny (model X.prog X.w) X.A (call (.ref C) us) (EP X pins σ Q) X.xe s:=by
 have hq:=h (s.heap.objs.size+1) s.heap.objs.size (I.hok.fresh (vI _)) (I.hok.fresh (Ye _)) (Yr (x6 _));have I2:=Inv.made (C:=C) I;have r2:aR (V.ref (s.heap.objs.size+1):: (vs++dvs)) (Value.ref (s.heap.objs.size+1):: (us++ds)):=.cons rfl (r.append hd)
 have hl:(Value.ref (s.heap.objs.size+1):: us++ds).length=ps.length:=by
  have e:=r2.length;rw[F.len _ _ _ _ hq] at e;exact e.symm
 refine qd (aae (f:=f) I.kIn M.makes M.init (BS.mp M.fn) (rC (F.run _ X.stack _ _ ⟨Value.ref (s.heap.objs.size+1):: us,[]⟩ (Value.ref (s.heap.objs.size+1):: (us++ds)) _ _ E (hr.make C us [])
  (I2.aep.make C us []) (hb _ (Value.ref (s.heap.objs.size+1):: us) I2.kIn hl) r2 hq) λr s' JZ=>?_))
 cases r with
 |error e=>exact hx pins σ _ _ e s' I2 JZ
 |ok fl =>
  cases fl with
  |ret u =>
   obtain⟨v,H',I3,rv,ev,q3⟩:=I2.after JZ;subst ev;exact⟨rv,⟨V.ref (s.heap.objs.size+1),H',I3,rfl,q3⟩⟩
  |next=>exact False.elim JZ
  |brk=>exact False.elim JZ
  |cont=>exact False.elim JZ
theorem aea (M:Mk X.K C f)(F:yd X.prog X.w X.K X.mg X.base CX k f fd ps sp)(hr:xh (k+1) X.A)(hg:Gl X x)(hm:X.mg x=some (.ref C))(hb:ck X.K fd ps ds)(hd:aR dvs ds)(hx:fB CX X E)
 (ha:PA X (e::es) t)(HU:(x==("__debug__":Str))=false:=by decide)(he:starEach (e::es) X.env=(false,eval e X.env):: starEach es X.env:=by rfl)(GI:(backTo pos (starEach es X.env)).any (·.1)=false:=by rfl):
 PE X (.Call (.Name x p) (e::es) [] pos) (Bd C sp dvs E t):=by
 intro pins s σ H Q I h;refine Y6 (gm I hg hm ?_ HU);refine B9 (h₀:=X.base) I.ok.mod.kin M.kp (bU (ha pos pins s σ H _ I h) λus s1 ⟨vs,H1,I1,r,q⟩=>⟨I1.kIn,?_⟩) he GI;exact oC M F hr hb hd hx I1 r q
theorem aak (M:Mk X.K C f)(F:yd X.prog X.w X.K X.mg X.base CX k f fd ps sp)(hr:xh (k+1) X.A)(hg:Gl X x)(hm:X.mg x=some (.ref C))(hb:ck X.K fd ps ds)(hd:aR dvs ds)(hx:fB CX X E)
 (HU:(x==("__debug__":Str))=false:=by decide):PE X (.Call (.Name x p) [] [] pos) (Bd C sp dvs E Bz):=by
 intro pins s σ H Q I h;refine Y6 (gm I hg hm ?_ HU);exact PySem.W.callWith_K0 I.kIn M.kp (oC (us:=[]) M F hr hb hd hx I .nil h)
end
noncomputable def PK (X:Cx)(J0:List Keyword)(t:TA):Prop :=
 ∀(pos:Pos)(pins:List (Addr×Obj))(s:Ci)(σ:St)(H:Hp)(Q:List V->Hp->Prop),Inv X pins σ H s->t σ H Q->wpAny (model X.prog X.w) X.A (evalAll ((backToKw pos (keywordEach J0 X.env)).map (·.2))) (AP X pins σ Q) X.xe s
section
variable {X:Cx}{CX:EM}{k:Nat}{f C:Addr}{fd:BB}{ps ks:EG}{sp:Sp}{E:XK}{x m:Str}{p pos apos kpos:Pos}{e o:Expr}{es:yD}{J0:List Keyword}{te ta:TE}{t tk:TA}{nm:Option Str}
theorem aaq:PK X [] Bz:=λ_ _ _ _ H Q I h=>wpAny_evalAll_nil ⟨[],H,I,.nil,h⟩
theorem aau (ha:PE X e te)(hr:PK X J0 t):PK X (⟨nm,e,kpos⟩::J0) (bq te t):=by
 intro pos pins s σ H Q I h;show wpAny _ _ (evalAll ((do let v <-eval e X.env;standAt pos;pure v):: (backToKw pos (keywordEach J0 X.env)).map (·.2))) _ _ s;refine wpAny_evalAll_cons (X9 (bU (ha pins s σ H _ I h) λu s1 ⟨x,H1,I1,r1,q1⟩=>X9 (lu (Yb ?_))));exact bU (hr pos pins s1 σ H1 _ I1 q1) λus s2 ⟨xs,H2,I2,r2,q2⟩=>⟨x::xs,H2,I2,.cons r1 r2,q2⟩
variable {g:List Value->List Value->List Value}{gV:List V->List V->List V}
end
structure CN (N P:EG)(sc:Scope):Prop where
 kind:sc.kind=.function
 co:sc.isCoroutine=false
 gen:sc.isGenerator=false
 nd:N.Nodup
 pre:N.take P.length=P
 par:∀x∈P,sc.names.lookup x=some .local\/sc.names.lookup x=some .cell
 aeq:∀y∈sc.names,y.2≠.free
theorem fe {P:EG}{sc:Scope}(h:sc.kind=.function/\sc.isCoroutine=false/\sc.isGenerator=false/\N.Nodup/\N.take P.length=P/\(∀x∈P,sc.names.lookup x=some .local\/sc.names.lookup x=some .cell)/\∀y∈sc.names,y.2≠.free):CN N P sc:=⟨h.1,h.2.1,h.2.2.1,h.2.2.2.1,h.2.2.2.2.1,h.2.2.2.2.2.1,h.2.2.2.2.2.2⟩
variable {kindOf:Str->Option NameKind}
theorem lJ :∀{binds:List (Str×Value)}{m:vx},(∀v,(x,v)∉binds)->bindL kindOf binds m x=m x
 |[],_,_=>rfl
 |(n,v):: r,m,h=>by
  unfold bindL;rw[lJ λw hw=>h w (Yi _ hw)]
  split
  ·have:x≠n:=by rintro rfl;exact h v Yl
   simp[this]
  ·rfl
theorem mn :∀{binds:List (Str×Value)}{m:vx},(∀v,(x,v)∉binds)->bindC kindOf binds m x=m x
 |[],_,_=>rfl
 |(n,v):: r,m,h=>by
  unfold bindC;rw[mn λw hw=>h w (Yi _ hw)]
  split
  ·rfl
  ·have:x≠n:=by rintro rfl;exact h v Yl
   simp[this]
theorem lI {v:Value}:∀{P:EG}{vs:m8}{i:Nat}{m:vx},P.Nodup->P[i]?=some x->vs[i]?=some v->kindOf x=some .local →
 bindL kindOf (P.zip vs) m x=some v
 |[],_,_,_,_,h,_,_=>by simp at h
 |_::_,[],_,_,_,_,h,_=>by simp at h
 |p::P,w::vs,0,m,nd,h1,h2,hk=>by
  simp at h1 h2;subst h1;subst h2;show bindL kindOf ((p,w):: P.zip vs) m p=_;unfold bindL;rw[lJ λv hv=>(YT.mp nd).1 (vL hv).1,Yh hk];simp
 |p::P,w::vs,i+1,m,nd,h1,h2,hk=>by
  show bindL kindOf ((p,w):: P.zip vs) m x=_;unfold bindL;exact lI (i:=i) (YT.mp nd).2 (by simpa using h1) (by simpa using h2) hk
theorem mw {v:Value}:∀{P:EG}{vs:m8}{i:Nat}{m:vx},P.Nodup->P[i]?=some x->vs[i]?=some v->kindOf x≠some .local →
 bindC kindOf (P.zip vs) m x=some v
 |[],_,_,_,_,h,_,_=>by simp at h
 |_::_,[],_,_,_,_,h,_=>by simp at h
 |p::P,w::vs,0,m,nd,h1,h2,hk=>by
  simp at h1 h2;subst h1;subst h2;show bindC kindOf ((p,w):: P.zip vs) m p=_;unfold bindC;rw[mn λv hv=>(YT.mp nd).1 (vL hv).1,Yd hk];simp
 |p::P,w::vs,i+1,m,nd,h1,h2,hk=>by
  show bindC kindOf ((p,w):: P.zip vs) m x=_;unfold bindC;exact mw (i:=i) (YT.mp nd).2 (by simpa using h1) (by simpa using h2) hk
noncomputable def gI (N:EG)(vs:List V):St:=vs.map some++List.replicate (N.length-vs.length) none
noncomputable def gG (CX:EM)(P:wu)(w:World)(K:PySem.W.Frag)(mg:vx)(base:Heap)(N:EG)(qual:Str)(scope:Scope)(f:Addr)(cd:Value)(A:Around)(outer:List Env)(s:Ci)(H:Hp)(E:XK):Cx where
 prog:=P
 w:=w
 K:=K
 mg:=mg
 base:=base
 A:=A.deeper (envOfC qual scope s.heap.objs.size f cd)
 N:=N
 s₀:=s
 H₀:=H
 env:=envOfC qual scope s.heap.objs.size f cd
 outer:=outer
 stack:=envOfC qual scope s.heap.objs.size f cd::outer
 ex:=[]
 calm:=true
 fn:=λ_=>true
 pn:=[]
 xe:=λe s'=>wpAny (model P w) (A.deeper (envOfC qual scope s.heap.objs.size f cd)) (leaving (envOfC qual scope s.heap.objs.size f cd) e) (λ_ NJ=>CX outer H s E e NJ) (λe' NJ=>CX outer H s E e' NJ) s'
theorem oB {sc:Scope}{n:Nat}(h:sc.names.lookup x=some .cell):∃c,(cellsFrom n sc.names []).lookup x=some c:=by
 have q:=PySem.W.cellsFrom_some sc.names n [] (.inl h);exact Option.isSome_iff_exists.mp q
theorem aaA {CX:EM}{qual:Str}{scope:Scope}{f:Addr}{cd:Value}{s1:Ci}{E:XK}{vs:List V}
 (S:CN N ps scope)(hd:A.handled=none)(e0:Dm P w K mg base A outer s H)(hl:vs.length=ps.length)(r:aR vs us)
 (x:InCallC s s.heap.objs.size (bindL (envOfC qual scope s.heap.objs.size f cd).kindOf (ps.zip us) λ_=>none) (cellsFrom (s.heap.objs.size+1) scope.names []) (bindC (envOfC qual scope s.heap.objs.size f cd).kindOf (ps.zip us) λ_=>none) s1):
 Inv (gG CX P w K mg base N qual scope f cd A outer s H E) [] (gI N vs) H s1:=by
 have GI:ps.length<=N.length:=by have:=Ze List.length S.pre;rw[Y8] at this;omega
 obtain⟨h1,tk,rfl,hk⟩:=x.done;have J1:∀b:Addr,b∉(gG CX P w K mg base N qual scope f cd A outer s H E).ex:=λb z=>absurd (show b∈([]:List Addr) from z) (by simp)
 refine⟨⟨e0.mod,S.kind,rfl,rfl,Ye _,λy z c h1 h2=>?_,λy hy=>?_,λy c _ h=>?_,λ_=>hd,Around.frames_deeper e0.frames,.inr ⟨rfl,rfl⟩,λb z=>absurd z (J1 b),e0.bs,e0.bsz,λb _ _=>J1 b,λb z=>absurd z (J1 b),e0.acP,e0.frf⟩,
  rfl,e0.bare,Un.kept hk,⟨_,x.toInCall.ns,λi y v h1 h2 h3=>?_⟩,λy c h=>⟨_,x.cell y c h⟩,e0.hok.fresh (Ye _),λy c h=>?_,λp hp=>absurd (show p∈([]:List (Addr×Obj)) from hp) (by simp),e0.hok.kept hk,?_⟩
 ·exact name_of_addr x.apart (Z6 h1) (Z6 h2)
 ·have hy:scope.names.lookup y=some .cell\/scope.names.lookup y=some .free:=hy
  rcases hy with hy|hy
  ·exact oB hy
  ·exact absurd rfl (S.aeq _ (Z6 hy))
 ·exact Zi (x.above y c (Z6 h))
 ·have hi:i<vs.length:=by
   unfold gI at h2
   by_cases hi:i<vs.length
   ·exact hi
   ·rw[DV (by simpa using hi)] at h2;rw[List.getElem?_replicate] at h2
    split at h2 <;> cases h2
  have ha:vs[i]?=some v:=by
   unfold gI at h2;rw[B8 (by simpa using hi),YU] at h2
   cases e:vs[i]? with
   |none=>rw[e] at h2;cases h2
   |some a=>rw[e] at h2;cases h2;rfl
  obtain⟨u,hu,rv⟩:=r.get ha
  have hp:ps[i]?=some y:=by
   rw[<-S.pre,List.getElem?_take_of_lt (by omega)];exact h1
  have QO:ps.Nodup:=by rw[<-S.pre];exact S.nd.sublist (Ce _ _)
  refine⟨u,rv,?_⟩
  rcases S.par y (YA hp) with k|k
  ·exact .inl ⟨k,lI QO hp hu k⟩
  ·obtain⟨c,e⟩:=oB (n:=s.heap.objs.size+1) k;refine .inr ⟨.inl k,c,e,?_⟩;have q:=x.cell y c e;rw[mw QO hp hu (by show scope.names.lookup y≠_;rw[k];decide)] at q;exact q
 ·exact e0.hok.fresh (Zi (x.above y c (Z6 h)))
 ·unfold gI;show _=N.length;rw[Yw,Yg,yY];omega
theorem wY {CX:EM}{f:Addr}{name qual:Str}{params:Arguments}{scope:Scope}{dV kV doc pm Fv ct oc:Value}{an od:vA}
 {FX:CI}{sp:Sp}(lk:K.lookup f=some ⟨oc,od,.func (PySem.W.fnOf name qual params body scope dV kV doc pm an Fv ct),FX⟩)(Gg:PySem.W.codeIn K Fv qual=true)(S:CN N ps scope)
 (len:∀vs H Q E,sp vs H Q E->vs.length=ps.length)
 (F3:∀(A:Around)(outer:List Env)(s:Ci)(H:Hp)(vs:List V)(Q:VK)(E:XK),xh k (A.deeper (envOfC qual scope s.heap.objs.size f Fv))->sp vs H Q E →
  ∃t,oO (gG CX P w K mg base N qual scope f Fv A outer s H E) body t/\t {nx:=λ_ H'=>Q .non H',rt:=Q} (gI N vs) H):
 yd P w K mg base CX (k+1) f (PySem.W.fnOf name qual params body scope dV kV doc pm an Fv ct) ps sp:=by
 refine⟨len,λA outer s H args us vs Q E hr e0 hb r GY=>?_⟩;have hl:=len _ _ _ _ GY;have KX:K.In s.heap:=e0.mod.kin.keeps λb o e=>(e0.bs b o e).1;have lim:s.heap.NoLimit:=e0.mod.nolimit.keeps λb o e=>(e0.bs b o e).1
 have Gp:∀y∈ps.zip us,scope.names.lookup y.1=some .local\/(scope.names.lookup y.1=some .cell/\((cellsFrom (s.heap.objs.size+1) scope.names []).lookup y.1).isSome=true):=λ⟨n,v⟩ hy=>by
  rcases S.par n (vL hy).1 with q|q
  ·exact .inl q
  ·exact .inr ⟨q,PySem.W.cellsFrom_some _ _ _ (.inl q)⟩
 refine codeAny_call_function hr.depth (KX _ _ lk) rfl S.co S.gen rfl (PySem.W.codeRec_of KX Gg) (hb _ _ _ _ ?_);refine wpAny_newFunctionEnv_cells S.kind Gp λenv he s1 x=>?_;subst he;refine⟨lim.keeps x.toInCall.keep,codeAny_func ?_⟩;obtain⟨t,ht,hq⟩:=F3 A outer s H vs Q E (hr.deeper _) GY;have I:Inv (gG CX P w K mg base N qual scope f Fv A outer s H E) [] (gI N vs) H s1:=aaA S hr.hd e0 hl r x;refine YR (ht [] s1 (gI N vs) H _ I hq) (λfl s' hs=>?_) λe s' hs=>hs
 have fin:∀{σ':St}{H':Hp}{v:V}{u:Value},Inv (gG CX P w K mg base N qual scope f Fv A outer s H E) [] σ' H' s'->aG v u->Q v H'->CE outer P w H s Q u s' :=
  λ{σ' H' v u} J rv q=>⟨v,H',J.os,J.bare,J.base,J.hok,rv,q⟩
 cases fl with
 |ret u =>
  obtain⟨v,σ',H',J,rv,q⟩:=hs;exact fin J rv q
 |next =>
  obtain⟨σ',H',J,q⟩:=hs;exact fin (v:=V.non) (u:=Value.none) J rfl q
 |brk =>
  obtain⟨_,_,_,q⟩:=hs;exact False.elim q
 |cont =>
  obtain⟨_,_,_,q⟩:=hs;exact False.elim q
section
variable {X:Cx}{x:Str}{p pos:Pos}{e:Expr}{es:yD}{t:TA}{id T:String}{r:List V->Hp->VK->Prop}
noncomputable def Dh (r:List V->Hp->VK->Prop)(t:TA):TE:=λσ H Q=>t σ H λvs H1=>r vs H1 Q
theorem aE (hc:cT X (.builtin id) r)(hg:Gl X x)(hm:X.mg x=none)(hv:bootBuiltins x=some (.builtin id))(ha:PA X (e::es) t)(hn:x ≠ "__name__":=by decide)(HU:(x==("__debug__":Str))=false:=by decide)
 (he:starEach (e::es) X.env=(false,eval e X.env):: starEach es X.env:=by rfl)(GI:(backTo pos (starEach es X.env)).any (·.1)=false:=by rfl):PE X (.Call (.Name x p) (e::es) [] pos) (Dh r t):=by
 intro pins s σ H Q I h;refine Y6 (eK I hg hm hv ?_ hn HU);exact PyProof.Rows.callWith_builtin1 (bU (ha pos pins s σ H _ I h) λus s1 ⟨vs,H1,I1,r1,q1⟩=>hc pins s1 σ H1 vs us Q I1 r1 q1) he GI
theorem bt (hc:cT X (.type T) r)(hg:Gl X x)(hm:X.mg x=none)(hv:bootBuiltins x=some (.type T))(ha:PA X (e::es) t)(hn:x ≠ "__name__":=by decide)(HU:(x==("__debug__":Str))=false:=by decide)
 (he:starEach (e::es) X.env=(false,eval e X.env):: starEach es X.env:=by rfl)(GI:(backTo pos (starEach es X.env)).any (·.1)=false:=by rfl):PE X (.Call (.Name x p) (e::es) [] pos) (Dh r t):=by
 intro pins s σ H Q I h;refine Y6 (eK I hg hm hv ?_ hn HU);exact Z8 (bU (ha pos pins s σ H _ I h) λus s1 ⟨vs,H1,I1,r1,q1⟩=>hc pins s1 σ H1 vs us Q I1 r1 q1) he GI
end
section
variable {κ:Type} [DecidableEq κ]
noncomputable def iK (Ft:List (κ×V))(k:κ):Option V:=(Ft.find? λkv=>decide (kv.1=k)).map (·.2)
noncomputable def fH (Ft:List (κ×V))(k:κ)(v:V):List (κ×V):=
 if(Ft.any λkv=>decide (kv.1=k))=true then Ft.map (λkv=>if kv.1=k then(kv.1,v) else kv) else Ft++[(k,v)]
theorem iy {p:κ×V}{r:List (κ×V)}{k:κ}(e:p.1=k):iK (p::r) k=some p.2:=by simp[iK,u4,e]
theorem gf {p:κ×V}{r:List (κ×V)}{k:κ}(e:¬p.1=k):iK (p::r) k=iK r k:=by simp[iK,u4,e]
theorem kh (k:κ):∀Ft:List (κ×V),(Ft.any λkv=>decide (kv.1=k))=(iK Ft k).isSome
 |[]=>rfl
 |p::r=>by
  rw[yn]
  by_cases e:p.1=k
  ·simp only[iy e,YD e,Bool.true_or,Option.isSome_some]
  ·rw[gf e,Yu e,Bool.false_or];exact kh k r
theorem jc (Ft:List (κ×V))(k:κ)(v:V):(fH Ft k v).length<=Ft.length+1:=by
 unfold fH
 split
 ·rw[Yg];omega
 ·rw[Yw,YC,Dl];omega
theorem fO.acY {o:Option V}{u:qt}(r:fO o u):o.isSome=u.isSome:=by
 cases o with
 |none=>cases u with
  |none=>rfl
  |some _=>exact(show False from r).elim
 |some _=>cases u with
  |none=>exact(show False from r).elim
  |some _=>rfl
theorem fO.getD {o:Option V}{u:qt}{d:V}{d':Value}(r:fO o u)(rd:aG d d'):aG (o.getD d) (u.getD d'):=by
 cases o with
 |none=>cases u with
  |none=>exact rd
  |some _=>exact(show False from r).elim
 |some _=>cases u with
  |none=>exact(show False from r).elim
  |some _=>exact r
theorem KV.val {Ft:List (κ×V)}{vs:List (κ×Value)}(r:KV Ft vs)(k:κ):fO (iK Ft k) (valueAt vs k):=by
 unfold KV at r
 induction r with
 |nil=>exact True.intro
 |@cons p q ps qs h t ih =>
  obtain⟨h1,h2⟩:=h
  by_cases e:p.1=k
  ·have e':q.1=k:=h1.symm.trans e
   have b:valueAt (q::qs) k=some q.2:=by simp[valueAt,u4,e']
   rw[iy e,b];exact h2
  ·have e':¬q.1=k:=λz=>e (h1.trans z)
   have b:valueAt (q::qs) k=valueAt qs k:=by simp[valueAt,u4,e']
   rw[gf e,b];exact ih
theorem KV.any {Ft:List (κ×V)}{vs:List (κ×Value)}(r:KV Ft vs)(k:κ):(Ft.any λkv=>decide (kv.1=k))=vs.any λkv=>decide (kv.1=k):=by
 unfold KV at r
 induction r with
 |nil=>rfl
 |cons h t ih=>rw[yn,yn,ih,h.1]
theorem KV.aer {Ft:List (κ×V)}{vs:List (κ×Value)}(r:KV Ft vs)(k:κ)(ry:aG y u):
 KV (Ft.map λkv=>if kv.1=k then(kv.1,y) else kv) (vs.map λkv=>if kv.1=k then(kv.1,u) else kv):=by
 unfold KV at r |-
 induction r with
 |nil=>exact .nil
 |@cons p q ps qs h t ih =>
  rw[YF,YF];refine .cons ?_ ih;obtain⟨h1,h2⟩:=h
  by_cases e:p.1=k
  ·rw[Yh e,Yh (h1.symm.trans e)];exact⟨h1,ry⟩
  ·rw[Yd e,Yd (λz=>e (h1.trans z))];exact⟨h1,h2⟩
theorem KV.put {Ft:List (κ×V)}{vs:List (κ×Value)}(r:KV Ft vs)(k:κ)(ry:aG y u):KV (fH Ft k y) (stored vs k u):=by
 unfold fH stored;rw[r.any k]
 by_cases e:(vs.any λkv=>decide (kv.1=k))=true
 ·rw[Yh e,Yh e];exact r.aer k ry
 ·rw[Yd e,Yd e];exact vw r ⟨rfl,ry⟩
theorem KV.length {Ft:List (κ×V)}{vs:List (κ×Value)}(r:KV Ft vs):Ft.length=vs.length:=yB r
end
theorem ow {k:Key}(r:aG (kV k) u):(bX P w).is k u=true:=by
 cases k with
 |inl i=>obtain⟨t,e⟩:=(show ∃t,u=Value.int i t from r);subst e;exact adW P w i t
 |inr x=>obtain⟨t,e⟩:=(show ∃t,u=Value.str x t from r);subst e;exact acB P w x t
theorem l8 :∀{ks:List Key}{us:m8},aR (ks.map kV) us->ItemsAre (bX P w) ks us
 |[],_,r=>by rw[List.map_nil] at r;cases r;exact .nil
 |k::ks,_,r=>by
  rw[YF] at r
  cases r with
  |cons h t=>exact .cons (ow h) (l8 t)
noncomputable abbrev KT (H:Hp):List (List Key×V)->List (List Key×Addr×Value)->Prop:=Paired λp q=>p.1=q.1/\H q.2.1=some (.tup (p.1.map kV))/\aG p.2 q.2.2
variable {Ft:List (List Key×V)}{xs:List (List Key×Addr×Value)}
theorem KT.val (r:KT H Ft xs)(k:List Key):fO (iK Ft k) ((atKey xs k).map (·.2)):=by
 induction r with
 |nil=>exact True.intro
 |@cons p q ps qs h t ih =>
  obtain⟨h1,_,h2⟩:=h
  by_cases e:p.1=k
  ·have e':q.1=k:=h1.symm.trans e
   have b:atKey (q::qs) k=some q.2:=by simp[atKey,u4,e']
   rw[iy e,b];exact h2
  ·have e':¬q.1=k:=λz=>e (h1.trans z)
   have b:atKey (q::qs) k=atKey qs k:=by simp[atKey,u4,e']
   rw[gf e,b];exact ih
theorem KT.aer (r:KT H Ft xs)(k:List Key)(ry:aG y u):
 KT H (Ft.map λkv=>if kv.1=k then(kv.1,y) else kv) (xs.map (putAt k u)):=by
 induction r with
 |nil=>exact .nil
 |@cons p q ps qs h t ih =>
  rw[YF,YF];refine .cons ?_ ih;obtain⟨h1,h2,h3⟩:=h;unfold putAt
  by_cases e:p.1=k
  ·rw[Yh e,Yh (h1.symm.trans e)];exact⟨h1,h2,ry⟩
  ·rw[Yd e,Yd (λz=>e (h1.trans z))];exact⟨h1,h2,h3⟩
theorem KT.put (r:KT H Ft xs)(k:List Key)(hb:H b=some (.tup (k.map kV)))(ry:aG y u):
 KT H (fH Ft k y) (storedH xs k b u):=by
 have e:(Ft.any λkv=>decide (kv.1=k))=(atKey xs k).isSome:=by
  rw[kh,(r.val k).acY,Option.isSome_map]
 unfold fH storedH;rw[e]
 by_cases q:(atKey xs k).isSome=true
 ·rw[Yh q,Yh q];exact r.aer k ry
 ·rw[Yd q,Yd q];exact vw r ⟨rfl,hb,ry⟩
theorem KT.keeps (r:KT H Ft xs)(ht:∀b ys,H b=some (.tup ys)->H' b=some (.tup ys)):KT H' Ft xs :=
 Paired.adn r λ_ _ z=>⟨z.1,ht _ _ z.2.1,z.2.2⟩
section
variable {P:wu}{w:World}{H:Hp}{h:Heap}{a:Addr}
theorem AR {u:HO}(ok:fZ P w H h)(e:Rd H a u):bE P w H h a u:=e.ok ok
theorem jK {Ft:List (Key×V)}(ok:fZ P w H h)(e:Rd H a (.dK Ft)):Ft.length<=sizeLine/\(a==sysModules)=false/\∃vs,KV Ft vs/\h.DictOf (bX P w) a vs :=
 show bE P w H h a (.dK Ft) from AR ok e
theorem aaB {Ft:List (Key×V)}(ok:fZ P w H h)(e:H a=some (.dK Ft)):Ft.length<=sizeLine/\(a==sysModules)=false/\∃vs,KV Ft vs/\h.DictOf (bX P w) a vs:=jK ok (.inl e)
theorem kE {ks:List Key}(ok:fZ P w H h)(e:H a=some (.tup (ks.map kV))):(tupleKind (bX P w)).is h ks a:=by
 obtain⟨_,its,r,o,h1,h2,n,h3⟩:=(show bE P w H h a (.tup (ks.map kV)) from ok a _ e);exact⟨o,its.toArray,n,h1,h2,h3,by simpa using l8 r⟩
theorem lU (ok:fZ P w H h)(e:Rd H a (.dT Ft)):Ft.length<=sizeLine/\(a==sysModules)=false /\
 ∃xs,KT H Ft xs/\h.DictOfH (tupleKind (bX P w)) a xs:=by
 obtain⟨z,y,xs,r,o,es,ep,h1,h2,h3,h4,h5⟩:=(show bE P w H h a (.dT Ft) from AR ok e);refine⟨z,y,xs,r,o,es,ep,h1,h2,h3,h4,λx hx=>?_,h5⟩
 have all:∀{l:List (List Key×V)}{m:List (List Key×Addr×Value)},KT H l m->∀x∈m,(tupleKind (bX P w)).is h x.1 x.2.1:=by
  intro l m q
  induction q with
  |nil=>intro x hx;exact nomatch hx
  |@cons p q ps qs hq t ih =>
   intro x hx
   rcases Yn.mp hx with e|hx
   ·subst e;exact kE ok (by rw[<-hq.1];exact hq.2.1)
   ·exact ih x hx
 exact all r x hx
theorem aaC (ok:fZ P w H h)(e:H a=some (.dT Ft)):Ft.length<=sizeLine/\(a==sysModules)=false /\
 ∃xs,KT H Ft xs/\h.DictOfH (tupleKind (bX P w)) a xs:=lU ok (.inl e)
end
noncomputable def iS (H:Hp)(a:Addr)(y:V)(r:Option V):Prop :=
 (∃Ft k,Rd H a (.dK Ft)/\y=kV k/\r=iK Ft k)\/∃Ft k b,Rd H a (.dT Ft)/\y=.ref b/\H b=some (.tup (k.map kV))/\r=iK Ft k
noncomputable def oE (H:Hp)(a:Addr)(y v:V)(H':Hp):Prop :=
 (∃Ft k,H a=some (.dK Ft)/\y=kV k/\Ft.length<sizeLine/\H'=upd H a (.dK (fH Ft k v))) \/
 ∃Ft k b,H a=some (.dT Ft)/\y=.ref b/\H b=some (.tup (k.map kV))/\Ft.length<sizeLine/\H'=upd H a (.dT (fH Ft k v))
theorem iS.t {b:Addr}{k:List Key}(e:H a=some (.dT Ft))(eb:H b=some (.tup (k.map kV))):iS H a (.ref b) (iK Ft k):=.inr ⟨Ft,k,b,.inl e,rfl,eb,rfl⟩
theorem oE.t {b:Addr}{k:List Key}{v:V}(e:H a=some (.dT Ft))(eb:H b=some (.tup (k.map kV)))(hl:Ft.length<sizeLine):
 oE H a (.ref b) v (upd H a (.dT (fH Ft k v))):=.inr ⟨Ft,k,b,e,rfl,eb,hl,rfl⟩
section
variable {X:Cx}{pins:List (Addr×Obj)}{σ:St}{H:Hp}{s:Ci}{a:Addr}{y v:V}{u r:Value}{o:Option V}{A:Around}{E:ph}
theorem Inv.big (I:Inv X pins σ H s):sysModules<s.heap.objs.size:=by
 have h:mainGlobals<s.heap.objs.size:=(I.mod.glob.keeps I.bk).lt;exact YX (by decide) h
theorem aaS {Q:ph}(hu:A.units+1<cLine)(I:Inv X pins σ H s)(g:iS H a y (some v))(ry:aG y u)(h:∀w' s',Inv X pins σ H s'->aG v w'->Q w' s'):
 wpAny (model X.prog X.w) A (getItem (.ref a) u) Q E s:=by
 rcases g with⟨Ft,k,e,ey,l⟩|⟨Ft,k,b,e,ey,eb,l⟩
 ·subst ey;obtain⟨z,hd,vs,rel,dd⟩:=jK I.hok e;obtain⟨w',hw,Gb⟩:=fO.some_of (v:=v) (o:=valueAt vs k) (by rw[l];exact rel.val k);exact wpAny_getItem_of (ow ry) dd.mapOf hw (h w' _ (I.tok _) Gb)
 ·subst ey
  cases(show u=Value.ref b from ry)
  obtain⟨z,hd,xs,rel,dd⟩:=lU I.hok e;obtain⟨w',hw,Gb⟩:=fO.some_of (v:=v) (o:=(atKey xs k).map (·.2)) (by rw[l];exact rel.val k);obtain⟨p,hp,JF⟩:=YH.mp hw;refine wpAny_getItem_heap (Fl hu) (kE I.hok eb) dd hp ?_;rw[JF];exact h w' _ (I.tok _) Gb
theorem abj {Q:ph}(hu:A.units+1<cLine)(I:Inv X pins σ H s)(g:iS H a y o)(ry:aG y u)(h:∀s',Inv X pins σ H s'->Q (.bool o.isSome) s'):
 wpAny (model X.prog X.w) A (compareOp .In u (.ref a)) Q E s:=by
 rcases g with⟨Ft,k,e,ey,l⟩|⟨Ft,k,b,e,ey,eb,l⟩
 ·subst ey;obtain⟨z,hd,vs,rel,dd⟩:=jK I.hok e;refine wpAny_in_of (ow ry) hd dd.mapOf ?_;rw[<-(rel.val k).acY,<-l];exact h _ (I.tok _)
 ·subst ey
  cases(show u=Value.ref b from ry)
  obtain⟨z,hd,xs,rel,dd⟩:=lU I.hok e;refine wpAny_in_heap (Fl hu) (kE I.hok eb) hd dd ?_;have q:=(rel.val k).acY;rw[Option.isSome_map] at q;rw[<-q,<-l];exact h _ (I.tok _)
theorem uu {h':Heap}{t':Nat}{ob:HO}(I:Inv X pins σ H s)(mu:D0 (H a))(hs:Heap.SameBut a s.heap h')(he:∃q,h'.get? a=some q)(new:bE X.prog X.w (upd H a ob) h' a ob):
 Inv X pins σ (upd H a ob) {s with heap:=h',toks:=t'}:=
 I.write (x:=a) (e:=a) mu (.inl rfl) (λb q hb z=>(hs.2 b hb).trans z) he new
theorem abG {h':Heap}{Ft:List (Key×V)}{vs:List (Key×Value)}(z:Ft.length<=sizeLine)(hd:(a==sysModules)=false)(rel:KV Ft vs)(dd:h'.DictOf (bX P w) a vs):
 bE P w H' h' a (.dK Ft):=⟨z,hd,vs,rel,dd⟩
theorem Sig {Q:Unit->Shared->Prop}(hu:A.units+1<cLine)(I:Inv X pins σ H s)(g:oE H a y v H')(ry:aG y u)(rv:aG v r)(h:∀s',Inv X pins σ H' s'->Q () s'):
 wpAny (model X.prog X.w) A (setItem (.ref a) u r) Q E s:=by
 rcases g with⟨Ft,k,e,ey,l,eH⟩|⟨Ft,k,b,e,ey,eb,l,eH⟩
 ·subst ey eH;obtain⟨z,hd,vs,rel,dd⟩:=aaB I.hok e
  have hz:vs.length<=sizeLine:=by rw[<-rel.length];exact z
  have hl:(fH Ft k v).length<=sizeLine:=by have:=jc Ft k v;omega
  refine wpAny_setItem_pairs (hsz:=hz) (ow ry) dd λh' MU hs=>h _ ?_;have he:∃q,h'.get? a=some q:=let⟨q,_,_,hq,_⟩:=MU;⟨q,hq⟩;exact uu I (by rw[e];exact True.intro) hs he (abG hl hd (rel.put k rv) MU)
 ·subst ey eH
  cases(show u=Value.ref b from ry)
  obtain⟨z,hd,xs,rel,dd⟩:=aaC I.hok e
  have hz:xs.length<=sizeLine:=by rw[<-yB rel];exact z
  have hl:(fH Ft k v).length<=sizeLine:=by have:=jc Ft k v;omega
  refine wpAny_setItem_heap (hsz:=hz) (Fl hu) (kE I.hok eb) dd λh' MU hs=>h _ ?_;obtain⟨q,es,ep,hq,h2,h3,h4,_,h5⟩:=MU;refine uu I (by rw[e];exact True.intro) hs ⟨q,hq⟩ ⟨hl,hd,_,(rel.put k eb rv).keeps λc ys ec=>?_,q,es,ep,hq,h2,h3,h4,h5⟩;rw[aA (Ba ec e (λz=>nomatch z))];exact ec
end
noncomputable def DK (i:Expr):Prop:=∀ov iv,subscripted i false ov iv=operate [ov,iv] (getItem ov iv)
theorem TyX {prog:wu}{E:ph}{env:Env}{value slice:Expr}{T id:String}{Q:ph}
 (hl:typeLookup (.type T) "__getitem__"=pure (some (.builtin id)))(hs:DK slice)
 (h:wpAny (model prog w) A (eval value env) (λo s₁=>wpAny (model prog w) A (eval slice env) (λi s₂=>s₂.TypeIs o T/\wpAny (model prog w) A (getItem o i) Q E s₂) E s₁) E s):
 wpAny (model prog w) A (eval (.Subscript value slice pos) env) Q E s:=by
 refine Subscript_ (YR h (λo s₁ h₁=>YR h₁ (λi s₂ h₂=>?_) λ_ _ x=>x) λ_ _ x=>x);obtain⟨hT,h₂⟩:=h₂;unfold subscriptTail;refine X9 ?_;rw[getitemInPython_of_ne hT.not_modules];refine X9 (wpAny_specialOf hT hl ?_)
 have fin:wpAny (model prog w) A (subscripted slice false o i) (λr s₃=>wpAny (model prog w) A (letTemporaryGo value o r>>=λ_=>pure r) Q E s₃) E s₂:=by
  rw[hs o i];exact wpAny_operating (YR h₂ (λr s₃ h₃=>X9 (wpAny_letTemporaryGo (Yb h₃))) λ_ _ x=>x)
 first
  |exact Yb (X9 fin)
  |exact X9 (Yb (X9 fin))
  |exact X9 fin
theorem adF {o:Option V}(I:Inv X pins σ H s)(g:iS H a y o):s.TypeIs (.ref a) "dict":=by
 rcases g with⟨Ft,k,e,_,_⟩|⟨Ft,k,b,e,_,_,_⟩
 ·obtain⟨_,_,vs,_,dd⟩:=jK I.hok e;exact dd.typeIs
 ·obtain⟨_,_,xs,_,dd⟩:=lU I.hok e;exact dd.typeIs
noncomputable def ad5 (td ty:TE):TE:=λσ H Q=>td σ H λx H1=>ty σ H1 λy H2=>∃a v,x=.ref a/\iS H2 a y (some v)/\Q v H2
noncomputable def ad7 (ty td:TE):TE:=λσ H Q=>ty σ H λy H1=>td σ H1 λx H2=>∃a o,x=.ref a/\iS H2 a y o/\Q (.bl o.isSome) H2
noncomputable def ad8 (td ty tv:TE):TS:=λD σ H=>tv σ H λv H1=>td σ H1 λx H2=>ty σ H2 λy H3=>∃a H4,x=.ref a/\oE H3 a y v H4/\D.nx σ H4
section
variable {X:Cx}{o i e value:Expr}{pos pos' NH:Pos}{td ty tv:TE}
theorem nX (hu:X.A.units+1<cLine)(ho:PE X o td)(hi:PE X i ty)(hs:DK i):PE X (.Subscript o i pos) (ad5 td ty):=by
 intro pins s σ H Q I h;refine TyX PySem.F.slot_dict_getitem.lookup hs (bU (ho pins s σ H _ I h) λu s1 ⟨x,H1,I1,rx,q1⟩=>bU (hi pins s1 σ H1 _ I1 q1) λiv s2 z'=>?_);obtain⟨y,H2,I2,ry,a,v,ex,g,q2⟩:=z';subst ex;obtain rfl:u=Value.ref a:=rx;exact⟨adF I2 g,aaS hu I2 g ry λw' s3 I3 Gb=>⟨v,H2,I3,Gb,q2⟩⟩
theorem aaw (hu:X.A.units+1<cLine)(hi:PE X i ty)(ho:PE X o td):PC X .In i o (ad7 ty td):=by
 intro pins s σ H Q I h;refine bU (hi pins s σ H _ I h) λiv s1 ⟨y,H1,I1,ry,q1⟩=>bU (ho pins s1 σ H1 _ I1 q1) λu s2 z'=>?_;obtain⟨x,H2,I2,rx,a,ov,ex,g,q2⟩:=z';subst ex;obtain rfl:u=Value.ref a:=rx;exact abj hu I2 g ry λs3 I3=>⟨.bl ov.isSome,H2,I3,rfl,q2⟩
theorem uk (hu:X.A.units+1<cLine)(ho:PE X o td)(hi:PE X i ty)(hv:PE X value tv)(hs:swapsWith value (some (.Subscript o i pos')) pos.line X.env=pure false):
 PS X (.Assign [.Subscript o i pos'] value pos) (ad8 td ty tv):=by
 intro pins s σ H D I h;refine wpAny_Assign_Subscript (bU (hv pins s σ H _ I h) λr s1 ⟨v,H1,I1,rv,q1⟩=>bU (ho pins s1 σ H1 _ I1 q1) λu s2 ⟨x,H2,I2,rx,q2⟩=>bU (hi pins s2 σ H2 _ I2 q2) λiv s3 z'=>?_) hs;obtain⟨y,H3,I3,ry,a,H4,ex,g,q3⟩:=z';subst ex;obtain rfl:u=Value.ref a:=rx;exact Sig hu I3 g ry rv λs4 I4=>⟨σ,H4,I4,q3⟩
end
theorem aaH (h:Heap)(hb:sysModules<h.objs.size):bE P w H (h.push {cls:=.type "dict",data:=.dict #[]}) h.objs.size (.dT []):=
 ⟨Yt _,Z5.mpr (YM (Yr hb)),[],.nil,_,#[],0,Yk _ rfl,⟨rfl,rfl,rfl⟩,rfl,rfl,vB⟩
noncomputable def aes:TE:=λ_ H Q=>∀p,H p=none->Q (.ref p) (upd H p (.dT []))
section
variable {X:Cx}{pos:Pos}
theorem oa:PE X (.Dict [] [] pos) aes:=λpins s σ H Q I h =>
 wpAny_Dict_empty ⟨.ref s.heap.objs.size,_,I.laid (a:=s.heap.objs.size) (o:=.dT []) (t':=s.toks) (λ_ _ q=>Yc _ q) (Ye _) (aaH s.heap I.big),rfl,h _ (I.hok.fresh (Ye _))⟩
end
structure M2 (X:Cx)(o:Expr)(m:Str)(apos:Pos)(e f:Expr)(FF:Pos):Prop where
 base:attributeBase o m X.env (eval o X.env)=eval o X.env
 few:((backTo FF (starEach [e,f] X.env)).all (λx=>!x.1)&&(backToKw FF (keywordEach [] X.env)).all (λx=>x.1.isSome)
  && decide (([e,f]:yD).length+([]:List Keyword).length+(if([]:List Keyword).isEmpty then 0 else 1)<30))=true
 line:(apos.endLine==FF.line)=true
 trees:backTo FF (starEach [e,f] X.env)=[(false,eval e X.env),(false,eval f X.env)]
noncomputable def EY (H:Hp)(a:Addr):Prop:=(∃Ft,Rd H a (.dK Ft))\/∃Ft,Rd H a (.dT Ft)
theorem aaI (I:Inv X pins σ H s)(d:EY H a):
 s.TypeIs (.ref a) "dict"/\(∀b,Value.ref a=.ref b->∃ob,s.heap.get? b=some ob/\ob.dict=none)/\(a==sysModules)=false:=by
 rcases d with⟨Ft,e⟩|⟨Ft,e⟩
 ·obtain⟨_,hd,vs,_,dd⟩:=jK I.hok e;refine⟨dd.typeIs,λb q=>?_,hd⟩
  cases q
  obtain⟨ob,_,_,h1,h2,_⟩:=dd;exact⟨ob,h1,h2.2.1⟩
 ·obtain⟨_,hd,xs,_,dd⟩:=lU I.hok e;refine⟨dd.typeIs,λb q=>?_,hd⟩
  cases q
  obtain⟨ob,_,_,h1,h2,_⟩:=dd;exact⟨ob,h1,h2.2.1⟩
section
variable {X:Cx}{pins:List (Addr×Obj)}{σ:St}{H:Hp}{s:Ci}{a:Addr}{y d:V}{u r:Value}{o:Option V}{A:Around}{E:ph}
theorem aaJ {Q:ph}(hu:A.units+1<cLine)(I:Inv X pins σ H s)(g:iS H a y o)(ry:aG y u)(rd:aG d r)(h:∀w' s',Inv X pins σ H s'->aG (o.getD d) w'->Q w' s'):
 wpAny (model X.prog X.w) A (call (.builtin "dict.get") [.ref a,u,r]) Q E s:=by
 rcases g with⟨Ft,k,e,ey,l⟩|⟨Ft,k,b,e,ey,eb,l⟩
 ·subst ey;obtain⟨z,hd,vs,rel,dd⟩:=jK I.hok e;refine call_meetsIn BF dd.typeIs PySem.F.entry_dict_get (PySem.F.args_dict_get_3 _ _ _) (meets_dict_get_default (bX X.prog X.w) a (ow ry) hd r) ⟨_,dd.mapOf,h _ _ (I.tok _) ?_⟩;rw[l];exact(rel.val k).getD rd
 ·subst ey
  cases(show u=Value.ref b from ry)
  obtain⟨z,hd,xs,rel,dd⟩:=lU I.hok e;refine call_meetsIn BF dd.typeIs PySem.F.entry_dict_get (PySem.F.args_dict_get_3 _ _ _) (meetsH_dict_get_default (tupleKind (bX X.prog X.w)) a b hd r) ⟨Fl hu,k,xs,kE I.hok eb,dd,h _ _ (I.tok _) ?_⟩;rw[l];exact(rel.val k).getD rd
end
noncomputable def aaK (td ty tx:TE):TE:=λσ H Q=>td σ H λx H1=>∃a,x=.ref a/\EY H1 a/\ty σ H1 λy H2=>tx σ H2 λz H3=>∃o,iS H3 a y o/\Q (o.getD z) H3
section
variable {X:Cx}{o e f:Expr}{apos FF:Pos}{td ty tx:TE}
theorem aaO (hu:X.A.units+1<cLine)(ho:PE X o td)(he:PE X e ty)(hf:PE X f tx)(m:M2 X o "get" apos e f FF):PE X (.Call (.Attribute o "get" apos) [e,f] [] FF) (aaK td ty tx):=by
 intro pins s σ H Q I h;refine wpAny_Call_method m.base m.few m.line PySem.F.plainAttrs_dict BF PySem.F.type_dict_get (bU (ho pins s σ H _ I h) λu s1 z'=>?_);obtain⟨x,H1,I1,rx,a,ex,d,q1⟩:=z';subst ex;obtain rfl:u=Value.ref a:=rx;obtain⟨t1,t2,_⟩:=aaI I1 d;refine⟨t1,t2,?_⟩;rw[m.trees]
 refine zT rfl (vd (u3 (bU (he pins s1 σ H1 _ I1 q1) λiv s2 ⟨y,H2,I2,ry,q2⟩ =>
  u3 (bU (hf pins s2 σ H2 _ I2 q2) λfv s3 ⟨z,H3,I3,rz,ov,g,q3⟩=>xq ?_))))
 exact aaJ hu I3 g ry rz λw' s4 I4 Gb=>⟨_,H3,I4,Gb,q3⟩
end
end L2
namespace HT
open PySem PyProof.Rows
noncomputable def cR:List Int->List Int->Bool
 |[],[]=>false
 |[],_::_=>true
 |_::_,[]=>false
 |x::xs,y::ys=>if x=y then cR xs ys else decide (x<y)
theorem dZ (x y:Int)(xs ys:List Int):cR (x::xs) (y::ys)=if x=y then cR xs ys else decide (x<y):=rfl
theorem aaQ:cR [] []=false:=rfl
theorem aaW (y:Int)(ys:List Int):cR [] (y::ys)=true:=rfl
theorem aaZ (x:Int)(xs:List Int):cR (x::xs) []=false:=rfl
theorem aa8 (A:Around)(s:Ci)(a:Int)(t:Tok)(c:Int)(u:Tok):∃e,SeqAt.EqAt A s (.int a t) (.int c u) e/\(e=true↔a=c):=
 ⟨(a==c),yP a t c u,by simp⟩
theorem abk (A:Around)(s:Ci)(a:Int)(t:Tok)(c:Int)(u:Tok)(prog:wu)(w:World)(E:ph)(Q:ph)(h:Q (.bool (decide (a<c))) s):
 wpAny (model prog w) A (richCompare .Lt (.int a t) (.int c u)) Q E s :=
 (PyProof.Rows.lt_int h:wpAny (model prog w) A (compareOp .Lt (.int a t) (.int c u)) Q E s)
section
open PySem.SeqAt
open PySem.AutoSeq1 (wpAny_loadPart')
open PySem.MeetsSeq PySem.MeetsSeq2 PySem.MeetsSeq3
theorem abl (l b:Addr)(items FJ:BC)(n n2:Nat)(dd HJ:vA)(sl GU:CI)(ns ms:List Int)(hi:IntsAre items.toList ns)(hj:IntsAre FJ.toList ms):
 Meets (Builtin.«tuple.__lt__» ⟨[.ref l,.ref b],[]⟩)
  (λ_ R s=>s.heap.get? l=some {cls:=.type "tuple",dict:=dd,data:=.seq items n,slots:=sl}/\s.heap.get? b=some {cls:=.type "tuple",dict:=HJ,data:=.seq FJ n2,slots:=GU} /\
   R (.ok (.ret (.bool (cR ns ms)))) s):=
 .of_wp λprog w A R s h=>by
  obtain⟨hp,g,d,tk,os⟩:=s;obtain⟨hl,hb,h⟩:=h;have f2:=AutoSeq1.sub_tuple_tuple
  have z1:items.size=ns.length:=by rw[<-hi.length];simp
  have z2:FJ.size=ms.length:=by rw[<-hj.length];simp
  wp_walk using wpAny_loadPart' hl,wpAny_loadPart' hb,wpAny_forIn_list _ (λrest b s'=>b.1=none/\s'=⟨hp,g,d,tk,os⟩/\∃(vs ws:m8)(HK GP:List Int),rest=vs.zip ws /\
   IntsAre vs HK/\IntsAre ws GP/\HK.length+FJ.size=GP.length+items.size/\R (.ok (.ret (.bool (cR HK GP)))) ⟨hp,g,d,tk,os⟩) _
  case turn =>
   rintro⟨y,x⟩ rest b s' ⟨FZ,rfl,vs,ws,HK,GP,hz,NK,MV,hlen,hR⟩
   cases NK with
   |nil=>rw[List.zip_nil_left] at hz;cases hz
   |cons a t NL =>
    cases MV with
    |nil=>rw[List.zip_nil_right] at hz;cases hz
    |cons c u NM =>
     rw[List.zip_cons_cons] at hz
     injection hz with SM F4
     injection SM with hy hx
     subst hy hx;rw[dZ] at hR;simp only[YC] at hlen;obtain⟨e,he,J5⟩:=aa8 A.in1 ⟨hp,g,d,tk,os⟩ a t c u;refine X9 (he prog w _ _ ?_)
     cases e with
     |true =>
      rw[Yh (J5.mp rfl)] at hR
      wp_walk
      exact⟨rfl,rfl,_,_,_,_,F4,NL,NM,by omega,hR⟩
     |false =>
      rw[Yd (λq=>absurd (J5.mpr q) Yp)] at hR;have SN:=abk A.in1 ⟨hp,g,d,tk,os⟩ a t c u prog w
      wp_walk using SN
      exact⟨_,rfl,by simpa using hR⟩
  case fin =>
   rintro⟨b1,b2⟩ s' ⟨FZ,rfl,vs,ws,HK,GP,hz,NK,MV,hlen,hR⟩;simp only at FZ;subst FZ
   have hv:cR HK GP=decide (items.size<FJ.size):=by
    cases NK with
    |nil =>
     cases MV with
     |nil =>
      simp only[Dl] at hlen;rw[aaQ];exact(Yu (by omega)).symm
     |cons c u hw =>
      simp only[Dl,YC] at hlen;rw[aaW];exact(YD (by omega)).symm
    |cons a t hv =>
     cases MV with
     |nil =>
      simp only[Dl,YC] at hlen;rw[aaZ];exact(Yu (by omega)).symm
     |cons c u hw =>
      rw[List.zip_cons_cons] at hz
      cases hz
   rw[hv] at hR
   wp_walk
   exact⟨_,rfl,by simpa[Builtin.Tuple.tupleCompareSizes] using hR⟩
  case h =>
   exact⟨rfl,rfl,items.toList,FJ.toList,ns,ms,rfl,hi,hj,by omega,h⟩
end
section
variable {prog:wu}{w:World}{A:Around}{E:ph}{s:Ci}
theorem aby {l b:Addr}{items FJ:BC}{ns ms:List Int}{Q:ph}(hl:IsTup s.heap l items)(hb:IsTup s.heap b FJ)(hi:IntsAre items.toList ns)(hj:IntsAre FJ.toList ms)
 (hu:A.units<cLine)(h:Q (.bool (cR ns ms)) s):wpAny (model prog w) A (compareOp .Lt (.ref l) (.ref b)) Q E s:=by
 obtain⟨⟨cls,dd,data,sl⟩,ho,hc,n,hd⟩:=id hl;obtain⟨⟨IQ,HJ,data2,GU⟩,GF,Gq,n2,hd2⟩:=id hb;simp only at hc hd Gq hd2;subst hc hd Gq hd2
 exact richCompare_meets_room (op:=.Lt) ⟨_,ho,rfl⟩ ⟨_,GF,rfl⟩ PySem.F.slot_tuple_lt PySem.F.entry_tuple_lt (PySem.F.args_tuple_lt_2 _ _) (abl l b items FJ n n2 dd HJ sl GU ns ms hi hj)
  ⟨ho,GF,show Value.bool (cR ns ms)≠Value.notImplemented/\Q (.bool (cR ns ms)) s from⟨(λx=>nomatch x),h⟩⟩ hu
theorem abz {t b:Addr}{vs ws:m8}{Q:ph}(ht:IsTup s.heap t vs.toArray)(hb:IsTup s.heap b ws.toArray)(hv:vs≠[])
 (h1:ws=[]->Q (.ref t) s)(h2:ws≠[]->Q (.ref s.heap.objs.size) {s with heap:=s.heap.push {cls:=.type "tuple",data:=.seq (vs++ws).toArray} })
 (hsz:vs.length+ws.length<=sizeLine):wpAny (model prog w) A (binaryOp .Add (.ref t) (.ref b)) Q E s:=by
 obtain⟨⟨cls,dd,data,sl⟩,ho,hc,n,hd⟩:=id ht;obtain⟨⟨IQ,HJ,data2,GU⟩,GF,Gq,n2,hd2⟩:=id hb;simp only at hc hd Gq hd2;subst hc hd Gq hd2
 have e:vs.toArray++ws.toArray=(vs++ws).toArray:=by simp
 by_cases hw:ws=[]
 ·exact Cg ⟨_,ho,rfl⟩ ⟨_,GF,rfl⟩ qi ll vm Fq (Fo _ _)
   (tuple_addW1 t b vs.toArray ws.toArray n n2 dd HJ sl GU (by simpa using hv) (by simp[hw])) ⟨ho,GF,h1 hw⟩
 ·refine Cg ⟨_,ho,rfl⟩ ⟨_,GF,rfl⟩ qi ll vm Fq (Fo _ _)
   (tuple_addW2 t b vs.toArray ws.toArray n n2 dd HJ sl GU (by simpa using hv) (by simpa using hw) (by rw[Yj,Yj];exact hsz)) ⟨ho,GF,?_⟩
  rw[e];exact h2 hw
noncomputable def c5 (n d:Nat):Option Int->Nat
 |none=>d
 |some v=>if v<0 then(v+(n:Int)).toNat else min v.toNat n
theorem abF (n d k:Nat):c5 n d (some (k:Int))=min k n:=by
 show(if(k:Int)<0 then((k:Int)+(n:Int)).toNat else min (k:Int).toNat n)=min k n;rw[Yd (by omega),YV]
theorem abH (n d:Nat)(hd:d<=n)(o:Option Int):c5 n d o<=n:=by
 cases o with
 |none=>exact hd
 |some v =>
  show(if v<0 then(v+(n:Int)).toNat else min v.toNat n)<=n
  by_cases hv:v<0
  ·rw[Yh hv];omega
  ·rw[Yd hv];exact ZP _ _
theorem uh (v:Int)(n d:Nat):(if v<0 then max (v+(n:Int)) 0 else min v (n:Int))=((c5 n d (some v):Nat):Int):=by
 show(if v<0 then max (v+(n:Int)) 0 else min v (n:Int))=(((if v<0 then(v+(n:Int)).toNat else min v.toNat n):Nat):Int)
 by_cases hv:v<0
 ·simp only[Yh hv];omega
 ·simp only[Yd hv];omega
theorem abW (lo hi:Option Int)(n:Nat):Builtin.Slice.sliceAdjust lo hi 1 (n:Int)=(((c5 n 0 lo:Nat):Int),((c5 n n hi:Nat):Int)):=by
 have h1:¬((1:Int)<0):=by omega
 unfold Builtin.Slice.sliceAdjust;simp only[h1,Zv];refine zD ?_ ?_
 ·cases lo with
  |none=>rfl
  |some v=>exact uh v n 0
 ·cases hi with
  |none=>rfl
  |some v=>exact uh v n n
theorem ach (i j:Nat):Builtin.Slice.slicePlaces (i:Int) (j:Int) 1=j-i:=by
 unfold Builtin.Slice.slicePlaces
 have h1:(1:Int)>0:=by omega
 simp only[h1,ZR,Int.ediv_one]
 split <;> omega
theorem kc {v:Value}{o:Option Int}{Q:Option Int->Shared->Prop}(p:IsPart v o)(h:Q o s):wpAny (model prog w) A (Builtin.Slice.slicePartIndex v) Q E s:=by
 cases p with
 |none=>exact slicePart_none h
 |int i t=>exact slicePart_int h
theorem e8 {sl:Addr}{vl vu:Value}{lo hi:Option Int}{n:Nat}{Q:Int×Int×Nat->Shared->Prop}(hs:s.heap.IsSliceOf sl vl vu .none)(pl:IsPart vl lo)(pu:IsPart vu hi)
 (h:Q (((c5 n 0 lo:Nat):Int),1,c5 n n hi-c5 n 0 lo) s):wpAny (model prog w) A (Builtin.Slice.sliceApplied (.ref sl) (pure (n:Int))) Q E s:=by
 obtain⟨os,IS,MW,IT⟩:=id hs;unfold Builtin.Slice.sliceApplied Builtin.Slice.sliceFields;refine X9 (X9 (YW IS IT (x:=vl) rfl (X9 (YW IS IT (x:=vu) rfl (X9 (YW IS IT (x:=.none) rfl (Yb ?_)))))));refine X9 (slicePart_none ?_);show wpAny _ _ (if((1:Int)==0)=true then _ else _) _ _ s;rw[Yd (by decide)];refine X9 (kc pl (X9 (kc pu (X9 (Yb ?_)))));show wpAny _ _ (match Builtin.Slice.sliceAdjust lo hi 1 (n:Int) with|(lo,hi)=>pure (lo,(1:Int),Builtin.Slice.slicePlaces lo hi 1)) _ _ s;rw[abW lo hi n];show wpAny _ _ (pure (((c5 n 0 lo:Nat):Int),(1:Int),Builtin.Slice.slicePlaces ((c5 n 0 lo:Nat):Int) ((c5 n n hi:Nat):Int) 1)) _ _ s;rw[ach];exact Yb h
theorem aci (xs:BC)(i k:Nat):((List.range k).filterMap λ(m:Nat)=>xs[((i:Int)+(m:Int)*1).toNat]?).toArray=((xs.toList.drop i).take k).toArray:=by
 have e:(λ(m:Nat)=>xs[((i:Int)+(m:Int)*1).toNat]?)=λm=>xs[i+m]?:=by
  funext m
  have:((i:Int)+(m:Int)*1).toNat=i+m:=by omega
  rw[this]
 rw[e];have:=pick_run xs i k;rw[List.filterMap_map] at this;have e2:((λx=>xs[x]?) ∘ λx=>i+x)=λm=>xs[i+m]?:=rfl;rw[e2] at this;rw[this]
theorem ac5 {t sl:Addr}{items:BC}{vl vu:Value}{lo hi:Option Int}{Q:ph}(ht:IsTup s.heap t items)(hs:s.heap.IsSliceOf sl vl vu .none)(pl:IsPart vl lo)(pu:IsPart vu hi)
 (hw:¬(c5 items.size 0 lo=0/\c5 items.size items.size hi=items.size))
 (h:Q (.ref s.heap.objs.size) {s with heap:=s.heap.push {cls:=.type "tuple",data:=.seq ((items.toList.drop (c5 items.size 0 lo)).take (c5 items.size items.size hi-c5 items.size 0 lo)).toArray} })
 (hsz:items.size<=sizeLine):wpAny (model prog w) A (getItem (.ref t) (.ref sl)) Q E s:=by
 have GQ:sizeOk (.seq ((items.toList.drop (c5 items.size 0 lo)).take (c5 items.size items.size hi-c5 items.size 0 lo)).toArray):=by
  show((items.toList.drop (c5 items.size 0 lo)).take (c5 items.size items.size hi-c5 items.size 0 lo)).toArray.size<=sizeLine;rw[Yj,Y8,u7,Yz];omega
 have hj:c5 items.size items.size hi<=items.size:=abH _ _ (Ye _) hi;obtain⟨os,IS,MW,IT⟩:=id hs;have NO:s.TypeIs (.ref sl) "slice":=⟨os,IS,MW⟩;unfold getItem
 try with_reducible refine YY ?_
 first|refine X9 (Yb ?_)|skip
 refine X9 (wpAny_sequenceKey ht.typeIs (by decide) ?_)
 refine X9 (YN (name:=Str.ofString "__getitem__") ht.typeIs Za
  (YJ Za ht.typeIs entry_tuple_getitem ?_ (args_tuple_getitem _ _)))
 show wpAny _ _ (Builtin.Tuple.tupleItemsOf (.ref t)>>=_) _ _ s;refine X9 (tupleItemsOf_ ht ?_);refine X9 (qJ NO ?_);rw[Yh (by decide)];refine X9 (e8 hs pl pu ?_)
 have IU:¬((((c5 items.size 0 lo:Nat):Int)==0&&(1:Int)==1&&(c5 items.size items.size hi-c5 items.size 0 lo)==items.size)=true):=by
  intro q;rw[Yy,Yy] at q;have q1:((c5 items.size 0 lo:Nat):Int)=0:=eq_of_beq q.1.1;have q2:c5 items.size items.size hi-c5 items.size 0 lo=items.size:=eq_of_beq q.2;exact hw ⟨by omega,by omega⟩
 show wpAny _ _ (if(((c5 items.size 0 lo:Nat):Int)==0&&(1:Int)==1&&(c5 items.size items.size hi-c5 items.size 0 lo)==items.size)=true then _ else _) _ _ s;rw[Yd IU,aci]
 first
  |exact X9 (m:=Builtin.Tuple.tupleExact _) (YB (Yb ⟨_,rfl,Yb h⟩) GQ)
  |exact X9 (m:=Builtin.Tuple.tupleExact _) (YB (X9 (Yb (Yb ⟨_,rfl,Yb h⟩))) GQ)
  |exact X9 (X9 (m:=Builtin.Tuple.tupleExact _) (YB (Yb (Yb ⟨_,rfl,Yb h⟩)) GQ))
  |exact X9 (X9 (m:=Builtin.Tuple.tupleExact _) (YB (Yb ⟨_,rfl,Yb h⟩) GQ))
end
end HT
namespace L2
open PySem PySem.Spec PyProof.Rows
noncomputable abbrev TO:=St->Hp->(Option Int->Hp->Prop)->Prop
noncomputable def PO (X:Cx)(e:Option Expr)(t:TO):Prop :=
 ∀(pins:List (Addr×Obj))(s:Ci)(σ:St)(H:Hp)(Q:Option Int->Hp->Prop),Inv X pins σ H s->t σ H Q →
  wpAny (model X.prog X.w) X.A (evalPart e X.env) (λu s'=>∃o H',Inv X pins σ H' s'/\IsPart u o/\Q o H') X.xe s
noncomputable def zo:TO:=λ_ H Q=>Q none H
noncomputable def Bb (t:TE):TO:=λσ H Q=>t σ H λx H1=>∃i,x=.int i/\Q (some i) H1
theorem jQ {ns:List Int}:∀{us:m8},aR (ns.map V.int) us->IntsAre us ns:=by
 induction ns with
 |nil=>intro us r;rw[List.map_nil] at r;cases r;exact .nil
 |cons n ns ih =>
  intro us r;rw[YF] at r
  cases r with
  |cons r1 r2 =>
   obtain⟨t,e⟩:=r1;subst e;exact .cons n t (ih r2)
variable {xs:List V}
section
variable {X:Cx}{e:Expr}{te:TE}{lo hi:Option Expr}{tl th:TO}{pos p2:Pos}
theorem nj:PO X none zo:=by
 intro pins s σ H Q I h;rw[evalPart_none];exact Yb ⟨none,H,I,.none,h⟩
theorem mX (h:PE X e te):PO X (some e) (Bb te):=by
 intro pins s σ H Q I hw;rw[evalPart_some];refine bU (h pins s σ H _ I hw) λu s1 z'=>?_;obtain⟨x,H1,I1,r1,q1⟩:=z';obtain⟨i,rfl,q⟩:=q1;obtain⟨t,rfl⟩:=r1;exact⟨some i,H1,I1,.int i t,q⟩
noncomputable def Ee (X:Cx)(r:V->Option Int->Option Int->Hp->VK->Prop):Prop :=
 ∀(pins:List (Addr×Obj))(s:Ci)(σ:St)(H:Hp)(x:V)(v vl vu:Value)(lo hi:Option Int)(sl:Addr)(Q:VK),Inv X pins σ H s->aG x v->s.heap.IsSliceOf sl vl vu .none->IsPart vl lo->IsPart vu hi->r x lo hi H Q →
  ∃T id,typeLookup (.type T) "__getitem__"=pure (some (.builtin id))/\s.TypeIs v T/\wpAny (model X.prog X.w) X.A (getItem v (.ref sl)) (EP X pins σ Q) X.xe s
noncomputable def EZ (r:V->Option Int->Option Int->Hp->VK->Prop)(te:TE)(tl th:TO):TE:=λσ H Q=>te σ H λx H1=>tl σ H1 λl H2=>th σ H2 λu H3=>r x l u H3 Q
theorem kI {r:V->Option Int->Option Int->Hp->VK->Prop}(hr:Ee X r)(he:PE X e te)(hl:PO X lo tl)(hu:PO X hi th):PE X (.Subscript e (.Slice lo hi none p2) pos) (EZ r te tl th):=by
 intro pins s σ H Q I h;refine Subscript_ (bU (he pins s σ H _ I h) λv s1 z'=>?_);obtain⟨x,H1,I1,r1,q1⟩:=z';refine wpAny_Slice (bU (hl pins s1 σ H1 _ I1 q1) λvl s2 ⟨l,H2,I2,pl,q2⟩=>bU (hu pins s2 σ H2 _ I2 q2) λvu s3 z'=>?_);obtain⟨u,H3,I3,pu,q3⟩:=z';rw[evalPart_none];refine Yb ?_;have I4:Inv X pins σ H3 {s3 with heap:=s3.heap.push {cls:=.type "slice",data:=.fields #[vl,vu,.none]} }:=I3.kept (t':=s3.toks) λb ob q=>Yc _ q;obtain⟨T,id,hT,ht,hg⟩:=hr pins {s3 with heap:=s3.heap.push {cls:=.type "slice",data:=.fields #[vl,vu,.none]} } σ H3 x v vl vu l u s3.heap.objs.size Q I4 r1 (Heap.IsSliceOf.new ..) pl pu q3;show wpAny (model X.prog X.w) X.A (subscriptTail e (.Slice lo hi none p2) v (.ref s3.heap.objs.size)) (EP X pins σ Q) X.xe {s3 with heap:=s3.heap.push {cls:=.type "slice",data:=.fields #[vl,vu,.none]} };exact tail_any (ops:=[.ref s3.heap.objs.size,v]) ht hT hg (by with_unfolding_all rfl)
noncomputable def ig (xs:List V)(lo hi:Option Int):List V:=(xs.drop (HT.c5 xs.length 0 lo)).take (HT.c5 xs.length xs.length hi-HT.c5 xs.length 0 lo)
theorem i9 (xs:List V)(lo hi:Option Int):(ig xs lo hi).length<=xs.length:=by
 unfold ig;rw[Y8,u7];omega
noncomputable def ac7 (K:PySem.W.Frag):V->Option Int->Option Int->Hp->VK->Prop:=λx lo hi H Q=>∃a xs,x=.ref a/\aV K H a xs /\
 ¬(HT.c5 xs.length 0 lo=0/\HT.c5 xs.length xs.length hi=xs.length)/\∀p,H p=none->Q (.ref p) (upd H p (.tup (ig xs lo hi)))
theorem aef:Ee X (ac7 X.K):=by
 intro pins s σ H x v vl vu lo hi sl Q I rx hs pl pu h;obtain⟨a,xs,rfl,hx,hw,q⟩:=h
 cases rx
 obtain⟨its,r,ht,hz⟩:=I.tuple hx
 have hlen:its.toArray.size=xs.length:=by rw[Yj];exact r.length.symm
 refine⟨"tuple",_,Za.lookup,ht.typeIs,?_⟩;refine HT.ac5 ht hs pl pu (by rw[hlen];exact hw) ?_ (by rw[hlen];exact hz);rw[hlen];refine⟨.ref s.heap.objs.size,_,I.laid (t':=s.toks) (o:=.tup (ig xs lo hi)) (λb ob q=>Yc _ q) (Ye _) ?_,rfl,q _ (I.hok.fresh (Ye _))⟩;exact⟨Yq (i9 xs lo hi) hz,_,(r.drop (HT.c5 xs.length 0 lo)).take (HT.c5 xs.length xs.length hi-HT.c5 xs.length 0 lo),IsTup.new _ _⟩
noncomputable def aeg (K:PySem.W.Frag):R2:=λx y H Q=>∃a b xs ys,x=.ref a/\y=.ref b/\aV K H a xs/\aV K H b ys/\xs≠[]/\xs.length+ys.length<=sizeLine /\
 (ys=[]->Q (.ref a) H)/\(ys≠[]->∀p,H p=none->Q (.ref p) (upd H p (.tup (xs++ys))))
theorem aR.ac3 {us:m8}(r:aR xs us):us=[]↔xs=[]:=by
 cases r with
 |nil=>simp
 |cons _ _=>simp
theorem sY:eA X (binaryOp .Add) (aeg X.K):=by
 intro pins s σ H x y v u Q I rx ry h;obtain⟨a,b,xs,ys,rfl,rfl,ha,hb,hx,hz,q1,q2⟩:=h
 cases rx
 cases ry
 obtain⟨its,r1,p1,_⟩:=I.tuple ha;obtain⟨Fx,r2,p2,_⟩:=I.tuple hb;refine HT.abz p1 p2 (λz=>hx (r1.ac3.mp z)) (λz=>⟨.ref a,H,I,rfl,q1 (r2.ac3.mp z)⟩) (λz=>?_) (by rw[<-r1.length,<-r2.length];exact hz);refine⟨.ref s.heap.objs.size,_,I.laid (t':=s.toks) (o:=.tup (xs++ys)) (λb ob q=>Yc _ q) (Ye _) ?_,rfl,q2 (λw=>z (r2.ac3.mpr w)) _ (I.hok.fresh (Ye _))⟩;exact⟨by rw[Yw];exact hz,_,r1.append r2,IsTup.new _ _⟩
end
noncomputable def xN (n:Nat)(i:Int):Option Nat:=if 0<=i then(if i<n then some i.toNat else none) else if -(n:Int)<=i then some (i+n).toNat else none
noncomputable def p9 {α:Type}(xs:List α)(i:Int):Option α:=(xN xs.length i).bind λj=>xs[j]?
variable {n:Nat}
theorem sV {i:Int}{j:Nat}(h:xN n i=some j):seqIndex? i n=some j/\j<n/\-(n:Int)<=i/\i<n:=by
 unfold xN at h
 by_cases h0:0<=i
 ·rw[Yh h0] at h
  by_cases h1:i<n
  ·rw[Yh h1] at h;have e:i.toNat=j:=Option.some.inj h;exact⟨by rw[seqIndex_of h0 h1,e],by omega,by omega,h1⟩
  ·rw[Yd h1] at h;cases h
 ·rw[Yd h0] at h
  by_cases h1:-(n:Int)<=i
  ·rw[Yh h1] at h;have e:(i+n).toNat=j:=Option.some.inj h;exact⟨by rw[seqIndex_neg (by omega) h1,e],by omega,h1,by omega⟩
  ·rw[Yd h1] at h;cases h
theorem tP {α:Type}{xs:List α}{i:Int}{v:α}(h:p9 xs i=some v):∃j,seqIndex? i xs.length=some j/\xs[j]?=some v/\j<xs.length/\-(xs.length:Int)<=i/\i<xs.length:=by
 unfold p9 at h
 cases e:xN xs.length i with
 |none=>rw[e] at h;cases h
 |some j =>
  rw[e] at h;obtain⟨h1,h2,h3,h4⟩:=sV e;exact⟨j,h1,h,h2,h3,h4⟩
theorem sO {α:Type}{xs:List α}{j:Nat}{v:α}(h:xs[j]?=some v):p9 xs (j:Int)=some v:=by
 have hj:j<xs.length:=(YO.mp h).1
 have e:xN xs.length (j:Int)=some j:=by
  unfold xN;rw[Yh (by omega),Yh (by omega)];simp
 unfold p9;rw[e];exact h
noncomputable def aeh (b:Expr):Prop:=∀o i,subscripted b false o i=operate [o,i] (getItem o i)
noncomputable def AZ (X:Cx)(r:R2):Prop :=
 ∀(value slice:Expr)(pins:List (Addr×Obj))(s:Ci)(σ:St)(H:Hp)(x y:V)(v u:Value)(Q:VK),Inv X pins σ H s->aG x v->aG y u->r x y H Q →
  subscripted slice false v u=operate [v,u] (getItem v u)->wpAny (model X.prog X.w) X.A (subscriptTail value slice v u) (EP X pins σ Q) X.xe s
noncomputable def E4 (X:Cx)(id:String)(r:V->List V->Hp->VK->Prop):Prop :=
 ∀(pins:List (Addr×Obj))(s:Ci)(σ:St)(H:Hp)(x:V)(xs:List V)(v:Value)(us:m8)(Q:VK),Inv X pins σ H s->aG x v->aR xs us->r x xs H Q →
  wpAny (model X.prog X.w) X.A (call (.builtin id) (v::us)) (EP X pins σ Q) X.xe s
variable {pins:List (Addr×Obj)}{σ:St}{H:Hp}{s:Ci}{its:m8}{x:V}
section
variable {X:Cx}{a b:Expr}{ta tb:TE}{pos:Pos}
theorem aY {r:R2}(hr:AZ X r)(ha:PE X a ta)(hb:PE X b tb)(hs:aeh b):PE X (.Subscript a b pos) (kn r ta tb):=by
 intro pins s σ H Q I h;exact Subscript_ (CA ha hb I h λv u s2 x y H2 I2 rx ry q=>hr a b pins s2 σ H2 x y v u Q I2 rx ry q (hs _ _))
noncomputable def xR (K:PySem.W.Frag):R2:=λx y H Q=>∃p xs i v,x=.ref p/\y=.int i/\bo K H p xs/\p9 xs i=some v/\Q v H
noncomputable def yj (K:PySem.W.Frag):R2:=λx y H Q=>∃p xs i v,x=.ref p/\y=.int i/\aV K H p xs/\p9 xs i=some v/\Q v H
theorem cB:AZ X (xR X.K):=by
 intro value slice pins s σ H x y v u Q I rx ry h hs;obtain⟨p,xs,i,z,rfl,rfl,hq,he,q⟩:=h
 cases rx
 obtain⟨t,rfl⟩:=ry;obtain⟨its,r,pl,hz⟩:=I.list hq;obtain⟨j,h1,h2,h3,h4,h5⟩:=tP he;obtain⟨w,ew,Gb⟩:=r.get h2;have hl:=r.length;have hn:=jN;have fin:EP X pins σ Q w s:=⟨z,H,I,Gb,q⟩
 by_cases h0:0<=i
 ·have hj:i.toNat=j:=by
   rw[seqIndex_of h0 h5] at h1;exact Option.some.inj h1
  exact item_listR pl.isList h0 (by omega) (by rw[hj];simpa using ew) fin hs
 ·have hj:(i+(its.toArray.size:Int)).toNat=j:=by
   rw[seqIndex_neg (by omega) h4] at h1;rw[Yj,<-hl];exact Option.some.inj h1
  exact subscriptTail_builtinR (x:=w) pl.isList.typeIs slot_list_getitem.lookup
   (wpAny_getItem_list_neg (Q:=λr s'=>r=w/\EP X pins σ Q r s') pl.isList (by omega) (by rw[Yj] <;> omega) (by omega) (by rw[hj];simpa using ew) ⟨rfl,fin⟩) hs
theorem bH:AZ X (yj X.K):=by
 intro value slice pins s σ H x y v u Q I rx ry h hs;obtain⟨p,xs,i,z,rfl,rfl,hq,he,q⟩:=h
 cases rx
 obtain⟨t,rfl⟩:=ry;obtain⟨its,r,pl,hz⟩:=I.tuple hq;obtain⟨j,h1,h2,h3,h4,h5⟩:=tP he;obtain⟨w,ew,Gb⟩:=r.get h2;have hl:=r.length;have hn:=jN;have fin:EP X pins σ Q w s:=⟨z,H,I,Gb,q⟩
 exact subscriptTail_builtinR (x:=w) pl.typeIs slot_tuple_getitem.lookup
  (getItem_tuple (j:=j) (Q:=λr s'=>r=w/\EP X pins σ Q r s') pl (by omega) (by omega) (by rw[Yj,<-hl];exact h1) (by simpa using ew) ⟨rfl,fin⟩) hs
theorem aaa (its:m8)(n j:Nat)(u:Value):Obj.mapSeq (·.setIfInBounds j u) {cls:=.type "list",data:=.seq its.toArray n}={cls:=.type "list",data:=.seq (its.set j u).toArray n}:=by
 simp[Obj.mapSeq]
theorem Inv.lst {p:Addr}(I:Inv X pins σ H s)(h:H p=some (.lst xs)):
 ∃(its:m8)(n:Nat),aR xs its/\s.heap.get? p=some {cls:=.type "list",data:=.seq its.toArray n}/\xs.length<=sizeLine:=by
 obtain⟨z,its,n,r,e⟩:=I.hok p _ h;exact⟨its,n,r,e,z⟩
theorem Inv.aet {p:Addr}{ys:List V}{its':m8}{n':Nat}{f:Obj->Obj}(I:Inv X pins σ H s)(h:H p=some (.lst xs))
 (ho:s.heap.get? p=some {cls:=.type "list",data:=.seq its.toArray n})(hf:f {cls:=.type "list",data:=.seq its.toArray n}={cls:=.type "list",data:=.seq its'.toArray n'})(r:aR ys its')(hz:ys.length<=sizeLine)(t:Nat):
 Inv X pins σ (upd H p (.lst ys)) {s with heap:=s.heap.update p f,toks:=t}:=by
 have e:(s.heap.update p f).get? p=some {cls:=.type "list",data:=.seq its'.toArray n'}:=by
  rw[Y3 f ho (by rw[hf] <;> rfl),hf]
 refine I.write (x:=p) (e:=p) (by rw[h];trivial) (.inl rfl) (λb u hb q=>(YL _ _ (YM hb)).trans q) ⟨_,e⟩ ?_;exact⟨hz,its',n',r,e⟩
noncomputable def ae7:V->V->V->Hp->(Hp->Prop)->Prop:=λo i v H Q=>∃p xs k j,o=.ref p/\i=.int k/\H p=some (.lst xs)/\xN xs.length k=some j/\Q (upd H p (.lst (xs.set j v)))
theorem kg:Dz X ae7:=by
 intro pins s σ H o i v ov iv u Q I ro ri rv h;obtain⟨p,xs,k,j,rfl,rfl,hp,hj,q⟩:=h
 cases ro
 obtain⟨t,rfl⟩:=ri;obtain⟨its,n,r,ho,hz⟩:=I.lst hp;obtain⟨h1,h2,h3,h4⟩:=sV hj;have hl:=r.length;have hn:=jN
 have I':Inv X pins σ (upd H p (.lst (xs.set j v))) {s with heap:=s.heap.update p (Obj.mapSeq (·.setIfInBounds j u))}:=
  I.aet hp ho (aaa its n j u) (r.set rv j) (by rw[List.length_set];exact hz) s.toks
 by_cases h0:0<=k
 ·have hk:k.toNat=j:=by
   rw[seqIndex_of h0 h4] at h1;exact Option.some.inj h1
  exact PySem.W.ki_setAt ho h0 (by omega) (by rw[Yj,<-hl];exact h4) (by rw[hk];exact⟨_,I',q⟩)
 ·have hk:(k+(its.toArray.size:Int)).toNat=j:=by
   rw[seqIndex_neg (by omega) h3] at h1;rw[Yj,<-hl];exact Option.some.inj h1
  exact PySem.W.ki_setBack ho (by omega) (by rw[Yj,<-hl];exact h3) (by omega) (by rw[hk];exact⟨_,I',q⟩)
theorem aag (lo hi:Option Int)(n:Nat):(sliceBounds lo hi none n).1=((HT.c5 n 0 lo:Nat):Int)/\(sliceBounds lo hi none n).2.1=((HT.c5 n n hi:Nat):Int)/\(sliceBounds lo hi none n).2.2=1:=by
 refine⟨?_,?_,rfl⟩
 ·cases lo with
  |none=>simp[sliceBounds,HT.c5]
  |some i =>
   simp only[sliceBounds,HT.c5,Option.getD_none,show(1:Int)>0 by decide,ZR]
   by_cases h:i<0
   ·simp only[h,ZR] <;> omega
   ·simp only[h,Zv] <;> omega
 ·cases hi with
  |none=>simp[sliceBounds,HT.c5]
  |some i =>
   simp only[sliceBounds,HT.c5,Option.getD_none,show(1:Int)>0 by decide,ZR]
   by_cases h:i<0
   ·simp only[h,ZR] <;> omega
   ·simp only[h,Zv] <;> omega
theorem aah (its:m8)(lo hi:Option Int):slicePick its.toArray lo hi none=((its.drop (HT.c5 its.length 0 lo)).take (HT.c5 its.length its.length hi-HT.c5 its.length 0 lo)).toArray:=by
 obtain⟨h1,h2,h3⟩:=aag lo hi its.toArray.size;unfold slicePick;rw[h1,h2,h3];simp only[sliceRange_one,pick_run,Yj] <;> rfl
noncomputable def DA (K:PySem.W.Frag):V->Option Int->Option Int->Hp->VK->Prop:=λx lo hi H Q=>∃a xs,x=.ref a/\bo K H a xs/\∀p,H p=none->Q (.ref p) (upd H p (.lst (ig xs lo hi)))
theorem sJ:Ee X (DA X.K):=by
 intro pins s σ H x v vl vu lo hi sl Q I rx hs pl pu h;obtain⟨a,xs,rfl,hx,q⟩:=h
 cases rx
 obtain⟨its,r,ht,hz⟩:=I.list hx;have hlen:=r.length;refine⟨"list",_,slot_list_getitem.lookup,ht.isList.typeIs,?_⟩;refine wpAny_getItem_list_slice ht.isList hs pl pu .none (by simp) ?_ (by rw[Yj] <;> omega);rw[aah,<-hlen];refine⟨.ref s.heap.objs.size,_,I.laid (t':=s.toks) (o:=.lst (ig xs lo hi)) (λb ob q=>Yc _ q) (Ye _) ?_,rfl,q _ (I.hok.fresh (Ye _))⟩;exact⟨Yq (i9 xs lo hi) hz,_,0,(r.drop (HT.c5 xs.length 0 lo)).take (HT.c5 xs.length xs.length hi-HT.c5 xs.length 0 lo),Yk _ rfl⟩
noncomputable def hV:V->Bool
 | .non=>true
 | .bl _=>true
 | .int _=>true
 | .str _=>true
 |_=>false
noncomputable def A8:V->V->Bool
 | .non,.non=>true
 | .bl a,.bl b=>a==b
 | .bl a,.int b=>(if a then 1 else 0)==b
 | .int a,.bl b=>a==(if b then 1 else 0)
 | .int a,.int b=>a==b
 | .str a,.str b=>a==b
 |_,_=>false
theorem aai {A:Around}{y:V}{u v:Value}(ry:aG y u)(rx:aG x v)(fy:hV y=true)(fx:hV x=true):SeqAt.EqAt A s u v (A8 y x):=by
 cases y with
 |non =>
  cases ry
  cases x with
  |non=>cases rx;exact SeqAt.EqAt.same _
  |bl b=>cases rx;exact SeqAt.EqAt.none_bool b
  |int b=>obtain⟨t,rfl⟩:=rx;exact SeqAt.EqAt.none_int b t
  |str b=>obtain⟨t,rfl⟩:=rx;exact SeqAt.EqAt.none_str b t
  |_=>exact absurd (show false=true from fx) Yp
 |bl a =>
  cases ry
  cases x with
  |non=>cases rx;exact SeqAt.EqAt.bool_none a
  |bl b=>cases rx;exact SeqAt.EqAt.bool_bool a b
  |int b=>obtain⟨t,rfl⟩:=rx;exact SeqAt.EqAt.bool_int a b t
  |str b=>obtain⟨t,rfl⟩:=rx;exact SeqAt.EqAt.bool_str a b t
  |_=>exact absurd (show false=true from fx) Yp
 |int a =>
  obtain⟨t',rfl⟩:=ry
  cases x with
  |non=>cases rx;exact SeqAt.EqAt.int_none a t'
  |bl b=>cases rx;exact SeqAt.EqAt.int_bool a t' b
  |int b=>obtain⟨t,rfl⟩:=rx;exact yP a t' b t
  |str b=>obtain⟨t,rfl⟩:=rx;exact SeqAt.EqAt.int_str a t' b t
  |_=>exact absurd (show false=true from fx) Yp
 |str a =>
  obtain⟨t',rfl⟩:=ry
  cases x with
  |non=>cases rx;exact SeqAt.EqAt.str_none a t'
  |bl b=>cases rx;exact SeqAt.EqAt.str_bool a t' b
  |int b=>obtain⟨t,rfl⟩:=rx;exact SeqAt.EqAt.str_int a t' b t
  |str b=>obtain⟨t,rfl⟩:=rx;exact SeqAt.EqAt.str_str a t' b t
  |_=>exact absurd (show false=true from fx) Yp
 |_=>exact absurd (show false=true from fy) Yp
noncomputable def qf (x:V)(u:Value):Bool:=match u with
 | .none=>A8 .non x
 | .bool b=>A8 (.bl b) x
 | .int i _=>A8 (.int i) x
 | .str z _=>A8 (.str z) x
 |_=>false
theorem xF {y:V}{u:Value}(r:aG y u)(f:hV y=true):qf x u=A8 y x:=by
 cases y with
 |non=>cases r;rfl
 |bl b=>cases r;rfl
 |int i=>obtain⟨t,rfl⟩:=r;rfl
 |str z=>obtain⟨t,rfl⟩:=r;rfl
 |_=>exact absurd (show false=true from f) Yp
theorem ib :∀{xs:List V}{us:m8},aR xs us->xs.all hV=true->us.any (qf x)=xs.any λy=>A8 y x
 |_,_,.nil,_=>rfl
 |y::xs,u::us,.cons r t,f=>by
  rw[Z3,Yy] at f;rw[yn,yn,xF r f.1,ib t f.2]
theorem gc {A:Around}{v:Value}(rx:aG x v)(fx:hV x=true):∀{xs:List V}{us:m8},aR xs us->xs.all hV=true->∀u∈us,SeqAt.EqAt A s u v (qf x u)
 |_,_,.nil,_=>λu hu=>by cases hu
 |y::xs,u::us,.cons r t,f=>λu' hu=>by
  rw[Z3,Yy] at f
  rcases Yn.mp hu with rfl|hu
  ·rw[xF r f.1];exact aai r rx f.1 fx
  ·exact gc rx fx t f.2 u' hu
noncomputable def fQ (x:V)(xs:List V):Bool:=xs.any λy=>A8 y x
noncomputable def yG (K:PySem.W.Frag)(neg:Bool):R2:=λx y H Q=>∃p xs,y=.ref p/\(bo K H p xs\/aV K H p xs)/\hV x=true/\xs.all hV=true/\Q (.bl (if neg then !fQ x xs else fQ x xs)) H
theorem gq:eA X (compareOp .In) (yG X.K false):=by
 intro pins s σ H x y v u Q I rx ry h;obtain⟨p,xs,rfl,hq,fx,fs,q⟩:=h
 cases ry
 rcases hq with hq|hq
 ·obtain⟨its,r,pl,hz⟩:=I.list hq;refine SeqAt.in_listAt (qf x) pl.isList (λw hw=>gc rx fx r fs w (by simpa using hw)) ⟨.bl _,H,I,rfl,?_⟩;rw[show its.toArray.any (qf x)=its.any (qf x) by simp,ib r fs];exact q
 ·obtain⟨its,r,pl,hz⟩:=I.tuple hq;refine SeqAt.in_tupleAt (qf x) pl (λw hw=>gc rx fx r fs w (by simpa using hw)) ⟨.bl _,H,I,rfl,?_⟩;rw[show its.toArray.any (qf x)=its.any (qf x) by simp,ib r fs];exact q
theorem dF:eA X (compareOp .NotIn) (yG X.K true):=by
 intro pins s σ H x y v u Q I rx ry h;obtain⟨p,xs,rfl,hq,fx,fs,q⟩:=h
 cases ry
 rcases hq with hq|hq
 ·obtain⟨its,r,pl,hz⟩:=I.list hq;refine SeqAt.notIn_listAt (qf x) pl.isList (λw hw=>gc rx fx r fs w (by simpa using hw)) ⟨.bl _,H,I,rfl,?_⟩;rw[show its.toArray.any (qf x)=its.any (qf x) by simp,ib r fs];exact q
 ·obtain⟨its,r,pl,hz⟩:=I.tuple hq;refine SeqAt.notIn_tupleAt (qf x) pl (λw hw=>gc rx fx r fs w (by simpa using hw)) ⟨.bl _,H,I,rfl,?_⟩;rw[show its.toArray.any (qf x)=its.any (qf x) by simp,ib r fs];exact q
theorem bJ:cT X (.builtin "len") (λxs H Q=>∃p ys,xs=[.ref p]/\(bo X.K H p ys\/aV X.K H p ys)/\Q (.int ys.length) H):=by
 intro pins s σ H xs us Q I r h;obtain⟨p,ys,rfl,hq,q⟩:=h;obtain⟨u,rfl,rx⟩:=dj r
 cases rx
 have hn:=jN
 rcases hq with hq|hq
 ·obtain⟨its,r',pl,hz⟩:=I.list hq;have hlen:=r'.length;exact Calls.call_len_list pl.isList (by simp only[Yj] <;> omega) ⟨.int ys.length,H,I.tok _,⟨s.toks+1,by rw[Yj,hlen]⟩,q⟩
 ·obtain⟨its,r',pl,hz⟩:=I.tuple hq;have hlen:=r'.length;exact len_tuple pl (by simp only[Yj] <;> omega) ⟨.int ys.length,H,I.tok _,⟨s.toks+1,by rw[Yj,hlen]⟩,q⟩
theorem dG:cT X (.type "list") (λxs H Q=>∃p ys,xs=[.ref p]/\(bo X.K H p ys\/aV X.K H p ys)/\∀l,H l=none->Q (.ref l) (upd H l (.lst ys))):=by
 intro pins s σ H xs us Q I r h;obtain⟨p,ys,rfl,hq,q⟩:=h;obtain⟨u,rfl,rx⟩:=dj r
 cases rx
 have fin:∀(its:m8),aR ys its->ys.length<=sizeLine->∀(h':Heap)(c':Nat),(∀b o',s.heap.get? b=some o'->h'.get? b=some o') →
  h'.get? s.heap.objs.size=some {cls:=.type "list",dict:=none,data:=.seq its.toArray c',slots:=#[]}->EP X pins σ Q (.ref s.heap.objs.size) {s with heap:=h'}:=λits r' hz h' c' kp e =>
  ⟨.ref s.heap.objs.size,_,I.laid (t':=s.toks) kp (Ye _) (show bE X.prog X.w _ h' _ (.lst ys) from⟨hz,its,c',r',e⟩),rfl,q _ (I.hok.fresh (Ye _))⟩
 rcases hq with hq|hq
 ·obtain⟨its,r',pl,hz⟩:=I.list hq;have hlen:=r'.length;obtain⟨o,ho,hc,n,hd⟩:=pl.isList;exact call_list_seq p (.inl rfl) ho hc hd (λh' c' kp e=>fin its r' hz h' c' kp e) (by simp only[Yj] <;> omega)
 ·obtain⟨its,r',pl,hz⟩:=I.tuple hq;have hlen:=r'.length;obtain⟨o,ho,hc,n,hd⟩:=pl;exact call_list_seq p (.inr rfl) ho hc hd (λh' c' kp e=>fin its r' hz h' c' kp e) (by simp only[Yj] <;> omega)
theorem di:cT X (.type "tuple") (λxs H Q=>∃p ys,xs=[.ref p]/\((bo X.K H p ys/\∀l,H l=none->Q (.ref l) (upd H l (.tup ys)))\/(aV X.K H p ys/\Q (.ref p) H))):=by
 intro pins s σ H xs us Q I r h;obtain⟨p,ys,rfl,h⟩:=h;obtain⟨u,rfl,rx⟩:=dj r
 cases rx
 rcases h with⟨hq,q⟩|⟨hq,q⟩
 ·obtain⟨its,r',pl,hz⟩:=I.list hq;have hlen:=r'.length;refine call_tuple_list pl.isList (λh' kp=>?_) (by simp only[Yj] <;> omega);have I1:Inv X pins σ H {s with heap:=h'}:=I.kept (t':=s.toks) kp
  have I2:Inv X pins σ (upd H h'.objs.size (.tup ys)) {s with heap:=h'.push {cls:=.type "tuple",data:=.seq its.toArray} }:=
   I1.laid (t':=s.toks) (λb o e=>Yc _ e) (Ye _) (show bE X.prog X.w _ _ _ (.tup ys) from⟨hz,its,r',IsTup.new _ _⟩)
  exact⟨.ref h'.objs.size,_,I2,rfl,q _ (I1.hok.fresh (Ye _))⟩
 ·obtain⟨its,r',pl,hz⟩:=I.tuple hq;exact call_tuple_same pl ⟨.ref p,H,I,rfl,q⟩
noncomputable def Fc (K:PySem.W.Frag)(T:String)(x:V)(H:Hp):Prop:=match x with
 | .str _=>T="str"
 | .int _=>T="int"
 | .ref p=>(T="list"/\∃xs,bo K H p xs)\/(T="tuple"/\∃o,K.lookup p=some o/\o.cls=.type "tuple"/\o.dict=none) \/
  (T="dict"/\((∃Ft,H p=some (.dK Ft))\/∃Ft,H p=some (.dT Ft)))\/(T="set"/\∃S n,H p=some (.set S n))
 |_=>False
theorem aam {T:String}{v:Value}(I:Inv X pins σ H s)(r:aG x v)(ty:Fc X.K T x H):
 s.TypeIs v T/\∀a,v=.ref a->∃ob,s.heap.get? a=some ob/\ob.dict=none:=by
 cases x with
 |str z =>
  obtain⟨t,rfl⟩:=r
  cases(show T="str" from ty)
  exact⟨typeIs_str s z t,λ_ e=>nomatch e⟩
 |int i =>
  obtain⟨t,rfl⟩:=r
  cases(show T="int" from ty)
  exact⟨typeIs_int s i t,λ_ e=>nomatch e⟩
 |ref p =>
  cases r
  rcases ty with⟨rfl,xs,hq⟩|⟨rfl,o,hk,hc,hd⟩|⟨rfl,hk⟩|⟨rfl,S,n,hk⟩
  ·obtain⟨its,_,pl,_⟩:=I.list hq;refine⟨pl.isList.typeIs,λa e=>?_⟩
   cases e
   obtain⟨o,n,e,c,hd,_⟩:=pl;exact⟨o,e,hd⟩
  ·refine⟨⟨o,I.kIn p o hk,hc⟩,λa e=>?_⟩
   cases e
   exact⟨o,I.kIn _ o hk,hd⟩
  ·have z:∃o,s.heap.get? p=some o/\o.ExactDict:=by
    rcases hk with⟨Ft,hk⟩|⟨Ft,hk⟩
    ·obtain⟨_,_,_,_,o,_,_,e,ex,_⟩:=I.hok p _ hk;exact⟨o,e,ex⟩
    ·obtain⟨_,_,_,_,o,_,_,e,ex,_⟩:=I.hok p _ hk;exact⟨o,e,ex⟩
   obtain⟨o,e,ex⟩:=z;refine⟨⟨o,e,ex.1⟩,λa e2=>?_⟩
   cases e2
   exact⟨o,e,ex.2.1⟩
  ·obtain⟨o,_,_,_,e,ex,_⟩:=I.hok p _ hk;refine⟨⟨o,e,ex.1⟩,λa e2=>?_⟩
   cases e2
   exact⟨o,e,ex.2.1⟩
 |_=>exact False.elim ty
noncomputable def aar (K:PySem.W.Frag)(T:String)(r:V->List V->Hp->VK->Prop)(to:TE)(t:TA):TE:=λσ H Q=>to σ H λx H1=>Fc K T x H1/\t σ H1 λxs H2=>r x xs H2 Q
variable {o e:Expr}{es:yD}{to:TE}{t:TA}{name:Str}{apos FF:Pos}{T id:String}{r:V->List V->Hp->VK->Prop}
theorem aas (pa:PlainAttrs T)(slot:Slot T name id)(SO:typeOf (.builtin id)=pure (.type "method_descriptor"))(hm:E4 X id r)(ho:PE X o to)(ha:PA X (e::es) t)
 (G7:attributeBase o name X.env (eval o X.env)=eval o X.env:=by rfl)
 (NP:((backTo FF (starEach (e::es) X.env)).all (λx=>!x.1)&&(backToKw FF (keywordEach [] X.env)).all (λx=>x.1.isSome)
  && decide ((e::es).length+([]:List Keyword).length+(if([]:List Keyword).isEmpty then 0 else 1)<30))=true:=by rfl)
 (G8:(apos.endLine==FF.line)=true:=by rfl)(hs:starEach (e::es) X.env=(false,eval e X.env):: starEach es X.env:=by rfl)(IV:(backTo FF (starEach es X.env)).any (·.1)=false:=by rfl):
 PE X (.Call (.Attribute o name apos) (e::es) [] FF) (aar X.K T r to t):=by
 intro pins s σ H Q I h;refine wpAny_Call_method_late G7 NP G8 rfl (bU (ho pins s σ H _ I h) λv s1 z'=>?_);obtain⟨x,H1,I1,r1,ty,q1⟩:=z';obtain⟨h1,h2⟩:=aam I1 r1 ty;refine⟨T,id,pa,slot,SO,h1,h2,?_⟩;have hA:=ha FF pins s1 σ H1 _ I1 q1;rw[hs] at hA |-;refine zT (by show(false || (backTo FF (starEach es X.env)).any (·.1))=false;rw[IV] <;> rfl) (vd ?_);exact bU hA λus s2 ⟨vs,H2,I2,r2,q2⟩=>hm pins s2 σ H2 x vs v us Q I2 r1 r2 q2
/- xs.append(e),list.index on a J6 tuple .. are E4 facts of 06m -/
end
noncomputable def aax (X:Cx)(id:String)(r:V->List V->Hp->VK->Prop):Prop :=
 ∀(pins:List (Addr×Obj))(s:Ci)(σ:St)(H:Hp)(x:V)(xs:List V)(v:Value)(us:m8)(Q:VK),Inv X pins σ H s->aG x v->aR xs us->r x xs H Q →
  wpAny (model X.prog X.w) X.A (call (.builtin id) (v::us)) (EP X pins σ Q) X.xe s
theorem aR.one:∀{x:V}{us:m8},aR [x] us->∃u,us=[u]/\aG x u
 |_,_,.cons r .nil=>⟨_,rfl,r⟩
section
variable {X:Cx}{pins:List (Addr×Obj)}{σ:St}{H:Hp}{s:Ci}{l b:Addr}{xs ys zs:List V}
theorem Inv.agF {its':m8}{f:Array Value->Array Value}{t':Nat}(I:Inv X pins σ H s)(hH:H l=some (.lst xs))
 (e:s.heap.get? l=some {cls:=.type "list",data:=.seq its.toArray n})(hf:f its.toArray=its'.toArray)(hv:aR ys its')(hz:ys.length<=sizeLine):
 Inv X pins σ (upd H l (.lst ys)) {s with heap:=s.heap.update l (Obj.mapSeq f),toks:=t'}:=by
 have q:=PySem.IsL.update e f;rw[hf] at q;refine I.write (x:=l) (e:=l) (by rw[hH];exact trivial) (.inl rfl) (λb' u hb hu=>(YL s.heap (Obj.mapSeq f) (YM hb)).trans hu) ⟨_,q⟩ ?_;exact⟨hz,its',_,hv,q⟩
theorem Inv.agG {t':Nat}(I:Inv X pins σ H s)(hv:aR ys its)(hz:ys.length<=sizeLine):
 Inv X pins σ (upd H s.heap.objs.size (.lst ys)) {s with heap:=s.heap.push {cls:=.type "list",data:=.seq its.toArray},toks:=t'}:=
 I.laid (λ_ _ q=>Yc _ q) (Ye _) ⟨hz,its,0,hv,Yk _ rfl⟩
theorem Inv.fresh (I:Inv X pins σ H s):H s.heap.objs.size=none:=I.hok.fresh (Ye _)
theorem Inv.aeu (I:Inv X pins σ H s)(hH:H l=some (.lst xs)):xs.length<=sizeLine/\∃(its:m8)(n:Nat),aR xs its/\xs.length=its.length/\s.heap.get? l=some {cls:=.type "list",data:=.seq its.toArray n}:=by
 obtain⟨z,its,n,r,e⟩:=I.hok l _ hH;exact⟨z,its,n,r,r.length,e⟩
end
section
variable {X:Cx}
noncomputable def ad2:V->List V->Hp->VK->Prop:=λx vs H Q=>∃l xs y,x=.ref l/\vs=[y]/\H l=some (.lst xs)/\xs.length<sizeLine/\Q .non (upd H l (.lst (xs++[y])))
theorem aaE:aax X "list.append" ad2:=by
 intro pins s σ H x vs v us Q I rx rv h;obtain⟨l,xs,y,rfl,rfl,hH,hz,q⟩:=h
 cases rx
 obtain⟨u,rfl,ru⟩:=rv.one;obtain⟨z,its,n,r,hl,e⟩:=I.aeu hH;refine call_meets F.slot_list_append ⟨_,e,rfl⟩ F.entry_list_append (F.args_list_append_2 _ _) (PySem.list_append l its.toArray n u (by rw[Yj];omega)) ⟨e,?_⟩;refine⟨.non,_,I.agF (its':=its++[u]) hH e (by simp) (r.append (.cons ru .nil)) ?_,rfl,q⟩;rw[Yw,List.length_singleton];omega
noncomputable def agH:R2:=λx y H Q=>∃l b xs zs,x=.ref l/\y=.ref b/\H l=some (.lst xs)/\H b=some (.lst zs)/\xs.length+zs.length<=sizeLine/\∀p,H p=none->Q (.ref p) (upd H p (.lst (xs++zs)))
theorem aaF:eA X (binaryOp .Add) agH:=by
 intro pins s σ H x y v u Q I rx ry h;obtain⟨l,b,xs,zs,rfl,rfl,hH,hB,hz,q⟩:=h
 cases rx
 cases ry
 obtain⟨z,its,n,r,hl,e⟩:=I.aeu hH;obtain⟨z2,Fx,n2,r2,GV,e2⟩:=I.aeu hB;refine PySem.P.add_list e e2 ?_ (by rw[Yj,Yj];omega)
 have ea:its.toArray++Fx.toArray=(its++Fx).toArray:=by simp
 rw[ea];exact⟨.ref _,_,I.agG (t':=s.toks) (r.append r2) (by rw[Yw];omega),rfl,q _ I.fresh⟩
end
end L2
namespace QP
open PySem PySem.W PySem.Calls PyProof.Rows
theorem aaG {P:Params}{h:Heap}:∀(ns:List Int)(vs:m8),WellAll P h vs (ns.map WData.int)->IntsAre vs ns:=by
 intro ns
 induction ns with
 |nil =>
  intro vs w;rw[List.map_nil] at w
  cases w
  exact .nil
 |cons n ns ih =>
  intro vs w;rw[YF] at w
  cases w with
  |cons a b =>
   cases a
   exact .cons _ _ (ih _ b)
theorem aaM {l:OpenLaw}{n:Nat}(hn:l.most=some n){P:Params}{h:Heap}{args:List WData}{vals:m8}
 (HV:l.row.toRowW.claim.pre args=true)(NQ:WellAll P h vals args):
 ∃a vs ns,vals=[Value.ref a]/\args=[WData.list (ns.map WData.int)]/\h.get? a=some {cls:=.type "list",data:=.seq vs.toArray}/\IntsAre vs ns/\ns.length<=n:=by
 have SQ:WShape.hasAll [] args [.list .int]=true:=(pre_splitW HV).1;have hc:l.pre.holds [] {args:=args}=true:=(pre_splitW HV).2;obtain⟨d,r,rfl,h1,h2⟩:=hasAllW_cons SQ;obtain rfl:=hasAllW_nil h2;obtain⟨xs,rfl,h3⟩:=hasW_list h1;obtain⟨ns,rfl⟩:=items_int h3
 have hlen:ns.length<=n:=by
  unfold OpenLaw.pre at hc
  have h4:(WTm.not (.lt (.lit (.int (n:Int))) (.len (.arg 0)))).holds [] {args:=[.list (ns.map .int)]}=true:=by
   have h4:=(holds_andW hc).1;rw[hn] at h4;exact h4
  have h5:=condW_of h4 (w_not (w_lt w_lit (w_len_list (w_arg rfl))));rw[Yg] at h5;refine Nat.le_of_not_lt λq=>?_
  have q':(n:Int)<((ns.length:Nat):Int):=by omega
  first
   |(rw[YD q'] at h5;exact absurd h5 (by decide))
   |(simp at h5;omega)
 cases NQ with
 |cons w1 w2 =>
  cases w2
  cases w1 with
  |list ho NR=>exact⟨_,_,ns,rfl,rfl,ho,aaG ns _ NR,hlen⟩
theorem aaN (l:OpenLaw)(args:List WData):l.row.toRowW.claim.post args (.bool true) args=true :=
 postW_of (r:=l.row.toRowW) (X:=(true==true))
  (show WShape.has [] (.bool true) .bool=true by first|rfl|decide|simp[WShape.has,WShape.arms,WShape.armsAll])
  (show(WTm.eq .res (.lit (.bool true))).value [] {args:=args,res:=some (.bool true),after:=args}=some (.bool (true==true)) from w_eq_bool (w_res rfl) w_lit) rfl
theorem aaP {l:OpenLaw}{n:Nat}{q:wu}{loose:EG}{XP:(Str->Option Value)->Heap->Prop}{YP:World->Heap->Prop}{d:DefRec}
 (hn:l.most=some n)(J7:d.params.defaults=[])
 (call:∀(w:World)(s₀ s₁:Ci)(mg mb:vx)(fa:Addr)(o:Obj)(pm cd doc:Value)(a:Addr)(vs:m8)(ns:List Int),
  Ground q loose [] XP w s₀ mg mb s₁.heap->YP w s₁.heap →
  s₁.heap.get? fa=some o->o.data=.func (docDef d.name d.params d.body d.scope pm cd doc)->s₁.heap.CodeRec cd d.name->mg d.name=some (.ref fa) →
  s₁.heap.get? a=some {cls:=.type "list",data:=.seq vs.toArray}->IntsAre vs ns->ns.length<=n->s₁.gens = #[] →
  codeAny (model l.prog w) callerA (.call (.ref fa) ⟨[.ref a],[]⟩) (λr s'=>r=.ok (.ret (.bool true))/\OldK s₁.heap s'.heap/\s'.os=s₁.os/\AllBare s'.gens) s₁):
 WalkO q loose XP YP l.row.toRowW d [] (λf vs=>PySem.call f vs):=by
 intro w s₀ s₁ mg mb G Y fa o pm cd doc dV kV ho hd Gg hD NS hg args vals as HV SR Xw NQ Xx;obtain rfl:dV=.none:=Dflts.none hD J7;obtain rfl:kV=.none:=Dflts.noKw hD;obtain⟨a,vs,ns,rfl,rfl,IW,hints,hlen⟩:=aaM hn HV NQ;refine enter_call (rC (call w s₀ s₁ mg mb fa o pm cd doc a vs ns G Y ho (fd_plain hd) Gg NS IW hints hlen hg) λr s' hq=>?_);obtain⟨rfl,h2,h3,h4⟩:=hq;exact⟨.inl ⟨.bool true,.bool true,[],rfl,λ_=>rfl,.bool true,aaN l _,λ_=>⟨List.Pairwise.nil,λ_ hm=>(nomatch hm)⟩⟩,h2,h3,h4⟩
end QP
namespace L2
open PySem PySem.Spec PyProof.Rows
theorem lW:∀{vs:m8}{ns:List Int},IntsAre vs ns->aR (ns.map V.int) vs
 |_,_,.nil=>.nil
 |_,_,.cons n t h=>.cons ⟨t,rfl⟩ (lW h)
structure vP (K:PySem.W.Frag)(x qual:Str)(st:Stmt)(f:Addr)(fd:BB):Prop where
 ex:∃(oc:Value)(od:vA)(kV doc pm:Value)(an:vA)(Fv ct:Value)(FX:CI),
  fd=PySem.W.fnOf x qual (cL st) (cj st) (ar st) .none kV doc pm an Fv ct/\K.lookup f=some ⟨oc,od,.func fd,FX⟩/\PySem.W.codeIn K Fv qual=true
 kp:PySem.W.keepIn K (.ref f)=true
variable {x qual:Str}{st:Stmt}{f:Addr}{fd:BB}{ps:EG}
section
variable {P:wu}{w:World}{K:PySem.W.Frag}{mg:vx}{base:Heap}
theorem vP.binds (F:vP K x qual st f fd)
 (h:∀(kV doc pm:Value)(an:vA)(Fv ct:Value)(us:m8),us.length=ps.length->bindArgs (PySem.W.fnOf x qual (cL st) (cj st) (ar st) .none kV doc pm an Fv ct) ⟨us,[]⟩=pure (ps.zip us)):ck K fd ps []:=by
 obtain⟨oc,od,kV,doc,pm,an,Fv,ct,FX,rfl,lk,Gg⟩:=F.ex;exact .all (h kV doc pm an Fv ct)
theorem aaT {oc:Value}{od an:vA}{FX:CI}{kV doc pm Fv ct:Value}(l:K.lookup f=some ⟨oc,od,.func (PySem.W.fnOf x qual (cL st) (cj st) (ar st) .none kV doc pm an Fv ct),FX⟩)
 (c:PySem.W.codeIn K Fv qual=true)(k:PySem.W.keepIn K (.ref f)=true):vP K x qual st f (PySem.W.fnOf x qual (cL st) (cj st) (ar st) .none kV doc pm an Fv ct):=⟨⟨oc,od,kV,doc,pm,an,Fv,ct,FX,rfl,l,c⟩,k⟩
end
section
variable {X:Cx}
theorem pv (i:Nat){pos:Pos}(hN:X.N[i]?=some x:=by rfl)(hv:Eh X.env.scope x:=by first|exact Or.inl rfl|exact Or.inr (Or.inl rfl)|exact Or.inr (Or.inr rfl))(hd:(x==("__debug__":Str))=false:=by decide)
 (Gg:(x==("__classdict__":Str))=false:=by decide):PE X (.Name x pos) (cc i):=acS hN hv hd Gg
end
theorem b7 {A B:Prop}(h:B):if false=true then A else B:=by
 rw[Yd Yp];exact h
theorem bA {A B:Prop}(h:A):if true=true then A else B:=by
 rw[Yh rfl];exact h
theorem cG {c A B:Prop} [Decidable c](h1:c->A)(h2:¬c->B):if c then A else B:=by
 by_cases h:c
 ·rw[Yh h];exact h1 h
 ·rw[Yd h];exact h2 h
noncomputable def aC (H H':Hp):Prop:=∀b o,H b=some o->H' b=some o
theorem aC.refl (H:Hp):aC H H:=λ_ _ h=>h
variable {H:Hp}
theorem aC.trans {H1 H2:Hp}(a:aC H H1)(b:aC H1 H2):aC H H2:=λc o h=>b c o (a c o h)
variable {P:wu}{w:World}{h:Heap}{a:Addr}
theorem eT {o:HO}(x:fZ P w H h)(hn:H a=none)(new:bE P w (upd H a o) h a o):fZ P w (upd H a o) h:=λb u e=>by
 by_cases hb:b=a
 ·subst hb;rw[ai] at e;cases e;exact new
 ·rw[aA hb] at e
  exact(x b u e).adk (λc v _ q=>q) (λc q=>by rw[aA (aB q hn)];exact q) λc xs q=>by rw[aA (aB q hn)];exact q
variable {env:Env}
section
variable {prog:wu}{w:World}{A:Around}{R:Result->Shared->Prop}{s:Ci}
theorem aaU {elt target iter:Expr}{ifs:yD}{scope:Scope}{pos:Pos}{it acc:Value}(I:Nat->Shared->Prop)
 (turn:∀n s,I n s->wpAny (model prog w) A (pyNext it) (λr s₁=>match r with
  |none=>R (.ok .next) s₁
  |some v=>wpAny (model prog w) A (letOwnedTupleGo target it v) (λ_ s₁=>wpAny (model prog w) A (assign target env v) (λ_ s₂ =>
   wpAny (model prog w) A (forIn ifs true λc r=>if r=true then do let ok <-isTrue c env (eval c env);pure (ForInStep.yield ok) else pure (ForInStep.yield r)) (λok s₃ =>
    if ok=true then wpAny (model prog w) A (eval elt env) (λx s₄ =>
     wpAny (model prog w) A (call (.builtin "list.append") [acc,x]) (λ_ s₅=>∃m,m<n/\I m s₅) (λ_ _=>False) s₄) (λ_ _=>False) s₃
    else ∃m,m<n/\I m s₃) (λ_ _=>False) s₂) (λ_ _=>False) s₁) (λ_ _=>False) s₁) (λ_ _=>False) s)
 (n:Nat)(h:I n s):
 codeAny (model prog w) A (.compLoop (.ListComp elt [⟨target,iter,ifs,0⟩] scope pos) 0 it acc env) R s:=by
 refine codeAny_loop rfl I (λn s hI=>?_) n h;show wpAny _ A ((compTurn (.ListComp elt [⟨target,iter,ifs,0⟩] scope pos) 0 it acc env).onRaise (λx=>do noteFrame x env;theTreesLotGoes x)) _ _ s;refine wpAny_noted ?_;rw[compTurn_list];refine X9 (lu (X9 (YR (turn n s hI) (λr s₁ h₁=>?_) λ_ _ z=>False.elim z)))
 cases r with
 |none=>exact Yb h₁
 |some v =>
  refine X9 (YR h₁ (λ_ Xy SS=>?_) λ_ _ z=>False.elim z);refine X9 (YR SS (λ_ s₂ h₂=>X9 (YR h₂ (λok s₃ h₃=>?_) λ_ _ z=>False.elim z)) λ_ _ z=>False.elim z)
  cases ok with
  |false=>exact Yb ⟨rfl,h₃⟩
  |true =>
   exact X9 (X9 (YR h₃ (λx s₄ h₄=>X9 (YR h₄ (λ_ s₅ h₅=>Yb (Yb ⟨rfl,h₅⟩)) λ_ _ z=>False.elim z)) λ_ _ z=>False.elim z))
end
noncomputable def fY (names:List (Str×NameKind))(env:Env):List (Str×Addr):=((names.filter λx=>x.2 == .free).map λx=>(x.1,(env.cells.lookup x.1).getD 0)).reverse
theorem aa1 {scope:Scope}(h:∀x∈scope.names,x.2=.free->∃c,env.cells.lookup x.1=some c):closureFor scope env=pure (fY scope.names env):=by
 have key:∀(names:List (Str×NameKind))(cs:List (Str×Addr)),(∀x∈names,x.2=.free->∃c,env.cells.lookup x.1=some c) →
  (forIn names cs (λ(x:Str×NameKind)(r:List (Str×Addr))=>if(x.2==NameKind.free)=true then(do let a <-cellOf env x.1;pure (ForInStep.yield ((x.1,a):: r))) else pure (ForInStep.yield r)):Sem (List (Str×Addr)))=pure (fY names env++cs):=by
  intro names
  induction names with
  |nil=>intro cs _;rfl
  |cons x r ih =>
   intro cs hn;rw[Bh];obtain⟨n,k⟩:=x
   by_cases hk:k=.free
   ·subst hk;obtain⟨c,hc⟩:=hn (n,.free) Yl rfl
    have SU:cellOf env n=pure c:=by unfold cellOf;rw[hc]
    simp only[C0,ZR,SU,pure_bind];rw[ih _ λy hy=>hn y (Yi _ hy)];simp[fY,hc]
   ·have hb:(k==NameKind.free)=false:=by simpa using hk
    simp only[hb,Zl,Zv,pure_bind];rw[ih _ λy hy=>hn y (Yi _ hy)];simp[fY,hb]
 have z:=key scope.names [] h;rw[Zc] at z;unfold closureFor
 first
  |exact z
  |(simp only[bind_pure];exact z)
  |(simp;exact z)
theorem pY {names:List (Str×NameKind)}(h:∀x∈names,x.2=.free->∃c,env.cells.lookup x.1=some c){c:Addr}(e:(fY names env).lookup x=some c):env.cells.lookup x=some c:=by
 have m:=Z6 e;unfold fY at m;rw[List.mem_reverse,YG] at m;obtain⟨y,hy,e'⟩:=m;rw[Y7] at hy;obtain⟨c',FU⟩:=h y hy.1 (by simpa using hy.2);rw[FU] at e'
 injection e' with e1 e2
 subst e1;rw[FU];exact Ze some e2
theorem pk {names:List (Str×NameKind)}{env:Env}(hm:(x,NameKind.free)∈names):∃c,(fY names env).lookup x=some c:=by
 have m:∃c,(x,c)∈fY names env:=⟨(env.cells.lookup x).getD 0,by
  unfold fY;rw[List.mem_reverse,YG]
  exact⟨(x,.free),Y7.mpr ⟨hm,rfl⟩,rfl⟩⟩
 obtain⟨c,m⟩:=m
 cases q:(fY names env).lookup x with
 |some d=>exact⟨d,rfl⟩
 |none =>
  exfalso
  have:∀(l:List (Str×Addr)),(x,c)∈l->l.lookup x≠none:=by
   intro l
   induction l with
   |nil=>intro h;cases h
   |cons p r ih =>
    intro h;rw[Zo]
    rcases Yn.mp h with h|h
    ·subst h;simp
    ·split
     ·simp
     ·exact ih h
  exact this _ m q
noncomputable def fK (X:Cx)(N:EG)(scope:Scope)(C:Addr)(fp:List Addr)(s:Ci)(H:Hp):Cx where
 prog:=X.prog
 w:=X.w
 K:=X.K
 mg:=X.mg
 base:=X.base
 A:=X.A
 N:=N
 s₀:=s
 H₀:=H
 env:=compEnvC scope (fY scope.names X.env) C X.env
 outer:=X.stack
 stack:=X.stack
 ex:=fp
 fn:=λ_=>false
 calm:=X.calm
 pn:=[]
 xe:=λ_ _=>False
noncomputable def σC (nl:Nat)(js:List Nat)(σ:St):St:=List.replicate nl none++js.map λj=>(σ[j]?).join
structure iD (X:Cx)(N:EG)(nl:Nat)(js:List Nat)(osc scope:Scope):Prop where
 out:X.env.scope=osc
 kind:scope.kind=.function
 cell:∀y∈scope.names,y.2≠.cell
 names:∀y∈scope.names,y.2=.local->scope.names.lookup y.1=some .local
 free:∀y∈scope.names,y.2=.free->osc.names.lookup y.1=some .cell\/osc.names.lookup y.1=some .free
 len:N.length=nl+js.length
 src:Paired (λj x=>X.N[j]?=some x/\(x,NameKind.free)∈scope.names) js (N.drop nl)
 agI:∀y∈scope.names,y.2=.free->scope.names.lookup y.1≠some .local
theorem fA {env:Env}:∀{names:List (Str×NameKind)}{x:Str}{k:NameKind},(∀y∈names,y.2≠.cell) →
 (names.map λ(n,k)=>if(k==NameKind.free&&env.scope.kind == .function&&env.kindOf n==some .cell) then(n,NameKind.cell) else(n,k)).lookup x=some k->(k=.cell\/k=.free)->(x,NameKind.free)∈names
 |[],_,_,_,h,_=>by simp at h
 |(n,k0):: r,x,k,hc,h,hk=>by
  have h:List.lookup x ((if(k0==NameKind.free&&env.scope.kind == .function&&env.kindOf n==some .cell)=true then(n,NameKind.cell) else(n,k0)):: r.map λ(n,k)=>if(k==NameKind.free&&env.scope.kind == .function&&env.kindOf n==some .cell) then(n,NameKind.cell) else(n,k))=some k:=h;have ih:=@fA env r x k λy hy=>hc y (Yi _ hy)
  by_cases hx:x=n
  ·subst hx
   have IX:k0=.free:=by
    by_cases hb:(k0==NameKind.free&&env.scope.kind == .function&&env.kindOf x==some .cell)=true
    ·have:=(YK.mp (YK.mp hb).1).1;simpa using this
    ·rw[Yd hb] at h;simp only[Zo,C0] at h;have e:k0=k:=Option.some.inj h
     rcases hk with z|z
     ·exact absurd (e.trans z) (hc (x,k0) Yl)
     ·exact e.trans z
   subst IX;exact Yl
  ·have hb:(x==n)=false:=by simpa using hx
   refine Yi _ (ih ?_ hk)
   by_cases FU:(k0==NameKind.free&&env.scope.kind == .function&&env.kindOf n==some .cell)=true
   ·rw[Yh FU] at h;simp only[Zo,hb] at h;exact h
   ·rw[Yd FU] at h;simp only[Zo,hb] at h;exact h
variable {pins:List (Addr×Obj)}{σ:St}{s:Ci}{C:Addr}{g:TG}{tt:TT}{te:TE}
section
variable {X:Cx}{tg iter elt:Expr}{ifs:yD}{scope osc:Scope}{pos:Pos}{N:EG}{nl:Nat}{js:List Nat}
noncomputable def Do (X:Cx)(ifs:yD)(t:TT):Prop :=
 ∀(pins:List (Addr×Obj))(s:Ci)(σ:St)(H:Hp)(Q:Bool->Hp->Prop),Inv X pins σ H s->t σ H Q →
  wpAny (model X.prog X.w) X.A (forIn ifs true λc r=>if r=true then do let ok <-isTrue c X.env (eval c X.env);pure (ForInStep.yield ok) else pure (ForInStep.yield r)) (TP X pins σ Q) X.xe s
noncomputable def As:TT:=λ_ H Q=>Q true H
theorem c6:Do X [] As:=λ_ _ _ H _ I h=>wpAny_tests_nil ⟨H,I,h⟩
theorem dI {c:Expr}{t:TT}(h:PT X c t):Do X [c] t:=λpins s σ H Q I hw=>wpAny_tests_one (h pins s σ H Q I hw)
theorem de {s:Ci}{b:Addr}{h':Heap}(I:Inv X pins σ H s)(f:c8 X pins H b)(sb:Heap.SameBut b s.heap h'):Inv X pins σ H {s with heap:=h'}:=
 I.turned (t':=s.toks) (λc o hc e=>(sb.2 c hc).trans e) f.1 f.2.1 f.2.2.2.1 f.2.2.2.2.1 f.2.2.2.2.2
noncomputable def ky (J:It)(g:TG)(tt:TT)(te:TE)(W:Nat->Nat->List V->St->Hp->Prop)(Fin:List V->Hp->Prop):Prop :=
 ∀i m xs σ' H',W i m xs σ' H'->xs.length<sizeLine/\((J.stop i H'/\Fin xs H') \/
  (J.go i H'/\∀x H2,J.yld i H' x H2->g x σ' H2 λσ3 H3=>tt σ3 H3 λb H4 =>
   if b=true then te σ3 H4 λy H5=>∃m',m'<m/\W (i+1) m' (xs++[y]) σ3 H5 else ∃m',m'<m/\W (i+1) m' xs σ3 H4))
theorem aa2 {fp:List Addr}{h1:Heap}{tk:Nat}(S:iD X N nl js osc scope)(I:Inv X pins σ H s)(f:∀b∈fp,c8 X pins H b)(J8:∀b∈fp,b<s.heap.objs.size)
 (hC:s.heap.objs.size<=C)(old:∀b o,s.heap.get? b=some o->h1.get? b=some o){m1:vx}(MX:h1.Ns C m1):
 Inv (fK X N scope C fp s H) [] (σC nl js σ) H {s with heap:=h1,toks:=tk}:=by
 have Gm:∀y∈scope.names,y.2=.free->X.env.kindOf y.1=some .cell\/X.env.kindOf y.1=some .free:=λy hy hf=>by
  have:=S.free y hy hf;rw[<-S.out] at this;exact this
 have GJ:∀y∈scope.names,y.2=.free->∃c,X.env.cells.lookup y.1=some c:=λy hy hf=>I.ok.has y.1 (Gm y hy hf);have sub:∀x c,(fY scope.names X.env).lookup x=some c->X.env.cells.lookup x=some c:=λx c e=>pY GJ e
 have J9:∀b∈fp,b∉eQ X.stack:=λb hb z=>by
  rcases Yn.mp (I.acR b z) with q|q
  ·exact(f b hb).2.1 q
  ·exact(f b hb).2.2.1 q
 refine⟨⟨I.ok.mod,S.kind,I.ok.glob,I.ok.blt,hC,λx y c e1 e2=>I.ok.inj x y c (sub x c e1) (sub y c e2),λx hx=>?_,λx c z _=>absurd z (by show ¬(false=true);decide),I.ok.hd,I.ok.frames,.inl rfl,
  λb hb=>⟨Yr (Ys (J8 b hb) hC),λx c e=>(f b hb).2.2.2.2.1 x c (sub x c e)⟩,I.bs,Yq I.ok.bsz I.sz,λb o e hb=>?_,J9,I.stack,I.ac2⟩,
  rfl,I.bare,Un.kept old,⟨m1,MX,λi x v e1 e2 e3=>?_⟩,λx c e=>?_,I.hok.fresh hC,λx c e=>I.acI x c (sub x c e),λp hp=>absurd (show p∈([]:List (Addr×Obj)) from hp) (by simp),I.hok.kept old,?_⟩
 ·have hx:(relabel scope X.env).names.lookup x=some .cell\/(relabel scope X.env).names.lookup x=some .free:=hx
  have m:(x,NameKind.free)∈scope.names:=by
   rcases hx with z|z
   ·exact fA S.cell z (.inl rfl)
   ·exact fA S.cell z (.inr rfl)
  exact pk m
 ·rcases(f b hb).2.2.2.1 with z|z
  ·exact I.ok.adI b o e z
  ·exact absurd (Ys (Ym e) (Yq I.ok.bsz z)) (Zh _)
 ·-- Ic names
  have e1:N[i]?=some x:=e1;unfold σC at e2
  by_cases hi:i<nl
  ·rw[B8 (by simpa using hi),List.getElem?_replicate] at e2
   split at e2 <;> cases e2
  ·obtain⟨k,rfl⟩:∃k,i=nl+k:=⟨i-nl,by omega⟩;rw[DV (by simp),yY,Nat.add_sub_cancel_left,YU] at e2
   cases ej:js[k]? with
   |none=>rw[ej] at e2;cases e2
   |some j =>
    rw[ej] at e2;have e2:some ((σ[j]?).join)=some (some v):=e2;have e2:=Option.some.inj e2
    have e4:σ[j]?=some (some v):=by
     cases q:σ[j]? with
     |none=>rw[q] at e2;cases e2
     |some z=>rw[q] at e2;exact Ze some e2
    have e5:(N.drop nl)[k]?=some x:=by rw[List.getElem?_drop];exact e1
    have gp:∀{l1:List Nat}{l2:EG}{k:Nat}{j:Nat}{x:Str},Paired (λj x=>X.N[j]?=some x/\(x,NameKind.free)∈scope.names) l1 l2->l1[k]?=some j->l2[k]?=some x->X.N[j]?=some x/\(x,NameKind.free)∈scope.names:=by
     intro l1 l2 k j x p
     induction p generalizing k with
     |nil=>intro h;simp at h
     |cons r _ ih =>
      intro h1 h2
      cases k with
      |zero=>simp at h1 h2;subst h1;subst h2;exact r
      |succ k=>exact ih (by simpa using h1) (by simpa using h2)
    obtain⟨hx,hm⟩:=gp S.src ej e5;have hk:=Gm (x,.free) hm rfl;obtain⟨m,hn,hl⟩:=I.loc
    have SV:Eh X.env.scope x:=by
     rcases hk with z|z
     ·exact .inr (.inl z)
     ·exact .inr (.inr z)
    obtain⟨u,r,l⟩:=hl j x v hx e4 SV;refine⟨u,r,?_⟩
    rcases l with⟨k1,_⟩|⟨_,c,hc,GO⟩
    ·exfalso
     rcases hk with z|z <;> (rw[z] at k1;cases k1)
    ·obtain⟨c',FU⟩:=pk (env:=X.env) hm;have:=sub x c' FU;rw[hc] at this
     cases this
     refine .inr ⟨?_,c,FU,?_⟩
     ·rcases e3 with z|z|z
      ·-- a name of Ic MY own: no
       exfalso
       have lk:scope.names.lookup x=some .local:=by
        have gen:∀(l:List (Str×NameKind)),(l.map λ(n,k)=>if(k==NameKind.free&&X.env.scope.kind == .function&&X.env.kindOf n==some .cell) then(n,NameKind.cell) else(n,k)).lookup x=some .local->l.lookup x=some .local:=by
         intro l
         induction l with
         |nil=>intro h;simp at h
         |cons p r ih =>
          obtain⟨n,k0⟩:=p;intro h;have h:List.lookup x ((if(k0==NameKind.free&&X.env.scope.kind == .function&&X.env.kindOf n==some .cell)=true then(n,NameKind.cell) else(n,k0)):: r.map λ(n,k)=>if(k==NameKind.free&&X.env.scope.kind == .function&&X.env.kindOf n==some .cell) then(n,NameKind.cell) else(n,k))=some .local:=h
          cases hb:x==n with
          |true =>
           by_cases FU:(k0==NameKind.free&&X.env.scope.kind == .function&&X.env.kindOf n==some .cell)=true
           ·rw[Yh FU] at h;simp only[Zo,hb] at h;cases h
           ·rw[Yd FU] at h;simp only[Zo,hb] at h |-;exact h
          |false =>
           simp only[Zo,hb];refine ih ?_
           by_cases FU:(k0==NameKind.free&&X.env.scope.kind == .function&&X.env.kindOf n==some .cell)=true
           ·rw[Yh FU] at h;simp only[Zo,hb] at h;exact h
           ·rw[Yd FU] at h;simp only[Zo,hb] at h;exact h
        exact gen _ z
       exact S.agI (x,.free) hm rfl lk
      ·exact .inl z
      ·exact .inr z
     ·obtain⟨o,ho,hd⟩:=GO;exact⟨o,old _ _ ho,hd⟩
 ·obtain⟨v,o,ho,hd⟩:=I.cell x c (sub x c e);exact⟨v,o,old _ _ ho,hd⟩
 ·show(σC nl js σ).length=N.length;unfold σC;rw[Yw,yY,Yg,S.len]
noncomputable abbrev An (ys:m8)(k:Nat):Obj:={cls:=.type "list",data:=.seq ys.toArray k}
theorem jE {J:It}{it:Addr}{fp:List Addr}{tn:Nat->Heap->Prop}{W:Nat->Nat->List V->St->Hp->Prop}{Fin:List V->Hp->Prop}
 {E:ph}{RR:Value->Addr->Result->Shared->Prop}
 (S:iD X N nl js osc scope)(hc:X.calm=true)(hg:∀C fp s H,PG (fK X N scope C fp s H) tg g)(ht:∀C fp s H,Do (fK X N scope C fp s H) ifs tt)(he:∀C fp s H,PE (fK X N scope C fp s H) elt te)
 (I:Inv X pins σ H s)(T:Turn X.prog X.w X.K tg J fp it tn)(st:tn 0 s.heap)(f:∀b∈fp,c8 X pins H b)(w0:∃m,W 0 m [] (σC nl js σ) H)(hW:ky J g tt te W Fin)
 (SW:∀(D C:Addr)(H':Hp)(s':Ci)(xs:List V)(m:vx),Inv X pins σ (upd H' D (.lst xs)) s'->H' D=none->s'.heap.Ns C m->c8 X pins (upd H' D (.lst xs)) C->Fin xs H'->RR (.ref D) C (.ok .next) s'):
 wpAny (model X.prog X.w) X.A (newList []) (λacc s₃=>wpAny (model X.prog X.w) X.A (newFunctionEnv scope X.env.globals (fY scope.names X.env) [] X.env.qual none .none (some X.env)) (λKa s₄ =>
  codeAny (model X.prog X.w) X.A (.compStart (.ListComp elt [⟨tg,iter,ifs,0⟩] scope pos) 0 (.ref it) acc {Ka with scope:=relabel scope X.env}) (RR acc Ka.locals) s₄) E s₃) E s:=by
 have J8:∀b∈fp,b<s.heap.objs.size:=λb hb=>by
  obtain⟨o,e,_⟩:=T.obj 0 _ st b hb;exact Ym e
 refine YB (wpAny_newFunctionEnv S.cell (by intro y hy;simp at hy) (λh₁ IY HW=>?_) S.kind);dsimp only at IY HW |-;generalize NT:s.heap.push {cls:=.type "list",dict:=none,data:=.seq ([]:m8).toArray}=H2 at IY HW |-
 have hC:H2.objs.size=s.heap.objs.size+1:=by rw[<-NT,Zb]
 have MZ:s.heap.objs.size≠H2.objs.size:=by rw[hC];exact Yr (x6 _)
 have below:∀b,b<s.heap.objs.size->b≠H2.objs.size/\b≠s.heap.objs.size:=λb hb=>⟨by rw[hC];exact Yr (ZK hb),Yr hb⟩;have old:∀b o,s.heap.get? b=some o->h₁.get? b=some o:=λb o e=>HW.extBut b o (below b (Ym e)).1 (Yc _ (NT▸Yc _ e));have NU:h₁.get? s.heap.objs.size=some {cls:=.type "list",data:=.seq ([]:m8).toArray 0}:=HW.extBut _ _ MZ (Yc _ (NT▸Yk _ rfl))
 have Kb:s.heap.objs.size<=H2.objs.size:=by rw[hC];exact vI _
 have GJ:∀y∈scope.names,y.2=.free->∃c,X.env.cells.lookup y.1=some c:=λy hy hf=>by
  have z:=S.free y hy hf;rw[<-S.out] at z;exact I.ok.has y.1 z
 have sub:∀x c,(fY scope.names X.env).lookup x=some c->X.env.cells.lookup x=some c:=λx c e=>pY GJ e
 have SX:∀x c,(fY scope.names X.env).lookup x=some c->c<s.heap.objs.size:=λx c e=>by
  obtain⟨v,q⟩:=I.cell x c (sub x c e);exact q.lt
 have J9:∀b∈fp,b∉eQ X.stack:=λb hb z=>by
  rcases Yn.mp (I.acR b z) with q|q
  ·exact(f b hb).2.1 q
  ·exact(f b hb).2.2.1 q
 have QQ:s.heap.objs.size∉eQ X.stack:=λz=>by
  rcases Yn.mp (I.acR _ z) with q|q
  ·exact absurd I.lt (by rw[<-q];exact Zh _)
  ·exact I.ae3 (Ye _) q
 have QR:s.heap.objs.size∉fp:=λz=>Zh _ (J8 _ z)
 have NV:∀{H':Hp}{ob:Obj},(∀b∈fp,H' b=none)->∀b∈fp,c8 (fK X N scope H2.objs.size fp s H) [(s.heap.objs.size,ob)] H' b:=λ{H' ob} hn b hb =>
  ⟨hn b hb,(below b (J8 b hb)).1,J9 b hb,.inl hb,λx c e=>(f b hb).2.2.2.2.1 x c (sub x c e),λp hp z=>by
   have e:p=(s.heap.objs.size,ob):=by
    have:p∈[(s.heap.objs.size,ob)]:=hp;simpa using this
   subst e
   exact QR (by rw[show s.heap.objs.size=b from z];exact hb)⟩
 have SY:∀{H':Hp},H' s.heap.objs.size=none->c8 (fK X N scope H2.objs.size fp s H) [] H' s.heap.objs.size:=λ{H'} hn =>
  ⟨hn,MZ,QQ,.inr (Ye _),λx c e=>Yr (SX x c e),λp hp=>absurd (show p∈([]:List (Addr×Obj)) from hp) (by simp)⟩
 have Kc:∀{σ':St}{H':Hp}{s':Ci}{ys:m8}{k:Nat},Inv (fK X N scope H2.objs.size fp s H) [] σ' H' s'->H' s.heap.objs.size=none->s'.heap.get? s.heap.objs.size=some (An ys k) →
  Inv (fK X N scope H2.objs.size fp s H) [(s.heap.objs.size,An ys k)] σ' H' s':=λ{σ' H' s' ys k} I' hn hl=>I'.acM λp hp=>by
  have e:p=(s.heap.objs.size,An ys k):=by simpa using hp
  subst e;exact⟨hl,hn,MZ,QQ,λv z=>by cases z⟩
 have n9:∀s₃:Shared,s₃={s with heap:=h₁,toks:=s.toks+([]:List (Str×Value)).length} →
  codeAny (model X.prog X.w) X.A (.compLoop (.ListComp elt [⟨tg,iter,ifs,0⟩] scope pos) 0 (.ref it) (.ref s.heap.objs.size) (compEnvC scope (fY scope.names X.env) H2.objs.size X.env))
   (RR (.ref s.heap.objs.size) H2.objs.size) s₃:=by
  rintro s₃ rfl;obtain⟨m0,w0⟩:=w0;have I0:Inv (fK X N scope H2.objs.size fp s H) [] (σC nl js σ) H {s with heap:=h₁,toks:=s.toks+([]:List (Str×Value)).length}:=aa2 S I f J8 Kb old IY
  refine aaU (λn s'=>∃i σ' H' xs ys k,Inv (fK X N scope H2.objs.size fp s H) [(s.heap.objs.size,An ys k)] σ' H' s'/\tn i s'.heap/\(∀b∈fp,H' b=none)/\aR xs ys/\W i n xs σ' H') ?_ m0
   ⟨0,σC nl js σ,H,[],[],0,Kc I0 (I.hok.fresh (Ye _)) NU,T.keep _ _ _ st λb _ o e=>old b o e,λb hb=>(f b hb).1,.nil,w0⟩
  rintro n s' ⟨i,σ',H',xs,ys,k,I',F8,QS,rv,w'⟩;obtain⟨hz,hw⟩:=hW i n xs σ' H' w'
  rcases hw with⟨stop,fin⟩|⟨go,step⟩
  ·refine YR (T.done (fK X N scope H2.objs.size fp s H) rfl rfl rfl hc i _ s' σ' H' (λ_ _=>False) I' (NV QS) F8 stop) (λr s1 z'=>?_) λ_ _ z=>z;obtain⟨hr,I1⟩:=z';subst hr;obtain⟨p1,p2,_⟩:=I1.pin (s.heap.objs.size,An ys k) (by show _∈([]:List (Addr×Obj))++[_];simp);have u1:Un (eQ X.stack) fp H H' s.heap s1.heap:=I1.base
   have u2:Un (eQ X.stack) fp H (upd H' s.heap.objs.size (.lst xs)) s.heap s1.heap:=⟨u1.keep,u1.slot,λb o e n hx=>by rw[aA (Yr (Ym e))];exact u1.free b o e n hx,u1.there,
    λb zs e=>by rw[aA (aB (u1.acK b zs e) p2)];exact u1.acK b zs e,λb o zs e=>by rw[aA (aB (u1.acH b o zs e) p2)];exact u1.acH b o zs e,λb ps e=>by
     obtain⟨mo,q⟩:=u1.acO b ps e
     exact⟨mo,by rw[aA (aB q p2)];exact q⟩⟩
   have hk:fZ X.prog X.w (upd H' s.heap.objs.size (.lst xs)) s1.heap:=eT I1.hok p2 ⟨Zi hz,ys,k,rv,p1⟩;have I3:Inv X pins σ (upd H' s.heap.objs.size (.lst xs)) s1:=I.ae4 I1.os u2 hk I1.bare λb hb=>⟨(f b hb).2.2.2.1,(f b hb).2.1,(f b hb).2.2.2.2.1,(f b hb).2.2.2.2.2⟩;obtain⟨mm,S0,_⟩:=I1.loc
   have S7:upd H' s.heap.objs.size (.lst xs) H2.objs.size=none:=by rw[aA (YM MZ)];exact I1.free
   exact SW _ _ H' s1 xs mm I3 p2 S0 (I.ada Kb S7) fin
  ·refine YR (T.item (fK X N scope H2.objs.size fp s H) rfl rfl rfl hc i _ s' σ' H' (λ_ _=>False) I' (NV QS) F8 go) (λr s1 z'=>?_) λ_ _ z=>z;obtain⟨u,hr,h4⟩:=z';subst hr;refine YR h4 (λ_ s2 z'=>?_) λ_ _ z=>z;obtain⟨x,QT,I2,r2,y2,HR,S9⟩:=z';have Ta:=I2.pinned (NV S9) (T.obj _ _ HR);refine YR (hg _ _ _ _ _ s2 σ' QT x u _ Ta r2 (step x QT y2)) (λ_ s3 z'=>?_) λ_ _ z=>z;obtain⟨σ3,H3,I3,q3⟩:=z';refine YR (ht _ _ _ _ _ s3 σ3 H3 _ I3 q3) (λok s4 z'=>?_) λ_ _ z=>z;obtain⟨H4,I4,q4⟩:=z'
   have back:∀{s5:Ci}{H5:Hp},Inv (fK X N scope H2.objs.size fp s H) ([(s.heap.objs.size,An ys k)]++kO fp s2.heap) σ3 H5 s5->tn (i+1) s5.heap/\∀b∈fp,H5 b=none:=λ{s5 H5} I5 =>
    ⟨T.keep _ _ _ HR λb hb o e=>(I5.pin (b,o) (Yx _ (Yx _ (ff hb e)))).1,λb hb=>by
     obtain⟨o,e,d⟩:=T.obj _ _ HR b hb
     exact(I5.pin (b,o) (Yx _ (Yx _ (ff hb e)))).2.1⟩
   cases ok with
   |false =>
    rw[Yd Yp] at q4 |-;obtain⟨m',hm,w4⟩:=q4;exact⟨m',hm,i+1,σ3,H4,xs,ys,k,I4.acU,(back I4).1,(back I4).2,rv,w4⟩
   |true =>
    rw[Yh rfl] at q4 |-;refine YR (he _ _ _ _ _ s4 σ3 H4 _ I4 q4) (λv s5 z'=>?_) λ_ _ z=>z;obtain⟨y,H5,I5,r5,m',hm,w5⟩:=z';obtain⟨p1,p2,_⟩:=I5.pin (s.heap.objs.size,An ys k) (Yx _ (ZE _ (by simp)));obtain⟨JY,ND⟩:=back I5;refine append_at (its:=ys.toArray) p1 (λh' sb hD=>?_) (by rw[Yj,<-rv.length];exact Zi hz);have I6:Inv (fK X N scope H2.objs.size fp s H) [] σ3 H5 {s5 with heap:=h'}:=de (I5.acM (pins':=[]) λp hp=>absurd hp (by simp)) (SY p2) sb;refine⟨m',hm,i+1,σ3,H5,xs++[y],ys++[v],k+1,Kc I6 p2 ?_,T.keep _ _ _ JY λb hb o e=>(sb.2 b λz=>QR (z▸hb)).trans e,ND,rv.append (.cons r5 .nil),w5⟩;rw[hD];show some _=some (An (ys++[v]) (k+1));rw[An,<-List.push_toArray]
 exact codeAny_compStart_list (n9 _ rfl) (T.self X.A 0 _ _ _ (T.keep _ _ _ st λb _ o e=>old b o e) (n9 _ rfl))
noncomputable def pU (wi:TI)(g:TG)(tt:TT)(te:TE)(nl:Nat)(js:List Nat):TE:=λσ H Q=>wi σ H λJ H1 =>
 ∃W:Nat->Nat->List V->St->Hp->Prop,(∃m,W 0 m [] (σC nl js σ) H1)/\ky J g tt te W λxs H'=>∀D,H' D=none->Q (.ref D) (upd H' D (.lst xs))
theorem jP (S:iD X N nl js osc scope)(I:Inv X pins σ H s):closureFor scope X.env=pure (fY scope.names X.env):=aa1 λy hy hf=>by
 have z:=S.free y hy hf;rw[<-S.out] at z;exact I.ok.has y.1 z
theorem bY {wi:TI}(S:iD X N nl js osc scope)(hc:X.calm=true)(hi:PI X tg iter wi)(hg:∀C fp s H,PG (fK X N scope C fp s H) tg g)(ht:∀C fp s H,Do (fK X N scope C fp s H) ifs tt)
 (he:∀C fp s H,PE (fK X N scope C fp s H) elt te)(hs:∀x,foldedSetIterable iter X.env x=pure x:=by intro _;rfl):
 PE X (.ListComp elt [⟨tg,iter,ifs,0⟩] scope pos) (pU wi g tt te nl js):=by
 intro pins s σ H Q I h;rw[eval_ListComp];refine wpAny_comprehension_free (use:=none) rfl hs (jP S I) S.kind S.names (bU (hi pins s σ H _ I h) λv s1 h1=>bU h1 λMS s2 h2=>?_);obtain⟨it,fp,tn,J,H2,e,I2,T,HR,f2,W,w0,hW⟩:=h2;subst e;refine jE (RR:=λacc C=>compPost (model X.prog X.w) X.A X.xe none (EP X pins σ Q) acc C) S hc hg ht he I2 T HR f2 w0 hW ?_;intro D C H' s' xs m I3 hD hn fC fin;exact⟨m,hn,λh' sb=>⟨.ref D,_,de I3 fC sb,rfl,fin D hD⟩⟩
theorem uy {i:Nat}{y:Str}{py Kd:Pos}{wi:TI}(S:iD X N nl js osc scope)(hc:X.calm=true)(hN:X.N.Nodup)(hy:X.N[i]?=some y)(hl:Dq X.env.scope y)(hi:PI X tg iter wi)
 (hg:∀C fp s H,PG (fK X N scope C fp s H) tg g)(ht:∀C fp s H,Do (fK X N scope C fp s H) ifs tt)(he:∀C fp s H,PE (fK X N scope C fp s H) elt te)
 (Tb:swapsWith (.ListComp elt [⟨tg,iter,ifs,0⟩] scope pos) (some (.Name y py)) Kd.line X.env=pure true)(hs:∀x,foldedSetIterable iter X.env x=pure x:=by intro _;rfl)
 (hf:X.fn y=true\/X.env.scope.names.lookup y=some .local:=by first|exact .inl rfl|exact .inr rfl|assumption):
 PS X (.Assign [.Name y py] (.ListComp elt [⟨tg,iter,ifs,0⟩] scope pos) Kd) (lr (pU wi g tt te nl js) (bw i)):=by
 intro pins s σ H D I h;rw[exec_Assign_Name_used _ _ _ _ Tb];refine X9 (lu (X9 ?_));show wpAny _ X.A (do let _ <-comprehension (.ListComp elt [⟨tg,iter,ifs,0⟩] scope pos) scope X.env _ (newList []) false (eval iter X.env) (some (assign (.Name y py) X.env))) _ _ s
 refine X9 (YR (wpAny_comprehension_free (use:=some (assign (.Name y py) X.env)) (Q:=λ_ s'=>SP X pins D .next s') rfl hs (jP S I) S.kind S.names
  (bU (hi pins s σ H _ I h) λv s1 h1=>bU h1 λMS s2 h2=>?_)) (λ_ s' hq=>Yb (Yb hq)) λ_ _ e=>e)
 obtain⟨it,fp,tn,J,H2,e,I2,T,HR,f2,W,w0,hW⟩:=h2;subst e;refine jE (RR:=λacc C=>compPost (model X.prog X.w) X.A X.xe (some (assign (.Name y py) X.env)) (λ_ s'=>SP X pins D .next s') acc C) S hc hg ht he I2 T HR f2 w0 hW ?_;intro Dd C H' s' xs m I3 hD hn fC fin;show wpAny _ X.A (assign (.Name y py) X.env (.ref Dd)) _ _ _;refine wpAny_assign_Name (lZ I3 hN hy hl (show aG (.ref Dd) (.ref Dd) from rfl) (λs4 I4 z'=>?_) hf);obtain⟨a,sb,ha⟩:=z';refine⟨m,hn.sameBut sb ?_,λh' Tc=>⟨_,_,de I4 fC Tc,fin Dd hD⟩⟩
 rcases ha with z|z
 ·rw[z];exact fC.2.1
 ·exact λq=>fC.2.2.2.2.1 _ _ z q.symm
end
open PySem.W
noncomputable def aa3 (h B:Heap)(e:Addr)(cls a0 fl:Value)(d:vA):Prop :=
 ∃(o:Obj)(vs:BC)(T:Addr)(oT:Obj)(ts:BC),h.get? e=some o/\o.dict=d/\(o.cls=cls/\vs[0]?=some a0)/\o.data=.fields vs/\vs[1]?=some (.ref T)/\B.get? T=none/\T≠e/\h.get? T=some oT/\oT.data=.fields ts/\ts[3]?=some fl
structure Ck (B:Heap)(l:List Env)(e:Addr)(cls a0 fl:Value)(d:vA)(h:Heap):Prop where
 st:B.StaysIn h
 new:B.get? e=none
 fr:h.FunFrames B l
 tr:aa3 h B e cls a0 fl d
variable {o:Obj}{vs:BC}
section
variable {M:Model}{A:Around}{E:ph}{s:Ci}{B:Heap}{env:Env}{outer:List Env}{L e:Addr}{cls a0:Value}{d:vA}{Q:Unit->Shared->Prop}
theorem ug {hd:Value}{nx:Bool}(G9:A.frames=some (env::outer))(fr:s.heap.FunFrames B (env::outer))(hf:env.frame=some L)(st:B.StaysIn s.heap)(new:B.get? e=none)
 (he:s.heap.get? e=some o)(Gs:o.dict=d)(hc:o.cls=cls)(hv:o.data=.fields vs)(h1:1<vs.size)(h0:vs[0]?=some a0)
 (h:∀h',Ck B (env::outer) e cls a0 (rawInt L) d h'->s.heap.UpToSlots h'->Q () {s with heap:=h'}):
 wpAny M A (do let a <-frameOf env;let pl <-entryPlaceOf L nx;let b <-EntryCells.newEntry hd a .none (rawInt L) .none pl;setField (.ref e) 1 b) Q E s:=by
 have nf:e∉(env::outer).filterMap (·.frame):=λm=>by
  obtain⟨_,o',F0,q⟩:=fr.mem m;rw[he] at F0;cases F0;exact q vs hv
 refine X9 (wpAny_frameOf_fun G9 fr hf λg sl=>X9 (wpAny_entryPlaceOf λpl GI=>?_));unfold EntryCells.newEntry newFields;refine X9 (YB ?_ (GI.sizeOk5 _ _ _ _ _));have e1:g.get? e=some o:=(sl.2.1 e nf).trans he;have QU:B.StaysIn g:=λb ob q=>(sl.2.1 b λm=>by rw[(fr.mem m).1] at q;cases q).trans (st b ob q);have ne:g.objs.size≠e:=Zz (Ym e1);have dv:=ZS hv (·.setIfInBounds 1 (Value.ref g.objs.size))
 have kp:∀(oT:Obj) b ob,b≠e->g.get? b=some ob->((g.push oT).update e (Obj.mapFields (·.setIfInBounds 1 (Value.ref g.objs.size)))).get? b=some ob:=λoT b ob hb q =>
  (YL _ _ (YM hb)).trans (Yc _ q)
 have nr:∀b ob,s.heap.get? b=some ob->(∀ws,ob.data≠.fields ws)->b≠e:=λb ob q hn z=>by rw[z,he] at q;cases q;exact hn vs hv
 refine ZT (Yc _ e1) hv h1 (h _ ⟨λb ob q=>kp _ b ob (λz=>by rw[z,new] at q;cases q) (QU b ob q),new,fr.of_keeps λb ob q hn=>?_,?_⟩ λb ob q hn=>?_)
 ·obtain⟨z,q1⟩:=sl.2.2 b ob q;exact⟨_,kp _ b _ (nr b ob q hn) q1,rfl⟩
 ·refine⟨_,_,g.objs.size,_,_,Y3 _ (Yc _ e1) (uP dv),?_,⟨(zm _ _).trans hc,by rw[EW (by decide)];exact h0⟩,dv,by simp[h1],QU.fresh,ne,
   (YL _ _ (YM ne)).trans (Yk g rfl),rfl,by first|(simp;done)|(rcases GI with rfl|⟨_,_,_,_,_,_,_,rfl⟩ <;> simp)⟩
  rw[<-Gs]
  cases o
  dsimp only at hv;subst hv;rfl
 ·obtain⟨z,q1⟩:=sl.2.2 b ob q;exact⟨z,kp _ b _ (nr b ob q hn) q1⟩
theorem aa7 (G9:A.frames=some (env::outer))(hf:env.frame=some L)(x:Ck B (env::outer) e cls a0 .none d s.heap)
 (h:∀h',Ck B (env::outer) e cls a0 (rawInt L) d h'->s.heap.UpToSlots h'->Q () {s with heap:=h'}):wpAny M A (noteFrame (.ref e) env) Q E s:=by
 obtain⟨o,vs,T,oT,ts,he,Gs,⟨hc,h0⟩,hv,h1,nT,Te,hT,Ig,h3⟩:=x.tr;unfold noteFrame;simp only[hf];refine X9 (YW he hv h1 ?_);rw[Yh (by simp)];refine X9 (YW hT Ig h3 ?_);rw[Yd (by simp[rawInt])];refine X9 (ZT hT Ig (nW.mp h3).1 ?_);have ot:∀b,b≠T->(s.heap.update T (Obj.mapFields (·.setIfInBounds 3 Value.none))).get? b=s.heap.get? b:=λb hb=>YL _ _ (YM hb)
 have nr:∀b ob,s.heap.get? b=some ob->(∀ws,ob.data≠.fields ws)->b≠T:=λb ob q hn z=>by rw[z,hT] at q;cases q;exact hn ts Ig
 refine ug (s:={s with heap:=s.heap.update T (Obj.mapFields (·.setIfInBounds 3 Value.none))}) G9 (x.fr.of_keeps λb ob q hn=>⟨ob,(ot b (nr b ob q hn)).trans q,rfl⟩) hf (λb ob q=>(ot b λz=>by rw[z,nT] at q;cases q).trans (x.st b ob q)) x.new
  ((ot e (YM Te)).trans he) Gs hc hv (nW.mp h1).1 h0 λh' y up=>h h' y λb ob q hn=>up b ob ((ot b (nr b ob q hn)).trans q) hn
theorem abd (G9:A.frames=some (env::outer))(fr:s.heap.FunFrames B (env::outer))(hf:env.frame=some L)(st:B.StaysIn s.heap)(new:B.get? e=none)
 (he:s.heap.get? e=some o)(Gs:o.dict=d)(hc:o.cls=cls)(hv:o.data=.fields vs)(h1:vs[1]?=some .none)(h0:vs[0]?=some a0)
 (h:∀h',Ck B (env::outer) e cls a0 (rawInt L) d h'->s.heap.UpToSlots h'->Q () {s with heap:=h'}):wpAny M A (noteFrame (.ref e) env) Q E s:=by
 unfold noteFrame;simp only[hf];refine X9 (YW he hv h1 ?_);rw[Yd (by decide)];exact ug G9 fr hf st new he Gs hc hv (nW.mp h1).1 h0 h
theorem pW {l:List Env}{fl:Value}(x:Ck B l e cls a0 fl d s.heap)(h:∀h',Ck B l e cls a0 .none d h'->s.heap.UpToSlots h'->Q () {s with heap:=h'}):wpAny M A (setFlight (.ref e) none) Q E s:=by
 obtain⟨o,vs,T,oT,ts,he,Gs,hc,hv,h1,nT,Te,hT,Ig,h3⟩:=x.tr;have z3:3<ts.size:=(nW.mp h3).1;have ot:∀b,b≠T->(s.heap.update T (Obj.mapFields (·.setIfInBounds 3 Value.none))).get? b=s.heap.get? b:=λb hb=>YL _ _ (YM hb)
 have nr:∀b ob,s.heap.get? b=some ob->(∀ws,ob.data≠.fields ws)->b≠T:=λb ob q hn z=>by rw[z,hT] at q;cases q;exact hn ts Ig
 unfold setFlight;refine X9 (YW he hv h1 ?_);rw[Yh (by simp)];refine ZT hT Ig z3 (h _ ⟨λb ob q=>(ot b λz=>by rw[z,nT] at q;cases q).trans (x.st b ob q),x.new,x.fr.of_keeps λb ob q hn=>⟨ob,(ot b (nr b ob q hn)).trans q,rfl⟩,?_⟩ λb ob q hn=>⟨ob.slots,(ot b (nr b ob q hn)).trans q⟩);exact⟨o,vs,T,_,_,(ot e (YM Te)).trans he,Gs,hc,hv,h1,nT,Te,Y3 _ hT (uP (ZS Ig _)),ZS Ig _,by simp[z3]⟩
theorem Ck.out {fl:Value}(x:Ck B (env::outer) e cls a0 fl d h):Ck B outer e cls a0 fl d h:=⟨x.st,x.new,x.fr.2.2,x.tr⟩
theorem abe (G9:A.frames=some (env::outer))(hf:env.frame=some L)(x:Ck B (env::outer) e cls a0 .none d s.heap)
 (h:∀h',Ck B outer e cls a0 .none d h'->s.heap.UpToSlots h'->Q () {s with heap:=h'}):wpAny M A (leaving env (.ref e)) Q E s:=by
 unfold leaving;exact X9 (aa7 G9 hf x λg y up=>pW (s:={s with heap:=g}) y λg2 y2 NW=>h g2 y2.out (up.trans NW))
theorem abf (G9:A.frames=some (env::outer))(fr:s.heap.FunFrames B (env::outer))(hf:env.frame=some L)(st:B.StaysIn s.heap)(new:B.get? e=none)
 (he:s.heap.get? e=some o)(Gs:o.dict=d)(hc:o.cls=cls)(hv:o.data=.fields vs)(h1:vs[1]?=some .none)(h0:vs[0]?=some a0)
 (h:∀h',Ck B outer e cls a0 .none d h'->s.heap.UpToSlots h'->Q () {s with heap:=h'}):wpAny M A (leaving env (.ref e)) Q E s:=by
 unfold leaving;exact X9 (abd G9 fr hf st new he Gs hc hv h1 h0 λg y up=>pW (s:={s with heap:=g}) y λg2 y2 NW=>h g2 y2.out (up.trans NW))
end
theorem bE.there {o:HO}(x:bE P w H h a o):∃ob,h.get? a=some ob:=by
 cases o with
 |lst xs=>obtain⟨_,_,_,_,e⟩:=x;exact⟨_,e⟩
 |tup xs=>obtain⟨_,_,_,ob,e,_⟩:=x;exact⟨_,e⟩
 |dK Ft=>obtain⟨_,_,_,_,o,_,_,e,_⟩:=x;exact⟨_,e⟩
 |dT Ft=>obtain⟨_,_,_,_,o,_,_,e,_⟩:=x;exact⟨_,e⟩
 |set S n=>obtain⟨o,_,_,_,e,_⟩:=x;exact⟨_,e⟩
 |ins C dx fs=>obtain⟨_,_,_,e,_⟩:=x;exact⟨_,e⟩
 |own y=>obtain⟨_,e⟩:=x;exact⟨_,e⟩
 |xd fs=>obtain⟨_,⟨_,_,_,e,_⟩,_⟩:=x;exact⟨_,e⟩
 |rng lo hi=>obtain⟨_,_,_,e⟩:=x;exact⟨_,e⟩
 |frz ob u=>obtain⟨e,_⟩:=x;exact⟨_,e⟩
 |tbl ps=>exact⟨_,(show h.get? a=some _ from x)⟩
 |met f y=>exact⟨_,(show h.get? a=some _ from x)⟩
 |ext φ=>obtain⟨_,⟨_,e⟩,_⟩:=x;exact⟨_,e⟩
structure Cr (P:wu)(w:World)(l:List Env)(H₀:Hp)(h₀:Heap)(a:Addr)(cls:Value)(H:Hp)(h:Heap)(B:Heap)(a0:Value)(d:vA):Prop where
 fly:Ck B l a cls a0 .none d h
 un:Un (eQ l) [] H₀ H h₀ h
 keep:∀b o,h₀.get? b=some o->H₀ b=none->b∉eQ l->B.get? b=some o
 there:∀b o,h₀.get? b=some o->b∉eQ l->∃o',B.get? b=some o'
 hok:fZ P w H B
 new:H a=none
noncomputable def cD (P:wu)(w:World):EM:=λouter H₀ s₀ E e s'=>∃(a:Addr)(cls a0:Value)(B:Heap)(d:vA)(H:Hp),e=.ref a/\s'.os=s₀.os/\AllBare s'.gens/\Cr P w outer H₀ s₀.heap a cls H s'.heap B a0 d/\E cls d H
variable {cls:Value}
section
variable {X:Cx}{pins:List (Addr×Obj)}{σ:St}{H H':Hp}{s s':Ci}{P:wu}{w:World}
theorem eJ {base:Heap}{l:List Env}(F:h.FunFrames base l){b:Addr}(hb:b∈eQ l)(e:h.get? b=some o):∀vs,o.data≠.fields vs:=by
 obtain⟨_,o',e',d⟩:=F.mem hb;rw[e] at e'
 cases e'
 exact d
theorem abm {outer:List Env}{h' HL B:Heap}{e t:Addr}{args:m8}{d:vA}(I:Inv X pins σ H s)(hex:X.ex=[])(JX:X.stack=X.env::X.outer)(hm:Heap.MadeExcOf s.heap h' e cls args)
 (hB:B=PySem.W.hideAll s.heap (eQ X.stack))(hf:Ck B X.outer e cls (.ref t) .none d HL)(M0:h'.UpToSlots HL):Cr X.prog X.w X.outer X.H₀ X.s₀.heap e cls H HL B (.ref t) d:=by
 subst hB;have st:=hf.st;have Ke:∀b o,s.heap.get? b=some o->b∉eQ X.stack->(PySem.W.hideAll s.heap (eQ X.stack)).get? b=some o:=λb o e n=>PySem.W.hideAll_get _ e n
 have old:∀b o,X.s₀.heap.get? b=some o->b∉eQ X.outer->b∉eQ X.stack:=λb o e n z=>by
  rcases Yn.mp (I.acR b z) with q|q
  ·exact absurd (Ys (Ym e) I.ok.above) (by rw[q];exact Zh _)
  ·exact n q
 have base:Un (eQ X.outer) [] X.H₀ H X.s₀.heap s.heap:=by
  have z:=I.base;rw[hex] at z;exact z
 refine⟨hf,⟨λb o e n hb _=>st b o (Ke b o (base.keep b o e n hb (by simp)) (old b o e hb)),λb o e n hb _=>?_,base.free,λb o e _=>?_,base.acK,base.acH,base.acO⟩,λb o e n hb=>Ke b o (base.keep b o e n hb (by simp)) (old b o e hb),λb o e hb=>?_,λb u e=>?_,?_⟩
 ·obtain⟨sl,e1⟩:=base.slot b o e n hb (by simp);obtain⟨HI,e2⟩:=M0 b _ (hm.keeps b _ e1) (eJ I.acP hb e1);exact⟨HI,e2⟩
 ·obtain⟨o',e1⟩:=base.there b o e (by simp)
  by_cases hb:b∈eQ X.outer
  ·obtain⟨HI,e2⟩:=M0 b _ (hm.keeps b _ e1) (eJ I.acP hb e1);exact⟨_,e2⟩
  ·exact⟨o',st b o' (Ke b o' e1 (old b o e hb))⟩
 ·obtain⟨o',e1⟩:=base.there b o e (by simp);exact⟨o',Ke b o' e1 (old b o e hb)⟩
 ·exact(I.hok b u e).adk (λc v hc q=>Ke c v q λz=>by
   have n:=I.ac2 c z
   rcases hc with hc|hc
   ·rw[hc,e] at n;cases n
   ·rw[n] at hc;cases hc) (λ_ q=>q) λ_ _ q=>q
 ·cases q:H e with
  |none=>rfl
  |some u =>
   obtain⟨ob,e1⟩:=(I.hok e u q).there;rw[hm.new] at e1
   cases e1
theorem abn {HL B:Heap}{a0:Value}{d:vA}(I:Inv X pins σ H s)(hex:X.ex=[])(F:Cr X.prog X.w X.stack H s.heap a cls H' s'.heap B a0 d)
 (hf:Ck B X.outer a cls a0 .none d HL)(M0:s'.heap.UpToSlots HL):Cr X.prog X.w X.outer X.H₀ X.s₀.heap a cls H' HL B a0 d:=by
 have st:=hf.st
 have sub:∀b,b∈eQ X.outer->b∈eQ X.stack:=λb hb=>by
  rcases I.ok.stk with z|⟨z,G9⟩
  ·rw[z];exact hb
  ·rw[z];unfold eQ;rw[Zf,G9];exact Yi _ hb
 have old:∀b o,X.s₀.heap.get? b=some o->b∉eQ X.outer->b∉eQ X.stack:=λb o e n z=>by
  rcases Yn.mp (I.acR b z) with q|q
  ·exact absurd (Ys (Ym e) I.ok.above) (by rw[q];exact Zh _)
  ·exact n q
 have base:Un (eQ X.outer) [] X.H₀ H X.s₀.heap s.heap:=by
  have z:=I.base;rw[hex] at z;exact z
 have kB:∀b o,X.s₀.heap.get? b=some o->X.H₀ b=none->b∉eQ X.outer->B.get? b=some o:=λb o e n hb =>
  F.keep b o (base.keep b o e n hb (by simp)) (base.free b o e n (by simp)) (old b o e hb)
 have tB:∀b o,X.s₀.heap.get? b=some o->b∉eQ X.outer->∃o',B.get? b=some o':=λb o e hb=>by
  obtain⟨o',e1⟩:=base.there b o e (by simp);exact F.there b o' e1 (old b o e hb)
 have GU:∀b o,s.heap.get? b=some o->H b=none->b∈eQ X.outer->∃sl,HL.get? b=some {o with slots:=sl}:=λb o e n hb=>by
  obtain⟨sl,e1⟩:=F.un.slot b o e n (sub b hb) (by simp);obtain⟨HI,e2⟩:=M0 b _ e1 (λvs q=>eJ I.acP hb e vs q);exact⟨HI,e2⟩
 refine⟨hf,⟨λb o e n hb _=>st b o (kB b o e n hb),λb o e n hb _=>?_,λb o e n _=>?_,λb o e _=>?_,λb xs e=>F.un.acK b xs (base.acK b xs e),λb o xs e=>F.un.acH b o xs (base.acH b o xs e),λb ps e=>?_⟩,kB,tB,F.hok,F.new⟩
 ·obtain⟨sl,e1⟩:=base.slot b o e n hb (by simp);obtain⟨HI,e2⟩:=GU b _ e1 (base.free b o e n (by simp)) hb;exact⟨HI,e2⟩
 ·obtain⟨o',e1⟩:=base.there b o e (by simp);exact F.un.free b o' e1 (base.free b o e n (by simp)) (by simp)
 ·by_cases hb:b∈eQ X.outer
  ·obtain⟨o',e1⟩:=base.there b o e (by simp);have n:H b=none:=I.ac2 b (sub b hb);obtain⟨sl,e2⟩:=GU b o' e1 n hb;exact⟨_,e2⟩
  ·obtain⟨o',e1⟩:=tB b o e hb;exact⟨o',st b o' e1⟩
 ·obtain⟨m1,e1⟩:=base.acO b ps e;obtain⟨m2,e2⟩:=F.un.acO b _ e1;exact⟨m1++m2,by rw[e2,EH]⟩
end
theorem abo {K:PySem.W.Frag}{cd:ClassData}(h:PySem.W.clsIn K C=some cd):∃c d s,K.lookup C=some ⟨c,d,.cls cd,s⟩:=by
 unfold PySem.W.clsIn at h
 cases ho:K.lookup C with
 |none=>rw[ho] at h;cases h
 |some o =>
  rw[ho] at h;obtain⟨c,d,x,s⟩:=o
  cases x <;> cases h
  exact⟨_,_,_,rfl⟩
theorem abw {α:Type}{l:List α}(h:l.length=6):∃a b c d e f,l=[a,b,c,d,e,f]:=by
 obtain⟨a,l,rfl⟩:=YS h;obtain⟨b,l,rfl⟩:=YS (Y5 h);obtain⟨c,l,rfl⟩:=YS (Y5 (Y5 h));obtain⟨d,l,rfl⟩:=YS (Y5 (Y5 (Y5 h)));obtain⟨e,l,rfl⟩:=YS (Y5 (Y5 (Y5 (Y5 h))));obtain⟨f,rfl⟩:=xD.mp (Y5 (Y5 (Y5 (Y5 (Y5 h)))));exact⟨a,b,c,d,e,f,rfl⟩
theorem abD {K:PySem.W.Frag}{IJ:m8}{newId:String}(X:K.In h)(q:nG K C IJ newId=true):
 ∃bm N nm qn bs hd sn sub ab col dd k0 k1 k2 k3 k5 mN,h.get? C=some (excClassObj nm qn C N bs bm hd sn sub ab col dd k0 k1 k2 k3 k5 newId)/\h.Ns N mN/\mN "__init__"=none/\OwnTail h IJ bm:=by
 have q1:=YK.mp q;obtain⟨cd,hc,q2⟩:=(Option.any_eq_true _ _).mp q1.2;obtain⟨c,dd,sl,ho⟩:=abo hc;have q3:=YK.mp q2;have q4:=YK.mp q3.2;have q5:=YK.mp q4.2;have q6:=YK.mp q5.2
 have e1:(c == .type "type"&&(sl.size==6&&sl.toList[4]?==some (some (.builtin newId))))=true:=by
  have z:=q1.1;rw[ho] at z;exact z
 have e2:=YK.mp e1;have e3:=YK.mp e2.2;obtain⟨k0,k1,k2,k3,k4,k5,e⟩:=abw (l:=sl.toList) (eq_of_beq e3.1)
 have e4:k4=some (.builtin newId):=by
  have z:=eq_of_beq e3.2;rw[e] at z;exact Option.some.inj z
 have e5:sl = #[k0,k1,k2,k3,some (.builtin newId),k5]:=uK.mp (by rw[e,e4])
 have e6:cd.mro=.ref C::cd.mro.tail:=by
  obtain⟨r,z⟩:=List.head?_eq_some_iff.mp (eq_of_beq q3.1);rw[z];rfl
 have e7:cd.hasDel=false:=by simpa using q4.1
 refine⟨cd.mro.tail,cd.ns,cd.name,cd.qualname,cd.bases,cd.hasDict,cd.slotNames,cd.subclasses,cd.abstract,cd.collection,dd,k0,k1,k2,k3,k5,_,(X _ _ ho).trans ?_,.of_isNs (PySem.W.isNs_of_in X q6.1),PySem.W.nsMap_none_of_in X q6.1 (eq_of_beq q6.2),PySem.W.tail_of_in X q5.1⟩;rw[e5,eq_of_beq e2.1];show some (Obj.mk _ _ (.cls cd) _)=some (Obj.mk _ _ (.cls ⟨_,_,_,_,_,_,_,_,_,_,false⟩) _);rw[<-e6,<-e7]
noncomputable def yp (X:Cx)(E:St->XK):Prop:=∀(pins:List (Addr×Obj))(σ:St)(H:Hp)(s:Ci)(h':Heap)(e:Addr)(cls:Value)(args:m8),Inv X pins σ H s->Heap.MadeExcOf s.heap h' e cls args->E σ cls none H->X.xe (.ref e) {s with heap:=h'}
noncomputable def abQ (C:Addr)(E:St->XK)(t:TA):TS:=λ_ σ H=>t σ H λvs H1=>vs.length<=sizeLine/\E σ (.ref C) none H1
section
variable {X:Cx}{E:St->XK}{x:Str}{C:Addr}{B newId IZ:String}{IJ:m8}{np FF pos:Pos}{e:Expr}{es:yD}{t:TA}
theorem fU (FB:ExcBaseFacts B newId IZ IJ)(q:nG X.K C IJ newId=true)(hc:X.calm=true)(hR:yp X E)(hg:Gl X x)(hm:X.mg x=some (.ref C))(ha:PA X (e::es) t)
 (he:starEach (e::es) X.env=(false,eval e X.env):: starEach es X.env:=by rfl)(GI:(backTo FF (starEach es X.env)).any (·.1)=false:=by rfl)(hd:(x==("__debug__":Str))=false:=by decide):
 PS X (.Raise (some (.Call (.Name x np) (e::es) [] FF)) none pos) (abQ C E t):=by
 intro pins s σ H D I h;obtain⟨bm,N,nm,qn,bs,hdct,sn,sub,ab,col,dd,k0,k1,k2,k3,k5,mN,hC,hN,Td,T⟩:=abD I.ok.mod.kin q
 refine wpAny_Raise_call_subT (C:=C) (nm:=nm) (q:=qn) (N:=N) (bs:=bs) (bm:=bm) (hdct:=hdct) (sn:=sn) (sub:=sub) (ab:=ab) (col:=col) (dd:=dd) (k0:=k0) (k1:=k1) (k2:=k2) (k3:=k3) (k5:=k5)
  FB (mN:=mN) (T.hasType FB.hasBase) (I.ok.hd hc) (by rw[he];show(false || (backTo FF (starEach es X.env)).any (·.1))=false;rw[GI];rfl) Td (gm I hg hm ⟨rfl,?_⟩ hd)
 have z:=ha FF pins s σ H _ I h;rw[he] at z |-;refine vd (YR z (λus s₂ z'=>?_) λ_ _ y=>y);obtain⟨vs,H2,I2,rv,hl,hE⟩:=z';exact⟨rfl,by rw[<-rv.length];exact hl,I2.bk _ _ hC,hN.keeps I2.bk,T.keeps I2.bk,λh' e' M3=>hR pins σ H2 s₂ h' e' _ _ I2 M3 hE⟩
end
section
variable {P:wu}{w:World}{K:PySem.W.Frag}{mg:vx}{base:Heap}{N:EG}{qual:Str}{scope:Scope}{f:Addr}{cd:Value}{A:Around}{outer:List Env}{s:Ci}{H:Hp}{E:XK}
theorem dX:yp (gG (cD P w) P w K mg base N qual scope f cd A outer s H E) λ_=>E:=by
 intro pins σ H1 s1 h' e cls args I hm hE;have JX:(gG (cD P w) P w K mg base N qual scope f cd A outer s H E).stack=(gG (cD P w) P w K mg base N qual scope f cd A outer s H E).env::outer:=rfl;have hl:=I.stack;obtain⟨t,he,Xz,ht⟩:=hm.there;have hB:∀b o,(PySem.W.hideAll s1.heap (eQ (gG (cD P w) P w K mg base N qual scope f cd A outer s H E).stack)).get? b=some o->s1.heap.get? b=some o:=λb o q=>PySem.W.of_hideAll _ q
 have nB:(PySem.W.hideAll s1.heap (eQ (gG (cD P w) P w K mg base N qual scope f cd A outer s H E).stack)).get? e=none:=by
  cases q:(PySem.W.hideAll s1.heap (eQ (gG (cD P w) P w K mg base N qual scope f cd A outer s H E).stack)).get? e with
  |none=>rfl
  |some o=>have z:=hB _ _ q;rw[hm.new] at z;cases z
 have Tf:=PySem.W.funFrames_hide hl λenv he a ha=>zA.mpr ⟨env,he,ha⟩
 refine abf (B:=PySem.W.hideAll s1.heap (eQ (gG (cD P w) P w K mg base N qual scope f cd A outer s H E).stack)) (s:={s1 with heap:=h'}) (d:=none) (cls:=cls) (a0:=.ref t) I.ok.frames (Tf.of_keeps λb o q _=>⟨o,hm.keeps b o q,rfl⟩) rfl
  (λb o q=>hm.keeps b o (hB b o q)) nB he rfl rfl rfl rfl rfl λHL x1 x4=>?_
 exact⟨e,cls,.ref t,_,none,H1,rfl,I.os,I.bare,abm (outer:=outer) I rfl rfl hm rfl x1 x4,hE⟩
theorem abR:fB (cD P w) (gG (cD P w) P w K mg base N qual scope f cd A outer s H E) E:=by
 intro pins σ H1 s1 e s' I hx;obtain⟨a,cls,a0,B,d,H',rfl,ho,hg,F,hE⟩:=hx;refine abe (L:=s.heap.objs.size) I.ok.frames rfl F.fly λHL x1 x2=>?_;exact⟨a,cls,a0,B,d,H',rfl,ho.trans I.os,hg,abn I rfl F x1 x2,hE⟩
end
theorem ao {X:Cx}:fB (cD P w) X λ_ _ _=>False:=by
 intro pins σ H1 s1 e s' I hx;obtain⟨a,cls,a0,B,d,H',_,_,_,_,hE⟩:=hx;exact hE.elim
noncomputable def DL (a:Addr)(cls:Value):HO:=.ext λh=>∃o vs,h.get? a=some o/\o.cls=cls/\o.data=.fields vs
theorem abU (k:fZ P w H h)(e:H a=some (DL a cls)):∃o vs,h.get? a=some o/\o.cls=cls/\o.data=.fields vs:=(k a _ e).1
structure vH (K:Frag)(C:Addr):Prop where
 cls:(clsIn K C).isSome=true
 ga:findIn K (.ref C) "__getattribute__"=some (some (.builtin "BaseException.__getattribute__"))
 gx:findIn K (.ref C) "__getattr__"=some none
 ca:findIn K (.ref C) "__class__"=some (some (.builtin "object.__class__"))
 ob:mroIn K C (.type "object")=some true
 be:mroIn K C (.type "BaseException")=some true
section
variable {prog:wu}{w:World}{A:Around}{E:ph}{K:Frag}{x C:Addr}{ox:Obj}
theorem abV {M:Model}{Ih:Value}{Q:Unit->Shared->Prop}(X:K.In s.heap)(k:vH K C)(e:s.heap.get? x=some ox)(hc:ox.cls=.ref C)(hq:Q () s):
 wpAny M A (checkBuiltinCall "BaseException.__getattribute__" ⟨[.ref x,Ih],[]⟩) Q E s:=by
 obtain⟨hh,g,d,t,os⟩:=s;have L0:Looks M hh (typeOf (.ref x)) (.ref C):=hc▸(Looks.ld e).andThen .now;have L5:=looks_mroIn (M:=M) X k.be
 have hk:builtinKind "BaseException.__getattribute__"=some .slot:=by decide +kernel
 have I8:splitId "BaseException.__getattribute__"=some ("BaseException","__getattribute__"):=by decide +kernel
 have ha:=F.args_bexc_ga (.ref x) Ih;simp only[checkBuiltinCall,hk,I8];unfold isInstance
 repeat (any_goals (first|assumption|lk|wp_step))
open Builtin Builtin.ObjectAttr Builtin.Getset_descriptor in
theorem ab5 {R:Result->Shared->Prop}{tp:Value}(X:K.In s.heap)(k:vH K C)(e:s.heap.get? x=some ox)(hc:ox.cls=.ref C)(h:R (.ok (.ret (.ref C))) s):
 codeAny (model prog w) A (.call (.builtin "getset_descriptor.__get__") ⟨[.builtin "object.__class__",.ref x,tp],[]⟩) R s:=by
 obtain⟨hh,g,dr,t,os⟩:=s;have L0:Looks (model prog w) hh (typeOf (.ref x)) (.ref C):=hc▸(Looks.ld e).andThen .now;have L1:=looks_mroIn (M:=model prog w) X k.ob;refine pL KF.slot_gs.plain KF.entry_gs (KF.slot_gs.check _ _ _ _ _ _ _ _ KF.type_class (KF.args_gs _ _ _) ?_);unfold Builtin.«getset_descriptor.__get__» descrGet;rw[dga_obj];refine X9 (Yb ?_);unfold descrGetter descrCheckInstance descrNameAndClass isInstance;simp only[KF.owner_class]
 repeat lk
 refine⟨Code.quiet_builtin _ (by decide +kernel),ZM KF.entry_class ?_⟩;unfold Builtin.«object.__class__» shownTypeOf
 repeat lk
 exact h
theorem ab6 {tk:Tok}{Q:PySem.Fin->Shared->Prop}(X:K.In s.heap)(k:vH K C)(e:s.heap.get? x=some ox)(hc:ox.cls=.ref C)(hq:Q (.done (.ret (.ref C))) s):
 wpAny (model prog w) A (Builtin.«object.__getattribute__» ⟨[.ref x,.str "__class__" tk],[]⟩) Q E s:=by
 obtain⟨hh,g,d,t,os⟩:=s;have L0:Looks (model prog w) hh (typeOf (.ref x)) (.ref C):=hc▸(Looks.ld e).andThen .now;have L3:=looks_findIn (M:=model prog w) X k.ca;have f5:=F.typeOf_object_class;have f6:=F.slot_gs_get.lookup;have f7:=F.slot_gs_set.lookup
 repeat (any_goals (first|assumption|(with_reducible refine Looks.at (by assumption) ?_)|(with_reducible refine Looks.at L0 ?_)|wp_step))
 refine ab5 X k e hc ?_
 repeat (any_goals (first|assumption|wp_step))
theorem ab7 {tk:Tok}{fill expr:Bool}{Q:ph}{s:Ci}(X:K.In s.heap)(k:vH K C)(e:s.heap.get? x=some ox)(hc:ox.cls=.ref C)(hq:Q (.ref C) s):
 wpAny (model prog w) A (getAttrBy (.ref x) (.str "__class__" tk) fill expr) Q E s:=by
 obtain⟨hh,g,d,t,os⟩:=s;have L0:Looks (model prog w) hh (typeOf (.ref x)) (.ref C):=hc▸(Looks.ld e).andThen .now;have L1:=looks_findIn (M:=model prog w) X k.ga;have L2:=looks_findIn (M:=model prog w) X k.gx;have f3:=F.attr_ValueError.ga.bind (.ref x)
 have M4:(expr&&onTheHeap (Value.builtin "BaseException.__getattribute__"))=false:=by cases expr <;> rfl
 have GR:(Value.builtin "BaseException.__getattribute__"==Value.builtin "object.__getattribute__")=false:=by decide +kernel
 have M5:(onTheHeap (Value.ref C)&&Value.builtin "BaseException.__getattribute__"==Value.builtin "object.__getattribute__")=false:=by rw[GR];rfl
 repeat (any_goals (first|assumption|(with_reducible refine Looks.at (by assumption) ?_)|(with_reducible refine Looks.at L0 ?_)|wp_step))
 refine pL F.attr_ValueError.ga.plain F.entry_bexc_ga (abV X k e hc (ab6 X k e hc ?_))
 repeat (any_goals (first|assumption|wp_step))
theorem ab8 {Q:Option Value->Shared->Prop}(X:K.In s.heap)(k:vH K C)(e:s.heap.get? x=some ox)(hc:ox.cls=.ref C)(hq:Q (some (.ref C)) {s with toks:=s.toks+1}):
 wpAny (model prog w) A (getAttr? (.ref x) "__class__") Q E s:=by
 unfold getAttr? getAttrBy?;refine X9 (wpAny_mkText (X9 (ZN (ab7 (s:={s with toks:=s.toks+1}) X k e hc ?_))));exact Yb hq
theorem acj (k:vH K C):KitX K (.ref x) (.ref C) (λh=>∃o,h.get? x=some o/\o.cls=.ref C) where
 ty:=λ_ _ _ ⟨o,e,hc⟩=>hc▸(Looks.ld e).andThen .now
 it:=λ_ _ X _=>by
  have HS:=k.cls;unfold clsIn at HS
  split at HS
  ·rename_i c' d' Tg HI ho
   intro A' Q' E' s' kk q;unfold isType loadHead;exact X9 (wpAny_loadPart (kk _ _ (X _ _ ho)) (Yb q))
  ·cases HS
 ne:=λh tp dd its n sl X Ti=>by
  have HS:=k.cls;refine Bool.eq_false_iff.mpr λq=>?_;have e:C=tp:=Value.ref.inj (BS.mp q);subst e;unfold clsIn at HS
  split at HS
  ·rename_i c' d' Tg HI ho
   have z:=(X _ _ ho).symm.trans Ti
   cases z
  ·cases HS
 ca:=λX ⟨o,e,hc⟩ q=>ab8 X k e hc q
end
section
variable {X:Cx}{pins:List (Addr×Obj)}{σ:St}{H:Hp}{s:Ci}
inductive zJ (K:Frag)(H:Hp):V->Value->Prop where
 |of {x:V}{t:Value}(h:Ak K H x t):zJ K H x t
 |exc {a C:Addr}(e:H a=some (DL a (.ref C)))(k:vH K C):zJ K H (.ref a) (.ref C)
theorem ack {A:Around}{E:ph}{Q:ph}{x:V}{u t c:Value}{b:Bool}(I:Inv X pins σ H s)(rx:aG x u)(ty:zJ X.K H x t)(e:kitOne X.K t c=some b)(h:∀tk,Q (.bool b) {s with toks:=tk}):
 wpAny (model X.prog X.w) A (call (.builtin "isinstance") [u,c]) Q E s:=by
 cases ty with
 |of z=>exact adq I rx z e h
 |exc ea k =>
  rename_i a C
  cases(show u=Value.ref a from rx)
  obtain⟨o,vs,h1,h2,_⟩:=abU I.hok ea;exact kia_one (acj k) I.kIn ⟨o,h1,h2⟩ e (λz=>nomatch z) h
noncomputable def acA:V->Value->Prop
 | .ty n,c=>c=.type n
 | .ref a,c=>c=.ref a
 |_,_=>False
theorem aZ:cT X (.builtin "isinstance") (λxs H Q=>∃x c t cv b,xs=[x,c]/\acA c cv/\zJ X.K H x t/\kitOne X.K t cv=some b/\Q (.bl b) H):=by
 intro pins s σ H xs us Q I r h;obtain⟨x,c,t,cv,b,rfl,hc,ty,e,q⟩:=h
 cases r with
 |cons r1 r2 =>
  cases r2 with
  |cons r2 r3 =>
   cases r3
   rename_i u uc
   have Tj:uc=cv:=by
    cases c with
    |ty n=>cases(show uc=Value.type n from r2);exact hc.symm
    |ref a=>cases(show uc=Value.ref a from r2);exact hc.symm
    |_=>exact hc.elim
   subst Tj;exact ack I r1 ty e λtk=>⟨.bl b,H,I.tok tk,rfl,q⟩
end
variable {N:EG}{k:Nat}{sp:Sp}
section
variable {P:wu}{w:World}{K:PySem.W.Frag}{mg:vx}{base:Heap}
theorem vP.okN (F:vP K x qual st f fd)(S:CN N ps (ar st))(len:∀vs H Q E,sp vs H Q E->vs.length=ps.length)
 (F3:∀(Fv:Value)(A:Around)(outer:List Env)(s:Ci)(H:Hp)(vs:List V)(Q:VK)(E:XK),xh k (A.deeper (envOfC qual (ar st) s.heap.objs.size f Fv))->sp vs H Q E →
  ∃t,oO (gG (cD P w) P w K mg base N qual (ar st) f Fv A outer s H E).nox (cj st) t/\t {nx:=λ_ H'=>Q .non H',rt:=Q} (gI N vs) H):yd P w K mg base (cD P w) (k+1) f fd ps sp:=by
 obtain⟨oc,od,kV,doc,pm,an,Fv,ct,FX,rfl,lk,Gg⟩:=F.ex;refine wY lk Gg S len λA outer s H vs Q E hr GY=>?_;obtain⟨t,h,q⟩:=F3 Fv A outer s H vs Q E hr GY;exact⟨t,h.nox,q⟩
theorem vP.okE (F:vP K x qual st f fd)(S:CN N ps (ar st))(len:∀vs H Q E,sp vs H Q E->vs.length=ps.length)
 (F3:∀(Fv:Value)(A:Around)(outer:List Env)(s:Ci)(H:Hp)(vs:List V)(Q:VK)(E:XK),xh k (A.deeper (envOfC qual (ar st) s.heap.objs.size f Fv))->sp vs H Q E →
  ∃t,oO (gG (cD P w) P w K mg base N qual (ar st) f Fv A outer s H E) (cj st) t/\t {nx:=λ_ H'=>Q .non H',rt:=Q} (gI N vs) H):yd P w K mg base (cD P w) (k+1) f fd ps sp:=by
 obtain⟨oc,od,kV,doc,pm,an,Fv,ct,FX,rfl,lk,Gg⟩:=F.ex;exact wY lk Gg S len λA outer s H vs Q E hr GY=>F3 Fv A outer s H vs Q E hr GY
end
section
variable {X:Cx}
noncomputable def adx (K:PySem.W.Frag):R2:=λx y H Q=>∃p q xs,x=.ref p/\y=.ref q/\bo K H p xs/\bo K H q []/\Q (.bl (decide (xs=[]))) H
theorem n4 (hr:xh k X.A):eA X (compareOp .Eq) (adx X.K):=by
 intro pins s σ H x y v u Q I rx ry h;obtain⟨p,q,xs,rfl,rfl,h1,h2,w⟩:=h
 cases(show v=Value.ref p from rx)
 cases(show u=Value.ref q from ry)
 obtain⟨its,r1,p1,_⟩:=I.list h1;obtain⟨Fx,r2,p2,_⟩:=I.list h2
 cases r2
 by_cases e:xs=[]
 ·subst e
  cases r1
  refine SeqAt.eq_listAt (e:=λ_=>true) p1.isList p2.isList rfl hr.adp (λj a b=>absurd a (by simp)) ⟨.bl true,H,I,?_,by simpa using w⟩;rfl
 ·refine SeqAt.eq_list_lengthsAt p1.isList p2.isList ?_ hr.adp ⟨.bl false,H,I,rfl,by simpa[e] using w⟩;have hl:=r1.length;have hx:xs.length≠0:=λz=>e (zq z)
  have:its.toArray.size≠0:=by rw[Yj];omega
  simpa using this
end
noncomputable def xK (tabs:List (Addr×Addr))(H:Hp):Prop:=(∀b,H b=none\/(∃o xs,H b=some (.frz o (.lst xs)))\/(H b=some (.tbl #[])/\∃c,(c,b)∈tabs))/\∀q∈tabs,H q.2=some (.tbl #[])
structure uE (tabs:List (Addr×Addr))(mg:vx)(base:Heap):Prop where
 hd:∀q∈tabs,CodeHd base q.1 q.2
 bm:∃bm ob,mg "__builtins__"=some (.ref bm)/\bm≠builtinsNs/\base.get? bm=some ob/\ob.cls=.type "module"/\ob.dict=some builtinsNs/\ob.data=.plain
variable {K:Frag}
theorem ady {mg mb:vx}{CX:EM}{fa:Addr}{s₁:Ci}{vs:m8}{ns:List Int}{tabs:List (Addr×Addr)}
 (KX:K.In s₁.heap)(MX:s₁.heap.Ns mainGlobals mg)(hb:s₁.heap.Ns builtinsNs mb)(Tn:∀x:Str,x ≠ "__name__"->mb x=bootBuiltins x)(NX:s₁.heap.NoLimit)(hg:s₁.gens = #[])
 (ha:s₁.heap.get? a=some {cls:=.type "list",data:=.seq vs.toArray})(hi:IntsAre vs ns)(hl:ns.length<=sizeLine)(hr:xh k callerA)(hT:TabsAt tabs s₁.heap)(To:∀q∈tabs,K.lookup q.2=none)
 (Tp:∃bm ob,mg "__builtins__"=some (.ref bm)/\bm≠builtinsNs/\s₁.heap.get? bm=some ob/\ob.cls=.type "module"/\ob.dict=some builtinsNs/\ob.data=.plain)
 (F:∀base:Heap,K.In base->base.Ns mainGlobals mg->uE tabs mg base->yd P w K mg base CX k fa fd [x] sp)(Kf:∀(s:Ci)(u:Value),BindsTo s fd ⟨[u],[]⟩ [(x,u)])
 (GY:∀H:Hp,xK tabs H->bo K H a (ns.map V.int)->sp [.ref a] H (λv _=>v=.bl true) λ_ _ _=>False)
 (NY:∀H e s',CX [] H s₁ (λ_ _ _=>False) e s'->False):
 codeAny (model P w) callerA (.call (.ref fa) ⟨[.ref a],[]⟩) (λr s'=>r=.ok (.ret (.bool true))/\OldK s₁.heap s'.heap/\s'.os=s₁.os/\AllBare s'.gens) s₁:=by
 have rv:=lW hi;have NZ:=hi.length;have tO:∀b,(∃c,(c,b)∈tabs)->s₁.heap.get? b=some (tabObj #[]):=λb ⟨c,hc⟩=>(hT _ hc).2
 have core:∀H:Hp,xK tabs H->bo K H a (ns.map V.int)->fZ P w H s₁.heap->(∀b,H b≠none->b=a\/∃c,(c,b)∈tabs)->(H a≠none->K.lookup a=none) →
  codeAny (model P w) callerA (.call (.ref fa) ⟨[.ref a],[]⟩) (λr s'=>r=.ok (.ret (.bool true))/\OldK s₁.heap s'.heap/\s'.os=s₁.os/\AllBare s'.gens) s₁:=by
  intro H hO hS hok hA hK;have base_of:∀{b:Addr}{o:Obj},s₁.heap.get? b=some o->H b=none->(lh s₁.heap H).get? b=some o:=λe n=>adK e n
  have QV:∀{b:Addr}{o:Obj},s₁.heap.get? b=some o->o.cls≠.none->(∀its n,o.data≠.seq its n)->H b=none:=λ{b o} e d1 d2=>by
   cases q:H b with
   |none=>rfl
   |some u =>
    rcases hA b (by rw[q];simp) with e'|e'
    ·subst e';rw[ha] at e;cases e;exact absurd rfl (d2 _ _)
    ·rw[tO b e'] at e;cases e;exact absurd rfl d1
  have J1:∀{b:Addr}{o:Obj}{es:Array DictEntry}{ep:Nat},s₁.heap.get? b=some o->o.data=.dict es ep->H b=none:=λ{b o es ep} e d=>by
   cases q:H b with
   |none=>rfl
   |some u =>
    rcases hA b (by rw[q];simp) with e'|e'
    ·subst e';rw[ha] at e;cases e;have d':Data.seq vs.toArray _=Data.dict es ep:=d
     cases d'
    ·rw[tO b e'] at e;cases e;have d':Data.fields #[]=Data.dict es ep:=d
     cases d'
  have M6:∀{b:Addr}{m:vx},s₁.heap.Ns b m->(lh s₁.heap H).Ns b m:=λ{b m} ⟨o,es,ep,e,d,r⟩=>⟨o,es,ep,base_of e (J1 e d),d,r⟩
  have QW:K.In (lh s₁.heap H):=λb o e=>base_of (KX b o e) (by
   cases q:H b with
   |none=>rfl
   |some u =>
    rcases hA b (by rw[q];simp) with e'|⟨c,e'⟩
    ·subst e';rw[hK (by rw[q];simp)] at e;cases e
    ·have z:=To _ e'
     rw[z] at e;cases e)
  have hM:Mod K mg (lh s₁.heap H):=⟨QW,M6 MX,⟨mb,M6 hb,Tn⟩,let⟨mc,h1,h2⟩:=NX;⟨mc,M6 h1,h2⟩⟩
  have Tq:uE tabs mg (lh s₁.heap H):=by
   refine⟨λq hq=>?_,?_⟩
   ·obtain⟨o,ws,file,tf,flags,tg,Tr,text,tt,e1,r1,r2,r3⟩:=(hT q hq).1;exact⟨o,ws,file,tf,flags,tg,Tr,text,tt,base_of e1 (QV e1 (by rw[r1];intro z;cases z) (λits n z=>by rw[r2] at z;cases z)),r1,r2,r3⟩
   ·obtain⟨bm,ob,b1,b2,b3,b4,b5,b6⟩:=Tp;exact⟨bm,ob,b1,b2,base_of b3 (QV b3 (by rw[b4];intro z;cases z) (λits n z=>by rw[b6] at z;cases z)),b4,b5,b6⟩
  have e0:Dm P w K mg (lh s₁.heap H) callerA [] s₁ H:=⟨rfl,hM,λb o e=>acQ e,wk (adU _ _),trivial,λb hb=>absurd (show b∈([]:List Addr) from hb) (by simp),hok,.of_eq hg⟩;refine rC ((F _ QW (M6 MX) Tq).run callerA [] s₁ H ⟨[.ref a],[]⟩ [.ref a] [.ref a] _ _ hr e0 (Kf s₁ (.ref a)) (.cons rfl .nil) (GY H hO hS)) λr s' h=>?_
  cases r with
  |error e=>exact(NY H e s' h).elim
  |ok fl =>
   cases fl with
   |next=>exact False.elim h
   |brk=>exact False.elim h
   |cont=>exact False.elim h
   |ret u =>
    obtain⟨v,H',os,bare,un,Kg,r',q⟩:=h;have q':v=.bl true:=q;subst q';obtain rfl:u=Value.bool true:=r';refine⟨rfl,⟨λb o e=>?_,λb o e=>un.there b o e (by simp)⟩,os,bare⟩
    cases q:H b with
    |none=>exact .inl (un.keep b o e q (by intro z;exact absurd (show b∈([]:List Addr) from z) (by simp)) (by simp))
    |some u =>
     rcases hO.1 b with z|⟨ob,xs,z⟩|⟨z,c,hc⟩
     ·rw[q] at z;cases z
     ·have z2:=un.acH b ob _ z;obtain⟨e1,_⟩:=hok b _ z;obtain⟨e2,_⟩:=Kg b _ z2;rw[e] at e1;cases e1;exact .inl e2
     ·obtain⟨more,z2⟩:=un.acO b _ z;have e2:s'.heap.get? b=some {cls:=.none,data:=.fields (#[]++more)}:=Kg b _ z2;have e1:=tO b ⟨c,hc⟩;rw[e] at e1;cases e1;exact .inr (.inl ⟨((hT _ hc).1.tab (hT _ hc).2).isCodeTable,rfl,#[],more,rfl,e2⟩)
 have aT:∀c,(c,a)∉tabs:=λc hc=>by
  have z:=tO a ⟨c,hc⟩;rw[ha] at z
  cases z
 have Kh:∀b,Decidable (∃c,(c,b)∈tabs):=λb=>Classical.propDecidable _
 cases hk:K.lookup a with
 |some o =>
  have e:=KX a o hk;rw[ha] at e
  cases e
  refine core (λb=>@ite _ (∃c,(c,b)∈tabs) (Kh b) (some (.tbl #[])) none) ⟨λb=>?_,λq hq=>?_⟩ (.inr ⟨_,vs.toArray,_,hk,rfl,rfl,rfl,by rw[Yj,NZ];exact hl,by simpa using rv⟩) (λb u z=>?_) (λb z=>?_) λz=>?_
  ·by_cases hb:∃c,(c,b)∈tabs
   ·exact .inr (.inr ⟨Yh hb,hb⟩)
   ·exact .inl (Yd hb)
  ·exact Yh ⟨q.1,hq⟩
  ·by_cases hb:∃c,(c,b)∈tabs
   ·have z':=(Yh hb).symm.trans z
    cases z'
    exact tO b hb
   ·have z':=(Yd hb).symm.trans z
    cases z'
  ·by_cases hb:∃c,(c,b)∈tabs
   ·exact .inr hb
   ·exact absurd (Yd hb) z
  ·exact absurd (Yd λ⟨c,hc⟩=>aT c hc) z
 |none =>
  refine core (λb=>if b=a then some (.frz {cls:=.type "list",data:=.seq vs.toArray} (.lst (ns.map V.int))) else @ite _ (∃c,(c,b)∈tabs) (Kh b) (some (.tbl #[])) none) ⟨λb=>?_,λq hq=>?_⟩ (.inl (.inr ⟨{cls:=.type "list",data:=.seq vs.toArray},Yh rfl⟩)) (λb u z=>?_) (λb z=>?_) λ_=>hk
  ·by_cases hb:b=a
   ·exact .inr (.inl ⟨_,_,Yh hb⟩)
   ·by_cases ht:∃c,(c,b)∈tabs
    ·exact .inr (.inr ⟨(Yd hb).trans (Yh ht),ht⟩)
    ·exact .inl ((Yd hb).trans (Yd ht))
  ·have hb:q.2≠a:=λz=>aT q.1 (by rw[<-z];exact hq);exact(Yd hb).trans (Yh ⟨q.1,hq⟩)
  ·by_cases hb:b=a
   ·have z':=(Yh hb).symm.trans z
    cases z'
    subst hb;exact⟨ha,by rw[Yg];exact hl,vs,_,rv,ha⟩
   ·have z':=(Yd hb).symm.trans z
    by_cases ht:∃c,(c,b)∈tabs
    ·have z2:=(Yh ht).symm.trans z'
     cases z2
     exact tO b ht
    ·have z2:=(Yd ht).symm.trans z'
     cases z2
  ·by_cases hb:b=a
   ·exact .inl hb
   ·by_cases ht:∃c,(c,b)∈tabs
    ·exact .inr ht
    ·exact absurd ((Yd hb).trans (Yd ht)) z
structure rK (K:Frag)(x qual:Str)(st:Stmt)(f:Addr)(fd:BB)(T:Addr):Prop where
 ex:∃(oc:Value)(od:vA)(kV doc pm:Value)(an:vA)(Fv ct:Value)(FX:CI),
  fd=fnOf x qual (cL st) (cj st) (ar st) (.ref T) kV doc pm an Fv ct/\K.lookup f=some ⟨oc,od,.func fd,FX⟩/\codeIn K Fv qual=true
 kp:keepIn K (.ref f)=true
section
variable {P:wu}{w:World}{K:Frag}{mg:vx}{base:Heap}
theorem rK.okE {T:Addr}(F:rK K x qual st f fd T)(S:CN N ps (ar st))(len:∀vs H Q E,sp vs H Q E->vs.length=ps.length)
 (F3:∀(Fv:Value)(A:Around)(outer:List Env)(s:Ci)(H:Hp)(vs:List V)(Q:VK)(E:XK),xh k (A.deeper (envOfC qual (ar st) s.heap.objs.size f Fv))->sp vs H Q E →
  ∃t,oO (gG (cD P w) P w K mg base N qual (ar st) f Fv A outer s H E) (cj st) t/\t {nx:=λ_ H'=>Q .non H',rt:=Q} (gI N vs) H):yd P w K mg base (cD P w) (k+1) f fd ps sp:=by
 obtain⟨oc,od,kV,doc,pm,an,Fv,ct,FX,rfl,lk,Gg⟩:=F.ex;exact wY lk Gg S len λA outer s H vs Q E hr GY=>F3 Fv A outer s H vs Q E hr GY
theorem adz {T:Addr}{oc:Value}{od an:vA}{FX:CI}{kV doc pm Fv ct:Value}(l:K.lookup f=some ⟨oc,od,.func (fnOf x qual (cL st) (cj st) (ar st) (.ref T) kV doc pm an Fv ct),FX⟩)
 (c:codeIn K Fv qual=true)(k:keepIn K (.ref f)=true):rK K x qual st f (fnOf x qual (cL st) (cj st) (ar st) (.ref T) kV doc pm an Fv ct) T:=⟨⟨oc,od,kV,doc,pm,an,Fv,ct,FX,rfl,l,c⟩,k⟩
end
noncomputable def fV:Expr->Bool
 | .Starred _ _=>true
 |_=>false
theorem bz {e:Expr}{rest:yD}(h:fV e=false):starEach (e::rest) env=(false,eval e env):: starEach rest env:=by
 cases e <;> first|rfl|cases h
section
variable {X:Cx}{e:Expr}{es:yD}{te:TE}{t:TA}
theorem aj (ha:PE X e te)(hr:PA X es t)(h:fV e=false:=by rfl):PA X (e::es) (bq te t):=cq ha hr (bz h)
end
inductive D where
 |non|bl (b:Bool)|int (i:Int)|str (x:Str)|lst (ds:List D)|tup (ds:List D)
mutual
noncomputable def aM (K:Frag)(H:Hp):D->V->Prop
 | .non,v=>v=.non
 | .bl b,v=>v=.bl b
 | .int i,v=>v=.int i
 | .str x,v=>v=.str x
 | .lst ds,v=>∃a xs,v=.ref a/\bo K H a xs/\bg K H ds xs
 | .tup ds,v=>∃a xs,v=.ref a/\aV K H a xs/\bg K H ds xs
noncomputable def bg (K:Frag)(H:Hp):List D->List V->Prop
 |[],xs=>xs=[]
 |d::ds,xs=>∃y ys,xs=y::ys/\aM K H d y/\bg K H ds ys
end
mutual
noncomputable def gZ:D->D->Bool
 | .non,.non=>true
 | .bl a,.bl b=>a==b
 | .bl a,.int b=>(if a then 1 else 0)==b
 | .int a,.bl b=>a==(if b then 1 else 0)
 | .int a,.int b=>a==b
 | .str a,.str b=>a==b
 | .lst a,.lst b=>eF a b
 | .tup a,.tup b=>eF a b
 |_,_=>false
noncomputable def eF:List D->List D->Bool
 |[],[]=>true
 |a::as,b::bs=>gZ a b&&eF as bs
 |_,_=>false
end
mutual
noncomputable def iF:D->Nat
 | .lst ds=>eW ds+1
 | .tup ds=>eW ds+1
 |_=>0
noncomputable def eW:List D->Nat
 |[]=>0
 |d::ds=>max (iF d) (eW ds)
end
theorem sf:∀{ds:List D}{d:D},d∈ds->iF d<=eW ds
 |e::ds,d,h=>by
  unfold eW
  rcases Yn.mp h with rfl|h
  ·exact Nat.le_max_left _ _
  ·exact Yq (sf h) (Nat.le_max_right _ _)
theorem gU:∀(as bs:List D),eF as bs=((List.range (min as.length bs.length)).all (λj=>gZ (as.getD j .non) (bs.getD j .non))&&as.length==bs.length)
 |[],[]=>rfl
 |[],b::bs=>by simp;rfl
 |a::as,[]=>by simp;rfl
 |a::as,b::bs=>by
  show(gZ a b&&eF as bs)=_;rw[gU as bs]
  have e:min (a::as).length (b::bs).length=min as.length bs.length+1:=by simp[Nat.succ_min_succ]
  rw[e,List.range_succ_eq_map,Z3,Z9]
  have h1:((a::as).length==(b::bs).length)=(as.length==bs.length):=by simp
  rw[h1,Bool.and_assoc];rfl
theorem bg.len :∀{ds:List D}{xs:List V},bg K H ds xs->ds.length=xs.length
 |[],xs,h=>by
  have h:xs=[]:=by unfold bg at h;exact h
  rw[h];rfl
 |d::ds,xs,h=>by
  unfold bg at h;obtain⟨y,ys,rfl,_,h⟩:=h;simp[bg.len h]
theorem bg.get :∀{ds:List D}{xs:List V}{j:Nat}(hj:j<xs.length),bg K H ds xs->aM K H (ds.getD j .non) xs[j]/\ds.getD j .non∈ds
 |[],xs,j,hj,h=>by
  have h:xs=[]:=by unfold bg at h;exact h
  subst h;exact absurd hj (by simp)
 |d::ds,xs,j,hj,h=>by
  unfold bg at h;obtain⟨y,ys,rfl,hd,h⟩:=h
  cases j with
  |zero=>exact⟨hd,Yl⟩
  |succ j =>
   obtain⟨h1,h2⟩:=bg.get (j:=j) (by simpa using hj) h;exact⟨h1,Yi _ h2⟩
mutual
theorem eO:∀d:D,gZ d d=true
 | .non=>rfl
 | .bl b=>C0 b
 | .int i=>C0 i
 | .str x=>C0 x
 | .lst ds=>iI ds
 | .tup ds=>iI ds
theorem iI:∀ds:List D,eF ds ds=true
 |[]=>rfl
 |d::ds=>by show(gZ d d&&eF ds ds)=true;rw[eO d,iI ds];rfl
end
section
variable {X:Cx}{pins:List (Addr×Obj)}{σ:St}{H:Hp}{s:Ci}
theorem gh (I:Inv X pins σ H s){xs ys:List V}(h1:bo X.K H a xs)(h2:aV X.K H a ys):False:=by
 obtain⟨its,_,p1,_⟩:=I.list h1;obtain⟨Fx,_,p2,_⟩:=I.tuple h2;exact SeqAt.ne_of_list_tuple p1.isList (show s.heap.IsTuple a Fx.toArray from p2) rfl
mutual
theorem jU (I:Inv X pins σ H s):∀(d e:D)(v:V),aM X.K H d v->aM X.K H e v->gZ d e=true
 | .non,e,v,h1,h2=>by
   unfold aM at h1;subst h1
   cases e <;> unfold aM at h2 <;> first|(obtain⟨_,_,z,_⟩:=h2;cases z;done)|rfl|(cases h2;done)
 | .bl b,e,v,h1,h2=>by
   unfold aM at h1;subst h1
   cases e <;> unfold aM at h2 <;> first|(obtain⟨_,_,z,_⟩:=h2;cases z;done)|(cases h2;exact eO _)|(cases h2;done)
 | .int b,e,v,h1,h2=>by
   unfold aM at h1;subst h1
   cases e <;> unfold aM at h2 <;> first|(obtain⟨_,_,z,_⟩:=h2;cases z;done)|(cases h2;exact eO _)|(cases h2;done)
 | .str b,e,v,h1,h2=>by
   unfold aM at h1;subst h1
   cases e <;> unfold aM at h2 <;> first|(obtain⟨_,_,z,_⟩:=h2;cases z;done)|(cases h2;exact eO _)|(cases h2;done)
 | .lst ds,e,v,h1,h2=>by
   unfold aM at h1;obtain⟨a,xs,rfl,q,r⟩:=h1
   cases e with
   |lst es =>
    unfold aM at h2;obtain⟨b,ys,z,q2,r2⟩:=h2
    cases z
    have e:=I.ac4 q q2;subst e;exact iG I ds es xs r r2
   |tup es =>
    unfold aM at h2;obtain⟨b,ys,z,q2,r2⟩:=h2
    cases z
    exact(gh I q q2).elim
   |_=>unfold aM at h2;cases h2
 | .tup ds,e,v,h1,h2=>by
   unfold aM at h1;obtain⟨a,xs,rfl,q,r⟩:=h1
   cases e with
   |tup es =>
    unfold aM at h2;obtain⟨b,ys,z,q2,r2⟩:=h2
    cases z
    have e:=I.acN q q2;subst e;exact iG I ds es xs r r2
   |lst es =>
    unfold aM at h2;obtain⟨b,ys,z,q2,r2⟩:=h2
    cases z
    exact(gh I q2 q).elim
   |_=>unfold aM at h2;cases h2
theorem iG (I:Inv X pins σ H s):∀(ds es:List D)(xs:List V),bg X.K H ds xs->bg X.K H es xs->eF ds es=true
 |[],es,xs,h1,h2=>by
  unfold bg at h1;subst h1
  cases es with
  |nil=>rfl
  |cons e es=>unfold bg at h2;obtain⟨_,_,z,_⟩:=h2;cases z
 |d::ds,es,xs,h1,h2=>by
  unfold bg at h1;obtain⟨y,ys,rfl,hd,h1⟩:=h1
  cases es with
  |nil=>unfold bg at h2;cases h2
  |cons e es =>
   unfold bg at h2;obtain⟨_,_,z,he,h2⟩:=h2
   cases z
   show(gZ d e&&eF ds es)=true;rw[jU I d e y hd he,iG I ds es ys h1 h2];rfl
end
theorem jI (I:Inv X pins σ H s)(n:Nat)(ih:n≠0->∀(A:Around)(d e:D)(x y:V)(u v:Value),iF d<=n-1->A.units+(n-1)<cLine->aM X.K H d x->aM X.K H e y->aG x u->aG y v->SeqAt.EqAt A s u v (gZ d e))
 (Ts:n≠0)(A:Around)(hu:A.units+n<cLine){ds es:List D}{xs ys:List V}{its Fx:m8}(r1:bg X.K H ds xs)(r2:bg X.K H es ys)(rv:aR xs its)(Gj:aR ys Fx)(hn:eW ds<=n-1):
 ∀j (h1:j<its.toArray.size)(h2:j<Fx.toArray.size),SeqAt.EqAt A.in1 s its.toArray[j] Fx.toArray[j] (gZ (ds.getD j .non) (es.getD j .non)):=by
 intro j h1 h2
 have e1:j<xs.length:=by rw[rv.length];simpa using h1
 have e2:j<ys.length:=by rw[Gj.length];simpa using h2
 obtain⟨d1,m1⟩:=r1.get e1;obtain⟨d2,m2⟩:=r2.get e2;obtain⟨u,Tt,ru⟩:=rv.get (YZ e1);obtain⟨v,Tu,Tv⟩:=Gj.get (YZ e2)
 have z1:its.toArray[j]=u:=by
  have:=YO.mp Tt;obtain⟨_,q⟩:=this;simpa using q
 have z2:Fx.toArray[j]=v:=by
  have:=YO.mp Tu;obtain⟨_,q⟩:=this;simpa using q
 rw[z1,z2];exact ih Ts A.in1 _ _ _ _ _ _ (Yq (sf m1) hn) (by show A.units+1+(n-1)<cLine;omega) d1 d2 ru Tv
theorem lL (I:Inv X pins σ H s)(n:Nat)(ih:n≠0->∀(A:Around)(d e:D)(x y:V)(u v:Value),iF d<=n-1->A.units+(n-1)<cLine->aM X.K H d x->aM X.K H e y->aG x u->aG y v->SeqAt.EqAt A s u v (gZ d e))
 (A:Around)(d e:D)(x y:V)(u v:Value)(hn:iF d<=n)(hu:A.units+n<cLine)(h1:aM X.K H d x)(h2:aM X.K H e y)(rx:aG x u)(ry:aG y v):
 SeqAt.RcAt A s u v (gZ d e)/\SeqAt.EqAt A s u v (gZ d e)/\SeqAt.RcNeAt A s u v (!gZ d e):=by
 have FE:A.units<cLine:=by omega
 cases d with
 |non =>
  unfold aM at h1;subst h1
  cases rx
  cases e with
  |non =>
   unfold aM at h2;subst h2
   cases ry
   exact⟨.none_none,.same _,.none_none⟩
  |bl q =>
   unfold aM at h2;subst h2
   cases ry
   exact⟨.none_bool q,.none_bool q,.none_bool q⟩
  |int q =>
   unfold aM at h2;subst h2;obtain⟨tq,rfl⟩:=ry;exact⟨.none_int q tq,.none_int q tq,.none_int q tq⟩
  |str q =>
   unfold aM at h2;subst h2;obtain⟨tq,rfl⟩:=ry;exact⟨.none_str q tq,.none_str q tq,.none_str q tq⟩
  |lst es =>
   unfold aM at h2;obtain⟨b,ys,rfl,q2,r2⟩:=h2
   cases ry
   obtain⟨Fx,Gj,p2,_⟩:=I.list q2;exact⟨.none_list  p2.isList FE,.none_list  p2.isList FE,.none_list  p2.isList FE⟩
  |tup es =>
   unfold aM at h2;obtain⟨b,ys,rfl,q2,r2⟩:=h2
   cases ry
   obtain⟨Fx,Gj,p2,_⟩:=I.tuple q2;have p2:s.heap.IsTuple b Fx.toArray:=p2;exact⟨.none_tuple  p2 FE,.none_tuple  p2 FE,.none_tuple  p2 FE⟩
 |bl p =>
  unfold aM at h1;subst h1
  cases rx
  cases e with
  |non =>
   unfold aM at h2;subst h2
   cases ry
   exact⟨.bool_none p,.bool_none p,.bool_none p⟩
  |bl q =>
   unfold aM at h2;subst h2
   cases ry
   exact⟨.bool_bool p q,.bool_bool p q,.bool_bool p q⟩
  |int q =>
   unfold aM at h2;subst h2;obtain⟨tq,rfl⟩:=ry;exact⟨.bool_int p q tq,.bool_int p q tq,.bool_int p q tq⟩
  |str q =>
   unfold aM at h2;subst h2;obtain⟨tq,rfl⟩:=ry;exact⟨.bool_str p q tq,.bool_str p q tq,.bool_str p q tq⟩
  |lst es =>
   unfold aM at h2;obtain⟨b,ys,rfl,q2,r2⟩:=h2
   cases ry
   obtain⟨Fx,Gj,p2,_⟩:=I.list q2;exact⟨.bool_list p p2.isList FE,.bool_list p p2.isList FE,.bool_list p p2.isList FE⟩
  |tup es =>
   unfold aM at h2;obtain⟨b,ys,rfl,q2,r2⟩:=h2
   cases ry
   obtain⟨Fx,Gj,p2,_⟩:=I.tuple q2;have p2:s.heap.IsTuple b Fx.toArray:=p2;exact⟨.bool_tuple p p2 FE,.bool_tuple p p2 FE,.bool_tuple p p2 FE⟩
 |int p =>
  unfold aM at h1;subst h1;obtain⟨tp,rfl⟩:=rx
  cases e with
  |non =>
   unfold aM at h2;subst h2
   cases ry
   exact⟨.int_none p tp,.int_none p tp,.int_none p tp⟩
  |bl q =>
   unfold aM at h2;subst h2
   cases ry
   exact⟨.int_bool p tp q,.int_bool p tp q,.int_bool p tp q⟩
  |int q =>
   unfold aM at h2;subst h2;obtain⟨tq,rfl⟩:=ry;exact⟨.int_int p tp q tq,.int_int p tp q tq,.int_int p tp q tq⟩
  |str q =>
   unfold aM at h2;subst h2;obtain⟨tq,rfl⟩:=ry;exact⟨.int_str p tp q tq,.int_str p tp q tq,.int_str p tp q tq⟩
  |lst es =>
   unfold aM at h2;obtain⟨b,ys,rfl,q2,r2⟩:=h2
   cases ry
   obtain⟨Fx,Gj,p2,_⟩:=I.list q2;exact⟨.int_list p tp p2.isList FE,.int_list p tp p2.isList FE,.int_list p tp p2.isList FE⟩
  |tup es =>
   unfold aM at h2;obtain⟨b,ys,rfl,q2,r2⟩:=h2
   cases ry
   obtain⟨Fx,Gj,p2,_⟩:=I.tuple q2;have p2:s.heap.IsTuple b Fx.toArray:=p2;exact⟨.int_tuple p tp p2 FE,.int_tuple p tp p2 FE,.int_tuple p tp p2 FE⟩
 |str p =>
  unfold aM at h1;subst h1;obtain⟨tp,rfl⟩:=rx
  cases e with
  |non =>
   unfold aM at h2;subst h2
   cases ry
   exact⟨.str_none p tp,.str_none p tp,.str_none p tp⟩
  |bl q =>
   unfold aM at h2;subst h2
   cases ry
   exact⟨.str_bool p tp q,.str_bool p tp q,.str_bool p tp q⟩
  |int q =>
   unfold aM at h2;subst h2;obtain⟨tq,rfl⟩:=ry;exact⟨.str_int p tp q tq,.str_int p tp q tq,.str_int p tp q tq⟩
  |str q =>
   unfold aM at h2;subst h2;obtain⟨tq,rfl⟩:=ry;exact⟨.str_str p tp q tq,.str_str p tp q tq,.str_str p tp q tq⟩
  |lst es =>
   unfold aM at h2;obtain⟨b,ys,rfl,q2,r2⟩:=h2
   cases ry
   obtain⟨Fx,Gj,p2,_⟩:=I.list q2;exact⟨.str_list p tp p2.isList FE,.str_list p tp p2.isList FE,.str_list p tp p2.isList FE⟩
  |tup es =>
   unfold aM at h2;obtain⟨b,ys,rfl,q2,r2⟩:=h2
   cases ry
   obtain⟨Fx,Gj,p2,_⟩:=I.tuple q2;have p2:s.heap.IsTuple b Fx.toArray:=p2;exact⟨.str_tuple p tp p2 FE,.str_tuple p tp p2 FE,.str_tuple p tp p2 FE⟩
 |lst ds =>
  unfold aM at h1;obtain⟨a,xs,rfl,q1,r1⟩:=id h1
  cases rx
  obtain⟨its,rv,p1,_⟩:=I.list q1;have p1:s.heap.IsList a its.toArray:=p1.isList
  cases e with
  |non =>
   unfold aM at h2;subst h2
   cases ry
   exact⟨.list_none  p1 FE,.list_none  p1 FE,.list_none  p1 FE⟩
  |bl q =>
   unfold aM at h2;subst h2
   cases ry
   exact⟨.list_bool q p1 FE,.list_bool q p1 FE,.list_bool q p1 FE⟩
  |int q =>
   unfold aM at h2;subst h2;obtain⟨tq,rfl⟩:=ry;exact⟨.list_int q tq p1 FE,.list_int q tq p1 FE,.list_int q tq p1 FE⟩
  |str q =>
   unfold aM at h2;subst h2;obtain⟨tq,rfl⟩:=ry;exact⟨.list_str q tq p1 FE,.list_str q tq p1 FE,.list_str q tq p1 FE⟩
  |lst es =>
   unfold aM at h2;obtain⟨b,ys,rfl,q2,r2⟩:=id h2
   cases ry
   obtain⟨Fx,Gj,p2,_⟩:=I.list q2;have p2:s.heap.IsList b Fx.toArray:=p2.isList;have el:=jI I n ih (by unfold iF at hn;omega) A hu r1 r2 rv Gj (by unfold iF at hn;omega)
   have l1:its.toArray.size=ds.length:=by rw[Yj,<-rv.length,r1.len]
   have l2:Fx.toArray.size=es.length:=by rw[Yj,<-Gj.length,r2.len]
   have dr:=gU ds es
   have key:SeqAt.RcAt A s (.ref a) (.ref b) (eF ds es)/\SeqAt.RcNeAt A s (.ref a) (.ref b) (!eF ds es):=by
    by_cases hl:ds.length=es.length
    ·have hs:its.toArray.size=Fx.toArray.size:=by rw[l1,l2,hl]
     have z:(List.range its.toArray.size).all (λj=>gZ (ds.getD j .non) (es.getD j .non))=eF ds es:=by rw[dr,l1,hl];simp
     have c1:=SeqAt.RcAt.lists p1 p2 hs FE el;have c2:=SeqAt.RcNeAt.lists p1 p2 hs FE el;rw[z] at c1 c2;exact⟨c1,c2⟩
    ·have z:eF ds es=false:=by rw[dr];simp[hl]
     have hs:(its.toArray.size != Fx.toArray.size)=true:=by rw[l1,l2];simpa using hl
     rw[z];exact⟨SeqAt.RcAt.lists_lengths p1 p2 hs FE,SeqAt.RcNeAt.lists_lengths p1 p2 hs FE⟩
   have I9:gZ (.lst ds) (.lst es)=eF ds es:=rfl
   by_cases Ii:a=b
   ·subst Ii;have z:=jU I (.lst ds) (.lst es) (.ref a) (by unfold aM;exact⟨a,xs,rfl,q1,r1⟩) (by unfold aM;exact⟨a,ys,rfl,q2,r2⟩);refine⟨by rw[I9];exact key.1,by rw[z];exact .same _,by rw[I9];exact key.2⟩
   ·rw[I9];exact⟨key.1,.of_refs Ii key.1,key.2⟩
  |tup es =>
   unfold aM at h2;obtain⟨b,ys,rfl,q2,r2⟩:=id h2
   cases ry
   obtain⟨Fx,Gj,p2,_⟩:=I.tuple q2;have p2:s.heap.IsTuple b Fx.toArray:=p2;exact⟨.list_tuple p1 p2 FE,.list_tuple p1 p2 FE,.list_tuple p1 p2 FE⟩
 |tup ds =>
  unfold aM at h1;obtain⟨a,xs,rfl,q1,r1⟩:=id h1
  cases rx
  obtain⟨its,rv,p1,_⟩:=I.tuple q1;have p1:s.heap.IsTuple a its.toArray:=p1
  cases e with
  |non =>
   unfold aM at h2;subst h2
   cases ry
   exact⟨.tuple_none  p1 FE,.tuple_none  p1 FE,.tuple_none  p1 FE⟩
  |bl q =>
   unfold aM at h2;subst h2
   cases ry
   exact⟨.tuple_bool q p1 FE,.tuple_bool q p1 FE,.tuple_bool q p1 FE⟩
  |int q =>
   unfold aM at h2;subst h2;obtain⟨tq,rfl⟩:=ry;exact⟨.tuple_int q tq p1 FE,.tuple_int q tq p1 FE,.tuple_int q tq p1 FE⟩
  |str q =>
   unfold aM at h2;subst h2;obtain⟨tq,rfl⟩:=ry;exact⟨.tuple_str q tq p1 FE,.tuple_str q tq p1 FE,.tuple_str q tq p1 FE⟩
  |lst es =>
   unfold aM at h2;obtain⟨b,ys,rfl,q2,r2⟩:=id h2
   cases ry
   obtain⟨Fx,Gj,p2,_⟩:=I.list q2;have p2:s.heap.IsList b Fx.toArray:=p2.isList;exact⟨.tuple_list p1 p2 FE,.tuple_list p1 p2 FE,.tuple_list p1 p2 FE⟩
  |tup es =>
   unfold aM at h2;obtain⟨b,ys,rfl,q2,r2⟩:=id h2
   cases ry
   obtain⟨Fx,Gj,p2,_⟩:=I.tuple q2;have p2:s.heap.IsTuple b Fx.toArray:=p2;have el:=jI I n ih (by unfold iF at hn;omega) A hu r1 r2 rv Gj (by unfold iF at hn;omega)
   have l1:its.toArray.size=ds.length:=by rw[Yj,<-rv.length,r1.len]
   have l2:Fx.toArray.size=es.length:=by rw[Yj,<-Gj.length,r2.len]
   have dr:=gU ds es
   have key:SeqAt.RcAt A s (.ref a) (.ref b) (eF ds es)/\SeqAt.RcNeAt A s (.ref a) (.ref b) (!eF ds es):=by
    have z:((List.range (min its.toArray.size Fx.toArray.size)).all (λj=>gZ (ds.getD j .non) (es.getD j .non))&&its.toArray.size==Fx.toArray.size)=eF ds es:=by rw[dr,l1,l2]
    have c1:=SeqAt.RcAt.tuples p1 p2 FE el;have c2:=SeqAt.RcNeAt.tuples p1 p2 FE el;rw[z] at c1 c2;exact⟨c1,c2⟩
   have I9:gZ (.tup ds) (.tup es)=eF ds es:=rfl
   by_cases Ii:a=b
   ·subst Ii;have z:=jU I (.tup ds) (.tup es) (.ref a) (by unfold aM;exact⟨a,xs,rfl,q1,r1⟩) (by unfold aM;exact⟨a,ys,rfl,q2,r2⟩);refine⟨by rw[I9];exact key.1,by rw[z];exact .same _,by rw[I9];exact key.2⟩
   ·rw[I9];exact⟨key.1,.of_refs Ii key.1,key.2⟩
theorem iT (I:Inv X pins σ H s):∀(n:Nat)(A:Around)(d e:D)(x y:V)(u v:Value),iF d<=n->A.units+n<cLine->aM X.K H d x->aM X.K H e y->aG x u->aG y v →
 SeqAt.RcAt A s u v (gZ d e)/\SeqAt.EqAt A s u v (gZ d e)/\SeqAt.RcNeAt A s u v (!gZ d e):=by
 intro n
 induction n with
 |zero=>exact λA d e x y u v hn hu h1 h2 rx ry=>lL I 0 (λz=>absurd z (by simp)) A d e x y u v hn hu h1 h2 rx ry
 |succ n ih=>exact λA d e x y u v hn hu h1 h2 rx ry=>lL I (n+1) (λ_ A d e x y u v hn hu h1 h2 rx ry=>(ih A d e x y u v hn hu h1 h2 rx ry).2.1) A d e x y u v hn hu h1 h2 rx ry
end
section
variable {X:Cx}
noncomputable def y7 (K:Frag)(neg:Bool):R2:=λx y H Q=>∃d e,aM K H d x/\aM K H e y/\iF d<=32/\Q (.bl (gZ d e != neg)) H
theorem adC (hr:xh k X.A):eA X (compareOp .Eq) (y7 X.K false):=by
 intro pins s σ H x y v u Q I rx ry h;obtain⟨d,e,h1,h2,hd,q⟩:=h;have z:=(iT I 32 X.A d e x y v u hd (by have:=hr.units;omega) h1 h2 rx ry).1;exact z X.prog X.w X.xe _ ⟨.bl (gZ d e),H,I,rfl,by simpa using q⟩
theorem ng (hr:xh k X.A):eA X (compareOp .NotEq) (y7 X.K true):=by
 intro pins s σ H x y v u Q I rx ry h;obtain⟨d,e,h1,h2,hd,q⟩:=h;have z:=(iT I 32 X.A d e x y v u hd (by have:=hr.units;omega) h1 h2 rx ry).2.2
 exact z X.prog X.w X.xe _ ⟨.bl (!gZ d e),H,I,rfl,by
  have e1:(gZ d e != true) = !gZ d e:=by cases gZ d e <;> rfl
  rw[e1] at q
  exact q⟩
end
end L2
namespace Nm
noncomputable def cW (a b:Int):Int:=(Int.gcd a b:Int)
noncomputable def dv (t b:Int):Int:=if b<0 then -(cW t b) else cW t b
noncomputable def dw (t b:Int):Int:=t.fdiv (dv t b)
noncomputable def cx (t b:Int):Int:=b.fdiv (dv t b)
variable {b:Int}
theorem eU {t:Int}(h:b≠0):0<cW t b:=by
 unfold cW;have:0<Int.gcd t b:=gF _ h;omega
theorem lV {t:Int}(h:b≠0):dv t b≠0:=by
 have:=eU (t:=t) h;unfold dv
 split <;> omega
theorem aej {t:Int}:dv t b ∣ t:=by
 unfold dv cW
 split
 ·exact Int.neg_dvd.mpr (Int.gcd_dvd_left ..)
 ·exact Int.gcd_dvd_left ..
theorem aek {t:Int}:dv t b ∣ b:=by
 unfold dv cW
 split
 ·exact Int.neg_dvd.mpr (Int.gcd_dvd_right ..)
 ·exact Int.gcd_dvd_right ..
theorem pO {a:Int}(h:b ∣ a)(hb:b≠0):a.fdiv b*b=a:=by
 obtain⟨c,rfl⟩:=h;rw[Int.mul_fdiv_cancel_left _ hb,Int.mul_comm]
theorem mi {t:Int}(h:b≠0):dw t b*dv t b=t:=pO aej (lV h)
theorem ja {t:Int}(h:b≠0):cx t b*dv t b=b:=pO aek (lV h)
theorem mK {t:Int}(h:b≠0):0<cx t b:=by
 have e:=ja (t:=t) h;have g:=eU (t:=t) h
 by_cases hb:b<0
 ·have hd:dv t b = -(cW t b):=by unfold dv;rw[Yh hb]
  rw[hd] at e
  by_cases hl:0<cx t b
  ·exact hl
  ·have:0<=cx t b * -(cW t b):=by
    have:=Int.mul_nonneg_of_nonpos_of_nonpos (a:=cx t b) (b:=-(cW t b)) (by omega) (by omega);exact this
   omega
 ·have hd:dv t b=cW t b:=by unfold dv;rw[Yd hb]
  rw[hd] at e
  by_cases hl:0<cx t b
  ·exact hl
  ·have:cx t b*cW t b<=0:=Int.mul_nonpos_of_nonpos_of_nonneg (by omega) (by omega);omega
theorem lD {t:Int}:(dv t b).natAbs=Int.gcd t b:=by
 unfold dv cW
 split <;> simp
theorem uz {t:Int}(h:b≠0):Int.gcd (dw t b) (cx t b)=1:=by
 have e1:=mi (t:=t) h;have e2:=ja (t:=t) h;have g:0<Int.gcd t b:=gF _ h;have e3:Int.gcd (dw t b*dv t b) (cx t b*dv t b)=Int.gcd (dw t b) (cx t b)*(dv t b).natAbs:=Int.gcd_mul_right ..;rw[e1,e2,lD] at e3
 have:Int.gcd (dw t b) (cx t b)*Int.gcd t b=1*Int.gcd t b:=by omega
 exact Nat.eq_of_mul_eq_mul_right g this
theorem ko {t t' b':Int}(h:b≠0)(hp:0<b')(hg:Int.gcd t' b'=1)(he:t*b'=t'*b):dw t b=t'/\cx t b=b':=by
 have e1:=mi (t:=t) h;have e2:=ja (t:=t) h;have g:=lV (t:=t) h;have lp:=mK (t:=t) h;have lg:=uz (t:=t) h
 have e3:dw t b*b'=t'*cx t b:=by
  have z:(dw t b*b')*dv t b=(t'*cx t b)*dv t b:=by
   rw[Int.mul_right_comm,e1,he,jf,e2]
  exact kY g z
 have n3:(dw t b).natAbs*b'.natAbs=t'.natAbs*(cx t b).natAbs:=by
  have:=Ze Int.natAbs e3;rw[Z7,Z7] at this;exact this
 have c1:Nat.Coprime (cx t b).natAbs (dw t b).natAbs:=by
  rw[Nat.coprime_comm];exact lg
 have c2:Nat.Coprime b'.natAbs t'.natAbs:=by
  rw[Nat.coprime_comm];exact hg
 have d1:(cx t b).natAbs ∣ b'.natAbs:=c1.dvd_of_dvd_mul_left ⟨t'.natAbs,by rw[n3,Nat.mul_comm]⟩;have d2:b'.natAbs ∣ (cx t b).natAbs:=c2.dvd_of_dvd_mul_left ⟨(dw t b).natAbs,by rw[<-n3,Nat.mul_comm]⟩;have e4:(cx t b).natAbs=b'.natAbs:=Nat.dvd_antisymm d1 d2
 have e5:cx t b=b':=by omega
 refine⟨?_,e5⟩;rw[e5] at e3;exact kY (by omega) e3
theorem kK {t b:Int}(hp:0<b)(hg:Int.gcd t b=1):dw t b=t/\cx t b=b:=ko (by omega) hp hg rfl
theorem j5 (a b:Int):Int.gcd b (a.fmod b)=Int.gcd a b:=by
 rw[Int.fmod_def,Int.gcd_comm a b]
 first
  |exact Int.gcd_sub_mul_left_right ..
  |simp
theorem sC (a b:Int)(h:b≠0):(a.fmod b).natAbs<b.natAbs:=by
 by_cases hb:0<b
 ·have h1:=Ar a hb;have h2:=Cs a hb;omega
 ·have e:a.fmod b = -((-a).fmod (-b)):=by
   have:=Int.fmod_def a b;rw[Int.neg_fmod_neg];omega
  have h1:=Ar (-a) (b:=-b) (by omega);have h2:=Cs (-a) (b:=-b) (by omega);omega
noncomputable def sg (b:Int):Int:=if b<0 then -1 else 1
noncomputable def ab (b:Int):Int:=if b<0 then -b else b
theorem jA (b:Int):ab b=(b.natAbs:Int):=by unfold ab;split <;> omega
theorem aab {t:Int}(h:b≠0):(sg b*t).fdiv (cW t b)=dw t b:=by
 have g:=eU (t:=t) h;have e:=mi (t:=t) h
 have z:sg b*t=dw t b*cW t b:=by
  unfold sg dv at *
  split
  ·rename_i hb
   rw[Yh hb] at e
   have:dw t b * -cW t b = -(dw t b*cW t b):=by rw[Int.mul_neg]
   omega
  ·rename_i hb
   rw[Yd hb] at e;omega
 rw[z,Int.mul_fdiv_cancel _ (by omega)]
theorem aaR {t:Int}(h:b≠0):(ab b).fdiv (cW t b)=cx t b:=by
 have g:=eU (t:=t) h;have e:=ja (t:=t) h
 have z:ab b=cx t b*cW t b:=by
  unfold ab dv at *
  split
  ·rename_i hb
   rw[Yh hb] at e
   have:cx t b * -cW t b = -(cx t b*cW t b):=by rw[Int.mul_neg]
   omega
  ·rename_i hb
   rw[Yd hb] at e;omega
 rw[z,Int.mul_fdiv_cancel _ (by omega)]
theorem aaV (a b:Int):Int.gcd (ab a) (ab b)=Int.gcd a b:=by
 rw[jA,jA];simp[Int.gcd]
noncomputable def B (n:Nat)(i:Int):Prop:=i.natAbs<2^n
variable {n:Nat}{i:Int}
theorem B.mono {m:Nat}(h:B n i)(hn:n<=m):B m i:=Ys h (ZG (by decide) hn)
variable {j:Int}
theorem B.mul {m:Nat}(h:B n i)(k:B m j):B (n+m) (i*j):=by
 unfold B at *;rw[Z7,Nat.pow_add];exact Nat.mul_lt_mul'' h k
theorem B.add (h:B n i)(k:B n j):B (n+1) (i+j):=by
 unfold B at *;rw[Nat.pow_succ];have:=Int.natAbs_add_le i j;omega
theorem B.le (h:B n i)(k:j.natAbs<=i.natAbs):B n j:=Yo k h
theorem qk {x d y:Int}(e:x*d=y)(hd:d≠0):x.natAbs<=y.natAbs:=by
 have:x.natAbs*d.natAbs=y.natAbs:=by rw[<-Z7,e]
 have h1:1<=d.natAbs:=by omega
 calc x.natAbs=x.natAbs*1:=(Nat.mul_one _).symm
  _<=x.natAbs*d.natAbs:=Ct _ h1
  _=y.natAbs:=this
theorem aaX {t:Int}(h:b≠0):(dw t b).natAbs<=t.natAbs:=qk (mi h) (lV h)
theorem aaY {t:Int}(h:b≠0):(cx t b).natAbs<=b.natAbs:=qk (ja h) (lV h)
theorem AE {t:Int}(h:b≠0):(dv t b).natAbs<=b.natAbs:=by
 have e:=ja (t:=t) h;have lp:=mK (t:=t) h;exact qk (x:=dv t b) (d:=cx t b) (by rw[Int.mul_comm];exact e) (by omega)
theorem aa0 {t:Int}(h:b≠0):(cW t b).natAbs<=b.natAbs:=by
 have e:=AE (t:=t) h;rw[lD] at e;unfold cW;simpa using e
structure Num (p t b:Int):Prop where
 pos:0<b
 red:Int.gcd t b=1
 pr:p≠0->b=1/\0<=t/\t<p
theorem Num.ofP {p t:Int}(h0:0<=t)(h1:t<p):Num p t 1:=⟨by decide,by simp,λ_=>⟨rfl,h0,h1⟩⟩
theorem Num.low {t:Int}(h:b≠0):Num 0 (dw t b) (cx t b):=⟨mK h,uz h,λz=>absurd rfl z⟩
noncomputable def c7 (p t b:Int):Int:=if p=0 then dw t b else t%p
noncomputable def c9 (p t b:Int):Int:=if p=0 then cx t b else 1
theorem Num.set {p t b:Int}(hp:0<=p)(h:b≠0):Num p (c7 p t b) (c9 p t b):=by
 unfold c7 c9
 by_cases z:p=0
 ·subst z;simp only[ZR];exact Num.low h
 ·simp only[z,Zv];exact Num.ofP (Zw _ z) (Zd _ (by omega))
theorem Num.self {p t:Int}(n:Num p t b)(hp:0<=p):c7 p t b=t/\c9 p t b=b:=by
 unfold c7 c9
 by_cases z:p=0
 ·simp only[z,ZR];exact kK n.pos n.red
 ·simp only[z,Zv];obtain⟨h1,h2,h3⟩:=n.pr z;exact⟨BY h2 h3,h1.symm⟩
theorem aa5 {p t t' b':Int}(h:b≠0)(n:Num p t' b')(hp:0<=p)(e0:p=0->t*b'=t'*b)(e1:p≠0->t%p=t'%p):c7 p t b=t'/\c9 p t b=b':=by
 unfold c7 c9
 by_cases z:p=0
 ·simp only[z,ZR];exact ko h n.pos n.red (e0 z)
 ·simp only[z,Zv];obtain⟨h1,h2,h3⟩:=n.pr z;exact⟨by rw[e1 z];exact BY h2 h3,h1.symm⟩
end Nm
namespace L2
open PySem PySem.Spec PyProof.Rows PySem.W
theorem AJ {i:Int}(h:Nm.B 9000 i):i.natAbs.log2<9000:=by
 by_cases z:i.natAbs=0
 ·rw[z];decide
 ·exact(Nat.log2_lt z).mpr h
theorem yy {i:Int}(h:Nm.B 9000 i):Builtin.Int.intBits i<=2^20:=by
 have l:=AJ h;unfold Builtin.Int.intBits
 split
 ·exact Yt _
 ·have:(9000:Nat)<=2^20:=by decide
  omega
section
variable {X:Cx}
theorem eZ:eA X (binaryOp .FloorDiv) (rI (λ_ j=>j≠0/\Nm.B 9000 j) λi j=>.int (i.fdiv j)):=BO λ_ _ _ _ _ _ _ hc q=>floordiv_int hc.1 q (.inl (PyProof.noPylong_of_log2 (AJ hc.2)))
theorem dO:eA X (binaryOp .Mult) (rI (λi j=>Nm.B 9000 i/\Nm.B 9000 j) λi j=>.int (i*j)):=BO λ_ _ _ _ _ _ _ hc q=>mul_int q (IntMulOk.of_bits (yy hc.1) (yy hc.2))
end
end L2
namespace K44
open PySem L2 PySem.W Nm
noncomputable abbrev Dc:Stmt:=(ba 17)
noncomputable abbrev sW:Stmt:=(ba 18)
noncomputable abbrev pV:Stmt:=(ba 19)
noncomputable def cw (t b:Int):HO:=.tup [.int t,.int b]
noncomputable def D9:Sp:=λvs H Q _=>∃a b:Int,vs=[.int a,.int b]/\Q (.int (cW a b)) H
noncomputable def zr:Sp:=λvs H Q _=>∃t b:Int,vs=[.int t,.int b]/\b≠0/\B 9000 b/\∀p,H p=none->Q (.ref p) (upd H p (cw (dw t b) (cx t b)))
noncomputable def vF:Sp:=λvs H Q _=>∃m p:Int,vs=[.int m,.int p]/\p∈cM/\m%p≠0/\∀v,0<=v->v<p->(v*m)%p=1->Q (.int v) H
variable {p:Int}
theorem eN (h:p∈cM):2<=p/\p<=97:=by
 have:∀q∈cM,2<=q/\q<=97:=by decide
 exact this p h
theorem aa9 {r:Int}(h:p∈cM)(h0:0<r)(h1:r<p):Int.gcd p r=1:=by
 have key:∀q∈cM,∀k:_root_.Fin 98,0<k.val->((k.val:Nat):Int)<q->Int.gcd q ((k.val:Nat):Int)=1:=by decide +kernel
 have hp:=eN h;have z:=key p h ⟨r.toNat,by omega⟩
 have e:((r.toNat:Nat):Int)=r:=by omega
 simp only[e] at z;exact z (by omega) h1
variable {P:wu}{w:World}{K:PySem.W.Frag}{mg:vx}{base:Heap}
theorem AM:CN DO DO (ar Dc):=fe (by decide +kernel)
variable {f:Addr}{fd:BB}
theorem aba (F:vP K "common_divisor" "common_divisor" Dc f fd)(mA:mg "abs"=none):yd P w K mg base (cD P w) 1 f fd DO D9:=by
 refine F.okN AM (λvs H Q E h=>?_) (λFv A outer s H vs Q E hr h=>?_)
 ·obtain⟨a,b,rfl,_⟩:=h;rfl
 ·obtain⟨a,b,rfl,q⟩:=h
  refine⟨_,au (kx Y4 (n8 (pv 1) (λ_=>rfl)) (ax (iR (i:=0) (j:=1) rfl AM.nd rfl rfl (by decide) rfl rfl (aj (pv 1) (aj (aK sS (pv 0) (pv 1)) ag)) rfl)))
   (ax (aF (aE ix (by rfl) mA (by rfl) (aj (pv 0) ag)))),?_⟩
  refine⟨λm σ H'=>∃c d:Int,σ=[some (.int c),some (.int d)]/\H'=H/\m=d.natAbs/\Int.gcd c d=Int.gcd a b,⟨_,a,b,rfl,rfl,rfl,rfl⟩,?_⟩;rintro m σ H' ⟨c,d,rfl,rfl,rfl,hg⟩;refine⟨_,rfl,_,rfl,?_⟩;refine cG (λh=>?_) (λh=>?_)
  ·have hd:d≠0:=by simpa using h
   refine⟨λσ' Ij=>∃c' d':Int,σ'=[some (.int c'),some (.int d')]/\Ij=H'/\d'.natAbs<d.natAbs/\Int.gcd c' d'=Int.gcd a b,λσ' Ij ⟨c',d',e1,e2,e3,e4⟩=>⟨_,e3,c',d',e1,e2,rfl,e4⟩,?_⟩;refine⟨_,rfl,_,rfl,_,rfl,_,_,rfl,rfl,hd,_,_,rfl,d,c.fmod d,rfl,rfl,sC c d hd,?_⟩;rw[j5,hg]
  ·have hd:d=0:=by simpa using h
   subst hd;refine⟨_,rfl,c,rfl,?_⟩
   have e:(if c<0 then -c else c)=cW a b:=by
    unfold cW;rw[<-hg];have:=jA c;unfold ab at this;rw[this];simp
   rw[e];exact q
theorem j6:CN ["top","bottom","divisor"] Bw (ar sW):=fe (by decide +kernel)
noncomputable abbrev Ca (P:wu)(w:World)(K:PySem.W.Frag)(mg:vx)(base:Heap)(k:Nat)(ps:EG)(n:Str)(sp:Sp):Prop:=∃f fd,yd P w K mg base (cD P w) k f fd ps sp/\L2.ck K fd ps []/\mg n=some (.ref f)/\keepIn K (.ref f)=true
noncomputable abbrev Cm (P:wu)(w:World)(K:PySem.W.Frag)(mg:vx)(base:Heap)(k:Nat)(ps:EG)(C:Addr)(n:Str)(sp:Sp):Prop:=∃f fd,yd P w K mg base (cD P w) k f fd ps sp/\L2.ck K fd ps []/\L2.Meth K C n f
theorem abb (F:vP K "lowest" "lowest" sW f fd)(q0:Ca P w K mg base 1 DO "common_divisor" D9):
 yd P w K mg base (cD P w) 2 f fd Bw zr:=by
 obtain⟨fg,N0,FG,bG,mG,kG⟩:=q0;refine F.okN j6 (λvs H Q E h=>?_) (λFv A outer s H vs Q E hr h=>?_)
 ·obtain⟨a,b,rfl,_⟩:=h;rfl
 ·obtain⟨t,b,rfl,hb,hB,q⟩:=h
  refine⟨_,au (bF (aN fN (pv 1) ak (aU _)) (ax (aF (aJ (aj (pv 0) (aj ak ag))))) aS)
   (au (aX (i:=2) j6.nd rfl (Or.inl rfl) (aH FG hr (by rfl) mG kG bG .nil ao (aj (pv 0) (aj (pv 1) ag))))
   (au (bF (aN ir (pv 1) ak (aU _)) (ax (aX (i:=2) j6.nd rfl (Or.inl rfl) (pq j9 (pv 2)))) aS)
   (ax (aF (aJ (aj (aK eZ (pv 0) (pv 2)) (aj (aK eZ (pv 1) (pv 2)) ag))))))),?_⟩
  refine⟨_,rfl,rfl,_,rfl,?_⟩;refine cG (λh=>?_) (λh=>?_)
  ·have e:b=1:=by simpa using h
   subst e;have z:=kK (t:=t) (b:=1) (by decide) (by simp);refine⟨_,rfl,hJ,λp hp=>?_⟩;have y:=q p hp;rw[z.1,z.2] at y;exact y
  ·refine⟨_,rfl,_,rfl,t,b,rfl,?_⟩;refine⟨_,rfl,_,_,rfl,rfl,_,rfl,?_⟩;have gp:=eU (t:=t) hb
   have fin:∀d:Int,d=dv t b->nt (bq (kn (rI (λ_ j=>j≠0/\Nm.B 9000 j) λi j=>V.int (i.fdiv j)) (cc 0) (cc 2)) (bq (kn (rI (λ_ j=>j≠0/\Nm.B 9000 j) λi j=>V.int (i.fdiv j)) (cc 1) (cc 2)) Bz)) [some (.int t),some (.int b),some (.int d)] H Q:=by
    intro d hd
    have M7:d≠0:=by rw[hd];exact lV hb
    have QX:B 9000 d:=by rw[hd];exact hB.le (AE hb)
    refine⟨_,rfl,_,rfl,_,_,rfl,rfl,⟨M7,QX⟩,_,rfl,_,rfl,_,_,rfl,rfl,⟨M7,QX⟩,hJ,λp hp=>?_⟩;have y:=q p hp;unfold dw cx at y;rw[<-hd] at y;exact y
   refine cG (λh2=>?_) (λh2=>?_)
   ·have e:b<0:=by simpa using h2
    exact⟨_,rfl,_,rfl,fin _ (by unfold dv;rw[Yh e])⟩
   ·have e:¬b<0:=by simpa using h2
    exact fin _ (by unfold dv;rw[Yd e])
structure Eu (m p r s l ls:Int):Prop where
 r0:0<r
 rl:r<l
 lp:l<=p
 g:Int.gcd l r=1
 e1:∃k,s*m-r=p*k
 e2:∃k,ls*m-l=p*k
variable {l:Int}
theorem Eu.step {m r s ls:Int}(h:Eu m p r s l ls)(h1:r≠1):Eu m p (l-l.fdiv r*r) (ls-l.fdiv r*s) r s/\(l-l.fdiv r*r).toNat<r.toNat:=by
 obtain⟨r0,rl,lp,g,⟨k1,e1⟩,⟨k2,e2⟩⟩:=h
 have em:l-l.fdiv r*r=l.fmod r:=by rw[Int.fmod_def,Int.mul_comm]
 have a:=Ar l r0;have b:=Cs l r0
 have gg:Int.gcd r (l.fmod r)=1:=by rw[j5,g]
 have nz:l.fmod r≠0:=by
  intro z;rw[z] at gg;simp at gg;omega
 rw[em];refine⟨⟨by omega,a,by omega,gg,⟨k2-l.fdiv r*k1,?_⟩,⟨k1,e1⟩⟩,by omega⟩;rw[<-em];generalize l.fdiv r=q
 have:(ls-q*s)*m-(l-q*r)=(ls*m-l)-q*(s*m-r):=by
  rw[Int.sub_mul,Int.mul_sub,jf];omega
 rw[this,e1,e2,Int.mul_sub,Int.mul_left_comm]
theorem Eu.fin {m s ls:Int}(h:Eu m p 1 s l ls)(hp:2<=p):0<=s%p/\s%p<p/\(s%p*m)%p=1:=by
 obtain⟨_,_,_,_,⟨k1,e1⟩,_⟩:=h;refine⟨Zw _ (by omega),Zd _ (by omega),?_⟩
 have e:s*m=p*k1+1:=by omega
 rw[Int.mul_emod,Int.emod_emod,<-Int.mul_emod,e,Int.mul_add_emod_self_left];exact BY (by omega) (by omega)
noncomputable abbrev abc:List Str:=["number","prime","rest","share","last","last_share","many"]
theorem dQ:CN abc ["number","prime"] (ar pV):=fe (by decide +kernel)
theorem abg (F:vP K "inverse" "inverse" pV f fd):yd P w K mg base (cD P w) 1 f fd ["number","prime"] vF:=by
 refine F.okN dQ (λvs H Q E h=>?_) (λFv A outer s H vs Q E hr h=>?_)
 ·obtain⟨a,b,rfl,_⟩:=h;rfl
 ·obtain⟨m,p,rfl,hp,hm,q⟩:=h;have JF:=eN hp
  refine⟨_,au (iR (i:=2) (j:=3) rfl dQ.nd rfl rfl (by decide) rfl rfl (aj (aK cO (pv 0) (pv 1)) (aj ak ag)) rfl)
   (au (iR (i:=4) (j:=5) rfl dQ.nd rfl rfl (by decide) rfl rfl (aj (pv 1) (aj ak ag)) rfl)
   (au (kx Y4 (aN fW (pv 2) ak (aU _))
    (au (aX (i:=6) dQ.nd rfl (Or.inl rfl) (aK eZ (pv 4) (pv 2)))
    (au (iR (i:=4) (j:=2) rfl dQ.nd rfl rfl (by decide) rfl rfl (aj (pv 2) (aj (aK rD (pv 4) (aK dC (pv 6) (pv 2))) ag)) rfl)
    (ax (iR (i:=5) (j:=3) rfl dQ.nd rfl rfl (by decide) rfl rfl (aj (pv 3) (aj (aK rD (pv 5) (aK dC (pv 6) (pv 3))) ag)) rfl)))))
   (ax (aF (aK cO (pv 3) (pv 1)))))),?_⟩
  refine⟨_,rfl,_,rfl,_,_,rfl,rfl,(by show(0:Int)<p;omega),_,_,rfl,?_⟩;refine⟨_,rfl,_,_,rfl,?_⟩;have r0:0<=m%p:=Zw _ (by omega);have r1:m%p<p:=Zd _ (by omega)
  have E0:Eu m p (m%p) 1 p 0:=by
   refine⟨by omega,r1,ZY _,aa9 hp (by omega) r1,⟨m/p,?_⟩,⟨-1,by omega⟩⟩;have:=Int.emod_add_mul_ediv m p;omega
  refine⟨λn σ H'=>∃(r s l ls:Int)(o:Option V),σ=[some (.int m),some (.int p),some (.int r),some (.int s),some (.int l),some (.int ls),o]/\H'=H/\n=r.toNat/\Eu m p r s l ls,⟨_,_,_,_,_,_,rfl,rfl,rfl,E0⟩,?_⟩;rintro n σ H' ⟨r,s,l,ls,o,rfl,rfl,rfl,E⟩;refine⟨_,rfl,rfl,_,rfl,?_⟩;refine cG (λh=>?_) (λh=>?_)
  ·have FN:r≠1:=by simpa using h
   obtain⟨E',lt⟩:=E.step FN;have e0:=E.r0;have e1:=E.rl;have e2:=E.lp;have q0:0<=l.fdiv r:=Int.fdiv_nonneg (by omega) (by omega)
   have q1:l.fdiv r<=l:=by
    rw[Int.fdiv_eq_ediv_of_nonneg _ (by omega)];exact Int.ediv_le_self _ (by omega)
   refine⟨λσ' Ij=>∃(r' s' l' M8:Int)(o:Option V),σ'=[some (.int m),some (.int p),some (.int r'),some (.int s'),some (.int l'),some (.int M8),o]/\Ij=H'/\r'.toNat<r.toNat/\Eu m p r' s' l' M8,λσ' Ij ⟨r',s',l',M8,o',z1,z2,z3,z4⟩=>⟨_,z3,r',s',l',M8,o',z1,z2,rfl,z4⟩,?_⟩;refine⟨_,rfl,_,rfl,_,_,rfl,rfl,⟨by omega,?_⟩,?_⟩
   ·have:r.natAbs<2^7:=by omega
    exact(show B 7 r from this).mono (by decide)
   ·refine⟨_,rfl,_,rfl,_,rfl,_,rfl,_,_,rfl,rfl,.inl ⟨by omega,by omega⟩,_,_,rfl,rfl,_,_,rfl,?_⟩;refine⟨_,rfl,_,rfl,_,rfl,_,rfl,_,_,rfl,rfl,.inl ⟨by omega,by omega⟩,_,_,rfl,rfl,_,_,rfl,?_⟩;exact⟨_,_,_,_,_,rfl,rfl,lt,E'⟩
  ·have FN:r=1:=by simpa using h
   subst FN;obtain⟨f0,f1,f2⟩:=E.fin JF.1;exact⟨_,rfl,_,rfl,_,_,rfl,rfl,(by show(0:Int)<p;omega),q _ f0 f1 f2⟩
noncomputable abbrev xi:Stmt:=(ba 10)
noncomputable abbrev yc:Stmt:=bh (ba 20) 0
inductive Th (H:Hp):V->String->Prop where
 |non:Th H .non "NoneType"
 |bl (b:Bool):Th H (.bl b) "bool"
 |int (i:Int):Th H (.int i) "int"
 |str (x:Str):Th H (.str x) "str"
 |lst {a:Addr}{xs:List V}(e:H a=some (.lst xs)):Th H (.ref a) "list"
 |tup {a:Addr}{xs:List V}(e:H a=some (.tup xs)):Th H (.ref a) "tuple"
 |dK {a:Addr}{Ft:List (Key×V)}(e:H a=some (.dK Ft)):Th H (.ref a) "dict"
variable {K:Frag}{H:Hp}{x:V}
theorem Th.ty {T:String}(h:Th H x T):zJ K H x (.type T):=by
 cases h with
 |non=>exact .of .non
 |bl b=>exact .of (.bl b)
 |int i=>exact .of (.int i)
 |str x=>exact .of (.str x)
 |lst e=>exact .of (.lst e)
 |tup e=>exact .of (.tup e)
 |dK e=>exact .of (.dK e)
noncomputable def cg:V->Bool
 | .int _=>true
 |_=>false
noncomputable def DW:V->Bool
 | .int _=>true
 | .bl _=>true
 |_=>false
theorem Th.isInt {T:String}(h:Th H x T):kitOne K (.type T) (.type "int")=some (DW x):=by cases h <;> rfl
theorem Th.isBool {T:String}(h:Th H x T)(hi:DW x=true):kitOne K (.type T) (.type "bool")=some (!cg x):=by
 cases h with
 |int i=>rfl
 |bl b=>rfl
 |_=>cases hi
noncomputable def uY:Sp:=λvs H Q _=>∃x T,vs=[x]/\Th H x T/\Q (.bl (cg x)) H
structure zv (mg:vx):Prop where
 isi:mg "isinstance"=none
 int:mg "int"=none
 bool:mg "bool"=none
theorem abh:CN p4 p4 (ar xi):=fe (by decide +kernel)
theorem abi (F:vP K "is_whole" "is_whole" xi f fd)(n:zv mg):yd P w K mg base (cD P w) 1 f fd p4 uY:=by
 refine F.okN abh (λvs H Q E h=>?_) (λFv A outer s H vs Q E hr h=>?_)
 ·obtain⟨x,T,rfl,_⟩:=h;rfl
 ·obtain⟨x,T,rfl,th,q⟩:=h
  refine⟨_,ax (aF (dz (aE aZ (by rfl) n.isi (by rfl) (cq (pv 0) (cq (cC (by rfl) n.int (by rfl) (show aG (.ty "int") (.type "int") from rfl)) ag)))
   (eM (qc (aE aZ (by rfl) n.isi (by rfl) (cq (pv 0) (cq (cC (by rfl) n.bool (by rfl) (show aG (.ty "bool") (.type "bool") from rfl)) ag))))))),?_⟩
  refine⟨_,rfl,x,.ty "int",_,_,_,rfl,rfl,th.ty,th.isInt,_,rfl,?_⟩;refine cG (λhi=>?_) (λhi=>?_)
  ·refine⟨_,rfl,x,.ty "bool",_,_,_,rfl,rfl,th.ty,th.isBool hi,_,rfl,?_⟩;simpa using q
  ·have e:cg x=false:=by
    cases th <;> first|rfl|exact absurd rfl hi
   rw[e] at q;exact q
noncomputable def jd (i:Int):Bool:=i==0 || cM.any λp=>p==i
noncomputable def good:V->Bool
 | .int i=>jd i
 |_=>false
noncomputable def gE (i:Int):List (Str×V):=[("its_prime",.int i)]
noncomputable def qr (C NF:Addr):Sp:=λvs H Q E=>∃(p dx:Addr)(x:V)(T:String),vs=[.ref p,x]/\Th H x T/\H p=some (.ins C dx [])/\(good x=true->Q .non (upd H p (.ins C dx [("its_prime",x)])))/\(good x=false->E (.ref NF) none H)
structure Bg (K:Frag)(mg:vx)(C:Addr):Prop where
 cl:Em K C
 nP:d8 K C "its_prime"
 mgC:mg "Field"=some (.ref C)
 Tw:((clsIn K C).isSome&&typeIn K (.ref C)==some (.type "type"))=true
 ca:findIn K (.ref C) "__class__"=some (some (.builtin "object.__class__"))
 sp:specialIn K (.builtin "object.__class__") "__get__"=some (some (.builtin "getset_descriptor.__get__"))
 tk:takesIn K (.builtin "object.__class__")=some true
 ob:mroIn K C (.type "object")=some true
theorem kD (i:Int):fQ (.int i) (cM.map V.int)=cM.any λp=>p==i:=by
 unfold fQ;rw[Ao];rfl
theorem abp:CN CR CR (ar yc):=fe (by decide +kernel)
variable {C:Addr}{tF:Tok}
theorem abq {NF aP T:Addr}(F:rK K "__init__" "Field.__init__" yc f fd T)(c:Bg K mg C)(q0:Ca P w K mg base 1 p4 "is_whole" uY)
 (mF:mg "FRACTIONS"=some (.int 0 tF))(mP:mg "PRIMES"=some (.ref aP))(hP:∀H:Hp,aV K H aP (cM.map V.int))(mN:mg "NoField"=some (.ref NF))(qN:nG K NF Cc qh=true):yd P w K mg base (cD P w) 2 f fd CR (qr C NF):=by
 obtain⟨fw,Ki,FW,bW,mW,kW⟩:=q0;refine F.okE abp (λvs H Q E h=>?_) (λFv A outer s H vs Q E hr h=>?_)
 ·obtain⟨p,dx,x,T,rfl,_⟩:=h;rfl
 ·obtain⟨p,dx,x,T,rfl,th,hp,hq,hE⟩:=h
  refine⟨_,au (bF (PW.pt (dE (bN (bO (aH FW hr (by rfl) mW kW bW .nil ao (cq (pv 1) ag))))
   (dD (PW.pt (acE (aN fW (pv 1) (fu (by rfl) mF (show aG (.int 0) (.int 0 tF) from⟨_,rfl⟩)) (aU _)) (acX (aN dF (pv 1) (fu (by rfl) mP (show aG (.ref aP) (.ref aP) from rfl)) (by rfl))))))))
   (ax (fU ZO qN rfl dX (by rfl) mN (cq gN ag))) aS)
   (ax (qo (pv 0) (pv 1) rfl)),?_⟩
  have fin:good x=true->∃(a C' QY:Addr)(fs:List (Str×V)),V.ref p=.ref a/\H a=some (.ins C' QY fs)/\Em K C'/\d8 K C' "its_prime"/\fs.length<1000/\Q .non (upd H a (.ins C' QY (dU "its_prime" x fs))):=λg=>⟨p,C,dx,[],rfl,hp,c.cl,c.nP,by decide,hq g⟩;refine⟨_,rfl,x,T,rfl,th,_,rfl,?_⟩
  cases th with
  |int i =>
   refine b7 ?_;refine⟨_,rfl,rfl,_,rfl,?_⟩;refine cG (λh0=>?_) (λh0=>?_)
   ·refine⟨_,rfl,aP,_,rfl,.inr (hP _),rfl,rfl,_,rfl,?_⟩;refine cG (λh1=>?_) (λh1=>?_)
    ·refine⟨by decide,hE ?_⟩
     have e1:¬i=0:=by simpa using h0
     have e2:fQ (.int i) (cM.map V.int)=false:=by simpa using h1
     rw[kD] at e2;show jd i=false;unfold jd;rw[e2];simpa using e1
    ·have e2:fQ (.int i) (cM.map V.int)=true:=by simpa using h1
     rw[kD] at e2;exact⟨_,rfl,_,rfl,fin (by show jd i=true;unfold jd;rw[e2];simp)⟩
   ·have e1:i=0:=by simpa using h0
    exact b7 ⟨_,rfl,_,rfl,fin (by show jd i=true;rw[e1];rfl)⟩
  |_=>exact bA (bA ⟨by decide,hE rfl⟩)
noncomputable abbrev A6:Stmt:=bh (ba 20) 5
noncomputable abbrev A5:Stmt:=bh (ba 20) 6
noncomputable abbrev oV:Stmt:=bh (ba 20) 10
noncomputable def FP (p:Int):Prop:=p=0\/p∈cM
theorem FP.nn (h:FP p):0<=p:=by
 rcases h with h|h
 ·omega
 ·have:=eN h;omega
theorem FP.two (h:FP p)(z:p≠0):p∈cM/\2<=p/\p<=97:=by
 rcases h with h|h
 ·exact absurd h z
 ·exact⟨h,eN h⟩
noncomputable def rS (C NN:Addr):Sp:=λvs H Q E=>∃(s dx:Addr)(p t b:Int),vs=[.ref s,.int t,.int b]/\H s=some (.ins C dx (gE p))/\FP p/\B 9000 b /\
 (p=0->b=0->E (.ref NN) none H)/\(p=0->b≠0->∀a,H a=none->Q (.ref a) (upd H a (cw (dw t b) (cx t b)))) /\
 (p≠0->b%p=0->E (.ref NN) none H)/\(p≠0->b%p≠0->∀v,0<=v->v<p->(v*b)%p=1->∀a,H a=none->Q (.ref a) (upd H a (cw (t*v%p) 1)))
noncomputable def l0 (C:Addr):Sp:=λvs H Q _=>∃(s dx:Addr)(p t b:Int),vs=[.ref s,.int t,.int b]/\H s=some (.ins C dx (gE p))/\FP p/\B 9000 b/\b≠0/\∀a,H a=none->Q (.ref a) (upd H a (cw (c7 p t b) (c9 p t b)))
noncomputable def yu (C:Addr)(g:Int->Int->Int->Int->Int):Sp:=λvs H Q _=>∃(s dx a1 a2:Addr)(p t1 b1 t2 b2:Int),vs=[.ref s,.ref a1,.ref a2]/\H s=some (.ins C dx (gE p))/\FP p/\H a1=some (cw t1 b1)/\H a2=some (cw t2 b2) /\
 B 4000 t1/\B 4000 b1/\B 4000 t2/\B 4000 b2/\b1≠0/\b2≠0/\∀a,H a=none->Q (.ref a) (upd H a (cw (c7 p (g t1 b1 t2 b2) (b1*b2)) (c9 p (g t1 b1 t2 b2) (b1*b2))))
noncomputable def je (t1 b1 t2 b2:Int):Int:=t1*b2+t2*b1
noncomputable def mZ (t1 b1 t2 b2:Int):Int:=t1*t2
theorem abr:CN BD BD (ar A6):=fe (by decide +kernel)
theorem abt {NN:Addr}(F:vP K "quotient" "Field.quotient" A6 f fd)(c:Bg K mg C)(mF:mg "FRACTIONS"=some (.int 0 tF))(mN:mg "NoNumber"=some (.ref NN))(qN:nG K NN Cc qh=true)
 (q0:Ca P w K mg base 2 Bw "lowest" zr)
 (q1:Ca P w K mg base 1 ["number","prime"] "inverse" vF):
 yd P w K mg base (cD P w) 3 f fd BD (rS C NN):=by
 obtain⟨fl,Kj,FL,bL,mL,kL⟩:=q0;obtain⟨fv,XA,FV,bV,mV,kV⟩:=q1;refine F.okE abr (λvs H Q E h=>?_) (λFv A outer s H vs Q E hr h=>?_)
 ·obtain⟨s,dx,p,t,b,rfl,_⟩:=h;rfl
 ·obtain⟨s,dx,p,t,b,rfl,hs,hp,hB,q1,q2,q3,q4⟩:=h;have FN:xh 1 _:=hr.mono (by decide)
  refine⟨_,au (bF (aN fN (cN (pv 0) rfl) (fu (by rfl) mF (show aG (.int 0) (.int 0 tF) from⟨_,rfl⟩)) (aU _))
   (au (bF (aN fN (pv 2) ak (aU _)) (ax (fU ZO qN rfl dX (by rfl) mN (aj gN ag))) aS)
   (ax (aF (aH FL hr (by rfl) mL kL bL .nil ao (aj (pv 1) (aj (pv 2) ag)))))) aS)
   (au (bF (aN fN (aK cO (pv 2) (cN (pv 0) rfl)) ak (aU _)) (ax (fU ZO qN rfl dX (by rfl) mN (aj gN ag))) aS)
   (ax (aF (aJ (aj (aK cO (aK dC (pv 1) (aH FV FN (by rfl) mV kV bV .nil ao (aj (pv 2) (aj (cN (pv 0) rfl) ag)))) (cN (pv 0) rfl)) (aj ak ag)))))),?_⟩
  refine⟨_,rfl,s,C,dx,_,_,rfl,hs,c.cl,c.nP,rfl,rfl,_,rfl,?_⟩;refine cG (λh=>?_) (λh=>?_)
  ·have F1:p=0:=by simpa using h
   refine⟨_,rfl,rfl,_,rfl,?_⟩;refine cG (λh2=>?_) (λh2=>?_)
   ·have hb:b=0:=by simpa using h2
    exact⟨by decide,q1 F1 hb⟩
   ·have hb:b≠0:=by simpa using h2
    exact⟨_,rfl,_,rfl,t,b,rfl,hb,hB,q2 F1 hb⟩
  ·have F1:p≠0:=by simpa using h
   obtain⟨Kk,p2,M9⟩:=hp.two F1;refine⟨_,rfl,_,rfl,s,C,dx,_,_,rfl,hs,c.cl,c.nP,rfl,_,_,rfl,rfl,(by show(0:Int)<p;omega),rfl,_,rfl,?_⟩;refine cG (λh2=>?_) (λh2=>?_)
   ·have hb:b%p=0:=by simpa using h2
    exact⟨by decide,q3 F1 hb⟩
   ·have hb:b%p≠0:=by simpa using h2
    refine⟨_,rfl,_,rfl,_,rfl,s,C,dx,_,_,rfl,hs,c.cl,c.nP,rfl,b,p,rfl,Kk,hb,λv v0 v1 v2=>?_⟩;refine⟨_,_,rfl,rfl,.inr ⟨by omega,by omega⟩,_,rfl,s,C,dx,_,_,rfl,hs,c.cl,c.nP,rfl,_,_,rfl,rfl,(by show(0:Int)<p;omega),hJ,λa ha=>q4 F1 hb v v0 v1 v2 a ha⟩
theorem abx:CN BD BD (ar oV):=fe (by decide +kernel)
theorem abC (F:vP K "settled" "Field.settled" oV f fd)(c:Bg K mg C)(mF:mg "FRACTIONS"=some (.int 0 tF))
 (q0:Ca P w K mg base 2 Bw "lowest" zr):
 yd P w K mg base (cD P w) 3 f fd BD (l0 C):=by
 obtain⟨fl,Kj,FL,bL,mL,kL⟩:=q0;refine F.okN abx (λvs H Q E h=>?_) (λFv A outer s H vs Q E hr h=>?_)
 ·obtain⟨s,dx,p,t,b,rfl,_⟩:=h;rfl
 ·obtain⟨s,dx,p,t,b,rfl,hs,hp,hB,hb,q⟩:=h
  refine⟨_,au (bF (aN fN (cN (pv 0) rfl) (fu (by rfl) mF (show aG (.int 0) (.int 0 tF) from⟨_,rfl⟩)) (aU _))
   (ax (aF (aH FL hr (by rfl) mL kL bL .nil ao (aj (pv 1) (aj (pv 2) ag))))) aS)
   (ax (aF (aJ (aj (aK cO (pv 1) (cN (pv 0) rfl)) (aj ak ag))))),?_⟩
  refine⟨_,rfl,s,C,dx,_,_,rfl,hs,c.cl,c.nP,rfl,rfl,_,rfl,?_⟩;refine cG (λh=>?_) (λh=>?_)
  ·have F1:p=0:=by simpa using h
   refine⟨_,rfl,_,rfl,t,b,rfl,hb,hB,λa ha=>?_⟩;have y:=q a ha;unfold c7 c9 at y;rw[Yh F1,Yh F1] at y;exact y
  ·have F1:p≠0:=by simpa using h
   obtain⟨Kk,p2,M9⟩:=hp.two F1;refine⟨_,rfl,_,rfl,s,C,dx,_,_,rfl,hs,c.cl,c.nP,rfl,_,_,rfl,rfl,(by show(0:Int)<p;omega),hJ,λa ha=>?_⟩;have y:=q a ha;unfold c7 c9 at y;rw[Yd F1,Yd F1] at y;exact y
theorem a0 (x y:V):p9 [x,y] 0=some x:=rfl
theorem a1 (x y:V):p9 [x,y] 1=some y:=rfl
theorem abK:CN Ez Ez (ar A5):=fe (by decide +kernel)
variable {b:Int}
theorem qX {a:Int}(h:a≠0)(k:b≠0):a*b≠0:=zU h k
theorem abL (F:vP K "plus" "Field.plus" A5 f fd)(c:Bg K mg C)(q0:Cm P w K mg base 3 BD C "settled" (l0 C)):
 yd P w K mg base (cD P w) 4 f fd Ez (yu C je):=by
 obtain⟨fs,XB,FS,bS,mS⟩:=q0;refine F.okN abK (λvs H Q E h=>?_) (λFv A outer s H vs Q E hr h=>?_)
 ·obtain⟨s,dx,a1,a2,p,t1,b1,t2,b2,rfl,_⟩:=h;rfl
 ·obtain⟨s,dx,x1,x2,p,t1,b1,t2,b2,rfl,hs,hp,h1,h2,B1,B2,B3,B4,n1,n2,q⟩:=h;refine⟨_,ax (aF (fJ (pv 0) c.cl mS FS hr bS .nil ao (aj (aK fF (aK dO (aY bH (pv 1) ak (λ_ _=>rfl)) (aY bH (pv 2) ak (λ_ _=>rfl))) (aK dO (aY bH (pv 2) ak (λ_ _=>rfl)) (aY bH (pv 1) ak (λ_ _=>rfl)))) (aj (aK dO (aY bH (pv 1) ak (λ_ _=>rfl)) (aY bH (pv 2) ak (λ_ _=>rfl))) ag)))),?_⟩;refine⟨_,rfl,s,dx,_,rfl,hs,rfl,?_⟩;refine⟨_,rfl,x1,_,0,_,rfl,rfl,aV.of h1,a0 _ _,_,rfl,x2,_,1,_,rfl,rfl,aV.of h2,a1 _ _,_,_,rfl,rfl,⟨B1.mono (by decide),B4.mono (by decide)⟩,?_⟩;refine⟨_,rfl,x2,_,0,_,rfl,rfl,aV.of h2,a0 _ _,_,rfl,x1,_,1,_,rfl,rfl,aV.of h1,a1 _ _,_,_,rfl,rfl,⟨B3.mono (by decide),B2.mono (by decide)⟩,_,_,rfl,rfl,?_⟩;refine⟨_,rfl,x1,_,1,_,rfl,rfl,aV.of h1,a1 _ _,_,rfl,x2,_,1,_,rfl,rfl,aV.of h2,a1 _ _,_,_,rfl,rfl,⟨B2.mono (by decide),B4.mono (by decide)⟩,?_⟩;exact⟨s,dx,p,_,_,rfl,hs,hp,(B2.mul B4).mono (by decide),qX n1 n2,q⟩
noncomputable abbrev A9:Stmt:=(ba 40)
noncomputable abbrev AS:Stmt:=(ba 41)
noncomputable abbrev A0:Stmt:=(ba 42)
noncomputable abbrev AG:Stmt:=(ba 44)
noncomputable abbrev xI:Stmt:=(ba 45)
theorem aq {a:Addr}{o:HO}(h:H a=none):aC H (upd H a o):=λb u e=>by rw[aA (aB e h)];exact e
noncomputable def ya (K:PySem.W.Frag):Sp:=λvs H Q _=>∃(a:Addr)(ns:List Int)(k:Int),vs=[.ref a,.int k]/\bo K H a (ns.map V.int)/\ns.length<=63/\0<=k/\k<=63 /\
 ∀(p:Addr)(l r:Int),H p=none->0<=r->r<2147483647->Q (.ref p) (upd H p (.lst [.int l,.int r]))
noncomputable def EJ:Sp:=λvs H Q _=>∃(p:Addr)(l r m:Int),vs=[.ref p,.int m]/\H p=some (.lst [.int l,.int r])/\0<=r/\r<2147483647/\0<m/\m<18446744073709551616 /\
 ∀(z l' r':Int),0<=z->z<m->0<=r'->r'<2147483647->Q (.int z) (upd H p (.lst [.int l',.int r']))
theorem iA {Q:VK}{k c:Int}{x:Option V}(IX:0<=k)(Kl:k<=63)(q:∀(p:Addr)(l r:Int),H p=none->0<=r->r<2147483647->Q (.ref p) (upd H p (.lst [.int l,.int r]))):
 qL (bq (cc 3) (bq (kn (rI (λ_ j=>0<j) λi j=>.int (i%j)) (kn (rI vt λi j=>.int (i*j)) (kn (vU λi j=>.int (i+j)) (kn (vU λi j=>.int (i+j)) (kn (rI (λ_ j=>0<j) λi j=>.int (i%j)) (cc 2) (tC (.int 2147483629)))
  (kn (rI vt λi j=>.int (i*j)) (kn (rI vt λi j=>.int (i*j)) (tC (.int 104729)) (cc 1)) (cc 1))) (tC (.int 7))) (tC (.int 48271))) (tC (.int 2147483647))) Bz)) [x,some (.int k),some (.int c),some (.int l)] H Q:=by
 have h1:(0:Int)<=104729*k:=by omega
 have h2:104729*k<=6597927:=by omega
 refine⟨_,rfl,_,rfl,_,_,rfl,rfl,(by show(0:Int)<2147483629;decide),_,rfl,_,_,rfl,rfl,.inl ⟨by decide,by decide⟩,_,rfl,_,_,rfl,rfl,.inl ⟨by omega,by omega⟩,_,_,rfl,rfl,_,_,rfl,rfl,_,_,rfl,rfl,.inr ⟨by decide,by decide⟩,_,_,rfl,rfl,(by show(0:Int)<2147483647;decide),hJ,λp hp=>?_⟩;exact q p _ _ hp (Zw _ (by decide)) (Zd _ (by decide))
theorem jO:CN ["_law_script","_law_k","_law_cell","_law_left"] Ew (ar A9):=fe (by decide +kernel)
theorem abM (F:vP K "_law_room" "_law_room" A9 f fd)(hlen:mg "len"=none):yd P w K mg base (cD P w) 1 f fd Ew (ya K):=by
 refine F.okN jO (λvs H Q E h=>?_) (λFv A outer s H vs Q E hr h=>?_)
 ·obtain⟨a,ns,k,rfl,_⟩:=h;rfl
 ·obtain⟨a,ns,k,rfl,hS,hn,IX,Kl,q⟩:=h
  refine⟨_,au (aX (i:=2) jO.nd rfl (Or.inl rfl) ak)
   (au (bF (aN ir (pv 1) (aE bJ (by rfl) hlen ZU (cq (pv 0) ag)) (aU _))
    (ax (aX (i:=2) jO.nd rfl (Or.inl rfl) (aY cB (pv 0) (pv 1) (λ_ _=>rfl)))) aS)
   (au (aX (i:=3) jO.nd rfl (Or.inl rfl) ak)
   (au (bF (aN A4 (pv 2) (aK xB ak ak) (aU _)) (ax (aX (i:=3) jO.nd rfl (Or.inl rfl) (pv 2))) aS)
   (ax (aF (cE (cq (pv 3) (cq
    (aK cO (aK dC (aK fF (aK fF (aK cO (pv 2) ak) (aK dC (aK dC ak (pv 1)) (pv 1))) ak) ak) ak) ag)))))))),?_⟩
  refine⟨_,rfl,_,rfl,a,_,rfl,.inl hS,_,_,rfl,rfl,_,rfl,?_⟩;refine cG (λh=>?_) (λh=>?_)
  ·have Fy:k.toNat<ns.length:=by
    have h1:=Zg h;rw[Yg] at h1;omega
   obtain⟨c,hc⟩:∃c,p9 (ns.map V.int) k=some (V.int c):=by
    refine⟨ns[k.toNat],?_⟩
    have e:((k.toNat:Nat):Int)=k:=by omega
    have z:=sO (xs:=ns.map V.int) (j:=k.toNat) (v:=V.int ns[k.toNat]) (by rw[YU];simp[Fy]);rw[e] at z;exact z
   refine⟨_,rfl,_,rfl,a,_,k,_,rfl,rfl,hS,hc,?_⟩;refine⟨_,rfl,_,_,rfl,rfl,⟨by decide,by decide,by decide⟩,_,_,rfl,rfl,_,rfl,?_⟩;refine cG (λh2=>?_) (λh2=>?_)
   ·exact⟨_,rfl,iA IX Kl q⟩
   ·exact iA IX Kl q
  ·refine⟨_,rfl,_,_,rfl,rfl,⟨by decide,by decide,by decide⟩,_,_,rfl,rfl,_,rfl,?_⟩;refine cG (λh2=>?_) (λh2=>?_)
   ·exact⟨_,rfl,iA IX Kl q⟩
   ·exact iA IX Kl q
theorem nC:CN ["_law_room_here","_law_many","_law_found"] wQ (ar AS):=fe (by decide +kernel)
theorem abN (F:vP K "_law_take" "_law_take" AS f fd):yd P w K mg base (cD P w) 1 f fd wQ EJ:=by
 refine F.okN nC (λvs H Q E h=>?_) (λFv A outer s H vs Q E hr h=>?_)
 ·obtain⟨p,l,r,m,rfl,_⟩:=h;rfl
 ·obtain⟨p,l,r,m,rfl,hp,Ik,FN,JG,XC,q⟩:=h
  refine⟨_,au (bF (aN AO (aY cB (pv 0) ak (λ_ _=>rfl)) ak (aU _))
   (au (aX (i:=2) nC.nd rfl (Or.inl rfl) (aK cO (aY cB (pv 0) ak (λ_ _=>rfl)) (pv 1)))
   (au (jZ (aK eZ (aY cB (pv 0) ak (λ_ _=>rfl)) (pv 1)) (qp (pv 0) ak kg))
   (ax (aF (pv 2))))) aS)
   (au (jZ (aK cO (aK fF (aK dC (aY cB (pv 0) ak (λ_ _=>rfl)) ak) ak) ak) (qp (pv 0) ak kg))
   (au (aX (i:=2) nC.nd rfl (Or.inl rfl) (aK adf (aK cO (aK dC (aY cB (pv 0) ak (λ_ _=>rfl)) (aY cB (pv 0) ak (λ_ _=>rfl))) ak) ak))
   (au (bF (aN AO (pv 1) (aK xB ak ak) (aU _))
    (au (jZ (aK cO (aK fF (aK dC (aY cB (pv 0) ak (λ_ _=>rfl)) ak) ak) ak) (qp (pv 0) ak kg))
    (ax (aX (i:=2) nC.nd rfl (Or.inl rfl) (aK fF (aK dC (pv 2) ak) (aK cO (aK dC (aY cB (pv 0) ak (λ_ _=>rfl)) (aY cB (pv 0) ak (λ_ _=>rfl))) ak))))) aS)
   (ax (aF (aK cO (pv 2) (pv 1))))))),?_⟩
  have i0:∀x y:V,p9 [x,y] 0=some x:=λ_ _=>rfl;have i1:∀x y:V,p9 [x,y] 1=some y:=λ_ _=>rfl;have n0:xN [V.int l,V.int r].length 0=some 0:=rfl;have n1:∀x y:V,xN [x,y].length 1=some 1:=λ_ _=>rfl;refine⟨_,rfl,p,_,0,_,rfl,rfl,bo.of hp,i0 _ _,_,_,rfl,rfl,_,rfl,?_⟩;refine cG (λh=>?_) (λh=>?_)
  ·refine⟨_,rfl,p,_,0,_,rfl,rfl,bo.of hp,i0 _ _,_,rfl,_,_,rfl,rfl,JG,?_⟩;refine⟨_,rfl,p,_,0,_,rfl,rfl,bo.of hp,i0 _ _,_,rfl,_,_,rfl,rfl,⟨by omega,(show B 64 m from(by show m.natAbs<2^64;omega)).mono (by decide)⟩,_,rfl,p,_,0,0,rfl,rfl,hp,n0,?_⟩;exact⟨_,rfl,q _ _ _ (Zw _ (by omega)) (Zd _ JG) Ik FN⟩
  ·have e1:∀t:Int,0<=t%2147483647/\t%2147483647<2147483647:=λt=>⟨Zw _ (by decide),Zd _ (by decide)⟩;refine⟨_,rfl,p,_,1,_,rfl,rfl,bo.of hp,i1 _ _,_,_,rfl,rfl,.inl ⟨by omega,by omega⟩,_,_,rfl,rfl,_,_,rfl,rfl,(by show(0:Int)<2147483647;decide),_,rfl,p,_,1,1,rfl,rfl,hp,n1 _ _,?_⟩;refine⟨_,rfl,p,_,1,_,rfl,rfl,bo.of ai,i1 _ _,_,rfl,p,_,1,_,rfl,rfl,bo.of ai,i1 _ _,_,_,rfl,rfl,.inl ⟨by omega,by omega⟩,_,_,rfl,rfl,(by show(0:Int)<2147483629;decide),_,_,rfl,rfl,⟨by decide,by decide⟩,?_⟩;refine⟨_,rfl,_,_,rfl,rfl,⟨by decide,by decide,by decide⟩,_,_,rfl,rfl,_,rfl,?_⟩;refine cG (λh2=>?_) (λh2=>?_)
   ·refine⟨_,rfl,p,_,1,_,rfl,rfl,bo.of ai,i1 _ _,_,_,rfl,rfl,.inl ⟨by omega,by omega⟩,_,_,rfl,rfl,_,_,rfl,rfl,(by show(0:Int)<2147483647;decide),_,rfl,p,_,1,1,rfl,rfl,ai,n1 _ _,?_⟩;rw[tU];refine⟨_,rfl,_,_,rfl,rfl,.inr ⟨by decide,by decide⟩,_,rfl,p,_,1,_,rfl,rfl,bo.of ai,i1 _ _,_,rfl,p,_,1,_,rfl,rfl,bo.of ai,i1 _ _,_,_,rfl,rfl,.inl ⟨by omega,by omega⟩,_,_,rfl,rfl,(by show(0:Int)<2147483587;decide),_,_,rfl,rfl,?_⟩;exact⟨_,rfl,_,rfl,_,_,rfl,rfl,JG,q _ _ _ (Zw _ (by omega)) (Zd _ JG) (e1 _).1 (e1 _).2⟩
   ·exact⟨_,rfl,_,rfl,_,_,rfl,rfl,JG,q _ _ _ (Zw _ (by omega)) (Zd _ JG) (e1 _).1 (e1 _).2⟩
noncomputable def Dy (H:Hp)(Q:VK)(t b:Int):Prop:=∀(H':Hp)(a:Addr),aC H H'->H' a=some (cw t b)->Q (.ref a) H'
theorem Dy.of {H':Hp}{Q:VK}{t:Int}(q:Dy H Q t b)(S:aC H H'):∀a,H' a=none->Q (.ref a) (upd H' a (cw t b)):=λa ha=>q _ a (S.trans (aq ha)) ai
noncomputable def qA:Sp:=λvs H Q _=>∃t b:Int,vs=[.int t,.int b]/\b≠0/\B 9000 b/\B 9000 t/\Dy H Q (dw t b) (cx t b)
noncomputable def EI:Sp:=λvs H Q _=>∃p t b:Int,vs=[.int p,.int t,.int b]/\FP p/\b≠0/\B 9000 b/\B 9000 t/\(p≠0->b=1)/\Dy H Q (c7 p t b) (c9 p t b)
noncomputable def nA (g:Int->Int->Int->Int->Int):Sp:=λvs H Q _=>∃(p t1 b1 t2 b2:Int)(a1 a2:Addr),vs=[.int p,.ref a1,.ref a2]/\FP p/\H a1=some (cw t1 b1)/\H a2=some (cw t2 b2)/\B 4000 t1/\B 4000 b1/\B 4000 t2/\B 4000 b2/\b1≠0/\b2≠0/\(p≠0->b1*b2=1) /\
 Dy H Q (c7 p (g t1 b1 t2 b2) (b1*b2)) (c9 p (g t1 b1 t2 b2) (b1*b2))
noncomputable abbrev abX:List Str:=["_law_top","_law_base","_law_one","_law_other","_law_sign"]
theorem jJ:CN abX EL (ar A0):=fe (by decide +kernel)
theorem AY (c:Int):(if c<0 then -c else c)=ab c:=rfl
theorem abZ (F:vP K "_law_lowest" "_law_lowest" A0 f fd)(mA:mg "abs"=none)(mI:mg "int"=none):yd P w K mg base (cD P w) 1 f fd EL qA:=by
 refine F.okN jJ (λvs H Q E h=>?_) (λFv A outer s H vs Q E hr h=>?_)
 ·obtain⟨a,b,rfl,_⟩:=h;rfl
 ·obtain⟨t,b,rfl,hb,hB,hT,q⟩:=h
  refine⟨_,au (aX (i:=2) jJ.nd rfl (Or.inl rfl) (aE ix (by rfl) mA (by rfl) (aj (pv 0) ag)))
   (au (aX (i:=3) jJ.nd rfl (Or.inl rfl) (aE ix (by rfl) mA (by rfl) (aj (pv 1) ag)))
   (au (kx Y4 (aN fW (pv 3) ak (aU _)) (ax (iR (i:=2) (j:=3) rfl jJ.nd rfl rfl (by decide) rfl rfl (aj (pv 3) (aj (aK sS (pv 2) (pv 3)) ag)) rfl)))
   (au (aX (i:=4) jJ.nd rfl (Or.inl rfl) (aY cB (cE (aj ak (aj (pq j9 ak) ag))) (bt gy (by rfl) mI (by rfl) (aj (cp ir (pv 1) ak (aU _)) ag)) (λ_ _=>rfl)))
   (ax (aF (aJ (aj (aK eZ (aK dC (pv 4) (pv 0)) (pv 2)) (aj (aK eZ (aE ix (by rfl) mA (by rfl) (aj (pv 1) ag)) (pv 2)) ag)))))))),?_⟩
  refine⟨_,rfl,t,rfl,_,rfl,b,rfl,?_⟩;rw[AY,AY];refine⟨λm σ H'=>∃c d:Int,σ=[some (.int t),some (.int b),some (.int c),some (.int d),none]/\H'=H/\m=d.natAbs/\Int.gcd c d=Int.gcd t b/\0<=c/\0<=d,⟨_,ab t,ab b,rfl,rfl,rfl,aaV t b,by rw[jA];omega,by rw[jA];omega⟩,?_⟩;rintro m σ H' ⟨c,d,rfl,rfl,rfl,hg,XD,M7⟩;refine⟨_,rfl,rfl,_,rfl,?_⟩;refine cG (λh=>?_) (λh=>?_)
  ·have hd:d≠0:=by simpa using h
   refine⟨λσ' Ij=>∃c' d':Int,σ'=[some (.int t),some (.int b),some (.int c'),some (.int d'),none]/\Ij=H'/\d'.natAbs<d.natAbs/\Int.gcd c' d'=Int.gcd t b/\0<=c'/\0<=d',λσ' Ij ⟨c',d',e1,e2,e3,e4,e5,e6⟩=>⟨_,e3,c',d',e1,e2,rfl,e4,e5,e6⟩,?_⟩;refine⟨_,rfl,_,rfl,_,rfl,_,_,rfl,rfl,hd,_,_,rfl,d,c.fmod d,rfl,rfl,sC c d hd,by rw[j5,hg],M7,Cs c (by omega)⟩
  ·have hd:d=0:=by simpa using h
   subst hd
   have eg:c=cW t b:=by
    unfold cW;rw[<-hg];simp;omega
   have gp:=eU (t:=t) hb;have QZ:B 9000 (cW t b):=hB.le (aa0 hb);subst eg;refine⟨_,rfl,hJ,λz hz=>?_⟩;have S:=aq (o:=.lst [V.int 1,V.int (-1)]) hz;refine⟨_,rfl,_,_,rfl,rfl,.inr ⟨_,rfl,?_⟩⟩
   have Ja:p9 [V.int 1,V.int (-1)] (if decide (b<0)=true then 1 else 0)=some (.int (sg b)):=by
    unfold sg
    by_cases N3:b<0
    ·simp[N3];rfl
    ·simp[N3];rfl
   refine⟨z,_,_,_,rfl,rfl,bo.of ai,Ja,?_⟩
   have XE:-1<=sg b/\sg b<=1:=by unfold sg;split <;> decide
   refine⟨_,rfl,_,rfl,_,_,rfl,rfl,.inl ⟨by omega,by omega⟩,_,rfl,_,_,rfl,rfl,⟨by omega,QZ⟩,_,rfl,b,rfl,_,rfl,_,_,rfl,rfl,⟨by omega,QZ⟩,hJ,λa ha=>?_⟩;have y:=q.of S a ha;rw[<-aab (t:=t) hb,<-aaR (t:=t) hb] at y;exact y
theorem ab0:CN DE DE (ar AG):=fe (by decide +kernel)
theorem ab1 (F:vP K "_law_make" "_law_make" AG f fd)(q0:Ca P w K mg base 1 EL "_law_lowest" qA):
 yd P w K mg base (cD P w) 2 f fd DE EI:=by
 obtain⟨fl,Kj,FL,bL,mL,kL⟩:=q0;refine F.okN ab0 (λvs H Q E h=>?_) (λFv A outer s H vs Q E hr h=>?_)
 ·obtain⟨p,t,b,rfl,_⟩:=h;rfl
 ·obtain⟨p,t,b,rfl,hp,hb,hB,hT,h1,q⟩:=h
  refine⟨_,au (bF (aN fN (pv 0) ak (aU _)) (ax (aF (aH FL hr (by rfl) mL kL bL .nil ao (aj (pv 1) (aj (pv 2) ag))))) aS)
   (au (bF (aN fW (aK cO (pv 2) (pv 0)) ak (aU _)) adZ aS)
   (ax (aF (aJ (aj (aK cO (pv 1) (pv 0)) (aj ak ag)))))),?_⟩
  refine⟨_,rfl,rfl,_,rfl,?_⟩;refine cG (λh=>?_) (λh=>?_)
  ·have F1:p=0:=by simpa using h
   unfold c7 c9 at q;rw[Yh F1,Yh F1] at q;exact⟨_,rfl,_,rfl,t,b,rfl,hb,hB,hT,q⟩
  ·have F1:p≠0:=by simpa using h
   obtain⟨Kk,p2,M9⟩:=hp.two F1;have Jb:=h1 F1;subst Jb;refine⟨_,rfl,_,rfl,_,_,rfl,rfl,(by show(0:Int)<p;omega),rfl,_,rfl,?_⟩;have e1:(1:Int)%p=1:=BY (by decide) (by omega);refine cG (λh=>absurd h (by simp[e1])) (λ_=>?_);unfold c7 c9 at q;rw[Yd F1,Yd F1] at q;exact⟨_,rfl,_,rfl,_,_,rfl,rfl,(by show(0:Int)<p;omega),hJ,q.of (aC.refl _)⟩
theorem ab2:CN vv vv (ar xI):=fe (by decide +kernel)
theorem ab4 (F:vP K "_law_plus" "_law_plus" xI f fd)(q0:Ca P w K mg base 2 DE "_law_make" EI):
 yd P w K mg base (cD P w) 3 f fd vv (nA je):=by
 obtain⟨fl,Kj,FL,bL,mL,kL⟩:=q0;refine F.okN ab2 (λvs H Q E h=>?_) (λFv A outer s H vs Q E hr h=>?_)
 ·obtain⟨p,t1,b1,t2,b2,x1,x2,rfl,_⟩:=h;rfl
 ·obtain⟨p,t1,b1,t2,b2,x1,x2,rfl,hp,h1,h2,B1,B2,B3,B4,n1,n2,hb,q⟩:=h;refine⟨_,ax (aF (aH FL hr (by rfl) mL kL bL .nil ao (aj (pv 0) (aj (aK fF (aK dO (aY bH (pv 1) ak (λ_ _=>rfl)) (aY bH (pv 2) ak (λ_ _=>rfl))) (aK dO (aY bH (pv 2) ak (λ_ _=>rfl)) (aY bH (pv 1) ak (λ_ _=>rfl)))) (aj (aK dO (aY bH (pv 1) ak (λ_ _=>rfl)) (aY bH (pv 2) ak (λ_ _=>rfl))) ag))))),?_⟩;refine⟨_,rfl,?_⟩;refine⟨_,rfl,x1,_,0,_,rfl,rfl,aV.of h1,a0 _ _,_,rfl,x2,_,1,_,rfl,rfl,aV.of h2,a1 _ _,_,_,rfl,rfl,⟨B1.mono (by decide),B4.mono (by decide)⟩,?_⟩;refine⟨_,rfl,x2,_,0,_,rfl,rfl,aV.of h2,a0 _ _,_,rfl,x1,_,1,_,rfl,rfl,aV.of h1,a1 _ _,_,_,rfl,rfl,⟨B3.mono (by decide),B2.mono (by decide)⟩,_,_,rfl,rfl,?_⟩;refine⟨_,rfl,x1,_,1,_,rfl,rfl,aV.of h1,a1 _ _,_,rfl,x2,_,1,_,rfl,rfl,aV.of h2,a1 _ _,_,_,rfl,rfl,⟨B2.mono (by decide),B4.mono (by decide)⟩,?_⟩;exact⟨p,_,_,rfl,hp,qX n1 n2,(B2.mul B4).mono (by decide),((B1.mul B4).add (B3.mul B2)).mono (by decide),hb,q⟩
noncomputable def a7 (H:Hp)(r:Addr):Prop:=∃l x:Int,H r=some (.lst [.int l,.int x])/\0<=x/\x<2147483647
noncomputable def SameBut (r:Addr)(H H':Hp):Prop:=∀b o,H b=some o->b≠r->H' b=some o
variable {r:Addr}
theorem SameBut.trans {H1 H2:Hp}(a:SameBut r H H1)(b:SameBut r H1 H2):SameBut r H H2:=λc o e n=>b c o (a c o e n) n
theorem SameBut.of {H1:Hp}(a:aC H H1):SameBut r H H1:=λc o e _=>a c o e
theorem SameBut.upd {o:HO}:SameBut r H (upd H r o):=λb u e n=>by rw[aA n];exact e
theorem CO {a:Addr}{t:Int}(h:H a=some (cw t b)):aM K H (.tup [.int t,.int b]) (.ref a):=by
 unfold aM;refine⟨a,_,rfl,aV.of h,?_⟩;unfold bg;refine⟨_,_,rfl,by unfold aM;rfl,?_⟩;unfold bg;refine⟨_,_,rfl,by unfold aM;rfl,?_⟩;unfold bg;rfl
theorem Ds (t b:Int):iF (.tup [.int t,.int b])=1:=by simp[iF,eW]
theorem ab9 (t b u d:Int):gZ (.tup [.int t,.int b]) (.tup [.int u,.int d])=(t==u&&b==d):=by simp[gZ,eF]
end K44
namespace L2
open PySem PySem.Spec PyProof.Rows PySem.W
end L2
namespace K44
open PySem L2 PySem.W Nm
noncomputable abbrev xC:Stmt:=bh (ba 20) 4
noncomputable abbrev mz:Stmt:=bh (ba 20) 11
variable {H:Hp}{x:V}
theorem Th.same {H':Hp}{T:String}(h:Th H x T)(s:aC H H'):Th H' x T:=by
 cases h with
 |non=>exact .non
 |bl b=>exact .bl b
 |int i=>exact .int i
 |str x=>exact .str x
 |lst e=>exact .lst (s _ _ e)
 |tup e=>exact .tup (s _ _ e)
 |dK e=>exact .dK (s _ _ e)
inductive TX (H:Hp):V->Option (V×V)->Prop where
 |no {x:V}{T:String}:Th H x T->T ≠ "tuple"->TX H x none
 |odd {a:Addr}{xs:List V}:H a=some (.tup xs)->xs.length≠2->TX H (.ref a) none
 |two {a:Addr}{y z:V}{Ty Tz:String}:H a=some (.tup [y,z])->Th H y Ty->Th H z Tz->TX H (.ref a) (some (y,z))
theorem TX.same {H':Hp}{o:Option (V×V)}(h:TX H x o)(s:aC H H'):TX H' x o:=by
 cases h with
 |no th n=>exact .no (th.same s) n
 |odd e n=>exact .odd (s _ _ e) n
 |two e h1 h2=>exact .two (s _ _ e) (h1.same s) (h2.same s)
noncomputable def wB (p:Int):Option (V×V)->Bool
 |some (.int t,.int b)=>if p=0 then decide (1<=b)&&decide (Int.gcd t b=1) else decide (b=1)&&(decide (0<=t)&&decide (t<p))
 |_=>false
theorem Th.isTup {K:Frag}{T:String}(h:Th H x T):kitOne K (.type T) (.type "tuple")=some (decide (T="tuple")):=by cases h <;> rfl
noncomputable def rm (C NN:Addr):Sp:=λvs H Q E=>∃(s dx:Addr)(p:Int)(x y:V)(Tx Ty:String),vs=[.ref s,x,y]/\H s=some (.ins C dx (gE p))/\Th H x Tx/\Th H y Ty/\(∀t b,x=.int t->y=.int b->rS C NN [.ref s,.int t,.int b] H Q E)/\((cg x&&cg y)=false->E (.ref NN) none H)
noncomputable def kN (C:Addr):Sp:=λvs H Q _=>∃(s dx:Addr)(p:Int)(x:V)(o:Option (V×V)),vs=[.ref s,x]/\H s=some (.ins C dx (gE p))/\FP p/\TX H x o/\Q (.bl (wB p o)) H
variable {P:wu}{w:World}{K:PySem.W.Frag}{mg:vx}{base:Heap}
theorem aca:CN BD BD (ar xC):=fe (by decide +kernel)
theorem acb {f C NN T:Addr}{fd:BB}(F:rK K "made" "Field.made" xC f fd T)(c:Bg K mg C)(mN:mg "NoNumber"=some (.ref NN))(qN:nG K NN Cc qh=true)
 (q1:Cm P w K mg base 3 BD C "quotient" (rS C NN))
 (q0:Ca P w K mg base 1 p4 "is_whole" uY):yd P w K mg base (cD P w) 4 f fd BD (rm C NN):=by
 obtain⟨fw,Ki,FW,bW,mW,kW⟩:=q0;obtain⟨fq,XF,FQ,bQ,mQ⟩:=q1;refine F.okE aca (λvs H Q E h=>?_) (λFv A outer s H vs Q E hr h=>?_)
 ·obtain⟨s,dx,p,x,y,Tx,Ty,rfl,_⟩:=h;rfl
 ·obtain⟨s,dx,p,x,y,Tx,Ty,rfl,hs,hx,hy,q,qE⟩:=h;have FN:xh 1 _:=hr.mono (by decide)
  refine⟨_,au (bF (PW.pt (dE (bN (bO (aH FW FN (by rfl) mW kW bW .nil ao (aj (pv 1) ag)))) (dD (bN (bO (aH FW FN (by rfl) mW kW bW .nil ao (aj (pv 2) ag)))))))
   (ax (fU ZO qN rfl dX (by rfl) mN (aj gN ag))) aS)
   (ax (aF (fJ (E:=E) (pv 0) c.cl mQ FQ hr bQ .nil abR (aj (pv 1) (aj (pv 2) ag))))),?_⟩
  refine⟨_,rfl,x,Tx,rfl,hx,_,rfl,?_⟩
  cases e1:cg x with
  |false=>exact bA (bA ⟨by decide,qE (by rw[e1];rfl)⟩)
  |true =>
   refine b7 ⟨_,rfl,y,Ty,rfl,hy,_,rfl,?_⟩
   cases e2:cg y with
   |false=>exact bA ⟨by decide,qE (by rw[e1,e2];rfl)⟩
   |true =>
    have z1:∃t,x=.int t:=by cases x <;> first|exact⟨_,rfl⟩|cases e1
    have z2:∃b,y=.int b:=by cases y <;> first|exact⟨_,rfl⟩|cases e2
    obtain⟨t,rfl⟩:=z1;obtain⟨b,rfl⟩:=z2;exact b7 ⟨_,rfl,s,dx,_,rfl,hs,rfl,_,rfl,_,rfl,q t b rfl rfl⟩
theorem gS:CN ["self","thing","top","bottom"] ["self","thing"] (ar mz):=fe (by decide +kernel)
theorem acd {f C:Addr}{fd:BB}{tF:Tok}(F:vP K "is_number" "Field.is_number" mz f fd)(c:Bg K mg C)(mF:mg "FRACTIONS"=some (.int 0 tF))(n:zv mg)(mT:mg "tuple"=none)(mN:mg "len"=none)
 (q0:Ca P w K mg base 1 DO "common_divisor" D9)
 (q1:Ca P w K mg base 1 p4 "is_whole" uY):yd P w K mg base (cD P w) 2 f fd ["self","thing"] (kN C):=by
 obtain⟨fg,N0,FG,bG,mG,kG⟩:=q0;obtain⟨fw,Ki,FW,bW,mW,kW⟩:=q1;refine F.okN gS (λvs H Q E h=>?_) (λFv A outer s H vs Q E hr h=>?_)
 ·obtain⟨s,dx,p,x,o,rfl,_⟩:=h;rfl
 ·obtain⟨s,dx,p,x,o,rfl,hs,hp,tx,q⟩:=h
  refine⟨_,au (bF (PW.pt (dE (bN (bO (aE aZ (by rfl) n.isi (by rfl) (aj (pv 1) (aj (cC (by rfl) mT (by rfl) (show aG (.ty "tuple") (.type "tuple") from rfl)) ag)))))
   (dD (aN fW (aE bJ (by rfl) mN ZU (aj (pv 1) ag)) ak (aU _))))) (ax (aF eB)) aS)
   (au (jZ (pv 1) (cY rfl (aO (aD (i:=2) gS.nd rfl (Or.inl rfl)) (aO (aD (i:=3) gS.nd rfl (Or.inl rfl)) cu))))
   (au (bF (PW.pt (dE (bN (bO (aH FW hr (by rfl) mW kW bW .nil ao (aj (pv 2) ag)))) (dD (bN (bO (aH FW hr (by rfl) mW kW bW .nil ao (aj (pv 3) ag))))))) (ax (aF eB)) aS)
   (au (bF (aN fN (cN (pv 0) rfl) (fu (by rfl) mF (show aG (.int 0) (.int 0 tF) from⟨_,rfl⟩)) (aU _))
    (ax (aF (dz (cp A4 (pv 3) ak (aU _)) (eM (cp fN (aH FG hr (by rfl) mG kG bG .nil ao (aj (pv 2) (aj (pv 3) ag))) ak (aU _)))))) aS)
   (ax (aF (dz (cp fN (pv 3) ak (aU _)) (eM (jG pb ir ak (pv 2) (cN (pv 0) rfl))))))))),?_⟩
  cases tx with
  |@no x T th ne =>
   refine⟨_,rfl,x,.ty "tuple",_,_,_,rfl,rfl,th.ty,th.isTup,_,rfl,?_⟩;rw[Yu ne];exact bA (bA q)
  |@odd a xs ha hl =>
   refine⟨_,rfl,.ref a,.ty "tuple",_,_,_,rfl,rfl,.of (.tup ha),rfl,_,rfl,b7 ?_⟩;refine⟨_,rfl,a,_,rfl,.inr (aV.of ha),rfl,_,rfl,?_⟩;refine cG (λ_=>q) (λh=>absurd (by simp;omega) h)
  |@two a y z Ty Tz ha hy hz =>
   refine⟨_,rfl,.ref a,.ty "tuple",_,_,_,rfl,rfl,.of (.tup ha),rfl,_,rfl,b7 ?_⟩;refine⟨_,rfl,a,_,rfl,.inr (aV.of ha),rfl,_,rfl,?_⟩;refine cG (λh=>absurd h (by simp)) (λ_=>?_);refine⟨_,rfl,a,_,rfl,aV.of ha,rfl,_,_,rfl,_,_,rfl,rfl,?_⟩;refine⟨_,rfl,y,Ty,rfl,hy,_,rfl,?_⟩
   cases e1:cg y with
   |false =>
    have z1:wB p (some (y,z))=false:=by cases y <;> first|rfl|cases e1
    rw[z1] at q;exact bA (bA q)
   |true =>
    refine b7 ⟨_,rfl,z,Tz,rfl,hz,_,rfl,?_⟩
    cases e2:cg z with
    |false =>
     have z1:wB p (some (y,z))=false:=by cases y <;> cases z <;> first|rfl|cases e2
     rw[z1] at q;exact bA q
    |true =>
     have z1:∃t,y=.int t:=by cases y <;> first|exact⟨_,rfl⟩|cases e1
     have z2:∃b,z=.int b:=by cases z <;> first|exact⟨_,rfl⟩|cases e2
     obtain⟨t,rfl⟩:=z1;obtain⟨b,rfl⟩:=z2;refine b7 ?_;refine⟨_,rfl,s,C,dx,_,_,rfl,hs,c.cl,c.nP,rfl,rfl,_,rfl,?_⟩;refine cG (λh=>?_) (λh=>?_)
     ·have F1:p=0:=by simpa using h
      have z1:wB p (some (.int t,.int b))=(decide (1<=b)&&decide (Int.gcd t b=1)):=by simp[wB,F1]
      rw[z1] at q;refine⟨_,rfl,_,_,rfl,rfl,_,rfl,?_⟩;refine cG (λh1=>?_) (λh1=>?_)
      ·refine⟨_,rfl,_,rfl,t,b,rfl,rfl,?_⟩
       have e3:decide (V.int (cW t b)=V.int 1)=decide (Int.gcd t b=1):=by
        unfold cW
        by_cases g:Int.gcd t b=1
        ·simp[g]
        ·have:¬((Int.gcd t b:Nat):Int)=1:=by omega
         simp[g,this]
       have HX:decide (1<=b)=true:=h1;rw[HX,Zr,<-e3] at q;exact q
      ·have HX:decide (1<=b)=false:=by simpa using h1
       rw[HX,ZF] at q;exact q
     ·have F1:p≠0:=by simpa using h
      have z1:wB p (some (.int t,.int b))=(decide (b=1)&&(decide (0<=t)&&decide (t<p))):=by simp[wB,F1]
      rw[z1] at q;refine⟨_,rfl,rfl,_,rfl,?_⟩;refine cG (λh1=>?_) (λh1=>?_)
      ·have HX:decide (b=1)=true:=by simpa using h1
       rw[HX,Zr] at q;refine⟨_,rfl,_,_,rfl,rfl,_,rfl,?_⟩;refine cG (λh2=>?_) (λh2=>?_)
       ·refine⟨_,rfl,s,C,dx,_,_,rfl,hs,c.cl,c.nP,rfl,_,_,rfl,rfl,?_⟩;have JH:decide (0<=t)=true:=h2;rw[JH,Zr] at q;exact q
       ·have JH:decide (0<=t)=false:=by simpa using h2
        rw[JH,ZF] at q;exact q
      ·have HX:decide (b=1)=false:=by simpa using h1
       rw[HX,ZF] at q;exact q
end K44
namespace L2
open PySem PySem.Spec PyProof.Rows PySem.W
noncomputable def C6:V->Bool->Prop
 | .bl b,c=>c=b
 | .int i,c=>c=(i != 0)
 |_,_=>False
theorem bK {α β:Type}{R:α->β->Prop}:∀{l:List α}{m:List β}{i:Nat}{a:α},Paired R l m->l[i]?=some a->∃b,m[i]?=some b/\R a b
 |[],_,i,a,h,e=>by simp at e
 |x::l,_,i,a,h,e=>by
  cases h with
  |cons h1 h2 =>
   cases i with
   |zero=>simp at e;subst e;exact⟨_,rfl,h1⟩
   |succ i=>simpa using bK h2 (by simpa using e)
theorem gW {α β:Type}{R:α->β->Prop}:∀{l:List α}{m:List β}{i:Nat}{b:β},Paired R l m->m[i]?=some b->∃a,l[i]?=some a/\R a b
 |[],m,i,b,h,e=>by cases h;simp at e
 |x::l,_,i,b,h,e=>by
  cases h with
  |cons h1 h2 =>
   cases i with
   |zero=>simp at e;subst e;exact⟨_,rfl,h1⟩
   |succ i=>simpa using gW h2 (by simpa using e)
section
variable {X:Cx}
theorem wV {A:Around}{Q:Bool->Shared->Prop}{E:ph}{s:Ci}{y:V}{c:Bool}{u:Value}(t:C6 y c)(r:aG y u)(h:Q c s):wpAny (model X.prog X.w) A (truthy u) Q E s:=by
 cases y with
 |bl b =>
  cases(show u=Value.bool b from r)
  cases(show c=b from t)
  exact Y9 h
 |int i =>
  obtain⟨k,rfl⟩:=(show ∃k,u=Value.int i k from r)
  cases(show c=(i != 0) from t)
  exact PyProof.Rows.truthy_int h
 |_=>exact t.elim
theorem iu (hc:X.calm=true):cT X (.builtin "all") (λxs H Q=>∃l ys bs,xs=[.ref l]/\bo X.K H l ys/\Paired C6 ys bs/\Q (.bl (bs.all id)) H):=by
 intro pins s σ H xs us Q I r h;obtain⟨l,ys,bs,rfl,hl,hp,q⟩:=h;obtain⟨u,rfl,ru⟩:=dj r
 cases(show u=Value.ref l from ru)
 obtain⟨its,rv,pl,hz⟩:=I.list hl
 have Fy:l<s.heap.objs.size:=by obtain⟨o,n,e,_⟩:=pl;exact Ym e
 refine call_all_walk (yr pl.isList ?_)
 refine⟨s.heap.objs.size,[s.heap.objs.size,l],[s.heap.objs.size],its.toArray.size,_,_,λi=>(bs[i]?).getD true,rfl,Walks.list (A:=X.A.in1) (I.ok.hd hc) _ l (Yr Fy) its.toArray,
  ⟨⟨_,Yk _ rfl,rfl,rfl⟩,pl.isList.push _⟩,λi v s' Q' E' hP hQ=>?_,λh' tk hk=>?_⟩
 ·have e:its[i]?=some v:=by simpa using hP
  obtain⟨y,ey,ry⟩:=gW rv e;obtain⟨b,eb,tb⟩:=bK hp ey;simp only[eb,Option.getD_some] at hQ;exact wV tb ry hQ
 ·have n:its.toArray.size=bs.length:=by rw[Yj,<-rv.length,hp.length]
  have e:((List.range its.toArray.size).all λi=>(bs[i]?).getD true)=bs.all id:=by rw[n];exact LSm.range_all bs
  rw[e];exact⟨.bl (bs.all id),H,I.kept (t':=tk) (LSm.kept_iter hk),rfl,q⟩
end
section
variable {X:Cx}{pins:List (Addr×Obj)}{σ:St}{H:Hp}{s:Ci}{h':Heap}
theorem Inv.adA (I:Inv X pins σ H s){a:Addr}(hp:s.heap.get? a=none):H a=none:=by
 cases q:H a with
 |none=>rfl
 |some u =>
  obtain⟨ob,e1⟩:=(I.hok a u q).there;rw[hp] at e1
  cases e1
theorem Inv.newObj {a:Addr}{o:HO}{t':Nat}(I:Inv X pins σ H s)(k:∀b u,s.heap.get? b=some u->h'.get? b=some u)(hp:s.heap.get? a=none)(new:bE X.prog X.w (upd H a o) h' a o):
 Inv X pins σ (upd H a o) {s with heap:=h',toks:=t'}:=by
 have hn:=I.adA hp
 have nb:∀b u,s.heap.get? b=some u->b≠a:=λb u e z=>by rw[z,hp] at e;cases e
 exact I.un ⟨λb u q _ _ _=>k b u q,λb u q _ _ _=>⟨u.slots,k b u q⟩,λb u q n _=>by rw[aA (nb b u q)];exact n,λb u q _=>⟨u,k b u q⟩,
  λb xs q=>by rw[aA (aB q hn)];exact q,λb u xs q=>by rw[aA (aB q hn)];exact q,λb ps q=>⟨#[],by rw[aA (aB q hn),q];simp⟩⟩ (eT (I.hok.kept k) hn new)
end
end L2
namespace HY
open PySem PySem.W PyProof.Rows
variable {i:Nat}
section
variable {prog:wu}{w:World}{A:Around}{E:ph}{s:Ci}{d it:Addr}{es:Array DictEntry}{ep:Nat}{o:Obj}
structure Raw (h:Heap)(d:Addr)(es:Array DictEntry)(ep:Nat):Prop where
 ex:∃o,h.get? d=some o/\o.ExactDict/\o.data=.dict es ep
theorem Raw.ty (r:Raw s.heap d es ep):s.TypeIs (.ref d) "dict":=let⟨o,h,x,_⟩:=r.ex;⟨o,h,x.1⟩
theorem Raw.keep {h h':Heap}(r:Raw h d es ep)(k:∀o,h.get? d=some o->h'.get? d=some o):Raw h' d es ep:=let⟨o,h1,x⟩:=r.ex;⟨o,k o h1,x⟩
theorem ace {Q:ph}(r:Raw s.heap d es ep)(hd:(d==sysModules)=false)(h:Q (.ref s.heap.objs.size) {s with heap:=s.heap.push {cls:=.type "dict_items",data:=.fields #[.ref d]} }):
 wpAny (model prog w) A (call (.builtin "dict.items") [.ref d]) Q E s:=by
 refine YJ F.slot_dict_items r.ty F.entry_dict_items ?_ (F.args_dict_items_1 _);unfold Builtin.«dict.items» Builtin.Dict.noArgs;refine X9 (X9 (wpAny_notOrdered_dict r.ty (Yb ?_)));show wpAny _ _ (Builtin.Dict.showsAll d>>=_) _ _ s;unfold Builtin.Dict.showsAll;rw[Yd (by rw[hd];exact Yp)];exact X9 (Yb (X9 (YB (Yb ⟨_,rfl,h⟩))))
theorem acf {v:Addr}{Q:ph}(hv:s.heap.IsItemsView v d)(r:Raw s.heap d es ep)
 (hQ:Q (.ref s.heap.objs.size) {s with heap:=s.heap.push {cls:=.type "dict_itemiterator",data:=.fields #[.none,.bool false,.ref d,.int 0 0,.int es.size 0,.int ep 0,.none,.none]} }):wpAny (model prog w) A (pyIter (.ref v)) Q E s:=by
 obtain⟨ov,g1,g2,g3⟩:=id hv;obtain⟨o,h1,h2,h3⟩:=r.ex;refine Ad hv.typeIs F.slot_dict_items_iter (YJ F.slot_dict_items_iter hv.typeIs F.entry_dict_items_iter ?_ (F.args_dict_items_iter_1 _));unfold Builtin.«dict_items.__iter__» Builtin.Dict_items.dictOf;refine X9 (Yb (X9 (X9 (YW g1 g3 (x:=.ref d) rfl (Yb (X9 ?_))))));unfold Builtin.Dict_items.newIterator;refine X9 (vZ h1 h3 (X9 (Dr h1 h3 ?_)));simp only[show Builtin.Dict_items.ownsTuple "dict_itemiterator"=true from by decide,ZR];refine YB (Yb ⟨_,rfl,"dict_itemiterator",_,⟨_,Yk _ rfl,rfl⟩,Zy.lookup,?_⟩) (by simp only[sizeOk,Builtin.Dict_items.ownedTupleFields,Yj,Yw,YC,Dl,ZX];omega);simpa[rawInt,Builtin.Dict_items.ownedTupleFields] using hQ
theorem acg {ok ov:Value}{Q:Option Value->Shared->Prop}(hit:IsItemIter s.heap it d i es.size ep ok ov)(r:Raw s.heap d es ep)(hi:i<es.size)
 (hQ:∀h',IsItemIterOut h' it d (i+1) es.size ep es[i].key es[i].val s.heap.objs.size->h'.get? s.heap.objs.size=some {cls:=.type "tuple",data:=.seq #[es[i].key,es[i].val]}->h'.objs.size=s.heap.objs.size+1 →
  (∀b o,b≠it->s.heap.get? b=some o->h'.get? b=some o)->Q (some (.ref s.heap.objs.size)) {s with heap:=h'}):wpAny (model prog w) A (pyNext (.ref it)) Q E s:=by
 obtain⟨hp,g,dr,tk,os⟩:=s;obtain⟨o,h1,h2,h3⟩:=r.ex;have hT:Shared.TypeIs ⟨hp,g,dr,tk,os⟩ (.ref it) "dict_itemiterator":=⟨_,hit,rfl⟩;unfold pyNext;refine X9 (ZN (YN (name:=Str.ofString "__next__") hT Zy (YJ Zy hT wF ?_ (Cu _))));refine X9 (Yb (X9 (X9 ?_)))
 first|refine X9 (ZZ hT (Yb (X9 (ZH hit rfl ?_))))|refine X9 (Cb hT (Yb (X9 (ZH hit rfl ?_))))
 simp only[show Builtin.Dict_items.ownsTuple "dict_itemiterator"=true from by decide,ZR];show wpAny _ _ (if(Value.ref d==Value.none)=true then _ else _) _ _ _;rw[Yd (show ¬((Value.ref d==Value.none)=true) from Yp)];refine X9 (Yb (X9 (vZ h1 h3 ?_)));rw[Yd (by simp)];refine X9 (Yb (X9 (Dr h1 h3 ?_)));rw[Yd (by simp)];refine Yb ?_;simp only[show ¬((i:Int)<0) from by omega,Zv,YV,Array.getElem?_eq_getElem hi];refine X9 ?_
 first|refine X9 (ZZ hT (Yb (X9 (jm hT ?_))))|refine X9 (Cb hT (Yb (X9 (jm hT ?_))))
 show wpAny _ _ (setField (.ref it) 3 (rawInt ((i:Int)+1))>>=_) _ _ ⟨hp,g,dr,tk,os⟩;refine X9 (Y0 hit (by simp) λk1 e1 (b1:Heap.SameBut it hp k1)=>?_)
 have q1:IsItemIter k1 it d (i+1) es.size ep ok ov:=by
  unfold IsItemIter;rw[show((i+1:Nat):Int)=(i:Int)+1 by omega];simpa[rawInt] using e1
 have t1:Shared.TypeIs ⟨k1,g,dr,tk,os⟩ (.ref it) "dict_itemiterator":=⟨_,q1,rfl⟩;refine X9 (YY (X9 (jm t1 (X9 (jm t1 ?_)))));show wpAny _ _ (Builtin.Dict_items.pairFromOwner (.ref it) 6 es[i].key es[i].val) _ _ ⟨k1,g,dr,tk,os⟩;unfold Builtin.Dict_items.pairFromOwner;refine X9 (C3 ?_);have q2:IsItemIter (k1.push {cls:=.type "tuple",data:=.seq #[es[i].key,es[i].val]}) it d (i+1) es.size ep ok ov:=Yc _ q1;have z1:k1.objs.size=hp.objs.size:=b1.1;have ne:hp.objs.size≠it:=Zz (Ym hit)
 have w2:(k1.push {cls:=.type "tuple",data:=.seq #[es[i].key,es[i].val]}).get? hp.objs.size=some {cls:=.type "tuple",data:=.seq #[es[i].key,es[i].val]}:=by rw[<-z1];exact Yk _ rfl
 have z2:(k1.push {cls:=.type "tuple",data:=.seq #[es[i].key,es[i].val]}).objs.size=hp.objs.size+1:=by rw[Zb,z1]
 have p2:∀b o,b≠it->hp.get? b=some o->(k1.push {cls:=.type "tuple",data:=.seq #[es[i].key,es[i].val]}).get? b=some o:=λb o hb e=>Yc _ (b1.extBut b o hb e);show wpAny _ _ (Builtin.Dict_items.ownedTupleIsFree (.ref it)>>=_) _ _ ⟨k1.push {cls:=.type "tuple",data:=.seq #[es[i].key,es[i].val]},g,dr,tk,os⟩;rw[z1];generalize k1.push {cls:=.type "tuple",data:=.seq #[es[i].key,es[i].val]}=k2 at q2 w2 z2 p2 |-;unfold Builtin.Dict_items.ownedTupleIsFree;refine X9 (X9 (YW q2 rfl (x:=.none) rfl (Yb ?_)));simp only[ZR];refine X9 (YW q2 rfl (x:=ok) rfl (X9 (YW q2 rfl (x:=ov) rfl (X9 (Y0 q2 (by simp) λk3 e3 (b3:Heap.SameBut it k2 k3)=>?_)))));have q3:IsItemIter k3 it d (i+1) es.size ep es[i].key ov:=e3;refine X9 (Y0 q3 (by simp) λk4 e4 (b4:Heap.SameBut it k3 k4)=>?_);have q4:IsItemIter k4 it d (i+1) es.size ep es[i].key es[i].val:=e4;refine X9 (Y0 q4 (by simp) λk5 e5 (b5:Heap.SameBut it k4 k5)=>?_);have q5:IsItemIterOut k5 it d (i+1) es.size ep es[i].key es[i].val hp.objs.size:=e5;refine X9 (Y0 q5 (by simp) λk6 e6 (b6:Heap.SameBut it k5 k6)=>?_);have q6:IsItemIterOut k6 it d (i+1) es.size ep es[i].key es[i].val hp.objs.size:=e6;have go:∀b o,b≠it->k2.get? b=some o->k6.get? b=some o:=λb o hb e=>b6.extBut b o hb (b5.extBut b o hb (b4.extBut b o hb (b3.extBut b o hb e)));exact X9 (EC (Yb (Yb ⟨_,rfl,Yb (hQ k6 q6 (go _ _ ne w2) (by show k6.objs.size=hp.objs.size+1;rw[b6.1,b5.1,b4.1,b3.1,z2]) λb o hb e=>go b o hb (p2 b o hb e))⟩)))
theorem acm {ok ov:Value}{Q:Option Value->Shared->Prop}(hh:A.handled=none)(hit:IsItemIter s.heap it d i es.size ep ok ov)(r:Raw s.heap d es ep)(hi:es.size<=i)
 (hQ:∀h',Heap.ExtBut it s.heap h'->Q none {s with heap:=h'}):wpAny (model prog w) A (pyNext (.ref it)) Q E s:=by
 obtain⟨o,h1,h2,h3⟩:=r.ex;have hT:s.TypeIs (.ref it) "dict_itemiterator":=⟨_,hit,rfl⟩;unfold pyNext;refine X9 (ZN (YN (name:=Str.ofString "__next__") hT Zy (YJ Zy hT wF ?_ (Cu _))));refine X9 (Yb (X9 (X9 ?_)))
 first|refine X9 (ZZ hT (Yb (X9 (ZH hit rfl ?_))))|refine X9 (Cb hT (Yb (X9 (ZH hit rfl ?_))))
 simp only[show Builtin.Dict_items.ownsTuple "dict_itemiterator"=true from by decide,ZR];show wpAny _ _ (if(Value.ref d==Value.none)=true then _ else _) _ _ _;rw[Yd (show ¬((Value.ref d==Value.none)=true) from Yp)];refine X9 (Yb (X9 (vZ h1 h3 ?_)));rw[Yd (by simp)];refine X9 (Yb (X9 (Dr h1 h3 ?_)));rw[Yd (by simp)];refine Yb ?_;simp only[show ¬((i:Int)<0) from by omega,Zv,YV,Zu hi];refine X9 ?_
 first|refine X9 (ZZ hT (Yb ?_))|refine X9 (Cb hT (Yb ?_))
 show wpAny _ _ (setField (.ref it) 2 .none>>=_) _ _ s;refine X9 (ZT hit rfl (by simp) ?_);show wpAny _ _ (newExc (.type "StopIteration") []>>=_) _ _ _;refine X9 ?_;simp only[newExc,newTuple];refine X9 (YB (X9 (m:=firstArgMember _ _) (EN (a:=Value.none) (by first|rfl|(simp only[firstArgMember];rfl)) (YB ?_ (by size_fits)))) (by size_fits));simp only[raiseNew];refine X9 (mO ?_);rw[show A.in1.handled=none from hh];refine X9 (Yb (wpAny_throw ?_));refine X9 (lj (T:="StopIteration") (b:=true) ⟨_,Yk _ rfl,rfl⟩ qb ?_);exact Yb (hQ _ (((Y1 ..).extBut.push _).push _))
theorem acn {Q:ph}(r:Raw s.heap d es ep)(hd:(d==sysModules)=false)
 (hQ:Q (.ref s.heap.objs.size) {s with heap:=s.heap.push {cls:=.type "dict_keyiterator",data:=.fields #[.ref d,.int 0 0,.int es.size 0,.int ep 0]} }):wpAny (model prog w) A (pyIter (.ref d)) Q E s:=by
 obtain⟨o,h1,h2,h3⟩:=r.ex;refine Ad r.ty F.slot_dict_iter (YJ F.slot_dict_iter r.ty F.entry_dict_iter ?_ (F.args_dict_iter_1 _));unfold Builtin.«dict.__iter__» Builtin.Dict.dictSlotNone;refine X9 (X9 (wpAny_notOrdered_dict r.ty (?_:wpAny _ _ (pure (Value.ref d)) _ _ s)));refine Yb ?_;show wpAny _ _ (Builtin.Dict.showsAll d>>=_) _ _ s;unfold Builtin.Dict.showsAll;rw[Yd (by rw[hd];exact Yp)];refine X9 (Yb (X9 (vZ h1 h3 (X9 (Dr h1 h3 (X9 (YB (Yb ⟨_,rfl,"dict_keyiterator",_,⟨_,Yk _ rfl,rfl⟩,ZI.lookup,?_⟩))))))));simpa[rawInt] using hQ
theorem aco {Q:Option Value->Shared->Prop}(hit:s.heap.IsKeyIter it d i es.size ep)(r:Raw s.heap d es ep)(hi:i<es.size)
 (hQ:∀h',h'.IsKeyIter it d (i+1) es.size ep->Heap.SameBut it s.heap h'->Q (some es[i].key) {s with heap:=h'}):wpAny (model prog w) A (pyNext (.ref it)) Q E s:=by
 obtain⟨oi,g1,g2,g3⟩:=id hit;obtain⟨o,h1,h2,h3⟩:=r.ex;have hT:=hit.typeIs;unfold pyNext;refine X9 (ZN (YN (name:=Str.ofString "__next__") hT ZI (YJ ZI hT xj ?_ (vX _))));refine X9 (Yb (X9 (X9 ?_)))
 first|refine X9 (Z4 hT (Yb (X9 (ZH g1 g3 ?_))))|refine X9 (Df hT (Yb (X9 (ZH g1 g3 ?_))))
 simp only[show Builtin.Dict_items.ownsTuple "dict_keyiterator"=false from by decide,Zl,Zv];show wpAny _ _ (if(Value.ref d==Value.none)=true then _ else _) _ _ _;rw[Yd (show ¬((Value.ref d==Value.none)=true) from Yp)];refine X9 (Yb (X9 (vZ h1 h3 ?_)));rw[Yd (by simp)];refine X9 (Yb (X9 (Dr h1 h3 ?_)));rw[Yd (by simp)];refine Yb ?_;simp only[show ¬((i:Int)<0) from by omega,Zv,YV,Array.getElem?_eq_getElem hi];refine X9 ?_
 first|refine X9 (Z4 hT (Yb (X9 (Aj hT ?_))))|refine X9 (Df hT (Yb (X9 (Aj hT ?_))))
 show wpAny _ _ (setField (.ref it) 1 (rawInt ((i:Int)+1))>>=_) _ _ s;refine X9 (ZT g1 g3 (by simp) ?_);have q1:(s.heap.update it (Obj.mapFields (·.setIfInBounds 1 (rawInt ((i:Int)+1))))).IsKeyIter it d (i+1) es.size ep:=⟨_,Y3 _ g1 (uP (ZS g3 _)),(zm ..).trans g2,by rw[ZS g3];simp[rawInt]⟩;refine X9 (YY (X9 (Aj (s:={s with heap:=s.heap.update it (Obj.mapFields (·.setIfInBounds 1 (rawInt ((i:Int)+1))))}) q1.typeIs (?_:wpAny _ _ (pure es[i].key) _ _ _))));exact Yb (Yb ⟨_,rfl,Yb (hQ _ q1 (Y1 ..))⟩)
theorem acp {Q:Option Value->Shared->Prop}(hh:A.handled=none)(hit:s.heap.IsKeyIter it d i es.size ep)(r:Raw s.heap d es ep)(hi:es.size<=i)
 (hQ:∀h',Heap.ExtBut it s.heap h'->Q none {s with heap:=h'}):wpAny (model prog w) A (pyNext (.ref it)) Q E s:=by
 obtain⟨oi,g1,g2,g3⟩:=id hit;obtain⟨o,h1,h2,h3⟩:=r.ex;have hT:=hit.typeIs;unfold pyNext;refine X9 (ZN (YN (name:=Str.ofString "__next__") hT ZI (YJ ZI hT xj ?_ (vX _))));refine X9 (Yb (X9 (X9 ?_)))
 first|refine X9 (Z4 hT (Yb (X9 (ZH g1 g3 ?_))))|refine X9 (Df hT (Yb (X9 (ZH g1 g3 ?_))))
 simp only[show Builtin.Dict_items.ownsTuple "dict_keyiterator"=false from by decide,Zl,Zv];show wpAny _ _ (if(Value.ref d==Value.none)=true then _ else _) _ _ _;rw[Yd (show ¬((Value.ref d==Value.none)=true) from Yp)];refine X9 (Yb (X9 (vZ h1 h3 ?_)));rw[Yd (by simp)];refine X9 (Yb (X9 (Dr h1 h3 ?_)));rw[Yd (by simp)];refine Yb ?_;simp only[show ¬((i:Int)<0) from by omega,Zv,YV,Zu hi];refine X9 ?_
 first|refine X9 (Z4 hT (Yb ?_))|refine X9 (Df hT (Yb ?_))
 show wpAny _ _ (setField (.ref it) 0 .none>>=_) _ _ s;refine X9 (ZT g1 g3 (by simp) ?_);show wpAny _ _ (newExc (.type "StopIteration") []>>=_) _ _ _;refine X9 ?_;simp only[newExc,newTuple];refine X9 (YB (X9 (m:=firstArgMember _ _) (EN (a:=Value.none) (by first|rfl|(simp only[firstArgMember];rfl)) (YB ?_ (by size_fits)))) (by size_fits));simp only[raiseNew];refine X9 (mO ?_);rw[show A.in1.handled=none from hh];refine X9 (Yb (wpAny_throw ?_));refine X9 (lj (T:="StopIteration") (b:=true) ⟨_,Yk _ rfl,rfl⟩ qb ?_);exact Yb (hQ _ (((Y1 ..).extBut.push _).push _))
end
end HY
namespace L2
open PySem PySem.Spec PyProof.Rows PySem.W
noncomputable abbrev nZ (o:Obj)(Ft:List (List Key×V)):HO:=.frz o (.dT Ft)
noncomputable def EK (d:Addr)(o:Obj)(Ft:List (List Key×V)):It :=
 ⟨λi H=>i<Ft.length/\H d=some (nZ o Ft),λi H x H'=>∃p b k v,Ft[i]?=some (k,v)/\H p=none/\H b=some (.tup (k.map kV))/\x=.ref p/\H'=upd H p (.tup [.ref b,v]),λi H=>Ft.length<=i/\H d=some (nZ o Ft)⟩
noncomputable def Er (d:Addr)(o:Obj)(Ft:List (List Key×V)):It :=
 ⟨λi H=>i<Ft.length/\H d=some (nZ o Ft),λi H x H'=>∃b k v,Ft[i]?=some (k,v)/\H b=some (.tup (k.map kV))/\x=.ref b/\H'=H,λi H=>Ft.length<=i/\H d=some (nZ o Ft)⟩
theorem kQ {α β:Type}{R:α->β->Prop}:∀{l:List α}{m:List β}{i:Nat}{a:α},Paired R l m->l[i]?=some a->∃b,m[i]?=some b/\R a b
 |_,_,_,_,.nil,e=>by simp at e
 |_,_,0,_,.cons r _,e=>by simp at e;subst e;exact⟨_,rfl,r⟩
 |_,_,i+1,a,.cons _ t,e=>by
  obtain⟨b,h1,h2⟩:=kQ (i:=i) (a:=a) t (by simpa using e);exact⟨b,by simpa using h1,h2⟩
section
variable {X:Cx}{pins:List (Addr×Obj)}{σ:St}{H:Hp}{s:Ci}{d:Addr}{o:Obj}{Ft:List (List Key×V)}
theorem iM (I:Inv X pins σ H s)(e:H d=some (nZ o Ft)):∃es ep,o.data=.dict es ep/\HY.Raw s.heap d es ep/\es.size=Ft.length/\(d==sysModules)=false /\
 ∀(i:Nat)(hi:i<es.size) k v,Ft[i]?=some (k,v)->∃b,es[i].key=.ref b/\H b=some (.tup (k.map kV))/\aG v es[i].val:=by
 obtain⟨h0,z,y,xs,r,o',es,ep,h1,h2,h3,h4,h5⟩:=(show bE X.prog X.w H s.heap d (nZ o Ft) from I.hok d _ e);rw[h0] at h1
 cases h1
 have hl:es.size=Ft.length:=by
  rw[<-Yz,h4,Yg];exact(yB r).symm
 refine⟨es,ep,h3,⟨_,h0,h2,h3⟩,hl,y,λi hi k v hk=>?_⟩;obtain⟨q,hq,e1,e2,e3⟩:=kQ r hk
 have z1:es.toList[i]?=some (entryOfKey (tupleKind (bX X.prog X.w)) q):=by rw[h4,YU,hq];rfl
 have z2:es[i]=entryOfKey (tupleKind (bX X.prog X.w)) q:=by
  have z3:es.toList[i]?=some es[i]:=by simp[hi]
  rw[z3] at z1;exact Option.some.inj z1
 rw[z2];exact⟨q.2.1,rfl,e2,e3⟩
theorem Inv.freeze (I:Inv X pins σ H s)(e:H d=some (.dT Ft)):∃o,s.heap.get? d=some o/\Inv X pins σ (upd H d (nZ o Ft)) s:=by
 obtain⟨z,y,xs,r,o,es,ep,h1,h2⟩:=(show bE X.prog X.w H s.heap d (.dT Ft) from I.hok d _ e);refine⟨o,h1,I.write (t':=s.toks) (h':=s.heap) (x:=d) (e:=d) (o:=nZ o Ft) (by rw[e];exact True.intro) (.inl rfl) (λ_ _ _ q=>q) ⟨o,h1⟩ ⟨h1,z,y,xs,?_,o,es,ep,h1,h2⟩⟩;exact Paired.adn r λp q w=>⟨w.1,by rw[aA (Ba w.2.1 e (by intro z;cases z))];exact w.2.1,w.2.2⟩
end
variable {P:wu}{w:World}{K:Frag}{elts:yD}{x1:Nat}{tp:Pos}
theorem acs (d it:Addr)(o:Obj)(Ft:List (List Key×V))(es:Array DictEntry)(ep:Nat)(ho:o.data=.dict es ep):Turn P w K (.Tuple elts x1 tp) (EK d o Ft) [it] it (λi h=>∃ok ov,IsItemIter h it d i es.size ep ok ov) where
 mem:=by simp
 obj:=λi h st b hb=>by
  have e:b=it:=by simpa using hb
  subst e;obtain⟨ok,ov,e⟩:=st;exact⟨_,e,λv z=>by cases z⟩
 keep:=λi h h' st k=>let⟨ok,ov,e⟩:=st;⟨ok,ov,k it (by simp) _ e⟩
 item:=by
  intro X hP hw hK hc i pins s σ H E I hf st hg;subst hP hw hK;obtain⟨Fy,hd⟩:=hg;obtain⟨ok,ov,hit⟩:=st;obtain⟨es',IL,F0,raw,hl,hm,Km⟩:=iM I hd;rw[ho] at F0
  cases F0
  obtain⟨f0,f1,f2,f3,f4,f5⟩:=hf it (by simp)
  have hi:i<es.size:=by omega
  refine HY.acg hit raw hi λh' q1 q2 q3 q4=>?_;obtain⟨⟨k,v⟩,hk⟩:∃kv,Ft[i]?=some kv:=⟨Ft[i],by simp[Fy]⟩;obtain⟨b,eb,hb,rv⟩:=Km i hi k v hk;refine⟨_,rfl,wpAny_letOwnedTupleGo_items (s:={s with heap:=h'}) q1 λh2 q5 q6=>?_⟩;have Ie:s.heap.objs.size≠it:=Zz (Ym hit);have I1:Inv X pins σ H {s with heap:=h2}:=I.turned (t':=s.toks) (λb o hb e=>(q6.2 b hb).trans (q4 b o hb e)) f0 f1 f3 f4 f5;have tup:h2.get? s.heap.objs.size=some {cls:=.type "tuple",data:=.seq #[es[i].key,es[i].val]}:=(q6.2 _ Ie).trans q2;have fr:H s.heap.objs.size=none:=I.hok.fresh (Ye _)
  have I2:Inv X pins σ (upd H s.heap.objs.size (.tup [.ref b,v])) {s with heap:=h2}:=by
   refine⟨I1.ok,I1.os,I1.bare,?_,I1.loc,I1.cell,?_,λx c e=>?_,λp hp=>?_,eT I1.hok fr ⟨by show 2<=sizeLine;decide,[.ref b,es[i].val],.cons rfl (.cons rv .nil),?_⟩,I1.len⟩
   ·have u:=I1.base;refine⟨u.keep,u.slot,λb' o' e n hx=>?_,u.there,λb' xs e=>?_,λb' o' u' e=>?_,λb' ps e=>?_⟩
    ·have ne:b'≠s.heap.objs.size:=Yr (Ys (Ym e) I.sz);rw[aA ne];exact u.free b' o' e n hx
    ·rw[aA (aB (u.acK b' xs e) fr)];exact u.acK b' xs e
    ·rw[aA (aB (u.acH b' o' u' e) fr)];exact u.acH b' o' u' e
    ·obtain⟨m,q⟩:=u.acO b' ps e;exact⟨m,by rw[aA (aB q fr)];exact q⟩
   ·rw[aA (Yr I.lt)];exact I1.free
   ·obtain⟨v',q⟩:=I.cell x c e;rw[aA (Yr q.lt)];exact I1.acI x c e
   ·obtain⟨e,n,r⟩:=I1.pin p hp;have lt:p.1<s.heap.objs.size:=Ym (I.pin p hp).1;exact⟨e,by rw[aA (Yr lt)];exact n,r⟩
   ·exact⟨_,tup,rfl,0,by rw[<-eb]⟩
  refine⟨.ref s.heap.objs.size,_,I2,rfl,⟨s.heap.objs.size,b,k,v,hk,fr,hb,rfl,rfl⟩,⟨_,_,q5⟩,λb' FZ=>?_⟩
  have e:b'=it:=by simpa using FZ
  subst e;rw[aA (YM Ie)];exact f0
 done:=by
  intro X hP hw hK hc i pins s σ H E I hf st hg;subst hP hw hK;obtain⟨Fy,hd⟩:=hg;obtain⟨ok,ov,hit⟩:=st;obtain⟨es',IL,F0,raw,hl,hm,Km⟩:=iM I hd;rw[ho] at F0
  cases F0
  obtain⟨f0,f1,f2,f3,f4,f5⟩:=hf it (by simp);exact HY.acm (I.ok.hd hc) hit raw (by omega) λh' eb=>⟨rfl,I.turned (t':=s.toks) (λb o hb e=>eb b o hb e) f0 f1 f3 f4 f5⟩
 self:=λA i s Q E st h=>by
  obtain⟨ok,ov,hit⟩:=st;exact kcp_self hit h
theorem acu {tg:Expr}(d it:Addr)(o:Obj)(Ft:List (List Key×V))(es:Array DictEntry)(ep:Nat)(ho:o.data=.dict es ep):Turn P w K tg (Er d o Ft) [it] it (λi h=>h.IsKeyIter it d i es.size ep) where
 mem:=by simp
 obj:=λi h st b hb=>by
  have e:b=it:=by simpa using hb
  subst e;obtain⟨o,e,c,d⟩:=st;exact⟨o,e,λv z=>by rw[d] at z;cases z⟩
 keep:=λi h h' st k=>st.at λo e=>k it (by simp) o e
 item:=by
  intro X hP hw hK hc i pins s σ H E I hf st hg;subst hP hw hK;obtain⟨Fy,hd⟩:=hg;obtain⟨es',IL,F0,raw,hl,hm,Km⟩:=iM I hd;rw[ho] at F0
  cases F0
  obtain⟨f0,f1,f2,f3,f4,f5⟩:=hf it (by simp)
  have hi:i<es.size:=by omega
  refine HY.aco st raw hi λh' q1 q2=>?_;obtain⟨⟨k,v⟩,hk⟩:∃kv,Ft[i]?=some kv:=⟨Ft[i],by simp[Fy]⟩;obtain⟨b,eb,hb,rv⟩:=Km i hi k v hk;have I1:Inv X pins σ H {s with heap:=h'}:=I.turned (t':=s.toks) (λb o hb e=>(q2.2 b hb).trans e) f0 f1 f3 f4 f5;obtain⟨oi,e,c,dd⟩:=id q1;exact⟨_,rfl,uC (s:={s with heap:=h'}) e c dd (by decide) ⟨.ref b,H,I1,eb,⟨b,k,v,hk,hb,rfl,rfl⟩,q1,λb hb=>(hf b hb).1⟩⟩
 done:=by
  intro X hP hw hK hc i pins s σ H E I hf st hg;subst hP hw hK;obtain⟨Fy,hd⟩:=hg;obtain⟨es',IL,F0,raw,hl,hm,Km⟩:=iM I hd;rw[ho] at F0
  cases F0
  obtain⟨f0,f1,f2,f3,f4,f5⟩:=hf it (by simp);exact HY.acp (I.ok.hd hc) st raw (by omega) λh' eb=>⟨rfl,I.turned (t':=s.toks) (λb o hb e=>eb b o hb e) f0 f1 f3 f4 f5⟩
 self:=λ_ _ _ _ _ st h=>wpAny_pyIter_keyiter st h
noncomputable def Ei (H1:Hp)(d:Addr)(Ft:List (List Key×V))(R:Obj->Hp->Prop):Prop:=(∃o,H1 d=some (nZ o Ft)/\R o H1)\/(H1 d=some (.dT Ft)/\∀o,R o (upd H1 d (nZ o Ft)))
noncomputable def acv (td:TE):TI:=λσ H R=>td σ H λx H1=>∃d Ft,x=.ref d/\Ei H1 d Ft λo H2=>R (EK d o Ft) H2
noncomputable def acw (td:TE):TI:=λσ H R=>td σ H λx H1=>∃d Ft,x=.ref d/\Ei H1 d Ft λo H2=>R (Er d o Ft) H2
section
variable {X:Cx}{pins:List (Addr×Obj)}{σ:St}{H:Hp}{s:Ci}
theorem yh {d:Addr}{Ft:List (List Key×V)}{R:Obj->Hp->Prop}(I:Inv X pins σ H s)(h:Ei H d Ft R):∃o H2,Inv X pins σ H2 s/\H2 d=some (nZ o Ft)/\R o H2:=by
 rcases h with⟨o,e,r⟩|⟨e,r⟩
 ·exact⟨o,H,I,e,r⟩
 ·obtain⟨o,_,I2⟩:=I.freeze e;exact⟨o,_,I2,ai,r o⟩
theorem acx {oe:Expr}{td:TE}{apos FF:Pos}(ho:PE X oe td)(G7:attributeBase oe "items" X.env (eval oe X.env)=eval oe X.env:=by rfl)(G8:(apos.endLine==FF.line)=true:=by rfl):
 PI X (.Tuple elts x1 tp) (.Call (.Attribute oe "items" apos) [] [] FF) (acv td):=by
 intro pins s σ H R I h;refine wpAny_Call_method0_late G7 G8 (bU (ho pins s σ H _ I h) λv s1 z'=>?_);obtain⟨x,H1,I1,r1,d,Ft,ex,fz⟩:=z';subst ex
 cases(show v=Value.ref d from r1)
 obtain⟨o,H2,I2,hd,rr⟩:=yh I1 fz;obtain⟨es,ep,N4,raw,hl,hm,_⟩:=iM I2 hd;refine⟨"dict","dict.items",PySem.F.plainAttrs_dict,PySem.F.slot_dict_items,PySem.F.type_dict_items,raw.ty,λa e=>?_,zT rfl (PySem.evalArgs_none (HY.ace raw hm ?_))⟩
 ·cases e
  obtain⟨o',h1,h2,_⟩:=raw.ex;exact⟨o',h1,h2.2.1⟩
 ·have I3:Inv X pins σ H2 {s1 with heap:=s1.heap.push {cls:=.type "dict_items",data:=.fields #[.ref d]} }:=I2.kept (t':=s1.toks) λb ob q=>Yc _ q;refine HY.acf (s:={s1 with heap:=s1.heap.push {cls:=.type "dict_items",data:=.fields #[.ref d]} }) ⟨_,Yk _ rfl,rfl,rfl⟩ (raw.keep λo e=>Yc _ e) ?_;generalize s1.heap.push {cls:=.type "dict_items",data:=.fields #[.ref d]}=h2 at I3 |-;refine⟨h2.objs.size,[h2.objs.size],_,EK d o Ft,H2,rfl,I3.kept (t':=s1.toks) λb ob q=>Yc _ q,acs d _ o Ft es ep N4,⟨_,_,Yk _ rfl⟩,λb hb=>?_,rr⟩
  have e:b=h2.objs.size:=by simpa using hb
  subst e;exact I3.ada (Ye _) (I3.hok.fresh (Ye _))
theorem acy {tg oe:Expr}{td:TE}(ho:PE X oe td):PI X tg oe (acw td):=by
 intro pins s σ H R I h;refine bU (ho pins s σ H _ I h) λv s1 z'=>?_;obtain⟨x,H1,I1,r1,d,Ft,ex,fz⟩:=z';subst ex
 cases(show v=Value.ref d from r1)
 obtain⟨o,H2,I2,hd,rr⟩:=yh I1 fz;obtain⟨es,ep,N4,raw,hl,hm,_⟩:=iM I2 hd;refine HY.acn raw hm ⟨s1.heap.objs.size,[s1.heap.objs.size],_,Er d o Ft,H2,rfl,I2.kept (t':=s1.toks) λb ob q=>Yc _ q,acu d _ o Ft es ep N4,⟨_,Yk _ rfl,rfl,rfl⟩,λb hb=>?_,rr⟩
 have e:b=s1.heap.objs.size:=by simpa using hb
 subst e;exact I2.ada (Ye _) (I2.hok.fresh (Ye _))
theorem Inv.aeb {s2:Ci}{T:Addr}{xs:List V}{its:m8}(I:Inv X pins σ H s)(I1:Inv X pins σ H s2)(hT:s.heap.objs.size<=T)(e:s2.heap.get? T=some {cls:=.type "tuple",data:=.seq its.toArray})(r:aR xs its)(hz:xs.length<=sizeLine):
 Inv X pins σ (upd H T (.tup xs)) s2:=by
 have fr:H T=none:=I.hok.fresh hT;refine⟨I1.ok,I1.os,I1.bare,?_,I1.loc,I1.cell,?_,λx c e=>?_,λp hp=>?_,eT I1.hok fr ⟨hz,its,r,⟨_,e,rfl,0,rfl⟩⟩,I1.len⟩
 ·have u:=I1.base;refine⟨u.keep,u.slot,λb' o' e n hx=>?_,u.there,λb' xs e=>?_,λb' o' u' e=>?_,λb' ps e=>?_⟩
  ·have ne:b'≠T:=Yr (Ys (Ym e) (Yq I.sz hT));rw[aA ne];exact u.free b' o' e n hx
  ·rw[aA (aB (u.acK b' xs e) fr)];exact u.acK b' xs e
  ·rw[aA (aB (u.acH b' o' u' e) fr)];exact u.acH b' o' u' e
  ·obtain⟨m,q⟩:=u.acO b' ps e;exact⟨m,by rw[aA (aB q fr)];exact q⟩
 ·rw[aA (Yr (Ys I.lt hT))];exact I1.free
 ·obtain⟨v',q⟩:=I.cell x c e;rw[aA (Yr (Ys q.lt hT))];exact I1.acI x c e
 ·obtain⟨e,n,r⟩:=I1.pin p hp;have lt:p.1<s.heap.objs.size:=Ym (I.pin p hp).1;exact⟨e,by rw[aA (Yr (Ys lt hT))];exact n,r⟩
theorem Inv.adg {h':Heap}{t':Nat}{ch:List Addr}(I:Inv X pins σ H s)(k:∀b o,b∉ch->s.heap.get? b=some o->h'.get? b=some o)(hf:∀b∈ch,c8 X pins H b):Inv X pins σ H {s with heap:=h',toks:=t'}:=by
 have Ie:∀b u,H b=some u->b∉ch:=λb u e z=>by rw[(hf b z).1] at e;cases e
 refine I.step (g':=s.gens) (d':=s.drawn) (ch:=ch) (λb hb=>?_) (λb o _ _ hc e _=>k b o hc e) (λb o _ _ hc e _=>⟨o.slots,k b o hc e⟩) (λ_ _ _ _ n=>n)
  (λb o hc e=>⟨o,k b o hc e⟩) (λ_ _ e=>e) (λ_ _ _ e=>e) (λb ps e=>⟨#[],by rw[e];simp⟩) (λm hm=>?_) (λb u e=>?_) I.bare
 ·obtain⟨f0,f1,f2,f3,f4,f5⟩:=hf b hb;exact⟨f3,f1,f4,f5⟩
 ·obtain⟨o,es,ep,ho,r⟩:=hm;exact⟨o,es,ep,k _ o (λz=>(hf _ z).2.1 rfl) ho,r⟩
 ·refine(I.hok b u e).adk (λc v hc q=>k c v ?_ q) (λ_ q=>q) λ_ _ q=>q
  rcases hc with z|z
  ·rw[z];exact Ie b u e
  ·exact Ie c _ z
end
noncomputable def Ex (K:Frag)(a:Addr):It :=
 ⟨λi H=>∃xs x,bo K H a xs/\xs[i]?=some x,λi H x H'=>∃T y,(∀xs,bo K H a xs->xs[i]?=some y)/\H T=none/\x=.ref T/\H'=upd H T (.tup [.int i,y]),λi H=>∃xs,bo K H a xs/\xs.length<=i⟩
theorem acz (a e it:Addr)(F2:e≠it):Turn P w K (.Tuple elts x1 tp) (Ex K a) [e,it] e (λi h=>∃old,IsEnum h e it i old/\h.IsListIter it a i) where
 mem:=by simp
 obj:=λi h st b hb=>by
  obtain⟨old,h1,o,h2,_,h3⟩:=st
  rcases(by simpa using hb:b=e\/b=it) with z|z
  ·subst z;exact⟨_,h1,λv z=>by cases z⟩
  ·subst z;exact⟨o,h2,λv z=>by rw[h3] at z;cases z⟩
 keep:=λi h h' st k=>let⟨old,h1,h2⟩:=st;⟨old,k e (by simp) _ h1,h2.at λo q=>k it (by simp) o q⟩
 item:=by
  intro X hP hw hK hc i pins s σ H E I hf st hg;subst hP hw hK;obtain⟨xs,x,hq,hx⟩:=hg;obtain⟨its,rv,p,hz⟩:=I.list hq;obtain⟨u,hu,ru⟩:=rv.get hx;obtain⟨old,he,hit⟩:=st;refine wpAny_pyNext_enum_item he hit p.isList (x:=u) (by simpa using hu) F2 λh' q1 q2 q3 q4 q5=>?_;refine⟨_,rfl,wpAny_letOwnedTupleGo_enum (s:={s with heap:=h',toks:=s.toks+1}) q1 λh2 q6 q7=>?_⟩;have Q0:s.heap.objs.size≠e:=Zz (Ym he)
  have I1:Inv X pins σ H {s with heap:=h2,toks:=s.toks+1}:=I.adg (t':=s.toks+1) (ch:=[e,it]) (λb o hb z=>by
   have FZ:b≠e/\b≠it:=by simpa using hb
   exact(q7.2 b FZ.1).trans (q5 b o FZ.1 FZ.2 z)) hf
  have tup:h2.get? s.heap.objs.size=some {cls:=.type "tuple",data:=.seq #[.int i s.toks,u]}:=(q7.2 _ Q0).trans q3;have fr:H s.heap.objs.size=none:=I.hok.fresh (Ye _);have I2:=I.aeb (xs:=[.int i,x]) (its:=[.int i s.toks,u]) I1 (Ye _) tup (.cons ⟨_,rfl⟩ (.cons ru .nil)) hJ;refine⟨.ref s.heap.objs.size,_,I2,rfl,⟨s.heap.objs.size,x,λys hy=>by rw[I.ac4 hy hq];exact hx,fr,rfl,rfl⟩,⟨u,q6,q2.at λo q=>(q7.2 _ (YM F2)).trans q⟩,λb hb=>?_⟩
  have nb:b≠s.heap.objs.size:=by
   rcases(by simpa using hb:b=e\/b=it) with z|z
   ·subst z;exact YM Q0
   ·subst z;obtain⟨o,q,_⟩:=hit;exact Yr (Ym q)
  rw[aA nb];exact(hf b hb).1
 done:=by
  intro X hP hw hK hc i pins s σ H E I hf st hg;subst hP hw hK;obtain⟨xs,hq,hx⟩:=hg;obtain⟨its,rv,p,hz⟩:=I.list hq;have hl:=rv.length;obtain⟨old,he,hit⟩:=st;obtain⟨f0,f1,f2,f3,f4,f5⟩:=hf it (by simp);exact wpAny_pyNext_enum_end (I.ok.hd hc) he hit p.isList (by simp;omega) λh' eb=>⟨rfl,I.turned (t':=s.toks) (λb o hb e=>eb b o hb e) f0 f1 f3 f4 f5⟩
 self:=λ_ _ _ _ _ st h=>let⟨old,h1,_⟩:=st;wpAny_pyIter_enum h1 h
noncomputable def adL (K:Frag)(tl:TE):TI:=λσ H R=>bq tl Bz σ H λvs H1=>∃a xs,vs=[.ref a]/\bo K H1 a xs/\R (Ex K a) H1
theorem ac6 {X:Cx}{l:Expr}{tl:TE}{p pos:Pos}(hl:PE X l tl)(hg:Gl X "enumerate")(hm:X.mg "enumerate"=none)(hs:fV l=false:=by rfl):
 PI X (.Tuple elts x1 tp) (.Call (.Name "enumerate" p) [l] [] pos) (adL X.K tl):=by
 intro pins s σ H R I h;refine Y6 (eK I hg hm (by rfl) ?_ (by decide) (by decide));refine Z8 (bU (aj hl ag hs pos pins s σ H _ I h) λus s1 z'=>?_) (bz hs) rfl;obtain⟨vs,H1,I1,r1,a,xs,hv,hq,rr⟩:=z';subst hv;obtain⟨u,rfl,ru⟩:=dj r1
 cases(show u=Value.ref a from ru)
 obtain⟨its,rv,pl,hz⟩:=I1.list hq;refine call_enumerate_list pl.isList λh' q1 q2 q3 q4=>?_;have I2:Inv X pins σ H1 {s1 with heap:=h'}:=I1.kept (t':=s1.toks) q4;refine wpAny_pyIter_enum (s:={s1 with heap:=h'}) q1 ?_;refine⟨s1.heap.objs.size+1,[s1.heap.objs.size+1,s1.heap.objs.size],_,Ex X.K a,H1,rfl,I2,acz a _ _ (vN _),⟨_,q1,q2⟩,λb hb=>?_,rr⟩
 have FZ:s1.heap.objs.size<=b:=by
  rcases(by simpa using hb:b=s1.heap.objs.size+1\/b=s1.heap.objs.size) with z|z
  ·rw[z];exact vI _
  ·rw[z];exact Ye _
 exact I1.ada FZ (I1.hok.fresh FZ)
end L2
namespace Zp
open PySem PyProof.Rows
section
variable {prog:wu}{w:World}{A:Around}{E:ph}{s:Ci}
theorem jC {it t:Addr}{i:Nat}{items:BC}{x:Value}{Q:ph}(hit:s.heap.IsTupleIter it t i)(ht:s.heap.IsTuple t items)(hx:items[i]?=some x)
 (hQ:∀h',h'.IsTupleIter it t (i+1)->Heap.SameBut it s.heap h'->Q x {s with heap:=h'}):wpAny (model prog w) A (Builtin.SmallTypes.nextOf (.ref it)) Q E s:=by
 obtain⟨o,ho,hc,hd⟩:=id hit;obtain⟨ol,Kn,_,nl,N5⟩:=ht;unfold Builtin.SmallTypes.nextOf;refine X9 (YN (name:=Str.ofString "__next__") hit.typeIs CU (YJ CU hit.typeIs F.entry_tuple_iterator_next ?_ (Ep _)));show wpAny _ _ (field (.ref it) 0>>=_) _ _ s;refine X9 (YW ho hd (x:=.ref t) rfl ?_);show wpAny _ _ (if(Value.ref t==Value.none)=true then _ else _) _ _ s;rw[Yd (show ¬((Value.ref t==Value.none)=true) from Yp)];show wpAny _ _ (field (.ref it) 1>>=_) _ _ s;refine X9 (YW ho hd (x:=.int i 0) rfl ?_);show wpAny _ _ (seqItems? (.ref t)>>=_) _ _ s;refine X9 (Zj Kn N5 ?_);simp only[YV,hx];refine X9 (ZT ho hd (by simp) (Yb ⟨x,rfl,Yb (hQ _ ?_ (Y1 ..))⟩));exact⟨_,Y3 _ ho (uP (ZS hd _)),(zm ..).trans hc,by rw[ZS hd];simp[rawInt]⟩
theorem t7 {it t:Addr}{i:Nat}{items:BC}{Q:ph}(hh:A.handled=none)(hit:s.heap.IsTupleIter it t i)(ht:s.heap.IsTuple t items)(hx:items[i]?=none)
 (hE:∀h' e,Heap.ExtBut it s.heap h'->(∃o,h'.get? e=some o/\o.cls=.type "StopIteration")->E (.ref e) {s with heap:=h'}):wpAny (model prog w) A (Builtin.SmallTypes.nextOf (.ref it)) Q E s:=by
 obtain⟨o,ho,hc,hd⟩:=id hit;obtain⟨ol,Kn,_,nl,N5⟩:=ht;unfold Builtin.SmallTypes.nextOf;refine X9 (YN (name:=Str.ofString "__next__") hit.typeIs CU (YJ CU hit.typeIs F.entry_tuple_iterator_next ?_ (Ep _)));show wpAny _ _ (field (.ref it) 0>>=_) _ _ s;refine X9 (YW ho hd (x:=.ref t) rfl ?_);show wpAny _ _ (if(Value.ref t==Value.none)=true then _ else _) _ _ s;rw[Yd (show ¬((Value.ref t==Value.none)=true) from Yp)];show wpAny _ _ (field (.ref it) 1>>=_) _ _ s;refine X9 (YW ho hd (x:=.int i 0) rfl ?_);show wpAny _ _ (seqItems? (.ref t)>>=_) _ _ s;refine X9 (Zj Kn N5 ?_);simp only[YV,hx];refine X9 (Ej (X9 (ZT ho hd (by simp) ?_)));show wpAny _ _ (newExc (.type "StopIteration") []>>=_) _ _ _;refine X9 ?_;simp only[newExc,newTuple];refine X9 (YB ?_ (by size_fits));refine X9 (m:=firstArgMember _ _) (EN (a:=Value.none) (by first|rfl|(simp only[firstArgMember];rfl)) ?_);refine YB ?_ (by size_fits);simp only[raiseNew];refine X9 (mO ?_)
 first|rw[show A.in1.handled=none from hh]|rw[hh]
 refine X9 (Yb (wpAny_throw ?_));exact hE _ _ (((Y1 ..).extBut.push _).push _) ⟨_,Yk _ rfl,rfl⟩
end
structure Apart (z TI TO i1 i2 l1 l2:Addr):Prop where
 TIz:TI≠z
 TOz:TO≠z
 i1z:i1≠z
 i2z:i2≠z
 TITO:TI≠TO
 TIi1:TI≠i1
 TIi2:TI≠i2
 TOi1:TO≠i1
 TOi2:TO≠i2
 i12:i1≠i2
 l1n:l1 ∉ [z,TO,i1,i2]
 l2n:l2 ∉ [z,TO,i1,i2]
structure Zs (h:Heap)(z TI TO i1 i2 l1 l2:Addr)(k:Nat):Prop where
 hz:IsZip h z TI TO .none
 hTI:IsPair h TI (.ref i1) (.ref i2)
 Na:∃a b,IsPair h TO a b
 h1:h.IsTupleIter i1 l1 k
 h2:h.IsTupleIter i2 l2 k
theorem gD {h h':Heap}{i l:Addr}{k:Nat}(x:h.IsTupleIter i l k)(q:∀o,h.get? i=some o->h'.get? i=some o):h'.IsTupleIter i l k:=let⟨o,a,b⟩:=x;⟨o,q o a,b⟩
section
variable {prog:wu}{w:World}{A:Around}{E:ph}{s:Ci}{z TI TO i1 i2 l1 l2:Addr}{k:Nat}{xs ys:BC}{x y:Value}
theorem item {Q:ph}(D:Apart z TI TO i1 i2 l1 l2)(Z:Zs s.heap z TI TO i1 i2 l1 l2 k)(Gk:s.heap.IsTuple l1 xs)(GV:s.heap.IsTuple l2 ys)(hx:xs[k]?=some x)(hy:ys[k]?=some y)
 (hQ:∀h',IsZip h' z TI TO (rawInt s.heap.objs.size)->(∃a b,IsPair h' TO a b)->h'.IsTupleIter i1 l1 (k+1)->h'.IsTupleIter i2 l2 (k+1)->IsPair h' s.heap.objs.size x y →
  (∀c o,c ∉ [z,TO,i1,i2]->s.heap.get? c=some o->h'.get? c=some o)->Q (.ref s.heap.objs.size) {s with heap:=h'}):
 wpAny (model prog w) A (Builtin.«zip.__next__» ⟨[.ref z],[]⟩) (λfin s'=>∃v,fin=.done (.ret v)/\Q v s') E s:=by
 obtain⟨hz,hTI,⟨a,b,Na⟩,h1,h2⟩:=Z
 have n1:l1≠z/\l1≠TO/\l1≠i1/\l1≠i2:=by simpa using D.l1n
 have n2:l2≠z/\l2≠TO/\l2≠i1/\l2≠i2:=by simpa using D.l2n
 show wpAny _ _ (field (.ref z) 2>>=_) _ _ _;refine X9 (YW hz rfl (x:=.bool false) rfl ?_);show wpAny _ _ (field (.ref z) 3>>=_) _ _ _;refine X9 (YW hz rfl (x:=.ref TI) rfl ?_);refine X9 (Zj hTI rfl ?_);show wpAny _ _ (Builtin.SmallTypes.ownedTupleIsFree (.ref z)>>=_) _ _ _;refine X9 ?_;unfold Builtin.SmallTypes.ownedTupleIsFree;refine X9 (YW hz rfl (x:=.none) rfl (Yb ?_));simp only[ZR];refine X9 (Ej ?_);refine X9 (YW hz rfl (x:=.ref TO) rfl ?_);refine X9 (Y0 hz (by simp) λg1 HM s1=>?_)
 replace HM:IsZip g1 z TI TO .ellipsis:=HM
 refine X9 ?_;simp only[List.zipIdx_cons,List.zipIdx_nil,Bh,List.forIn_nil];refine X9 (X9 (vG ?_));show wpAny _ _ (Builtin.SmallTypes.nextOf (.ref i1)>>=_) _ _ _;refine X9 (jC (h1.extBut s1.extBut D.i1z) (Gk.extBut s1.extBut n1.1) hx λg2 a2 s2=>Yb ?_);have t2:IsPair g2 TO a b:=s2.extBut _ _ D.TOi1 (s1.extBut _ _ D.TOz Na);refine X9 (Zj t2 rfl ?_);refine X9 (rP t2 λg3 t3 s3=>?_)
 replace t3:IsPair g3 TO x b:=t3
 refine X9 (EC (Yb ?_));refine X9 (X9 (vG ?_));show wpAny _ _ (Builtin.SmallTypes.nextOf (.ref i2)>>=_) _ _ _;refine X9 (jC (((h2.extBut s1.extBut D.i2z).extBut s2.extBut D.i12.symm).extBut s3.extBut D.TOi2.symm) (((GV.extBut s1.extBut n2.1).extBut s2.extBut n2.2.2.1).extBut s3.extBut n2.2.1) hy λg4 a4 s4=>Yb ?_);have t4:IsPair g4 TO x b:=s4.extBut _ _ D.TOi2 t3;refine X9 (Zj t4 rfl ?_);refine X9 (rP t4 λg5 t5 s5=>?_)
 replace t5:IsPair g5 TO x y:=t5
 refine X9 (EC (Yb (Yb ?_)));refine X9 (Zj t5 rfl ?_);refine X9 (C3 ?_)
 have sz:g5.objs.size=s.heap.objs.size:=by rw[s5.1,s4.1,s3.1,s2.1,s1.1]
 have z5:IsZip g5 z TI TO .ellipsis:=s5.extBut _ _ D.TOz.symm (s4.extBut _ _ D.i2z.symm (s3.extBut _ _ D.TOz.symm (s2.extBut _ _ D.i1z.symm HM)))
 have k5:∀c o,c ∉ [z,TO,i1,i2]->s.heap.get? c=some o->g5.get? c=some o:=λc o hc e=>by
  have FU:c≠z/\c≠TO/\c≠i1/\c≠i2:=by simpa using hc
  exact s5.extBut _ _ FU.2.1 (s4.extBut _ _ FU.2.2.2 (s3.extBut _ _ FU.2.1 (s2.extBut _ _ FU.2.2.1 (s1.extBut _ _ FU.1 e))))
 have a5:g5.IsTupleIter i1 l1 (k+1):=((a2.extBut s3.extBut D.TOi1.symm).extBut s4.extBut D.i12).extBut s5.extBut D.TOi1.symm;have b5:g5.IsTupleIter i2 l2 (k+1):=a4.extBut s5.extBut D.TOi2.symm;have Q1:z<g5.objs.size:=Ym z5;show wpAny _ _ (Builtin.SmallTypes.ownedTupleHandOut (.ref z) (.ref g5.objs.size)>>=_) _ _ _;refine X9 ?_;unfold Builtin.SmallTypes.ownedTupleHandOut;have z6:IsZip (g5.push {cls:=.type "tuple",data:=.seq #[x,y]}) z TI TO .ellipsis:=Yc _ z5;refine X9 (Y0 z6 (by simp) λg7 z7 s7=>?_)
 replace z7:IsZip g7 z TI TO (rawInt g5.objs.size):=z7
 refine Y0 z7 (by simp) λg8 z8 s8=>?_
 replace z8:IsZip g8 z TI TO (rawInt g5.objs.size):=z8
 have up:∀c o,c≠z->g5.get? c=some o->g8.get? c=some o:=λc o c1 e=>s8.extBut _ _ c1 (s7.extBut _ _ c1 (Yc _ e));have t8:IsPair g8 g5.objs.size x y:=s8.extBut _ _ (Zz Q1) (s7.extBut _ _ (Zz Q1) (Yk _ rfl));rw[sz] at z8 t8;refine Yb ⟨_,rfl,?_⟩;show Q (.ref g5.objs.size) _;rw[sz];exact hQ g8 z8 ⟨x,y,up _ _ D.TOz t5⟩ (gD a5 λo e=>up _ o D.i1z e) (gD b5 λo e=>up _ o D.i2z e) t8 λc o hc e=>up c o (λq=>hc (by simp[q])) (k5 c o hc e)
theorem ads {Q:Fin->Shared->Prop}(hh:A.handled=none)(D:Apart z TI TO i1 i2 l1 l2)(Z:Zs s.heap z TI TO i1 i2 l1 l2 k)(Gk:s.heap.IsTuple l1 xs)(GV:s.heap.IsTuple l2 ys)(Jc:xs[k]?=none\/ys[k]?=none)
 (hE:∀h' e,(∀c o,c ∉ [z,TO,i1,i2]->s.heap.get? c=some o->h'.get? c=some o)->(∃o,h'.get? e=some o/\o.cls=.type "StopIteration")->E (.ref e) {s with heap:=h'}):
 wpAny (model prog w) A (Builtin.«zip.__next__» ⟨[.ref z],[]⟩) Q E s:=by
 obtain⟨hz,hTI,⟨a,b,Na⟩,h1,h2⟩:=Z
 have n1:l1≠z/\l1≠TO/\l1≠i1/\l1≠i2:=by simpa using D.l1n
 have n2:l2≠z/\l2≠TO/\l2≠i1/\l2≠i2:=by simpa using D.l2n
 show wpAny _ _ (field (.ref z) 2>>=_) _ _ _;refine X9 (YW hz rfl (x:=.bool false) rfl ?_);show wpAny _ _ (field (.ref z) 3>>=_) _ _ _;refine X9 (YW hz rfl (x:=.ref TI) rfl ?_);refine X9 (Zj hTI rfl ?_);show wpAny _ _ (Builtin.SmallTypes.ownedTupleIsFree (.ref z)>>=_) _ _ _;refine X9 ?_;unfold Builtin.SmallTypes.ownedTupleIsFree;refine X9 (YW hz rfl (x:=.none) rfl (Yb ?_));simp only[ZR];refine X9 (Ej ?_);refine X9 (YW hz rfl (x:=.ref TO) rfl ?_);refine X9 (Y0 hz (by simp) λg1 HM s1=>?_)
 replace HM:IsZip g1 z TI TO .ellipsis:=HM
 refine X9 ?_;simp only[List.zipIdx_cons,List.zipIdx_nil,Bh,List.forIn_nil];refine X9 (X9 (vG ?_));show wpAny _ _ (Builtin.SmallTypes.nextOf (.ref i1)>>=_) _ _ _
 cases hx:xs[k]? with
 |none =>
  refine X9 (t7 hh (h1.extBut s1.extBut D.i1z) (Gk.extBut s1.extBut n1.1) hx λg2 e s2 he=>?_);obtain⟨oe,Jd,Ko⟩:=he;have z2:IsZip g2 z TI TO .ellipsis:=s2 _ _ D.i1z.symm HM
  have ez:e≠z:=λq=>by subst q;rw[z2] at Jd;cases Jd;simp at Ko
  refine Y0 z2 (by simp) λg3 _ s3=>hE g3 e (λc o hc q=>?_) ⟨oe,s3.extBut _ _ ez Jd,Ko⟩
  have FU:c≠z/\c≠TO/\c≠i1/\c≠i2:=by simpa using hc
  exact s3.extBut _ _ FU.1 (s2 _ _ FU.2.2.1 (s1.extBut _ _ FU.1 q))
 |some x =>
  have hy:ys[k]?=none:=by
   rcases Jc with h|h
   ·rw[hx] at h;cases h
   ·exact h
  refine X9 (jC (h1.extBut s1.extBut D.i1z) (Gk.extBut s1.extBut n1.1) hx λg2 a2 s2=>Yb ?_);have t2:IsPair g2 TO a b:=s2.extBut _ _ D.TOi1 (s1.extBut _ _ D.TOz Na);refine X9 (Zj t2 rfl ?_);refine X9 (rP t2 λg3 t3 s3=>?_);refine X9 (EC (Yb ?_));refine X9 (X9 (vG ?_));show wpAny _ _ (Builtin.SmallTypes.nextOf (.ref i2)>>=_) _ _ _;refine X9 (t7 hh (((h2.extBut s1.extBut D.i2z).extBut s2.extBut D.i12.symm).extBut s3.extBut D.TOi2.symm) (((GV.extBut s1.extBut n2.1).extBut s2.extBut n2.2.2.1).extBut s3.extBut n2.2.1) hy λg4 e s4 he=>?_);obtain⟨oe,Jd,Ko⟩:=he;have z4:IsZip g4 z TI TO .ellipsis:=s4 _ _ D.i2z.symm (s3.extBut _ _ D.TOz.symm (s2.extBut _ _ D.i1z.symm HM))
  have ez:e≠z:=λq=>by subst q;rw[z4] at Jd;cases Jd;simp at Ko
  refine Y0 z4 (by simp) λg5 _ s5=>hE g5 e (λc o hc q=>?_) ⟨oe,s5.extBut _ _ ez Jd,Ko⟩
  have FU:c≠z/\c≠TO/\c≠i1/\c≠i2:=by simpa using hc
  exact s5.extBut _ _ FU.1 (s4 _ _ FU.2.2.2 (s3.extBut _ _ FU.2.1 (s2.extBut _ _ FU.2.2.1 (s1.extBut _ _ FU.1 q))))
theorem acZ {Q:Option Value->Shared->Prop}(D:Apart z TI TO i1 i2 l1 l2)(Z:Zs s.heap z TI TO i1 i2 l1 l2 k)(Gk:s.heap.IsTuple l1 xs)(GV:s.heap.IsTuple l2 ys)(hx:xs[k]?=some x)(hy:ys[k]?=some y)
 (hQ:∀h',IsZip h' z TI TO (rawInt s.heap.objs.size)->(∃a b,IsPair h' TO a b)->h'.IsTupleIter i1 l1 (k+1)->h'.IsTupleIter i2 l2 (k+1)->IsPair h' s.heap.objs.size x y →
  (∀c o,c ∉ [z,TO,i1,i2]->s.heap.get? c=some o->h'.get? c=some o)->Q (some (.ref s.heap.objs.size)) {s with heap:=h'}):
 wpAny (model prog w) A (pyNext (.ref z)) Q E s:=by
 have hT:s.TypeIs (.ref z) "zip":=⟨_,Z.hz,rfl⟩;unfold pyNext
 exact X9 (ZN (YN (name:=Str.ofString "__next__") hT zp
  (YJ zp hT F.entry_zip_next (item D Z Gk GV hx hy λh' a1 a2 a3 a4 a5 a6=>Yb (hQ h' a1 a2 a3 a4 a5 a6)) (F.args_zip_next_1 _))))
theorem ac0 {Q:Option Value->Shared->Prop}(hh:A.handled=none)(D:Apart z TI TO i1 i2 l1 l2)(Z:Zs s.heap z TI TO i1 i2 l1 l2 k)(Gk:s.heap.IsTuple l1 xs)(GV:s.heap.IsTuple l2 ys)(Jc:xs[k]?=none\/ys[k]?=none)
 (hQ:∀h',(∀c o,c ∉ [z,TO,i1,i2]->s.heap.get? c=some o->h'.get? c=some o)->Q none {s with heap:=h'}):wpAny (model prog w) A (pyNext (.ref z)) Q E s:=by
 have hT:s.TypeIs (.ref z) "zip":=⟨_,Z.hz,rfl⟩;unfold pyNext
 refine X9 (ZN (YN (name:=Str.ofString "__next__") hT zp
  (YJ zp hT F.entry_zip_next (ads hh D Z Gk GV Jc λh' e hk he=>?_) (F.args_zip_next_1 _))))
 obtain⟨o,ho,hc⟩:=he;refine X9 (lj (T:="StopIteration") (b:=true) ⟨o,ho,hc⟩ qb ?_);exact Yb (hQ _ hk)
end
noncomputable abbrev g1 (h:Heap)(l1:Addr):Heap:=h.push {cls:=.type "tuple_iterator",data:=.fields #[.ref l1,.int 0 0]}
noncomputable abbrev g2 (h:Heap)(l1 l2:Addr):Heap:=(g1 h l1).push {cls:=.type "tuple_iterator",data:=.fields #[.ref l2,.int 0 0]}
noncomputable abbrev g3 (h:Heap)(l1 l2:Addr):Heap:=(g2 h l1 l2).push {cls:=.type "tuple",data:=.seq #[.ref h.objs.size,.ref (g1 h l1).objs.size]}
noncomputable abbrev g4 (h:Heap)(l1 l2:Addr):Heap:=(g3 h l1 l2).push {cls:=.type "tuple",data:=.seq #[.none,.none]}
noncomputable abbrev g5 (h:Heap)(l1 l2:Addr):Heap:=(g4 h l1 l2).push {cls:=.type "zip",data:=.fields #[.none,.bool false,.bool false,.ref (g2 h l1 l2).objs.size,.ref (g3 h l1 l2).objs.size]}
theorem adh (l1 l2:Addr)(xs ys:BC):
 Meets (Builtin.«zip.__new__» ⟨[.type "zip",.ref l1,.ref l2],[]⟩) (λ_ R s=>s.heap.IsTuple l1 xs/\s.heap.IsTuple l2 ys/\R (.ok (.ret (.ref (g4 s.heap l1 l2).objs.size))) {s with heap:=g5 s.heap l1 l2}):=
 .of_wp λprog w A R s h=>by
  obtain⟨hp,g,d,tk,os⟩:=s;obtain⟨Gk,GV,h⟩:=h;have TB:=sub_zip;have Nb:Heap.IsTuple (Shared.heap ⟨hp,g,d,tk,os⟩) l1 xs:=Gk;have Kp:Heap.IsTuple (Shared.heap ⟨hp.push {cls:=.type "tuple_iterator",data:=.fields #[.ref l1,.int 0 0]},g,d,tk,os⟩) l2 ys:=Heap.IsTuple.push GV _
  wp_walk using lA Nb,lA Kp
  exact⟨_,rfl,h⟩
section
variable {prog:wu}{w:World}{A:Around}{E:ph}{s:Ci}
theorem adO {l1 l2:Addr}{xs ys:BC}{Q:ph}(Gk:s.heap.IsTuple l1 xs)(GV:s.heap.IsTuple l2 ys)
 (h:∀h',Zs h' (s.heap.objs.size+4) (s.heap.objs.size+2) (s.heap.objs.size+3) s.heap.objs.size (s.heap.objs.size+1) l1 l2 0->(∀c o,s.heap.get? c=some o->h'.get? c=some o)->Q (.ref (s.heap.objs.size+4)) {s with heap:=h'}):
 wpAny (model prog w) A (call (.type "zip") [.ref l1,.ref l2]) Q E s:=by
 refine callType_new F.called_zip (by decide) (F.typeCall_zip_2 _ _) (F.newCall_zip_2 _ _) (λobj=>F.args_object_init_3 obj _ _) F.entry_zip_new (adh l1 l2 xs ys) ⟨Gk,GV,?_⟩;have z1:(g1 s.heap l1).objs.size=s.heap.objs.size+1:=Zb ..
 have z2:(g2 s.heap l1 l2).objs.size=s.heap.objs.size+2:=by rw[Zb,z1]
 have z3:(g3 s.heap l1 l2).objs.size=s.heap.objs.size+3:=by rw[Zb,z2]
 have z4:(g4 s.heap l1 l2).objs.size=s.heap.objs.size+4:=by rw[Zb,z3]
 have q5:(g5 s.heap l1 l2).get? (g4 s.heap l1 l2).objs.size=some _:=Yk _ rfl;have q4:(g5 s.heap l1 l2).get? (g3 s.heap l1 l2).objs.size=some _:=Yc _ (Yk _ rfl);have q3:(g5 s.heap l1 l2).get? (g2 s.heap l1 l2).objs.size=some _:=Yc _ (Yc _ (Yk _ rfl));have q2:(g5 s.heap l1 l2).get? (g1 s.heap l1).objs.size=some _:=Yc _ (Yc _ (Yc _ (Yk _ rfl)));have q1:(g5 s.heap l1 l2).get? s.heap.objs.size=some _:=Yc _ (Yc _ (Yc _ (Yc _ (Yk _ rfl))));show _/\_;rw[z2,z3,z4] at q5;rw[z1,z2] at q3;rw[z3] at q4;rw[z1] at q2;rw[z4];exact⟨⟨_,q5,rfl⟩,h _ ⟨q5,q3,⟨_,_,q4⟩,⟨_,q1,rfl,rfl⟩,⟨_,q2,rfl,rfl⟩⟩ λc o e=>Yc _ (Yc _ (Yc _ (Yc _ (Yc _ e))))⟩
end
theorem cm {a b:Nat}(h:a≠b):(a:Addr)≠b:=h
theorem adt (n a b:Nat)(ha:a<n)(hb:b<n):Apart (n+4) (n+2) (n+3) n (n+1) a b:=by
 refine⟨cm ?_,cm ?_,cm ?_,cm ?_,cm ?_,cm ?_,cm ?_,cm ?_,cm ?_,cm ?_,?_,?_⟩
 any_goals omega
 ·simp only[Yn,ZA,EE,uG];exact⟨cm (by omega),cm (by omega),cm (by omega),cm (by omega)⟩
 ·simp only[Yn,ZA,EE,uG];exact⟨cm (by omega),cm (by omega),cm (by omega),cm (by omega)⟩
end Zp
namespace L2
open PySem PySem.Spec PyProof.Rows PySem.W
noncomputable def Ef (K:Frag)(a b:Addr):It :=
 ⟨λi H=>∃xs ys x y,aV K H a xs/\aV K H b ys/\xs[i]?=some x/\ys[i]?=some y,
  λi H v H'=>∃T x y,(∀xs,aV K H a xs->xs[i]?=some x)/\(∀ys,aV K H b ys->ys[i]?=some y)/\H T=none/\v=.ref T/\H'=upd H T (.tup [x,y]),
  λi H=>∃xs ys,aV K H a xs/\aV K H b ys/\(xs.length<=i\/ys.length<=i)⟩
theorem aa6 {P:wu}{w:World}{K:Frag}{elts:yD}{x1:Nat}{tp:Pos}{a b z TI TO i1 i2:Addr}(D:Zp.Apart z TI TO i1 i2 a b):
 Turn P w K (.Tuple elts x1 tp) (Ef K a b) [z,TO,i1,i2,TI] z (λi h=>Zp.Zs h z TI TO i1 i2 a b i) where
 mem:=by simp
 obj:=λi h st c hb=>by
  obtain⟨h1,h2,⟨_,_,h3⟩,⟨o4,h4,_,d4⟩,⟨o5,h5,_,d5⟩⟩:=st
  rcases(by simpa using hb:c=z\/c=TO\/c=i1\/c=i2\/c=TI) with q|q|q|q|q
  ·subst q;exact⟨_,h1,λv q=>by cases q⟩
  ·subst q;exact⟨_,h3,λv q=>by cases q⟩
  ·subst q;exact⟨_,h4,λv q=>by rw[d4] at q;cases q⟩
  ·subst q;exact⟨_,h5,λv q=>by rw[d5] at q;cases q⟩
  ·subst q;exact⟨_,h2,λv q=>by cases q⟩
 keep:=λi h h' st k=>by
  obtain⟨h1,h2,⟨_,_,h3⟩,h4,h5⟩:=st;exact⟨k z (by simp) _ h1,k TI (by simp) _ h2,⟨_,_,k TO (by simp) _ h3⟩,Zp.gD h4 λo q=>k i1 (by simp) o q,Zp.gD h5 λo q=>k i2 (by simp) o q⟩
 item:=by
  intro X hP hw hK hc i pins s σ H E I hf st hg;subst hP hw hK;obtain⟨xs,ys,x,y,hq,hr,hx,hy⟩:=hg;obtain⟨its,rv,p,hz⟩:=I.tuple hq;obtain⟨Kq,Gb,p',Q2⟩:=I.tuple hr;obtain⟨u,hu,ru⟩:=rv.get hx;obtain⟨v,hv,N6⟩:=Gb.get hy;refine Zp.acZ D st (show s.heap.IsTuple a its.toArray from p) (show s.heap.IsTuple b Kq.toArray from p') (x:=u) (y:=v) (by simpa using hu) (by simpa using hv) λh' q1 q2 q3 q4 q5 q6=>?_;refine⟨_,rfl,wpAny_letOwnedTupleGo_zip (s:={s with heap:=h'}) q1 λh2 q7 q8=>?_⟩;have lt:∀c o,s.heap.get? c=some o->c≠s.heap.objs.size:=λc o e=>Yr (Ym e)
  have I1:Inv X pins σ H {s with heap:=h2}:=I.adg (t':=s.toks) (ch:=[z,TO,i1,i2]) (λc o hc e=>(q8.2 c λq=>hc (by simp[q])).trans (q6 c o hc e)) λc hc=>hf c (by
   rcases(by simpa using hc:c=z\/c=TO\/c=i1\/c=i2) with q|q|q|q <;> simp[q])
  have nz:s.heap.objs.size≠z:=YM (lt z _ st.hz);have tup:h2.get? s.heap.objs.size=some {cls:=.type "tuple",data:=.seq #[u,v]}:=(q8.2 _ nz).trans q5;have fr:H s.heap.objs.size=none:=I.hok.fresh (Ye _);have I2:=I.aeb (xs:=[x,y]) (its:=[u,v]) I1 (Ye _) tup (.cons ru (.cons N6 .nil)) hJ;have up:∀c o,c≠z->h'.get? c=some o->h2.get? c=some o:=λc o hc e=>(q8.2 c hc).trans e;obtain⟨aa,bb,q2⟩:=q2;have N7:IsPair h' TI (.ref i1) (.ref i2):=q6 TI _ (by simp only[Yn,ZA,EE,uG];exact⟨D.TIz,D.TITO,D.TIi1,D.TIi2⟩) st.hTI
  refine⟨.ref s.heap.objs.size,_,I2,rfl,⟨s.heap.objs.size,x,y,λzs JI=>by rw[I.acN JI hq];exact hx,λzs JI=>by rw[I.acN JI hr];exact hy,fr,rfl,rfl⟩,
   ⟨q7,up _ _ D.TIz N7,⟨aa,bb,up _ _ D.TOz q2⟩,Zp.gD q3 λo e=>up _ o D.i1z e,Zp.gD q4 λo e=>up _ o D.i2z e⟩,λc hb=>?_⟩
  have nb:c≠s.heap.objs.size:=by
   obtain⟨h1,h2,⟨_,_,h3⟩,⟨o4,h4,_,d4⟩,⟨o5,h5,_,d5⟩⟩:=st
   rcases(by simpa using hb:c=z\/c=TO\/c=i1\/c=i2\/c=TI) with q|q|q|q|q <;> subst q
   ·exact lt _ _ h1
   ·exact lt _ _ h3
   ·exact lt _ _ h4
   ·exact lt _ _ h5
   ·exact lt _ _ h2
  rw[aA nb];exact(hf c hb).1
 done:=by
  intro X hP hw hK hc i pins s σ H E I hf st hg;subst hP hw hK;obtain⟨xs,ys,hq,hr,hx⟩:=hg;obtain⟨its,rv,p,hz⟩:=I.tuple hq;obtain⟨Kq,Gb,p',Q2⟩:=I.tuple hr;have l1:=rv.length;have l2:=Gb.length
  refine Zp.ac0 (I.ok.hd hc) D st (show s.heap.IsTuple a its.toArray from p) (show s.heap.IsTuple b Kq.toArray from p') (by
   rcases hx with q|q
   ·left;simp;omega
   ·right;simp;omega) λh' q=>⟨rfl,?_⟩
  exact I.adg (t':=s.toks) (ch:=[z,TO,i1,i2]) q λc hc=>hf c (by
   rcases(by simpa using hc:c=z\/c=TO\/c=i1\/c=i2) with q|q|q|q <;> simp[q])
 self:=λ_ _ _ _ _ st h=>wpAny_pyIter_zip st.hz h
noncomputable def abu (K:Frag)(ta tb:TE):TI:=λσ H R=>bq ta (bq tb Bz) σ H λvs H1=>∃a b xs ys,vs=[.ref a,.ref b]/\aV K H1 a xs/\aV K H1 b ys/\R (Ef K a b) H1
theorem abv {X:Cx}{ea eb:Expr}{ta tb:TE}{elts:yD}{x1:Nat}{tp p pos:Pos}(ha:PE X ea ta)(hb:PE X eb tb)(hg:Gl X "zip")(hm:X.mg "zip"=none)(hs:fV ea=false:=by rfl)(Il:fV eb=false:=by rfl):
 PI X (.Tuple elts x1 tp) (.Call (.Name "zip" p) [ea,eb] [] pos) (abu X.K ta tb):=by
 intro pins s σ H R I h;refine Y6 (eK I hg hm (by rfl) ?_ (by decide) (by decide));refine Z8 (bU (aj ha (aj hb ag Il) hs pos pins s σ H _ I h) λus s1 z'=>?_) (bz hs) (by rw[bz Il];rfl);obtain⟨vs,H1,I1,r1,a,b,xs,ys,hv,hq,hr,rr⟩:=z';subst hv;obtain⟨u,u',rfl,ru,N6⟩:=xt r1
 cases(show u=Value.ref a from ru)
 cases(show u'=Value.ref b from N6)
 obtain⟨its,rv,pl,hz⟩:=I1.tuple hq;obtain⟨Kq,Gb,Q3,Q2⟩:=I1.tuple hr;refine Zp.adO (show s1.heap.IsTuple a its.toArray from pl) (show s1.heap.IsTuple b Kq.toArray from Q3) λh' q1 q4=>?_;have I2:Inv X pins σ H1 {s1 with heap:=h'}:=I1.kept (t':=s1.toks) q4
 have la:a<s1.heap.objs.size:=by obtain⟨o,e,_⟩:=pl;exact Ym e
 have lb:b<s1.heap.objs.size:=by obtain⟨o,e,_⟩:=Q3;exact Ym e
 refine wpAny_pyIter_zip (s:={s1 with heap:=h'}) q1.hz ?_;refine⟨s1.heap.objs.size+4,[s1.heap.objs.size+4,s1.heap.objs.size+3,s1.heap.objs.size,s1.heap.objs.size+1,s1.heap.objs.size+2],_,Ef X.K a b,H1,rfl,I2,aa6 (Zp.adt _ _ _ la lb),q1,λc hc=>?_,rr⟩
 have FZ:s1.heap.objs.size<=c:=by
  rcases(by simpa using hc:c=s1.heap.objs.size+4\/c=s1.heap.objs.size+3\/c=s1.heap.objs.size\/c=s1.heap.objs.size+1\/c=s1.heap.objs.size+2) with q|q|q|q|q <;> rw[q]
  ·exact wq _ _
  ·exact wq _ _
  ·exact Ye _
  ·exact wq _ _
  ·exact wq _ _
 exact I1.ada FZ (I1.hok.fresh FZ)
end L2
namespace K44
open PySem L2 PySem.W
noncomputable abbrev uf:Stmt:=bh (ba 20) 3
noncomputable abbrev wW:Stmt:=(ba 11)
noncomputable abbrev iB:Stmt:=(ba 12)
noncomputable def tj (C:Addr):Sp:=λvs H Q _=>∃(p dx:Addr)(i:Int),vs=[.ref p]/\H p=some (.ins C dx (gE i))/\Q (.int i) H
noncomputable def pX:V->Bool
 | .int i=>decide (0<=i)&&decide (i<60)
 |_=>false
noncomputable def rO:Sp:=λvs H Q _=>∃x T,vs=[x]/\Th H x T/\Q (.bl (pX x)) H
variable {P:wu}{w:World}{K:PySem.W.Frag}{mg:vx}{base:Heap}
theorem abA:CN ["self"] ["self"] (ar uf):=fe (by decide +kernel)
theorem abB {f C:Addr}{fd:BB}(F:vP K "prime" "Field.prime" uf f fd)(c:Bg K mg C):yd P w K mg base (cD P w) 1 f fd ["self"] (tj C):=by
 refine F.okN abA (λvs H Q E h=>?_) (λFv A outer s H vs Q E hr h=>?_)
 ·obtain⟨p,dx,i,rfl,_⟩:=h;rfl
 ·obtain⟨p,dx,i,rfl,hp,q⟩:=h;exact⟨_,ax (aF (cN (pv 0) rfl)),_,rfl,p,C,dx,_,_,rfl,hp,c.cl,c.nP,rfl,q⟩
theorem abI:CN p4 p4 (ar wW):=fe (by decide +kernel)
theorem abJ {f:Addr}{fd:BB}{tM:Tok}(F:vP K "is_place" "is_place" wW f fd)(TC:mg "MOST_PLACES"=some (.int 60 tM))
 (q0:Ca P w K mg base 1 p4 "is_whole" uY):yd P w K mg base (cD P w) 2 f fd p4 rO:=by
 obtain⟨fw,Ki,FW,bW,mW,kW⟩:=q0;refine F.okN abI (λvs H Q E h=>?_) (λFv A outer s H vs Q E hr h=>?_)
 ·obtain⟨x,T,rfl,_⟩:=h;rfl
 ·obtain⟨x,T,rfl,th,q⟩:=h;have FN:xh 1 _:=hr.mono (by decide);refine⟨_,ax (aF (dz (aH FW FN (by rfl) mW kW bW .nil ao (aj (pv 0) ag rfl)) (eM (jG pb ir ak (pv 0) (fu (by rfl) TC (show aG (.int 60) (.int 60 tM) from⟨_,rfl⟩)))))),?_⟩;refine⟨_,rfl,x,T,rfl,th,_,rfl,?_⟩
  cases e:cg x with
  |false =>
   have z:pX x=false:=by cases x <;> first|rfl|cases e
   rw[z] at q;exact b7 q
  |true =>
   have z1:∃i,x=.int i:=by cases x <;> first|exact⟨_,rfl⟩|cases e
   obtain⟨i,rfl⟩:=z1;refine bA ?_;refine⟨_,rfl,_,_,rfl,rfl,_,rfl,?_⟩;refine cG (λh=>?_) (λh=>?_)
   ·refine⟨_,_,rfl,rfl,?_⟩;have h':decide (0<=i)=true:=h
    have z:pX (.int i)=decide (i<60):=by show(decide (0<=i)&&decide (i<60))=_;rw[h',Zr]
    rw[z] at q;exact q
   ·have h':decide (0<=i)=false:=by simpa using h
    have z:pX (.int i)=false:=by show(decide (0<=i)&&decide (i<60))=_;rw[h',ZF]
    rw[z] at q;exact q
end K44
namespace HT
open PySem PyProof.Rows
section
variable {prog:wu}{w:World}{A:Around}{E:ph}{s:Ci}
theorem abP {t sl:Addr}{items:BC}{vl vu:Value}{lo hi:Option Int}{Q:ph}(ht:IsTup s.heap t items)(hs:s.heap.IsSliceOf sl vl vu .none)(pl:IsPart vl lo)(pu:IsPart vu hi)
 (h0:c5 items.size 0 lo=0)(h1:c5 items.size items.size hi=items.size)(h:Q (.ref t) s):wpAny (model prog w) A (getItem (.ref t) (.ref sl)) Q E s:=by
 obtain⟨os,IS,MW,IT⟩:=id hs;have NO:s.TypeIs (.ref sl) "slice":=⟨os,IS,MW⟩;unfold getItem
 try with_reducible refine YY ?_
 first|refine X9 (Yb ?_)|skip
 refine X9 (wpAny_sequenceKey ht.typeIs (by decide) ?_)
 refine X9 (YN (name:=Str.ofString "__getitem__") ht.typeIs Za
  (YJ Za ht.typeIs entry_tuple_getitem ?_ (args_tuple_getitem _ _)))
 show wpAny _ _ (Builtin.Tuple.tupleItemsOf (.ref t)>>=_) _ _ s;refine X9 (tupleItemsOf_ ht ?_);refine X9 (qJ NO ?_);rw[Yh (by decide)];refine X9 (e8 hs pl pu ?_);rw[h0,h1]
 have GK:((((0:Nat):Int)==0&&(1:Int)==1&&(items.size-0)==items.size)=true):=by simp
 dsimp only;rw[Yh GK];show wpAny _ _ (Builtin.Tuple.tupleIsExact (.ref t)>>=_) _ _ s;refine X9 ?_;unfold Builtin.Tuple.tupleIsExact;refine X9 (qJ ht.typeIs (Yb ?_));rw[Yh (by decide)];refine X9 (Ej ?_);exact Yb ⟨_,rfl,Yb h⟩
end
end HT
namespace L2
open PySem PySem.Spec PyProof.Rows PySem.W
variable {X:Cx}
noncomputable def abS (K:Frag):V->Option Int->Option Int->Hp->VK->Prop:=λx lo hi H Q=>∃a xs,x=.ref a/\aV K H a xs/\(ig xs lo hi=xs->Q (.ref a) H)/\∀p,H p=none->Q (.ref p) (upd H p (.tup (ig xs lo hi)))
theorem abT:Ee X (abS X.K):=by
 intro pins s σ H x v vl vu lo hi sl Q I rx hs pl pu h;obtain⟨a,xs,rfl,hx,h1,h2⟩:=h
 by_cases hw:HT.c5 xs.length 0 lo=0/\HT.c5 xs.length xs.length hi=xs.length
 ·cases rx
  obtain⟨its,r,ht,hz⟩:=I.tuple hx
  have hlen:its.toArray.size=xs.length:=by rw[Yj];exact r.length.symm
  refine⟨"tuple",_,Za.lookup,ht.typeIs,?_⟩;refine HT.abP ht hs pl pu (by rw[hlen];exact hw.1) (by rw[hlen];exact hw.2) ?_;refine⟨.ref a,H,I,rfl,h1 ?_⟩;unfold ig;rw[hw.1,hw.2];simp
 ·exact aef pins s σ H (.ref a) v vl vu lo hi sl Q I rx hs pl pu ⟨a,xs,rfl,hx,hw,h2⟩
end L2
namespace K44
open PySem L2 PySem.W
inductive PX (H:Hp):V->Option (List V)->Prop where
 |no {x:V}{T:String}:Th H x T->T ≠ "tuple"->PX H x none
 |tup {a:Addr}{xs:List V}:H a=some (.tup xs)->xs.length<4000->(∀y∈xs,∃T,Th H y T)->PX H (.ref a) (some xs)
noncomputable def Dp:V->V->Bool
 | .int a,.int b=>decide (a<b)
 |_,_=>false
noncomputable def d0 (xs:List V):Bool:=(xs.zip (xs.drop 1)).all λp=>Dp p.1 p.2
noncomputable def cI:Option (List V)->Bool
 |none=>false
 |some xs=>xs.all pX&&d0 xs
noncomputable def uU:Sp:=λvs H Q _=>∃x o,vs=[x]/\PX H x o/\∀H',aC H H'->Q (.bl (cI o)) H'
theorem DU (xs:List V):ig xs (some 1) none=xs.drop 1:=by
 unfold ig HT.c5
 cases xs with
 |nil=>rfl
 |cons x xs=>simp
theorem ad9:CN p4 p4 (ar iB):=fe (by decide +kernel)
theorem jM:∀bs:List Bool,Paired C6 (bs.map V.bl) bs
 |[]=>.nil
 |b::bs=>.cons rfl (jM bs)
variable {P:wu}{w:World}{K:PySem.W.Frag}{mg:vx}{base:Heap}
variable {f:Addr}{fd:BB}
theorem adJ (F:vP K "is_product" "is_product" iB f fd)(Fs:mg "isinstance"=none)(Fu:mg "tuple"=none)(FY:mg "all"=none)(Hl:mg "zip"=none)
 (q0:Ca P w K mg base 2 p4 "is_place" rO):yd P w K mg base (cD P w) 3 f fd p4 uU:=by
 obtain⟨fp,Kr,FP,bP,mP,kP⟩:=q0;refine F.okN ad9 (λvs H Q E h=>?_) (λFv A outer s H vs Q E hr h=>?_)
 ·obtain⟨x,o,rfl,_⟩:=h;rfl
 ·obtain⟨x,o,rfl,px,q⟩:=h;have GL:xh 2 _:=hr.mono (by decide)
  refine⟨_,(au (bF (PW.pt (dE (bN (bO (aE aZ (by rfl) Fs (by rfl) (aj (pv 0) (aj (cC (by rfl) Fu (by rfl) (show aG (.ty "tuple") (.type "tuple") from rfl)) ag rfl) rfl)))) (dD (bN (bO (aE (iu rfl) (by rfl) FY (by rfl) (aj (bY (N:=["place"]) (nl:=1) (js:=[]) (osc:=ar iB) ⟨rfl,rfl,by decide +kernel,by decide +kernel,by decide +kernel,rfl,.nil,by decide +kernel⟩ rfl
   (dB (pv 0))
   (λC fp s H=>aD (i:=0) (by show(["place"]:EG).Nodup;decide +kernel) rfl (Or.inl rfl) (Or.inr rfl))
   (λC fp s H=>c6)
   (λC fp s H=>(aH FP GL (by rfl) mP kP bP .nil ao (aj (pv 0) ag rfl)))) ag rfl))))))) (ax (aF eB)) aS)
   (ax (aF (aE (iu rfl) (by rfl) FY (by rfl) (aj (bY (g:=kZ K 2 (cS (bw 0) (cS (bw 1) rM))) (N:=["place","later"]) (nl:=2) (js:=[]) (osc:=ar iB) ⟨rfl,rfl,by decide +kernel,by decide +kernel,by decide +kernel,rfl,.nil,by decide +kernel⟩ rfl
    (abv (pv 0) (kI abT (pv 0) (mX ak) nj) (by rfl) Hl)
    (λC fp s H=>(cY (X:=fK _ ["place","later"] _ C fp s H) rfl (aO (aD (X:=fK _ ["place","later"] _ C fp s H) (i:=0) (by show(["place","later"]:EG).Nodup;decide +kernel) rfl (Or.inl rfl) (Or.inr rfl)) (aO (aD (X:=fK _ ["place","later"] _ C fp s H) (i:=1) (by show(["place","later"]:EG).Nodup;decide +kernel) rfl (Or.inl rfl) (Or.inr rfl)) cu))))
    (λC fp s H=>c6)
    (λC fp s H=>(cp ir (pv 0) (pv 1) (aU _)))) ag rfl))))),?_⟩
  cases px with
  |@no x T th ne =>
   refine⟨_,rfl,x,.ty "tuple",_,_,_,rfl,rfl,th.ty,th.isTup,_,rfl,?_⟩;rw[Yu ne];exact bA (bA (q _ (aC.refl _)))
  |@tup a xs ha hl Ks =>
   refine⟨_,rfl,.ref a,.ty "tuple",_,_,_,rfl,rfl,.of (.tup ha),rfl,_,rfl,b7 ?_⟩;have Q4:∀n,n<=xs.length->n<sizeLine:=λn hn=>Yo hn (YX hl (by decide));refine⟨_,rfl,a,rfl,⟨xs,aV.of ha⟩,?_⟩;refine⟨λi m ys σ' H'=>m=xs.length-i/\i<=xs.length/\ys=((xs.take i).map pX).map V.bl/\H=H'/\∃o,σ'=[o],⟨xs.length,by simp,Yt _,by simp,rfl,none,rfl⟩,?_⟩;rintro i m ys σ' H' ⟨rfl,hi,rfl,rfl,o,rfl⟩;refine⟨Q4 _ (by simp;omega),?_⟩
   by_cases Fy:i<xs.length
   ·refine .inr ⟨⟨xs,xs[i],aV.of ha,by simp[Fy]⟩,λy H2 hy=>?_⟩;obtain⟨rfl,hy⟩:=hy;have ey:=hy xs (aV.of ha);obtain⟨T,th⟩:=Ks y (YA ey);dsimp only[As,bw];refine bA ⟨_,rfl,y,T,rfl,th,xs.length-(i+1),by omega,rfl,Fy,?_,rfl,_,rfl⟩
    have e2:xs.take (i+1)=xs.take i++[y]:=by
     rw[YE,ey];rfl
    rw[e2];simp
   ·have ei:i=xs.length:=by omega
    subst ei;refine .inl ⟨⟨xs,aV.of ha,Ye _⟩,λD hD=>?_⟩;rw[Yv];refine⟨D,_,xs.map pX,rfl,bo.of ai,jM _,_,rfl,?_⟩;have sD:aC H (upd H D (.lst ((xs.map pX).map V.bl))):=aq hD
    cases hp:(xs.map pX).all id with
    |false =>
     have z:cI (some xs)=false:=by
      show(xs.all pX&&d0 xs)=_
      have:xs.all pX=false:=by rw[<-hp,Z9];rfl
      rw[this,ZF]
     rw[z] at q;exact bA (q _ sD)
    |true =>
     refine b7 ?_
     have z:cI (some xs)=d0 xs:=by
      show(xs.all pX&&d0 xs)=_
      have:xs.all pX=true:=by rw[<-hp,Z9];rfl
      rw[this,Zr]
     rw[z] at q;generalize upd H D (.lst ((xs.map pX).map V.bl))=H1 at sD |-;have Gu:=sD _ _ ha
     have hint:∀y∈xs,∃n,y=V.int n:=λy hy=>by
      have:pX y=true:=ZQ.mp hp _ (CD hy)
      cases y <;> first|exact⟨_,rfl⟩|cases this
     have key:∀(b:Addr)(H2:Hp),aC H H2->H2 a=some (.tup xs)->H2 b=some (.tup (xs.drop 1)) →
      ∃W:Nat->Nat->List V->St->Hp->Prop,(∃m,W 0 m [] [none,none] H2)/\ky (Ef K a b) (kZ K 2 (cS (bw 0) (cS (bw 1) rM))) As (kn (vU λi j=>V.bl (decide (i<j))) (cc 0) (cc 1)) W
       λys H'=>∀D,H' D=none->∃l zs bs,[V.ref D]=[V.ref l]/\bo K (upd H' D (.lst ys)) l zs/\Paired C6 zs bs/\Q (.bl (bs.all id)) (upd H' D (.lst ys)):=by
      intro b H2 s2 TF TH;refine⟨λi m ys σ' H'=>m=(xs.drop 1).length-i/\i<=(xs.drop 1).length/\ys=(((xs.zip (xs.drop 1)).take i).map λp=>Dp p.1 p.2).map V.bl/\aC H2 H'/\∃o1 o2,σ'=[o1,o2],⟨(xs.drop 1).length,by simp,Yt _,by simp,aC.refl _,none,none,rfl⟩,?_⟩;rintro i m ys σ' H' ⟨rfl,hi,rfl,sH,o1,o2,rfl⟩;have Je:=sH _ _ TF;have FZ:=sH _ _ TH;refine⟨Q4 _ (by simp;omega),?_⟩
      by_cases Fy:i<(xs.drop 1).length
      ·have N8:i<xs.length:=by rw[u7] at Fy;omega
       refine .inr ⟨⟨xs,xs.drop 1,xs[i],(xs.drop 1)[i],aV.of Je,aV.of FZ,by simp[N8],by rw[YZ Fy]⟩,λv H3 hv=>?_⟩;obtain⟨T,x,y,hx,hy,hT,rfl,rfl⟩:=hv;have ex:=hx xs (aV.of Je);have ey:=hy (xs.drop 1) (aV.of FZ);obtain⟨n,rfl⟩:=hint x (YA ex);obtain⟨k,rfl⟩:=hint y (List.mem_of_mem_drop (YA ey));refine⟨T,_,rfl,aV.of ai,rfl,_,_,rfl,_,_,rfl,rfl,?_⟩;dsimp only[As];refine bA ⟨_,rfl,_,rfl,n,k,rfl,rfl,(xs.drop 1).length-(i+1),by omega,rfl,Fy,?_,λc u e=>?_,_,_,rfl⟩
       ·have ez:(xs.zip (xs.drop 1))[i]?=some (V.int n,V.int k):=by
         rw[List.getElem?_zip_eq_some];exact⟨ex,ey⟩
        have e2:(xs.zip (xs.drop 1)).take (i+1)=(xs.zip (xs.drop 1)).take i++[(V.int n,V.int k)]:=by
         rw[YE,ez];rfl
        rw[e2];simp[Dp]
       ·rw[aA (aB (sH _ _ e) hT)];exact sH _ _ e
      ·have ei:i=(xs.drop 1).length:=by omega
       subst ei;refine .inl ⟨⟨xs,xs.drop 1,aV.of Je,aV.of FZ,.inr (Ye _)⟩,λD' Kt=>?_⟩
       have et:(xs.zip (xs.drop 1)).take (xs.drop 1).length=xs.zip (xs.drop 1):=by
        apply List.take_of_length_le;rw[DN];exact ZP _ _
       rw[et];refine⟨D',_,(xs.zip (xs.drop 1)).map λp=>Dp p.1 p.2,rfl,bo.of ai,jM _,?_⟩
       have er:((xs.zip (xs.drop 1)).map λp=>Dp p.1 p.2).all id=d0 xs:=by rw[Z9];rfl
       rw[er];refine q _ λc u e=>?_;have e1:=sH _ _ (s2 _ _ e);rw[aA (aB e1 Kt)];exact e1
     refine⟨_,rfl,_,rfl,1,rfl,a,xs,rfl,aV.of Gu,λe=>?_,λp Q5=>?_⟩
     ·rw[DU] at e;exact⟨a,a,xs,xs.drop 1,rfl,aV.of Gu,aV.of (by rw[e];exact Gu),key a H1 sD Gu (by rw[e];exact Gu)⟩
     ·rw[DU];have np:a≠p:=aB Gu Q5;exact⟨a,p,xs,xs.drop 1,rfl,aV.of (by rw[aA np];exact Gu),aV.of ai,key p _ (λc u e=>by rw[aA (aB (sD _ _ e) Q5)];exact sD _ _ e) (by rw[aA np];exact Gu) ai⟩
noncomputable abbrev AI:Stmt:=(ba 29)
theorem PX.same {H H':Hp}{x:V}{o:Option (List V)}(h:PX H x o)(s:aC H H'):PX H' x o:=by
 cases h with
 |no th n=>exact .no (th.same s) n
 |tup e l h=>exact .tup (s _ _ e) l λy hy=>let⟨T,t⟩:=h y hy;⟨T,t.same s⟩
inductive Ek (p:Int)(H:Hp):V->Bool->Prop where
 |no {x:V}{T:String}:Th H x T->T ≠ "tuple"->Ek p H x false
 |odd {a:Addr}{xs:List V}:H a=some (.tup xs)->xs.length≠2->Ek p H (.ref a) false
 |two {a:Addr}{y z:V}{o:Option (List V)}{o2:Option (V×V)}:H a=some (.tup [y,z])->PX H y o->TX H z o2->Ek p H (.ref a) (cI o&&wB p o2)
theorem Ek.same {p:Int}{H H':Hp}{x:V}{b:Bool}(h:Ek p H x b)(s:aC H H'):Ek p H' x b:=by
 cases h with
 |no th n=>exact .no (th.same s) n
 |odd e n=>exact .odd (s _ _ e) n
 |two e h1 h2=>exact .two (s _ _ e) (h1.same s) (h2.same s)
noncomputable def wJ (C:Addr):Sp:=λvs H Q _=>∃(s dx:Addr)(p:Int)(x:V)(b:Bool),vs=[.ref s,x]/\H s=some (.ins C dx (gE p))/\FP p/\Ek p H x b/\∀H',aC H H'->Q (.bl b) H'
theorem rEq:CN D8 D8 (ar AI):=fe (by decide +kernel)
theorem adw {C:Addr}(F:vP K "is_term" "is_term" AI f fd)(c:Bg K mg C)(Fs:mg "isinstance"=none)(Fu:mg "tuple"=none)(Fz:mg "len"=none)
 (q0:Ca P w K mg base 3 p4 "is_product" uU)
 (q1:Cm P w K mg base 2 ["self","thing"] C "is_number" (kN C)):yd P w K mg base (cD P w) 4 f fd D8 (wJ C):=by
 obtain⟨fp,Kr,TJ,bP,mP,kP⟩:=q0;obtain⟨fi,XG,FI,bI,mI⟩:=q1;refine F.okN rEq (λvs H Q E h=>?_) (λFv A outer s H vs Q E hr h=>?_)
 ·obtain⟨s,dx,p,x,b,rfl,_⟩:=h;rfl
 ·obtain⟨s0,dx,p,x,b,rfl,hs,hp,tx,q⟩:=h;have GZ:xh 3 _:=hr.mono (by decide);have GL:xh 2 _:=hr.mono (by decide)
  refine⟨_,ax (aF (dz (aE aZ (by rfl) Fs (by rfl) (aj (pv 1) (aj (cC (by rfl) Fu (by rfl) (show aG (.ty "tuple") (.type "tuple") from rfl)) ag rfl) rfl))
   (dz (cp fN (aE bJ (by rfl) Fz ZU (aj (pv 1) ag rfl)) ak (aU _))
   (dz (aH TJ GZ (by rfl) mP kP bP .nil ao (aj (aY bH (pv 1) ak (λ_ _=>rfl)) ag rfl))
   (eM (fJ (pv 0) c.cl mI FI GL bI .nil ao (aj (aY bH (pv 1) ak (λ_ _=>rfl)) ag rfl))))))),?_⟩
  cases tx with
  |@no x T th ne =>
   refine⟨_,rfl,x,.ty "tuple",_,_,_,rfl,rfl,th.ty,th.isTup,_,rfl,?_⟩;rw[Yu ne];exact b7 (q _ (aC.refl _))
  |@odd a xs ha hl =>
   refine⟨_,rfl,.ref a,.ty "tuple",_,_,_,rfl,rfl,.of (.tup ha),rfl,_,rfl,bA ?_⟩;refine⟨_,rfl,a,_,rfl,.inr (aV.of ha),rfl,_,rfl,?_⟩;refine cG (λh=>absurd h (by simp;omega)) (λh=>?_);exact q _ (aC.refl _)
  |@two a y z o o2 ha hy hz =>
   refine⟨_,rfl,.ref a,.ty "tuple",_,_,_,rfl,rfl,.of (.tup ha),rfl,_,rfl,bA ?_⟩;refine⟨_,rfl,a,_,rfl,.inr (aV.of ha),rfl,_,rfl,bA ?_⟩;refine⟨_,rfl,a,_,0,y,rfl,rfl,aV.of ha,rfl,y,o,rfl,hy,λH' sH=>⟨_,rfl,?_⟩⟩;have Il:=sH _ _ hs;have Je:=sH _ _ ha
   cases e:cI o with
   |false =>
    rw[e,ZF] at q;exact b7 (q _ sH)
   |true =>
    rw[e,Zr] at q;refine bA ⟨_,rfl,s0,dx,_,rfl,Il,rfl,_,rfl,a,_,1,z,rfl,rfl,aV.of Je,rfl,s0,dx,p,z,o2,rfl,Il,hp,hz.same sH,q _ sH⟩
noncomputable abbrev p0:Stmt:=(ba 30)
noncomputable abbrev pK:Stmt:=(ba 31)
noncomputable def lH (C:Addr):Sp:=λvs H Q _=>∃(s dx:Addr)(p:Int)(x:V),vs=[.ref s,x]/\H s=some (.ins C dx (gE p))/\FP p /\
 ((x=.non/\∀l,H l=none->Q (.ref l) (upd H l (.lst [])))\/∃l ys,x=.ref l/\H l=some (.lst ys)/\ys.length<4000/\(∀y∈ys,Ek p H y true)/\∀H',aC H H'->Q (.ref l) H')
noncomputable def vp:Sp:=λvs H Q _=>∃(a b:Addr)(z:V)(xs:List V),vs=[.ref a]/\H a=some (.tup [.ref b,z])/\H b=some (.tup xs)/\∀t,H t=none->Q (.ref t) (upd H t (.tup [.int xs.length,.ref b]))
theorem iY:CN ["field","terms","number","thing"] n6 (ar p0):=fe (by decide +kernel)
theorem ade:CN ["term"] ["term"] (ar pK):=fe (by decide +kernel)
theorem adM (F:vP K "place_of_term" "place_of_term" pK f fd)(Fz:mg "len"=none):yd P w K mg base (cD P w) 1 f fd ["term"] vp:=by
 refine F.okN ade (λvs H Q E h=>?_) (λFv A outer s H vs Q E hr h=>?_)
 ·obtain⟨a,b,z,xs,rfl,_⟩:=h;rfl
 ·obtain⟨a,b,z,xs,rfl,ha,hb,q⟩:=h;refine⟨_,(ax (aF (aJ (aj (aE bJ (by rfl) Fz ZU (aj (aY bH (pv 0) ak (λ_ _=>rfl)) ag rfl)) (aj (aY bH (pv 0) ak (λ_ _=>rfl)) ag rfl) rfl)))),?_⟩;refine⟨_,rfl,a,_,0,_,rfl,rfl,aV.of ha,rfl,b,xs,rfl,.inr (aV.of hb),_,rfl,a,_,0,_,rfl,rfl,aV.of ha,rfl,hJ,λt ht=>q t ht⟩
theorem adB {C:Addr}(F:vP K "checked_terms" "checked_terms" p0 f fd)(Fs:mg "isinstance"=none)(FA:mg "list"=none)(FO:mg "enumerate"=none)
 (q0:Ca P w K mg base 4 D8 "is_term" (wJ C)):yd P w K mg base (cD P w) 5 f fd n6 (lH C):=by
 obtain⟨ft,TK,FT,bT,mT,kT⟩:=q0;refine F.okN iY (λvs H Q E h=>?_) (λFv A outer s H vs Q E hr h=>?_)
 ·obtain⟨s,dx,p,x,rfl,_⟩:=h;rfl
 ·obtain⟨s0,dx,p,x,rfl,hs,hp,h⟩:=h;have GW:xh 4 _:=hr.mono (by decide)
  refine⟨_,(au (bF (aN adV (pv 1) rg (aU _)) (ax (aF (cE ag))) aS)
   (au (bF (bN (bO (aE aZ (by rfl) Fs (by rfl) (aj (pv 1) (aj (cC (by rfl) FA (by rfl) (show aG (.ty "list") (.type "list") from rfl)) ag rfl) rfl)))) (ax (pJ)) aS)
   (au (dW Y4 rfl (ac6 (pv 1) (by rfl) FO) (cY rfl (aO (aD (i:=2) iY.nd rfl (Or.inl rfl)) (aO (aD (i:=3) iY.nd rfl (Or.inl rfl)) cu)))
   (ax (bF (bN (bO (aH FT GW (by rfl) mT kT bT .nil ao (aj (pv 0) (aj (pv 3) ag rfl) rfl)))) (ax (pJ)) aS)))
   (ax (aF (pv 1)))))),?_⟩
  rcases h with⟨rfl,q⟩|⟨l,ys,rfl,hl,hlen,Gv,q⟩
  ·refine⟨_,rfl,rfl,_,rfl,?_⟩;exact bA ⟨Yt _,λl hl=>q l hl⟩
  ·refine⟨_,rfl,rfl,_,rfl,b7 ?_⟩;refine⟨_,rfl,.ref l,.ty "list",_,_,_,rfl,rfl,.of (.lst hl),rfl,_,rfl,b7 ?_⟩;refine⟨_,rfl,l,ys,rfl,bo.of hl,?_⟩;refine⟨λi m σ' H'=>m=ys.length-i/\i<=ys.length/\aC H H'/\∃o1 o2,σ'=[some (.ref s0),some (.ref l),o1,o2],⟨ys.length,by simp,Yt _,aC.refl _,none,none,rfl⟩,?_⟩;rintro i m σ' H' ⟨rfl,hi,sH,o1,o2,rfl⟩;have GG:=sH _ _ hl
   by_cases Fy:i<ys.length
   ·refine .inr ⟨⟨ys,ys[i],bo.of GG,by simp[Fy]⟩,λσ' H'=>i+1<=ys.length/\aC H H'/\∃o1 o2,σ'=[some (.ref s0),some (.ref l),o1,o2],?_,λv H2 hv=>?_⟩
    ·rintro σ' H' ⟨h1,h2,h3⟩;exact⟨ys.length-(i+1),by omega,rfl,h1,h2,h3⟩
    ·obtain⟨T,y,hy,hT,rfl,rfl⟩:=hv;have ey:=hy ys (bo.of GG)
     have s2:aC H (upd H' T (.tup [.int i,y])):=λc u e=>by
      rw[aA (aB (sH _ _ e) hT)];exact sH _ _ e
     have ty:=(Gv y (YA ey)).same s2;refine⟨T,_,rfl,aV.of ai,rfl,_,_,rfl,_,_,rfl,rfl,?_⟩;refine⟨_,rfl,_,rfl,s0,dx,p,y,true,rfl,s2 _ _ hs,hp,ty,λH3 s3=>⟨_,rfl,b7 ?_⟩⟩;exact⟨Fy,λc u e=>s3 _ _ (s2 _ _ e),_,_,rfl⟩
   ·refine .inl ⟨⟨ys,bo.of GG,by omega⟩,?_⟩;exact⟨_,rfl,q _ sH⟩
end K44
namespace Srt
open PySem PySem.W PyProof.Rows
structure Pm (n:Nat)(r:Nat->Nat)(p:Array Nat):Prop where
 size:p.size=n
 lt:∀k,k<n->p.getD k 0<n
 ne:∀k l,k<n->l<n->k≠l->r (p.getD k 0)≠r (p.getD l 0)
 perm:p.Perm (List.range n).toArray
variable {p:Array Nat}{k m j:Nat}
section
variable {n:Nat}{r:Nat->Nat}
theorem Pm.nq {n:Nat}{r:Nat->Nat}(P:Pm n r p)(k l:Nat)(hk:k<n)(hl:l<n)(h:k≠l):p.getD k 0≠p.getD l 0:=λz=>P.ne k l hk hl h (by rw[z])
theorem getD_some (h:k<p.size):p[k]?=some (p.getD k 0):=by simp[Array.getD,h]
theorem oZ (inj:∀i j,i<n->j<n->i≠j->r i≠r j)(hp:p.Perm (List.range n).toArray):Pm n r p:=by
 have hl:p.toList.Perm (List.range n):=by simpa using hp.toList
 have hs:p.size=n:=by rw[<-Yz,hl.length_eq,uH]
 have Fy:∀k,k<n->p.getD k 0<n:=λk hk=>by
  have hm:p.getD k 0∈p.toList:=by
   rw[show p.getD k 0=p[k]'(by omega) by simp[Array.getD,hs,hk]];exact Array.mem_toList_iff.mpr (Array.getElem_mem _)
  exact ZD.mp (hl.mem_iff.mp hm)
 refine⟨hs,Fy,λk l hk GG F2=>inj _ _ (Fy k hk) (Fy l GG) λe=>F2 ?_,hp⟩;have nd:p.toList.Nodup:=hl.nodup_iff.mpr List.nodup_range
 have e1:p.toList[k]'(by simp;omega)=p.toList[l]'(by simp;omega):=by
  rw[show p.getD k 0=p[k]'(by omega) by simp[Array.getD,hs,hk],show p.getD l 0=p[l]'(by omega) by simp[Array.getD,hs,GG]] at e;simpa using e
 have pw:=ZW.mp (show p.toList.Pairwise (· ≠ ·) from nd)
 rcases pR k l with z|z|z
 ·exact absurd e1 (pw k l _ _ z)
 ·exact z
 ·exact absurd e1.symm (pw l k _ _ z)
noncomputable def Up (r:Nat->Nat)(p:Array Nat)(m:Nat):Prop:=∀i j,i<j->j<m->r (p.getD i 0)<r (p.getD j 0)
noncomputable def Dn (r:Nat->Nat)(p:Array Nat)(m:Nat):Prop:=∀i j,i<j->j<m->r (p.getD j 0)<r (p.getD i 0)
theorem Up.succ (h:Up r p m)(h1:1<=m)(e:r (p.getD (m-1) 0)<r (p.getD m 0)):Up r p (m+1):=λi j GD hj=>by
 by_cases z:j=m
 ·subst z
  by_cases z2:i=j-1
  ·subst z2;exact e
  ·exact YX (h i (j-1) (by omega) (by omega)) e
 ·exact h i j GD (by omega)
theorem Dn.succ (h:Dn r p m)(h1:1<=m)(e:r (p.getD m 0)<r (p.getD (m-1) 0)):Dn r p (m+1):=λi j GD hj=>by
 by_cases z:j=m
 ·subst z
  by_cases z2:i=j-1
  ·subst z2;exact e
  ·exact YX e (h i (j-1) (by omega) (by omega))
 ·exact h i j GD (by omega)
theorem sv (hm:m<=p.size)(hk:k<p.size):(kas_rev p 0 m).getD k 0=if k<m then p.getD (m-1-k) 0 else p.getD k 0:=by
 have e:=getElem?_mirror_all (xs:=p) (i:=0) hm k;have hs:(kas_rev p 0 m).size=p.size:=mirror_size _ _ _ _;have e2:(kas_rev p 0 m)[k]?=some ((kas_rev p 0 m).getD k 0):=getD_some (by rw[hs];exact hk)
 have e3:(kas_rev p 0 m)[k]?=if 0<=k/\k<m then p[0+m-1-k]? else p[k]?:=e
 rw[e2] at e3
 by_cases h:k<m
 ·rw[Yh ⟨Yt _,h⟩,show 0+m-1-k=m-1-k by omega,getD_some (by omega)] at e3;rw[Yh h];exact Option.some.inj e3
 ·rw[Yd (λz=>h z.2),getD_some hk] at e3;rw[Yd h];exact Option.some.inj e3
theorem Dn.rev (h:Dn r p m)(hm:m<=p.size):Up r (kas_rev p 0 m) m:=λi j GD hj=>by
 rw[sv hm (by omega),sv hm (by omega),Yh (by omega),Yh hj];exact h _ _ (by omega) (by omega)
variable {cmp:Nat->Nat->(Bool->Shared->Prop)->Shared->Prop}{s:Ci}
theorem qI (hc:∀i j C,i<n->j<n->i≠j->C (decide (r i<r j)) s->cmp i j C s)(P:Pm n r p){Q:Nat->Shared->Prop}:∀(f m:Nat),1<=m->m+f=n->Up r p m →
 (∀m',m<=m'->m'<=n->Up r p m'->(m'<n->r (p.getD m' 0)<r (p.getD (m'-1) 0))->Q m' s)->(kas_asc p f m).kasWp cmp Q s
 |0,m,h1,hm,hu,hQ=>hQ m (Ye _) (by omega) hu λh=>by omega
 |f+1,m,h1,hm,hu,hQ=>by
  refine hc _ _ _ (P.lt m (by omega)) (P.lt (m-1) (by omega)) (P.nq m (m-1) (by omega) (by omega) (by omega)) ?_;show((if decide (r (p.getD m 0)<r (p.getD (m-1) 0))=true then KasT.ret m else kas_asc p f (m+1)).kasWp cmp Q s)
  by_cases h:r (p.getD m 0)<r (p.getD (m-1) 0)
  ·rw[Yh (YD h)];exact hQ m (Ye _) (by omega) hu λ_=>h
  ·rw[Yd (by simpa using h)];have ne:=P.ne m (m-1) (by omega) (by omega) (by omega);exact qI hc P f (m+1) (by omega) (by omega) (hu.succ h1 (by omega)) λm' h2=>hQ m' (by omega)
theorem tW (hc:∀i j C,i<n->j<n->i≠j->C (decide (r i<r j)) s->cmp i j C s)(P:Pm n r p){Q:Array Nat×Nat×Nat->Shared->Prop}:∀(f m:Nat),1<=m->m+f=n->Dn r p m →
 (∀m',m<=m'->m'<=n->Dn r p m'->Q (p,m',0) s)->(kas_desc f p m 0).kasWp cmp Q s
 |0,m,h1,hm,hu,hQ=>hQ m (Ye _) (by omega) hu
 |f+1,m,h1,hm,hu,hQ=>by
  refine hc _ _ _ (P.lt m (by omega)) (P.lt (m-1) (by omega)) (P.nq m (m-1) (by omega) (by omega) (by omega)) ?_
  by_cases h:r (p.getD m 0)<r (p.getD (m-1) 0)
  ·rw[YD h];exact tW hc P f (m+1) (by omega) (by omega) (hu.succ h1 h) λm' h2=>hQ m' (by omega)
  ·rw[Yu h];refine hc _ _ _ (P.lt (m-1) (by omega)) (P.lt m (by omega)) (P.nq (m-1) m (by omega) (by omega) (by omega)) ?_;have ne:=P.ne m (m-1) (by omega) (by omega) (by omega);rw[YD (show r (p.getD (m-1) 0)<r (p.getD m 0) by omega)];exact hQ m (Ye _) (by omega) hu
theorem adQ (inj:∀i j,i<n->j<n->i≠j->r i≠r j)(hc:∀i j C,i<n->j<n->i≠j->C (decide (r i<r j)) s->cmp i j C s)(P:Pm n r p){Q:Nat×Array Nat->Shared->Prop}(h1:1<=m)(hm:m<=n)(hd:Dn r p m)
 (hQ:∀m' p',m'<=n->1<=m'->Pm n r p'->Up r p' m'->Q (m',p') s):(kas_tail3 m n p).kasWp cmp Q s:=by
 unfold kas_tail3;rw[jV];have P':Pm n r (kas_rev p 0 m):=oZ inj ((mirror_perm _ _ _ _).trans P.perm);exact qI hc P' (n-m) m h1 (by omega) (hd.rev (by rw[P.size];exact hm)) λm' h2 h3 h4 _=>hQ m' _ h3 (by omega) P' h4
theorem aed (inj:∀i j,i<n->j<n->i≠j->r i≠r j)(hc:∀i j C,i<n->j<n->i≠j->C (decide (r i<r j)) s->cmp i j C s)(h0:1<=n)(P:Pm n r p){Q:Nat×Array Nat->Shared->Prop}
 (hQ:∀m' p',m'<=n->1<=m'->Pm n r p'->Up r p' m'->Q (m',p') s):(kas_count n p).kasWp cmp Q s:=by
 unfold kas_count;rw[jV];refine qI hc P (n-1) 1 (Ye _) (by omega) (λi j GD hj=>by omega) λm h1 h2 h3 h4=>?_
 by_cases e:m=n
 ·subst e;rw[Yh (by simp)];exact hQ _ _ (Ye _) h1 P h3
 ·rw[Yd (by simpa using e)]
  by_cases h5:m>1
  ·rw[Yh h5];refine hc _ _ _ (P.lt 0 (by omega)) (P.lt (m-1) (by omega)) (P.nq 0 (m-1) (by omega) (by omega) (by omega)) ?_;rw[YD (h3 0 (m-1) (by omega) (by omega))];exact hQ _ _ h2 h1 P h3
  ·rw[Yd h5]
   have e1:m=1:=by omega
   subst e1;unfold kas_descPart;rw[jV];have d2:Dn r p (1+1):=Dn.succ (λi j GD hj=>by omega) (Ye _) (h4 (by omega));refine tW hc P (n-(1+1)) (1+1) (by omega) (by omega) d2 λm' h6 h7 h8=>?_;show((if 0>0 then _ else kas_tail3 m' n p).kasWp cmp Q s);rw[Yd (by omega)];exact adQ inj hc P (by omega) h7 h8 hQ
theorem jB (hc:∀i j C,i<n->j<n->i≠j->C (decide (r i<r j)) s->cmp i j C s)(P:Pm n r p){Q:Nat->Shared->Prop}(hk:k<n)(hu:Up r p k):∀(f l q:Nat),l<=q->q<=k->q-l<=f->(∀j,j<l->r (p.getD j 0)<r (p.getD k 0))->(∀j,q<=j->j<k->r (p.getD k 0)<r (p.getD j 0)) →
 (∀l',l'<=k->(∀j,j<l'->r (p.getD j 0)<r (p.getD k 0))->(∀j,l'<=j->j<k->r (p.getD k 0)<r (p.getD j 0))->Q l' s)->(kas_place p k f l q).kasWp cmp Q s
 |0,l,q,h1,h2,h3,h4,h5,hQ=>hQ l (by omega) h4 λj h6 h7=>h5 j (by omega) h7
 |f+1,l,q,h1,h2,h3,h4,h5,hQ=>by
  unfold kas_place
  by_cases h:l ≥ q
  ·rw[Yh h];exact hQ l (by omega) h4 λj h6 h7=>h5 j (by omega) h7
  ·rw[Yd h];refine hc _ _ _ (P.lt k hk) (P.lt ((l+q)/2) (by omega)) (P.nq k ((l+q)/2) hk (by omega) (by omega)) ?_;have ne:=P.ne k ((l+q)/2) hk (by omega) (by omega)
   by_cases z:r (p.getD k 0)<r (p.getD ((l+q)/2) 0)
   ·rw[YD z];refine jB hc P hk hu f l ((l+q)/2) (by omega) (by omega) (by omega) h4 (λj h6 h7=>?_) hQ
    by_cases e:j=(l+q)/2
    ·subst e;exact z
    ·exact YX z (hu _ _ (by omega) h7)
   ·rw[Yu z];refine jB hc P hk hu f ((l+q)/2+1) q (by omega) h2 (by omega) (λj h6=>?_) h5 hQ
    by_cases e:j=(l+q)/2
    ·subst e;omega
    ·have:=hu j ((l+q)/2) (by omega) (by omega);omega
theorem tT {l:Nat}(hk:k<p.size)(hl:l<=k)(hj:j<p.size):(bubble p k (k-l)).getD j 0=if j=l then p.getD k 0 else if l<j/\j<=k then p.getD (j-1) 0 else p.getD j 0:=by
 have e:=getElem?_bubble hk (k-l) (by omega) j;rw[show k-(k-l)=l by omega,getD_some (by rw[bubble_size];exact hj)] at e
 by_cases h1:j=l
 ·rw[Yh h1,getD_some hk] at e;rw[Yh h1];exact Option.some.inj e
 ·rw[Yd h1] at e |-
  by_cases h2:l<j/\j<=k
  ·rw[Yh h2,getD_some (by omega)] at e;rw[Yh h2];exact Option.some.inj e
  ·rw[Yd h2,getD_some hj] at e;rw[Yd h2];exact Option.some.inj e
theorem xS (inj:∀i j,i<n->j<n->i≠j->r i≠r j)(hc:∀i j C,i<n->j<n->i≠j->C (decide (r i<r j)) s->cmp i j C s){Q:Array Nat->Shared->Prop}(hQ:∀p',Pm n r p'->Up r p' n->Q p' s):∀(f:Nat)(p:Array Nat)(k:Nat),Pm n r p->k+f=n->Up r p k->(kas_bin f p k).kasWp cmp Q s
 |0,p,k,P,hk,hu=>hQ p P (by rw[<-hk];exact hu)
 |f+1,p,k,P,hk,hu=>by
  unfold kas_bin;rw[jV];refine jB hc P (by omega) hu k 0 k (Yt _) (Ye _) (by omega) (λj h=>by omega) (λj h1 h2=>by omega) λl h1 h2 h3=>?_;have P':Pm n r (bubble p k (k-l)):=oZ inj ((bubble_perm _ _ _).trans P.perm);refine xS inj hc hQ f _ (k+1) P' (by omega) λi j GD hj=>?_;have sz:=P.size;rw[tT (by omega) h1 (by omega),tT (by omega) h1 (by omega)]
  by_cases e1:i=l
  ·rw[Yh e1,Yd (by omega),Yh ⟨by omega,by omega⟩];exact h3 _ (by omega) (by omega)
  ·rw[Yd e1]
   by_cases e2:j=l
   ·rw[Yh e2,Yd (by omega)];exact h2 _ (by omega)
   ·rw[Yd e2]
    by_cases e3:l<j
    ·rw[Yh (show l<j/\j<=k from⟨e3,by omega⟩)]
     by_cases e4:l<i
     ·rw[Yh ⟨e4,by omega⟩];exact hu _ _ (by omega) (by omega)
     ·rw[Yd (by omega)];exact hu _ _ (by omega) (by omega)
    ·rw[Yd (by omega),Yd (by omega)];exact hu _ _ GD (by omega)
theorem uo (inj:∀i j,i<n->j<n->i≠j->r i≠r j)(hc:∀i j C,i<n->j<n->i≠j->C (decide (r i<r j)) s->cmp i j C s)(h0:1<=n){Q:Array Nat->Shared->Prop}(hQ:∀p',Pm n r p'->Up r p' n->Q p' s):(kas_sort n).kasWp cmp Q s:=by
 unfold kas_sort;rw[jV];refine aed inj hc h0 (oZ inj (xo _)) λm p h1 h2 P hu=>?_;show((if m<n then kas_bin (n-max m 1) p (max m 1) else KasT.ret p).kasWp cmp Q s)
 by_cases h:m<n
 ·rw[Yh h,show max m 1=m by omega];exact xS inj hc hQ _ _ _ P (by omega) hu
 ·rw[Yd h]
  have e:m=n:=by omega
  subst e;exact hQ p P hu
end
variable {vs:m8}{n:Nat}
section
variable {prog:wu}{w:World}{A:Around}{E:ph}{s:Ci}
noncomputable def mE (prog:wu)(w:World)(A:Around)(ks:m8)(r:Nat->Nat)(s:Ci):Prop :=
 ∃κ,(∀Q:SortKind->Shared->Prop,Q κ s->wpAny (model prog w) A (keyKind' ks.toArray) Q (λ_ _=>False) s)/\∀i j C,i<ks.length->j<ks.length->i≠j->C (decide (r i<r j)) s->kas_ask prog w A κ ks i j C s
noncomputable def cP (vs:m8)(p:Array Nat):List Value:=p.toList.map λi=>vs.getD i Value.none
theorem oY (vs:m8):cP vs (List.range vs.length).toArray=vs:=by
 unfold cP;apply xQ
 ·simp
 ·intro i h1 h2;simp[h2]
theorem aee {r:Nat->Nat}(P:Pm vs.length r p):(cP vs p).length=vs.length:=by
 unfold cP;rw[Yg,Yz,P.size]
theorem cZ (h:n<64):n<=sizeLine:=by rw[ZX];omega
noncomputable def ym (a:Addr)(h h':Heap):Prop:=∀b o,b≠a->h.get? b=some o->h'.get? b=some o
theorem adR {h:Heap}{a:Addr}{o1 o2:Obj}{g:Obj->Obj}:ym a h (((h.update a g).push o1).push o2):=λb o hb e=>by
 refine Yc _ (Yc _ ?_);rw[m9 _ _ _ _ hb];exact e
theorem adD {a:Addr}{r:Nat->Nat}{P:PySem.Fin->Shared->Prop}(ho:s.heap.get? a=some (seqObj "list" vs.toArray n))(h64:vs.length<64)
 (inj:∀i j,i<vs.length->j<vs.length->i≠j->r i≠r j)
 (hk:2<=vs.length->∀h',ym a s.heap h'->mE prog w A vs r {s with heap:=h'})
 (hP:∀h' p c,ym a s.heap h'->h'.get? a=some (seqObj "list" (cP vs p).toArray c)->Pm vs.length r p->Up r p vs.length->P (.done (.ret .none)) {s with heap:=h'}):
 wpAny (model prog w) A (Builtin.«list.sort» ⟨[.ref a],[]⟩) P E s:=by
 have ha:a<s.heap.objs.size:=Ym ho;obtain⟨e1,HN⟩:∃e1,(s.heap.update a (Obj.mapSeq λ_=>(#[]:BC))).get? a=some (seqObj "list" #[] e1):=⟨_,xV ho λ_=>#[]⟩;rw[list_sort_plain];refine X9 (listItems_at ho rfl (X9 (rQ ho rfl (X9 (qg HN rfl (X9 (C3 (X9 (vK ?_ (Yt _))) (cZ h64))))) (by rw[Yj];exact cZ h64) (Yt _))));refine YY (?_:wpAny (model prog w) A _ P E {s with heap:=((s.heap.update a (Obj.mapSeq λ_=>(#[]:BC))).push (seqObj "tuple" vs.toArray 0)).push (seqObj "list" #[] 0)});have kp:ym a s.heap (((s.heap.update a (Obj.mapSeq λ_=>(#[]:BC))).push (seqObj "tuple" vs.toArray 0)).push (seqObj "list" #[] 0)):=adR;have JJ:(((s.heap.update a (Obj.mapSeq λ_=>(#[]:BC))).push (seqObj "tuple" vs.toArray 0)).push (seqObj "list" #[] 0)).get? a=some (seqObj "list" #[] e1):=Yc _ (Yc _ HN);generalize ((s.heap.update a (Obj.mapSeq λ_=>(#[]:BC))).push (seqObj "tuple" vs.toArray 0)).push (seqObj "list" #[] 0)=h6 at kp JJ |-
 have fin:∀p,Pm vs.length r p->Up r p vs.length->P (.done (.ret .none)) {s with heap:=h6.update a (Obj.mapSeq λ_=>(cP vs p).toArray)}:=λp pm up=>by
  obtain⟨c2,Gq⟩:∃c2,(h6.update a (Obj.mapSeq λ_=>(cP vs p).toArray)).get? a=some (seqObj "list" (cP vs p).toArray c2):=⟨_,xV JJ λ_=>(cP vs p).toArray⟩;exact hP _ p c2 (λb o hb e=>by rw[m9 _ _ _ _ hb];exact kp b o hb e) Gq pm up
 have last:∀p,Pm vs.length r p->(List.toArray (cP vs p)).size<=sizeLine:=λp pm=>by rw[Yj,aee pm];exact cZ h64
 dsimp only
 by_cases h2:vs.toArray.size<2
 ·have small:vs.length<2:=by simpa using h2
  rw[Yh h2,Yh h2];refine X9 (Yb ?_);rw[StateT.run_pure];refine X9 (Yb ?_)
  have hm:(arrOf (SortSt.mk' general' (vs.toArray.zip vs.toArray) #[] 7 none)).map (·.2)=(cP vs (List.range vs.length).toArray).toArray:=by
   rw[oY];show(vs.toArray.zip vs.toArray).map (·.2)=vs.toArray;apply uK.mp;simp[List.map_snd_zip]
  have P0:Pm vs.length r (List.range vs.length).toArray:=oZ inj (xo _)
  have U0:Up r (List.range vs.length).toArray vs.length:=λi j GD hj=>by omega
  dsimp only;rw[hm];refine X9 (qg JJ rfl (X9 (rQ JJ rfl ?_ (Yt _) (qe (last _ P0)))));simp only[qa,Zl,Zv];exact Yb (fin _ P0 U0)
 ·have big:2<=vs.length:=by simpa using h2
  rw[Yd h2,Yd h2];obtain⟨κ,Gp,Jf⟩:=hk big h6 kp;refine X9 (YR (Gp (λκ' s0=>(kas_sort vs.length).kasWp (kas_ask prog w A κ' vs) (λp s'=>s'={s with heap:=h6}/\Pm vs.length r p/\Up r p vs.length) s0) (uo (n:=vs.length) (r:=r) inj Jf (by omega) (Q:=λp s'=>s'={s with heap:=h6}/\Pm vs.length r p/\Up r p vs.length) λp pm up=>⟨rfl,pm,up⟩)) (λκ' s0 hw=>?_) λ_ _ x=>x.elim);refine X9 (YR (kat_run (κ:=κ') (Q:=λF8 s'=>∃p:Array Nat,arrOf F8=p.map (kas_item (vs.toArray.zip vs.toArray))/\failedOf F8=none/\s'={s with heap:=h6}/\Pm vs.length r p/\Up r p vs.length) rfl big h64 (λp' F8 s' _ a2 a3 a4=>⟨p',a2,a3,a4⟩) hw) ?_ λ_ _ e=>e);rintro⟨⟨⟩,F8⟩ s' ⟨p,Ku,hf,rfl,pm,up⟩;dsimp only;rw[kat_snds rfl Ku];refine X9 (qg JJ rfl (X9 (rQ JJ rfl ?_ (Yt _) (qe (last _ pm)))));rw[hf];simp only[qa,Zl,Zv];exact Yb (fin p pm up)
theorem adS {l:Addr}{r:Nat->Nat}{Q:ph}(hl:s.heap.IsList l vs.toArray)(h64:vs.length<64)
 (inj:∀i j,i<vs.length->j<vs.length->i≠j->r i≠r j)
 (hk:2<=vs.length->∀h',(∀b o,s.heap.get? b=some o->h'.get? b=some o)->mE prog w A.in1.in1 vs r {s with heap:=h'})
 (hQ:∀h' D p c,(∀b o,s.heap.get? b=some o->h'.get? b=some o)->s.heap.get? D=none->h'.get? D=some (seqObj "list" (cP vs p).toArray c)->Pm vs.length r p->Up r p vs.length->Q (.ref D) {s with heap:=h'}):
 wpAny (model prog w) A (call (.builtin "sorted") [.ref l]) Q E s:=by
 refine yW kind_sorted plain_sorted entry_sorted (args_sorted1 _) ?_;unfold Builtin.«sorted»;refine X9 (m:=checkCount "sorted" 1 1 _) (Yb (X9 (collect_list hl (X9 (vK ?_ (cZ h64))) (cZ h64))))
 have sz:((s.heap.push (seqObj "list" #[] 0)).update s.heap.objs.size (Obj.mapSeq (·++vs.toArray))).objs.size=s.heap.objs.size+1:=by rw[Heap.size_update];exact size_push' _ _
 have Jg:(((s.heap.push (seqObj "list" #[] 0)).update s.heap.objs.size (Obj.mapSeq (·++vs.toArray))).push (seqObj "list" vs.toArray 0)).get? (s.heap.objs.size+1)=some (seqObj "list" vs.toArray 0):=by
  rw[<-sz];exact Yk _ rfl
 have old:∀b o,s.heap.get? b=some o->(((s.heap.push (seqObj "list" #[] 0)).update s.heap.objs.size (Obj.mapSeq (·++vs.toArray))).push (seqObj "list" vs.toArray 0)).get? b=some o:=λb o q=>by
  have lt:b<s.heap.objs.size:=Ym q;refine Yc _ ?_;rw[m9 _ _ _ _ (Yr lt)];exact Yc _ q
 have new:s.heap.get? (s.heap.objs.size+1)=none:=Heap.get?_none_of_le (vI _);show wpAny _ _ _ _ _ {s with heap:=((s.heap.push (seqObj "list" #[] 0)).update s.heap.objs.size (Obj.mapSeq (·++vs.toArray))).push (seqObj "list" vs.toArray 0)};rw[sz];generalize ((s.heap.push (seqObj "list" #[] 0)).update s.heap.objs.size (Obj.mapSeq (·++vs.toArray))).push (seqObj "list" vs.toArray 0)=h5 at Jg old |-;have kp:∀h',ym (s.heap.objs.size+1) h5 h'->∀b o,s.heap.get? b=some o->h'.get? b=some o:=λh' k b o q=>k b o (λz=>by rw[z,new] at q;cases q) (old b o q);refine X9 (YY (YJ slot_list_sort ⟨_,Jg,rfl⟩ entry_list_sort (adD (s:={s with heap:=h5}) (r:=r) Jg h64 inj (λb h' k=>hk b h' (kp h' k)) λh' p c k e pm up=>⟨_,rfl,?_⟩) (args_list_sort _)));exact Yb ⟨_,rfl,hQ h' _ p c (kp h' k) new e pm up⟩
end
open L2
noncomputable abbrev Ky:=Int×List Int
noncomputable def kR (a b:Ky):Bool:=if a.1=b.1 then HT.cR a.2 b.2 else decide (a.1<b.1)
theorem kf:∀xs:List Int,HT.cR xs xs=false
 |[]=>rfl
 |x::xs=>by rw[HT.dZ,Yh rfl];exact kf xs
theorem l6:∀{xs ys zs:List Int},HT.cR xs ys=true->HT.cR ys zs=true->HT.cR xs zs=true
 |[],[],_,h,_=>by cases h
 |[],y::ys,[],_,h=>by cases h
 |[],y::ys,z::zs,_,_=>rfl
 |x::xs,[],_,h,_=>by cases h
 |x::xs,y::ys,[],_,h=>by cases h
 |x::xs,y::ys,z::zs,h1,h2=>by
  rw[HT.dZ] at h1 h2 |-
  by_cases e1:x=y
  ·rw[Yh e1] at h1
   by_cases e2:y=z
   ·rw[Yh e2] at h2;rw[Yh (e1.trans e2)];exact l6 h1 h2
   ·rw[Yd e2] at h2;rw[e1,Yd e2];exact h2
  ·rw[Yd e1] at h1;have l1:=Zg h1
   by_cases e2:y=z
   ·rw[<-e2,Yd e1];exact h1
   ·rw[Yd e2] at h2;have l2:=Zg h2;rw[Yd (by omega)];exact YD (by omega)
theorem mj:∀{xs ys:List Int},xs≠ys->HT.cR xs ys=true\/HT.cR ys xs=true
 |[],[],h=>absurd rfl h
 |[],y::ys,_=>.inl rfl
 |x::xs,[],_=>.inr rfl
 |x::xs,y::ys,h=>by
  rw[HT.dZ,HT.dZ]
  by_cases e:x=y
  ·subst e;rw[Yh rfl,Yh rfl];exact mj λz=>h (by rw[z])
  ·rw[Yd e,Yd (YM e)];simp only[Bl];omega
theorem j0 (a:Ky):kR a a=false:=by unfold kR;rw[Yh rfl];exact kf _
theorem iZ {a b c:Ky}(h1:kR a b=true)(h2:kR b c=true):kR a c=true:=by
 unfold kR at h1 h2 |-
 by_cases e1:a.1=b.1
 ·rw[Yh e1] at h1
  by_cases e2:b.1=c.1
  ·rw[Yh e2] at h2;rw[Yh (e1.trans e2)];exact l6 h1 h2
  ·rw[Yd e2] at h2;rw[e1,Yd e2];exact h2
 ·rw[Yd e1] at h1;have l1:=Zg h1
  by_cases e2:b.1=c.1
  ·rw[<-e2,Yd e1];exact h1
  ·rw[Yd e2] at h2;have l2:=Zg h2;rw[Yd (by omega)];exact YD (by omega)
theorem iO {a b:Ky}(h:a≠b):kR a b=true\/kR b a=true:=by
 unfold kR
 by_cases e:a.1=b.1
 ·rw[Yh e,Yh e.symm];exact mj λz=>h (zD e z)
 ·rw[Yd e,Yd (YM e)];simp only[Bl];omega
noncomputable def cH (ks:List Ky)(i:Nat):Ky:=ks.getD i (0,[])
noncomputable def rk (ks:List Ky)(i:Nat):Nat:=(List.range ks.length).countP λj=>kR (cH ks j) (cH ks i)
theorem mx {α:Type}{p q:α->Bool}:∀{l:List α},(∀x∈l,p x=true->q x=true)->(∃x∈l,q x=true/\p x=false)->l.countP p<l.countP q
 |[],_,⟨x,hx,_⟩=>by cases hx
 |a::l,h,⟨x,hx,h1,h2⟩=>by
  have le:∀l':List α,(∀x∈l',p x=true->q x=true)->l'.countP p<=l'.countP q:=λl' h'=>List.countP_mono_left h';rw[List.countP_cons,List.countP_cons]
  rcases Yn.mp hx with rfl|hx
  ·rw[Yh h1,Yd (by rw[h2];exact Yp)];have:=le l λx hx=>h x (Yi _ hx);omega
  ·have ih:=mx (l:=l) (λx hx=>h x (Yi _ hx)) ⟨x,hx,h1,h2⟩;have h0:=h a Yl
   cases e:p a with
   |false=>simp only[Zl,Zv];omega
   |true=>rw[h0 e];simp only[ZR];omega
variable {ks:List Ky}
theorem ic {i:Nat}(hi:i<ks.length)(h:kR (cH ks i) (cH ks j)=true):rk ks i<rk ks j :=
 mx (λl _ hl=>iZ hl h) ⟨i,ZD.mpr hi,h,j0 _⟩
theorem x5 {i:Nat}(hi:i<ks.length)(hj:j<ks.length):decide (rk ks i<rk ks j)=kR (cH ks i) (cH ks j):=by
 cases e:kR (cH ks i) (cH ks j) with
 |true=>exact YD (ic hi e)
 |false =>
  refine Yu λz=>?_
  by_cases k:cH ks i=cH ks j
  ·unfold rk at z;rw[k] at z;exact Zh _ z
  ·rcases iO k with h|h
   ·rw[e] at h;cases h
   ·exact Nat.lt_asymm z (ic hj h)
theorem yz (nd:ks.Nodup):∀i j,i<ks.length->j<ks.length->i≠j->rk ks i≠rk ks j:=λi j hi hj F2 z=>by
 have k:cH ks i≠cH ks j:=λe=>by
  have e':ks[i]=ks[j]:=by
   unfold cH at e;simpa[hi,hj] using e
  have pw:=ZW.mp (show ks.Pairwise (· ≠ ·) from nd)
  rcases Nat.lt_or_gt_of_ne F2 with l|l
  ·exact pw i j _ _ l e'
  ·exact pw j i _ _ l e'.symm
 rcases iO k with h|h
 ·have:=ic hi h;omega
 ·have:=ic hj h;omega
noncomputable def tw (K:Frag)(H:Hp)(x:V)(k:Ky):Prop:=∃a b rest,x=.ref a/\aV K H a (.int k.1 :: .ref b::rest)/\aV K H b (k.2.map V.int)
noncomputable def cX (K:Frag)(H:Hp):List V->List Ky->Prop
 |[],[]=>True
 |x::xs,k::ks=>tw K H x k/\cX K H xs ks
 |_,_=>False
variable {K:Frag}{H:Hp}
theorem cX.len :∀{xs:List V}{ks:List Ky},cX K H xs ks->xs.length=ks.length
 |[],[],_=>rfl
 |_::_,_::_,⟨_,r⟩=>Ze (·+1) r.len
 |[],_::_,h=>h.elim
 |_::_,[],h=>h.elim
theorem cX.get :∀{xs:List V}{ks:List Ky}{i:Nat}{x:V},cX K H xs ks->xs[i]?=some x->tw K H x (cH ks i)
 |x::xs,k::ks,0,y,⟨h,_⟩,e=>by simp at e;subst e;exact h
 |x::xs,k::ks,i+1,y,⟨_,r⟩,e=>by
  have:=r.get (i:=i) (x:=y) (by simpa using e);simpa[cH] using this
 |[],[],i,y,_,e=>by simp at e
 |[],_::_,_,_,h,_=>h.elim
 |_::_,[],_,_,h,_=>h.elim
theorem gP :∀ns:List Int,bg K H (ns.map D.int) (ns.map V.int)
 |[]=>by unfold bg;rfl
 |n::ns=>by unfold bg;exact⟨_,_,rfl,by unfold aM;rfl,gP ns⟩
theorem adT (ns:List Int):iF (.tup (ns.map D.int))<=1:=by
 unfold iF
 have:∀ms:List Int,eW (ms.map D.int)=0:=λms=>by
  induction ms with
  |nil=>unfold eW;rfl
  |cons m ms ih=>rw[YF];unfold eW;rw[ih];unfold iF;rfl
 rw[this];omega
theorem kq:∀ns ms:List Int,eF (ns.map D.int) (ms.map D.int)=decide (ns=ms)
 |[],[]=>by simp;rfl
 |[],m::ms=>by simp;rfl
 |n::ns,[]=>by simp;rfl
 |n::ns,m::ms=>by
  show((n==m)&&eF (ns.map D.int) (ms.map D.int))=_;rw[kq ns ms]
  by_cases e:n=m
  ·subst e;simp
  ·simp[e]
variable {xs:List V}{us:m8}
section
variable {X:Cx}{pins:List (Addr×Obj)}{σ:L2.St}{H:Hp}{s:Ci}
theorem afb {A:Around}{x y:V}{u v:Value}{k j:Ky}{C:Bool->Shared->Prop}{E:ph}(I:Inv X pins σ H s)(hA:A.units+2<cLine)(hx:tw X.K H x k)(hy:tw X.K H y j)(rx:aG x u)(ry:aG y v)(ne:k≠j)(h:C (kR k j) s):
 wpAny (model X.prog X.w) A (keyLt' (tuples' true) u v) C E s:=by
 obtain⟨a,b,rest,rfl,h1,h2⟩:=hx;obtain⟨a',b',Q6,rfl,HX,JH⟩:=hy
 cases(show u=Value.ref a from rx)
 cases(show v=Value.ref a' from ry)
 obtain⟨its,r1,⟨o1,g1,_,n1,d1⟩,_⟩:=I.tuple h1;obtain⟨its',Nc,⟨XH,TL,_,XI,TM⟩,_⟩:=I.tuple HX;refine kat_lt g1 d1 TL TM ?_
 cases r1 with
 |cons q1 r1 =>
  cases r1 with
  |cons q2 r1 =>
   cases Nc with
   |cons TN Nc =>
    cases Nc with
    |cons TQ Nc =>
     obtain⟨t,rfl⟩:=q1;obtain⟨t',rfl⟩:=TN
     rename_i w2 _ TR _
     cases(show w2=Value.ref b from q2)
     cases(show TR=Value.ref b' from TQ)
     show KatLex _ _ _ _ _ _ ((Value.int k.1 t,Value.int j.1 t'):: (Value.ref b,Value.ref b'):: _) 0 s;refine kat_cons (yP k.1 t j.1 t' X.prog X.w _ _ ?_)
     have klt_def:kR k j=if k.1=j.1 then HT.cR k.2 j.2 else decide (k.1<j.1):=rfl
     refine kat_go (λe=>kat_yes ?_) λe=>kat_no ?_
     ·have e1:k.1=j.1:=by simpa using e
      have n2:k.2≠j.2:=λz=>ne (zD e1 z);have dd:=(iT I 1 A (.tup (k.2.map D.int)) (.tup (j.2.map D.int)) (.ref b) (.ref b') (.ref b) (.ref b') (adT _) (by omega) (by unfold aM;exact⟨b,_,rfl,h2,gP _⟩) (by unfold aM;exact⟨b',_,rfl,JH,gP _⟩) rfl rfl).2.1;have e2:gZ (.tup (k.2.map D.int)) (.tup (j.2.map D.int))=false:=(kq _ _).trans (Yu n2);rw[e2] at dd;refine kat_cons (dd X.prog X.w _ _ (kat_no ?_));rw[klt_def,Yh e1] at h;obtain⟨Fx,p2,t2,_⟩:=I.tuple h2;obtain⟨Q7,TU,TV,_⟩:=I.tuple JH;exact kat_one _ _ (HT.aby t2 TV (jQ p2) (jQ TU) (by omega) h)
     ·have e1:k.1≠j.1:=by simpa using e
      rw[klt_def,Yd e1] at h;exact oneLt_int h
theorem zO (I:Inv X pins σ H s)(xs:List V):∀(ks:List Ky)(us:m8),cX X.K H xs ks->aR xs us->∃fs:List Value,KatTups s.heap us fs/\fs.length=us.length/\∀f∈fs,∃i t,f=Value.int i t:=by
 induction xs with
 |nil =>
  intro ks us _ r
  cases r
  exact⟨[],.nil,rfl,λf hf=>by cases hf⟩
 |cons x xs ih =>
  intro ks us h r
  cases ks with
  |nil=>exact h.elim
  |cons k ks =>
   cases r with
   |cons rx rv =>
    rename_i u us
    obtain⟨⟨a,b,rest,e,h1,_⟩,hr⟩:=h;obtain⟨fs,t,hl,hf⟩:=ih ks us hr rv;subst e
    cases(show u=Value.ref a from rx)
    obtain⟨its,r1,⟨o1,g1,c1,n1,d1⟩,_⟩:=I.tuple h1
    cases r1 with
    |cons q1 r1 =>
     obtain⟨tk,rfl⟩:=q1;refine⟨Value.int k.1 tk::fs,.cons g1 c1 d1 rfl t,by simp[hl],λf TY=>?_⟩
     rcases Yn.mp TY with rfl|z
     ·exact⟨_,_,rfl⟩
     ·exact hf f z
theorem jF {A:Around}(I:Inv X pins σ H s)(hA:A.units+2<cLine)(hk:cX X.K H xs ks)(rv:aR xs us)(nd:ks.Nodup)(h2:2<=us.length):mE X.prog X.w A us (rk ks) s:=by
 obtain⟨fs,t,hl,hf⟩:=zO I xs ks us hk rv;have yV:=hk.len;have Fi:=rv.length;refine⟨tuples' true,λQ hq=>kat_kind (T:=Value.type "int") t (by omega) (λv hv=>?_) (by decide) hq,λi j C hi hj F2 hc=>?_⟩
 ·obtain⟨i,tk,rfl⟩:=hf v hv;exact .now
 ·have gi:∃x,xs[i]?=some x/\aG x (us.getD i .none):=by
   have Q8:i<xs.length:=by omega
   obtain⟨u,e,r⟩:=rv.get (i:=i) (x:=xs[i]) (by simp[Q8]);refine⟨xs[i],by simp[Q8],?_⟩;rw[Zt,e];exact r
  have gj:∃x,xs[j]?=some x/\aG x (us.getD j .none):=by
   have Jh:j<xs.length:=by omega
   obtain⟨u,e,r⟩:=rv.get (i:=j) (x:=xs[j]) (by simp[Jh]);refine⟨xs[j],by simp[Jh],?_⟩;rw[Zt,e];exact r
  obtain⟨x,ex,rx⟩:=gi;obtain⟨y,ey,ry⟩:=gj;rw[x5 (by omega) (by omega)] at hc
  have TZ:cH ks i≠cH ks j:=λz=>by
   have e':ks[i]'(by omega)=ks[j]'(by omega):=by
    unfold cH at z;simpa[show i<ks.length by omega,show j<ks.length by omega] using z
   have pw:=ZW.mp (show ks.Pairwise (· ≠ ·) from nd)
   rcases Nat.lt_or_gt_of_ne F2 with l|l
   ·exact pw i j _ _ l e'
   ·exact pw j i _ _ l e'.symm
  exact afb I hA (hk.get ex) (hk.get ey) rx ry TZ hc
end
section
variable {α:Type}
noncomputable def kU (k:Ky)(x:α):List (Ky×α)->List (Ky×α)
 |[]=>[(k,x)]
 |(j,y):: r=>if kR k j=true then(k,x):: (j,y):: r else(j,y):: kU k x r
noncomputable def cU:List (Ky×α)->List (Ky×α)
 |[]=>[]
 |(k,x):: r=>kU k x (cU r)
theorem iQ (k:Ky)(x:α):∀l:List (Ky×α),(kU k x l).Perm ((k,x):: l)
 |[]=>.refl _
 |(j,y):: r=>by
  unfold kU
  split
  ·exact .refl _
  ·exact((iQ k x r).cons _).trans (.swap _ _ _)
theorem cz:∀l:List (Ky×α),(cU l).Perm l
 |[]=>.refl _
 |(k,x):: r=>(iQ k x _).trans ((cz r).cons _)
noncomputable def Bp (l:List (Ky×α)):Prop:=l.Pairwise λa b=>kR a.1 b.1=true
theorem sQ {k:Ky}{x:α}:∀{l:List (Ky×α)},Bp l->(∀p∈l,p.1≠k)->Bp (kU k x l)
 |[],_,_=>Cn _ _
 |(j,y):: r,h,hn=>by
  obtain⟨h1,h2⟩:=YQ.mp h;unfold kU
  by_cases e:kR k j=true
  ·rw[Yh e];refine YQ.mpr ⟨λp hp=>?_,h⟩
   rcases Yn.mp hp with rfl|hp
   ·exact e
   ·exact iZ e (h1 p hp)
  ·rw[Yd e];have jk:kR j k=true:=(iO (hn _ Yl)).resolve_right e;refine YQ.mpr ⟨λp hp=>?_,sQ h2 λp hp=>hn p (Yi _ hp)⟩
   rcases Yn.mp ((iQ k x r).mem_iff.mp hp) with rfl|hp
   ·exact jk
   ·exact h1 p hp
theorem jY:∀{l:List (Ky×α)},(l.map (·.1)).Nodup->Bp (cU l)
 |[],_=>.nil
 |(k,x):: r,h=>by
  obtain⟨h1,h2⟩:=YT.mp h;exact sQ (jY h2) λp hp z=>h1 (z▸CD (f:=(·.1)) ((cz r).mem_iff.mp hp))
theorem mf:∀{l1 l2:List (Ky×α)},Bp l1->Bp l2->l1.Perm l2->l1=l2
 |[],l2,_,_,p=>(List.nil_perm.mp p).symm
 |a::l1,[],_,_,p=>(List.nil_perm.mp p.symm)
 |a::l1,b::l2,h1,h2,p=>by
  obtain⟨u1,v1⟩:=YQ.mp h1;obtain⟨u2,v2⟩:=YQ.mp h2
  have e:a=b:=by
   rcases Yn.mp (p.mem_iff.mp Yl) with z|z
   ·exact z
   ·rcases Yn.mp (p.mem_iff.mpr (Yl (a:=b) (l:=l2))) with w|w
    ·exact w.symm
    ·have c1:=u2 a z;have c2:=u1 b w;have c3:=iZ c1 c2;rw[j0] at c3
     cases c3
  subst e;rw[mf v1 v2 (List.Perm.cons_inv p)]
theorem pe {l1 l2:List (Ky×α)}(nd:(l2.map (·.1)).Nodup)(h:Bp l1)(p:l1.Perm l2):l1=cU l2:=mf h (jY nd) (p.trans (cz l2).symm)
theorem oI {l1 l2:List (Ky×α)}(nd:(l2.map (·.1)).Nodup)(p:l1.Perm l2):cU l1=cU l2:=by
 refine pe nd (jY ?_) ((cz l1).trans p);exact(p.map (·.1)).nodup_iff.mpr nd
end
noncomputable def D1 (xs:List V)(p:Array Nat):List V:=p.toList.map λi=>xs.getD i .non
theorem p3 (rv:aR xs us){r:Nat->Nat}(P:Pm n r p)(hn:n<=xs.length):aR (D1 xs p) (cP us p):=by
 have key:∀l:List Nat,(∀i∈l,i<xs.length)->aR (l.map λi=>xs.getD i .non) (l.map λi=>us.getD i Value.none):=by
  intro l
  induction l with
  |nil=>intro _;exact .nil
  |cons i l ih =>
   intro h;have hi:=h i Yl;obtain⟨u,e,r⟩:=rv.get (i:=i) (x:=xs[i]) (by simp[hi]);refine .cons ?_ (ih λj hj=>h j (Yi _ hj));show aG (xs.getD i .non) (us.getD i Value.none);rw[Zt,Zt,e,show xs[i]?=some xs[i] by simp[hi]];exact r
 refine key p.toList λi hi=>?_
 have z:i∈(List.range n):=by
  have pl:p.toList.Perm (List.range n):=by simpa using P.perm.toList
  exact pl.mem_iff.mp hi
 have:=ZD.mp z;omega
theorem pD (hl:xs.length=ks.length)(nd:ks.Nodup)(P:Pm xs.length (rk ks) p)(U:Up (rk ks) p xs.length):D1 xs p=(cU (ks.zip xs)).map (·.2):=by
 have pl:p.toList.Perm (List.range xs.length):=by simpa using P.perm.toList
 have e1:(List.range xs.length).map (λi=>(cH ks i,xs.getD i V.non))=ks.zip xs:=by
  apply xQ
  ·simp[hl]
  ·intro i h1 h2
   have hi:i<xs.length:=by simpa using h1
   have hk:i<ks.length:=by omega
   simp[cH,hi,hk]
 have z:p.toList.map (λi=>(cH ks i,xs.getD i V.non))=cU (ks.zip xs):=by
  refine pe ?_ ?_ ?_
  ·rw[List.map_fst_zip (by omega)];exact nd
  ·unfold Bp;rw[List.pairwise_map];refine ZW.mpr λi j hi hj GD=>?_;have sz:=P.size;rw[Yz] at hi hj;have u:=U i j GD (by omega)
   have gi:p.getD i 0=p.toList[i]:=by simp[Array.getD,hi]
   have gj:p.getD j 0=p.toList[j]:=by simp[Array.getD,hj]
   rw[gi,gj] at u
   have bi:p.toList[i]<ks.length:=by rw[<-gi,<-hl];exact P.lt i (by omega)
   have bj:p.toList[j]<ks.length:=by rw[<-gj,<-hl];exact P.lt j (by omega)
   rw[<-x5 bi bj];exact YD u
  ·exact(pl.map _).trans (by rw[e1])
 rw[<-z,CL];rfl
noncomputable def DX (K:Frag):List V->Hp->VK->Prop:=λvs H Q=>∃l xs ks,vs=[.ref l]/\bo K H l xs/\xs.length<64/\cX K H xs ks/\ks.Nodup/\∀D,H D=none->Q (.ref D) (upd H D (.lst ((cU (ks.zip xs)).map (·.2))))
section
variable {X:Cx}{k:Nat}
theorem pT (hr:xh (k+2) X.A):cT X (.builtin "sorted") (DX X.K):=by
 intro pins s σ H vs us Q I r h;obtain⟨l,xs,ks,rfl,hl,h64,hk,nd,q⟩:=h;obtain⟨u,rfl,ru⟩:=dj r
 cases(show u=Value.ref l from ru)
 obtain⟨its,rv,pl,hz⟩:=I.list hl;have ln:=rv.length;have lk:=hk.len;have inj:=yz nd;refine adS (r:=rk ks) pl.isList (by omega) (λi j hi hj=>inj i j (by omega) (by omega)) (λh2 h' kp=>?_) λh' D p c kp hD e pm up=>?_
 ·exact jF (s:={s with heap:=h'}) (I.kept (t':=s.toks) kp) (by have:=(hr.in1.in1).units;omega) hk rv nd h2
 ·have Q9:Pm xs.length (rk ks) p:=by rw[ln];exact pm
  have T1:Up (rk ks) p xs.length:=by rw[ln];exact up
  have hv:=p3 rv Q9 (Ye _);rw[pD lk nd Q9 T1] at hv
  have hlen:((cU (ks.zip xs)).map (·.2)).length<=sizeLine:=by
   rw[Yg,(cz _).length_eq,DN];exact Yq (ZP _ _) (cZ h64)
  exact⟨.ref D,_,I.newObj (t':=s.toks) (o:=.lst ((cU (ks.zip xs)).map (·.2))) kp hD ⟨hlen,_,c,hv,e⟩,rfl,q D (I.adA hD)⟩
end
noncomputable def lY (sp:Sp):List V->Hp->(List V->Hp->Prop)->Prop
 |[],H,R=>R [] H
 |x::xs,H,R=>sp [x] H (λk H1=>lY sp xs H1 λks H2=>R (k::ks) H2) λ_ _ _=>False
variable {b:Addr}{ob:Obj}
section
variable {X:Cx}{pins:List (Addr×Obj)}{σ:L2.St}{H:Hp}{s:Ci}
theorem uW {D:Addr}{o:HO}(I:Inv X pins σ H s)(f:c8 X pins H D)(hD:X.s₀.heap.objs.size<=D)(new:bE X.prog X.w (upd H D o) s.heap D o):Inv X pins σ (upd H D o) s:=by
 obtain⟨f0,f1,f2,f3,f4,f5⟩:=f;have u:=I.base;refine⟨I.ok,I.os,I.bare,⟨u.keep,u.slot,λb' o' e n hx=>?_,u.there,λb' xs e=>?_,λb' o' u' e=>?_,λb' ps e=>?_⟩,I.loc,I.cell,?_,λx c e=>?_,λp hp=>?_,eT I.hok f0 new,I.len⟩
 ·rw[aA (Yr (Ys (Ym e) hD))];exact u.free b' o' e n hx
 ·rw[aA (aB (u.acK b' xs e) f0)];exact u.acK b' xs e
 ·rw[aA (aB (u.acH b' o' u' e) f0)];exact u.acH b' o' u' e
 ·obtain⟨m,q⟩:=u.acO b' ps e;exact⟨m,by rw[aA (aB q f0)];exact q⟩
 ·rw[aA (YM f1)];exact I.free
 ·rw[aA (f4 x c e)];exact I.acI x c e
 ·obtain⟨e,n,r⟩:=I.pin p hp;exact⟨e,by rw[aA (f5 p hp)];exact n,r⟩
theorem zu {c:Addr}(f:c8 X pins H b)(h:c≠b):c8 X (pins++[(c,ob)]) H b:=by
 obtain⟨f0,f1,f2,f3,f4,f5⟩:=f;refine⟨f0,f1,f2,f3,f4,λp hp=>?_⟩;rw[<-qR] at hp
 rcases YI.mp hp with z|z
 ·exact f5 p z
 ·have e:p=(c,ob):=by simpa using z
  subst e;exact h
theorem nK {H':Hp}(f:c8 X pins H b)(h:H' b=none):c8 X pins H' b:=⟨h,f.2⟩
theorem ud (I:Inv X pins σ H s)(f:c8 X pins H b)(e:s.heap.get? b=some ob)(d:∀v,ob.data≠.cell v):Inv X (pins++[(b,ob)]) σ H s:=I.acM λp hp=>by
 rcases YI.mp hp with z|z
 ·exact I.pin p (Yx _ z)
 ·have e1:p=(b,ob):=by simpa using z
  subst e1;exact⟨e,f.1,f.2.1,f.2.2.1,d⟩
theorem lP (I:Inv X (pins++[(b,ob)]) σ H s):Inv X pins σ H s:=I.acM λp hp=>I.pin p (Yx _ (ZE _ hp))
theorem xu (I:Inv X (pins++[(b,ob)]) σ H s):s.heap.get? b=some ob/\H b=none:=by
 obtain⟨e,n,_⟩:=I.pin (b,ob) (Yx _ (Yx _ (by simp)));exact⟨e,n⟩
end
theorem kF {c:String}{xs:BC}:∀v,(seqObj c xs n).data≠.cell v:=λv z=>by cases z
variable {s:Ci}{Q:VK}
section
variable {X:Cx}{pins:List (Addr×Obj)}{σ:L2.St}{k:Nat}{f:Addr}{fd:BB}{ps:EG}{sp:Sp}{A:Around}{E:ph}
theorem xE {x:V}{u:Value}(F:yd X.prog X.w X.K X.mg X.base (cD X.prog X.w) k f fd ps sp)(hr:xh k A)(hA:∀H s,Inv X pins σ H s->Dm X.prog X.w X.K X.mg X.base A X.stack s H)(hb:ck X.K fd ps [])(I:Inv X pins σ H s)(r:aG x u)(h:sp [x] H Q λ_ _ _=>False):
 wpAny (model X.prog X.w) A (call (.ref f) [u]) (EP X pins σ Q) (λ_ _=>False) s:=by
 have hl:([u]:m8).length+([]:m8).length=ps.length:=by have:=F.len _ _ _ _ h;simpa using this
 have bd:=hb s [u] I.kIn hl;rw[Zc] at bd;refine qd (rC (F.run A X.stack s H ⟨[u],[]⟩ [u] [x] Q _ hr (hA H s I) bd (.cons r .nil) h) λres s' hq=>?_)
 cases res with
 |error e =>
  obtain⟨a,cls,a0,B,d,H',_,_,_,_,hE⟩:=hq;exact hE.elim
 |ok fl =>
  cases fl with
  |ret v=>exact I.after hq
  |next=>exact False.elim hq
  |brk=>exact False.elim hq
  |cont=>exact False.elim hq
end
noncomputable abbrev jR (X:Cx)(xs:List V)(Q:VK):List V->Hp->Prop:=λks H2=>∃kz,cX X.K H2 ks kz/\kz.Nodup/\∀D,H2 D=none->Q (.ref D) (upd H2 D (.lst ((cU (kz.zip xs)).map (·.2))))
section
variable {X:Cx}{pins:List (Addr×Obj)}{σ:L2.St}{k:Nat}{f:Addr}{fd:BB}{ps:EG}{sp:Sp}{A:Around}{E:ph}
theorem zj {ks:m8}(h:ks.length=vs.length):((ks.toArray.zip vs.toArray).map (·.2))=vs.toArray:=by
 apply uK.mp;rw[Array.toList_map,ksk_zip];simp only[List.toList_toArray] at *;exact List.map_snd_zip (by omega)
theorem u0 {D kS:Addr}{e1 c:Nat}{kV:List V}{ks:m8}{P:PySem.Fin->Shared->Prop}(hA:A.units+2<cLine)(hD:X.s₀.heap.objs.size<=D)(fD:c8 X pins H D)(fS:c8 X pins H kS)(ne:kS≠D)
 (I:Inv X pins σ H s)(eD:s.heap.get? D=some (seqObj "list" #[] e1))(eS:s.heap.get? kS=some (seqObj "list" ks.toArray c))(rx:aR xs us)(Ji:aR kV ks)(hl:kV.length=xs.length)(h64:xs.length<64)(w:jR X xs Q kV H)
 (hP:∀s',EP X pins σ Q (.ref D) s'->P (.done (.ret .none)) s'):wpAny (model X.prog X.w) A (ksk_end D false us.toArray e1 (.ref kS) ks.toArray) P E s:=by
 obtain⟨kz,hk,nd,q⟩:=w;have l1:=rx.length;have l2:=Ji.length;have l3:=hk.len;have inj:=yz nd
 have fin:∀p,Pm xs.length (rk kz) p->Up (rk kz) p xs.length->∀st:SortSt,(arrOf st).map (·.2)=(cP us p).toArray->failedOf st=none->wpAny (model X.prog X.w) A (ksk_tail D false e1 (.ref kS) st) P E s:=λp pm up st Ku hf=>by
  have N9:=p3 rx pm (Ye _);rw[pD (by omega) nd pm up] at N9
  have hlen:((cU (kz.zip xs)).map (·.2)).length<=sizeLine:=by
   rw[Yg,(cz _).length_eq,DN];exact Yq (ZP _ _) (cZ h64)
  have Oa:(cP us p).toArray.size<=sizeLine:=by rw[Yj,<-N9.length];exact hlen
  have Kv:=Y1 s.heap kS (Obj.mapSeq λ_=>(#[]:BC));have Im:(s.heap.update kS (Obj.mapSeq λ_=>(#[]:BC))).get? D=some (seqObj "list" #[] e1):=(Kv.2 D (YM ne)).trans eD;have I1:Inv X pins σ H {s with heap:=s.heap.update kS (Obj.mapSeq λ_=>(#[]:BC))}:=de I fS Kv;unfold ksk_tail;dsimp only;rw[Ku];refine X9 (rQ eS rfl (X9 (EC ?_)) (by rw[Yj,<-l2,hl];exact cZ h64) (Yt _));generalize s.heap.update kS (Obj.mapSeq λ_=>(#[]:BC))=h1 at Im I1 |-;have T2:=Y1 h1 D (Obj.mapSeq λ_=>(cP us p).toArray);obtain⟨c2,Gq⟩:∃c2,(h1.update D (Obj.mapSeq λ_=>(cP us p).toArray)).get? D=some (seqObj "list" (cP us p).toArray c2):=⟨_,xV Im λ_=>(cP us p).toArray⟩;have I2:Inv X pins σ H {s with heap:=h1.update D (Obj.mapSeq λ_=>(cP us p).toArray)}:=de (s:={s with heap:=h1}) I1 fD T2;have I3:=uW (o:=.lst ((cU (kz.zip xs)).map (·.2))) I2 fD hD ⟨hlen,_,c2,N9,Gq⟩;refine X9 (qg Im rfl (X9 (rQ Im rfl ?_ (Yt _) (qe Oa))));rw[hf];simp only[qa,Zl,Zv];exact Yb (hP _ ⟨.ref D,_,I3,rfl,q D fD.1⟩)
 have P0:Pm xs.length (rk kz) (List.range xs.length).toArray:=oZ (λi j hi hj=>inj i j (by omega) (by omega)) (xo _);unfold ksk_end;dsimp only;rw[Yd Yp];simp only[Zl,Zv]
 by_cases h2:us.toArray.size<2
 ·have small:xs.length<2:=by rw[l1];simpa using h2
  rw[Yh h2,Yh h2];refine X9 (Yb ?_);rw[StateT.run_pure];refine X9 (Yb ?_);refine fin (List.range xs.length).toArray P0 (λi j GD hj=>by omega) _ ?_ rfl;show(ks.toArray.zip us.toArray).map (·.2)=_;rw[zj (by omega),l1,oY]
 ·have big:2<=us.length:=by simpa using h2
  rw[Yd h2,Yd h2];obtain⟨κ,Gp,Jf⟩:=jF (A:=A) I hA hk Ji nd (by omega);refine X9 (YR (Gp (λκ' s0=>(kas_sort us.length).kasWp (kas_ask X.prog X.w A κ' ks) (λp s'=>s'=s/\Pm us.length (rk kz) p/\Up (rk kz) p us.length) s0) (uo (n:=us.length) (r:=rk kz) (λi j hi hj=>inj i j (by omega) (by omega)) (λi j C hi hj=>Jf i j C (by omega) (by omega)) (by omega) λp pm up=>⟨rfl,pm,up⟩)) (λκ' s0 hw=>?_) λ_ _ x=>x.elim);refine X9 (YR (kat_run (κ:=κ') (Q:=λF8 s'=>∃p:Array Nat,arrOf F8=p.map (kas_item (ks.toArray.zip us.toArray))/\failedOf F8=none/\s'=s/\Pm us.length (rk kz) p/\Up (rk kz) p us.length) (by omega) big (by omega) (λp' F8 s' _ a2 a3 a4=>⟨p',a2,a3,a4⟩) hw) ?_ λ_ _ e=>e);rintro⟨⟨⟩,F8⟩ s' ⟨p,Ku,hf,rfl,pm,up⟩;exact fin p (by rw[l1];exact pm) (by rw[l1];exact up) F8 (kat_snds (by omega) Ku) hf
theorem wA {α:Type}{l:List α}{x:α}(h:l[j]?=some x):l.drop j=x::l.drop (j+1):=by
 obtain⟨hj,e⟩:=YO.mp h;rw[y9 hj,e]
theorem lq {D:Addr}{P:PySem.Fin->Shared->Prop}(F:yd X.prog X.w X.K X.mg X.base (cD X.prog X.w) k f fd ps sp)(hr:xh k A)(hE:∀pins' H s,Inv X pins' σ H s->Dm X.prog X.w X.K X.mg X.base A X.stack s H)(hb:ck X.K fd ps [])
 (hD:X.s₀.heap.objs.size<=D)(fD:c8 X pins H D)(I:Inv X pins σ H s)(eD:s.heap.get? D=some (seqObj "list" us.toArray n))(rx:aR xs us)(h64:xs.length<64)(h:lY sp xs H (jR X xs Q))
 (hP:∀s',EP X pins σ Q (.ref D) s'->P (.done (.ret .none)) s'):wpAny (model X.prog X.w) A (ksk_tree D (.ref f) false) P E s:=by
 have l1:=rx.length
 have T3:us.toArray.size<=sizeLine:=by rw[Yj,<-l1];exact cZ h64
 obtain⟨e1,Im⟩:∃e1,(s.heap.update D (Obj.mapSeq λ_=>(#[]:BC))).get? D=some (seqObj "list" #[] e1):=⟨_,xV eD λ_=>#[]⟩;have I1:Inv X pins σ H {s with heap:=s.heap.update D (Obj.mapSeq λ_=>(#[]:BC))}:=de I fD (Y1 _ _ _);unfold ksk_tree;refine X9 (listItems_at eD rfl (X9 (rQ eD rfl (X9 (qg Im rfl (X9 (C3 ?_ (by show us.length<=_;rw[<-l1];exact cZ h64))))) T3 (Yt _))));refine X9 (vK (YY ?_) (Yt _));generalize s.heap.update D (Obj.mapSeq λ_=>(#[]:BC))=h1 at Im I1 |-;dsimp only;have I2:Inv X pins σ H {s with heap:=h1.push (seqObj "tuple" us.toArray 0)}:=I1.kept (t':=s.toks) λb o q=>Yc _ q;have Jj:(h1.push (seqObj "tuple" us.toArray 0)).get? D=some (seqObj "list" #[] e1):=Yc _ Im;show wpAny (model X.prog X.w) A (ksk_rest D (.ref f) false us.toArray e1 (.ref (h1.push (seqObj "tuple" us.toArray 0)).objs.size)) P E {s with heap:=(h1.push (seqObj "tuple" us.toArray 0)).push (seqObj "list" #[] 0)};generalize h1.push (seqObj "tuple" us.toArray 0)=h2 at I2 Jj |-;have ne:h2.objs.size≠D:=Zz (Ym Jj);have Ob:c8 X pins H h2.objs.size:=I2.ada (Ye _) (I2.hok.fresh (Ye _));have I3:Inv X pins σ H {s with heap:=h2.push (seqObj "list" #[] 0)}:=I2.kept (t':=s.toks) λb o q=>Yc _ q;have T4:(h2.push (seqObj "list" #[] 0)).get? D=some (seqObj "list" #[] e1):=Yc _ Jj;have Rb:(h2.push (seqObj "list" #[] 0)).get? h2.objs.size=some (seqObj "list" ([]:m8).toArray 0):=Yk _ rfl;have T5:∀{H':Hp},H' D=none->c8 X pins H' D:=λz=>nK fD z;have Oc:∀{H':Hp},H' h2.objs.size=none->c8 X pins H' h2.objs.size:=λz=>nK Ob z;generalize h2.objs.size=kS at ne Ob Rb Oc |-;unfold ksk_rest;refine X9 (Ej ?_);rw[List.forIn_toArray]
 let II:Nat->Shared->Prop:=λj s'=>∃(H':Hp)(c:Nat)(kV:List V)(ks:m8),Inv X (pins++[(D,seqObj "list" #[] e1)]) σ H' s'/\s'.heap.get? kS=some (seqObj "list" ks.toArray c)/\H' kS=none/\aR kV ks/\kV.length=j/\lY sp (xs.drop j) H' λk2 H2=>jR X xs Q (kV++k2) H2
 have I4:Inv X (pins++[(D,seqObj "list" #[] e1)]) σ H {s with heap:=h2.push (seqObj "list" #[] 0)}:=ud I3 fD T4 kF;refine X9 (YR (ksk_fold (E:=E) (Q:=λ_ s'=>II us.length s') II us 0 {s with heap:=h2.push (seqObj "list" #[] 0)} ⟨H,0,[],[],I4,Rb,Ob.1,.nil,rfl,by simpa using h⟩ (λj u s' hu hI=>?_) λs' hd=>by simpa using hd) (λ_ s' hI=>?_) λ_ _ e=>e)
 ·rw[zF] at hI |-;obtain⟨H',c,kV,ks,J,eS,nS,Ji,hl,t⟩:=hI;have hj:j<us.length:=(YO.mp hu).1;obtain⟨x,hx⟩:∃x,xs[j]?=some x:=⟨xs[j]'(by omega),by simp[show j<xs.length by omega]⟩;obtain⟨u',Rc,T6⟩:=rx.get hx;rw[hu] at Rc
  cases Rc
  rw[wA hx] at t;have Rf:c8 X (pins++[(D,seqObj "list" #[] e1)]) H' kS:=zu (Oc nS) (YM ne);have J2:=ud J Rf eS kF;refine X9 (ZN (YR (xE F hr (hE _) hb J2 T6 t) (λkv s2 hk=>?_) λ_ _ z=>z.elim));obtain⟨v,H2,J3,rv,t2⟩:=hk;obtain⟨Rg,Rh⟩:=xu J3;have J4:=lP J3;have T7:c8 X (pins++[(D,seqObj "list" #[] e1)]) H2 kS:=nK Rf Rh
  have ea:ks.toArray.push kv=(ks++[kv]).toArray:=by simp
  obtain⟨c2,Gq⟩:∃c2,(s2.heap.update kS (Obj.mapSeq (·.push kv))).get? kS=some (seqObj "list" (ks++[kv]).toArray c2):=⟨_,by rw[<-ea];exact xV Rg (·.push kv)⟩;have lk:=Ji.length;refine X9 (rQ Rg rfl ?_ (by rw[Yj];exact cZ (by omega)) (Yq (wk (Array.size_push ..)) (by rw[Yj];exact Nat.succ_le_succ (cZ (by omega)))));refine Yb ⟨rfl,H2,c2,kV++[v],ks++[kv],de J4 T7 (Y1 _ _ _),Gq,Rh,Ji.append (.cons rv .nil),by simp[hl],?_⟩
  have e:∀k2:List V,kV++[v]++k2=kV++v::k2:=λk2=>by simp
  simp only[e];exact t2
 ·obtain⟨H',c,kV,ks,J,eS,nS,Ji,hl,t⟩:=hI;rw[<-l1,List.drop_length] at t
  have w:jR X xs Q kV H':=by
   have z:jR X xs Q (kV++[]) H':=t;rwa[Zc] at z
  obtain⟨T8,nD⟩:=xu J;refine X9 (listItems_at eS rfl ?_);exact u0 (by have:=hr.units;omega) hD (T5 nD) (Oc nS) ne (lP J) T8 eS rx Ji (by omega) h64 w hP
theorem q9 {l:Addr}(F:yd X.prog X.w X.K X.mg X.base (cD X.prog X.w) k f fd ps sp)(hr:xh (k+2) X.A)(hb:ck X.K fd ps [])
 (I:Inv X pins σ H s)(hl:bo X.K H l xs)(h64:xs.length<64)(h:lY sp xs H (jR X xs Q)):wpAny (model X.prog X.w) X.A (call (.builtin "sorted") [.ref l] [(Str.ofString "key",.ref f)]) (EP X pins σ Q) E s:=by
 obtain⟨us,rx,pl,_⟩:=I.list hl;have l1:=rx.length;refine call_function_entry_kw kind_sorted plain_sorted entry_sorted (ksk_s1 _ _) ?_;unfold Builtin.«sorted»;refine X9 (m:=checkCount "sorted" 1 1 _) (Yb (X9 (collect_list pl.isList (X9 (vK ?_ (cZ (by omega)))) (cZ (by omega)))))
 have sz:((s.heap.push (seqObj "list" #[] 0)).update s.heap.objs.size (Obj.mapSeq (·++us.toArray))).objs.size=s.heap.objs.size+1:=by rw[Heap.size_update];exact size_push' _ _
 have Jg:(((s.heap.push (seqObj "list" #[] 0)).update s.heap.objs.size (Obj.mapSeq (·++us.toArray))).push (seqObj "list" us.toArray 0)).get? (s.heap.objs.size+1)=some (seqObj "list" us.toArray 0):=by
  rw[<-sz];exact Yk _ rfl
 have old:∀b o,s.heap.get? b=some o->(((s.heap.push (seqObj "list" #[] 0)).update s.heap.objs.size (Obj.mapSeq (·++us.toArray))).push (seqObj "list" us.toArray 0)).get? b=some o:=λb o q=>by
  have lt:b<s.heap.objs.size:=Ym q;refine Yc _ ?_;rw[m9 _ _ _ _ (Yr lt)];exact Yc _ q
 show wpAny _ _ _ _ _ {s with heap:=((s.heap.push (seqObj "list" #[] 0)).update s.heap.objs.size (Obj.mapSeq (·++us.toArray))).push (seqObj "list" us.toArray 0)};rw[sz];generalize ((s.heap.push (seqObj "list" #[] 0)).update s.heap.objs.size (Obj.mapSeq (·++us.toArray))).push (seqObj "list" us.toArray 0)=h5 at Jg old |-;have I5:Inv X pins σ H {s with heap:=h5}:=I.kept (t':=s.toks) old;have fD:c8 X pins H (s.heap.objs.size+1):=I.ada (vI _) (I.hok.fresh (vI _));refine X9 (YY (wpAny_call_entry_kw slot_list_sort ⟨_,Jg,rfl⟩ entry_list_sort ?body (ksk_l1 _ _)))
 case body =>
  show wpAny (model X.prog X.w) X.A.in1.in1 (Builtin.«list.sort» ⟨[.ref (s.heap.objs.size+1)],[(Str.ofString "key",.ref f)]⟩) _ _ _;rw[ksk_t1];exact lq (A:=X.A.in1.in1) F hr.in1.in1 (λpins' H' s' J=>J.aep.in1.in1) hb (Yq I.sz (vI _)) fD I5 Jg rx h64 h λs' q=>⟨_,rfl,Yb ⟨_,rfl,q⟩⟩
end
noncomputable def CY (X:Cx)(sp:Sp)(ta:TE):TE:=λσ H Q=>bq ta Bz σ H λvs H1=>∃l xs,vs=[.ref l]/\bo X.K H1 l xs/\xs.length<64/\lY sp xs H1 (jR X xs Q)
section
variable {X:Cx}{k:Nat}{f:Addr}{fd:BB}{ps:EG}{sp:Sp}{e:Expr}{ta:TE}{x:Str}{p p2 kpos pos:Pos}
theorem xa (F:yd X.prog X.w X.K X.mg X.base (cD X.prog X.w) k f fd ps sp)(hr:xh (k+2) X.A)(hb:ck X.K fd ps [])(hg:Gl X "sorted")(hm:X.mg "sorted"=none)(T9:Gl X x)(Ua:X.mg x=some (.ref f))(ha:PE X e ta)(hs:fV e=false:=by rfl)(hd:(x==("__debug__":Str))=false:=by decide):
 PE X (.Call (.Name "sorted" p) [e] [⟨some "key",.Name x p2,kpos⟩] pos) (CY X sp ta):=by
 intro pins s σ H Q I h;refine Y6 (eK I hg hm (by rfl) ?_ (by decide) (by decide));refine callWith_builtin_kwB (by rw[bz hs];rfl) rfl (evalArgs_kw2 rfl ?_ (bz hs));refine bU (aj ha ag hs pos pins s σ H _ I h) λus s1 z'=>?_;obtain⟨vs,H1,I1,r1,⟨l,xs,hv,hl,h64,ht⟩⟩:=z';subst hv
 cases r1 with
 |cons ra rb =>
  cases rb
  cases ra
  refine kwAll_cons (gm I1 T9 Ua (kwAll_nil ?_) hd);exact q9 F hr hb I1 hl h64 ht
end
end Srt
namespace K44
open PySem L2 PySem.W Nm Srt
variable {n:Nat}{p b:Int}
theorem B6 {t:Int}(hp:FP p)(h:B n t)(hb:b≠0)(hn:7<=n):B n (c7 p t b):=by
 unfold c7
 by_cases z:p=0
 ·rw[Yh z];exact h.le (aaX hb)
 ·rw[Yd z];obtain⟨_,p2,M9⟩:=hp.two z;have h0:=Zw t (b:=p) (by omega);have h1:=Zd t (b:=p) (by omega)
  have:B 7 (t%p):=by
   show(t%p).natAbs<2^7;omega
  exact this.mono hn
theorem Bv {n:Nat}{t:Int}(h:B n b)(hb:b≠0)(hn:1<=n):B n (c9 p t b):=by
 unfold c9
 by_cases z:p=0
 ·rw[Yh z];exact h.le (aaY hb)
 ·rw[Yd z];exact(show B 1 (1:Int) from(by show(1:Int).natAbs<2^1;decide)).mono hn
noncomputable abbrev Tm:=List Int×Int×Int
noncomputable def cV (p:Int)(a b:Int×Int):Int×Int:=(c7 p (je a.1 a.2 b.1 b.2) (a.2*b.2),c9 p (je a.1 a.2 b.1 b.2) (a.2*b.2))
noncomputable def Gn (p:Int)(n:Nat)(a:Int×Int):Prop:=Num p a.1 a.2/\B n a.1/\B n a.2
theorem Gn.ne {a:Int×Int}(h:Gn p n a):a.2≠0:=by have:=h.1.pos;omega
theorem mq {m:Nat}{a b:Int×Int}(hp:FP p)(ha:Gn p n a)(hb:Gn p m b)(h7:7<=n+m+1):Gn p (n+m+1) (cV p a b):=by
 have nz:a.2*b.2≠0:=zU ha.ne hb.ne;refine⟨Num.set hp.nn nz,B6 hp ?_ nz h7,(Bv (n:=n+m) (ha.2.2.mul hb.2.2) nz (by omega)).mono (by omega)⟩;have h1:B (n+m) (a.1*b.2):=ha.2.1.mul hb.2.2;have h2:B (n+m) (b.1*a.2):=(hb.2.1.mul ha.2.2).mono (by omega);exact h1.add h2
theorem vf {b:Int×Int}(hp:FP p)(hb:Gn p n b):cV p (0,1) b=b:=by
 obtain⟨h1,h2⟩:=hb.1.self hp.nn;unfold cV je
 have e1:(0:Int)*b.2+b.1*1=b.1:=by omega
 have e2:(1:Int)*b.2=b.2:=by omega
 rw[e1,e2,h1,h2]
noncomputable def cK (p:Int)(d:List Tm)(t:Tm):List Tm:=if d.any (λe=>decide (e.1=t.1))=true then d.map (λe=>if e.1=t.1 then(e.1,cV p e.2 t.2) else e) else d++[t]
noncomputable def aW (p:Int)(ts:List Tm):List Tm:=ts.foldl (cK p) []
noncomputable def mh (p:Int)(n:Nat)(d:List Tm):Prop:=∀e∈d,Gn p n e.2
variable {d:List Tm}
theorem va {m:Nat}{t:Tm}(hp:FP p)(hd:mh p n d)(ht:Gn p m t.2)(h7:7<=n+m+1):mh p (n+m+1) (cK p d t):=by
 have up:∀e∈d,Gn p (n+m+1) e.2:=λe he=>⟨(hd e he).1,(hd e he).2.1.mono (by omega),(hd e he).2.2.mono (by omega)⟩;unfold cK
 split
 ·intro e he;obtain⟨e0,h0,rfl⟩:=YG.mp he
  by_cases q:e0.1=t.1
  ·rw[Yh q];exact mq hp (hd e0 h0) ht h7
  ·rw[Yd q];exact up e0 h0
 ·intro e he
  rcases YI.mp he with he|he
  ·exact up e he
  ·have:e=t:=by simpa using he
   subst this;exact⟨ht.1,ht.2.1.mono (by omega),ht.2.2.mono (by omega)⟩
theorem me {t:Tm}(hd:(d.map (·.1)).Nodup):((cK p d t).map (·.1)).Nodup:=by
 unfold cK
 split
 ·rw[CL]
  have:((λe:Tm=>e.1) ∘ λe=>if e.1=t.1 then(e.1,cV p e.2 t.2) else e)=λe=>e.1:=by
   funext e
   show(if e.1=t.1 then(e.1,cV p e.2 t.2) else e).1=e.1
   split <;> rfl
  rw[this];exact hd
 ·rename_i q
  rw[Y2];refine CT.mpr ⟨hd,by simp,λa ha b hb z=>?_⟩
  have:b=t.1:=by simpa using hb
  subst this;subst z;obtain⟨e,he,e1⟩:=YG.mp ha;exact q (ZC.mpr ⟨e,he,by simpa using e1⟩)
theorem oN {p:Int}{d:List Tm}{t:Tm}:(cK p d t).length<=d.length+1:=by
 unfold cK
 split <;> simp
noncomputable def eC (t:Tm):Ky:=(t.1.length,t.1)
noncomputable def eu (d:List Tm):List Tm:=(cU ((d.filter λe=>e.2.1 != 0).map λe=>(eC e,e))).map (·.2)
theorem iW (p:Int)(ts:List Tm)(t:Tm):aW p (ts++[t])=cK p (aW p ts) t:=by
 unfold aW;rw[List.foldl_append];rfl
theorem eX {m:Nat}(hp:FP p):∀(n:Nat)(ts:List Tm),ts.length=n->(∀t∈ts,Gn p m t.2)->mh p ((m+1)*n+7) (aW p ts)/\((aW p ts).map (·.1)).Nodup/\(aW p ts).length<=n
 |0,ts,hn,_=>by
  have:ts=[]:=List.length_eq_zero_iff.mp hn;subst this;refine And.intro (λe he=>?_) (And.intro vB (Ye 0));exact absurd (show e∈([]:List Tm) from he) (by simp)
 |n+1,ts,hn,h=>by
  obtain⟨HZ,t,rfl⟩:∃HZ t,ts=HZ++[t]:=by
   have F2:ts≠[]:=by intro z;rw[z] at hn;cases hn
   exact⟨ts.dropLast,ts.getLast F2,(Ai F2).symm⟩
  have hl:HZ.length=n:=by simpa using hn
  obtain⟨g1,g2,g3⟩:=eX hp n HZ hl λt ht=>h t (ZE _ ht);rw[iW];have gt:=h t (Yx _ (by simp));have e2:(m+1)*(n+1)=(m+1)*n+(m+1):=Nat.mul_succ _ _;refine⟨λe he=>?_,me g2,Yq oN (by omega)⟩;have:=va hp g1 gt (by omega) e he;exact⟨this.1,this.2.1.mono (by omega),this.2.2.mono (by omega)⟩
noncomputable abbrev jl (ks:List Int):List Key:=ks.map Sum.inl
theorem iN (ks:List Int):(jl ks).map kV=ks.map V.int:=by unfold jl;rw[CL];rfl
theorem nQ {a b:List Int}(h:jl a=jl b):a=b:=by
 have e:(jl a).map kV=(jl b).map kV:=by rw[h]
 rw[iN,iN] at e
 have inj:∀{x y:List Int},x.map V.int=y.map V.int->x=y:=by
  intro x
  induction x with
  |nil=>intro y h;cases y with
   |nil=>rfl
   |cons c y=>simp at h
  |cons b x ih=>intro y h;cases y with
   |nil=>simp at h
   |cons c y =>
    rw[YF,YF] at h
    injection h with h1 h2
    injection h1 with h1
    rw[h1,ih h2]
 exact inj e
noncomputable def C5 (H:Hp)(y:V)(t:Tm):Prop:=∃a pr nu,y=.ref a/\H a=some (.tup [.ref pr,.ref nu])/\H pr=some (.tup (t.1.map V.int))/\H nu=some (cw t.2.1 t.2.2)
noncomputable abbrev bp (H:Hp):List V->List Tm->Prop:=Paired (C5 H)
noncomputable abbrev DR (H:Hp):List (List Key×V)->List Tm->Prop:=Paired λkv e=>kv.1=jl e.1/\∃a,kv.2=.ref a/\H a=some (cw e.2.1 e.2.2)
noncomputable def aI (H H':Hp):Prop:=∀b xs,H b=some (.tup xs)->H' b=some (.tup xs)
variable {H H':Hp}
theorem aI.of (s:aC H H'):aI H H':=λb xs e=>s b _ e
theorem aI.trans {H1 H2:Hp}(a:aI H H1)(b:aI H1 H2):aI H H2:=λc xs e=>b c xs (a c xs e)
theorem aI.upd {d:Addr}{o:HO}(h:∀xs,H d≠some (.tup xs)):aI H (upd H d o):=λb xs e=>by
 have:b≠d:=λz=>h xs (z▸e);rw[aA this];exact e
variable {y:V}
theorem C5.keep {t:Tm}(h:C5 H y t)(k:aI H H'):C5 H' y t:=let⟨a,pr,nu,e,h1,h2,h3⟩:=h;⟨a,pr,nu,e,k _ _ h1,k _ _ h2,k _ _ h3⟩
variable {ts:List Tm}
theorem bp.keep {ys:List V}(h:bp H ys ts)(k:aI H H'):bp H' ys ts:=Paired.adn h λ_ _ z=>z.keep k
variable {Ft:List (List Key×V)}
theorem DR.keep (h:DR H Ft d)(k:aI H H'):DR H' Ft d:=Paired.adn h λ_ _ z=>⟨z.1,let⟨a,e,h⟩:=z.2;⟨a,e,k _ _ h⟩⟩
theorem tK (k:List Int):∀{Ft:List (List Key×V)}{d:List Tm},DR H Ft d->d.any (λe=>decide (e.1=k))=false->iK Ft (jl k)=none
 |_,_,.nil,_=>rfl
 |_,_,.cons (a:=kv) (b:=e) h t,q=>by
  rw[yn,Bool.or_eq_false_iff] at q
  have ne:¬kv.1=jl k:=λz=>by
   have:e.1=k:=nQ (h.1.symm.trans z);simp[this] at q
  rw[gf ne];exact tK k t q.2
theorem ke (k:List Int):∀{Ft:List (List Key×V)}{d:List Tm},DR H Ft d->d.any (λe=>decide (e.1=k))=true->∃e∈d,e.1=k/\∃a,iK Ft (jl k)=some (.ref a)/\H a=some (cw e.2.1 e.2.2)
 |_,_,.nil,q=>by simp at q
 |_,_,.cons (a:=kv) (b:=e) h t,q=>by
  by_cases z:e.1=k
  ·obtain⟨a,e1,ha⟩:=h.2;refine⟨e,Yl,z,a,?_,ha⟩;rw[iy (by rw[h.1,z]),e1]
  ·have ne:¬kv.1=jl k:=λw=>z (nQ (h.1.symm.trans w));rw[yn,Yu z,Bool.false_or] at q;obtain⟨e',m,z',a,h1,h2⟩:=ke k t q;exact⟨e',Yi _ m,z',a,by rw[gf ne];exact h1,h2⟩
theorem Cf (k:List Int)(h:DR H Ft d):(Ft.any λkv=>decide (kv.1=jl k))=d.any λe=>decide (e.1=k):=by
 rw[kh]
 cases q:d.any λe=>decide (e.1=k) with
 |false=>rw[tK k h q];rfl
 |true =>
  obtain⟨_,_,_,a,e,_⟩:=ke k h q;rw[e];rfl
theorem v9 {t:Tm}{a:Addr}(h:DR H Ft d)(nd:(d.map (·.1)).Nodup)
 (IU:d.any (λe=>decide (e.1=t.1))=false->H a=some (cw t.2.1 t.2.2))(GK:∀e∈d,e.1=t.1->H a=some (cw (cV p e.2 t.2).1 (cV p e.2 t.2).2)):DR H (fH Ft (jl t.1) (.ref a)) (cK p d t):=by
 unfold fH cK;rw[Cf t.1 h]
 by_cases q:d.any (λe=>decide (e.1=t.1))=true
 ·rw[Yh q,Yh q]
  have go:∀{Ft:List (List Key×V)}{d:List Tm},DR H Ft d->(∀e∈d,e.1=t.1->H a=some (cw (cV p e.2 t.2).1 (cV p e.2 t.2).2)) →
   DR H (Ft.map λkv=>if kv.1=jl t.1 then(kv.1,V.ref a) else kv) (d.map λe=>if e.1=t.1 then(e.1,cV p e.2 t.2) else e):=by
   intro Ft d h
   induction h with
   |nil=>intro _;exact .nil
   |@cons kv e ks es h0 ht ih =>
    intro hy;rw[YF,YF];refine .cons ?_ (ih λe' m=>hy e' (Yi _ m))
    by_cases z:e.1=t.1
    ·rw[Yh z,Yh (by rw[h0.1,z])];exact⟨h0.1,a,rfl,hy e Yl z⟩
    ·rw[Yd z,Yd (λw=>z (nQ (h0.1.symm.trans w)))];exact h0
  exact go h GK
 ·have q':d.any (λe=>decide (e.1=t.1))=false:=Bool.eq_false_iff.mpr q;rw[Yd q,Yd q];exact vw h ⟨rfl,a,rfl,IU q'⟩
noncomputable abbrev wj:Stmt:=(ba 32)
structure zE (p:Int)(ts:List Tm):Prop where
 len:ts.length<4000
 num:∀t∈ts,Gn p 4000 t.2
 steps:∀i,i<=ts.length->mh p 4000 (aW p (ts.take i))
 few:(aW p ts).length<64
theorem zE.of {m:Nat}(hp:FP p)(h64:ts.length<64)(hG:∀t∈ts,Gn p m t.2)(hm:(m+1)*ts.length+7<=4000)(Kw:m<=4000):zE p ts:=by
 refine⟨by omega,λt ht=>⟨(hG t ht).1,(hG t ht).2.1.mono Kw,(hG t ht).2.2.mono Kw⟩,λi hi=>?_,?_⟩
 ·obtain⟨g1,g2,g3⟩:=eX (m:=m) hp i (ts.take i) (by simp;omega) λt ht=>hG t (Zq ht);intro e he;have b:=g1 e he;have le:(m+1)*i+7<=4000:=Yq (Nat.add_le_add_right (Ct _ hi) _) hm;exact⟨b.1,b.2.1.mono le,b.2.2.mono le⟩
 ·exact Yo (eX (m:=m) hp ts.length ts rfl hG).2.2 h64
noncomputable def rh (C:Addr):Sp:=λvs H Q _=>∃(s dx l:Addr)(p:Int)(ys:List V)(ts:List Tm),vs=[.ref s,.ref l]/\H s=some (.ins C dx (gE p))/\FP p/\H l=some (.lst ys)/\bp H ys ts/\zE p ts /\
 ∀H' D zs,aC H H'->H D=none->H' D=some (.lst zs)->bp H' zs (eu (aW p ts))->Q (.ref D) H'
theorem none_of {a:Addr}(s:aC H H')(h:H' a=none):H a=none:=by
 cases e:H a with
 |none=>rfl
 |some o=>rw[s _ _ e] at h;cases h
theorem iH:CN ["field","terms","totals","product","number","kept"] n6 (ar wj):=fe (by decide +kernel)
theorem lG {α β:Type}{R:α->β->Prop}{k:Ky}{x:α}{y:β}(h:R x y):∀{l:List (Ky×α)}{m:List (Ky×β)},Paired (λa b=>a.1=b.1/\R a.2 b.2) l m->Paired (λa b=>a.1=b.1/\R a.2 b.2) (kU k x l) (kU k y m)
 |_,_,.nil=>.cons ⟨rfl,h⟩ .nil
 |_,_,.cons (a:=(j,u)) (b:=(j',v)) (l₁:=r) (l₂:=r') h0 t=>by
  obtain⟨e,h1⟩:=h0;have e:j=j':=e;subst e;show Paired _ (if kR k j=true then(k,x):: (j,u):: r else(j,u):: kU k x r) (if kR k j=true then(k,y):: (j,v):: r' else(j,v):: kU k y r')
  by_cases z:kR k j=true
  ·rw[Yh z,Yh z];exact .cons ⟨rfl,h⟩ (.cons ⟨rfl,h1⟩ t)
  ·rw[Yd z,Yd z];exact .cons ⟨rfl,h1⟩ (lG h t)
theorem gY {α β:Type}{R:α->β->Prop}:∀{l:List (Ky×α)}{m:List (Ky×β)},Paired (λa b=>a.1=b.1/\R a.2 b.2) l m->Paired (λa b=>a.1=b.1/\R a.2 b.2) (cU l) (cU m)
 |_,_,.nil=>.nil
 |_,_,.cons (a:=(j,u)) (b:=(j',v)) (l₁:=r) (l₂:=r') h0 t=>by
  obtain⟨e,h1⟩:=h0;have e:j=j':=e;subst e;exact lG h1 (gY t)
theorem kj {α β:Type}{R:α->β->Prop}:∀{l:List (Ky×α)}{m:List (Ky×β)},Paired (λa b=>a.1=b.1/\R a.2 b.2) l m->Paired R (l.map (·.2)) (m.map (·.2))
 |_,_,.nil=>.nil
 |_,_,.cons h t=>.cons h.2 (kj t)
theorem jT {R:V->Tm->Prop}:∀{xs:List V}{es:List Tm},Paired R xs es->Paired (λa b=>a.1=b.1/\R a.2 b.2) ((es.map eC).zip xs) (es.map λe=>(eC e,e))
 |_,_,.nil=>.nil
 |_,_,.cons h t=>.cons ⟨rfl,h⟩ (jT t)
theorem lC:∀{xs:List V}{es:List Tm}{H:Hp}{R:List V->Hp->Prop},bp H xs es →
 (∀ks H2,aC H H2->Paired (λx e=>∃a b,x=.ref a/\H2 a=some (.tup [.int e.1.length,.ref b])/\H2 b=some (.tup (e.1.map V.int))) ks es->R ks H2)->lY vp xs H R
 |_,_,H,R,.nil,h=>h [] H (aC.refl _) .nil
 |_,_,H,R,.cons (b:=e) h0 t,h=>by
  obtain⟨a,pr,nu,rfl,ha,Gd,Gw⟩:=h0;refine⟨a,pr,.ref nu,_,rfl,ha,Gd,λtt Od=>?_⟩;rw[Yg];have sU:aC H (upd H tt (.tup [.int e.1.length,.ref pr])):=aq Od;refine lC (bp.keep t (aI.of sU)) λks H2 s2 hk=>h _ H2 (λb u z=>s2 _ _ (sU _ _ z)) (.cons ⟨tt,pr,rfl,s2 _ _ ai,s2 _ _ (sU _ _ Gd)⟩ hk)
theorem pP {K:Frag}:∀{ks:List V}{es:List Tm},Paired (λx e=>∃a b,x=.ref a/\H a=some (.tup [.int e.1.length,.ref b])/\H b=some (.tup (e.1.map V.int))) ks es->cX K H ks (es.map eC)
 |_,_,.nil=>True.intro
 |_,_,.cons h t=>by
  obtain⟨a,b,rfl,h1,h2⟩:=h;exact⟨⟨a,b,[],rfl,aV.of h1,aV.of h2⟩,pP t⟩
theorem r6 (h:(d.map (·.1)).Nodup)(f:Tm->Bool):((d.filter f).map eC).Nodup:=by
 have h1:((d.filter f).map (·.1)).Nodup:=h.sublist (yU.map _)
 have e:(d.filter f).map eC=((d.filter f).map (·.1)).map λk=>((k.length:Int),k):=by rw[CL];rfl
 rw[e];unfold List.Nodup at h1 |-;rw[List.pairwise_map];exact h1.imp λh z=>h (En z).2
theorem gX (h:(d.map (·.1)).Nodup):∀{e e':Tm},e∈d->e'∈d->e.1=e'.1->e=e':=by
 induction d with
 |nil=>intro e e' h1;exact nomatch h1
 |cons a d ih =>
  rw[YF,YT] at h;intro e e' h1 h2 z
  rcases Yn.mp h1 with h3|h3
  ·rcases Yn.mp h2 with h4|h4
   ·rw[h3,h4]
   ·exact absurd (by rw[<-h3,z];exact CD (f:=(·.1)) h4) h.1
  ·rcases Yn.mp h2 with h4|h4
   ·exact absurd (by rw[<-h4,<-z];exact CD (f:=(·.1)) h3) h.1
   ·exact ih h.2 h3 h4 z
variable {P:wu}{w:World}{K:PySem.W.Frag}{mg:vx}{base:Heap}
variable {f:Addr}{fd:BB}
theorem yT {fo C:Addr}{Ri:BB}(F:vP K "gathered" "gathered" wj f fd)(c:Bg K mg C)(Fw:mg "sorted"=none)
 (q0:Cm P w K mg base 4 Ez C "plus" (yu C je))
 (Ub:yd P w K mg base (cD P w) 1 fo Ri ["term"] vp)(Uc:L2.ck K Ri ["term"] [])(Ud:mg "place_of_term"=some (.ref fo)):yd P w K mg base (cD P w) 5 f fd n6 (rh C):=by
 obtain⟨fp,Kr,Ue,Ug,Uh⟩:=q0;refine F.okN iH (λvs H Q E h=>?_) (λFv A outer s H vs Q E hr h=>?_)
 ·obtain⟨s,dx,l,p,ys,ts,rfl,_⟩:=h;rfl
 ·obtain⟨s0,dx,l,p,ys,ts,rfl,hs,hp,hl,Kx,G,q⟩:=h;have h64:=G.len;have hG:=G.num;have GW:xh 4 _:=hr.mono (by decide);have Oe:xh 3 _:=hr.mono (by decide);have hu:=(hr.units:_+64<cLine)
  replace hu:=Yo (Nat.add_le_add_left (by decide:1<=64) _) hu
  refine⟨_,(au (@aX _ _ 2 _ _ _ _ iH.nd rfl (Or.inl rfl) oa rfl (Or.inl rfl))
   (au (dW Y4 rfl (dM (pv 1)) (cY rfl (aO (aD (i:=3) iH.nd rfl (Or.inl rfl)) (aO (aD (i:=4) iH.nd rfl (Or.inl rfl)) cu)))
   (au (bF (adX (aaw hu (pv 3) (pv 2))) (ax (@aX _ _ 4 _ _ _ _ iH.nd rfl (Or.inl rfl) (fJ (pv 0) c.cl Uh Ue GW Ug .nil ao (aj (nX hu (pv 2) (pv 3) (λ_ _=>rfl)) (aj (pv 4) ag rfl) rfl)) rfl (Or.inl rfl))) aS)
   (ax (uk hu (pv 2) (pv 3) (pv 4) (by rfl)))))
   (au (uy (i:=5) (g:=kZ K 2 (cS (bw 0) (cS (bw 1) rM))) (N:=["product","number"]) (nl:=2) (js:=[]) (osc:=ar wj) ⟨rfl,rfl,by decide +kernel,by decide +kernel,by decide +kernel,rfl,.nil,by decide +kernel⟩ rfl iH.nd rfl (Or.inl rfl)
    (acx (pv 2))
    (λC fp s H=>(cY (X:=fK _ ["product","number"] _ C fp s H) rfl (aO (aD (X:=fK _ ["product","number"] _ C fp s H) (i:=0) (by show(["product","number"]:EG).Nodup;decide +kernel) rfl (Or.inl rfl) (Or.inr rfl)) (aO (aD (X:=fK _ ["product","number"] _ C fp s H) (i:=1) (by show(["product","number"]:EG).Nodup;decide +kernel) rfl (Or.inl rfl) (Or.inr rfl)) cu))))
    (λC fp s H=>(dI (aN fW (aY (show AZ _ (yj K) from bH) (pv 1) ak (λ_ _=>rfl)) ak (aU _))))
    (λC fp s H=>(aJ (aj (pv 0) (aj (pv 1) ag rfl) rfl))) (by rfl))
   (ax (aF (xa Ub Oe Uc (by rfl) Fw (by rfl) Ud (pv 5))))))),?_⟩
  have hlen:=Kx.length
  have gg:∀i,i<=ts.length->mh p 4000 (aW p (ts.take i))/\((aW p (ts.take i)).map (·.1)).Nodup/\(aW p (ts.take i)).length<=i:=λi hi=>by
   obtain⟨_,g2,g3⟩:=eX (m:=4000) hp i (ts.take i) (by simp;omega) λt ht=>hG t (Zq ht);exact⟨G.steps i hi,g2,g3⟩
  refine λdd Gs=>?_;have s1:aC H (upd H dd (.dT [])):=aq Gs;refine⟨_,rfl,l,rfl,⟨ys,bo.of (s1 _ _ hl)⟩,?_⟩
  refine⟨λi m σ' H'=>m=ts.length-i/\i<=ts.length/\aC H H'/\(∃Ft,H' dd=some (.dT Ft)/\DR H' Ft (aW p (ts.take i)))/\∃o3 o4,σ'=[some (.ref s0),some (.ref l),some (.ref dd),o3,o4,none],
   ⟨ts.length,by simp,Yt _,s1,⟨[],ai,.nil⟩,none,none,rfl⟩,?_⟩
  rintro i m' σ' H' ⟨rfl,hi,sH,⟨Ft,hd,dr⟩,o3,o4,rfl⟩;have GG:=sH _ _ hl;have Il:=sH _ _ hs;obtain⟨gd,HP,gl⟩:=gg i hi
  by_cases Fy:i<ts.length
  ·have Of:i<ys.length:=by omega
   refine .inr ⟨⟨ys,ys[i],bo.of GG,by simp[Of]⟩,λσ' H'=>i+1<=ts.length/\aC H H'/\(∃Ft,H' dd=some (.dT Ft)/\DR H' Ft (aW p (ts.take (i+1))))/\∃o3 o4,σ'=[some (.ref s0),some (.ref l),some (.ref dd),o3,o4,none],?_,λy H2 hy=>?_⟩
   ·rintro σ' H' ⟨h1,h2,h3,h4⟩;exact⟨ts.length-(i+1),by omega,rfl,h1,h2,h3,h4⟩
   ·obtain⟨rfl,hy⟩:=hy;obtain⟨t,et,tr⟩:=bK Kx (hy ys (bo.of GG));obtain⟨a,pr,nu,rfl,ha,Gd,Gw⟩:=tr.keep (aI.of sH);have gt:=hG t (YA et)
    have F5:ts.take (i+1)=ts.take i++[t]:=by rw[YE,et];rfl
    have Gx:∀H3:Hp,aI H2 H3->H3 pr=some (.tup ((jl t.1).map kV)):=λH3 k=>by rw[iN];exact k _ _ Gd
    have fin:∀(H3:Hp)(an:Addr),aC H H3->aI H2 H3->H3 dd=some (.dT Ft)->((aW p (ts.take i)).any (λe=>decide (e.1=t.1))=false->H3 an=some (cw t.2.1 t.2.2)) →
     (∀e∈aW p (ts.take i),e.1=t.1->H3 an=some (cw (cV p e.2 t.2).1 (cV p e.2 t.2).2)) →
     aC H (upd H3 dd (.dT (fH Ft (jl t.1) (.ref an))))/\∃Hm,(upd H3 dd (.dT (fH Ft (jl t.1) (.ref an)))) dd=some (.dT Hm)/\DR (upd H3 dd (.dT (fH Ft (jl t.1) (.ref an)))) Hm (aW p (ts.take (i+1))):=by
     intro H3 an s3 k3 h3 IU GK;refine⟨λb u e=>by rw[aA (aB e Gs)];exact s3 b u e,_,ai,?_⟩;rw[F5,iW];exact(v9 (dr.keep k3) HP IU GK).keep (aI.upd λxs z=>by rw[h3] at z;cases z)
    have Hn:Ft.length<sizeLine:=by
     rw[dr.length];exact Yo gl (YX (Yo hi h64) (by decide))
    refine⟨a,_,rfl,aV.of ha,rfl,_,_,rfl,_,_,rfl,rfl,?_⟩;refine⟨_,rfl,_,rfl,dd,_,rfl,iS.t hd (Gx _ λ_ _ e=>e),_,rfl,?_⟩
    cases hq:(aW p (ts.take i)).any (λe=>decide (e.1=t.1)) with
    |false =>
     rw[tK t.1 dr hq];refine b7 ?_;refine⟨_,rfl,_,rfl,_,rfl,dd,_,rfl,oE.t hd (Gx _ λ_ _ e=>e) Hn,?_⟩
     obtain⟨f1,f2⟩:=fin H2 nu sH (λ_ _ e=>e) hd (λ_=>Gw) λe he z=>by
      have:(aW p (ts.take i)).any (λe=>decide (e.1=t.1))=true:=ZC.mpr ⟨e,he,by simpa using z⟩;rw[hq] at this;cases this
     exact⟨Fy,f1,f2,_,_,rfl⟩
    |true =>
     obtain⟨e,he,ek,a0,hv,JK⟩:=ke t.1 dr hq;rw[hv];refine bA ?_;have ge:=gd e he
     refine⟨_,rfl,s0,dx,_,rfl,Il,rfl,_,rfl,_,rfl,dd,_,rfl,(by rw[<-hv];exact iS.t hd (Gx _ λ_ _ e=>e)),_,rfl,s0,dx,a0,nu,p,e.2.1,e.2.2,t.2.1,t.2.2,rfl,Il,hp,JK,Gw,
      ge.2.1,ge.2.2,gt.2.1,gt.2.2,ge.ne,gt.ne,λa1 Gu=>?_⟩
     have sU:aC H2 (upd H2 a1 (cw (cV p e.2 t.2).1 (cV p e.2 t.2).2)):=aq Gu;refine⟨_,rfl,_,rfl,_,rfl,dd,_,rfl,oE.t (sU _ _ hd) (Gx _ (aI.of sU)) Hn,?_⟩
     obtain⟨f1,f2⟩:=fin _ a1 (λb u z=>sU _ _ (sH _ _ z)) (aI.of sU) (sU _ _ hd) (λz=>by rw[hq] at z;cases z) λe' Ho z=>by
      have:e'=e:=gX HP Ho he (z.trans ek.symm);subst this;exact ai
     exact⟨Fy,f1,f2,_,_,rfl⟩
  ·have ei:i=ts.length:=by omega
   subst ei;refine .inl ⟨⟨ys,bo.of GG,by omega⟩,?_⟩;rw[Yv] at dr gd HP gl;refine⟨_,rfl,dd,Ft,rfl,.inr ⟨hd,λo=>?_⟩⟩
   have sF:aC H (upd H' dd (nZ o Ft)):=λb u e=>by rw[aA (aB e Gs)];exact sH b u e
   have Og:DR (upd H' dd (nZ o Ft)) Ft (aW p ts):=dr.keep (aI.upd λxs z=>by rw[hd] at z;cases z);have kl:Ft.length=(aW p ts).length:=dr.length
   refine⟨λi m xs σ' H2=>m=(aW p ts).length-i/\i<=(aW p ts).length/\aC H H2/\H2 dd=some (nZ o Ft)/\DR H2 Ft (aW p ts)/\bp H2 xs (((aW p ts).take i).filter λe=>e.2.1 != 0)/\∃o1 o2,σ'=[o1,o2],
    ⟨(aW p ts).length,by simp,Yt _,sF,ai,Og,.nil,none,none,rfl⟩,?_⟩
   rintro i m' xs σ' H2 ⟨rfl,Ui,s2,hd2,Io,GR,o1,o2,rfl⟩
   have xl:xs.length<=(aW p ts).length:=by
    rw[GR.length];exact Yq (Zx _ _) (by simp;omega)
   refine⟨Yo (Yq xl gl) (YX h64 (by decide)),?_⟩
   by_cases Hr:i<(aW p ts).length
   ·refine .inr ⟨⟨by omega,hd2⟩,λx H3 hx=>?_⟩;obtain⟨pp,b,k,v,hk,Kk,hb,rfl,rfl⟩:=hx;obtain⟨e,ee,ek,a,ev,ha⟩:=bK Io hk;have ek:k=jl e.1:=ek;have ev:v=.ref a:=ev;subst ek;subst ev;have sP:aC H2 (upd H2 pp (.tup [.ref b,.ref a])):=aq Kk
    have F5:(aW p ts).take (i+1)=(aW p ts).take i++[e]:=by rw[YE,ee];rfl
    rw[iN] at hb;refine⟨pp,_,rfl,aV.of ai,rfl,_,_,rfl,_,_,rfl,rfl,?_⟩;refine⟨_,rfl,a,_,0,_,rfl,rfl,aV.of (sP _ _ ha),rfl,rfl,_,rfl,?_⟩;have dP:upd H2 pp (.tup [.ref b,.ref a]) dd=some (nZ o Ft):=sP _ _ hd2
    cases hz:(e.2.1 != 0) with
    |true =>
     have z:(!decide (V.int e.2.1=V.int 0))=true:=by
      have:e.2.1≠0:=by simpa using hz
      simp[this]
     rw[z];refine bA ⟨_,rfl,_,rfl,hJ,λt' Kz=>?_⟩;have sT:aC (upd H2 pp (.tup [.ref b,.ref a])) (upd (upd H2 pp (.tup [.ref b,.ref a])) t' (.tup [.ref b,.ref a])):=aq Kz;have sA:aC H2 (upd (upd H2 pp (.tup [.ref b,.ref a])) t' (.tup [.ref b,.ref a])):=λc u e=>sT _ _ (sP _ _ e);refine⟨(aW p ts).length-(i+1),by omega,rfl,Hr,λc u e=>sA _ _ (s2 _ _ e),sA _ _ hd2,Io.keep (aI.of sA),?_,_,_,rfl⟩;rw[F5,ZV]
     have ef:[e].filter (λe=>e.2.1 != 0)=[e]:=by simp[hz]
     rw[ef];exact vw (bp.keep GR (aI.of sA)) ⟨t',b,a,rfl,ai,sA _ _ hb,sA _ _ ha⟩
    |false =>
     have z:(!decide (V.int e.2.1=V.int 0))=false:=by
      have:e.2.1=0:=by simpa using hz
      simp[this]
     rw[z];refine b7 ⟨(aW p ts).length-(i+1),by omega,rfl,Hr,λc u e=>sP _ _ (s2 _ _ e),sP _ _ hd2,Io.keep (aI.of sP),?_,_,_,rfl⟩;rw[F5,ZV]
     have ef:[e].filter (λe=>e.2.1 != 0)=[]:=by simp[hz]
     rw[ef,Zc];exact bp.keep GR (aI.of sP)
   ·have Oh:i=(aW p ts).length:=by omega
    subst Oh;refine .inl ⟨⟨by omega,hd2⟩,λD hD=>?_⟩;rw[Yv] at GR;have sD:aC H2 (upd H2 D (.lst xs)):=aq hD;refine⟨_,rfl,D,xs,rfl,bo.of ai,Yo xl G.few,?_⟩;refine lC (bp.keep GR (aI.of sD)) λks H3 s3 hk=>?_;refine⟨_,pP hk,r6 HP _,λD2 Nd=>?_⟩;have sE:aC H3 (upd H3 D2 (.lst ((cU ((((aW p ts).filter λe=>e.2.1 != 0).map eC).zip xs)).map (·.2)))):=aq Nd;refine q _ D2 _ (λc u e=>sE _ _ (s3 _ _ (sD _ _ (s2 _ _ e)))) (none_of (λc u e=>s3 _ _ (sD _ _ (s2 _ _ e))) Nd) ai ?_;have Nf:bp H3 xs ((aW p ts).filter λe=>e.2.1 != 0):=bp.keep GR (aI.of λc u e=>s3 _ _ (sD _ _ e));exact bp.keep (kj (gY (jT Nf))) (aI.of sE)
noncomputable abbrev nY:Stmt:=(ba 47)
noncomputable def uN:Sp:=λvs H Q _=>∃(l:Addr)(p:Int)(ys:List V)(ts:List Tm),vs=[.int p,.ref l]/\FP p/\H l=some (.lst ys)/\bp H ys ts/\zE p ts /\
 ∀H' D zs,aC H H'->H' D=some (.lst zs)->bp H' zs (eu (aW p ts))->Q (.ref D) H'
theorem il:CN ["_law_prime","_law_terms","_law_found","_law_product","_law_number","_law_rows"] zP (ar nY):=fe (by decide +kernel)
noncomputable def y3 (H:Hp)(x:V)(e:Tm):Prop:=∃t b a,x=.ref t/\H t=some (.tup [.int e.1.length,.ref b,.ref a])/\H b=some (.tup (e.1.map V.int))/\H a=some (cw e.2.1 e.2.2)
theorem y3.keep {t:Tm}(h:y3 H y t)(k:aI H H'):y3 H' y t:=let⟨a,pr,nu,e,h1,h2,h3⟩:=h;⟨a,pr,nu,e,k _ _ h1,k _ _ h2,k _ _ h3⟩
noncomputable abbrev gL (H:Hp):List V->List Tm->Prop:=Paired (y3 H)
theorem gL.keep {ys:List V}(h:gL H ys ts)(k:aI H H'):gL H' ys ts:=Paired.adn h λ_ _ z=>z.keep k
theorem mr {K:Frag}:∀{ks:List V}{es:List Tm},gL H ks es->cX K H ks (es.map eC)
 |_,_,.nil=>True.intro
 |_,_,.cons h t=>by
  obtain⟨t0,b,a,rfl,h1,h2,h3⟩:=h;exact⟨⟨t0,b,[.ref a],rfl,aV.of h1,aV.of h2⟩,mr t⟩
theorem wm (F:vP K "_law_gather" "_law_gather" nY f fd)(Fw:mg "sorted"=none)(Fz:mg "len"=none)
 (q0:Ca P w K mg base 3 vv "_law_plus" (nA je)):
 yd P w K mg base (cD P w) 4 f fd zP uN:=by
 obtain⟨fl,Kj,Uj,Uk,Ul,Um⟩:=q0;refine F.okN il (λvs H Q E h=>?_) (λFv A outer s H vs Q E hr h=>?_)
 ·obtain⟨l,p,ys,ts,rfl,_⟩:=h;rfl
 ·obtain⟨l,p,ys,ts,rfl,hp,hl,Kx,G,q⟩:=h;have h64:=G.len;have hG:=G.num;have GZ:xh 3 _:=hr.mono (by decide);have Oe:xh (1+2) _:=hr.mono (by decide);have FN:xh 1 _:=hr.mono (by decide);have hu:=(hr.units:_+64<cLine)
  replace hu:=Yo (Nat.add_le_add_left (by decide:1<=64) _) hu
  refine⟨_,(au (@aX _ _ 2 _ _ _ _ il.nd rfl (Or.inr rfl) oa rfl (Or.inl rfl))
   (au (dW Y4 rfl (dM (pv 1)) (cY rfl (aO (aD (i:=3) il.nd rfl (Or.inl rfl)) (aO (aD (i:=4) il.nd rfl (Or.inl rfl)) cu)))
   (ax (uk hu (pv 2) (pv 3) (aH Uj GZ (by rfl) Ul Um Uk .nil ao (aj (pv 0) (aj (aaO hu (pv 2) (pv 3) (aJ (aj ak (aj ak ag rfl) rfl)) ⟨rfl,rfl,rfl,rfl⟩) (aj (pv 4) ag rfl) rfl) rfl)) (by rfl))))
   (au (uy (i:=5) (N:=["_law_product","_law_found"]) (nl:=1) (js:=[2]) (osc:=ar nY) ⟨rfl,rfl,by decide +kernel,by decide +kernel,by decide +kernel,rfl,(.cons ⟨rfl,by decide +kernel⟩ .nil),by decide +kernel⟩ rfl il.nd rfl (Or.inl rfl)
    (acy (pv 2))
    (λC fp s H=>aD (i:=0) (by show(["_law_product","_law_found"]:EG).Nodup;decide +kernel) rfl (Or.inl rfl) (Or.inr rfl))
    (λC fp s H=>(dI (aN (show eA _ _ (y7 K true) from ng FN) (nX hu (pv 1) (pv 0) (λ_ _=>rfl)) (aJ (aj ak (aj ak ag rfl) rfl)) (aU _))))
    (λC fp s H=>(aJ (aj (aE (show cT _ _ (λxs H Q=>∃p ys,xs=[.ref p]/\(bo K H p ys\/aV K H p ys)/\Q (.int ys.length) H) from bJ) (by rfl) Fz ZU (aj (pv 0) ag rfl)) (aj (pv 0) (aj (nX hu (pv 1) (pv 0) (λ_ _=>rfl)) ag rfl) rfl) rfl))) (by rfl))
   (ax (aF (bY (g:=kZ K 3 (cS (bw 0) (cS (bw 1) (cS (bw 2) rM)))) (N:=["_law_many","_law_product","_law_number"]) (nl:=3) (js:=[]) (osc:=ar nY) ⟨rfl,rfl,by decide +kernel,by decide +kernel,by decide +kernel,rfl,.nil,by decide +kernel⟩ rfl
    (dM (aE (pT Oe) (by rfl) Fw (by rfl) (aj (pv 5) ag rfl)))
    (λC fp s H=>(cY (X:=fK _ ["_law_many","_law_product","_law_number"] _ C fp s H) rfl (aO (aD (X:=fK _ ["_law_many","_law_product","_law_number"] _ C fp s H) (i:=0) (by show(["_law_many","_law_product","_law_number"]:EG).Nodup;decide +kernel) rfl (Or.inl rfl) (Or.inr rfl)) (aO (aD (X:=fK _ ["_law_many","_law_product","_law_number"] _ C fp s H) (i:=1) (by show(["_law_many","_law_product","_law_number"]:EG).Nodup;decide +kernel) rfl (Or.inl rfl) (Or.inr rfl)) (aO (aD (X:=fK _ ["_law_many","_law_product","_law_number"] _ C fp s H) (i:=2) (by show(["_law_many","_law_product","_law_number"]:EG).Nodup;decide +kernel) rfl (Or.inl rfl) (Or.inr rfl)) cu)))))
    (λC fp s H=>c6)
    (λC fp s H=>(aJ (aj (pv 1) (aj (pv 2) ag rfl) rfl))))))))),?_⟩
  have hlen:=Kx.length
  have gg:∀i,i<=ts.length->mh p 4000 (aW p (ts.take i))/\((aW p (ts.take i)).map (·.1)).Nodup/\(aW p (ts.take i)).length<=i:=λi hi=>by
   obtain⟨_,g2,g3⟩:=eX (m:=4000) hp i (ts.take i) (by simp;omega) λt ht=>hG t (Zq ht);exact⟨G.steps i hi,g2,g3⟩
  have one:∀{n:Nat}{a:Int×Int},Gn p n a->p≠0->a.2=1:=λh z=>(h.1.pr z).1;refine λdd Gs=>?_;have s1:aC H (upd H dd (.dT [])):=aq Gs;refine⟨_,rfl,l,rfl,⟨ys,bo.of (s1 _ _ hl)⟩,?_⟩
  refine⟨λi m σ' H'=>m=ts.length-i/\i<=ts.length/\aC H H'/\(∃Ft,H' dd=some (.dT Ft)/\DR H' Ft (aW p (ts.take i)))/\∃o3 o4,σ'=[some (.int p),some (.ref l),some (.ref dd),o3,o4,none],
   ⟨ts.length,by simp,Yt _,s1,⟨[],ai,.nil⟩,none,none,rfl⟩,?_⟩
  rintro i m' σ' H' ⟨rfl,hi,sH,⟨Ft,hd,dr⟩,o3,o4,rfl⟩;have GG:=sH _ _ hl;obtain⟨gd,HP,gl⟩:=gg i hi
  by_cases Fy:i<ts.length
  ·have Of:i<ys.length:=by omega
   refine .inr ⟨⟨ys,ys[i],bo.of GG,by simp[Of]⟩,λσ' H'=>i+1<=ts.length/\aC H H'/\(∃Ft,H' dd=some (.dT Ft)/\DR H' Ft (aW p (ts.take (i+1))))/\∃o3 o4,σ'=[some (.int p),some (.ref l),some (.ref dd),o3,o4,none],?_,λy H2 hy=>?_⟩
   ·rintro σ' H' ⟨h1,h2,h3,h4⟩;exact⟨ts.length-(i+1),by omega,rfl,h1,h2,h3,h4⟩
   ·obtain⟨rfl,hy⟩:=hy;obtain⟨t,et,tr⟩:=bK Kx (hy ys (bo.of GG));obtain⟨a,pr,nu,rfl,ha,Gd,Gw⟩:=tr.keep (aI.of sH);have gt:=hG t (YA et)
    have F5:ts.take (i+1)=ts.take i++[t]:=by rw[YE,et];rfl
    have Gx:∀H3:Hp,aI H2 H3->H3 pr=some (.tup ((jl t.1).map kV)):=λH3 k=>by rw[iN];exact k _ _ Gd
    have fin:∀(H3:Hp)(an:Addr),aC H H3->aI H2 H3->H3 dd=some (.dT Ft)->((aW p (ts.take i)).any (λe=>decide (e.1=t.1))=false->H3 an=some (cw t.2.1 t.2.2)) →
     (∀e∈aW p (ts.take i),e.1=t.1->H3 an=some (cw (cV p e.2 t.2).1 (cV p e.2 t.2).2)) →
     aC H (upd H3 dd (.dT (fH Ft (jl t.1) (.ref an))))/\∃Hm,(upd H3 dd (.dT (fH Ft (jl t.1) (.ref an)))) dd=some (.dT Hm)/\DR (upd H3 dd (.dT (fH Ft (jl t.1) (.ref an)))) Hm (aW p (ts.take (i+1))):=by
     intro H3 an s3 k3 h3 IU GK;refine⟨λb u e=>by rw[aA (aB e Gs)];exact s3 b u e,_,ai,?_⟩;rw[F5,iW];exact(v9 (dr.keep k3) HP IU GK).keep (aI.upd λxs z=>by rw[h3] at z;cases z)
    have Hn:Ft.length<sizeLine:=by
     rw[dr.length];exact Yo gl (YX (Yo hi h64) (by decide))
    refine⟨a,_,rfl,aV.of ha,rfl,_,_,rfl,_,_,rfl,rfl,?_⟩;refine⟨_,rfl,_,rfl,dd,rfl,.inr ⟨Ft,.inl hd⟩,_,rfl,hJ,λt0 Oi=>?_⟩;have sZ:aC H2 (upd H2 t0 (.tup [.int 0,.int 1])):=aq Oi;refine⟨_,iS.t (sZ _ _ hd) (Gx _ (aI.of sZ)),?_⟩
    cases hq:(aW p (ts.take i)).any (λe=>decide (e.1=t.1)) with
    |false =>
     rw[tK t.1 dr hq];refine⟨_,rfl,p,0,1,t.2.1,t.2.2,t0,nu,rfl,hp,ai,sZ _ _ Gw,(by unfold B;decide),(by show(1:Nat)<2^4000;exact Nat.one_lt_two_pow (by decide)),gt.2.1,gt.2.2,(by decide),gt.ne,λz=>by rw[one gt z];decide,λH3 an s3 h3=>?_⟩;have ez:cV p (0,1) t.2=t.2:=vf hp gt
     have Uo:H3 an=some (cw t.2.1 t.2.2):=by
      have:H3 an=some (cw (cV p (0,1) t.2).1 (cV p (0,1) t.2).2):=h3;rw[ez] at this;exact this
     have sA:aC H2 H3:=λb u e=>s3 _ _ (sZ _ _ e);refine⟨_,rfl,_,rfl,dd,_,rfl,oE.t (sA _ _ hd) (Gx _ (aI.of sA)) Hn,?_⟩
     obtain⟨f1,f2⟩:=fin H3 an (λb u e=>sA _ _ (sH _ _ e)) (aI.of sA) (sA _ _ hd) (λ_=>Uo) λe he z=>by
      have:(aW p (ts.take i)).any (λe=>decide (e.1=t.1))=true:=ZC.mpr ⟨e,he,by simpa using z⟩;rw[hq] at this;cases this
     exact⟨Fy,f1,f2,_,_,rfl⟩
    |true =>
     obtain⟨e,he,ek,a0,hv,JK⟩:=ke t.1 dr hq;rw[hv];have ge:=gd e he;refine⟨_,rfl,p,e.2.1,e.2.2,t.2.1,t.2.2,a0,nu,rfl,hp,sZ _ _ JK,sZ _ _ Gw,ge.2.1,ge.2.2,gt.2.1,gt.2.2,ge.ne,gt.ne,λz=>by rw[one gt z,one ge z];decide,λH3 an s3 h3=>?_⟩;have sA:aC H2 H3:=λb u e=>s3 _ _ (sZ _ _ e);refine⟨_,rfl,_,rfl,dd,_,rfl,oE.t (sA _ _ hd) (Gx _ (aI.of sA)) Hn,?_⟩
     obtain⟨f1,f2⟩:=fin H3 an (λb u e=>sA _ _ (sH _ _ e)) (aI.of sA) (sA _ _ hd) (λz=>by rw[hq] at z;cases z) λe' Ho z=>by
      have:e'=e:=gX HP Ho he (z.trans ek.symm);subst this;exact h3
     exact⟨Fy,f1,f2,_,_,rfl⟩
  ·have ei:i=ts.length:=by omega
   subst ei;refine .inl ⟨⟨ys,bo.of GG,by omega⟩,?_⟩;rw[Yv] at dr gd HP gl;refine⟨_,rfl,dd,Ft,rfl,.inr ⟨hd,λo=>?_⟩⟩
   have sF:aC H (upd H' dd (nZ o Ft)):=λb u e=>by rw[aA (aB e Gs)];exact sH b u e
   have Og:DR (upd H' dd (nZ o Ft)) Ft (aW p ts):=dr.keep (aI.upd λxs z=>by rw[hd] at z;cases z);have kl:Ft.length=(aW p ts).length:=dr.length
   refine⟨λi m xs σ' H2=>m=(aW p ts).length-i/\i<=(aW p ts).length/\aC H H2/\H2 dd=some (nZ o Ft)/\DR H2 Ft (aW p ts)/\gL H2 xs (((aW p ts).take i).filter λe=>e.2.1 != 0)/\∃o1,σ'=[o1,some (.ref dd)],
    ⟨(aW p ts).length,by simp,Yt _,sF,ai,Og,.nil,none,rfl⟩,?_⟩
   rintro i m' xs σ' H2 ⟨rfl,Ui,s2,hd2,Io,GR,o1,rfl⟩
   have xl:xs.length<=(aW p ts).length:=by
    rw[GR.length];exact Yq (Zx _ _) (by simp;omega)
   refine⟨Yo (Yq xl gl) (YX h64 (by decide)),?_⟩
   by_cases Hr:i<(aW p ts).length
   ·refine .inr ⟨⟨by omega,hd2⟩,λx H3 hx=>?_⟩;obtain⟨b,k,v,hk,hb,rfl,rfl⟩:=hx;obtain⟨e,ee,ek,_⟩:=bK Io hk;have ek:k=jl e.1:=ek;subst ek;have he:=YA ee;have ge:=gd e he
    have F5:(aW p ts).take (i+1)=(aW p ts).take i++[e]:=by rw[YE,ee];rfl
    obtain⟨e',Ho,Uq,a,hv,ha⟩:=ke e.1 Io (ZC.mpr ⟨e,he,by simp⟩);have:e'=e:=gX HP Ho he Uq;subst this;have dg:∀H4:Hp,aC H3 H4->iS H4 dd (.ref b) (some (.ref a)):=λH4 s4=>.inr ⟨Ft,jl e'.1,b,.inr ⟨o,s4 _ _ hd2⟩,rfl,s4 _ _ hb,hv.symm⟩;have FZ:=hb;rw[iN] at FZ;refine⟨_,rfl,_,rfl,dd,.ref a,rfl,dg _ (aC.refl _),hJ,λt0 Oi=>?_⟩;have sZ:aC H3 (upd H3 t0 (cw 0 1)):=aq Oi;refine⟨_,_,CO (sZ _ _ ha),CO ai,by rw[Ds];decide,_,rfl,?_⟩;rw[ab9]
    cases hz:(e'.2.1 != 0) with
    |true =>
     have z:((e'.2.1==0&&e'.2.2==1) != true)=true:=by
      have:e'.2.1≠0:=by simpa using hz
      simp[this]
     rw[z];refine bA ⟨_,rfl,b,_,rfl,.inr (aV.of (sZ _ _ FZ)),_,rfl,_,rfl,_,rfl,dd,.ref a,rfl,dg _ sZ,E3,λt' Kz=>?_⟩;rw[Yg];have sT:aC (upd H3 t0 (cw 0 1)) (upd (upd H3 t0 (cw 0 1)) t' (.tup [.int e'.1.length,.ref b,.ref a])):=aq Kz;have sA:aC H3 (upd (upd H3 t0 (cw 0 1)) t' (.tup [.int e'.1.length,.ref b,.ref a])):=λc u e=>sT _ _ (sZ _ _ e);refine⟨(aW p ts).length-(i+1),by omega,rfl,Hr,λc u e=>sA _ _ (s2 _ _ e),sA _ _ hd2,Io.keep (aI.of sA),?_,_,rfl⟩;rw[F5,ZV]
     have ef:[e'].filter (λe=>e.2.1 != 0)=[e']:=by simp[hz]
     rw[ef];exact vw (gL.keep GR (aI.of sA)) ⟨t',b,a,rfl,ai,sA _ _ FZ,sA _ _ ha⟩
    |false =>
     have z:((e'.2.1==0&&e'.2.2==1) != true)=false:=by
      have h0:e'.2.1=0:=by simpa using hz
      have h1:e'.2.2=1:=by
       have g1:=ge.1.pos;have g2:=ge.1.red;rw[h0] at g2
       have:e'.2.2.natAbs=1:=by simpa using g2
       omega
      simp[h0,h1]
     rw[z];refine b7 ⟨(aW p ts).length-(i+1),by omega,rfl,Hr,λc u e=>sZ _ _ (s2 _ _ e),sZ _ _ hd2,Io.keep (aI.of sZ),?_,_,rfl⟩;rw[F5,ZV]
     have ef:[e'].filter (λe=>e.2.1 != 0)=[]:=by simp[hz]
     rw[ef,Zc];exact gL.keep GR (aI.of sZ)
   ·have Oh:i=(aW p ts).length:=by omega
    subst Oh;refine .inl ⟨⟨by omega,hd2⟩,λD hD=>?_⟩;rw[Yv] at GR;have sD:aC H2 (upd H2 D (.lst xs)):=aq hD;have Nf:=gL.keep GR (aI.of sD);refine⟨_,rfl,D,xs,_,rfl,bo.of ai,Yo xl G.few,mr Nf,r6 HP _,λD2 Nd=>?_⟩;have Oj:gL (upd H2 D (.lst xs)) ((cU ((((aW p ts).filter λe=>e.2.1 != 0).map eC).zip xs)).map (·.2)) (eu (aW p ts)):=kj (gY (jT Nf));generalize (cU ((((aW p ts).filter λe=>e.2.1 != 0).map eC).zip xs)).map (·.2)=zs at Oj |-;have zl:=Oj.length
    have tl:(eu (aW p ts)).length<=(aW p ts).length:=by
     unfold eu;rw[Yg,(cz _).length_eq,Yg];exact Zx _ _
    have sE:aC (upd H2 D (.lst xs)) (upd (upd H2 D (.lst xs)) D2 (.lst zs)):=aq Nd;have Rj:=gL.keep Oj (aI.of sE);have Rk:aC H (upd (upd H2 D (.lst xs)) D2 (.lst zs)):=λc u e=>sE _ _ (sD _ _ (s2 _ _ e));have Jj:upd (upd H2 D (.lst xs)) D2 (.lst zs) D2=some (.lst zs):=ai;generalize upd (upd H2 D (.lst xs)) D2 (.lst zs)=H4 at Rj Rk Jj |-;refine⟨D2,rfl,⟨zs,bo.of Jj⟩,?_⟩;refine⟨λi m us σ' H5=>m=zs.length-i/\i<=zs.length/\aC H4 H5/\bp H5 us ((eu (aW p ts)).take i)/\∃o1 o2 o3,σ'=[o1,o2,o3],⟨zs.length,by simp,Yt _,aC.refl _,.nil,none,none,none,rfl⟩,?_⟩;rintro i m' us σ' H5 ⟨rfl,XJ,s5,Ng,o1,o2,o3,rfl⟩
    have ul:us.length<=zs.length:=by
     rw[Ng.length];simp;omega
    refine⟨Yo (Yq ul (Yq (wk zl) (Yq tl gl))) (YX h64 (by decide)),?_⟩;have Ol:=s5 _ _ Jj
    by_cases KA:i<zs.length
    ·refine .inr ⟨⟨zs,zs[i],bo.of Ol,by simp[KA]⟩,λx H6 hx=>?_⟩;obtain⟨rfl,hx⟩:=hx;obtain⟨e,ee,er⟩:=bK Rj (hx zs (bo.of Ol));obtain⟨t0,b,a,rfl,h1,h2,h3⟩:=er.keep (aI.of s5)
     have F5:(eu (aW p ts)).take (i+1)=(eu (aW p ts)).take i++[e]:=by rw[YE,ee];rfl
     refine⟨t0,_,rfl,aV.of h1,rfl,_,_,rfl,_,_,rfl,_,_,rfl,rfl,?_⟩;dsimp only[As];refine bA ⟨_,rfl,_,rfl,hJ,λt' Kz=>?_⟩;have sT:aC H6 (upd H6 t' (.tup [.ref b,.ref a])):=aq Kz;refine⟨zs.length-(i+1),by omega,rfl,KA,λc u e=>sT _ _ (s5 _ _ e),?_,_,_,_,rfl⟩;rw[F5];exact vw (bp.keep Ng (aI.of sT)) ⟨t',b,a,rfl,ai,sT _ _ h2,sT _ _ h3⟩
    ·have Ur:i=zs.length:=by omega
     subst Ur;refine .inl ⟨⟨zs,bo.of Ol,Ye _⟩,λD3 Us=>?_⟩;rw[zl,Yv] at Ng;have sL:aC H5 (upd H5 D3 (.lst us)):=aq Us;exact q _ D3 _ (λc u e=>sL _ _ (s5 _ _ (Rk _ _ e))) ai (bp.keep Ng (aI.of sL))
noncomputable abbrev qG:Stmt:=bh (ba 34) 0
noncomputable def C7 (ks:List Int):Prop:=cI (some (ks.map V.int))=true/\ks.length<4000
theorem yM {t:Int}(n:Num p t b):wB p (some (.int t,.int b))=true:=by
 unfold wB;dsimp only
 by_cases z:p=0
 ·rw[Yh z,n.red];have:=n.pos;simp;omega
 ·rw[Yd z];obtain⟨h1,h2,h3⟩:=n.pr z;simp[h1,h2,h3]
theorem Dk {t:Tm}(h:C5 H y t)(g:Gn p n t.2)(pd:C7 t.1):Ek p H y true:=by
 obtain⟨a,pr,nu,rfl,ha,Gd,Gw⟩:=h
 have e:Ek p H (.ref a) (cI (some (t.1.map V.int))&&wB p (some (.int t.2.1,.int t.2.2))):=.two ha (.tup Gd (by rw[Yg];exact pd.2) λy hy=>by
  obtain⟨k,_,rfl⟩:=YG.mp hy
  exact⟨_,.int k⟩) (.two Gw (.int _) (.int _))
 rw[pd.1,yM g.1] at e;exact e
theorem wR :∀{ys:List V}{ts:List Tm},bp H ys ts->(∀t∈ts,Gn p n t.2/\C7 t.1)->∀y∈ys,Ek p H y true
 |_,_,.nil,_,y,hy=>nomatch hy
 |_,_,.cons h t,g,y,hy=>by
  rcases Yn.mp hy with rfl|hy
  ·exact Dk h (g _ Yl).1 (g _ Yl).2
  ·exact wR t (λt ht=>g t (Yi _ ht)) y hy
structure zc (K:Frag)(mg:vx)(C:Addr):Prop where
 cl:Em K C
 nF:d8 K C "its_field"
 nT:d8 K C "its_terms"
 mgC:mg "Sum"=some (.ref C)
noncomputable def uR (fl D:Addr):List (Str×V):=[("its_field",.ref fl),("its_terms",.ref D)]
noncomputable def mD (C CF:Addr):Sp:=λvs H Q _=>∃(s dx fl FK:Addr)(p:Int)(x:V)(ts:List Tm),vs=[.ref s,.ref fl,x]/\H s=some (.ins C dx [])/\H fl=some (.ins CF FK (gE p))/\FP p /\
 ((x=.non/\ts=[])\/∃l ys,x=.ref l/\H l=some (.lst ys)/\bp H ys ts)/\zE p ts/\(∀t∈ts,C7 t.1) /\
 ∀H' D zs,SameBut s H H'->H D=none->H' s=some (.ins C dx (uR fl D))->H' D=some (.lst zs)->bp H' zs (eu (aW p ts))->Q .non H'
theorem zy:CN Ah Ah (ar qG):=fe (by decide +kernel)
theorem yo {C CF T:Addr}(F:rK K "__init__" "Sum.__init__" qG f fd T)(c:zc K mg C)
 (q0:Ca P w K mg base 5 n6 "gathered" (rh CF))
 (q1:Ca P w K mg base 5 n6 "checked_terms" (lH CF)):
 yd P w K mg base (cD P w) 6 f fd Ah (mD C CF):=by
 obtain⟨fg,N0,FG,bG,mG,kG⟩:=q0;obtain⟨fc,XM,FC,bC,mC,kC⟩:=q1;refine F.okE zy (λvs H Q E h=>?_) (λFv A outer s H vs Q E hr h=>?_)
 ·obtain⟨s,dx,fl,FK,p,x,ts,rfl,_⟩:=h;rfl
 ·obtain⟨s0,dx,fl,FK,p,x,ts,rfl,hs,hf,hp,hx,G,hP,q⟩:=h;have hG:∀t∈ts,Gn p 4000 t.2/\C7 t.1:=λt ht=>⟨G.num t ht,hP t ht⟩;have KC:xh 5 _:=hr.mono (by decide);refine⟨_,au (qo (pv 0) (pv 1) rfl) (ax (qo (pv 0) (aH FG KC (by rfl) mG kG bG .nil ao (aj (pv 1) (aj (aH FC KC (by rfl) mC kC bC .nil ao (aj (pv 1) (aj (pv 2) ag rfl) rfl)) ag rfl) rfl)) rfl)),?_⟩;refine⟨_,rfl,_,rfl,s0,C,dx,_,rfl,hs,c.cl,c.nF,by decide,?_⟩
  have J9:fl≠s0:=λz=>by
   rw[z,hs] at hf
   injection hf with hf
   injection hf with _ _ hf
   cases hf
  have Om:upd H s0 (.ins C dx (dU "its_field" (.ref fl) [])) fl=some (.ins CF FK (gE p)):=by rw[aA J9];exact hf
  have kT:aI H (upd H s0 (.ins C dx (dU "its_field" (.ref fl) []))):=aI.upd λxs z=>by rw[hs] at z;cases z
  have fin:∀(H2:Hp)(l:Addr)(ys:List V),aC (upd H s0 (.ins C dx (dU "its_field" (.ref fl) []))) H2->H2 l=some (.lst ys)->bp H2 ys ts->rh CF [.ref fl,.ref l] H2 (λy H1=>cc 0 [some (.ref s0),some (.ref fl),some x] H1 λx2 H2=>∃a C dx fs,x2=.ref a/\H2 a=some (.ins C dx fs)/\Em K C/\d8 K C "its_terms"/\fs.length<1000 /\
   Q .non (upd H2 a (.ins C dx (dU "its_terms" y fs)))) λ_ _ _=>False:=by
   intro H2 l ys s2 hl ht;refine⟨fl,FK,l,p,ys,ts,rfl,s2 _ _ Om,hp,hl,ht,G,λH3 D zs s3 h0 hD hz=>?_⟩;have Oo:H3 s0=some (.ins C dx (dU "its_field" (.ref fl) [])):=s3 _ _ (s2 _ _ ai);refine⟨_,rfl,s0,C,dx,_,rfl,Oo,c.cl,c.nT,(by show 1<1000;decide),?_⟩
   have nD:D≠s0:=λz=>by rw[z,Oo] at hD;cases hD
   refine q _ D zs (λb u e nb=>?_) (none_of (λc u e=>e) (by
    cases e:H D with
    |none=>rfl
    |some u=>rw[s2 D u (by rw[aA nD];exact e)] at h0;cases h0)) ai (by rw[aA nD];exact hD) (bp.keep hz (aI.upd λxs z=>by rw[Oo] at z;cases z))
   rw[aA nb];exact s3 _ _ (s2 _ _ (by rw[aA nb];exact e))
  rcases hx with⟨rfl,rfl⟩|⟨l,ys,rfl,hl,ht⟩
  ·refine⟨_,rfl,_,rfl,_,rfl,fl,FK,p,.non,rfl,Om,hp,.inl ⟨rfl,λl hl=>?_⟩⟩;exact fin _ l [] (aq hl) ai .nil
  ·have nl:l≠s0:=λz=>by rw[z,hs] at hl;cases hl
   have Gk:upd H s0 (.ins C dx (dU "its_field" (.ref fl) [])) l=some (.lst ys):=by rw[aA nl];exact hl
   have Nh:=bp.keep ht kT;refine⟨_,rfl,_,rfl,_,rfl,fl,FK,p,.ref l,rfl,Om,hp,.inr ⟨l,ys,rfl,Gk,?_,wR Nh hG,λH2 s2=>?_⟩⟩
   ·rw[ht.length];have:=G.len;omega
   ·exact fin _ l ys s2 (s2 _ _ Gk) (bp.keep Nh (aI.of s2))
end K44
namespace L2
open PySem PySem.Spec PyProof.Rows PySem.W
theorem fT:∀{ns:List Int}{us:m8},aR (ns.map V.int) us->IntsAre us ns
 |[],us,r=>by cases r;exact .nil
 |n::ns,us,r=>by
  rw[YF] at r
  cases r with
  |cons h t =>
   obtain⟨k,rfl⟩:=(show ∃k,_=Value.int n k from h);exact .cons n k (fT t)
theorem rJ:∀{us:m8}{ns:List Int},IntsAre us ns->aR (ns.map V.int) us
 |_,_,.nil=>.nil
 |_,_,.cons n t h=>.cons ⟨t,rfl⟩ (rJ h)
end L2
namespace Mx
open PySem PyProof.Rows
noncomputable def ji:Option Int->List Int->Option Int
 |b,[]=>b
 |none,n::ns=>ji (some n) ns
 |some m,n::ns=>ji (some (if n>m then n else m)) ns
noncomputable def kept (c:Nat):Option (Int×Tok)->Obj
 |none=>{cls:=.type "list",dict:=none,data:=.seq #[] c,slots:=#[]}
 |some (m,t)=>{cls:=.type "list",dict:=none,data:=.seq #[.int m t,.int m t] c,slots:=#[]}
section
variable {prog:wu}{w:World}{A:Around}{E:ph}{s:Ci}{R:Result->Shared->Prop}
theorem yN {a b:Int}{t u:Tok}{Q:ph}(h:Q (.bool (decide (a>b))) s):wpAny (model prog w) A (richCompare .Gt (.int a t) (.int b u)) Q E s :=
 CmpOf.ints_gt (P:=λi v=>∃t,v=.int (if i=0 then a else b) t) (λi=>if i=0 then a else b) (λ{_ _} h=>h) 0 1 _ _ s Q E ⟨t,by simp⟩ ⟨u,by simp⟩ (by simpa using h)
theorem BL (a v:Value):argsOk "max" ⟨[a],[(Str.ofString "default",v)]⟩:=by unfold argsOk;kernel_rfl
theorem n9 {I l S:Addr}{items:BC}{d:Value}(hh:A.handled=none)(Ip:S≠I)(KD:S≠l)(JL:l≠I):∀(ns:List Int)(i:Nat)(s:Ci)(b:Option (Int×Tok))(c:Nat),
 s.heap.IsListIter I l i->s.heap.IsList l items->IntsAre (items.toList.drop i) ns->s.heap.get? S=some (kept c b) →
 (∀v h' tk,(match ji (b.map (·.1)) ns with|none=>v=d|some m=>∃t,v=.int m t)->(∀x o,x≠I->x≠S->s.heap.get? x=some o->h'.get? x=some o)->R (.ok (.ret v)) {s with heap:=h',toks:=tk}) →
 codeAny (model prog w) A (.builtin "max.loop" ⟨[.ref I,.none,.ref S],[(Str.ofString "default",d)]⟩) R s
 |[],i,s,b,c,hit,hl,hn,hS,hR=>by
  have hx:items[i]?=none:=by
   have e:items.toList.drop i=[]:=by cases hq:items.toList.drop i with
    |nil=>rfl
    |cons x r=>rw[hq] at hn;cases hn
   have:=List.drop_eq_nil_iff.mp e;simp at this |-;omega
  refine ZM F.entry_max_loop ?_;rw[ZJ Aq _]
  cases b with
  |none =>
   show wpAny _ A.in1 (seqItems? (.ref S)>>=_) _ _ s;refine X9 (Zj hS rfl ?_);show wpAny _ A.in1 (tryCatch (pyNext (.ref I)) _>>=_) _ _ s;refine X9 (wM (Bo hh hit hl hx λh' eb=>?_));refine X9 (Ej (Yb ?_));exact hR d h' s.toks rfl λx o h1 _ e=>eb x o h1 e
  |some p =>
   obtain⟨m,t⟩:=p;show wpAny _ A.in1 (seqItems? (.ref S)>>=_) _ _ s;refine X9 (Zj hS rfl ?_);show wpAny _ A.in1 (tryCatch (pyNext (.ref I)) _>>=_) _ _ s;refine X9 (wM (Bo hh hit hl hx λh' eb=>?_));have Iq:=eb S _ Ip hS;show wpAny _ A.in1 (updateSeq S (λ_=>#[])>>=_) _ _ _;refine X9 (jL Iq rfl (X9 (EC (Yb ?_))));exact hR _ _ s.toks ⟨t,rfl⟩ λx o h1 h2 e=>(YL _ _ (YM h2)).trans (eb x o h1 e)
 |n::ns,i,s,b,c,hit,hl,hn,hS,hR=>by
  have Gy:(toString "max"++toString ".loop":String)="max.loop":=by decide
  obtain⟨t,hx,JV⟩:∃t,items[i]?=some (.int n t)/\IntsAre (items.toList.drop (i+1)) ns:=by
   cases hq:items.toList.drop i with
   |nil=>rw[hq] at hn;cases hn
   |cons x r =>
    rw[hq] at hn
    cases hn with
    |cons _ t hr =>
     refine⟨t,?_,?_⟩
     ·have:(items.toList.drop i)[0]?=some (Value.int n t):=by rw[hq];rfl
      simpa using this
     ·have:items.toList.drop (i+1)=(items.toList.drop i).drop 1:=by rw[List.drop_drop,Nat.add_comm]
      rw[this,hq];exact hr
  refine ZM F.entry_max_loop ?_;rw[ZJ Aq _]
  cases b with
  |none =>
   show wpAny _ A.in1 (seqItems? (.ref S)>>=_) _ _ s;refine X9 (Zj hS rfl ?_);show wpAny _ A.in1 (tryCatch (pyNext (.ref I)) _>>=_) _ _ s;refine X9 (wM (rB hit hl hx λh' Ia sb=>?_));have Iq:=(sb.2 S Ip).trans hS;show wpAny _ A.in1 (updateSeq S (λ_=>#[.int n t,.int n t])>>=_) _ _ _;refine X9 (jL Iq rfl ?_);rw[Gy];refine Yb ⟨qZ Aq _,?_⟩;have up:∀x o,x≠S->h'.get? x=some o->(h'.update S (Obj.mapSeq λ_=>#[.int n t,.int n t])).get? x=some o:=λx o hx e=>(YL _ _ (YM hx)).trans e;refine n9 hh Ip KD JL ns (i+1) _ (some (n,t)) _ (Ia.at λo e=>up I o (YM Ip) e) ((hl.extBut sb.extBut JL).at λo e=>up l o (YM KD) e) JV (Y3 _ Iq rfl) λv h2 tk hv hk=>?_;exact hR v h2 tk hv λx o h1 h3 e=>hk x o h1 h3 (up x o h3 ((sb.2 x h1).trans e))
  |some p =>
   obtain⟨m,u⟩:=p;show wpAny _ A.in1 (seqItems? (.ref S)>>=_) _ _ s;refine X9 (Zj hS rfl ?_);show wpAny _ A.in1 (tryCatch (pyNext (.ref I)) _>>=_) _ _ s;refine X9 (wM (rB hit hl hx λh' Ia sb=>?_));have Iq:=(sb.2 S Ip).trans hS;show wpAny _ A.in1 (tryCatch (holding [.int n t,.int n t] (richCompare .Gt (.int n t) (.int m u)>>=_)) _>>=_) _ _ _;refine X9 (wM (YY (X9 (yN ?_))));refine X9 (YY (Y9 ?_));refine X9 (EC (Yb ?_))
   by_cases hb:n>m
   ·simp only[YD hb,ZR];refine X9 (jL Iq rfl (X9 (EC ?_)));rw[Gy];refine Yb ⟨qZ Aq _,?_⟩;have up:∀x o,x≠S->h'.get? x=some o->(h'.update S (Obj.mapSeq λ_=>#[.int n t,.int n t])).get? x=some o:=λx o hx e=>(YL _ _ (YM hx)).trans e;refine n9 hh Ip KD JL ns (i+1) _ (some (n,t)) _ (Ia.at λo e=>up I o (YM Ip) e) ((hl.extBut sb.extBut JL).at λo e=>up l o (YM KD) e) JV (Y3 _ Iq rfl) λv h2 tk hv hk=>?_;refine hR v h2 tk ?_ λx o h1 h3 e=>hk x o h1 h3 (up x o h3 ((sb.2 x h1).trans e));simpa only[Option.map_some,ji,Yh hb] using hv
   ·simp only[Yu hb,Zl,Zv];refine X9 (EC ?_);rw[Gy];refine Yb ⟨qZ Aq _,?_⟩;refine n9 hh Ip KD JL ns (i+1) _ (some (m,u)) c Ia (hl.extBut sb.extBut JL) JV Iq λv h2 tk hv hk=>?_;refine hR v h2 tk ?_ λx o h1 h3 e=>hk x o h1 h3 ((sb.2 x h1).trans e);simpa only[Option.map_some,ji,Yd hb] using hv
theorem zZ {id:String}{b:Builtin}{args:m8}{kw:List (Str×Value)}{Q:ph}(hk:builtinKind id=none)(hp:plainId id=true)(hb:entryFor table id=some b)(ha:argsOk id ⟨args,kw⟩)
 (hc:wpAny (model prog w) A.in1 (b ⟨args,kw⟩) (λfin s'=>match fin with
  | .done f=>(match (Except.ok f:Result) with| .ok (.ret v)=>Q v s'| .ok _=>False| .error e=>E e s')
  | .again c'=>c'.quiet=true/\codeAny (model prog w) A c' (λr s'=>match r with| .ok (.ret v)=>Q v s'| .ok _=>False| .error e=>E e s') s') E s):
 wpAny (model prog w) A (call (.builtin id) args kw) Q E s:=by
 refine qd (pL hp hb ?_);simp only[checkBuiltinCall,hk]
 cases Oq:Manifest.signature? id with
 |none=>exact Yb hc
 |some Bc =>
  have Je:Bind.checkArgs id Bc ⟨args,kw⟩=pure ():=by simpa only[argsOk,Oq] using ha
  simp only[Je];exact Yb hc
theorem Bm {l:Addr}{items:BC}{ns:List Int}{d:Value}{Q:ph}(hh:A.handled=none)(hl:s.heap.IsList l items)(hn:IntsAre items.toList ns)
 (hQ:∀v h' tk,(match ji none ns with|none=>v=d|some m=>∃t,v=.int m t)->(∀x o,s.heap.get? x=some o->h'.get? x=some o)->Q v {s with heap:=h',toks:=tk}):
 wpAny (model prog w) A (call (.builtin "max") [.ref l] [(Str.ofString "default",d)]) Q E s:=by
 have Gy:(toString "max"++toString ".loop":String)="max.loop":=by decide
 refine zZ F.kind_max F.plain_max F.entry_max (BL _ _) ?_;show wpAny _ A.in1 (Builtin.Builtins.bindParams "max" ["key","default"] 0 ⟨[],[(Str.ofString "default",d)]⟩>>=_) _ _ s;refine X9 (EN (show Builtin.Builtins.bindParams "max" ["key","default"] 0 ⟨[],[(Str.ofString "default",d)]⟩=pure [none,some d] from rfl) ?_);refine X9 (Yb ?_);refine X9 (yr hl ?_);refine X9 (YB ?_);rw[Gy]
 have lt:l<s.heap.objs.size:=by obtain⟨o,e,_⟩:=hl;exact Ym e
 have sz:(s.heap.push {cls:=.type "list_iterator",data:=.fields #[.ref l,.int 0 0]}).objs.size=s.heap.objs.size+1:=Zb ..;have g2:∀x o,s.heap.get? x=some o->((s.heap.push {cls:=.type "list_iterator",data:=.fields #[.ref l,.int 0 0]}).push {cls:=.type "list",data:=.seq #[]}).get? x=some o:=λx o e=>Yc _ (Yc _ e);refine Yb ⟨qZ Aq _,n9 (items:=items) hh ?_ ?_ (Yr lt) ns 0 _ none 0 ⟨_,Yc _ (Yk _ rfl),rfl,rfl⟩ (hl.at λo e=>g2 l o e) (by simpa using hn) (Yk _ rfl) λv h' tk hv hk=>?_⟩
 ·show(s.heap.push _).objs.size≠s.heap.objs.size;rw[sz];exact vN _
 ·show(s.heap.push _).objs.size≠l;rw[sz];exact Zz (ZK lt)
 ·refine hQ v h' tk hv λx o e=>hk x o (Yr (Ym e)) ?_ (g2 x o e);show x≠(s.heap.push _).objs.size;rw[sz];exact Yr (ZK (Ym e))
end
end Mx
namespace L2
open PySem PySem.Spec PyProof.Rows PySem.W
section
variable {X:Cx}{e d:Expr}{ta td:TE}{p kpos pos:Pos}
noncomputable def Dg (K:Frag)(ta td:TE):TE:=λσ H Q=>bq ta Bz σ H λvs H1=>bq td Bz σ H1 λds H2=>∃(l:Addr)(ns:List Int)(dv:V),vs=[.ref l]/\ds=[dv]/\bo K H2 l (ns.map V.int)/\Q (match Mx.ji none ns with|none=>dv|some m=>.int m) H2
theorem Ab (ha:PE X e ta)(hd:PE X d td)(hc:X.calm=true)(hg:Gl X "max")(hm:X.mg "max"=none)(hs:fV e=false:=by rfl):PE X (.Call (.Name "max" p) [e] [⟨some "default",d,kpos⟩] pos) (Dg X.K ta td):=by
 intro pins s σ H Q I h;refine Y6 (eK I hg hm (by rfl) ?_ (by decide) (by decide));refine callWith_builtin_kwB (by rw[bz hs];rfl) rfl (evalArgs_kw2 rfl ?_ (bz hs));refine bU (aj ha ag hs pos pins s σ H _ I h) λus s1 z'=>?_;obtain⟨vs,H1,I1,r1,h1⟩:=z';refine bU (aau (nm:=some "default") (kpos:=kpos) hd aaq pos pins s1 σ H1 _ I1 h1) λws s2 z'=>?_;obtain⟨ds,H2,I2,r2,l,ns,dv,e1,e2,hl,q⟩:=z';subst e1 e2;obtain⟨u,rfl,ru⟩:=dj r1
 cases(show u=Value.ref l from ru)
 obtain⟨w',rfl,Gb⟩:=dj r2;obtain⟨its,rv,pl,hz⟩:=I2.list hl;show wpAny _ X.A (call (.builtin "max") [.ref l] [(Str.ofString "default",w')]) _ _ s2;refine Mx.Bm (I.ok.hd hc) pl.isList (by simpa using fT rv) λv h' tk hv hk=>?_;refine⟨_,H2,I2.kept (t':=tk) hk,?_,q⟩
 cases hb:Mx.ji none ns with
 |none=>rw[hb] at hv;cases hv;exact Gb
 |some m=>rw[hb] at hv;obtain⟨t,rfl⟩:=hv;exact⟨t,rfl⟩
end
theorem lX:∀(ns:List Int)(m:Int),∃b,Mx.ji (some m) ns=some b/\(b=m\/b∈ns)/\m<=b/\∀a∈ns,a<=b
 |[],m=>⟨m,rfl,.inl rfl,ZY _,λa h=>nomatch h⟩
 |n::ns,m=>by
  obtain⟨b,h1,h2,h3,h4⟩:=lX ns (if n>m then n else m);refine⟨b,h1,?_,?_,λa ha=>?_⟩
  ·rcases h2 with q|q
   ·by_cases z:n>m
    ·rw[Yh z] at q;exact .inr (by simp[q])
    ·rw[Yd z] at q;exact .inl q
   ·exact .inr (Yi _ q)
  ·split at h3 <;> omega
  ·rcases Yn.mp ha with rfl|ha
   ·split at h3 <;> omega
   ·exact h4 a ha
theorem lQ {ns:List Int}(h:ns≠[]):∃b,Mx.ji none ns=some b/\b∈ns/\∀a∈ns,a<=b:=by
 cases ns with
 |nil=>exact absurd rfl h
 |cons n ns =>
  obtain⟨b,h1,h2,h3,h4⟩:=lX ns n;refine⟨b,h1,?_,λa ha=>?_⟩
  ·rcases h2 with q|q
   ·simp[q]
   ·exact Yi _ q
  ·rcases Yn.mp ha with rfl|ha
   ·exact h3
   ·exact h4 a ha
end L2
namespace K44
open PySem L2 PySem.W Nm Srt
noncomputable abbrev uA:Stmt:=bh (ba 34) 5
noncomputable abbrev tR:Stmt:=bh (ba 34) 6
noncomputable abbrev qu:Stmt:=bh (ba 34) 8
structure Fj (C CF:Addr)(H:Hp)(s:Addr)(p:Int)(ts:List Tm):Prop where
 ex:∃dx fl FK D zs,H s=some (.ins C dx (uR fl D))/\H fl=some (.ins CF FK (gE p))/\H D=some (.lst zs)/\bp H zs ts
noncomputable def ou (C CF:Addr):Sp:=λvs H Q _=>∃(s dx fl D:Addr),vs=[.ref s]/\H s=some (.ins C dx (uR fl D))/\Q (.ref fl) H
noncomputable def pQ (C CF:Addr):Sp:=λvs H Q _=>∃(s dx fl D:Addr)(zs:List V),vs=[.ref s]/\H s=some (.ins C dx (uR fl D))/\H D=some (.lst zs)/\∀l,H l=none->Q (.ref l) (upd H l (.lst zs))
theorem wK:CN ["self"] ["self"] (ar uA):=fe (by decide +kernel)
theorem xO:CN ["self"] ["self"] (ar tR):=fe (by decide +kernel)
variable {P:wu}{w:World}{K:PySem.W.Frag}{mg:vx}{base:Heap}
variable {f C:Addr}{fd:BB}
theorem vz {CF:Addr}(F:vP K "field" "Sum.field" uA f fd)(c:zc K mg C):yd P w K mg base (cD P w) 1 f fd ["self"] (ou C CF):=by
 refine F.okN wK (λvs H Q E h=>?_) (λFv A outer s H vs Q E hr h=>?_)
 ·obtain⟨s,dx,fl,D,rfl,_⟩:=h;rfl
 ·obtain⟨s0,dx,fl,D,rfl,hs,q⟩:=h;exact⟨_,ax (aF (cN (pv 0) rfl)),_,rfl,s0,C,dx,_,_,rfl,hs,c.cl,c.nF,rfl,q⟩
theorem vM {CF:Addr}(F:vP K "terms" "Sum.terms" tR f fd)(c:zc K mg C)(FA:mg "list"=none):yd P w K mg base (cD P w) 1 f fd ["self"] (pQ C CF):=by
 refine F.okN xO (λvs H Q E h=>?_) (λFv A outer s H vs Q E hr h=>?_)
 ·obtain⟨s,dx,fl,D,zs,rfl,_⟩:=h;rfl
 ·obtain⟨s0,dx,fl,D,zs,rfl,hs,hD,q⟩:=h;refine⟨_,ax (aF (bt dG (by rfl) FA (by rfl) (aj (cN (pv 0) rfl) ag rfl))),?_⟩;exact⟨_,rfl,s0,C,dx,_,_,rfl,hs,c.cl,c.nT,rfl,D,zs,rfl,.inl (bo.of hD),λl hl=>q l hl⟩
noncomputable def DZ (t:Tm):Int:=t.1.getLastD 0+1
noncomputable def fh (ts:List Tm):Int:=(Mx.ji none ((ts.filter λt=>!t.1.isEmpty).map DZ)).getD 0
noncomputable def tL (C:Addr):Sp:=λvs H Q _=>∃(s dx fl D:Addr)(zs:List V)(ts:List Tm),vs=[.ref s]/\H s=some (.ins C dx (uR fl D))/\H D=some (.lst zs)/\bp H zs ts/\ts.length<4000/\(∀t∈ts,t.1.length<4000)/\∀H',aC H H'->Q (.int (fh ts)) H'
theorem Ae:CN ["self"] ["self"] (ar qu):=fe (by decide +kernel)
theorem Ax {ks:List Int}(h:ks≠[]):p9 (ks.map V.int) (-1)=some (.int (ks.getLastD 0)):=by
 have hl:0<ks.length:=List.length_pos_iff.mpr h;unfold p9 xN;rw[Yg,Yd (by decide),Yh (by omega)];show(ks.map V.int)[((-1:Int)+(ks.length:Int)).toNat]?=_
 have e:((-1:Int)+(ks.length:Int)).toNat=ks.length-1:=by omega
 rw[e,YU,YZ (by omega)]
 have g:ks.getLastD 0=ks[ks.length-1]'(by omega):=by
  rw[List.getLastD_eq_getLast?,List.getLast?_eq_getElem?,YZ (by omega)];rfl
 rw[g];rfl
theorem wx (F:vP K "reach" "Sum.reach" qu f fd)(c:zc K mg C)(Ge:mg "max"=none):yd P w K mg base (cD P w) 1 f fd ["self"] (tL C):=by
 refine F.okN Ae (λvs H Q E h=>?_) (λFv A outer s H vs Q E hr h=>?_)
 ·obtain⟨s,dx,fl,D,zs,ts,rfl,_⟩:=h;rfl
 ·obtain⟨s0,dx,fl,D,zs,ts,rfl,hs,hD,hz,hl,GV,q⟩:=h
  refine⟨_,ax (aF (Ab (bY (g:=kZ K 2 (cS (bw 0) (cS (bw 1) rM))) (N:=["product","number"]) (nl:=2) (js:=[]) (osc:=ar qu) ⟨rfl,rfl,by decide +kernel,by decide +kernel,by decide +kernel,rfl,.nil,by decide +kernel⟩ rfl
   (dM (cN (pv 0) rfl))
   (λC fp s H=>(cY (X:=fK _ ["product","number"] _ C fp s H) rfl (aO (aD (X:=fK _ ["product","number"] _ C fp s H) (i:=0) (by show(["product","number"]:EG).Nodup;decide +kernel) rfl (Or.inl rfl) (Or.inr rfl)) (aO (aD (X:=fK _ ["product","number"] _ C fp s H) (i:=1) (by show(["product","number"]:EG).Nodup;decide +kernel) rfl (Or.inl rfl) (Or.inr rfl)) cu))))
   (λC fp s H=>dI (show PT _ _ (λσ H Q=>cc 0 σ H λx H'=>∃k,BR K x H' k/\Q k H') from n8 (pv 0) (λ_=>rfl)))
   (λC fp s H=>(aK fF (aY (show AZ _ (yj K) from bH) (pv 0) (pq j9 ak) (λ_ _=>rfl)) ak))) ak rfl (by rfl) Ge)),?_⟩
  refine⟨_,rfl,s0,C,dx,_,_,rfl,hs,c.cl,c.nT,rfl,D,rfl,⟨zs,bo.of hD⟩,?_⟩;refine⟨λi m xs σ' H'=>m=zs.length-i/\i<=zs.length/\aC H H'/\xs=(((ts.take i).filter λt=>!t.1.isEmpty).map DZ).map V.int/\∃o1 o2,σ'=[o1,o2],⟨zs.length,by simp,Yt _,aC.refl _,rfl,none,none,rfl⟩,?_⟩;rintro i m xs σ' H' ⟨rfl,hi,sH,rfl,o1,o2,rfl⟩;have zl:=hz.length;have Kt:=sH _ _ hD;refine⟨?_,?_⟩
  ·rw[Yg,Yg];exact Yo (Zx _ _) (Yo (by simp;omega) (YX hl (by decide)))
  by_cases Fy:i<zs.length
  ·refine .inr ⟨⟨zs,zs[i],bo.of Kt,by simp[Fy]⟩,λy H2 hy=>?_⟩;obtain⟨rfl,hy⟩:=hy;obtain⟨t,et,tr⟩:=bK hz (hy zs (bo.of Kt));obtain⟨a,pr,nu,rfl,ha,Gd,Gw⟩:=tr.keep (aI.of sH)
   have F5:ts.take (i+1)=ts.take i++[t]:=by rw[YE,et];rfl
   refine⟨a,_,rfl,aV.of ha,rfl,_,_,rfl,_,_,rfl,rfl,?_⟩;refine⟨_,rfl,!t.1.isEmpty,.inr (.inl ⟨_,aV.of Gd,by simp⟩),?_⟩
   cases hb:t.1.isEmpty with
   |false =>
    have ne:t.1≠[]:=by intro z;rw[z] at hb;cases hb
    refine bA ⟨_,rfl,_,rfl,pr,_,-1,_,rfl,rfl,aV.of Gd,Ax ne,_,_,rfl,rfl,zs.length-(i+1),by omega,rfl,Fy,sH,?_,_,_,rfl⟩;rw[F5,ZV];simp[hb,DZ]
   |true =>
    refine b7 ⟨zs.length-(i+1),by omega,rfl,Fy,sH,?_,_,_,rfl⟩;rw[F5,ZV];simp[hb]
  ·have ei:i=zs.length:=by omega
   subst ei;refine .inl ⟨⟨zs,bo.of Kt,Ye _⟩,λL hL=>?_⟩;rw[zl,Yv];refine⟨L,_,.int 0,rfl,rfl,bo.of ai,?_⟩;have q':=q _ (λb u z=>by rw[aA (aB (sH _ _ z) hL)];exact sH _ _ z:aC H (upd H' L (.lst (((ts.filter λt=>!t.1.isEmpty).map DZ).map V.int))));unfold fh at q';show Q _ (upd H' L (.lst (((ts.filter λt=>!t.1.isEmpty).map DZ).map V.int)));generalize upd H' L (.lst (((ts.filter λt=>!t.1.isEmpty).map DZ).map V.int))=H9 at q' |-;generalize Mx.ji none ((ts.filter λt=>!t.1.isEmpty).map DZ)=ob at q' |-
   cases ob <;> exact q'
structure oF (K:Frag)(mg:vx)(C:Addr):Prop where
 c:zc K mg C
 Tw:((clsIn K C).isSome&&typeIn K (.ref C)==some (.type "type"))=true
 ca:findIn K (.ref C) "__class__"=some (some (.builtin "object.__class__"))
 sp:specialIn K (.builtin "object.__class__") "__get__"=some (some (.builtin "getset_descriptor.__get__"))
 tk:takesIn K (.builtin "object.__class__")=some true
 ob:mroIn K C (.type "object")=some true
variable {K:Frag}{H:Hp}
theorem oF.ty {mg:vx}(c:oF K mg C){p dx:Addr}{fs:List (Str×V)}(e:H p=some (.ins C dx fs)):zJ K H (.ref p) (.ref C):=.of (.ins e c.c.cl c.ca c.sp c.tk c.ob)
theorem oF.is {mg:vx}(c:oF K mg C):kitOne K (.ref C) (.ref C)=some true:=by
 unfold kitOne;rw[Yh (by simp)]
noncomputable def yH (t:Tm):D:=.tup [.tup (t.1.map D.int),.tup [.int t.2.1,.int t.2.2]]
theorem ui :∀ns:List Int,bg K H (ns.map D.int) (ns.map V.int)
 |[]=>by unfold bg;rfl
 |n::ns=>by
  show bg K H (.int n::ns.map D.int) (.int n::ns.map V.int);unfold bg;exact⟨_,_,rfl,(by unfold aM;rfl),ui ns⟩
theorem y1:∀ns:List Int,eW (ns.map D.int)=0
 |[]=>by simp[eW]
 |n::ns=>by rw[YF];unfold eW;rw[y1 ns];simp[iF]
theorem zM {y:V}{t:Tm}(h:C5 H y t):aM K H (yH t) y:=by
 obtain⟨a,pr,nu,rfl,ha,Gd,Gw⟩:=h;unfold yH aM;refine⟨a,_,rfl,aV.of ha,?_⟩;unfold bg;refine⟨_,_,rfl,(by unfold aM;exact⟨pr,_,rfl,aV.of Gd,ui _⟩),?_⟩;unfold bg;refine⟨_,_,rfl,CO Gw,?_⟩;unfold bg;rfl
theorem pj :∀{ys:List V}{ts:List Tm},bp H ys ts->bg K H (ts.map yH) ys
 |_,_,.nil=>by unfold bg;rfl
 |_,_,.cons (b:=t) h r=>by
  show bg K H (yH t::_) _;unfold bg;exact⟨_,_,rfl,zM h,pj r⟩
theorem ux:∀ts:List Tm,eW (ts.map yH)<=2
 |[]=>by unfold eW;decide
 |t::ts=>by
  show eW (yH t::ts.map yH)<=2;unfold eW;have:=ux ts
  have h:iF (yH t)=2:=by
   unfold yH iF eW eW eW;rw[Ds,show iF (.tup (t.1.map D.int))=1 from by unfold iF;rw[y1]];rfl
  omega
noncomputable abbrev lE (ts:List Tm):D:=.lst (ts.map yH)
theorem pB {a:Addr}{ys:List V}{ts:List Tm}(e:H a=some (.lst ys))(h:bp H ys ts):aM K H (lE ts) (.ref a):=by
 unfold aM;exact⟨a,ys,rfl,bo.of e,pj h⟩
theorem zV (ts:List Tm):iF (lE ts)<=32:=by
 unfold iF;have:=ux ts;omega
theorem Fj.same {CF:Addr}{H':Hp}{s:Addr}{p:Int}{ts:List Tm}(h:Fj C CF H s p ts)(k:aC H H'):Fj C CF H' s p ts:=by
 obtain⟨dx,fl,FK,D,zs,h1,h2,h3,h4⟩:=h.ex;exact⟨dx,fl,FK,D,zs,k _ _ h1,k _ _ h2,k _ _ h3,bp.keep h4 (aI.of k)⟩
end K44
namespace Nm
open Lean.Grind in
structure Val (p:Int)(R:Type) [CommRing R](v:Int×Int->R):Prop where
 zero:v (0,1)=0
 one:v (1,1)=1
 set:∀{t b:Int}{a c:Int×Int},Num p a.1 a.2->Num p c.1 c.2->(t=a.1*c.2+c.1*a.2->b=a.2*c.2->v (c7 p t b,c9 p t b)=v a+v c)/\(t=a.1*c.1->b=a.2*c.2->v (c7 p t b,c9 p t b)=v a*v c)
 inj:∀{a c:Int×Int},Num p a.1 a.2->Num p c.1 c.2->v a=v c->a=c
theorem i5 {t b:Int}(h:b≠0):c7 0 t b*b=t*c9 0 t b:=by
 have e1:=mi (t:=t) h;have e2:=ja (t:=t) h;show dw t b*b=t*cx t b;generalize dw t b=x at *;generalize cx t b=y at *;generalize dv t b=d at *;subst e1;subst e2;grind
theorem zI:Val 0 Rat (λa=>Rat.divInt a.1 a.2) where
 zero:=by decide +kernel
 one:=by decide +kernel
 set:=by
  intro t b a c na nc
  have ha:a.2≠0:=by have:=na.pos;omega
  have hc:c.2≠0:=by have:=nc.pos;omega
  have hb:a.2*c.2≠0:=zU ha hc;refine⟨λet eb=>?_,λet eb=>?_⟩
  ·subst eb;subst et
   have hs:c9 0 (a.1*c.2+c.1*a.2) (a.2*c.2)≠0:=by have:=(Num.set (p:=0) (t:=a.1*c.2+c.1*a.2) (ZY 0) hb).pos;omega
   show Rat.divInt _ _=Rat.divInt _ _+Rat.divInt _ _;rw[Rat.divInt_add_divInt _ _ ha hc,BP hs hb];exact i5 hb
  ·subst eb;subst et
   have hs:c9 0 (a.1*c.1) (a.2*c.2)≠0:=by have:=(Num.set (p:=0) (t:=a.1*c.1) (ZY 0) hb).pos;omega
   show Rat.divInt _ _=Rat.divInt _ _*Rat.divInt _ _;rw[Rat.divInt_mul_divInt,BP hs hb];exact i5 hb
 inj:=by
  intro a c na nc e
  have ha:a.2≠0:=by have:=na.pos;omega
  have hc:c.2≠0:=by have:=nc.pos;omega
  have e:=(BP ha hc).mp e;obtain⟨h1,h2⟩:=aa5 (p:=0) ha nc (ZY 0) (λ_=>e) (λz=>absurd rfl z);obtain⟨g1,g2⟩:=na.self (ZY 0);exact zD (g1.symm.trans h1) (g2.symm.trans h2)
theorem zi {n:Nat} [NeZero n](h2:2<=n):Val (n:Int) (Fin n) (λa=>Fin.ofNat n a.1.toNat) where
 zero:=rfl
 one:=rfl
 set:=by
  intro t b a c na nc
  have hz:(n:Int)≠0:=by omega
  obtain⟨a2,a0,a1⟩:=na.pr hz;obtain⟨c2,c0,c1⟩:=nc.pr hz
  have key:∀x y z:Int,0<=x->0<=y->0<=z->z=x+y->(z%(n:Int)).toNat%n=(x.toNat%n+y.toNat%n)%n:=by
   intro x y z hx hy hz e;obtain⟨x,rfl⟩:∃m:Nat,x=(m:Int):=⟨x.toNat,by omega⟩;obtain⟨y,rfl⟩:∃m:Nat,y=(m:Int):=⟨y.toNat,by omega⟩;subst e;rw[show((x:Int)+(y:Int))%(n:Int)=(((x+y)%n:Nat):Int) from by push_cast;rfl];rw[YV,YV,YV,Nat.mod_mod,Nat.add_mod]
  have Ot:∀x y z:Int,0<=x->0<=y->z=x*y->(z%(n:Int)).toNat%n=(x.toNat%n)*(y.toNat%n)%n:=by
   intro x y z hx hy e;obtain⟨x,rfl⟩:∃m:Nat,x=(m:Int):=⟨x.toNat,by omega⟩;obtain⟨y,rfl⟩:∃m:Nat,y=(m:Int):=⟨y.toNat,by omega⟩;subst e;rw[show((x:Int)*(y:Int))%(n:Int)=(((x*y)%n:Nat):Int) from by push_cast;rfl];rw[YV,YV,YV,Nat.mod_mod,Nat.mul_mod]
  refine⟨λet eb=>?_,λet eb=>?_⟩
  ·apply Fin.ext;show(c7 (n:Int) t b).toNat%n=(a.1.toNat%n+c.1.toNat%n)%n;unfold c7;rw[Yd hz];exact key a.1 c.1 t a0 c0 (by rw[et,a2,c2];omega) (by rw[et,a2,c2];omega)
  ·apply Fin.ext;show(c7 (n:Int) t b).toNat%n=(a.1.toNat%n)*(c.1.toNat%n)%n;unfold c7;rw[Yd hz];exact Ot a.1 c.1 t a0 c0 et
 inj:=by
  intro a c na nc e
  have hz:(n:Int)≠0:=by omega
  obtain⟨a2,a0,a1⟩:=na.pr hz;obtain⟨c2,c0,c1⟩:=nc.pr hz;have e:a.1.toNat%n=c.1.toNat%n:=Ze Fin.val e;rw[Nat.mod_eq_of_lt (by omega),Nat.mod_eq_of_lt (by omega)] at e;exact zD (by omega) (by omega)
theorem C2 {p:Int}(hp:p=0\/2<=p):∃(R:Type)(i:Lean.Grind.CommRing R)(v:Int×Int->R),@Val p R i v:=by
 rcases hp with rfl|hp
 ·exact⟨Rat,_,_,zI⟩
 ·obtain⟨n,rfl⟩:∃n:Nat,p=(n:Int):=⟨p.toNat,by omega⟩;have:NeZero n:=⟨by omega⟩;exact⟨Fin n,_,_,zi (by omega)⟩
end Nm
namespace K44
open PySem L2 PySem.W Nm Srt
variable {d ts:List Tm}
section
variable {p:Int}{R:Type} [Lean.Grind.CommRing R]{v:Int×Int->R}
noncomputable def S (v:Int×Int->R):List Tm->(List Int->R)->R
 |[],_=>0
 |t::ts,F=>v t.2*F t.1+S v ts F
theorem ik (a b:List Tm)(F:List Int->R):S v (a++b) F=S v a F+S v b F:=by
 induction a with
 |nil=>show S v b F=0+S v b F;grind
 |cons t a ih =>
  show v t.2*F t.1+S v (a++b) F=v t.2*F t.1+S v a F+S v b F;rw[ih];grind
theorem DQ (a:List Tm)(F G:List Int->R):S v a (λi=>F i+G i)=S v a F+S v a G:=by
 induction a with
 |nil=>show(0:R)=0+0;grind
 |cons t a ih =>
  show v t.2*(F t.1+G t.1)+S v a (λi=>F i+G i)=(v t.2*F t.1+S v a F)+(v t.2*G t.1+S v a G);rw[ih];grind
theorem AV (a:List Tm)(c:R)(F:List Int->R):S v a (λi=>c*F i)=c*S v a F:=by
 induction a with
 |nil=>show(0:R)=c*0;grind
 |cons t a ih =>
  show v t.2*(c*F t.1)+S v a (λi=>c*F i)=c*(v t.2*F t.1+S v a F);rw[ih];grind
theorem CK {a b:List Tm}(h:a.Perm b)(F:List Int->R):S v a F=S v b F:=by
 induction h with
 |nil=>rfl
 |cons x _ ih=>show _+_=_+_;rw[ih]
 |swap x y l =>
  show v y.2*F y.1+(v x.2*F x.1+S v l F)=v x.2*F x.1+(v y.2*F y.1+S v l F);grind
 |trans _ _ i1 i2=>exact i1.trans i2
noncomputable def cb (p:Int)(d:List Tm):Prop:=∀e∈d,Num p e.2.1 e.2.2
theorem oM {a b:Int×Int}(hp:0<=p)(ha:Num p a.1 a.2)(hb:Num p b.1 b.2):Num p (cV p a b).1 (cV p a b).2 :=
 Num.set hp (zU (by have:=ha.pos;omega) (by have:=hb.pos;omega))
theorem wL {t:Tm}(hp:0<=p)(hd:cb p d)(ht:Num p t.2.1 t.2.2):cb p (cK p d t):=by
 intro e he;unfold cK at he
 split at he
 ·obtain⟨e0,h0,rfl⟩:=YG.mp he
  by_cases q:e0.1=t.1
  ·rw[Yh q];exact oM hp (hd e0 h0) ht
  ·rw[Yd q];exact hd e0 h0
 ·rcases YI.mp he with he|he
  ·exact hd e he
  ·have:e=t:=by simpa using he
   rw[this];exact ht
theorem Dx (V:Val p R v){x:Int×Int}(hx:Num p x.1 x.2)(k:List Int)(F:List Int->R):∀{d:List Tm},cb p d->(d.map (·.1)).Nodup →
 S v (d.map λe=>if e.1=k then(e.1,cV p e.2 x) else e) F=S v d F+(if d.any (λe=>decide (e.1=k))=true then v x*F k else 0)
 |[],_,_=>by show(0:R)=0+0;grind
 |e::d,hn,hd=>by
  rw[YF] at hd;obtain⟨h1,h2⟩:=YT.mp hd;have JE:cb p d:=λe he=>hn e (Yi _ he);have ih:=Dx V hx k F JE h2;rw[YF,yn]
  by_cases q:e.1=k
  ·have no:d.any (λe=>decide (e.1=k))=false:=by
    rw[ED];intro e' Ho z
    have:e'.1=k:=by simpa using z
    exact h1 (YG.mpr ⟨e',Ho,by rw[this,q]⟩)
   rw[no,Yd (by simp)] at ih;rw[Yh q,no,YD q];have ev:v (cV p e.2 x)=v e.2+v x:=(V.set (hn e Yl) hx).1 rfl rfl;show v (cV p e.2 x)*F e.1+S v (d.map _) F=v e.2*F e.1+S v d F+v x*F k;rw[ih,ev,q];grind
  ·rw[Yd q,Yu q,Bool.false_or];show v e.2*F e.1+S v (d.map _) F=v e.2*F e.1+S v d F+_;rw[ih];grind
theorem CS (V:Val p R v){t:Tm}(hn:cb p d)(ht:Num p t.2.1 t.2.2)(hd:(d.map (·.1)).Nodup)(F:List Int->R):S v (cK p d t) F=S v d F+v t.2*F t.1:=by
 unfold cK
 split
 ·rename_i q
  rw[Dx V ht t.1 F hn hd,Yh q]
 ·rw[ik];show S v d F+(v t.2*F t.1+0)=_;grind
theorem sG (V:Val p R v)(hp:0<=p)(F:List Int->R):∀(ts d:List Tm),cb p ts->cb p d->(d.map (·.1)).Nodup →
 S v (ts.foldl (cK p) d) F=S v d F+S v ts F/\cb p (ts.foldl (cK p) d)/\((ts.foldl (cK p) d).map (·.1)).Nodup
 |[],d,_,hn,hd=>⟨by show S v d F=S v d F+0;grind,hn,hd⟩
 |t::ts,d,ht,hn,hd=>by
  have h1:=ht t Yl;obtain⟨i1,i2⟩:=sG V hp F ts (cK p d t) (λe he=>ht e (Yi _ he)) (wL hp hn h1) (me hd);refine⟨?_,i2⟩;show S v (ts.foldl (cK p) (cK p d t)) F=S v d F+(v t.2*F t.1+S v ts F);rw[i1,CS V hn h1 hd];grind
theorem gs (V:Val p R v)(hp:0<=p)(h:cb p ts)(F:List Int->R):S v (aW p ts) F=S v ts F/\cb p (aW p ts)/\((aW p ts).map (·.1)).Nodup:=by
 obtain⟨h1,h2⟩:=sG V hp F ts [] h (λe he=>nomatch he) vB;refine⟨?_,h2⟩;show S v (ts.foldl (cK p) []) F=_;rw[h1];show(0:R)+S v ts F=S v ts F;grind
theorem yA {t b:Int}(h:Num p t b)(z:t=0):b=1:=by
 have:=h.red;have:=h.pos;rw[z,Int.gcd_zero_left] at *;omega
theorem oA (V:Val p R v)(F:List Int->R):∀{d:List Tm},cb p d->S v (d.filter λe=>e.2.1 != 0) F=S v d F
 |[],_=>rfl
 |e::d,h=>by
  have ih:=oA V F (d:=d) λe he=>h e (Yi _ he)
  by_cases q:e.2.1=0
  ·rw[u6 (by simp[q]),ih];have e2:e.2=(0,1):=zD q (yA (h e Yl) q);show _=v e.2*F e.1+S v d F;rw[e2,V.zero];grind
  ·rw[NI (by simp[q])];show v e.2*F e.1+S v _ F=v e.2*F e.1+S v d F;rw[ih]
theorem eV (d:List Tm):(eu d).Perm (d.filter λe=>e.2.1 != 0):=by
 unfold eu;have h:=(cz ((d.filter λe=>e.2.1 != 0).map λe=>(eC e,e))).map (·.2);rw[CL] at h;have e:((λx:Ky×Tm=>x.2) ∘ λe=>(eC e,e))=id:=rfl;rw[e,List.map_id] at h;exact h
theorem BN (V:Val p R v)(h:cb p d)(F:List Int->R):S v (eu d) F=S v d F:=by
 rw[CK (eV d),oA V F h]
theorem wX (h:cb p d):cb p (eu d):=λe he=>h e (Y7.mp ((eV d).mem_iff.mp he)).1
theorem BW (V:Val p R v)(hp:0<=p)(h:cb p ts)(F:List Int->R):S v (eu (aW p ts)) F=S v ts F:=by
 obtain⟨h1,h2,_⟩:=gs V hp h F;rw[BN V h2,h1]
theorem Bt (V:Val p R v)(hp:0<=p)(h:cb p ts):cb p (eu (aW p ts)):=wX (gs V hp h λ_=>0).2.1
noncomputable def dl (k:List Int):List Int->R:=λi=>if i=k then 1 else 0
theorem Cp {k:List Int}:∀{d:List Tm},k∉d.map (·.1)->S v d (dl k)=0
 |[],_=>rfl
 |e::d,h=>by
  rw[YF,Yn,uG] at h;show v e.2*(if e.1=k then 1 else 0)+S v d (dl k)=0;rw[Yd (λz=>h.1 z.symm),Cp h.2];grind
theorem Bn:∀{d:List Tm}{e:Tm},(d.map (·.1)).Nodup->e∈d->S v d (dl e.1)=v e.2
 |x::d,e,hd,he=>by
  rw[YF] at hd;obtain⟨h1,h2⟩:=YT.mp hd;show v x.2*(if x.1=e.1 then 1 else 0)+S v d (dl e.1)=v e.2
  rcases Yn.mp he with rfl|he
  ·rw[Yh rfl,Cp h1];grind
  ·rw[Yd (λz=>h1 (YG.mpr ⟨e,he,z.symm⟩)),Bn h2 he];grind
theorem pH (V:Val p R v){c:List Tm}(hn:cb p d)(hd:(d.map (·.1)).Nodup)(cn:cb p c)(cd:(c.map (·.1)).Nodup)(h:∀F:List Int->R,S v d F=S v c F){e:Tm}(he:e∈d.filter λe=>e.2.1 != 0):e∈c.filter λe=>e.2.1 != 0:=by
 obtain⟨h1,h2⟩:=Y7.mp he;refine Y7.mpr ⟨?_,h2⟩;have e1:=Bn (v:=v) hd h1;rw[h] at e1
 by_cases k:e.1∈c.map (·.1)
 ·obtain⟨e',Ho,ek⟩:=YG.mp k;have e2:=Bn (v:=v) cd Ho;rw[ek,e1] at e2;have e3:=V.inj (hn e h1) (cn e' Ho) e2;have:e=e':=zD ek.symm e3;rw[this];exact Ho
 ·rw[Cp k] at e1;have e3:=V.inj (a:=(0,1)) (c:=e.2) ⟨by decide,by decide,λz=>⟨rfl,by decide,?_⟩⟩ (hn e h1) (V.zero.trans e1)
  ·rw[<-e3] at h2;exact absurd h2 (by decide)
  ·have:=((hn e h1).pr z).2;show(0:Int)<p;omega
theorem oh (h:(d.map (·.1)).Nodup):d.Nodup:=by
 induction d with
 |nil=>exact vB
 |cons e d ih =>
  rw[YF] at h;obtain⟨h1,h2⟩:=YT.mp h;exact YT.mpr ⟨λz=>h1 (YG.mpr ⟨e,z,rfl⟩),ih h2⟩
theorem zH (V:Val p R v){c:List Tm}(hn:cb p d)(hd:(d.map (·.1)).Nodup)(cn:cb p c)(cd:(c.map (·.1)).Nodup)(h:∀F:List Int->R,S v d F=S v c F):eu d=eu c:=by
 have nd:=(oh hd).filter (λe:Tm=>e.2.1 != 0);have nc:=(oh cd).filter (λe:Tm=>e.2.1 != 0);have pm:(d.filter λe=>e.2.1 != 0).Perm (c.filter λe=>e.2.1 != 0):=(List.perm_ext_iff_of_nodup nd nc).mpr λe=>⟨pH V hn hd cn cd h,pH V cn cd hn hd λF=>(h F).symm⟩;unfold eu;congr 1;refine oI ?_ (pm.map _);rw[CL];have cf:((c.filter λe=>e.2.1 != 0).map (·.1)).Nodup:=cd.sublist (yU.map _);generalize (c.filter λe=>e.2.1 != 0)=l at cf
 induction l with
 |nil=>exact vB
 |cons e l ih =>
  rw[YF] at cf |-;obtain⟨h1,h2⟩:=YT.mp cf;refine YT.mpr ⟨λz=>?_,ih h2⟩;obtain⟨x,hx,ex⟩:=YG.mp z;have ex:eC x=eC e:=ex;exact h1 (YG.mpr ⟨x,hx,Ze Prod.snd ex⟩)
theorem AD (V:Val p R v)(hp:0<=p){us:List Tm}(ht:cb p ts)(hu:cb p us)(h:∀F:List Int->R,S v ts F=S v us F):eu (aW p ts)=eu (aW p us):=by
 obtain⟨_,t1,t2⟩:=gs V hp ht λ_=>0;obtain⟨_,u1,u2⟩:=gs V hp hu λ_=>0
 exact zH V t1 t2 u1 u2 λF=>by rw[(gs V hp ht F).1,(gs V hp hu F).1,h]
end
end K44
namespace St
open PySem
noncomputable abbrev T:=SetTable
noncomputable def Up (xs:Array Nat):Prop:=∀i j,i<j->j<xs.size->xs.getD i 0<xs.getD j 0
noncomputable def Eb (xs:Array Nat)(j r:Nat):Prop:=r<=xs.size/\(∀k,k<r->xs.getD k 0<j)/\∀k,r<=k->k<xs.size->j<=xs.getD k 0
variable {xs:Array Nat}{k:Nat}
theorem xT {d e:Nat}(h:k<xs.size):xs.getD k d=xs.getD k e:=by
 simp[Array.getD,h]
variable {j:Nat}
theorem BA (u:Up xs):∀(f lo hi:Nat),lo<=hi->hi<=xs.size->hi-lo<=f->(∀k,k<lo->xs.getD k 0<j)->(∀k,hi<=k->k<xs.size->j<=xs.getD k 0) →
 Eb xs j (SetTable.below.go xs j f lo hi):=by
 intro f
 induction f with
 |zero =>
  intro lo hi h1 h2 h3 h4 h5
  have e:lo=hi:=by omega
  subst e;exact⟨h2,h4,h5⟩
 |succ f ih =>
  intro lo hi h1 h2 h3 h4 h5;unfold SetTable.below.go
  by_cases h:lo<hi
  ·rw[Yh h]
   have hm:(lo+hi)/2<xs.size:=by omega
   have e:xs.getD ((lo+hi)/2) j=xs.getD ((lo+hi)/2) 0:=xT hm;dsimp only;rw[e]
   by_cases g:xs.getD ((lo+hi)/2) 0<j
   ·rw[Yh g];refine ih _ _ (by omega) h2 (by omega) (λk hk=>?_) h5
    rcases Z0 k ((lo+hi)/2) with q|q
    ·exact YX (u _ _ q hm) g
    ·have:k=(lo+hi)/2:=by omega
     rw[this];exact g
   ·rw[Yd g];refine ih _ _ (by omega) (by omega) (by omega) h4 (λk hk Ut=>?_)
    rcases Z0 ((lo+hi)/2) k with q|q
    ·exact Yq (Nat.not_lt.mp g) (Zi (u _ _ q Ut))
    ·have:k=(lo+hi)/2:=by omega
     rw[this];exact Nat.not_lt.mp g
  ·rw[Yd h]
   have e:lo=hi:=by omega
   subst e;exact⟨h2,h4,h5⟩
theorem eP (u:Up xs)(j:Nat):Eb xs j (SetTable.below xs j):=
 BA u _ _ _ (Yt _) (Ye _) (by omega) (λk hk=>absurd hk (zx _)) (λk h1 h2=>absurd h1 (by omega))
theorem qU {r q:Nat}(a:Eb xs j r)(b:Eb xs j q):r=q:=by
 rcases pR r q with h|h|h
 ·have h1:=b.2.1 r h;have h2:=a.2.2 r (Ye _) (Ys h b.1);omega
 ·exact h
 ·have h1:=a.2.1 q h;have h2:=b.2.2 q (Ye _) (Ys h a.1);omega
theorem rN (u:Up xs):SetTable.below xs 0=0 :=
 qU (eP u 0) ⟨Yt _,λk hk=>absurd hk (zx _),λ_ _ _=>Yt _⟩
variable {i:Nat}
theorem qT (u:Up xs)(h:i<xs.size):SetTable.below xs (xs.getD i 0+1)=i+1:=by
 refine qU (eP u _) ⟨h,λk hk=>?_,λk h1 h2=>?_⟩
 ·rcases Z0 k i with q|q
  ·exact ZK (u _ _ q h)
  ·have:k=i:=by omega
   rw[this];exact x6 _
 ·exact u _ _ (by omega) h2
theorem rn (h:i<xs.size):xs[i]?=some (xs.getD i 0):=by
 simp[Array.getD,h]
noncomputable def vQ (xs:Array Nat)(j:Nat):Prop:=∃k,k<xs.size/\xs.getD k 0=j
theorem l7 {t:T}(u:Up t.place)(h:vQ t.place j):∃i,t.slot j=.live i:=by
 obtain⟨k,hk,rfl⟩:=h
 have hb:SetTable.below t.place (t.place.getD k 0)=k:=by
  refine qU (eP u _) ⟨Zi hk,λq hq=>u _ _ hq hk,λq h1 h2=>?_⟩
  rcases Z0 k q with g|g
  ·exact Zi (u _ _ g h2)
  ·have:q=k:=by omega
   rw[this];exact Ye _
 refine⟨k,?_⟩;unfold SetTable.slot;dsimp only;rw[hb,rn hk];simp
theorem iL {t:T}(u:Up t.place)(d:t.dummies = #[])(h:¬vQ t.place j):t.slot j=.empty:=by
 unfold SetTable.slot;dsimp only
 have e:(t.place[SetTable.below t.place j]?==some j)=false:=by
  rcases Z0 (SetTable.below t.place j) t.place.size with g|g
  ·rw[rn g];have:t.place.getD (SetTable.below t.place j) 0≠j:=λq=>h ⟨_,g,q⟩;simpa using this
  ·rw[Zu g];rfl
 have e2:SetTable.has t.dummies j=false:=by rw[d];simp[SetTable.has]
 rw[e,e2];rfl
theorem eI {α:Type}(xs:Array α)(p:Nat)(x:α)(h:p<=xs.size):(SetTable.insertAt xs p x).size=xs.size+1:=by
 rw[<-Yz,SetTable.toList_insertAt];simp;omega
theorem gJ {p x:Nat}(h:p<=xs.size):(SetTable.insertAt xs p x).getD k 0=if k<p then xs.getD k 0 else if k=p then x else xs.getD (k-1) 0:=by
 have e:∀(ys:Array Nat)(k:Nat),ys.getD k 0=(ys.toList[k]?).getD 0:=by
  intro ys k;rw[vD,rG]
 rw[e,e,e,SetTable.toList_insertAt]
 have hl:(xs.toList.take p).length=p:=by simp[h]
 by_cases g:k<p
 ·rw[Yh g,B8 (by omega),List.getElem?_take_of_lt g]
 ·rw[Yd g,DV (by omega),hl]
  by_cases g2:k=p
  ·subst g2;simp
  ·rw[Yd g2];obtain⟨q,hq⟩:∃q,k=p+(q+1):=⟨k-p-1,by omega⟩;subst hq;rw[show p+(q+1)-p=q+1 from by omega,List.getElem?_cons_succ,List.getElem?_drop,show p+(q+1)-1=p+q from by omega]
theorem vc (u:Up xs)(h:¬vQ xs j):Up (SetTable.insertAt xs (SetTable.below xs j) j):=by
 obtain⟨c1,c2,c3⟩:=eP u j;generalize SetTable.below xs j=p at c1 c2 c3;intro a b Ii hb;rw[eI _ _ _ c1] at hb;rw[gJ c1,gJ c1];have gt:∀k,p<=k->k<xs.size->j<xs.getD k 0:=λk h1 h2=>Nat.lt_of_le_of_ne (c3 k h1 h2) λe=>h ⟨k,h2,e.symm⟩
 by_cases ha:a<p
 ·rw[Yh ha]
  by_cases Jb:b<p
  ·rw[Yh Jb];exact u _ _ Ii (by omega)
  ·rw[Yd Jb]
   by_cases KG:b=p
   ·rw[Yh KG];exact c2 _ ha
   ·rw[Yd KG];exact YX (c2 _ ha) (gt _ (by omega) (by omega))
 ·rw[Yd ha]
  by_cases Hs:a=p
  ·rw[Yh Hs,Yd (by omega),Yd (by omega)];exact gt _ (by omega) (by omega)
  ·rw[Yd Hs,Yd (by omega),Yd (by omega)];exact u _ _ (by omega) (by omega)
noncomputable def it (m:Nat):Nat->Nat->Nat
 |0,x=>x
 |n+1,x=>it m n ((x*5+1)%m)
theorem qS (m a:Nat):∀b x,it m (b+a) x=it m a (it m b x):=by
 intro b
 induction b with
 |zero=>intro x;rw[zF];rfl
 |succ b ih=>intro x;rw[Nat.succ_add];exact ih _
noncomputable def round (m:Nat):Bool:=it m m 0==0&&(List.range m).all λy=>(List.range m).any λn=>it m n 0==y
variable {m:Nat}
theorem DD (h:round m=true){x y:Nat}(hx:x<m)(hy:y<m):∃n,n<m/\it m n x=y:=by
 obtain⟨h1,h2⟩:=YK.mp h
 have h0:it m m 0=0:=by simpa using h1
 have on:∀y,y<m->∃n,n<m/\it m n 0=y:=λy hy=>by
  have h3:=ZQ.mp h2 y (ZD.mpr hy);obtain⟨n,hn,e⟩:=ZC.mp h3;exact⟨n,ZD.mp hn,by simpa using e⟩
 obtain⟨a,ha,rfl⟩:=on x hx;obtain⟨b,hb,rfl⟩:=on y hy
 rcases Z0 b a with g|g
 ·refine⟨(m-a)+b,by omega,?_⟩
  have e:it m (m-a) (it m a 0)=0:=by rw[<-qS,show a+(m-a)=m from by omega,h0]
  rw[qS,e]
 ·exact⟨b-a,by omega,by rw[<-qS,show a+(b-a)=b from by omega]⟩
theorem Bs:round 8=true:=by decide +kernel
theorem Af:round 32=true:=by decide +kernel
theorem wz:round 128=true:=by decide +kernel
noncomputable def ki (k:Nat):Prop:=k=7\/k=31\/k=127
theorem ki.round (h:ki k):St.round (k+1)=true:=by
 rcases h with rfl|rfl|rfl
 ·exact Bs
 ·exact Af
 ·exact wz
noncomputable def lp (mask:Nat):Nat->Nat->Nat->Nat×Nat
 |0,i,p=>(i,p)
 |n+1,i,p=>lp mask n (SetTable.leap mask i p).1 (SetTable.leap mask i p).2
theorem Cw (mask a:Nat):∀b i p,lp mask (b+a) i p=lp mask a (lp mask b i p).1 (lp mask b i p).2:=by
 intro b
 induction b with
 |zero=>intro i p;rw[zF];rfl
 |succ b ih=>intro i p;rw[Nat.succ_add];exact ih _ _
theorem EU (mask:Nat):∀n i p,(lp mask n i p).2=p/32^n:=by
 intro n
 induction n with
 |zero=>intro i p;show p=_;rw[Nat.pow_zero,Nat.div_one]
 |succ n ih =>
  intro i p;show(lp mask n _ _).2=_;rw[ih];show p/32/32^n=_;rw[Nat.div_div_eq_div_mul,Nat.pow_succ,Nat.mul_comm]
theorem Da (mask:Nat):∀n i p,i<mask+1->(lp mask n i p).1<mask+1:=by
 intro n
 induction n with
 |zero=>intro i p h;exact h
 |succ n ih=>intro i p h;exact ih _ _ (CZ _ (CH _))
theorem De (mask:Nat):∀n i,(lp mask n i 0).1=it (mask+1) n i:=by
 intro n
 induction n with
 |zero=>intro i;rfl
 |succ n ih=>intro i;exact ih _
variable {mask:Nat}
theorem AQ (hm:ki mask){p y:Nat}(hi:i<mask+1)(hp:p<2^64)(hy:y<mask+1):∃n,n<mask+15/\(lp mask n i p).1=y:=by
 have e:(lp mask 13 i p).2=0:=by
  rw[EU];exact Nat.div_eq_of_lt (YX hp (by decide))
 obtain⟨n,hn,h⟩:=DD hm.round (Da mask 13 i p hi) hy;refine⟨13+n,by omega,?_⟩;rw[Cw,e,De,h]
theorem sM (h:Int):SetTable.bits h<2^64:=by
 unfold SetTable.bits;have h1:0<=h%(2^64:Int):=Zw _ (by decide);have h2:h%(2^64:Int)<2^64:=Zd _ (by decide);omega
theorem xg (h:i<mask+1):SetTable.runEnd mask i<mask+1/\i<=SetTable.runEnd mask i/\SetTable.runEnd mask i<=i+9:=by
 unfold SetTable.runEnd
 split <;> omega
variable {owner:Array (Option Nat)}
theorem Ag :∀(n f i p y:Nat),i<mask+1->n<f->(lp mask n i p).1=y->owner.getD y (some 0)=none →
 ∃j,SetTable.layClean.free mask owner f i p=some j/\owner.getD j (some 0)=none:=by
 intro n
 induction n with
 |zero =>
  intro f i p y hi hf hy ho;obtain⟨f,rfl⟩:∃g,f=g+1:=⟨f-1,by omega⟩
  cases(show i=y from hy)
  unfold SetTable.layClean.free
  cases e:(List.range (SetTable.runEnd mask i+1-i)).find? λk=>(owner.getD (i+k) (some 0)).isNone with
  |some k =>
   have:=List.find?_some e;exact⟨i+k,rfl,by simpa using this⟩
  |none =>
   have h0:=List.find?_eq_none.mp e 0 (ZD.mpr (by have:=xg hi;omega));rw[Nat.add_zero,ho] at h0;exact absurd rfl h0
 |succ n ih =>
  intro f i p y hi hf hy ho;obtain⟨f,rfl⟩:∃g,f=g+1:=⟨f-1,by omega⟩;unfold SetTable.layClean.free
  cases e:(List.range (SetTable.runEnd mask i+1-i)).find? λk=>(owner.getD (i+k) (some 0)).isNone with
  |some k =>
   have:=List.find?_some e;exact⟨i+k,rfl,by simpa using this⟩
  |none=>exact ih f _ _ y (CZ _ (CH _)) (by omega) hy ho
theorem uO {t:T}{h:Int}(u:Up t.place)(d:t.dummies = #[]){F:Nat}:∀(k f:Nat)(p:SetTable.Probe),p.more=k->p.dummy=none->k+1+F=f →
 (∀q:SetTable.Probe,q.j=q.i->q.more=SetTable.runEnd t.mask q.i-q.i->q.dummy=none->(q.i,q.perturb)=SetTable.leap t.mask p.i p.perturb->∃j,SetTable.probe.go t (λ_=>h+1) h F q=some (.empty j none)/\¬vQ t.place j) →
 ∃j,SetTable.probe.go t (λ_=>h+1) h f p=some (.empty j none)/\¬vQ t.place j:=by
 intro k
 induction k with
 |zero =>
  intro f p hk hd hf hn;obtain⟨f,rfl⟩:∃g,f=g+1:=⟨f-1,by omega⟩
  have hF:F=f:=by omega
  subst hF;unfold SetTable.probe.go
  by_cases g:vQ t.place p.j
  ·obtain⟨i,e⟩:=l7 u g;rw[e];dsimp only;rw[Yd (by simp;omega)];refine hn _ ?_ ?_ ?_ ?_ <;> unfold SetTable.advance <;> rw[Yd (by omega)]
   ·exact hd
  ·rw[iL u d g];exact⟨_,by rw[hd],g⟩
 |succ k ih =>
  intro f p hk hd hf hn;obtain⟨f,rfl⟩:∃g,f=g+1:=⟨f-1,by omega⟩;unfold SetTable.probe.go
  by_cases g:vQ t.place p.j
  ·obtain⟨i,e⟩:=l7 u g;rw[e];dsimp only;rw[Yd (by simp;omega)]
   have ea:t.advance p={p with j:=p.j+1,more:=p.more-1}:=by unfold SetTable.advance;rw[Yh (by omega)]
   rw[ea];exact ih f _ (by show p.more-1=k;omega) hd (by omega) hn
  ·rw[iL u d g];exact⟨_,by rw[hd],g⟩
theorem wa {t:T}{h:Int}(u:Up t.place)(d:t.dummies = #[]):∀(n f:Nat)(p:SetTable.Probe)(y:Nat),p.i<t.mask+1->p.j=p.i->p.more=SetTable.runEnd t.mask p.i-p.i->p.dummy=none →
 10*n<f->(lp t.mask n p.i p.perturb).1=y->¬vQ t.place y->∃j,SetTable.probe.go t (λ_=>h+1) h f p=some (.empty j none)/\¬vQ t.place j:=by
 intro n
 induction n with
 |zero =>
  intro f p y hi hj hm hd hf hy hn;obtain⟨f,rfl⟩:∃g,f=g+1:=⟨f-1,by omega⟩;have e:p.j=y:=hj.trans hy;unfold SetTable.probe.go;rw[e,iL u d hn];exact⟨_,by rw[hd],hn⟩
 |succ n ih =>
  intro f p y hi hj hm hd hf hy hn;have hr:=xg hi;refine uO u d (F:=f-(p.more+1)) p.more f p rfl hd (by omega) λq q1 q2 q3 q4=>?_;have e1:q.i=(SetTable.leap t.mask p.i p.perturb).1:=Ze Prod.fst q4;have e2:q.perturb=(SetTable.leap t.mask p.i p.perturb).2:=Ze Prod.snd q4;refine ih _ q y (by rw[e1];exact CZ _ (CH _)) q1 q2 q3 (by omega) ?_ hn;rw[e1,e2];exact hy
theorem Bu (u:Up xs):∀m,(∀y,y<m+1->vQ xs y)->∃k,k<xs.size/\xs.getD k 0=m/\m<=k:=by
 intro m
 induction m with
 |zero=>intro h;obtain⟨k,hk,e⟩:=h 0 (by omega);exact⟨k,hk,e,Yt _⟩
 |succ m ih =>
  intro h;obtain⟨k,hk,e,hl⟩:=ih λy hy=>h y (by omega);obtain⟨q,hq,e2⟩:=h (m+1) (by omega);refine⟨q,hq,e2,?_⟩
  rcases pR k q with g|g|g
  ·omega
  ·subst g;omega
  ·have:=u _ _ g hk;omega
theorem DB (u:Up xs)(h:xs.size<m+1):∃y,y<m+1/\¬vQ xs y:=by
 refine CQ λn=>?_;obtain⟨k,hk,_,hl⟩:=Bu u m λy hy=>CQ λg=>n ⟨y,hy,g⟩;omega
theorem vy {t:T}(hm:ki t.mask)(u:Up t.place)(d:t.dummies = #[])(hs:t.place.size<t.mask+1)(h:Int):∃j,t.freeSlot h=some (j,false)/\¬vQ t.place j:=by
 obtain⟨y,hy,hn⟩:=DB u hs;have hi:SetTable.bits h%(t.mask+1)<t.mask+1:=CZ _ (CH _);obtain⟨n,hl,e⟩:=AQ hm hi (sM h) hy;obtain⟨j,e2,hj⟩:=wa (h:=h) u d n (10*SetTable.turns t.mask) (t.probeStart h) y hi rfl rfl rfl (by unfold SetTable.turns;omega) e hn;refine⟨j,?_,hj⟩;unfold SetTable.freeSlot SetTable.probe;rw[e2];rfl
noncomputable def yZ (owner:Array (Option Nat))(m:Nat):List Nat:=(List.range m).filterMap λj=>owner.getD j none
structure Laid (owner:Array (Option Nat))(m k:Nat):Prop where
 size:owner.size=m
 all:(yZ owner m).Perm (List.range k)
theorem getD_none (h:owner.getD j (some 0)=none):j<owner.size/\owner.getD j none=none:=by
 rcases Z0 j owner.size with g|g
 ·refine⟨g,?_⟩;rw[<-h];simp[Array.getD,g]
 ·simp[Array.getD,Nat.not_lt.mpr g] at h
theorem oo {α β:Type}{f:α->Option β}:∀{l:List α},(∀x,x∈l->f x≠none)->(l.filterMap f).length=l.length
 |[],_=>rfl
 |x::l,h=>by
  obtain⟨y,e⟩:=Option.ne_none_iff_exists'.mp (h x Yl);rw[List.filterMap_cons_some e,YC,YC,oo λz hz=>h z (Yi _ hz)]
theorem Laid.DB (L:Laid owner m k)(h:k<m):∃y,y<m/\owner.getD y (some 0)=none:=by
 refine CQ λn=>?_
 have e:(yZ owner m).length=m:=by
  unfold yZ;rw[oo,uH];intro y hy e;have JI:=ZD.mp hy;refine n ⟨y,JI,?_⟩;rw[<-e];simp[Array.getD,L.size,JI]
 rw[L.all.length_eq,uH] at e;omega
theorem jH {α β:Type}{f g:α->Option β}:∀{l:List α},(∀x,x∈l->f x=g x)->l.filterMap f=l.filterMap g
 |[],_=>rfl
 |x::l,h=>by
  rw[Zf,Zf,h x Yl,jH λz hz=>h z (Yi _ hz)]
theorem Ap (hs:owner.size=m)(hj:j<m)(ho:owner.getD j none=none):(yZ (owner.setIfInBounds j (some k)) m).Perm (k::yZ owner m):=by
 obtain⟨a,b,e⟩:=List.append_of_mem (ZD.mpr hj);have nd:(a++j::b).Nodup:=e▸List.nodup_range
 have na:∀x,x∈a->x≠j:=λx hx q=>by
  rw[CT] at nd;exact nd.2.2 x hx j Yl q
 have nb:∀x,x∈b->x≠j:=λx hx q=>by
  rw[CT] at nd;exact(YT.mp nd.2.1).1 (q▸hx)
 have ne:∀x,x≠j->(owner.setIfInBounds j (some k)).getD x none=owner.getD x none:=λx hx=>by
  rw[rG,rG,EW (YM hx)]
 have ej:(owner.setIfInBounds j (some k)).getD j none=some k:=by
  rw[rG,Array.getElem?_setIfInBounds_self_of_lt (by omega)];rfl
 unfold yZ;rw[e,List.filterMap_append,List.filterMap_append,Zf,Zf,ej,ho];dsimp only;rw[jH λx hx=>ne x (na x hx),jH λx hx=>ne x (nb x hx)];exact List.perm_middle
theorem vh (hm:ki mask):∀(hs:List Int)(owner:Array (Option Nat))(k:Nat),Laid owner (mask+1) k->k+hs.length<mask+1 →
 ∃Ht,hs.foldl (λacc h=>do
  let(owner,k) <-acc
  let j <-SetTable.layClean.free mask owner (SetTable.turns mask) (SetTable.bits h%(mask+1)) (SetTable.bits h)
  pure (owner.setIfInBounds j (some k),k+1)) (some (owner,k))=some (Ht,k+hs.length)/\Laid Ht (mask+1) (k+hs.length):=by
 intro hs
 induction hs with
 |nil=>intro owner k L _;exact⟨owner,rfl,L⟩
 |cons h hs ih =>
  intro owner k L hl;rw[YC] at hl;obtain⟨y,hy,ho⟩:=L.DB (by omega);have hi:SetTable.bits h%(mask+1)<mask+1:=CZ _ (CH _);obtain⟨n,hn,e⟩:=AQ hm hi (sM h) hy;obtain⟨j,ej,hj⟩:=Ag n (SetTable.turns mask) _ _ y hi (by unfold SetTable.turns;omega) e ho;obtain⟨j1,j2⟩:=getD_none hj
  have L':Laid (owner.setIfInBounds j (some k)) (mask+1) (k+1):=by
   refine⟨by rw[Array.size_setIfInBounds];exact L.size,(Ap L.size (by rw[<-L.size];exact j1) j2).trans ?_⟩;rw[List.range_succ];exact(List.Perm.cons k L.all).trans (List.perm_append_singleton k _).symm
  obtain⟨o',e',l'⟩:=ih _ _ L' (by omega);refine⟨o',?_,by rw[YC,show k+(hs.length+1)=k+1+hs.length from by omega];exact l'⟩;rw[List.foldl_cons,YC,show k+(hs.length+1)=k+1+hs.length from by omega];show List.foldl _ ((SetTable.layClean.free mask owner (SetTable.turns mask) (SetTable.bits h%(mask+1)) (SetTable.bits h)).bind _) hs=_;rw[ej];exact e'
theorem wI (m:Nat):yZ (Array.replicate m none) m=[]:=by
 unfold yZ;rw[List.filterMap_eq_nil_iff];intro j hj;have Jh:=ZD.mp hj;simp[Array.getD,Jh]
theorem rR (hm:ki mask)(hs:Array Int)(h:hs.size<mask+1):∃owner,SetTable.layClean mask hs=some owner/\Laid owner (mask+1) hs.size:=by
 obtain⟨o,e,l⟩:=vh hm hs.toList (Array.replicate (mask+1) none) 0 ⟨Array.size_replicate,by rw[wI];exact Az _⟩ (by rw[Yz];omega);rw[Yz,zF] at e l;refine⟨o,?_,l⟩;unfold SetTable.layClean;rw[<-Array.foldl_toList];rw[e];rfl
theorem DJ {l:List Nat}(h:l.Pairwise (· < ·)):Up l.toArray:=by
 intro i j GD hj;rw[Yj] at hj;have:=ZW.mp h i j (by omega) hj GD;rw[show l.toArray.getD i 0=l[i] from by simp[Array.getD,show i<l.length from by omega],show l.toArray.getD j 0=l[j] from by simp[Array.getD,hj]];exact this
theorem pZ {t:T}{hs:Array Int}{wanted:Nat}(em:SetTable.sizeAbove wanted-1=mask)(hm:ki mask)(h:hs.size<mask+1):
 ∃t' order,t.relaid hs wanted=some (t',order)/\t'.mask=mask/\t'.dummies = #[]/\t'.led=t.led/\t'.plain=t.plain/\Up t'.place/\t'.place.size=hs.size/\order.toList.Perm (List.range hs.size):=by
 obtain⟨o,e,l⟩:=rR hm hs h;unfold SetTable.relaid SetTable.laid;rw[em,e];refine⟨_,_,rfl,rfl,rfl,rfl,rfl,?_,?_,?_⟩
 ·dsimp only;rw[wc];refine DJ (List.Pairwise.filterMap _ (λa a' Uu b hb b' FZ=>?_) (List.pairwise_lt_range (n:=mask+1)))
  cases ea:o.getD a none with
  |none=>rw[ea] at hb;cases hb
  |some x =>
   cases Rl:o.getD a' none with
   |none=>rw[Rl] at FZ;cases FZ
   |some x' =>
    rw[ea] at hb;rw[Rl] at FZ
    cases hb;cases FZ
    exact Uu
 ·have e1:=l.all.length_eq;rw[uH] at e1;dsimp only;rw[Yj,Yg,<-e1];unfold yZ;rw[show(λj=>o.getD j none)=(λj=>((o.getD j none).map (j,·)).map Prod.snd) from funext λj=>by cases o.getD j none <;> rfl,<-wc,Yg]
 ·dsimp only;rw[wc]
  have e2:(λx=>Option.map (λx=>x.snd) (Option.map (λx_1=>(x,x_1)) (o.getD x none)))=λj=>o.getD j none:=funext λj=>by cases o.getD j none <;> rfl
  rw[e2];exact l.all
structure Ok (led:Bool)(n:Nat)(t:T):Prop where
 mask:ki t.mask
 room:n*5<t.mask*3
 size:t.place.size=n
 up:Up t.place
 dum:t.dummies = #[]
 plain:t.plain=true
 led:t.led=led
variable {led:Bool}{n:Nat}
theorem Ok.fits {t:T}(o:Ok led n t):t.fits n=true:=by
 have h1:=o.room;have h2:=o.size;simp only[SetTable.fits,SetTable.fill,Yy,BS,Bl,o.dum];refine⟨h2,?_⟩;rw[h2,BK];omega
theorem Ok.fresh (led:Bool):Ok led 0 (.fresh 0 0 led):=
 ⟨.inl rfl,by show 0*5<7*3;decide,rfl,λi j _ h=>absurd h (zx _),rfl,rfl,rfl⟩
theorem zC {t:T}(o:Ok led n t){es:Array (Int×Value)}(he:es.size=n)(h:Int)(x:Value):∃es' t',layNew t es h x=(es',t',false,false)/\es'.size=n+1 /\
 ki t'.mask/\t'.mask=t.mask/\t'.place.size=n+1/\Up t'.place/\t'.dummies = #[]/\t'.plain=true/\t'.led=led/\t'.fits (n+1)=true:=by
 have hr:=o.room;have hs:=o.size;obtain⟨j,ej,hj⟩:=vy o.mask o.up o.dum (by rw[hs];omega) h;have c:=eP o.up j
 have e1:(SetTable.insertAt t.place (SetTable.below t.place j) j).size=n+1:=by rw[eI _ _ _ c.1,hs]
 have e2:(SetTable.insertAt es (SetTable.below t.place j) (h,x)).size=n+1:=by rw[eI _ _ _ (by have:=c.1;omega),he]
 have e3:SetTable.has t.dummies j=false:=by rw[o.dum];simp[SetTable.has]
 have ep:t.put j=({t with place:=SetTable.insertAt t.place (SetTable.below t.place j) j},SetTable.below t.place j):=by
  unfold SetTable.put;dsimp only;rw[e3];rfl
 have ef:SetTable.fits {t with place:=SetTable.insertAt t.place (SetTable.below t.place j) j} (n+1)=true:=by
  simp only[SetTable.fits,SetTable.fill,Yy,BS,Bl,o.dum];refine⟨e1,?_⟩;rw[e1,BK];omega
 refine⟨SetTable.insertAt es (SetTable.below t.place j) (h,x),{t with place:=SetTable.insertAt t.place (SetTable.below t.place j) j},?_,e2,o.mask,rfl,e1,vc o.up hj,o.dum,o.plain,o.led,ef⟩;unfold layNew;rw[ej];dsimp only;rw[ep];dsimp only;unfold SetTable.orStandIn;rw[e2,ef];rfl
theorem zG:SetTable.sizeAbove (SetTable.grown 5)-1=31:=by decide
theorem zN:SetTable.sizeAbove (SetTable.grown 19)-1=127:=by decide
theorem vi {t:T}(hn:n<76)(hm:ki t.mask)(hr:n*5<t.mask*3)(hs:t.place.size=n+1)(d:t.dummies = #[])(hp:t.plain=true)(hl:t.led=led)
 {es:Array (Int×Value)}(he:es.size=n+1)(hf:t.tooFull=true):∃es' t',relayAll t es (SetTable.grown es.size)=(es',t',false)/\es'.size=n+1/\Ok led (n+1) t':=by
 have full:(n+1)*5 ≥ t.mask*3:=by
  have:=hf;simp only[SetTable.tooFull,SetTable.fill,hs,d,BK,Bl] at this;omega
 have two:(t.mask=7/\n+1=5)\/(t.mask=31/\n+1=19):=by
  rcases hm with e|e|e <;> omega
 obtain⟨mask,em,M3,Fy,KH⟩:∃mask,SetTable.sizeAbove (SetTable.grown es.size)-1=mask/\ki mask/\n+1<mask+1/\(n+1)*5<mask*3:=by
  rw[he]
  rcases two with⟨_,e⟩|⟨_,e⟩
  ·exact⟨31,by rw[e];exact zG,.inr (.inl rfl),by omega,by omega⟩
  ·exact⟨127,by rw[e];exact zN,.inr (.inr rfl),by omega,by omega⟩
 have e0:(es.map (·.1)).size=n+1:=by rw[Array.size_map];exact he
 obtain⟨t',order,er,m1,m2,m3,m4,m5,m6,m7⟩:=pZ (t:=t) (hs:=es.map (·.1)) em M3 (by rw[e0];exact Fy);rw[e0] at m6 m7
 have es':(order.filterMap (es[·]?)).size=n+1:=by
  have:=(m7.filterMap (λi=>es[i]?)).length_eq;rw[<-he,filterMap_getElem?_range] at this;rw[<-Yz,Array.toList_filterMap];refine this.trans ?_;rw[Yz,he]
 have O:Ok led (n+1) t':=⟨by rw[m1];exact M3,by rw[m1];exact KH,m6,m5,m2,m4.trans hp,m3.trans hl⟩;refine⟨order.filterMap (es[·]?),t',?_,es',O⟩;unfold relayAll;rw[er];dsimp only
 have c:coversAll order es.size=true:=by unfold coversAll;rw[he];exact List.isPerm_iff.mpr m7
 rw[es',c,O.fits];rfl
open PyProof.Rows
noncomputable def num:Value->Int
 | .int n _=>n
 |_=>0
noncomputable abbrev Ent:=Int×Value
noncomputable def Ey (e:Ent):Prop:=∃n t,e=(hashInt n,.int n t)
structure EA (es:Array Ent)(ns:List Int):Prop where
 Eo:∀e,e∈es.toList->Ey e
 perm:(es.toList.map λe=>num e.2).Perm ns
noncomputable abbrev jg (es:Array Ent)(ep:Nat)(t:T):Obj:={cls:=.type "set",dict:=none,data:=.set es ep t,slots:=#[]}
noncomputable def jj (led:Bool)(h:Heap)(a:Addr)(ns:List Int):Prop:=∃es ep t,h.get? a=some (jg es ep t)/\EA es ns/\es.size=ns.length/\Ok led ns.length t
theorem oq:∀{vs:m8},(∀v,v∈vs->∃n t,v=.int n t)->IntsAre vs (vs.map num)
 |[],_=>.nil
 |v::vs,h=>by
  obtain⟨n,t,rfl⟩:=h v Yl;exact .cons n t (oq λu hu=>h u (Yi _ hu))
variable {es:Array Ent}{ns:List Int}{h:Heap}{a:Addr}{ep:Nat}
section
variable {prog:wu}{w:World}{A:Around}{E:ph}{s:Ci}
theorem EA.elems (c:EA es ns):ElemsOf (intKind prog w) es.toList:=by
 intro e he;obtain⟨n,t,rfl⟩:=c.Eo e he;exact⟨⟨n,wO _ _ _ _,rfl⟩,rfl⟩
theorem EA.has (c:EA es ns)(k:Int):(∃e,e∈es.toList/\(intKind prog w).is k e.2=true)↔k∈ns:=by
 rw[<-c.perm.mem_iff,YG];constructor
 ·rintro⟨e,he,hk⟩;obtain⟨n,t,rfl⟩:=c.Eo e he;refine⟨_,he,?_⟩;exact(intKind prog w).inj (.int n t) n k (wO _ _ _ _) hk
 ·rintro⟨e,he,hk⟩;obtain⟨n,t,rfl⟩:=c.Eo e he
  cases(show n=k from hk)
  exact⟨_,he,wO _ _ _ _⟩
theorem EA.push {es':Array Ent}(c:EA es ns){k:Int}{tk:Tok}(p:es'.toList.Perm (es.toList++[(hashInt k,.int k tk)])):EA es' (ns++[k]):=by
 refine⟨λe he=>?_,?_⟩
 ·rcases YI.mp (p.mem_iff.mp he) with h|h
  ·exact c.Eo e h
  ·rw[Zm] at h;exact⟨k,tk,h⟩
 ·refine(p.map _).trans ?_;rw[Y2];exact c.perm.append (Az _)
theorem EA.aec {es':Array Ent}(c:EA es ns)(p:es'.toList.Perm es.toList):EA es' ns :=
 ⟨λe he=>c.Eo e (p.mem_iff.mp he),(p.map _).trans c.perm⟩
theorem om {k:Int}(h:k∈ns):step_dedup ns k=ns:=by
 unfold step_dedup;rw[Yh (ZC.mpr ⟨k,h,by simp⟩)]
theorem i4 {k:Int}(h:k∉ns):step_dedup ns k=ns++[k]:=by
 unfold step_dedup;rw[Yd λg=>?_];obtain⟨x,hx,e⟩:=ZC.mp g;exact h ((by simpa using e:x=k)▸hx)
theorem tN {es':Array Ent}{t t':T}(ho:h.get? a=some (jg es ep t)):(h.update a (Obj.putSet es' t')).get? a=some (jg es' (ep+1) t'):=
 Y3 (Obj.putSet es' t') ho rfl
theorem DI {k:Int}{tk:Tok}{Q:Bool->Shared->Prop}(S:jj led s.heap a ns)(hn:ns.length<76)
 (hQ:∀b h',Heap.SameBut a s.heap h'->jj led h' a (step_dedup ns k)->Q b {s with heap:=h'}):wpAny (model prog w) A (setAddHashed a (.int k tk) (hashInt k)) Q E s:=by
 obtain⟨es,ep,t,ho,c,hz,O⟩:=S
 have hf:t.fits es.size=true:=by rw[hz];exact O.fits
 have Rn:ElemsOf (intKind prog w) es.toList:=c.elems
 have hb:es.size<scanBound:=by show _<4096;omega
 unfold setAddHashed setAddHashedIn;refine YY (X9 (wpAny_setState_of ho rfl hf ?_));dsimp only;rw[byScan_of (knd:=intKind prog w) rfl hb Rn,Yh rfl];unfold setAddByScan;refine X9 (X9 (Ej (X9 (wpAny_setScan_of (knd:=intKind prog w) (wO _ _ k tk) ho rfl hf Rn ?_))))
 cases hr:List.findIdx? (λe=>(intKind prog w).is k e.2) es.toList with
 |some j =>
  obtain⟨hj,Uv,_⟩:=List.findIdx?_eq_some_iff_getElem.mp hr;have hk:k∈ns:=(c.has (prog:=prog) (w:=w) k).mp ⟨_,List.getElem_mem hj,Uv⟩;refine Yb (Yb ?_);have:=hQ false s.heap (Heap.SameBut.refl a s.heap) (by rw[om hk];exact⟨es,ep,t,ho,c,hz,O⟩)
  cases s;exact this
 |none =>
  have hk:k∉ns:=λh=>by
   obtain⟨e,he,hp⟩:=(c.has (prog:=prog) (w:=w) k).mpr h;have:=List.findIdx?_eq_none_iff.mp hr e he;rw[hp] at this;cases this
  obtain⟨JM,t1,eL,z1,m1,m2,p1,u1,d1,Ou,l1,f1⟩:=zC O hz (hashInt k) (.int k tk);have hp:=layNew_perm t es (hashInt k) (.int k tk);rw[eL,Array.toList_push] at hp;have c1:EA JM (ns++[k]):=c.push hp;dsimp only;rw[eL];dsimp only;refine X9 (Yb ?_);rw[Ou,Yh rfl,hashByValue_scannable 8 (x:=.int k tk) rfl];refine X9 (Yb ?_);rw[Yh (show plainKind (.int k tk)=true from rfl)]
  have len:(ns++[k]).length=ns.length+1:=by rw[Yw];rfl
  refine X9 (wpAny_storeSet_of ho rfl ?_ (fits_of_scanBound (by rw[z1];show _<4096;omega)));have HN:=tN (es':=JM) (t':=t1) ho;have Kv:=Y1 s.heap a (Obj.putSet JM t1)
  by_cases Hu:t1.tooFull=true
  ·obtain⟨Uw,t2,eR,z2,O2⟩:=vi hn m1 (by rw[m2];exact O.room) p1 d1 Ou l1 z1 Hu;have JF:=relayAll_perm t1 JM (SetTable.grown JM.size);rw[eR] at JF;rw[Yh (by rw[Hu];rfl)];rw[eR];dsimp only;refine X9 (Yb ?_);refine X9 (wpAny_storeSet_of HN rfl ?_ (fits_of_scanBound (by rw[z2];show _<4096;omega)));refine Yb (Yb (hQ true _ (Kv.trans (Y1 _ a _)) ?_));rw[i4 hk];exact⟨Uw,_,t2,tN HN,c1.aec JF,by rw[len];exact z2,by rw[len];exact O2⟩
  ·have Ro:t1.tooFull=false:=by simpa using Hu
   rw[Yd (by rw[Ro];decide)];refine Yb (Yb (hQ true _ Kv ?_));rw[i4 hk];refine⟨JM,_,t1,HN,c1,by rw[len];exact z1,?_⟩;rw[len];refine⟨m1,?_,p1,u1,d1,Ou,l1⟩;simp only[SetTable.tooFull,SetTable.fill,p1,d1,BK,Zn] at Ro;omega
end
noncomputable abbrev own (w:World):Bool:=!w.params.followText "set-order"
noncomputable abbrev GE:Array GenState->Array GenState->Prop:=λa b=>b=a
structure Src (prog:wu)(w:World)(c:String)(its:BC)(Is:Heap->Addr->Prop)(JN:Addr->Obj):Prop where
 type:∀h l,Is h l->∃o,h.get? l=some o/\o.cls=.type c
 keep:∀h h' l,Is h l->(∀o,h.get? l=some o->h'.get? l=some o)->Is h' l
 iter:∀(A:Around)(s:Ci) l (Q:ph)(E:ph),Is s.heap l->Q (.ref s.heap.objs.size) {s with heap:=s.heap.push (JN l)}->wpAny (model prog w) A (pyIter (.ref l)) Q E s
 walk:∀(A:Around) I l,A.handled=none->l≠I->∃G,WalksS prog w A I [I,l] [I] GE its.size (λi v=>its[i]?=some v) G/\∀s:Shared,Is s.heap l->s.heap.get? I=some (JN l)->G 0 s
 adP:∀(h:Heap) l,(h.push (JN l)).get? h.objs.size=some (JN l)
 s1:isSubtype (.type c) (.type "set")=pure false
 s2:isSubtype (.type c) (.type "frozenset")=pure false
 nd:(Value.type c==Value.type "dict")=false
section
variable {prog:wu}{w:World}{A:Around}{R:Result->Shared->Prop}{I:Addr}{fp wr:List Addr}{n:Nat}{P:Nat->Value->Prop}{G:Nat->Shared->Prop}
theorem vj (W:WalksS prog w A.in1 I fp wr GE n P G)(a:Addr)(ha:a∉fp)(val:Nat->Int)(hv:∀i v,P i v->∃t,v=.int (val i) t)(hn:n<76):
 ∀(k i:Nat)(s:Ci),n-i=k->i<=n->G i s->jj led s.heap a (firstMet val i) →
  (∀z,Moved (a::wr) GE s z->jj led z.heap a (firstMet val n)->R (.ok (.ret .none)) z) →
  codeAny (model prog w) A (.builtin "set.update.loop" ⟨[.ref a,.ref I],[]⟩) R s:=by
 have aw:a∉wr:=λh=>ha (W.sub _ h);have up:∀b,b∈wr->b∈a::wr:=λb hb=>Yi _ hb;have mv:∀{y z:Ci}{ns:List Int},Moved wr GE y z->jj led y.heap a ns->jj led z.heap a ns:=λm ⟨es,ep,t,o,r⟩=>⟨es,ep,t,m.heap a _ aw o,r⟩;intro k
 induction k with
 |zero =>
  intro i s hk hi g S hR
  cases(show i=n by omega)
  refine ZM x8 ?_;rw[ZJ Di _];refine X9 (m:=pyNext (.ref I)) ?_;exact W.done s _ _ g λz m=>Yb (hR z (m.mono up) (mv m S))
 |succ k ih =>
  intro i s hk hi g S hR;refine ZM x8 ?_;rw[ZJ Di _];refine X9 (m:=pyNext (.ref I)) ?_;refine W.item i s _ _ (by omega) g λv z hp g1 m=>?_;obtain⟨t,rfl⟩:=hv i v hp;refine X9 (m:=holding [Value.int (val i) t] (setAdd a (.int (val i) t))) (YY ?_);unfold setAdd;refine YY (X9 ((intKind prog w).pyHash (k:=val i) (wO _ _ _ _) ?_));refine DI (s:={z with toks:=z.toks+1}) (show jj led z.heap a _ from mv m S) (by have:=firstMet_length_le val i;omega) λb h' sb S1=>?_;rw[<-firstMet_succ] at S1;refine Yb ⟨qZ Di _,ih (i+1) _ (by omega) (by omega) (W.frame _ z _ _ g1 (vI _) λb hb o e=>?_) S1 λy m1 S2=>?_⟩
  ·rw[sb.2 b λh:b=a=>ha (h▸hb)];exact e
  ·refine hR y (Moved.trans W.gtrans ((m.mono up).then_heap (vI _) λb o hb e=>?_) m1) S2;rw[sb.2 b λh:b=a=>hb (by rw[h];exact Yl)];exact e
end
section
variable {prog:wu}{w:World}{A:Around}{E:ph}{s:Ci}
noncomputable abbrev nM (w:World):Obj:=jg #[] 0 (.fresh 0 0 (own w))
theorem DC (v:Value){Q:ph}(h:Q (.ref s.heap.objs.size) {s with heap:=s.heap.push (nM w)}):
 codeAny (model prog w) A (.call (.builtin "set.__new__") ⟨[.type "set",v],[]⟩) (wants Q E) s:=by
 refine codeAny_of_tree (show wpAny _ A.in1 (checkBuiltinCall "set.__new__" ⟨[.type "set",v],[]⟩>>=λ_=>again (.builtin "set.__new__" ⟨[.type "set",v],[]⟩)) _ _ s from ?_);refine X9 (EN (F.newCall_set_1 v) (Yb ⟨qZ F.plain_set_new _,ZM F.entry_set_new ?_⟩));rw[ZJ F.plain_set_new _];unfold Builtin.«set.__new__» Builtin.Frozenset.newClass;have su:=sub_set_self
 cases s
 dsimp only
 wp_walk
 refine qK (Yb ?_);dsimp only[newObj];exact X9 (wpAny_alloc (Yb (Yb h)))
set_option maxHeartbeats 3200000 in
theorem oR {c:String}{its:BC}{Is:Heap->Addr->Prop}{JN:Addr->Obj}(X:Src prog w c its Is JN){l:Addr}{Q:ph}
 (hh:A.handled=none)(hl:Is s.heap l)(hi:IntsAre its.toList ns)(hb:its.size<76)
 (h:∀(h':Heap)(tk:Nat),jj (own w) h' s.heap.objs.size (firstMet (λi=>ns.getD i 0) its.size)->(∀b o,b<s.heap.objs.size->s.heap.get? b=some o->h'.get? b=some o) →
  s.toks<=tk->Q (.ref s.heap.objs.size) {s with heap:=h',toks:=tk}):
 wpAny (model prog w) A (call (.type "set") [.ref l]) Q E s:=by
 obtain⟨_,_,mro⟩:=vg.mro;have made:=vg.made;have su:=vg.sub;refine qd (codeAny_of_tree (show wpAny _ _ (callAny (.type "set") _) _ _ _ from Yb ⟨Code.quiet_builtin _ (by decide +kernel),ZM F.entry_type_call ?_⟩));rw[Around.under_plain (weight_type_call_type "set" [.ref l] []) rfl];have k1:=vg.notType;have k2:=vg.canCreate;have k3:=F.typeCall_set_1 (.ref l)
 repeat (any_goals (first|assumption|wp_step))
 refine rC (DC (.ref l) (E:=E) (Q:=λv z=>v=.ref s.heap.objs.size/\z={s with heap:=s.heap.push (nM w)}) ⟨rfl,rfl⟩) λr z hr=>?_
 cases r with
 |error e=>exact hr
 |ok fl =>
  cases fl with
  |ret obj =>
   obtain⟨rfl,rfl⟩:=hr;have oS:(s.heap.push (nM w)).get? s.heap.objs.size=some (nM w):=Yk _ rfl;have tS:Shared.TypeIs {s with heap:=s.heap.push (nM w)} (.ref s.heap.objs.size) "set":=⟨_,oS,rfl⟩;have k4:=vg.init.lookup;have k5:=vg.init.bind (.ref s.heap.objs.size)
   repeat (any_goals (first|assumption|wp_step))
   refine rC (pL (R:=wants (λv z=>v=.none/\∃h' tk,z={s with heap:=h',toks:=tk}/\jj (own w) h' s.heap.objs.size (firstMet (λi=>ns.getD i 0) its.size) /\
    (∀b o,b<s.heap.objs.size->s.heap.get? b=some o->h'.get? b=some o)/\s.toks<=tk) E) vg.init.plain F.entry_set_init (check_set_init_1 tS ?_)) λr z hr=>?_
   ·have lS:Is (s.heap.push (nM w)) l:=X.keep _ _ _ hl λo e=>Yc _ e;obtain⟨⟨oc,od,XN,FX⟩,Kn,Ov⟩:=X.type _ _ lS;dsimp only at Ov;subst Ov
    have Fy:l<s.heap.objs.size:=by
     obtain⟨o,e,_⟩:=X.type _ _ hl;exact Ym e
    have tl:Shared.TypeIs {s with heap:=s.heap.push (nM w)} (.ref l) c:=⟨_,Kn,rfl⟩;have k6:=X.s1;have k7:=X.s2;have k8:=X.nd;unfold Builtin.«set.__init__» noKeywords Builtin.Frozenset.updateFrom;generalize Ux:pyIter=PI
    wp_walk
    subst Ux;refine X.iter _ _ _ _ _ lS ?_;refine X9 (wpAny_runValue ?_)
    have h3:A.in1.in1.in1.handled=none:=by simp[hh]
    have nI:l≠(s.heap.push (nM w)).objs.size:=by rw[Zb];exact Yr (ZK Fy)
    have nf:s.heap.objs.size ∉ [(s.heap.push (nM w)).objs.size,l]:=by
     rw[Zb];simp only[Yn,ZA,EE,uG];exact⟨Yr (x6 _),Zz Fy⟩
    obtain⟨G,W,g0⟩:=X.walk A.in1.in1.in1 _ l h3 nI
    refine vj W s.heap.objs.size nf (λi=>ns.getD i 0) (λi v e=>IntsAre.int_at hi i v (by rw[vD];exact e)) hb (its.size-0) 0 _ rfl (Yt _)
     (g0 _ (X.keep _ _ _ lS λo e=>Yc _ e) (X.adP _ _)) ⟨#[],0,_,Yc _ oS,⟨λe he=>by simp at he,Az _⟩,rfl,Ok.fresh _⟩ ?_
    intro z m S
    have Jk:∀b o,b<s.heap.objs.size->s.heap.get? b=some o->z.heap.get? b=some o:=λb o hb e=>by
     refine m.heap b o ?_ (Yc _ (Yc _ e));rw[Zb];simp only[Yn,ZA,EE,uG];exact⟨Yr hb,Yr (ZK hb)⟩
    have ez:z={s with heap:=z.heap,toks:=z.toks}:=by
     have e1:z.gens=s.gens:=m.gens;have e2:z.drawn=s.drawn:=m.drawn;have e3:z.os=s.os:=m.os
     cases z;cases e1;cases e2;cases e3;rfl
    refine Yb (show wpAny _ _ (ret Value.none) _ _ _ from Yb ⟨rfl,z.heap,z.toks,ez,S,Jk,m.toks⟩)
   ·cases r with
    |error e=>exact hr
    |ok fl =>
     cases fl with
     |ret v =>
      obtain⟨rfl,h',tk,rfl,S,Jk,MT⟩:=hr
      repeat (any_goals (first|assumption|wp_step))
      exact h h' tk S Jk MT
     |_=>exact hr.elim
  |_=>exact hr.elim
end
theorem yi (prog:wu)(w:World)(its:BC):Src prog w "list" its (λh l=>h.IsList l its) (λl=>{cls:=.type "list_iterator",data:=.fields #[.ref l,.int 0 0]}) where
 type:=λh l ⟨o,e,c,_⟩=>⟨o,e,c⟩
 keep:=λh h' l ⟨o,e,r⟩ k=>⟨o,k o e,r⟩
 iter:=λA s l Q E hl h=>yr hl h
 walk:=λA I l hh F2=>⟨_,(Walks.list hh I l F2 its).toS,λs hl e=>⟨⟨_,e,rfl,rfl⟩,hl⟩⟩
 adP:=λh l=>Yk _ rfl
 s1:=F.sub_list_set
 s2:=F.sub_list_frozenset
 nd:=by decide
theorem zw (prog:wu)(w:World)(its:BC):Src prog w "tuple" its (λh l=>h.IsTuple l its) (λl=>{cls:=.type "tuple_iterator",data:=.fields #[.ref l,.int 0 0]}) where
 type:=λh l ⟨o,e,c,_⟩=>⟨o,e,c⟩
 keep:=λh h' l ⟨o,e,r⟩ k=>⟨o,k o e,r⟩
 iter:=λA s l Q E hl h=>lA hl h
 walk:=λA I l hh F2=>⟨_,(Walks.tuple hh I l F2 its).toS,λs hl e=>⟨⟨_,e,rfl,rfl⟩,hl⟩⟩
 adP:=λh l=>Yk _ rfl
 s1:=by rw[uD];kernel_rfl
 s2:=by rw[uD];kernel_rfl
 nd:=by decide
theorem qP {α:Type}{l:List α}(h:i<l.length):(l[i]::l.eraseIdx i).Perm l:=by
 rw[List.eraseIdx_eq_take_drop_succ];refine(List.perm_middle).symm.trans ?_;rw[<-y9 h,List.take_append_drop]
theorem Aw {α:Type}(f:Nat->Nat):∀(n k:Nat)(l:List α)(out:Array α),n=l.length->(pickOrder.go f n k l out).toList.Perm (out.toList++l):=by
 intro n
 induction n with
 |zero =>
  intro k l out h
  cases l with
  |nil=>unfold pickOrder.go;rw[Zc]
  |cons x l=>cases h
 |succ n ih =>
  intro k l out h;unfold pickOrder.go;have hl:f k%l.length<l.length:=CZ _ (by omega);rw[YZ hl];dsimp only;refine(ih (k+1) _ _ (by rw[List.length_eraseIdx_of_lt hl];omega)).trans ?_;rw[Array.toList_push,qR];exact List.Perm.append_left _ (qP hl)
theorem uQ {α:Type}(f:Nat->Nat)(xs:Array α):(pickOrder f xs).toList.Perm xs.toList:=by
 have:=Aw f xs.size 0 xs.toList #[] (by rw[Yz]);exact this
noncomputable def vV (w:World)(a:Addr)(ep:Nat)(es:Array Ent):Array Ent:=if w.params.followText "set-order" then pickOrder (w.params.setOrder a ep) es else es
theorem jz (w:World)(a:Addr)(ep:Nat)(es:Array Ent):(vV w a ep es).toList.Perm es.toList:=by
 unfold vV
 split
 ·exact uQ _ _
 ·exact Az _
noncomputable def gK (w:World)(t:T)(i:Nat):Nat:=if w.params.followText "set-order" then 0 else if i=0 then 0 else t.place.getD (i-1) 0+1
noncomputable abbrev vS (w:World)(t:T)(a:Addr)(n ep i:Nat):Obj:={cls:=.type "set_iterator",data:=.fields #[rawInt (gK w t i),rawInt i,.ref a,rawInt n,rawInt ep]}
theorem gk:Slot "set_iterator" "__next__" "set_iterator.__next__" :=
 .of (owner:="set_iterator") (n:="__next__") (by rw[typeLookup_type,builtinLookup_eq_fast];kernel_rfl) (by decide +kernel) (by decide +kernel) (by decide +kernel) (by first|exact .inl (by decide +kernel)|exact .inr (by decide +kernel)) (by rw[uD];kernel_rfl)
theorem tQ:entryFor table "set_iterator.__next__"=some Builtin.«set_iterator.__next__»:=entryFor_of_tree (by kernel_rfl)
theorem tZ (a:Value):argsOk "set_iterator.__next__" ⟨[a],[]⟩:=by unfold argsOk;kernel_rfl
theorem r9:Slot "set_iterator" "__iter__" "set_iterator.__iter__" :=
 .of (owner:="set_iterator") (n:="__iter__") (by rw[typeLookup_type,builtinLookup_eq_fast];kernel_rfl) (by decide +kernel) (by decide +kernel) (by decide +kernel) (by first|exact .inl (by decide +kernel)|exact .inr (by decide +kernel)) (by rw[uD];kernel_rfl)
theorem yQ:entryFor table "set_iterator.__iter__"=some Builtin.«dict_keyiterator.__iter__» :=
 entryFor_alias (id':="dict_keyiterator.__iter__") (by kernel_rfl) rfl (by decide +kernel) (by kernel_rfl)
theorem yJ (a:Value):argsOk "set_iterator.__iter__" ⟨[a],[]⟩:=by unfold argsOk;kernel_rfl
theorem oG:entryFor table "set.__iter__"=some Builtin.«frozenset.__iter__» :=
 entryFor_alias (id':="frozenset.__iter__") (by kernel_rfl) rfl (by decide +kernel) (by kernel_rfl)
variable {I:Addr}
section
variable {prog:wu}{w:World}{A:Around}{E:ph}{s:Ci}
theorem kH {t:T}{Q:(Array Ent×Nat×T)->Shared->Prop}(ho:s.heap.get? a=some (jg es ep t))(O:Ok led n t)(hz:es.size=n)(h:Q (es,ep,t) s):
 wpAny (model prog w) A (setState a) Q E s:=wpAny_setState_of ho rfl (by rw[hz];exact O.fits) h
theorem qW {Q:Bool->Shared->Prop}(h:Q (w.params.followText "set-order") s):wpAny (model prog w) A setsByText Q E s:=by
 unfold setsByText;exact X9 (qK (Yb h))
theorem ua {t:T}{Q:Option (Value×Nat)->Shared->Prop}(ho:s.heap.get? a=some (jg es ep t))(O:Ok (own w) n t)(hz:es.size=n)(hi:i<=n)
 (h:Q (((vV w a ep es)[i]?).map λe=>(e.2,gK w t (i+1))) s):wpAny (model prog w) A (setNext a (gK w t i) i ep) Q E s:=by
 unfold setNext;refine X9 (kH ho O hz ?_);dsimp only;refine X9 (qW ?_)
 by_cases ht:w.params.followText "set-order"=true
 ·rw[Yh ht,Yd (by simp)];unfold setWalk;refine X9 (X9 (kH ho O hz ?_));dsimp only;refine X9 (qW ?_);rw[Yh ht];refine X9 (qK (Yb (Yb ?_)));simp only[vV,gK,ht,ZR] at h |-;exact h
 ·rw[Yd ht]
  have hd:(!t.plain&&decide (es.size>1))=false:=by rw[O.plain];rfl
  show wpAny _ _ (if(!t.plain&&decide (es.size>1))=true then _ else _) _ _ _;rw[hd,Yd (by decide)]
  have Ow:t.led=true:=by rw[O.led];simp[own,ht]
  refine X9 ?_;show wpAny _ _ (if(!t.led&&!es.isEmpty)=true then _ else _) _ _ _;rw[Ow,Yd (by simp)];refine Yb ?_
  have eb:SetTable.below t.place (gK w t i)=i:=by
   unfold gK;rw[Yd ht]
   by_cases h0:i=0
   ·rw[Yh h0,h0];exact rN O.up
   ·rw[Yd h0,qT O.up (by rw[O.size];omega)];omega
  refine Yb ?_;rw[eb]
  have eo:vV w a ep es=es:=by unfold vV;rw[Yd ht]
  rw[eo] at h
  rcases Z0 i n with g|g
  ·have e1:es[i]?=some (es[i]'(by omega)):=by simp[show i<es.size from by omega]
   have e2:t.place[i]?=some (t.place.getD i 0):=rn (by rw[O.size];exact g);rw[e1] at h;rw[e1,e2]
   have e3:gK w t (i+1)=t.place.getD i 0+1:=by unfold gK;rw[Yd ht,Yd (by omega)];rfl
   rw[e3] at h;exact h
  ·have e1:es[i]?=none:=Zu (by omega);rw[e1] at h |-;exact h
theorem AB {t:T}{x:Ent}{Q:Option Value->Shared->Prop}(ho:s.heap.get? a=some (jg es ep t))(hI:s.heap.get? I=some (vS w t a n ep i))(O:Ok (own w) n t)(hz:es.size=n)
 (hi:i<n)(hx:(vV w a ep es)[i]?=some x)(hQ:∀h',h'.get? I=some (vS w t a n ep (i+1))->Heap.SameBut I s.heap h'->Q (some x.2) {s with heap:=h'}):
 wpAny (model prog w) A (pyNext (.ref I)) Q E s:=by
 have tI:s.TypeIs (.ref I) "set_iterator":=⟨_,hI,rfl⟩;unfold pyNext;refine X9 (ZN (YN (name:=Str.ofString "__next__") tI gk (YJ gk tI tQ ?_ (tZ _))));unfold Builtin.«set_iterator.__next__»;refine X9 (m:=slotArgs "__next__" 0 _) (Yb ?_);refine X9 (ZH hI rfl ?_);dsimp only[rawInt];refine X9 (zk ho rfl (by rw[hz];exact O.fits) ?_);rw[Yd (by rw[hz];simp)];simp only[YV];refine X9 (ua ho O hz (Zi hi) ?_);rw[hx];dsimp only[Option.map];refine X9 (Y0 hI (by simp) λh1 o1 b1=>?_);refine X9 (Y0 (s:={s with heap:=h1}) o1 (by simp) λh2 o2 b2=>?_);refine Yb ⟨_,rfl,Yb (hQ h2 ?_ (b1.trans b2))⟩;rw[o2];rfl
theorem BV {t:T}{Q:Option Value->Shared->Prop}(hh:A.handled=none)(ho:s.heap.get? a=some (jg es ep t))(hI:s.heap.get? I=some (vS w t a n ep n))(O:Ok (own w) n t)(hz:es.size=n)
 (hQ:∀h',Heap.ExtBut I s.heap h'->Q none {s with heap:=h'}):wpAny (model prog w) A (pyNext (.ref I)) Q E s:=by
 have tI:s.TypeIs (.ref I) "set_iterator":=⟨_,hI,rfl⟩;have hx:(vV w a ep es)[n]?=none:=Zu (by rw[<-Yz,(jz w a ep es).length_eq,Yz,hz];exact Ye _);unfold pyNext;refine X9 (ZN (YN (name:=Str.ofString "__next__") tI gk (YJ gk tI tQ ?_ (tZ _))));unfold Builtin.«set_iterator.__next__»;refine X9 (m:=slotArgs "__next__" 0 _) (Yb ?_);refine X9 (ZH hI rfl ?_);dsimp only[rawInt];refine X9 (zk ho rfl (by rw[hz];exact O.fits) ?_);rw[Yd (by rw[hz];simp)];simp only[YV];refine X9 (ua ho O hz (Ye _) ?_);rw[hx];dsimp only[Option.map];refine X9 (ZT hI rfl (by simp) ?_);refine X9 (m:=newExc (.type "StopIteration") []) ?_;unfold newExc newTuple;refine X9 (YB ?_ (by size_fits));refine X9 (m:=firstArgMember _ _) (EN (a:=Value.none) rfl ?_);refine YB ?_ (by size_fits);unfold raiseNew;refine X9 (mO ?_);rw[show A.in1.handled=none from hh];refine X9 (Yb (wpAny_throw ?_));refine X9 (lj (b:=true) (T:="StopIteration") ⟨_,Yk _ rfl,rfl⟩ qb ?_);refine Yb (hQ _ ?_);exact((Y1 ..).extBut.push _).push _
theorem AW {es:Array Ent}{ep:Nat}{t:T}(hh:A.handled=none)(F2:a≠I)(O:Ok (own w) n t)(hz:es.size=n):
 WalksS prog w A I [I,a] [I] GE n (λi v=>((vV w a ep es)[i]?).map Prod.snd=some v) (λi s=>s.heap.get? a=some (jg es ep t)/\s.heap.get? I=some (vS w t a n ep i)) where
 sub:=λb hb=>by simp at hb;simp[hb]
 grefl:=λ_=>rfl
 gtrans:=λ_ _ _ h1 h2=>h2.trans h1
 frame:=λi s h' tk g _ k=>⟨k a (by simp) _ g.1,k I (by simp) _ g.2⟩
 item:=λi s Q E hi g hQ=>by
  have hl:i<(vV w a ep es).size:=by rw[<-Yz,(jz w a ep es).length_eq,Yz,hz];exact hi
  have hx:(vV w a ep es)[i]?=some ((vV w a ep es)[i]):=by simp[hl]
  refine AB g.1 g.2 O hz hi hx λh' o b=>hQ _ _ (by rw[hx];rfl) ⟨b.extBut a _ F2 g.1,o⟩ ⟨λc o hc e=>b.extBut c o (λh=>hc (by simp[h])) e,rfl,rfl,rfl,Ye _⟩
 done:=λs Q E g hQ=>BV hh g.1 g.2 O hz λh' k=>hQ _ ⟨λc o hc e=>k c o (λh=>hc (by simp[h])) e,rfl,rfl,rfl,Ye _⟩
 self:=λi s Q E g hQ=>by
  have tI:s.TypeIs (.ref I) "set_iterator":=⟨_,g.2,rfl⟩;refine Ad tI r9 (YJ r9 tI yQ ?_ (yJ _));exact Yb ⟨_,rfl,"set_iterator",_,tI,gk.lookup,hQ⟩
theorem Cj {t:T}{Q:ph}(ho:s.heap.get? a=some (jg es ep t))(O:Ok (own w) n t)(hz:es.size=n)
 (h:Q (.ref s.heap.objs.size) {s with heap:=s.heap.push (vS w t a n ep 0)}):wpAny (model prog w) A (pyIter (.ref a)) Q E s:=by
 have ta:s.TypeIs (.ref a) "set":=⟨_,ho,rfl⟩
 have hf:t.fits es.size=true:=by rw[hz];exact O.fits
 refine Ad ta F.slot_set_iter (YJ F.slot_set_iter ta oG ?_ (F.args_set_iter_1 _));unfold Builtin.«frozenset.__iter__» Builtin.Frozenset.slot0;refine X9 (m:=slotArgs "__iter__" 0 _>>=_) (X9 (Yb (Yb ?_)));unfold Builtin.Frozenset.sizeOf;refine X9 (X9 (zk ho rfl hf (Yb ?_)))
 have Uy:gK w t 0=0:=by unfold gK;split <;> rfl
 unfold setDrawn;refine X9 (X9 (kH ho O hz ?_));dsimp only;refine X9 (qW (Yb ?_))
 have hd:(!w.params.followText "set-order"&&(!t.plain&&decide (es.size>1)))=false:=by rw[O.plain];simp
 refine(show wpAny _ _ (if(!w.params.followText "set-order"&&(!t.plain&&decide (es.size>1)))=true then _ else _) _ _ _ from ?_);rw[hd,Yd (by decide)];refine X9 (Yb (X9 (wpAny_setEpoch_of ho rfl hf ?_)));refine X9 (YB (Yb ⟨_,rfl,"set_iterator",_,⟨_,Yk _ rfl,rfl⟩,gk.lookup,?_⟩));rw[hz];unfold vS at h;rw[Uy] at h;exact h
end
noncomputable abbrev gM (xs:BC)(c:Nat):Obj:={cls:=.type "list",dict:=none,data:=.seq xs c,slots:=#[]}
section
variable {prog:wu}{w:World}{A:Around}{E:ph}{s:Ci}
theorem wD:typeLookup (.type "set") "__len__"=pure (some (.builtin "set.__len__")):=F.slot_set_len.lookup
theorem pN {α:Type}{c:Bool}{x y:Sem α}{Q:α->Shared->Prop}(h:c=true)(g:wpAny (model prog w) A x Q E s):wpAny (model prog w) A (if c=true then x else y) Q E s:=by
 rw[Yh h];exact g
theorem CJ {Q:Bool->Shared->Prop}(ta:s.TypeIs (.ref a) "set")(h:Q false s):wpAny (model prog w) A (Builtin.List.listLengthHint (.ref a)) Q E s:=by
 unfold Builtin.List.listLengthHint;refine X9 (wpAny_specialOf ta wD ?_);dsimp only;rw[show splitId "set.__len__"=some ("set","__len__") from by decide +kernel];dsimp only;refine X9 (lj ta sub_set_self ?_);rw[Yd (by decide)];exact pN (by decide +kernel) (X9 (qJ ta (Yb h)))
theorem nV {P:Array Ent}(c:EA es ns)(p:P.toList.Perm es.toList){acc:BC}(hz:es.size=n)(h:ItemsOf (λi v=>(P[i]?).map Prod.snd=some v) acc n):
 ∃ms,IntsAre acc.toList ms/\ms.Perm ns:=by
 have hP:P.toList.length=n:=by rw[p.length_eq,Yz,hz]
 have e:acc.toList=P.toList.map Prod.snd:=by
  refine List.ext_getElem? λi=>?_;rw[YU,vD,vD]
  rcases Z0 i n with g|g
  ·have ha:acc[i]?=some (acc[i]'(by rw[h.1];exact g)):=by simp[h.1,g]
   rw[ha,h.2 i _ ha]
  ·rw[Zu (by rw[h.1];exact g),Zu (by rw[<-Yz,hP];exact g)];rfl
 have c':EA P ns:=c.aec p;refine⟨_,oq (vs:=acc.toList) λv hv=>?_,?_⟩
 ·rw[e] at hv;obtain⟨x,hx,rfl⟩:=YG.mp hv;obtain⟨k,t,rfl⟩:=c'.Eo x hx;exact⟨k,t,rfl⟩
 ·rw[e,CL];exact c'.perm
set_option maxHeartbeats 3000000 in
theorem uV {Q:List Value->Shared->Prop}(hh:A.handled=none)(S:jj (own w) s.heap a ns)(hn:ns.length<4000)
 (hQ:∀(h':Heap)(tk:Nat)(vs:m8)(ms:List Int),IntsAre vs ms->ms.Perm ns->(∀b o,s.heap.get? b=some o->h'.get? b=some o)->s.toks<=tk->Q vs {s with heap:=h',toks:=tk}):
 wpAny (model prog w) A (collect (.ref a)) Q E s:=by
 obtain⟨es,ep,t,ho,c,hz,O⟩:=S;have Fy:a<s.heap.objs.size:=Ym ho;unfold collect;refine X9 (wpAny_runValue (ZM PySem.F.entry_proto_collect ?_));rw[ZJ PySem.F.plain_proto_collect _];refine X9 (m:=newList []) (YB ?_);refine Yb ⟨qZ PySem.F.plain_list_iadd _,ZM PySem.F.entry_list_iadd ?_⟩;rw[ZJ PySem.F.plain_list_iadd _];refine(show wpAny _ A.in1 (Builtin.List.listExtendWith (.ref s.heap.objs.size) (.ref a) (.ref s.heap.objs.size)) _ _ _ from ?_);unfold Builtin.List.listExtendWith;have HN:(s.heap.push (gM #[] 0)).get? a=some (jg es ep t):=Yc _ ho;refine X9 (qJ (T:="set") ⟨_,HN,rfl⟩ ?_)
 rw[Yd (by
  have:Builtin.List.listSameRef (.ref s.heap.objs.size) (.ref a)=false:=by
   simp only[Builtin.List.listSameRef,Z5];exact Zz Fy
  rw[this];decide)]
 refine X9 (Cj (s:={s with heap:=s.heap.push (gM #[] 0)}) HN O hz ?_);have GF:((s.heap.push (gM #[] 0)).push (vS w t a ns.length ep 0)).get? a=some (jg es ep t):=Yc _ HN;refine X9 (YY (CJ ⟨_,GF,rfl⟩ ?_));have Uz:((s.heap.push (gM #[] 0)).push (vS w t a ns.length ep 0)).get? (s.heap.push (gM #[] 0)).objs.size=some (vS w t a ns.length ep 0):=Yk _ rfl;have Rp:((s.heap.push (gM #[] 0)).push (vS w t a ns.length ep 0)).get? s.heap.objs.size=some (gM #[] 0):=Yc _ (Yk _ rfl);have A3:(s.heap.push (gM #[] 0)).objs.size=s.heap.objs.size+1:=Zb _ _;refine pN (by decide +kernel) (X9 (Ej (X9 ?_)));refine(show wpAny _ A.in1 (updateSeq s.heap.objs.size (·.push .none)>>=λ_=>updateSeq s.heap.objs.size (·.pop)) _ _ _ from X9 (jL Rp rfl ?_));have Nb:=Y3 (Obj.mapSeq (·.push Value.none)) Rp rfl;refine jL Nb rfl ?_;have Kp:=Y3 (Obj.mapSeq (·.pop)) Nb rfl
 have up:∀b o,b≠s.heap.objs.size->((s.heap.push (gM #[] 0)).push (vS w t a ns.length ep 0)).get? b=some o →
  ((((s.heap.push (gM #[] 0)).push (vS w t a ns.length ep 0)).update s.heap.objs.size (Obj.mapSeq (·.push Value.none))).update s.heap.objs.size (Obj.mapSeq (·.pop))).get? b=some o :=
  λb o hb e=>(YL _ _ (YM hb)).trans ((YL _ _ (YM hb)).trans e)
 have nI:a≠(s.heap.push (gM #[] 0)).objs.size:=by rw[A3];exact Yr (ZK Fy)
 have nL:(s.heap.push (gM #[] 0)).objs.size≠s.heap.objs.size:=by rw[A3];exact vN _
 have W:=AW (prog:=prog) (A:=A.in1) (ep:=ep) (es:=es) (by simp[hh]) nI O hz
 refine Yb ⟨qZ PySem.F.plain_extend_loop _,codeAny_extend_loopS W (by rw[ZX];omega) s.heap.objs.size (by
  simp only[Yn,ZA,EE,uG];exact⟨nL.symm,Zz Fy⟩) _ ns.length 0 _ _ _ rfl (Yt _) ⟨up _ _ (Yr Fy) GF,up _ _ nL Uz⟩ Kp (ItemsOf.nil _) λz acc c' m oz it=>?_⟩
 refine X9 (wpAny_load oz (Yb ?_));obtain⟨ms,i1,i2⟩:=nV c (jz w a ep es) hz it
 have ez:z={s with heap:=z.heap,toks:=z.toks}:=by
  have e1:z.gens=s.gens:=m.gens;have e2:z.drawn=s.drawn:=m.drawn;have e3:z.os=s.os:=m.os
  cases z;cases e1;cases e2;cases e3;rfl
 rw[ez];refine hQ z.heap z.toks acc.toList ms i1 i2 (λb o e=>?_) m.toks;have hb:=Ym e;refine m.heap b o ?_ (up b o (Yr hb) (Yc _ (Yc _ e)));simp only[Yn,ZA,EE,uG];refine⟨Yr hb,?_⟩;rw[A3];exact Yr (ZK hb)
theorem lF {D:Addr}{vs:m8}{c:Nat}(out:BC)(e:h.get? D=some (seqObj "list" vs.toArray c)):∃c',(sortedHeap h D vs out).get? D=some (gM out c'):=by
 have hD:=Ym e;have e1:=xV e (λ_=>#[]);unfold sortedHeap;have e2:(((h.update D (Obj.mapSeq λ_=>#[])).push (seqObj "tuple" vs.toArray 0)).push (seqObj "list" #[] 0)).get? D=_:=Yc _ (Yc _ e1);exact⟨_,xV e2 λ_=>out⟩
theorem kJ {D b:Addr}{vs:m8}{out:BC}{o:Obj}(hb:b≠D)(e:h.get? b=some o):(sortedHeap h D vs out).get? b=some o:=by
 unfold sortedHeap;refine(YL _ _ (YM hb)).trans (Yc _ (Yc _ ((YL _ _ (YM hb)).trans e)))
theorem wC {Q:ph}(hh:A.handled=none)(S:jj (own w) s.heap a ns)(h64:ns.length<64)
 (h:∀(h':Heap)(tk:Nat)(D:Addr)(out:BC)(ms:List Int)(c:Nat),IntsAre out.toList ms->ms.Perm ns->ms.Pairwise (· <= ·)->h'.get? D=some (gM out c)->s.heap.get? D=none →
  (∀b o,s.heap.get? b=some o->h'.get? b=some o)->s.toks<=tk->Q (.ref D) {s with heap:=h',toks:=tk}):wpAny (model prog w) A (call (.builtin "sorted") [.ref a]) Q E s:=by
 refine yW kind_sorted plain_sorted entry_sorted (args_sorted1 _) ?_;unfold Builtin.«sorted»;refine X9 (m:=checkCount "sorted" 1 1 _) (Yb ?_);refine X9 (uV (by simpa using hh) S (by omega) λh1 tk vs ms i1 i2 k1 t1=>?_)
 have hv:vs.length<64:=by
  have:=i1.length;rw[this,i2.length_eq];exact h64
 refine X9 (m:=newList vs) (vK ?_ (hsz:=by rw[ZX];omega));have oD:(h1.push (seqObj "list" vs.toArray 0)).get? h1.objs.size=some (seqObj "list" vs.toArray 0):=Yk _ rfl
 have fr:s.heap.get? h1.objs.size=none:=by
  cases e:s.heap.get? h1.objs.size with
  |none=>rfl
  |some o=>exact absurd (Ym (k1 _ _ e)) (Zh _)
 refine X9 (YY (YJ slot_list_sort ⟨_,oD,rfl⟩ entry_list_sort (list_sort_tree oD i1 hv λout HK a1 a2 a3=>⟨_,rfl,?_⟩) (args_list_sort _)));obtain⟨c,oc⟩:=lF out oD;refine Yb ⟨_,rfl,h _ tk _ out HK c a1 (a2.trans i2) a3 oc fr (λb o e=>?_) t1⟩;exact kJ (λq=>by rw[q,fr] at e;cases e) (Yc _ (k1 b o e))
end
end St
namespace L2
open PySem PySem.Spec PyProof.Rows PySem.W
noncomputable def vC (ns:List Int):List Int:=firstMet (λi=>ns.getD i 0) ns.length
theorem lR (ns:List Int):vC ns=ns.foldl step_dedup []:=by
 have e:(List.range ns.length).map (λi=>ns.getD i 0)=ns:=by
  apply xQ
  ·simp
  ·intro i h1 h2;simp[h2]
 unfold vC firstMet;rw[e]
theorem gC:∀(ns acc:List Int),acc.Nodup->(ns.foldl step_dedup acc).Nodup/\∀x,x∈ns.foldl step_dedup acc↔x∈acc\/x∈ns
 |[],acc,h=>⟨h,λx=>by simp⟩
 |n::ns,acc,h=>by
  rw[List.foldl_cons]
  by_cases q:n∈acc
  ·rw[St.om q];obtain⟨a,b⟩:=gC ns acc h;refine⟨a,λx=>(b x).trans ⟨λz=>z.imp id (Yi _),λz=>?_⟩⟩
   rcases z with z|z
   ·exact .inl z
   ·rcases Yn.mp z with rfl|z
    ·exact .inl q
    ·exact .inr z
  ·rw[St.i4 q]
   have nd:(acc++[n]).Nodup:=by
    refine CT.mpr ⟨h,by simp,λa ha b hb z=>?_⟩;rw[Zm] at hb;exact q (hb▸z▸ha)
   obtain⟨a,b⟩:=gC ns (acc++[n]) nd;refine⟨a,λx=>(b x).trans ?_⟩;rw[YI,Zm,Yn,or_assoc]
theorem qy (ns:List Int):(vC ns).Nodup:=by rw[lR];exact(gC ns [] vB).1
theorem xM (ns:List Int)(x:Int):x∈vC ns↔x∈ns:=by
 rw[lR,(gC ns [] vB).2];simp
theorem tJ (ns:List Int):(vC ns).length<=ns.length:=firstMet_length_le _ _
theorem D4 {ms:List Int}(h:ms.Pairwise (· <= ·))(d:ms.Nodup):ms.Pairwise (· < ·):=
 (List.Pairwise.and h d).imp λ⟨a,b⟩=>Int.lt_iff_le_and_ne.mpr ⟨a,b⟩
theorem nJ:∀{xs ys:List Int},xs.Pairwise (· < ·)->ys.Pairwise (· < ·)->(∀x,x∈xs↔x∈ys)->xs=ys
 |[],[],_,_,_=>rfl
 |[],y::ys,_,_,h=>absurd ((h y).mpr Yl) (by simp)
 |x::xs,[],_,_,h=>absurd ((h x).mp Yl) (by simp)
 |x::xs,y::ys,a,b,h=>by
  obtain⟨a1,a2⟩:=YQ.mp a;obtain⟨b1,b2⟩:=YQ.mp b
  have e:x=y:=by
   rcases Yn.mp ((h x).mp Yl) with e|e
   ·exact e
   ·rcases Yn.mp ((h y).mpr Yl) with e2|e2
    ·exact e2.symm
    ·have:=b1 _ e;have:=a1 _ e2;omega
  subst e;rw[nJ a2 b2 λz=>⟨λhz=>?_,λhz=>?_⟩]
  ·rcases Yn.mp ((h z).mp (Yi _ hz)) with e|e
   ·have:=a1 _ hz;omega
   ·exact e
  ·rcases Yn.mp ((h z).mpr (Yi _ hz)) with e|e
   ·have:=b1 _ hz;omega
   ·exact e
noncomputable def yq (K:Frag)(ta:TE):TE:=λσ H Q=>bq ta Bz σ H λvs H1=>∃(l:Addr)(ns:List Int),vs=[.ref l]/\(bo K H1 l (ns.map V.int)\/aV K H1 l (ns.map V.int))/\ns.length<64 /\
 ∀(D:Addr)(ms:List Int),H1 D=none->ms.Pairwise (· < ·)->(∀x,x∈ms↔x∈ns)->Q (.ref D) (upd H1 D (.lst (ms.map V.int)))
section
variable {X:Cx}
theorem kb {e:Expr}{ta:TE}{p p2 pos Jl:Pos}{K:Frag}(hK:X.K=K)(ha:PE X e ta)(hc:X.calm=true)(UA:Gl X "sorted")(UB:X.mg "sorted"=none)(UC:Gl X "set")(UD:X.mg "set"=none)(hs:fV e=false:=by rfl):
 PE X (.Call (.Name "sorted" p) [.Call (.Name "set" p2) [e] [] Jl] [] pos) (yq K ta):=by
 subst hK;intro pins s σ H Q I h;refine Y6 (eK I UA UB (by rfl) ?_ (by decide) (by decide));refine callWith_builtin1 ?_ (bz rfl) rfl;rw[bz rfl];show wpAny _ _ (spliced ((false,eval (.Call (.Name "set" p2) [e] [] Jl) X.env):: backTo pos (starEach [] X.env))) _ _ s;refine u3 ?_;refine Y6 (eK I UC UD (by rfl) ?_ (by decide) (by decide));refine callWith_type1 (bU (aj ha ag hs Jl pins s σ H _ I h) λus s1 z'=>?_) (bz hs) rfl;obtain⟨vs,H1,I1,r1,l,ns,hv,hq,hz,q⟩:=z';subst hv;obtain⟨u,rfl,ru⟩:=dj r1
 cases(show u=Value.ref l from ru)
 have hd:=I.ok.hd hc
 have fin:∀(h':Heap)(tk:Nat),St.jj (St.own X.w) h' s1.heap.objs.size (vC ns)->(∀b o,b<s1.heap.objs.size->s1.heap.get? b=some o->h'.get? b=some o) →
  wpAny (model X.prog X.w) X.A (call (.builtin "sorted") [.ref s1.heap.objs.size]) (EP X pins σ Q) X.xe {s1 with heap:=h',toks:=tk}:=by
  intro h' tk S old;have I2:Inv X pins σ H1 {s1 with heap:=h',toks:=tk}:=I1.kept (t':=tk) λb o e=>old b o (Ym e) e;refine St.wC (s:={s1 with heap:=h',toks:=tk}) hd S (by have:=tJ ns;omega) λh2 UE D out ms c i1 i2 i3 oD fr k2 _=>?_
  have hlen:(ms.map V.int).length<=sizeLine:=by
   rw[Yg,i2.length_eq,ZX];have:=tJ ns;omega
  exact⟨.ref D,_,I2.newObj (t':=UE) (o:=.lst (ms.map V.int)) k2 fr ⟨hlen,out.toList,c,rJ i1,by simpa using oD⟩,rfl,
   q D ms (I2.adA fr) (D4 i3 (i2.symm.nodup (qy ns))) λx=>(i2.mem_iff).trans (xM ns x)⟩
 rcases hq with hq|hq
 ·obtain⟨its,rv,pl,UG⟩:=I1.list hq;have e1:=rv.length;rw[Yg] at e1;refine St.oR (St.yi X.prog X.w its.toArray) hd pl.isList (by simpa using fT rv) (by rw[Yj];omega) λh' tk S old _=>?_
  have es:its.toArray.size=ns.length:=by rw[Yj];exact e1.symm
  rw[es] at S;exact xq (fin h' tk S old)
 ·obtain⟨its,rv,pl,UG⟩:=I1.tuple hq;have e1:=rv.length;rw[Yg] at e1;refine St.oR (St.zw X.prog X.w its.toArray) hd pl (by simpa using fT rv) (by rw[Yj];omega) λh' tk S old _=>?_
  have es:its.toArray.size=ns.length:=by rw[Yj];exact e1.symm
  rw[es] at S;exact xq (fin h' tk S old)
end
end L2
namespace K44
open PySem L2 PySem.W Nm Srt
noncomputable def mU (x:Int):List Int->List Int
 |[]=>[x]
 |y::l=>if x<y then x::y::l else if x=y then y::l else y::mU x l
noncomputable def fP:List Int->List Int
 |[]=>[]
 |x::l=>mU x (fP l)
theorem jS {x z:Int}:∀{l:List Int},z∈mU x l↔z=x\/z∈l
 |[]=>by simp[mU]
 |y::l=>by
  unfold mU
  by_cases h:x<y
  ·rw[Yh h];simp
  ·rw[Yd h]
   by_cases g:x=y
   ·rw[Yh g,g];simp
   ·rw[Yd g,Yn,jS (l:=l),Yn];constructor
    ·rintro(h|h|h)
     ·exact .inr (.inl h)
     ·exact .inl h
     ·exact .inr (.inr h)
    ·rintro(h|h|h)
     ·exact .inr (.inl h)
     ·exact .inl h
     ·exact .inr (.inr h)
theorem uj {x:Int}:∀{l:List Int},l.Pairwise (· < ·)->(mU x l).Pairwise (· < ·)
 |[],_=>by simp[mU]
 |y::l,h=>by
  obtain⟨h1,h2⟩:=YQ.mp h;unfold mU
  by_cases g:x<y
  ·rw[Yh g];refine YQ.mpr ⟨λz hz=>?_,h⟩
   rcases Yn.mp hz with rfl|hz
   ·exact g
   ·have:=h1 z hz;omega
  ·rw[Yd g]
   by_cases e:x=y
   ·rw[Yh e];exact h
   ·rw[Yd e];refine YQ.mpr ⟨λz hz=>?_,uj h2⟩
    rcases jS.mp hz with rfl|hz
    ·omega
    ·exact h1 z hz
theorem rF:∀l:List Int,(fP l).Pairwise (· < ·)
 |[]=>List.Pairwise.nil
 |x::l=>uj (rF l)
theorem ie {z:Int}:∀{l:List Int},z∈fP l↔z∈l
 |[]=>Iff.rfl
 |x::l=>by
  show z∈mU x (fP l)↔_;rw[jS,ie,Yn]
theorem qQ {l m:List Int}(h:m.Pairwise (· < ·))(e:∀z,z∈m↔z∈l):m=fP l:=nJ h (rF l) λz=>by rw[ie,e]
noncomputable def kX (p:Int)(a b:Int×Int):Int×Int:=(c7 p (mZ a.1 a.2 b.1 b.2) (a.2*b.2),c9 p (mZ a.1 a.2 b.1 b.2) (a.2*b.2))
noncomputable def eY (p:Int)(a b:List Tm):List Tm:=a.flatMap λx=>b.map λy=>(fP (x.1++y.1),kX p x.2 y.2)
noncomputable abbrev tg (p:Int)(ts:List Tm):List Tm:=eu (aW p ts)
variable {a b:Int×Int}
section
variable {p:Int}{R:Type} [Lean.Grind.CommRing R]{v:Int×Int->R}
theorem xP (hp:0<=p)(ha:Num p a.1 a.2)(hb:Num p b.1 b.2):Num p (kX p a b).1 (kX p a b).2 :=
 Num.set hp (zU (by have:=ha.pos;omega) (by have:=hb.pos;omega))
theorem ye (V:Val p R v)(ha:Num p a.1 a.2)(hb:Num p b.1 b.2):v (kX p a b)=v a*v b:=(V.set ha hb).2 rfl rfl
theorem jx (hp:0<=p){a b:List Tm}(ha:cb p a)(hb:cb p b):cb p (eY p a b):=λe he=>by
 obtain⟨x,hx,he⟩:=List.mem_flatMap.mp he;obtain⟨y,hy,rfl⟩:=YG.mp he;exact xP hp (ha x hx) (hb y hy)
theorem AH (V:Val p R v){x:Tm}(hx:Num p x.2.1 x.2.2)(F:List Int->R):∀{b:List Tm},cb p b->S v (b.map λy=>(fP (x.1++y.1),kX p x.2 y.2)) F=v x.2*S v b (λj=>F (fP (x.1++j)))
 |[],_=>by show(0:R)=v x.2*0;grind
 |y::b,h=>by
  have ih:=AH V hx F (b:=b) λe he=>h e (Yi _ he);show v (kX p x.2 y.2)*F (fP (x.1++y.1))+S v (b.map _) F=v x.2*(v y.2*F (fP (x.1++y.1))+S v b (λj=>F (fP (x.1++j))));rw[ih,ye V hx (h y Yl)];grind
theorem Bx (V:Val p R v){a b:List Tm}(ha:cb p a)(hb:cb p b)(F:List Int->R):S v (eY p a b) F=S v a (λi=>S v b (λj=>F (fP (i++j)))):=by
 induction a with
 |nil=>rfl
 |cons x a ih =>
  have ih:=ih λe he=>ha e (Yi _ he)
  have e:eY p (x::a) b=(b.map λy=>(fP (x.1++y.1),kX p x.2 y.2))++eY p a b:=by simp[eY]
  rw[e,ik,AH V (ha x Yl) F hb,ih];rfl
theorem nO {F G:List Int->R}(h:∀i,F i=G i)(a:List Tm):S v a F=S v a G:=by
 have:F=G:=funext h;rw[this]
end
section
variable {p:Int}{a b c:List Tm}
theorem FP.v {p:Int}(hp:FP p):∃(R:Type)(i:Lean.Grind.CommRing R)(v:Int×Int->R),@Val p R i v:=C2 (by
 rcases hp with h|h
 ·exact .inl h
 ·exact .inr (eN h).1)
theorem FP.tn {p:Int}(hp:FP p){a:List Tm}(ha:cb p a):cb p (tg p a):=by
 obtain⟨R,i,v,V⟩:=hp.v;exact Bt V hp.nn ha
end
structure Cd (p D M:Int)(a:Int×Int):Prop where
 num:Num p a.1 a.2
 d:p=0->∃k:Int,a.2*k=D/\((a.1*k).natAbs:Int)<=M
variable {p M:Int}
theorem Cd.mono {D M':Int}(h:Cd p D M a)(m:M<=M'):Cd p D M' a:=⟨h.num,λz=>by
 obtain⟨k,e,l⟩:=h.d z
 exact⟨k,e,Int.le_trans l m⟩⟩
variable {N:Int}
theorem Cd.add {D:Int}(hp:FP p)(ha:Cd p D M a)(hb:Cd p D N b):Cd p D (M+N) (cV p a b):=by
 have na:=ha.num.pos;have nb:=hb.num.pos;have nz:a.2*b.2≠0:=zU (by omega) (by omega);refine⟨Num.set hp.nn nz,λz=>?_⟩;subst z;obtain⟨x,ex,lx⟩:=ha.d rfl;obtain⟨y,ey,ly⟩:=hb.d rfl;have cr:=i5 (t:=a.1*b.2+b.1*a.2) nz;have nm:Num 0 (c7 0 (a.1*b.2+b.1*a.2) (a.2*b.2)) (c9 0 (a.1*b.2+b.1*a.2) (a.2*b.2)):=Num.set (ZY 0) nz;show ∃k,c9 0 (a.1*b.2+b.1*a.2) (a.2*b.2)*k=D/\(((c7 0 (a.1*b.2+b.1*a.2) (a.2*b.2))*k).natAbs:Int)<=M+N;generalize c7 0 (a.1*b.2+b.1*a.2) (a.2*b.2)=t at cr nm |-;generalize c9 0 (a.1*b.2+b.1*a.2) (a.2*b.2)=u at cr nm |-;obtain⟨a1,a2⟩:=a;obtain⟨b1,b2⟩:=b;dsimp only at *
 have e1:t*D=(a1*x+b1*y)*u:=by
  refine kY nz ?_
  have h1:(a1*b2+b1*a2)*D=(a1*x+b1*y)*(a2*b2):=by
   have:(a1*b2+b1*a2)*D=a1*b2*D+b1*a2*D:=by grind
   rw[this]
   have p1:a1*b2*D=a1*x*(a2*b2):=by rw[<-ex];grind
   have p2:b1*a2*D=b1*y*(a2*b2):=by rw[<-ey];grind
   rw[p1,p2];grind
  have:t*D*(a2*b2)=t*(a2*b2)*D:=by grind
  rw[this,cr]
  have:(a1*b2+b1*a2)*u*D=(a1*b2+b1*a2)*D*u:=by grind
  rw[this,h1];grind
 have dv:u ∣ D:=by
  have g:Int.gcd u t=1:=by rw[Int.gcd_comm];exact nm.red
  have h1:u ∣ t*D:=⟨a1*x+b1*y,by rw[e1];grind⟩;have h2:=Int.natAbs_dvd_natAbs.mpr h1;rw[Z7] at h2;exact Int.natAbs_dvd_natAbs.mp (Nat.Coprime.dvd_of_dvd_mul_left (show Nat.Coprime u.natAbs t.natAbs from g) h2)
 obtain⟨k,ek⟩:=dv;refine⟨k,ek.symm,?_⟩;have up:=nm.pos
 have e2:t*k=a1*x+b1*y:=by
  refine kY (show u≠0 by omega) ?_;rw[<-e1,ek];grind
 rw[e2];have:=Int.natAbs_add_le (a1*x) (b1*y);omega
theorem Cd.mul {D D':Int}(hp:FP p)(ha:Cd p D M a)(hb:Cd p D' N b):Cd p (D*D') (M*N) (kX p a b):=by
 have na:=ha.num.pos;have nb:=hb.num.pos;have nz:a.2*b.2≠0:=zU (by omega) (by omega);refine⟨Num.set hp.nn nz,λz=>?_⟩;subst z;obtain⟨x,ex,lx⟩:=ha.d rfl;obtain⟨y,ey,ly⟩:=hb.d rfl;have e1:=mi (t:=a.1*b.1) nz;have e2:=ja (t:=a.1*b.1) nz;refine⟨Nm.dv (a.1*b.1) (a.2*b.2)*(x*y),?_,?_⟩
 ·show cx (a.1*b.1) (a.2*b.2)*(Nm.dv (a.1*b.1) (a.2*b.2)*(x*y))=D*D';rw[<-jf,e2,<-ex,<-ey];grind
 ·show((dw (a.1*b.1) (a.2*b.2)*(Nm.dv (a.1*b.1) (a.2*b.2)*(x*y))).natAbs:Int)<=M*N;rw[<-jf,e1,show a.1*b.1*(x*y)=(a.1*x)*(b.1*y) by grind,Z7];push_cast;exact Int.mul_le_mul lx ly (by omega) (by omega)
theorem FP.bits (hp:FP p)(z:p≠0){t b:Int}(h:Num p t b):B 7 t/\B 7 b:=by
 obtain⟨_,_,M9⟩:=hp.two z;obtain⟨h1,h2,h3⟩:=h.pr z;constructor
 ·show t.natAbs<2^7;omega
 ·show b.natAbs<2^7;omega
theorem Cd.gn {D:Int}{n:Nat}(hp:FP p)(h:Cd p D M a)(h7:7<=n)(UH:D≠0)(hD:B n D)(hM:B n M):Gn p n a:=by
 by_cases z:p=0
 ·obtain⟨k,e,l⟩:=h.d z;have kz:k≠0:=λw=>UH (by rw[<-e,w,Int.mul_zero])
  have k1:1<=k.natAbs:=by omega
  refine⟨h.num,?_,?_⟩
  ·have:(a.1*k).natAbs<=M.natAbs:=by omega
   rw[Z7] at this;exact hM.le (Yq (Nat.le_mul_of_pos_right _ k1) this)
  ·rw[<-e] at hD;refine hD.le ?_;rw[Z7];exact Nat.le_mul_of_pos_right _ k1
 ·obtain⟨h1,h2⟩:=hp.bits z h.num;exact⟨h.num,h1.mono h7,h2.mono h7⟩
theorem zd {D:Int}{d:List Tm}{t:Tm}(hp:FP p)(hN:0<=N)(hM:0<=M)(hd:∀e∈d,Cd p D M e.2)(ht:Cd p D N t.2):∀e∈cK p d t,Cd p D (M+N) e.2:=by
 intro e he;unfold cK at he
 split at he
 ·obtain⟨e0,h0,rfl⟩:=YG.mp he
  by_cases q:e0.1=t.1
  ·rw[Yh q];exact(hd e0 h0).add hp ht
  ·rw[Yd q];exact(hd e0 h0).mono (by omega)
 ·rcases YI.mp he with he|he
  ·exact(hd e he).mono (by omega)
  ·have:e=t:=by simpa using he
   rw[this];exact ht.mono (by omega)
theorem se {D:Int}(hp:FP p)(hN:0<=N):∀(ts d:List Tm)(M:Int),0<=M->(∀e∈d,Cd p D M e.2)->(∀t∈ts,Cd p D N t.2)->∀e∈ts.foldl (cK p) d,Cd p D (M+N*ts.length) e.2
 |[],d,M,hM,hd,_,e,he=>(hd e he).mono (by simp)
 |t::ts,d,M,hM,hd,ht,e,he=>by
  have:=se hp hN ts (cK p d t) (M+N) (by omega) (zd hp hN hM hd (ht t Yl)) (λt h=>ht t (Yi _ h)) e he;refine this.mono ?_;rw[YC];push_cast;rw[Int.mul_add];omega
theorem z9 {D:Int}{ts:List Tm}(hp:FP p)(hN:0<=N)(h:∀t∈ts,Cd p D N t.2):∀e∈aW p ts,Cd p D (N*ts.length) e.2:=λe he=>by
 have:=se hp hN ts [] 0 (ZY 0) (λe h=>nomatch h) h e he;rwa[Int.zero_add] at this
theorem D7 {p D N:Int}{ts:List Tm}(hp:FP p)(hN:0<=N)(h:∀t∈ts,Cd p D N t.2):∀e∈tg p ts,Cd p D (N*ts.length) e.2:=λe he=>z9 hp hN h e (Y7.mp ((eV _).mem_iff.mp he)).1
end K44
namespace L2
open PySem PySem.W
noncomputable def qx (K:Frag):List V->Hp->VK->Prop:=λxs H Q=>∃p ys,xs=[.ref p]/\((bo K H p ys/\∀l,H l=none->Q (.ref l) (upd H l (.tup ys)))\/(aV K H p ys/\Q (.ref p) H))
noncomputable def uB (K:Frag):List V->Hp->VK->Prop:=λxs H Q=>∃p ys,xs=[.ref p]/\(bo K H p ys\/aV K H p ys)/\∀l,H l=none->Q (.ref l) (upd H l (.lst ys))
section
variable {X:Cx}
theorem fE {K:Frag}(hK:X.K=K):cT X (.type "tuple") (qx K):=by subst hK;exact di
theorem md {K:Frag}(hK:X.K=K):cT X (.type "list") (uB K):=by subst hK;exact dG
theorem i7 {K:Frag}(hK:X.K=K):AZ X (yj K):=by subst hK;exact bH
theorem rY {K:Frag}(hK:X.K=K):AZ X (xR K):=by subst hK;exact cB
variable {tg l:Expr}{tl:TE}
end
open PySem.Spec PyProof.Rows
section
variable {X:Cx}
noncomputable def Cy (K:PySem.W.Frag):R2:=λx y H Q=>∃p q xs,x=.ref p/\y=.ref q/\bo K H p xs/\bo K H q []/\Q (.bl (!decide (xs=[]))) H
theorem vW {k:Nat}(hr:xh k X.A):eA X (compareOp .NotEq) (Cy X.K):=by
 intro pins s σ H x y v u Q I rx ry h;obtain⟨p,q,xs,rfl,rfl,h1,h2,w⟩:=h
 by_cases e:xs=[]
 ·subst e;refine ng hr pins s σ H _ _ v u Q I rx ry ⟨.lst [],.lst [],?_,?_,by decide,w⟩
  ·unfold aM;exact⟨p,[],rfl,h1,by unfold bg;rfl⟩
  ·unfold aM;exact⟨q,[],rfl,h2,by unfold bg;rfl⟩
 ·cases(show v=Value.ref p from rx)
  cases(show u=Value.ref q from ry)
  obtain⟨its,r1,p1,_⟩:=I.list h1;obtain⟨Fx,r2,p2,_⟩:=I.list h2
  cases r2
  have hl:=r1.length;have hx:xs.length≠0:=λz=>e (zq z)
  have hs:(its.toArray.size != ([]:m8).toArray.size)=true:=by
   have:its.toArray.size≠0:=by rw[Yj];omega
   simpa using this
  exact SeqAt.RcNeAt.lists_lengths p1.isList p2.isList hs hr.adp X.prog X.w X.xe _ ⟨.bl true,H,I,rfl,by simpa[e] using w⟩
end
end L2
namespace K44
open PySem L2 PySem.W Nm Srt
noncomputable def Fm (ks:List Int):Prop:=ks.Pairwise (· < ·)/\(∀k∈ks,0<=k)/\ks.length<64
theorem nU:∀{ks:List Int}{k:Int}(d:Int),ks.Pairwise (· < ·)->k∈ks->k<=ks.getLastD d
 |[],_,_,_,h=>nomatch h
 |[a],k,d,_,h=>by
  have:k=a:=by simpa using h
  subst this;exact ZY _
 |a::b::r,k,d,hp,h=>by
  obtain⟨h1,h2⟩:=YQ.mp hp;have e:(a::b::r).getLastD d=(b::r).getLastD a:=rfl;rw[e]
  rcases Yn.mp h with rfl|h
  ·have:=nU k h2 (Yl (a:=b) (l:=r));have:=h1 b Yl;omega
  ·exact nU a h2 h
theorem wZ {ts:List Tm}{t:Tm}{k:Int}(ht:t∈ts)(hp:t.1.Pairwise (· < ·))(hk:k∈t.1):k<fh ts:=by
 have ne:t.1≠[]:=by intro z;rw[z] at hk;cases hk
 have hm:DZ t∈(ts.filter λt=>!t.1.isEmpty).map DZ:=YG.mpr ⟨t,Y7.mpr ⟨ht,by
  cases q:t.1 with
  |nil=>exact absurd q ne
  |cons a r=>rfl⟩,rfl⟩
 obtain⟨b,e,_,hb⟩:=lQ (ns:=(ts.filter λt=>!t.1.isEmpty).map DZ) (by intro z;rw[z] at hm;cases hm);unfold fh;rw[e];have h1:=hb _ hm;have h2:=nU 0 hp hk;unfold DZ at h1;show k<b;omega
theorem pG {K:Frag}{H:Hp}{a:Addr}{ns:List Int}(h:H a=some (.tup (ns.map V.int))):aM K H (.tup (ns.map D.int)) (.ref a):=by
 unfold aM;exact⟨a,_,rfl,aV.of h,ui ns⟩
theorem yS (ns:List Int):iF (.tup (ns.map D.int))=1:=by unfold iF;rw[y1]
theorem vY {ts:List Tm}{n:Int}(hn:0<=n)(h:∀t∈ts,∀k∈t.1,k<n):fh ts<=n:=by
 unfold fh
 by_cases ne:(ts.filter λt=>!t.1.isEmpty).map DZ=[]
 ·rw[ne];exact hn
 ·obtain⟨b,e,b1,b2⟩:=lQ ne;rw[e];show b<=n;obtain⟨t,ht,rfl⟩:=YG.mp b1;obtain⟨Nh,Rq⟩:=Y7.mp ht
  have ne1:t.1≠[]:=by intro z;rw[z] at Rq;cases Rq
  have:t.1.getLastD 0∈t.1:=by
   rw[List.getLastD_eq_getLast?,List.getLast?_eq_some_getLast ne1];exact List.getLast_mem ne1
  have:=h t Nh _ this;unfold DZ;omega
noncomputable abbrev xJ:Stmt:=(ba 13)
noncomputable def mY:V->Bool
 | .int i=>decide (0<=i)&&decide (i<=1)
 |_=>false
noncomputable def xW:Option (List V)->Bool
 |none=>false
 |some xs=>xs.all mY
noncomputable def yw:Sp:=λvs H Q _=>∃x o,vs=[x]/\PX H x o/\∀H',aC H H'->Q (.bl (xW o)) H'
theorem BH:CN p4 p4 (ar xJ):=fe (by decide +kernel)
variable {P:wu}{w:World}{K:PySem.W.Frag}{mg:vx}{base:Heap}
theorem Al {f:Addr}{fd:BB}(F:vP K "is_row_of_bits" "is_row_of_bits" xJ f fd)(Fs:mg "isinstance"=none)(Fu:mg "tuple"=none)(FY:mg "all"=none)
 (q0:Ca P w K mg base 1 p4 "is_whole" uY):yd P w K mg base (cD P w) 2 f fd p4 yw:=by
 obtain⟨fw,Ki,FW,bW,mW,kW⟩:=q0;refine F.okN BH (λvs H Q E h=>?_) (λFv A outer s H vs Q E hr h=>?_)
 ·obtain⟨x,o,rfl,_⟩:=h;rfl
 ·obtain⟨x,o,rfl,px,q⟩:=h;have FN:xh 1 _:=hr.mono (by decide)
  refine⟨_,ax (aF (dz (aE aZ (by rfl) Fs (by rfl) (aj (pv 0) (aj (cC (by rfl) Fu (by rfl) (show aG (.ty "tuple") (.type "tuple") from rfl)) ag rfl) rfl))
   (eM (aE (iu rfl) (by rfl) FY (by rfl) (aj (bY (N:=["bit"]) (nl:=1) (js:=[]) (osc:=ar xJ) ⟨rfl,rfl,by decide +kernel,by decide +kernel,by decide +kernel,rfl,.nil,by decide +kernel⟩ rfl
    (dB (pv 0))
    (λC fp s H=>aD (i:=0) (by show(["bit"]:EG).Nodup;decide +kernel) rfl (Or.inl rfl) (Or.inr rfl))
    (λC fp s H=>c6)
    (λC fp s H=>(dz (aH FW FN (by rfl) mW kW bW .nil ao (aj (pv 0) ag rfl)) (eM (jG pb pb ak (pv 0) ak))))) ag rfl))))),?_⟩
  cases px with
  |@no x T th ne =>
   refine⟨_,rfl,x,.ty "tuple",_,_,_,rfl,rfl,th.ty,th.isTup,_,rfl,?_⟩;rw[Yu ne];exact b7 (q _ (aC.refl _))
  |@tup a xs ha hl Ks =>
   refine⟨_,rfl,.ref a,.ty "tuple",_,_,_,rfl,rfl,.of (.tup ha),rfl,_,rfl,bA ?_⟩;refine⟨_,rfl,a,rfl,⟨xs,aV.of ha⟩,?_⟩;refine⟨λi m ys σ' H'=>m=xs.length-i/\i<=xs.length/\ys=((xs.take i).map mY).map V.bl/\H=H'/\∃o,σ'=[o],⟨xs.length,by simp,Yt _,by simp,rfl,none,rfl⟩,?_⟩;rintro i m ys σ' H' ⟨rfl,hi,rfl,rfl,o,rfl⟩;refine⟨Yo (by simp;omega) (YX hl (by decide)),?_⟩
   by_cases Fy:i<xs.length
   ·refine .inr ⟨⟨xs,xs[i],aV.of ha,by simp[Fy]⟩,λy H2 hy=>?_⟩;obtain⟨rfl,hy⟩:=hy;have ey:=hy xs (aV.of ha);obtain⟨T,th⟩:=Ks y (YA ey)
    have e2:xs.take (i+1)=xs.take i++[y]:=by
     rw[YE,ey];rfl
    have done:∀b,b=mY y->∃m',m'<xs.length-i/\m'=xs.length-(i+1)/\i+1<=xs.length/\((xs.take i).map mY).map V.bl++[V.bl b]=((xs.take (i+1)).map mY).map V.bl/\H2=H2/\∃o,([some y]:St)=[o]:=λb hb =>
     ⟨xs.length-(i+1),by omega,rfl,Fy,by rw[e2,hb];simp,rfl,_,rfl⟩
    dsimp only[As,bw];refine bA ⟨_,rfl,y,T,rfl,th,_,rfl,?_⟩
    cases e:cg y with
    |false =>
     have z:mY y=false:=by cases y <;> first|rfl|cases e
     exact b7 (done false z.symm)
    |true =>
     have z1:∃n,y=.int n:=by cases y <;> first|exact⟨_,rfl⟩|cases e
     obtain⟨n,rfl⟩:=z1;refine bA ⟨_,rfl,_,_,rfl,rfl,_,rfl,?_⟩;refine cG (λh=>?_) (λh=>?_)
     ·have h':decide (0<=n)=true:=h;exact⟨_,_,rfl,rfl,done _ (by show _=(decide (0<=n)&&decide (n<=1));rw[h',Zr])⟩
     ·have h':decide (0<=n)=false:=by simpa using h
      exact done false (by show _=(decide (0<=n)&&decide (n<=1));rw[h',ZF])
   ·have ei:i=xs.length:=by omega
    subst ei;refine .inl ⟨⟨xs,aV.of ha,Ye _⟩,λD hD=>?_⟩;rw[Yv];refine⟨D,_,xs.map mY,rfl,bo.of ai,jM _,?_⟩
    have z:(xs.map mY).all id=xW (some xs):=by rw[Z9];rfl
    rw[z];exact q _ (aq hD)
end K44
namespace L2
open PySem
variable {H:Hp}
theorem xG {σ:St}{A B:Hp->Prop}(h:A H):As σ H λb H4=>if b=true then A H4 else B H4:=h
variable {tt:TT}{te:TE}
theorem oP {J:It}{n:Nat}{at_:Nat->V->Prop}{rest:St}{F:List V->Hp->Prop}(Pv:Nat->List V->Hp->Prop)(h0:Pv 0 [] H)
 (hz:∀i ys H',i<=n->Pv i ys H'->ys.length<sizeLine/\(i<n->J.go i H')/\(i=n->J.stop i H')/\∀x H2,J.yld i H' x H2->H2=H'/\at_ i x)
 (hs:∀i x ys H' (N:List V->Hp->Prop),i<n->at_ i x->Pv i ys H'->(∀zs H5,Pv (i+1) zs H5->N zs H5) →
  tt (some x::rest) H' λb H4=>if b=true then te (some x::rest) H4 λy H5=>N (ys++[y]) H5 else N ys H4)
 (hd:∀ys H',Pv n ys H'->F ys H'):
 ∃W:Nat->Nat->List V->St->Hp->Prop,(∃m,W 0 m [] (none::rest) H)/\ky J (bw 0) tt te W F:=by
 refine⟨λi m ys σ H'=>m=n-i/\i<=n/\Pv i ys H'/\∃o,σ=o::rest,⟨n,by simp,Yt _,h0,none,rfl⟩,?_⟩;rintro i m ys σ H' ⟨rfl,hi,p,o,rfl⟩;obtain⟨z1,z2,z3,z4⟩:=hz i ys H' hi p;refine⟨z1,?_⟩
 by_cases Fy:i<n
 ·refine .inr ⟨z2 Fy,λx H2 hy=>?_⟩;obtain⟨rfl,hx⟩:=z4 x H2 hy;exact hs i x ys H2 (λzs H5=>∃m',m'<n-i/\m'=n-(i+1)/\i+1<=n/\Pv (i+1) zs H5/\∃o',(some x::rest:St)=o'::rest) Fy hx p λzs H5 h=>⟨n-(i+1),by omega,rfl,Fy,h,_,rfl⟩
 ·have:i=n:=by omega
  subst this;exact .inl ⟨z3 rfl,hd ys H' p⟩
theorem dY {K:PySem.W.Frag}{a:Addr}{xs:List V}{rest:St}{F:List V->Hp->Prop}(Pv:Nat->List V->Hp->Prop)(h0:Pv 0 [] H)
 (hz:∀i ys H',i<=xs.length->Pv i ys H'->ys.length<sizeLine/\aV K H' a xs)
 (hs:∀i x ys H' (N:List V->Hp->Prop),i<xs.length->xs[i]?=some x->Pv i ys H'->(∀zs H5,Pv (i+1) zs H5->N zs H5) →
  tt (some x::rest) H' λb H4=>if b=true then te (some x::rest) H4 λy H5=>N (ys++[y]) H5 else N ys H4)
 (hd:∀ys H',Pv xs.length ys H'->F ys H'):
 ∃W:Nat->Nat->List V->St->Hp->Prop,(∃m,W 0 m [] (none::rest) H)/\ky (C4 K a) (bw 0) tt te W F:=by
 refine oP (n:=xs.length) (at_:=λi x=>xs[i]?=some x) Pv h0 (λi ys H' hi p=>?_) hs hd;obtain⟨z1,z2⟩:=hz i ys H' hi p;exact⟨z1,λh=>⟨xs,xs[i],z2,by simp[h]⟩,λh=>⟨xs,z2,by omega⟩,λx H2 hy=>⟨hy.1,hy.2 xs z2⟩⟩
theorem pf {lo:Int}{n:Nat}{rest:St}{F:List V->Hp->Prop}(Pv:Nat->List V->Hp->Prop)(h0:Pv 0 [] H)
 (hz:∀i ys H',i<=n->Pv i ys H'->ys.length<sizeLine)
 (hs:∀i ys H' (N:List V->Hp->Prop),i<n->Pv i ys H'->(∀zs H5,Pv (i+1) zs H5->N zs H5) →
  tt (some (.int (lo+i)):: rest) H' λb H4=>if b=true then te (some (.int (lo+i)):: rest) H4 λy H5=>N (ys++[y]) H5 else N ys H4)
 (hd:∀ys H',Pv n ys H'->F ys H'):
 ∃W:Nat->Nat->List V->St->Hp->Prop,(∃m,W 0 m [] (none::rest) H)/\ky (BM lo n) (bw 0) tt te W F:=by
 refine oP (n:=n) (at_:=λi x=>x=.int (lo+i)) Pv h0 (λi ys H' hi p=>?_) (λi x ys H' N h1 h2=>by subst h2;exact hs i ys H' N h1) hd;exact⟨hz i ys H' hi p,λh=>h,λh=>by show n<=i;omega,λx H2 hy=>hy⟩
end L2
namespace K44
open PySem L2 PySem.W Nm Srt
noncomputable abbrev qH:Stmt:=bh (ba 34) 13
noncomputable def dy (bs:List Int)(ks:List Int):Bool:=(ks.filter λk=>bs.getD k.toNat 0==0).isEmpty
noncomputable def b0 (p:Int)(bs:List Int)(a:Int×Int)(t:Tm):Int×Int:=if dy bs t.1=true then cV p a t.2 else a
noncomputable def bZ (p:Int)(bs:List Int)(ts:List Tm):Int×Int:=ts.foldl (b0 p bs) (0,1)
theorem gQ (p:Int)(bs:List Int)(ts:List Tm)(t:Tm):bZ p bs (ts++[t])=b0 p bs (bZ p bs ts) t:=by
 unfold bZ;rw[List.foldl_append];rfl
variable {k:Int}
theorem rf {bs:List Int}(h0:0<=k)(h1:k<(bs.length:Int)):p9 (bs.map V.int) k=some (.int (bs.getD k.toNat 0)):=by
 unfold p9 xN;rw[Yg,Yh h0,Yh h1];show(bs.map V.int)[k.toNat]?=_
 have hk:k.toNat<bs.length:=by omega
 rw[YU,YZ hk,Zt,YZ hk];rfl
variable {p:Int}
theorem j8 {m:Nat}{bs:List Int}(hp:FP p):∀(n:Nat)(ts:List Tm),ts.length=n->(∀t∈ts,Gn p m t.2)->Gn p ((m+1)*n+7) (bZ p bs ts)
 |0,ts,hn,_=>by
  have:ts=[]:=List.length_eq_zero_iff.mp hn;subst this;show Gn p ((m+1)*0+7) (0,1);refine⟨⟨(by show(0:Int)<1;decide),(by show Int.gcd 0 1=1;decide),λz=>⟨rfl,(by show(0:Int)<=0;decide),?_⟩⟩,?_,?_⟩
  ·have:=(hp.two z).2.1;show(0:Int)<p;omega
  ·show(0:Int).natAbs<2^((m+1)*0+7);rw[Nat.mul_zero];decide
  ·show(1:Int).natAbs<2^((m+1)*0+7);rw[Nat.mul_zero];decide
 |n+1,ts,hn,h=>by
  obtain⟨HZ,t,rfl⟩:∃HZ t,ts=HZ++[t]:=by
   have F2:ts≠[]:=by intro z;rw[z] at hn;cases hn
   exact⟨ts.dropLast,ts.getLast F2,(Ai F2).symm⟩
  have hl:HZ.length=n:=by simpa using hn
  have ih:=j8 (bs:=bs) hp n HZ hl λt ht=>h t (ZE _ ht);have gt:=h t (Yx _ (by simp));rw[gQ];have e2:(m+1)*(n+1)=(m+1)*n+(m+1):=Nat.mul_succ _ _;unfold b0
  split
  ·have g:=mq hp ih gt (by omega);exact⟨g.1,g.2.1.mono (by omega),g.2.2.mono (by omega)⟩
  ·exact⟨ih.1,ih.2.1.mono (by omega),ih.2.2.mono (by omega)⟩
noncomputable def DF (p:Int)(m:Nat)(ts:List Tm):Prop:=ts.length<64/\(∀t∈ts,Gn p m t.2/\Fm t.1)/\(m+1)*ts.length+7<=4000/\m<=4000
structure Wb (ts:List Tm)(bs:List Int):Prop where
 l:bs.length<64
 b:∀b∈bs,0<=b/\b<=1
 r:fh ts<=bs.length
variable {ts:List Tm}
theorem Wb.all {bs:List Int}(h:Wb ts bs):xW (some (bs.map V.int))=true:=by
 show(bs.map V.int).all mY=true;rw[ZQ];intro y hy;obtain⟨b,hb,rfl⟩:=YG.mp hy;have:=h.b b hb;show(decide (0<=b)&&decide (b<=1))=true;simp[this]
structure BE (C CF:Addr)(H:Hp)(s dx fl FK D:Addr)(p:Int)(zs:List V)(ts:List Tm):Prop where
 hs:H s=some (.ins C dx (uR fl D))
 hf:H fl=some (.ins CF FK (gE p))
 hp:FP p
 hD:H D=some (.lst zs)
 hz:bp H zs ts
variable {CF:Addr}
theorem BE.same {C:Addr}{H H':Hp}{s dx fl FK D:Addr}{zs:List V}(h:BE C CF H s dx fl FK D p zs ts)(e:aC H H'):BE C CF H' s dx fl FK D p zs ts :=
 ⟨e _ _ h.hs,e _ _ h.hf,h.hp,e _ _ h.hD,bp.keep h.hz (aI.of e)⟩
noncomputable def ue (C CF:Addr):Sp:=λvs H Q _=>∃(s a:Addr)(p:Int)(ts:List Tm)(m:Nat)(bs:List Int),vs=[.ref s,.ref a]/\Fj C CF H s p ts/\FP p/\DF p m ts/\H a=some (.tup (bs.map V.int))/\Wb ts bs /\
 ∀H' a,aC H H'->H' a=some (cw (bZ p bs ts).1 (bZ p bs ts).2)->Q (.ref a) H'
theorem iC:CN ["self","filling","total","product","number"] ["self","filling"] (ar qH):=fe (by decide +kernel)
theorem uv:∀ns:List Int,Paired C6 (ns.map V.int) (ns.map λn=>n != 0)
 |[]=>.nil
 |b::bs=>.cons rfl (uv bs)
variable {ks:List Int}
theorem qv {bs:List Int}:((ks.map λk=>bs.getD k.toNat 0).map λn=>n != 0).all id=dy bs ks:=by
 unfold dy;rw[CL,Z9]
 induction ks with
 |nil=>rfl
 |cons k r ih =>
  rw[Z3,ih];show((bs.getD k.toNat 0 != 0)&&_)=_
  by_cases z:bs.getD k.toNat 0=0
  ·rw[NI (by show(bs.getD k.toNat 0==0)=true;rw[z];rfl)];rw[z];rfl
  ·rw[u6 (by show ¬(bs.getD k.toNat 0==0)=true;intro y;exact z (eq_of_beq y))]
   have:(bs.getD k.toNat 0 != 0)=true:=by simpa using z
   rw[this,Zr]
theorem DH {NN:Addr}{H:Hp}{Q:VK}{E:XK}{fl FK:Addr}(hf:H fl=some (.ins CF FK (gE p)))(hp:FP p)(q:∀a,H a=none->Q (.ref a) (upd H a (cw 0 1))):rm CF NN [.ref fl,.int 0,.int 1] H Q E:=by
 refine⟨fl,FK,p,.int 0,.int 1,"int","int",rfl,hf,.int 0,.int 1,λt b e1 e2=>?_,λz=>by cases z⟩
 cases e1
 cases e2
 refine⟨fl,FK,p,0,1,rfl,hf,hp,(by show(1:Int).natAbs<2^9000;exact Ys (by decide:(1:Int).natAbs<2^1) (ZG (by decide) (by decide))),λ_ z=>absurd z (by decide),λ_ _ a ha=>?_,λz y=>?_,λz _ v v0 v1 v2 a ha=>?_⟩
 ·have z:=kK (t:=0) (b:=1) (by decide) (by simp);rw[z.1,z.2];exact q a ha
 ·have:=(hp.two z).2.1;rw[BY (by decide) (by omega)] at y
  cases y
 ·rw[Int.zero_mul,Int.zero_emod];exact q a ha
variable {P:wu}{w:World}{K:PySem.W.Frag}{mg:vx}{base:Heap}
theorem yk {f C NF NN fm:Addr}{fd Ox:BB}{tM:Tok}(F:vP K "worth" "Sum.worth" qH f fd)(c:zc K mg C)(cF:Bg K mg CF)(Fz:mg "len"=none)(FY:mg "all"=none)
 (q0:Ca P w K mg base 2 p4 "is_row_of_bits" yw)
 (q1:Cm P w K mg base 1 ["self"] C "reach" (tL C))
 (FM:yd P w K mg base (cD P w) 4 fm Ox BD (rm CF NN))(bM:L2.ck K Ox BD [.int 1 tM])(mM:L2.Meth K CF "made" fm)
 (q2:Cm P w K mg base 4 Ez CF "plus" (yu CF je))
 (mN:mg "NoFilling"=some (.ref NF))(qN:nG K NF Cc qh=true):yd P w K mg base (cD P w) 5 f fd ["self","filling"] (ue C CF):=by
 obtain⟨fb,XO,FB,bB,mB,kB⟩:=q0;obtain⟨fr,XQ,FR,bR,mR⟩:=q1;obtain⟨fp,Kr,FP,bP,mP⟩:=q2;refine F.okE iC (λvs H Q E h=>?_) (λFv A outer s H vs Q E hr h=>?_)
 ·obtain⟨s,a,p,ts,m,bs,rfl,_⟩:=h;rfl
 ·obtain⟨s0,a,p,ts,m,bs,rfl,⟨dx,fl,FK,D,zs,S1,S2,S3,S4⟩,hp,⟨Fy,KI,hm,Kw⟩,ha,hb,q⟩:=h;have S:BE C CF H s0 dx fl FK D p zs ts:=⟨S1,S2,hp,S3,S4⟩;clear S1 S2 S3 S4;have GW:xh 4 _:=hr.mono (by decide);have GL:xh 2 _:=hr.mono (by decide);have FN:xh 1 _:=hr.mono (by decide);have hG:=λt ht=>(KI t ht).2;have XR:=hb.r
  refine⟨_,(au (bF (PW.pt (dE (bN (bO (aH FB GL (by rfl) mB kB bB .nil ao (aj (pv 1) ag rfl)))) (dD (aN ir (aE bJ (by rfl) Fz ZU (aj (pv 1) ag rfl)) (ip (pv 0) c.cl mR FR FN bR .nil ao) (aU _))))) (ax (fU ZO qN rfl dX (by rfl) mN (aj gN ag rfl))) aS)
   (au (@aX _ _ 2 _ _ _ _ iC.nd rfl (Or.inl rfl) (fJ (dvs:=[.int 1]) (cN (pv 0) rfl) cF.cl mM FM GW bM (.cons ⟨_,rfl⟩ .nil) ao (aj ak ag rfl)) rfl (Or.inl rfl))
   (oO.nox (au (dW Y4 rfl (dM (cN (pv 0) rfl)) (cY rfl (aO (aD (i:=3) iC.nd rfl (Or.inl rfl)) (aO (aD (i:=4) iC.nd rfl (Or.inl rfl)) cu)))
   (ax (bF (bO (aE (iu rfl) (by rfl) FY (by rfl) (aj (bY (N:=["place","filling"]) (nl:=1) (js:=[1]) (osc:=ar qH) ⟨rfl,rfl,by decide +kernel,by decide +kernel,by decide +kernel,rfl,(.cons ⟨rfl,by decide +kernel⟩ .nil),by decide +kernel⟩ rfl
    (dB (pv 3))
    (λC fp s H=>aD (i:=0) (by show(["place","filling"]:EG).Nodup;decide +kernel) rfl (Or.inl rfl) (Or.inr rfl))
    (λC fp s H=>c6)
    (λC fp s H=>(aY (show AZ _ (yj K) from bH) (pv 1) (pv 0) (λ_ _=>rfl)))) ag rfl))) (ax (@aX _ _ 2 _ _ _ _ iC.nd rfl (Or.inl rfl) (fJ (cN (pv 0) rfl) cF.cl mP FP GW bP .nil ao (aj (pv 2) (aj (pv 4) ag rfl) rfl)) rfl (Or.inl rfl))) aS)))
   (ax (aF (pv 2))))))),?_⟩
  refine⟨_,rfl,.ref a,some (bs.map V.int),rfl,.tup ha (by rw[Yg];have:=hb.l;omega) (λy hy=>?_),λH1 s1=>⟨_,rfl,?_⟩⟩
  ·obtain⟨b,_,rfl⟩:=YG.mp hy;exact⟨_,.int b⟩
  rw[hb.all];refine b7 ?_;have Gu:=s1 _ _ ha;have S1:=S.same s1;refine⟨_,rfl,a,bs.map V.int,rfl,.inr (aV.of Gu),_,rfl,s0,dx,_,rfl,S1.hs,rfl,s0,dx,fl,D,zs,ts,rfl,S1.hs,S1.hD,S1.hz,by omega,λt ht=>by have:=(hG t ht).2.2;omega,λH2 s2=>?_⟩;refine⟨_,_,rfl,rfl,_,rfl,?_⟩;have Gz:=s1.trans s2;refine cG (λh=>?_) (λh=>?_)
  ·have h':(((bs.map V.int).length:Nat):Int)<fh ts:=by simpa using h
   rw[Yg] at h';omega
  ·have h5:=hb.r;have q':=q
   have gg:∀i,i<=ts.length->Gn p 4000 (bZ p bs (ts.take i)):=λi hi=>by
    have b:=j8 (m:=m) (bs:=bs) S.hp i (ts.take i) (by simp;omega) λt ht=>(KI t (Zq ht)).1;have le:(m+1)*i+7<=4000:=Yq (Nat.add_le_add_right (Ct _ hi) _) hm;exact⟨b.1,b.2.1.mono le,b.2.2.mono le⟩
   have gT:∀t∈ts,Gn p 4000 t.2:=λt ht=>⟨(KI t ht).1.1,(KI t ht).1.2.1.mono Kw,(KI t ht).1.2.2.mono Kw⟩;have S2:=S.same Gz;have Hs:=Gz _ _ ha;have hlen:=S.hz.length;refine⟨_,rfl,s0,C,dx,_,_,rfl,S2.hs,c.cl,c.nF,rfl,fl,FK,_,rfl,S2.hf,rfl,DH S2.hf S.hp λa0 JK=>?_⟩;have s3:aC H (upd H2 a0 (cw 0 1)):=Gz.trans (aq JK);have S3:=S.same s3;refine⟨_,rfl,s0,C,dx,_,_,rfl,S3.hs,c.cl,c.nT,rfl,D,rfl,⟨zs,bo.of S3.hD⟩,?_⟩
   refine ij (xs:=zs) (λi σ' H'=>aC H H'/\∃aw o3 o4,H' aw=some (cw (bZ p bs (ts.take i)).1 (bZ p bs (ts.take i)).2)/\σ'=[some (.ref s0),some (.ref a),some (.ref aw),o3,o4])
    ⟨s3,a0,none,none,ai,rfl⟩ (λi σ' H' _ h=>bo.of (h.1 _ _ S.hD)) (λi y σ' H' hy h=>?_) (λσ' H' h=>?_)
   ·obtain⟨sH,aw,o3,o4,hw,rfl⟩:=h;obtain⟨t,et,tr⟩:=bK S.hz hy;obtain⟨at_,pr,nu,rfl,Ja,Gd,Gw⟩:=tr.keep (aI.of sH);have tm:=YA et;obtain⟨pw,k0,kl⟩:=hG t tm;have gt:=gT t tm
    have UI:i<ts.length:=by
     rcases Z0 i ts.length with z|z
     ·exact z
     ·rw[List.getElem?_eq_none z] at et;cases et
    have F5:ts.take (i+1)=ts.take i++[t]:=by rw[YE,et];rfl
    have SH:=S.same sH;have UJ:=sH _ _ ha;refine⟨at_,_,rfl,aV.of Ja,rfl,_,_,rfl,_,_,rfl,rfl,?_⟩;refine⟨_,rfl,pr,rfl,⟨_,aV.of Gd⟩,?_⟩;refine dY (xs:=t.1.map V.int) (λj us H3=>H'=H3/\us=((t.1.take j).map λk=>bs.getD k.toNat 0).map V.int) ⟨rfl,rfl⟩ (λj us H3 hj h=>?_) (λj x us H3 N hj hx h k=>?_) (λus H3 h=>?_)
    ·obtain⟨rfl,rfl⟩:=h;exact⟨Yo (by simp;omega) (YX kl (by decide)),aV.of Gd⟩
    ·obtain⟨rfl,rfl⟩:=h
     have Jh:j<t.1.length:=by simpa using hj
     have ex:t.1[j]?=some t.1[j]:=by simp[Jh]
     have ev:x=.int t.1[j]:=by
      rw[YU,ex] at hx;exact(Option.some.inj hx).symm
     subst ev;have km:=List.getElem_mem Jh;have k1:=wZ tm pw km
     have ek:t.1.take (j+1)=t.1.take j++[t.1[j]]:=by rw[YE,ex];rfl
     refine xG ⟨_,rfl,_,rfl,a,_,_,_,rfl,rfl,aV.of UJ,rf (k0 _ km) (by omega),k _ _ ⟨rfl,?_⟩⟩;rw[ek,Y2,Y2];rfl
    ·obtain⟨rfl,rfl⟩:=h;intro L hL;rw[Yg,Yv];have sL:aC H' (upd H' L (.lst ((t.1.map λk=>bs.getD k.toNat 0).map V.int))):=aq hL;refine⟨L,_,_,rfl,bo.of ai,uv _,_,rfl,?_⟩;rw[qv];have gw:=gg i (Zi UI);have SL:=SH.same sL
     cases KJ:dy bs t.1 with
     |true =>
      have ew:b0 p bs (bZ p bs (ts.take i)) t=cV p (bZ p bs (ts.take i)) t.2:=by unfold b0;rw[Yh KJ]
      refine bA ⟨_,rfl,s0,C,dx,_,_,rfl,SL.hs,c.cl,c.nF,rfl,fl,FK,_,rfl,SL.hf,rfl,_,rfl,_,rfl,fl,FK,aw,nu,p,(bZ p bs (ts.take i)).1,(bZ p bs (ts.take i)).2,t.2.1,t.2.2,rfl,SL.hf,S.hp,sL _ _ hw,sL _ _ Gw,gw.2.1,gw.2.2,gt.2.1,gt.2.2,gw.ne,gt.ne,λan UK=>?_⟩;refine⟨sH.trans (sL.trans (aq UK)),an,_,_,?_,rfl⟩;rw[F5,gQ,ew];exact ai
     |false =>
      have ew:b0 p bs (bZ p bs (ts.take i)) t=bZ p bs (ts.take i):=by unfold b0;rw[Yd (by rw[KJ];decide)]
      refine b7 ⟨sH.trans sL,aw,_,_,?_,rfl⟩;rw[F5,gQ,ew];exact sL _ _ hw
   ·obtain⟨sH,aw,o3,o4,hw,rfl⟩:=h;rw[hlen,Yv] at hw;exact⟨_,rfl,q' _ aw sH hw⟩
theorem b9 {bs:List Int}:dy bs ks=true ↔ ∀k∈ks,bs.getD k.toNat 0≠0:=by
 unfold dy;rw[List.isEmpty_iff,List.filter_eq_nil_iff];constructor
 ·intro h k hk z;exact h k hk (by rw[z];rfl)
 ·intro h k hk z;exact h k hk (eq_of_beq z)
section
variable {p:Int}{R:Type} [Lean.Grind.CommRing R]{v:Int×Int->R}
noncomputable def fl (bs:List Int)(ks:List Int):R:=if dy bs ks=true then 1 else 0
theorem CB {bs a b:List Int}:(fl bs (fP (a++b)):R)=fl bs a*fl bs b:=by
 unfold fl
 by_cases ha:dy bs a=true
 ·by_cases hb:dy bs b=true
  ·rw[Yh ha,Yh hb,Yh (b9.mpr λk hk=>?_)]
   ·grind
   ·rcases YI.mp (ie.mp hk) with h|h
    ·exact b9.mp ha k h
    ·exact b9.mp hb k h
  ·rw[Yd hb,Yd λz=>hb (b9.mpr λk hk=>b9.mp z k (ie.mpr (Yx _ hk)))];grind
 ·rw[Yd ha,Yd λz=>ha (b9.mpr λk hk=>b9.mp z k (ie.mpr (ZE _ hk)))];grind
theorem Av (a:List Tm)(c:R)(F:List Int->R):S v a (λi=>F i*c)=S v a F*c:=by
 rw[nO (G:=λi=>c*F i) (λi=>by grind),AV];grind
theorem fj (V:Val p R v)(hp:0<=p){bs:List Int}:∀{ts:List Tm}{a:Int×Int},cb p ts->Num p a.1 a.2->v (ts.foldl (b0 p bs) a)=v a+S v ts (fl bs)/\Num p (ts.foldl (b0 p bs) a).1 (ts.foldl (b0 p bs) a).2
 |[],a,_,ha=>⟨by show v a=v a+0;grind,ha⟩
 |t::ts,a,h,ha=>by
  have ht:=h t Yl;have h2:cb p ts:=λe he=>h e (Yi _ he);show v (ts.foldl (b0 p bs) (b0 p bs a t))=v a+(v t.2*fl bs t.1+S v ts (fl bs))/\Num p (ts.foldl (b0 p bs) (b0 p bs a t)).1 (ts.foldl (b0 p bs) (b0 p bs a t)).2;unfold b0 fl
  by_cases f:dy bs t.1=true
  ·rw[Yh f,Yh f];obtain⟨e,n⟩:=fj V hp (bs:=bs) h2 (oM hp ha ht);refine⟨?_,n⟩;have ev:v (cV p a t.2)=v a+v t.2:=(V.set ha ht).1 rfl rfl;have e:v (ts.foldl (b0 p bs) (cV p a t.2))=_:=e;unfold b0 fl at e;rw[e,ev];grind
  ·rw[Yd f,Yd f];obtain⟨e,n⟩:=fj V hp (bs:=bs) h2 ha;refine⟨?_,n⟩;have e:v (ts.foldl (b0 p bs) a)=_:=e;unfold b0 fl at e;rw[e];grind
theorem iV {p:Int}(hp:FP p):Num p 0 1:=⟨by decide,by decide,λz=>⟨rfl,by decide,by have:=(hp.two z).2.1;omega⟩⟩
theorem uZ (V:Val p R v)(hp:FP p){bs:List Int}(h:cb p ts):v (bZ p bs ts)=S v ts (fl bs):=by
 have:=(fj V hp.nn (bs:=bs) h (a:=(0,1)) (iV hp)).1;rw[V.zero] at this;show v (ts.foldl (b0 p bs) (0,1))=_;rw[this];grind
end
theorem u5 (hp:FP p){bs:List Int}(h:cb p ts):Num p (bZ p bs ts).1 (bZ p bs ts).2:=by
 obtain⟨R,i,v,V⟩:=hp.v;exact(fj V hp.nn (bs:=bs) h (a:=(0,1)) (iV hp)).2
noncomputable def lB (ns:List Int):List Int:=ns.mergeSort λa b=>decide (a<=b)
variable {ms:List Int}
theorem Au {ns:List Int}(p:ms.Perm ns)(h:ms.Pairwise (· <= ·)):ms=lB ns:=by
 have h2:(lB ns).Pairwise (· <= ·):=by
  have z:=List.pairwise_mergeSort (le:=λa b:Int=>decide (a<=b)) (by simp;intro a b c;omega) (by simp;intro a b;omega) ns;exact z.imp λh=>Zg h
 exact List.Perm.eq_of_pairwise (le:=λa b:Int=>a<=b) (λa b _ _ h1 h2=>Int.le_antisymm h1 h2) h h2 (p.trans (zh ns _).symm)
variable {l:List Int}
theorem j7 {z:Int}:z∈lB l↔z∈l:=(zh l _).mem_iff
theorem Ay (h:l.Nodup):(lB l).Pairwise (· < ·):=by
 have le:(lB l).Pairwise (· <= ·):=by
  have z:=List.pairwise_mergeSort (le:=λa b:Int=>decide (a<=b)) (by simp;intro a b c;omega) (by simp;intro a b;omega) l;exact z.imp λh=>Zg h
 have nd:(lB l).Nodup:=(zh _ _).nodup_iff.mpr h
 exact(List.Pairwise.and le nd).imp λh=>by
  obtain⟨h1,h2⟩:=h;have:_≠_:=h2;omega
theorem fR (h:l.Pairwise (· < ·)):l.Nodup:=h.imp λh=>by
 show _≠_;omega
theorem oW {i:List Int}(h:i.Pairwise (· < ·))(n:k∉i):lB (i++[k])=fP (i++[k]):=by
 have nd:(i++[k]).Nodup:=by
  rw[CT]
  exact⟨fR h,by simp,λa ha b hb e=>n (by
   have:b=k:=by simpa using hb
   rw[<-this,<-e]
   exact ha)⟩
 exact qQ (Ay nd) λz=>j7
theorem xX {i:List Int}(h:i.Pairwise (· < ·)):fP i=i:=(qQ h λz=>Iff.rfl).symm
noncomputable def yF (k:Int)(t:Tm):Tm:=(lB (t.1++[k]),(-t.2.1,1))
noncomputable def gu:List Tm->List Int->List Tm
 |ts,[]=>ts
 |ts,k::ms=>gu (ts++ts.map (yF k)) ms
noncomputable abbrev fM (k:Int):List Tm:=[([],(1,1)),([k],(-1,1))]
noncomputable def jh:List Tm->List Int->List Tm
 |ts,[]=>ts
 |ts,k::ms=>jh (tg 0 (eY 0 ts (fM k))) ms
noncomputable def Bk (ms:List Int)(ts:List Tm):Prop:=∀t∈ts,(t.2=(1,1)\/t.2=(-1,1))/\t.1.Pairwise (· < ·)/\∀k∈ms,k∉t.1
theorem dA {w:Int×Int}(h:w=(1,1)\/w=(-1,1)):Gn 0 7 w:=by
 rcases h with rfl|rfl
 ·exact⟨⟨by decide,by decide,λz=>absurd rfl z⟩,by unfold B;decide,by unfold B;decide⟩
 ·exact⟨⟨by decide,by decide,λz=>absurd rfl z⟩,by unfold B;decide,by unfold B;decide⟩
theorem Bk.num (h:Bk ms ts):cb 0 ts:=λt ht=>(dA (h t ht).1).1
theorem Bk.next (h:Bk (k::ms) ts)(n:k∉ms):Bk ms (ts++ts.map (yF k)):=λt ht=>by
 rcases YI.mp ht with ht|ht
 ·obtain⟨h1,h2,h3⟩:=h t ht;exact⟨h1,h2,λj hj=>h3 j (Yi _ hj)⟩
 ·obtain⟨u,hu,rfl⟩:=YG.mp ht;obtain⟨h1,h2,h3⟩:=h u hu;have hk:=h3 k Yl;refine⟨?_,?_,λj hj z=>?_⟩
  ·show(-u.2.1,(1:Int))=(1,1)\/(-u.2.1,(1:Int))=(-1,1)
   rcases h1 with e|e <;> rw[e]
   ·exact .inr rfl
   ·exact .inl rfl
  ·show(lB (u.1++[k])).Pairwise (· < ·);rw[oW h2 hk];exact rF _
  ·rcases YI.mp (j7.mp z) with z|z
   ·exact h3 j (Yi _ hj) z
   ·have:j=k:=by simpa using z
    exact n (by rw[<-this];exact hj)
section
variable {R:Type} [Lean.Grind.CommRing R]{v:Int×Int->R}
theorem A2 (V:Val 0 R v){w:Int×Int}(h:w=(1,1)\/w=(-1,1)):v (-w.1,1) = -1*v w:=by
 have e:v (-1,1) = -1:=by
  have n1:=(dA (w:=(1,1)) (.inl rfl)).1;have n2:=(dA (w:=(-1,1)) (.inr rfl)).1;have z:=(V.set (t:=0) (b:=1) (a:=(1,1)) (c:=(-1,1)) n1 n2).1 rfl rfl;have z2:v (c7 0 0 1,c9 0 0 1)=v (0,1):=Ze v (by decide +kernel);rw[z2,V.zero,V.one] at z;grind
 rcases h with rfl|rfl
 ·show v (-1,1)=_;rw[e,V.one];grind
 ·show v (1,1)=_;rw[e,V.one];grind
theorem xY (V:Val 0 R v)(F:List Int->R):∀{ts:List Tm},Bk (k::ms) ts->S v (ts.map (yF k)) F = -1*S v ts (λi=>F (fP (i++[k])))
 |[],_=>by show(0:R) = -1*0;grind
 |t::ts,h=>by
  obtain⟨h1,h2,h3⟩:=h t Yl;have ih:=xY V F (ts:=ts) λe he=>h e (Yi _ he);show v (-t.2.1,1)*F (lB (t.1++[k]))+S v (ts.map (yF k)) F = -1*(v t.2*F (fP (t.1++[k]))+S v ts _);rw[ih,A2 V h1,oW h2 (h3 k Yl)];grind
theorem AN (F:List Int->R):∀{ts:List Tm},Bk ms ts->S v ts (λi=>F (fP (i++[])))=S v ts F
 |[],_=>rfl
 |t::ts,h=>by
  show v t.2*F (fP (t.1++[]))+S v ts _=v t.2*F t.1+S v ts F;rw[AN F (ts:=ts) λe he=>h e (Yi _ he),Zc,xX (h t Yl).2.1]
theorem iw (k:Int):cb 0 (fM k):=λe he=>by
 have:e=([],(1,1))\/e=([k],(-1,1)):=by simpa using he
 rcases this with rfl|rfl
 ·exact(dA (.inl rfl)).1
 ·exact(dA (.inr rfl)).1
theorem CM (V:Val 0 R v)(F:List Int->R){us:List Tm}(h:Bk (k::ms) ts)(hu:cb 0 us)(e:∀F:List Int->R,S v ts F=S v us F):S v (ts++ts.map (yF k)) F=S v (tg 0 (eY 0 us (fM k))) F:=by
 rw[BW V (by decide) (jx (by decide) hu (iw k)),Bx V hu (iw k),ik,xY V F h,<-e]
 have e1:S v ts (λi=>S v (fM k) (λj=>F (fP (i++j))))=S v ts (λi=>F (fP (i++[])) + -1*F (fP (i++[k]))):=nO (λi=>by
  show v (1,1)*F (fP (i++[]))+(v (-1,1)*F (fP (i++[k]))+0)=_;have:=A2 V (w:=(1,1)) (.inl rfl);have z:v (-1,1) = -1*v (1,1):=this;rw[z,V.one]
  grind) ts
 rw[e1,DQ,AV,AN F h]
end
theorem C1 :∀{ts us:List Tm},ms.Nodup->Bk ms ts->cb 0 us->(∀{R:Type} [Lean.Grind.CommRing R]{v:Int×Int->R},Val 0 R v->∀F:List Int->R,S v ts F=S v us F)->tg 0 (gu ts ms)=tg 0 (jh us ms):=by
 induction ms with
 |nil =>
  intro ts us _ h hu e;obtain⟨R,i,v,V⟩:=FP.v (p:=0) (.inl rfl);exact AD V (by decide) h.num hu (e V)
 |cons k ms ih =>
  intro ts us hd h hu e;obtain⟨h1,h2⟩:=YT.mp hd;exact ih h2 (h.next h1) (FP.tn (.inl rfl) (jx (by decide) hu (iw k))) λV F=>CM V F h hu (e V)
noncomputable def fL (bs ks ms:List Int):Bool:=dy bs ks&&ms.all λk=>bs.getD k.toNat 0==0
section
variable {R:Type} [Lean.Grind.CommRing R]{v:Int×Int->R}{bs:List Int}
noncomputable def Dv (bs:List Int):List Int->R
 |[]=>1
 |k::ms=>(1 + -1*fl bs [k])*Dv bs ms
theorem DS (V:Val 0 R v):∀{ms:List Int}{ts:List Tm},ms.Nodup->Bk ms ts->S v (gu ts ms) (fl bs)=S v ts (fl bs)*Dv bs ms
 |[],ts,_,_=>by show S v ts (fl bs)=S v ts (fl bs)*1;grind
 |k::ms,ts,hd,h=>by
  obtain⟨h1,h2⟩:=YT.mp hd;show S v (gu (ts++ts.map (yF k)) ms) (fl bs)=S v ts (fl bs)*((1 + -1*fl bs [k])*Dv bs ms)
  have e:S v ts (λi=>fl bs (fP (i++[k])))=S v ts (fl bs)*fl bs [k]:=by
   rw[<-Av];exact nO (λi=>CB) ts
  rw[DS V h2 (h.next h1),ik,xY V (fl bs) h,e];grind
theorem rV:∀ms:List Int,(Dv bs ms:R)=if(ms.all λk=>bs.getD k.toNat 0==0)=true then 1 else 0
 |[]=>rfl
 |k::ms=>by
  show(1 + -1*fl bs [k])*Dv bs ms=_;rw[rV ms,Z3]
  by_cases z:bs.getD k.toNat 0=0
  ·have f:(fl bs [k]:R)=0:=Yd λg=>b9.mp g k Yl z;rw[f,show(bs.getD k.toNat 0==0)=true from BS.mpr z,Zr];grind
  ·have f:(fl bs [k]:R)=1:=Yh (b9.mpr λj hj=>by
    have:j=k:=by simpa using hj
    rw[this]
    exact z)
   have n:(bs.getD k.toNat 0==0)=false:=by simpa using z
   rw[f,n,ZF];show(1 + -1*1)*_=(0:R);grind
end
theorem Aa (hp:FP p):Num p 1 1:=⟨by decide,by decide,λz=>⟨rfl,by decide,by have:=(hp.two z).2.1;omega⟩⟩
theorem wy :∀{ts:List Tm},ms.Nodup->Bk ms ts->cb 0 (gu ts ms):=by
 induction ms with
 |nil=>exact λ_ h=>h.num
 |cons k ms ih =>
  intro ts hd h;obtain⟨h1,h2⟩:=YT.mp hd;exact ih h2 (h.next h1)
theorem xn {bs:List Int}(hd:ms.Nodup)(h:Bk ms [(ks,(1,1))]):bZ 0 bs (tg 0 (gu [(ks,(1,1))] ms))=if fL bs ks ms=true then(1,1) else(0,1):=by
 have hp:FP 0:=.inl rfl;obtain⟨R,i,v,V⟩:=hp.v;have hn:=wy hd h;have n0:Num 0 (0,1).1 (0,1).2:=iV hp;have n1:Num 0 (1,1).1 (1,1).2:=Aa hp
 have e:v (bZ 0 bs (tg 0 (gu [(ks,(1,1))] ms)))=if fL bs ks ms=true then 1 else 0:=by
  rw[uZ V hp (hp.tn hn),BW V hp.nn hn,DS V hd h,rV];show(v (1,1)*fl bs ks+0)*_=_;rw[V.one];unfold fl fL
  cases dy bs ks <;> cases(ms.all λk=>bs.getD k.toNat 0==0) <;> simp <;> grind
 have nw:=u5 hp (bs:=bs) (hp.tn hn)
 by_cases g:fL bs ks ms=true
 ·rw[Yh g] at e |-;exact V.inj nw n1 (e.trans V.one.symm)
 ·rw[Yd g] at e |-;exact V.inj nw n0 (e.trans V.zero.symm)
end K44
namespace L2
open PySem PySem.Spec PyProof.Rows PySem.W
section
variable {X:Cx}
theorem og {H:Hp}{p:Addr}{o:HO}(h:H p=none):aC H (upd H p o):=λb u e=>by rw[aA (aB e h)];exact e
noncomputable def xf:R2:=λx y H Q=>∃a b xs ys,x=.ref a/\y=.ref b/\H a=some (.tup xs)/\H b=some (.tup ys)/\xs.length+ys.length<=sizeLine/\∀p H',aC H H'->H' p=some (.tup (xs++ys))->Q (.ref p) H'
theorem iq:eA X (binaryOp .Add) xf:=by
 intro pins s σ H x y v u Q I rx ry h;obtain⟨a,b,xs,ys,rfl,rfl,ha,hb,hz,q⟩:=h
 by_cases hx:xs=[]
 ·subst hx
  cases rx
  cases ry
  obtain⟨its,r1,p1,_⟩:=I.tuple (aV.of ha);obtain⟨Fx,r2,p2,_⟩:=I.tuple (aV.of hb)
  cases r1
  obtain⟨⟨cls,dd,data,sl⟩,ho,hc,n,hd⟩:=id p1;obtain⟨⟨IQ,HJ,data2,GU⟩,GF,Gq,n2,hd2⟩:=id p2;simp only at hc hd Gq hd2;subst hc hd Gq hd2
  exact Cg ⟨_,ho,rfl⟩ ⟨_,GF,rfl⟩ qi ll vm Fq (Fo _ _)
   (tuple_addW0 a b _ Fx.toArray n n2 dd HJ sl GU (by simp)) ⟨ho,GF,.ref b,H,I,rfl,q b H (aC.refl _) hb⟩
 ·exact sY pins s σ H _ _ v u Q I rx ry ⟨a,b,xs,ys,rfl,rfl,aV.of ha,aV.of hb,hx,hz,λe=>q a H (aC.refl _) (by rw[e,Zc];exact ha),λ_ p hp=>q p _ (og hp) ai⟩
noncomputable def ve:R2:=λx y H Q=>∃a b xs ys,x=.ref a/\y=.ref b/\H a=some (.lst xs)/\H b=some (.lst ys)/\xs.length+ys.length<=sizeLine/\∀p H',H p=none->aC H H'->H' p=some (.lst (xs++ys))->Q (.ref p) H'
theorem nR:eA X (binaryOp .Add) ve:=by
 intro pins s σ H x y v u Q I rx ry h;obtain⟨a,b,xs,ys,rfl,rfl,ha,hb,hz,q⟩:=h;exact aaF pins s σ H _ _ v u Q I rx ry ⟨a,b,xs,ys,rfl,rfl,ha,hb,hz,λp hp=>q p _ hp (og hp) ai⟩
end
end L2
namespace St
open PySem PySem.Spec PyProof.Rows PySem.W
section
variable {prog:wu}{w:World}{A:Around}{E:ph}{s:Ci}
theorem x3 {a:Addr}{us:m8}{ns:List Int}{Q:ph}(ht:s.heap.IsTuple a us.toArray)(i1:IntsAre us ns)(h64:us.length<64)
 (h:∀(h':Heap)(D:Addr)(out:BC)(ms:List Int)(c:Nat),IntsAre out.toList ms->ms.Perm ns->ms.Pairwise (· <= ·)->h'.get? D=some (gM out c)->s.heap.get? D=none →
  (∀b o,s.heap.get? b=some o->h'.get? b=some o)->Q (.ref D) {s with heap:=h'}):wpAny (model prog w) A (call (.builtin "sorted") [.ref a]) Q E s:=by
 refine yW kind_sorted plain_sorted entry_sorted (args_sorted1 _) ?_;unfold Builtin.«sorted»;refine X9 (m:=checkCount "sorted" 1 1 _) (Yb ?_);obtain⟨o,ho,hc,n,hd⟩:=ht;refine X9 (wpAny_collect_seq a (.inr rfl) ho hc hd (λh1 k1=>?_) (by rw[ZX];simp;omega));rw[List.toList_toArray];refine X9 (m:=newList us) (vK ?_ (hsz:=by rw[ZX];omega));have oD:(h1.push (seqObj "list" us.toArray 0)).get? h1.objs.size=some (seqObj "list" us.toArray 0):=Yk _ rfl
 have fr:s.heap.get? h1.objs.size=none:=by
  cases e:s.heap.get? h1.objs.size with
  |none=>rfl
  |some o=>exact absurd (Ym (k1 _ _ e)) (Zh _)
 refine X9 (YY (YJ slot_list_sort ⟨_,oD,rfl⟩ entry_list_sort (list_sort_tree oD i1 h64 λout HK a1 a2 a3=>⟨_,rfl,?_⟩) (args_list_sort _)));obtain⟨c,oc⟩:=lF out oD;refine Yb ⟨_,rfl,h _ _ out HK c a1 a2 a3 oc fr (λb o e=>?_)⟩;exact kJ (λq=>by rw[q,fr] at e;cases e) (Yc _ (k1 b o e))
end
end St
namespace L2
open PySem PySem.Spec PyProof.Rows PySem.W
section
variable {X:Cx}
noncomputable def CC (K:Frag):List V->Hp->VK->Prop:=λxs H Q=>∃(l:Addr)(ns:List Int),xs=[.ref l]/\aV K H l (ns.map V.int)/\ns.length<64/\∀(D:Addr)(ms:List Int),H D=none->ms.Perm ns->ms.Pairwise (· <= ·)->Q (.ref D) (upd H D (.lst (ms.map V.int)))
theorem y8 {K:Frag}(hK:X.K=K):cT X (.builtin "sorted") (CC K):=by
 subst hK;intro pins s σ H xs us Q I r h;obtain⟨l,ns,rfl,hl,h64,q⟩:=h;obtain⟨u,rfl,ru⟩:=dj r
 cases(show u=Value.ref l from ru)
 obtain⟨its,rv,pl,hz⟩:=I.tuple hl;have e1:=rv.length;rw[Yg] at e1;refine St.x3 (us:=its) (show s.heap.IsTuple l its.toArray from pl) (fT rv) (by omega) λh' D out ms c a1 a2 a3 hD fr k=>?_
 have hlen:(ms.map V.int).length<=sizeLine:=by
  rw[Yg,a2.length_eq];exact Yq (Zi h64) (by decide)
 exact⟨.ref _,_,I.newObj (t':=s.toks) (o:=.lst (ms.map V.int)) k fr ⟨hlen,out.toList,c,rJ a1,by simpa using hD⟩,rfl,q _ ms (I.adA fr) a2 a3⟩
end
theorem rq {K:PySem.W.Frag}{a:Addr}{xs:List V}{tt:TT}{te:TE}{rest:St}{H:Hp}{F:List V->Hp->Prop}(Pv:Nat->List V->Hp->Prop)(h0:Pv 0 [] H)
 (hz:∀i ys H',i<=xs.length->Pv i ys H'->ys.length<sizeLine/\bo K H' a xs)
 (hs:∀i x ys H',i<xs.length->xs[i]?=some x->Pv i ys H' →
  ∃b u c v w,x=.ref b/\aV K H' b [u,.ref c]/\aV K H' c [v,w]/\∀(N:List V->Hp->Prop),(∀zs H5,Pv (i+1) zs H5->N zs H5)->tt (some u::some v::some w::rest) H' λb H4=>if b=true then te (some u::some v::some w::rest) H4 λy H5=>N (ys++[y]) H5 else N ys H4)
 (hd:∀ys H',Pv xs.length ys H'->F ys H'):
 ∃W:Nat->Nat->List V->St->Hp->Prop,(∃m,W 0 m [] (none::none::none::rest) H)/\ky (ze K a) (kZ K 2 (cS (bw 0) (cS (kZ K 2 (cS (bw 1) (cS (bw 2) rM))) rM))) tt te W F:=by
 refine⟨λi m ys σ H'=>m=xs.length-i/\i<=xs.length/\Pv i ys H'/\∃o o2 o3,σ=o::o2::o3::rest,⟨xs.length,by simp,Yt _,h0,none,none,none,rfl⟩,?_⟩;rintro i m ys σ H' ⟨rfl,hi,p,o,o2,o3,rfl⟩;obtain⟨z1,z2⟩:=hz i ys H' hi p;refine⟨z1,?_⟩
 by_cases Fy:i<xs.length
 ·refine .inr ⟨⟨xs,xs[i],z2,by simp[Fy]⟩,λx H2 hy=>?_⟩;obtain⟨rfl,hx⟩:=hy;obtain⟨b,u,c,v,w,rfl,hb,hc,h⟩:=hs i x ys H2 Fy (hx xs z2) p;exact⟨_,[u,.ref c],rfl,hb,rfl,_,_,rfl,_,_,rfl,c,[v,w],rfl,hc,rfl,_,_,rfl,_,_,rfl,rfl,rfl,h (λzs H5=>∃m',m'<xs.length-i/\m'=xs.length-(i+1)/\i+1<=xs.length/\Pv (i+1) zs H5/\∃o o2 o3,(some u::some v::some w::rest:St)=o::o2::o3::rest) λzs H5 h=>⟨xs.length-(i+1),by omega,rfl,Fy,h,_,_,_,rfl⟩⟩
 ·have:i=xs.length:=by omega
  subst this;exact .inl ⟨⟨xs,z2,Ye _⟩,hd ys H' p⟩
end L2
namespace K44
open PySem L2 PySem.W Nm Srt
noncomputable abbrev EF:Stmt:=(ba 38)
structure Br (ks ms:List Int):Prop where
 ku:ks.Pairwise (· < ·)
 mu:ms.Pairwise (· < ·)
 kp:∀k∈ks,0<=k/\k<7
 mp:∀k∈ms,0<=k/\k<7
 ap:∀k∈ms,k∉ks
 kl:ks.length<=5
 ml:ms.length<=5
variable {ms:List Int}
theorem Br.bk {ks:List Int}(h:Br ks ms):Bk ms [(ks,(1,1))]:=λt ht=>by
 have:t=(ks,(1,1)):=by simpa using ht
 rw[this];exact⟨.inl rfl,h.ku,h.ap⟩
theorem ma {α:Type}{l:List α}{i:Nat}{x:α}(h:l[i]?=some x):i<l.length:=(YO.mp h).1
theorem ni:∀{ks:List Int},ks.Pairwise (· < ·)->d0 (ks.map V.int)=true
 |[],_=>rfl
 |[k],_=>rfl
 |a::b::ks,h=>by
  obtain⟨h1,h2⟩:=YQ.mp h;have ih:=ni h2;unfold d0 at ih |-;have e:((a::b::ks).map V.int).zip (((a::b::ks).map V.int).drop 1)=(V.int a,V.int b):: (((b::ks).map V.int).zip (((b::ks).map V.int).drop 1)):=rfl;rw[e,Z3,ih,Bool.and_true];exact YD (h1 b Yl)
theorem Bq {ks:List Int}(h:ks.Pairwise (· < ·))(hb:∀k∈ks,0<=k/\k<60)(hl:ks.length<4000):C7 ks:=by
 refine⟨?_,hl⟩;show((ks.map V.int).all pX&&d0 (ks.map V.int))=true;rw[ni h,Bool.and_true,Z9,ZQ];intro k hk;obtain⟨h0,h1⟩:=hb k hk;show(decide (0<=k)&&decide (k<60))=true;rw[YD h0,YD h1];rfl
theorem kA:∀{l:List Int}{lo:Int},lo<=7->l.Pairwise (· < ·)->(∀x∈l,lo<=x/\x<7)->(l.length:Int)<=7-lo
 |[],lo,h,_,_=>by show(0:Int)<=7-lo;omega
 |x::l,lo,h,hu,hx=>by
  obtain⟨h1,h2⟩:=YQ.mp hu;have b:=hx x Yl
  have:=kA (l:=l) (lo:=x+1) (by omega) h2 λy hy=>by have:=h1 y hy;have:=hx y (Yi _ hy);omega
  rw[YC];omega
noncomputable def Pl (ts:List Tm):Prop:=∀t∈ts,∀j∈t.1,0<=j/\j<7
theorem Pl.br :∀{ts:List Tm},(∀k∈ms,0<=k/\k<7)->Pl ts->Pl (gu ts ms):=by
 induction ms with
 |nil=>exact λ_ h=>h
 |cons k ms ih =>
  intro ts hm h;refine ih (λj hj=>hm j (Yi _ hj)) λt ht j hj=>?_
  rcases YI.mp ht with ht|ht
  ·exact h t ht j hj
  ·obtain⟨u,hu,rfl⟩:=YG.mp ht
   rcases YI.mp (j7.mp hj) with z|z
   ·exact h u hu j z
   ·have:j=k:=by simpa using z
    rw[this];exact hm k Yl
theorem n5 {α β:Type}{R:α->β->Prop}:∀{l:List α}{m:List β}{l':List α}{m':List β},Paired R l m->Paired R l' m'->Paired R (l++l') (m++m')
 |_,_,_,_,.nil,h=>h
 |_,_,_,_,.cons a t,h=>.cons a (n5 t h)
theorem oK:∀(ms:List Int)(ts:List Tm)(k:Int),gu ts (ms++[k])=gu ts ms++(gu ts ms).map (yF k)
 |[],_,_=>rfl
 |m::ms,ts,k=>oK ms _ k
theorem jt:∀(ms:List Int)(ts:List Tm),(gu ts ms).length=ts.length*2^ms.length
 |[],ts=>by show ts.length=ts.length*1;omega
 |k::ms,ts=>by
  show(gu (ts++ts.map (yF k)) ms).length=_;rw[jt ms,Yw,Yg,YC,Nat.pow_succ];grind
theorem Bk.take :∀{ts:List Tm}(i:Nat),ms.Nodup->Bk ms ts->Bk (ms.drop i) (gu ts (ms.take i)):=by
 induction ms with
 |nil=>intro ts i _ h;rw[List.take_nil,List.drop_nil];exact h
 |cons k ms ih =>
  intro ts i hd h;obtain⟨h1,h2⟩:=YT.mp hd
  cases i with
  |zero=>exact h
  |succ i=>exact ih i h2 (h.next h1)
variable {p:Int}
theorem FP.good (h:FP p):good (.int p)=true:=by
 show jd p=true;unfold jd
 rcases h with h|h
 ·rw[h];rfl
 ·have:(cM.any λq=>q==p)=true:=by
   rw[ZC];exact⟨p,h,by simp⟩
  rw[this];simp
variable {CF:Addr}{H:Hp}
theorem qY {Oy fl FK:Addr}{Q:Hp->Prop}{E:XK}(hf:H fl=none)(hd:H FK=none)(ne:FK≠fl)(hp:FP p)(q:∀H',aC H H'->H' fl=some (.ins CF FK (gE p))->Q H'):
 qr CF Oy [.ref fl,.int p] (upd (upd H FK (.own fl)) fl (.ins CF FK [])) (λv H2=>v=.non/\Q H2) E:=by
 refine⟨fl,FK,.int p,"int",rfl,.int p,ai,λ_=>⟨rfl,?_⟩,λg=>by rw[hp.good] at g;cases g⟩;rw[tU];exact q _ ((aq hd).trans (aq (by rw[aA (YM ne)];exact hf))) ai
theorem vn {H':Hp}{s dx:Addr}{o u:HO}(h1:H s=none)(h2:H dx=none)(ne:dx≠s)(k:SameBut s (upd (upd H dx o) s u) H'):aC H H':=λb v e=>by
 have b1:b≠s:=aB e h1;have b2:b≠dx:=aB e h2;exact k b v (by rw[aA b1,aA b2];exact e) b1
theorem wU {C fl FK s dx l:Addr}{ys:List V}{ts:List Tm}{Q:Hp->Prop}{E:XK}(hs:H s=none)(Ni:H dx=none)(ne:dx≠s)(hf:H fl=some (.ins CF FK (gE p)))(hp:FP p)(hl:H l=some (.lst ys))(ht:bp H ys ts)(G:zE p ts)(hP:∀t∈ts,C7 t.1)
 (q:∀H',aC H H'->Fj C CF H' s p (tg p ts)->Q H'):
 mD C CF [.ref s,.ref fl,.ref l] (upd (upd H dx (.own s)) s (.ins C dx [])) (λv H2=>v=.non/\Q H2) E:=by
 have hS:aC H (upd (upd H dx (.own s)) s (.ins C dx [])):=(aq Ni).trans (aq (by rw[aA (YM ne)];exact hs));refine⟨s,dx,fl,FK,p,_,ts,rfl,ai,hS _ _ hf,hp,.inr ⟨l,ys,rfl,hS _ _ hl,bp.keep ht (aI.of hS)⟩,G,hP,λH' D zs k _ h1 h2 h3=>?_⟩;have sm:=vn hs Ni ne k;exact⟨rfl,q H' sm ⟨dx,fl,FK,D,zs,h1,sm _ _ hf,h2,h3⟩⟩
noncomputable def Dj (C CF:Addr):Sp:=λvs H Q _=>∃(br ah al:Addr)(ks ms:List Int),vs=[.ref br]/\H br=some (.tup [.ref ah,.ref al])/\H ah=some (.tup (ks.map V.int))/\H al=some (.tup (ms.map V.int))/\Br ks ms/\∀H' s,aC H H'->Fj C CF H' s 0 (tg 0 (gu [(ks,(1,1))] ms))->Q (.ref s) H'
theorem uT:CN ["bracket","held","lacked","terms","place"] ["bracket"] (ar EF):=fe (by decide +kernel)
variable {P:wu}{w:World}{K:PySem.W.Frag}{mg:vx}{base:Heap}
set_option maxHeartbeats 1000000 in
theorem DY {f C Oy fI Rr:Addr}{fd Rt KL:BB}{t0:Tok}(F:vP K "bracket_sum" "bracket_sum" EF f fd)(c:zc K mg C)(cF:Bg K mg CF)(Fu:mg "tuple"=none)(Fw:mg "sorted"=none)
 (M:Mk K C fI)(FI:yd P w K mg base (cD P w) 6 fI Rt Ah (mD C CF))(bI:L2.ck K Rt Ah [])
 (MF:Mk K CF Rr)(FFI:yd P w K mg base (cD P w) 2 Rr KL CR (qr CF Oy))(KN:L2.ck K KL CR [.int 0 t0]):yd P w K mg base (cD P w) 8 f fd ["bracket"] (Dj C CF):=by
 refine F.okN uT (λvs H Q E h=>?_) (λFv A outer s H vs Q E hr h=>?_)
 ·obtain⟨br,ah,al,ks,ms,rfl,_⟩:=h;rfl
 ·obtain⟨br,ah,al,ks,ms,rfl,UL,GS,GH,hb,q⟩:=h;have Ru:xh 7 _:=hr;have GZ:xh 3 _:=Ru.mono (by decide)
  refine⟨_,(au (jZ (pv 0) (cY rfl (aO (aD (i:=1) uT.nd rfl (Or.inl rfl)) (aO (aD (i:=2) uT.nd rfl (Or.inl rfl)) cu))))
   (au (@aX _ _ 3 _ _ _ _ uT.nd rfl (Or.inl rfl) (cE (aj (aJ (aj (pv 1) (aj (aJ (aj ak (aj ak ag rfl) rfl)) ag rfl) rfl)) ag rfl)) rfl (Or.inl rfl))
   (au (dW Y4 rfl (dB (pv 2)) (aD (i:=4) uT.nd rfl (Or.inr rfl))
   (ax (@aX _ _ 3 _ _ _ _ uT.nd rfl (Or.inl rfl) (aK nR (pv 3) (bY (g:=(kZ K 2 (cS (bw 0) (cS (kZ K 2 (cS (bw 1) (cS (bw 2) rM))) rM)))) (N:=["product","top","bottom","place"]) (nl:=3) (js:=[4]) (osc:=ar EF) ⟨rfl,rfl,by decide +kernel,by decide +kernel,by decide +kernel,rfl,(.cons ⟨rfl,by decide +kernel⟩ .nil),by decide +kernel⟩ rfl
    (dM (pv 3))
    (λCq fq sq Hq=>(cY (X:=fK _ ["product","top","bottom","place"] _ Cq fq sq Hq) rfl (aO (aD (X:=fK _ ["product","top","bottom","place"] _ Cq fq sq Hq) (i:=0) (by show(["product","top","bottom","place"]:EG).Nodup;decide +kernel) rfl (Or.inl rfl) (Or.inr rfl)) (aO ((cY (X:=fK _ ["product","top","bottom","place"] _ Cq fq sq Hq) rfl (aO (aD (X:=fK _ ["product","top","bottom","place"] _ Cq fq sq Hq) (i:=1) (by show(["product","top","bottom","place"]:EG).Nodup;decide +kernel) rfl (Or.inl rfl) (Or.inr rfl)) (aO (aD (X:=fK _ ["product","top","bottom","place"] _ Cq fq sq Hq) (i:=2) (by show(["product","top","bottom","place"]:EG).Nodup;decide +kernel) rfl (Or.inl rfl) (Or.inr rfl)) cu)))) cu))))
    (λCq fq sq Hq=>c6)
    (λCq fq sq Hq=>(aJ (aj (bt (fE rfl) (by rfl) Fu (by rfl) (aj (aE (y8 rfl) (by rfl) Fw (by rfl) (aj (aK iq (pv 0) (aJ (aj (pv 3) ag rfl))) ag rfl)) ag rfl)) (aj (aJ (aj (pq j9 (pv 1)) (aj ak ag rfl) rfl)) ag rfl) rfl))))) rfl (Or.inl rfl))))
   (ax (aF (aea M FI Ru (by rfl) c.mgC bI .nil ao (aj (aak MF FFI GZ (by rfl) cF.mgC KN (.cons (show aG (.int 0) (.int 0 t0) from⟨_,rfl⟩) .nil) ao) (aj (pv 3) ag rfl) rfl))))))),?_⟩
  have nd:=fR hb.mu;refine⟨_,rfl,br,_,rfl,aV.of UL,rfl,_,_,rfl,_,_,rfl,rfl,?_⟩;refine⟨_,rfl,hJ,λa1 Gu=>?_⟩;have s1:=aq (o:=.tup [.int 1,.int 1]) Gu;have e1:upd H a1 (.tup [.int 1,.int 1]) a1=some (.tup [.int 1,.int 1]):=ai;generalize upd H a1 _=H1 at s1 e1 |-;refine⟨hJ,λa2 Hs=>?_⟩;have s2:=aq (o:=.tup [.ref ah,.ref a1]) Hs;have e2:upd H1 a2 (.tup [.ref ah,.ref a1]) a2=some (.tup [.ref ah,.ref a1]):=ai;generalize upd H1 a2 _=H2 at s2 e2 |-;refine⟨A3,λL hL=>?_⟩;have s3:=aq (o:=.lst [.ref a2]) hL;have e3:upd H2 L (.lst [.ref a2]) L=some (.lst [.ref a2]):=ai;generalize upd H2 L _=H3 at s3 e3 |-;have S3:=s1.trans (s2.trans s3);have t3:bp H3 [.ref a2] [(ks,(1,1))]:=.cons ⟨a2,ah,a1,rfl,s3 _ _ e2,S3 _ _ GS,(s2.trans s3) _ _ e1⟩ .nil;refine⟨_,rfl,al,rfl,⟨_,aV.of (S3 _ _ GH)⟩,?_⟩;refine ur (K:=K) (a:=al) (xs:=ms.map V.int) (λi σ H'=>aC H H'/\∃L ys o4,H' L=some (.lst ys)/\bp H' ys (gu [(ks,(1,1))] (ms.take i))/\σ=[some (.ref br),some (.ref ah),some (.ref al),some (.ref L),o4]) ⟨S3,L,_,_,e3,t3,rfl⟩ (λj σ H' _ h=>aV.of (h.1 _ _ GH)) ?_ ?_
  ·rintro i y σ H4 hy ⟨s4,L4,ys,o4,G6,Gv,rfl⟩;rw[YU] at hy;obtain⟨k,ek,rfl⟩:=YH.mp hy;have hi:i<ms.length:=ma ek;have Oz:=Bk.take i nd hb.bk
   have ed:ms.drop i=k::ms.drop (i+1):=by rw[y9 hi];congr 1;rw[YZ hi] at ek;exact Option.some.inj ek
   rw[ed] at Oz
   have ln:(gu [(ks,(1,1))] (ms.take i)).length<=16:=by
    rw[jt,Y8,vq (Zi hi)];have:=hb.ml
    have h5:i<=4:=by omega
    exact Yq (Ct _ (ZG (by decide) h5)) (show 1*2^4<=16 by decide)
   have F5:ms.take (i+1)=ms.take i++[k]:=by rw[YE,ek];rfl
   rw[F5,oK]
   have pl:Pl (gu [(ks,(1,1))] (ms.take i)):=Pl.br (λk hk=>hb.mp k (Zq hk)) λt ht j hj=>by
    have:t=(ks,(1,1)):=by simpa using ht
    rw[this] at hj;exact hb.kp j hj
   generalize gu [(ks,(1,1))] (ms.take i)=ts at Gv Oz ln pl |-;have yl:=Gv.length;dsimp only[bw,lr,kn];refine⟨_,rfl,_,rfl,L4,rfl,⟨_,bo.of G6⟩,?_⟩;refine rq (K:=K) (xs:=ys) (λj us H'=>aC H4 H'/\bp H' us ((ts.take j).map (yF k))) ⟨aC.refl _,.nil⟩ (λj us H' hj h=>?_) (λj x us H' hj hx h=>?_) (λus H' h=>?_)
   ·refine⟨?_,bo.of (h.1 _ _ G6)⟩;rw[h.2.length,Yg,Y8];exact Yo (ZP _ _) (Yo ln (by decide))
   ·obtain⟨s5,h5⟩:=h;obtain⟨t,et,at_,pr,nu,rfl,Ja,Gd,Gw⟩:=bK Gv hx;have tm:=YA et;obtain⟨b1,b2,b3⟩:=Oz t tm;have tl:=kA (l:=t.1) (lo:=0) (by decide) b2 (pl t tm);refine⟨at_,.ref pr,nu,.int t.2.1,.int t.2.2,rfl,aV.of (s5 _ _ Ja),aV.of (s5 _ _ Gw),λN kk=>xG ?_⟩;refine⟨_,rfl,_,rfl,A3,λq1 UM=>?_⟩;have v1:=aq (o:=.tup [.int k]) UM;have f1:upd H' q1 (.tup [.int k]) q1=some (.tup [.int k]):=ai;generalize upd H' q1 _=Ha at v1 f1 |-;refine⟨pr,q1,_,_,rfl,rfl,v1 _ _ (s5 _ _ Gd),f1,?_,λq2 Hb v2 f2=>?_⟩
    ·rw[Yg];exact Yq (show t.1.length+1<=8 by omega) (by decide)
    have f2:Hb q2=some (.tup ((t.1++[k]).map V.int)):=by rw[f2,Y2];rfl
    refine⟨q2,t.1++[k],rfl,aV.of f2,by rw[Yw];show t.1.length+1<64;omega,λq3 GP UN perm UO=>?_⟩;have es:=Au perm UO;have v3:=aq (o:=.lst (GP.map V.int)) UN;have f3:upd Hb q3 (.lst (GP.map V.int)) q3=some (.lst (GP.map V.int)):=ai;generalize upd Hb q3 _=Hc at v3 f3 |-;refine⟨q3,_,rfl,.inl ⟨bo.of f3,λq4 UP=>?_⟩⟩;have v4:=aq (o:=.tup (GP.map V.int)) UP;have f4:upd Hc q4 (.tup (GP.map V.int)) q4=some (.tup (GP.map V.int)):=ai;generalize upd Hc q4 _=Hd at v4 f4 |-;refine⟨_,rfl,_,rfl,hJ,λq5 UQ=>?_⟩;have v5:=aq (o:=.tup [.int (-t.2.1),.int 1]) UQ;have f5:upd Hd q5 (.tup [.int (-t.2.1),.int 1]) q5=some (.tup [.int (-t.2.1),.int 1]):=ai;generalize upd Hd q5 _=He at v5 f5 |-;refine⟨hJ,λq6 UR=>?_⟩;have v6:=aq (o:=.tup [.ref q4,.ref q5]) UR;have f6:upd He q6 (.tup [.ref q4,.ref q5]) q6=some (.tup [.ref q4,.ref q5]):=ai;generalize upd He q6 _=Hf at v6 f6 |-;have v:=v1.trans (v2.trans (v3.trans (v4.trans (v5.trans v6))));refine kk _ _ ⟨s5.trans v,?_⟩;rw[YE,et,Y2];refine vw (bp.keep h5 (aI.of v)) ⟨q6,q4,q5,rfl,f6,?_,v6 _ _ f5⟩;rw[show(yF k t).1=GP from es.symm];exact(v5.trans v6) _ _ f4
   ·obtain⟨s5,h5⟩:=h;rw[yl,Yv] at h5;intro L6 JO;have v1:=s5.trans (aq (o:=.lst us) JO);have f1:upd H' L6 (.lst us) L6=some (.lst us):=ai;have h6:=bp.keep h5 (aI.of (aq (o:=.lst us) JO));generalize upd H' L6 _=Ha at v1 f1 h6 |-;refine⟨L4,L6,_,_,rfl,rfl,v1 _ _ G6,f1,?_,λL7 Hb _ v2 f2=>?_⟩
    ·rw[yl,h6.length,Yg];exact Yq (Nat.add_le_add ln ln) (by decide)
    ·exact⟨s4.trans (v1.trans v2),L7,_,_,f2,n5 (bp.keep Gv (aI.of (v1.trans v2))) (bp.keep h6 (aI.of v2)),rfl⟩
  ·rintro σ H4 ⟨s4,L4,ys,o4,G6,Gv,rfl⟩;rw[Yg,Yv] at Gv;have bk:=Bk.take ms.length nd hb.bk;rw[Yv] at bk
   have pl:Pl (gu [(ks,(1,1))] ms):=Pl.br hb.mp λt ht j hj=>by
    have:t=(ks,(1,1)):=by simpa using ht
    rw[this] at hj;exact hb.kp j hj
   have ln:(gu [(ks,(1,1))] ms).length<=32:=by
    rw[jt];exact Yq (Ct _ (ZG (by decide) hb.ml)) (show 1*2^5<=32 by decide)
   generalize gu [(ks,(1,1))] ms=ts at Gv bk pl ln q;intro fl FK US OA F2;refine qY US OA F2 (.inl rfl) λH5 s5 UT=>?_;refine⟨_,rfl,λx dx hx Ni ne=>?_⟩;refine wU hx Ni ne UT (.inl rfl) (s5 _ _ G6) (bp.keep Gv (aI.of s5)) (zE.of (.inl rfl) (by omega) (λt ht=>dA (bk t ht).1) (by omega) (by decide)) (λt ht=>?_) λH6 s6 S6=>q H6 x (s4.trans (s5.trans s6)) S6;have tl:=kA (l:=t.1) (lo:=0) (by decide) (bk t ht).2.1 (pl t ht);exact Bq (bk t ht).2.1 (λj hj=>by have:=pl t ht j hj;omega) (by omega)
end K44
namespace L2
open PySem PySem.Spec PyProof.Rows PySem.W
section
variable {X:Cx}
theorem xH (hc:X.calm=true):cT X (.builtin "any") (λxs H Q=>∃l ys bs,xs=[.ref l]/\bo X.K H l ys/\Paired C6 ys bs/\Q (.bl (bs.any id)) H):=by
 intro pins s σ H xs us Q I r h;obtain⟨l,ys,bs,rfl,hl,hp,q⟩:=h;obtain⟨u,rfl,ru⟩:=dj r
 cases(show u=Value.ref l from ru)
 obtain⟨its,rv,pl,hz⟩:=I.list hl
 have Fy:l<s.heap.objs.size:=by obtain⟨o,n,e,_⟩:=pl;exact Ym e
 refine call_any_walk (yr pl.isList ?_)
 refine⟨s.heap.objs.size,[s.heap.objs.size,l],[s.heap.objs.size],its.toArray.size,_,_,λi=>(bs[i]?).getD false,rfl,Walks.list (A:=X.A.in1) (I.ok.hd hc) _ l (Yr Fy) its.toArray,
  ⟨⟨_,Yk _ rfl,rfl,rfl⟩,pl.isList.push _⟩,λi v s' Q' E' hP hQ=>?_,λh' tk hk=>?_⟩
 ·have e:its[i]?=some v:=by simpa using hP
  obtain⟨y,ey,ry⟩:=gW rv e;obtain⟨b,eb,tb⟩:=bK hp ey;simp only[eb,Option.getD_some] at hQ;exact wV tb ry hQ
 ·have n:its.toArray.size=bs.length:=by rw[Yj,<-rv.length,hp.length]
  have e:((List.range its.toArray.size).any λi=>(bs[i]?).getD false)=bs.any id:=by rw[n];exact LSm.range_any bs
  rw[e];exact⟨.bl (bs.any id),H,I.kept (t':=tk) (LSm.kept_iter hk),rfl,q⟩
end
end L2
namespace K44
open PySem L2 PySem.W Nm Srt
noncomputable abbrev xx:Stmt:=(ba 37)
inductive BX (H:Hp):V->Option (Option (List V)×Option (List V))->Prop where
 |no {x:V}{T:String}:Th H x T->T ≠ "tuple"->BX H x none
 |odd {a:Addr}{xs:List V}:H a=some (.tup xs)->xs.length≠2->BX H (.ref a) none
 |two {a:Addr}{y z:V}{oy oz:Option (List V)}:H a=some (.tup [y,z])->PX H y oy->PX H z oz->BX H (.ref a) (some (oy,oz))
theorem BX.same {H H':Hp}{x:V}{o:Option (Option (List V)×Option (List V))}(h:BX H x o)(s:aC H H'):BX H' x o:=by
 cases h with
 |no t n=>exact .no (t.same s) n
 |odd e l=>exact .odd (s _ _ e) l
 |two e y z=>exact .two (s _ _ e) (y.same s) (z.same s)
noncomputable def ET:Option (Option (List V)×Option (List V))->Bool
 |none=>false
 |some (oy,oz)=>cI oy&&(cI oz&&!((oz.getD []).any λy=>fQ y (oy.getD [])))
theorem da (ns:List Int):(ns.map V.int).all hV=true:=by
 rw[Z9,ZQ];exact λ_ _=>rfl
variable {xs:List V}
theorem nV (h:xs.all pX=true):∃ns:List Int,xs=ns.map V.int:=by
 induction xs with
 |nil=>exact⟨[],rfl⟩
 |cons x xs ih =>
  rw[Z3,Yy] at h;obtain⟨ns,rfl⟩:=ih h.2
  have:∃n,x=V.int n:=by
   have:=h.1
   cases x <;> first|exact⟨_,rfl⟩|cases this
  obtain⟨n,rfl⟩:=this;exact⟨n::ns,rfl⟩
theorem gB {o:Option (List V)}(h:cI o=true):∃ns:List Int,o=some (ns.map V.int):=by
 cases o with
 |none=>cases h
 |some xs =>
  have h:(xs.all pX&&d0 xs)=true:=h;obtain⟨ns,rfl⟩:=nV (YK.mp h).1;exact⟨ns,rfl⟩
noncomputable def zK:Sp:=λvs H Q _=>∃x o,vs=[x]/\BX H x o/\∀H',aC H H'->Q (.bl (ET o)) H'
theorem CP:CN p4 p4 (ar xx):=fe (by decide +kernel)
variable {P:wu}{w:World}{K:PySem.W.Frag}{mg:vx}{base:Heap}
variable {f:Addr}{fd:BB}
set_option maxHeartbeats 1000000 in
theorem yI (F:vP K "is_bracket" "is_bracket" xx f fd)(Fs:mg "isinstance"=none)(Fu:mg "tuple"=none)(Fz:mg "len"=none)(Hv:mg "any"=none)
 (q0:Ca P w K mg base 3 p4 "is_product" uU):yd P w K mg base (cD P w) 4 f fd p4 zK:=by
 obtain⟨fp,Kr,FP,bP,mP,kP⟩:=q0;refine F.okN CP (λvs H Q E h=>?_) (λFv A outer s H vs Q E hr h=>?_)
 ·obtain⟨x,o,rfl,_⟩:=h;rfl
 ·obtain⟨x,o,rfl,bx,q⟩:=h;have GZ:xh 3 _:=hr
  refine⟨_,(au (bF (PW.pt (dE (bN (bO (aE aZ (by rfl) Fs (by rfl) (aj (pv 0) (aj (cC (by rfl) Fu (by rfl) (show aG (.ty "tuple") (.type "tuple") from rfl)) ag rfl) rfl)))) (dE (aN fW (aE bJ (by rfl) Fz ZU (aj (pv 0) ag rfl)) ak (aU _)) (dE (bN (bO (aH FP GZ (by rfl) mP kP bP .nil ao (aj (aY (i7 (K:=K) rfl) (pv 0) ak (λ_ _=>rfl)) ag rfl)))) (dD (bN (bO (aH FP GZ (by rfl) mP kP bP .nil ao (aj (aY (i7 (K:=K) rfl) (pv 0) ak (λ_ _=>rfl)) ag rfl))))))))) (ax (aF eB)) aS)
   (ax (aF (qc (aE (xH rfl) (by rfl) Hv (by rfl) (aj (bY (N:=["place","thing"]) (nl:=1) (js:=[0]) (osc:=ar xx) ⟨rfl,rfl,by decide +kernel,by decide +kernel,by decide +kernel,rfl,(.cons ⟨rfl,by decide +kernel⟩ .nil),by decide +kernel⟩ rfl
    (dB (aY (i7 (K:=K) rfl) (pv 0) ak (λ_ _=>rfl)))
    (λCq fq sq Hq=>aD (i:=0) (by show(["place","thing"]:EG).Nodup;decide +kernel) rfl (Or.inl rfl) (Or.inr rfl))
    (λCq fq sq Hq=>c6)
    (λCq fq sq Hq=>(cp (show eA _ _ (yG K false) from gq) (pv 0) (aY (i7 (K:=K) rfl) (pv 1) ak (λ_ _=>rfl)) (by rfl)))) ag rfl)))))),?_⟩
  cases bx with
  |@no x T th ne =>
   refine⟨_,rfl,x,.ty "tuple",_,_,_,rfl,rfl,th.ty,th.isTup,_,rfl,?_⟩;rw[Yu ne];exact bA (bA (q _ (aC.refl _)))
  |@odd a xs ha hl =>
   refine⟨_,rfl,.ref a,.ty "tuple",_,_,_,rfl,rfl,.of (.tup ha),rfl,_,rfl,b7 ?_⟩;refine⟨_,rfl,a,xs,rfl,.inr (aV.of ha),rfl,_,rfl,?_⟩
   have e:(!decide (V.int (xs.length:Int)=V.int 2))=true:=by
    rw[Z1,Zn];intro z
    injection z with z
    omega
   rw[e];exact bA (bA (q _ (aC.refl _)))
  |@two a y z oy oz ha py pz =>
   have q:∀H',aC H H'->Q (.bl (cI oy&&(cI oz&&!((oz.getD []).any λy=>fQ y (oy.getD []))))) H':=q;refine⟨_,rfl,.ref a,.ty "tuple",_,_,_,rfl,rfl,.of (.tup ha),rfl,_,rfl,b7 ?_⟩;refine⟨_,rfl,a,[y,z],rfl,.inr (aV.of ha),rfl,_,rfl,b7 ?_⟩;refine⟨_,rfl,a,_,0,y,rfl,rfl,aV.of ha,rfl,y,oy,rfl,py,λH1 s1=>⟨_,rfl,?_⟩⟩
   cases ey:cI oy with
   |false=>exact bA (bA (by
    have:=q H1 s1;rw[ey] at this
    exact this))
   |true =>
    refine b7 ?_;refine⟨_,rfl,a,_,1,z,rfl,rfl,aV.of (s1 _ _ ha),rfl,z,oz,rfl,pz.same s1,λH2 s2=>⟨_,rfl,?_⟩⟩;have Gz:=s1.trans s2
    cases ez:cI oz with
    |false=>exact bA (by
     have:=q H2 Gz;rw[ey,ez] at this
     exact this)
    |true =>
     refine b7 ?_;obtain⟨ks,rfl⟩:=gB ey;obtain⟨ms,rfl⟩:=gB ez;rw[ey,ez] at q
     cases py with
     |@tup ay _ Ir _ _ =>
     cases pz with
     |@tup az _ Iu lz _ =>
     have Ir:=Gz _ _ Ir;have Iu:=Gz _ _ Iu;have Hs:=Gz _ _ ha;refine⟨_,rfl,a,_,1,.ref az,rfl,rfl,aV.of Hs,rfl,az,rfl,⟨_,aV.of Iu⟩,?_⟩;refine dY (K:=K) (xs:=ms.map V.int) (rest:=[some (.ref a)]) (λi us H'=>H2=H'/\us=((ms.take i).map λk=>fQ (.int k) (ks.map V.int)).map V.bl) ⟨rfl,rfl⟩ (λi us H' hi h=>?_) (λi x us H' N hi hx h k=>?_) (λus H' h=>?_)
     ·obtain⟨rfl,rfl⟩:=h;refine⟨?_,aV.of Iu⟩;rw[Yg,Yg,Y8];rw[Yg] at lz;exact Yo (ZP _ _) (YX lz (by decide))
     ·obtain⟨rfl,rfl⟩:=h;rw[YU] at hx;obtain⟨m,em,rfl⟩:=YH.mp hx;refine xG ⟨_,rfl,_,rfl,a,_,0,.ref ay,rfl,rfl,aV.of Hs,rfl,ay,_,rfl,.inr (aV.of Ir),rfl,da ks,k _ _ ⟨rfl,?_⟩⟩;rw[YE,em,Y2,Y2];rfl
     ·obtain⟨rfl,rfl⟩:=h;rw[Yg,Yv];intro L hL;refine⟨L,_,ms.map λk=>fQ (.int k) (ks.map V.int),rfl,bo.of ai,jM _,_,rfl,?_⟩
      have e:((ms.map λk=>fQ (.int k) (ks.map V.int)).any id)=(((some (ms.map V.int)).getD []).any λy=>fQ y ((some (ks.map V.int)).getD [])):=by
       rw[Ao,Option.getD_some,Option.getD_some,Ao];rfl
      rw[e];exact q _ (Gz.trans (aq hL))
noncomputable abbrev qj:Stmt:=(ba 49)
noncomputable def nE:Sp:=λvs H Q _=>∃(r:Addr)(many:Int),vs=[.ref r,.int many]/\a7 H r/\0<=many/\many<=100 /\
 ∀(a:Addr)(ks:List Int)(H':Hp),(∀k∈ks,0<=k/\k<=1)->(ks.length:Int)=many->H' a=some (.tup (ks.map V.int))->a7 H' r->SameBut r H H'->Q (.ref a) H'
theorem AA:CN wQ wQ (ar qj):=fe (by decide +kernel)
theorem wG (F:vP K "_law_filling" "_law_filling" qj f fd)(Fu:mg "tuple"=none)(FD:mg "range"=none)
 (q0:Ca P w K mg base 1 wQ "_law_take" EJ):
 yd P w K mg base (cD P w) 2 f fd wQ nE:=by
 obtain⟨ft,TK,FT,bT,mT,kT⟩:=q0;refine F.okN AA (λvs H Q E h=>?_) (λFv A outer s H vs Q E hr h=>?_)
 ·obtain⟨r,many,rfl,_⟩:=h;rfl
 ·obtain⟨r,many,rfl,hR,m0,m1,q⟩:=h;have FN:xh 1 _:=hr.mono (by decide)
  refine⟨_,(ax (aF (bt di (by rfl) Fu (by rfl) (aj (bY (N:=["_law_place","_law_room_here"]) (nl:=1) (js:=[0]) (osc:=ar qj) ⟨rfl,rfl,by decide +kernel,by decide +kernel,by decide +kernel,rfl,(.cons ⟨rfl,by decide +kernel⟩ .nil),by decide +kernel⟩ rfl
   (dR (by rfl) FD (aj (pv 1) ag rfl))
   (λC fp s H=>aD (i:=0) (by show(["_law_place","_law_room_here"]:EG).Nodup;decide +kernel) rfl (Or.inl rfl) (Or.inr rfl))
   (λC fp s H=>c6)
   (λC fp s H=>(aH FT FN (by rfl) mT kT bT .nil ao (aj (pv 1) (aj ak ag rfl) rfl)))) ag rfl)))),?_⟩
  refine⟨_,rfl,many,rfl,by omega,by omega,?_⟩
  refine⟨λi m xs σ' H'=>m=many.toNat-i/\i<=many.toNat/\(∃ks:List Int,xs=ks.map V.int/\(∀k∈ks,0<=k/\k<=1)/\ks.length=i)/\a7 H' r/\SameBut r H H'/\∃o,σ'=[o,some (.ref r)],
   ⟨many.toNat,by simp,Yt _,⟨[],rfl,λk h=>(nomatch h),rfl⟩,hR,λ_ _ e _=>e,none,rfl⟩,?_⟩
  rintro i m xs σ' H' ⟨rfl,hi,⟨ks,rfl,Rv,UU⟩,⟨l,x,Nj,x0,x1⟩,sb,o,rfl⟩;refine⟨by rw[Yg];exact Yo (show ks.length<=100 by omega) (by decide),?_⟩
  by_cases Fy:i<many.toNat
  ·refine .inr ⟨Fy,λy H2 hy=>?_⟩;obtain⟨rfl,rfl⟩:=hy;dsimp only[As,bw];refine bA ⟨_,rfl,r,l,x,2,rfl,Nj,x0,x1,by decide,by decide,λz l2 r2 z0 z1 g0 g1=>?_⟩;refine⟨many.toNat-(i+1),by omega,rfl,Fy,⟨ks++[z],by simp,λk hk=>?_,by simp[UU]⟩,⟨l2,r2,ai,g0,g1⟩,sb.trans SameBut.upd,_,rfl⟩
   rcases YI.mp hk with hk|hk
   ·exact Rv k hk
   ·have:k=z:=by simpa using hk
    omega
  ·have ei:i=many.toNat:=by omega
   refine .inl ⟨by show many.toNat<=i;omega,λD hD=>?_⟩;refine⟨D,_,rfl,.inl ⟨bo.of ai,λa ha=>?_⟩⟩;have nD:r≠D:=aB Nj hD;have na:r≠a:=aB (show upd H' D (.lst (ks.map V.int)) r=some (.lst [.int l,.int x]) by rw[aA nD];exact Nj) ha;refine q a ks _ Rv (by omega) ai ⟨l,x,by rw[aA na,aA nD];exact Nj,x0,x1⟩ λb u e nb=>?_;have e1:=sb b u e nb
   have e2:upd H' D (.lst (ks.map V.int)) b=some u:=by rw[aA (aB e1 hD)];exact e1
   rw[aA (aB e2 ha)];exact e2
noncomputable abbrev uq:Stmt:=(ba 43)
theorem xU:CN ES ES (ar uq):=fe (by decide +kernel)
theorem uF (F:vP K "_law_whole" "_law_whole" uq f fd)(n:zv mg):yd P w K mg base (cD P w) 1 f fd ES uY:=by
 refine F.okN xU (λvs H Q E h=>?_) (λFv A outer s H vs Q E hr h=>?_)
 ·obtain⟨x,T,rfl,_⟩:=h;rfl
 ·obtain⟨x,T,rfl,th,q⟩:=h
  refine⟨_,ax (aF (dz (aE aZ (by rfl) n.isi (by rfl) (cq (pv 0) (cq (cC (by rfl) n.int (by rfl) (show aG (.ty "int") (.type "int") from rfl)) ag)))
   (eM (qc (aE aZ (by rfl) n.isi (by rfl) (cq (pv 0) (cq (cC (by rfl) n.bool (by rfl) (show aG (.ty "bool") (.type "bool") from rfl)) ag))))))),?_⟩
  refine⟨_,rfl,x,.ty "int",_,_,_,rfl,rfl,th.ty,th.isInt,_,rfl,?_⟩;refine cG (λhi=>?_) (λhi=>?_)
  ·refine⟨_,rfl,x,.ty "bool",_,_,_,rfl,rfl,th.ty,th.isBool hi,_,rfl,?_⟩;simpa using q
  ·have e:cg x=false:=by
    cases th <;> first|rfl|exact absurd rfl hi
   rw[e] at q;exact q
noncomputable abbrev tX:Stmt:=(ba 50)
noncomputable def uS:Sp:=λvs H Q _=>∃x o,vs=[x]/\PX H x o/\(∀xs,o=some xs->xs.length<60)/\∀H',aC H H'->Q (.bl (cI o)) H'
theorem Co:CN ES ES (ar tX):=fe (by decide +kernel)
theorem tD:∀{ks:List Int},d0 (ks.map V.int)=true->ks.Pairwise (· < ·)
 |[],_=>.nil
 |[k],_=>by simp
 |a::b::ks,h=>by
  unfold d0 at h;have e:((a::b::ks).map V.int).zip (((a::b::ks).map V.int).drop 1)=(V.int a,V.int b):: (((b::ks).map V.int).zip (((b::ks).map V.int).drop 1)):=rfl;rw[e,Z3,Yy] at h;have ih:=tD (ks:=b::ks) h.2;have lt:a<b:=Zg h.1;refine YQ.mpr ⟨λx hx=>?_,ih⟩
  rcases Yn.mp hx with rfl|hx
  ·exact lt
  ·have:=(YQ.mp ih).1 x hx;omega
theorem BQ (h:xs.all cg=true):∃ns:List Int,xs=ns.map V.int:=by
 induction xs with
 |nil=>exact⟨[],rfl⟩
 |cons x xs ih =>
  rw[Z3,Yy] at h;obtain⟨ns,rfl⟩:=ih h.2
  have:∃n,x=V.int n:=by
   have:=h.1
   cases x <;> first|exact⟨_,rfl⟩|cases this
  obtain⟨n,rfl⟩:=this;exact⟨n::ns,rfl⟩
theorem vb (h:xs.all cg=false):cI (some xs)=false:=by
 show(xs.all pX&&d0 xs)=false
 cases e:xs.all pX with
 |false=>rfl
 |true =>
  exfalso
  have:xs.all cg=true:=by
   rw[ZQ] at e |-;intro x hx;have:=e x hx
   cases x <;> first|rfl|cases this
  rw[this] at h
  cases h
theorem kr {α β:Type}{us:List α}{l:List β}{i:Nat}{x:β}{f:β->Bool}(e:l[i]?=some x)(h:us=[]↔(l.take i).all f=true):(f x=true->(us=[]↔(l.take (i+1)).all f=true))/\∀y:α,f x=false->(us++[y]=[]↔(l.take (i+1)).all f=true):=by
 have es:l.take (i+1)=l.take i++[x]:=by rw[YE,e];rfl
 rw[es,List.all_append];refine⟨λg=>?_,λy g=>?_⟩
 ·rw[h];simp[g]
 ·simp[g]
theorem lO {K:Frag}{H:Hp}{a:Addr}{ns:List Int}(h:H a=some (.lst (ns.map V.int))):aM K H (.lst (ns.map D.int)) (.ref a):=by
 unfold aM;exact⟨a,_,rfl,bo.of h,ui ns⟩
theorem x9 (ns:List Int):iF (.lst (ns.map D.int))=1:=by unfold iF;rw[y1]
set_option maxHeartbeats 1000000 in
theorem zL (F:vP K "_law_is_product" "_law_is_product" tX f fd)(Fs:mg "isinstance"=none)(Fu:mg "tuple"=none)(FA:mg "list"=none)(Fw:mg "sorted"=none)(Gf:mg "set"=none)
 (q0:Ca P w K mg base 1 ES "_law_whole" uY):yd P w K mg base (cD P w) 2 f fd ES uS:=by
 obtain⟨fw,Ki,FW,bW,mW,kW⟩:=q0;refine F.okN Co (λvs H Q E h=>?_) (λFv A outer s H vs Q E hr h=>?_)
 ·obtain⟨x,o,rfl,_⟩:=h;rfl
 ·obtain⟨x,o,rfl,px,hl,q⟩:=h;have FN:xh 1 _:=hr
  refine⟨_,(au (bF (PW.pt (dE (bN (bO (aE aZ (by rfl) Fs (by rfl) (aj (pv 0) (aj (cC (by rfl) Fu (by rfl) (show aG (.ty "tuple") (.type "tuple") from rfl)) ag rfl) rfl)))) (dD (aN (vW FN) (bY (N:=["_law_place"]) (nl:=1) (js:=[]) (osc:=ar tX) ⟨rfl,rfl,by decide +kernel,by decide +kernel,by decide +kernel,rfl,.nil,by decide +kernel⟩ rfl
   (dB (pv 0))
   (λCq fq sq Hq=>aD (i:=0) (by show(["_law_place"]:EG).Nodup;decide +kernel) rfl (Or.inl rfl) (Or.inr rfl))
   (λCq fq sq Hq=>(dI (bN (bO (aH FW FN (by rfl) mW kW bW .nil ao (aj (pv 0) ag rfl))))))
   (λCq fq sq Hq=>(pv 0))) (cE ag) (aU _))))) (ax (aF eB)) aS)
   (ax (aF (dz (cp (adC FN) (bt dG (by rfl) FA (by rfl) (aj (pv 0) ag rfl)) (kb rfl (pv 0) rfl (by rfl) Fw (by rfl) Gf) (aU _)) (eM (cp (n4 FN) (bY (N:=["_law_place"]) (nl:=1) (js:=[]) (osc:=ar tX) ⟨rfl,rfl,by decide +kernel,by decide +kernel,by decide +kernel,rfl,.nil,by decide +kernel⟩ rfl
    (dB (pv 0))
    (λCq fq sq Hq=>aD (i:=0) (by show(["_law_place"]:EG).Nodup;decide +kernel) rfl (Or.inl rfl) (Or.inr rfl))
    (λCq fq sq Hq=>(dI (bN (aaf pb ir ak (pv 0) ak))))
    (λCq fq sq Hq=>(pv 0))) (cE ag) (aU _))))))),?_⟩
  cases px with
  |@no x T th ne =>
   refine⟨_,rfl,x,.ty "tuple",_,_,_,rfl,rfl,th.ty,th.isTup,_,rfl,?_⟩;rw[Yu ne];exact bA (bA (q _ (aC.refl _)))
  |@tup a xs ha _ Ks =>
   have hl:=hl xs rfl;refine⟨_,rfl,.ref a,.ty "tuple",_,_,_,rfl,rfl,.of (.tup ha),rfl,_,rfl,b7 ?_⟩;refine⟨_,rfl,a,rfl,⟨_,aV.of ha⟩,?_⟩;refine dY (K:=K) (xs:=xs) (rest:=[]) (λi us H'=>H=H'/\us.length<=i/\(us=[]↔(xs.take i).all cg=true)) ⟨rfl,Ye _,by simp⟩ (λi us H' hi h=>?_) (λi x us H' N hi hx h k=>?_) (λus H' h=>?_)
   ·obtain⟨rfl,h2,_⟩:=h;exact⟨Yo h2 (Yo hi (YX hl (by decide))),aV.of ha⟩
   ·obtain⟨rfl,h2,h3⟩:=h;obtain⟨T,th⟩:=Ks x (YA hx);obtain⟨g1,g2⟩:=kr hx h3;refine⟨_,rfl,x,T,rfl,th,_,rfl,?_⟩
    cases ew:cg x with
    |true=>exact b7 (k _ _ ⟨rfl,by omega,g1 ew⟩)
    |false=>exact bA ⟨_,rfl,k _ _ ⟨rfl,by rw[Yw];show us.length+1<=i+1;omega,g2 x ew⟩⟩
   ·obtain⟨rfl,_,h3⟩:=h;rw[Yv] at h3;intro L hL;have v1:=aq (o:=.lst us) hL;have f1:upd H L (.lst us) L=some (.lst us):=ai;generalize upd H L _=Ha at v1 f1 |-;refine⟨Yt _,λL2 Kp=>?_⟩;have v2:=aq (o:=.lst []) Kp;have f2:upd Ha L2 (.lst []) L2=some (.lst []):=ai;generalize upd Ha L2 _=Hb at v2 f2 |-;refine⟨L,L2,us,rfl,rfl,bo.of (v2 _ _ f1),bo.of f2,_,rfl,?_⟩;have v:=v1.trans v2
    cases ew:xs.all cg with
    |false =>
     have ne:us≠[]:=λz=>by rw[h3.mp z] at ew;cases ew
     rw[Yu ne];refine bA ?_;have:=q Hb v;rw[vb ew] at this;exact this
    |true =>
     have e0:us=[]:=h3.mpr ew;rw[YD e0];refine b7 ?_;obtain⟨ns,rfl⟩:=BQ ew;rw[Yg] at hl;have ha:=v _ _ ha;refine⟨_,rfl,a,_,rfl,.inr (aV.of ha),λL3 KO=>?_⟩;have v3:=aq (o:=.lst (ns.map V.int)) KO;have f3:upd Hb L3 (.lst (ns.map V.int)) L3=some (.lst (ns.map V.int)):=ai;generalize upd Hb L3 _=Hc at v3 f3 |-;refine⟨_,rfl,a,ns,rfl,.inr (aV.of (v3 _ _ ha)),by omega,λL4 ms G6 up mem=>?_⟩;have v4:=aq (o:=.lst (ms.map V.int)) G6;have f4:upd Hc L4 (.lst (ms.map V.int)) L4=some (.lst (ms.map V.int)):=ai;generalize upd Hc L4 _=Hd at v4 f4 |-;refine⟨.lst (ns.map D.int),.lst (ms.map D.int),lO (v4 _ _ f3),lO f4,by rw[x9];decide,?_⟩;have ed:gZ (.lst (ns.map D.int)) (.lst (ms.map D.int))=decide (ns=ms):=kq ns ms;rw[ed];have V4:=v.trans (v3.trans v4)
     by_cases en:ns=ms
     ·rw[YD en];refine⟨true,rfl,bA ?_⟩;have q:∀H',aC H H'->Q (.bl ((ns.map V.int).all pX&&d0 (ns.map V.int))) H':=q;rw[ni (by rw[en];exact up),Bool.and_true] at q;have ha:=(v3.trans v4) _ _ ha;refine⟨_,rfl,a,rfl,⟨_,aV.of ha⟩,?_⟩;refine dY (K:=K) (xs:=ns.map V.int) (rest:=[]) (λi us H'=>Hd=H'/\us.length<=i/\(us=[]↔((ns.map V.int).take i).all pX=true)) ⟨rfl,Ye _,by simp⟩ (λi us H' hi h=>?_) (λi x us H' N hi hx h k=>?_) (λus H' h=>?_)
      ·obtain⟨rfl,h2,_⟩:=h;rw[Yg] at hi;exact⟨Yo h2 (Yo hi (YX hl (by decide))),aV.of ha⟩
      ·obtain⟨rfl,h2,h3⟩:=h;obtain⟨g1,g2⟩:=kr hx h3;rw[YU] at hx;obtain⟨m,em,rfl⟩:=YH.mp hx;have no:pX (.int m)=false->N (us++[.int m]) Hd:=λz=>k _ _ ⟨rfl,by rw[Yw];show us.length+1<=i+1;omega,g2 _ z⟩;refine⟨_,rfl,_,_,rfl,rfl,_,rfl,?_⟩;refine cG (λh=>?_) (λh=>?_)
       ·have h':decide (0<=m)=true:=h;refine⟨_,_,rfl,rfl,_,rfl,?_⟩
        cases e6:decide (m<60) with
        |true=>exact b7 (k _ _ ⟨rfl,by omega,g1 (by show(decide (0<=m)&&decide (m<60))=true;rw[h',e6];rfl)⟩)
        |false=>exact bA ⟨_,rfl,no (by show(decide (0<=m)&&decide (m<60))=false;rw[h',e6];rfl)⟩
       ·have h':decide (0<=m)=false:=by simpa using h
        refine⟨_,rfl,?_⟩;exact bA ⟨_,rfl,no (by show(decide (0<=m)&&decide (m<60))=false;rw[h'];rfl)⟩
      ·obtain⟨rfl,_,h3⟩:=h;rw[Yv] at h3;intro L5 OB;have v5:=aq (o:=.lst us) OB;have f5:upd Hd L5 (.lst us) L5=some (.lst us):=ai;generalize upd Hd L5 _=He at v5 f5 |-;refine⟨Yt _,λL6 JO=>?_⟩;have v6:=aq (o:=.lst []) JO;have f6:upd He L6 (.lst []) L6=some (.lst []):=ai;generalize upd He L6 _=Hf at v6 f6 |-;refine⟨L5,L6,us,rfl,rfl,bo.of (v6 _ _ f5),bo.of f6,?_⟩
       have e:decide (us=[])=(ns.map V.int).all pX:=by
        rw[ZL,Cv];exact h3
       rw[e];exact q _ (V4.trans (v5.trans v6))
     ·rw[Yu en];refine⟨false,rfl,b7 ?_⟩
      have e:cI (some (ns.map V.int))=false:=by
       show((ns.map V.int).all pX&&d0 (ns.map V.int))=false
       cases er:d0 (ns.map V.int) with
       |false=>rw[Bool.and_false]
       |true=>exact absurd (nJ (tD er) up λz=>(mem z).symm) en
      have:=q Hd V4;rw[e] at this;exact this
noncomputable abbrev wN:Stmt:=(ba 51)
noncomputable def wd (o:Option (Option (List V)×Option (List V))):Prop:=∀oy oz,o=some (oy,oz)->(∀xs,oy=some xs->xs.length<60)/\∀xs,oz=some xs->xs.length<60
noncomputable def wg:Sp:=λvs H Q _=>∃x o,vs=[x]/\BX H x o/\wd o/\∀H',aC H H'->Q (.bl (ET o)) H'
theorem Bj:CN ES ES (ar wN):=fe (by decide +kernel)
theorem dH (k:Int)(ns:List Int):fQ (.int k) (ns.map V.int)=decide (k∈ns):=by
 unfold fQ;rw[Ao,ZL,ZC,Cv];constructor
 ·rintro⟨x,hx,e⟩;have e:(x==k)=true:=e;rw[<-eq_of_beq e];exact hx
 ·intro h;exact⟨k,h,(by show(k==k)=true;simp)⟩
set_option maxHeartbeats 1000000 in
theorem zS (F:vP K "_law_is_bracket" "_law_is_bracket" wN f fd)(Fs:mg "isinstance"=none)(Fu:mg "tuple"=none)(Fz:mg "len"=none)
 (q0:Ca P w K mg base 2 ES "_law_is_product" uS):yd P w K mg base (cD P w) 3 f fd ES wg:=by
 obtain⟨fp,Kr,FP,bP,mP,kP⟩:=q0;refine F.okN Bj (λvs H Q E h=>?_) (λFv A outer s H vs Q E hr h=>?_)
 ·obtain⟨x,o,rfl,_⟩:=h;rfl
 ·obtain⟨x,o,rfl,bx,sh,q⟩:=h;have GL:xh 2 _:=hr
  refine⟨_,(au (bF (PW.pt (dE (bN (bO (aE aZ (by rfl) Fs (by rfl) (aj (pv 0) (aj (cC (by rfl) Fu (by rfl) (show aG (.ty "tuple") (.type "tuple") from rfl)) ag rfl) rfl)))) (dD (aN fW (aE bJ (by rfl) Fz ZU (aj (pv 0) ag rfl)) ak (aU _))))) (ax (aF eB)) aS)
   (au (bF (PW.pt (dE (bN (bO (aH FP GL (by rfl) mP kP bP .nil ao (aj (aY (i7 (K:=K) rfl) (pv 0) ak (λ_ _=>rfl)) ag rfl)))) (dD (bN (bO (aH FP GL (by rfl) mP kP bP .nil ao (aj (aY (i7 (K:=K) rfl) (pv 0) ak (λ_ _=>rfl)) ag rfl))))))) (ax (aF eB)) aS)
   (ax (aF (cp (n4 GL) (bY (N:=["_law_place","_law_thing"]) (nl:=1) (js:=[0]) (osc:=ar wN) ⟨rfl,rfl,by decide +kernel,by decide +kernel,by decide +kernel,rfl,(.cons ⟨rfl,by decide +kernel⟩ .nil),by decide +kernel⟩ rfl
    (dB (aY (i7 (K:=K) rfl) (pv 0) ak (λ_ _=>rfl)))
    (λCq fq sq Hq=>aD (i:=0) (by show(["_law_place","_law_thing"]:EG).Nodup;decide +kernel) rfl (Or.inl rfl) (Or.inr rfl))
    (λCq fq sq Hq=>(dI (aN (show eA _ _ (yG K false) from gq) (pv 0) (aY (i7 (K:=K) rfl) (pv 1) ak (λ_ _=>rfl)) (by rfl))))
    (λCq fq sq Hq=>(pv 0))) (cE ag) (aU _)))))),?_⟩
  cases bx with
  |@no x T th ne =>
   refine⟨_,rfl,x,.ty "tuple",_,_,_,rfl,rfl,th.ty,th.isTup,_,rfl,?_⟩;rw[Yu ne];exact bA (bA (q _ (aC.refl _)))
  |@odd a xs ha hl =>
   refine⟨_,rfl,.ref a,.ty "tuple",_,_,_,rfl,rfl,.of (.tup ha),rfl,_,rfl,b7 ?_⟩;refine⟨_,rfl,a,xs,rfl,.inr (aV.of ha),rfl,_,rfl,?_⟩
   have e:(!decide (V.int (xs.length:Int)=V.int 2))=true:=by
    rw[Z1,Zn];intro z
    injection z with z
    omega
   rw[e];exact bA (q _ (aC.refl _))
  |@two a y z oy oz ha py pz =>
   have q:∀H',aC H H'->Q (.bl (cI oy&&(cI oz&&!((oz.getD []).any λy=>fQ y (oy.getD []))))) H':=q;obtain⟨sy,sz⟩:=sh oy oz rfl;refine⟨_,rfl,.ref a,.ty "tuple",_,_,_,rfl,rfl,.of (.tup ha),rfl,_,rfl,b7 ?_⟩;refine⟨_,rfl,a,[y,z],rfl,.inr (aV.of ha),rfl,_,rfl,b7 ?_⟩;refine⟨_,rfl,a,_,0,y,rfl,rfl,aV.of ha,rfl,y,oy,rfl,py,sy,λH1 s1=>⟨_,rfl,?_⟩⟩
   cases ey:cI oy with
   |false=>exact bA (bA (by
    have:=q H1 s1;rw[ey] at this
    exact this))
   |true =>
    refine b7 ?_;refine⟨_,rfl,a,_,1,z,rfl,rfl,aV.of (s1 _ _ ha),rfl,z,oz,rfl,pz.same s1,sz,λH2 s2=>⟨_,rfl,?_⟩⟩;have Gz:=s1.trans s2
    cases ez:cI oz with
    |false=>exact bA (by
     have:=q H2 Gz;rw[ey,ez] at this
     exact this)
    |true =>
     refine b7 ?_;obtain⟨ks,rfl⟩:=gB ey;obtain⟨ms,rfl⟩:=gB ez;rw[ey,ez] at q
     have lk:ks.length<60:=by have:=sy _ rfl;rwa[Yg] at this
     cases py with
     |@tup ay _ Ir _ _ =>
     cases pz with
     |@tup az _ Iu _ _ =>
     have Ir:=Gz _ _ Ir;have Iu:=Gz _ _ Iu;have Hs:=Gz _ _ ha;refine⟨_,rfl,a,_,0,.ref ay,rfl,rfl,aV.of Hs,rfl,ay,rfl,⟨_,aV.of Ir⟩,?_⟩;refine dY (K:=K) (xs:=ks.map V.int) (rest:=[some (.ref a)]) (λi us H'=>H2=H'/\us.length<=i/\(us=[]↔((ks.map V.int).take i).all (λx=>!fQ x (ms.map V.int))=true)) ⟨rfl,Ye _,by simp⟩ (λi us H' hi h=>?_) (λi x us H' N hi hx h k=>?_) (λus H' h=>?_)
     ·obtain⟨rfl,h2,_⟩:=h;rw[Yg] at hi;exact⟨Yo h2 (Yo hi (YX lk (by decide))),aV.of Ir⟩
     ·obtain⟨rfl,h2,h3⟩:=h;obtain⟨g1,g2⟩:=kr (f:=λx=>!fQ x (ms.map V.int)) hx h3;rw[YU] at hx;obtain⟨m,em,rfl⟩:=YH.mp hx;refine⟨_,rfl,_,rfl,a,_,1,.ref az,rfl,rfl,aV.of Hs,rfl,az,_,rfl,.inr (aV.of Iu),rfl,da ms,_,rfl,?_⟩
      cases e:fQ (.int m) (ms.map V.int) with
      |true=>exact bA ⟨_,rfl,k _ _ ⟨rfl,by rw[Yw];show us.length+1<=i+1;omega,g2 _ (by show(!fQ (.int m) (ms.map V.int))=false;rw[e];rfl)⟩⟩
      |false=>exact b7 (k _ _ ⟨rfl,by omega,g1 (by show(!fQ (.int m) (ms.map V.int))=true;rw[e];rfl)⟩)
     ·obtain⟨rfl,_,h3⟩:=h;rw[Yv] at h3;intro L5 OB;have v5:=aq (o:=.lst us) OB;have f5:upd H2 L5 (.lst us) L5=some (.lst us):=ai;generalize upd H2 L5 _=He at v5 f5 |-;refine⟨Yt _,λL6 JO=>?_⟩;have v6:=aq (o:=.lst []) JO;have f6:upd He L6 (.lst []) L6=some (.lst []):=ai;generalize upd He L6 _=Hf at v6 f6 |-;refine⟨L5,L6,us,rfl,rfl,bo.of (v6 _ _ f5),bo.of f6,?_⟩
      have e:decide (us=[])=(true&&(true&&!(((some (ms.map V.int)).getD []).any λy=>fQ y ((some (ks.map V.int)).getD [])))):=by
       rw[ZL,Cv,h3,Zr,Zr,Option.getD_some,Option.getD_some,Z9,Ao,ZQ,Z1,ED];constructor
       ·intro g x hx z;have z:fQ (.int x) (ks.map V.int)=true:=z;rw[dH,Cv] at z;have y:=g x z;have y:(!fQ (.int x) (ms.map V.int))=true:=y;rw[dH,YD hx] at y
        cases y
       ·intro g x hx;show(!fQ (.int x) (ms.map V.int))=true;rw[dH,Z1,Zn];intro z;refine g x z ?_;show fQ (.int x) (ks.map V.int)=true;rw[dH];exact YD hx
      rw[e];exact q _ (Gz.trans (v5.trans v6))
noncomputable abbrev ub:Stmt:=(ba 46)
theorem yg:CN vv vv (ar ub):=fe (by decide +kernel)
theorem vJ (F:vP K "_law_times" "_law_times" ub f fd)(q0:Ca P w K mg base 2 DE "_law_make" EI):
 yd P w K mg base (cD P w) 3 f fd vv (nA mZ):=by
 obtain⟨fl,Kj,FL,bL,mL,kL⟩:=q0;refine F.okN yg (λvs H Q E h=>?_) (λFv A outer s H vs Q E hr h=>?_)
 ·obtain⟨p,t1,b1,t2,b2,x1,x2,rfl,_⟩:=h;rfl
 ·obtain⟨p,t1,b1,t2,b2,x1,x2,rfl,hp,h1,h2,B1,B2,B3,B4,n1,n2,hb,q⟩:=h;refine⟨_,ax (aF (aH FL hr (by rfl) mL kL bL .nil ao (aj (pv 0) (aj (aK dO (aY bH (pv 1) ak (λ_ _=>rfl)) (aY bH (pv 2) ak (λ_ _=>rfl))) (aj (aK dO (aY bH (pv 1) ak (λ_ _=>rfl)) (aY bH (pv 2) ak (λ_ _=>rfl))) ag))))),?_⟩;refine⟨_,rfl,?_⟩;refine⟨_,rfl,x1,_,0,_,rfl,rfl,aV.of h1,a0 _ _,_,rfl,x2,_,0,_,rfl,rfl,aV.of h2,a0 _ _,_,_,rfl,rfl,⟨B1.mono (by decide),B3.mono (by decide)⟩,?_⟩;refine⟨_,rfl,x1,_,1,_,rfl,rfl,aV.of h1,a1 _ _,_,rfl,x2,_,1,_,rfl,rfl,aV.of h2,a1 _ _,_,_,rfl,rfl,⟨B2.mono (by decide),B4.mono (by decide)⟩,?_⟩;exact⟨p,_,_,rfl,hp,qX n1 n2,(B2.mul B4).mono (by decide),(B1.mul B3).mono (by decide),hb,q⟩
end K44
namespace L2
open PySem PySem.Spec PyProof.Rows
section
variable {prog:wu}{w:World}{A:Around}{E:ph}{s:Ci}
theorem yC {t b:Addr}{ws:m8}{Q:ph}(ht:IsTup s.heap t #[])(hb:IsTup s.heap b ws.toArray)(h:Q (.ref b) s):wpAny (model prog w) A (binaryOp .Add (.ref t) (.ref b)) Q E s:=by
 obtain⟨⟨cls,dd,data,sl⟩,ho,hc,n,hd⟩:=id ht;obtain⟨⟨IQ,HJ,data2,GU⟩,GF,Gq,n2,hd2⟩:=id hb;simp only at hc hd Gq hd2;subst hc hd Gq hd2
 exact Cg ⟨_,ho,rfl⟩ ⟨_,GF,rfl⟩ qi ll vm Fq (Fo _ _)
  (tuple_addW0 t b #[] ws.toArray n n2 dd HJ sl GU (by rfl)) ⟨ho,GF,h⟩
end
section
variable {X:Cx}
noncomputable def A1 (K:PySem.W.Frag):R2:=λx y H Q=>∃a b xs ys,x=.ref a/\y=.ref b/\aV K H a xs/\aV K H b ys/\xs.length+ys.length<=sizeLine /\
 (xs=[]->Q (.ref b) H)/\(xs≠[]->ys=[]->Q (.ref a) H)/\(xs≠[]->ys≠[]->∀p,H p=none->Q (.ref p) (upd H p (.tup (xs++ys))))
theorem zQ:eA X (binaryOp .Add) (A1 X.K):=by
 intro pins s σ H x y v u Q I rx ry h;obtain⟨a,b,xs,ys,rfl,rfl,ha,hb,hz,q0,q1,q2⟩:=h
 by_cases hx:xs=[]
 ·cases rx
  cases ry
  obtain⟨its,r1,p1,_⟩:=I.tuple ha;obtain⟨Fx,r2,p2,_⟩:=I.tuple hb;have:its=[]:=r1.ac3.mpr hx;subst this;exact yC p1 p2 ⟨.ref b,H,I,rfl,q0 hx⟩
 ·exact sY pins s σ H _ _ v u Q I rx ry ⟨a,b,xs,ys,rfl,rfl,ha,hb,hx,hz,q1 hx,q2 hx⟩
end
end L2
namespace K44
open PySem L2 PySem.W Nm Srt
noncomputable abbrev Fb:Stmt:=(ba 48)
noncomputable def Ea (t:Tm):Prop:=t.1.Pairwise (· < ·)/\t.1.length<32
noncomputable def yK:Sp:=λvs H Q _=>∃(p:Int)(la lb:Addr)(ys us:List V)(a b:List Tm),vs=[.int p,.ref la,.ref lb]/\FP p/\H la=some (.lst ys)/\bp H ys a/\H lb=some (.lst us)/\bp H us b/\a.length*b.length<4000 /\
 (∀t∈a,Gn p 4000 t.2/\Ea t)/\(∀t∈b,Gn p 4000 t.2/\Ea t)/\zE p (eY p a b)/\∀H' D zs,aC H H'->H' D=some (.lst zs)->bp H' zs (tg p (eY p a b))->Q (.ref D) H'
theorem qC:CN ["_law_prime","_law_one","_law_other","_law_found","_law_product","_law_number","_law_more","_law_factor","_law_both"] vv (ar Fb):=fe (by decide +kernel)
variable {K:Frag}{H:Hp}
theorem zg {a b:Addr}{xs ys:List V}{Q:VK}(ha:H a=some (.tup xs))(hb:H b=some (.tup ys))(hz:xs.length+ys.length<=sizeLine)(q:∀l H',aC H H'->H' l=some (.tup (xs++ys))->Q (.ref l) H'):A1 K (.ref a) (.ref b) H Q :=
 ⟨a,b,xs,ys,rfl,rfl,aV.of ha,aV.of hb,hz,λh=>q b H (aC.refl _) (by rw[hb,h];rfl),λ_ h=>q a H (aC.refl _) (by rw[ha,h,Zc]),λ_ _ l hl=>q l _ (aq hl) ai⟩
theorem vo (p:Int)(a b:List Tm)(x:Tm):eY p (a++[x]) b=eY p a b++b.map λy=>(fP (x.1++y.1),kX p x.2 y.2):=by simp[eY]
theorem pF (p:Int)(a b:List Tm):(eY p a b).length=a.length*b.length:=by
 unfold eY;rw[List.length_flatMap];simp only[Yg];rw[List.map_const',List.sum_replicate_nat]
variable {P:wu}{w:World}{K:PySem.W.Frag}{mg:vx}{base:Heap}
set_option maxHeartbeats 1000000 in
theorem xA {f:Addr}{fd:BB}(F:vP K "_law_mult" "_law_mult" Fb f fd)(Fu:mg "tuple"=none)(Fw:mg "sorted"=none)(Gf:mg "set"=none)
 (q0:Ca P w K mg base 3 vv "_law_times" (nA mZ))
 (q1:Ca P w K mg base 4 zP "_law_gather" uN):
 yd P w K mg base (cD P w) 5 f fd vv yK:=by
 obtain⟨fm,Ox,FM,bM,mM,kM⟩:=q0;obtain⟨fg,N0,FG,bG,mG,kG⟩:=q1;refine F.okN qC (λvs H Q E h=>?_) (λFv A outer s H vs Q E hr h=>?_)
 ·obtain⟨p,la,lb,ys,us,a,b,rfl,_⟩:=h;rfl
 ·obtain⟨p,la,lb,ys,us,a,b,rfl,hp,Rw,Rx,Ry,Rz,Ii,ga,gb,G,q⟩:=h;have GW:xh 4 _:=hr;have GZ:xh 3 _:=GW.mono (by decide)
  refine⟨_,(au (@aX _ _ 3 _ _ _ _ qC.nd rfl (Or.inl rfl) (cE ag) rfl (Or.inl rfl))
   (au (dW Y4 rfl (dM (pv 1)) (cY rfl (aO (aD (i:=4) qC.nd rfl (Or.inl rfl)) (aO (aD (i:=5) qC.nd rfl (Or.inl rfl)) cu)))
   (ax (dW Y4 rfl (dM (pv 2)) (cY rfl (aO (aD (i:=6) qC.nd rfl (Or.inl rfl)) (aO (aD (i:=7) qC.nd rfl (Or.inl rfl)) cu)))
   (au (@aX _ _ 8 _ _ _ _ qC.nd rfl (Or.inl rfl) (bt di (by rfl) Fu (by rfl) (aj (kb rfl (aK zQ (pv 4) (pv 6)) rfl (by rfl) Fw (by rfl) Gf) ag rfl)) rfl (Or.inl rfl))
   (ax (Gth (aas PySem.F.plainAttrs_list PySem.F.slot_list_append PySem.F.type_list_append aaE (pv 3) (aj (aJ (aj (pv 8) (aj (aH FM GZ (by rfl) mM kM bM .nil ao (aj (pv 0) (aj (pv 5) (aj (pv 7) ag rfl) rfl) rfl)) ag rfl) rfl)) ag rfl))))))))
   (ax (aF (aH FG GW (by rfl) mG kG bG .nil ao (aj (pv 0) (aj (pv 3) ag rfl) rfl)))))),?_⟩
  refine⟨Yt _,λL hL=>?_⟩;have s1:=aq (o:=.lst []) hL;have e1:upd H L (.lst []) L=some (.lst []):=ai;generalize upd H L _=H1 at s1 e1 |-;have za:=Rx.length;have zb:=Rz.length;refine⟨_,rfl,la,rfl,⟨_,bo.of (s1 _ _ Rw)⟩,?_⟩;refine ij (K:=K) (a:=la) (xs:=ys) (λi σ H'=>aC H H'/\(∃ws,H' L=some (.lst ws)/\bp H' ws (eY p (a.take i) b))/\∃o4 o5 o6 o7 o8,σ=[some (.int p),some (.ref la),some (.ref lb),some (.ref L),o4,o5,o6,o7,o8]) ⟨s1,⟨[],e1,.nil⟩,_,_,_,_,_,rfl⟩ (λj σ H' _ h=>bo.of (h.1 _ _ Rw)) ?_ ?_
  ·rintro i y σ H2 hy ⟨s2,⟨ws,eL,hw⟩,o4,o5,o6,o7,o8,rfl⟩;obtain⟨x,ex,at_,pr,nu,rfl,Ja,Gd,Gw⟩:=bK Rx hy;have gx:=ga x (YA ex);have hi:i<a.length:=(YO.mp ex).1
   have F5:a.take (i+1)=a.take i++[x]:=by rw[YE,ex];rfl
   refine⟨at_,_,rfl,aV.of (s2 _ _ Ja),rfl,_,_,rfl,_,_,rfl,rfl,?_⟩;refine⟨_,rfl,lb,rfl,⟨_,bo.of (s2 _ _ Ry)⟩,?_⟩;refine ij (K:=K) (a:=lb) (xs:=us) (λj σ H'=>aC H H'/\(∃ws,H' L=some (.lst ws)/\bp H' ws (eY p (a.take i) b++(b.take j).map λy=>(fP (x.1++y.1),kX p x.2 y.2)))/\∃o6 o7 o8,σ=[some (.int p),some (.ref la),some (.ref lb),some (.ref L),some (.ref pr),some (.ref nu),o6,o7,o8]) ⟨s2,⟨ws,eL,by simpa using hw⟩,_,_,_,rfl⟩ (λj σ H' _ h=>bo.of (h.1 _ _ Ry)) ?_ ?_
   ·rintro j y σ H3 hy ⟨s3,⟨ws,eL,hw⟩,o6,o7,o8,rfl⟩;obtain⟨z,ez,at2,XS,UW,rfl,OC,OD,OE⟩:=bK Rz hy;have gz:=gb z (YA ez);have hj:j<b.length:=(YO.mp ez).1
    have OF:b.take (j+1)=b.take j++[z]:=by rw[YE,ez];rfl
    refine⟨at2,_,rfl,aV.of (s3 _ _ OC),rfl,_,_,rfl,_,_,rfl,rfl,?_⟩
    have Gk:(x.1.map V.int).length+(z.1.map V.int).length<64:=by
     rw[Yg,Yg];have:=gx.2.2;have:=gz.2.2;omega
    refine⟨_,rfl,_,rfl,zg (s3 _ _ Gd) (s3 _ _ OD) (Yq (Zi Gk) (by decide)) λl H4 s4 el=>?_⟩;refine⟨l,x.1++z.1,rfl,.inr (aV.of (by rw[el,Y2])),(by rw[Yw];simpa using Gk),λD ms hD pw mem=>?_⟩;have em:ms=fP (x.1++z.1):=qQ pw mem;subst em;refine⟨D,_,rfl,.inl ⟨bo.of ai,λtu RA=>?_⟩⟩;have s5:=(aq (o:=.lst ((fP (x.1++z.1)).map V.int)) hD).trans (aq (o:=.tup ((fP (x.1++z.1)).map V.int)) RA);have e5:upd (upd H4 D (.lst ((fP (x.1++z.1)).map V.int))) tu (.tup ((fP (x.1++z.1)).map V.int)) tu=some (.tup ((fP (x.1++z.1)).map V.int)):=ai;generalize upd (upd H4 D (.lst ((fP (x.1++z.1)).map V.int))) tu (.tup ((fP (x.1++z.1)).map V.int))=H5 at s5 e5 |-;have KP:=s4.trans s5;have OG:=s3.trans KP;have RB:=KP _ _ eL;clear hD RA;refine⟨_,rfl,.inl ⟨rfl,_,bo.of RB⟩,_,rfl,_,rfl,_,rfl,_,rfl,p,x.2.1,x.2.2,z.2.1,z.2.2,nu,UW,rfl,hp,OG _ _ Gw,OG _ _ OE,gx.1.2.1,gx.1.2.2,gz.1.2.1,gz.1.2.2,gx.1.ne,gz.1.ne,(λw=>by rw[(gx.1.1.pr w).1,(gz.1.1.pr w).1];rfl),λH6 an s6 e6=>?_⟩;refine⟨hJ,λtt Od=>?_⟩;have s7:=aq (o:=.tup [.ref tu,.ref an]) Od;have e7:upd H6 tt (.tup [.ref tu,.ref an]) tt=some (.tup [.ref tu,.ref an]):=ai;generalize upd H6 tt _=H7 at s7 e7 |-;have Nk:=s6.trans s7;have RC:=Nk _ _ RB
    have wl:ws.length<4000:=by
     rw[hw.length,Yw,pF,Yg,Y8,Y8]
     have h1:min i a.length=i:=by omega
     have h2:min j b.length=j:=by omega
     rw[h1,h2];have h3:(i+1)*b.length<=a.length*b.length:=Nat.mul_le_mul_right _ (by omega);rw[Nat.succ_mul] at h3;omega
    refine⟨L,ws,.ref tt,rfl,rfl,RC,Ys wl (by decide),?_⟩
    have kL:aI H7 (upd H7 L (.lst (ws++[.ref tt]))):=aI.upd λxs w=>by rw[RC] at w;cases w
    have UX:aI H3 H7:=aI.of (KP.trans Nk);refine⟨λc u e=>?_,⟨_,ai,?_⟩,_,_,_,rfl⟩
    ·rw[aA (aB e hL)];exact Nk _ _ (OG _ _ e)
    ·rw[OF,Y2,<-qR];exact vw (bp.keep hw (UX.trans kL)) ⟨tt,tu,an,rfl,kL _ _ e7,kL _ _ (Nk _ _ e5),kL _ _ (s7 _ _ e6)⟩
   ·rintro σ H3 ⟨s3,⟨ws,eL,hw⟩,o6,o7,o8,rfl⟩;refine⟨s3,⟨ws,eL,?_⟩,_,_,_,_,_,rfl⟩;rw[F5,vo];rw[zb,Yv] at hw;exact hw
  ·rintro σ H2 ⟨s2,⟨ws,eL,hw⟩,o4,o5,o6,o7,o8,rfl⟩;rw[za,Yv] at hw;exact⟨_,rfl,_,rfl,L,p,ws,_,rfl,hp,eL,hw,G,λH' D zs s3 hD hz=>q H' D zs (s2.trans s3) hD hz⟩
noncomputable abbrev jy:Stmt:=(ba 53)
structure Du (ts:List Tm)(n:Nat):Prop where
 cd:∀t∈ts,Cd 0 1 32 t.2
 up:∀t∈ts,t.1.Pairwise (· < ·)
 pl:Pl ts
 len:ts.length<=n
variable {p:Int}
theorem sN {raw:List Tm}{t:Tm}(h:t∈tg p raw):∃x∈raw,t.1=x.1:=by
 have fk:∀(ts d:List Tm)(e:Tm),e∈ts.foldl (cK p) d->(∃x∈d,e.1=x.1)\/∃x∈ts,e.1=x.1:=by
  intro ts
  induction ts with
  |nil=>exact λd e he=>.inl ⟨e,he,rfl⟩
  |cons t ts ih =>
   intro d e he
   rcases ih _ e he with⟨x,hx,e1⟩|⟨x,hx,e1⟩
   ·unfold cK at hx
    split at hx
    ·obtain⟨y,hy,rfl⟩:=YG.mp hx;refine .inl ⟨y,hy,?_⟩;rw[e1]
     split <;> rfl
    ·rcases YI.mp hx with hx|hx
     ·exact .inl ⟨x,hx,e1⟩
     ·have:x=t:=by simpa using hx
      exact .inr ⟨t,Yl,by rw[e1,this]⟩
   ·exact .inr ⟨x,Yi _ hx,e1⟩
 rcases fk raw [] t (Y7.mp ((eV _).mem_iff.mp h)).1 with⟨x,hx,_⟩|⟨x,hx,e⟩
 ·exact nomatch hx
 ·exact⟨x,hx,e⟩
theorem BU {raw:List Tm}:(tg p raw).length<=raw.length:=by
 have fk:∀(ts d:List Tm),(ts.foldl (cK p) d).length<=d.length+ts.length:=by
  intro ts
  induction ts with
  |nil=>exact λd=>Ye _
  |cons t ts ih =>
   intro d;have h1:=ih (cK p d t);have h2:=oN (p:=p) (d:=d) (t:=t);rw[YC];show(ts.foldl (cK p) (cK p d t)).length<=_;omega
 rw[(eV (aW p raw)).length_eq];refine Yq (Zx _ _) ?_;have:=fk raw [];rw[Dl,zF] at this;exact this
theorem wb {ks ms:List Int}(h:Br ks ms)(i:Nat)(hi:i<=ms.length):Du (tg 0 (gu [(ks,(1,1))] (ms.take i))) (2^i):=by
 have nd:=fR h.mu;have bk:=Bk.take i nd h.bk
 have ln:(gu [(ks,(1,1))] (ms.take i)).length=2^i:=by
  rw[jt,Y8,vq hi];show 1*2^i=2^i;omega
 have l5:2^i<=32:=Yq (ZG (by decide) (Yq hi h.ml)) (by decide)
 have pl:Pl (gu [(ks,(1,1))] (ms.take i)):=Pl.br (λk hk=>h.mp k (Zq hk)) λt ht j hj=>by
  have:t=(ks,(1,1)):=by simpa using ht
  rw[this] at hj;exact h.kp j hj
 generalize gu [(ks,(1,1))] (ms.take i)=ts at bk ln pl |-;refine⟨λt ht=>?_,λt ht=>?_,λt ht=>?_,by rw[<-ln];exact BU⟩
 ·refine(D7 (p:=0) (D:=1) (N:=1) (.inl rfl) (by decide) (λu hu=>?_) t ht).mono (by rw[ln];omega)
  rcases(bk u hu).1 with e|e
  ·rw[e];exact⟨(dA (.inl rfl)).1,λ_=>⟨1,by decide,by decide⟩⟩
  ·rw[e];exact⟨(dA (.inr rfl)).1,λ_=>⟨1,by decide,by decide⟩⟩
 ·obtain⟨x,hx,e⟩:=sN ht;rw[e];exact(bk x hx).2.1
 ·obtain⟨x,hx,e⟩:=sN ht;rw[e];exact pl x hx
section
variable {p:Int}{ts:List Tm}
theorem AC (hp:FP p)(h:cb p ts):tg p (tg p ts)=tg p ts:=by
 obtain⟨A,i,v,V⟩:=hp.v;exact AD V hp.nn (hp.tn h) h λF=>BW V hp.nn h F
end
theorem zY (ks:List Int):tg 0 [(ks,(1,1))]=[(ks,(1,1))]:=by
 have e:aW 0 [(ks,(1,1))]=[(ks,(1,1))]:=by simp[aW,cK]
 show eu (aW 0 [(ks,(1,1))])=_;rw[e];rfl
theorem lK:∀(ms:List Int)(ts:List Tm)(k:Int),jh ts (ms++[k])=tg 0 (eY 0 (jh ts ms) (fM k))
 |[],_,_=>rfl
 |m::ms,ts,k=>lK ms _ k
theorem si:∀(ms:List Int)(ts:List Tm),cb 0 ts->tg 0 ts=ts->tg 0 (jh ts ms)=jh ts ms
 |[],ts,_,e=>e
 |k::ms,ts,h,e=>by
  have hm:=jx (p:=0) (by decide) h (iw k);exact si ms _ (FP.tn (.inl rfl) hm) (AC (.inl rfl) hm)
theorem xy {ks ms:List Int}(h:Br ks ms)(i:Nat):jh [(ks,(1,1))] (ms.take i)=tg 0 (gu [(ks,(1,1))] (ms.take i)):=by
 have bk:Bk (ms.take i) [(ks,(1,1))]:=λt ht=>let⟨a,b,c⟩:=h.bk t ht;⟨a,b,λk hk=>c k (Zq hk)⟩;have e:=C1 ((fR h.mu).sublist (Ce i ms)) bk bk.num λV F=>rfl;rw[e,si _ _ bk.num (zY ks)]
theorem CG {us:List Tm}{n:Nat}{k:Int}(h:Du us n)(hn:n<=16):zE 0 (eY 0 us (fM k))/\(eY 0 us (fM k)).length=us.length*2:=by
 have l:(eY 0 us (fM k)).length=us.length*2:=pF 0 us (fM k);refine⟨zE.of (m:=16) (.inl rfl) (by have:=h.len;omega) (λt ht=>?_) (by have:=h.len;omega) (by decide),l⟩;obtain⟨x,hx,ht⟩:=List.mem_flatMap.mp ht;obtain⟨y,hy,rfl⟩:=YG.mp ht
 have cy:Cd 0 1 1 y.2:=by
  have:y=([],(1,1))\/y=([k],(-1,1)):=by simpa using hy
  rcases this with rfl|rfl
  ·exact⟨(dA (.inl rfl)).1,λ_=>⟨1,rfl,ZY 1⟩⟩
  ·exact⟨(dA (.inr rfl)).1,λ_=>⟨1,rfl,ZY 1⟩⟩
 exact((h.cd x hx).mul (.inl rfl) cy).gn (.inl rfl) (by decide) (by decide) (by unfold B;decide) (by unfold B;decide)
theorem Du.gn {us:List Tm}{n:Nat}(h:Du us n):∀t∈us,Gn 0 4000 t.2/\Ea t:=λt ht=>by
 have g:Gn 0 7 t.2:=(h.cd t ht).gn (.inl rfl) (by decide) (by decide) (by unfold B;decide) (by unfold B;decide);have tl:=kA (l:=t.1) (lo:=0) (by decide) (h.up t ht) (h.pl t ht);exact⟨⟨g.1,g.2.1.mono (by decide),g.2.2.mono (by decide)⟩,h.up t ht,by omega⟩
theorem zf (k:Int):∀t∈fM k,Gn 0 4000 t.2/\Ea t:=λt ht=>by
 have:t=([],(1,1))\/t=([k],(-1,1)):=by simpa using ht
 rcases this with rfl|rfl
 ·have g:=dA (w:=(1,1)) (.inl rfl);exact⟨⟨g.1,g.2.1.mono (by decide),g.2.2.mono (by decide)⟩,List.Pairwise.nil,Nat.zero_lt_succ _⟩
 ·have g:=dA (w:=(-1,1)) (.inr rfl);exact⟨⟨g.1,g.2.1.mono (by decide),g.2.2.mono (by decide)⟩,Cn _ _,(by decide:1<32)⟩
theorem E6 {t:TS}{D:Ends}{σ:St}(R:St->Hp->Prop)(h:∀D':Ends,(∀σ' H',R σ' H'->D'.nx σ' H')->t D' σ H)(fin:∀σ' H',R σ' H'->D.nx σ' H'):t D σ H:=h D fin
theorem yO {x y:Addr}{w:Int×Int}{Q:VK}(hx:H x=some (cw w.1 w.2))(hy:H y=some (cw w.1 w.2))(q:Q (.bl false) H):y7 K true (.ref x) (.ref y) H Q :=
 ⟨.tup ([w.1,w.2].map D.int),.tup ([w.1,w.2].map D.int),pG hx,pG hy,by rw[yS];decide,by rw[eO];exact q⟩
theorem xk {bs:List Int}(h:∀b∈bs,0<=b/\b<=1)(n:Nat):0<=bs.getD n 0/\bs.getD n 0<=1:=by
 rw[Zt]
 cases e:bs[n]? with
 |none=>exact⟨by decide,by decide⟩
 |some b=>exact h b (YA e)
theorem zW {bs ks ms:List Int}(h:∀b∈bs,0<=b/\b<=1):(!fQ (.int 0) ((ks.map λk=>bs.getD k.toNat 0).map V.int)&&!fQ (.int 1) ((ms.map λk=>bs.getD k.toNat 0).map V.int))=fL bs ks ms:=by
 unfold fL;rw[dH,dH];congr 1
 ·rw[ZL,Z1,Zn,b9];constructor
  ·intro g k hk z;exact g (YG.mpr ⟨k,hk,z⟩)
  ·intro g z;obtain⟨k,hk,e⟩:=YG.mp z;exact g k hk e
 ·rw[ZL,Z1,Zn,ZQ];constructor
  ·intro g k hk
   have b:=xk h k.toNat
   have n:bs.getD k.toNat 0≠1:=λz=>g (YG.mpr ⟨k,hk,z⟩)
   have:bs.getD k.toNat 0=0:=by omega
   exact BS.mpr this
  ·intro g z;obtain⟨k,hk,e⟩:=YG.mp z;have:bs.getD k.toNat 0=0:=eq_of_beq (g k hk);omega
theorem lM {i:Nat}{ap l:Addr}{ns bs:List Int}{σ:St}{F:VK}(e:σ[i]?=some (some (.ref ap)))(e7:σ[7]?=some (some (.ref l)))(RD:H ap=some (.tup (ns.map V.int)))(hl:H l=some (.lst (bs.map V.int)))(hn:ns.length<=5)(hp:∀k∈ns,0<=k/\k<(bs.length:Int))
 (q:∀H' D,aC H H'->H' D=some (.lst ((ns.map λk=>bs.getD k.toNat 0).map V.int))->F (.ref D) H'):pU (BJ K (cc i)) (bw 0) As (kn (xR K) (cc 1) (cc 0)) 1 [7] σ H F:=by
 have F4:σC 1 [7] σ=[none,some (.ref l)]:=by
  show none :: [σ[7]?.join]=_;rw[e7];rfl
 refine⟨_,e,ap,rfl,⟨_,aV.of RD⟩,?_⟩;rw[F4];refine dY (K:=K) (xs:=ns.map V.int) (rest:=[some (.ref l)]) (λj us H'=>H=H'/\us=((ns.take j).map λk=>bs.getD k.toNat 0).map V.int) ⟨rfl,rfl⟩ (λj us H' hj h=>?_) (λj x us H' N hj hx h k=>?_) (λus H' h=>?_)
 ·obtain⟨rfl,rfl⟩:=h;refine⟨?_,aV.of RD⟩;rw[Yg,Yg,Y8];exact Yo (ZP _ _) (Yo hn (by decide))
 ·obtain⟨rfl,rfl⟩:=h;rw[YU] at hx;obtain⟨m,em,rfl⟩:=YH.mp hx;have b:=hp m (YA em);refine xG ⟨_,rfl,_,rfl,l,_,_,_,rfl,rfl,bo.of hl,rf b.1 b.2,k _ _ ⟨rfl,?_⟩⟩;rw[YE,em,Y2,Y2];rfl
 ·obtain⟨rfl,rfl⟩:=h;rw[Yg,Yv];intro D hD;exact q _ D (aq hD) ai
variable {H':Hp}{r:Addr}
theorem a7.adE (h:a7 H r)(s:SameBut r H H'):aI H H':=λb xs e=>s b _ e λz=>by
 obtain⟨l,x,e',_⟩:=h;rw[z,e'] at e
 cases e
theorem zR {ys:List V}{ts:List Tm}(h:bp H ys ts)(R:a7 H r)(S:SameBut r H H'):bp H' ys ts:=bp.keep h (R.adE S)
theorem Fj.room {C CF:Addr}{s:Addr}{ts:List Tm}(h:Fj C CF H s p ts)(R:a7 H r)(S:SameBut r H H'):Fj C CF H' s p ts:=by
 obtain⟨dx,fl,FK,D,zs,h1,h2,h3,h4⟩:=h.ex;obtain⟨l,x,e,_⟩:=id R;refine⟨dx,fl,FK,D,zs,S _ _ h1 λz=>?_,S _ _ h2 λz=>?_,S _ _ h3 λz=>?_,zR h4 R S⟩
 ·rw[z,e] at h1;cases h1
 ·rw[z,e] at h2;cases h2
 ·rw[z,e] at h3
  cases h3
  cases h4 with
  |cons y _ =>
   obtain⟨a,_,_,z,_⟩:=y
   cases z
noncomputable def t9 (C CF:Addr):Sp:=λvs H Q _=>∃(r ah al:Addr)(ks ms:List Int),vs=[.ref r,.ref ah,.ref al]/\a7 H r/\H ah=some (.tup (ks.map V.int))/\H al=some (.tup (ms.map V.int))/\Br ks ms/\∀H',a7 H' r->SameBut r H H'->Q (.bl true) H'
theorem dN:CN ["_law_room_here","_law_held","_law_lacked","_law_one","_law_due","_law_place","_law_turn","_law_row","_law_good"] qM (ar jy):=fe (by decide +kernel)
set_option maxHeartbeats 2000000 in
theorem xZ {f C CF:Addr}{fd:BB}(F:vP K "_law_right" "_law_right" jy f fd)(c:oF K mg C)(cF:Bg K mg CF)(Fs:mg "isinstance"=none)(F6:mg "int"=none)(FA:mg "list"=none)(Fu:mg "tuple"=none)(FD:mg "range"=none)
 (q0:Ca P w K mg base 8 ["bracket"] "bracket_sum" (Dj C CF))
 (q1:Ca P w K mg base 5 vv "_law_mult" yK)
 (q2:Ca P w K mg base 4 zP "_law_gather" uN)
 (q3:Ca P w K mg base 2 wQ "_law_filling" nE)
 (q4:Cm P w K mg base 1 ["self"] C "field" (ou C CF))
 (q5:Cm P w K mg base 1 ["self"] CF "prime" (tj CF))
 (q6:Cm P w K mg base 1 ["self"] C "terms" (pQ C CF))
 (q7:Cm P w K mg base 5 ["self","filling"] C "worth" (ue C CF)):yd P w K mg base (cD P w) 9 f fd qM (t9 C CF):=by
 obtain⟨XT,UY,UZ,U1,U2,U3⟩:=q0;obtain⟨XU,U4,U5,U6,U7,U8⟩:=q1;obtain⟨fG,XW,FG,bG,mG,kG⟩:=q2;obtain⟨XX,U9,Va,Vb,Vc,Vd⟩:=q3;obtain⟨XY,Ve,Vf,Vg,Vh⟩:=q4;obtain⟨XZ,Vi,Vj,Vk,Vl⟩:=q5;obtain⟨X0,Vm,Vn,Vo,Vp⟩:=q6;obtain⟨X1,Vq,Vr,Vs,Vt⟩:=q7;refine F.okN dN (λvs H Q E h=>?_) (λFv A outer s H vs Q E hr h=>?_)
 ·obtain⟨r,ah,al,ks,ms,rfl,_⟩:=h;rfl
 ·obtain⟨r,ah,al,ks,ms,rfl,Rm,GS,GH,hb,q⟩:=h;have Jm:xh 8 _:=hr;have KC:xh 5 _:=Jm.mono (by decide);have GW:xh 4 _:=Jm.mono (by decide);have GL:xh 2 _:=Jm.mono (by decide);have FN:xh 1 _:=Jm.mono (by decide)
  refine⟨_,(au (@aX _ _ 3 _ _ _ _ dN.nd rfl (Or.inl rfl) (aH UZ Jm (by rfl) U2 U3 U1 .nil ao (aj (aJ (aj (pv 1) (aj (pv 2) ag rfl) rfl)) ag rfl)) rfl (Or.inl rfl))
   (au (@aX _ _ 4 _ _ _ _ dN.nd rfl (Or.inl rfl) (cE (aj (aJ (aj (pv 1) (aj (aJ (aj ak (aj ak ag rfl) rfl)) ag rfl) rfl)) ag rfl)) rfl (Or.inl rfl))
   (au (dW Y4 rfl (dB (pv 2)) (aD (i:=5) dN.nd rfl (Or.inl rfl))
   (ax (@aX _ _ 4 _ _ _ _ dN.nd rfl (Or.inl rfl) (aH U5 KC (by rfl) U7 U8 U6 .nil ao (aj ak (aj (pv 4) (aj (cE (aj (aJ (aj (aJ ag) (aj (aJ (aj ak (aj ak ag rfl) rfl)) ag rfl) rfl)) (aj (aJ (aj (aJ (aj (pv 5) ag rfl)) (aj (aJ (aj (pq j9 ak) (aj ak ag rfl) rfl)) ag rfl) rfl)) ag rfl) rfl)) ag rfl) rfl) rfl)) rfl (Or.inl rfl))))
   (au (bF (PW.pt (dE (bN (bO (aE aZ (by rfl) Fs (by rfl) (aj (pv 3) (aj (fu (by rfl) c.c.mgC (show aG (.ref C) (.ref C) from rfl)) ag rfl) rfl)))) (dE (aN fW (ip (ip (pv 3) c.c.cl Vh Vf FN Vg .nil ao) cF.cl Vl Vj FN Vk .nil ao) ak (aU _)) (dD (aN (ng Jm) (ip (pv 3) c.c.cl Vp Vn FN Vo .nil ao) (aH FG GW (by rfl) mG kG bG .nil ao (aj ak (aj (pv 4) ag rfl) rfl)) (aU _)))))) (ax (aF eB)) aS)
   (au (dW Y4 rfl (dR (by rfl) FD (aj ak ag rfl)) (aD (i:=6) dN.nd rfl (Or.inl rfl))
   (au (@aX _ _ 7 _ _ _ _ dN.nd rfl (Or.inr rfl) (bt dG (by rfl) FA (by rfl) (aj (aH Va GL (by rfl) Vc Vd Vb .nil ao (aj (pv 0) (aj ak ag rfl) rfl)) ag rfl)) rfl (Or.inl rfl))
   (au (bF (aN ir (pv 6) ak (aU _)) (ax (@aX _ _ 7 _ _ _ _ dN.nd rfl (Or.inr rfl) (bY (N:=["_law_place","_law_held","_law_lacked","_law_row"]) (nl:=1) (js:=[1,2,7]) (osc:=ar jy) ⟨rfl,rfl,by decide +kernel,by decide +kernel,by decide +kernel,rfl,(.cons ⟨rfl,by decide +kernel⟩ (.cons ⟨rfl,by decide +kernel⟩ (.cons ⟨rfl,by decide +kernel⟩ .nil))),by decide +kernel⟩ rfl
    (dR (by rfl) FD (aj ak ag rfl))
    (λCq fq sq Hq=>aD (i:=0) (by show(["_law_place","_law_held","_law_lacked","_law_row"]:EG).Nodup;decide +kernel) rfl (Or.inl rfl) (Or.inr rfl))
    (λCq fq sq Hq=>c6)
    (λCq fq sq Hq=>(aY (rY (K:=K) rfl) (cE (aj (aY (rY (K:=K) rfl) (pv 3) (pv 0) (λ_ _=>rfl)) (aj ak (aj ak ag rfl) rfl) rfl)) (aK fF (bt gy (by rfl) F6 (by rfl) (aj (cp (show eA _ _ (yG K false) from gq) (pv 0) (pv 1) (by rfl)) ag rfl)) (aK dO ak (bt gy (by rfl) F6 (by rfl) (aj (cp (show eA _ _ (yG K false) from gq) (pv 0) (pv 2) (by rfl)) ag rfl)))) (λ_ _=>rfl)))) rfl (Or.inl rfl))) aS)
   (au (@aX _ _ 8 _ _ _ _ dN.nd rfl (Or.inl rfl) (dz (cp (show eA _ _ (yG K true) from dF) ak (bY (N:=["_law_place","_law_row"]) (nl:=1) (js:=[7]) (osc:=ar jy) ⟨rfl,rfl,by decide +kernel,by decide +kernel,by decide +kernel,rfl,(.cons ⟨rfl,by decide +kernel⟩ .nil),by decide +kernel⟩ rfl
    (dB (pv 1))
    (λCq fq sq Hq=>aD (i:=0) (by show(["_law_place","_law_row"]:EG).Nodup;decide +kernel) rfl (Or.inl rfl) (Or.inr rfl))
    (λCq fq sq Hq=>c6)
    (λCq fq sq Hq=>(aY (rY (K:=K) rfl) (pv 1) (pv 0) (λ_ _=>rfl)))) (by rfl)) (eM (cp (show eA _ _ (yG K true) from dF) ak (bY (N:=["_law_place","_law_row"]) (nl:=1) (js:=[7]) (osc:=ar jy) ⟨rfl,rfl,by decide +kernel,by decide +kernel,by decide +kernel,rfl,(.cons ⟨rfl,by decide +kernel⟩ .nil),by decide +kernel⟩ rfl
    (dB (pv 2))
    (λCq fq sq Hq=>aD (i:=0) (by show(["_law_place","_law_row"]:EG).Nodup;decide +kernel) rfl (Or.inl rfl) (Or.inr rfl))
    (λCq fq sq Hq=>c6)
    (λCq fq sq Hq=>(aY (rY (K:=K) rfl) (pv 1) (pv 0) (λ_ _=>rfl)))) (by rfl)))) rfl (Or.inl rfl))
   (ax (bF (aN (ng Jm) (fJ (pv 3) c.c.cl Vt Vr KC Vs .nil ao (aj (bt di (by rfl) Fu (by rfl) (aj (pv 7) ag rfl)) ag rfl)) (aJ (aj (bt gy (by rfl) F6 (by rfl) (aj (pv 8) ag rfl)) (aj ak ag rfl) rfl)) (aU _)) (ax (aF eB)) aS))))))
   (ax (aF eB))))))),?_⟩
  have nd:=fR hb.mu;refine⟨_,rfl,_,rfl,hJ,λa1 Gu=>?_⟩;have v1:=aq (o:=.tup [.ref ah,.ref al]) Gu;have f1:upd H a1 (.tup [.ref ah,.ref al]) a1=some (.tup [.ref ah,.ref al]):=ai;generalize upd H a1 _=H1 at v1 f1 |-;refine⟨a1,ah,al,ks,ms,rfl,f1,v1 _ _ GS,v1 _ _ GH,hb,λH2 so v2 So=>?_⟩;have RE:=v1.trans v2;refine⟨_,rfl,hJ,λb1 Jb=>?_⟩;have w1:=aq (o:=.tup [.int 1,.int 1]) Jb;have g1:upd H2 b1 (.tup [.int 1,.int 1]) b1=some (.tup [.int 1,.int 1]):=ai;generalize upd H2 b1 _=Ha at w1 g1 |-;refine⟨hJ,λb2 KG=>?_⟩;have w2:=aq (o:=.tup [.ref ah,.ref b1]) KG;have g2:upd Ha b2 (.tup [.ref ah,.ref b1]) b2=some (.tup [.ref ah,.ref b1]):=ai;generalize upd Ha b2 _=Hb at w2 g2 |-;refine⟨A3,λL hL=>?_⟩;have w3:=aq (o:=.lst [.ref b2]) hL;have g3:upd Hb L (.lst [.ref b2]) L=some (.lst [.ref b2]):=ai;generalize upd Hb L _=Hc at w3 g3 |-;have OH:=w2.trans w3;have OI:=w1.trans OH;have V:=RE.trans OI;have t3:bp Hc [.ref b2] [(ks,(1,1))]:=.cons ⟨b2,ah,b1,rfl,w3 _ _ g2,V _ _ GS,OH _ _ g1⟩ .nil;have So:=So.same OI;have GS:=V _ _ GS;have GH:=V _ _ GH;have Rm:=(show a7 Hc r from let⟨l,x,e,z⟩:=Rm;⟨l,x,V _ _ e,z⟩);have q:∀H',a7 H' r->SameBut r Hc H'->Q (.bl true) H':=λH' R S=>q H' R ((SameBut.of V).trans S);clear V w1 w2 w3 OH OI v1 v2 RE f1 g1 g2 Gu Jb KG hL;refine⟨_,rfl,al,rfl,⟨_,aV.of GH⟩,?_⟩;refine ur (K:=K) (a:=al) (xs:=ms.map V.int) (λi σ H'=>aC Hc H'/\∃L ys o5 o6 o7 o8,H' L=some (.lst ys)/\bp H' ys (jh [(ks,(1,1))] (ms.take i))/\σ=[some (.ref r),some (.ref ah),some (.ref al),some (.ref so),some (.ref L),o5,o6,o7,o8]) ⟨aC.refl _,L,_,_,_,_,_,g3,t3,rfl⟩ (λj σ H' _ h=>aV.of (h.1 _ _ GH)) ?_ ?_
  ·rintro i y σ H4 hy ⟨s4,L4,ys,o5,o6,o7,o8,G6,Gv,rfl⟩;rw[YU] at hy;obtain⟨k,ek,rfl⟩:=YH.mp hy;have hi:i<ms.length:=ma ek;have du:=wb hb i (Zi hi);rw[<-xy hb i] at du;have Vu:2^i<=16:=Yq (ZG (by decide) (show i<=4 by have:=hb.ml;omega)) (by decide)
   have F5:ms.take (i+1)=ms.take i++[k]:=by rw[YE,ek];rfl
   rw[F5,lK];generalize jh [(ks,(1,1))] (ms.take i)=us at Gv du |-;obtain⟨gt,gl⟩:=CG (k:=k) du Vu;dsimp only[bw,lr];refine⟨_,rfl,Yt _,λd1 Vv=>?_⟩;have w1:=aq (o:=.tup []) Vv;have g1:upd H4 d1 (.tup []) d1=some (.tup []):=ai;generalize upd H4 d1 _=Hd at w1 g1 |-;refine⟨hJ,λd2 hd2=>?_⟩;have w2:=aq (o:=.tup [.int 1,.int 1]) hd2;have g2:upd Hd d2 (.tup [.int 1,.int 1]) d2=some (.tup [.int 1,.int 1]):=ai;generalize upd Hd d2 _=He at w2 g2 |-;refine⟨hJ,λd3 OJ=>?_⟩;have w3:=aq (o:=.tup [.ref d1,.ref d2]) OJ;have g3:upd He d3 (.tup [.ref d1,.ref d2]) d3=some (.tup [.ref d1,.ref d2]):=ai;generalize upd He d3 _=Hf at w3 g3 |-;refine⟨_,rfl,A3,λd4 Vw=>?_⟩;have w4:=aq (o:=.tup [.int k]) Vw;have g4:upd Hf d4 (.tup [.int k]) d4=some (.tup [.int k]):=ai;generalize upd Hf d4 _=Hg at w4 g4 |-;refine⟨_,rfl,hJ,λd5 Vx=>?_⟩;have w5:=aq (o:=.tup [.int (-1),.int 1]) Vx;have g5:upd Hg d5 (.tup [.int (-1),.int 1]) d5=some (.tup [.int (-1),.int 1]):=ai;generalize upd Hg d5 _=Hh at w5 g5 |-;refine⟨hJ,λd6 Vy=>?_⟩;have w6:=aq (o:=.tup [.ref d4,.ref d5]) Vy;have g6:upd Hh d6 (.tup [.ref d4,.ref d5]) d6=some (.tup [.ref d4,.ref d5]):=ai;generalize upd Hh d6 _=Hi at w6 g6 |-;refine⟨hJ,λd7 Vz=>?_⟩;have w7:=aq (o:=.lst [.ref d3,.ref d6]) Vz;have g7:upd Hi d7 (.lst [.ref d3,.ref d6]) d7=some (.lst [.ref d3,.ref d6]):=ai;generalize upd Hi d7 _=Hj at w7 g7 |-;have RF:=w6.trans w7;have RG:=w5.trans RF;have RH:=w4.trans RG;have RI:=w3.trans RH;have RJ:=w2.trans RI;have OK:=w1.trans RJ;have tl:bp Hj [.ref d3,.ref d6] (fM k):=.cons ⟨d3,d1,d2,rfl,RH _ _ g3,RJ _ _ g1,RI _ _ g2⟩ (.cons ⟨d6,d4,d5,rfl,w7 _ _ g6,RG _ _ g4,RF _ _ g5⟩ .nil);refine⟨0,L4,d7,ys,_,us,fM k,rfl,.inl rfl,OK _ _ G6,bp.keep Gv (aI.of OK),g7,tl,?_,du.gn,zf k,gt,λHk D zs v8 hD VA=>⟨s4.trans (OK.trans v8),D,zs,_,_,_,_,hD,VA,rfl⟩⟩;show us.length*2<4000;have:=du.len;omega
  ·rintro σ H4 ⟨s4,L4,ys,o5,o6,o7,o8,G6,Gv,rfl⟩;rw[Yg,Yv] at Gv;have Nl:=xy hb ms.length;have du:=wb hb ms.length (Ye _);rw[<-Nl] at du;rw[Yv] at Nl du
   have VB:tg 0 (jh [(ks,(1,1))] ms)=tg 0 (gu [(ks,(1,1))] ms):=by
    rw[Nl];exact AC (.inl rfl) (wy nd hb.bk)
   have X2:2^ms.length<=32:=Yq (ZG (by decide) hb.ml) (by decide);have RK:zE 0 (jh [(ks,(1,1))] ms):=zE.of (m:=7) (.inl rfl) (by have:=du.len;omega) (λt ht=>(du.cd t ht).gn (.inl rfl) (by decide) (by decide) (by unfold B;decide) (by unfold B;decide)) (by have:=du.len;omega) (by decide);have So:=So.same s4;obtain⟨dx,fl,FK,Dt,zt,c1,c2,c3,c4⟩:=id So.ex;have fin:∀H5,aC H4 H5->True:=λ_ _=>trivial;dsimp only[rE,yX];refine⟨_,rfl,.ref so,.ref C,_,_,_,rfl,rfl,c.ty c1,c.is,_,rfl,b7 ?_⟩;refine⟨_,rfl,so,dx,_,rfl,c1,rfl,so,dx,fl,Dt,rfl,c1,fl,FK,_,rfl,c2,rfl,fl,FK,0,rfl,c2,rfl,_,rfl,b7 ?_⟩;refine⟨_,rfl,so,dx,_,rfl,c1,rfl,so,dx,fl,Dt,zt,rfl,c1,c3,λl5 VC=>?_⟩;have w5:=aq (o:=.lst zt) VC;have g5:upd H4 l5 (.lst zt) l5=some (.lst zt):=ai;generalize upd H4 l5 _=H5 at w5 g5 |-;refine⟨_,rfl,L4,0,ys,_,rfl,.inl rfl,w5 _ _ G6,bp.keep Gv (aI.of w5),RK,λH6 D6 z6 w6 h6 t6=>?_⟩;have Nn:=w5.trans w6;have t6:bp H6 z6 (tg 0 (jh [(ks,(1,1))] ms)):=t6;rw[VB] at t6;refine⟨lE (tg 0 (gu [(ks,(1,1))] ms)),lE (tg 0 (gu [(ks,(1,1))] ms)),pB (w6 _ _ g5) (bp.keep c4 (aI.of Nn)),pB h6 t6,zV _,_,rfl,?_⟩;rw[eO];refine b7 ?_;have s6:=s4.trans Nn;have So:=So.same Nn;have Rm:=(show a7 H6 r from let⟨l,x,e,z⟩:=Rm;⟨l,x,s6 _ _ e,z⟩);have GS:=s6 _ _ GS;have GH:=s6 _ _ GH;have q:∀H',a7 H' r->SameBut r H6 H'->Q (.bl true) H':=λH' R S=>q H' R ((SameBut.of s6).trans S);clear Nn w5 w6 g5 h6 t6 c1 c2 c3 c4 Gv G6 s4 s6 RK du Nl fin;dsimp only[uL]
   have nh:∀{H':Hp}{b:Addr}{xs:List V},H' b=some (.tup xs)->a7 H' r->b≠r:=λe R z=>by
    obtain⟨l,x,e2,_⟩:=R;rw[z,e2] at e
    cases e
   have nk:=nh GS Rm;have nm:=nh GH Rm
   have TO:DF 0 7 (tg 0 (gu [(ks,(1,1))] ms))/\fh (tg 0 (gu [(ks,(1,1))] ms))<=8:=by
    have du:=wb hb ms.length (Ye _);rw[Yv] at du;have dl:=du.len;refine⟨⟨by omega,λt ht=>⟨(du.cd t ht).gn (.inl rfl) (by decide) (by decide) (by unfold B;decide) (by unfold B;decide),du.up t ht,λk hk=>(du.pl t ht k hk).1,?_⟩,by omega,by decide⟩,vY (by decide) λt ht k hk=>by have:=du.pl t ht k hk;omega⟩;have tl:=kA (l:=t.1) (lo:=0) (by decide) (du.up t ht) (du.pl t ht);omega
   refine⟨4,rfl,by decide,by decide,?_⟩;refine lN (lo:=0) (λi σ H'=>a7 H' r/\SameBut r H6 H'/\∃o5 o6 o7 o8,σ=[some (.ref r),some (.ref ah),some (.ref al),some (.ref so),some (.ref L4),o5,o6,o7,o8]) ⟨Rm,.of (aC.refl _),_,_,_,_,rfl⟩ ?_ ?_
   ·rintro i σ H7 hi ⟨R7,k7,p5,p6,p7,p8,rfl⟩;refine⟨_,rfl,r,8,rfl,R7,by decide,by decide,λaf bs H8 RL hlen VD R8 k8=>?_⟩;refine⟨af,_,rfl,.inr (aV.of VD),λl9 VE=>?_⟩;have w9:=aq (o:=.lst (bs.map V.int)) VE;have g9:upd H8 l9 (.lst (bs.map V.int)) l9=some (.lst (bs.map V.int)):=ai;generalize upd H8 l9 _=H9 at w9 g9 |-;have k9:=k7.trans (k8.trans (.of w9));have R9:a7 H9 r:=let⟨l,x,e,z⟩:=R8;⟨l,x,w9 _ _ e,z⟩;dsimp only[bw,rE]
    have rl:∀{H':Hp}{l:Addr}{cs:List Int},H' l=some (.lst (cs.map V.int))->cs.length=8->a7 H' r->l≠r:=λe hc R z=>by
     obtain⟨a,x,e2,_⟩:=R;rw[z,e2] at e;have e3:=Ze List.length (HO.lst.inj (Option.some.inj e));rw[Yg,hc] at e3;have e3:(2:Nat)=8:=e3;omega
    refine E6 (λσ H'=>a7 H' r/\SameBut r H6 H'/\∃(L:Addr)(cs:List Int),H' L=some (.lst (cs.map V.int))/\cs.length=8/\(∀b∈cs,0<=b/\b<=1)/\σ=[some (.ref r),some (.ref ah),some (.ref al),some (.ref so),some (.ref L4),p5,some (.int (0+i)),some (.ref L),p8]) (λD' fin=>?_) ?_
    ·have h0:=fin [some (.ref r),some (.ref ah),some (.ref al),some (.ref so),some (.ref L4),p5,some (.int (0+i)),some (.ref l9),p8] H9 ⟨R9,k9,l9,bs,g9,by omega,RL,rfl⟩;dsimp only[yX];refine⟨_,rfl,_,_,rfl,rfl,_,rfl,cG (λh=>?_) (λh=>h0)⟩;have OL:=k9 _ _ GS nk;have OM:=k9 _ _ GH nm;dsimp only[lr,bw];refine⟨8,rfl,by decide,by decide,?_⟩;refine pf (lo:=0) (n:=(8:Int).toNat) (rest:=[some (.ref ah),some (.ref al),some (.ref l9)]) (λj us H'=>aC H9 H'/\∃cs:List Int,us=cs.map V.int/\cs.length=j/\∀b∈cs,0<=b/\b<=1) ⟨aC.refl _,[],rfl,rfl,λb hb=>nomatch hb⟩ (λj us H' hj h=>?_) (λj us H' N hj h kk=>?_) (λus H' h=>?_)
     ·obtain⟨_,cs,rfl,hc,_⟩:=h;rw[Yg,hc];exact Yo hj (by decide)
     ·obtain⟨sj,cs,rfl,hc,JP⟩:=h;have X3:j<8:=hj
      have bj:=xk RL (0+(j:Int)).toNat
      refine xG ⟨_,rfl,_,rfl,l9,_,_,_,rfl,rfl,bo.of (sj _ _ g9),rf (by omega) (by omega),E3,λL3 KO=>?_⟩;have w3:=aq (o:=.lst [.int (bs.getD (0+(j:Int)).toNat 0),.int 1,.int 0]) KO;have Np:upd H' L3 (.lst [.int (bs.getD (0+(j:Int)).toNat 0),.int 1,.int 0]) L3=some (.lst [.int (bs.getD (0+(j:Int)).toNat 0),.int 1,.int 0]):=ai;generalize upd H' L3 _=Hx at w3 Np |-;have sx:=sj.trans w3;refine⟨_,rfl,_,rfl,ah,_,rfl,.inr (aV.of (sx _ _ OL)),rfl,da ks,.inr ⟨_,rfl,?_⟩⟩;refine⟨_,rfl,_,rfl,al,_,rfl,.inr (aV.of (sx _ _ OM)),rfl,da ms,.inr ⟨_,rfl,?_⟩⟩;rw[show(if false=true then !fQ (V.int (0+(j:Int))) (ks.map V.int) else fQ (V.int (0+(j:Int))) (ks.map V.int))=decide (0+(j:Int)∈ks) from dH _ _,show(if false=true then !fQ (V.int (0+(j:Int))) (ms.map V.int) else fQ (V.int (0+(j:Int))) (ms.map V.int))=decide (0+(j:Int)∈ms) from dH _ _]
      have step:∀b:Int,0<=b/\b<=1->N (cs.map V.int++[.int b]) Hx:=λb FZ=>kk _ _ ⟨sx,cs++[b],by simp,by simp[hc],λx hx=>by
       rcases YI.mp hx with hx|hx
       ·exact JP x hx
       ·rw[Zm.mp hx];exact FZ⟩
      have bB:∀x:Int,0<=x/\x<=2->B 9000 x:=λx hx=>(show B 2 x by unfold B;omega).mono (by decide)
      by_cases m1:0+(j:Int)∈ks
      ·have m2:0+(j:Int)∉ms:=λz=>hb.ap _ z m1;rw[YD m1,Yu m2];exact⟨2,0,rfl,rfl,⟨bB 2 (by decide),bB 0 (by decide)⟩,1,0,rfl,rfl,L3,_,1,.int 1,rfl,rfl,bo.of Np,rfl,step 1 (by decide)⟩
      ·rw[Yu m1]
       by_cases m2:0+(j:Int)∈ms
       ·rw[YD m2];exact⟨2,1,rfl,rfl,⟨bB 2 (by decide),bB 1 (by decide)⟩,0,2,rfl,rfl,L3,_,2,.int 0,rfl,rfl,bo.of Np,rfl,step 0 (by decide)⟩
       ·rw[Yu m2];exact⟨2,0,rfl,rfl,⟨bB 2 (by decide),bB 0 (by decide)⟩,0,0,rfl,rfl,L3,_,0,_,rfl,rfl,bo.of Np,rfl,step _ bj⟩
     ·obtain⟨sj,cs,rfl,hc,JP⟩:=h;intro Lr VF;have sr:=sj.trans (aq (o:=.lst (cs.map V.int)) VF);have gr:upd H' Lr (.lst (cs.map V.int)) Lr=some (.lst (cs.map V.int)):=ai;generalize upd H' Lr _=Hx at sr gr |-;exact fin _ _ ⟨(let⟨l,x,e,z⟩:=R9;⟨l,x,sr _ _ e,z⟩),k9.trans (.of sr),Lr,cs,gr,hc,JP,rfl⟩
    ·rintro σ Ha ⟨Ra,ka,L,cs,hL,Ov,JP,rfl⟩;have ON:=ka _ _ GS nk;have OO:=ka _ _ GH nm
     have RM:∀{ns:List Int},(∀k∈ns,0<=k/\k<7)->∀k∈ns,0<=k/\k<(cs.length:Int):=λh k hk=>by have:=h k hk;omega
     dsimp only[rE];refine E6 (λσ H'=>aC Ha H'/\σ=[some (.ref r),some (.ref ah),some (.ref al),some (.ref so),some (.ref L4),p5,some (.int (0+i)),some (.ref L),some (.bl (fL cs ks ms))]) (λD' fin=>?_) ?_
     ·dsimp only[lr,AL,kn,tC,bw];refine lM (i:=1) (σ:=[some (.ref r),some (.ref ah),some (.ref al),some (.ref so),some (.ref L4),p5,some (.int (0+i)),some (.ref L),p8]) rfl rfl ON hL hb.kl (RM hb.kp) λHb Lb sb gb=>?_;refine⟨Lb,_,rfl,.inl (bo.of gb),rfl,da _,_,rfl,?_⟩;have eg:=zW (ks:=ks) (ms:=ms) JP
      show if(!fQ (.int 0) ((ks.map λk=>cs.getD k.toNat 0).map V.int))=true then _ else _
      refine cG (λh=>?_) (λh=>?_)
      ·rw[h,Zr] at eg;refine lM (i:=2) (σ:=[some (.ref r),some (.ref ah),some (.ref al),some (.ref so),some (.ref L4),p5,some (.int (0+i)),some (.ref L),p8]) rfl rfl (sb _ _ OO) (sb _ _ hL) hb.ml (RM hb.mp) λHd Ld sd gd=>?_;refine⟨Ld,_,rfl,.inl (bo.of gd),rfl,da _,?_⟩;refine fin _ _ ⟨sb.trans sd,?_⟩;rw[<-eg];rfl
      ·have h':(!fQ (.int 0) ((ks.map λk=>cs.getD k.toNat 0).map V.int))=false:=by simpa using h
       rw[h',ZF] at eg;refine fin _ _ ⟨sb,?_⟩;rw[<-eg];rfl
     ·rintro σ Hb ⟨sb,rfl⟩;have RN:=(So.room Rm ka).same sb;obtain⟨dx,fl,FK,Dt,zt,c1,c2,c3,c4⟩:=id RN.ex;dsimp only[yX];refine⟨_,rfl,so,dx,_,rfl,c1,rfl,_,rfl,L,_,rfl,.inl ⟨bo.of (sb _ _ hL),λlt Fy=>?_⟩⟩;have w1:=aq (o:=.tup (cs.map V.int)) Fy;have e1:upd Hb lt (.tup (cs.map V.int)) lt=some (.tup (cs.map V.int)):=ai;dsimp only[Bz];generalize upd Hb lt _=Hd at w1 e1 |-;refine⟨so,lt,0,_,7,cs,rfl,RN.same w1,.inl rfl,TO.1,e1,⟨by omega,JP,by have:=TO.2;omega⟩,λHe ae we ee=>?_⟩;refine⟨_,rfl,.inr ⟨_,rfl,hJ,λa9 VG=>?_⟩⟩;have OP:=aq (o:=.tup [.int (if fL cs ks ms=true then 1 else 0),.int 1]) VG;have e9:upd He a9 (.tup [.int (if fL cs ks ms=true then 1 else 0),.int 1]) a9=some (.tup [.int (if fL cs ks ms=true then 1 else 0),.int 1]):=ai;generalize upd He a9 _=Hf at OP e9 |-
      have ew:bZ 0 cs (tg 0 (gu [(ks,(1,1))] ms))=((if fL cs ks ms=true then 1 else 0),1):=by
       rw[xn nd hb.bk]
       cases fL cs ks ms <;> rfl
      have W:=sb.trans (w1.trans (we.trans OP));refine yO (w:=bZ 0 cs (tg 0 (gu [(ks,(1,1))] ms))) (OP _ _ ee) ?_ ⟨false,rfl,b7 ?_⟩
      ·rw[ew];exact e9
      ·exact⟨(let⟨l,x,e,z⟩:=Ra;⟨l,x,W _ _ e,z⟩),ka.trans (.of W),_,_,_,_,rfl⟩
   ·rintro σ H7 ⟨R7,k7,p5,p6,p7,p8,rfl⟩;exact q H7 R7 k7
end K44
namespace L2
open PySem PySem.Spec PyProof.Rows PySem.W
mutual
noncomputable def jq (K:Frag)(H:Hp):PyData->V->Prop
 | .none,v=>v=.non
 | .bool b,v=>v=.bl b
 | .int i,v=>v=.int i
 | .str x,v=>v=.str x
 | .list ds,v=>∃a xs,v=.ref a/\bo K H a xs/\j4 K H ds xs
 | .tuple ds,v=>∃a xs,v=.ref a/\aV K H a xs/\j4 K H ds xs
 | .dict Ft,v=>Ft=[]/\∃a,v=.ref a/\Rd H a (.dK [])
noncomputable def j4 (K:Frag)(H:Hp):List PyData->List V->Prop
 |[],xs=>xs=[]
 |d::ds,xs=>∃y ys,xs=y::ys/\jq K H d y/\j4 K H ds ys
end
noncomputable def pA (K:Frag):Prop:=∃o,K.lookup sysModules=some o/\o.cls=.type "dict"
section
variable {X:Cx}{pins:List (Addr×Obj)}{σ:St}{H:Hp}{s:Ci}
theorem y6 (I:Inv X pins σ H s)(hS:pA X.K){a:Addr}{o:Obj}(e:s.heap.get? a=some o){T:String}(hc:o.cls=.type T)(hT:T ≠ "dict"):a≠sysModules:=by
 rintro rfl;obtain⟨o',l,c⟩:=hS;have e':=I.kIn _ _ l;rw[e] at e'
 cases e'
 rw[hc] at c
 injection c with c
 exact hT c
mutual
theorem oH (I:Inv X pins σ H s)(hS:pA X.K):∀(d:PyData)(v:V)(u:Value),jq X.K H d v->aG v u->∃as,Reads s.heap u d as/\sysModules∉as
 | .none,v,u,h,r=>by
   unfold jq at h;subst h
   cases(show u=Value.none from r)
   exact⟨_,.none,by simp⟩
 | .bool b,v,u,h,r=>by
   unfold jq at h;subst h
   cases(show u=Value.bool b from r)
   exact⟨_,.bool b,by simp⟩
 | .int i,v,u,h,r=>by
   unfold jq at h;subst h;obtain⟨t,rfl⟩:=(show ∃t,u=Value.int i t from r);exact⟨_,.int i t,by simp⟩
 | .str x,v,u,h,r=>by
   unfold jq at h;subst h;obtain⟨t,rfl⟩:=(show ∃t,u=Value.str x t from r);exact⟨_,.str x t,by simp⟩
 | .list ds,v,u,h,r=>by
   unfold jq at h;obtain⟨a,xs,rfl,hl,hd⟩:=h
   cases(show u=Value.ref a from r)
   obtain⟨its,rv,⟨o,n,e,hc,_,KQ⟩,_⟩:=I.list hl;obtain⟨as,ra,na⟩:=f9 I hS ds xs its hd rv
   exact⟨_,.list e hc KQ (by simpa using ra),by
    have:=y6 I hS e hc (by decide);simp only[Yn,uG]
    exact⟨YM this,na⟩⟩
 | .tuple ds,v,u,h,r=>by
   unfold jq at h;obtain⟨a,xs,rfl,hl,hd⟩:=h
   cases(show u=Value.ref a from r)
   obtain⟨its,rv,⟨o,e,hc,n,KQ⟩,_⟩:=I.tuple hl;obtain⟨as,ra,na⟩:=f9 I hS ds xs its hd rv;exact⟨_,.tuple e hc KQ (by simpa using ra),na⟩
 | .dict Ft,v,u,h,r=>by
   unfold jq at h;obtain⟨rfl,a,rfl,hl⟩:=h
   cases(show u=Value.ref a from r)
   obtain⟨_,F2,vs,kv,⟨o,es,ep,e,hx,KQ,_,pr,_⟩⟩:=jK I.hok hl
   have hv:vs=[]:=by cases kv;rfl
   subst hv
   have RO:es.toList=[]:=by
    cases hq:es.toList with
    |nil=>rfl
    |cons x l=>rw[hq] at pr;cases pr
   refine⟨[a]++[]++[],.dict e hx.1 KQ (by rw[RO];exact .nil) (by rw[RO];exact .nil),?_⟩;simp only[Zc,Zm];intro q;rw[q] at F2;simp at F2
theorem f9 (I:Inv X pins σ H s)(hS:pA X.K):∀(ds:List PyData)(vs:List V)(us:m8),j4 X.K H ds vs->aR vs us->∃as,ReadsAll s.heap us ds as/\sysModules∉as
 |[],vs,us,h,r=>by
  unfold j4 at h;subst h
  cases r
  exact⟨_,.nil,by simp⟩
 |d::ds,vs,us,h,r=>by
  unfold j4 at h;obtain⟨y,ys,rfl,h1,h2⟩:=h
  cases r with
  |cons r1 r2 =>
   obtain⟨as,ra,na⟩:=oH I hS d y _ h1 r1;obtain⟨bs,rb,nb⟩:=f9 I hS ds ys _ h2 r2;exact⟨_,.cons ra rb,by simp only[YI,uG];exact⟨na,nb⟩⟩
end
variable {k:Nat}
theorem rH (hr:xh k X.A)(hS:pA X.K):cT X (.builtin "repr") (λxs H Q=>∃a d,xs=[.ref a]/\jq X.K H d (.ref a)/\d.showable=true/\d.depth<=60/\d.shown.length<=sizeLine/\Q (.str d.shown) H):=by
 intro pins s σ H vs us Q I r h;obtain⟨a,d,rfl,hd,hs,Nq,hz,q⟩:=h;obtain⟨u,rfl,ru⟩:=dj r
 cases(show u=Value.ref a from ru)
 obtain⟨as,ra,na⟩:=oH I hS d _ _ hd (show aG (.ref a) (Value.ref a) from rfl);refine repr_of_reads' ra hs (λ_=>na) hr.gd (by have:=hr.units;omega) (λ_ _ e=>e) (λh' u tk hk=>?_) hz;exact⟨.str d.shown,H,I.kept (t':=tk) hk,⟨u,rfl⟩,q⟩
end
mutual
noncomputable def wt:PyData->Nat
 | .none=>4
 | .bool _=>5
 | .int _=>1921
 | .str x=>(reprText x).length
 | .list xs=>vT xs+2
 | .tuple xs=>vT xs+3
 | .dict _=>2
noncomputable def vT:List PyData->Nat
 |[]=>0
 |x::xs=>wt x+2+vT xs
end
theorem i8:∀(ts:EG)(k:Nat)(acc:Str),(textFrom k acc ts).length<=acc.length+(ts.map λt=>t.length+2).sum
 |[],k,acc=>by simp[textFrom]
 |t::ts,k,acc=>by
  unfold textFrom;have h:=i8 ts (k+1) (acc++(if k>0 then ", " else "":String)++t)
  have e:(acc++((if k>0 then ", " else "":String):Str)++t).length<=acc.length+2+t.length:=by
   rw[Z2,Z2]
   have:(((if k>0 then ", " else "":String):Str)).length<=2:=by
    split
    ·decide
    ·decide
   omega
  simp only[YF,List.sum_cons];omega
theorem tG:∀(ts:EG),(Str.join ", " ts).length<=(ts.map λt=>t.length+2).sum
 |[]=>by
  show(Str.empty).length<=_;simp[Str.empty,Str.length]
 |[t]=>by
  show t.length<=_;simp
 |t::u::ts=>by
  show(t++(", ":String)++Str.join ", " (u::ts)).length<=_;rw[Z2,Z2];have h:=tG (u::ts)
  have e:(((", ":String):Str)).length=2:=by decide
  simp only[YF,List.sum_cons] at h |-;omega
mutual
theorem pI:∀(d:PyData)(K:Frag)(H:Hp)(v:V),jq K H d v->d.showable=true->d.shown.length<=wt d
 | .none,_,_,_,_,_=>by unfold PyData.shown wt;decide
 | .bool b,_,_,_,_,_=>by unfold PyData.shown wt;cases b <;> decide
 | .int i,_,_,_,_,h=>by
   unfold PyData.showable at h;unfold PyData.shown wt;exact int_text_len_1921 (Zg h)
 | .str x,_,_,_,_,_=>by unfold PyData.shown wt;exact Ye _
 | .list xs,K,H,v,r,h=>by
   unfold jq at r;obtain⟨a,vs,_,_,r⟩:=r;unfold PyData.showable at h;unfold PyData.shown wt listText;have e:=i8 (PyData.shownAll xs) 0 (("[":String):Str);have f:=fX xs K H vs r h;rw[Z2]
   have l1:((("[":String):Str)).length=1:=by decide
   have l2:((("]":String):Str)).length=1:=by decide
   omega
 | .tuple xs,K,H,v,r,h=>by
   unfold jq at r;obtain⟨a,vs,_,_,r⟩:=r;unfold PyData.showable at h;unfold PyData.shown wt tupleText;have e:=tG (PyData.shownAll xs);have f:=fX xs K H vs r h;rw[Z2,Z2]
   have l1:((("(":String):Str)).length=1:=by decide
   have l2:((((if(PyData.shownAll xs).length==1 then ",)" else ")":String)):Str)).length<=2:=by
    split
    ·decide
    ·decide
   omega
 | .dict Ft,K,H,v,r,h=>by
   unfold jq at r;obtain⟨rfl,_⟩:=r;unfold PyData.shown wt;decide
theorem fX:∀(ds:List PyData)(K:Frag)(H:Hp)(vs:List V),j4 K H ds vs->PyData.showableAll ds=true->((PyData.shownAll ds).map λt=>t.length+2).sum<=vT ds
 |[],_,_,_,_,_=>by unfold PyData.shownAll vT;simp
 |d::ds,K,H,vs,r,h=>by
  unfold j4 at r;obtain⟨y,ys,_,r1,r2⟩:=r;unfold PyData.showableAll at h;rw[Yy] at h;unfold PyData.shownAll vT;have a:=pI d K H y r1 h.1;have b:=fX ds K H ys r2 h.2;simp only[YF,List.sum_cons];omega
end
theorem rL {X:Cx}(hr:xh k X.A)(hS:pA X.K):cT X (.builtin "repr") (λxs H Q=>∃a d,xs=[.ref a]/\jq X.K H d (.ref a)/\d.showable=true/\d.depth<=60/\wt d<=16777216/\Q (.str d.shown) H):=by
 intro pins s σ H vs us Q I r h;obtain⟨a,d,e,hd,hs,Nq,hz,q⟩:=h;exact rH hr hS pins s σ H vs us Q I r ⟨a,d,e,hd,hs,Nq,by rw[ZX];exact Yq (pI d _ _ _ hd hs) hz,q⟩
noncomputable def El (K:Frag)(H:Hp)(x:V)(z:Str):Prop:=(x=.non/\z="None")\/(∃y:Str,x=.str y/\(reprText y).length<=sizeLine/\z=reprText y)\/∃a d,x=.ref a/\jq K H d (.ref a)/\d.showable=true/\d.depth<=60/\wt d<=16777216/\z=d.shown
theorem jw {X:Cx}(hr:xh k X.A)(hS:pA X.K):cT X (.builtin "repr") (λxs H Q=>∃x z,xs=[x]/\El X.K H x z/\Q (.str z) H):=by
 intro pins s σ H vs us Q I r h;obtain⟨x,z,rfl,hx,q⟩:=h
 rcases hx with⟨rfl,rfl⟩|⟨y,rfl,hz,rfl⟩|⟨a,d,rfl,hd,hs,Nq,hz,rfl⟩
 ·obtain⟨u,rfl,ru⟩:=dj r
  cases(show u=Value.none from ru)
  exact PySem.P.repr_of_none ⟨.str "None",H,I.kept (t':=s.toks+1) (λb o e=>e),⟨_,rfl⟩,q⟩
 ·obtain⟨u,rfl,ru⟩:=dj r;obtain⟨t,rfl⟩:=ru;exact PySem.P.repr_of_str ⟨.str (reprText y),H,I.kept (t':=s.toks+1) (λb o e=>e),⟨_,rfl⟩,q⟩ hz
 ·exact rL hr hS pins s σ H _ us Q I r ⟨a,d,rfl,hd,hs,Nq,hz,q⟩
end L2
namespace K44
open PySem L2 PySem.W Nm Srt
mutual
noncomputable def Dt (F:Addr->Prop)(H:Hp):PyData->V->Prop
 | .none,v=>v=.non
 | .bool b,v=>v=.bl b
 | .int i,v=>v=.int i
 | .str x,v=>v=.str x
 | .list ds,v=>∃a xs,v=.ref a/\F a/\H a=some (.lst xs)/\cJ F H ds xs
 | .tuple ds,v=>∃a xs,v=.ref a/\H a=some (.tup xs)/\cJ F H ds xs
 | .dict Ft,v=>Ft=[]/\∃a,v=.ref a/\H a=some (.dK [])
noncomputable def cJ (F:Addr->Prop)(H:Hp):List PyData->List V->Prop
 |[],xs=>xs=[]
 |d::ds,xs=>∃y ys,xs=y::ys/\Dt F H d y/\cJ F H ds ys
end
noncomputable def bc (F:Addr->Prop)(H H':Hp):Prop:=∀b o,H b=some o->(∀l,o=.lst l->F b)->H' b=some o
variable {H H':Hp}
theorem bc.of {F:Addr->Prop}(s:aC H H'):bc F H H':=λb o e _=>s b o e
variable {r:Addr}
theorem bc.but (R:a7 H r)(s:SameBut r H H'):bc (·≠r) H H':=λb o e k=>s b o e λz=>by
 obtain⟨l,x,h,_⟩:=R;rw[z,h] at e;exact k _ (Option.some.inj e).symm z
theorem bc.trans {F:Addr->Prop}{H1 H2:Hp}(a:bc F H H1)(b:bc F H1 H2):bc F H H2:=λc o e k=>b c o (a c o e k) k
variable {a:Addr}{xs:List V}
theorem bc.put {F:Addr->Prop}{ys:List V}(e:H a=some (.lst xs))(n:¬F a):bc F H (upd H a (.lst ys)):=λb o h k=>by
 by_cases z:b=a
 ·subst z;rw[e] at h;exact absurd (k _ (Option.some.inj h).symm) n
 ·rw[aA z];exact h
theorem bc.tup {F:Addr->Prop}(k:bc F H H'):aI H H':=λb xs e=>k b _ e λl z=>by cases z
theorem bc.lst {F:Addr->Prop}(k:bc F H H')(n:F a)(e:H a=some (.lst xs)):H' a=some (.lst xs):=k a _ e λ_ _=>n
mutual
theorem Dt.keep {F:Addr->Prop}(k:bc F H H'):∀(d:PyData)(v:V),Dt F H d v->Dt F H' d v
 | .none,v,h=>by unfold Dt at h |-;exact h
 | .bool b,v,h=>by unfold Dt at h |-;exact h
 | .int i,v,h=>by unfold Dt at h |-;exact h
 | .str x,v,h=>by unfold Dt at h |-;exact h
 | .list ds,v,h=>by
   unfold Dt at h |-;obtain⟨a,xs,e,n,ha,hd⟩:=h;exact⟨a,xs,e,n,k.lst n ha,cJ.keep k ds xs hd⟩
 | .tuple ds,v,h=>by
   unfold Dt at h |-;obtain⟨a,xs,e,ha,hd⟩:=h;exact⟨a,xs,e,k.tup _ _ ha,cJ.keep k ds xs hd⟩
 | .dict Ft,v,h=>by
   unfold Dt at h |-;obtain⟨e1,a,e,ha⟩:=h;exact⟨e1,a,e,k _ _ ha λl z=>by cases z⟩
theorem cJ.keep {F:Addr->Prop}(k:bc F H H'):∀(ds:List PyData)(xs:List V),cJ F H ds xs->cJ F H' ds xs
 |[],xs,h=>by unfold cJ at h |-;exact h
 |d::ds,xs,h=>by
  unfold cJ at h |-;obtain⟨y,ys,e,h1,h2⟩:=h;exact⟨y,ys,e,Dt.keep k d y h1,cJ.keep k ds ys h2⟩
end
mutual
theorem Dt.rd {F:Addr->Prop}{K:Frag}:∀(d:PyData)(v:V),Dt F H d v->jq K H d v
 | .none,v,h=>by unfold Dt at h;unfold jq;exact h
 | .bool b,v,h=>by unfold Dt at h;unfold jq;exact h
 | .int i,v,h=>by unfold Dt at h;unfold jq;exact h
 | .str x,v,h=>by unfold Dt at h;unfold jq;exact h
 | .list ds,v,h=>by
   unfold Dt at h;unfold jq;obtain⟨a,xs,e,n,ha,hd⟩:=h;exact⟨a,xs,e,bo.of ha,cJ.rd ds xs hd⟩
 | .tuple ds,v,h=>by
   unfold Dt at h;unfold jq;obtain⟨a,xs,e,ha,hd⟩:=h;exact⟨a,xs,e,aV.of ha,cJ.rd ds xs hd⟩
 | .dict Ft,v,h=>by
   unfold Dt at h;unfold jq;obtain⟨e1,a,e,ha⟩:=h;exact⟨e1,a,e,Rd.of ha⟩
theorem cJ.rd {F:Addr->Prop}{K:Frag}:∀(ds:List PyData)(xs:List V),cJ F H ds xs->j4 K H ds xs
 |[],xs,h=>by unfold cJ at h;unfold j4;exact h
 |d::ds,xs,h=>by
  unfold cJ at h;unfold j4;obtain⟨y,ys,e,h1,h2⟩:=h;exact⟨y,ys,e,Dt.rd d y h1,cJ.rd ds ys h2⟩
end
variable {d:PyData}
theorem Dt.th {F:Addr->Prop}{v:V}(h:Dt F H d v):∃T,Th H v T:=by
 cases d with
 |none=>unfold Dt at h;subst h;exact⟨_,.non⟩
 |bool b=>unfold Dt at h;subst h;exact⟨_,.bl b⟩
 |int i=>unfold Dt at h;subst h;exact⟨_,.int i⟩
 |str x=>unfold Dt at h;subst h;exact⟨_,.str x⟩
 |list ds=>unfold Dt at h;obtain⟨a,xs,rfl,n,ha,hd⟩:=h;exact⟨_,.lst ha⟩
 |tuple ds=>unfold Dt at h;obtain⟨a,xs,rfl,ha,hd⟩:=h;exact⟨_,.tup ha⟩
 |dict Ft=>unfold Dt at h;obtain⟨_,a,rfl,ha⟩:=h;exact⟨_,.dK ha⟩
theorem cJ.th {F:Addr->Prop}:∀{ds:List PyData}{xs:List V},cJ F H ds xs->∀y∈xs,∃T,Th H y T
 |[],xs,h,y,hy=>by unfold cJ at h;subst h;cases hy
 |d::ds,xs,h,y,hy=>by
  unfold cJ at h;obtain⟨z,zs,rfl,h1,h2⟩:=h
  rcases Yn.mp hy with rfl|hy
  ·exact h1.th
  ·exact cJ.th h2 y hy
theorem cJ.len {F:Addr->Prop}:∀{ds:List PyData}{xs:List V},cJ F H ds xs->xs.length=ds.length
 |[],xs,h=>by unfold cJ at h;subst h;rfl
 |d::ds,xs,h=>by
  unfold cJ at h;obtain⟨z,zs,rfl,h1,h2⟩:=h;rw[YC,YC,cJ.len h2]
theorem cJ.append {F:Addr->Prop}:∀{ds es:List PyData}{xs ys:List V},cJ F H ds xs->cJ F H es ys->cJ F H (ds++es) (xs++ys)
 |[],es,xs,ys,h,k=>by unfold cJ at h;subst h;exact k
 |d::ds,es,xs,ys,h,k=>by
  unfold cJ at h;obtain⟨z,zs,rfl,h1,h2⟩:=h;show cJ F H (d::(ds++es)) (z::(zs++ys));unfold cJ;exact⟨z,_,rfl,h1,cJ.append h2 k⟩
theorem cJ.nil {F:Addr->Prop}:cJ F H [] []:=by unfold cJ;rfl
variable {ds:List PyData}{vs:List V}
theorem cJ.cons {F:Addr->Prop}{d:PyData}{v:V}(h:Dt F H d v)(k:cJ F H ds vs):cJ F H (d::ds) (v::vs):=by
 unfold cJ;exact⟨v,vs,rfl,h,k⟩
theorem cJ.at {F:Addr->Prop}:∀{ds:List PyData}{xs:List V},cJ F H ds xs->∀{i:Nat}{x:V},xs[i]?=some x->∃d,ds[i]?=some d/\Dt F H d x
 |[],xs,h,i,x,e=>by unfold cJ at h;subst h;cases e
 |d::ds,xs,h,i,x,e=>by
  unfold cJ at h;obtain⟨z,zs,rfl,h1,h2⟩:=h
  cases i with
  |zero=>cases e;exact⟨d,rfl,h1⟩
  |succ i=>exact cJ.at h2 e
theorem BG {F:Addr->Prop}(i:Int):Dt F H (.int i) (.int i):=by unfold Dt;rfl
theorem Fd {F:Addr->Prop}:Dt F H .none .non:=by unfold Dt;rfl
theorem Fn {F:Addr->Prop}(b:Bool):Dt F H (.bool b) (.bl b):=by unfold Dt;rfl
theorem Ff {F:Addr->Prop}(x:Str):Dt F H (.str x) (.str x):=by unfold Dt;rfl
theorem CV {F:Addr->Prop}(e:H a=some (.tup xs))(h:cJ F H ds xs):Dt F H (.tuple ds) (.ref a):=by unfold Dt;exact⟨a,xs,rfl,e,h⟩
theorem Fh {F:Addr->Prop}(n:F a)(e:H a=some (.lst xs))(h:cJ F H ds xs):Dt F H (.list ds) (.ref a):=by unfold Dt;exact⟨a,xs,rfl,n,e,h⟩
theorem d9 {F:Addr->Prop}:∀ns:List Int,cJ F H (ns.map PyData.int) (ns.map V.int)
 |[]=>.nil
 |n::ns=>.cons (BG n) (d9 ns)
theorem oj:∀ns:List Int,vT (ns.map PyData.int)=1923*ns.length
 |[]=>rfl
 |n::ns=>by
  show vT (.int n::ns.map PyData.int)=_;unfold vT;rw[oj ns];simp[wt];omega
noncomputable def vR (n:Int):Prop:=-(2^60)<n/\n<2^60
theorem B5 {n:Int}(h:vR n):PyData.showable (.int n)=true:=by
 unfold PyData.showable;refine YD ?_;obtain⟨h1,h2⟩:=h
 by_cases z:n.natAbs=0
 ·rw[z];decide
 ·exact YX ((Nat.log2_lt z).mpr (by omega:n.natAbs<2^60)) (by decide)
theorem rX:∀{ns:List Int},(∀n∈ns,vR n)->PyData.showableAll (ns.map PyData.int)=true
 |[],_=>rfl
 |n::ns,h=>by
  show PyData.showableAll (.int n::ns.map PyData.int)=true;unfold PyData.showableAll;rw[B5 (h n Yl),rX λm hm=>h m (Yi _ hm)];rfl
theorem r8:∀ns:List Int,PyData.depthAll (ns.map PyData.int)=0
 |[]=>rfl
 |n::ns=>by
  show PyData.depthAll (.int n::ns.map PyData.int)=0;unfold PyData.depthAll;rw[r8 ns];rfl
noncomputable def So (k m:Nat)(d:PyData):Prop:=d.showable=true/\d.depth<=k/\wt d<=m
noncomputable def iU (k m:Nat)(ds:List PyData):Prop:=PyData.showableAll ds=true/\PyData.depthAll ds<=k/\vT ds<=m
variable {k m:Nat}
theorem So.mono {l n:Nat}(h:So k m d)(h1:k<=l)(h2:m<=n):So l n d:=⟨h.1,by have:=h.2.1;omega,by have:=h.2.2;omega⟩
theorem iU.nil {k m:Nat}:iU k m []:=⟨rfl,by unfold PyData.depthAll;omega,by unfold vT;omega⟩
theorem iU.cons {k m n l:Nat}{d:PyData}(h:So k m d)(t:iU k n ds)(hl:m+2+n<=l):iU k l (d::ds):=by
 obtain⟨a,b,c⟩:=h;obtain⟨a',b',c'⟩:=t;refine⟨?_,?_,?_⟩
 ·rw[PyData.showableAll,a,a'];rfl
 ·rw[PyData.depthAll];omega
 ·rw[vT];omega
theorem iU.tup (h:iU k m ds):So (k+1) (m+3) (.tuple ds):=⟨by unfold PyData.showable;exact h.1,by have:=h.2.1;unfold PyData.depth;omega,by have:=h.2.2;unfold wt;omega⟩
theorem iU.lst (h:iU k m ds):So (k+1) (m+3) (.list ds):=⟨by unfold PyData.showable;exact h.1,by have:=h.2.1;unfold PyData.depth;omega,by have:=h.2.2;unfold wt;omega⟩
theorem E7 :So k 1921 .none:=⟨rfl,by unfold PyData.depth;omega,by unfold wt;omega⟩
theorem Fp {k:Nat}(b:Bool):So k 1921 (.bool b):=⟨rfl,by unfold PyData.depth;omega,by unfold wt;omega⟩
variable {ns:List Int}
theorem pS {k:Nat}(h:∀n∈ns,vR n):iU k (1923*ns.length) (ns.map PyData.int):=⟨rX h,by rw[r8];omega,by rw[oj];omega⟩
theorem Dt.px {F:Addr->Prop}{v:V}(h:Dt F H d v)(hl:∀ds,d=.tuple ds->ds.length<60):∃o,PX H v o/\∀xs,o=some xs->xs.length<60:=by
 have no:∀{T:String},Th H v T->T ≠ "tuple"->∃o,PX H v o/\∀xs,o=some xs->xs.length<60:=λt n=>⟨none,.no t n,λxs z=>by cases z⟩
 cases d with
 |none=>unfold Dt at h;subst h;exact no .non (by decide)
 |bool b=>unfold Dt at h;subst h;exact no (.bl b) (by decide)
 |int i=>unfold Dt at h;subst h;exact no (.int i) (by decide)
 |str x=>unfold Dt at h;subst h;exact no (.str x) (by decide)
 |list ds=>unfold Dt at h;obtain⟨a,xs,rfl,n,ha,hd⟩:=h;exact no (.lst ha) (by decide)
 |tuple ds =>
  unfold Dt at h;obtain⟨a,xs,rfl,ha,hd⟩:=h;have l:=hl ds rfl;rw[<-hd.len] at l;exact⟨some xs,.tup ha (by omega) hd.th,λys z=>by cases z;exact l⟩
 |dict Ft=>unfold Dt at h;obtain⟨_,a,rfl,ha⟩:=h;exact no (.dK ha) (by decide)
noncomputable abbrev dP (ks:List Int):PyData:=.tuple (ks.map PyData.int)
noncomputable def dq (F:Addr->Prop)(σ:St)(H0:Hp)(te:TE)(d:PyData):Prop:=∀(H:Hp)(Q:VK),aC H0 H->(∀v H',aC H H'->Dt F H' d v->Q v H')->te σ H Q
noncomputable def gO (F:Addr->Prop)(σ:St)(H0:Hp)(ta:TA)(ds:List PyData):Prop:=∀(H:Hp)(Q:List V->Hp->Prop),aC H0 H->(∀vs H',aC H H'->cJ F H' ds vs->Q vs H')->ta σ H Q
variable {te:TE}{ta:TA}{i:Nat}{K:Frag}{ks:List Int}{Q:VK}
section
variable {F:Addr->Prop}{σ:St}{H0:Hp}
theorem aL:gO F σ H0 Bz []:=λH Q s q=>q [] H (aC.refl _) .nil
theorem av (h:dq F σ H0 te d)(k:gO F σ H0 ta ds):gO F σ H0 (bq te ta) (d::ds):=λH Q s q =>
 h H _ s λv H1 s1 hd=>k H1 _ (s.trans s1) λvs H2 s2 IT=>q (v::vs) H2 (s1.trans s2) (.cons (Dt.keep (bc.of s2) _ _ hd) IT)
theorem qq (h:cJ F H ds vs)(hl:ds.length<=100):vs.length<=sizeLine:=by
 rw[h.len];exact Yq hl (by decide)
theorem aQ (h:gO F σ H0 ta ds)(hl:ds.length<=100):dq F σ H0 (nt ta) (.tuple ds):=λH Q s q =>
 h H _ s λvs H1 s1 hd=>⟨qq hd hl,λp hp=>q _ _ (s1.trans (aq hp)) (CV ai (cJ.keep (bc.of (aq hp)) _ _ hd))⟩
theorem vO (h:gO F σ H0 ta ds)(hF:∀a,H0 a=none->F a)(hl:ds.length<=100):dq F σ H0 (qL ta) (.list ds):=λH Q s q =>
 h H _ s λvs H1 s1 hd=>⟨qq hd hl,λp hp=>q _ _ (s1.trans (aq hp)) (Fh (hF p (none_of (s.trans s1) hp)) ai (cJ.keep (bc.of (aq hp)) _ _ hd))⟩
theorem cA {v:V}(e:σ[i]?=some (some v))(h:Dt F H0 d v):dq F σ H0 (cc i) d:=λH Q s q=>⟨v,e,q v H (aC.refl _) (Dt.keep (bc.of s) _ _ h)⟩
theorem dh {v:V}(h:∀{H:Hp},Dt F H d v):dq F σ H0 (tC v) d:=λH Q s q=>q v H (aC.refl _) h
theorem vk:dq F σ H0 (kn (vU λi j=>.int (i-j)) (tC (.int 0)) (tC (.int 1))) (.int (0-1)):=λH Q s q=>⟨0,1,rfl,rfl,q _ H (aC.refl _) (BG _)⟩
theorem hZ (hF:∀a,H0 a=none->F a)(e:σ[i]?=some (some (.ref a)))(h:H0 a=some (.tup (ks.map V.int))):dq F σ H0 (Dh (uB K) (bq (cc i) Bz)) (.list (ks.map PyData.int)):=λH Q s q =>
 ⟨_,e,a,_,rfl,.inr (aV.of (s _ _ h)),λl hl=>q _ _ (aq hl) (Fh (hF l (none_of s hl)) ai (d9 ks))⟩
theorem gA {ta tb:TE}{es:List PyData}(h:dq F σ H0 ta (.tuple ds))(k:dq F σ H0 tb (.tuple es))(hl:ds.length+es.length<=100):dq F σ H0 (kn xf ta tb) (.tuple (ds++es)):=λH Q s q =>
 h H _ s λv H1 s1 hd=>k H1 _ (s.trans s1) λu H2 s2 he=>by
   have hd:=Dt.keep (bc.of s2) _ _ hd;unfold Dt at hd he;obtain⟨a,xs,rfl,ha,hx⟩:=hd;obtain⟨b,ys,rfl,hb,hy⟩:=he;refine⟨a,b,xs,ys,rfl,rfl,ha,hb,?_,λp H3 s3 hp=>q _ _ ((s1.trans s2).trans s3) (CV hp (cJ.keep (bc.of s3) _ _ (hx.append hy)))⟩;rw[hx.len,hy.len];exact Yq hl (by decide)
theorem xc {ds:List PyData}(h:gO F σ H0 ta ds)(hl:ds.length<=100)(q:∀p vs H',H0 p=none->aC H0 H'->H' p=some (.lst vs)->cJ F H' ds vs->Q (.ref p) H'):qL ta σ H0 Q :=
 h H0 _ (aC.refl _) λvs H1 s1 hd=>⟨qq hd hl,λp hp=>q p vs _ (none_of s1 hp) (s1.trans (aq hp)) ai (cJ.keep (bc.of (aq hp)) _ _ hd)⟩
end
noncomputable def C8 (d:PyData):Prop:=So 5 100000 d/\(∀y z,d=.tuple [y,z]->(∀ds,y=.tuple ds->ds.length<60)/\∀ds,z=.tuple ds->ds.length<60)/\(d=.none\/(∃y,d=.str y)\/(∃ds,d=.list ds)\/∃ds,d=.tuple ds)
theorem o9 {K:Frag}{F:Addr->Prop}{x:V}(h:Dt F H d x)(ok:C8 d):∃o,BX H x o/\wd o/\El K H x d.shown:=by
 obtain⟨⟨o1,o2,o3⟩,sh,kd⟩:=ok
 have sn:wd none:=λoy oz z=>by cases z
 rcases kd with rfl|⟨y,rfl⟩|⟨ds,rfl⟩|⟨ds,rfl⟩
 ·unfold Dt at h;subst h;exact⟨none,.no .non (by decide),sn,.inl ⟨rfl,rfl⟩⟩
 ·unfold Dt at h;subst h;refine⟨none,.no (.str y) (by decide),sn,.inr (.inl ⟨y,rfl,?_,rfl⟩)⟩;unfold wt at o3;exact Yq o3 (by decide)
 ·have rd:=Dt.rd (K:=K) _ _ h;unfold Dt at h;obtain⟨a,xs,rfl,n,ha,hd⟩:=h;exact⟨none,.no (.lst ha) (by decide),sn,.inr (.inr ⟨a,_,rfl,rd,o1,by omega,by omega,rfl⟩)⟩
 ·have rd:=Dt.rd (K:=K) _ _ h;unfold Dt at h;obtain⟨a,xs,rfl,ha,hd⟩:=h;have rp:El K H (.ref a) (PyData.tuple ds).shown:=.inr (.inr ⟨a,_,rfl,rd,o1,by omega,by omega,rfl⟩)
  by_cases l2:xs.length=2
  ·obtain⟨x1,xs,rfl⟩:=YS l2;obtain⟨x2,rfl⟩:=xD.mp (Y5 l2);have dl:=hd.len;obtain⟨d1,ds,rfl⟩:=YS (show ds.length=1+1 from dl.symm);obtain⟨d2,rfl⟩:=xD.mp (Y5 dl.symm);unfold cJ at hd;obtain⟨_,_,z,h1,hd⟩:=hd
   cases z
   unfold cJ at hd;obtain⟨_,_,z,h2,_⟩:=hd
   cases z
   obtain⟨s1,s2⟩:=sh d1 d2 rfl;obtain⟨oy,py,ly⟩:=h1.px s1;obtain⟨oz,pz,lz⟩:=h2.px s2;exact⟨some (oy,oz),.two ha py pz,λa b z=>by cases z;exact⟨ly,lz⟩,rp⟩
  ·exact⟨none,.odd ha l2,sn,rp⟩
noncomputable abbrev A7:Stmt:=(ba 52)
theorem y4 (h:∀k∈ks,0<=k/\k<7):∀k∈ks,vR k:=λk hk=>by
 have:=h k hk;unfold vR;omega
theorem qV {k:Nat}(h:∀n∈ns,vR n)(l:ns.length<=7):So (k+1) 20000 (dP ns):=by
 have:=(pS (k:=k) h).tup;exact this.mono (Ye _) (by omega)
theorem D5 (h:∀n∈ns,vR n)(l:ns.length<=7):So (k+1) 20000 (.list (ns.map PyData.int)):=by
 have:=(pS (k:=k) h).lst;exact this.mono (Ye _) (by omega)
theorem eG {y z:PyData}(hy:So 4 20000 y)(hz:So 4 20000 z)(ly:∀ds,y=.tuple ds->ds.length<60)(lz:∀ds,z=.tuple ds->ds.length<60):C8 (.tuple [y,z]):=
 ⟨((iU.cons hy (iU.cons hz (iU.nil (m:=0)) (Ye _)) (Ye _)).tup).mono (Ye _) (by decide),λa b e=>by cases e;exact⟨ly,lz⟩,.inr (.inr (.inr ⟨_,rfl⟩))⟩
theorem qF (ns ms:List Int):PyData.tuple (ns.map PyData.int++ms.map PyData.int)=dP (ns++ms):=by
 show _=PyData.tuple ((ns++ms).map PyData.int);rw[Y2]
theorem lp (l:ns.length<=7):∀ds,dP ns=.tuple ds->ds.length<60:=λds e=>by
 have e:=PyData.tuple.inj e;rw[<-e,Yg];omega
variable {σ:St}
theorem um {F:Addr->Prop}{H0:Hp}{ds es:List PyData}{L:Addr}(h:gO F σ H0 ta ds)(e:σ[i]?=some (some (.ref L)))(eL:H0 L=some (.lst vs))(hd:cJ F H0 es vs)(hl:es.length+ds.length<=100)
 (q:∀L2 OQ H',H0 L2=none->aC H0 H'->H' L2=some (.lst OQ)->cJ F H' (es++ds) OQ->Q (.ref L2) H'):kn ve (cc i) (qL ta) σ H0 Q:=by
 refine⟨_,e,?_⟩;refine xc h (by omega) λp ws H1 hp s1 ep hw=>⟨L,p,vs,ws,rfl,rfl,s1 _ _ eL,ep,?_,λL2 H2 h2 s2 e2=>?_⟩
 ·rw[hd.len,hw.len];exact Yq hl (by decide)
 ·exact q L2 _ _ (none_of s1 h2) (s1.trans s2) e2 ((cJ.keep (bc.of (s1.trans s2)) _ _ hd).append (cJ.keep (bc.of s2) _ _ hw))
theorem DM {ta tb:TE}(h:ta σ H λx H1=>tb σ H1 λy H2=>xR K x y H2 Q):kn (xR K) ta tb σ H Q:=h
noncomputable def AU (ks ms:List Int):List PyData:=[.list [dP ks,dP ms],.tuple [dP ks],.tuple [dP ks,dP ms,.tuple []],.none,.str "",.tuple [.list (ks.map PyData.int),dP ms],.tuple [dP ks,.list (ms.map PyData.int)],
 .tuple [.tuple (ks.map PyData.int++[.int 7,.int 7]),dP ms],.tuple [dP ks,.tuple (ms.map PyData.int++[.int 60])],.tuple [.tuple ([.int (0-1)]++ks.map PyData.int),dP ms],.tuple [dP ks,.tuple [.bool true]],
 .tuple [dP ks,.none],.tuple [.tuple (ks.map PyData.int++[.int 3,.int 2]),dP ms],.tuple [dP ks,.tuple [.str "1"]]]
variable {ms:List Int}
theorem xm (h:Br ks ms):∀d∈AU ks ms,C8 d:=by
 have sk:=y4 h.kp;have sm:=y4 h.mp;have lk:=h.kl;have lm:=h.ml;have k1:∀{k:Nat},So (k+1) 20000 (dP ks):=qV sk (by omega);have m1:∀{k:Nat},So (k+1) 20000 (dP ms):=qV sm (by omega)
 have cat:∀{ns:List Int},(∀n∈ns,vR n)->ns.length<=2->So 4 20000 (.tuple (ks.map PyData.int++ns.map PyData.int))/\∀ds,PyData.tuple (ks.map PyData.int++ns.map PyData.int)=.tuple ds->ds.length<60:=λ{ns} hs hl=>by
  rw[qF];exact⟨qV (k:=3) (λn hn=>by rcases YI.mp hn with z|z;exact sk n z;exact hs n z) (by rw[Yw];omega),lp (by rw[Yw];omega)⟩
 have KR:So 4 20000 (.tuple (ms.map PyData.int++[(60:Int)].map PyData.int))/\∀ds,PyData.tuple (ms.map PyData.int++[(60:Int)].map PyData.int)=.tuple ds->ds.length<60:=by
  rw[qF]
  exact⟨qV (k:=3) (λn hn=>by
   rcases YI.mp hn with z|z
   ·exact sm n z
   ·rw[Zm.mp z];unfold vR;omega) (by rw[Yw];show ms.length+1<=7;omega),lp (by rw[Yw];show ms.length+1<=7;omega)⟩
 have KS:So 4 20000 (.tuple ([(0-1:Int)].map PyData.int++ks.map PyData.int))/\∀ds,PyData.tuple ([(0-1:Int)].map PyData.int++ks.map PyData.int)=.tuple ds->ds.length<60:=by
  rw[qF]
  exact⟨qV (k:=3) (λn hn=>by
   rcases YI.mp hn with z|z
   ·rw[Zm.mp z];unfold vR;omega
   ·exact sk n z) (by rw[Yw];show 1+ks.length<=7;omega),lp (by rw[Yw];show 1+ks.length<=7;omega)⟩
 have s7:∀{a b:Int},a<100->b<100->0<=a->0<=b->∀n∈[a,b],vR n:=λ{a b} ha hb JK N3 n hn=>by
  have:n=a\/n=b:=by simpa using hn
  unfold vR
  rcases this with z|z <;> omega
 intro d hd;unfold AU at hd;simp only[Yn,ZA,EE] at hd
 rcases hd with rfl|rfl|rfl|rfl|rfl|rfl|rfl|rfl|rfl|rfl|rfl|rfl|rfl|rfl
 ·exact⟨((iU.cons (k1 (k:=3)) (iU.cons m1 (iU.nil (m:=0)) (Ye _)) (Ye _)).lst).mono (Ye _) (by decide),(λa b e=>by cases e),.inr (.inr (.inl ⟨_,rfl⟩))⟩
 ·exact⟨((iU.cons (k1 (k:=3)) (iU.nil (m:=0)) (Ye _)).tup).mono (Ye _) (by decide),(λa b e=>by cases e),.inr (.inr (.inr ⟨_,rfl⟩))⟩
 ·exact⟨((iU.cons (k1 (k:=3)) (iU.cons m1 (iU.cons ((iU.nil (k:=3) (m:=0)).tup) (iU.nil (m:=0)) (Ye _)) (Ye _)) (Ye _)).tup).mono (Ye _) (by decide),(λa b e=>by cases e),.inr (.inr (.inr ⟨_,rfl⟩))⟩
 ·exact⟨E7.mono (Ye _) (by decide),(λa b e=>by cases e),.inl rfl⟩
 ·exact⟨⟨rfl,by unfold PyData.depth;omega,by unfold wt;decide +kernel⟩,(λa b e=>by cases e),.inr (.inl ⟨_,rfl⟩)⟩
 ·exact eG (D5 sk (by omega)) m1 (λds e=>by cases e) (lp (by omega))
 ·exact eG k1 (D5 sm (by omega)) (lp (by omega)) (λds e=>by cases e)
 ·have c:=cat (ns:=[7,7]) (s7 (by decide) (by decide) (by decide) (by decide)) (by decide);exact eG c.1 m1 c.2 (lp (by omega))
 ·exact eG k1 KR.1 (lp (by omega)) KR.2
 ·exact eG KS.1 m1 KS.2 (lp (by omega))
 ·exact eG k1 (((iU.cons (Fp (k:=3) true) (iU.nil (m:=0)) (Ye _)).tup).mono (Ye _) (by decide)) (lp (by omega)) (λds e=>by cases e;decide)
 ·exact eG k1 (E7.mono (Ye _) (by decide)) (lp (by omega)) (λds e=>by cases e)
 ·have c:=cat (ns:=[3,2]) (s7 (by decide) (by decide) (by decide) (by decide)) (by decide);exact eG c.1 m1 c.2 (lp (by omega))
 ·exact eG k1 (((iU.cons (k:=3) (m:=100) (d:=.str "1") ⟨rfl,by unfold PyData.depth;omega,by unfold wt;decide +kernel⟩ (iU.nil (m:=0)) (Ye _)).tup).mono (Ye _) (by decide)) (lp (by omega)) (λds e=>by cases e;decide)
noncomputable def v7:Sp:=λvs H Q _=>∃(r ah al:Addr)(ks ms:List Int),vs=[.ref r,.ref ah,.ref al]/\a7 H r/\H ah=some (.tup (ks.map V.int))/\H al=some (.tup (ms.map V.int))/\Br ks ms/\∀H' x,a7 H' r->SameBut r H H'->(∃d,Dt (·≠r) H' d x/\C8 d)->Q x H'
theorem qD:CN ["_law_room_here","_law_held","_law_lacked","_law_some"] qM (ar A7):=fe (by decide +kernel)
variable {P:wu}{w:World}{K:PySem.W.Frag}{mg:vx}{base:Heap}
set_option maxHeartbeats 600000 in
theorem Am {f:Addr}{fd:BB}(F:vP K "_law_bent" "_law_bent" A7 f fd)(FA:mg "list"=none)
 (q0:Ca P w K mg base 1 wQ "_law_take" EJ):yd P w K mg base (cD P w) 2 f fd qM v7:=by
 obtain⟨VH,OR,Nr,Nt,Nu,Nv⟩:=q0;refine F.okN qD (λvs H Q E h=>?_) (λFv A outer s H vs Q E hr h=>?_)
 ·obtain⟨r,ah,al,ks,ms,rfl,_⟩:=h;rfl
 ·obtain⟨r,ah,al,ks,ms,rfl,Rm,GS,GH,hb,q⟩:=h;have FN:xh 1 _:=hr
  refine⟨_,(au (@aX _ _ 3 _ _ _ _ qD.nd rfl (Or.inl rfl) (cE (aj (cE (aj (pv 1) (aj (pv 2) ag rfl) rfl)) (aj (aJ (aj (pv 1) ag rfl)) (aj (aJ (aj (pv 1) (aj (pv 2) (aj (aJ ag) ag rfl) rfl) rfl)) (aj rg (aj gN (aj (aJ (aj (bt (md (K:=K) rfl) (by rfl) FA (by rfl) (aj (pv 1) ag rfl)) (aj (pv 2) ag rfl) rfl)) (aj (aJ (aj (pv 1) (aj (bt (md (K:=K) rfl) (by rfl) FA (by rfl) (aj (pv 2) ag rfl)) ag rfl) rfl)) ag rfl) rfl) rfl) rfl) rfl) rfl) rfl)) rfl (Or.inl rfl))
   (au (@aX _ _ 3 _ _ _ _ qD.nd rfl (Or.inl rfl) (aK nR (pv 3) (cE (aj (aJ (aj (aK iq (pv 1) (aJ (aj ak (aj ak ag rfl) rfl))) (aj (pv 2) ag rfl) rfl)) (aj (aJ (aj (pv 1) (aj (aK iq (pv 2) (aJ (aj ak ag rfl))) ag rfl) rfl)) (aj (aJ (aj (aK iq (aJ (aj (aK rD ak ak) ag rfl)) (pv 1)) (aj (pv 2) ag rfl) rfl)) (aj (aJ (aj (pv 1) (aj (aJ (aj eB ag rfl)) ag rfl) rfl)) ag rfl) rfl) rfl) rfl))) rfl (Or.inl rfl))
   (ax (aF (aY cB (aK nR (pv 3) (cE (aj (aJ (aj (pv 1) (aj rg ag rfl) rfl)) (aj (aJ (aj (aK iq (pv 1) (aJ (aj ak (aj ak ag rfl) rfl))) (aj (pv 2) ag rfl) rfl)) (aj (aJ (aj (pv 1) (aj (aJ (aj gN ag rfl)) ag rfl) rfl)) ag rfl) rfl) rfl))) (aH Nr FN (by rfl) Nu Nv Nt .nil ao (aj (pv 0) (aj ak ag rfl) rfl)) (λ_ _=>rfl)))))),?_⟩
  have hF:∀a,H a=none->a≠r:=λa e z=>by
   obtain⟨l,x,e2,_⟩:=Rm;rw[z,e2] at e
   cases e
  have dk:Dt (·≠r) H (dP ks) (.ref ah):=CV GS (d9 ks);have dm:Dt (·≠r) H (dP ms) (.ref al):=CV GH (d9 ms);have M1:∀{σ:St},σ[1]?=some (some (.ref ah))->dq (·≠r) σ H (cc 1) (dP ks):=λe=>cA e dk;have M2:∀{σ:St},σ[2]?=some (some (.ref al))->dq (·≠r) σ H (cc 2) (dP ms):=λe=>cA e dm;dsimp only[rE,lr]
  refine xc (F:=(·≠r)) (H0:=H) (ds:=[.list [dP ks,dP ms],.tuple [dP ks],.tuple [dP ks,dP ms,.tuple []],.none,.str "",.tuple [.list (ks.map PyData.int),dP ms],.tuple [dP ks,.list (ms.map PyData.int)]])
   (av (vO (av (M1 rfl) (av (M2 rfl) aL)) hF (by simp)) (av (aQ (av (M1 rfl) aL) (by simp)) (av (aQ (av (M1 rfl) (av (M2 rfl) (av (aQ aL (by simp)) aL))) (by simp))
    (av (dh Fd) (av (dh (Ff _)) (av (aQ (av (hZ hF rfl GS) (av (M2 rfl) aL)) (by simp)) (av (aQ (av (M1 rfl) (av (hZ hF rfl GH) aL)) (by simp)) aL))))))) (by simp) λL vs H1 _ s1 eL hd=>?_
  dsimp only[bw,rE,lr];have RP:=Dt.keep (bc.of s1) _ _ dk;have RQ:=Dt.keep (bc.of s1) _ _ dm;have N1:∀{σ:St},σ[1]?=some (some (.ref ah))->dq (·≠r) σ H1 (cc 1) (dP ks):=λe=>cA e RP;have N2:∀{σ:St},σ[2]?=some (some (.ref al))->dq (·≠r) σ H1 (cc 2) (dP ms):=λe=>cA e RQ
  refine um (F:=(·≠r)) (H0:=H1) (ds:=[.tuple [.tuple (ks.map PyData.int++[.int 7,.int 7]),dP ms],.tuple [dP ks,.tuple (ms.map PyData.int++[.int 60])],.tuple [.tuple ([.int (0-1)]++ks.map PyData.int),dP ms],.tuple [dP ks,.tuple [.bool true]]])
   (av (aQ (av (gA (N1 rfl) (aQ (av (dh (BG 7)) (av (dh (BG 7)) aL)) (by simp)) (by simp;have:=hb.kl;omega)) (av (N2 rfl) aL)) (by simp)) (av (aQ (av (N1 rfl) (av (gA (N2 rfl) (aQ (av (dh (BG 60)) aL) (by simp)) (by simp;have:=hb.ml;omega)) aL)) (by simp))
    (av (aQ (av (gA (aQ (av vk aL) (by simp)) (N1 rfl) (by simp;have:=hb.kl;omega)) (av (N2 rfl) aL)) (by simp)) (av (aQ (av (N1 rfl) (av (aQ (av (dh (Fn true)) aL) (by simp)) aL)) (by simp)) aL)))) rfl eL hd (by simp) λL2 OQ H2 _ s2 e2 d2=>?_
  dsimp only[bw,DG];refine DM ?_;have VI:=Dt.keep (bc.of s2) _ _ RP;have VJ:=Dt.keep (bc.of s2) _ _ RQ;have O1:∀{σ:St},σ[1]?=some (some (.ref ah))->dq (·≠r) σ H2 (cc 1) (dP ks):=λe=>cA e VI;have O2:∀{σ:St},σ[2]?=some (some (.ref al))->dq (·≠r) σ H2 (cc 2) (dP ms):=λe=>cA e VJ
  refine um (F:=(·≠r)) (H0:=H2) (ds:=[.tuple [dP ks,.none],.tuple [.tuple (ks.map PyData.int++[.int 3,.int 2]),dP ms],.tuple [dP ks,.tuple [.str "1"]]])
   (av (aQ (av (O1 rfl) (av (dh Fd) aL)) (by simp)) (av (aQ (av (gA (O1 rfl) (aQ (av (dh (BG 3)) (av (dh (BG 2)) aL)) (by simp)) (by simp;have:=hb.kl;omega)) (av (O2 rfl) aL)) (by simp))
    (av (aQ (av (O1 rfl) (av (aQ (av (dh (Ff _)) aL) (by simp)) aL)) (by simp)) aL))) rfl e2 d2 (by simp) λL3 KU H3 n3 s3 e3 d3=>?_
  have S3:=(s1.trans s2).trans s3
  have KO:L3≠r:=λz=>by
   obtain⟨l,x,e,_⟩:=Rm;rw[z,(s1.trans s2) _ _ e] at n3
   cases n3
  obtain⟨l,x,er,M4,M5⟩:=Rm;have RS:=S3 _ _ er;refine⟨_,rfl,r,l,x,14,rfl,RS,M4,M5,by decide,by decide,λz l' r' RT HM Ik OS=>?_⟩;have ln:=d3.len
  have zz:z.toNat<KU.length:=by
   rw[ln];show z.toNat<14;omega
  have ez:KU[z.toNat]?=some KU[z.toNat]:=YZ zz;obtain⟨d,ed,OJ⟩:=d3.at ez;have kp:bc (·≠r) H3 (upd H3 r (.lst [.int l',.int r'])):=bc.put RS λh=>h rfl;refine⟨L3,KU,z,KU[z.toNat],rfl,rfl,bo.of (kp.lst KO e3),?_,q _ _ ⟨l',r',ai,Ik,OS⟩ (λb o e n=>?_) ⟨d,Dt.keep kp _ _ OJ,xm hb d (YA ed)⟩⟩
  ·have:=sO ez;rwa[Int.toNat_of_nonneg RT] at this
  ·rw[aA n];exact S3 _ _ e
noncomputable def yE (K:Frag)(H:Hp)(a:Addr)(ns:List Int):Prop:=(∃o,H a=some (.frz o (.lst (ns.map V.int))))\/∃(o:Obj)(its:BC)(n:Nat),K.lookup a=some o/\o.cls=.type "list"/\o.dict=none/\o.data=.seq its n/\its.size<=sizeLine/\L2.aR (ns.map V.int) its.toList
theorem yE.sq (h:yE K H a ns):bo K H a (ns.map V.int):=by
 rcases h with⟨o,h⟩|h
 ·exact .inl (.inr ⟨o,h⟩)
 ·exact .inr h
theorem yE.same (h:yE K H a ns)(S:aC H H'):yE K H' a ns:=by
 rcases h with⟨o,h⟩|h
 ·exact .inl ⟨o,S _ _ h⟩
 ·exact .inr h
theorem yE.but (h:yE K H a ns)(R:a7 H r)(S:SameBut r H H'):yE K H' a ns:=by
 rcases h with⟨o,h⟩|h
 ·refine .inl ⟨o,S _ _ h λz=>?_⟩;obtain⟨l,x,e,_⟩:=R;rw[z,e] at h
  cases h
 ·exact .inr h
theorem a7.same (h:a7 H r)(s:aC H H'):a7 H' r:=let⟨l,x,e,z⟩:=h;⟨l,x,s _ _ e,z⟩
theorem Bi (xs:List V):ig xs none (some 5)=xs.take 5:=by
 unfold ig;rw[show HT.c5 xs.length 0 none=0 from rfl,show HT.c5 xs.length xs.length (some (5:Int))=min 5 xs.length from HT.abF _ _ 5,List.drop_zero,Nat.sub_zero]
 by_cases h:5<=xs.length
 ·rw[vq h]
 ·rw[Nat.min_eq_right (by omega),Yv,List.take_of_length_le (by omega)]
structure Pr (ks:List Int):Prop where
 up:ks.Pairwise (· < ·)
 pl:∀k∈ks,0<=k/\k<7
 ln:ks.length<=5
noncomputable abbrev DP (K:Frag):TE:=Dh (qx K) (bq (EZ (DA K) (pU (AF (bq (tC (V.int 7)) Bz)) (bw 0) (uw (kn Cz (wH EJ [] (λ_ _ _=>False) (bq (cc 1) (bq (tC (V.int 3)) Bz))) (tC (V.int 0)))) (cc 0) 1 [2]) zo (Bb (tC (V.int 5)))) Bz)
theorem sR (e:σ[2]?=some (some (.ref r)))(R:a7 H r)(q:∀a ks H',Pr ks->a7 H' r->SameBut r H H'->H' a=some (.tup (ks.map V.int))->Q (.ref a) H'):DP K σ H Q:=by
 have F4:σC 1 [2] σ=[none,some (.ref r)]:=by
  show none :: [σ[2]?.join]=_;rw[e];rfl
 refine⟨7,rfl,by decide,by decide,?_⟩;rw[F4]
 refine pf (lo:=0) (n:=(7:Int).toNat) (rest:=[some (.ref r)]) (λj us H'=>a7 H' r/\SameBut r H H'/\∃ks:List Int,us=ks.map V.int/\ks.Pairwise (· < ·)/\(∀k∈ks,0<=k/\k<(j:Int))/\ks.length<=j)
  ⟨R,λb o e _=>e,[],rfl,.nil,(λk hk=>by cases hk),Ye _⟩ (λj us H' hj h=>?_) (λj us H' N hj h k=>?_) (λus H' h=>?_)
 ·obtain⟨_,_,ks,rfl,_,_,hl⟩:=h;rw[Yg];exact Yo hl (Yo hj (by decide))
 ·obtain⟨⟨l,x,er,M4,M5⟩,S,ks,rfl,up,pl,hl⟩:=h;refine⟨_,rfl,r,l,x,3,rfl,er,M4,M5,by decide,by decide,λz l' r' RT HM Ik FN=>⟨rfl,_,rfl,?_⟩⟩;have R':a7 (upd H' r (.lst [.int l',.int r'])) r:=⟨l',r',ai,Ik,FN⟩
  have S':SameBut r H (upd H' r (.lst [.int l',.int r'])):=λb o e n=>by
   rw[aA n];exact S b o e n
  dsimp only
  split
  ·refine⟨_,rfl,k _ _ ⟨R',S',ks++[0+(j:Int)],by rw[Y2];rfl,?_,?_,?_⟩⟩
   ·refine List.pairwise_append.mpr ⟨up,Cn _ _,λa ha b hb=>?_⟩;rw[Zm.mp hb];have:=(pl a ha).2;omega
   ·intro a ha
    rcases YI.mp ha with h|h
    ·have:=pl a h;omega
    ·rw[Zm.mp h];omega
   ·rw[Yw];show _+1<=_;omega
  ·exact k _ _ ⟨R',S',ks,rfl,up,λa ha=>by have:=pl a ha;omega,by omega⟩
 ·obtain⟨R',S',ks,rfl,up,pl,hl⟩:=h;intro D hD;refine⟨5,rfl,D,_,rfl,bo.of ai,λp hp=>⟨p,_,rfl,.inl ⟨bo.of ai,λl hl=>?_⟩⟩⟩;rw[Bi,<-List.map_take];have s1:=(aq (o:=.lst (ks.map V.int)) hD).trans (aq (o:=.lst (ig (ks.map V.int) none (some 5))) hp);rw[Bi,<-List.map_take] at s1;have s2:=s1.trans (aq (o:=.tup ((ks.take 5).map V.int)) (by rwa[Bi,<-List.map_take] at hl));exact q l (ks.take 5) _ ⟨up.sublist (Ce _ _),λk hk=>pl k (Zq hk),by rw[Y8];omega⟩ (R'.same s2) (S'.trans (.of s2)) ai
theorem Pr.filter (h:Pr ks)(f:Int->Bool):Pr (ks.filter f):=⟨h.up.sublist yU,λk hk=>h.pl k (Y7.mp hk).1,Yq (Zx _ _) h.ln⟩
noncomputable abbrev BI (K:Frag):TE:=Dh (qx K) (bq (pU (BJ K (cc 4)) (bw 0) (uw (kn (yG K true) (cc 0) (cc 1))) (cc 0) 1 [3]) Bz)
theorem yf {ah al:Addr}(e3:σ[3]?=some (some (.ref ah)))(e4:σ[4]?=some (some (.ref al)))(hh:H ah=some (.tup (ks.map V.int)))(hl:H al=some (.tup (ms.map V.int)))(hm:ms.length<=5)
 (q:∀a H',aC H H'->H' a=some (.tup ((ms.filter λm=>!decide (m∈ks)).map V.int))->Q (.ref a) H'):BI K σ H Q:=by
 have F4:σC 1 [3] σ=[none,some (.ref ah)]:=by
  show none :: [σ[3]?.join]=_;rw[e3];rfl
 refine⟨_,e4,al,rfl,⟨_,aV.of hl⟩,?_⟩;rw[F4];refine dY (K:=K) (xs:=ms.map V.int) (rest:=[some (.ref ah)]) (λj us H'=>H=H'/\us=((ms.take j).filter λm=>!decide (m∈ks)).map V.int) ⟨rfl,rfl⟩ (λj us H' hj h=>?_) (λj x us H' N hj hx h k=>?_) (λus H' h=>?_)
 ·obtain⟨rfl,rfl⟩:=h;refine⟨?_,aV.of hl⟩;rw[Yg];refine Yo (Zx _ _) ?_;rw[Y8];exact Yo (ZP _ _) (Yo hm (by decide))
 ·obtain⟨rfl,rfl⟩:=h;rw[YU] at hx;obtain⟨m,em,rfl⟩:=YH.mp hx;refine⟨_,rfl,_,rfl,ah,_,rfl,.inr (aV.of hh),rfl,da ks,_,rfl,?_⟩
  have tk:(ms.take (j+1)).filter (λm=>!decide (m∈ks))=(ms.take j).filter (λm=>!decide (m∈ks))++[m].filter λm=>!decide (m∈ks):=by
   rw[YE,em,ZV];rfl
  rw[show(if true=true then !fQ (V.int m) (ks.map V.int) else fQ (V.int m) (ks.map V.int)) = !decide (m∈ks) from by rw[Yh rfl,dH]];dsimp only
  split
  ·rename_i z
   refine⟨_,rfl,k _ _ ⟨rfl,?_⟩⟩;rw[tk,NI (by exact z),Y2];rfl
  ·rename_i z
   refine k _ _ ⟨rfl,?_⟩;rw[tk,u6 (by exact z),List.filter_nil,Zc]
 ·obtain⟨rfl,rfl⟩:=h;rw[Yg,Yv];intro D hD;refine⟨D,_,rfl,.inl ⟨bo.of ai,λl GG=>?_⟩⟩;exact q l _ ((aq hD).trans (aq GG)) ai
theorem Pr.br (hk:Pr ks)(hm:Pr ms):Br ks (ms.filter λm=>!decide (m∈ks)):=
 have f:=hm.filter λm=>!decide (m∈ks)
 ⟨hk.up,f.up,hk.pl,f.pl,λk h=>by
  have:=(Y7.mp h).2
  rwa[Z1,Zn] at this,hk.ln,f.ln⟩
theorem mJ (hk:Pr ks)(hm:Pr ms):C8 (.tuple [dP ks,dP ms]):=by
 have lk:=hk.ln;have lm:=hm.ln;exact eG (qV (y4 hk.pl) (by omega)) (qV (y4 hm.pl) (by omega)) (lp (by omega)) (lp (by omega))
noncomputable def EV (H:Hp)(xs:List V):Prop:=∀x∈xs,∃F d,Dt F H d x/\C8 d
theorem ju {F:Addr->Prop}{H0:Hp}{Q:List V->Hp->Prop}(h:dq F σ H0 te d)(s:aC H0 H)(q:∀v H',aC H H'->Dt F H' d v->ta σ H' λvs H2=>Q (v::vs) H2):bq te ta σ H Q:=h H _ s q
theorem B0 (h:ta σ H λvs H1=>vs.length<=sizeLine/\∀p,H1 p=none->Q (.ref p) (upd H1 p (.lst vs))):qL ta σ H Q:=h
theorem Ac {Q:List V->Hp->Prop}(h:te σ H λv H'=>ta σ H' λvs H2=>Q (v::vs) H2):bq te ta σ H Q:=h
theorem zB {K:Frag}{tl:TE}{g:TG}{tb:TS}{D:Ends}(h:tl σ H λx H1=>∃a,x=.ref a/\(∃xs,bo K H1 a xs)/\∃W:Nat->Nat->St->Hp->Prop,(∃m,W 0 m σ H1)/\∀i m σ H,W i m σ H →
 ((ze K a).stop i H/\D.nx σ H)\/((ze K a).go i H/\∃N:St->Hp->Prop,(∀σ' H',N σ' H'->∃m',m'<m/\W (i+1) m' σ' H')/\∀x H',(ze K a).yld i H x H'->g x σ H' λσ2 H2=>tb {D with nx:=N,ct:=N,bk:=D.nx} σ2 H2)):DT (AX K tl) g tb D σ H:=h
theorem sX (x:V):(!decide (x=x))=false:=by
 rw[YD rfl];rfl
theorem vE {ah al ap:Addr}{fs:List Int}(e2:σ[2]?=some (some (.ref r)))(e3:σ[3]?=some (some (.ref ah)))(e4:σ[4]?=some (some (.ref al)))(e5:σ[5]?=some (some (.ref ap)))(R:a7 H r)(hk:Pr ks)(hm:Pr ms)(hf:Pr fs)(hb:Br ks fs)
 (h3:H ah=some (.tup (ks.map V.int)))(h4:H al=some (.tup (ms.map V.int)))(h5:H ap=some (.tup (fs.map V.int)))(q:∀p xs H',a7 H' r->SameBut r H H'->H' p=some (.lst xs)->EV H' xs->Q (.ref p) H'):
 qL (bq (nt (bq (cc 3) (bq (cc 4) Bz))) (bq (nt (bq (cc 3) (bq (cc 5) Bz))) (bq (nt (bq (cc 5) (bq (cc 3) Bz))) (bq (wH v7 [] (λ_ _ _=>False) (bq (cc 2) (bq (cc 3) (bq (cc 5) Bz)))) (bq (nt (bq (nt Bz) (bq (nt Bz) Bz))) Bz))))) σ H Q:=by
 have d3:Dt (·≠r) H (dP ks) (.ref ah):=CV h3 (d9 ks);have d4:Dt (·≠r) H (dP ms) (.ref al):=CV h4 (d9 ms);have d5:Dt (·≠r) H (dP fs) (.ref ap):=CV h5 (d9 fs);have m3:=cA e3 d3;have m4:=cA e4 d4;have m5:=cA e5 d5;refine B0 ?_;refine ju (aQ (av m3 (av m4 aL)) (by simp)) (aC.refl _) λv1 H1 s1 t1=>?_;refine ju (aQ (av m3 (av m5 aL)) (by simp)) s1 λv2 H2 s2 t2=>?_;refine ju (aQ (av m5 (av m3 aL)) (by simp)) (s1.trans s2) λv3 H3 s3 t3=>?_;have S3:=(s1.trans s2).trans s3;refine Ac ⟨_,e2,_,e3,_,e5,r,ah,ap,ks,fs,rfl,R.same S3,S3 _ _ h3,S3 _ _ h5,hb,λH4 v4 R4 S4 t4=>?_⟩;have k4:=bc.but (R.same S3) S4;refine ju (F:=(·≠r)) (H0:=H4) (aQ (av (aQ aL (by simp)) (av (aQ aL (by simp)) aL)) (by simp)) (aC.refl _) λv5 H5 s5 t5=>?_;refine⟨(by decide:5<=sizeLine),λp hp=>?_⟩;have s6:=s5.trans (aq (o:=.lst [v1,v2,v3,v4,v5]) hp);have k6:=bc.trans k4 (bc.of s6);refine q p _ _ (R4.same s6) (((SameBut.of S3).trans S4).trans (.of s6)) ai λx hx=>?_;obtain⟨d,t4,VL⟩:=t4;simp only[Yn,ZA,EE] at hx;have KW:Pr []:=⟨.nil,(λk hk=>by cases hk),Yt _⟩
 rcases hx with rfl|rfl|rfl|rfl|rfl
 ·exact⟨_,_,Dt.keep (bc.trans (bc.of (s2.trans s3)) k6) _ _ t1,mJ hk hm⟩
 ·exact⟨_,_,Dt.keep (bc.trans (bc.of s3) k6) _ _ t2,mJ hk hf⟩
 ·exact⟨_,_,Dt.keep k6 _ _ t3,mJ hf hk⟩
 ·exact⟨_,d,Dt.keep (bc.of s6) _ _ t4,VL⟩
 ·exact⟨_,_,Dt.keep (bc.of (aq hp)) _ _ t5,mJ KW KW⟩
noncomputable abbrev xw:Stmt:=(ba 54)
noncomputable def w8 (K:Frag):Sp:=λvs H Q _=>∃(a:Addr)(ns:List Int),vs=[.ref a]/\yE K H a ns/\ns.length<=63/\∀H',Q (.bl true) H'
theorem hX:CN ["_law_script","_law_k","_law_room_here","_law_held","_law_lacked","_law_apart","_law_thing","_law_kept","_law_found"] ["_law_script"] (ar xw):=fe (by decide +kernel)
set_option maxHeartbeats 2000000 in
theorem Be {f C CF:Addr}{fd:BB}(F:vP K "law" "law" xw f fd)(hS:pA K)(Ge:mg "max"=none)(Hw:mg "min"=none)(Fz:mg "len"=none)(FD:mg "range"=none)(Fu:mg "tuple"=none)(Gh:mg "repr"=none)(Fs:mg "isinstance"=none)(Gi:mg "bool"=none)
 (q0:Ca P w K mg base 1 Ew "_law_room" (ya K))
 (q1:Ca P w K mg base 1 wQ "_law_take" EJ)
 (q2:Ca P w K mg base 2 qM "_law_bent" v7)
 (q3:Ca P w K mg base 4 p4 "is_bracket" zK)
 (q4:Ca P w K mg base 3 ES "_law_is_bracket" wg)
 (q5:Ca P w K mg base 9 qM "_law_right" (t9 C CF)):
 yd P w K mg base (cD P w) 10 f fd ["_law_script"] (w8 K):=by
 obtain⟨X4,VM,VN,VO,VP,VQ⟩:=q0;obtain⟨VH,OR,Nr,Nt,Nu,Nv⟩:=q1;obtain⟨X5,VR,VS,VT,VU,VV⟩:=q2;obtain⟨X6,VW,VX,VY,VZ,V0⟩:=q3;obtain⟨X7,V1,V2,V3,V5,V6⟩:=q4;obtain⟨X8,V7,V8,V9,Wa,Wc⟩:=q5;refine F.okN hX (λvs H Q E h=>?_) (λFv A outer s H vs Q E hr h=>?_)
 ·obtain⟨a,ns,rfl,_⟩:=h;rfl
 ·obtain⟨a,ns,rfl,RU,hlen,fin⟩:=h;have KY:xh 9 _:=hr;have GW:xh 4 _:=KY.mono (by decide);have GZ:xh 3 _:=KY.mono (by decide);have GL:xh 2 _:=KY.mono (by decide);have FN:xh 1 _:=KY.mono (by decide)
  refine⟨_,(au (dW Y4 rfl (dR (by rfl) FD (aj (aE (aav rfl) (by rfl) Ge (by rfl) (aj ak (aj (aE (aaD rfl) (by rfl) Hw (by rfl) (aj (aE bJ (by rfl) Fz ZU (aj (pv 0) ag rfl)) (aj ak ag rfl) rfl)) ag rfl) rfl)) ag rfl)) (aD (i:=1) hX.nd rfl (Or.inl rfl))
   (au (@aX _ _ 2 _ _ _ _ hX.nd rfl (Or.inr rfl) (aH VN FN (by rfl) VP VQ VO .nil ao (aj (pv 0) (aj (pv 1) ag rfl) rfl)) rfl (Or.inl rfl))
   (au (@aX _ _ 3 _ _ _ _ hX.nd rfl (Or.inr rfl) (bt (fE (K:=K) rfl) (by rfl) Fu (by rfl) (aj (kI sJ (bY (N:=["_law_place","_law_room_here"]) (nl:=1) (js:=[2]) (osc:=ar xw) ⟨rfl,rfl,by decide +kernel,by decide +kernel,by decide +kernel,rfl,(.cons ⟨rfl,by decide +kernel⟩ .nil),by decide +kernel⟩ rfl
    (dR (by rfl) FD (aj ak ag rfl))
    (λCq fq sq Hq=>aD (i:=0) (by show(["_law_place","_law_room_here"]:EG).Nodup;decide +kernel) rfl (Or.inl rfl) (Or.inr rfl))
    (λCq fq sq Hq=>(dI (aN fN (aH Nr FN (by rfl) Nu Nv Nt .nil ao (aj (pv 1) (aj ak ag rfl) rfl)) ak (aU _))))
    (λCq fq sq Hq=>(pv 0))) nj (mX ak)) ag rfl)) rfl (Or.inl rfl))
   (au (@aX _ _ 4 _ _ _ _ hX.nd rfl (Or.inl rfl) (bt (fE (K:=K) rfl) (by rfl) Fu (by rfl) (aj (kI sJ (bY (N:=["_law_place","_law_room_here"]) (nl:=1) (js:=[2]) (osc:=ar xw) ⟨rfl,rfl,by decide +kernel,by decide +kernel,by decide +kernel,rfl,(.cons ⟨rfl,by decide +kernel⟩ .nil),by decide +kernel⟩ rfl
    (dR (by rfl) FD (aj ak ag rfl))
    (λCq fq sq Hq=>aD (i:=0) (by show(["_law_place","_law_room_here"]:EG).Nodup;decide +kernel) rfl (Or.inl rfl) (Or.inr rfl))
    (λCq fq sq Hq=>(dI (aN fN (aH Nr FN (by rfl) Nu Nv Nt .nil ao (aj (pv 1) (aj ak ag rfl) rfl)) ak (aU _))))
    (λCq fq sq Hq=>(pv 0))) nj (mX ak)) ag rfl)) rfl (Or.inl rfl))
   (au (@aX _ _ 5 _ _ _ _ hX.nd rfl (Or.inl rfl) (bt (fE (K:=K) rfl) (by rfl) Fu (by rfl) (aj (bY (N:=["_law_place","_law_held"]) (nl:=1) (js:=[3]) (osc:=ar xw) ⟨rfl,rfl,by decide +kernel,by decide +kernel,by decide +kernel,rfl,(.cons ⟨rfl,by decide +kernel⟩ .nil),by decide +kernel⟩ rfl
    (dB (pv 4))
    (λCq fq sq Hq=>aD (i:=0) (by show(["_law_place","_law_held"]:EG).Nodup;decide +kernel) rfl (Or.inl rfl) (Or.inr rfl))
    (λCq fq sq Hq=>(dI (aN (show eA _ _ (yG K true) from dF) (pv 0) (pv 1) (by rfl))))
    (λCq fq sq Hq=>(pv 0))) ag rfl)) rfl (Or.inl rfl))
   (au (dW Y4 rfl (dM (cE (aj (aJ (aj (pv 3) (aj (pv 4) ag rfl) rfl)) (aj (aJ (aj (pv 3) (aj (pv 5) ag rfl) rfl)) (aj (aJ (aj (pv 5) (aj (pv 3) ag rfl) rfl)) (aj (aH VS GL (by rfl) VU VV VT .nil ao (aj (pv 2) (aj (pv 3) (aj (pv 5) ag rfl) rfl) rfl)) (aj (aJ (aj (aJ ag) (aj (aJ ag) ag rfl) rfl)) ag rfl) rfl) rfl) rfl) rfl))) (aD (i:=6) hX.nd rfl (Or.inl rfl))
   (au (@aX _ _ 7 _ _ _ _ hX.nd rfl (Or.inl rfl) (aE (jw FN hS) (by rfl) Gh (by rfl) (aj (pv 6) ag rfl)) rfl (Or.inl rfl))
   (au (@aX _ _ 8 _ _ _ _ hX.nd rfl (Or.inl rfl) (aH VX GW (by rfl) VZ V0 VY .nil ao (aj (pv 6) ag rfl)) rfl (Or.inl rfl))
   (ax (bF (PW.pt (dE (bN (bO (aE aZ (by rfl) Fs (by rfl) (aj (pv 8) (aj (cC (by rfl) Gi (by rfl) (show aG (.ty "bool") (.type "bool") from rfl)) ag rfl) rfl)))) (dE (aN fW (pv 8) (aH V2 GZ (by rfl) V5 V6 V3 .nil ao (aj (pv 6) ag rfl)) (aU _)) (dD (aN fW (aE (jw FN hS) (by rfl) Gh (by rfl) (aj (pv 6) ag rfl)) (pv 7) (aU _)))))) (ax (aF eB)) aS)))))
   (ax (bF (bN (bO (aH V8 KY (by rfl) Wa Wc V9 .nil ao (aj (pv 2) (aj (pv 3) (aj (pv 5) ag rfl) rfl) rfl)))) (ax (aF eB)) aS))))))))
   (ax (aF eB))),?_⟩
  refine⟨_,rfl,a,_,rfl,.inl RU.sq,_,_,rfl,_,_,rfl,_,rfl,?_,?_,?_⟩
  ·rw[Yg]
   split <;> split <;> omega
  ·rw[Yg]
   split <;> split <;> omega
  refine lN (lo:=0) (λi σ H'=>(∃o1 o2 o3 o4 o5 o6 o7 o8,σ=[some (.ref a),o1,o2,o3,o4,o5,o6,o7,o8])/\yE K H' a ns) ⟨⟨_,_,_,_,_,_,_,_,rfl⟩,RU⟩ ?_ ?_
  ·rintro i σ G0 hi ⟨⟨o1,o2,o3,o4,o5,o6,o7,o8,rfl⟩,OT⟩
   have Wd:i<60:=by
    rw[Yg] at hi
    split at hi <;> split at hi <;> omega
   refine⟨_,rfl,_,rfl,a,ns,0+(i:Int),rfl,OT.sq,hlen,by omega,by omega,λr l1 r1 Ik FN GL=>?_⟩;have S1:=aq (o:=.lst [.int l1,.int r1]) Ik;have OU:=OT.same S1;have R1:a7 (upd G0 r (.lst [.int l1,.int r1])) r:=⟨l1,r1,ai,FN,GL⟩;generalize (upd G0 r (.lst [.int l1,.int r1]))=G1 at OU R1 |-;clear OT Ik S1;dsimp only[bw,rE,lr];refine sR rfl R1 λah ks G2 hk R2 S2 h2=>?_;refine sR rfl R2 λal ms G3 hm R3 S3 h3=>?_;have RV:=(OU.but R1 S2).but R2 S3;have h23:=R2.adE S3 _ _ h2;clear OU S2 S3 h2 R1 R2;refine yf rfl rfl h23 h3 hm.ln λap G4 S4 h4=>?_;have We:=RV.same S4;have R4:=R3.same S4;have a4:=S4 _ _ h23;have l4:=S4 _ _ h3;have hb:=hk.br hm;have hf:=hm.filter λm=>!decide (m∈ks);clear RV R3 S4 h23 h3;generalize (ms.filter λm=>!decide (m∈ks))=fs at h4 hb hf;refine zB (K:=K) ?_;refine vE rfl rfl rfl rfl R4 hk hm hf hb a4 l4 h4 λp xs G5 R5 S5 h5 ad=>?_;have Wf:=We.but R4 S5;have a5:=R4.adE S5 _ _ a4;have p5:=R4.adE S5 _ _ h4;refine⟨p,rfl,⟨_,bo.of h5⟩,?_⟩;refine ij (K:=K) (xs:=xs) (λj σ H'=>(∃o6 o7 o8,σ=[some (.ref a),some (.int (0+(i:Int))),some (.ref r),some (.ref ah),some (.ref al),some (.ref ap),o6,o7,o8])/\aC G5 H') ⟨⟨_,_,_,rfl⟩,aC.refl _⟩ (λj σ H' _ h=>bo.of (h.2 _ _ h5)) ?_ ?_
   ·rintro j x σ H' hx ⟨⟨o6,o7,o8,rfl⟩,s5⟩;obtain⟨F',d,dt,ok⟩:=ad x (YA hx);have dt:=Dt.keep (bc.of s5) _ _ dt;obtain⟨o,bx,sh,rp⟩:=o9 (K:=K) dt ok;refine⟨_,rfl,x,_,rfl,rp,?_⟩;refine⟨_,rfl,x,o,rfl,bx,λH6 s6=>?_⟩;refine⟨_,rfl,_,_,_,_,true,rfl,rfl,(Th.bl (ET o)).ty,rfl,true,rfl,?_⟩;refine⟨_,rfl,_,rfl,x,o,rfl,bx.same s6,sh,λH7 s7=>⟨rfl,_,rfl,?_⟩⟩;have Wg:=Dt.keep (bc.of (s6.trans s7)) _ _ dt;obtain⟨_,_,_,Wh⟩:=o9 (K:=K) Wg ok;rw[sX];refine⟨_,rfl,x,_,rfl,Wh,_,rfl,rfl,_,rfl,?_⟩;rw[sX];exact⟨⟨_,_,_,rfl⟩,(s5.trans s6).trans s7⟩
   ·rintro σ H' ⟨⟨o6,o7,o8,rfl⟩,s5⟩;refine⟨_,rfl,_,rfl,_,rfl,r,ah,ap,ks,fs,rfl,R5.same s5,s5 _ _ a5,s5 _ _ p5,hb,λH8 R8 S8=>⟨true,rfl,?_⟩⟩;exact⟨⟨_,_,_,_,_,_,_,_,rfl⟩,(Wf.same s5).but (R5.same s5) S8⟩
  ·rintro σ H' _;exact fin H'
end K44
namespace Hd
open PySem PySem.W PyProof.Rows
noncomputable def oQ (K:Frag)(x qual:Str)(st:Stmt)(f:Addr):Prop:=∃(oc:Value)(od:vA)(kV doc pm:Value)(an:vA)(Fv ct:Value)(FX:CI),
 K.lookup f=some ⟨oc,od,.func (fnOf x qual (L2.cL st) (L2.cj st) (L2.ar st) .none kV doc pm an Fv ct),FX⟩/\codeIn K Fv qual=true/\keepIn K (.ref f)=true
variable {K:Frag}{x qual:Str}{st:Stmt}
theorem rA {v:Option (Option Value)}(h:a8 K v=eh x qual st)(b:dS K v qual=true):v=some (some (.ref (df v)))/\oQ K x qual st (df v):=by
 unfold a8 at h;obtain⟨fd,e,s⟩:=YH.mp (show(oU K v).map Bc=some _ from h);unfold dS at b;rw[e] at b;rw[Yy] at b;unfold oU at e
 split at e
 ·rename_i f
  split at e
  ·rename_i oc od Wi FX hl
   cases e
   refine⟨rfl,oc,od,fd.kwdefaults,fd.doc,fd.pyModule,fd.annotations,fd.code,fd.closureTuple,FX,?_,b.2,b.1⟩;show K.lookup f=_;rw[hl];obtain⟨n,q,p,bd,sc,g,c,dv,kv,dc,pm,an,cd,ct,bl⟩:=fd;unfold Bc at s;simp only[Prod.mk.injEq] at s;obtain⟨rfl,rfl,rfl,rfl,rfl,rfl,rfl,rfl,rfl⟩:=s;rfl
  ·cases e
 ·cases e
variable {f:Addr}
theorem oQ.fn (d:oQ K x qual st f):∃fd,L2.vP K x qual st f fd:=by
 obtain⟨oc,od,kV,doc,pm,an,Fv,ct,FX,l,c,k⟩:=d;exact⟨_,L2.aaT l c k⟩
theorem oQ.keep (d:oQ K x qual st f):keepIn K (.ref f)=true:=by
 obtain⟨oc,od,kV,doc,pm,an,Fv,ct,FX,l,c,k⟩:=d;exact k
noncomputable def yt (K:Frag)(x qual:Str)(st:Stmt)(f T:Addr):Prop:=∃(oc:Value)(od:vA)(kV doc pm:Value)(an:vA)(Fv ct:Value)(FX:CI),
 K.lookup f=some ⟨oc,od,.func (fnOf x qual (L2.cL st) (L2.cj st) (L2.ar st) (.ref T) kV doc pm an Fv ct),FX⟩/\codeIn K Fv qual=true/\keepIn K (.ref f)=true
theorem jr {v:Option (Option Value)}(h:gR K v=eh x qual st)(b:dS K v qual=true)(d:qw K v=true):v=some (some (.ref (df v)))/\yt K x qual st (df v) (nH K v):=by
 unfold gR at h;obtain⟨fd,e,s⟩:=YH.mp (show(oU K v).map (λfd=>Bc {fd with defaults:=.none})=some _ from h)
 have hd:fd.defaults=.ref (nH K v):=by
  unfold qw Ed at d;unfold nH Ed;rw[e] at d |-;dsimp only at d |-
  cases q:fd.defaults with
  |ref a=>rfl
  |_=>rw[q] at d;cases d
 unfold dS at b;rw[e] at b;rw[Yy] at b;generalize nH K v=T at hd;unfold oU at e
 split at e
 ·rename_i f
  split at e
  ·rename_i oc od Wi FX hl
   cases e
   refine⟨rfl,oc,od,fd.kwdefaults,fd.doc,fd.pyModule,fd.annotations,fd.code,fd.closureTuple,FX,?_,b.2,b.1⟩;show K.lookup f=_;rw[hl];obtain⟨n,q,p,bd,sc,g,c,dv,kv,dc,pm,an,cd,ct,bl⟩:=fd;unfold Bc at s;simp only[Prod.mk.injEq] at s;have hd:dv=.ref T:=hd;subst hd;obtain⟨rfl,rfl,rfl,rfl,rfl,rfl,rfl,_,rfl⟩:=s;rfl
  ·cases e
 ·cases e
theorem yt.fn {T:Addr}(d:yt K x qual st f T):∃fd,L2.rK K x qual st f fd T:=by
 obtain⟨oc,od,kV,doc,pm,an,Fv,ct,FX,l,c,k⟩:=d;exact⟨_,L2.adz l c k⟩
theorem yt.keep {T:Addr}(d:yt K x qual st f T):keepIn K (.ref f)=true:=by
 obtain⟨oc,od,kV,doc,pm,an,Fv,ct,FX,l,c,k⟩:=d;exact k
theorem pM:∀{vs:m8}{ns:List Int},rZ vs ns=true->L2.aR (ns.map L2.V.int) vs
 |[],[],_=>.nil
 |v::vs,n::ns,h=>by
  unfold rZ at h;rw[Yy] at h;obtain⟨t,rfl⟩:=iP h.1;exact .cons ⟨t,rfl⟩ (pM h.2)
 |[],_::_,h=>by cases h
 |_::_,[],h=>by cases h
theorem rW {a:Addr}{ns:List Int}(h:xp K a ns=true)(H:L2.Hp):L2.aV K H a (ns.map L2.V.int):=by
 unfold xp at h
 split at h
 ·rename_i o ho
  rw[Yy] at h;obtain⟨h1,h2⟩:=h
  split at h1
  ·rename_i T hT
   split at h2
   ·rename_i its n hd
    rw[Yy] at h2
    have:T="tuple":=by simpa using h1
    subst this;exact .inr ⟨o,its,n,ho,hT,hd,Zg h2.2,pM h2.1⟩
   ·cases h2
  ·cases h1
 ·cases h
theorem tV (h:yx K=true):L2.pA K:=by
 unfold yx at h
 split at h
 ·rename_i o ho
  split at h
  ·rename_i T hT
   have:T="dict":=by simpa using h
   subst this;exact⟨o,ho,hT⟩
  ·cases h
 ·cases h
open L2 in
theorem u9 {l:OpenLaw}{n k:Nat}{q:wu}{loose:EG}{XP:(Str->Option Value)->Heap->Prop}{YP:World->Heap->Prop}{d:DefRec}{CX:World->EM}{sp:Frag->Sp}{x:Str}{φ:Frag->Prop}{tabs:Frag->List (Addr×Addr)}
 (hn:l.most=some n)(JE:n<=sizeLine)(J7:d.params.defaults=[])(hr:xh k callerA)
 (hY:∀(w:World)(h:Heap),YP w h->∃K:Frag,φ K/\K.In h)
 (hT:∀(w:World)(s₀:Ci)(mg mb:vx)(h:Heap)(K:Frag),φ K->Ground q loose [] XP w s₀ mg mb h->K.In h->TabsAt (tabs K) h/\∀r∈tabs K,K.lookup r.2=none)
 (F:∀(w:World)(K:Frag)(mg:vx)(fa:Addr)(h:Heap),φ K->K.In h->h.Ns mainGlobals mg->mg d.name=some (.ref fa) →
  ∃fd:FuncData,(∀(s:Ci)(u:Value),BindsTo s fd ⟨[u],[]⟩ [(x,u)])/\∀base:Heap,K.In base->base.Ns mainGlobals mg->uE (tabs K) mg base->yd l.prog w K mg base (CX w) k fa fd [x] (sp K))
 (GY:∀(K:Frag)(H:Hp)(a:Addr)(ns:List Int),ns.length<=n->xK (tabs K) H->bo K H a (ns.map V.int)->sp K [.ref a] H (λv _=>v=.bl true) λ_ _ _=>False)
 (NY:∀(w:World)(H:Hp)(s:Ci)(e:Value)(s':Ci),CX w [] H s (λ_ _ _=>False) e s'->False):
 WalkO q loose XP YP l.row.toRowW d [] (λf vs=>PySem.call f vs):=by
 refine QP.aaP hn J7 λw s₀ s₁ mg mb fa o pm cd doc a vs ns G Y ho hd Gg NS IW hints hlen hg=>?_;obtain⟨K,hφ,KX⟩:=hY w _ Y;obtain⟨fd,hb,hF⟩:=F w K mg fa _ hφ KX G.T.g NS;obtain⟨t1,t2⟩:=hT w s₀ mg mb _ K hφ G KX;exact ady KX G.T.g G.T.b G.T.builtins G.T.nolimit hg IW hints (Yq hlen JE) hr t1 t2 G.T.bmain hF hb (λH hO hS=>GY K H a ns hlen hO hS) λH e s'=>NY w H s₁ e s'
end Hd
namespace K44
open PySem L2 PySem.W Nm
open Hd (gv ga fv df gH dn dJ bu ny eE tO iJ dS a8 gR eh qw nH qz ia wo nN Eo iP uI jn xp yx rA jr rW tV)
section
variable {α:Type}{M:List α->Prop}
theorem yV (h:∀a,M [a]):∀us:List α,us.length=1->M us
 |[a],_=>h a
theorem Fi (h:∀a b,M [a,b]):∀us:List α,us.length=2->M us
 |[a,b],_=>h a b
theorem nv (h:∀a b c,M [a,b,c]):∀us:List α,us.length=3->M us
 |[a,b,c],_=>h a b c
end
section
variable {K:Frag}{f T:Addr}{fd:BB}{oT:Obj}{t:Tok}{n:Nat}
theorem BZ (F:rK K "__init__" "Field.__init__" yc f fd T)(lT:K.lookup T=some oT)(dT:oT.data=.seq #[.int 0 t] n):L2.ck K fd CR [.int 0 t]:=by
 obtain⟨oc,od,kV,doc,pm,an,Fv,ct,FX,rfl,lk,Gg⟩:=F.ex;intro s us KX hl
 cases us with
 |nil=>simp at hl
 |cons a0 r1 =>
  cases r1 with
  |nil=>exact binds_K KX rfl lT dT rfl rfl
  |cons a r=>simp at hl
theorem Bf (F:rK K "made" "Field.made" xC f fd T)(lT:K.lookup T=some oT)(dT:oT.data=.seq #[.int 1 t] n):L2.ck K fd BD [.int 1 t]:=by
 obtain⟨oc,od,kV,doc,pm,an,Fv,ct,FX,rfl,lk,Gg⟩:=F.ex;intro s us KX hl
 cases us with
 |nil=>simp at hl
 |cons a0 r1 =>
  cases r1 with
  |nil=>simp at hl
  |cons a1 r2 =>
   cases r2 with
   |nil=>exact binds_K KX rfl lT dT rfl rfl
   |cons a r=>simp at hl
theorem CW (F:rK K "__init__" "Sum.__init__" qG f fd T)(lT:K.lookup T=some oT)(dT:oT.data=.seq #[.none] n):L2.ck K fd Ah []:=by
 obtain⟨oc,od,kV,doc,pm,an,Fv,ct,FX,rfl,lk,Gg⟩:=F.ex;intro s us KX hl
 cases us with
 |nil=>simp at hl
 |cons a0 r1 =>
  cases r1 with
  |nil=>simp at hl
  |cons a1 r2 =>
   cases r2 with
   |nil=>simp at hl
   |cons a2 r3 =>
    cases r3 with
    |nil=>exact binds_K KX rfl lT dT rfl rfl
    |cons a r=>simp at hl
end
section
variable {K:Frag}{x qual n:Str}{st:Stmt}{ps:EG}
theorem iE {mg:vx}{h:Heap}(X:K.In h)(G:h.Ns mainGlobals mg)(s:a8 K (gv K n)=eh x qual st)(b:dS K (gv K n) qual=true)(hb:∀(kV doc pm:Value)(an:vA)(Fv ct:Value)(us:m8),us.length=ps.length->bindArgs (PySem.W.fnOf x qual (cL st) (cj st) (ar st) .none kV doc pm an Fv ct) ⟨us,[]⟩=pure (ps.zip us)):∃fd,vP K x qual st (ga K n) fd/\L2.ck K fd ps []/\mg n=some (.ref (ga K n))/\keepIn K (.ref (ga K n))=true:=by
 obtain⟨e,d⟩:=rA s b;obtain⟨fd,F⟩:=d.fn;exact⟨fd,F,F.binds hb,mg_of X G e,d.keep⟩
theorem y0 {c:Str}(s:a8 K (fv K c n)=eh x qual st)(b:dS K (fv K c n) qual=true)(i:isFn K (.ref (df (fv K c n)))=true)(hb:∀(kV doc pm:Value)(an:vA)(Fv ct:Value)(us:m8),us.length=ps.length->bindArgs (PySem.W.fnOf x qual (cL st) (cj st) (ar st) .none kV doc pm an Fv ct) ⟨us,[]⟩=pure (ps.zip us)):∃fd,vP K x qual st (df (fv K c n)) fd/\L2.ck K fd ps []/\L2.Meth K (ga K c) n (df (fv K c n))/\findIn K (.ref (ga K c)) n=some (some (.ref (df (fv K c n))))/\isFn K (.ref (df (fv K c n)))=true:=by
 obtain⟨e,d⟩:=rA s b;obtain⟨fd,F⟩:=d.fn;exact⟨fd,F,F.binds hb,⟨e,i,d.keep⟩,e,i⟩
end
noncomputable def yv (_:World)(h:Heap):Prop:=∃K:Frag,uX K=dueK/\K.In h
theorem yR (w:World)(s:Ci)(e:uX (Hd.xr rT s.heap)=dueK):yv w s.heap:=⟨_,e,Hd.mH _ _⟩
theorem rj (w:World)(h h':Heap)(y:yv w h)(k:∀(b:Addr)(o:Obj),h.get? b=some o->h'.get? b=some o):yv w h':=let⟨K,e,i⟩:=y;⟨K,e,λa o q=>k a o (i a o q)⟩
set_option maxHeartbeats 0 in
theorem qB {l:OpenLaw}{w:World}{K:Frag}{mg:vx}{h:Heap}{fa:Addr}(o:uX K=dueK)(X:K.In h)(G:h.Ns mainGlobals mg)(Wj:mg "law"=some (.ref fa)):
 ∃fd:FuncData,(∀(s:Ci)(v:Value),BindsTo s fd ⟨[v],[]⟩ [("_law_script",v)])/\∀base:Heap,K.In base->base.Ns mainGlobals mg->uE [] mg base->yd l.prog w K mg base (cD l.prog w) 10 fa fd ["_law_script"] (w8 K):=by
 obtain⟨o1,o2⟩:=En (show(ql K,_)=(true,_) from o);simp only[List.cons.injEq,and_true] at o2;obtain⟨s0,s1,s2,s3,s4,s5,s6,s7,s8,s9,Wk,Wl,Gz,Wm,Wn,Wo,Wq,Wr,Ws,Wt,Wu,Wv,Ww,Wx,Wy,Wz,WA,WB,WC,WD,WE,WG,WH,WI,WJ,KP,WK,WL,WM,WN⟩:=o2;unfold ql at o1;simp only[Yy] at o1;obtain⟨g0,g1,g2,g3,g4,g5,g6⟩:=o1;unfold E8 at g0;simp only[Yy] at g0;obtain⟨h0,h1,h2,h3,h4,h5,h6,h7,h8,h9,h10,h11,h12,h13,h14,h15⟩:=g0;unfold E2 at g1;simp only[Yy] at g1;obtain⟨h16,h17,h18,h19,h20,h21,h22,h23,h24,h25,h26,h27,h28,h29,h30,h31⟩:=g1;unfold E1 at g2;simp only[Yy] at g2;obtain⟨h32,h33,h34,h35,h36,h37,h38,h39,h40,h41,h42,h43,h44,h45,h46,h47⟩:=g2;unfold EX at g3;simp only[Yy] at g3;obtain⟨h48,h49,h50,h51,h52,h53,h54,h55,h56,h57,h58,h59,h60,h61,h62,h63⟩:=g3;unfold E9 at g4;simp only[Yy] at g4;obtain⟨h64,h65,h66,h67,h68,h69,h70,h71,h72,h73,h74,h75,h76,h77,h78,h79⟩:=g4;unfold Fe at g5;simp only[Yy] at g5;obtain⟨h80,h81,h82,h83,h84,h85,h86,h87,h88,h89,h90,h91,h92,h93,h94,h95⟩:=g5;unfold E5 at g6;simp only[Yy] at g6;obtain⟨h96,h97,h98,h99,h100,h101,h102,h103,h104,h105,h106,h107,h108,h109,h110⟩:=g6;have m:=λ{n:Str}{v:Value}(e:nsIn K mainGlobals n=some (some v))=>mg_of X G e;have m0:=λ{n:Str}(e:nsIn K mainGlobals n=some none)=>mg_none_of X G e;have Fs:=m0 (bu h0);have F6:=m0 (bu h1);have Gi:=m0 (bu h2);have Iv:=m0 (bu h3);have Fz:=m0 (bu h4);have Fu:=m0 (bu h5);have FY:=m0 (bu h6);have Hv:=m0 (bu h7);have Hl:=m0 (bu h8);have FA:=m0 (bu h9);have FO:=m0 (bu h10);have Fw:=m0 (bu h11);have Ge:=m0 (bu h12);have Hw:=m0 (bu h13);have Gf:=m0 (bu h14);have FD:=m0 (bu h15);have Gh:=m0 (bu h16);have KZ:=m (dn h17);have Ib:=m (dn h18);have GA:=m (dn h19);have F7:=m (dn h20);have GX:=m (dn h21);have Hy:=m (dn h22);obtain⟨Iw,GB⟩:=jn h23;have FH:=m GB;obtain⟨HQ,F9⟩:=jn h24;have Ga:=m F9;obtain⟨RW,OV,Hz,GC,HA⟩:=iE X G (ps:=["thing"]) s0 h25 λ_ _ _ _ _ _=>yV λ_=>rfl;obtain⟨RX,OW,OX,K0,OY⟩:=iE X G (ps:=["thing"]) s1 h26 λ_ _ _ _ _ _=>yV λ_=>rfl;obtain⟨RY,OZ,K1,Iy,K2⟩:=iE X G (ps:=["thing"]) s2 h27 λ_ _ _ _ _ _=>yV λ_=>rfl;obtain⟨RZ,O0,O3,K3,O4⟩:=iE X G (ps:=["thing"]) s3 h28 λ_ _ _ _ _ _=>yV λ_=>rfl;obtain⟨R0,O5,O6,K4,O7⟩:=iE X G (ps:=["field","thing"]) s4 h29 λ_ _ _ _ _ _=>Fi λ_ _=>rfl;obtain⟨R6,O8,O9,K5,Pa⟩:=iE X G (ps:=["field","terms"]) s5 h30 λ_ _ _ _ _ _=>Fi λ_ _=>rfl;obtain⟨Sa,Pb,Pc,K6,WO⟩:=iE X G (ps:=["term"]) s6 h31 λ_ _ _ _ _ _=>yV λ_=>rfl;obtain⟨Sb,Pd,Pe,K7,Pf⟩:=iE X G (ps:=["field","terms"]) s7 h32 λ_ _ _ _ _ _=>Fi λ_ _=>rfl;obtain⟨Sd,Pg,K8,Iz,K9⟩:=iE X G (ps:=["one","other"]) s8 h33 λ_ _ _ _ _ _=>Fi λ_ _=>rfl;obtain⟨Se,Ph,La,IA,Lc⟩:=iE X G (ps:=["top","bottom"]) s9 h34 λ_ _ _ _ _ _=>Fi λ_ _=>rfl;obtain⟨Pj,Le,Lf,Jn,Lg⟩:=iE X G (ps:=["number","prime"]) Wk h35 λ_ _ _ _ _ _=>Fi λ_ _=>rfl;obtain⟨Pk,Lh,Li,Jo,Lj⟩:=iE X G (ps:=["bracket"]) Wl h36 λ_ _ _ _ _ _=>yV λ_=>rfl;obtain⟨Pn,Lk,Ll,Jp,Lm⟩:=iE X G (ps:=["thing"]) Gz h37 λ_ _ _ _ _ _=>yV λ_=>rfl;obtain⟨Po,Ln,Lo,Jq,Lp⟩:=iE X G (ps:=["_law_script","_law_k"]) Wm h38 λ_ _ _ _ _ _=>Fi λ_ _=>rfl;obtain⟨Pp,Lq,HB,GN,HC⟩:=iE X G (ps:=["_law_room_here","_law_many"]) Wn h39 λ_ _ _ _ _ _=>Fi λ_ _=>rfl;obtain⟨Pq,Ls,Lu,Jr,Lv⟩:=iE X G (ps:=["_law_top","_law_base"]) Wo h40 λ_ _ _ _ _ _=>Fi λ_ _=>rfl;obtain⟨Pt,Lw,IB,HD,IC⟩:=iE X G (ps:=["_law_prime","_law_top","_law_base"]) Wq h41 λ_ _ _ _ _ _=>nv λ_ _ _=>rfl;obtain⟨Pu,Lx,Ly,Js,Lz⟩:=iE X G (ps:=["_law_prime","_law_one","_law_other"]) Wr h42 λ_ _ _ _ _ _=>nv λ_ _ _=>rfl;obtain⟨Pw,LA,LB,Jt,LC⟩:=iE X G (ps:=["_law_prime","_law_one","_law_other"]) Ws h43 λ_ _ _ _ _ _=>nv λ_ _ _=>rfl;obtain⟨Px,LD,ID,HE,IE⟩:=iE X G (ps:=["_law_prime","_law_terms"]) Wt h44 λ_ _ _ _ _ _=>Fi λ_ _=>rfl;obtain⟨Py,LF,LG,Ju,LH⟩:=iE X G (ps:=["_law_prime","_law_one","_law_other"]) Wu h45 λ_ _ _ _ _ _=>nv λ_ _ _=>rfl;obtain⟨Pz,LI,LJ,Jv,LK⟩:=iE X G (ps:=["_law_room_here","_law_many"]) Wv h46 λ_ _ _ _ _ _=>Fi λ_ _=>rfl;obtain⟨PB,LL,LM,Jw,LN⟩:=iE X G (ps:=["_law_thing"]) Ww h47 λ_ _ _ _ _ _=>yV λ_=>rfl;obtain⟨PD,LO,LP,Jx,LQ⟩:=iE X G (ps:=["_law_thing"]) Wx h48 λ_ _ _ _ _ _=>yV λ_=>rfl;obtain⟨PF,LR,LS,Jy,LU⟩:=iE X G (ps:=["_law_thing"]) Wy h49 λ_ _ _ _ _ _=>yV λ_=>rfl;obtain⟨PH,LV,LW,Jz,LX⟩:=iE X G (ps:=["_law_room_here","_law_held","_law_lacked"]) Wz h50 λ_ _ _ _ _ _=>nv λ_ _ _=>rfl;obtain⟨PJ,LY,LZ,JA,L8⟩:=iE X G (ps:=["_law_room_here","_law_held","_law_lacked"]) WA h51 λ_ _ _ _ _ _=>nv λ_ _ _=>rfl;obtain⟨JB,IF,Sf,JC,Sg⟩:=iE X G (ps:=["_law_script"]) WB h52 λ_ _ _ _ _ _=>yV λ_=>rfl;obtain⟨Sh,PL,PM,PN,WQ,WR⟩:=y0 (ps:=["self"]) WC h53 h54 λ_ _ _ _ _ _=>yV λ_=>rfl;obtain⟨Si,PQ,PR,PU,WS,WT⟩:=y0 (ps:=["self"]) WD h55 h56 λ_ _ _ _ _ _=>yV λ_=>rfl;obtain⟨Sj,PV,PY,PZ,WU,WV⟩:=y0 (ps:=["self"]) WE h57 h58 λ_ _ _ _ _ _=>yV λ_=>rfl;obtain⟨Sk,P1,P2,P4,WW,WX⟩:=y0 (ps:=["self","filling"]) WG h59 h60 λ_ _ _ _ _ _=>Fi λ_ _=>rfl;obtain⟨Sl,P5,P6,P7,WY,WZ⟩:=y0 (ps:=["self"]) WH h61 h62 λ_ _ _ _ _ _=>yV λ_=>rfl;obtain⟨Sm,P8,L9,Ma,W0,W2⟩:=y0 (ps:=["self","one","other"]) WI h63 h64 λ_ _ _ _ _ _=>nv λ_ _ _=>rfl;obtain⟨Sn,P9,Qa,Qb,W3,W4⟩:=y0 (ps:=["self","top","bottom"]) WJ h65 h66 λ_ _ _ _ _ _=>nv λ_ _ _=>rfl;obtain⟨Sq,Qc,Qd,Qe,W5,W6⟩:=y0 (ps:=["self","thing"]) KP h67 h68 λ_ _ _ _ _ _=>Fi λ_ _=>rfl;obtain⟨Sr,Qf,Qg,Qh,W7,W8⟩:=y0 (ps:=["self","top","bottom"]) WK h69 h70 λ_ _ _ _ _ _=>nv λ_ _ _=>rfl;obtain⟨Mb,Mc⟩:=jr WL h71 h73;have Qi:=h72;have W9:L2.Meth K _ "__init__" _:=⟨Mb,h72,Mc.keep⟩;obtain⟨Ss,Md⟩:=Mc.fn;obtain⟨Xa,Xb,Xc,Me,Mf,Mg⟩:=ia h74;obtain⟨Mh,Mi⟩:=jr WM h75 h77;have Qj:=h76;have Xd:L2.Meth K _ "__init__" _:=⟨Mh,h76,Mi.keep⟩;obtain⟨Su,Mj⟩:=Mi.fn;obtain⟨Xe,Xf,Xg,Ml,Mm,Mn⟩:=ia h78;obtain⟨Qk,Mo⟩:=jr WN h79 h81;have Xh:=h80;have Ql:L2.Meth K _ "made" _:=⟨Qk,h80,Mo.keep⟩;obtain⟨Sv,Mp⟩:=Mo.fn;obtain⟨Xi,Xj,Xk,Mq,Mr,Ms⟩:=ia h82;have Qm:=Wj.symm.trans JC
 cases Qm
 have Mt:=nN Mg;subst Mt;obtain⟨Xl,Mu⟩:=iP Mn;subst Mu;obtain⟨Xm,Mv⟩:=iP Ms;subst Mv;have Xn:=CW Md Me Mf;have Xo:=BZ Mj Ml Mm;have Qn:=Bf Mp Mq Mr;have N:zv mg:=⟨Fs,F6,Gi⟩;have cF:Bg K mg (ga K "Field"):=⟨⟨h83,h84,h85,eE h86⟩,bu h87,Ib,(YK.mpr h88),eE h89,eE h90,iJ h91,iJ h92⟩;have c:zc K mg (ga K "Sum"):=⟨⟨h93,h94,h95,eE h96⟩,bu h97,bu h98,KZ⟩;have cQ:oF K mg (ga K "Sum"):=⟨c,(YK.mpr h99),eE h100,eE h90,iJ h91,iJ h101⟩;have hP:=rW h102;have hS:=tV h103;refine⟨JB,λs v=>?_,λbase _ _ BT=>?_⟩
 ·obtain⟨oc,od,kV,doc,pm,an,Fv,ct,FX,rfl,lk,Gg⟩:=IF.ex;exact .of_eq rfl
 have HF:=abi (P:=l.prog) (w:=w) (base:=base) OV N;have Mw:=abg (P:=l.prog) (w:=w) (base:=base) (mg:=mg) Le;have My:=aba (P:=l.prog) (w:=w) (base:=base) Pg Iv;have Mz:=abb Ph ⟨_,_,My,K8,Iz,K9⟩;have Qo:=abC P9 cF FH ⟨_,_,Mz,La,IA,Lc⟩;have MA:=abL P8 cF ⟨_,_,Qo,Qa,Qb⟩;have Qp:=abt Qf cF FH F7 h105 ⟨_,_,Mz,La,IA,Lc⟩ ⟨_,_,Mw,Lf,Jn,Lg⟩;have Qq:=acb Mp cF F7 h105 ⟨_,_,Qp,Qg,Qh⟩ ⟨_,_,HF,Hz,GC,HA⟩;have Qr:=abq Mj cF ⟨_,_,HF,Hz,GC,HA⟩ FH Hy hP GX h104;have Qs:=acd Qc cF FH N Fu Fz ⟨_,_,My,K8,Iz,K9⟩ ⟨_,_,HF,Hz,GC,HA⟩;have Qt:=abB (P:=l.prog) (w:=w) (base:=base) P5 cF;have Qu:=abJ OW Ga ⟨_,_,HF,Hz,GC,HA⟩;have MB:=adJ OZ Fs Fu FY Hl ⟨_,_,Qu,OX,K0,OY⟩;have Qv:=Al O0 Fs Fu FY ⟨_,_,HF,Hz,GC,HA⟩;have Qw:=adw O5 cF Fs Fu Fz ⟨_,_,MB,K1,Iy,K2⟩ ⟨_,_,Qs,Qd,Qe⟩;have Qx:=adM (P:=l.prog) (w:=w) (base:=base) Pb Fz;have Qy:=adB O8 Fs FA FO ⟨_,_,Qw,O6,K4,O7⟩;have Qz:=yT Pd cF Fw ⟨_,_,MA,L9,Ma⟩ Qx Pc K6;have QA:=yo Md c ⟨_,_,Qz,Pe,K7,Pf⟩ ⟨_,_,Qy,O9,K5,Pa⟩;have Xp:L2.Mk K _ _:=⟨h107,Mb,Qi,h108⟩;have Xq:L2.Mk K _ _:=⟨h109,Mh,Qj,h110⟩;have QB:=vz (P:=l.prog) (w:=w) (base:=base) (CF:=ga K "Field") PQ c;have QC:=vM (P:=l.prog) (w:=w) (base:=base) (CF:=ga K "Field") PV c FA;have QD:=wx (P:=l.prog) (w:=w) (base:=base) PL c Ge;have QE:=yk P1 c cF Fz FY ⟨_,_,Qv,O3,K3,O4⟩ ⟨_,_,QD,PM,PN⟩ Qq Qn Ql ⟨_,_,MA,L9,Ma⟩ GA h106;have MC:=DY Lh c cF Fu Fw Xp QA Xn Xq Qr Xo;have MD:=yI Lk Fs Fu Fz Hv ⟨_,_,MB,K1,Iy,K2⟩;have ME:=abM (P:=l.prog) (w:=w) (base:=base) Ln Fz;have HG:=abN (P:=l.prog) (w:=w) (base:=base) (mg:=mg) Lq;have MG:=abZ (P:=l.prog) (w:=w) (base:=base) Ls Iv F6;have IG:=ab1 Lw ⟨_,_,MG,Lu,Jr,Lv⟩;have MH:=ab4 Lx ⟨_,_,IG,IB,HD,IC⟩;have MI:=vJ LA ⟨_,_,IG,IB,HD,IC⟩;have IH:=wm LD Fw Fz ⟨_,_,MH,Ly,Js,Lz⟩;have MJ:=xA LF Fu Fw Gf ⟨_,_,MI,LB,Jt,LC⟩ ⟨_,_,IH,ID,HE,IE⟩;have MK:=wG LI Fu FD ⟨_,_,HG,HB,GN,HC⟩;have ML:=uF (P:=l.prog) (w:=w) (base:=base) LL N;have MM:=zL LO Fs Fu FA Fw Gf ⟨_,_,ML,LM,Jw,LN⟩;have MN:=zS LR Fs Fu Fz ⟨_,_,MM,LP,Jx,LQ⟩;have MO:=Am LV FA ⟨_,_,HG,HB,GN,HC⟩;have MP:=xZ LY cQ cF Fs F6 FA Fu FD ⟨_,_,MC,Li,Jo,Lj⟩ ⟨_,_,MJ,LG,Ju,LH⟩ ⟨_,_,IH,ID,HE,IE⟩ ⟨_,_,MK,LJ,Jv,LK⟩ ⟨_,_,QB,PR,PU⟩ ⟨_,_,Qt,P6,P7⟩ ⟨_,_,QC,PY,PZ⟩ ⟨_,_,QE,P2,P4⟩;exact Be IF hS Ge Hw Fz FD Fu Gh Fs Gi ⟨_,_,ME,Lo,Jq,Lp⟩ ⟨_,_,HG,HB,GN,HC⟩ ⟨_,_,MO,LW,Jz,LX⟩ ⟨_,_,MD,Ll,Jp,Lm⟩ ⟨_,_,MN,LS,Jy,LU⟩ ⟨_,_,MP,LZ,JA,L8⟩
theorem walk {l:OpenLaw}{q:wu}{loose:EG}{XP:(Str->Option Value)->Heap->Prop}{d:DefRec}(hn:l.most=some 63)(J7:d.params.defaults=[])(hd:d.name="law"):
 WalkO q loose XP yv l.row.toRowW d [] (λf vs=>PySem.call f vs):=by
 refine Hd.u9 (n:=63) (k:=10) (x:="_law_script") (CX:=λw=>cD l.prog w) (sp:=λK=>w8 K) (φ:=λK=>uX K=dueK) (tabs:=λK=>[]) hn (by decide) J7 ⟨rfl,by decide,by decide,rfl⟩ (λw h y=>y) ?_ (λw K mg fa h o X G e=>qB o X G (by rw[<-hd];exact e)) ?_ ?_
 ·intro w s₀ mg mb h K o Gr KX;exact⟨λr QF=>(nomatch QF),λr QF=>(nomatch QF)⟩
 ·intro K H a ns hl hO hS;refine⟨a,ns,rfl,?_,hl,λ_=>rfl⟩
  rcases hS with(hS|⟨o,hS⟩)|hS
  ·rcases hO.1 a with z|⟨o,xs,z⟩|⟨z,_⟩
   ·rw[z] at hS;cases hS
   ·rw[z] at hS;cases hS
   ·rw[z] at hS;cases hS
  ·exact .inl ⟨o,hS⟩
  ·exact .inr hS
 ·intro w H s e s' z;obtain⟨a,cls,a0,B,d,H',_,_,_,_,hE⟩:=z;exact hE.elim
end K44
open PySem PySem.W PyProof.Rows
set_option maxRecDepth 100000 in
set_option maxHeartbeats 0 in
theorem PySem.Challenge.cw_falsesums_k44_brackets_holds : PySem.Challenge.rw_falsesums_k44_brackets.Holds := by
 refine PySem.W.holds_law (by kernel_rfl) λXr=>?_
 refine PySem.W.holds_open (r:=PySem.Challenge.rw_falsesums_k44_brackets.row) (q:=K44.iz) (loose:=["Field","STEP"]) (Xt:=λs=>xlAt K44.iz K44.lv s&&recOk (PySem.Challenge.rw_falsesums_k44_brackets.row.toRowW).records s) (XP:=XL K44.iz K44.lv)
  (Yf:=λs=>K44.uX (Hd.xr K44.rT s.heap)) (Ya:=λ_=>K44.dueK) (YP:=K44.yv) (N:=7592) ?hl K44.yR K44.rj (λs e=>xl_of s (YK.mp e).1) XL.keeps (by rfl) (by rfl) (by rfl) (λs e=>recFacts_of (YK.mp e).2) (by rfl) (by assumption) (by decide +kernel) ⟨rfl,rfl,rfl,rfl,rfl,by decide +kernel⟩ ?hw ?hc
 case hw=>w_witness2
 case hl=>exact Hd.acq K44.ran1 K44.ran3 K44.ran4
 case hc=>exact K44.walk rfl rfl rfl
