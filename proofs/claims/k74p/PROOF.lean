import PyProof.Rows.All
import KE.KLam
import KE.KTryMore
import KE.KPairComp
import KE.KSortTup
import KE.KRevSl
import KE.LcSums
import PySem.Challenge.RW_falsesums_k74_whole_rings
set_option Elab.async false
set_option linter.all false
set_option maxRecDepth 100000
abbrev Bf:=PySem.Value->PySem.Shared->Prop
abbrev xk:=PySem.Str->Option PySem.Value
abbrev AL:=PySem.Shared
abbrev qo:=PySem.FuncData
abbrev Iy:=PySem.Program
abbrev BE:=Option PySem.Value
abbrev yX:=List PySem.Value
abbrev EV:=Array PySem.Value
abbrev Ek:=List PySem.Stmt
abbrev vH:=List PySem.Expr
abbrev p3:=List PySem.Str
abbrev rW:=Option PySem.Addr
abbrev Hl:=Array (Option PySem.Value)
abbrev Fl:List PySem.Str:=["thing"]
abbrev vv:List PySem.Str:=["self","top","bottom"]
abbrev AX:List PySem.Str:=["_law_prime","_law_one","_law_other"]
abbrev rM:List PySem.Str:=["self","other"]
abbrev E2:List PySem.Str:=["field","terms"]
abbrev Gw:List PySem.Str:=["self","one","other"]
abbrev vY:List PySem.Str:=["field","signs"]
abbrev yk:List PySem.Str:=["self","thing"]
abbrev yh:List PySem.Str:=["one","other"]
abbrev yg:List PySem.Str:=["self","field","terms"]
abbrev DJ:List PySem.Str:=["_law_pool_here","_law_many"]
abbrev vE:List PySem.Str:=["_law_prime","_law_top","_law_bottom"]
abbrev oI:List PySem.Str:=["_law_prime","_law_terms"]
abbrev Ah:List PySem.Str:=["_law_prime","_law_signs_here"]
abbrev w9:List PySem.Str:=["self","prime"]
abbrev zc:List PySem.Str:=["self","field","places","noughts","uppers"]
abbrev wo:List PySem.Str:=["field","place"]
abbrev xG:List PySem.Str:=["top","bottom"]
abbrev vA:List PySem.Str:=["field","thing"]
abbrev Br:List PySem.Str:=["_law_row_here"]
abbrev wg:List PySem.Str:=["field","places","thing"]
abbrev hX:List PySem.Str:=["field","places","uppers"]
abbrev HC:List PySem.Str:=["_law_terms"]
abbrev Ai:List PySem.Str:=["field","top"]
abbrev yL:List PySem.Str:=["_law_system","_law_prime","_law_places","_law_ones"]
abbrev Ar:List PySem.Str:=["_law_prime","_law_place"]
abbrev GF:List PySem.Str:=["number","prime"]
abbrev zW:List PySem.Str:=["_law_script","_law_k"]
abbrev zR:List PySem.Str:=["_law_top","_law_bottom"]
abbrev zY:List PySem.Str:=["self","number"]
abbrev xA:List PySem.Str:=["field","places","part","wishes"]
abbrev v7:List PySem.Str:=["self","filling"]
abbrev sR:List PySem.Str:=["_law_prime","_law_places","_law_noughts","_law_degree_here","_law_sums"]
abbrev Dw:List PySem.Str:=["_law_signs_here"]
abbrev Ej:List PySem.Str:=["system","thing","sided"]
def C7:=@PySem.wpAny_bind
def pO:=@PySem.wpAny_pure
def wa:=@PySem.Heap.get?_push_of_some
def vW:=@List.length_map
def qM:=@if_neg
def zC:=@Nat.le_refl
def zj:=@if_pos
def Er:=@List.mem_cons_of_mem
def D4:=@List.size_toArray
def Hr:=@PySem.Heap.get?_push_size
def Ij:=@List.mem_cons_self
def Ec:=@PySem.Heap.lt_size
def BN:=@List.mem_cons
def HY:=@Nat.lt_of_lt_of_le
def Gv:=@Nat.lt_of_le_of_lt
def GZ:=@List.mem_append_right
def IA:=@Bool.false_ne_true
def Ie:=@Nat.ne_of_lt
def Ag:=@Nat.zero_le
def vF:=@PySem.wpAny_mono
def EW:=@Nat.le_trans
def Be:=@List.getElem?_eq_some_iff
def xo:=@Bool.and_eq_true_iff
def Hy:=@List.mem_map
def Fx:=@decide_eq_false
def Bz:=@Array.length_toList
def sG:=@decide_eq_true
def Im:=@Bool.and_eq_true
def v5:=@List.mem_of_getElem?
def yP:=@List.mem_singleton
def Hs:=@List.map_append
def Dr:=@PySem.wpAny_newObj_type
def wN:=@List.getElem?_map
def vQ:=@List.take_add_one
def wF:=@List.length_cons
def tE:=@List.length_append
def Ff:=@List.getElem?_eq_getElem
def vt:=@List.take_length
def CU:=@Option.map_eq_some_iff
def Jm:=@Ne.symm
def rh:=@List.length_take
def rQ:=@List.mem_append
def Jr:=@List.map_cons
def xH:=@PySem.wpAny_call_entry
def mE:=@PySem.Heap.get?_update_other
def A2:=@PySem.boot_len
def iW:=@PySem.wpAny_callSpecial?_slot
def F5:=@Int.toNat_natCast
def HE:=@PySem.wpAny_field
def tj:=@PySem.wpAny_holding
def wk:=@PySem.PassesOwn.never
def se:=@PySem.wpAny_setField_rec
def GO:=@PySem.Heap.SameBut.update
def AQ:=@PySem.wpAny_truthy_bool
def Ht:=@Nat.pow_le_pow_right
def Jq:=@List.pairwise_cons
def zJ:=@List.nodup_cons
def mD:=@PySem.Heap.get?_update_self
def DI:=@PySem.F.excBase_ValueError
def wG:=@Nat.lt_trans
def Jp:=@List.mem_append_left
def vU:=@PySem.wpAny_Call_Name_kw
def oH:=@Int.emod_lt_of_pos
def DG:=@PySem.Heap.size_push
def CC:=@PyProof.Rows.callWith_type1
def Il:=@Int.emod_eq_of_lt
def BA:=@PyProof.Rows.slot_tuple_getitem
def Ac:=@List.exists_cons_of_length_eq_add_one
def zU:=@PySem.F.plainAttrs_list
def CD:=@Nat.lt_irrefl
def A7:=@Nat.succ.inj
def BB:=@List.filterMap_cons
def Ed:=@List.length_range
def HD:=@List.mem_range
def xa:=@Nat.le_of_lt
def C4:=@Int.natAbs_mul
def Gq:=@PySem.wpAny_seqItems
def Jn:=@List.mem_filter
def Cv:=@PySem.W.kia_one
def xY:=@List.append_nil
def jN:=@Int.emod_nonneg
def Ep:=@Bool.false_eq_true
def ya:=@List.lookup_cons
def Hh:=@congrArg
def Ae:=@List.getD_eq_getElem?_getD
def mx:=@PySem.Paired.snoc
def wL:=@Array.getElem?_eq_none
def rG:=@Nat.lt_succ_of_lt
def CR:=@if_false
def NI:=@List.length_filter_le
def rn:=@PySem.F.slot_dict_itemiterator_next
def BL:=@Nat.ne_of_gt
def Bc:=@PySem.wpAny_fieldsOf
def tK:=@PySem.F.slot_dict_keyiterator_next
def sN:=@PySem.Around.under_plainId
def y4:=@Option.bind_eq_some_iff
def Eo:=@of_decide_eq_true
def wx:=@PySem.codeAny_builtin
def vy:=@PySem.wpAny_standAt
def y7:=@beq_iff_eq
def rP:=@PySem.wpAny_attempt
def xM:=@List.not_mem_nil
def rL:=@Nat.le_add_right
def wm:=@List.any_eq_true
def En:=@if_true
def Bl:=@PySem.Obj.data_mapFields
def mq:=@PySem.wpAny_setField
def tU:=@List.pairwise_iff_getElem
def Bv:=@PySem.wpAny_typeNameOfWhole_itemiter
def vZ:=@List.mem_of_mem_take
def yt:=@Nat.lt_or_ge
def Hz:=@Nat.mod_lt
def rN:=@PySem.F.slot_list_append
def vX:=@PySem.F.type_list_append
def yJ:=@List.reverse_cons
def wt:=@PySem.wpAny_typeNameOfWhole_keyiter
def Hw:=@beq_eq_false_iff_ne
def G9:=@PySem.mem_of_lookup
def C6:=@Nat.mul_le_mul_left
def A4:=@Bool.false_and
def wD:=@PySem.wpAny_rule
def D1:=@Int.mul_one
def zF:=@List.filter_append
def tH:=@Array.getD_eq_getD_getElem?
def tJ:=@PyProof.Rows.F.plain_set_update_loop
def DY:=@PySem.wpAny_passesOwn
def AS:=@Int.mul_ne_zero
def HV:=@List.any_cons
def rC:=@Array.getElem?_eq_some_iff
def vk:=@Int.eq_of_mul_eq_mul_right
def Hv:=@Bool.true_and
def Ap:=@PySem.F.slot_tuple_iterator_next
def Ef:=@PySem.plainId_quiet
def yM:=@decide_eq_true_eq
def AD:=@PySem.wpAny_dictEntries
def vT:=@PySem.codeAny_call_builtin
def yx:=@PySem.wpAny_typeNameOf_itemiter
def An:=@List.drop_eq_getElem_cons
def vx:=@List.getLastD_eq_getLast?
def jL:=@Nat.le_succ
def oU:=@Int.le_refl
def we:=@PySem.wpAny_letGo
def Ea:=@List.nodup_nil
def BI:=@Nat.mul_le_mul
def Ab:=@beq_self_eq_true
def xO:=@Nat.lt_succ_self
def AK:=@PySem.codeAny_mono
def Eg:=@List.map_map
def xj:=@PySem.wpAny_typeNameOf_keyiter
def DL:=@PySem.F.plain_max_loop
def CK:=@PySem.F.called_set
def mn:=@List.length_eq_zero_iff
def Al:=@List.find?_cons
def Au:=@List.length_nil
def tV:=@PySem.wpAny_dictEpoch
def AI:=@PySem.sizeLine_eq
def tT:=@PySem.Calls.callWith_builtin
def Ei:=@Int.fmod_nonneg_of_pos
def C0:=@PySem.wpAny_isOneOf_itemiter
def Dc:=@List.take_append_drop
def wj:=@List.length_replicate
def vz:=@PySem.Obj.isFreed_of_fields
def qS:=@PySem.wpAny_tryCatch
def vn:=@List.all_map
def yN:=@Array.getElem?_toList
def wK:=@PySem.wpAny_askSetting
def yB:=@PySem.wpAny_isInstance
def El:=@List.mem_of_mem_drop
def rZ:=@List.mem_flatMap
def rE:=@List.getElem?_append_right
def Bs:=@List.mem_map_of_mem
def vO:=@List.getElem?_append_left
def wQ:=@PySem.W.KasT.kasWp_bind
def CH:=@PyProof.Rows.get?_update_seq
def Gg:=@PySem.wpAny_updateSeq
def Cz:=@Classical.byContradiction
def wY:=@List.range_succ
def Hx:=@PySem.wpAny_pyIter_tuple
def FN:=@PySem.Calls.spliced_cons
def Af:=@List.getElem?_take_of_lt
def y8:=@PySem.tupleKind_room_in1
def xw:=@PySem.F.args_tuple_add_2
def DC:=@PySem.wpAny_comprehension_free
def HZ:=@Rat.divInt_eq_divInt_iff
def rO:=@PyProof.Rows.F.entry_set_update_loop
def sQ:=@PySem.wpAny_call
def Gx:=@PySem.F.entry_tuple_add
def Fh:=@List.filter_cons_of_pos
def Gp:=@PySem.wpAny_pyIter_list
def Aq:=@PySem.Calls.spliced_nil
def yf:=@PySem.wpAny_pyIter_slot
def AA:=@List.append_assoc
def C8:=@List.nodup_append
def Bt:=@PySem.wpAny_pyNext_list_item
def v8:=@PySem.F.slot_tuple_add
def xc:=@PySem.wpAny_of_eq
def Bh:=@PySem.Paired.length
def vS:=@List.all_cons
def AH:=@Nat.min_le_right
def D9:=@List.length_drop
def GN:=@List.mem_reverse
def AB:=@List.countP_cons
def zP:=@List.getElem_mem
def EO:=@or_false
def xv:=@PySem.wpAny_pyIter_zip
def wH:=@List.all_eq_true
def wC:=@List.drop_length
def Bj:=@Nat.mod_eq_of_lt
def yw:=@Array.size_empty
def wZ:=@PySem.wpAny_pyNext_list_end
def DM:=@PySem.F.slot_dict_get
def vp:=@PySem.wpAny_isOneOf_keyiter
def Bx:=@List.count_cons_of_ne
def yD:=@Array.getElem?_setIfInBounds_ne
def r8:=@PySem.F.args_dict_itemiterator_next_1
def Cw:=@PySem.wpAny_execs_nil
def Bw:=@Bool.eq_iff_iff
def wz:=@PySem.Calls.evalArgs_plain
def Gd:=@PySem.wpAny_typeOf
def xn:=@PySem.F.entry_dict_itemiterator_next
def Ga:=@PySem.F.args_dict_keyiterator_next_1
def yW:=@PySem.wpAny_updateSeq_pair
def Ba:=@PySem.F.slot_zip_next
def Io:=@Nat.zero_add
def vD:=@Nat.succ_pos
def tW:=@Nat.mul_le_mul_right
def FA:=@List.count_cons_self
def zy:=@List.eq_nil_of_length_eq_zero
def CA:=@PySem.F.entry_dict_keyiterator_next
def AE:=@List.getLast?_eq_some_getLast
def qk:=@PySem.W.plainGet_of
def BC:=@PySem.wpAny_setEntries_of
def De:=@Prod.ext
def Ft:=@Int.gcd_pos_of_ne_zero_right
def AW:=@PySem.isSubtype_stop
def xi:=@PySem.F.args_tuple_iterator_next_1
def wM:=@List.dropLast_concat_getLast
def Dv:=@List.Perm.refl
def CB:=@PySem.isSubtype_type
def By:=@Array.append_assoc
def AM:=@List.mem_filterMap
def vB:=@PySem.W.callWith_K
def HI:=@PySem.SeqAt.EqAt.int_int
def Fi:=@Int.fmod_lt_of_pos
def ze:=@not_or
def vC:=@List.map_filterMap
def xx:=@Int.mul_assoc
def Dk:=@PySem.wpAny_handled
def xS:=@PySem.wpAny_onRaise
def FO:=@PySem.Obj.cls_mapFields
def y6:=@Nat.lt_trichotomy
def AV:=@List.count_append
def zk:=@PySem.intKind_is
def rX:=@PySem.noFill_tuple_add
def Df:=@PySem.W.looks_findIn
def yG:=@Int.mul_emod
def AN:=@List.ext_getElem
def vP:=@Nat.succ_ne_self
def BJ:=@List.of_mem_zip
def BH:=@List.forIn_cons
def pU:=@Nat.not_lt_zero
def AG:=@List.foldl_cons
namespace L2
open PySem
theorem wV:(1:Nat)<=sizeLine:=by decide
theorem gR:(2:Nat)<=sizeLine:=by decide
def aF (s:Stmt)(j:Nat):Stmt:=match s with
 | .ClassDef _ _ _ body _ _ _ _ _ _ _=>body.getD j (.Pass ⟨0,0,0,0⟩)
 |_=>.Pass ⟨0,0,0,0⟩
def dn (s:Stmt):Arguments:=match s with
 | .FunctionDef _ a _ _ _ _ _ _ _ _=>a
 |_=>{posonlyargs:=[],args:=[],vararg:=none,kwonlyargs:=[],kw_defaults:=[],kwarg:=none,defaults:=[]}
def cB (s:Stmt):List Stmt:=match s with
 | .FunctionDef _ _ b _ _ _ _ _ _ _=>b
 |_=>[]
def aq (s:Stmt):Scope:=match s with
 | .FunctionDef _ _ _ _ _ _ sc _ _ _=>sc
 |_=>{kind:=.function,names:=[],isGenerator:=false,isCoroutine:=false}
end L2
namespace Hd
open PySem PySem.W PyProof.Rows
def v9 (as:List Addr)(h:Heap):Frag:=as.filterMap λa=>(h.get? a).map λo=>(a,o)
theorem pL (h:Heap):∀as:List Addr,(v9 as h).In h
 |[],a,o,e=>by cases e
 |b::as,a,o,e=>by
  unfold v9 at e;rw[BB] at e
  cases q:h.get? b with
  |none =>
   rw[q] at e;exact pL h as a o e
  |some u =>
   rw[q] at e;dsimp only[Option.map_some] at e;rw[ya] at e
   by_cases z:a=b
   ·subst z;simp only[Ab] at e;rw[q];exact e
   ·have:(a==b)=false:=by simpa using z
    simp only[this] at e;exact pL h as a o e
abbrev xP:=Str×Str×Arguments×FuncBody×Scope×Addr×List (Str×Addr)×Value×Addr
def BO (fd:qo):xP:=(fd.name,fd.qualname,fd.params,fd.body,fd.scope,fd.globals,fd.closure,fd.defaults,fd.builtins)
def rg (K:Frag)(v:Option (Option Value)):Option FuncData:=match v with
 |some (some (.ref f))=>(match K.lookup f with
  |some ⟨_,_,.func fd,_⟩=>some fd
  |_=>none)
 |_=>none
def aL (K:Frag)(v:Option (Option Value)):Option xP:=(rg K v).map BO
def cR (x qual:Str)(st:Stmt):Option xP:=some (x,qual,L2.dn st,.stmts (L2.cB st),L2.aq st,mainGlobals,[],.none,builtinsNs)
def cC (v:Option (Option Value)):Addr:=match v with
 |some (some (.ref a))=>a
 |_=>0
def gq (v:Option (Option Value)):Bool:=match v with
 |some (some (.ref _))=>true
 |_=>false
theorem di {v:Option (Option Value)}(h:gq v=true):v=some (some (.ref (cC v))):=by
 unfold gq at h
 split at h
 ·rfl
 ·cases h
def dN (v:Option (Option Value)):Bool:=match v with
 |some none=>true
 |_=>false
theorem bA {v:Option (Option Value)}(h:dN v=true):v=some none:=by
 unfold dN at h
 split at h
 ·rfl
 ·cases h
def cM (K:Frag)(v:Option (Option Value))(qual:Str):Bool:=keepIn K (.ref (cC v))&&(match rg K v with
 |some fd=>codeIn K fd.code qual
 |none=>false)
abbrev gv (K:Frag)(x:Str):Option (Option Value):=nsIn K mainGlobals x
abbrev ga (K:Frag)(x:Str):Addr:=cC (nsIn K mainGlobals x)
abbrev fv (K:Frag)(c x:Str):Option (Option Value):=findIn K (.ref (cC (nsIn K mainGlobals c))) x
def fW (K:Frag)(v:Option (Option Value)):Option xP:=(rg K v).map λfd=>BO {fd with defaults:=.none}
def GY (K:Frag)(v:Option (Option Value)):Value:=match rg K v with
 |some fd=>fd.defaults
 |none=>.none
def kb (K:Frag)(v:Option (Option Value)):Addr:=match GY K v with
 | .ref a=>a
 |_=>0
def ph (K:Frag)(v:Option (Option Value)):Bool:=match GY K v with
 | .ref _=>true
 |_=>false
def oM (K:Frag)(T:Addr)(p:Value->Bool):Bool:=match K.lookup T with
 |some o=>(match o.data with
  | .seq a _=>(match a.toList with
    |[v]=>p v
    |_=>false)
  |_=>false)
 |none=>false
theorem fV {K:Frag}{T:Addr}{p:Value->Bool}(h:oM K T p=true):∃o v n,K.lookup T=some o/\o.data=.seq #[v] n/\p v=true:=by
 unfold oM at h
 split at h
 ·rename_i o ho
  split at h
  ·rename_i a n hd
   split at h
   ·rename_i v hv
    have:a = #[v]:=by rw[<-Array.toArray_toList (xs:=a),hv]
    subst this;exact⟨o,v,n,ho,hd,h⟩
   ·cases h
  ·cases h
 ·cases h
def p7 (n:Int)(v:Value):Bool:=match v with
 | .int i _=>i==n
 |_=>false
theorem jg {n:Int}{v:Value}(h:p7 n v=true):∃t,v=.int n t:=by
 unfold p7 at h
 split at h
 ·rename_i i t
  have:i=n:=by simpa using h
  exact⟨t,by rw[this]⟩
 ·cases h
def wA (v:Value):Bool:=match v with
 | .none=>true
 |_=>false
theorem jX {v:Value}(h:wA v=true):v=.none:=by
 unfold wA at h
 split at h
 ·rfl
 ·cases h
def qw (v:Option (Option Value))(n:Int):Bool:=match v with
 |some (some u)=>p7 n u
 |_=>false
theorem gX {v:Option (Option Value)}{n:Int}(h:qw v n=true):∃t,v=some (some (.int n t)):=by
 unfold qw at h
 split at h
 ·obtain⟨t,rfl⟩:=jg h;exact⟨t,rfl⟩
 ·cases h
def uJ:List Value->List Int->Bool
 |[],[]=>true
 |v::vs,n::ns=>p7 n v&&uJ vs ns
 |_,_=>false
def zm (K:Frag)(a:Addr)(ns:List Int):Bool:=match K.lookup a with
 |some o=>(match o.cls with
  | .type T=>T == "tuple"
  |_=>false)&&(match o.data with
  | .seq its _=>uJ its.toList ns&&decide (its.size<=sizeLine)
  |_=>false)
 |none=>false
def jJ (v:Option (Option Value))(s:String):Bool:=match v with
 |some (some (.builtin t))=>t==s
 |_=>false
theorem dq {v:Option (Option Value)}{s:String}(h:jJ v s=true):v=some (some (.builtin s)):=by
 unfold jJ at h
 split at h
 ·rename_i t
  have:t=s:=by simpa using h
  rw[this]
 ·cases h
def rH (v:Option Bool)(b:Bool):Bool:=match v with
 |some c=>c==b
 |none=>false
theorem gH {v:Option Bool}{b:Bool}(h:rH v b=true):v=some b:=by
 unfold rH at h
 split at h
 ·rename_i c
  have:c=b:=by simpa using h
  rw[this]
 ·cases h
def Ax:List Obj->BT->Nat->Option BT
 |[],t,_=>some t
 |o::os,t,n=>match ((t.ins n o).get n).isSome with
  |true=>Ax os (t.ins n o) (n+1)
  |false=>none
theorem um (life:Life):∀(os:List Obj)(t t':BT)(n:Nat),Ax os t n=some t'->(absHeap t' (n+os.length) life).objs=(absHeap t n life).objs++os.toArray
 |[],t,t',n,h=>by
  cases h
  simp
 |o::os,t,t',n,h=>by
  unfold Ax at h
  cases q:((t.ins n o).get n).isSome with
  |false=>rw[q] at h;cases h
  |true =>
   rw[q] at h;have e:=um life os _ _ _ h;rw[absHeap_ins q] at e
   have:n+1+os.length=n+(o::os).length:=by simp only[wF];omega
   rw[this] at e;rw[e];show((absHeap t n life).objs.push o)++os.toArray=_;rw[<-Array.append_singleton,By];simp
def GR (s:AL):Option SharedT:=(Ax s.heap.objs.toList .nil 0).map λt=>⟨t,s.heap.objs.size,s.heap.life,s.gens,s.drawn,s.toks,s.os⟩
theorem aaa {s:AL}{x:SharedT}(h:GR s=some x):x.abs=s:=by
 unfold GR at h;obtain⟨t,e,rfl⟩:=CU.mp h;have g:=um s.heap.life _ _ _ _ e;obtain⟨⟨objs,life⟩,gens,drawn,toks,os⟩:=s
 have z:absHeap t objs.size life=⟨objs,life⟩:=by
  have a:(absHeap t objs.size life).objs=objs:=by
   have l:0+objs.toList.length=objs.size:=by simp
   rw[l] at g;rw[g];simp[absHeap,BT.list]
  exact Hh (Heap.mk · life) a
 show Shared.mk _ _ _ _ _=_;rw[z]
def gZ (tb:String->Option Builtin)(p:Iy)(w:World)(n₀:Nat)(ann:BE):Nat->SharedT->Thread->Option SharedT
 |0,_,_=>none
 |n+1,s,t=>match through t with
  |true=>some s
  |false=>match stepOk n₀ ann t with
   |false=>none
   |true=>match stepT (denote tb) p w s t with
    |some (s',t')=>gZ tb p w n₀ ann n s' t'
    |none=>none
section
variable {tb:String->Option Builtin}{p:Iy}{w:World}{n₀:Nat}{ann:BE}
theorem l5:∀{n:Nat}{s s':SharedT}{t:Thread},gZ tb p w n₀ ann n s t=some s'->topRun tb p w n₀ ann n s.abs t=some s'.abs
 |0,_,_,_,h=>by cases h
 |n+1,s,s',t,h=>by
  unfold gZ at h;unfold topRun
  cases he:through t with
  |true=>rw[he] at h;cases h;rfl
  |false =>
   rw[he] at h
   cases hk:stepOk n₀ ann t with
   |false=>rw[hk] at h;cases h
   |true =>
    rw[hk] at h
    cases hs:stepT (denote tb) p w s t with
    |none=>rw[hs] at h;cases h
    |some r=>obtain⟨s₂,t₂⟩:=r;rw[hs] at h;rw[stepT_spec hs];exact l5 h
end
def gI (tb:String->Option Builtin)(p:Iy)(w:World)(N:Nat)(s₀:AL):Option SharedT :=
 match s₀.heap.isNs mainGlobals&&s₀.gens.size==0 with
 |true=>(GR s₀).bind λx=>(gZ tb p w s₀.heap.objs.size (s₀.heap.nsMap mainGlobals "__annotations__") N x (topStub p)).bind λs₁=>match staticsOk (importedModules p.main.body) s₀.heap s₁.abs.heap&&namesBound p s₁.abs.heap&&gensDone s₁.abs&&laidKept s₀.heap s₁.abs.heap with
  |true=>some s₁
  |false=>none
 |false=>none
variable {p:Iy}{N:Nat}
theorem aae {tb:String->Option Builtin}{w:World}{s:AL}{y:SharedT}(h:gI tb p w N s=some y):topFrom tb p w N s=some y.abs:=by
 unfold gI at h;unfold topFrom
 cases q:(s.heap.isNs mainGlobals&&s.gens.size==0) with
 |false=>rw[q] at h;cases h
 |true =>
  rw[q] at h;obtain⟨x,ex,h⟩:=y4.mp h;obtain⟨z,ez,h⟩:=y4.mp h;have e:=l5 ez;rw[aaa ex] at e;dsimp only;rw[e];show(match (staticsOk (importedModules p.main.body) s.heap z.abs.heap&&namesBound p z.abs.heap&&gensDone z.abs&&laidKept s.heap z.abs.heap) with|true=>some z.abs|false=>none)=_
  split at h
  ·cases h
   rename_i q2
   simp only[q2]
  ·cases h
def cH (tb:String->Option Builtin)(p:Iy)(w:World)(N:Nat):Option SharedT:=(fencedOpening tb p w N).bind (gI tb p w N)
theorem aab {tb:String->Option Builtin}{w:World}{y:SharedT}(h:cH tb p w N=some y):openEnds tb p w N=some y.abs:=by
 unfold cH at h;unfold openEnds;obtain⟨s,e,h⟩:=y4.mp h;rw[e];exact aae h
theorem aeZ {q:Iy}{loose:p3}{Xt:Shared->Bool}{α:Type}{Yf:Shared->α}{Ya:World->α}
 (h1:∀w,(cH treeTable p w N).map (λs=>openSeen q loose (importedModules p.main.body) Xt true s.abs)=some (openGood q loose))
 (h2:∀w,(cH treeTable p w N).map (λs=>Yf s.abs)=some (Ya w)):LeftO p q loose Xt Yf Ya N:=λw=>by
 obtain⟨y,e,z⟩:=CU.mp (h1 w);have z2:=h2 w;rw[e] at z2;rw[aab e];show some (_,_)=_;have z3:Yf y.abs=Ya w:=Option.some.inj z2;rw[z,z3]
section
variable {p q:Iy}{loose mods:p3}{Xt:Shared->Bool}{α:Type}{Yf:Shared->α}{Ya:World->α}{N:Nat}
abbrev xm (q:Iy)(s:AL):=(seen ((recsOf q).map (·.name)) (ownsOf q) [] {s with gens:=#[]},s.heap.bltView)
abbrev zq (q:Iy)(loose mods:p3)(Xt:Shared->Bool)(s:AL):Bool :=
 s.heap.keysOk (looseW q loose) ((recsOf q).map (·.name)) ((litsOf q).map (·.1)) ((clssOf q (looseW q loose)).map (·.name))&&s.heap.accountedOkI mods&&s.heap.isNs mainGlobals&&s.heap.isNs builtinsNs&&tablesOk q s.heap&&Xt s&&(if true then s.gens.size==0 else !leftWithCleanup s.gens)
abbrev xD (q:Iy)(loose:p3)(s:AL):=(tabsOk q s,pinSeenD q (drecsOf q) s,plainSeenE q (looseW q loose) s,plainSeenD q loose s,wideSeen q s,clsSeenW q loose s)
theorem aag
 (h1:∀w,(cH treeTable p w N).map (λs=>xm q s.abs)=some (expectedOf q,bltViewBooted))
 (h2:∀w,(cH treeTable p w N).map (λs=>zq q loose (importedModules p.main.body) Xt s.abs)=some true)
 (h3:∀w,(cH treeTable p w N).map (λs=>xD q loose s.abs)=some (true,pinGoodD (drecsOf q),plainGoodE q (looseW q loose),plainGoodD q loose,wideGood q,clsGoodW q loose))
 (h4:∀w,(cH treeTable p w N).map (λs=>Yf s.abs)=some (Ya w)):LeftO p q loose Xt Yf Ya N:=by
 refine aeZ (λw=>?_) h4;obtain⟨y,e,z1⟩:=CU.mp (h1 w);have z2:=h2 w;have z3:=h3 w;rw[e] at z2 z3 |-;have z2:zq q loose (importedModules p.main.body) Xt y.abs=true:=Option.some.inj z2;have z3:xD q loose y.abs=_:=Option.some.inj z3;show some (openSeen q loose (importedModules p.main.body) Xt true y.abs)=_;have e1:openSeen q loose (importedModules p.main.body) Xt true y.abs=((xm q y.abs).1,(xm q y.abs).2,zq q loose (importedModules p.main.body) Xt y.abs,xD q loose y.abs):=rfl;rw[e1,z1,z2,z3];rfl
end
def CW (v:Value):Bool:=match v with
 | .bool false=>true
 |_=>false
theorem afn {v:Value}(h:CW v=true):v=.bool false:=by
 unfold CW at h
 split at h
 ·rfl
 ·cases h
end Hd
namespace L2
open PySem
/-- an own class of exceptions without an __init__ -/
def jb (K:PySem.W.Frag)(C:Addr)(NX:yX)(newId:String):Bool :=
 ((K.lookup C).any λo=>o.cls == .type "type"&&(o.slots.size==6&&o.slots.toList[4]?==some (some (.builtin newId))))&&(PySem.W.clsIn K C).any λcd=>cd.mro.head?==some (.ref C)&&(!cd.hasDel&&(PySem.W.tailIn K NX cd.mro.tail&&(PySem.W.nsOkIn K cd.ns&&PySem.W.nsIn K cd.ns "__init__"==some none)))
end L2
namespace K74
open PySem L2 PySem.W
open Hd (gv ga fv cC gq di dN bA jJ dq rH gH cM aL fW cR ph kb oM fV wA jX p7 jg qw gX zm)
def aQ (i:Nat):Stmt:=PySem.Challenge.pw_falsesums_k74_whole_rings.main.body.getD i (.Pass ⟨0,0,0,0⟩)
def c6:List Int:=[2,3,5,7,11,13,17,19,23,29,31,37,41,43,47,53,59,61,67,71,73,79,83,89,97]
abbrev zK:List Value:=[.type "ValueError",.type "Exception",.type "BaseException",.type "object"]
abbrev lJ:String:="ValueError.__new__"
def IJ (K:Frag):Bool :=
 (dN (gv K "isinstance") &&
 (dN (gv K "int") &&
 (dN (gv K "bool") &&
 (dN (gv K "ValueError") &&
 (dN (gv K "abs") &&
 (dN (gv K "len") &&
 (dN (gv K "tuple") &&
 (dN (gv K "all") &&
 (dN (gv K "zip") &&
 (dN (gv K "list") &&
 (dN (gv K "enumerate") &&
 (dN (gv K "sorted") &&
 (dN (gv K "max") &&
 (dN (gv K "min") &&
 (dN (gv K "set") &&
 (dN (gv K "range")))))))))))))))))
def IG (K:Frag):Bool :=
 (gq (gv K "Sum") &&
 (gq (gv K "Field") &&
 (gq (gv K "System") &&
 (gq (gv K "Unlike") &&
 (gq (gv K "NoFilling") &&
 (gq (gv K "NoNumber") &&
 (gq (gv K "NoField") &&
 (gq (gv K "PRIMES") &&
 (qw (gv K "FRACTIONS") 0 &&
 (qw (gv K "MOST_PLACES") 60 &&
 (qw (gv K "MOST_WISHES") 200 &&
 (qw (gv K "LEAST_RING") 3 &&
 (cM K (gv K "is_whole") "is_whole" &&
 (cM K (gv K "is_place") "is_place" &&
 (cM K (gv K "is_product") "is_product" &&
 (cM K (gv K "is_term") "is_term"))))))))))))))))
def IZ (K:Frag):Bool :=
 (cM K (gv K "checked_terms") "checked_terms" &&
 (cM K (gv K "place_of_term") "place_of_term" &&
 (cM K (gv K "gathered") "gathered" &&
 (cM K (gv K "common_divisor") "common_divisor" &&
 (cM K (gv K "lowest") "lowest" &&
 (cM K (gv K "inverse") "inverse" &&
 (cM K (gv K "built") "built" &&
 (cM K (gv K "is_row_of_bits") "is_row_of_bits" &&
 (cM K (gv K "is_wish") "is_wish" &&
 (cM K (gv K "checked_wishes") "checked_wishes" &&
 (cM K (gv K "checked_uppers") "checked_uppers" &&
 (cM K (gv K "together") "together" &&
 (cM K (gv K "checked_field") "checked_field" &&
 (cM K (gv K "number_sum") "number_sum" &&
 (cM K (gv K "signed_place") "signed_place" &&
 (cM K (gv K "checked_ring") "checked_ring"))))))))))))))))
def Jh (K:Frag):Bool :=
 (cM K (gv K "ring") "ring" &&
 (cM K (gv K "ring_showing") "ring_showing" &&
 (cM K (gv K "_law_pool") "_law_pool" &&
 (cM K (gv K "_law_take") "_law_take" &&
 (cM K (gv K "_law_low") "_law_low" &&
 (cM K (gv K "_law_made") "_law_made" &&
 (cM K (gv K "_law_plus") "_law_plus" &&
 (cM K (gv K "_law_times") "_law_times" &&
 (cM K (gv K "_law_row_key") "_law_row_key" &&
 (cM K (gv K "_law_gathered") "_law_gathered" &&
 (cM K (gv K "_law_multiplied") "_law_multiplied" &&
 (cM K (gv K "_law_degree") "_law_degree" &&
 (cM K (gv K "_law_is_showing") "_law_is_showing" &&
 (cM K (gv K "_law_added") "_law_added" &&
 (cM K (gv K "_law_turned_sum") "_law_turned_sum" &&
 (cM K (gv K "_law_ring") "_law_ring"))))))))))))))))
def IP (K:Frag):Bool :=
 (cM K (gv K "_law_signs") "_law_signs" &&
 (cM K (gv K "_law_row") "_law_row" &&
 (cM K (gv K "_law_is_system") "_law_is_system" &&
 (cM K (gv K "_law_right") "_law_right" &&
 (cM K (gv K "law") "law" &&
 (cM K (fv K "Sum" "field") "Sum.field" &&
 (isFn K (.ref (cC (fv K "Sum" "field"))) &&
 (cM K (fv K "Sum" "terms") "Sum.terms" &&
 (isFn K (.ref (cC (fv K "Sum" "terms"))) &&
 (cM K (fv K "Sum" "reach") "Sum.reach" &&
 (isFn K (.ref (cC (fv K "Sum" "reach"))) &&
 (cM K (fv K "Sum" "scaled") "Sum.scaled" &&
 (isFn K (.ref (cC (fv K "Sum" "scaled"))) &&
 (cM K (fv K "Sum" "is_like") "Sum.is_like" &&
 (isFn K (.ref (cC (fv K "Sum" "is_like"))) &&
 (cM K (fv K "Sum" "plus") "Sum.plus"))))))))))))))))
def IK (K:Frag):Bool :=
 (isFn K (.ref (cC (fv K "Sum" "plus"))) &&
 (cM K (fv K "Sum" "times") "Sum.times" &&
 (isFn K (.ref (cC (fv K "Sum" "times"))) &&
 (cM K (fv K "Sum" "worth") "Sum.worth" &&
 (isFn K (.ref (cC (fv K "Sum" "worth"))) &&
 (cM K (fv K "Field" "__eq__") "Field.__eq__" &&
 (isFn K (.ref (cC (fv K "Field" "__eq__"))) &&
 (cM K (fv K "Field" "plus") "Field.plus" &&
 (isFn K (.ref (cC (fv K "Field" "plus"))) &&
 (cM K (fv K "Field" "times") "Field.times" &&
 (isFn K (.ref (cC (fv K "Field" "times"))) &&
 (cM K (fv K "Field" "settled") "Field.settled" &&
 (isFn K (.ref (cC (fv K "Field" "settled"))) &&
 (cM K (fv K "Field" "is_number") "Field.is_number" &&
 (isFn K (.ref (cC (fv K "Field" "is_number"))) &&
 (cM K (fv K "Field" "prime") "Field.prime"))))))))))))))))
def IS (K:Frag):Bool :=
 (isFn K (.ref (cC (fv K "Field" "prime"))) &&
 (cM K (fv K "Field" "quotient") "Field.quotient" &&
 (isFn K (.ref (cC (fv K "Field" "quotient"))) &&
 (cM K (fv K "System" "field") "System.field" &&
 (isFn K (.ref (cC (fv K "System" "field"))) &&
 (cM K (fv K "System" "places") "System.places" &&
 (isFn K (.ref (cC (fv K "System" "places"))) &&
 (cM K (fv K "System" "noughts") "System.noughts" &&
 (isFn K (.ref (cC (fv K "System" "noughts"))) &&
 (cM K (fv K "System" "uppers") "System.uppers" &&
 (isFn K (.ref (cC (fv K "System" "uppers"))) &&
 (cM K (fv K "Sum" "__init__") "Sum.__init__" &&
 (isFn K (.ref (cC (fv K "Sum" "__init__"))) &&
 (ph K (fv K "Sum" "__init__") &&
 (oM K (kb K (fv K "Sum" "__init__")) (wA) &&
 (cM K (fv K "Field" "__init__") "Field.__init__"))))))))))))))))
def Jd (K:Frag):Bool :=
 (isFn K (.ref (cC (fv K "Field" "__init__"))) &&
 (ph K (fv K "Field" "__init__") &&
 (oM K (kb K (fv K "Field" "__init__")) (p7 0) &&
 (cM K (fv K "Field" "made") "Field.made" &&
 (isFn K (.ref (cC (fv K "Field" "made"))) &&
 (ph K (fv K "Field" "made") &&
 (oM K (kb K (fv K "Field" "made")) (p7 1) &&
 (cM K (fv K "System" "__init__") "System.__init__" &&
 (isFn K (.ref (cC (fv K "System" "__init__"))) &&
 (ph K (fv K "System" "__init__") &&
 (oM K (kb K (fv K "System" "__init__")) (wA) &&
 (cM K (gv K "is_filling") "is_filling" &&
 (ph K (gv K "is_filling") &&
 (oM K (kb K (gv K "is_filling")) (Hd.CW) &&
 (plainGet K (ga K "Field") Str.empty &&
 (hasDictIn K (ga K "Field")))))))))))))))))
def IU (K:Frag):Bool :=
 (plainOver K (ga K "Field") &&
 (jJ (fv K "Field" "__setattr__") "object.__setattr__" &&
 (dN (fv K "Field" "its_prime") &&
 (((clsIn K (ga K "Field")).isSome&&typeIn K (.ref (ga K "Field"))==some (.type "type")) &&
 (jJ (fv K "Field" "__class__") "object.__class__" &&
 (jJ (specialIn K (.builtin "object.__class__") "__get__") "getset_descriptor.__get__" &&
 (rH (takesIn K (.builtin "object.__class__")) true &&
 (rH (mroIn K (ga K "Field") (.type "object")) true &&
 (plainGet K (ga K "Sum") Str.empty &&
 (hasDictIn K (ga K "Sum") &&
 (plainOver K (ga K "Sum") &&
 (jJ (fv K "Sum" "__setattr__") "object.__setattr__" &&
 (dN (fv K "Sum" "its_field") &&
 (dN (fv K "Sum" "its_terms") &&
 (((clsIn K (ga K "Sum")).isSome&&typeIn K (.ref (ga K "Sum"))==some (.type "type")) &&
 (jJ (fv K "Sum" "__class__") "object.__class__"))))))))))))))))
def IT (K:Frag):Bool :=
 (rH (mroIn K (ga K "Sum") (.type "object")) true &&
 (plainGet K (ga K "System") Str.empty &&
 (hasDictIn K (ga K "System") &&
 (plainOver K (ga K "System") &&
 (jJ (fv K "System" "__setattr__") "object.__setattr__" &&
 (dN (fv K "System" "its_field") &&
 (dN (fv K "System" "its_places") &&
 (dN (fv K "System" "its_noughts") &&
 (dN (fv K "System" "its_uppers") &&
 (((clsIn K (ga K "System")).isSome&&typeIn K (.ref (ga K "System"))==some (.type "type")) &&
 (jJ (fv K "System" "__class__") "object.__class__" &&
 (rH (mroIn K (ga K "System") (.type "object")) true &&
 (zm K (ga K "PRIMES") c6 &&
 (jb K (ga K "NoField") zK lJ &&
 (jb K (ga K "NoNumber") zK lJ &&
 (jb K (ga K "NoFilling") zK lJ))))))))))))))))
def EI (K:Frag):Bool :=
 (jb K (ga K "Unlike") zK lJ &&
 (jJ (fv K "Field" "__ne__") "object.__ne__" &&
 (makesIn K (ga K "Sum") &&
 (keepIn K (.ref (ga K "Sum")) &&
 (makesIn K (ga K "Field") &&
 (keepIn K (.ref (ga K "Field")) &&
 (makesIn K (ga K "System") &&
 (keepIn K (.ref (ga K "System"))))))))))
def sV (K:Frag):Bool:=IJ K&&(IG K&&(IZ K&&(Jh K&&(IP K&&(IK K&&(IS K&&(Jd K&&(IU K&&(IT K&&(EI K))))))))))
def rY (K:Frag):Bool×List (Option Hd.xP):=(sV K,[aL K (gv K "is_whole"),aL K (gv K "is_place"),aL K (gv K "is_product"),aL K (gv K "is_term"),aL K (gv K "checked_terms"),aL K (gv K "place_of_term"),aL K (gv K "gathered"),aL K (gv K "common_divisor"),aL K (gv K "lowest"),aL K (gv K "inverse"),aL K (gv K "built"),aL K (gv K "is_row_of_bits"),aL K (gv K "is_wish"),aL K (gv K "checked_wishes"),aL K (gv K "checked_uppers"),aL K (gv K "together"),aL K (gv K "checked_field"),aL K (gv K "number_sum"),aL K (gv K "signed_place"),aL K (gv K "checked_ring"),aL K (gv K "ring"),aL K (gv K "ring_showing"),aL K (gv K "_law_pool"),aL K (gv K "_law_take"),aL K (gv K "_law_low"),aL K (gv K "_law_made"),aL K (gv K "_law_plus"),aL K (gv K "_law_times"),aL K (gv K "_law_row_key"),aL K (gv K "_law_gathered"),aL K (gv K "_law_multiplied"),aL K (gv K "_law_degree"),aL K (gv K "_law_is_showing"),aL K (gv K "_law_added"),aL K (gv K "_law_turned_sum"),aL K (gv K "_law_ring"),aL K (gv K "_law_signs"),aL K (gv K "_law_row"),aL K (gv K "_law_is_system"),aL K (gv K "_law_right"),aL K (gv K "law"),aL K (fv K "Sum" "field"),aL K (fv K "Sum" "terms"),aL K (fv K "Sum" "reach"),aL K (fv K "Sum" "scaled"),aL K (fv K "Sum" "is_like"),aL K (fv K "Sum" "plus"),aL K (fv K "Sum" "times"),aL K (fv K "Sum" "worth"),aL K (fv K "Field" "__eq__"),aL K (fv K "Field" "plus"),aL K (fv K "Field" "times"),aL K (fv K "Field" "settled"),aL K (fv K "Field" "is_number"),aL K (fv K "Field" "prime"),aL K (fv K "Field" "quotient"),aL K (fv K "System" "field"),aL K (fv K "System" "places"),aL K (fv K "System" "noughts"),aL K (fv K "System" "uppers"),fW K (fv K "Sum" "__init__"),fW K (fv K "Field" "__init__"),fW K (fv K "Field" "made"),fW K (fv K "System" "__init__"),fW K (gv K "is_filling")])
def vo:Bool×List (Option Hd.xP):=(true,[cR "is_whole" "is_whole" ((aQ 12)),cR "is_place" "is_place" ((aQ 13)),cR "is_product" "is_product" ((aQ 14)),cR "is_term" "is_term" ((aQ 31)),cR "checked_terms" "checked_terms" ((aQ 32)),cR "place_of_term" "place_of_term" ((aQ 33)),cR "gathered" "gathered" ((aQ 34)),cR "common_divisor" "common_divisor" ((aQ 19)),cR "lowest" "lowest" ((aQ 20)),cR "inverse" "inverse" ((aQ 21)),cR "built" "built" ((aQ 38)),cR "is_row_of_bits" "is_row_of_bits" ((aQ 15)),cR "is_wish" "is_wish" ((aQ 41)),cR "checked_wishes" "checked_wishes" ((aQ 42)),cR "checked_uppers" "checked_uppers" ((aQ 43)),cR "together" "together" ((aQ 35)),cR "checked_field" "checked_field" ((aQ 47)),cR "number_sum" "number_sum" ((aQ 48)),cR "signed_place" "signed_place" ((aQ 50)),cR "checked_ring" "checked_ring" ((aQ 49)),cR "ring" "ring" ((aQ 51)),cR "ring_showing" "ring_showing" ((aQ 52)),cR "_law_pool" "_law_pool" ((aQ 56)),cR "_law_take" "_law_take" ((aQ 57)),cR "_law_low" "_law_low" ((aQ 58)),cR "_law_made" "_law_made" ((aQ 59)),cR "_law_plus" "_law_plus" ((aQ 60)),cR "_law_times" "_law_times" ((aQ 61)),cR "_law_row_key" "_law_row_key" ((aQ 62)),cR "_law_gathered" "_law_gathered" ((aQ 63)),cR "_law_multiplied" "_law_multiplied" ((aQ 65)),cR "_law_degree" "_law_degree" ((aQ 66)),cR "_law_is_showing" "_law_is_showing" ((aQ 67)),cR "_law_added" "_law_added" ((aQ 64)),cR "_law_turned_sum" "_law_turned_sum" ((aQ 68)),cR "_law_ring" "_law_ring" ((aQ 69)),cR "_law_signs" "_law_signs" ((aQ 71)),cR "_law_row" "_law_row" ((aQ 72)),cR "_law_is_system" "_law_is_system" ((aQ 70)),cR "_law_right" "_law_right" ((aQ 73)),cR "law" "law" ((aQ 74)),cR "field" "Sum.field" (aF (aQ 37) 5),cR "terms" "Sum.terms" (aF (aQ 37) 6),cR "reach" "Sum.reach" (aF (aQ 37) 8),cR "scaled" "Sum.scaled" (aF (aQ 37) 12),cR "is_like" "Sum.is_like" (aF (aQ 37) 9),cR "plus" "Sum.plus" (aF (aQ 37) 10),cR "times" "Sum.times" (aF (aQ 37) 11),cR "worth" "Sum.worth" (aF (aQ 37) 13),cR "__eq__" "Field.__eq__" (aF (aQ 22) 1),cR "plus" "Field.plus" (aF (aQ 22) 6),cR "times" "Field.times" (aF (aQ 22) 8),cR "settled" "Field.settled" (aF (aQ 22) 10),cR "is_number" "Field.is_number" (aF (aQ 22) 11),cR "prime" "Field.prime" (aF (aQ 22) 3),cR "quotient" "Field.quotient" (aF (aQ 22) 5),cR "field" "System.field" (aF (aQ 44) 3),cR "places" "System.places" (aF (aQ 44) 4),cR "noughts" "System.noughts" (aF (aQ 44) 5),cR "uppers" "System.uppers" (aF (aQ 44) 6),cR "__init__" "Sum.__init__" (aF (aQ 37) 0),cR "__init__" "Field.__init__" (aF (aQ 22) 0),cR "made" "Field.made" (aF (aQ 22) 4),cR "__init__" "System.__init__" (aF (aQ 44) 0),cR "is_filling" "is_filling" ((aQ 54))])
def tw:List Addr:=[3,30,31,43,44,55,56,67,68,79,80,138,139,145,146,150,151,155,156,157,163,164,170,171,177,178,186,192,193,199,200,213,214,215,221,222,228,229,235,236,249,250,263,264,270,271,273,274,310,311,317,318,324,325,329,330,336,337,350,356,357,391,392,398,399,410,411,417,418,424,425,429,430,434,435,439,440,456,457,467,468,474,475,481,482,488,489,497,503,504,524,525,531,532,538,539,545,546,560,561,571,572,578,579,583,584,590,591,597,598,604,605,606,610,611,617,618,624,625,631,632,636,637,643,644,650,651,657,658,662,663,669,670,676,677,681,682,686,687,693,694,700,701,705,706,710,711,717,718,722,723,729,730]
def dh:Program:={PySem.Challenge.pw_falsesums_k74_whole_rings with main:={PySem.Challenge.pw_falsesums_k74_whole_rings.main with body:=[aQ 0,aQ 2,aQ 3,aQ 4,aQ 5,aQ 6,aQ 7,aQ 8,aQ 9,aQ 11,aQ 12,aQ 13,aQ 14,aQ 15,aQ 17,aQ 18,aQ 19,aQ 20,aQ 21,aQ 22,aQ 24,aQ 25,aQ 26,aQ 27,aQ 28,aQ 29,aQ 31,aQ 32,aQ 33,aQ 34,aQ 35,aQ 36,aQ 37,aQ 38,aQ 40,aQ 41,aQ 42,aQ 43,aQ 44,aQ 46,aQ 47,aQ 48,aQ 49,aQ 50,aQ 51,aQ 52,aQ 56,aQ 57,aQ 58,aQ 59,aQ 60,aQ 61,aQ 62,aQ 63,aQ 64,aQ 65,aQ 66,aQ 67,aQ 68,aQ 69,aQ 70,aQ 71,aQ 72,aQ 73,aQ 74]} }
def lv:List (PySem.Str×WData):=[("STEP",.int 10000000000000000000000000000000000000000000000000000000000000000)]
end K74
namespace Hd
open PySem PySem.W PyProof.Rows
def bare (p:Iy)(w:World)(N:Nat):Option (Heap×SharedT):=(fencedOpening treeTable p w N).bind λs₀=>match s₀.heap.isNs mainGlobals&&s₀.gens.size==0 with
 |true=>(GR s₀).bind λx=>(gZ treeTable p w s₀.heap.objs.size (s₀.heap.nsMap mainGlobals "__annotations__") N x (topStub p)).map λs₁=>(s₀.heap,s₁)
 |false=>none
theorem afb {p:Iy}{w:World}{N:Nat}{h:Heap}{s:SharedT}(e:bare p w N=some (h,s))(c1:staticsOk (importedModules p.main.body) h s.abs.heap=true)(c2:namesBound p s.abs.heap=true)(c3:gensDone s.abs=true)(c4:laidKept h s.abs.heap=true):cH treeTable p w N=some s:=by
 unfold bare at e;obtain⟨s0,e0,e⟩:=y4.mp e;unfold cH;rw[e0];show gI treeTable p w N s0=some s;unfold gI
 cases q:(s0.heap.isNs mainGlobals&&s0.gens.size==0) with
 |false=>rw[q] at e;cases e
 |true =>
  rw[q] at e;obtain⟨x,ex,e⟩:=y4.mp e;obtain⟨s1,e1,e2⟩:=CU.mp e
  cases e2
  dsimp only;rw[ex];show Option.bind (gZ _ _ _ _ _ _ _ _) _=_;rw[e1];show(match staticsOk (importedModules p.main.body) s0.heap s.abs.heap&&namesBound p s.abs.heap&&gensDone s.abs&&laidKept s0.heap s.abs.heap with|true=>some s|false=>none)=_;rw[c1,c2,c3,c4];rfl
def CL (s:SharedT)(a:Addr):Option Obj:=match Nat.blt a s.n with
 |true=>alive ((s.tree.get a).getD default)
 |false=>none
theorem aeU (s:SharedT)(a:Addr):s.abs.heap.get? a=CL s a:=by
 obtain⟨t,n,life,gens,drawn,toks,os⟩:=s;show(absHeap t n life).get? a=_;unfold CL
 cases h:Nat.blt a n with
 |true =>
  have lt:a<n:=Nat.le_of_ble_eq_true h;unfold Heap.get?;rw[absHeap_at,zj lt];generalize (t.get a).getD default=o;obtain⟨c,d,dt,sl⟩:=o
  cases dt <;> rfl
 |false =>
  refine abs_get_none λz=>?_;have:Nat.blt a n=true:=Nat.ble_eq_true_of_le z;rw[this] at h
  cases h
def xC (as:List Addr)(s:SharedT):Frag:=as.filterMap λa=>(CL s a).map λo=>(a,o)
theorem afs (as:List Addr)(s:SharedT):v9 as s.abs.heap=xC as s:=by
 unfold v9 xC;congr 1
 funext a
 rw[aeU]
section
variable {p q:Iy}{loose:p3}{Xt:Shared->Bool}{α:Type}{Yf:Shared->α}{Ya:World->α}{N:Nat}
theorem aaf (key:∀w,∃h s,bare p w N=some (h,s)/\staticsOk (importedModules p.main.body) h s.abs.heap=true/\(namesBound p s.abs.heap=true/\gensDone s.abs=true/\laidKept h s.abs.heap=true) /\
 (((recsOf q).take 45).map (·.name)).map (s.abs.heap.shapeAt mainGlobals)=((recsOf q).take 45).map (λd=>some d.shape)/\(((recsOf q).drop 45).map (·.name)).map (s.abs.heap.shapeAt mainGlobals)=((recsOf q).drop 45).map (λd=>some d.shape) /\
 ((ownsOf q).all (λo=>s.abs.heap.ownExcOk o.name o.chain o.bm o.newId&&s.abs.heap.quietOk o.name),s.abs.heap.isNs mainGlobals,s.abs.heap.isNs builtinsNs,s.abs.heap.noLimitOk&&s.abs.heap.noDigitsOk)=(true,true,true,true)/\s.abs.heap.bltView=bltViewBooted /\
 s.abs.heap.keysOk (looseW q loose) ((recsOf q).map (·.name)) ((litsOf q).map (·.1)) ((clssOf q (looseW q loose)).map (·.name))=true /\
 (s.abs.heap.accountedOkI (importedModules p.main.body)&&s.abs.heap.isNs mainGlobals&&s.abs.heap.isNs builtinsNs&&tablesOk q s.abs.heap)=true/\(Xt s.abs&&(if true then s.abs.gens.size==0 else !leftWithCleanup s.abs.gens))=true /\
 ((recsOf q).take 45).all (λd=>s.abs.heap.tab0Ok d.name)=true/\((recsOf q).drop 45).all (λd=>s.abs.heap.tab0Ok d.name)=true/\(s.abs.heap.bmainOk&&valsOk q s.abs.heap&&(!importsNone q || s.abs.heap.noSeerOk))=true/\pinSeenD q (drecsOf q) s.abs=pinGoodD (drecsOf q)/\plainSeenE q (looseW q loose) s.abs=plainGoodE q (looseW q loose)/\plainSeenD q loose s.abs=plainGoodD q loose/\wideSeen q s.abs=wideGood q/\clsSeenW q loose s.abs=clsGoodW q loose/\Yf s.abs=Ya w):LeftO p q loose Xt Yf Ya N:=by
 refine aag (λw=>?_) (λw=>?_) (λw=>?_) (λw=>?_)
 all_goals
  obtain⟨h,s,e,c1,⟨c2,c3,c4⟩,a1,a3,a4,a2,b1,b2,b3,d1,d7,d8,d2,d3,d4,d5,d6,y⟩:=key w;rw[afb e c1 c2 c3 c4];refine Hh some ?_
 ·have a5:(((recsOf q).map (·.name)).map (s.abs.heap.shapeAt mainGlobals))=(recsOf q).map (λd=>some d.shape):=by
   conv=>lhs;rw[<-Dc 45 (recsOf q)]
   conv=>rhs;rw[<-Dc 45 (recsOf q)]
   rw[Hs,Hs,Hs,a1,a3]
  injection a4 with x1 a4
  injection a4 with x2 a4
  injection a4 with x3 x4
  show((⟨_,_,_,_,_,_,_⟩:Seen),_)=_;rw[a5,a2,x1,x2,x3,x4];rfl
 ·obtain⟨b2,x4⟩:=xo.mp b2;obtain⟨b2,x3⟩:=xo.mp b2;obtain⟨x1,x2⟩:=xo.mp b2;obtain⟨x5,x6⟩:=xo.mp b3;show(s.abs.heap.keysOk _ _ _ _&&s.abs.heap.accountedOkI _&&s.abs.heap.isNs mainGlobals&&s.abs.heap.isNs builtinsNs&&tablesOk q s.abs.heap&&Xt s.abs&&_)=true;rw[b1,x1,x2,x3,x4,x5,x6];rfl
 ·have t:tabsOk q s.abs=true:=by
   obtain⟨d8,x3⟩:=xo.mp d8;obtain⟨x1,x2⟩:=xo.mp d8
   have e1:(recsOf q).all (λd=>s.abs.heap.tab0Ok d.name)=true:=by
    rw[<-Dc 45 (recsOf q),List.all_append,d1,d7];rfl
   unfold tabsOk;rw[e1,x1,x2,x3];rfl
  show(_,_,_,_,_,_)=_;rw[t,d2,d3,d4,d5,d6]
 ·exact y
theorem at_ {α β:Type}{x:Option α}{f:α->β}{v:β}{y:α}(h:x.map f=some v)(e:x=some y):f y=v:=by
 rw[e] at h;exact Option.some.inj h
end
end Hd
section
open PySem PySem.W PyProof.Rows
set_option maxRecDepth 100000 in
set_option maxHeartbeats 0 in
theorem K74.sd1:PySem.Challenge.rw_falsesums_k74_whole_rings.wellSaid=true:=by kernel_rfl
set_option maxRecDepth 100000 in
set_option maxHeartbeats 0 in
theorem K74.sd3:PySem.Challenge.rw_falsesums_k74_whole_rings.row.prog.bare:=⟨rfl,rfl,rfl,rfl,rfl,by decide +kernel⟩
set_option maxRecDepth 100000 in
set_option maxHeartbeats 0 in
theorem K74.ran0:∀w,(Hd.bare PySem.Challenge.rw_falsesums_k74_whole_rings.row.prog w 10352).map (λs=>(staticsOk (importedModules PySem.Challenge.rw_falsesums_k74_whole_rings.row.prog.main.body) s.1 s.2.abs.heap,(namesBound PySem.Challenge.rw_falsesums_k74_whole_rings.row.prog s.2.abs.heap,gensDone s.2.abs,laidKept s.1 s.2.abs.heap),(s.2.abs.heap.accountedOkI (importedModules PySem.Challenge.rw_falsesums_k74_whole_rings.row.prog.main.body)&&s.2.abs.heap.isNs mainGlobals&&s.2.abs.heap.isNs builtinsNs&&tablesOk K74.dh s.2.abs.heap),((λs=>xlAt K74.dh K74.lv s&&recOk (PySem.Challenge.rw_falsesums_k74_whole_rings.row.toRowW).records s) s.2.abs&&(if true then s.2.abs.gens.size==0 else !leftWithCleanup s.2.abs.gens))))=some (true,(true,true,true),true,true):=by
 intro w;kernel_rfl
set_option maxRecDepth 100000 in
set_option maxHeartbeats 0 in
theorem K74.ran1:∀w,(Hd.bare PySem.Challenge.rw_falsesums_k74_whole_rings.row.prog w 10352).map (λs=>((((recsOf K74.dh).take 45).map (·.name)).map (s.2.abs.heap.shapeAt mainGlobals),((recsOf K74.dh).take 45).all (λd=>s.2.abs.heap.tab0Ok d.name)))=some (((recsOf K74.dh).take 45).map (λd=>some d.shape),true):=by
 intro w;kernel_rfl
set_option maxRecDepth 100000 in
set_option maxHeartbeats 0 in
theorem K74.ran2:∀w,(Hd.bare PySem.Challenge.rw_falsesums_k74_whole_rings.row.prog w 10352).map (λs=>((((recsOf K74.dh).drop 45).map (·.name)).map (s.2.abs.heap.shapeAt mainGlobals),((recsOf K74.dh).drop 45).all (λd=>s.2.abs.heap.tab0Ok d.name)))=some (((recsOf K74.dh).drop 45).map (λd=>some d.shape),true):=by
 intro w;kernel_rfl
set_option maxRecDepth 100000 in
set_option maxHeartbeats 0 in
theorem K74.ran3:∀w,(Hd.bare PySem.Challenge.rw_falsesums_k74_whole_rings.row.prog w 10352).map (λs=>s.2.abs.heap.keysOk (looseW K74.dh ["Field","STEP","is_filling"]) ((recsOf K74.dh).map (·.name)) ((litsOf K74.dh).map (·.1)) ((clssOf K74.dh (looseW K74.dh ["Field","STEP","is_filling"])).map (·.name)))=some (true):=by
 intro w;kernel_rfl
set_option maxRecDepth 100000 in
set_option maxHeartbeats 0 in
theorem K74.ran4:∀w,(Hd.bare PySem.Challenge.rw_falsesums_k74_whole_rings.row.prog w 10352).map (λs=>(pinSeenD K74.dh (drecsOf K74.dh) s.2.abs,K74.rY (Hd.xC K74.tw s.2)))=some (pinGoodD (drecsOf K74.dh),K74.vo):=by
 intro w;kernel_rfl
set_option maxRecDepth 100000 in
set_option maxHeartbeats 0 in
theorem K74.ran5:∀w,(Hd.bare PySem.Challenge.rw_falsesums_k74_whole_rings.row.prog w 10352).map (λs=>plainSeenE K74.dh (looseW K74.dh ["Field","STEP","is_filling"]) s.2.abs)=some (plainGoodE K74.dh (looseW K74.dh ["Field","STEP","is_filling"])):=by
 intro w;kernel_rfl
set_option maxRecDepth 100000 in
set_option maxHeartbeats 0 in
theorem K74.ran6:∀w,(Hd.bare PySem.Challenge.rw_falsesums_k74_whole_rings.row.prog w 10352).map (λs=>(plainSeenD K74.dh ["Field","STEP","is_filling"] s.2.abs,clsSeenW K74.dh ["Field","STEP","is_filling"] s.2.abs,s.2.abs.heap.bltView))=some (plainGoodD K74.dh ["Field","STEP","is_filling"],clsGoodW K74.dh ["Field","STEP","is_filling"],bltViewBooted):=by
 intro w;kernel_rfl
set_option maxRecDepth 100000 in
set_option maxHeartbeats 0 in
theorem K74.ran7:∀w,(Hd.bare PySem.Challenge.rw_falsesums_k74_whole_rings.row.prog w 10352).map (λs=>wideSeen K74.dh s.2.abs)=some (wideGood K74.dh):=by
 intro w;kernel_rfl
set_option maxRecDepth 100000 in
set_option maxHeartbeats 0 in
theorem K74.ran8:∀w,(Hd.bare PySem.Challenge.rw_falsesums_k74_whole_rings.row.prog w 10352).map (λs=>(((ownsOf K74.dh).all (λo=>s.2.abs.heap.ownExcOk o.name o.chain o.bm o.newId&&s.2.abs.heap.quietOk o.name),s.2.abs.heap.isNs mainGlobals,s.2.abs.heap.isNs builtinsNs,s.2.abs.heap.noLimitOk&&s.2.abs.heap.noDigitsOk),(s.2.abs.heap.bmainOk&&valsOk K74.dh s.2.abs.heap&&(!importsNone K74.dh || s.2.abs.heap.noSeerOk))))=some ((true,true,true,true),true):=by
 intro w;kernel_rfl
end
namespace L2
open PySem PySem.Spec PyProof.Rows
abbrev Key:=Sum Int Str
def oa:Key->Value->Bool
 | .inl k,v=>Value.isInt k v
 | .inr x,v=>Value.isStrOf x v
def afq (w:World):Key->Int
 | .inl k=>hashInt k
 | .inr x=>hashStr w x
theorem cm:∀{k:Key}{v:Value},oa k v=true->(∃i t,k=Sum.inl i/\v=Value.int i t)\/(∃x t,k=Sum.inr x/\v=Value.str x t)
 | .inl i,v,h=>by
   obtain⟨t,e⟩:=Value.isInt_shape (k:=i) (v:=v) h;exact .inl ⟨i,t,rfl,e⟩
 | .inr x,v,h=>by
   obtain⟨t,e⟩:=Value.isStrOf_shape (x:=x) (v:=v) h;exact .inr ⟨x,t,rfl,e⟩
theorem aad (i:Int)(t:Tok):oa (.inl i) (.int i t)=true:=by simp[oa,Value.isInt]
theorem aac (x:Str)(t:Tok):oa (.inr x) (.str x t)=true:=by simp[oa,Value.isStrOf]
theorem Da (a b:Int):decide ((Sum.inl a:Key)=Sum.inl b)=(a==b):=by
 by_cases e:a=b
 ·subst e;simp
 ·have h:¬(Sum.inl a:Key)=Sum.inl b:=λq=>e (Sum.inl.inj q);rw[Fx h];exact(Hw.mpr e).symm
theorem ae6 (a b:Str):decide ((Sum.inr a:Key)=Sum.inr b)=decide (a=b):=by
 by_cases e:a=b
 ·subst e;simp
 ·have h:¬(Sum.inr a:Key)=Sum.inr b:=λq=>e (Sum.inr.inj q);rw[Fx h,Fx e]
theorem Fun (a:Int)(b:Str):decide ((Sum.inl a:Key)=Sum.inr b)=false:=Fx (λq=>nomatch q)
theorem aal (a:Str)(b:Int):decide ((Sum.inr a:Key)=Sum.inl b)=false:=Fx (λq=>nomatch q)
def b7 (prog:Iy)(w:World):PySem.KeyKind prog w Key where
 is:=oa
 hash:=afq w
 inj:=λv a b ha hb=>by
  rcases cm ha with⟨i,t,rfl,rfl⟩|⟨x,t,rfl,rfl⟩
  ·rcases cm hb with⟨j,u,rfl,e⟩|⟨y,u,rfl,e⟩
   ·injection e with e1 _;rw[e1]
   ·exact nomatch e
  ·rcases cm hb with⟨j,u,rfl,e⟩|⟨y,u,rfl,e⟩
   ·exact nomatch e
   ·injection e with e1 _;rw[e1]
 byValue:=λk v h=>by
  rcases cm h with⟨i,t,rfl,rfl⟩|⟨x,t,rfl,rfl⟩ <;> rfl
 pyHash:=λhv h=>by
  rcases cm hv with⟨i,t,rfl,rfl⟩|⟨x,t,rfl,rfl⟩
  ·exact wpAny_pyHash_int h
  ·exact wpAny_pyHash_str h
 eqBool:=λhu hv h=>by
  rcases cm hu with⟨i,t,rfl,rfl⟩|⟨x,t,rfl,rfl⟩
  ·rcases cm hv with⟨j,u,rfl,rfl⟩|⟨y,u,rfl,rfl⟩
   ·rw[Da] at h;exact wpAny_eqBool_int h
   ·rw[Fun] at h;exact SeqAt.EqAt.int_str i t y u _ _ _ _ h
  ·rcases cm hv with⟨j,u,rfl,rfl⟩|⟨y,u,rfl,rfl⟩
   ·rw[aal] at h;exact SeqAt.EqAt.str_int x t j u _ _ _ _ h
   ·rw[ae6] at h;exact wpAny_eqBool_str h
 «strs»:=λk x t v h=>by
  rcases cm h with⟨i,u,rfl,e⟩|⟨y,u,rfl,e⟩
  ·exact nomatch e
  ·injection e with e1 _
   subst e1
   cases v <;> rfl
theorem afp (prog:Iy)(w:World)(i:Int)(t:Tok):(b7 prog w).is (.inl i) (.int i t)=true:=aad i t
theorem afy (prog:Iy)(w:World)(x:Str)(t:Tok):(b7 prog w).is (.inr x) (.str x t)=true:=aac x t
inductive V where
 |non|bl (b:Bool)|int (i:Int)|str (x:Str)|byt (b:Array UInt8)|flt (b:UInt64)|ref (a:Addr)|ty (n:String)
 deriving DecidableEq
def aI:V->Value->Prop
 | .non,u=>u=Value.none
 | .bl b,u=>u=Value.bool b
 | .int i,u=>∃t,u=Value.int i t
 | .str x,u=>∃t,u=Value.str x t
 | .byt b,u=>∃t,u=Value.bytes b t
 | .flt b,u=>∃t,u=Value.float b t
 | .ref a,u=>u=Value.ref a
 | .ty n,u=>u=Value.type n
abbrev aR:List V->List Value->Prop:=Paired aI
variable {us:yX}
theorem aR.length {xs:List V}(r:aR xs us):xs.length=us.length:=Bh r
theorem aR.get:∀{xs:List V}{us:yX}{i:Nat}{x:V},aR xs us->xs[i]?=some x->∃u,us[i]?=some u/\aI x u
 |_,_,_,_,.nil,e=>by simp at e
 |_,_,0,_,.cons r _,e=>by simp at e;subst e;exact⟨_,rfl,r⟩
 |_,_,i+1,x,.cons _ t,e=>by
  obtain⟨u,h1,h2⟩:=aR.get (i:=i) (x:=x) t (by simpa using e);exact⟨u,by simpa using h1,h2⟩
variable {u:Value}
theorem aR.set {x:V}(r:aI x u):∀{xs:List V}{us:yX}(i:Nat),aR xs us->aR (xs.set i x) (us.set i u)
 |_,_,_,.nil=>.nil
 |_,_,0,.cons _ t=>.cons r t
 |_,_,i+1,.cons q t=>.cons q (aR.set r i t)
theorem aR.append:∀{xs ys:List V}{us ws:yX},aR xs us->aR ys ws->aR (xs++ys) (us++ws)
 |_,_,_,_,.nil,s=>s
 |_,_,_,_,.cons r t,s=>.cons r (aR.append t s)
theorem aR.take:∀{xs:List V}{us:yX}(n:Nat),aR xs us->aR (xs.take n) (us.take n)
 |_,_,0,_=>.nil
 |_,_,_+1,.nil=>.nil
 |_,_,n+1,.cons r t=>.cons r (aR.take n t)
theorem aR.drop:∀{xs:List V}{us:yX}(n:Nat),aR xs us->aR (xs.drop n) (us.drop n)
 |_,_,0,r=>r
 |_,_,_+1,.nil=>.nil
 |_,_,n+1,.cons _ t=>aR.drop n t
def gs:Option V->Option Value->Prop
 |some v,some u=>aI v u
 |none,none=>True
 |_,_=>False
def KV {κ:Type}:List (κ×V)->List (κ×Value)->Prop:=Paired λ(p:κ×V)(q:κ×Value)=>p.1=q.1/\aI p.2 q.2
def kV:Key->V
 | .inl i=>.int i
 | .inr x=>.str x
inductive HO where
 /-- a list -/
 |lst (xs:List V)
 /-- a tuple (never changes) -/
 |tup (xs:List V)
 /-- a dict P9 keys are ints and texts;one P9 keys are tuples of ints and texts (M4 empty one is both) -/
 |dK (Jt:List (Key×V))|dT (Jt:List (List Key×V))
 /-- a set of ints: its members,its size -/
 |set (S:Int->Bool)(n:Nat)
 /-- an instance of M4 class at C,its dict at dx,its attributes -/
 |ins (C dx:Addr)(fs:List (Str×V))
 /-- M4 dict of M4 instance at x -/
 |own (x:Addr)
 /-- M4 dict of an exception -/
 |xd (fs:List (Str×V))
 /-- a bound method,f of x -/
 |met (f x:Addr)
 /-- a range object lo,lo+1,.. below hi -/
 |rng (lo hi:Int)
 /-- a Qa abM is known to M4 object (M4 VP;a dict while a lD BS it): read,never written while it is so -/
 |frz (o:Obj)(u:HO)
 /-- a code Qb table -/
 |tbl (ps:EV)
 /-- any other Qa,by abN is true of its one object (a def of ZA own: abO a S n:=HO.ext λh=>..) -/
 |ext (φ:Heap->Prop)
abbrev Hp:=Addr->Option HO
def upd (H:Hp)(a:Addr)(o:HO):Hp:=λb=>if b=a then some o else H b
variable {H:Hp}{a:Addr}{o:HO}
theorem ah :upd H a o a=some o:=by unfold upd;rw[zj rfl]
variable {b:Addr}
theorem av (h:b≠a):upd H a o b=H b:=by unfold upd;rw[qM h]
theorem aam {u:HO}:upd (upd H a o) a u=upd H a u:=by
 funext b;unfold upd;split <;> rfl
theorem Ca {u:HO}(h:H a=some o)(h':H b=some u)(d:o≠u):a≠b:=by
 intro e;subst e;rw[h] at h';exact d (Option.some.inj h')
theorem au (h:H a=some o)(h':H b=none):a≠b:=by
 intro e;subst e;rw[h] at h';cases h'
section
variable (P:Iy)(w:World)
def bJ (H:Hp)(h:Heap)(a:Addr):HO->Prop
 | .lst xs=>xs.length<=sizeLine/\∃(its:yX)(n:Nat),aR xs its/\h.get? a=some {cls:=.type "list",data:=.seq its.toArray n}
 | .tup xs=>xs.length<=sizeLine/\∃its:List Value,aR xs its/\IsTup h a its.toArray
 | .dK Jt=>Jt.length<=sizeLine/\(a==sysModules)=false/\∃vs,KV Jt vs/\h.DictOf (b7 P w) a vs
 | .dT Jt=>Jt.length<=sizeLine/\(a==sysModules)=false/\∃xs:List (List Key×Addr×Value),
  Paired (λ(p:List Key×V)(q:List Key×Addr×Value)=>p.1=q.1/\H q.2.1=some (.tup (p.1.map kV))/\aI p.2 q.2.2) Jt xs /\
  ∃o es ep,h.get? a=some o/\o.ExactDict/\o.data=.dict es ep/\es.toList=xs.map (entryOfKey (tupleKind (b7 P w)))/\(xs.map (·.1)).Nodup
 | .set S n=>h.SetOf (intKind P w) a S n
 | .ins C dx fs=>H dx=some (.own a)/\fs.length<=1000/\dx≠a/\h.get? a=some (PySem.W.instObj C dx) /\
  ∃mA,h.Ns1 dx mA/\(∀f,gs (fs.lookup f) (mA f))/\PySem.Within mA (fs.map (·.1))
 | .own _=>∃o,h.get? a=some o
 | .xd fs=>∃mA,h.Ns1 a mA/\∀f,gs (fs.lookup f) (mA f)
 | .rng lo hi=>∃t u v,h.get? a=some {cls:=.type "range",data:=.fields #[.int lo t,.int hi u,.int 1 v]}
 | .frz o u=>h.get? a=some o/\bJ H h a u
 | .tbl ps=>h.get? a=some {cls:=.none,data:=.fields ps}
 | .met f x=>h.get? a=some (PySem.W.methodObj (.ref f) (.ref x))
 | .ext φ=>φ h/\(∃o,h.get? a=some o)/\∀h1 h2:Heap,φ h1->(∀o,h1.get? a=some o->h2.get? a=some o)->φ h2
def gB (H:Hp)(h:Heap):Prop:=∀a o,H a=some o->bJ P w H h a o
end
section
variable {P:Iy}{w:World}{H H':Hp}{h h':Heap}{a:Addr}{o:HO}
theorem bJ.lt (x:bJ P w H h a o):a<h.objs.size:=by
 cases o with
 |lst xs=>obtain⟨_,_,_,_,e⟩:=x;exact Ec e
 |tup xs=>obtain⟨_,_,_,p⟩:=x;exact p.lt
 |dK Jt=>obtain⟨_,_,_,_,o,_,_,e,_⟩:=x;exact Ec e
 |dT Jt=>obtain⟨_,_,_,_,o,_,_,e,_⟩:=x;exact Ec e
 |set S n=>obtain⟨o,_,_,_,e,_⟩:=x;exact Ec e
 |ins C dx fs=>obtain⟨_,_,_,e,_⟩:=x;exact Ec e
 |own y=>obtain⟨_,e⟩:=x;exact Ec e
 |xd fs=>obtain⟨_,⟨_,_,_,e,_⟩,_⟩:=x;exact Ec e
 |rng lo hi=>obtain⟨_,_,_,e⟩:=x;exact Ec e
 |frz ob u=>obtain⟨e,_⟩:=x;exact Ec e
 |tbl ps=>exact Ec (show h.get? a=some _ from x)
 |met f y=>exact Ec (show h.get? a=some _ from x)
 |ext φ=>obtain⟨_,⟨_,e⟩,_⟩:=x;exact Ec e
theorem Paired.agP {α β:Type}{F G:α->β->Prop}:∀{l₁:List α}{l₂:List β},Paired F l₁ l₂->(∀a b,F a b->G a b)->Paired G l₁ l₂
 |_,_,.nil,_=>.nil
 |_,_,.cons r t,f=>.cons (f _ _ r) (Paired.agP t f)
theorem bJ.ahP (x:bJ P w H h a o)(k:∀b u,(b=a\/H b=some (.own a))->h.get? b=some u->h'.get? b=some u)
 (ho:∀b,H b=some (.own a)->H' b=some (.own a))(ht:∀b xs,H b=some (.tup xs)->H' b=some (.tup xs)):bJ P w H' h' a o:=by
 induction o with
 |lst xs=>obtain⟨z,its,n,r,e⟩:=x;exact⟨z,its,n,r,k _ _ (.inl rfl) e⟩
 |tup xs=>obtain⟨z,its,r,ob,e,c⟩:=x;exact⟨z,its,r,ob,k _ _ (.inl rfl) e,c⟩
 |dK Jt=>obtain⟨z,y,vs,r,ob,es,ep,e,c⟩:=x;exact⟨z,y,vs,r,ob,es,ep,k _ _ (.inl rfl) e,c⟩
 |dT Jt =>
  obtain⟨z,y,xs,r,ob,es,ep,e,c⟩:=x;exact⟨z,y,xs,Paired.agP r λp q z=>⟨z.1,ht _ _ z.2.1,z.2.2⟩,ob,es,ep,k _ _ (.inl rfl) e,c⟩
 |set S n=>obtain⟨ob,es,ep,t,e,c⟩:=x;exact⟨ob,es,ep,t,k _ _ (.inl rfl) e,c⟩
 |ins C dx fs =>
  obtain⟨d,z,ne,e,mA,⟨od,es,ep,e2,c⟩,r⟩:=x;exact⟨ho _ d,z,ne,k _ _ (.inl rfl) e,mA,⟨od,es,ep,k _ _ (.inr d) e2,c⟩,r⟩
 |own y=>obtain⟨ob,e⟩:=x;exact⟨ob,k _ _ (.inl rfl) e⟩
 |xd fs=>obtain⟨mA,⟨od,es,ep,e,c⟩,r⟩:=x;exact⟨mA,⟨od,es,ep,k _ _ (.inl rfl) e,c⟩,r⟩
 |rng lo hi=>obtain⟨t,u,v,e⟩:=x;exact⟨t,u,v,k _ _ (.inl rfl) e⟩
 |frz ob u ih=>obtain⟨e,q⟩:=x;exact⟨k _ _ (.inl rfl) e,ih q⟩
 |tbl ps =>
  have e:h.get? a=some {cls:=.none,data:=.fields ps}:=x;show h'.get? a=some {cls:=.none,data:=.fields ps};exact k a _ (.inl rfl) e
 |met f y =>
  have e:h.get? a=some (PySem.W.methodObj (.ref f) (.ref y)):=x;show h'.get? a=some (PySem.W.methodObj (.ref f) (.ref y));exact k a _ (.inl rfl) e
 |ext φ=>obtain⟨p,⟨o,e⟩,st⟩:=x;exact⟨st _ _ p λo q=>k _ _ (.inl rfl) q,⟨o,k _ _ (.inl rfl) e⟩,st⟩
theorem gB.lt (x:gB P w H h)(e:H a=some o):a<h.objs.size:=(x a o e).lt
theorem gB.fresh (x:gB P w H h)(e:h.objs.size<=a):H a=none:=by
 cases q:H a with
 |none=>rfl
 |some u=>exact absurd (HY (x.lt q) e) (CD _)
theorem gB.kept (x:gB P w H h)(k:∀b u,h.get? b=some u->h'.get? b=some u):gB P w H h':=λa o e =>
 (x a o e).ahP (λb u _ q=>k b u q) (λ_ q=>q) λ_ _ q=>q
theorem gB.laid (x:gB P w H h)(k:∀b u,h.get? b=some u->h'.get? b=some u)(hp:h.objs.size<=a)(new:bJ P w (upd H a o) h' a o):gB P w (upd H a o) h':=λb u e=>by
 have hn:=x.fresh hp
 by_cases hb:b=a
 ·subst hb;rw[ah] at e;cases e;exact new
 ·rw[av hb] at e
  exact(x b u e).ahP (λc v _ q=>k c v q) (λc q=>by rw[av (au q hn)];exact q) λc xs q=>by rw[av (au q hn)];exact q
end
def Rd (H:Hp)(a:Addr)(u:HO):Prop:=H a=some u\/∃o,H a=some (.frz o u)
variable {P:Iy}{w:World}{h:Heap}
theorem Rd.ok {u:HO}(r:Rd H a u)(x:gB P w H h):bJ P w H h a u:=by
 rcases r with r|⟨o,r⟩
 ·exact x a u r
 ·obtain⟨_,q⟩:=x a _ r;exact q
def GC:Option HO->Prop
 |some (.lst _)=>True
 |some (.dK _)=>True
 |some (.dT _)=>True
 |some (.set _ _)=>True
 |some (.ins _ _ _)=>True
 |some (.ext _)=>True
 |_=>False
section
variable {P:Iy}{w:World}{H:Hp}{h h':Heap}{x e:Addr}{o':HO}
theorem gB.write (ok:gB P w H h)(mu:GC (H x))(he:e=x\/H e=some (.own x))(k:∀b u,b≠e->h.get? b=some u->h'.get? b=some u)(Px:∃u,h'.get? e=some u)
 (new:bJ P w (upd H x o') h' x o'):gB P w (upd H x o') h':=λb u q=>by
 have Qc:∀c y,H c=some (.own y)->c≠x:=λc y r z=>by subst z;rw[r] at mu;exact mu
 have VQ:∀c xs,H c=some (.tup xs)->c≠x:=λc xs r z=>by subst z;rw[r] at mu;exact mu
 by_cases hb:b=x
 ·subst hb;rw[ah] at q;cases q;exact new
 ·rw[av hb] at q
  by_cases NY:b=e
  ·have q':H b=some (.own x):=by
    rcases he with z|z
    ·exact absurd (NY.trans z) hb
    ·rw[NY];exact z
   rw[q] at q';cases q';obtain⟨v,hv⟩:=Px;exact⟨v,by rw[NY];exact hv⟩
  ·refine(ok b u q).ahP (λc v hc r=>k c v ?_ r) (λc r=>by rw[av (Qc c b r)];exact r) λc xs r=>by rw[av (VQ c xs r)];exact r
   rcases hc with rfl|hc
   ·exact NY
   ·rintro rfl
    rcases he with z|z
    ·exact Qc c b hc z
    ·rw[hc] at z;cases z;exact hb rfl
end
structure Un (fs ex:List Addr)(H H':Hp)(h h':Heap):Prop where
 keep:∀b o,h.get? b=some o->H b=none->b∉fs->b∉ex->h'.get? b=some o
 slot:∀b o,h.get? b=some o->H b=none->b∈fs->b∉ex->∃sl,h'.get? b=some {o with slots:=sl}
 free:∀b o,h.get? b=some o->H b=none->b∉ex->H' b=none
 there:∀b o,h.get? b=some o->b∉ex->∃o',h'.get? b=some o'
 agG:∀b xs,H b=some (.tup xs)->H' b=some (.tup xs)
 afH:∀b o u,H b=some (.frz o u)->H' b=some (.frz o u)
 agR:∀b ps,H b=some (.tbl ps)->∃more,H' b=some (.tbl (ps++more))
section
variable {fs fs' ex ex':List Addr}{H H1 H2:Hp}{h h1 h2 h':Heap}{a x e:Addr}{o:HO}
theorem Un.any (u:Un fs ex H H1 h h1){ob:Obj}(q:h.get? b=some ob)(n:H b=none)(hx:b∉ex):∃sl,h1.get? b=some {ob with slots:=sl}:=by
 by_cases hb:b∈fs
 ·exact u.slot b ob q n hb hx
 ·exact⟨ob.slots,u.keep b ob q n hb hx⟩
theorem Un.kept (k:∀b u,h.get? b=some u->h'.get? b=some u):Un fs ex H H h h' :=
 ⟨λb ob q _ _ _=>k b ob q,λb ob q _ _ _=>⟨ob.slots,k b ob q⟩,λ_ _ _ n _=>n,λb ob q _=>⟨ob,k b ob q⟩,λ_ _ q=>q,λ_ _ _ q=>q,λ_ ps q=>⟨#[],by rw[q];simp⟩⟩
theorem Un.refl:Un fs ex H H h h:=Un.kept λ_ _ q=>q
theorem Un.laid (k:∀b u,h.get? b=some u->h'.get? b=some u)(hp:h.objs.size<=a)(hn:H a=none):Un fs ex H (upd H a o) h h' where
 keep:=λb u q _ _ _=>k b u q
 slot:=λb u q _ _ _=>⟨u.slots,k b u q⟩
 free:=λb u q n _=>by rw[av (Ie (HY (Ec q) hp))];exact n
 there:=λb u q _=>⟨u,k b u q⟩
 agG:=λb xs q=>by rw[av (au q hn)];exact q
 afH:=λb u xs q=>by rw[av (au q hn)];exact q
 agR:=λb ps q=>⟨#[],by rw[av (au q hn),q];simp⟩
theorem Un.write (mu:GC (H x))(he:e=x\/H e=some (.own x))(k:∀b u,b≠e->h.get? b=some u->h'.get? b=some u)(Px:∃u,h'.get? e=some u):Un fs ex H (upd H x o) h h':=by
 have hx:∀b,H b=none->b≠x:=λb n z=>by subst z;rw[n] at mu;exact mu
 have hb:∀b,H b=none->b≠e:=λb n z=>by
  subst z
  rcases he with r|r
  ·exact hx b n r
  ·rw[n] at r;cases r
 have hm:∀b u,H b=some u->¬GC (some u)->b≠x:=λb u q nm z=>by subst z;rw[q] at mu;exact nm mu
 refine⟨λb u q n _ _=>k b u (hb b n) q,λb u q n _ _=>⟨u.slots,k b u (hb b n) q⟩,λb u q n _=>by rw[av (hx b n)];exact n,λb u q _=>?_,
  λb xs q=>by rw[av (hm b _ q λz=>z)];exact q,λb u xs q=>by rw[av (hm b _ q λz=>z)];exact q,λb ps q=>⟨#[],by rw[av (hm b _ q λz=>z),q];simp⟩⟩
 by_cases NY:b=e
 ·subst NY;exact Px
 ·exact⟨u,k b u NY q⟩
end
def GS (h:Heap)(H:Hp):List Addr:=(List.range h.objs.size).filter λa=>(H a).isSome
def mr (h:Heap)(H:Hp):Heap:=PySem.W.hideAll h (GS h H)
theorem aat (h:Heap)(H:Hp):(mr h H).objs.size=h.objs.size:=PySem.W.hideAll_size _ _
theorem afm {o:Obj}(e:h.get? b=some o)(n:H b=none):(mr h H).get? b=some o :=
 PySem.W.hideAll_get _ e λhm=>by
  have q:(H b).isSome=true:=(Jn.mp hm).2;rw[n] at q;simp at q
theorem aas {o:Obj}(e:(mr h H).get? b=some o):h.get? b=some o/\H b=none:=by
 have e':h.get? b=some o:=PySem.W.of_hideAll (GS h H) e;refine⟨e',?_⟩
 cases q:H b with
 |none=>rfl
 |some x =>
  have hm:b∈GS h H:=Jn.mpr ⟨HD.mpr (Ec e'),by simp[q]⟩;have z:(mr h H).get? b=none:=PySem.W.hideAll_none (GS h H) hm;rw[z] at e;cases e
structure Mod (K:PySem.W.Frag)(mg:xk)(base:Heap):Prop where
 kin:K.In base
 glob:base.Ns mainGlobals mg
 blt:∃mb,base.Ns builtinsNs mb/\∀x:Str,x ≠ "__name__"->mb x=bootBuiltins x
 nolimit:base.NoLimit
structure Cx where
 prog:Program
 w:World
 K:PySem.W.Frag
 mg:Str->Option Value
 base:Heap
 A:Around
 N:List Str
 s₀:Shared
 H₀:Hp
 env:Env
 outer:List Env
 stack:List Env
 ex:List Addr
 fn:Str->Bool
 calm:Bool
 pn:List (Addr×Obj)
 xe:Value->Shared->Prop
def eV (l:List Env):List Addr:=l.filterMap (·.frame)
abbrev Cx.fs (X:Cx):List Addr:=eV X.outer
def GP (sc:Scope)(x:Str):Prop:=sc.names.lookup x=some .local\/sc.names.lookup x=some .cell\/sc.names.lookup x=some .free
def E7 (sc:Scope)(x:Str):Prop:=sc.names.lookup x=some .local\/sc.names.lookup x=some .cell
def aar (env:Env)(h:Heap)(m:xk)(x:Str)(u:Value):Prop :=
 (env.kindOf x=some .local/\m x=some u)\/((env.kindOf x=some .cell\/env.kindOf x=some .free)/\∃c,env.cells.lookup x=some c/\h.IsCell c (some u))
structure Cx.Ok (X:Cx):Prop where
 mod:Mod X.K X.mg X.base
 kind:X.env.scope.kind=.function
 glob:X.env.globals=mainGlobals
 blt:X.env.builtins=builtinsNs
 above:X.s₀.heap.objs.size<=X.env.locals
 inj:∀x y c,X.env.cells.lookup x=some c->X.env.cells.lookup y=some c->x=y
 has:∀x,(X.env.kindOf x=some .cell\/X.env.kindOf x=some .free)->∃c,X.env.cells.lookup x=some c
 cab:∀x c,X.fn x=true->X.env.cells.lookup x=some c->X.s₀.heap.objs.size<=c
 hd:X.calm=true->X.A.handled=none
 frames:X.A.frames=some X.stack
 stk:X.stack=X.outer\/(X.stack=X.env::X.outer/\X.env.frame=some X.env.locals)
 exf:∀b∈X.ex,b≠X.env.locals/\∀x c,X.env.cells.lookup x=some c->c≠b
 bs:∀b o,X.base.get? b=some o->X.s₀.heap.get? b=some o/\X.H₀ b=none
 bsz:X.base.objs.size<=X.s₀.heap.objs.size
 aiD:∀b o,X.base.get? b=some o->b∉X.ex
 ai6:∀b∈X.ex,b∉X.fs
 agY:X.s₀.heap.FunFrames X.base X.outer
 frf:∀b∈X.fs,X.H₀ b=none
structure Inv (X:Cx)(pins:List (Addr×Obj))(σ:List (Option V))(H:Hp)(s:AL):Prop where
 ok:X.Ok
 os:s.os=X.s₀.os
 bare:AllBare s.gens
 base:Un X.fs X.ex X.H₀ H X.s₀.heap s.heap
 loc:∃m,s.heap.Ns X.env.locals m/\∀(i:Nat)(x:Str)(v:V),X.N[i]?=some x->σ[i]?=some (some v)->GP X.env.scope x->∃u,aI v u/\aar X.env s.heap m x u
 cell:∀x c,X.env.cells.lookup x=some c->∃v,s.heap.IsCell c v
 free:H X.env.locals=none
 agK:∀x c,X.env.cells.lookup x=some c->H c=none
 pin:∀p∈X.pn++pins,s.heap.get? p.1=some p.2/\H p.1=none/\p.1≠X.env.locals/\p.1∉X.fs/\∀v,p.2.data≠.cell v
 hok:gB X.prog X.w H s.heap
 len:σ.length=X.N.length
variable {N:p3}{i:Nat}{x:Str}{M:Model}{A:Around}
section
variable {X:Cx}{pins:List (Addr×Obj)}{σ:List (Option V)}{H H':Hp}{s:AL}{h':Heap}
theorem Cx.Ok.aml (ok:X.Ok){o:Obj}(e:X.base.get? b=some o):b∉X.fs:=λhb=>by
 have:=(ok.agY.mem hb).1;rw[e] at this;cases this
theorem Inv.bs (I:Inv X pins σ H s):∀b o,X.base.get? b=some o->s.heap.get? b=some o/\H b=none:=λb o e =>
 ⟨I.base.keep b o (I.ok.bs b o e).1 (I.ok.bs b o e).2 (I.ok.aml e) (I.ok.aiD b o e),I.base.free b o (I.ok.bs b o e).1 (I.ok.bs b o e).2 (I.ok.aiD b o e)⟩
theorem Inv.bk (I:Inv X pins σ H s):∀b o,X.base.get? b=some o->s.heap.get? b=some o:=λb o e=>(I.bs b o e).1
theorem Inv.mod (I:Inv X pins σ H s):Mod X.K X.mg X.base:=I.ok.mod
theorem Inv.kIn (I:Inv X pins σ H s):X.K.In s.heap:=I.ok.mod.kin.keeps I.bk
theorem Inv.fr (I:Inv X pins σ H s):∃m,Fr X.base X.env.locals s.heap m :=
 let⟨m,hn,_⟩:=I.loc
 ⟨m,hn,I.bk,EW I.ok.bsz I.ok.above⟩
theorem Inv.lt (I:Inv X pins σ H s):X.env.locals<s.heap.objs.size:=let⟨_,hn,_⟩:=I.loc;hn.lt
theorem Inv.sz (I:Inv X pins σ H s):X.s₀.heap.objs.size<=s.heap.objs.size:=EW I.ok.above (xa I.lt)
theorem Inv.ajM (I:Inv X pins σ H s)(h:s.heap.objs.size<=a):a∉X.fs:=λhb=>by
 obtain⟨_,o,ho,_⟩:=I.ok.agY.mem hb;exact absurd (HY (Ec ho) (EW I.sz h)) (CD _)
theorem Inv.cne (I:Inv X pins σ H s):∀x c,X.env.cells.lookup x=some c->c≠X.env.locals:=λx c e z=>by
 obtain⟨v,o,ho,hd⟩:=I.cell x c e;obtain⟨m,⟨o',es,ep,JW,VR,_⟩,_⟩:=I.loc;rw[z,JW] at ho;cases ho;rw[VR] at hd;cases hd
theorem Inv.agY (I:Inv X pins σ H s):s.heap.FunFrames X.base X.outer:=by
 have all:∀(l:List Env),(∀b∈eV l,b∈X.fs)->X.s₀.heap.FunFrames X.base l->s.heap.FunFrames X.base l:=by
  intro l
  induction l with
  |nil=>intro _ _;trivial
  |cons env r ih =>
   intro hs hl;obtain⟨hk,⟨L,o,hf,hn,ho,hd⟩,hr⟩:=hl;have hL:L∈X.fs:=hs L (by unfold eV;rw[BB,hf];exact Ij);obtain⟨sl,e⟩:=I.base.slot L o ho (I.ok.frf L hL) hL λz=>I.ok.ai6 L z hL;exact⟨hk,⟨L,_,hf,hn,e,hd⟩,ih (λb hb=>hs b (by unfold eV;rw[BB,hf];exact Er _ hb)) hr⟩
 exact all X.outer (λ_ hb=>hb) I.ok.agY
theorem Inv.stack (I:Inv X pins σ H s):s.heap.FunFrames X.base X.stack:=by
 rcases I.ok.stk with e|⟨e,hf⟩
 ·rw[e];exact I.agY
 ·rw[e];obtain⟨m,hn,_⟩:=I.loc;refine .cons (by rw[I.ok.kind];decide) hf hn ?_ I.agY;exact Heap.get?_none_of_le (EW I.ok.bsz I.ok.above)
theorem Inv.agN (I:Inv X pins σ H s):∀b∈eV X.stack,b∈X.env.locals::X.fs:=λb hb=>by
 rcases I.ok.stk with e|⟨e,hf⟩
 ·rw[e] at hb;exact Er _ hb
 ·rw[e] at hb;unfold eV at hb;rw[BB,hf] at hb;exact hb
theorem Inv.ahh (I:Inv X pins σ H s):∀b∈eV X.stack,H b=none:=λb hb=>by
 rcases BN.mp (I.agN b hb) with e|hb
 ·rw[e];exact I.free
 ·obtain⟨_,o,ho,_⟩:=I.ok.agY.mem hb;exact I.base.free b o ho (I.ok.frf b hb) λz=>I.ok.ai6 b z hb
theorem Inv.step {g':Array GenState}{t':Nat}{d':Drawn}{ch:List Addr}(I:Inv X pins σ H s)
 (Mn:∀b∈ch,(b∈X.ex\/X.s₀.heap.objs.size<=b)/\b≠X.env.locals/\(∀x c,X.env.cells.lookup x=some c->c≠b)/\∀p∈X.pn++pins,p.1≠b)
 (keep:∀b o,b≠X.env.locals->b∉X.fs->b∉ch->s.heap.get? b=some o->H b=none->h'.get? b=some o)
 (slot:∀b o,b≠X.env.locals->b∈X.fs->b∉ch->s.heap.get? b=some o->H b=none->∃sl,h'.get? b=some {o with slots:=sl})(free:∀b o,b∉ch->s.heap.get? b=some o->H b=none->H' b=none)
 (there:∀b o,b∉ch->s.heap.get? b=some o->∃o',h'.get? b=some o')
 (agG:∀b xs,H b=some (.tup xs)->H' b=some (.tup xs))(afH:∀b o u,H b=some (.frz o u)->H' b=some (.frz o u))(agR:∀b ps,H b=some (.tbl ps)->∃more,H' b=some (.tbl (ps++more)))
 (ns:∀m,s.heap.Ns X.env.locals m->h'.Ns X.env.locals m)(hok:gB X.prog X.w H' h')(hg:AllBare g'):
 Inv X pins σ H' {s with heap:=h',gens:=g',drawn:=d',toks:=t'}:=by
 have ZC:∀b o,X.s₀.heap.get? b=some o->b≠X.env.locals:=λb o e=>Ie (HY (Ec e) I.ok.above)
 have Vd:∀b o,X.s₀.heap.get? b=some o->b∉X.ex->b∉ch:=λb o e hx hb=>by
  rcases(Mn b hb).1 with z|z
  ·exact hx z
  ·exact absurd (HY (Ec e) z) (CD _)
 have cellK:∀x c,X.env.cells.lookup x=some c->∀v,s.heap.IsCell c v->h'.IsCell c v:=λx c e v ⟨o,ho,hd⟩=>by
  have Qd:c∉ch:=λz=>(Mn c z).2.2.1 x c e rfl
  by_cases hc:c∈X.fs
  ·obtain⟨sl,q⟩:=slot c o (I.cne x c e) hc Qd ho (I.agK x c e);exact⟨_,q,hd⟩
  ·exact⟨o,keep c o (I.cne x c e) hc Qd ho (I.agK x c e),hd⟩
 refine⟨I.ok,I.os,hg,⟨λb o e n hb hx=>?_,λb o e n hb hx=>?_,λb o e n hx=>?_,λb o e hx=>?_,λb xs e=>agG b xs (I.base.agG b xs e),λb o xs e=>afH b o xs (I.base.afH b o xs e),λb ps e=>?_⟩,?_,λx c e=>?_,?_,λx c e=>?_,λp hp=>?_,hok,I.len⟩
 ·exact keep b o (ZC b o e) hb (Vd b o e hx) (I.base.keep b o e n hb hx) (I.base.free b o e n hx)
 ·obtain⟨sl,e1⟩:=I.base.slot b o e n hb hx;obtain⟨Mo,e2⟩:=slot b _ (ZC b o e) hb (Vd b o e hx) e1 (I.base.free b o e n hx);exact⟨Mo,e2⟩
 ·obtain⟨o',e1⟩:=I.base.there b o e hx;exact free b o' (Vd b o e hx) e1 (I.base.free b o e n hx)
 ·obtain⟨o',e1⟩:=I.base.there b o e hx;exact there b o' (Vd b o e hx) e1
 ·obtain⟨m1,e1⟩:=I.base.agR b ps e;obtain⟨m2,e2⟩:=agR b _ e1;exact⟨m1++m2,by rw[e2,By]⟩
 ·obtain⟨m,hn,hl⟩:=I.loc;refine⟨m,ns m hn,λi x v e1 e2 e3=>?_⟩;obtain⟨u,r,l⟩:=hl i x v e1 e2 e3;refine⟨u,r,?_⟩
  rcases l with l|⟨k,c,e,z⟩
  ·exact .inl l
  ·exact .inr ⟨k,c,e,cellK x c e _ z⟩
 ·obtain⟨v,z⟩:=I.cell x c e;exact⟨v,cellK x c e v z⟩
 ·obtain⟨m,⟨o,_,_,ho,_⟩,_⟩:=I.loc;exact free _ o (λz=>(Mn _ z).2.1 rfl) ho I.free
 ·obtain⟨v,o,ho,hd⟩:=I.cell x c e;exact free c o (λz=>(Mn c z).2.2.1 x c e rfl) ho (I.agK x c e)
 ·obtain⟨e,n,ne,nf,d⟩:=I.pin p hp;have Qd:p.1∉ch:=λz=>(Mn p.1 z).2.2.2 p hp rfl;exact⟨keep p.1 p.2 ne nf Qd e n,free p.1 p.2 Qd e n,ne,nf,d⟩
theorem Inv.un {t':Nat}(I:Inv X pins σ H s)(u:Un X.fs [] H H' s.heap h')(hok:gB X.prog X.w H' h'):Inv X pins σ H' {s with heap:=h',toks:=t'}:=by
 obtain⟨m,⟨o,es,ep,ho,r⟩,_⟩:=id I.loc;obtain⟨sl,hL⟩:=u.any ho I.free (by simp)
 exact I.step (g':=s.gens) (d':=s.drawn) (ch:=[]) (λ_ z=>nomatch z) (λb o _ hb _ e n=>u.keep b o e n hb (by simp)) (λb o _ hb _ e n=>u.slot b o e n hb (by simp)) (λb o _ e n=>u.free b o e n (by simp)) (λb o _ e=>u.there b o e (by simp)) u.agG u.afH u.agR (λm' hm=>by
  obtain⟨o',es',NZ,JW,r'⟩:=hm;rw[ho] at JW;cases JW
  exact⟨_,es',NZ,hL,r'⟩) hok I.bare
theorem Inv.call {g':Array GenState}{t':Nat}{d':Drawn}{ch:List Addr}(I:Inv X pins σ H s)(u:Un (eV X.stack) ch H H' s.heap h')(hok:gB X.prog X.w H' h')(hg:AllBare g')
 (Mn:∀b∈ch,(b∈X.ex\/X.s₀.heap.objs.size<=b)/\b≠X.env.locals/\(∀x c,X.env.cells.lookup x=some c->c≠b)/\∀p∈X.pn++pins,p.1≠b):
 Inv X pins σ H' {s with heap:=h',gens:=g',drawn:=d',toks:=t'}:=by
 obtain⟨m,⟨o,es,ep,ho,r⟩,_⟩:=id I.loc;obtain⟨sl,hL⟩:=u.any ho I.free λz=>(Mn _ z).2.1 rfl
 exact I.step (ch:=ch) Mn (λb o hL hb hc e n=>u.keep b o e n (λz=>(BN.mp (I.agN b z)).elim hL hb) hc) (λb o _ _ hc e n=>u.any e n hc) (λb o hc e n=>u.free b o e n hc) (λb o hc e=>u.there b o e hc) u.agG u.afH u.agR (λm' hm=>by
  obtain⟨o',es',NZ,JW,r'⟩:=hm;rw[ho] at JW;cases JW
  exact⟨_,es',NZ,hL,r'⟩) hok hg
theorem Inv.turned {t':Nat}{it:Addr}(I:Inv X pins σ H s)(k:∀b o,b≠it->s.heap.get? b=some o->h'.get? b=some o)(hn:H it=none)(hL:it≠X.env.locals)
 (h1:it∈X.ex\/X.s₀.heap.objs.size<=it)(h2:∀x c,X.env.cells.lookup x=some c->c≠it)(h3:∀p∈X.pn++pins,p.1≠it):Inv X pins σ H {s with heap:=h',toks:=t'}:=by
 have M5:∀b u,H b=some u->b≠it:=λb u e z=>by rw[z,hn] at e;cases e
 refine I.step (g':=s.gens) (d':=s.drawn) (ch:=[it]) (λb hb=>?_) (λb o _ _ hc e _=>k b o (λz=>hc (by simp[z])) e) (λb o _ _ hc e _=>⟨o.slots,k b o (λz=>hc (by simp[z])) e⟩) (λ_ _ _ _ n=>n)
  (λb o hc e=>⟨o,k b o (λz=>hc (by simp[z])) e⟩) (λ_ _ e=>e) (λ_ _ _ e=>e) (λb ps e=>⟨#[],by rw[e];simp⟩) (λm hm=>?_) (λb u e=>?_) I.bare
 ·have e:b=it:=by simpa using hb
  subst e;exact⟨h1,hL,h2,h3⟩
 ·obtain⟨o,es,ep,ho,r⟩:=hm;exact⟨o,es,ep,k _ o (Jm hL) ho,r⟩
 ·refine(I.hok b u e).ahP (λc v hc q=>k c v ?_ q) (λ_ q=>q) λ_ _ q=>q
  rcases hc with z|z
  ·rw[z];exact M5 b u e
  ·exact M5 c _ z
theorem Inv.tok (I:Inv X pins σ H s)(t:Nat):Inv X pins σ H {s with toks:=t}:=I.un (h':=s.heap) (t':=t) Un.refl I.hok
theorem Inv.kept {t':Nat}(I:Inv X pins σ H s)(k:∀b u,s.heap.get? b=some u->h'.get? b=some u):Inv X pins σ H {s with heap:=h',toks:=t'}:=I.un (Un.kept k) (I.hok.kept k)
theorem Inv.laid {a:Addr}{o:HO}{t':Nat}(I:Inv X pins σ H s)(k:∀b u,s.heap.get? b=some u->h'.get? b=some u)(hp:s.heap.objs.size<=a)(new:bJ X.prog X.w (upd H a o) h' a o):
 Inv X pins σ (upd H a o) {s with heap:=h',toks:=t'}:=I.un (Un.laid k hp (I.hok.fresh hp)) (I.hok.laid k hp new)
theorem Inv.write {x e:Addr}{o:HO}{t':Nat}(I:Inv X pins σ H s)(mu:GC (H x))(he:e=x\/H e=some (.own x))(k:∀b u,b≠e->s.heap.get? b=some u->h'.get? b=some u)(Px:∃u,h'.get? e=some u)
 (new:bJ X.prog X.w (upd H x o) h' x o):Inv X pins σ (upd H x o) {s with heap:=h',toks:=t'}:=I.un (Un.write mu he k Px) (I.hok.write mu he k Px new)
theorem Inv.afF {pins':List (Addr×Obj)}(I:Inv X pins σ H s)(h:∀p∈pins',s.heap.get? p.1=some p.2/\H p.1=none/\p.1≠X.env.locals/\p.1∉X.fs/\∀v,p.2.data≠.cell v):Inv X pins' σ H s :=
 ⟨I.ok,I.os,I.bare,I.base,I.loc,I.cell,I.free,I.agK,λp hp=>(rQ.mp hp).elim (λz=>I.pin p (Jp _ z)) (h p),I.hok,I.len⟩
theorem p4 (hN:N.Nodup){j:Nat}(a:N[i]?=some x)(b:N[j]?=some x):i=j:=by
 obtain⟨h1,e1⟩:=Be.mp a;obtain⟨h2,e2⟩:=Be.mp b;exact(List.getElem_inj hN).mp (e1.trans e2.symm)
theorem nv {E:Bf}{v:V}{Q:Unit->Shared->Prop}(I:Inv X pins σ H s)(hN:X.N.Nodup)(hi:X.N[i]?=some x)(hx:E7 X.env.scope x)(r:aI v u)
 (h:∀s',Inv X pins (σ.set i (some v)) H s'->(∃a,Heap.SameBut a s.heap s'.heap/\(a=X.env.locals\/X.env.cells.lookup x=some a))->Q () s')(hf:X.fn x=true\/X.env.scope.names.lookup x=some .local:=by first|exact .inl rfl|exact .inr rfl|assumption):wpAny M A (storeName X.env x u) Q E s:=by
 obtain⟨m,hn,hl⟩:=id I.loc
 have VS:(X.env.scope.kind == .class || (X.env.scope.kind == .module&&X.env.locals != X.env.globals))=false:=by rw[I.ok.kind];rfl
 have ZD:i<σ.length:=by rw[I.len];exact(Be.mp hi).1
 have cne:=I.cne
 have tracked:∀{a:Addr}{h':Heap},(∃o,s.heap.get? a=some o/\H a=none)->Heap.SameBut a s.heap h'->gB X.prog X.w H h':=λ{a h'} ha hs b ob e=>by
  obtain⟨_,_,KI⟩:=ha;refine(I.hok b ob e).ahP (λc w' hc q=>(hs.2 c ?_).trans q) (λ_ q=>q) λ_ _ q=>q;rintro rfl
  rcases hc with rfl|hc
  ·rw[KI] at e;cases e
  ·rw[KI] at hc;cases hc
 rcases hx with hk|hk
 ·refine wpAny_storeName_local hk hn (λh' Qe hs=>?_) VS;obtain⟨oL,_,_,hoL,_⟩:=id hn;refine h _ ⟨I.ok,I.os,I.bare,⟨λb o e n hb hx=>?_,λb o e n hb hx=>?_,I.base.free,λb o e hx=>?_,I.base.agG,I.base.afH,I.base.agR⟩,⟨_,Qe,λj y v' e1 e2 e3=>?_⟩,λy c e=>?_,I.free,I.agK,λp hp=>?_,tracked ⟨oL,hoL,I.free⟩ hs,by simpa using I.len⟩ ⟨_,hs,.inl rfl⟩
  ·exact(hs.2 b (Ie (HY (Ec e) I.ok.above))).trans (I.base.keep b o e n hb hx)
  ·obtain⟨sl,e1⟩:=I.base.slot b o e n hb hx;exact⟨sl,(hs.2 b (Ie (HY (Ec e) I.ok.above))).trans e1⟩
  ·obtain⟨o',e1⟩:=I.base.there b o e hx;exact⟨o',(hs.2 b (Ie (HY (Ec e) I.ok.above))).trans e1⟩
  ·by_cases hj:j=i
   ·subst hj;rw[hi] at e1;cases e1;rw[List.getElem?_set_self ZD] at e2
    cases e2
    exact⟨u,r,.inl ⟨hk,by simp⟩⟩
   ·rw[List.getElem?_set_ne (Jm hj)] at e2;obtain⟨u',r',q⟩:=hl j y v' e1 e2 e3;refine⟨u',r',?_⟩
    rcases q with⟨k,e⟩|⟨k,c,e,z⟩
    ·refine .inl ⟨k,?_⟩;have:y≠x:=λe=>hj (p4 hN e1 (e▸hi));simp[this,e]
    ·exact .inr ⟨k,c,e,z.sameBut hs (cne y c e)⟩
  ·obtain⟨w',z⟩:=I.cell y c e;exact⟨w',z.sameBut hs (cne y c e)⟩
  ·obtain⟨e,n,ne,nf,d⟩:=I.pin p hp;exact⟨(hs.2 p.1 ne).trans e,n,ne,nf,d⟩
 ·have VT:X.fn x=true:=by
   rcases hf with z|z
   ·exact z
   ·rw[z] at hk;cases hk
  obtain⟨c,hc⟩:=I.ok.has x (.inl hk);obtain⟨w',z⟩:=I.cell x c hc;refine wpAny_storeName_cell I.ok.kind hk hc z (λh' JI hs=>?_);obtain⟨oc,ZE,VU⟩:=id z;refine h {s with heap:=h'} ⟨I.ok,I.os,I.bare,⟨λb o e n hb hx=>?_,λb o e n hb hx=>?_,I.base.free,λb o e hx=>?_,I.base.agG,I.base.afH,I.base.agR⟩,⟨m,hn.sameBut hs (Jm (cne x c hc)),λj y v' e1 e2 e3=>?_⟩,λy c' e=>?_,I.free,I.agK,λp hp=>?_,tracked ⟨oc,ZE,I.agK x c hc⟩ hs,by simpa using I.len⟩ ⟨c,hs,.inr hc⟩
  ·exact(hs.2 b (Ie (HY (Ec e) (I.ok.cab x c VT hc)))).trans (I.base.keep b o e n hb hx)
  ·obtain⟨sl,e1⟩:=I.base.slot b o e n hb hx;exact⟨sl,(hs.2 b (Ie (HY (Ec e) (I.ok.cab x c VT hc)))).trans e1⟩
  ·obtain⟨o',e1⟩:=I.base.there b o e hx;exact⟨o',(hs.2 b (Ie (HY (Ec e) (I.ok.cab x c VT hc)))).trans e1⟩
  ·by_cases hj:j=i
   ·subst hj;rw[hi] at e1;cases e1;rw[List.getElem?_set_self ZD] at e2
    cases e2
    exact⟨u,r,.inr ⟨.inl hk,c,hc,JI⟩⟩
   ·rw[List.getElem?_set_ne (Jm hj)] at e2;obtain⟨u',r',q⟩:=hl j y v' e1 e2 e3;refine⟨u',r',?_⟩
    rcases q with q|⟨k,c',e,z'⟩
    ·exact .inl q
    ·refine .inr ⟨k,c',e,z'.sameBut hs ?_⟩;rintro rfl;exact hj (p4 hN e1 (I.ok.inj _ _ _ e hc▸hi))
  ·by_cases ZF:c'=c
   ·subst ZF;exact⟨_,JI⟩
   ·obtain⟨w2,z2⟩:=I.cell y c' e;exact⟨w2,z2.sameBut hs ZF⟩
  ·obtain⟨e,n,ne,nf,d⟩:=I.pin p hp;refine⟨(hs.2 p.1 ?_).trans e,n,ne,nf,d⟩;intro q;rw[q,ZE] at e;have q':oc=p.2:=Option.some.inj e;exact d w' (by rw[<-q'];exact VU)
theorem iI {E:Bf}{v:V}{Q:Unit->Shared->Prop}(I:Inv X pins σ H s)(hN:X.N.Nodup)(hi:X.N[i]?=some x)(hx:E7 X.env.scope x)(r:aI v u)
 (h:∀s',Inv X pins (σ.set i (some v)) H s'->Q () s')(hf:X.fn x=true\/X.env.scope.names.lookup x=some .local:=by first|exact .inl rfl|exact .inr rfl|assumption):wpAny M A (storeName X.env x u) Q E s :=
 nv I hN hi hx r (λs' I' _=>h s' I') hf
theorem Inv.ajt {s':AL}{ch:List Addr}(I:Inv X pins σ H s)(ho:s'.os=s.os)(u:Un (eV X.stack) ch H H' s.heap s'.heap)(hok:gB X.prog X.w H' s'.heap)(hg:AllBare s'.gens)
 (Mn:∀b∈ch,(b∈X.ex\/X.s₀.heap.objs.size<=b)/\b≠X.env.locals/\(∀x c,X.env.cells.lookup x=some c->c≠b)/\∀p∈X.pn++pins,p.1≠b):Inv X pins σ H' s':=by
 obtain⟨h',g',d',t',o'⟩:=s';have e:o'=s.os:=ho;subst e;exact I.call (g':=g') (t':=t') (d':=d') u hok hg Mn
end
abbrev XK:=Value->Option Addr->Hp->Prop
abbrev St:=List (Option V)
abbrev VK:=V->Hp->Prop
abbrev TE:=St->Hp->VK->Prop
abbrev TT:=St->Hp->(Bool->Hp->Prop)->Prop
abbrev TA:=St->Hp->(List V->Hp->Prop)->Prop
structure Ends where
 nx:St->Hp->Prop
 rt:VK
 bk:St->Hp->Prop:=λ_ _=>False
 ct:St->Hp->Prop:=λ_ _=>False
abbrev TS:=Ends->St->Hp->Prop
def EP (X:Cx)(pins:List (Addr×Obj))(σ:St)(Q:VK)(u:Value)(s':AL):Prop:=∃v H',Inv X pins σ H' s'/\aI v u/\Q v H'
def TP (X:Cx)(pins:List (Addr×Obj))(σ:St)(Q:Bool->Hp->Prop)(b:Bool)(s':AL):Prop:=∃H',Inv X pins σ H' s'/\Q b H'
def AP (X:Cx)(pins:List (Addr×Obj))(σ:St)(Q:List V->Hp->Prop)(us:yX)(s':AL):Prop:=∃vs H',Inv X pins σ H' s'/\aR vs us/\Q vs H'
def SP (X:Cx)(pins:List (Addr×Obj))(D:Ends)(f:Flow)(s':AL):Prop :=
 match f with
 | .next=>∃σ' H',Inv X pins σ' H' s'/\D.nx σ' H'
 | .brk=>∃σ' H',Inv X pins σ' H' s'/\D.bk σ' H'
 | .cont=>∃σ' H',Inv X pins σ' H' s'/\D.ct σ' H'
 | .ret u=>∃v σ' H',Inv X pins σ' H' s'/\aI v u/\D.rt v H'
def PE (X:Cx)(e:Expr)(t:TE):Prop :=
 ∀(pins:List (Addr×Obj))(s:AL)(σ:St)(H:Hp)(Q:VK),Inv X pins σ H s->t σ H Q->wpAny (model X.prog X.w) X.A (eval e X.env) (EP X pins σ Q) X.xe s
def PT (X:Cx)(e:Expr)(t:TT):Prop :=
 ∀(pins:List (Addr×Obj))(s:AL)(σ:St)(H:Hp)(Q:Bool->Hp->Prop),Inv X pins σ H s->t σ H Q->wpAny (model X.prog X.w) X.A (isTrue e X.env (eval e X.env)) (TP X pins σ Q) X.xe s
def PW (X:Cx)(e:Expr)(t:TT):Prop :=
 ∀(dG:Sem Value)(pins:List (Addr×Obj))(s:AL)(σ:St)(H:Hp)(Q:Bool->Hp->Prop),Inv X pins σ H s->t σ H Q->wpAny (model X.prog X.w) X.A (isTrue e X.env dG) (TP X pins σ Q) X.xe s
variable {X:Cx}{e:Expr}
theorem PW.pt {t:TT}(h:PW X e t):PT X e t:=h _
def PA (X:Cx)(es:vH)(t:TA):Prop :=
 ∀(pos:Pos)(pins:List (Addr×Obj))(s:AL)(σ:St)(H:Hp)(Q:List V->Hp->Prop),Inv X pins σ H s->t σ H Q->wpAny (model X.prog X.w) X.A (spliced (backTo pos (starEach es X.env))) (AP X pins σ Q) X.xe s
def PS (X:Cx)(st:Stmt)(t:TS):Prop :=
 ∀(pins:List (Addr×Obj))(s:AL)(σ:St)(H:Hp)(D:Ends),Inv X pins σ H s->t D σ H->wpAny (model X.prog X.w) X.A (exec st X.env) (SP X pins D) X.xe s
def qO (X:Cx)(st:Ek)(t:TS):Prop :=
 ∀(pins:List (Addr×Obj))(s:AL)(σ:St)(H:Hp)(D:Ends),Inv X pins σ H s->t D σ H->wpAny (model X.prog X.w) X.A (execs st X.env) (SP X pins D) X.xe s
variable {s:AL}
theorem bO {α:Type}{t:Sem α}{Q Q':α->Shared->Prop}{E:Bf}(h:wpAny M A t Q E s)(hQ:∀a s,Q a s->Q' a s):wpAny M A t Q' E s:=vF h hQ λ_ _ x=>x
variable {pins:List (Addr×Obj)}{σ:St}{op:CmpOp}
section
variable {X:Cx}
def gr (i:Nat):TE:=λσ H Q=>∃v,σ[i]?=some (some v)/\Q v H
def tC (v:V):TE:=λ_ H Q=>Q v H
theorem aai {pos:Pos}(hN:X.N[i]?=some x)(hv:GP X.env.scope x)(hd:(x==("__debug__":Str))=false:=by decide)(Ka:(x==("__classdict__":Str))=false:=by decide):PE X (.Name x pos) (gr i):=by
 intro pins s σ H Q I h;obtain⟨v,e,h⟩:=h;obtain⟨m,hn,hl⟩:=I.loc;obtain⟨u,r,l⟩:=hl i x v hN e hv;have fin:EP X pins σ Q u s:=⟨v,H,I,r,h⟩
 rcases l with⟨hk,hm⟩|⟨hk,c,hc,Ld⟩
 ·exact wpAny_Name (wpAny_loadName_local I.ok.kind hk hn hm fin) hd
 ·rcases hk with hk|hk
  ·exact wpAny_Name (wpAny_loadName_cell I.ok.kind hk hc Ld fin) hd
  ·exact wpAny_Name (wpAny_loadName_free I.ok.kind hk hc Ld fin Ka) hd
theorem ar {i j pos}:PE X (.Constant (.int i) j pos) (tC (.int i)):=λ_ _ _ H _ I h=>wpAny_Constant_int ⟨.int i,H,I.tok _,⟨_,rfl⟩,h⟩
theorem eY {b j pos}:PE X (.Constant (.bool b) j pos) (tC (.bl b)):=λ_ _ _ H _ I h=>Constant_bool ⟨.bl b,H,I,rfl,h⟩
theorem xR {j pos}:PE X (.Constant .none j pos) (tC .non):=λ_ _ _ H _ I h=>Constant_none ⟨.non,H,I,rfl,h⟩
theorem gf {x j pos}:PE X (.Constant (.str x) j pos) (tC (.str x)):=λ_ _ _ H _ I h=>Calls.Constant_str ⟨.str x,H,I.tok _,⟨_,rfl⟩,h⟩
def Gl (X:Cx)(x:Str):Prop:=X.env.kindOf x=some .globalImplicit
theorem iM {E:Bf}{pos:Pos}{Q:Bf}(I:Inv X pins σ H s)(hg:Gl X x)(hm:X.mg x=some u)(h:Q u s)
 (hd:(x==("__debug__":Str))=false:=by decide):wpAny (model X.prog X.w) X.A (eval (.Name x pos) X.env) Q E s :=
 Calls.Name_function_global I.ok.kind hg (Calls.loadGlobal_global (by rw[I.ok.glob];exact I.mod.glob.keeps I.bk) hm h) hd
theorem dU {E:Bf}{pos:Pos}{Q:Bf}(I:Inv X pins σ H s)(hg:Gl X x)(hm:X.mg x=none)(hv:bootBuiltins x=some u)(h:Q u s)
 (hn:x ≠ "__name__":=by decide)(hd:(x==("__debug__":Str))=false:=by decide):wpAny (model X.prog X.w) X.A (eval (.Name x pos) X.env) Q E s:=by
 obtain⟨mb,h1,h2⟩:=I.mod.blt;exact Calls.Name_function_global I.ok.kind hg (Calls.loadGlobal_builtin (by rw[I.ok.glob];exact I.mod.glob.keeps I.bk) hm (by rw[I.ok.blt];exact h1.keeps I.bk) ((h2 x hn).trans hv) h) hd
theorem cu {v:V}{pos:Pos}(hg:Gl X x)(hm:X.mg x=some u)(r:aI v u)(hd:(x==("__debug__":Str))=false:=by decide):PE X (.Name x pos) (tC v):=
 λ_ _ _ H _ I h=>iM I hg hm ⟨v,H,I,r,h⟩ hd
theorem dX {v:V}{pos:Pos}(hg:Gl X x)(hm:X.mg x=none)(hv:bootBuiltins x=some u)(r:aI v u)(hn:x ≠ "__name__":=by decide)(hd:(x==("__debug__":Str))=false:=by decide):PE X (.Name x pos) (tC v):=
 λ_ _ _ H _ I h=>dU I hg hm hv ⟨v,H,I,r,h⟩ hn hd
variable {a b:Expr}{ta tb:TE}{pos:Pos}
def PC (X:Cx)(op:CmpOp)(a b:Expr)(t:TE):Prop :=
 ∀(pins:List (Addr×Obj))(s:AL)(σ:St)(H:Hp)(Q:VK),Inv X pins σ H s->t σ H Q →
  wpAny (model X.prog X.w) X.A (eval a X.env) (λv s₁=>wpAny (model X.prog X.w) X.A (eval b X.env) (λu s₂=>wpAny (model X.prog X.w) X.A (compareOp op v u) (EP X pins σ Q) X.xe s₂) X.xe s₁) X.xe s
def tB (t:TE):TT:=λσ H Q=>t σ H λx H1=>∃c,x=.bl c/\Q c H1
theorem aah {t:TE}(h:PC X op a b t)(h1:behindInMarks op b=false:=by first|exact Qf _ (by decide) (by decide)|rfl):PT X (.Compare a [op] [b] pos) (tB t):=by
 intro pins s σ H Q I hw;refine wpAny_isTrue_Compare1 (bO (h pins s σ H _ I hw) λv s1 h1=>bO h1 λu s2 h2=>bO h2 λc s3 z'=>?_) h1;obtain⟨x,H1,I1,r1,q1⟩:=z';obtain⟨d,rfl,q⟩:=q1
 cases r1
 exact AQ ⟨H1,I1,q⟩
theorem bK {t:TE}(h:PE X e t)(he:∀dG,isTrue e X.env dG=(do let v <-dG;standAt e.pos;holding [v] (truthy v)):=by intro _;rfl):PT X e (tB t):=by
 intro pins s σ H Q I hw;refine isTrue_plain (bO (h pins s σ H _ I hw) λv s1 z'=>?_) (he _);obtain⟨x,H1,I1,r1,q1⟩:=z';obtain⟨d,rfl,q⟩:=q1
 cases r1
 exact AQ ⟨H1,I1,q⟩
variable {tA Ve:TT}{rest:vH}
def aak (t u:TT):TT:=λσ H Q=>t σ H λc H1=>if c=true then u σ H1 Q else Q false H1
def aaN (t u:TT):TT:=λσ H Q=>t σ H λc H1=>if c=true then Q true H1 else u σ H1 Q
def aaj (t:TT):TT:=λσ H Q=>t σ H λc H1=>Q (!c) H1
theorem oQ (ha:PT X a tA):PW X (.BoolOp .And [a] pos) tA:=by
 intro wh pins s σ H Q I h;refine isTrue_and (bO (ha pins s σ H Q I h) λc s1 e=>?_)
 cases c with
 |true=>exact isTrue_and_nil e
 |false=>exact e
theorem dB (ha:PT X a tA):PW X (.BoolOp .Or [a] pos) tA:=by
 intro wh pins s σ H Q I h;refine isTrue_or (bO (ha pins s σ H Q I h) λc s1 e=>?_)
 cases c with
 |false=>exact isTrue_or_nil e
 |true=>exact e
theorem sS (ha:PT X a tA)(hb:PW X (.BoolOp .And (b::rest) pos) Ve):PW X (.BoolOp .And (a::b::rest) pos) (aak tA Ve):=by
 intro wh pins s σ H Q I h;refine isTrue_and (bO (ha pins s σ H _ I h) λc s1 z'=>?_);obtain⟨H1,I1,q1⟩:=z'
 cases c with
 |true=>exact hb wh pins s1 σ H1 Q I1 q1
 |false=>exact⟨H1,I1,q1⟩
theorem eA (ha:PT X a tA)(hb:PW X (.BoolOp .Or (b::rest) pos) Ve):PW X (.BoolOp .Or (a::b::rest) pos) (aaN tA Ve):=by
 intro wh pins s σ H Q I h;refine isTrue_or (bO (ha pins s σ H _ I h) λc s1 z'=>?_);obtain⟨H1,I1,q1⟩:=z'
 cases c with
 |true=>exact⟨H1,I1,q1⟩
 |false=>exact hb wh pins s1 σ H1 Q I1 q1
theorem bF (ha:PT X a tA):PT X (.UnaryOp .Not a pos) (aaj tA):=by
 intro pins s σ H Q I h;exact isTrue_not (ha pins s σ H (λc H1=>Q (!c) H1) I h)
def aau (ta tb:TE):TE:=λσ H Q=>ta σ H λx H1=>∃c,x=.bl c/\if c=true then tb σ H1 Q else Q (.bl false) H1
def aan (ta tb:TE):TE:=λσ H Q=>ta σ H λx H1=>∃c,x=.bl c/\if c=true then Q (.bl true) H1 else tb σ H1 Q
def aao (ta:TE):TE:=λσ H Q=>ta σ H λx H1=>∃c,x=.bl c/\Q (.bl (!c)) H1
theorem d9 {op}{t:TE}(h:PE X a t):PE X (.BoolOp op [a] pos) t:=λpins s σ H Q I hw=>BoolOp_one (h pins s σ H Q I hw)
theorem dC (ha:PE X a ta)(hb:PE X (.BoolOp .And (b::rest) pos) tb):PE X (.BoolOp .And (a::b::rest) pos) (aau ta tb):=by
 intro pins s σ H Q I h;refine BoolOp_and (bO (ha pins s σ H _ I h) λv s1 z'=>?_);obtain⟨x,H1,I1,r1,q1⟩:=z';obtain⟨c,rfl,q1⟩:=q1
 cases r1
 refine AQ ?_
 cases c with
 |true=>exact hb pins s1 σ H1 Q I1 q1
 |false=>exact⟨.bl false,H1,I1,rfl,q1⟩
theorem aft (ha:PE X a ta)(hb:PE X (.BoolOp .Or (b::rest) pos) tb):PE X (.BoolOp .Or (a::b::rest) pos) (aan ta tb):=by
 intro pins s σ H Q I h;refine BoolOp_or (bO (ha pins s σ H _ I h) λv s1 z'=>?_);obtain⟨x,H1,I1,r1,q1⟩:=z';obtain⟨c,rfl,q1⟩:=q1
 cases r1
 refine AQ ?_
 cases c with
 |false=>exact hb pins s1 σ H1 Q I1 q1
 |true=>exact⟨.bl true,H1,I1,rfl,q1⟩
theorem zN (ha:PE X a ta):PE X (.UnaryOp .Not a pos) (aao ta):=by
 intro pins s σ H Q I h;refine UnaryOp_ (bO (ha pins s σ H _ I h) λv s1 z'=>?_);obtain⟨x,H1,I1,r1,q1⟩:=z';obtain⟨c,rfl,q1⟩:=q1
 cases r1
 exact not_of (AQ ⟨.bl (!c),H1,I1,rfl,q1⟩)
end
def aV (K:PySem.W.Frag)(H:Hp)(a:Addr)(xs:List V):Prop :=
 Rd H a (.lst xs) \/
  ∃(o:Obj)(its:EV)(n:Nat),K.lookup a=some o/\o.cls=.type "list"/\o.dict=none/\o.data=.seq its n/\its.size<=sizeLine/\aR xs its.toList
def bf (K:PySem.W.Frag)(H:Hp)(a:Addr)(xs:List V):Prop :=
 Rd H a (.tup xs) \/
  ∃(o:Obj)(its:EV)(n:Nat),K.lookup a=some o/\o.cls=.type "tuple"/\o.data=.seq its n/\its.size<=sizeLine/\aR xs its.toList
def aaq:Value->Option V
 | .none=>some .non
 | .bool b=>some (.bl b)
 | .int i _=>some (.int i)
 | .str x _=>some (.str x)
 | .bytes b _=>some (.byt b)
 | .float b _=>some (.flt b)
 | .ref a=>some (.ref a)
 | .type n=>some (.ty n)
 |_=>none
theorem aI.abs {x:V}(r:aI x u):aaq u=some x:=by
 cases x with
 |non=>cases r;rfl
 |bl _=>cases r;rfl
 |int _=>obtain⟨t,rfl⟩:=r;rfl
 |str _=>obtain⟨t,rfl⟩:=r;rfl
 |byt _=>obtain⟨t,rfl⟩:=r;rfl
 |flt _=>obtain⟨t,rfl⟩:=r;rfl
 |ref _=>cases r;rfl
 |ty _=>cases r;rfl
variable {y:V}
theorem aI.inj {x:V}(r:aI x u)(q:aI y u):x=y:=Option.some.inj (r.abs.symm.trans q.abs)
theorem aR.inj:∀{xs ys:List V}{us:yX},aR xs us->aR ys us->xs=ys
 |_,_,_,.nil,.nil=>rfl
 |_,_,_,.cons r t,.cons r' t'=>by rw[r.inj r',aR.inj t t']
variable {K:PySem.W.Frag}
section
variable {X:Cx}{pins:List (Addr×Obj)}{σ:St}{H:Hp}{s:AL}{a:Addr}{xs ys:List V}
theorem aV.of (h:H a=some (.lst xs)):aV K H a xs:=.inl (.inl h)
theorem bf.of (h:H a=some (.tup xs)):bf K H a xs:=.inl (.inl h)
theorem Inv.list (I:Inv X pins σ H s)(h:aV X.K H a xs):∃its:List Value,aR xs its/\PlainL s.heap a its.toArray/\xs.length<=sizeLine:=by
 rcases h with h|⟨o,its,n,hk,hc,hd,hs,hz,r⟩
 ·obtain⟨z,its,n,r,e⟩:=h.ok I.hok;exact⟨its,r,⟨_,n,e,rfl,rfl,rfl⟩,z⟩
 ·refine⟨its.toList,r,⟨o,n,I.kIn a o hk,hc,hd,by simpa using hs⟩,?_⟩;have e:=r.length;simp only[Bz] at e;omega
theorem Inv.tuple (I:Inv X pins σ H s)(h:bf X.K H a xs):∃its:List Value,aR xs its/\IsTup s.heap a its.toArray/\xs.length<=sizeLine:=by
 rcases h with h|⟨o,its,n,hk,hc,hs,hz,r⟩
 ·obtain⟨z,its,r,p⟩:=h.ok I.hok;exact⟨its,r,p,z⟩
 ·refine⟨its.toList,r,⟨o,I.kIn a o hk,hc,n,by simpa using hs⟩,?_⟩;have e:=r.length;simp only[Bz] at e;omega
theorem Inv.agS (I:Inv X pins σ H s)(h:aV X.K H a xs)(h':aV X.K H a ys):xs=ys:=by
 obtain⟨its,r,⟨o,n,e,_,_,d⟩,_⟩:=I.list h;obtain⟨its',r',⟨o',n',e',_,_,d'⟩,_⟩:=I.list h';rw[e] at e';cases e';rw[d] at d'
 injection d' with d1 _
 have:its=its':=by simpa using Hh Array.toList d1
 subst this;exact r.inj r'
theorem Inv.agW (I:Inv X pins σ H s)(h:bf X.K H a xs)(h':bf X.K H a ys):xs=ys:=by
 obtain⟨its,r,⟨o,e,_,n,d⟩,_⟩:=I.tuple h;obtain⟨its',r',⟨o',e',_,n',d'⟩,_⟩:=I.tuple h';rw[e] at e';cases e';rw[d] at d'
 injection d' with d1 _
 have:its=its':=by simpa using Hh Array.toList d1
 subst this;exact r.inj r'
end
abbrev Cx.ahy (X:Cx)(E:Bf):Cx:={X with xe:=E}
abbrev Cx.nox (X:Cx):Cx:=X.ahy λ_ _=>False
theorem Cx.Ok.ahy (ok:X.Ok)(E:Bf):(X.ahy E).Ok :=
 ⟨ok.mod,ok.kind,ok.glob,ok.blt,ok.above,ok.inj,ok.has,ok.cab,ok.hd,ok.frames,ok.stk,ok.exf,ok.bs,ok.bsz,ok.aiD,ok.ai6,ok.agY,ok.frf⟩
theorem Cx.Ok.agT {E:Bf}(ok:(X.ahy E).Ok):X.Ok :=
 ⟨ok.mod,ok.kind,ok.glob,ok.blt,ok.above,ok.inj,ok.has,ok.cab,ok.hd,ok.frames,ok.stk,ok.exf,ok.bs,ok.bsz,ok.aiD,ok.ai6,ok.agY,ok.frf⟩
section
variable {X:Cx}{pins:List (Addr×Obj)}{σ:St}{H:Hp}{s:AL}{E:Bf}
theorem Inv.ahy (I:Inv X pins σ H s)(E:Bf):Inv (X.ahy E) pins σ H s:=⟨I.ok.ahy E,I.os,I.bare,I.base,I.loc,I.cell,I.free,I.agK,I.pin,I.hok,I.len⟩
theorem Inv.agT (I:Inv (X.ahy E) pins σ H s):Inv X pins σ H s:=⟨I.ok.agT,I.os,I.bare,I.base,I.loc,I.cell,I.free,I.agK,I.pin,I.hok,I.len⟩
theorem SP.agT {D:Ends}{f:Flow}{s':AL}(h:SP (X.ahy E) pins D f s'):SP X pins D f s':=by
 cases f with
 |next=>obtain⟨σ',H',I,q⟩:=h;exact⟨σ',H',I.agT,q⟩
 |brk=>obtain⟨σ',H',I,q⟩:=h;exact⟨σ',H',I.agT,q⟩
 |cont=>obtain⟨σ',H',I,q⟩:=h;exact⟨σ',H',I.agT,q⟩
 |ret u=>obtain⟨v,σ',H',I,r,q⟩:=h;exact⟨v,σ',H',I.agT,r,q⟩
theorem qO.nox {st:Ek}{t:TS}(h:qO X.nox st t):qO X st t:=λpins s σ H D I hw =>
 vF (h pins s σ H D (I.ahy _) hw) (λ_ _ q=>q.agT) λ_ _ z=>False.elim z
end
section
variable {X:Cx}{st:Stmt}{rest:Ek}{t u:TS}{e:Expr}{te:TE}{pos:Pos}
def z9:TS:=λD σ H=>D.nx σ H
def CY (t u:TS):TS:=λD σ H=>t {D with nx:=u D} σ H
theorem aE:qO X [] z9:=λ_ _ σ H _ I h=>Cw ⟨σ,H,I,h⟩
theorem aj (h1:PS X st t)(h2:qO X rest u):qO X (st::rest) (CY t u):=by
 intro pins s σ H D I h;refine wpAny_execs_cons (bO (h1 pins s σ H {D with nx:=u D} I h) λf s1 q=>?_)
 cases f with
 |next =>
  obtain⟨σ',H',I',q⟩:=q;exact h2 pins s1 σ' H' D I' q
 |ret v=>exact q
 |brk=>exact q
 |cont=>exact q
theorem ak (h1:PS X st t):qO X [st] t:=by
 intro pins s σ H D I h;refine wpAny_execs_cons (bO (h1 pins s σ H D I h) λf s1 q=>?_)
 cases f with
 |next=>exact Cw q
 |ret v=>exact q
 |brk=>exact q
 |cont=>exact q
theorem Inv.quiet (I:Inv X pins σ H s):interactive X.env=false:=by simp[interactive,I.ok.kind]
def afD (te:TE):TS:=λD σ H=>te σ H λ_ H1=>D.nx σ H1
theorem eB (he:PE X e te)(hs:swapsWith e none pos.line X.env=pure false:=by rfl):PS X (.Expr e pos) (afD te):=by
 intro pins s σ H D I h;exact wpAny_Expr_any (bO (he pins s σ H _ I h) λv s1 ⟨x,H1,I1,r1,q1⟩=>⟨σ,H1,I1,q1⟩) I.quiet hs
def Gj (te:TE):TS:=λD σ H=>te σ H D.rt
theorem az (he:PE X e te):PS X (.Return (some e) pos) (Gj te):=by
 intro pins s σ H D I h;exact wpAny_Return_some (bO (he pins s σ H _ I h) λv s1 ⟨x,H1,I1,r1,q1⟩=>⟨x,σ,H1,I1,r1,q1⟩)
def E9 (c:TT)(t u:TS):TS:=λD σ H=>c σ H λb H1=>if b=true then t D σ H1 else u D σ H1
theorem bc {c:Expr}{a b:Ek}{tc:TT}(hc:PT X c tc)(ha:qO X a t)(hb:qO X b u):PS X (.If c a b pos) (E9 tc t u):=by
 intro pins s σ H D I h;refine wpAny_If (bO (hc pins s σ H _ I h) λd s1 z'=>?_);obtain⟨H1,I1,q1⟩:=z'
 cases d with
 |true=>exact ha pins s1 σ H1 D I1 q1
 |false=>exact hb pins s1 σ H1 D I1 q1
def ajO:TS:=λ_ _ _=>False
theorem pV:PS X st ajO:=λ_ _ _ _ _ _ h=>h.elim
end
abbrev TG:=V->St->Hp->(St->Hp->Prop)->Prop
abbrev Bu:=List V->St->Hp->(St->Hp->Prop)->Prop
def PG (X:Cx)(target:Expr)(t:TG):Prop :=
 ∀(pins:List (Addr×Obj))(s:AL)(σ:St)(H:Hp)(v:V)(u:Value)(Q:St->Hp->Prop),Inv X pins σ H s->aI v u->t v σ H Q →
  wpAny (model X.prog X.w) X.A (assign target X.env u) (λ_ s'=>∃σ' H',Inv X pins σ' H' s'/\Q σ' H') X.xe s
def GT (X:Cx)(ts:vH)(t:Bu):Prop :=
 ∀(pins:List (Addr×Obj))(s:AL)(σ:St)(H:Hp)(vs:List V)(us:yX)(Q:St->Hp->Prop),Inv X pins σ H s->aR vs us->t vs σ H Q →
  wpAny (model X.prog X.w) X.A (assignInOrder ((assignEach ts X.env).map (·.2)) us) (λ_ s'=>∃σ' H',Inv X pins σ' H' s'/\Q σ' H') X.xe s
abbrev CG:=V->V->V->Hp->(Hp->Prop)->Prop
def Fv (X:Cx)(t:CG):Prop :=
 ∀(pins:List (Addr×Obj))(s:AL)(σ:St)(H:Hp)(o i v:V)(ov iv u:Value)(Q:Hp->Prop),Inv X pins σ H s->aI o ov->aI i iv->aI v u->t o i v H Q →
  wpAny (model X.prog X.w) X.A (setItem ov iv u) (λ_ s'=>∃H',Inv X pins σ H' s'/\Q H') X.xe s
variable {k:Nat}{g:TG}{ta:TA}{tb:TS}
section
variable {X:Cx}{pos:Pos}
def bN (i:Nat):TG:=λv σ H Q=>Q (σ.set i (some v)) H
theorem aC {i:Nat}(hN:X.N.Nodup)(hi:X.N[i]?=some x)(hx:E7 X.env.scope x)(hf:X.fn x=true\/X.env.scope.names.lookup x=some .local:=by first|exact .inl rfl|exact .inr rfl|assumption):PG X (.Name x pos) (bN i):=by
 intro pins s σ H v u Q I r h;exact wpAny_assign_Name (iI I hN hi hx r (λs' I'=>⟨_,H,I',h⟩) hf)
def CN:Bu:=λvs σ H Q=>vs=[]/\Q σ H
def cD (t:TG)(u:Bu):Bu:=λvs σ H Q=>∃v r,vs=v::r/\t v σ H λσ' H'=>u r σ' H' Q
theorem bX:GT X [] CN:=by
 intro pins s σ H vs us Q I r h;obtain⟨e,h⟩:=h;subst e
 cases r
 exact assignInOrder_nil ⟨σ,H,I,h⟩
theorem aG {es:vH}{t:TG}{u:Bu}(h1:PG X e t)(h2:GT X es u)
 (hs:(assignEach (e::es) X.env).map (·.2)=assign e X.env::(assignEach es X.env).map (·.2):=by rfl):GT X (e::es) (cD t u):=by
 intro pins s σ H vs us Q I r h;obtain⟨v,vr,e1,h⟩:=h;subst e1
 cases r with
 |cons r rr =>
  rw[hs];refine assignInOrder_cons (bO (h1 pins s σ H _ _ _ I r h) λ_ s1 z'=>?_);obtain⟨σ1,H1,I1,q1⟩:=z';exact h2 pins s1 σ1 H1 _ _ Q I1 rr q1
def jd (K:PySem.W.Frag)(n:Nat)(t:Bu):TG:=λv σ H Q=>∃a xs,v=.ref a/\bf K H a xs/\xs.length=n/\t xs σ H Q
theorem cA {es:vH}{t:Bu}{n:Nat}(hc:X.calm=true)(h:GT X es t)
 (hn:(assignEach es X.env).length=n:=by rfl)(Qg:(assignEach es X.env).findIdx? (·.1)=none:=by rfl):PG X (.Tuple es k pos) (jd X.K n t):=by
 intro pins s σ H v u Q I r hw;obtain⟨a,xs,e1,hq,hl,hw⟩:=hw;subst e1
 cases r
 obtain⟨its,rv,ht,hz⟩:=I.tuple hq;refine assign_Tuple_tuple (I.ok.hd hc) ht (by simp[hn,<-hl,rv.length]) Qg λh' hx=>?_;have I1:Inv X pins σ H {s with heap:=h'}:=I.kept (t':=s.toks) λb o e=>hx b o (Ie (Ec e)) e;exact h pins _ σ H xs _ Q I1 (by simpa using rv) hw
def aax (to ti:TE)(t:CG):TG:=λv σ H Q=>to σ H λo H1=>ti σ H1 λi H2=>t o i v H2 λH3=>Q σ H3
theorem rT {o i:Expr}{to ti:TE}{t:CG}(ho:PE X o to)(hi:PE X i ti)(hs:Fv X t)
 (ha:∀v,assign (.Subscript o i pos) X.env v=(do
  let ov <-holding [v] (eval o X.env)
  let iv <-holding [v,ov] (eval i X.env)
  standAt pos
  holding [v,ov,iv] (setItem ov iv v)
  release [v,ov,iv] []):=by intro _;rfl):PG X (.Subscript o i pos) (aax to ti t):=by
 intro pins s σ H v u Q I r h;rw[ha];refine C7 (tj (bO (ho pins s σ H _ I h) λov s1 z'=>?_));obtain⟨x,H1,I1,r1,q1⟩:=z';refine C7 (tj (bO (hi pins s1 σ H1 _ I1 q1) λiv s2 z'=>?_));obtain⟨y,H2,I2,r2,q2⟩:=z';refine C7 (vy (C7 (tj (bO (hs pins s2 σ H2 x y v ov iv u _ I2 r1 r2 r q2) λ_ s3 z'=>?_))));obtain⟨H3,I3,q3⟩:=z';exact wpAny_release ⟨σ,H3,I3,q3⟩
def xg (te:TE)(g:TG):TS:=λD σ H=>te σ H λx H1=>g x σ H1 D.nx
theorem oN {tg:Expr}{te:TE}(he:PE X e te)(hg:PG X tg g)(hs:swapsWithSole [tg] e pos.line X.env=pure false:=by rfl)(hw:swappedStores [tg] e X.env=pure none:=by rfl)
 (h1:(assignEach [tg] X.env).map (·.2)=[assign tg X.env]:=by rfl):PS X (.Assign [tg] e pos) (xg te g):=by
 intro pins s σ H D I h;refine wpAny_Assign_stores (bO (he pins s σ H _ I h) λv s1 z'=>?_) hs hw;obtain⟨x,H1,I1,r1,q1⟩:=z';rw[h1];exact bO (hg pins s1 σ H1 x v _ I1 r1 q1) λ_ s2 q=>q
theorem aW {i:Nat}{x:Str}{e:Expr}{te:TE}{pos':Pos}(hN:X.N.Nodup)(hi:X.N[i]?=some x)(hx:E7 X.env.scope x)(he:PE X e te)(hs:swapsWith e (some (.Name x pos')) pos.line X.env=pure false:=by rfl)(hf:X.fn x=true\/X.env.scope.names.lookup x=some .local:=by first|exact .inl rfl|exact .inr rfl|assumption):
 PS X (.Assign [.Name x pos'] e pos) (xg te (bN i)):=by
 intro pins s σ H D I h;refine wpAny_Assign_Name (bO (he pins s σ H _ I h) λv s1 z'=>?_) hs;obtain⟨y,H1,I1,r1,q1⟩:=z';exact iI I1 hN hi hx r1 (λs2 I2=>⟨_,H1,I2,q1⟩) hf
def aap (i j:Nat)(ta:TA):TS:=λD σ H=>ta σ H λvs H1=>∃v w,vs=[v,w]/\D.nx ((σ.set i (some v)).set j (some w)) H1
theorem jr {i j:Nat}{y:Str}{a b:Expr}{px py pt:Pos} {kt k2 VV}(hc:X.calm=true)(hN:X.N.Nodup)(hi:X.N[i]?=some x)(hj:X.N[j]?=some y)(K0:i≠j)
 (hx:X.env.scope.names.lookup x=some .local)(hy:X.env.scope.names.lookup y=some .local)(ha:PA X [a,b] ta)
 (hw:swappedStores [.Tuple [.Name x px,.Name y py] kt pt] (.Tuple [a,b] k2 VV) X.env=pure (some [x,y]))
 (hs:swapsWithSole [.Tuple [.Name x px,.Name y py] kt pt] (.Tuple [a,b] k2 VV) pos.line X.env=pure false:=by rfl):
 PS X (.Assign [.Tuple [.Name x px,.Name y py] kt pt] (.Tuple [a,b] k2 VV) pos) (aap i j ta):=by
 intro pins s σ H D I h;rw[exec_Assign_arm];refine C7 (vy ?_);rw[hs];refine C7 (pO ?_);rw[qM (by decide)];refine C7 (Tuple_ (bO (ha _ pins s σ H _ I h) λus s1 z'=>?_));obtain⟨vs,H1,I1,r1,q1⟩:=z';obtain⟨v,w,e1,q1⟩:=q1;subst e1
 obtain⟨u1,u2,rfl,rv,J5⟩:∃u1 u2,us=[u1,u2]/\aI v u1/\aI w u2:=by
  cases r1 with
  |cons p q =>
   cases q with
   |cons p' q' =>
    cases q'
    exact⟨_,_,rfl,p,p'⟩
 refine Dr ?_ gR;have I2:Inv X pins σ H1 {s1 with heap:=s1.heap.push {cls:=.type "tuple",data:=.seq [u1,u2].toArray} }:=I1.kept (t':=s1.toks) λb o e=>wa _ e;rw[hw];refine C7 (pO ?_);show wpAny (model X.prog X.w) X.A (do rule "assign.swapped-stores";let items <-unpackItems (.ref s1.heap.objs.size) 2 none;assignInOrder [λv=>bindName X.env y v,λv=>bindName X.env x v] items.reverse;pure Flow.next) _ _ _;refine C7 (wD (C7 (unpackItems_tuple (items:=#[u1,u2]) (I.ok.hd hc) (IsTup.new s1.heap _) λh' hx'=>?_)));have I3:=I2.kept (h':=h') (t':=s1.toks) λb o e=>hx' b o (Ie (Ec e)) e;show wpAny _ _ (assignInOrder [λv=>bindName X.env y v,λv=>bindName X.env x v] [u2,u1]>>=λ_=>pure Flow.next) _ _ _;refine C7 (assignInOrder_cons (wpAny_bindName (iI I3 hN hj (.inl hy) J5 (λs2 I4=>?_) (.inr hy))));refine assignInOrder_cons (wpAny_bindName (iI I4 hN hi (.inl hx) rv (λs3 I5=>assignInOrder_nil (pO ?_)) (.inr hx)));rw[List.set_comm _ _ (Jm K0)] at I5;exact⟨_,H1,I5,q1⟩
def afo (c:TT)(tb:TS):TS:=λD σ H=>∃W:Nat->St->Hp->Prop,(∃m,W m σ H)/\∀m σ H,W m σ H →
 c σ H λb H1=>if b=true then ∃N:St->Hp->Prop,(∀σ' H',N σ' H'->∃m',m'<m/\W m' σ' H')/\tb {D with nx:=N,ct:=N,bk:=D.nx} σ H1 else D.nx σ H1
theorem ku {c:Expr}{body:Ek}{tc:TT}(hp:PassesOwn (model X.prog X.w) X.A X.env X.xe)(hc:PT X c tc)(hb:qO X body tb):PS X (.While c body [] pos) (afo tc tb):=by
 intro pins s σ H D I h;obtain⟨W,⟨m0,w0⟩,turn⟩:=h;refine wpAny_While (codeAny_whileLoop (λn s'=>∃σ' H',Inv X pins σ' H' s'/\W n σ' H') ?_ m0 ⟨σ,H,I,w0⟩);rintro n s1 ⟨σ1,H1,I1,w1⟩;refine DY hp (bO (hc pins s1 σ1 H1 _ I1 (turn n σ1 H1 w1)) λb s2 z'=>?_);obtain⟨H2,I2,q2⟩:=z'
 cases b with
 |true =>
  obtain⟨N,hN,q2⟩:=q2;rw[zj rfl];refine DY hp (bO (hb pins s2 σ1 H2 _ I2 q2) λf s3 q3=>?_)
  cases f with
  |next =>
   obtain⟨σ3,H3,I3,n3⟩:=q3;obtain⟨m',hm,w3⟩:=hN σ3 H3 n3;exact⟨m',hm,σ3,H3,I3,w3⟩
  |cont =>
   obtain⟨σ3,H3,I3,n3⟩:=q3;obtain⟨m',hm,w3⟩:=hN σ3 H3 n3;exact⟨m',hm,σ3,H3,I3,w3⟩
  |brk=>exact q3
  |ret v=>exact q3
 |false =>
  rw[qM IA];exact Cw ⟨σ1,H2,I2,q2⟩
end
structure It where
 go:Nat->Hp->Prop
 yld:Nat->Hp->V->Hp->Prop
 stop:Nat->Hp->Prop
def c7 (X:Cx)(pins:List (Addr×Obj))(H:Hp)(b:Addr):Prop :=
 H b=none/\b≠X.env.locals/\b∉X.fs/\(b∈X.ex\/X.s₀.heap.objs.size<=b)/\(∀x c,X.env.cells.lookup x=some c->c≠b)/\∀p∈X.pn++pins,p.1≠b
variable {H':Hp}
theorem Inv.aha (I:Inv X pins σ H s)(hb:s.heap.objs.size<=b)(hn:H' b=none):c7 X pins H' b:=by
 refine⟨hn,BL (HY I.lt hb),I.ajM hb,.inr (EW I.sz hb),λx c e z=>?_,λp hp z=>?_⟩
 ·obtain⟨v,q⟩:=I.cell x c e;exact absurd (HY q.lt (by rw[z];exact hb)) (CD _)
 ·exact absurd (HY (Ec (I.pin p hp).1) (by rw[z];exact hb)) (CD _)
structure Turn (P:Iy)(w:World)(K:PySem.W.Frag)(tg:Expr)(J:It)(fp:List Addr)(it:Addr)(tn:Nat->Heap->Prop):Prop where
 mem:it∈fp
 obj:∀i h,tn i h->∀b∈fp,∃o,h.get? b=some o/\∀v,o.data≠.cell v
 keep:∀i h h',tn i h->(∀b∈fp,∀o,h.get? b=some o->h'.get? b=some o)->tn i h'
 item:∀(X:Cx),X.prog=P->X.w=w->X.K=K->X.calm=true->∀(i:Nat)(pins:List (Addr×Obj))(s:AL)(σ:St)(H:Hp)(E:Bf),Inv X pins σ H s->(∀b∈fp,c7 X pins H b)->tn i s.heap->J.go i H →
  wpAny (model P w) X.A (pyNext (.ref it)) (λr s1=>∃u,r=some u /\
   wpAny (model P w) X.A (letOwnedTupleGo tg (.ref it) u) (λ_ s2=>∃x H',Inv X pins σ H' s2/\aI x u/\J.yld i H x H'/\tn (i+1) s2.heap/\∀b∈fp,H' b=none) E s1) E s
 done:∀(X:Cx),X.prog=P->X.w=w->X.K=K->X.calm=true->∀(i:Nat)(pins:List (Addr×Obj))(s:AL)(σ:St)(H:Hp)(E:Bf),Inv X pins σ H s->(∀b∈fp,c7 X pins H b)->tn i s.heap->J.stop i H →
  wpAny (model P w) X.A (pyNext (.ref it)) (λr s1=>r=none/\Inv X pins σ H s1) E s
 self:∀(A:Around)(i:Nat)(s:AL)(Q:Bf)(E:Bf),tn i s.heap->Q (.ref it) s->wpAny (model P w) A (pyIter (.ref it)) Q E s
abbrev TI:=St->Hp->(It->Hp->Prop)->Prop
def IH (X:Cx)(pins:List (Addr×Obj))(σ:St)(tg:Expr)(R:It->Hp->Prop)(Py:Value)(s2:AL):Prop :=
 ∃(it:Addr)(fp:List Addr)(tn:Nat->Heap->Prop)(J:It)(H':Hp),Py=.ref it/\Inv X pins σ H' s2/\Turn X.prog X.w X.K tg J fp it tn/\tn 0 s2.heap/\(∀b∈fp,c7 X pins H' b)/\R J H'
def PI (X:Cx)(tg iter:Expr)(wi:TI):Prop :=
 ∀(pins:List (Addr×Obj))(s:AL)(σ:St)(H:Hp)(R:It->Hp->Prop),Inv X pins σ H s->wi σ H R →
  wpAny (model X.prog X.w) X.A (eval iter X.env) (λv s1=>wpAny (model X.prog X.w) X.A (pyIter v) (IH X pins σ tg R) X.xe s1) X.xe s
theorem pX {E:Bf}{s:AL}{tg:Expr}{it:Addr}{o:Obj}{n:String}{vs:EV}{Q:Unit->Shared->Prop}(ho:s.heap.get? it=some o)(hc:o.cls=.type n)(hd:o.data=.fields vs)
 (hn:["enumerate","zip","dict_itemiterator","dict_reverseitemiterator","odict_iterator","itertools.zip_longest","itertools.pairwise"].contains n=false)(hQ:Q () s):wpAny M A (letOwnedTupleGo tg (.ref it) u) Q E s:=by
 unfold letOwnedTupleGo
 cases tg <;> first
  |exact pO hQ
  |(cases u <;> first
   |exact pO hQ
   |(refine C7 (wpAny_load ho ?_)
     rw[hc,hd];show wpAny M A (if(["enumerate","zip","dict_itemiterator","dict_reverseitemiterator","odict_iterator","itertools.zip_longest","itertools.pairwise"].contains n&&vs[0]?==some (rawInt _))=true then _ else _) Q E s;rw[qM (by intro h;rw[hn,A4] at h;cases h)]
     exact pO hQ))
def zZ (K:PySem.W.Frag)(a:Addr):It :=
 ⟨λi H=>∃xs x,aV K H a xs/\xs[i]?=some x,λi H x H'=>H'=H/\∀xs,aV K H a xs->xs[i]?=some x,λi H=>∃xs,aV K H a xs/\xs.length<=i⟩
def Ig (K:PySem.W.Frag)(a:Addr):It :=
 ⟨λi H=>∃xs x,bf K H a xs/\xs[i]?=some x,λi H x H'=>H'=H/\∀xs,bf K H a xs->xs[i]?=some x,λi H=>∃xs,bf K H a xs/\xs.length<=i⟩
def B6 (lo:Int)(n:Nat):It:=⟨λi _=>i<n,λi H x H'=>H'=H/\x=.int (lo+i),λi _=>n<=i⟩
theorem afw {tg:Expr}(a it:Addr):Turn P w K tg (zZ K a) [it] it (λi h=>h.IsListIter it a i) where
 mem:=by simp
 obj:=λi h st b hb=>by
  have e:b=it:=by simpa using hb
  subst e;obtain⟨o,e,c,d⟩:=st;exact⟨o,e,λv z=>by rw[d] at z;cases z⟩
 keep:=λi h h' st k=>st.at λo e=>k it (by simp) o e
 item:=by
  intro X hP hw hK hc i pins s σ H E I hf st hg;subst hP hw hK;obtain⟨xs,x,hq,hx⟩:=hg;obtain⟨its,rv,p,hz⟩:=I.list hq;obtain⟨u,hu,ru⟩:=rv.get hx;obtain⟨f0,f1,f2,f3,f4,f5⟩:=hf it (by simp);refine Bt st p.isList (x:=u) (by simpa using hu) λh' Kb sb=>?_;have I1:Inv X pins σ H {s with heap:=h'}:=I.turned (t':=s.toks) (λb o hb e=>(sb.2 b hb).trans e) f0 f1 f3 f4 f5;obtain⟨o,e,c,d⟩:=id Kb;exact⟨u,rfl,pX (s:={s with heap:=h'}) e c d (by decide) ⟨x,H,I1,ru,⟨rfl,λys hy=>by rw[I.agS hy hq];exact hx⟩,Kb,λb hb=>(hf b hb).1⟩⟩
 done:=by
  intro X hP hw hK hc i pins s σ H E I hf st hg;subst hP hw hK;obtain⟨xs,hq,hx⟩:=hg;obtain⟨its,rv,p,hz⟩:=I.list hq;obtain⟨f0,f1,f2,f3,f4,f5⟩:=hf it (by simp);have hl:=rv.length;exact wZ (I.ok.hd hc) st p.isList (by simp;omega) λh' eb=>⟨rfl,I.turned (t':=s.toks) (λb o hb e=>eb b o hb e) f0 f1 f3 f4 f5⟩
 self:=λ_ _ _ _ _ st h=>wpAny_pyIter_listiter st h
theorem afx {tg:Expr}(a it:Addr):Turn P w K tg (Ig K a) [it] it (λi h=>h.IsTupleIter it a i) where
 mem:=by simp
 obj:=λi h st b hb=>by
  have e:b=it:=by simpa using hb
  subst e;obtain⟨o,e,c,d⟩:=st;exact⟨o,e,λv z=>by rw[d] at z;cases z⟩
 keep:=λi h h' st k=>st.at λo e=>k it (by simp) o e
 item:=by
  intro X hP hw hK hc i pins s σ H E I hf st hg;subst hP hw hK;obtain⟨xs,x,hq,hx⟩:=hg;obtain⟨its,rv,p,hz⟩:=I.tuple hq;obtain⟨u,hu,ru⟩:=rv.get hx;obtain⟨f0,f1,f2,f3,f4,f5⟩:=hf it (by simp);refine wpAny_pyNext_tuple_item st (show s.heap.IsTuple a its.toArray from p) (x:=u) (by simpa using hu) λh' Kb sb=>?_;have I1:Inv X pins σ H {s with heap:=h'}:=I.turned (t':=s.toks) (λb o hb e=>(sb.2 b hb).trans e) f0 f1 f3 f4 f5;obtain⟨o,e,c,d⟩:=id Kb;exact⟨u,rfl,pX (s:={s with heap:=h'}) e c d (by decide) ⟨x,H,I1,ru,⟨rfl,λys hy=>by rw[I.agW hy hq];exact hx⟩,Kb,λb hb=>(hf b hb).1⟩⟩
 done:=by
  intro X hP hw hK hc i pins s σ H E I hf st hg;subst hP hw hK;obtain⟨xs,hq,hx⟩:=hg;obtain⟨its,rv,p,hz⟩:=I.tuple hq;obtain⟨f0,f1,f2,f3,f4,f5⟩:=hf it (by simp);have hl:=rv.length;exact wpAny_pyNext_tuple_end (I.ok.hd hc) st (show s.heap.IsTuple a its.toArray from p) (by simp;omega) λh' eb=>⟨rfl,I.turned (t':=s.toks) (λb o hb e=>eb b o hb e) f0 f1 f3 f4 f5⟩
 self:=λ_ _ _ _ _ st h=>wpAny_pyIter_tupleiter st h
theorem aaA {tg:Expr}(it:Addr)(lo:Int)(n:Nat):Turn P w K tg (B6 lo n) [it] it (λi h=>IsRangeIter h it (lo+(i:Nat)*1) ((n:Int)-(i:Nat)) 1) where
 mem:=by simp
 obj:=λi h st b hb=>by
  have e:b=it:=by simpa using hb
  subst e
  exact⟨_,st,λv z=>by
   have z':Data.fields _=Data.cell v:=z
   cases z'⟩
 keep:=λi h h' st k=>k it (by simp) _ st
 item:=by
  intro X hP hw hK hc i pins s σ H E I hf st hg;subst hP hw hK;obtain⟨f0,f1,f2,f3,f4,f5⟩:=hf it (by simp);have W:=Walks.range (prog:=X.prog) (w:=X.w) (I.ok.hd hc) it lo 1 n;refine W.item i s _ _ hg st λv h' tk hv Kb kk=>?_;obtain⟨t,rfl⟩:=hv;have I1:Inv X pins σ H {s with heap:=h',toks:=tk}:=I.turned (λb o hb e=>kk b o (by simpa using hb) e) f0 f1 f3 f4 f5;refine⟨_,rfl,pX (s:={s with heap:=h',toks:=tk}) (n:="range_iterator") Kb rfl rfl (by decide) ⟨.int (lo+i),H,I1,⟨t,?_⟩,⟨rfl,rfl⟩,Kb,λb hb=>(hf b hb).1⟩⟩;rw[D1]
 done:=by
  intro X hP hw hK hc i pins s σ H E I hf st hg;subst hP hw hK;obtain⟨f0,f1,f2,f3,f4,f5⟩:=hf it (by simp);exact wpAny_pyNext_range_end (I.ok.hd hc) st (by have:n<=i:=hg;omega) λh' eb=>⟨rfl,I.turned (t':=s.toks) (λb o hb e=>eb b o hb e) f0 f1 f3 f4 f5⟩
 self:=λ_ _ _ _ _ st h=>wpAny_pyIter_rangeiter st h
variable {pos:Pos}{fp:List Addr}
section
variable {X:Cx}{tg:Expr}
def B8 (K:PySem.W.Frag)(tl:TE):TI:=λσ H R=>tl σ H λx H1=>∃a,x=.ref a/\(∃xs,aV K H1 a xs)/\R (zZ K a) H1
def afA (K:PySem.W.Frag)(tl:TE):TI:=λσ H R=>tl σ H λx H1=>∃a,x=.ref a/\(∃xs,bf K H1 a xs)/\R (Ig K a) H1
theorem cy {l:Expr}{tl:TE}(hl:PE X l tl):PI X tg l (B8 X.K tl):=by
 intro pins s σ H R I h;refine bO (hl pins s σ H _ I h) λv s1 z'=>?_;obtain⟨x,H1,I1,r1,q1⟩:=z';obtain⟨a,e,⟨xs,hq⟩,q⟩:=q1;subst e
 cases r1
 obtain⟨its,rv,p,hz⟩:=I1.list hq;refine Gp p.isList ?_;refine⟨s1.heap.objs.size,[s1.heap.objs.size],_,_,H1,rfl,I1.kept (t':=s1.toks) λb o e=>wa _ e,afw a _,⟨_,Hr _ rfl,rfl,rfl⟩,λb hb=>?_,q⟩
 have e:b=s1.heap.objs.size:=by simpa using hb
 subst e;exact I1.aha (zC _) (I1.hok.fresh (zC _))
theorem rV {l:Expr}{tl:TE}(hl:PE X l tl):PI X tg l (afA X.K tl):=by
 intro pins s σ H R I h;refine bO (hl pins s σ H _ I h) λv s1 z'=>?_;obtain⟨x,H1,I1,r1,q1⟩:=z';obtain⟨a,e,⟨xs,hq⟩,q⟩:=q1;subst e
 cases r1
 obtain⟨its,rv,p,hz⟩:=I1.tuple hq;refine Hx (show s1.heap.IsTuple a its.toArray from p) ?_;refine⟨s1.heap.objs.size,[s1.heap.objs.size],_,_,H1,rfl,I1.kept (t':=s1.toks) λb o e=>wa _ e,afx a _,⟨_,Hr _ rfl,rfl,rfl⟩,λb hb=>?_,q⟩
 have e:b=s1.heap.objs.size:=by simpa using hb
 subst e;exact I1.aha (zC _) (I1.hok.fresh (zC _))
theorem qe {R:It->Hp->Prop}{E:Bf}{lo hi:Int}{t u v:Tok}{tk:Nat}(I:Inv X pins σ H s)(h1:-(2^62)<=lo)(h2:lo<2^62)(h3:-(2^62)<=hi)(h4:hi<2^62)
 (q:R (B6 lo (hi-lo).toNat) H):wpAny (model X.prog X.w) X.A (pyIter (.ref s.heap.objs.size)) (IH X pins σ tg R) E {s with heap:=s.heap.push {cls:=.type "range",data:=.fields #[.int lo t,.int hi u,.int 1 v]},toks:=tk}:=by
 refine wpAny_pyIter_range (IsRange.new ..) (small_one h1 h2 h3 h4) ?_;have I1:Inv X pins σ H {s with heap:=s.heap.push {cls:=.type "range",data:=.fields #[.int lo t,.int hi u,.int 1 v]},toks:=tk}:=I.kept λb o e=>wa _ e
 refine⟨(s.heap.push {cls:=.type "range",data:=.fields #[.int lo t,.int hi u,.int 1 v]}).objs.size,[(s.heap.push {cls:=.type "range",data:=.fields #[.int lo t,.int hi u,.int 1 v]}).objs.size],_,_,H,rfl,
  I1.kept (t':=tk) λb o e=>wa _ e,aaA _ lo (hi-lo).toNat,?_,λb hb=>?_,q⟩
 ·have e1:lo+((0:Nat):Int)*1=lo:=by simp
  have e2:(((hi-lo).toNat:Nat):Int)-((0:Nat):Int)=Builtin.Range.rangeSize lo hi 1:=by rw[rangeSize_one];split <;> omega
  show IsRangeIter _ _ (lo+((0:Nat):Int)*1) ((((hi-lo).toNat:Nat):Int)-((0:Nat):Int)) 1;rw[e1,e2];exact Hr _ rfl
 ·have e:b=(s.heap.push {cls:=.type "range",data:=.fields #[.int lo t,.int hi u,.int 1 v]}).objs.size:=by simpa using hb
  subst e;exact I1.aha (zC _) (I1.hok.fresh (zC _))
def oth (ta:TA):TI:=λσ H R=>ta σ H λvs H1=>∃j:Int,vs=[.int j]/\-(2^62)<=j/\j<2^62/\R (B6 0 j.toNat) H1
def aay (ta:TA):TI:=λσ H R=>ta σ H λvs H1=>∃i j:Int,vs=[.int i,.int j]/\(-(2^62)<=i/\i<2^62/\-(2^62)<=j/\j<2^62)/\R (B6 i (j-i).toNat) H1
theorem jt {a:Expr}{p:Pos}(hg:Gl X "range")(hm:X.mg "range"=none)(ha:PA X [a] ta)(hs:starEach [a] X.env=[(false,eval a X.env)]:=by rfl):PI X tg (.Call (.Name "range" p) [a] [] pos) (oth ta):=by
 intro pins s σ H R I h;refine Call_ (dU I hg hm boot_range (CC (bO (ha pos pins s σ H _ I h) λus s1 z'=>?_) hs rfl));obtain⟨vs,H1,I1,r1,q1⟩:=z';obtain⟨j,e,q1,q2,q⟩:=q1;subst e
 cases r1 with
 |cons r rr =>
  cases rr
  obtain⟨t,rfl⟩:=r;exact call_range_1 (qe I1 (by omega) (by omega) q1 q2 (by simpa using q))
theorem afE {a b:Expr}{p:Pos}(hg:Gl X "range")(hm:X.mg "range"=none)(ha:PA X [a,b] ta)(hs:starEach [a,b] X.env=[(false,eval a X.env),(false,eval b X.env)]:=by rfl)(Le:starEach [b] X.env=[(false,eval b X.env)]:=by rfl):
 PI X tg (.Call (.Name "range" p) [a,b] [] pos) (aay ta):=by
 intro pins s σ H R I h;refine Call_ (dU I hg hm boot_range (CC (bO (ha pos pins s σ H _ I h) λus s1 z'=>?_) (by rw[hs,Le]) (by rw[Le];rfl)));obtain⟨vs,H1,I1,r1,q1⟩:=z';obtain⟨i,j,e,⟨q1,q2,q3,q4⟩,q⟩:=q1;subst e
 cases r1 with
 |cons r rr =>
  cases rr with
  |cons r' rr =>
   cases rr
   obtain⟨t,rfl⟩:=r;obtain⟨t',rfl⟩:=r';exact call_range_2 (qe I1 q1 q2 q3 q4 q)
def aaE (wi:TI)(g:TG)(tb:TS):TS:=λD σ H=>wi σ H λJ H1=>∃W:Nat->Nat->St->Hp->Prop,(∃m,W 0 m σ H1)/\∀i m σ H,W i m σ H →
 (J.stop i H/\D.nx σ H)\/(J.go i H/\∃N:St->Hp->Prop,(∀σ' H',N σ' H'->∃m',m'<m/\W (i+1) m' σ' H')/\∀x H',J.yld i H x H'->g x σ H' λσ2 H2=>tb {D with nx:=N,ct:=N,bk:=D.nx} σ2 H2)
def dQ (fp:List Addr)(h:Heap):List (Addr×Obj):=fp.filterMap λb=>(h.get? b).map λo=>(b,o)
theorem cN {o:Obj}(hb:b∈fp)(e:h.get? b=some o):(b,o)∈dQ fp h:=AM.mpr ⟨b,hb,by rw[e];rfl⟩
theorem om {p:Addr×Obj}(hp:p∈dQ fp h):p.1∈fp/\h.get? p.1=some p.2:=by
 obtain⟨b,hb,e⟩:=AM.mp hp
 cases q:h.get? b with
 |none=>rw[q] at e;cases e
 |some o =>
  rw[q] at e;have e':(b,o)=p:=Option.some.inj e;subst e';exact⟨hb,q⟩
theorem Inv.pinned (I:Inv X pins σ H s)(hf:∀b∈fp,c7 X pins H b)(ho:∀b∈fp,∃o,s.heap.get? b=some o/\∀v,o.data≠.cell v):Inv X (pins++dQ fp s.heap) σ H s :=
 I.afF λp hp=>(rQ.mp hp).elim (λz=>I.pin p (GZ _ z)) λz=>by
   obtain⟨hb,e⟩:=om z;obtain⟨f0,f1,f2,_⟩:=hf p.1 hb;obtain⟨o,e',d⟩:=ho p.1 hb;rw[e] at e';cases e';exact⟨e,f0,f1,f2,d⟩
theorem Inv.afC {pl:List (Addr×Obj)}(I:Inv X (pins++pl) σ H s):Inv X pins σ H s:=I.afF λp hp=>I.pin p (GZ _ (Jp _ hp))
theorem dw {iter:Expr}{body:Ek}{wi:TI}{g:TG}{tb:TS}{pos:Pos}(hp:PassesOwn (model X.prog X.w) X.A X.env X.xe)(hc:X.calm=true)(hi:PI X tg iter wi)(hg:PG X tg g)(hb:qO X body tb)
 (hs:∀x,foldedSetIterable iter X.env x=pure x:=by intro _;rfl):PS X (.For tg iter body [] pos) (aaE wi g tb):=by
 intro pins s σ H D I h;refine wpAny_For (bO (hi pins s σ H _ I h) λv s1 h1=>bO h1 λPy s2 h2=>?_) hs;obtain⟨it,fp,tn,J,H2,e,I2,T,K1,f2,W,⟨m0,w0⟩,turn⟩:=h2;subst e;have N0:∀{H':Hp},(∀b∈fp,H' b=none)->∀b∈fp,c7 X pins H' b:=λhn b hb=>⟨hn b hb,(f2 b hb).2⟩;refine codeAny_forLoop_any (λn s'=>∃i σ' H',Inv X pins σ' H' s'/\tn i s'.heap/\(∀b∈fp,H' b=none)/\W i n σ' H') ?_ m0 ⟨0,σ,H2,I2,K1,λb hb=>(f2 b hb).1,w0⟩;rintro n s3 ⟨i,σ3,H3,I3,ZG,ZH,w3⟩
 rcases turn i n σ3 H3 w3 with⟨stop,qn⟩|⟨go,N,hN,step⟩
 ·refine DY hp (bO (T.done X rfl rfl rfl hc i pins s3 σ3 H3 X.xe I3 (N0 ZH) ZG stop) λr s4 z'=>?_);obtain⟨hr,I4⟩:=z';subst hr;exact Cw ⟨σ3,H3,I4,qn⟩
 ·refine DY hp (bO (T.item X rfl rfl rfl hc i pins s3 σ3 H3 X.xe I3 (N0 ZH) ZG go) λr s4 z'=>?_);obtain⟨u,hr,h4⟩:=z';subst hr;refine DY hp (bO h4 λ_ s5 z'=>?_);obtain⟨x,H5,I5,r5,y5,Qh,VW⟩:=z';have I5':=I5.pinned (N0 VW) (T.obj _ _ Qh);refine DY hp (bO (hg _ s5 σ3 H5 x u _ I5' r5 (step x H5 y5)) λ_ s6 z'=>?_);obtain⟨σ6,H6,I6,q6⟩:=z';refine DY hp (bO (hb _ s6 σ6 H6 _ I6 q6) λf s7 q7=>?_)
  have again:∀{σ7:St}{H7:Hp},Inv X (pins++dQ fp s5.heap) σ7 H7 s7->N σ7 H7->∃m,m<n/\∃i σ' H',Inv X pins σ' H' s7/\tn i s7.heap/\(∀b∈fp,H' b=none)/\W i m σ' H':=λ{σ7 H7} I7 n7=>by
   obtain⟨m',hm,w7⟩:=hN σ7 H7 n7;refine⟨m',hm,i+1,σ7,H7,I7.afC,T.keep _ _ _ Qh λb hb o e=>(I7.pin (b,o) (GZ _ (GZ _ (cN hb e)))).1,λb hb=>?_,w7⟩;obtain⟨o,e,d⟩:=T.obj _ _ Qh b hb;exact(I7.pin (b,o) (GZ _ (GZ _ (cN hb e)))).2.1
  cases f with
  |next=>obtain⟨σ7,H7,I7,n7⟩:=q7;exact again I7 n7
  |cont=>obtain⟨σ7,H7,I7,n7⟩:=q7;exact again I7 n7
  |brk=>obtain⟨σ7,H7,I7,q7⟩:=q7;exact⟨σ7,H7,I7.afC,q7⟩
  |ret v=>obtain⟨x7,σ7,H7,I7,r7,q7⟩:=q7;exact⟨x7,σ7,H7,I7.afC,r7,q7⟩
end
theorem fJ {K:PySem.W.Frag}{a:Addr}{xs:List V}{D:Ends}(Pv:Nat->St->Hp->Prop)(h0:Pv 0 σ H)(hl:∀i σ H,i<=xs.length->Pv i σ H->aV K H a xs)
 (hs:∀i x σ H,xs[i]?=some x->Pv i σ H->g x σ H λσ2 H2=>tb {D with nx:=Pv (i+1),ct:=Pv (i+1),bk:=D.nx} σ2 H2)(hd:∀σ H,Pv xs.length σ H->D.nx σ H):
 ∃W:Nat->Nat->St->Hp->Prop,(∃m,W 0 m σ H)/\∀i m σ H,W i m σ H →
  ((zZ K a).stop i H/\D.nx σ H)\/((zZ K a).go i H/\∃N:St->Hp->Prop,(∀σ' H',N σ' H'->∃m',m'<m/\W (i+1) m' σ' H')/\∀x H',(zZ K a).yld i H x H'->g x σ H' λσ2 H2=>tb {D with nx:=N,ct:=N,bk:=D.nx} σ2 H2):=by
 refine⟨λi m σ H=>m=xs.length-i/\i<=xs.length/\Pv i σ H,⟨xs.length,by simp,Ag _,h0⟩,?_⟩;rintro i m σ H ⟨rfl,hi,p⟩;have q:=hl i σ H hi p
 by_cases JB:i<xs.length
 ·refine .inr ⟨⟨xs,xs[i],q,by simp[JB]⟩,Pv (i+1),λσ' H' p'=>⟨xs.length-(i+1),by omega,rfl,JB,p'⟩,λx H' y=>?_⟩;obtain⟨e,y⟩:=y;subst e;exact hs i x σ _ (y xs q) p
 ·have e:i=xs.length:=by omega
  subst e;exact .inl ⟨⟨xs,q,zC _⟩,hd σ H p⟩
theorem nG {lo:Int}{n:Nat}{D:Ends}(Pv:Nat->St->Hp->Prop)(h0:Pv 0 σ H)
 (hs:∀i σ H,i<n->Pv i σ H->g (.int (lo+i)) σ H λσ2 H2=>tb {D with nx:=Pv (i+1),ct:=Pv (i+1),bk:=D.nx} σ2 H2)(hd:∀σ H,Pv n σ H->D.nx σ H):
 ∃W:Nat->Nat->St->Hp->Prop,(∃m,W 0 m σ H)/\∀i m σ H,W i m σ H →
  ((B6 lo n).stop i H/\D.nx σ H)\/((B6 lo n).go i H/\∃N:St->Hp->Prop,(∀σ' H',N σ' H'->∃m',m'<m/\W (i+1) m' σ' H')/\∀x H',(B6 lo n).yld i H x H'->g x σ H' λσ2 H2=>tb {D with nx:=N,ct:=N,bk:=D.nx} σ2 H2):=by
 refine⟨λi m σ H=>m=n-i/\i<=n/\Pv i σ H,⟨n,by simp,Ag _,h0⟩,?_⟩;rintro i m σ H ⟨rfl,hi,p⟩
 by_cases JB:i<n
 ·refine .inr ⟨JB,Pv (i+1),λσ' H' p'=>⟨n-(i+1),by omega,rfl,JB,p'⟩,λx H' y=>?_⟩;obtain⟨e,y⟩:=y;subst e y;exact hs i σ _ JB p
 ·have e:i=n:=by omega
  subst e;exact .inl ⟨zC _,hd σ H p⟩
abbrev R2:=V->V->Hp->VK->Prop
def eU (X:Cx)(f:Value->Value->Sem Value)(r:R2):Prop :=
 ∀(pins:List (Addr×Obj))(s:AL)(σ:St)(H:Hp)(x y:V)(v u:Value)(Q:VK),Inv X pins σ H s->aI x v->aI y u->r x y H Q →
  wpAny (model X.prog X.w) X.A (f v u) (EP X pins σ Q) X.xe s
def HW (X:Cx)(f:Value->Sem Value)(r:V->Hp->VK->Prop):Prop :=
 ∀(pins:List (Addr×Obj))(s:AL)(σ:St)(H:Hp)(x:V)(v:Value)(Q:VK),Inv X pins σ H s->aI x v->r x H Q →
  wpAny (model X.prog X.w) X.A (f v) (EP X pins σ Q) X.xe s
def fQ (X:Cx)(f:Value)(r:List V->Hp->VK->Prop):Prop :=
 ∀(pins:List (Addr×Obj))(s:AL)(σ:St)(H:Hp)(xs:List V)(us:yX)(Q:VK),Inv X pins σ H s->aR xs us->r xs H Q →
  wpAny (model X.prog X.w) X.A (call f us) (EP X pins σ Q) X.xe s
def aaB (X:Cx)(r:V->Hp->(Bool->Hp->Prop)->Prop):Prop :=
 ∀(pins:List (Addr×Obj))(s:AL)(σ:St)(H:Hp)(x:V)(v:Value)(Q:Bool->Hp->Prop),Inv X pins σ H s->aI x v->r x H Q →
  wpAny (model X.prog X.w) X.A (truthy v) (TP X pins σ Q) X.xe s
def oY (r:R2)(ta tb:TE):TE:=λσ H Q=>ta σ H λx H1=>tb σ H1 λy H2=>r x y H2 Q
def aaQ (r:V->Hp->VK->Prop)(ta:TE):TE:=λσ H Q=>ta σ H λx H1=>r x H1 Q
def rI (C:Int->Int->Prop)(g:Int->Int->V):R2:=λx y H Q=>∃i j,x=.int i/\y=.int j/\C i j/\Q (g i j) H
def vN (g:Int->Int->V):R2:=λx y H Q=>∃i j,x=.int i/\y=.int j/\Q (g i j) H
def rU (g:Int->V):V->Hp->VK->Prop:=λx H Q=>∃i,x=.int i/\Q (g i) H
variable {f:Value->Value->Sem Value}
section
variable {X:Cx}{a b c:Expr}{ta tb tc:TE}{pos:Pos}
theorem DS (ha:PE X a ta)(hb:PE X b tb){R:V->V->Hp->Prop}(I:Inv X pins σ H s)
 (h:ta σ H λx H1=>tb σ H1 λy H2=>R x y H2){Q:Bf}
 (hf:∀v u s2 x y H2,Inv X pins σ H2 s2->aI x v->aI y u->R x y H2->wpAny (model X.prog X.w) X.A (f v u) Q X.xe s2):
 wpAny (model X.prog X.w) X.A (eval a X.env) (λv s₁=>wpAny (model X.prog X.w) X.A (eval b X.env) (λu s₂=>wpAny (model X.prog X.w) X.A (f v u) Q X.xe s₂) X.xe s₁) X.xe s:=by
 refine bO (ha pins s σ H _ I h) λv s1 z'=>?_;obtain⟨x,H1,I1,r1,q1⟩:=z';refine bO (hb pins s1 σ H1 _ I1 q1) λu s2 z'=>?_;obtain⟨y,H2,I2,r2,q2⟩:=z';exact hf v u s2 x y H2 I2 r1 r2 q2
theorem aH {op:Operator}{r:R2}(ho:eU X (binaryOp op) r)(ha:PE X a ta)(hb:PE X b tb):PE X (.BinOp a op b pos) (oY r ta tb):=by
 intro pins s σ H Q I h;exact wpAny_BinOp (DS ha hb I h λv u s2 x y H2 I2 rx ry q=>ho pins s2 σ H2 x y v u Q I2 rx ry q)
theorem dM {op:UnaryOp}{r:V->Hp->VK->Prop}(ho:HW X (unaryOp op) r)(ha:PE X a ta):PE X (.UnaryOp op a pos) (aaQ r ta):=by
 intro pins s σ H Q I h;exact UnaryOp_ (bO (ha pins s σ H _ I h) λv s1 ⟨x,H1,I1,r1,q1⟩=>ho pins s1 σ H1 x v Q I1 r1 q1)
theorem CZ {C:Int->Int->Prop}{g:Int->Int->Int}
 (rule:∀(i j:Int)(t u:Tok)(s:AL)(Q:Bf)(E:Bf),C i j->Q (.int (g i j) s.toks) {s with toks:=s.toks+1}->wpAny (model X.prog X.w) X.A (f (.int i t) (.int j u)) Q E s):
 eU X f (rI C λi j=>.int (g i j)):=by
 intro pins s σ H x y v u Q I rx ry h;obtain⟨i,j,rfl,rfl,hc,q⟩:=h;obtain⟨t,rfl⟩:=rx;obtain⟨t',rfl⟩:=ry;exact rule i j t t' s _ _ hc ⟨.int (g i j),H,I.tok _,⟨_,rfl⟩,q⟩
theorem GM {g:Int->Int->Int}
 (rule:∀(i j:Int)(t u:Tok)(s:AL)(Q:Bf)(E:Bf),Q (.int (g i j) s.toks) {s with toks:=s.toks+1}->wpAny (model X.prog X.w) X.A (f (.int i t) (.int j u)) Q E s):
 eU X f (vN λi j=>.int (g i j)):=by
 intro pins s σ H x y v u Q I rx ry h;obtain⟨i,j,rfl,rfl,q⟩:=h;obtain⟨t,rfl⟩:=rx;obtain⟨t',rfl⟩:=ry;exact rule i j t t' s _ _ ⟨.int (g i j),H,I.tok _,⟨_,rfl⟩,q⟩
theorem Az {g:Int->Int->Bool}
 (rule:∀(i j:Int)(t u:Tok)(s:AL)(Q:Bf)(E:Bf),Q (.bool (g i j)) s->wpAny (model X.prog X.w) X.A (f (.int i t) (.int j u)) Q E s):
 eU X f (vN λi j=>.bl (g i j)):=by
 intro pins s σ H x y v u Q I rx ry h;obtain⟨i,j,rfl,rfl,q⟩:=h;obtain⟨t,rfl⟩:=rx;obtain⟨t',rfl⟩:=ry;exact rule i j t t' s _ _ ⟨.bl (g i j),H,I,rfl,q⟩
def aaW (i j:Int):Prop:=0<j/\j<1073741824
def FH (i j:Int):Prop:=0<=j/\j<=1000000/\i.natAbs<2^64
def tO (i j:Int):Prop:=(-(2^64)<i/\i<2^64)\/(-(2^64)<j/\j<2^64)
theorem tO.ok {i j:Int}(h:tO i j):IntMulOk i j:=by
 rcases h with⟨h1,h2⟩|⟨h1,h2⟩
 ·exact .of_left (intBits_le_64 h1 h2)
 ·exact .of_right (intBits_le_64 h1 h2)
theorem eK:eU X (binaryOp .Add) (vN λi j=>.int (i+j)):=GM λ_ _ _ _ _ _ _ q=>add_int q
theorem fZ:eU X (binaryOp .Sub) (vN λi j=>.int (i-j)):=GM λ_ _ _ _ _ _ _ q=>sub_int q
theorem fY:eU X (binaryOp .Mult) (rI tO λi j=>.int (i*j)):=CZ λ_ _ _ _ _ _ _ hc q=>mul_int q hc.ok
theorem Gth:eU X (binaryOp .FloorDiv) (rI aaW λi j=>.int (i/j)):=CZ λi j _ _ _ _ _ hc q=>by
 have h1:(0:Int)<j:=hc.1;have h2:j<1073741824:=hc.2;exact floordiv_int (by omega) (by rw[Int.fdiv_eq_ediv_of_nonneg i (by omega)];exact q) (.inl (PyProof.noPylong_small (by omega)))
theorem cJ:eU X (binaryOp .Mod) (rI (λ_ j=>0<j) λi j=>.int (i%j)):=CZ λi j _ _ _ _ _ hc q=>by
 have h1:(0:Int)<j:=hc;exact mod_int' (by omega) (by rw[Int.fmod_eq_emod_of_nonneg i (by omega)];exact q)
theorem tZ:eU X (binaryOp .Mod) (rI (λ_ j=>j≠0) λi j=>.int (i.fmod j)):=CZ λ_ _ _ _ _ _ _ hc q=>mod_int' hc q
theorem afG:eU X (binaryOp .Pow) (rI FH λi j=>.int (i^j.toNat)):=CZ λ_ _ _ _ _ _ _ hc q=>pow_int_small hc.1 hc.2.1 hc.2.2 q
theorem Fit {f:Value->Sem Value}{g:Int->Int}
 (rule:∀(i:Int)(t:Tok)(s:AL)(Q:Bf)(E:Bf),Q (.int (g i) s.toks) {s with toks:=s.toks+1}->wpAny (model X.prog X.w) X.A (f (.int i t)) Q E s):
 HW X f (rU λi=>.int (g i)):=by
 intro pins s σ H x v Q I rx h;obtain⟨i,rfl,q⟩:=h;obtain⟨t,rfl⟩:=rx;exact rule i t s _ _ ⟨.int (g i),H,I.tok _,⟨_,rfl⟩,q⟩
theorem cK:HW X (unaryOp .USub) (rU λi=>.int (-i)):=Fit λ_ _ _ _ _ q=>neg_int q
end
def EZ:V->V->Bool
 | .non,.non=>true| .non,.int _=>true| .int _,.non=>true| .non,.bl _=>true| .bl _,.non=>true| .non,.str _=>true| .str _,.non=>true
 | .int _,.int _=>true| .bl _,.bl _=>true| .str _,.str _=>true| .byt _,.byt _=>true
 | .int _,.str _=>true| .str _,.int _=>true| .bl _,.str _=>true| .str _,.bl _=>true
 |_,_=>false
def rEq:R2:=λx y H Q=>EZ x y=true/\Q (.bl (decide (x=y))) H
def rNe:R2:=λx y H Q=>EZ x y=true/\Q (.bl (!decide (x=y))) H
theorem dW {i j:Int}:decide (V.int i=V.int j)=(i==j):=by
 rw[Bw];simp
theorem xZ {i j:Bool}:decide (V.bl i=V.bl j)=(i==j):=by
 rw[Bw];simp
theorem tY {i j:Str}:decide (V.str i=V.str j)=(i==j):=by
 rw[Bw];simp
theorem u5 {i j:Array UInt8}:decide (V.byt i=V.byt j)=(i.toList==j.toList):=by
 rw[Bw]
 cases i
 cases j
 simp
variable {Q:VK}
section
variable {X:Cx}{a b c:Expr}{ta tb tc:TE}{pos:Pos}
theorem bq {k k':Bool}(I:Inv X pins σ H s)(q:Q (.bl k) H)(e:k=k'):EP X pins σ Q (.bool k') s:=by
 subst e;exact⟨.bl k,H,I,rfl,q⟩
theorem dZ:eU X (compareOp .Eq) rEq:=by
 intro pins s σ H x y v u Q I rx ry h;obtain⟨hs,q⟩:=h
 cases x with
 |non =>
  cases rx
  cases y with
  |non=>cases ry;exact PySem.EqNone.eq_none_none (bq I q (by simp))
  |bl j=>cases ry;exact PySem.EqNone.eq_none_bool (bq I q (by simp))
  |int j=>obtain⟨t',rfl⟩:=ry;exact PySem.EqNone.eq_none_int (bq I q (by simp))
  |str j=>obtain⟨t',rfl⟩:=ry;exact PySem.EqNone.eq_none_str (bq I q (by simp))
  |_=>exact absurd (show false=true from hs) IA
 |bl i =>
  cases rx
  cases y with
  |non=>cases ry;exact PySem.EqNone.eq_bool_none (bq I q (by simp))
  |bl j=>cases ry;exact eq_bool (bq I q xZ)
  |str j=>obtain⟨t',rfl⟩:=ry;exact PySem.EqMixed.eq_bool_str (bq I q (by simp))
  |_=>exact absurd (show false=true from hs) IA
 |int i =>
  obtain⟨t,rfl⟩:=rx
  cases y with
  |non=>cases ry;exact PySem.EqNone.eq_int_none (bq I q (by simp))
  |int j=>obtain⟨t',rfl⟩:=ry;exact eq_int (bq I q dW)
  |str j=>obtain⟨t',rfl⟩:=ry;exact PySem.EqMixed.eq_int_str (bq I q (by simp))
  |_=>exact absurd (show false=true from hs) IA
 |str i =>
  obtain⟨t,rfl⟩:=rx
  cases y with
  |non=>cases ry;exact PySem.EqNone.eq_str_none (bq I q (by simp))
  |bl j=>cases ry;exact PySem.EqMixed.eq_str_bool (bq I q (by simp))
  |int j=>obtain⟨t',rfl⟩:=ry;exact PySem.EqMixed.eq_str_int (bq I q (by simp))
  |str j=>obtain⟨t',rfl⟩:=ry;exact eq_str (bq I q tY)
  |_=>exact absurd (show false=true from hs) IA
 |byt i =>
  obtain⟨t,rfl⟩:=rx
  cases y with
  |byt j=>obtain⟨t',rfl⟩:=ry;exact PySem.W.eq_bytes (bq I q u5)
  |_=>exact absurd (show false=true from hs) IA
 |_=>cases y <;> exact absurd (show false=true from hs) IA
theorem ib:eU X (compareOp .NotEq) rNe:=by
 intro pins s σ H x y v u Q I rx ry h;obtain⟨hs,q⟩:=h
 cases x with
 |non =>
  cases rx
  cases y with
  |non=>cases ry;exact PySem.EqNone.ne_none_none (bq I q (by simp))
  |bl j=>cases ry;exact PySem.EqNone.ne_none_bool (bq I q (by simp))
  |int j=>obtain⟨t',rfl⟩:=ry;exact PySem.EqNone.ne_none_int (bq I q (by simp))
  |str j=>obtain⟨t',rfl⟩:=ry;exact PySem.EqNone.ne_none_str (bq I q (by simp))
  |_=>exact absurd (show false=true from hs) IA
 |bl i =>
  cases rx
  cases y with
  |non=>cases ry;exact PySem.EqNone.ne_bool_none (bq I q (by simp))
  |bl j=>cases ry;exact ne_bool (bq I q (Hh not xZ))
  |str j=>obtain⟨t',rfl⟩:=ry;exact PySem.EqMixed.ne_bool_str (bq I q (by simp))
  |_=>exact absurd (show false=true from hs) IA
 |int i =>
  obtain⟨t,rfl⟩:=rx
  cases y with
  |non=>cases ry;exact PySem.EqNone.ne_int_none (bq I q (by simp))
  |int j=>obtain⟨t',rfl⟩:=ry;exact ne_int (bq I q (Hh not dW))
  |str j=>obtain⟨t',rfl⟩:=ry;exact PySem.EqMixed.ne_int_str (bq I q (by simp))
  |_=>exact absurd (show false=true from hs) IA
 |str i =>
  obtain⟨t,rfl⟩:=rx
  cases y with
  |non=>cases ry;exact PySem.EqNone.ne_str_none (bq I q (by simp))
  |bl j=>cases ry;exact PySem.EqMixed.ne_str_bool (bq I q (by simp))
  |int j=>obtain⟨t',rfl⟩:=ry;exact PySem.EqMixed.ne_str_int (bq I q (by simp))
  |str j=>obtain⟨t',rfl⟩:=ry;exact ne_str (bq I q (Hh not tY))
  |_=>exact absurd (show false=true from hs) IA
 |byt i =>
  obtain⟨t,rfl⟩:=rx
  cases y with
  |byt j=>obtain⟨t',rfl⟩:=ry;exact PySem.W.ne_bytes (bq I q (Hh not u5))
  |_=>exact absurd (show false=true from hs) IA
 |_=>cases y <;> exact absurd (show false=true from hs) IA
theorem jH:eU X (compareOp .Lt) (vN λi j=>.bl (decide (i<j))):=Az λ_ _ _ _ _ _ _ q=>lt_int q
theorem iP:eU X (compareOp .LtE) (vN λi j=>.bl (decide (i<=j))):=Az λ_ _ _ _ _ _ _ q=>le_int q
theorem uH:eU X (compareOp .Gt) (vN λi j=>.bl (decide (j<i))):=Az λ_ _ _ _ _ _ _ q=>gt_int q
theorem Ck:eU X (compareOp .GtE) (vN λi j=>.bl (decide (j<=i))):=Az λ_ _ _ _ _ _ _ q=>ge_int q
theorem xI:eU X (compareOp .Is) (λx y H Q=>y=.non/\Q (.bl (decide (x=.non))) H):=by
 intro pins s σ H x y v u Q I rx ry h;obtain⟨rfl,q⟩:=h
 cases ry
 refine is_none_gen (bq I q ?_)
 cases x <;> first
  |(cases rx;rfl)
  |(obtain⟨t,rfl⟩:=rx;rfl)
theorem aJ (b:Expr)(h:op ≠ .In:=by decide)(h2:op ≠ .NotIn:=by decide):behindInMarks op b=false:=by
 have e1:(op==CmpOp.In)=false:=by cases op <;> first|rfl|exact absurd rfl h
 have e2:(op==CmpOp.NotIn)=false:=by cases op <;> first|rfl|exact absurd rfl h2
 cases b <;> simp[behindInMarks,e1,e2]
theorem cw {op:CmpOp}{r:R2}(ho:eU X (compareOp op) r)(ha:PE X a ta)(hb:PE X b tb)(hm:behindInMarks op b=false):PE X (.Compare a [op] [b] pos) (oY r ta tb):=by
 intro pins s σ H Q I h;exact wpAny_Compare1 (DS ha hb I h λv u s2 x y H2 I2 rx ry q=>ho pins s2 σ H2 x y v u Q I2 rx ry q) hm
def zA (t:TE):TT:=λσ H Q=>t σ H λx H'=>∃k,x=.bl k/\Q k H'
theorem aM {op:CmpOp}{r:R2}(ho:eU X (compareOp op) r)(ha:PE X a ta)(hb:PE X b tb)(hm:behindInMarks op b=false):PT X (.Compare a [op] [b] pos) (zA (oY r ta tb)):=by
 intro pins s σ H Q I h
 refine wpAny_isTrue_Compare1 (bO (ha pins s σ H _ I h) λv s1 ⟨x,H1,I1,r1,q1⟩=>bO (hb pins s1 σ H1 _ I1 q1) λu s2 ⟨y,H2,I2,r2,q2⟩ =>
  bO (ho pins s2 σ H2 x y v u _ I2 r1 r2 q2) λc s3 ⟨z,H3,I3,r3,k,e,q3⟩=>?_) hm
 subst e
 cases r3
 exact AQ ⟨H3,I3,q3⟩
def zH (r r':R2)(ta tb tc:TE):TE:=λσ H Q=>ta σ H λx H1=>tb σ H1 λy H2=>r x y H2 λz H3=>∃k,z=.bl k /\
 (if k=true then tc σ H3 λw' H4=>r' y w' H4 Q else Q (.bl false) H3)
theorem kX {N1:CmpOp}{r r':R2}(ho:eU X (compareOp op) r)(JW:eU X (compareOp N1) r')(ha:PE X a ta)(hb:PE X b tb)(hc:PE X c tc)
 (hm:lastMarks [op,N1] [b,c]=false:=by with_unfolding_all rfl):PE X (.Compare a [op,N1] [b,c] pos) (zH r r' ta tb tc):=by
 intro pins s σ H Q I h
 refine Compare_chain (bO (ha pins s σ H _ I h) λv s1 ⟨x,H1,I1,r1,q1⟩=>chain_link (bO (hb pins s1 σ H1 _ I1 q1) λu s2 ⟨y,H2,I2,r2,q2⟩ =>
  bO (ho pins s2 σ H2 x y v u _ I2 r1 r2 q2) λd s3 ⟨z,H3,I3,r3,k,e,q3⟩=>?_)) hm
 subst e
 cases r3
 refine AQ ?_
 cases k with
 |false=>exact ite_ff ⟨.bl false,H3,I3,rfl,q3⟩
 |true=>exact ite_tt (chain_last (bO (hc pins s3 σ H3 _ I3 q3) λw' s4 ⟨z',H4,I4,r4,q4⟩=>JW pins s4 σ H4 y z' u w' Q I4 r2 r4 q4))
theorem qR {N1:CmpOp}{r r':R2}(ho:eU X (compareOp op) r)(JW:eU X (compareOp N1) r')(ha:PE X a ta)(hb:PE X b tb)(hc:PE X c tc)
 (hm:lastMarks [op,N1] [b,c]=false:=by with_unfolding_all rfl):PT X (.Compare a [op,N1] [b,c] pos) (zA (zH r r' ta tb tc)):=by
 intro pins s σ H Q I h
 refine isTrue_chain (bO (ha pins s σ H _ I h) λv s1 ⟨x,H1,I1,r1,q1⟩=>test_link (bO (hb pins s1 σ H1 _ I1 q1) λu s2 ⟨y,H2,I2,r2,q2⟩ =>
  bO (ho pins s2 σ H2 x y v u _ I2 r1 r2 q2) λd s3 ⟨z,H3,I3,r3,k,e,q3⟩=>?_)) hm
 subst e
 cases r3
 refine AQ ?_
 cases k with
 |false =>
  obtain⟨k',e',q'⟩:=q3
  cases e'
  exact ite_ff ⟨H3,I3,q'⟩
 |true =>
  refine ite_tt (test_last (bO (hc pins s3 σ H3 _ I3 q3) λw' s4 ⟨z',H4,I4,r4,q4⟩=>bO (JW pins s4 σ H4 y z' u w' _ I4 r2 r4 q4) λd' s5 ⟨z2,H5,I5,r5,k2,e2,q5⟩=>?_));subst e2
  cases r5
  exact AQ ⟨H5,I5,q5⟩
def CI (K:PySem.W.Frag)(x:V)(H:Hp)(k:Bool):Prop :=
 match x with
 | .non=>k=false
 | .bl b=>k=b
 | .int i=>k=(i != 0)
 | .str y=>y.length<=sizeLine/\k=((y.length:Int) != 0)
 | .byt y=>y.size<=sizeLine/\k=((y.size:Int) != 0)
 | .ref p=>(∃xs,aV K H p xs/\k = !xs.isEmpty)\/(∃xs,bf K H p xs/\k = !xs.isEmpty)\/∃Jt,H p=some (.dK Jt)/\k = !Jt.isEmpty
 |_=>False
theorem afz {κ:Type}{Jt:List (κ×V)}{vs:List (κ×Value)}(r:KV Jt vs):(!vs.isEmpty) = !Jt.isEmpty:=by
 cases r <;> rfl
theorem kH {xs:List V}{its:yX}(r:aR xs its):(!its.toArray.isEmpty) = !xs.isEmpty:=by
 cases r <;> simp
theorem ka:(sizeLine:Nat)<2^63:=by rw[AI];decide
theorem aaF:aaB X (λx H Q=>∃k,CI X.K x H k/\Q k H):=by
 intro pins s σ H x v Q I rx h;obtain⟨k,e,q⟩:=h;have hl:=ka;have hs:sizeLine=16777216:=AI
 cases x with
 |non =>
  cases rx
  have e':k=false:=e;subst e';exact truthy_none ⟨H,I,q⟩
 |bl b =>
  cases rx
  have e':k=b:=e;subst e';exact AQ ⟨H,I,q⟩
 |int i =>
  obtain⟨t,rfl⟩:=rx;have e':k=(i != 0):=e;subst e';exact PySem.P.truthy_int ⟨H,I,q⟩
 |str y =>
  obtain⟨t,rfl⟩:=rx;obtain⟨hy,e'⟩:y.length<=sizeLine/\k=((y.length:Int) != 0):=e;subst e';exact PySem.P.truthy_str (by omega) ⟨H,I.tok _,q⟩
 |byt y =>
  obtain⟨t,rfl⟩:=rx;obtain⟨hy,e'⟩:y.size<=sizeLine/\k=((y.size:Int) != 0):=e;subst e';exact PySem.W.truthy_bytes (by omega) ⟨H,I.tok _,q⟩
 |ref p =>
  cases rx
  have e':(∃xs,aV X.K H p xs/\k = !xs.isEmpty)\/(∃xs,bf X.K H p xs/\k = !xs.isEmpty)\/∃Jt,H p=some (.dK Jt)/\k = !Jt.isEmpty:=e
  rcases e' with⟨xs,hx,e'⟩|⟨xs,hx,e'⟩|⟨Jt,hx,e'⟩
  ·subst e';obtain⟨its,r,pl,hz⟩:=I.list hx;have hlen:=r.length;exact wpAny_truthy_list pl.isList (by simp only[D4];omega) ⟨H,I.tok _,by rw[kH r];exact q⟩
  ·subst e';obtain⟨its,r,pl,hz⟩:=I.tuple hx;have hlen:=r.length;exact truthy_tuple pl (by simp only[D4];omega) ⟨H,I.tok _,by rw[kH r];exact q⟩
  ·subst e';obtain⟨hz,hS,vs,r,m⟩:Jt.length<=sizeLine/\(p==sysModules)=false/\∃vs,KV Jt vs/\s.heap.DictOf (b7 X.prog X.w) p vs:=I.hok p _ hx;have hlen:Jt.length=vs.length:=Bh r;exact wpAny_truthy_dict hS m (by omega) ⟨H,I.tok _,by rw[afz r];exact q⟩
 |_=>exact(show False from e).elim
theorem iQ (ha:PE X a ta)(he:∀dG,isTrue a X.env dG=(do let v <-dG;standAt a.pos;holding [v] (truthy v))):
 PT X a (λσ H Q=>ta σ H λx H'=>∃k,CI X.K x H' k/\Q k H'):=by
 intro pins s σ H Q I h;exact isTrue_plain (bO (ha pins s σ H _ I h) λv s1 ⟨x,H1,I1,r1,q1⟩=>aaF pins s1 σ H1 x v Q I1 r1 q1) (he _)
theorem gh {x:V}(r:aR [x] us):∃u,us=[u]/\aI x u:=by
 cases r with
 |cons r1 r2=>cases r2;exact⟨_,rfl,r1⟩
theorem uR {x:V}(r:aR [x,y] us):∃u w',us=[u,w']/\aI x u/\aI y w':=by
 cases r with
 |cons r1 r2 =>
  cases r2 with
  |cons r3 r4=>cases r4;exact⟨_,_,rfl,r1,r3⟩
theorem mi:fQ X (.builtin "abs") (λxs H Q=>∃i,xs=[.int i]/\Q (.int (if i<0 then -i else i)) H):=by
 intro pins s σ H xs us Q I r h;obtain⟨i,rfl,q⟩:=h;obtain⟨u,rfl,t,rfl⟩:=gh r;exact call_abs_int λu tk=>⟨.int (if i<0 then -i else i),H,I.tok _,⟨_,rfl⟩,q⟩
theorem aaG (hc:X.calm=true):fQ X (.builtin "max") (λxs H Q=>∃i j,xs=[.int i,.int j]/\Q (.int (if j>i then j else i)) H):=by
 intro pins s σ H xs us Q I r h;obtain⟨i,j,rfl,q⟩:=h;obtain⟨u,w',rfl,⟨t,rfl⟩,⟨t',rfl⟩⟩:=uR r;refine max_two_ints (I.ok.hd hc) λh' tk k=>⟨_,H,I.kept k,?_,q⟩
 by_cases hj:j>i
 ·rw[zj hj,zj hj];exact⟨_,rfl⟩
 ·rw[qM hj,qM hj];exact⟨_,rfl⟩
theorem aaH (hc:X.calm=true):fQ X (.builtin "min") (λxs H Q=>∃i j,xs=[.int i,.int j]/\Q (.int (if j<i then j else i)) H):=by
 intro pins s σ H xs us Q I r h;obtain⟨i,j,rfl,q⟩:=h;obtain⟨u,w',rfl,⟨t,rfl⟩,⟨t',rfl⟩⟩:=uR r;refine min_two_ints (I.ok.hd hc) λh' tk k=>⟨_,H,I.kept k,?_,q⟩
 by_cases hj:j<i
 ·rw[zj hj,zj hj];exact⟨_,rfl⟩
 ·rw[qM hj,qM hj];exact⟨_,rfl⟩
theorem nX:fQ X (.type "int") (λxs H Q=>(∃i,xs=[.int i]/\Q (.int i) H)\/∃k,xs=[.bl k]/\Q (.int (if k then 1 else 0)) H):=by
 intro pins s σ H xs us Q I r h
 rcases h with⟨i,rfl,q⟩|⟨k,rfl,q⟩
 ·obtain⟨u,rfl,t,rfl⟩:=gh r;exact call_int_int ⟨.int i,H,I,⟨_,rfl⟩,q⟩
 ·obtain⟨u,rfl,r1⟩:=gh r
  cases r1
  exact call_int_bool ⟨.int (if k then 1 else 0),H,I.tok _,⟨_,rfl⟩,q⟩
end
structure BF (h:Heap)(x dx C:Addr)(mA:xk):Prop where
 obj:h.get? x=some (PySem.W.instObj C dx)
 ns:h.Ns1 dx mA
 ne:dx≠x
theorem aaI {dx:Addr}{mA:xk}(n:h.Ns1 dx mA):∃od,h.get? dx=some od/\∀name,PySem.W.lookIn name od=some (mA name):=by
 obtain⟨o,es,ep,ho,hd,hk,_,hm⟩:=n;refine⟨o,ho,λname=>?_⟩;have e:=hm name;unfold nsFind findBy at e;rw[<-Array.find?_toList] at e;unfold PySem.W.lookIn;rw[hd];dsimp only
 split
 ·rename_i y q
  rw[q] at e;exact Hh some e
 ·rename_i q
  rw[q] at e
  have a:es.toList.any (·.refKey)=false:=by
   rw[List.any_eq_false];intro y hy;obtain⟨z,t,VX⟩:=hk y (Array.mem_toList_iff.mp hy);simp[DictEntry.refKey,VX]
  have a':¬es.toList.any (·.refKey)=true:=by rw[a];exact IA
  rw[qM a'];exact Hh some e
variable {C:Addr}
theorem BF.look {x dx:Addr}{mA:xk}(I:BF h x dx C mA):∃od,PySem.W.InstAt h x (PySem.W.instObj C dx) C (some od)/\∀name,PySem.W.lookIn name od=some (mA name):=
 let⟨od,ho,hl⟩:=aaI I.ns
 ⟨od,⟨I.obj,rfl,rfl,ho⟩,hl⟩
variable {pl:Sem Bool}{kw:List (Str×Value)}
section
variable {prog:Iy}{w:World}{A:Around}{E:Bf}{s:AL}{K:PySem.W.Frag}{x dx C f:Addr}{mA:xk}{name:Str}{v:Value}
theorem agA {expr:Bool}{Q:Bf}(X:K.In s.heap)(I:BF s.heap x dx C mA)(hg:PySem.W.plainGet K C name=true)(hh:PySem.W.hasDictIn K C=true)
 (ha:PySem.W.findIn K (.ref C) name=some none)(hv:mA name=some v)(hv':PySem.W.handedIn v=true)(h:Q v {s with toks:=s.toks+1}):
 wpAny (model prog w) A (getAttr (.ref x) name expr) Q E s:=by
 obtain⟨od,J,hl⟩:=I.look;exact PySem.W.get_value X J (qk hg).1 (PySem.W.findObj_own hh ha rfl (by rw[hl,hv])) hv' h
theorem aaw {Q:Value×List Value->Shared->Prop}(X:K.In s.heap)(I:BF s.heap x dx C mA)(hg:PySem.W.plainGet K C name=true)
 (hf:PySem.W.findIn K (.ref C) name=some (some (.ref f)))(ht:PySem.W.isFn K (.ref f)=true)(hv:mA name=none)(h:Q (.ref f,[.ref x]) s):
 wpAny (model prog w) A (getMethod (.ref x) name pl) Q E s:=by
 obtain⟨od,J,hl⟩:=I.look;exact PySem.W.method_fn X J (qk hg).1 (qk hg).2 hf (y7.mp ht) (by show(PySem.W.lookIn name od).map (·.isSome)=some false;rw[hl,hv];rfl) h
theorem aaz {ns:p3}{Q:Unit->Shared->Prop}(X:K.In s.heap)(I:BF s.heap x dx C mA)
 (hs:PySem.W.findIn K (.ref C) "__setattr__"=some (some (.builtin "object.__setattr__")))(hp:PySem.W.plainOver K C=true)(ht:PySem.W.takerIn K C name=some none)(hh:PySem.W.hasDictIn K C=true)
 (hw:PySem.Within mA ns)(hsz:ns.length<=sizeLine)
 (h:∀h',BF h' x dx C (λy=>if y=name then some v else mA y)->Heap.SameBut dx s.heap h'->Q () {s with heap:=h',toks:=s.toks+2}):
 wpAny (model prog w) A (setAttr (.ref x) name v) Q E s:=by
 obtain⟨od,J,hl⟩:=I.look;refine PySem.W.set_plain X J hs (PySem.W.osa_open (s:={s with toks:=s.toks+1}) (r:=none) X J hp ht λb=>?_);obtain⟨cd,hc,VR⟩:=PySem.W.any_some hh;have hx:s.heap.get? x=some ⟨.ref C,some dx,.plain,#[]⟩:=I.obj;refine C7 (pO (C7 (C7 (wpAny_loadPart hx (C7 (PySem.W.Looks.here (s:={s with toks:=s.toks+1}) (PySem.W.looks_clsIn X hc) ?_))))));rw[VR];refine pO (a:=some dx) (C7 (pO (C7 ?_)));refine wpAny_nsSet1 (s:={s with toks:=s.toks+1}) I.ns λh' Pz Le=>?_;obtain⟨oD,esD,epD,hoD,hdD,ME⟩:=Pz.count (PySem.Within.cons name v hw);refine C7 (wpAny_lookBehind hoD (by rw[hdD];exact pastItsLine_dict (EW ME (by rw[wF];omega))) ?_);exact pO (h _ ⟨(Le.2 _ (Jm I.ne)).trans I.obj,Pz,I.ne⟩ Le)
theorem aaD {R:Result->Shared->Prop}{vs:yX}(X:K.In s.heap)(hm:PySem.W.makesIn K C=true)
 (hi:PySem.W.findIn K (.ref C) "__init__"=some (some (.ref f)))(hf:PySem.W.typeIn K (.ref f)=some (.type "function"))
 (h:codeAny (model prog w) (A.under (.builtin "type.__call__" ⟨.ref C::vs,kw⟩)) (.call (.ref f) ⟨.ref (s.heap.objs.size+1):: vs,kw⟩) (PySem.W.InitBack (s.heap.objs.size+1) R)
  {s with heap:=(s.heap.push PySem.W.emptyDict).push (PySem.W.instObj C s.heap.objs.size)}):
 codeAny (model prog w) A (.call (.ref C) ⟨vs,kw⟩) R s:=by
 obtain⟨hh,g,d,t,os⟩:=s;exact PySem.W.make_core (PySem.W.makes_of X hm) (PySem.W.looks_findIn X hi) (λself=>PySem.W.bind_fn X self hf) (.inl rfl) h
end
def cP (f:Str)(v:V):List (Str×V)->List (Str×V)
 |[]=>[(f,v)]
 |(g,x):: r=>if g=f then(g,v):: r else(g,x):: cP f v r
theorem jA (f g:Str)(v:V):∀fs:List (Str×V),(cP f v fs).lookup g=if g=f then some v else fs.lookup g
 |[]=>by
  show List.lookup g [(f,v)]=_
  by_cases h:g=f
  ·have hb:(g==f)=true:=y7.mpr h;simp only[List.lookup,hb,zj h]
  ·have hb:(g==f)=false:=Hw.mpr h;simp only[List.lookup,hb,qM h]
 |(k,x):: r=>by
  have ih:=jA f g v r;rw[show cP f v ((k,x):: r)=(if k=f then(k,v):: r else(k,x):: cP f v r) from rfl]
  by_cases hk:k=f
  ·rw[zj hk]
   by_cases h:g=k
   ·have hb:(g==k)=true:=y7.mpr h;simp only[List.lookup,hb,zj (h.trans hk)]
   ·have hb:(g==k)=false:=Hw.mpr h;simp only[List.lookup,hb,qM (λe:g=f=>h (e.trans hk.symm))]
  ·rw[qM hk]
   by_cases h:g=k
   ·have hb:(g==k)=true:=y7.mpr h;simp only[List.lookup,hb,qM (λe:g=f=>hk (h.symm.trans e))]
   ·have hb:(g==k)=false:=Hw.mpr h;simp only[List.lookup,hb];exact ih
theorem jm (f:Str)(v:V):∀fs:List (Str×V),f∈(cP f v fs).map (·.1)/\∀g,g∈fs.map (·.1)->g∈(cP f v fs).map (·.1)
 |[]=>⟨by simp[cP],λg h=>by simp at h⟩
 |(k,x):: r=>by
  obtain⟨i1,i2⟩:=jm f v r;rw[show cP f v ((k,x):: r)=(if k=f then(k,v):: r else(k,x):: cP f v r) from rfl]
  by_cases hk:k=f
  ·rw[zj hk];subst hk;exact⟨by simp,λg h=>by simpa using h⟩
  ·rw[qM hk];refine⟨?_,λg h=>?_⟩
   ·rw[Jr];exact Er _ i1
   ·rw[Jr] at h |-
    rcases BN.mp h with e|e
    ·exact BN.mpr (.inl e)
    ·exact Er _ (i2 g e)
theorem jI (f:Str)(v:V):∀fs:List (Str×V),(cP f v fs).length<=fs.length+1
 |[]=>by simp[cP]
 |(k,x):: r=>by
  have ih:=jI f v r;rw[show cP f v ((k,x):: r)=(if k=f then(k,v):: r else(k,x):: cP f v r) from rfl]
  by_cases hk:k=f
  ·rw[zj hk,wF,wF];omega
  ·rw[qM hk,wF,wF];omega
theorem gs.some_of {v:V}{o:BE}(r:gs (some v) o):∃u,o=some u/\aI v u:=by
 cases o with
 |none=>exact(show False from r).elim
 |some u=>exact⟨u,rfl,r⟩
theorem gs.none_of {o:BE}(r:gs none o):o=none:=by
 cases o with
 |none=>rfl
 |some u=>exact(show False from r).elim
theorem aaL {v:V}(r:aI v u):PySem.W.handedIn u=true:=by
 cases v with
 |non=>cases(show u=Value.none from r);rfl
 |bl b=>cases(show u=Value.bool b from r);rfl
 |int i=>obtain⟨t,e⟩:=(show ∃t,u=Value.int i t from r);cases e;rfl
 |str x=>obtain⟨t,e⟩:=(show ∃t,u=Value.str x t from r);cases e;rfl
 |byt b=>obtain⟨t,e⟩:=(show ∃t,u=Value.bytes b t from r);cases e;rfl
 |flt b=>obtain⟨t,e⟩:=(show ∃t,u=Value.float b t from r);cases e;rfl
 |ref a=>cases(show u=Value.ref a from r);rfl
 |ty n=>cases(show u=Value.type n from r);rfl
section
variable {P:Iy}{w:World}{H H':Hp}{h h':Heap}{a C dx:Addr}{fs fs':List (Str×V)}
theorem gc (hok:gB P w H h)(e:H a=some (.ins C dx fs)):∃mA,BF h a dx C mA/\(∀f,gs (fs.lookup f) (mA f))/\PySem.Within mA (fs.map (·.1))/\fs.length<=1000/\H dx=some (.own a):=by
 obtain⟨d,z,ne,ob,mA,n,r,q⟩:=(show bJ P w H h a (.ins C dx fs) from hok a _ e);exact⟨mA,⟨ob,n,ne⟩,r,q,z,d⟩
end
structure Gb (K:PySem.W.Frag)(C:Addr):Prop where
 pg:PySem.W.plainGet K C Str.empty=true
 hd:PySem.W.hasDictIn K C=true
 po:PySem.W.plainOver K C=true
 sa:PySem.W.findIn K (.ref C) "__setattr__"=some (some (.builtin "object.__setattr__"))
theorem Gb.get (c:Gb K C)(f:Str):PySem.W.plainGet K C f=true:=c.pg
def dz (K:PySem.W.Frag)(C:Addr)(f:Str):Prop:=PySem.W.findIn K (.ref C) f=some none
theorem dz.akC {f:Str}(n:dz K C f):PySem.W.takerIn K C f=some none:=by
 unfold PySem.W.takerIn;rw[show PySem.W.findIn K (.ref C) f=some none from n];rfl
structure Meth (K:PySem.W.Frag)(C:Addr)(m:Str)(f:Addr):Prop where
 at_:PySem.W.findIn K (.ref C) m=some (some (.ref f))
 fn:PySem.W.isFn K (.ref f)=true
 kp:PySem.W.keepIn K (.ref f)=true
section
variable {X:Cx}{pins:List (Addr×Obj)}{σ:St}{H:Hp}{s:AL}{a C dx:Addr}{fs:List (Str×V)}{f:Str}{v:V}{A:Around}{E:Bf}
theorem agB {b:Bool}{Q:Bf}(I:Inv X pins σ H s)(e:H a=some (.ins C dx fs))(c:Gb X.K C)(n:dz X.K C f)(l:fs.lookup f=some v)
 (h:∀u s',Inv X pins σ H s'->aI v u->Q u s'):wpAny (model X.prog X.w) A (getAttr (.ref a) f b) Q E s:=by
 obtain⟨mA,O,r,_,_,_⟩:=gc I.hok e;obtain⟨u,hu,ru⟩:=gs.some_of (v:=v) (o:=mA f) (by rw[<-l];exact r f);exact agA I.kIn O (c.get f) c.hd n hu (aaL ru) (h u _ (I.tok _) ru)
theorem j3 {m:Str}{g:Addr}{Q:Value×List Value->Shared->Prop}(I:Inv X pins σ H s)(e:H a=some (.ins C dx fs))(c:Gb X.K C)(k:Meth X.K C m g)(l:fs.lookup m=none)
 (h:Q (.ref g,[.ref a]) s):wpAny (model X.prog X.w) A (getMethod (.ref a) m pl) Q E s:=by
 obtain⟨mA,O,r,_,_,_⟩:=gc I.hok e;have hn:mA m=none:=gs.none_of (by rw[<-l];exact r m);exact aaw I.kIn O (c.get m) k.at_ k.fn hn h
theorem aaP {Q:Unit->Shared->Prop}(I:Inv X pins σ H s)(e:H a=some (.ins C dx fs))(c:Gb X.K C)(n:dz X.K C f)(hl:fs.length<1000)(ry:aI y u)
 (h:∀s',Inv X pins σ (upd H a (.ins C dx (cP f y fs))) s'->Q () s'):wpAny (model X.prog X.w) A (setAttr (.ref a) f u) Q E s:=by
 obtain⟨mA,O,r,wi,_,ho⟩:=gc I.hok e
 have hz:(fs.map (·.1)).length<=sizeLine:=by rw[vW,AI];omega
 refine aaz I.kIn O c.sa c.po n.akC c.hd wi hz λh' O' sb=>h _ ?_;have hd:∃o,h'.get? dx=some o:=let⟨o,_,_,e',_⟩:=O'.ns;⟨o,e'⟩;refine I.write (x:=a) (e:=dx) (by rw[e];exact True.intro) (.inr ho) (λb q hb z=>(sb.2 b hb).trans z) hd ?_;refine⟨by rw[av O.ne];exact ho,?_,O.ne,O'.obj,_,O'.ns,λg=>?_,λg hg=>?_⟩
 ·have:=jI f y fs;omega
 ·show gs ((cP f y fs).lookup g) (if g=f then some u else mA g);rw[jA]
  by_cases q:g=f
  ·rw[zj q,zj q];exact ry
  ·rw[qM q,qM q];exact r g
 ·by_cases q:g=f
  ·rw[q];exact(jm f y fs).1
  ·refine(jm f y fs).2 g (wi g λz=>hg ?_);show(if g=f then some u else mA g)=none;rw[qM q];exact z
theorem Inv.made (I:Inv X pins σ H s):Inv X pins σ (upd (upd H s.heap.objs.size (.own (s.heap.objs.size+1))) (s.heap.objs.size+1) (.ins C s.heap.objs.size []))
 {s with heap:=(s.heap.push PySem.W.emptyDict).push (PySem.W.instObj C s.heap.objs.size)}:=by
 have e1:(s.heap.push PySem.W.emptyDict).get? s.heap.objs.size=some PySem.W.emptyDict:=Hr s.heap rfl
 have e2:((s.heap.push PySem.W.emptyDict).push (PySem.W.instObj C s.heap.objs.size)).get? (s.heap.objs.size+1)=some (PySem.W.instObj C s.heap.objs.size):=by
  have:=Hr (s.heap.push PySem.W.emptyDict) (o:=PySem.W.instObj C s.heap.objs.size) rfl;rwa[DG] at this
 have e3:(s.heap.push PySem.W.emptyDict).Ns s.heap.objs.size (λ_=>none):=⟨PySem.W.emptyDict,#[],_,e1,rfl,(λe he=>absurd he (by simp)),λ_=>rfl⟩;have I1:=I.laid (a:=s.heap.objs.size) (o:=.own (s.heap.objs.size+1)) (h':=s.heap.push PySem.W.emptyDict) (t':=s.toks) (λb u q=>wa _ q) (zC _) ⟨_,e1⟩;refine I1.laid (a:=s.heap.objs.size+1) (o:=.ins C s.heap.objs.size []) (t':=s.toks) (λb u q=>wa _ q) (Nat.le_of_eq (DG _ _)) ?_;have ne:s.heap.objs.size≠s.heap.objs.size+1:=Ie (xO _);refine⟨by rw[av ne,ah],Ag _,ne,e2,λ_=>none,(Heap.Ns1.of_empty e3).at λo q=>wa _ q,λ_=>True.intro,λy hy=>absurd rfl hy⟩
theorem aaT {prog:Iy}{env:Env}{f:Str}{s:AL}{Q:Bf}(hb:attributeBase e f env (eval e env)=eval e env)
 (h:wpAny (model prog w) A (eval e env) (λo s₁=>wpAny (model prog w) A (getAttr o f true) Q E s₁) E s):wpAny (model prog w) A (eval (.Attribute e f pos) env) Q E s :=
 Attribute_any_ h (by rw[arm_eval_Attribute,hb])
end
def F9 (K:PySem.W.Frag)(ta:TE)(f:Str):TE:=λσ H Q=>ta σ H λx H1=>∃a C dx fs v,x=.ref a/\H1 a=some (.ins C dx fs)/\Gb K C/\dz K C f/\fs.lookup f=some v/\Q v H1
def acf (K:PySem.W.Frag)(ta tv:TE)(f:Str):TS:=λD σ H=>tv σ H λy H1=>ta σ H1 λx H2=>∃a C dx fs,x=.ref a/\H2 a=some (.ins C dx fs)/\Gb K C/\dz K C f/\fs.length<1000 /\
 D.nx σ (upd H2 a (.ins C dx (cP f y fs)))
section
variable {X:Cx}{o e value:Expr}{f:Str}{pos pos' VY:Pos}{ta tv:TE}
theorem bD (he:PE X e ta)(hb:attributeBase e f X.env (eval e X.env)=eval e X.env):PE X (.Attribute e f pos) (F9 X.K ta f):=by
 intro pins s σ H Q I h;refine aaT hb (bO (he pins s σ H _ I h) λu s1 z'=>?_);obtain⟨x,H1,I1,rx,a,C,dx,fs,v,ex,ea,c,n,l,q⟩:=z';subst ex;obtain rfl:u=Value.ref a:=rx;exact agB I1 ea c n l λu' s2 I2 ru=>⟨v,H1,I2,ru,q⟩
theorem gN (ha:PE X o ta)(hv:PE X value tv)(hs:swapsWith value (some (.Attribute o f pos')) pos.line X.env=pure false):PS X (.Assign [.Attribute o f pos'] value pos) (acf X.K ta tv f):=by
 intro pins s σ H D I h;refine plainObj_wpAny_Assign_Attribute (bO (hv pins s σ H _ I h) λu s1 ⟨y,H1,I1,ry,q⟩=>bO (ha pins s1 σ H1 _ I1 q) λov s2 z'=>?_) hs;obtain⟨x,H2,I2,rx,a,C,dx,fs,ex,ea,c,n,l,q2⟩:=z';subst ex;obtain rfl:ov=Value.ref a:=rx;exact aaP I2 ea c n l ry λs3 I3=>⟨σ,_,I3,q2⟩
end
section
variable {X:Cx}{pins:List (Addr×Obj)}{σ:St}{H:Hp}{s:AL}{A:Around}{E:Bf}{Q:Bf}{c:Value}{b:Bool}
inductive tQ (K:PySem.W.Frag)(H:Hp):V->Value->Prop where
 |non:tQ K H .non (.type "NoneType")
 |bl (x:Bool):tQ K H (.bl x) (.type "bool")
 |int (i:Int):tQ K H (.int i) (.type "int")
 |str (x:Str):tQ K H (.str x) (.type "str")
 |flt (x:UInt64):tQ K H (.flt x) (.type "float")
 |lst {a:Addr}{xs:List V}(e:H a=some (.lst xs)):tQ K H (.ref a) (.type "list")
 |frz {a:Addr}{o:Obj}{xs:List V}(e:H a=some (.frz o (.lst xs))):tQ K H (.ref a) (.type "list")
 |tup {a:Addr}{xs:List V}(e:H a=some (.tup xs)):tQ K H (.ref a) (.type "tuple")
 |dK {a:Addr}{Jt:List (Key×V)}(e:H a=some (.dK Jt)):tQ K H (.ref a) (.type "dict")
 |dT {a:Addr}{Jt:List (List Key×V)}(e:H a=some (.dT Jt)):tQ K H (.ref a) (.type "dict")
 |ins {a C dx:Addr}{fs:List (Str×V)}(e:H a=some (.ins C dx fs))(cl:Gb K C)(ha:PySem.W.findIn K (.ref C) "__class__"=some (some (.builtin "object.__class__")))
  (hn:PySem.W.specialIn K (.builtin "object.__class__") "__get__"=some (some (.builtin "getset_descriptor.__get__")))(Qi:PySem.W.takesIn K (.builtin "object.__class__")=some true)
  (hm:PySem.W.mroIn K C (.type "object")=some true):tQ K H (.ref a) (.ref C)
theorem aaC {x:V}{t:Value}(I:Inv X pins σ H s)(rx:aI x u)(ty:tQ X.K H x t)(e:PySem.W.kitOne X.K t c=some b)(h:∀tk,Q (.bool b) {s with toks:=tk}):
 wpAny (model X.prog X.w) A (call (.builtin "isinstance") [u,c]) Q E s:=by
 cases ty with
 |non=>cases(show u=Value.none from rx);exact Cv PySem.W.kitx_none I.kIn True.intro e (λz=>nomatch z) h
 |bl y=>cases(show u=Value.bool y from rx);exact Cv PySem.W.kitx_bool I.kIn True.intro e (λz=>nomatch z) h
 |int i=>obtain⟨t,q⟩:=(show ∃t,u=Value.int i t from rx);cases q;exact Cv PySem.W.kitx_int I.kIn True.intro e (λz=>nomatch z) h
 |str y=>obtain⟨t,q⟩:=(show ∃t,u=Value.str y t from rx);cases q;exact Cv PySem.W.kitx_str I.kIn True.intro e (λz=>nomatch z) h
 |flt y=>obtain⟨t,q⟩:=(show ∃t,u=Value.float y t from rx);cases q;exact Cv PySem.W.kitx_float I.kIn True.intro e (λz=>nomatch z) h
 |@lst a xs ea =>
  cases(show u=Value.ref a from rx)
  obtain⟨_,_,n,_,h1⟩:=(show bJ X.prog X.w H s.heap a (.lst xs) from I.hok a _ ea);exact Cv PySem.W.kitx_list I.kIn ⟨_,h1,rfl⟩ e (λz=>nomatch z) h
 |@frz a ob xs ea =>
  cases(show u=Value.ref a from rx)
  obtain⟨_,_,_,n,_,h1⟩:=(show bJ X.prog X.w H s.heap a (.frz ob (.lst xs)) from I.hok a _ ea);exact Cv PySem.W.kitx_list I.kIn ⟨_,h1,rfl⟩ e (λz=>nomatch z) h
 |@tup a xs ea =>
  cases(show u=Value.ref a from rx)
  obtain⟨_,_,_,p⟩:=(show bJ X.prog X.w H s.heap a (.tup xs) from I.hok a _ ea);obtain⟨o,h1,h2,_⟩:=p;exact Cv PySem.W.kitx_tuple I.kIn ⟨o,h1,h2⟩ e (λz=>nomatch z) h
 |@dK a Jt ea =>
  cases(show u=Value.ref a from rx)
  obtain⟨_,_,vs,_,p⟩:=(show bJ X.prog X.w H s.heap a (.dK Jt) from I.hok a _ ea);obtain⟨o,es,ep,h1,h2,_⟩:=p;exact Cv PySem.W.kitx_dict I.kIn ⟨o,h1,h2.1⟩ e (λz=>nomatch z) h
 |@dT a Jt ea =>
  cases(show u=Value.ref a from rx)
  obtain⟨_,_,xs,_,o,es,ep,h1,h2,_⟩:=(show bJ X.prog X.w H s.heap a (.dT Jt) from I.hok a _ ea);exact Cv PySem.W.kitx_dict I.kIn ⟨o,h1,h2.1⟩ e (λz=>nomatch z) h
 |@ins a C dx fs ea cl ha hn Qi hm =>
  cases(show u=Value.ref a from rx)
  obtain⟨mA,O,_⟩:=gc I.hok ea;obtain⟨od,J,_⟩:=O.look;exact Cv (PySem.W.kitx_own (cl.get _) cl.hd ha hn Qi hm) I.kIn J e (λz=>nomatch z) h
end
structure A8 (k:Nat)(A:Around):Prop where
 hd:A.handled=none
 dp:A.depth+3*k+5<recursionLimit
 un:A.units+16*k+200<cLine
 gd:A.guards=some []
theorem A8.mono {j:Nat}(r:A8 k A)(h:j<=k):A8 j A:=⟨r.hd,by have:=r.dp;omega,by have:=r.un;omega,r.gd⟩
theorem A8.deeper (r:A8 (k+1) A)(env:Env):A8 k (A.deeper env):=
 ⟨r.hd,by have:=r.dp;show A.depth+1+3*k+5<_;omega,by have:=r.un;show A.units+3+16*k+200<_;omega,r.gd⟩
theorem A8.in1 (r:A8 (k+1) A):A8 k A.in1 :=
 ⟨r.hd,by have:=r.dp;show A.depth+3*k+5<_;omega,by have:=r.un;show A.units+1+16*k+200<_;omega,r.gd⟩
theorem aaJ :(A.under (.builtin "type.__call__" ⟨.ref C::us,kw⟩)).depth=A.depth+1:=by
 first|rfl|simp[Around.under,Code.weight,Code.isCreation,Code.isGuard,Code.isCaller,Code.frames,Code.isFrame,guardIds]
theorem aaO :(A.under (.builtin "type.__call__" ⟨.ref C::us,kw⟩)).guards=A.guards:=by
 first|rfl|simp[Around.under,Code.guards,Code.isGuard,guardIds,pushGuards]
theorem aaX :(A.under (.builtin "type.__call__" ⟨.ref C::us,kw⟩)).units=A.units+1:=by
 first|rfl|simp[Around.under,Code.cUnits,Code.frames,Code.isFrame]
theorem A8.make (r:A8 (k+1) A)(C:Addr)(us:yX)(kw:List (Str×Value)):A8 k (A.under (.builtin "type.__call__" ⟨.ref C::us,kw⟩)):=
 ⟨r.hd,by have:=r.dp;rw[aaJ];omega,by have:=r.un;rw[aaX];omega,by rw[aaO];exact r.gd⟩
theorem A8.depth (r:A8 k A):A.depth<recursionLimit:=by have:=r.dp;omega
theorem A8.units (r:A8 k A):A.units+64<cLine:=by have:=r.un;omega
theorem A8.ahK (r:A8 k A):A.units<cLine:=by have:=r.un;omega
def HS:TA:=λ_ H Q=>Q [] H
def en (ta:TE)(tr:TA):TA:=λσ H Q=>ta σ H λx H1=>tr σ H1 λxs H2=>Q (x::xs) H2
section
variable {X:Cx}{e:Expr}{es:vH}{te:TE}{t:TA}{pos:Pos}
theorem af:PA X [] HS:=λ_ _ _ _ H Q I h=>Aq ⟨[],H,I,.nil,h⟩
theorem ck (ha:PE X e te)(hr:PA X es t)(hs:starEach (e::es) X.env=(false,eval e X.env):: starEach es X.env:=by rfl):PA X (e::es) (en te t):=by
 intro pos pins s σ H Q I h;rw[hs];show wpAny _ _ (spliced ((false,eval e X.env):: backTo pos (starEach es X.env))) _ _ s;refine FN (bO (ha pins s σ H _ I h) λu s1 z'=>?_);obtain⟨x,H1,I1,r1,q1⟩:=z';exact bO (hr pos pins s1 σ H1 _ I1 q1) λus s2 ⟨xs,H2,I2,r2,q2⟩=>⟨x::xs,H2,I2,.cons r1 r2,q2⟩
def EJ (t:TA):TE:=λσ H Q=>t σ H λxs H1=>xs.length<=sizeLine/\∀p,H1 p=none->Q (.ref p) (upd H1 p (.tup xs))
def DZ (t:TA):TE:=λσ H Q=>t σ H λxs H1=>xs.length<=sizeLine/\∀p,H1 p=none->Q (.ref p) (upd H1 p (.lst xs))
theorem bu {x1}(h:PA X es t):PE X (.Tuple es x1 pos) (EJ t):=by
 intro pins s σ H Q I hq;refine wpAny_Tuple_spliced (bO (h pos pins s σ H _ I hq) λus s1 ⟨xs,H1,I1,r,z,q⟩=>⟨by rw[<-r.length];exact z,?_⟩);have hf:H1 s1.heap.objs.size=none:=I1.hok.fresh (zC _);refine⟨.ref s1.heap.objs.size,upd H1 s1.heap.objs.size (.tup xs),I1.laid (t':=s1.toks) (λb u e=>wa _ e) (zC _) ?_,rfl,q _ hf⟩;exact⟨z,us,r,⟨_,Hr _ rfl,rfl,_,rfl⟩⟩
theorem cg (h:PA X es t):PE X (.List es pos) (DZ t):=by
 intro pins s σ H Q I hq;refine wpAny_List_spliced (bO (h pos pins s σ H _ I hq) λus s1 ⟨xs,H1,I1,r,z,q⟩=>⟨by rw[<-r.length];exact z,?_⟩);have hf:H1 s1.heap.objs.size=none:=I1.hok.fresh (zC _);refine⟨.ref s1.heap.objs.size,upd H1 s1.heap.objs.size (.lst xs),I1.laid (t':=s1.toks) (λb u e=>wa _ e) (zC _) ?_,rfl,q _ hf⟩;exact⟨z,us,0,r,Hr _ rfl⟩
end
abbrev Sp:=List V->Hp->VK->XK->Prop
abbrev rS:=List Env->Hp->Shared->XK->Value->Shared->Prop
structure oB (P:Iy)(w:World)(K:PySem.W.Frag)(mg:xk)(base:Heap)(A:Around)(outer:List Env)(s:AL)(H:Hp):Prop where
 frames:A.frames=some outer
 mod:Mod K mg base
 bs:∀b o,base.get? b=some o->s.heap.get? b=some o/\H b=none
 bsz:base.objs.size<=s.heap.objs.size
 agY:s.heap.FunFrames base outer
 frf:∀b∈eV outer,H b=none
 hok:gB P w H s.heap
 bare:AllBare s.gens
def CE (outer:List Env)(P:Iy)(w:World)(H:Hp)(s:AL)(Q:VK)(u:Value)(s':AL):Prop :=
 ∃v H',s'.os=s.os/\AllBare s'.gens/\Un (eV outer) [] H H' s.heap s'.heap/\gB P w H' s'.heap/\aI v u/\Q v H'
def ack (CX:rS)(outer:List Env)(P:Iy)(w:World)(H:Hp)(s:AL)(Q:VK)(E:XK)(r:Result)(s':AL):Prop :=
 match r with
 | .ok (.ret u)=>CE outer P w H s Q u s'
 | .ok _=>False
 | .error e=>CX outer H s E e s'
structure zG (P:Iy)(w:World)(K:PySem.W.Frag)(mg:xk)(base:Heap)(CX:rS)(k:Nat)(f:Addr)(fd:qo)(ps:p3)(sp:Sp):Prop where
 len:∀vs H Q E,sp vs H Q E->vs.length=ps.length
 run:∀(A:Around)(outer:List Env)(s:AL)(H:Hp)(args:Args)(us:yX)(vs:List V)(Q:VK)(E:XK),A8 k A->oB P w K mg base A outer s H->BindsTo s fd args (ps.zip us)->aR vs us->sp vs H Q E →
  codeAny (model P w) A (.call (.ref f) args) (ack CX outer P w H s Q E) s
variable {mg:xk}{base:Heap}{outer:List Env}
theorem oB.make (e:oB P w K mg base A outer s H)(C:Addr)(us:yX)(kw:List (Str×Value)):
 oB P w K mg base (A.under (.builtin "type.__call__" ⟨.ref C::us,kw⟩)) outer s H:=⟨by first|exact e.frames|(simpa[Around.under,Code.envs,Code.isFrame,pushEnvs] using e.frames),e.mod,e.bs,e.bsz,e.agY,e.frf,e.hok,e.bare⟩
theorem oB.in1 (e:oB P w K mg base A outer s H):
 oB P w K mg base A.in1 outer s H:=⟨e.frames,e.mod,e.bs,e.bsz,e.agY,e.frf,e.hok,e.bare⟩
section
variable {X:Cx}{pins:List (Addr×Obj)}{σ:St}{H:Hp}{s s':AL}
theorem Inv.ai7 (I:Inv X pins σ H s):oB X.prog X.w X.K X.mg X.base X.A X.stack s H :=
 ⟨I.ok.frames,I.ok.mod,I.bs,EW I.ok.bsz I.sz,I.stack,I.ahh,I.hok,I.bare⟩
theorem Inv.after (I:Inv X pins σ H s)(h:CE X.stack X.prog X.w H s Q u s'):EP X pins σ Q u s':=by
 obtain⟨v,H',os,bare,un,hok,r,q⟩:=h;obtain⟨hh,g,d,t,os'⟩:=s';obtain rfl:os'=s.os:=os;exact⟨v,H',I.call (h':=hh) (g':=g) (d':=d) (t':=t) (ch:=[]) un hok bare (λb z=>absurd z (by simp)),r,q⟩
end
def agO (sp:Sp)(dvs:List V)(E:XK)(t:TA):TE:=λσ H Q=>t σ H λvs H1=>sp (vs++dvs) H1 Q E
def Cc (C:Addr)(m:Str)(sp:Sp)(dvs:List V)(E:XK)(ta:TE)(t:TA):TE:=λσ H Q=>ta σ H λx H1=>∃a dx fs,x=.ref a/\H1 a=some (.ins C dx fs)/\fs.lookup m=none /\
 t σ H1 λvs H2=>sp (x::(vs++dvs)) H2 Q E
def agC (C:Addr)(sp:Sp)(dvs:List V)(E:XK)(t:TA):TE:=λσ H Q=>t σ H λvs H1=>∀x dx,H1 x=none->H1 dx=none->dx≠x →
 sp (.ref x::(vs++dvs)) (upd (upd H1 dx (.own x)) x (.ins C dx [])) (λv H2=>v=.non/\Q (.ref x) H2) E
def ax (K:PySem.W.Frag)(fd:qo)(ps:p3)(ds:yX):Prop :=
 ∀(s:AL)(us:yX),K.In s.heap->(us++ds).length=ps.length->BindsTo s fd ⟨us,[]⟩ (ps.zip (us++ds))
variable {ps:p3}
theorem ax.all {fd:qo}(h:∀us:List Value,us.length=ps.length->bindArgs fd ⟨us,[]⟩=pure (ps.zip us)):ax K fd ps []:=λs us _ hl=>by
 rw[xY] at hl |-;exact .of_eq (h us hl)
def eP (CX:rS)(X:Cx)(E:XK):Prop:=∀(pins:List (Addr×Obj))(σ:St)(H:Hp)(s:AL)(e:Value)(s':AL),Inv X pins σ H s->CX X.stack H s E e s'->X.xe e s'
section
variable {X:Cx}{CX:rS}{k:Nat}{f C:Addr}{fd:qo}{ps:p3}{sp:Sp}{dvs:List V}{ds:yX}{E:XK}{x m:Str}{p pos apos:Pos}{e o:Expr}{es:vH}{ta:TE}{t:TA}
theorem oR {us:yX}{vs:List V}(F:zG X.prog X.w X.K X.mg X.base CX k f fd ps sp)(hr:A8 k X.A)(hb:ax X.K fd ps ds)(hd:aR dvs ds)(hx:eP CX X E)
 (I:Inv X pins σ H s)(r:aR vs us)(h:sp (vs++dvs) H Q E):wpAny (model X.prog X.w) X.A (call (.ref f) us) (EP X pins σ Q) X.xe s:=by
 have r2:aR (vs++dvs) (us++ds):=r.append hd
 have hl:(us++ds).length=ps.length:=by rw[<-r2.length];exact F.len _ _ _ _ h
 refine sQ (AK (F.run X.A X.stack s H ⟨us,[]⟩ (us++ds) (vs++dvs) Q E hr I.ai7 (hb s us I.kIn hl) r2 h) λr s' hq=>?_)
 cases r with
 |error e=>exact hx pins σ H s e s' I hq
 |ok fl =>
  cases fl with
  |ret u=>exact I.after hq
  |next=>exact False.elim hq
  |brk=>exact False.elim hq
  |cont=>exact False.elim hq
theorem ay (F:zG X.prog X.w X.K X.mg X.base CX k f fd ps sp)(hr:A8 k X.A)(hg:Gl X x)(hm:X.mg x=some (.ref f))(hk:PySem.W.keepIn X.K (.ref f)=true)(hb:ax X.K fd ps ds)(hd:aR dvs ds)(hx:eP CX X E)
 (ha:PA X (e::es) t)(N2:(x==("__debug__":Str))=false:=by decide)(he:starEach (e::es) X.env=(false,eval e X.env):: starEach es X.env:=by rfl)(K2:(backTo pos (starEach es X.env)).any (·.1)=false:=by rfl):
 PE X (.Call (.Name x p) (e::es) [] pos) (agO sp dvs E t):=by
 intro pins s σ H Q I h;refine vU (iM I hg hm ?_ N2);refine vB (h₀:=X.base) I.ok.mod.kin hk (bO (ha pos pins s σ H _ I h) λus s1 ⟨vs,H1,I1,r,q⟩=>⟨I1.kIn,?_⟩) he K2;exact oR F hr hb hd hx I1 r q
theorem bH (he:PE X o ta)(c:Gb X.K C)(hm:Meth X.K C m f)(F:zG X.prog X.w X.K X.mg X.base CX k f fd ps sp)(hr:A8 k X.A)(hb:ax X.K fd ps ds)(hd:aR dvs ds)(hx:eP CX X E)(ha:PA X (e::es) t)
 (Qg:starEach (e::es) X.env=(false,eval e X.env):: starEach es X.env:=by rfl)(K2:(backTo pos (starEach es X.env)).any (·.1)=false:=by rfl)
 (ht:eval (.Call (.Attribute o m apos) (e::es) [] pos) X.env=(do
  let ov <-eval o X.env
  standAt apos.atName
  let(f,first) <-holding [ov] (getMethod ov m pl)
  callWith pos f first (backTo pos (starEach (e::es) X.env)) (backToKw pos (keywordEach [] X.env))):=by rfl):
 PE X (.Call (.Attribute o m apos) (e::es) [] pos) (Cc C m sp dvs E ta t):=by
 intro pins s σ H Q I h;refine PySem.W.methodCall_KW (pl:=pl) (bO (he pins s σ H _ I h) λu s1 z'=>?_) ht;obtain⟨x,H1,I1,rx,a,dx,fs,ex,ea,l,q⟩:=z';subst ex;obtain rfl:u=Value.ref a:=rx;refine j3 I1 ea c hm l ?_;refine vB (first:=[.ref a]) (h₀:=X.base) I.ok.mod.kin hm.kp (bO (ha pos pins s1 σ H1 _ I1 q) λus s2 ⟨vs,H2,I2,r,q2⟩=>⟨I2.kIn,?_⟩) Qg K2;exact oR (us:=.ref a::us) (vs:=.ref a::vs) F hr hb hd hx I2 (.cons rfl r) q2
theorem cj (he:PE X o ta)(c:Gb X.K C)(hm:Meth X.K C m f)(F:zG X.prog X.w X.K X.mg X.base CX k f fd ps sp)(hr:A8 k X.A)(hb:ax X.K fd ps ds)(hd:aR dvs ds)(hx:eP CX X E)
 (ht:eval (.Call (.Attribute o m apos) [] [] pos) X.env=(do
  let ov <-eval o X.env
  standAt apos.atName
  let(f,first) <-holding [ov] (getMethod ov m pl)
  callWith pos f first (backTo pos (starEach [] X.env)) (backToKw pos (keywordEach [] X.env))):=by rfl):
 PE X (.Call (.Attribute o m apos) [] [] pos) (Cc C m sp dvs E ta HS):=by
 intro pins s σ H Q I h;refine PySem.W.methodCall_KW (pl:=pl) (bO (he pins s σ H _ I h) λu s1 z'=>?_) ht;obtain⟨x,H1,I1,rx,a,dx,fs,ex,ea,l,q⟩:=z';subst ex;obtain rfl:u=Value.ref a:=rx;refine j3 I1 ea c hm l ?_;exact PySem.W.callWith_K0 (first:=[.ref a]) I1.kIn hm.kp (oR (us:=[.ref a]) (vs:=[.ref a]) F hr hb hd hx I1 (.cons rfl .nil) q)
structure Mk (K:PySem.W.Frag)(C f:Addr):Prop where
 makes:PySem.W.makesIn K C=true
 init:PySem.W.findIn K (.ref C) "__init__"=some (some (.ref f))
 fn:PySem.W.isFn K (.ref f)=true
 kp:PySem.W.keepIn K (.ref C)=true
theorem aaR {vs:List V}(M:Mk X.K C f)(F:zG X.prog X.w X.K X.mg X.base CX k f fd ps sp)(hr:A8 (k+1) X.A)(hb:ax X.K fd ps ds)(hd:aR dvs ds)
 (hx:eP CX X E)(I:Inv X pins σ H s)(r:aR vs us)
 (h:∀x dx,H x=none->H dx=none->dx≠x->sp (.ref x::(vs++dvs)) (upd (upd H dx (.own x)) x (.ins C dx [])) (λv H2=>v=.non/\Q (.ref x) H2) E):
 wpAny (model X.prog X.w) X.A (call (.ref C) us) (EP X pins σ Q) X.xe s:=by
 have hq:=h (s.heap.objs.size+1) s.heap.objs.size (I.hok.fresh (jL _)) (I.hok.fresh (zC _)) (Ie (xO _));have I2:=Inv.made (C:=C) I;have r2:aR (V.ref (s.heap.objs.size+1):: (vs++dvs)) (Value.ref (s.heap.objs.size+1):: (us++ds)):=.cons rfl (r.append hd)
 have hl:(Value.ref (s.heap.objs.size+1):: us++ds).length=ps.length:=by
  have e:=r2.length;rw[F.len _ _ _ _ hq] at e;exact e.symm
 refine sQ (aaD (f:=f) I.kIn M.makes M.init (y7.mp M.fn) (AK (F.run _ X.stack _ _ ⟨Value.ref (s.heap.objs.size+1):: us,[]⟩ (Value.ref (s.heap.objs.size+1):: (us++ds)) _ _ E (hr.make C us [])
  (I2.ai7.make C us []) (hb _ (Value.ref (s.heap.objs.size+1):: us) I2.kIn hl) r2 hq) λr s' Qj=>?_))
 cases r with
 |error e=>exact hx pins σ _ _ e s' I2 Qj
 |ok fl =>
  cases fl with
  |ret u =>
   obtain⟨v,H',I3,rv,ev,q3⟩:=I2.after Qj;subst ev;exact⟨rv,⟨V.ref (s.heap.objs.size+1),H',I3,rfl,q3⟩⟩
  |next=>exact False.elim Qj
  |brk=>exact False.elim Qj
  |cont=>exact False.elim Qj
theorem eX (M:Mk X.K C f)(F:zG X.prog X.w X.K X.mg X.base CX k f fd ps sp)(hr:A8 (k+1) X.A)(hg:Gl X x)(hm:X.mg x=some (.ref C))(hb:ax X.K fd ps ds)(hd:aR dvs ds)(hx:eP CX X E)
 (ha:PA X (e::es) t)(N2:(x==("__debug__":Str))=false:=by decide)(he:starEach (e::es) X.env=(false,eval e X.env):: starEach es X.env:=by rfl)(K2:(backTo pos (starEach es X.env)).any (·.1)=false:=by rfl):
 PE X (.Call (.Name x p) (e::es) [] pos) (agC C sp dvs E t):=by
 intro pins s σ H Q I h;refine vU (iM I hg hm ?_ N2);refine vB (h₀:=X.base) I.ok.mod.kin M.kp (bO (ha pos pins s σ H _ I h) λus s1 ⟨vs,H1,I1,r,q⟩=>⟨I1.kIn,?_⟩) he K2;exact aaR M F hr hb hd hx I1 r q
end
def PK (X:Cx)(Qk:List Keyword)(t:TA):Prop :=
 ∀(pos:Pos)(pins:List (Addr×Obj))(s:AL)(σ:St)(H:Hp)(Q:List V->Hp->Prop),Inv X pins σ H s->t σ H Q->wpAny (model X.prog X.w) X.A (evalAll ((backToKw pos (keywordEach Qk X.env)).map (·.2))) (AP X pins σ Q) X.xe s
section
variable {X:Cx}{CX:rS}{k:Nat}{f C:Addr}{fd:qo}{ps ks:p3}{sp:Sp}{E:XK}{x m:Str}{p pos apos kpos:Pos}{e o:Expr}{es:vH}{Qk:List Keyword}{te ta:TE}{t tk:TA}{nm:Option Str}
theorem acD:PK X [] HS:=λ_ _ _ _ H Q I h=>wpAny_evalAll_nil ⟨[],H,I,.nil,h⟩
theorem aav (ha:PE X e te)(hr:PK X Qk t):PK X (⟨nm,e,kpos⟩::Qk) (en te t):=by
 intro pos pins s σ H Q I h;show wpAny _ _ (evalAll ((do let v <-eval e X.env;standAt pos;pure v):: (backToKw pos (keywordEach Qk X.env)).map (·.2))) _ _ s;refine wpAny_evalAll_cons (C7 (bO (ha pins s σ H _ I h) λu s1 ⟨x,H1,I1,r1,q1⟩=>C7 (vy (pO ?_))));exact bO (hr pos pins s1 σ H1 _ I1 q1) λus s2 ⟨xs,H2,I2,r2,q2⟩=>⟨x::xs,H2,I2,.cons r1 r2,q2⟩
variable {g:List Value->List Value->List Value}{gV:List V->List V->List V}
end
structure DK (N P:p3)(sc:Scope):Prop where
 kind:sc.kind=.function
 co:sc.isCoroutine=false
 gen:sc.isGenerator=false
 nd:N.Nodup
 pre:N.take P.length=P
 par:∀x∈P,sc.names.lookup x=some .local\/sc.names.lookup x=some .cell
 ajQ:∀y∈sc.names,y.2≠.free
theorem c9 {P:p3}{sc:Scope}(h:sc.kind=.function/\sc.isCoroutine=false/\sc.isGenerator=false/\N.Nodup/\N.take P.length=P/\(∀x∈P,sc.names.lookup x=some .local\/sc.names.lookup x=some .cell)/\∀y∈sc.names,y.2≠.free):DK N P sc:=⟨h.1,h.2.1,h.2.2.1,h.2.2.2.1,h.2.2.2.2.1,h.2.2.2.2.2.1,h.2.2.2.2.2.2⟩
variable {kindOf:Str->Option NameKind}
theorem nj :∀{binds:List (Str×Value)}{m:xk},(∀v,(x,v)∉binds)->bindL kindOf binds m x=m x
 |[],_,_=>rfl
 |(n,v):: r,m,h=>by
  unfold bindL;rw[nj λw hw=>h w (Er _ hw)]
  split
  ·have:x≠n:=by rintro rfl;exact h v Ij
   simp[this]
  ·rfl
theorem n9 :∀{binds:List (Str×Value)}{m:xk},(∀v,(x,v)∉binds)->bindC kindOf binds m x=m x
 |[],_,_=>rfl
 |(n,v):: r,m,h=>by
  unfold bindC;rw[n9 λw hw=>h w (Er _ hw)]
  split
  ·rfl
  ·have:x≠n:=by rintro rfl;exact h v Ij
   simp[this]
theorem nY {v:Value}:∀{P:p3}{vs:yX}{i:Nat}{m:xk},P.Nodup->P[i]?=some x->vs[i]?=some v->kindOf x=some .local →
 bindL kindOf (P.zip vs) m x=some v
 |[],_,_,_,_,h,_,_=>by simp at h
 |_::_,[],_,_,_,_,h,_=>by simp at h
 |p::P,w::vs,0,m,nd,h1,h2,hk=>by
  simp at h1 h2;subst h1;subst h2;show bindL kindOf ((p,w):: P.zip vs) m p=_;unfold bindL;rw[nj λv hv=>(zJ.mp nd).1 (BJ hv).1,zj hk];simp
 |p::P,w::vs,i+1,m,nd,h1,h2,hk=>by
  show bindL kindOf ((p,w):: P.zip vs) m x=_;unfold bindL;exact nY (i:=i) (zJ.mp nd).2 (by simpa using h1) (by simpa using h2) hk
theorem n4 {v:Value}:∀{P:p3}{vs:yX}{i:Nat}{m:xk},P.Nodup->P[i]?=some x->vs[i]?=some v->kindOf x≠some .local →
 bindC kindOf (P.zip vs) m x=some v
 |[],_,_,_,_,h,_,_=>by simp at h
 |_::_,[],_,_,_,_,h,_=>by simp at h
 |p::P,w::vs,0,m,nd,h1,h2,hk=>by
  simp at h1 h2;subst h1;subst h2;show bindC kindOf ((p,w):: P.zip vs) m p=_;unfold bindC;rw[n9 λv hv=>(zJ.mp nd).1 (BJ hv).1,qM hk];simp
 |p::P,w::vs,i+1,m,nd,h1,h2,hk=>by
  show bindC kindOf ((p,w):: P.zip vs) m x=_;unfold bindC;exact n4 (i:=i) (zJ.mp nd).2 (by simpa using h1) (by simpa using h2) hk
def ie (N:p3)(vs:List V):St:=vs.map some++List.replicate (N.length-vs.length) none
def hZ (CX:rS)(P:Iy)(w:World)(K:PySem.W.Frag)(mg:xk)(base:Heap)(N:p3)(qual:Str)(scope:Scope)(f:Addr)(cd:Value)(A:Around)(outer:List Env)(s:AL)(H:Hp)(E:XK):Cx where
 prog:=P
 w:=w
 K:=K
 mg:=mg
 base:=base
 A:=A.deeper (envOfC qual scope s.heap.objs.size f cd)
 N:=N
 s₀:=s
 H₀:=H
 env:=envOfC qual scope s.heap.objs.size f cd
 outer:=outer
 stack:=envOfC qual scope s.heap.objs.size f cd::outer
 ex:=[]
 calm:=true
 fn:=λ_=>true
 pn:=[]
 xe:=λe s'=>wpAny (model P w) (A.deeper (envOfC qual scope s.heap.objs.size f cd)) (leaving (envOfC qual scope s.heap.objs.size f cd) e) (λ_ VZ=>CX outer H s E e VZ) (λe' VZ=>CX outer H s E e' VZ) s'
theorem pZ {sc:Scope}{n:Nat}(h:sc.names.lookup x=some .cell):∃c,(cellsFrom n sc.names []).lookup x=some c:=by
 have q:=PySem.W.cellsFrom_some sc.names n [] (.inl h);exact Option.isSome_iff_exists.mp q
theorem abP {CX:rS}{qual:Str}{scope:Scope}{f:Addr}{cd:Value}{s1:AL}{E:XK}{vs:List V}
 (S:DK N ps scope)(hd:A.handled=none)(e0:oB P w K mg base A outer s H)(hl:vs.length=ps.length)(r:aR vs us)
 (x:InCallC s s.heap.objs.size (bindL (envOfC qual scope s.heap.objs.size f cd).kindOf (ps.zip us) λ_=>none) (cellsFrom (s.heap.objs.size+1) scope.names []) (bindC (envOfC qual scope s.heap.objs.size f cd).kindOf (ps.zip us) λ_=>none) s1):
 Inv (hZ CX P w K mg base N qual scope f cd A outer s H E) [] (ie N vs) H s1:=by
 have K2:ps.length<=N.length:=by have:=Hh List.length S.pre;rw[rh] at this;omega
 obtain⟨h1,tk,rfl,hk⟩:=x.done;have Ql:∀b:Addr,b∉(hZ CX P w K mg base N qual scope f cd A outer s H E).ex:=λb z=>absurd (show b∈([]:List Addr) from z) (by simp)
 refine⟨⟨e0.mod,S.kind,rfl,rfl,zC _,λy z c h1 h2=>?_,λy hy=>?_,λy c _ h=>?_,λ_=>hd,Around.frames_deeper e0.frames,.inr ⟨rfl,rfl⟩,λb z=>absurd z (Ql b),e0.bs,e0.bsz,λb _ _=>Ql b,λb z=>absurd z (Ql b),e0.agY,e0.frf⟩,
  rfl,e0.bare,Un.kept hk,⟨_,x.toInCall.ns,λi y v h1 h2 h3=>?_⟩,λy c h=>⟨_,x.cell y c h⟩,e0.hok.fresh (zC _),λy c h=>?_,λp hp=>absurd (show p∈([]:List (Addr×Obj)) from hp) (by simp),e0.hok.kept hk,?_⟩
 ·exact name_of_addr x.apart (G9 h1) (G9 h2)
 ·have hy:scope.names.lookup y=some .cell\/scope.names.lookup y=some .free:=hy
  rcases hy with hy|hy
  ·exact pZ hy
  ·exact absurd rfl (S.ajQ _ (G9 hy))
 ·exact xa (x.above y c (G9 h))
 ·have hi:i<vs.length:=by
   unfold ie at h2
   by_cases hi:i<vs.length
   ·exact hi
   ·rw[rE (by simpa using hi)] at h2;rw[List.getElem?_replicate] at h2
    split at h2 <;> cases h2
  have ha:vs[i]?=some v:=by
   unfold ie at h2;rw[vO (by simpa using hi),wN] at h2
   cases e:vs[i]? with
   |none=>rw[e] at h2;cases h2
   |some a=>rw[e] at h2;cases h2;rfl
  obtain⟨u,hu,rv⟩:=r.get ha
  have hp:ps[i]?=some y:=by
   rw[<-S.pre,Af (by omega)];exact h1
  have ZI:ps.Nodup:=by rw[<-S.pre];exact S.nd.sublist (List.take_sublist _ _)
  refine⟨u,rv,?_⟩
  rcases S.par y (v5 hp) with k|k
  ·exact .inl ⟨k,nY ZI hp hu k⟩
  ·obtain⟨c,e⟩:=pZ (n:=s.heap.objs.size+1) k;refine .inr ⟨.inl k,c,e,?_⟩;have q:=x.cell y c e;rw[n4 ZI hp hu (by show scope.names.lookup y≠_;rw[k];decide)] at q;exact q
 ·exact e0.hok.fresh (xa (x.above y c (G9 h)))
 ·unfold ie;show _=N.length;rw[tE,vW,wj];omega
theorem yr {CX:rS}{f:Addr}{name qual:Str}{params:Arguments}{body:Ek}{scope:Scope}{dV kV doc pm Jw ct oc:Value}{an od:rW}
 {JM:Hl}{sp:Sp}(lk:K.lookup f=some ⟨oc,od,.func (PySem.W.fnOf name qual params body scope dV kV doc pm an Jw ct),JM⟩)(Ka:PySem.W.codeIn K Jw qual=true)(S:DK N ps scope)
 (len:∀vs H Q E,sp vs H Q E->vs.length=ps.length)
 (Kc:∀(A:Around)(outer:List Env)(s:AL)(H:Hp)(vs:List V)(Q:VK)(E:XK),A8 k (A.deeper (envOfC qual scope s.heap.objs.size f Jw))->sp vs H Q E →
  ∃t,qO (hZ CX P w K mg base N qual scope f Jw A outer s H E) body t/\t {nx:=λ_ H'=>Q .non H',rt:=Q} (ie N vs) H):
 zG P w K mg base CX (k+1) f (PySem.W.fnOf name qual params body scope dV kV doc pm an Jw ct) ps sp:=by
 refine⟨len,λA outer s H args us vs Q E hr e0 hb r Lv=>?_⟩;have hl:=len _ _ _ _ Lv;have KX:K.In s.heap:=e0.mod.kin.keeps λb o e=>(e0.bs b o e).1;have lim:s.heap.NoLimit:=e0.mod.nolimit.keeps λb o e=>(e0.bs b o e).1
 have LA:∀y∈ps.zip us,scope.names.lookup y.1=some .local\/(scope.names.lookup y.1=some .cell/\((cellsFrom (s.heap.objs.size+1) scope.names []).lookup y.1).isSome=true):=λ⟨n,v⟩ hy=>by
  rcases S.par n (BJ hy).1 with q|q
  ·exact .inl q
  ·exact .inr ⟨q,PySem.W.cellsFrom_some _ _ _ (.inl q)⟩
 refine codeAny_call_function hr.depth (KX _ _ lk) rfl S.co S.gen rfl (PySem.W.codeRec_of KX Ka) (hb _ _ _ _ ?_);refine wpAny_newFunctionEnv_cells S.kind LA λenv he s1 x=>?_;subst he;refine⟨lim.keeps x.toInCall.keep,codeAny_func ?_⟩;obtain⟨t,ht,hq⟩:=Kc A outer s H vs Q E (hr.deeper _) Lv;have I:Inv (hZ CX P w K mg base N qual scope f Jw A outer s H E) [] (ie N vs) H s1:=abP S hr.hd e0 hl r x;refine vF (ht [] s1 (ie N vs) H _ I hq) (λfl s' hs=>?_) λe s' hs=>hs
 have fin:∀{σ':St}{H':Hp}{v:V}{u:Value},Inv (hZ CX P w K mg base N qual scope f Jw A outer s H E) [] σ' H' s'->aI v u->Q v H'->CE outer P w H s Q u s' :=
  λ{σ' H' v u} J rv q=>⟨v,H',J.os,J.bare,J.base,J.hok,rv,q⟩
 cases fl with
 |ret u =>
  obtain⟨v,σ',H',J,rv,q⟩:=hs;exact fin J rv q
 |next =>
  obtain⟨σ',H',J,q⟩:=hs;exact fin (v:=V.non) (u:=Value.none) J rfl q
 |brk =>
  obtain⟨_,_,_,q⟩:=hs;exact False.elim q
 |cont =>
  obtain⟨_,_,_,q⟩:=hs;exact False.elim q
section
variable {X:Cx}{x:Str}{p pos:Pos}{e:Expr}{es:vH}{t:TA}{id T:String}{r:List V->Hp->VK->Prop}
def GX (r:List V->Hp->VK->Prop)(t:TA):TE:=λσ H Q=>t σ H λvs H1=>r vs H1 Q
theorem aB (hc:fQ X (.builtin id) r)(hg:Gl X x)(hm:X.mg x=none)(hv:bootBuiltins x=some (.builtin id))(ha:PA X (e::es) t)(hn:x ≠ "__name__":=by decide)(N2:(x==("__debug__":Str))=false:=by decide)
 (he:starEach (e::es) X.env=(false,eval e X.env):: starEach es X.env:=by rfl)(K2:(backTo pos (starEach es X.env)).any (·.1)=false:=by rfl):PE X (.Call (.Name x p) (e::es) [] pos) (GX r t):=by
 intro pins s σ H Q I h;refine vU (dU I hg hm hv ?_ hn N2);exact PyProof.Rows.callWith_builtin1 (bO (ha pos pins s σ H _ I h) λus s1 ⟨vs,H1,I1,r1,q1⟩=>hc pins s1 σ H1 vs us Q I1 r1 q1) he K2
theorem cE (hc:fQ X (.type T) r)(hg:Gl X x)(hm:X.mg x=none)(hv:bootBuiltins x=some (.type T))(ha:PA X (e::es) t)(hn:x ≠ "__name__":=by decide)(N2:(x==("__debug__":Str))=false:=by decide)
 (he:starEach (e::es) X.env=(false,eval e X.env):: starEach es X.env:=by rfl)(K2:(backTo pos (starEach es X.env)).any (·.1)=false:=by rfl):PE X (.Call (.Name x p) (e::es) [] pos) (GX r t):=by
 intro pins s σ H Q I h;refine vU (dU I hg hm hv ?_ hn N2);exact CC (bO (ha pos pins s σ H _ I h) λus s1 ⟨vs,H1,I1,r1,q1⟩=>hc pins s1 σ H1 vs us Q I1 r1 q1) he K2
end
section
variable {κ:Type} [DecidableEq κ]
def ja (Jt:List (κ×V))(k:κ):Option V:=(Jt.find? λkv=>decide (kv.1=k)).map (·.2)
def fT (Jt:List (κ×V))(k:κ)(v:V):List (κ×V):=
 if(Jt.any λkv=>decide (kv.1=k))=true then Jt.map (λkv=>if kv.1=k then(kv.1,v) else kv) else Jt++[(k,v)]
theorem iS {p:κ×V}{r:List (κ×V)}{k:κ}(e:p.1=k):ja (p::r) k=some p.2:=by simp[ja,Al,e]
theorem gD {p:κ×V}{r:List (κ×V)}{k:κ}(e:¬p.1=k):ja (p::r) k=ja r k:=by simp[ja,Al,e]
theorem lX (k:κ):∀Jt:List (κ×V),(Jt.any λkv=>decide (kv.1=k))=(ja Jt k).isSome
 |[]=>rfl
 |p::r=>by
  rw[HV]
  by_cases e:p.1=k
  ·simp only[iS e,sG e,Bool.true_or,Option.isSome_some]
  ·rw[gD e,Fx e,Bool.false_or];exact lX k r
theorem jG (Jt:List (κ×V))(k:κ)(v:V):(fT Jt k v).length<=Jt.length+1:=by
 unfold fT
 split
 ·rw[vW];omega
 ·rw[tE,wF,Au];omega
theorem gs.ahc {o:Option V}{u:BE}(r:gs o u):o.isSome=u.isSome:=by
 cases o with
 |none=>cases u with
  |none=>rfl
  |some _=>exact(show False from r).elim
 |some _=>cases u with
  |none=>exact(show False from r).elim
  |some _=>rfl
theorem gs.getD {o:Option V}{u:BE}{d:V}{d':Value}(r:gs o u)(rd:aI d d'):aI (o.getD d) (u.getD d'):=by
 cases o with
 |none=>cases u with
  |none=>exact rd
  |some _=>exact(show False from r).elim
 |some _=>cases u with
  |none=>exact(show False from r).elim
  |some _=>exact r
theorem KV.val {Jt:List (κ×V)}{vs:List (κ×Value)}(r:KV Jt vs)(k:κ):gs (ja Jt k) (valueAt vs k):=by
 unfold KV at r
 induction r with
 |nil=>exact True.intro
 |@cons p q ps qs h t ih =>
  obtain⟨h1,h2⟩:=h
  by_cases e:p.1=k
  ·have e':q.1=k:=h1.symm.trans e
   have b:valueAt (q::qs) k=some q.2:=by simp[valueAt,Al,e']
   rw[iS e,b];exact h2
  ·have e':¬q.1=k:=λz=>e (h1.trans z)
   have b:valueAt (q::qs) k=valueAt qs k:=by simp[valueAt,Al,e']
   rw[gD e,b];exact ih
theorem KV.any {Jt:List (κ×V)}{vs:List (κ×Value)}(r:KV Jt vs)(k:κ):(Jt.any λkv=>decide (kv.1=k))=vs.any λkv=>decide (kv.1=k):=by
 unfold KV at r
 induction r with
 |nil=>rfl
 |cons h t ih=>rw[HV,HV,ih,h.1]
theorem KV.ajR {Jt:List (κ×V)}{vs:List (κ×Value)}(r:KV Jt vs)(k:κ)(ry:aI y u):
 KV (Jt.map λkv=>if kv.1=k then(kv.1,y) else kv) (vs.map λkv=>if kv.1=k then(kv.1,u) else kv):=by
 unfold KV at r |-
 induction r with
 |nil=>exact .nil
 |@cons p q ps qs h t ih =>
  rw[Jr,Jr];refine .cons ?_ ih;obtain⟨h1,h2⟩:=h
  by_cases e:p.1=k
  ·rw[zj e,zj (h1.symm.trans e)];exact⟨h1,ry⟩
  ·rw[qM e,qM (λz=>e (h1.trans z))];exact⟨h1,h2⟩
theorem KV.put {Jt:List (κ×V)}{vs:List (κ×Value)}(r:KV Jt vs)(k:κ)(ry:aI y u):KV (fT Jt k y) (stored vs k u):=by
 unfold fT stored;rw[r.any k]
 by_cases e:(vs.any λkv=>decide (kv.1=k))=true
 ·rw[zj e,zj e];exact r.ajR k ry
 ·rw[qM e,qM e];exact mx r ⟨rfl,ry⟩
theorem KV.length {Jt:List (κ×V)}{vs:List (κ×Value)}(r:KV Jt vs):Jt.length=vs.length:=Bh r
end
theorem qm {k:Key}(r:aI (kV k) u):(b7 P w).is k u=true:=by
 cases k with
 |inl i=>obtain⟨t,e⟩:=(show ∃t,u=Value.int i t from r);subst e;exact afp P w i t
 |inr x=>obtain⟨t,e⟩:=(show ∃t,u=Value.str x t from r);subst e;exact afy P w x t
theorem nR :∀{ks:List Key}{us:yX},aR (ks.map kV) us->ItemsAre (b7 P w) ks us
 |[],_,r=>by rw[List.map_nil] at r;cases r;exact .nil
 |k::ks,_,r=>by
  rw[Jr] at r
  cases r with
  |cons h t=>exact .cons (qm h) (nR t)
abbrev KT (H:Hp):List (List Key×V)->List (List Key×Addr×Value)->Prop:=Paired λp q=>p.1=q.1/\H q.2.1=some (.tup (p.1.map kV))/\aI p.2 q.2.2
variable {Jt:List (List Key×V)}{xs:List (List Key×Addr×Value)}
theorem KT.val (r:KT H Jt xs)(k:List Key):gs (ja Jt k) ((atKey xs k).map (·.2)):=by
 induction r with
 |nil=>exact True.intro
 |@cons p q ps qs h t ih =>
  obtain⟨h1,_,h2⟩:=h
  by_cases e:p.1=k
  ·have e':q.1=k:=h1.symm.trans e
   have b:atKey (q::qs) k=some q.2:=by simp[atKey,Al,e']
   rw[iS e,b];exact h2
  ·have e':¬q.1=k:=λz=>e (h1.trans z)
   have b:atKey (q::qs) k=atKey qs k:=by simp[atKey,Al,e']
   rw[gD e,b];exact ih
theorem KT.ajR (r:KT H Jt xs)(k:List Key)(ry:aI y u):
 KT H (Jt.map λkv=>if kv.1=k then(kv.1,y) else kv) (xs.map (putAt k u)):=by
 induction r with
 |nil=>exact .nil
 |@cons p q ps qs h t ih =>
  rw[Jr,Jr];refine .cons ?_ ih;obtain⟨h1,h2,h3⟩:=h;unfold putAt
  by_cases e:p.1=k
  ·rw[zj e,zj (h1.symm.trans e)];exact⟨h1,h2,ry⟩
  ·rw[qM e,qM (λz=>e (h1.trans z))];exact⟨h1,h2,h3⟩
theorem KT.put (r:KT H Jt xs)(k:List Key)(hb:H b=some (.tup (k.map kV)))(ry:aI y u):
 KT H (fT Jt k y) (storedH xs k b u):=by
 have e:(Jt.any λkv=>decide (kv.1=k))=(atKey xs k).isSome:=by
  rw[lX,(r.val k).ahc,Option.isSome_map]
 unfold fT storedH;rw[e]
 by_cases q:(atKey xs k).isSome=true
 ·rw[zj q,zj q];exact r.ajR k ry
 ·rw[qM q,qM q];exact mx r ⟨rfl,hb,ry⟩
theorem KT.keeps (r:KT H Jt xs)(ht:∀b ys,H b=some (.tup ys)->H' b=some (.tup ys)):KT H' Jt xs :=
 Paired.agP r λ_ _ z=>⟨z.1,ht _ _ z.2.1,z.2.2⟩
section
variable {P:Iy}{w:World}{H:Hp}{h:Heap}{a:Addr}
theorem BZ {u:HO}(ok:gB P w H h)(e:Rd H a u):bJ P w H h a u:=e.ok ok
theorem ng {Jt:List (Key×V)}(ok:gB P w H h)(e:Rd H a (.dK Jt)):Jt.length<=sizeLine/\(a==sysModules)=false/\∃vs,KV Jt vs/\h.DictOf (b7 P w) a vs :=
 show bJ P w H h a (.dK Jt) from BZ ok e
theorem agE {Jt:List (Key×V)}(ok:gB P w H h)(e:H a=some (.dK Jt)):Jt.length<=sizeLine/\(a==sysModules)=false/\∃vs,KV Jt vs/\h.DictOf (b7 P w) a vs:=ng ok (.inl e)
theorem j4 {ks:List Key}(ok:gB P w H h)(e:H a=some (.tup (ks.map kV))):(tupleKind (b7 P w)).is h ks a:=by
 obtain⟨_,its,r,o,h1,h2,n,h3⟩:=(show bJ P w H h a (.tup (ks.map kV)) from ok a _ e);exact⟨o,its.toArray,n,h1,h2,h3,by simpa using nR r⟩
theorem nO (ok:gB P w H h)(e:Rd H a (.dT Jt)):Jt.length<=sizeLine/\(a==sysModules)=false /\
 ∃xs,KT H Jt xs/\h.DictOfH (tupleKind (b7 P w)) a xs:=by
 obtain⟨z,y,xs,r,o,es,ep,h1,h2,h3,h4,h5⟩:=(show bJ P w H h a (.dT Jt) from BZ ok e);refine⟨z,y,xs,r,o,es,ep,h1,h2,h3,h4,λx hx=>?_,h5⟩
 have all:∀{l:List (List Key×V)}{m:List (List Key×Addr×Value)},KT H l m->∀x∈m,(tupleKind (b7 P w)).is h x.1 x.2.1:=by
  intro l m q
  induction q with
  |nil=>intro x hx;exact nomatch hx
  |@cons p q ps qs hq t ih =>
   intro x hx
   rcases BN.mp hx with e|hx
   ·subst e;exact j4 ok (by rw[<-hq.1];exact hq.2.1)
   ·exact ih x hx
 exact all r x hx
theorem aaV (ok:gB P w H h)(e:H a=some (.dT Jt)):Jt.length<=sizeLine/\(a==sysModules)=false /\
 ∃xs,KT H Jt xs/\h.DictOfH (tupleKind (b7 P w)) a xs:=nO ok (.inl e)
end
def jh (H:Hp)(a:Addr)(y:V)(r:Option V):Prop :=
 (∃Jt k,Rd H a (.dK Jt)/\y=kV k/\r=ja Jt k)\/∃Jt k b,Rd H a (.dT Jt)/\y=.ref b/\H b=some (.tup (k.map kV))/\r=ja Jt k
def qX (H:Hp)(a:Addr)(y v:V)(H':Hp):Prop :=
 (∃Jt k,H a=some (.dK Jt)/\y=kV k/\Jt.length<sizeLine/\H'=upd H a (.dK (fT Jt k v))) \/
 ∃Jt k b,H a=some (.dT Jt)/\y=.ref b/\H b=some (.tup (k.map kV))/\Jt.length<sizeLine/\H'=upd H a (.dT (fT Jt k v))
theorem jh.t {b:Addr}{k:List Key}(e:H a=some (.dT Jt))(eb:H b=some (.tup (k.map kV))):jh H a (.ref b) (ja Jt k):=.inr ⟨Jt,k,b,.inl e,rfl,eb,rfl⟩
theorem qX.t {b:Addr}{k:List Key}{v:V}(e:H a=some (.dT Jt))(eb:H b=some (.tup (k.map kV)))(hl:Jt.length<sizeLine):
 qX H a (.ref b) v (upd H a (.dT (fT Jt k v))):=.inr ⟨Jt,k,b,e,rfl,eb,hl,rfl⟩
section
variable {X:Cx}{pins:List (Addr×Obj)}{σ:St}{H:Hp}{s:AL}{a:Addr}{y v:V}{u r:Value}{o:Option V}{A:Around}{E:Bf}
theorem Inv.big (I:Inv X pins σ H s):sysModules<s.heap.objs.size:=by
 have h:mainGlobals<s.heap.objs.size:=(I.mod.glob.keeps I.bk).lt;exact wG (by decide) h
theorem aaY {Q:Bf}(hu:A.units+1<cLine)(I:Inv X pins σ H s)(g:jh H a y (some v))(ry:aI y u)(h:∀w' s',Inv X pins σ H s'->aI v w'->Q w' s'):
 wpAny (model X.prog X.w) A (getItem (.ref a) u) Q E s:=by
 rcases g with⟨Jt,k,e,ey,l⟩|⟨Jt,k,b,e,ey,eb,l⟩
 ·subst ey;obtain⟨z,hd,vs,rel,dd⟩:=ng I.hok e;obtain⟨w',hw,J5⟩:=gs.some_of (v:=v) (o:=valueAt vs k) (by rw[l];exact rel.val k);exact wpAny_getItem_of (qm ry) dd.mapOf hw (h w' _ (I.tok _) J5)
 ·subst ey
  cases(show u=Value.ref b from ry)
  obtain⟨z,hd,xs,rel,dd⟩:=nO I.hok e;obtain⟨w',hw,J5⟩:=gs.some_of (v:=v) (o:=(atKey xs k).map (·.2)) (by rw[l];exact rel.val k);obtain⟨p,hp,PB⟩:=CU.mp hw;refine wpAny_getItem_heap (y8 hu) (j4 I.hok eb) dd hp ?_;rw[PB];exact h w' _ (I.tok _) J5
theorem agZ {Q:Bf}(hu:A.units+1<cLine)(I:Inv X pins σ H s)(g:jh H a y o)(ry:aI y u)(h:∀s',Inv X pins σ H s'->Q (.bool o.isSome) s'):
 wpAny (model X.prog X.w) A (compareOp .In u (.ref a)) Q E s:=by
 rcases g with⟨Jt,k,e,ey,l⟩|⟨Jt,k,b,e,ey,eb,l⟩
 ·subst ey;obtain⟨z,hd,vs,rel,dd⟩:=ng I.hok e;refine wpAny_in_of (qm ry) hd dd.mapOf ?_;rw[<-(rel.val k).ahc,<-l];exact h _ (I.tok _)
 ·subst ey
  cases(show u=Value.ref b from ry)
  obtain⟨z,hd,xs,rel,dd⟩:=nO I.hok e;refine wpAny_in_heap (y8 hu) (j4 I.hok eb) hd dd ?_;have q:=(rel.val k).ahc;rw[Option.isSome_map] at q;rw[<-q,<-l];exact h _ (I.tok _)
theorem uz {h':Heap}{t':Nat}{ob:HO}(I:Inv X pins σ H s)(mu:GC (H a))(hs:Heap.SameBut a s.heap h')(he:∃q,h'.get? a=some q)(new:bJ X.prog X.w (upd H a ob) h' a ob):
 Inv X pins σ (upd H a ob) {s with heap:=h',toks:=t'}:=
 I.write (x:=a) (e:=a) mu (.inl rfl) (λb q hb z=>(hs.2 b hb).trans z) he new
theorem ag0 {h':Heap}{Jt:List (Key×V)}{vs:List (Key×Value)}(z:Jt.length<=sizeLine)(hd:(a==sysModules)=false)(rel:KV Jt vs)(dd:h'.DictOf (b7 P w) a vs):
 bJ P w H' h' a (.dK Jt):=⟨z,hd,vs,rel,dd⟩
theorem agF {Q:Unit->Shared->Prop}(hu:A.units+1<cLine)(I:Inv X pins σ H s)(g:qX H a y v H')(ry:aI y u)(rv:aI v r)(h:∀s',Inv X pins σ H' s'->Q () s'):
 wpAny (model X.prog X.w) A (setItem (.ref a) u r) Q E s:=by
 rcases g with⟨Jt,k,e,ey,l,eH⟩|⟨Jt,k,b,e,ey,eb,l,eH⟩
 ·subst ey eH;obtain⟨z,hd,vs,rel,dd⟩:=agE I.hok e
  have hz:vs.length<=sizeLine:=by rw[<-rel.length];exact z
  have hl:(fT Jt k v).length<=sizeLine:=by have:=jG Jt k v;omega
  refine wpAny_setItem_pairs (hsz:=hz) (qm ry) dd λh' Vf hs=>h _ ?_;have he:∃q,h'.get? a=some q:=let⟨q,_,_,hq,_⟩:=Vf;⟨q,hq⟩;exact uz I (by rw[e];exact True.intro) hs he (ag0 hl hd (rel.put k rv) Vf)
 ·subst ey eH
  cases(show u=Value.ref b from ry)
  obtain⟨z,hd,xs,rel,dd⟩:=aaV I.hok e
  have hz:xs.length<=sizeLine:=by rw[<-Bh rel];exact z
  have hl:(fT Jt k v).length<=sizeLine:=by have:=jG Jt k v;omega
  refine wpAny_setItem_heap (hsz:=hz) (y8 hu) (j4 I.hok eb) dd λh' Vf hs=>h _ ?_;obtain⟨q,es,ep,hq,h2,h3,h4,_,h5⟩:=Vf;refine uz I (by rw[e];exact True.intro) hs ⟨q,hq⟩ ⟨hl,hd,_,(rel.put k eb rv).keeps λc ys ec=>?_,q,es,ep,hq,h2,h3,h4,h5⟩;rw[av (Ca ec e (λz=>nomatch z))];exact ec
end
def Fs (i:Expr):Prop:=∀ov iv,subscripted i false ov iv=operate [ov,iv] (getItem ov iv)
theorem ab1 {prog:Iy}{E:Bf}{env:Env}{value slice:Expr}{T id:String}{Q:Bf}
 (hl:typeLookup (.type T) "__getitem__"=pure (some (.builtin id)))(hs:Fs slice)
 (h:wpAny (model prog w) A (eval value env) (λo s₁=>wpAny (model prog w) A (eval slice env) (λi s₂=>s₂.TypeIs o T/\wpAny (model prog w) A (getItem o i) Q E s₂) E s₁) E s):
 wpAny (model prog w) A (eval (.Subscript value slice pos) env) Q E s:=by
 refine Subscript_ (vF h (λo s₁ h₁=>vF h₁ (λi s₂ h₂=>?_) λ_ _ x=>x) λ_ _ x=>x);obtain⟨hT,h₂⟩:=h₂;unfold subscriptTail;refine C7 ?_;rw[getitemInPython_of_ne hT.not_modules];refine C7 (wpAny_specialOf hT hl ?_)
 have fin:wpAny (model prog w) A (subscripted slice false o i) (λr s₃=>wpAny (model prog w) A (letTemporaryGo value o r>>=λ_=>pure r) Q E s₃) E s₂:=by
  rw[hs o i];exact wpAny_operating (vF h₂ (λr s₃ h₃=>C7 (wpAny_letTemporaryGo (pO h₃))) λ_ _ x=>x)
 first
  |exact pO (C7 fin)
  |exact C7 (pO (C7 fin))
  |exact C7 fin
theorem isI {o:Option V}(I:Inv X pins σ H s)(g:jh H a y o):s.TypeIs (.ref a) "dict":=by
 rcases g with⟨Jt,k,e,_,_⟩|⟨Jt,k,b,e,_,_,_⟩
 ·obtain⟨_,_,vs,_,dd⟩:=ng I.hok e;exact dd.typeIs
 ·obtain⟨_,_,xs,_,dd⟩:=nO I.hok e;exact dd.typeIs
def Cls (td ty:TE):TE:=λσ H Q=>td σ H λx H1=>ty σ H1 λy H2=>∃a v,x=.ref a/\jh H2 a y (some v)/\Q v H2
def ag2 (ty td:TE):TE:=λσ H Q=>ty σ H λy H1=>td σ H1 λx H2=>∃a o,x=.ref a/\jh H2 a y o/\Q (.bl o.isSome) H2
def aaK (td ty tv:TE):TS:=λD σ H=>tv σ H λv H1=>td σ H1 λx H2=>ty σ H2 λy H3=>∃a H4,x=.ref a/\qX H3 a y v H4/\D.nx σ H4
section
variable {X:Cx}{o i e value:Expr}{pos pos' VY:Pos}{td ty tv:TE}
theorem pb (hu:X.A.units+1<cLine)(ho:PE X o td)(hi:PE X i ty)(hs:Fs i):PE X (.Subscript o i pos) (Cls td ty):=by
 intro pins s σ H Q I h;refine ab1 PySem.F.slot_dict_getitem.lookup hs (bO (ho pins s σ H _ I h) λu s1 ⟨x,H1,I1,rx,q1⟩=>bO (hi pins s1 σ H1 _ I1 q1) λiv s2 z'=>?_);obtain⟨y,H2,I2,ry,a,v,ex,g,q2⟩:=z';subst ex;obtain rfl:u=Value.ref a:=rx;exact⟨isI I2 g,aaY hu I2 g ry λw' s3 I3 J5=>⟨v,H2,I3,J5,q2⟩⟩
theorem aaM (hu:X.A.units+1<cLine)(hi:PE X i ty)(ho:PE X o td):PC X .In i o (ag2 ty td):=by
 intro pins s σ H Q I h;refine bO (hi pins s σ H _ I h) λiv s1 ⟨y,H1,I1,ry,q1⟩=>bO (ho pins s1 σ H1 _ I1 q1) λu s2 z'=>?_;obtain⟨x,H2,I2,rx,a,ov,ex,g,q2⟩:=z';subst ex;obtain rfl:u=Value.ref a:=rx;exact agZ hu I2 g ry λs3 I3=>⟨.bl ov.isSome,H2,I3,rfl,q2⟩
theorem vj (hu:X.A.units+1<cLine)(ho:PE X o td)(hi:PE X i ty)(hv:PE X value tv)(hs:swapsWith value (some (.Subscript o i pos')) pos.line X.env=pure false):
 PS X (.Assign [.Subscript o i pos'] value pos) (aaK td ty tv):=by
 intro pins s σ H D I h;refine wpAny_Assign_Subscript (bO (hv pins s σ H _ I h) λr s1 ⟨v,H1,I1,rv,q1⟩=>bO (ho pins s1 σ H1 _ I1 q1) λu s2 ⟨x,H2,I2,rx,q2⟩=>bO (hi pins s2 σ H2 _ I2 q2) λiv s3 z'=>?_) hs;obtain⟨y,H3,I3,ry,a,H4,ex,g,q3⟩:=z';subst ex;obtain rfl:u=Value.ref a:=rx;exact agF hu I3 g ry rv λs4 I4=>⟨σ,H4,I4,q3⟩
end
theorem abJ (h:Heap)(hb:sysModules<h.objs.size):bJ P w H (h.push {cls:=.type "dict",data:=.dict #[]}) h.objs.size (.dT []):=
 ⟨Ag _,Hw.mpr (Jm (Ie hb)),[],.nil,_,#[],0,Hr _ rfl,⟨rfl,rfl,rfl⟩,rfl,rfl,Ea⟩
def ajS:TE:=λ_ H Q=>∀p,H p=none->Q (.ref p) (upd H p (.dT []))
section
variable {X:Cx}{pos:Pos}
theorem qr:PE X (.Dict [] [] pos) ajS:=λpins s σ H Q I h =>
 wpAny_Dict_empty ⟨.ref s.heap.objs.size,_,I.laid (a:=s.heap.objs.size) (o:=.dT []) (t':=s.toks) (λ_ _ q=>wa _ q) (zC _) (abJ s.heap I.big),rfl,h _ (I.hok.fresh (zC _))⟩
end
structure M2 (X:Cx)(o:Expr)(m:Str)(apos:Pos)(e f:Expr)(JG:Pos):Prop where
 base:attributeBase o m X.env (eval o X.env)=eval o X.env
 few:((backTo JG (starEach [e,f] X.env)).all (λx=>!x.1)&&(backToKw JG (keywordEach [] X.env)).all (λx=>x.1.isSome)
  && decide (([e,f]:vH).length+([]:List Keyword).length+(if([]:List Keyword).isEmpty then 0 else 1)<30))=true
 line:(apos.endLine==JG.line)=true
 trees:backTo JG (starEach [e,f] X.env)=[(false,eval e X.env),(false,eval f X.env)]
def IW (H:Hp)(a:Addr):Prop:=(∃Jt,Rd H a (.dK Jt))\/∃Jt,Rd H a (.dT Jt)
theorem Do (I:Inv X pins σ H s)(d:IW H a):
 s.TypeIs (.ref a) "dict"/\(∀b,Value.ref a=.ref b->∃ob,s.heap.get? b=some ob/\ob.dict=none)/\(a==sysModules)=false:=by
 rcases d with⟨Jt,e⟩|⟨Jt,e⟩
 ·obtain⟨_,hd,vs,_,dd⟩:=ng I.hok e;refine⟨dd.typeIs,λb q=>?_,hd⟩
  cases q
  obtain⟨ob,_,_,h1,h2,_⟩:=dd;exact⟨ob,h1,h2.2.1⟩
 ·obtain⟨_,hd,xs,_,dd⟩:=nO I.hok e;refine⟨dd.typeIs,λb q=>?_,hd⟩
  cases q
  obtain⟨ob,_,_,h1,h2,_⟩:=dd;exact⟨ob,h1,h2.2.1⟩
section
variable {X:Cx}{pins:List (Addr×Obj)}{σ:St}{H:Hp}{s:AL}{a:Addr}{y d:V}{u r:Value}{o:Option V}{A:Around}{E:Bf}
theorem abT {Q:Bf}(hu:A.units+1<cLine)(I:Inv X pins σ H s)(g:jh H a y o)(ry:aI y u)(rd:aI d r)(h:∀w' s',Inv X pins σ H s'->aI (o.getD d) w'->Q w' s'):
 wpAny (model X.prog X.w) A (call (.builtin "dict.get") [.ref a,u,r]) Q E s:=by
 rcases g with⟨Jt,k,e,ey,l⟩|⟨Jt,k,b,e,ey,eb,l⟩
 ·subst ey;obtain⟨z,hd,vs,rel,dd⟩:=ng I.hok e;refine call_meetsIn DM dd.typeIs PySem.F.entry_dict_get (PySem.F.args_dict_get_3 _ _ _) (meets_dict_get_default (b7 X.prog X.w) a (qm ry) hd r) ⟨_,dd.mapOf,h _ _ (I.tok _) ?_⟩;rw[l];exact(rel.val k).getD rd
 ·subst ey
  cases(show u=Value.ref b from ry)
  obtain⟨z,hd,xs,rel,dd⟩:=nO I.hok e;refine call_meetsIn DM dd.typeIs PySem.F.entry_dict_get (PySem.F.args_dict_get_3 _ _ _) (meetsH_dict_get_default (tupleKind (b7 X.prog X.w)) a b hd r) ⟨y8 hu,k,xs,j4 I.hok eb,dd,h _ _ (I.tok _) ?_⟩;rw[l];exact(rel.val k).getD rd
end
def abZ (td ty tx:TE):TE:=λσ H Q=>td σ H λx H1=>∃a,x=.ref a/\IW H1 a/\ty σ H1 λy H2=>tx σ H2 λz H3=>∃o,jh H3 a y o/\Q (o.getD z) H3
section
variable {X:Cx}{o e f:Expr}{apos JG:Pos}{td ty tx:TE}
theorem ab5 (hu:X.A.units+1<cLine)(ho:PE X o td)(he:PE X e ty)(hf:PE X f tx)(m:M2 X o "get" apos e f JG):PE X (.Call (.Attribute o "get" apos) [e,f] [] JG) (abZ td ty tx):=by
 intro pins s σ H Q I h;refine wpAny_Call_method m.base m.few m.line PySem.F.plainAttrs_dict DM PySem.F.type_dict_get (bO (ho pins s σ H _ I h) λu s1 z'=>?_);obtain⟨x,H1,I1,rx,a,ex,d,q1⟩:=z';subst ex;obtain rfl:u=Value.ref a:=rx;obtain⟨t1,t2,_⟩:=Do I1 d;refine⟨t1,t2,?_⟩;rw[m.trees]
 refine tT rfl (wz (FN (bO (he pins s1 σ H1 _ I1 q1) λiv s2 ⟨y,H2,I2,ry,q2⟩ =>
  FN (bO (hf pins s2 σ H2 _ I2 q2) λfv s3 ⟨z,H3,I3,rz,ov,g,q3⟩=>Aq ?_))))
 exact abT hu I3 g ry rz λw' s4 I4 J5=>⟨_,H3,I4,J5,q3⟩
end
end L2
namespace HT
open PySem PyProof.Rows
def dD:List Int->List Int->Bool
 |[],[]=>false
 |[],_::_=>true
 |_::_,[]=>false
 |x::xs,y::ys=>if x=y then dD xs ys else decide (x<y)
theorem eQ (x y:Int)(xs ys:List Int):dD (x::xs) (y::ys)=if x=y then dD xs ys else decide (x<y):=rfl
theorem ach:dD [] []=false:=rfl
theorem ag5 (y:Int)(ys:List Int):dD [] (y::ys)=true:=rfl
theorem afu (x:Int)(xs:List Int):dD (x::xs) []=false:=rfl
theorem agH (A:Around)(s:AL)(a:Int)(t:Tok)(c:Int)(u:Tok):∃e,SeqAt.EqAt A s (.int a t) (.int c u) e/\(e=true↔a=c):=
 ⟨(a==c),HI a t c u,by simp⟩
theorem agJ (A:Around)(s:AL)(a:Int)(t:Tok)(c:Int)(u:Tok)(prog:Iy)(w:World)(E:Bf)(Q:Bf)(h:Q (.bool (decide (a<c))) s):
 wpAny (model prog w) A (richCompare .Lt (.int a t) (.int c u)) Q E s :=
 (PyProof.Rows.lt_int h:wpAny (model prog w) A (compareOp .Lt (.int a t) (.int c u)) Q E s)
section
open PySem.SeqAt
open PySem.AutoSeq1 (wpAny_loadPart')
open PySem.MeetsSeq PySem.MeetsSeq2 PySem.MeetsSeq3
theorem aaS (l b:Addr)(items JJ:EV)(n n2:Nat)(dd M6:rW)(sl LB:Hl)(ns ms:List Int)(hi:IntsAre items.toList ns)(hj:IntsAre JJ.toList ms):
 Meets (Builtin.«tuple.__lt__» ⟨[.ref l,.ref b],[]⟩)
  (λ_ R s=>s.heap.get? l=some {cls:=.type "tuple",dict:=dd,data:=.seq items n,slots:=sl}/\s.heap.get? b=some {cls:=.type "tuple",dict:=M6,data:=.seq JJ n2,slots:=LB} /\
   R (.ok (.ret (.bool (dD ns ms)))) s):=
 .of_wp λprog w A R s h=>by
  obtain⟨hp,g,d,tk,os⟩:=s;obtain⟨hl,hb,h⟩:=h;have f2:=AutoSeq1.sub_tuple_tuple
  have z1:items.size=ns.length:=by rw[<-hi.length];simp
  have z2:JJ.size=ms.length:=by rw[<-hj.length];simp
  wp_walk using wpAny_loadPart' hl,wpAny_loadPart' hb,wpAny_forIn_list _ (λrest b s'=>b.1=none/\s'=⟨hp,g,d,tk,os⟩/\∃(vs ws:yX)(M7 PD:List Int),rest=vs.zip ws /\
   IntsAre vs M7/\IntsAre ws PD/\M7.length+JJ.size=PD.length+items.size/\R (.ok (.ret (.bool (dD M7 PD)))) ⟨hp,g,d,tk,os⟩) _
  case turn =>
   rintro⟨y,x⟩ rest b s' ⟨JN,rfl,vs,ws,M7,PD,hz,V0,Vg,hlen,hR⟩
   cases V0 with
   |nil=>rw[List.zip_nil_left] at hz;cases hz
   |cons a t V1 =>
    cases Vg with
    |nil=>rw[List.zip_nil_right] at hz;cases hz
    |cons c u V2 =>
     rw[List.zip_cons_cons] at hz
     injection hz with hyx Qm
     injection hyx with hy hx
     subst hy hx;rw[eQ] at hR;simp only[wF] at hlen;obtain⟨e,he,Qn⟩:=agH A.in1 ⟨hp,g,d,tk,os⟩ a t c u;refine C7 (he prog w _ _ ?_)
     cases e with
     |true =>
      rw[zj (Qn.mp rfl)] at hR
      wp_walk
      exact⟨rfl,rfl,_,_,_,_,Qm,V1,V2,by omega,hR⟩
     |false =>
      rw[qM (λq=>absurd (Qn.mpr q) IA)] at hR;have hri:=agJ A.in1 ⟨hp,g,d,tk,os⟩ a t c u prog w
      wp_walk using hri
      exact⟨_,rfl,by simpa using hR⟩
  case fin =>
   rintro⟨b1,b2⟩ s' ⟨JN,rfl,vs,ws,M7,PD,hz,V0,Vg,hlen,hR⟩;simp only at JN;subst JN
   have hv:dD M7 PD=decide (items.size<JJ.size):=by
    cases V0 with
    |nil =>
     cases Vg with
     |nil =>
      simp only[Au] at hlen;rw[ach];exact(Fx (by omega)).symm
     |cons c u hw =>
      simp only[Au,wF] at hlen;rw[ag5];exact(sG (by omega)).symm
    |cons a t hv =>
     cases Vg with
     |nil =>
      simp only[Au,wF] at hlen;rw[afu];exact(Fx (by omega)).symm
     |cons c u hw =>
      rw[List.zip_cons_cons] at hz
      cases hz
   rw[hv] at hR
   wp_walk
   exact⟨_,rfl,by simpa[Builtin.Tuple.tupleCompareSizes] using hR⟩
  case h =>
   exact⟨rfl,rfl,items.toList,JJ.toList,ns,ms,rfl,hi,hj,by omega,h⟩
end
section
variable {prog:Iy}{w:World}{A:Around}{E:Bf}{s:AL}
theorem aaZ {l b:Addr}{items JJ:EV}{ns ms:List Int}{Q:Bf}(hl:IsTup s.heap l items)(hb:IsTup s.heap b JJ)(hi:IntsAre items.toList ns)(hj:IntsAre JJ.toList ms)
 (hu:A.units<cLine)(h:Q (.bool (dD ns ms)) s):wpAny (model prog w) A (compareOp .Lt (.ref l) (.ref b)) Q E s:=by
 obtain⟨⟨cls,dd,data,sl⟩,ho,hc,n,hd⟩:=id hl;obtain⟨⟨Qo,M6,data2,LB⟩,Lo,Lw,n2,hd2⟩:=id hb;simp only at hc hd Lw hd2;subst hc hd Lw hd2
 exact richCompare_meets_room (op:=.Lt) ⟨_,ho,rfl⟩ ⟨_,Lo,rfl⟩ PySem.F.slot_tuple_lt PySem.F.entry_tuple_lt (PySem.F.args_tuple_lt_2 _ _) (aaS l b items JJ n n2 dd M6 sl LB ns ms hi hj)
  ⟨ho,Lo,show Value.bool (dD ns ms)≠Value.notImplemented/\Q (.bool (dD ns ms)) s from⟨(λx=>nomatch x),h⟩⟩ hu
theorem aa1 {t b:Addr}{vs ws:yX}{Q:Bf}(ht:IsTup s.heap t vs.toArray)(hb:IsTup s.heap b ws.toArray)(hv:vs≠[])
 (h1:ws=[]->Q (.ref t) s)(h2:ws≠[]->Q (.ref s.heap.objs.size) {s with heap:=s.heap.push {cls:=.type "tuple",data:=.seq (vs++ws).toArray} })
 (hsz:vs.length+ws.length<=sizeLine):wpAny (model prog w) A (binaryOp .Add (.ref t) (.ref b)) Q E s:=by
 obtain⟨⟨cls,dd,data,sl⟩,ho,hc,n,hd⟩:=id ht;obtain⟨⟨Qo,M6,data2,LB⟩,Lo,Lw,n2,hd2⟩:=id hb;simp only at hc hd Lw hd2;subst hc hd Lw hd2
 have e:vs.toArray++ws.toArray=(vs++ws).toArray:=by simp
 by_cases hw:ws=[]
 ·exact concat_meets ⟨_,ho,rfl⟩ ⟨_,Lo,rfl⟩ rX seq_tuple_add v8 Gx (xw _ _)
   (tuple_addW1 t b vs.toArray ws.toArray n n2 dd M6 sl LB (by simpa using hv) (by simp[hw])) ⟨ho,Lo,h1 hw⟩
 ·refine concat_meets ⟨_,ho,rfl⟩ ⟨_,Lo,rfl⟩ rX seq_tuple_add v8 Gx (xw _ _)
   (tuple_addW2 t b vs.toArray ws.toArray n n2 dd M6 sl LB (by simpa using hv) (by simpa using hw) (by rw[D4,D4];exact hsz)) ⟨ho,Lo,?_⟩
  rw[e];exact h2 hw
def dJ (n d:Nat):Option Int->Nat
 |none=>d
 |some v=>if v<0 then(v+(n:Int)).toNat else min v.toNat n
theorem acy (n d:Nat):dJ n d none=d:=rfl
theorem ag9 (n d:Nat)(hd:d<=n)(o:Option Int):dJ n d o<=n:=by
 cases o with
 |none=>exact hd
 |some v =>
  show(if v<0 then(v+(n:Int)).toNat else min v.toNat n)<=n
  by_cases hv:v<0
  ·rw[zj hv];omega
  ·rw[qM hv];exact AH _ _
theorem uZ (v:Int)(n d:Nat):(if v<0 then max (v+(n:Int)) 0 else min v (n:Int))=((dJ n d (some v):Nat):Int):=by
 show(if v<0 then max (v+(n:Int)) 0 else min v (n:Int))=(((if v<0 then(v+(n:Int)).toNat else min v.toNat n):Nat):Int)
 by_cases hv:v<0
 ·simp only[zj hv];omega
 ·simp only[qM hv];omega
theorem ahb (lo hi:Option Int)(n:Nat):Builtin.Slice.sliceAdjust lo hi 1 (n:Int)=(((dJ n 0 lo:Nat):Int),((dJ n n hi:Nat):Int)):=by
 have h1:¬((1:Int)<0):=by omega
 unfold Builtin.Slice.sliceAdjust;simp only[h1,CR];refine De ?_ ?_
 ·cases lo with
  |none=>rfl
  |some v=>exact uZ v n 0
 ·cases hi with
  |none=>rfl
  |some v=>exact uZ v n n
theorem agM (i j:Nat):Builtin.Slice.slicePlaces (i:Int) (j:Int) 1=j-i:=by
 unfold Builtin.Slice.slicePlaces
 have h1:(1:Int)>0:=by omega
 simp only[h1,En,Int.ediv_one]
 split <;> omega
theorem j9 {v:Value}{o:Option Int}{Q:Option Int->Shared->Prop}(p:IsPart v o)(h:Q o s):wpAny (model prog w) A (Builtin.Slice.slicePartIndex v) Q E s:=by
 cases p with
 |none=>exact slicePart_none h
 |int i t=>exact slicePart_int h
theorem fK {sl:Addr}{vl vu:Value}{lo hi:Option Int}{n:Nat}{Q:Int×Int×Nat->Shared->Prop}(hs:s.heap.IsSliceOf sl vl vu .none)(pl:IsPart vl lo)(pu:IsPart vu hi)
 (h:Q (((dJ n 0 lo:Nat):Int),1,dJ n n hi-dJ n 0 lo) s):wpAny (model prog w) A (Builtin.Slice.sliceApplied (.ref sl) (pure (n:Int))) Q E s:=by
 obtain⟨os,N3,Vh,Qp⟩:=id hs;unfold Builtin.Slice.sliceApplied Builtin.Slice.sliceFields;refine C7 (C7 (HE N3 Qp (x:=vl) rfl (C7 (HE N3 Qp (x:=vu) rfl (C7 (HE N3 Qp (x:=.none) rfl (pO ?_)))))));refine C7 (slicePart_none ?_);show wpAny _ _ (if((1:Int)==0)=true then _ else _) _ _ s;rw[qM (by decide)];refine C7 (j9 pl (C7 (j9 pu (C7 (pO ?_)))));show wpAny _ _ (match Builtin.Slice.sliceAdjust lo hi 1 (n:Int) with|(lo,hi)=>pure (lo,(1:Int),Builtin.Slice.slicePlaces lo hi 1)) _ _ s;rw[ahb lo hi n];show wpAny _ _ (pure (((dJ n 0 lo:Nat):Int),(1:Int),Builtin.Slice.slicePlaces ((dJ n 0 lo:Nat):Int) ((dJ n n hi:Nat):Int) 1)) _ _ s;rw[agM];exact pO h
theorem agI (xs:EV)(i k:Nat):((List.range k).filterMap λ(m:Nat)=>xs[((i:Int)+(m:Int)*1).toNat]?).toArray=((xs.toList.drop i).take k).toArray:=by
 have e:(λ(m:Nat)=>xs[((i:Int)+(m:Int)*1).toNat]?)=λm=>xs[i+m]?:=by
  funext m
  have:((i:Int)+(m:Int)*1).toNat=i+m:=by omega
  rw[this]
 rw[e];have:=pick_run xs i k;rw[List.filterMap_map] at this;have e2:((λx=>xs[x]?) ∘ λx=>i+x)=λm=>xs[i+m]?:=rfl;rw[e2] at this;rw[this]
theorem aaU {t sl:Addr}{items:EV}{vl vu:Value}{lo hi:Option Int}{Q:Bf}(ht:IsTup s.heap t items)(hs:s.heap.IsSliceOf sl vl vu .none)(pl:IsPart vl lo)(pu:IsPart vu hi)
 (hw:¬(dJ items.size 0 lo=0/\dJ items.size items.size hi=items.size))
 (h:Q (.ref s.heap.objs.size) {s with heap:=s.heap.push {cls:=.type "tuple",data:=.seq ((items.toList.drop (dJ items.size 0 lo)).take (dJ items.size items.size hi-dJ items.size 0 lo)).toArray} })
 (hsz:items.size<=sizeLine):wpAny (model prog w) A (getItem (.ref t) (.ref sl)) Q E s:=by
 have Lf:sizeOk (.seq ((items.toList.drop (dJ items.size 0 lo)).take (dJ items.size items.size hi-dJ items.size 0 lo)).toArray):=by
  show((items.toList.drop (dJ items.size 0 lo)).take (dJ items.size items.size hi-dJ items.size 0 lo)).toArray.size<=sizeLine;rw[D4,rh,D9,Bz];omega
 have hj:dJ items.size items.size hi<=items.size:=ag9 _ _ (zC _) hi;obtain⟨os,N3,Vh,Qp⟩:=id hs;have V3:s.TypeIs (.ref sl) "slice":=⟨os,N3,Vh⟩;unfold getItem
 try with_reducible refine tj ?_
 first|refine C7 (pO ?_)|skip
 refine C7 (wpAny_sequenceKey ht.typeIs (by decide) ?_)
 refine C7 (iW (name:=Str.ofString "__getitem__") ht.typeIs BA
  (xH BA ht.typeIs entry_tuple_getitem ?_ (args_tuple_getitem _ _)))
 show wpAny _ _ (Builtin.Tuple.tupleItemsOf (.ref t)>>=_) _ _ s;refine C7 (tupleItemsOf_ ht ?_);refine C7 (Gd V3 ?_);rw[zj (by decide)];refine C7 (fK hs pl pu ?_)
 have N4:¬((((dJ items.size 0 lo:Nat):Int)==0&&(1:Int)==1&&(dJ items.size items.size hi-dJ items.size 0 lo)==items.size)=true):=by
  intro q;rw[Im,Im] at q;have q1:((dJ items.size 0 lo:Nat):Int)=0:=eq_of_beq q.1.1;have q2:dJ items.size items.size hi-dJ items.size 0 lo=items.size:=eq_of_beq q.2;exact hw ⟨by omega,by omega⟩
 show wpAny _ _ (if(((dJ items.size 0 lo:Nat):Int)==0&&(1:Int)==1&&(dJ items.size items.size hi-dJ items.size 0 lo)==items.size)=true then _ else _) _ _ s;rw[qM N4,agI]
 first
  |exact C7 (m:=Builtin.Tuple.tupleExact _) (Dr (pO ⟨_,rfl,pO h⟩) Lf)
  |exact C7 (m:=Builtin.Tuple.tupleExact _) (Dr (C7 (pO (pO ⟨_,rfl,pO h⟩))) Lf)
  |exact C7 (C7 (m:=Builtin.Tuple.tupleExact _) (Dr (pO (pO ⟨_,rfl,pO h⟩)) Lf))
  |exact C7 (C7 (m:=Builtin.Tuple.tupleExact _) (Dr (pO ⟨_,rfl,pO h⟩) Lf))
end
end HT
namespace L2
open PySem PySem.Spec PyProof.Rows
abbrev TO:=St->Hp->(Option Int->Hp->Prop)->Prop
def PO (X:Cx)(e:Option Expr)(t:TO):Prop :=
 ∀(pins:List (Addr×Obj))(s:AL)(σ:St)(H:Hp)(Q:Option Int->Hp->Prop),Inv X pins σ H s->t σ H Q →
  wpAny (model X.prog X.w) X.A (evalPart e X.env) (λu s'=>∃o H',Inv X pins σ H' s'/\IsPart u o/\Q o H') X.xe s
def ai9:TO:=λ_ H Q=>Q none H
def aa0 (t:TE):TO:=λσ H Q=>t σ H λx H1=>∃i,x=.int i/\Q (some i) H1
theorem kF {ns:List Int}:∀{us:yX},aR (ns.map V.int) us->IntsAre us ns:=by
 induction ns with
 |nil=>intro us r;rw[List.map_nil] at r;cases r;exact .nil
 |cons n ns ih =>
  intro us r;rw[Jr] at r
  cases r with
  |cons r1 r2 =>
   obtain⟨t,e⟩:=r1;subst e;exact .cons n t (ih r2)
variable {xs:List V}
section
variable {X:Cx}{e:Expr}{te:TE}{lo hi:Option Expr}{tl th:TO}{pos p2:Pos}
theorem oJ:PO X none ai9:=by
 intro pins s σ H Q I h;rw[evalPart_none];exact pO ⟨none,H,I,.none,h⟩
theorem jY (h:PE X e te):PO X (some e) (aa0 te):=by
 intro pins s σ H Q I hw;rw[evalPart_some];refine bO (h pins s σ H _ I hw) λu s1 z'=>?_;obtain⟨x,H1,I1,r1,q1⟩:=z';obtain⟨i,rfl,q⟩:=q1;obtain⟨t,rfl⟩:=r1;exact⟨some i,H1,I1,.int i t,q⟩
def GV (X:Cx)(r:V->Option Int->Option Int->Hp->VK->Prop):Prop :=
 ∀(pins:List (Addr×Obj))(s:AL)(σ:St)(H:Hp)(x:V)(v vl vu:Value)(lo hi:Option Int)(sl:Addr)(Q:VK),Inv X pins σ H s->aI x v->s.heap.IsSliceOf sl vl vu .none->IsPart vl lo->IsPart vu hi->r x lo hi H Q →
  ∃T id,typeLookup (.type T) "__getitem__"=pure (some (.builtin id))/\s.TypeIs v T/\wpAny (model X.prog X.w) X.A (getItem v (.ref sl)) (EP X pins σ Q) X.xe s
def aa3 (r:V->Option Int->Option Int->Hp->VK->Prop)(te:TE)(tl th:TO):TE:=λσ H Q=>te σ H λx H1=>tl σ H1 λl H2=>th σ H2 λu H3=>r x l u H3 Q
theorem kN {r:V->Option Int->Option Int->Hp->VK->Prop}(hr:GV X r)(he:PE X e te)(hl:PO X lo tl)(hu:PO X hi th):PE X (.Subscript e (.Slice lo hi none p2) pos) (aa3 r te tl th):=by
 intro pins s σ H Q I h;refine Subscript_ (bO (he pins s σ H _ I h) λv s1 z'=>?_);obtain⟨x,H1,I1,r1,q1⟩:=z';refine wpAny_Slice (bO (hl pins s1 σ H1 _ I1 q1) λvl s2 ⟨l,H2,I2,pl,q2⟩=>bO (hu pins s2 σ H2 _ I2 q2) λvu s3 z'=>?_);obtain⟨u,H3,I3,pu,q3⟩:=z';rw[evalPart_none];refine pO ?_;have I4:Inv X pins σ H3 {s3 with heap:=s3.heap.push {cls:=.type "slice",data:=.fields #[vl,vu,.none]} }:=I3.kept (t':=s3.toks) λb ob q=>wa _ q;obtain⟨T,id,hT,ht,hg⟩:=hr pins {s3 with heap:=s3.heap.push {cls:=.type "slice",data:=.fields #[vl,vu,.none]} } σ H3 x v vl vu l u s3.heap.objs.size Q I4 r1 (Heap.IsSliceOf.new ..) pl pu q3;show wpAny (model X.prog X.w) X.A (subscriptTail e (.Slice lo hi none p2) v (.ref s3.heap.objs.size)) (EP X pins σ Q) X.xe {s3 with heap:=s3.heap.push {cls:=.type "slice",data:=.fields #[vl,vu,.none]} };exact tail_any (ops:=[.ref s3.heap.objs.size,v]) ht hT hg (by with_unfolding_all rfl)
def i7 (xs:List V)(lo hi:Option Int):List V:=(xs.drop (HT.dJ xs.length 0 lo)).take (HT.dJ xs.length xs.length hi-HT.dJ xs.length 0 lo)
theorem jD (xs:List V)(lo hi:Option Int):(i7 xs lo hi).length<=xs.length:=by
 unfold i7;rw[rh,D9];omega
def ab4 (K:PySem.W.Frag):V->Option Int->Option Int->Hp->VK->Prop:=λx lo hi H Q=>∃a xs,x=.ref a/\bf K H a xs /\
 ¬(HT.dJ xs.length 0 lo=0/\HT.dJ xs.length xs.length hi=xs.length)/\∀p,H p=none->Q (.ref p) (upd H p (.tup (i7 xs lo hi)))
theorem ab6:GV X (ab4 X.K):=by
 intro pins s σ H x v vl vu lo hi sl Q I rx hs pl pu h;obtain⟨a,xs,rfl,hx,hw,q⟩:=h
 cases rx
 obtain⟨its,r,ht,hz⟩:=I.tuple hx
 have hlen:its.toArray.size=xs.length:=by rw[D4];exact r.length.symm
 refine⟨"tuple",_,BA.lookup,ht.typeIs,?_⟩;refine HT.aaU ht hs pl pu (by rw[hlen];exact hw) ?_ (by rw[hlen];exact hz);rw[hlen];refine⟨.ref s.heap.objs.size,_,I.laid (t':=s.toks) (o:=.tup (i7 xs lo hi)) (λb ob q=>wa _ q) (zC _) ?_,rfl,q _ (I.hok.fresh (zC _))⟩;exact⟨EW (jD xs lo hi) hz,_,(r.drop (HT.dJ xs.length 0 lo)).take (HT.dJ xs.length xs.length hi-HT.dJ xs.length 0 lo),IsTup.new _ _⟩
def ab7 (K:PySem.W.Frag):R2:=λx y H Q=>∃a b xs ys,x=.ref a/\y=.ref b/\bf K H a xs/\bf K H b ys/\xs≠[]/\xs.length+ys.length<=sizeLine /\
 (ys=[]->Q (.ref a) H)/\(ys≠[]->∀p,H p=none->Q (.ref p) (upd H p (.tup (xs++ys))))
theorem aR.ahi {us:yX}(r:aR xs us):us=[]↔xs=[]:=by
 cases r with
 |nil=>simp
 |cons _ _=>simp
theorem uv:eU X (binaryOp .Add) (ab7 X.K):=by
 intro pins s σ H x y v u Q I rx ry h;obtain⟨a,b,xs,ys,rfl,rfl,ha,hb,hx,hz,q1,q2⟩:=h
 cases rx
 cases ry
 obtain⟨its,r1,p1,_⟩:=I.tuple ha;obtain⟨JA,r2,p2,_⟩:=I.tuple hb;refine HT.aa1 p1 p2 (λz=>hx (r1.ahi.mp z)) (λz=>⟨.ref a,H,I,rfl,q1 (r2.ahi.mp z)⟩) (λz=>?_) (by rw[<-r1.length,<-r2.length];exact hz);refine⟨.ref s.heap.objs.size,_,I.laid (t':=s.toks) (o:=.tup (xs++ys)) (λb ob q=>wa _ q) (zC _) ?_,rfl,q2 (λw=>z (r2.ahi.mpr w)) _ (I.hok.fresh (zC _))⟩;exact⟨by rw[tE];exact hz,_,r1.append r2,IsTup.new _ _⟩
end
def wW (n:Nat)(i:Int):Option Nat:=if 0<=i then(if i<n then some i.toNat else none) else if -(n:Int)<=i then some (i+n).toNat else none
def pQ {α:Type}(xs:List α)(i:Int):Option α:=(wW xs.length i).bind λj=>xs[j]?
variable {n:Nat}
theorem uK {i:Int}{j:Nat}(h:wW n i=some j):seqIndex? i n=some j/\j<n/\-(n:Int)<=i/\i<n:=by
 unfold wW at h
 by_cases h0:0<=i
 ·rw[zj h0] at h
  by_cases h1:i<n
  ·rw[zj h1] at h;have e:i.toNat=j:=Option.some.inj h;exact⟨by rw[seqIndex_of h0 h1,e],by omega,by omega,h1⟩
  ·rw[qM h1] at h;cases h
 ·rw[qM h0] at h
  by_cases h1:-(n:Int)<=i
  ·rw[zj h1] at h;have e:(i+n).toNat=j:=Option.some.inj h;exact⟨by rw[seqIndex_neg (by omega) h1,e],by omega,h1,by omega⟩
  ·rw[qM h1] at h;cases h
theorem uI {α:Type}{xs:List α}{i:Int}{v:α}(h:pQ xs i=some v):∃j,seqIndex? i xs.length=some j/\xs[j]?=some v/\j<xs.length/\-(xs.length:Int)<=i/\i<xs.length:=by
 unfold pQ at h
 cases e:wW xs.length i with
 |none=>rw[e] at h;cases h
 |some j =>
  rw[e] at h;obtain⟨h1,h2,h3,h4⟩:=uK e;exact⟨j,h1,h,h2,h3,h4⟩
theorem jU {α:Type}{xs:List α}{j:Nat}{v:α}(h:xs[j]?=some v):pQ xs (j:Int)=some v:=by
 have hj:j<xs.length:=(Be.mp h).1
 have e:wW xs.length (j:Int)=some j:=by
  unfold wW;rw[zj (by omega),zj (by omega)];simp
 unfold pQ;rw[e];exact h
def aco (b:Expr):Prop:=∀o i,subscripted b false o i=operate [o,i] (getItem o i)
def B5 (X:Cx)(r:R2):Prop :=
 ∀(value slice:Expr)(pins:List (Addr×Obj))(s:AL)(σ:St)(H:Hp)(x y:V)(v u:Value)(Q:VK),Inv X pins σ H s->aI x v->aI y u->r x y H Q →
  subscripted slice false v u=operate [v,u] (getItem v u)->wpAny (model X.prog X.w) X.A (subscriptTail value slice v u) (EP X pins σ Q) X.xe s
def GU (X:Cx)(id:String)(r:V->List V->Hp->VK->Prop):Prop :=
 ∀(pins:List (Addr×Obj))(s:AL)(σ:St)(H:Hp)(x:V)(xs:List V)(v:Value)(us:yX)(Q:VK),Inv X pins σ H s->aI x v->aR xs us->r x xs H Q →
  wpAny (model X.prog X.w) X.A (call (.builtin id) (v::us)) (EP X pins σ Q) X.xe s
variable {pins:List (Addr×Obj)}{σ:St}{H:Hp}{s:AL}{its:yX}{x:V}
section
variable {X:Cx}{a b:Expr}{ta tb:TE}{pos:Pos}
theorem a9 {r:R2}(hr:B5 X r)(ha:PE X a ta)(hb:PE X b tb)(hs:aco b):PE X (.Subscript a b pos) (oY r ta tb):=by
 intro pins s σ H Q I h;exact Subscript_ (DS ha hb I h λv u s2 x y H2 I2 rx ry q=>hr a b pins s2 σ H2 x y v u Q I2 rx ry q (hs _ _))
def acK (K:PySem.W.Frag):R2:=λx y H Q=>∃p xs i v,x=.ref p/\y=.int i/\aV K H p xs/\pQ xs i=some v/\Q v H
def vM (K:PySem.W.Frag):R2:=λx y H Q=>∃p xs i v,x=.ref p/\y=.int i/\bf K H p xs/\pQ xs i=some v/\Q v H
theorem cx:B5 X (acK X.K):=by
 intro value slice pins s σ H x y v u Q I rx ry h hs;obtain⟨p,xs,i,z,rfl,rfl,hq,he,q⟩:=h
 cases rx
 obtain⟨t,rfl⟩:=ry;obtain⟨its,r,pl,hz⟩:=I.list hq;obtain⟨j,h1,h2,h3,h4,h5⟩:=uI he;obtain⟨w,ew,J5⟩:=r.get h2;have hl:=r.length;have hn:=ka;have fin:EP X pins σ Q w s:=⟨z,H,I,J5,q⟩
 by_cases h0:0<=i
 ·have hj:i.toNat=j:=by
   rw[seqIndex_of h0 h5] at h1;exact Option.some.inj h1
  exact item_listR pl.isList h0 (by omega) (by rw[hj];simpa using ew) fin hs
 ·have hj:(i+(its.toArray.size:Int)).toNat=j:=by
   rw[seqIndex_neg (by omega) h4] at h1;rw[D4,<-hl];exact Option.some.inj h1
  exact subscriptTail_builtinR (x:=w) pl.isList.typeIs slot_list_getitem.lookup
   (wpAny_getItem_list_neg (Q:=λr s'=>r=w/\EP X pins σ Q r s') pl.isList (by omega) (by rw[D4] <;> omega) (by omega) (by rw[hj];simpa using ew) ⟨rfl,fin⟩) hs
theorem br:B5 X (vM X.K):=by
 intro value slice pins s σ H x y v u Q I rx ry h hs;obtain⟨p,xs,i,z,rfl,rfl,hq,he,q⟩:=h
 cases rx
 obtain⟨t,rfl⟩:=ry;obtain⟨its,r,pl,hz⟩:=I.tuple hq;obtain⟨j,h1,h2,h3,h4,h5⟩:=uI he;obtain⟨w,ew,J5⟩:=r.get h2;have hl:=r.length;have hn:=ka;have fin:EP X pins σ Q w s:=⟨z,H,I,J5,q⟩
 exact subscriptTail_builtinR (x:=w) pl.typeIs slot_tuple_getitem.lookup
  (getItem_tuple (j:=j) (Q:=λr s'=>r=w/\EP X pins σ Q r s') pl (by omega) (by omega) (by rw[D4,<-hl];exact h1) (by simpa using ew) ⟨rfl,fin⟩) hs
theorem CXT (its:yX)(n j:Nat)(u:Value):Obj.mapSeq (·.setIfInBounds j u) {cls:=.type "list",data:=.seq its.toArray n}={cls:=.type "list",data:=.seq (its.set j u).toArray n}:=by
 simp[Obj.mapSeq]
theorem Inv.lst {p:Addr}(I:Inv X pins σ H s)(h:H p=some (.lst xs)):
 ∃(its:yX)(n:Nat),aR xs its/\s.heap.get? p=some {cls:=.type "list",data:=.seq its.toArray n}/\xs.length<=sizeLine:=by
 obtain⟨z,its,n,r,e⟩:=I.hok p _ h;exact⟨its,n,r,e,z⟩
theorem Inv.ajT {p:Addr}{ys:List V}{its':yX}{n':Nat}{f:Obj->Obj}(I:Inv X pins σ H s)(h:H p=some (.lst xs))
 (ho:s.heap.get? p=some {cls:=.type "list",data:=.seq its.toArray n})(hf:f {cls:=.type "list",data:=.seq its.toArray n}={cls:=.type "list",data:=.seq its'.toArray n'})(r:aR ys its')(hz:ys.length<=sizeLine)(t:Nat):
 Inv X pins σ (upd H p (.lst ys)) {s with heap:=s.heap.update p f,toks:=t}:=by
 have e:(s.heap.update p f).get? p=some {cls:=.type "list",data:=.seq its'.toArray n'}:=by
  rw[mD f ho (by rw[hf] <;> rfl),hf]
 refine I.write (x:=p) (e:=p) (by rw[h];trivial) (.inl rfl) (λb u hb q=>(mE _ _ (Jm hb)).trans q) ⟨_,e⟩ ?_;exact⟨hz,its',n',r,e⟩
def akD:V->V->V->Hp->(Hp->Prop)->Prop:=λo i v H Q=>∃p xs k j,o=.ref p/\i=.int k/\H p=some (.lst xs)/\wW xs.length k=some j/\Q (upd H p (.lst (xs.set j v)))
theorem lU:Fv X akD:=by
 intro pins s σ H o i v ov iv u Q I ro ri rv h;obtain⟨p,xs,k,j,rfl,rfl,hp,hj,q⟩:=h
 cases ro
 obtain⟨t,rfl⟩:=ri;obtain⟨its,n,r,ho,hz⟩:=I.lst hp;obtain⟨h1,h2,h3,h4⟩:=uK hj;have hl:=r.length;have hn:=ka
 have I':Inv X pins σ (upd H p (.lst (xs.set j v))) {s with heap:=s.heap.update p (Obj.mapSeq (·.setIfInBounds j u))}:=
  I.ajT hp ho (CXT its n j u) (r.set rv j) (by rw[List.length_set];exact hz) s.toks
 by_cases h0:0<=k
 ·have hk:k.toNat=j:=by
   rw[seqIndex_of h0 h4] at h1;exact Option.some.inj h1
  exact PySem.W.ki_setAt ho h0 (by omega) (by rw[D4,<-hl];exact h4) (by rw[hk];exact⟨_,I',q⟩)
 ·have hk:(k+(its.toArray.size:Int)).toNat=j:=by
   rw[seqIndex_neg (by omega) h3] at h1;rw[D4,<-hl];exact Option.some.inj h1
  exact PySem.W.ki_setBack ho (by omega) (by rw[D4,<-hl];exact h3) (by omega) (by rw[hk];exact⟨_,I',q⟩)
theorem ahe (lo hi:Option Int)(n:Nat):(sliceBounds lo hi none n).1=((HT.dJ n 0 lo:Nat):Int)/\(sliceBounds lo hi none n).2.1=((HT.dJ n n hi:Nat):Int)/\(sliceBounds lo hi none n).2.2=1:=by
 refine⟨?_,?_,rfl⟩
 ·cases lo with
  |none=>simp[sliceBounds,HT.dJ]
  |some i =>
   simp only[sliceBounds,HT.dJ,Option.getD_none,show(1:Int)>0 by decide,En]
   by_cases h:i<0
   ·simp only[h,En] <;> omega
   ·simp only[h,CR] <;> omega
 ·cases hi with
  |none=>simp[sliceBounds,HT.dJ]
  |some i =>
   simp only[sliceBounds,HT.dJ,Option.getD_none,show(1:Int)>0 by decide,En]
   by_cases h:i<0
   ·simp only[h,En] <;> omega
   ·simp only[h,CR] <;> omega
theorem ahf (its:yX)(lo hi:Option Int):slicePick its.toArray lo hi none=((its.drop (HT.dJ its.length 0 lo)).take (HT.dJ its.length its.length hi-HT.dJ its.length 0 lo)).toArray:=by
 obtain⟨h1,h2,h3⟩:=ahe lo hi its.toArray.size;unfold slicePick;rw[h1,h2,h3];simp only[sliceRange_one,pick_run,D4] <;> rfl
def aa2 (K:PySem.W.Frag):V->Option Int->Option Int->Hp->VK->Prop:=λx lo hi H Q=>∃a xs,x=.ref a/\aV K H a xs/\∀p,H p=none->Q (.ref p) (upd H p (.lst (i7 xs lo hi)))
theorem ug:GV X (aa2 X.K):=by
 intro pins s σ H x v vl vu lo hi sl Q I rx hs pl pu h;obtain⟨a,xs,rfl,hx,q⟩:=h
 cases rx
 obtain⟨its,r,ht,hz⟩:=I.list hx;have hlen:=r.length;refine⟨"list",_,slot_list_getitem.lookup,ht.isList.typeIs,?_⟩;refine wpAny_getItem_list_slice ht.isList hs pl pu .none (by simp) ?_ (by rw[D4] <;> omega);rw[ahf,<-hlen];refine⟨.ref s.heap.objs.size,_,I.laid (t':=s.toks) (o:=.lst (i7 xs lo hi)) (λb ob q=>wa _ q) (zC _) ?_,rfl,q _ (I.hok.fresh (zC _))⟩;exact⟨EW (jD xs lo hi) hz,_,0,(r.drop (HT.dJ xs.length 0 lo)).take (HT.dJ xs.length xs.length hi-HT.dJ xs.length 0 lo),Hr _ rfl⟩
def gO:V->Bool
 | .non=>true
 | .bl _=>true
 | .int _=>true
 | .str _=>true
 |_=>false
def yv:V->V->Bool
 | .non,.non=>true
 | .bl a,.bl b=>a==b
 | .bl a,.int b=>(if a then 1 else 0)==b
 | .int a,.bl b=>a==(if b then 1 else 0)
 | .int a,.int b=>a==b
 | .str a,.str b=>a==b
 |_,_=>false
theorem zo {A:Around}{y:V}{u v:Value}(ry:aI y u)(rx:aI x v)(fy:gO y=true)(fx:gO x=true):SeqAt.EqAt A s u v (yv y x):=by
 cases y with
 |non =>
  cases ry
  cases x with
  |non=>cases rx;exact SeqAt.EqAt.same _
  |bl b=>cases rx;exact SeqAt.EqAt.none_bool b
  |int b=>obtain⟨t,rfl⟩:=rx;exact SeqAt.EqAt.none_int b t
  |str b=>obtain⟨t,rfl⟩:=rx;exact SeqAt.EqAt.none_str b t
  |_=>exact absurd (show false=true from fx) IA
 |bl a =>
  cases ry
  cases x with
  |non=>cases rx;exact SeqAt.EqAt.bool_none a
  |bl b=>cases rx;exact SeqAt.EqAt.bool_bool a b
  |int b=>obtain⟨t,rfl⟩:=rx;exact SeqAt.EqAt.bool_int a b t
  |str b=>obtain⟨t,rfl⟩:=rx;exact SeqAt.EqAt.bool_str a b t
  |_=>exact absurd (show false=true from fx) IA
 |int a =>
  obtain⟨t',rfl⟩:=ry
  cases x with
  |non=>cases rx;exact SeqAt.EqAt.int_none a t'
  |bl b=>cases rx;exact SeqAt.EqAt.int_bool a t' b
  |int b=>obtain⟨t,rfl⟩:=rx;exact HI a t' b t
  |str b=>obtain⟨t,rfl⟩:=rx;exact SeqAt.EqAt.int_str a t' b t
  |_=>exact absurd (show false=true from fx) IA
 |str a =>
  obtain⟨t',rfl⟩:=ry
  cases x with
  |non=>cases rx;exact SeqAt.EqAt.str_none a t'
  |bl b=>cases rx;exact SeqAt.EqAt.str_bool a t' b
  |int b=>obtain⟨t,rfl⟩:=rx;exact SeqAt.EqAt.str_int a t' b t
  |str b=>obtain⟨t,rfl⟩:=rx;exact SeqAt.EqAt.str_str a t' b t
  |_=>exact absurd (show false=true from fx) IA
 |_=>exact absurd (show false=true from fy) IA
def qB (x:V)(u:Value):Bool:=match u with
 | .none=>yv .non x
 | .bool b=>yv (.bl b) x
 | .int i _=>yv (.int i) x
 | .str z _=>yv (.str z) x
 |_=>false
theorem oC {y:V}{u:Value}(r:aI y u)(f:gO y=true):qB x u=yv y x:=by
 cases y with
 |non=>cases r;rfl
 |bl b=>cases r;rfl
 |int i=>obtain⟨t,rfl⟩:=r;rfl
 |str z=>obtain⟨t,rfl⟩:=r;rfl
 |_=>exact absurd (show false=true from f) IA
theorem iV :∀{xs:List V}{us:yX},aR xs us->xs.all gO=true->us.any (qB x)=xs.any λy=>yv y x
 |_,_,.nil,_=>rfl
 |y::xs,u::us,.cons r t,f=>by
  rw[vS,Im] at f;rw[HV,HV,oC r f.1,iV t f.2]
theorem gM {A:Around}{v:Value}(rx:aI x v)(fx:gO x=true):∀{xs:List V}{us:yX},aR xs us->xs.all gO=true->∀u∈us,SeqAt.EqAt A s u v (qB x u)
 |_,_,.nil,_=>λu hu=>by cases hu
 |y::xs,u::us,.cons r t,f=>λu' hu=>by
  rw[vS,Im] at f
  rcases BN.mp hu with rfl|hu
  ·rw[oC r f.1];exact zo r rx f.1 fx
  ·exact gM rx fx t f.2 u' hu
def Ew (x:V)(xs:List V):Bool:=xs.any λy=>yv y x
def HM (K:PySem.W.Frag)(neg:Bool):R2:=λx y H Q=>∃p xs,y=.ref p/\(aV K H p xs\/bf K H p xs)/\gO x=true/\xs.all gO=true/\Q (.bl (if neg then !Ew x xs else Ew x xs)) H
theorem abR:eU X (compareOp .In) (HM X.K false):=by
 intro pins s σ H x y v u Q I rx ry h;obtain⟨p,xs,rfl,hq,fx,fs,q⟩:=h
 cases ry
 rcases hq with hq|hq
 ·obtain⟨its,r,pl,hz⟩:=I.list hq;refine SeqAt.in_listAt (qB x) pl.isList (λw hw=>gM rx fx r fs w (by simpa using hw)) ⟨.bl _,H,I,rfl,?_⟩;rw[show its.toArray.any (qB x)=its.any (qB x) by simp,iV r fs];exact q
 ·obtain⟨its,r,pl,hz⟩:=I.tuple hq;refine SeqAt.in_tupleAt (qB x) pl (λw hw=>gM rx fx r fs w (by simpa using hw)) ⟨.bl _,H,I,rfl,?_⟩;rw[show its.toArray.any (qB x)=its.any (qB x) by simp,iV r fs];exact q
theorem abS:eU X (compareOp .NotIn) (HM X.K true):=by
 intro pins s σ H x y v u Q I rx ry h;obtain⟨p,xs,rfl,hq,fx,fs,q⟩:=h
 cases ry
 rcases hq with hq|hq
 ·obtain⟨its,r,pl,hz⟩:=I.list hq;refine SeqAt.notIn_listAt (qB x) pl.isList (λw hw=>gM rx fx r fs w (by simpa using hw)) ⟨.bl _,H,I,rfl,?_⟩;rw[show its.toArray.any (qB x)=its.any (qB x) by simp,iV r fs];exact q
 ·obtain⟨its,r,pl,hz⟩:=I.tuple hq;refine SeqAt.notIn_tupleAt (qB x) pl (λw hw=>gM rx fx r fs w (by simpa using hw)) ⟨.bl _,H,I,rfl,?_⟩;rw[show its.toArray.any (qB x)=its.any (qB x) by simp,iV r fs];exact q
theorem aK:fQ X (.builtin "len") (λxs H Q=>∃p ys,xs=[.ref p]/\(aV X.K H p ys\/bf X.K H p ys)/\Q (.int ys.length) H):=by
 intro pins s σ H xs us Q I r h;obtain⟨p,ys,rfl,hq,q⟩:=h;obtain⟨u,rfl,rx⟩:=gh r
 cases rx
 have hn:=ka
 rcases hq with hq|hq
 ·obtain⟨its,r',pl,hz⟩:=I.list hq;have hlen:=r'.length;exact Calls.call_len_list pl.isList (by simp only[D4] <;> omega) ⟨.int ys.length,H,I.tok _,⟨s.toks+1,by rw[D4,hlen]⟩,q⟩
 ·obtain⟨its,r',pl,hz⟩:=I.tuple hq;have hlen:=r'.length;exact len_tuple pl (by simp only[D4] <;> omega) ⟨.int ys.length,H,I.tok _,⟨s.toks+1,by rw[D4,hlen]⟩,q⟩
theorem dH:fQ X (.type "list") (λxs H Q=>∃p ys,xs=[.ref p]/\(aV X.K H p ys\/bf X.K H p ys)/\∀l,H l=none->Q (.ref l) (upd H l (.lst ys))):=by
 intro pins s σ H xs us Q I r h;obtain⟨p,ys,rfl,hq,q⟩:=h;obtain⟨u,rfl,rx⟩:=gh r
 cases rx
 have fin:∀(its:yX),aR ys its->ys.length<=sizeLine->∀(h':Heap)(c':Nat),(∀b o',s.heap.get? b=some o'->h'.get? b=some o') →
  h'.get? s.heap.objs.size=some {cls:=.type "list",dict:=none,data:=.seq its.toArray c',slots:=#[]}->EP X pins σ Q (.ref s.heap.objs.size) {s with heap:=h'}:=λits r' hz h' c' kp e =>
  ⟨.ref s.heap.objs.size,_,I.laid (t':=s.toks) kp (zC _) (show bJ X.prog X.w _ h' _ (.lst ys) from⟨hz,its,c',r',e⟩),rfl,q _ (I.hok.fresh (zC _))⟩
 rcases hq with hq|hq
 ·obtain⟨its,r',pl,hz⟩:=I.list hq;have hlen:=r'.length;obtain⟨o,ho,hc,n,hd⟩:=pl.isList;exact call_list_seq p (.inl rfl) ho hc hd (λh' c' kp e=>fin its r' hz h' c' kp e) (by simp only[D4] <;> omega)
 ·obtain⟨its,r',pl,hz⟩:=I.tuple hq;have hlen:=r'.length;obtain⟨o,ho,hc,n,hd⟩:=pl;exact call_list_seq p (.inr rfl) ho hc hd (λh' c' kp e=>fin its r' hz h' c' kp e) (by simp only[D4] <;> omega)
theorem fE:fQ X (.type "tuple") (λxs H Q=>∃p ys,xs=[.ref p]/\((aV X.K H p ys/\∀l,H l=none->Q (.ref l) (upd H l (.tup ys)))\/(bf X.K H p ys/\Q (.ref p) H))):=by
 intro pins s σ H xs us Q I r h;obtain⟨p,ys,rfl,h⟩:=h;obtain⟨u,rfl,rx⟩:=gh r
 cases rx
 rcases h with⟨hq,q⟩|⟨hq,q⟩
 ·obtain⟨its,r',pl,hz⟩:=I.list hq;have hlen:=r'.length;refine call_tuple_list pl.isList (λh' kp=>?_) (by simp only[D4] <;> omega);have I1:Inv X pins σ H {s with heap:=h'}:=I.kept (t':=s.toks) kp
  have I2:Inv X pins σ (upd H h'.objs.size (.tup ys)) {s with heap:=h'.push {cls:=.type "tuple",data:=.seq its.toArray} }:=
   I1.laid (t':=s.toks) (λb o e=>wa _ e) (zC _) (show bJ X.prog X.w _ _ _ (.tup ys) from⟨hz,its,r',IsTup.new _ _⟩)
  exact⟨.ref h'.objs.size,_,I2,rfl,q _ (I1.hok.fresh (zC _))⟩
 ·obtain⟨its,r',pl,hz⟩:=I.tuple hq;exact call_tuple_same pl ⟨.ref p,H,I,rfl,q⟩
def Ip (K:PySem.W.Frag)(T:String)(x:V)(H:Hp):Prop:=match x with
 | .str _=>T="str"
 | .int _=>T="int"
 | .ref p=>(T="list"/\∃xs,aV K H p xs)\/(T="tuple"/\∃o,K.lookup p=some o/\o.cls=.type "tuple"/\o.dict=none) \/
  (T="dict"/\((∃Jt,H p=some (.dK Jt))\/∃Jt,H p=some (.dT Jt)))\/(T="set"/\∃S n,H p=some (.set S n))
 |_=>False
theorem xT {T:String}{v:Value}(I:Inv X pins σ H s)(r:aI x v)(ty:Ip X.K T x H):
 s.TypeIs v T/\∀a,v=.ref a->∃ob,s.heap.get? a=some ob/\ob.dict=none:=by
 cases x with
 |str z =>
  obtain⟨t,rfl⟩:=r
  cases(show T="str" from ty)
  exact⟨typeIs_str s z t,λ_ e=>nomatch e⟩
 |int i =>
  obtain⟨t,rfl⟩:=r
  cases(show T="int" from ty)
  exact⟨typeIs_int s i t,λ_ e=>nomatch e⟩
 |ref p =>
  cases r
  rcases ty with⟨rfl,xs,hq⟩|⟨rfl,o,hk,hc,hd⟩|⟨rfl,hk⟩|⟨rfl,S,n,hk⟩
  ·obtain⟨its,_,pl,_⟩:=I.list hq;refine⟨pl.isList.typeIs,λa e=>?_⟩
   cases e
   obtain⟨o,n,e,c,hd,_⟩:=pl;exact⟨o,e,hd⟩
  ·refine⟨⟨o,I.kIn p o hk,hc⟩,λa e=>?_⟩
   cases e
   exact⟨o,I.kIn _ o hk,hd⟩
  ·have z:∃o,s.heap.get? p=some o/\o.ExactDict:=by
    rcases hk with⟨Jt,hk⟩|⟨Jt,hk⟩
    ·obtain⟨_,_,_,_,o,_,_,e,ex,_⟩:=I.hok p _ hk;exact⟨o,e,ex⟩
    ·obtain⟨_,_,_,_,o,_,_,e,ex,_⟩:=I.hok p _ hk;exact⟨o,e,ex⟩
   obtain⟨o,e,ex⟩:=z;refine⟨⟨o,e,ex.1⟩,λa e2=>?_⟩
   cases e2
   exact⟨o,e,ex.2.1⟩
  ·obtain⟨o,_,_,_,e,ex,_⟩:=I.hok p _ hk;refine⟨⟨o,e,ex.1⟩,λa e2=>?_⟩
   cases e2
   exact⟨o,e,ex.2.1⟩
 |_=>exact False.elim ty
def abV (K:PySem.W.Frag)(T:String)(r:V->List V->Hp->VK->Prop)(to:TE):TE:=λσ H Q=>to σ H λx H1=>Ip K T x H1/\r x [] H1 Q
def ab8 (K:PySem.W.Frag)(T:String)(r:V->List V->Hp->VK->Prop)(to:TE)(t:TA):TE:=λσ H Q=>to σ H λx H1=>Ip K T x H1/\t σ H1 λxs H2=>r x xs H2 Q
variable {o e:Expr}{es:vH}{to:TE}{t:TA}{name:Str}{apos JG:Pos}{T id:String}{r:V->List V->Hp->VK->Prop}
theorem ab9 (pa:PlainAttrs T)(slot:Slot T name id)(V4:typeOf (.builtin id)=pure (.type "method_descriptor"))(hm:GU X id r)(ho:PE X o to)
 (KJ:attributeBase o name X.env (eval o X.env)=eval o X.env:=by rfl)(KL:(apos.endLine==JG.line)=true:=by rfl):PE X (.Call (.Attribute o name apos) [] [] JG) (abV X.K T r to):=by
 intro pins s σ H Q I h;refine wpAny_Call_method0_late KJ KL (bO (ho pins s σ H _ I h) λv s1 z'=>?_);obtain⟨x,H1,I1,r1,ty,q1⟩:=z';obtain⟨h1,h2⟩:=xT I1 r1 ty;exact⟨T,id,pa,slot,V4,h1,h2,tT rfl (PySem.evalArgs_none (hm pins s1 σ H1 x [] v [] Q I1 r1 .nil q1))⟩
theorem kO (pa:PlainAttrs T)(slot:Slot T name id)(V4:typeOf (.builtin id)=pure (.type "method_descriptor"))(hm:GU X id r)(ho:PE X o to)(ha:PA X (e::es) t)
 (KJ:attributeBase o name X.env (eval o X.env)=eval o X.env:=by rfl)
 (V5:((backTo JG (starEach (e::es) X.env)).all (λx=>!x.1)&&(backToKw JG (keywordEach [] X.env)).all (λx=>x.1.isSome)
  && decide ((e::es).length+([]:List Keyword).length+(if([]:List Keyword).isEmpty then 0 else 1)<30))=true:=by rfl)
 (KL:(apos.endLine==JG.line)=true:=by rfl)(hs:starEach (e::es) X.env=(false,eval e X.env):: starEach es X.env:=by rfl)(N5:(backTo JG (starEach es X.env)).any (·.1)=false:=by rfl):
 PE X (.Call (.Attribute o name apos) (e::es) [] JG) (ab8 X.K T r to t):=by
 intro pins s σ H Q I h;refine wpAny_Call_method_late KJ V5 KL rfl (bO (ho pins s σ H _ I h) λv s1 z'=>?_);obtain⟨x,H1,I1,r1,ty,q1⟩:=z';obtain⟨h1,h2⟩:=xT I1 r1 ty;refine⟨T,id,pa,slot,V4,h1,h2,?_⟩;have hA:=ha JG pins s1 σ H1 _ I1 q1;rw[hs] at hA |-;refine tT (by show(false || (backTo JG (starEach es X.env)).any (·.1))=false;rw[N5] <;> rfl) (wz ?_);exact bO hA λus s2 ⟨vs,H2,I2,r2,q2⟩=>hm pins s2 σ H2 x vs v us Q I2 r1 r2 q2
/- xs.append(e),list.index on a Qq tuple .. are GU facts of 06m -/
end
def IE (X:Cx)(id:String)(r:V->List V->Hp->VK->Prop):Prop :=
 ∀(pins:List (Addr×Obj))(s:AL)(σ:St)(H:Hp)(x:V)(xs:List V)(v:Value)(us:yX)(Q:VK),Inv X pins σ H s->aI x v->aR xs us->r x xs H Q →
  wpAny (model X.prog X.w) X.A (call (.builtin id) (v::us)) (EP X pins σ Q) X.xe s
theorem aR.one:∀{x:V}{us:yX},aR [x] us->∃u,us=[u]/\aI x u
 |_,_,.cons r .nil=>⟨_,rfl,r⟩
theorem aR.zero:∀{us:yX},aR [] us->us=[]
 |_,.nil=>rfl
section
variable {X:Cx}{pins:List (Addr×Obj)}{σ:St}{H:Hp}{s:AL}{l b:Addr}{xs ys zs:List V}
theorem Inv.akE {its':yX}{f:Array Value->Array Value}{t':Nat}(I:Inv X pins σ H s)(hH:H l=some (.lst xs))
 (e:s.heap.get? l=some {cls:=.type "list",data:=.seq its.toArray n})(hf:f its.toArray=its'.toArray)(hv:aR ys its')(hz:ys.length<=sizeLine):
 Inv X pins σ (upd H l (.lst ys)) {s with heap:=s.heap.update l (Obj.mapSeq f),toks:=t'}:=by
 have q:=PySem.IsL.update e f;rw[hf] at q;refine I.write (x:=l) (e:=l) (by rw[hH];exact trivial) (.inl rfl) (λb' u hb hu=>(mE s.heap (Obj.mapSeq f) (Jm hb)).trans hu) ⟨_,q⟩ ?_;exact⟨hz,its',_,hv,q⟩
theorem Inv.amm {t':Nat}(I:Inv X pins σ H s)(hv:aR ys its)(hz:ys.length<=sizeLine):
 Inv X pins σ (upd H s.heap.objs.size (.lst ys)) {s with heap:=s.heap.push {cls:=.type "list",data:=.seq its.toArray},toks:=t'}:=
 I.laid (λ_ _ q=>wa _ q) (zC _) ⟨hz,its,0,hv,Hr _ rfl⟩
theorem Inv.fresh (I:Inv X pins σ H s):H s.heap.objs.size=none:=I.hok.fresh (zC _)
theorem Inv.aja (I:Inv X pins σ H s)(hH:H l=some (.lst xs)):xs.length<=sizeLine/\∃(its:yX)(n:Nat),aR xs its/\xs.length=its.length/\s.heap.get? l=some {cls:=.type "list",data:=.seq its.toArray n}:=by
 obtain⟨z,its,n,r,e⟩:=I.hok l _ hH;exact⟨z,its,n,r,r.length,e⟩
end
section
variable {X:Cx}
def ajb:V->List V->Hp->VK->Prop:=λx vs H Q=>∃l xs y,x=.ref l/\vs=[y]/\H l=some (.lst xs)/\xs.length<sizeLine/\Q .non (upd H l (.lst (xs++[y])))
theorem fL:IE X "list.append" ajb:=by
 intro pins s σ H x vs v us Q I rx rv h;obtain⟨l,xs,y,rfl,rfl,hH,hz,q⟩:=h
 cases rx
 obtain⟨u,rfl,ru⟩:=rv.one;obtain⟨z,its,n,r,hl,e⟩:=I.aja hH;refine call_meets F.slot_list_append ⟨_,e,rfl⟩ F.entry_list_append (F.args_list_append_2 _ _) (PySem.list_append l its.toArray n u (by rw[D4];omega)) ⟨e,?_⟩;refine⟨.non,_,I.akE (its':=its++[u]) hH e (by simp) (r.append (.cons ru .nil)) ?_,rfl,q⟩;rw[tE,List.length_singleton];omega
def ajU:V->List V->Hp->VK->Prop:=λx vs H Q=>∃l xs,x=.ref l/\vs=[]/\H l=some (.lst xs)/\Q .non (upd H l (.lst []))
theorem aca:IE X "list.clear" ajU:=by
 intro pins s σ H x vs v us Q I rx rv h;obtain⟨l,xs,rfl,rfl,hH,q⟩:=h
 cases rx
 have Vi:=rv.zero;subst Vi;obtain⟨z,its,n,r,hl,e⟩:=I.aja hH;refine call_meets F.slot_list_clear ⟨_,e,rfl⟩ F.entry_list_clear (F.args_list_clear_1 _) (AutoSeq1.list_clear_list_0 l its.toArray n (by rw[D4];omega)) ⟨e,?_⟩;exact⟨.non,_,I.akE (its':=[]) (ys:=[]) hH e rfl .nil (Ag _),rfl,q⟩
def amn:R2:=λx y H Q=>∃l b xs zs,x=.ref l/\y=.ref b/\H l=some (.lst xs)/\H b=some (.lst zs)/\xs.length+zs.length<=sizeLine/\∀p,H p=none->Q (.ref p) (upd H p (.lst (xs++zs)))
theorem zr:eU X (binaryOp .Add) amn:=by
 intro pins s σ H x y v u Q I rx ry h;obtain⟨l,b,xs,zs,rfl,rfl,hH,hB,hz,q⟩:=h
 cases rx
 cases ry
 obtain⟨z,its,n,r,hl,e⟩:=I.aja hH;obtain⟨z2,JA,n2,r2,J8,e2⟩:=I.aja hB;refine PySem.P.add_list e e2 ?_ (by rw[D4,D4];omega)
 have ea:its.toArray++JA.toArray=(its++JA).toArray:=by simp
 rw[ea];exact⟨.ref _,_,I.amm (t':=s.toks) (r.append r2) (by rw[tE];omega),rfl,q _ I.fresh⟩
end
end L2
namespace ZJ
open PySem PySem.W PySem.Calls PyProof.Rows
theorem acb {P:Params}{h:Heap}:∀(ns:List Int)(vs:yX),WellAll P h vs (ns.map WData.int)->IntsAre vs ns:=by
 intro ns
 induction ns with
 |nil =>
  intro vs w;rw[List.map_nil] at w
  cases w
  exact .nil
 |cons n ns ih =>
  intro vs w;rw[Jr] at w
  cases w with
  |cons a b =>
   cases a
   exact .cons _ _ (ih _ b)
theorem acT {l:OpenLaw}{n:Nat}(hn:l.most=some n){P:Params}{h:Heap}{args:List WData}{vals:yX}
 (MG:l.row.toRowW.claim.pre args=true)(PF:WellAll P h vals args):
 ∃a vs ns,vals=[Value.ref a]/\args=[WData.list (ns.map WData.int)]/\h.get? a=some {cls:=.type "list",data:=.seq vs.toArray}/\IntsAre vs ns/\ns.length<=n:=by
 have hsh:WShape.hasAll [] args [.list .int]=true:=(pre_splitW MG).1;have hc:l.pre.holds [] {args:=args}=true:=(pre_splitW MG).2;obtain⟨d,r,rfl,h1,h2⟩:=hasAllW_cons hsh;obtain rfl:=hasAllW_nil h2;obtain⟨xs,rfl,h3⟩:=hasW_list h1;obtain⟨ns,rfl⟩:=items_int h3
 have hlen:ns.length<=n:=by
  unfold OpenLaw.pre at hc
  have h4:(WTm.not (.lt (.lit (.int (n:Int))) (.len (.arg 0)))).holds [] {args:=[.list (ns.map .int)]}=true:=by
   have h4:=(holds_andW hc).1;rw[hn] at h4;exact h4
  have h5:=condW_of h4 (w_not (w_lt w_lit (w_len_list (w_arg rfl))));rw[vW] at h5;refine Nat.le_of_not_lt λq=>?_
  have q':(n:Int)<((ns.length:Nat):Int):=by omega
  first
   |(rw[sG q'] at h5;exact absurd h5 (by decide))
   |(simp at h5;omega)
 cases PF with
 |cons w1 w2 =>
  cases w2
  cases w1 with
  |list ho V6=>exact⟨_,_,ns,rfl,rfl,ho,acb ns _ V6,hlen⟩
theorem TmX (l:OpenLaw)(args:List WData):l.row.toRowW.claim.post args (.bool true) args=true :=
 postW_of (r:=l.row.toRowW) (X:=(true==true))
  (show WShape.has [] (.bool true) .bool=true by first|rfl|decide|simp[WShape.has,WShape.arms,WShape.armsAll])
  (show(WTm.eq .res (.lit (.bool true))).value [] {args:=args,res:=some (.bool true),after:=args}=some (.bool (true==true)) from w_eq_bool (w_res rfl) w_lit) rfl
theorem aho {l:OpenLaw}{n:Nat}{q:Iy}{loose:p3}{XP:(Str->Option Value)->Heap->Prop}{YP:World->Heap->Prop}{d:DefRec}
 (hn:l.most=some n)(Qr:d.params.defaults=[])
 (call:∀(w:World)(s₀ s₁:AL)(mg mb:xk)(fa:Addr)(o:Obj)(pm cd doc:Value)(a:Addr)(vs:yX)(ns:List Int),
  Ground q loose [] XP w s₀ mg mb s₁.heap->YP w s₁.heap →
  s₁.heap.get? fa=some o->o.data=.func (docDef d.name d.params d.body d.scope pm cd doc)->s₁.heap.CodeRec cd d.name->mg d.name=some (.ref fa) →
  s₁.heap.get? a=some {cls:=.type "list",data:=.seq vs.toArray}->IntsAre vs ns->ns.length<=n->s₁.gens = #[] →
  codeAny (model l.prog w) callerA (.call (.ref fa) ⟨[.ref a],[]⟩) (λr s'=>r=.ok (.ret (.bool true))/\OldK s₁.heap s'.heap/\s'.os=s₁.os/\AllBare s'.gens) s₁):
 WalkO q loose XP YP l.row.toRowW d [] (λf vs=>PySem.call f vs):=by
 intro w s₀ s₁ mg mb G Y fa o pm cd doc dV kV ho hd Ka hD V7 hg args vals as MG ab0 hrd PF hlo;obtain rfl:dV=.none:=Dflts.none hD Qr;obtain rfl:kV=.none:=Dflts.noKw hD;obtain⟨a,vs,ns,rfl,rfl,N6,hints,hlen⟩:=acT hn MG PF;refine enter_call (AK (call w s₀ s₁ mg mb fa o pm cd doc a vs ns G Y ho (fd_plain hd) Ka V7 N6 hints hlen hg) λr s' hq=>?_);obtain⟨rfl,h2,h3,h4⟩:=hq;exact⟨.inl ⟨.bool true,.bool true,[],rfl,λ_=>rfl,.bool true,TmX l _,λ_=>⟨List.Pairwise.nil,λ_ hm=>(nomatch hm)⟩⟩,h2,h3,h4⟩
end ZJ
namespace L2
open PySem PySem.Spec PyProof.Rows
theorem mZ:∀{vs:yX}{ns:List Int},IntsAre vs ns->aR (ns.map V.int) vs
 |_,_,.nil=>.nil
 |_,_,.cons n t h=>.cons ⟨t,rfl⟩ (mZ h)
structure Dp (K:PySem.W.Frag)(x qual:Str)(st:Stmt)(f:Addr)(fd:qo):Prop where
 ex:∃(oc:Value)(od:rW)(kV doc pm:Value)(an:rW)(Jw ct:Value)(JM:Hl),
  fd=PySem.W.fnOf x qual (dn st) (cB st) (aq st) .none kV doc pm an Jw ct/\K.lookup f=some ⟨oc,od,.func fd,JM⟩/\PySem.W.codeIn K Jw qual=true
 kp:PySem.W.keepIn K (.ref f)=true
variable {x qual:Str}{st:Stmt}{f:Addr}{fd:qo}{ps:p3}
section
variable {P:Iy}{w:World}{K:PySem.W.Frag}{mg:xk}{base:Heap}
theorem Dp.binds (F:Dp K x qual st f fd)
 (h:∀(kV doc pm:Value)(an:rW)(Jw ct:Value)(us:yX),us.length=ps.length->bindArgs (PySem.W.fnOf x qual (dn st) (cB st) (aq st) .none kV doc pm an Jw ct) ⟨us,[]⟩=pure (ps.zip us)):ax K fd ps []:=by
 obtain⟨oc,od,kV,doc,pm,an,Jw,ct,JM,rfl,lk,Ka⟩:=F.ex;exact .all (h kV doc pm an Jw ct)
theorem agQ {oc:Value}{od an:rW}{JM:Hl}{kV doc pm Jw ct:Value}(l:K.lookup f=some ⟨oc,od,.func (PySem.W.fnOf x qual (dn st) (cB st) (aq st) .none kV doc pm an Jw ct),JM⟩)
 (c:PySem.W.codeIn K Jw qual=true)(k:PySem.W.keepIn K (.ref f)=true):Dp K x qual st f (PySem.W.fnOf x qual (dn st) (cB st) (aq st) .none kV doc pm an Jw ct):=⟨⟨oc,od,kV,doc,pm,an,Jw,ct,JM,rfl,l,c⟩,k⟩
end
theorem agV {n:Nat}(h:n<=1000):n<sizeLine:=Gv h (by decide)
section
variable {X:Cx}
theorem pv (i:Nat){pos:Pos}(hN:X.N[i]?=some x:=by rfl)(hv:GP X.env.scope x:=by first|exact Or.inl rfl|exact Or.inr (Or.inl rfl)|exact Or.inr (Or.inr rfl))(hd:(x==("__debug__":Str))=false:=by decide)
 (Ka:(x==("__classdict__":Str))=false:=by decide):PE X (.Name x pos) (gr i):=aai hN hv hd Ka
end
theorem bw {A B:Prop}(h:B):if false=true then A else B:=by
 rw[qM IA];exact h
theorem bZ {A B:Prop}(h:A):if true=true then A else B:=by
 rw[zj rfl];exact h
theorem dO {c A B:Prop} [Decidable c](h1:c->A)(h2:¬c->B):if c then A else B:=by
 by_cases h:c
 ·rw[zj h];exact h1 h
 ·rw[qM h];exact h2 h
def aA (H H':Hp):Prop:=∀b o,H b=some o->H' b=some o
theorem aA.refl (H:Hp):aA H H:=λ_ _ h=>h
variable {H:Hp}
theorem aA.trans {H1 H2:Hp}(a:aA H H1)(b:aA H1 H2):aA H H2:=λc o h=>b c o (a c o h)
variable {P:Iy}{w:World}{h:Heap}{a:Addr}
theorem eG {o:HO}(x:gB P w H h)(hn:H a=none)(new:bJ P w (upd H a o) h a o):gB P w (upd H a o) h:=λb u e=>by
 by_cases hb:b=a
 ·subst hb;rw[ah] at e;cases e;exact new
 ·rw[av hb] at e
  exact(x b u e).ahP (λc v _ q=>q) (λc q=>by rw[av (au q hn)];exact q) λc xs q=>by rw[av (au q hn)];exact q
variable {env:Env}
section
variable {prog:Iy}{w:World}{A:Around}{R:Result->Shared->Prop}{s:AL}
theorem agX {elt target iter:Expr}{ifs:vH}{scope:Scope}{pos:Pos}{it acc:Value}(I:Nat->Shared->Prop)
 (turn:∀n s,I n s->wpAny (model prog w) A (pyNext it) (λr s₁=>match r with
  |none=>R (.ok .next) s₁
  |some v=>wpAny (model prog w) A (letOwnedTupleGo target it v) (λ_ s₁=>wpAny (model prog w) A (assign target env v) (λ_ s₂ =>
   wpAny (model prog w) A (forIn ifs true λc r=>if r=true then do let ok <-isTrue c env (eval c env);pure (ForInStep.yield ok) else pure (ForInStep.yield r)) (λok s₃ =>
    if ok=true then wpAny (model prog w) A (eval elt env) (λx s₄ =>
     wpAny (model prog w) A (call (.builtin "list.append") [acc,x]) (λ_ s₅=>∃m,m<n/\I m s₅) (λ_ _=>False) s₄) (λ_ _=>False) s₃
    else ∃m,m<n/\I m s₃) (λ_ _=>False) s₂) (λ_ _=>False) s₁) (λ_ _=>False) s₁) (λ_ _=>False) s)
 (n:Nat)(h:I n s):
 codeAny (model prog w) A (.compLoop (.ListComp elt [⟨target,iter,ifs,0⟩] scope pos) 0 it acc env) R s:=by
 refine codeAny_loop rfl I (λn s hI=>?_) n h;show wpAny _ A ((compTurn (.ListComp elt [⟨target,iter,ifs,0⟩] scope pos) 0 it acc env).onRaise (λx=>do noteFrame x env;theTreesLotGoes x)) _ _ s;refine wpAny_noted ?_;rw[compTurn_list];refine C7 (vy (C7 (vF (turn n s hI) (λr s₁ h₁=>?_) λ_ _ z=>False.elim z)))
 cases r with
 |none=>exact pO h₁
 |some v =>
  refine C7 (vF h₁ (λ_ ZK Qs=>?_) λ_ _ z=>False.elim z);refine C7 (vF Qs (λ_ s₂ h₂=>C7 (vF h₂ (λok s₃ h₃=>?_) λ_ _ z=>False.elim z)) λ_ _ z=>False.elim z)
  cases ok with
  |false=>exact pO ⟨rfl,h₃⟩
  |true =>
   exact C7 (C7 (vF h₃ (λx s₄ h₄=>C7 (vF h₄ (λ_ s₅ h₅=>pO (pO ⟨rfl,h₅⟩)) λ_ _ z=>False.elim z)) λ_ _ z=>False.elim z))
end
def eM (names:List (Str×NameKind))(env:Env):List (Str×Addr):=((names.filter λx=>x.2 == .free).map λx=>(x.1,(env.cells.lookup x.1).getD 0)).reverse
theorem abK {scope:Scope}(h:∀x∈scope.names,x.2=.free->∃c,env.cells.lookup x.1=some c):closureFor scope env=pure (eM scope.names env):=by
 have key:∀(names:List (Str×NameKind))(cs:List (Str×Addr)),(∀x∈names,x.2=.free->∃c,env.cells.lookup x.1=some c) →
  (forIn names cs (λ(x:Str×NameKind)(r:List (Str×Addr))=>if(x.2==NameKind.free)=true then(do let a <-cellOf env x.1;pure (ForInStep.yield ((x.1,a):: r))) else pure (ForInStep.yield r)):Sem (List (Str×Addr)))=pure (eM names env++cs):=by
  intro names
  induction names with
  |nil=>intro cs _;rfl
  |cons x r ih =>
   intro cs hn;rw[BH];obtain⟨n,k⟩:=x
   by_cases hk:k=.free
   ·subst hk;obtain⟨c,hc⟩:=hn (n,.free) Ij rfl
    have hco:cellOf env n=pure c:=by unfold cellOf;rw[hc]
    simp only[Ab,En,hco,pure_bind];rw[ih _ λy hy=>hn y (Er _ hy)];simp[eM,hc]
   ·have hb:(k==NameKind.free)=false:=by simpa using hk
    simp only[hb,Ep,CR,pure_bind];rw[ih _ λy hy=>hn y (Er _ hy)];simp[eM,hb]
 have z:=key scope.names [] h;rw[xY] at z;unfold closureFor
 first
  |exact z
  |(simp only[bind_pure];exact z)
  |(simp;exact z)
theorem ke {names:List (Str×NameKind)}(h:∀x∈names,x.2=.free->∃c,env.cells.lookup x.1=some c){c:Addr}(e:(eM names env).lookup x=some c):env.cells.lookup x=some c:=by
 have m:=G9 e;unfold eM at m;rw[GN,Hy] at m;obtain⟨y,hy,e'⟩:=m;rw[Jn] at hy;obtain⟨c',JI⟩:=h y hy.1 (by simpa using hy.2);rw[JI] at e'
 injection e' with e1 e2
 subst e1;rw[JI];exact Hh some e2
theorem qP {names:List (Str×NameKind)}{env:Env}(hm:(x,NameKind.free)∈names):∃c,(eM names env).lookup x=some c:=by
 have m:∃c,(x,c)∈eM names env:=⟨(env.cells.lookup x).getD 0,by
  unfold eM;rw[GN,Hy]
  exact⟨(x,.free),Jn.mpr ⟨hm,rfl⟩,rfl⟩⟩
 obtain⟨c,m⟩:=m
 cases q:(eM names env).lookup x with
 |some d=>exact⟨d,rfl⟩
 |none =>
  exfalso
  have:∀(l:List (Str×Addr)),(x,c)∈l->l.lookup x≠none:=by
   intro l
   induction l with
   |nil=>intro h;cases h
   |cons p r ih =>
    intro h;rw[ya]
    rcases BN.mp h with h|h
    ·subst h;simp
    ·split
     ·simp
     ·exact ih h
  exact this _ m q
def cG (X:Cx)(N:p3)(scope:Scope)(C:Addr)(fp:List Addr)(s:AL)(H:Hp):Cx where
 prog:=X.prog
 w:=X.w
 K:=X.K
 mg:=X.mg
 base:=X.base
 A:=X.A
 N:=N
 s₀:=s
 H₀:=H
 env:=compEnvC scope (eM scope.names X.env) C X.env
 outer:=X.stack
 stack:=X.stack
 ex:=fp
 fn:=λ_=>false
 calm:=X.calm
 pn:=[]
 xe:=λ_ _=>False
def σC (nl:Nat)(js:List Nat)(σ:St):St:=List.replicate nl none++js.map λj=>(σ[j]?).join
structure BG (X:Cx)(N:p3)(nl:Nat)(js:List Nat)(osc scope:Scope):Prop where
 out:X.env.scope=osc
 kind:scope.kind=.function
 cell:∀y∈scope.names,y.2≠.cell
 names:∀y∈scope.names,y.2=.local->scope.names.lookup y.1=some .local
 free:∀y∈scope.names,y.2=.free->osc.names.lookup y.1=some .cell\/osc.names.lookup y.1=some .free
 len:N.length=nl+js.length
 src:Paired (λj x=>X.N[j]?=some x/\(x,NameKind.free)∈scope.names) js (N.drop nl)
 amo:∀y∈scope.names,y.2=.free->scope.names.lookup y.1≠some .local
theorem fX {env:Env}:∀{names:List (Str×NameKind)}{x:Str}{k:NameKind},(∀y∈names,y.2≠.cell) →
 (names.map λ(n,k)=>if(k==NameKind.free&&env.scope.kind == .function&&env.kindOf n==some .cell) then(n,NameKind.cell) else(n,k)).lookup x=some k->(k=.cell\/k=.free)->(x,NameKind.free)∈names
 |[],_,_,_,h,_=>by simp at h
 |(n,k0):: r,x,k,hc,h,hk=>by
  have h:List.lookup x ((if(k0==NameKind.free&&env.scope.kind == .function&&env.kindOf n==some .cell)=true then(n,NameKind.cell) else(n,k0)):: r.map λ(n,k)=>if(k==NameKind.free&&env.scope.kind == .function&&env.kindOf n==some .cell) then(n,NameKind.cell) else(n,k))=some k:=h;have ih:=@fX env r x k λy hy=>hc y (Er _ hy)
  by_cases hx:x=n
  ·subst hx
   have Qt:k0=.free:=by
    by_cases hb:(k0==NameKind.free&&env.scope.kind == .function&&env.kindOf x==some .cell)=true
    ·have:=(xo.mp (xo.mp hb).1).1;simpa using this
    ·rw[qM hb] at h;simp only[ya,Ab] at h;have e:k0=k:=Option.some.inj h
     rcases hk with z|z
     ·exact absurd (e.trans z) (hc (x,k0) Ij)
     ·exact e.trans z
   subst Qt;exact Ij
  ·have hb:(x==n)=false:=by simpa using hx
   refine Er _ (ih ?_ hk)
   by_cases JI:(k0==NameKind.free&&env.scope.kind == .function&&env.kindOf n==some .cell)=true
   ·rw[zj JI] at h;simp only[ya,hb] at h;exact h
   ·rw[qM JI] at h;simp only[ya,hb] at h;exact h
variable {pins:List (Addr×Obj)}{σ:St}{s:AL}{C:Addr}{g:TG}{tt:TT}{te:TE}
section
variable {X:Cx}{tg iter elt:Expr}{ifs:vH}{scope osc:Scope}{pos:Pos}{N:p3}{nl:Nat}{js:List Nat}
def AU (X:Cx)(ifs:vH)(t:TT):Prop :=
 ∀(pins:List (Addr×Obj))(s:AL)(σ:St)(H:Hp)(Q:Bool->Hp->Prop),Inv X pins σ H s->t σ H Q →
  wpAny (model X.prog X.w) X.A (forIn ifs true λc r=>if r=true then do let ok <-isTrue c X.env (eval c X.env);pure (ForInStep.yield ok) else pure (ForInStep.yield r)) (TP X pins σ Q) X.xe s
def EY:TT:=λ_ H Q=>Q true H
theorem dk:AU X [] EY:=λ_ _ _ H _ I h=>wpAny_tests_nil ⟨H,I,h⟩
theorem iU {c:Expr}{t:TT}(h:PT X c t):AU X [c] t:=λpins s σ H Q I hw=>wpAny_tests_one (h pins s σ H Q I hw)
theorem cW {s:AL}{b:Addr}{h':Heap}(I:Inv X pins σ H s)(f:c7 X pins H b)(sb:Heap.SameBut b s.heap h'):Inv X pins σ H {s with heap:=h'}:=
 I.turned (t':=s.toks) (λc o hc e=>(sb.2 c hc).trans e) f.1 f.2.1 f.2.2.2.1 f.2.2.2.2.1 f.2.2.2.2.2
def jC (J:It)(g:TG)(tt:TT)(te:TE)(W:Nat->Nat->List V->St->Hp->Prop)(Fin:List V->Hp->Prop):Prop :=
 ∀i m xs σ' H',W i m xs σ' H'->xs.length<sizeLine/\((J.stop i H'/\Fin xs H') \/
  (J.go i H'/\∀x H2,J.yld i H' x H2->g x σ' H2 λσ3 H3=>tt σ3 H3 λb H4 =>
   if b=true then te σ3 H4 λy H5=>∃m',m'<m/\W (i+1) m' (xs++[y]) σ3 H5 else ∃m',m'<m/\W (i+1) m' xs σ3 H4))
theorem mJ {fp:List Addr}{h1:Heap}{tk:Nat}(S:BG X N nl js osc scope)(I:Inv X pins σ H s)(f:∀b∈fp,c7 X pins H b)(MH:∀b∈fp,b<s.heap.objs.size)
 (hC:s.heap.objs.size<=C)(old:∀b o,s.heap.get? b=some o->h1.get? b=some o){m1:xk}(Lp:h1.Ns C m1):
 Inv (cG X N scope C fp s H) [] (σC nl js σ) H {s with heap:=h1,toks:=tk}:=by
 have KI:∀y∈scope.names,y.2=.free->X.env.kindOf y.1=some .cell\/X.env.kindOf y.1=some .free:=λy hy hf=>by
  have:=S.free y hy hf;rw[<-S.out] at this;exact this
 have Kd:∀y∈scope.names,y.2=.free->∃c,X.env.cells.lookup y.1=some c:=λy hy hf=>I.ok.has y.1 (KI y hy hf);have sub:∀x c,(eM scope.names X.env).lookup x=some c->X.env.cells.lookup x=some c:=λx c e=>ke Kd e
 have N7:∀b∈fp,b∉eV X.stack:=λb hb z=>by
  rcases BN.mp (I.agN b z) with q|q
  ·exact(f b hb).2.1 q
  ·exact(f b hb).2.2.1 q
 refine⟨⟨I.ok.mod,S.kind,I.ok.glob,I.ok.blt,hC,λx y c e1 e2=>I.ok.inj x y c (sub x c e1) (sub y c e2),λx hx=>?_,λx c z _=>absurd z (by show ¬(false=true);decide),I.ok.hd,I.ok.frames,.inl rfl,
  λb hb=>⟨Ie (HY (MH b hb) hC),λx c e=>(f b hb).2.2.2.2.1 x c (sub x c e)⟩,I.bs,EW I.ok.bsz I.sz,λb o e hb=>?_,N7,I.stack,I.ahh⟩,
  rfl,I.bare,Un.kept old,⟨m1,Lp,λi x v e1 e2 e3=>?_⟩,λx c e=>?_,I.hok.fresh hC,λx c e=>I.agK x c (sub x c e),λp hp=>absurd (show p∈([]:List (Addr×Obj)) from hp) (by simp),I.hok.kept old,?_⟩
 ·have hx:(relabel scope X.env).names.lookup x=some .cell\/(relabel scope X.env).names.lookup x=some .free:=hx
  have m:(x,NameKind.free)∈scope.names:=by
   rcases hx with z|z
   ·exact fX S.cell z (.inl rfl)
   ·exact fX S.cell z (.inr rfl)
  exact qP m
 ·rcases(f b hb).2.2.2.1 with z|z
  ·exact I.ok.aiD b o e z
  ·exact absurd (HY (Ec e) (EW I.ok.bsz z)) (CD _)
 ·-- M4 names
  have e1:N[i]?=some x:=e1;unfold σC at e2
  by_cases hi:i<nl
  ·rw[vO (by simpa using hi),List.getElem?_replicate] at e2
   split at e2 <;> cases e2
  ·obtain⟨k,rfl⟩:∃k,i=nl+k:=⟨i-nl,by omega⟩;rw[rE (by simp),wj,Nat.add_sub_cancel_left,wN] at e2
   cases ej:js[k]? with
   |none=>rw[ej] at e2;cases e2
   |some j =>
    rw[ej] at e2;have e2:some ((σ[j]?).join)=some (some v):=e2;have e2:=Option.some.inj e2
    have e4:σ[j]?=some (some v):=by
     cases q:σ[j]? with
     |none=>rw[q] at e2;cases e2
     |some z=>rw[q] at e2;exact Hh some e2
    have e5:(N.drop nl)[k]?=some x:=by rw[List.getElem?_drop];exact e1
    have gp:∀{l1:List Nat}{l2:p3}{k:Nat}{j:Nat}{x:Str},Paired (λj x=>X.N[j]?=some x/\(x,NameKind.free)∈scope.names) l1 l2->l1[k]?=some j->l2[k]?=some x->X.N[j]?=some x/\(x,NameKind.free)∈scope.names:=by
     intro l1 l2 k j x p
     induction p generalizing k with
     |nil=>intro h;simp at h
     |cons r _ ih =>
      intro h1 h2
      cases k with
      |zero=>simp at h1 h2;subst h1;subst h2;exact r
      |succ k=>exact ih (by simpa using h1) (by simpa using h2)
    obtain⟨hx,hm⟩:=gp S.src ej e5;have hk:=KI (x,.free) hm rfl;obtain⟨m,hn,hl⟩:=I.loc
    have vis:GP X.env.scope x:=by
     rcases hk with z|z
     ·exact .inr (.inl z)
     ·exact .inr (.inr z)
    obtain⟨u,r,l⟩:=hl j x v hx e4 vis;refine⟨u,r,?_⟩
    rcases l with⟨k1,_⟩|⟨_,c,hc,Ld⟩
    ·exfalso
     rcases hk with z|z <;> (rw[z] at k1;cases k1)
    ·obtain⟨c',JI⟩:=qP (env:=X.env) hm;have:=sub x c' JI;rw[hc] at this
     cases this
     refine .inr ⟨?_,c,JI,?_⟩
     ·rcases e3 with z|z|z
      ·-- a name of M4 Vj own: no
       exfalso
       have lk:scope.names.lookup x=some .local:=by
        have gen:∀(l:List (Str×NameKind)),(l.map λ(n,k)=>if(k==NameKind.free&&X.env.scope.kind == .function&&X.env.kindOf n==some .cell) then(n,NameKind.cell) else(n,k)).lookup x=some .local->l.lookup x=some .local:=by
         intro l
         induction l with
         |nil=>intro h;simp at h
         |cons p r ih =>
          obtain⟨n,k0⟩:=p;intro h;have h:List.lookup x ((if(k0==NameKind.free&&X.env.scope.kind == .function&&X.env.kindOf n==some .cell)=true then(n,NameKind.cell) else(n,k0)):: r.map λ(n,k)=>if(k==NameKind.free&&X.env.scope.kind == .function&&X.env.kindOf n==some .cell) then(n,NameKind.cell) else(n,k))=some .local:=h
          cases hb:x==n with
          |true =>
           by_cases JI:(k0==NameKind.free&&X.env.scope.kind == .function&&X.env.kindOf n==some .cell)=true
           ·rw[zj JI] at h;simp only[ya,hb] at h;cases h
           ·rw[qM JI] at h;simp only[ya,hb] at h |-;exact h
          |false =>
           simp only[ya,hb];refine ih ?_
           by_cases JI:(k0==NameKind.free&&X.env.scope.kind == .function&&X.env.kindOf n==some .cell)=true
           ·rw[zj JI] at h;simp only[ya,hb] at h;exact h
           ·rw[qM JI] at h;simp only[ya,hb] at h;exact h
        exact gen _ z
       exact S.amo (x,.free) hm rfl lk
      ·exact .inl z
      ·exact .inr z
     ·obtain⟨o,ho,hd⟩:=Ld;exact⟨o,old _ _ ho,hd⟩
 ·obtain⟨v,o,ho,hd⟩:=I.cell x c (sub x c e);exact⟨v,o,old _ _ ho,hd⟩
 ·show(σC nl js σ).length=N.length;unfold σC;rw[tE,wj,vW,S.len]
abbrev iJ (ys:yX)(k:Nat):Obj:={cls:=.type "list",data:=.seq ys.toArray k}
theorem ko {J:It}{it:Addr}{fp:List Addr}{tn:Nat->Heap->Prop}{W:Nat->Nat->List V->St->Hp->Prop}{Fin:List V->Hp->Prop}
 {E:Bf}{RR:Value->Addr->Result->Shared->Prop}
 (S:BG X N nl js osc scope)(hc:X.calm=true)(hg:∀C fp s H,PG (cG X N scope C fp s H) tg g)(ht:∀C fp s H,AU (cG X N scope C fp s H) ifs tt)(he:∀C fp s H,PE (cG X N scope C fp s H) elt te)
 (I:Inv X pins σ H s)(T:Turn X.prog X.w X.K tg J fp it tn)(st:tn 0 s.heap)(f:∀b∈fp,c7 X pins H b)(w0:∃m,W 0 m [] (σC nl js σ) H)(hW:jC J g tt te W Fin)
 (V8:∀(D C:Addr)(H':Hp)(s':AL)(xs:List V)(m:xk),Inv X pins σ (upd H' D (.lst xs)) s'->H' D=none->s'.heap.Ns C m->c7 X pins (upd H' D (.lst xs)) C->Fin xs H'->RR (.ref D) C (.ok .next) s'):
 wpAny (model X.prog X.w) X.A (newList []) (λacc s₃=>wpAny (model X.prog X.w) X.A (newFunctionEnv scope X.env.globals (eM scope.names X.env) [] X.env.qual none .none (some X.env)) (λLC s₄ =>
  codeAny (model X.prog X.w) X.A (.compStart (.ListComp elt [⟨tg,iter,ifs,0⟩] scope pos) 0 (.ref it) acc {LC with scope:=relabel scope X.env}) (RR acc LC.locals) s₄) E s₃) E s:=by
 have MH:∀b∈fp,b<s.heap.objs.size:=λb hb=>by
  obtain⟨o,e,_⟩:=T.obj 0 _ st b hb;exact Ec e
 refine Dr (wpAny_newFunctionEnv S.cell (by intro y hy;simp at hy) (λh₁ K3 Kt=>?_) S.kind);dsimp only at K3 Kt |-;generalize N8:s.heap.push {cls:=.type "list",dict:=none,data:=.seq ([]:yX).toArray}=H2 at K3 Kt |-
 have hC:H2.objs.size=s.heap.objs.size+1:=by rw[<-N8,DG]
 have Mp:s.heap.objs.size≠H2.objs.size:=by rw[hC];exact Ie (xO _)
 have below:∀b,b<s.heap.objs.size->b≠H2.objs.size/\b≠s.heap.objs.size:=λb hb=>⟨by rw[hC];exact Ie (rG hb),Ie hb⟩;have old:∀b o,s.heap.get? b=some o->h₁.get? b=some o:=λb o e=>Kt.extBut b o (below b (Ec e)).1 (wa _ (N8▸wa _ e));have N9:h₁.get? s.heap.objs.size=some {cls:=.type "list",data:=.seq ([]:yX).toArray 0}:=Kt.extBut _ _ Mp (wa _ (N8▸Hr _ rfl))
 have LD:s.heap.objs.size<=H2.objs.size:=by rw[hC];exact jL _
 have Kd:∀y∈scope.names,y.2=.free->∃c,X.env.cells.lookup y.1=some c:=λy hy hf=>by
  have z:=S.free y hy hf;rw[<-S.out] at z;exact I.ok.has y.1 z
 have sub:∀x c,(eM scope.names X.env).lookup x=some c->X.env.cells.lookup x=some c:=λx c e=>ke Kd e
 have V9:∀x c,(eM scope.names X.env).lookup x=some c->c<s.heap.objs.size:=λx c e=>by
  obtain⟨v,q⟩:=I.cell x c (sub x c e);exact q.lt
 have N7:∀b∈fp,b∉eV X.stack:=λb hb z=>by
  rcases BN.mp (I.agN b z) with q|q
  ·exact(f b hb).2.1 q
  ·exact(f b hb).2.2.1 q
 have PH:s.heap.objs.size∉eV X.stack:=λz=>by
  rcases BN.mp (I.agN _ z) with q|q
  ·exact absurd I.lt (by rw[<-q];exact CD _)
  ·exact I.ajM (zC _) q
 have Qu:s.heap.objs.size∉fp:=λz=>CD _ (MH _ z)
 have Oa:∀{H':Hp}{ob:Obj},(∀b∈fp,H' b=none)->∀b∈fp,c7 (cG X N scope H2.objs.size fp s H) [(s.heap.objs.size,ob)] H' b:=λ{H' ob} hn b hb =>
  ⟨hn b hb,(below b (MH b hb)).1,N7 b hb,.inl hb,λx c e=>(f b hb).2.2.2.2.1 x c (sub x c e),λp hp z=>by
   have e:p=(s.heap.objs.size,ob):=by
    have:p∈[(s.heap.objs.size,ob)]:=hp;simpa using this
   subst e
   exact Qu (by rw[show s.heap.objs.size=b from z];exact hb)⟩
 have Wa:∀{H':Hp},H' s.heap.objs.size=none->c7 (cG X N scope H2.objs.size fp s H) [] H' s.heap.objs.size:=λ{H'} hn =>
  ⟨hn,Mp,PH,.inr (zC _),λx c e=>Ie (V9 x c e),λp hp=>absurd (show p∈([]:List (Addr×Obj)) from hp) (by simp)⟩
 have MI:∀{σ':St}{H':Hp}{s':AL}{ys:yX}{k:Nat},Inv (cG X N scope H2.objs.size fp s H) [] σ' H' s'->H' s.heap.objs.size=none->s'.heap.get? s.heap.objs.size=some (iJ ys k) →
  Inv (cG X N scope H2.objs.size fp s H) [(s.heap.objs.size,iJ ys k)] σ' H' s':=λ{σ' H' s' ys k} I' hn hl=>I'.afF λp hp=>by
  have e:p=(s.heap.objs.size,iJ ys k):=by simpa using hp
  subst e;exact⟨hl,hn,Mp,PH,λv z=>by cases z⟩
 have lD:∀s₃:Shared,s₃={s with heap:=h₁,toks:=s.toks+([]:List (Str×Value)).length} →
  codeAny (model X.prog X.w) X.A (.compLoop (.ListComp elt [⟨tg,iter,ifs,0⟩] scope pos) 0 (.ref it) (.ref s.heap.objs.size) (compEnvC scope (eM scope.names X.env) H2.objs.size X.env))
   (RR (.ref s.heap.objs.size) H2.objs.size) s₃:=by
  rintro s₃ rfl;obtain⟨m0,w0⟩:=w0;have I0:Inv (cG X N scope H2.objs.size fp s H) [] (σC nl js σ) H {s with heap:=h₁,toks:=s.toks+([]:List (Str×Value)).length}:=mJ S I f MH LD old K3
  refine agX (λn s'=>∃i σ' H' xs ys k,Inv (cG X N scope H2.objs.size fp s H) [(s.heap.objs.size,iJ ys k)] σ' H' s'/\tn i s'.heap/\(∀b∈fp,H' b=none)/\aR xs ys/\W i n xs σ' H') ?_ m0
   ⟨0,σC nl js σ,H,[],[],0,MI I0 (I.hok.fresh (zC _)) N9,T.keep _ _ _ st λb _ o e=>old b o e,λb hb=>(f b hb).1,.nil,w0⟩
  rintro n s' ⟨i,σ',H',xs,ys,k,I',Kb,Qv,rv,w'⟩;obtain⟨hz,hw⟩:=hW i n xs σ' H' w'
  rcases hw with⟨stop,fin⟩|⟨go,step⟩
  ·refine vF (T.done (cG X N scope H2.objs.size fp s H) rfl rfl rfl hc i _ s' σ' H' (λ_ _=>False) I' (Oa Qv) Kb stop) (λr s1 z'=>?_) λ_ _ z=>z;obtain⟨hr,I1⟩:=z';subst hr;obtain⟨p1,p2,_⟩:=I1.pin (s.heap.objs.size,iJ ys k) (by show _∈([]:List (Addr×Obj))++[_];simp);have u1:Un (eV X.stack) fp H H' s.heap s1.heap:=I1.base
   have u2:Un (eV X.stack) fp H (upd H' s.heap.objs.size (.lst xs)) s.heap s1.heap:=⟨u1.keep,u1.slot,λb o e n hx=>by rw[av (Ie (Ec e))];exact u1.free b o e n hx,u1.there,
    λb zs e=>by rw[av (au (u1.agG b zs e) p2)];exact u1.agG b zs e,λb o zs e=>by rw[av (au (u1.afH b o zs e) p2)];exact u1.afH b o zs e,λb ps e=>by
     obtain⟨mo,q⟩:=u1.agR b ps e
     exact⟨mo,by rw[av (au q p2)];exact q⟩⟩
   have hk:gB X.prog X.w (upd H' s.heap.objs.size (.lst xs)) s1.heap:=eG I1.hok p2 ⟨xa hz,ys,k,rv,p1⟩;have I3:Inv X pins σ (upd H' s.heap.objs.size (.lst xs)) s1:=I.ajt I1.os u2 hk I1.bare λb hb=>⟨(f b hb).2.2.2.1,(f b hb).2.1,(f b hb).2.2.2.2.1,(f b hb).2.2.2.2.2⟩;obtain⟨mm,Wc,_⟩:=I1.loc
   have Wd:upd H' s.heap.objs.size (.lst xs) H2.objs.size=none:=by rw[av (Jm Mp)];exact I1.free
   exact V8 _ _ H' s1 xs mm I3 p2 Wc (I.aha LD Wd) fin
  ·refine vF (T.item (cG X N scope H2.objs.size fp s H) rfl rfl rfl hc i _ s' σ' H' (λ_ _=>False) I' (Oa Qv) Kb go) (λr s1 z'=>?_) λ_ _ z=>z;obtain⟨u,hr,h4⟩:=z';subst hr;refine vF h4 (λ_ s2 z'=>?_) λ_ _ z=>z;obtain⟨x,Qw,I2,r2,y2,K1,We⟩:=z';have Wf:=I2.pinned (Oa We) (T.obj _ _ K1);refine vF (hg _ _ _ _ _ s2 σ' Qw x u _ Wf r2 (step x Qw y2)) (λ_ s3 z'=>?_) λ_ _ z=>z;obtain⟨σ3,H3,I3,q3⟩:=z';refine vF (ht _ _ _ _ _ s3 σ3 H3 _ I3 q3) (λok s4 z'=>?_) λ_ _ z=>z;obtain⟨H4,I4,q4⟩:=z'
   have back:∀{s5:AL}{H5:Hp},Inv (cG X N scope H2.objs.size fp s H) ([(s.heap.objs.size,iJ ys k)]++dQ fp s2.heap) σ3 H5 s5->tn (i+1) s5.heap/\∀b∈fp,H5 b=none:=λ{s5 H5} I5 =>
    ⟨T.keep _ _ _ K1 λb hb o e=>(I5.pin (b,o) (GZ _ (GZ _ (cN hb e)))).1,λb hb=>by
     obtain⟨o,e,d⟩:=T.obj _ _ K1 b hb
     exact(I5.pin (b,o) (GZ _ (GZ _ (cN hb e)))).2.1⟩
   cases ok with
   |false =>
    rw[qM IA] at q4 |-;obtain⟨m',hm,w4⟩:=q4;exact⟨m',hm,i+1,σ3,H4,xs,ys,k,I4.afC,(back I4).1,(back I4).2,rv,w4⟩
   |true =>
    rw[zj rfl] at q4 |-;refine vF (he _ _ _ _ _ s4 σ3 H4 _ I4 q4) (λv s5 z'=>?_) λ_ _ z=>z;obtain⟨y,H5,I5,r5,m',hm,w5⟩:=z';obtain⟨p1,p2,_⟩:=I5.pin (s.heap.objs.size,iJ ys k) (GZ _ (Jp _ (by simp)));obtain⟨Qh,VW⟩:=back I5;refine append_at (its:=ys.toArray) p1 (λh' sb hD=>?_) (by rw[D4,<-rv.length];exact xa hz);have I6:Inv (cG X N scope H2.objs.size fp s H) [] σ3 H5 {s5 with heap:=h'}:=cW (I5.afF (pins':=[]) λp hp=>absurd hp (by simp)) (Wa p2) sb;refine⟨m',hm,i+1,σ3,H5,xs++[y],ys++[v],k+1,MI I6 p2 ?_,T.keep _ _ _ Qh λb hb o e=>(sb.2 b λz=>Qu (z▸hb)).trans e,VW,rv.append (.cons r5 .nil),w5⟩;rw[hD];show some _=some (iJ (ys++[v]) (k+1));rw[iJ,<-List.push_toArray]
 exact codeAny_compStart_list (lD _ rfl) (T.self X.A 0 _ _ _ (T.keep _ _ _ st λb _ o e=>old b o e) (lD _ rfl))
def B9 (wi:TI)(g:TG)(tt:TT)(te:TE)(nl:Nat)(js:List Nat):TE:=λσ H Q=>wi σ H λJ H1 =>
 ∃W:Nat->Nat->List V->St->Hp->Prop,(∃m,W 0 m [] (σC nl js σ) H1)/\jC J g tt te W λxs H'=>∀D,H' D=none->Q (.ref D) (upd H' D (.lst xs))
theorem iw (S:BG X N nl js osc scope)(I:Inv X pins σ H s):closureFor scope X.env=pure (eM scope.names X.env):=abK λy hy hf=>by
 have z:=S.free y hy hf;rw[<-S.out] at z;exact I.ok.has y.1 z
theorem dm {wi:TI}(S:BG X N nl js osc scope)(hc:X.calm=true)(hi:PI X tg iter wi)(hg:∀C fp s H,PG (cG X N scope C fp s H) tg g)(ht:∀C fp s H,AU (cG X N scope C fp s H) ifs tt)
 (he:∀C fp s H,PE (cG X N scope C fp s H) elt te)(hs:∀x,foldedSetIterable iter X.env x=pure x:=by intro _;rfl):
 PE X (.ListComp elt [⟨tg,iter,ifs,0⟩] scope pos) (B9 wi g tt te nl js):=by
 intro pins s σ H Q I h;rw[eval_ListComp];refine DC (use:=none) rfl hs (iw S I) S.kind S.names (bO (hi pins s σ H _ I h) λv s1 h1=>bO h1 λPy s2 h2=>?_);obtain⟨it,fp,tn,J,H2,e,I2,T,K1,f2,W,w0,hW⟩:=h2;subst e;refine ko (RR:=λacc C=>compPost (model X.prog X.w) X.A X.xe none (EP X pins σ Q) acc C) S hc hg ht he I2 T K1 f2 w0 hW ?_;intro D C H' s' xs m I3 hD hn fC fin;exact⟨m,hn,λh' sb=>⟨.ref D,_,cW I3 fC sb,rfl,fin D hD⟩⟩
theorem pe {i:Nat}{y:Str}{py Qx:Pos}{wi:TI}(S:BG X N nl js osc scope)(hc:X.calm=true)(hN:X.N.Nodup)(hy:X.N[i]?=some y)(hl:E7 X.env.scope y)(hi:PI X tg iter wi)
 (hg:∀C fp s H,PG (cG X N scope C fp s H) tg g)(ht:∀C fp s H,AU (cG X N scope C fp s H) ifs tt)(he:∀C fp s H,PE (cG X N scope C fp s H) elt te)
 (hsw:swapsWith (.ListComp elt [⟨tg,iter,ifs,0⟩] scope pos) (some (.Name y py)) Qx.line X.env=pure true)(hs:∀x,foldedSetIterable iter X.env x=pure x:=by intro _;rfl)
 (hf:X.fn y=true\/X.env.scope.names.lookup y=some .local:=by first|exact .inl rfl|exact .inr rfl|assumption):
 PS X (.Assign [.Name y py] (.ListComp elt [⟨tg,iter,ifs,0⟩] scope pos) Qx) (xg (B9 wi g tt te nl js) (bN i)):=by
 intro pins s σ H D I h;rw[exec_Assign_Name_used _ _ _ _ hsw];refine C7 (vy (C7 ?_));show wpAny _ X.A (do let _ <-comprehension (.ListComp elt [⟨tg,iter,ifs,0⟩] scope pos) scope X.env _ (newList []) false (eval iter X.env) (some (assign (.Name y py) X.env))) _ _ s
 refine C7 (vF (DC (use:=some (assign (.Name y py) X.env)) (Q:=λ_ s'=>SP X pins D .next s') rfl hs (iw S I) S.kind S.names
  (bO (hi pins s σ H _ I h) λv s1 h1=>bO h1 λPy s2 h2=>?_)) (λ_ s' hq=>pO (pO hq)) λ_ _ e=>e)
 obtain⟨it,fp,tn,J,H2,e,I2,T,K1,f2,W,w0,hW⟩:=h2;subst e;refine ko (RR:=λacc C=>compPost (model X.prog X.w) X.A X.xe (some (assign (.Name y py) X.env)) (λ_ s'=>SP X pins D .next s') acc C) S hc hg ht he I2 T K1 f2 w0 hW ?_;intro Dd C H' s' xs m I3 hD hn fC fin;show wpAny _ X.A (assign (.Name y py) X.env (.ref Dd)) _ _ _;refine wpAny_assign_Name (nv I3 hN hy hl (show aI (.ref Dd) (.ref Dd) from rfl) (λs4 I4 z'=>?_) hf);obtain⟨a,sb,ha⟩:=z';refine⟨m,hn.sameBut sb ?_,λh' Qy=>⟨_,_,cW I4 fC Qy,fin Dd hD⟩⟩
 rcases ha with z|z
 ·rw[z];exact fC.2.1
 ·exact λq=>fC.2.2.2.2.1 _ _ z q.symm
end
open PySem.W
def abQ (h B:Heap)(e:Addr)(cls a0 fl:Value)(d:rW):Prop :=
 ∃(o:Obj)(vs:EV)(T:Addr)(oT:Obj)(ts:EV),h.get? e=some o/\o.dict=d/\(o.cls=cls/\vs[0]?=some a0)/\o.data=.fields vs/\vs[1]?=some (.ref T)/\B.get? T=none/\T≠e/\h.get? T=some oT/\oT.data=.fields ts/\ts[3]?=some fl
structure Ih (B:Heap)(l:List Env)(e:Addr)(cls a0 fl:Value)(d:rW)(h:Heap):Prop where
 st:B.StaysIn h
 new:B.get? e=none
 fr:h.FunFrames B l
 tr:abQ h B e cls a0 fl d
variable {o:Obj}{vs:EV}
section
variable {M:Model}{A:Around}{E:Bf}{s:AL}{B:Heap}{env:Env}{outer:List Env}{L e:Addr}{cls a0:Value}{d:rW}{Q:Unit->Shared->Prop}
theorem vh {hd:Value}{nx:Bool}(LF:A.frames=some (env::outer))(fr:s.heap.FunFrames B (env::outer))(hf:env.frame=some L)(st:B.StaysIn s.heap)(new:B.get? e=none)
 (he:s.heap.get? e=some o)(KN:o.dict=d)(hc:o.cls=cls)(hv:o.data=.fields vs)(h1:1<vs.size)(h0:vs[0]?=some a0)
 (h:∀h',Ih B (env::outer) e cls a0 (rawInt L) d h'->s.heap.UpToSlots h'->Q () {s with heap:=h'}):
 wpAny M A (do let a <-frameOf env;let pl <-entryPlaceOf L nx;let b <-EntryCells.newEntry hd a .none (rawInt L) .none pl;setField (.ref e) 1 b) Q E s:=by
 have nf:e∉(env::outer).filterMap (·.frame):=λm=>by
  obtain⟨_,o',JW,q⟩:=fr.mem m;rw[he] at JW;cases JW;exact q vs hv
 refine C7 (wpAny_frameOf_fun LF fr hf λg sl=>C7 (wpAny_entryPlaceOf λpl K2=>?_));unfold EntryCells.newEntry newFields;refine C7 (Dr ?_ (K2.sizeOk5 _ _ _ _ _));have e1:g.get? e=some o:=(sl.2.1 e nf).trans he;have ZL:B.StaysIn g:=λb ob q=>(sl.2.1 b λm=>by rw[(fr.mem m).1] at q;cases q).trans (st b ob q);have ne:g.objs.size≠e:=BL (Ec e1);have dv:=Bl hv (·.setIfInBounds 1 (Value.ref g.objs.size))
 have kp:∀(oT:Obj) b ob,b≠e->g.get? b=some ob->((g.push oT).update e (Obj.mapFields (·.setIfInBounds 1 (Value.ref g.objs.size)))).get? b=some ob:=λoT b ob hb q =>
  (mE _ _ (Jm hb)).trans (wa _ q)
 have nr:∀b ob,s.heap.get? b=some ob->(∀ws,ob.data≠.fields ws)->b≠e:=λb ob q hn z=>by rw[z,he] at q;cases q;exact hn vs hv
 refine mq (wa _ e1) hv h1 (h _ ⟨λb ob q=>kp _ b ob (λz=>by rw[z,new] at q;cases q) (ZL b ob q),new,fr.of_keeps λb ob q hn=>?_,?_⟩ λb ob q hn=>?_)
 ·obtain⟨z,q1⟩:=sl.2.2 b ob q;exact⟨_,kp _ b _ (nr b ob q hn) q1,rfl⟩
 ·refine⟨_,_,g.objs.size,_,_,mD _ (wa _ e1) (vz dv),?_,⟨(FO _ _).trans hc,by rw[yD (by decide)];exact h0⟩,dv,by simp[h1],ZL.fresh,ne,
   (mE _ _ (Jm ne)).trans (Hr g rfl),rfl,by first|(simp;done)|(rcases K2 with rfl|⟨_,_,_,_,_,_,_,rfl⟩ <;> simp)⟩
  rw[<-KN]
  cases o
  dsimp only at hv;subst hv;rfl
 ·obtain⟨z,q1⟩:=sl.2.2 b ob q;exact⟨z,kp _ b _ (nr b ob q hn) q1⟩
theorem ab3 (LF:A.frames=some (env::outer))(hf:env.frame=some L)(x:Ih B (env::outer) e cls a0 .none d s.heap)
 (h:∀h',Ih B (env::outer) e cls a0 (rawInt L) d h'->s.heap.UpToSlots h'->Q () {s with heap:=h'}):wpAny M A (noteFrame (.ref e) env) Q E s:=by
 obtain⟨o,vs,T,oT,ts,he,KN,⟨hc,h0⟩,hv,h1,nT,Te,hT,M8,h3⟩:=x.tr;unfold noteFrame;simp only[hf];refine C7 (HE he hv h1 ?_);rw[zj (by simp)];refine C7 (HE hT M8 h3 ?_);rw[qM (by simp[rawInt])];refine C7 (mq hT M8 (rC.mp h3).1 ?_);have ot:∀b,b≠T->(s.heap.update T (Obj.mapFields (·.setIfInBounds 3 Value.none))).get? b=s.heap.get? b:=λb hb=>mE _ _ (Jm hb)
 have nr:∀b ob,s.heap.get? b=some ob->(∀ws,ob.data≠.fields ws)->b≠T:=λb ob q hn z=>by rw[z,hT] at q;cases q;exact hn ts M8
 refine vh (s:={s with heap:=s.heap.update T (Obj.mapFields (·.setIfInBounds 3 Value.none))}) LF (x.fr.of_keeps λb ob q hn=>⟨ob,(ot b (nr b ob q hn)).trans q,rfl⟩) hf (λb ob q=>(ot b λz=>by rw[z,nT] at q;cases q).trans (x.st b ob q)) x.new
  ((ot e (Jm Te)).trans he) KN hc hv (rC.mp h1).1 h0 λh' y up=>h h' y λb ob q hn=>up b ob ((ot b (nr b ob q hn)).trans q) hn
theorem ace (LF:A.frames=some (env::outer))(fr:s.heap.FunFrames B (env::outer))(hf:env.frame=some L)(st:B.StaysIn s.heap)(new:B.get? e=none)
 (he:s.heap.get? e=some o)(KN:o.dict=d)(hc:o.cls=cls)(hv:o.data=.fields vs)(h1:vs[1]?=some .none)(h0:vs[0]?=some a0)
 (h:∀h',Ih B (env::outer) e cls a0 (rawInt L) d h'->s.heap.UpToSlots h'->Q () {s with heap:=h'}):wpAny M A (noteFrame (.ref e) env) Q E s:=by
 unfold noteFrame;simp only[hf];refine C7 (HE he hv h1 ?_);rw[qM (by decide)];exact vh LF fr hf st new he KN hc hv (rC.mp h1).1 h0 h
theorem qf {l:List Env}{fl:Value}(x:Ih B l e cls a0 fl d s.heap)(h:∀h',Ih B l e cls a0 .none d h'->s.heap.UpToSlots h'->Q () {s with heap:=h'}):wpAny M A (setFlight (.ref e) none) Q E s:=by
 obtain⟨o,vs,T,oT,ts,he,KN,hc,hv,h1,nT,Te,hT,M8,h3⟩:=x.tr;have z3:3<ts.size:=(rC.mp h3).1;have ot:∀b,b≠T->(s.heap.update T (Obj.mapFields (·.setIfInBounds 3 Value.none))).get? b=s.heap.get? b:=λb hb=>mE _ _ (Jm hb)
 have nr:∀b ob,s.heap.get? b=some ob->(∀ws,ob.data≠.fields ws)->b≠T:=λb ob q hn z=>by rw[z,hT] at q;cases q;exact hn ts M8
 unfold setFlight;refine C7 (HE he hv h1 ?_);rw[zj (by simp)];refine mq hT M8 z3 (h _ ⟨λb ob q=>(ot b λz=>by rw[z,nT] at q;cases q).trans (x.st b ob q),x.new,x.fr.of_keeps λb ob q hn=>⟨ob,(ot b (nr b ob q hn)).trans q,rfl⟩,?_⟩ λb ob q hn=>⟨ob.slots,(ot b (nr b ob q hn)).trans q⟩);exact⟨o,vs,T,_,_,(ot e (Jm Te)).trans he,KN,hc,hv,h1,nT,Te,mD _ hT (vz (Bl M8 _)),Bl M8 _,by simp[z3]⟩
theorem Ih.out {fl:Value}(x:Ih B (env::outer) e cls a0 fl d h):Ih B outer e cls a0 fl d h:=⟨x.st,x.new,x.fr.2.2,x.tr⟩
theorem acp (LF:A.frames=some (env::outer))(hf:env.frame=some L)(x:Ih B (env::outer) e cls a0 .none d s.heap)
 (h:∀h',Ih B outer e cls a0 .none d h'->s.heap.UpToSlots h'->Q () {s with heap:=h'}):wpAny M A (leaving env (.ref e)) Q E s:=by
 unfold leaving;exact C7 (ab3 LF hf x λg y up=>qf (s:={s with heap:=g}) y λg2 y2 Wg=>h g2 y2.out (up.trans Wg))
theorem acx (LF:A.frames=some (env::outer))(fr:s.heap.FunFrames B (env::outer))(hf:env.frame=some L)(st:B.StaysIn s.heap)(new:B.get? e=none)
 (he:s.heap.get? e=some o)(KN:o.dict=d)(hc:o.cls=cls)(hv:o.data=.fields vs)(h1:vs[1]?=some .none)(h0:vs[0]?=some a0)
 (h:∀h',Ih B outer e cls a0 .none d h'->s.heap.UpToSlots h'->Q () {s with heap:=h'}):wpAny M A (leaving env (.ref e)) Q E s:=by
 unfold leaving;exact C7 (ace LF fr hf st new he KN hc hv h1 h0 λg y up=>qf (s:={s with heap:=g}) y λg2 y2 Wg=>h g2 y2.out (up.trans Wg))
end
theorem bJ.there {o:HO}(x:bJ P w H h a o):∃ob,h.get? a=some ob:=by
 cases o with
 |lst xs=>obtain⟨_,_,_,_,e⟩:=x;exact⟨_,e⟩
 |tup xs=>obtain⟨_,_,_,ob,e,_⟩:=x;exact⟨_,e⟩
 |dK Jt=>obtain⟨_,_,_,_,o,_,_,e,_⟩:=x;exact⟨_,e⟩
 |dT Jt=>obtain⟨_,_,_,_,o,_,_,e,_⟩:=x;exact⟨_,e⟩
 |set S n=>obtain⟨o,_,_,_,e,_⟩:=x;exact⟨_,e⟩
 |ins C dx fs=>obtain⟨_,_,_,e,_⟩:=x;exact⟨_,e⟩
 |own y=>obtain⟨_,e⟩:=x;exact⟨_,e⟩
 |xd fs=>obtain⟨_,⟨_,_,_,e,_⟩,_⟩:=x;exact⟨_,e⟩
 |rng lo hi=>obtain⟨_,_,_,e⟩:=x;exact⟨_,e⟩
 |frz ob u=>obtain⟨e,_⟩:=x;exact⟨_,e⟩
 |tbl ps=>exact⟨_,(show h.get? a=some _ from x)⟩
 |met f y=>exact⟨_,(show h.get? a=some _ from x)⟩
 |ext φ=>obtain⟨_,⟨_,e⟩,_⟩:=x;exact⟨_,e⟩
structure DF (P:Iy)(w:World)(l:List Env)(H₀:Hp)(h₀:Heap)(a:Addr)(cls:Value)(H:Hp)(h:Heap)(B:Heap)(a0:Value)(d:rW):Prop where
 fly:Ih B l a cls a0 .none d h
 un:Un (eV l) [] H₀ H h₀ h
 keep:∀b o,h₀.get? b=some o->H₀ b=none->b∉eV l->B.get? b=some o
 there:∀b o,h₀.get? b=some o->b∉eV l->∃o',B.get? b=some o'
 hok:gB P w H B
 new:H a=none
def aO (P:Iy)(w:World):rS:=λouter H₀ s₀ E e s'=>∃(a:Addr)(cls a0:Value)(B:Heap)(d:rW)(H:Hp),e=.ref a/\s'.os=s₀.os/\AllBare s'.gens/\DF P w outer H₀ s₀.heap a cls H s'.heap B a0 d/\E cls d H
variable {cls:Value}
section
variable {X:Cx}{pins:List (Addr×Obj)}{σ:St}{H H':Hp}{s s':AL}{P:Iy}{w:World}
theorem fG {base:Heap}{l:List Env}(F:h.FunFrames base l){b:Addr}(hb:b∈eV l)(e:h.get? b=some o):∀vs,o.data≠.fields vs:=by
 obtain⟨_,o',e',d⟩:=F.mem hb;rw[e] at e'
 cases e'
 exact d
theorem acz {outer:List Env}{h' Mq B:Heap}{e t:Addr}{args:yX}{d:rW}(I:Inv X pins σ H s)(hex:X.ex=[])(Qg:X.stack=X.env::X.outer)(hm:Heap.MadeExcOf s.heap h' e cls args)
 (hB:B=PySem.W.hideAll s.heap (eV X.stack))(hf:Ih B X.outer e cls (.ref t) .none d Mq)(Vk:h'.UpToSlots Mq):DF X.prog X.w X.outer X.H₀ X.s₀.heap e cls H Mq B (.ref t) d:=by
 subst hB;have st:=hf.st;have Qz:∀b o,s.heap.get? b=some o->b∉eV X.stack->(PySem.W.hideAll s.heap (eV X.stack)).get? b=some o:=λb o e n=>PySem.W.hideAll_get _ e n
 have old:∀b o,X.s₀.heap.get? b=some o->b∉eV X.outer->b∉eV X.stack:=λb o e n z=>by
  rcases BN.mp (I.agN b z) with q|q
  ·exact absurd (HY (Ec e) I.ok.above) (by rw[q];exact CD _)
  ·exact n q
 have base:Un (eV X.outer) [] X.H₀ H X.s₀.heap s.heap:=by
  have z:=I.base;rw[hex] at z;exact z
 refine⟨hf,⟨λb o e n hb _=>st b o (Qz b o (base.keep b o e n hb (by simp)) (old b o e hb)),λb o e n hb _=>?_,base.free,λb o e _=>?_,base.agG,base.afH,base.agR⟩,λb o e n hb=>Qz b o (base.keep b o e n hb (by simp)) (old b o e hb),λb o e hb=>?_,λb u e=>?_,?_⟩
 ·obtain⟨sl,e1⟩:=base.slot b o e n hb (by simp);obtain⟨Mo,e2⟩:=Vk b _ (hm.keeps b _ e1) (fG I.agY hb e1);exact⟨Mo,e2⟩
 ·obtain⟨o',e1⟩:=base.there b o e (by simp)
  by_cases hb:b∈eV X.outer
  ·obtain⟨Mo,e2⟩:=Vk b _ (hm.keeps b _ e1) (fG I.agY hb e1);exact⟨_,e2⟩
  ·exact⟨o',st b o' (Qz b o' e1 (old b o e hb))⟩
 ·obtain⟨o',e1⟩:=base.there b o e (by simp);exact⟨o',Qz b o' e1 (old b o e hb)⟩
 ·exact(I.hok b u e).ahP (λc v hc q=>Qz c v q λz=>by
   have n:=I.ahh c z
   rcases hc with hc|hc
   ·rw[hc,e] at n;cases n
   ·rw[n] at hc;cases hc) (λ_ q=>q) λ_ _ q=>q
 ·cases q:H e with
  |none=>rfl
  |some u =>
   obtain⟨ob,e1⟩:=(I.hok e u q).there;rw[hm.new] at e1
   cases e1
theorem acJ {Mq B:Heap}{a0:Value}{d:rW}(I:Inv X pins σ H s)(hex:X.ex=[])(F:DF X.prog X.w X.stack H s.heap a cls H' s'.heap B a0 d)
 (hf:Ih B X.outer a cls a0 .none d Mq)(Vk:s'.heap.UpToSlots Mq):DF X.prog X.w X.outer X.H₀ X.s₀.heap a cls H' Mq B a0 d:=by
 have st:=hf.st
 have sub:∀b,b∈eV X.outer->b∈eV X.stack:=λb hb=>by
  rcases I.ok.stk with z|⟨z,LF⟩
  ·rw[z];exact hb
  ·rw[z];unfold eV;rw[BB,LF];exact Er _ hb
 have old:∀b o,X.s₀.heap.get? b=some o->b∉eV X.outer->b∉eV X.stack:=λb o e n z=>by
  rcases BN.mp (I.agN b z) with q|q
  ·exact absurd (HY (Ec e) I.ok.above) (by rw[q];exact CD _)
  ·exact n q
 have base:Un (eV X.outer) [] X.H₀ H X.s₀.heap s.heap:=by
  have z:=I.base;rw[hex] at z;exact z
 have kB:∀b o,X.s₀.heap.get? b=some o->X.H₀ b=none->b∉eV X.outer->B.get? b=some o:=λb o e n hb =>
  F.keep b o (base.keep b o e n hb (by simp)) (base.free b o e n (by simp)) (old b o e hb)
 have tB:∀b o,X.s₀.heap.get? b=some o->b∉eV X.outer->∃o',B.get? b=some o':=λb o e hb=>by
  obtain⟨o',e1⟩:=base.there b o e (by simp);exact F.there b o' e1 (old b o e hb)
 have LB:∀b o,s.heap.get? b=some o->H b=none->b∈eV X.outer->∃sl,Mq.get? b=some {o with slots:=sl}:=λb o e n hb=>by
  obtain⟨sl,e1⟩:=F.un.slot b o e n (sub b hb) (by simp);obtain⟨Mo,e2⟩:=Vk b _ e1 (λvs q=>fG I.agY hb e vs q);exact⟨Mo,e2⟩
 refine⟨hf,⟨λb o e n hb _=>st b o (kB b o e n hb),λb o e n hb _=>?_,λb o e n _=>?_,λb o e _=>?_,λb xs e=>F.un.agG b xs (base.agG b xs e),λb o xs e=>F.un.afH b o xs (base.afH b o xs e),λb ps e=>?_⟩,kB,tB,F.hok,F.new⟩
 ·obtain⟨sl,e1⟩:=base.slot b o e n hb (by simp);obtain⟨Mo,e2⟩:=LB b _ e1 (base.free b o e n (by simp)) hb;exact⟨Mo,e2⟩
 ·obtain⟨o',e1⟩:=base.there b o e (by simp);exact F.un.free b o' e1 (base.free b o e n (by simp)) (by simp)
 ·by_cases hb:b∈eV X.outer
  ·obtain⟨o',e1⟩:=base.there b o e (by simp);have n:H b=none:=I.ahh b (sub b hb);obtain⟨sl,e2⟩:=LB b o' e1 n hb;exact⟨_,e2⟩
  ·obtain⟨o',e1⟩:=tB b o e hb;exact⟨o',st b o' e1⟩
 ·obtain⟨m1,e1⟩:=base.agR b ps e;obtain⟨m2,e2⟩:=F.un.agR b _ e1;exact⟨m1++m2,by rw[e2,By]⟩
end
theorem acU {K:PySem.W.Frag}{cd:ClassData}(h:PySem.W.clsIn K C=some cd):∃c d s,K.lookup C=some ⟨c,d,.cls cd,s⟩:=by
 unfold PySem.W.clsIn at h
 cases ho:K.lookup C with
 |none=>rw[ho] at h;cases h
 |some o =>
  rw[ho] at h;obtain⟨c,d,x,s⟩:=o
  cases x <;> cases h
  exact⟨_,_,_,rfl⟩
theorem TyX {α:Type}{l:List α}(h:l.length=6):∃a b c d e f,l=[a,b,c,d,e,f]:=by
 obtain⟨a,l,rfl⟩:=Ac h;obtain⟨b,l,rfl⟩:=Ac (A7 h);obtain⟨c,l,rfl⟩:=Ac (A7 (A7 h));obtain⟨d,l,rfl⟩:=Ac (A7 (A7 (A7 h)));obtain⟨e,l,rfl⟩:=Ac (A7 (A7 (A7 (A7 h))));obtain⟨f,rfl⟩:=List.length_eq_one_iff.mp (A7 (A7 (A7 (A7 (A7 h)))));exact⟨a,b,c,d,e,f,rfl⟩
theorem ab2 {K:PySem.W.Frag}{NX:yX}{newId:String}(X:K.In h)(q:jb K C NX newId=true):
 ∃bm N nm qn bs hd sn sub ab col dd k0 k1 k2 k3 k5 mN,h.get? C=some (excClassObj nm qn C N bs bm hd sn sub ab col dd k0 k1 k2 k3 k5 newId)/\h.Ns N mN/\mN "__init__"=none/\OwnTail h NX bm:=by
 have q1:=xo.mp q;obtain⟨cd,hc,q2⟩:=(Option.any_eq_true _ _).mp q1.2;obtain⟨c,dd,sl,ho⟩:=acU hc;have q3:=xo.mp q2;have q4:=xo.mp q3.2;have q5:=xo.mp q4.2;have q6:=xo.mp q5.2
 have e1:(c == .type "type"&&(sl.size==6&&sl.toList[4]?==some (some (.builtin newId))))=true:=by
  have z:=q1.1;rw[ho] at z;exact z
 have e2:=xo.mp e1;have e3:=xo.mp e2.2;obtain⟨k0,k1,k2,k3,k4,k5,e⟩:=TyX (l:=sl.toList) (eq_of_beq e3.1)
 have e4:k4=some (.builtin newId):=by
  have z:=eq_of_beq e3.2;rw[e] at z;exact Option.some.inj z
 have e5:sl = #[k0,k1,k2,k3,some (.builtin newId),k5]:=Array.toList_inj.mp (by rw[e,e4])
 have e6:cd.mro=.ref C::cd.mro.tail:=by
  obtain⟨r,z⟩:=List.head?_eq_some_iff.mp (eq_of_beq q3.1);rw[z];rfl
 have e7:cd.hasDel=false:=by simpa using q4.1
 refine⟨cd.mro.tail,cd.ns,cd.name,cd.qualname,cd.bases,cd.hasDict,cd.slotNames,cd.subclasses,cd.abstract,cd.collection,dd,k0,k1,k2,k3,k5,_,(X _ _ ho).trans ?_,.of_isNs (PySem.W.isNs_of_in X q6.1),PySem.W.nsMap_none_of_in X q6.1 (eq_of_beq q6.2),PySem.W.tail_of_in X q5.1⟩;rw[e5,eq_of_beq e2.1];show some (Obj.mk _ _ (.cls cd) _)=some (Obj.mk _ _ (.cls ⟨_,_,_,_,_,_,_,_,_,_,false⟩) _);rw[<-e6,<-e7]
def yO (X:Cx)(E:St->XK):Prop:=∀(pins:List (Addr×Obj))(σ:St)(H:Hp)(s:AL)(h':Heap)(e:Addr)(cls:Value)(args:yX),Inv X pins σ H s->Heap.MadeExcOf s.heap h' e cls args->E σ cls none H->X.xe (.ref e) {s with heap:=h'}
def acd (C:Addr)(E:St->XK)(t:TA):TS:=λ_ σ H=>t σ H λvs H1=>vs.length<=sizeLine/\E σ (.ref C) none H1
section
variable {X:Cx}{E:St->XK}{x:Str}{C:Addr}{B newId Ob:String}{NX:yX}{np JG pos:Pos}{e:Expr}{es:vH}{t:TA}
theorem dY (FB:ExcBaseFacts B newId Ob NX)(q:jb X.K C NX newId=true)(hc:X.calm=true)(hR:yO X E)(hg:Gl X x)(hm:X.mg x=some (.ref C))(ha:PA X (e::es) t)
 (he:starEach (e::es) X.env=(false,eval e X.env):: starEach es X.env:=by rfl)(K2:(backTo JG (starEach es X.env)).any (·.1)=false:=by rfl)(hd:(x==("__debug__":Str))=false:=by decide):
 PS X (.Raise (some (.Call (.Name x np) (e::es) [] JG)) none pos) (acd C E t):=by
 intro pins s σ H D I h;obtain⟨bm,N,nm,qn,bs,hdct,sn,sub,ab,col,dd,k0,k1,k2,k3,k5,mN,hC,hN,hni,T⟩:=ab2 I.ok.mod.kin q
 refine wpAny_Raise_call_subT (C:=C) (nm:=nm) (q:=qn) (N:=N) (bs:=bs) (bm:=bm) (hdct:=hdct) (sn:=sn) (sub:=sub) (ab:=ab) (col:=col) (dd:=dd) (k0:=k0) (k1:=k1) (k2:=k2) (k3:=k3) (k5:=k5)
  FB (mN:=mN) (T.hasType FB.hasBase) (I.ok.hd hc) (by rw[he];show(false || (backTo JG (starEach es X.env)).any (·.1))=false;rw[K2];rfl) hni (iM I hg hm ⟨rfl,?_⟩ hd)
 have z:=ha JG pins s σ H _ I h;rw[he] at z |-;refine wz (vF z (λus s₂ z'=>?_) λ_ _ y=>y);obtain⟨vs,H2,I2,rv,hl,hE⟩:=z';exact⟨rfl,by rw[<-rv.length];exact hl,I2.bk _ _ hC,hN.keeps I2.bk,T.keeps I2.bk,λh' e' Vl=>hR pins σ H2 s₂ h' e' _ _ I2 Vl hE⟩
end
section
variable {P:Iy}{w:World}{K:PySem.W.Frag}{mg:xk}{base:Heap}{N:p3}{qual:Str}{scope:Scope}{f:Addr}{cd:Value}{A:Around}{outer:List Env}{s:AL}{H:Hp}{E:XK}
theorem cO:yO (hZ (aO P w) P w K mg base N qual scope f cd A outer s H E) λ_=>E:=by
 intro pins σ H1 s1 h' e cls args I hm hE;have Qg:(hZ (aO P w) P w K mg base N qual scope f cd A outer s H E).stack=(hZ (aO P w) P w K mg base N qual scope f cd A outer s H E).env::outer:=rfl;have hl:=I.stack;obtain⟨t,he,htn,ht⟩:=hm.there;have hB:∀b o,(PySem.W.hideAll s1.heap (eV (hZ (aO P w) P w K mg base N qual scope f cd A outer s H E).stack)).get? b=some o->s1.heap.get? b=some o:=λb o q=>PySem.W.of_hideAll _ q
 have nB:(PySem.W.hideAll s1.heap (eV (hZ (aO P w) P w K mg base N qual scope f cd A outer s H E).stack)).get? e=none:=by
  cases q:(PySem.W.hideAll s1.heap (eV (hZ (aO P w) P w K mg base N qual scope f cd A outer s H E).stack)).get? e with
  |none=>rfl
  |some o=>have z:=hB _ _ q;rw[hm.new] at z;cases z
 have fr1:=PySem.W.funFrames_hide hl λenv he a ha=>AM.mpr ⟨env,he,ha⟩
 refine acx (B:=PySem.W.hideAll s1.heap (eV (hZ (aO P w) P w K mg base N qual scope f cd A outer s H E).stack)) (s:={s1 with heap:=h'}) (d:=none) (cls:=cls) (a0:=.ref t) I.ok.frames (fr1.of_keeps λb o q _=>⟨o,hm.keeps b o q,rfl⟩) rfl
  (λb o q=>hm.keeps b o (hB b o q)) nB he rfl rfl rfl rfl rfl λMq x1 x4=>?_
 exact⟨e,cls,.ref t,_,none,H1,rfl,I.os,I.bare,acz (outer:=outer) I rfl rfl hm rfl x1 x4,hE⟩
theorem acj:eP (aO P w) (hZ (aO P w) P w K mg base N qual scope f cd A outer s H E) E:=by
 intro pins σ H1 s1 e s' I hx;obtain⟨a,cls,a0,B,d,H',rfl,ho,hg,F,hE⟩:=hx;refine acp (L:=s.heap.objs.size) I.ok.frames rfl F.fly λMq x1 x2=>?_;exact⟨a,cls,a0,B,d,H',rfl,ho.trans I.os,hg,acJ I rfl F x1 x2,hE⟩
end
theorem ae {X:Cx}:eP (aO P w) X λ_ _ _=>False:=by
 intro pins σ H1 s1 e s' I hx;obtain⟨a,cls,a0,B,d,H',_,_,_,_,hE⟩:=hx;exact hE.elim
def F7 (a:Addr)(cls:Value):HO:=.ext λh=>∃o vs,h.get? a=some o/\o.cls=cls/\o.data=.fields vs
theorem vf (k:gB P w H h)(e:H a=some (F7 a cls)):∃o vs,h.get? a=some o/\o.cls=cls/\o.data=.fields vs:=(k a _ e).1
structure xr (K:Frag)(C:Addr):Prop where
 cls:(clsIn K C).isSome=true
 ga:findIn K (.ref C) "__getattribute__"=some (some (.builtin "BaseException.__getattribute__"))
 gx:findIn K (.ref C) "__getattr__"=some none
 ca:findIn K (.ref C) "__class__"=some (some (.builtin "object.__class__"))
 ob:mroIn K C (.type "object")=some true
 be:mroIn K C (.type "BaseException")=some true
section
variable {prog:Iy}{w:World}{A:Around}{E:Bf}{K:Frag}{x C:Addr}{ox:Obj}
theorem acw {M:Model}{M9:Value}{Q:Unit->Shared->Prop}(X:K.In s.heap)(k:xr K C)(e:s.heap.get? x=some ox)(hc:ox.cls=.ref C)(hq:Q () s):
 wpAny M A (checkBuiltinCall "BaseException.__getattribute__" ⟨[.ref x,M9],[]⟩) Q E s:=by
 obtain⟨hh,g,d,t,os⟩:=s;have L0:Looks M hh (typeOf (.ref x)) (.ref C):=hc▸(Looks.ld e).andThen .now;have L5:=looks_mroIn (M:=M) X k.be
 have hk:builtinKind "BaseException.__getattribute__"=some .slot:=by decide +kernel
 have K4:splitId "BaseException.__getattribute__"=some ("BaseException","__getattribute__"):=by decide +kernel
 have ha:=F.args_bexc_ga (.ref x) M9;simp only[checkBuiltinCall,hk,K4];unfold isInstance
 repeat (any_goals (first|assumption|lk|wp_step))
open Builtin Builtin.ObjectAttr Builtin.Getset_descriptor in
theorem acF {R:Result->Shared->Prop}{tp:Value}(X:K.In s.heap)(k:xr K C)(e:s.heap.get? x=some ox)(hc:ox.cls=.ref C)(h:R (.ok (.ret (.ref C))) s):
 codeAny (model prog w) A (.call (.builtin "getset_descriptor.__get__") ⟨[.builtin "object.__class__",.ref x,tp],[]⟩) R s:=by
 obtain⟨hh,g,dr,t,os⟩:=s;have L0:Looks (model prog w) hh (typeOf (.ref x)) (.ref C):=hc▸(Looks.ld e).andThen .now;have L1:=looks_mroIn (M:=model prog w) X k.ob;refine vT KF.slot_gs.plain KF.entry_gs (KF.slot_gs.check _ _ _ _ _ _ _ _ KF.type_class (KF.args_gs _ _ _) ?_);unfold Builtin.«getset_descriptor.__get__» descrGet;rw[dga_obj];refine C7 (pO ?_);unfold descrGetter descrCheckInstance descrNameAndClass isInstance;simp only[KF.owner_class]
 repeat lk
 refine⟨Code.quiet_builtin _ (by decide +kernel),wx KF.entry_class ?_⟩;unfold Builtin.«object.__class__» shownTypeOf
 repeat lk
 exact h
theorem ade {tk:Tok}{Q:PySem.Fin->Shared->Prop}(X:K.In s.heap)(k:xr K C)(e:s.heap.get? x=some ox)(hc:ox.cls=.ref C)(hq:Q (.done (.ret (.ref C))) s):
 wpAny (model prog w) A (Builtin.«object.__getattribute__» ⟨[.ref x,.str "__class__" tk],[]⟩) Q E s:=by
 obtain⟨hh,g,d,t,os⟩:=s;have L0:Looks (model prog w) hh (typeOf (.ref x)) (.ref C):=hc▸(Looks.ld e).andThen .now;have L3:=Df (M:=model prog w) X k.ca;have f5:=F.typeOf_object_class;have f6:=F.slot_gs_get.lookup;have f7:=F.slot_gs_set.lookup
 repeat (any_goals (first|assumption|(with_reducible refine Looks.at (by assumption) ?_)|(with_reducible refine Looks.at L0 ?_)|wp_step))
 refine acF X k e hc ?_
 repeat (any_goals (first|assumption|wp_step))
theorem adf {tk:Tok}{fill expr:Bool}{Q:Bf}{s:AL}(X:K.In s.heap)(k:xr K C)(e:s.heap.get? x=some ox)(hc:ox.cls=.ref C)(hq:Q (.ref C) s):
 wpAny (model prog w) A (getAttrBy (.ref x) (.str "__class__" tk) fill expr) Q E s:=by
 obtain⟨hh,g,d,t,os⟩:=s;have L0:Looks (model prog w) hh (typeOf (.ref x)) (.ref C):=hc▸(Looks.ld e).andThen .now;have L1:=Df (M:=model prog w) X k.ga;have L2:=Df (M:=model prog w) X k.gx;have f3:=F.attr_ValueError.ga.bind (.ref x)
 have hx0:(expr&&onTheHeap (Value.builtin "BaseException.__getattribute__"))=false:=by cases expr <;> rfl
 have J6:(Value.builtin "BaseException.__getattribute__"==Value.builtin "object.__getattribute__")=false:=by decide +kernel
 have QA:(onTheHeap (Value.ref C)&&Value.builtin "BaseException.__getattribute__"==Value.builtin "object.__getattribute__")=false:=by rw[J6];rfl
 repeat (any_goals (first|assumption|(with_reducible refine Looks.at (by assumption) ?_)|(with_reducible refine Looks.at L0 ?_)|wp_step))
 refine vT F.attr_ValueError.ga.plain F.entry_bexc_ga (acw X k e hc (ade X k e hc ?_))
 repeat (any_goals (first|assumption|wp_step))
theorem adg {Q:Option Value->Shared->Prop}(X:K.In s.heap)(k:xr K C)(e:s.heap.get? x=some ox)(hc:ox.cls=.ref C)(hq:Q (some (.ref C)) {s with toks:=s.toks+1}):
 wpAny (model prog w) A (getAttr? (.ref x) "__class__") Q E s:=by
 unfold getAttr? getAttrBy?;refine C7 (wpAny_mkText (C7 (rP (adf (s:={s with toks:=s.toks+1}) X k e hc ?_))));exact pO hq
theorem ae0 (k:xr K C):KitX K (.ref x) (.ref C) (λh=>∃o,h.get? x=some o/\o.cls=.ref C) where
 ty:=λ_ _ _ ⟨o,e,hc⟩=>hc▸(Looks.ld e).andThen .now
 it:=λ_ _ X _=>by
  have ME:=k.cls;unfold clsIn at ME
  split at ME
  ·rename_i c' d' cd' Mo ho
   intro A' Q' E' s' kk q;unfold isType loadHead;exact C7 (wpAny_loadPart (kk _ _ (X _ _ ho)) (pO q))
  ·cases ME
 ne:=λh tp dd its n sl X Wh=>by
  have ME:=k.cls;refine Bool.eq_false_iff.mpr λq=>?_;have e:C=tp:=Value.ref.inj (y7.mp q);subst e;unfold clsIn at ME
  split at ME
  ·rename_i c' d' cd' Mo ho
   have z:=(X _ _ ho).symm.trans Wh
   cases z
  ·cases ME
 ca:=λX ⟨o,e,hc⟩ q=>adg X k e hc q
end
section
variable {X:Cx}{pins:List (Addr×Obj)}{σ:St}{H:Hp}{s:AL}
inductive Iq (K:Frag)(H:Hp):V->Value->Prop where
 |of {x:V}{t:Value}(h:tQ K H x t):Iq K H x t
 |exc {a C:Addr}(e:H a=some (F7 a (.ref C)))(k:xr K C):Iq K H (.ref a) (.ref C)
theorem afv {A:Around}{E:Bf}{Q:Bf}{x:V}{u t c:Value}{b:Bool}(I:Inv X pins σ H s)(rx:aI x u)(ty:Iq X.K H x t)(e:kitOne X.K t c=some b)(h:∀tk,Q (.bool b) {s with toks:=tk}):
 wpAny (model X.prog X.w) A (call (.builtin "isinstance") [u,c]) Q E s:=by
 cases ty with
 |of z=>exact aaC I rx z e h
 |exc ea k =>
  rename_i a C
  cases(show u=Value.ref a from rx)
  obtain⟨o,vs,h1,h2,_⟩:=vf I.hok ea;exact kia_one (ae0 k) I.kIn ⟨o,h1,h2⟩ e (λz=>nomatch z) h
def afB:V->Value->Prop
 | .ty n,c=>c=.type n
 | .ref a,c=>c=.ref a
 |_,_=>False
theorem aZ:fQ X (.builtin "isinstance") (λxs H Q=>∃x c t cv b,xs=[x,c]/\afB c cv/\Iq X.K H x t/\kitOne X.K t cv=some b/\Q (.bl b) H):=by
 intro pins s σ H xs us Q I r h;obtain⟨x,c,t,cv,b,rfl,hc,ty,e,q⟩:=h
 cases r with
 |cons r1 r2 =>
  cases r2 with
  |cons r2 r3 =>
   cases r3
   rename_i u uc
   have huc:uc=cv:=by
    cases c with
    |ty n=>cases(show uc=Value.type n from r2);exact hc.symm
    |ref a=>cases(show uc=Value.ref a from r2);exact hc.symm
    |_=>exact hc.elim
   subst huc;exact afv I r1 ty e λtk=>⟨.bl b,H,I.tok tk,rfl,q⟩
end
variable {N:p3}{k:Nat}{sp:Sp}
section
variable {P:Iy}{w:World}{K:PySem.W.Frag}{mg:xk}{base:Heap}
theorem Dp.okN (F:Dp K x qual st f fd)(S:DK N ps (aq st))(len:∀vs H Q E,sp vs H Q E->vs.length=ps.length)
 (Kc:∀(Jw:Value)(A:Around)(outer:List Env)(s:AL)(H:Hp)(vs:List V)(Q:VK)(E:XK),A8 k (A.deeper (envOfC qual (aq st) s.heap.objs.size f Jw))->sp vs H Q E →
  ∃t,qO (hZ (aO P w) P w K mg base N qual (aq st) f Jw A outer s H E).nox (cB st) t/\t {nx:=λ_ H'=>Q .non H',rt:=Q} (ie N vs) H):zG P w K mg base (aO P w) (k+1) f fd ps sp:=by
 obtain⟨oc,od,kV,doc,pm,an,Jw,ct,JM,rfl,lk,Ka⟩:=F.ex;refine yr lk Ka S len λA outer s H vs Q E hr Lv=>?_;obtain⟨t,h,q⟩:=Kc Jw A outer s H vs Q E hr Lv;exact⟨t,h.nox,q⟩
theorem Dp.okE (F:Dp K x qual st f fd)(S:DK N ps (aq st))(len:∀vs H Q E,sp vs H Q E->vs.length=ps.length)
 (Kc:∀(Jw:Value)(A:Around)(outer:List Env)(s:AL)(H:Hp)(vs:List V)(Q:VK)(E:XK),A8 k (A.deeper (envOfC qual (aq st) s.heap.objs.size f Jw))->sp vs H Q E →
  ∃t,qO (hZ (aO P w) P w K mg base N qual (aq st) f Jw A outer s H E) (cB st) t/\t {nx:=λ_ H'=>Q .non H',rt:=Q} (ie N vs) H):zG P w K mg base (aO P w) (k+1) f fd ps sp:=by
 obtain⟨oc,od,kV,doc,pm,an,Jw,ct,JM,rfl,lk,Ka⟩:=F.ex;exact yr lk Ka S len λA outer s H vs Q E hr Lv=>Kc Jw A outer s H vs Q E hr Lv
end
section
variable {X:Cx}{pins:List (Addr×Obj)}{σ:St}{H:Hp}{s:AL}
theorem yp {x:V}{u t:Value}(I:Inv X pins σ H s)(rx:aI x u)(ty:Iq X.K H x t):Looks (model X.prog X.w) s.heap (typeOf u) t:=by
 cases ty with
 |of ty =>
  cases ty with
  |non=>cases(show u=Value.none from rx);exact kitx_none.ty _ _ I.kIn True.intro
  |bl y=>cases(show u=Value.bool y from rx);exact kitx_bool.ty _ _ I.kIn True.intro
  |int i=>obtain⟨t,q⟩:=(show ∃t,u=Value.int i t from rx);cases q;exact kitx_int.ty _ _ I.kIn True.intro
  |str y=>obtain⟨t,q⟩:=(show ∃t,u=Value.str y t from rx);cases q;exact kitx_str.ty _ _ I.kIn True.intro
  |flt y=>obtain⟨t,q⟩:=(show ∃t,u=Value.float y t from rx);cases q;exact kitx_float.ty _ _ I.kIn True.intro
  |@lst a xs ea =>
   cases(show u=Value.ref a from rx)
   obtain⟨_,_,n,_,h1⟩:=(show bJ X.prog X.w H s.heap a (.lst xs) from I.hok a _ ea);exact kitx_list.ty _ _ I.kIn ⟨_,h1,rfl⟩
  |@frz a ob xs ea =>
   cases(show u=Value.ref a from rx)
   obtain⟨_,_,_,n,_,h1⟩:=(show bJ X.prog X.w H s.heap a (.frz ob (.lst xs)) from I.hok a _ ea);exact kitx_list.ty _ _ I.kIn ⟨_,h1,rfl⟩
  |@tup a xs ea =>
   cases(show u=Value.ref a from rx)
   obtain⟨_,_,_,p⟩:=(show bJ X.prog X.w H s.heap a (.tup xs) from I.hok a _ ea);obtain⟨o,h1,h2,_⟩:=p;exact kitx_tuple.ty _ _ I.kIn ⟨o,h1,h2⟩
  |@dK a Jt ea =>
   cases(show u=Value.ref a from rx)
   obtain⟨_,_,vs,_,p⟩:=(show bJ X.prog X.w H s.heap a (.dK Jt) from I.hok a _ ea);obtain⟨o,es,ep,h1,h2,_⟩:=p;exact kitx_dict.ty _ _ I.kIn ⟨o,h1,h2.1⟩
  |@dT a Jt ea =>
   cases(show u=Value.ref a from rx)
   obtain⟨_,_,xs,_,o,es,ep,h1,h2,_⟩:=(show bJ X.prog X.w H s.heap a (.dT Jt) from I.hok a _ ea);exact kitx_dict.ty _ _ I.kIn ⟨o,h1,h2.1⟩
  |@ins a C dx fs ea cl ha hn Qi hm =>
   cases(show u=Value.ref a from rx)
   obtain⟨mA,O,_⟩:=gc I.hok ea;obtain⟨od,J,_⟩:=O.look;exact J.type
 |exc ea k =>
  rename_i a C
  cases(show u=Value.ref a from rx)
  obtain⟨o,vs,h1,h2,_⟩:=vf I.hok ea;exact h2▸(Looks.ld h1).andThen .now
end
variable {us:yX}{K:Frag}
section
variable {X:Cx}{CX:rS}{k:Nat}{f C:Addr}{fd:qo}{ps:p3}{sp:Sp}{E:XK}
def zi (K:Frag)(C:Addr)(sp:Sp)(E:XK)(neg:Bool):R2:=λx y H Q=>∃p dx fs t,x=.ref p/\H p=some (.ins C dx fs)/\Iq K H y t/\notFirst K C t=true/\sp [x,y] H (λv H'=>∃b,v=.bl b/\Q (.bl (b != neg)) H') E
theorem q9 (hs:findIn X.K (.ref C) "__eq__"=some (some (.ref f)))(hf:isFn X.K (.ref f)=true)(F:zG X.prog X.w X.K X.mg X.base CX k f fd ps sp)(hr:A8 k X.A)(hb:ax X.K fd ps [])(hx:eP CX X E):
 eU X (compareOp .Eq) (zi X.K C sp E false):=by
 intro pins s σ H x y v u Q I rx ry h;obtain⟨p,dx,fs,t,rfl,ep,ty,hn,q⟩:=h
 cases(show v=Value.ref p from rx)
 obtain⟨mA,O,_⟩:=gc I.hok ep;obtain⟨od,J,_⟩:=O.look;obtain⟨m,Fm⟩:=I.fr;refine cmp_ofEq (cmp_K hr.ahK Fm I.mod.kin J (yp I ry ty) hn hs hf ?_);refine bO (oR (dvs:=[]) F hr hb .nil hx I (us:=[.ref p,u]) (vs:=[.ref p,y]) (.cons rx (.cons ry .nil)) q) λr s1 z'=>?_;obtain⟨z,H1,I1,rz,b,eb,q1⟩:=z';subst eb
 cases(show r=Value.bool b from rz)
 exact⟨.bl b,H1,I1,rfl,by simpa using q1⟩
theorem ag6 {Q:VK}{vs:List V}(F:zG X.prog X.w X.K X.mg X.base CX k f fd ps sp)(hr:A8 (k+1) X.A)(hb:ax X.K fd ps [])(hx:eP CX X E)
 (I:Inv X pins σ H s)(r:aR vs us)(h:sp vs H Q E):wpAny (model X.prog X.w) X.A.in1 (call (.ref f) us) (EP X pins σ Q) X.xe s:=by
 have hl:us.length=ps.length:=by rw[<-r.length];exact F.len _ _ _ _ h
 have JN:=hb s us I.kIn (by rw[xY];exact hl);rw[xY] at JN;refine sQ (AK (F.run X.A.in1 X.stack s H ⟨us,[]⟩ us vs Q E hr.in1 I.ai7.in1 JN r h) λr s' hq=>?_)
 cases r with
 |error e=>exact hx pins σ H s e s' I hq
 |ok fl =>
  cases fl with
  |ret u=>exact I.after hq
  |next=>exact False.elim hq
  |brk=>exact False.elim hq
  |cont=>exact False.elim hq
theorem ag7 {M:Model}{A:Around}{E':Bf}{x:Addr}{b:Value}{ox:Obj}{od:Option Obj}{Q:Unit->Shared->Prop}(X:K.In s.heap)(J:InstAt s.heap x ox C od)(hm:mroIn K C (.type "object")=some true)(hq:Q () s):
 wpAny M A (checkBuiltinCall "object.__ne__" ⟨[.ref x,b],[]⟩) Q E' s:=by
 obtain⟨hh,g,d,t,os⟩:=s;have L0:=J.type (M:=M);have L5:=looks_mroIn (M:=M) X hm;have hk:=F.cmpKind_ne;have K4:=F.cmpSplit_ne;have ha:=F.cmpArgs_ne (.ref x) b;simp only[checkBuiltinCall,hk,K4];unfold isInstance
 repeat (any_goals (first|assumption|lk|wp_step))
theorem ag8 (hs:findIn X.K (.ref C) "__eq__"=some (some (.ref f)))(hf:isFn X.K (.ref f)=true)(Lp:findIn X.K (.ref C) "__ne__"=some (some (.builtin "object.__ne__")))(hm:mroIn X.K C (.type "object")=some true)
 (F:zG X.prog X.w X.K X.mg X.base CX k f fd ps sp)(hr:A8 (k+1) X.A)(hb:ax X.K fd ps [])(hx:eP CX X E):
 eU X (compareOp .NotEq) (zi X.K C sp E true):=by
 intro pins s σ H x y v u Q I rx ry h;obtain⟨p,dx,fs,t,rfl,ep,ty,hn,q⟩:=h
 cases(show v=Value.ref p from rx)
 obtain⟨mA,O,_⟩:=gc I.hok ep;obtain⟨od,J,_⟩:=O.look;have hu:X.A.units+64<cLine:=hr.units
 have QB:wpAny (model X.prog X.w) X.A.in1 (call (.ref f) [.ref p,u]) (λr s'=>∃b,r=.bool b/\EP X pins σ Q (.bool (!b)) s') X.xe s:=by
  refine vF (ag6 F hr hb hx I (us:=[.ref p,u]) (vs:=[.ref p,y]) (.cons rx (.cons ry .nil)) q) (λr s1 z'=>?_) λ_ _ e=>e;obtain⟨z,H1,I1,rz,b,eb,q1⟩:=z';subst eb
  cases(show r=Value.bool b from rz)
  exact⟨b,rfl,.bl (!b),H1,I1,rfl,by simpa using q1⟩
 have entry:wpAny (model X.prog X.w) X.A.in1 (Builtin.«object.__ne__» ⟨[.ref p,u],[]⟩) (λfin s'=>∃b,fin=.done (.ret (.bool (!b)))/\EP X pins σ Q (.bool (!b)) s') X.xe s:=by
  unfold Builtin.«object.__ne__»;refine C7 (m:=slotArgs "__ne__" 1 _) (pO ?_);refine C7 (wpAny_cRoomFor (by show X.A.units+1<cLine;omega) ?_);refine C7 (ifBound_K I.kIn J hs hf (vF QB (λr s1 z=>?_) λ_ _ e=>e));obtain⟨b,rfl,q1⟩:=z;exact C7 (AQ (pO ⟨b,rfl,q1⟩))
 have S:=PySem.F.cmp_object.ne
 have inner:wpAny (model X.prog X.w) X.A (callSpecialIfBound? (.ref p) "__ne__" [u]) (λr s'=>∃b,r=some (.bool (!b))/\EP X pins σ Q (.bool (!b)) s') X.xe s:=by
  simp only[callSpecialIfBound?,bindSpecialIfBound?];refine tj (C7 (C7 (C7 (J.type.here ((Df I.kIn Lp).here ?_)))));simp only[S.bind];refine C7 (wK (wpAny_ite ?_))
  have fin:wpAny (model X.prog X.w) X.A (call (.builtin "object.__ne__") ([.ref p]++[u])>>=λv=>pure (some v)) (λr s'=>∃b,r=some (.bool (!b))/\EP X pins σ Q (.bool (!b)) s') X.xe s:=by
   refine C7 (sQ (vT S.plain PySem.F.cmpEntry_ne (ag7 I.kIn J hm (vF entry (λfin s1 z=>?_) λ_ _ e=>e))));obtain⟨b,rfl,q1⟩:=z;exact pO ⟨b,rfl,q1⟩
  split
  ·exact C7 (pO (pO fin))
  ·exact qS (C7 (pO (pO fin)))
 have one:wpAny (model X.prog X.w) X.A (tryCompare (.ref p) "__ne__" u) (λr s'=>∃v,r=some v/\EP X pins σ Q v s') X.xe s:=by
  unfold tryCompare;refine C7 (vF inner (λr s1 z=>?_) λ_ _ e=>e);obtain⟨b,rfl,q1⟩:=z;exact pO ⟨_,rfl,q1⟩
 refine cmp_ofNotEq ?_;unfold richCompare;simp only[oneThing_ref];refine tj (C7 (wpAny_cRoomFor (by omega) ?_));rw[cmpInfo_NotEq];dsimp only;refine C7 (J.type.here (C7 ((yp I ry ty).here ?_)))
 split
 ·rename_i qq
  have e:subIn X.K t (.ref C)=some false:=by
   rcases Bool.or_eq_true_iff.mp hn with e|e
   ·rw[y7.mp e] at qq;simp at qq
   ·exact y7.mp e
  refine C7 ((looks_subIn I.kIn e).here ?_);simp only[Ep,CR];refine C7 (vF one (λr s' z=>?_) λ_ _ e=>e);obtain⟨v,rfl,hq⟩:=z;exact pO hq
 ·refine C7 (pO ?_);simp only[Ep,CR];refine C7 (vF one (λr s' z=>?_) λ_ _ e=>e);obtain⟨v,rfl,hq⟩:=z;exact pO hq
end
variable {xs:List V}
section
variable {X:Cx}
def abL (K:PySem.W.Frag):R2:=λx y H Q=>∃p q xs,x=.ref p/\y=.ref q/\aV K H p xs/\aV K H q []/\Q (.bl (decide (xs=[]))) H
theorem abY (hr:A8 k X.A):eU X (compareOp .Eq) (abL X.K):=by
 intro pins s σ H x y v u Q I rx ry h;obtain⟨p,q,xs,rfl,rfl,h1,h2,w⟩:=h
 cases(show v=Value.ref p from rx)
 cases(show u=Value.ref q from ry)
 obtain⟨its,r1,p1,_⟩:=I.list h1;obtain⟨JA,r2,p2,_⟩:=I.list h2
 cases r2
 by_cases e:xs=[]
 ·subst e
  cases r1
  refine SeqAt.eq_listAt (e:=λ_=>true) p1.isList p2.isList rfl hr.ahK (λj a b=>absurd a (by simp)) ⟨.bl true,H,I,?_,by simpa using w⟩;rfl
 ·refine SeqAt.eq_list_lengthsAt p1.isList p2.isList ?_ hr.ahK ⟨.bl false,H,I,rfl,by simpa[e] using w⟩;have hl:=r1.length;have hx:xs.length≠0:=λz=>e (zy z)
  have:its.toArray.size≠0:=by rw[D4];omega
  simpa using this
def acv (K:PySem.W.Frag):V->List V->Hp->VK->Prop:=λx vs H Q=>∃l xs y,x=.ref l/\vs=[y]/\aV K H l xs/\(∀z∈xs,gO z=true)/\gO y=true/\Q (.int (xs.countP λz=>yv z y:Nat)) H
theorem acA (r:aR xs us):∀u∈us,∃z∈xs,aI z u:=by
 induction r with
 |nil=>intro u h;cases h
 |cons r _ ih =>
  intro u h
  rcases BN.mp h with rfl|h
  ·exact⟨_,Ij,r⟩
  ·obtain⟨z,hz,q⟩:=ih u h;exact⟨z,Er _ hz,q⟩
theorem acB {y:V}(r:aR xs us)(hf:∀z∈xs,gO z=true):us.countP (qB y)=xs.countP λz=>yv z y:=by
 induction r with
 |nil=>rfl
 |cons r _ ih =>
  rw[AB,AB,ih λz hz=>hf z (Er _ hz),oC r (hf _ Ij)]
theorem qZ:GU X "list.count" (acv X.K):=by
 intro pins s σ H x vs v us Q I rx rv h;obtain⟨l,xs,y,rfl,rfl,hS,hf,fy,q⟩:=h
 cases(show v=Value.ref l from rx)
 obtain⟨u,rfl,ru⟩:=rv.one;obtain⟨its,r,⟨⟨oc,od,oda,JM⟩,n,e,hc,hd,ZM⟩,_⟩:=I.list hS;simp only at hc hd ZM;subst hc hd ZM;refine call_meets F.slot_list_count ⟨_,e,rfl⟩ F.entry_list_count (F.args_list_count_2 _ _) (SeqAt.list_countAt l its.toArray n none JM u (qB y)) ⟨e,λz hz=>?_,?_⟩
 ·obtain⟨zv,ZN,rz⟩:=acA r z (by simpa using hz);rw[oC rz (hf zv ZN)];exact zo rz ru (hf zv ZN) fy
 ·refine⟨.int _,H,I.tok _,⟨s.toks,rfl⟩,?_⟩;rw[show its.toArray.toList=its from rfl,acB r hf];exact q
end
def yz (tabs:List (Addr×Addr))(H:Hp):Prop:=(∀b,H b=none\/(∃o xs,H b=some (.frz o (.lst xs)))\/(H b=some (.tbl #[])/\∃c,(c,b)∈tabs))/\∀q∈tabs,H q.2=some (.tbl #[])
structure Ak (tabs:List (Addr×Addr))(mg:xk)(base:Heap):Prop where
 hd:∀q∈tabs,CodeHd base q.1 q.2
 bm:∃bm ob,mg "__builtins__"=some (.ref bm)/\bm≠builtinsNs/\base.get? bm=some ob/\ob.cls=.type "module"/\ob.dict=some builtinsNs/\ob.data=.plain
theorem acC {mg mb:xk}{CX:rS}{fa:Addr}{s₁:AL}{vs:yX}{ns:List Int}{tabs:List (Addr×Addr)}
 (KX:K.In s₁.heap)(Lp:s₁.heap.Ns mainGlobals mg)(hb:s₁.heap.Ns builtinsNs mb)(Wi:∀x:Str,x ≠ "__name__"->mb x=bootBuiltins x)(Wj:s₁.heap.NoLimit)(hg:s₁.gens = #[])
 (ha:s₁.heap.get? a=some {cls:=.type "list",data:=.seq vs.toArray})(hi:IntsAre vs ns)(hl:ns.length<=sizeLine)(hr:A8 k callerA)(hT:TabsAt tabs s₁.heap)(hKT:∀q∈tabs,K.lookup q.2=none)
 (hbm:∃bm ob,mg "__builtins__"=some (.ref bm)/\bm≠builtinsNs/\s₁.heap.get? bm=some ob/\ob.cls=.type "module"/\ob.dict=some builtinsNs/\ob.data=.plain)
 (F:∀base:Heap,K.In base->base.Ns mainGlobals mg->Ak tabs mg base->zG P w K mg base CX k fa fd [x] sp)(QC:∀(s:AL)(u:Value),BindsTo s fd ⟨[u],[]⟩ [(x,u)])
 (Lv:∀H:Hp,yz tabs H->aV K H a (ns.map V.int)->sp [.ref a] H (λv _=>v=.bl true) λ_ _ _=>False)
 (Wk:∀H e s',CX [] H s₁ (λ_ _ _=>False) e s'->False):
 codeAny (model P w) callerA (.call (.ref fa) ⟨[.ref a],[]⟩) (λr s'=>r=.ok (.ret (.bool true))/\OldK s₁.heap s'.heap/\s'.os=s₁.os/\AllBare s'.gens) s₁:=by
 have rv:=mZ hi;have Wl:=hi.length;have rH:∀b,(∃c,(c,b)∈tabs)->s₁.heap.get? b=some (tabObj #[]):=λb ⟨c,hc⟩=>(hT _ hc).2
 have core:∀H:Hp,yz tabs H->aV K H a (ns.map V.int)->gB P w H s₁.heap->(∀b,H b≠none->b=a\/∃c,(c,b)∈tabs)->(H a≠none->K.lookup a=none) →
  codeAny (model P w) callerA (.call (.ref fa) ⟨[.ref a],[]⟩) (λr s'=>r=.ok (.ret (.bool true))/\OldK s₁.heap s'.heap/\s'.os=s₁.os/\AllBare s'.gens) s₁:=by
  intro H hO hS hok hA hK;have base_of:∀{b:Addr}{o:Obj},s₁.heap.get? b=some o->H b=none->(mr s₁.heap H).get? b=some o:=λe n=>afm e n
  have ZO:∀{b:Addr}{o:Obj},s₁.heap.get? b=some o->o.cls≠.none->(∀its n,o.data≠.seq its n)->H b=none:=λ{b o} e d1 d2=>by
   cases q:H b with
   |none=>rfl
   |some u =>
    rcases hA b (by rw[q];simp) with e'|e'
    ·subst e';rw[ha] at e;cases e;exact absurd rfl (d2 _ _)
    ·rw[rH b e'] at e;cases e;exact absurd rfl d1
  have Ql:∀{b:Addr}{o:Obj}{es:Array DictEntry}{ep:Nat},s₁.heap.get? b=some o->o.data=.dict es ep->H b=none:=λ{b o es ep} e d=>by
   cases q:H b with
   |none=>rfl
   |some u =>
    rcases hA b (by rw[q];simp) with e'|e'
    ·subst e';rw[ha] at e;cases e;have d':Data.seq vs.toArray _=Data.dict es ep:=d
     cases d'
    ·rw[rH b e'] at e;cases e;have d':Data.fields #[]=Data.dict es ep:=d
     cases d'
  have Vm:∀{b:Addr}{m:xk},s₁.heap.Ns b m->(mr s₁.heap H).Ns b m:=λ{b m} ⟨o,es,ep,e,d,r⟩=>⟨o,es,ep,base_of e (Ql e d),d,r⟩
  have ZP:K.In (mr s₁.heap H):=λb o e=>base_of (KX b o e) (by
   cases q:H b with
   |none=>rfl
   |some u =>
    rcases hA b (by rw[q];simp) with e'|⟨c,e'⟩
    ·subst e';rw[hK (by rw[q];simp)] at e;cases e
    ·have z:=hKT _ e'
     rw[z] at e;cases e)
  have hM:Mod K mg (mr s₁.heap H):=⟨ZP,Vm Lp,⟨mb,Vm hb,Wi⟩,let⟨mc,h1,h2⟩:=Wj;⟨mc,Vm h1,h2⟩⟩
  have hBT:Ak tabs mg (mr s₁.heap H):=by
   refine⟨λq hq=>?_,?_⟩
   ·obtain⟨o,ws,file,tf,flags,tg,inF,text,tt,e1,r1,r2,r3⟩:=(hT q hq).1;exact⟨o,ws,file,tf,flags,tg,inF,text,tt,base_of e1 (ZO e1 (by rw[r1];intro z;cases z) (λits n z=>by rw[r2] at z;cases z)),r1,r2,r3⟩
   ·obtain⟨bm,ob,b1,b2,b3,b4,b5,b6⟩:=hbm;exact⟨bm,ob,b1,b2,base_of b3 (ZO b3 (by rw[b4];intro z;cases z) (λits n z=>by rw[b6] at z;cases z)),b4,b5,b6⟩
  have e0:oB P w K mg (mr s₁.heap H) callerA [] s₁ H:=⟨rfl,hM,λb o e=>aas e,Nat.le_of_eq (aat _ _),trivial,λb hb=>absurd (show b∈([]:List Addr) from hb) (by simp),hok,.of_eq hg⟩;refine AK ((F _ ZP (Vm Lp) hBT).run callerA [] s₁ H ⟨[.ref a],[]⟩ [.ref a] [.ref a] _ _ hr e0 (QC s₁ (.ref a)) (.cons rfl .nil) (Lv H hO hS)) λr s' h=>?_
  cases r with
  |error e=>exact(Wk H e s' h).elim
  |ok fl =>
   cases fl with
   |next=>exact False.elim h
   |brk=>exact False.elim h
   |cont=>exact False.elim h
   |ret u =>
    obtain⟨v,H',os,bare,un,QD,r',q⟩:=h;have q':v=.bl true:=q;subst q';obtain rfl:u=Value.bool true:=r';refine⟨rfl,⟨λb o e=>?_,λb o e=>un.there b o e (by simp)⟩,os,bare⟩
    cases q:H b with
    |none=>exact .inl (un.keep b o e q (by intro z;exact absurd (show b∈([]:List Addr) from z) (by simp)) (by simp))
    |some u =>
     rcases hO.1 b with z|⟨ob,xs,z⟩|⟨z,c,hc⟩
     ·rw[q] at z;cases z
     ·have z2:=un.afH b ob _ z;obtain⟨e1,_⟩:=hok b _ z;obtain⟨e2,_⟩:=QD b _ z2;rw[e] at e1;cases e1;exact .inl e2
     ·obtain⟨more,z2⟩:=un.agR b _ z;have e2:s'.heap.get? b=some {cls:=.none,data:=.fields (#[]++more)}:=QD b _ z2;have e1:=rH b ⟨c,hc⟩;rw[e] at e1;cases e1;exact .inr (.inl ⟨((hT _ hc).1.tab (hT _ hc).2).isCodeTable,rfl,#[],more,rfl,e2⟩)
 have aT:∀c,(c,a)∉tabs:=λc hc=>by
  have z:=rH a ⟨c,hc⟩;rw[ha] at z
  cases z
 have QE:∀b,Decidable (∃c,(c,b)∈tabs):=λb=>Classical.propDecidable _
 cases hk:K.lookup a with
 |some o =>
  have e:=KX a o hk;rw[ha] at e
  cases e
  refine core (λb=>@ite _ (∃c,(c,b)∈tabs) (QE b) (some (.tbl #[])) none) ⟨λb=>?_,λq hq=>?_⟩ (.inr ⟨_,vs.toArray,_,hk,rfl,rfl,rfl,by rw[D4,Wl];exact hl,by simpa using rv⟩) (λb u z=>?_) (λb z=>?_) λz=>?_
  ·by_cases hb:∃c,(c,b)∈tabs
   ·exact .inr (.inr ⟨zj hb,hb⟩)
   ·exact .inl (qM hb)
  ·exact zj ⟨q.1,hq⟩
  ·by_cases hb:∃c,(c,b)∈tabs
   ·have z':=(zj hb).symm.trans z
    cases z'
    exact rH b hb
   ·have z':=(qM hb).symm.trans z
    cases z'
  ·by_cases hb:∃c,(c,b)∈tabs
   ·exact .inr hb
   ·exact absurd (qM hb) z
  ·exact absurd (qM λ⟨c,hc⟩=>aT c hc) z
 |none =>
  refine core (λb=>if b=a then some (.frz {cls:=.type "list",data:=.seq vs.toArray} (.lst (ns.map V.int))) else @ite _ (∃c,(c,b)∈tabs) (QE b) (some (.tbl #[])) none) ⟨λb=>?_,λq hq=>?_⟩ (.inl (.inr ⟨{cls:=.type "list",data:=.seq vs.toArray},zj rfl⟩)) (λb u z=>?_) (λb z=>?_) λ_=>hk
  ·by_cases hb:b=a
   ·exact .inr (.inl ⟨_,_,zj hb⟩)
   ·by_cases ht:∃c,(c,b)∈tabs
    ·exact .inr (.inr ⟨(qM hb).trans (zj ht),ht⟩)
    ·exact .inl ((qM hb).trans (qM ht))
  ·have hb:q.2≠a:=λz=>aT q.1 (by rw[<-z];exact hq);exact(qM hb).trans (zj ⟨q.1,hq⟩)
  ·by_cases hb:b=a
   ·have z':=(zj hb).symm.trans z
    cases z'
    subst hb;exact⟨ha,by rw[vW];exact hl,vs,_,rv,ha⟩
   ·have z':=(qM hb).symm.trans z
    by_cases ht:∃c,(c,b)∈tabs
    ·have z2:=(zj ht).symm.trans z'
     cases z2
     exact rH b ht
    ·have z2:=(qM ht).symm.trans z'
     cases z2
  ·by_cases hb:b=a
   ·exact .inl hb
   ·by_cases ht:∃c,(c,b)∈tabs
    ·exact .inr ht
    ·exact absurd ((qM hb).trans (qM ht)) z
structure HK (K:Frag)(x qual:Str)(st:Stmt)(f:Addr)(fd:qo)(T:Addr):Prop where
 ex:∃(oc:Value)(od:rW)(kV doc pm:Value)(an:rW)(Jw ct:Value)(JM:Hl),
  fd=fnOf x qual (dn st) (cB st) (aq st) (.ref T) kV doc pm an Jw ct/\K.lookup f=some ⟨oc,od,.func fd,JM⟩/\codeIn K Jw qual=true
 kp:keepIn K (.ref f)=true
section
variable {P:Iy}{w:World}{K:Frag}{mg:xk}{base:Heap}
theorem HK.okE {T:Addr}(F:HK K x qual st f fd T)(S:DK N ps (aq st))(len:∀vs H Q E,sp vs H Q E->vs.length=ps.length)
 (Kc:∀(Jw:Value)(A:Around)(outer:List Env)(s:AL)(H:Hp)(vs:List V)(Q:VK)(E:XK),A8 k (A.deeper (envOfC qual (aq st) s.heap.objs.size f Jw))->sp vs H Q E →
  ∃t,qO (hZ (aO P w) P w K mg base N qual (aq st) f Jw A outer s H E) (cB st) t/\t {nx:=λ_ H'=>Q .non H',rt:=Q} (ie N vs) H):zG P w K mg base (aO P w) (k+1) f fd ps sp:=by
 obtain⟨oc,od,kV,doc,pm,an,Jw,ct,JM,rfl,lk,Ka⟩:=F.ex;exact yr lk Ka S len λA outer s H vs Q E hr Lv=>Kc Jw A outer s H vs Q E hr Lv
theorem acS {T:Addr}{oc:Value}{od an:rW}{JM:Hl}{kV doc pm Jw ct:Value}(l:K.lookup f=some ⟨oc,od,.func (fnOf x qual (dn st) (cB st) (aq st) (.ref T) kV doc pm an Jw ct),JM⟩)
 (c:codeIn K Jw qual=true)(k:keepIn K (.ref f)=true):HK K x qual st f (fnOf x qual (dn st) (cB st) (aq st) (.ref T) kV doc pm an Jw ct) T:=⟨⟨oc,od,kV,doc,pm,an,Jw,ct,JM,rfl,l,c⟩,k⟩
end
def fA:Expr->Bool
 | .Starred _ _=>true
 |_=>false
theorem aU {e:Expr}{rest:vH}(h:fA e=false):starEach (e::rest) env=(false,eval e env):: starEach rest env:=by
 cases e <;> first|rfl|cases h
section
variable {X:Cx}{e:Expr}{es:vH}{te:TE}{t:TA}
theorem ai (ha:PE X e te)(hr:PA X es t)(h:fA e=false:=by rfl):PA X (e::es) (en te t):=ck ha hr (aU h)
end
inductive D where
 |non|bl (b:Bool)|int (i:Int)|str (x:Str)|lst (ds:List D)|tup (ds:List D)
mutual
def aN (K:Frag)(H:Hp):D->V->Prop
 | .non,v=>v=.non
 | .bl b,v=>v=.bl b
 | .int i,v=>v=.int i
 | .str x,v=>v=.str x
 | .lst ds,v=>∃a xs,v=.ref a/\aV K H a xs/\bg K H ds xs
 | .tup ds,v=>∃a xs,v=.ref a/\bf K H a xs/\bg K H ds xs
def bg (K:Frag)(H:Hp):List D->List V->Prop
 |[],xs=>xs=[]
 |d::ds,xs=>∃y ys,xs=y::ys/\aN K H d y/\bg K H ds ys
end
mutual
def iY:D->D->Bool
 | .non,.non=>true
 | .bl a,.bl b=>a==b
 | .bl a,.int b=>(if a then 1 else 0)==b
 | .int a,.bl b=>a==(if b then 1 else 0)
 | .int a,.int b=>a==b
 | .str a,.str b=>a==b
 | .lst a,.lst b=>fM a b
 | .tup a,.tup b=>fM a b
 |_,_=>false
def fM:List D->List D->Bool
 |[],[]=>true
 |a::as,b::bs=>iY a b&&fM as bs
 |_,_=>false
end
mutual
def iB:D->Nat
 | .lst ds=>eC ds+1
 | .tup ds=>eC ds+1
 |_=>0
def eC:List D->Nat
 |[]=>0
 |d::ds=>max (iB d) (eC ds)
end
theorem uU:∀{ds:List D}{d:D},d∈ds->iB d<=eC ds
 |e::ds,d,h=>by
  unfold eC
  rcases BN.mp h with rfl|h
  ·exact Nat.le_max_left _ _
  ·exact EW (uU h) (Nat.le_max_right _ _)
theorem iy:∀(as bs:List D),fM as bs=((List.range (min as.length bs.length)).all (λj=>iY (as.getD j .non) (bs.getD j .non))&&as.length==bs.length)
 |[],[]=>rfl
 |[],b::bs=>by simp;rfl
 |a::as,[]=>by simp;rfl
 |a::as,b::bs=>by
  show(iY a b&&fM as bs)=_;rw[iy as bs]
  have e:min (a::as).length (b::bs).length=min as.length bs.length+1:=by simp[Nat.succ_min_succ]
  rw[e,List.range_succ_eq_map,vS,vn]
  have h1:((a::as).length==(b::bs).length)=(as.length==bs.length):=by simp
  rw[h1,Bool.and_assoc];rfl
theorem bg.len :∀{ds:List D}{xs:List V},bg K H ds xs->ds.length=xs.length
 |[],xs,h=>by
  have h:xs=[]:=by unfold bg at h;exact h
  rw[h];rfl
 |d::ds,xs,h=>by
  unfold bg at h;obtain⟨y,ys,rfl,_,h⟩:=h;simp[bg.len h]
theorem bg.get :∀{ds:List D}{xs:List V}{j:Nat}(hj:j<xs.length),bg K H ds xs->aN K H (ds.getD j .non) xs[j]/\ds.getD j .non∈ds
 |[],xs,j,hj,h=>by
  have h:xs=[]:=by unfold bg at h;exact h
  subst h;exact absurd hj (by simp)
 |d::ds,xs,j,hj,h=>by
  unfold bg at h;obtain⟨y,ys,rfl,hd,h⟩:=h
  cases j with
  |zero=>exact⟨hd,Ij⟩
  |succ j =>
   obtain⟨h1,h2⟩:=bg.get (j:=j) (by simpa using hj) h;exact⟨h1,Er _ h2⟩
mutual
theorem eN:∀d:D,iY d d=true
 | .non=>rfl
 | .bl b=>Ab b
 | .int i=>Ab i
 | .str x=>Ab x
 | .lst ds=>i6 ds
 | .tup ds=>i6 ds
theorem i6:∀ds:List D,fM ds ds=true
 |[]=>rfl
 |d::ds=>by show(iY d d&&fM ds ds)=true;rw[eN d,i6 ds];rfl
end
section
variable {X:Cx}{pins:List (Addr×Obj)}{σ:St}{H:Hp}{s:AL}
theorem gP (I:Inv X pins σ H s){ys:List V}(h1:aV X.K H a xs)(h2:bf X.K H a ys):False:=by
 obtain⟨its,_,p1,_⟩:=I.list h1;obtain⟨JA,_,p2,_⟩:=I.tuple h2;exact SeqAt.ne_of_list_tuple p1.isList (show s.heap.IsTuple a JA.toArray from p2) rfl
mutual
theorem l9 (I:Inv X pins σ H s):∀(d e:D)(v:V),aN X.K H d v->aN X.K H e v->iY d e=true
 | .non,e,v,h1,h2=>by
   unfold aN at h1;subst h1
   cases e <;> unfold aN at h2 <;> first|(obtain⟨_,_,z,_⟩:=h2;cases z;done)|rfl|(cases h2;done)
 | .bl b,e,v,h1,h2=>by
   unfold aN at h1;subst h1
   cases e <;> unfold aN at h2 <;> first|(obtain⟨_,_,z,_⟩:=h2;cases z;done)|(cases h2;exact eN _)|(cases h2;done)
 | .int b,e,v,h1,h2=>by
   unfold aN at h1;subst h1
   cases e <;> unfold aN at h2 <;> first|(obtain⟨_,_,z,_⟩:=h2;cases z;done)|(cases h2;exact eN _)|(cases h2;done)
 | .str b,e,v,h1,h2=>by
   unfold aN at h1;subst h1
   cases e <;> unfold aN at h2 <;> first|(obtain⟨_,_,z,_⟩:=h2;cases z;done)|(cases h2;exact eN _)|(cases h2;done)
 | .lst ds,e,v,h1,h2=>by
   unfold aN at h1;obtain⟨a,xs,rfl,q,r⟩:=h1
   cases e with
   |lst es =>
    unfold aN at h2;obtain⟨b,ys,z,q2,r2⟩:=h2
    cases z
    have e:=I.agS q q2;subst e;exact je I ds es xs r r2
   |tup es =>
    unfold aN at h2;obtain⟨b,ys,z,q2,r2⟩:=h2
    cases z
    exact(gP I q q2).elim
   |_=>unfold aN at h2;cases h2
 | .tup ds,e,v,h1,h2=>by
   unfold aN at h1;obtain⟨a,xs,rfl,q,r⟩:=h1
   cases e with
   |tup es =>
    unfold aN at h2;obtain⟨b,ys,z,q2,r2⟩:=h2
    cases z
    have e:=I.agW q q2;subst e;exact je I ds es xs r r2
   |lst es =>
    unfold aN at h2;obtain⟨b,ys,z,q2,r2⟩:=h2
    cases z
    exact(gP I q2 q).elim
   |_=>unfold aN at h2;cases h2
theorem je (I:Inv X pins σ H s):∀(ds es:List D)(xs:List V),bg X.K H ds xs->bg X.K H es xs->fM ds es=true
 |[],es,xs,h1,h2=>by
  unfold bg at h1;subst h1
  cases es with
  |nil=>rfl
  |cons e es=>unfold bg at h2;obtain⟨_,_,z,_⟩:=h2;cases z
 |d::ds,es,xs,h1,h2=>by
  unfold bg at h1;obtain⟨y,ys,rfl,hd,h1⟩:=h1
  cases es with
  |nil=>unfold bg at h2;cases h2
  |cons e es =>
   unfold bg at h2;obtain⟨_,_,z,he,h2⟩:=h2
   cases z
   show(iY d e&&fM ds es)=true;rw[l9 I d e y hd he,je I ds es ys h1 h2];rfl
end
theorem lj (I:Inv X pins σ H s)(n:Nat)(ih:n≠0->∀(A:Around)(d e:D)(x y:V)(u v:Value),iB d<=n-1->A.units+(n-1)<cLine->aN X.K H d x->aN X.K H e y->aI x u->aI y v->SeqAt.EqAt A s u v (iY d e))
 (hn0:n≠0)(A:Around)(hu:A.units+n<cLine){ds es:List D}{ys:List V}{its JA:yX}(r1:bg X.K H ds xs)(r2:bg X.K H es ys)(rv:aR xs its)(KA:aR ys JA)(hn:eC ds<=n-1):
 ∀j (h1:j<its.toArray.size)(h2:j<JA.toArray.size),SeqAt.EqAt A.in1 s its.toArray[j] JA.toArray[j] (iY (ds.getD j .non) (es.getD j .non)):=by
 intro j h1 h2
 have e1:j<xs.length:=by rw[rv.length];simpa using h1
 have e2:j<ys.length:=by rw[KA.length];simpa using h2
 obtain⟨d1,m1⟩:=r1.get e1;obtain⟨d2,m2⟩:=r2.get e2;obtain⟨u,hu1,ru⟩:=rv.get (Ff e1);obtain⟨v,hv1,rv'⟩:=KA.get (Ff e2)
 have z1:its.toArray[j]=u:=by
  have:=Be.mp hu1;obtain⟨_,q⟩:=this;simpa using q
 have z2:JA.toArray[j]=v:=by
  have:=Be.mp hv1;obtain⟨_,q⟩:=this;simpa using q
 rw[z1,z2];exact ih hn0 A.in1 _ _ _ _ _ _ (EW (uU m1) hn) (by show A.units+1+(n-1)<cLine;omega) d1 d2 ru rv'
theorem mX (I:Inv X pins σ H s)(n:Nat)(ih:n≠0->∀(A:Around)(d e:D)(x y:V)(u v:Value),iB d<=n-1->A.units+(n-1)<cLine->aN X.K H d x->aN X.K H e y->aI x u->aI y v->SeqAt.EqAt A s u v (iY d e))
 (A:Around)(d e:D)(x y:V)(u v:Value)(hn:iB d<=n)(hu:A.units+n<cLine)(h1:aN X.K H d x)(h2:aN X.K H e y)(rx:aI x u)(ry:aI y v):
 SeqAt.RcAt A s u v (iY d e)/\SeqAt.EqAt A s u v (iY d e)/\SeqAt.RcNeAt A s u v (!iY d e):=by
 have JF:A.units<cLine:=by omega
 cases d with
 |non =>
  unfold aN at h1;subst h1
  cases rx
  cases e with
  |non =>
   unfold aN at h2;subst h2
   cases ry
   exact⟨.none_none,.same _,.none_none⟩
  |bl q =>
   unfold aN at h2;subst h2
   cases ry
   exact⟨.none_bool q,.none_bool q,.none_bool q⟩
  |int q =>
   unfold aN at h2;subst h2;obtain⟨tq,rfl⟩:=ry;exact⟨.none_int q tq,.none_int q tq,.none_int q tq⟩
  |str q =>
   unfold aN at h2;subst h2;obtain⟨tq,rfl⟩:=ry;exact⟨.none_str q tq,.none_str q tq,.none_str q tq⟩
  |lst es =>
   unfold aN at h2;obtain⟨b,ys,rfl,q2,r2⟩:=h2
   cases ry
   obtain⟨JA,KA,p2,_⟩:=I.list q2;exact⟨.none_list  p2.isList JF,.none_list  p2.isList JF,.none_list  p2.isList JF⟩
  |tup es =>
   unfold aN at h2;obtain⟨b,ys,rfl,q2,r2⟩:=h2
   cases ry
   obtain⟨JA,KA,p2,_⟩:=I.tuple q2;have p2:s.heap.IsTuple b JA.toArray:=p2;exact⟨.none_tuple  p2 JF,.none_tuple  p2 JF,.none_tuple  p2 JF⟩
 |bl p =>
  unfold aN at h1;subst h1
  cases rx
  cases e with
  |non =>
   unfold aN at h2;subst h2
   cases ry
   exact⟨.bool_none p,.bool_none p,.bool_none p⟩
  |bl q =>
   unfold aN at h2;subst h2
   cases ry
   exact⟨.bool_bool p q,.bool_bool p q,.bool_bool p q⟩
  |int q =>
   unfold aN at h2;subst h2;obtain⟨tq,rfl⟩:=ry;exact⟨.bool_int p q tq,.bool_int p q tq,.bool_int p q tq⟩
  |str q =>
   unfold aN at h2;subst h2;obtain⟨tq,rfl⟩:=ry;exact⟨.bool_str p q tq,.bool_str p q tq,.bool_str p q tq⟩
  |lst es =>
   unfold aN at h2;obtain⟨b,ys,rfl,q2,r2⟩:=h2
   cases ry
   obtain⟨JA,KA,p2,_⟩:=I.list q2;exact⟨.bool_list p p2.isList JF,.bool_list p p2.isList JF,.bool_list p p2.isList JF⟩
  |tup es =>
   unfold aN at h2;obtain⟨b,ys,rfl,q2,r2⟩:=h2
   cases ry
   obtain⟨JA,KA,p2,_⟩:=I.tuple q2;have p2:s.heap.IsTuple b JA.toArray:=p2;exact⟨.bool_tuple p p2 JF,.bool_tuple p p2 JF,.bool_tuple p p2 JF⟩
 |int p =>
  unfold aN at h1;subst h1;obtain⟨tp,rfl⟩:=rx
  cases e with
  |non =>
   unfold aN at h2;subst h2
   cases ry
   exact⟨.int_none p tp,.int_none p tp,.int_none p tp⟩
  |bl q =>
   unfold aN at h2;subst h2
   cases ry
   exact⟨.int_bool p tp q,.int_bool p tp q,.int_bool p tp q⟩
  |int q =>
   unfold aN at h2;subst h2;obtain⟨tq,rfl⟩:=ry;exact⟨.int_int p tp q tq,.int_int p tp q tq,.int_int p tp q tq⟩
  |str q =>
   unfold aN at h2;subst h2;obtain⟨tq,rfl⟩:=ry;exact⟨.int_str p tp q tq,.int_str p tp q tq,.int_str p tp q tq⟩
  |lst es =>
   unfold aN at h2;obtain⟨b,ys,rfl,q2,r2⟩:=h2
   cases ry
   obtain⟨JA,KA,p2,_⟩:=I.list q2;exact⟨.int_list p tp p2.isList JF,.int_list p tp p2.isList JF,.int_list p tp p2.isList JF⟩
  |tup es =>
   unfold aN at h2;obtain⟨b,ys,rfl,q2,r2⟩:=h2
   cases ry
   obtain⟨JA,KA,p2,_⟩:=I.tuple q2;have p2:s.heap.IsTuple b JA.toArray:=p2;exact⟨.int_tuple p tp p2 JF,.int_tuple p tp p2 JF,.int_tuple p tp p2 JF⟩
 |str p =>
  unfold aN at h1;subst h1;obtain⟨tp,rfl⟩:=rx
  cases e with
  |non =>
   unfold aN at h2;subst h2
   cases ry
   exact⟨.str_none p tp,.str_none p tp,.str_none p tp⟩
  |bl q =>
   unfold aN at h2;subst h2
   cases ry
   exact⟨.str_bool p tp q,.str_bool p tp q,.str_bool p tp q⟩
  |int q =>
   unfold aN at h2;subst h2;obtain⟨tq,rfl⟩:=ry;exact⟨.str_int p tp q tq,.str_int p tp q tq,.str_int p tp q tq⟩
  |str q =>
   unfold aN at h2;subst h2;obtain⟨tq,rfl⟩:=ry;exact⟨.str_str p tp q tq,.str_str p tp q tq,.str_str p tp q tq⟩
  |lst es =>
   unfold aN at h2;obtain⟨b,ys,rfl,q2,r2⟩:=h2
   cases ry
   obtain⟨JA,KA,p2,_⟩:=I.list q2;exact⟨.str_list p tp p2.isList JF,.str_list p tp p2.isList JF,.str_list p tp p2.isList JF⟩
  |tup es =>
   unfold aN at h2;obtain⟨b,ys,rfl,q2,r2⟩:=h2
   cases ry
   obtain⟨JA,KA,p2,_⟩:=I.tuple q2;have p2:s.heap.IsTuple b JA.toArray:=p2;exact⟨.str_tuple p tp p2 JF,.str_tuple p tp p2 JF,.str_tuple p tp p2 JF⟩
 |lst ds =>
  unfold aN at h1;obtain⟨a,xs,rfl,q1,r1⟩:=id h1
  cases rx
  obtain⟨its,rv,p1,_⟩:=I.list q1;have p1:s.heap.IsList a its.toArray:=p1.isList
  cases e with
  |non =>
   unfold aN at h2;subst h2
   cases ry
   exact⟨.list_none  p1 JF,.list_none  p1 JF,.list_none  p1 JF⟩
  |bl q =>
   unfold aN at h2;subst h2
   cases ry
   exact⟨.list_bool q p1 JF,.list_bool q p1 JF,.list_bool q p1 JF⟩
  |int q =>
   unfold aN at h2;subst h2;obtain⟨tq,rfl⟩:=ry;exact⟨.list_int q tq p1 JF,.list_int q tq p1 JF,.list_int q tq p1 JF⟩
  |str q =>
   unfold aN at h2;subst h2;obtain⟨tq,rfl⟩:=ry;exact⟨.list_str q tq p1 JF,.list_str q tq p1 JF,.list_str q tq p1 JF⟩
  |lst es =>
   unfold aN at h2;obtain⟨b,ys,rfl,q2,r2⟩:=id h2
   cases ry
   obtain⟨JA,KA,p2,_⟩:=I.list q2;have p2:s.heap.IsList b JA.toArray:=p2.isList;have el:=lj I n ih (by unfold iB at hn;omega) A hu r1 r2 rv KA (by unfold iB at hn;omega)
   have l1:its.toArray.size=ds.length:=by rw[D4,<-rv.length,r1.len]
   have l2:JA.toArray.size=es.length:=by rw[D4,<-KA.length,r2.len]
   have dr:=iy ds es
   have key:SeqAt.RcAt A s (.ref a) (.ref b) (fM ds es)/\SeqAt.RcNeAt A s (.ref a) (.ref b) (!fM ds es):=by
    by_cases hl:ds.length=es.length
    ·have hs:its.toArray.size=JA.toArray.size:=by rw[l1,l2,hl]
     have z:(List.range its.toArray.size).all (λj=>iY (ds.getD j .non) (es.getD j .non))=fM ds es:=by rw[dr,l1,hl];simp
     have c1:=SeqAt.RcAt.lists p1 p2 hs JF el;have c2:=SeqAt.RcNeAt.lists p1 p2 hs JF el;rw[z] at c1 c2;exact⟨c1,c2⟩
    ·have z:fM ds es=false:=by rw[dr];simp[hl]
     have hs:(its.toArray.size != JA.toArray.size)=true:=by rw[l1,l2];simpa using hl
     rw[z];exact⟨SeqAt.RcAt.lists_lengths p1 p2 hs JF,SeqAt.RcNeAt.lists_lengths p1 p2 hs JF⟩
   have Oc:iY (.lst ds) (.lst es)=fM ds es:=rfl
   by_cases Na:a=b
   ·subst Na;have z:=l9 I (.lst ds) (.lst es) (.ref a) (by unfold aN;exact⟨a,xs,rfl,q1,r1⟩) (by unfold aN;exact⟨a,ys,rfl,q2,r2⟩);refine⟨by rw[Oc];exact key.1,by rw[z];exact .same _,by rw[Oc];exact key.2⟩
   ·rw[Oc];exact⟨key.1,.of_refs Na key.1,key.2⟩
  |tup es =>
   unfold aN at h2;obtain⟨b,ys,rfl,q2,r2⟩:=id h2
   cases ry
   obtain⟨JA,KA,p2,_⟩:=I.tuple q2;have p2:s.heap.IsTuple b JA.toArray:=p2;exact⟨.list_tuple p1 p2 JF,.list_tuple p1 p2 JF,.list_tuple p1 p2 JF⟩
 |tup ds =>
  unfold aN at h1;obtain⟨a,xs,rfl,q1,r1⟩:=id h1
  cases rx
  obtain⟨its,rv,p1,_⟩:=I.tuple q1;have p1:s.heap.IsTuple a its.toArray:=p1
  cases e with
  |non =>
   unfold aN at h2;subst h2
   cases ry
   exact⟨.tuple_none  p1 JF,.tuple_none  p1 JF,.tuple_none  p1 JF⟩
  |bl q =>
   unfold aN at h2;subst h2
   cases ry
   exact⟨.tuple_bool q p1 JF,.tuple_bool q p1 JF,.tuple_bool q p1 JF⟩
  |int q =>
   unfold aN at h2;subst h2;obtain⟨tq,rfl⟩:=ry;exact⟨.tuple_int q tq p1 JF,.tuple_int q tq p1 JF,.tuple_int q tq p1 JF⟩
  |str q =>
   unfold aN at h2;subst h2;obtain⟨tq,rfl⟩:=ry;exact⟨.tuple_str q tq p1 JF,.tuple_str q tq p1 JF,.tuple_str q tq p1 JF⟩
  |lst es =>
   unfold aN at h2;obtain⟨b,ys,rfl,q2,r2⟩:=id h2
   cases ry
   obtain⟨JA,KA,p2,_⟩:=I.list q2;have p2:s.heap.IsList b JA.toArray:=p2.isList;exact⟨.tuple_list p1 p2 JF,.tuple_list p1 p2 JF,.tuple_list p1 p2 JF⟩
  |tup es =>
   unfold aN at h2;obtain⟨b,ys,rfl,q2,r2⟩:=id h2
   cases ry
   obtain⟨JA,KA,p2,_⟩:=I.tuple q2;have p2:s.heap.IsTuple b JA.toArray:=p2;have el:=lj I n ih (by unfold iB at hn;omega) A hu r1 r2 rv KA (by unfold iB at hn;omega)
   have l1:its.toArray.size=ds.length:=by rw[D4,<-rv.length,r1.len]
   have l2:JA.toArray.size=es.length:=by rw[D4,<-KA.length,r2.len]
   have dr:=iy ds es
   have key:SeqAt.RcAt A s (.ref a) (.ref b) (fM ds es)/\SeqAt.RcNeAt A s (.ref a) (.ref b) (!fM ds es):=by
    have z:((List.range (min its.toArray.size JA.toArray.size)).all (λj=>iY (ds.getD j .non) (es.getD j .non))&&its.toArray.size==JA.toArray.size)=fM ds es:=by rw[dr,l1,l2]
    have c1:=SeqAt.RcAt.tuples p1 p2 JF el;have c2:=SeqAt.RcNeAt.tuples p1 p2 JF el;rw[z] at c1 c2;exact⟨c1,c2⟩
   have Oc:iY (.tup ds) (.tup es)=fM ds es:=rfl
   by_cases Na:a=b
   ·subst Na;have z:=l9 I (.tup ds) (.tup es) (.ref a) (by unfold aN;exact⟨a,xs,rfl,q1,r1⟩) (by unfold aN;exact⟨a,ys,rfl,q2,r2⟩);refine⟨by rw[Oc];exact key.1,by rw[z];exact .same _,by rw[Oc];exact key.2⟩
   ·rw[Oc];exact⟨key.1,.of_refs Na key.1,key.2⟩
theorem jc (I:Inv X pins σ H s):∀(n:Nat)(A:Around)(d e:D)(x y:V)(u v:Value),iB d<=n->A.units+n<cLine->aN X.K H d x->aN X.K H e y->aI x u->aI y v →
 SeqAt.RcAt A s u v (iY d e)/\SeqAt.EqAt A s u v (iY d e)/\SeqAt.RcNeAt A s u v (!iY d e):=by
 intro n
 induction n with
 |zero=>exact λA d e x y u v hn hu h1 h2 rx ry=>mX I 0 (λz=>absurd z (by simp)) A d e x y u v hn hu h1 h2 rx ry
 |succ n ih=>exact λA d e x y u v hn hu h1 h2 rx ry=>mX I (n+1) (λ_ A d e x y u v hn hu h1 h2 rx ry=>(ih A d e x y u v hn hu h1 h2 rx ry).2.1) A d e x y u v hn hu h1 h2 rx ry
end
section
variable {X:Cx}
def vJ (K:Frag)(neg:Bool):R2:=λx y H Q=>∃d e,aN K H d x/\aN K H e y/\iB d<=32/\Q (.bl (iY d e != neg)) H
theorem xQ (hr:A8 k X.A):eU X (compareOp .Eq) (vJ X.K false):=by
 intro pins s σ H x y v u Q I rx ry h;obtain⟨d,e,h1,h2,hd,q⟩:=h;have z:=(jc I 32 X.A d e x y v u hd (by have:=hr.units;omega) h1 h2 rx ry).1;exact z X.prog X.w X.xe _ ⟨.bl (iY d e),H,I,rfl,by simpa using q⟩
theorem rA (hr:A8 k X.A):eU X (compareOp .NotEq) (vJ X.K true):=by
 intro pins s σ H x y v u Q I rx ry h;obtain⟨d,e,h1,h2,hd,q⟩:=h;have z:=(jc I 32 X.A d e x y v u hd (by have:=hr.units;omega) h1 h2 rx ry).2.2
 exact z X.prog X.w X.xe _ ⟨.bl (!iY d e),H,I,rfl,by
  have e1:(iY d e != true) = !iY d e:=by cases iY d e <;> rfl
  rw[e1] at q
  exact q⟩
end
end L2
namespace Nm
def eJ (a b:Int):Int:=(Int.gcd a b:Int)
def dv (t b:Int):Int:=if b<0 then -(eJ t b) else eJ t b
def dS (t b:Int):Int:=t.fdiv (dv t b)
def cI (t b:Int):Int:=b.fdiv (dv t b)
variable {b:Int}
theorem iN {t:Int}(h:b≠0):0<eJ t b:=by
 unfold eJ;have:0<Int.gcd t b:=Ft _ h;omega
theorem nH {t:Int}(h:b≠0):dv t b≠0:=by
 have:=iN (t:=t) h;unfold dv
 split <;> omega
theorem ac0 {t:Int}:dv t b ∣ t:=by
 unfold dv eJ
 split
 ·exact Int.neg_dvd.mpr (Int.gcd_dvd_left ..)
 ·exact Int.gcd_dvd_left ..
theorem ac3 {t:Int}:dv t b ∣ b:=by
 unfold dv eJ
 split
 ·exact Int.neg_dvd.mpr (Int.gcd_dvd_right ..)
 ·exact Int.gcd_dvd_right ..
theorem rm {a:Int}(h:b ∣ a)(hb:b≠0):a.fdiv b*b=a:=by
 obtain⟨c,rfl⟩:=h;rw[Int.mul_fdiv_cancel_left _ hb,Int.mul_comm]
theorem pS {t:Int}(h:b≠0):dS t b*dv t b=t:=rm ac0 (nH h)
theorem kZ {t:Int}(h:b≠0):cI t b*dv t b=b:=rm ac3 (nH h)
theorem oo {t:Int}(h:b≠0):0<cI t b:=by
 have e:=kZ (t:=t) h;have g:=iN (t:=t) h
 by_cases hb:b<0
 ·have hd:dv t b = -(eJ t b):=by unfold dv;rw[zj hb]
  rw[hd] at e
  by_cases hl:0<cI t b
  ·exact hl
  ·have:0<=cI t b * -(eJ t b):=by
    have:=Int.mul_nonneg_of_nonpos_of_nonpos (a:=cI t b) (b:=-(eJ t b)) (by omega) (by omega);exact this
   omega
 ·have hd:dv t b=eJ t b:=by unfold dv;rw[qM hb]
  rw[hd] at e
  by_cases hl:0<cI t b
  ·exact hl
  ·have:cI t b*eJ t b<=0:=Int.mul_nonpos_of_nonpos_of_nonneg (by omega) (by omega);omega
theorem ni {t:Int}:(dv t b).natAbs=Int.gcd t b:=by
 unfold dv eJ
 split <;> simp
theorem ux {t:Int}(h:b≠0):Int.gcd (dS t b) (cI t b)=1:=by
 have e1:=pS (t:=t) h;have e2:=kZ (t:=t) h;have g:0<Int.gcd t b:=Ft _ h;have e3:Int.gcd (dS t b*dv t b) (cI t b*dv t b)=Int.gcd (dS t b) (cI t b)*(dv t b).natAbs:=Int.gcd_mul_right ..;rw[e1,e2,ni] at e3
 have:Int.gcd (dS t b) (cI t b)*Int.gcd t b=1*Int.gcd t b:=by omega
 exact Nat.eq_of_mul_eq_mul_right g this
theorem j8 {t t' b':Int}(h:b≠0)(hp:0<b')(hg:Int.gcd t' b'=1)(he:t*b'=t'*b):dS t b=t'/\cI t b=b':=by
 have e1:=pS (t:=t) h;have e2:=kZ (t:=t) h;have g:=nH (t:=t) h;have lp:=oo (t:=t) h;have lg:=ux (t:=t) h
 have e3:dS t b*b'=t'*cI t b:=by
  have z:(dS t b*b')*dv t b=(t'*cI t b)*dv t b:=by
   rw[Int.mul_right_comm,e1,he,xx,e2]
  exact vk g z
 have n3:(dS t b).natAbs*b'.natAbs=t'.natAbs*(cI t b).natAbs:=by
  have:=Hh Int.natAbs e3;rw[C4,C4] at this;exact this
 have c1:Nat.Coprime (cI t b).natAbs (dS t b).natAbs:=by
  rw[Nat.coprime_comm];exact lg
 have c2:Nat.Coprime b'.natAbs t'.natAbs:=by
  rw[Nat.coprime_comm];exact hg
 have d1:(cI t b).natAbs ∣ b'.natAbs:=c1.dvd_of_dvd_mul_left ⟨t'.natAbs,by rw[n3,Nat.mul_comm]⟩;have d2:b'.natAbs ∣ (cI t b).natAbs:=c2.dvd_of_dvd_mul_left ⟨(dS t b).natAbs,by rw[<-n3,Nat.mul_comm]⟩;have e4:(cI t b).natAbs=b'.natAbs:=Nat.dvd_antisymm d1 d2
 have e5:cI t b=b':=by omega
 refine⟨?_,e5⟩;rw[e5] at e3;exact vk (by omega) e3
theorem kK {t b:Int}(hp:0<b)(hg:Int.gcd t b=1):dS t b=t/\cI t b=b:=j8 (by omega) hp hg rfl
theorem lu (a b:Int):Int.gcd b (a.fmod b)=Int.gcd a b:=by
 rw[Int.fmod_def,Int.gcd_comm a b]
 first
  |exact Int.gcd_sub_mul_left_right ..
  |simp
theorem uN (a b:Int)(h:b≠0):(a.fmod b).natAbs<b.natAbs:=by
 by_cases hb:0<b
 ·have h1:=Fi a hb;have h2:=Ei a hb;omega
 ·have e:a.fmod b = -((-a).fmod (-b)):=by
   have:=Int.fmod_def a b;rw[Int.neg_fmod_neg];omega
  have h1:=Fi (-a) (b:=-b) (by omega);have h2:=Ei (-a) (b:=-b) (by omega);omega
def ab (b:Int):Int:=if b<0 then -b else b
theorem lq (b:Int):ab b=(b.natAbs:Int):=by unfold ab;split <;> omega
theorem ac5 (a b:Int):Int.gcd (ab a) (ab b)=Int.gcd a b:=by
 rw[lq,lq];simp[Int.gcd]
def B (n:Nat)(i:Int):Prop:=i.natAbs<2^n
variable {n:Nat}{i:Int}
theorem B.mono {m:Nat}(h:B n i)(hn:n<=m):B m i:=HY h (Ht (by decide) hn)
variable {j:Int}
theorem B.mul {m:Nat}(h:B n i)(k:B m j):B (n+m) (i*j):=by
 unfold B at *;rw[C4,Nat.pow_add];exact Nat.mul_lt_mul'' h k
theorem B.add (h:B n i)(k:B n j):B (n+1) (i+j):=by
 unfold B at *;rw[Nat.pow_succ];have:=Int.natAbs_add_le i j;omega
theorem B.le (h:B n i)(k:j.natAbs<=i.natAbs):B n j:=Gv k h
theorem rF {x d y:Int}(e:x*d=y)(hd:d≠0):x.natAbs<=y.natAbs:=by
 have:x.natAbs*d.natAbs=y.natAbs:=by rw[<-C4,e]
 have h1:1<=d.natAbs:=by omega
 calc x.natAbs=x.natAbs*1:=(Nat.mul_one _).symm
  _<=x.natAbs*d.natAbs:=C6 _ h1
  _=y.natAbs:=this
theorem adl {t:Int}(h:b≠0):(dS t b).natAbs<=t.natAbs:=rF (pS h) (nH h)
theorem AC {t:Int}(h:b≠0):(cI t b).natAbs<=b.natAbs:=rF (kZ h) (nH h)
theorem Co {t:Int}(h:b≠0):(dv t b).natAbs<=b.natAbs:=by
 have e:=kZ (t:=t) h;have lp:=oo (t:=t) h;exact rF (x:=dv t b) (d:=cI t b) (by rw[Int.mul_comm];exact e) (by omega)
theorem adm {t:Int}(h:b≠0):(eJ t b).natAbs<=b.natAbs:=by
 have e:=Co (t:=t) h;rw[ni] at e;unfold eJ;simpa using e
structure Num (p t b:Int):Prop where
 pos:0<b
 red:Int.gcd t b=1
 pr:p≠0->b=1/\0<=t/\t<p
theorem Num.ofP {p t:Int}(h0:0<=t)(h1:t<p):Num p t 1:=⟨by decide,by simp,λ_=>⟨rfl,h0,h1⟩⟩
theorem Num.low {t:Int}(h:b≠0):Num 0 (dS t b) (cI t b):=⟨oo h,ux h,λz=>absurd rfl z⟩
def c8 (p t b:Int):Int:=if p=0 then dS t b else t%p
def dA (p t b:Int):Int:=if p=0 then cI t b else 1
theorem Num.set {p t:Int}(hp:0<=p)(h:b≠0):Num p (c8 p t b) (dA p t b):=by
 unfold c8 dA
 by_cases z:p=0
 ·subst z;simp only[En];exact Num.low h
 ·simp only[z,CR];exact Num.ofP (jN _ z) (oH _ (by omega))
theorem Num.self {p t:Int}(n:Num p t b)(hp:0<=p):c8 p t b=t/\dA p t b=b:=by
 unfold c8 dA
 by_cases z:p=0
 ·simp only[z,En];exact kK n.pos n.red
 ·simp only[z,CR];obtain⟨h1,h2,h3⟩:=n.pr z;exact⟨Il h2 h3,h1.symm⟩
theorem adp {p t t' b':Int}(h:b≠0)(n:Num p t' b')(hp:0<=p)(e0:p=0->t*b'=t'*b)(e1:p≠0->t%p=t'%p):c8 p t b=t'/\dA p t b=b':=by
 unfold c8 dA
 by_cases z:p=0
 ·simp only[z,En];exact j8 h n.pos n.red (e0 z)
 ·simp only[z,CR];obtain⟨h1,h2,h3⟩:=n.pr z;exact⟨by rw[e1 z];exact Il h2 h3,h1.symm⟩
end Nm
namespace L2
open PySem PySem.Spec PyProof.Rows PySem.W
variable {i:Int}
theorem Cf (h:Nm.B 9000 i):i.natAbs.log2<9000:=by
 by_cases z:i.natAbs=0
 ·rw[z];decide
 ·exact(Nat.log2_lt z).mpr h
theorem zM (h:Nm.B 9000 i):Builtin.Int.intBits i<=2^20:=by
 have l:=Cf h;unfold Builtin.Int.intBits
 split
 ·exact Ag _
 ·have:(9000:Nat)<=2^20:=by decide
  omega
section
variable {X:Cx}
theorem fR:eU X (binaryOp .FloorDiv) (rI (λ_ j=>j≠0/\Nm.B 9000 j) λi j=>.int (i.fdiv j)):=CZ λ_ _ _ _ _ _ _ hc q=>floordiv_int hc.1 q (.inl (PyProof.noPylong_of_log2 (Cf hc.2)))
theorem cU:eU X (binaryOp .Mult) (rI (λi j=>Nm.B 9000 i/\Nm.B 9000 j) λi j=>.int (i*j)):=CZ λ_ _ _ _ _ _ _ hc q=>mul_int q (IntMulOk.of_bits (zM hc.1) (zM hc.2))
end
def C5:Expr->Option Int
 | .Constant (.int i) _ _=>some i
 |_=>none
theorem adv {e:Expr}(h:C5 e=some i):∃k p,e = .Constant (.int i) k p:=by
 unfold C5 at h
 split at h
 ·cases h
  exact⟨_,_,rfl⟩
 ·cases h
def uA:List Expr->Option (List Int)
 |[]=>some []
 |e::es=>(C5 e).bind λi=>(uA es).map (i :: ·)
def aei (ns:List Int):TA:=λ_ H Q=>Q (ns.map V.int) H
theorem uf {X:Cx}:∀{es:vH}{ns:List Int},uA es=some ns->PA X es (aei ns)
 |[],ns,h=>by
  cases h
  exact af
 |x::es,ns,h=>by
  unfold uA at h;obtain⟨i,hi,h⟩:=y4.mp h;obtain⟨ms,e,rfl⟩:=CU.mp h;obtain⟨k,p,rfl⟩:=adv hi;exact ai (ar (j:=k) (pos:=p)) (uf e)
def ahQ (ns:List Int):TE:=λ_ H Q=>∀p,H p=none->Q (.ref p) (upd H p (.lst (ns.map V.int)))
theorem agD {X:Cx}{es:vH}{pos:Pos}{ns:List Int}(h:uA es=some ns)(hl:ns.length<=1000):PE X (.List es pos) (ahQ ns):=by
 intro pins s σ H Q I q;refine cg (uf h) pins s σ H Q I ?_;refine⟨?_,q⟩;rw[vW];exact xa (agV hl)
end L2
namespace K74
open PySem L2 PySem.W Nm
abbrev Fz:Stmt:=(aQ 19)
abbrev vg:Stmt:=(aQ 20)
abbrev qi:Stmt:=(aQ 21)
def bo (t b:Int):HO:=.tup [.int t,.int b]
def C9:Sp:=λvs H Q _=>∃a b:Int,vs=[.int a,.int b]/\Q (.int (eJ a b)) H
def Dz:Sp:=λvs H Q _=>∃t b:Int,vs=[.int t,.int b]/\b≠0/\B 9000 b/\∀p,H p=none->Q (.ref p) (upd H p (bo (dS t b) (cI t b)))
def A5:Sp:=λvs H Q _=>∃m p:Int,vs=[.int m,.int p]/\p∈c6/\m%p≠0/\∀v,0<=v->v<p->(v*m)%p=1->Q (.int v) H
variable {p:Int}
theorem fP (h:p∈c6):2<=p/\p<=97:=by
 have:∀q∈c6,2<=q/\q<=97:=by decide
 exact this p h
theorem ahd {r:Int}(h:p∈c6)(h0:0<r)(h1:r<p):Int.gcd p r=1:=by
 have key:∀q∈c6,∀k:_root_.Fin 98,0<k.val->((k.val:Nat):Int)<q->Int.gcd q ((k.val:Nat):Int)=1:=by decide +kernel
 have hp:=fP h;have z:=key p h ⟨r.toNat,by omega⟩
 have e:((r.toNat:Nat):Int)=r:=by omega
 simp only[e] at z;exact z (by omega) h1
variable {P:Iy}{w:World}{K:PySem.W.Frag}{mg:xk}{base:Heap}
theorem Cr:DK yh yh (aq Fz):=c9 (by decide +kernel)
variable {f:Addr}{fd:qo}
theorem abU (F:Dp K "common_divisor" "common_divisor" Fz f fd)(mA:mg "abs"=none):zG P w K mg base (aO P w) 1 f fd yh C9:=by
 refine F.okN Cr (λvs H Q E h=>?_) (λJw A outer s H vs Q E hr h=>?_)
 ·obtain⟨a,b,rfl,_⟩:=h;rfl
 ·obtain⟨a,b,rfl,q⟩:=h
  refine⟨_,aj (ku wk (iQ (pv 1) (λ_=>rfl)) (ak (jr (i:=0) (j:=1) rfl Cr.nd rfl rfl (by decide) rfl rfl (ai (pv 1) (ai (aH tZ (pv 0) (pv 1)) af)) rfl)))
   (ak (az (aB mi (by rfl) mA (by rfl) (ai (pv 0) af)))),?_⟩
  refine⟨λm σ H'=>∃c d:Int,σ=[some (.int c),some (.int d)]/\H'=H/\m=d.natAbs/\Int.gcd c d=Int.gcd a b,⟨_,a,b,rfl,rfl,rfl,rfl⟩,?_⟩;rintro m σ H' ⟨c,d,rfl,rfl,rfl,hg⟩;refine⟨_,rfl,_,rfl,?_⟩;refine dO (λh=>?_) (λh=>?_)
  ·have hd:d≠0:=by simpa using h
   refine⟨λσ' Nb=>∃c' d':Int,σ'=[some (.int c'),some (.int d')]/\Nb=H'/\d'.natAbs<d.natAbs/\Int.gcd c' d'=Int.gcd a b,λσ' Nb ⟨c',d',e1,e2,e3,e4⟩=>⟨_,e3,c',d',e1,e2,rfl,e4⟩,?_⟩;refine⟨_,rfl,_,rfl,_,rfl,_,_,rfl,rfl,hd,_,_,rfl,d,c.fmod d,rfl,rfl,uN c d hd,?_⟩;rw[lu,hg]
  ·have hd:d=0:=by simpa using h
   subst hd;refine⟨_,rfl,c,rfl,?_⟩
   have e:(if c<0 then -c else c)=eJ a b:=by
    unfold eJ;rw[<-hg];have:=lq c;unfold ab at this;rw[this];simp
   rw[e];exact q
theorem kj:DK ["top","bottom","divisor"] xG (aq vg):=c9 (by decide +kernel)
theorem aci {fg:Addr}{JP:qo}(F:Dp K "lowest" "lowest" vg f fd)(FG:zG P w K mg base (aO P w) 1 fg JP yh C9)(bG:L2.ax K JP yh [])(mG:mg "common_divisor"=some (.ref fg))(kG:keepIn K (.ref fg)=true):
 zG P w K mg base (aO P w) 2 f fd xG Dz:=by
 refine F.okN kj (λvs H Q E h=>?_) (λJw A outer s H vs Q E hr h=>?_)
 ·obtain⟨a,b,rfl,_⟩:=h;rfl
 ·obtain⟨t,b,rfl,hb,hB,q⟩:=h
  refine⟨_,aj (bc (aM dZ (pv 1) ar (aJ _)) (ak (az (bu (ai (pv 0) (ai ar af))))) aE)
   (aj (aW (i:=2) kj.nd rfl (Or.inl rfl) (ay FG hr (by rfl) mG kG bG .nil ae (ai (pv 0) (ai (pv 1) af))))
   (aj (bc (aM jH (pv 1) ar (aJ _)) (ak (aW (i:=2) kj.nd rfl (Or.inl rfl) (dM cK (pv 2)))) aE)
   (ak (az (bu (ai (aH fR (pv 0) (pv 2)) (ai (aH fR (pv 1) (pv 2)) af))))))),?_⟩
  refine⟨_,rfl,rfl,_,rfl,?_⟩;refine dO (λh=>?_) (λh=>?_)
  ·have e:b=1:=by simpa using h
   subst e;have z:=kK (t:=t) (b:=1) (by decide) (by simp);refine⟨_,rfl,gR,λp hp=>?_⟩;have y:=q p hp;rw[z.1,z.2] at y;exact y
  ·refine⟨_,rfl,_,rfl,t,b,rfl,?_⟩;refine⟨_,rfl,_,_,rfl,rfl,_,rfl,?_⟩;have gp:=iN (t:=t) hb
   have fin:∀d:Int,d=dv t b->EJ (en (oY (rI (λ_ j=>j≠0/\Nm.B 9000 j) λi j=>V.int (i.fdiv j)) (gr 0) (gr 2)) (en (oY (rI (λ_ j=>j≠0/\Nm.B 9000 j) λi j=>V.int (i.fdiv j)) (gr 1) (gr 2)) HS)) [some (.int t),some (.int b),some (.int d)] H Q:=by
    intro d hd
    have PJ:d≠0:=by rw[hd];exact nH hb
    have ZQ:B 9000 d:=by rw[hd];exact hB.le (Co hb)
    refine⟨_,rfl,_,rfl,_,_,rfl,rfl,⟨PJ,ZQ⟩,_,rfl,_,rfl,_,_,rfl,rfl,⟨PJ,ZQ⟩,gR,λp hp=>?_⟩;have y:=q p hp;unfold dS cI at y;rw[<-hd] at y;exact y
   refine dO (λh2=>?_) (λh2=>?_)
   ·have e:b<0:=by simpa using h2
    exact⟨_,rfl,_,rfl,fin _ (by unfold dv;rw[zj e])⟩
   ·have e:¬b<0:=by simpa using h2
    exact fin _ (by unfold dv;rw[qM e])
structure Eu (m p r s l ls:Int):Prop where
 r0:0<r
 rl:r<l
 lp:l<=p
 g:Int.gcd l r=1
 e1:∃k,s*m-r=p*k
 e2:∃k,ls*m-l=p*k
theorem Eu.step {m r s l ls:Int}(h:Eu m p r s l ls)(h1:r≠1):Eu m p (l-l.fdiv r*r) (ls-l.fdiv r*s) r s/\(l-l.fdiv r*r).toNat<r.toNat:=by
 obtain⟨r0,rl,lp,g,⟨k1,e1⟩,⟨k2,e2⟩⟩:=h
 have em:l-l.fdiv r*r=l.fmod r:=by rw[Int.fmod_def,Int.mul_comm]
 have a:=Fi l r0;have b:=Ei l r0
 have gg:Int.gcd r (l.fmod r)=1:=by rw[lu,g]
 have nz:l.fmod r≠0:=by
  intro z;rw[z] at gg;simp at gg;omega
 rw[em];refine⟨⟨by omega,a,by omega,gg,⟨k2-l.fdiv r*k1,?_⟩,⟨k1,e1⟩⟩,by omega⟩;rw[<-em];generalize l.fdiv r=q
 have:(ls-q*s)*m-(l-q*r)=(ls*m-l)-q*(s*m-r):=by
  rw[Int.sub_mul,Int.mul_sub,xx];omega
 rw[this,e1,e2,Int.mul_sub,Int.mul_left_comm]
theorem Eu.fin {m s l ls:Int}(h:Eu m p 1 s l ls)(hp:2<=p):0<=s%p/\s%p<p/\(s%p*m)%p=1:=by
 obtain⟨_,_,_,_,⟨k1,e1⟩,_⟩:=h;refine⟨jN _ (by omega),oH _ (by omega),?_⟩
 have e:s*m=p*k1+1:=by omega
 rw[yG,Int.emod_emod,<-yG,e,Int.mul_add_emod_self_left];exact Il (by omega) (by omega)
abbrev acm:List Str:=["number","prime","rest","share","last","last_share","many"]
theorem eI:DK acm GF (aq qi):=c9 (by decide +kernel)
theorem acs (F:Dp K "inverse" "inverse" qi f fd):zG P w K mg base (aO P w) 1 f fd GF A5:=by
 refine F.okN eI (λvs H Q E h=>?_) (λJw A outer s H vs Q E hr h=>?_)
 ·obtain⟨a,b,rfl,_⟩:=h;rfl
 ·obtain⟨m,p,rfl,hp,hm,q⟩:=h;have PB:=fP hp
  refine⟨_,aj (jr (i:=2) (j:=3) rfl eI.nd rfl rfl (by decide) rfl rfl (ai (aH cJ (pv 0) (pv 1)) (ai ar af)) rfl)
   (aj (jr (i:=4) (j:=5) rfl eI.nd rfl rfl (by decide) rfl rfl (ai (pv 1) (ai ar af)) rfl)
   (aj (ku wk (aM ib (pv 2) ar (aJ _))
    (aj (aW (i:=6) eI.nd rfl (Or.inl rfl) (aH fR (pv 4) (pv 2)))
    (aj (jr (i:=4) (j:=2) rfl eI.nd rfl rfl (by decide) rfl rfl (ai (pv 2) (ai (aH fZ (pv 4) (aH fY (pv 6) (pv 2))) af)) rfl)
    (ak (jr (i:=5) (j:=3) rfl eI.nd rfl rfl (by decide) rfl rfl (ai (pv 3) (ai (aH fZ (pv 5) (aH fY (pv 6) (pv 3))) af)) rfl)))))
   (ak (az (aH cJ (pv 3) (pv 1)))))),?_⟩
  refine⟨_,rfl,_,rfl,_,_,rfl,rfl,(by show(0:Int)<p;omega),_,_,rfl,?_⟩;refine⟨_,rfl,_,_,rfl,?_⟩;have r0:0<=m%p:=jN _ (by omega);have r1:m%p<p:=oH _ (by omega)
  have E0:Eu m p (m%p) 1 p 0:=by
   refine⟨by omega,r1,oU _,ahd hp (by omega) r1,⟨m/p,?_⟩,⟨-1,by omega⟩⟩;have:=Int.emod_add_mul_ediv m p;omega
  refine⟨λn σ H'=>∃(r s l ls:Int)(o:Option V),σ=[some (.int m),some (.int p),some (.int r),some (.int s),some (.int l),some (.int ls),o]/\H'=H/\n=r.toNat/\Eu m p r s l ls,⟨_,_,_,_,_,_,rfl,rfl,rfl,E0⟩,?_⟩;rintro n σ H' ⟨r,s,l,ls,o,rfl,rfl,rfl,E⟩;refine⟨_,rfl,rfl,_,rfl,?_⟩;refine dO (λh=>?_) (λh=>?_)
  ·have JE:r≠1:=by simpa using h
   obtain⟨E',lt⟩:=E.step JE;have e0:=E.r0;have e1:=E.rl;have e2:=E.lp;have q0:0<=l.fdiv r:=Int.fdiv_nonneg (by omega) (by omega)
   have q1:l.fdiv r<=l:=by
    rw[Int.fdiv_eq_ediv_of_nonneg _ (by omega)];exact Int.ediv_le_self _ (by omega)
   refine⟨λσ' Nb=>∃(r' s' l' Vn:Int)(o:Option V),σ'=[some (.int m),some (.int p),some (.int r'),some (.int s'),some (.int l'),some (.int Vn),o]/\Nb=H'/\r'.toNat<r.toNat/\Eu m p r' s' l' Vn,λσ' Nb ⟨r',s',l',Vn,o',z1,z2,z3,z4⟩=>⟨_,z3,r',s',l',Vn,o',z1,z2,rfl,z4⟩,?_⟩;refine⟨_,rfl,_,rfl,_,_,rfl,rfl,⟨by omega,?_⟩,?_⟩
   ·have:r.natAbs<2^7:=by omega
    exact(show B 7 r from this).mono (by decide)
   ·refine⟨_,rfl,_,rfl,_,rfl,_,rfl,_,_,rfl,rfl,.inl ⟨by omega,by omega⟩,_,_,rfl,rfl,_,_,rfl,?_⟩;refine⟨_,rfl,_,rfl,_,rfl,_,rfl,_,_,rfl,rfl,.inl ⟨by omega,by omega⟩,_,_,rfl,rfl,_,_,rfl,?_⟩;exact⟨_,_,_,_,_,rfl,rfl,lt,E'⟩
  ·have JE:r=1:=by simpa using h
   subst JE;obtain⟨f0,f1,f2⟩:=E.fin PB.1;exact⟨_,rfl,_,rfl,_,_,rfl,rfl,(by show(0:Int)<p;omega),q _ f0 f1 f2⟩
abbrev yV:Stmt:=(aQ 12)
abbrev yb:Stmt:=aF (aQ 22) 0
inductive Th (H:Hp):V->String->Prop where
 |non:Th H .non "NoneType"
 |bl (b:Bool):Th H (.bl b) "bool"
 |int (i:Int):Th H (.int i) "int"
 |str (x:Str):Th H (.str x) "str"
 |lst {a:Addr}{xs:List V}(e:H a=some (.lst xs)):Th H (.ref a) "list"
 |tup {a:Addr}{xs:List V}(e:H a=some (.tup xs)):Th H (.ref a) "tuple"
 |dK {a:Addr}{Jt:List (Key×V)}(e:H a=some (.dK Jt)):Th H (.ref a) "dict"
variable {K:Frag}{H:Hp}{x:V}
theorem Th.ty {T:String}(h:Th H x T):Iq K H x (.type T):=by
 cases h with
 |non=>exact .of .non
 |bl b=>exact .of (.bl b)
 |int i=>exact .of (.int i)
 |str x=>exact .of (.str x)
 |lst e=>exact .of (.lst e)
 |tup e=>exact .of (.tup e)
 |dK e=>exact .of (.dK e)
def dG:V->Bool
 | .int _=>true
 |_=>false
def EN:V->Bool
 | .int _=>true
 | .bl _=>true
 |_=>false
theorem Th.isInt {T:String}(h:Th H x T):kitOne K (.type T) (.type "int")=some (EN x):=by cases h <;> rfl
theorem Th.isBool {T:String}(h:Th H x T)(hi:EN x=true):kitOne K (.type T) (.type "bool")=some (!dG x):=by
 cases h with
 |int i=>rfl
 |bl b=>rfl
 |_=>cases hi
def A0:Sp:=λvs H Q _=>∃x T,vs=[x]/\Th H x T/\Q (.bl (dG x)) H
structure xb (mg:xk):Prop where
 isi:mg "isinstance"=none
 int:mg "int"=none
 bool:mg "bool"=none
theorem acE:DK Fl Fl (aq yV):=c9 (by decide +kernel)
theorem acN (F:Dp K "is_whole" "is_whole" yV f fd)(n:xb mg):zG P w K mg base (aO P w) 1 f fd Fl A0:=by
 refine F.okN acE (λvs H Q E h=>?_) (λJw A outer s H vs Q E hr h=>?_)
 ·obtain⟨x,T,rfl,_⟩:=h;rfl
 ·obtain⟨x,T,rfl,th,q⟩:=h
  refine⟨_,ak (az (dC (aB aZ (by rfl) n.isi (by rfl) (ck (pv 0) (ck (dX (by rfl) n.int (by rfl) (show aI (.ty "int") (.type "int") from rfl)) af)))
   (d9 (zN (aB aZ (by rfl) n.isi (by rfl) (ck (pv 0) (ck (dX (by rfl) n.bool (by rfl) (show aI (.ty "bool") (.type "bool") from rfl)) af))))))),?_⟩
  refine⟨_,rfl,x,.ty "int",_,_,_,rfl,rfl,th.ty,th.isInt,_,rfl,?_⟩;refine dO (λhi=>?_) (λhi=>?_)
  ·refine⟨_,rfl,x,.ty "bool",_,_,_,rfl,rfl,th.ty,th.isBool hi,_,rfl,?_⟩;simpa using q
  ·have e:dG x=false:=by
    cases th <;> first|rfl|exact absurd rfl hi
   rw[e] at q;exact q
def jE (i:Int):Bool:=i==0 || c6.any λp=>p==i
def good:V->Bool
 | .int i=>jE i
 |_=>false
def cL (i:Int):List (Str×V):=[("its_prime",.int i)]
def pE (C NF:Addr):Sp:=λvs H Q E=>∃(p dx:Addr)(x:V)(T:String),vs=[.ref p,x]/\Th H x T/\H p=some (.ins C dx [])/\(good x=true->Q .non (upd H p (.ins C dx [("its_prime",x)])))/\(good x=false->E (.ref NF) none H)
structure CP (K:Frag)(mg:xk)(C:Addr):Prop where
 cl:Gb K C
 nP:dz K C "its_prime"
 mgC:mg "Field"=some (.ref C)
 isC:((clsIn K C).isSome&&typeIn K (.ref C)==some (.type "type"))=true
 ca:findIn K (.ref C) "__class__"=some (some (.builtin "object.__class__"))
 sp:specialIn K (.builtin "object.__class__") "__get__"=some (some (.builtin "getset_descriptor.__get__"))
 tk:takesIn K (.builtin "object.__class__")=some true
 ob:mroIn K C (.type "object")=some true
variable {mg:xk}{C:Addr}
theorem CP.ty (c:CP K mg C){p dx:Addr}{fs:List (Str×V)}(e:H p=some (.ins C dx fs)):Iq K H (.ref p) (.ref C):=.of (.ins e c.cl c.ca c.sp c.tk c.ob)
theorem CP.is (c:CP K mg C):kitOne K (.ref C) (.ref C)=some true:=by
 unfold kitOne;rw[zj (by simp)]
theorem CP.no (c:CP K mg C){T:String}(h:Th H x T):kitOne K (.type T) (.ref C)=some false:=by
 show(if(Value.type T==Value.ref C)=true then some true else(if((clsIn K C).isSome&&typeIn K (.ref C)==some (.type "type"))=true then subIn K (.type T) (.ref C) else none))=some false;rw[qM (by intro z;cases y7.mp z),zj c.isC]
 cases h <;> rfl
theorem lG (i:Int):Ew (.int i) (c6.map V.int)=c6.any λp=>p==i:=by
 unfold Ew;rw[List.any_map];rfl
theorem acY:DK w9 w9 (aq yb):=c9 (by decide +kernel)
variable {tF:Tok}
theorem acZ {fw NF aP T:Addr}{JT:qo}(F:HK K "__init__" "Field.__init__" yb f fd T)(c:CP K mg C)(FW:zG P w K mg base (aO P w) 1 fw JT Fl A0)(bW:ax K JT Fl [])(mW:mg "is_whole"=some (.ref fw))(kW:keepIn K (.ref fw)=true)
 (mF:mg "FRACTIONS"=some (.int 0 tF))(mP:mg "PRIMES"=some (.ref aP))(hP:∀H:Hp,bf K H aP (c6.map V.int))(mN:mg "NoField"=some (.ref NF))(qN:jb K NF zK lJ=true):zG P w K mg base (aO P w) 2 f fd w9 (pE C NF):=by
 refine F.okE acY (λvs H Q E h=>?_) (λJw A outer s H vs Q E hr h=>?_)
 ·obtain⟨p,dx,x,T,rfl,_⟩:=h;rfl
 ·obtain⟨p,dx,x,T,rfl,th,hp,hq,hE⟩:=h
  refine⟨_,aj (bc (PW.pt (eA (bF (bK (ay FW hr (by rfl) mW kW bW .nil ae (ck (pv 1) af))))
   (dB (PW.pt (sS (aM ib (pv 1) (cu (by rfl) mF (show aI (.int 0) (.int 0 tF) from⟨_,rfl⟩)) (aJ _)) (oQ (aM abS (pv 1) (cu (by rfl) mP (show aI (.ref aP) (.ref aP) from rfl)) (by rfl))))))))
   (ak (dY DI qN rfl cO (by rfl) mN (ck gf af))) aE)
   (ak (gN (pv 0) (pv 1) rfl)),?_⟩
  have fin:good x=true->∃(a C' ZR:Addr)(fs:List (Str×V)),V.ref p=.ref a/\H a=some (.ins C' ZR fs)/\Gb K C'/\dz K C' "its_prime"/\fs.length<1000/\Q .non (upd H a (.ins C' ZR (cP "its_prime" x fs))):=λg=>⟨p,C,dx,[],rfl,hp,c.cl,c.nP,by decide,hq g⟩;refine⟨_,rfl,x,T,rfl,th,_,rfl,?_⟩
  cases th with
  |int i =>
   refine bw ?_;refine⟨_,rfl,rfl,_,rfl,?_⟩;refine dO (λh0=>?_) (λh0=>?_)
   ·refine⟨_,rfl,aP,_,rfl,.inr (hP _),rfl,rfl,_,rfl,?_⟩;refine dO (λh1=>?_) (λh1=>?_)
    ·refine⟨by decide,hE ?_⟩
     have e1:¬i=0:=by simpa using h0
     have e2:Ew (.int i) (c6.map V.int)=false:=by simpa using h1
     rw[lG] at e2;show jE i=false;unfold jE;rw[e2];simpa using e1
    ·have e2:Ew (.int i) (c6.map V.int)=true:=by simpa using h1
     rw[lG] at e2;exact⟨_,rfl,_,rfl,fin (by show jE i=true;unfold jE;rw[e2];simp)⟩
   ·have e1:i=0:=by simpa using h0
    exact bw ⟨_,rfl,_,rfl,fin (by show jE i=true;rw[e1];rfl)⟩
  |_=>exact bZ (bZ ⟨by decide,hE rfl⟩)
abbrev Ct:Stmt:=aF (aQ 22) 5
abbrev Cj:Stmt:=aF (aQ 22) 6
abbrev zQ:Stmt:=aF (aQ 22) 8
abbrev p0:Stmt:=aF (aQ 22) 10
def FP (p:Int):Prop:=p=0\/p∈c6
theorem FP.nn (h:FP p):0<=p:=by
 rcases h with h|h
 ·omega
 ·have:=fP h;omega
theorem FP.two (h:FP p)(z:p≠0):p∈c6/\2<=p/\p<=97:=by
 rcases h with h|h
 ·exact absurd h z
 ·exact⟨h,fP h⟩
def rK (C NN:Addr):Sp:=λvs H Q E=>∃(s dx:Addr)(p t b:Int),vs=[.ref s,.int t,.int b]/\H s=some (.ins C dx (cL p))/\FP p/\B 9000 b /\
 (p=0->b=0->E (.ref NN) none H)/\(p=0->b≠0->∀a,H a=none->Q (.ref a) (upd H a (bo (dS t b) (cI t b)))) /\
 (p≠0->b%p=0->E (.ref NN) none H)/\(p≠0->b%p≠0->∀v,0<=v->v<p->(v*b)%p=1->∀a,H a=none->Q (.ref a) (upd H a (bo (t*v%p) 1)))
def jf (C:Addr):Sp:=λvs H Q _=>∃(s dx:Addr)(p t b:Int),vs=[.ref s,.int t,.int b]/\H s=some (.ins C dx (cL p))/\FP p/\B 9000 b/\b≠0/\∀a,H a=none->Q (.ref a) (upd H a (bo (c8 p t b) (dA p t b)))
def lY (C:Addr)(g:Int->Int->Int->Int->Int):Sp:=λvs H Q _=>∃(s dx a1 a2:Addr)(p t1 b1 t2 b2:Int),vs=[.ref s,.ref a1,.ref a2]/\H s=some (.ins C dx (cL p))/\FP p/\H a1=some (bo t1 b1)/\H a2=some (bo t2 b2) /\
 B 4000 t1/\B 4000 b1/\B 4000 t2/\B 4000 b2/\b1≠0/\b2≠0/\∀a,H a=none->Q (.ref a) (upd H a (bo (c8 p (g t1 b1 t2 b2) (b1*b2)) (dA p (g t1 b1 t2 b2) (b1*b2))))
def iH (t1 b1 t2 b2:Int):Int:=t1*b2+t2*b1
def fU (t1 b1 t2 b2:Int):Int:=t1*t2
theorem adh:DK vv vv (aq Ct):=c9 (by decide +kernel)
theorem adi {NN fl fv:Addr}{JX ZS:qo}(F:Dp K "quotient" "Field.quotient" Ct f fd)(c:CP K mg C)(mF:mg "FRACTIONS"=some (.int 0 tF))(mN:mg "NoNumber"=some (.ref NN))(qN:jb K NN zK lJ=true)
 (FL:zG P w K mg base (aO P w) 2 fl JX xG Dz)(bL:L2.ax K JX xG [])(mL:mg "lowest"=some (.ref fl))(kL:keepIn K (.ref fl)=true)
 (FV:zG P w K mg base (aO P w) 1 fv ZS GF A5)(bV:L2.ax K ZS GF [])(mV:mg "inverse"=some (.ref fv))(kV:keepIn K (.ref fv)=true):
 zG P w K mg base (aO P w) 3 f fd vv (rK C NN):=by
 refine F.okE adh (λvs H Q E h=>?_) (λJw A outer s H vs Q E hr h=>?_)
 ·obtain⟨s,dx,p,t,b,rfl,_⟩:=h;rfl
 ·obtain⟨s,dx,p,t,b,rfl,hs,hp,hB,q1,q2,q3,q4⟩:=h;have JE:A8 1 _:=hr.mono (by decide)
  refine⟨_,aj (bc (aM dZ (bD (pv 0) rfl) (cu (by rfl) mF (show aI (.int 0) (.int 0 tF) from⟨_,rfl⟩)) (aJ _))
   (aj (bc (aM dZ (pv 2) ar (aJ _)) (ak (dY DI qN rfl cO (by rfl) mN (ai gf af))) aE)
   (ak (az (ay FL hr (by rfl) mL kL bL .nil ae (ai (pv 1) (ai (pv 2) af)))))) aE)
   (aj (bc (aM dZ (aH cJ (pv 2) (bD (pv 0) rfl)) ar (aJ _)) (ak (dY DI qN rfl cO (by rfl) mN (ai gf af))) aE)
   (ak (az (bu (ai (aH cJ (aH fY (pv 1) (ay FV JE (by rfl) mV kV bV .nil ae (ai (pv 2) (ai (bD (pv 0) rfl) af)))) (bD (pv 0) rfl)) (ai ar af)))))),?_⟩
  refine⟨_,rfl,s,C,dx,_,_,rfl,hs,c.cl,c.nP,rfl,rfl,_,rfl,?_⟩;refine dO (λh=>?_) (λh=>?_)
  ·have J7:p=0:=by simpa using h
   refine⟨_,rfl,rfl,_,rfl,?_⟩;refine dO (λh2=>?_) (λh2=>?_)
   ·have hb:b=0:=by simpa using h2
    exact⟨by decide,q1 J7 hb⟩
   ·have hb:b≠0:=by simpa using h2
    exact⟨_,rfl,_,rfl,t,b,rfl,hb,hB,q2 J7 hb⟩
  ·have J7:p≠0:=by simpa using h
   obtain⟨PL,p2,Vo⟩:=hp.two J7;refine⟨_,rfl,_,rfl,s,C,dx,_,_,rfl,hs,c.cl,c.nP,rfl,_,_,rfl,rfl,(by show(0:Int)<p;omega),rfl,_,rfl,?_⟩;refine dO (λh2=>?_) (λh2=>?_)
   ·have hb:b%p=0:=by simpa using h2
    exact⟨by decide,q3 J7 hb⟩
   ·have hb:b%p≠0:=by simpa using h2
    refine⟨_,rfl,_,rfl,_,rfl,s,C,dx,_,_,rfl,hs,c.cl,c.nP,rfl,b,p,rfl,PL,hb,λv v0 v1 v2=>?_⟩;refine⟨_,_,rfl,rfl,.inr ⟨by omega,by omega⟩,_,rfl,s,C,dx,_,_,rfl,hs,c.cl,c.nP,rfl,_,_,rfl,rfl,(by show(0:Int)<p;omega),gR,λa ha=>q4 J7 hb v v0 v1 v2 a ha⟩
theorem adD:DK vv vv (aq p0):=c9 (by decide +kernel)
theorem adZ {fl:Addr}{JX:qo}(F:Dp K "settled" "Field.settled" p0 f fd)(c:CP K mg C)(mF:mg "FRACTIONS"=some (.int 0 tF))
 (FL:zG P w K mg base (aO P w) 2 fl JX xG Dz)(bL:L2.ax K JX xG [])(mL:mg "lowest"=some (.ref fl))(kL:keepIn K (.ref fl)=true):
 zG P w K mg base (aO P w) 3 f fd vv (jf C):=by
 refine F.okN adD (λvs H Q E h=>?_) (λJw A outer s H vs Q E hr h=>?_)
 ·obtain⟨s,dx,p,t,b,rfl,_⟩:=h;rfl
 ·obtain⟨s,dx,p,t,b,rfl,hs,hp,hB,hb,q⟩:=h
  refine⟨_,aj (bc (aM dZ (bD (pv 0) rfl) (cu (by rfl) mF (show aI (.int 0) (.int 0 tF) from⟨_,rfl⟩)) (aJ _))
   (ak (az (ay FL hr (by rfl) mL kL bL .nil ae (ai (pv 1) (ai (pv 2) af))))) aE)
   (ak (az (bu (ai (aH cJ (pv 1) (bD (pv 0) rfl)) (ai ar af))))),?_⟩
  refine⟨_,rfl,s,C,dx,_,_,rfl,hs,c.cl,c.nP,rfl,rfl,_,rfl,?_⟩;refine dO (λh=>?_) (λh=>?_)
  ·have J7:p=0:=by simpa using h
   refine⟨_,rfl,_,rfl,t,b,rfl,hb,hB,λa ha=>?_⟩;have y:=q a ha;unfold c8 dA at y;rw[zj J7,zj J7] at y;exact y
  ·have J7:p≠0:=by simpa using h
   obtain⟨PL,p2,Vo⟩:=hp.two J7;refine⟨_,rfl,_,rfl,s,C,dx,_,_,rfl,hs,c.cl,c.nP,rfl,_,_,rfl,rfl,(by show(0:Int)<p;omega),gR,λa ha=>?_⟩;have y:=q a ha;unfold c8 dA at y;rw[qM J7,qM J7] at y;exact y
theorem a0 (x y:V):pQ [x,y] 0=some x:=rfl
theorem a1 (x y:V):pQ [x,y] 1=some y:=rfl
theorem aeM:DK Gw Gw (aq Cj):=c9 (by decide +kernel)
theorem pN {a b:Int}(h:a≠0)(k:b≠0):a*b≠0:=AS h k
theorem TGs {fs:Addr}{Kp:qo}(F:Dp K "plus" "Field.plus" Cj f fd)(c:CP K mg C)(FS:zG P w K mg base (aO P w) 3 fs Kp vv (jf C))(bS:L2.ax K Kp vv [])(mS:L2.Meth K C "settled" fs):
 zG P w K mg base (aO P w) 4 f fd Gw (lY C iH):=by
 refine F.okN aeM (λvs H Q E h=>?_) (λJw A outer s H vs Q E hr h=>?_)
 ·obtain⟨s,dx,a1,a2,p,t1,b1,t2,b2,rfl,_⟩:=h;rfl
 ·obtain⟨s,dx,x1,x2,p,t1,b1,t2,b2,rfl,hs,hp,h1,h2,B1,B2,B3,B4,n1,n2,q⟩:=h;refine⟨_,ak (az (bH (pv 0) c.cl mS FS hr bS .nil ae (ai (aH eK (aH cU (a9 br (pv 1) ar (λ_ _=>rfl)) (a9 br (pv 2) ar (λ_ _=>rfl))) (aH cU (a9 br (pv 2) ar (λ_ _=>rfl)) (a9 br (pv 1) ar (λ_ _=>rfl)))) (ai (aH cU (a9 br (pv 1) ar (λ_ _=>rfl)) (a9 br (pv 2) ar (λ_ _=>rfl))) af)))),?_⟩;refine⟨_,rfl,s,dx,_,rfl,hs,rfl,?_⟩;refine⟨_,rfl,x1,_,0,_,rfl,rfl,bf.of h1,a0 _ _,_,rfl,x2,_,1,_,rfl,rfl,bf.of h2,a1 _ _,_,_,rfl,rfl,⟨B1.mono (by decide),B4.mono (by decide)⟩,?_⟩;refine⟨_,rfl,x2,_,0,_,rfl,rfl,bf.of h2,a0 _ _,_,rfl,x1,_,1,_,rfl,rfl,bf.of h1,a1 _ _,_,_,rfl,rfl,⟨B3.mono (by decide),B2.mono (by decide)⟩,_,_,rfl,rfl,?_⟩;refine⟨_,rfl,x1,_,1,_,rfl,rfl,bf.of h1,a1 _ _,_,rfl,x2,_,1,_,rfl,rfl,bf.of h2,a1 _ _,_,_,rfl,rfl,⟨B2.mono (by decide),B4.mono (by decide)⟩,?_⟩;exact⟨s,dx,p,_,_,rfl,hs,hp,(B2.mul B4).mono (by decide),pN n1 n2,q⟩
abbrev B0:Stmt:=(aQ 56)
abbrev Cm:Stmt:=(aQ 57)
theorem ao {a:Addr}{o:HO}(h:H a=none):aA H (upd H a o):=λb u e=>by rw[av (au e h)];exact e
def xy (K:PySem.W.Frag):Sp:=λvs H Q _=>∃(a:Addr)(ns:List Int)(k:Int),vs=[.ref a,.int k]/\aV K H a (ns.map V.int)/\ns.length<=63/\0<=k/\k<=63 /\
 ∀(p:Addr)(l r:Int),H p=none->0<=r->r<2147483647->Q (.ref p) (upd H p (.lst [.int l,.int r]))
def yo:Sp:=λvs H Q _=>∃(p:Addr)(l r m:Int),vs=[.ref p,.int m]/\H p=some (.lst [.int l,.int r])/\0<=r/\r<2147483647/\0<m/\m<18446744073709551616 /\
 ∀(z l' r':Int),0<=z->z<m->0<=r'->r'<2147483647->Q (.int z) (upd H p (.lst [.int l',.int r']))
theorem kQ:DK ["_law_script","_law_k","_law_cell","_law_seed"] zW (aq B0):=c9 (by decide +kernel)
theorem yR:DK ["_law_pool_here","_law_many","_law_found"] DJ (aq Cm):=c9 (by decide +kernel)
theorem p6 {Q:VK}{k c:Int}{x y:Option V}(Qt:0<=k)(Wm:k<=63)(q:∀(p:Addr)(l r:Int),H p=none->0<=r->r<2147483647->Q (.ref p) (upd H p (.lst [.int l,.int r]))):
 CY (xg (oY (rI (λ_ j=>0<j) λi j=>.int (i%j)) (oY (rI tO λi j=>.int (i*j)) (oY (vN λi j=>.int (i+j)) (oY (vN λi j=>.int (i+j)) (oY (rI (λ_ j=>0<j) λi j=>.int (i%j)) (gr 2) (tC (.int 2147483629))) (oY (rI tO λi j=>.int (i*j)) (oY (rI tO λi j=>.int (i*j)) (tC (.int 7919)) (gr 1)) (gr 1))) (tC (.int 11))) (tC (.int 48271))) (tC (.int 2147483647))) (bN 3))
  (CY (E9 (zA (oY (vN λi j=>.bl (decide (i<j))) (gr 2) (oY (rI FH λi j=>.int (i^j.toNat)) (tC (.int 10)) (tC (.int 18))))) (xg (tC (.int 0)) (bN 2)) z9)
  (Gj (DZ (en (gr 2) (en (oY (vN λi j=>.int (i+j)) (oY (rI (λ_ j=>0<j) λi j=>.int (i%j)) (oY (rI tO λi j=>.int (i*j)) (gr 3) (gr 3)) (tC (.int 2147483587))) (tC (.int 1))) HS)))))
  {nx:=λ_ H'=>Q .non H',rt:=Q} [x,some (.int k),some (.int c),y] H:=by
 have e1:∀t:Int,0<=t%2147483647/\t%2147483647<2147483647:=λt=>⟨jN _ (by decide),oH _ (by decide)⟩;have e2:∀t:Int,0<=t%2147483587/\t%2147483587<2147483587:=λt=>⟨jN _ (by decide),oH _ (by decide)⟩;refine⟨_,rfl,_,_,rfl,rfl,(by show(0:Int)<2147483629;decide),_,rfl,_,_,rfl,rfl,.inl ⟨by decide,by decide⟩,_,rfl,_,_,rfl,rfl,.inl ⟨by omega,by omega⟩,_,_,rfl,rfl,_,_,rfl,rfl,_,_,rfl,rfl,.inr ⟨by decide,by decide⟩,_,_,rfl,rfl,(by show(0:Int)<2147483647;decide),?_⟩;refine⟨_,rfl,_,_,rfl,rfl,⟨by decide,by decide,by decide⟩,_,_,rfl,rfl,_,rfl,?_⟩;refine dO (λh=>?_) (λh=>?_)
 ·refine⟨_,rfl,_,rfl,_,rfl,_,_,rfl,rfl,.inl ⟨by have:=e1 ((c%2147483629+7919*k*k+11)*48271);omega,by have:=e1 ((c%2147483629+7919*k*k+11)*48271);omega⟩,_,_,rfl,rfl,(by show(0:Int)<2147483587;decide),_,_,rfl,rfl,gR,λp hp=>?_⟩;exact q p _ _ hp (by have:=e2 (((c%2147483629+7919*k*k+11)*48271%2147483647)*((c%2147483629+7919*k*k+11)*48271%2147483647));omega) (by have:=e2 (((c%2147483629+7919*k*k+11)*48271%2147483647)*((c%2147483629+7919*k*k+11)*48271%2147483647));omega)
 ·refine⟨_,rfl,_,rfl,_,rfl,_,_,rfl,rfl,.inl ⟨by have:=e1 ((c%2147483629+7919*k*k+11)*48271);omega,by have:=e1 ((c%2147483629+7919*k*k+11)*48271);omega⟩,_,_,rfl,rfl,(by show(0:Int)<2147483587;decide),_,_,rfl,rfl,gR,λp hp=>?_⟩;exact q p _ _ hp (by have:=e2 (((c%2147483629+7919*k*k+11)*48271%2147483647)*((c%2147483629+7919*k*k+11)*48271%2147483647));omega) (by have:=e2 (((c%2147483629+7919*k*k+11)*48271%2147483647)*((c%2147483629+7919*k*k+11)*48271%2147483647));omega)
theorem ahW (F:Dp K "_law_pool" "_law_pool" B0 f fd)(Jv:mg "len"=none):zG P w K mg base (aO P w) 1 f fd zW (xy K):=by
 refine F.okN kQ (λvs H Q E h=>?_) (λJw A outer s H vs Q E hr h=>?_)
 ·obtain⟨a,ns,k,rfl,_⟩:=h;rfl
 ·obtain⟨a,ns,k,rfl,hS,hn,Qt,Wm,q⟩:=h
  refine⟨_,(aj (@aW _ _ 2 _ _ _ _ kQ.nd rfl (Or.inl rfl) ar rfl (Or.inl rfl))
   (aj (bc (@aM _ _ _ _ _ _ _ _ jH (pv 1) (aB aK (by rfl) Jv A2 (@ai _ _ _ _ _ (pv 0) af rfl)) (aJ _)) (ak (@aW _ _ 2 _ _ _ _ kQ.nd rfl (Or.inl rfl) (@a9 _ _ _ _ _ _ _ cx (pv 0) (pv 1) (λ_ _=>rfl)) rfl (Or.inl rfl))) aE)
   (aj (@aW _ _ 3 _ _ _ _ kQ.nd rfl (Or.inl rfl) (@aH _ _ _ _ _ _ _ _ cJ (@aH _ _ _ _ _ _ _ _ fY (@aH _ _ _ _ _ _ _ _ eK (@aH _ _ _ _ _ _ _ _ eK (@aH _ _ _ _ _ _ _ _ cJ (pv 2) ar) (@aH _ _ _ _ _ _ _ _ fY (@aH _ _ _ _ _ _ _ _ fY ar (pv 1)) (pv 1))) ar) ar) ar) rfl (Or.inl rfl))
   (aj (bc (@aM _ _ _ _ _ _ _ _ jH (pv 2) (@aH _ _ _ _ _ _ _ _ afG ar ar) (aJ _)) (ak (@aW _ _ 2 _ _ _ _ kQ.nd rfl (Or.inl rfl) ar rfl (Or.inl rfl))) aE)
   (ak (az (@cg _ _ _ _ (@ai _ _ _ _ _ (pv 2) (@ai _ _ _ _ _ (@aH _ _ _ _ _ _ _ _ eK (@aH _ _ _ _ _ _ _ _ cJ (@aH _ _ _ _ _ _ _ _ fY (pv 3) (pv 3)) ar) ar) af rfl) rfl)))))))),?_⟩
  refine⟨_,rfl,_,rfl,a,_,rfl,.inl hS,_,_,rfl,rfl,_,rfl,?_⟩;refine dO (λh=>?_) (λh=>p6 Qt Wm q)
  have JB:k.toNat<ns.length:=by
   have h1:=Eo h;rw[vW] at h1;omega
  have e:((k.toNat:Nat):Int)=k:=by omega
  have z:=jU (xs:=ns.map V.int) (j:=k.toNat) (v:=V.int ns[k.toNat]) (by rw[wN];simp[JB]);rw[e] at z;exact⟨_,rfl,_,rfl,a,_,k,_,rfl,rfl,hS,z,p6 Qt Wm q⟩
theorem ag1 (F:Dp K "_law_take" "_law_take" Cm f fd):zG P w K mg base (aO P w) 1 f fd DJ yo:=by
 refine F.okN yR (λvs H Q E h=>?_) (λJw A outer s H vs Q E hr h=>?_)
 ·obtain⟨p,l,r,m,rfl,_⟩:=h;rfl
 ·obtain⟨p,l,r,m,rfl,hp,Wn,JE,Vp,hm1,q⟩:=h
  refine⟨_,(aj (bc (@aM _ _ _ _ _ _ _ _ uH (@a9 _ _ _ _ _ _ _ cx (pv 0) ar (λ_ _=>rfl)) ar (aJ _)) (aj (@aW _ _ 2 _ _ _ _ yR.nd rfl (Or.inl rfl) (@aH _ _ _ _ _ _ _ _ cJ (@a9 _ _ _ _ _ _ _ cx (pv 0) ar (λ_ _=>rfl)) (pv 1)) rfl (Or.inl rfl))
   (aj (oN (@aH _ _ _ _ _ _ _ _ fR (@a9 _ _ _ _ _ _ _ cx (pv 0) ar (λ_ _=>rfl)) (pv 1)) (rT (pv 0) ar lU))
   (ak (az (pv 2))))) aE)
   (aj (oN (@aH _ _ _ _ _ _ _ _ cJ (@aH _ _ _ _ _ _ _ _ eK (@aH _ _ _ _ _ _ _ _ fY (@a9 _ _ _ _ _ _ _ cx (pv 0) ar (λ_ _=>rfl)) ar) ar) ar) (rT (pv 0) ar lU))
   (ak (az (@aH _ _ _ _ _ _ _ _ cJ (@aH _ _ _ _ _ _ _ _ Gth (@aH _ _ _ _ _ _ _ _ cJ (@aH _ _ _ _ _ _ _ _ fY (@a9 _ _ _ _ _ _ _ cx (pv 0) ar (λ_ _=>rfl)) (@a9 _ _ _ _ _ _ _ cx (pv 0) ar (λ_ _=>rfl))) ar) ar) (pv 1)))))),?_⟩
  have i0:∀x y:V,pQ [x,y] 0=some x:=λ_ _=>rfl;have i1:∀x y:V,pQ [x,y] 1=some y:=λ_ _=>rfl;have n0:wW [V.int l,V.int r].length 0=some 0:=rfl;have n1:∀x y:V,wW [x,y].length 1=some 1:=λ_ _=>rfl;refine⟨_,rfl,p,_,0,_,rfl,rfl,aV.of hp,i0 _ _,_,_,rfl,rfl,_,rfl,?_⟩;refine dO (λh=>?_) (λh=>?_)
  ·refine⟨_,rfl,p,_,0,_,rfl,rfl,aV.of hp,i0 _ _,_,rfl,_,_,rfl,rfl,Vp,?_⟩;refine⟨_,rfl,p,_,0,_,rfl,rfl,aV.of hp,i0 _ _,_,rfl,_,_,rfl,rfl,⟨by omega,(show B 64 m from(by show m.natAbs<2^64;omega)).mono (by decide)⟩,_,rfl,p,_,0,0,rfl,rfl,hp,n0,?_⟩;exact⟨_,rfl,q _ _ _ (jN _ (by omega)) (oH _ Vp) Wn JE⟩
  ·have e1:∀t:Int,0<=t%2147483647/\t%2147483647<2147483647:=λt=>⟨jN _ (by decide),oH _ (by decide)⟩;refine⟨_,rfl,p,_,1,_,rfl,rfl,aV.of hp,i1 _ _,_,_,rfl,rfl,.inl ⟨by omega,by omega⟩,_,_,rfl,rfl,_,_,rfl,rfl,(by show(0:Int)<2147483647;decide),_,rfl,p,_,1,1,rfl,rfl,hp,n1 _ _,?_⟩;refine⟨_,rfl,p,_,1,_,rfl,rfl,aV.of ah,i1 _ _,_,rfl,p,_,1,_,rfl,rfl,aV.of ah,i1 _ _,_,_,rfl,rfl,.inl ⟨by omega,by omega⟩,_,_,rfl,rfl,(by show(0:Int)<2147483629;decide),_,_,rfl,rfl,⟨by decide,by decide⟩,_,rfl,_,_,rfl,rfl,Vp,?_⟩;exact q _ _ _ (jN _ (by omega)) (oH _ Vp) (e1 _).1 (e1 _).2
end K74
namespace L2
open PySem
variable {H:Hp}
theorem oP {σ:St}{A B:Hp->Prop}(h:A H):EY σ H λb H4=>if b=true then A H4 else B H4:=h
variable {tt:TT}{te:TE}
theorem lN {J:It}{n:Nat}{at_:Nat->V->Prop}{rest:St}{F:List V->Hp->Prop}(Pv:Nat->List V->Hp->Prop)(h0:Pv 0 [] H)
 (hz:∀i ys H',i<=n->Pv i ys H'->ys.length<sizeLine/\(i<n->J.go i H')/\(i=n->J.stop i H')/\∀x H2,J.yld i H' x H2->H2=H'/\at_ i x)
 (hs:∀i x ys H' (N:List V->Hp->Prop),i<n->at_ i x->Pv i ys H'->(∀zs H5,Pv (i+1) zs H5->N zs H5) →
  tt (some x::rest) H' λb H4=>if b=true then te (some x::rest) H4 λy H5=>N (ys++[y]) H5 else N ys H4)
 (hd:∀ys H',Pv n ys H'->F ys H'):
 ∃W:Nat->Nat->List V->St->Hp->Prop,(∃m,W 0 m [] (none::rest) H)/\jC J (bN 0) tt te W F:=by
 refine⟨λi m ys σ H'=>m=n-i/\i<=n/\Pv i ys H'/\∃o,σ=o::rest,⟨n,by simp,Ag _,h0,none,rfl⟩,?_⟩;rintro i m ys σ H' ⟨rfl,hi,p,o,rfl⟩;obtain⟨z1,z2,z3,z4⟩:=hz i ys H' hi p;refine⟨z1,?_⟩
 by_cases JB:i<n
 ·refine .inr ⟨z2 JB,λx H2 hy=>?_⟩;obtain⟨rfl,hx⟩:=z4 x H2 hy;exact hs i x ys H2 (λzs H5=>∃m',m'<n-i/\m'=n-(i+1)/\i+1<=n/\Pv (i+1) zs H5/\∃o',(some x::rest:St)=o'::rest) JB hx p λzs H5 h=>⟨n-(i+1),by omega,rfl,JB,h,_,rfl⟩
 ·have:i=n:=by omega
  subst this;exact .inl ⟨z3 rfl,hd ys H' p⟩
variable {K:PySem.W.Frag}
theorem ahY {a:Addr}{xs:List V}{rest:St}{F:List V->Hp->Prop}(Pv:Nat->List V->Hp->Prop)(h0:Pv 0 [] H)
 (hz:∀i ys H',i<=xs.length->Pv i ys H'->ys.length<sizeLine/\bf K H' a xs)
 (hs:∀i x ys H' (N:List V->Hp->Prop),i<xs.length->xs[i]?=some x->Pv i ys H'->(∀zs H5,Pv (i+1) zs H5->N zs H5) →
  tt (some x::rest) H' λb H4=>if b=true then te (some x::rest) H4 λy H5=>N (ys++[y]) H5 else N ys H4)
 (hd:∀ys H',Pv xs.length ys H'->F ys H'):
 ∃W:Nat->Nat->List V->St->Hp->Prop,(∃m,W 0 m [] (none::rest) H)/\jC (Ig K a) (bN 0) tt te W F:=by
 refine lN (n:=xs.length) (at_:=λi x=>xs[i]?=some x) Pv h0 (λi ys H' hi p=>?_) hs hd;obtain⟨z1,z2⟩:=hz i ys H' hi p;exact⟨z1,λh=>⟨xs,xs[i],z2,by simp[h]⟩,λh=>⟨xs,z2,by omega⟩,λx H2 hy=>⟨hy.1,hy.2 xs z2⟩⟩
theorem lA {a:Addr}{xs:List V}{rest:St}{F:List V->Hp->Prop}(Pv:Nat->List V->Hp->Prop)(h0:Pv 0 [] H)
 (hz:∀i ys H',i<=xs.length->Pv i ys H'->ys.length<sizeLine/\aV K H' a xs)
 (hs:∀i x ys H' (N:List V->Hp->Prop),i<xs.length->xs[i]?=some x->Pv i ys H'->(∀zs H5,Pv (i+1) zs H5->N zs H5) →
  tt (some x::rest) H' λb H4=>if b=true then te (some x::rest) H4 λy H5=>N (ys++[y]) H5 else N ys H4)
 (hd:∀ys H',Pv xs.length ys H'->F ys H'):
 ∃W:Nat->Nat->List V->St->Hp->Prop,(∃m,W 0 m [] (none::rest) H)/\jC (zZ K a) (bN 0) tt te W F:=by
 refine lN (n:=xs.length) (at_:=λi x=>xs[i]?=some x) Pv h0 (λi ys H' hi p=>?_) hs hd;obtain⟨z1,z2⟩:=hz i ys H' hi p;exact⟨z1,λh=>⟨xs,xs[i],z2,by simp[h]⟩,λh=>⟨xs,z2,by omega⟩,λx H2 hy=>⟨hy.1,hy.2 xs z2⟩⟩
theorem qG {lo:Int}{n:Nat}{rest:St}{F:List V->Hp->Prop}(Pv:Nat->List V->Hp->Prop)(h0:Pv 0 [] H)
 (hz:∀i ys H',i<=n->Pv i ys H'->ys.length<sizeLine)
 (hs:∀i ys H' (N:List V->Hp->Prop),i<n->Pv i ys H'->(∀zs H5,Pv (i+1) zs H5->N zs H5) →
  tt (some (.int (lo+i)):: rest) H' λb H4=>if b=true then te (some (.int (lo+i)):: rest) H4 λy H5=>N (ys++[y]) H5 else N ys H4)
 (hd:∀ys H',Pv n ys H'->F ys H'):
 ∃W:Nat->Nat->List V->St->Hp->Prop,(∃m,W 0 m [] (none::rest) H)/\jC (B6 lo n) (bN 0) tt te W F:=by
 refine lN (n:=n) (at_:=λi x=>x=.int (lo+i)) Pv h0 (λi ys H' hi p=>?_) (λi x ys H' N h1 h2=>by subst h2;exact hs i ys H' N h1) hd;exact⟨hz i ys H' hi p,λh=>h,λh=>by show n<=i;omega,λx H2 hy=>hy⟩
theorem jj {a:Addr}{xs:List V}{rest:St}{F:List V->Hp->Prop}(Pv:Nat->List V->Hp->Prop)(h0:Pv 0 [] H)
 (hz:∀i ys H',i<=xs.length->Pv i ys H'->ys.length<sizeLine/\aV K H' a xs)
 (hs:∀i x ys H',i<xs.length->xs[i]?=some x->Pv i ys H' →
  ∃b u v,x=.ref b/\bf K H' b [u,v]/\∀(N:List V->Hp->Prop),(∀zs H5,Pv (i+1) zs H5->N zs H5)->tt (some u::some v::rest) H' λb H4=>if b=true then te (some u::some v::rest) H4 λy H5=>N (ys++[y]) H5 else N ys H4)
 (hd:∀ys H',Pv xs.length ys H'->F ys H'):
 ∃W:Nat->Nat->List V->St->Hp->Prop,(∃m,W 0 m [] (none::none::rest) H)/\jC (zZ K a) (jd K 2 (cD (bN 0) (cD (bN 1) CN))) tt te W F:=by
 refine⟨λi m ys σ H'=>m=xs.length-i/\i<=xs.length/\Pv i ys H'/\∃o o2,σ=o::o2::rest,⟨xs.length,by simp,Ag _,h0,none,none,rfl⟩,?_⟩;rintro i m ys σ H' ⟨rfl,hi,p,o,o2,rfl⟩;obtain⟨z1,z2⟩:=hz i ys H' hi p;refine⟨z1,?_⟩
 by_cases JB:i<xs.length
 ·refine .inr ⟨⟨xs,xs[i],z2,by simp[JB]⟩,λx H2 hy=>?_⟩;obtain⟨rfl,hx⟩:=hy;obtain⟨b,u,v,rfl,hb,h⟩:=hs i x ys H2 JB (hx xs z2) p;exact⟨_,[u,v],rfl,hb,rfl,_,_,rfl,_,_,rfl,rfl,h (λzs H5=>∃m',m'<xs.length-i/\m'=xs.length-(i+1)/\i+1<=xs.length/\Pv (i+1) zs H5/\∃o o2,(some u::some v::rest:St)=o::o2::rest) λzs H5 h=>⟨xs.length-(i+1),by omega,rfl,JB,h,_,_,rfl⟩⟩
 ·have:i=xs.length:=by omega
  subst this;exact .inl ⟨⟨xs,z2,zC _⟩,hd ys H' p⟩
end L2
namespace K74
open PySem L2 PySem.W Nm
abbrev BR:Stmt:=(aQ 58)
abbrev xK:Stmt:=(aQ 59)
abbrev xE:Stmt:=(aQ 60)
abbrev uF:Stmt:=(aQ 61)
def GI (H:Hp)(Q:VK)(t b:Int):Prop:=∀(H':Hp)(a:Addr),aA H H'->H' a=some (bo t b)->Q (.ref a) H'
variable {H:Hp}
theorem GI.of {H':Hp}{Q:VK}{t b:Int}(q:GI H Q t b)(S:aA H H'):∀a,H' a=none->Q (.ref a) (upd H' a (bo t b)):=λa ha=>q _ a (S.trans (ao ha)) ah
def zx:Sp:=λvs H Q _=>∃t b:Int,vs=[.int t,.int b]/\b≠0/\B 9000 b/\B 9000 t/\GI H Q (dS t b) (cI t b)
def Ii:Sp:=λvs H Q _=>∃p t b:Int,vs=[.int p,.int t,.int b]/\FP p/\b≠0/\B 9000 b/\B 9000 t/\(p≠0->b=1)/\GI H Q (c8 p t b) (dA p t b)
def oE (g:Int->Int->Int->Int->Int):Sp:=λvs H Q _=>∃(p t1 b1 t2 b2:Int)(a1 a2:Addr),vs=[.int p,.ref a1,.ref a2]/\FP p/\H a1=some (bo t1 b1)/\H a2=some (bo t2 b2)/\B 4000 t1/\B 4000 b1/\B 4000 t2/\B 4000 b2/\b1≠0/\b2≠0/\(p≠0->b1*b2=1) /\
 GI H Q (c8 p (g t1 b1 t2 b2) (b1*b2)) (dA p (g t1 b1 t2 b2) (b1*b2))
theorem kc:DK ["_law_top","_law_bottom","_law_one","_law_other"] zR (aq BR):=c9 (by decide +kernel)
theorem ye:DK ["_law_prime","_law_top","_law_bottom","_law_back"] vE (aq xK):=c9 (by decide +kernel)
theorem afr:DK AX AX (aq xE):=c9 (by decide +kernel)
theorem ahg:DK AX AX (aq uF):=c9 (by decide +kernel)
variable {P:Iy}{w:World}{K:PySem.W.Frag}{mg:xk}{base:Heap}
theorem Cp (c:Int):(if c<0 then -c else c)=ab c:=rfl
variable {f:Addr}{fd:qo}
theorem abW (F:Dp K "_law_low" "_law_low" BR f fd)(KO:mg "abs"=none):zG P w K mg base (aO P w) 1 f fd zR zx:=by
 refine F.okN kc (λvs H Q E h=>?_) (λJw A outer s H vs Q E hr h=>?_)
 ·obtain⟨a,b,rfl,_⟩:=h;rfl
 ·obtain⟨t,b,rfl,hb,hB,hT,q⟩:=h
  refine⟨_,(aj (@aW _ _ 2 _ _ _ _ kc.nd rfl (Or.inl rfl) (aB mi (by rfl) KO (by rfl) (@ai _ _ _ _ _ (pv 0) af rfl)) rfl (Or.inl rfl))
   (aj (@aW _ _ 3 _ _ _ _ kc.nd rfl (Or.inl rfl) (aB mi (by rfl) KO (by rfl) (@ai _ _ _ _ _ (pv 1) af rfl)) rfl (Or.inl rfl))
   (aj (ku wk (@aM _ _ _ _ _ _ _ _ uH (pv 3) ar (aJ _)) (ak (jr (i:=2) (j:=3) rfl kc.nd rfl rfl (by decide) rfl rfl (@ai _ _ _ _ _ (pv 3) (@ai _ _ _ _ _ (@aH _ _ _ _ _ _ _ _ tZ (pv 2) (pv 3)) af rfl) rfl) rfl)))
   (aj (bc (@aM _ _ _ _ _ _ _ _ jH (pv 1) ar (aJ _)) (ak (@aW _ _ 2 _ _ _ _ kc.nd rfl (Or.inl rfl) (@aH _ _ _ _ _ _ _ _ fZ ar (pv 2)) rfl (Or.inl rfl))) aE)
   (ak (az (@bu _ _ _ _ _ (@ai _ _ _ _ _ (@aH _ _ _ _ _ _ _ _ fR (pv 0) (pv 2)) (@ai _ _ _ _ _ (@aH _ _ _ _ _ _ _ _ fR (pv 1) (pv 2)) af rfl) rfl)))))))),?_⟩
  refine⟨_,rfl,t,rfl,_,rfl,b,rfl,?_⟩;rw[Cp,Cp];refine⟨λm σ H'=>∃c d:Int,σ=[some (.int t),some (.int b),some (.int c),some (.int d)]/\H'=H/\m=d.natAbs/\Int.gcd c d=Int.gcd t b/\0<=c/\0<=d,⟨_,ab t,ab b,rfl,rfl,rfl,ac5 t b,by rw[lq];omega,by rw[lq];omega⟩,?_⟩;rintro m σ H' ⟨c,d,rfl,rfl,rfl,hg,hc0,PJ⟩;refine⟨_,rfl,_,_,rfl,rfl,_,rfl,?_⟩;refine dO (λh=>?_) (λh=>?_)
  ·have hd:d≠0:=by have:=Eo h;omega
   refine⟨λσ' Nb=>∃c' d':Int,σ'=[some (.int t),some (.int b),some (.int c'),some (.int d')]/\Nb=H'/\d'.natAbs<d.natAbs/\Int.gcd c' d'=Int.gcd t b/\0<=c'/\0<=d',λσ' Nb ⟨c',d',e1,e2,e3,e4,e5,e6⟩=>⟨_,e3,c',d',e1,e2,rfl,e4,e5,e6⟩,?_⟩;exact⟨_,rfl,_,rfl,_,rfl,_,_,rfl,rfl,hd,_,_,rfl,d,c.fmod d,rfl,rfl,uN c d hd,by rw[lu,hg],PJ,Ei c (by omega)⟩
  ·have hd:d=0:=by
    have:¬d>0:=by simpa using h
    omega
   subst hd
   have eg:c=eJ t b:=by
    unfold eJ;rw[<-hg];simp;omega
   have gp:=iN (t:=t) hb;have Vq:B 9000 (eJ t b):=hB.le (adm hb);subst eg;unfold dS cI dv at q;refine⟨_,rfl,_,_,rfl,rfl,_,rfl,?_⟩;refine dO (λh2=>?_) (λh2=>?_)
   ·have h2:=Eo h2;rw[zj h2] at q;refine⟨_,rfl,_,_,rfl,rfl,?_⟩;dsimp only;rw[Int.zero_sub]
    have hn:B 9000 (-(eJ t b)):=by unfold B at Vq |-;rw[Int.natAbs_neg];exact Vq
    exact⟨_,rfl,_,rfl,_,_,rfl,rfl,⟨by omega,hn⟩,_,rfl,_,rfl,_,_,rfl,rfl,⟨by omega,hn⟩,gR,q.of (aA.refl _)⟩
   ·have h2:¬b<0:=by simpa using h2
    rw[qM h2] at q;exact⟨_,rfl,_,rfl,_,_,rfl,rfl,⟨by omega,Vq⟩,_,rfl,_,rfl,_,_,rfl,rfl,⟨by omega,Vq⟩,gR,q.of (aA.refl _)⟩
variable {JX:qo}
theorem acg {fl:Addr}(F:Dp K "_law_made" "_law_made" xK f fd)(JC:mg "range"=none)(FL:zG P w K mg base (aO P w) 1 fl JX zR zx)(bL:L2.ax K JX zR [])(mL:mg "_law_low"=some (.ref fl))(kL:keepIn K (.ref fl)=true):
 zG P w K mg base (aO P w) 2 f fd vE Ii:=by
 refine F.okN ye (λvs H Q E h=>?_) (λJw A outer s H vs Q E hr h=>?_)
 ·obtain⟨p,t,b,rfl,_⟩:=h;rfl
 ·obtain⟨p,t,b,rfl,hp,hb,hB,hT,h1,q⟩:=h;have JE:A8 1 _:=hr
  refine⟨_,(aj (bc (@aM _ _ _ _ _ _ _ _ dZ (pv 0) ar (aJ _)) (ak (az (ay FL JE (by rfl) mL kL bL .nil ae (@ai _ _ _ _ _ (pv 1) (@ai _ _ _ _ _ (pv 2) af rfl) rfl)))) aE)
   (aj (@aW _ _ 3 _ _ _ _ ye.nd rfl (Or.inl rfl) (@a9 _ _ _ _ _ _ _ cx (dm (N:=["_law_k","_law_prime","_law_bottom"]) (nl:=1) (js:=[0,2]) (osc:=aq xK) ⟨rfl,rfl,by decide +kernel,by decide +kernel,by decide +kernel,rfl,(.cons ⟨rfl,by decide +kernel⟩ (.cons ⟨rfl,by decide +kernel⟩ .nil)),by decide +kernel⟩ rfl
    (afE (by rfl) JC (@ai _ _ _ _ _ ar (@ai _ _ _ _ _ (pv 0) af rfl) rfl))
    (λCq fq sq Hq=>aC (i:=0) (by show(["_law_k","_law_prime","_law_bottom"]:p3).Nodup;decide +kernel) rfl (Or.inl rfl) (Or.inr rfl))
    (λCq fq sq Hq=>(iU (@aM _ _ _ _ _ _ _ _ dZ (@aH _ _ _ _ _ _ _ _ cJ (@aH _ _ _ _ _ _ _ _ cU (pv 2) (pv 0)) (pv 1)) ar (aJ _))))
    (λCq fq sq Hq=>(pv 0))) ar (λ_ _=>rfl)) rfl (Or.inl rfl))
   (ak (az (@bu _ _ _ _ _ (@ai _ _ _ _ _ (@aH _ _ _ _ _ _ _ _ cJ (@aH _ _ _ _ _ _ _ _ cU (pv 1) (pv 3)) (pv 0)) (@ai _ _ _ _ _ ar af rfl) rfl)))))),?_⟩
  refine⟨_,rfl,rfl,_,rfl,?_⟩;refine dO (λh=>?_) (λh=>?_)
  ·have J7:p=0:=by simpa using h
   unfold c8 dA at q;rw[zj J7,zj J7] at q;exact⟨_,rfl,_,rfl,t,b,rfl,hb,hB,hT,q⟩
  ·have J7:p≠0:=by simpa using h
   obtain⟨PL,p2,Vo⟩:=hp.two J7;have Vr:=h1 J7;subst Vr;refine⟨_,rfl,_,_,rfl,⟨by omega,by omega,by omega,by omega⟩,?_⟩;have bp:∀{i:Int},0<=i->i<128->B 9000 i:=λh0 h1=>HY (by omega:_<2^8) (Ht (by decide) (by decide));refine qG (lo:=1) (n:=(p-1).toNat) (rest:=[some (.int p),some (.int 1)]) (λi us H'=>H'=H/\us=if i=0 then [] else [.int 1]) ⟨rfl,rfl⟩ (λi us H' hi h=>?_) (λi us H' M hi h hM=>?_) (λus H' h=>?_)
   ·rw[h.2]
    split
    ·exact(by decide:0<sizeLine)
    ·exact(by decide:1<sizeLine)
   ·obtain⟨rfl,rfl⟩:=h;refine⟨_,rfl,_,rfl,_,_,rfl,rfl,⟨bp (by decide) (by decide),bp (by omega) (by omega)⟩,_,rfl,_,_,rfl,rfl,(by show(0:Int)<p;omega),rfl,_,rfl,?_⟩;dsimp only;rw[Int.one_mul];have em:=Il (a:=1+(i:Int)) (b:=p) (by omega) (by omega)
    by_cases ZT:i=0
    ·subst ZT;rw[sG (show V.int ((1+((0:Nat):Int))%p)=V.int 1 by rw[em];rfl)];exact bZ ⟨_,rfl,hM _ _ ⟨rfl,rfl⟩⟩
    ·rw[Fx (show ¬V.int ((1+(i:Int))%p)=V.int 1 from λz=>by rw[em] at z;injection z with z;omega)];refine bw (hM _ _ ⟨rfl,?_⟩);rw[qM ZT,qM (by omega)]
   ·obtain⟨rfl,rfl⟩:=h;rw[qM (by omega)];intro L hL;have S:=ao (o:=.lst [.int 1]) hL;refine⟨L,_,0,_,rfl,rfl,aV.of ah,rfl,?_⟩;unfold c8 dA at q;rw[qM J7,qM J7] at q;refine⟨_,rfl,_,rfl,_,_,rfl,rfl,⟨hT,bp (by decide) (by decide)⟩,_,rfl,_,_,rfl,rfl,(by show(0:Int)<p;omega),gR,?_⟩;rw[D1];exact q.of S
theorem acu {fl:Addr}(F:Dp K "_law_plus" "_law_plus" xE f fd)(FM:zG P w K mg base (aO P w) 2 fl JX vE Ii)(bM:L2.ax K JX vE [])(mM:mg "_law_made"=some (.ref fl))(kM:keepIn K (.ref fl)=true):
 zG P w K mg base (aO P w) 3 f fd AX (oE iH):=by
 refine F.okN afr (λvs H Q E h=>?_) (λJw A outer s H vs Q E hr h=>?_)
 ·obtain⟨p,t1,b1,t2,b2,x1,x2,rfl,_⟩:=h;rfl
 ·obtain⟨p,t1,b1,t2,b2,x1,x2,rfl,hp,h1,h2,B1,B2,B3,B4,n1,n2,hb,q⟩:=h;have JR:A8 2 _:=hr;refine⟨_,(ak (az (ay FM JR (by rfl) mM kM bM .nil ae (@ai _ _ _ _ _ (pv 0) (@ai _ _ _ _ _ (@aH _ _ _ _ _ _ _ _ eK (@aH _ _ _ _ _ _ _ _ cU (@a9 _ _ _ _ _ _ _ br (pv 1) ar (λ_ _=>rfl)) (@a9 _ _ _ _ _ _ _ br (pv 2) ar (λ_ _=>rfl))) (@aH _ _ _ _ _ _ _ _ cU (@a9 _ _ _ _ _ _ _ br (pv 2) ar (λ_ _=>rfl)) (@a9 _ _ _ _ _ _ _ br (pv 1) ar (λ_ _=>rfl)))) (@ai _ _ _ _ _ (@aH _ _ _ _ _ _ _ _ cU (@a9 _ _ _ _ _ _ _ br (pv 1) ar (λ_ _=>rfl)) (@a9 _ _ _ _ _ _ _ br (pv 2) ar (λ_ _=>rfl))) af rfl) rfl) rfl)))),?_⟩;refine⟨_,rfl,?_⟩;refine⟨_,rfl,x1,_,0,_,rfl,rfl,bf.of h1,a0 _ _,_,rfl,x2,_,1,_,rfl,rfl,bf.of h2,a1 _ _,_,_,rfl,rfl,⟨B1.mono (by decide),B4.mono (by decide)⟩,?_⟩;refine⟨_,rfl,x2,_,0,_,rfl,rfl,bf.of h2,a0 _ _,_,rfl,x1,_,1,_,rfl,rfl,bf.of h1,a1 _ _,_,_,rfl,rfl,⟨B3.mono (by decide),B2.mono (by decide)⟩,_,_,rfl,rfl,?_⟩;refine⟨_,rfl,x1,_,1,_,rfl,rfl,bf.of h1,a1 _ _,_,rfl,x2,_,1,_,rfl,rfl,bf.of h2,a1 _ _,_,_,rfl,rfl,⟨B2.mono (by decide),B4.mono (by decide)⟩,?_⟩;exact⟨p,_,_,rfl,hp,pN n1 n2,(B2.mul B4).mono (by decide),((B1.mul B4).add (B3.mul B2)).mono (by decide),hb,q⟩
theorem acI {fl:Addr}(F:Dp K "_law_times" "_law_times" uF f fd)(FM:zG P w K mg base (aO P w) 2 fl JX vE Ii)(bM:L2.ax K JX vE [])(mM:mg "_law_made"=some (.ref fl))(kM:keepIn K (.ref fl)=true):
 zG P w K mg base (aO P w) 3 f fd AX (oE fU):=by
 refine F.okN ahg (λvs H Q E h=>?_) (λJw A outer s H vs Q E hr h=>?_)
 ·obtain⟨p,t1,b1,t2,b2,x1,x2,rfl,_⟩:=h;rfl
 ·obtain⟨p,t1,b1,t2,b2,x1,x2,rfl,hp,h1,h2,B1,B2,B3,B4,n1,n2,hb,q⟩:=h;have JR:A8 2 _:=hr;refine⟨_,(ak (az (ay FM JR (by rfl) mM kM bM .nil ae (@ai _ _ _ _ _ (pv 0) (@ai _ _ _ _ _ (@aH _ _ _ _ _ _ _ _ cU (@a9 _ _ _ _ _ _ _ br (pv 1) ar (λ_ _=>rfl)) (@a9 _ _ _ _ _ _ _ br (pv 2) ar (λ_ _=>rfl))) (@ai _ _ _ _ _ (@aH _ _ _ _ _ _ _ _ cU (@a9 _ _ _ _ _ _ _ br (pv 1) ar (λ_ _=>rfl)) (@a9 _ _ _ _ _ _ _ br (pv 2) ar (λ_ _=>rfl))) af rfl) rfl) rfl)))),?_⟩;refine⟨_,rfl,?_⟩;refine⟨_,rfl,x1,_,0,_,rfl,rfl,bf.of h1,a0 _ _,_,rfl,x2,_,0,_,rfl,rfl,bf.of h2,a0 _ _,_,_,rfl,rfl,⟨B1.mono (by decide),B3.mono (by decide)⟩,?_⟩;refine⟨_,rfl,x1,_,1,_,rfl,rfl,bf.of h1,a1 _ _,_,rfl,x2,_,1,_,rfl,rfl,bf.of h2,a1 _ _,_,_,rfl,rfl,⟨B2.mono (by decide),B4.mono (by decide)⟩,?_⟩;exact⟨p,_,_,rfl,hp,pN n1 n2,(B2.mul B4).mono (by decide),(B1.mul B3).mono (by decide),hb,q⟩
def gK (H:Hp)(r:Addr):Prop:=∃l x:Int,H r=some (.lst [.int l,.int x])/\0<=x/\x<2147483647
def SameBut (r:Addr)(H H':Hp):Prop:=∀b o,H b=some o->b≠r->H' b=some o
theorem SameBut.trans {r:Addr}{H1 H2:Hp}(a:SameBut r H H1)(b:SameBut r H1 H2):SameBut r H H2:=λc o e n=>b c o (a c o e n) n
theorem SameBut.of {r:Addr}{H1:Hp}(a:aA H H1):SameBut r H H1:=λc o e _=>a c o e
theorem SameBut.upd {r:Addr}{o:HO}:SameBut r H (upd H r o):=λb u e n=>by rw[av n];exact e
theorem acP {K:Frag}{a:Addr}{t b:Int}(h:H a=some (bo t b)):aN K H (.tup [.int t,.int b]) (.ref a):=by
 unfold aN;refine⟨a,_,rfl,bf.of h,?_⟩;unfold bg;refine⟨_,_,rfl,by unfold aN;rfl,?_⟩;unfold bg;refine⟨_,_,rfl,by unfold aN;rfl,?_⟩;unfold bg;rfl
theorem acQ (t b:Int):iB (.tup [.int t,.int b])=1:=by simp[iB,eC]
end K74
namespace L2
open PySem PySem.Spec PyProof.Rows PySem.W
def Gk:V->Bool->Prop
 | .bl b,c=>c=b
 | .int i,c=>c=(i != 0)
 |_,_=>False
theorem aY {α β:Type}{R:α->β->Prop}:∀{l:List α}{m:List β}{i:Nat}{a:α},Paired R l m->l[i]?=some a->∃b,m[i]?=some b/\R a b
 |[],_,i,a,h,e=>by simp at e
 |x::l,_,i,a,h,e=>by
  cases h with
  |cons h1 h2 =>
   cases i with
   |zero=>simp at e;subst e;exact⟨_,rfl,h1⟩
   |succ i=>simpa using aY h2 (by simpa using e)
theorem kr {α β:Type}{R:α->β->Prop}:∀{l:List α}{m:List β}{i:Nat}{b:β},Paired R l m->m[i]?=some b->∃a,l[i]?=some a/\R a b
 |[],m,i,b,h,e=>by cases h;simp at e
 |x::l,_,i,b,h,e=>by
  cases h with
  |cons h1 h2 =>
   cases i with
   |zero=>simp at e;subst e;exact⟨_,rfl,h1⟩
   |succ i=>simpa using kr h2 (by simpa using e)
section
variable {X:Cx}
theorem acR {A:Around}{Q:Bool->Shared->Prop}{E:Bf}{s:AL}{y:V}{c:Bool}{u:Value}(t:Gk y c)(r:aI y u)(h:Q c s):wpAny (model X.prog X.w) A (truthy u) Q E s:=by
 cases y with
 |bl b =>
  cases(show u=Value.bool b from r)
  cases(show c=b from t)
  exact AQ h
 |int i =>
  obtain⟨k,rfl⟩:=(show ∃k,u=Value.int i k from r)
  cases(show c=(i != 0) from t)
  exact PyProof.Rows.truthy_int h
 |_=>exact t.elim
theorem gG (hc:X.calm=true):fQ X (.builtin "all") (λxs H Q=>∃l ys bs,xs=[.ref l]/\aV X.K H l ys/\Paired Gk ys bs/\Q (.bl (bs.all id)) H):=by
 intro pins s σ H xs us Q I r h;obtain⟨l,ys,bs,rfl,hl,hp,q⟩:=h;obtain⟨u,rfl,ru⟩:=gh r
 cases(show u=Value.ref l from ru)
 obtain⟨its,rv,pl,hz⟩:=I.list hl
 have JB:l<s.heap.objs.size:=by obtain⟨o,n,e,_⟩:=pl;exact Ec e
 refine call_all_walk (Gp pl.isList ?_)
 refine⟨s.heap.objs.size,[s.heap.objs.size,l],[s.heap.objs.size],its.toArray.size,_,_,λi=>(bs[i]?).getD true,rfl,Walks.list (A:=X.A.in1) (I.ok.hd hc) _ l (Ie JB) its.toArray,
  ⟨⟨_,Hr _ rfl,rfl,rfl⟩,pl.isList.push _⟩,λi v s' Q' E' hP hQ=>?_,λh' tk hk=>?_⟩
 ·have e:its[i]?=some v:=by simpa using hP
  obtain⟨y,ey,ry⟩:=kr rv e;obtain⟨b,eb,tb⟩:=aY hp ey;simp only[eb,Option.getD_some] at hQ;exact acR tb ry hQ
 ·have n:its.toArray.size=bs.length:=by rw[D4,<-rv.length,hp.length]
  have e:((List.range its.toArray.size).all λi=>(bs[i]?).getD true)=bs.all id:=by rw[n];exact LSm.range_all bs
  rw[e];exact⟨.bl (bs.all id),H,I.kept (t':=tk) (LSm.kept_iter hk),rfl,q⟩
end
end L2
namespace Srt
open PySem PySem.W PyProof.Rows
structure Pm (n:Nat)(r:Nat->Nat)(p:Array Nat):Prop where
 size:p.size=n
 lt:∀k,k<n->p.getD k 0<n
 ne:∀k l,k<n->l<n->k≠l->r (p.getD k 0)≠r (p.getD l 0)
 perm:p.Perm (List.range n).toArray
variable {p:Array Nat}{k m:Nat}
section
variable {n:Nat}{r:Nat->Nat}
theorem Pm.nq {n:Nat}{r:Nat->Nat}(P:Pm n r p)(k l:Nat)(hk:k<n)(hl:l<n)(h:k≠l):p.getD k 0≠p.getD l 0:=λz=>P.ne k l hk hl h (by rw[z])
theorem getD_some (h:k<p.size):p[k]?=some (p.getD k 0):=by simp[Array.getD,h]
theorem uj (inj:∀i j,i<n->j<n->i≠j->r i≠r j)(hp:p.Perm (List.range n).toArray):Pm n r p:=by
 have hl:p.toList.Perm (List.range n):=by simpa using hp.toList
 have hs:p.size=n:=by rw[<-Bz,hl.length_eq,Ed]
 have JB:∀k,k<n->p.getD k 0<n:=λk hk=>by
  have hm:p.getD k 0∈p.toList:=by
   rw[show p.getD k 0=p[k]'(by omega) by simp[Array.getD,hs,hk]];exact Array.mem_toList_iff.mpr (Array.getElem_mem _)
  exact HD.mp (hl.mem_iff.mp hm)
 refine⟨hs,JB,λk l hk Ku Kj=>inj _ _ (JB k hk) (JB l Ku) λe=>Kj ?_,hp⟩;have nd:p.toList.Nodup:=hl.nodup_iff.mpr List.nodup_range
 have e1:p.toList[k]'(by simp;omega)=p.toList[l]'(by simp;omega):=by
  rw[show p.getD k 0=p[k]'(by omega) by simp[Array.getD,hs,hk],show p.getD l 0=p[l]'(by omega) by simp[Array.getD,hs,Ku]] at e;simpa using e
 have pw:=tU.mp (show p.toList.Pairwise (· ≠ ·) from nd)
 rcases y6 k l with z|z|z
 ·exact absurd e1 (pw k l _ _ z)
 ·exact z
 ·exact absurd e1.symm (pw l k _ _ z)
def Up (r:Nat->Nat)(p:Array Nat)(m:Nat):Prop:=∀i j,i<j->j<m->r (p.getD i 0)<r (p.getD j 0)
def Dn (r:Nat->Nat)(p:Array Nat)(m:Nat):Prop:=∀i j,i<j->j<m->r (p.getD j 0)<r (p.getD i 0)
theorem Up.succ (h:Up r p m)(h1:1<=m)(e:r (p.getD (m-1) 0)<r (p.getD m 0)):Up r p (m+1):=λi j K0 hj=>by
 by_cases z:j=m
 ·subst z
  by_cases z2:i=j-1
  ·subst z2;exact e
  ·exact wG (h i (j-1) (by omega) (by omega)) e
 ·exact h i j K0 (by omega)
theorem Dn.succ (h:Dn r p m)(h1:1<=m)(e:r (p.getD m 0)<r (p.getD (m-1) 0)):Dn r p (m+1):=λi j K0 hj=>by
 by_cases z:j=m
 ·subst z
  by_cases z2:i=j-1
  ·subst z2;exact e
  ·exact wG e (h i (j-1) (by omega) (by omega))
 ·exact h i j K0 (by omega)
theorem uE (hm:m<=p.size)(hk:k<p.size):(kas_rev p 0 m).getD k 0=if k<m then p.getD (m-1-k) 0 else p.getD k 0:=by
 have e:=getElem?_mirror_all (xs:=p) (i:=0) hm k;have hs:(kas_rev p 0 m).size=p.size:=mirror_size _ _ _ _;have e2:(kas_rev p 0 m)[k]?=some ((kas_rev p 0 m).getD k 0):=getD_some (by rw[hs];exact hk)
 have e3:(kas_rev p 0 m)[k]?=if 0<=k/\k<m then p[0+m-1-k]? else p[k]?:=e
 rw[e2] at e3
 by_cases h:k<m
 ·rw[zj ⟨Ag _,h⟩,show 0+m-1-k=m-1-k by omega,getD_some (by omega)] at e3;rw[zj h];exact Option.some.inj e3
 ·rw[qM (λz=>h z.2),getD_some hk] at e3;rw[qM h];exact Option.some.inj e3
theorem Dn.rev (h:Dn r p m)(hm:m<=p.size):Up r (kas_rev p 0 m) m:=λi j K0 hj=>by
 rw[uE hm (by omega),uE hm (by omega),zj (by omega),zj hj];exact h _ _ (by omega) (by omega)
variable {cmp:Nat->Nat->(Bool->Shared->Prop)->Shared->Prop}{s:AL}
theorem sM (hc:∀i j C,i<n->j<n->i≠j->C (decide (r i<r j)) s->cmp i j C s)(P:Pm n r p){Q:Nat->Shared->Prop}:∀(f m:Nat),1<=m->m+f=n->Up r p m →
 (∀m',m<=m'->m'<=n->Up r p m'->(m'<n->r (p.getD m' 0)<r (p.getD (m'-1) 0))->Q m' s)->(kas_asc p f m).kasWp cmp Q s
 |0,m,h1,hm,hu,hQ=>hQ m (zC _) (by omega) hu λh=>by omega
 |f+1,m,h1,hm,hu,hQ=>by
  refine hc _ _ _ (P.lt m (by omega)) (P.lt (m-1) (by omega)) (P.nq m (m-1) (by omega) (by omega) (by omega)) ?_;show((if decide (r (p.getD m 0)<r (p.getD (m-1) 0))=true then KasT.ret m else kas_asc p f (m+1)).kasWp cmp Q s)
  by_cases h:r (p.getD m 0)<r (p.getD (m-1) 0)
  ·rw[zj (sG h)];exact hQ m (zC _) (by omega) hu λ_=>h
  ·rw[qM (by simpa using h)];have ne:=P.ne m (m-1) (by omega) (by omega) (by omega);exact sM hc P f (m+1) (by omega) (by omega) (hu.succ h1 (by omega)) λm' h2=>hQ m' (by omega)
theorem u4 (hc:∀i j C,i<n->j<n->i≠j->C (decide (r i<r j)) s->cmp i j C s)(P:Pm n r p){Q:Array Nat×Nat×Nat->Shared->Prop}:∀(f m:Nat),1<=m->m+f=n->Dn r p m →
 (∀m',m<=m'->m'<=n->Dn r p m'->Q (p,m',0) s)->(kas_desc f p m 0).kasWp cmp Q s
 |0,m,h1,hm,hu,hQ=>hQ m (zC _) (by omega) hu
 |f+1,m,h1,hm,hu,hQ=>by
  refine hc _ _ _ (P.lt m (by omega)) (P.lt (m-1) (by omega)) (P.nq m (m-1) (by omega) (by omega) (by omega)) ?_
  by_cases h:r (p.getD m 0)<r (p.getD (m-1) 0)
  ·rw[sG h];exact u4 hc P f (m+1) (by omega) (by omega) (hu.succ h1 h) λm' h2=>hQ m' (by omega)
  ·rw[Fx h];refine hc _ _ _ (P.lt (m-1) (by omega)) (P.lt m (by omega)) (P.nq (m-1) m (by omega) (by omega) (by omega)) ?_;have ne:=P.ne m (m-1) (by omega) (by omega) (by omega);rw[sG (show r (p.getD (m-1) 0)<r (p.getD m 0) by omega)];exact hQ m (zC _) (by omega) hu
theorem acV (inj:∀i j,i<n->j<n->i≠j->r i≠r j)(hc:∀i j C,i<n->j<n->i≠j->C (decide (r i<r j)) s->cmp i j C s)(P:Pm n r p){Q:Nat×Array Nat->Shared->Prop}(h1:1<=m)(hm:m<=n)(hd:Dn r p m)
 (hQ:∀m' p',m'<=n->1<=m'->Pm n r p'->Up r p' m'->Q (m',p') s):(kas_tail3 m n p).kasWp cmp Q s:=by
 unfold kas_tail3;rw[wQ];have P':Pm n r (kas_rev p 0 m):=uj inj ((mirror_perm _ _ _ _).trans P.perm);exact sM hc P' (n-m) m h1 (by omega) (hd.rev (by rw[P.size];exact hm)) λm' h2 h3 h4 _=>hQ m' _ h3 (by omega) P' h4
theorem ac6 (inj:∀i j,i<n->j<n->i≠j->r i≠r j)(hc:∀i j C,i<n->j<n->i≠j->C (decide (r i<r j)) s->cmp i j C s)(h0:1<=n)(P:Pm n r p){Q:Nat×Array Nat->Shared->Prop}
 (hQ:∀m' p',m'<=n->1<=m'->Pm n r p'->Up r p' m'->Q (m',p') s):(kas_count n p).kasWp cmp Q s:=by
 unfold kas_count;rw[wQ];refine sM hc P (n-1) 1 (zC _) (by omega) (λi j K0 hj=>by omega) λm h1 h2 h3 h4=>?_
 by_cases e:m=n
 ·subst e;rw[zj (by simp)];exact hQ _ _ (zC _) h1 P h3
 ·rw[qM (by simpa using e)]
  by_cases h5:m>1
  ·rw[zj h5];refine hc _ _ _ (P.lt 0 (by omega)) (P.lt (m-1) (by omega)) (P.nq 0 (m-1) (by omega) (by omega) (by omega)) ?_;rw[sG (h3 0 (m-1) (by omega) (by omega))];exact hQ _ _ h2 h1 P h3
  ·rw[qM h5]
   have e1:m=1:=by omega
   subst e1;unfold kas_descPart;rw[wQ];have d2:Dn r p (1+1):=Dn.succ (λi j K0 hj=>by omega) (zC _) (h4 (by omega));refine u4 hc P (n-(1+1)) (1+1) (by omega) (by omega) d2 λm' h6 h7 h8=>?_;show((if 0>0 then _ else kas_tail3 m' n p).kasWp cmp Q s);rw[qM (by omega)];exact acV inj hc P (by omega) h7 h8 hQ
theorem kn (hc:∀i j C,i<n->j<n->i≠j->C (decide (r i<r j)) s->cmp i j C s)(P:Pm n r p){Q:Nat->Shared->Prop}(hk:k<n)(hu:Up r p k):∀(f l q:Nat),l<=q->q<=k->q-l<=f->(∀j,j<l->r (p.getD j 0)<r (p.getD k 0))->(∀j,q<=j->j<k->r (p.getD k 0)<r (p.getD j 0)) →
 (∀l',l'<=k->(∀j,j<l'->r (p.getD j 0)<r (p.getD k 0))->(∀j,l'<=j->j<k->r (p.getD k 0)<r (p.getD j 0))->Q l' s)->(kas_place p k f l q).kasWp cmp Q s
 |0,l,q,h1,h2,h3,h4,h5,hQ=>hQ l (by omega) h4 λj h6 h7=>h5 j (by omega) h7
 |f+1,l,q,h1,h2,h3,h4,h5,hQ=>by
  unfold kas_place
  by_cases h:l ≥ q
  ·rw[zj h];exact hQ l (by omega) h4 λj h6 h7=>h5 j (by omega) h7
  ·rw[qM h];refine hc _ _ _ (P.lt k hk) (P.lt ((l+q)/2) (by omega)) (P.nq k ((l+q)/2) hk (by omega) (by omega)) ?_;have ne:=P.ne k ((l+q)/2) hk (by omega) (by omega)
   by_cases z:r (p.getD k 0)<r (p.getD ((l+q)/2) 0)
   ·rw[sG z];refine kn hc P hk hu f l ((l+q)/2) (by omega) (by omega) (by omega) h4 (λj h6 h7=>?_) hQ
    by_cases e:j=(l+q)/2
    ·subst e;exact z
    ·exact wG z (hu _ _ (by omega) h7)
   ·rw[Fx z];refine kn hc P hk hu f ((l+q)/2+1) q (by omega) h2 (by omega) (λj h6=>?_) h5 hQ
    by_cases e:j=(l+q)/2
    ·subst e;omega
    ·have:=hu j ((l+q)/2) (by omega) (by omega);omega
theorem uw {l j:Nat}(hk:k<p.size)(hl:l<=k)(hj:j<p.size):(bubble p k (k-l)).getD j 0=if j=l then p.getD k 0 else if l<j/\j<=k then p.getD (j-1) 0 else p.getD j 0:=by
 have e:=getElem?_bubble hk (k-l) (by omega) j;rw[show k-(k-l)=l by omega,getD_some (by rw[bubble_size];exact hj)] at e
 by_cases h1:j=l
 ·rw[zj h1,getD_some hk] at e;rw[zj h1];exact Option.some.inj e
 ·rw[qM h1] at e |-
  by_cases h2:l<j/\j<=k
  ·rw[zj h2,getD_some (by omega)] at e;rw[zj h2];exact Option.some.inj e
  ·rw[qM h2,getD_some hj] at e;rw[qM h2];exact Option.some.inj e
theorem xW (inj:∀i j,i<n->j<n->i≠j->r i≠r j)(hc:∀i j C,i<n->j<n->i≠j->C (decide (r i<r j)) s->cmp i j C s){Q:Array Nat->Shared->Prop}(hQ:∀p',Pm n r p'->Up r p' n->Q p' s):∀(f:Nat)(p:Array Nat)(k:Nat),Pm n r p->k+f=n->Up r p k->(kas_bin f p k).kasWp cmp Q s
 |0,p,k,P,hk,hu=>hQ p P (by rw[<-hk];exact hu)
 |f+1,p,k,P,hk,hu=>by
  unfold kas_bin;rw[wQ];refine kn hc P (by omega) hu k 0 k (Ag _) (zC _) (by omega) (λj h=>by omega) (λj h1 h2=>by omega) λl h1 h2 h3=>?_;have P':Pm n r (bubble p k (k-l)):=uj inj ((bubble_perm _ _ _).trans P.perm);refine xW inj hc hQ f _ (k+1) P' (by omega) λi j K0 hj=>?_;have sz:=P.size;rw[uw (by omega) h1 (by omega),uw (by omega) h1 (by omega)]
  by_cases e1:i=l
  ·rw[zj e1,qM (by omega),zj ⟨by omega,by omega⟩];exact h3 _ (by omega) (by omega)
  ·rw[qM e1]
   by_cases e2:j=l
   ·rw[zj e2,qM (by omega)];exact h2 _ (by omega)
   ·rw[qM e2]
    by_cases e3:l<j
    ·rw[zj (show l<j/\j<=k from⟨e3,by omega⟩)]
     by_cases e4:l<i
     ·rw[zj ⟨e4,by omega⟩];exact hu _ _ (by omega) (by omega)
     ·rw[qM (by omega)];exact hu _ _ (by omega) (by omega)
    ·rw[qM (by omega),qM (by omega)];exact hu _ _ K0 (by omega)
theorem ac7 (inj:∀i j,i<n->j<n->i≠j->r i≠r j)(hc:∀i j C,i<n->j<n->i≠j->C (decide (r i<r j)) s->cmp i j C s)(h0:1<=n){Q:Array Nat->Shared->Prop}(hQ:∀p',Pm n r p'->Up r p' n->Q p' s):(kas_sort n).kasWp cmp Q s:=by
 unfold kas_sort;rw[wQ];refine ac6 inj hc h0 (uj inj (Array.Perm.refl _)) λm p h1 h2 P hu=>?_;show((if m<n then kas_bin (n-max m 1) p (max m 1) else KasT.ret p).kasWp cmp Q s)
 by_cases h:m<n
 ·rw[zj h,show max m 1=m by omega];exact xW inj hc hQ _ _ _ P (by omega) hu
 ·rw[qM h]
  have e:m=n:=by omega
  subst e;exact hQ p P hu
end
end Srt
namespace L2
open PySem PySem.Spec PyProof.Rows PySem.W
end L2
namespace Srt
open PySem PySem.W PyProof.Rows
section
variable {prog:Iy}{w:World}{A:Around}{E:Bf}{s:AL}
def adj (prog:Iy)(w:World)(A:Around)(ks:yX)(r:Nat->Nat)(s:AL):Prop :=
 ∃κ,(∀Q:SortKind->Shared->Prop,Q κ s->wpAny (model prog w) A (keyKind' ks.toArray) Q (λ_ _=>False) s)/\∀i j C,i<ks.length->j<ks.length->i≠j->C (decide (r i<r j)) s->kas_ask prog w A κ ks i j C s
def ig (vs:yX)(p:Array Nat):List Value:=p.toList.map λi=>vs.getD i Value.none
theorem adk (vs:yX):ig vs (List.range vs.length).toArray=vs:=by
 unfold ig;apply AN
 ·simp
 ·intro i h1 h2;simp[h2]
theorem gL {n:Nat}(h:n<64):n<=sizeLine:=by rw[AI];omega
end
open L2
abbrev Ky:=Int×List Int
def mj (a b:Ky):Bool:=if a.1=b.1 then HT.dD a.2 b.2 else decide (a.1<b.1)
theorem lZ:∀xs:List Int,HT.dD xs xs=false
 |[]=>rfl
 |x::xs=>by rw[HT.eQ,zj rfl];exact lZ xs
theorem nA:∀{xs ys zs:List Int},HT.dD xs ys=true->HT.dD ys zs=true->HT.dD xs zs=true
 |[],[],_,h,_=>by cases h
 |[],y::ys,[],_,h=>by cases h
 |[],y::ys,z::zs,_,_=>rfl
 |x::xs,[],_,h,_=>by cases h
 |x::xs,y::ys,[],_,h=>by cases h
 |x::xs,y::ys,z::zs,h1,h2=>by
  rw[HT.eQ] at h1 h2 |-
  by_cases e1:x=y
  ·rw[zj e1] at h1
   by_cases e2:y=z
   ·rw[zj e2] at h2;rw[zj (e1.trans e2)];exact nA h1 h2
   ·rw[qM e2] at h2;rw[e1,qM e2];exact h2
  ·rw[qM e1] at h1;have l1:=Eo h1
   by_cases e2:y=z
   ·rw[<-e2,qM e1];exact h1
   ·rw[qM e2] at h2;have l2:=Eo h2;rw[qM (by omega)];exact sG (by omega)
theorem nt:∀{xs ys:List Int},xs≠ys->HT.dD xs ys=true\/HT.dD ys xs=true
 |[],[],h=>absurd rfl h
 |[],y::ys,_=>.inl rfl
 |x::xs,[],_=>.inr rfl
 |x::xs,y::ys,h=>by
  rw[HT.eQ,HT.eQ]
  by_cases e:x=y
  ·subst e;rw[zj rfl,zj rfl];exact nt λz=>h (by rw[z])
  ·rw[qM e,qM (Jm e)];simp only[yM];omega
theorem kA (a:Ky):mj a a=false:=by unfold mj;rw[zj rfl];exact lZ _
theorem i5 {a b c:Ky}(h1:mj a b=true)(h2:mj b c=true):mj a c=true:=by
 unfold mj at h1 h2 |-
 by_cases e1:a.1=b.1
 ·rw[zj e1] at h1
  by_cases e2:b.1=c.1
  ·rw[zj e2] at h2;rw[zj (e1.trans e2)];exact nA h1 h2
  ·rw[qM e2] at h2;rw[e1,qM e2];exact h2
 ·rw[qM e1] at h1;have l1:=Eo h1
  by_cases e2:b.1=c.1
  ·rw[<-e2,qM e1];exact h1
  ·rw[qM e2] at h2;have l2:=Eo h2;rw[qM (by omega)];exact sG (by omega)
theorem i4 {a b:Ky}(h:a≠b):mj a b=true\/mj b a=true:=by
 unfold mj
 by_cases e:a.1=b.1
 ·rw[zj e,zj e.symm];exact nt λz=>h (De e z)
 ·rw[qM e,qM (Jm e)];simp only[yM];omega
def de (ks:List Ky)(i:Nat):Ky:=ks.getD i (0,[])
def rk (ks:List Ky)(i:Nat):Nat:=(List.range ks.length).countP λj=>mj (de ks j) (de ks i)
theorem ny {α:Type}{p q:α->Bool}:∀{l:List α},(∀x∈l,p x=true->q x=true)->(∃x∈l,q x=true/\p x=false)->l.countP p<l.countP q
 |[],_,⟨x,hx,_⟩=>by cases hx
 |a::l,h,⟨x,hx,h1,h2⟩=>by
  have le:∀l':List α,(∀x∈l',p x=true->q x=true)->l'.countP p<=l'.countP q:=λl' h'=>List.countP_mono_left h';rw[AB,AB]
  rcases BN.mp hx with rfl|hx
  ·rw[zj h1,qM (by rw[h2];exact IA)];have:=le l λx hx=>h x (Er _ hx);omega
  ·have ih:=ny (l:=l) (λx hx=>h x (Er _ hx)) ⟨x,hx,h1,h2⟩;have h0:=h a Ij
   cases e:p a with
   |false=>simp only[Ep,CR];omega
   |true=>rw[h0 e];simp only[En];omega
variable {ks:List Ky}
theorem iD {i j:Nat}(hi:i<ks.length)(h:mj (de ks i) (de ks j)=true):rk ks i<rk ks j :=
 ny (λl _ hl=>i5 hl h) ⟨i,HD.mpr hi,h,kA _⟩
theorem ym {i j:Nat}(hi:i<ks.length)(hj:j<ks.length):decide (rk ks i<rk ks j)=mj (de ks i) (de ks j):=by
 cases e:mj (de ks i) (de ks j) with
 |true=>exact sG (iD hi e)
 |false =>
  refine Fx λz=>?_
  by_cases k:de ks i=de ks j
  ·unfold rk at z;rw[k] at z;exact CD _ z
  ·rcases i4 k with h|h
   ·rw[e] at h;cases h
   ·exact Nat.lt_asymm z (iD hj h)
theorem ado (nd:ks.Nodup):∀i j,i<ks.length->j<ks.length->i≠j->rk ks i≠rk ks j:=λi j hi hj Kj z=>by
 have k:de ks i≠de ks j:=λe=>by
  have e':ks[i]=ks[j]:=by
   unfold de at e;simpa[hi,hj] using e
  have pw:=tU.mp (show ks.Pairwise (· ≠ ·) from nd)
  rcases Nat.lt_or_gt_of_ne Kj with l|l
  ·exact pw i j _ _ l e'
  ·exact pw j i _ _ l e'.symm
 rcases i4 k with h|h
 ·have:=iD hi h;omega
 ·have:=iD hj h;omega
def uX (K:Frag)(H:Hp)(x:V)(k:Ky):Prop:=∃a b rest,x=.ref a/\bf K H a (.int k.1 :: .ref b::rest)/\bf K H b (k.2.map V.int)
def eF (K:Frag)(H:Hp):List V->List Ky->Prop
 |[],[]=>True
 |x::xs,k::ks=>uX K H x k/\eF K H xs ks
 |_,_=>False
variable {K:Frag}{H:Hp}
theorem eF.len :∀{xs:List V}{ks:List Ky},eF K H xs ks->xs.length=ks.length
 |[],[],_=>rfl
 |_::_,_::_,⟨_,r⟩=>Hh (·+1) r.len
 |[],_::_,h=>h.elim
 |_::_,[],h=>h.elim
theorem eF.get :∀{xs:List V}{ks:List Ky}{i:Nat}{x:V},eF K H xs ks->xs[i]?=some x->uX K H x (de ks i)
 |x::xs,k::ks,0,y,⟨h,_⟩,e=>by simp at e;subst e;exact h
 |x::xs,k::ks,i+1,y,⟨_,r⟩,e=>by
  have:=r.get (i:=i) (x:=y) (by simpa using e);simpa[de] using this
 |[],[],i,y,_,e=>by simp at e
 |[],_::_,_,_,h,_=>h.elim
 |_::_,[],_,_,h,_=>h.elim
theorem ik :∀ns:List Int,bg K H (ns.map D.int) (ns.map V.int)
 |[]=>by unfold bg;rfl
 |n::ns=>by unfold bg;exact⟨_,_,rfl,by unfold aN;rfl,ik ns⟩
theorem lI (ns:List Int):iB (.tup (ns.map D.int))<=1:=by
 unfold iB
 have:∀ms:List Int,eC (ms.map D.int)=0:=λms=>by
  induction ms with
  |nil=>unfold eC;rfl
  |cons m ms ih=>rw[Jr];unfold eC;rw[ih];unfold iB;rfl
 rw[this];omega
theorem qj:∀ns ms:List Int,fM (ns.map D.int) (ms.map D.int)=decide (ns=ms)
 |[],[]=>by simp;rfl
 |[],m::ms=>by simp;rfl
 |n::ns,[]=>by simp;rfl
 |n::ns,m::ms=>by
  show((n==m)&&fM (ns.map D.int) (ms.map D.int))=_;rw[qj ns ms]
  by_cases e:n=m
  ·subst e;simp
  ·simp[e]
section
variable {X:Cx}{pins:List (Addr×Obj)}{σ:L2.St}{H:Hp}{s:AL}
theorem ads {A:Around}{x y:V}{u v:Value}{k j:Ky}{C:Bool->Shared->Prop}{E:Bf}(I:Inv X pins σ H s)(hA:A.units+2<cLine)(hx:uX X.K H x k)(hy:uX X.K H y j)(rx:aI x u)(ry:aI y v)(ne:k≠j)(h:C (mj k j) s):
 wpAny (model X.prog X.w) A (keyLt' (tuples' true) u v) C E s:=by
 obtain⟨a,b,rest,rfl,h1,h2⟩:=hx;obtain⟨a',b',ZU,rfl,MJ,PM⟩:=hy
 cases(show u=Value.ref a from rx)
 cases(show v=Value.ref a' from ry)
 obtain⟨its,r1,⟨o1,g1,_,n1,d1⟩,_⟩:=I.tuple h1;obtain⟨its',Vs,⟨o1',Wo,_,n1',d1'⟩,_⟩:=I.tuple MJ;refine kat_lt g1 d1 Wo d1' ?_
 cases r1 with
 |cons q1 r1 =>
  cases r1 with
  |cons q2 r1 =>
   cases Vs with
   |cons q1' Vs =>
    cases Vs with
    |cons q2' Vs =>
     obtain⟨t,rfl⟩:=q1;obtain⟨t',rfl⟩:=q1'
     rename_i w2 _ w2' _
     cases(show w2=Value.ref b from q2)
     cases(show w2'=Value.ref b' from q2')
     show KatLex _ _ _ _ _ _ ((Value.int k.1 t,Value.int j.1 t'):: (Value.ref b,Value.ref b'):: _) 0 s;refine kat_cons (HI k.1 t j.1 t' X.prog X.w _ _ ?_)
     have klt_def:mj k j=if k.1=j.1 then HT.dD k.2 j.2 else decide (k.1<j.1):=rfl
     refine kat_go (λe=>kat_yes ?_) λe=>kat_no ?_
     ·have e1:k.1=j.1:=by simpa using e
      have n2:k.2≠j.2:=λz=>ne (De e1 z);have dd:=(jc I 1 A (.tup (k.2.map D.int)) (.tup (j.2.map D.int)) (.ref b) (.ref b') (.ref b) (.ref b') (lI _) (by omega) (by unfold aN;exact⟨b,_,rfl,h2,ik _⟩) (by unfold aN;exact⟨b',_,rfl,PM,ik _⟩) rfl rfl).2.1;have e2:iY (.tup (k.2.map D.int)) (.tup (j.2.map D.int))=false:=(qj _ _).trans (Fx n2);rw[e2] at dd;refine kat_cons (dd X.prog X.w _ _ (kat_no ?_));rw[klt_def,zj e1] at h;obtain⟨JA,p2,t2,_⟩:=I.tuple h2;obtain⟨ZV,p2',t2',_⟩:=I.tuple PM;exact kat_one _ _ (HT.aaZ t2 t2' (kF p2) (kF p2') (by omega) h)
     ·have e1:k.1≠j.1:=by simpa using e
      rw[klt_def,qM e1] at h;exact oneLt_int h
theorem adt (I:Inv X pins σ H s)(xs:List V):∀(ks:List Ky)(us:yX),eF X.K H xs ks->aR xs us->∃fs:List Value,KatTups s.heap us fs/\fs.length=us.length/\∀f∈fs,∃i t,f=Value.int i t:=by
 induction xs with
 |nil =>
  intro ks us _ r
  cases r
  exact⟨[],.nil,rfl,λf hf=>by cases hf⟩
 |cons x xs ih =>
  intro ks us h r
  cases ks with
  |nil=>exact h.elim
  |cons k ks =>
   cases r with
   |cons rx rv =>
    rename_i u us
    obtain⟨⟨a,b,rest,e,h1,_⟩,hr⟩:=h;obtain⟨fs,t,hl,hf⟩:=ih ks us hr rv;subst e
    cases(show u=Value.ref a from rx)
    obtain⟨its,r1,⟨o1,g1,c1,n1,d1⟩,_⟩:=I.tuple h1
    cases r1 with
    |cons q1 r1 =>
     obtain⟨tk,rfl⟩:=q1;refine⟨Value.int k.1 tk::fs,.cons g1 c1 d1 rfl t,by simp[hl],λf hf'=>?_⟩
     rcases BN.mp hf' with rfl|z
     ·exact⟨_,_,rfl⟩
     ·exact hf f z
theorem adu {A:Around}{xs:List V}{us:yX}(I:Inv X pins σ H s)(hA:A.units+2<cLine)(hk:eF X.K H xs ks)(rv:aR xs us)(nd:ks.Nodup)(h2:2<=us.length):adj X.prog X.w A us (rk ks) s:=by
 obtain⟨fs,t,hl,hf⟩:=adt I xs ks us hk rv;have EU:=hk.len;have sv:=rv.length;refine⟨tuples' true,λQ hq=>kat_kind (T:=Value.type "int") t (by omega) (λv hv=>?_) (by decide) hq,λi j C hi hj Kj hc=>?_⟩
 ·obtain⟨i,tk,rfl⟩:=hf v hv;exact .now
 ·have gi:∃x,xs[i]?=some x/\aI x (us.getD i .none):=by
   have ZW:i<xs.length:=by omega
   obtain⟨u,e,r⟩:=rv.get (i:=i) (x:=xs[i]) (by simp[ZW]);refine⟨xs[i],by simp[ZW],?_⟩;rw[Ae,e];exact r
  have gj:∃x,xs[j]?=some x/\aI x (us.getD j .none):=by
   have Od:j<xs.length:=by omega
   obtain⟨u,e,r⟩:=rv.get (i:=j) (x:=xs[j]) (by simp[Od]);refine⟨xs[j],by simp[Od],?_⟩;rw[Ae,e];exact r
  obtain⟨x,ex,rx⟩:=gi;obtain⟨y,ey,ry⟩:=gj;rw[ym (by omega) (by omega)] at hc
  have kne:de ks i≠de ks j:=λz=>by
   have e':ks[i]'(by omega)=ks[j]'(by omega):=by
    unfold de at z;simpa[show i<ks.length by omega,show j<ks.length by omega] using z
   have pw:=tU.mp (show ks.Pairwise (· ≠ ·) from nd)
   rcases Nat.lt_or_gt_of_ne Kj with l|l
   ·exact pw i j _ _ l e'
   ·exact pw j i _ _ l e'.symm
  exact ads I hA (hk.get ex) (hk.get ey) rx ry kne hc
end
end Srt
namespace L2
open PySem PySem.Spec PyProof.Rows PySem.W
section
variable {X:Cx}{pins:List (Addr×Obj)}{σ:St}{H:Hp}{s:AL}{h':Heap}
theorem Inv.ajv (I:Inv X pins σ H s){a:Addr}(hp:s.heap.get? a=none):H a=none:=by
 cases q:H a with
 |none=>rfl
 |some u =>
  obtain⟨ob,e1⟩:=(I.hok a u q).there;rw[hp] at e1
  cases e1
theorem Inv.newObj {a:Addr}{o:HO}{t':Nat}(I:Inv X pins σ H s)(k:∀b u,s.heap.get? b=some u->h'.get? b=some u)(hp:s.heap.get? a=none)(new:bJ X.prog X.w (upd H a o) h' a o):
 Inv X pins σ (upd H a o) {s with heap:=h',toks:=t'}:=by
 have hn:=I.ajv hp
 have nb:∀b u,s.heap.get? b=some u->b≠a:=λb u e z=>by rw[z,hp] at e;cases e
 exact I.un ⟨λb u q _ _ _=>k b u q,λb u q _ _ _=>⟨u.slots,k b u q⟩,λb u q n _=>by rw[av (nb b u q)];exact n,λb u q _=>⟨u,k b u q⟩,
  λb xs q=>by rw[av (au q hn)];exact q,λb u xs q=>by rw[av (au q hn)];exact q,λb ps q=>⟨#[],by rw[av (au q hn),q];simp⟩⟩ (eG (I.hok.kept k) hn new)
end
end L2
namespace Srt
open PySem PySem.W PyProof.Rows L2
section
variable {α:Type}
def mw (k:Ky)(x:α):List (Ky×α)->List (Ky×α)
 |[]=>[(k,x)]
 |(j,y):: r=>if mj k j=true then(k,x):: (j,y):: r else(j,y):: mw k x r
def eh:List (Ky×α)->List (Ky×α)
 |[]=>[]
 |(k,x):: r=>mw k x (eh r)
theorem jx (k:Ky)(x:α):∀l:List (Ky×α),(mw k x l).Perm ((k,x):: l)
 |[]=>.refl _
 |(j,y):: r=>by
  unfold mw
  split
  ·exact .refl _
  ·exact((jx k x r).cons _).trans (.swap _ _ _)
theorem dR:∀l:List (Ky×α),(eh l).Perm l
 |[]=>.refl _
 |(k,x):: r=>(jx k x _).trans ((dR r).cons _)
def DV (l:List (Ky×α)):Prop:=l.Pairwise λa b=>mj a.1 b.1=true
theorem uT {k:Ky}{x:α}:∀{l:List (Ky×α)},DV l->(∀p∈l,p.1≠k)->DV (mw k x l)
 |[],_,_=>List.pairwise_singleton _ _
 |(j,y):: r,h,hn=>by
  obtain⟨h1,h2⟩:=Jq.mp h;unfold mw
  by_cases e:mj k j=true
  ·rw[zj e];refine Jq.mpr ⟨λp hp=>?_,h⟩
   rcases BN.mp hp with rfl|hp
   ·exact e
   ·exact i5 e (h1 p hp)
  ·rw[qM e];have jk:mj j k=true:=(i4 (hn _ Ij)).resolve_right e;refine Jq.mpr ⟨λp hp=>?_,uT h2 λp hp=>hn p (Er _ hp)⟩
   rcases BN.mp ((jx k x r).mem_iff.mp hp) with rfl|hp
   ·exact jk
   ·exact h1 p hp
theorem kY:∀{l:List (Ky×α)},(l.map (·.1)).Nodup->DV (eh l)
 |[],_=>.nil
 |(k,x):: r,h=>by
  obtain⟨h1,h2⟩:=zJ.mp h;exact uT (kY h2) λp hp z=>h1 (z▸Bs (f:=(·.1)) ((dR r).mem_iff.mp hp))
theorem m8:∀{l1 l2:List (Ky×α)},DV l1->DV l2->l1.Perm l2->l1=l2
 |[],l2,_,_,p=>(List.nil_perm.mp p).symm
 |a::l1,[],_,_,p=>(List.nil_perm.mp p.symm)
 |a::l1,b::l2,h1,h2,p=>by
  obtain⟨u1,v1⟩:=Jq.mp h1;obtain⟨u2,v2⟩:=Jq.mp h2
  have e:a=b:=by
   rcases BN.mp (p.mem_iff.mp Ij) with z|z
   ·exact z
   ·rcases BN.mp (p.mem_iff.mpr (Ij (a:=b) (l:=l2))) with w|w
    ·exact w.symm
    ·have c1:=u2 a z;have c2:=u1 b w;have c3:=i5 c1 c2;rw[kA] at c3
     cases c3
  subst e;rw[m8 v1 v2 (List.Perm.cons_inv p)]
theorem qI {l1 l2:List (Ky×α)}(nd:(l2.map (·.1)).Nodup)(h:DV l1)(p:l1.Perm l2):l1=eh l2:=m8 h (kY nd) (p.trans (dR l2).symm)
theorem adC {l1 l2:List (Ky×α)}(nd:(l2.map (·.1)).Nodup)(p:l1.Perm l2):eh l1=eh l2:=by
 refine qI nd (kY ?_) ((dR l1).trans p);exact(p.map (·.1)).nodup_iff.mpr nd
end
def E5 (xs:List V)(p:Array Nat):List V:=p.toList.map λi=>xs.getD i .non
theorem ad9 {xs:List V}{us:yX}(rv:aR xs us){n:Nat}{r:Nat->Nat}{p:Array Nat}(P:Pm n r p)(hn:n<=xs.length):aR (E5 xs p) (ig us p):=by
 have key:∀l:List Nat,(∀i∈l,i<xs.length)->aR (l.map λi=>xs.getD i .non) (l.map λi=>us.getD i Value.none):=by
  intro l
  induction l with
  |nil=>intro _;exact .nil
  |cons i l ih =>
   intro h;have hi:=h i Ij;obtain⟨u,e,r⟩:=rv.get (i:=i) (x:=xs[i]) (by simp[hi]);refine .cons ?_ (ih λj hj=>h j (Er _ hj));show aI (xs.getD i .non) (us.getD i Value.none);rw[Ae,Ae,e,show xs[i]?=some xs[i] by simp[hi]];exact r
 refine key p.toList λi hi=>?_
 have z:i∈(List.range n):=by
  have pl:p.toList.Perm (List.range n):=by simpa using P.perm.toList
  exact pl.mem_iff.mp hi
 have:=HD.mp z;omega
theorem Sig {xs:List V}{ks:List Ky}(hl:xs.length=ks.length)(nd:ks.Nodup){p:Array Nat}(P:Pm xs.length (rk ks) p)(U:Up (rk ks) p xs.length):E5 xs p=(eh (ks.zip xs)).map (·.2):=by
 have pl:p.toList.Perm (List.range xs.length):=by simpa using P.perm.toList
 have e1:(List.range xs.length).map (λi=>(de ks i,xs.getD i V.non))=ks.zip xs:=by
  apply AN
  ·simp[hl]
  ·intro i h1 h2
   have hi:i<xs.length:=by simpa using h1
   have hk:i<ks.length:=by omega
   simp[de,hi,hk]
 have z:p.toList.map (λi=>(de ks i,xs.getD i V.non))=eh (ks.zip xs):=by
  refine qI ?_ ?_ ?_
  ·rw[List.map_fst_zip (by omega)];exact nd
  ·unfold DV;rw[List.pairwise_map];refine tU.mpr λi j hi hj K0=>?_;have sz:=P.size;rw[Bz] at hi hj;have u:=U i j K0 (by omega)
   have gi:p.getD i 0=p.toList[i]:=by simp[Array.getD,hi]
   have gj:p.getD j 0=p.toList[j]:=by simp[Array.getD,hj]
   rw[gi,gj] at u
   have bi:p.toList[i]<ks.length:=by rw[<-gi,<-hl];exact P.lt i (by omega)
   have bj:p.toList[j]<ks.length:=by rw[<-gj,<-hl];exact P.lt j (by omega)
   rw[<-ym bi bj];exact sG u
  ·exact(pl.map _).trans (by rw[e1])
 rw[<-z,Eg];rfl
end Srt
namespace L2
open PySem PySem.Spec PyProof.Rows PySem.W
theorem gC:∀{ns:List Int}{us:yX},aR (ns.map V.int) us->IntsAre us ns
 |[],us,r=>by cases r;exact .nil
 |n::ns,us,r=>by
  rw[Jr] at r
  cases r with
  |cons h t =>
   obtain⟨k,rfl⟩:=(show ∃k,_=Value.int n k from h);exact .cons n k (gC t)
theorem zO:∀{us:yX}{ns:List Int},IntsAre us ns->aR (ns.map V.int) us
 |_,_,.nil=>.nil
 |_,_,.cons n t h=>.cons ⟨t,rfl⟩ (zO h)
section
variable {X:Cx}
theorem ahj (hc:X.calm=true):fQ X (.builtin "max") (λxs H Q=>∃(l:Addr)(ns:List Int),xs=[.ref l]/\aV X.K H l (ns.map V.int)/\ns≠[]/\∀m,m∈ns->(∀a∈ns,a<=m)->Q (.int m) H):=by
 intro pins s σ H xs us Q I r h;obtain⟨l,ns,rfl,hl,Kj,q⟩:=h;obtain⟨u,rfl,ru⟩:=gh r
 cases(show u=Value.ref l from ru)
 obtain⟨its,rv,pl,hz⟩:=I.list hl;have hi:=gC rv;obtain⟨xs,e⟩:=hi.allInts.items
 have Lp:ns=xs.toList.map (·.1):=by rw[<-hi.numsOf,<-nums_intItems,<-e]
 have hsz:0<xs.size:=by
  have h3:0<ns.length:=List.length_pos_iff.mpr Kj;rw[Lp,vW,Bz] at h3;exact h3
 have J8:=pl.isList;rw[e] at J8;refine max_intList (I.ok.hd hc) J8 hsz λv h' tk hv hk=>?_;obtain⟨t,rfl⟩:=intItems_at hv;obtain⟨h1,h2⟩:=argBest_gt (numAt xs) (xs.size-1);refine⟨.int _,H,I.kept (t':=tk) hk,⟨t,rfl⟩,q _ ?_ λa ha=>?_⟩
 ·rw[Lp,numAt_eq];exact getD_mem (by rw[vW,Bz];omega)
 ·rw[Lp] at ha;obtain⟨j,hj,rfl⟩:=mem_getD ha;rw[vW,Bz] at hj;rw[<-numAt_eq];exact h2 j (by omega)
end
def ahk (K:Frag):List V->Hp->VK->Prop:=λxs H Q=>∃p ys,xs=[.ref p]/\(aV K H p ys\/bf K H p ys)/\Q (.int ys.length) H
section
variable {X:Cx}
theorem ahn {K:Frag}(hK:X.K=K):fQ X (.builtin "len") (ahk K):=by subst hK;exact aK
variable {tg l:Expr}{tl:TE}
def rJ (K:PySem.W.Frag):R2:=λx y H Q=>∃p q xs,x=.ref p/\y=.ref q/\aV K H p xs/\aV K H q []/\Q (.bl (!decide (xs=[]))) H
theorem p9 {k:Nat}(hr:A8 k X.A):eU X (compareOp .NotEq) (rJ X.K):=by
 intro pins s σ H x y v u Q I rx ry h;obtain⟨p,q,xs,rfl,rfl,h1,h2,w⟩:=h
 by_cases e:xs=[]
 ·subst e;refine rA hr pins s σ H _ _ v u Q I rx ry ⟨.lst [],.lst [],?_,?_,by decide,w⟩
  ·unfold aN;exact⟨p,[],rfl,h1,by unfold bg;rfl⟩
  ·unfold aN;exact⟨q,[],rfl,h2,by unfold bg;rfl⟩
 ·cases(show v=Value.ref p from rx)
  cases(show u=Value.ref q from ry)
  obtain⟨its,r1,p1,_⟩:=I.list h1;obtain⟨JA,r2,p2,_⟩:=I.list h2
  cases r2
  have hl:=r1.length;have hx:xs.length≠0:=λz=>e (zy z)
  have hs:(its.toArray.size != ([]:yX).toArray.size)=true:=by
   have:its.toArray.size≠0:=by rw[D4];omega
   simpa using this
  exact SeqAt.RcNeAt.lists_lengths p1.isList p2.isList hs hr.ahK X.prog X.w X.xe _ ⟨.bl true,H,I,rfl,by simpa[e] using w⟩
end
end L2
namespace HT
open PySem PyProof.Rows
section
variable {prog:Iy}{w:World}{A:Around}{E:Bf}{s:AL}
theorem ahp {t sl:Addr}{items:EV}{vl vu:Value}{lo hi:Option Int}{Q:Bf}(ht:IsTup s.heap t items)(hs:s.heap.IsSliceOf sl vl vu .none)(pl:IsPart vl lo)(pu:IsPart vu hi)
 (h0:dJ items.size 0 lo=0)(h1:dJ items.size items.size hi=items.size)(h:Q (.ref t) s):wpAny (model prog w) A (getItem (.ref t) (.ref sl)) Q E s:=by
 obtain⟨os,N3,Vh,Qp⟩:=id hs;have V3:s.TypeIs (.ref sl) "slice":=⟨os,N3,Vh⟩;unfold getItem
 try with_reducible refine tj ?_
 first|refine C7 (pO ?_)|skip
 refine C7 (wpAny_sequenceKey ht.typeIs (by decide) ?_)
 refine C7 (iW (name:=Str.ofString "__getitem__") ht.typeIs BA
  (xH BA ht.typeIs entry_tuple_getitem ?_ (args_tuple_getitem _ _)))
 show wpAny _ _ (Builtin.Tuple.tupleItemsOf (.ref t)>>=_) _ _ s;refine C7 (tupleItemsOf_ ht ?_);refine C7 (Gd V3 ?_);rw[zj (by decide)];refine C7 (fK hs pl pu ?_);rw[h0,h1]
 have K5:((((0:Nat):Int)==0&&(1:Int)==1&&(items.size-0)==items.size)=true):=by simp
 dsimp only;rw[zj K5];show wpAny _ _ (Builtin.Tuple.tupleIsExact (.ref t)>>=_) _ _ s;refine C7 ?_;unfold Builtin.Tuple.tupleIsExact;refine C7 (Gd ht.typeIs (pO ?_));rw[zj (by decide)];refine C7 (wD ?_);exact pO ⟨_,rfl,pO h⟩
end
end HT
namespace L2
open PySem PySem.Spec PyProof.Rows PySem.W
variable {X:Cx}
def ahr (K:Frag):V->Option Int->Option Int->Hp->VK->Prop:=λx lo hi H Q=>∃a xs,x=.ref a/\bf K H a xs/\(i7 xs lo hi=xs->Q (.ref a) H)/\∀p,H p=none->Q (.ref p) (upd H p (.tup (i7 xs lo hi)))
theorem ahs:GV X (ahr X.K):=by
 intro pins s σ H x v vl vu lo hi sl Q I rx hs pl pu h;obtain⟨a,xs,rfl,hx,h1,h2⟩:=h
 by_cases hw:HT.dJ xs.length 0 lo=0/\HT.dJ xs.length xs.length hi=xs.length
 ·cases rx
  obtain⟨its,r,ht,hz⟩:=I.tuple hx
  have hlen:its.toArray.size=xs.length:=by rw[D4];exact r.length.symm
  refine⟨"tuple",_,BA.lookup,ht.typeIs,?_⟩;refine HT.ahp ht hs pl pu (by rw[hlen];exact hw.1) (by rw[hlen];exact hw.2) ?_;refine⟨.ref a,H,I,rfl,h1 ?_⟩;unfold i7;rw[hw.1,hw.2];simp
 ·exact ab6 pins s σ H (.ref a) v vl vu lo hi sl Q I rx hs pl pu ⟨a,xs,rfl,hx,hw,h2⟩
section
variable {X:Cx}
theorem aht {H:Hp}{p:Addr}{o:HO}(h:H p=none):aA H (upd H p o):=λb u e=>by rw[av (au e h)];exact e
def akF:R2:=λx y H Q=>∃a b xs ys,x=.ref a/\y=.ref b/\H a=some (.lst xs)/\H b=some (.lst ys)/\xs.length+ys.length<=sizeLine/\∀p H',H p=none->aA H H'->H' p=some (.lst (xs++ys))->Q (.ref p) H'
theorem jV:eU X (binaryOp .Add) akF:=by
 intro pins s σ H x y v u Q I rx ry h;obtain⟨a,b,xs,ys,rfl,rfl,ha,hb,hz,q⟩:=h;exact zr pins s σ H _ _ v u Q I rx ry ⟨a,b,xs,ys,rfl,rfl,ha,hb,hz,λp hp=>q p _ hp (aht hp) ah⟩
end
end L2
namespace K74
open PySem L2 PySem.W Nm
theorem ahu {xs:List Int}{w:Int}(h0:0<=w)(h1:w<xs.length):∃x∈xs,pQ (xs.map V.int) w=some (.int x):=by
 have hl:w.toNat<xs.length:=by omega
 refine⟨xs[w.toNat],zP hl,?_⟩;have z:=jU (xs:=xs.map V.int) (j:=w.toNat) (v:=V.int xs[w.toNat]) (by rw[wN];simp[hl])
 have e:((w.toNat:Nat):Int)=w:=by omega
 rw[e] at z;exact z
abbrev uG:Stmt:=aF (aQ 22) 4
abbrev nC:Stmt:=aF (aQ 22) 11
variable {H:Hp}{x:V}
theorem Th.same {H':Hp}{T:String}(h:Th H x T)(s:aA H H'):Th H' x T:=by
 cases h with
 |non=>exact .non
 |bl b=>exact .bl b
 |int i=>exact .int i
 |str x=>exact .str x
 |lst e=>exact .lst (s _ _ e)
 |tup e=>exact .tup (s _ _ e)
 |dK e=>exact .dK (s _ _ e)
inductive TX (H:Hp):V->Option (V×V)->Prop where
 |no {x:V}{T:String}:Th H x T->T ≠ "tuple"->TX H x none
 |odd {a:Addr}{xs:List V}:H a=some (.tup xs)->xs.length≠2->TX H (.ref a) none
 |two {a:Addr}{y z:V}{Ty Tz:String}:H a=some (.tup [y,z])->Th H y Ty->Th H z Tz->TX H (.ref a) (some (y,z))
theorem TX.same {H':Hp}{o:Option (V×V)}(h:TX H x o)(s:aA H H'):TX H' x o:=by
 cases h with
 |no th n=>exact .no (th.same s) n
 |odd e n=>exact .odd (s _ _ e) n
 |two e h1 h2=>exact .two (s _ _ e) (h1.same s) (h2.same s)
def tG (p:Int):Option (V×V)->Bool
 |some (.int t,.int b)=>if p=0 then decide (1<=b)&&decide (Int.gcd t b=1) else decide (b=1)&&(decide (0<=t)&&decide (t<p))
 |_=>false
theorem Th.isTup {K:Frag}{T:String}(h:Th H x T):kitOne K (.type T) (.type "tuple")=some (decide (T="tuple")):=by cases h <;> rfl
def ir (C NN:Addr):Sp:=λvs H Q E=>∃(s dx:Addr)(p:Int)(x y:V)(Tx Ty:String),vs=[.ref s,x,y]/\H s=some (.ins C dx (cL p))/\Th H x Tx/\Th H y Ty/\(∀t b,x=.int t->y=.int b->rK C NN [.ref s,.int t,.int b] H Q E)/\((dG x&&dG y)=false->E (.ref NN) none H)
def ix (C:Addr):Sp:=λvs H Q _=>∃(s dx:Addr)(p:Int)(x:V)(o:Option (V×V)),vs=[.ref s,x]/\H s=some (.ins C dx (cL p))/\FP p/\TX H x o/\Q (.bl (tG p o)) H
variable {P:Iy}{w:World}{K:PySem.W.Frag}{mg:xk}{base:Heap}
theorem ahG:DK vv vv (aq uG):=c9 (by decide +kernel)
theorem abX {f C NN fq fw T:Addr}{fd ZX JT:qo}(F:HK K "made" "Field.made" uG f fd T)(c:CP K mg C)(mN:mg "NoNumber"=some (.ref NN))(qN:jb K NN zK lJ=true)
 (FQ:zG P w K mg base (aO P w) 3 fq ZX vv (rK C NN))(bQ:L2.ax K ZX vv [])(mQ:L2.Meth K C "quotient" fq)
 (FW:zG P w K mg base (aO P w) 1 fw JT Fl A0)(bW:L2.ax K JT Fl [])(mW:mg "is_whole"=some (.ref fw))(kW:keepIn K (.ref fw)=true):zG P w K mg base (aO P w) 4 f fd vv (ir C NN):=by
 refine F.okE ahG (λvs H Q E h=>?_) (λJw A outer s H vs Q E hr h=>?_)
 ·obtain⟨s,dx,p,x,y,Tx,Ty,rfl,_⟩:=h;rfl
 ·obtain⟨s,dx,p,x,y,Tx,Ty,rfl,hs,hx,hy,q,qE⟩:=h;have JE:A8 1 _:=hr.mono (by decide)
  refine⟨_,aj (bc (PW.pt (eA (bF (bK (ay FW JE (by rfl) mW kW bW .nil ae (ai (pv 1) af)))) (dB (bF (bK (ay FW JE (by rfl) mW kW bW .nil ae (ai (pv 2) af)))))))
   (ak (dY DI qN rfl cO (by rfl) mN (ai gf af))) aE)
   (ak (az (bH (E:=E) (pv 0) c.cl mQ FQ hr bQ .nil acj (ai (pv 1) (ai (pv 2) af))))),?_⟩
  refine⟨_,rfl,x,Tx,rfl,hx,_,rfl,?_⟩
  cases e1:dG x with
  |false=>exact bZ (bZ ⟨by decide,qE (by rw[e1];rfl)⟩)
  |true =>
   refine bw ⟨_,rfl,y,Ty,rfl,hy,_,rfl,?_⟩
   cases e2:dG y with
   |false=>exact bZ ⟨by decide,qE (by rw[e1,e2];rfl)⟩
   |true =>
    have z1:∃t,x=.int t:=by cases x <;> first|exact⟨_,rfl⟩|cases e1
    have z2:∃b,y=.int b:=by cases y <;> first|exact⟨_,rfl⟩|cases e2
    obtain⟨t,rfl⟩:=z1;obtain⟨b,rfl⟩:=z2;exact bw ⟨_,rfl,s,dx,_,rfl,hs,rfl,_,rfl,_,rfl,q t b rfl rfl⟩
theorem iu:DK ["self","thing","top","bottom"] yk (aq nC):=c9 (by decide +kernel)
theorem acn {f C fg fw:Addr}{fd JP JT:qo}{tF:Tok}(F:Dp K "is_number" "Field.is_number" nC f fd)(c:CP K mg C)(mF:mg "FRACTIONS"=some (.int 0 tF))(n:xb mg)(mT:mg "tuple"=none)(mN:mg "len"=none)
 (FG:zG P w K mg base (aO P w) 1 fg JP yh C9)(bG:L2.ax K JP yh [])(mG:mg "common_divisor"=some (.ref fg))(kG:keepIn K (.ref fg)=true)
 (FW:zG P w K mg base (aO P w) 1 fw JT Fl A0)(bW:L2.ax K JT Fl [])(mW:mg "is_whole"=some (.ref fw))(kW:keepIn K (.ref fw)=true):zG P w K mg base (aO P w) 2 f fd yk (ix C):=by
 refine F.okN iu (λvs H Q E h=>?_) (λJw A outer s H vs Q E hr h=>?_)
 ·obtain⟨s,dx,p,x,o,rfl,_⟩:=h;rfl
 ·obtain⟨s,dx,p,x,o,rfl,hs,hp,tx,q⟩:=h
  refine⟨_,aj (bc (PW.pt (eA (bF (bK (aB aZ (by rfl) n.isi (by rfl) (ai (pv 1) (ai (dX (by rfl) mT (by rfl) (show aI (.ty "tuple") (.type "tuple") from rfl)) af)))))
   (dB (aM ib (aB aK (by rfl) mN A2 (ai (pv 1) af)) ar (aJ _))))) (ak (az eY)) aE)
   (aj (oN (pv 1) (cA rfl (aG (aC (i:=2) iu.nd rfl (Or.inl rfl)) (aG (aC (i:=3) iu.nd rfl (Or.inl rfl)) bX))))
   (aj (bc (PW.pt (eA (bF (bK (ay FW hr (by rfl) mW kW bW .nil ae (ai (pv 2) af)))) (dB (bF (bK (ay FW hr (by rfl) mW kW bW .nil ae (ai (pv 3) af))))))) (ak (az eY)) aE)
   (aj (bc (aM dZ (bD (pv 0) rfl) (cu (by rfl) mF (show aI (.int 0) (.int 0 tF) from⟨_,rfl⟩)) (aJ _))
    (ak (az (dC (cw Ck (pv 3) ar (aJ _)) (d9 (cw dZ (ay FG hr (by rfl) mG kG bG .nil ae (ai (pv 2) (ai (pv 3) af))) ar (aJ _)))))) aE)
   (ak (az (dC (cw dZ (pv 3) ar (aJ _)) (d9 (kX iP jH ar (pv 2) (bD (pv 0) rfl))))))))),?_⟩
  cases tx with
  |@no x T th ne =>
   refine⟨_,rfl,x,.ty "tuple",_,_,_,rfl,rfl,th.ty,th.isTup,_,rfl,?_⟩;rw[Fx ne];exact bZ (bZ q)
  |@odd a xs ha hl =>
   refine⟨_,rfl,.ref a,.ty "tuple",_,_,_,rfl,rfl,.of (.tup ha),rfl,_,rfl,bw ?_⟩;refine⟨_,rfl,a,_,rfl,.inr (bf.of ha),rfl,_,rfl,?_⟩;refine dO (λ_=>q) (λh=>absurd (by simp;omega) h)
  |@two a y z Ty Tz ha hy hz =>
   refine⟨_,rfl,.ref a,.ty "tuple",_,_,_,rfl,rfl,.of (.tup ha),rfl,_,rfl,bw ?_⟩;refine⟨_,rfl,a,_,rfl,.inr (bf.of ha),rfl,_,rfl,?_⟩;refine dO (λh=>absurd h (by simp)) (λ_=>?_);refine⟨_,rfl,a,_,rfl,bf.of ha,rfl,_,_,rfl,_,_,rfl,rfl,?_⟩;refine⟨_,rfl,y,Ty,rfl,hy,_,rfl,?_⟩
   cases e1:dG y with
   |false =>
    have z1:tG p (some (y,z))=false:=by cases y <;> first|rfl|cases e1
    rw[z1] at q;exact bZ (bZ q)
   |true =>
    refine bw ⟨_,rfl,z,Tz,rfl,hz,_,rfl,?_⟩
    cases e2:dG z with
    |false =>
     have z1:tG p (some (y,z))=false:=by cases y <;> cases z <;> first|rfl|cases e2
     rw[z1] at q;exact bZ q
    |true =>
     have z1:∃t,y=.int t:=by cases y <;> first|exact⟨_,rfl⟩|cases e1
     have z2:∃b,z=.int b:=by cases z <;> first|exact⟨_,rfl⟩|cases e2
     obtain⟨t,rfl⟩:=z1;obtain⟨b,rfl⟩:=z2;refine bw ?_;refine⟨_,rfl,s,C,dx,_,_,rfl,hs,c.cl,c.nP,rfl,rfl,_,rfl,?_⟩;refine dO (λh=>?_) (λh=>?_)
     ·have J7:p=0:=by simpa using h
      have z1:tG p (some (.int t,.int b))=(decide (1<=b)&&decide (Int.gcd t b=1)):=by simp[tG,J7]
      rw[z1] at q;refine⟨_,rfl,_,_,rfl,rfl,_,rfl,?_⟩;refine dO (λh1=>?_) (λh1=>?_)
      ·refine⟨_,rfl,_,rfl,t,b,rfl,rfl,?_⟩
       have e3:decide (V.int (eJ t b)=V.int 1)=decide (Int.gcd t b=1):=by
        unfold eJ
        by_cases g:Int.gcd t b=1
        ·simp[g]
        ·have:¬((Int.gcd t b:Nat):Int)=1:=by omega
         simp[g,this]
       have MJ:decide (1<=b)=true:=h1;rw[MJ,Hv,<-e3] at q;exact q
      ·have MJ:decide (1<=b)=false:=by simpa using h1
       rw[MJ,A4] at q;exact q
     ·have J7:p≠0:=by simpa using h
      have z1:tG p (some (.int t,.int b))=(decide (b=1)&&(decide (0<=t)&&decide (t<p))):=by simp[tG,J7]
      rw[z1] at q;refine⟨_,rfl,rfl,_,rfl,?_⟩;refine dO (λh1=>?_) (λh1=>?_)
      ·have MJ:decide (b=1)=true:=by simpa using h1
       rw[MJ,Hv] at q;refine⟨_,rfl,_,_,rfl,rfl,_,rfl,?_⟩;refine dO (λh2=>?_) (λh2=>?_)
       ·refine⟨_,rfl,s,C,dx,_,_,rfl,hs,c.cl,c.nP,rfl,_,_,rfl,rfl,?_⟩;have PM:decide (0<=t)=true:=h2;rw[PM,Hv] at q;exact q
       ·have PM:decide (0<=t)=false:=by simpa using h2
        rw[PM,A4] at q;exact q
      ·have MJ:decide (b=1)=false:=by simpa using h1
       rw[MJ,A4] at q;exact q
end K74
namespace MK
open PySem PySem.W PyProof.Rows
variable {i:Nat}
section
variable {prog:Iy}{w:World}{A:Around}{E:Bf}{s:AL}{d it:Addr}{es:Array DictEntry}{ep:Nat}{o:Obj}
structure Raw (h:Heap)(d:Addr)(es:Array DictEntry)(ep:Nat):Prop where
 ex:∃o,h.get? d=some o/\o.ExactDict/\o.data=.dict es ep
theorem Raw.ty (r:Raw s.heap d es ep):s.TypeIs (.ref d) "dict":=let⟨o,h,x,_⟩:=r.ex;⟨o,h,x.1⟩
theorem Raw.keep {h h':Heap}(r:Raw h d es ep)(k:∀o,h.get? d=some o->h'.get? d=some o):Raw h' d es ep:=let⟨o,h1,x⟩:=r.ex;⟨o,k o h1,x⟩
theorem acq {Q:Bf}(r:Raw s.heap d es ep)(hd:(d==sysModules)=false)(h:Q (.ref s.heap.objs.size) {s with heap:=s.heap.push {cls:=.type "dict_items",data:=.fields #[.ref d]} }):
 wpAny (model prog w) A (call (.builtin "dict.items") [.ref d]) Q E s:=by
 refine xH F.slot_dict_items r.ty F.entry_dict_items ?_ (F.args_dict_items_1 _);unfold Builtin.«dict.items» Builtin.Dict.noArgs;refine C7 (C7 (wpAny_notOrdered_dict r.ty (pO ?_)));show wpAny _ _ (Builtin.Dict.showsAll d>>=_) _ _ s;unfold Builtin.Dict.showsAll;rw[qM (by rw[hd];exact IA)];exact C7 (pO (C7 (Dr (pO ⟨_,rfl,h⟩))))
theorem acG {v:Addr}{Q:Bf}(hv:s.heap.IsItemsView v d)(r:Raw s.heap d es ep)
 (hQ:Q (.ref s.heap.objs.size) {s with heap:=s.heap.push {cls:=.type "dict_itemiterator",data:=.fields #[.none,.bool false,.ref d,.int 0 0,.int es.size 0,.int ep 0,.none,.none]} }):wpAny (model prog w) A (pyIter (.ref v)) Q E s:=by
 obtain⟨ov,g1,g2,g3⟩:=id hv;obtain⟨o,h1,h2,h3⟩:=r.ex;refine yf hv.typeIs F.slot_dict_items_iter (xH F.slot_dict_items_iter hv.typeIs F.entry_dict_items_iter ?_ (F.args_dict_items_iter_1 _));unfold Builtin.«dict_items.__iter__» Builtin.Dict_items.dictOf;refine C7 (pO (C7 (C7 (HE g1 g3 (x:=.ref d) rfl (pO (C7 ?_))))));unfold Builtin.Dict_items.newIterator;refine C7 (AD h1 h3 (C7 (tV h1 h3 ?_)));simp only[show Builtin.Dict_items.ownsTuple "dict_itemiterator"=true from by decide,En];refine Dr (pO ⟨_,rfl,"dict_itemiterator",_,⟨_,Hr _ rfl,rfl⟩,rn.lookup,?_⟩) (by simp only[sizeOk,Builtin.Dict_items.ownedTupleFields,D4,tE,wF,Au,AI];omega);simpa[rawInt,Builtin.Dict_items.ownedTupleFields] using hQ
theorem acL {ok ov:Value}{Q:Option Value->Shared->Prop}(hit:IsItemIter s.heap it d i es.size ep ok ov)(r:Raw s.heap d es ep)(hi:i<es.size)
 (hQ:∀h',IsItemIterOut h' it d (i+1) es.size ep es[i].key es[i].val s.heap.objs.size->h'.get? s.heap.objs.size=some {cls:=.type "tuple",data:=.seq #[es[i].key,es[i].val]}->h'.objs.size=s.heap.objs.size+1 →
  (∀b o,b≠it->s.heap.get? b=some o->h'.get? b=some o)->Q (some (.ref s.heap.objs.size)) {s with heap:=h'}):wpAny (model prog w) A (pyNext (.ref it)) Q E s:=by
 obtain⟨hp,g,dr,tk,os⟩:=s;obtain⟨o,h1,h2,h3⟩:=r.ex;have hT:Shared.TypeIs ⟨hp,g,dr,tk,os⟩ (.ref it) "dict_itemiterator":=⟨_,hit,rfl⟩;unfold pyNext;refine C7 (rP (iW (name:=Str.ofString "__next__") hT rn (xH rn hT xn ?_ (r8 _))));refine C7 (pO (C7 (C7 ?_)))
 first|refine C7 (Bv hT (pO (C7 (Bc hit rfl ?_))))|refine C7 (yx hT (pO (C7 (Bc hit rfl ?_))))
 simp only[show Builtin.Dict_items.ownsTuple "dict_itemiterator"=true from by decide,En];show wpAny _ _ (if(Value.ref d==Value.none)=true then _ else _) _ _ _;rw[qM (show ¬((Value.ref d==Value.none)=true) from IA)];refine C7 (pO (C7 (AD h1 h3 ?_)));rw[qM (by simp)];refine C7 (pO (C7 (tV h1 h3 ?_)));rw[qM (by simp)];refine pO ?_;simp only[show ¬((i:Int)<0) from by omega,CR,F5,Array.getElem?_eq_getElem hi];refine C7 ?_
 first|refine C7 (Bv hT (pO (C7 (C0 hT ?_))))|refine C7 (yx hT (pO (C7 (C0 hT ?_))))
 show wpAny _ _ (setField (.ref it) 3 (rawInt ((i:Int)+1))>>=_) _ _ ⟨hp,g,dr,tk,os⟩;refine C7 (se hit (by simp) λk1 e1 (b1:Heap.SameBut it hp k1)=>?_)
 have q1:IsItemIter k1 it d (i+1) es.size ep ok ov:=by
  unfold IsItemIter;rw[show((i+1:Nat):Int)=(i:Int)+1 by omega];simpa[rawInt] using e1
 have t1:Shared.TypeIs ⟨k1,g,dr,tk,os⟩ (.ref it) "dict_itemiterator":=⟨_,q1,rfl⟩;refine C7 (tj (C7 (C0 t1 (C7 (C0 t1 ?_)))));show wpAny _ _ (Builtin.Dict_items.pairFromOwner (.ref it) 6 es[i].key es[i].val) _ _ ⟨k1,g,dr,tk,os⟩;unfold Builtin.Dict_items.pairFromOwner;refine C7 (wpAny_newTuple ?_);have q2:IsItemIter (k1.push {cls:=.type "tuple",data:=.seq #[es[i].key,es[i].val]}) it d (i+1) es.size ep ok ov:=wa _ q1;have z1:k1.objs.size=hp.objs.size:=b1.1;have ne:hp.objs.size≠it:=BL (Ec hit)
 have w2:(k1.push {cls:=.type "tuple",data:=.seq #[es[i].key,es[i].val]}).get? hp.objs.size=some {cls:=.type "tuple",data:=.seq #[es[i].key,es[i].val]}:=by rw[<-z1];exact Hr _ rfl
 have z2:(k1.push {cls:=.type "tuple",data:=.seq #[es[i].key,es[i].val]}).objs.size=hp.objs.size+1:=by rw[DG,z1]
 have p2:∀b o,b≠it->hp.get? b=some o->(k1.push {cls:=.type "tuple",data:=.seq #[es[i].key,es[i].val]}).get? b=some o:=λb o hb e=>wa _ (b1.extBut b o hb e);show wpAny _ _ (Builtin.Dict_items.ownedTupleIsFree (.ref it)>>=_) _ _ ⟨k1.push {cls:=.type "tuple",data:=.seq #[es[i].key,es[i].val]},g,dr,tk,os⟩;rw[z1];generalize k1.push {cls:=.type "tuple",data:=.seq #[es[i].key,es[i].val]}=k2 at q2 w2 z2 p2 |-;unfold Builtin.Dict_items.ownedTupleIsFree;refine C7 (C7 (HE q2 rfl (x:=.none) rfl (pO ?_)));simp only[En];refine C7 (HE q2 rfl (x:=ok) rfl (C7 (HE q2 rfl (x:=ov) rfl (C7 (se q2 (by simp) λk3 e3 (b3:Heap.SameBut it k2 k3)=>?_)))));have q3:IsItemIter k3 it d (i+1) es.size ep es[i].key ov:=e3;refine C7 (se q3 (by simp) λk4 e4 (b4:Heap.SameBut it k3 k4)=>?_);have q4:IsItemIter k4 it d (i+1) es.size ep es[i].key es[i].val:=e4;refine C7 (se q4 (by simp) λk5 e5 (b5:Heap.SameBut it k4 k5)=>?_);have q5:IsItemIterOut k5 it d (i+1) es.size ep es[i].key es[i].val hp.objs.size:=e5;refine C7 (se q5 (by simp) λk6 e6 (b6:Heap.SameBut it k5 k6)=>?_);have q6:IsItemIterOut k6 it d (i+1) es.size ep es[i].key es[i].val hp.objs.size:=e6;have go:∀b o,b≠it->k2.get? b=some o->k6.get? b=some o:=λb o hb e=>b6.extBut b o hb (b5.extBut b o hb (b4.extBut b o hb (b3.extBut b o hb e)));exact C7 (we (pO (pO ⟨_,rfl,pO (hQ k6 q6 (go _ _ ne w2) (by show k6.objs.size=hp.objs.size+1;rw[b6.1,b5.1,b4.1,b3.1,z2]) λb o hb e=>go b o hb (p2 b o hb e))⟩)))
theorem acM {ok ov:Value}{Q:Option Value->Shared->Prop}(hh:A.handled=none)(hit:IsItemIter s.heap it d i es.size ep ok ov)(r:Raw s.heap d es ep)(hi:es.size<=i)
 (hQ:∀h',Heap.ExtBut it s.heap h'->Q none {s with heap:=h'}):wpAny (model prog w) A (pyNext (.ref it)) Q E s:=by
 obtain⟨o,h1,h2,h3⟩:=r.ex;have hT:s.TypeIs (.ref it) "dict_itemiterator":=⟨_,hit,rfl⟩;unfold pyNext;refine C7 (rP (iW (name:=Str.ofString "__next__") hT rn (xH rn hT xn ?_ (r8 _))));refine C7 (pO (C7 (C7 ?_)))
 first|refine C7 (Bv hT (pO (C7 (Bc hit rfl ?_))))|refine C7 (yx hT (pO (C7 (Bc hit rfl ?_))))
 simp only[show Builtin.Dict_items.ownsTuple "dict_itemiterator"=true from by decide,En];show wpAny _ _ (if(Value.ref d==Value.none)=true then _ else _) _ _ _;rw[qM (show ¬((Value.ref d==Value.none)=true) from IA)];refine C7 (pO (C7 (AD h1 h3 ?_)));rw[qM (by simp)];refine C7 (pO (C7 (tV h1 h3 ?_)));rw[qM (by simp)];refine pO ?_;simp only[show ¬((i:Int)<0) from by omega,CR,F5,wL hi];refine C7 ?_
 first|refine C7 (Bv hT (pO ?_))|refine C7 (yx hT (pO ?_))
 show wpAny _ _ (setField (.ref it) 2 .none>>=_) _ _ s;refine C7 (mq hit rfl (by simp) ?_);show wpAny _ _ (newExc (.type "StopIteration") []>>=_) _ _ _;refine C7 ?_;simp only[newExc,newTuple];refine C7 (Dr (C7 (m:=firstArgMember _ _) (xc (a:=Value.none) (by first|rfl|(simp only[firstArgMember];rfl)) (Dr ?_ (by size_fits)))) (by size_fits));simp only[raiseNew];refine C7 (Dk ?_);rw[show A.in1.handled=none from hh];refine C7 (pO (wpAny_throw ?_));refine C7 (yB (T:="StopIteration") (b:=true) ⟨_,Hr _ rfl,rfl⟩ AW ?_);exact pO (hQ _ (((GO ..).extBut.push _).push _))
theorem ac8 {Q:Bf}(r:Raw s.heap d es ep)(hd:(d==sysModules)=false)
 (hQ:Q (.ref s.heap.objs.size) {s with heap:=s.heap.push {cls:=.type "dict_keyiterator",data:=.fields #[.ref d,.int 0 0,.int es.size 0,.int ep 0]} }):wpAny (model prog w) A (pyIter (.ref d)) Q E s:=by
 obtain⟨o,h1,h2,h3⟩:=r.ex;refine yf r.ty F.slot_dict_iter (xH F.slot_dict_iter r.ty F.entry_dict_iter ?_ (F.args_dict_iter_1 _));unfold Builtin.«dict.__iter__» Builtin.Dict.dictSlotNone;refine C7 (C7 (wpAny_notOrdered_dict r.ty (?_:wpAny _ _ (pure (Value.ref d)) _ _ s)));refine pO ?_;show wpAny _ _ (Builtin.Dict.showsAll d>>=_) _ _ s;unfold Builtin.Dict.showsAll;rw[qM (by rw[hd];exact IA)];refine C7 (pO (C7 (AD h1 h3 (C7 (tV h1 h3 (C7 (Dr (pO ⟨_,rfl,"dict_keyiterator",_,⟨_,Hr _ rfl,rfl⟩,tK.lookup,?_⟩))))))));simpa[rawInt] using hQ
theorem adF {Q:Option Value->Shared->Prop}(hit:s.heap.IsKeyIter it d i es.size ep)(r:Raw s.heap d es ep)(hi:i<es.size)
 (hQ:∀h',h'.IsKeyIter it d (i+1) es.size ep->Heap.SameBut it s.heap h'->Q (some es[i].key) {s with heap:=h'}):wpAny (model prog w) A (pyNext (.ref it)) Q E s:=by
 obtain⟨oi,g1,g2,g3⟩:=id hit;obtain⟨o,h1,h2,h3⟩:=r.ex;have hT:=hit.typeIs;unfold pyNext;refine C7 (rP (iW (name:=Str.ofString "__next__") hT tK (xH tK hT CA ?_ (Ga _))));refine C7 (pO (C7 (C7 ?_)))
 first|refine C7 (wt hT (pO (C7 (Bc g1 g3 ?_))))|refine C7 (xj hT (pO (C7 (Bc g1 g3 ?_))))
 simp only[show Builtin.Dict_items.ownsTuple "dict_keyiterator"=false from by decide,Ep,CR];show wpAny _ _ (if(Value.ref d==Value.none)=true then _ else _) _ _ _;rw[qM (show ¬((Value.ref d==Value.none)=true) from IA)];refine C7 (pO (C7 (AD h1 h3 ?_)));rw[qM (by simp)];refine C7 (pO (C7 (tV h1 h3 ?_)));rw[qM (by simp)];refine pO ?_;simp only[show ¬((i:Int)<0) from by omega,CR,F5,Array.getElem?_eq_getElem hi];refine C7 ?_
 first|refine C7 (wt hT (pO (C7 (vp hT ?_))))|refine C7 (xj hT (pO (C7 (vp hT ?_))))
 show wpAny _ _ (setField (.ref it) 1 (rawInt ((i:Int)+1))>>=_) _ _ s;refine C7 (mq g1 g3 (by simp) ?_);have q1:(s.heap.update it (Obj.mapFields (·.setIfInBounds 1 (rawInt ((i:Int)+1))))).IsKeyIter it d (i+1) es.size ep:=⟨_,mD _ g1 (vz (Bl g3 _)),(FO ..).trans g2,by rw[Bl g3];simp[rawInt]⟩;refine C7 (tj (C7 (vp (s:={s with heap:=s.heap.update it (Obj.mapFields (·.setIfInBounds 1 (rawInt ((i:Int)+1))))}) q1.typeIs (?_:wpAny _ _ (pure es[i].key) _ _ _))));exact pO (pO ⟨_,rfl,pO (hQ _ q1 (GO ..))⟩)
theorem adG {Q:Option Value->Shared->Prop}(hh:A.handled=none)(hit:s.heap.IsKeyIter it d i es.size ep)(r:Raw s.heap d es ep)(hi:es.size<=i)
 (hQ:∀h',Heap.ExtBut it s.heap h'->Q none {s with heap:=h'}):wpAny (model prog w) A (pyNext (.ref it)) Q E s:=by
 obtain⟨oi,g1,g2,g3⟩:=id hit;obtain⟨o,h1,h2,h3⟩:=r.ex;have hT:=hit.typeIs;unfold pyNext;refine C7 (rP (iW (name:=Str.ofString "__next__") hT tK (xH tK hT CA ?_ (Ga _))));refine C7 (pO (C7 (C7 ?_)))
 first|refine C7 (wt hT (pO (C7 (Bc g1 g3 ?_))))|refine C7 (xj hT (pO (C7 (Bc g1 g3 ?_))))
 simp only[show Builtin.Dict_items.ownsTuple "dict_keyiterator"=false from by decide,Ep,CR];show wpAny _ _ (if(Value.ref d==Value.none)=true then _ else _) _ _ _;rw[qM (show ¬((Value.ref d==Value.none)=true) from IA)];refine C7 (pO (C7 (AD h1 h3 ?_)));rw[qM (by simp)];refine C7 (pO (C7 (tV h1 h3 ?_)));rw[qM (by simp)];refine pO ?_;simp only[show ¬((i:Int)<0) from by omega,CR,F5,wL hi];refine C7 ?_
 first|refine C7 (wt hT (pO ?_))|refine C7 (xj hT (pO ?_))
 show wpAny _ _ (setField (.ref it) 0 .none>>=_) _ _ s;refine C7 (mq g1 g3 (by simp) ?_);show wpAny _ _ (newExc (.type "StopIteration") []>>=_) _ _ _;refine C7 ?_;simp only[newExc,newTuple];refine C7 (Dr (C7 (m:=firstArgMember _ _) (xc (a:=Value.none) (by first|rfl|(simp only[firstArgMember];rfl)) (Dr ?_ (by size_fits)))) (by size_fits));simp only[raiseNew];refine C7 (Dk ?_);rw[show A.in1.handled=none from hh];refine C7 (pO (wpAny_throw ?_));refine C7 (yB (T:="StopIteration") (b:=true) ⟨_,Hr _ rfl,rfl⟩ AW ?_);exact pO (hQ _ (((GO ..).extBut.push _).push _))
end
end MK
namespace L2
open PySem PySem.Spec PyProof.Rows PySem.W
abbrev pP (o:Obj)(Jt:List (List Key×V)):HO:=.frz o (.dT Jt)
def Hu (d:Addr)(o:Obj)(Jt:List (List Key×V)):It :=
 ⟨λi H=>i<Jt.length/\H d=some (pP o Jt),λi H x H'=>∃p b k v,Jt[i]?=some (k,v)/\H p=none/\H b=some (.tup (k.map kV))/\x=.ref p/\H'=upd H p (.tup [.ref b,v]),λi H=>Jt.length<=i/\H d=some (pP o Jt)⟩
def Ik (d:Addr)(o:Obj)(Jt:List (List Key×V)):It :=
 ⟨λi H=>i<Jt.length/\H d=some (pP o Jt),λi H x H'=>∃b k v,Jt[i]?=some (k,v)/\H b=some (.tup (k.map kV))/\x=.ref b/\H'=H,λi H=>Jt.length<=i/\H d=some (pP o Jt)⟩
theorem kE {α β:Type}{R:α->β->Prop}:∀{l:List α}{m:List β}{i:Nat}{a:α},Paired R l m->l[i]?=some a->∃b,m[i]?=some b/\R a b
 |_,_,_,_,.nil,e=>by simp at e
 |_,_,0,_,.cons r _,e=>by simp at e;subst e;exact⟨_,rfl,r⟩
 |_,_,i+1,a,.cons _ t,e=>by
  obtain⟨b,h1,h2⟩:=kE (i:=i) (a:=a) t (by simpa using e);exact⟨b,by simpa using h1,h2⟩
section
variable {X:Cx}{pins:List (Addr×Obj)}{σ:St}{H:Hp}{s:AL}{d:Addr}{o:Obj}{Jt:List (List Key×V)}
theorem jo (I:Inv X pins σ H s)(e:H d=some (pP o Jt)):∃es ep,o.data=.dict es ep/\MK.Raw s.heap d es ep/\es.size=Jt.length/\(d==sysModules)=false /\
 ∀(i:Nat)(hi:i<es.size) k v,Jt[i]?=some (k,v)->∃b,es[i].key=.ref b/\H b=some (.tup (k.map kV))/\aI v es[i].val:=by
 obtain⟨h0,z,y,xs,r,o',es,ep,h1,h2,h3,h4,h5⟩:=(show bJ X.prog X.w H s.heap d (pP o Jt) from I.hok d _ e);rw[h0] at h1
 cases h1
 have hl:es.size=Jt.length:=by
  rw[<-Bz,h4,vW];exact(Bh r).symm
 refine⟨es,ep,h3,⟨_,h0,h2,h3⟩,hl,y,λi hi k v hk=>?_⟩;obtain⟨q,hq,e1,e2,e3⟩:=kE r hk
 have z1:es.toList[i]?=some (entryOfKey (tupleKind (b7 X.prog X.w)) q):=by rw[h4,wN,hq];rfl
 have z2:es[i]=entryOfKey (tupleKind (b7 X.prog X.w)) q:=by
  have z3:es.toList[i]?=some es[i]:=by simp[hi]
  rw[z3] at z1;exact Option.some.inj z1
 rw[z2];exact⟨q.2.1,rfl,e2,e3⟩
theorem Inv.freeze (I:Inv X pins σ H s)(e:H d=some (.dT Jt)):∃o,s.heap.get? d=some o/\Inv X pins σ (upd H d (pP o Jt)) s:=by
 obtain⟨z,y,xs,r,o,es,ep,h1,h2⟩:=(show bJ X.prog X.w H s.heap d (.dT Jt) from I.hok d _ e);refine⟨o,h1,I.write (t':=s.toks) (h':=s.heap) (x:=d) (e:=d) (o:=pP o Jt) (by rw[e];exact True.intro) (.inl rfl) (λ_ _ _ q=>q) ⟨o,h1⟩ ⟨h1,z,y,xs,?_,o,es,ep,h1,h2⟩⟩;exact Paired.agP r λp q w=>⟨w.1,by rw[av (Ca w.2.1 e (by intro z;cases z))];exact w.2.1,w.2.2⟩
end
variable {P:Iy}{w:World}{K:Frag}{elts:vH}{x1:Nat}{tp:Pos}
theorem adI (d it:Addr)(o:Obj)(Jt:List (List Key×V))(es:Array DictEntry)(ep:Nat)(ho:o.data=.dict es ep):Turn P w K (.Tuple elts x1 tp) (Hu d o Jt) [it] it (λi h=>∃ok ov,IsItemIter h it d i es.size ep ok ov) where
 mem:=by simp
 obj:=λi h st b hb=>by
  have e:b=it:=by simpa using hb
  subst e;obtain⟨ok,ov,e⟩:=st;exact⟨_,e,λv z=>by cases z⟩
 keep:=λi h h' st k=>let⟨ok,ov,e⟩:=st;⟨ok,ov,k it (by simp) _ e⟩
 item:=by
  intro X hP hw hK hc i pins s σ H E I hf st hg;subst hP hw hK;obtain⟨JB,hd⟩:=hg;obtain⟨ok,ov,hit⟩:=st;obtain⟨es',NZ,JW,raw,hl,hm,QF⟩:=jo I hd;rw[ho] at JW
  cases JW
  obtain⟨f0,f1,f2,f3,f4,f5⟩:=hf it (by simp)
  have hi:i<es.size:=by omega
  refine MK.acL hit raw hi λh' q1 q2 q3 q4=>?_;obtain⟨⟨k,v⟩,hk⟩:∃kv,Jt[i]?=some kv:=⟨Jt[i],by simp[JB]⟩;obtain⟨b,eb,hb,rv⟩:=QF i hi k v hk;refine⟨_,rfl,wpAny_letOwnedTupleGo_items (s:={s with heap:=h'}) q1 λh2 q5 q6=>?_⟩;have M5:s.heap.objs.size≠it:=BL (Ec hit);have I1:Inv X pins σ H {s with heap:=h2}:=I.turned (t':=s.toks) (λb o hb e=>(q6.2 b hb).trans (q4 b o hb e)) f0 f1 f3 f4 f5;have tup:h2.get? s.heap.objs.size=some {cls:=.type "tuple",data:=.seq #[es[i].key,es[i].val]}:=(q6.2 _ M5).trans q2;have fr:H s.heap.objs.size=none:=I.hok.fresh (zC _)
  have I2:Inv X pins σ (upd H s.heap.objs.size (.tup [.ref b,v])) {s with heap:=h2}:=by
   refine⟨I1.ok,I1.os,I1.bare,?_,I1.loc,I1.cell,?_,λx c e=>?_,λp hp=>?_,eG I1.hok fr ⟨by show 2<=sizeLine;decide,[.ref b,es[i].val],.cons rfl (.cons rv .nil),?_⟩,I1.len⟩
   ·have u:=I1.base;refine⟨u.keep,u.slot,λb' o' e n hx=>?_,u.there,λb' xs e=>?_,λb' o' u' e=>?_,λb' ps e=>?_⟩
    ·have ne:b'≠s.heap.objs.size:=Ie (HY (Ec e) I.sz);rw[av ne];exact u.free b' o' e n hx
    ·rw[av (au (u.agG b' xs e) fr)];exact u.agG b' xs e
    ·rw[av (au (u.afH b' o' u' e) fr)];exact u.afH b' o' u' e
    ·obtain⟨m,q⟩:=u.agR b' ps e;exact⟨m,by rw[av (au q fr)];exact q⟩
   ·rw[av (Ie I.lt)];exact I1.free
   ·obtain⟨v',q⟩:=I.cell x c e;rw[av (Ie q.lt)];exact I1.agK x c e
   ·obtain⟨e,n,r⟩:=I1.pin p hp;have lt:p.1<s.heap.objs.size:=Ec (I.pin p hp).1;exact⟨e,by rw[av (Ie lt)];exact n,r⟩
   ·exact⟨_,tup,rfl,0,by rw[<-eb]⟩
  refine⟨.ref s.heap.objs.size,_,I2,rfl,⟨s.heap.objs.size,b,k,v,hk,fr,hb,rfl,rfl⟩,⟨_,_,q5⟩,λb' JN=>?_⟩
  have e:b'=it:=by simpa using JN
  subst e;rw[av (Jm M5)];exact f0
 done:=by
  intro X hP hw hK hc i pins s σ H E I hf st hg;subst hP hw hK;obtain⟨JB,hd⟩:=hg;obtain⟨ok,ov,hit⟩:=st;obtain⟨es',NZ,JW,raw,hl,hm,QF⟩:=jo I hd;rw[ho] at JW
  cases JW
  obtain⟨f0,f1,f2,f3,f4,f5⟩:=hf it (by simp);exact MK.acM (I.ok.hd hc) hit raw (by omega) λh' eb=>⟨rfl,I.turned (t':=s.toks) (λb o hb e=>eb b o hb e) f0 f1 f3 f4 f5⟩
 self:=λA i s Q E st h=>by
  obtain⟨ok,ov,hit⟩:=st;exact kcp_self hit h
theorem adM {tg:Expr}(d it:Addr)(o:Obj)(Jt:List (List Key×V))(es:Array DictEntry)(ep:Nat)(ho:o.data=.dict es ep):Turn P w K tg (Ik d o Jt) [it] it (λi h=>h.IsKeyIter it d i es.size ep) where
 mem:=by simp
 obj:=λi h st b hb=>by
  have e:b=it:=by simpa using hb
  subst e;obtain⟨o,e,c,d⟩:=st;exact⟨o,e,λv z=>by rw[d] at z;cases z⟩
 keep:=λi h h' st k=>st.at λo e=>k it (by simp) o e
 item:=by
  intro X hP hw hK hc i pins s σ H E I hf st hg;subst hP hw hK;obtain⟨JB,hd⟩:=hg;obtain⟨es',NZ,JW,raw,hl,hm,QF⟩:=jo I hd;rw[ho] at JW
  cases JW
  obtain⟨f0,f1,f2,f3,f4,f5⟩:=hf it (by simp)
  have hi:i<es.size:=by omega
  refine MK.adF st raw hi λh' q1 q2=>?_;obtain⟨⟨k,v⟩,hk⟩:∃kv,Jt[i]?=some kv:=⟨Jt[i],by simp[JB]⟩;obtain⟨b,eb,hb,rv⟩:=QF i hi k v hk;have I1:Inv X pins σ H {s with heap:=h'}:=I.turned (t':=s.toks) (λb o hb e=>(q2.2 b hb).trans e) f0 f1 f3 f4 f5;obtain⟨oi,e,c,dd⟩:=id q1;exact⟨_,rfl,pX (s:={s with heap:=h'}) e c dd (by decide) ⟨.ref b,H,I1,eb,⟨b,k,v,hk,hb,rfl,rfl⟩,q1,λb hb=>(hf b hb).1⟩⟩
 done:=by
  intro X hP hw hK hc i pins s σ H E I hf st hg;subst hP hw hK;obtain⟨JB,hd⟩:=hg;obtain⟨es',NZ,JW,raw,hl,hm,QF⟩:=jo I hd;rw[ho] at JW
  cases JW
  obtain⟨f0,f1,f2,f3,f4,f5⟩:=hf it (by simp);exact MK.adG (I.ok.hd hc) st raw (by omega) λh' eb=>⟨rfl,I.turned (t':=s.toks) (λb o hb e=>eb b o hb e) f0 f1 f3 f4 f5⟩
 self:=λ_ _ _ _ _ st h=>wpAny_pyIter_keyiter st h
def Ir (H1:Hp)(d:Addr)(Jt:List (List Key×V))(R:Obj->Hp->Prop):Prop:=(∃o,H1 d=some (pP o Jt)/\R o H1)\/(H1 d=some (.dT Jt)/\∀o,R o (upd H1 d (pP o Jt)))
def adN (td:TE):TI:=λσ H R=>td σ H λx H1=>∃d Jt,x=.ref d/\Ir H1 d Jt λo H2=>R (Hu d o Jt) H2
def adO (td:TE):TI:=λσ H R=>td σ H λx H1=>∃d Jt,x=.ref d/\Ir H1 d Jt λo H2=>R (Ik d o Jt) H2
section
variable {X:Cx}{pins:List (Addr×Obj)}{σ:St}{H:Hp}{s:AL}
theorem zp {d:Addr}{Jt:List (List Key×V)}{R:Obj->Hp->Prop}(I:Inv X pins σ H s)(h:Ir H d Jt R):∃o H2,Inv X pins σ H2 s/\H2 d=some (pP o Jt)/\R o H2:=by
 rcases h with⟨o,e,r⟩|⟨e,r⟩
 ·exact⟨o,H,I,e,r⟩
 ·obtain⟨o,_,I2⟩:=I.freeze e;exact⟨o,_,I2,ah,r o⟩
theorem adQ {oe:Expr}{td:TE}{apos JG:Pos}(ho:PE X oe td)(KJ:attributeBase oe "items" X.env (eval oe X.env)=eval oe X.env:=by rfl)(KL:(apos.endLine==JG.line)=true:=by rfl):
 PI X (.Tuple elts x1 tp) (.Call (.Attribute oe "items" apos) [] [] JG) (adN td):=by
 intro pins s σ H R I h;refine wpAny_Call_method0_late KJ KL (bO (ho pins s σ H _ I h) λv s1 z'=>?_);obtain⟨x,H1,I1,r1,d,Jt,ex,fz⟩:=z';subst ex
 cases(show v=Value.ref d from r1)
 obtain⟨o,H2,I2,hd,rr⟩:=zp I1 fz;obtain⟨es,ep,Wq,raw,hl,hm,_⟩:=jo I2 hd;refine⟨"dict","dict.items",PySem.F.plainAttrs_dict,PySem.F.slot_dict_items,PySem.F.type_dict_items,raw.ty,λa e=>?_,tT rfl (PySem.evalArgs_none (MK.acq raw hm ?_))⟩
 ·cases e
  obtain⟨o',h1,h2,_⟩:=raw.ex;exact⟨o',h1,h2.2.1⟩
 ·have I3:Inv X pins σ H2 {s1 with heap:=s1.heap.push {cls:=.type "dict_items",data:=.fields #[.ref d]} }:=I2.kept (t':=s1.toks) λb ob q=>wa _ q;refine MK.acG (s:={s1 with heap:=s1.heap.push {cls:=.type "dict_items",data:=.fields #[.ref d]} }) ⟨_,Hr _ rfl,rfl,rfl⟩ (raw.keep λo e=>wa _ e) ?_;generalize s1.heap.push {cls:=.type "dict_items",data:=.fields #[.ref d]}=h2 at I3 |-;refine⟨h2.objs.size,[h2.objs.size],_,Hu d o Jt,H2,rfl,I3.kept (t':=s1.toks) λb ob q=>wa _ q,adI d _ o Jt es ep Wq,⟨_,_,Hr _ rfl⟩,λb hb=>?_,rr⟩
  have e:b=h2.objs.size:=by simpa using hb
  subst e;exact I3.aha (zC _) (I3.hok.fresh (zC _))
theorem aeb {tg oe:Expr}{td:TE}(ho:PE X oe td):PI X tg oe (adO td):=by
 intro pins s σ H R I h;refine bO (ho pins s σ H _ I h) λv s1 z'=>?_;obtain⟨x,H1,I1,r1,d,Jt,ex,fz⟩:=z';subst ex
 cases(show v=Value.ref d from r1)
 obtain⟨o,H2,I2,hd,rr⟩:=zp I1 fz;obtain⟨es,ep,Wq,raw,hl,hm,_⟩:=jo I2 hd;refine MK.ac8 raw hm ⟨s1.heap.objs.size,[s1.heap.objs.size],_,Ik d o Jt,H2,rfl,I2.kept (t':=s1.toks) λb ob q=>wa _ q,adM d _ o Jt es ep Wq,⟨_,Hr _ rfl,rfl,rfl⟩,λb hb=>?_,rr⟩
 have e:b=s1.heap.objs.size:=by simpa using hb
 subst e;exact I2.aha (zC _) (I2.hok.fresh (zC _))
theorem Inv.aiI {s2:AL}{T:Addr}{xs:List V}{its:yX}(I:Inv X pins σ H s)(I1:Inv X pins σ H s2)(hT:s.heap.objs.size<=T)(e:s2.heap.get? T=some {cls:=.type "tuple",data:=.seq its.toArray})(r:aR xs its)(hz:xs.length<=sizeLine):
 Inv X pins σ (upd H T (.tup xs)) s2:=by
 have fr:H T=none:=I.hok.fresh hT;refine⟨I1.ok,I1.os,I1.bare,?_,I1.loc,I1.cell,?_,λx c e=>?_,λp hp=>?_,eG I1.hok fr ⟨hz,its,r,⟨_,e,rfl,0,rfl⟩⟩,I1.len⟩
 ·have u:=I1.base;refine⟨u.keep,u.slot,λb' o' e n hx=>?_,u.there,λb' xs e=>?_,λb' o' u' e=>?_,λb' ps e=>?_⟩
  ·have ne:b'≠T:=Ie (HY (Ec e) (EW I.sz hT));rw[av ne];exact u.free b' o' e n hx
  ·rw[av (au (u.agG b' xs e) fr)];exact u.agG b' xs e
  ·rw[av (au (u.afH b' o' u' e) fr)];exact u.afH b' o' u' e
  ·obtain⟨m,q⟩:=u.agR b' ps e;exact⟨m,by rw[av (au q fr)];exact q⟩
 ·rw[av (Ie (HY I.lt hT))];exact I1.free
 ·obtain⟨v',q⟩:=I.cell x c e;rw[av (Ie (HY q.lt hT))];exact I1.agK x c e
 ·obtain⟨e,n,r⟩:=I1.pin p hp;have lt:p.1<s.heap.objs.size:=Ec (I.pin p hp).1;exact⟨e,by rw[av (Ie (HY lt hT))];exact n,r⟩
theorem Inv.ag3 {h':Heap}{t':Nat}{ch:List Addr}(I:Inv X pins σ H s)(k:∀b o,b∉ch->s.heap.get? b=some o->h'.get? b=some o)(hf:∀b∈ch,c7 X pins H b):Inv X pins σ H {s with heap:=h',toks:=t'}:=by
 have M5:∀b u,H b=some u->b∉ch:=λb u e z=>by rw[(hf b z).1] at e;cases e
 refine I.step (g':=s.gens) (d':=s.drawn) (ch:=ch) (λb hb=>?_) (λb o _ _ hc e _=>k b o hc e) (λb o _ _ hc e _=>⟨o.slots,k b o hc e⟩) (λ_ _ _ _ n=>n)
  (λb o hc e=>⟨o,k b o hc e⟩) (λ_ _ e=>e) (λ_ _ _ e=>e) (λb ps e=>⟨#[],by rw[e];simp⟩) (λm hm=>?_) (λb u e=>?_) I.bare
 ·obtain⟨f0,f1,f2,f3,f4,f5⟩:=hf b hb;exact⟨f3,f1,f4,f5⟩
 ·obtain⟨o,es,ep,ho,r⟩:=hm;exact⟨o,es,ep,k _ o (λz=>(hf _ z).2.1 rfl) ho,r⟩
 ·refine(I.hok b u e).ahP (λc v hc q=>k c v ?_ q) (λ_ q=>q) λ_ _ q=>q
  rcases hc with z|z
  ·rw[z];exact M5 b u e
  ·exact M5 c _ z
end
def Ex (K:Frag)(a:Addr):It :=
 ⟨λi H=>∃xs x,aV K H a xs/\xs[i]?=some x,λi H x H'=>∃T y,(∀xs,aV K H a xs->xs[i]?=some y)/\H T=none/\x=.ref T/\H'=upd H T (.tup [.int i,y]),λi H=>∃xs,aV K H a xs/\xs.length<=i⟩
theorem aec (a e it:Addr)(Kj:e≠it):Turn P w K (.Tuple elts x1 tp) (Ex K a) [e,it] e (λi h=>∃old,IsEnum h e it i old/\h.IsListIter it a i) where
 mem:=by simp
 obj:=λi h st b hb=>by
  obtain⟨old,h1,o,h2,_,h3⟩:=st
  rcases(by simpa using hb:b=e\/b=it) with z|z
  ·subst z;exact⟨_,h1,λv z=>by cases z⟩
  ·subst z;exact⟨o,h2,λv z=>by rw[h3] at z;cases z⟩
 keep:=λi h h' st k=>let⟨old,h1,h2⟩:=st;⟨old,k e (by simp) _ h1,h2.at λo q=>k it (by simp) o q⟩
 item:=by
  intro X hP hw hK hc i pins s σ H E I hf st hg;subst hP hw hK;obtain⟨xs,x,hq,hx⟩:=hg;obtain⟨its,rv,p,hz⟩:=I.list hq;obtain⟨u,hu,ru⟩:=rv.get hx;obtain⟨old,he,hit⟩:=st;refine wpAny_pyNext_enum_item he hit p.isList (x:=u) (by simpa using hu) Kj λh' q1 q2 q3 q4 q5=>?_;refine⟨_,rfl,wpAny_letOwnedTupleGo_enum (s:={s with heap:=h',toks:=s.toks+1}) q1 λh2 q6 q7=>?_⟩;have ZY:s.heap.objs.size≠e:=BL (Ec he)
  have I1:Inv X pins σ H {s with heap:=h2,toks:=s.toks+1}:=I.ag3 (t':=s.toks+1) (ch:=[e,it]) (λb o hb z=>by
   have JN:b≠e/\b≠it:=by simpa using hb
   exact(q7.2 b JN.1).trans (q5 b o JN.1 JN.2 z)) hf
  have tup:h2.get? s.heap.objs.size=some {cls:=.type "tuple",data:=.seq #[.int i s.toks,u]}:=(q7.2 _ ZY).trans q3;have fr:H s.heap.objs.size=none:=I.hok.fresh (zC _);have I2:=I.aiI (xs:=[.int i,x]) (its:=[.int i s.toks,u]) I1 (zC _) tup (.cons ⟨_,rfl⟩ (.cons ru .nil)) gR;refine⟨.ref s.heap.objs.size,_,I2,rfl,⟨s.heap.objs.size,x,λys hy=>by rw[I.agS hy hq];exact hx,fr,rfl,rfl⟩,⟨u,q6,q2.at λo q=>(q7.2 _ (Jm Kj)).trans q⟩,λb hb=>?_⟩
  have nb:b≠s.heap.objs.size:=by
   rcases(by simpa using hb:b=e\/b=it) with z|z
   ·subst z;exact Jm ZY
   ·subst z;obtain⟨o,q,_⟩:=hit;exact Ie (Ec q)
  rw[av nb];exact(hf b hb).1
 done:=by
  intro X hP hw hK hc i pins s σ H E I hf st hg;subst hP hw hK;obtain⟨xs,hq,hx⟩:=hg;obtain⟨its,rv,p,hz⟩:=I.list hq;have hl:=rv.length;obtain⟨old,he,hit⟩:=st;obtain⟨f0,f1,f2,f3,f4,f5⟩:=hf it (by simp);exact wpAny_pyNext_enum_end (I.ok.hd hc) he hit p.isList (by simp;omega) λh' eb=>⟨rfl,I.turned (t':=s.toks) (λb o hb e=>eb b o hb e) f0 f1 f3 f4 f5⟩
 self:=λ_ _ _ _ _ st h=>let⟨old,h1,_⟩:=st;wpAny_pyIter_enum h1 h
def aey (K:Frag)(tl:TE):TI:=λσ H R=>en tl HS σ H λvs H1=>∃a xs,vs=[.ref a]/\aV K H1 a xs/\R (Ex K a) H1
theorem jS {X:Cx}{l:Expr}{tl:TE}{p pos:Pos}(hl:PE X l tl)(hg:Gl X "enumerate")(hm:X.mg "enumerate"=none)(hs:fA l=false:=by rfl):
 PI X (.Tuple elts x1 tp) (.Call (.Name "enumerate" p) [l] [] pos) (aey X.K tl):=by
 intro pins s σ H R I h;refine vU (dU I hg hm (by rfl) ?_ (by decide) (by decide));refine CC (bO (ai hl af hs pos pins s σ H _ I h) λus s1 z'=>?_) (aU hs) rfl;obtain⟨vs,H1,I1,r1,a,xs,hv,hq,rr⟩:=z';subst hv;obtain⟨u,rfl,ru⟩:=gh r1
 cases(show u=Value.ref a from ru)
 obtain⟨its,rv,pl,hz⟩:=I1.list hq;refine call_enumerate_list pl.isList λh' q1 q2 q3 q4=>?_;have I2:Inv X pins σ H1 {s1 with heap:=h'}:=I1.kept (t':=s1.toks) q4;refine wpAny_pyIter_enum (s:={s1 with heap:=h'}) q1 ?_;refine⟨s1.heap.objs.size+1,[s1.heap.objs.size+1,s1.heap.objs.size],_,Ex X.K a,H1,rfl,I2,aec a _ _ (vP _),⟨_,q1,q2⟩,λb hb=>?_,rr⟩
 have JN:s1.heap.objs.size<=b:=by
  rcases(by simpa using hb:b=s1.heap.objs.size+1\/b=s1.heap.objs.size) with z|z
  ·rw[z];exact jL _
  ·rw[z];exact zC _
 exact I1.aha JN (I1.hok.fresh JN)
end L2
namespace Zp
open PySem PyProof.Rows
section
variable {prog:Iy}{w:World}{A:Around}{E:Bf}{s:AL}
theorem lM {it t:Addr}{i:Nat}{items:EV}{x:Value}{Q:Bf}(hit:s.heap.IsTupleIter it t i)(ht:s.heap.IsTuple t items)(hx:items[i]?=some x)
 (hQ:∀h',h'.IsTupleIter it t (i+1)->Heap.SameBut it s.heap h'->Q x {s with heap:=h'}):wpAny (model prog w) A (Builtin.SmallTypes.nextOf (.ref it)) Q E s:=by
 obtain⟨o,ho,hc,hd⟩:=id hit;obtain⟨ol,QG,_,nl,Wr⟩:=ht;unfold Builtin.SmallTypes.nextOf;refine C7 (iW (name:=Str.ofString "__next__") hit.typeIs Ap (xH Ap hit.typeIs F.entry_tuple_iterator_next ?_ (xi _)));show wpAny _ _ (field (.ref it) 0>>=_) _ _ s;refine C7 (HE ho hd (x:=.ref t) rfl ?_);show wpAny _ _ (if(Value.ref t==Value.none)=true then _ else _) _ _ s;rw[qM (show ¬((Value.ref t==Value.none)=true) from IA)];show wpAny _ _ (field (.ref it) 1>>=_) _ _ s;refine C7 (HE ho hd (x:=.int i 0) rfl ?_);show wpAny _ _ (seqItems? (.ref t)>>=_) _ _ s;refine C7 (Gq QG Wr ?_);simp only[F5,hx];refine C7 (mq ho hd (by simp) (pO ⟨x,rfl,pO (hQ _ ?_ (GO ..))⟩));exact⟨_,mD _ ho (vz (Bl hd _)),(FO ..).trans hc,by rw[Bl hd];simp[rawInt]⟩
theorem ua {it t:Addr}{i:Nat}{items:EV}{Q:Bf}(hh:A.handled=none)(hit:s.heap.IsTupleIter it t i)(ht:s.heap.IsTuple t items)(hx:items[i]?=none)
 (hE:∀h' e,Heap.ExtBut it s.heap h'->(∃o,h'.get? e=some o/\o.cls=.type "StopIteration")->E (.ref e) {s with heap:=h'}):wpAny (model prog w) A (Builtin.SmallTypes.nextOf (.ref it)) Q E s:=by
 obtain⟨o,ho,hc,hd⟩:=id hit;obtain⟨ol,QG,_,nl,Wr⟩:=ht;unfold Builtin.SmallTypes.nextOf;refine C7 (iW (name:=Str.ofString "__next__") hit.typeIs Ap (xH Ap hit.typeIs F.entry_tuple_iterator_next ?_ (xi _)));show wpAny _ _ (field (.ref it) 0>>=_) _ _ s;refine C7 (HE ho hd (x:=.ref t) rfl ?_);show wpAny _ _ (if(Value.ref t==Value.none)=true then _ else _) _ _ s;rw[qM (show ¬((Value.ref t==Value.none)=true) from IA)];show wpAny _ _ (field (.ref it) 1>>=_) _ _ s;refine C7 (HE ho hd (x:=.int i 0) rfl ?_);show wpAny _ _ (seqItems? (.ref t)>>=_) _ _ s;refine C7 (Gq QG Wr ?_);simp only[F5,hx];refine C7 (wD (C7 (mq ho hd (by simp) ?_)));show wpAny _ _ (newExc (.type "StopIteration") []>>=_) _ _ _;refine C7 ?_;simp only[newExc,newTuple];refine C7 (Dr ?_ (by size_fits));refine C7 (m:=firstArgMember _ _) (xc (a:=Value.none) (by first|rfl|(simp only[firstArgMember];rfl)) ?_);refine Dr ?_ (by size_fits);simp only[raiseNew];refine C7 (Dk ?_)
 first|rw[show A.in1.handled=none from hh]|rw[hh]
 refine C7 (pO (wpAny_throw ?_));exact hE _ _ (((GO ..).extBut.push _).push _) ⟨_,Hr _ rfl,rfl⟩
end
structure Apart (z TI TO i1 i2 l1 l2:Addr):Prop where
 TIz:TI≠z
 TOz:TO≠z
 i1z:i1≠z
 i2z:i2≠z
 TITO:TI≠TO
 TIi1:TI≠i1
 TIi2:TI≠i2
 TOi1:TO≠i1
 TOi2:TO≠i2
 i12:i1≠i2
 l1n:l1 ∉ [z,TO,i1,i2]
 l2n:l2 ∉ [z,TO,i1,i2]
structure Zs (h:Heap)(z TI TO i1 i2 l1 l2:Addr)(k:Nat):Prop where
 hz:IsZip h z TI TO .none
 hTI:IsPair h TI (.ref i1) (.ref i2)
 ML:∃a b,IsPair h TO a b
 h1:h.IsTupleIter i1 l1 k
 h2:h.IsTupleIter i2 l2 k
theorem dI {h h':Heap}{i l:Addr}{k:Nat}(x:h.IsTupleIter i l k)(q:∀o,h.get? i=some o->h'.get? i=some o):h'.IsTupleIter i l k:=let⟨o,a,b⟩:=x;⟨o,q o a,b⟩
section
variable {prog:Iy}{w:World}{A:Around}{E:Bf}{s:AL}{z TI TO i1 i2 l1 l2:Addr}{k:Nat}{xs ys:EV}{x y:Value}
theorem item {Q:Bf}(D:Apart z TI TO i1 i2 l1 l2)(Z:Zs s.heap z TI TO i1 i2 l1 l2 k)(JV:s.heap.IsTuple l1 xs)(J8:s.heap.IsTuple l2 ys)(hx:xs[k]?=some x)(hy:ys[k]?=some y)
 (hQ:∀h',IsZip h' z TI TO (rawInt s.heap.objs.size)->(∃a b,IsPair h' TO a b)->h'.IsTupleIter i1 l1 (k+1)->h'.IsTupleIter i2 l2 (k+1)->IsPair h' s.heap.objs.size x y →
  (∀c o,c ∉ [z,TO,i1,i2]->s.heap.get? c=some o->h'.get? c=some o)->Q (.ref s.heap.objs.size) {s with heap:=h'}):
 wpAny (model prog w) A (Builtin.«zip.__next__» ⟨[.ref z],[]⟩) (λfin s'=>∃v,fin=.done (.ret v)/\Q v s') E s:=by
 obtain⟨hz,hTI,⟨a,b,ML⟩,h1,h2⟩:=Z
 have n1:l1≠z/\l1≠TO/\l1≠i1/\l1≠i2:=by simpa using D.l1n
 have n2:l2≠z/\l2≠TO/\l2≠i1/\l2≠i2:=by simpa using D.l2n
 show wpAny _ _ (field (.ref z) 2>>=_) _ _ _;refine C7 (HE hz rfl (x:=.bool false) rfl ?_);show wpAny _ _ (field (.ref z) 3>>=_) _ _ _;refine C7 (HE hz rfl (x:=.ref TI) rfl ?_);refine C7 (Gq hTI rfl ?_);show wpAny _ _ (Builtin.SmallTypes.ownedTupleIsFree (.ref z)>>=_) _ _ _;refine C7 ?_;unfold Builtin.SmallTypes.ownedTupleIsFree;refine C7 (HE hz rfl (x:=.none) rfl (pO ?_));simp only[En];refine C7 (wD ?_);refine C7 (HE hz rfl (x:=.ref TO) rfl ?_);refine C7 (se hz (by simp) λg1 Mr s1=>?_)
 replace Mr:IsZip g1 z TI TO .ellipsis:=Mr
 refine C7 ?_;simp only[List.zipIdx_cons,List.zipIdx_nil,BH,List.forIn_nil];refine C7 (C7 (xS ?_));show wpAny _ _ (Builtin.SmallTypes.nextOf (.ref i1)>>=_) _ _ _;refine C7 (lM (h1.extBut s1.extBut D.i1z) (JV.extBut s1.extBut n1.1) hx λg2 a2 s2=>pO ?_);have t2:IsPair g2 TO a b:=s2.extBut _ _ D.TOi1 (s1.extBut _ _ D.TOz ML);refine C7 (Gq t2 rfl ?_);refine C7 (yW t2 λg3 t3 s3=>?_)
 replace t3:IsPair g3 TO x b:=t3
 refine C7 (we (pO ?_));refine C7 (C7 (xS ?_));show wpAny _ _ (Builtin.SmallTypes.nextOf (.ref i2)>>=_) _ _ _;refine C7 (lM (((h2.extBut s1.extBut D.i2z).extBut s2.extBut D.i12.symm).extBut s3.extBut D.TOi2.symm) (((J8.extBut s1.extBut n2.1).extBut s2.extBut n2.2.2.1).extBut s3.extBut n2.2.1) hy λg4 a4 s4=>pO ?_);have t4:IsPair g4 TO x b:=s4.extBut _ _ D.TOi2 t3;refine C7 (Gq t4 rfl ?_);refine C7 (yW t4 λg5 t5 s5=>?_)
 replace t5:IsPair g5 TO x y:=t5
 refine C7 (we (pO (pO ?_)));refine C7 (Gq t5 rfl ?_);refine C7 (wpAny_newTuple ?_)
 have sz:g5.objs.size=s.heap.objs.size:=by rw[s5.1,s4.1,s3.1,s2.1,s1.1]
 have z5:IsZip g5 z TI TO .ellipsis:=s5.extBut _ _ D.TOz.symm (s4.extBut _ _ D.i2z.symm (s3.extBut _ _ D.TOz.symm (s2.extBut _ _ D.i1z.symm Mr)))
 have k5:∀c o,c ∉ [z,TO,i1,i2]->s.heap.get? c=some o->g5.get? c=some o:=λc o hc e=>by
  have JI:c≠z/\c≠TO/\c≠i1/\c≠i2:=by simpa using hc
  exact s5.extBut _ _ JI.2.1 (s4.extBut _ _ JI.2.2.2 (s3.extBut _ _ JI.2.1 (s2.extBut _ _ JI.2.2.1 (s1.extBut _ _ JI.1 e))))
 have a5:g5.IsTupleIter i1 l1 (k+1):=((a2.extBut s3.extBut D.TOi1.symm).extBut s4.extBut D.i12).extBut s5.extBut D.TOi1.symm;have b5:g5.IsTupleIter i2 l2 (k+1):=a4.extBut s5.extBut D.TOi2.symm;have ZZ:z<g5.objs.size:=Ec z5;show wpAny _ _ (Builtin.SmallTypes.ownedTupleHandOut (.ref z) (.ref g5.objs.size)>>=_) _ _ _;refine C7 ?_;unfold Builtin.SmallTypes.ownedTupleHandOut;have z6:IsZip (g5.push {cls:=.type "tuple",data:=.seq #[x,y]}) z TI TO .ellipsis:=wa _ z5;refine C7 (se z6 (by simp) λg7 z7 s7=>?_)
 replace z7:IsZip g7 z TI TO (rawInt g5.objs.size):=z7
 refine se z7 (by simp) λg8 z8 s8=>?_
 replace z8:IsZip g8 z TI TO (rawInt g5.objs.size):=z8
 have up:∀c o,c≠z->g5.get? c=some o->g8.get? c=some o:=λc o c1 e=>s8.extBut _ _ c1 (s7.extBut _ _ c1 (wa _ e));have t8:IsPair g8 g5.objs.size x y:=s8.extBut _ _ (BL ZZ) (s7.extBut _ _ (BL ZZ) (Hr _ rfl));rw[sz] at z8 t8;refine pO ⟨_,rfl,?_⟩;show Q (.ref g5.objs.size) _;rw[sz];exact hQ g8 z8 ⟨x,y,up _ _ D.TOz t5⟩ (dI a5 λo e=>up _ o D.i1z e) (dI b5 λo e=>up _ o D.i2z e) t8 λc o hc e=>up c o (λq=>hc (by simp[q])) (k5 c o hc e)
theorem aeD {Q:Fin->Shared->Prop}(hh:A.handled=none)(D:Apart z TI TO i1 i2 l1 l2)(Z:Zs s.heap z TI TO i1 i2 l1 l2 k)(JV:s.heap.IsTuple l1 xs)(J8:s.heap.IsTuple l2 ys)(LG:xs[k]?=none\/ys[k]?=none)
 (hE:∀h' e,(∀c o,c ∉ [z,TO,i1,i2]->s.heap.get? c=some o->h'.get? c=some o)->(∃o,h'.get? e=some o/\o.cls=.type "StopIteration")->E (.ref e) {s with heap:=h'}):
 wpAny (model prog w) A (Builtin.«zip.__next__» ⟨[.ref z],[]⟩) Q E s:=by
 obtain⟨hz,hTI,⟨a,b,ML⟩,h1,h2⟩:=Z
 have n1:l1≠z/\l1≠TO/\l1≠i1/\l1≠i2:=by simpa using D.l1n
 have n2:l2≠z/\l2≠TO/\l2≠i1/\l2≠i2:=by simpa using D.l2n
 show wpAny _ _ (field (.ref z) 2>>=_) _ _ _;refine C7 (HE hz rfl (x:=.bool false) rfl ?_);show wpAny _ _ (field (.ref z) 3>>=_) _ _ _;refine C7 (HE hz rfl (x:=.ref TI) rfl ?_);refine C7 (Gq hTI rfl ?_);show wpAny _ _ (Builtin.SmallTypes.ownedTupleIsFree (.ref z)>>=_) _ _ _;refine C7 ?_;unfold Builtin.SmallTypes.ownedTupleIsFree;refine C7 (HE hz rfl (x:=.none) rfl (pO ?_));simp only[En];refine C7 (wD ?_);refine C7 (HE hz rfl (x:=.ref TO) rfl ?_);refine C7 (se hz (by simp) λg1 Mr s1=>?_)
 replace Mr:IsZip g1 z TI TO .ellipsis:=Mr
 refine C7 ?_;simp only[List.zipIdx_cons,List.zipIdx_nil,BH,List.forIn_nil];refine C7 (C7 (xS ?_));show wpAny _ _ (Builtin.SmallTypes.nextOf (.ref i1)>>=_) _ _ _
 cases hx:xs[k]? with
 |none =>
  refine C7 (ua hh (h1.extBut s1.extBut D.i1z) (JV.extBut s1.extBut n1.1) hx λg2 e s2 he=>?_);obtain⟨oe,Oe,QH⟩:=he;have z2:IsZip g2 z TI TO .ellipsis:=s2 _ _ D.i1z.symm Mr
  have ez:e≠z:=λq=>by subst q;rw[z2] at Oe;cases Oe;simp at QH
  refine se z2 (by simp) λg3 _ s3=>hE g3 e (λc o hc q=>?_) ⟨oe,s3.extBut _ _ ez Oe,QH⟩
  have JI:c≠z/\c≠TO/\c≠i1/\c≠i2:=by simpa using hc
  exact s3.extBut _ _ JI.1 (s2 _ _ JI.2.2.1 (s1.extBut _ _ JI.1 q))
 |some x =>
  have hy:ys[k]?=none:=by
   rcases LG with h|h
   ·rw[hx] at h;cases h
   ·exact h
  refine C7 (lM (h1.extBut s1.extBut D.i1z) (JV.extBut s1.extBut n1.1) hx λg2 a2 s2=>pO ?_);have t2:IsPair g2 TO a b:=s2.extBut _ _ D.TOi1 (s1.extBut _ _ D.TOz ML);refine C7 (Gq t2 rfl ?_);refine C7 (yW t2 λg3 t3 s3=>?_);refine C7 (we (pO ?_));refine C7 (C7 (xS ?_));show wpAny _ _ (Builtin.SmallTypes.nextOf (.ref i2)>>=_) _ _ _;refine C7 (ua hh (((h2.extBut s1.extBut D.i2z).extBut s2.extBut D.i12.symm).extBut s3.extBut D.TOi2.symm) (((J8.extBut s1.extBut n2.1).extBut s2.extBut n2.2.2.1).extBut s3.extBut n2.2.1) hy λg4 e s4 he=>?_);obtain⟨oe,Oe,QH⟩:=he;have z4:IsZip g4 z TI TO .ellipsis:=s4 _ _ D.i2z.symm (s3.extBut _ _ D.TOz.symm (s2.extBut _ _ D.i1z.symm Mr))
  have ez:e≠z:=λq=>by subst q;rw[z4] at Oe;cases Oe;simp at QH
  refine se z4 (by simp) λg5 _ s5=>hE g5 e (λc o hc q=>?_) ⟨oe,s5.extBut _ _ ez Oe,QH⟩
  have JI:c≠z/\c≠TO/\c≠i1/\c≠i2:=by simpa using hc
  exact s5.extBut _ _ JI.1 (s4 _ _ JI.2.2.2 (s3.extBut _ _ JI.2.1 (s2.extBut _ _ JI.2.2.1 (s1.extBut _ _ JI.1 q))))
theorem jw {Q:Option Value->Shared->Prop}(D:Apart z TI TO i1 i2 l1 l2)(Z:Zs s.heap z TI TO i1 i2 l1 l2 k)(JV:s.heap.IsTuple l1 xs)(J8:s.heap.IsTuple l2 ys)(hx:xs[k]?=some x)(hy:ys[k]?=some y)
 (hQ:∀h',IsZip h' z TI TO (rawInt s.heap.objs.size)->(∃a b,IsPair h' TO a b)->h'.IsTupleIter i1 l1 (k+1)->h'.IsTupleIter i2 l2 (k+1)->IsPair h' s.heap.objs.size x y →
  (∀c o,c ∉ [z,TO,i1,i2]->s.heap.get? c=some o->h'.get? c=some o)->Q (some (.ref s.heap.objs.size)) {s with heap:=h'}):
 wpAny (model prog w) A (pyNext (.ref z)) Q E s:=by
 have hT:s.TypeIs (.ref z) "zip":=⟨_,Z.hz,rfl⟩;unfold pyNext
 exact C7 (rP (iW (name:=Str.ofString "__next__") hT Ba
  (xH Ba hT F.entry_zip_next (item D Z JV J8 hx hy λh' a1 a2 a3 a4 a5 a6=>pO (hQ h' a1 a2 a3 a4 a5 a6)) (F.args_zip_next_1 _))))
theorem jv {Q:Option Value->Shared->Prop}(hh:A.handled=none)(D:Apart z TI TO i1 i2 l1 l2)(Z:Zs s.heap z TI TO i1 i2 l1 l2 k)(JV:s.heap.IsTuple l1 xs)(J8:s.heap.IsTuple l2 ys)(LG:xs[k]?=none\/ys[k]?=none)
 (hQ:∀h',(∀c o,c ∉ [z,TO,i1,i2]->s.heap.get? c=some o->h'.get? c=some o)->Q none {s with heap:=h'}):wpAny (model prog w) A (pyNext (.ref z)) Q E s:=by
 have hT:s.TypeIs (.ref z) "zip":=⟨_,Z.hz,rfl⟩;unfold pyNext
 refine C7 (rP (iW (name:=Str.ofString "__next__") hT Ba
  (xH Ba hT F.entry_zip_next (aeD hh D Z JV J8 LG λh' e hk he=>?_) (F.args_zip_next_1 _))))
 obtain⟨o,ho,hc⟩:=he;refine C7 (yB (T:="StopIteration") (b:=true) ⟨o,ho,hc⟩ AW ?_);exact pO (hQ _ hk)
end
abbrev g1 (h:Heap)(l1:Addr):Heap:=h.push {cls:=.type "tuple_iterator",data:=.fields #[.ref l1,.int 0 0]}
abbrev g2 (h:Heap)(l1 l2:Addr):Heap:=(g1 h l1).push {cls:=.type "tuple_iterator",data:=.fields #[.ref l2,.int 0 0]}
abbrev g3 (h:Heap)(l1 l2:Addr):Heap:=(g2 h l1 l2).push {cls:=.type "tuple",data:=.seq #[.ref h.objs.size,.ref (g1 h l1).objs.size]}
abbrev g4 (h:Heap)(l1 l2:Addr):Heap:=(g3 h l1 l2).push {cls:=.type "tuple",data:=.seq #[.none,.none]}
abbrev g5 (h:Heap)(l1 l2:Addr):Heap:=(g4 h l1 l2).push {cls:=.type "zip",data:=.fields #[.none,.bool false,.bool false,.ref (g2 h l1 l2).objs.size,.ref (g3 h l1 l2).objs.size]}
theorem aeE (l1 l2:Addr)(xs ys:EV):
 Meets (Builtin.«zip.__new__» ⟨[.type "zip",.ref l1,.ref l2],[]⟩) (λ_ R s=>s.heap.IsTuple l1 xs/\s.heap.IsTuple l2 ys/\R (.ok (.ret (.ref (g4 s.heap l1 l2).objs.size))) {s with heap:=g5 s.heap l1 l2}):=
 .of_wp λprog w A R s h=>by
  obtain⟨hp,g,d,tk,os⟩:=s;obtain⟨JV,J8,h⟩:=h;have acr:=sub_zip;have Vt:Heap.IsTuple (Shared.heap ⟨hp,g,d,tk,os⟩) l1 xs:=JV;have Ws:Heap.IsTuple (Shared.heap ⟨hp.push {cls:=.type "tuple_iterator",data:=.fields #[.ref l1,.int 0 0]},g,d,tk,os⟩) l2 ys:=Heap.IsTuple.push J8 _
  wp_walk using Hx Vt,Hx Ws
  exact⟨_,rfl,h⟩
section
variable {prog:Iy}{w:World}{A:Around}{E:Bf}{s:AL}
theorem yZ {l1 l2:Addr}{xs ys:EV}{Q:Bf}(JV:s.heap.IsTuple l1 xs)(J8:s.heap.IsTuple l2 ys)
 (h:∀h',Zs h' (s.heap.objs.size+4) (s.heap.objs.size+2) (s.heap.objs.size+3) s.heap.objs.size (s.heap.objs.size+1) l1 l2 0->(∀c o,s.heap.get? c=some o->h'.get? c=some o)->Q (.ref (s.heap.objs.size+4)) {s with heap:=h'}):
 wpAny (model prog w) A (call (.type "zip") [.ref l1,.ref l2]) Q E s:=by
 refine callType_new F.called_zip (by decide) (F.typeCall_zip_2 _ _) (F.newCall_zip_2 _ _) (λobj=>F.args_object_init_3 obj _ _) F.entry_zip_new (aeE l1 l2 xs ys) ⟨JV,J8,?_⟩;have z1:(g1 s.heap l1).objs.size=s.heap.objs.size+1:=DG ..
 have z2:(g2 s.heap l1 l2).objs.size=s.heap.objs.size+2:=by rw[DG,z1]
 have z3:(g3 s.heap l1 l2).objs.size=s.heap.objs.size+3:=by rw[DG,z2]
 have z4:(g4 s.heap l1 l2).objs.size=s.heap.objs.size+4:=by rw[DG,z3]
 have q5:(g5 s.heap l1 l2).get? (g4 s.heap l1 l2).objs.size=some _:=Hr _ rfl;have q4:(g5 s.heap l1 l2).get? (g3 s.heap l1 l2).objs.size=some _:=wa _ (Hr _ rfl);have q3:(g5 s.heap l1 l2).get? (g2 s.heap l1 l2).objs.size=some _:=wa _ (wa _ (Hr _ rfl));have q2:(g5 s.heap l1 l2).get? (g1 s.heap l1).objs.size=some _:=wa _ (wa _ (wa _ (Hr _ rfl)));have q1:(g5 s.heap l1 l2).get? s.heap.objs.size=some _:=wa _ (wa _ (wa _ (wa _ (Hr _ rfl))));show _/\_;rw[z2,z3,z4] at q5;rw[z1,z2] at q3;rw[z3] at q4;rw[z1] at q2;rw[z4];exact⟨⟨_,q5,rfl⟩,h _ ⟨q5,q3,⟨_,_,q4⟩,⟨_,q1,rfl,rfl⟩,⟨_,q2,rfl,rfl⟩⟩ λc o e=>wa _ (wa _ (wa _ (wa _ (wa _ e))))⟩
end
theorem a8 {a b:Nat}(h:a≠b):(a:Addr)≠b:=h
theorem lL (n a b:Nat)(ha:a<n)(hb:b<n):Apart (n+4) (n+2) (n+3) n (n+1) a b:=by
 refine⟨a8 ?_,a8 ?_,a8 ?_,a8 ?_,a8 ?_,a8 ?_,a8 ?_,a8 ?_,a8 ?_,a8 ?_,?_,?_⟩
 any_goals omega
 ·simp only[BN,xM,EO,ze];exact⟨a8 (by omega),a8 (by omega),a8 (by omega),a8 (by omega)⟩
 ·simp only[BN,xM,EO,ze];exact⟨a8 (by omega),a8 (by omega),a8 (by omega),a8 (by omega)⟩
end Zp
namespace L2
open PySem PySem.Spec PyProof.Rows PySem.W
def GQ (K:Frag)(a b:Addr):It :=
 ⟨λi H=>∃xs ys x y,bf K H a xs/\bf K H b ys/\xs[i]?=some x/\ys[i]?=some y,
  λi H v H'=>∃T x y,(∀xs,bf K H a xs->xs[i]?=some x)/\(∀ys,bf K H b ys->ys[i]?=some y)/\H T=none/\v=.ref T/\H'=upd H T (.tup [x,y]),
  λi H=>∃xs ys,bf K H a xs/\bf K H b ys/\(xs.length<=i\/ys.length<=i)⟩
theorem afa {P:Iy}{w:World}{K:Frag}{elts:vH}{x1:Nat}{tp:Pos}{a b z TI TO i1 i2:Addr}(D:Zp.Apart z TI TO i1 i2 a b):
 Turn P w K (.Tuple elts x1 tp) (GQ K a b) [z,TO,i1,i2,TI] z (λi h=>Zp.Zs h z TI TO i1 i2 a b i) where
 mem:=by simp
 obj:=λi h st c hb=>by
  obtain⟨h1,h2,⟨_,_,h3⟩,⟨o4,h4,_,d4⟩,⟨o5,h5,_,d5⟩⟩:=st
  rcases(by simpa using hb:c=z\/c=TO\/c=i1\/c=i2\/c=TI) with q|q|q|q|q
  ·subst q;exact⟨_,h1,λv q=>by cases q⟩
  ·subst q;exact⟨_,h3,λv q=>by cases q⟩
  ·subst q;exact⟨_,h4,λv q=>by rw[d4] at q;cases q⟩
  ·subst q;exact⟨_,h5,λv q=>by rw[d5] at q;cases q⟩
  ·subst q;exact⟨_,h2,λv q=>by cases q⟩
 keep:=λi h h' st k=>by
  obtain⟨h1,h2,⟨_,_,h3⟩,h4,h5⟩:=st;exact⟨k z (by simp) _ h1,k TI (by simp) _ h2,⟨_,_,k TO (by simp) _ h3⟩,Zp.dI h4 λo q=>k i1 (by simp) o q,Zp.dI h5 λo q=>k i2 (by simp) o q⟩
 item:=by
  intro X hP hw hK hc i pins s σ H E I hf st hg;subst hP hw hK;obtain⟨xs,ys,x,y,hq,hr,hx,hy⟩:=hg;obtain⟨its,rv,p,hz⟩:=I.tuple hq;obtain⟨Nc,J5,p',QI⟩:=I.tuple hr;obtain⟨u,hu,ru⟩:=rv.get hx;obtain⟨v,hv,Of⟩:=J5.get hy;refine Zp.jw D st (show s.heap.IsTuple a its.toArray from p) (show s.heap.IsTuple b Nc.toArray from p') (x:=u) (y:=v) (by simpa using hu) (by simpa using hv) λh' q1 q2 q3 q4 q5 q6=>?_;refine⟨_,rfl,wpAny_letOwnedTupleGo_zip (s:={s with heap:=h'}) q1 λh2 q7 q8=>?_⟩;have lt:∀c o,s.heap.get? c=some o->c≠s.heap.objs.size:=λc o e=>Ie (Ec e)
  have I1:Inv X pins σ H {s with heap:=h2}:=I.ag3 (t':=s.toks) (ch:=[z,TO,i1,i2]) (λc o hc e=>(q8.2 c λq=>hc (by simp[q])).trans (q6 c o hc e)) λc hc=>hf c (by
   rcases(by simpa using hc:c=z\/c=TO\/c=i1\/c=i2) with q|q|q|q <;> simp[q])
  have nz:s.heap.objs.size≠z:=Jm (lt z _ st.hz);have tup:h2.get? s.heap.objs.size=some {cls:=.type "tuple",data:=.seq #[u,v]}:=(q8.2 _ nz).trans q5;have fr:H s.heap.objs.size=none:=I.hok.fresh (zC _);have I2:=I.aiI (xs:=[x,y]) (its:=[u,v]) I1 (zC _) tup (.cons ru (.cons Of .nil)) gR;have up:∀c o,c≠z->h'.get? c=some o->h2.get? c=some o:=λc o hc e=>(q8.2 c hc).trans e;obtain⟨aa,bb,q2⟩:=q2;have Og:IsPair h' TI (.ref i1) (.ref i2):=q6 TI _ (by simp only[BN,xM,EO,ze];exact⟨D.TIz,D.TITO,D.TIi1,D.TIi2⟩) st.hTI
  refine⟨.ref s.heap.objs.size,_,I2,rfl,⟨s.heap.objs.size,x,y,λzs Ms=>by rw[I.agW Ms hq];exact hx,λzs Ms=>by rw[I.agW Ms hr];exact hy,fr,rfl,rfl⟩,
   ⟨q7,up _ _ D.TIz Og,⟨aa,bb,up _ _ D.TOz q2⟩,Zp.dI q3 λo e=>up _ o D.i1z e,Zp.dI q4 λo e=>up _ o D.i2z e⟩,λc hb=>?_⟩
  have nb:c≠s.heap.objs.size:=by
   obtain⟨h1,h2,⟨_,_,h3⟩,⟨o4,h4,_,d4⟩,⟨o5,h5,_,d5⟩⟩:=st
   rcases(by simpa using hb:c=z\/c=TO\/c=i1\/c=i2\/c=TI) with q|q|q|q|q <;> subst q
   ·exact lt _ _ h1
   ·exact lt _ _ h3
   ·exact lt _ _ h4
   ·exact lt _ _ h5
   ·exact lt _ _ h2
  rw[av nb];exact(hf c hb).1
 done:=by
  intro X hP hw hK hc i pins s σ H E I hf st hg;subst hP hw hK;obtain⟨xs,ys,hq,hr,hx⟩:=hg;obtain⟨its,rv,p,hz⟩:=I.tuple hq;obtain⟨Nc,J5,p',QI⟩:=I.tuple hr;have l1:=rv.length;have l2:=J5.length
  refine Zp.jv (I.ok.hd hc) D st (show s.heap.IsTuple a its.toArray from p) (show s.heap.IsTuple b Nc.toArray from p') (by
   rcases hx with q|q
   ·left;simp;omega
   ·right;simp;omega) λh' q=>⟨rfl,?_⟩
  exact I.ag3 (t':=s.toks) (ch:=[z,TO,i1,i2]) q λc hc=>hf c (by
   rcases(by simpa using hc:c=z\/c=TO\/c=i1\/c=i2) with q|q|q|q <;> simp[q])
 self:=λ_ _ _ _ _ st h=>xv st.hz h
def ahm (K:Frag)(ta tb:TE):TI:=λσ H R=>en ta (en tb HS) σ H λvs H1=>∃a b xs ys,vs=[.ref a,.ref b]/\bf K H1 a xs/\bf K H1 b ys/\R (GQ K a b) H1
theorem agL {X:Cx}{ea eb:Expr}{ta tb:TE}{elts:vH}{x1:Nat}{tp p pos:Pos}(ha:PE X ea ta)(hb:PE X eb tb)(hg:Gl X "zip")(hm:X.mg "zip"=none)(hs:fA ea=false:=by rfl)(LH:fA eb=false:=by rfl):
 PI X (.Tuple elts x1 tp) (.Call (.Name "zip" p) [ea,eb] [] pos) (ahm X.K ta tb):=by
 intro pins s σ H R I h;refine vU (dU I hg hm (by rfl) ?_ (by decide) (by decide));refine CC (bO (ai ha (ai hb af LH) hs pos pins s σ H _ I h) λus s1 z'=>?_) (aU hs) (by rw[aU LH];rfl);obtain⟨vs,H1,I1,r1,a,b,xs,ys,hv,hq,hr,rr⟩:=z';subst hv;obtain⟨u,u',rfl,ru,Of⟩:=uR r1
 cases(show u=Value.ref a from ru)
 cases(show u'=Value.ref b from Of)
 obtain⟨its,rv,pl,hz⟩:=I1.tuple hq;obtain⟨Nc,J5,QJ,QI⟩:=I1.tuple hr;refine Zp.yZ (show s1.heap.IsTuple a its.toArray from pl) (show s1.heap.IsTuple b Nc.toArray from QJ) λh' q1 q4=>?_;have I2:Inv X pins σ H1 {s1 with heap:=h'}:=I1.kept (t':=s1.toks) q4
 have la:a<s1.heap.objs.size:=by obtain⟨o,e,_⟩:=pl;exact Ec e
 have lb:b<s1.heap.objs.size:=by obtain⟨o,e,_⟩:=QJ;exact Ec e
 refine xv (s:={s1 with heap:=h'}) q1.hz ?_;refine⟨s1.heap.objs.size+4,[s1.heap.objs.size+4,s1.heap.objs.size+3,s1.heap.objs.size,s1.heap.objs.size+1,s1.heap.objs.size+2],_,GQ X.K a b,H1,rfl,I2,afa (Zp.lL _ _ _ la lb),q1,λc hc=>?_,rr⟩
 have JN:s1.heap.objs.size<=c:=by
  rcases(by simpa using hc:c=s1.heap.objs.size+4\/c=s1.heap.objs.size+3\/c=s1.heap.objs.size\/c=s1.heap.objs.size+1\/c=s1.heap.objs.size+2) with q|q|q|q|q <;> rw[q]
  ·exact rL _ _
  ·exact rL _ _
  ·exact zC _
  ·exact rL _ _
  ·exact rL _ _
 exact I1.aha JN (I1.hok.fresh JN)
end L2
namespace K74
open PySem L2 PySem.W
abbrev IY:Stmt:=aF (aQ 22) 1
abbrev ve:Stmt:=aF (aQ 22) 3
abbrev yS:Stmt:=(aQ 13)
abbrev iF:Stmt:=(aQ 14)
def As (C:Addr):Sp:=λvs H Q _=>∃(p dx:Addr)(i:Int)(y:V),vs=[.ref p,y]/\H p=some (.ins C dx (cL i)) /\
 ((∃q dy j,y=.ref q/\H q=some (.ins C dy (cL j))/\Q (.bl (decide (i=j))) H)\/∃T,Th H y T/\Q (.bl false) H)
def pB (C:Addr):Sp:=λvs H Q _=>∃(p dx:Addr)(i:Int),vs=[.ref p]/\H p=some (.ins C dx (cL i))/\Q (.int i) H
def cZ:V->Bool
 | .int i=>decide (0<=i)&&decide (i<60)
 |_=>false
def yY:Sp:=λvs H Q _=>∃x T,vs=[x]/\Th H x T/\Q (.bl (cZ x)) H
variable {P:Iy}{w:World}{K:PySem.W.Frag}{mg:xk}{base:Heap}
theorem ag4:DK rM rM (aq IY):=c9 (by decide +kernel)
variable {f C:Addr}{fd:qo}
theorem ahv (F:Dp K "__eq__" "Field.__eq__" IY f fd)(c:CP K mg C)(n:xb mg):zG P w K mg base (aO P w) 1 f fd rM (As C):=by
 refine F.okN ag4 (λvs H Q E h=>?_) (λJw A outer s H vs Q E hr h=>?_)
 ·obtain⟨p,dx,i,y,rfl,_⟩:=h;rfl
 ·obtain⟨p,dx,i,y,rfl,hp,h⟩:=h
  refine⟨_,ak (az (dC (aB aZ (by rfl) n.isi (by rfl) (ck (pv 1) (ck (cu (by rfl) c.mgC (show aI (.ref C) (.ref C) from rfl)) af)))
   (d9 (cw dZ (bD (pv 0) rfl) (bD (pv 1) rfl) (aJ _))))),?_⟩
  rcases h with⟨q,dy,j,rfl,hq,z⟩|⟨T,th,z⟩
  ·refine⟨_,rfl,.ref q,.ref C,_,_,_,rfl,rfl,c.ty hq,c.is,_,rfl,?_⟩;refine bZ ?_;refine⟨_,rfl,p,C,dx,_,_,rfl,hp,c.cl,c.nP,rfl,_,rfl,q,C,dy,_,_,rfl,hq,c.cl,c.nP,rfl,rfl,?_⟩
   have e:decide (V.int i=V.int j)=decide (i=j):=by simp
   rw[e];exact z
  ·exact⟨_,rfl,y,.ref C,_,_,_,rfl,rfl,th.ty,c.no th,_,rfl,bw z⟩
theorem ahw:DK ["self"] ["self"] (aq ve):=c9 (by decide +kernel)
theorem ahx (F:Dp K "prime" "Field.prime" ve f fd)(c:CP K mg C):zG P w K mg base (aO P w) 1 f fd ["self"] (pB C):=by
 refine F.okN ahw (λvs H Q E h=>?_) (λJw A outer s H vs Q E hr h=>?_)
 ·obtain⟨p,dx,i,rfl,_⟩:=h;rfl
 ·obtain⟨p,dx,i,rfl,hp,q⟩:=h;exact⟨_,ak (az (bD (pv 0) rfl)),_,rfl,p,C,dx,_,_,rfl,hp,c.cl,c.nP,rfl,q⟩
theorem ahz:DK Fl Fl (aq yS):=c9 (by decide +kernel)
theorem ahA {fw:Addr}{JT:qo}{tM:Tok}(F:Dp K "is_place" "is_place" yS f fd)(mMP:mg "MOST_PLACES"=some (.int 60 tM))
 (FW:zG P w K mg base (aO P w) 1 fw JT Fl A0)(bW:L2.ax K JT Fl [])(mW:mg "is_whole"=some (.ref fw))(kW:keepIn K (.ref fw)=true):zG P w K mg base (aO P w) 2 f fd Fl yY:=by
 refine F.okN ahz (λvs H Q E h=>?_) (λJw A outer s H vs Q E hr h=>?_)
 ·obtain⟨x,T,rfl,_⟩:=h;rfl
 ·obtain⟨x,T,rfl,th,q⟩:=h;have JE:A8 1 _:=hr.mono (by decide);refine⟨_,ak (az (dC (ay FW JE (by rfl) mW kW bW .nil ae (@ai _ _ _ _ _ (pv 0) af rfl)) (d9 (kX iP jH ar (pv 0) (cu (by rfl) mMP (show aI (.int 60) (.int 60 tM) from⟨_,rfl⟩)))))),?_⟩;refine⟨_,rfl,x,T,rfl,th,_,rfl,?_⟩
  cases e:dG x with
  |false =>
   have z:cZ x=false:=by cases x <;> first|rfl|cases e
   rw[z] at q;exact bw q
  |true =>
   have z1:∃i,x=.int i:=by cases x <;> first|exact⟨_,rfl⟩|cases e
   obtain⟨i,rfl⟩:=z1;refine bZ ?_;refine⟨_,rfl,_,_,rfl,rfl,_,rfl,?_⟩;refine dO (λh=>?_) (λh=>?_)
   ·refine⟨_,_,rfl,rfl,?_⟩;have h':decide (0<=i)=true:=h
    have z:cZ (.int i)=decide (i<60):=by show(decide (0<=i)&&decide (i<60))=_;rw[h',Hv]
    rw[z] at q;exact q
   ·have h':decide (0<=i)=false:=by simpa using h
    have z:cZ (.int i)=false:=by show(decide (0<=i)&&decide (i<60))=_;rw[h',A4]
    rw[z] at q;exact q
inductive PX (H:Hp):V->Option (List V)->Prop where
 |no {x:V}{T:String}:Th H x T->T ≠ "tuple"->PX H x none
 |tup {a:Addr}{xs:List V}:H a=some (.tup xs)->xs.length<4000->(∀y∈xs,∃T,Th H y T)->PX H (.ref a) (some xs)
def F0:V->V->Bool
 | .int a,.int b=>decide (a<b)
 |_,_=>false
def jB (xs:List V):Bool:=(xs.zip (xs.drop 1)).all λp=>F0 p.1 p.2
def kJ:Option (List V)->Bool
 |none=>false
 |some xs=>xs.all cZ&&jB xs
def Ay:Sp:=λvs H Q _=>∃x o,vs=[x]/\PX H x o/\∀H',aA H H'->Q (.bl (kJ o)) H'
theorem Fn (xs:List V):i7 xs (some 1) none=xs.drop 1:=by
 unfold i7 HT.dJ
 cases xs with
 |nil=>rfl
 |cons x xs=>simp
theorem ahB:DK Fl Fl (aq iF):=c9 (by decide +kernel)
theorem lP:∀bs:List Bool,Paired Gk (bs.map V.bl) bs
 |[]=>.nil
 |b::bs=>.cons rfl (lP bs)
theorem ahE {fp:Addr}{Ke:qo}(F:Dp K "is_product" "is_product" iF f fd)(Js:mg "isinstance"=none)(Jz:mg "tuple"=none)(JL:mg "all"=none)(Kq:mg "zip"=none)
 (FP:zG P w K mg base (aO P w) 2 fp Ke Fl yY)(bP:L2.ax K Ke Fl [])(mP:mg "is_place"=some (.ref fp))(kP:keepIn K (.ref fp)=true):zG P w K mg base (aO P w) 3 f fd Fl Ay:=by
 refine F.okN ahB (λvs H Q E h=>?_) (λJw A outer s H vs Q E hr h=>?_)
 ·obtain⟨x,o,rfl,_⟩:=h;rfl
 ·obtain⟨x,o,rfl,px,q⟩:=h;have JR:A8 2 _:=hr.mono (by decide)
  refine⟨_,(aj (bc (PW.pt (eA (bF (bK (aB aZ (by rfl) Js (by rfl) (@ai _ _ _ _ _ (pv 0) (@ai _ _ _ _ _ (dX (by rfl) Jz (by rfl) (show aI (.ty "tuple") (.type "tuple") from rfl)) af rfl) rfl)))) (dB (bF (bK (aB (gG rfl) (by rfl) JL (by rfl) (@ai _ _ _ _ _ (dm (N:=["place"]) (nl:=1) (js:=[]) (osc:=aq iF) ⟨rfl,rfl,by decide +kernel,by decide +kernel,by decide +kernel,rfl,.nil,by decide +kernel⟩ rfl
   (rV (pv 0))
   (λC fp s H=>aC (i:=0) (by show(["place"]:p3).Nodup;decide +kernel) rfl (Or.inl rfl) (Or.inr rfl))
   (λC fp s H=>dk)
   (λC fp s H=>(ay FP JR (by rfl) mP kP bP .nil ae (@ai _ _ _ _ _ (pv 0) af rfl)))) af rfl))))))) (ak (az eY)) aE)
   (ak (az (aB (gG rfl) (by rfl) JL (by rfl) (@ai _ _ _ _ _ (dm (g:=jd K 2 (cD (bN 0) (cD (bN 1) CN))) (N:=["place","later"]) (nl:=2) (js:=[]) (osc:=aq iF) ⟨rfl,rfl,by decide +kernel,by decide +kernel,by decide +kernel,rfl,.nil,by decide +kernel⟩ rfl
    (agL (pv 0) (kN ahs (pv 0) (jY ar) oJ) (by rfl) Kq)
    (λC fp s H=>(cA (X:=cG _ ["place","later"] _ C fp s H) rfl (aG (aC (X:=cG _ ["place","later"] _ C fp s H) (i:=0) (by show(["place","later"]:p3).Nodup;decide +kernel) rfl (Or.inl rfl) (Or.inr rfl)) (aG (aC (X:=cG _ ["place","later"] _ C fp s H) (i:=1) (by show(["place","later"]:p3).Nodup;decide +kernel) rfl (Or.inl rfl) (Or.inr rfl)) bX))))
    (λC fp s H=>dk)
    (λC fp s H=>(@cw _ _ _ _ _ _ _ _ jH (pv 0) (pv 1) (aJ _)))) af rfl))))),?_⟩
  cases px with
  |@no x T th ne =>
   refine⟨_,rfl,x,.ty "tuple",_,_,_,rfl,rfl,th.ty,th.isTup,_,rfl,?_⟩;rw[Fx ne];exact bZ (bZ (q _ (aA.refl _)))
  |@tup a xs ha hl Wt =>
   refine⟨_,rfl,.ref a,.ty "tuple",_,_,_,rfl,rfl,.of (.tup ha),rfl,_,rfl,bw ?_⟩;have Z0:∀n,n<=xs.length->n<sizeLine:=λn hn=>Gv hn (wG hl (by decide));refine⟨_,rfl,a,rfl,⟨xs,bf.of ha⟩,?_⟩;refine⟨λi m ys σ' H'=>m=xs.length-i/\i<=xs.length/\ys=((xs.take i).map cZ).map V.bl/\H=H'/\∃o,σ'=[o],⟨xs.length,by simp,Ag _,by simp,rfl,none,rfl⟩,?_⟩;rintro i m ys σ' H' ⟨rfl,hi,rfl,rfl,o,rfl⟩;refine⟨Z0 _ (by simp;omega),?_⟩
   by_cases JB:i<xs.length
   ·refine .inr ⟨⟨xs,xs[i],bf.of ha,by simp[JB]⟩,λy H2 hy=>?_⟩;obtain⟨rfl,hy⟩:=hy;have ey:=hy xs (bf.of ha);obtain⟨T,th⟩:=Wt y (v5 ey);dsimp only[EY,bN];refine bZ ⟨_,rfl,y,T,rfl,th,xs.length-(i+1),by omega,rfl,JB,?_,rfl,_,rfl⟩
    have e2:xs.take (i+1)=xs.take i++[y]:=by
     rw[vQ,ey];rfl
    rw[e2];simp
   ·have ei:i=xs.length:=by omega
    subst ei;refine .inl ⟨⟨xs,bf.of ha,zC _⟩,λD hD=>?_⟩;rw[vt];refine⟨D,_,xs.map cZ,rfl,aV.of ah,lP _,_,rfl,?_⟩;have sD:aA H (upd H D (.lst ((xs.map cZ).map V.bl))):=ao hD
    cases hp:(xs.map cZ).all id with
    |false =>
     have z:kJ (some xs)=false:=by
      show(xs.all cZ&&jB xs)=_
      have:xs.all cZ=false:=by rw[<-hp,vn];rfl
      rw[this,A4]
     rw[z] at q;exact bZ (q _ sD)
    |true =>
     refine bw ?_
     have z:kJ (some xs)=jB xs:=by
      show(xs.all cZ&&jB xs)=_
      have:xs.all cZ=true:=by rw[<-hp,vn];rfl
      rw[this,Hv]
     rw[z] at q;generalize upd H D (.lst ((xs.map cZ).map V.bl))=H1 at sD |-;have KC:=sD _ _ ha
     have hint:∀y∈xs,∃n,y=V.int n:=λy hy=>by
      have:cZ y=true:=wH.mp hp _ (Bs hy)
      cases y <;> first|exact⟨_,rfl⟩|cases this
     have key:∀(b:Addr)(H2:Hp),aA H H2->H2 a=some (.tup xs)->H2 b=some (.tup (xs.drop 1)) →
      ∃W:Nat->Nat->List V->St->Hp->Prop,(∃m,W 0 m [] [none,none] H2)/\jC (GQ K a b) (jd K 2 (cD (bN 0) (cD (bN 1) CN))) EY (oY (vN λi j=>V.bl (decide (i<j))) (gr 0) (gr 1)) W
       λys H'=>∀D,H' D=none->∃l zs bs,[V.ref D]=[V.ref l]/\aV K (upd H' D (.lst ys)) l zs/\Paired Gk zs bs/\Q (.bl (bs.all id)) (upd H' D (.lst ys)):=by
      intro b H2 s2 h2a h2b;refine⟨λi m ys σ' H'=>m=(xs.drop 1).length-i/\i<=(xs.drop 1).length/\ys=(((xs.zip (xs.drop 1)).take i).map λp=>F0 p.1 p.2).map V.bl/\aA H2 H'/\∃o1 o2,σ'=[o1,o2],⟨(xs.drop 1).length,by simp,Ag _,by simp,aA.refl _,none,none,rfl⟩,?_⟩;rintro i m ys σ' H' ⟨rfl,hi,rfl,sH,o1,o2,rfl⟩;have Oh:=sH _ _ h2a;have JN:=sH _ _ h2b;refine⟨Z0 _ (by simp;omega),?_⟩
      by_cases JB:i<(xs.drop 1).length
      ·have LI:i<xs.length:=by rw[D9] at JB;omega
       refine .inr ⟨⟨xs,xs.drop 1,xs[i],(xs.drop 1)[i],bf.of Oh,bf.of JN,by simp[LI],by rw[Ff JB]⟩,λv H3 hv=>?_⟩;obtain⟨T,x,y,hx,hy,hT,rfl,rfl⟩:=hv;have ex:=hx xs (bf.of Oh);have ey:=hy (xs.drop 1) (bf.of JN);obtain⟨n,rfl⟩:=hint x (v5 ex);obtain⟨k,rfl⟩:=hint y (El (v5 ey));refine⟨T,_,rfl,bf.of ah,rfl,_,_,rfl,_,_,rfl,rfl,?_⟩;dsimp only[EY];refine bZ ⟨_,rfl,_,rfl,n,k,rfl,rfl,(xs.drop 1).length-(i+1),by omega,rfl,JB,?_,λc u e=>?_,_,_,rfl⟩
       ·have ez:(xs.zip (xs.drop 1))[i]?=some (V.int n,V.int k):=by
         rw[List.getElem?_zip_eq_some];exact⟨ex,ey⟩
        have e2:(xs.zip (xs.drop 1)).take (i+1)=(xs.zip (xs.drop 1)).take i++[(V.int n,V.int k)]:=by
         rw[vQ,ez];rfl
        rw[e2];simp[F0]
       ·rw[av (au (sH _ _ e) hT)];exact sH _ _ e
      ·have ei:i=(xs.drop 1).length:=by omega
       subst ei;refine .inl ⟨⟨xs,xs.drop 1,bf.of Oh,bf.of JN,.inr (zC _)⟩,λD' Oi=>?_⟩
       have et:(xs.zip (xs.drop 1)).take (xs.drop 1).length=xs.zip (xs.drop 1):=by
        apply List.take_of_length_le;rw[List.length_zip];exact AH _ _
       rw[et];refine⟨D',_,(xs.zip (xs.drop 1)).map λp=>F0 p.1 p.2,rfl,aV.of ah,lP _,?_⟩
       have er:((xs.zip (xs.drop 1)).map λp=>F0 p.1 p.2).all id=jB xs:=by rw[vn];rfl
       rw[er];refine q _ λc u e=>?_;have e1:=sH _ _ (s2 _ _ e);rw[av (au e1 Oi)];exact e1
     refine⟨_,rfl,_,rfl,1,rfl,a,xs,rfl,bf.of KC,λe=>?_,λp Z1=>?_⟩
     ·rw[Fn] at e;exact⟨a,a,xs,xs.drop 1,rfl,bf.of KC,bf.of (by rw[e];exact KC),key a H1 sD KC (by rw[e];exact KC)⟩
     ·rw[Fn];have np:a≠p:=au KC Z1;exact⟨a,p,xs,xs.drop 1,rfl,bf.of (by rw[av np];exact KC),bf.of ah,key p _ (λc u e=>by rw[av (au (sD _ _ e) Z1)];exact sD _ _ e) (by rw[av np];exact KC) ah⟩
abbrev Cs:Stmt:=(aQ 31)
theorem PX.same {H H':Hp}{x:V}{o:Option (List V)}(h:PX H x o)(s:aA H H'):PX H' x o:=by
 cases h with
 |no th n=>exact .no (th.same s) n
 |tup e l h=>exact .tup (s _ _ e) l λy hy=>let⟨T,t⟩:=h y hy;⟨T,t.same s⟩
inductive vL (p:Int)(H:Hp):V->Bool->Prop where
 |no {x:V}{T:String}:Th H x T->T ≠ "tuple"->vL p H x false
 |odd {a:Addr}{xs:List V}:H a=some (.tup xs)->xs.length≠2->vL p H (.ref a) false
 |two {a:Addr}{y z:V}{o:Option (List V)}{o2:Option (V×V)}:H a=some (.tup [y,z])->PX H y o->TX H z o2->vL p H (.ref a) (kJ o&&tG p o2)
theorem vL.same {p:Int}{H H':Hp}{x:V}{b:Bool}(h:vL p H x b)(s:aA H H'):vL p H' x b:=by
 cases h with
 |no th n=>exact .no (th.same s) n
 |odd e n=>exact .odd (s _ _ e) n
 |two e h1 h2=>exact .two (s _ _ e) (h1.same s) (h2.same s)
def zD (C:Addr):Sp:=λvs H Q _=>∃(s dx:Addr)(p:Int)(x:V)(b:Bool),vs=[.ref s,x]/\H s=some (.ins C dx (cL p))/\FP p/\vL p H x b/\∀H',aA H H'->Q (.bl b) H'
theorem ahF:DK vA vA (aq Cs):=c9 (by decide +kernel)
theorem acH {fp fi:Addr}{Ke LJ:qo}(F:Dp K "is_term" "is_term" Cs f fd)(c:CP K mg C)(Js:mg "isinstance"=none)(Jz:mg "tuple"=none)(Jv:mg "len"=none)
 (FP':zG P w K mg base (aO P w) 3 fp Ke Fl Ay)(bP:L2.ax K Ke Fl [])(mP:mg "is_product"=some (.ref fp))(kP:keepIn K (.ref fp)=true)
 (FI:zG P w K mg base (aO P w) 2 fi LJ yk (ix C))(bI:L2.ax K LJ yk [])(mI:L2.Meth K C "is_number" fi):zG P w K mg base (aO P w) 4 f fd vA (zD C):=by
 refine F.okN ahF (λvs H Q E h=>?_) (λJw A outer s H vs Q E hr h=>?_)
 ·obtain⟨s,dx,p,x,b,rfl,_⟩:=h;rfl
 ·obtain⟨s0,dx,p,x,b,rfl,hs,hp,tx,q⟩:=h;have LK:A8 3 _:=hr.mono (by decide);have JR:A8 2 _:=hr.mono (by decide)
  refine⟨_,ak (az (dC (aB aZ (by rfl) Js (by rfl) (@ai _ _ _ _ _ (pv 1) (@ai _ _ _ _ _ (dX (by rfl) Jz (by rfl) (show aI (.ty "tuple") (.type "tuple") from rfl)) af rfl) rfl))
   (dC (@cw _ _ _ _ _ _ _ _ dZ (aB aK (by rfl) Jv A2 (@ai _ _ _ _ _ (pv 1) af rfl)) ar (aJ _))
   (dC (ay FP' LK (by rfl) mP kP bP .nil ae (@ai _ _ _ _ _ (@a9 _ _ _ _ _ _ _ br (pv 1) ar (λ_ _=>rfl)) af rfl))
   (d9 (bH (pv 0) c.cl mI FI JR bI .nil ae (@ai _ _ _ _ _ (@a9 _ _ _ _ _ _ _ br (pv 1) ar (λ_ _=>rfl)) af rfl))))))),?_⟩
  cases tx with
  |@no x T th ne =>
   refine⟨_,rfl,x,.ty "tuple",_,_,_,rfl,rfl,th.ty,th.isTup,_,rfl,?_⟩;rw[Fx ne];exact bw (q _ (aA.refl _))
  |@odd a xs ha hl =>
   refine⟨_,rfl,.ref a,.ty "tuple",_,_,_,rfl,rfl,.of (.tup ha),rfl,_,rfl,bZ ?_⟩;refine⟨_,rfl,a,_,rfl,.inr (bf.of ha),rfl,_,rfl,?_⟩;refine dO (λh=>absurd h (by simp;omega)) (λh=>?_);exact q _ (aA.refl _)
  |@two a y z o o2 ha hy hz =>
   refine⟨_,rfl,.ref a,.ty "tuple",_,_,_,rfl,rfl,.of (.tup ha),rfl,_,rfl,bZ ?_⟩;refine⟨_,rfl,a,_,rfl,.inr (bf.of ha),rfl,_,rfl,bZ ?_⟩;refine⟨_,rfl,a,_,0,y,rfl,rfl,bf.of ha,rfl,y,o,rfl,hy,λH' sH=>⟨_,rfl,?_⟩⟩;have LH:=sH _ _ hs;have Oh:=sH _ _ ha
   cases e:kJ o with
   |false =>
    rw[e,A4] at q;exact bw (q _ sH)
   |true =>
    rw[e,Hv] at q;refine bZ ⟨_,rfl,s0,dx,_,rfl,LH,rfl,_,rfl,a,_,1,z,rfl,rfl,bf.of Oh,rfl,s0,dx,p,z,o2,rfl,LH,hp,hz.same sH,q _ sH⟩
abbrev qH:Stmt:=(aQ 32)
abbrev qW:Stmt:=(aQ 33)
def oj (C:Addr):Sp:=λvs H Q _=>∃(s dx:Addr)(p:Int)(x:V),vs=[.ref s,x]/\H s=some (.ins C dx (cL p))/\FP p /\
 ((x=.non/\∀l,H l=none->Q (.ref l) (upd H l (.lst [])))\/∃l ys,x=.ref l/\H l=some (.lst ys)/\ys.length<4000/\(∀y∈ys,vL p H y true)/\∀H',aA H H'->Q (.ref l) H')
def Dx:Sp:=λvs H Q _=>∃(a b:Addr)(z:V)(xs:List V),vs=[.ref a]/\H a=some (.tup [.ref b,z])/\H b=some (.tup xs)/\∀t,H t=none->Q (.ref t) (upd H t (.tup [.int xs.length,.ref b]))
theorem ju:DK ["field","terms","number","thing"] E2 (aq qH):=c9 (by decide +kernel)
theorem acO:DK ["term"] ["term"] (aq qW):=c9 (by decide +kernel)
theorem acW (F:Dp K "place_of_term" "place_of_term" qW f fd)(Jv:mg "len"=none):zG P w K mg base (aO P w) 1 f fd ["term"] Dx:=by
 refine F.okN acO (λvs H Q E h=>?_) (λJw A outer s H vs Q E hr h=>?_)
 ·obtain⟨a,b,z,xs,rfl,_⟩:=h;rfl
 ·obtain⟨a,b,z,xs,rfl,ha,hb,q⟩:=h;refine⟨_,(ak (az (@bu _ _ _ _ _ (@ai _ _ _ _ _ (aB aK (by rfl) Jv A2 (@ai _ _ _ _ _ (@a9 _ _ _ _ _ _ _ br (pv 0) ar (λ_ _=>rfl)) af rfl)) (@ai _ _ _ _ _ (@a9 _ _ _ _ _ _ _ br (pv 0) ar (λ_ _=>rfl)) af rfl) rfl)))),?_⟩;refine⟨_,rfl,a,_,0,_,rfl,rfl,bf.of ha,rfl,b,xs,rfl,.inr (bf.of hb),_,rfl,a,_,0,_,rfl,rfl,bf.of ha,rfl,gR,λt ht=>q t ht⟩
theorem ac1 {ft:Addr}{JY:qo}(F:Dp K "checked_terms" "checked_terms" qH f fd)(Js:mg "isinstance"=none)(Jy:mg "list"=none)(Jx:mg "enumerate"=none)
 (FT:zG P w K mg base (aO P w) 4 ft JY vA (zD C))(bT:L2.ax K JY vA [])(mT:mg "is_term"=some (.ref ft))(kT:keepIn K (.ref ft)=true):zG P w K mg base (aO P w) 5 f fd E2 (oj C):=by
 refine F.okN ju (λvs H Q E h=>?_) (λJw A outer s H vs Q E hr h=>?_)
 ·obtain⟨s,dx,p,x,rfl,_⟩:=h;rfl
 ·obtain⟨s0,dx,p,x,rfl,hs,hp,h⟩:=h;have JO:A8 4 _:=hr.mono (by decide)
  refine⟨_,(aj (bc (@aM _ _ _ _ _ _ _ _ xI (pv 1) xR (aJ _)) (ak (az (@cg _ _ _ _ af))) aE)
   (aj (bc (bF (bK (aB aZ (by rfl) Js (by rfl) (@ai _ _ _ _ _ (pv 1) (@ai _ _ _ _ _ (dX (by rfl) Jy (by rfl) (show aI (.ty "list") (.type "list") from rfl)) af rfl) rfl)))) (ak (pV)) aE)
   (aj (dw wk rfl (jS (pv 1) (by rfl) Jx) (cA rfl (aG (aC (i:=2) ju.nd rfl (Or.inl rfl)) (aG (aC (i:=3) ju.nd rfl (Or.inl rfl)) bX)))
   (ak (bc (bF (bK (ay FT JO (by rfl) mT kT bT .nil ae (@ai _ _ _ _ _ (pv 0) (@ai _ _ _ _ _ (pv 3) af rfl) rfl)))) (ak (pV)) aE)))
   (ak (az (pv 1)))))),?_⟩
  rcases h with⟨rfl,q⟩|⟨l,ys,rfl,hl,hlen,PN,q⟩
  ·refine⟨_,rfl,rfl,_,rfl,?_⟩;exact bZ ⟨Ag _,λl hl=>q l hl⟩
  ·refine⟨_,rfl,rfl,_,rfl,bw ?_⟩;refine⟨_,rfl,.ref l,.ty "list",_,_,_,rfl,rfl,.of (.lst hl),rfl,_,rfl,bw ?_⟩;refine⟨_,rfl,l,ys,rfl,aV.of hl,?_⟩;refine⟨λi m σ' H'=>m=ys.length-i/\i<=ys.length/\aA H H'/\∃o1 o2,σ'=[some (.ref s0),some (.ref l),o1,o2],⟨ys.length,by simp,Ag _,aA.refl _,none,none,rfl⟩,?_⟩;rintro i m σ' H' ⟨rfl,hi,sH,o1,o2,rfl⟩;have Ku:=sH _ _ hl
   by_cases JB:i<ys.length
   ·refine .inr ⟨⟨ys,ys[i],aV.of Ku,by simp[JB]⟩,λσ' H'=>i+1<=ys.length/\aA H H'/\∃o1 o2,σ'=[some (.ref s0),some (.ref l),o1,o2],?_,λv H2 hv=>?_⟩
    ·rintro σ' H' ⟨h1,h2,h3⟩;exact⟨ys.length-(i+1),by omega,rfl,h1,h2,h3⟩
    ·obtain⟨T,y,hy,hT,rfl,rfl⟩:=hv;have ey:=hy ys (aV.of Ku)
     have s2:aA H (upd H' T (.tup [.int i,y])):=λc u e=>by
      rw[av (au (sH _ _ e) hT)];exact sH _ _ e
     have ty:=(PN y (v5 ey)).same s2;refine⟨T,_,rfl,bf.of ah,rfl,_,_,rfl,_,_,rfl,rfl,?_⟩;refine⟨_,rfl,_,rfl,s0,dx,p,y,true,rfl,s2 _ _ hs,hp,ty,λH3 s3=>⟨_,rfl,bw ?_⟩⟩;exact⟨JB,λc u e=>s3 _ _ (s2 _ _ e),_,_,rfl⟩
   ·refine .inl ⟨⟨ys,aV.of Ku,by omega⟩,?_⟩;exact⟨_,rfl,q _ sH⟩
end K74
namespace Srt
open PySem PySem.W PyProof.Rows L2
def nk (sp:Sp):List V->Hp->(List V->Hp->Prop)->Prop
 |[],H,R=>R [] H
 |x::xs,H,R=>sp [x] H (λk H1=>nk sp xs H1 λks H2=>R (k::ks) H2) λ_ _ _=>False
variable {b:Addr}{ob:Obj}
section
variable {X:Cx}{pins:List (Addr×Obj)}{σ:L2.St}{H:Hp}{s:AL}
theorem ac2 {D:Addr}{o:HO}(I:Inv X pins σ H s)(f:c7 X pins H D)(hD:X.s₀.heap.objs.size<=D)(new:bJ X.prog X.w (upd H D o) s.heap D o):Inv X pins σ (upd H D o) s:=by
 obtain⟨f0,f1,f2,f3,f4,f5⟩:=f;have u:=I.base;refine⟨I.ok,I.os,I.bare,⟨u.keep,u.slot,λb' o' e n hx=>?_,u.there,λb' xs e=>?_,λb' o' u' e=>?_,λb' ps e=>?_⟩,I.loc,I.cell,?_,λx c e=>?_,λp hp=>?_,eG I.hok f0 new,I.len⟩
 ·rw[av (Ie (HY (Ec e) hD))];exact u.free b' o' e n hx
 ·rw[av (au (u.agG b' xs e) f0)];exact u.agG b' xs e
 ·rw[av (au (u.afH b' o' u' e) f0)];exact u.afH b' o' u' e
 ·obtain⟨m,q⟩:=u.agR b' ps e;exact⟨m,by rw[av (au q f0)];exact q⟩
 ·rw[av (Jm f1)];exact I.free
 ·rw[av (f4 x c e)];exact I.agK x c e
 ·obtain⟨e,n,r⟩:=I.pin p hp;exact⟨e,by rw[av (f5 p hp)];exact n,r⟩
theorem ac4 {c:Addr}(f:c7 X pins H b)(h:c≠b):c7 X (pins++[(c,ob)]) H b:=by
 obtain⟨f0,f1,f2,f3,f4,f5⟩:=f;refine⟨f0,f1,f2,f3,f4,λp hp=>?_⟩;rw[<-AA] at hp
 rcases rQ.mp hp with z|z
 ·exact f5 p z
 ·have e:p=(c,ob):=by simpa using z
  subst e;exact h
theorem pA {H':Hp}(f:c7 X pins H b)(h:H' b=none):c7 X pins H' b:=⟨h,f.2⟩
theorem uQ (I:Inv X pins σ H s)(f:c7 X pins H b)(e:s.heap.get? b=some ob)(d:∀v,ob.data≠.cell v):Inv X (pins++[(b,ob)]) σ H s:=I.afF λp hp=>by
 rcases rQ.mp hp with z|z
 ·exact I.pin p (GZ _ z)
 ·have e1:p=(b,ob):=by simpa using z
  subst e1;exact⟨e,f.1,f.2.1,f.2.2.1,d⟩
theorem nQ (I:Inv X (pins++[(b,ob)]) σ H s):Inv X pins σ H s:=I.afF λp hp=>I.pin p (GZ _ (Jp _ hp))
theorem xu (I:Inv X (pins++[(b,ob)]) σ H s):s.heap.get? b=some ob/\H b=none:=by
 obtain⟨e,n,_⟩:=I.pin (b,ob) (GZ _ (GZ _ (by simp)));exact⟨e,n⟩
end
theorem lK {c:String}{xs:EV}{n:Nat}:∀v,(seqObj c xs n).data≠.cell v:=λv z=>by cases z
variable {H:Hp}{s:AL}{Q:VK}
section
variable {X:Cx}{pins:List (Addr×Obj)}{σ:L2.St}{k:Nat}{f:Addr}{fd:qo}{ps:p3}{sp:Sp}{A:Around}{E:Bf}
theorem ac9 {x:V}{u:Value}(F:zG X.prog X.w X.K X.mg X.base (aO X.prog X.w) k f fd ps sp)(hr:A8 k A)(hA:∀H s,Inv X pins σ H s->oB X.prog X.w X.K X.mg X.base A X.stack s H)(hb:ax X.K fd ps [])(I:Inv X pins σ H s)(r:aI x u)(h:sp [x] H Q λ_ _ _=>False):
 wpAny (model X.prog X.w) A (call (.ref f) [u]) (EP X pins σ Q) (λ_ _=>False) s:=by
 have hl:([u]:yX).length+([]:yX).length=ps.length:=by have:=F.len _ _ _ _ h;simpa using this
 have bd:=hb s [u] I.kIn hl;rw[xY] at bd;refine sQ (AK (F.run A X.stack s H ⟨[u],[]⟩ [u] [x] Q _ hr (hA H s I) bd (.cons r .nil) h) λres s' hq=>?_)
 cases res with
 |error e =>
  obtain⟨a,cls,a0,B,d,H',_,_,_,_,hE⟩:=hq;exact hE.elim
 |ok fl =>
  cases fl with
  |ret v=>exact I.after hq
  |next=>exact False.elim hq
  |brk=>exact False.elim hq
  |cont=>exact False.elim hq
end
abbrev lh (X:Cx)(xs:List V)(Q:VK):List V->Hp->Prop:=λks H2=>∃kz,eF X.K H2 ks kz/\kz.Nodup/\∀D,H2 D=none->Q (.ref D) (upd H2 D (.lst ((eh (kz.zip xs)).map (·.2))))
variable {xs:List V}
section
variable {X:Cx}{pins:List (Addr×Obj)}{σ:L2.St}{k:Nat}{f:Addr}{fd:qo}{ps:p3}{sp:Sp}{A:Around}{E:Bf}
theorem ada {ks vs:yX}(h:ks.length=vs.length):((ks.toArray.zip vs.toArray).map (·.2))=vs.toArray:=by
 apply Array.toList_inj.mp;rw[Array.toList_map,ksk_zip];simp only[List.toList_toArray] at *;exact List.map_snd_zip (by omega)
theorem adb {D kS:Addr}{e1 c:Nat}{kV:List V}{us ks:yX}{P:PySem.Fin->Shared->Prop}(hA:A.units+2<cLine)(hD:X.s₀.heap.objs.size<=D)(fD:c7 X pins H D)(fS:c7 X pins H kS)(ne:kS≠D)
 (I:Inv X pins σ H s)(eD:s.heap.get? D=some (seqObj "list" #[] e1))(eS:s.heap.get? kS=some (seqObj "list" ks.toArray c))(rx:aR xs us)(Oj:aR kV ks)(hl:kV.length=xs.length)(h64:xs.length<64)(w:lh X xs Q kV H)
 (hP:∀s',EP X pins σ Q (.ref D) s'->P (.done (.ret .none)) s'):wpAny (model X.prog X.w) A (ksk_end D false us.toArray e1 (.ref kS) ks.toArray) P E s:=by
 obtain⟨kz,hk,nd,q⟩:=w;have l1:=rx.length;have l2:=Oj.length;have l3:=hk.len;have inj:=ado nd
 have fin:∀p,Pm xs.length (rk kz) p->Up (rk kz) p xs.length->∀st:SortSt,(arrOf st).map (·.2)=(ig us p).toArray->failedOf st=none->wpAny (model X.prog X.w) A (ksk_tail D false e1 (.ref kS) st) P E s:=λp pm up st Wu hf=>by
  have Wv:=ad9 rx pm (zC _);rw[Sig (by omega) nd pm up] at Wv
  have hlen:((eh (kz.zip xs)).map (·.2)).length<=sizeLine:=by
   rw[vW,(dR _).length_eq,List.length_zip];exact EW (AH _ _) (gL h64)
  have Ww:(ig us p).toArray.size<=sizeLine:=by rw[D4,<-Wv.length];exact hlen
  have MM:=GO s.heap kS (Obj.mapSeq λ_=>(#[]:EV));have Nd:(s.heap.update kS (Obj.mapSeq λ_=>(#[]:EV))).get? D=some (seqObj "list" #[] e1):=(MM.2 D (Jm ne)).trans eD;have I1:Inv X pins σ H {s with heap:=s.heap.update kS (Obj.mapSeq λ_=>(#[]:EV))}:=cW I fS MM;unfold ksk_tail;dsimp only;rw[Wu];refine C7 (listUpdate_at eS rfl (C7 (we ?_)) (by rw[D4,<-l2,hl];exact gL h64) (Ag _));generalize s.heap.update kS (Obj.mapSeq λ_=>(#[]:EV))=h1 at Nd I1 |-;have sb2:=GO h1 D (Obj.mapSeq λ_=>(ig us p).toArray);obtain⟨c2,Lw⟩:∃c2,(h1.update D (Obj.mapSeq λ_=>(ig us p).toArray)).get? D=some (seqObj "list" (ig us p).toArray c2):=⟨_,CH Nd λ_=>(ig us p).toArray⟩;have I2:Inv X pins σ H {s with heap:=h1.update D (Obj.mapSeq λ_=>(ig us p).toArray)}:=cW (s:={s with heap:=h1}) I1 fD sb2;have I3:=ac2 (o:=.lst ((eh (kz.zip xs)).map (·.2))) I2 fD hD ⟨hlen,_,c2,Wv,Lw⟩;refine C7 (seqEpoch_at Nd rfl (C7 (listUpdate_at Nd rfl ?_ (Ag _) (Nat.le_succ_of_le Ww))));rw[hf];simp only[bne_self_eq_false,Ep,CR];exact pO (hP _ ⟨.ref D,_,I3,rfl,q D fD.1⟩)
 have P0:Pm xs.length (rk kz) (List.range xs.length).toArray:=uj (λi j hi hj=>inj i j (by omega) (by omega)) (Array.Perm.refl _);unfold ksk_end;dsimp only;rw[qM IA];simp only[Ep,CR]
 by_cases h2:us.toArray.size<2
 ·have small:xs.length<2:=by rw[l1];simpa using h2
  rw[zj h2,zj h2];refine C7 (pO ?_);rw[StateT.run_pure];refine C7 (pO ?_);refine fin (List.range xs.length).toArray P0 (λi j K0 hj=>by omega) _ ?_ rfl;show(ks.toArray.zip us.toArray).map (·.2)=_;rw[ada (by omega),l1,adk]
 ·have big:2<=us.length:=by simpa using h2
  rw[qM h2,qM h2];obtain⟨κ,LA,Wx⟩:=adu (A:=A) I hA hk Oj nd (by omega);refine C7 (vF (LA (λκ' s0=>(kas_sort us.length).kasWp (kas_ask X.prog X.w A κ' ks) (λp s'=>s'=s/\Pm us.length (rk kz) p/\Up (rk kz) p us.length) s0) (ac7 (n:=us.length) (r:=rk kz) (λi j hi hj=>inj i j (by omega) (by omega)) (λi j C hi hj=>Wx i j C (by omega) (by omega)) (by omega) λp pm up=>⟨rfl,pm,up⟩)) (λκ' s0 hw=>?_) λ_ _ x=>x.elim);refine C7 (vF (kat_run (κ:=κ') (Q:=λKb s'=>∃p:Array Nat,arrOf Kb=p.map (kas_item (ks.toArray.zip us.toArray))/\failedOf Kb=none/\s'=s/\Pm us.length (rk kz) p/\Up (rk kz) p us.length) (by omega) big (by omega) (λp' Kb s' _ a2 a3 a4=>⟨p',a2,a3,a4⟩) hw) ?_ λ_ _ e=>e);rintro⟨⟨⟩,Kb⟩ s' ⟨p,Wu,hf,rfl,pm,up⟩;exact fin p (by rw[l1];exact pm) (by rw[l1];exact up) Kb (kat_snds (by omega) Wu) hf
theorem adn {α:Type}{l:List α}{j:Nat}{x:α}(h:l[j]?=some x):l.drop j=x::l.drop (j+1):=by
 obtain⟨hj,e⟩:=Be.mp h;rw[An hj,e]
theorem adq {D:Addr}{n:Nat}{us:yX}{P:PySem.Fin->Shared->Prop}(F:zG X.prog X.w X.K X.mg X.base (aO X.prog X.w) k f fd ps sp)(hr:A8 k A)(hE:∀pins' H s,Inv X pins' σ H s->oB X.prog X.w X.K X.mg X.base A X.stack s H)(hb:ax X.K fd ps [])
 (hD:X.s₀.heap.objs.size<=D)(fD:c7 X pins H D)(I:Inv X pins σ H s)(eD:s.heap.get? D=some (seqObj "list" us.toArray n))(rx:aR xs us)(h64:xs.length<64)(h:nk sp xs H (lh X xs Q))
 (hP:∀s',EP X pins σ Q (.ref D) s'->P (.done (.ret .none)) s'):wpAny (model X.prog X.w) A (ksk_tree D (.ref f) false) P E s:=by
 have l1:=rx.length
 have Wy:us.toArray.size<=sizeLine:=by rw[D4,<-l1];exact gL h64
 obtain⟨e1,Nd⟩:∃e1,(s.heap.update D (Obj.mapSeq λ_=>(#[]:EV))).get? D=some (seqObj "list" #[] e1):=⟨_,CH eD λ_=>#[]⟩;have I1:Inv X pins σ H {s with heap:=s.heap.update D (Obj.mapSeq λ_=>(#[]:EV))}:=cW I fD (GO _ _ _);unfold ksk_tree;refine C7 (listItems_at eD rfl (C7 (listUpdate_at eD rfl (C7 (seqEpoch_at Nd rfl (C7 (wpAny_newTuple ?_ (by show us.length<=_;rw[<-l1];exact gL h64))))) Wy (Ag _))));refine C7 (wpAny_newList (tj ?_) (Ag _));generalize s.heap.update D (Obj.mapSeq λ_=>(#[]:EV))=h1 at Nd I1 |-;dsimp only;have I2:Inv X pins σ H {s with heap:=h1.push (seqObj "tuple" us.toArray 0)}:=I1.kept (t':=s.toks) λb o q=>wa _ q;have Wz:(h1.push (seqObj "tuple" us.toArray 0)).get? D=some (seqObj "list" #[] e1):=wa _ Nd;show wpAny (model X.prog X.w) A (ksk_rest D (.ref f) false us.toArray e1 (.ref (h1.push (seqObj "tuple" us.toArray 0)).objs.size)) P E {s with heap:=(h1.push (seqObj "tuple" us.toArray 0)).push (seqObj "list" #[] 0)};generalize h1.push (seqObj "tuple" us.toArray 0)=h2 at I2 Wz |-;have ne:h2.objs.size≠D:=BL (Ec Wz);have WA:c7 X pins H h2.objs.size:=I2.aha (zC _) (I2.hok.fresh (zC _));have I3:Inv X pins σ H {s with heap:=h2.push (seqObj "list" #[] 0)}:=I2.kept (t':=s.toks) λb o q=>wa _ q;have eD3:(h2.push (seqObj "list" #[] 0)).get? D=some (seqObj "list" #[] e1):=wa _ Wz;have Z2:(h2.push (seqObj "list" #[] 0)).get? h2.objs.size=some (seqObj "list" ([]:yX).toArray 0):=Hr _ rfl;have fD':∀{H':Hp},H' D=none->c7 X pins H' D:=λz=>pA fD z;have WB:∀{H':Hp},H' h2.objs.size=none->c7 X pins H' h2.objs.size:=λz=>pA WA z;generalize h2.objs.size=kS at ne WA Z2 WB |-;unfold ksk_rest;refine C7 (wD ?_);rw[List.forIn_toArray]
 let II:Nat->Shared->Prop:=λj s'=>∃(H':Hp)(c:Nat)(kV:List V)(ks:yX),Inv X (pins++[(D,seqObj "list" #[] e1)]) σ H' s'/\s'.heap.get? kS=some (seqObj "list" ks.toArray c)/\H' kS=none/\aR kV ks/\kV.length=j/\nk sp (xs.drop j) H' λk2 H2=>lh X xs Q (kV++k2) H2
 have I4:Inv X (pins++[(D,seqObj "list" #[] e1)]) σ H {s with heap:=h2.push (seqObj "list" #[] 0)}:=uQ I3 fD eD3 lK;refine C7 (vF (ksk_fold (E:=E) (Q:=λ_ s'=>II us.length s') II us 0 {s with heap:=h2.push (seqObj "list" #[] 0)} ⟨H,0,[],[],I4,Z2,WA.1,.nil,rfl,by simpa using h⟩ (λj u s' hu hI=>?_) λs' hd=>by simpa using hd) (λ_ s' hI=>?_) λ_ _ e=>e)
 ·rw[Io] at hI |-;obtain⟨H',c,kV,ks,J,eS,nS,Oj,hl,t⟩:=hI;have hj:j<us.length:=(Be.mp hu).1;obtain⟨x,hx⟩:∃x,xs[j]?=some x:=⟨xs[j]'(by omega),by simp[show j<xs.length by omega]⟩;obtain⟨u',Z3,rx'⟩:=rx.get hx;rw[hu] at Z3
  cases Z3
  rw[adn hx] at t;have Z4:c7 X (pins++[(D,seqObj "list" #[] e1)]) H' kS:=ac4 (WB nS) (Jm ne);have J2:=uQ J Z4 eS lK;refine C7 (rP (vF (ac9 F hr (hE _) hb J2 rx' t) (λkv s2 hk=>?_) λ_ _ z=>z.elim));obtain⟨v,H2,J3,rv,t2⟩:=hk;obtain⟨Z5,Z6⟩:=xu J3;have J4:=nQ J3;have fS2:c7 X (pins++[(D,seqObj "list" #[] e1)]) H2 kS:=pA Z4 Z6
  have ea:ks.toArray.push kv=(ks++[kv]).toArray:=by simp
  obtain⟨c2,Lw⟩:∃c2,(s2.heap.update kS (Obj.mapSeq (·.push kv))).get? kS=some (seqObj "list" (ks++[kv]).toArray c2):=⟨_,by rw[<-ea];exact CH Z5 (·.push kv)⟩;have lk:=Oj.length;refine C7 (listUpdate_at Z5 rfl ?_ (by rw[D4];exact gL (by omega)) (EW (Nat.le_of_eq (Array.size_push ..)) (by rw[D4];exact Nat.succ_le_succ (gL (by omega)))));refine pO ⟨rfl,H2,c2,kV++[v],ks++[kv],cW J4 fS2 (GO _ _ _),Lw,Z6,Oj.append (.cons rv .nil),by simp[hl],?_⟩
  have e:∀k2:List V,kV++[v]++k2=kV++v::k2:=λk2=>by simp
  simp only[e];exact t2
 ·obtain⟨H',c,kV,ks,J,eS,nS,Oj,hl,t⟩:=hI;rw[<-l1,wC] at t
  have w:lh X xs Q kV H':=by
   have z:lh X xs Q (kV++[]) H':=t;rwa[xY] at z
  obtain⟨eD4,nD⟩:=xu J;refine C7 (listItems_at eS rfl ?_);exact adb (by have:=hr.units;omega) hD (fD' nD) (WB nS) ne (nQ J) eD4 eS rx Oj (by omega) h64 w hP
theorem adw {l:Addr}(F:zG X.prog X.w X.K X.mg X.base (aO X.prog X.w) k f fd ps sp)(hr:A8 (k+2) X.A)(hb:ax X.K fd ps [])
 (I:Inv X pins σ H s)(hl:aV X.K H l xs)(h64:xs.length<64)(h:nk sp xs H (lh X xs Q)):wpAny (model X.prog X.w) X.A (call (.builtin "sorted") [.ref l] [(Str.ofString "key",.ref f)]) (EP X pins σ Q) E s:=by
 obtain⟨us,rx,pl,_⟩:=I.list hl;have l1:=rx.length;refine call_function_entry_kw kind_sorted plain_sorted entry_sorted (ksk_s1 _ _) ?_;unfold Builtin.«sorted»;refine C7 (m:=checkCount "sorted" 1 1 _) (pO (C7 (collect_list pl.isList (C7 (wpAny_newList ?_ (gL (by omega)))) (gL (by omega)))))
 have sz:((s.heap.push (seqObj "list" #[] 0)).update s.heap.objs.size (Obj.mapSeq (·++us.toArray))).objs.size=s.heap.objs.size+1:=by rw[Heap.size_update];exact size_push' _ _
 have WC:(((s.heap.push (seqObj "list" #[] 0)).update s.heap.objs.size (Obj.mapSeq (·++us.toArray))).push (seqObj "list" us.toArray 0)).get? (s.heap.objs.size+1)=some (seqObj "list" us.toArray 0):=by
  rw[<-sz];exact Hr _ rfl
 have old:∀b o,s.heap.get? b=some o->(((s.heap.push (seqObj "list" #[] 0)).update s.heap.objs.size (Obj.mapSeq (·++us.toArray))).push (seqObj "list" us.toArray 0)).get? b=some o:=λb o q=>by
  have lt:b<s.heap.objs.size:=Ec q;refine wa _ ?_;rw[Heap.get?_update_ne _ _ _ _ (Ie lt)];exact wa _ q
 show wpAny _ _ _ _ _ {s with heap:=((s.heap.push (seqObj "list" #[] 0)).update s.heap.objs.size (Obj.mapSeq (·++us.toArray))).push (seqObj "list" us.toArray 0)};rw[sz];generalize ((s.heap.push (seqObj "list" #[] 0)).update s.heap.objs.size (Obj.mapSeq (·++us.toArray))).push (seqObj "list" us.toArray 0)=h5 at WC old |-;have I5:Inv X pins σ H {s with heap:=h5}:=I.kept (t':=s.toks) old;have fD:c7 X pins H (s.heap.objs.size+1):=I.aha (jL _) (I.hok.fresh (jL _));refine C7 (tj (wpAny_call_entry_kw slot_list_sort ⟨_,WC,rfl⟩ entry_list_sort ?body (ksk_l1 _ _)))
 case body =>
  show wpAny (model X.prog X.w) X.A.in1.in1 (Builtin.«list.sort» ⟨[.ref (s.heap.objs.size+1)],[(Str.ofString "key",.ref f)]⟩) _ _ _;rw[ksk_t1];exact adq (A:=X.A.in1.in1) F hr.in1.in1 (λpins' H' s' J=>J.ai7.in1.in1) hb (EW I.sz (jL _)) fD I5 WC rx h64 h λs' q=>⟨_,rfl,pO ⟨_,rfl,q⟩⟩
end
def adx (X:Cx)(sp:Sp)(ta:TE):TE:=λσ H Q=>en ta HS σ H λvs H1=>∃l xs,vs=[.ref l]/\aV X.K H1 l xs/\xs.length<64/\nk sp xs H1 (lh X xs Q)
section
variable {X:Cx}{k:Nat}{f:Addr}{fd:qo}{ps:p3}{sp:Sp}{e:Expr}{ta:TE}{x:Str}{p p2 kpos pos:Pos}
theorem qT (F:zG X.prog X.w X.K X.mg X.base (aO X.prog X.w) k f fd ps sp)(hr:A8 (k+2) X.A)(hb:ax X.K fd ps [])(hg:Gl X "sorted")(hm:X.mg "sorted"=none)(hgf:Gl X x)(hmf:X.mg x=some (.ref f))(ha:PE X e ta)(hs:fA e=false:=by rfl)(hd:(x==("__debug__":Str))=false:=by decide):
 PE X (.Call (.Name "sorted" p) [e] [⟨some "key",.Name x p2,kpos⟩] pos) (adx X sp ta):=by
 intro pins s σ H Q I h;refine vU (dU I hg hm (by rfl) ?_ (by decide) (by decide));refine callWith_builtin_kwB (by rw[aU hs];rfl) rfl (evalArgs_kw2 rfl ?_ (aU hs));refine bO (ai ha af hs pos pins s σ H _ I h) λus s1 z'=>?_;obtain⟨vs,H1,I1,r1,⟨l,xs,hv,hl,h64,ht⟩⟩:=z';subst hv
 cases r1 with
 |cons ra rb =>
  cases rb
  cases ra
  refine kwAll_cons (iM I1 hgf hmf (kwAll_nil ?_) hd);exact adw F hr hb I1 hl h64 ht
end
end Srt
namespace K74
open PySem L2 PySem.W Nm Srt
variable {n:Nat}{p b:Int}
theorem ady {t:Int}(hp:FP p)(h:B n t)(hb:b≠0)(hn:7<=n):B n (c8 p t b):=by
 unfold c8
 by_cases z:p=0
 ·rw[zj z];exact h.le (adl hb)
 ·rw[qM z];obtain⟨_,p2,Vo⟩:=hp.two z;have h0:=jN t (b:=p) (by omega);have h1:=oH t (b:=p) (by omega)
  have:B 7 (t%p):=by
   show(t%p).natAbs<2^7;omega
  exact this.mono hn
theorem adz {n:Nat}{t:Int}(h:B n b)(hb:b≠0)(hn:1<=n):B n (dA p t b):=by
 unfold dA
 by_cases z:p=0
 ·rw[zj z];exact h.le (AC hb)
 ·rw[qM z];exact(show B 1 (1:Int) from(by show(1:Int).natAbs<2^1;decide)).mono hn
abbrev Tm:=List Int×Int×Int
def da (p:Int)(a b:Int×Int):Int×Int:=(c8 p (iH a.1 a.2 b.1 b.2) (a.2*b.2),dA p (iH a.1 a.2 b.1 b.2) (a.2*b.2))
def Gn (p:Int)(n:Nat)(a:Int×Int):Prop:=Num p a.1 a.2/\B n a.1/\B n a.2
theorem Gn.ne {a:Int×Int}(h:Gn p n a):a.2≠0:=by have:=h.1.pos;omega
theorem mO {m:Nat}{a b:Int×Int}(hp:FP p)(ha:Gn p n a)(hb:Gn p m b)(h7:7<=n+m+1):Gn p (n+m+1) (da p a b):=by
 have nz:a.2*b.2≠0:=AS ha.ne hb.ne;refine⟨Num.set hp.nn nz,ady hp ?_ nz h7,(adz (n:=n+m) (ha.2.2.mul hb.2.2) nz (by omega)).mono (by omega)⟩;have h1:B (n+m) (a.1*b.2):=ha.2.1.mul hb.2.2;have h2:B (n+m) (b.1*a.2):=(hb.2.1.mul ha.2.2).mono (by omega);exact h1.add h2
theorem adA {b:Int×Int}(hp:FP p)(hb:Gn p n b):da p (0,1) b=b:=by
 obtain⟨h1,h2⟩:=hb.1.self hp.nn;unfold da iH
 have e1:(0:Int)*b.2+b.1*1=b.1:=by omega
 have e2:(1:Int)*b.2=b.2:=by omega
 rw[e1,e2,h1,h2]
def c5 (p:Int)(d:List Tm)(t:Tm):List Tm:=if d.any (λe=>decide (e.1=t.1))=true then d.map (λe=>if e.1=t.1 then(e.1,da p e.2 t.2) else e) else d++[t]
def aX (p:Int)(ts:List Tm):List Tm:=ts.foldl (c5 p) []
def m9 (p:Int)(n:Nat)(d:List Tm):Prop:=∀e∈d,Gn p n e.2
variable {d:List Tm}
theorem adB {m:Nat}{t:Tm}(hp:FP p)(hd:m9 p n d)(ht:Gn p m t.2)(h7:7<=n+m+1):m9 p (n+m+1) (c5 p d t):=by
 have up:∀e∈d,Gn p (n+m+1) e.2:=λe he=>⟨(hd e he).1,(hd e he).2.1.mono (by omega),(hd e he).2.2.mono (by omega)⟩;unfold c5
 split
 ·intro e he;obtain⟨e0,h0,rfl⟩:=Hy.mp he
  by_cases q:e0.1=t.1
  ·rw[zj q];exact mO hp (hd e0 h0) ht h7
  ·rw[qM q];exact up e0 h0
 ·intro e he
  rcases rQ.mp he with he|he
  ·exact up e he
  ·have:e=t:=by simpa using he
   subst this;exact⟨ht.1,ht.2.1.mono (by omega),ht.2.2.mono (by omega)⟩
theorem mY {t:Tm}(hd:(d.map (·.1)).Nodup):((c5 p d t).map (·.1)).Nodup:=by
 unfold c5
 split
 ·rw[Eg]
  have:((λe:Tm=>e.1) ∘ λe=>if e.1=t.1 then(e.1,da p e.2 t.2) else e)=λe=>e.1:=by
   funext e
   show(if e.1=t.1 then(e.1,da p e.2 t.2) else e).1=e.1
   split <;> rfl
  rw[this];exact hd
 ·rename_i q
  rw[Hs];refine C8.mpr ⟨hd,by simp,λa ha b hb z=>?_⟩
  have:b=t.1:=by simpa using hb
  subst this;subst z;obtain⟨e,he,e1⟩:=Hy.mp ha;exact q (wm.mpr ⟨e,he,by simpa using e1⟩)
theorem adE {t:Tm}:(c5 p d t).length<=d.length+1:=by
 unfold c5
 split <;> simp
def gm (t:Tm):Ky:=(t.1.length,t.1)
def gy (d:List Tm):List Tm:=(eh ((d.filter λe=>e.2.1 != 0).map λe=>(gm e,e))).map (·.2)
theorem i9 (p:Int)(ts:List Tm)(t:Tm):aX p (ts++[t])=c5 p (aX p ts) t:=by
 unfold aX;rw[List.foldl_append];rfl
theorem fO {m:Nat}(hp:FP p):∀(n:Nat)(ts:List Tm),ts.length=n->(∀t∈ts,Gn p m t.2)->m9 p ((m+1)*n+7) (aX p ts)/\((aX p ts).map (·.1)).Nodup/\(aX p ts).length<=n
 |0,ts,hn,_=>by
  have:ts=[]:=mn.mp hn;subst this;refine And.intro (λe he=>?_) (And.intro Ea (zC 0));exact absurd (show e∈([]:List Tm) from he) (by simp)
 |n+1,ts,hn,h=>by
  obtain⟨MN,t,rfl⟩:∃MN t,ts=MN++[t]:=by
   have Kj:ts≠[]:=by intro z;rw[z] at hn;cases hn
   exact⟨ts.dropLast,ts.getLast Kj,(wM Kj).symm⟩
  have hl:MN.length=n:=by simpa using hn
  obtain⟨g1,g2,g3⟩:=fO hp n MN hl λt ht=>h t (Jp _ ht);rw[i9];have gt:=h t (GZ _ (by simp));have e2:(m+1)*(n+1)=(m+1)*n+(m+1):=Nat.mul_succ _ _;refine⟨λe he=>?_,mY g2,EW adE (by omega)⟩;have:=adB hp g1 gt (by omega) e he;exact⟨this.1,this.2.1.mono (by omega),this.2.2.mono (by omega)⟩
abbrev jO (ks:List Int):List Key:=ks.map Sum.inl
theorem jy (ks:List Int):(jO ks).map kV=ks.map V.int:=by unfold jO;rw[Eg];rfl
theorem pH {a b:List Int}(h:jO a=jO b):a=b:=by
 have e:(jO a).map kV=(jO b).map kV:=by rw[h]
 rw[jy,jy] at e
 have inj:∀{x y:List Int},x.map V.int=y.map V.int->x=y:=by
  intro x
  induction x with
  |nil=>intro y h;cases y with
   |nil=>rfl
   |cons c y=>simp at h
  |cons b x ih=>intro y h;cases y with
   |nil=>simp at h
   |cons c y =>
    rw[Jr,Jr] at h
    injection h with h1 h2
    injection h1 with h1
    rw[h1,ih h2]
 exact inj e
def Ey (H:Hp)(y:V)(t:Tm):Prop:=∃a pr nu,y=.ref a/\H a=some (.tup [.ref pr,.ref nu])/\H pr=some (.tup (t.1.map V.int))/\H nu=some (bo t.2.1 t.2.2)
abbrev aS (H:Hp):List V->List Tm->Prop:=Paired (Ey H)
abbrev DR (H:Hp):List (List Key×V)->List Tm->Prop:=Paired λkv e=>kv.1=jO e.1/\∃a,kv.2=.ref a/\H a=some (bo e.2.1 e.2.2)
def aD (H H':Hp):Prop:=∀b xs,H b=some (.tup xs)->H' b=some (.tup xs)
variable {H H':Hp}
theorem aD.of (s:aA H H'):aD H H':=λb xs e=>s b _ e
theorem aD.trans {H1 H2:Hp}(a:aD H H1)(b:aD H1 H2):aD H H2:=λc xs e=>b c xs (a c xs e)
theorem aD.upd {d:Addr}{o:HO}(h:∀xs,H d≠some (.tup xs)):aD H (upd H d o):=λb xs e=>by
 have:b≠d:=λz=>h xs (z▸e);rw[av this];exact e
theorem Ey.keep {y:V}{t:Tm}(h:Ey H y t)(k:aD H H'):Ey H' y t:=let⟨a,pr,nu,e,h1,h2,h3⟩:=h;⟨a,pr,nu,e,k _ _ h1,k _ _ h2,k _ _ h3⟩
theorem aS.keep {ys:List V}{ts:List Tm}(h:aS H ys ts)(k:aD H H'):aS H' ys ts:=Paired.agP h λ_ _ z=>z.keep k
variable {Jt:List (List Key×V)}
theorem DR.keep (h:DR H Jt d)(k:aD H H'):DR H' Jt d:=Paired.agP h λ_ _ z=>⟨z.1,let⟨a,e,h⟩:=z.2;⟨a,e,k _ _ h⟩⟩
theorem uY (k:List Int):∀{Jt:List (List Key×V)}{d:List Tm},DR H Jt d->d.any (λe=>decide (e.1=k))=false->ja Jt (jO k)=none
 |_,_,.nil,_=>rfl
 |_,_,.cons (a:=kv) (b:=e) h t,q=>by
  rw[HV,Bool.or_eq_false_iff] at q
  have ne:¬kv.1=jO k:=λz=>by
   have:e.1=k:=pH (h.1.symm.trans z);simp[this] at q
  rw[gD ne];exact uY k t q.2
theorem lW (k:List Int):∀{Jt:List (List Key×V)}{d:List Tm},DR H Jt d->d.any (λe=>decide (e.1=k))=true->∃e∈d,e.1=k/\∃a,ja Jt (jO k)=some (.ref a)/\H a=some (bo e.2.1 e.2.2)
 |_,_,.nil,q=>by simp at q
 |_,_,.cons (a:=kv) (b:=e) h t,q=>by
  by_cases z:e.1=k
  ·obtain⟨a,e1,ha⟩:=h.2;refine⟨e,Ij,z,a,?_,ha⟩;rw[iS (by rw[h.1,z]),e1]
  ·have ne:¬kv.1=jO k:=λw=>z (pH (h.1.symm.trans w));rw[HV,Fx z,Bool.false_or] at q;obtain⟨e',m,z',a,h1,h2⟩:=lW k t q;exact⟨e',Er _ m,z',a,by rw[gD ne];exact h1,h2⟩
theorem adH (k:List Int)(h:DR H Jt d):(Jt.any λkv=>decide (kv.1=jO k))=d.any λe=>decide (e.1=k):=by
 rw[lX]
 cases q:d.any λe=>decide (e.1=k) with
 |false=>rw[uY k h q];rfl
 |true =>
  obtain⟨_,_,_,a,e,_⟩:=lW k h q;rw[e];rfl
theorem zh {t:Tm}{a:Addr}(h:DR H Jt d)(nd:(d.map (·.1)).Nodup)
 (N4:d.any (λe=>decide (e.1=t.1))=false->H a=some (bo t.2.1 t.2.2))(K5:∀e∈d,e.1=t.1->H a=some (bo (da p e.2 t.2).1 (da p e.2 t.2).2)):DR H (fT Jt (jO t.1) (.ref a)) (c5 p d t):=by
 unfold fT c5;rw[adH t.1 h]
 by_cases q:d.any (λe=>decide (e.1=t.1))=true
 ·rw[zj q,zj q]
  have go:∀{Jt:List (List Key×V)}{d:List Tm},DR H Jt d->(∀e∈d,e.1=t.1->H a=some (bo (da p e.2 t.2).1 (da p e.2 t.2).2)) →
   DR H (Jt.map λkv=>if kv.1=jO t.1 then(kv.1,V.ref a) else kv) (d.map λe=>if e.1=t.1 then(e.1,da p e.2 t.2) else e):=by
   intro Jt d h
   induction h with
   |nil=>intro _;exact .nil
   |@cons kv e ks es h0 ht ih =>
    intro hy;rw[Jr,Jr];refine .cons ?_ (ih λe' m=>hy e' (Er _ m))
    by_cases z:e.1=t.1
    ·rw[zj z,zj (by rw[h0.1,z])];exact⟨h0.1,a,rfl,hy e Ij z⟩
    ·rw[qM z,qM (λw=>z (pH (h0.1.symm.trans w)))];exact h0
  exact go h K5
 ·have q':d.any (λe=>decide (e.1=t.1))=false:=Bool.eq_false_iff.mpr q;rw[qM q,qM q];exact mx h ⟨rfl,a,rfl,N4 q'⟩
abbrev xB:Stmt:=(aQ 34)
structure Bd (p:Int)(ts:List Tm):Prop where
 len:ts.length<4000
 num:∀t∈ts,Gn p 4000 t.2
 steps:∀i,i<=ts.length->m9 p 4000 (aX p (ts.take i))
 few:((aX p ts).filter λe=>e.2.1 != 0).length<64
theorem Bd.of {ts:List Tm}{m:Nat}(hp:FP p)(h64:ts.length<64)(hG:∀t∈ts,Gn p m t.2)(hm:(m+1)*ts.length+7<=4000)(Z7:m<=4000):Bd p ts:=by
 refine⟨by omega,λt ht=>⟨(hG t ht).1,(hG t ht).2.1.mono Z7,(hG t ht).2.2.mono Z7⟩,λi hi=>?_,?_⟩
 ·obtain⟨g1,g2,g3⟩:=fO (m:=m) hp i (ts.take i) (by simp;omega) λt ht=>hG t (vZ ht);intro e he;have b:=g1 e he;have le:(m+1)*i+7<=4000:=EW (Nat.add_le_add_right (C6 _ hi) _) hm;exact⟨b.1,b.2.1.mono le,b.2.2.mono le⟩
 ·exact Gv (EW (NI _ _) (fO (m:=m) hp ts.length ts rfl hG).2.2) h64
def pq (C:Addr):Sp:=λvs H Q _=>∃(s dx l:Addr)(p:Int)(ys:List V)(ts:List Tm),vs=[.ref s,.ref l]/\H s=some (.ins C dx (cL p))/\FP p/\H l=some (.lst ys)/\aS H ys ts/\Bd p ts /\
 ∀H' D zs,aA H H'->H D=none->H' D=some (.lst zs)->aS H' zs (gy (aX p ts))->Q (.ref D) H'
theorem none_of {a:Addr}(s:aA H H')(h:H' a=none):H a=none:=by
 cases e:H a with
 |none=>rfl
 |some o=>rw[s _ _ e] at h;cases h
theorem jn:DK ["field","terms","totals","product","number","kept"] E2 (aq xB):=c9 (by decide +kernel)
theorem mK {α β:Type}{R:α->β->Prop}{k:Ky}{x:α}{y:β}(h:R x y):∀{l:List (Ky×α)}{m:List (Ky×β)},Paired (λa b=>a.1=b.1/\R a.2 b.2) l m->Paired (λa b=>a.1=b.1/\R a.2 b.2) (mw k x l) (mw k y m)
 |_,_,.nil=>.cons ⟨rfl,h⟩ .nil
 |_,_,.cons (a:=(j,u)) (b:=(j',v)) (l₁:=r) (l₂:=r') h0 t=>by
  obtain⟨e,h1⟩:=h0;have e:j=j':=e;subst e;show Paired _ (if mj k j=true then(k,x):: (j,u):: r else(j,u):: mw k x r) (if mj k j=true then(k,y):: (j,v):: r' else(j,v):: mw k y r')
  by_cases z:mj k j=true
  ·rw[zj z,zj z];exact .cons ⟨rfl,h⟩ (.cons ⟨rfl,h1⟩ t)
  ·rw[qM z,qM z];exact .cons ⟨rfl,h1⟩ (mK h t)
theorem iA {α β:Type}{R:α->β->Prop}:∀{l:List (Ky×α)}{m:List (Ky×β)},Paired (λa b=>a.1=b.1/\R a.2 b.2) l m->Paired (λa b=>a.1=b.1/\R a.2 b.2) (eh l) (eh m)
 |_,_,.nil=>.nil
 |_,_,.cons (a:=(j,u)) (b:=(j',v)) (l₁:=r) (l₂:=r') h0 t=>by
  obtain⟨e,h1⟩:=h0;have e:j=j':=e;subst e;exact mK h1 (iA t)
theorem mf {α β:Type}{R:α->β->Prop}:∀{l:List (Ky×α)}{m:List (Ky×β)},Paired (λa b=>a.1=b.1/\R a.2 b.2) l m->Paired R (l.map (·.2)) (m.map (·.2))
 |_,_,.nil=>.nil
 |_,_,.cons h t=>.cons h.2 (mf t)
theorem md {R:V->Tm->Prop}:∀{xs:List V}{es:List Tm},Paired R xs es->Paired (λa b=>a.1=b.1/\R a.2 b.2) ((es.map gm).zip xs) (es.map λe=>(gm e,e))
 |_,_,.nil=>.nil
 |_,_,.cons h t=>.cons ⟨rfl,h⟩ (md t)
theorem ji:∀{xs:List V}{es:List Tm}{H:Hp}{R:List V->Hp->Prop},aS H xs es →
 (∀ks H2,aA H H2->Paired (λx e=>∃a b,x=.ref a/\H2 a=some (.tup [.int e.1.length,.ref b])/\H2 b=some (.tup (e.1.map V.int))) ks es->R ks H2)->nk Dx xs H R
 |_,_,H,R,.nil,h=>h [] H (aA.refl _) .nil
 |_,_,H,R,.cons (b:=e) h0 t,h=>by
  obtain⟨a,pr,nu,rfl,ha,JQ,JZ⟩:=h0;refine⟨a,pr,.ref nu,_,rfl,ha,JQ,λtt WD=>?_⟩;rw[vW];have sU:aA H (upd H tt (.tup [.int e.1.length,.ref pr])):=ao WD;refine ji (aS.keep t (aD.of sU)) λks H2 s2 hk=>h _ H2 (λb u z=>s2 _ _ (sU _ _ z)) (.cons ⟨tt,pr,rfl,s2 _ _ ah,s2 _ _ (sU _ _ JQ)⟩ hk)
theorem j6 {K:Frag}:∀{ks:List V}{es:List Tm},Paired (λx e=>∃a b,x=.ref a/\H a=some (.tup [.int e.1.length,.ref b])/\H b=some (.tup (e.1.map V.int))) ks es->eF K H ks (es.map gm)
 |_,_,.nil=>True.intro
 |_,_,.cons h t=>by
  obtain⟨a,b,rfl,h1,h2⟩:=h;exact⟨⟨a,b,[],rfl,bf.of h1,bf.of h2⟩,j6 t⟩
theorem vd (h:(d.map (·.1)).Nodup)(f:Tm->Bool):((d.filter f).map gm).Nodup:=by
 have h1:((d.filter f).map (·.1)).Nodup:=h.sublist (List.filter_sublist.map _)
 have e:(d.filter f).map gm=((d.filter f).map (·.1)).map λk=>((k.length:Int),k):=by rw[Eg];rfl
 rw[e];unfold List.Nodup at h1 |-;rw[List.pairwise_map];exact h1.imp λh z=>h (Prod.mk.inj z).2
theorem iq (h:(d.map (·.1)).Nodup):∀{e e':Tm},e∈d->e'∈d->e.1=e'.1->e=e':=by
 induction d with
 |nil=>intro e e' h1;exact nomatch h1
 |cons a d ih =>
  rw[Jr,zJ] at h;intro e e' h1 h2 z
  rcases BN.mp h1 with h3|h3
  ·rcases BN.mp h2 with h4|h4
   ·rw[h3,h4]
   ·exact absurd (by rw[<-h3,z];exact Bs (f:=(·.1)) h4) h.1
  ·rcases BN.mp h2 with h4|h4
   ·exact absurd (by rw[<-h4,<-z];exact Bs (f:=(·.1)) h3) h.1
   ·exact ih h.2 h3 h4 z
variable {P:Iy}{w:World}{K:PySem.W.Frag}{mg:xk}{base:Heap}
variable {f:Addr}{fd:qo}
theorem adK {fp fo C:Addr}{Ke Nf:qo}(F:Dp K "gathered" "gathered" xB f fd)(c:CP K mg C)(JD:mg "sorted"=none)
 (WE:zG P w K mg base (aO P w) 4 fp Ke Gw (lY C iH))(WG:L2.ax K Ke Gw [])(WH:L2.Meth K C "plus" fp)
 (WI:zG P w K mg base (aO P w) 1 fo Nf ["term"] Dx)(WJ:L2.ax K Nf ["term"] [])(WK:mg "place_of_term"=some (.ref fo)):zG P w K mg base (aO P w) 5 f fd E2 (pq C):=by
 refine F.okN jn (λvs H Q E h=>?_) (λJw A outer s H vs Q E hr h=>?_)
 ·obtain⟨s,dx,l,p,ys,ts,rfl,_⟩:=h;rfl
 ·obtain⟨s0,dx,l,p,ys,ts,rfl,hs,hp,hl,QK,G,q⟩:=h;have h64:=G.len;have hG:=G.num;have JO:A8 4 _:=hr.mono (by decide);have WM:A8 3 _:=hr.mono (by decide);have hu:=(hr.units:_+64<cLine)
  replace hu:=Gv (Nat.add_le_add_left (by decide:1<=64) _) hu
  refine⟨_,(aj (@aW _ _ 2 _ _ _ _ jn.nd rfl (Or.inl rfl) qr rfl (Or.inl rfl))
   (aj (dw wk rfl (cy (pv 1)) (cA rfl (aG (aC (i:=3) jn.nd rfl (Or.inl rfl)) (aG (aC (i:=4) jn.nd rfl (Or.inl rfl)) bX)))
   (aj (bc (aah (aaM hu (pv 3) (pv 2))) (ak (@aW _ _ 4 _ _ _ _ jn.nd rfl (Or.inl rfl) (bH (pv 0) c.cl WH WE JO WG .nil ae (@ai _ _ _ _ _ (pb hu (pv 2) (pv 3) (λ_ _=>rfl)) (@ai _ _ _ _ _ (pv 4) af rfl) rfl)) rfl (Or.inl rfl))) aE)
   (ak (vj hu (pv 2) (pv 3) (pv 4) (by rfl)))))
   (aj (pe (i:=5) (g:=jd K 2 (cD (bN 0) (cD (bN 1) CN))) (N:=["product","number"]) (nl:=2) (js:=[]) (osc:=aq xB) ⟨rfl,rfl,by decide +kernel,by decide +kernel,by decide +kernel,rfl,.nil,by decide +kernel⟩ rfl jn.nd rfl (Or.inl rfl)
    (adQ (pv 2))
    (λC fp s H=>(cA (X:=cG _ ["product","number"] _ C fp s H) rfl (aG (aC (X:=cG _ ["product","number"] _ C fp s H) (i:=0) (by show(["product","number"]:p3).Nodup;decide +kernel) rfl (Or.inl rfl) (Or.inr rfl)) (aG (aC (X:=cG _ ["product","number"] _ C fp s H) (i:=1) (by show(["product","number"]:p3).Nodup;decide +kernel) rfl (Or.inl rfl) (Or.inr rfl)) bX))))
    (λC fp s H=>(iU (@aM _ _ _ _ _ _ _ _ ib (@a9 _ _ _ _ _ _ _ (show B5 _ (vM K) from br) (pv 1) ar (λ_ _=>rfl)) ar (aJ _))))
    (λC fp s H=>(@bu _ _ _ _ _ (@ai _ _ _ _ _ (pv 0) (@ai _ _ _ _ _ (pv 1) af rfl) rfl))) (by rfl))
   (ak (az (qT WI WM WJ (by rfl) JD (by rfl) WK (pv 5))))))),?_⟩
  have hlen:=QK.length
  have gg:∀i,i<=ts.length->m9 p 4000 (aX p (ts.take i))/\((aX p (ts.take i)).map (·.1)).Nodup/\(aX p (ts.take i)).length<=i:=λi hi=>by
   obtain⟨_,g2,g3⟩:=fO (m:=4000) hp i (ts.take i) (by simp;omega) λt ht=>hG t (vZ ht);exact⟨G.steps i hi,g2,g3⟩
  refine λdd KN=>?_;have s1:aA H (upd H dd (.dT [])):=ao KN;refine⟨_,rfl,l,rfl,⟨ys,aV.of (s1 _ _ hl)⟩,?_⟩
  refine⟨λi m σ' H'=>m=ts.length-i/\i<=ts.length/\aA H H'/\(∃Jt,H' dd=some (.dT Jt)/\DR H' Jt (aX p (ts.take i)))/\∃o3 o4,σ'=[some (.ref s0),some (.ref l),some (.ref dd),o3,o4,none],
   ⟨ts.length,by simp,Ag _,s1,⟨[],ah,.nil⟩,none,none,rfl⟩,?_⟩
  rintro i m' σ' H' ⟨rfl,hi,sH,⟨Jt,hd,dr⟩,o3,o4,rfl⟩;have Ku:=sH _ _ hl;have LH:=sH _ _ hs;obtain⟨gd,LL,gl⟩:=gg i hi
  by_cases JB:i<ts.length
  ·have hly:i<ys.length:=by omega
   refine .inr ⟨⟨ys,ys[i],aV.of Ku,by simp[hly]⟩,λσ' H'=>i+1<=ts.length/\aA H H'/\(∃Jt,H' dd=some (.dT Jt)/\DR H' Jt (aX p (ts.take (i+1))))/\∃o3 o4,σ'=[some (.ref s0),some (.ref l),some (.ref dd),o3,o4,none],?_,λy H2 hy=>?_⟩
   ·rintro σ' H' ⟨h1,h2,h3,h4⟩;exact⟨ts.length-(i+1),by omega,rfl,h1,h2,h3,h4⟩
   ·obtain⟨rfl,hy⟩:=hy;obtain⟨t,et,tr⟩:=aY QK (hy ys (aV.of Ku));obtain⟨a,pr,nu,rfl,ha,JQ,JZ⟩:=tr.keep (aD.of sH);have gt:=hG t (v5 et)
    have Kl:ts.take (i+1)=ts.take i++[t]:=by rw[vQ,et];rfl
    have KP:∀H3:Hp,aD H2 H3->H3 pr=some (.tup ((jO t.1).map kV)):=λH3 k=>by rw[jy];exact k _ _ JQ
    have fin:∀(H3:Hp)(an:Addr),aA H H3->aD H2 H3->H3 dd=some (.dT Jt)->((aX p (ts.take i)).any (λe=>decide (e.1=t.1))=false->H3 an=some (bo t.2.1 t.2.2)) →
     (∀e∈aX p (ts.take i),e.1=t.1->H3 an=some (bo (da p e.2 t.2).1 (da p e.2 t.2).2)) →
     aA H (upd H3 dd (.dT (fT Jt (jO t.1) (.ref an))))/\∃LM,(upd H3 dd (.dT (fT Jt (jO t.1) (.ref an)))) dd=some (.dT LM)/\DR (upd H3 dd (.dT (fT Jt (jO t.1) (.ref an)))) LM (aX p (ts.take (i+1))):=by
     intro H3 an s3 k3 h3 N4 K5;refine⟨λb u e=>by rw[av (au e KN)];exact s3 b u e,_,ah,?_⟩;rw[Kl,i9];exact(zh (dr.keep k3) LL N4 K5).keep (aD.upd λxs z=>by rw[h3] at z;cases z)
    have LN:Jt.length<sizeLine:=by
     rw[dr.length];exact Gv gl (wG (Gv hi h64) (by decide))
    refine⟨a,_,rfl,bf.of ha,rfl,_,_,rfl,_,_,rfl,rfl,?_⟩;refine⟨_,rfl,_,rfl,dd,_,rfl,jh.t hd (KP _ λ_ _ e=>e),_,rfl,?_⟩
    cases hq:(aX p (ts.take i)).any (λe=>decide (e.1=t.1)) with
    |false =>
     rw[uY t.1 dr hq];refine bw ?_;refine⟨_,rfl,_,rfl,_,rfl,dd,_,rfl,qX.t hd (KP _ λ_ _ e=>e) LN,?_⟩
     obtain⟨f1,f2⟩:=fin H2 nu sH (λ_ _ e=>e) hd (λ_=>JZ) λe he z=>by
      have:(aX p (ts.take i)).any (λe=>decide (e.1=t.1))=true:=wm.mpr ⟨e,he,by simpa using z⟩;rw[hq] at this;cases this
     exact⟨JB,f1,f2,_,_,rfl⟩
    |true =>
     obtain⟨e,he,ek,a0,hv,QL⟩:=lW t.1 dr hq;rw[hv];refine bZ ?_;have ge:=gd e he
     refine⟨_,rfl,s0,dx,_,rfl,LH,rfl,_,rfl,_,rfl,dd,_,rfl,(by rw[<-hv];exact jh.t hd (KP _ λ_ _ e=>e)),_,rfl,s0,dx,a0,nu,p,e.2.1,e.2.2,t.2.1,t.2.2,rfl,LH,hp,QL,JZ,
      ge.2.1,ge.2.2,gt.2.1,gt.2.2,ge.ne,gt.ne,λa1 KC=>?_⟩
     have sU:aA H2 (upd H2 a1 (bo (da p e.2 t.2).1 (da p e.2 t.2).2)):=ao KC;refine⟨_,rfl,_,rfl,_,rfl,dd,_,rfl,qX.t (sU _ _ hd) (KP _ (aD.of sU)) LN,?_⟩
     obtain⟨f1,f2⟩:=fin _ a1 (λb u z=>sU _ _ (sH _ _ z)) (aD.of sU) (sU _ _ hd) (λz=>by rw[hq] at z;cases z) λe' LO z=>by
      have:e'=e:=iq LL LO he (z.trans ek.symm);subst this;exact ah
     exact⟨JB,f1,f2,_,_,rfl⟩
  ·have ei:i=ts.length:=by omega
   subst ei;refine .inl ⟨⟨ys,aV.of Ku,by omega⟩,?_⟩;rw[vt] at dr gd LL gl;refine⟨_,rfl,dd,Jt,rfl,.inr ⟨hd,λo=>?_⟩⟩
   have sF:aA H (upd H' dd (pP o Jt)):=λb u e=>by rw[av (au e KN)];exact sH b u e
   have WN:DR (upd H' dd (pP o Jt)) Jt (aX p ts):=dr.keep (aD.upd λxs z=>by rw[hd] at z;cases z);have kl:Jt.length=(aX p ts).length:=dr.length
   refine⟨λi m xs σ' H2=>m=(aX p ts).length-i/\i<=(aX p ts).length/\aA H H2/\H2 dd=some (pP o Jt)/\DR H2 Jt (aX p ts)/\aS H2 xs (((aX p ts).take i).filter λe=>e.2.1 != 0)/\∃o1 o2,σ'=[o1,o2],
    ⟨(aX p ts).length,by simp,Ag _,sF,ah,WN,.nil,none,none,rfl⟩,?_⟩
   rintro i m' xs σ' H2 ⟨rfl,PQ,s2,hd2,Ng,J6,o1,o2,rfl⟩
   have xl:xs.length<=(aX p ts).length:=by
    rw[J6.length];exact EW (NI _ _) (by simp;omega)
   refine⟨Gv (EW xl gl) (wG h64 (by decide)),?_⟩
   by_cases LP:i<(aX p ts).length
   ·refine .inr ⟨⟨by omega,hd2⟩,λx H3 hx=>?_⟩;obtain⟨pp,b,k,v,hk,PL,hb,rfl,rfl⟩:=hx;obtain⟨e,ee,ek,a,ev,ha⟩:=aY Ng hk;have ek:k=jO e.1:=ek;have ev:v=.ref a:=ev;subst ek;subst ev;have sP:aA H2 (upd H2 pp (.tup [.ref b,.ref a])):=ao PL
    have Kl:(aX p ts).take (i+1)=(aX p ts).take i++[e]:=by rw[vQ,ee];rfl
    rw[jy] at hb;refine⟨pp,_,rfl,bf.of ah,rfl,_,_,rfl,_,_,rfl,rfl,?_⟩;refine⟨_,rfl,a,_,0,_,rfl,rfl,bf.of (sP _ _ ha),rfl,rfl,_,rfl,?_⟩;have dP:upd H2 pp (.tup [.ref b,.ref a]) dd=some (pP o Jt):=sP _ _ hd2
    cases hz:(e.2.1 != 0) with
    |true =>
     have z:(!decide (V.int e.2.1=V.int 0))=true:=by
      have:e.2.1≠0:=by simpa using hz
      simp[this]
     rw[z];refine bZ ⟨_,rfl,_,rfl,gR,λt' WO=>?_⟩;have sT:aA (upd H2 pp (.tup [.ref b,.ref a])) (upd (upd H2 pp (.tup [.ref b,.ref a])) t' (.tup [.ref b,.ref a])):=ao WO;have sA:aA H2 (upd (upd H2 pp (.tup [.ref b,.ref a])) t' (.tup [.ref b,.ref a])):=λc u e=>sT _ _ (sP _ _ e);refine⟨(aX p ts).length-(i+1),by omega,rfl,LP,λc u e=>sA _ _ (s2 _ _ e),sA _ _ hd2,Ng.keep (aD.of sA),?_,_,_,rfl⟩;rw[Kl,zF]
     have ef:[e].filter (λe=>e.2.1 != 0)=[e]:=by simp[hz]
     rw[ef];exact mx (aS.keep J6 (aD.of sA)) ⟨t',b,a,rfl,ah,sA _ _ hb,sA _ _ ha⟩
    |false =>
     have z:(!decide (V.int e.2.1=V.int 0))=false:=by
      have:e.2.1=0:=by simpa using hz
      simp[this]
     rw[z];refine bw ⟨(aX p ts).length-(i+1),by omega,rfl,LP,λc u e=>sP _ _ (s2 _ _ e),sP _ _ hd2,Ng.keep (aD.of sP),?_,_,_,rfl⟩;rw[Kl,zF]
     have ef:[e].filter (λe=>e.2.1 != 0)=[]:=by simp[hz]
     rw[ef,xY];exact aS.keep J6 (aD.of sP)
   ·have WQ:i=(aX p ts).length:=by omega
    subst WQ;refine .inl ⟨⟨by omega,hd2⟩,λD hD=>?_⟩;rw[vt] at J6;have sD:aA H2 (upd H2 D (.lst xs)):=ao hD;refine⟨_,rfl,D,xs,rfl,aV.of ah,(by rw[J6.length];exact G.few),?_⟩;refine ji (aS.keep J6 (aD.of sD)) λks H3 s3 hk=>?_;refine⟨_,j6 hk,vd LL _,λD2 QM=>?_⟩;have sE:aA H3 (upd H3 D2 (.lst ((eh ((((aX p ts).filter λe=>e.2.1 != 0).map gm).zip xs)).map (·.2)))):=ao QM;refine q _ D2 _ (λc u e=>sE _ _ (s3 _ _ (sD _ _ (s2 _ _ e)))) (none_of (λc u e=>s3 _ _ (sD _ _ (s2 _ _ e))) QM) ah ?_;have WR:aS H3 xs ((aX p ts).filter λe=>e.2.1 != 0):=aS.keep J6 (aD.of λc u e=>s3 _ _ (sD _ _ e));exact aS.keep (mf (iA (md WR))) (aD.of sE)
abbrev Jc:Stmt:=(aQ 62)
abbrev Dy:Stmt:=(aQ 63)
def Hn:Sp:=λvs H Q _=>∃(l:Addr)(p:Int)(ys:List V)(ts:List Tm),vs=[.int p,.ref l]/\FP p/\H l=some (.lst ys)/\aS H ys ts/\Bd p ts /\
 ∀H' D zs,aA H H'->H D=none->H' D=some (.lst zs)->aS H' zs (gy (aX p ts))->Q (.ref D) H'
theorem adR:DK Br Br (aq Jc):=c9 (by decide +kernel)
theorem uW:DK ["_law_prime","_law_terms","_law_found","_law_product","_law_number"] oI (aq Dy):=c9 (by decide +kernel)
theorem adS (F:Dp K "_law_row_key" "_law_row_key" Jc f fd)(Jv:mg "len"=none):zG P w K mg base (aO P w) 1 f fd Br Dx:=by
 refine F.okN adR (λvs H Q E h=>?_) (λJw A outer s H vs Q E hr h=>?_)
 ·obtain⟨a,b,z,xs,rfl,_⟩:=h;rfl
 ·obtain⟨a,b,z,xs,rfl,ha,hb,q⟩:=h;refine⟨_,(ak (az (@bu _ _ _ _ _ (@ai _ _ _ _ _ (aB aK (by rfl) Jv A2 (@ai _ _ _ _ _ (@a9 _ _ _ _ _ _ _ br (pv 0) ar (λ_ _=>rfl)) af rfl)) (@ai _ _ _ _ _ (@a9 _ _ _ _ _ _ _ br (pv 0) ar (λ_ _=>rfl)) af rfl) rfl)))),?_⟩;refine⟨_,rfl,a,_,0,_,rfl,rfl,bf.of ha,rfl,b,xs,rfl,.inr (bf.of hb),_,rfl,a,_,0,_,rfl,rfl,bf.of ha,rfl,gR,λt ht=>q t ht⟩
theorem adU {fl fk:Addr}{JX Z8:qo}(F:Dp K "_law_gathered" "_law_gathered" Dy f fd)(JD:mg "sorted"=none)
 (FLp:zG P w K mg base (aO P w) 3 fl JX AX (oE iH))(bLp:L2.ax K JX AX [])(mLp:mg "_law_plus"=some (.ref fl))(kLp:keepIn K (.ref fl)=true)
 (FRk:zG P w K mg base (aO P w) 1 fk Z8 Br Dx)(bRk:L2.ax K Z8 Br [])(mRk:mg "_law_row_key"=some (.ref fk)):
 zG P w K mg base (aO P w) 4 f fd oI Hn:=by
 refine F.okN uW (λvs H Q E h=>?_) (λJw A outer s H vs Q E hr h=>?_)
 ·obtain⟨l,p,ys,ts,rfl,_⟩:=h;rfl
 ·obtain⟨l,p,ys,ts,rfl,hp,hl,QK,G,q⟩:=h;have h64:=G.len;have hG:=G.num;have LK:A8 3 _:=hr.mono (by decide);have WM:A8 3 _:=hr.mono (by decide);have hu:=(hr.units:_+64<cLine)
  replace hu:=Gv (Nat.add_le_add_left (by decide:1<=64) _) hu
  refine⟨_,(aj (@aW _ _ 2 _ _ _ _ uW.nd rfl (Or.inr rfl) qr rfl (Or.inl rfl))
   (aj (dw wk rfl (cy (pv 1)) (cA rfl (aG (aC (i:=3) uW.nd rfl (Or.inl rfl)) (aG (aC (i:=4) uW.nd rfl (Or.inl rfl)) bX)))
   (ak (vj hu (pv 2) (pv 3) (ay FLp LK (by rfl) mLp kLp bLp .nil ae (@ai _ _ _ _ _ (pv 0) (@ai _ _ _ _ _ (ab5 hu (pv 2) (pv 3) (@bu _ _ _ _ _ (@ai _ _ _ _ _ ar (@ai _ _ _ _ _ ar af rfl) rfl)) ⟨rfl,rfl,rfl,rfl⟩) (@ai _ _ _ _ _ (pv 4) af rfl) rfl) rfl)) (by rfl))))
   (ak (az (qT FRk WM bRk (by rfl) JD (by rfl) mRk (dm (N:=["_law_product","_law_found"]) (nl:=1) (js:=[2]) (osc:=aq Dy) ⟨rfl,rfl,by decide +kernel,by decide +kernel,by decide +kernel,rfl,(.cons ⟨rfl,by decide +kernel⟩ .nil),by decide +kernel⟩ rfl
    (aeb (pv 2))
    (λCq fq sq Hq=>aC (i:=0) (by show(["_law_product","_law_found"]:p3).Nodup;decide +kernel) rfl (Or.inl rfl) (Or.inr rfl))
    (λCq fq sq Hq=>(iU (@aM _ _ _ _ _ _ _ _ ib (@a9 _ _ _ _ _ _ _ (show B5 _ (vM K) from br) (pb hu (pv 1) (pv 0) (λ_ _=>rfl)) ar (λ_ _=>rfl)) ar (aJ _))))
    (λCq fq sq Hq=>(@bu _ _ _ _ _ (@ai _ _ _ _ _ (pv 0) (@ai _ _ _ _ _ (pb hu (pv 1) (pv 0) (λ_ _=>rfl)) af rfl) rfl))))))))),?_⟩
  have hlen:=QK.length
  have gg:∀i,i<=ts.length->m9 p 4000 (aX p (ts.take i))/\((aX p (ts.take i)).map (·.1)).Nodup/\(aX p (ts.take i)).length<=i:=λi hi=>by
   obtain⟨_,g2,g3⟩:=fO (m:=4000) hp i (ts.take i) (by simp;omega) λt ht=>hG t (vZ ht);exact⟨G.steps i hi,g2,g3⟩
  have one:∀{n:Nat}{a:Int×Int},Gn p n a->p≠0->a.2=1:=λh z=>(h.1.pr z).1;refine λdd KN=>?_;have s1:aA H (upd H dd (.dT [])):=ao KN;refine⟨_,rfl,l,rfl,⟨ys,aV.of (s1 _ _ hl)⟩,?_⟩;refine fJ (xs:=ys) (λi σ' H'=>aA H H'/\(∃Jt,H' dd=some (.dT Jt)/\DR H' Jt (aX p (ts.take i)))/\∃o3 o4,σ'=[some (.int p),some (.ref l),some (.ref dd),o3,o4]) ⟨s1,⟨[],ah,.nil⟩,none,none,rfl⟩ (λi σ' H' _ h=>aV.of (h.1 _ _ hl)) (λi x σ' H2 hx h=>?_) (λσ' H' h=>?_)
  ·obtain⟨sH,⟨Jt,hd,dr⟩,o3,o4,rfl⟩:=h;obtain⟨t,et,tr⟩:=aY QK hx;have hi:i<ts.length:=(Be.mp et).1;obtain⟨gd,LL,gl⟩:=gg i (by omega);obtain⟨a,pr,nu,rfl,ha,JQ,JZ⟩:=tr.keep (aD.of sH);have gt:=hG t (v5 et)
   have Kl:ts.take (i+1)=ts.take i++[t]:=by rw[vQ,et];rfl
   have KP:∀H3:Hp,aD H2 H3->H3 pr=some (.tup ((jO t.1).map kV)):=λH3 k=>by rw[jy];exact k _ _ JQ
   have LN:Jt.length<sizeLine:=by
    rw[dr.length];exact Gv gl (wG (wG hi h64) (by decide))
   have fin:∀(H3:Hp)(an:Addr),aA H2 H3->((aX p (ts.take i)).any (λe=>decide (e.1=t.1))=false->H3 an=some (bo t.2.1 t.2.2))->(∀e∈aX p (ts.take i),e.1=t.1->H3 an=some (bo (da p e.2 t.2).1 (da p e.2 t.2).2)) →
    aA H (upd H3 dd (.dT (fT Jt (jO t.1) (.ref an))))/\∃LM,(upd H3 dd (.dT (fT Jt (jO t.1) (.ref an)))) dd=some (.dT LM)/\DR (upd H3 dd (.dT (fT Jt (jO t.1) (.ref an)))) LM (aX p (ts.take (i+1))):=by
    intro H3 an s3 N4 K5;refine⟨λb u e=>by rw[av (au e KN)];exact s3 b u (sH b u e),_,ah,?_⟩;rw[Kl,i9];exact(zh (dr.keep (aD.of s3)) LL N4 K5).keep (aD.upd λxs z=>by rw[s3 _ _ hd] at z;cases z)
   refine⟨a,_,rfl,bf.of ha,rfl,_,_,rfl,_,_,rfl,rfl,?_⟩;refine⟨_,rfl,_,rfl,dd,rfl,.inr ⟨Jt,.inl hd⟩,_,rfl,gR,λt0 LQ=>?_⟩;have sZ:aA H2 (upd H2 t0 (.tup [.int 0,.int 1])):=ao LQ;refine⟨_,jh.t (sZ _ _ hd) (KP _ (aD.of sZ)),?_⟩
   cases hq:(aX p (ts.take i)).any (λe=>decide (e.1=t.1)) with
   |false =>
    rw[uY t.1 dr hq];refine⟨_,rfl,p,0,1,t.2.1,t.2.2,t0,nu,rfl,hp,ah,sZ _ _ JZ,(by unfold B;decide),(by show(1:Nat)<2^4000;exact Nat.one_lt_two_pow (by decide)),gt.2.1,gt.2.2,(by decide),gt.ne,λz=>by rw[one gt z];decide,λH3 an s3 h3=>?_⟩;have ez:da p (0,1) t.2=t.2:=adA hp gt;have sA:aA H2 H3:=sZ.trans s3;refine⟨_,rfl,_,rfl,dd,_,rfl,qX.t (sA _ _ hd) (KP _ (aD.of sA)) LN,?_⟩
    obtain⟨f1,f2⟩:=fin H3 an sA (λ_=>by
     have:H3 an=some (bo (da p (0,1) t.2).1 (da p (0,1) t.2).2):=h3;rw[ez] at this
     exact this) λe he z=>by
     have:(aX p (ts.take i)).any (λe=>decide (e.1=t.1))=true:=wm.mpr ⟨e,he,by simpa using z⟩;rw[hq] at this;cases this
    exact⟨f1,f2,_,_,rfl⟩
   |true =>
    obtain⟨e,he,ek,a0,hv,QL⟩:=lW t.1 dr hq;rw[hv];have ge:=gd e he;refine⟨_,rfl,p,e.2.1,e.2.2,t.2.1,t.2.2,a0,nu,rfl,hp,sZ _ _ QL,sZ _ _ JZ,ge.2.1,ge.2.2,gt.2.1,gt.2.2,ge.ne,gt.ne,λz=>by rw[one gt z,one ge z];decide,λH3 an s3 h3=>?_⟩;have sA:aA H2 H3:=sZ.trans s3;refine⟨_,rfl,_,rfl,dd,_,rfl,qX.t (sA _ _ hd) (KP _ (aD.of sA)) LN,?_⟩
    obtain⟨f1,f2⟩:=fin H3 an sA (λz=>by rw[hq] at z;cases z) λe' LO z=>by
     have:e'=e:=iq LL LO he (z.trans ek.symm);subst this;exact h3
    exact⟨f1,f2,_,_,rfl⟩
  ·obtain⟨sH,⟨Jt,hd,dr⟩,o3,o4,rfl⟩:=h;obtain⟨gd,LL,gl⟩:=gg ts.length (zC _);rw[hlen] at dr;rw[vt] at dr gd LL gl;refine⟨_,rfl,dd,Jt,rfl,.inr ⟨hd,λo=>?_⟩⟩
   have sF:aA H (upd H' dd (pP o Jt)):=λb u e=>by rw[av (au e KN)];exact sH b u e
   have WN:DR (upd H' dd (pP o Jt)) Jt (aX p ts):=dr.keep (aD.upd λxs z=>by rw[hd] at z;cases z);have kl:Jt.length=(aX p ts).length:=dr.length
   refine⟨λi m xs σ' H2=>m=(aX p ts).length-i/\i<=(aX p ts).length/\aA H H2/\H2 dd=some (pP o Jt)/\DR H2 Jt (aX p ts)/\aS H2 xs (((aX p ts).take i).filter λe=>e.2.1 != 0)/\∃o1,σ'=[o1,some (.ref dd)],
    ⟨(aX p ts).length,by simp,Ag _,sF,ah,WN,.nil,none,rfl⟩,?_⟩
   rintro i m' xs σ' H2 ⟨rfl,PQ,s2,hd2,Ng,J6,o1,rfl⟩
   have xl:xs.length<=(aX p ts).length:=by
    rw[J6.length];exact EW (NI _ _) (by simp;omega)
   refine⟨Gv (EW xl gl) (wG h64 (by decide)),?_⟩
   by_cases LP:i<(aX p ts).length
   ·refine .inr ⟨⟨by omega,hd2⟩,λx H3 hx=>?_⟩;obtain⟨b,k,v,hk,hb,rfl,rfl⟩:=hx;obtain⟨e,ee,ek,_⟩:=aY Ng hk;have ek:k=jO e.1:=ek;subst ek;have he:=v5 ee
    have Kl:(aX p ts).take (i+1)=(aX p ts).take i++[e]:=by rw[vQ,ee];rfl
    obtain⟨e',LO,ek',a,hv,ha⟩:=lW e.1 Ng (wm.mpr ⟨e,he,by simp⟩);have:e'=e:=iq LL LO he ek';subst this;have dg:jh H3 dd (.ref b) (some (.ref a)):=.inr ⟨Jt,jO e'.1,b,.inr ⟨o,hd2⟩,rfl,hb,hv.symm⟩;have JN:=hb;rw[jy] at JN;refine⟨_,rfl,_,rfl,dd,.ref a,rfl,dg,a,_,0,_,rfl,rfl,bf.of ha,rfl,rfl,_,rfl,?_⟩
    cases hz:(e'.2.1 != 0) with
    |true =>
     have z:(!decide (V.int e'.2.1=V.int 0))=true:=by
      have:e'.2.1≠0:=by simpa using hz
      simp[this]
     rw[z];refine bZ ⟨_,rfl,_,rfl,_,rfl,dd,.ref a,rfl,dg,gR,λt' WO=>?_⟩;have sA:aA H3 (upd H3 t' (.tup [.ref b,.ref a])):=ao WO;refine⟨(aX p ts).length-(i+1),by omega,rfl,LP,s2.trans sA,sA _ _ hd2,Ng.keep (aD.of sA),?_,_,rfl⟩;rw[Kl,zF]
     have ef:[e'].filter (λe=>e.2.1 != 0)=[e']:=by simp[hz]
     rw[ef];exact mx (aS.keep J6 (aD.of sA)) ⟨t',b,a,rfl,ah,sA _ _ JN,sA _ _ ha⟩
    |false =>
     have z:(!decide (V.int e'.2.1=V.int 0))=false:=by
      have:e'.2.1=0:=by simpa using hz
      simp[this]
     rw[z];refine bw ⟨(aX p ts).length-(i+1),by omega,rfl,LP,s2,hd2,Ng,?_,_,rfl⟩;rw[Kl,zF]
     have ef:[e'].filter (λe=>e.2.1 != 0)=[]:=by simp[hz]
     rw[ef,xY];exact J6
   ·have WQ:i=(aX p ts).length:=by omega
    subst WQ;refine .inl ⟨⟨by omega,hd2⟩,λD hD=>?_⟩;rw[vt] at J6;have sD:aA H2 (upd H2 D (.lst xs)):=ao hD;refine⟨D,xs,rfl,aV.of ah,(by rw[J6.length];exact G.few),?_⟩;refine ji (aS.keep J6 (aD.of sD)) λks H3 s3 hk=>?_;refine⟨_,j6 hk,vd LL _,λD2 QM=>?_⟩;have sE:aA H3 (upd H3 D2 (.lst ((eh ((((aX p ts).filter λe=>e.2.1 != 0).map gm).zip xs)).map (·.2)))):=ao QM;refine q _ D2 _ (λc u e=>sE _ _ (s3 _ _ (sD _ _ (s2 _ _ e)))) (none_of (λc u e=>s3 _ _ (sD _ _ (s2 _ _ e))) QM) ah ?_;have WR:aS H3 xs ((aX p ts).filter λe=>e.2.1 != 0):=aS.keep J6 (aD.of λc u e=>s3 _ _ (sD _ _ e));exact aS.keep (mf (iA (md WR))) (aD.of sE)
abbrev oK:Stmt:=aF (aQ 37) 0
def Ez (ks:List Int):Prop:=kJ (some (ks.map V.int))=true/\ks.length<4000
theorem u7 {t:Int}(n:Num p t b):tG p (some (.int t,.int b))=true:=by
 unfold tG;dsimp only
 by_cases z:p=0
 ·rw[zj z,n.red];have:=n.pos;simp;omega
 ·rw[qM z];obtain⟨h1,h2,h3⟩:=n.pr z;simp[h1,h2,h3]
theorem ad2 {y:V}{t:Tm}(h:Ey H y t)(g:Gn p n t.2)(pd:Ez t.1):vL p H y true:=by
 obtain⟨a,pr,nu,rfl,ha,JQ,JZ⟩:=h
 have e:vL p H (.ref a) (kJ (some (t.1.map V.int))&&tG p (some (.int t.2.1,.int t.2.2))):=.two ha (.tup JQ (by rw[vW];exact pd.2) λy hy=>by
  obtain⟨k,_,rfl⟩:=Hy.mp hy
  exact⟨_,.int k⟩) (.two JZ (.int _) (.int _))
 rw[pd.1,u7 g.1] at e;exact e
theorem w8 :∀{ys:List V}{ts:List Tm},aS H ys ts->(∀t∈ts,Gn p n t.2/\Ez t.1)->∀y∈ys,vL p H y true
 |_,_,.nil,_,y,hy=>nomatch hy
 |_,_,.cons h t,g,y,hy=>by
  rcases BN.mp hy with rfl|hy
  ·exact ad2 h (g _ Ij).1 (g _ Ij).2
  ·exact w8 t (λt ht=>g t (Er _ ht)) y hy
structure DB (K:Frag)(mg:xk)(C:Addr):Prop where
 cl:Gb K C
 nF:dz K C "its_field"
 nT:dz K C "its_terms"
 mgC:mg "Sum"=some (.ref C)
def ow (fl D:Addr):List (Str×V):=[("its_field",.ref fl),("its_terms",.ref D)]
def hV (C CF:Addr):Sp:=λvs H Q _=>∃(s dx fl Ju:Addr)(p:Int)(x:V)(ts:List Tm),vs=[.ref s,.ref fl,x]/\H s=some (.ins C dx [])/\H fl=some (.ins CF Ju (cL p))/\FP p /\
 ((x=.non/\ts=[])\/∃l ys,x=.ref l/\H l=some (.lst ys)/\aS H ys ts)/\Bd p ts/\(∀t∈ts,Ez t.1) /\
 ∀H' D zs,SameBut s H H'->H D=none->H' s=some (.ins C dx (ow fl D))->H' D=some (.lst zs)->aS H' zs (gy (aX p ts))->Q .non H'
theorem ad3:DK yg yg (aq oK):=c9 (by decide +kernel)
theorem ad4 {fg fc C CF T:Addr}{JP LS:qo}(F:HK K "__init__" "Sum.__init__" oK f fd T)(c:DB K mg C)
 (FG:zG P w K mg base (aO P w) 5 fg JP E2 (pq CF))(bG:L2.ax K JP E2 [])(mG:mg "gathered"=some (.ref fg))(kG:keepIn K (.ref fg)=true)
 (FC:zG P w K mg base (aO P w) 5 fc LS E2 (oj CF))(bC:L2.ax K LS E2 [])(mC:mg "checked_terms"=some (.ref fc))(kC:keepIn K (.ref fc)=true):
 zG P w K mg base (aO P w) 6 f fd yg (hV C CF):=by
 refine F.okE ad3 (λvs H Q E h=>?_) (λJw A outer s H vs Q E hr h=>?_)
 ·obtain⟨s,dx,fl,Ju,p,x,ts,rfl,_⟩:=h;rfl
 ·obtain⟨s0,dx,fl,Ju,p,x,ts,rfl,hs,hf,hp,hx,G,hP,q⟩:=h;have hG:∀t∈ts,Gn p 4000 t.2/\Ez t.1:=λt ht=>⟨G.num t ht,hP t ht⟩;have KY:A8 5 _:=hr.mono (by decide);refine⟨_,aj (gN (pv 0) (pv 1) rfl) (ak (gN (pv 0) (ay FG KY (by rfl) mG kG bG .nil ae (@ai _ _ _ _ _ (pv 1) (@ai _ _ _ _ _ (ay FC KY (by rfl) mC kC bC .nil ae (@ai _ _ _ _ _ (pv 1) (@ai _ _ _ _ _ (pv 2) af rfl) rfl)) af rfl) rfl)) rfl)),?_⟩;refine⟨_,rfl,_,rfl,s0,C,dx,_,rfl,hs,c.cl,c.nF,by decide,?_⟩
  have N7:fl≠s0:=λz=>by
   rw[z,hs] at hf
   injection hf with hf
   injection hf with _ _ hf
   cases hf
  have Ol:upd H s0 (.ins C dx (cP "its_field" (.ref fl) [])) fl=some (.ins CF Ju (cL p)):=by rw[av N7];exact hf
  have kT:aD H (upd H s0 (.ins C dx (cP "its_field" (.ref fl) []))):=aD.upd λxs z=>by rw[hs] at z;cases z
  have fin:∀(H2:Hp)(l:Addr)(ys:List V),aA (upd H s0 (.ins C dx (cP "its_field" (.ref fl) []))) H2->H2 l=some (.lst ys)->aS H2 ys ts->pq CF [.ref fl,.ref l] H2 (λy H1=>gr 0 [some (.ref s0),some (.ref fl),some x] H1 λx2 H2=>∃a C dx fs,x2=.ref a/\H2 a=some (.ins C dx fs)/\Gb K C/\dz K C "its_terms"/\fs.length<1000 /\
   Q .non (upd H2 a (.ins C dx (cP "its_terms" y fs)))) λ_ _ _=>False:=by
   intro H2 l ys s2 hl ht;refine⟨fl,Ju,l,p,ys,ts,rfl,s2 _ _ Ol,hp,hl,ht,G,λH3 D zs s3 h0 hD hz=>?_⟩;have Om:H3 s0=some (.ins C dx (cP "its_field" (.ref fl) [])):=s3 _ _ (s2 _ _ ah);refine⟨_,rfl,s0,C,dx,_,rfl,Om,c.cl,c.nT,(by show 1<1000;decide),?_⟩
   have nD:D≠s0:=λz=>by rw[z,Om] at hD;cases hD
   refine q _ D zs (λb u e nb=>?_) (none_of (λc u e=>e) (by
    cases e:H D with
    |none=>rfl
    |some u=>rw[s2 D u (by rw[av nD];exact e)] at h0;cases h0)) ah (by rw[av nD];exact hD) (aS.keep hz (aD.upd λxs z=>by rw[Om] at z;cases z))
   rw[av nb];exact s3 _ _ (s2 _ _ (by rw[av nb];exact e))
  rcases hx with⟨rfl,rfl⟩|⟨l,ys,rfl,hl,ht⟩
  ·refine⟨_,rfl,_,rfl,_,rfl,fl,Ju,p,.non,rfl,Ol,hp,.inl ⟨rfl,λl hl=>?_⟩⟩;exact fin _ l [] (ao hl) ah .nil
  ·have nl:l≠s0:=λz=>by rw[z,hs] at hl;cases hl
   have JV:upd H s0 (.ins C dx (cP "its_field" (.ref fl) [])) l=some (.lst ys):=by rw[av nl];exact hl
   have Lx:=aS.keep ht kT;refine⟨_,rfl,_,rfl,_,rfl,fl,Ju,p,.ref l,rfl,Ol,hp,.inr ⟨l,ys,rfl,JV,?_,w8 Lx hG,λH2 s2=>?_⟩⟩
   ·rw[ht.length];have:=G.len;omega
   ·exact fin _ l ys s2 (s2 _ _ JV) (aS.keep Lx (aD.of s2))
end K74
namespace Mx
open PySem PyProof.Rows
def jP:Option Int->List Int->Option Int
 |b,[]=>b
 |none,n::ns=>jP (some n) ns
 |some m,n::ns=>jP (some (if n>m then n else m)) ns
def kept (c:Nat):Option (Int×Tok)->Obj
 |none=>{cls:=.type "list",dict:=none,data:=.seq #[] c,slots:=#[]}
 |some (m,t)=>{cls:=.type "list",dict:=none,data:=.seq #[.int m t,.int m t] c,slots:=#[]}
section
variable {prog:Iy}{w:World}{A:Around}{E:Bf}{s:AL}{R:Result->Shared->Prop}
theorem ad5 {a b:Int}{t u:Tok}{Q:Bf}(h:Q (.bool (decide (a>b))) s):wpAny (model prog w) A (richCompare .Gt (.int a t) (.int b u)) Q E s :=
 CmpOf.ints_gt (P:=λi v=>∃t,v=.int (if i=0 then a else b) t) (λi=>if i=0 then a else b) (λ{_ _} h=>h) 0 1 _ _ s Q E ⟨t,by simp⟩ ⟨u,by simp⟩ (by simpa using h)
theorem ad6 (a v:Value):argsOk "max" ⟨[a],[(Str.ofString "default",v)]⟩:=by unfold argsOk;kernel_rfl
theorem lD {I l S:Addr}{items:EV}{d:Value}(hh:A.handled=none)(Nh:S≠I)(QN:S≠l)(PR:l≠I):∀(ns:List Int)(i:Nat)(s:AL)(b:Option (Int×Tok))(c:Nat),
 s.heap.IsListIter I l i->s.heap.IsList l items->IntsAre (items.toList.drop i) ns->s.heap.get? S=some (kept c b) →
 (∀v h' tk,(match jP (b.map (·.1)) ns with|none=>v=d|some m=>∃t,v=.int m t)->(∀x o,x≠I->x≠S->s.heap.get? x=some o->h'.get? x=some o)->R (.ok (.ret v)) {s with heap:=h',toks:=tk}) →
 codeAny (model prog w) A (.builtin "max.loop" ⟨[.ref I,.none,.ref S],[(Str.ofString "default",d)]⟩) R s
 |[],i,s,b,c,hit,hl,hn,hS,hR=>by
  have hx:items[i]?=none:=by
   have e:items.toList.drop i=[]:=by cases hq:items.toList.drop i with
    |nil=>rfl
    |cons x r=>rw[hq] at hn;cases hn
   have:=List.drop_eq_nil_iff.mp e;simp at this |-;omega
  refine wx F.entry_max_loop ?_;rw[sN DL _]
  cases b with
  |none =>
   show wpAny _ A.in1 (seqItems? (.ref S)>>=_) _ _ s;refine C7 (Gq hS rfl ?_);show wpAny _ A.in1 (tryCatch (pyNext (.ref I)) _>>=_) _ _ s;refine C7 (qS (wZ hh hit hl hx λh' eb=>?_));refine C7 (wD (pO ?_));exact hR d h' s.toks rfl λx o h1 _ e=>eb x o h1 e
  |some p =>
   obtain⟨m,t⟩:=p;show wpAny _ A.in1 (seqItems? (.ref S)>>=_) _ _ s;refine C7 (Gq hS rfl ?_);show wpAny _ A.in1 (tryCatch (pyNext (.ref I)) _>>=_) _ _ s;refine C7 (qS (wZ hh hit hl hx λh' eb=>?_));have Ni:=eb S _ Nh hS;show wpAny _ A.in1 (updateSeq S (λ_=>#[])>>=_) _ _ _;refine C7 (Gg Ni rfl (C7 (we (pO ?_))));exact hR _ _ s.toks ⟨t,rfl⟩ λx o h1 h2 e=>(mE _ _ (Jm h2)).trans (eb x o h1 e)
 |n::ns,i,s,b,c,hit,hl,hn,hS,hR=>by
  have KQ:(toString "max"++toString ".loop":String)="max.loop":=by decide
  obtain⟨t,hx,Qe⟩:∃t,items[i]?=some (.int n t)/\IntsAre (items.toList.drop (i+1)) ns:=by
   cases hq:items.toList.drop i with
   |nil=>rw[hq] at hn;cases hn
   |cons x r =>
    rw[hq] at hn
    cases hn with
    |cons _ t hr =>
     refine⟨t,?_,?_⟩
     ·have:(items.toList.drop i)[0]?=some (Value.int n t):=by rw[hq];rfl
      simpa using this
     ·have:items.toList.drop (i+1)=(items.toList.drop i).drop 1:=by rw[List.drop_drop,Nat.add_comm]
      rw[this,hq];exact hr
  refine wx F.entry_max_loop ?_;rw[sN DL _]
  cases b with
  |none =>
   show wpAny _ A.in1 (seqItems? (.ref S)>>=_) _ _ s;refine C7 (Gq hS rfl ?_);show wpAny _ A.in1 (tryCatch (pyNext (.ref I)) _>>=_) _ _ s;refine C7 (qS (Bt hit hl hx λh' MO sb=>?_));have Ni:=(sb.2 S Nh).trans hS;show wpAny _ A.in1 (updateSeq S (λ_=>#[.int n t,.int n t])>>=_) _ _ _;refine C7 (Gg Ni rfl ?_);rw[KQ];refine pO ⟨Ef DL _,?_⟩;have up:∀x o,x≠S->h'.get? x=some o->(h'.update S (Obj.mapSeq λ_=>#[.int n t,.int n t])).get? x=some o:=λx o hx e=>(mE _ _ (Jm hx)).trans e;refine lD hh Nh QN PR ns (i+1) _ (some (n,t)) _ (MO.at λo e=>up I o (Jm Nh) e) ((hl.extBut sb.extBut PR).at λo e=>up l o (Jm QN) e) Qe (mD _ Ni rfl) λv h2 tk hv hk=>?_;exact hR v h2 tk hv λx o h1 h3 e=>hk x o h1 h3 (up x o h3 ((sb.2 x h1).trans e))
  |some p =>
   obtain⟨m,u⟩:=p;show wpAny _ A.in1 (seqItems? (.ref S)>>=_) _ _ s;refine C7 (Gq hS rfl ?_);show wpAny _ A.in1 (tryCatch (pyNext (.ref I)) _>>=_) _ _ s;refine C7 (qS (Bt hit hl hx λh' MO sb=>?_));have Ni:=(sb.2 S Nh).trans hS;show wpAny _ A.in1 (tryCatch (holding [.int n t,.int n t] (richCompare .Gt (.int n t) (.int m u)>>=_)) _>>=_) _ _ _;refine C7 (qS (tj (C7 (ad5 ?_))));refine C7 (tj (AQ ?_));refine C7 (we (pO ?_))
   by_cases hb:n>m
   ·simp only[sG hb,En];refine C7 (Gg Ni rfl (C7 (we ?_)));rw[KQ];refine pO ⟨Ef DL _,?_⟩;have up:∀x o,x≠S->h'.get? x=some o->(h'.update S (Obj.mapSeq λ_=>#[.int n t,.int n t])).get? x=some o:=λx o hx e=>(mE _ _ (Jm hx)).trans e;refine lD hh Nh QN PR ns (i+1) _ (some (n,t)) _ (MO.at λo e=>up I o (Jm Nh) e) ((hl.extBut sb.extBut PR).at λo e=>up l o (Jm QN) e) Qe (mD _ Ni rfl) λv h2 tk hv hk=>?_;refine hR v h2 tk ?_ λx o h1 h3 e=>hk x o h1 h3 (up x o h3 ((sb.2 x h1).trans e));simpa only[Option.map_some,jP,zj hb] using hv
   ·simp only[Fx hb,Ep,CR];refine C7 (we ?_);rw[KQ];refine pO ⟨Ef DL _,?_⟩;refine lD hh Nh QN PR ns (i+1) _ (some (m,u)) c MO (hl.extBut sb.extBut PR) Qe Ni λv h2 tk hv hk=>?_;refine hR v h2 tk ?_ λx o h1 h3 e=>hk x o h1 h3 ((sb.2 x h1).trans e);simpa only[Option.map_some,jP,qM hb] using hv
theorem aed {id:String}{b:Builtin}{args:yX}{kw:List (Str×Value)}{Q:Bf}(hk:builtinKind id=none)(hp:plainId id=true)(hb:entryFor table id=some b)(ha:argsOk id ⟨args,kw⟩)
 (hc:wpAny (model prog w) A.in1 (b ⟨args,kw⟩) (λfin s'=>match fin with
  | .done f=>(match (Except.ok f:Result) with| .ok (.ret v)=>Q v s'| .ok _=>False| .error e=>E e s')
  | .again c'=>c'.quiet=true/\codeAny (model prog w) A c' (λr s'=>match r with| .ok (.ret v)=>Q v s'| .ok _=>False| .error e=>E e s') s') E s):
 wpAny (model prog w) A (call (.builtin id) args kw) Q E s:=by
 refine sQ (vT hp hb ?_);simp only[checkBuiltinCall,hk]
 cases WS:Manifest.signature? id with
 |none=>exact pO hc
 |some BO =>
  have Oh:Bind.checkArgs id BO ⟨args,kw⟩=pure ():=by simpa only[argsOk,WS] using ha
  simp only[Oh];exact pO hc
theorem aee {l:Addr}{items:EV}{ns:List Int}{d:Value}{Q:Bf}(hh:A.handled=none)(hl:s.heap.IsList l items)(hn:IntsAre items.toList ns)
 (hQ:∀v h' tk,(match jP none ns with|none=>v=d|some m=>∃t,v=.int m t)->(∀x o,s.heap.get? x=some o->h'.get? x=some o)->Q v {s with heap:=h',toks:=tk}):
 wpAny (model prog w) A (call (.builtin "max") [.ref l] [(Str.ofString "default",d)]) Q E s:=by
 have KQ:(toString "max"++toString ".loop":String)="max.loop":=by decide
 refine aed F.kind_max F.plain_max F.entry_max (ad6 _ _) ?_;show wpAny _ A.in1 (Builtin.Builtins.bindParams "max" ["key","default"] 0 ⟨[],[(Str.ofString "default",d)]⟩>>=_) _ _ s;refine C7 (xc (show Builtin.Builtins.bindParams "max" ["key","default"] 0 ⟨[],[(Str.ofString "default",d)]⟩=pure [none,some d] from rfl) ?_);refine C7 (pO ?_);refine C7 (Gp hl ?_);refine C7 (Dr ?_);rw[KQ]
 have lt:l<s.heap.objs.size:=by obtain⟨o,e,_⟩:=hl;exact Ec e
 have sz:(s.heap.push {cls:=.type "list_iterator",data:=.fields #[.ref l,.int 0 0]}).objs.size=s.heap.objs.size+1:=DG ..;have g2:∀x o,s.heap.get? x=some o->((s.heap.push {cls:=.type "list_iterator",data:=.fields #[.ref l,.int 0 0]}).push {cls:=.type "list",data:=.seq #[]}).get? x=some o:=λx o e=>wa _ (wa _ e);refine pO ⟨Ef DL _,lD (items:=items) hh ?_ ?_ (Ie lt) ns 0 _ none 0 ⟨_,wa _ (Hr _ rfl),rfl,rfl⟩ (hl.at λo e=>g2 l o e) (by simpa using hn) (Hr _ rfl) λv h' tk hv hk=>?_⟩
 ·show(s.heap.push _).objs.size≠s.heap.objs.size;rw[sz];exact vP _
 ·show(s.heap.push _).objs.size≠l;rw[sz];exact BL (rG lt)
 ·refine hQ v h' tk hv λx o e=>hk x o (Ie (Ec e)) ?_ (g2 x o e);show x≠(s.heap.push _).objs.size;rw[sz];exact Ie (rG (Ec e))
end
end Mx
namespace L2
open PySem PySem.Spec PyProof.Rows PySem.W
section
variable {X:Cx}{e d:Expr}{ta td:TE}{p kpos pos:Pos}
def aef (K:Frag)(ta td:TE):TE:=λσ H Q=>en ta HS σ H λvs H1=>en td HS σ H1 λds H2=>∃(l:Addr)(ns:List Int)(dv:V),vs=[.ref l]/\ds=[dv]/\aV K H2 l (ns.map V.int)/\Q (match Mx.jP none ns with|none=>dv|some m=>.int m) H2
theorem aeg (ha:PE X e ta)(hd:PE X d td)(hc:X.calm=true)(hg:Gl X "max")(hm:X.mg "max"=none)(hs:fA e=false:=by rfl):PE X (.Call (.Name "max" p) [e] [⟨some "default",d,kpos⟩] pos) (aef X.K ta td):=by
 intro pins s σ H Q I h;refine vU (dU I hg hm (by rfl) ?_ (by decide) (by decide));refine callWith_builtin_kwB (by rw[aU hs];rfl) rfl (evalArgs_kw2 rfl ?_ (aU hs));refine bO (ai ha af hs pos pins s σ H _ I h) λus s1 z'=>?_;obtain⟨vs,H1,I1,r1,h1⟩:=z';refine bO (aav (nm:=some "default") (kpos:=kpos) hd acD pos pins s1 σ H1 _ I1 h1) λws s2 z'=>?_;obtain⟨ds,H2,I2,r2,l,ns,dv,e1,e2,hl,q⟩:=z';subst e1 e2;obtain⟨u,rfl,ru⟩:=gh r1
 cases(show u=Value.ref l from ru)
 obtain⟨w',rfl,J5⟩:=gh r2;obtain⟨its,rv,pl,hz⟩:=I2.list hl;show wpAny _ X.A (call (.builtin "max") [.ref l] [(Str.ofString "default",w')]) _ _ s2;refine Mx.aee (I.ok.hd hc) pl.isList (by simpa using gC rv) λv h' tk hv hk=>?_;refine⟨_,H2,I2.kept (t':=tk) hk,?_,q⟩
 cases hb:Mx.jP none ns with
 |none=>rw[hb] at hv;cases hv;exact J5
 |some m=>rw[hb] at hv;obtain⟨t,rfl⟩:=hv;exact⟨t,rfl⟩
end
theorem nJ:∀(ns:List Int)(m:Int),∃b,Mx.jP (some m) ns=some b/\(b=m\/b∈ns)/\m<=b/\∀a∈ns,a<=b
 |[],m=>⟨m,rfl,.inl rfl,oU _,λa h=>nomatch h⟩
 |n::ns,m=>by
  obtain⟨b,h1,h2,h3,h4⟩:=nJ ns (if n>m then n else m);refine⟨b,h1,?_,?_,λa ha=>?_⟩
  ·rcases h2 with q|q
   ·by_cases z:n>m
    ·rw[zj z] at q;exact .inr (by simp[q])
    ·rw[qM z] at q;exact .inl q
   ·exact .inr (Er _ q)
  ·split at h3 <;> omega
  ·rcases BN.mp ha with rfl|ha
   ·split at h3 <;> omega
   ·exact h4 a ha
theorem nW {ns:List Int}(h:ns≠[]):∃b,Mx.jP none ns=some b/\b∈ns/\∀a∈ns,a<=b:=by
 cases ns with
 |nil=>exact absurd rfl h
 |cons n ns =>
  obtain⟨b,h1,h2,h3,h4⟩:=nJ ns n;refine⟨b,h1,?_,λa ha=>?_⟩
  ·rcases h2 with q|q
   ·simp[q]
   ·exact Er _ q
  ·rcases BN.mp ha with rfl|ha
   ·exact h3
   ·exact h4 a ha
end L2
namespace K74
open PySem L2 PySem.W Nm Srt
abbrev vi:Stmt:=aF (aQ 37) 5
abbrev vb:Stmt:=aF (aQ 37) 6
abbrev sd:Stmt:=aF (aQ 37) 8
structure DO (C CF:Addr)(H:Hp)(s:Addr)(p:Int)(ts:List Tm):Prop where
 ex:∃dx fl Ju D zs,H s=some (.ins C dx (ow fl D))/\H fl=some (.ins CF Ju (cL p))/\H D=some (.lst zs)/\aS H zs ts
def lB (C CF:Addr):Sp:=λvs H Q _=>∃(s dx fl D:Addr),vs=[.ref s]/\H s=some (.ins C dx (ow fl D))/\Q (.ref fl) H
def lO (C CF:Addr):Sp:=λvs H Q _=>∃(s dx fl D:Addr)(zs:List V),vs=[.ref s]/\H s=some (.ins C dx (ow fl D))/\H D=some (.lst zs)/\∀l,H l=none->Q (.ref l) (upd H l (.lst zs))
theorem aeh:DK ["self"] ["self"] (aq vi):=c9 (by decide +kernel)
theorem aej:DK ["self"] ["self"] (aq vb):=c9 (by decide +kernel)
variable {P:Iy}{w:World}{K:PySem.W.Frag}{mg:xk}{base:Heap}
variable {f C:Addr}{fd:qo}
theorem aek {CF:Addr}(F:Dp K "field" "Sum.field" vi f fd)(c:DB K mg C):zG P w K mg base (aO P w) 1 f fd ["self"] (lB C CF):=by
 refine F.okN aeh (λvs H Q E h=>?_) (λJw A outer s H vs Q E hr h=>?_)
 ·obtain⟨s,dx,fl,D,rfl,_⟩:=h;rfl
 ·obtain⟨s0,dx,fl,D,rfl,hs,q⟩:=h;exact⟨_,ak (az (bD (pv 0) rfl)),_,rfl,s0,C,dx,_,_,rfl,hs,c.cl,c.nF,rfl,q⟩
theorem ael {CF:Addr}(F:Dp K "terms" "Sum.terms" vb f fd)(c:DB K mg C)(Jy:mg "list"=none):zG P w K mg base (aO P w) 1 f fd ["self"] (lO C CF):=by
 refine F.okN aej (λvs H Q E h=>?_) (λJw A outer s H vs Q E hr h=>?_)
 ·obtain⟨s,dx,fl,D,zs,rfl,_⟩:=h;rfl
 ·obtain⟨s0,dx,fl,D,zs,rfl,hs,hD,q⟩:=h;refine⟨_,ak (az (cE dH (by rfl) Jy (by rfl) (@ai _ _ _ _ _ (bD (pv 0) rfl) af rfl))),?_⟩;exact⟨_,rfl,s0,C,dx,_,_,rfl,hs,c.cl,c.nT,rfl,D,zs,rfl,.inl (aV.of hD),λl hl=>q l hl⟩
def rR (t:Tm):Int:=t.1.getLastD 0+1
def eO (ts:List Tm):Int:=(Mx.jP none ((ts.filter λt=>!t.1.isEmpty).map rR)).getD 0
def pC (C:Addr):Sp:=λvs H Q _=>∃(s dx fl D:Addr)(zs:List V)(ts:List Tm),vs=[.ref s]/\H s=some (.ins C dx (ow fl D))/\H D=some (.lst zs)/\aS H zs ts/\ts.length<4000/\(∀t∈ts,t.1.length<4000)/\∀H',aA H H'->Q (.int (eO ts)) H'
theorem aem:DK ["self"] ["self"] (aq sd):=c9 (by decide +kernel)
theorem jQ {ks:List Int}(h:ks≠[]):pQ (ks.map V.int) (-1)=some (.int (ks.getLastD 0)):=by
 have hl:0<ks.length:=List.length_pos_iff.mpr h;unfold pQ wW;rw[vW,qM (by decide),zj (by omega)];show(ks.map V.int)[((-1:Int)+(ks.length:Int)).toNat]?=_
 have e:((-1:Int)+(ks.length:Int)).toNat=ks.length-1:=by omega
 rw[e,wN,Ff (by omega)]
 have g:ks.getLastD 0=ks[ks.length-1]'(by omega):=by
  rw[vx,List.getLast?_eq_getElem?,Ff (by omega)];rfl
 rw[g];rfl
theorem aen (F:Dp K "reach" "Sum.reach" sd f fd)(c:DB K mg C)(JU:mg "max"=none):zG P w K mg base (aO P w) 1 f fd ["self"] (pC C):=by
 refine F.okN aem (λvs H Q E h=>?_) (λJw A outer s H vs Q E hr h=>?_)
 ·obtain⟨s,dx,fl,D,zs,ts,rfl,_⟩:=h;rfl
 ·obtain⟨s0,dx,fl,D,zs,ts,rfl,hs,hD,hz,hl,J8,q⟩:=h
  refine⟨_,ak (az (aeg (dm (g:=jd K 2 (cD (bN 0) (cD (bN 1) CN))) (N:=["product","number"]) (nl:=2) (js:=[]) (osc:=aq sd) ⟨rfl,rfl,by decide +kernel,by decide +kernel,by decide +kernel,rfl,.nil,by decide +kernel⟩ rfl
   (cy (bD (pv 0) rfl))
   (λC fp s H=>(cA (X:=cG _ ["product","number"] _ C fp s H) rfl (aG (aC (X:=cG _ ["product","number"] _ C fp s H) (i:=0) (by show(["product","number"]:p3).Nodup;decide +kernel) rfl (Or.inl rfl) (Or.inr rfl)) (aG (aC (X:=cG _ ["product","number"] _ C fp s H) (i:=1) (by show(["product","number"]:p3).Nodup;decide +kernel) rfl (Or.inl rfl) (Or.inr rfl)) bX))))
   (λC fp s H=>iU (show PT _ _ (λσ H Q=>gr 0 σ H λx H'=>∃k,CI K x H' k/\Q k H') from iQ (pv 0) (λ_=>rfl)))
   (λC fp s H=>(@aH _ _ _ _ _ _ _ _ eK (@a9 _ _ _ _ _ _ _ (show B5 _ (vM K) from br) (pv 0) (dM cK ar) (λ_ _=>rfl)) ar))) ar rfl (by rfl) JU)),?_⟩
  refine⟨_,rfl,s0,C,dx,_,_,rfl,hs,c.cl,c.nT,rfl,D,rfl,⟨zs,aV.of hD⟩,?_⟩;refine⟨λi m xs σ' H'=>m=zs.length-i/\i<=zs.length/\aA H H'/\xs=(((ts.take i).filter λt=>!t.1.isEmpty).map rR).map V.int/\∃o1 o2,σ'=[o1,o2],⟨zs.length,by simp,Ag _,aA.refl _,rfl,none,none,rfl⟩,?_⟩;rintro i m xs σ' H' ⟨rfl,hi,sH,rfl,o1,o2,rfl⟩;have zl:=hz.length;have Oi:=sH _ _ hD;refine⟨?_,?_⟩
  ·rw[vW,vW];exact Gv (NI _ _) (Gv (by simp;omega) (wG hl (by decide)))
  by_cases JB:i<zs.length
  ·refine .inr ⟨⟨zs,zs[i],aV.of Oi,by simp[JB]⟩,λy H2 hy=>?_⟩;obtain⟨rfl,hy⟩:=hy;obtain⟨t,et,tr⟩:=aY hz (hy zs (aV.of Oi));obtain⟨a,pr,nu,rfl,ha,JQ,JZ⟩:=tr.keep (aD.of sH)
   have Kl:ts.take (i+1)=ts.take i++[t]:=by rw[vQ,et];rfl
   refine⟨a,_,rfl,bf.of ha,rfl,_,_,rfl,_,_,rfl,rfl,?_⟩;refine⟨_,rfl,!t.1.isEmpty,.inr (.inl ⟨_,bf.of JQ,by simp⟩),?_⟩
   cases hb:t.1.isEmpty with
   |false =>
    have ne:t.1≠[]:=by intro z;rw[z] at hb;cases hb
    refine bZ ⟨_,rfl,_,rfl,pr,_,-1,_,rfl,rfl,bf.of JQ,jQ ne,_,_,rfl,rfl,zs.length-(i+1),by omega,rfl,JB,sH,?_,_,_,rfl⟩;rw[Kl,zF];simp[hb,rR]
   |true =>
    refine bw ⟨zs.length-(i+1),by omega,rfl,JB,sH,?_,_,_,rfl⟩;rw[Kl,zF];simp[hb]
  ·have ei:i=zs.length:=by omega
   subst ei;refine .inl ⟨⟨zs,aV.of Oi,zC _⟩,λL hL=>?_⟩;rw[zl,vt];refine⟨L,_,.int 0,rfl,rfl,aV.of ah,?_⟩;have q':=q _ (λb u z=>by rw[av (au (sH _ _ z) hL)];exact sH _ _ z:aA H (upd H' L (.lst (((ts.filter λt=>!t.1.isEmpty).map rR).map V.int))));unfold eO at q';show Q _ (upd H' L (.lst (((ts.filter λt=>!t.1.isEmpty).map rR).map V.int)));generalize upd H' L (.lst (((ts.filter λt=>!t.1.isEmpty).map rR).map V.int))=H9 at q' |-;generalize Mx.jP none ((ts.filter λt=>!t.1.isEmpty).map rR)=ob at q' |-
   cases ob <;> exact q'
abbrev zg:Stmt:=(aQ 15)
def oZ:V->Bool
 | .int i=>decide (0<=i)&&decide (i<=1)
 |_=>false
def ur:Option (List V)->Bool
 |none=>false
 |some xs=>xs.all oZ
def CM:Sp:=λvs H Q _=>∃x o,vs=[x]/\PX H x o/\∀H',aA H H'->Q (.bl (ur o)) H'
theorem aev:DK Fl Fl (aq zg):=c9 (by decide +kernel)
theorem aew {fw:Addr}{JT:qo}(F:Dp K "is_row_of_bits" "is_row_of_bits" zg f fd)(Js:mg "isinstance"=none)(Jz:mg "tuple"=none)(JL:mg "all"=none)
 (FW:zG P w K mg base (aO P w) 1 fw JT Fl A0)(bW:L2.ax K JT Fl [])(mW:mg "is_whole"=some (.ref fw))(kW:keepIn K (.ref fw)=true):zG P w K mg base (aO P w) 2 f fd Fl CM:=by
 refine F.okN aev (λvs H Q E h=>?_) (λJw A outer s H vs Q E hr h=>?_)
 ·obtain⟨x,o,rfl,_⟩:=h;rfl
 ·obtain⟨x,o,rfl,px,q⟩:=h;have JE:A8 1 _:=hr.mono (by decide)
  refine⟨_,ak (az (dC (aB aZ (by rfl) Js (by rfl) (@ai _ _ _ _ _ (pv 0) (@ai _ _ _ _ _ (dX (by rfl) Jz (by rfl) (show aI (.ty "tuple") (.type "tuple") from rfl)) af rfl) rfl))
   (d9 (aB (gG rfl) (by rfl) JL (by rfl) (@ai _ _ _ _ _ (dm (N:=["bit"]) (nl:=1) (js:=[]) (osc:=aq zg) ⟨rfl,rfl,by decide +kernel,by decide +kernel,by decide +kernel,rfl,.nil,by decide +kernel⟩ rfl
    (rV (pv 0))
    (λC fp s H=>aC (i:=0) (by show(["bit"]:p3).Nodup;decide +kernel) rfl (Or.inl rfl) (Or.inr rfl))
    (λC fp s H=>dk)
    (λC fp s H=>(dC (ay FW JE (by rfl) mW kW bW .nil ae (@ai _ _ _ _ _ (pv 0) af rfl)) (d9 (kX iP iP ar (pv 0) ar))))) af rfl))))),?_⟩
  cases px with
  |@no x T th ne =>
   refine⟨_,rfl,x,.ty "tuple",_,_,_,rfl,rfl,th.ty,th.isTup,_,rfl,?_⟩;rw[Fx ne];exact bw (q _ (aA.refl _))
  |@tup a xs ha hl Wt =>
   refine⟨_,rfl,.ref a,.ty "tuple",_,_,_,rfl,rfl,.of (.tup ha),rfl,_,rfl,bZ ?_⟩;refine⟨_,rfl,a,rfl,⟨xs,bf.of ha⟩,?_⟩;refine⟨λi m ys σ' H'=>m=xs.length-i/\i<=xs.length/\ys=((xs.take i).map oZ).map V.bl/\H=H'/\∃o,σ'=[o],⟨xs.length,by simp,Ag _,by simp,rfl,none,rfl⟩,?_⟩;rintro i m ys σ' H' ⟨rfl,hi,rfl,rfl,o,rfl⟩;refine⟨Gv (by simp;omega) (wG hl (by decide)),?_⟩
   by_cases JB:i<xs.length
   ·refine .inr ⟨⟨xs,xs[i],bf.of ha,by simp[JB]⟩,λy H2 hy=>?_⟩;obtain⟨rfl,hy⟩:=hy;have ey:=hy xs (bf.of ha);obtain⟨T,th⟩:=Wt y (v5 ey)
    have e2:xs.take (i+1)=xs.take i++[y]:=by
     rw[vQ,ey];rfl
    have done:∀b,b=oZ y->∃m',m'<xs.length-i/\m'=xs.length-(i+1)/\i+1<=xs.length/\((xs.take i).map oZ).map V.bl++[V.bl b]=((xs.take (i+1)).map oZ).map V.bl/\H2=H2/\∃o,([some y]:St)=[o]:=λb hb =>
     ⟨xs.length-(i+1),by omega,rfl,JB,by rw[e2,hb];simp,rfl,_,rfl⟩
    dsimp only[EY,bN];refine bZ ⟨_,rfl,y,T,rfl,th,_,rfl,?_⟩
    cases e:dG y with
    |false =>
     have z:oZ y=false:=by cases y <;> first|rfl|cases e
     exact bw (done false z.symm)
    |true =>
     have z1:∃n,y=.int n:=by cases y <;> first|exact⟨_,rfl⟩|cases e
     obtain⟨n,rfl⟩:=z1;refine bZ ⟨_,rfl,_,_,rfl,rfl,_,rfl,?_⟩;refine dO (λh=>?_) (λh=>?_)
     ·have h':decide (0<=n)=true:=h;exact⟨_,_,rfl,rfl,done _ (by show _=(decide (0<=n)&&decide (n<=1));rw[h',Hv])⟩
     ·have h':decide (0<=n)=false:=by simpa using h
      exact done false (by show _=(decide (0<=n)&&decide (n<=1));rw[h',A4])
   ·have ei:i=xs.length:=by omega
    subst ei;refine .inl ⟨⟨xs,bf.of ha,zC _⟩,λD hD=>?_⟩;rw[vt];refine⟨D,_,xs.map oZ,rfl,aV.of ah,lP _,?_⟩
    have z:(xs.map oZ).all id=ur (some xs):=by rw[vn];rfl
    rw[z];exact q _ (ao hD)
end K74
namespace Nm
open Lean.Grind in
structure Val (p:Int)(R:Type) [CommRing R](v:Int×Int->R):Prop where
 zero:v (0,1)=0
 one:v (1,1)=1
 set:∀{t b:Int}{a c:Int×Int},Num p a.1 a.2->Num p c.1 c.2->(t=a.1*c.2+c.1*a.2->b=a.2*c.2->v (c8 p t b,dA p t b)=v a+v c)/\(t=a.1*c.1->b=a.2*c.2->v (c8 p t b,dA p t b)=v a*v c)
 inj:∀{a c:Int×Int},Num p a.1 a.2->Num p c.1 c.2->v a=v c->a=c
theorem iZ {t b:Int}(h:b≠0):c8 0 t b*b=t*dA 0 t b:=by
 have e1:=pS (t:=t) h;have e2:=kZ (t:=t) h;show dS t b*b=t*cI t b;generalize dS t b=x at *;generalize cI t b=y at *;generalize dv t b=d at *;subst e1;subst e2;grind
theorem aeC:Val 0 Rat (λa=>Rat.divInt a.1 a.2) where
 zero:=by decide +kernel
 one:=by decide +kernel
 set:=by
  intro t b a c na nc
  have ha:a.2≠0:=by have:=na.pos;omega
  have hc:c.2≠0:=by have:=nc.pos;omega
  have hb:a.2*c.2≠0:=AS ha hc;refine⟨λet eb=>?_,λet eb=>?_⟩
  ·subst eb;subst et
   have hs:dA 0 (a.1*c.2+c.1*a.2) (a.2*c.2)≠0:=by have:=(Num.set (p:=0) (t:=a.1*c.2+c.1*a.2) (oU 0) hb).pos;omega
   show Rat.divInt _ _=Rat.divInt _ _+Rat.divInt _ _;rw[Rat.divInt_add_divInt _ _ ha hc,HZ hs hb];exact iZ hb
  ·subst eb;subst et
   have hs:dA 0 (a.1*c.1) (a.2*c.2)≠0:=by have:=(Num.set (p:=0) (t:=a.1*c.1) (oU 0) hb).pos;omega
   show Rat.divInt _ _=Rat.divInt _ _*Rat.divInt _ _;rw[Rat.divInt_mul_divInt,HZ hs hb];exact iZ hb
 inj:=by
  intro a c na nc e
  have ha:a.2≠0:=by have:=na.pos;omega
  have hc:c.2≠0:=by have:=nc.pos;omega
  have e:=(HZ ha hc).mp e;obtain⟨h1,h2⟩:=adp (p:=0) ha nc (oU 0) (λ_=>e) (λz=>absurd rfl z);obtain⟨g1,g2⟩:=na.self (oU 0);exact De (g1.symm.trans h1) (g2.symm.trans h2)
theorem aeO {n:Nat} [NeZero n](h2:2<=n):Val (n:Int) (Fin n) (λa=>Fin.ofNat n a.1.toNat) where
 zero:=rfl
 one:=rfl
 set:=by
  intro t b a c na nc
  have hz:(n:Int)≠0:=by omega
  obtain⟨a2,a0,a1⟩:=na.pr hz;obtain⟨c2,c0,c1⟩:=nc.pr hz
  have key:∀x y z:Int,0<=x->0<=y->0<=z->z=x+y->(z%(n:Int)).toNat%n=(x.toNat%n+y.toNat%n)%n:=by
   intro x y z hx hy hz e;obtain⟨x,rfl⟩:∃m:Nat,x=(m:Int):=⟨x.toNat,by omega⟩;obtain⟨y,rfl⟩:∃m:Nat,y=(m:Int):=⟨y.toNat,by omega⟩;subst e;rw[show((x:Int)+(y:Int))%(n:Int)=(((x+y)%n:Nat):Int) from by push_cast;rfl];rw[F5,F5,F5,Nat.mod_mod,Nat.add_mod]
  have WT:∀x y z:Int,0<=x->0<=y->z=x*y->(z%(n:Int)).toNat%n=(x.toNat%n)*(y.toNat%n)%n:=by
   intro x y z hx hy e;obtain⟨x,rfl⟩:∃m:Nat,x=(m:Int):=⟨x.toNat,by omega⟩;obtain⟨y,rfl⟩:∃m:Nat,y=(m:Int):=⟨y.toNat,by omega⟩;subst e;rw[show((x:Int)*(y:Int))%(n:Int)=(((x*y)%n:Nat):Int) from by push_cast;rfl];rw[F5,F5,F5,Nat.mod_mod,Nat.mul_mod]
  refine⟨λet eb=>?_,λet eb=>?_⟩
  ·apply Fin.ext;show(c8 (n:Int) t b).toNat%n=(a.1.toNat%n+c.1.toNat%n)%n;unfold c8;rw[qM hz];exact key a.1 c.1 t a0 c0 (by rw[et,a2,c2];omega) (by rw[et,a2,c2];omega)
  ·apply Fin.ext;show(c8 (n:Int) t b).toNat%n=(a.1.toNat%n)*(c.1.toNat%n)%n;unfold c8;rw[qM hz];exact WT a.1 c.1 t a0 c0 et
 inj:=by
  intro a c na nc e
  have hz:(n:Int)≠0:=by omega
  obtain⟨a2,a0,a1⟩:=na.pr hz;obtain⟨c2,c0,c1⟩:=nc.pr hz;have e:a.1.toNat%n=c.1.toNat%n:=Hh Fin.val e;rw[Bj (by omega),Bj (by omega)] at e;exact De (by omega) (by omega)
theorem aeR {p:Int}(hp:p=0\/2<=p):∃(R:Type)(i:Lean.Grind.CommRing R)(v:Int×Int->R),@Val p R i v:=by
 rcases hp with rfl|hp
 ·exact⟨Rat,_,_,aeC⟩
 ·obtain⟨n,rfl⟩:∃n:Nat,p=(n:Int):=⟨p.toNat,by omega⟩;have:NeZero n:=⟨by omega⟩;exact⟨Fin n,_,_,aeO (by omega)⟩
end Nm
namespace K74
open PySem L2 PySem.W Nm Srt
variable {d ts:List Tm}
section
variable {p:Int}{R:Type} [Lean.Grind.CommRing R]{v:Int×Int->R}
def S (v:Int×Int->R):List Tm->(List Int->R)->R
 |[],_=>0
 |t::ts,F=>v t.2*F t.1+S v ts F
theorem iO (a b:List Tm)(F:List Int->R):S v (a++b) F=S v a F+S v b F:=by
 induction a with
 |nil=>show S v b F=0+S v b F;grind
 |cons t a ih =>
  show v t.2*F t.1+S v (a++b) F=v t.2*F t.1+S v a F+S v b F;rw[ih];grind
theorem aeS {a b:List Tm}(h:a.Perm b)(F:List Int->R):S v a F=S v b F:=by
 induction h with
 |nil=>rfl
 |cons x _ ih=>show _+_=_+_;rw[ih]
 |swap x y l =>
  show v y.2*F y.1+(v x.2*F x.1+S v l F)=v x.2*F x.1+(v y.2*F y.1+S v l F);grind
 |trans _ _ i1 i2=>exact i1.trans i2
def bY (p:Int)(d:List Tm):Prop:=∀e∈d,Num p e.2.1 e.2.2
theorem p5 {a b:Int×Int}(hp:0<=p)(ha:Num p a.1 a.2)(hb:Num p b.1 b.2):Num p (da p a b).1 (da p a b).2 :=
 Num.set hp (AS (by have:=ha.pos;omega) (by have:=hb.pos;omega))
theorem ae2 {t:Tm}(hp:0<=p)(hd:bY p d)(ht:Num p t.2.1 t.2.2):bY p (c5 p d t):=by
 intro e he;unfold c5 at he
 split at he
 ·obtain⟨e0,h0,rfl⟩:=Hy.mp he
  by_cases q:e0.1=t.1
  ·rw[zj q];exact p5 hp (hd e0 h0) ht
  ·rw[qM q];exact hd e0 h0
 ·rcases rQ.mp he with he|he
  ·exact hd e he
  ·have:e=t:=by simpa using he
   rw[this];exact ht
theorem F1 (V:Val p R v){x:Int×Int}(hx:Num p x.1 x.2)(k:List Int)(F:List Int->R):∀{d:List Tm},bY p d->(d.map (·.1)).Nodup →
 S v (d.map λe=>if e.1=k then(e.1,da p e.2 x) else e) F=S v d F+(if d.any (λe=>decide (e.1=k))=true then v x*F k else 0)
 |[],_,_=>by show(0:R)=0+0;grind
 |e::d,hn,hd=>by
  rw[Jr] at hd;obtain⟨h1,h2⟩:=zJ.mp hd;have Pz:bY p d:=λe he=>hn e (Er _ he);have ih:=F1 V hx k F Pz h2;rw[Jr,HV]
  by_cases q:e.1=k
  ·have no:d.any (λe=>decide (e.1=k))=false:=by
    rw[List.any_eq_false];intro e' LO z
    have:e'.1=k:=by simpa using z
    exact h1 (Hy.mpr ⟨e',LO,by rw[this,q]⟩)
   rw[no,qM (by simp)] at ih;rw[zj q,no,sG q];have ev:v (da p e.2 x)=v e.2+v x:=(V.set (hn e Ij) hx).1 rfl rfl;show v (da p e.2 x)*F e.1+S v (d.map _) F=v e.2*F e.1+S v d F+v x*F k;rw[ih,ev,q];grind
  ·rw[qM q,Fx q,Bool.false_or];show v e.2*F e.1+S v (d.map _) F=v e.2*F e.1+S v d F+_;rw[ih];grind
theorem ae3 (V:Val p R v){t:Tm}(hn:bY p d)(ht:Num p t.2.1 t.2.2)(hd:(d.map (·.1)).Nodup)(F:List Int->R):S v (c5 p d t) F=S v d F+v t.2*F t.1:=by
 unfold c5
 split
 ·rename_i q
  rw[F1 V ht t.1 F hn hd,zj q]
 ·rw[iO];show S v d F+(v t.2*F t.1+0)=_;grind
theorem u9 (V:Val p R v)(hp:0<=p)(F:List Int->R):∀(ts d:List Tm),bY p ts->bY p d->(d.map (·.1)).Nodup →
 S v (ts.foldl (c5 p) d) F=S v d F+S v ts F/\bY p (ts.foldl (c5 p) d)/\((ts.foldl (c5 p) d).map (·.1)).Nodup
 |[],d,_,hn,hd=>⟨by show S v d F=S v d F+0;grind,hn,hd⟩
 |t::ts,d,ht,hn,hd=>by
  have h1:=ht t Ij;obtain⟨i1,i2⟩:=u9 V hp F ts (c5 p d t) (λe he=>ht e (Er _ he)) (ae2 hp hn h1) (mY hd);refine⟨?_,i2⟩;show S v (ts.foldl (c5 p) (c5 p d t)) F=S v d F+(v t.2*F t.1+S v ts F);rw[i1,ae3 V hn h1 hd];grind
theorem gY (V:Val p R v)(hp:0<=p)(h:bY p ts)(F:List Int->R):S v (aX p ts) F=S v ts F/\bY p (aX p ts)/\((aX p ts).map (·.1)).Nodup:=by
 obtain⟨h1,h2⟩:=u9 V hp F ts [] h (λe he=>nomatch he) Ea;refine⟨?_,h2⟩;show S v (ts.foldl (c5 p) []) F=_;rw[h1];show(0:R)+S v ts F=S v ts F;grind
theorem ae4 {t b:Int}(h:Num p t b)(z:t=0):b=1:=by
 have:=h.red;have:=h.pos;rw[z,Int.gcd_zero_left] at *;omega
theorem qA (V:Val p R v)(F:List Int->R):∀{d:List Tm},bY p d->S v (d.filter λe=>e.2.1 != 0) F=S v d F
 |[],_=>rfl
 |e::d,h=>by
  have ih:=qA V F (d:=d) λe he=>h e (Er _ he)
  by_cases q:e.2.1=0
  ·rw[List.filter_cons_of_neg (by simp[q]),ih];have e2:e.2=(0,1):=De q (ae4 (h e Ij) q);show _=v e.2*F e.1+S v d F;rw[e2,V.zero];grind
  ·rw[Fh (by simp[q])];show v e.2*F e.1+S v _ F=v e.2*F e.1+S v d F;rw[ih]
theorem cV (d:List Tm):(gy d).Perm (d.filter λe=>e.2.1 != 0):=by
 unfold gy;have h:=(dR ((d.filter λe=>e.2.1 != 0).map λe=>(gm e,e))).map (·.2);rw[Eg] at h;have e:((λx:Ky×Tm=>x.2) ∘ λe=>(gm e,e))=id:=rfl;rw[e,List.map_id] at h;exact h
theorem afe (V:Val p R v)(h:bY p d)(F:List Int->R):S v (gy d) F=S v d F:=by
 rw[aeS (cV d),qA V F h]
theorem aff (h:bY p d):bY p (gy d):=λe he=>h e (Jn.mp ((cV d).mem_iff.mp he)).1
theorem vG (V:Val p R v)(hp:0<=p)(h:bY p ts)(F:List Int->R):S v (gy (aX p ts)) F=S v ts F:=by
 obtain⟨h1,h2,_⟩:=gY V hp h F;rw[afe V h2,h1]
theorem ah9 (V:Val p R v)(hp:0<=p)(h:bY p ts):bY p (gy (aX p ts)):=aff (gY V hp h λ_=>0).2.1
def dl (k:List Int):List Int->R:=λi=>if i=k then 1 else 0
theorem Dt {k:List Int}:∀{d:List Tm},k∉d.map (·.1)->S v d (dl k)=0
 |[],_=>rfl
 |e::d,h=>by
  rw[Jr,BN,ze] at h;show v e.2*(if e.1=k then 1 else 0)+S v d (dl k)=0;rw[qM (λz=>h.1 z.symm),Dt h.2];grind
theorem C2:∀{d:List Tm}{e:Tm},(d.map (·.1)).Nodup->e∈d->S v d (dl e.1)=v e.2
 |x::d,e,hd,he=>by
  rw[Jr] at hd;obtain⟨h1,h2⟩:=zJ.mp hd;show v x.2*(if x.1=e.1 then 1 else 0)+S v d (dl e.1)=v e.2
  rcases BN.mp he with rfl|he
  ·rw[zj rfl,Dt h1];grind
  ·rw[qM (λz=>h1 (Hy.mpr ⟨e,he,z.symm⟩)),C2 h2 he];grind
theorem qK (V:Val p R v){c:List Tm}(hn:bY p d)(hd:(d.map (·.1)).Nodup)(cn:bY p c)(cd:(c.map (·.1)).Nodup)(h:∀F:List Int->R,S v d F=S v c F){e:Tm}(he:e∈d.filter λe=>e.2.1 != 0):e∈c.filter λe=>e.2.1 != 0:=by
 obtain⟨h1,h2⟩:=Jn.mp he;refine Jn.mpr ⟨?_,h2⟩;have e1:=C2 (v:=v) hd h1;rw[h] at e1
 by_cases k:e.1∈c.map (·.1)
 ·obtain⟨e',LO,ek⟩:=Hy.mp k;have e2:=C2 (v:=v) cd LO;rw[ek,e1] at e2;have e3:=V.inj (hn e h1) (cn e' LO) e2;have:e=e':=De ek.symm e3;rw[this];exact LO
 ·rw[Dt k] at e1;have e3:=V.inj (a:=(0,1)) (c:=e.2) ⟨by decide,by decide,λz=>⟨rfl,by decide,?_⟩⟩ (hn e h1) (V.zero.trans e1)
  ·rw[<-e3] at h2;exact absurd h2 (by decide)
  ·have:=((hn e h1).pr z).2;show(0:Int)<p;omega
theorem qu (h:(d.map (·.1)).Nodup):d.Nodup:=by
 induction d with
 |nil=>exact Ea
 |cons e d ih =>
  rw[Jr] at h;obtain⟨h1,h2⟩:=zJ.mp h;exact zJ.mpr ⟨λz=>h1 (Hy.mpr ⟨e,z,rfl⟩),ih h2⟩
theorem aia (V:Val p R v){c:List Tm}(hn:bY p d)(hd:(d.map (·.1)).Nodup)(cn:bY p c)(cd:(c.map (·.1)).Nodup)(h:∀F:List Int->R,S v d F=S v c F):gy d=gy c:=by
 have nd:=(qu hd).filter (λe:Tm=>e.2.1 != 0);have nc:=(qu cd).filter (λe:Tm=>e.2.1 != 0);have pm:(d.filter λe=>e.2.1 != 0).Perm (c.filter λe=>e.2.1 != 0):=(List.perm_ext_iff_of_nodup nd nc).mpr λe=>⟨qK V hn hd cn cd h,qK V cn cd hn hd λF=>(h F).symm⟩;unfold gy;congr 1;refine adC ?_ (pm.map _);rw[Eg];have cf:((c.filter λe=>e.2.1 != 0).map (·.1)).Nodup:=cd.sublist (List.filter_sublist.map _);generalize (c.filter λe=>e.2.1 != 0)=l at cf
 induction l with
 |nil=>exact Ea
 |cons e l ih =>
  rw[Jr] at cf |-;obtain⟨h1,h2⟩:=zJ.mp cf;refine zJ.mpr ⟨λz=>?_,ih h2⟩;obtain⟨x,hx,ex⟩:=Hy.mp z;have ex:gm x=gm e:=ex;exact h1 (Hy.mpr ⟨x,hx,Hh Prod.snd ex⟩)
theorem Cb (V:Val p R v)(hp:0<=p){us:List Tm}(ht:bY p ts)(hu:bY p us)(h:∀F:List Int->R,S v ts F=S v us F):gy (aX p ts)=gy (aX p us):=by
 obtain⟨_,t1,t2⟩:=gY V hp ht λ_=>0;obtain⟨_,u1,u2⟩:=gY V hp hu λ_=>0
 exact aia V t1 t2 u1 u2 λF=>by rw[(gY V hp ht F).1,(gY V hp hu F).1,h]
end
end K74
namespace St
open PySem
abbrev T:=SetTable
def Up (xs:Array Nat):Prop:=∀i j,i<j->j<xs.size->xs.getD i 0<xs.getD j 0
def GW (xs:Array Nat)(j r:Nat):Prop:=r<=xs.size/\(∀k,k<r->xs.getD k 0<j)/\∀k,r<=k->k<xs.size->j<=xs.getD k 0
variable {xs:Array Nat}{k:Nat}
theorem aib {d e:Nat}(h:k<xs.size):xs.getD k d=xs.getD k e:=by
 simp[Array.getD,h]
variable {j:Nat}
theorem aid (u:Up xs):∀(f lo hi:Nat),lo<=hi->hi<=xs.size->hi-lo<=f->(∀k,k<lo->xs.getD k 0<j)->(∀k,hi<=k->k<xs.size->j<=xs.getD k 0) →
 GW xs j (SetTable.below.go xs j f lo hi):=by
 intro f
 induction f with
 |zero =>
  intro lo hi h1 h2 h3 h4 h5
  have e:lo=hi:=by omega
  subst e;exact⟨h2,h4,h5⟩
 |succ f ih =>
  intro lo hi h1 h2 h3 h4 h5;unfold SetTable.below.go
  by_cases h:lo<hi
  ·rw[zj h]
   have hm:(lo+hi)/2<xs.size:=by omega
   have e:xs.getD ((lo+hi)/2) j=xs.getD ((lo+hi)/2) 0:=aib hm;dsimp only;rw[e]
   by_cases g:xs.getD ((lo+hi)/2) 0<j
   ·rw[zj g];refine ih _ _ (by omega) h2 (by omega) (λk hk=>?_) h5
    rcases yt k ((lo+hi)/2) with q|q
    ·exact wG (u _ _ q hm) g
    ·have:k=(lo+hi)/2:=by omega
     rw[this];exact g
   ·rw[qM g];refine ih _ _ (by omega) (by omega) (by omega) h4 (λk hk hk2=>?_)
    rcases yt ((lo+hi)/2) k with q|q
    ·exact EW (Nat.not_lt.mp g) (xa (u _ _ q hk2))
    ·have:k=(lo+hi)/2:=by omega
     rw[this];exact Nat.not_lt.mp g
  ·rw[qM h]
   have e:lo=hi:=by omega
   subst e;exact⟨h2,h4,h5⟩
theorem fH (u:Up xs)(j:Nat):GW xs j (SetTable.below xs j):=
 aid u _ _ _ (Ag _) (zC _) (by omega) (λk hk=>absurd hk (pU _)) (λk h1 h2=>absurd h1 (by omega))
theorem tX {r q:Nat}(a:GW xs j r)(b:GW xs j q):r=q:=by
 rcases y6 r q with h|h|h
 ·have h1:=b.2.1 r h;have h2:=a.2.2 r (zC _) (HY h b.1);omega
 ·exact h
 ·have h1:=a.2.1 q h;have h2:=b.2.2 q (zC _) (HY h a.1);omega
theorem acX (u:Up xs):SetTable.below xs 0=0 :=
 tX (fH u 0) ⟨Ag _,λk hk=>absurd hk (pU _),λ_ _ _=>Ag _⟩
variable {i:Nat}
theorem adJ (u:Up xs)(h:i<xs.size):SetTable.below xs (xs.getD i 0+1)=i+1:=by
 refine tX (fH u _) ⟨h,λk hk=>?_,λk h1 h2=>?_⟩
 ·rcases yt k i with q|q
  ·exact rG (u _ _ q h)
  ·have:k=i:=by omega
   rw[this];exact xO _
 ·exact u _ _ (by omega) h2
theorem sk (h:i<xs.size):xs[i]?=some (xs.getD i 0):=by
 simp[Array.getD,h]
def wX (xs:Array Nat)(j:Nat):Prop:=∃k,k<xs.size/\xs.getD k 0=j
theorem nK {t:T}(u:Up t.place)(h:wX t.place j):∃i,t.slot j=.live i:=by
 obtain⟨k,hk,rfl⟩:=h
 have hb:SetTable.below t.place (t.place.getD k 0)=k:=by
  refine tX (fH u _) ⟨xa hk,λq hq=>u _ _ hq hk,λq h1 h2=>?_⟩
  rcases yt k q with g|g
  ·exact xa (u _ _ g h2)
  ·have:q=k:=by omega
   rw[this];exact zC _
 refine⟨k,?_⟩;unfold SetTable.slot;dsimp only;rw[hb,sk hk];simp
theorem jl {t:T}(u:Up t.place)(d:t.dummies = #[])(h:¬wX t.place j):t.slot j=.empty:=by
 unfold SetTable.slot;dsimp only
 have e:(t.place[SetTable.below t.place j]?==some j)=false:=by
  rcases yt (SetTable.below t.place j) t.place.size with g|g
  ·rw[sk g];have:t.place.getD (SetTable.below t.place j) 0≠j:=λq=>h ⟨_,g,q⟩;simpa using this
  ·rw[wL g];rfl
 have e2:SetTable.has t.dummies j=false:=by rw[d];simp[SetTable.has]
 rw[e,e2];rfl
theorem fF {α:Type}(xs:Array α)(p:Nat)(x:α)(h:p<=xs.size):(SetTable.insertAt xs p x).size=xs.size+1:=by
 rw[<-Bz,SetTable.toList_insertAt];simp;omega
theorem ic {p x:Nat}(h:p<=xs.size):(SetTable.insertAt xs p x).getD k 0=if k<p then xs.getD k 0 else if k=p then x else xs.getD (k-1) 0:=by
 have e:∀(ys:Array Nat)(k:Nat),ys.getD k 0=(ys.toList[k]?).getD 0:=by
  intro ys k;rw[yN,tH]
 rw[e,e,e,SetTable.toList_insertAt]
 have hl:(xs.toList.take p).length=p:=by simp[h]
 by_cases g:k<p
 ·rw[zj g,vO (by omega),Af g]
 ·rw[qM g,rE (by omega),hl]
  by_cases g2:k=p
  ·subst g2;simp
  ·rw[qM g2];obtain⟨q,hq⟩:∃q,k=p+(q+1):=⟨k-p-1,by omega⟩;subst hq;rw[show p+(q+1)-p=q+1 from by omega,List.getElem?_cons_succ,List.getElem?_drop,show p+(q+1)-1=p+q from by omega]
theorem adL (u:Up xs)(h:¬wX xs j):Up (SetTable.insertAt xs (SetTable.below xs j) j):=by
 obtain⟨c1,c2,c3⟩:=fH u j;generalize SetTable.below xs j=p at c1 c2 c3;intro a b Na hb;rw[fF _ _ _ c1] at hb;rw[ic c1,ic c1];have gt:∀k,p<=k->k<xs.size->j<xs.getD k 0:=λk h1 h2=>Nat.lt_of_le_of_ne (c3 k h1 h2) λe=>h ⟨k,h2,e.symm⟩
 by_cases ha:a<p
 ·rw[zj ha]
  by_cases Vr:b<p
  ·rw[zj Vr];exact u _ _ Na (by omega)
  ·rw[qM Vr]
   by_cases Z9:b=p
   ·rw[zj Z9];exact c2 _ ha
   ·rw[qM Z9];exact wG (c2 _ ha) (gt _ (by omega) (by omega))
 ·rw[qM ha]
  by_cases WU:a=p
  ·rw[zj WU,qM (by omega),qM (by omega)];exact gt _ (by omega) (by omega)
  ·rw[qM WU,qM (by omega),qM (by omega)];exact u _ _ (by omega) (by omega)
def it (m:Nat):Nat->Nat->Nat
 |0,x=>x
 |n+1,x=>it m n ((x*5+1)%m)
theorem tN (m a:Nat):∀b x,it m (b+a) x=it m a (it m b x):=by
 intro b
 induction b with
 |zero=>intro x;rw[Io];rfl
 |succ b ih=>intro x;rw[Nat.succ_add];exact ih _
def round (m:Nat):Bool:=it m m 0==0&&(List.range m).all λy=>(List.range m).any λn=>it m n 0==y
variable {m:Nat}
theorem Fk (h:round m=true){x y:Nat}(hx:x<m)(hy:y<m):∃n,n<m/\it m n x=y:=by
 obtain⟨h1,h2⟩:=xo.mp h
 have h0:it m m 0=0:=by simpa using h1
 have on:∀y,y<m->∃n,n<m/\it m n 0=y:=λy hy=>by
  have h3:=wH.mp h2 y (HD.mpr hy);obtain⟨n,hn,e⟩:=wm.mp h3;exact⟨n,HD.mp hn,by simpa using e⟩
 obtain⟨a,ha,rfl⟩:=on x hx;obtain⟨b,hb,rfl⟩:=on y hy
 rcases yt b a with g|g
 ·refine⟨(m-a)+b,by omega,?_⟩
  have e:it m (m-a) (it m a 0)=0:=by rw[<-tN,show a+(m-a)=m from by omega,h0]
  rw[tN,e]
 ·exact⟨b-a,by omega,by rw[<-tN,show a+(b-a)=b from by omega]⟩
theorem adP:round 8=true:=by decide +kernel
theorem adT:round 32=true:=by decide +kernel
theorem adV:round 128=true:=by decide +kernel
def mh (k:Nat):Prop:=k=7\/k=31\/k=127
theorem mh.round (h:mh k):St.round (k+1)=true:=by
 rcases h with rfl|rfl|rfl
 ·exact adP
 ·exact adT
 ·exact adV
def lp (mask:Nat):Nat->Nat->Nat->Nat×Nat
 |0,i,p=>(i,p)
 |n+1,i,p=>lp mask n (SetTable.leap mask i p).1 (SetTable.leap mask i p).2
theorem adW (mask a:Nat):∀b i p,lp mask (b+a) i p=lp mask a (lp mask b i p).1 (lp mask b i p).2:=by
 intro b
 induction b with
 |zero=>intro i p;rw[Io];rfl
 |succ b ih=>intro i p;rw[Nat.succ_add];exact ih _ _
theorem adX (mask:Nat):∀n i p,(lp mask n i p).2=p/32^n:=by
 intro n
 induction n with
 |zero=>intro i p;show p=_;rw[Nat.pow_zero,Nat.div_one]
 |succ n ih =>
  intro i p;show(lp mask n _ _).2=_;rw[ih];show p/32/32^n=_;rw[Nat.div_div_eq_div_mul,Nat.pow_succ,Nat.mul_comm]
theorem ad0 (mask:Nat):∀n i p,i<mask+1->(lp mask n i p).1<mask+1:=by
 intro n
 induction n with
 |zero=>intro i p h;exact h
 |succ n ih=>intro i p h;exact ih _ _ (Hz _ (vD _))
theorem ad1 (mask:Nat):∀n i,(lp mask n i 0).1=it (mask+1) n i:=by
 intro n
 induction n with
 |zero=>intro i;rfl
 |succ n ih=>intro i;exact ih _
variable {mask:Nat}
theorem BP (hm:mh mask){p y:Nat}(hi:i<mask+1)(hp:p<2^64)(hy:y<mask+1):∃n,n<mask+15/\(lp mask n i p).1=y:=by
 have e:(lp mask 13 i p).2=0:=by
  rw[adX];exact Nat.div_eq_of_lt (wG hp (by decide))
 obtain⟨n,hn,h⟩:=Fk hm.round (ad0 mask 13 i p hi) hy;refine⟨13+n,by omega,?_⟩;rw[adW,e,ad1,h]
theorem uu (h:Int):SetTable.bits h<2^64:=by
 unfold SetTable.bits;have h1:0<=h%(2^64:Int):=jN _ (by decide);have h2:h%(2^64:Int)<2^64:=oH _ (by decide);omega
theorem zT (h:i<mask+1):SetTable.runEnd mask i<mask+1/\i<=SetTable.runEnd mask i/\SetTable.runEnd mask i<=i+9:=by
 unfold SetTable.runEnd
 split <;> omega
variable {owner:Array (Option Nat)}
theorem ad7 :∀(n f i p y:Nat),i<mask+1->n<f->(lp mask n i p).1=y->owner.getD y (some 0)=none →
 ∃j,SetTable.layClean.free mask owner f i p=some j/\owner.getD j (some 0)=none:=by
 intro n
 induction n with
 |zero =>
  intro f i p y hi hf hy ho;obtain⟨f,rfl⟩:∃g,f=g+1:=⟨f-1,by omega⟩
  cases(show i=y from hy)
  unfold SetTable.layClean.free
  cases e:(List.range (SetTable.runEnd mask i+1-i)).find? λk=>(owner.getD (i+k) (some 0)).isNone with
  |some k =>
   have:=List.find?_some e;exact⟨i+k,rfl,by simpa using this⟩
  |none =>
   have h0:=List.find?_eq_none.mp e 0 (HD.mpr (by have:=zT hi;omega));rw[Nat.add_zero,ho] at h0;exact absurd rfl h0
 |succ n ih =>
  intro f i p y hi hf hy ho;obtain⟨f,rfl⟩:∃g,f=g+1:=⟨f-1,by omega⟩;unfold SetTable.layClean.free
  cases e:(List.range (SetTable.runEnd mask i+1-i)).find? λk=>(owner.getD (i+k) (some 0)).isNone with
  |some k =>
   have:=List.find?_some e;exact⟨i+k,rfl,by simpa using this⟩
  |none=>exact ih f _ _ y (Hz _ (vD _)) (by omega) hy ho
theorem ad8 {t:T}{h:Int}(u:Up t.place)(d:t.dummies = #[]){F:Nat}:∀(k f:Nat)(p:SetTable.Probe),p.more=k->p.dummy=none->k+1+F=f →
 (∀q:SetTable.Probe,q.j=q.i->q.more=SetTable.runEnd t.mask q.i-q.i->q.dummy=none->(q.i,q.perturb)=SetTable.leap t.mask p.i p.perturb->∃j,SetTable.probe.go t (λ_=>h+1) h F q=some (.empty j none)/\¬wX t.place j) →
 ∃j,SetTable.probe.go t (λ_=>h+1) h f p=some (.empty j none)/\¬wX t.place j:=by
 intro k
 induction k with
 |zero =>
  intro f p hk hd hf hn;obtain⟨f,rfl⟩:∃g,f=g+1:=⟨f-1,by omega⟩
  have hF:F=f:=by omega
  subst hF;unfold SetTable.probe.go
  by_cases g:wX t.place p.j
  ·obtain⟨i,e⟩:=nK u g;rw[e];dsimp only;rw[qM (by simp;omega)];refine hn _ ?_ ?_ ?_ ?_ <;> unfold SetTable.advance <;> rw[qM (by omega)]
   ·exact hd
  ·rw[jl u d g];exact⟨_,by rw[hd],g⟩
 |succ k ih =>
  intro f p hk hd hf hn;obtain⟨f,rfl⟩:∃g,f=g+1:=⟨f-1,by omega⟩;unfold SetTable.probe.go
  by_cases g:wX t.place p.j
  ·obtain⟨i,e⟩:=nK u g;rw[e];dsimp only;rw[qM (by simp;omega)]
   have ea:t.advance p={p with j:=p.j+1,more:=p.more-1}:=by unfold SetTable.advance;rw[zj (by omega)]
   rw[ea];exact ih f _ (by show p.more-1=k;omega) hd (by omega) hn
  ·rw[jl u d g];exact⟨_,by rw[hd],g⟩
theorem aep {t:T}{h:Int}(u:Up t.place)(d:t.dummies = #[]):∀(n f:Nat)(p:SetTable.Probe)(y:Nat),p.i<t.mask+1->p.j=p.i->p.more=SetTable.runEnd t.mask p.i-p.i->p.dummy=none →
 10*n<f->(lp t.mask n p.i p.perturb).1=y->¬wX t.place y->∃j,SetTable.probe.go t (λ_=>h+1) h f p=some (.empty j none)/\¬wX t.place j:=by
 intro n
 induction n with
 |zero =>
  intro f p y hi hj hm hd hf hy hn;obtain⟨f,rfl⟩:∃g,f=g+1:=⟨f-1,by omega⟩;have e:p.j=y:=hj.trans hy;unfold SetTable.probe.go;rw[e,jl u d hn];exact⟨_,by rw[hd],hn⟩
 |succ n ih =>
  intro f p y hi hj hm hd hf hy hn;have hr:=zT hi;refine ad8 u d (F:=f-(p.more+1)) p.more f p rfl hd (by omega) λq q1 q2 q3 q4=>?_;have e1:q.i=(SetTable.leap t.mask p.i p.perturb).1:=Hh Prod.fst q4;have e2:q.perturb=(SetTable.leap t.mask p.i p.perturb).2:=Hh Prod.snd q4;refine ih _ q y (by rw[e1];exact Hz _ (vD _)) q1 q2 q3 (by omega) ?_ hn;rw[e1,e2];exact hy
theorem aeq (u:Up xs):∀m,(∀y,y<m+1->wX xs y)->∃k,k<xs.size/\xs.getD k 0=m/\m<=k:=by
 intro m
 induction m with
 |zero=>intro h;obtain⟨k,hk,e⟩:=h 0 (by omega);exact⟨k,hk,e,Ag _⟩
 |succ m ih =>
  intro h;obtain⟨k,hk,e,hl⟩:=ih λy hy=>h y (by omega);obtain⟨q,hq,e2⟩:=h (m+1) (by omega);refine⟨q,hq,e2,?_⟩
  rcases y6 k q with g|g|g
  ·omega
  ·subst g;omega
  ·have:=u _ _ g hk;omega
theorem AJ (u:Up xs)(h:xs.size<m+1):∃y,y<m+1/\¬wX xs y:=by
 refine Cz λn=>?_;obtain⟨k,hk,_,hl⟩:=aeq u m λy hy=>Cz λg=>n ⟨y,hy,g⟩;omega
theorem aer {t:T}(hm:mh t.mask)(u:Up t.place)(d:t.dummies = #[])(hs:t.place.size<t.mask+1)(h:Int):∃j,t.freeSlot h=some (j,false)/\¬wX t.place j:=by
 obtain⟨y,hy,hn⟩:=AJ u hs;have hi:SetTable.bits h%(t.mask+1)<t.mask+1:=Hz _ (vD _);obtain⟨n,hl,e⟩:=BP hm hi (uu h) hy;obtain⟨j,e2,hj⟩:=aep (h:=h) u d n (10*SetTable.turns t.mask) (t.probeStart h) y hi rfl rfl rfl (by unfold SetTable.turns;omega) e hn;refine⟨j,?_,hj⟩;unfold SetTable.freeSlot SetTable.probe;rw[e2];rfl
def Aj (owner:Array (Option Nat))(m:Nat):List Nat:=(List.range m).filterMap λj=>owner.getD j none
structure Laid (owner:Array (Option Nat))(m k:Nat):Prop where
 size:owner.size=m
 all:(Aj owner m).Perm (List.range k)
theorem getD_none (h:owner.getD j (some 0)=none):j<owner.size/\owner.getD j none=none:=by
 rcases yt j owner.size with g|g
 ·refine⟨g,?_⟩;rw[<-h];simp[Array.getD,g]
 ·simp[Array.getD,Nat.not_lt.mpr g] at h
theorem p8 {α β:Type}{f:α->Option β}:∀{l:List α},(∀x,x∈l->f x≠none)->(l.filterMap f).length=l.length
 |[],_=>rfl
 |x::l,h=>by
  obtain⟨y,e⟩:=Option.ne_none_iff_exists'.mp (h x Ij);rw[List.filterMap_cons_some e,wF,wF,p8 λz hz=>h z (Er _ hz)]
theorem Laid.AJ (L:Laid owner m k)(h:k<m):∃y,y<m/\owner.getD y (some 0)=none:=by
 refine Cz λn=>?_
 have e:(Aj owner m).length=m:=by
  unfold Aj;rw[p8,Ed];intro y hy e;have Ms:=HD.mp hy;refine n ⟨y,Ms,?_⟩;rw[<-e];simp[Array.getD,L.size,Ms]
 rw[L.all.length_eq,Ed] at e;omega
theorem l7 {α β:Type}{f g:α->Option β}:∀{l:List α},(∀x,x∈l->f x=g x)->l.filterMap f=l.filterMap g
 |[],_=>rfl
 |x::l,h=>by
  rw[BB,BB,h x Ij,l7 λz hz=>h z (Er _ hz)]
theorem aes (hs:owner.size=m)(hj:j<m)(ho:owner.getD j none=none):(Aj (owner.setIfInBounds j (some k)) m).Perm (k::Aj owner m):=by
 obtain⟨a,b,e⟩:=List.append_of_mem (HD.mpr hj);have nd:(a++j::b).Nodup:=e▸List.nodup_range
 have na:∀x,x∈a->x≠j:=λx hx q=>by
  rw[C8] at nd;exact nd.2.2 x hx j Ij q
 have nb:∀x,x∈b->x≠j:=λx hx q=>by
  rw[C8] at nd;exact(zJ.mp nd.2.1).1 (q▸hx)
 have ne:∀x,x≠j->(owner.setIfInBounds j (some k)).getD x none=owner.getD x none:=λx hx=>by
  rw[tH,tH,yD (Jm hx)]
 have ej:(owner.setIfInBounds j (some k)).getD j none=some k:=by
  rw[tH,Array.getElem?_setIfInBounds_self_of_lt (by omega)];rfl
 unfold Aj;rw[e,List.filterMap_append,List.filterMap_append,BB,BB,ej,ho];dsimp only;rw[l7 λx hx=>ne x (na x hx),l7 λx hx=>ne x (nb x hx)];exact List.perm_middle
theorem aex (hm:mh mask):∀(hs:List Int)(owner:Array (Option Nat))(k:Nat),Laid owner (mask+1) k->k+hs.length<mask+1 →
 ∃LU,hs.foldl (λacc h=>do
  let(owner,k) <-acc
  let j <-SetTable.layClean.free mask owner (SetTable.turns mask) (SetTable.bits h%(mask+1)) (SetTable.bits h)
  pure (owner.setIfInBounds j (some k),k+1)) (some (owner,k))=some (LU,k+hs.length)/\Laid LU (mask+1) (k+hs.length):=by
 intro hs
 induction hs with
 |nil=>intro owner k L _;exact⟨owner,rfl,L⟩
 |cons h hs ih =>
  intro owner k L hl;rw[wF] at hl;obtain⟨y,hy,ho⟩:=L.AJ (by omega);have hi:SetTable.bits h%(mask+1)<mask+1:=Hz _ (vD _);obtain⟨n,hn,e⟩:=BP hm hi (uu h) hy;obtain⟨j,ej,hj⟩:=ad7 n (SetTable.turns mask) _ _ y hi (by unfold SetTable.turns;omega) e ho;obtain⟨j1,j2⟩:=getD_none hj
  have L':Laid (owner.setIfInBounds j (some k)) (mask+1) (k+1):=by
   refine⟨by rw[Array.size_setIfInBounds];exact L.size,(aes L.size (by rw[<-L.size];exact j1) j2).trans ?_⟩;rw[wY];exact(List.Perm.cons k L.all).trans (List.perm_append_singleton k _).symm
  obtain⟨o',e',l'⟩:=ih _ _ L' (by omega);refine⟨o',?_,by rw[wF,show k+(hs.length+1)=k+1+hs.length from by omega];exact l'⟩;rw[AG,wF,show k+(hs.length+1)=k+1+hs.length from by omega];show List.foldl _ ((SetTable.layClean.free mask owner (SetTable.turns mask) (SetTable.bits h%(mask+1)) (SetTable.bits h)).bind _) hs=_;rw[ej];exact e'
theorem aeB (m:Nat):Aj (Array.replicate m none) m=[]:=by
 unfold Aj;rw[List.filterMap_eq_nil_iff];intro j hj;have Od:=HD.mp hj;simp[Array.getD,Od]
theorem aeF (hm:mh mask)(hs:Array Int)(h:hs.size<mask+1):∃owner,SetTable.layClean mask hs=some owner/\Laid owner (mask+1) hs.size:=by
 obtain⟨o,e,l⟩:=aex hm hs.toList (Array.replicate (mask+1) none) 0 ⟨Array.size_replicate,by rw[aeB];exact Dv _⟩ (by rw[Bz];omega);rw[Bz,Io] at e l;refine⟨o,?_,l⟩;unfold SetTable.layClean;rw[<-Array.foldl_toList];rw[e];rfl
theorem aeG {l:List Nat}(h:l.Pairwise (· < ·)):Up l.toArray:=by
 intro i j K0 hj;rw[D4] at hj;have:=tU.mp h i j (by omega) hj K0;rw[show l.toArray.getD i 0=l[i] from by simp[Array.getD,show i<l.length from by omega],show l.toArray.getD j 0=l[j] from by simp[Array.getD,hj]];exact this
theorem aeK {t:T}{hs:Array Int}{wanted:Nat}(em:SetTable.sizeAbove wanted-1=mask)(hm:mh mask)(h:hs.size<mask+1):
 ∃t' order,t.relaid hs wanted=some (t',order)/\t'.mask=mask/\t'.dummies = #[]/\t'.led=t.led/\t'.plain=t.plain/\Up t'.place/\t'.place.size=hs.size/\order.toList.Perm (List.range hs.size):=by
 obtain⟨o,e,l⟩:=aeF hm hs h;unfold SetTable.relaid SetTable.laid;rw[em,e];refine⟨_,_,rfl,rfl,rfl,rfl,rfl,?_,?_,?_⟩
 ·dsimp only;rw[vC];refine aeG (List.Pairwise.filterMap _ (λa a' haa b hb b' JN=>?_) (List.pairwise_lt_range (n:=mask+1)))
  cases ea:o.getD a none with
  |none=>rw[ea] at hb;cases hb
  |some x =>
   cases ea':o.getD a' none with
   |none=>rw[ea'] at JN;cases JN
   |some x' =>
    rw[ea] at hb;rw[ea'] at JN
    cases hb;cases JN
    exact haa
 ·have e1:=l.all.length_eq;rw[Ed] at e1;dsimp only;rw[D4,vW,<-e1];unfold Aj;rw[show(λj=>o.getD j none)=(λj=>((o.getD j none).map (j,·)).map Prod.snd) from funext λj=>by cases o.getD j none <;> rfl,<-vC,vW]
 ·dsimp only;rw[vC]
  have e2:(λx=>Option.map (λx=>x.snd) (Option.map (λx_1=>(x,x_1)) (o.getD x none)))=λj=>o.getD j none:=funext λj=>by cases o.getD j none <;> rfl
  rw[e2];exact l.all
structure Ok (led:Bool)(n:Nat)(t:T):Prop where
 mask:mh t.mask
 room:n*5<t.mask*3
 size:t.place.size=n
 up:Up t.place
 dum:t.dummies = #[]
 plain:t.plain=true
 led:t.led=led
variable {led:Bool}{n:Nat}
theorem Ok.fits {t:T}(o:Ok led n t):t.fits n=true:=by
 have h1:=o.room;have h2:=o.size;simp only[SetTable.fits,SetTable.fill,Im,y7,yM,o.dum];refine⟨h2,?_⟩;rw[h2,yw];omega
theorem Ok.fresh (led:Bool):Ok led 0 (.fresh 0 0 led):=
 ⟨.inl rfl,by show 0*5<7*3;decide,rfl,λi j _ h=>absurd h (pU _),rfl,rfl,rfl⟩
theorem aeL {t:T}(o:Ok led n t){es:Array (Int×Value)}(he:es.size=n)(h:Int)(x:Value):∃es' t',layNew t es h x=(es',t',false,false)/\es'.size=n+1 /\
 mh t'.mask/\t'.mask=t.mask/\t'.place.size=n+1/\Up t'.place/\t'.dummies = #[]/\t'.plain=true/\t'.led=led/\t'.fits (n+1)=true:=by
 have hr:=o.room;have hs:=o.size;obtain⟨j,ej,hj⟩:=aer o.mask o.up o.dum (by rw[hs];omega) h;have c:=fH o.up j
 have e1:(SetTable.insertAt t.place (SetTable.below t.place j) j).size=n+1:=by rw[fF _ _ _ c.1,hs]
 have e2:(SetTable.insertAt es (SetTable.below t.place j) (h,x)).size=n+1:=by rw[fF _ _ _ (by have:=c.1;omega),he]
 have e3:SetTable.has t.dummies j=false:=by rw[o.dum];simp[SetTable.has]
 have ep:t.put j=({t with place:=SetTable.insertAt t.place (SetTable.below t.place j) j},SetTable.below t.place j):=by
  unfold SetTable.put;dsimp only;rw[e3];rfl
 have ef:SetTable.fits {t with place:=SetTable.insertAt t.place (SetTable.below t.place j) j} (n+1)=true:=by
  simp only[SetTable.fits,SetTable.fill,Im,y7,yM,o.dum];refine⟨e1,?_⟩;rw[e1,yw];omega
 refine⟨SetTable.insertAt es (SetTable.below t.place j) (h,x),{t with place:=SetTable.insertAt t.place (SetTable.below t.place j) j},?_,e2,o.mask,rfl,e1,adL o.up hj,o.dum,o.plain,o.led,ef⟩;unfold layNew;rw[ej];dsimp only;rw[ep];dsimp only;unfold SetTable.orStandIn;rw[e2,ef];rfl
theorem aeT:SetTable.sizeAbove (SetTable.grown 5)-1=31:=by decide
theorem aeV:SetTable.sizeAbove (SetTable.grown 19)-1=127:=by decide
theorem aeW {t:T}(hn:n<76)(hm:mh t.mask)(hr:n*5<t.mask*3)(hs:t.place.size=n+1)(d:t.dummies = #[])(hp:t.plain=true)(hl:t.led=led)
 {es:Array (Int×Value)}(he:es.size=n+1)(hf:t.tooFull=true):∃es' t',relayAll t es (SetTable.grown es.size)=(es',t',false)/\es'.size=n+1/\Ok led (n+1) t':=by
 have full:(n+1)*5 ≥ t.mask*3:=by
  have:=hf;simp only[SetTable.tooFull,SetTable.fill,hs,d,yw,yM] at this;omega
 have two:(t.mask=7/\n+1=5)\/(t.mask=31/\n+1=19):=by
  rcases hm with e|e|e <;> omega
 obtain⟨mask,em,Vl,JB,QO⟩:∃mask,SetTable.sizeAbove (SetTable.grown es.size)-1=mask/\mh mask/\n+1<mask+1/\(n+1)*5<mask*3:=by
  rw[he]
  rcases two with⟨_,e⟩|⟨_,e⟩
  ·exact⟨31,by rw[e];exact aeT,.inr (.inl rfl),by omega,by omega⟩
  ·exact⟨127,by rw[e];exact aeV,.inr (.inr rfl),by omega,by omega⟩
 have e0:(es.map (·.1)).size=n+1:=by rw[Array.size_map];exact he
 obtain⟨t',order,er,m1,m2,m3,m4,m5,m6,m7⟩:=aeK (t:=t) (hs:=es.map (·.1)) em Vl (by rw[e0];exact JB);rw[e0] at m6 m7
 have es':(order.filterMap (es[·]?)).size=n+1:=by
  have:=(m7.filterMap (λi=>es[i]?)).length_eq;rw[<-he,filterMap_getElem?_range] at this;rw[<-Bz,Array.toList_filterMap];refine this.trans ?_;rw[Bz,he]
 have O:Ok led (n+1) t':=⟨by rw[m1];exact Vl,by rw[m1];exact QO,m6,m5,m2,m4.trans hp,m3.trans hl⟩;refine⟨order.filterMap (es[·]?),t',?_,es',O⟩;unfold relayAll;rw[er];dsimp only
 have c:coversAll order es.size=true:=by unfold coversAll;rw[he];exact List.isPerm_iff.mpr m7
 rw[es',c,O.fits];rfl
open PyProof.Rows
def num:Value->Int
 | .int n _=>n
 |_=>0
abbrev Ent:=Int×Value
def aeX (e:Ent):Prop:=∃n t,e=(hashInt n,.int n t)
structure lC (es:Array Ent)(ns:List Int):Prop where
 p7:∀e,e∈es.toList->aeX e
 perm:(es.toList.map λe=>num e.2).Perm ns
abbrev jK (es:Array Ent)(ep:Nat)(t:T):Obj:={cls:=.type "set",dict:=none,data:=.set es ep t,slots:=#[]}
def jM (led:Bool)(h:Heap)(a:Addr)(ns:List Int):Prop:=∃es ep t,h.get? a=some (jK es ep t)/\lC es ns/\es.size=ns.length/\Ok led ns.length t
theorem qp:∀{vs:yX},(∀v,v∈vs->∃n t,v=.int n t)->IntsAre vs (vs.map num)
 |[],_=>.nil
 |v::vs,h=>by
  obtain⟨n,t,rfl⟩:=h v Ij;exact .cons n t (qp λu hu=>h u (Er _ hu))
variable {es:Array Ent}{ns:List Int}{h:Heap}{a:Addr}{ep:Nat}
section
variable {prog:Iy}{w:World}{A:Around}{E:Bf}{s:AL}
theorem lC.elems (c:lC es ns):ElemsOf (intKind prog w) es.toList:=by
 intro e he;obtain⟨n,t,rfl⟩:=c.p7 e he;exact⟨⟨n,zk _ _ _ _,rfl⟩,rfl⟩
theorem lC.has (c:lC es ns)(k:Int):(∃e,e∈es.toList/\(intKind prog w).is k e.2=true)↔k∈ns:=by
 rw[<-c.perm.mem_iff,Hy];constructor
 ·rintro⟨e,he,hk⟩;obtain⟨n,t,rfl⟩:=c.p7 e he;refine⟨_,he,?_⟩;exact(intKind prog w).inj (.int n t) n k (zk _ _ _ _) hk
 ·rintro⟨e,he,hk⟩;obtain⟨n,t,rfl⟩:=c.p7 e he
  cases(show n=k from hk)
  exact⟨_,he,zk _ _ _ _⟩
theorem lC.push {es':Array Ent}(c:lC es ns){k:Int}{tk:Tok}(p:es'.toList.Perm (es.toList++[(hashInt k,.int k tk)])):lC es' (ns++[k]):=by
 refine⟨λe he=>?_,?_⟩
 ·rcases rQ.mp (p.mem_iff.mp he) with h|h
  ·exact c.p7 e h
  ·rw[yP] at h;exact⟨k,tk,h⟩
 ·refine(p.map _).trans ?_;rw[Hs];exact c.perm.append (Dv _)
theorem lC.ajw {es':Array Ent}(c:lC es ns)(p:es'.toList.Perm es.toList):lC es' ns :=
 ⟨λe he=>c.p7 e (p.mem_iff.mp he),(p.map _).trans c.perm⟩
theorem qC {k:Int}(h:k∈ns):step_dedup ns k=ns:=by
 unfold step_dedup;rw[zj (wm.mpr ⟨k,h,by simp⟩)]
theorem i8 {k:Int}(h:k∉ns):step_dedup ns k=ns++[k]:=by
 unfold step_dedup;rw[qM λg=>?_];obtain⟨x,hx,e⟩:=wm.mp g;exact h ((by simpa using e:x=k)▸hx)
theorem uh {es':Array Ent}{t t':T}(ho:h.get? a=some (jK es ep t)):(h.update a (Obj.putSet es' t')).get? a=some (jK es' (ep+1) t'):=
 mD (Obj.putSet es' t') ho rfl
theorem aeY {k:Int}{tk:Tok}{Q:Bool->Shared->Prop}(S:jM led s.heap a ns)(hn:ns.length<76)
 (hQ:∀b h',Heap.SameBut a s.heap h'->jM led h' a (step_dedup ns k)->Q b {s with heap:=h'}):wpAny (model prog w) A (setAddHashed a (.int k tk) (hashInt k)) Q E s:=by
 obtain⟨es,ep,t,ho,c,hz,O⟩:=S
 have hf:t.fits es.size=true:=by rw[hz];exact O.fits
 have hel:ElemsOf (intKind prog w) es.toList:=c.elems
 have hb:es.size<scanBound:=by show _<4096;omega
 unfold setAddHashed setAddHashedIn;refine tj (C7 (wpAny_setState_of ho rfl hf ?_));dsimp only;rw[byScan_of (knd:=intKind prog w) rfl hb hel,zj rfl];unfold setAddByScan;refine C7 (C7 (wD (C7 (wpAny_setScan_of (knd:=intKind prog w) (zk _ _ k tk) ho rfl hf hel ?_))))
 cases hr:List.findIdx? (λe=>(intKind prog w).is k e.2) es.toList with
 |some j =>
  obtain⟨hj,hpj,_⟩:=List.findIdx?_eq_some_iff_getElem.mp hr;have hk:k∈ns:=(c.has (prog:=prog) (w:=w) k).mp ⟨_,zP hj,hpj⟩;refine pO (pO ?_);have:=hQ false s.heap (Heap.SameBut.refl a s.heap) (by rw[qC hk];exact⟨es,ep,t,ho,c,hz,O⟩)
  cases s;exact this
 |none =>
  have hk:k∉ns:=λh=>by
   obtain⟨e,he,hp⟩:=(c.has (prog:=prog) (w:=w) k).mpr h;have:=List.findIdx?_eq_none_iff.mp hr e he;rw[hp] at this;cases this
  obtain⟨PU,t1,eL,z1,m1,m2,p1,u1,d1,WV,l1,f1⟩:=aeL O hz (hashInt k) (.int k tk);have hp:=layNew_perm t es (hashInt k) (.int k tk);rw[eL,Array.toList_push] at hp;have c1:lC PU (ns++[k]):=c.push hp;dsimp only;rw[eL];dsimp only;refine C7 (pO ?_);rw[WV,zj rfl,hashByValue_scannable 8 (x:=.int k tk) rfl];refine C7 (pO ?_);rw[zj (show plainKind (.int k tk)=true from rfl)]
  have len:(ns++[k]).length=ns.length+1:=by rw[tE];rfl
  refine C7 (wpAny_storeSet_of ho rfl ?_ (fits_of_scanBound (by rw[z1];show _<4096;omega)));have Oo:=uh (es':=PU) (t':=t1) ho;have MM:=GO s.heap a (Obj.putSet PU t1)
  by_cases LV:t1.tooFull=true
  ·obtain⟨es2,t2,eR,z2,O2⟩:=aeW hn m1 (by rw[m2];exact O.room) p1 d1 WV l1 z1 LV;have PB:=relayAll_perm t1 PU (SetTable.grown PU.size);rw[eR] at PB;rw[zj (by rw[LV];rfl)];rw[eR];dsimp only;refine C7 (pO ?_);refine C7 (wpAny_storeSet_of Oo rfl ?_ (fits_of_scanBound (by rw[z2];show _<4096;omega)));refine pO (pO (hQ true _ (MM.trans (GO _ a _)) ?_));rw[i8 hk];exact⟨es2,_,t2,uh Oo,c1.ajw PB,by rw[len];exact z2,by rw[len];exact O2⟩
  ·have hnf:t1.tooFull=false:=by simpa using LV
   rw[qM (by rw[hnf];decide)];refine pO (pO (hQ true _ MM ?_));rw[i8 hk];refine⟨PU,_,t1,Oo,c1,by rw[len];exact z1,?_⟩;rw[len];refine⟨m1,?_,p1,u1,d1,WV,l1⟩;simp only[SetTable.tooFull,SetTable.fill,p1,d1,yw,decide_eq_false_iff_not] at hnf;omega
end
abbrev own (w:World):Bool:=!w.params.followText "set-order"
abbrev GE:Array GenState->Array GenState->Prop:=λa b=>b=a
structure Src (prog:Iy)(w:World)(c:String)(its:EV)(Is:Heap->Addr->Prop)(PV:Addr->Obj):Prop where
 type:∀h l,Is h l->∃o,h.get? l=some o/\o.cls=.type c
 keep:∀h h' l,Is h l->(∀o,h.get? l=some o->h'.get? l=some o)->Is h' l
 iter:∀(A:Around)(s:AL) l (Q:Bf)(E:Bf),Is s.heap l->Q (.ref s.heap.objs.size) {s with heap:=s.heap.push (PV l)}->wpAny (model prog w) A (pyIter (.ref l)) Q E s
 walk:∀(A:Around) I l,A.handled=none->l≠I->∃G,WalksS prog w A I [I,l] [I] GE its.size (λi v=>its[i]?=some v) G/\∀s:Shared,Is s.heap l->s.heap.get? I=some (PV l)->G 0 s
 aiM:∀(h:Heap) l,(h.push (PV l)).get? h.objs.size=some (PV l)
 s1:isSubtype (.type c) (.type "set")=pure false
 s2:isSubtype (.type c) (.type "frozenset")=pure false
 nd:(Value.type c==Value.type "dict")=false
section
variable {prog:Iy}{w:World}{A:Around}{R:Result->Shared->Prop}{I:Addr}{fp wr:List Addr}{n:Nat}{P:Nat->Value->Prop}{G:Nat->Shared->Prop}
theorem ae1 (W:WalksS prog w A.in1 I fp wr GE n P G)(a:Addr)(ha:a∉fp)(val:Nat->Int)(hv:∀i v,P i v->∃t,v=.int (val i) t)(hn:n<76):
 ∀(k i:Nat)(s:AL),n-i=k->i<=n->G i s->jM led s.heap a (firstMet val i) →
  (∀z,Moved (a::wr) GE s z->jM led z.heap a (firstMet val n)->R (.ok (.ret .none)) z) →
  codeAny (model prog w) A (.builtin "set.update.loop" ⟨[.ref a,.ref I],[]⟩) R s:=by
 have aw:a∉wr:=λh=>ha (W.sub _ h);have up:∀b,b∈wr->b∈a::wr:=λb hb=>Er _ hb;have mv:∀{y z:AL}{ns:List Int},Moved wr GE y z->jM led y.heap a ns->jM led z.heap a ns:=λm ⟨es,ep,t,o,r⟩=>⟨es,ep,t,m.heap a _ aw o,r⟩;intro k
 induction k with
 |zero =>
  intro i s hk hi g S hR
  cases(show i=n by omega)
  refine wx rO ?_;rw[sN tJ _];refine C7 (m:=pyNext (.ref I)) ?_;exact W.done s _ _ g λz m=>pO (hR z (m.mono up) (mv m S))
 |succ k ih =>
  intro i s hk hi g S hR;refine wx rO ?_;rw[sN tJ _];refine C7 (m:=pyNext (.ref I)) ?_;refine W.item i s _ _ (by omega) g λv z hp g1 m=>?_;obtain⟨t,rfl⟩:=hv i v hp;refine C7 (m:=holding [Value.int (val i) t] (setAdd a (.int (val i) t))) (tj ?_);unfold setAdd;refine tj (C7 ((intKind prog w).pyHash (k:=val i) (zk _ _ _ _) ?_));refine aeY (s:={z with toks:=z.toks+1}) (show jM led z.heap a _ from mv m S) (by have:=firstMet_length_le val i;omega) λb h' sb S1=>?_;rw[<-firstMet_succ] at S1;refine pO ⟨Ef tJ _,ih (i+1) _ (by omega) (by omega) (W.frame _ z _ _ g1 (jL _) λb hb o e=>?_) S1 λy m1 S2=>?_⟩
  ·rw[sb.2 b λh:b=a=>ha (h▸hb)];exact e
  ·refine hR y (Moved.trans W.gtrans ((m.mono up).then_heap (jL _) λb o hb e=>?_) m1) S2;rw[sb.2 b λh:b=a=>hb (by rw[h];exact Ij)];exact e
end
section
variable {prog:Iy}{w:World}{A:Around}{E:Bf}{s:AL}
abbrev pF (w:World):Obj:=jK #[] 0 (.fresh 0 0 (own w))
theorem ae7 (v:Value){Q:Bf}(h:Q (.ref s.heap.objs.size) {s with heap:=s.heap.push (pF w)}):
 codeAny (model prog w) A (.call (.builtin "set.__new__") ⟨[.type "set",v],[]⟩) (wants Q E) s:=by
 refine codeAny_of_tree (show wpAny _ A.in1 (checkBuiltinCall "set.__new__" ⟨[.type "set",v],[]⟩>>=λ_=>again (.builtin "set.__new__" ⟨[.type "set",v],[]⟩)) _ _ s from ?_);refine C7 (xc (F.newCall_set_1 v) (pO ⟨Ef F.plain_set_new _,wx F.entry_set_new ?_⟩));rw[sN F.plain_set_new _];unfold Builtin.«set.__new__» Builtin.Frozenset.newClass;have su:=sub_set_self
 cases s
 dsimp only
 wp_walk
 refine wK (pO ?_);dsimp only[newObj];exact C7 (wpAny_alloc (pO (pO h)))
set_option maxHeartbeats 3200000 in
theorem qc {c:String}{its:EV}{Is:Heap->Addr->Prop}{PV:Addr->Obj}(X:Src prog w c its Is PV){l:Addr}{Q:Bf}
 (hh:A.handled=none)(hl:Is s.heap l)(hi:IntsAre its.toList ns)(hb:its.size<76)
 (h:∀(h':Heap)(tk:Nat),jM (own w) h' s.heap.objs.size (firstMet (λi=>ns.getD i 0) its.size)->(∀b o,b<s.heap.objs.size->s.heap.get? b=some o->h'.get? b=some o) →
  s.toks<=tk->Q (.ref s.heap.objs.size) {s with heap:=h',toks:=tk}):
 wpAny (model prog w) A (call (.type "set") [.ref l]) Q E s:=by
 obtain⟨_,_,mro⟩:=CK.mro;have made:=CK.made;have su:=CK.sub;refine sQ (codeAny_of_tree (show wpAny _ _ (callAny (.type "set") _) _ _ _ from pO ⟨Code.quiet_builtin _ (by decide +kernel),wx F.entry_type_call ?_⟩));rw[Around.under_plain (weight_type_call_type "set" [.ref l] []) rfl];have k1:=CK.notType;have k2:=CK.canCreate;have k3:=F.typeCall_set_1 (.ref l)
 repeat (any_goals (first|assumption|wp_step))
 refine AK (ae7 (.ref l) (E:=E) (Q:=λv z=>v=.ref s.heap.objs.size/\z={s with heap:=s.heap.push (pF w)}) ⟨rfl,rfl⟩) λr z hr=>?_
 cases r with
 |error e=>exact hr
 |ok fl =>
  cases fl with
  |ret obj =>
   obtain⟨rfl,rfl⟩:=hr;have oS:(s.heap.push (pF w)).get? s.heap.objs.size=some (pF w):=Hr _ rfl;have tS:Shared.TypeIs {s with heap:=s.heap.push (pF w)} (.ref s.heap.objs.size) "set":=⟨_,oS,rfl⟩;have k4:=CK.init.lookup;have k5:=CK.init.bind (.ref s.heap.objs.size)
   repeat (any_goals (first|assumption|wp_step))
   refine AK (vT (R:=wants (λv z=>v=.none/\∃h' tk,z={s with heap:=h',toks:=tk}/\jM (own w) h' s.heap.objs.size (firstMet (λi=>ns.getD i 0) its.size) /\
    (∀b o,b<s.heap.objs.size->s.heap.get? b=some o->h'.get? b=some o)/\s.toks<=tk) E) CK.init.plain F.entry_set_init (check_set_init_1 tS ?_)) λr z hr=>?_
   ·have lS:Is (s.heap.push (pF w)) l:=X.keep _ _ _ hl λo e=>wa _ e;obtain⟨⟨oc,od,oda,JM⟩,QG,hcl⟩:=X.type _ _ lS;dsimp only at hcl;subst hcl
    have JB:l<s.heap.objs.size:=by
     obtain⟨o,e,_⟩:=X.type _ _ hl;exact Ec e
    have tl:Shared.TypeIs {s with heap:=s.heap.push (pF w)} (.ref l) c:=⟨_,QG,rfl⟩;have k6:=X.s1;have k7:=X.s2;have k8:=X.nd;unfold Builtin.«set.__init__» noKeywords Builtin.Frozenset.updateFrom;generalize ePI:pyIter=PI
    wp_walk
    subst ePI;refine X.iter _ _ _ _ _ lS ?_;refine C7 (wpAny_runValue ?_)
    have h3:A.in1.in1.in1.handled=none:=by simp[hh]
    have nI:l≠(s.heap.push (pF w)).objs.size:=by rw[DG];exact Ie (rG JB)
    have nf:s.heap.objs.size ∉ [(s.heap.push (pF w)).objs.size,l]:=by
     rw[DG];simp only[BN,xM,EO,ze];exact⟨Ie (xO _),BL JB⟩
    obtain⟨G,W,g0⟩:=X.walk A.in1.in1.in1 _ l h3 nI
    refine ae1 W s.heap.objs.size nf (λi=>ns.getD i 0) (λi v e=>IntsAre.int_at hi i v (by rw[yN];exact e)) hb (its.size-0) 0 _ rfl (Ag _)
     (g0 _ (X.keep _ _ _ lS λo e=>wa _ e) (X.aiM _ _)) ⟨#[],0,_,wa _ oS,⟨λe he=>by simp at he,Dv _⟩,rfl,Ok.fresh _⟩ ?_
    intro z m S
    have Oq:∀b o,b<s.heap.objs.size->s.heap.get? b=some o->z.heap.get? b=some o:=λb o hb e=>by
     refine m.heap b o ?_ (wa _ (wa _ e));rw[DG];simp only[BN,xM,EO,ze];exact⟨Ie hb,Ie (rG hb)⟩
    have ez:z={s with heap:=z.heap,toks:=z.toks}:=by
     have e1:z.gens=s.gens:=m.gens;have e2:z.drawn=s.drawn:=m.drawn;have e3:z.os=s.os:=m.os
     cases z;cases e1;cases e2;cases e3;rfl
    refine pO (show wpAny _ _ (ret Value.none) _ _ _ from pO ⟨rfl,z.heap,z.toks,ez,S,Oq,m.toks⟩)
   ·cases r with
    |error e=>exact hr
    |ok fl =>
     cases fl with
     |ret v =>
      obtain⟨rfl,h',tk,rfl,S,Oq,Qi⟩:=hr
      repeat (any_goals (first|assumption|wp_step))
      exact h h' tk S Oq Qi
     |_=>exact hr.elim
  |_=>exact hr.elim
end
theorem ae8 (prog:Iy)(w:World)(its:EV):Src prog w "list" its (λh l=>h.IsList l its) (λl=>{cls:=.type "list_iterator",data:=.fields #[.ref l,.int 0 0]}) where
 type:=λh l ⟨o,e,c,_⟩=>⟨o,e,c⟩
 keep:=λh h' l ⟨o,e,r⟩ k=>⟨o,k o e,r⟩
 iter:=λA s l Q E hl h=>Gp hl h
 walk:=λA I l hh Kj=>⟨_,(Walks.list hh I l Kj its).toS,λs hl e=>⟨⟨_,e,rfl,rfl⟩,hl⟩⟩
 aiM:=λh l=>Hr _ rfl
 s1:=F.sub_list_set
 s2:=F.sub_list_frozenset
 nd:=by decide
theorem ae9 (prog:Iy)(w:World)(its:EV):Src prog w "tuple" its (λh l=>h.IsTuple l its) (λl=>{cls:=.type "tuple_iterator",data:=.fields #[.ref l,.int 0 0]}) where
 type:=λh l ⟨o,e,c,_⟩=>⟨o,e,c⟩
 keep:=λh h' l ⟨o,e,r⟩ k=>⟨o,k o e,r⟩
 iter:=λA s l Q E hl h=>Hx hl h
 walk:=λA I l hh Kj=>⟨_,(Walks.tuple hh I l Kj its).toS,λs hl e=>⟨⟨_,e,rfl,rfl⟩,hl⟩⟩
 aiM:=λh l=>Hr _ rfl
 s1:=by rw[CB];kernel_rfl
 s2:=by rw[CB];kernel_rfl
 nd:=by decide
theorem afc {α:Type}{l:List α}(h:i<l.length):(l[i]::l.eraseIdx i).Perm l:=by
 rw[List.eraseIdx_eq_take_drop_succ];refine(List.perm_middle).symm.trans ?_;rw[<-An h,Dc]
theorem afg {α:Type}(f:Nat->Nat):∀(n k:Nat)(l:List α)(out:Array α),n=l.length->(pickOrder.go f n k l out).toList.Perm (out.toList++l):=by
 intro n
 induction n with
 |zero =>
  intro k l out h
  cases l with
  |nil=>unfold pickOrder.go;rw[xY]
  |cons x l=>cases h
 |succ n ih =>
  intro k l out h;unfold pickOrder.go;have hl:f k%l.length<l.length:=Hz _ (by omega);rw[Ff hl];dsimp only;refine(ih (k+1) _ _ (by rw[List.length_eraseIdx_of_lt hl];omega)).trans ?_;rw[Array.toList_push,AA];exact List.Perm.append_left _ (afc hl)
theorem afh {α:Type}(f:Nat->Nat)(xs:Array α):(pickOrder f xs).toList.Perm xs.toList:=by
 have:=afg f xs.size 0 xs.toList #[] (by rw[Bz]);exact this
def wR (w:World)(a:Addr)(ep:Nat)(es:Array Ent):Array Ent:=if w.params.followText "set-order" then pickOrder (w.params.setOrder a ep) es else es
theorem lV (w:World)(a:Addr)(ep:Nat)(es:Array Ent):(wR w a ep es).toList.Perm es.toList:=by
 unfold wR
 split
 ·exact afh _ _
 ·exact Dv _
def ia (w:World)(t:T)(i:Nat):Nat:=if w.params.followText "set-order" then 0 else if i=0 then 0 else t.place.getD (i-1) 0+1
abbrev wU (w:World)(t:T)(a:Addr)(n ep i:Nat):Obj:={cls:=.type "set_iterator",data:=.fields #[rawInt (ia w t i),rawInt i,.ref a,rawInt n,rawInt ep]}
theorem gU:Slot "set_iterator" "__next__" "set_iterator.__next__" :=
 .of (owner:="set_iterator") (n:="__next__") (by rw[typeLookup_type,builtinLookup_eq_fast];kernel_rfl) (by decide +kernel) (by decide +kernel) (by decide +kernel) (by first|exact .inl (by decide +kernel)|exact .inr (by decide +kernel)) (by rw[CB];kernel_rfl)
theorem ud:entryFor table "set_iterator.__next__"=some Builtin.«set_iterator.__next__»:=entryFor_of_tree (by kernel_rfl)
theorem uy (a:Value):argsOk "set_iterator.__next__" ⟨[a],[]⟩:=by unfold argsOk;kernel_rfl
theorem uo:Slot "set_iterator" "__iter__" "set_iterator.__iter__" :=
 .of (owner:="set_iterator") (n:="__iter__") (by rw[typeLookup_type,builtinLookup_eq_fast];kernel_rfl) (by decide +kernel) (by decide +kernel) (by decide +kernel) (by first|exact .inl (by decide +kernel)|exact .inr (by decide +kernel)) (by rw[CB];kernel_rfl)
theorem afi:entryFor table "set_iterator.__iter__"=some Builtin.«dict_keyiterator.__iter__» :=
 entryFor_alias (id':="dict_keyiterator.__iter__") (by kernel_rfl) rfl (by decide +kernel) (by kernel_rfl)
theorem afj (a:Value):argsOk "set_iterator.__iter__" ⟨[a],[]⟩:=by unfold argsOk;kernel_rfl
theorem afk:entryFor table "set.__iter__"=some Builtin.«frozenset.__iter__» :=
 entryFor_alias (id':="frozenset.__iter__") (by kernel_rfl) rfl (by decide +kernel) (by kernel_rfl)
variable {I:Addr}
section
variable {prog:Iy}{w:World}{A:Around}{E:Bf}{s:AL}
theorem j0 {t:T}{Q:(Array Ent×Nat×T)->Shared->Prop}(ho:s.heap.get? a=some (jK es ep t))(O:Ok led n t)(hz:es.size=n)(h:Q (es,ep,t) s):
 wpAny (model prog w) A (setState a) Q E s:=wpAny_setState_of ho rfl (by rw[hz];exact O.fits) h
theorem tD {Q:Bool->Shared->Prop}(h:Q (w.params.followText "set-order") s):wpAny (model prog w) A setsByText Q E s:=by
 unfold setsByText;exact C7 (wK (pO h))
theorem u3 {t:T}{Q:Option (Value×Nat)->Shared->Prop}(ho:s.heap.get? a=some (jK es ep t))(O:Ok (own w) n t)(hz:es.size=n)(hi:i<=n)
 (h:Q (((wR w a ep es)[i]?).map λe=>(e.2,ia w t (i+1))) s):wpAny (model prog w) A (setNext a (ia w t i) i ep) Q E s:=by
 unfold setNext;refine C7 (j0 ho O hz ?_);dsimp only;refine C7 (tD ?_)
 by_cases ht:w.params.followText "set-order"=true
 ·rw[zj ht,qM (by simp)];unfold setWalk;refine C7 (C7 (j0 ho O hz ?_));dsimp only;refine C7 (tD ?_);rw[zj ht];refine C7 (wK (pO (pO ?_)));simp only[wR,ia,ht,En] at h |-;exact h
 ·rw[qM ht]
  have hd:(!t.plain&&decide (es.size>1))=false:=by rw[O.plain];rfl
  show wpAny _ _ (if(!t.plain&&decide (es.size>1))=true then _ else _) _ _ _;rw[hd,qM (by decide)]
  have WW:t.led=true:=by rw[O.led];simp[own,ht]
  refine C7 ?_;show wpAny _ _ (if(!t.led&&!es.isEmpty)=true then _ else _) _ _ _;rw[WW,qM (by simp)];refine pO ?_
  have eb:SetTable.below t.place (ia w t i)=i:=by
   unfold ia;rw[qM ht]
   by_cases h0:i=0
   ·rw[zj h0,h0];exact acX O.up
   ·rw[qM h0,adJ O.up (by rw[O.size];omega)];omega
  refine pO ?_;rw[eb]
  have eo:wR w a ep es=es:=by unfold wR;rw[qM ht]
  rw[eo] at h
  rcases yt i n with g|g
  ·have e1:es[i]?=some (es[i]'(by omega)):=by simp[show i<es.size from by omega]
   have e2:t.place[i]?=some (t.place.getD i 0):=sk (by rw[O.size];exact g);rw[e1] at h;rw[e1,e2]
   have e3:ia w t (i+1)=t.place.getD i 0+1:=by unfold ia;rw[qM ht,qM (by omega)];rfl
   rw[e3] at h;exact h
  ·have e1:es[i]?=none:=wL (by omega);rw[e1] at h |-;exact h
theorem afl {t:T}{x:Ent}{Q:Option Value->Shared->Prop}(ho:s.heap.get? a=some (jK es ep t))(hI:s.heap.get? I=some (wU w t a n ep i))(O:Ok (own w) n t)(hz:es.size=n)
 (hi:i<n)(hx:(wR w a ep es)[i]?=some x)(hQ:∀h',h'.get? I=some (wU w t a n ep (i+1))->Heap.SameBut I s.heap h'->Q (some x.2) {s with heap:=h'}):
 wpAny (model prog w) A (pyNext (.ref I)) Q E s:=by
 have tI:s.TypeIs (.ref I) "set_iterator":=⟨_,hI,rfl⟩;unfold pyNext;refine C7 (rP (iW (name:=Str.ofString "__next__") tI gU (xH gU tI ud ?_ (uy _))));unfold Builtin.«set_iterator.__next__»;refine C7 (m:=slotArgs "__next__" 0 _) (pO ?_);refine C7 (Bc hI rfl ?_);dsimp only[rawInt];refine C7 (BC ho rfl (by rw[hz];exact O.fits) ?_);rw[qM (by rw[hz];simp)];simp only[F5];refine C7 (u3 ho O hz (xa hi) ?_);rw[hx];dsimp only[Option.map];refine C7 (se hI (by simp) λh1 o1 b1=>?_);refine C7 (se (s:={s with heap:=h1}) o1 (by simp) λh2 o2 b2=>?_);refine pO ⟨_,rfl,pO (hQ h2 ?_ (b1.trans b2))⟩;rw[o2];rfl
theorem aiG {t:T}{Q:Option Value->Shared->Prop}(hh:A.handled=none)(ho:s.heap.get? a=some (jK es ep t))(hI:s.heap.get? I=some (wU w t a n ep n))(O:Ok (own w) n t)(hz:es.size=n)
 (hQ:∀h',Heap.ExtBut I s.heap h'->Q none {s with heap:=h'}):wpAny (model prog w) A (pyNext (.ref I)) Q E s:=by
 have tI:s.TypeIs (.ref I) "set_iterator":=⟨_,hI,rfl⟩;have hx:(wR w a ep es)[n]?=none:=wL (by rw[<-Bz,(lV w a ep es).length_eq,Bz,hz];exact zC _);unfold pyNext;refine C7 (rP (iW (name:=Str.ofString "__next__") tI gU (xH gU tI ud ?_ (uy _))));unfold Builtin.«set_iterator.__next__»;refine C7 (m:=slotArgs "__next__" 0 _) (pO ?_);refine C7 (Bc hI rfl ?_);dsimp only[rawInt];refine C7 (BC ho rfl (by rw[hz];exact O.fits) ?_);rw[qM (by rw[hz];simp)];simp only[F5];refine C7 (u3 ho O hz (zC _) ?_);rw[hx];dsimp only[Option.map];refine C7 (mq hI rfl (by simp) ?_);refine C7 (m:=newExc (.type "StopIteration") []) ?_;unfold newExc newTuple;refine C7 (Dr ?_ (by size_fits));refine C7 (m:=firstArgMember _ _) (xc (a:=Value.none) rfl ?_);refine Dr ?_ (by size_fits);unfold raiseNew;refine C7 (Dk ?_);rw[show A.in1.handled=none from hh];refine C7 (pO (wpAny_throw ?_));refine C7 (yB (b:=true) (T:="StopIteration") ⟨_,Hr _ rfl,rfl⟩ AW ?_);refine pO (hQ _ ?_);exact((GO ..).extBut.push _).push _
theorem BS {es:Array Ent}{ep:Nat}{t:T}(hh:A.handled=none)(Kj:a≠I)(O:Ok (own w) n t)(hz:es.size=n):
 WalksS prog w A I [I,a] [I] GE n (λi v=>((wR w a ep es)[i]?).map Prod.snd=some v) (λi s=>s.heap.get? a=some (jK es ep t)/\s.heap.get? I=some (wU w t a n ep i)) where
 sub:=λb hb=>by simp at hb;simp[hb]
 grefl:=λ_=>rfl
 gtrans:=λ_ _ _ h1 h2=>h2.trans h1
 frame:=λi s h' tk g _ k=>⟨k a (by simp) _ g.1,k I (by simp) _ g.2⟩
 item:=λi s Q E hi g hQ=>by
  have hl:i<(wR w a ep es).size:=by rw[<-Bz,(lV w a ep es).length_eq,Bz,hz];exact hi
  have hx:(wR w a ep es)[i]?=some ((wR w a ep es)[i]):=by simp[hl]
  refine afl g.1 g.2 O hz hi hx λh' o b=>hQ _ _ (by rw[hx];rfl) ⟨b.extBut a _ Kj g.1,o⟩ ⟨λc o hc e=>b.extBut c o (λh=>hc (by simp[h])) e,rfl,rfl,rfl,zC _⟩
 done:=λs Q E g hQ=>aiG hh g.1 g.2 O hz λh' k=>hQ _ ⟨λc o hc e=>k c o (λh=>hc (by simp[h])) e,rfl,rfl,rfl,zC _⟩
 self:=λi s Q E g hQ=>by
  have tI:s.TypeIs (.ref I) "set_iterator":=⟨_,g.2,rfl⟩;refine yf tI uo (xH uo tI afi ?_ (afj _));exact pO ⟨_,rfl,"set_iterator",_,tI,gU.lookup,hQ⟩
theorem ahl {t:T}{Q:Bf}(ho:s.heap.get? a=some (jK es ep t))(O:Ok (own w) n t)(hz:es.size=n)
 (h:Q (.ref s.heap.objs.size) {s with heap:=s.heap.push (wU w t a n ep 0)}):wpAny (model prog w) A (pyIter (.ref a)) Q E s:=by
 have ta:s.TypeIs (.ref a) "set":=⟨_,ho,rfl⟩
 have hf:t.fits es.size=true:=by rw[hz];exact O.fits
 refine yf ta F.slot_set_iter (xH F.slot_set_iter ta afk ?_ (F.args_set_iter_1 _));unfold Builtin.«frozenset.__iter__» Builtin.Frozenset.slot0;refine C7 (m:=slotArgs "__iter__" 0 _>>=_) (C7 (pO (pO ?_)));unfold Builtin.Frozenset.sizeOf;refine C7 (C7 (BC ho rfl hf (pO ?_)))
 have es0:ia w t 0=0:=by unfold ia;split <;> rfl
 unfold setDrawn;refine C7 (C7 (j0 ho O hz ?_));dsimp only;refine C7 (tD (pO ?_))
 have hd:(!w.params.followText "set-order"&&(!t.plain&&decide (es.size>1)))=false:=by rw[O.plain];simp
 refine(show wpAny _ _ (if(!w.params.followText "set-order"&&(!t.plain&&decide (es.size>1)))=true then _ else _) _ _ _ from ?_);rw[hd,qM (by decide)];refine C7 (pO (C7 (wpAny_setEpoch_of ho rfl hf ?_)));refine C7 (Dr (pO ⟨_,rfl,"set_iterator",_,⟨_,Hr _ rfl,rfl⟩,gU.lookup,?_⟩));rw[hz];unfold wU at h;rw[es0] at h;exact h
end
abbrev iX (xs:EV)(c:Nat):Obj:={cls:=.type "list",dict:=none,data:=.seq xs c,slots:=#[]}
section
variable {prog:Iy}{w:World}{A:Around}{E:Bf}{s:AL}
theorem ahZ:typeLookup (.type "set") "__len__"=pure (some (.builtin "set.__len__")):=F.slot_set_len.lookup
theorem qY {α:Type}{c:Bool}{x y:Sem α}{Q:α->Shared->Prop}(h:c=true)(g:wpAny (model prog w) A x Q E s):wpAny (model prog w) A (if c=true then x else y) Q E s:=by
 rw[zj h];exact g
theorem ah0 {Q:Bool->Shared->Prop}(ta:s.TypeIs (.ref a) "set")(h:Q false s):wpAny (model prog w) A (Builtin.List.listLengthHint (.ref a)) Q E s:=by
 unfold Builtin.List.listLengthHint;refine C7 (wpAny_specialOf ta ahZ ?_);dsimp only;rw[show splitId "set.__len__"=some ("set","__len__") from by decide +kernel];dsimp only;refine C7 (yB ta sub_set_self ?_);rw[qM (by decide)];exact qY (by decide +kernel) (C7 (Gd ta (pO h)))
theorem aiL {P:Array Ent}(c:lC es ns)(p:P.toList.Perm es.toList){acc:EV}(hz:es.size=n)(h:ItemsOf (λi v=>(P[i]?).map Prod.snd=some v) acc n):
 ∃ms,IntsAre acc.toList ms/\ms.Perm ns:=by
 have hP:P.toList.length=n:=by rw[p.length_eq,Bz,hz]
 have e:acc.toList=P.toList.map Prod.snd:=by
  refine List.ext_getElem? λi=>?_;rw[wN,yN,yN]
  rcases yt i n with g|g
  ·have ha:acc[i]?=some (acc[i]'(by rw[h.1];exact g)):=by simp[h.1,g]
   rw[ha,h.2 i _ ha]
  ·rw[wL (by rw[h.1];exact g),wL (by rw[<-Bz,hP];exact g)];rfl
 have c':lC P ns:=c.ajw p;refine⟨_,qp (vs:=acc.toList) λv hv=>?_,?_⟩
 ·rw[e] at hv;obtain⟨x,hx,rfl⟩:=Hy.mp hv;obtain⟨k,t,rfl⟩:=c'.p7 x hx;exact⟨k,t,rfl⟩
 ·rw[e,Eg];exact c'.perm
set_option maxHeartbeats 3000000 in
theorem ajV {Q:List Value->Shared->Prop}(hh:A.handled=none)(S:jM (own w) s.heap a ns)(hn:ns.length<4000)
 (hQ:∀(h':Heap)(tk:Nat)(vs:yX)(ms:List Int),IntsAre vs ms->ms.Perm ns->(∀b o,s.heap.get? b=some o->h'.get? b=some o)->s.toks<=tk->Q vs {s with heap:=h',toks:=tk}):
 wpAny (model prog w) A (collect (.ref a)) Q E s:=by
 obtain⟨es,ep,t,ho,c,hz,O⟩:=S;have JB:a<s.heap.objs.size:=Ec ho;unfold collect;refine C7 (wpAny_runValue (wx PySem.F.entry_proto_collect ?_));rw[sN PySem.F.plain_proto_collect _];refine C7 (m:=newList []) (Dr ?_);refine pO ⟨Ef PySem.F.plain_list_iadd _,wx PySem.F.entry_list_iadd ?_⟩;rw[sN PySem.F.plain_list_iadd _];refine(show wpAny _ A.in1 (Builtin.List.listExtendWith (.ref s.heap.objs.size) (.ref a) (.ref s.heap.objs.size)) _ _ _ from ?_);unfold Builtin.List.listExtendWith;have Oo:(s.heap.push (iX #[] 0)).get? a=some (jK es ep t):=wa _ ho;refine C7 (Gd (T:="set") ⟨_,Oo,rfl⟩ ?_)
 rw[qM (by
  have:Builtin.List.listSameRef (.ref s.heap.objs.size) (.ref a)=false:=by
   simp only[Builtin.List.listSameRef,Hw];exact BL JB
  rw[this];decide)]
 refine C7 (ahl (s:={s with heap:=s.heap.push (iX #[] 0)}) Oo O hz ?_);have Lo:((s.heap.push (iX #[] 0)).push (wU w t a ns.length ep 0)).get? a=some (jK es ep t):=wa _ Oo;refine C7 (tj (ah0 ⟨_,Lo,rfl⟩ ?_));have hI0:((s.heap.push (iX #[] 0)).push (wU w t a ns.length ep 0)).get? (s.heap.push (iX #[] 0)).objs.size=some (wU w t a ns.length ep 0):=Hr _ rfl;have hL0:((s.heap.push (iX #[] 0)).push (wU w t a ns.length ep 0)).get? s.heap.objs.size=some (iX #[] 0):=wa _ (Hr _ rfl);have wV:(s.heap.push (iX #[] 0)).objs.size=s.heap.objs.size+1:=DG _ _;refine qY (by decide +kernel) (C7 (wD (C7 ?_)));refine(show wpAny _ A.in1 (updateSeq s.heap.objs.size (·.push .none)>>=λ_=>updateSeq s.heap.objs.size (·.pop)) _ _ _ from C7 (Gg hL0 rfl ?_));have Vt:=mD (Obj.mapSeq (·.push Value.none)) hL0 rfl;refine Gg Vt rfl ?_;have Ws:=mD (Obj.mapSeq (·.pop)) Vt rfl
 have up:∀b o,b≠s.heap.objs.size->((s.heap.push (iX #[] 0)).push (wU w t a ns.length ep 0)).get? b=some o →
  ((((s.heap.push (iX #[] 0)).push (wU w t a ns.length ep 0)).update s.heap.objs.size (Obj.mapSeq (·.push Value.none))).update s.heap.objs.size (Obj.mapSeq (·.pop))).get? b=some o :=
  λb o hb e=>(mE _ _ (Jm hb)).trans ((mE _ _ (Jm hb)).trans e)
 have nI:a≠(s.heap.push (iX #[] 0)).objs.size:=by rw[wV];exact Ie (rG JB)
 have nL:(s.heap.push (iX #[] 0)).objs.size≠s.heap.objs.size:=by rw[wV];exact vP _
 have W:=BS (prog:=prog) (A:=A.in1) (ep:=ep) (es:=es) (by simp[hh]) nI O hz
 refine pO ⟨Ef PySem.F.plain_extend_loop _,codeAny_extend_loopS W (by rw[AI];omega) s.heap.objs.size (by
  simp only[BN,xM,EO,ze];exact⟨nL.symm,BL JB⟩) _ ns.length 0 _ _ _ rfl (Ag _) ⟨up _ _ (Ie JB) Lo,up _ _ nL hI0⟩ Ws (ItemsOf.nil _) λz acc c' m oz it=>?_⟩
 refine C7 (wpAny_load oz (pO ?_));obtain⟨ms,i1,i2⟩:=aiL c (lV w a ep es) hz it
 have ez:z={s with heap:=z.heap,toks:=z.toks}:=by
  have e1:z.gens=s.gens:=m.gens;have e2:z.drawn=s.drawn:=m.drawn;have e3:z.os=s.os:=m.os
  cases z;cases e1;cases e2;cases e3;rfl
 rw[ez];refine hQ z.heap z.toks acc.toList ms i1 i2 (λb o e=>?_) m.toks;have hb:=Ec e;refine m.heap b o ?_ (up b o (Ie hb) (wa _ (wa _ e)));simp only[BN,xM,EO,ze];refine⟨Ie hb,?_⟩;rw[wV];exact Ie (rG hb)
theorem PrT {D:Addr}{vs:yX}{c:Nat}(out:EV)(e:h.get? D=some (seqObj "list" vs.toArray c)):∃c',(sortedHeap h D vs out).get? D=some (iX out c'):=by
 have hD:=Ec e;have e1:=CH e (λ_=>#[]);unfold sortedHeap;have e2:(((h.update D (Obj.mapSeq λ_=>#[])).push (seqObj "tuple" vs.toArray 0)).push (seqObj "list" #[] 0)).get? D=_:=wa _ (wa _ e1);exact⟨_,CH e2 λ_=>out⟩
theorem adY {D b:Addr}{vs:yX}{out:EV}{o:Obj}(hb:b≠D)(e:h.get? b=some o):(sortedHeap h D vs out).get? b=some o:=by
 unfold sortedHeap;refine(mE _ _ (Jm hb)).trans (wa _ (wa _ ((mE _ _ (Jm hb)).trans e)))
theorem aet {Q:Bf}(hh:A.handled=none)(S:jM (own w) s.heap a ns)(h64:ns.length<64)
 (h:∀(h':Heap)(tk:Nat)(D:Addr)(out:EV)(ms:List Int)(c:Nat),IntsAre out.toList ms->ms.Perm ns->ms.Pairwise (· <= ·)->h'.get? D=some (iX out c)->s.heap.get? D=none →
  (∀b o,s.heap.get? b=some o->h'.get? b=some o)->s.toks<=tk->Q (.ref D) {s with heap:=h',toks:=tk}):wpAny (model prog w) A (call (.builtin "sorted") [.ref a]) Q E s:=by
 refine Calls.call_function_entry kind_sorted plain_sorted entry_sorted (args_sorted1 _) ?_;unfold Builtin.«sorted»;refine C7 (m:=checkCount "sorted" 1 1 _) (pO ?_);refine C7 (ajV (by simpa using hh) S (by omega) λh1 tk vs ms i1 i2 k1 t1=>?_)
 have hv:vs.length<64:=by
  have:=i1.length;rw[this,i2.length_eq];exact h64
 refine C7 (m:=newList vs) (wpAny_newList ?_ (hsz:=by rw[AI];omega));have oD:(h1.push (seqObj "list" vs.toArray 0)).get? h1.objs.size=some (seqObj "list" vs.toArray 0):=Hr _ rfl
 have fr:s.heap.get? h1.objs.size=none:=by
  cases e:s.heap.get? h1.objs.size with
  |none=>rfl
  |some o=>exact absurd (Ec (k1 _ _ e)) (CD _)
 refine C7 (tj (xH slot_list_sort ⟨_,oD,rfl⟩ entry_list_sort (list_sort_tree oD i1 hv λout M7 a1 a2 a3=>⟨_,rfl,?_⟩) (args_list_sort _)));obtain⟨c,oc⟩:=PrT out oD;refine pO ⟨_,rfl,h _ tk _ out M7 c a1 (a2.trans i2) a3 oc fr (λb o e=>?_) t1⟩;exact adY (λq=>by rw[q,fr] at e;cases e) (wa _ (k1 b o e))
end
end St
namespace L2
open PySem PySem.Spec PyProof.Rows PySem.W
def wJ (ns:List Int):List Int:=firstMet (λi=>ns.getD i 0) ns.length
theorem mH (ns:List Int):wJ ns=ns.foldl step_dedup []:=by
 have e:(List.range ns.length).map (λi=>ns.getD i 0)=ns:=by
  apply AN
  ·simp
  ·intro i h1 h2;simp[h2]
 unfold wJ firstMet;rw[e]
theorem hU:∀(ns acc:List Int),acc.Nodup->(ns.foldl step_dedup acc).Nodup/\∀x,x∈ns.foldl step_dedup acc↔x∈acc\/x∈ns
 |[],acc,h=>⟨h,λx=>by simp⟩
 |n::ns,acc,h=>by
  rw[AG]
  by_cases q:n∈acc
  ·rw[St.qC q];obtain⟨a,b⟩:=hU ns acc h;refine⟨a,λx=>(b x).trans ⟨λz=>z.imp id (Er _),λz=>?_⟩⟩
   rcases z with z|z
   ·exact .inl z
   ·rcases BN.mp z with rfl|z
    ·exact .inl q
    ·exact .inr z
  ·rw[St.i8 q]
   have nd:(acc++[n]).Nodup:=by
    refine C8.mpr ⟨h,by simp,λa ha b hb z=>?_⟩;rw[yP] at hb;exact q (hb▸z▸ha)
   obtain⟨a,b⟩:=hU ns (acc++[n]) nd;refine⟨a,λx=>(b x).trans ?_⟩;rw[rQ,yP,BN,or_assoc]
theorem aeu (ns:List Int):(wJ ns).Nodup:=by rw[mH];exact(hU ns [] Ea).1
theorem aez (ns:List Int)(x:Int):x∈wJ ns↔x∈ns:=by
 rw[mH,(hU ns [] Ea).2];simp
theorem uB (ns:List Int):(wJ ns).length<=ns.length:=firstMet_length_le _ _
theorem aeA {ms:List Int}(h:ms.Pairwise (· <= ·))(d:ms.Nodup):ms.Pairwise (· < ·):=
 (List.Pairwise.and h d).imp λ⟨a,b⟩=>Int.lt_iff_le_and_ne.mpr ⟨a,b⟩
theorem oy:∀{xs ys:List Int},xs.Pairwise (· < ·)->ys.Pairwise (· < ·)->(∀x,x∈xs↔x∈ys)->xs=ys
 |[],[],_,_,_=>rfl
 |[],y::ys,_,_,h=>absurd ((h y).mpr Ij) (by simp)
 |x::xs,[],_,_,h=>absurd ((h x).mp Ij) (by simp)
 |x::xs,y::ys,a,b,h=>by
  obtain⟨a1,a2⟩:=Jq.mp a;obtain⟨b1,b2⟩:=Jq.mp b
  have e:x=y:=by
   rcases BN.mp ((h x).mp Ij) with e|e
   ·exact e
   ·rcases BN.mp ((h y).mpr Ij) with e2|e2
    ·exact e2.symm
    ·have:=b1 _ e;have:=a1 _ e2;omega
  subst e;rw[oy a2 b2 λz=>⟨λhz=>?_,λhz=>?_⟩]
  ·rcases BN.mp ((h z).mp (Er _ hz)) with e|e
   ·have:=a1 _ hz;omega
   ·exact e
  ·rcases BN.mp ((h z).mpr (Er _ hz)) with e|e
   ·have:=b1 _ hz;omega
   ·exact e
def aeH (K:Frag)(ta:TE):TE:=λσ H Q=>en ta HS σ H λvs H1=>∃(l:Addr)(ns:List Int),vs=[.ref l]/\(aV K H1 l (ns.map V.int)\/bf K H1 l (ns.map V.int))/\ns.length<64 /\
 ∀(D:Addr)(ms:List Int),H1 D=none->ms.Pairwise (· < ·)->(∀x,x∈ms↔x∈ns)->Q (.ref D) (upd H1 D (.lst (ms.map V.int)))
section
variable {X:Cx}
theorem kx {e:Expr}{ta:TE}{p p2 pos Ot:Pos}{K:Frag}(hK:X.K=K)(ha:PE X e ta)(hc:X.calm=true)(hgl:Gl X "sorted")(hml:X.mg "sorted"=none)(hgs:Gl X "set")(Vu:X.mg "set"=none)(hs:fA e=false:=by rfl):
 PE X (.Call (.Name "sorted" p) [.Call (.Name "set" p2) [e] [] Ot] [] pos) (aeH K ta):=by
 subst hK;intro pins s σ H Q I h;refine vU (dU I hgl hml (by rfl) ?_ (by decide) (by decide));refine callWith_builtin1 ?_ (aU rfl) rfl;rw[aU rfl];show wpAny _ _ (spliced ((false,eval (.Call (.Name "set" p2) [e] [] Ot) X.env):: backTo pos (starEach [] X.env))) _ _ s;refine FN ?_;refine vU (dU I hgs Vu (by rfl) ?_ (by decide) (by decide));refine callWith_type1 (bO (ai ha af hs Ot pins s σ H _ I h) λus s1 z'=>?_) (aU hs) rfl;obtain⟨vs,H1,I1,r1,l,ns,hv,hq,hz,q⟩:=z';subst hv;obtain⟨u,rfl,ru⟩:=gh r1
 cases(show u=Value.ref l from ru)
 have hd:=I.ok.hd hc
 have fin:∀(h':Heap)(tk:Nat),St.jM (St.own X.w) h' s1.heap.objs.size (wJ ns)->(∀b o,b<s1.heap.objs.size->s1.heap.get? b=some o->h'.get? b=some o) →
  wpAny (model X.prog X.w) X.A (call (.builtin "sorted") [.ref s1.heap.objs.size]) (EP X pins σ Q) X.xe {s1 with heap:=h',toks:=tk}:=by
  intro h' tk S old;have I2:Inv X pins σ H1 {s1 with heap:=h',toks:=tk}:=I1.kept (t':=tk) λb o e=>old b o (Ec e) e;refine St.aet (s:={s1 with heap:=h',toks:=tk}) hd S (by have:=uB ns;omega) λh2 tk2 D out ms c i1 i2 i3 oD fr k2 _=>?_
  have hlen:(ms.map V.int).length<=sizeLine:=by
   rw[vW,i2.length_eq,AI];have:=uB ns;omega
  exact⟨.ref D,_,I2.newObj (t':=tk2) (o:=.lst (ms.map V.int)) k2 fr ⟨hlen,out.toList,c,zO i1,by simpa using oD⟩,rfl,
   q D ms (I2.ajv fr) (aeA i3 (i2.symm.nodup (aeu ns))) λx=>(i2.mem_iff).trans (aez ns x)⟩
 rcases hq with hq|hq
 ·obtain⟨its,rv,pl,hz2⟩:=I1.list hq;have e1:=rv.length;rw[vW] at e1;refine St.qc (St.ae8 X.prog X.w its.toArray) hd pl.isList (by simpa using gC rv) (by rw[D4];omega) λh' tk S old _=>?_
  have es:its.toArray.size=ns.length:=by rw[D4];exact e1.symm
  rw[es] at S;exact Aq (fin h' tk S old)
 ·obtain⟨its,rv,pl,hz2⟩:=I1.tuple hq;have e1:=rv.length;rw[vW] at e1;refine St.qc (St.ae9 X.prog X.w its.toArray) hd pl (by simpa using gC rv) (by rw[D4];omega) λh' tk S old _=>?_
  have es:its.toArray.size=ns.length:=by rw[D4];exact e1.symm
  rw[es] at S;exact Aq (fin h' tk S old)
end
end L2
namespace K74
open PySem L2 PySem.W Nm Srt
def pM (x:Int):List Int->List Int
 |[]=>[x]
 |y::l=>if x<y then x::y::l else if x=y then y::l else y::pM x l
def cX:List Int->List Int
 |[]=>[]
 |x::l=>pM x (cX l)
theorem kg {x z:Int}:∀{l:List Int},z∈pM x l↔z=x\/z∈l
 |[]=>by simp[pM]
 |y::l=>by
  unfold pM
  by_cases h:x<y
  ·rw[zj h];simp
  ·rw[qM h]
   by_cases g:x=y
   ·rw[zj g,g];simp
   ·rw[qM g,BN,kg (l:=l),BN];constructor
    ·rintro(h|h|h)
     ·exact .inr (.inl h)
     ·exact .inl h
     ·exact .inr (.inr h)
    ·rintro(h|h|h)
     ·exact .inr (.inl h)
     ·exact .inl h
     ·exact .inr (.inr h)
theorem u6 {x:Int}:∀{l:List Int},l.Pairwise (· < ·)->(pM x l).Pairwise (· < ·)
 |[],_=>by simp[pM]
 |y::l,h=>by
  obtain⟨h1,h2⟩:=Jq.mp h;unfold pM
  by_cases g:x<y
  ·rw[zj g];refine Jq.mpr ⟨λz hz=>?_,h⟩
   rcases BN.mp hz with rfl|hz
   ·exact g
   ·have:=h1 z hz;omega
  ·rw[qM g]
   by_cases e:x=y
   ·rw[zj e];exact h
   ·rw[qM e];refine Jq.mpr ⟨λz hz=>?_,u6 h2⟩
    rcases kg.mp hz with rfl|hz
    ·omega
    ·exact h1 z hz
theorem me:∀l:List Int,(cX l).Pairwise (· < ·)
 |[]=>List.Pairwise.nil
 |x::l=>u6 (me l)
theorem dj {z:Int}:∀{l:List Int},z∈cX l↔z∈l
 |[]=>Iff.rfl
 |x::l=>by
  show z∈pM x (cX l)↔_;rw[kg,dj,BN]
theorem tR {l m:List Int}(h:∀z,z∈l↔z∈m):cX l=cX m:=oy (me l) (me m) λz=>by rw[dj,dj,h]
theorem oF {l m:List Int}(h:m.Pairwise (· < ·))(e:∀z,z∈m↔z∈l):m=cX l:=oy h (me l) λz=>by rw[dj,e]
def cz (p:Int)(a b:Int×Int):Int×Int:=(c8 p (fU a.1 a.2 b.1 b.2) (a.2*b.2),dA p (fU a.1 a.2 b.1 b.2) (a.2*b.2))
def dF (p:Int)(a b:List Tm):List Tm:=a.flatMap λx=>b.map λy=>(cX (x.1++y.1),cz p x.2 y.2)
def l8 (p:Int)(c:Int×Int)(a:List Tm):List Tm:=a.map λx=>(x.1,cz p x.2 c)
abbrev tg (p:Int)(ts:List Tm):List Tm:=gy (aX p ts)
variable {a b:Int×Int}
section
variable {p:Int}{R:Type} [Lean.Grind.CommRing R]{v:Int×Int->R}
theorem lz (hp:0<=p)(ha:Num p a.1 a.2)(hb:Num p b.1 b.2):Num p (cz p a b).1 (cz p a b).2 :=
 Num.set hp (AS (by have:=ha.pos;omega) (by have:=hb.pos;omega))
theorem iK (V:Val p R v)(ha:Num p a.1 a.2)(hb:Num p b.1 b.2):v (cz p a b)=v a*v b:=(V.set ha hb).2 rfl rfl
theorem iG (hp:0<=p){a b:List Tm}(ha:bY p a)(hb:bY p b):bY p (dF p a b):=λe he=>by
 obtain⟨x,hx,he⟩:=rZ.mp he;obtain⟨y,hy,rfl⟩:=Hy.mp he;exact lz hp (ha x hx) (hb y hy)
theorem qJ (hp:0<=p){a:List Tm}{c:Int×Int}(ha:bY p a)(hc:Num p c.1 c.2):bY p (l8 p c a):=λe he=>by
 obtain⟨x,hx,rfl⟩:=Hy.mp he;exact lz hp (ha x hx) hc
theorem BQ (V:Val p R v){x:Tm}(hx:Num p x.2.1 x.2.2)(F:List Int->R):∀{b:List Tm},bY p b->S v (b.map λy=>(cX (x.1++y.1),cz p x.2 y.2)) F=v x.2*S v b (λj=>F (cX (x.1++j)))
 |[],_=>by show(0:R)=v x.2*0;grind
 |y::b,h=>by
  have ih:=BQ V hx F (b:=b) λe he=>h e (Er _ he);show v (cz p x.2 y.2)*F (cX (x.1++y.1))+S v (b.map _) F=v x.2*(v y.2*F (cX (x.1++y.1))+S v b (λj=>F (cX (x.1++j))));rw[ih,iK V hx (h y Ij)];grind
theorem yE (V:Val p R v){a b:List Tm}(ha:bY p a)(hb:bY p b)(F:List Int->R):S v (dF p a b) F=S v a (λi=>S v b (λj=>F (cX (i++j)))):=by
 induction a with
 |nil=>rfl
 |cons x a ih =>
  have ih:=ih λe he=>ha e (Er _ he)
  have e:dF p (x::a) b=(b.map λy=>(cX (x.1++y.1),cz p x.2 y.2))++dF p a b:=by simp[dF]
  rw[e,iO,BQ V (ha x Ij) F hb,ih];rfl
theorem aeI (V:Val p R v){a:List Tm}{c:Int×Int}(ha:bY p a)(hc:Num p c.1 c.2)(F:List Int->R):S v (l8 p c a) F=v c*S v a F:=by
 induction a with
 |nil=>show(0:R)=v c*0;grind
 |cons x a ih =>
  have ih:=ih λe he=>ha e (Er _ he);show v (cz p x.2 c)*F x.1+S v (l8 p c a) F=v c*(v x.2*F x.1+S v a F);rw[ih,iK V (ha x Ij) hc];grind
end
section
variable {p:Int}{a b c:List Tm}
theorem FP.v {p:Int}(hp:FP p):∃(R:Type)(i:Lean.Grind.CommRing R)(v:Int×Int->R),@Val p R i v:=aeR (by
 rcases hp with h|h
 ·exact .inl h
 ·exact .inr (fP h).1)
theorem FP.tn {p:Int}(hp:FP p){a:List Tm}(ha:bY p a):bY p (tg p a):=by
 obtain⟨R,i,v,V⟩:=hp.v;exact ah9 V hp.nn ha
end
structure Cd (p D M:Int)(a:Int×Int):Prop where
 num:Num p a.1 a.2
 d:p=0->∃k:Int,a.2*k=D/\((a.1*k).natAbs:Int)<=M
variable {p M:Int}
theorem Cd.mono {D M':Int}(h:Cd p D M a)(m:M<=M'):Cd p D M' a:=⟨h.num,λz=>by
 obtain⟨k,e,l⟩:=h.d z
 exact⟨k,e,Int.le_trans l m⟩⟩
variable {N:Int}
theorem Cd.add {D:Int}(hp:FP p)(ha:Cd p D M a)(hb:Cd p D N b):Cd p D (M+N) (da p a b):=by
 have na:=ha.num.pos;have nb:=hb.num.pos;have nz:a.2*b.2≠0:=AS (by omega) (by omega);refine⟨Num.set hp.nn nz,λz=>?_⟩;subst z;obtain⟨x,ex,lx⟩:=ha.d rfl;obtain⟨y,ey,ly⟩:=hb.d rfl;have cr:=iZ (t:=a.1*b.2+b.1*a.2) nz;have nm:Num 0 (c8 0 (a.1*b.2+b.1*a.2) (a.2*b.2)) (dA 0 (a.1*b.2+b.1*a.2) (a.2*b.2)):=Num.set (oU 0) nz;show ∃k,dA 0 (a.1*b.2+b.1*a.2) (a.2*b.2)*k=D/\(((c8 0 (a.1*b.2+b.1*a.2) (a.2*b.2))*k).natAbs:Int)<=M+N;generalize c8 0 (a.1*b.2+b.1*a.2) (a.2*b.2)=t at cr nm |-;generalize dA 0 (a.1*b.2+b.1*a.2) (a.2*b.2)=u at cr nm |-;obtain⟨a1,a2⟩:=a;obtain⟨b1,b2⟩:=b;dsimp only at *
 have e1:t*D=(a1*x+b1*y)*u:=by
  refine vk nz ?_
  have h1:(a1*b2+b1*a2)*D=(a1*x+b1*y)*(a2*b2):=by
   have:(a1*b2+b1*a2)*D=a1*b2*D+b1*a2*D:=by grind
   rw[this]
   have p1:a1*b2*D=a1*x*(a2*b2):=by rw[<-ex];grind
   have p2:b1*a2*D=b1*y*(a2*b2):=by rw[<-ey];grind
   rw[p1,p2];grind
  have:t*D*(a2*b2)=t*(a2*b2)*D:=by grind
  rw[this,cr]
  have:(a1*b2+b1*a2)*u*D=(a1*b2+b1*a2)*D*u:=by grind
  rw[this,h1];grind
 have dv:u ∣ D:=by
  have g:Int.gcd u t=1:=by rw[Int.gcd_comm];exact nm.red
  have h1:u ∣ t*D:=⟨a1*x+b1*y,by rw[e1];grind⟩;have h2:=Int.natAbs_dvd_natAbs.mpr h1;rw[C4] at h2;exact Int.natAbs_dvd_natAbs.mp (Nat.Coprime.dvd_of_dvd_mul_left (show Nat.Coprime u.natAbs t.natAbs from g) h2)
 obtain⟨k,ek⟩:=dv;refine⟨k,ek.symm,?_⟩;have up:=nm.pos
 have e2:t*k=a1*x+b1*y:=by
  refine vk (show u≠0 by omega) ?_;rw[<-e1,ek];grind
 rw[e2];have:=Int.natAbs_add_le (a1*x) (b1*y);omega
theorem Cd.mul {D D':Int}(hp:FP p)(ha:Cd p D M a)(hb:Cd p D' N b):Cd p (D*D') (M*N) (cz p a b):=by
 have na:=ha.num.pos;have nb:=hb.num.pos;have nz:a.2*b.2≠0:=AS (by omega) (by omega);refine⟨Num.set hp.nn nz,λz=>?_⟩;subst z;obtain⟨x,ex,lx⟩:=ha.d rfl;obtain⟨y,ey,ly⟩:=hb.d rfl;have e1:=pS (t:=a.1*b.1) nz;have e2:=kZ (t:=a.1*b.1) nz;refine⟨Nm.dv (a.1*b.1) (a.2*b.2)*(x*y),?_,?_⟩
 ·show cI (a.1*b.1) (a.2*b.2)*(Nm.dv (a.1*b.1) (a.2*b.2)*(x*y))=D*D';rw[<-xx,e2,<-ex,<-ey];grind
 ·show((dS (a.1*b.1) (a.2*b.2)*(Nm.dv (a.1*b.1) (a.2*b.2)*(x*y))).natAbs:Int)<=M*N;rw[<-xx,e1,show a.1*b.1*(x*y)=(a.1*x)*(b.1*y) by grind,C4];push_cast;exact Int.mul_le_mul lx ly (by omega) (by omega)
theorem FP.bits (hp:FP p)(z:p≠0){t b:Int}(h:Num p t b):B 7 t/\B 7 b:=by
 obtain⟨_,_,Vo⟩:=hp.two z;obtain⟨h1,h2,h3⟩:=h.pr z;constructor
 ·show t.natAbs<2^7;omega
 ·show b.natAbs<2^7;omega
theorem Cd.gn {D:Int}{n:Nat}(hp:FP p)(h:Cd p D M a)(h7:7<=n)(QP:D≠0)(hD:B n D)(hM:B n M):Gn p n a:=by
 by_cases z:p=0
 ·obtain⟨k,e,l⟩:=h.d z;have kz:k≠0:=λw=>QP (by rw[<-e,w,Int.mul_zero])
  have k1:1<=k.natAbs:=by omega
  refine⟨h.num,?_,?_⟩
  ·have:(a.1*k).natAbs<=M.natAbs:=by omega
   rw[C4] at this;exact hM.le (EW (Nat.le_mul_of_pos_right _ k1) this)
  ·rw[<-e] at hD;refine hD.le ?_;rw[C4];exact Nat.le_mul_of_pos_right _ k1
 ·obtain⟨h1,h2⟩:=hp.bits z h.num;exact⟨h.num,h1.mono h7,h2.mono h7⟩
theorem aeJ {D:Int}{d:List Tm}{t:Tm}(hp:FP p)(hN:0<=N)(hM:0<=M)(hd:∀e∈d,Cd p D M e.2)(ht:Cd p D N t.2):∀e∈c5 p d t,Cd p D (M+N) e.2:=by
 intro e he;unfold c5 at he
 split at he
 ·obtain⟨e0,h0,rfl⟩:=Hy.mp he
  by_cases q:e0.1=t.1
  ·rw[zj q];exact(hd e0 h0).add hp ht
  ·rw[qM q];exact(hd e0 h0).mono (by omega)
 ·rcases rQ.mp he with he|he
  ·exact(hd e he).mono (by omega)
  ·have:e=t:=by simpa using he
   rw[this];exact ht.mono (by omega)
theorem ue {D:Int}(hp:FP p)(hN:0<=N):∀(ts d:List Tm)(M:Int),0<=M->(∀e∈d,Cd p D M e.2)->(∀t∈ts,Cd p D N t.2)->∀e∈ts.foldl (c5 p) d,Cd p D (M+N*ts.length) e.2
 |[],d,M,hM,hd,_,e,he=>(hd e he).mono (by simp)
 |t::ts,d,M,hM,hd,ht,e,he=>by
  have:=ue hp hN ts (c5 p d t) (M+N) (by omega) (aeJ hp hN hM hd (ht t Ij)) (λt h=>ht t (Er _ h)) e he;refine this.mono ?_;rw[wF];push_cast;rw[Int.mul_add];omega
theorem va {D:Int}{ts:List Tm}(hp:FP p)(hN:0<=N)(h:∀t∈ts,Cd p D N t.2):∀e∈aX p ts,Cd p D (N*ts.length) e.2:=λe he=>by
 have:=ue hp hN ts [] 0 (oU 0) (λe h=>nomatch h) h e he;rwa[Int.zero_add] at this
variable {ts:List Tm}
theorem aeN {D:Int}(hp:FP p)(hN:0<=N)(h:∀t∈ts,Cd p D N t.2):∀e∈tg p ts,Cd p D (N*ts.length) e.2:=λe he=>va hp hN h e (Jn.mp ((cV _).mem_iff.mp he)).1
theorem Bd.cd {D:Int}(hp:FP p)(hN:0<=N)(h:∀t∈ts,Cd p D N t.2)(QP:D≠0)(hD:B 4000 D)(hM:B 4000 (N*ts.length))(len:ts.length<4000)(few:((aX p ts).filter λe=>e.2.1 != 0).length<64):Bd p ts:=by
 have up:∀i:Nat,i<=ts.length->B 4000 (N*(i:Int)):=λi hi=>hM.le (by
  rw[C4,C4]
  exact C6 _ (by omega))
 refine⟨len,λt ht=>?_,λi hi e he=>?_,few⟩
 ·by_cases z:ts.length=0
  ·rw[mn.mp z] at ht
   exact nomatch ht
  ·refine(h t ht).gn hp (by decide) QP hD ?_;have:=up 1 (by omega);simpa using this
 ·have g:=va (ts:=ts.take i) hp hN (λt ht=>h t (vZ ht)) e he;rw[rh,Nat.min_eq_left hi] at g;exact g.gn hp (by decide) QP hD (up i hi)
def ba (p k:Int):Int×Int:=(c8 p k 1,dA p k 1)
theorem dE (hp:FP p)(k:Int):Num p (ba p k).1 (ba p k).2:=Num.set hp.nn (by decide)
theorem cT (k:Int):ba 0 k=(k,1):=by
 have z:=kK (t:=k) (b:=1) (by decide) (by simp);show(dS k 1,cI k 1)=_;rw[z.1,z.2]
theorem cp (h:p≠0)(k:Int):ba p k=(k%p,1):=by
 unfold ba c8 dA;rw[qM h,qM h]
theorem aeP (a b:Int):da p (ba p a) (ba p b)=ba p (a+b):=by
 by_cases h:p=0
 ·subst h;rw[cT,cT];show(c8 0 (a*1+b*1) (1*1),dA 0 (a*1+b*1) (1*1))=ba 0 (a+b);rw[D1,D1];rfl
 ·rw[cp h,cp h,cp h];unfold da iH c8 dA;rw[qM h,qM h,D1,D1,<-Int.add_emod]
theorem xq (p:Int):ba p 0=(0,1):=by
 by_cases h:p=0
 ·subst h;exact cT 0
 ·rw[cp h,Int.zero_emod]
theorem gE (hp:FP p):ba p 1=(1,1):=by
 by_cases h:p=0
 ·subst h;exact cT 1
 ·rw[cp h,Il (by decide) (by have:=(hp.two h).2.1;omega)]
section
variable {p:Int}{R:Type} [Lean.Grind.CommRing R]{v:Int×Int->R}
theorem rB (V:Val p R v)(hp:FP p)(a b:Int):v (ba p (a+b))=v (ba p a)+v (ba p b):=by
 rw[<-aeP];exact(V.set (dE hp a) (dE hp b)).1 rfl rfl
theorem lR (V:Val p R v)(hp:FP p):v (ba p (-1)) = -1:=by
 have h:=rB V hp (-1) 1;rw[show(-1:Int)+1=0 from rfl,xq,gE hp,V.zero,V.one] at h;grind
def AR:Nat->(Nat->R)->R
 |0,_=>0
 |n+1,f=>AR n f+f n
theorem aeQ {n:Nat}{f g:Nat->R}(h:∀i,i<n->f i=g i):AR n f=AR n g:=by
 induction n with
 |zero=>rfl
 |succ n ih=>show AR n f+f n=AR n g+g n;rw[ih λi hi=>h i (by omega),h n (by omega)]
theorem t9 {α:Type}(f:Nat->α)(h:α->List Tm)(F:List Int->R):∀n:Nat,S v (((List.range n).map f).flatMap h) F=AR n (λi=>S v (h (f i)) F)
 |0=>rfl
 |n+1=>by
  rw[wY,Hs,List.flatMap_append,iO,t9 f h F n];show AR n _+S v (h (f n)++[]) F=_;rw[xY];rfl
end
theorem pf (hp:FP p):Num p 1 1:=⟨by decide,by decide,λz=>⟨rfl,by decide,by have:=(hp.two z).2.1;omega⟩⟩
abbrev yH:Stmt:=(aQ 38)
theorem aju (p:Int):Bd p []:=⟨by decide,λt h=>(nomatch h),λi hi e he=>by
 have:aX p (([]:List Tm).take i)=[]:=by simp[aX]
 rw[this] at he
 exact(nomatch he),Nat.zero_lt_succ 63⟩
def jZ (C CF:Addr)(H0 H:Hp)(s:Addr)(p:Int)(ts:List Tm):Prop:=∃dx fl Ju D zs,H s=some (.ins C dx (ow fl D))/\H fl=some (.ins CF Ju (cL p))/\H D=some (.lst zs)/\aS H zs ts/\H0 D=none
variable {C CF s:Addr}{H:Hp}
theorem jZ.r {H0:Hp}(h:jZ C CF H0 H s p ts):DO C CF H s p ts:=let⟨dx,fl,Ju,D,zs,h1,h2,h3,h4,_⟩:=h;⟨dx,fl,Ju,D,zs,h1,h2,h3,h4⟩
variable {H':Hp}
theorem Cu {a:Addr}(s:aA H H')(h:H' a=none):H a=none:=by
 cases z:H a with
 |none=>rfl
 |some o=>rw[s _ _ z] at h;cases h
theorem jZ.of {H0 H1:Hp}(h:jZ C CF H1 H s p ts)(k:aA H0 H1):jZ C CF H0 H s p ts:=let⟨dx,fl,Ju,D,zs,h1,h2,h3,h4,h5⟩:=h;⟨dx,fl,Ju,D,zs,h1,h2,h3,h4,Cu k h5⟩
def jT (C CF:Addr):Sp:=λvs H Q _=>∃(fl Ju l:Addr)(p:Int)(ys:List V)(ts:List Tm),vs=[.ref fl,.ref l]/\H fl=some (.ins CF Ju (cL p))/\FP p/\H l=some (.lst ys)/\aS H ys ts/\Bd p ts/\∀H' s,aA H H'->jZ C CF H H' s p (tg p ts)->Q (.ref s) H'
theorem uV:DK ["field","terms","one"] E2 (aq yH):=c9 (by decide +kernel)
variable {P:Iy}{w:World}{K:PySem.W.Frag}{mg:xk}{base:Heap}
theorem ahC:DK Gw Gw (aq zQ):=c9 (by decide +kernel)
variable {f:Addr}{fd:qo}
theorem aiH {fs:Addr}{Kp:qo}(F:Dp K "times" "Field.times" zQ f fd)(c:CP K mg C)(FS:zG P w K mg base (aO P w) 3 fs Kp vv (jf C))(bS:L2.ax K Kp vv [])(mS:L2.Meth K C "settled" fs):
 zG P w K mg base (aO P w) 4 f fd Gw (lY C fU):=by
 refine F.okN ahC (λvs H Q E h=>?_) (λJw A outer s H vs Q E hr h=>?_)
 ·obtain⟨s,dx,a1,a2,p,t1,b1,t2,b2,rfl,_⟩:=h;rfl
 ·obtain⟨s,dx,x1,x2,p,t1,b1,t2,b2,rfl,hs,hp,h1,h2,B1,B2,B3,B4,n1,n2,q⟩:=h;refine⟨_,ak (az (bH (pv 0) c.cl mS FS hr bS .nil ae (ai (aH cU (a9 br (pv 1) ar (λ_ _=>rfl)) (a9 br (pv 2) ar (λ_ _=>rfl))) (ai (aH cU (a9 br (pv 1) ar (λ_ _=>rfl)) (a9 br (pv 2) ar (λ_ _=>rfl))) af)))),?_⟩;refine⟨_,rfl,s,dx,_,rfl,hs,rfl,?_⟩;refine⟨_,rfl,x1,_,0,_,rfl,rfl,bf.of h1,a0 _ _,_,rfl,x2,_,0,_,rfl,rfl,bf.of h2,a0 _ _,_,_,rfl,rfl,⟨B1.mono (by decide),B3.mono (by decide)⟩,?_⟩;refine⟨_,rfl,x1,_,1,_,rfl,rfl,bf.of h1,a1 _ _,_,rfl,x2,_,1,_,rfl,rfl,bf.of h2,a1 _ _,_,_,rfl,rfl,⟨B2.mono (by decide),B4.mono (by decide)⟩,?_⟩;exact⟨s,dx,p,_,_,rfl,hs,hp,(B2.mul B4).mono (by decide),pN n1 n2,q⟩
theorem aic {fg fI:Addr}{JP fdI:qo}(F:Dp K "built" "built" yH f fd)(c:DB K mg C)(M:Mk K C fI)
 (FI:zG P w K mg base (aO P w) 6 fI fdI yg (hV C CF))(bI:L2.ax K fdI yg [Value.none])
 (FG:zG P w K mg base (aO P w) 5 fg JP E2 (pq CF))(bG:L2.ax K JP E2 [])(mG:mg "gathered"=some (.ref fg))(kG:keepIn K (.ref fg)=true):
 zG P w K mg base (aO P w) 8 f fd E2 (jT C CF):=by
 refine F.okN uV (λvs H Q E h=>?_) (λJw A outer s H vs Q E hr h=>?_)
 ·obtain⟨fl,Ju,l,p,ys,ts,rfl,_⟩:=h;rfl
 ·obtain⟨fl,Ju,l,p,ys,ts,rfl,hf,hp,hl,ht,G,q⟩:=h;have KY:A8 5 _:=hr.mono (by decide)
  refine⟨_,aj (@aW _ _ 2 _ _ _ _ uV.nd rfl (Or.inl rfl) (eX (dvs:=[.non]) M FI hr (by rfl) c.mgC bI (.cons rfl .nil) ae (@ai _ _ _ _ _ (pv 0) af rfl)) rfl (Or.inl rfl))
   (aj (gN (pv 2) (ay FG KY (by rfl) mG kG bG .nil ae (@ai _ _ _ _ _ (pv 0) (@ai _ _ _ _ _ (pv 1) af rfl) rfl)) rfl)
   (ak (az (pv 2)))),?_⟩
  refine⟨_,rfl,λx dx hx Lq ne=>?_⟩
  have s0:∀b u,H b=some u->upd (upd H dx (.own x)) x (.ins C dx []) b=some u:=λb u e=>by
   rw[av (au e hx),av (au e Lq)];exact e
  refine⟨x,dx,fl,Ju,p,.non,[],rfl,ah,s0 _ _ hf,hp,.inl ⟨rfl,rfl⟩,aju p,(λt ht=>nomatch ht),λH1 D0 zs0 sb _ Ou QP hz0=>⟨rfl,?_⟩⟩;have s1:aA H H1:=λb u e=>sb _ _ (s0 _ _ e) (au e hx);refine⟨_,rfl,_,rfl,fl,Ju,l,p,ys,ts,rfl,s1 _ _ hf,hp,s1 _ _ hl,aS.keep ht (aD.of s1),G,λH2 D zs s2 nD0 hD hz=>?_⟩;have Le:=s2 _ _ Ou;refine⟨_,rfl,x,C,dx,_,rfl,Le,c.cl,c.nT,(by show 2<1000;decide),?_⟩
  have nD:D≠x:=λz=>by rw[z,Le] at hD;cases hD
  have s3:aA H (upd H2 x (.ins C dx (cP "its_terms" (.ref D) (cP "its_terms" (.ref D0) (cP "its_field" (.ref fl) []))))):=λb u e=>by
   rw[av (au e hx)];exact s2 _ _ (s1 _ _ e)
  exact⟨_,rfl,q _ x s3 ⟨dx,fl,Ju,D,zs,ah,s3 _ _ hf,by rw[av nD];exact hD,aS.keep hz (aD.upd λxs z=>by rw[Le] at z;cases z),Cu s1 nD0⟩⟩
structure mz (K:Frag)(mg:xk)(C:Addr):Prop where
 c:DB K mg C
 isC:((clsIn K C).isSome&&typeIn K (.ref C)==some (.type "type"))=true
 ca:findIn K (.ref C) "__class__"=some (some (.builtin "object.__class__"))
 sp:specialIn K (.builtin "object.__class__") "__get__"=some (some (.builtin "getset_descriptor.__get__"))
 tk:takesIn K (.builtin "object.__class__")=some true
 ob:mroIn K C (.type "object")=some true
variable {K:Frag}{mg:xk}
theorem mz.ty (c:mz K mg C){p dx:Addr}{fs:List (Str×V)}(e:H p=some (.ins C dx fs)):Iq K H (.ref p) (.ref C):=.of (.ins e c.c.cl c.ca c.sp c.tk c.ob)
theorem mz.is (c:mz K mg C):kitOne K (.ref C) (.ref C)=some true:=by
 unfold kitOne;rw[zj (by simp)]
variable {x:V}
theorem mz.no (c:mz K mg C){T:String}(h:Th H x T):kitOne K (.type T) (.ref C)=some false:=by
 show(if(Value.type T==Value.ref C)=true then some true else(if((clsIn K C).isSome&&typeIn K (.ref C)==some (.type "type"))=true then subIn K (.type T) (.ref C) else none))=some false;rw[qM (by intro z;cases y7.mp z),zj c.isC]
 cases h <;> rfl
theorem oG :notFirst K C (.ref C)=true:=by unfold notFirst;simp
def zX (t:Tm):D:=.tup [.tup (t.1.map D.int),.tup [.int t.2.1,.int t.2.2]]
theorem uL :∀ns:List Int,bg K H (ns.map D.int) (ns.map V.int)
 |[]=>by unfold bg;rfl
 |n::ns=>by
  show bg K H (.int n::ns.map D.int) (.int n::ns.map V.int);unfold bg;exact⟨_,_,rfl,(by unfold aN;rfl),uL ns⟩
theorem Ao:∀ns:List Int,eC (ns.map D.int)=0
 |[]=>by simp[eC]
 |n::ns=>by rw[Jr];unfold eC;rw[Ao ns];simp[iB]
theorem ahD {y:V}{t:Tm}(h:Ey H y t):aN K H (zX t) y:=by
 obtain⟨a,pr,nu,rfl,ha,JQ,JZ⟩:=h;unfold zX aN;refine⟨a,_,rfl,bf.of ha,?_⟩;unfold bg;refine⟨_,_,rfl,(by unfold aN;exact⟨pr,_,rfl,bf.of JQ,uL _⟩),?_⟩;unfold bg;refine⟨_,_,rfl,acP JZ,?_⟩;unfold bg;rfl
theorem qd :∀{ys:List V}{ts:List Tm},aS H ys ts->bg K H (ts.map zX) ys
 |_,_,.nil=>by unfold bg;rfl
 |_,_,.cons (b:=t) h r=>by
  show bg K H (zX t::_) _;unfold bg;exact⟨_,_,rfl,ahD h,qd r⟩
theorem pJ:∀ts:List Tm,eC (ts.map zX)<=2
 |[]=>by unfold eC;decide
 |t::ts=>by
  show eC (zX t::ts.map zX)<=2;unfold eC;have:=pJ ts
  have h:iB (zX t)=2:=by
   unfold zX iB eC eC eC;rw[acQ,show iB (.tup (t.1.map D.int))=1 from by unfold iB;rw[Ao]];rfl
  omega
abbrev lE (ts:List Tm):D:=.lst (ts.map zX)
theorem lF {a:Addr}{ys:List V}{ts:List Tm}(e:H a=some (.lst ys))(h:aS H ys ts):aN K H (lE ts) (.ref a):=by
 unfold aN;exact⟨a,ys,rfl,aV.of e,qd h⟩
theorem ajx (ts:List Tm):iB (lE ts)<=32:=by
 unfold iB;have:=pJ ts;omega
theorem DO.same (h:DO C CF H s p ts)(k:aA H H'):DO C CF H' s p ts:=by
 obtain⟨dx,fl,Ju,D,zs,h1,h2,h3,h4⟩:=h.ex;exact⟨dx,fl,Ju,D,zs,k _ _ h1,k _ _ h2,k _ _ h3,aS.keep h4 (aD.of k)⟩
abbrev CV:Stmt:=aF (aQ 37) 12
def Cg (C CF NN:Addr):Sp:=λvs H Q E=>∃(s:Addr)(p:Int)(a:List Tm)(x:V)(o:Option (V×V)),vs=[.ref s,x]/\DO C CF H s p a/\FP p/\a.length<4000/\(∀t∈a,Gn p 4000 t.2)/\TX H x o /\
 (∀t b y,x=.ref y->H y=some (bo t b)->tG p o=true->B 4000 t/\B 4000 b/\Num p t b/\Bd p (l8 p (t,b) a)/\∀H' u,aA H H'->jZ C CF H H' u p (tg p (l8 p (t,b) a))->Q (.ref u) H')/\(tG p o=true->∃y t b,x=.ref y/\H y=some (bo t b))/\(tG p o=false->E (.ref NN) none H)
theorem BW:DK ["self","number","field"] zY (aq CV):=c9 (by decide +kernel)
set_option maxHeartbeats 1000000 in
theorem akI {fn ft fb NN:Addr}{LW JY Lg:qo}(F:Dp K "scaled" "Sum.scaled" CV f fd)(c:mz K mg C)(cF:CP K mg CF)(mN:mg "NoNumber"=some (.ref NN))(qN:jb K NN zK lJ=true)
 (FNu:zG P w K mg base (aO P w) 2 fn LW yk (ix CF))(bNu:L2.ax K LW yk [])(mNu:L2.Meth K CF "is_number" fn)
 (Ov:zG P w K mg base (aO P w) 4 ft JY Gw (lY CF fU))(Ow:L2.ax K JY Gw [])(Ox:L2.Meth K CF "times" ft)
 (QQ:zG P w K mg base (aO P w) 8 fb Lg E2 (jT C CF))(QR:L2.ax K Lg E2 [])(QS:mg "built"=some (.ref fb))(QT:keepIn K (.ref fb)=true):
 zG P w K mg base (aO P w) 9 f fd zY (Cg C CF NN):=by
 refine F.okE BW (λvs H Q E h=>?_) (λJw A outer s H vs Q E hr h=>?_)
 ·obtain⟨s,p,a,x,o,rfl,_⟩:=h;rfl
 ·obtain⟨s0,p,a,x,o,rfl,S,hp,al,ag,tx,q1,q2,q3⟩:=h;have KD:A8 8 _:=hr;have JO:A8 4 _:=KD.mono (by decide);have JR:A8 2 _:=KD.mono (by decide)
  refine⟨_,(aj (@aW _ _ 2 _ _ _ _ BW.nd rfl (Or.inr rfl) (bD (pv 0) rfl) rfl (Or.inl rfl))
   (aj (bc (bF (bK (bH (pv 2) cF.cl mNu FNu JR bNu .nil ae (@ai _ _ _ _ _ (pv 1) af rfl)))) (ak (dY DI qN rfl cO (by rfl) mN (@ai _ _ _ _ _ gf af rfl))) aE)
   (ak (az (ay QQ KD (by rfl) QS QT QR .nil ae (@ai _ _ _ _ _ (pv 2) (@ai _ _ _ _ _ (dm (g:=jd K 2 (cD (bN 0) (cD (bN 1) CN))) (N:=["product","factor","number","field"]) (nl:=2) (js:=[1,2]) (osc:=aq CV) ⟨rfl,rfl,by decide +kernel,by decide +kernel,by decide +kernel,rfl,(.cons ⟨rfl,by decide +kernel⟩ (.cons ⟨rfl,by decide +kernel⟩ .nil)),by decide +kernel⟩ rfl
    (cy (bD (pv 0) rfl))
    (λCq fq sq Hq=>(cA (X:=cG _ ["product","factor","number","field"] _ Cq fq sq Hq) rfl (aG (aC (X:=cG _ ["product","factor","number","field"] _ Cq fq sq Hq) (i:=0) (by show(["product","factor","number","field"]:p3).Nodup;decide +kernel) rfl (Or.inl rfl) (Or.inr rfl)) (aG (aC (X:=cG _ ["product","factor","number","field"] _ Cq fq sq Hq) (i:=1) (by show(["product","factor","number","field"]:p3).Nodup;decide +kernel) rfl (Or.inl rfl) (Or.inr rfl)) bX))))
    (λCq fq sq Hq=>dk)
    (λCq fq sq Hq=>(@bu _ _ _ _ _ (@ai _ _ _ _ _ (pv 0) (@ai _ _ _ _ _ (bH (pv 3) cF.cl Ox Ov JO Ow .nil ae (@ai _ _ _ _ _ (pv 1) (@ai _ _ _ _ _ (pv 2) af rfl) rfl)) af rfl) rfl)))) af rfl) rfl)))))),?_⟩
  obtain⟨dx,fl,Ju,Dd,zs,h1,h2,h3,h4⟩:=S.ex;refine⟨_,rfl,s0,C,dx,_,_,rfl,h1,c.c.cl,c.c.nF,rfl,?_⟩;refine⟨_,rfl,fl,Ju,_,rfl,h2,rfl,_,rfl,fl,Ju,p,x,o,rfl,h2,hp,tx,_,rfl,?_⟩
  cases hn:tG p o with
  |false=>exact bZ ⟨by decide,q3 hn⟩
  |true =>
   obtain⟨y,t,b,rfl,hy⟩:=q2 hn;obtain⟨bt,bb,nm,G,q⟩:=q1 t b y rfl hy hn;refine bw ?_;have zl:=h4.length;refine⟨_,rfl,_,rfl,s0,C,dx,_,_,rfl,h1,c.c.cl,c.c.nT,rfl,Dd,rfl,⟨_,aV.of h3⟩,?_⟩;refine jj (xs:=zs) (λi us H'=>aA H H'/\aS H' us (l8 p (t,b) (a.take i))) ⟨aA.refl _,.nil⟩ (λi us H' hi h=>?_) (λi v us H' hi WY h=>?_) (λus H' h=>?_)
   ·refine⟨?_,aV.of (h.1 _ _ h3)⟩;rw[h.2.length];unfold l8;rw[vW,rh];exact Gv (show _<=4000 by omega) (by decide)
   ·obtain⟨sH,hu⟩:=h;obtain⟨u,eu,at_,pr,nu,rfl,LX,JQ,JZ⟩:=aY h4 WY;have gu:=ag u (v5 eu)
    have Kl:a.take (i+1)=a.take i++[u]:=by rw[vQ,eu];rfl
    refine⟨at_,.ref pr,.ref nu,rfl,bf.of (sH _ _ LX),λN k=>?_⟩;refine oP ⟨_,rfl,_,rfl,fl,Ju,_,rfl,sH _ _ h2,rfl,_,rfl,_,rfl,fl,Ju,nu,y,p,u.2.1,u.2.2,t,b,rfl,sH _ _ h2,hp,sH _ _ JZ,sH _ _ hy,gu.2.1,gu.2.2,bt,bb,gu.ne,(by have:=nm.pos;omega),λa1 KC=>?_⟩;have r1:=ao (o:=bo (cz p u.2 (t,b)).1 (cz p u.2 (t,b)).2) KC;have e1:upd H' a1 (bo (cz p u.2 (t,b)).1 (cz p u.2 (t,b)).2) a1=some (bo (cz p u.2 (t,b)).1 (cz p u.2 (t,b)).2):=ah;change HS _ (upd H' a1 (bo (cz p u.2 (t,b)).1 (cz p u.2 (t,b)).2)) _;generalize upd H' a1 (bo (cz p u.2 (t,b)).1 (cz p u.2 (t,b)).2)=H1 at r1 e1 |-;refine⟨gR,λtu PY=>?_⟩;have r2:=ao (o:=.tup [.ref pr,.ref a1]) PY;have Oy:=r1.trans r2;refine k _ _ ⟨sH.trans Oy,?_⟩;rw[Kl];unfold l8;rw[Hs];exact mx (aS.keep hu (aD.of Oy)) ⟨tu,pr,a1,rfl,ah,Oy _ _ (sH _ _ JQ),r2 _ _ e1⟩
   obtain⟨sH,hu⟩:=h;rw[zl,vt] at hu;intro l hl;have r1:=ao (o:=.lst us) hl;exact⟨fl,Ju,l,p,_,_,rfl,r1 _ _ (sH _ _ h2),hp,ah,aS.keep hu (aD.of r1),G,λH2 u s2 WZ=>q _ u ((sH.trans r1).trans s2) (WZ.of (sH.trans r1))⟩
abbrev Gz:Stmt:=(aQ 35)
def Bn:Sp:=λvs H Q _=>∃(a b:Addr)(ks ms:List Int),vs=[.ref a,.ref b]/\H a=some (.tup (ks.map V.int))/\H b=some (.tup (ms.map V.int))/\ks.Pairwise (· < ·)/\ms.Pairwise (· < ·)/\ks.length+ms.length<64 /\
 ∀c H',aA H H'->H' c=some (.tup ((cX (ks++ms)).map V.int))->Q (.ref c) H'
theorem akJ:DK yh yh (aq Gz):=c9 (by decide +kernel)
theorem akK (F:Dp K "together" "together" Gz f fd)(Jz:mg "tuple"=none)(JD:mg "sorted"=none)(Kr:mg "set"=none):zG P w K mg base (aO P w) 1 f fd yh Bn:=by
 refine F.okN akJ (λvs H Q E h=>?_) (λJw A outer s H vs Q E hr h=>?_)
 ·obtain⟨a,b,ks,ms,rfl,_⟩:=h;rfl
 ·obtain⟨a,b,ks,ms,rfl,ha,hb,pk,pm,hl,q⟩:=h
  refine⟨_,(aj (bc (bF (iQ (pv 0) (λ_=>rfl))) (ak (az (pv 1))) aE)
   (aj (bc (bF (iQ (pv 1) (λ_=>rfl))) (ak (az (pv 0))) aE)
   (ak (az (cE fE (by rfl) Jz (by rfl) (@ai _ _ _ _ _ (kx rfl (@aH _ _ _ _ _ _ _ _ uv (pv 0) (pv 1)) rfl (by rfl) JD (by rfl) Kr) af rfl)))))),?_⟩
  refine⟨_,rfl,!(ks.map V.int).isEmpty,.inr (.inl ⟨_,bf.of ha,rfl⟩),?_⟩
  cases ks with
  |nil =>
   refine bZ ⟨_,rfl,q b H (aA.refl _) ?_⟩;rw[hb,<-oF pm (l:=[]++ms) λz=>Iff.rfl]
  |cons k ks =>
   refine bw ⟨_,rfl,!(ms.map V.int).isEmpty,.inr (.inl ⟨_,bf.of hb,rfl⟩),?_⟩
   cases ms with
   |nil =>
    refine bZ ⟨_,rfl,q a H (aA.refl _) ?_⟩;rw[ha,<-oF pk (l:=(k::ks)++[]) λz=>by simp]
   |cons m ms =>
    refine bw ?_;refine⟨_,rfl,_,rfl,a,b,_,_,rfl,rfl,bf.of ha,bf.of hb,(by simp),EW (show _<=64 by simp only[vW];omega) (by decide),(λz=>by cases z),λ_ c hc=>?_⟩;refine⟨c,(k::ks)++(m::ms),rfl,.inr (bf.of (by rw[ah,Hs])),(by rw[tE];exact hl),λD us hD pw mem=>?_⟩;refine⟨D,_,rfl,.inl ⟨aV.of ah,λl Ku=>q l _ (((ao hc).trans (ao hD)).trans (ao Ku)) ?_⟩⟩;rw[ah,oF pw mem]
abbrev B7:Stmt:=aF (aQ 37) 9
abbrev Gc:Stmt:=aF (aQ 37) 10
theorem iT {α β:Type}{R:α->β->Prop}:∀{l:List α}{m:List β}{l':List α}{m':List β},Paired R l m->Paired R l' m'->Paired R (l++l') (m++m')
 |_,_,_,_,.nil,h=>h
 |_,_,_,_,.cons a t,h=>.cons a (iT t h)
def sr (C CF:Addr):Sp:=λvs H Q _=>∃(s s':Addr)(p p':Int)(a b:List Tm),vs=[.ref s,.ref s']/\DO C CF H s p a/\DO C CF H s' p' b/\Q (.bl (decide (p'=p))) H
def Cn (C CF UN:Addr):Sp:=λvs H Q E=>∃(s s':Addr)(p p':Int)(a b:List Tm),vs=[.ref s,.ref s']/\DO C CF H s p a/\DO C CF H s' p' b/\FP p/\a.length+b.length<4000 /\
 (p'=p->Bd p (a++b)/\∀H' u,aA H H'->jZ C CF H H' u p (tg p (a++b))->Q (.ref u) H')/\(p'≠p->E (.ref UN) none H)
theorem akL:DK yk yk (aq B7):=c9 (by decide +kernel)
theorem akM:DK rM rM (aq Gc):=c9 (by decide +kernel)
theorem akN {fe:Addr}{LY:qo}(F:Dp K "is_like" "Sum.is_like" B7 f fd)(c:mz K mg C)(cF:CP K mg CF)(Js:mg "isinstance"=none)
 (FE:zG P w K mg base (aO P w) 1 fe LY rM (As CF))(bE:L2.ax K LY rM [])(nE:findIn K (.ref CF) "__eq__"=some (some (.ref fe)))(iE:isFn K (.ref fe)=true):
 zG P w K mg base (aO P w) 2 f fd yk (sr C CF):=by
 refine F.okN akL (λvs H Q E h=>?_) (λJw A outer s H vs Q E hr h=>?_)
 ·obtain⟨s,s',p,p',a,b,rfl,_⟩:=h;rfl
 ·obtain⟨s0,s1,p,p',a,b,rfl,S,S1,q⟩:=h;have JE:A8 1 _:=hr.mono (by decide);refine⟨_,(ak (az (dC (aB aZ (by rfl) Js (by rfl) (@ai _ _ _ _ _ (pv 1) (@ai _ _ _ _ _ (cu (by rfl) c.c.mgC (show aI (.ref C) (.ref C) from rfl)) af rfl) rfl)) (d9 (@cw _ _ _ _ _ _ _ _ (q9 nE iE FE JE bE ae) (bD (pv 1) rfl) (bD (pv 0) rfl) (aJ _)))))),?_⟩;obtain⟨dx,fl,Ju,Dd,zs,h1,h2,h3,h4⟩:=S.ex;obtain⟨QU,Vv,MP,QV,Vw,g1,g2,g3,g4⟩:=S1.ex;refine⟨_,rfl,.ref s1,.ref C,_,_,_,rfl,rfl,c.ty g1,c.is,_,rfl,bZ ?_⟩;refine⟨_,rfl,s1,C,QU,_,_,rfl,g1,c.c.cl,c.c.nF,rfl,_,rfl,s0,C,dx,_,_,rfl,h1,c.c.cl,c.c.nF,rfl,?_⟩;refine⟨Vv,MP,_,.ref CF,rfl,g2,cF.ty h2,oG,Vv,MP,p',.ref fl,rfl,g2,.inl ⟨fl,Ju,p,rfl,h2,_,rfl,?_⟩⟩;simpa using q
theorem akO {fl fb UN:Addr}{JX Lg:qo}(F:Dp K "plus" "Sum.plus" Gc f fd)(c:mz K mg C)(mU:mg "Unlike"=some (.ref UN))(qU:jb K UN zK lJ=true)
 (W0:zG P w K mg base (aO P w) 2 fl JX yk (sr C CF))(W2:L2.ax K JX yk [])(W3:L2.Meth K C "is_like" fl)
 (QQ:zG P w K mg base (aO P w) 8 fb Lg E2 (jT C CF))(QR:L2.ax K Lg E2 [])(QS:mg "built"=some (.ref fb))(QT:keepIn K (.ref fb)=true):
 zG P w K mg base (aO P w) 9 f fd rM (Cn C CF UN):=by
 refine F.okE akM (λvs H Q E h=>?_) (λJw A outer s H vs Q E hr h=>?_)
 ·obtain⟨s,s',p,p',a,b,rfl,_⟩:=h;rfl
 ·obtain⟨s0,s1,p,p',a,b,rfl,S,S1,hp,hl,q1,q2⟩:=h;have KD:A8 8 _:=hr;have JR:A8 2 _:=KD.mono (by decide)
  refine⟨_,(aj (bc (bF (bK (bH (pv 0) c.c.cl W3 W0 JR W2 .nil ae (@ai _ _ _ _ _ (pv 1) af rfl)))) (ak (dY DI qU rfl cO (by rfl) mU (@ai _ _ _ _ _ gf af rfl))) aE)
   (ak (az (ay QQ KD (by rfl) QS QT QR .nil ae (@ai _ _ _ _ _ (bD (pv 0) rfl) (@ai _ _ _ _ _ (@aH _ _ _ _ _ _ _ _ zr (bD (pv 0) rfl) (bD (pv 1) rfl)) af rfl) rfl))))),?_⟩
  obtain⟨dx,Mt,Ju,Dd,zs,h1,h2,h3,h4⟩:=S.ex;obtain⟨QU,Vv,MP,QV,Vw,g1,g2,g3,g4⟩:=S1.ex;refine⟨_,rfl,s0,dx,_,rfl,h1,rfl,_,rfl,s0,s1,p,p',a,b,rfl,S,S1,_,rfl,?_⟩
  by_cases e:p'=p
  ·rw[sG e];obtain⟨G,q1⟩:=q1 e;refine bw ⟨_,rfl,s0,C,dx,_,_,rfl,h1,c.c.cl,c.c.nF,rfl,_,rfl,s0,C,dx,_,_,rfl,h1,c.c.cl,c.c.nT,rfl,_,rfl,s1,C,QU,_,_,rfl,g1,c.c.cl,c.c.nT,rfl,?_⟩;have z1:=h4.length;have z2:=g4.length;refine⟨Dd,QV,_,_,rfl,rfl,h3,g3,EW (show _<=4000 by omega) (by decide),λl Ku=>?_⟩;have s2:=ao (o:=.lst (zs++Vw)) Ku;exact⟨Mt,Ju,l,p,_,a++b,rfl,s2 _ _ h2,hp,ah,iT (aS.keep h4 (aD.of s2)) (aS.keep g4 (aD.of s2)),G,λH' u s3 hu=>q1 _ u (s2.trans s3) (hu.of s2)⟩
  ·rw[Fx e];exact bZ ⟨by decide,q2 e⟩
abbrev Fj:Stmt:=(aQ 41)
structure SW (C CF:Addr)(H:Hp)(s:Addr)(p:Int)(ts:List Tm):Prop where
 r:DO C CF H s p ts
 fp:FP p
 few:ts.length<64
 pl:∀t∈ts,t.1.length<4000
def eW (H H':Hp):Prop:=∀b u,H b=some u->(∀C dx,u≠.ins C dx [])->H' b=some u
theorem eW.of (s:aA H H'):eW H H':=λb u e _=>s b u e
theorem eW.but {dx:Addr}(h:SameBut s H H')(e:H s=some (.ins C dx [])):eW H H':=λb u eb n=>h b u eb λz=>by
 rw[z,e] at eb
 cases eb
 exact n _ _ rfl
theorem Th.agU {T:String}(h:Th H x T)(k:eW H H'):Th H' x T:=by
 cases h with
 |non=>exact .non
 |bl b=>exact .bl b
 |int i=>exact .int i
 |str y=>exact .str y
 |lst e=>exact .lst (k _ _ e λ_ _ z=>by cases z)
 |tup e=>exact .tup (k _ _ e λ_ _ z=>by cases z)
 |dK e=>exact .dK (k _ _ e λ_ _ z=>by cases z)
theorem eW.akH (k:eW H H'):aD H H':=λb xs e=>k b _ e λ_ _ z=>by cases z
theorem SW.agU (h:SW C CF H s p ts)(k:eW H H'):SW C CF H' s p ts:=by
 obtain⟨dx,fl,Ju,D,zs,h1,h2,h3,h4⟩:=h.r.ex;exact⟨⟨dx,fl,Ju,D,zs,k _ _ h1 (λ_ _ z=>by injection z with _ _ z;exact absurd z (by simp[ow])),k _ _ h2 (λ_ _ z=>by injection z with _ _ z;exact absurd z (by simp[cL])),k _ _ h3 (λ_ _ z=>by cases z),aS.keep h4 k.akH⟩,h.fp,h.few,h.pl⟩
inductive WX (C CF:Addr)(p n:Int)(H:Hp):V->Bool->Prop where
 |sum {s:Addr}{p':Int}{ts:List Tm}:SW C CF H s p' ts->WX C CF p n H (.ref s) (decide (p'=p)&&decide (eO ts<=n))
 |Fc {x:V}{T:String}:Th H x T->WX C CF p n H x false
theorem WX.agU {n:Int}{b:Bool}(h:WX C CF p n H x b)(k:eW H H'):WX C CF p n H' x b:=by
 cases h with
 |sum s=>exact .sum (s.agU k)
 |Fc t=>exact .Fc (t.agU k)
def BV (C CF:Addr):Sp:=λvs H Q _=>∃(fl Ju:Addr)(p n:Int)(y:V)(b:Bool),vs=[.ref fl,.int n,y]/\H fl=some (.ins CF Ju (cL p))/\WX C CF p n H y b/\∀H',aA H H'->Q (.bl b) H'
theorem akP:DK wg wg (aq Fj):=c9 (by decide +kernel)
theorem akQ {fe ff fr:Addr}{LY QW LZ:qo}(F:Dp K "is_wish" "is_wish" Fj f fd)(c:mz K mg C)(cF:CP K mg CF)(Js:mg "isinstance"=none)
 (FE:zG P w K mg base (aO P w) 1 fe LY rM (As CF))(bE:L2.ax K LY rM [])(nE:findIn K (.ref CF) "__eq__"=some (some (.ref fe)))(iE:isFn K (.ref fe)=true)
 (FSf:zG P w K mg base (aO P w) 1 ff QW ["self"] (lB C CF))(bSf:L2.ax K QW ["self"] [])(mSf:Meth K C "field" ff)
 (FRe:zG P w K mg base (aO P w) 1 fr LZ ["self"] (pC C))(bRe:L2.ax K LZ ["self"] [])(mRe:Meth K C "reach" fr):
 zG P w K mg base (aO P w) 2 f fd wg (BV C CF):=by
 refine F.okN akP (λvs H Q E h=>?_) (λJw A outer s H vs Q E hr h=>?_)
 ·obtain⟨fl,Ju,p,n,y,b,rfl,_⟩:=h;rfl
 ·obtain⟨fl,Ju,p,n,y,b,rfl,hf,hw,q⟩:=h;have JE:A8 1 _:=hr.mono (by decide);refine⟨_,(ak (az (dC (aB aZ (by rfl) Js (by rfl) (@ai _ _ _ _ _ (pv 2) (@ai _ _ _ _ _ (cu (by rfl) c.c.mgC (show aI (.ref C) (.ref C) from rfl)) af rfl) rfl)) (dC (@cw _ _ _ _ _ _ _ _ (q9 nE iE FE JE bE ae) (cj (pv 2) c.c.cl mSf FSf JE bSf .nil ae) (pv 0) (aJ _)) (d9 (@cw _ _ _ _ _ _ _ _ iP (cj (pv 2) c.c.cl mRe FRe JE bRe .nil ae) (pv 1) (aJ _))))))),?_⟩
  cases hw with
  |Fc th=>exact⟨_,rfl,y,.ref C,_,_,_,rfl,rfl,th.ty,c.no th,_,rfl,bw (q _ (aA.refl _))⟩
  |@sum s p' ts S =>
   obtain⟨dx,Mt,QX,D,zs,h1,h2,h3,h4⟩:=S.r.ex;refine⟨_,rfl,.ref s,.ref C,_,_,_,rfl,rfl,c.ty h1,c.is,_,rfl,bZ ?_⟩;refine⟨_,rfl,s,dx,_,rfl,h1,rfl,s,dx,Mt,D,rfl,h1,_,rfl,?_⟩;refine⟨Mt,QX,_,.ref CF,rfl,h2,cF.ty hf,oG,Mt,QX,p',.ref fl,rfl,h2,.inl ⟨fl,Ju,p,rfl,hf,_,rfl,?_⟩⟩
   cases e:decide (p'=p) with
   |false =>
    refine⟨_,rfl,bw ?_⟩;have q':=q _ (aA.refl _);rw[e] at q';exact q'
   |true =>
    refine⟨_,rfl,bZ ?_⟩;refine⟨_,rfl,s,dx,_,rfl,h1,rfl,s,dx,Mt,D,zs,ts,rfl,h1,h3,h4,wG S.few (by decide),S.pl,λH' sH=>⟨_,rfl,_,_,rfl,rfl,?_⟩⟩;have q':=q _ sH;rw[e] at q';exact q'
end K74
namespace L2
open PySem PySem.Spec PyProof.Rows PySem.W
end L2
namespace PySem.F
end PySem.F
namespace L2
open PySem PySem.Spec PyProof.Rows PySem.W
end L2
namespace Mu
open PySem PyProof.Rows
structure Zs (h:Heap)(z TI TO i1 i2 l1 l2:Addr)(k:Nat):Prop where
 hz:IsZip h z TI TO .none
 hTI:IsPair h TI (.ref i1) (.ref i2)
 ML:∃a b,IsPair h TO a b
 h1:h.IsListIter i1 l1 k
 h2:h.IsListIter i2 l2 k
theorem dI {h h':Heap}{i l:Addr}{k:Nat}(x:h.IsListIter i l k)(q:∀o,h.get? i=some o->h'.get? i=some o):h'.IsListIter i l k:=let⟨o,a,b⟩:=x;⟨o,q o a,b⟩
theorem lL (n a b:Nat)(ha:a<n)(hb:b<n):ZipApart (n+4) (n+2) (n+3) n (n+1) a b:=by
 refine⟨Zp.a8 ?_,Zp.a8 ?_,Zp.a8 ?_,Zp.a8 ?_,Zp.a8 ?_,Zp.a8 ?_,Zp.a8 ?_,Zp.a8 ?_,Zp.a8 ?_,Zp.a8 ?_,Zp.a8 ?_,Zp.a8 ?_,Zp.a8 ?_,Zp.a8 ?_,Zp.a8 ?_,Zp.a8 ?_,Zp.a8 ?_,Zp.a8 ?_⟩ <;> omega
section
variable {prog:Iy}{w:World}{A:Around}{E:Bf}{s:AL}{z TI TO i1 i2 l1 l2:Addr}{k:Nat}{xs ys:EV}{x y:Value}
theorem jw {Q:Option Value->Shared->Prop}(D:ZipApart z TI TO i1 i2 l1 l2)(Z:Zs s.heap z TI TO i1 i2 l1 l2 k)(JV:s.heap.IsList l1 xs)(J8:s.heap.IsList l2 ys)(hx:xs[k]?=some x)(hy:ys[k]?=some y)
 (hQ:∀h',IsZip h' z TI TO (rawInt s.heap.objs.size)->(∃a b,IsPair h' TO a b)->h'.IsListIter i1 l1 (k+1)->h'.IsListIter i2 l2 (k+1)->IsPair h' s.heap.objs.size x y →
  (∀c o,c ∉ [z,TO,i1,i2]->s.heap.get? c=some o->h'.get? c=some o)->Q (some (.ref s.heap.objs.size)) {s with heap:=h'}):
 wpAny (model prog w) A (pyNext (.ref z)) Q E s:=by
 obtain⟨hz,hTI,⟨a,b,ML⟩,h1,h2⟩:=Z
 exact wpAny_pyNext_zip_item D hz hTI ML h1 h2 JV J8 hx hy λh' a1 a2 a3 a4 a5 a6 a7=>hQ h' a1 ⟨_,_,a2⟩ a3 a4 a5 λc o hc e=>by
  have JI:c≠z/\c≠TO/\c≠i1/\c≠i2:=by simpa using hc
  exact a7 c o JI.1 JI.2.1 JI.2.2.1 JI.2.2.2 e
theorem jv {Q:Option Value->Shared->Prop}(hh:A.handled=none)(D:ZipApart z TI TO i1 i2 l1 l2)(Z:Zs s.heap z TI TO i1 i2 l1 l2 k)(JV:s.heap.IsList l1 xs)(J8:s.heap.IsList l2 ys)(LG:xs[k]?=none\/ys[k]?=none)
 (hQ:∀h',(∀c o,c ∉ [z,TO,i1,i2]->s.heap.get? c=some o->h'.get? c=some o)->Q none {s with heap:=h'}):wpAny (model prog w) A (pyNext (.ref z)) Q E s:=by
 obtain⟨hz,hTI,⟨a,b,ML⟩,h1,h2⟩:=Z
 exact wpAny_pyNext_zip_end hh D hz hTI ML h1 h2 JV J8 LG λh' a7=>hQ h' λc o hc e=>by
  have JI:c≠z/\c≠TO/\c≠i1/\c≠i2:=by simpa using hc
  exact a7 c o JI.1 JI.2.1 JI.2.2.1 JI.2.2.2 e
theorem yZ {Q:Bf}(JV:s.heap.IsList l1 xs)(J8:s.heap.IsList l2 ys)
 (h:∀h',Zs h' (s.heap.objs.size+4) (s.heap.objs.size+2) (s.heap.objs.size+3) s.heap.objs.size (s.heap.objs.size+1) l1 l2 0->(∀c o,s.heap.get? c=some o->h'.get? c=some o)->Q (.ref (s.heap.objs.size+4)) {s with heap:=h'}):
 wpAny (model prog w) A (call (.type "zip") [.ref l1,.ref l2]) Q E s :=
 call_zip_2 JV J8 λh' a1 a2 a3 a4 a5 _ a7=>h h' ⟨a1,a2,⟨_,_,a3⟩,a4,a5⟩ a7
end
end Mu
namespace L2
open PySem PySem.Spec PyProof.Rows PySem.W
def wI (K:Frag)(a b:Addr):It :=
 ⟨λi H=>∃xs ys x y,aV K H a xs/\aV K H b ys/\xs[i]?=some x/\ys[i]?=some y,
  λi H v H'=>∃T x y,(∀xs,aV K H a xs->xs[i]?=some x)/\(∀ys,aV K H b ys->ys[i]?=some y)/\H T=none/\v=.ref T/\H'=upd H T (.tup [x,y]),
  λi H=>∃xs ys,aV K H a xs/\aV K H b ys/\(xs.length<=i\/ys.length<=i)⟩
theorem wq {P:Iy}{w:World}{K:Frag}{elts:vH}{x1:Nat}{tp:Pos}{a b z TI TO i1 i2:Addr}(D:ZipApart z TI TO i1 i2 a b):
 Turn P w K (.Tuple elts x1 tp) (wI K a b) [z,TO,i1,i2,TI] z (λi h=>Mu.Zs h z TI TO i1 i2 a b i) where
 mem:=by simp
 obj:=λi h st c hb=>by
  obtain⟨h1,h2,⟨_,_,h3⟩,⟨o4,h4,_,d4⟩,⟨o5,h5,_,d5⟩⟩:=st
  rcases(by simpa using hb:c=z\/c=TO\/c=i1\/c=i2\/c=TI) with q|q|q|q|q
  ·subst q;exact⟨_,h1,λv q=>by cases q⟩
  ·subst q;exact⟨_,h3,λv q=>by cases q⟩
  ·subst q;exact⟨_,h4,λv q=>by rw[d4] at q;cases q⟩
  ·subst q;exact⟨_,h5,λv q=>by rw[d5] at q;cases q⟩
  ·subst q;exact⟨_,h2,λv q=>by cases q⟩
 keep:=λi h h' st k=>by
  obtain⟨h1,h2,⟨_,_,h3⟩,h4,h5⟩:=st;exact⟨k z (by simp) _ h1,k TI (by simp) _ h2,⟨_,_,k TO (by simp) _ h3⟩,Mu.dI h4 λo q=>k i1 (by simp) o q,Mu.dI h5 λo q=>k i2 (by simp) o q⟩
 item:=by
  intro X hP hw hK hc i pins s σ H E I hf st hg;subst hP hw hK;obtain⟨xs,ys,x,y,hq,hr,hx,hy⟩:=hg;obtain⟨its,rv,p,hz⟩:=I.list hq;obtain⟨Nc,J5,p',QI⟩:=I.list hr;obtain⟨u,hu,ru⟩:=rv.get hx;obtain⟨v,hv,Of⟩:=J5.get hy;refine Mu.jw D st p.isList p'.isList (x:=u) (y:=v) (by simpa using hu) (by simpa using hv) λh' q1 q2 q3 q4 q5 q6=>?_;refine⟨_,rfl,wpAny_letOwnedTupleGo_zip (s:={s with heap:=h'}) q1 λh2 q7 q8=>?_⟩;have lt:∀c o,s.heap.get? c=some o->c≠s.heap.objs.size:=λc o e=>Ie (Ec e)
  have I1:Inv X pins σ H {s with heap:=h2}:=I.ag3 (t':=s.toks) (ch:=[z,TO,i1,i2]) (λc o hc e=>(q8.2 c λq=>hc (by simp[q])).trans (q6 c o hc e)) λc hc=>hf c (by
   rcases(by simpa using hc:c=z\/c=TO\/c=i1\/c=i2) with q|q|q|q <;> simp[q])
  have nz:s.heap.objs.size≠z:=Jm (lt z _ st.hz);have tup:h2.get? s.heap.objs.size=some {cls:=.type "tuple",data:=.seq #[u,v]}:=(q8.2 _ nz).trans q5;have fr:H s.heap.objs.size=none:=I.hok.fresh (zC _);have I2:=I.aiI (xs:=[x,y]) (its:=[u,v]) I1 (zC _) tup (.cons ru (.cons Of .nil)) gR;have up:∀c o,c≠z->h'.get? c=some o->h2.get? c=some o:=λc o hc e=>(q8.2 c hc).trans e;obtain⟨aa,bb,q2⟩:=q2;have Og:IsPair h' TI (.ref i1) (.ref i2):=q6 TI _ (by simp only[BN,xM,EO,ze];exact⟨D.TIz,D.TITO,D.TIi1,D.TIi2⟩) st.hTI
  refine⟨.ref s.heap.objs.size,_,I2,rfl,⟨s.heap.objs.size,x,y,λzs Ms=>by rw[I.agS Ms hq];exact hx,λzs Ms=>by rw[I.agS Ms hr];exact hy,fr,rfl,rfl⟩,
   ⟨q7,up _ _ D.TIz Og,⟨aa,bb,up _ _ D.TOz q2⟩,Mu.dI q3 λo e=>up _ o D.i1z e,Mu.dI q4 λo e=>up _ o D.i2z e⟩,λc hb=>?_⟩
  have nb:c≠s.heap.objs.size:=by
   obtain⟨h1,h2,⟨_,_,h3⟩,⟨o4,h4,_,d4⟩,⟨o5,h5,_,d5⟩⟩:=st
   rcases(by simpa using hb:c=z\/c=TO\/c=i1\/c=i2\/c=TI) with q|q|q|q|q <;> subst q
   ·exact lt _ _ h1
   ·exact lt _ _ h3
   ·exact lt _ _ h4
   ·exact lt _ _ h5
   ·exact lt _ _ h2
  rw[av nb];exact(hf c hb).1
 done:=by
  intro X hP hw hK hc i pins s σ H E I hf st hg;subst hP hw hK;obtain⟨xs,ys,hq,hr,hx⟩:=hg;obtain⟨its,rv,p,hz⟩:=I.list hq;obtain⟨Nc,J5,p',QI⟩:=I.list hr;have l1:=rv.length;have l2:=J5.length
  refine Mu.jv (I.ok.hd hc) D st p.isList p'.isList (by
   rcases hx with q|q
   ·left;simp;omega
   ·right;simp;omega) λh' q=>⟨rfl,?_⟩
  exact I.ag3 (t':=s.toks) (ch:=[z,TO,i1,i2]) q λc hc=>hf c (by
   rcases(by simpa using hc:c=z\/c=TO\/c=i1\/c=i2) with q|q|q|q <;> simp[q])
 self:=λ_ _ _ _ _ st h=>xv st.hz h
def Fy (K:Frag)(ta tb:TE):TI:=λσ H R=>en ta (en tb HS) σ H λvs H1=>∃a b xs ys,vs=[.ref a,.ref b]/\aV K H1 a xs/\aV K H1 b ys/\R (wI K a b) H1
theorem Ad {X:Cx}{ea eb:Expr}{ta tb:TE}{elts:vH}{x1:Nat}{tp p pos:Pos}(ha:PE X ea ta)(hb:PE X eb tb)(hg:Gl X "zip")(hm:X.mg "zip"=none)(hs:fA ea=false:=by rfl)(LH:fA eb=false:=by rfl):
 PI X (.Tuple elts x1 tp) (.Call (.Name "zip" p) [ea,eb] [] pos) (Fy X.K ta tb):=by
 intro pins s σ H R I h;refine vU (dU I hg hm (by rfl) ?_ (by decide) (by decide));refine CC (bO (ai ha (ai hb af LH) hs pos pins s σ H _ I h) λus s1 z'=>?_) (aU hs) (by rw[aU LH];rfl);obtain⟨vs,H1,I1,r1,a,b,xs,ys,hv,hq,hr,rr⟩:=z';subst hv;obtain⟨u,u',rfl,ru,Of⟩:=uR r1
 cases(show u=Value.ref a from ru)
 cases(show u'=Value.ref b from Of)
 obtain⟨its,rv,pl,hz⟩:=I1.list hq;obtain⟨Nc,J5,QJ,QI⟩:=I1.list hr;refine Mu.yZ pl.isList QJ.isList λh' q1 q4=>?_;have I2:Inv X pins σ H1 {s1 with heap:=h'}:=I1.kept (t':=s1.toks) q4
 have la:a<s1.heap.objs.size:=by obtain⟨o,e,_⟩:=pl.isList;exact Ec e
 have lb:b<s1.heap.objs.size:=by obtain⟨o,e,_⟩:=QJ.isList;exact Ec e
 refine xv (s:={s1 with heap:=h'}) q1.hz ?_;refine⟨s1.heap.objs.size+4,[s1.heap.objs.size+4,s1.heap.objs.size+3,s1.heap.objs.size,s1.heap.objs.size+1,s1.heap.objs.size+2],_,wI X.K a b,H1,rfl,I2,wq (Mu.lL _ _ _ la lb),q1,λc hc=>?_,rr⟩
 have JN:s1.heap.objs.size<=c:=by
  rcases(by simpa using hc:c=s1.heap.objs.size+4\/c=s1.heap.objs.size+3\/c=s1.heap.objs.size\/c=s1.heap.objs.size+1\/c=s1.heap.objs.size+2) with q|q|q|q|q <;> rw[q]
  ·exact rL _ _
  ·exact rL _ _
  ·exact zC _
  ·exact rL _ _
  ·exact rL _ _
 exact I1.aha JN (I1.hok.fresh JN)
end L2
namespace Dcb
open PySem PyProof.Rows
end Dcb
namespace L2
open PySem PySem.Spec PyProof.Rows
end L2
namespace Dcc
open PySem PySem.Calls PyProof.Rows PySem.Spec
end Dcc
namespace L2
open PySem PySem.Spec PyProof.Rows PySem.W
end L2
namespace PySem.F
end PySem.F
namespace L2
open PySem PySem.Spec PyProof.Rows PySem.W
def amq:TE:=λ_ _ _=>False
def wu:TS:=λ_ _ _=>False
section
variable {X:Cx}{pins:List (Addr×Obj)}{σ:St}{A:Around}{H:Hp}{s:AL}{E:Bf}
theorem F6 {e:Expr}:PE X e amq:=λ_ _ _ _ _ _ h=>h.elim
theorem jz {st:Stmt}:PS X st wu:=λ_ _ _ _ _ _ h=>h.elim
theorem Eb {st:Ek}:qO X st wu:=λ_ _ _ _ _ _ h=>h.elim
end
end L2
namespace K74
open PySem L2 PySem.W Nm Srt
abbrev Jj:Stmt:=(aQ 42)
theorem D3:DK ["field","places","part","wishes","number","wish"] xA (aq Jj):=c9 (by decide +kernel)
structure LR (C CF:Addr)(p n:Int)(H:Hp)(x:V)(as:List Addr):Prop where
 e:∃l,x=.ref l/\H l=some (.lst (as.map V.ref))
 len:as.length<=200
 wi:∀a∈as,WX C CF p n H (.ref a) true
variable {C CF:Addr}
theorem LR.agU {p n:Int}{H H':Hp}{x:V}{as:List Addr}(h:LR C CF p n H x as)(k:eW H H'):LR C CF p n H' x as:=by
 obtain⟨l,e,hl⟩:=h.e;exact⟨⟨l,e,k _ _ hl λ_ _ z=>by cases z⟩,h.len,λa ha=>(h.wi a ha).agU k⟩
def FD (C CF:Addr):Sp:=λvs H Q E=>∃(fl Ju:Addr)(p n:Int)(part:String)(x:V)(as:List Addr),vs=[.ref fl,.int n,.str part,x]/\H fl=some (.ins CF Ju (cL p))/\LR C CF p n H x as/\∀H' D,aA H H'->H D=none->H' D=some (.lst (as.map V.ref))->Q (.ref D) H'
variable {P:Iy}{w:World}{K:PySem.W.Frag}{mg:xk}{base:Heap}
variable {f:Addr}{fd:qo}
theorem FZ {fw:Addr}{JT:qo}{tmw:Tok}(F:Dp K "checked_wishes" "checked_wishes" Jj f fd)(Js:mg "isinstance"=none)(Jy:mg "list"=none)(Jx:mg "enumerate"=none)(Jv:mg "len"=none)(W4:mg "MOST_WISHES"=some (.int 200 tmw))
 (FW:zG P w K mg base (aO P w) 2 fw JT wg (BV C CF))(bW:L2.ax K JT wg [])(mW:mg "is_wish"=some (.ref fw))(kW:keepIn K (.ref fw)=true):zG P w K mg base (aO P w) 3 f fd xA (FD C CF):=by
 refine F.okN D3 (λvs H Q E h=>?_) (λJw A outer s H vs Q E hr h=>?_)
 ·obtain⟨fl,Ju,p,n,part,x,as,rfl,_⟩:=h;rfl
 ·obtain⟨fl,Ju,p,n,part,x,as,rfl,hf,r,q⟩:=h;have LK:A8 2 _:=hr.mono (by decide)
  refine⟨_,(aj (bc (PW.pt (eA (bF (bK (aB aZ (by rfl) Js (by rfl) (@ai _ _ _ _ _ (pv 3) (@ai _ _ _ _ _ (dX (by rfl) Jy (by rfl) (show aI (.ty "list") (.type "list") from rfl)) af rfl) rfl)))) (dB (@aM _ _ _ _ _ _ _ _ uH (aB aK (by rfl) Jv A2 (@ai _ _ _ _ _ (pv 3) af rfl)) (cu (by rfl) W4 (show aI (.int 200) (.int 200 tmw) from⟨_,rfl⟩)) (aJ _))))) (ak jz) aE)
   (aj (dw (by passes_own) rfl (jS (pv 3) (by rfl) Jx) (cA rfl (aG (aC (i:=4) D3.nd rfl (Or.inl rfl)) (aG (aC (i:=5) D3.nd rfl (Or.inl rfl)) bX)))
   (ak (bc (bF (bK (ay FW LK (by rfl) mW kW bW .nil ae (@ai _ _ _ _ _ (pv 0) (@ai _ _ _ _ _ (pv 1) (@ai _ _ _ _ _ (pv 5) af rfl) rfl) rfl)))) (ak jz) aE)))
   (ak (az (cE dH (by rfl) Jy (by rfl) (@ai _ _ _ _ _ (pv 3) af rfl)))))),?_⟩
  obtain⟨l,rfl,hl⟩:=r.e;have hlen:=r.len
  have PN:∀i y,(as.map V.ref)[i]?=some y->WX C CF p n H y true:=λi y e=>by
   rw[wN] at e;obtain⟨a,ea,rfl⟩:=CU.mp e;exact r.wi a (v5 ea)
  rw[<-vW (as:=as) (f:=V.ref)] at hlen;generalize as.map V.ref=ys at hl PN hlen q;refine⟨_,rfl,.ref l,.ty "list",_,_,_,rfl,rfl,.of (.lst hl),rfl,_,rfl,bw ?_⟩;refine⟨_,rfl,l,ys,rfl,.inl (aV.of hl),_,_,rfl,rfl,_,rfl,?_⟩;rw[Fx (by omega:¬(200:Int)<(ys.length:Int))];refine bw ?_;refine⟨_,rfl,l,ys,rfl,aV.of hl,?_⟩;refine⟨λi m σ' H'=>m=ys.length-i/\i<=ys.length/\aA H H'/\∃o1 o2,σ'=[some (.ref fl),some (.int n),some (.str part),some (.ref l),o1,o2],⟨ys.length,by simp,Ag _,aA.refl _,none,none,rfl⟩,?_⟩;rintro i m σ' H' ⟨rfl,hi,sH,o1,o2,rfl⟩;have Ku:=sH _ _ hl
  by_cases JB:i<ys.length
  ·refine .inr ⟨⟨ys,ys[i],aV.of Ku,by simp[JB]⟩,λσ' H'=>i+1<=ys.length/\aA H H'/\∃o1 o2,σ'=[some (.ref fl),some (.int n),some (.str part),some (.ref l),o1,o2],?_,λv H2 hv=>?_⟩
   ·rintro σ' H' ⟨h1,h2,h3⟩;exact⟨ys.length-(i+1),by omega,rfl,h1,h2,h3⟩
   ·obtain⟨T,y,hy,hT,rfl,rfl⟩:=hv;have ey:=hy ys (aV.of Ku);have s2:aA H (upd H' T (.tup [.int i,y])):=sH.trans (ao hT);refine⟨T,_,rfl,bf.of ah,rfl,_,_,rfl,_,_,rfl,rfl,?_⟩;refine⟨_,rfl,_,rfl,_,rfl,fl,Ju,p,n,y,true,rfl,s2 _ _ hf,(PN i y ey).agU (.of s2),λH3 s3=>⟨_,rfl,bw ?_⟩⟩;exact⟨JB,λc u e=>s3 _ _ (s2 _ _ e),_,_,rfl⟩
  ·refine .inl ⟨⟨ys,aV.of Ku,by omega⟩,?_⟩;refine⟨_,rfl,l,ys,rfl,.inl (aV.of Ku),λD hD=>?_⟩;exact q _ D (sH.trans (ao hD)) (none_of sH hD) ah
abbrev IC:Stmt:=(aQ 43)
theorem Ho:DK hX hX (aq IC):=c9 (by decide +kernel)
def Fw:Sp:=λvs H Q E=>∃x y:V,vs=[x,y,.non]/\∀D,H D=none->Q (.ref D) (upd H D (.lst []))
theorem Gf (F:Dp K "checked_uppers" "checked_uppers" IC f fd):zG P w K mg base (aO P w) 1 f fd hX Fw:=by
 refine F.okN Ho (λvs H Q E h=>?_) (λJw A outer s H vs Q E hr h=>?_)
 ·obtain⟨x,y,rfl,_⟩:=h;rfl
 ·obtain⟨x,y,rfl,q⟩:=h;refine⟨_,aj (bc (@aM _ _ _ _ _ _ _ _ xI (pv 2) xR (aJ _)) (ak (az (@cg _ _ _ _ af))) aE) Eb,?_⟩;exact⟨_,rfl,rfl,_,rfl,bZ ⟨Ag _,λl hl=>q l hl⟩⟩
abbrev HB:Stmt:=aF (aQ 44) 0
theorem HH:DK zc zc (aq HB):=c9 (by decide +kernel)
structure lH (K:Frag)(mg:xk)(C:Addr):Prop where
 cl:Gb K C
 nF:dz K C "its_field"
 nP:dz K C "its_places"
 nN:dz K C "its_noughts"
 nU:dz K C "its_uppers"
 mgC:mg "System"=some (.ref C)
 isC:((clsIn K C).isSome&&typeIn K (.ref C)==some (.type "type"))=true
 ca:findIn K (.ref C) "__class__"=some (some (.builtin "object.__class__"))
 sp:specialIn K (.builtin "object.__class__") "__get__"=some (some (.builtin "getset_descriptor.__get__"))
 tk:takesIn K (.builtin "object.__class__")=some true
 ob:mroIn K C (.type "object")=some true
def ER (fl:Addr)(n:Int)(A B:Addr):List (Str×V):=[("its_field",.ref fl),("its_places",.int n),("its_noughts",.ref A),("its_uppers",.ref B)]
structure Rt (C CF:Addr)(p n:Int)(H:Hp)(x:V)(fl:Addr)(as:List Addr):Prop where
 f:∃Ju,H fl=some (.ins CF Ju (cL p))
 n1:1<=n
 n2:n<=60
 l:LR C CF p n H x as
theorem Rt.agU {p n:Int}{H H':Hp}{x:V}{fl:Addr}{as:List Addr}(h:Rt C CF p n H x fl as)(k:eW H H'):Rt C CF p n H' x fl as:=by
 obtain⟨Ju,hf⟩:=h.f;exact⟨⟨Ju,k _ _ hf λ_ _ z=>by injection z with _ _ z;exact absurd z (by simp[cL])⟩,h.n1,h.n2,h.l.agU k⟩
def AY (CS C CF:Addr):Sp:=λvs H Q E=>∃(s dx fl:Addr)(x:V)(p n:Int)(as:List Addr),vs=[.ref s,.ref fl,.int n,x,.non]/\H s=some (.ins CS dx []) /\
 Rt C CF p n H x fl as/\∀H' A B,SameBut s H H'->H A=none->H B=none->A≠B->H' s=some (.ins CS dx (ER fl n A B))->H' A=some (.lst (as.map V.ref))->H' B=some (.lst [])->Q .non H'
theorem ED {fc fu fw CS T:Addr}{LS QY JT:qo}{tmp:Tok}(F:HK K "__init__" "System.__init__" HB f fd T)(cS:lH K mg CS)(cF:CP K mg CF)(Js:mg "isinstance"=none)(Oz:mg "MOST_PLACES"=some (.int 60 tmp))
 (FW:zG P w K mg base (aO P w) 1 fw JT Fl A0)(bW:L2.ax K JT Fl [])(mW:mg "is_whole"=some (.ref fw))(kW:keepIn K (.ref fw)=true)
 (FC:zG P w K mg base (aO P w) 3 fc LS xA (FD C CF))(bC:L2.ax K LS xA [])(mC:mg "checked_wishes"=some (.ref fc))(kC:keepIn K (.ref fc)=true)
 (FU:zG P w K mg base (aO P w) 1 fu QY hX Fw)(bU:L2.ax K QY hX [])(mU:mg "checked_uppers"=some (.ref fu))(kU:keepIn K (.ref fu)=true):
 zG P w K mg base (aO P w) 5 f fd zc (AY CS C CF):=by
 refine F.okE HH (λvs H Q E h=>?_) (λJw A outer s H vs Q E hr h=>?_)
 ·obtain⟨s,dx,fl,x,p,n,as,rfl,_⟩:=h;rfl
 ·obtain⟨s0,dx,fl,x,p,n,as,rfl,hs,rt,q⟩:=h;obtain⟨Ju,hf⟩:=rt.f;have n1:=rt.n1;have n2:=rt.n2;have la:=rt.l;have JO:A8 3 _:=hr.mono (by decide);have JE:A8 1 _:=hr.mono (by decide)
  refine⟨_,(aj (bc (bF (bK (aB aZ (by rfl) Js (by rfl) (@ai _ _ _ _ _ (pv 1) (@ai _ _ _ _ _ (cu (by rfl) cF.mgC (show aI (.ref CF) (.ref CF) from rfl)) af rfl) rfl)))) (ak jz) aE)
   (aj (bc (PW.pt (eA (bF (bK (ay FW JE (by rfl) mW kW bW .nil ae (@ai _ _ _ _ _ (pv 2) af rfl)))) (dB (bF (qR iP iP ar (pv 2) (cu (by rfl) Oz (show aI (.int 60) (.int 60 tmp) from⟨_,rfl⟩))))))) (ak jz) aE)
   (aj (gN (pv 0) (pv 1) rfl)
   (aj (gN (pv 0) (pv 2) rfl)
   (aj (gN (pv 0) (ay FC JO (by rfl) mC kC bC .nil ae (@ai _ _ _ _ _ (pv 1) (@ai _ _ _ _ _ (pv 2) (@ai _ _ _ _ _ gf (@ai _ _ _ _ _ (pv 3) af rfl) rfl) rfl) rfl)) rfl)
   (ak (gN (pv 0) (ay FU JE (by rfl) mU kU bU .nil ae (@ai _ _ _ _ _ (pv 1) (@ai _ _ _ _ _ (pv 2) (@ai _ _ _ _ _ (pv 4) af rfl) rfl) rfl)) rfl))))))),?_⟩
  have ki:∀{H':Hp},SameBut s0 H H'->eW H H':=λz=>eW.but z hs;refine⟨_,rfl,.ref fl,.ref CF,_,_,_,rfl,rfl,cF.ty hf,cF.is,_,rfl,bw ?_⟩;refine⟨_,rfl,_,_,rfl,.int n,_,rfl,bw ?_⟩;refine⟨_,rfl,_,_,rfl,rfl,_,rfl,?_⟩;rw[sG n1];refine bZ ⟨_,_,rfl,rfl,_,rfl,?_⟩;rw[sG n2];refine bw ?_;refine⟨_,rfl,_,rfl,s0,CS,dx,_,rfl,hs,cS.cl,cS.nF,by decide,?_⟩;refine⟨_,rfl,_,rfl,s0,CS,dx,_,rfl,ah,cS.cl,cS.nP,(by show 1<1000;decide),?_⟩
  have s1:SameBut s0 H (upd (upd H s0 (.ins CS dx (cP "its_field" (.ref fl) []))) s0 (.ins CS dx (cP "its_places" (.int n) (cP "its_field" (.ref fl) [])))):=λb u e nb=>by rw[av nb,av nb];exact e
  have Ou:upd (upd H s0 (.ins CS dx (cP "its_field" (.ref fl) []))) s0 (.ins CS dx (cP "its_places" (.int n) (cP "its_field" (.ref fl) []))) s0=some (.ins CS dx [("its_field",.ref fl),("its_places",.int n)]):=ah;generalize upd (upd H s0 _) s0 _=H1 at s1 Ou
  have kf:∀{H':Hp},eW H H'->H' fl=some (.ins CF Ju (cL p)):=λk=>k _ _ hf λ_ _ z=>by injection z with _ _ z;exact absurd z (by simp[cL])
  refine⟨_,rfl,_,rfl,_,rfl,fl,Ju,p,n,"noughts",x,as,rfl,kf (ki s1),la.agU (ki s1),λH2 D s2 fD hD=>?_⟩;have Le:=s2 _ _ Ou
  have nD:D≠s0:=λz=>by rw[z,Ou] at fD;cases fD
  refine⟨_,rfl,s0,CS,dx,_,rfl,Le,cS.cl,cS.nN,(by show 2<1000;decide),?_⟩;have Om:upd H2 s0 (.ins CS dx (cP "its_noughts" (.ref D) [("its_field",.ref fl),("its_places",.int n)])) s0=some (.ins CS dx [("its_field",.ref fl),("its_places",.int n),("its_noughts",.ref D)]):=ah
  have s3:SameBut s0 H (upd H2 s0 (.ins CS dx (cP "its_noughts" (.ref D) [("its_field",.ref fl),("its_places",.int n)]))):=λb u e nb=>by rw[av nb];exact s2 _ _ (s1 b u e nb)
  have W5:upd H2 s0 (.ins CS dx (cP "its_noughts" (.ref D) [("its_field",.ref fl),("its_places",.int n)])) D=some (.lst (as.map V.ref)):=by rw[av nD];exact hD
  have fD0:H D=none:=by
   cases e:H D with
   |none=>rfl
   |some u=>rw[s1 D u e nD] at fD;cases fD
  generalize upd H2 s0 _=H3 at s3 Om W5;refine⟨_,rfl,_,rfl,_,rfl,_,_,rfl,λB fB=>?_⟩;have s4:=ao (o:=.lst []) fB;have hB:upd H3 B (.lst []) B=some (.lst []):=ah;generalize upd H3 B (.lst [])=H4 at s4 hB |-;have hs4:=s4 _ _ Om
  have nB:B≠s0:=λz=>by rw[z,Om] at fB;cases fB
  have nBD:D≠B:=λz=>by rw[<-z,W5] at fB;cases fB
  refine⟨_,rfl,s0,CS,dx,_,rfl,hs4,cS.cl,cS.nU,(by show 3<1000;decide),?_⟩;refine q _ D B (λb u e nb=>by rw[av nb];exact s4 _ _ (s3 b u e nb)) fD0 ?_ nBD ah (by rw[av nD];exact s4 _ _ W5) (by rw[av nB];exact hB)
  cases e:H B with
  |none=>rfl
  |some u=>rw[s3 B u e nB] at fB;cases fB
end K74
namespace L2
open PySem PySem.Spec PyProof.Rows PySem.W
end L2
namespace K74
open PySem L2 PySem.W Nm Srt
abbrev IL:Stmt:=aF (aQ 44) 3
abbrev Je:Stmt:=aF (aQ 44) 4
abbrev ID:Stmt:=aF (aQ 44) 5
abbrev IF:Stmt:=aF (aQ 44) 6
theorem HL:DK ["self"] ["self"] (aq IL):=c9 (by decide +kernel)
theorem HX:DK ["self"] ["self"] (aq Je):=c9 (by decide +kernel)
theorem HA:DK ["self"] ["self"] (aq ID):=c9 (by decide +kernel)
theorem Hg:DK ["self"] ["self"] (aq IF):=c9 (by decide +kernel)
structure rj (CS CF:Addr)(H:Hp)(s fl:Addr)(p n:Int)(as bs:List Addr):Prop where
 ex:∃dx Ju A B,H s=some (.ins CS dx (ER fl n A B))/\H fl=some (.ins CF Ju (cL p))/\H A=some (.lst (as.map V.ref))/\H B=some (.lst (bs.map V.ref))
 l1:as.length<=200
 l2:bs.length<=200
variable {CS CF s:Addr}{H H':Hp}{p:Int}
theorem rj.same {fl:Addr}{n:Int}{as bs:List Addr}(h:rj CS CF H s fl p n as bs)(k:aA H H'):rj CS CF H' s fl p n as bs:=by
 obtain⟨dx,Ju,A,B,h1,h2,h3,h4⟩:=h.ex;exact⟨⟨dx,Ju,A,B,k _ _ h1,k _ _ h2,k _ _ h3,k _ _ h4⟩,h.l1,h.l2⟩
variable {C dx:Addr}
theorem lH.ty {K:Frag}{mg:xk}(c:lH K mg C){p:Addr}{fs:List (Str×V)}(e:H p=some (.ins C dx fs)):Iq K H (.ref p) (.ref C):=.of (.ins e c.cl c.ca c.sp c.tk c.ob)
theorem lH.is {K:Frag}{mg:xk}(c:lH K mg C):kitOne K (.ref C) (.ref C)=some true:=by
 unfold kitOne;rw[zj (by simp)]
def Gm (CS CF:Addr):Sp:=λvs H Q _=>∃(s fl:Addr)(p n:Int)(as bs:List Addr),vs=[.ref s]/\rj CS CF H s fl p n as bs/\Q (.ref fl) H
def Dh (CS CF:Addr):Sp:=λvs H Q _=>∃(s fl:Addr)(p n:Int)(as bs:List Addr),vs=[.ref s]/\rj CS CF H s fl p n as bs/\Q (.int n) H
def CQ (CS CF:Addr):Sp:=λvs H Q _=>∃(s fl:Addr)(p n:Int)(as bs:List Addr),vs=[.ref s]/\rj CS CF H s fl p n as bs/\∀l,H l=none->Q (.ref l) (upd H l (.lst (as.map V.ref)))
def Fe (CS CF:Addr):Sp:=λvs H Q _=>∃(s fl:Addr)(p n:Int)(as bs:List Addr),vs=[.ref s]/\rj CS CF H s fl p n as bs/\∀l,H l=none->Q (.ref l) (upd H l (.lst (bs.map V.ref)))
variable {P:Iy}{w:World}{K:PySem.W.Frag}{mg:xk}{base:Heap}
variable {f:Addr}{fd:qo}
theorem Fo {CF:Addr}(F:Dp K "field" "System.field" IL f fd)(cS:lH K mg CS):zG P w K mg base (aO P w) 1 f fd ["self"] (Gm CS CF):=by
 refine F.okN HL (λvs H Q E h=>?_) (λJw A outer s H vs Q E hr h=>?_)
 ·obtain⟨s,fl,p,n,as,bs,rfl,_⟩:=h;rfl
 ·obtain⟨s,fl,p,n,as,bs,rfl,S,q⟩:=h;obtain⟨dx,Ju,A,B,h1,h2,h3,h4⟩:=S.ex;refine⟨_,(ak (az (bD (pv 0) rfl))),?_⟩;exact⟨_,rfl,s,CS,dx,_,_,rfl,h1,cS.cl,cS.nF,rfl,q⟩
theorem F8 {CF:Addr}(F:Dp K "places" "System.places" Je f fd)(cS:lH K mg CS):zG P w K mg base (aO P w) 1 f fd ["self"] (Dh CS CF):=by
 refine F.okN HX (λvs H Q E h=>?_) (λJw A outer s H vs Q E hr h=>?_)
 ·obtain⟨s,fl,p,n,as,bs,rfl,_⟩:=h;rfl
 ·obtain⟨s,fl,p,n,as,bs,rfl,S,q⟩:=h;obtain⟨dx,Ju,A,B,h1,h2,h3,h4⟩:=S.ex;refine⟨_,(ak (az (bD (pv 0) rfl))),?_⟩;exact⟨_,rfl,s,CS,dx,_,_,rfl,h1,cS.cl,cS.nP,rfl,q⟩
theorem EA {CF:Addr}(F:Dp K "noughts" "System.noughts" ID f fd)(cS:lH K mg CS)(Jy:mg "list"=none):zG P w K mg base (aO P w) 1 f fd ["self"] (CQ CS CF):=by
 refine F.okN HA (λvs H Q E h=>?_) (λJw A outer s H vs Q E hr h=>?_)
 ·obtain⟨s,fl,p,n,as,bs,rfl,_⟩:=h;rfl
 ·obtain⟨s,fl,p,n,as,bs,rfl,S,q⟩:=h;obtain⟨dx,Ju,A,B,h1,h2,h3,h4⟩:=S.ex;refine⟨_,(ak (az (cE dH (by rfl) Jy (by rfl) (@ai _ _ _ _ _ (bD (pv 0) rfl) af rfl)))),?_⟩;exact⟨_,rfl,s,CS,dx,_,_,rfl,h1,cS.cl,cS.nN,rfl,A,_,rfl,.inl (aV.of h3),q⟩
theorem Fq {CF:Addr}(F:Dp K "uppers" "System.uppers" IF f fd)(cS:lH K mg CS)(Jy:mg "list"=none):zG P w K mg base (aO P w) 1 f fd ["self"] (Fe CS CF):=by
 refine F.okN Hg (λvs H Q E h=>?_) (λJw A outer s H vs Q E hr h=>?_)
 ·obtain⟨s,fl,p,n,as,bs,rfl,_⟩:=h;rfl
 ·obtain⟨s,fl,p,n,as,bs,rfl,S,q⟩:=h;obtain⟨dx,Ju,A,B,h1,h2,h3,h4⟩:=S.ex;refine⟨_,(ak (az (cE dH (by rfl) Jy (by rfl) (@ai _ _ _ _ _ (bD (pv 0) rfl) af rfl)))),?_⟩;exact⟨_,rfl,s,CS,dx,_,_,rfl,h1,cS.cl,cS.nU,rfl,B,_,rfl,.inl (aV.of h4),q⟩
abbrev IQ:Stmt:=(aQ 47)
theorem Iu:DK ["field"] ["field"] (aq IQ):=c9 (by decide +kernel)
theorem uD:∀{ks:List Int},ks.Pairwise (· < ·)->jB (ks.map V.int)=true
 |[],_=>rfl
 |[k],_=>rfl
 |a::b::ks,h=>by
  obtain⟨h1,h2⟩:=Jq.mp h;have ih:=uD h2;unfold jB at ih |-;have e:((a::b::ks).map V.int).zip (((a::b::ks).map V.int).drop 1)=(V.int a,V.int b):: (((b::ks).map V.int).zip (((b::ks).map V.int).drop 1)):=rfl;rw[e,vS,ih,Bool.and_true];exact sG (h1 b Ij)
variable {ks:List Int}
theorem sX (h:ks.Pairwise (· < ·))(hb:∀k∈ks,0<=k/\k<60)(hl:ks.length<4000):Ez ks:=by
 refine⟨?_,hl⟩;show((ks.map V.int).all cZ&&jB (ks.map V.int))=true;rw[uD h,Bool.and_true,vn,wH];intro k hk;obtain⟨h0,h1⟩:=hb k hk;show(decide (0<=k)&&decide (k<60))=true;rw[sG h0,sG h1];rfl
def GB (CF:Addr):Sp:=λvs H Q _=>∃(fl Ju:Addr)(p:Int),vs=[.ref fl]/\H fl=some (.ins CF Ju (cL p))/\Q .non H
variable {Ju:Addr}{k:Int}
theorem qv {NN:Addr}{Q:VK}{E:XK}{fl:Addr}(hf:H fl=some (.ins CF Ju (cL p)))(hp:FP p)(q:∀a,H a=none->Q (.ref a) (upd H a (bo (ba p k).1 (ba p k).2))):ir CF NN [.ref fl,.int k,.int 1] H Q E:=by
 refine⟨fl,Ju,p,.int k,.int 1,"int","int",rfl,hf,.int k,.int 1,λt b e1 e2=>?_,λz=>by cases z⟩
 cases e1
 cases e2
 refine⟨fl,Ju,p,k,1,rfl,hf,hp,(by show(1:Int).natAbs<2^9000;exact HY (by decide:(1:Int).natAbs<2^1) (Ht (by decide) (by decide))),λ_ z=>absurd z (by decide),λz _ a ha=>?_,λz y=>?_,λz _ u u0 u1 u2 a ha=>?_⟩
 ·subst z;exact q a ha
 ·have:=(hp.two z).2.1;rw[Il (by decide) (by omega)] at y
  cases y
 ·rw[D1,Il u0 u1] at u2;subst u2;rw[D1];have:=q a ha;rw[cp z] at this;exact this
theorem nM {o u:HO}(h1:H s=none)(h2:H dx=none)(ne:dx≠s)(k:SameBut s (upd (upd H dx o) s u) H'):aA H H':=λb v e=>by
 have b1:b≠s:=au e h1;have b2:b≠dx:=au e h2;exact k b v (by rw[av b1,av b2];exact e) b1
theorem xN {Q:Hp->Prop}{E:XK}{fl l:Addr}{ys:List V}{ts:List Tm}(hf:H fl=some (.ins CF Ju (cL p)))(hp:FP p)(hl:H l=some (.lst ys))(ht:aS H ys ts)(G:Bd p ts)(P:∀t∈ts,Ez t.1)
 {x:Addr}(h1:H x=none)(h2:H dx=none)(ne:dx≠x)(q:∀H',aA H H'->DO C CF H' x p (tg p ts)->Q H'):
 hV C CF [.ref x,.ref fl,.ref l] (upd (upd H dx (.own x)) x (.ins C dx [])) (λv H2=>v=.non/\Q H2) E:=by
 have hS:aA H (upd (upd H dx (.own x)) x (.ins C dx [])):=(ao h2).trans (ao (by rw[av (Jm ne)];exact h1));refine⟨x,dx,fl,Ju,p,.ref l,ts,rfl,ah,hS _ _ hf,hp,.inr ⟨l,ys,rfl,hS _ _ hl,aS.keep ht (aD.of hS)⟩,G,P,λH' D zs k _ hs hD hz=>⟨rfl,?_⟩⟩;have sH:=nM h1 h2 ne k;exact q H' sH ⟨dx,fl,Ju,D,zs,hs,sH _ _ hf,hD,hz⟩
theorem ui (hp:FP p)(hk:k.natAbs<128):Gn p 8 (ba p k):=by
 refine⟨dE hp k,?_,?_⟩
 ·by_cases z:p=0
  ·subst z;rw[cT];show k.natAbs<2^8;omega
  ·have:=hp.two z;rw[cp z];have h1:=jN k z;have h2:=oH k (show 0<p by omega);show(k%p).natAbs<2^8;omega
 ·by_cases z:p=0
  ·subst z;rw[cT];show(1:Int).natAbs<2^8;decide
  ·rw[cp z];show(1:Int).natAbs<2^8;decide
theorem E8 (F:Dp K "checked_field" "checked_field" IQ f fd)(cF:CP K mg CF)(Kf:mg "isinstance"=none):zG P w K mg base (aO P w) 1 f fd ["field"] (GB CF):=by
 refine F.okN Iu (λvs H Q E h=>?_) (λJw A outer s H vs Q E hr h=>?_)
 ·obtain⟨fl,Ju,p,rfl,_⟩:=h;rfl
 ·obtain⟨fl,Ju,p,rfl,hf,q⟩:=h;refine⟨_,(ak (bc (bF (bK (aB aZ (by rfl) Kf (by rfl) (ck (pv 0) (ck (cu (by rfl) cF.mgC (show aI (.ref CF) (.ref CF) from rfl)) af))))) (ak jz) aE)),?_⟩;exact⟨_,rfl,.ref fl,.ref CF,_,_,_,rfl,rfl,cF.ty hf,cF.is,_,rfl,bw q⟩
abbrev rD:Stmt:=aF (aQ 37) 13
def eZ (bs:List Int)(ks:List Int):Bool:=(ks.filter λk=>bs.getD k.toNat 0==0).isEmpty
def b9 (p:Int)(bs:List Int)(a:Int×Int)(t:Tm):Int×Int:=if eZ bs t.1=true then da p a t.2 else a
def cq (p:Int)(bs:List Int)(ts:List Tm):Int×Int:=ts.foldl (b9 p bs) (0,1)
theorem ij (p:Int)(bs:List Int)(ts:List Tm)(t:Tm):cq p bs (ts++[t])=b9 p bs (cq p bs ts) t:=by
 unfold cq;rw[List.foldl_append];rfl
theorem kR {m:Nat}{bs:List Int}(hp:FP p):∀(n:Nat)(ts:List Tm),ts.length=n->(∀t∈ts,Gn p m t.2)->Gn p ((m+1)*n+7) (cq p bs ts)
 |0,ts,hn,_=>by
  have:ts=[]:=mn.mp hn;subst this;show Gn p ((m+1)*0+7) (0,1);refine⟨⟨(by show(0:Int)<1;decide),(by show Int.gcd 0 1=1;decide),λz=>⟨rfl,(by show(0:Int)<=0;decide),?_⟩⟩,?_,?_⟩
  ·have:=(hp.two z).2.1;show(0:Int)<p;omega
  ·show(0:Int).natAbs<2^((m+1)*0+7);rw[Nat.mul_zero];decide
  ·show(1:Int).natAbs<2^((m+1)*0+7);rw[Nat.mul_zero];decide
 |n+1,ts,hn,h=>by
  obtain⟨MN,t,rfl⟩:∃MN t,ts=MN++[t]:=by
   have Kj:ts≠[]:=by intro z;rw[z] at hn;cases hn
   exact⟨ts.dropLast,ts.getLast Kj,(wM Kj).symm⟩
  have hl:MN.length=n:=by simpa using hn
  have ih:=kR (bs:=bs) hp n MN hl λt ht=>h t (Jp _ ht);have gt:=h t (GZ _ (by simp));rw[ij];have e2:(m+1)*(n+1)=(m+1)*n+(m+1):=Nat.mul_succ _ _;unfold b9
  split
  ·have g:=mO hp ih gt (by omega);exact⟨g.1,g.2.1.mono (by omega),g.2.2.mono (by omega)⟩
  ·exact⟨ih.1,ih.2.1.mono (by omega),ih.2.2.mono (by omega)⟩
theorem DX {bs:List Int}(h0:0<=k)(h1:k<(bs.length:Int)):pQ (bs.map V.int) k=some (.int (bs.getD k.toNat 0)):=by
 unfold pQ wW;rw[vW,zj h0,zj h1];show(bs.map V.int)[k.toNat]?=_
 have hk:k.toNat<bs.length:=by omega
 rw[wN,Ff hk,Ae,Ff hk];rfl
theorem ip {bs:List Int}:eZ bs ks=true ↔ ∀k∈ks,bs.getD k.toNat 0≠0:=by
 unfold eZ;rw[List.isEmpty_iff,List.filter_eq_nil_iff];constructor
 ·intro h k hk z;exact h k hk (by rw[z];rfl)
 ·intro h k hk z;exact h k hk (eq_of_beq z)
variable {ts:List Tm}
section
variable {p:Int}{R:Type} [Lean.Grind.CommRing R]{v:Int×Int->R}
def fl (bs:List Int)(ks:List Int):R:=if eZ bs ks=true then 1 else 0
theorem f9 (V:Val p R v)(hp:0<=p){bs:List Int}:∀{ts:List Tm}{a:Int×Int},bY p ts->Num p a.1 a.2->v (ts.foldl (b9 p bs) a)=v a+S v ts (fl bs)/\Num p (ts.foldl (b9 p bs) a).1 (ts.foldl (b9 p bs) a).2
 |[],a,_,ha=>⟨by show v a=v a+0;grind,ha⟩
 |t::ts,a,h,ha=>by
  have ht:=h t Ij;have h2:bY p ts:=λe he=>h e (Er _ he);show v (ts.foldl (b9 p bs) (b9 p bs a t))=v a+(v t.2*fl bs t.1+S v ts (fl bs))/\Num p (ts.foldl (b9 p bs) (b9 p bs a t)).1 (ts.foldl (b9 p bs) (b9 p bs a t)).2;unfold b9 fl
  by_cases f:eZ bs t.1=true
  ·rw[zj f,zj f];obtain⟨e,n⟩:=f9 V hp (bs:=bs) h2 (p5 hp ha ht);refine⟨?_,n⟩;have ev:v (da p a t.2)=v a+v t.2:=(V.set ha ht).1 rfl rfl;have e:v (ts.foldl (b9 p bs) (da p a t.2))=_:=e;unfold b9 fl at e;rw[e,ev];grind
  ·rw[qM f,qM f];obtain⟨e,n⟩:=f9 V hp (bs:=bs) h2 ha;refine⟨?_,n⟩;have e:v (ts.foldl (b9 p bs) a)=_:=e;unfold b9 fl at e;rw[e];grind
theorem gW {p:Int}(hp:FP p):Num p 0 1:=⟨by decide,by decide,λz=>⟨rfl,by decide,by have:=(hp.two z).2.1;omega⟩⟩
theorem vI (V:Val p R v)(hp:FP p){bs:List Int}(h:bY p ts):v (cq p bs ts)=S v ts (fl bs):=by
 have:=(f9 V hp.nn (bs:=bs) h (a:=(0,1)) (gW hp)).1;rw[V.zero] at this;show v (ts.foldl (b9 p bs) (0,1))=_;rw[this];grind
end
theorem wB (hp:FP p){bs:List Int}(h:bY p ts):Num p (cq p bs ts).1 (cq p bs ts).2:=by
 obtain⟨R,i,v,V⟩:=hp.v;exact(f9 V hp.nn (bs:=bs) h (a:=(0,1)) (gW hp)).2
def Jg (ks:List Int):Prop:=ks.Pairwise (· < ·)/\(∀k∈ks,0<=k)/\ks.length<64
theorem oO:∀{ks:List Int}{k:Int}(d:Int),ks.Pairwise (· < ·)->k∈ks->k<=ks.getLastD d
 |[],_,_,_,h=>nomatch h
 |[a],k,d,_,h=>by
  have:k=a:=by simpa using h
  subst this;exact oU _
 |a::b::r,k,d,hp,h=>by
  obtain⟨h1,h2⟩:=Jq.mp hp;have e:(a::b::r).getLastD d=(b::r).getLastD a:=rfl;rw[e]
  rcases BN.mp h with rfl|h
  ·have:=oO k h2 (Ij (a:=b) (l:=r));have:=h1 b Ij;omega
  ·exact oO a h2 h
theorem xt {t:Tm}(ht:t∈ts)(hp:t.1.Pairwise (· < ·))(hk:k∈t.1):k<eO ts:=by
 have ne:t.1≠[]:=by intro z;rw[z] at hk;cases hk
 have hm:rR t∈(ts.filter λt=>!t.1.isEmpty).map rR:=Hy.mpr ⟨t,Jn.mpr ⟨ht,by
  cases q:t.1 with
  |nil=>exact absurd q ne
  |cons a r=>rfl⟩,rfl⟩
 obtain⟨b,e,_,hb⟩:=nW (ns:=(ts.filter λt=>!t.1.isEmpty).map rR) (by intro z;rw[z] at hm;cases hm);unfold eO;rw[e];have h1:=hb _ hm;have h2:=oO 0 hp hk;unfold rR at h1;show k<b;omega
theorem zE {n:Int}(hn:0<=n)(h:∀t∈ts,∀k∈t.1,k<n):eO ts<=n:=by
 unfold eO
 by_cases ne:(ts.filter λt=>!t.1.isEmpty).map rR=[]
 ·rw[ne];exact hn
 ·obtain⟨b,e,b1,b2⟩:=nW ne;rw[e];show b<=n;obtain⟨t,ht,rfl⟩:=Hy.mp b1;obtain⟨Lx,Mv⟩:=Jn.mp ht
  have ne1:t.1≠[]:=by intro z;rw[z] at Mv;cases Mv
  have:t.1.getLastD 0∈t.1:=by
   rw[vx,AE ne1];exact List.getLast_mem ne1
  have:=h t Lx _ this;unfold rR;omega
structure Wb (ts:List Tm)(bs:List Int):Prop where
 l:bs.length<64
 b:∀b∈bs,0<=b/\b<=1
 r:eO ts<=bs.length
structure WL (p:Int)(bs:List Int)(ts:List Tm):Prop where
 len:ts.length<4000
 prw:∀t∈ts,Jg t.1
 steps:∀i,i<=ts.length->Gn p 4000 (cq p bs (ts.take i))
 num:∀t∈ts,Gn p 4000 t.2
theorem WL.of {m:Nat}{bs:List Int}(hp:FP p)(h:∀t∈ts,Gn p m t.2)(w:∀t∈ts,Jg t.1)(l:ts.length<4000)(b:(m+1)*ts.length+7<=4000)(hm:m<=4000):WL p bs ts :=
 ⟨l,w,λi hi=>by
  have g:=kR (m:=m) (bs:=bs) hp i (ts.take i) (by rw[rh];omega) λt ht=>h t (vZ ht);have le:(m+1)*i+7<=4000:=EW (Nat.add_le_add_right (C6 _ hi) _) b
  exact⟨g.1,g.2.1.mono le,g.2.2.mono le⟩,λt ht=>⟨(h t ht).1,(h t ht).2.1.mono hm,(h t ht).2.2.mono hm⟩⟩
theorem Wb.all {ts:List Tm}{bs:List Int}(h:Wb ts bs):ur (some (bs.map V.int))=true:=by
 show(bs.map V.int).all oZ=true;rw[wH];intro y hy;obtain⟨b,hb,rfl⟩:=Hy.mp hy;have:=h.b b hb;show(decide (0<=b)&&decide (b<=1))=true;simp[this]
structure Dl (C CF:Addr)(H:Hp)(s dx fl Ju D:Addr)(p:Int)(zs:List V)(ts:List Tm):Prop where
 hs:H s=some (.ins C dx (ow fl D))
 hf:H fl=some (.ins CF Ju (cL p))
 hp:FP p
 hD:H D=some (.lst zs)
 hz:aS H zs ts
theorem Dl.same {fl D:Addr}{zs:List V}(h:Dl C CF H s dx fl Ju D p zs ts)(e:aA H H'):Dl C CF H' s dx fl Ju D p zs ts :=
 ⟨e _ _ h.hs,e _ _ h.hf,h.hp,e _ _ h.hD,aS.keep h.hz (aD.of e)⟩
def uk (C CF:Addr):Sp:=λvs H Q _=>∃(s a:Addr)(p:Int)(ts:List Tm)(bs:List Int),vs=[.ref s,.ref a]/\DO C CF H s p ts/\FP p/\WL p bs ts/\H a=some (.tup (bs.map V.int))/\Wb ts bs /\
 ∀H' a,aA H H'->H' a=some (bo (cq p bs ts).1 (cq p bs ts).2)->Q (.ref a) H'
theorem iL:DK ["self","filling","total","product","number"] v7 (aq rD):=c9 (by decide +kernel)
theorem uC:∀ns:List Int,Paired Gk (ns.map V.int) (ns.map λn=>n != 0)
 |[]=>.nil
 |b::bs=>.cons rfl (uC bs)
theorem sI {bs:List Int}:((ks.map λk=>bs.getD k.toNat 0).map λn=>n != 0).all id=eZ bs ks:=by
 unfold eZ;rw[Eg,vn]
 induction ks with
 |nil=>rfl
 |cons k r ih =>
  rw[vS,ih];show((bs.getD k.toNat 0 != 0)&&_)=_
  by_cases z:bs.getD k.toNat 0=0
  ·rw[Fh (by show(bs.getD k.toNat 0==0)=true;rw[z];rfl)];rw[z];rfl
  ·rw[List.filter_cons_of_neg (by show ¬(bs.getD k.toNat 0==0)=true;intro y;exact z (eq_of_beq y))]
   have:(bs.getD k.toNat 0 != 0)=true:=by simpa using z
   rw[this,Hv]
theorem zw {NF NN fb fr fm fp:Addr}{Lg LZ J9 Ke:qo}{tM:Tok}(F:Dp K "worth" "Sum.worth" rD f fd)(c:DB K mg C)(cF:CP K mg CF)(Jv:mg "len"=none)(JL:mg "all"=none)
 (FB:zG P w K mg base (aO P w) 2 fb Lg Fl CM)(bB:L2.ax K Lg Fl [])(mB:mg "is_row_of_bits"=some (.ref fb))(kB:keepIn K (.ref fb)=true)
 (FR:zG P w K mg base (aO P w) 1 fr LZ ["self"] (pC C))(bR:L2.ax K LZ ["self"] [])(mR:L2.Meth K C "reach" fr)
 (FM:zG P w K mg base (aO P w) 4 fm J9 vv (ir CF NN))(bM:L2.ax K J9 vv [.int 1 tM])(mM:L2.Meth K CF "made" fm)
 (FP:zG P w K mg base (aO P w) 4 fp Ke Gw (lY CF iH))(bP:L2.ax K Ke Gw [])(mP:L2.Meth K CF "plus" fp)
 (mN:mg "NoFilling"=some (.ref NF))(qN:jb K NF zK lJ=true):zG P w K mg base (aO P w) 5 f fd v7 (uk C CF):=by
 refine F.okE iL (λvs H Q E h=>?_) (λJw A outer s H vs Q E hr h=>?_)
 ·obtain⟨s,a,p,ts,bs,rfl,_⟩:=h;rfl
 ·obtain⟨s0,a,p,ts,bs,rfl,⟨dx,fl,Ju,D,zs,S1,S2,S3,S4⟩,hp,L,ha,hb,q⟩:=h;have S:Dl C CF H s0 dx fl Ju D p zs ts:=⟨S1,S2,hp,S3,S4⟩;clear S1 S2 S3 S4;have JO:A8 4 _:=hr.mono (by decide);have JR:A8 2 _:=hr.mono (by decide);have JE:A8 1 _:=hr.mono (by decide);have JB:=L.len;have hG:=L.prw;have hrc:=hb.r
  refine⟨_,(aj (bc (PW.pt (eA (bF (bK (ay FB JR (by rfl) mB kB bB .nil ae (@ai _ _ _ _ _ (pv 1) af rfl)))) (dB (@aM _ _ _ _ _ _ _ _ jH (aB aK (by rfl) Jv A2 (@ai _ _ _ _ _ (pv 1) af rfl)) (cj (pv 0) c.cl mR FR JE bR .nil ae) (aJ _))))) (ak (dY DI qN rfl cO (by rfl) mN (@ai _ _ _ _ _ gf af rfl))) aE)
   (aj (@aW _ _ 2 _ _ _ _ iL.nd rfl (Or.inl rfl) (bH (dvs:=[.int 1]) (bD (pv 0) rfl) cF.cl mM FM JO bM (.cons ⟨_,rfl⟩ .nil) ae (@ai _ _ _ _ _ ar af rfl)) rfl (Or.inl rfl))
   (qO.nox (aj (dw wk rfl (cy (bD (pv 0) rfl)) (cA rfl (aG (aC (i:=3) iL.nd rfl (Or.inl rfl)) (aG (aC (i:=4) iL.nd rfl (Or.inl rfl)) bX)))
   (ak (bc (bK (aB (gG rfl) (by rfl) JL (by rfl) (@ai _ _ _ _ _ (dm (N:=["place","filling"]) (nl:=1) (js:=[1]) (osc:=aq rD) ⟨rfl,rfl,by decide +kernel,by decide +kernel,by decide +kernel,rfl,(.cons ⟨rfl,by decide +kernel⟩ .nil),by decide +kernel⟩ rfl
    (rV (pv 3))
    (λC fp s H=>aC (i:=0) (by show(["place","filling"]:p3).Nodup;decide +kernel) rfl (Or.inl rfl) (Or.inr rfl))
    (λC fp s H=>dk)
    (λC fp s H=>(@a9 _ _ _ _ _ _ _ (show B5 _ (vM K) from br) (pv 1) (pv 0) (λ_ _=>rfl)))) af rfl))) (ak (@aW _ _ 2 _ _ _ _ iL.nd rfl (Or.inl rfl) (bH (bD (pv 0) rfl) cF.cl mP FP JO bP .nil ae (@ai _ _ _ _ _ (pv 2) (@ai _ _ _ _ _ (pv 4) af rfl) rfl)) rfl (Or.inl rfl))) aE)))
   (ak (az (pv 2))))))),?_⟩
  refine⟨_,rfl,.ref a,some (bs.map V.int),rfl,.tup ha (by rw[vW];have:=hb.l;omega) (λy hy=>?_),λH1 s1=>⟨_,rfl,?_⟩⟩
  ·obtain⟨b,_,rfl⟩:=Hy.mp hy;exact⟨_,.int b⟩
  rw[hb.all];refine bw ?_;have KC:=s1 _ _ ha;have S1:=S.same s1;refine⟨_,rfl,a,bs.map V.int,rfl,.inr (bf.of KC),_,rfl,s0,dx,_,rfl,S1.hs,rfl,s0,dx,fl,D,zs,ts,rfl,S1.hs,S1.hD,S1.hz,by omega,λt ht=>by have:=(hG t ht).2.2;omega,λH2 s2=>?_⟩;refine⟨_,_,rfl,rfl,_,rfl,?_⟩;have Ks:=s1.trans s2;refine dO (λh=>?_) (λh=>?_)
  ·have h':(((bs.map V.int).length:Nat):Int)<eO ts:=by simpa using h
   rw[vW] at h';omega
  ·have h5:=hb.r;have q':=q;have gg:=L.steps;have gT:=L.num;have S2:=S.same Ks;have WU:=Ks _ _ ha;have hlen:=S.hz.length;refine⟨_,rfl,s0,C,dx,_,_,rfl,S2.hs,c.cl,c.nF,rfl,fl,Ju,_,rfl,S2.hf,rfl,qv S2.hf S.hp λa0 QL=>?_⟩;rw[xq];have s3:aA H (upd H2 a0 (bo 0 1)):=Ks.trans (ao QL);have S3:=S.same s3;refine⟨_,rfl,s0,C,dx,_,_,rfl,S3.hs,c.cl,c.nT,rfl,D,rfl,⟨zs,aV.of S3.hD⟩,?_⟩
   refine fJ (xs:=zs) (λi σ' H'=>aA H H'/\∃aw o3 o4,H' aw=some (bo (cq p bs (ts.take i)).1 (cq p bs (ts.take i)).2)/\σ'=[some (.ref s0),some (.ref a),some (.ref aw),o3,o4])
    ⟨s3,a0,none,none,ah,rfl⟩ (λi σ' H' _ h=>aV.of (h.1 _ _ S.hD)) (λi y σ' H' hy h=>?_) (λσ' H' h=>?_)
   ·obtain⟨sH,aw,o3,o4,hw,rfl⟩:=h;obtain⟨t,et,tr⟩:=aY S.hz hy;obtain⟨at_,pr,nu,rfl,LX,JQ,JZ⟩:=tr.keep (aD.of sH);have tm:=v5 et;obtain⟨pw,k0,kl⟩:=hG t tm;have gt:=gT t tm
    have ilt:i<ts.length:=by
     rcases yt i ts.length with z|z
     ·exact z
     ·rw[List.getElem?_eq_none z] at et;cases et
    have Kl:ts.take (i+1)=ts.take i++[t]:=by rw[vQ,et];rfl
    have SH:=S.same sH;have haH:=sH _ _ ha;refine⟨at_,_,rfl,bf.of LX,rfl,_,_,rfl,_,_,rfl,rfl,?_⟩;refine⟨_,rfl,pr,rfl,⟨_,bf.of JQ⟩,?_⟩;refine ahY (xs:=t.1.map V.int) (λj us H3=>H'=H3/\us=((t.1.take j).map λk=>bs.getD k.toNat 0).map V.int) ⟨rfl,rfl⟩ (λj us H3 hj h=>?_) (λj x us H3 N hj hx h k=>?_) (λus H3 h=>?_)
    ·obtain⟨rfl,rfl⟩:=h;exact⟨Gv (by simp;omega) (wG kl (by decide)),bf.of JQ⟩
    ·obtain⟨rfl,rfl⟩:=h
     have Od:j<t.1.length:=by simpa using hj
     have ex:t.1[j]?=some t.1[j]:=by simp[Od]
     have ev:x=.int t.1[j]:=by
      rw[wN,ex] at hx;exact(Option.some.inj hx).symm
     subst ev;have km:=zP Od;have k1:=xt tm pw km
     have ek:t.1.take (j+1)=t.1.take j++[t.1[j]]:=by rw[vQ,ex];rfl
     refine oP ⟨_,rfl,_,rfl,a,_,_,_,rfl,rfl,bf.of haH,DX (k0 _ km) (by omega),k _ _ ⟨rfl,?_⟩⟩;rw[ek,Hs,Hs];rfl
    ·obtain⟨rfl,rfl⟩:=h;intro L hL;rw[vW,vt];have sL:aA H' (upd H' L (.lst ((t.1.map λk=>bs.getD k.toNat 0).map V.int))):=ao hL;refine⟨L,_,_,rfl,aV.of ah,uC _,_,rfl,?_⟩;rw[sI];have gw:=gg i (xa ilt);have SL:=SH.same sL
     cases QZ:eZ bs t.1 with
     |true =>
      have ew:b9 p bs (cq p bs (ts.take i)) t=da p (cq p bs (ts.take i)) t.2:=by unfold b9;rw[zj QZ]
      refine bZ ⟨_,rfl,s0,C,dx,_,_,rfl,SL.hs,c.cl,c.nF,rfl,fl,Ju,_,rfl,SL.hf,rfl,_,rfl,_,rfl,fl,Ju,aw,nu,p,(cq p bs (ts.take i)).1,(cq p bs (ts.take i)).2,t.2.1,t.2.2,rfl,SL.hf,S.hp,sL _ _ hw,sL _ _ JZ,gw.2.1,gw.2.2,gt.2.1,gt.2.2,gw.ne,gt.ne,λan han=>?_⟩;refine⟨sH.trans (sL.trans (ao han)),an,_,_,?_,rfl⟩;rw[Kl,ij,ew];exact ah
     |false =>
      have ew:b9 p bs (cq p bs (ts.take i)) t=cq p bs (ts.take i):=by unfold b9;rw[qM (by rw[QZ];decide)]
      refine bw ⟨sH.trans sL,aw,_,_,?_,rfl⟩;rw[Kl,ij,ew];exact sL _ _ hw
   ·obtain⟨sH,aw,o3,o4,hw,rfl⟩:=h;rw[hlen,vt] at hw;exact⟨_,rfl,q' _ aw sH hw⟩
end K74
namespace L2
open PySem PySem.Spec PyProof.Rows
section
variable {prog:Iy}{w:World}{A:Around}{E:Bf}{s:AL}
theorem zt {t b:Addr}{ws:yX}{Q:Bf}(ht:IsTup s.heap t #[])(hb:IsTup s.heap b ws.toArray)(h:Q (.ref b) s):wpAny (model prog w) A (binaryOp .Add (.ref t) (.ref b)) Q E s:=by
 obtain⟨⟨cls,dd,data,sl⟩,ho,hc,n,hd⟩:=id ht;obtain⟨⟨Qo,M6,data2,LB⟩,Lo,Lw,n2,hd2⟩:=id hb;simp only at hc hd Lw hd2;subst hc hd Lw hd2
 exact concat_meets ⟨_,ho,rfl⟩ ⟨_,Lo,rfl⟩ rX seq_tuple_add v8 Gx (xw _ _)
  (tuple_addW0 t b #[] ws.toArray n n2 dd M6 sl LB (by rfl)) ⟨ho,Lo,h⟩
end
section
variable {X:Cx}
def BX (K:PySem.W.Frag):R2:=λx y H Q=>∃a b xs ys,x=.ref a/\y=.ref b/\bf K H a xs/\bf K H b ys/\xs.length+ys.length<=sizeLine /\
 (xs=[]->Q (.ref b) H)/\(xs≠[]->ys=[]->Q (.ref a) H)/\(xs≠[]->ys≠[]->∀p,H p=none->Q (.ref p) (upd H p (.tup (xs++ys))))
theorem BM:eU X (binaryOp .Add) (BX X.K):=by
 intro pins s σ H x y v u Q I rx ry h;obtain⟨a,b,xs,ys,rfl,rfl,ha,hb,hz,q0,q1,q2⟩:=h
 by_cases hx:xs=[]
 ·cases rx
  cases ry
  obtain⟨its,r1,p1,_⟩:=I.tuple ha;obtain⟨JA,r2,p2,_⟩:=I.tuple hb;have:its=[]:=r1.ahi.mpr hx;subst this;exact zt p1 p2 ⟨.ref b,H,I,rfl,q0 hx⟩
 ·exact uv pins s σ H _ _ v u Q I rx ry ⟨a,b,xs,ys,rfl,rfl,ha,hb,hx,hz,q1 hx,q2 hx⟩
end
end L2
namespace K74
open PySem L2 PySem.W Nm Srt
abbrev IV:Stmt:=(aQ 65)
abbrev Hi:Stmt:=(aQ 66)
def BY (t:Tm):Prop:=t.1.Pairwise (· < ·)/\t.1.length<32
def vV:Sp:=λvs H Q _=>∃(p:Int)(la lb:Addr)(ys us:List V)(a b:List Tm),vs=[.int p,.ref la,.ref lb]/\FP p/\H la=some (.lst ys)/\aS H ys a/\H lb=some (.lst us)/\aS H us b/\a.length*b.length<4000 /\
 (∀t∈a,Gn p 4000 t.2/\BY t)/\(∀t∈b,Gn p 4000 t.2/\BY t)/\Bd p (dF p a b)/\∀H' D zs,aA H H'->H D=none->H' D=some (.lst zs)->aS H' zs (tg p (dF p a b))->Q (.ref D) H'
def Em:Sp:=λvs H Q _=>∃(l:Addr)(ys:List V)(ts:List Tm),vs=[.ref l]/\H l=some (.lst ys)/\aS H ys ts/\ts.length<=1000/\∀(m:Int)(H':Hp),aA H H'->0<=m->(m=0\/∃t∈ts,m=t.1.length)->Q (.int m) H'
theorem vK:DK ["_law_prime","_law_one","_law_other","_law_found","_law_product","_law_number","_law_more","_law_factor"] AX (aq IV):=c9 (by decide +kernel)
theorem HJ:DK HC HC (aq Hi):=c9 (by decide +kernel)
theorem Aw {K:Frag}{a b:Addr}{xs ys:List V}{H:Hp}{Q:VK}(ha:H a=some (.tup xs))(hb:H b=some (.tup ys))(hz:xs.length+ys.length<=sizeLine)(q:∀l H',aA H H'->H' l=some (.tup (xs++ys))->Q (.ref l) H'):BX K (.ref a) (.ref b) H Q :=
 ⟨a,b,xs,ys,rfl,rfl,bf.of ha,bf.of hb,hz,λh=>q b H (aA.refl _) (by rw[hb,h];rfl),λ_ h=>q a H (aA.refl _) (by rw[ha,h,xY]),λ_ _ l hl=>q l _ (ao hl) ah⟩
theorem nV (p:Int)(a b:List Tm)(x:Tm):dF p (a++[x]) b=dF p a b++b.map λy=>(cX (x.1++y.1),cz p x.2 y.2):=by simp[dF]
theorem gS (p:Int)(a b:List Tm):(dF p a b).length=a.length*b.length:=by
 unfold dF;rw[List.length_flatMap];simp only[vW];rw[List.map_const',List.sum_replicate_nat]
variable {P:Iy}{w:World}{K:PySem.W.Frag}{mg:xk}{base:Heap}
variable {f fm:Addr}{fd J9:qo}
set_option maxHeartbeats 1000000 in
theorem xX {fg:Addr}{JP:qo}(F:Dp K "_law_multiplied" "_law_multiplied" IV f fd)(Jz:mg "tuple"=none)(JD:mg "sorted"=none)(Kr:mg "set"=none)
 (FM:zG P w K mg base (aO P w) 3 fm J9 AX (oE fU))(bM:L2.ax K J9 AX [])(mM:mg "_law_times"=some (.ref fm))(kM:keepIn K (.ref fm)=true)
 (FG:zG P w K mg base (aO P w) 4 fg JP oI Hn)(bG:L2.ax K JP oI [])(mG:mg "_law_gathered"=some (.ref fg))(kG:keepIn K (.ref fg)=true):
 zG P w K mg base (aO P w) 5 f fd AX vV:=by
 refine F.okN vK (λvs H Q E h=>?_) (λJw A outer s H vs Q E hr h=>?_)
 ·obtain⟨p,la,lb,ys,us,a,b,rfl,_⟩:=h;rfl
 ·obtain⟨p,la,lb,ys,us,a,b,rfl,hp,hla,Q0,hlb,Q1,Na,ga,gb,G,q⟩:=h;have JO:A8 4 _:=hr;have LK:A8 3 _:=JO.mono (by decide)
  refine⟨_,(aj (@aW _ _ 3 _ _ _ _ vK.nd rfl (Or.inl rfl) (@cg _ _ _ _ af) rfl (Or.inl rfl))
   (aj (dw wk rfl (cy (pv 1)) (cA rfl (aG (aC (i:=4) vK.nd rfl (Or.inl rfl)) (aG (aC (i:=5) vK.nd rfl (Or.inl rfl)) bX)))
   (ak (dw wk rfl (cy (pv 2)) (cA rfl (aG (aC (i:=6) vK.nd rfl (Or.inl rfl)) (aG (aC (i:=7) vK.nd rfl (Or.inl rfl)) bX)))
   (ak (eB (kO zU rN vX fL (pv 3) (@ai _ _ _ _ _ (@bu _ _ _ _ _ (@ai _ _ _ _ _ (cE fE (by rfl) Jz (by rfl) (@ai _ _ _ _ _ (kx rfl (@aH _ _ _ _ _ _ _ _ BM (pv 4) (pv 6)) rfl (by rfl) JD (by rfl) Kr) af rfl)) (@ai _ _ _ _ _ (ay FM LK (by rfl) mM kM bM .nil ae (@ai _ _ _ _ _ (pv 0) (@ai _ _ _ _ _ (pv 5) (@ai _ _ _ _ _ (pv 7) af rfl) rfl) rfl)) af rfl) rfl)) af rfl)))))))
   (ak (az (ay FG JO (by rfl) mG kG bG .nil ae (@ai _ _ _ _ _ (pv 0) (@ai _ _ _ _ _ (pv 3) af rfl) rfl)))))),?_⟩
  refine⟨Ag _,λL hL=>?_⟩;have s1:=ao (o:=.lst []) hL;have e1:upd H L (.lst []) L=some (.lst []):=ah;generalize upd H L _=H1 at s1 e1 |-;have za:=Q0.length;have zb:=Q1.length;refine⟨_,rfl,la,rfl,⟨_,aV.of (s1 _ _ hla)⟩,?_⟩;refine fJ (K:=K) (a:=la) (xs:=ys) (λi σ H'=>aA H H'/\(∃ws,H' L=some (.lst ws)/\aS H' ws (dF p (a.take i) b))/\∃o4 o5 o6 o7,σ=[some (.int p),some (.ref la),some (.ref lb),some (.ref L),o4,o5,o6,o7]) ⟨s1,⟨[],e1,.nil⟩,_,_,_,_,rfl⟩ (λj σ H' _ h=>aV.of (h.1 _ _ hla)) ?_ ?_
  ·rintro i y σ H2 hy ⟨s2,⟨ws,eL,hw⟩,o4,o5,o6,o7,rfl⟩;obtain⟨x,ex,at_,pr,nu,rfl,LX,JQ,JZ⟩:=aY Q0 hy;have gx:=ga x (v5 ex);have hi:i<a.length:=(Be.mp ex).1
   have Kl:a.take (i+1)=a.take i++[x]:=by rw[vQ,ex];rfl
   refine⟨at_,_,rfl,bf.of (s2 _ _ LX),rfl,_,_,rfl,_,_,rfl,rfl,?_⟩;refine⟨_,rfl,lb,rfl,⟨_,aV.of (s2 _ _ hlb)⟩,?_⟩;refine fJ (K:=K) (a:=lb) (xs:=us) (λj σ H'=>aA H H'/\(∃ws,H' L=some (.lst ws)/\aS H' ws (dF p (a.take i) b++(b.take j).map λy=>(cX (x.1++y.1),cz p x.2 y.2)))/\∃o6 o7,σ=[some (.int p),some (.ref la),some (.ref lb),some (.ref L),some (.ref pr),some (.ref nu),o6,o7]) ⟨s2,⟨ws,eL,by simpa using hw⟩,_,_,rfl⟩ (λj σ H' _ h=>aV.of (h.1 _ _ hlb)) ?_ ?_
   ·rintro j y σ H3 hy ⟨s3,⟨ws,eL,hw⟩,o6,o7,rfl⟩;obtain⟨z,ez,at2,W6,Vx,rfl,OA,OB,OC⟩:=aY Q1 hy;have gz:=gb z (v5 ez);have hj:j<b.length:=(Be.mp ez).1
    have OD:b.take (j+1)=b.take j++[z]:=by rw[vQ,ez];rfl
    refine⟨at2,_,rfl,bf.of (s3 _ _ OA),rfl,_,_,rfl,_,_,rfl,rfl,?_⟩
    have JV:(x.1.map V.int).length+(z.1.map V.int).length<64:=by
     rw[vW,vW];have:=gx.2.2;have:=gz.2.2;omega
    refine⟨_,rfl,.inl ⟨rfl,_,aV.of eL⟩,?_⟩;refine⟨_,rfl,_,rfl,Aw (s3 _ _ JQ) (s3 _ _ OB) (EW (xa JV) (by decide)) λl H4 s4 el=>?_⟩;refine⟨l,x.1++z.1,rfl,.inr (bf.of (by rw[el,Hs])),(by rw[tE];simpa using JV),λD ms hD pw mem=>?_⟩;have em:ms=cX (x.1++z.1):=oF pw mem;subst em;refine⟨D,_,rfl,.inl ⟨aV.of ah,λtu PY=>?_⟩⟩;have s5:=(ao (o:=.lst ((cX (x.1++z.1)).map V.int)) hD).trans (ao (o:=.tup ((cX (x.1++z.1)).map V.int)) PY);have e5:upd (upd H4 D (.lst ((cX (x.1++z.1)).map V.int))) tu (.tup ((cX (x.1++z.1)).map V.int)) tu=some (.tup ((cX (x.1++z.1)).map V.int)):=ah;generalize upd (upd H4 D (.lst ((cX (x.1++z.1)).map V.int))) tu (.tup ((cX (x.1++z.1)).map V.int))=H5 at s5 e5 |-;have OE:=s4.trans s5;have Lh:=s3.trans OE;have Vy:=OE _ _ eL;clear hD PY;refine⟨_,rfl,_,rfl,_,rfl,p,x.2.1,x.2.2,z.2.1,z.2.2,nu,Vx,rfl,hp,Lh _ _ JZ,Lh _ _ OC,gx.1.2.1,gx.1.2.2,gz.1.2.1,gz.1.2.2,gx.1.ne,gz.1.ne,(λw=>by rw[(gx.1.1.pr w).1,(gz.1.1.pr w).1];rfl),λH6 an s6 e6=>?_⟩;refine⟨gR,λtt WD=>?_⟩;have s7:=ao (o:=.tup [.ref tu,.ref an]) WD;have e7:upd H6 tt (.tup [.ref tu,.ref an]) tt=some (.tup [.ref tu,.ref an]):=ah;generalize upd H6 tt _=H7 at s7 e7 |-;have KG:=s6.trans s7;have eL7:=KG _ _ Vy
    have wl:ws.length<4000:=by
     rw[hw.length,tE,gS,vW,rh,rh]
     have h1:min i a.length=i:=by omega
     have h2:min j b.length=j:=by omega
     rw[h1,h2];have h3:(i+1)*b.length<=a.length*b.length:=tW _ (by omega);rw[Nat.succ_mul] at h3;omega
    refine⟨L,ws,.ref tt,rfl,rfl,eL7,HY wl (by decide),?_⟩
    have kL:aD H7 (upd H7 L (.lst (ws++[.ref tt]))):=aD.upd λxs w=>by rw[eL7] at w;cases w
    have k37:aD H3 H7:=aD.of (OE.trans KG);refine⟨λc u e=>?_,⟨_,ah,?_⟩,_,_,rfl⟩
    ·rw[av (au e hL)];exact KG _ _ (Lh _ _ e)
    ·rw[OD,Hs,<-AA];exact mx (aS.keep hw (k37.trans kL)) ⟨tt,tu,an,rfl,kL _ _ e7,kL _ _ (KG _ _ e5),kL _ _ (s7 _ _ e6)⟩
   ·rintro σ H3 ⟨s3,⟨ws,eL,hw⟩,o6,o7,rfl⟩;refine⟨s3,⟨ws,eL,?_⟩,_,_,_,_,rfl⟩;rw[Kl,nV];rw[zb,vt] at hw;exact hw
  ·rintro σ H2 ⟨s2,⟨ws,eL,hw⟩,o4,o5,o6,o7,rfl⟩;rw[za,vt] at hw;exact⟨_,rfl,_,rfl,L,p,ws,_,rfl,hp,eL,hw,G,λH' D zs s3 nD hD hz=>q H' D zs (s2.trans s3) (none_of s2 nD) hD hz⟩
theorem E1 (F:Dp K "_law_degree" "_law_degree" Hi f fd)(JU:mg "max"=none)(Jv:mg "len"=none):zG P w K mg base (aO P w) 1 f fd HC Em:=by
 refine F.okN HJ (λvs H Q E h=>?_) (λJw A outer s H vs Q E hr h=>?_)
 ·obtain⟨l,ys,ts,rfl,_⟩:=h;rfl
 ·obtain⟨l,ys,ts,rfl,hl,ht,tl,q⟩:=h
  refine⟨_,(ak (az (aB (ahj rfl) (by rfl) JU (by rfl) (@ai _ _ _ _ _ (@aH _ _ _ _ _ _ _ _ jV (@cg _ _ _ _ (@ai _ _ _ _ _ ar af rfl)) (dm (g:=(jd K 2 (cD (bN 0) (cD (bN 1) CN)))) (N:=["_law_product","_law_number"]) (nl:=2) (js:=[]) (osc:=aq Hi) ⟨rfl,rfl,by decide +kernel,by decide +kernel,by decide +kernel,rfl,.nil,by decide +kernel⟩ rfl
   (cy (pv 0))
   (λCq fq sq Hq=>(cA (X:=cG _ ["_law_product","_law_number"] _ Cq fq sq Hq) rfl (aG (aC (X:=cG _ ["_law_product","_law_number"] _ Cq fq sq Hq) (i:=0) (by show(["_law_product","_law_number"]:p3).Nodup;decide +kernel) rfl (Or.inl rfl) (Or.inr rfl)) (aG (aC (X:=cG _ ["_law_product","_law_number"] _ Cq fq sq Hq) (i:=1) (by show(["_law_product","_law_number"]:p3).Nodup;decide +kernel) rfl (Or.inl rfl) (Or.inr rfl)) bX))))
   (λCq fq sq Hq=>dk)
   (λCq fq sq Hq=>(aB (ahn (K:=K) rfl) (by rfl) Jv A2 (@ai _ _ _ _ _ (pv 0) af rfl))))) af rfl)))),?_⟩
  refine⟨wV,λL hL=>?_⟩;have s0:=ao (o:=.lst [.int 0]) hL;have e0:upd H L (.lst [.int 0]) L=some (.lst [.int 0]):=ah;generalize upd H L _=H0 at s0 e0 |-;refine⟨_,rfl,l,rfl,⟨ys,aV.of (s0 _ _ hl)⟩,?_⟩;have yl:=ht.length;refine jj (xs:=ys) (rest:=[]) (λi us H'=>aA H0 H'/\us=((ts.take i).map λt=>(t.1.length:Int)).map V.int) ⟨aA.refl _,rfl⟩ (λi us H' hi h=>?_) (λi x us H' hi hx h=>?_) (λus H' h=>?_)
  ·refine⟨?_,aV.of (h.1 _ _ (s0 _ _ hl))⟩;rw[h.2,vW,vW,rh];exact Gv (by omega:_<=1000) (by decide)
  ·obtain⟨s1,rfl⟩:=h;obtain⟨t,et,a,pr,nu,rfl,ha,JQ,JZ⟩:=aY (aS.keep ht (aD.of (s0.trans s1))) hx;refine⟨a,.ref pr,.ref nu,rfl,bf.of ha,λN hN=>oP ⟨_,rfl,pr,_,rfl,.inr (bf.of JQ),hN _ _ ⟨s1,?_⟩⟩⟩;rw[vQ,et,Hs,Hs,vW];rfl
  ·obtain⟨s1,rfl⟩:=h;intro D hD;rw[yl,vt];have s2:=ao (o:=.lst ((ts.map λt=>(t.1.length:Int)).map V.int)) hD;refine⟨L,D,_,_,rfl,rfl,s2 _ _ (s1 _ _ e0),ah,?_,λpp H5 PL s5 e5=>?_⟩
   ·rw[vW,vW];exact EW (by show 1+ts.length<=2000;omega) (by decide)
   refine⟨pp,0::(ts.map λt=>(t.1.length:Int)),rfl,aV.of (by rw[e5];rfl),by simp,λm hm W7=>?_⟩;refine q m H5 (s0.trans (s1.trans (s2.trans s5))) (W7 0 (by simp)) ?_
   rcases BN.mp hm with h|h
   ·exact .inl h
   ·obtain⟨t,h1,h2⟩:=Hy.mp h;exact .inr ⟨t,h1,h2.symm⟩
variable {p:Int}
theorem jW (hp:FP p)(k N:Int)(h:(k.natAbs:Int)<=N):Cd p 1 N (ba p k):=⟨dE hp _,λz=>by subst z;rw[cT];exact⟨1,rfl,by rw[D1];exact h⟩⟩
def yT (p i:Int):List Tm:=[([],((1,1):Int×Int)),([i],ba p (-2))]
def yy (p i j:Int):List Tm:=tg p (dF p (tg p (yT p i)) (tg p (yT p j)))
def wi (p i j s:Int):List Tm:=tg p (yy p i j++[([],ba p (-s))])
def bh (p:Int)(s:Int×Int)(l:List Int):Int×Int:=l.foldl (λb k=>cz p b (ba p k)) s
def sh (p:Int)(s:Int×Int)(i:Int):List Tm:=tg p (l8 p s (yy p 0 i))
structure Hf (p:Int)(s:Int×Int):Prop where
 num:Num p s.1 s.2
 one:cz p s (ba p 2)=(1,1)
 lo:p=0->s.2=2/\s.1.natAbs<=1
def nx (n i:Nat):Nat:=(i+1)%n
def pK (p:Int)(s:Int×Int)(l:List Int):List (List Tm×List Tm):=(List.range l.length).map λi:Nat=>(wi p i (nx l.length i:Nat) (l.getD i 0),sh p (bh p s (l.drop (i+1)).reverse) i)
abbrev Sg (l:List Int):Prop:=∀k∈l,k=1\/k = -1
theorem uM (p:Int)(s:Int×Int)(l:List Int)(k:Int):bh p s (l++[k])=cz p (bh p s l) (ba p k):=by simp[bh]
variable {l:List Int}{i:Nat}
theorem qg (h:i<l.length):(l.drop i).reverse=(l.drop (i+1)).reverse++[l.getD i 0]:=by
 rw[An h,yJ];simp[List.getD,h]
theorem k9 (hp:FP p)(i:Int):bY p (yT p i):=λt ht=>by
 rcases BN.mp ht with rfl|ht
 ·exact pf hp
 ·rw[yP.mp ht];exact dE hp _
theorem pj (hp:FP p)(i j:Int):bY p (yy p i j):=hp.tn (iG hp.nn (hp.tn (k9 hp i)) (hp.tn (k9 hp j)))
theorem Av {a:List Tm}{c:Int×Int}(h:bY p a)(hc:Num p c.1 c.2):bY p (a++[([],c)]):=λt ht=>by
 rcases rQ.mp ht with ht|ht
 ·exact h t ht
 ·rw[yP.mp ht];exact hc
theorem pI (hp:FP p)(i j s:Int):bY p (yy p i j++[([],ba p (-s))]):=Av (pj hp i j) (dE hp _)
theorem oV (hp:FP p)(i j s:Int):bY p (wi p i j s):=hp.tn (pI hp i j s)
variable {s:Int×Int}
theorem sx (hp:FP p)(hs:Num p s.1 s.2)(i:Int):bY p (sh p s i):=hp.tn (qJ hp.nn (pj hp 0 i) hs)
theorem kh (hp:FP p):∀(l:List Int){s:Int×Int},Num p s.1 s.2->Num p (bh p s l).1 (bh p s l).2
 |[],_,h=>h
 |k::l,s,h=>kh hp l (lz hp.nn h (dE hp k))
variable {k:Int}
section
variable {p:Int}{R:Type} [Lean.Grind.CommRing R]{v:Int×Int->R}
theorem CT (V:Val p R v)(hp:FP p):v (ba p (-2)) = -2:=by
 have h:=rB V hp (-1) (-1);rw[show(-1:Int) + -1 = -2 from rfl,lR V hp] at h;rw[h];grind
theorem DA (V:Val p R v)(hp:FP p)(i:Int)(F:List Int->R):S v (tg p (yT p i)) F=F []-2*F [i]:=by
 rw[vG V hp.nn (k9 hp i)];show v (1,1)*F []+(v (ba p (-2))*F [i]+0)=_;rw[V.one,CT V hp];grind
theorem Gi (V:Val p R v)(hp:FP p)(i j:Int)(F:List Int->R):S v (yy p i j) F=F (cX [])-2*F (cX [j])-2*F (cX [i])+4*F (cX [i,j]):=by
 have a:=hp.tn (k9 hp i);have b:=hp.tn (k9 hp j);unfold yy;rw[vG V hp.nn (iG hp.nn a b),yE V a b,DA V hp,DA V hp,DA V hp];show F (cX [])-2*F (cX [j])-2*(F (cX [i])-2*F (cX [i,j]))=_;grind
theorem Fb (V:Val p R v)(hp:FP p)(i j s:Int)(F:List Int->R):S v (wi p i j s) F=F (cX [])-2*F (cX [j])-2*F (cX [i])+4*F (cX [i,j])+v (ba p (-s))*F []:=by
 unfold wi;rw[vG V hp.nn (pI hp i j s),iO,Gi V hp];show _+(v (ba p (-s))*F []+0)=_;grind
theorem ET (V:Val p R v)(hp:FP p)(hs:Num p s.1 s.2)(i:Int)(F:List Int->R):S v (sh p s i) F=v s*(F (cX [])-2*F (cX [i])-2*F (cX [0])+4*F (cX [0,i])):=by
 unfold sh;rw[vG V hp.nn (qJ hp.nn (pj hp 0 i) hs),aeI V (pj hp 0 i) hs,Gi V hp]
def gF (F:List Int->R)(i:Int):R:=F (cX [])-2*F (cX [i])-2*F (cX [0])+4*F (cX [0,i])
theorem DW (V:Val p R v)(hp:FP p)(hs:Num p s.1 s.2)(i j k:Int)(F:List Int->R):S v (tg p (dF p (wi p i j k) (sh p s i))) F=v s*(gF F j+v (ba p (-k))*gF F i):=by
 rw[vG V hp.nn (iG hp.nn (oV hp i j k) (sx hp hs i)),yE V (oV hp i j k) (sx hp hs i),Fb V hp];simp only[ET V hp hs]
 have r:∀a b c:List Int,(∀z,z∈a++b↔z∈c)->cX (cX a++cX b)=cX c:=λa b c h=>tR λz=>by
  rw[rQ,dj,dj,<-h,rQ]
 have r0:∀b:List Int,cX ([]++cX b)=cX b:=λb=>tR λz=>by simp[dj]
 rw[r0,r0,r0,r0,r [] [] [] (by simp),r [] [i] [i] (by simp),r [] [0] [0] (by simp),r [] [0,i] [0,i] (by simp)];rw[r [j] [] [j] (by simp),r [j] [i] [i,j] (by simp;grind),r [j] [0] [0,j] (by simp;grind),r [j] [0,i] [0,i,j] (by simp;grind)];rw[r [i] [] [i] (by simp),r [i] [i] [i] (by simp),r [i] [0] [0,i] (by simp;grind),r [i] [0,i] [0,i] (by simp)];rw[r [i,j] [] [i,j] (by simp),r [i,j] [i] [i,j] (by simp;grind),r [i,j] [0] [0,i,j] (by simp;grind),r [i,j] [0,i] [0,i,j] (by simp;grind)];unfold gF;grind
theorem HN (F:List Int->R):gF F 0=F []:=by
 unfold gF;rw[show cX [0,0]=cX [0] from tR λz=>by simp];show F (cX [])-2*F (cX [0])-2*F (cX [0])+4*F (cX [0])=F [];have:cX []=[]:=rfl;rw[this];grind
theorem GG (T:Nat->R):∀n:Nat,AR n (λi=>T (i+1)-T i)=T n-T 0
 |0=>by show(0:R)=T 0-T 0;grind
 |n+1=>by show AR n _+(T (n+1)-T n)=_;rw[GG T n];grind
theorem yd (V:Val p R v)(hp:FP p)(hs:Num p s.1 s.2)(l:List Int)(k:Int):v (bh p s (l++[k]))=v (bh p s l)*v (ba p k):=by
 rw[uM,iK V (kh hp l hs) (dE hp k)]
theorem F4 (V:Val p R v)(hp:FP p)(h:k=1\/k = -1):v (ba p (-k)) =-v (ba p k)/\v (ba p k)*v (ba p k)=1:=by
 rcases h with rfl|rfl
 ·rw[gE hp,V.one,lR V hp];refine⟨?_,?_⟩ <;> grind
 ·rw[show -(-1:Int)=1 from rfl,gE hp,V.one,lR V hp];refine⟨?_,?_⟩ <;> grind
theorem oA (V:Val p R v)(hp:FP p)(hs:Num p s.1 s.2):∀l:List Int,Sg l->v (bh p s l.reverse)=if l.count (-1)%2=0 then v s else-v s
 |[],_=>rfl
 |k::l,h=>by
  have ih:=oA V hp hs l λx hx=>h x (Er _ hx);rw[yJ,yd V hp hs,ih]
  rcases h k Ij with rfl|rfl
  ·rw[Bx (by decide),gE hp,V.one];grind
  ·rw[FA,lR V hp]
   by_cases z:l.count (-1)%2=0
   ·rw[zj z,qM (by omega)];grind
   ·rw[qM z,zj (by omega)];grind
end
def uS (p:Int)(l:List (List Tm×List Tm)):List Tm:=l.flatMap λx=>tg p (dF p x.1 x.2)
theorem qF {R:Type} [Lean.Grind.CommRing R]{v:Int×Int->R}(V:Val p R v)(hp:FP p)(h:Hf p s):v s*2=1:=by
 have:=iK V h.num (dE hp 2);rw[h.one,V.one] at this;have t:=rB V hp 1 1;rw[show(1:Int)+1=2 from rfl,gE hp,V.one] at t;rw[t] at this;grind
theorem w6 {R:Type} [Lean.Grind.CommRing R]{v:Int×Int->R}(V:Val p R v)(hp:FP p)(h:Hf p s)(hl:Sg l)(n1:1<=l.length)(odd:l.count (-1)%2=1)(F:List Int->R):S v (uS p (pK p s l)) F=F []:=by
 have e2:=qF V hp h;unfold uS pK;rw[t9]
 have step:∀i,i<l.length->S v (tg p (dF p (wi p i (nx l.length i:Nat) (l.getD i 0)) (sh p (bh p s (l.drop (i+1)).reverse) i))) F =
  (λi:Nat=>v (bh p s (l.drop i).reverse)*gF F ((i%l.length:Nat):Int)) (i+1)-(λi:Nat=>v (bh p s (l.drop i).reverse)*gF F ((i%l.length:Nat):Int)) i:=λi hi=>by
  have hk:l.getD i 0=1\/l.getD i 0 = -1:=hl _ (by simp[List.getD,hi]);rw[DW V hp (kh hp _ h.num)];show _=v (bh p s (l.drop (i+1)).reverse)*gF F (((i+1)%l.length:Nat):Int)-v (bh p s (l.drop i).reverse)*gF F ((i%l.length:Nat):Int);rw[qg hi,yd V hp h.num,Bj hi,(F4 V hp hk).1];show _*(gF F (((i+1)%l.length:Nat):Int)+_)=_;generalize gF F (((i+1)%l.length:Nat):Int)=x1;generalize gF F ((i:Nat):Int)=x2;generalize v (bh p s (l.drop (i+1)).reverse)=x3;generalize v (ba p (l.getD i 0))=x4;grind
 rw[aeQ step];refine(GG (λi:Nat=>v (bh p s (l.drop i).reverse)*gF F ((i%l.length:Nat):Int)) l.length).trans ?_;show v (bh p s (l.drop l.length).reverse)*gF F ((l.length%l.length:Nat):Int)-v (bh p s (l.drop 0).reverse)*gF F ((0%l.length:Nat):Int)=F [];rw[wC,List.drop_zero,oA V hp h.num l hl,qM (by omega),Nat.mod_self,Nat.zero_mod];show v s*gF F 0- -v s*gF F 0=F [];rw[HN];grind
theorem xF (hp:FP p)(h:Num p s.1 s.2)(i j k:Int):bY p (tg p (dF p (wi p i j k) (sh p s i))):=hp.tn (iG hp.nn (oV hp _ _ _) (sx hp h _))
theorem A6 (hp:FP p)(h:Num p s.1 s.2)(l:List Int):bY p (uS p (pK p s l)):=by
 intro t ht;obtain⟨x,hx,ht⟩:=rZ.mp ht;obtain⟨i,_,e⟩:=Hy.mp hx;rw[<-e] at ht;dsimp only at ht;exact xF hp (kh hp (l.drop (i+1)).reverse h) i (nx l.length i:Nat) (l.getD i 0) t ht
theorem yK (hp:FP p):tg p [([],((1,1):Int×Int))]=[([],(1,1))]:=by
 have e:aX p [(([]:List Int),((1,1):Int×Int))]=[([],(1,1))]:=rfl;show gy (aX p _)=_;rw[e];exact List.perm_singleton.mp (cV [(([]:List Int),((1,1):Int×Int))])
theorem ub (hp:FP p)(h:Hf p s)(hl:Sg l)(n1:1<=l.length)(odd:l.count (-1)%2=1):tg p (uS p (pK p s l))=[([],(1,1))]:=by
 obtain⟨R,i,v,V⟩:=hp.v
 have h1:bY p [([],((1,1):Int×Int))]:=λt ht=>by rw[yP.mp ht];exact pf hp
 rw[<-yK hp];refine Cb V hp.nn (A6 hp h.num l) h1 λF=>?_;rw[w6 V hp h hl n1 odd];show F []=v (1,1)*F []+0;rw[V.one];grind
theorem qD {α:Type} [BEq α] [LawfulBEq α]:∀{l m:List α},l.Nodup->(∀x∈l,x∈m)->l.length<=m.length
 |[],m,_,_=>Ag _
 |x::l,m,h,hm=>by
  obtain⟨h1,h2⟩:=zJ.mp h;have hx:=hm x Ij;have ih:=qD (l:=l) (m:=m.erase x) h2 λy hy=>(List.mem_erase_of_ne (λ(e:y=x)=>h1 (by rw[<-e];exact hy))).mpr (hm y (Er _ hy));have e:=List.length_erase_of_mem hx;have p:0<m.length:=List.length_pos_of_mem hx;rw[wF];omega
theorem yI {d:List Tm}{t e:Tm}(h:e∈c5 p d t):(∃x∈d,e.1=x.1)\/e.1=t.1:=by
 unfold c5 at h
 split at h
 ·obtain⟨x,hx,rfl⟩:=Hy.mp h;refine .inl ⟨x,hx,?_⟩
  split <;> rfl
 ·rcases rQ.mp h with h|h
  ·exact .inl ⟨e,h,rfl⟩
  ·have:e=t:=by simpa using h
   exact .inr (by rw[this])
theorem ql :∀(ts d:List Tm)(e:Tm),e∈ts.foldl (c5 p) d->(∃x∈d,e.1=x.1)\/∃x∈ts,e.1=x.1
 |[],d,e,h=>.inl ⟨e,h,rfl⟩
 |t::ts,d,e,h=>by
  rcases ql ts (c5 p d t) e h with⟨x,hx,ex⟩|⟨x,hx,ex⟩
  ·rcases yI hx with⟨y,hy,ey⟩|ey
   ·exact .inl ⟨y,hy,ex.trans ey⟩
   ·exact .inr ⟨t,Ij,ex.trans ey⟩
  ·exact .inr ⟨x,Er _ hx,ex⟩
theorem Am {raw:List Tm}{t:Tm}(h:t∈tg p raw):∃x∈raw,t.1=x.1:=by
 rcases ql raw [] t (Jn.mp ((cV _).mem_iff.mp h)).1 with⟨x,hx,_⟩|⟨x,hx,e⟩
 ·exact nomatch hx
 ·exact⟨x,hx,e⟩
theorem qQ {p:Int}:∀(ts d:List Tm),(ts.foldl (c5 p) d).length<=d.length+ts.length
 |[],d=>zC _
 |t::ts,d=>by
  have h:=qQ (p:=p) ts (c5 p d t)
  have:(c5 p d t).length<=d.length+1:=by
   unfold c5
   split
   ·rw[vW];omega
   ·rw[tE];exact zC _
  rw[AG,wF];omega
theorem kd (p:Int)(ts:List Tm):(aX p ts).length<=ts.length:=by
 have:=qQ (p:=p) ts [];rw[Au,Io] at this;exact this
structure Jo (p D N:Int)(L:List Int)(m:Nat)(ts:List Tm):Prop where
 cd:∀t∈ts,Cd p D N t.2
 ky:∀t∈ts,t.1.Pairwise (· < ·)/\∀k∈t.1,k∈L
 len:ts.length<=m
theorem BU {i:Int}(h:i.natAbs<2^40):B 4000 i:=HY h (Ht (by decide) (by decide))
section
variable {p D N D' N':Int}{L L':List Int}{m m':Nat}{a b ts:List Tm}
theorem Jo.tg (hp:FP p)(h:Jo p D N L m ts)(n0:0<=N):Jo p D (N*m) L m (tg p ts) where
 cd:=λt ht=>(aeN hp n0 h.cd t ht).mono (Int.mul_le_mul_of_nonneg_left (by have:=h.len;omega) n0)
 ky:=λt ht=>by
  obtain⟨x,hx,e⟩:=Am ht;rw[e];exact h.ky x hx
 len:=by
  rw[(cV _).length_eq];exact EW (NI _ _) (EW (kd p ts) h.len)
theorem Jo.mul (hp:FP p)(h:Jo p D N L m a)(g:Jo p D' N' L' m' b):Jo p (D*D') (N*N') (L++L') (m*m') (dF p a b) where
 cd:=λt ht=>by
  obtain⟨x,hx,ht⟩:=rZ.mp ht;obtain⟨y,hy,rfl⟩:=Hy.mp ht;exact(h.cd x hx).mul hp (g.cd y hy)
 ky:=λt ht=>by
  obtain⟨x,hx,ht⟩:=rZ.mp ht;obtain⟨y,hy,rfl⟩:=Hy.mp ht;refine⟨me _,λk hk=>?_⟩
  rcases rQ.mp (dj.mp hk) with z|z
  ·exact Jp _ ((h.ky x hx).2 k z)
  ·exact GZ _ ((g.ky y hy).2 k z)
 len:=by rw[gS];exact BI h.len g.len
theorem Jo.th (hp:FP p)(h:Jo p D N L m ts)(n0:0<=N)(n1:N<=100000000)(d0:0<D)(d1:D<=2)(m4:m<64):Bd p ts:=by
 have l:=h.len;refine Bd.cd hp n0 h.cd (by omega) (BU (by omega)) (BU ?_) (by omega) (Gv (NI _ _) (Gv (kd p ts) (by omega)));rw[C4];exact Gv (BI (show N.natAbs<=100000000 by omega) (show((ts.length:Nat):Int).natAbs<=64 by omega)) (by decide)
theorem Jo.gn (hp:FP p)(h:Jo p D N L m ts)(n0:0<=N)(n1:N<=100000000)(d0:0<D)(d1:D<=2):∀t∈ts,Gn p 4000 t.2:=λt ht=>(h.cd t ht).gn hp (by decide) (by omega) (BU (by omega)) (BU (by omega))
theorem Jo.key (h:Jo p D N L m ts)(l:L.length<32):∀t∈ts,BY t/\t.1.length<=L.length:=λt ht=>by
 obtain⟨up,hk⟩:=h.ky t ht;have:=qD (up.imp λz=>Int.ne_of_lt z) hk;exact⟨⟨up,by omega⟩,this⟩
end
theorem si (hp:FP p)(i:Int):Jo p 1 2 [i] 2 (yT p i) where
 cd:=λt ht=>by
  rcases BN.mp ht with rfl|ht
  ·have:=jW hp 1 2 (by decide);rw[gE hp] at this;exact this
  ·rw[yP.mp ht];exact jW hp _ _ (by decide)
 ky:=λt ht=>by
  rcases BN.mp ht with rfl|ht
  ·exact⟨.nil,λk hk=>nomatch hk⟩
  ·rw[yP.mp ht];exact⟨List.pairwise_singleton _ _,λk hk=>hk⟩
 len:=zC _
theorem jF (hp:FP p)(i:Int):Jo p 1 4 [i] 2 (tg p (yT p i)):=(si hp i).tg hp (by decide)
theorem jR (hp:FP p)(i j:Int):Jo p 1 16 [i,j] 4 (dF p (tg p (yT p i)) (tg p (yT p j))):=(jF hp i).mul hp (jF hp j)
theorem gJ (hp:FP p)(i j:Int):Jo p 1 64 [i,j] 4 (yy p i j):=(jR hp i j).tg hp (by decide)
theorem pG (hp:FP p)(i j:Int)(hk:k=1\/k = -1):Jo p 1 64 [i,j] 5 (yy p i j++[([],ba p (-k))]) where
 cd:=λt ht=>by
  rcases rQ.mp ht with ht|ht
  ·exact(gJ hp i j).cd t ht
  ·rw[yP.mp ht];exact jW hp _ _ (by omega)
 ky:=λt ht=>by
  rcases rQ.mp ht with ht|ht
  ·exact(gJ hp i j).ky t ht
  ·rw[yP.mp ht];exact⟨.nil,λk hk=>nomatch hk⟩
 len:=by
  rw[tE];have:=(gJ hp i j).len;exact Nat.succ_le_succ this
theorem kD (hp:FP p)(i j:Int)(hk:k=1\/k = -1):Jo p 1 320 [i,j] 5 (wi p i j k):=(pG hp i j hk).tg hp (by decide)
theorem Hf.cd (h:Hf p s):Cd p 2 1 s:=⟨h.num,λz=>by
 obtain⟨h1,h2⟩:=h.lo z
 exact⟨1,by rw[h1];rfl,by rw[D1];omega⟩⟩
theorem yC (hp:FP p):∀(l:List Int){s:Int×Int},Cd p 2 1 s->Sg l->Cd p 2 1 (bh p s l)
 |[],_,h,_=>h
 |k::l,s,h,g=>by
  have hk:=g k Ij;have:=h.mul hp (jW hp k 1 (by omega));exact yC hp l this λx hx=>g x (Er _ hx)
theorem uq (hp:FP p)(h:Cd p 2 1 s)(i:Int):Jo p 2 64 [0,i] 4 (l8 p s (yy p 0 i)) where
 cd:=λt ht=>by
  obtain⟨x,hx,rfl⟩:=Hy.mp ht;exact((gJ hp 0 i).cd x hx).mul hp h
 ky:=λt ht=>by
  obtain⟨x,hx,rfl⟩:=Hy.mp ht;exact(gJ hp 0 i).ky x hx
 len:=by
  unfold l8;rw[vW];exact(gJ hp 0 i).len
theorem zz (hp:FP p)(h:Cd p 2 1 s)(i:Int):Jo p 2 256 [0,i] 4 (sh p s i):=(uq hp h i).tg hp (by decide)
theorem yA (hp:FP p)(h:Cd p 2 1 s)(i j:Int)(hk:k=1\/k = -1):Jo p 2 81920 [i,j,0,i] 20 (dF p (wi p i j k) (sh p s i)):=(kD hp i j hk).mul hp (zz hp h i)
theorem qt {α β:Type}{f:α->List β}{n:Nat}:∀{l:List α},(∀x∈l,(f x).length<=n)->(l.flatMap f).length<=n*l.length
 |[],_=>Ag _
 |x::l,h=>by
  rw[List.flatMap_cons,tE,wF,Nat.mul_succ];have:=qt (l:=l) λy hy=>h y (Er _ hy);have:=h x Ij;omega
theorem Sg.at (h:Sg l)(hi:i<l.length):l.getD i 0=1\/l.getD i 0 = -1:=h _ (by simp[List.getD,hi])
theorem Sg.sub {m:List Int}(h:Sg l)(s:∀x∈m,x∈l):Sg m:=λx hx=>h x (s x hx)
structure vR (p n:Int)(x y:List Tm):Prop where
 a:∀t∈x,Gn p 4000 t.2/\BY t/\t.1.length<=2
 la:x.length<=5
 b:∀t∈y,Gn p 4000 t.2/\BY t/\t.1.length<=2/\∀k∈t.1,k<n
 lb:y.length<=4
 ne:y≠[]
 th:Bd p (dF p x y)
theorem yQ (hp:FP p)(h:Hf p s)(hl:Sg l)(i:Nat):Cd p 2 1 (bh p s (l.drop (i+1)).reverse):=yC hp _ h.cd (hl.sub λx hx=>El (GN.mp hx))
theorem Ge (hp:FP p)(h:Hf p s)(hl:Sg l)(i:Int):sh p (bh p s l.reverse) i≠[]:=λe=>by
 obtain⟨R,iR,v,V⟩:=hp.v;have a:=ET V hp (kh hp l.reverse h.num) i (λks=>if ks=[] then 1 else 0)
 have n1:∀k m:Int,cX [k,m]≠[]:=λk m z=>by
  have:k∈cX [k,m]:=dj.mpr (by simp);rw[z] at this;cases this
 rw[e,zj (show cX []=[] from rfl),qM (show ¬cX [i]=[] from by intro z;cases z),qM (show ¬cX [0]=[] from by intro z;cases z),qM (n1 0 i),oA V hp h.num l hl] at a;have a:(0:R)=_:=a;have e2:=qF V hp h
 have z:(1:R)≠0:=λz=>by
  have:=V.inj (pf hp) (a:=(1,1)) (c:=(0,1)) (gW hp) (by rw[V.one,V.zero];exact z)
  cases this
 split at a <;> exact z (by grind)
theorem EL (hp:FP p)(c:Cd p 2 1 s){n:Int}{i j:Int}(hk:k=1\/k = -1)(i0:0<=i)(i1:i<n)(ne:sh p s i≠[]):vR p n (wi p i j k) (sh p s i):=by
 have w:=kD hp i j hk;have u:=zz hp c i;refine⟨λt ht=>⟨w.gn hp (by decide) (by decide) (by decide) (by decide) t ht,w.key (by decide:(2:Nat)<32) t ht⟩,w.len,λt ht=>⟨u.gn hp (by decide) (by decide) (by decide) (by decide) t ht,(u.key (by decide:(2:Nat)<32) t ht).1,(u.key (by decide:(2:Nat)<32) t ht).2,λk hk=>?_⟩,u.len,ne,(yA hp c i j hk).th hp (by decide) (by decide) (by decide) (by decide) (by decide)⟩;have:=(u.ky t ht).2 k hk
 rcases BN.mp this with z|z
 ·omega
 ·rw[yP.mp z];omega
theorem xh {x:List Tm×List Tm}(hx:x∈pK p s l):∃i,i<l.length/\x.1=wi p i (nx l.length i:Nat) (l.getD i 0)/\x.2=sh p (bh p s (l.drop (i+1)).reverse) i:=by
 obtain⟨i,hi,e⟩:=Hy.mp hx;rw[<-e];dsimp only;exact⟨i,HD.mp hi,by with_reducible rfl,by with_reducible rfl⟩
theorem DT (hp:FP p)(h:Hf p s)(hl:Sg l)(x:List Tm×List Tm)(hx:x∈pK p s l):vR p l.length x.1 x.2:=by
 obtain⟨i,hi,e1,e2⟩:=xh hx;rw[e1,e2];have z0:(0:Int)<=((i:Nat):Int):=Int.natCast_nonneg i;have z1:((i:Nat):Int)<(l.length:Nat):=Int.ofNat_lt.mpr hi;exact EL hp (yQ hp h hl i) (hl.at hi) z0 z1 (Ge hp h (hl.sub λx hx=>El hx) _)
theorem DN (hp:FP p)(h:Hf p s)(hl:Sg l)(n1:1<=l.length)(K6:l.length<=60)(odd:l.count (-1)%2=1):Bd p (uS p (pK p s l)):=by
 have one:=ub hp h hl n1 odd
 have ft:∀x∈pK p s l,∃L,Jo p 2 1638400 L 20 (tg p (dF p x.1 x.2)):=λx hx=>by
  obtain⟨i,hi,e1,e2⟩:=xh hx;rw[e1,e2];exact⟨_,(yA hp (yQ hp h hl i) i (nx l.length i:Nat) (hl.at hi)).tg hp (by decide)⟩
 have cd:∀t∈uS p (pK p s l),Cd p 2 1638400 t.2:=λt ht=>by
  obtain⟨x,hx,ht⟩:=rZ.mp ht;obtain⟨L,f⟩:=ft x hx;exact f.cd t ht
 have len:(uS p (pK p s l)).length<=20*60:=by
  refine EW (qt (n:=20) λx hx=>?_) (C6 _ (by unfold pK;rw[vW,Ed];exact K6));obtain⟨L,f⟩:=ft x hx;exact f.len
 refine Bd.cd hp (by decide) cd (by decide) (BU (by decide)) (BU ?_) (by omega) ?_
 ·rw[C4];exact Gv (C6 _ (show((_:Nat):Int).natAbs<=1200 by omega)) (by decide)
 ·have e:=(cV (aX p (uS p (pK p s l)))).length_eq;rw[<-e];have:gy (aX p (uS p (pK p s l)))=[([],(1,1))]:=one;rw[this];decide
def iC (l:List Int)(i:Nat):Int:=if(l.take i).count (-1)%2=0 then 0 else 1
def gA (l:List Int):List Int:=(List.range l.length).map (iC l)
theorem sJ (l:List Int)(i:Nat):iC l i=0\/iC l i=1:=by unfold iC;split;exact .inl rfl;exact .inr rfl
theorem pW (h:Sg l)(hi:i<l.length):iC l (i+1)=if l.getD i 0 = -1 then 1-iC l i else iC l i:=by
 have e:l.take (i+1)=l.take i++[l.getD i 0]:=by rw[vQ];simp[List.getD,hi]
 unfold iC;rw[e,AV]
 rcases h.at hi with z|z
 ·rw[z,show List.count (-1) [(1:Int)]=0 from rfl,Nat.add_zero,qM (show ¬(1:Int) = -1 by decide)]
 ·rw[z,show List.count (-1) [(-1:Int)]=1 from rfl,zj (show(-1:Int) = -1 from rfl)]
  by_cases q:(l.take i).count (-1)%2=0
  ·rw[zj q,qM (by omega)];rfl
  ·rw[qM q,zj (by omega)];rfl
theorem DD (OF:l.count (-1)%2=0)(hi:i<l.length):iC l (nx l.length i)=iC l (i+1):=by
 unfold nx
 by_cases z:i+1=l.length
 ·rw[z,Nat.mod_self];unfold iC;rw[vt,zj OF];rfl
 ·rw[Bj (by omega)]
theorem ma (l:List Int):(gA l).length=l.length:=by unfold gA;rw[vW,Ed]
theorem uO (hi:i<l.length):(gA l).getD ((i:Nat):Int).toNat 0=iC l i:=by
 rw[F5,Ae];unfold gA;rw[wN,List.getElem?_range hi];rfl
theorem D8 {R:Type} [Lean.Grind.CommRing R](bs:List Int)(i j:Int):(fl bs (cX [i,j]):R)=fl bs [i]*fl bs [j]:=by
 have e:∀ks:List Int,(fl bs ks:R)=if ∀k∈ks,bs.getD k.toNat 0≠0 then 1 else 0:=λks=>by
  unfold fl
  by_cases z:eZ bs ks=true
  ·rw[zj z,zj (ip.mp z)]
  ·rw[qM z,qM λq=>z (ip.mpr q)]
 have m:(∀k∈cX [i,j],bs.getD k.toNat 0≠0)↔bs.getD i.toNat 0≠0/\bs.getD j.toNat 0≠0:=⟨λh=>⟨h i (dj.mpr (by simp)),h j (dj.mpr (by simp))⟩,λh k hk=>by
  rcases BN.mp (dj.mp hk) with z|z
  ·rw[z];exact h.1
  ·rw[yP.mp z];exact h.2⟩
 have s:∀i:Int,(∀k∈[i],bs.getD k.toNat 0≠0)↔bs.getD i.toNat 0≠0:=λi=>by simp
 rw[e,e,e];simp only[m,s]
 by_cases h1:bs.getD i.toNat 0=0 <;> by_cases h2:bs.getD j.toNat 0=0 <;> simp[h1,h2] <;> grind
theorem yq {R:Type} [Lean.Grind.CommRing R](hi:i<l.length):(fl (gA l) [((i:Nat):Int)]:R)=if iC l i=0 then 0 else 1:=by
 unfold fl
 have e:eZ (gA l) [((i:Nat):Int)]=true↔iC l i≠0:=by
  rw[ip];constructor
  ·intro h;have:=h _ (yP.mpr rfl);rwa[uO hi] at this
  ·intro h k hk;rw[yP.mp hk,uO hi];exact h
 by_cases z:iC l i=0
 ·rw[zj z,qM λq=>e.mp q z]
 ·rw[qM z,zj (e.mpr z)]
theorem BD (hp:FP p)(hl:Sg l)(OF:l.count (-1)%2=0)(hi:i<l.length):(cq p (gA l) (wi p i (nx l.length i:Nat) (l.getD i 0))).1=0:=by
 obtain⟨R,iR,v,V⟩:=hp.v;have hw:=oV hp i (nx l.length i:Nat) (l.getD i 0);have hj:nx l.length i<l.length:=Hz _ (by omega)
 have e:v (cq p (gA l) (wi p i (nx l.length i:Nat) (l.getD i 0)))=v (0,1):=by
  rw[vI V hp hw,Fb V hp,V.zero,D8,(F4 V hp (hl.at hi)).1];show fl (gA l) []-2*fl (gA l) [((nx l.length i:Nat):Int)]-2*fl (gA l) [((i:Nat):Int)]+4*(fl (gA l) [((i:Nat):Int)]*fl (gA l) [((nx l.length i:Nat):Int)]) +-v (ba p (l.getD i 0))*fl (gA l) []=0;rw[yq hi,yq hj,DD OF hi,pW hl hi,show(fl (gA l) []:R)=1 from rfl];have o:(if(1:Int)=0 then(0:R) else 1)=1:=qM (by decide);have n:(if(0:Int)=0 then(0:R) else 1)=0:=zj rfl
  rcases hl.at hi with z|z <;> rw[z]
  ·rw[gE hp,V.one,qM (show ¬(1:Int) = -1 by decide)]
   rcases sJ l i with q|q <;> rw[q]
   ·rw[n];grind
   ·rw[o];grind
  ·rw[lR V hp,zj (show(-1:Int) = -1 from rfl)]
   rcases sJ l i with q|q <;> rw[q]
   ·rw[show(1:Int)-0=1 from rfl,o,n];grind
   ·rw[show(1:Int)-1=0 from rfl,o,n];grind
 rw[V.inj (wB hp hw) (c:=(0,1)) (gW hp) e]
theorem Ci (hp:FP p){n:Nat}{bs:List Int}(i j:Nat)(hi:i<n)(hj:j<n)(hk:k=1\/k = -1):WL p bs (wi p i j k)/\eO (wi p i j k)<=n:=by
 have w:=kD hp i j hk
 have b8:B 20 (320:Int):=by show(320:Int).natAbs<2^20;decide
 have b1:B 20 (1:Int):=by show(1:Int).natAbs<2^20;decide
 have ks:∀t∈wi p i j k,∀x∈t.1,0<=x/\x<(n:Int):=λt ht x hx=>by
  rcases BN.mp ((w.ky t ht).2 x hx) with z|z
  ·omega
  ·have:=yP.mp z;omega
 refine⟨WL.of (m:=20) hp (λt ht=>(w.cd t ht).gn hp (by decide) (by decide) b1 b8) (λt ht=>⟨(w.ky t ht).1,λx hx=>(ks t ht x hx).1,?_⟩) (Gv w.len (by decide)) ?_ (by decide),zE (by omega) λt ht x hx=>(ks t ht x hx).2⟩
 ·have:=(w.key (by decide:(2:Nat)<32) t ht).2;exact Gv this (show 2<64 by decide)
 ·have:=w.len;omega
abbrev Jf:Stmt:=(aQ 48)
abbrev FJ:Stmt:=(aQ 50)
abbrev HR:Stmt:=(aQ 49)
theorem HF:DK Ai Ai (aq Jf):=c9 (by decide +kernel)
theorem GD:DK wo wo (aq FJ):=c9 (by decide +kernel)
theorem Iz:DK vY vY (aq HR):=c9 (by decide +kernel)
def FK (C CF:Addr):Sp:=λvs H Q _=>∃(fl Ju:Addr)(p k:Int),vs=[.ref fl,.int k]/\H fl=some (.ins CF Ju (cL p))/\FP p/\k.natAbs<128/\∀H' x,aA H H'->DO C CF H' x p (tg p [([],ba p k)])->Q (.ref x) H'
def xf (C CF:Addr):Sp:=λvs H Q _=>∃(fl Ju:Addr)(p k:Int),vs=[.ref fl,.int k]/\H fl=some (.ins CF Ju (cL p))/\FP p/\0<=k/\k<60/\∀H' x,aA H H'->DO C CF H' x p (tg p (yT p k))->Q (.ref x) H'
theorem uP (l:List Int):(l.map V.int).countP (λz=>yv z (.int (-1)))=l.count (-1):=by
 rw[List.countP_map,List.count_eq_countP];rfl
structure Rg (l:List Int):Prop where
 sg:Sg l
 lo:3<=l.length
 hi:l.length<=60
 odd:l.count (-1)%2=1
def DH (CF:Addr):Sp:=λvs H Q _=>∃(fl Ju a:Addr)(p:Int)(l:List Int),vs=[.ref fl,.ref a]/\H fl=some (.ins CF Ju (cL p))/\p≠2/\H a=some (.lst (l.map V.int))/\Rg l/\∀H',aA H H'->Q .non H'
variable {CF:Addr}
theorem ES {fs C NN:Addr}{Kp:qo}{tM:Tok}(F:Dp K "number_sum" "number_sum" Jf f fd)(cF:CP K mg CF)(cS:DB K mg C)(MS:Mk K C fs)
 (OG:zG P w K mg base (aO P w) 4 fm J9 vv (ir CF NN))(PZ:L2.ax K J9 vv [.int 1 tM])(OH:L2.Meth K CF "made" fm)
 (Q2:zG P w K mg base (aO P w) 6 fs Kp yg (hV C CF))(L4:L2.ax K Kp yg []):zG P w K mg base (aO P w) 8 f fd Ai (FK C CF):=by
 refine F.okN HF (λvs H Q E h=>?_) (λJw A outer s H vs Q E hr h=>?_)
 ·obtain⟨fl,Ju,p,k,rfl,_⟩:=h;rfl
 ·obtain⟨fl,Ju,p,k,rfl,hf,hp,hk,q⟩:=h;have JO:A8 4 _:=hr.mono (by decide);have Q3:A8 7 _:=hr;refine⟨_,(ak (az (eX MS Q2 Q3 (by rfl) cS.mgC L4 .nil ae (@ai _ _ _ _ _ (pv 0) (@ai _ _ _ _ _ (@cg _ _ _ _ (@ai _ _ _ _ _ (@bu _ _ _ _ _ (@ai _ _ _ _ _ (@bu _ _ _ _ _ af) (@ai _ _ _ _ _ (bH (dvs:=[.int 1]) (pv 0) cF.cl OH OG JO PZ (.cons ⟨_,rfl⟩ .nil) ae (@ai _ _ _ _ _ (pv 1) af rfl)) af rfl) rfl)) af rfl)) af rfl) rfl)))),?_⟩;refine⟨_,rfl,Ag _,λt0 LQ=>?_⟩;have s1:=ao (o:=.tup []) LQ;have e1:upd H t0 (.tup []) t0=some (.tup []):=ah;generalize upd H t0 _=H1 at s1 e1 |-;refine⟨_,rfl,fl,Ju,_,rfl,s1 _ _ hf,rfl,?_⟩;refine⟨_,rfl,qv (s1 _ _ hf) hp λx1 h1=>?_⟩;have s2:=ao (o:=bo (ba p k).1 (ba p k).2) h1;have e2:upd H1 x1 (bo (ba p k).1 (ba p k).2) x1=some (bo (ba p k).1 (ba p k).2):=ah;change HS _ (upd H1 x1 (bo (ba p k).1 (ba p k).2)) _;generalize upd H1 x1 _=H2 at s2 e2 |-;refine⟨gR,λt2 Mv=>?_⟩;have s3:=ao (o:=.tup [.ref t0,.ref x1]) Mv;have e3:upd H2 t2 (.tup [.ref t0,.ref x1]) t2=some (.tup [.ref t0,.ref x1]):=ah;change HS _ (upd H2 t2 (.tup [.ref t0,.ref x1])) _;generalize upd H2 t2 _=H3 at s3 e3 |-;refine⟨wV,λL hL=>?_⟩;have s4:=ao (o:=.lst [.ref t2]) hL;have e4:upd H3 L (.lst [.ref t2]) L=some (.lst [.ref t2]):=ah;change HS _ (upd H3 L (.lst [.ref t2])) _;generalize upd H3 L _=H4 at s4 e4 |-;have Vz:=s3.trans s4;have Ly:=s2.trans Vz;refine λx dx hx Lq ne=>?_;exact xN (ts:=[([],ba p k)]) ((s1.trans Ly) _ _ hf) hp e4 (.cons ⟨t2,t0,x1,rfl,s4 _ _ e3,Ly _ _ e1,Vz _ _ e2⟩ .nil) (Bd.of (m:=8) hp (show 1<64 by decide) (λt m=>by rw[yP.mp m];exact ui hp hk) (show 9*1+7<=4000 by decide) (by decide)) (λt m=>by rw[yP.mp m];exact sX .nil (λi hi=>nomatch hi) (by show 0<4000;decide)) hx Lq ne λH7 s7 hS=>q _ _ ((s1.trans Ly).trans s7) hS
theorem Ee {fs C NN:Addr}{Kp:qo}{tM:Tok}(F:Dp K "signed_place" "signed_place" FJ f fd)(cF:CP K mg CF)(cS:DB K mg C)(MS:Mk K C fs)
 (OG:zG P w K mg base (aO P w) 4 fm J9 vv (ir CF NN))(PZ:L2.ax K J9 vv [.int 1 tM])(OH:L2.Meth K CF "made" fm)
 (Q2:zG P w K mg base (aO P w) 6 fs Kp yg (hV C CF))(L4:L2.ax K Kp yg []):zG P w K mg base (aO P w) 8 f fd wo (xf C CF):=by
 refine F.okN GD (λvs H Q E h=>?_) (λJw A outer s H vs Q E hr h=>?_)
 ·obtain⟨fl,Ju,p,k,rfl,_⟩:=h;rfl
 ·obtain⟨fl,Ju,p,k,rfl,hf,hp,k0,k1,q⟩:=h;have JO:A8 4 _:=hr.mono (by decide);have Q3:A8 7 _:=hr;refine⟨_,(ak (az (eX MS Q2 Q3 (by rfl) cS.mgC L4 .nil ae (@ai _ _ _ _ _ (pv 0) (@ai _ _ _ _ _ (@cg _ _ _ _ (@ai _ _ _ _ _ (@bu _ _ _ _ _ (@ai _ _ _ _ _ (@bu _ _ _ _ _ af) (@ai _ _ _ _ _ (bH (dvs:=[.int 1]) (pv 0) cF.cl OH OG JO PZ (.cons ⟨_,rfl⟩ .nil) ae (@ai _ _ _ _ _ ar af rfl)) af rfl) rfl)) (@ai _ _ _ _ _ (@bu _ _ _ _ _ (@ai _ _ _ _ _ (@bu _ _ _ _ _ (@ai _ _ _ _ _ (pv 1) af rfl)) (@ai _ _ _ _ _ (bH (dvs:=[.int 1]) (pv 0) cF.cl OH OG JO PZ (.cons ⟨_,rfl⟩ .nil) ae (@ai _ _ _ _ _ (dM cK ar) af rfl)) af rfl) rfl)) af rfl) rfl)) af rfl) rfl)))),?_⟩;refine⟨_,rfl,Ag _,λt0 LQ=>?_⟩;have s1:=ao (o:=.tup []) LQ;have e1:upd H t0 (.tup []) t0=some (.tup []):=ah;generalize upd H t0 _=H1 at s1 e1 |-;refine⟨_,rfl,fl,Ju,_,rfl,s1 _ _ hf,rfl,?_⟩;refine qv (s1 _ _ hf) hp λx1 h1=>?_;rw[gE hp];have s2:=ao (o:=bo 1 1) h1;have e2:upd H1 x1 (bo 1 1) x1=some (bo 1 1):=ah;change HS _ (upd H1 x1 (bo 1 1)) _;generalize upd H1 x1 _=H2 at s2 e2 |-;refine⟨gR,λt2 Mv=>?_⟩;have s3:=ao (o:=.tup [.ref t0,.ref x1]) Mv;have e3:upd H2 t2 (.tup [.ref t0,.ref x1]) t2=some (.tup [.ref t0,.ref x1]):=ah;generalize upd H2 t2 _=H3 at s3 e3 |-;refine⟨_,rfl,wV,λt4 Q4=>?_⟩;have s4:=ao (o:=.tup [.int k]) Q4;have e4:upd H3 t4 (.tup [.int k]) t4=some (.tup [.int k]):=ah;generalize upd H3 t4 _=H4 at s4 e4 |-;have Ly:=s2.trans (s3.trans s4);refine⟨_,rfl,fl,Ju,_,rfl,(s1.trans Ly) _ _ hf,rfl,?_⟩;refine⟨_,rfl,qv ((s1.trans Ly) _ _ hf) hp λx5 h5=>?_⟩;have s5:=ao (o:=bo (ba p (-2)).1 (ba p (-2)).2) h5;have e5:upd H4 x5 (bo (ba p (-2)).1 (ba p (-2)).2) x5=some (bo (ba p (-2)).1 (ba p (-2)).2):=ah;change HS _ (upd H4 x5 (bo (ba p (-2)).1 (ba p (-2)).2)) _;generalize upd H4 x5 _=H5 at s5 e5 |-;refine⟨gR,λt6 W8=>?_⟩;have s6:=ao (o:=.tup [.ref t4,.ref x5]) W8;have e6:upd H5 t6 (.tup [.ref t4,.ref x5]) t6=some (.tup [.ref t4,.ref x5]):=ah;change HS _ (upd H5 t6 (.tup [.ref t4,.ref x5])) _;generalize upd H5 t6 _=H6 at s6 e6 |-;refine⟨gR,λL hL=>?_⟩;have s7:=ao (o:=.lst [.ref t2,.ref t6]) hL;have e7:upd H6 L (.lst [.ref t2,.ref t6]) L=some (.lst [.ref t2,.ref t6]):=ah;change HS _ (upd H6 L (.lst [.ref t2,.ref t6])) _;generalize upd H6 L _=H7 at s7 e7 |-;have KG:=s6.trans s7;have Kg:=s5.trans KG;have L6:=s4.trans Kg;have OI:=s3.trans L6;have Nj:=s2.trans OI;refine λx dx hx Lq ne=>?_;have ft:=si hp k;refine xN (ts:=yT p k) ((s1.trans Nj) _ _ hf) hp e7 (.cons ⟨t2,t0,x1,rfl,L6 _ _ e3,Nj _ _ e1,OI _ _ e2⟩ (.cons ⟨t6,t4,x5,rfl,s7 _ _ e6,Kg _ _ e4,KG _ _ e5⟩ .nil)) (ft.th hp (by decide) (by decide) (by decide) (by decide) (by decide)) (λt m=>?_) hx Lq ne λH8 s8 hS=>q _ _ ((s1.trans Nj).trans s8) hS;have:=ft.ky t m;have l:=(ft.key (by decide:(1:Nat)<32) t m).2;exact sX this.1 (λi hi=>by rw[yP.mp (this.2 i hi)];exact⟨k0,k1⟩) (Gv l (by decide:(1:Nat)<4000))
theorem FX {f1 fp fw:Addr}{Q5 Ke JT:qo}{tL tP:Tok}(F:Dp K "checked_ring" "checked_ring" HR f fd)(cF:CP K mg CF)(Kf:mg "isinstance"=none)(Jy:mg "list"=none)(Jv:mg "len"=none)(JL:mg "all"=none)(W9:mg "LEAST_RING"=some (.int 3 tL))(Oz:mg "MOST_PLACES"=some (.int 60 tP))
 (FF1:zG P w K mg base (aO P w) 1 f1 Q5 ["field"] (GB CF))(bF1:L2.ax K Q5 ["field"] [])(mF1:mg "checked_field"=some (.ref f1))(kF1:keepIn K (.ref f1)=true)
 (Xa:zG P w K mg base (aO P w) 1 fp Ke ["self"] (pB CF))(Xb:L2.ax K Ke ["self"] [])(Xc:L2.Meth K CF "prime" fp)
 (FW:zG P w K mg base (aO P w) 1 fw JT Fl A0)(bW:L2.ax K JT Fl [])(mW:mg "is_whole"=some (.ref fw))(kW:keepIn K (.ref fw)=true):zG P w K mg base (aO P w) 2 f fd vY (DH CF):=by
 refine F.okN Iz (λvs H Q E h=>?_) (λJw A outer s H vs Q E hr h=>?_)
 ·obtain⟨fl,Ju,a,p,l,rfl,_⟩:=h;rfl
 ·obtain⟨fl,Ju,a,p,l,rfl,hf,p2,ha,R,q⟩:=h;have JE:A8 1 _:=hr
  refine⟨_,(aj (eB (ay FF1 JE (by rfl) mF1 kF1 bF1 .nil ae (@ai _ _ _ _ _ (pv 0) af rfl)))
   (aj (bc (@aM _ _ _ _ _ _ _ _ dZ (cj (pv 0) cF.cl Xc Xa JE Xb .nil ae) ar (aJ _)) (ak jz) aE)
   (aj (bc (PW.pt (eA (bF (bK (aB aZ (by rfl) Kf (by rfl) (ck (pv 1) (ck (dX (by rfl) Jy (by rfl) (show aI (.ty "list") (.type "list") from rfl)) af))))) (dB (bF (qR iP iP (cu (by rfl) W9 (show aI (.int 3) (.int 3 tL) from⟨_,rfl⟩)) (aB aK (by rfl) Jv A2 (@ai _ _ _ _ _ (pv 1) af rfl)) (cu (by rfl) Oz (show aI (.int 60) (.int 60 tP) from⟨_,rfl⟩))))))) (ak jz) aE)
   (ak (bc (PW.pt (eA (bF (bK (aB (gG rfl) (by rfl) JL (by rfl) (@ai _ _ _ _ _ (dm (N:=["sign"]) (nl:=1) (js:=[]) (osc:=aq HR) ⟨rfl,rfl,by decide +kernel,by decide +kernel,by decide +kernel,rfl,.nil,by decide +kernel⟩ rfl
    (cy (pv 1))
    (λCq fq sq Hq=>aC (i:=0) (by show(["sign"]:p3).Nodup;decide +kernel) rfl (Or.inl rfl) (Or.inr rfl))
    (λCq fq sq Hq=>dk)
    (λCq fq sq Hq=>(dC (ay FW JE (by rfl) mW kW bW .nil ae (@ai _ _ _ _ _ (pv 0) af rfl)) (d9 (@cw _ _ _ _ _ _ _ _ (show eU _ _ (HM K false) from abR) (pv 0) (@bu _ _ _ _ _ (@ai _ _ _ _ _ ar (@ai _ _ _ _ _ (dM cK ar) af rfl) rfl)) (by rfl)))))) af rfl)))) (dB (@aM _ _ _ _ _ _ _ _ dZ (@aH _ _ _ _ _ _ _ _ cJ (kO zU PySem.F.slot_list_count PySem.F.type_list_count qZ (pv 1) (@ai _ _ _ _ _ (dM cK ar) af rfl)) ar) ar (aJ _))))) (ak jz) aE))))),?_⟩
  refine⟨_,rfl,fl,Ju,p,rfl,hf,?_⟩;refine⟨_,rfl,fl,Ju,_,rfl,hf,rfl,fl,Ju,p,rfl,hf,rfl,_,rfl,?_⟩;rw[dW,show(p==2)=false from by simpa using p2];refine bw ?_;refine⟨_,rfl,.ref a,.ty "list",_,_,true,rfl,rfl,.of (.lst ha),rfl,_,rfl,bw ?_⟩;refine⟨_,rfl,a,_,rfl,.inl (aV.of ha),_,_,rfl,rfl,_,rfl,?_⟩;rw[vW,sG (show(3:Int)<=(l.length:Nat) from by have:=R.lo;omega)];refine bZ ⟨_,_,rfl,rfl,_,rfl,?_⟩;rw[sG (show((l.length:Nat):Int)<=60 from by have:=R.hi;omega)];refine bw ?_;refine⟨_,rfl,a,rfl,⟨_,aV.of ha⟩,?_⟩;refine lA (a:=a) (xs:=l.map V.int) (rest:=[]) (λj us H'=>aA H H'/\us=(List.replicate j true).map V.bl) ⟨aA.refl _,rfl⟩ (λj us H' hj h=>?_) (λj x us H' M hj hx h hM=>?_) (λus H' h=>?_)
  ·rw[vW] at hj;refine⟨?_,aV.of (h.1 _ _ ha)⟩;rw[h.2,vW,wj];exact Gv (EW hj R.hi) (by decide)
  ·obtain⟨s1,rfl⟩:=h;rw[wN] at hx;obtain⟨k,ek,rfl⟩:=CU.mp hx;have hk:=R.sg k (v5 ek);refine oP ⟨_,rfl,.int k,"int",rfl,.int k,_,rfl,bZ ?_⟩;refine⟨_,rfl,_,rfl,gR,λtp Wh=>⟨tp,_,rfl,.inr (bf.of ah),rfl,rfl,hM _ _ ⟨s1.trans (ao Wh),?_⟩⟩⟩;rw[List.replicate_succ',Hs]
   rcases hk with rfl|rfl <;> rfl
  obtain⟨s1,rfl⟩:=h;rw[vW];intro D hD;have s2:=ao (o:=.lst ((List.replicate l.length true).map V.bl)) hD;refine⟨D,_,List.replicate l.length true,rfl,aV.of ah,lP _,_,rfl,?_⟩;rw[show(List.replicate l.length true).all id=true from by simp];refine bw ?_;have KR:=s1.trans s2;generalize upd H' D _=H2 at KR |-;refine⟨_,rfl,.inl ⟨rfl,_,aV.of (KR _ _ ha)⟩,_,rfl,a,_,.int (-1),rfl,rfl,aV.of (KR _ _ ha),λz hz=>?_,rfl,?_⟩
  ·obtain⟨k,_,rfl⟩:=Hy.mp hz;rfl
  rw[uP];refine⟨_,_,rfl,rfl,(show(0:Int)<2 by decide),rfl,_,rfl,?_⟩;rw[dW,show(((l.count (-1):Nat):Int)%2==0)=false from by have:=R.odd;simp;omega];exact bw (q _ KR)
end K74
namespace L2
open PySem PySem.Spec PyProof.Rows PySem.W
theorem yF {K:PySem.W.Frag}{a b:Addr}{xs ys:List V}{g:TG}{tb:TS}{D:Ends}{σ:St}{H:Hp}(Pv:Nat->St->Hp->Prop)(le:ys.length=xs.length)(h0:Pv 0 σ H)(hl:∀i σ H,i<=xs.length->Pv i σ H->aV K H a xs/\aV K H b ys)
 (hs:∀i x y T σ H,xs[i]?=some x->ys[i]?=some y->H T=none->Pv i σ H->g (.ref T) σ (upd H T (.tup [x,y])) λσ2 H2=>tb {D with nx:=Pv (i+1),ct:=Pv (i+1),bk:=D.nx} σ2 H2)(hd:∀σ H,Pv xs.length σ H->D.nx σ H):
 ∃W:Nat->Nat->St->Hp->Prop,(∃m,W 0 m σ H)/\∀i m σ H,W i m σ H →
  ((wI K a b).stop i H/\D.nx σ H)\/((wI K a b).go i H/\∃N:St->Hp->Prop,(∀σ' H',N σ' H'->∃m',m'<m/\W (i+1) m' σ' H')/\∀x H',(wI K a b).yld i H x H'->g x σ H' λσ2 H2=>tb {D with nx:=N,ct:=N,bk:=D.nx} σ2 H2):=by
 refine⟨λi m σ H=>m=xs.length-i/\i<=xs.length/\Pv i σ H,⟨xs.length,by simp,Ag _,h0⟩,?_⟩;rintro i m σ H ⟨rfl,hi,p⟩;have q:=hl i σ H hi p
 by_cases JB:i<xs.length
 ·refine .inr ⟨⟨xs,ys,xs[i],ys[i],q.1,q.2,by simp[JB],by simp[le,JB]⟩,Pv (i+1),λσ' H' p'=>⟨xs.length-(i+1),by omega,rfl,JB,p'⟩,λx H' y=>?_⟩;obtain⟨T,u,v,hu,hv,hT,rfl,rfl⟩:=y;exact hs i u v T σ _ (hu xs q.1) (hv ys q.2) hT p
 ·have e:i=xs.length:=by omega
  subst e;exact .inl ⟨⟨xs,ys,q.1,q.2,.inl (zC _)⟩,hd σ H p⟩
end L2
namespace K74
open PySem L2 PySem.W Nm Srt
abbrev HG:Stmt:=(aQ 67)
theorem sY:DK ["_law_prime","_law_places","_law_noughts","_law_degree_here","_law_sums","_law_total","_law_terms","_law_one","_law_more","_law_far"] sR (aq HG):=c9 (by decide +kernel)
def rq (H:Hp)(y:V)(ts:List Tm):Prop:=∃r ys,y=.ref r/\H r=some (.lst ys)/\aS H ys ts
variable {H:Hp}
theorem rq.same {H':Hp}{y:V}{ts:List Tm}(h:rq H y ts)(k:aA H H'):rq H' y ts:=let⟨r,ys,a,b,c⟩:=h;⟨r,ys,a,k _ _ b,aS.keep c (aD.of k)⟩
abbrev jq (C CF:Addr)(p:Int)(H:Hp):List Addr->List (List Tm)->Prop:=Paired (λs ts=>DO C CF H s p ts)
theorem jq.same {C CF:Addr}{p:Int}{H':Hp}{ys:List Addr}{ts:List (List Tm)}(h:jq C CF p H ys ts)(k:aA H H'):jq C CF p H' ys ts:=Paired.agP h λ_ _ z=>DO.same z k
theorem Dg (p:Int)(ts:List Tm):(tg p ts).length<=ts.length:=by
 rw[(cV _).length_eq];exact EW (NI _ _) (kd p ts)
theorem zS {K:Frag}{a:Addr}{ns:List Int}(h:H a=some (.tup (ns.map V.int))):aN K H (.tup (ns.map D.int)) (.ref a):=by
 unfold aN;exact⟨a,_,rfl,bf.of h,uL ns⟩
theorem Bg (ns:List Int):iB (.tup (ns.map D.int))=1:=by unfold iB;rw[Ao]
theorem AO (ns:List Int):iY (.tup (ns.map D.int)) (.tup [])=ns.isEmpty:=by
 cases ns with
 |nil=>rfl
 |cons n ns=>rfl
def Gy (C CF:Addr):Sp:=λvs H Q _=>∃(p n:Int)(ln ls:Addr)(ns:List V)(us:List Addr)(l:List (List Tm×List Tm)),vs=[.int p,.int n,.ref ln,.int 4,.ref ls]/\FP p/\H ln=some (.lst ns)/\Paired (rq H) ns (l.map (·.1))/\H ls=some (.lst (us.map V.ref))/\jq C CF p H us (l.map (·.2)) /\
 (∀x∈l,vR p n x.1 x.2)/\l.length<=60/\Bd p (uS p l)/\tg p (uS p l)=[([],(1,1))]/\∀H',aA H H'->Q (.bl true) H'
variable {P:Iy}{w:World}{K:PySem.W.Frag}{mg:xk}{base:Heap}
set_option maxHeartbeats 1000000 in
theorem EE {f ft fi fp fe fm fg C CF:Addr}{fd JY LJ Ke LY J9 JP:qo}(F:Dp K "_law_is_showing" "_law_is_showing" HG f fd)(cF:CP K mg CF)(cS:DB K mg C)(Kf:mg "isinstance"=none)(Jy:mg "list"=none)(Jv:mg "len"=none)(Kq:mg "zip"=none)
 (Xd:zG P w K mg base (aO P w) 1 ft JY ["self"] (lO C CF))(Xe:L2.ax K JY ["self"] [])(Xf:L2.Meth K C "terms" ft)
 (Xg:zG P w K mg base (aO P w) 1 fi LJ ["self"] (lB C CF))(Xh:L2.ax K LJ ["self"] [])(Xi:L2.Meth K C "field" fi)
 (Xa:zG P w K mg base (aO P w) 1 fp Ke ["self"] (pB CF))(Xb:L2.ax K Ke ["self"] [])(Xc:L2.Meth K CF "prime" fp)
 (FDe:zG P w K mg base (aO P w) 1 fe LY HC Em)(bDe:L2.ax K LY HC [])(mDe:mg "_law_degree"=some (.ref fe))(kDe:keepIn K (.ref fe)=true)
 (Xj:zG P w K mg base (aO P w) 5 fm J9 AX vV)(Xk:L2.ax K J9 AX [])(Xl:mg "_law_multiplied"=some (.ref fm))(Xm:keepIn K (.ref fm)=true)
 (FG:zG P w K mg base (aO P w) 4 fg JP oI Hn)(bG:L2.ax K JP oI [])(mG:mg "_law_gathered"=some (.ref fg))(kG:keepIn K (.ref fg)=true):
 zG P w K mg base (aO P w) 6 f fd sR (Gy C CF):=by
 refine F.okN sY (λvs H Q E h=>?_) (λJw A outer s H vs Q E hr h=>?_)
 ·obtain⟨p,n,ln,ls,ns,us,l,rfl,_⟩:=h;rfl
 ·obtain⟨p,n,ln,ls,ns,us,l,rfl,hp,Xn,Lp,VA,Vi,pr,l15,G,one,q⟩:=h;have KY:A8 5 _:=hr;have JO:A8 4 _:=KY.mono (by decide);have JE:A8 1 _:=KY.mono (by decide)
  refine⟨_,(aj (bc (PW.pt (eA (bF (bK (aB aZ (by rfl) Kf (by rfl) (ck (pv 4) (ck (dX (by rfl) Jy (by rfl) (show aI (.ty "list") (.type "list") from rfl)) af))))) (dB (@aM _ _ _ _ _ _ _ _ ib (aB aK (by rfl) Jv A2 (@ai _ _ _ _ _ (pv 4) af rfl)) (aB aK (by rfl) Jv A2 (@ai _ _ _ _ _ (pv 2) af rfl)) (aJ _))))) (ak (az eY)) aE)
   (aj (@aW _ _ 5 _ _ _ _ sY.nd rfl (Or.inl rfl) (@cg _ _ _ _ af) rfl (Or.inl rfl))
   (aj (dw wk rfl (@Ad _ _ _ _ _ _ _ _ _ _ (pv 2) (pv 4) (by rfl) Kq rfl rfl) (cA rfl (aG (aC (i:=6) sY.nd rfl (Or.inl rfl)) (aG (aC (i:=7) sY.nd rfl (Or.inl rfl)) bX)))
   (aj (@aW _ _ 8 _ _ _ _ sY.nd rfl (Or.inl rfl) (cj (pv 7) cS.cl Xf Xd JE Xe .nil ae) rfl (Or.inl rfl))
   (aj (pe (i:=9) (g:=(jd K 2 (cD (bN 0) (cD (bN 1) CN)))) (N:=["_law_product","_law_number","_law_places"]) (nl:=2) (js:=[1]) (osc:=aq HG) ⟨rfl,rfl,by decide +kernel,by decide +kernel,by decide +kernel,rfl,(.cons ⟨rfl,by decide +kernel⟩ .nil),by decide +kernel⟩ rfl sY.nd rfl (Or.inl rfl)
    (cy (pv 8))
    (λCq fq sq Hq=>(cA (X:=cG _ ["_law_product","_law_number","_law_places"] _ Cq fq sq Hq) rfl (aG (aC (X:=cG _ ["_law_product","_law_number","_law_places"] _ Cq fq sq Hq) (i:=0) (by show(["_law_product","_law_number","_law_places"]:p3).Nodup;decide +kernel) rfl (Or.inl rfl) (Or.inr rfl)) (aG (aC (X:=cG _ ["_law_product","_law_number","_law_places"] _ Cq fq sq Hq) (i:=1) (by show(["_law_product","_law_number","_law_places"]:p3).Nodup;decide +kernel) rfl (Or.inl rfl) (Or.inr rfl)) bX))))
    (λCq fq sq Hq=>(iU (PW.pt (sS (@aM _ _ _ _ _ _ _ _ (show eU _ _ (vJ K true) from rA JE) (pv 0) (@bu _ _ _ _ _ af) (aJ _)) (oQ (@aM _ _ _ _ _ _ _ _ Ck (@a9 _ _ _ _ _ _ _ (show B5 _ (vM K) from br) (pv 0) (dM cK ar) (λ_ _=>rfl)) (pv 2) (aJ _)))))))
    (λCq fq sq Hq=>(pv 0)) (by rfl))
   (aj (bc (PW.pt (eA (@aM _ _ _ _ _ _ _ _ ib (cj (cj (pv 7) cS.cl Xi Xg JE Xh .nil ae) cF.cl Xc Xa JE Xb .nil ae) (pv 0) (aJ _)) (dB (@aM _ _ _ _ _ _ _ _ (show eU _ _ (rJ K) from p9 JE) (pv 9) (@cg _ _ _ _ af) (aJ _))))) (ak (az eY)) aE)
   (aj (bc (PW.pt (sS (@aM _ _ _ _ _ _ _ _ (show eU _ _ (rJ K) from p9 JE) (pv 8) (@cg _ _ _ _ af) (aJ _)) (oQ (@aM _ _ _ _ _ _ _ _ uH (@aH _ _ _ _ _ _ _ _ eK (ay FDe JE (by rfl) mDe kDe bDe .nil ae (@ai _ _ _ _ _ (pv 8) af rfl)) (ay FDe JE (by rfl) mDe kDe bDe .nil ae (@ai _ _ _ _ _ (pv 6) af rfl))) (pv 3) (aJ _))))) (ak (az eY)) aE)
   (ak (@aW _ _ 5 _ _ _ _ sY.nd rfl (Or.inl rfl) (@aH _ _ _ _ _ _ _ _ jV (pv 5) (ay Xj KY (by rfl) Xl Xm Xk .nil ae (@ai _ _ _ _ _ (pv 0) (@ai _ _ _ _ _ (pv 6) (@ai _ _ _ _ _ (pv 8) af rfl) rfl) rfl))) rfl (Or.inl rfl))))))))
   (ak (az (@cw _ _ _ _ _ _ _ _ (show eU _ _ (vJ K false) from xQ JE) (ay FG JO (by rfl) mG kG bG .nil ae (@ai _ _ _ _ _ (pv 0) (@ai _ _ _ _ _ (pv 5) af rfl) rfl)) (@cg _ _ _ _ (@ai _ _ _ _ _ (@bu _ _ _ _ _ (@ai _ _ _ _ _ (@bu _ _ _ _ _ af) (@ai _ _ _ _ _ (@bu _ _ _ _ _ (@ai _ _ _ _ _ ar (@ai _ _ _ _ _ ar af rfl) rfl)) af rfl) rfl)) af rfl)) (aJ _))))))),?_⟩
  have nl:=Lp.length;have ul:=Vi.length;rw[vW] at nl ul;refine⟨_,rfl,.ref ls,.ty "list",_,_,true,rfl,rfl,.of (.lst VA),rfl,_,rfl,bw ?_⟩;refine⟨_,rfl,ls,_,rfl,.inl (aV.of VA),_,rfl,ln,_,rfl,.inl (aV.of Xn),rfl,_,rfl,?_⟩;rw[dW,vW,nl,ul,show((l.length:Int)==(l.length:Int))=true from by simp];refine bw ?_;refine⟨Ag _,λL hL=>?_⟩;have s1:=ao (o:=.lst []) hL;have e1:upd H L (.lst []) L=some (.lst []):=ah;generalize upd H L _=H1 at s1 e1 |-;refine⟨_,rfl,_,rfl,ln,ls,ns,_,rfl,aV.of (s1 _ _ Xn),aV.of (s1 _ _ VA),?_⟩;refine yF (xs:=ns) (ys:=us.map V.ref) (λi σ H'=>aA H H'/\(∃L ws,H' L=some (.lst ws)/\aS H' ws (uS p (l.take i))/\ws.length<=20*i/\∃o6 o7 o8 o9,σ=[some (.int p),some (.int n),some (.ref ln),some (.int 4),some (.ref ls),some (.ref L),o6,o7,o8,o9])) (by rw[vW];omega) ⟨s1,L,[],e1,.nil,zC _,_,_,_,_,rfl⟩ (λi σ H' _ h=>⟨aV.of (h.1 _ _ Xn),aV.of (h.1 _ _ VA)⟩) ?_ ?_
  ·rintro i y z T σ H2 hy hz hT ⟨s2,L,ws,hL,hw,wl,o6,o7,o8,o9,rfl⟩
   have hk:i<l.length:=by
    have:=(Be.mp hy).1;omega
   have ex:l[i]?=some l[i]:=Ff hk;obtain⟨QA,x9,J6,y9,yn,th⟩:=pr l[i] (zP hk);obtain⟨ts,et,LR⟩:=aY Lp hy;rw[wN,ex] at et
   cases et
   rw[wN] at hz;obtain⟨u,eu,rfl⟩:=CU.mp hz;obtain⟨ts,et,SR⟩:=aY Vi eu;rw[wN,ex] at et
   cases et
   generalize l[i]=x at ex QA x9 J6 y9 yn th LR SR;obtain⟨x1,x2⟩:=x;have s3:=ao (o:=.tup [y,.ref u]) hT;have eT:upd H2 T (.tup [y,.ref u]) T=some (.tup [y,.ref u]):=ah;generalize upd H2 T _=H3 at s3 eT |-;have sA:=s2.trans s3;obtain⟨r,rs,rfl,P1,VB⟩:=LR.same sA;obtain⟨dx,fl,Ju,Dd,zs,k1,k2,k3,k4⟩:=(SR.same sA).ex;have hw:=aS.keep hw (aD.of s3);have hL:=s3 _ _ hL;have x9:x1.length<=5:=x9;have y9:x2.length<=4:=y9;have J6:∀t∈x2,Gn p 4000 t.2/\BY t/\t.1.length<=2/\∀k∈t.1,k<n:=J6;have th:Bd p (dF p x1 x2):=th;have VB:aS H3 rs x1:=VB;clear hT s2 s3 LR SR;refine⟨T,_,rfl,bf.of eT,rfl,_,_,rfl,_,_,rfl,rfl,?_⟩;refine⟨_,rfl,u,dx,_,rfl,k1,rfl,u,dx,fl,Dd,zs,rfl,k1,k3,λlm hlm=>?_⟩;have s4:=ao (o:=.lst zs) hlm;have e4:upd H3 lm (.lst zs) lm=some (.lst zs):=ah;generalize upd H3 lm _=H4 at s4 e4 |-;have k4:=aS.keep k4 (aD.of s4);have zl:zs.length=x2.length:=k4.length;refine⟨_,rfl,lm,rfl,⟨_,aV.of e4⟩,?_⟩;refine jj (xs:=zs) (rest:=[some (.int n)]) (λi us H'=>aA H4 H'/\us=[]) ⟨aA.refl _,rfl⟩ (λi us H' hi h=>?_) (λi x us H' hi hx h=>?_) (λus H' h=>?_)
   ·rw[h.2];exact⟨by decide,aV.of (h.1 _ _ e4)⟩
   ·obtain⟨s5,rfl⟩:=h;obtain⟨t,et,a,pr,nu,rfl,ha,JQ,JZ⟩:=aY (aS.keep k4 (aD.of s5)) hx;obtain⟨_,_,_,tn⟩:=J6 t (v5 et);refine⟨a,.ref pr,.ref nu,rfl,bf.of ha,λN hN=>?_⟩;refine⟨_,rfl,Ag _,λt0 LQ=>?_⟩;have s6:=ao (o:=.tup []) LQ;refine⟨.tup (t.1.map D.int),.tup [],zS (s6 _ _ JQ),⟨t0,[],rfl,bf.of ah,rfl⟩,(by rw[Bg];decide),_,rfl,?_⟩;rw[AO]
    cases e0:t.1.isEmpty with
    |true=>exact bw (bw (hN _ _ ⟨s5.trans s6,rfl⟩))
    |false =>
     have ne:t.1≠[]:=λz=>by rw[z] at e0;cases e0
     have lt:=tn (t.1.getLastD 0) (by
      rw[vx,AE ne]
      exact List.getLast_mem ne)
     refine bZ ⟨_,rfl,_,rfl,pr,_,-1,_,rfl,rfl,bf.of (s6 _ _ JQ),jQ ne,_,rfl,_,_,rfl,rfl,_,rfl,?_⟩;rw[Fx (by omega:¬n<=t.1.getLastD 0)];exact bw (hN _ _ ⟨s5.trans s6,rfl⟩)
   obtain⟨s5,rfl⟩:=h;intro lf hlf;have s6:=ao (o:=.lst []) hlf;have e6:upd H' lf (.lst []) lf=some (.lst []):=ah;generalize upd H' lf _=H6 at s6 e6 |-;have VC:=s5.trans s6;have P2:=s4.trans VC;refine⟨_,rfl,u,dx,_,rfl,P2 _ _ k1,rfl,u,dx,fl,Dd,rfl,P2 _ _ k1,?_⟩;refine⟨fl,Ju,_,rfl,P2 _ _ k2,rfl,fl,Ju,p,rfl,P2 _ _ k2,_,rfl,rfl,_,rfl,?_⟩;rw[dW,show(p==p)=true from by simp];refine bw ⟨_,rfl,Ag _,λl0 Xo=>?_⟩;have s7:=ao (o:=.lst []) Xo;have e7:upd H6 l0 (.lst []) l0=some (.lst []):=ah;generalize upd H6 l0 _=H7 at s7 e7 |-;refine⟨lf,l0,[],rfl,rfl,aV.of (s7 _ _ e6),aV.of e7,_,rfl,bw ?_⟩;refine⟨_,rfl,Ag _,λl1 JV=>?_⟩;have s8:=ao (o:=.lst []) JV;have e8:upd H7 l1 (.lst []) l1=some (.lst []):=ah;generalize upd H7 l1 _=H8 at s8 e8 |-;have OJ:=VC.trans (s7.trans s8)
   have zn:zs≠[]:=λz=>by
    rw[z] at zl;exact yn (mn.mp zl.symm)
   refine⟨lm,l1,zs,rfl,rfl,aV.of (OJ _ _ e4),aV.of e8,_,rfl,?_⟩;rw[Fx zn];refine bZ ⟨_,rfl,lm,zs,_,rfl,OJ _ _ e4,aS.keep k4 (aD.of OJ),EW y9 (by decide),λm1 H9 s9 m0 hm=>?_⟩
   have m1e:m1<=2:=by
    rcases hm with h|⟨t,h,h'⟩
    ·omega
    ·have:=(J6 t h).2.2.1;omega
   have Q6:=s4.trans (OJ.trans s9);refine⟨_,rfl,r,rs,_,rfl,Q6 _ _ P1,aS.keep VB (aD.of Q6),EW x9 (by decide),λm2 Mw My m20 hm=>?_⟩
   have m2l:m2<=2:=by
    rcases hm with h|⟨t,h,h'⟩
    ·omega
    ·have:=(QA t h).2.2;omega
   refine⟨_,_,rfl,rfl,_,rfl,_,_,rfl,rfl,_,rfl,?_⟩;rw[Fx (by omega:¬4<m1+m2)];refine bw ?_;have OK:=Q6.trans My;have Q7:=OJ.trans (s9.trans My);refine⟨_,rfl,_,rfl,_,rfl,_,rfl,p,r,lm,rs,zs,x1,_,rfl,hp,OK _ _ P1,aS.keep VB (aD.of OK),Q7 _ _ e4,aS.keep k4 (aD.of Q7),Gv (BI x9 y9) (by decide),λt h=>⟨(QA t h).1,(QA t h).2.1⟩,λt h=>⟨(J6 t h).1,(J6 t h).2.1⟩,th,λXp Dm ms KH nD hD Vu=>?_⟩;have OL:=OK.trans KH
   have ml:ms.length<=20:=by
    rw[Vu.length];refine EW (Dg _ _) ?_;rw[gS];exact BI x9 y9
   have il:i<=59:=by omega
   refine⟨L,Dm,ws,ms,rfl,rfl,OL _ _ hL,hD,EW (by omega:_<=1300) (by decide),λL2 P4 _ Ks P5=>?_⟩;refine⟨sA.trans (OL.trans Ks),L2,_,P5,?_,by rw[tE];omega,_,_,_,_,rfl⟩;rw[vQ,ex];unfold uS;rw[List.flatMap_append];refine iT (aS.keep hw (aD.of (OL.trans Ks))) ?_;rw[Option.toList_some,List.flatMap_singleton];exact aS.keep Vu (aD.of Ks)
  ·rintro σ H2 ⟨s2,L,ws,hL,hw,wl,o6,o7,o8,o9,rfl⟩;rw[nl,vt] at hw;refine⟨_,rfl,_,rfl,L,p,ws,_,rfl,hp,hL,hw,G,λH3 D zs s3 nD hD hz=>?_⟩;refine⟨Ag _,λt1 Lx=>?_⟩;have s4:=ao (o:=.tup []) Lx;have e4:upd H3 t1 (.tup []) t1=some (.tup []):=ah;generalize upd H3 t1 _=H4 at s4 e4 |-;refine⟨gR,λt2 Mv=>?_⟩;have s5:=ao (o:=.tup [.int 1,.int 1]) Mv;have e5:upd H4 t2 (.tup [.int 1,.int 1]) t2=some (bo 1 1):=ah;generalize upd H4 t2 _=H5 at s5 e5 |-;refine⟨gR,λt3 ht3=>?_⟩;have s6:=ao (o:=.tup [.ref t1,.ref t2]) ht3;have e6:upd H5 t3 (.tup [.ref t1,.ref t2]) t3=some (.tup [.ref t1,.ref t2]):=ah;generalize upd H5 t3 _=H6 at s6 e6 |-;refine⟨wV,λt4 Q4=>?_⟩;have s7:=ao (o:=.lst [.ref t3]) Q4;have e7:upd H6 t4 (.lst [.ref t3]) t4=some (.lst [.ref t3]):=ah;generalize upd H6 t4 _=H7 at s7 e7 |-;have L6:=s4.trans (s5.trans (s6.trans s7));have hz:aS H3 zs (tg p (uS p l)):=hz;rw[one] at hz;refine⟨_,_,lF (L6 _ _ hD) (aS.keep hz (aD.of L6)),lF (ts:=[([],(1,1))]) e7 (.cons ⟨t3,t1,t2,rfl,s7 _ _ e6,s7 _ _ (s6 _ _ (s5 _ _ e4)),s7 _ _ (s6 _ _ e5)⟩ .nil),ajx _,?_⟩;rw[eN];exact q H7 (s2.trans (s3.trans L6))
end K74
namespace L2
open PySem PySem.Spec PyProof.Rows
section
variable {prog:Iy}{w:World}{A:Around}{R:Result->Shared->Prop}{s:AL}
theorem qV (elt:Expr)(g0:Comprehension)(target iter:Expr)(ifs:vH)(scope:Scope)(pos:Pos)(it acc:Value)(env:Env):
 compTurn (.ListComp elt [g0,⟨target,iter,ifs,0⟩] scope pos) 1 it acc env=(do
  standAt iter.pos
  match <-pyNext it with
  |none=>pure (.done .next)
  |some v=>do
   letOwnedTupleGo target it v
   assign target env v
   let ok <-forIn ifs true λc r=>if r=true then do let ok <-PySem.isTrue c env (eval c env);pure (ForInStep.yield ok) else pure (ForInStep.yield r)
   if ok=true then do
    let _ <-(do
     let x <-eval elt env
     let _ <-call (Value.builtin "list.append") [acc,x]
     pure ())
    again (.compLoop (.ListComp elt [g0,⟨target,iter,ifs,0⟩] scope pos) 1 it acc env)
   else again (.compLoop (.ListComp elt [g0,⟨target,iter,ifs,0⟩] scope pos) 1 it acc env)):=by
 unfold compTurn;rfl
theorem oq (elt t0 i0:Expr)(t1 i1:Expr)(Mz if1:vH)(scope:Scope)(pos:Pos)(it acc:Value)(env:Env):
 compTurn (.ListComp elt [⟨t0,i0,Mz,0⟩,⟨t1,i1,if1,0⟩] scope pos) 0 it acc env=(do
  standAt i0.pos
  match <-pyNext it with
  |none=>pure (.done .next)
  |some v=>do
   letOwnedTupleGo t0 it v
   assign t0 env v
   let ok <-forIn Mz true λc r=>if r=true then do let ok <-PySem.isTrue c env (eval c env);pure (ForInStep.yield ok) else pure (ForInStep.yield r)
   if ok=true then do
    let x <-eval i1 env
    standAt i1.pos
    let x <-foldedSetIterable i1 env x
    let y <-holding [x] (pyIter x)
    let _ <-runOwn (.compStart (.ListComp elt [⟨t0,i0,Mz,0⟩,⟨t1,i1,if1,0⟩] scope pos) 1 y acc env) env
    again (.compLoop (.ListComp elt [⟨t0,i0,Mz,0⟩,⟨t1,i1,if1,0⟩] scope pos) 0 it acc env)
   else again (.compLoop (.ListComp elt [⟨t0,i0,Mz,0⟩,⟨t1,i1,if1,0⟩] scope pos) 0 it acc env)):=by
 unfold compTurn;rfl
theorem qL {elt target iter:Expr}{g0:Comprehension}{ifs:vH}{scope:Scope}{pos:Pos}{it acc:Value}{env:Env}(I:Nat->Shared->Prop)
 (turn:∀n s,I n s->wpAny (model prog w) A (pyNext it) (λr s₁=>match r with
  |none=>R (.ok .next) s₁
  |some v=>wpAny (model prog w) A (letOwnedTupleGo target it v) (λ_ s₁=>wpAny (model prog w) A (assign target env v) (λ_ s₂ =>
   wpAny (model prog w) A (forIn ifs true λc r=>if r=true then do let ok <-isTrue c env (eval c env);pure (ForInStep.yield ok) else pure (ForInStep.yield r)) (λok s₃ =>
    if ok=true then wpAny (model prog w) A (eval elt env) (λx s₄ =>
     wpAny (model prog w) A (call (.builtin "list.append") [acc,x]) (λ_ s₅=>∃m,m<n/\I m s₅) (λ_ _=>False) s₄) (λ_ _=>False) s₃
    else ∃m,m<n/\I m s₃) (λ_ _=>False) s₂) (λ_ _=>False) s₁) (λ_ _=>False) s₁) (λ_ _=>False) s)
 (n:Nat)(h:I n s):
 codeAny (model prog w) A (.compLoop (.ListComp elt [g0,⟨target,iter,ifs,0⟩] scope pos) 1 it acc env) R s:=by
 refine codeAny_loop rfl I (λn s hI=>?_) n h;show wpAny _ A ((compTurn (.ListComp elt [g0,⟨target,iter,ifs,0⟩] scope pos) 1 it acc env).onRaise (λx=>do noteFrame x env;theTreesLotGoes x)) _ _ s;refine wpAny_noted ?_;rw[qV];refine C7 (vy (C7 (vF (turn n s hI) (λr s₁ h₁=>?_) λ_ _ z=>False.elim z)))
 cases r with
 |none=>exact pO h₁
 |some v =>
  refine C7 (vF h₁ (λ_ ZK Qs=>?_) λ_ _ z=>False.elim z);refine C7 (vF Qs (λ_ s₂ h₂=>C7 (vF h₂ (λok s₃ h₃=>?_) λ_ _ z=>False.elim z)) λ_ _ z=>False.elim z)
  cases ok with
  |false=>exact pO ⟨rfl,h₃⟩
  |true =>
   exact C7 (C7 (vF h₃ (λx s₄ h₄=>C7 (vF h₄ (λ_ s₅ h₅=>pO (pO ⟨rfl,h₅⟩)) λ_ _ z=>False.elim z)) λ_ _ z=>False.elim z))
theorem oX {elt t0 i0 t1 i1:Expr}{Mz if1:vH}{scope:Scope}{pos:Pos}{it acc:Value}{env:Env}(I:Nat->Shared->Prop)(Q8:∀x,foldedSetIterable i1 env x=pure x)
 (turn:∀n s,I n s->wpAny (model prog w) A (pyNext it) (λr s₁=>match r with
  |none=>R (.ok .next) s₁
  |some v=>wpAny (model prog w) A (letOwnedTupleGo t0 it v) (λ_ s₁=>wpAny (model prog w) A (assign t0 env v) (λ_ s₂ =>
   wpAny (model prog w) A (forIn Mz true λc r=>if r=true then do let ok <-isTrue c env (eval c env);pure (ForInStep.yield ok) else pure (ForInStep.yield r)) (λok s₃ =>
    if ok=true then wpAny (model prog w) A (eval i1 env) (λx s₄ =>
     wpAny (model prog w) A (holding [x] (pyIter x)) (λy s₅=>wpAny (model prog w) A (runOwn (.compStart (.ListComp elt [⟨t0,i0,Mz,0⟩,⟨t1,i1,if1,0⟩] scope pos) 1 y acc env) env) (λ_ s₆=>∃m,m<n/\I m s₆) (λ_ _=>False) s₅) (λ_ _=>False) s₄) (λ_ _=>False) s₃
    else ∃m,m<n/\I m s₃) (λ_ _=>False) s₂) (λ_ _=>False) s₁) (λ_ _=>False) s₁) (λ_ _=>False) s)
 (n:Nat)(h:I n s):
 codeAny (model prog w) A (.compLoop (.ListComp elt [⟨t0,i0,Mz,0⟩,⟨t1,i1,if1,0⟩] scope pos) 0 it acc env) R s:=by
 refine codeAny_loop rfl I (λn s hI=>?_) n h;show wpAny _ A ((compTurn (.ListComp elt [⟨t0,i0,Mz,0⟩,⟨t1,i1,if1,0⟩] scope pos) 0 it acc env).onRaise (λx=>do noteFrame x env;theTreesLotGoes x)) _ _ s;refine wpAny_noted ?_;rw[oq];refine C7 (vy (C7 (vF (turn n s hI) (λr s₁ h₁=>?_) λ_ _ z=>False.elim z)))
 cases r with
 |none=>exact pO h₁
 |some v =>
  refine C7 (vF h₁ (λ_ ZK Qs=>?_) λ_ _ z=>False.elim z);refine C7 (vF Qs (λ_ s₂ h₂=>C7 (vF h₂ (λok s₃ h₃=>?_) λ_ _ z=>False.elim z)) λ_ _ z=>False.elim z)
  cases ok with
  |false=>exact pO ⟨rfl,h₃⟩
  |true =>
   refine C7 (vF h₃ (λx s₄ h₄=>?_) λ_ _ z=>False.elim z);refine C7 (vy ?_);rw[Q8];refine C7 (pO ?_);exact C7 (vF h₄ (λy s₅ h₅=>C7 (vF h₅ (λ_ s₆ h₆=>pO ⟨rfl,h₆⟩) λ_ _ z=>False.elim z)) λ_ _ z=>False.elim z)
theorem gQ {elt target iter g0 ifs scope pos it acc env}
 (h0:codeAny (model prog w) A (.compLoop (.ListComp elt [g0,⟨target,iter,ifs,0⟩] scope pos) 1 it acc env) R s)
 (h:wpAny (model prog w) A (pyIter it) (λXq s'=>codeAny (model prog w) A (.compLoop (.ListComp elt [g0,⟨target,iter,ifs,0⟩] scope pos) 1 Xq acc env) R s')
  (notedBy (model prog w) A env λx s'=>R (.error x) s') s):
 codeAny (model prog w) A (.compStart (.ListComp elt [g0,⟨target,iter,ifs,0⟩] scope pos) 1 it acc env) R s:=by
 refine codeAny_of_tree ?_;show wpAny _ _ ((compStart (.ListComp elt [g0,⟨target,iter,ifs,0⟩] scope pos) 1 it acc env).onRaise (λx=>do noteFrame x env;standAt theWindowsPlace)) _ _ s;refine wpAny_notedAt ?_;unfold compStart;show wpAny _ _ (ask>>=_) _ _ s;refine C7 (wK (wpAny_ite ?_))
 split
 ·first
   |exact C7 (pO (pO (And.intro rfl h0)))
   |exact pO (And.intro rfl h0)
 ·first
   |exact C7 (wD (C7 (vy (C7 (vF h (λXq s' h'=>pO (And.intro rfl h')) λ_ _ x=>x)))))
   |(refine C7 (wD ?_);show wpAny _ _ (standAt iter.pos>>=_) _ _ s;exact C7 (vy (C7 (vF h (λXq s' h'=>pO (And.intro rfl h')) λ_ _ x=>x))))
end
variable {te:TE}
section
variable {X:Cx}{tg iter elt Nk J0:Expr}{ifs Lr:vH}{scope osc:Scope}{pos:Pos}{N:p3}{nl:Nat}{js:List Nat}
def EH (J:It)(g:TG)(tt:TT)(te:TE)(W:Nat->Nat->List V->St->Hp->Prop)(Fin:List V->St->Hp->Prop):Prop :=
 ∀i m xs σ' H',W i m xs σ' H'->xs.length<sizeLine/\((J.stop i H'/\Fin xs σ' H') \/
  (J.go i H'/\∀x H2,J.yld i H' x H2->g x σ' H2 λσ3 H3=>tt σ3 H3 λb H4 =>
   if b=true then te σ3 H4 λy H5=>∃m',m'<m/\W (i+1) m' (xs++[y]) σ3 H5 else ∃m',m'<m/\W (i+1) m' xs σ3 H4))
def sf (J:It)(g:TG)(tt:TT)(wi1:TI)(g1:TG)(MQ:TT)(te:TE)(W:Nat->Nat->List V->St->Hp->Prop)(Fin:List V->Hp->Prop):Prop :=
 ∀i m xs σ' H',W i m xs σ' H'->xs.length<sizeLine/\((J.stop i H'/\Fin xs H') \/
  (J.go i H'/\∀x H2,J.yld i H' x H2->g x σ' H2 λσ3 H3=>tt σ3 H3 λb H4 =>
   if b=true then wi1 σ3 H4 λJ1 H5=>∃W1:Nat->Nat->List V->St->Hp->Prop,(∃m1,W1 0 m1 xs σ3 H5)/\EH J1 g1 MQ te W1 λys σ6 H6=>∃m',m'<m/\W (i+1) m' ys σ6 H6
   else ∃m',m'<m/\W (i+1) m' xs σ3 H4))
theorem qx {pins:List (Addr×Obj)}{σ:St}{H:Hp}{s:AL}{J:It}{it:Addr}{fp:List Addr}{tn:Nat->Heap->Prop}{g g1:TG}{tt MQ:TT}{wi1:TI}{W:Nat->Nat->List V->St->Hp->Prop}{Fin:List V->Hp->Prop}
 {E:Bf}{RR:Value->Addr->Result->Shared->Prop}
 (S:BG X N nl js osc scope)(hc:X.calm=true)(hg:∀C fp s H,PG (cG X N scope C fp s H) tg g)(ht:∀C fp s H,AU (cG X N scope C fp s H) ifs tt)(Xr:∀C fp s H,PI (cG X N scope C fp s H) Nk J0 wi1)(Xs:∀C fp s H,PG (cG X N scope C fp s H) Nk g1)(Lx:∀C fp s H,AU (cG X N scope C fp s H) Lr MQ)(he:∀C fp s H,PE (cG X N scope C fp s H) elt te)
 (I:Inv X pins σ H s)(T:Turn X.prog X.w X.K tg J fp it tn)(st:tn 0 s.heap)(f:∀b∈fp,c7 X pins H b)(w0:∃m,W 0 m [] (σC nl js σ) H)(hW:sf J g tt wi1 g1 MQ te W Fin)(Ol:∀env x,foldedSetIterable J0 env x=pure x)
 (V8:∀(D C:Addr)(H':Hp)(s':AL)(xs:List V)(m:xk),Inv X pins σ (upd H' D (.lst xs)) s'->H' D=none->s'.heap.Ns C m->c7 X pins (upd H' D (.lst xs)) C->Fin xs H'->RR (.ref D) C (.ok .next) s'):
 wpAny (model X.prog X.w) X.A (newList []) (λacc s₃=>wpAny (model X.prog X.w) X.A (newFunctionEnv scope X.env.globals (eM scope.names X.env) [] X.env.qual none .none (some X.env)) (λLC s₄ =>
  codeAny (model X.prog X.w) X.A (.compStart (.ListComp elt [⟨tg,iter,ifs,0⟩,⟨Nk,J0,Lr,0⟩] scope pos) 0 (.ref it) acc {LC with scope:=relabel scope X.env}) (RR acc LC.locals) s₄) E s₃) E s:=by
 have MH:∀b∈fp,b<s.heap.objs.size:=λb hb=>by
  obtain⟨o,e,_⟩:=T.obj 0 _ st b hb;exact Ec e
 refine Dr (wpAny_newFunctionEnv S.cell (by intro y hy;simp at hy) (λh₁ K3 Kt=>?_) S.kind);dsimp only at K3 Kt |-;generalize N8:s.heap.push {cls:=.type "list",dict:=none,data:=.seq ([]:yX).toArray}=H2 at K3 Kt |-
 have hC:H2.objs.size=s.heap.objs.size+1:=by rw[<-N8,DG]
 have Mp:s.heap.objs.size≠H2.objs.size:=by rw[hC];exact Ie (xO _)
 have below:∀b,b<s.heap.objs.size->b≠H2.objs.size/\b≠s.heap.objs.size:=λb hb=>⟨by rw[hC];exact Ie (rG hb),Ie hb⟩;have old:∀b o,s.heap.get? b=some o->h₁.get? b=some o:=λb o e=>Kt.extBut b o (below b (Ec e)).1 (wa _ (N8▸wa _ e));have N9:h₁.get? s.heap.objs.size=some {cls:=.type "list",data:=.seq ([]:yX).toArray 0}:=Kt.extBut _ _ Mp (wa _ (N8▸Hr _ rfl))
 have LD:s.heap.objs.size<=H2.objs.size:=by rw[hC];exact jL _
 have Kd:∀y∈scope.names,y.2=.free->∃c,X.env.cells.lookup y.1=some c:=λy hy hf=>by
  have z:=S.free y hy hf;rw[<-S.out] at z;exact I.ok.has y.1 z
 have sub:∀x c,(eM scope.names X.env).lookup x=some c->X.env.cells.lookup x=some c:=λx c e=>ke Kd e
 have V9:∀x c,(eM scope.names X.env).lookup x=some c->c<s.heap.objs.size:=λx c e=>by
  obtain⟨v,q⟩:=I.cell x c (sub x c e);exact q.lt
 have N7:∀b∈fp,b∉eV X.stack:=λb hb z=>by
  rcases BN.mp (I.agN b z) with q|q
  ·exact(f b hb).2.1 q
  ·exact(f b hb).2.2.1 q
 have PH:s.heap.objs.size∉eV X.stack:=λz=>by
  rcases BN.mp (I.agN _ z) with q|q
  ·exact absurd I.lt (by rw[<-q];exact CD _)
  ·exact I.ajM (zC _) q
 have Qu:s.heap.objs.size∉fp:=λz=>CD _ (MH _ z)
 have Oa:∀{H':Hp}{ob:Obj},(∀b∈fp,H' b=none)->∀b∈fp,c7 (cG X N scope H2.objs.size fp s H) [(s.heap.objs.size,ob)] H' b:=λ{H' ob} hn b hb =>
  ⟨hn b hb,(below b (MH b hb)).1,N7 b hb,.inl hb,λx c e=>(f b hb).2.2.2.2.1 x c (sub x c e),λp hp z=>by
   have e:p=(s.heap.objs.size,ob):=by
    have:p∈[(s.heap.objs.size,ob)]:=hp;simpa using this
   subst e
   exact Qu (by rw[show s.heap.objs.size=b from z];exact hb)⟩
 have Wa:∀{H':Hp},H' s.heap.objs.size=none->c7 (cG X N scope H2.objs.size fp s H) [] H' s.heap.objs.size:=λ{H'} hn =>
  ⟨hn,Mp,PH,.inr (zC _),λx c e=>Ie (V9 x c e),λp hp=>absurd (show p∈([]:List (Addr×Obj)) from hp) (by simp)⟩
 have MI:∀{σ':St}{H':Hp}{s':AL}{ys:yX}{k:Nat},Inv (cG X N scope H2.objs.size fp s H) [] σ' H' s'->H' s.heap.objs.size=none->s'.heap.get? s.heap.objs.size=some (iJ ys k) →
  Inv (cG X N scope H2.objs.size fp s H) [(s.heap.objs.size,iJ ys k)] σ' H' s':=λ{σ' H' s' ys k} I' hn hl=>I'.afF λp hp=>by
  have e:p=(s.heap.objs.size,iJ ys k):=by simpa using hp
  subst e;exact⟨hl,hn,Mp,PH,λv z=>by cases z⟩
 have lD:∀s₃:Shared,s₃={s with heap:=h₁,toks:=s.toks+([]:List (Str×Value)).length} →
  codeAny (model X.prog X.w) X.A (.compLoop (.ListComp elt [⟨tg,iter,ifs,0⟩,⟨Nk,J0,Lr,0⟩] scope pos) 0 (.ref it) (.ref s.heap.objs.size) (compEnvC scope (eM scope.names X.env) H2.objs.size X.env))
   (RR (.ref s.heap.objs.size) H2.objs.size) s₃:=by
  rintro s₃ rfl;obtain⟨m0,w0⟩:=w0;have I0:Inv (cG X N scope H2.objs.size fp s H) [] (σC nl js σ) H {s with heap:=h₁,toks:=s.toks+([]:List (Str×Value)).length}:=mJ S I f MH LD old K3
  refine oX (λn s'=>∃i σ' H' xs ys k,Inv (cG X N scope H2.objs.size fp s H) [(s.heap.objs.size,iJ ys k)] σ' H' s'/\tn i s'.heap/\(∀b∈fp,H' b=none)/\aR xs ys/\W i n xs σ' H') (Ol _) ?_ m0
   ⟨0,σC nl js σ,H,[],[],0,MI I0 (I.hok.fresh (zC _)) N9,T.keep _ _ _ st λb _ o e=>old b o e,λb hb=>(f b hb).1,.nil,w0⟩
  rintro n s' ⟨i,σ',H',xs,ys,k,I',Kb,Qv,rv,w'⟩;obtain⟨hz,hw⟩:=hW i n xs σ' H' w'
  rcases hw with⟨stop,fin⟩|⟨go,step⟩
  ·refine vF (T.done (cG X N scope H2.objs.size fp s H) rfl rfl rfl hc i _ s' σ' H' (λ_ _=>False) I' (Oa Qv) Kb stop) (λr s1 z'=>?_) λ_ _ z=>z;obtain⟨hr,I1⟩:=z';subst hr;obtain⟨p1,p2,_⟩:=I1.pin (s.heap.objs.size,iJ ys k) (by show _∈([]:List (Addr×Obj))++[_];simp);have u1:Un (eV X.stack) fp H H' s.heap s1.heap:=I1.base
   have u2:Un (eV X.stack) fp H (upd H' s.heap.objs.size (.lst xs)) s.heap s1.heap:=⟨u1.keep,u1.slot,λb o e n hx=>by rw[av (Ie (Ec e))];exact u1.free b o e n hx,u1.there,
    λb zs e=>by rw[av (au (u1.agG b zs e) p2)];exact u1.agG b zs e,λb o zs e=>by rw[av (au (u1.afH b o zs e) p2)];exact u1.afH b o zs e,λb ps e=>by
     obtain⟨mo,q⟩:=u1.agR b ps e
     exact⟨mo,by rw[av (au q p2)];exact q⟩⟩
   have hk:gB X.prog X.w (upd H' s.heap.objs.size (.lst xs)) s1.heap:=eG I1.hok p2 ⟨xa hz,ys,k,rv,p1⟩;have I3:Inv X pins σ (upd H' s.heap.objs.size (.lst xs)) s1:=I.ajt I1.os u2 hk I1.bare λb hb=>⟨(f b hb).2.2.2.1,(f b hb).2.1,(f b hb).2.2.2.2.1,(f b hb).2.2.2.2.2⟩;obtain⟨mm,Wc,_⟩:=I1.loc
   have Wd:upd H' s.heap.objs.size (.lst xs) H2.objs.size=none:=by rw[av (Jm Mp)];exact I1.free
   exact V8 _ _ H' s1 xs mm I3 p2 Wc (I.aha LD Wd) fin
  ·refine vF (T.item (cG X N scope H2.objs.size fp s H) rfl rfl rfl hc i _ s' σ' H' (λ_ _=>False) I' (Oa Qv) Kb go) (λr s1 z'=>?_) λ_ _ z=>z;obtain⟨u,hr,h4⟩:=z';subst hr;refine vF h4 (λ_ s2 z'=>?_) λ_ _ z=>z;obtain⟨x,Qw,I2,r2,y2,K1,We⟩:=z';have Wf:=I2.pinned (Oa We) (T.obj _ _ K1);refine vF (hg _ _ _ _ _ s2 σ' Qw x u _ Wf r2 (step x Qw y2)) (λ_ s3 z'=>?_) λ_ _ z=>z;obtain⟨σ3,H3,I3,q3⟩:=z';refine vF (ht _ _ _ _ _ s3 σ3 H3 _ I3 q3) (λok s4 z'=>?_) λ_ _ z=>z;obtain⟨H4,I4,q4⟩:=z'
   have L7:∀{s5:AL}{H5:Hp}{σ5:St}{ys5:yX}{k5:Nat},Inv (cG X N scope H2.objs.size fp s H) ([(s.heap.objs.size,iJ ys5 k5)]++dQ fp s2.heap) σ5 H5 s5->tn (i+1) s5.heap/\∀b∈fp,H5 b=none:=λ{s5 H5 σ5 ys5 k5} I5 =>
    ⟨T.keep _ _ _ K1 λb hb o e=>(I5.pin (b,o) (GZ _ (GZ _ (cN hb e)))).1,λb hb=>by
     obtain⟨o,e,d⟩:=T.obj _ _ K1 b hb
     exact(I5.pin (b,o) (GZ _ (GZ _ (cN hb e)))).2.1⟩
   cases ok with
   |false =>
    rw[qM IA] at q4 |-;obtain⟨m',hm,w4⟩:=q4;exact⟨m',hm,i+1,σ3,H4,xs,ys,k,I4.afC,(L7 I4).1,(L7 I4).2,rv,w4⟩
   |true =>
    rw[zj rfl] at q4 |-;refine vF (Xr _ _ _ _ _ s4 σ3 H4 _ I4 q4) (λv s5 h5=>tj (vF h5 (λPy s6 h6=>?_) λ_ _ z=>z)) λ_ _ z=>z;obtain⟨it1,P6,tn1,J1,H6,e,I6,T1,st6,f6,W1,⟨m1,w1⟩,hW1⟩:=h6;subst e;have pl:∀{s7:AL}{H7:Hp}{σ7:St}{KZ:yX}{k7:Nat},Inv (cG X N scope H2.objs.size fp s H) ([(s.heap.objs.size,iJ KZ k7)]++dQ fp s2.heap) σ7 H7 s7->∀p∈dQ fp s2.heap,s7.heap.get? p.1=some p.2/\H7 p.1=none/\p.1≠H2.objs.size/\p.1∉eV X.stack/\∀v,p.2.data≠.cell v:=λI7 p hp=>I7.pin p (GZ _ (GZ _ hp))
    have Xu:∀{H7:Hp}{KZ:yX}{k7:Nat},(∀b∈P6,H7 b=none)->∀b∈P6,c7 (cG X N scope H2.objs.size fp s H) ([(s.heap.objs.size,iJ KZ k7)]++dQ fp s2.heap) H7 b:=λ{H7 KZ k7} hn b hb=>by
     obtain⟨g0,Wo,g2,g3,g4,g5⟩:=f6 b hb;refine⟨hn b hb,Wo,g2,g3,g4,λp hp=>?_⟩
     rcases rQ.mp (show p∈[(s.heap.objs.size,iJ KZ k7)]++dQ fp s2.heap from hp) with z|z
     ·have e:p=(s.heap.objs.size,iJ KZ k7):=by simpa using z
      subst e;exact g5 (s.heap.objs.size,iJ ys k) (GZ _ (Jp _ (by simp)))
     ·exact g5 p (GZ _ (GZ _ z))
    refine wpAny_runOwn ?_;show codeAny _ X.A _ _ s6
    have Nl:codeAny (model X.prog X.w) X.A (.compLoop (.ListComp elt [⟨tg,iter,ifs,0⟩,⟨Nk,J0,Lr,0⟩] scope pos) 1 (.ref it1) (.ref s.heap.objs.size) (compEnvC scope (eM scope.names X.env) H2.objs.size X.env))
     (λr s'=>match r with
      | .ok f=>∃m,m<n/\∃i σ' H' xs ys k,Inv (cG X N scope H2.objs.size fp s H) [(s.heap.objs.size,iJ ys k)] σ' H' s'/\tn i s'.heap/\(∀b∈fp,H' b=none)/\aR xs ys/\W i m xs σ' H'
      | .error e=>cameBackBy (model X.prog X.w) X.A (compEnvC scope (eM scope.names X.env) H2.objs.size X.env) (λ_ _=>False) e s') s6:=by
     refine qL (λn' s'=>∃j σ' H' xs' ys' k',Inv (cG X N scope H2.objs.size fp s H) ([(s.heap.objs.size,iJ ys' k')]++dQ fp s2.heap) σ' H' s'/\tn1 j s'.heap/\(∀b∈P6,H' b=none)/\aR xs' ys'/\W1 j n' xs' σ' H') ?_ m1
      ⟨0,σ3,H6,xs,ys,k,I6,st6,λb hb=>(f6 b hb).1,rv,w1⟩
     rintro n' s7 ⟨j,σ7,H7,VD,KZ,k7,I7,st7,fr7,VE,w7⟩;obtain⟨hz7,hw7⟩:=hW1 j n' VD σ7 H7 w7
     rcases hw7 with⟨stop,m',hm,fin⟩|⟨go,step⟩
     ·refine vF (T1.done (cG X N scope H2.objs.size fp s H) rfl rfl rfl hc j _ s7 σ7 H7 (λ_ _=>False) I7 (Xu fr7) st7 stop) (λr s8 z'=>?_) λ_ _ z=>z;obtain⟨hr,I8⟩:=z';subst hr;have bk:=L7 I8;exact⟨m',hm,i+1,σ7,H7,VD,KZ,k7,I8.afC,bk.1,bk.2,VE,fin⟩
     ·refine vF (T1.item (cG X N scope H2.objs.size fp s H) rfl rfl rfl hc j _ s7 σ7 H7 (λ_ _=>False) I7 (Xu fr7) st7 go) (λr s8 z'=>?_) λ_ _ z=>z;obtain⟨u8,hr,h8⟩:=z';subst hr;refine vF h8 (λ_ s9 z'=>?_) λ_ _ z=>z;obtain⟨x9,H9,I9,r9,y9,Xv,fr9⟩:=z';have I9':=I9.pinned (Xu fr9) (T1.obj _ _ Xv);refine vF (Xs _ _ _ _ _ s9 σ7 H9 x9 u8 _ I9' r9 (step x9 H9 y9)) (λ_ sa z'=>?_) λ_ _ z=>z;obtain⟨σa,Ha,Ia,qa⟩:=z';refine vF (Lx _ _ _ _ _ sa σa Ha _ Ia qa) (λok sb z'=>?_) λ_ _ z=>z;obtain⟨Hb,Ib,qb⟩:=z'
      have L8:∀{sc:AL}{Hc:Hp},Inv (cG X N scope H2.objs.size fp s H) (([(s.heap.objs.size,iJ KZ k7)]++dQ fp s2.heap)++dQ P6 s9.heap) σa Hc sc->tn1 (j+1) sc.heap/\∀b∈P6,Hc b=none:=λ{sc Hc} Ic =>
       ⟨T1.keep _ _ _ Xv λb hb o e=>(Ic.pin (b,o) (GZ _ (GZ _ (cN hb e)))).1,λb hb=>by
        obtain⟨o,e,d⟩:=T1.obj _ _ Xv b hb
        exact(Ic.pin (b,o) (GZ _ (GZ _ (cN hb e)))).2.1⟩
      cases ok with
      |false =>
       rw[qM IA] at qb |-;obtain⟨m',hm,wb⟩:=qb;exact⟨m',hm,j+1,σa,Hb,VD,KZ,k7,Ib.afC,(L8 Ib).1,(L8 Ib).2,VE,wb⟩
      |true =>
       rw[zj rfl] at qb |-;refine vF (he _ _ _ _ _ sb σa Hb _ Ib qb) (λvc sc z'=>?_) λ_ _ z=>z;obtain⟨yc,Hc,Ic,rc,m',hm,wc⟩:=z';obtain⟨stc,frc⟩:=L8 Ic;have Id:=Ic.afC;obtain⟨p1,p2,_⟩:=Id.pin (s.heap.objs.size,iJ KZ k7) (GZ _ (Jp _ (by simp)));have df1:s.heap.objs.size∉P6:=λhb=>(f6 _ hb).2.2.2.2.2 (s.heap.objs.size,iJ ys k) (GZ _ (Jp _ (by simp))) rfl;refine append_at (its:=KZ.toArray) p1 (λh' Qy hD=>?_) (by rw[D4,<-VE.length];exact xa hz7);have I10:Inv (cG X N scope H2.objs.size fp s H) [] σa Hc {sc with heap:=h'}:=cW (Id.afF (pins':=[]) λp hp=>absurd hp (by simp)) (Wa p2) Qy
       have Oi:h'.get? s.heap.objs.size=some (iJ (KZ++[vc]) (k7+1)):=by
        rw[hD];show some _=some (iJ (KZ++[vc]) (k7+1));rw[iJ,<-List.push_toArray]
       refine⟨m',hm,j+1,σa,Hc,VD++[yc],KZ++[vc],k7+1,I10.afF λp hp=>?_,T1.keep _ _ _ stc λb hb o e=>(Qy.2 b λz=>df1 (z▸hb)).trans e,frc,VE.append (.cons rc .nil),wc⟩
       rcases rQ.mp hp with z|z
       ·have e:p=(s.heap.objs.size,iJ (KZ++[vc]) (k7+1)):=by simpa using z
        subst e;exact⟨Oi,p2,Mp,PH,λv z=>by cases z⟩
       ·obtain⟨a1,a2,a3,a4,a5⟩:=pl Id p z;exact⟨(Qy.2 p.1 λe=>Qu (e▸(om z).1)).trans a1,a2,a3,a4,a5⟩
    exact gQ Nl (T1.self X.A 0 _ _ _ st6 Nl)
 exact codeAny_compStart_list (lD _ rfl) (T.self X.A 0 _ _ _ (T.keep _ _ _ st λb _ o e=>old b o e) (lD _ rfl))
def Di (wi:TI)(g:TG)(tt:TT)(wi1:TI)(g1:TG)(MQ:TT)(te:TE)(nl:Nat)(js:List Nat):TE:=λσ H Q=>wi σ H λJ H1 =>
 ∃W:Nat->Nat->List V->St->Hp->Prop,(∃m,W 0 m [] (σC nl js σ) H1)/\sf J g tt wi1 g1 MQ te W λxs H'=>∀D,H' D=none->Q (.ref D) (upd H' D (.lst xs))
theorem yu {wi wi1:TI}{g g1:TG}{tt MQ:TT}(S:BG X N nl js osc scope)(hc:X.calm=true)(hi:PI X tg iter wi)(hg:∀C fp s H,PG (cG X N scope C fp s H) tg g)(ht:∀C fp s H,AU (cG X N scope C fp s H) ifs tt)
 (Xr:∀C fp s H,PI (cG X N scope C fp s H) Nk J0 wi1)(Xs:∀C fp s H,PG (cG X N scope C fp s H) Nk g1)(Lx:∀C fp s H,AU (cG X N scope C fp s H) Lr MQ)
 (he:∀C fp s H,PE (cG X N scope C fp s H) elt te)(hs:∀x,foldedSetIterable iter X.env x=pure x:=by intro _;rfl)(Ol:∀env x,foldedSetIterable J0 env x=pure x:=by intro _ _;rfl):
 PE X (.ListComp elt [⟨tg,iter,ifs,0⟩,⟨Nk,J0,Lr,0⟩] scope pos) (Di wi g tt wi1 g1 MQ te nl js):=by
 intro pins s σ H Q I h;rw[eval_ListComp];refine DC (use:=none) rfl hs (iw S I) S.kind S.names (bO (hi pins s σ H _ I h) λv s1 h1=>bO h1 λPy s2 h2=>?_);obtain⟨it,fp,tn,J,H2,e,I2,T,K1,f2,W,w0,hW⟩:=h2;subst e;refine qx (RR:=λacc C=>compPost (model X.prog X.w) X.A X.xe none (EP X pins σ Q) acc C) S hc hg ht Xr Xs Lx he I2 T K1 f2 w0 hW Ol ?_;intro D C H' s' xs m I3 hD hn fC fin;exact⟨m,hn,λh' sb=>⟨.ref D,_,cW I3 fC sb,rfl,fin D hD⟩⟩
end
theorem Dq {K:PySem.W.Frag}{a a1:Addr}{xs xs1:List V}{wi1:TI}{rest:St}{H:Hp}{F:List V->Hp->Prop}(Pv:Nat->List V->Hp->Prop)(Pw:Nat->V->V->Nat->List V->Hp->Prop)(h0:Pv 0 [] H)
 (hz:∀i ys H',i<=xs.length->Pv i ys H'->ys.length<sizeLine/\aV K H' a xs)
 (hs:∀i x ys H',i<xs.length->xs[i]?=some x->Pv i ys H'->∃b u v,x=.ref b/\bf K H' b [u,v]/\Pw i u v 0 ys H'/\∀o2 o3 R,R (zZ K a1) H'->wi1 (some u::some v::o2::o3::rest) H' R)
 (Mr:∀i u v j ys H',i<xs.length->j<=xs1.length->Pw i u v j ys H'->ys.length<sizeLine/\aV K H' a1 xs1)
 (Ou:∀i u v j x ys H',i<xs.length->j<xs1.length->xs1[j]?=some x->Pw i u v j ys H'->∃b u' v',x=.ref b/\bf K H' b [u',v'] /\
  ∀(N:List V->Hp->Prop),(∀zs H5,Pw i u v (j+1) zs H5->N zs H5)->te (some u::some v::some u'::some v'::rest) H' λy H5=>N (ys++[y]) H5)
 (he1:∀i u v ys H',i<xs.length->Pw i u v xs1.length ys H'->Pv (i+1) ys H')
 (hd:∀ys H',Pv xs.length ys H'->F ys H'):
 ∃W:Nat->Nat->List V->St->Hp->Prop,(∃m,W 0 m [] (none::none::none::none::rest) H)/\sf (zZ K a) (jd K 2 (cD (bN 0) (cD (bN 1) CN))) EY wi1 (jd K 2 (cD (bN 2) (cD (bN 3) CN))) EY te W F:=by
 refine⟨λi m ys σ H'=>m=xs.length-i/\i<=xs.length/\Pv i ys H'/\∃o o1 o2 o3,σ=o::o1::o2::o3::rest,⟨xs.length,by simp,Ag _,h0,none,none,none,none,rfl⟩,?_⟩;rintro i m ys σ H' ⟨rfl,hi,p,o,o1,o2,o3,rfl⟩;obtain⟨z1,z2⟩:=hz i ys H' hi p;refine⟨z1,?_⟩
 by_cases JB:i<xs.length
 ·refine .inr ⟨⟨xs,xs[i],z2,by simp[JB]⟩,λx H2 hy=>?_⟩;obtain⟨rfl,hx⟩:=hy;obtain⟨b,u,v,rfl,hb,pw,h⟩:=hs i x ys H2 JB (hx xs z2) p;refine⟨_,[u,v],rfl,hb,rfl,_,_,rfl,_,_,rfl,rfl,?_⟩;refine oP (h _ _ _ ⟨λj m ys σ H'=>m=xs1.length-j/\j<=xs1.length/\Pw i u v j ys H'/\∃o2 o3,σ=some u::some v::o2::o3::rest,⟨xs1.length,by simp,Ag _,pw,_,_,rfl⟩,?_⟩);rintro j m ys σ H' ⟨rfl,hj,p,o2,o3,rfl⟩;obtain⟨z1,z2⟩:=Mr i u v j ys H' JB hj p;refine⟨z1,?_⟩
  by_cases LI:j<xs1.length
  ·refine .inr ⟨⟨xs1,xs1[j],z2,by simp[LI]⟩,λx H2 hy=>?_⟩;obtain⟨rfl,hx⟩:=hy;obtain⟨b,u',v',rfl,hb,h⟩:=Ou i u v j x ys H2 JB LI (hx xs1 z2) p;refine⟨_,[u',v'],rfl,hb,rfl,_,_,rfl,_,_,rfl,rfl,?_⟩;exact oP (h (λzs H5=>∃m',m'<xs1.length-j/\m'=xs1.length-(j+1)/\j+1<=xs1.length/\Pw i u v (j+1) zs H5/\∃o2 o3,(some u::some v::some u'::some v'::rest:St)=some u::some v::o2::o3::rest) λzs H5 h=>⟨xs1.length-(j+1),by omega,rfl,LI,h,_,_,rfl⟩)
  ·have:j=xs1.length:=by omega
   subst this;exact .inl ⟨⟨xs1,z2,zC _⟩,xs.length-(i+1),by omega,rfl,JB,he1 i u v ys H' JB p,_,_,_,_,rfl⟩
 ·have:i=xs.length:=by omega
  subst this;exact .inl ⟨⟨xs,z2,zC _⟩,hd ys H' p⟩
end L2
namespace K74
open PySem L2 PySem.W Nm Srt
abbrev DP:Stmt:=aF (aQ 37) 11
def xU (C CF UN:Addr):Sp:=λvs H Q E=>∃(s s':Addr)(p p':Int)(a b:List Tm),vs=[.ref s,.ref s']/\DO C CF H s p a/\DO C CF H s' p' b/\FP p/\a.length*b.length<4000 /\
 (∀t∈a,Gn p 4000 t.2/\BY t)/\(p'=p->(∀t∈b,Gn p 4000 t.2/\BY t)/\Bd p (dF p a b)/\∀H' u,aA H H'->jZ C CF H H' u p (tg p (dF p a b))->Q (.ref u) H')/\(p'≠p->E (.ref UN) none H)
theorem Ce:DK ["self","other","field"] rM (aq DP):=c9 (by decide +kernel)
variable {P:Iy}{w:World}{K:PySem.W.Frag}{mg:xk}{base:Heap}
set_option maxHeartbeats 1000000 in
theorem wy {f fl fo ft fb C CF UN:Addr}{fd JX Nf JY Lg:qo}(F:Dp K "times" "Sum.times" DP f fd)(c:mz K mg C)(cF:CP K mg CF)(mU:mg "Unlike"=some (.ref UN))(qU:jb K UN zK lJ=true)
 (W0:zG P w K mg base (aO P w) 2 fl JX yk (sr C CF))(W2:L2.ax K JX yk [])(W3:L2.Meth K C "is_like" fl)
 (FTo:zG P w K mg base (aO P w) 1 fo Nf yh Bn)(bTo:L2.ax K Nf yh [])(mTo:mg "together"=some (.ref fo))(kTo:keepIn K (.ref fo)=true)
 (Ov:zG P w K mg base (aO P w) 4 ft JY Gw (lY CF fU))(Ow:L2.ax K JY Gw [])(Ox:L2.Meth K CF "times" ft)
 (QQ:zG P w K mg base (aO P w) 8 fb Lg E2 (jT C CF))(QR:L2.ax K Lg E2 [])(QS:mg "built"=some (.ref fb))(QT:keepIn K (.ref fb)=true):
 zG P w K mg base (aO P w) 9 f fd rM (xU C CF UN):=by
 refine F.okE Ce (λvs H Q E h=>?_) (λJw A outer s H vs Q E hr h=>?_)
 ·obtain⟨s,s',p,p',a,b,rfl,_⟩:=h;rfl
 ·obtain⟨s0,s1,p,p',a,b,rfl,S,S1,hp,hl,ga,q1,q2⟩:=h;have KD:A8 8 _:=hr;have JO:A8 4 _:=KD.mono (by decide);have JR:A8 2 _:=KD.mono (by decide);have JE:A8 1 _:=KD.mono (by decide)
  refine⟨_,(aj (bc (bF (bK (bH (pv 0) c.c.cl W3 W0 JR W2 .nil ae (@ai _ _ _ _ _ (pv 1) af rfl)))) (ak (dY DI qU rfl cO (by rfl) mU (@ai _ _ _ _ _ gf af rfl))) aE)
   (aj (@aW _ _ 2 _ _ _ _ Ce.nd rfl (Or.inr rfl) (bD (pv 0) rfl) rfl (Or.inl rfl))
   (ak (az (ay QQ KD (by rfl) QS QT QR .nil ae (@ai _ _ _ _ _ (pv 2) (@ai _ _ _ _ _ (yu (wi1:=B8 K (F9 K (gr 4) "its_terms")) (g:=jd K 2 (cD (bN 0) (cD (bN 1) CN))) (g1:=jd K 2 (cD (bN 2) (cD (bN 3) CN))) (N:=["product","number","more","factor","other","field"]) (nl:=4) (js:=[1,2]) (osc:=aq DP) ⟨rfl,rfl,by decide +kernel,by decide +kernel,by decide +kernel,rfl,(.cons ⟨rfl,by decide +kernel⟩ (.cons ⟨rfl,by decide +kernel⟩ .nil)),by decide +kernel⟩ rfl
    (cy (bD (pv 0) rfl))
    (λCq fq sq Hq=>(cA (X:=cG _ ["product","number","more","factor","other","field"] _ Cq fq sq Hq) rfl (aG (aC (X:=cG _ ["product","number","more","factor","other","field"] _ Cq fq sq Hq) (i:=0) (by show(["product","number","more","factor","other","field"]:p3).Nodup;decide +kernel) rfl (Or.inl rfl) (Or.inr rfl)) (aG (aC (X:=cG _ ["product","number","more","factor","other","field"] _ Cq fq sq Hq) (i:=1) (by show(["product","number","more","factor","other","field"]:p3).Nodup;decide +kernel) rfl (Or.inl rfl) (Or.inr rfl)) bX))))
    (λCq fq sq Hq=>dk)
    (λCq fq sq Hq=>(cy (X:=cG _ ["product","number","more","factor","other","field"] _ Cq fq sq Hq) (bD (X:=cG _ ["product","number","more","factor","other","field"] _ Cq fq sq Hq) (pv (X:=cG _ ["product","number","more","factor","other","field"] _ Cq fq sq Hq) 4) rfl)))
    (λCq fq sq Hq=>(cA (X:=cG _ ["product","number","more","factor","other","field"] _ Cq fq sq Hq) rfl (aG (aC (X:=cG _ ["product","number","more","factor","other","field"] _ Cq fq sq Hq) (i:=2) (by show(["product","number","more","factor","other","field"]:p3).Nodup;decide +kernel) rfl (Or.inl rfl) (Or.inr rfl)) (aG (aC (X:=cG _ ["product","number","more","factor","other","field"] _ Cq fq sq Hq) (i:=3) (by show(["product","number","more","factor","other","field"]:p3).Nodup;decide +kernel) rfl (Or.inl rfl) (Or.inr rfl)) bX))))
    (λCq fq sq Hq=>dk)
    (λCq fq sq Hq=>(@bu _ _ _ _ _ (@ai _ _ _ _ _ (ay FTo JE (by rfl) mTo kTo bTo .nil ae (@ai _ _ _ _ _ (pv 0) (@ai _ _ _ _ _ (pv 2) af rfl) rfl)) (@ai _ _ _ _ _ (bH (pv 5) cF.cl Ox Ov JO Ow .nil ae (@ai _ _ _ _ _ (pv 1) (@ai _ _ _ _ _ (pv 3) af rfl) rfl)) af rfl) rfl)))) af rfl) rfl)))))),?_⟩
  obtain⟨dx,Mt,Ju,Dd,zs,h1,h2,h3,h4⟩:=S.ex;obtain⟨QU,Vv,MP,QV,Vw,g1,g2,g3,g4⟩:=S1.ex;refine⟨_,rfl,s0,dx,_,rfl,h1,rfl,_,rfl,s0,s1,p,p',a,b,rfl,S,S1,_,rfl,?_⟩
  by_cases e:p'=p
  ·rw[sG e];obtain⟨gb,G,q1⟩:=q1 e;refine bw ⟨_,rfl,s0,C,dx,_,_,rfl,h1,c.c.cl,c.c.nF,rfl,?_⟩;have za:=h4.length;have zb:=g4.length;refine⟨_,rfl,_,rfl,s0,C,dx,_,_,rfl,h1,c.c.cl,c.c.nT,rfl,Dd,rfl,⟨_,aV.of h3⟩,?_⟩
   refine Dq (xs:=zs) (xs1:=Vw) (a1:=QV) (λi us H'=>aA H H'/\aS H' us (dF p (a.take i) b)) (λi u v j us H'=>aA H H'/\∃x pr nu,a[i]?=some x/\u=.ref pr/\v=.ref nu/\H pr=some (.tup (x.1.map V.int))/\H nu=some (bo x.2.1 x.2.2)/\aS H' us (dF p (a.take i) b++(b.take j).map λy=>(cX (x.1++y.1),cz p x.2 y.2)))
    ⟨aA.refl _,.nil⟩ (λi us H' hi h=>?_) (λi v us H' hi WY h=>?_) (λi u v j us H' hi hj h=>?_) (λi u v j y us H' hi hj hy h=>?_) (λi u v us H' hi h=>?_) (λus H' h=>?_)
   ·refine⟨?_,aV.of (h.1 _ _ h3)⟩;rw[h.2.length,gS,rh];exact Gv (tW _ (AH _ _)) (HY hl (by decide))
   ·obtain⟨sH,hu⟩:=h;obtain⟨x,ex,at_,pr,nu,rfl,LX,JQ,JZ⟩:=aY h4 WY;refine⟨at_,.ref pr,.ref nu,rfl,bf.of (sH _ _ LX),⟨sH,x,pr,nu,ex,rfl,rfl,JQ,JZ,by simpa using hu⟩,λo2 o3 R hR=>?_⟩;exact⟨_,rfl,s1,C,QU,_,_,rfl,sH _ _ g1,c.c.cl,c.c.nT,rfl,QV,rfl,⟨_,aV.of (sH _ _ g3)⟩,hR⟩
   ·obtain⟨sH,x,pr,nu,ex,rfl,rfl,JQ,JZ,hu⟩:=h;refine⟨?_,aV.of (sH _ _ g3)⟩;rw[hu.length,tE,gS,vW,rh,rh]
    have hi:i<a.length:=by omega
    have h1:min i a.length=i:=by omega
    have h2:min j b.length=j:=by omega
    rw[h1,h2];have h3:(i+1)*b.length<=a.length*b.length:=tW _ (by omega);rw[Nat.succ_mul] at h3;exact HY (show _<4000 by omega) (by decide)
   ·obtain⟨sH,x,pr,nu,ex,rfl,rfl,JQ,JZ,hu⟩:=h;obtain⟨z,ez,at2,W6,Vx,rfl,OA,OB,OC⟩:=aY g4 hy;have gx:=ga x (v5 ex);have gz:=gb z (v5 ez)
    have OD:b.take (j+1)=b.take j++[z]:=by rw[vQ,ez];rfl
    refine⟨at2,.ref W6,.ref Vx,rfl,bf.of (sH _ _ OA),λN k=>?_⟩;refine⟨_,rfl,_,rfl,pr,W6,x.1,z.1,rfl,sH _ _ JQ,sH _ _ OB,gx.2.1,gz.2.1,(by have:=gx.2.2;have:=gz.2.2;omega),λcc H3 s3 ec=>?_⟩;have Lz:=sH.trans s3;refine⟨_,rfl,Mt,Ju,_,rfl,Lz _ _ h2,rfl,_,rfl,_,rfl,Mt,Ju,nu,Vx,p,x.2.1,x.2.2,z.2.1,z.2.2,rfl,Lz _ _ h2,hp,Lz _ _ JZ,Lz _ _ OC,gx.1.2.1,gx.1.2.2,gz.1.2.1,gz.1.2.2,gx.1.ne,gz.1.ne,λa1 KC=>?_⟩;have r1:=ao (o:=bo (cz p x.2 z.2).1 (cz p x.2 z.2).2) KC;have e1:upd H3 a1 (bo (cz p x.2 z.2).1 (cz p x.2 z.2).2) a1=some (bo (cz p x.2 z.2).1 (cz p x.2 z.2).2):=ah;change HS _ (upd H3 a1 (bo (cz p x.2 z.2).1 (cz p x.2 z.2).2)) _;generalize upd H3 a1 (bo (cz p x.2 z.2).1 (cz p x.2 z.2).2)=H4 at r1 e1 |-;refine⟨gR,λtu PY=>?_⟩;have r2:=ao (o:=.tup [.ref cc,.ref a1]) PY;have Oy:=r1.trans r2;refine k _ _ ⟨Lz.trans Oy,x,pr,nu,ex,rfl,rfl,JQ,JZ,?_⟩;rw[OD,Hs,<-AA];exact mx (aS.keep hu (aD.of (s3.trans Oy))) ⟨tu,cc,a1,rfl,ah,Oy _ _ ec,r2 _ _ e1⟩
   ·obtain⟨sH,x,pr,nu,ex,rfl,rfl,JQ,JZ,hu⟩:=h
    have Kl:a.take (i+1)=a.take i++[x]:=by rw[vQ,ex];rfl
    refine⟨sH,?_⟩;rw[Kl,nV];rw[zb,vt] at hu;exact hu
   ·obtain⟨sH,hu⟩:=h;rw[za,vt] at hu;intro l hl;have r1:=ao (o:=.lst us) hl;exact⟨Mt,Ju,l,p,_,_,rfl,r1 _ _ (sH _ _ h2),hp,ah,aS.keep hu (aD.of r1),G,λH2 u s2 WZ=>q1 _ u ((sH.trans r1).trans s2) (WZ.of (sH.trans r1))⟩
  ·rw[Fx e];exact bZ ⟨by decide,q2 e⟩
end K74
namespace L2
open PySem PySem.Spec PyProof.Rows PySem.W
def xJ (lo c:Int)(n:Nat):It:=⟨λi _=>i<n,λi H x H'=>H'=H/\x=.int (lo+(i:Int)*c),λi _=>n<=i⟩
theorem qz {P:Iy}{w:World}{K:PySem.W.Frag}{tg:Expr}(it:Addr)(lo c:Int)(n:Nat):Turn P w K tg (xJ lo c n) [it] it (λi h=>IsRangeIter h it (lo+(i:Nat)*c) ((n:Int)-(i:Nat)) c) where
 mem:=by simp
 obj:=λi h st b hb=>by
  have e:b=it:=by simpa using hb
  subst e
  exact⟨_,st,λv z=>by
   have z':Data.fields _=Data.cell v:=z
   cases z'⟩
 keep:=λi h h' st k=>k it (by simp) _ st
 item:=by
  intro X hP hw hK hc i pins s σ H E I hf st hg;subst hP hw hK;obtain⟨f0,f1,f2,f3,f4,f5⟩:=hf it (by simp);have W:=Walks.range (prog:=X.prog) (w:=X.w) (I.ok.hd hc) it lo c n;refine W.item i s _ _ hg st λv h' tk hv Kb kk=>?_;obtain⟨t,rfl⟩:=hv;have I1:Inv X pins σ H {s with heap:=h',toks:=tk}:=I.turned (λb o hb e=>kk b o (by simpa using hb) e) f0 f1 f3 f4 f5;exact⟨_,rfl,pX (s:={s with heap:=h',toks:=tk}) (n:="range_iterator") Kb rfl rfl (by decide) ⟨.int (lo+i*c),H,I1,⟨t,rfl⟩,⟨rfl,rfl⟩,Kb,λb hb=>(hf b hb).1⟩⟩
 done:=by
  intro X hP hw hK hc i pins s σ H E I hf st hg;subst hP hw hK;obtain⟨f0,f1,f2,f3,f4,f5⟩:=hf it (by simp);exact wpAny_pyNext_range_end (I.ok.hd hc) st (by have:n<=i:=hg;omega) λh' eb=>⟨rfl,I.turned (t':=s.toks) (λb o hb e=>eb b o hb e) f0 f1 f3 f4 f5⟩
 self:=λ_ _ _ _ _ st h=>wpAny_pyIter_rangeiter st h
def Fp (ta:TA):TI:=λσ H R=>ta σ H λvs H1=>∃(i j c:Int)(n:Nat),vs=[.int i,.int j,.int c]/\c≠0/\c.natAbs<1073741824/\Builtin.Range.small i j c=true/\Builtin.Range.rangeSize i j c=n/\R (xJ i c n) H1
section
variable {X:Cx}{tg:Expr}
theorem wd {a b c:Expr}{ta:TA}{p pos:Pos}(hg:Gl X "range")(hm:X.mg "range"=none)(ha:PA X [a,b,c] ta)(hs:starEach [a,b,c] X.env=[(false,eval a X.env),(false,eval b X.env),(false,eval c X.env)]:=by rfl)(Le:starEach [b,c] X.env=[(false,eval b X.env),(false,eval c X.env)]:=by rfl):
 PI X tg (.Call (.Name "range" p) [a,b,c] [] pos) (Fp ta):=by
 intro pins s σ H R I h;refine Call_ (dU I hg hm boot_range (CC (bO (ha pos pins s σ H _ I h) λus s1 z'=>?_) (by rw[hs,Le]) (by rw[Le];rfl)));obtain⟨vs,H1,I1,r1,q1⟩:=z';obtain⟨i,j,k,n,e,k0,z1,sm,sz,q⟩:=q1;subst e
 cases r1 with
 |cons r rr =>
  cases rr with
  |cons r' rr =>
   cases rr with
   |cons r'' rr =>
   cases rr
   obtain⟨t,rfl⟩:=r;obtain⟨t',rfl⟩:=r';obtain⟨VF,rfl⟩:=r'';refine call_range_3 k0 ?_;refine wpAny_pyIter_range (IsRange.new ..) sm ?_;have I2:Inv X pins σ H1 {s1 with heap:=s1.heap.push {cls:=.type "range",data:=.fields #[.int i t,.int j t',.int k VF]},toks:=s1.toks}:=I1.kept λb o e=>wa _ e
   refine⟨(s1.heap.push {cls:=.type "range",data:=.fields #[.int i t,.int j t',.int k VF]}).objs.size,[(s1.heap.push {cls:=.type "range",data:=.fields #[.int i t,.int j t',.int k VF]}).objs.size],_,_,H1,rfl,
    I2.kept (t':=s1.toks) λb o e=>wa _ e,qz _ i k n,?_,λb hb=>?_,q⟩
   ·have e1:i+((0:Nat):Int)*k=i:=by simp
    have e2:((n:Nat):Int)-((0:Nat):Int)=Builtin.Range.rangeSize i j k:=by rw[sz];simp
    show IsRangeIter _ _ (i+((0:Nat):Int)*k) (((n:Nat):Int)-((0:Nat):Int)) k;rw[e1,e2];exact Hr _ rfl
   ·have e:b=(s1.heap.push {cls:=.type "range",data:=.fields #[.int i t,.int j t',.int k VF]}).objs.size:=by simpa using hb
    subst e;exact I2.aha (zC _) (I2.hok.fresh (zC _))
end
theorem pY {K:Frag}{a:Addr}{xs:List V}{g:TG}{tb:TS}{D:Ends}{σ:St}{H:Hp}(Pv:Nat->St->Hp->Prop)(h0:Pv 0 σ H)(hl:∀i σ H,i<=xs.length->Pv i σ H->aV K H a xs)
 (hs:∀i x σ H T,xs[i]?=some x->Pv i σ H->H T=none->g (.ref T) σ (upd H T (.tup [.int i,x])) λσ2 H2=>tb {D with nx:=Pv (i+1),ct:=Pv (i+1),bk:=D.nx} σ2 H2)(hd:∀σ H,Pv xs.length σ H->D.nx σ H):
 ∃W:Nat->Nat->St->Hp->Prop,(∃m,W 0 m σ H)/\∀i m σ H,W i m σ H →
  ((Ex K a).stop i H/\D.nx σ H)\/((Ex K a).go i H/\∃N:St->Hp->Prop,(∀σ' H',N σ' H'->∃m',m'<m/\W (i+1) m' σ' H')/\∀x H',(Ex K a).yld i H x H'->g x σ H' λσ2 H2=>tb {D with nx:=N,ct:=N,bk:=D.nx} σ2 H2):=by
 refine⟨λi m σ H=>m=xs.length-i/\i<=xs.length/\Pv i σ H,⟨xs.length,by simp,Ag _,h0⟩,?_⟩;rintro i m σ H ⟨rfl,hi,p⟩;have q:=hl i σ H hi p
 by_cases JB:i<xs.length
 ·refine .inr ⟨⟨xs,xs[i],q,by simp[JB]⟩,Pv (i+1),λσ' H' p'=>⟨xs.length-(i+1),by omega,rfl,JB,p'⟩,λx H' y=>?_⟩;obtain⟨T,y,hy,hT,rfl,rfl⟩:=y;exact hs i y σ H T (hy xs q) p hT
 ·have e:i=xs.length:=by omega
  subst e;exact .inl ⟨⟨xs,q,zC _⟩,hd _ _ p⟩
theorem zB {lo c:Int}{n:Nat}{g:TG}{tb:TS}{D:Ends}{σ:St}{H:Hp}(Pv:Nat->St->Hp->Prop)(h0:Pv 0 σ H)
 (hs:∀i σ H,i<n->Pv i σ H->g (.int (lo+(i:Int)*c)) σ H λσ2 H2=>tb {D with nx:=Pv (i+1),ct:=Pv (i+1),bk:=D.nx} σ2 H2)(hd:∀σ H,Pv n σ H->D.nx σ H):
 ∃W:Nat->Nat->St->Hp->Prop,(∃m,W 0 m σ H)/\∀i m σ H,W i m σ H →
  ((xJ lo c n).stop i H/\D.nx σ H)\/((xJ lo c n).go i H/\∃N:St->Hp->Prop,(∀σ' H',N σ' H'->∃m',m'<m/\W (i+1) m' σ' H')/\∀x H',(xJ lo c n).yld i H x H'->g x σ H' λσ2 H2=>tb {D with nx:=N,ct:=N,bk:=D.nx} σ2 H2):=by
 refine⟨λi m σ H=>m=n-i/\i<=n/\Pv i σ H,⟨n,by simp,Ag _,h0⟩,?_⟩;rintro i m σ H ⟨rfl,hi,p⟩
 by_cases JB:i<n
 ·refine .inr ⟨JB,Pv (i+1),λσ' H' p'=>⟨n-(i+1),by omega,rfl,JB,p'⟩,λx H' y=>?_⟩;obtain⟨rfl,rfl⟩:=y;exact hs i σ _ JB p
 ·have e:i=n:=by omega
  subst e;exact .inl ⟨zC _,hd _ _ p⟩
end L2
namespace K74
open PySem L2 PySem.W Nm Srt
abbrev Jk:Stmt:=(aQ 51)
theorem zV:DK ["field","signs","noughts","place","sign","both"] vY (aq Jk):=c9 (by decide +kernel)
variable {p:Int}
theorem Bm {s:Int×Int}(h:s.1≠0):tg p [([],s)]=[([],s)]:=by
 have e:aX p [(([]:List Int),s)]=[([],s)]:=rfl;show gy (aX p _)=_;rw[e];have pm:=cV [(([]:List Int),s)]
 have f:([(([]:List Int),s)].filter λe=>e.2.1 != 0)=[([],s)]:=by
  rw[Fh (by show(s.1 != 0)=true;simpa using h)];rfl
 rw[f] at pm;exact List.perm_singleton.mp pm
theorem EM (hp:FP p){k:Int}(h:k=1\/k = -1):(ba p k).1≠0:=by
 by_cases z:p=0
 ·subst z;rw[cT];show k≠0;omega
 ·have:=hp.two z;rw[cp z];show k%p≠0
  rcases h with rfl|rfl
  ·rw[Il (by decide) (by omega)];decide
  ·rw[show(-1:Int)%p=p-1 from by rw[<-Int.add_emod_right,show(-1:Int)+p=p-1 from by omega];exact Il (by omega) (by omega)];omega
variable {C CF:Addr}{H:Hp}
theorem GH {n:Nat}{s:Addr}(hp:FP p)(i j:Nat)(hi:i<n)(hj:j<n){k:Int}(hk:k=1\/k = -1)(h:DO C CF H s p (wi p i j k)):WX C CF p n H (.ref s) true:=by
 have w:=kD hp i j hk;have sw:SW C CF H s p (wi p i j k):=⟨h,hp,Gv w.len (by decide),λt ht=>Gv (w.key (by decide:(2:Nat)<32) t ht).2 (by decide:(2:Nat)<4000)⟩;have:=WX.sum (p:=p) (n:=(n:Int)) sw;rw[sG rfl,sG (Ci (bs:=[]) hp i j hi hj hk).2] at this;exact this
theorem IM {CS:Addr}{Q:Hp->Prop}{E:XK}{x:V}{fl:Addr}{n:Int}{as:List Addr}(r:Rt C CF p n H x fl as){s dx:Addr}(h1:H s=none)(h2:H dx=none)(ne:dx≠s)(q:∀H',aA H H'->rj CS CF H' s fl p n as []->Q H'):
 AY CS C CF [.ref s,.ref fl,.int n,x,.non] (upd (upd H dx (.own s)) s (.ins CS dx [])) (λv H2=>v=.non/\Q H2) E:=by
 have hS:aA H (upd (upd H dx (.own s)) s (.ins CS dx [])):=(ao h2).trans (ao (by rw[av (Jm ne)];exact h1));refine⟨s,dx,fl,x,p,n,as,rfl,ah,r.agU (.of hS),λH' A B k _ _ _ hs hA hB=>⟨rfl,?_⟩⟩;have sH:=nM h1 h2 ne k;obtain⟨Ju,hf⟩:=r.f;exact q H' sH ⟨⟨dx,Ju,A,B,hs,sH _ _ hf,hA,hB⟩,r.l.len,Ag _⟩
def iz (C CF T:Addr)(H:Hp)(s:Addr)(p:Int)(ts:List Tm):Prop:=∃dx fl Ju D zs,H s=some (.ins C dx (ow fl D))/\H fl=some (.ins CF Ju (cL p))/\H D=some (.lst zs)/\aS H zs ts/\D≠T
section
variable {C CF T s d:Addr}{H H':Hp}{p:Int}{ts:List Tm}
theorem iz.r (h:iz C CF T H s p ts):DO C CF H s p ts:=let⟨dx,fl,Ju,D,zs,h1,h2,h3,h4,_⟩:=h;⟨dx,fl,Ju,D,zs,h1,h2,h3,h4⟩
theorem jZ.t {o:HO}(h:jZ C CF H H' s p ts)(e:H T=some o):iz C CF T H' s p ts:=let⟨dx,fl,Ju,D,zs,h1,h2,h3,h4,h5⟩:=h;⟨dx,fl,Ju,D,zs,h1,h2,h3,h4,λz=>by rw[z,e] at h5;cases h5⟩
theorem iz.same (h:iz C CF T H s p ts)(k:aA H H'):iz C CF T H' s p ts:=let⟨dx,fl,Ju,D,zs,h1,h2,h3,h4,h5⟩:=h;⟨dx,fl,Ju,D,zs,k _ _ h1,k _ _ h2,k _ _ h3,aS.keep h4 (aD.of k),h5⟩
theorem iz.lst {ws:List V}(h:iz C CF T H s p ts)(hT:H T=some (.lst ws))(k:SameBut T H H'):iz C CF T H' s p ts:=by
 obtain⟨dx,fl,Ju,D,zs,h1,h2,h3,h4,h5⟩:=h;exact⟨dx,fl,Ju,D,zs,k _ _ h1 (λz=>by rw[z,hT] at h1;cases h1),k _ _ h2 (λz=>by rw[z,hT] at h2;cases h2),k _ _ h3 h5,aS.keep h4 (λb xs e=>k _ _ e λz=>by rw[z,hT] at e;cases e),h5⟩
end
abbrev my (C CF T:Addr)(p:Int)(H:Hp):List Addr->List (List Tm)->Prop:=Paired (λs ts=>iz C CF T H s p ts)
variable {ys:List Addr}{ts:List (List Tm)}
theorem my.same {T:Addr}{H':Hp}(h:my C CF T p H ys ts)(k:aA H H'):my C CF T p H' ys ts:=Paired.agP h λ_ _ z=>iz.same z k
theorem my.lst {T:Addr}{H':Hp}{ws:List V}(h:my C CF T p H ys ts)(hT:H T=some (.lst ws))(k:SameBut T H H'):my C CF T p H' ys ts:=Paired.agP h λ_ _ z=>iz.lst z hT k
theorem my.r {T:Addr}(h:my C CF T p H ys ts):jq C CF p H ys ts:=Paired.agP h λ_ _ z=>iz.r z
def rp (p:Int)(l:List Int):List (List Tm):=(List.range l.length).map λi:Nat=>wi p i (nx l.length i:Nat) (l.getD i 0)
theorem eE (p:Int)(l:List Int):(rp p l).length=l.length:=by unfold rp;rw[vW,Ed]
theorem pz {l:List Int}{i:Nat}(hi:i<l.length):(rp p l)[i]?=some (wi p i (nx l.length i:Nat) (l.getD i 0)):=by
 unfold rp;rw[wN,List.getElem?_range hi];rfl
theorem Ji {l:List Int}{fl Ju D:Addr}{as:List Addr}(hp:FP p)(hf:H fl=some (.ins CF Ju (cL p)))(hl:Sg l)(n1:1<=l.length)(K6:l.length<=60)(hD:H D=some (.lst (as.map V.ref)))(S:jq C CF p H as (rp p l)):Rt C CF p (l.length:Nat) H (.ref D) fl as:=by
 refine⟨⟨Ju,hf⟩,by omega,by omega,⟨⟨D,rfl,hD⟩,by rw[S.length,eE];omega,λu hu=>?_⟩⟩;obtain⟨i,hi⟩:=List.mem_iff_getElem?.mp hu;obtain⟨ts,et,hs⟩:=aY S hi
 have hi:i<l.length:=by rw[<-eE p l];exact(Be.mp et).1
 rw[pz hi,Option.some.injEq] at et;rw[<-et] at hs;exact GH hp i (nx l.length i) hi (Hz _ (HY Nat.zero_lt_one n1)) (hl.at hi) hs
def EB (CS C CF:Addr):Sp:=λvs H Q _=>∃(fl Ju a:Addr)(p:Int)(l:List Int),vs=[.ref fl,.ref a]/\H fl=some (.ins CF Ju (cL p))/\FP p/\p≠2/\H a=some (.lst (l.map V.int))/\Rg l /\
 ∀H' sy as,aA H H'->rj CS CF H' sy fl p (l.length:Nat) as []->jq C CF p H' as (rp p l)->Q (.ref sy) H'
variable {P:Iy}{w:World}{K:PySem.W.Frag}{mg:xk}{base:Heap}
set_option maxHeartbeats 1000000 in
theorem Gs {f fc fg fn ft fp fy CS UN:Addr}{fd LS JP LW JY Ke Q9:qo}(F:Dp K "ring" "ring" Jk f fd)(cF:CP K mg CF)(cS:DB K mg C)(cY:lH K mg CS)(MY:Mk K CS fy)(Jv:mg "len"=none)(Jx:mg "enumerate"=none)
 (Xw:zG P w K mg base (aO P w) 2 fc LS vY (DH CF))(Xx:L2.ax K LS vY [])(Xy:mg "checked_ring"=some (.ref fc))(Xz:keepIn K (.ref fc)=true)
 (Ra:zG P w K mg base (aO P w) 8 fg JP wo (xf C CF))(Rb:L2.ax K JP wo [])(Rc:mg "signed_place"=some (.ref fg))(Rf:keepIn K (.ref fg)=true)
 (FNs:zG P w K mg base (aO P w) 8 fn LW Ai (FK C CF))(bNs:L2.ax K LW Ai [])(mNs:mg "number_sum"=some (.ref fn))(kNs:keepIn K (.ref fn)=true)
 (Ov:zG P w K mg base (aO P w) 9 ft JY rM (xU C CF UN))(Ow:L2.ax K JY rM [])(Ox:L2.Meth K C "times" ft)
 (WE:zG P w K mg base (aO P w) 9 fp Ke rM (Cn C CF UN))(WG:L2.ax K Ke rM [])(WH:L2.Meth K C "plus" fp)
 (XA:zG P w K mg base (aO P w) 5 fy Q9 zc (AY CS C CF))(OM:L2.ax K Q9 zc [.none]):zG P w K mg base (aO P w) 10 f fd vY (EB CS C CF):=by
 refine F.okN zV (λvs H Q E h=>?_) (λJw A outer s H vs Q E hr h=>?_)
 ·obtain⟨fl,Ju,a,p,l,rfl,_⟩:=h;rfl
 ·obtain⟨fl,Ju,a,p,l,rfl,hf,hp,p2,ha,R,q⟩:=h;have L9:A8 9 _:=hr;have KD:A8 8 _:=L9.mono (by decide);have ON:A8 6 _:=L9.mono (by decide);have JR:A8 2 _:=L9.mono (by decide)
  refine⟨_,(aj (eB (ay Xw JR (by rfl) Xy Xz Xx .nil ae (@ai _ _ _ _ _ (pv 0) (@ai _ _ _ _ _ (pv 1) af rfl) rfl)))
   (aj (@aW _ _ 2 _ _ _ _ zV.nd rfl (Or.inl rfl) (@cg _ _ _ _ af) rfl (Or.inl rfl))
   (aj (dw wk rfl (jS (pv 1) (by rfl) Jx) (cA rfl (aG (aC (i:=3) zV.nd rfl (Or.inl rfl)) (aG (aC (i:=4) zV.nd rfl (Or.inl rfl)) bX)))
   (aj (@aW _ _ 5 _ _ _ _ zV.nd rfl (Or.inl rfl) (bH (ay Ra KD (by rfl) Rc Rf Rb .nil ae (@ai _ _ _ _ _ (pv 0) (@ai _ _ _ _ _ (pv 3) af rfl) rfl)) cS.cl Ox Ov L9 Ow .nil ae (@ai _ _ _ _ _ (ay Ra KD (by rfl) Rc Rf Rb .nil ae (@ai _ _ _ _ _ (pv 0) (@ai _ _ _ _ _ (@aH _ _ _ _ _ _ _ _ cJ (@aH _ _ _ _ _ _ _ _ eK (pv 3) ar) (aB aK (by rfl) Jv A2 (@ai _ _ _ _ _ (pv 1) af rfl))) af rfl) rfl)) af rfl)) rfl (Or.inl rfl))
   (ak (eB (kO zU rN vX fL (pv 2) (@ai _ _ _ _ _ (bH (pv 5) cS.cl WH WE L9 WG .nil ae (@ai _ _ _ _ _ (ay FNs KD (by rfl) mNs kNs bNs .nil ae (@ai _ _ _ _ _ (pv 0) (@ai _ _ _ _ _ (dM cK (pv 4)) af rfl) rfl)) af rfl)) af rfl))))))
   (ak (az (eX (dvs:=[.non]) MY XA ON (by rfl) cY.mgC OM (.cons rfl .nil) ae (@ai _ _ _ _ _ (pv 0) (@ai _ _ _ _ _ (aB aK (by rfl) Jv A2 (@ai _ _ _ _ _ (pv 1) af rfl)) (@ai _ _ _ _ _ (pv 2) af rfl) rfl) rfl) (by decide) (aU rfl) (by rw[aU rfl,aU rfl];rfl))))))),?_⟩
  refine⟨_,rfl,_,rfl,fl,Ju,a,p,l,rfl,hf,p2,ha,R,λH1 s1=>?_⟩;refine⟨Ag _,λL hL=>?_⟩;have s2:=ao (o:=.lst []) hL;have e2:upd H1 L (.lst []) L=some (.lst []):=ah;generalize upd H1 L _=H2 at s2 e2 |-;have KR:=s1.trans s2;refine⟨_,rfl,a,_,rfl,aV.of (KR _ _ ha),?_⟩;refine pY (xs:=l.map V.int) (λi σ H'=>aA H H'/\(∃as:List Addr,H' L=some (.lst (as.map V.ref))/\my C CF L p H' as ((rp p l).take i))/\∃o3 o4 o5,σ=[some (.ref fl),some (.ref a),some (.ref L),o3,o4,o5]) ⟨KR,⟨[],e2,.nil⟩,_,_,_,rfl⟩ (λi σ H' _ h=>aV.of (h.1 _ _ ha)) ?_ ?_
  ·rintro i x σ H3 T hx ⟨s3,⟨as,Ls,hS⟩,o3,o4,o5,rfl⟩ hT
   have hi:i<l.length:=by
    have:=(Be.mp hx).1;rw[vW] at this;exact this
   rw[wN,Ff hi] at hx
   have hx:x=.int (l.getD i 0):=by
    rw[show l.getD i 0=l[i] by simp[List.getD,hi]];exact(Option.some.inj hx).symm
   subst hx;have hk:=R.sg.at hi;have hj:nx l.length i<l.length:=Hz _ (by omega);have K6:=R.hi;obtain⟨k,kq⟩:∃k,l.getD i 0=k:=⟨_,rfl⟩;rw[kq] at hk |-;have s4:=ao (o:=.tup [.int i,.int k]) hT;have eT:upd H3 T (.tup [.int i,.int k]) T=some (.tup [.int i,.int k]):=ah;have Ls:=s4 _ _ Ls;have hS:=hS.same s4;generalize upd H3 T _=H4 at s4 eT Ls hS |-;have K7:=s3.trans s4;refine⟨T,_,rfl,bf.of eT,rfl,_,_,rfl,_,_,rfl,rfl,?_⟩;refine⟨_,rfl,_,rfl,fl,Ju,p,(i:Int),rfl,K7 _ _ hf,hp,by omega,by omega,λH5 x5 s5 e5=>?_⟩
   have ek:((i:Int)+1)%((l.map V.int).length:Nat)=((nx l.length i:Nat):Int):=by rw[vW];unfold nx;push_cast;rfl
   obtain⟨XB,f5,d5,D5,z5,g1,g2,g3,g4⟩:=id e5.ex;have Lh:=K7.trans s5;refine⟨x5,XB,_,rfl,g1,rfl,?_⟩;refine⟨_,rfl,_,rfl,_,_,rfl,rfl,_,rfl,a,_,rfl,.inl (aV.of (Lh _ _ ha)),_,_,rfl,rfl,(by rw[vW];show(0:Int)<(l.length:Nat);omega),?_⟩;refine⟨fl,Ju,p,_,rfl,Lh _ _ hf,hp,(by rw[ek];omega),(by rw[ek];omega),λH6 x6 s6 e6=>?_⟩;rw[ek] at e6;have yi:=jF hp i;have yj:=jF hp (nx l.length i:Nat);have y0:=jR hp i (nx l.length i:Nat);refine⟨x5,x6,p,p,_,_,rfl,e5.same s6,e6,hp,Gv (BI yi.len yj.len) (by decide),λt ht=>⟨yi.gn hp (by decide) (by decide) (by decide) (by decide) t ht,(yi.key (by decide:(1:Nat)<32) t ht).1⟩,λ_=>⟨λt ht=>⟨yj.gn hp (by decide) (by decide) (by decide) (by decide) t ht,(yj.key (by decide:(1:Nat)<32) t ht).1⟩,y0.th hp (by decide) (by decide) (by decide) (by decide) (by decide),λH7 u s7 hu=>?_⟩,λz=>absurd rfl z⟩;have hu:DO C CF H7 u p (yy p i (nx l.length i:Nat)):=hu.r;have XC:=Lh.trans (s6.trans s7);have Kg:=s5.trans (s6.trans s7);clear e5 e6 g1 g2 g3 g4 s5 s6 s7 Lh yi yj y0;obtain⟨du,fu,df,Du,zu,g1,g2,g3,g4⟩:=id hu.ex;refine⟨_,rfl,.inl ⟨rfl,_,aV.of (Kg _ _ Ls)⟩,?_⟩;refine⟨_,rfl,u,du,_,rfl,g1,rfl,?_⟩;refine⟨_,rfl,_,rfl,_,rfl,fl,Ju,p,-k,rfl,XC _ _ hf,hp,by omega,λH8 x8 s8 e8=>?_⟩;rw[Bm (EM hp (by omega))] at e8;have w0:=pG hp i (nx l.length i:Nat) hk;have w1:=gJ hp i (nx l.length i:Nat);refine⟨u,x8,p,p,_,_,rfl,hu.same s8,e8,hp,by have:=w1.len;show _+1<4000;omega,λ_=>⟨w0.th hp (by decide) (by decide) (by decide) (by decide) (by decide),λH9 x9 s9 e9=>?_⟩,λz=>absurd rfl z⟩;have MA:=Kg.trans (s8.trans s9);have OO:=MA _ _ Ls;have e9:iz C CF L H9 x9 p (wi p i (nx l.length i:Nat) k):=e9.t (s8 _ _ (Kg _ _ Ls));have P7:=hS.same MA;have nL:=none_of s1 hL;have al:=hS.length;rw[rh,eE] at al;have sb:SameBut L H9 (upd H9 L (.lst (as.map V.ref++[.ref x9]))):=SameBut.upd;refine⟨L,as.map V.ref,.ref x9,rfl,rfl,OO,Gv (by rw[vW];omega:_<=60) (by decide),λc v e=>sb _ _ ((K7.trans MA) _ _ e) (au e nL),⟨as++[x9],by rw[Hs];exact ah,?_⟩,_,_,_,rfl⟩;rw[vQ,pz hi,kq];exact mx (P7.lst OO sb) (e9.lst OO sb)
  ·rintro σ H3 ⟨s3,⟨as,Ls,hS⟩,o3,o4,o5,rfl⟩;rw[vW,<-eE p l,vt] at hS;refine⟨_,rfl,_,rfl,a,_,rfl,.inl (aV.of (s3 _ _ ha)),_,rfl,?_⟩;refine λx dx hx Lq ne=>?_;rw[vW];exact IM (Ji hp (s3 _ _ hf) R.sg (by have:=R.lo;omega) R.hi Ls hS.r) hx Lq ne λH4 s4 hy=>q H4 x as (s3.trans s4) hy (jq.same hS.r s4)
end K74
namespace L2
open PySem PySem.Spec PyProof.Rows PySem.W
section
variable {X:Cx}
def He (K:Frag)(te:TE)(ts:TO):TE:=λσ H Q=>te σ H λx H1=>ts σ H1 λst H2=>st=some (-1)/\∃a xs,x=.ref a/\aV K H2 a xs/\∀p,H2 p=none->Q (.ref p) (upd H2 p (.lst xs.reverse))
theorem zd {xs:List V}{us:yX}(r:aR xs us):aR xs.reverse us.reverse:=by
 induction r with
 |nil=>exact .nil
 |cons h t ih=>rw[yJ,yJ];exact ih.append (.cons h .nil)
theorem Dj {e st:Expr}{te:TE}{ts:TO}{p2 pos:Pos}(he:PE X e te)(hs:PO X (some st) ts):PE X (.Subscript e (.Slice none none (some st) p2) pos) (He X.K te ts):=by
 intro pins s σ H Q I h;refine Subscript_ (bO (he pins s σ H _ I h) λv s1 z'=>?_);obtain⟨x,H1,I1,r1,q1⟩:=z';refine wpAny_Slice ?_;rw[evalPart_none];refine pO (pO ?_);refine bO (hs pins s1 σ H1 _ I1 q1) λvs s3 z'=>?_;obtain⟨o,H3,I3,po,q3⟩:=z';obtain⟨eo,a,xs,ex,hq,q⟩:=q3;subst eo ex
 cases(show v=Value.ref a from r1)
 have I4:Inv X pins σ H3 {s3 with heap:=s3.heap.push {cls:=.type "slice",data:=.fields #[.none,.none,vs]} }:=I3.kept (t':=s3.toks) λb ob q=>wa _ q;obtain⟨its,r,ht,hz⟩:=I4.list hq;have hlen:=r.length
 refine(show wpAny (model X.prog X.w) X.A (subscriptTail e (.Slice none none (some st) p2) (.ref a) (.ref s3.heap.objs.size)) (EP X pins σ Q) X.xe {s3 with heap:=s3.heap.push {cls:=.type "slice",data:=.fields #[.none,.none,vs]} } from
  tail_any (ops:=[.ref a,.ref s3.heap.objs.size]) ht.isList.typeIs slot_list_getitem.lookup ?_ (by with_unfolding_all rfl))
 refine wpAny_getItem_list_slice ht.isList (Heap.IsSliceOf.new ..) .none .none po (by decide) ?_ (by rw[D4] <;> omega);rw[krv_pick];refine⟨.ref _,_,I4.laid (t':=s3.toks) (o:=.lst xs.reverse) (λb ob q=>wa _ q) (zC _) ?_,rfl,q _ (I4.hok.fresh (zC _))⟩;exact⟨by rw[List.length_reverse];exact hz,_,0,by simpa using zd r,Hr _ rfl⟩
end
end L2
namespace K74
open PySem L2 PySem.W Nm Srt
abbrev Jb:Stmt:=(aQ 52)
theorem wO:DK ["field","signs","showing","behind","place","both"] vY (aq Jb):=c9 (by decide +kernel)
theorem lQ {α β:Type}{R:α->β->Prop}:∀{l:List α}{m:List β},Paired R l m->Paired R l.reverse m.reverse
 |_,_,.nil=>.nil
 |_,_,.cons a t=>by
  rw[yJ,yJ];exact mx (lQ t) a
theorem BK:Hf 0 (dS 1 2,cI 1 2):=by
 have e:(dS 1 2,cI 1 2)=((1:Int),(2:Int)):=by decide +kernel
 rw[e];refine⟨⟨by decide,by decide,λz=>absurd rfl z⟩,?_,λ_=>⟨rfl,by decide⟩⟩;rw[cT];decide +kernel
variable {p:Int}
theorem zI {u:Int}(hp:FP p)(z:p≠0)(u0:0<=u)(u1:u<p)(h:(u*2)%p=1):Hf p (1*u%p,1):=by
 have e:(1:Int)*u%p=u:=by rw[Int.one_mul];exact Il u0 u1
 rw[e];refine⟨Num.ofP u0 u1,?_,λy=>absurd y z⟩;rw[cp z];unfold cz fU c8 dA;rw[qM z,qM z];show((u*(2%p))%p,(1:Int))=(1,1);rw[yG,Int.emod_emod,<-yG,h]
variable {CF:Addr}{H:Hp}
theorem GA {NN:Addr}{Q:VK}{E:XK}{fl Ju:Addr}(hf:H fl=some (.ins CF Ju (cL p)))(hp:FP p)(p2:p≠2)(q:∀s a,Hf p s->H a=none->Q (.ref a) (upd H a (bo s.1 s.2))):ir CF NN [.ref fl,.int 1,.int 2] H Q E:=by
 refine⟨fl,Ju,p,.int 1,.int 2,"int","int",rfl,hf,.int 1,.int 2,λt b e1 e2=>?_,λz=>by cases z⟩
 cases e1
 cases e2
 refine⟨fl,Ju,p,1,2,rfl,hf,hp,(by show(2:Int).natAbs<2^9000;exact HY (by decide:(2:Int).natAbs<2^2) (Ht (by decide) (by decide))),λ_ z=>absurd z (by decide),λz _ a ha=>?_,λz y=>?_,λz _ u u0 u1 u2 a ha=>?_⟩
 ·subst z;exact q (dS 1 2,cI 1 2) a BK ha
 ·have:=(hp.two z).2.1;rw[Il (by decide) (by omega)] at y
  cases y
 ·exact q _ a (zI hp z u0 u1 u2) ha
theorem oh {n:Nat}(h:1<=n):Builtin.Range.rangeSize ((n:Int)-1) (-1) (-1)=n:=by
 unfold Builtin.Range.rangeSize;rw[qM (by decide),zj (by omega),show(-(-1:Int))=1 from rfl,Int.ediv_one];omega
theorem sj {n:Nat}(h:1<=n)(h6:n<=60):Builtin.Range.small ((n:Int)-1) (-1) (-1)=true:=by
 unfold Builtin.Range.small;rw[oh h];simp only[Builtin.Range.rangeFitsLong,Im,Bool.or_eq_true,yM,y7];refine⟨by omega,.inr ?_⟩;rw[qM (by decide)];simp
def ou (p:Int)(s:Int×Int)(l:List Int):List (List Tm):=(List.range l.length).map λi:Nat=>sh p (bh p s (l.drop (i+1)).reverse) i
theorem kI (p:Int)(s:Int×Int)(l:List Int):(ou p s l).length=l.length:=by unfold ou;rw[vW,Ed]
theorem Bp {s:Int×Int}{l:List Int}{i:Nat}(hi:i<l.length):(ou p s l).drop i=sh p (bh p s (l.drop (i+1)).reverse) i::(ou p s l).drop (i+1):=by
 rw[An (by rw[kI];exact hi)];unfold ou;rw[List.getElem_map,List.getElem_range]
def F2 (C CF:Addr):Sp:=λvs H Q _=>∃(fl Ju a:Addr)(p:Int)(l:List Int),vs=[.ref fl,.ref a]/\H fl=some (.ins CF Ju (cL p))/\FP p/\p≠2/\H a=some (.lst (l.map V.int))/\Rg l /\
 ∀H' D us s,aA H H'->H D=none->H' D=some (.lst (us.map V.ref))->Hf p s->jq C CF p H' us (ou p s l)->Q (.ref D) H'
variable {P:Iy}{w:World}{K:PySem.W.Frag}{mg:xk}{base:Heap}
variable {f fg fm ft C:Addr}{fd JP J9 JY:qo}
set_option maxHeartbeats 1000000 in
theorem Gh {fc fh fs NN UN:Addr}{LS fdh Kp:qo}{tM:Tok}(F:Dp K "ring_showing" "ring_showing" Jb f fd)(cF:CP K mg CF)(cS:DB K mg C)(Jv:mg "len"=none)(JC:mg "range"=none)
 (Xw:zG P w K mg base (aO P w) 2 fc LS vY (DH CF))(Xx:L2.ax K LS vY [])(Xy:mg "checked_ring"=some (.ref fc))(Xz:keepIn K (.ref fc)=true)
 (OG:zG P w K mg base (aO P w) 4 fm J9 vv (ir CF NN))(PZ:L2.ax K J9 vv [.int 1 tM])(XD:L2.ax K J9 vv [])(OH:L2.Meth K CF "made" fm)
 (Ra:zG P w K mg base (aO P w) 8 fg JP wo (xf C CF))(Rb:L2.ax K JP wo [])(Rc:mg "signed_place"=some (.ref fg))(Rf:keepIn K (.ref fg)=true)
 (Ov:zG P w K mg base (aO P w) 9 ft JY rM (xU C CF UN))(Ow:L2.ax K JY rM [])(Ox:L2.Meth K C "times" ft)
 (FSc:zG P w K mg base (aO P w) 9 fs Kp zY (Cg C CF NN))(bSc:L2.ax K Kp zY [])(mSc:L2.Meth K C "scaled" fs)
 (FFt:zG P w K mg base (aO P w) 4 fh fdh Gw (lY CF fU))(bFt:L2.ax K fdh Gw [])(mFt:L2.Meth K CF "times" fh):zG P w K mg base (aO P w) 10 f fd vY (F2 C CF):=by
 refine F.okN wO (λvs H Q E h=>?_) (λJw A outer s H vs Q E hr h=>?_)
 ·obtain⟨fl,Ju,a,p,l,rfl,_⟩:=h;rfl
 ·obtain⟨fl,Ju,a,p,l,rfl,hf,hp,p2,ha,R,q⟩:=h;have L9:A8 9 _:=hr;have KD:A8 8 _:=L9.mono (by decide);have JO:A8 4 _:=L9.mono (by decide);have JR:A8 2 _:=L9.mono (by decide);have n3:=R.lo;have K6:=R.hi
  refine⟨_,(aj (eB (ay Xw JR (by rfl) Xy Xz Xx .nil ae (@ai _ _ _ _ _ (pv 0) (@ai _ _ _ _ _ (pv 1) af rfl) rfl)))
   (aj (@aW _ _ 2 _ _ _ _ wO.nd rfl (Or.inl rfl) (@cg _ _ _ _ af) rfl (Or.inl rfl))
   (aj (@aW _ _ 3 _ _ _ _ wO.nd rfl (Or.inl rfl) (bH (pv 0) cF.cl OH OG JO XD .nil ae (@ai _ _ _ _ _ ar (@ai _ _ _ _ _ ar af rfl) rfl)) rfl (Or.inl rfl))
   (aj (dw wk rfl (wd (by rfl) JC (@ai _ _ _ _ _ (@aH _ _ _ _ _ _ _ _ fZ (aB aK (by rfl) Jv A2 (@ai _ _ _ _ _ (pv 1) af rfl)) ar) (@ai _ _ _ _ _ (dM cK ar) (@ai _ _ _ _ _ (dM cK ar) af rfl) rfl) rfl)) (aC (i:=4) wO.nd rfl (Or.inl rfl))
   (aj (@aW _ _ 5 _ _ _ _ wO.nd rfl (Or.inl rfl) (bH (ay Ra KD (by rfl) Rc Rf Rb .nil ae (@ai _ _ _ _ _ (pv 0) (@ai _ _ _ _ _ ar af rfl) rfl)) cS.cl Ox Ov L9 Ow .nil ae (@ai _ _ _ _ _ (ay Ra KD (by rfl) Rc Rf Rb .nil ae (@ai _ _ _ _ _ (pv 0) (@ai _ _ _ _ _ (pv 4) af rfl) rfl)) af rfl)) rfl (Or.inl rfl))
   (aj (eB (kO zU rN vX fL (pv 2) (@ai _ _ _ _ _ (bH (pv 5) cS.cl mSc FSc L9 bSc .nil ae (@ai _ _ _ _ _ (pv 3) af rfl)) af rfl)))
   (ak (@aW _ _ 3 _ _ _ _ wO.nd rfl (Or.inl rfl) (bH (pv 0) cF.cl mFt FFt JO bFt .nil ae (@ai _ _ _ _ _ (pv 3) (@ai _ _ _ _ _ (bH (dvs:=[.int 1]) (pv 0) cF.cl OH OG JO PZ (.cons ⟨_,rfl⟩ .nil) ae (@ai _ _ _ _ _ (@a9 _ _ _ _ _ _ _ cx (pv 1) (pv 4) (λ_ _=>rfl)) af rfl)) af rfl) rfl)) rfl (Or.inl rfl))))))
   (ak (az (Dj (pv 2) (jY (dM cK ar))))))))),?_⟩
  refine⟨_,rfl,_,rfl,fl,Ju,a,p,l,rfl,hf,p2,ha,R,λH1 s1=>?_⟩;refine⟨Ag _,λL hL=>?_⟩;have s2:=ao (o:=.lst []) hL;have e2:upd H1 L (.lst []) L=some (.lst []):=ah;generalize upd H1 L _=H2 at s2 e2 |-;have KR:=s1.trans s2;refine⟨_,rfl,fl,Ju,_,rfl,KR _ _ hf,rfl,?_⟩;refine GA (KR _ _ hf) hp p2 λc b0 hs hb0=>?_;have s3:=ao (o:=bo c.1 c.2) hb0;have e3:upd H2 b0 (bo c.1 c.2) b0=some (bo c.1 c.2):=ah;have e23:=s3 _ _ e2;generalize upd H2 b0 _=H3 at s3 e3 e23 |-;have Lz:=KR.trans s3;refine⟨_,rfl,a,_,rfl,.inl (aV.of (Lz _ _ ha)),_,_,rfl,rfl,_,rfl,_,rfl,?_⟩;refine⟨((l.map V.int).length:Int)-1,-1,-1,l.length,rfl,by decide,by decide,by rw[vW];exact sj (by omega) K6,by rw[vW];exact oh (by omega),?_⟩;rw[vW];have L0:=none_of s1 hL;refine zB (λi σ H'=>aA H H'/\(∃us:List Addr,H' L=some (.lst (us.map V.ref))/\my C CF L p H' us ((ou p c l).drop (l.length-i)).reverse)/\∃bx o4 o5,H' bx=some (bo (bh p c (l.drop (l.length-i)).reverse).1 (bh p c (l.drop (l.length-i)).reverse).2)/\σ=[some (.ref fl),some (.ref a),some (.ref L),some (.ref bx),o4,o5]) ⟨Lz,⟨[],e23,?_⟩,b0,_,_,?_,rfl⟩ ?_ ?_
  ·rw[Nat.sub_zero,<-kI p c l,wC];exact .nil
  ·rw[Nat.sub_zero,wC];exact e3
  ·rintro i σ H4 hi ⟨s4,⟨us,P8,hS⟩,bx,o4,o5,hb,rfl⟩
   have eq:((l.length:Nat):Int)-1+(i:Int) * -1=((l.length-(i+1):Nat):Int):=by omega
   rw[eq];obtain⟨r,er⟩:∃r,l.length-(i+1)=r:=⟨_,rfl⟩
   have JE:l.length-i=r+1:=by omega
   have rl:r<l.length:=by omega
   rw[er];rw[JE] at hS hb;have hk:=R.sg.at rl;have cb:=yC hp (l.drop (r+1)).reverse hs.cd (R.sg.sub λx hx=>El (GN.mp hx));refine⟨_,rfl,fl,Ju,p,0,rfl,s4 _ _ hf,hp,by decide,by decide,λH5 x5 s5 e5=>?_⟩;obtain⟨XB,f5,d5,D5,z5,g1,g2,g3,g4⟩:=id e5.ex;have Lh:=s4.trans s5;refine⟨x5,XB,_,rfl,g1,rfl,?_⟩;refine⟨_,rfl,_,rfl,fl,Ju,p,(r:Int),rfl,Lh _ _ hf,hp,by omega,by omega,λH6 x6 s6 e6=>?_⟩;have yi:=jF hp 0;have yj:=jF hp r;have y0:=jR hp 0 r;refine⟨x5,x6,p,p,_,_,rfl,e5.same s6,e6,hp,Gv (BI yi.len yj.len) (by decide),λt ht=>⟨yi.gn hp (by decide) (by decide) (by decide) (by decide) t ht,(yi.key (by decide:(1:Nat)<32) t ht).1⟩,λ_=>⟨λt ht=>⟨yj.gn hp (by decide) (by decide) (by decide) (by decide) t ht,(yj.key (by decide:(1:Nat)<32) t ht).1⟩,y0.th hp (by decide) (by decide) (by decide) (by decide) (by decide),λH7 u s7 hu=>?_⟩,λz=>absurd rfl z⟩;have hu:DO C CF H7 u p (yy p 0 r):=hu.r;have Kg:=s5.trans (s6.trans s7);have XC:=s4.trans Kg;clear e5 e6 g1 g2 g3 g4 s5 s6 s7 Lh yi yj y0;obtain⟨du,fu,df,Du,zu,g1,g2,g3,g4⟩:=id hu.ex;refine⟨_,rfl,.inl ⟨rfl,_,aV.of (Kg _ _ P8)⟩,?_⟩;refine⟨_,rfl,u,du,_,rfl,g1,rfl,?_⟩;have w1:=gJ hp 0 r;have w0:=uq hp cb r;have nb:=cb.num;refine⟨_,rfl,u,p,_,.ref bx,some (.int _,.int _),rfl,hu,hp,Gv w1.len (by decide),w1.gn hp (by decide) (by decide) (by decide) (by decide),.two (Kg _ _ hb) (.int _) (.int _),λt b y ey hy _=>?_,λ_=>⟨bx,_,_,rfl,Kg _ _ hb⟩,λz=>absurd ((u7 nb).symm.trans z) (by decide)⟩
   cases ey
   rw[Kg _ _ hb] at hy
   cases hy
   have gb:=cb.gn hp (n:=4000) (by decide) (by decide) (BU (by decide)) (BU (by decide));refine⟨gb.2.1,gb.2.2,nb,w0.th hp (by decide) (by decide) (by decide) (by decide) (by decide),λH9 x9 s9 e9=>?_⟩;have MA:=Kg.trans s9;have OO:=MA _ _ P8;have e9:iz C CF L H9 x9 p (sh p (bh p c (l.drop (r+1)).reverse) r):=e9.t (Kg _ _ P8);have P7:=hS.same MA;have al:=hS.length;rw[List.length_reverse,D9,kI] at al;have sb:SameBut L H9 (upd H9 L (.lst (us.map V.ref++[.ref x9]))):=SameBut.upd;have hb9:=sb _ _ (MA _ _ hb) (λz=>by rw[z,P8] at hb;cases hb)
   have eL:upd H9 L (.lst (us.map V.ref++[.ref x9])) L=some (.lst ((us++[x9]).map V.ref)):=by rw[Hs];exact ah
   have P7:=P7.lst OO sb;have e9:=e9.lst OO sb;have sH:aA H (upd H9 L (.lst (us.map V.ref++[.ref x9]))):=λc v e=>sb _ _ ((s4.trans MA) _ _ e) (au e L0);refine⟨L,us.map V.ref,.ref x9,rfl,rfl,OO,Gv (by rw[vW];omega:_<=60) (by decide),?_⟩;generalize upd H9 L _=Mw at hb9 eL P7 e9 sH |-;have LX:pQ (l.map V.int) ((r:Nat):Int)=some (.int (l.getD r 0)):=jU (by rw[wN,Ff rl];simp[List.getD,rl]);refine⟨_,rfl,fl,Ju,_,rfl,sH _ _ hf,rfl,?_⟩;refine⟨_,rfl,_,rfl,fl,Ju,_,rfl,sH _ _ hf,rfl,?_⟩;refine⟨_,rfl,_,rfl,a,_,(r:Int),_,rfl,rfl,aV.of (sH _ _ ha),LX,?_⟩;refine qv (sH _ _ hf) hp λRh h11=>?_;have KH:=ao (o:=bo (ba p (l.getD r 0)).1 (ba p (l.getD r 0)).2) h11;have Ri:upd Mw Rh (bo (ba p (l.getD r 0)).1 (ba p (l.getD r 0)).2) Rh=some (bo (ba p (l.getD r 0)).1 (ba p (l.getD r 0)).2):=ah;change HS _ (upd Mw Rh (bo (ba p (l.getD r 0)).1 (ba p (l.getD r 0)).2)) _;generalize upd Mw Rh _=Xp at KH Ri |-;have gk:=ui hp (k:=l.getD r 0) (by omega);refine⟨fl,Ju,bx,Rh,p,_,_,_,_,rfl,(sH.trans KH) _ _ hf,hp,KH _ _ hb9,Ri,gb.2.1,gb.2.2,gk.2.1.mono (by decide),gk.2.2.mono (by decide),gb.ne,gk.ne,λx12 h12=>?_⟩;have Ks:=ao (o:=bo (cz p (bh p c (l.drop (r+1)).reverse) (ba p (l.getD r 0))).1 (cz p (bh p c (l.drop (r+1)).reverse) (ba p (l.getD r 0))).2) h12;refine⟨sH.trans (KH.trans Ks),⟨us++[x9],Ks _ _ (KH _ _ eL),?_⟩,x12,_,_,?_,rfl⟩
   ·rw[Bp rl,yJ];exact mx (P7.same (KH.trans Ks)) (e9.same (KH.trans Ks))
   ·rw[qg rl,uM];exact ah
  ·rintro σ H4 ⟨s4,⟨us,P8,hS⟩,bx,o4,o5,hb,rfl⟩;rw[Nat.sub_self,List.drop_zero] at hS;refine⟨_,rfl,_,rfl,_,rfl,rfl,L,_,rfl,aV.of P8,λD hD=>?_⟩;rw[<-List.map_reverse];have s5:=ao (o:=.lst (us.reverse.map V.ref)) hD;have z:=lQ hS.r;rw[List.reverse_reverse] at z;exact q _ D us.reverse c (s4.trans s5) (none_of s4 hD) ah hs (jq.same z s5)
abbrev Iw:Stmt:=(aQ 70)
theorem Hk:DK yL yL (aq Iw):=c9 (by decide +kernel)
theorem FP.good (h:FP p):good (.int p)=true:=by
 show jE p=true;unfold jE
 rcases h with h|h
 ·rw[h];rfl
 ·have:(c6.any λq=>q==p)=true:=by
   rw[wm];exact⟨p,h,by simp⟩
  rw[this];simp
theorem j7 {Rj fl Ju:Addr}{Q:Hp->Prop}{E:XK}(hf:H fl=none)(hd:H Ju=none)(ne:Ju≠fl)(hp:FP p)(q:∀H',aA H H'->H' fl=some (.ins CF Ju (cL p))->Q H'):
 pE CF Rj [.ref fl,.int p] (upd (upd H Ju (.own fl)) fl (.ins CF Ju [])) (λv H2=>v=.non/\Q H2) E:=by
 refine⟨fl,Ju,.int p,"int",rfl,.int p,ah,λ_=>⟨rfl,?_⟩,λg=>by rw[hp.good] at g;cases g⟩;rw[aam];exact q _ ((ao hd).trans (ao (by rw[av (Jm ne)];exact hf))) ah
theorem oW {K:Frag}:∀{ys:List V}{Kk:List (List Tm)},Paired (rq H) ys Kk->bg K H (Kk.map lE) ys
 |_,_,.nil=>by unfold bg;rfl
 |_,_,.cons (b:=t) h r=>by
  show bg K H (lE t::_) _;unfold bg;obtain⟨l,zs,h1,h2,h3⟩:=h;subst h1;exact⟨_,_,rfl,lF h2 h3,oW r⟩
theorem xp:∀Kk:List (List Tm),eC (Kk.map lE)<=31
 |[]=>by unfold eC;decide
 |t::Kk=>by
  show eC (lE t::Kk.map lE)<=31;unfold eC;have:=xp Kk
  have h:iB (lE t)<=3:=by
   unfold iB;have:=pJ t;omega
  omega
def EF (CS C CF:Addr):Sp:=λvs H Q _=>∃(sy fl ln:Addr)(p n:Int)(as:List Addr)(ns:List V)(Kk:List (List Tm)),vs=[.ref sy,.int p,.int n,.ref ln]/\rj CS CF H sy fl p n as []/\FP p/\jq C CF p H as Kk/\H ln=some (.lst ns)/\Paired (rq H) ns Kk/\Kk.length<=60/\∀H',aA H H'->Q (.bl true) H'
set_option maxHeartbeats 1000000 in
theorem EC {f1 f2 f3 f4 fe fi CS Rj:Addr}{Q5 fd2 fd3 fd4 LY LJ:qo}(F:Dp K "_law_is_system" "_law_is_system" Iw f fd)(cY:lH K mg CS)(cF:CP K mg CF)(cS:DB K mg C)(Kf:mg "isinstance"=none)
 (FYf:zG P w K mg base (aO P w) 1 f1 Q5 ["self"] (Gm CS CF))(bYf:L2.ax K Q5 ["self"] [])(mYf:L2.Meth K CS "field" f1)
 (FYp:zG P w K mg base (aO P w) 1 f2 fd2 ["self"] (Dh CS CF))(bYp:L2.ax K fd2 ["self"] [])(mYp:L2.Meth K CS "places" f2)
 (FYn:zG P w K mg base (aO P w) 1 f3 fd3 ["self"] (CQ CS CF))(bYn:L2.ax K fd3 ["self"] [])(mYn:L2.Meth K CS "noughts" f3)
 (FYu:zG P w K mg base (aO P w) 1 f4 fd4 ["self"] (Fe CS CF))(bYu:L2.ax K fd4 ["self"] [])(mYu:L2.Meth K CS "uppers" f4)
 (Xd:zG P w K mg base (aO P w) 1 ft JY ["self"] (lO C CF))(Xe:L2.ax K JY ["self"] [])(Xf:L2.Meth K C "terms" ft)
 (FE:zG P w K mg base (aO P w) 1 fe LY rM (As CF))(bE:L2.ax K LY rM [])(nE:findIn K (.ref CF) "__eq__"=some (some (.ref fe)))(iE:isFn K (.ref fe)=true)(nNe:findIn K (.ref CF) "__ne__"=some (some (.builtin "object.__ne__")))
 (MF:Mk K CF fi)(FFI:zG P w K mg base (aO P w) 2 fi LJ w9 (pE CF Rj))(OP:L2.ax K LJ w9 []):
 zG P w K mg base (aO P w) 4 f fd yL (EF CS C CF):=by
 refine F.okN Hk (λvs H Q E h=>?_) (λJw A outer s H vs Q E hr h=>?_)
 ·obtain⟨sy,fl,ln,p,n,as,ns,Kk,rfl,_⟩:=h;rfl
 ·obtain⟨sy,fl,ln,p,n,as,ns,Kk,rfl,Y,hp,hs,hl,hn,t60,q⟩:=h;have LK:A8 3 _:=hr;have JR:A8 2 _:=hr.mono (by decide);have JE:A8 1 _:=hr.mono (by decide)
  refine⟨_,(aj (bc (PW.pt (eA (bF (bK (aB aZ (by rfl) Kf (by rfl) (ck (pv 0) (ck (cu (by rfl) cY.mgC (show aI (.ref CS) (.ref CS) from rfl)) af))))) (eA (@aM _ _ _ _ _ _ _ _ (ag8 nE iE nNe cF.ob FE JR bE ae) (cj (pv 0) cY.cl mYf FYf JE bYf .nil ae) (eX MF FFI LK (by rfl) cF.mgC OP .nil ae (@ai _ _ _ _ _ (pv 1) af rfl)) (aJ _)) (dB (@aM _ _ _ _ _ _ _ _ ib (cj (pv 0) cY.cl mYp FYp JE bYp .nil ae) (pv 2) (aJ _)))))) (ak (az eY)) aE)
   (ak (az (dC (@cw _ _ _ _ _ _ _ _ (show eU _ _ (vJ K false) from xQ JE) (dm (N:=["_law_one"]) (nl:=1) (js:=[]) (osc:=aq Iw) ⟨rfl,rfl,by decide +kernel,by decide +kernel,by decide +kernel,rfl,.nil,by decide +kernel⟩ rfl
    (cy (cj (pv 0) cY.cl mYn FYn JE bYn .nil ae))
    (λCq fq sq Hq=>aC (i:=0) (by show(["_law_one"]:p3).Nodup;decide +kernel) rfl (Or.inl rfl) (Or.inr rfl))
    (λCq fq sq Hq=>dk)
    (λCq fq sq Hq=>(cj (pv 0) cS.cl Xf Xd JE Xe .nil ae))) (pv 3) (aJ _)) (@cw _ _ _ _ _ _ _ _ (abY JE) (cj (pv 0) cY.cl mYu FYu JE bYu .nil ae) (@cg _ _ _ _ af) (aJ _)))))),?_⟩
  obtain⟨dx,Ju,Aa,Bb,h1,h2,h3,h4⟩:=Y.ex;refine⟨_,rfl,.ref sy,.ref CS,_,_,true,rfl,rfl,cY.ty h1,cY.is,_,rfl,bw ?_⟩;refine⟨_,rfl,sy,dx,_,rfl,h1,rfl,sy,fl,p,n,as,[],rfl,Y,?_⟩;refine⟨_,rfl,λx dx2 hx Lq ne=>?_⟩;refine j7 hx Lq ne hp λH1 s1 e1=>?_;refine⟨fl,Ju,_,.ref CF,rfl,s1 _ _ h2,cF.ty e1,oG,fl,Ju,p,.ref x,rfl,s1 _ _ h2,.inl ⟨x,dx2,p,rfl,e1,_,rfl,_,rfl,?_⟩⟩;rw[sG (rfl:p=p)];refine bw ⟨_,rfl,sy,dx,_,rfl,s1 _ _ h1,rfl,sy,fl,p,n,as,[],rfl,Y.same s1,_,rfl,rfl,_,rfl,?_⟩;rw[dW,show(n==n)=true from by simp];refine bw ?_;refine⟨_,rfl,sy,dx,_,rfl,s1 _ _ h1,rfl,sy,fl,p,n,as,[],rfl,Y.same s1,λl0 Xo=>?_⟩;have s2:=ao (o:=.lst (as.map V.ref)) Xo;have e2:upd H1 l0 (.lst (as.map V.ref)) l0=some (.lst (as.map V.ref)):=ah;generalize upd H1 l0 _=H2 at s2 e2 |-;have KR:=s1.trans s2;have al:=hs.length;refine⟨l0,rfl,⟨_,aV.of e2⟩,?_⟩;refine lA (a:=l0) (xs:=as.map V.ref) (rest:=[]) (λj us H'=>aA H2 H'/\Paired (rq H') us (Kk.take j)) ⟨aA.refl _,.nil⟩ (λj us H' hj h=>?_) (λj x us H' M hj hx h hM=>?_) (λus H' h=>?_)
  ·refine⟨?_,aV.of (h.1 _ _ e2)⟩;rw[h.2.length,rh];exact Gv (by omega:_<=60) (by decide)
  ·obtain⟨s3,hu⟩:=h;rw[wN] at hx;obtain⟨u,eu,rfl⟩:=CU.mp hx;obtain⟨ts,et,S⟩:=aY hs eu;obtain⟨VG,fl2,aea,Dd,zs,k1,k2,k3,k4⟩:=(S.same (KR.trans s3)).ex;refine oP ⟨_,rfl,u,VG,_,rfl,k1,rfl,u,VG,fl2,Dd,zs,rfl,k1,k3,λl hl=>hM _ _ ?_⟩;have s4:=ao (o:=.lst zs) hl;refine⟨s3.trans s4,?_⟩;rw[vQ,et];exact mx (Paired.agP hu λ_ _ z=>z.same s4) ⟨l,zs,rfl,ah,aS.keep k4 (aD.of s4)⟩
  obtain⟨s3,hu⟩:=h;rw[vW,al,vt] at hu;intro D hD;have s4:=ao (o:=.lst us) hD;have e4:upd H' D (.lst us) D=some (.lst us):=ah;have hu:=Paired.agP hu λ_ _ z=>rq.same z s4;generalize upd H' D _=H4 at s4 e4 hu |-;have K7:=KR.trans (s3.trans s4)
  have d1:aN K H4 (.lst (Kk.map lE)) (.ref D):=by unfold aN;exact⟨D,us,rfl,aV.of e4,oW hu⟩
  have d2:aN K H4 (.lst (Kk.map lE)) (.ref ln):=by unfold aN;exact⟨ln,ns,rfl,aV.of (K7 _ _ hl),oW (Paired.agP hn λ_ _ z=>rq.same z K7)⟩
  refine⟨_,rfl,_,_,d1,d2,(by unfold iB;have:=xp Kk;omega),_,rfl,?_⟩;rw[eN];refine bZ ⟨_,rfl,sy,dx,_,rfl,K7 _ _ h1,rfl,sy,fl,p,n,as,[],rfl,Y.same K7,λl1 JV=>?_⟩;have s5:=ao (o:=.lst []) JV;have e5:upd H4 l1 (.lst []) l1=some (.lst []):=ah;change DZ HS _ (upd H4 l1 (.lst [])) _;generalize upd H4 l1 _=H5 at s5 e5 |-;refine⟨Ag _,λl2 J8=>?_⟩;have s6:=ao (o:=.lst []) J8;exact⟨l1,l2,[],rfl,rfl,aV.of (s6 _ _ e5),aV.of ah,q _ (K7.trans (s5.trans s6))⟩
abbrev IB:Stmt:=(aQ 64)
abbrev Ja:Stmt:=(aQ 68)
abbrev IX:Stmt:=(aQ 69)
theorem HP:DK AX AX (aq IB):=c9 (by decide +kernel)
theorem Iv:DK Ar Ar (aq Ja):=c9 (by decide +kernel)
theorem vm:DK ["_law_prime","_law_signs_here","_law_found","_law_place","_law_sign","_law_other","_law_both"] Ah (aq IX):=c9 (by decide +kernel)
def Et:Sp:=λvs H Q _=>∃(p:Int)(la lb:Addr)(ys us:List V)(a b:List Tm),vs=[.int p,.ref la,.ref lb]/\FP p/\H la=some (.lst ys)/\aS H ys a/\H lb=some (.lst us)/\aS H us b/\Bd p (a++b) /\
 ∀H' D zs,aA H H'->H D=none->H' D=some (.lst zs)->aS H' zs (tg p (a++b))->Q (.ref D) H'
def GJ:Sp:=λvs H Q _=>∃(p k:Int),vs=[.int p,.int k]/\FP p/\∀H' D zs,aA H H'->H D=none->H' D=some (.lst zs)->aS H' zs (tg p (yT p k))->Q (.ref D) H'
def DE (L:Addr)(H:Hp)(y:V)(ts:List Tm):Prop:=∃r ys,r≠L/\y=.ref r/\H r=some (.lst ys)/\aS H ys ts
theorem DE.r {L:Addr}{y:V}{ts:List Tm}(h:DE L H y ts):rq H y ts:=let⟨r,ys,_,a,b,c⟩:=h;⟨r,ys,a,b,c⟩
theorem DE.but {L:Addr}{H':Hp}{y:V}{ts:List Tm}{ws:List V}(h:DE L H y ts)(hL:H L=some (.lst ws))(k:SameBut L H H'):DE L H' y ts:=let⟨r,ys,n,a,b,c⟩:=h;⟨r,ys,n,a,k _ _ b n,aS.keep c λb xs e=>k _ _ e λz=>by rw[z,hL] at e;cases e⟩
def AZ:Sp:=λvs H Q _=>∃(p:Int)(a:Addr)(l:List Int),vs=[.int p,.ref a]/\FP p/\H a=some (.lst (l.map V.int))/\Sg l/\1<=l.length/\l.length<=60 /\
 ∀H' D ns,aA H H'->H D=none->H' D=some (.lst ns)->Paired (rq H') ns (rp p l)->Q (.ref D) H'
theorem FY (F:Dp K "_law_added" "_law_added" IB f fd)
 (FG:zG P w K mg base (aO P w) 4 fg JP oI Hn)(bG:L2.ax K JP oI [])(mG:mg "_law_gathered"=some (.ref fg))(kG:keepIn K (.ref fg)=true):
 zG P w K mg base (aO P w) 5 f fd AX Et:=by
 refine F.okN HP (λvs H Q E h=>?_) (λJw A outer s H vs Q E hr h=>?_)
 ·obtain⟨p,la,lb,ys,us,a,b,rfl,_⟩:=h;rfl
 ·obtain⟨p,la,lb,ys,us,a,b,rfl,hp,ha,Q0,hb,Q1,G,q⟩:=h;have JO:A8 4 _:=hr;refine⟨_,(ak (az (ay FG JO (by rfl) mG kG bG .nil ae (@ai _ _ _ _ _ (pv 0) (@ai _ _ _ _ _ (@aH _ _ _ _ _ _ _ _ jV (pv 1) (pv 2)) af rfl) rfl)))),?_⟩;have z1:=Q0.length;have z2:=Q1.length;have gl:=G.len;rw[tE] at gl;refine⟨_,rfl,_,rfl,_,rfl,la,lb,ys,us,rfl,rfl,ha,hb,EW (by omega:_<=4000) (by decide),λD H1 nD s1 e1=>?_⟩;exact⟨D,p,_,a++b,rfl,hp,e1,iT (aS.keep Q0 (aD.of s1)) (aS.keep Q1 (aD.of s1)),G,λH2 D2 zs s2 n2 e2 h2=>q H2 D2 zs (s1.trans s2) (none_of s1 n2) e2 h2⟩
theorem E4 (F:Dp K "_law_turned_sum" "_law_turned_sum" Ja f fd)
 (FM:zG P w K mg base (aO P w) 2 fm J9 vE Ii)(bM:L2.ax K J9 vE [])(mM:mg "_law_made"=some (.ref fm))(kM:keepIn K (.ref fm)=true)
 (FG:zG P w K mg base (aO P w) 4 fg JP oI Hn)(bG:L2.ax K JP oI [])(mG:mg "_law_gathered"=some (.ref fg))(kG:keepIn K (.ref fg)=true):
 zG P w K mg base (aO P w) 5 f fd Ar GJ:=by
 refine F.okN Iv (λvs H Q E h=>?_) (λJw A outer s H vs Q E hr h=>?_)
 ·obtain⟨p,k,rfl,_⟩:=h;rfl
 ·obtain⟨p,k,rfl,hp,q⟩:=h;have JO:A8 4 _:=hr;have JR:A8 2 _:=JO.mono (by decide);refine⟨_,(ak (az (ay FG JO (by rfl) mG kG bG .nil ae (@ai _ _ _ _ _ (pv 0) (@ai _ _ _ _ _ (@cg _ _ _ _ (@ai _ _ _ _ _ (@bu _ _ _ _ _ (@ai _ _ _ _ _ (@bu _ _ _ _ _ af) (@ai _ _ _ _ _ (@bu _ _ _ _ _ (@ai _ _ _ _ _ ar (@ai _ _ _ _ _ ar af rfl) rfl)) af rfl) rfl)) (@ai _ _ _ _ _ (@bu _ _ _ _ _ (@ai _ _ _ _ _ (@bu _ _ _ _ _ (@ai _ _ _ _ _ (pv 1) af rfl)) (@ai _ _ _ _ _ (ay FM JR (by rfl) mM kM bM .nil ae (@ai _ _ _ _ _ (pv 0) (@ai _ _ _ _ _ (dM cK ar) (@ai _ _ _ _ _ ar af rfl) rfl) rfl)) af rfl) rfl)) af rfl) rfl)) af rfl) rfl)))),?_⟩;have B1:B 9000 (1:Int):=HY (by decide:(1:Int).natAbs<2^8) (Ht (by decide) (by decide));have B2:B 9000 (-2:Int):=HY (by decide:(-2:Int).natAbs<2^8) (Ht (by decide) (by decide));refine⟨_,rfl,Ag _,λt0 LQ=>?_⟩;have s1:=ao (o:=.tup []) LQ;have e1:upd H t0 (.tup []) t0=some (.tup []):=ah;generalize upd H t0 _=H1 at s1 e1 |-;refine⟨gR,λt1 Lx=>?_⟩;have s2:=ao (o:=.tup [.int 1,.int 1]) Lx;have e2:upd H1 t1 (.tup [.int 1,.int 1]) t1=some (bo 1 1):=ah;generalize upd H1 t1 _=H2 at s2 e2 |-;refine⟨gR,λt2 Mv=>?_⟩;have s3:=ao (o:=.tup [.ref t0,.ref t1]) Mv;have e3:upd H2 t2 (.tup [.ref t0,.ref t1]) t2=some (.tup [.ref t0,.ref t1]):=ah;generalize upd H2 t2 _=H3 at s3 e3 |-;refine⟨_,rfl,wV,λt4 Q4=>?_⟩;have s4:=ao (o:=.tup [.int k]) Q4;have e4:upd H3 t4 (.tup [.int k]) t4=some (.tup [.int k]):=ah;generalize upd H3 t4 _=H4 at s4 e4 |-;refine⟨_,rfl,_,rfl,p,-2,1,rfl,hp,by decide,B1,B2,λ_=>rfl,λH5 x5 s5 e5=>?_⟩;change H5 x5=some (bo (ba p (-2)).1 (ba p (-2)).2) at e5;refine⟨gR,λt6 W8=>?_⟩;have s6:=ao (o:=.tup [.ref t4,.ref x5]) W8;have e6:upd H5 t6 (.tup [.ref t4,.ref x5]) t6=some (.tup [.ref t4,.ref x5]):=ah;change HS _ (upd H5 t6 (.tup [.ref t4,.ref x5])) _;generalize upd H5 t6 _=H6 at s6 e6 |-;refine⟨gR,λL hL=>?_⟩;have s7:=ao (o:=.lst [.ref t2,.ref t6]) hL;have e7:upd H6 L (.lst [.ref t2,.ref t6]) L=some (.lst [.ref t2,.ref t6]):=ah;change HS _ (upd H6 L (.lst [.ref t2,.ref t6])) _;generalize upd H6 L _=H7 at s7 e7 |-;have KG:=s6.trans s7;have Kg:=s5.trans KG;have L6:=s4.trans Kg;have OI:=s3.trans L6;have Nj:=s2.trans OI;have sA:=s1.trans Nj;exact⟨L,p,_,yT p k,rfl,hp,e7,.cons ⟨t2,t0,t1,rfl,L6 _ _ e3,Nj _ _ e1,OI _ _ e2⟩ (.cons ⟨t6,t4,x5,rfl,s7 _ _ e6,Kg _ _ e4,KG _ _ e5⟩ .nil),(si hp k).th hp (by decide) (by decide) (by decide) (by decide) (by decide),λH8 D zs s8 n8 e8 h8=>q H8 D zs (sA.trans s8) (none_of sA n8) e8 h8⟩
theorem Gu {fa fu:Addr}{fda QY:qo}(F:Dp K "_law_ring" "_law_ring" IX f fd)(Jv:mg "len"=none)(Jx:mg "enumerate"=none)
 (FM:zG P w K mg base (aO P w) 2 fm J9 vE Ii)(bM:L2.ax K J9 vE [])(mM:mg "_law_made"=some (.ref fm))(kM:keepIn K (.ref fm)=true)
 (FTu:zG P w K mg base (aO P w) 5 fg JP Ar GJ)(bTu:L2.ax K JP Ar [])(mTu:mg "_law_turned_sum"=some (.ref fg))(kTu:keepIn K (.ref fg)=true)
 (Xj:zG P w K mg base (aO P w) 5 fu QY AX vV)(Xk:L2.ax K QY AX [])(Xl:mg "_law_multiplied"=some (.ref fu))(Xm:keepIn K (.ref fu)=true)
 (FAd:zG P w K mg base (aO P w) 5 fa fda AX Et)(bAd:L2.ax K fda AX [])(mAd:mg "_law_added"=some (.ref fa))(kAd:keepIn K (.ref fa)=true):
 zG P w K mg base (aO P w) 6 f fd Ah AZ:=by
 refine F.okN vm (λvs H Q E h=>?_) (λJw A outer s H vs Q E hr h=>?_)
 ·obtain⟨p,a,l,rfl,_⟩:=h;rfl
 ·obtain⟨p,a,l,rfl,hp,ha,hl,n1,K6,q⟩:=h;have KY:A8 5 _:=hr;have JR:A8 2 _:=KY.mono (by decide)
  refine⟨_,(aj (@aW _ _ 2 _ _ _ _ vm.nd rfl (Or.inl rfl) (@cg _ _ _ _ af) rfl (Or.inl rfl))
   (aj (dw wk rfl (jS (pv 1) (by rfl) Jx) (cA rfl (aG (aC (i:=3) vm.nd rfl (Or.inl rfl)) (aG (aC (i:=4) vm.nd rfl (Or.inl rfl)) bX)))
   (aj (@aW _ _ 5 _ _ _ _ vm.nd rfl (Or.inl rfl) (ay FTu KY (by rfl) mTu kTu bTu .nil ae (@ai _ _ _ _ _ (pv 0) (@ai _ _ _ _ _ (@aH _ _ _ _ _ _ _ _ cJ (@aH _ _ _ _ _ _ _ _ eK (pv 3) ar) (aB aK (by rfl) Jv A2 (@ai _ _ _ _ _ (pv 1) af rfl))) af rfl) rfl)) rfl (Or.inl rfl))
   (aj (@aW _ _ 6 _ _ _ _ vm.nd rfl (Or.inl rfl) (ay Xj KY (by rfl) Xl Xm Xk .nil ae (@ai _ _ _ _ _ (pv 0) (@ai _ _ _ _ _ (ay FTu KY (by rfl) mTu kTu bTu .nil ae (@ai _ _ _ _ _ (pv 0) (@ai _ _ _ _ _ (pv 3) af rfl) rfl)) (@ai _ _ _ _ _ (pv 5) af rfl) rfl) rfl)) rfl (Or.inl rfl))
   (ak (eB (kO zU rN vX fL (pv 2) (@ai _ _ _ _ _ (ay FAd KY (by rfl) mAd kAd bAd .nil ae (@ai _ _ _ _ _ (pv 0) (@ai _ _ _ _ _ (pv 6) (@ai _ _ _ _ _ (@cg _ _ _ _ (@ai _ _ _ _ _ (@bu _ _ _ _ _ (@ai _ _ _ _ _ (@bu _ _ _ _ _ af) (@ai _ _ _ _ _ (ay FM JR (by rfl) mM kM bM .nil ae (@ai _ _ _ _ _ (pv 0) (@ai _ _ _ _ _ (@aH _ _ _ _ _ _ _ _ fZ ar (pv 4)) (@ai _ _ _ _ _ ar af rfl) rfl) rfl)) af rfl) rfl)) af rfl)) af rfl) rfl) rfl)) af rfl)))))))
   (ak (az (pv 2))))),?_⟩
  have B1:B 9000 (1:Int):=HY (by decide:(1:Int).natAbs<2^8) (Ht (by decide) (by decide));refine⟨Ag _,λL hL=>?_⟩;have s2:=ao (o:=.lst []) hL;have e2:upd H L (.lst []) L=some (.lst []):=ah;generalize upd H L _=H2 at s2 e2 |-;refine⟨_,rfl,a,_,rfl,aV.of (s2 _ _ ha),?_⟩;refine pY (xs:=l.map V.int) (λi σ H'=>aA H H'/\(∃ns,H' L=some (.lst ns)/\Paired (DE L H') ns ((rp p l).take i))/\∃o3 o4 o5 o6,σ=[some (.int p),some (.ref a),some (.ref L),o3,o4,o5,o6]) ⟨s2,⟨[],e2,.nil⟩,_,_,_,_,rfl⟩ (λi σ H' _ h=>aV.of (h.1 _ _ ha)) ?_ ?_
  ·rintro i x σ H3 T hx ⟨s3,⟨ns,Ls,hS⟩,o3,o4,o5,o6,rfl⟩ hT
   have hi:i<l.length:=by
    have:=(Be.mp hx).1;rw[vW] at this;exact this
   rw[wN,Ff hi] at hx
   have hx:x=.int (l.getD i 0):=by
    rw[show l.getD i 0=l[i] by simp[List.getD,hi]];exact(Option.some.inj hx).symm
   subst hx;have hk:=hl.at hi;have hj:nx l.length i<l.length:=Hz _ (by omega);obtain⟨k,kq⟩:∃k,l.getD i 0=k:=⟨_,rfl⟩;rw[kq] at hk |-;have s4:=ao (o:=.tup [.int i,.int k]) hT;have eT:upd H3 T (.tup [.int i,.int k]) T=some (.tup [.int i,.int k]):=ah;generalize upd H3 T _=H4 at s4 eT |-;have K7:=s3.trans s4;refine⟨T,_,rfl,bf.of eT,rfl,_,_,rfl,_,_,rfl,rfl,?_⟩
   have ek:((i:Int)+1)%((l.map V.int).length:Nat)=((nx l.length i:Nat):Int):=by rw[vW];unfold nx;push_cast;rfl
   refine⟨_,rfl,_,rfl,_,_,rfl,rfl,_,rfl,a,_,rfl,.inl (aV.of (K7 _ _ ha)),_,_,rfl,rfl,(by rw[vW];show(0:Int)<(l.length:Nat);omega),?_⟩;refine⟨p,_,rfl,hp,λH5 D5 z5 s5 n5 e5 h5=>?_⟩;rw[ek] at h5;refine⟨_,rfl,_,rfl,_,rfl,p,(i:Int),rfl,hp,λH6 D6 z6 s6 n6 e6 h6=>?_⟩;have yi:=jF hp i;have yj:=jF hp (nx l.length i:Nat);have y0:=jR hp i (nx l.length i:Nat);refine⟨_,rfl,p,D6,D5,z6,z5,_,_,rfl,hp,e6,h6,s6 _ _ e5,aS.keep h5 (aD.of s6),Gv (BI yi.len yj.len) (by decide),λt ht=>⟨yi.gn hp (by decide) (by decide) (by decide) (by decide) t ht,(yi.key (by decide:(1:Nat)<32) t ht).1⟩,λt ht=>⟨yj.gn hp (by decide) (by decide) (by decide) (by decide) t ht,(yj.key (by decide:(1:Nat)<32) t ht).1⟩,y0.th hp (by decide) (by decide) (by decide) (by decide) (by decide),λH7 D7 z7 s7 n7 e7 h7=>?_⟩;have h7:aS H7 z7 (yy p i (nx l.length i:Nat)):=h7;have Kg:=s5.trans (s6.trans s7);have XC:=K7.trans Kg;clear e5 h5 e6 h6 s5 s6 s7 n5 n6 n7 yi yj y0;have hL7:=Kg _ _ (s4 _ _ Ls);refine⟨_,rfl,.inl ⟨rfl,_,aV.of hL7⟩,?_⟩;refine⟨_,rfl,_,rfl,Ag _,λt0 LQ=>?_⟩;have s8:=ao (o:=.tup []) LQ;have e8:upd H7 t0 (.tup []) t0=some (.tup []):=ah;generalize upd H7 t0 _=H8 at s8 e8 |-;have Bk:B 9000 (0-k):=HY (by omega:(0-k).natAbs<2^8) (Ht (by decide) (by decide));refine⟨_,rfl,_,rfl,_,_,rfl,rfl,p,0-k,1,rfl,hp,by decide,B1,Bk,λ_=>rfl,λH9 x9 s9 e9=>?_⟩;change H9 x9=some (bo (ba p (0-k)).1 (ba p (0-k)).2) at e9;rw[Int.zero_sub] at e9;refine⟨gR,λMR XE=>?_⟩;have My:=ao (o:=.tup [.ref t0,.ref x9]) XE;have Rk:upd H9 MR (.tup [.ref t0,.ref x9]) MR=some (.tup [.ref t0,.ref x9]):=ah;change HS _ (upd H9 MR (.tup [.ref t0,.ref x9])) _;generalize upd H9 MR _=Mw at My Rk |-;refine⟨wV,λRl XF=>?_⟩;have KH:=ao (o:=.lst [.ref MR]) XF;have Ri:upd Mw Rl (.lst [.ref MR]) Rl=some (.lst [.ref MR]):=ah;change HS _ (upd Mw Rl (.lst [.ref MR])) _;generalize upd Mw Rl _=Xp at KH Ri |-;have Rm:=My.trans KH;have Rn:=s9.trans Rm;have MT:=s8.trans Rn;have w0:=pG hp i (nx l.length i:Nat) hk;refine⟨p,D7,Rl,z7,_,_,[([],ba p (-k))],rfl,hp,MT _ _ e7,aS.keep h7 (aD.of MT),Ri,.cons ⟨MR,t0,x9,rfl,KH _ _ Rk,Rn _ _ e8,Rm _ _ e9⟩ .nil,w0.th hp (by decide) (by decide) (by decide) (by decide) (by decide),λP4 VH z12 Ks XG P5 h12=>?_⟩;have h12:aS P4 z12 (wi p i (nx l.length i:Nat) k):=h12;have MU:=s4.trans (Kg.trans (MT.trans Ks));have OQ:=MU _ _ Ls
   have nD:VH≠L:=λz=>by
    rw[z] at XG;rw[MT _ _ hL7] at XG
    cases XG
   have al:=hS.length;rw[rh,eE] at al;have sb:SameBut L P4 (upd P4 L (.lst (ns++[.ref VH]))):=SameBut.upd;refine⟨L,ns,.ref VH,rfl,rfl,OQ,Gv (by omega:_<=60) (by decide),λc v e=>sb _ _ ((s3.trans MU) _ _ e) (au e hL),⟨_,ah,?_⟩,_,_,_,_,rfl⟩;rw[vQ,pz hi,kq];exact mx (Paired.agP hS λ_ _ z=>(show DE L P4 _ _ from let⟨r,ys,n,a,b,c⟩:=z;⟨r,ys,n,a,MU _ _ b,aS.keep c (aD.of MU)⟩).but OQ sb) ⟨VH,z12,nD,rfl,by rw[av nD];exact P5,aS.keep h12 λb xs e=>sb _ _ e λz=>by rw[z,OQ] at e;cases e⟩
  ·rintro σ H3 ⟨s3,⟨ns,Ls,hS⟩,o3,o4,o5,o6,rfl⟩;rw[vW,<-eE p l,vt] at hS;exact⟨_,rfl,q H3 L ns s3 hL Ls (Paired.agP hS λ_ _ z=>z.r)⟩
abbrev Hj:Stmt:=(aQ 71)
abbrev IR:Stmt:=(aQ 72)
theorem FF:DK ["_law_pool_here","_law_many","_law_signs_here"] DJ (aq Hj):=c9 (by decide +kernel)
theorem Eh:DK ["_law_signs_here","_law_row_here","_law_sign"] Dw (aq IR):=c9 (by decide +kernel)
def xV:Sp:=λvs H Q _=>∃(r:Addr)(n:Nat),vs=[.ref r,.int n]/\gK H r/\3<=n/\n<=60/\∀H' a l,Rg l->l.length=n->H' a=some (.lst (l.map V.int))->gK H' r->SameBut r H H'->a≠r->Q (.ref a) H'
def Fu:Sp:=λvs H Q _=>∃(a:Addr)(l:List Int),vs=[.ref a]/\H a=some (.lst (l.map V.int))/\Sg l/\1<=l.length/\l.length<=60/\∀H' b,aA H H'->H' b=some (.tup ((gA l).map V.int))->Q (.ref b) H'
theorem pT {l:List Int}(n1:1<=l.length):i7 (l.map V.int) none (some (-1))=(l.take (l.length-1)).map V.int:=by
 have e:HT.dJ l.length l.length (some (-1))=l.length-1:=by
  show(if(-1:Int)<0 then((-1:Int)+(l.length:Int)).toNat else min (-1:Int).toNat l.length)=_;rw[zj (by decide)];omega
 unfold i7;rw[HT.acy,vW,e,List.drop_zero,Nat.sub_zero,List.map_take]
theorem GL (F:Dp K "_law_signs" "_law_signs" Hj f fd)(JC:mg "range"=none)
 (Ro:zG P w K mg base (aO P w) 1 ft JY DJ yo)(Rp:L2.ax K JY DJ [])(Rq:mg "_law_take"=some (.ref ft))(Rr:keepIn K (.ref ft)=true):zG P w K mg base (aO P w) 2 f fd DJ xV:=by
 refine F.okN FF (λvs H Q E h=>?_) (λJw A outer s H vs Q E hr h=>?_)
 ·obtain⟨r,n,rfl,_⟩:=h;rfl
 ·obtain⟨r,n,rfl,hR,n3,K6,q⟩:=h;have JE:A8 1 _:=hr
  refine⟨_,(aj (pe (i:=2) (N:=["_law_k","_law_pool_here"]) (nl:=1) (js:=[0]) (osc:=aq Hj) ⟨rfl,rfl,by decide +kernel,by decide +kernel,by decide +kernel,rfl,(.cons ⟨rfl,by decide +kernel⟩ .nil),by decide +kernel⟩ rfl FF.nd rfl (Or.inl rfl)
   (jt (by rfl) JC (@ai _ _ _ _ _ (pv 1) af rfl))
   (λCq fq sq Hq=>aC (i:=0) (by show(["_law_k","_law_pool_here"]:p3).Nodup;decide +kernel) rfl (Or.inl rfl) (Or.inr rfl))
   (λCq fq sq Hq=>dk)
   (λCq fq sq Hq=>(@aH _ _ _ _ _ _ _ _ fZ ar (@aH _ _ _ _ _ _ _ _ cU ar (ay Ro JE (by rfl) Rq Rr Rp .nil ae (@ai _ _ _ _ _ (pv 1) (@ai _ _ _ _ _ ar af rfl) rfl))))) (by rfl))
   (aj (bc (@aM _ _ _ _ _ _ _ _ dZ (@aH _ _ _ _ _ _ _ _ cJ (kO zU PySem.F.slot_list_count PySem.F.type_list_count qZ (pv 2) (@ai _ _ _ _ _ (dM cK ar) af rfl)) ar) ar (aJ _)) (ak (oN (@aH _ _ _ _ _ _ _ _ fZ ar (@a9 _ _ _ _ _ _ _ cx (pv 2) ar (λ_ _=>rfl))) (rT (pv 2) ar lU))) aE)
   (ak (az (pv 2))))),?_⟩
  refine⟨_,rfl,(n:Int),rfl,by omega,by omega,?_⟩;refine qG (lo:=0) (n:=(n:Int).toNat) (rest:=[some (.ref r)]) (λj us H'=>gK H' r/\SameBut r H H'/\∃l:List Int,us=l.map V.int/\Sg l/\l.length=j) ⟨hR,λc v e _=>e,[],rfl,(λk hk=>nomatch hk),rfl⟩ (λj us H' hj h=>?_) (λj us H' M hj h hM=>?_) (λus H' h=>?_)
  ·obtain⟨_,_,l,rfl,_,rfl⟩:=h;rw[vW];exact Gv (by omega:_<=60) (by decide)
  ·obtain⟨⟨a,x,VI,x0,x1⟩,sb,l,rfl,hl,rfl⟩:=h;have b2:B 9000 (2:Int):=HY (by decide:(2:Int).natAbs<2^8) (Ht (by decide) (by decide));refine oP ⟨_,rfl,r,a,x,2,rfl,VI,x0,x1,by decide,by decide,λz a2 x2 z0 z1 y0 y1=>?_⟩;have bz:B 9000 z:=HY (by omega:z.natAbs<2^8) (Ht (by decide) (by decide));refine⟨_,_,rfl,rfl,⟨b2,bz⟩,_,_,rfl,rfl,hM _ _ ⟨⟨a2,x2,ah,y0,y1⟩,sb.trans SameBut.upd,l++[1-2*z],by rw[Hs];rfl,λk hk=>?_,by rw[tE];rfl⟩⟩
   rcases rQ.mp hk with hk|hk
   ·exact hl k hk
   ·rw[yP.mp hk];omega
  ·obtain⟨VI,sb,l,rfl,hl,ll⟩:=h;rw[F5] at ll;intro D hD
   have nD:D≠r:=λz=>by
    obtain⟨_,_,e,_⟩:=VI;rw[z,e] at hD;cases hD
   have s1:=ao (o:=.lst (l.map V.int)) hD;have e1:upd H' D (.lst (l.map V.int)) D=some (.lst (l.map V.int)):=ah;have R1:gK (upd H' D (.lst (l.map V.int))) r:=let⟨a,x,e,z⟩:=VI;⟨a,x,s1 _ _ e,z⟩;have MM:=sb.trans (SameBut.of s1);generalize upd H' D _=H1 at e1 R1 MM |-;refine⟨_,rfl,.inl ⟨rfl,_,aV.of e1⟩,_,rfl,D,_,.int (-1),rfl,rfl,aV.of e1,λz hz=>?_,rfl,?_⟩
   ·obtain⟨k,_,rfl⟩:=Hy.mp hz;rfl
   rw[uP];refine⟨_,_,rfl,rfl,(show(0:Int)<2 by decide),rfl,_,rfl,?_⟩;rw[dW]
   by_cases ev:l.count (-1)%2=0
   ·rw[show(((l.count (-1):Nat):Int)%2==0)=true from by simp;omega]
    cases l with
    |nil=>rw[<-ll] at n3;exact absurd n3 (by decide)
    |cons x t =>
     refine bZ ⟨_,rfl,D,_,0,.int x,rfl,rfl,aV.of e1,jU (j:=0) rfl,_,_,rfl,rfl,_,rfl,D,_,0,0,rfl,rfl,e1,(by unfold wW;simp),_,rfl,?_⟩;have hx:=hl x Ij;refine q _ D ((0-x):: t) ⟨λk hk=>?_,by rw[wF] at ll |-;omega,by rw[wF] at ll |-;omega,?_⟩ (by rw[<-ll];rfl) ah ?_ ?_ nD
     ·rcases BN.mp hk with rfl|hk
      ·omega
      ·exact hl k (Er _ hk)
     ·rcases hx with rfl|rfl
      ·rw[Bx (by decide)] at ev;show((-1:Int):: t).count (-1)%2=1;rw[FA];omega
      ·rw[FA] at ev;show((1:Int):: t).count (-1)%2=1;rw[Bx (by decide)];omega
     ·obtain⟨b,y,e,z⟩:=R1;exact⟨b,y,by rw[av (Jm nD)];exact e,z⟩
     ·exact λc v e n=>by rw[av (au (sb _ _ e n) hD)];exact MM _ _ e n
   ·rw[show(((l.count (-1):Nat):Int)%2==0)=false from by simp;omega];exact bw ⟨_,rfl,q _ D l ⟨hl,by omega,by omega,by omega⟩ ll e1 R1 MM nD⟩
theorem Fg (F:Dp K "_law_row" "_law_row" IR f fd)(Kh:mg "int"=none)(Jz:mg "tuple"=none):zG P w K mg base (aO P w) 1 f fd Dw Fu:=by
 refine F.okN Eh (λvs H Q E h=>?_) (λJw A outer s H vs Q E hr h=>?_)
 ·obtain⟨a,l,rfl,_⟩:=h;rfl
 ·obtain⟨a,l,rfl,ha,hl,n1,K6,q⟩:=h
  refine⟨_,(aj (@aW _ _ 1 _ _ _ _ Eh.nd rfl (Or.inl rfl) (@cg _ _ _ _ (@ai _ _ _ _ _ ar af rfl)) rfl (Or.inl rfl))
   (aj (dw wk rfl (cy (kN ug (pv 0) oJ (jY (dM cK ar)))) (aC (i:=2) Eh.nd rfl (Or.inl rfl))
   (ak (eB (kO zU rN vX fL (pv 1) (@ai _ _ _ _ _ (@a9 _ _ _ _ _ _ _ cx (@cg _ _ _ _ (@ai _ _ _ _ _ (@a9 _ _ _ _ _ _ _ cx (pv 1) (dM cK ar) (λ_ _=>rfl)) (@ai _ _ _ _ _ (@aH _ _ _ _ _ _ _ _ fZ ar (@a9 _ _ _ _ _ _ _ cx (pv 1) (dM cK ar) (λ_ _=>rfl))) af rfl) rfl)) (cE nX (by rfl) Kh (by rfl) (@ai _ _ _ _ _ (@cw _ _ _ _ _ _ _ _ dZ (pv 2) (dM cK ar) (aJ _)) af rfl)) (λ_ _=>rfl)) af rfl)))))
   (ak (az (cE fE (by rfl) Jz (by rfl) (@ai _ _ _ _ _ (pv 1) af rfl)))))),?_⟩
  refine⟨wV,λL hL=>?_⟩;have s2:=ao (o:=.lst [.int 0]) hL;have e2:upd H L (.lst [.int 0]) L=some (.lst [.int 0]):=ah;generalize upd H L _=H2 at s2 e2 |-;refine⟨_,rfl,_,rfl,_,rfl,a,_,rfl,aV.of (s2 _ _ ha),λT hT=>?_⟩;rw[pT (l:=l) n1];have s3:=ao (o:=.lst ((l.take (l.length-1)).map V.int)) hT;have eT:upd H2 T (.lst ((l.take (l.length-1)).map V.int)) T=some (.lst ((l.take (l.length-1)).map V.int)):=ah;have e3:=s3 _ _ e2;have nT:L≠T:=au e2 hT;generalize upd H2 T _=H3 at s3 eT e3 |-;have Lz:=s2.trans s3;refine⟨T,rfl,⟨_,aV.of eT⟩,?_⟩
  have len:((l.take (l.length-1)).map V.int).length=l.length-1:=by rw[vW,rh];omega
  refine fJ (xs:=(l.take (l.length-1)).map V.int) (λi σ H'=>aA H H'/\H' T=some (.lst ((l.take (l.length-1)).map V.int))/\H' L=some (.lst (((List.range (i+1)).map (iC l)).map V.int))/\∃o2,σ=[some (.ref a),some (.ref L),o2]) ⟨Lz,eT,e3,_,rfl⟩ (λi σ H' _ h=>aV.of h.2.1) ?_ ?_
  ·rintro i x σ H4 hx ⟨s4,eT4,OR,o2,rfl⟩
   have hi:i<l.length-1:=by
    have:=(Be.mp hx).1;rw[len] at this;exact this
   have PQ:i<l.length:=by omega
   have hx:x=.int (l.getD i 0):=by
    rw[wN,Af hi,Ff PQ] at hx;rw[show l.getD i 0=l[i] by simp[List.getD,PQ]];exact(Option.some.inj hx).symm
   subst hx
   have last:pQ (((List.range (i+1)).map (iC l)).map V.int) (-1)=some (.int (iC l i)):=by
    rw[jQ (by rw[wY,Hs];simp),wY,Hs];simp
   have L0:=hL;refine⟨_,rfl,.inl ⟨rfl,_,aV.of OR⟩,?_⟩;refine⟨_,rfl,_,rfl,L,_,-1,_,rfl,rfl,aV.of OR,last,?_⟩;refine⟨_,rfl,_,rfl,L,_,-1,_,rfl,rfl,aV.of OR,last,_,_,rfl,rfl,gR,λd hd=>?_⟩;have s5:=ao (o:=.lst [.int (iC l i),.int (1-iC l i)]) hd;have ed:upd H4 d (.lst [.int (iC l i),.int (1-iC l i)]) d=some (.lst [.int (iC l i),.int (1-iC l i)]):=ah;have Vy:=s5 _ _ OR;have eT5:=s5 _ _ eT4;change GX _ _ _ (upd H4 d (.lst [.int (iC l i),.int (1-iC l i)])) _;generalize upd H4 d _=H5 at s5 ed Vy eT5 |-;have hb:=pW hl PQ;refine⟨_,rfl,_,rfl,rfl,.inr ⟨_,rfl,?_⟩⟩;refine⟨d,_,_,.int (iC l (i+1)),rfl,rfl,aV.of ed,?_,?_⟩
   ·rw[hb]
    rcases hl.at PQ with z|z <;> rw[z]
    ·rfl
    ·rfl
   refine⟨L,_,_,rfl,rfl,Vy,?_,?_⟩
   ·rw[vW,vW,Ed];exact Gv (by omega:_<=60) (by decide)
   refine⟨λc v e=>?_,?_,?_,_,rfl⟩
   ·rw[av (au e L0)];exact s5 _ _ (s4 _ _ e)
   ·rw[av (Jm nT)];exact eT5
   ·rw[show((List.range (i+1+1)).map (iC l)).map V.int=((List.range (i+1)).map (iC l)).map V.int++[.int (iC l (i+1))] from by rw[wY (n:=i+1),Hs,Hs];rfl];exact ah
  ·rintro σ H4 ⟨s4,eT4,OR,o2,rfl⟩;rw[len,show l.length-1+1=l.length by omega] at OR;refine⟨_,rfl,L,_,rfl,.inl ⟨aV.of OR,λb hb=>q _ b (s4.trans (ao hb)) ah⟩⟩
abbrev HQ:Stmt:=(aQ 54)
theorem E6:DK ["system","thing","sided","nought"] Ej (aq HQ):=c9 (by decide +kernel)
def EK (CS C CF:Addr):Sp:=λvs H Q _=>∃(sy fl a:Addr)(p n:Int)(as:List Addr)(Kk:List (List Tm))(bs:List Int),vs=[.ref sy,.ref a,.bl false]/\rj CS CF H sy fl p n as []/\FP p/\jq C CF p H as Kk/\H a=some (.tup (bs.map V.int))/\(bs.length:Int)=n/\bs.length<64/\(∀b∈bs,0<=b/\b<=1) /\
 (∀ts∈Kk,WL p bs ts/\eO ts<=bs.length/\(cq p bs ts).1=0)/\∀H',aA H H'->Q (.bl true) H'
theorem F3 {fb fp fn fw CS T:Addr}{Lg Ke LW JT:qo}(F:HK K "is_filling" "is_filling" HQ f fd T)(cS:lH K mg CS)(c:DB K mg C)(Jv:mg "len"=none)
 (FB:zG P w K mg base (aO P w) 2 fb Lg Fl CM)(bB:L2.ax K Lg Fl [])(mB:mg "is_row_of_bits"=some (.ref fb))(kB:keepIn K (.ref fb)=true)
 (FYP:zG P w K mg base (aO P w) 1 fp Ke ["self"] (Dh CS CF))(bYP:L2.ax K Ke ["self"] [])(mYP:L2.Meth K CS "places" fp)
 (FYN:zG P w K mg base (aO P w) 1 fn LW ["self"] (CQ CS CF))(bYN:L2.ax K LW ["self"] [])(mYN:L2.Meth K CS "noughts" fn)
 (FWo:zG P w K mg base (aO P w) 5 fw JT v7 (uk C CF))(bWo:L2.ax K JT v7 [])(mWo:L2.Meth K C "worth" fw):zG P w K mg base (aO P w) 6 f fd Ej (EK CS C CF):=by
 refine F.okE E6 (λvs H Q E h=>?_) (λJw A outer s H vs Q E hr h=>?_)
 ·obtain⟨sy,fl,a,p,n,as,Kk,bs,rfl,_⟩:=h;rfl
 ·obtain⟨sy,fl,a,p,n,as,Kk,bs,rfl,Y,hp,Z,ha,hn,bl,eb,ok,q⟩:=h;have JE:A8 1 _:=hr.mono (by decide);have JR:A8 2 _:=hr.mono (by decide);have KY:A8 5 _:=hr.mono (by decide)
  refine⟨_,(aj (bc (PW.pt (eA (bF (bK (ay FB JR (by rfl) mB kB bB .nil ae (@ai _ _ _ _ _ (pv 1) af rfl)))) (dB (@aM _ _ _ _ _ _ _ _ ib (aB aK (by rfl) Jv A2 (@ai _ _ _ _ _ (pv 1) af rfl)) (cj (pv 0) cS.cl mYP FYP JE bYP .nil ae) (aJ _))))) (ak (az eY)) aE)
   (aj (dw (by passes_own) rfl (cy (cj (pv 0) cS.cl mYN FYN JE bYN .nil ae)) (aC (i:=3) E6.nd rfl (Or.inl rfl))
   (ak (bc (@aM _ _ _ _ _ _ _ _ ib (@a9 _ _ _ _ _ _ _ br (bH (pv 3) c.cl mWo FWo KY bWo .nil ae (@ai _ _ _ _ _ (pv 1) af rfl)) ar (λ_ _=>rfl)) ar (aJ _)) (ak (az eY)) aE)))
   (ak (az (aft (zN (pv 2)) (d9 F6)))))),?_⟩
  have Wi:ur (some (bs.map V.int))=true:=Wb.all (ts:=[]) ⟨bl,eb,by show(0:Int)<=_;omega⟩;refine⟨_,rfl,.ref a,some (bs.map V.int),rfl,.tup ha (by rw[vW];omega) (λy hy=>?_),λH1 s1=>⟨_,rfl,?_⟩⟩
  ·obtain⟨b,_,rfl⟩:=Hy.mp hy;exact⟨_,.int b⟩
  rw[Wi];refine bw ?_;obtain⟨dx,Ju,A1,B1,h1,h2,h3,h4⟩:=Y.ex;have KC:=s1 _ _ ha;refine⟨_,rfl,a,_,rfl,.inr (bf.of KC),_,rfl,sy,dx,_,rfl,s1 _ _ h1,rfl,sy,fl,p,n,as,[],rfl,Y.same s1,rfl,_,rfl,?_⟩;rw[dW,vW,show((bs.length:Int)==n)=true from by simpa using hn];refine bw ?_;refine⟨_,rfl,sy,dx,_,rfl,s1 _ _ h1,rfl,sy,fl,p,n,as,[],rfl,Y.same s1,λL hL=>?_⟩;have sL:=s1.trans (ao (o:=.lst (as.map V.ref)) hL);have eL:upd H1 L (.lst (as.map V.ref)) L=some (.lst (as.map V.ref)):=ah;generalize upd H1 L _=H2 at sL eL |-;refine⟨L,rfl,⟨_,aV.of eL⟩,?_⟩;refine fJ (xs:=as.map V.ref) (λi σ' H'=>aA H H'/\H' L=some (.lst (as.map V.ref))/\∃o3,σ'=[some (.ref sy),some (.ref a),some (.bl false),o3]) ⟨sL,eL,none,rfl⟩ (λi σ' H' _ h=>aV.of h.2.1) (λi x σ' H' hx h=>?_) (λσ' H' h=>?_)
  ·obtain⟨s3,e3,o3,rfl⟩:=h;rw[wN] at hx;obtain⟨sa,ea,rfl⟩:=CU.mp hx;obtain⟨ts,et,hS⟩:=aY Z ea;obtain⟨L1,r1,w0⟩:=ok ts (v5 et);have S3:=DO.same hS s3;obtain⟨VG,fls,aeo,Ds,zs,g1,g2,g3,g4⟩:=S3.ex;refine⟨_,rfl,sa,VG,_,rfl,g1,rfl,_,rfl,sa,a,p,ts,bs,rfl,S3,hp,L1,s3 _ _ ha,⟨bl,eb,r1⟩,λH4 aw s4 haw=>?_⟩;refine⟨aw,_,0,_,rfl,rfl,bf.of haw,a0 _ _,rfl,_,rfl,?_⟩;rw[dW,w0];exact bw ⟨s3.trans s4,s4 _ _ e3,_,rfl⟩
  ·obtain⟨s3,e3,o3,rfl⟩:=h;exact⟨_,rfl,_,rfl,_,rfl,bZ (q _ s3)⟩
end K74
namespace L2
open PySem PySem.Spec PyProof.Rows
theorem C3 {X:Cx}:eU X (compareOp .Is) (λx y H Q=>x=.bl true/\y=.bl true/\Q (.bl true) H):=by
 intro pins s σ H x y v u Q I rx ry h;obtain⟨rfl,rfl,q⟩:=h
 cases rx
 cases ry
 show wpAny _ _ (do let b <-(pure true:Sem Bool);pure (Value.bool b)) _ _ _;exact C7 (pO (pO (bq I q rfl)))
end L2
namespace K74
open PySem L2 PySem.W Nm Srt
abbrev HU:Stmt:=(aQ 73)
theorem pR:DK ["_law_prime","_law_signs_here","_law_field","_law_ones","_law_handed","_law_turn","_law_found","_law_others","_law_system"] Ah (aq HU):=c9 (by decide +kernel)
theorem Bq (p:Int)(s:Int×Int)(l:List Int):(pK p s l).map (·.1)=rp p l:=by simp[pK,rp,Function.comp_def]
theorem A9 (p:Int)(s:Int×Int)(l:List Int):(pK p s l).map (·.2)=ou p s l:=by simp[pK,ou,Function.comp_def]
theorem Fd {p:Int}(hp:FP p){a:List Tm}(h:bY p a):tg p (tg p a)=tg p a:=by
 obtain⟨R,i,v,V⟩:=hp.v;exact Cb V hp.nn (hp.tn h) h λF=>vG V hp.nn h F
variable {K:Frag}{H:Hp}{a:Addr}{ns:List Int}
theorem nZ (h:H a=some (.lst (ns.map V.int))):aN K H (.lst (ns.map D.int)) (.ref a):=by
 unfold aN;exact⟨a,_,rfl,aV.of h,uL ns⟩
theorem lI (ns:List Int):iB (.lst (ns.map D.int))=1:=by unfold iB;rw[Ao]
def Fc (l:List Int):List Int:=l.take (l.length-1)++[0-l.getLastD 0]
theorem CJ {l:List Int}(h:Rg l):Sg (Fc l)/\(Fc l).length=l.length/\(Fc l).count (-1)%2=0:=by
 have n3:=h.lo
 have ne:l≠[]:=λz=>by rw[z] at n3;exact absurd n3 (by decide)
 have e:l=l.take (l.length-1)++[l.getLastD 0]:=by
  have e1:l.getLastD 0=l[l.length-1]'(by omega):=by
   rw[vx,List.getLast?_eq_getElem?,Ff (by omega)];rfl
  rw[e1,<-List.take_succ_eq_append_getElem (by omega),List.take_of_length_le (by omega)]
 have hk:l.getLastD 0=1\/l.getLastD 0 = -1:=h.sg _ (by rw[e];simp);have odd:=h.odd;refine⟨λk hk'=>?_,?_,?_⟩
 ·rcases rQ.mp hk' with z|z
  ·exact h.sg k (vZ z)
  ·rw[yP.mp z];omega
 ·unfold Fc;rw[tE,rh];show min (l.length-1) l.length+1=l.length;omega
 ·unfold Fc;rw[e,AV] at odd;rw[AV]
  rcases hk with z|z
  ·rw[z] at odd |-;rw[show List.count (-1) [(1:Int)]=0 from rfl] at odd;rw[show List.count (-1) [(0-1:Int)]=1 from rfl];omega
  ·rw[z] at odd |-;rw[show List.count (-1) [(-1:Int)]=1 from rfl] at odd;rw[show List.count (-1) [(0 - -1:Int)]=0 from rfl];omega
def C1:Sp:=λvs H Q _=>∃(p:Int)(a:Addr)(l:List Int),vs=[.int p,.ref a]/\FP p/\p≠2/\H a=some (.lst (l.map V.int))/\Rg l/\∀H',aA H H'->Q (.bl true) H'
variable {P:Iy}{w:World}{K:PySem.W.Frag}{mg:xk}{base:Heap}
set_option maxHeartbeats 2000000 in
theorem EX {f fi fl_ fn fr fy fj ff fw fs fyi CS C CF Rj:Addr}{fd LJ JX LW LZ Q9 fdj QW JT Kp Ru:qo}(F:Dp K "_law_right" "_law_right" HU f fd)(cF:CP K mg CF)(cS:DB K mg C)(cY:lH K mg CS)(MS:Mk K C fs)(MY:Mk K CS fyi)(Jy:mg "list"=none)(JC:mg "range"=none)(Jv:mg "len"=none)
 (MF:Mk K CF fi)(FFI:zG P w K mg base (aO P w) 2 fi LJ w9 (pE CF Rj))(OP:L2.ax K LJ w9 [])
 (FLr:zG P w K mg base (aO P w) 6 fl_ JX Ah AZ)(bLr:L2.ax K JX Ah [])(mLr:mg "_law_ring"=some (.ref fl_))(kLr:keepIn K (.ref fl_)=true)
 (FRn:zG P w K mg base (aO P w) 10 fn LW vY (EB CS C CF))(bRn:L2.ax K LW vY [])(mRn:mg "ring"=some (.ref fn))(kRn:keepIn K (.ref fn)=true)
 (FRs:zG P w K mg base (aO P w) 10 fr LZ vY (F2 C CF))(bRs:L2.ax K LZ vY [])(mRs:mg "ring_showing"=some (.ref fr))(kRs:keepIn K (.ref fr)=true)
 (FIy:zG P w K mg base (aO P w) 4 fy Q9 yL (EF CS C CF))(bIy:L2.ax K Q9 yL [])(mIy:mg "_law_is_system"=some (.ref fy))(kIy:keepIn K (.ref fy)=true)
 (FIs:zG P w K mg base (aO P w) 6 fj fdj sR (Gy C CF))(bIs:L2.ax K fdj sR [])(mIs:mg "_law_is_showing"=some (.ref fj))(kIs:keepIn K (.ref fj)=true)
 (FRw:zG P w K mg base (aO P w) 1 fw JT Dw Fu)(bRw:L2.ax K JT Dw [])(mRw:mg "_law_row"=some (.ref fw))(kRw:keepIn K (.ref fw)=true)
 (Q2:zG P w K mg base (aO P w) 6 fs Kp yg (hV C CF))(L4:L2.ax K Kp yg [])
 (XA:zG P w K mg base (aO P w) 5 fyi Ru zc (AY CS C CF))(OM:L2.ax K Ru zc [.none])
 (Xg:zG P w K mg base (aO P w) 6 ff QW Ej (EK CS C CF))(Xh:L2.ax K QW Ej [.bool false])(Xi:mg "is_filling"=some (.ref ff))(kFi:keepIn K (.ref ff)=true):
 zG P w K mg base (aO P w) 11 f fd Ah C1:=by
 refine F.okN pR (λvs H Q E h=>?_) (λJw A outer s H vs Q E hr h=>?_)
 ·obtain⟨p,a,l,rfl,_⟩:=h;rfl
 ·obtain⟨p,a,l,rfl,hp,p2,ha,R,q⟩:=h;have K8:A8 10 _:=hr;have Q3:A8 7 _:=K8.mono (by decide);have ON:A8 6 _:=K8.mono (by decide);have JO:A8 4 _:=K8.mono (by decide);have LK:A8 3 _:=K8.mono (by decide);have JE:A8 1 _:=K8.mono (by decide);have n3:=R.lo;have K6:=R.hi
  refine⟨_,(aj (@aW _ _ 2 _ _ _ _ pR.nd rfl (Or.inr rfl) (eX MF FFI LK (by rfl) cF.mgC OP .nil ae (@ai _ _ _ _ _ (pv 0) af rfl)) rfl (Or.inl rfl))
   (aj (@aW _ _ 3 _ _ _ _ pR.nd rfl (Or.inl rfl) (ay FLr ON (by rfl) mLr kLr bLr .nil ae (@ai _ _ _ _ _ (pv 0) (@ai _ _ _ _ _ (pv 1) af rfl) rfl)) rfl (Or.inl rfl))
   (aj (@aW _ _ 4 _ _ _ _ pR.nd rfl (Or.inl rfl) (cE dH (by rfl) Jy (by rfl) (@ai _ _ _ _ _ (pv 1) af rfl)) rfl (Or.inl rfl))
   (aj (bc (bF (bK (ay FIy JO (by rfl) mIy kIy bIy .nil ae (@ai _ _ _ _ _ (ay FRn K8 (by rfl) mRn kRn bRn .nil ae (@ai _ _ _ _ _ (pv 2) (@ai _ _ _ _ _ (pv 4) af rfl) rfl)) (@ai _ _ _ _ _ (pv 0) (@ai _ _ _ _ _ (aB aK (by rfl) Jv A2 (@ai _ _ _ _ _ (pv 1) af rfl)) (@ai _ _ _ _ _ (pv 3) af rfl) rfl) rfl) rfl)))) (ak (az eY)) aE)
   (aj (dw wk rfl (jt (by rfl) JC (@ai _ _ _ _ _ ar af rfl)) (aC (i:=5) pR.nd rfl (Or.inl rfl))
   (aj (@aW _ _ 6 _ _ _ _ pR.nd rfl (Or.inl rfl) (ay FRs K8 (by rfl) mRs kRs bRs .nil ae (@ai _ _ _ _ _ (pv 2) (@ai _ _ _ _ _ (pv 4) af rfl) rfl)) rfl (Or.inl rfl))
   (aj (bc (PW.pt (eA (bF (bK (ay FIs ON (by rfl) mIs kIs bIs .nil ae (@ai _ _ _ _ _ (pv 0) (@ai _ _ _ _ _ (aB aK (by rfl) Jv A2 (@ai _ _ _ _ _ (pv 1) af rfl)) (@ai _ _ _ _ _ (pv 3) (@ai _ _ _ _ _ ar (@ai _ _ _ _ _ (pv 6) af rfl) rfl) rfl) rfl) rfl)))) (dB (@aM _ _ _ _ _ _ _ _ (show eU _ _ (vJ K true) from rA JE) (pv 4) (pv 1) (aJ _))))) (ak (az eY)) aE)
   (ak (eB (ab9 zU PySem.F.slot_list_clear PySem.F.type_list_clear aca (pv 6)))))))
   (aj (@aW _ _ 7 _ _ _ _ pR.nd rfl (Or.inl rfl) (@aH _ _ _ _ _ _ _ _ jV (kN ug (pv 1) oJ (jY (dM cK ar))) (@cg _ _ _ _ (@ai _ _ _ _ _ (@aH _ _ _ _ _ _ _ _ fZ ar (@a9 _ _ _ _ _ _ _ cx (pv 1) (dM cK ar) (λ_ _=>rfl))) af rfl))) rfl (Or.inl rfl))
   (aj (@aW _ _ 8 _ _ _ _ pR.nd rfl (Or.inl rfl) (eX (dvs:=[.non]) MY XA ON (by rfl) cY.mgC OM (.cons rfl .nil) ae (@ai _ _ _ _ _ (pv 2) (@ai _ _ _ _ _ (aB aK (by rfl) Jv A2 (@ai _ _ _ _ _ (pv 1) af rfl)) (@ai _ _ _ _ _ (dm (N:=["_law_terms","_law_field"]) (nl:=1) (js:=[2]) (osc:=aq HU) ⟨rfl,rfl,by decide +kernel,by decide +kernel,by decide +kernel,rfl,(.cons ⟨rfl,by decide +kernel⟩ .nil),by decide +kernel⟩ rfl
    (cy (ay FLr ON (by rfl) mLr kLr bLr .nil ae (@ai _ _ _ _ _ (pv 0) (@ai _ _ _ _ _ (pv 7) af rfl) rfl)))
    (λCq fq sq Hq=>aC (i:=0) (by show(["_law_terms","_law_field"]:p3).Nodup;decide +kernel) rfl (Or.inl rfl) (Or.inr rfl))
    (λCq fq sq Hq=>dk)
    (λCq fq sq Hq=>(eX MS Q2 Q3 (by rfl) cS.mgC L4 .nil ae (@ai _ _ _ _ _ (pv 1) (@ai _ _ _ _ _ (pv 0) af rfl) rfl)))) af rfl) rfl) rfl) (by decide) (aU rfl) (by rw[aU rfl,aU rfl];rfl)) rfl (Or.inl rfl))
   (ak (az (@cw _ _ _ _ _ _ _ _ C3 (ay (dvs:=[.bl false]) Xg ON (by rfl) Xi kFi Xh (.cons rfl .nil) ae (@ai _ _ _ _ _ (pv 8) (@ai _ _ _ _ _ (ay FRw JE (by rfl) mRw kRw bRw .nil ae (@ai _ _ _ _ _ (pv 7) af rfl)) af rfl) rfl)) eY (aJ _))))))))))),?_⟩
  refine⟨_,rfl,λfl Ju hf0 PJ ne0=>?_⟩;refine j7 hf0 PJ ne0 hp λH1 s1 hf=>?_;refine⟨_,rfl,_,rfl,p,a,l,rfl,hp,s1 _ _ ha,R.sg,by omega,K6,λH2 ln ns s2 nD2 e2 h2=>?_⟩;have KR:=s1.trans s2;refine⟨_,rfl,a,_,rfl,.inl (aV.of (KR _ _ ha)),λhd hh=>?_⟩;have s3:=ao (o:=.lst (l.map V.int)) hh;have e3:upd H2 hd (.lst (l.map V.int)) hd=some (.lst (l.map V.int)):=ah;have nh:hd≠ln:=(au e2 hh).symm;generalize upd H2 hd _=H3 at s3 e3 |-;have Lz:=KR.trans s3;refine⟨_,rfl,_,rfl,fl,Ju,hd,p,l,rfl,(s2.trans s3) _ _ hf,hp,p2,e3,R,λH4 sy as s4 Y hS=>?_⟩;have K7:=Lz.trans s4;have h4:Paired (rq H4) ns (rp p l):=Paired.agP h2 λ_ _ z=>rq.same z (s3.trans s4);refine⟨_,rfl,_,rfl,a,_,rfl,.inl (aV.of (K7 _ _ ha)),_,rfl,?_⟩;rw[vW];refine⟨sy,fl,ln,p,_,as,ns,rp p l,rfl,Y,hp,hS,(s3.trans s4) _ _ e2,h4,by rw[eE];exact K6,λH5 s5=>⟨_,rfl,bw ?_⟩⟩;have Lh:=K7.trans s5;have VJ:=s3.trans (s4.trans s5);have OE:=s4.trans s5;have hf5:=(s2.trans VJ) _ _ hf;have ln5:=VJ _ _ e2;have h5:Paired (rq H5) ns (rp p l):=Paired.agP h4 λ_ _ z=>rq.same z s5;have hd5:=OE _ _ e3;have XH:=Lh _ _ ha;refine⟨2,rfl,by decide,by decide,?_⟩;refine nG (lo:=0) (λi σ H'=>aA H5 H'/\∃o5 o6 o7 o8,σ=[some (.int p),some (.ref a),some (.ref fl),some (.ref ln),some (.ref hd),o5,o6,o7,o8]) ⟨aA.refl _,_,_,_,_,rfl⟩ ?_ ?_
  ·rintro i σ H6 hi ⟨s6,o5,o6,o7,o8,rfl⟩;refine⟨_,rfl,_,rfl,fl,Ju,hd,p,l,rfl,s6 _ _ hf5,hp,p2,s6 _ _ hd5,R,λH7 D us c s7 nD eD hs hS=>?_⟩;have KG:=s6.trans s7;refine⟨_,rfl,_,rfl,a,_,rfl,.inl (aV.of (KG _ _ XH)),?_⟩;rw[vW];refine⟨_,rfl,_,rfl,p,(l.length:Nat),ln,D,ns,us,pK p c l,rfl,hp,KG _ _ ln5,?_,eD,?_,DT hp hs R.sg,?_,DN hp hs R.sg (by omega) K6 R.odd,ub hp hs R.sg (by omega) R.odd,λH8 s8=>⟨_,rfl,bw ?_⟩⟩
   ·rw[Bq];exact Paired.agP h5 λ_ _ z=>rq.same z KG
   ·rw[A9];exact hS
   ·unfold pK;rw[vW,Ed];exact K6
   have VL:=KG.trans s8;refine⟨_,rfl,_,rfl,_,_,nZ (VL _ _ hd5),nZ (VL _ _ XH),by rw[lI];decide,_,rfl,?_⟩;rw[eN];refine bw ?_;refine⟨_,rfl,.inl ⟨rfl,_,aV.of (s8 _ _ eD)⟩,D,_,rfl,rfl,s8 _ _ eD,?_⟩;refine⟨λc u e=>?_,_,_,_,_,rfl⟩;rw[av (au (s6 _ _ e) nD)];exact s8 _ _ (KG _ _ e)
  ·rintro σ H6 ⟨s6,o5,o6,o7,o8,rfl⟩;have XI:=s6 _ _ XH;have hf6:=s6 _ _ hf5;have s06:=Lh.trans s6;obtain⟨og,ol,oe⟩:=CJ R
   have ne:l≠[]:=λz=>by rw[z] at n3;exact absurd n3 (by decide)
   refine⟨_,rfl,_,rfl,_,rfl,a,_,rfl,aV.of XI,λT hT=>?_⟩;rw[pT (by omega)];have s7:=ao (o:=.lst ((l.take (l.length-1)).map V.int)) hT;have e7:upd H6 T (.lst ((l.take (l.length-1)).map V.int)) T=some (.lst ((l.take (l.length-1)).map V.int)):=ah;generalize upd H6 T _=H7 at s7 e7 |-;refine⟨_,rfl,_,rfl,a,_,-1,_,rfl,rfl,aV.of (s7 _ _ XI),jQ ne,_,_,rfl,rfl,wV,λT2 hT2=>?_⟩;have s8:=ao (o:=.lst [.int (0-l.getLastD 0)]) hT2;have e8:upd H7 T2 (.lst [.int (0-l.getLastD 0)]) T2=some (.lst [.int (0-l.getLastD 0)]):=ah;generalize upd H7 T2 _=H8 at s8 e8 |-;refine⟨T,T2,_,_,rfl,rfl,s8 _ _ e7,e8,?_,λD H9 nD s9 e9=>?_⟩
   ·rw[vW,rh];exact EW (by show _+1<=61;omega) (by decide)
   have e9:H9 D=some (.lst ((Fc l).map V.int)):=by
    rw[e9];unfold Fc;rw[Hs];rfl
   have VM:=s7.trans (s8.trans s9);have s09:=s06.trans VM;refine⟨_,rfl,_,rfl,a,_,rfl,.inl (aV.of (VM _ _ XI)),?_⟩;rw[vW,<-ol];refine⟨_,rfl,_,rfl,p,D,Fc l,rfl,hp,e9,og,by omega,by omega,λMw D2 ns2 My n10 Rk h10=>?_⟩;refine⟨D2,rfl,⟨_,aV.of Rk⟩,?_⟩;have nl:=h10.length;refine lA (a:=D2) (xs:=ns2) (rest:=[some (.ref fl)]) (λj us H'=>aA Mw H'/\∃Ma:List Addr,us=Ma.map V.ref/\jq C CF p H' Ma ((rp p (Fc l)).take j)) ⟨aA.refl _,[],rfl,.nil⟩ (λj us H' hj h=>?_) (λj x us H' M hj hx h hM=>?_) (λus H' h=>?_)
   ·obtain⟨sH,Ma,rfl,MB⟩:=h;refine⟨?_,aV.of (sH _ _ Rk)⟩;rw[vW,MB.length,rh,eE];exact Gv (by omega:_<=60) (by decide)
   ·obtain⟨sH,Ma,rfl,MB⟩:=h;obtain⟨ts,et,LR⟩:=aY h10 hx;obtain⟨lr,ys,rfl,hlr,PN⟩:=LR.same sH
    have hj2:j<(Fc l).length:=by rw[<-eE p (Fc l)];exact(Be.mp et).1
    have et0:=et;rw[pz hj2,Option.some.injEq] at et;have hw:=kD hp j (nx (Fc l).length j:Nat) (og.at hj2);have hj3:nx (Fc l).length j<(Fc l).length:=Hz _ (by omega);refine oP ⟨_,rfl,_,rfl,λx dx hx Lq ne2=>?_⟩;refine xN (ts:=ts) ((My.trans sH) _ _ (VM _ _ hf6)) hp hlr PN ?_ ?_ hx Lq ne2 λXp KH XJ=>hM _ _ ⟨sH.trans KH,Ma++[x],by rw[Hs];rfl,?_⟩
    ·rw[<-et];exact hw.th hp (by decide) (by decide) (by decide) (by decide) (by decide)
    ·intro t ht;rw[<-et] at ht;have k1:=hw.ky t ht;refine sX k1.1 (λk hk=>?_) (Gv (hw.key (by decide:(2:Nat)<32) t ht).2 (by decide:(2:Nat)<4000))
     rcases BN.mp (k1.2 k hk) with z|z
     ·omega
     ·have:=yP.mp z;omega
    ·rw[vQ,et0];rw[<-et] at XJ |-;have e:tg p (wi p j (nx (Fc l).length j:Nat) ((Fc l).getD j 0))=wi p j (nx (Fc l).length j:Nat) ((Fc l).getD j 0):=Fd hp (pI hp _ _ _);rw[e] at XJ;exact mx (MB.same KH) XJ
   ·obtain⟨sH,Ma,rfl,MB⟩:=h;rw[nl,vt] at MB;intro L hL;have Ks:=ao (o:=.lst (Ma.map V.ref)) hL;have P5:upd H' L (.lst (Ma.map V.ref)) L=some (.lst (Ma.map V.ref)):=ah;have MB:=MB.same Ks;change HS _ (upd H' L (.lst (Ma.map V.ref))) _;generalize upd H' L _=P4 at Ks P5 MB |-;have Rv:=My.trans (sH.trans Ks);refine λx dx hx Lq ne2=>?_;refine IM (Ji hp (Rv _ _ (VM _ _ hf6)) og (by omega) (by omega) P5 MB) hx Lq ne2 λH13 VN hy=>?_;have Rw:=Rv.trans VN;refine⟨_,rfl,_,rfl,D,Fc l,rfl,Rw _ _ e9,og,by omega,by omega,λH14 b Ly e14=>?_⟩;refine⟨x,fl,b,p,_,Ma,rp p (Fc l),gA (Fc l),rfl,hy.same Ly,hp,MB.same (VN.trans Ly),e14,by rw[ma],by rw[ma];omega,λb hb=>?_,λts ht=>?_,λH15 XM=>⟨rfl,rfl,q _ (s09.trans (Rw.trans (Ly.trans XM)))⟩⟩
    ·obtain⟨i,_,e⟩:=Hy.mp hb;rw[<-e]
     rcases sJ (Fc l) i with z|z <;> rw[z] <;> decide
    ·obtain⟨i,hi,e⟩:=Hy.mp ht;have hi:=HD.mp hi;rw[<-e];have hz:=BD hp og oe hi;have PF:=Ci (bs:=gA (Fc l)) hp i (nx (Fc l).length i) hi (Hz _ (by omega)) (og.at hi);exact⟨PF.1,by rw[ma];exact PF.2,hz⟩
abbrev E3:Stmt:=(aQ 74)
def vq (K:Frag)(H:Hp)(a:Addr)(ns:List Int):Prop:=(∃o,H a=some (.frz o (.lst (ns.map V.int))))\/∃(o:Obj)(its:EV)(n:Nat),K.lookup a=some o/\o.cls=.type "list"/\o.dict=none/\o.data=.seq its n/\its.size<=sizeLine/\L2.aR (ns.map V.int) its.toList
theorem vq.sq (h:vq K H a ns):aV K H a (ns.map V.int):=by
 rcases h with⟨o,h⟩|h
 ·exact .inl (.inr ⟨o,h⟩)
 ·exact .inr h
theorem vq.same {H':Hp}(h:vq K H a ns)(S:aA H H'):vq K H' a ns:=by
 rcases h with⟨o,h⟩|h
 ·exact .inl ⟨o,S _ _ h⟩
 ·exact .inr h
theorem vq.but {H':Hp}{r:Addr}(h:vq K H a ns)(R:gK H r)(S:SameBut r H H'):vq K H' a ns:=by
 rcases h with⟨o,h⟩|h
 ·refine .inl ⟨o,S _ _ h λz=>?_⟩;obtain⟨l,x,e,_⟩:=R;rw[z,e] at h
  cases h
 ·exact .inr h
def zL (K:Frag):Sp:=λvs H Q _=>∃(a:Addr)(ns:List Int),vs=[.ref a]/\vq K H a ns/\ns.length<=63/\∀H',Q (.bl true) H'
abbrev AF:List Int:=[0,3,5,7,11,13,23,31,53,71,89,97,0,0]
theorem Cy {p:Int}(h:p∈AF):FP p/\p≠2:=by
 have:∀p∈AF,(p=0\/p∈c6)/\p≠2:=by decide
 exact this p h
theorem qy:DK ["_law_script","_law_k","_law_pool_here","_law_prime","_law_many"] ["_law_script"] (aq E3):=c9 (by decide +kernel)
set_option maxHeartbeats 1000000 in
theorem Es {f fo ft fr fs:Addr}{fd Nf JY LZ Kp:qo}(F:Dp K "law" "law" E3 f fd)(JC:mg "range"=none)(JU:mg "max"=none)(Mb:mg "min"=none)(Jv:mg "len"=none)(Kh:mg "int"=none)
 (WI:zG P w K mg base (aO P w) 1 fo Nf zW (xy K))(WJ:L2.ax K Nf zW [])(WK:mg "_law_pool"=some (.ref fo))(kPo:keepIn K (.ref fo)=true)
 (Ro:zG P w K mg base (aO P w) 1 ft JY DJ yo)(Rp:L2.ax K JY DJ [])(Rq:mg "_law_take"=some (.ref ft))(Rr:keepIn K (.ref ft)=true)
 (FSi:zG P w K mg base (aO P w) 2 fs Kp DJ xV)(bSi:L2.ax K Kp DJ [])(mSi:mg "_law_signs"=some (.ref fs))(kSi:keepIn K (.ref fs)=true)
 (FRi:zG P w K mg base (aO P w) 11 fr LZ Ah C1)(bRi:L2.ax K LZ Ah [])(mRi:mg "_law_right"=some (.ref fr))(kRi:keepIn K (.ref fr)=true):
 zG P w K mg base (aO P w) 12 f fd ["_law_script"] (zL K):=by
 refine F.okN qy (λvs H Q E h=>?_) (λJw A outer s H vs Q E hr h=>?_)
 ·obtain⟨a,ns,rfl,_⟩:=h;rfl
 ·obtain⟨a,ns,rfl,scr,hlen,fin⟩:=h;have OS:A8 11 _:=hr;have JR:A8 2 _:=OS.mono (by decide);have JE:A8 1 _:=OS.mono (by decide)
  refine⟨_,(@aj _ _ _ _ _ (@dw _ _ _ _ _ _ _ _ wk rfl (jt (by rfl) JC (@ai _ _ _ _ _ (aB (aaG rfl) (by rfl) JU (by rfl) (@ai _ _ _ _ _ ar (@ai _ _ _ _ _ (aB (aaH rfl) (by rfl) Mb (by rfl) (@ai _ _ _ _ _ (aB aK (by rfl) Jv A2 (@ai _ _ _ _ _ (pv 0) af rfl)) (@ai _ _ _ _ _ ar af rfl) rfl)) af rfl) rfl)) af rfl)) (aC (i:=1) qy.nd rfl (Or.inl rfl))
   (@aj _ _ _ _ _ (@aW _ _ 2 _ _ _ _ qy.nd rfl (Or.inl rfl) (ay WI JE (by rfl) WK kPo WJ .nil ae (@ai _ _ _ _ _ (pv 0) (@ai _ _ _ _ _ (pv 1) af rfl) rfl)) rfl (Or.inl rfl))
   (@aj _ _ _ _ _ (@aW _ _ 3 _ _ _ _ qy.nd rfl (Or.inl rfl) (@a9 _ _ _ _ _ _ _ cx (@agD _ _ _ AF rfl (by decide)) (ay Ro JE (by rfl) Rq Rr Rp .nil ae (@ai _ _ _ _ _ (pv 2) (@ai _ _ _ _ _ ar af rfl) rfl)) (λ_ _=>rfl)) rfl (Or.inl rfl))
   (@aj _ _ _ _ _ (@aW _ _ 4 _ _ _ _ qy.nd rfl (Or.inl rfl) (@a9 _ _ _ _ _ _ _ cx (@cg _ _ _ _ (@ai _ _ _ _ _ (@aH _ _ _ _ _ _ _ _ eK ar (ay Ro JE (by rfl) Rq Rr Rp .nil ae (@ai _ _ _ _ _ (pv 2) (@ai _ _ _ _ _ ar af rfl) rfl))) (@ai _ _ _ _ _ ar af rfl) rfl)) (cE nX (by rfl) Kh (by rfl) (@ai _ _ _ _ _ (@cw _ _ _ _ _ _ _ _ dZ (ay Ro JE (by rfl) Rq Rr Rp .nil ae (@ai _ _ _ _ _ (pv 2) (@ai _ _ _ _ _ ar af rfl) rfl)) ar (aJ _)) af rfl)) (λ_ _=>rfl)) rfl (Or.inl rfl))
   (@ak _ _ _ (bc (bF (bK (ay FRi OS (by rfl) mRi kRi bRi .nil ae (@ai _ _ _ _ _ (pv 3) (@ai _ _ _ _ _ (ay FSi JR (by rfl) mSi kSi bSi .nil ae (@ai _ _ _ _ _ (pv 2) (@ai _ _ _ _ _ (pv 4) af rfl) rfl)) af rfl) rfl)))) (@ak _ _ _ (az eY)) aE))))) (by intro _;rfl))
   (@ak _ _ _ (az eY))),?_⟩
  refine⟨_,rfl,a,_,rfl,.inl scr.sq,_,_,rfl,_,_,rfl,_,rfl,?_,?_,?_⟩
  ·rw[vW]
   split <;> split <;> omega
  ·rw[vW]
   split <;> split <;> omega
  refine nG (lo:=0) (λi σ H'=>(∃o1 o2 o3 o4,σ=[some (.ref a),o1,o2,o3,o4])/\vq K H' a ns) ⟨⟨_,_,_,_,rfl⟩,scr⟩ ?_ ?_
  ·rintro i σ G0 hi ⟨⟨o1,o2,o3,o4,rfl⟩,sc0⟩
   have ae5:i<40:=by
    rw[vW] at hi
    split at hi <;> split at hi <;> omega
   refine⟨_,rfl,_,rfl,a,ns,0+(i:Int),rfl,sc0.sq,hlen,by omega,by omega,λr l1 r1 Wn JE JR=>?_⟩;have S1:=ao (o:=.lst [.int l1,.int r1]) Wn;have sc1:=sc0.same S1;have R1:gK (upd G0 r (.lst [.int l1,.int r1])) r:=⟨l1,r1,ah,JE,JR⟩;generalize (upd G0 r (.lst [.int l1,.int r1]))=G1 at sc1 R1 |-;intro m hm;have S2:=ao (o:=.lst (AF.map V.int)) hm;have sc2:=sc1.same S2;have em:upd G1 m (.lst (AF.map V.int)) m=some (.lst (AF.map V.int)):=ah;obtain⟨l2,r2,e1,z1,z2⟩:=R1;have e2:=S2 _ _ e1;have nm:m≠r:=(au e1 hm).symm;generalize upd G1 m _=G2 at sc2 em e2 |-;refine⟨_,rfl,r,l2,r2,14,rfl,e2,z1,z2,by decide,by decide,λz l3 r3 y0 y1 y2 y3=>?_⟩;obtain⟨p,hp,LX⟩:=ahu (xs:=AF) y0 (by have:AF.length=14:=rfl;omega);obtain⟨hp,p2⟩:=Cy hp;have R2:gK G2 r:=⟨l2,r2,e2,z1,z2⟩
   have sc3:vq K (upd G2 r (.lst [.int l3,.int r3])) a ns:=sc2.but R2 λb u e hb=>by rw[av hb];exact e
   have e3:upd G2 r (.lst [.int l3,.int r3]) r=some (.lst [.int l3,.int r3]):=ah
   have em3:upd G2 r (.lst [.int l3,.int r3]) m=some (.lst (AF.map V.int)):=by rw[av nm];exact em
   refine⟨m,_,z,.int p,rfl,rfl,aV.of em3,LX,?_⟩;generalize upd G2 r (.lst [.int l3,.int r3])=G3 at sc3 e3 em3 |-;refine⟨_,rfl,r,l3,r3,10,rfl,e3,y2,y3,by decide,by decide,λu l4 r4 x0 x1 x2 x3=>?_⟩
   have sc4:vq K (upd G3 r (.lst [.int l4,.int r4])) a ns:=sc3.but ⟨l3,r3,e3,y2,y3⟩ λb u e hb=>by rw[av hb];exact e
   have e4:upd G3 r (.lst [.int l4,.int r4]) r=some (.lst [.int l4,.int r4]):=ah;generalize upd G3 r (.lst [.int l4,.int r4])=G4 at sc4 e4 |-;refine⟨_,_,rfl,rfl,gR,λd hd=>?_⟩;have S5:=ao (o:=.lst [.int (3+u),.int 60]) hd;have ed:upd G4 d (.lst [.int (3+u),.int 60]) d=some (.lst [.int (3+u),.int 60]):=ah;have sc5:=sc4.same S5;have e5:=S5 _ _ e4;have nd:d≠r:=(au e4 hd).symm;change GX _ _ _ (upd G4 d (.lst [.int (3+u),.int 60])) _;generalize upd G4 d _=G5 at sc5 ed e5 |-;refine⟨_,rfl,r,l4,r4,8,rfl,e5,x2,x3,by decide,by decide,λv l6 r6 v0 v1 v2 v3=>?_⟩
   have sc6:vq K (upd G5 r (.lst [.int l6,.int r6])) a ns:=sc5.but ⟨l4,r4,e5,x2,x3⟩ λb u e hb=>by rw[av hb];exact e
   have R6:gK (upd G5 r (.lst [.int l6,.int r6])) r:=⟨l6,r6,ah,v2,v3⟩
   have ed6:upd G5 r (.lst [.int l6,.int r6]) d=some (.lst [.int (3+u),.int 60]):=by rw[av nd];exact ed
   refine⟨rfl,.inr ⟨_,rfl,?_⟩⟩
   have many:∃n:Nat,3<=n/\n<=60/\pQ [V.int (3+u),V.int 60] (if decide (V.int v=V.int 0)=true then 1 else 0)=some (.int n):=by
    by_cases z:V.int v=V.int 0
    ·rw[sG z];exact⟨60,by decide,by decide,rfl⟩
    ·rw[Fx z];refine⟨(3+u).toNat,by omega,by omega,?_⟩;rw[Int.toNat_of_nonneg (by omega)];rfl
   obtain⟨n,n3,K6,hn⟩:=many;refine⟨d,_,_,.int n,rfl,rfl,aV.of ed6,hn,?_⟩;generalize upd G5 r (.lst [.int l6,.int r6])=G6 at sc6 R6 |-;refine⟨_,rfl,_,rfl,_,rfl,r,n,rfl,R6,n3,K6,λG7 b l hl _ eb R7 S7 _=>?_⟩;have sc7:=sc6.but R6 S7;exact⟨p,b,l,rfl,hp,p2,eb,hl,λG8 S8=>⟨_,rfl,bw ⟨⟨_,_,_,_,rfl⟩,sc7.same S8⟩⟩⟩
  ·rintro σ H' ⟨⟨o1,o2,o3,o4,rfl⟩,_⟩;exact fin _
end K74
namespace Hd
open PySem PySem.W PyProof.Rows
def qh (K:Frag)(x qual:Str)(st:Stmt)(f:Addr):Prop:=∃(oc:Value)(od:rW)(kV doc pm:Value)(an:rW)(Jw ct:Value)(JM:Hl),
 K.lookup f=some ⟨oc,od,.func (fnOf x qual (L2.dn st) (L2.cB st) (L2.aq st) .none kV doc pm an Jw ct),JM⟩/\codeIn K Jw qual=true/\keepIn K (.ref f)=true
variable {K:Frag}{x qual:Str}{st:Stmt}
theorem sO {v:Option (Option Value)}(h:aL K v=cR x qual st)(b:cM K v qual=true):v=some (some (.ref (cC v)))/\qh K x qual st (cC v):=by
 unfold aL at h;obtain⟨fd,e,s⟩:=CU.mp (show(rg K v).map BO=some _ from h);unfold cM at b;rw[e] at b;rw[Im] at b;unfold rg at e
 split at e
 ·rename_i f
  split at e
  ·rename_i oc od fd' JM hl
   cases e
   refine⟨rfl,oc,od,fd.kwdefaults,fd.doc,fd.pyModule,fd.annotations,fd.code,fd.closureTuple,JM,?_,b.2,b.1⟩;show K.lookup f=_;rw[hl];obtain⟨n,q,p,bd,sc,g,c,dv,kv,dc,pm,an,cd,ct,bl⟩:=fd;unfold BO at s;simp only[Prod.mk.injEq] at s;obtain⟨rfl,rfl,rfl,rfl,rfl,rfl,rfl,rfl,rfl⟩:=s;rfl
  ·cases e
 ·cases e
theorem qh.fn {f:Addr}(d:qh K x qual st f):∃fd,L2.Dp K x qual st f fd:=by
 obtain⟨oc,od,kV,doc,pm,an,Jw,ct,JM,l,c,k⟩:=d;exact⟨_,L2.agQ l c k⟩
theorem qh.keep {f:Addr}(d:qh K x qual st f):keepIn K (.ref f)=true:=by
 obtain⟨oc,od,kV,doc,pm,an,Jw,ct,JM,l,c,k⟩:=d;exact k
end Hd
namespace L2
open PySem PySem.Spec PyProof.Rows PySem.W
end L2
namespace Hd
open PySem PySem.W PyProof.Rows
def yU (K:Frag)(x qual:Str)(st:Stmt)(f T:Addr):Prop:=∃(oc:Value)(od:rW)(kV doc pm:Value)(an:rW)(Jw ct:Value)(JM:Hl),
 K.lookup f=some ⟨oc,od,.func (fnOf x qual (L2.dn st) (L2.cB st) (L2.aq st) (.ref T) kV doc pm an Jw ct),JM⟩/\codeIn K Jw qual=true/\keepIn K (.ref f)=true
variable {K:Frag}{x qual:Str}{st:Stmt}
theorem hJ {v:Option (Option Value)}(h:fW K v=cR x qual st)(b:cM K v qual=true)(d:ph K v=true):v=some (some (.ref (cC v)))/\yU K x qual st (cC v) (kb K v):=by
 unfold fW at h;obtain⟨fd,e,s⟩:=CU.mp (show(rg K v).map (λfd=>BO {fd with defaults:=.none})=some _ from h)
 have hd:fd.defaults=.ref (kb K v):=by
  unfold ph GY at d;unfold kb GY;rw[e] at d |-;dsimp only at d |-
  cases q:fd.defaults with
  |ref a=>rfl
  |_=>rw[q] at d;cases d
 unfold cM at b;rw[e] at b;rw[Im] at b;generalize kb K v=T at hd;unfold rg at e
 split at e
 ·rename_i f
  split at e
  ·rename_i oc od fd' JM hl
   cases e
   refine⟨rfl,oc,od,fd.kwdefaults,fd.doc,fd.pyModule,fd.annotations,fd.code,fd.closureTuple,JM,?_,b.2,b.1⟩;show K.lookup f=_;rw[hl];obtain⟨n,q,p,bd,sc,g,c,dv,kv,dc,pm,an,cd,ct,bl⟩:=fd;unfold BO at s;simp only[Prod.mk.injEq] at s;have hd:dv=.ref T:=hd;subst hd;obtain⟨rfl,rfl,rfl,rfl,rfl,rfl,rfl,_,rfl⟩:=s;rfl
  ·cases e
 ·cases e
theorem yU.fn {f T:Addr}(d:yU K x qual st f T):∃fd,L2.HK K x qual st f fd T:=by
 obtain⟨oc,od,kV,doc,pm,an,Jw,ct,JM,l,c,k⟩:=d;exact⟨_,L2.acS l c k⟩
theorem yU.keep {f T:Addr}(d:yU K x qual st f T):keepIn K (.ref f)=true:=by
 obtain⟨oc,od,kV,doc,pm,an,Jw,ct,JM,l,c,k⟩:=d;exact k
theorem rf:∀{vs:yX}{ns:List Int},uJ vs ns=true->L2.aR (ns.map L2.V.int) vs
 |[],[],_=>.nil
 |v::vs,n::ns,h=>by
  unfold uJ at h;rw[Im] at h;obtain⟨t,rfl⟩:=jg h.1;exact .cons ⟨t,rfl⟩ (rf h.2)
 |[],_::_,h=>by cases h
 |_::_,[],h=>by cases h
theorem t7 {a:Addr}{ns:List Int}(h:zm K a ns=true)(H:L2.Hp):L2.bf K H a (ns.map L2.V.int):=by
 unfold zm at h
 split at h
 ·rename_i o ho
  rw[Im] at h;obtain⟨h1,h2⟩:=h
  split at h1
  ·rename_i T hT
   split at h2
   ·rename_i its n hd
    rw[Im] at h2
    have:T="tuple":=by simpa using h1
    subst this;exact .inr ⟨o,its,n,ho,hT,hd,Eo h2.2,rf h2.1⟩
   ·cases h2
  ·cases h1
 ·cases h
open L2 in
theorem vw {l:OpenLaw}{n k:Nat}{q:Iy}{loose:p3}{XP:(Str->Option Value)->Heap->Prop}{YP:World->Heap->Prop}{d:DefRec}{CX:World->rS}{sp:Frag->Sp}{x:Str}{φ:Frag->Prop}{tabs:Frag->List (Addr×Addr)}
 (hn:l.most=some n)(Pz:n<=sizeLine)(Qr:d.params.defaults=[])(hr:A8 k callerA)
 (hY:∀(w:World)(h:Heap),YP w h->∃K:Frag,φ K/\K.In h)
 (hT:∀(w:World)(s₀:AL)(mg mb:xk)(h:Heap)(K:Frag),φ K->Ground q loose [] XP w s₀ mg mb h->K.In h->TabsAt (tabs K) h/\∀r∈tabs K,K.lookup r.2=none)
 (F:∀(w:World)(K:Frag)(mg:xk)(fa:Addr)(h:Heap),φ K->K.In h->h.Ns mainGlobals mg->mg d.name=some (.ref fa) →
  ∃fd:FuncData,(∀(s:AL)(u:Value),BindsTo s fd ⟨[u],[]⟩ [(x,u)])/\∀base:Heap,K.In base->base.Ns mainGlobals mg->Ak (tabs K) mg base->zG l.prog w K mg base (CX w) k fa fd [x] (sp K))
 (Lv:∀(K:Frag)(H:Hp)(a:Addr)(ns:List Int),ns.length<=n->yz (tabs K) H->aV K H a (ns.map V.int)->sp K [.ref a] H (λv _=>v=.bl true) λ_ _ _=>False)
 (Wk:∀(w:World)(H:Hp)(s:AL)(e:Value)(s':AL),CX w [] H s (λ_ _ _=>False) e s'->False):
 WalkO q loose XP YP l.row.toRowW d [] (λf vs=>PySem.call f vs):=by
 refine ZJ.aho hn Qr λw s₀ s₁ mg mb fa o pm cd doc a vs ns G Y ho hd Ka V7 N6 hints hlen hg=>?_;obtain⟨K,hφ,KX⟩:=hY w _ Y;obtain⟨fd,hb,hF⟩:=F w K mg fa _ hφ KX G.T.g V7;obtain⟨t1,t2⟩:=hT w s₀ mg mb _ K hφ G KX;exact acC KX G.T.g G.T.b G.T.builtins G.T.nolimit hg N6 hints (EW hlen Pz) hr t1 t2 G.T.bmain hF hb (λH hO hS=>Lv K H a ns hlen hO hS) λH e s'=>Wk w H s₁ e s'
end Hd
namespace K74
open PySem L2 PySem.W Nm
open Hd (gv ga fv cC gq di dN bA jJ dq rH gH cM aL fW cR ph kb oM fV wA jX p7 jg qw gX zm sO hJ t7)
section
variable {α:Type}{M:List α->Prop}
theorem EU (h:∀a,M [a]):∀us:List α,us.length=1->M us
 |[a],_=>h a
theorem sv (h:∀a b,M [a,b]):∀us:List α,us.length=2->M us
 |[a,b],_=>h a b
theorem j5 (h:∀a b c,M [a,b,c]):∀us:List α,us.length=3->M us
 |[a,b,c],_=>h a b c
theorem EG (h:∀a b c d,M [a,b,c,d]):∀us:List α,us.length=4->M us
 |[a,b,c,d],_=>h a b c d
theorem Hm (h:∀a b c d e,M [a,b,c,d,e]):∀us:List α,us.length=5->M us
 |[a,b,c,d,e],_=>h a b c d e
end
section
variable {K:Frag}{f T:Addr}{fd:qo}{oT:Obj}{t:Tok}{n:Nat}
theorem GK (F:HK K "__init__" "Field.__init__" yb f fd T)(lT:K.lookup T=some oT)(dT:oT.data=.seq #[.int 0 t] n):L2.ax K fd w9 []:=by
 obtain⟨oc,od,kV,doc,pm,an,Jw,ct,JM,rfl,lk,Ka⟩:=F.ex;intro s us KX hl
 cases us with
 |nil=>simp at hl
 |cons a0 r1 =>
  cases r1 with
  |nil=>simp at hl
  |cons a1 r2 =>
   cases r2 with
   |nil=>exact binds_K KX rfl lT dT rfl rfl
   |cons a r=>simp at hl
theorem CO (F:HK K "made" "Field.made" uG f fd T)(lT:K.lookup T=some oT)(dT:oT.data=.seq #[.int 1 t] n):L2.ax K fd vv []:=by
 obtain⟨oc,od,kV,doc,pm,an,Jw,ct,JM,rfl,lk,Ka⟩:=F.ex;intro s us KX hl
 cases us with
 |nil=>simp at hl
 |cons a0 r1 =>
  cases r1 with
  |nil=>simp at hl
  |cons a1 r2 =>
   cases r2 with
   |nil=>simp at hl
   |cons a2 r3 =>
    cases r3 with
    |nil=>exact binds_K KX rfl lT dT rfl rfl
    |cons a r=>simp at hl
theorem DQ (F:HK K "made" "Field.made" uG f fd T)(lT:K.lookup T=some oT)(dT:oT.data=.seq #[.int 1 t] n):L2.ax K fd vv [.int 1 t]:=by
 obtain⟨oc,od,kV,doc,pm,an,Jw,ct,JM,rfl,lk,Ka⟩:=F.ex;intro s us KX hl
 cases us with
 |nil=>simp at hl
 |cons a0 r1 =>
  cases r1 with
  |nil=>simp at hl
  |cons a1 r2 =>
   cases r2 with
   |nil=>exact binds_K KX rfl lT dT rfl rfl
   |cons a r=>simp at hl
theorem DU (F:HK K "__init__" "Sum.__init__" oK f fd T)(lT:K.lookup T=some oT)(dT:oT.data=.seq #[.none] n):L2.ax K fd yg []:=by
 obtain⟨oc,od,kV,doc,pm,an,Jw,ct,JM,rfl,lk,Ka⟩:=F.ex;intro s us KX hl
 cases us with
 |nil=>simp at hl
 |cons a0 r1 =>
  cases r1 with
  |nil=>simp at hl
  |cons a1 r2 =>
   cases r2 with
   |nil=>simp at hl
   |cons a2 r3 =>
    cases r3 with
    |nil=>exact binds_K KX rfl lT dT rfl rfl
    |cons a r=>simp at hl
theorem A3 (F:HK K "__init__" "Sum.__init__" oK f fd T)(lT:K.lookup T=some oT)(dT:oT.data=.seq #[.none] n):L2.ax K fd yg [.none]:=by
 obtain⟨oc,od,kV,doc,pm,an,Jw,ct,JM,rfl,lk,Ka⟩:=F.ex;intro s us KX hl
 cases us with
 |nil=>simp at hl
 |cons a0 r1 =>
  cases r1 with
  |nil=>simp at hl
  |cons a1 r2 =>
   cases r2 with
   |nil=>exact binds_K KX rfl lT dT rfl rfl
   |cons a r=>simp at hl
theorem Bo (F:HK K "__init__" "System.__init__" HB f fd T)(lT:K.lookup T=some oT)(dT:oT.data=.seq #[.none] n):L2.ax K fd zc [.none]:=by
 obtain⟨oc,od,kV,doc,pm,an,Jw,ct,JM,rfl,lk,Ka⟩:=F.ex;intro s us KX hl
 cases us with
 |nil=>simp at hl
 |cons a0 r1 =>
  cases r1 with
  |nil=>simp at hl
  |cons a1 r2 =>
   cases r2 with
   |nil=>simp at hl
   |cons a2 r3 =>
    cases r3 with
    |nil=>simp at hl
    |cons a3 r4 =>
     cases r4 with
     |nil=>exact binds_K KX rfl lT dT rfl rfl
     |cons a r=>simp at hl
theorem Jl (F:HK K "is_filling" "is_filling" HQ f fd T)(lT:K.lookup T=some oT)(dT:oT.data=.seq #[.bool false] n):L2.ax K fd Ej [.bool false]:=by
 obtain⟨oc,od,kV,doc,pm,an,Jw,ct,JM,rfl,lk,Ka⟩:=F.ex;intro s us KX hl
 cases us with
 |nil=>simp at hl
 |cons a0 r1 =>
  cases r1 with
  |nil=>simp at hl
  |cons a1 r2 =>
   cases r2 with
   |nil=>exact binds_K KX rfl lT dT rfl rfl
   |cons a r=>simp at hl
end
section
variable {K:Frag}{x qual n:Str}{st:Stmt}{ps:p3}
theorem fN {mg:xk}{h:Heap}(X:K.In h)(G:h.Ns mainGlobals mg)(s:aL K (gv K n)=cR x qual st)(b:cM K (gv K n) qual=true)(hb:∀(kV doc pm:Value)(an:rW)(Jw ct:Value)(us:yX),us.length=ps.length->bindArgs (PySem.W.fnOf x qual (dn st) (cB st) (aq st) .none kV doc pm an Jw ct) ⟨us,[]⟩=pure (ps.zip us)):∃fd,Dp K x qual st (ga K n) fd/\L2.ax K fd ps []/\mg n=some (.ref (ga K n))/\keepIn K (.ref (ga K n))=true:=by
 obtain⟨e,d⟩:=sO s b;obtain⟨fd,F⟩:=d.fn;exact⟨fd,F,F.binds hb,mg_of X G e,d.keep⟩
theorem pD {c:Str}(s:aL K (fv K c n)=cR x qual st)(b:cM K (fv K c n) qual=true)(i:isFn K (.ref (cC (fv K c n)))=true)(hb:∀(kV doc pm:Value)(an:rW)(Jw ct:Value)(us:yX),us.length=ps.length->bindArgs (PySem.W.fnOf x qual (dn st) (cB st) (aq st) .none kV doc pm an Jw ct) ⟨us,[]⟩=pure (ps.zip us)):∃fd,Dp K x qual st (cC (fv K c n)) fd/\L2.ax K fd ps []/\L2.Meth K (ga K c) n (cC (fv K c n))/\findIn K (.ref (ga K c)) n=some (some (.ref (cC (fv K c n))))/\isFn K (.ref (cC (fv K c n)))=true:=by
 obtain⟨e,d⟩:=sO s b;obtain⟨fd,F⟩:=d.fn;exact⟨fd,F,F.binds hb,⟨e,i,d.keep⟩,e,i⟩
end
def zf (_:World)(h:Heap):Prop:=∃K:Frag,rY K=vo/\K.In h
theorem Bi (w:World)(s:AL)(e:rY (Hd.v9 tw s.heap)=vo):zf w s.heap:=⟨_,e,Hd.pL _ _⟩
theorem sC (w:World)(h h':Heap)(y:zf w h)(k:∀(b:Addr)(o:Obj),h.get? b=some o->h'.get? b=some o):zf w h':=let⟨K,e,i⟩:=y;⟨K,e,λa o q=>k a o (i a o q)⟩
set_option maxHeartbeats 0 in
theorem sW {l:OpenLaw}{w:World}{K:Frag}{mg:xk}{h:Heap}{fa:Addr}(o:rY K=vo)(X:K.In h)(G:h.Ns mainGlobals mg)(hfa:mg "law"=some (.ref fa)):
 ∃fd:FuncData,(∀(s:AL)(v:Value),BindsTo s fd ⟨[v],[]⟩ [("_law_script",v)])/\∀base:Heap,K.In base->base.Ns mainGlobals mg->Ak [] mg base->zG l.prog w K mg base (aO l.prog w) 12 fa fd ["_law_script"] (zL K):=by
 obtain⟨o1,o2⟩:=Prod.mk.inj (show(sV K,_)=(true,_) from o);simp only[List.cons.injEq,and_true] at o2;obtain⟨s0,s1,s2,s3,s4,s5,s6,s7,s8,s9,My,KH,Ks,VN,Ly,XM,s16,Nj,s18,s19,s20,s21,s22,s23,Vz,VJ,s26,OI,s28,s29,s30,s31,s32,s33,s34,OE,P2,L6,s38,Q6,s40,s41,s42,s43,s44,s45,VC,Kg,OJ,MA,s50,s51,s52,s53,s54,s55,s56,KG,VL,s59,s60,s61,s62,s63,Wy⟩:=o2;unfold sV at o1;simp only[Im] at o1;obtain⟨g0,g1,g2,g3,g4,g5,g6,g7,g8,g9,XN⟩:=o1;unfold IJ at g0;simp only[Im] at g0;obtain⟨h0,h1,h2,h3,h4,h5,h6,h7,h8,h9,h10,h11,h12,h13,h14,h15⟩:=g0;unfold IG at g1;simp only[Im] at g1;obtain⟨h16,h17,h18,h19,h20,h21,h22,h23,h24,h25,h26,h27,h28,h29,h30,h31⟩:=g1;unfold IZ at g2;simp only[Im] at g2;obtain⟨h32,h33,h34,h35,h36,h37,h38,h39,h40,h41,h42,h43,h44,h45,h46,h47⟩:=g2;unfold Jh at g3;simp only[Im] at g3;obtain⟨h48,h49,h50,h51,h52,h53,h54,h55,h56,h57,h58,h59,h60,h61,h62,h63⟩:=g3;unfold IP at g4;simp only[Im] at g4;obtain⟨h64,h65,h66,h67,h68,h69,h70,h71,h72,h73,h74,h75,h76,h77,h78,h79⟩:=g4;unfold IK at g5;simp only[Im] at g5;obtain⟨h80,h81,h82,h83,h84,h85,h86,h87,h88,h89,h90,h91,h92,h93,h94,h95⟩:=g5;unfold IS at g6;simp only[Im] at g6;obtain⟨h96,h97,h98,h99,h100,h101,h102,h103,h104,h105,h106,h107,h108,h109,h110,h111⟩:=g6;unfold Jd at g7;simp only[Im] at g7;obtain⟨h112,h113,h114,h115,h116,h117,h118,h119,h120,h121,h122,h123,h124,h125,h126,h127⟩:=g7;unfold IU at g8;simp only[Im] at g8;obtain⟨h128,h129,h130,h131,h132,h133,h134,h135,h136,h137,h138,h139,h140,h141,h142,h143⟩:=g8;unfold IT at g9;simp only[Im] at g9;obtain⟨h144,h145,h146,h147,h148,h149,h150,h151,h152,h153,h154,h155,h156,h157,h158,h159⟩:=g9;unfold EI at XN;simp only[Im] at XN;obtain⟨h160,h161,h162,h163,h164,h165,h166,h167⟩:=XN;have m:=λ{n:Str}{v:Value}(e:nsIn K mainGlobals n=some (some v))=>mg_of X G e;have m0:=λ{n:Str}(e:nsIn K mainGlobals n=some none)=>mg_none_of X G e;have Js:=m0 (bA h0);have Kh:=m0 (bA h1);have OT:=m0 (bA h2);have MV:=m0 (bA h3);have KO:=m0 (bA h4);have Jv:=m0 (bA h5);have Jz:=m0 (bA h6);have JL:=m0 (bA h7);have Kq:=m0 (bA h8);have Jy:=m0 (bA h9);have Jx:=m0 (bA h10);have JD:=m0 (bA h11);have JU:=m0 (bA h12);have Mb:=m0 (bA h13);have Kr:=m0 (bA h14);have JC:=m0 (bA h15);have Rx:=m (di h16);have MW:=m (di h17);have Mc:=m (di h18);have KS:=m (di h19);have KU:=m (di h20);have JS:=m (di h21);have Lu:=m (di h22);have Md:=m (di h23);obtain⟨Nn,KW⟩:=gX h24;have JH:=m KW;obtain⟨MC,Km⟩:=gX h25;have JK:=m Km;obtain⟨MD,Kn⟩:=gX h26;have Ko:=m Kn;obtain⟨MX,Kv⟩:=gX h27;have Kw:=m Kv;obtain⟨aa4,XO,K9,Ki,La⟩:=fN X G (ps:=["thing"]) s0 h28 λ_ _ _ _ _ _=>EU λ_=>rfl;obtain⟨aa5,XQ,XR,Ry,XS⟩:=fN X G (ps:=["thing"]) s1 h29 λ_ _ _ _ _ _=>EU λ_=>rfl;obtain⟨aa6,XT,XU,Rz,XW⟩:=fN X G (ps:=["thing"]) s2 h30 λ_ _ _ _ _ _=>EU λ_=>rfl;obtain⟨aa7,XX,XY,RA,XZ⟩:=fN X G (ps:=["field","thing"]) s3 h31 λ_ _ _ _ _ _=>sv λ_ _=>rfl;obtain⟨aa8,X0,X1,RB,X2⟩:=fN X G (ps:=["field","terms"]) s4 h32 λ_ _ _ _ _ _=>sv λ_ _=>rfl;obtain⟨aa9,X3,X4,RC,afI⟩:=fN X G (ps:=["term"]) s5 h33 λ_ _ _ _ _ _=>EU λ_=>rfl;obtain⟨aba,X5,RD,Np,RE⟩:=fN X G (ps:=["field","terms"]) s6 h34 λ_ _ _ _ _ _=>sv λ_ _=>rfl;obtain⟨abb,X6,RF,Nq,RG⟩:=fN X G (ps:=["one","other"]) s7 h35 λ_ _ _ _ _ _=>sv λ_ _=>rfl;obtain⟨abc,X7,RH,Nr,RI⟩:=fN X G (ps:=["top","bottom"]) s8 h36 λ_ _ _ _ _ _=>sv λ_ _=>rfl;obtain⟨abd,X8,X9,RJ,Yb⟩:=fN X G (ps:=["number","prime"]) s9 h37 λ_ _ _ _ _ _=>sv λ_ _=>rfl;obtain⟨Yc,RK,Me,Lb,Mf⟩:=fN X G (ps:=["field","terms"]) My h38 λ_ _ _ _ _ _=>sv λ_ _=>rfl;obtain⟨Yd,RL,Nt,Mg,Nu⟩:=fN X G (ps:=["thing"]) KH h39 λ_ _ _ _ _ _=>EU λ_=>rfl;obtain⟨Ye,RM,RN,OU,RO⟩:=fN X G (ps:=["field","places","thing"]) Ks h40 λ_ _ _ _ _ _=>j5 λ_ _ _=>rfl;obtain⟨Yg,RP,RQ,OV,RS⟩:=fN X G (ps:=["field","places","part","wishes"]) VN h41 λ_ _ _ _ _ _=>EG λ_ _ _ _=>rfl;obtain⟨Yh,RT,RU,OW,RV⟩:=fN X G (ps:=["field","places","uppers"]) Ly h42 λ_ _ _ _ _ _=>j5 λ_ _ _=>rfl;obtain⟨Yi,RW,RX,OX,RY⟩:=fN X G (ps:=["one","other"]) XM h43 λ_ _ _ _ _ _=>sv λ_ _=>rfl;obtain⟨Yj,RZ,R0,OY,R3⟩:=fN X G (ps:=["field"]) s16 h44 λ_ _ _ _ _ _=>EU λ_=>rfl;obtain⟨Yk,R4,R5,OZ,R8⟩:=fN X G (ps:=["field","top"]) Nj h45 λ_ _ _ _ _ _=>sv λ_ _=>rfl;obtain⟨Yl,R9,Nv,Mh,Nw⟩:=fN X G (ps:=["field","place"]) s18 h46 λ_ _ _ _ _ _=>sv λ_ _=>rfl;obtain⟨Ym,Sa,Nx,Mi,Ny⟩:=fN X G (ps:=["field","signs"]) s19 h47 λ_ _ _ _ _ _=>sv λ_ _=>rfl;obtain⟨Yn,Sb,Sd,O0,Se⟩:=fN X G (ps:=["field","signs"]) s20 h48 λ_ _ _ _ _ _=>sv λ_ _=>rfl;obtain⟨Yo,Sf,Sh,O1,Si⟩:=fN X G (ps:=["field","signs"]) s21 h49 λ_ _ _ _ _ _=>sv λ_ _=>rfl;obtain⟨Yp,Sj,Sk,O3,Sl⟩:=fN X G (ps:=["_law_script","_law_k"]) s22 h50 λ_ _ _ _ _ _=>sv λ_ _=>rfl;obtain⟨Yq,Sm,Nz,Mj,NA⟩:=fN X G (ps:=["_law_pool_here","_law_many"]) s23 h51 λ_ _ _ _ _ _=>sv λ_ _=>rfl;obtain⟨Yr,Sn,So,O4,Sq⟩:=fN X G (ps:=["_law_top","_law_bottom"]) Vz h52 λ_ _ _ _ _ _=>sv λ_ _=>rfl;obtain⟨Ys,Sr,Li,Kx,Lj⟩:=fN X G (ps:=["_law_prime","_law_top","_law_bottom"]) VJ h53 λ_ _ _ _ _ _=>j5 λ_ _ _=>rfl;obtain⟨Yt,Ss,Su,O5,Sv⟩:=fN X G (ps:=["_law_prime","_law_one","_law_other"]) s26 h54 λ_ _ _ _ _ _=>j5 λ_ _ _=>rfl;obtain⟨Yu,Sw,Sx,O6,Sy⟩:=fN X G (ps:=["_law_prime","_law_one","_law_other"]) OI h55 λ_ _ _ _ _ _=>j5 λ_ _ _=>rfl;obtain⟨Yv,Sz,SA,O7,abe⟩:=fN X G (ps:=["_law_row_here"]) s28 h56 λ_ _ _ _ _ _=>EU λ_=>rfl;obtain⟨Yw,SD,Lk,Kz,Ll⟩:=fN X G (ps:=["_law_prime","_law_terms"]) s29 h57 λ_ _ _ _ _ _=>sv λ_ _=>rfl;obtain⟨Yx,SE,NB,Ml,NC⟩:=fN X G (ps:=["_law_prime","_law_one","_law_other"]) s30 h58 λ_ _ _ _ _ _=>j5 λ_ _ _=>rfl;obtain⟨Yy,SF,SG,O8,SI⟩:=fN X G (ps:=["_law_terms"]) s31 h59 λ_ _ _ _ _ _=>EU λ_=>rfl;obtain⟨Yz,SJ,SK,O9,SM⟩:=fN X G (ps:=["_law_prime","_law_places","_law_noughts","_law_degree_here","_law_sums"]) s32 h60 λ_ _ _ _ _ _=>Hm λ_ _ _ _ _=>rfl;obtain⟨YA,SN,SO,Pa,SQ⟩:=fN X G (ps:=["_law_prime","_law_one","_law_other"]) s33 h61 λ_ _ _ _ _ _=>j5 λ_ _ _=>rfl;obtain⟨YB,SS,SU,Pb,SV⟩:=fN X G (ps:=["_law_prime","_law_place"]) s34 h62 λ_ _ _ _ _ _=>sv λ_ _=>rfl;obtain⟨YC,SX,SY,Pc,S0⟩:=fN X G (ps:=["_law_prime","_law_signs_here"]) OE h63 λ_ _ _ _ _ _=>sv λ_ _=>rfl;obtain⟨YD,S6,S9,Pd,Ta⟩:=fN X G (ps:=["_law_pool_here","_law_many"]) P2 h64 λ_ _ _ _ _ _=>sv λ_ _=>rfl;obtain⟨YE,Tb,Tc,Pe,Td⟩:=fN X G (ps:=["_law_signs_here"]) L6 h65 λ_ _ _ _ _ _=>EU λ_=>rfl;obtain⟨YF,Tf,Tg,Pf,Ti⟩:=fN X G (ps:=["_law_system","_law_prime","_law_places","_law_ones"]) s38 h66 λ_ _ _ _ _ _=>EG λ_ _ _ _=>rfl;obtain⟨YG,Tj,Tn,Pg,To⟩:=fN X G (ps:=["_law_prime","_law_signs_here"]) Q6 h67 λ_ _ _ _ _ _=>sv λ_ _=>rfl;obtain⟨Ph,ND,abf,Pj,abg⟩:=fN X G (ps:=["_law_script"]) s40 h68 λ_ _ _ _ _ _=>EU λ_=>rfl;obtain⟨abh,YH,Tp,Tq,afJ,afK⟩:=pD (ps:=["self"]) s41 h69 h70 λ_ _ _ _ _ _=>EU λ_=>rfl;obtain⟨abi,YI,Tr,Ts,afL,afM⟩:=pD (ps:=["self"]) s42 h71 h72 λ_ _ _ _ _ _=>EU λ_=>rfl;obtain⟨abj,YJ,Tt,Tu,afN,afO⟩:=pD (ps:=["self"]) s43 h73 h74 λ_ _ _ _ _ _=>EU λ_=>rfl;obtain⟨abk,YK,YL,YM,afP,afQ⟩:=pD (ps:=["self","number"]) s44 h75 h76 λ_ _ _ _ _ _=>sv λ_ _=>rfl;obtain⟨YN,Tv,NG,NH,abl,abm⟩:=pD (ps:=["self","thing"]) s45 h77 h78 λ_ _ _ _ _ _=>sv λ_ _=>rfl;obtain⟨YO,Tw,TB,TC,abn,abo⟩:=pD (ps:=["self","other"]) VC h79 h80 λ_ _ _ _ _ _=>sv λ_ _=>rfl;obtain⟨YQ,TF,NJ,NK,abp,abq⟩:=pD (ps:=["self","other"]) Kg h81 h82 λ_ _ _ _ _ _=>sv λ_ _=>rfl;obtain⟨abr,YR,YS,YT,afR,afS⟩:=pD (ps:=["self","filling"]) OJ h83 h84 λ_ _ _ _ _ _=>sv λ_ _=>rfl;obtain⟨abt,YU,Pk,afT,Pl,Pn⟩:=pD (ps:=["self","other"]) MA h85 h86 λ_ _ _ _ _ _=>sv λ_ _=>rfl;obtain⟨abu,YV,TH,TJ,afU,afV⟩:=pD (ps:=["self","one","other"]) s50 h87 h88 λ_ _ _ _ _ _=>j5 λ_ _ _=>rfl;obtain⟨abv,YW,Po,Pp,afW,afX⟩:=pD (ps:=["self","one","other"]) s51 h89 h90 λ_ _ _ _ _ _=>j5 λ_ _ _=>rfl;obtain⟨abw,YX,TK,TL,afY,afZ⟩:=pD (ps:=["self","top","bottom"]) s52 h91 h92 λ_ _ _ _ _ _=>j5 λ_ _ _=>rfl;obtain⟨abx,YY,TM,TN,af0,af1⟩:=pD (ps:=["self","thing"]) s53 h93 h94 λ_ _ _ _ _ _=>sv λ_ _=>rfl;obtain⟨aby,YZ,TQ,TR,af2,af3⟩:=pD (ps:=["self"]) s54 h95 h96 λ_ _ _ _ _ _=>EU λ_=>rfl;obtain⟨abz,Y0,Y1,Y2,af4,af5⟩:=pD (ps:=["self","top","bottom"]) s55 h97 h98 λ_ _ _ _ _ _=>j5 λ_ _ _=>rfl;obtain⟨abA,Y3,Y4,Y5,af6,af7⟩:=pD (ps:=["self"]) s56 h99 h100 λ_ _ _ _ _ _=>EU λ_=>rfl;obtain⟨abB,Y6,TU,TV,af8,af9⟩:=pD (ps:=["self"]) KG h101 h102 λ_ _ _ _ _ _=>EU λ_=>rfl;obtain⟨abC,Y7,TY,TZ,aga,agb⟩:=pD (ps:=["self"]) VL h103 h104 λ_ _ _ _ _ _=>EU λ_=>rfl;obtain⟨abD,Y8,Y9,Za,agc,agd⟩:=pD (ps:=["self"]) s59 h105 h106 λ_ _ _ _ _ _=>EU λ_=>rfl;obtain⟨T3,T4⟩:=hJ s60 h107 h109;have Zb:=h108;have age:L2.Meth K _ "__init__" _:=⟨T3,h108,T4.keep⟩;obtain⟨abE,Pq⟩:=T4.fn;obtain⟨agf,agg,agh,NL,NM,T5⟩:=fV h110;obtain⟨T6,T7⟩:=hJ s61 h111 h113;have Zc:=h112;have agi:L2.Meth K _ "__init__" _:=⟨T6,h112,T7.keep⟩;obtain⟨abF,T8⟩:=T7.fn;obtain⟨agj,agk,agl,T9,Ua,Ub⟩:=fV h114;obtain⟨Zd,Uc⟩:=hJ s62 h115 h117;have agm:=h116;have MZ:L2.Meth K _ "made" _:=⟨Zd,h116,Uc.keep⟩;obtain⟨abG,Pr⟩:=Uc.fn;obtain⟨agn,ago,agp,NO,NP,Ud⟩:=fV h118;obtain⟨Ue,Ug⟩:=hJ s63 h119 h121;have Ze:=h120;have agq:L2.Meth K _ "__init__" _:=⟨Ue,h120,Ug.keep⟩;obtain⟨abH,Uh⟩:=Ug.fn;obtain⟨agr,ags,agt,Ui,Uj,Uk⟩:=fV h122;have Zf:=hfa.symm.trans Pj
 cases Zf
 obtain⟨Zg,Ul⟩:=hJ Wy h123 h124;have Um:=m Zg;have Zh:=Ul.keep;obtain⟨abI,Uo⟩:=Ul.fn;obtain⟨agu,agv,agw,Uq,Ur,Us⟩:=fV h125;have Ut:=Hd.afn Us;subst Ut;have Zi:=Jl Uo Uq Ur;have Uu:=jX T5;subst Uu;obtain⟨agx,Uv⟩:=jg Ub;subst Uv;obtain⟨agy,Uw⟩:=jg Ud;subst Uw;have Ux:=jX Uk;subst Ux;have Zj:=DU Pq NL NM;have Zk:=A3 Pq NL NM;have bFI:=GK T8 T9 Ua;have M0:=DQ Pr NO NP;have Zl:=CO Pr NO NP;have Uy:=Bo Uh Ui Uj;have N:xb mg:=⟨Js,Kh,OT⟩;have cF:CP K mg (ga K "Field"):=⟨⟨h126,h127,h128,dq h129⟩,bA h130,MW,(xo.mpr h131),dq h132,dq h133,gH h134,gH h135⟩;have c:DB K mg (ga K "Sum"):=⟨⟨h136,h137,h138,dq h139⟩,bA h140,bA h141,Rx⟩;have cQ:mz K mg (ga K "Sum"):=⟨c,(xo.mpr h142),dq h143,dq h133,gH h134,gH h144⟩;have cS:lH K mg (ga K "System"):=⟨⟨h145,h146,h147,dq h148⟩,bA h149,bA h150,bA h151,bA h152,Mc,(xo.mpr h153),dq h154,dq h133,gH h134,gH h155⟩;have hP:=t7 h156;refine⟨Ph,λs v=>?_,λbase _ _ BT=>?_⟩
 ·obtain⟨oc,od,kV,doc,pm,an,Jw,ct,JM,rfl,lk,Ka⟩:=ND.ex;exact .of_eq rfl
 have Lc:=acN (P:=l.prog) (w:=w) (base:=base) XO N;have Zm:=acs (P:=l.prog) (w:=w) (base:=base) (mg:=mg) X8;have Uz:=abU (P:=l.prog) (w:=w) (base:=base) X6 KO;have UA:=aci X7 Uz RF Nq RG;have UB:=adZ YX cF JH UA RH Nr RI;have UC:=TGs YV cF UB TK TL;have Pt:=aiH YW cF UB TK TL;have Zn:=adi Y0 cF JH JS h158 UA RH Nr RI Zm X9 RJ Yb;have M1:=abX Pr cF JS h158 Zn Y1 Y2 Lc K9 Ki La;have UD:=acZ T8 cF Lc K9 Ki La JH Md hP Lu h157;have UE:=acn YY cF JH N Jz Jv Uz RF Nq RG Lc K9 Ki La;have Pu:=ahv (P:=l.prog) (w:=w) (base:=base) YU cF N;have UG:=ahx (P:=l.prog) (w:=w) (base:=base) YZ cF;have Zo:=ahA XQ JK Lc K9 Ki La;have Zq:=ahE XT Js Jz JL Kq Zo XR Ry XS;have NQ:=aew RL Js Jz JL Lc K9 Ki La;have Zr:=acH XX cF Js Jz Jv Zq XU Rz XW UE TM TN;have Zt:=acW (P:=l.prog) (w:=w) (base:=base) X3 Jv;have Zu:=ac1 X0 Js Jy Jx Zr XY RA XZ;have UH:=adK X5 cF JD UC TH TJ Zt X4 RC;have M3:=ad4 Pq c UH RD Np RE Zu X1 RB X2;have VO:L2.Mk K _ _:=⟨h162,T3,Zb,h163⟩;have MkF:L2.Mk K _ _:=⟨h164,T6,Zc,h165⟩;have MkY:L2.Mk K _ _:=⟨h166,Ue,Ze,h167⟩;have Mm:=aic RK c VO M3 Zk UH RD Np RE;have UI:=aek (P:=l.prog) (w:=w) (base:=base) (CF:=ga K "Field") YH c;have UJ:=ael (P:=l.prog) (w:=w) (base:=base) (CF:=ga K "Field") YI c Jy;have UK:=aen (P:=l.prog) (w:=w) (base:=base) YJ c JU;have Zv:=akI YK cQ cF JS h158 UE TM TN Pt Po Pp Mm Me Lb Mf;have Zw:=zw YR c cF Jv JL NQ Nt Mg Nu UK Tt Tu M1 M0 MZ UC TH TJ KU h159;have UL:=akQ RM cQ cF Js Pu Pk Pl Pn UI Tp Tq UK Tt Tu;have UM:=FZ RP Js Jy Jx Jv Ko UL RN OU RO;have UO:=Gf (P:=l.prog) (w:=w) (base:=base) (mg:=mg) RT;have UP:=ED Uh cS cF Js JK Lc K9 Ki La UM RQ OV RS UO RU OW RV;have Zx:=Fo (P:=l.prog) (w:=w) (base:=base) (CF:=ga K "Field") Y3 cS;have UQ:=F8 (P:=l.prog) (w:=w) (base:=base) (CF:=ga K "Field") Y6 cS;have UR:=EA (P:=l.prog) (w:=w) (base:=base) (CF:=ga K "Field") Y7 cS Jy;have Zy:=Fq (P:=l.prog) (w:=w) (base:=base) (CF:=ga K "Field") Y8 cS Jy;have Zz:=F3 Uo cS c Jv NQ Nt Mg Nu UQ TU TV UR TY TZ Zw YS YT;have US:=E8 (P:=l.prog) (w:=w) (base:=base) RZ cF Js;have UT:=akK (P:=l.prog) (w:=w) (base:=base) (mg:=mg) RW Jz JD Kr;have NR:=akN Tv cQ cF Js Pu Pk Pl Pn;have UU:=akO Tw cQ KS h160 NR NG NH Mm Me Lb Mf;have NS:=wy TF cQ cF KS h160 NR NG NH UT RX OX RY Pt Po Pp Mm Me Lb Mf;have UW:=ES R4 cF c VO M1 M0 MZ M3 Zj;have NT:=Ee R9 cF c VO M1 M0 MZ M3 Zj;have NU:=FX Sa cF Js Jy Jv JL Kw JK US R0 OY R3 UG TQ TR Lc K9 Ki La;have UX:=Gs Sb cF c cS MkY Jv Jx NU Nx Mi Ny NT Nv Mh Nw UW R5 OZ R8 NS NJ NK UU TB TC UP Uy;have UY:=Gh Sf cF c Jv JC NU Nx Mi Ny M1 M0 Zl MZ NT Nv Mh Nw NS NJ NK Zv YL YM Pt Po Pp;have UZ:=ahW (P:=l.prog) (w:=w) (base:=base) Sj Jv;have NV:=ag1 (P:=l.prog) (w:=w) (base:=base) (mg:=mg) Sm;have U0:=abW (P:=l.prog) (w:=w) (base:=base) Sn KO;have Lm:=acg Sr JC U0 So O4 Sq;have U1:=acu Ss Lm Li Kx Lj;have U2:=acI Sw Lm Li Kx Lj;have U3:=adS (P:=l.prog) (w:=w) (base:=base) Sz Jv;have Ln:=adU SD JD U1 Su O5 Sv U3 SA O7;have NW:=xX SE Jz JD Kr U2 Sx O6 Sy Ln Lk Kz Ll;have U4:=E1 (P:=l.prog) (w:=w) (base:=base) SF JU Jv;have U5:=EE SJ cF c Js Jy Jv Kq UJ Tr Ts UI Tp Tq UG TQ TR U4 SG O8 SI NW NB Ml NC Ln Lk Kz Ll;have U6:=FY SN Ln Lk Kz Ll;have U7:=E4 SS Lm Li Kx Lj Ln Lk Kz Ll;have U8:=Gu SX Jv Jx Lm Li Kx Lj U7 SU Pb SV NW NB Ml NC U6 SO Pa SQ;have U9:=GL S6 JC NV Nz Mj NA;have Va:=Fg (P:=l.prog) (w:=w) (base:=base) (mg:=mg) Tb Kh Jz;have Vb:=EC Tf cS cF c Js Zx Y4 Y5 UQ TU TV UR TY TZ Zy Y9 Za UJ Tr Ts Pu Pk Pl Pn (dq h161) MkF UD bFI;have Vc:=EX Tj cF c cS VO MkY Jy JC Jv MkF UD bFI U8 SY Pc S0 UX Sd O0 Se UY Sh O1 Si Vb Tg Pf Ti U5 SK O9 SM Va Tc Pe Td M3 Zj UP Uy Zz Zi Um Zh;exact Es ND JC JU Mb Jv Kh UZ Sk O3 Sl NV Nz Mj NA U9 S9 Pd Ta Vc Tn Pg To
theorem walk {l:OpenLaw}{q:Iy}{loose:p3}{XP:(Str->Option Value)->Heap->Prop}{d:DefRec}(hn:l.most=some 63)(Qr:d.params.defaults=[])(hd:d.name="law"):
 WalkO q loose XP zf l.row.toRowW d [] (λf vs=>PySem.call f vs):=by
 refine Hd.vw (n:=63) (k:=12) (x:="_law_script") (CX:=λw=>aO l.prog w) (sp:=λK=>zL K) (φ:=λK=>rY K=vo) (tabs:=λK=>[]) hn (by decide) Qr ⟨rfl,by decide,by decide,rfl⟩ (λw h y=>y) ?_ (λw K mg fa h o X G e=>sW o X G (by rw[<-hd];exact e)) ?_ ?_
 ·intro w s₀ mg mb h K o Gr KX;exact⟨λr P1=>(nomatch P1),λr P1=>(nomatch P1)⟩
 ·intro K H a ns hl hO hS;refine⟨a,ns,rfl,?_,hl,λ_=>rfl⟩
  rcases hS with(hS|⟨o,hS⟩)|hS
  ·rcases hO.1 a with z|⟨o,xs,z⟩|⟨z,_⟩
   ·rw[z] at hS;cases hS
   ·rw[z] at hS;cases hS
   ·rw[z] at hS;cases hS
  ·exact .inl ⟨o,hS⟩
  ·exact .inr hS
 ·intro w H s e s' z;obtain⟨a,cls,a0,B,d,H',_,_,_,_,hE⟩:=z;exact hE.elim
end K74
open PySem PySem.W PyProof.Rows
set_option maxRecDepth 100000 in
set_option maxHeartbeats 0 in
theorem PySem.Challenge.cw_falsesums_k74_whole_rings_holds : PySem.Challenge.rw_falsesums_k74_whole_rings.Holds := by
 refine PySem.W.holds_law K74.sd1 λagz=>?_
 refine PySem.W.holds_open (r:=PySem.Challenge.rw_falsesums_k74_whole_rings.row) (q:=K74.dh) (loose:=["Field","STEP","is_filling"]) (Xt:=λs=>xlAt K74.dh K74.lv s&&recOk (PySem.Challenge.rw_falsesums_k74_whole_rings.row.toRowW).records s) (XP:=XL K74.dh K74.lv)
  (Yf:=λs=>K74.rY (Hd.v9 K74.tw s.heap)) (Ya:=λ_=>K74.vo) (YP:=K74.zf) (N:=10352) ?hl K74.Bi K74.sC (λs e=>xl_of s (xo.mp e).1) XL.keeps (by rfl) (by rfl) (by rfl) (λs e=>recFacts_of (xo.mp e).2) (by rfl) (by assumption) (by decide +kernel) K74.sd3 ?hw ?hc
 case hw=>w_witness2
 case hl =>
  refine Hd.aaf λw=>?_;obtain⟨⟨h,s⟩,e,e0⟩:=CU.mp (K74.ran0 w)
  injection e0 with yk1 e0_0
  injection e0_0 with yk2 e0_1
  injection e0_1 with yB2 e0_2
  have e1:=Hd.at_ (K74.ran1 w) e
  injection e1 with yA1 e1_0
  have e2:=Hd.at_ (K74.ran2 w) e
  injection e2 with yA3 e2_0
  have e3:=Hd.at_ (K74.ran3 w) e;have e4:=Hd.at_ (K74.ran4 w) e
  injection e4 with yC2 e4_0
  have e5:=Hd.at_ (K74.ran5 w) e;have e6:=Hd.at_ (K74.ran6 w) e
  injection e6 with yC4 e6_0
  injection e6_0 with yC6 e6_1
  have e7:=Hd.at_ (K74.ran7 w) e;have e8:=Hd.at_ (K74.ran8 w) e
  injection e8 with yA4 e8_0
  injection yk2 with z1 z2
  injection z2 with z2 z3
  exact⟨h,s,e,yk1,⟨z1,z2,z3⟩,yA1,yA3,yA4,e6_1,e3,yB2,e0_2,e1_0,e2_0,e8_0,yC2,e5,yC4,e7,yC6,((Hh K74.rY (Hd.afs _ _)).trans e4_0)⟩
 case hc=>exact K74.walk rfl rfl rfl
