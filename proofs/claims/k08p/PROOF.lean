import PyProof.Rows.All
import Wide.All
import OpenK.AllK
import Wide.FinOn
import Lean
import PyProof.EqAt
import PyProof.EqKinds
import PyProof.TupleCall
import PyProof.NeKinds
import KE.LcSums
import KE.KPairComp
import PyProof.EnumMake
import PyProof.EnumFor
import PyProof.ZipIter
import PyProof.Draws
import KE.KSortTup
import PyProof.Rows.SortWalk
import PyProof.Rows.MinMaxN
import PyProof.Rows.SetFrom
import PyProof.WalkInts
import KE.KSortKey
import PyProof.ReprRoads
import PySem.Challenge.RW_falsesums_k08_sums_put_in
set_option Elab.async false
set_option linter.all false
set_option maxRecDepth 100000
abbrev zQ:=PySem.Value->PySem.Shared->Prop
abbrev Fj:=PySem.Str->Option PySem.Value
abbrev qm:=PySem.Shared
abbrev FD:=PySem.FuncData
abbrev A9:=PySem.Program
abbrev Ie:=Option PySem.Value
abbrev wW:=List PySem.Value
abbrev IU:=Array PySem.Value
abbrev Ih:=List PySem.Stmt
abbrev Hy:=List PySem.Expr
abbrev DV:=List PySem.Str
abbrev uJ:=Option PySem.Addr
abbrev sR:=Array (Option PySem.Value)
abbrev G6:List PySem.Str:=["thing"]
abbrev Ac:List PySem.Str:=["self","other"]
abbrev DZ:List PySem.Str:=["self","top","bottom"]
abbrev mY:List PySem.Str:=["field","terms"]
abbrev sV:List PySem.Str:=["_law_prime_here","_law_one","_law_other"]
abbrev zI:List PySem.Str:=["self","thing"]
abbrev xX:List PySem.Str:=["one","other"]
abbrev rE:List PySem.Str:=["self","one","other"]
abbrev iN:List PySem.Str:=["self","field","terms"]
abbrev jN:List PySem.Str:=["_law_room_here","_law_many"]
abbrev FY:List PySem.Str:=["self","prime"]
abbrev CK:List PySem.Str:=["_law_prime_here","_law_top","_law_bottom"]
abbrev B0:List PySem.Str:=["_law_prime_here","_law_terms_here"]
abbrev GS:List PySem.Str:=["top","bottom"]
abbrev Am:List PySem.Str:=["_law_top","_law_bottom"]
abbrev Bb:List PySem.Str:=["_law_room_here","_law_prime_here"]
abbrev HK:List PySem.Str:=["field","thing"]
abbrev Fs:List PySem.Str:=["_law_room_here","_law_many","_law_share"]
abbrev E8:List PySem.Str:=["_law_script","_law_k"]
abbrev A6:List PySem.Str:=["_law_room_here","_law_prime_here","_law_many","_law_most"]
abbrev ET:List PySem.Str:=["known","sums","product"]
abbrev CQ:List PySem.Str:=["_law_prime_here","_law_terms_here","_law_rows"]
def IM:=@PySem.wpAny_bind
def IV:=@PySem.wpAny_pure
def xQ:=@PySem.Heap.get?_push_of_some
def AM:=@List.mem_cons_of_mem
def qG:=@List.mem_cons_self
def DW:=@if_neg
def AY:=@Nat.le_refl
def wC:=@List.length_map
def oO:=@if_pos
def HR:=@PySem.Heap.get?_push_size
def yQ:=@List.size_toArray
def EL:=@PySem.Heap.lt_size
def Ef:=@List.mem_cons
def HG:=@Nat.lt_of_lt_of_le
def Il:=@List.mem_append_right
def Ho:=@Nat.ne_of_lt
def qx:=@PySem.wpAny_mono
def FO:=@Bool.false_ne_true
def xv:=@Nat.lt_of_le_of_lt
def GC:=@Nat.le_trans
def GH:=@Nat.zero_le
def Af:=@List.length_append
def HL:=@List.mem_of_getElem?
def Ht:=@Array.length_toList
def HF:=@List.mem_map
def sC:=@List.length_cons
def Im:=@List.getElem?_eq_some_iff
def G8:=@Bool.and_eq_true
def IP:=@PySem.wpAny_newObj_type
def xx:=@List.map_cons
def HW:=@decide_eq_false
def Hw:=@Ne.symm
def BU:=@PySem.wpAny_call_entry
def HB:=@List.mem_append
def zY:=@PySem.wpAny_setField_rec
def x8:=@List.take_add_one
def xO:=@PySem.wpAny_callSpecial?_slot
def EM:=@List.length_take
def Fq:=@PySem.wpAny_field
def BC:=@List.getElem?_map
def CN:=@PySem.wpAny_holding
def IW:=@decide_eq_true
def yK:=@List.take_length
def wR:=@PySem.Heap.get?_update_other
def CM:=@Bool.and_eq_true_iff
def xf:=@Int.toNat_natCast
def BJ:=@List.pairwise_cons
def lM:=@Option.map_eq_some_iff
def mi:=@List.mem_append_left
def uy:=@PySem.PassesOwn.never
def wZ:=@Int.mul_nonneg
def yD:=@PySem.wpAny_Call_Name_kw
def Ai:=@PySem.Heap.SameBut.update
def xG:=@List.nodup_cons
def rh:=@List.mem_filter
def F4:=@PySem.Heap.size_push
def F2:=@List.append_nil
def mX:=@PySem.Heap.get?_update_self
def wJ:=@Int.natAbs_mul
def qo:=@Nat.lt_irrefl
def sv:=@Int.mul_assoc
def Bq:=@PySem.F.excBase_ValueError
def Fw:=@List.getElem?_append_left
def Hx:=@List.mem_of_mem_take
def FU:=@Bool.false_eq_true
def zJ:=@List.map_append
def Ah:=@List.lookup_cons
def Gu:=@PyProof.Rows.slot_tuple_getitem
def HH:=@List.exists_cons_of_length_eq_add_one
def HZ:=@Nat.succ.inj
def IT:=@Int.emod_lt_of_pos
def Ff:=@List.filterMap_cons
def ya:=@PySem.mem_of_lookup
def pP:=@PySem.wpAny_truthy_bool
def DT:=@congrArg
def HE:=@Nat.le_of_lt
def BX:=@Nat.lt_trans
def EG:=@if_false
def mO:=@PySem.wpAny_seqItems
def tT:=@List.length_filter_le
def Hl:=@PySem.W.kia_one
def EB:=@Nat.ne_of_gt
def E3:=@List.getElem?_append_right
def uL:=@PySem.wpAny_attempt
def pL:=@Array.getElem?_eq_none
def pS:=@Nat.lt_succ_of_lt
def CP:=@beq_eq_false_iff_ne
def Em:=@Int.emod_nonneg
def Co:=@PySem.F.slot_dict_itemiterator_next
def EC:=@List.getElem?_eq_getElem
def yJ:=@List.filter_append
def Ex:=@PySem.wpAny_standAt
def IX:=@List.mem_range
def yR:=@PySem.wpAny_fieldsOf
def Fi:=@PySem.F.slot_dict_keyiterator_next
def wM:=@PySem.Around.under_plainId
def BE:=@PyProof.Rows.callWith_type1
def IS:=@PySem.codeAny_builtin
def xm:=@if_true
def Gp:=@PySem.codeAny_mono
def Cc:=@List.getD_eq_getElem?_getD
def HV:=@List.any_eq_true
def zE:=@PySem.Obj.data_mapFields
def Aq:=@PySem.wpAny_setField
def AB:=@List.pairwise_iff_getElem
def BK:=@Nat.le_succ
def Hr:=@Int.le_refl
def B9:=@PySem.wpAny_rule
def Eg:=@beq_iff_eq
def Ik:=@Option.isSome_iff_exists
def HD:=@PySem.wpAny_typeNameOfWhole_itemiter
def GQ:=@PySem.wpAny_typeNameOfWhole_keyiter
def Ck:=@Int.mul_le_mul_of_nonneg_left
def wy:=@PySem.F.plainAttrs_list
def Bx:=@Bool.false_and
def Gm:=@PySem.boot_len
def Fd:=@List.not_mem_nil
def xC:=@PySem.Paired.snoc
def jU:=@PySem.wpAny_letGo
def DD:=@PySem.wpAny_pyIter_tuple
def xg:=@Nat.lt_or_ge
def AZ:=@Array.getD_eq_getD_getElem?
def B6:=@List.mem_singleton
def wD:=@PyProof.Rows.F.plain_set_update_loop
def Io:=@PySem.wpAny_passesOwn
def Bh:=@Int.mul_ne_zero
def yA:=@PyProof.Rows.get?_update_seq
def DG:=@Nat.not_lt_zero
def y4:=@List.mem_iff_getElem?
def Fy:=@List.any_cons
def gT:=@Array.getElem?_eq_some_iff
def xU:=@Int.eq_of_mul_eq_mul_right
def uh:=@PySem.F.slot_tuple_iterator_next
def uM:=@PySem.plainId_quiet
def GR:=@of_decide_eq_true
def Gx:=@PySem.wpAny_dictEntries
def xo:=@PySem.codeAny_call_builtin
def Ei:=@PySem.wpAny_typeNameOf_itemiter
def EU:=@Nat.mul_le_mul_right
def tD:=@List.nodup_nil
def wB:=@beq_self_eq_true
def DN:=@Nat.lt_succ_self
def wo:=@List.length_drop
def NI:=@PySem.wpAny_isInstance
def Bj:=@PySem.wpAny_typeNameOf_keyiter
def Hv:=@PySem.F.called_set
def sS:=@PySem.F.plain_max_loop
def xH:=@Option.bind_eq_some_iff
def zX:=@PySem.Paired.length
def DO:=@Bool.true_and
def Ad:=@PyProof.Rows.listUpdate_at
def sI:=@PySem.wpAny_call
def Br:=@List.find?_cons
def CT:=@PySem.tupleKind_room_in1
def Az:=@PySem.wpAny_dictEpoch
def HQ:=@PySem.sizeLine_eq
def tH:=@Int.fmod_nonneg_of_pos
def sd:=@PySem.wpAny_isOneOf_itemiter
def qM:=@Int.emod_eq_of_lt
def DY:=@decide_eq_true_eq
def uD:=@List.append_assoc
def Ba:=@PySem.Obj.isFreed_of_fields
def DB:=@PySem.wpAny_tryCatch
def CB:=@Int.mul_comm
def BA:=@List.map_map
def An:=@Array.getElem?_toList
def xB:=@PySem.F.slot_enumerate_next
def uu:=@Nat.min_le_right
def uo:=@PySem.wpAny_askSetting
def xA:=@List.mem_flatMap
def CV:=@Int.mul_pos
def BG:=@List.mem_map_of_mem
def pW:=@PySem.Heap.get?_update_ne
def xn:=@Nat.add_le_add_left
def xk:=@PySem.wpAny_execs_nil
def xT:=@List.of_mem_zip
def yX:=@List.length_nil
def zO:=@List.getElem?_zip_eq_some
def tW:=@PySem.W.KasT.kasWp_bind
def Er:=@Classical.byContradiction
def xt:=@PySem.wpAny_updateSeq
def Aw:=@PySem.Calls.spliced_cons
def tw:=@List.getElem?_take_of_lt
def sh:=@PySem.F.args_tuple_add_2
def xr:=@PySem.wpAny_comprehension_free
def CL:=@List.all_map
def Et:=@Nat.zero_add
def GX:=@Rat.divInt_eq_divInt_iff
def ub:=@PyProof.Rows.F.entry_set_update_loop
def Ed:=@PySem.wpAny_newTuple
def zB:=@PySem.isSubtype_stop
def DL:=@PySem.F.entry_tuple_add
def CD:=@PySem.wpAny_pyIter_list
def Cs:=@PySem.Calls.spliced_nil
def rO:=@PySem.wpAny_pyIter_slot
def F5:=@PySem.wpAny_pyIter_enum
def qI:=@List.length_range
def xZ:=@List.nodup_append
def Cf:=@List.getElem?_set_self
def y7:=@PySem.wpAny_pyNext_list_item
def Fx:=@PySem.Calls.callWith_builtin
def HU:=@PySem.F.slot_tuple_add
def Cv:=@PySem.wpAny_of_eq
def Bo:=@PySem.wpAny_newList
def BL:=@List.mem_reverse
def Aa:=@List.countP_cons
def Cu:=@Nat.succ_ne_self
def wq:=@Nat.le_add_right
def yV:=@List.all_eq_true
def ng:=@Array.size_empty
def GO:=@PySem.wpAny_pyNext_list_end
def GZ:=@List.length_replicate
def Cg:=@PySem.F.slot_dict_get
def xu:=@PySem.wpAny_isOneOf_keyiter
def A3:=@Array.getElem?_setIfInBounds_ne
def Gv:=@PySem.F.args_dict_itemiterator_next_1
def yy:=@List.getElem?_set_ne
def tV:=@Bool.eq_iff_iff
def D4:=@PySem.Calls.evalArgs_plain
def xV:=@PySem.wpAny_typeOf
def Fv:=@List.forIn_cons
def wu:=@PySem.wpAny_newFunctionEnv
def zc:=@PySem.F.entry_dict_itemiterator_next
def EJ:=@PySem.F.args_dict_keyiterator_next_1
def BI:=@PySem.wpAny_updateSeq_pair
def ym:=@PySem.F.slot_zip_next
def xF:=@Nat.mod_lt
def GK:=@Nat.succ_pos
def xb:=@Int.natAbs_of_nonneg
def DH:=@Int.mul_le_mul_of_nonneg_right
def D5:=@PySem.F.entry_dict_keyiterator_next
def yr:=@PySem.W.plainGet_of
def tJ:=@Nat.mul_le_mul_left
def GL:=@PySem.wpAny_setEntries_of
def zV:=@Prod.ext
def EN:=@Int.gcd_pos_of_ne_zero_right
def BM:=@PySem.F.args_tuple_iterator_next_1
def wA:=@or_false
def DF:=@List.Perm.refl
def D6:=@PySem.isSubtype_type
def CW:=@Prod.mk.inj
def HA:=@PyProof.Rows.seqEpoch_at
def qZ:=@Array.append_assoc
def Bm:=@List.mem_filterMap
def Ci:=@PySem.W.callWith_K
def B7:=@PySem.SeqAt.EqAt.int_int
def xj:=@List.zip_cons_cons
def Ig:=@Int.fmod_lt_of_pos
def FX:=@List.map_filterMap
def wt:=@Int.natCast_nonneg
def wH:=@List.all_cons
def xI:=@List.cons.inj
def xY:=@PySem.wpAny_handled
def yP:=@PySem.wpAny_onRaise
def F6:=@Option.isSome_map
def Au:=@PySem.Obj.cls_mapFields
def Bw:=@Nat.lt_trichotomy
def uB:=@Nat.le_succ_of_le
def Cr:=@bne_self_eq_false
def xS:=@PySem.intKind_is
def Cb:=@Nat.le_of_eq
def wL:=@PySem.noFill_tuple_add
def BP:=@Array.toList_inj
def Cz:=@PySem.W.looks_findIn
def CU:=@List.getElem_mem
def rV:=@List.ext_getElem
def Bi:=@List.map_fst_zip
def Eb:=@List.length_zip
def Eh:=@Array.Perm.refl
def AJ:=@Int.natCast_mul
def Ft:=@Int.one_mul
namespace L2
open PySem
theorem BZ:(1:Nat)<=sizeLine:=by decide
theorem jP:(2:Nat)<=sizeLine:=by decide
theorem aat:(3:Nat)<=sizeLine:=by decide
theorem Iv:(4:Nat)<=sizeLine:=by decide
theorem aay:(5:Nat)<=sizeLine:=by decide
noncomputable def aQ (s:Stmt)(j:Nat):Stmt:=match s with
 | .ClassDef _ _ _ body _ _ _ _ _ _ _=>body.getD j (.Pass ⟨0,0,0,0⟩)
 |_=>.Pass ⟨0,0,0,0⟩
noncomputable def b8 (s:Stmt):Arguments:=match s with
 | .FunctionDef _ a _ _ _ _ _ _ _ _=>a
 |_=>{posonlyargs:=[],args:=[],vararg:=none,kwonlyargs:=[],kw_defaults:=[],kwarg:=none,defaults:=[]}
noncomputable def bA (s:Stmt):List Stmt:=match s with
 | .FunctionDef _ _ b _ _ _ _ _ _ _=>b
 |_=>[]
noncomputable def ar (s:Stmt):Scope:=match s with
 | .FunctionDef _ _ _ _ _ _ sc _ _ _=>sc
 |_=>{kind:=.function,names:=[],isGenerator:=false,isCoroutine:=false}
end L2
namespace Hd
open PySem PySem.W PyProof.Rows
noncomputable def yk (as:List Addr)(h:Heap):Frag:=as.filterMap λa=>(h.get? a).map λo=>(a,o)
theorem pN (h:Heap):∀as:List Addr,(yk as h).In h
 |[],a,o,e=>by cases e
 |b::as,a,o,e=>by
  unfold yk at e;rw[Ff] at e
  cases q:h.get? b with
  |none =>
   rw[q] at e;exact pN h as a o e
  |some u =>
   rw[q] at e;dsimp only[Option.map_some] at e;rw[Ah] at e
   by_cases z:a=b
   ·subst z;simp only[wB] at e;rw[q];exact e
   ·have:(a==b)=false:=by simpa using z
    simp only[this] at e;exact pN h as a o e
noncomputable abbrev tY:=Str×Str×Arguments×FuncBody×Scope×Addr×List (Str×Addr)×Value×Addr
noncomputable def Bg (fd:FD):tY:=(fd.name,fd.qualname,fd.params,fd.body,fd.scope,fd.globals,fd.closure,fd.defaults,fd.builtins)
noncomputable def ke (K:Frag)(v:Option (Option Value)):Option FuncData:=match v with
 |some (some (.ref f))=>(match K.lookup f with
  |some ⟨_,_,.func fd,_⟩=>some fd
  |_=>none)
 |_=>none
noncomputable def aS (K:Frag)(v:Option (Option Value)):Option tY:=(ke K v).map Bg
noncomputable def dX (x qual:Str)(st:Stmt):Option tY:=some (x,qual,L2.b8 st,.stmts (L2.bA st),L2.ar st,mainGlobals,[],.none,builtinsNs)
noncomputable def cM (v:Option (Option Value)):Addr:=match v with
 |some (some (.ref a))=>a
 |_=>0
noncomputable def eW (v:Option (Option Value)):Bool:=match v with
 |some (some (.ref _))=>true
 |_=>false
theorem cw {v:Option (Option Value)}(h:eW v=true):v=some (some (.ref (cM v))):=by
 unfold eW at h
 split at h
 ·rfl
 ·cases h
noncomputable def eC (v:Option (Option Value)):Bool:=match v with
 |some none=>true
 |_=>false
theorem bu {v:Option (Option Value)}(h:eC v=true):v=some none:=by
 unfold eC at h
 split at h
 ·rfl
 ·cases h
noncomputable def dH (K:Frag)(v:Option (Option Value))(qual:Str):Bool:=keepIn K (.ref (cM v))&&(match ke K v with
 |some fd=>codeIn K fd.code qual
 |none=>false)
noncomputable abbrev gv (K:Frag)(x:Str):Option (Option Value):=nsIn K mainGlobals x
noncomputable abbrev ga (K:Frag)(x:Str):Addr:=cM (nsIn K mainGlobals x)
noncomputable abbrev fv (K:Frag)(c x:Str):Option (Option Value):=findIn K (.ref (cM (nsIn K mainGlobals c))) x
noncomputable def ig (K:Frag)(v:Option (Option Value)):Option tY:=(ke K v).map λfd=>Bg {fd with defaults:=.none}
noncomputable def Hj (K:Frag)(v:Option (Option Value)):Value:=match ke K v with
 |some fd=>fd.defaults
 |none=>.none
noncomputable def oR (K:Frag)(v:Option (Option Value)):Addr:=match Hj K v with
 | .ref a=>a
 |_=>0
noncomputable def sM (K:Frag)(v:Option (Option Value)):Bool:=match Hj K v with
 | .ref _=>true
 |_=>false
noncomputable def AG (K:Frag)(v:Option (Option Value))(c:Addr):Bool:=match ke K v with
 |some fd=>(match fd.code with
  | .ref a=>a==c
  |_=>false)
 |none=>false
noncomputable def tG (K:Frag)(T:Addr)(p:Value->Bool):Bool:=match K.lookup T with
 |some o=>(match o.data with
  | .seq a _=>(match a.toList with
    |[v]=>p v
    |_=>false)
  |_=>false)
 |none=>false
theorem iU {K:Frag}{T:Addr}{p:Value->Bool}(h:tG K T p=true):∃o v n,K.lookup T=some o/\o.data=.seq #[v] n/\p v=true:=by
 unfold tG at h
 split at h
 ·rename_i o ho
  split at h
  ·rename_i a n hd
   split at h
   ·rename_i v hv
    have:a = #[v]:=by rw[<-Array.toArray_toList (xs:=a),hv]
    subst this;exact⟨o,v,n,ho,hd,h⟩
   ·cases h
  ·cases h
 ·cases h
noncomputable def BO (n:Int)(v:Value):Bool:=match v with
 | .int i _=>i==n
 |_=>false
theorem jr {n:Int}{v:Value}(h:BO n v=true):∃t,v=.int n t:=by
 unfold BO at h
 split at h
 ·rename_i i t
  have:i=n:=by simpa using h
  exact⟨t,by rw[this]⟩
 ·cases h
noncomputable def yO (v:Value):Bool:=match v with
 | .none=>true
 |_=>false
theorem oM {v:Value}(h:yO v=true):v=.none:=by
 unfold yO at h
 split at h
 ·rfl
 ·cases h
noncomputable def xJ (v:Option (Option Value))(n:Int):Bool:=match v with
 |some (some u)=>BO n u
 |_=>false
theorem j7 {v:Option (Option Value)}{n:Int}(h:xJ v n=true):∃t,v=some (some (.int n t)):=by
 unfold xJ at h
 split at h
 ·obtain⟨t,rfl⟩:=jr h;exact⟨t,rfl⟩
 ·cases h
noncomputable def vP:List Value->List Int->Bool
 |[],[]=>true
 |v::vs,n::ns=>BO n v&&vP vs ns
 |_,_=>false
noncomputable def Ar (K:Frag)(a:Addr)(ns:List Int):Bool:=match K.lookup a with
 |some o=>(match o.cls with
  | .type T=>T == "tuple"
  |_=>false)&&(match o.data with
  | .seq its _=>vP its.toList ns&&decide (its.size<=sizeLine)
  |_=>false)
 |none=>false
noncomputable def jL (v:Option (Option Value))(s:String):Bool:=match v with
 |some (some (.builtin t))=>t==s
 |_=>false
theorem c8 {v:Option (Option Value)}{s:String}(h:jL v s=true):v=some (some (.builtin s)):=by
 unfold jL at h
 split at h
 ·rename_i t
  have:t=s:=by simpa using h
  rw[this]
 ·cases h
noncomputable def mJ (v:Option Bool)(b:Bool):Bool:=match v with
 |some c=>c==b
 |none=>false
theorem de {v:Option Bool}{b:Bool}(h:mJ v b=true):v=some b:=by
 unfold mJ at h
 split at h
 ·rename_i c
  have:c=b:=by simpa using h
  rw[this]
 ·cases h
noncomputable def CS:List Obj->BT->Nat->Option BT
 |[],t,_=>some t
 |o::os,t,n=>match ((t.ins n o).get n).isSome with
  |true=>CS os (t.ins n o) (n+1)
  |false=>none
theorem v7 (life:Life):∀(os:List Obj)(t t':BT)(n:Nat),CS os t n=some t'->(absHeap t' (n+os.length) life).objs=(absHeap t n life).objs++os.toArray
 |[],t,t',n,h=>by
  cases h
  simp
 |o::os,t,t',n,h=>by
  unfold CS at h
  cases q:((t.ins n o).get n).isSome with
  |false=>rw[q] at h;cases h
  |true =>
   rw[q] at h;have e:=v7 life os _ _ _ h;rw[absHeap_ins q] at e
   have:n+1+os.length=n+(o::os).length:=by simp only[sC];omega
   rw[this] at e;rw[e];show((absHeap t n life).objs.push o)++os.toArray=_;rw[<-Array.append_singleton,qZ];simp
noncomputable def HN (s:qm):Option SharedT:=(CS s.heap.objs.toList .nil 0).map λt=>⟨t,s.heap.objs.size,s.heap.life,s.gens,s.drawn,s.toks,s.os⟩
theorem aaC {s:qm}{x:SharedT}(h:HN s=some x):x.abs=s:=by
 unfold HN at h;obtain⟨t,e,rfl⟩:=lM.mp h;have g:=v7 s.heap.life _ _ _ _ e;obtain⟨⟨objs,life⟩,gens,drawn,toks,os⟩:=s
 have z:absHeap t objs.size life=⟨objs,life⟩:=by
  have a:(absHeap t objs.size life).objs=objs:=by
   have l:0+objs.toList.length=objs.size:=by simp
   rw[l] at g;rw[g];simp[absHeap,BT.list]
  exact DT (Heap.mk · life) a
 show Shared.mk _ _ _ _ _=_;rw[z]
noncomputable def jY (tb:String->Option Builtin)(p:A9)(w:World)(n₀:Nat)(ann:Ie):Nat->SharedT->Thread->Option SharedT
 |0,_,_=>none
 |n+1,s,t=>match through t with
  |true=>some s
  |false=>match stepOk n₀ ann t with
   |false=>none
   |true=>match stepT (denote tb) p w s t with
    |some (s',t')=>jY tb p w n₀ ann n s' t'
    |none=>none
section
variable {tb:String->Option Builtin}{p:A9}{w:World}{n₀:Nat}{ann:Ie}
theorem kQ:∀{n:Nat}{s s':SharedT}{t:Thread},jY tb p w n₀ ann n s t=some s'->topRun tb p w n₀ ann n s.abs t=some s'.abs
 |0,_,_,_,h=>by cases h
 |n+1,s,s',t,h=>by
  unfold jY at h;unfold topRun
  cases he:through t with
  |true=>rw[he] at h;cases h;rfl
  |false =>
   rw[he] at h
   cases hk:stepOk n₀ ann t with
   |false=>rw[hk] at h;cases h
   |true =>
    rw[hk] at h
    cases hs:stepT (denote tb) p w s t with
    |none=>rw[hs] at h;cases h
    |some r=>obtain⟨s₂,t₂⟩:=r;rw[hs] at h;rw[stepT_spec hs];exact kQ h
end
noncomputable def mf (tb:String->Option Builtin)(p:A9)(w:World)(N:Nat)(s₀:qm):Option SharedT :=
 match s₀.heap.isNs mainGlobals&&s₀.gens.size==0 with
 |true=>(HN s₀).bind λx=>(jY tb p w s₀.heap.objs.size (s₀.heap.nsMap mainGlobals "__annotations__") N x (topStub p)).bind λs₁=>match staticsOk (importedModules p.main.body) s₀.heap s₁.abs.heap&&namesBound p s₁.abs.heap&&gensDone s₁.abs&&laidKept s₀.heap s₁.abs.heap with
  |true=>some s₁
  |false=>none
 |false=>none
variable {p:A9}{N:Nat}
theorem afX {tb:String->Option Builtin}{w:World}{s:qm}{y:SharedT}(h:mf tb p w N s=some y):topFrom tb p w N s=some y.abs:=by
 unfold mf at h;unfold topFrom
 cases q:(s.heap.isNs mainGlobals&&s.gens.size==0) with
 |false=>rw[q] at h;cases h
 |true =>
  rw[q] at h;obtain⟨x,ex,h⟩:=xH.mp h;obtain⟨z,ez,h⟩:=xH.mp h;have e:=kQ ez;rw[aaC ex] at e;dsimp only;rw[e];show(match (staticsOk (importedModules p.main.body) s.heap z.abs.heap&&namesBound p z.abs.heap&&gensDone z.abs&&laidKept s.heap z.abs.heap) with|true=>some z.abs|false=>none)=_
  split at h
  ·cases h
   rename_i q2
   simp only[q2]
  ·cases h
noncomputable def bH (tb:String->Option Builtin)(p:A9)(w:World)(N:Nat):Option SharedT:=(fencedOpening tb p w N).bind (mf tb p w N)
theorem aaF {tb:String->Option Builtin}{w:World}{y:SharedT}(h:bH tb p w N=some y):openEnds tb p w N=some y.abs:=by
 unfold bH at h;unfold openEnds;obtain⟨s,e,h⟩:=xH.mp h;rw[e];exact afX h
theorem afZ {q:A9}{loose:DV}{Xt:Shared->Bool}{α:Type}{Yf:Shared->α}{Ya:World->α}
 (h1:∀w,(bH treeTable p w N).map (λs=>openSeen q loose (importedModules p.main.body) Xt true s.abs)=some (openGood q loose))
 (h2:∀w,(bH treeTable p w N).map (λs=>Yf s.abs)=some (Ya w)):LeftO p q loose Xt Yf Ya N:=λw=>by
 obtain⟨y,e,z⟩:=lM.mp (h1 w);have z2:=h2 w;rw[e] at z2;rw[aaF e];show some (_,_)=_;have z3:Yf y.abs=Ya w:=Option.some.inj z2;rw[z,z3]
section
variable {p q:A9}{loose mods:DV}{Xt:Shared->Bool}{α:Type}{Yf:Shared->α}{Ya:World->α}{N:Nat}
noncomputable abbrev rm (q:A9)(s:qm):=(seen ((recsOf q).map (·.name)) (ownsOf q) [] {s with gens:=#[]},s.heap.bltView)
noncomputable abbrev rT (q:A9)(loose mods:DV)(Xt:Shared->Bool)(s:qm):Bool :=
 s.heap.keysOk (looseW q loose) ((recsOf q).map (·.name)) ((litsOf q).map (·.1)) ((clssOf q (looseW q loose)).map (·.name))&&s.heap.accountedOkI mods&&s.heap.isNs mainGlobals&&s.heap.isNs builtinsNs&&tablesOk q s.heap&&Xt s&&(if true then s.gens.size==0 else !leftWithCleanup s.gens)
noncomputable abbrev rK (q:A9)(loose:DV)(s:qm):=(tabsOk q s,pinSeenD q (drecsOf q) s,plainSeenE q (looseW q loose) s,plainSeenD q loose s,wideSeen q s,clsSeenW q loose s)
theorem afp
 (h1:∀w,(bH treeTable p w N).map (λs=>rm q s.abs)=some (expectedOf q,bltViewBooted))
 (h2:∀w,(bH treeTable p w N).map (λs=>rT q loose (importedModules p.main.body) Xt s.abs)=some true)
 (h3:∀w,(bH treeTable p w N).map (λs=>rK q loose s.abs)=some (true,pinGoodD (drecsOf q),plainGoodE q (looseW q loose),plainGoodD q loose,wideGood q,clsGoodW q loose))
 (h4:∀w,(bH treeTable p w N).map (λs=>Yf s.abs)=some (Ya w)):LeftO p q loose Xt Yf Ya N:=by
 refine afZ (λw=>?_) h4;obtain⟨y,e,z1⟩:=lM.mp (h1 w);have z2:=h2 w;have z3:=h3 w;rw[e] at z2 z3 |-;have z2:rT q loose (importedModules p.main.body) Xt y.abs=true:=Option.some.inj z2;have z3:rK q loose y.abs=_:=Option.some.inj z3;show some (openSeen q loose (importedModules p.main.body) Xt true y.abs)=_;have e1:openSeen q loose (importedModules p.main.body) Xt true y.abs=((rm q y.abs).1,(rm q y.abs).2,rT q loose (importedModules p.main.body) Xt y.abs,rK q loose y.abs):=rfl;rw[e1,z1,z2,z3];rfl
theorem aaD
 (h1:∀w,(bH treeTable p w N).map (λs=>(rm q s.abs,rT q loose (importedModules p.main.body) Xt s.abs))=some ((expectedOf q,bltViewBooted),true))
 (h3:∀w,(bH treeTable p w N).map (λs=>rK q loose s.abs)=some (true,pinGoodD (drecsOf q),plainGoodE q (looseW q loose),plainGoodD q loose,wideGood q,clsGoodW q loose))
 (h4:∀w,(bH treeTable p w N).map (λs=>Yf s.abs)=some (Ya w)):LeftO p q loose Xt Yf Ya N:=by
 refine afp (λw=>?_) (λw=>?_) h3 h4
 ·obtain⟨y,e,z⟩:=lM.mp (h1 w);rw[e];exact DT some (CW z).1
 ·obtain⟨y,e,z⟩:=lM.mp (h1 w);rw[e];exact DT some (CW z).2
end
end Hd
namespace L2
open PySem
/-- an own class of exceptions without an __init__ -/
noncomputable def jT (K:PySem.W.Frag)(C:Addr)(Ni:wW)(newId:String):Bool :=
 ((K.lookup C).any λo=>o.cls == .type "type"&&(o.slots.size==6&&o.slots.toList[4]?==some (some (.builtin newId))))&&(PySem.W.clsIn K C).any λcd=>cd.mro.head?==some (.ref C)&&(!cd.hasDel&&(PySem.W.tailIn K Ni cd.mro.tail&&(PySem.W.nsOkIn K cd.ns&&PySem.W.nsIn K cd.ns "__init__"==some none)))
end L2
namespace K08
open PySem L2 PySem.W
open Hd (gv ga fv cM eW cw eC bu jL c8 mJ de dH aS ig dX sM oR tG iU yO oM BO jr xJ j7 Ar AG)
noncomputable def aZ (i:Nat):Stmt:=PySem.Challenge.pw_falsesums_k08_sums_put_in.main.body.getD i (.Pass ⟨0,0,0,0⟩)
noncomputable def tO:List Int:=[2,3,5,7,11,13,17,19,23,29,31,37,41,43,47,53,59,61,67,71,73,79,83,89,97]
noncomputable abbrev Bf:List Value:=[.type "ValueError",.type "Exception",.type "BaseException",.type "object"]
noncomputable abbrev mZ:String:="ValueError.__new__"
noncomputable def il (K:Frag):Addr×Addr:=(tabIn K "law").getD (0,0)
noncomputable def IC (K:Frag):Bool :=
 (eC (gv K "isinstance") &&
 (eC (gv K "int") &&
 (eC (gv K "bool") &&
 (eC (gv K "ValueError") &&
 (eC (gv K "abs") &&
 (eC (gv K "len") &&
 (eC (gv K "tuple") &&
 (eC (gv K "all") &&
 (eC (gv K "zip") &&
 (eC (gv K "list") &&
 (eC (gv K "enumerate") &&
 (eC (gv K "sorted") &&
 (eC (gv K "max") &&
 (eC (gv K "min") &&
 (eC (gv K "set") &&
 (eC (gv K "range")))))))))))))))))
noncomputable def Iu (K:Frag):Bool :=
 (eW (gv K "Sum") &&
 (eW (gv K "Field") &&
 (eW (gv K "FalseError") &&
 (eW (gv K "NoFilling") &&
 (eW (gv K "NoOrder") &&
 (eW (gv K "NoSums") &&
 (eW (gv K "NoNumber") &&
 (eW (gv K "Unlike") &&
 (eW (gv K "NoField") &&
 (eW (gv K "PRIMES") &&
 (xJ (gv K "FRACTIONS") 0 &&
 (xJ (gv K "MOST_PLACES") 60 &&
 (dH K (gv K "is_whole") "is_whole" &&
 (dH K (gv K "is_place") "is_place" &&
 (dH K (gv K "is_product") "is_product" &&
 (dH K (gv K "is_term") "is_term"))))))))))))))))
noncomputable def IG (K:Frag):Bool :=
 (dH K (gv K "checked_terms") "checked_terms" &&
 (dH K (gv K "place_of_term") "place_of_term" &&
 (dH K (gv K "gathered") "gathered" &&
 (dH K (gv K "together") "together" &&
 (dH K (gv K "built") "built" &&
 (dH K (gv K "common_divisor") "common_divisor" &&
 (dH K (gv K "lowest") "lowest" &&
 (dH K (gv K "inverse") "inverse" &&
 (dH K (gv K "put_product") "put_product" &&
 (dH K (gv K "_law_room") "_law_room" &&
 (dH K (gv K "_law_take") "_law_take" &&
 (dH K (gv K "_law_lowest") "_law_lowest" &&
 (dH K (gv K "_law_make") "_law_make" &&
 (dH K (gv K "_law_plus") "_law_plus" &&
 (dH K (gv K "_law_times") "_law_times" &&
 (dH K (gv K "_law_prime") "_law_prime"))))))))))))))))
noncomputable def Iq (K:Frag):Bool :=
 (dH K (gv K "_law_number") "_law_number" &&
 (dH K (gv K "_law_product") "_law_product" &&
 (dH K (gv K "_law_terms") "_law_terms" &&
 (dH K (gv K "_law_gather") "_law_gather" &&
 (dH K (gv K "_law_mult") "_law_mult" &&
 (dH K (gv K "_law_put_in") "_law_put_in" &&
 (dH K (gv K "_law_kind") "_law_kind" &&
 (dH K (fv K "Sum" "__eq__") "Sum.__eq__" &&
 (isFn K (.ref (cM (fv K "Sum" "__eq__"))) &&
 (dH K (fv K "Sum" "terms") "Sum.terms" &&
 (isFn K (.ref (cM (fv K "Sum" "terms"))) &&
 (dH K (fv K "Sum" "is_like") "Sum.is_like" &&
 (isFn K (.ref (cM (fv K "Sum" "is_like"))) &&
 (dH K (fv K "Sum" "reach") "Sum.reach" &&
 (isFn K (.ref (cM (fv K "Sum" "reach"))) &&
 (dH K (fv K "Sum" "put_in") "Sum.put_in"))))))))))))))))
noncomputable def Iw (K:Frag):Bool :=
 (isFn K (.ref (cM (fv K "Sum" "put_in"))) &&
 (dH K (fv K "Sum" "times") "Sum.times" &&
 (isFn K (.ref (cM (fv K "Sum" "times"))) &&
 (dH K (fv K "Sum" "scaled") "Sum.scaled" &&
 (isFn K (.ref (cM (fv K "Sum" "scaled"))) &&
 (dH K (fv K "Field" "__eq__") "Field.__eq__" &&
 (isFn K (.ref (cM (fv K "Field" "__eq__"))) &&
 (dH K (fv K "Field" "plus") "Field.plus" &&
 (isFn K (.ref (cM (fv K "Field" "plus"))) &&
 (dH K (fv K "Field" "times") "Field.times" &&
 (isFn K (.ref (cM (fv K "Field" "times"))) &&
 (dH K (fv K "Field" "settled") "Field.settled" &&
 (isFn K (.ref (cM (fv K "Field" "settled"))) &&
 (dH K (fv K "Field" "is_number") "Field.is_number" &&
 (isFn K (.ref (cM (fv K "Field" "is_number"))) &&
 (dH K (fv K "Field" "quotient") "Field.quotient"))))))))))))))))
noncomputable def Ir (K:Frag):Bool :=
 (isFn K (.ref (cM (fv K "Field" "quotient"))) &&
 (dH K (fv K "Sum" "__init__") "Sum.__init__" &&
 (isFn K (.ref (cM (fv K "Sum" "__init__"))) &&
 (sM K (fv K "Sum" "__init__") &&
 (tG K (oR K (fv K "Sum" "__init__")) (yO) &&
 (dH K (fv K "Field" "__init__") "Field.__init__" &&
 (isFn K (.ref (cM (fv K "Field" "__init__"))) &&
 (sM K (fv K "Field" "__init__") &&
 (tG K (oR K (fv K "Field" "__init__")) (BO 0) &&
 (dH K (fv K "Field" "made") "Field.made" &&
 (isFn K (.ref (cM (fv K "Field" "made"))) &&
 (sM K (fv K "Field" "made") &&
 (tG K (oR K (fv K "Field" "made")) (BO 1) &&
 (plainGet K (ga K "Field") Str.empty &&
 (hasDictIn K (ga K "Field") &&
 (plainOver K (ga K "Field")))))))))))))))))
noncomputable def IL (K:Frag):Bool :=
 (jL (fv K "Field" "__setattr__") "object.__setattr__" &&
 (eC (fv K "Field" "its_prime") &&
 (((clsIn K (ga K "Field")).isSome&&typeIn K (.ref (ga K "Field"))==some (.type "type")) &&
 (jL (fv K "Field" "__class__") "object.__class__" &&
 (jL (specialIn K (.builtin "object.__class__") "__get__") "getset_descriptor.__get__" &&
 (mJ (takesIn K (.builtin "object.__class__")) true &&
 (mJ (mroIn K (ga K "Field") (.type "object")) true &&
 (plainGet K (ga K "Sum") Str.empty &&
 (hasDictIn K (ga K "Sum") &&
 (plainOver K (ga K "Sum") &&
 (jL (fv K "Sum" "__setattr__") "object.__setattr__" &&
 (eC (fv K "Sum" "its_field") &&
 (eC (fv K "Sum" "its_terms") &&
 (((clsIn K (ga K "Sum")).isSome&&typeIn K (.ref (ga K "Sum"))==some (.type "type")) &&
 (jL (fv K "Sum" "__class__") "object.__class__" &&
 (mJ (mroIn K (ga K "Sum") (.type "object")) true))))))))))))))))
noncomputable def IB (K:Frag):Bool :=
 (Ar K (ga K "PRIMES") tO &&
 ((clsIn K (ga K "NoSums")).isSome &&
 (jL (fv K "NoSums" "__getattribute__") "BaseException.__getattribute__" &&
 (eC (fv K "NoSums" "__getattr__") &&
 (jL (fv K "NoSums" "__class__") "object.__class__" &&
 (mJ (mroIn K (ga K "NoSums") (.type "object")) true &&
 (mJ (mroIn K (ga K "NoSums") (.type "BaseException")) true &&
 (mJ (exmOne K (.ref (ga K "NoSums")) (.ref (ga K "FalseError"))) true &&
 (mJ (kitOne K (.ref (ga K "NoSums")) (.ref (ga K "NoFilling"))) false &&
 (mJ (kitOne K (.ref (ga K "NoSums")) (.ref (ga K "NoOrder"))) false &&
 (mJ (kitOne K (.ref (ga K "NoSums")) (.ref (ga K "NoSums"))) true &&
 (mJ (kitOne K (.ref (ga K "NoSums")) (.type "ValueError")) true &&
 (jT K (ga K "NoField") Bf mZ &&
 (jT K (ga K "NoNumber") Bf mZ &&
 (jT K (ga K "Unlike") Bf mZ &&
 (jT K (ga K "NoSums") Bf mZ))))))))))))))))
noncomputable def HP (K:Frag):Bool :=
 (jL (fv K "Sum" "__ne__") "object.__ne__" &&
 (mJ (kitOne K (.ref (ga K "Sum")) (.type "list")) false &&
 (dH K (gv K "law") "law" &&
 (AG K (gv K "law") (il K).1 &&
 ((tabIn K "law").isSome &&
 ((K.lookup (il K).2).isNone &&
 (makesIn K (ga K "Sum") &&
 (keepIn K (.ref (ga K "Sum")) &&
 (makesIn K (ga K "Field") &&
 (keepIn K (.ref (ga K "Field"))))))))))))
noncomputable def lZ (K:Frag):Bool:=IC K&&(Iu K&&(IG K&&(Iq K&&(Iw K&&(Ir K&&(IL K&&(IB K&&(HP K))))))))
noncomputable def tE (K:Frag):Bool×List (Option Hd.tY):=(lZ K,[aS K (gv K "is_whole"),aS K (gv K "is_place"),aS K (gv K "is_product"),aS K (gv K "is_term"),aS K (gv K "checked_terms"),aS K (gv K "place_of_term"),aS K (gv K "gathered"),aS K (gv K "together"),aS K (gv K "built"),aS K (gv K "common_divisor"),aS K (gv K "lowest"),aS K (gv K "inverse"),aS K (gv K "put_product"),aS K (gv K "_law_room"),aS K (gv K "_law_take"),aS K (gv K "_law_lowest"),aS K (gv K "_law_make"),aS K (gv K "_law_plus"),aS K (gv K "_law_times"),aS K (gv K "_law_prime"),aS K (gv K "_law_number"),aS K (gv K "_law_product"),aS K (gv K "_law_terms"),aS K (gv K "_law_gather"),aS K (gv K "_law_mult"),aS K (gv K "_law_put_in"),aS K (gv K "_law_kind"),aS K (fv K "Sum" "__eq__"),aS K (fv K "Sum" "terms"),aS K (fv K "Sum" "is_like"),aS K (fv K "Sum" "reach"),aS K (fv K "Sum" "put_in"),aS K (fv K "Sum" "times"),aS K (fv K "Sum" "scaled"),aS K (fv K "Field" "__eq__"),aS K (fv K "Field" "plus"),aS K (fv K "Field" "times"),aS K (fv K "Field" "settled"),aS K (fv K "Field" "is_number"),aS K (fv K "Field" "quotient"),ig K (fv K "Sum" "__init__"),ig K (fv K "Field" "__init__"),ig K (fv K "Field" "made"),aS K (gv K "law")])
noncomputable def dueK:Bool×List (Option Hd.tY):=(true,[dX "is_whole" "is_whole" ((aZ 12)),dX "is_place" "is_place" ((aZ 13)),dX "is_product" "is_product" ((aZ 14)),dX "is_term" "is_term" ((aZ 23)),dX "checked_terms" "checked_terms" ((aZ 24)),dX "place_of_term" "place_of_term" ((aZ 25)),dX "gathered" "gathered" ((aZ 26)),dX "together" "together" ((aZ 27)),dX "built" "built" ((aZ 30)),dX "common_divisor" "common_divisor" ((aZ 35)),dX "lowest" "lowest" ((aZ 36)),dX "inverse" "inverse" ((aZ 37)),dX "put_product" "put_product" ((aZ 31)),dX "_law_room" "_law_room" ((aZ 40)),dX "_law_take" "_law_take" ((aZ 41)),dX "_law_lowest" "_law_lowest" ((aZ 42)),dX "_law_make" "_law_make" ((aZ 43)),dX "_law_plus" "_law_plus" ((aZ 44)),dX "_law_times" "_law_times" ((aZ 45)),dX "_law_prime" "_law_prime" ((aZ 46)),dX "_law_number" "_law_number" ((aZ 47)),dX "_law_product" "_law_product" ((aZ 48)),dX "_law_terms" "_law_terms" ((aZ 49)),dX "_law_gather" "_law_gather" ((aZ 50)),dX "_law_mult" "_law_mult" ((aZ 51)),dX "_law_put_in" "_law_put_in" ((aZ 53)),dX "_law_kind" "_law_kind" (aZ 52),dX "__eq__" "Sum.__eq__" (aQ (aZ 29) 1),dX "terms" "Sum.terms" (aQ (aZ 29) 6),dX "is_like" "Sum.is_like" (aQ (aZ 29) 9),dX "reach" "Sum.reach" (aQ (aZ 29) 8),dX "put_in" "Sum.put_in" (aQ (aZ 29) 15),dX "times" "Sum.times" (aQ (aZ 29) 11),dX "scaled" "Sum.scaled" (aQ (aZ 29) 12),dX "__eq__" "Field.__eq__" (aQ (aZ 38) 1),dX "plus" "Field.plus" (aQ (aZ 38) 6),dX "times" "Field.times" (aQ (aZ 38) 8),dX "settled" "Field.settled" (aQ (aZ 38) 10),dX "is_number" "Field.is_number" (aQ (aZ 38) 11),dX "quotient" "Field.quotient" (aQ (aZ 38) 5),dX "__init__" "Sum.__init__" (aQ (aZ 29) 0),dX "__init__" "Field.__init__" (aQ (aZ 38) 0),dX "made" "Field.made" (aQ (aZ 38) 4),dX "law" "law" ((aZ 54))])
noncomputable def sO:List Addr:=[3,30,31,43,44,55,56,67,68,80,92,103,104,131,132,138,139,143,144,176,177,183,184,190,191,195,196,202,203,216,222,223,229,230,264,265,276,277,283,284,295,296,300,301,319,320,322,323,333,334,340,341,342,348,349,355,356,362,363,371,377,378,384,385,400,406,407,413,414,420,421,434,435,448,449,455,456,458,459,469,470,476,477,483,484,488,489,495,496,502,503,509,510,516,517,521,522,528,529,533,534,540,541,547,548,554,555,559,560]
noncomputable def iJ:Program:={PySem.Challenge.pw_falsesums_k08_sums_put_in with main:={PySem.Challenge.pw_falsesums_k08_sums_put_in.main with body:=[aZ 0,aZ 2,aZ 3,aZ 4,aZ 5,aZ 6,aZ 7,aZ 8,aZ 9,aZ 11,aZ 12,aZ 13,aZ 14,aZ 16,aZ 17,aZ 18,aZ 19,aZ 20,aZ 21,aZ 23,aZ 24,aZ 25,aZ 26,aZ 27,aZ 28,aZ 29,aZ 30,aZ 31,aZ 33,aZ 34,aZ 35,aZ 36,aZ 37,aZ 38,aZ 40,aZ 41,aZ 42,aZ 43,aZ 44,aZ 45,aZ 46,aZ 47,aZ 48,aZ 49,aZ 50,aZ 51,aZ 52,aZ 53,aZ 54]} }
noncomputable def lv:List (PySem.Str×WData):=[("STEP",.int 10000000000000000000000000000000000000000000000000000000000000000)]
end K08
section
open PySem PySem.W PyProof.Rows
set_option maxRecDepth 100000 in
set_option maxHeartbeats 0 in
theorem K08.ran1:∀w,(Hd.bH treeTable PySem.Challenge.rw_falsesums_k08_sums_put_in.row.prog w 8430).map (λs=>(Hd.rm K08.iJ s.abs,Hd.rT K08.iJ ["STEP","Field"] (importedModules PySem.Challenge.rw_falsesums_k08_sums_put_in.row.prog.main.body) (λs=>xlAt K08.iJ K08.lv s&&recOk (PySem.Challenge.rw_falsesums_k08_sums_put_in.row.toRowW).records s) s.abs))=some ((PyProof.Rows.expectedOf K08.iJ,bltViewBooted),true):=by
 intro w;kernel_rfl
set_option maxRecDepth 100000 in
set_option maxHeartbeats 0 in
theorem K08.ran3:∀w,(Hd.bH treeTable PySem.Challenge.rw_falsesums_k08_sums_put_in.row.prog w 8430).map (λs=>Hd.rK K08.iJ ["STEP","Field"] s.abs)=some (true,pinGoodD (drecsOf K08.iJ),plainGoodE K08.iJ (looseW K08.iJ ["STEP","Field"]),plainGoodD K08.iJ ["STEP","Field"],wideGood K08.iJ,clsGoodW K08.iJ ["STEP","Field"]):=by
 intro w;kernel_rfl
set_option maxRecDepth 100000 in
set_option maxHeartbeats 0 in
theorem K08.ran4:∀w,(Hd.bH treeTable PySem.Challenge.rw_falsesums_k08_sums_put_in.row.prog w 8430).map (λs=>K08.tE (Hd.yk K08.sO s.abs.heap))=some K08.dueK:=by
 intro w;kernel_rfl
end
namespace L2
open PySem PySem.Spec PyProof.Rows
noncomputable abbrev Key:=Sum Int Str
noncomputable def nA:Key->Value->Bool
 | .inl k,v=>Value.isInt k v
 | .inr x,v=>Value.isStrOf x v
noncomputable def afU (w:World):Key->Int
 | .inl k=>hashInt k
 | .inr x=>hashStr w x
theorem b7:∀{k:Key}{v:Value},nA k v=true->(∃i t,k=Sum.inl i/\v=Value.int i t)\/(∃x t,k=Sum.inr x/\v=Value.str x t)
 | .inl i,v,h=>by
   obtain⟨t,e⟩:=Value.isInt_shape (k:=i) (v:=v) h;exact .inl ⟨i,t,rfl,e⟩
 | .inr x,v,h=>by
   obtain⟨t,e⟩:=Value.isStrOf_shape (x:=x) (v:=v) h;exact .inr ⟨x,t,rfl,e⟩
theorem aaz (i:Int)(t:Tok):nA (.inl i) (.int i t)=true:=by simp[nA,Value.isInt]
theorem af3 (x:Str)(t:Tok):nA (.inr x) (.str x t)=true:=by simp[nA,Value.isStrOf]
theorem afW (a b:Int):decide ((Sum.inl a:Key)=Sum.inl b)=(a==b):=by
 by_cases e:a=b
 ·subst e;simp
 ·have h:¬(Sum.inl a:Key)=Sum.inl b:=λq=>e (Sum.inl.inj q);rw[HW h];exact(CP.mpr e).symm
theorem aaI (a b:Str):decide ((Sum.inr a:Key)=Sum.inr b)=decide (a=b):=by
 by_cases e:a=b
 ·subst e;simp
 ·have h:¬(Sum.inr a:Key)=Sum.inr b:=λq=>e (Sum.inr.inj q);rw[HW h,HW e]
theorem af9 (a:Int)(b:Str):decide ((Sum.inl a:Key)=Sum.inr b)=false:=HW (λq=>nomatch q)
theorem afS (a:Str)(b:Int):decide ((Sum.inr a:Key)=Sum.inl b)=false:=HW (λq=>nomatch q)
noncomputable def bR (prog:A9)(w:World):PySem.KeyKind prog w Key where
 is:=nA
 hash:=afU w
 inj:=λv a b ha hb=>by
  rcases b7 ha with⟨i,t,rfl,rfl⟩|⟨x,t,rfl,rfl⟩
  ·rcases b7 hb with⟨j,u,rfl,e⟩|⟨y,u,rfl,e⟩
   ·injection e with e1 _;rw[e1]
   ·exact nomatch e
  ·rcases b7 hb with⟨j,u,rfl,e⟩|⟨y,u,rfl,e⟩
   ·exact nomatch e
   ·injection e with e1 _;rw[e1]
 byValue:=λk v h=>by
  rcases b7 h with⟨i,t,rfl,rfl⟩|⟨x,t,rfl,rfl⟩ <;> rfl
 pyHash:=λhv h=>by
  rcases b7 hv with⟨i,t,rfl,rfl⟩|⟨x,t,rfl,rfl⟩
  ·exact wpAny_pyHash_int h
  ·exact wpAny_pyHash_str h
 eqBool:=λhu hv h=>by
  rcases b7 hu with⟨i,t,rfl,rfl⟩|⟨x,t,rfl,rfl⟩
  ·rcases b7 hv with⟨j,u,rfl,rfl⟩|⟨y,u,rfl,rfl⟩
   ·rw[afW] at h;exact wpAny_eqBool_int h
   ·rw[af9] at h;exact SeqAt.EqAt.int_str i t y u _ _ _ _ h
  ·rcases b7 hv with⟨j,u,rfl,rfl⟩|⟨y,u,rfl,rfl⟩
   ·rw[afS] at h;exact SeqAt.EqAt.str_int x t j u _ _ _ _ h
   ·rw[aaI] at h;exact wpAny_eqBool_str h
 «strs»:=λk x t v h=>by
  rcases b7 h with⟨i,u,rfl,e⟩|⟨y,u,rfl,e⟩
  ·exact nomatch e
  ·injection e with e1 _
   subst e1
   cases v <;> rfl
theorem aaB (prog:A9)(w:World)(i:Int)(t:Tok):(bR prog w).is (.inl i) (.int i t)=true:=aaz i t
theorem aaO (prog:A9)(w:World)(x:Str)(t:Tok):(bR prog w).is (.inr x) (.str x t)=true:=af3 x t
inductive V where
 |non|bl (b:Bool)|int (i:Int)|str (x:Str)|byt (b:Array UInt8)|flt (b:UInt64)|ref (a:Addr)|ty (n:String)
 deriving DecidableEq
noncomputable def aE:V->Value->Prop
 | .non,u=>u=Value.none
 | .bl b,u=>u=Value.bool b
 | .int i,u=>∃t,u=Value.int i t
 | .str x,u=>∃t,u=Value.str x t
 | .byt b,u=>∃t,u=Value.bytes b t
 | .flt b,u=>∃t,u=Value.float b t
 | .ref a,u=>u=Value.ref a
 | .ty n,u=>u=Value.type n
noncomputable abbrev aN:List V->List Value->Prop:=Paired aE
variable {us:wW}
theorem aN.length {xs:List V}(r:aN xs us):xs.length=us.length:=zX r
theorem aN.get:∀{xs:List V}{us:wW}{i:Nat}{x:V},aN xs us->xs[i]?=some x->∃u,us[i]?=some u/\aE x u
 |_,_,_,_,.nil,e=>by simp at e
 |_,_,0,_,.cons r _,e=>by simp at e;subst e;exact⟨_,rfl,r⟩
 |_,_,i+1,x,.cons _ t,e=>by
  obtain⟨u,h1,h2⟩:=aN.get (i:=i) (x:=x) t (by simpa using e);exact⟨u,by simpa using h1,h2⟩
variable {u:Value}
theorem aN.set {x:V}(r:aE x u):∀{xs:List V}{us:wW}(i:Nat),aN xs us->aN (xs.set i x) (us.set i u)
 |_,_,_,.nil=>.nil
 |_,_,0,.cons _ t=>.cons r t
 |_,_,i+1,.cons q t=>.cons q (aN.set r i t)
theorem aN.append:∀{xs ys:List V}{us ws:wW},aN xs us->aN ys ws->aN (xs++ys) (us++ws)
 |_,_,_,_,.nil,s=>s
 |_,_,_,_,.cons r t,s=>.cons r (aN.append t s)
theorem aN.take:∀{xs:List V}{us:wW}(n:Nat),aN xs us->aN (xs.take n) (us.take n)
 |_,_,0,_=>.nil
 |_,_,_+1,.nil=>.nil
 |_,_,n+1,.cons r t=>.cons r (aN.take n t)
theorem aN.drop:∀{xs:List V}{us:wW}(n:Nat),aN xs us->aN (xs.drop n) (us.drop n)
 |_,_,0,r=>r
 |_,_,_+1,.nil=>.nil
 |_,_,n+1,.cons _ t=>aN.drop n t
noncomputable def gh:Option V->Option Value->Prop
 |some v,some u=>aE v u
 |none,none=>True
 |_,_=>False
noncomputable def KV {κ:Type}:List (κ×V)->List (κ×Value)->Prop:=Paired λ(p:κ×V)(q:κ×Value)=>p.1=q.1/\aE p.2 q.2
noncomputable def kV:Key->V
 | .inl i=>.int i
 | .inr x=>.str x
inductive HO where
 /-- a list -/
 |lst (xs:List V)
 /-- a tuple (never changes) -/
 |tup (xs:List V)
 /-- a dict Pj keys are ints and texts;one Pj keys are tuples of ints and texts (Mu empty one is both) -/
 |dK (IY:List (Key×V))|dT (IY:List (List Key×V))
 /-- a set of ints: its members,its size -/
 |set (S:Int->Bool)(n:Nat)
 /-- an instance of Mu class at C,its dict at dx,its attributes -/
 |ins (C dx:Addr)(fs:List (Str×V))
 /-- Mu dict of Mu instance at x -/
 |own (x:Addr)
 /-- Mu dict of an exception -/
 |xd (fs:List (Str×V))
 /-- a bound method,f of x -/
 |met (f x:Addr)
 /-- a range object lo,lo+1,.. below hi -/
 |rng (lo hi:Int)
 /-- a Pk aav is known to Mu object (Mu Uz;a dict while a kJ Ds it): read,never written while it is so -/
 |frz (o:Obj)(u:HO)
 /-- a code Pl table -/
 |tbl (ps:IU)
 /-- any other Pk,by aaw is true of its one object (a def of Ys own: aax a S n:=HO.ext λh=>..) -/
 |ext (φ:Heap->Prop)
noncomputable abbrev Hp:=Addr->Option HO
noncomputable def upd (H:Hp)(a:Addr)(o:HO):Hp:=λb=>if b=a then some o else H b
variable {H:Hp}{a:Addr}{o:HO}
theorem ae :upd H a o a=some o:=by unfold upd;rw[oO rfl]
variable {b:Addr}
theorem au (h:b≠a):upd H a o b=H b:=by unfold upd;rw[DW h]
theorem vV {u:HO}:upd (upd H a o) a u=upd H a u:=by
 funext b;unfold upd;split <;> rfl
theorem nt {u:HO}(h:H a=some o)(h':H b=some u)(d:o≠u):a≠b:=by
 intro e;subst e;rw[h] at h';exact d (Option.some.inj h')
theorem ax (h:H a=some o)(h':H b=none):a≠b:=by
 intro e;subst e;rw[h] at h';cases h'
section
variable (P:A9)(w:World)
noncomputable def a9 (H:Hp)(h:Heap)(a:Addr):HO->Prop
 | .lst xs=>xs.length<=sizeLine/\∃(its:wW)(n:Nat),aN xs its/\h.get? a=some {cls:=.type "list",data:=.seq its.toArray n}
 | .tup xs=>xs.length<=sizeLine/\∃its:List Value,aN xs its/\IsTup h a its.toArray
 | .dK IY=>IY.length<=sizeLine/\(a==sysModules)=false/\∃vs,KV IY vs/\h.DictOf (bR P w) a vs
 | .dT IY=>IY.length<=sizeLine/\(a==sysModules)=false/\∃xs:List (List Key×Addr×Value),
  Paired (λ(p:List Key×V)(q:List Key×Addr×Value)=>p.1=q.1/\H q.2.1=some (.tup (p.1.map kV))/\aE p.2 q.2.2) IY xs /\
  ∃o es ep,h.get? a=some o/\o.ExactDict/\o.data=.dict es ep/\es.toList=xs.map (entryOfKey (tupleKind (bR P w)))/\(xs.map (·.1)).Nodup
 | .set S n=>h.SetOf (intKind P w) a S n
 | .ins C dx fs=>H dx=some (.own a)/\fs.length<=1000/\dx≠a/\h.get? a=some (PySem.W.instObj C dx) /\
  ∃mA,h.Ns1 dx mA/\(∀f,gh (fs.lookup f) (mA f))/\PySem.Within mA (fs.map (·.1))
 | .own _=>∃o,h.get? a=some o
 | .xd fs=>∃mA,h.Ns1 a mA/\∀f,gh (fs.lookup f) (mA f)
 | .rng lo hi=>∃t u v,h.get? a=some {cls:=.type "range",data:=.fields #[.int lo t,.int hi u,.int 1 v]}
 | .frz o u=>h.get? a=some o/\a9 H h a u
 | .tbl ps=>h.get? a=some {cls:=.none,data:=.fields ps}
 | .met f x=>h.get? a=some (PySem.W.methodObj (.ref f) (.ref x))
 | .ext φ=>φ h/\(∃o,h.get? a=some o)/\∀h1 h2:Heap,φ h1->(∀o,h1.get? a=some o->h2.get? a=some o)->φ h2
noncomputable def fF (H:Hp)(h:Heap):Prop:=∀a o,H a=some o->a9 P w H h a o
end
section
variable {P:A9}{w:World}{H H':Hp}{h h':Heap}{a:Addr}{o:HO}
theorem a9.lt (x:a9 P w H h a o):a<h.objs.size:=by
 cases o with
 |lst xs=>obtain⟨_,_,_,_,e⟩:=x;exact EL e
 |tup xs=>obtain⟨_,_,_,p⟩:=x;exact p.lt
 |dK IY=>obtain⟨_,_,_,_,o,_,_,e,_⟩:=x;exact EL e
 |dT IY=>obtain⟨_,_,_,_,o,_,_,e,_⟩:=x;exact EL e
 |set S n=>obtain⟨o,_,_,_,e,_⟩:=x;exact EL e
 |ins C dx fs=>obtain⟨_,_,_,e,_⟩:=x;exact EL e
 |own y=>obtain⟨_,e⟩:=x;exact EL e
 |xd fs=>obtain⟨_,⟨_,_,_,e,_⟩,_⟩:=x;exact EL e
 |rng lo hi=>obtain⟨_,_,_,e⟩:=x;exact EL e
 |frz ob u=>obtain⟨e,_⟩:=x;exact EL e
 |tbl ps=>exact EL (show h.get? a=some _ from x)
 |met f y=>exact EL (show h.get? a=some _ from x)
 |ext φ=>obtain⟨_,⟨_,e⟩,_⟩:=x;exact EL e
theorem Paired.ahM {α β:Type}{F G:α->β->Prop}:∀{l₁:List α}{l₂:List β},Paired F l₁ l₂->(∀a b,F a b->G a b)->Paired G l₁ l₂
 |_,_,.nil,_=>.nil
 |_,_,.cons r t,f=>.cons (f _ _ r) (Paired.ahM t f)
theorem a9.agR (x:a9 P w H h a o)(k:∀b u,(b=a\/H b=some (.own a))->h.get? b=some u->h'.get? b=some u)
 (ho:∀b,H b=some (.own a)->H' b=some (.own a))(ht:∀b xs,H b=some (.tup xs)->H' b=some (.tup xs)):a9 P w H' h' a o:=by
 induction o with
 |lst xs=>obtain⟨z,its,n,r,e⟩:=x;exact⟨z,its,n,r,k _ _ (.inl rfl) e⟩
 |tup xs=>obtain⟨z,its,r,ob,e,c⟩:=x;exact⟨z,its,r,ob,k _ _ (.inl rfl) e,c⟩
 |dK IY=>obtain⟨z,y,vs,r,ob,es,ep,e,c⟩:=x;exact⟨z,y,vs,r,ob,es,ep,k _ _ (.inl rfl) e,c⟩
 |dT IY =>
  obtain⟨z,y,xs,r,ob,es,ep,e,c⟩:=x;exact⟨z,y,xs,Paired.ahM r λp q z=>⟨z.1,ht _ _ z.2.1,z.2.2⟩,ob,es,ep,k _ _ (.inl rfl) e,c⟩
 |set S n=>obtain⟨ob,es,ep,t,e,c⟩:=x;exact⟨ob,es,ep,t,k _ _ (.inl rfl) e,c⟩
 |ins C dx fs =>
  obtain⟨d,z,ne,e,mA,⟨od,es,ep,e2,c⟩,r⟩:=x;exact⟨ho _ d,z,ne,k _ _ (.inl rfl) e,mA,⟨od,es,ep,k _ _ (.inr d) e2,c⟩,r⟩
 |own y=>obtain⟨ob,e⟩:=x;exact⟨ob,k _ _ (.inl rfl) e⟩
 |xd fs=>obtain⟨mA,⟨od,es,ep,e,c⟩,r⟩:=x;exact⟨mA,⟨od,es,ep,k _ _ (.inl rfl) e,c⟩,r⟩
 |rng lo hi=>obtain⟨t,u,v,e⟩:=x;exact⟨t,u,v,k _ _ (.inl rfl) e⟩
 |frz ob u ih=>obtain⟨e,q⟩:=x;exact⟨k _ _ (.inl rfl) e,ih q⟩
 |tbl ps =>
  have e:h.get? a=some {cls:=.none,data:=.fields ps}:=x;show h'.get? a=some {cls:=.none,data:=.fields ps};exact k a _ (.inl rfl) e
 |met f y =>
  have e:h.get? a=some (PySem.W.methodObj (.ref f) (.ref y)):=x;show h'.get? a=some (PySem.W.methodObj (.ref f) (.ref y));exact k a _ (.inl rfl) e
 |ext φ=>obtain⟨p,⟨o,e⟩,st⟩:=x;exact⟨st _ _ p λo q=>k _ _ (.inl rfl) q,⟨o,k _ _ (.inl rfl) e⟩,st⟩
theorem fF.lt (x:fF P w H h)(e:H a=some o):a<h.objs.size:=(x a o e).lt
theorem fF.fresh (x:fF P w H h)(e:h.objs.size<=a):H a=none:=by
 cases q:H a with
 |none=>rfl
 |some u=>exact absurd (HG (x.lt q) e) (qo _)
theorem fF.kept (x:fF P w H h)(k:∀b u,h.get? b=some u->h'.get? b=some u):fF P w H h':=λa o e =>
 (x a o e).agR (λb u _ q=>k b u q) (λ_ q=>q) λ_ _ q=>q
theorem fF.laid (x:fF P w H h)(k:∀b u,h.get? b=some u->h'.get? b=some u)(hp:h.objs.size<=a)(new:a9 P w (upd H a o) h' a o):fF P w (upd H a o) h':=λb u e=>by
 have hn:=x.fresh hp
 by_cases hb:b=a
 ·subst hb;rw[ae] at e;cases e;exact new
 ·rw[au hb] at e
  exact(x b u e).agR (λc v _ q=>k c v q) (λc q=>by rw[au (ax q hn)];exact q) λc xs q=>by rw[au (ax q hn)];exact q
end
noncomputable def Rd (H:Hp)(a:Addr)(u:HO):Prop:=H a=some u\/∃o,H a=some (.frz o u)
variable {P:A9}{w:World}{h:Heap}
theorem Rd.ok {u:HO}(r:Rd H a u)(x:fF P w H h):a9 P w H h a u:=by
 rcases r with r|⟨o,r⟩
 ·exact x a u r
 ·obtain⟨_,q⟩:=x a _ r;exact q
noncomputable def F3:Option HO->Prop
 |some (.lst _)=>True
 |some (.dK _)=>True
 |some (.dT _)=>True
 |some (.set _ _)=>True
 |some (.ins _ _ _)=>True
 |some (.ext _)=>True
 |_=>False
section
variable {P:A9}{w:World}{H:Hp}{h h':Heap}{x e:Addr}{o':HO}
theorem fF.write (ok:fF P w H h)(mu:F3 (H x))(he:e=x\/H e=some (.own x))(k:∀b u,b≠e->h.get? b=some u->h'.get? b=some u)(OI:∃u,h'.get? e=some u)
 (new:a9 P w (upd H x o') h' x o'):fF P w (upd H x o') h':=λb u q=>by
 have Pn:∀c y,H c=some (.own y)->c≠x:=λc y r z=>by subst z;rw[r] at mu;exact mu
 have UA:∀c xs,H c=some (.tup xs)->c≠x:=λc xs r z=>by subst z;rw[r] at mu;exact mu
 by_cases hb:b=x
 ·subst hb;rw[ae] at q;cases q;exact new
 ·rw[au hb] at q
  by_cases Nj:b=e
  ·have q':H b=some (.own x):=by
    rcases he with z|z
    ·exact absurd (Nj.trans z) hb
    ·rw[Nj];exact z
   rw[q] at q';cases q';obtain⟨v,hv⟩:=OI;exact⟨v,by rw[Nj];exact hv⟩
  ·refine(ok b u q).agR (λc v hc r=>k c v ?_ r) (λc r=>by rw[au (Pn c b r)];exact r) λc xs r=>by rw[au (UA c xs r)];exact r
   rcases hc with rfl|hc
   ·exact Nj
   ·rintro rfl
    rcases he with z|z
    ·exact Pn c b hc z
    ·rw[hc] at z;cases z;exact hb rfl
end
structure Un (fs ex:List Addr)(H H':Hp)(h h':Heap):Prop where
 keep:∀b o,h.get? b=some o->H b=none->b∉fs->b∉ex->h'.get? b=some o
 slot:∀b o,h.get? b=some o->H b=none->b∈fs->b∉ex->∃sl,h'.get? b=some {o with slots:=sl}
 free:∀b o,h.get? b=some o->H b=none->b∉ex->H' b=none
 there:∀b o,h.get? b=some o->b∉ex->∃o',h'.get? b=some o'
 agf:∀b xs,H b=some (.tup xs)->H' b=some (.tup xs)
 age:∀b o u,H b=some (.frz o u)->H' b=some (.frz o u)
 agp:∀b ps,H b=some (.tbl ps)->∃more,H' b=some (.tbl (ps++more))
section
variable {fs fs' ex ex':List Addr}{H H1 H2:Hp}{h h1 h2 h':Heap}{a x e:Addr}{o:HO}
theorem Un.any (u:Un fs ex H H1 h h1){ob:Obj}(q:h.get? b=some ob)(n:H b=none)(hx:b∉ex):∃sl,h1.get? b=some {ob with slots:=sl}:=by
 by_cases hb:b∈fs
 ·exact u.slot b ob q n hb hx
 ·exact⟨ob.slots,u.keep b ob q n hb hx⟩
theorem Un.kept (k:∀b u,h.get? b=some u->h'.get? b=some u):Un fs ex H H h h' :=
 ⟨λb ob q _ _ _=>k b ob q,λb ob q _ _ _=>⟨ob.slots,k b ob q⟩,λ_ _ _ n _=>n,λb ob q _=>⟨ob,k b ob q⟩,λ_ _ q=>q,λ_ _ _ q=>q,λ_ ps q=>⟨#[],by rw[q];simp⟩⟩
theorem Un.refl:Un fs ex H H h h:=Un.kept λ_ _ q=>q
theorem Un.laid (k:∀b u,h.get? b=some u->h'.get? b=some u)(hp:h.objs.size<=a)(hn:H a=none):Un fs ex H (upd H a o) h h' where
 keep:=λb u q _ _ _=>k b u q
 slot:=λb u q _ _ _=>⟨u.slots,k b u q⟩
 free:=λb u q n _=>by rw[au (Ho (HG (EL q) hp))];exact n
 there:=λb u q _=>⟨u,k b u q⟩
 agf:=λb xs q=>by rw[au (ax q hn)];exact q
 age:=λb u xs q=>by rw[au (ax q hn)];exact q
 agp:=λb ps q=>⟨#[],by rw[au (ax q hn),q];simp⟩
theorem Un.write (mu:F3 (H x))(he:e=x\/H e=some (.own x))(k:∀b u,b≠e->h.get? b=some u->h'.get? b=some u)(OI:∃u,h'.get? e=some u):Un fs ex H (upd H x o) h h':=by
 have hx:∀b,H b=none->b≠x:=λb n z=>by subst z;rw[n] at mu;exact mu
 have hb:∀b,H b=none->b≠e:=λb n z=>by
  subst z
  rcases he with r|r
  ·exact hx b n r
  ·rw[n] at r;cases r
 have hm:∀b u,H b=some u->¬F3 (some u)->b≠x:=λb u q nm z=>by subst z;rw[q] at mu;exact nm mu
 refine⟨λb u q n _ _=>k b u (hb b n) q,λb u q n _ _=>⟨u.slots,k b u (hb b n) q⟩,λb u q n _=>by rw[au (hx b n)];exact n,λb u q _=>?_,
  λb xs q=>by rw[au (hm b _ q λz=>z)];exact q,λb u xs q=>by rw[au (hm b _ q λz=>z)];exact q,λb ps q=>⟨#[],by rw[au (hm b _ q λz=>z),q];simp⟩⟩
 by_cases Nj:b=e
 ·subst Nj;exact OI
 ·exact⟨u,k b u Nj q⟩
end
noncomputable def Hi (h:Heap)(H:Hp):List Addr:=(List.range h.objs.size).filter λa=>(H a).isSome
noncomputable def m8 (h:Heap)(H:Hp):Heap:=PySem.W.hideAll h (Hi h H)
theorem aaE (h:Heap)(H:Hp):(m8 h H).objs.size=h.objs.size:=PySem.W.hideAll_size _ _
theorem aaA {o:Obj}(e:h.get? b=some o)(n:H b=none):(m8 h H).get? b=some o :=
 PySem.W.hideAll_get _ e λhm=>by
  have q:(H b).isSome=true:=(rh.mp hm).2;rw[n] at q;simp at q
theorem af0 {o:Obj}(e:(m8 h H).get? b=some o):h.get? b=some o/\H b=none:=by
 have e':h.get? b=some o:=PySem.W.of_hideAll (Hi h H) e;refine⟨e',?_⟩
 cases q:H b with
 |none=>rfl
 |some x =>
  have hm:b∈Hi h H:=rh.mpr ⟨IX.mpr (EL e'),by simp[q]⟩;have z:(m8 h H).get? b=none:=PySem.W.hideAll_none (Hi h H) hm;rw[z] at e;cases e
structure Mod (K:PySem.W.Frag)(mg:Fj)(base:Heap):Prop where
 kin:K.In base
 glob:base.Ns mainGlobals mg
 blt:∃mb,base.Ns builtinsNs mb/\∀x:Str,x ≠ "__name__"->mb x=bootBuiltins x
 nolimit:base.NoLimit
structure Cx where
 prog:Program
 w:World
 K:PySem.W.Frag
 mg:Str->Option Value
 base:Heap
 A:Around
 N:List Str
 s₀:Shared
 H₀:Hp
 env:Env
 outer:List Env
 stack:List Env
 ex:List Addr
 fn:Str->Bool
 calm:Bool
 pn:List (Addr×Obj)
 xe:Value->Shared->Prop
noncomputable def dJ (l:List Env):List Addr:=l.filterMap (·.frame)
noncomputable abbrev Cx.fs (X:Cx):List Addr:=dJ X.outer
noncomputable def Hh (sc:Scope)(x:Str):Prop:=sc.names.lookup x=some .local\/sc.names.lookup x=some .cell\/sc.names.lookup x=some .free
noncomputable def G5 (sc:Scope)(x:Str):Prop:=sc.names.lookup x=some .local\/sc.names.lookup x=some .cell
noncomputable def aaN (env:Env)(h:Heap)(m:Fj)(x:Str)(u:Value):Prop :=
 (env.kindOf x=some .local/\m x=some u)\/((env.kindOf x=some .cell\/env.kindOf x=some .free)/\∃c,env.cells.lookup x=some c/\h.IsCell c (some u))
structure Cx.Ok (X:Cx):Prop where
 mod:Mod X.K X.mg X.base
 kind:X.env.scope.kind=.function
 glob:X.env.globals=mainGlobals
 blt:X.env.builtins=builtinsNs
 above:X.s₀.heap.objs.size<=X.env.locals
 inj:∀x y c,X.env.cells.lookup x=some c->X.env.cells.lookup y=some c->x=y
 has:∀x,(X.env.kindOf x=some .cell\/X.env.kindOf x=some .free)->∃c,X.env.cells.lookup x=some c
 cab:∀x c,X.fn x=true->X.env.cells.lookup x=some c->X.s₀.heap.objs.size<=c
 hd:X.calm=true->X.A.handled=none
 frames:X.A.frames=some X.stack
 stk:X.stack=X.outer\/(X.stack=X.env::X.outer/\X.env.frame=some X.env.locals)
 exf:∀b∈X.ex,b≠X.env.locals/\∀x c,X.env.cells.lookup x=some c->c≠b
 bs:∀b o,X.base.get? b=some o->X.s₀.heap.get? b=some o/\X.H₀ b=none
 bsz:X.base.objs.size<=X.s₀.heap.objs.size
 ahr:∀b o,X.base.get? b=some o->b∉X.ex
 ahN:∀b∈X.ex,b∉X.fs
 agq:X.s₀.heap.FunFrames X.base X.outer
 frf:∀b∈X.fs,X.H₀ b=none
structure Inv (X:Cx)(pins:List (Addr×Obj))(σ:List (Option V))(H:Hp)(s:qm):Prop where
 ok:X.Ok
 os:s.os=X.s₀.os
 bare:AllBare s.gens
 base:Un X.fs X.ex X.H₀ H X.s₀.heap s.heap
 loc:∃m,s.heap.Ns X.env.locals m/\∀(i:Nat)(x:Str)(v:V),X.N[i]?=some x->σ[i]?=some (some v)->Hh X.env.scope x->∃u,aE v u/\aaN X.env s.heap m x u
 cell:∀x c,X.env.cells.lookup x=some c->∃v,s.heap.IsCell c v
 free:H X.env.locals=none
 aga:∀x c,X.env.cells.lookup x=some c->H c=none
 pin:∀p∈X.pn++pins,s.heap.get? p.1=some p.2/\H p.1=none/\p.1≠X.env.locals/\p.1∉X.fs/\∀v,p.2.data≠.cell v
 hok:fF X.prog X.w H s.heap
 len:σ.length=X.N.length
variable {N:DV}{i:Nat}{x:Str}{M:Model}{A:Around}
section
variable {X:Cx}{pins:List (Addr×Obj)}{σ:List (Option V)}{H H':Hp}{s:qm}{h':Heap}
theorem Cx.Ok.amd (ok:X.Ok){o:Obj}(e:X.base.get? b=some o):b∉X.fs:=λhb=>by
 have:=(ok.agq.mem hb).1;rw[e] at this;cases this
theorem Inv.bs (I:Inv X pins σ H s):∀b o,X.base.get? b=some o->s.heap.get? b=some o/\H b=none:=λb o e =>
 ⟨I.base.keep b o (I.ok.bs b o e).1 (I.ok.bs b o e).2 (I.ok.amd e) (I.ok.ahr b o e),I.base.free b o (I.ok.bs b o e).1 (I.ok.bs b o e).2 (I.ok.ahr b o e)⟩
theorem Inv.bk (I:Inv X pins σ H s):∀b o,X.base.get? b=some o->s.heap.get? b=some o:=λb o e=>(I.bs b o e).1
theorem Inv.mod (I:Inv X pins σ H s):Mod X.K X.mg X.base:=I.ok.mod
theorem Inv.kIn (I:Inv X pins σ H s):X.K.In s.heap:=I.ok.mod.kin.keeps I.bk
theorem Inv.fr (I:Inv X pins σ H s):∃m,Fr X.base X.env.locals s.heap m :=
 let⟨m,hn,_⟩:=I.loc
 ⟨m,hn,I.bk,GC I.ok.bsz I.ok.above⟩
theorem Inv.lt (I:Inv X pins σ H s):X.env.locals<s.heap.objs.size:=let⟨_,hn,_⟩:=I.loc;hn.lt
theorem Inv.sz (I:Inv X pins σ H s):X.s₀.heap.objs.size<=s.heap.objs.size:=GC I.ok.above (HE I.lt)
theorem Inv.ajC (I:Inv X pins σ H s)(h:s.heap.objs.size<=a):a∉X.fs:=λhb=>by
 obtain⟨_,o,ho,_⟩:=I.ok.agq.mem hb;exact absurd (HG (EL ho) (GC I.sz h)) (qo _)
theorem Inv.cne (I:Inv X pins σ H s):∀x c,X.env.cells.lookup x=some c->c≠X.env.locals:=λx c e z=>by
 obtain⟨v,o,ho,hd⟩:=I.cell x c e;obtain⟨m,⟨o',es,ep,JE,UB,_⟩,_⟩:=I.loc;rw[z,JE] at ho;cases ho;rw[UB] at hd;cases hd
theorem Inv.agq (I:Inv X pins σ H s):s.heap.FunFrames X.base X.outer:=by
 have all:∀(l:List Env),(∀b∈dJ l,b∈X.fs)->X.s₀.heap.FunFrames X.base l->s.heap.FunFrames X.base l:=by
  intro l
  induction l with
  |nil=>intro _ _;trivial
  |cons env r ih =>
   intro hs hl;obtain⟨hk,⟨L,o,hf,hn,ho,hd⟩,hr⟩:=hl;have hL:L∈X.fs:=hs L (by unfold dJ;rw[Ff,hf];exact qG);obtain⟨sl,e⟩:=I.base.slot L o ho (I.ok.frf L hL) hL λz=>I.ok.ahN L z hL;exact⟨hk,⟨L,_,hf,hn,e,hd⟩,ih (λb hb=>hs b (by unfold dJ;rw[Ff,hf];exact AM _ hb)) hr⟩
 exact all X.outer (λ_ hb=>hb) I.ok.agq
theorem Inv.stack (I:Inv X pins σ H s):s.heap.FunFrames X.base X.stack:=by
 rcases I.ok.stk with e|⟨e,hf⟩
 ·rw[e];exact I.agq
 ·rw[e];obtain⟨m,hn,_⟩:=I.loc;refine .cons (by rw[I.ok.kind];decide) hf hn ?_ I.agq;exact Heap.get?_none_of_le (GC I.ok.bsz I.ok.above)
theorem Inv.agn (I:Inv X pins σ H s):∀b∈dJ X.stack,b∈X.env.locals::X.fs:=λb hb=>by
 rcases I.ok.stk with e|⟨e,hf⟩
 ·rw[e] at hb;exact AM _ hb
 ·rw[e] at hb;unfold dJ at hb;rw[Ff,hf] at hb;exact hb
theorem Inv.agE (I:Inv X pins σ H s):∀b∈dJ X.stack,H b=none:=λb hb=>by
 rcases Ef.mp (I.agn b hb) with e|hb
 ·rw[e];exact I.free
 ·obtain⟨_,o,ho,_⟩:=I.ok.agq.mem hb;exact I.base.free b o ho (I.ok.frf b hb) λz=>I.ok.ahN b z hb
theorem Inv.step {g':Array GenState}{t':Nat}{d':Drawn}{ch:List Addr}(I:Inv X pins σ H s)
 (LH:∀b∈ch,(b∈X.ex\/X.s₀.heap.objs.size<=b)/\b≠X.env.locals/\(∀x c,X.env.cells.lookup x=some c->c≠b)/\∀p∈X.pn++pins,p.1≠b)
 (keep:∀b o,b≠X.env.locals->b∉X.fs->b∉ch->s.heap.get? b=some o->H b=none->h'.get? b=some o)
 (slot:∀b o,b≠X.env.locals->b∈X.fs->b∉ch->s.heap.get? b=some o->H b=none->∃sl,h'.get? b=some {o with slots:=sl})(free:∀b o,b∉ch->s.heap.get? b=some o->H b=none->H' b=none)
 (there:∀b o,b∉ch->s.heap.get? b=some o->∃o',h'.get? b=some o')
 (agf:∀b xs,H b=some (.tup xs)->H' b=some (.tup xs))(age:∀b o u,H b=some (.frz o u)->H' b=some (.frz o u))(agp:∀b ps,H b=some (.tbl ps)->∃more,H' b=some (.tbl (ps++more)))
 (ns:∀m,s.heap.Ns X.env.locals m->h'.Ns X.env.locals m)(hok:fF X.prog X.w H' h')(hg:AllBare g'):
 Inv X pins σ H' {s with heap:=h',gens:=g',drawn:=d',toks:=t'}:=by
 have Yt:∀b o,X.s₀.heap.get? b=some o->b≠X.env.locals:=λb o e=>Ho (HG (EL e) I.ok.above)
 have Tq:∀b o,X.s₀.heap.get? b=some o->b∉X.ex->b∉ch:=λb o e hx hb=>by
  rcases(LH b hb).1 with z|z
  ·exact hx z
  ·exact absurd (HG (EL e) z) (qo _)
 have cellK:∀x c,X.env.cells.lookup x=some c->∀v,s.heap.IsCell c v->h'.IsCell c v:=λx c e v ⟨o,ho,hd⟩=>by
  have Po:c∉ch:=λz=>(LH c z).2.2.1 x c e rfl
  by_cases hc:c∈X.fs
  ·obtain⟨sl,q⟩:=slot c o (I.cne x c e) hc Po ho (I.aga x c e);exact⟨_,q,hd⟩
  ·exact⟨o,keep c o (I.cne x c e) hc Po ho (I.aga x c e),hd⟩
 refine⟨I.ok,I.os,hg,⟨λb o e n hb hx=>?_,λb o e n hb hx=>?_,λb o e n hx=>?_,λb o e hx=>?_,λb xs e=>agf b xs (I.base.agf b xs e),λb o xs e=>age b o xs (I.base.age b o xs e),λb ps e=>?_⟩,?_,λx c e=>?_,?_,λx c e=>?_,λp hp=>?_,hok,I.len⟩
 ·exact keep b o (Yt b o e) hb (Tq b o e hx) (I.base.keep b o e n hb hx) (I.base.free b o e n hx)
 ·obtain⟨sl,e1⟩:=I.base.slot b o e n hb hx;obtain⟨KR,e2⟩:=slot b _ (Yt b o e) hb (Tq b o e hx) e1 (I.base.free b o e n hx);exact⟨KR,e2⟩
 ·obtain⟨o',e1⟩:=I.base.there b o e hx;exact free b o' (Tq b o e hx) e1 (I.base.free b o e n hx)
 ·obtain⟨o',e1⟩:=I.base.there b o e hx;exact there b o' (Tq b o e hx) e1
 ·obtain⟨m1,e1⟩:=I.base.agp b ps e;obtain⟨m2,e2⟩:=agp b _ e1;exact⟨m1++m2,by rw[e2,qZ]⟩
 ·obtain⟨m,hn,hl⟩:=I.loc;refine⟨m,ns m hn,λi x v e1 e2 e3=>?_⟩;obtain⟨u,r,l⟩:=hl i x v e1 e2 e3;refine⟨u,r,?_⟩
  rcases l with l|⟨k,c,e,z⟩
  ·exact .inl l
  ·exact .inr ⟨k,c,e,cellK x c e _ z⟩
 ·obtain⟨v,z⟩:=I.cell x c e;exact⟨v,cellK x c e v z⟩
 ·obtain⟨m,⟨o,_,_,ho,_⟩,_⟩:=I.loc;exact free _ o (λz=>(LH _ z).2.1 rfl) ho I.free
 ·obtain⟨v,o,ho,hd⟩:=I.cell x c e;exact free c o (λz=>(LH c z).2.2.1 x c e rfl) ho (I.aga x c e)
 ·obtain⟨e,n,ne,nf,d⟩:=I.pin p hp;have Po:p.1∉ch:=λz=>(LH p.1 z).2.2.2 p hp rfl;exact⟨keep p.1 p.2 ne nf Po e n,free p.1 p.2 Po e n,ne,nf,d⟩
theorem Inv.un {t':Nat}(I:Inv X pins σ H s)(u:Un X.fs [] H H' s.heap h')(hok:fF X.prog X.w H' h'):Inv X pins σ H' {s with heap:=h',toks:=t'}:=by
 obtain⟨m,⟨o,es,ep,ho,r⟩,_⟩:=id I.loc;obtain⟨sl,hL⟩:=u.any ho I.free (by simp)
 exact I.step (g':=s.gens) (d':=s.drawn) (ch:=[]) (λ_ z=>nomatch z) (λb o _ hb _ e n=>u.keep b o e n hb (by simp)) (λb o _ hb _ e n=>u.slot b o e n hb (by simp)) (λb o _ e n=>u.free b o e n (by simp)) (λb o _ e=>u.there b o e (by simp)) u.agf u.age u.agp (λm' hm=>by
  obtain⟨o',es',Nl,JE,r'⟩:=hm;rw[ho] at JE;cases JE
  exact⟨_,es',Nl,hL,r'⟩) hok I.bare
theorem Inv.call {g':Array GenState}{t':Nat}{d':Drawn}{ch:List Addr}(I:Inv X pins σ H s)(u:Un (dJ X.stack) ch H H' s.heap h')(hok:fF X.prog X.w H' h')(hg:AllBare g')
 (LH:∀b∈ch,(b∈X.ex\/X.s₀.heap.objs.size<=b)/\b≠X.env.locals/\(∀x c,X.env.cells.lookup x=some c->c≠b)/\∀p∈X.pn++pins,p.1≠b):
 Inv X pins σ H' {s with heap:=h',gens:=g',drawn:=d',toks:=t'}:=by
 obtain⟨m,⟨o,es,ep,ho,r⟩,_⟩:=id I.loc;obtain⟨sl,hL⟩:=u.any ho I.free λz=>(LH _ z).2.1 rfl
 exact I.step (ch:=ch) LH (λb o hL hb hc e n=>u.keep b o e n (λz=>(Ef.mp (I.agn b z)).elim hL hb) hc) (λb o _ _ hc e n=>u.any e n hc) (λb o hc e n=>u.free b o e n hc) (λb o hc e=>u.there b o e hc) u.agf u.age u.agp (λm' hm=>by
  obtain⟨o',es',Nl,JE,r'⟩:=hm;rw[ho] at JE;cases JE
  exact⟨_,es',Nl,hL,r'⟩) hok hg
theorem Inv.turned {t':Nat}{it:Addr}(I:Inv X pins σ H s)(k:∀b o,b≠it->s.heap.get? b=some o->h'.get? b=some o)(hn:H it=none)(hL:it≠X.env.locals)
 (h1:it∈X.ex\/X.s₀.heap.objs.size<=it)(h2:∀x c,X.env.cells.lookup x=some c->c≠it)(h3:∀p∈X.pn++pins,p.1≠it):Inv X pins σ H {s with heap:=h',toks:=t'}:=by
 have Mv:∀b u,H b=some u->b≠it:=λb u e z=>by rw[z,hn] at e;cases e
 refine I.step (g':=s.gens) (d':=s.drawn) (ch:=[it]) (λb hb=>?_) (λb o _ _ hc e _=>k b o (λz=>hc (by simp[z])) e) (λb o _ _ hc e _=>⟨o.slots,k b o (λz=>hc (by simp[z])) e⟩) (λ_ _ _ _ n=>n)
  (λb o hc e=>⟨o,k b o (λz=>hc (by simp[z])) e⟩) (λ_ _ e=>e) (λ_ _ _ e=>e) (λb ps e=>⟨#[],by rw[e];simp⟩) (λm hm=>?_) (λb u e=>?_) I.bare
 ·have e:b=it:=by simpa using hb
  subst e;exact⟨h1,hL,h2,h3⟩
 ·obtain⟨o,es,ep,ho,r⟩:=hm;exact⟨o,es,ep,k _ o (Hw hL) ho,r⟩
 ·refine(I.hok b u e).agR (λc v hc q=>k c v ?_ q) (λ_ q=>q) λ_ _ q=>q
  rcases hc with z|z
  ·rw[z];exact Mv b u e
  ·exact Mv c _ z
theorem Inv.tok (I:Inv X pins σ H s)(t:Nat):Inv X pins σ H {s with toks:=t}:=I.un (h':=s.heap) (t':=t) Un.refl I.hok
theorem Inv.kept {t':Nat}(I:Inv X pins σ H s)(k:∀b u,s.heap.get? b=some u->h'.get? b=some u):Inv X pins σ H {s with heap:=h',toks:=t'}:=I.un (Un.kept k) (I.hok.kept k)
theorem Inv.laid {a:Addr}{o:HO}{t':Nat}(I:Inv X pins σ H s)(k:∀b u,s.heap.get? b=some u->h'.get? b=some u)(hp:s.heap.objs.size<=a)(new:a9 X.prog X.w (upd H a o) h' a o):
 Inv X pins σ (upd H a o) {s with heap:=h',toks:=t'}:=I.un (Un.laid k hp (I.hok.fresh hp)) (I.hok.laid k hp new)
theorem Inv.write {x e:Addr}{o:HO}{t':Nat}(I:Inv X pins σ H s)(mu:F3 (H x))(he:e=x\/H e=some (.own x))(k:∀b u,b≠e->s.heap.get? b=some u->h'.get? b=some u)(OI:∃u,h'.get? e=some u)
 (new:a9 X.prog X.w (upd H x o) h' x o):Inv X pins σ (upd H x o) {s with heap:=h',toks:=t'}:=I.un (Un.write mu he k OI) (I.hok.write mu he k OI new)
theorem Inv.agk {pins':List (Addr×Obj)}(I:Inv X pins σ H s)(h:∀p∈pins',s.heap.get? p.1=some p.2/\H p.1=none/\p.1≠X.env.locals/\p.1∉X.fs/\∀v,p.2.data≠.cell v):Inv X pins' σ H s :=
 ⟨I.ok,I.os,I.bare,I.base,I.loc,I.cell,I.free,I.aga,λp hp=>(HB.mp hp).elim (λz=>I.pin p (mi _ z)) (h p),I.hok,I.len⟩
theorem mx (hN:N.Nodup){j:Nat}(a:N[i]?=some x)(b:N[j]?=some x):i=j:=by
 obtain⟨h1,e1⟩:=Im.mp a;obtain⟨h2,e2⟩:=Im.mp b;exact(List.getElem_inj hN).mp (e1.trans e2.symm)
theorem oj {E:zQ}{v:V}{Q:Unit->Shared->Prop}(I:Inv X pins σ H s)(hN:X.N.Nodup)(hi:X.N[i]?=some x)(hx:G5 X.env.scope x)(r:aE v u)
 (h:∀s',Inv X pins (σ.set i (some v)) H s'->(∃a,Heap.SameBut a s.heap s'.heap/\(a=X.env.locals\/X.env.cells.lookup x=some a))->Q () s')(hf:X.fn x=true\/X.env.scope.names.lookup x=some .local:=by first|exact .inl rfl|exact .inr rfl|assumption):wpAny M A (storeName X.env x u) Q E s:=by
 obtain⟨m,hn,hl⟩:=id I.loc
 have UC:(X.env.scope.kind == .class || (X.env.scope.kind == .module&&X.env.locals != X.env.globals))=false:=by rw[I.ok.kind];rfl
 have Yu:i<σ.length:=by rw[I.len];exact(Im.mp hi).1
 have cne:=I.cne
 have tracked:∀{a:Addr}{h':Heap},(∃o,s.heap.get? a=some o/\H a=none)->Heap.SameBut a s.heap h'->fF X.prog X.w H h':=λ{a h'} ha hs b ob e=>by
  obtain⟨_,_,Jw⟩:=ha;refine(I.hok b ob e).agR (λc w' hc q=>(hs.2 c ?_).trans q) (λ_ q=>q) λ_ _ q=>q;rintro rfl
  rcases hc with rfl|hc
  ·rw[Jw] at e;cases e
  ·rw[Jw] at hc;cases hc
 rcases hx with hk|hk
 ·refine wpAny_storeName_local hk hn (λh' Mw hs=>?_) UC;obtain⟨oL,_,_,hoL,_⟩:=id hn;refine h _ ⟨I.ok,I.os,I.bare,⟨λb o e n hb hx=>?_,λb o e n hb hx=>?_,I.base.free,λb o e hx=>?_,I.base.agf,I.base.age,I.base.agp⟩,⟨_,Mw,λj y v' e1 e2 e3=>?_⟩,λy c e=>?_,I.free,I.aga,λp hp=>?_,tracked ⟨oL,hoL,I.free⟩ hs,by simpa using I.len⟩ ⟨_,hs,.inl rfl⟩
  ·exact(hs.2 b (Ho (HG (EL e) I.ok.above))).trans (I.base.keep b o e n hb hx)
  ·obtain⟨sl,e1⟩:=I.base.slot b o e n hb hx;exact⟨sl,(hs.2 b (Ho (HG (EL e) I.ok.above))).trans e1⟩
  ·obtain⟨o',e1⟩:=I.base.there b o e hx;exact⟨o',(hs.2 b (Ho (HG (EL e) I.ok.above))).trans e1⟩
  ·by_cases hj:j=i
   ·subst hj;rw[hi] at e1;cases e1;rw[Cf Yu] at e2
    cases e2
    exact⟨u,r,.inl ⟨hk,by simp⟩⟩
   ·rw[yy (Hw hj)] at e2;obtain⟨u',r',q⟩:=hl j y v' e1 e2 e3;refine⟨u',r',?_⟩
    rcases q with⟨k,e⟩|⟨k,c,e,z⟩
    ·refine .inl ⟨k,?_⟩;have:y≠x:=λe=>hj (mx hN e1 (e▸hi));simp[this,e]
    ·exact .inr ⟨k,c,e,z.sameBut hs (cne y c e)⟩
  ·obtain⟨w',z⟩:=I.cell y c e;exact⟨w',z.sameBut hs (cne y c e)⟩
  ·obtain⟨e,n,ne,nf,d⟩:=I.pin p hp;exact⟨(hs.2 p.1 ne).trans e,n,ne,nf,d⟩
 ·have UD:X.fn x=true:=by
   rcases hf with z|z
   ·exact z
   ·rw[z] at hk;cases hk
  obtain⟨c,hc⟩:=I.ok.has x (.inl hk);obtain⟨w',z⟩:=I.cell x c hc;refine wpAny_storeName_cell I.ok.kind hk hc z (λh' Jh hs=>?_);obtain⟨oc,JF,UE⟩:=id z;refine h {s with heap:=h'} ⟨I.ok,I.os,I.bare,⟨λb o e n hb hx=>?_,λb o e n hb hx=>?_,I.base.free,λb o e hx=>?_,I.base.agf,I.base.age,I.base.agp⟩,⟨m,hn.sameBut hs (Hw (cne x c hc)),λj y v' e1 e2 e3=>?_⟩,λy c' e=>?_,I.free,I.aga,λp hp=>?_,tracked ⟨oc,JF,I.aga x c hc⟩ hs,by simpa using I.len⟩ ⟨c,hs,.inr hc⟩
  ·exact(hs.2 b (Ho (HG (EL e) (I.ok.cab x c UD hc)))).trans (I.base.keep b o e n hb hx)
  ·obtain⟨sl,e1⟩:=I.base.slot b o e n hb hx;exact⟨sl,(hs.2 b (Ho (HG (EL e) (I.ok.cab x c UD hc)))).trans e1⟩
  ·obtain⟨o',e1⟩:=I.base.there b o e hx;exact⟨o',(hs.2 b (Ho (HG (EL e) (I.ok.cab x c UD hc)))).trans e1⟩
  ·by_cases hj:j=i
   ·subst hj;rw[hi] at e1;cases e1;rw[Cf Yu] at e2
    cases e2
    exact⟨u,r,.inr ⟨.inl hk,c,hc,Jh⟩⟩
   ·rw[yy (Hw hj)] at e2;obtain⟨u',r',q⟩:=hl j y v' e1 e2 e3;refine⟨u',r',?_⟩
    rcases q with q|⟨k,c',e,z'⟩
    ·exact .inl q
    ·refine .inr ⟨k,c',e,z'.sameBut hs ?_⟩;rintro rfl;exact hj (mx hN e1 (I.ok.inj _ _ _ e hc▸hi))
  ·by_cases Tr:c'=c
   ·subst Tr;exact⟨_,Jh⟩
   ·obtain⟨w2,z2⟩:=I.cell y c' e;exact⟨w2,z2.sameBut hs Tr⟩
  ·obtain⟨e,n,ne,nf,d⟩:=I.pin p hp;refine⟨(hs.2 p.1 ?_).trans e,n,ne,nf,d⟩;intro q;rw[q,JF] at e;have q':oc=p.2:=Option.some.inj e;exact d w' (by rw[<-q'];exact UE)
theorem gB {M:Model}{E:zQ}{v:V}{Q:Unit->Shared->Prop}(I:Inv X pins σ H s)(hN:X.N.Nodup)(hi:X.N[i]?=some x)(hx:G5 X.env.scope x)(r:aE v u)
 (h:∀s',Inv X pins (σ.set i (some v)) H s'->Q () s')(hf:X.fn x=true\/X.env.scope.names.lookup x=some .local:=by first|exact .inl rfl|exact .inr rfl|assumption):wpAny M A (storeName X.env x u) Q E s :=
 oj I hN hi hx r (λs' I' _=>h s' I') hf
theorem Inv.ahY {s':qm}{ch:List Addr}(I:Inv X pins σ H s)(ho:s'.os=s.os)(u:Un (dJ X.stack) ch H H' s.heap s'.heap)(hok:fF X.prog X.w H' s'.heap)(hg:AllBare s'.gens)
 (LH:∀b∈ch,(b∈X.ex\/X.s₀.heap.objs.size<=b)/\b≠X.env.locals/\(∀x c,X.env.cells.lookup x=some c->c≠b)/\∀p∈X.pn++pins,p.1≠b):Inv X pins σ H' s':=by
 obtain⟨h',g',d',t',o'⟩:=s';have e:o'=s.os:=ho;subst e;exact I.call (g':=g') (t':=t') (d':=d') u hok hg LH
end
noncomputable abbrev XK:=Value->Option Addr->Hp->Prop
noncomputable abbrev St:=List (Option V)
noncomputable abbrev VK:=V->Hp->Prop
noncomputable abbrev TE:=St->Hp->VK->Prop
noncomputable abbrev TT:=St->Hp->(Bool->Hp->Prop)->Prop
noncomputable abbrev TA:=St->Hp->(List V->Hp->Prop)->Prop
structure Ends where
 nx:St->Hp->Prop
 rt:VK
 bk:St->Hp->Prop:=λ_ _=>False
 ct:St->Hp->Prop:=λ_ _=>False
noncomputable abbrev TS:=Ends->St->Hp->Prop
noncomputable def EP (X:Cx)(pins:List (Addr×Obj))(σ:St)(Q:VK)(u:Value)(s':qm):Prop:=∃v H',Inv X pins σ H' s'/\aE v u/\Q v H'
noncomputable def TP (X:Cx)(pins:List (Addr×Obj))(σ:St)(Q:Bool->Hp->Prop)(b:Bool)(s':qm):Prop:=∃H',Inv X pins σ H' s'/\Q b H'
noncomputable def AP (X:Cx)(pins:List (Addr×Obj))(σ:St)(Q:List V->Hp->Prop)(us:wW)(s':qm):Prop:=∃vs H',Inv X pins σ H' s'/\aN vs us/\Q vs H'
noncomputable def SP (X:Cx)(pins:List (Addr×Obj))(D:Ends)(f:Flow)(s':qm):Prop :=
 match f with
 | .next=>∃σ' H',Inv X pins σ' H' s'/\D.nx σ' H'
 | .brk=>∃σ' H',Inv X pins σ' H' s'/\D.bk σ' H'
 | .cont=>∃σ' H',Inv X pins σ' H' s'/\D.ct σ' H'
 | .ret u=>∃v σ' H',Inv X pins σ' H' s'/\aE v u/\D.rt v H'
noncomputable def PE (X:Cx)(e:Expr)(t:TE):Prop :=
 ∀(pins:List (Addr×Obj))(s:qm)(σ:St)(H:Hp)(Q:VK),Inv X pins σ H s->t σ H Q->wpAny (model X.prog X.w) X.A (eval e X.env) (EP X pins σ Q) X.xe s
noncomputable def PT (X:Cx)(e:Expr)(t:TT):Prop :=
 ∀(pins:List (Addr×Obj))(s:qm)(σ:St)(H:Hp)(Q:Bool->Hp->Prop),Inv X pins σ H s->t σ H Q->wpAny (model X.prog X.w) X.A (isTrue e X.env (eval e X.env)) (TP X pins σ Q) X.xe s
noncomputable def PW (X:Cx)(e:Expr)(t:TT):Prop :=
 ∀(dk:Sem Value)(pins:List (Addr×Obj))(s:qm)(σ:St)(H:Hp)(Q:Bool->Hp->Prop),Inv X pins σ H s->t σ H Q->wpAny (model X.prog X.w) X.A (isTrue e X.env dk) (TP X pins σ Q) X.xe s
variable {X:Cx}{e:Expr}
theorem PW.pt {t:TT}(h:PW X e t):PT X e t:=h _
noncomputable def PA (X:Cx)(es:Hy)(t:TA):Prop :=
 ∀(pos:Pos)(pins:List (Addr×Obj))(s:qm)(σ:St)(H:Hp)(Q:List V->Hp->Prop),Inv X pins σ H s->t σ H Q->wpAny (model X.prog X.w) X.A (spliced (backTo pos (starEach es X.env))) (AP X pins σ Q) X.xe s
noncomputable def PS (X:Cx)(st:Stmt)(t:TS):Prop :=
 ∀(pins:List (Addr×Obj))(s:qm)(σ:St)(H:Hp)(D:Ends),Inv X pins σ H s->t D σ H->wpAny (model X.prog X.w) X.A (exec st X.env) (SP X pins D) X.xe s
noncomputable def gW (X:Cx)(st:Ih)(t:TS):Prop :=
 ∀(pins:List (Addr×Obj))(s:qm)(σ:St)(H:Hp)(D:Ends),Inv X pins σ H s->t D σ H->wpAny (model X.prog X.w) X.A (execs st X.env) (SP X pins D) X.xe s
variable {s:qm}
theorem bO {α:Type}{t:Sem α}{Q Q':α->Shared->Prop}{E:zQ}(h:wpAny M A t Q E s)(hQ:∀a s,Q a s->Q' a s):wpAny M A t Q' E s:=qx h hQ λ_ _ x=>x
variable {pins:List (Addr×Obj)}{σ:St}{op:CmpOp}
section
variable {X:Cx}
noncomputable def gU (i:Nat):TE:=λσ H Q=>∃v,σ[i]?=some (some v)/\Q v H
noncomputable def tC (v:V):TE:=λ_ H Q=>Q v H
theorem aaK {pos:Pos}(hN:X.N[i]?=some x)(hv:Hh X.env.scope x)(hd:(x==("__debug__":Str))=false:=by decide)(JG:(x==("__classdict__":Str))=false:=by decide):PE X (.Name x pos) (gU i):=by
 intro pins s σ H Q I h;obtain⟨v,e,h⟩:=h;obtain⟨m,hn,hl⟩:=I.loc;obtain⟨u,r,l⟩:=hl i x v hN e hv;have fin:EP X pins σ Q u s:=⟨v,H,I,r,h⟩
 rcases l with⟨hk,hm⟩|⟨hk,c,hc,Js⟩
 ·exact wpAny_Name (wpAny_loadName_local I.ok.kind hk hn hm fin) hd
 ·rcases hk with hk|hk
  ·exact wpAny_Name (wpAny_loadName_cell I.ok.kind hk hc Js fin) hd
  ·exact wpAny_Name (wpAny_loadName_free I.ok.kind hk hc Js fin JG) hd
theorem aj {i j pos}:PE X (.Constant (.int i) j pos) (tC (.int i)):=λ_ _ _ H _ I h=>wpAny_Constant_int ⟨.int i,H,I.tok _,⟨_,rfl⟩,h⟩
theorem fh {b j pos}:PE X (.Constant (.bool b) j pos) (tC (.bl b)):=λ_ _ _ H _ I h=>Constant_bool ⟨.bl b,H,I,rfl,h⟩
theorem pI {j pos}:PE X (.Constant .none j pos) (tC .non):=λ_ _ _ H _ I h=>Constant_none ⟨.non,H,I,rfl,h⟩
theorem cN {x j pos}:PE X (.Constant (.str x) j pos) (tC (.str x)):=λ_ _ _ H _ I h=>Calls.Constant_str ⟨.str x,H,I.tok _,⟨_,rfl⟩,h⟩
noncomputable def Gl (X:Cx)(x:Str):Prop:=X.env.kindOf x=some .globalImplicit
theorem fZ {E:zQ}{pos:Pos}{Q:zQ}(I:Inv X pins σ H s)(hg:Gl X x)(hm:X.mg x=some u)(h:Q u s)
 (hd:(x==("__debug__":Str))=false:=by decide):wpAny (model X.prog X.w) X.A (eval (.Name x pos) X.env) Q E s :=
 Calls.Name_function_global I.ok.kind hg (Calls.loadGlobal_global (by rw[I.ok.glob];exact I.mod.glob.keeps I.bk) hm h) hd
theorem eK {E:zQ}{pos:Pos}{Q:zQ}(I:Inv X pins σ H s)(hg:Gl X x)(hm:X.mg x=none)(hv:bootBuiltins x=some u)(h:Q u s)
 (hn:x ≠ "__name__":=by decide)(hd:(x==("__debug__":Str))=false:=by decide):wpAny (model X.prog X.w) X.A (eval (.Name x pos) X.env) Q E s:=by
 obtain⟨mb,h1,h2⟩:=I.mod.blt;exact Calls.Name_function_global I.ok.kind hg (Calls.loadGlobal_builtin (by rw[I.ok.glob];exact I.mod.glob.keeps I.bk) hm (by rw[I.ok.blt];exact h1.keeps I.bk) ((h2 x hn).trans hv) h) hd
theorem cG {v:V}{pos:Pos}(hg:Gl X x)(hm:X.mg x=some u)(r:aE v u)(hd:(x==("__debug__":Str))=false:=by decide):PE X (.Name x pos) (tC v):=
 λ_ _ _ H _ I h=>fZ I hg hm ⟨v,H,I,r,h⟩ hd
theorem eX {v:V}{pos:Pos}(hg:Gl X x)(hm:X.mg x=none)(hv:bootBuiltins x=some u)(r:aE v u)(hn:x ≠ "__name__":=by decide)(hd:(x==("__debug__":Str))=false:=by decide):PE X (.Name x pos) (tC v):=
 λ_ _ _ H _ I h=>eK I hg hm hv ⟨v,H,I,r,h⟩ hn hd
variable {a b:Expr}{ta tb:TE}{pos:Pos}
noncomputable def PC (X:Cx)(op:CmpOp)(a b:Expr)(t:TE):Prop :=
 ∀(pins:List (Addr×Obj))(s:qm)(σ:St)(H:Hp)(Q:VK),Inv X pins σ H s->t σ H Q →
  wpAny (model X.prog X.w) X.A (eval a X.env) (λv s₁=>wpAny (model X.prog X.w) X.A (eval b X.env) (λu s₂=>wpAny (model X.prog X.w) X.A (compareOp op v u) (EP X pins σ Q) X.xe s₂) X.xe s₁) X.xe s
theorem aaH (b:Expr)(h:op ≠ .In)(h2:op ≠ .NotIn):behindInMarks op b=false:=by
 have e1:(op==CmpOp.In)=false:=by cases op <;> first|rfl|exact absurd rfl h
 have e2:(op==CmpOp.NotIn)=false:=by cases op <;> first|rfl|exact absurd rfl h2
 cases b <;> simp[behindInMarks,e1,e2]
noncomputable def afv (ta:TE):TE:=λσ H Q=>ta σ H λx H1=>Q (.bl (decide (x=.non))) H1
theorem aE.ait {x:V}{v:Value}(r:aE x v):(v==Value.none)=decide (x=.non):=by
 cases x with
 |non=>cases r;rfl
 |bl _=>cases r;rfl
 |int _=>obtain⟨t,rfl⟩:=r;rfl
 |str _=>obtain⟨t,rfl⟩:=r;rfl
 |byt _=>obtain⟨t,rfl⟩:=r;rfl
 |flt _=>obtain⟨t,rfl⟩:=r;rfl
 |ref _=>cases r;rfl
 |ty _=>cases r;rfl
theorem Fun {j pos'}(ha:PE X a ta):PC X .Is a (.Constant .none j pos') (afv ta):=by
 intro pins s σ H Q I h;refine bO (ha pins s σ H _ I h) λv s1 z'=>?_;obtain⟨x,H1,I1,r1,q1⟩:=z';exact Constant_none (is_none_gen ⟨.bl _,H1,I1,by rw[r1.ait];rfl,q1⟩)
noncomputable def tB (t:TE):TT:=λσ H Q=>t σ H λx H1=>∃c,x=.bl c/\Q c H1
theorem uH {t:TE}(h:PC X op a b t)(h1:behindInMarks op b=false:=by first|exact aaH _ (by decide) (by decide)|rfl):PT X (.Compare a [op] [b] pos) (tB t):=by
 intro pins s σ H Q I hw;refine wpAny_isTrue_Compare1 (bO (h pins s σ H _ I hw) λv s1 h1=>bO h1 λu s2 h2=>bO h2 λc s3 z'=>?_) h1;obtain⟨x,H1,I1,r1,q1⟩:=z';obtain⟨d,rfl,q⟩:=q1
 cases r1
 exact pP ⟨H1,I1,q⟩
theorem cI {t:TE}(h:PE X e t)(he:∀dk,isTrue e X.env dk=(do let v <-dk;standAt e.pos;holding [v] (truthy v)):=by intro _;rfl):PT X e (tB t):=by
 intro pins s σ H Q I hw;refine isTrue_plain (bO (h pins s σ H _ I hw) λv s1 z'=>?_) (he _);obtain⟨x,H1,I1,r1,q1⟩:=z';obtain⟨d,rfl,q⟩:=q1
 cases r1
 exact pP ⟨H1,I1,q⟩
variable {tA Ts:TT}{rest:Hy}
noncomputable def aa3 (t u:TT):TT:=λσ H Q=>t σ H λc H1=>if c=true then u σ H1 Q else Q false H1
noncomputable def af5 (t u:TT):TT:=λσ H Q=>t σ H λc H1=>if c=true then Q true H1 else u σ H1 Q
noncomputable def aaG (t:TT):TT:=λσ H Q=>t σ H λc H1=>Q (!c) H1
theorem vJ (ha:PT X a tA):PW X (.BoolOp .And [a] pos) tA:=by
 intro wh pins s σ H Q I h;refine isTrue_and (bO (ha pins s σ H Q I h) λc s1 e=>?_)
 cases c with
 |true=>exact isTrue_and_nil e
 |false=>exact e
theorem fV (ha:PT X a tA):PW X (.BoolOp .Or [a] pos) tA:=by
 intro wh pins s σ H Q I h;refine isTrue_or (bO (ha pins s σ H Q I h) λc s1 e=>?_)
 cases c with
 |false=>exact isTrue_or_nil e
 |true=>exact e
theorem y3 (ha:PT X a tA)(hb:PW X (.BoolOp .And (b::rest) pos) Ts):PW X (.BoolOp .And (a::b::rest) pos) (aa3 tA Ts):=by
 intro wh pins s σ H Q I h;refine isTrue_and (bO (ha pins s σ H _ I h) λc s1 z'=>?_);obtain⟨H1,I1,q1⟩:=z'
 cases c with
 |true=>exact hb wh pins s1 σ H1 Q I1 q1
 |false=>exact⟨H1,I1,q1⟩
theorem iY (ha:PT X a tA)(hb:PW X (.BoolOp .Or (b::rest) pos) Ts):PW X (.BoolOp .Or (a::b::rest) pos) (af5 tA Ts):=by
 intro wh pins s σ H Q I h;refine isTrue_or (bO (ha pins s σ H _ I h) λc s1 z'=>?_);obtain⟨H1,I1,q1⟩:=z'
 cases c with
 |true=>exact⟨H1,I1,q1⟩
 |false=>exact hb wh pins s1 σ H1 Q I1 q1
theorem cy (ha:PT X a tA):PT X (.UnaryOp .Not a pos) (aaG tA):=by
 intro pins s σ H Q I h;exact isTrue_not (ha pins s σ H (λc H1=>Q (!c) H1) I h)
noncomputable def aaS (ta tb:TE):TE:=λσ H Q=>ta σ H λx H1=>∃c,x=.bl c/\if c=true then tb σ H1 Q else Q (.bl false) H1
noncomputable def aaR (ta:TE):TE:=λσ H Q=>ta σ H λx H1=>∃c,x=.bl c/\Q (.bl (!c)) H1
theorem gJ {op}{t:TE}(h:PE X a t):PE X (.BoolOp op [a] pos) t:=λpins s σ H Q I hw=>BoolOp_one (h pins s σ H Q I hw)
theorem eI (ha:PE X a ta)(hb:PE X (.BoolOp .And (b::rest) pos) tb):PE X (.BoolOp .And (a::b::rest) pos) (aaS ta tb):=by
 intro pins s σ H Q I h;refine BoolOp_and (bO (ha pins s σ H _ I h) λv s1 z'=>?_);obtain⟨x,H1,I1,r1,q1⟩:=z';obtain⟨c,rfl,q1⟩:=q1
 cases r1
 refine pP ?_
 cases c with
 |true=>exact hb pins s1 σ H1 Q I1 q1
 |false=>exact⟨.bl false,H1,I1,rfl,q1⟩
theorem afY (ha:PE X a ta):PE X (.UnaryOp .Not a pos) (aaR ta):=by
 intro pins s σ H Q I h;refine UnaryOp_ (bO (ha pins s σ H _ I h) λv s1 z'=>?_);obtain⟨x,H1,I1,r1,q1⟩:=z';obtain⟨c,rfl,q1⟩:=q1
 cases r1
 exact not_of (pP ⟨.bl (!c),H1,I1,rfl,q1⟩)
end
noncomputable def aW (K:PySem.W.Frag)(H:Hp)(a:Addr)(xs:List V):Prop :=
 Rd H a (.lst xs) \/
  ∃(o:Obj)(its:IU)(n:Nat),K.lookup a=some o/\o.cls=.type "list"/\o.dict=none/\o.data=.seq its n/\its.size<=sizeLine/\aN xs its.toList
noncomputable def a7 (K:PySem.W.Frag)(H:Hp)(a:Addr)(xs:List V):Prop :=
 Rd H a (.tup xs) \/
  ∃(o:Obj)(its:IU)(n:Nat),K.lookup a=some o/\o.cls=.type "tuple"/\o.data=.seq its n/\its.size<=sizeLine/\aN xs its.toList
noncomputable def aaL:Value->Option V
 | .none=>some .non
 | .bool b=>some (.bl b)
 | .int i _=>some (.int i)
 | .str x _=>some (.str x)
 | .bytes b _=>some (.byt b)
 | .float b _=>some (.flt b)
 | .ref a=>some (.ref a)
 | .type n=>some (.ty n)
 |_=>none
theorem aE.abs {x:V}(r:aE x u):aaL u=some x:=by
 cases x with
 |non=>cases r;rfl
 |bl _=>cases r;rfl
 |int _=>obtain⟨t,rfl⟩:=r;rfl
 |str _=>obtain⟨t,rfl⟩:=r;rfl
 |byt _=>obtain⟨t,rfl⟩:=r;rfl
 |flt _=>obtain⟨t,rfl⟩:=r;rfl
 |ref _=>cases r;rfl
 |ty _=>cases r;rfl
variable {y:V}
theorem aE.inj {x:V}(r:aE x u)(q:aE y u):x=y:=Option.some.inj (r.abs.symm.trans q.abs)
theorem aN.inj:∀{xs ys:List V}{us:wW},aN xs us->aN ys us->xs=ys
 |_,_,_,.nil,.nil=>rfl
 |_,_,_,.cons r t,.cons r' t'=>by rw[r.inj r',aN.inj t t']
variable {K:PySem.W.Frag}
section
variable {X:Cx}{pins:List (Addr×Obj)}{σ:St}{H:Hp}{s:qm}{a:Addr}{xs ys:List V}
theorem aW.of (h:H a=some (.lst xs)):aW K H a xs:=.inl (.inl h)
theorem a7.of (h:H a=some (.tup xs)):a7 K H a xs:=.inl (.inl h)
theorem Inv.list (I:Inv X pins σ H s)(h:aW X.K H a xs):∃its:List Value,aN xs its/\PlainL s.heap a its.toArray/\xs.length<=sizeLine:=by
 rcases h with h|⟨o,its,n,hk,hc,hd,hs,hz,r⟩
 ·obtain⟨z,its,n,r,e⟩:=h.ok I.hok;exact⟨its,r,⟨_,n,e,rfl,rfl,rfl⟩,z⟩
 ·refine⟨its.toList,r,⟨o,n,I.kIn a o hk,hc,hd,by simpa using hs⟩,?_⟩;have e:=r.length;simp only[Ht] at e;omega
theorem Inv.tuple (I:Inv X pins σ H s)(h:a7 X.K H a xs):∃its:List Value,aN xs its/\IsTup s.heap a its.toArray/\xs.length<=sizeLine:=by
 rcases h with h|⟨o,its,n,hk,hc,hs,hz,r⟩
 ·obtain⟨z,its,r,p⟩:=h.ok I.hok;exact⟨its,r,p,z⟩
 ·refine⟨its.toList,r,⟨o,I.kIn a o hk,hc,n,by simpa using hs⟩,?_⟩;have e:=r.length;simp only[Ht] at e;omega
theorem Inv.ag0 (I:Inv X pins σ H s)(h:aW X.K H a xs)(h':aW X.K H a ys):xs=ys:=by
 obtain⟨its,r,⟨o,n,e,_,_,d⟩,_⟩:=I.list h;obtain⟨its',r',⟨o',n',e',_,_,d'⟩,_⟩:=I.list h';rw[e] at e';cases e';rw[d] at d'
 injection d' with d1 _
 have:its=its':=by simpa using DT Array.toList d1
 subst this;exact r.inj r'
theorem Inv.agt (I:Inv X pins σ H s)(h:a7 X.K H a xs)(h':a7 X.K H a ys):xs=ys:=by
 obtain⟨its,r,⟨o,e,_,n,d⟩,_⟩:=I.tuple h;obtain⟨its',r',⟨o',e',_,n',d'⟩,_⟩:=I.tuple h';rw[e] at e';cases e';rw[d] at d'
 injection d' with d1 _
 have:its=its':=by simpa using DT Array.toList d1
 subst this;exact r.inj r'
end
noncomputable abbrev Cx.ahd (X:Cx)(E:zQ):Cx:={X with xe:=E}
noncomputable abbrev Cx.nox (X:Cx):Cx:=X.ahd λ_ _=>False
theorem Cx.Ok.ahd (ok:X.Ok)(E:zQ):(X.ahd E).Ok :=
 ⟨ok.mod,ok.kind,ok.glob,ok.blt,ok.above,ok.inj,ok.has,ok.cab,ok.hd,ok.frames,ok.stk,ok.exf,ok.bs,ok.bsz,ok.ahr,ok.ahN,ok.agq,ok.frf⟩
theorem Cx.Ok.agz {E:zQ}(ok:(X.ahd E).Ok):X.Ok :=
 ⟨ok.mod,ok.kind,ok.glob,ok.blt,ok.above,ok.inj,ok.has,ok.cab,ok.hd,ok.frames,ok.stk,ok.exf,ok.bs,ok.bsz,ok.ahr,ok.ahN,ok.agq,ok.frf⟩
section
variable {X:Cx}{pins:List (Addr×Obj)}{σ:St}{H:Hp}{s:qm}{E:zQ}
theorem Inv.ahd (I:Inv X pins σ H s)(E:zQ):Inv (X.ahd E) pins σ H s:=⟨I.ok.ahd E,I.os,I.bare,I.base,I.loc,I.cell,I.free,I.aga,I.pin,I.hok,I.len⟩
theorem Inv.agz (I:Inv (X.ahd E) pins σ H s):Inv X pins σ H s:=⟨I.ok.agz,I.os,I.bare,I.base,I.loc,I.cell,I.free,I.aga,I.pin,I.hok,I.len⟩
theorem SP.agz {D:Ends}{f:Flow}{s':qm}(h:SP (X.ahd E) pins D f s'):SP X pins D f s':=by
 cases f with
 |next=>obtain⟨σ',H',I,q⟩:=h;exact⟨σ',H',I.agz,q⟩
 |brk=>obtain⟨σ',H',I,q⟩:=h;exact⟨σ',H',I.agz,q⟩
 |cont=>obtain⟨σ',H',I,q⟩:=h;exact⟨σ',H',I.agz,q⟩
 |ret u=>obtain⟨v,σ',H',I,r,q⟩:=h;exact⟨v,σ',H',I.agz,r,q⟩
theorem gW.nox {st:Ih}{t:TS}(h:gW X.nox st t):gW X st t:=λpins s σ H D I hw =>
 qx (h pins s σ H D (I.ahd _) hw) (λ_ _ q=>q.agz) λ_ _ z=>False.elim z
end
section
variable {X:Cx}{st:Stmt}{rest:Ih}{t u:TS}{e:Expr}{te:TE}{pos:Pos}
noncomputable def Ep:TS:=λD σ H=>D.nx σ H
noncomputable def ER (t u:TS):TS:=λD σ H=>t {D with nx:=u D} σ H
theorem aH:gW X [] Ep:=λ_ _ σ H _ I h=>xk ⟨σ,H,I,h⟩
theorem ai (h1:PS X st t)(h2:gW X rest u):gW X (st::rest) (ER t u):=by
 intro pins s σ H D I h;refine wpAny_execs_cons (bO (h1 pins s σ H {D with nx:=u D} I h) λf s1 q=>?_)
 cases f with
 |next =>
  obtain⟨σ',H',I',q⟩:=q;exact h2 pins s1 σ' H' D I' q
 |ret v=>exact q
 |brk=>exact q
 |cont=>exact q
theorem av (h1:PS X st t):gW X [st] t:=by
 intro pins s σ H D I h;refine wpAny_execs_cons (bO (h1 pins s σ H D I h) λf s1 q=>?_)
 cases f with
 |next=>exact xk q
 |ret v=>exact q
 |brk=>exact q
 |cont=>exact q
theorem Inv.quiet (I:Inv X pins σ H s):interactive X.env=false:=by simp[interactive,I.ok.kind]
noncomputable def aaP (te:TE):TS:=λD σ H=>te σ H λ_ H1=>D.nx σ H1
theorem jV (he:PE X e te)(hs:swapsWith e none pos.line X.env=pure false:=by rfl):PS X (.Expr e pos) (aaP te):=by
 intro pins s σ H D I h;exact wpAny_Expr_any (bO (he pins s σ H _ I h) λv s1 ⟨x,H1,I1,r1,q1⟩=>⟨σ,H1,I1,q1⟩) I.quiet hs
noncomputable def aaM (te:TE):TS:=λD σ H=>te σ H D.rt
theorem aB (he:PE X e te):PS X (.Return (some e) pos) (aaM te):=by
 intro pins s σ H D I h;exact wpAny_Return_some (bO (he pins s σ H _ I h) λv s1 ⟨x,H1,I1,r1,q1⟩=>⟨x,σ,H1,I1,r1,q1⟩)
noncomputable def DM (c:TT)(t u:TS):TS:=λD σ H=>c σ H λb H1=>if b=true then t D σ H1 else u D σ H1
theorem bf {c:Expr}{a b:Ih}{tc:TT}(hc:PT X c tc)(ha:gW X a t)(hb:gW X b u):PS X (.If c a b pos) (DM tc t u):=by
 intro pins s σ H D I h;refine wpAny_If (bO (hc pins s σ H _ I h) λd s1 z'=>?_);obtain⟨H1,I1,q1⟩:=z'
 cases d with
 |true=>exact ha pins s1 σ H1 D I1 q1
 |false=>exact hb pins s1 σ H1 D I1 q1
noncomputable def Cp:TS:=λ_ _ _=>False
theorem qR:PS X st Cp:=λ_ _ _ _ _ _ h=>h.elim
theorem aaQ {sts:Ih}:gW X sts Cp:=λ_ _ _ _ _ _ h=>h.elim
end
noncomputable abbrev TG:=V->St->Hp->(St->Hp->Prop)->Prop
noncomputable abbrev xW:=List V->St->Hp->(St->Hp->Prop)->Prop
noncomputable def PG (X:Cx)(target:Expr)(t:TG):Prop :=
 ∀(pins:List (Addr×Obj))(s:qm)(σ:St)(H:Hp)(v:V)(u:Value)(Q:St->Hp->Prop),Inv X pins σ H s->aE v u->t v σ H Q →
  wpAny (model X.prog X.w) X.A (assign target X.env u) (λ_ s'=>∃σ' H',Inv X pins σ' H' s'/\Q σ' H') X.xe s
noncomputable def Hg (X:Cx)(ts:Hy)(t:xW):Prop :=
 ∀(pins:List (Addr×Obj))(s:qm)(σ:St)(H:Hp)(vs:List V)(us:wW)(Q:St->Hp->Prop),Inv X pins σ H s->aN vs us->t vs σ H Q →
  wpAny (model X.prog X.w) X.A (assignInOrder ((assignEach ts X.env).map (·.2)) us) (λ_ s'=>∃σ' H',Inv X pins σ' H' s'/\Q σ' H') X.xe s
noncomputable abbrev DS:=V->V->V->Hp->(Hp->Prop)->Prop
noncomputable def Gi (X:Cx)(t:DS):Prop :=
 ∀(pins:List (Addr×Obj))(s:qm)(σ:St)(H:Hp)(o i v:V)(ov iv u:Value)(Q:Hp->Prop),Inv X pins σ H s->aE o ov->aE i iv->aE v u->t o i v H Q →
  wpAny (model X.prog X.w) X.A (setItem ov iv u) (λ_ s'=>∃H',Inv X pins σ H' s'/\Q H') X.xe s
variable {g:TG}{body:Ih}{tb:TS}
section
variable {X:Cx}{pos:Pos}
noncomputable def bJ (i:Nat):TG:=λv σ H Q=>Q (σ.set i (some v)) H
theorem aC {i:Nat}(hN:X.N.Nodup)(hi:X.N[i]?=some x)(hx:G5 X.env.scope x)(hf:X.fn x=true\/X.env.scope.names.lookup x=some .local:=by first|exact .inl rfl|exact .inr rfl|assumption):PG X (.Name x pos) (bJ i):=by
 intro pins s σ H v u Q I r h;exact wpAny_assign_Name (gB I hN hi hx r (λs' I'=>⟨_,H,I',h⟩) hf)
noncomputable def EE:xW:=λvs σ H Q=>vs=[]/\Q σ H
noncomputable def cp (t:TG)(u:xW):xW:=λvs σ H Q=>∃v r,vs=v::r/\t v σ H λσ' H'=>u r σ' H' Q
theorem cj:Hg X [] EE:=by
 intro pins s σ H vs us Q I r h;obtain⟨e,h⟩:=h;subst e
 cases r
 exact assignInOrder_nil ⟨σ,H,I,h⟩
theorem aG {es:Hy}{t:TG}{u:xW}(h1:PG X e t)(h2:Hg X es u)
 (hs:(assignEach (e::es) X.env).map (·.2)=assign e X.env::(assignEach es X.env).map (·.2):=by rfl):Hg X (e::es) (cp t u):=by
 intro pins s σ H vs us Q I r h;obtain⟨v,vr,e1,h⟩:=h;subst e1
 cases r with
 |cons r rr =>
  rw[hs];refine assignInOrder_cons (bO (h1 pins s σ H _ _ _ I r h) λ_ s1 z'=>?_);obtain⟨σ1,H1,I1,q1⟩:=z';exact h2 pins s1 σ1 H1 _ _ Q I1 rr q1
noncomputable def jm (K:PySem.W.Frag)(n:Nat)(t:xW):TG:=λv σ H Q=>∃a xs,v=.ref a/\a7 K H a xs/\xs.length=n/\t xs σ H Q
theorem cC {es:Hy}{k:Nat}{t:xW}{n:Nat}(hc:X.calm=true)(h:Hg X es t)
 (hn:(assignEach es X.env).length=n:=by rfl)(LI:(assignEach es X.env).findIdx? (·.1)=none:=by rfl):PG X (.Tuple es k pos) (jm X.K n t):=by
 intro pins s σ H v u Q I r hw;obtain⟨a,xs,e1,hq,hl,hw⟩:=hw;subst e1
 cases r
 obtain⟨its,rv,ht,hz⟩:=I.tuple hq;refine assign_Tuple_tuple (I.ok.hd hc) ht (by simp[hn,<-hl,rv.length]) LI λh' hx=>?_;have I1:Inv X pins σ H {s with heap:=h'}:=I.kept (t':=s.toks) λb o e=>hx b o (Ho (EL e)) e;exact h pins _ σ H xs _ Q I1 (by simpa using rv) hw
noncomputable def aaW (to ti:TE)(t:DS):TG:=λv σ H Q=>to σ H λo H1=>ti σ H1 λi H2=>t o i v H2 λH3=>Q σ H3
theorem uA {o i:Expr}{to ti:TE}{t:DS}(ho:PE X o to)(hi:PE X i ti)(hs:Gi X t)
 (ha:∀v,assign (.Subscript o i pos) X.env v=(do
  let ov <-holding [v] (eval o X.env)
  let iv <-holding [v,ov] (eval i X.env)
  standAt pos
  holding [v,ov,iv] (setItem ov iv v)
  release [v,ov,iv] []):=by intro _;rfl):PG X (.Subscript o i pos) (aaW to ti t):=by
 intro pins s σ H v u Q I r h;rw[ha];refine IM (CN (bO (ho pins s σ H _ I h) λov s1 z'=>?_));obtain⟨x,H1,I1,r1,q1⟩:=z';refine IM (CN (bO (hi pins s1 σ H1 _ I1 q1) λiv s2 z'=>?_));obtain⟨y,H2,I2,r2,q2⟩:=z';refine IM (Ex (IM (CN (bO (hs pins s2 σ H2 x y v ov iv u _ I2 r1 r2 r q2) λ_ s3 z'=>?_))));obtain⟨H3,I3,q3⟩:=z';exact wpAny_release ⟨σ,H3,I3,q3⟩
noncomputable def yY (te:TE)(g:TG):TS:=λD σ H=>te σ H λx H1=>g x σ H1 D.nx
theorem pJ {tg:Expr}{te:TE}(he:PE X e te)(hg:PG X tg g)(hs:swapsWithSole [tg] e pos.line X.env=pure false:=by rfl)(hw:swappedStores [tg] e X.env=pure none:=by rfl)
 (h1:(assignEach [tg] X.env).map (·.2)=[assign tg X.env]:=by rfl):PS X (.Assign [tg] e pos) (yY te g):=by
 intro pins s σ H D I h;refine wpAny_Assign_stores (bO (he pins s σ H _ I h) λv s1 z'=>?_) hs hw;obtain⟨x,H1,I1,r1,q1⟩:=z';rw[h1];exact bO (hg pins s1 σ H1 x v _ I1 r1 q1) λ_ s2 q=>q
theorem aM {i:Nat}{x:Str}{e:Expr}{te:TE}{pos':Pos}(hN:X.N.Nodup)(hi:X.N[i]?=some x)(hx:G5 X.env.scope x)(he:PE X e te)(hs:swapsWith e (some (.Name x pos')) pos.line X.env=pure false:=by rfl)(hf:X.fn x=true\/X.env.scope.names.lookup x=some .local:=by first|exact .inl rfl|exact .inr rfl|assumption):
 PS X (.Assign [.Name x pos'] e pos) (yY te (bJ i)):=by
 intro pins s σ H D I h;refine wpAny_Assign_Name (bO (he pins s σ H _ I h) λv s1 z'=>?_) hs;obtain⟨y,H1,I1,r1,q1⟩:=z';exact gB I1 hN hi hx r1 (λs2 I2=>⟨_,H1,I2,q1⟩) hf
noncomputable def af8 (i j:Nat)(ta:TA):TS:=λD σ H=>ta σ H λvs H1=>∃v w,vs=[v,w]/\D.nx ((σ.set i (some v)).set j (some w)) H1
theorem je {i j:Nat}{y:Str}{a b:Expr}{ta:TA}{px py pt:Pos} {kt k2 UG}(hc:X.calm=true)(hN:X.N.Nodup)(hi:X.N[i]?=some x)(hj:X.N[j]?=some y)(Kn:i≠j)
 (hx:X.env.scope.names.lookup x=some .local)(hy:X.env.scope.names.lookup y=some .local)(ha:PA X [a,b] ta)
 (hw:swappedStores [.Tuple [.Name x px,.Name y py] kt pt] (.Tuple [a,b] k2 UG) X.env=pure (some [x,y]))
 (hs:swapsWithSole [.Tuple [.Name x px,.Name y py] kt pt] (.Tuple [a,b] k2 UG) pos.line X.env=pure false:=by rfl):
 PS X (.Assign [.Tuple [.Name x px,.Name y py] kt pt] (.Tuple [a,b] k2 UG) pos) (af8 i j ta):=by
 intro pins s σ H D I h;rw[exec_Assign_arm];refine IM (Ex ?_);rw[hs];refine IM (IV ?_);rw[DW (by decide)];refine IM (Tuple_ (bO (ha _ pins s σ H _ I h) λus s1 z'=>?_));obtain⟨vs,H1,I1,r1,q1⟩:=z';obtain⟨v,w,e1,q1⟩:=q1;subst e1
 obtain⟨u1,u2,rfl,rv,JM⟩:∃u1 u2,us=[u1,u2]/\aE v u1/\aE w u2:=by
  cases r1 with
  |cons p q =>
   cases q with
   |cons p' q' =>
    cases q'
    exact⟨_,_,rfl,p,p'⟩
 refine IP ?_ jP;have I2:Inv X pins σ H1 {s1 with heap:=s1.heap.push {cls:=.type "tuple",data:=.seq [u1,u2].toArray} }:=I1.kept (t':=s1.toks) λb o e=>xQ _ e;rw[hw];refine IM (IV ?_);show wpAny (model X.prog X.w) X.A (do rule "assign.swapped-stores";let items <-unpackItems (.ref s1.heap.objs.size) 2 none;assignInOrder [λv=>bindName X.env y v,λv=>bindName X.env x v] items.reverse;pure Flow.next) _ _ _;refine IM (B9 (IM (unpackItems_tuple (items:=#[u1,u2]) (I.ok.hd hc) (IsTup.new s1.heap _) λh' OJ=>?_)));have I3:=I2.kept (h':=h') (t':=s1.toks) λb o e=>OJ b o (Ho (EL e)) e;show wpAny _ _ (assignInOrder [λv=>bindName X.env y v,λv=>bindName X.env x v] [u2,u1]>>=λ_=>pure Flow.next) _ _ _;refine IM (assignInOrder_cons (wpAny_bindName (gB I3 hN hj (.inl hy) JM (λs2 I4=>?_) (.inr hy))));refine assignInOrder_cons (wpAny_bindName (gB I4 hN hi (.inl hx) rv (λs3 I5=>assignInOrder_nil (IV ?_)) (.inr hx)));rw[List.set_comm _ _ (Hw Kn)] at I5;exact⟨_,H1,I5,q1⟩
noncomputable def aba (c:TT)(tb:TS):TS:=λD σ H=>∃W:Nat->St->Hp->Prop,(∃m,W m σ H)/\∀m σ H,W m σ H →
 c σ H λb H1=>if b=true then ∃N:St->Hp->Prop,(∀σ' H',N σ' H'->∃m',m'<m/\W m' σ' H')/\tb {D with nx:=N,ct:=N,bk:=D.nx} σ H1 else D.nx σ H1
theorem lR {c:Expr}{tc:TT}(hp:PassesOwn (model X.prog X.w) X.A X.env X.xe)(hc:PT X c tc)(hb:gW X body tb):PS X (.While c body [] pos) (aba tc tb):=by
 intro pins s σ H D I h;obtain⟨W,⟨m0,w0⟩,turn⟩:=h;refine wpAny_While (codeAny_whileLoop (λn s'=>∃σ' H',Inv X pins σ' H' s'/\W n σ' H') ?_ m0 ⟨σ,H,I,w0⟩);rintro n s1 ⟨σ1,H1,I1,w1⟩;refine Io hp (bO (hc pins s1 σ1 H1 _ I1 (turn n σ1 H1 w1)) λb s2 z'=>?_);obtain⟨H2,I2,q2⟩:=z'
 cases b with
 |true =>
  obtain⟨N,hN,q2⟩:=q2;rw[oO rfl];refine Io hp (bO (hb pins s2 σ1 H2 _ I2 q2) λf s3 q3=>?_)
  cases f with
  |next =>
   obtain⟨σ3,H3,I3,n3⟩:=q3;obtain⟨m',hm,w3⟩:=hN σ3 H3 n3;exact⟨m',hm,σ3,H3,I3,w3⟩
  |cont =>
   obtain⟨σ3,H3,I3,n3⟩:=q3;obtain⟨m',hm,w3⟩:=hN σ3 H3 n3;exact⟨m',hm,σ3,H3,I3,w3⟩
  |brk=>exact q3
  |ret v=>exact q3
 |false =>
  rw[DW FO];exact xk ⟨σ1,H2,I2,q2⟩
end
structure It where
 go:Nat->Hp->Prop
 yld:Nat->Hp->V->Hp->Prop
 stop:Nat->Hp->Prop
noncomputable def cK (X:Cx)(pins:List (Addr×Obj))(H:Hp)(b:Addr):Prop :=
 H b=none/\b≠X.env.locals/\b∉X.fs/\(b∈X.ex\/X.s₀.heap.objs.size<=b)/\(∀x c,X.env.cells.lookup x=some c->c≠b)/\∀p∈X.pn++pins,p.1≠b
variable {H':Hp}
theorem Inv.agS (I:Inv X pins σ H s)(hb:s.heap.objs.size<=b)(hn:H' b=none):cK X pins H' b:=by
 refine⟨hn,EB (HG I.lt hb),I.ajC hb,.inr (GC I.sz hb),λx c e z=>?_,λp hp z=>?_⟩
 ·obtain⟨v,q⟩:=I.cell x c e;exact absurd (HG q.lt (by rw[z];exact hb)) (qo _)
 ·exact absurd (HG (EL (I.pin p hp).1) (by rw[z];exact hb)) (qo _)
structure Turn (P:A9)(w:World)(K:PySem.W.Frag)(tg:Expr)(J:It)(fp:List Addr)(it:Addr)(tn:Nat->Heap->Prop):Prop where
 mem:it∈fp
 obj:∀i h,tn i h->∀b∈fp,∃o,h.get? b=some o/\∀v,o.data≠.cell v
 keep:∀i h h',tn i h->(∀b∈fp,∀o,h.get? b=some o->h'.get? b=some o)->tn i h'
 item:∀(X:Cx),X.prog=P->X.w=w->X.K=K->X.calm=true->∀(i:Nat)(pins:List (Addr×Obj))(s:qm)(σ:St)(H:Hp)(E:zQ),Inv X pins σ H s->(∀b∈fp,cK X pins H b)->tn i s.heap->J.go i H →
  wpAny (model P w) X.A (pyNext (.ref it)) (λr s1=>∃u,r=some u /\
   wpAny (model P w) X.A (letOwnedTupleGo tg (.ref it) u) (λ_ s2=>∃x H',Inv X pins σ H' s2/\aE x u/\J.yld i H x H'/\tn (i+1) s2.heap/\∀b∈fp,H' b=none) E s1) E s
 done:∀(X:Cx),X.prog=P->X.w=w->X.K=K->X.calm=true->∀(i:Nat)(pins:List (Addr×Obj))(s:qm)(σ:St)(H:Hp)(E:zQ),Inv X pins σ H s->(∀b∈fp,cK X pins H b)->tn i s.heap->J.stop i H →
  wpAny (model P w) X.A (pyNext (.ref it)) (λr s1=>r=none/\Inv X pins σ H s1) E s
 self:∀(A:Around)(i:Nat)(s:qm)(Q:zQ)(E:zQ),tn i s.heap->Q (.ref it) s->wpAny (model P w) A (pyIter (.ref it)) Q E s
noncomputable abbrev TI:=St->Hp->(It->Hp->Prop)->Prop
noncomputable def IJ (X:Cx)(pins:List (Addr×Obj))(σ:St)(tg:Expr)(R:It->Hp->Prop)(OK:Value)(s2:qm):Prop :=
 ∃(it:Addr)(fp:List Addr)(tn:Nat->Heap->Prop)(J:It)(H':Hp),OK=.ref it/\Inv X pins σ H' s2/\Turn X.prog X.w X.K tg J fp it tn/\tn 0 s2.heap/\(∀b∈fp,cK X pins H' b)/\R J H'
noncomputable def PI (X:Cx)(tg iter:Expr)(wi:TI):Prop :=
 ∀(pins:List (Addr×Obj))(s:qm)(σ:St)(H:Hp)(R:It->Hp->Prop),Inv X pins σ H s->wi σ H R →
  wpAny (model X.prog X.w) X.A (eval iter X.env) (λv s1=>wpAny (model X.prog X.w) X.A (pyIter v) (IJ X pins σ tg R) X.xe s1) X.xe s
theorem vm {E:zQ}{s:qm}{tg:Expr}{it:Addr}{o:Obj}{n:String}{vs:IU}{Q:Unit->Shared->Prop}(ho:s.heap.get? it=some o)(hc:o.cls=.type n)(hd:o.data=.fields vs)
 (hn:["enumerate","zip","dict_itemiterator","dict_reverseitemiterator","odict_iterator","itertools.zip_longest","itertools.pairwise"].contains n=false)(hQ:Q () s):wpAny M A (letOwnedTupleGo tg (.ref it) u) Q E s:=by
 unfold letOwnedTupleGo
 cases tg <;> first
  |exact IV hQ
  |(cases u <;> first
   |exact IV hQ
   |(refine IM (wpAny_load ho ?_)
     rw[hc,hd];show wpAny M A (if(["enumerate","zip","dict_itemiterator","dict_reverseitemiterator","odict_iterator","itertools.zip_longest","itertools.pairwise"].contains n&&vs[0]?==some (rawInt _))=true then _ else _) Q E s;rw[DW (by intro h;rw[hn,Bx] at h;cases h)]
     exact IV hQ))
noncomputable def BQ (K:PySem.W.Frag)(a:Addr):It :=
 ⟨λi H=>∃xs x,aW K H a xs/\xs[i]?=some x,λi H x H'=>H'=H/\∀xs,aW K H a xs->xs[i]?=some x,λi H=>∃xs,aW K H a xs/\xs.length<=i⟩
noncomputable def F9 (K:PySem.W.Frag)(a:Addr):It :=
 ⟨λi H=>∃xs x,a7 K H a xs/\xs[i]?=some x,λi H x H'=>H'=H/\∀xs,a7 K H a xs->xs[i]?=some x,λi H=>∃xs,a7 K H a xs/\xs.length<=i⟩
noncomputable def Fb (lo:Int)(n:Nat):It:=⟨λi _=>i<n,λi H x H'=>H'=H/\x=.int (lo+i),λi _=>n<=i⟩
theorem aa1 {tg:Expr}(a it:Addr):Turn P w K tg (BQ K a) [it] it (λi h=>h.IsListIter it a i) where
 mem:=by simp
 obj:=λi h st b hb=>by
  have e:b=it:=by simpa using hb
  subst e;obtain⟨o,e,c,d⟩:=st;exact⟨o,e,λv z=>by rw[d] at z;cases z⟩
 keep:=λi h h' st k=>st.at λo e=>k it (by simp) o e
 item:=by
  intro X hP hw hK hc i pins s σ H E I hf st hg;subst hP hw hK;obtain⟨xs,x,hq,hx⟩:=hg;obtain⟨its,rv,p,hz⟩:=I.list hq;obtain⟨u,hu,ru⟩:=rv.get hx;obtain⟨f0,f1,f2,f3,f4,f5⟩:=hf it (by simp);refine y7 st p.isList (x:=u) (by simpa using hu) λh' JD sb=>?_;have I1:Inv X pins σ H {s with heap:=h'}:=I.turned (t':=s.toks) (λb o hb e=>(sb.2 b hb).trans e) f0 f1 f3 f4 f5;obtain⟨o,e,c,d⟩:=id JD;exact⟨u,rfl,vm (s:={s with heap:=h'}) e c d (by decide) ⟨x,H,I1,ru,⟨rfl,λys hy=>by rw[I.ag0 hy hq];exact hx⟩,JD,λb hb=>(hf b hb).1⟩⟩
 done:=by
  intro X hP hw hK hc i pins s σ H E I hf st hg;subst hP hw hK;obtain⟨xs,hq,hx⟩:=hg;obtain⟨its,rv,p,hz⟩:=I.list hq;obtain⟨f0,f1,f2,f3,f4,f5⟩:=hf it (by simp);have hl:=rv.length;exact GO (I.ok.hd hc) st p.isList (by simp;omega) λh' eb=>⟨rfl,I.turned (t':=s.toks) (λb o hb e=>eb b o hb e) f0 f1 f3 f4 f5⟩
 self:=λ_ _ _ _ _ st h=>wpAny_pyIter_listiter st h
theorem agb {tg:Expr}(a it:Addr):Turn P w K tg (F9 K a) [it] it (λi h=>h.IsTupleIter it a i) where
 mem:=by simp
 obj:=λi h st b hb=>by
  have e:b=it:=by simpa using hb
  subst e;obtain⟨o,e,c,d⟩:=st;exact⟨o,e,λv z=>by rw[d] at z;cases z⟩
 keep:=λi h h' st k=>st.at λo e=>k it (by simp) o e
 item:=by
  intro X hP hw hK hc i pins s σ H E I hf st hg;subst hP hw hK;obtain⟨xs,x,hq,hx⟩:=hg;obtain⟨its,rv,p,hz⟩:=I.tuple hq;obtain⟨u,hu,ru⟩:=rv.get hx;obtain⟨f0,f1,f2,f3,f4,f5⟩:=hf it (by simp);refine wpAny_pyNext_tuple_item st (show s.heap.IsTuple a its.toArray from p) (x:=u) (by simpa using hu) λh' JD sb=>?_;have I1:Inv X pins σ H {s with heap:=h'}:=I.turned (t':=s.toks) (λb o hb e=>(sb.2 b hb).trans e) f0 f1 f3 f4 f5;obtain⟨o,e,c,d⟩:=id JD;exact⟨u,rfl,vm (s:={s with heap:=h'}) e c d (by decide) ⟨x,H,I1,ru,⟨rfl,λys hy=>by rw[I.agt hy hq];exact hx⟩,JD,λb hb=>(hf b hb).1⟩⟩
 done:=by
  intro X hP hw hK hc i pins s σ H E I hf st hg;subst hP hw hK;obtain⟨xs,hq,hx⟩:=hg;obtain⟨its,rv,p,hz⟩:=I.tuple hq;obtain⟨f0,f1,f2,f3,f4,f5⟩:=hf it (by simp);have hl:=rv.length;exact wpAny_pyNext_tuple_end (I.ok.hd hc) st (show s.heap.IsTuple a its.toArray from p) (by simp;omega) λh' eb=>⟨rfl,I.turned (t':=s.toks) (λb o hb e=>eb b o hb e) f0 f1 f3 f4 f5⟩
 self:=λ_ _ _ _ _ st h=>wpAny_pyIter_tupleiter st h
theorem aaX {tg:Expr}(it:Addr)(lo:Int)(n:Nat):Turn P w K tg (Fb lo n) [it] it (λi h=>IsRangeIter h it (lo+(i:Nat)*1) ((n:Int)-(i:Nat)) 1) where
 mem:=by simp
 obj:=λi h st b hb=>by
  have e:b=it:=by simpa using hb
  subst e
  exact⟨_,st,λv z=>by
   have z':Data.fields _=Data.cell v:=z
   cases z'⟩
 keep:=λi h h' st k=>k it (by simp) _ st
 item:=by
  intro X hP hw hK hc i pins s σ H E I hf st hg;subst hP hw hK;obtain⟨f0,f1,f2,f3,f4,f5⟩:=hf it (by simp);have W:=Walks.range (prog:=X.prog) (w:=X.w) (I.ok.hd hc) it lo 1 n;refine W.item i s _ _ hg st λv h' tk hv JD kk=>?_;obtain⟨t,rfl⟩:=hv;have I1:Inv X pins σ H {s with heap:=h',toks:=tk}:=I.turned (λb o hb e=>kk b o (by simpa using hb) e) f0 f1 f3 f4 f5;refine⟨_,rfl,vm (s:={s with heap:=h',toks:=tk}) (n:="range_iterator") JD rfl rfl (by decide) ⟨.int (lo+i),H,I1,⟨t,?_⟩,⟨rfl,rfl⟩,JD,λb hb=>(hf b hb).1⟩⟩;rw[Int.mul_one]
 done:=by
  intro X hP hw hK hc i pins s σ H E I hf st hg;subst hP hw hK;obtain⟨f0,f1,f2,f3,f4,f5⟩:=hf it (by simp);exact wpAny_pyNext_range_end (I.ok.hd hc) st (by have:n<=i:=hg;omega) λh' eb=>⟨rfl,I.turned (t':=s.toks) (λb o hb e=>eb b o hb e) f0 f1 f3 f4 f5⟩
 self:=λ_ _ _ _ _ st h=>wpAny_pyIter_rangeiter st h
variable {pos:Pos}{fp:List Addr}
section
variable {X:Cx}{tg:Expr}
noncomputable def C3 (K:PySem.W.Frag)(tl:TE):TI:=λσ H R=>tl σ H λx H1=>∃a,x=.ref a/\(∃xs,aW K H1 a xs)/\R (BQ K a) H1
noncomputable def af4 (K:PySem.W.Frag)(tl:TE):TI:=λσ H R=>tl σ H λx H1=>∃a,x=.ref a/\(∃xs,a7 K H1 a xs)/\R (F9 K a) H1
theorem cb {l:Expr}{tl:TE}(hl:PE X l tl):PI X tg l (C3 X.K tl):=by
 intro pins s σ H R I h;refine bO (hl pins s σ H _ I h) λv s1 z'=>?_;obtain⟨x,H1,I1,r1,q1⟩:=z';obtain⟨a,e,⟨xs,hq⟩,q⟩:=q1;subst e
 cases r1
 obtain⟨its,rv,p,hz⟩:=I1.list hq;refine CD p.isList ?_;refine⟨s1.heap.objs.size,[s1.heap.objs.size],_,_,H1,rfl,I1.kept (t':=s1.toks) λb o e=>xQ _ e,aa1 a _,⟨_,HR _ rfl,rfl,rfl⟩,λb hb=>?_,q⟩
 have e:b=s1.heap.objs.size:=by simpa using hb
 subst e;exact I1.agS (AY _) (I1.hok.fresh (AY _))
theorem Al {l:Expr}{tl:TE}(hl:PE X l tl):PI X tg l (af4 X.K tl):=by
 intro pins s σ H R I h;refine bO (hl pins s σ H _ I h) λv s1 z'=>?_;obtain⟨x,H1,I1,r1,q1⟩:=z';obtain⟨a,e,⟨xs,hq⟩,q⟩:=q1;subst e
 cases r1
 obtain⟨its,rv,p,hz⟩:=I1.tuple hq;refine DD (show s1.heap.IsTuple a its.toArray from p) ?_;refine⟨s1.heap.objs.size,[s1.heap.objs.size],_,_,H1,rfl,I1.kept (t':=s1.toks) λb o e=>xQ _ e,agb a _,⟨_,HR _ rfl,rfl,rfl⟩,λb hb=>?_,q⟩
 have e:b=s1.heap.objs.size:=by simpa using hb
 subst e;exact I1.agS (AY _) (I1.hok.fresh (AY _))
theorem aaT {R:It->Hp->Prop}{E:zQ}{lo hi:Int}{t u v:Tok}{tk:Nat}(I:Inv X pins σ H s)(h1:-(2^62)<=lo)(h2:lo<2^62)(h3:-(2^62)<=hi)(h4:hi<2^62)
 (q:R (Fb lo (hi-lo).toNat) H):wpAny (model X.prog X.w) X.A (pyIter (.ref s.heap.objs.size)) (IJ X pins σ tg R) E {s with heap:=s.heap.push {cls:=.type "range",data:=.fields #[.int lo t,.int hi u,.int 1 v]},toks:=tk}:=by
 refine wpAny_pyIter_range (IsRange.new ..) (small_one h1 h2 h3 h4) ?_;have I1:Inv X pins σ H {s with heap:=s.heap.push {cls:=.type "range",data:=.fields #[.int lo t,.int hi u,.int 1 v]},toks:=tk}:=I.kept λb o e=>xQ _ e
 refine⟨(s.heap.push {cls:=.type "range",data:=.fields #[.int lo t,.int hi u,.int 1 v]}).objs.size,[(s.heap.push {cls:=.type "range",data:=.fields #[.int lo t,.int hi u,.int 1 v]}).objs.size],_,_,H,rfl,
  I1.kept (t':=tk) λb o e=>xQ _ e,aaX _ lo (hi-lo).toNat,?_,λb hb=>?_,q⟩
 ·have e1:lo+((0:Nat):Int)*1=lo:=by simp
  have e2:(((hi-lo).toNat:Nat):Int)-((0:Nat):Int)=Builtin.Range.rangeSize lo hi 1:=by rw[rangeSize_one];split <;> omega
  show IsRangeIter _ _ (lo+((0:Nat):Int)*1) ((((hi-lo).toNat:Nat):Int)-((0:Nat):Int)) 1;rw[e1,e2];exact HR _ rfl
 ·have e:b=(s.heap.push {cls:=.type "range",data:=.fields #[.int lo t,.int hi u,.int 1 v]}).objs.size:=by simpa using hb
  subst e;exact I1.agS (AY _) (I1.hok.fresh (AY _))
noncomputable def aaZ (ta:TA):TI:=λσ H R=>ta σ H λvs H1=>∃j:Int,vs=[.int j]/\-(2^62)<=j/\j<2^62/\R (Fb 0 j.toNat) H1
theorem fL {a:Expr}{ta:TA}{p:Pos}(hg:Gl X "range")(hm:X.mg "range"=none)(ha:PA X [a] ta)(hs:starEach [a] X.env=[(false,eval a X.env)]:=by rfl):PI X tg (.Call (.Name "range" p) [a] [] pos) (aaZ ta):=by
 intro pins s σ H R I h;refine Call_ (eK I hg hm boot_range (BE (bO (ha pos pins s σ H _ I h) λus s1 z'=>?_) hs rfl));obtain⟨vs,H1,I1,r1,q1⟩:=z';obtain⟨j,e,q1,q2,q⟩:=q1;subst e
 cases r1 with
 |cons r rr =>
  cases rr
  obtain⟨t,rfl⟩:=r;exact call_range_1 (aaT I1 (by omega) (by omega) q1 q2 (by simpa using q))
noncomputable def aa2 (wi:TI)(g:TG)(tb:TS):TS:=λD σ H=>wi σ H λJ H1=>∃W:Nat->Nat->St->Hp->Prop,(∃m,W 0 m σ H1)/\∀i m σ H,W i m σ H →
 (J.stop i H/\D.nx σ H)\/(J.go i H/\∃N:St->Hp->Prop,(∀σ' H',N σ' H'->∃m',m'<m/\W (i+1) m' σ' H')/\∀x H',J.yld i H x H'->g x σ H' λσ2 H2=>tb {D with nx:=N,ct:=N,bk:=D.nx} σ2 H2)
noncomputable def dn (fp:List Addr)(h:Heap):List (Addr×Obj):=fp.filterMap λb=>(h.get? b).map λo=>(b,o)
theorem cD {o:Obj}(hb:b∈fp)(e:h.get? b=some o):(b,o)∈dn fp h:=Bm.mpr ⟨b,hb,by rw[e];rfl⟩
theorem nM {p:Addr×Obj}(hp:p∈dn fp h):p.1∈fp/\h.get? p.1=some p.2:=by
 obtain⟨b,hb,e⟩:=Bm.mp hp
 cases q:h.get? b with
 |none=>rw[q] at e;cases e
 |some o =>
  rw[q] at e;have e':(b,o)=p:=Option.some.inj e;subst e';exact⟨hb,q⟩
theorem Inv.pinned (I:Inv X pins σ H s)(hf:∀b∈fp,cK X pins H b)(ho:∀b∈fp,∃o,s.heap.get? b=some o/\∀v,o.data≠.cell v):Inv X (pins++dn fp s.heap) σ H s :=
 I.agk λp hp=>(HB.mp hp).elim (λz=>I.pin p (Il _ z)) λz=>by
   obtain⟨hb,e⟩:=nM z;obtain⟨f0,f1,f2,_⟩:=hf p.1 hb;obtain⟨o,e',d⟩:=ho p.1 hb;rw[e] at e';cases e';exact⟨e,f0,f1,f2,d⟩
theorem Inv.agg {pl:List (Addr×Obj)}(I:Inv X (pins++pl) σ H s):Inv X pins σ H s:=I.agk λp hp=>I.pin p (Il _ (mi _ hp))
theorem dD {iter:Expr}{wi:TI}(hp:PassesOwn (model X.prog X.w) X.A X.env X.xe)(hc:X.calm=true)(hi:PI X tg iter wi)(hg:PG X tg g)(hb:gW X body tb)
 (hs:∀x,foldedSetIterable iter X.env x=pure x:=by intro _;rfl):PS X (.For tg iter body [] pos) (aa2 wi g tb):=by
 intro pins s σ H D I h;refine wpAny_For (bO (hi pins s σ H _ I h) λv s1 h1=>bO h1 λOK s2 h2=>?_) hs;obtain⟨it,fp,tn,J,H2,e,I2,T,Ku,f2,W,⟨m0,w0⟩,turn⟩:=h2;subst e;have Nn:∀{H':Hp},(∀b∈fp,H' b=none)->∀b∈fp,cK X pins H' b:=λhn b hb=>⟨hn b hb,(f2 b hb).2⟩;refine codeAny_forLoop_any (λn s'=>∃i σ' H',Inv X pins σ' H' s'/\tn i s'.heap/\(∀b∈fp,H' b=none)/\W i n σ' H') ?_ m0 ⟨0,σ,H2,I2,Ku,λb hb=>(f2 b hb).1,w0⟩;rintro n s3 ⟨i,σ3,H3,I3,Yv,Yw,w3⟩
 rcases turn i n σ3 H3 w3 with⟨stop,qn⟩|⟨go,N,hN,step⟩
 ·refine Io hp (bO (T.done X rfl rfl rfl hc i pins s3 σ3 H3 X.xe I3 (Nn Yw) Yv stop) λr s4 z'=>?_);obtain⟨hr,I4⟩:=z';subst hr;exact xk ⟨σ3,H3,I4,qn⟩
 ·refine Io hp (bO (T.item X rfl rfl rfl hc i pins s3 σ3 H3 X.xe I3 (Nn Yw) Yv go) λr s4 z'=>?_);obtain⟨u,hr,h4⟩:=z';subst hr;refine Io hp (bO h4 λ_ s5 z'=>?_);obtain⟨x,H5,I5,r5,y5,Pp,UH⟩:=z';have I5':=I5.pinned (Nn UH) (T.obj _ _ Pp);refine Io hp (bO (hg _ s5 σ3 H5 x u _ I5' r5 (step x H5 y5)) λ_ s6 z'=>?_);obtain⟨σ6,H6,I6,q6⟩:=z';refine Io hp (bO (hb _ s6 σ6 H6 _ I6 q6) λf s7 q7=>?_)
  have again:∀{σ7:St}{H7:Hp},Inv X (pins++dn fp s5.heap) σ7 H7 s7->N σ7 H7->∃m,m<n/\∃i σ' H',Inv X pins σ' H' s7/\tn i s7.heap/\(∀b∈fp,H' b=none)/\W i m σ' H':=λ{σ7 H7} I7 n7=>by
   obtain⟨m',hm,w7⟩:=hN σ7 H7 n7;refine⟨m',hm,i+1,σ7,H7,I7.agg,T.keep _ _ _ Pp λb hb o e=>(I7.pin (b,o) (Il _ (Il _ (cD hb e)))).1,λb hb=>?_,w7⟩;obtain⟨o,e,d⟩:=T.obj _ _ Pp b hb;exact(I7.pin (b,o) (Il _ (Il _ (cD hb e)))).2.1
  cases f with
  |next=>obtain⟨σ7,H7,I7,n7⟩:=q7;exact again I7 n7
  |cont=>obtain⟨σ7,H7,I7,n7⟩:=q7;exact again I7 n7
  |brk=>obtain⟨σ7,H7,I7,q7⟩:=q7;exact⟨σ7,H7,I7.agg,q7⟩
  |ret v=>obtain⟨x7,σ7,H7,I7,r7,q7⟩:=q7;exact⟨x7,σ7,H7,I7.agg,r7,q7⟩
end
theorem fM {K:PySem.W.Frag}{a:Addr}{xs:List V}{D:Ends}(Pv:Nat->St->Hp->Prop)(h0:Pv 0 σ H)(hl:∀i σ H,i<=xs.length->Pv i σ H->aW K H a xs)
 (hs:∀i x σ H,xs[i]?=some x->Pv i σ H->g x σ H λσ2 H2=>tb {D with nx:=Pv (i+1),ct:=Pv (i+1),bk:=D.nx} σ2 H2)(hd:∀σ H,Pv xs.length σ H->D.nx σ H):
 ∃W:Nat->Nat->St->Hp->Prop,(∃m,W 0 m σ H)/\∀i m σ H,W i m σ H →
  ((BQ K a).stop i H/\D.nx σ H)\/((BQ K a).go i H/\∃N:St->Hp->Prop,(∀σ' H',N σ' H'->∃m',m'<m/\W (i+1) m' σ' H')/\∀x H',(BQ K a).yld i H x H'->g x σ H' λσ2 H2=>tb {D with nx:=N,ct:=N,bk:=D.nx} σ2 H2):=by
 refine⟨λi m σ H=>m=xs.length-i/\i<=xs.length/\Pv i σ H,⟨xs.length,by simp,GH _,h0⟩,?_⟩;rintro i m σ H ⟨rfl,hi,p⟩;have q:=hl i σ H hi p
 by_cases Jb:i<xs.length
 ·refine .inr ⟨⟨xs,xs[i],q,by simp[Jb]⟩,Pv (i+1),λσ' H' p'=>⟨xs.length-(i+1),by omega,rfl,Jb,p'⟩,λx H' y=>?_⟩;obtain⟨e,y⟩:=y;subst e;exact hs i x σ _ (y xs q) p
 ·have e:i=xs.length:=by omega
  subst e;exact .inl ⟨⟨xs,q,AY _⟩,hd σ H p⟩
theorem abc {K:PySem.W.Frag}{a:Addr}{xs:List V}{D:Ends}(Pv:Nat->St->Hp->Prop)(h0:Pv 0 σ H)(hl:∀i σ H,i<=xs.length->Pv i σ H->a7 K H a xs)
 (hs:∀i x σ H,xs[i]?=some x->Pv i σ H->g x σ H λσ2 H2=>tb {D with nx:=Pv (i+1),ct:=Pv (i+1),bk:=D.nx} σ2 H2)(hd:∀σ H,Pv xs.length σ H->D.nx σ H):
 ∃W:Nat->Nat->St->Hp->Prop,(∃m,W 0 m σ H)/\∀i m σ H,W i m σ H →
  ((F9 K a).stop i H/\D.nx σ H)\/((F9 K a).go i H/\∃N:St->Hp->Prop,(∀σ' H',N σ' H'->∃m',m'<m/\W (i+1) m' σ' H')/\∀x H',(F9 K a).yld i H x H'->g x σ H' λσ2 H2=>tb {D with nx:=N,ct:=N,bk:=D.nx} σ2 H2):=by
 refine⟨λi m σ H=>m=xs.length-i/\i<=xs.length/\Pv i σ H,⟨xs.length,by simp,GH _,h0⟩,?_⟩;rintro i m σ H ⟨rfl,hi,p⟩;have q:=hl i σ H hi p
 by_cases Jb:i<xs.length
 ·refine .inr ⟨⟨xs,xs[i],q,by simp[Jb]⟩,Pv (i+1),λσ' H' p'=>⟨xs.length-(i+1),by omega,rfl,Jb,p'⟩,λx H' y=>?_⟩;obtain⟨e,y⟩:=y;subst e;exact hs i x σ _ (y xs q) p
 ·have e:i=xs.length:=by omega
  subst e;exact .inl ⟨⟨xs,q,AY _⟩,hd σ H p⟩
theorem af2 {lo:Int}{n:Nat}{D:Ends}(Pv:Nat->St->Hp->Prop)(h0:Pv 0 σ H)
 (hs:∀i σ H,i<n->Pv i σ H->g (.int (lo+i)) σ H λσ2 H2=>tb {D with nx:=Pv (i+1),ct:=Pv (i+1),bk:=D.nx} σ2 H2)(hd:∀σ H,Pv n σ H->D.nx σ H):
 ∃W:Nat->Nat->St->Hp->Prop,(∃m,W 0 m σ H)/\∀i m σ H,W i m σ H →
  ((Fb lo n).stop i H/\D.nx σ H)\/((Fb lo n).go i H/\∃N:St->Hp->Prop,(∀σ' H',N σ' H'->∃m',m'<m/\W (i+1) m' σ' H')/\∀x H',(Fb lo n).yld i H x H'->g x σ H' λσ2 H2=>tb {D with nx:=N,ct:=N,bk:=D.nx} σ2 H2):=by
 refine⟨λi m σ H=>m=n-i/\i<=n/\Pv i σ H,⟨n,by simp,GH _,h0⟩,?_⟩;rintro i m σ H ⟨rfl,hi,p⟩
 by_cases Jb:i<n
 ·refine .inr ⟨Jb,Pv (i+1),λσ' H' p'=>⟨n-(i+1),by omega,rfl,Jb,p'⟩,λx H' y=>?_⟩;obtain⟨e,y⟩:=y;subst e y;exact hs i σ _ Jb p
 ·have e:i=n:=by omega
  subst e;exact .inl ⟨AY _,hd σ H p⟩
noncomputable abbrev R2:=V->V->Hp->VK->Prop
noncomputable def gH (X:Cx)(f:Value->Value->Sem Value)(r:R2):Prop :=
 ∀(pins:List (Addr×Obj))(s:qm)(σ:St)(H:Hp)(x y:V)(v u:Value)(Q:VK),Inv X pins σ H s->aE x v->aE y u->r x y H Q →
  wpAny (model X.prog X.w) X.A (f v u) (EP X pins σ Q) X.xe s
noncomputable def HY (X:Cx)(f:Value->Sem Value)(r:V->Hp->VK->Prop):Prop :=
 ∀(pins:List (Addr×Obj))(s:qm)(σ:St)(H:Hp)(x:V)(v:Value)(Q:VK),Inv X pins σ H s->aE x v->r x H Q →
  wpAny (model X.prog X.w) X.A (f v) (EP X pins σ Q) X.xe s
noncomputable def eV (X:Cx)(f:Value)(r:List V->Hp->VK->Prop):Prop :=
 ∀(pins:List (Addr×Obj))(s:qm)(σ:St)(H:Hp)(xs:List V)(us:wW)(Q:VK),Inv X pins σ H s->aN xs us->r xs H Q →
  wpAny (model X.prog X.w) X.A (call f us) (EP X pins σ Q) X.xe s
noncomputable def aaV (X:Cx)(r:V->Hp->(Bool->Hp->Prop)->Prop):Prop :=
 ∀(pins:List (Addr×Obj))(s:qm)(σ:St)(H:Hp)(x:V)(v:Value)(Q:Bool->Hp->Prop),Inv X pins σ H s->aE x v->r x H Q →
  wpAny (model X.prog X.w) X.A (truthy v) (TP X pins σ Q) X.xe s
noncomputable def qe (r:R2)(ta tb:TE):TE:=λσ H Q=>ta σ H λx H1=>tb σ H1 λy H2=>r x y H2 Q
noncomputable def aa0 (r:V->Hp->VK->Prop)(ta:TE):TE:=λσ H Q=>ta σ H λx H1=>r x H1 Q
noncomputable def rI (C:Int->Int->Prop)(g:Int->Int->V):R2:=λx y H Q=>∃i j,x=.int i/\y=.int j/\C i j/\Q (g i j) H
noncomputable def Ak (g:Int->Int->V):R2:=λx y H Q=>∃i j,x=.int i/\y=.int j/\Q (g i j) H
noncomputable def rU (g:Int->V):V->Hp->VK->Prop:=λx H Q=>∃i,x=.int i/\Q (g i) H
variable {f:Value->Value->Sem Value}
section
variable {X:Cx}{a b c:Expr}{ta tb tc:TE}{pos:Pos}
theorem ES (ha:PE X a ta)(hb:PE X b tb){R:V->V->Hp->Prop}(I:Inv X pins σ H s)
 (h:ta σ H λx H1=>tb σ H1 λy H2=>R x y H2){Q:zQ}
 (hf:∀v u s2 x y H2,Inv X pins σ H2 s2->aE x v->aE y u->R x y H2->wpAny (model X.prog X.w) X.A (f v u) Q X.xe s2):
 wpAny (model X.prog X.w) X.A (eval a X.env) (λv s₁=>wpAny (model X.prog X.w) X.A (eval b X.env) (λu s₂=>wpAny (model X.prog X.w) X.A (f v u) Q X.xe s₂) X.xe s₁) X.xe s:=by
 refine bO (ha pins s σ H _ I h) λv s1 z'=>?_;obtain⟨x,H1,I1,r1,q1⟩:=z';refine bO (hb pins s1 σ H1 _ I1 q1) λu s2 z'=>?_;obtain⟨y,H2,I2,r2,q2⟩:=z';exact hf v u s2 x y H2 I2 r1 r2 q2
theorem aD {op:Operator}{r:R2}(ho:gH X (binaryOp op) r)(ha:PE X a ta)(hb:PE X b tb):PE X (.BinOp a op b pos) (qe r ta tb):=by
 intro pins s σ H Q I h;exact wpAny_BinOp (ES ha hb I h λv u s2 x y H2 I2 rx ry q=>ho pins s2 σ H2 x y v u Q I2 rx ry q)
theorem vf {op:UnaryOp}{r:V->Hp->VK->Prop}(ho:HY X (unaryOp op) r)(ha:PE X a ta):PE X (.UnaryOp op a pos) (aa0 r ta):=by
 intro pins s σ H Q I h;exact UnaryOp_ (bO (ha pins s σ H _ I h) λv s1 ⟨x,H1,I1,r1,q1⟩=>ho pins s1 σ H1 x v Q I1 r1 q1)
theorem Ew {C:Int->Int->Prop}{g:Int->Int->Int}
 (rule:∀(i j:Int)(t u:Tok)(s:qm)(Q:zQ)(E:zQ),C i j->Q (.int (g i j) s.toks) {s with toks:=s.toks+1}->wpAny (model X.prog X.w) X.A (f (.int i t) (.int j u)) Q E s):
 gH X f (rI C λi j=>.int (g i j)):=by
 intro pins s σ H x y v u Q I rx ry h;obtain⟨i,j,rfl,rfl,hc,q⟩:=h;obtain⟨t,rfl⟩:=rx;obtain⟨t',rfl⟩:=ry;exact rule i j t t' s _ _ hc ⟨.int (g i j),H,I.tok _,⟨_,rfl⟩,q⟩
theorem Gq {g:Int->Int->Int}
 (rule:∀(i j:Int)(t u:Tok)(s:qm)(Q:zQ)(E:zQ),Q (.int (g i j) s.toks) {s with toks:=s.toks+1}->wpAny (model X.prog X.w) X.A (f (.int i t) (.int j u)) Q E s):
 gH X f (Ak λi j=>.int (g i j)):=by
 intro pins s σ H x y v u Q I rx ry h;obtain⟨i,j,rfl,rfl,q⟩:=h;obtain⟨t,rfl⟩:=rx;obtain⟨t',rfl⟩:=ry;exact rule i j t t' s _ _ ⟨.int (g i j),H,I.tok _,⟨_,rfl⟩,q⟩
theorem Bs {g:Int->Int->Bool}
 (rule:∀(i j:Int)(t u:Tok)(s:qm)(Q:zQ)(E:zQ),Q (.bool (g i j)) s->wpAny (model X.prog X.w) X.A (f (.int i t) (.int j u)) Q E s):
 gH X f (Ak λi j=>.bl (g i j)):=by
 intro pins s σ H x y v u Q I rx ry h;obtain⟨i,j,rfl,rfl,q⟩:=h;obtain⟨t,rfl⟩:=rx;obtain⟨t',rfl⟩:=ry;exact rule i j t t' s _ _ ⟨.bl (g i j),H,I,rfl,q⟩
noncomputable def aa5 (i j:Int):Prop:=0<j/\j<1073741824
noncomputable def aaU (i j:Int):Prop:=0<=j/\j<=1000000/\i.natAbs<2^64
noncomputable def wV (i j:Int):Prop:=(-(2^64)<i/\i<2^64)\/(-(2^64)<j/\j<2^64)
theorem wV.ok {i j:Int}(h:wV i j):IntMulOk i j:=by
 rcases h with⟨h1,h2⟩|⟨h1,h2⟩
 ·exact .of_left (intBits_le_64 h1 h2)
 ·exact .of_right (intBits_le_64 h1 h2)
theorem cJ:gH X (binaryOp .Add) (Ak λi j=>.int (i+j)):=Gq λ_ _ _ _ _ _ _ q=>add_int q
theorem lU:gH X (binaryOp .Sub) (Ak λi j=>.int (i-j)):=Gq λ_ _ _ _ _ _ _ q=>sub_int q
theorem dA:gH X (binaryOp .Mult) (rI wV λi j=>.int (i*j)):=Ew λ_ _ _ _ _ _ _ hc q=>mul_int q hc.ok
theorem aa4:gH X (binaryOp .FloorDiv) (rI aa5 λi j=>.int (i/j)):=Ew λi j _ _ _ _ _ hc q=>by
 have h1:(0:Int)<j:=hc.1;have h2:j<1073741824:=hc.2;exact floordiv_int (by omega) (by rw[Int.fdiv_eq_ediv_of_nonneg i (by omega)];exact q) (.inl (PyProof.noPylong_small (by omega)))
theorem cU:gH X (binaryOp .Mod) (rI (λ_ j=>0<j) λi j=>.int (i%j)):=Ew λi j _ _ _ _ _ hc q=>by
 have h1:(0:Int)<j:=hc;exact mod_int' (by omega) (by rw[Int.fmod_eq_emod_of_nonneg i (by omega)];exact q)
theorem uU:gH X (binaryOp .Mod) (rI (λ_ j=>j≠0) λi j=>.int (i.fmod j)):=Ew λ_ _ _ _ _ _ _ hc q=>mod_int' hc q
theorem jl:gH X (binaryOp .Pow) (rI aaU λi j=>.int (i^j.toNat)):=Ew λ_ _ _ _ _ _ _ hc q=>pow_int_small hc.1 hc.2.1 hc.2.2 q
theorem abd {f:Value->Sem Value}{g:Int->Int}
 (rule:∀(i:Int)(t:Tok)(s:qm)(Q:zQ)(E:zQ),Q (.int (g i) s.toks) {s with toks:=s.toks+1}->wpAny (model X.prog X.w) X.A (f (.int i t)) Q E s):
 HY X f (rU λi=>.int (g i)):=by
 intro pins s σ H x v Q I rx h;obtain⟨i,rfl,q⟩:=h;obtain⟨t,rfl⟩:=rx;exact rule i t s _ _ ⟨.int (g i),H,I.tok _,⟨_,rfl⟩,q⟩
theorem oJ:HY X (unaryOp .USub) (rU λi=>.int (-i)):=abd λ_ _ _ _ _ q=>neg_int q
end
noncomputable def GF:V->V->Bool
 | .non,.non=>true| .non,.int _=>true| .int _,.non=>true| .non,.bl _=>true| .bl _,.non=>true| .non,.str _=>true| .str _,.non=>true
 | .int _,.int _=>true| .bl _,.bl _=>true| .str _,.str _=>true| .byt _,.byt _=>true
 | .int _,.str _=>true| .str _,.int _=>true| .bl _,.str _=>true| .str _,.bl _=>true
 |_,_=>false
noncomputable def rEq:R2:=λx y H Q=>GF x y=true/\Q (.bl (decide (x=y))) H
noncomputable def rNe:R2:=λx y H Q=>GF x y=true/\Q (.bl (!decide (x=y))) H
theorem uY {i j:Int}:decide (V.int i=V.int j)=(i==j):=by
 rw[tV];simp
theorem A7 {i j:Bool}:decide (V.bl i=V.bl j)=(i==j):=by
 rw[tV];simp
theorem vY {i j:Str}:decide (V.str i=V.str j)=(i==j):=by
 rw[tV];simp
theorem vG {i j:Array UInt8}:decide (V.byt i=V.byt j)=(i.toList==j.toList):=by
 rw[tV]
 cases i
 cases j
 simp
variable {Q:VK}
section
variable {X:Cx}{a b c:Expr}{ta tb tc:TE}{pos:Pos}
theorem bg {k k':Bool}(I:Inv X pins σ H s)(q:Q (.bl k) H)(e:k=k'):EP X pins σ Q (.bool k') s:=by
 subst e;exact⟨.bl k,H,I,rfl,q⟩
theorem eQ:gH X (compareOp .Eq) rEq:=by
 intro pins s σ H x y v u Q I rx ry h;obtain⟨hs,q⟩:=h
 cases x with
 |non =>
  cases rx
  cases y with
  |non=>cases ry;exact PySem.EqNone.eq_none_none (bg I q (by simp))
  |bl j=>cases ry;exact PySem.EqNone.eq_none_bool (bg I q (by simp))
  |int j=>obtain⟨t',rfl⟩:=ry;exact PySem.EqNone.eq_none_int (bg I q (by simp))
  |str j=>obtain⟨t',rfl⟩:=ry;exact PySem.EqNone.eq_none_str (bg I q (by simp))
  |_=>exact absurd (show false=true from hs) FO
 |bl i =>
  cases rx
  cases y with
  |non=>cases ry;exact PySem.EqNone.eq_bool_none (bg I q (by simp))
  |bl j=>cases ry;exact eq_bool (bg I q A7)
  |str j=>obtain⟨t',rfl⟩:=ry;exact PySem.EqMixed.eq_bool_str (bg I q (by simp))
  |_=>exact absurd (show false=true from hs) FO
 |int i =>
  obtain⟨t,rfl⟩:=rx
  cases y with
  |non=>cases ry;exact PySem.EqNone.eq_int_none (bg I q (by simp))
  |int j=>obtain⟨t',rfl⟩:=ry;exact eq_int (bg I q uY)
  |str j=>obtain⟨t',rfl⟩:=ry;exact PySem.EqMixed.eq_int_str (bg I q (by simp))
  |_=>exact absurd (show false=true from hs) FO
 |str i =>
  obtain⟨t,rfl⟩:=rx
  cases y with
  |non=>cases ry;exact PySem.EqNone.eq_str_none (bg I q (by simp))
  |bl j=>cases ry;exact PySem.EqMixed.eq_str_bool (bg I q (by simp))
  |int j=>obtain⟨t',rfl⟩:=ry;exact PySem.EqMixed.eq_str_int (bg I q (by simp))
  |str j=>obtain⟨t',rfl⟩:=ry;exact eq_str (bg I q vY)
  |_=>exact absurd (show false=true from hs) FO
 |byt i =>
  obtain⟨t,rfl⟩:=rx
  cases y with
  |byt j=>obtain⟨t',rfl⟩:=ry;exact PySem.W.eq_bytes (bg I q vG)
  |_=>exact absurd (show false=true from hs) FO
 |_=>cases y <;> exact absurd (show false=true from hs) FO
theorem g9:gH X (compareOp .NotEq) rNe:=by
 intro pins s σ H x y v u Q I rx ry h;obtain⟨hs,q⟩:=h
 cases x with
 |non =>
  cases rx
  cases y with
  |non=>cases ry;exact PySem.EqNone.ne_none_none (bg I q (by simp))
  |bl j=>cases ry;exact PySem.EqNone.ne_none_bool (bg I q (by simp))
  |int j=>obtain⟨t',rfl⟩:=ry;exact PySem.EqNone.ne_none_int (bg I q (by simp))
  |str j=>obtain⟨t',rfl⟩:=ry;exact PySem.EqNone.ne_none_str (bg I q (by simp))
  |_=>exact absurd (show false=true from hs) FO
 |bl i =>
  cases rx
  cases y with
  |non=>cases ry;exact PySem.EqNone.ne_bool_none (bg I q (by simp))
  |bl j=>cases ry;exact ne_bool (bg I q (DT not A7))
  |str j=>obtain⟨t',rfl⟩:=ry;exact PySem.EqMixed.ne_bool_str (bg I q (by simp))
  |_=>exact absurd (show false=true from hs) FO
 |int i =>
  obtain⟨t,rfl⟩:=rx
  cases y with
  |non=>cases ry;exact PySem.EqNone.ne_int_none (bg I q (by simp))
  |int j=>obtain⟨t',rfl⟩:=ry;exact ne_int (bg I q (DT not uY))
  |str j=>obtain⟨t',rfl⟩:=ry;exact PySem.EqMixed.ne_int_str (bg I q (by simp))
  |_=>exact absurd (show false=true from hs) FO
 |str i =>
  obtain⟨t,rfl⟩:=rx
  cases y with
  |non=>cases ry;exact PySem.EqNone.ne_str_none (bg I q (by simp))
  |bl j=>cases ry;exact PySem.EqMixed.ne_str_bool (bg I q (by simp))
  |int j=>obtain⟨t',rfl⟩:=ry;exact PySem.EqMixed.ne_str_int (bg I q (by simp))
  |str j=>obtain⟨t',rfl⟩:=ry;exact ne_str (bg I q (DT not vY))
  |_=>exact absurd (show false=true from hs) FO
 |byt i =>
  obtain⟨t,rfl⟩:=rx
  cases y with
  |byt j=>obtain⟨t',rfl⟩:=ry;exact PySem.W.ne_bytes (bg I q (DT not vG))
  |_=>exact absurd (show false=true from hs) FO
 |_=>cases y <;> exact absurd (show false=true from hs) FO
theorem kr:gH X (compareOp .Lt) (Ak λi j=>.bl (decide (i<j))):=Bs λ_ _ _ _ _ _ _ q=>lt_int q
theorem Dv:gH X (compareOp .LtE) (Ak λi j=>.bl (decide (i<=j))):=Bs λ_ _ _ _ _ _ _ q=>le_int q
theorem vi:gH X (compareOp .Gt) (Ak λi j=>.bl (decide (j<i))):=Bs λ_ _ _ _ _ _ _ q=>gt_int q
theorem DA:gH X (compareOp .GtE) (Ak λi j=>.bl (decide (j<=i))):=Bs λ_ _ _ _ _ _ _ q=>ge_int q
theorem abM:gH X (compareOp .Is) (λx y H Q=>y=.non/\Q (.bl (decide (x=.non))) H):=by
 intro pins s σ H x y v u Q I rx ry h;obtain⟨rfl,q⟩:=h
 cases ry
 refine is_none_gen (bg I q ?_)
 cases x <;> first
  |(cases rx;rfl)
  |(obtain⟨t,rfl⟩:=rx;rfl)
theorem aJ (b:Expr)(h:op ≠ .In:=by decide)(h2:op ≠ .NotIn:=by decide):behindInMarks op b=false:=by
 have e1:(op==CmpOp.In)=false:=by cases op <;> first|rfl|exact absurd rfl h
 have e2:(op==CmpOp.NotIn)=false:=by cases op <;> first|rfl|exact absurd rfl h2
 cases b <;> simp[behindInMarks,e1,e2]
theorem c7 {r:R2}(ho:gH X (compareOp op) r)(ha:PE X a ta)(hb:PE X b tb)(hm:behindInMarks op b=false):PE X (.Compare a [op] [b] pos) (qe r ta tb):=by
 intro pins s σ H Q I h;exact wpAny_Compare1 (ES ha hb I h λv u s2 x y H2 I2 rx ry q=>ho pins s2 σ H2 x y v u Q I2 rx ry q) hm
noncomputable def vz (t:TE):TT:=λσ H Q=>t σ H λx H'=>∃k,x=.bl k/\Q k H'
theorem aK {r:R2}(ho:gH X (compareOp op) r)(ha:PE X a ta)(hb:PE X b tb)(hm:behindInMarks op b=false):PT X (.Compare a [op] [b] pos) (vz (qe r ta tb)):=by
 intro pins s σ H Q I h
 refine wpAny_isTrue_Compare1 (bO (ha pins s σ H _ I h) λv s1 ⟨x,H1,I1,r1,q1⟩=>bO (hb pins s1 σ H1 _ I1 q1) λu s2 ⟨y,H2,I2,r2,q2⟩ =>
  bO (ho pins s2 σ H2 x y v u _ I2 r1 r2 q2) λc s3 ⟨z,H3,I3,r3,k,e,q3⟩=>?_) hm
 subst e
 cases r3
 exact pP ⟨H3,I3,q3⟩
noncomputable def abP (r r':R2)(ta tb tc:TE):TE:=λσ H Q=>ta σ H λx H1=>tb σ H1 λy H2=>r x y H2 λz H3=>∃k,z=.bl k /\
 (if k=true then tc σ H3 λw' H4=>r' y w' H4 Q else Q (.bl false) H3)
theorem ql {UI:CmpOp}{r r':R2}(ho:gH X (compareOp op) r)(JE:gH X (compareOp UI) r')(ha:PE X a ta)(hb:PE X b tb)(hc:PE X c tc)
 (hm:lastMarks [op,UI] [b,c]=false:=by with_unfolding_all rfl):PE X (.Compare a [op,UI] [b,c] pos) (abP r r' ta tb tc):=by
 intro pins s σ H Q I h
 refine Compare_chain (bO (ha pins s σ H _ I h) λv s1 ⟨x,H1,I1,r1,q1⟩=>chain_link (bO (hb pins s1 σ H1 _ I1 q1) λu s2 ⟨y,H2,I2,r2,q2⟩ =>
  bO (ho pins s2 σ H2 x y v u _ I2 r1 r2 q2) λd s3 ⟨z,H3,I3,r3,k,e,q3⟩=>?_)) hm
 subst e
 cases r3
 refine pP ?_
 cases k with
 |false=>exact ite_ff ⟨.bl false,H3,I3,rfl,q3⟩
 |true=>exact ite_tt (chain_last (bO (hc pins s3 σ H3 _ I3 q3) λw' s4 ⟨z',H4,I4,r4,q4⟩=>JE pins s4 σ H4 y z' u w' Q I4 r2 r4 q4))
noncomputable def Fh (K:PySem.W.Frag)(x:V)(H:Hp)(k:Bool):Prop :=
 match x with
 | .non=>k=false
 | .bl b=>k=b
 | .int i=>k=(i != 0)
 | .str y=>y.length<=sizeLine/\k=((y.length:Int) != 0)
 | .byt y=>y.size<=sizeLine/\k=((y.size:Int) != 0)
 | .ref p=>(∃xs,aW K H p xs/\k = !xs.isEmpty)\/(∃xs,a7 K H p xs/\k = !xs.isEmpty)\/∃IY,H p=some (.dK IY)/\k = !IY.isEmpty
 |_=>False
theorem ags {κ:Type}{IY:List (κ×V)}{vs:List (κ×Value)}(r:KV IY vs):(!vs.isEmpty) = !IY.isEmpty:=by
 cases r <;> rfl
theorem kZ {xs:List V}{its:wW}(r:aN xs its):(!its.toArray.isEmpty) = !xs.isEmpty:=by
 cases r <;> simp
theorem lF:(sizeLine:Nat)<2^63:=by rw[HQ];decide
theorem aa9:aaV X (λx H Q=>∃k,Fh X.K x H k/\Q k H):=by
 intro pins s σ H x v Q I rx h;obtain⟨k,e,q⟩:=h;have hl:=lF;have hs:sizeLine=16777216:=HQ
 cases x with
 |non =>
  cases rx
  have e':k=false:=e;subst e';exact truthy_none ⟨H,I,q⟩
 |bl b =>
  cases rx
  have e':k=b:=e;subst e';exact pP ⟨H,I,q⟩
 |int i =>
  obtain⟨t,rfl⟩:=rx;have e':k=(i != 0):=e;subst e';exact PySem.P.truthy_int ⟨H,I,q⟩
 |str y =>
  obtain⟨t,rfl⟩:=rx;obtain⟨hy,e'⟩:y.length<=sizeLine/\k=((y.length:Int) != 0):=e;subst e';exact PySem.P.truthy_str (by omega) ⟨H,I.tok _,q⟩
 |byt y =>
  obtain⟨t,rfl⟩:=rx;obtain⟨hy,e'⟩:y.size<=sizeLine/\k=((y.size:Int) != 0):=e;subst e';exact PySem.W.truthy_bytes (by omega) ⟨H,I.tok _,q⟩
 |ref p =>
  cases rx
  have e':(∃xs,aW X.K H p xs/\k = !xs.isEmpty)\/(∃xs,a7 X.K H p xs/\k = !xs.isEmpty)\/∃IY,H p=some (.dK IY)/\k = !IY.isEmpty:=e
  rcases e' with⟨xs,hx,e'⟩|⟨xs,hx,e'⟩|⟨IY,hx,e'⟩
  ·subst e';obtain⟨its,r,pl,hz⟩:=I.list hx;have hlen:=r.length;exact wpAny_truthy_list pl.isList (by simp only[yQ];omega) ⟨H,I.tok _,by rw[kZ r];exact q⟩
  ·subst e';obtain⟨its,r,pl,hz⟩:=I.tuple hx;have hlen:=r.length;exact truthy_tuple pl (by simp only[yQ];omega) ⟨H,I.tok _,by rw[kZ r];exact q⟩
  ·subst e';obtain⟨hz,hS,vs,r,m⟩:IY.length<=sizeLine/\(p==sysModules)=false/\∃vs,KV IY vs/\s.heap.DictOf (bR X.prog X.w) p vs:=I.hok p _ hx;have hlen:IY.length=vs.length:=zX r;exact wpAny_truthy_dict hS m (by omega) ⟨H,I.tok _,by rw[ags r];exact q⟩
 |_=>exact(show False from e).elim
theorem iy (ha:PE X a ta)(he:∀dk,isTrue a X.env dk=(do let v <-dk;standAt a.pos;holding [v] (truthy v))):
 PT X a (λσ H Q=>ta σ H λx H'=>∃k,Fh X.K x H' k/\Q k H'):=by
 intro pins s σ H Q I h;exact isTrue_plain (bO (ha pins s σ H _ I h) λv s1 ⟨x,H1,I1,r1,q1⟩=>aa9 pins s1 σ H1 x v Q I1 r1 q1) (he _)
theorem eY {x:V}(r:aN [x] us):∃u,us=[u]/\aE x u:=by
 cases r with
 |cons r1 r2=>cases r2;exact⟨_,rfl,r1⟩
theorem yC {x:V}(r:aN [x,y] us):∃u w',us=[u,w']/\aE x u/\aE y w':=by
 cases r with
 |cons r1 r2 =>
  cases r2 with
  |cons r3 r4=>cases r4;exact⟨_,_,rfl,r1,r3⟩
theorem iT:eV X (.builtin "abs") (λxs H Q=>∃i,xs=[.int i]/\Q (.int (if i<0 then -i else i)) H):=by
 intro pins s σ H xs us Q I r h;obtain⟨i,rfl,q⟩:=h;obtain⟨u,rfl,t,rfl⟩:=eY r;exact call_abs_int λu tk=>⟨.int (if i<0 then -i else i),H,I.tok _,⟨_,rfl⟩,q⟩
theorem agv (hc:X.calm=true):eV X (.builtin "max") (λxs H Q=>∃i j,xs=[.int i,.int j]/\Q (.int (if j>i then j else i)) H):=by
 intro pins s σ H xs us Q I r h;obtain⟨i,j,rfl,q⟩:=h;obtain⟨u,w',rfl,⟨t,rfl⟩,⟨t',rfl⟩⟩:=yC r;refine max_two_ints (I.ok.hd hc) λh' tk k=>⟨_,H,I.kept k,?_,q⟩
 by_cases hj:j>i
 ·rw[oO hj,oO hj];exact⟨_,rfl⟩
 ·rw[DW hj,DW hj];exact⟨_,rfl⟩
theorem aa7 (hc:X.calm=true):eV X (.builtin "min") (λxs H Q=>∃i j,xs=[.int i,.int j]/\Q (.int (if j<i then j else i)) H):=by
 intro pins s σ H xs us Q I r h;obtain⟨i,j,rfl,q⟩:=h;obtain⟨u,w',rfl,⟨t,rfl⟩,⟨t',rfl⟩⟩:=yC r;refine min_two_ints (I.ok.hd hc) λh' tk k=>⟨_,H,I.kept k,?_,q⟩
 by_cases hj:j<i
 ·rw[oO hj,oO hj];exact⟨_,rfl⟩
 ·rw[DW hj,DW hj];exact⟨_,rfl⟩
theorem oq:eV X (.type "int") (λxs H Q=>(∃i,xs=[.int i]/\Q (.int i) H)\/∃k,xs=[.bl k]/\Q (.int (if k then 1 else 0)) H):=by
 intro pins s σ H xs us Q I r h
 rcases h with⟨i,rfl,q⟩|⟨k,rfl,q⟩
 ·obtain⟨u,rfl,t,rfl⟩:=eY r;exact call_int_int ⟨.int i,H,I,⟨_,rfl⟩,q⟩
 ·obtain⟨u,rfl,r1⟩:=eY r
  cases r1
  exact call_int_bool ⟨.int (if k then 1 else 0),H,I.tok _,⟨_,rfl⟩,q⟩
end
structure BB (h:Heap)(x dx C:Addr)(mA:Fj):Prop where
 obj:h.get? x=some (PySem.W.instObj C dx)
 ns:h.Ns1 dx mA
 ne:dx≠x
theorem aca {dx:Addr}{mA:Fj}(n:h.Ns1 dx mA):∃od,h.get? dx=some od/\∀name,PySem.W.lookIn name od=some (mA name):=by
 obtain⟨o,es,ep,ho,hd,hk,_,hm⟩:=n;refine⟨o,ho,λname=>?_⟩;have e:=hm name;unfold nsFind findBy at e;rw[<-Array.find?_toList] at e;unfold PySem.W.lookIn;rw[hd];dsimp only
 split
 ·rename_i y q
  rw[q] at e;exact DT some e
 ·rename_i q
  rw[q] at e
  have a:es.toList.any (·.refKey)=false:=by
   rw[List.any_eq_false];intro y hy;obtain⟨z,t,UJ⟩:=hk y (Array.mem_toList_iff.mp hy);simp[DictEntry.refKey,UJ]
  have a':¬es.toList.any (·.refKey)=true:=by rw[a];exact FO
  rw[DW a'];exact DT some e
variable {C:Addr}
theorem BB.look {x dx:Addr}{mA:Fj}(I:BB h x dx C mA):∃od,PySem.W.InstAt h x (PySem.W.instObj C dx) C (some od)/\∀name,PySem.W.lookIn name od=some (mA name):=
 let⟨od,ho,hl⟩:=aca I.ns
 ⟨od,⟨I.obj,rfl,rfl,ho⟩,hl⟩
variable {pl:Sem Bool}{kw:List (Str×Value)}
section
variable {prog:A9}{w:World}{A:Around}{E:zQ}{s:qm}{K:PySem.W.Frag}{x dx C f:Addr}{mA:Fj}{name:Str}{v:Value}
theorem agx {expr:Bool}{Q:zQ}(X:K.In s.heap)(I:BB s.heap x dx C mA)(hg:PySem.W.plainGet K C name=true)(hh:PySem.W.hasDictIn K C=true)
 (ha:PySem.W.findIn K (.ref C) name=some none)(hv:mA name=some v)(hv':PySem.W.handedIn v=true)(h:Q v {s with toks:=s.toks+1}):
 wpAny (model prog w) A (getAttr (.ref x) name expr) Q E s:=by
 obtain⟨od,J,hl⟩:=I.look;exact PySem.W.get_value X J (yr hg).1 (PySem.W.findObj_own hh ha rfl (by rw[hl,hv])) hv' h
theorem aa6 {Q:Value×List Value->Shared->Prop}(X:K.In s.heap)(I:BB s.heap x dx C mA)(hg:PySem.W.plainGet K C name=true)
 (hf:PySem.W.findIn K (.ref C) name=some (some (.ref f)))(ht:PySem.W.isFn K (.ref f)=true)(hv:mA name=none)(h:Q (.ref f,[.ref x]) s):
 wpAny (model prog w) A (getMethod (.ref x) name pl) Q E s:=by
 obtain⟨od,J,hl⟩:=I.look;exact PySem.W.method_fn X J (yr hg).1 (yr hg).2 hf (Eg.mp ht) (by show(PySem.W.lookIn name od).map (·.isSome)=some false;rw[hl,hv];rfl) h
theorem abb {ns:DV}{Q:Unit->Shared->Prop}(X:K.In s.heap)(I:BB s.heap x dx C mA)
 (hs:PySem.W.findIn K (.ref C) "__setattr__"=some (some (.builtin "object.__setattr__")))(hp:PySem.W.plainOver K C=true)(ht:PySem.W.takerIn K C name=some none)(hh:PySem.W.hasDictIn K C=true)
 (hw:PySem.Within mA ns)(hsz:ns.length<=sizeLine)
 (h:∀h',BB h' x dx C (λy=>if y=name then some v else mA y)->Heap.SameBut dx s.heap h'->Q () {s with heap:=h',toks:=s.toks+2}):
 wpAny (model prog w) A (setAttr (.ref x) name v) Q E s:=by
 obtain⟨od,J,hl⟩:=I.look;refine PySem.W.set_plain X J hs (PySem.W.osa_open (s:={s with toks:=s.toks+1}) (r:=none) X J hp ht λb=>?_);obtain⟨cd,hc,UB⟩:=PySem.W.any_some hh;have hx:s.heap.get? x=some ⟨.ref C,some dx,.plain,#[]⟩:=I.obj;refine IM (IV (IM (IM (wpAny_loadPart hx (IM (PySem.W.Looks.here (s:={s with toks:=s.toks+1}) (PySem.W.looks_clsIn X hc) ?_))))));rw[UB];refine IV (a:=some dx) (IM (IV (IM ?_)));refine wpAny_nsSet1 (s:={s with toks:=s.toks+1}) I.ns λh' OL OM=>?_;obtain⟨oD,esD,epD,hoD,hdD,LW⟩:=OL.count (PySem.Within.cons name v hw);refine IM (wpAny_lookBehind hoD (by rw[hdD];exact pastItsLine_dict (GC LW (by rw[sC];omega))) ?_);exact IV (h _ ⟨(OM.2 _ (Hw I.ne)).trans I.obj,OL,I.ne⟩ OM)
theorem abe {R:Result->Shared->Prop}{vs:wW}(X:K.In s.heap)(hm:PySem.W.makesIn K C=true)
 (hi:PySem.W.findIn K (.ref C) "__init__"=some (some (.ref f)))(hf:PySem.W.typeIn K (.ref f)=some (.type "function"))
 (h:codeAny (model prog w) (A.under (.builtin "type.__call__" ⟨.ref C::vs,kw⟩)) (.call (.ref f) ⟨.ref (s.heap.objs.size+1):: vs,kw⟩) (PySem.W.InitBack (s.heap.objs.size+1) R)
  {s with heap:=(s.heap.push PySem.W.emptyDict).push (PySem.W.instObj C s.heap.objs.size)}):
 codeAny (model prog w) A (.call (.ref C) ⟨vs,kw⟩) R s:=by
 obtain⟨hh,g,d,t,os⟩:=s;exact PySem.W.make_core (PySem.W.makes_of X hm) (PySem.W.looks_findIn X hi) (λself=>PySem.W.bind_fn X self hf) (.inl rfl) h
end
noncomputable def dQ (f:Str)(v:V):List (Str×V)->List (Str×V)
 |[]=>[(f,v)]
 |(g,x):: r=>if g=f then(g,v):: r else(g,x):: dQ f v r
theorem jJ (f g:Str)(v:V):∀fs:List (Str×V),(dQ f v fs).lookup g=if g=f then some v else fs.lookup g
 |[]=>by
  show List.lookup g [(f,v)]=_
  by_cases h:g=f
  ·have hb:(g==f)=true:=Eg.mpr h;simp only[List.lookup,hb,oO h]
  ·have hb:(g==f)=false:=CP.mpr h;simp only[List.lookup,hb,DW h]
 |(k,x):: r=>by
  have ih:=jJ f g v r;rw[show dQ f v ((k,x):: r)=(if k=f then(k,v):: r else(k,x):: dQ f v r) from rfl]
  by_cases hk:k=f
  ·rw[oO hk]
   by_cases h:g=k
   ·have hb:(g==k)=true:=Eg.mpr h;simp only[List.lookup,hb,oO (h.trans hk)]
   ·have hb:(g==k)=false:=CP.mpr h;simp only[List.lookup,hb,DW (λe:g=f=>h (e.trans hk.symm))]
  ·rw[DW hk]
   by_cases h:g=k
   ·have hb:(g==k)=true:=Eg.mpr h;simp only[List.lookup,hb,DW (λe:g=f=>hk (h.symm.trans e))]
   ·have hb:(g==k)=false:=CP.mpr h;simp only[List.lookup,hb];exact ih
theorem jt (f:Str)(v:V):∀fs:List (Str×V),f∈(dQ f v fs).map (·.1)/\∀g,g∈fs.map (·.1)->g∈(dQ f v fs).map (·.1)
 |[]=>⟨by simp[dQ],λg h=>by simp at h⟩
 |(k,x):: r=>by
  obtain⟨i1,i2⟩:=jt f v r;rw[show dQ f v ((k,x):: r)=(if k=f then(k,v):: r else(k,x):: dQ f v r) from rfl]
  by_cases hk:k=f
  ·rw[oO hk];subst hk;exact⟨by simp,λg h=>by simpa using h⟩
  ·rw[DW hk];refine⟨?_,λg h=>?_⟩
   ·rw[xx];exact AM _ i1
   ·rw[xx] at h |-
    rcases Ef.mp h with e|e
    ·exact Ef.mpr (.inl e)
    ·exact AM _ (i2 g e)
theorem jF (f:Str)(v:V):∀fs:List (Str×V),(dQ f v fs).length<=fs.length+1
 |[]=>by simp[dQ]
 |(k,x):: r=>by
  have ih:=jF f v r;rw[show dQ f v ((k,x):: r)=(if k=f then(k,v):: r else(k,x):: dQ f v r) from rfl]
  by_cases hk:k=f
  ·rw[oO hk,sC,sC];omega
  ·rw[DW hk,sC,sC];omega
theorem gh.some_of {v:V}{o:Ie}(r:gh (some v) o):∃u,o=some u/\aE v u:=by
 cases o with
 |none=>exact(show False from r).elim
 |some u=>exact⟨u,rfl,r⟩
theorem gh.none_of {o:Ie}(r:gh none o):o=none:=by
 cases o with
 |none=>rfl
 |some u=>exact(show False from r).elim
theorem abn {v:V}(r:aE v u):PySem.W.handedIn u=true:=by
 cases v with
 |non=>cases(show u=Value.none from r);rfl
 |bl b=>cases(show u=Value.bool b from r);rfl
 |int i=>obtain⟨t,e⟩:=(show ∃t,u=Value.int i t from r);cases e;rfl
 |str x=>obtain⟨t,e⟩:=(show ∃t,u=Value.str x t from r);cases e;rfl
 |byt b=>obtain⟨t,e⟩:=(show ∃t,u=Value.bytes b t from r);cases e;rfl
 |flt b=>obtain⟨t,e⟩:=(show ∃t,u=Value.float b t from r);cases e;rfl
 |ref a=>cases(show u=Value.ref a from r);rfl
 |ty n=>cases(show u=Value.type n from r);rfl
section
variable {P:A9}{w:World}{H H':Hp}{h h':Heap}{a C dx:Addr}{fs fs':List (Str×V)}
theorem f9 (hok:fF P w H h)(e:H a=some (.ins C dx fs)):∃mA,BB h a dx C mA/\(∀f,gh (fs.lookup f) (mA f))/\PySem.Within mA (fs.map (·.1))/\fs.length<=1000/\H dx=some (.own a):=by
 obtain⟨d,z,ne,ob,mA,n,r,q⟩:=(show a9 P w H h a (.ins C dx fs) from hok a _ e);exact⟨mA,⟨ob,n,ne⟩,r,q,z,d⟩
end
structure GW (K:PySem.W.Frag)(C:Addr):Prop where
 pg:PySem.W.plainGet K C Str.empty=true
 hd:PySem.W.hasDictIn K C=true
 po:PySem.W.plainOver K C=true
 sa:PySem.W.findIn K (.ref C) "__setattr__"=some (some (.builtin "object.__setattr__"))
theorem GW.get (c:GW K C)(f:Str):PySem.W.plainGet K C f=true:=c.pg
noncomputable def eN (K:PySem.W.Frag)(C:Addr)(f:Str):Prop:=PySem.W.findIn K (.ref C) f=some none
theorem eN.akB {f:Str}(n:eN K C f):PySem.W.takerIn K C f=some none:=by
 unfold PySem.W.takerIn;rw[show PySem.W.findIn K (.ref C) f=some none from n];rfl
structure Meth (K:PySem.W.Frag)(C:Addr)(m:Str)(f:Addr):Prop where
 at_:PySem.W.findIn K (.ref C) m=some (some (.ref f))
 fn:PySem.W.isFn K (.ref f)=true
 kp:PySem.W.keepIn K (.ref f)=true
section
variable {X:Cx}{pins:List (Addr×Obj)}{σ:St}{H:Hp}{s:qm}{a C dx:Addr}{fs:List (Str×V)}{f:Str}{v:V}{A:Around}{E:zQ}
theorem af6 {b:Bool}{Q:zQ}(I:Inv X pins σ H s)(e:H a=some (.ins C dx fs))(c:GW X.K C)(n:eN X.K C f)(l:fs.lookup f=some v)
 (h:∀u s',Inv X pins σ H s'->aE v u->Q u s'):wpAny (model X.prog X.w) A (getAttr (.ref a) f b) Q E s:=by
 obtain⟨mA,O,r,_,_,_⟩:=f9 I.hok e;obtain⟨u,hu,ru⟩:=gh.some_of (v:=v) (o:=mA f) (by rw[<-l];exact r f);exact agx I.kIn O (c.get f) c.hd n hu (abn ru) (h u _ (I.tok _) ru)
theorem ma {m:Str}{g:Addr}{Q:Value×List Value->Shared->Prop}(I:Inv X pins σ H s)(e:H a=some (.ins C dx fs))(c:GW X.K C)(k:Meth X.K C m g)(l:fs.lookup m=none)
 (h:Q (.ref g,[.ref a]) s):wpAny (model X.prog X.w) A (getMethod (.ref a) m pl) Q E s:=by
 obtain⟨mA,O,r,_,_,_⟩:=f9 I.hok e;have hn:mA m=none:=gh.none_of (by rw[<-l];exact r m);exact aa6 I.kIn O (c.get m) k.at_ k.fn hn h
theorem TyX {Q:Unit->Shared->Prop}(I:Inv X pins σ H s)(e:H a=some (.ins C dx fs))(c:GW X.K C)(n:eN X.K C f)(hl:fs.length<1000)(ry:aE y u)
 (h:∀s',Inv X pins σ (upd H a (.ins C dx (dQ f y fs))) s'->Q () s'):wpAny (model X.prog X.w) A (setAttr (.ref a) f u) Q E s:=by
 obtain⟨mA,O,r,wi,_,ho⟩:=f9 I.hok e
 have hz:(fs.map (·.1)).length<=sizeLine:=by rw[wC,HQ];omega
 refine abb I.kIn O c.sa c.po n.akB c.hd wi hz λh' O' sb=>h _ ?_;have hd:∃o,h'.get? dx=some o:=let⟨o,_,_,e',_⟩:=O'.ns;⟨o,e'⟩;refine I.write (x:=a) (e:=dx) (by rw[e];exact True.intro) (.inr ho) (λb q hb z=>(sb.2 b hb).trans z) hd ?_;refine⟨by rw[au O.ne];exact ho,?_,O.ne,O'.obj,_,O'.ns,λg=>?_,λg hg=>?_⟩
 ·have:=jF f y fs;omega
 ·show gh ((dQ f y fs).lookup g) (if g=f then some u else mA g);rw[jJ]
  by_cases q:g=f
  ·rw[oO q,oO q];exact ry
  ·rw[DW q,DW q];exact r g
 ·by_cases q:g=f
  ·rw[q];exact(jt f y fs).1
  ·refine(jt f y fs).2 g (wi g λz=>hg ?_);show(if g=f then some u else mA g)=none;rw[DW q];exact z
theorem Inv.made (I:Inv X pins σ H s):Inv X pins σ (upd (upd H s.heap.objs.size (.own (s.heap.objs.size+1))) (s.heap.objs.size+1) (.ins C s.heap.objs.size []))
 {s with heap:=(s.heap.push PySem.W.emptyDict).push (PySem.W.instObj C s.heap.objs.size)}:=by
 have e1:(s.heap.push PySem.W.emptyDict).get? s.heap.objs.size=some PySem.W.emptyDict:=HR s.heap rfl
 have e2:((s.heap.push PySem.W.emptyDict).push (PySem.W.instObj C s.heap.objs.size)).get? (s.heap.objs.size+1)=some (PySem.W.instObj C s.heap.objs.size):=by
  have:=HR (s.heap.push PySem.W.emptyDict) (o:=PySem.W.instObj C s.heap.objs.size) rfl;rwa[F4] at this
 have e3:(s.heap.push PySem.W.emptyDict).Ns s.heap.objs.size (λ_=>none):=⟨PySem.W.emptyDict,#[],_,e1,rfl,(λe he=>absurd he (by simp)),λ_=>rfl⟩;have I1:=I.laid (a:=s.heap.objs.size) (o:=.own (s.heap.objs.size+1)) (h':=s.heap.push PySem.W.emptyDict) (t':=s.toks) (λb u q=>xQ _ q) (AY _) ⟨_,e1⟩;refine I1.laid (a:=s.heap.objs.size+1) (o:=.ins C s.heap.objs.size []) (t':=s.toks) (λb u q=>xQ _ q) (Cb (F4 _ _)) ?_;have ne:s.heap.objs.size≠s.heap.objs.size+1:=Ho (DN _);refine⟨by rw[au ne,ae],GH _,ne,e2,λ_=>none,(Heap.Ns1.of_empty e3).at λo q=>xQ _ q,λ_=>True.intro,λy hy=>absurd rfl hy⟩
theorem agA {prog:A9}{env:Env}{f:Str}{s:qm}{Q:zQ}(hb:attributeBase e f env (eval e env)=eval e env)
 (h:wpAny (model prog w) A (eval e env) (λo s₁=>wpAny (model prog w) A (getAttr o f true) Q E s₁) E s):wpAny (model prog w) A (eval (.Attribute e f pos) env) Q E s :=
 Attribute_any_ h (by rw[arm_eval_Attribute,hb])
end
noncomputable def F1 (K:PySem.W.Frag)(ta:TE)(f:Str):TE:=λσ H Q=>ta σ H λx H1=>∃a C dx fs v,x=.ref a/\H1 a=some (.ins C dx fs)/\GW K C/\eN K C f/\fs.lookup f=some v/\Q v H1
noncomputable def aaY (K:PySem.W.Frag)(ta tv:TE)(f:Str):TS:=λD σ H=>tv σ H λy H1=>ta σ H1 λx H2=>∃a C dx fs,x=.ref a/\H2 a=some (.ins C dx fs)/\GW K C/\eN K C f/\fs.length<1000 /\
 D.nx σ (upd H2 a (.ins C dx (dQ f y fs)))
section
variable {X:Cx}{o e value:Expr}{f:Str}{pos pos' UK:Pos}{ta tv:TE}
theorem br (he:PE X e ta)(hb:attributeBase e f X.env (eval e X.env)=eval e X.env):PE X (.Attribute e f pos) (F1 X.K ta f):=by
 intro pins s σ H Q I h;refine agA hb (bO (he pins s σ H _ I h) λu s1 z'=>?_);obtain⟨x,H1,I1,rx,a,C,dx,fs,v,ex,ea,c,n,l,q⟩:=z';subst ex;obtain rfl:u=Value.ref a:=rx;exact af6 I1 ea c n l λu' s2 I2 ru=>⟨v,H1,I2,ru,q⟩
theorem oQ (ha:PE X o ta)(hv:PE X value tv)(hs:swapsWith value (some (.Attribute o f pos')) pos.line X.env=pure false):PS X (.Assign [.Attribute o f pos'] value pos) (aaY X.K ta tv f):=by
 intro pins s σ H D I h;refine plainObj_wpAny_Assign_Attribute (bO (hv pins s σ H _ I h) λu s1 ⟨y,H1,I1,ry,q⟩=>bO (ha pins s1 σ H1 _ I1 q) λov s2 z'=>?_) hs;obtain⟨x,H2,I2,rx,a,C,dx,fs,ex,ea,c,n,l,q2⟩:=z';subst ex;obtain rfl:ov=Value.ref a:=rx;exact TyX I2 ea c n l ry λs3 I3=>⟨σ,_,I3,q2⟩
end
section
variable {X:Cx}{pins:List (Addr×Obj)}{σ:St}{H:Hp}{s:qm}{A:Around}{E:zQ}{Q:zQ}{c:Value}{b:Bool}
inductive Ec (K:PySem.W.Frag)(H:Hp):V->Value->Prop where
 |non:Ec K H .non (.type "NoneType")
 |bl (x:Bool):Ec K H (.bl x) (.type "bool")
 |int (i:Int):Ec K H (.int i) (.type "int")
 |str (x:Str):Ec K H (.str x) (.type "str")
 |flt (x:UInt64):Ec K H (.flt x) (.type "float")
 |lst {a:Addr}{xs:List V}(e:H a=some (.lst xs)):Ec K H (.ref a) (.type "list")
 |frz {a:Addr}{o:Obj}{xs:List V}(e:H a=some (.frz o (.lst xs))):Ec K H (.ref a) (.type "list")
 |tup {a:Addr}{xs:List V}(e:H a=some (.tup xs)):Ec K H (.ref a) (.type "tuple")
 |dK {a:Addr}{IY:List (Key×V)}(e:H a=some (.dK IY)):Ec K H (.ref a) (.type "dict")
 |dT {a:Addr}{IY:List (List Key×V)}(e:H a=some (.dT IY)):Ec K H (.ref a) (.type "dict")
 |ins {a C dx:Addr}{fs:List (Str×V)}(e:H a=some (.ins C dx fs))(cl:GW K C)(ha:PySem.W.findIn K (.ref C) "__class__"=some (some (.builtin "object.__class__")))
  (hn:PySem.W.specialIn K (.builtin "object.__class__") "__get__"=some (some (.builtin "getset_descriptor.__get__")))(Pq:PySem.W.takesIn K (.builtin "object.__class__")=some true)
  (hm:PySem.W.mroIn K C (.type "object")=some true):Ec K H (.ref a) (.ref C)
theorem abi {x:V}{t:Value}(I:Inv X pins σ H s)(rx:aE x u)(ty:Ec X.K H x t)(e:PySem.W.kitOne X.K t c=some b)(h:∀tk,Q (.bool b) {s with toks:=tk}):
 wpAny (model X.prog X.w) A (call (.builtin "isinstance") [u,c]) Q E s:=by
 cases ty with
 |non=>cases(show u=Value.none from rx);exact Hl PySem.W.kitx_none I.kIn True.intro e (λz=>nomatch z) h
 |bl y=>cases(show u=Value.bool y from rx);exact Hl PySem.W.kitx_bool I.kIn True.intro e (λz=>nomatch z) h
 |int i=>obtain⟨t,q⟩:=(show ∃t,u=Value.int i t from rx);cases q;exact Hl PySem.W.kitx_int I.kIn True.intro e (λz=>nomatch z) h
 |str y=>obtain⟨t,q⟩:=(show ∃t,u=Value.str y t from rx);cases q;exact Hl PySem.W.kitx_str I.kIn True.intro e (λz=>nomatch z) h
 |flt y=>obtain⟨t,q⟩:=(show ∃t,u=Value.float y t from rx);cases q;exact Hl PySem.W.kitx_float I.kIn True.intro e (λz=>nomatch z) h
 |@lst a xs ea =>
  cases(show u=Value.ref a from rx)
  obtain⟨_,_,n,_,h1⟩:=(show a9 X.prog X.w H s.heap a (.lst xs) from I.hok a _ ea);exact Hl PySem.W.kitx_list I.kIn ⟨_,h1,rfl⟩ e (λz=>nomatch z) h
 |@frz a ob xs ea =>
  cases(show u=Value.ref a from rx)
  obtain⟨_,_,_,n,_,h1⟩:=(show a9 X.prog X.w H s.heap a (.frz ob (.lst xs)) from I.hok a _ ea);exact Hl PySem.W.kitx_list I.kIn ⟨_,h1,rfl⟩ e (λz=>nomatch z) h
 |@tup a xs ea =>
  cases(show u=Value.ref a from rx)
  obtain⟨_,_,_,p⟩:=(show a9 X.prog X.w H s.heap a (.tup xs) from I.hok a _ ea);obtain⟨o,h1,h2,_⟩:=p;exact Hl PySem.W.kitx_tuple I.kIn ⟨o,h1,h2⟩ e (λz=>nomatch z) h
 |@dK a IY ea =>
  cases(show u=Value.ref a from rx)
  obtain⟨_,_,vs,_,p⟩:=(show a9 X.prog X.w H s.heap a (.dK IY) from I.hok a _ ea);obtain⟨o,es,ep,h1,h2,_⟩:=p;exact Hl PySem.W.kitx_dict I.kIn ⟨o,h1,h2.1⟩ e (λz=>nomatch z) h
 |@dT a IY ea =>
  cases(show u=Value.ref a from rx)
  obtain⟨_,_,xs,_,o,es,ep,h1,h2,_⟩:=(show a9 X.prog X.w H s.heap a (.dT IY) from I.hok a _ ea);exact Hl PySem.W.kitx_dict I.kIn ⟨o,h1,h2.1⟩ e (λz=>nomatch z) h
 |@ins a C dx fs ea cl ha hn Pq hm =>
  cases(show u=Value.ref a from rx)
  obtain⟨mA,O,_⟩:=f9 I.hok ea;obtain⟨od,J,_⟩:=O.look;exact Hl (PySem.W.kitx_own (cl.get _) cl.hd ha hn Pq hm) I.kIn J e (λz=>nomatch z) h
end
structure Hz (k:Nat)(A:Around):Prop where
 hd:A.handled=none
 dp:A.depth+3*k+5<recursionLimit
 un:A.units+16*k+200<cLine
 gd:A.guards=some []
theorem Hz.mono {j k:Nat}(r:Hz k A)(h:j<=k):Hz j A:=⟨r.hd,by have:=r.dp;omega,by have:=r.un;omega,r.gd⟩
theorem Hz.deeper {k:Nat}(r:Hz (k+1) A)(env:Env):Hz k (A.deeper env):=
 ⟨r.hd,by have:=r.dp;show A.depth+1+3*k+5<_;omega,by have:=r.un;show A.units+3+16*k+200<_;omega,r.gd⟩
theorem Hz.in1 {k:Nat}(r:Hz (k+1) A):Hz k A.in1 :=
 ⟨r.hd,by have:=r.dp;show A.depth+3*k+5<_;omega,by have:=r.un;show A.units+1+16*k+200<_;omega,r.gd⟩
theorem abm :(A.under (.builtin "type.__call__" ⟨.ref C::us,kw⟩)).depth=A.depth+1:=by
 first|rfl|simp[Around.under,Code.weight,Code.isCreation,Code.isGuard,Code.isCaller,Code.frames,Code.isFrame,guardIds]
theorem abx :(A.under (.builtin "type.__call__" ⟨.ref C::us,kw⟩)).guards=A.guards:=by
 first|rfl|simp[Around.under,Code.guards,Code.isGuard,guardIds,pushGuards]
theorem aby :(A.under (.builtin "type.__call__" ⟨.ref C::us,kw⟩)).units=A.units+1:=by
 first|rfl|simp[Around.under,Code.cUnits,Code.frames,Code.isFrame]
theorem Hz.make {k:Nat}(r:Hz (k+1) A)(C:Addr)(us:wW)(kw:List (Str×Value)):Hz k (A.under (.builtin "type.__call__" ⟨.ref C::us,kw⟩)):=
 ⟨r.hd,by have:=r.dp;rw[abm];omega,by have:=r.un;rw[aby];omega,by rw[abx];exact r.gd⟩
theorem Hz.depth {k:Nat}(r:Hz k A):A.depth<recursionLimit:=by have:=r.dp;omega
theorem Hz.units {k:Nat}(r:Hz k A):A.units+64<cLine:=by have:=r.un;omega
theorem Hz.ajE {k:Nat}(r:Hz k A):A.units<cLine:=by have:=r.un;omega
noncomputable def Ct:TA:=λ_ H Q=>Q [] H
noncomputable def c5 (ta:TE)(tr:TA):TA:=λσ H Q=>ta σ H λx H1=>tr σ H1 λxs H2=>Q (x::xs) H2
section
variable {X:Cx}{e:Expr}{es:Hy}{te:TE}{t:TA}{pos:Pos}
theorem ah:PA X [] Ct:=λ_ _ _ _ H Q I h=>Cs ⟨[],H,I,.nil,h⟩
theorem aX (ha:PE X e te)(hr:PA X es t)(hs:starEach (e::es) X.env=(false,eval e X.env):: starEach es X.env:=by rfl):PA X (e::es) (c5 te t):=by
 intro pos pins s σ H Q I h;rw[hs];show wpAny _ _ (spliced ((false,eval e X.env):: backTo pos (starEach es X.env))) _ _ s;refine Aw (bO (ha pins s σ H _ I h) λu s1 z'=>?_);obtain⟨x,H1,I1,r1,q1⟩:=z';exact bO (hr pos pins s1 σ H1 _ I1 q1) λus s2 ⟨xs,H2,I2,r2,q2⟩=>⟨x::xs,H2,I2,.cons r1 r2,q2⟩
noncomputable def GM (t:TA):TE:=λσ H Q=>t σ H λxs H1=>xs.length<=sizeLine/\∀p,H1 p=none->Q (.ref p) (upd H1 p (.tup xs))
noncomputable def Gk (t:TA):TE:=λσ H Q=>t σ H λxs H1=>xs.length<=sizeLine/\∀p,H1 p=none->Q (.ref p) (upd H1 p (.lst xs))
theorem bw {x1}(h:PA X es t):PE X (.Tuple es x1 pos) (GM t):=by
 intro pins s σ H Q I hq;refine wpAny_Tuple_spliced (bO (h pos pins s σ H _ I hq) λus s1 ⟨xs,H1,I1,r,z,q⟩=>⟨by rw[<-r.length];exact z,?_⟩);have hf:H1 s1.heap.objs.size=none:=I1.hok.fresh (AY _);refine⟨.ref s1.heap.objs.size,upd H1 s1.heap.objs.size (.tup xs),I1.laid (t':=s1.toks) (λb u e=>xQ _ e) (AY _) ?_,rfl,q _ hf⟩;exact⟨z,us,r,⟨_,HR _ rfl,rfl,_,rfl⟩⟩
theorem cq (h:PA X es t):PE X (.List es pos) (Gk t):=by
 intro pins s σ H Q I hq;refine wpAny_List_spliced (bO (h pos pins s σ H _ I hq) λus s1 ⟨xs,H1,I1,r,z,q⟩=>⟨by rw[<-r.length];exact z,?_⟩);have hf:H1 s1.heap.objs.size=none:=I1.hok.fresh (AY _);refine⟨.ref s1.heap.objs.size,upd H1 s1.heap.objs.size (.lst xs),I1.laid (t':=s1.toks) (λb u e=>xQ _ e) (AY _) ?_,rfl,q _ hf⟩;exact⟨z,us,0,r,HR _ rfl⟩
end
noncomputable abbrev Sp:=List V->Hp->VK->XK->Prop
noncomputable abbrev zd:=List Env->Hp->Shared->XK->Value->Shared->Prop
structure GV (P:A9)(w:World)(K:PySem.W.Frag)(mg:Fj)(base:Heap)(A:Around)(outer:List Env)(s:qm)(H:Hp):Prop where
 frames:A.frames=some outer
 mod:Mod K mg base
 bs:∀b o,base.get? b=some o->s.heap.get? b=some o/\H b=none
 bsz:base.objs.size<=s.heap.objs.size
 agq:s.heap.FunFrames base outer
 frf:∀b∈dJ outer,H b=none
 hok:fF P w H s.heap
 bare:AllBare s.gens
noncomputable def CE (outer:List Env)(P:A9)(w:World)(H:Hp)(s:qm)(Q:VK)(u:Value)(s':qm):Prop :=
 ∃v H',s'.os=s.os/\AllBare s'.gens/\Un (dJ outer) [] H H' s.heap s'.heap/\fF P w H' s'.heap/\aE v u/\Q v H'
noncomputable def CR (CX:zd)(outer:List Env)(P:A9)(w:World)(H:Hp)(s:qm)(Q:VK)(E:XK)(r:Result)(s':qm):Prop :=
 match r with
 | .ok (.ret u)=>CE outer P w H s Q u s'
 | .ok _=>False
 | .error e=>CX outer H s E e s'
structure Ey (P:A9)(w:World)(K:PySem.W.Frag)(mg:Fj)(base:Heap)(CX:zd)(k:Nat)(f:Addr)(fd:FD)(ps:DV)(sp:Sp):Prop where
 len:∀vs H Q E,sp vs H Q E->vs.length=ps.length
 run:∀(A:Around)(outer:List Env)(s:qm)(H:Hp)(args:Args)(us:wW)(vs:List V)(Q:VK)(E:XK),Hz k A->GV P w K mg base A outer s H->BindsTo s fd args (ps.zip us)->aN vs us->sp vs H Q E →
  codeAny (model P w) A (.call (.ref f) args) (CR CX outer P w H s Q E) s
variable {mg:Fj}{base:Heap}{CX:zd}{ps:DV}
theorem Ey.imp {k:Nat}{f:Addr}{fd:FD}{sp Yx:Sp}(F:Ey P w K mg base CX k f fd ps sp)
 (h:∀vs H Q E,Yx vs H Q E->sp vs H Q E):Ey P w K mg base CX k f fd ps Yx :=
 ⟨λvs H Q E q=>F.len vs H Q E (h _ _ _ _ q),λA outer s H args us vs Q E hr he hb hv hs=>F.run A outer s H args us vs Q E hr he hb hv (h _ _ _ _ hs)⟩
variable {outer:List Env}
theorem GV.make (e:GV P w K mg base A outer s H)(C:Addr)(us:wW)(kw:List (Str×Value)):
 GV P w K mg base (A.under (.builtin "type.__call__" ⟨.ref C::us,kw⟩)) outer s H:=⟨by first|exact e.frames|(simpa[Around.under,Code.envs,Code.isFrame,pushEnvs] using e.frames),e.mod,e.bs,e.bsz,e.agq,e.frf,e.hok,e.bare⟩
theorem GV.in1 (e:GV P w K mg base A outer s H):
 GV P w K mg base A.in1 outer s H:=⟨e.frames,e.mod,e.bs,e.bsz,e.agq,e.frf,e.hok,e.bare⟩
section
variable {X:Cx}{pins:List (Addr×Obj)}{σ:St}{H:Hp}{s s':qm}
theorem Inv.aiw (I:Inv X pins σ H s):GV X.prog X.w X.K X.mg X.base X.A X.stack s H :=
 ⟨I.ok.frames,I.ok.mod,I.bs,GC I.ok.bsz I.sz,I.stack,I.agE,I.hok,I.bare⟩
theorem Inv.after (I:Inv X pins σ H s)(h:CE X.stack X.prog X.w H s Q u s'):EP X pins σ Q u s':=by
 obtain⟨v,H',os,bare,un,hok,r,q⟩:=h;obtain⟨hh,g,d,t,os'⟩:=s';obtain rfl:os'=s.os:=os;exact⟨v,H',I.call (h':=hh) (g':=g) (d':=d) (t':=t) (ch:=[]) un hok bare (λb z=>absurd z (by simp)),r,q⟩
end
noncomputable def agF (sp:Sp)(dvs:List V)(E:XK)(t:TA):TE:=λσ H Q=>t σ H λvs H1=>sp (vs++dvs) H1 Q E
noncomputable def Da (C:Addr)(m:Str)(sp:Sp)(dvs:List V)(E:XK)(ta:TE)(t:TA):TE:=λσ H Q=>ta σ H λx H1=>∃a dx fs,x=.ref a/\H1 a=some (.ins C dx fs)/\fs.lookup m=none /\
 t σ H1 λvs H2=>sp (x::(vs++dvs)) H2 Q E
noncomputable def agd (C:Addr)(sp:Sp)(dvs:List V)(E:XK)(t:TA):TE:=λσ H Q=>t σ H λvs H1=>∀x dx,H1 x=none->H1 dx=none->dx≠x →
 sp (.ref x::(vs++dvs)) (upd (upd H1 dx (.own x)) x (.ins C dx [])) (λv H2=>v=.non/\Q (.ref x) H2) E
noncomputable def bF (K:PySem.W.Frag)(fd:FD)(ps:DV)(ds:wW):Prop :=
 ∀(s:qm)(us:wW),K.In s.heap->(us++ds).length=ps.length->BindsTo s fd ⟨us,[]⟩ (ps.zip (us++ds))
theorem bF.all {fd:FD}(h:∀us:List Value,us.length=ps.length->bindArgs fd ⟨us,[]⟩=pure (ps.zip us)):bF K fd ps []:=λs us _ hl=>by
 rw[F2] at hl |-;exact .of_eq (h us hl)
noncomputable def dZ (CX:zd)(X:Cx)(E:XK):Prop:=∀(pins:List (Addr×Obj))(σ:St)(H:Hp)(s:qm)(e:Value)(s':qm),Inv X pins σ H s->CX X.stack H s E e s'->X.xe e s'
section
variable {X:Cx}{CX:zd}{k:Nat}{f C:Addr}{fd:FD}{ps:DV}{sp:Sp}{dvs:List V}{ds:wW}{E:XK}{x m:Str}{p pos apos:Pos}{e o:Expr}{es:Hy}{ta:TE}{t:TA}
theorem pZ {us:wW}{vs:List V}(F:Ey X.prog X.w X.K X.mg X.base CX k f fd ps sp)(hr:Hz k X.A)(hb:bF X.K fd ps ds)(hd:aN dvs ds)(hx:dZ CX X E)
 (I:Inv X pins σ H s)(r:aN vs us)(h:sp (vs++dvs) H Q E):wpAny (model X.prog X.w) X.A (call (.ref f) us) (EP X pins σ Q) X.xe s:=by
 have r2:aN (vs++dvs) (us++ds):=r.append hd
 have hl:(us++ds).length=ps.length:=by rw[<-r2.length];exact F.len _ _ _ _ h
 refine sI (Gp (F.run X.A X.stack s H ⟨us,[]⟩ (us++ds) (vs++dvs) Q E hr I.aiw (hb s us I.kIn hl) r2 h) λr s' hq=>?_)
 cases r with
 |error e=>exact hx pins σ H s e s' I hq
 |ok fl =>
  cases fl with
  |ret u=>exact I.after hq
  |next=>exact False.elim hq
  |brk=>exact False.elim hq
  |cont=>exact False.elim hq
theorem aA (F:Ey X.prog X.w X.K X.mg X.base CX k f fd ps sp)(hr:Hz k X.A)(hg:Gl X x)(hm:X.mg x=some (.ref f))(hk:PySem.W.keepIn X.K (.ref f)=true)(hb:bF X.K fd ps ds)(hd:aN dvs ds)(hx:dZ CX X E)
 (ha:PA X (e::es) t)(LX:(x==("__debug__":Str))=false:=by decide)(he:starEach (e::es) X.env=(false,eval e X.env):: starEach es X.env:=by rfl)(Kb:(backTo pos (starEach es X.env)).any (·.1)=false:=by rfl):
 PE X (.Call (.Name x p) (e::es) [] pos) (agF sp dvs E t):=by
 intro pins s σ H Q I h;refine yD (fZ I hg hm ?_ LX);refine Ci (h₀:=X.base) I.ok.mod.kin hk (bO (ha pos pins s σ H _ I h) λus s1 ⟨vs,H1,I1,r,q⟩=>⟨I1.kIn,?_⟩) he Kb;exact pZ F hr hb hd hx I1 r q
theorem bU (he:PE X o ta)(c:GW X.K C)(hm:Meth X.K C m f)(F:Ey X.prog X.w X.K X.mg X.base CX k f fd ps sp)(hr:Hz k X.A)(hb:bF X.K fd ps ds)(hd:aN dvs ds)(hx:dZ CX X E)(ha:PA X (e::es) t)
 (LI:starEach (e::es) X.env=(false,eval e X.env):: starEach es X.env:=by rfl)(Kb:(backTo pos (starEach es X.env)).any (·.1)=false:=by rfl)
 (ht:eval (.Call (.Attribute o m apos) (e::es) [] pos) X.env=(do
  let ov <-eval o X.env
  standAt apos.atName
  let(f,first) <-holding [ov] (getMethod ov m pl)
  callWith pos f first (backTo pos (starEach (e::es) X.env)) (backToKw pos (keywordEach [] X.env))):=by rfl):
 PE X (.Call (.Attribute o m apos) (e::es) [] pos) (Da C m sp dvs E ta t):=by
 intro pins s σ H Q I h;refine PySem.W.methodCall_KW (pl:=pl) (bO (he pins s σ H _ I h) λu s1 z'=>?_) ht;obtain⟨x,H1,I1,rx,a,dx,fs,ex,ea,l,q⟩:=z';subst ex;obtain rfl:u=Value.ref a:=rx;refine ma I1 ea c hm l ?_;refine Ci (first:=[.ref a]) (h₀:=X.base) I.ok.mod.kin hm.kp (bO (ha pos pins s1 σ H1 _ I1 q) λus s2 ⟨vs,H2,I2,r,q2⟩=>⟨I2.kIn,?_⟩) LI Kb;exact pZ (us:=.ref a::us) (vs:=.ref a::vs) F hr hb hd hx I2 (.cons rfl r) q2
theorem iX (he:PE X o ta)(c:GW X.K C)(hm:Meth X.K C m f)(F:Ey X.prog X.w X.K X.mg X.base CX k f fd ps sp)(hr:Hz k X.A)(hb:bF X.K fd ps ds)(hd:aN dvs ds)(hx:dZ CX X E)
 (ht:eval (.Call (.Attribute o m apos) [] [] pos) X.env=(do
  let ov <-eval o X.env
  standAt apos.atName
  let(f,first) <-holding [ov] (getMethod ov m pl)
  callWith pos f first (backTo pos (starEach [] X.env)) (backToKw pos (keywordEach [] X.env))):=by rfl):
 PE X (.Call (.Attribute o m apos) [] [] pos) (Da C m sp dvs E ta Ct):=by
 intro pins s σ H Q I h;refine PySem.W.methodCall_KW (pl:=pl) (bO (he pins s σ H _ I h) λu s1 z'=>?_) ht;obtain⟨x,H1,I1,rx,a,dx,fs,ex,ea,l,q⟩:=z';subst ex;obtain rfl:u=Value.ref a:=rx;refine ma I1 ea c hm l ?_;exact PySem.W.callWith_K0 (first:=[.ref a]) I1.kIn hm.kp (pZ (us:=[.ref a]) (vs:=[.ref a]) F hr hb hd hx I1 (.cons rfl .nil) q)
structure Mk (K:PySem.W.Frag)(C f:Addr):Prop where
 makes:PySem.W.makesIn K C=true
 init:PySem.W.findIn K (.ref C) "__init__"=some (some (.ref f))
 fn:PySem.W.isFn K (.ref f)=true
 kp:PySem.W.keepIn K (.ref C)=true
theorem agh {vs:List V}(M:Mk X.K C f)(F:Ey X.prog X.w X.K X.mg X.base CX k f fd ps sp)(hr:Hz (k+1) X.A)(hb:bF X.K fd ps ds)(hd:aN dvs ds)
 (hx:dZ CX X E)(I:Inv X pins σ H s)(r:aN vs us)
 (h:∀x dx,H x=none->H dx=none->dx≠x->sp (.ref x::(vs++dvs)) (upd (upd H dx (.own x)) x (.ins C dx [])) (λv H2=>v=.non/\Q (.ref x) H2) E):
 wpAny (model X.prog X.w) X.A (call (.ref C) us) (EP X pins σ Q) X.xe s:=by
 have hq:=h (s.heap.objs.size+1) s.heap.objs.size (I.hok.fresh (BK _)) (I.hok.fresh (AY _)) (Ho (DN _));have I2:=Inv.made (C:=C) I;have r2:aN (V.ref (s.heap.objs.size+1):: (vs++dvs)) (Value.ref (s.heap.objs.size+1):: (us++ds)):=.cons rfl (r.append hd)
 have hl:(Value.ref (s.heap.objs.size+1):: us++ds).length=ps.length:=by
  have e:=r2.length;rw[F.len _ _ _ _ hq] at e;exact e.symm
 refine sI (abe (f:=f) I.kIn M.makes M.init (Eg.mp M.fn) (Gp (F.run _ X.stack _ _ ⟨Value.ref (s.heap.objs.size+1):: us,[]⟩ (Value.ref (s.heap.objs.size+1):: (us++ds)) _ _ E (hr.make C us [])
  (I2.aiw.make C us []) (hb _ (Value.ref (s.heap.objs.size+1):: us) I2.kIn hl) r2 hq) λr s' Pr=>?_))
 cases r with
 |error e=>exact hx pins σ _ _ e s' I2 Pr
 |ok fl =>
  cases fl with
  |ret u =>
   obtain⟨v,H',I3,rv,ev,q3⟩:=I2.after Pr;subst ev;exact⟨rv,⟨V.ref (s.heap.objs.size+1),H',I3,rfl,q3⟩⟩
  |next=>exact False.elim Pr
  |brk=>exact False.elim Pr
  |cont=>exact False.elim Pr
theorem d3 (M:Mk X.K C f)(F:Ey X.prog X.w X.K X.mg X.base CX k f fd ps sp)(hr:Hz (k+1) X.A)(hg:Gl X x)(hm:X.mg x=some (.ref C))(hb:bF X.K fd ps ds)(hd:aN dvs ds)(hx:dZ CX X E)
 (ha:PA X (e::es) t)(LX:(x==("__debug__":Str))=false:=by decide)(he:starEach (e::es) X.env=(false,eval e X.env):: starEach es X.env:=by rfl)(Kb:(backTo pos (starEach es X.env)).any (·.1)=false:=by rfl):
 PE X (.Call (.Name x p) (e::es) [] pos) (agd C sp dvs E t):=by
 intro pins s σ H Q I h;refine yD (fZ I hg hm ?_ LX);refine Ci (h₀:=X.base) I.ok.mod.kin M.kp (bO (ha pos pins s σ H _ I h) λus s1 ⟨vs,H1,I1,r,q⟩=>⟨I1.kIn,?_⟩) he Kb;exact agh M F hr hb hd hx I1 r q
end
noncomputable def PK (X:Cx)(Pu:List Keyword)(t:TA):Prop :=
 ∀(pos:Pos)(pins:List (Addr×Obj))(s:qm)(σ:St)(H:Hp)(Q:List V->Hp->Prop),Inv X pins σ H s->t σ H Q->wpAny (model X.prog X.w) X.A (evalAll ((backToKw pos (keywordEach Pu X.env)).map (·.2))) (AP X pins σ Q) X.xe s
section
variable {X:Cx}{CX:zd}{k:Nat}{f C:Addr}{fd:FD}{ps ks:DV}{sp:Sp}{E:XK}{x m:Str}{p pos apos kpos:Pos}{e o:Expr}{es:Hy}{Pu:List Keyword}{te ta:TE}{t tk:TA}{nm:Option Str}
theorem agi:PK X [] Ct:=λ_ _ _ _ H Q I h=>wpAny_evalAll_nil ⟨[],H,I,.nil,h⟩
theorem abj (ha:PE X e te)(hr:PK X Pu t):PK X (⟨nm,e,kpos⟩::Pu) (c5 te t):=by
 intro pos pins s σ H Q I h;show wpAny _ _ (evalAll ((do let v <-eval e X.env;standAt pos;pure v):: (backToKw pos (keywordEach Pu X.env)).map (·.2))) _ _ s;refine wpAny_evalAll_cons (IM (bO (ha pins s σ H _ I h) λu s1 ⟨x,H1,I1,r1,q1⟩=>IM (Ex (IV ?_))));exact bO (hr pos pins s1 σ H1 _ I1 q1) λus s2 ⟨xs,H2,I2,r2,q2⟩=>⟨x::xs,H2,I2,.cons r1 r2,q2⟩
variable {g:List Value->List Value->List Value}{gV:List V->List V->List V}
end
structure Ii (N P:DV)(sc:Scope):Prop where
 kind:sc.kind=.function
 co:sc.isCoroutine=false
 gen:sc.isGenerator=false
 nd:N.Nodup
 pre:N.take P.length=P
 par:∀x∈P,sc.names.lookup x=some .local\/sc.names.lookup x=some .cell
 ajF:∀y∈sc.names,y.2≠.free
theorem fu {P:DV}{sc:Scope}(h:sc.kind=.function/\sc.isCoroutine=false/\sc.isGenerator=false/\N.Nodup/\N.take P.length=P/\(∀x∈P,sc.names.lookup x=some .local\/sc.names.lookup x=some .cell)/\∀y∈sc.names,y.2≠.free):Ii N P sc:=⟨h.1,h.2.1,h.2.2.1,h.2.2.2.1,h.2.2.2.2.1,h.2.2.2.2.2.1,h.2.2.2.2.2.2⟩
variable {kindOf:Str->Option NameKind}
theorem ow :∀{binds:List (Str×Value)}{m:Fj},(∀v,(x,v)∉binds)->bindL kindOf binds m x=m x
 |[],_,_=>rfl
 |(n,v):: r,m,h=>by
  unfold bindL;rw[ow λw hw=>h w (AM _ hw)]
  split
  ·have:x≠n:=by rintro rfl;exact h v qG
   simp[this]
  ·rfl
theorem nC :∀{binds:List (Str×Value)}{m:Fj},(∀v,(x,v)∉binds)->bindC kindOf binds m x=m x
 |[],_,_=>rfl
 |(n,v):: r,m,h=>by
  unfold bindC;rw[nC λw hw=>h w (AM _ hw)]
  split
  ·rfl
  ·have:x≠n:=by rintro rfl;exact h v qG
   simp[this]
theorem nO {v:Value}:∀{P:DV}{vs:wW}{i:Nat}{m:Fj},P.Nodup->P[i]?=some x->vs[i]?=some v->kindOf x=some .local →
 bindL kindOf (P.zip vs) m x=some v
 |[],_,_,_,_,h,_,_=>by simp at h
 |_::_,[],_,_,_,_,h,_=>by simp at h
 |p::P,w::vs,0,m,nd,h1,h2,hk=>by
  simp at h1 h2;subst h1;subst h2;show bindL kindOf ((p,w):: P.zip vs) m p=_;unfold bindL;rw[ow λv hv=>(xG.mp nd).1 (xT hv).1,oO hk];simp
 |p::P,w::vs,i+1,m,nd,h1,h2,hk=>by
  show bindL kindOf ((p,w):: P.zip vs) m x=_;unfold bindL;exact nO (i:=i) (xG.mp nd).2 (by simpa using h1) (by simpa using h2) hk
theorem og {v:Value}:∀{P:DV}{vs:wW}{i:Nat}{m:Fj},P.Nodup->P[i]?=some x->vs[i]?=some v->kindOf x≠some .local →
 bindC kindOf (P.zip vs) m x=some v
 |[],_,_,_,_,h,_,_=>by simp at h
 |_::_,[],_,_,_,_,h,_=>by simp at h
 |p::P,w::vs,0,m,nd,h1,h2,hk=>by
  simp at h1 h2;subst h1;subst h2;show bindC kindOf ((p,w):: P.zip vs) m p=_;unfold bindC;rw[nC λv hv=>(xG.mp nd).1 (xT hv).1,DW hk];simp
 |p::P,w::vs,i+1,m,nd,h1,h2,hk=>by
  show bindC kindOf ((p,w):: P.zip vs) m x=_;unfold bindC;exact og (i:=i) (xG.mp nd).2 (by simpa using h1) (by simpa using h2) hk
noncomputable def gA (N:DV)(vs:List V):St:=vs.map some++List.replicate (N.length-vs.length) none
noncomputable def fX (CX:zd)(P:A9)(w:World)(K:PySem.W.Frag)(mg:Fj)(base:Heap)(N:DV)(qual:Str)(scope:Scope)(f:Addr)(cd:Value)(A:Around)(outer:List Env)(s:qm)(H:Hp)(E:XK):Cx where
 prog:=P
 w:=w
 K:=K
 mg:=mg
 base:=base
 A:=A.deeper (envOfC qual scope s.heap.objs.size f cd)
 N:=N
 s₀:=s
 H₀:=H
 env:=envOfC qual scope s.heap.objs.size f cd
 outer:=outer
 stack:=envOfC qual scope s.heap.objs.size f cd::outer
 ex:=[]
 calm:=true
 fn:=λ_=>true
 pn:=[]
 xe:=λe s'=>wpAny (model P w) (A.deeper (envOfC qual scope s.heap.objs.size f cd)) (leaving (envOfC qual scope s.heap.objs.size f cd) e) (λ_ KS=>CX outer H s E e KS) (λe' KS=>CX outer H s E e' KS) s'
theorem qu {sc:Scope}{n:Nat}(h:sc.names.lookup x=some .cell):∃c,(cellsFrom n sc.names []).lookup x=some c:=by
 have q:=PySem.W.cellsFrom_some sc.names n [] (.inl h);exact Ik.mp q
theorem abq {qual:Str}{scope:Scope}{f:Addr}{cd:Value}{s1:qm}{E:XK}{vs:List V}
 (S:Ii N ps scope)(hd:A.handled=none)(e0:GV P w K mg base A outer s H)(hl:vs.length=ps.length)(r:aN vs us)
 (x:InCallC s s.heap.objs.size (bindL (envOfC qual scope s.heap.objs.size f cd).kindOf (ps.zip us) λ_=>none) (cellsFrom (s.heap.objs.size+1) scope.names []) (bindC (envOfC qual scope s.heap.objs.size f cd).kindOf (ps.zip us) λ_=>none) s1):
 Inv (fX CX P w K mg base N qual scope f cd A outer s H E) [] (gA N vs) H s1:=by
 have Kb:ps.length<=N.length:=by have:=DT List.length S.pre;rw[EM] at this;omega
 obtain⟨h1,tk,rfl,hk⟩:=x.done;have Px:∀b:Addr,b∉(fX CX P w K mg base N qual scope f cd A outer s H E).ex:=λb z=>absurd (show b∈([]:List Addr) from z) (by simp)
 refine⟨⟨e0.mod,S.kind,rfl,rfl,AY _,λy z c h1 h2=>?_,λy hy=>?_,λy c _ h=>?_,λ_=>hd,Around.frames_deeper e0.frames,.inr ⟨rfl,rfl⟩,λb z=>absurd z (Px b),e0.bs,e0.bsz,λb _ _=>Px b,λb z=>absurd z (Px b),e0.agq,e0.frf⟩,
  rfl,e0.bare,Un.kept hk,⟨_,x.toInCall.ns,λi y v h1 h2 h3=>?_⟩,λy c h=>⟨_,x.cell y c h⟩,e0.hok.fresh (AY _),λy c h=>?_,λp hp=>absurd (show p∈([]:List (Addr×Obj)) from hp) (by simp),e0.hok.kept hk,?_⟩
 ·exact name_of_addr x.apart (ya h1) (ya h2)
 ·have hy:scope.names.lookup y=some .cell\/scope.names.lookup y=some .free:=hy
  rcases hy with hy|hy
  ·exact qu hy
  ·exact absurd rfl (S.ajF _ (ya hy))
 ·exact HE (x.above y c (ya h))
 ·have hi:i<vs.length:=by
   unfold gA at h2
   by_cases hi:i<vs.length
   ·exact hi
   ·rw[E3 (by simpa using hi)] at h2;rw[List.getElem?_replicate] at h2
    split at h2 <;> cases h2
  have ha:vs[i]?=some v:=by
   unfold gA at h2;rw[Fw (by simpa using hi),BC] at h2
   cases e:vs[i]? with
   |none=>rw[e] at h2;cases h2
   |some a=>rw[e] at h2;cases h2;rfl
  obtain⟨u,hu,rv⟩:=r.get ha
  have hp:ps[i]?=some y:=by
   rw[<-S.pre,tw (by omega)];exact h1
  have Yy:ps.Nodup:=by rw[<-S.pre];exact S.nd.sublist (List.take_sublist _ _)
  refine⟨u,rv,?_⟩
  rcases S.par y (HL hp) with k|k
  ·exact .inl ⟨k,nO Yy hp hu k⟩
  ·obtain⟨c,e⟩:=qu (n:=s.heap.objs.size+1) k;refine .inr ⟨.inl k,c,e,?_⟩;have q:=x.cell y c e;rw[og Yy hp hu (by show scope.names.lookup y≠_;rw[k];decide)] at q;exact q
 ·exact e0.hok.fresh (HE (x.above y c (ya h)))
 ·unfold gA;show _=N.length;rw[Af,wC,GZ];omega
theorem vq {k:Nat}{f:Addr}{name qual:Str}{params:Arguments}{scope:Scope}{dV kV doc pm IZ ct oc:Value}{an od:uJ}
 {Jq:sR}{sp:Sp}(lk:K.lookup f=some ⟨oc,od,.func (PySem.W.fnOf name qual params body scope dV kV doc pm an IZ ct),Jq⟩)(JG:PySem.W.codeIn K IZ qual=true)(S:Ii N ps scope)
 (len:∀vs H Q E,sp vs H Q E->vs.length=ps.length)
 (Jj:∀(A:Around)(outer:List Env)(s:qm)(H:Hp)(vs:List V)(Q:VK)(E:XK),Hz k (A.deeper (envOfC qual scope s.heap.objs.size f IZ))->sp vs H Q E →
  ∃t,gW (fX CX P w K mg base N qual scope f IZ A outer s H E) body t/\t {nx:=λ_ H'=>Q .non H',rt:=Q} (gA N vs) H):
 Ey P w K mg base CX (k+1) f (PySem.W.fnOf name qual params body scope dV kV doc pm an IZ ct) ps sp:=by
 refine⟨len,λA outer s H args us vs Q E hr e0 hb r KG=>?_⟩;have hl:=len _ _ _ _ KG;have KX:K.In s.heap:=e0.mod.kin.keeps λb o e=>(e0.bs b o e).1;have lim:s.heap.NoLimit:=e0.mod.nolimit.keeps λb o e=>(e0.bs b o e).1
 have Kc:∀y∈ps.zip us,scope.names.lookup y.1=some .local\/(scope.names.lookup y.1=some .cell/\((cellsFrom (s.heap.objs.size+1) scope.names []).lookup y.1).isSome=true):=λ⟨n,v⟩ hy=>by
  rcases S.par n (xT hy).1 with q|q
  ·exact .inl q
  ·exact .inr ⟨q,PySem.W.cellsFrom_some _ _ _ (.inl q)⟩
 refine codeAny_call_function hr.depth (KX _ _ lk) rfl S.co S.gen rfl (PySem.W.codeRec_of KX JG) (hb _ _ _ _ ?_);refine wpAny_newFunctionEnv_cells S.kind Kc λenv he s1 x=>?_;subst he;refine⟨lim.keeps x.toInCall.keep,codeAny_func ?_⟩;obtain⟨t,ht,hq⟩:=Jj A outer s H vs Q E (hr.deeper _) KG;have I:Inv (fX CX P w K mg base N qual scope f IZ A outer s H E) [] (gA N vs) H s1:=abq S hr.hd e0 hl r x;refine qx (ht [] s1 (gA N vs) H _ I hq) (λfl s' hs=>?_) λe s' hs=>hs
 have fin:∀{σ':St}{H':Hp}{v:V}{u:Value},Inv (fX CX P w K mg base N qual scope f IZ A outer s H E) [] σ' H' s'->aE v u->Q v H'->CE outer P w H s Q u s' :=
  λ{σ' H' v u} J rv q=>⟨v,H',J.os,J.bare,J.base,J.hok,rv,q⟩
 cases fl with
 |ret u =>
  obtain⟨v,σ',H',J,rv,q⟩:=hs;exact fin J rv q
 |next =>
  obtain⟨σ',H',J,q⟩:=hs;exact fin (v:=V.non) (u:=Value.none) J rfl q
 |brk =>
  obtain⟨_,_,_,q⟩:=hs;exact False.elim q
 |cont =>
  obtain⟨_,_,_,q⟩:=hs;exact False.elim q
section
variable {X:Cx}{x:Str}{p pos:Pos}{e:Expr}{es:Hy}{t:TA}{id T:String}{r:List V->Hp->VK->Prop}
noncomputable def IK (r:List V->Hp->VK->Prop)(t:TA):TE:=λσ H Q=>t σ H λvs H1=>r vs H1 Q
theorem aI (hc:eV X (.builtin id) r)(hg:Gl X x)(hm:X.mg x=none)(hv:bootBuiltins x=some (.builtin id))(ha:PA X (e::es) t)(hn:x ≠ "__name__":=by decide)(LX:(x==("__debug__":Str))=false:=by decide)
 (he:starEach (e::es) X.env=(false,eval e X.env):: starEach es X.env:=by rfl)(Kb:(backTo pos (starEach es X.env)).any (·.1)=false:=by rfl):PE X (.Call (.Name x p) (e::es) [] pos) (IK r t):=by
 intro pins s σ H Q I h;refine yD (eK I hg hm hv ?_ hn LX);exact PyProof.Rows.callWith_builtin1 (bO (ha pos pins s σ H _ I h) λus s1 ⟨vs,H1,I1,r1,q1⟩=>hc pins s1 σ H1 vs us Q I1 r1 q1) he Kb
theorem cX (hc:eV X (.type T) r)(hg:Gl X x)(hm:X.mg x=none)(hv:bootBuiltins x=some (.type T))(ha:PA X (e::es) t)(hn:x ≠ "__name__":=by decide)(LX:(x==("__debug__":Str))=false:=by decide)
 (he:starEach (e::es) X.env=(false,eval e X.env):: starEach es X.env:=by rfl)(Kb:(backTo pos (starEach es X.env)).any (·.1)=false:=by rfl):PE X (.Call (.Name x p) (e::es) [] pos) (IK r t):=by
 intro pins s σ H Q I h;refine yD (eK I hg hm hv ?_ hn LX);exact BE (bO (ha pos pins s σ H _ I h) λus s1 ⟨vs,H1,I1,r1,q1⟩=>hc pins s1 σ H1 vs us Q I1 r1 q1) he Kb
end
section
variable {κ:Type} [DecidableEq κ]
noncomputable def dN (IY:List (κ×V))(k:κ):Option V:=(IY.find? λkv=>decide (kv.1=k)).map (·.2)
noncomputable def eF (IY:List (κ×V))(k:κ)(v:V):List (κ×V):=
 if(IY.any λkv=>decide (kv.1=k))=true then IY.map (λkv=>if kv.1=k then(kv.1,v) else kv) else IY++[(k,v)]
theorem ck {p:κ×V}{r:List (κ×V)}{k:κ}(e:p.1=k):dN (p::r) k=some p.2:=by simp[dN,Br,e]
theorem cg {p:κ×V}{r:List (κ×V)}{k:κ}(e:¬p.1=k):dN (p::r) k=dN r k:=by simp[dN,Br,e]
theorem gF (k:κ):∀IY:List (κ×V),(IY.any λkv=>decide (kv.1=k))=(dN IY k).isSome
 |[]=>rfl
 |p::r=>by
  rw[Fy]
  by_cases e:p.1=k
  ·simp only[ck e,IW e,Bool.true_or,Option.isSome_some]
  ·rw[cg e,HW e,Bool.false_or];exact gF k r
theorem rA (k j:κ)(y:V):∀IY:List (κ×V),dN (IY.map λkv=>if kv.1=k then(kv.1,y) else kv) j=(dN IY j).map λx=>if j=k then y else x
 |[]=>rfl
 |p::r=>by
  have ih:=rA k j y r;rw[xx]
  by_cases h:p.1=k
  ·rw[oO h]
   by_cases e:p.1=j
   ·rw[ck (p:=(p.1,y)) e,ck e,Option.map_some,oO (e.symm.trans h)]
   ·rw[cg (p:=(p.1,y)) e,cg e,ih]
  ·rw[DW h]
   by_cases e:p.1=j
   ·rw[ck (p:=p) e,ck e,Option.map_some,DW (λz=>h (e.trans z))]
   ·rw[cg (p:=p) e,cg e,ih]
theorem oa (k j:κ)(y:V):∀IY:List (κ×V),dN IY k=none->dN (IY++[(k,y)]) j=if j=k then some y else dN IY j
 |[],_=>by
  by_cases e:k=j
  ·rw[oO e.symm];exact ck (p:=(k,y)) e
  ·rw[DW (λz=>e z.symm)];exact cg (p:=(k,y)) e
 |p::r,hn=>by
  rw[List.cons_append]
  have hk:¬p.1=k:=λz=>by rw[ck z] at hn;cases hn
  rw[cg hk] at hn;have ih:=oa k j y r hn
  by_cases e:p.1=j
  ·rw[ck e,ck e,DW (λz=>hk (e.trans z))]
  ·rw[cg e,cg e,ih]
theorem kX (IY:List (κ×V))(k j:κ)(y:V):dN (eF IY k y) j=if j=k then some y else dN IY j:=by
 unfold eF
 by_cases a:(IY.any λkv=>decide (kv.1=k))=true
 ·rw[oO a,rA];rw[gF] at a
  by_cases e:j=k
  ·obtain⟨x,hx⟩:=Ik.mp a;rw[oO e,e,hx,Option.map_some,oO rfl]
  ·rw[DW e]
   cases dN IY j with
   |none=>rfl
   |some x=>rw[Option.map_some,DW e]
 ·rw[DW a];refine oa k j y IY ?_;rw[gF] at a
  cases q:dN IY k with
  |none=>rfl
  |some x=>rw[q] at a;exact(a rfl).elim
theorem gG (IY:List (κ×V))(k:κ)(v:V):(eF IY k v).length<=IY.length+1:=by
 unfold eF
 split
 ·rw[wC];omega
 ·rw[Af,sC,yX];omega
theorem gh.agu {o:Option V}{u:Ie}(r:gh o u):o.isSome=u.isSome:=by
 cases o with
 |none=>cases u with
  |none=>rfl
  |some _=>exact(show False from r).elim
 |some _=>cases u with
  |none=>exact(show False from r).elim
  |some _=>rfl
theorem gh.getD {o:Option V}{u:Ie}{d:V}{d':Value}(r:gh o u)(rd:aE d d'):aE (o.getD d) (u.getD d'):=by
 cases o with
 |none=>cases u with
  |none=>exact rd
  |some _=>exact(show False from r).elim
 |some _=>cases u with
  |none=>exact(show False from r).elim
  |some _=>exact r
theorem KV.val {IY:List (κ×V)}{vs:List (κ×Value)}(r:KV IY vs)(k:κ):gh (dN IY k) (valueAt vs k):=by
 unfold KV at r
 induction r with
 |nil=>exact True.intro
 |@cons p q ps qs h t ih =>
  obtain⟨h1,h2⟩:=h
  by_cases e:p.1=k
  ·have e':q.1=k:=h1.symm.trans e
   have b:valueAt (q::qs) k=some q.2:=by simp[valueAt,Br,e']
   rw[ck e,b];exact h2
  ·have e':¬q.1=k:=λz=>e (h1.trans z)
   have b:valueAt (q::qs) k=valueAt qs k:=by simp[valueAt,Br,e']
   rw[cg e,b];exact ih
theorem KV.any {IY:List (κ×V)}{vs:List (κ×Value)}(r:KV IY vs)(k:κ):(IY.any λkv=>decide (kv.1=k))=vs.any λkv=>decide (kv.1=k):=by
 unfold KV at r
 induction r with
 |nil=>rfl
 |cons h t ih=>rw[Fy,Fy,ih,h.1]
theorem KV.ajG {IY:List (κ×V)}{vs:List (κ×Value)}(r:KV IY vs)(k:κ)(ry:aE y u):
 KV (IY.map λkv=>if kv.1=k then(kv.1,y) else kv) (vs.map λkv=>if kv.1=k then(kv.1,u) else kv):=by
 unfold KV at r |-
 induction r with
 |nil=>exact .nil
 |@cons p q ps qs h t ih =>
  rw[xx,xx];refine .cons ?_ ih;obtain⟨h1,h2⟩:=h
  by_cases e:p.1=k
  ·rw[oO e,oO (h1.symm.trans e)];exact⟨h1,ry⟩
  ·rw[DW e,DW (λz=>e (h1.trans z))];exact⟨h1,h2⟩
theorem KV.put {IY:List (κ×V)}{vs:List (κ×Value)}(r:KV IY vs)(k:κ)(ry:aE y u):KV (eF IY k y) (stored vs k u):=by
 unfold eF stored;rw[r.any k]
 by_cases e:(vs.any λkv=>decide (kv.1=k))=true
 ·rw[oO e,oO e];exact r.ajG k ry
 ·rw[DW e,DW e];exact xC r ⟨rfl,ry⟩
theorem KV.length {IY:List (κ×V)}{vs:List (κ×Value)}(r:KV IY vs):IY.length=vs.length:=zX r
end
theorem nX {k:Key}(r:aE (kV k) u):(bR P w).is k u=true:=by
 cases k with
 |inl i=>obtain⟨t,e⟩:=(show ∃t,u=Value.int i t from r);subst e;exact aaB P w i t
 |inr x=>obtain⟨t,e⟩:=(show ∃t,u=Value.str x t from r);subst e;exact aaO P w x t
theorem nJ :∀{ks:List Key}{us:wW},aN (ks.map kV) us->ItemsAre (bR P w) ks us
 |[],_,r=>by rw[List.map_nil] at r;cases r;exact .nil
 |k::ks,_,r=>by
  rw[xx] at r
  cases r with
  |cons h t=>exact .cons (nX h) (nJ t)
noncomputable abbrev KT (H:Hp):List (List Key×V)->List (List Key×Addr×Value)->Prop:=Paired λp q=>p.1=q.1/\H q.2.1=some (.tup (p.1.map kV))/\aE p.2 q.2.2
variable {IY:List (List Key×V)}{xs:List (List Key×Addr×Value)}
theorem KT.val (r:KT H IY xs)(k:List Key):gh (dN IY k) ((atKey xs k).map (·.2)):=by
 induction r with
 |nil=>exact True.intro
 |@cons p q ps qs h t ih =>
  obtain⟨h1,_,h2⟩:=h
  by_cases e:p.1=k
  ·have e':q.1=k:=h1.symm.trans e
   have b:atKey (q::qs) k=some q.2:=by simp[atKey,Br,e']
   rw[ck e,b];exact h2
  ·have e':¬q.1=k:=λz=>e (h1.trans z)
   have b:atKey (q::qs) k=atKey qs k:=by simp[atKey,Br,e']
   rw[cg e,b];exact ih
theorem KT.ajG (r:KT H IY xs)(k:List Key)(ry:aE y u):
 KT H (IY.map λkv=>if kv.1=k then(kv.1,y) else kv) (xs.map (putAt k u)):=by
 induction r with
 |nil=>exact .nil
 |@cons p q ps qs h t ih =>
  rw[xx,xx];refine .cons ?_ ih;obtain⟨h1,h2,h3⟩:=h;unfold putAt
  by_cases e:p.1=k
  ·rw[oO e,oO (h1.symm.trans e)];exact⟨h1,h2,ry⟩
  ·rw[DW e,DW (λz=>e (h1.trans z))];exact⟨h1,h2,h3⟩
theorem KT.put (r:KT H IY xs)(k:List Key)(hb:H b=some (.tup (k.map kV)))(ry:aE y u):
 KT H (eF IY k y) (storedH xs k b u):=by
 have e:(IY.any λkv=>decide (kv.1=k))=(atKey xs k).isSome:=by
  rw[gF,(r.val k).agu,F6]
 unfold eF storedH;rw[e]
 by_cases q:(atKey xs k).isSome=true
 ·rw[oO q,oO q];exact r.ajG k ry
 ·rw[DW q,DW q];exact xC r ⟨rfl,hb,ry⟩
theorem KT.keeps (r:KT H IY xs)(ht:∀b ys,H b=some (.tup ys)->H' b=some (.tup ys)):KT H' IY xs :=
 Paired.ahM r λ_ _ z=>⟨z.1,ht _ _ z.2.1,z.2.2⟩
section
variable {P:A9}{w:World}{H:Hp}{h:Heap}{a:Addr}
theorem C2 {u:HO}(ok:fF P w H h)(e:Rd H a u):a9 P w H h a u:=e.ok ok
theorem lj {IY:List (Key×V)}(ok:fF P w H h)(e:Rd H a (.dK IY)):IY.length<=sizeLine/\(a==sysModules)=false/\∃vs,KV IY vs/\h.DictOf (bR P w) a vs :=
 show a9 P w H h a (.dK IY) from C2 ok e
theorem abt {IY:List (Key×V)}(ok:fF P w H h)(e:H a=some (.dK IY)):IY.length<=sizeLine/\(a==sysModules)=false/\∃vs,KV IY vs/\h.DictOf (bR P w) a vs:=lj ok (.inl e)
theorem hZ {ks:List Key}(ok:fF P w H h)(e:H a=some (.tup (ks.map kV))):(tupleKind (bR P w)).is h ks a:=by
 obtain⟨_,its,r,o,h1,h2,n,h3⟩:=(show a9 P w H h a (.tup (ks.map kV)) from ok a _ e);exact⟨o,its.toArray,n,h1,h2,h3,by simpa using nJ r⟩
theorem mq (ok:fF P w H h)(e:Rd H a (.dT IY)):IY.length<=sizeLine/\(a==sysModules)=false /\
 ∃xs,KT H IY xs/\h.DictOfH (tupleKind (bR P w)) a xs:=by
 obtain⟨z,y,xs,r,o,es,ep,h1,h2,h3,h4,h5⟩:=(show a9 P w H h a (.dT IY) from C2 ok e);refine⟨z,y,xs,r,o,es,ep,h1,h2,h3,h4,λx hx=>?_,h5⟩
 have all:∀{l:List (List Key×V)}{m:List (List Key×Addr×Value)},KT H l m->∀x∈m,(tupleKind (bR P w)).is h x.1 x.2.1:=by
  intro l m q
  induction q with
  |nil=>intro x hx;exact nomatch hx
  |@cons p q ps qs hq t ih =>
   intro x hx
   rcases Ef.mp hx with e|hx
   ·subst e;exact hZ ok (by rw[<-hq.1];exact hq.2.1)
   ·exact ih x hx
 exact all r x hx
theorem C5 (ok:fF P w H h)(e:H a=some (.dT IY)):IY.length<=sizeLine/\(a==sysModules)=false /\
 ∃xs,KT H IY xs/\h.DictOfH (tupleKind (bR P w)) a xs:=mq ok (.inl e)
end
noncomputable def gf (H:Hp)(a:Addr)(y:V)(r:Option V):Prop :=
 (∃IY k,Rd H a (.dK IY)/\y=kV k/\r=dN IY k)\/∃IY k b,Rd H a (.dT IY)/\y=.ref b/\H b=some (.tup (k.map kV))/\r=dN IY k
noncomputable def pQ (H:Hp)(a:Addr)(y v:V)(H':Hp):Prop :=
 (∃IY k,H a=some (.dK IY)/\y=kV k/\IY.length<sizeLine/\H'=upd H a (.dK (eF IY k v))) \/
 ∃IY k b,H a=some (.dT IY)/\y=.ref b/\H b=some (.tup (k.map kV))/\IY.length<sizeLine/\H'=upd H a (.dT (eF IY k v))
theorem gf.t {b:Addr}{k:List Key}(e:H a=some (.dT IY))(eb:H b=some (.tup (k.map kV))):gf H a (.ref b) (dN IY k):=.inr ⟨IY,k,b,.inl e,rfl,eb,rfl⟩
theorem pQ.t {b:Addr}{k:List Key}{v:V}(e:H a=some (.dT IY))(eb:H b=some (.tup (k.map kV)))(hl:IY.length<sizeLine):
 pQ H a (.ref b) v (upd H a (.dT (eF IY k v))):=.inr ⟨IY,k,b,e,rfl,eb,hl,rfl⟩
section
variable {X:Cx}{pins:List (Addr×Obj)}{σ:St}{H:Hp}{s:qm}{a:Addr}{y v:V}{u r:Value}{o:Option V}{A:Around}{E:zQ}
theorem Inv.big (I:Inv X pins σ H s):sysModules<s.heap.objs.size:=by
 have h:mainGlobals<s.heap.objs.size:=(I.mod.glob.keeps I.bk).lt;exact BX (by decide) h
theorem abw {Q:zQ}(hu:A.units+1<cLine)(I:Inv X pins σ H s)(g:gf H a y (some v))(ry:aE y u)(h:∀w' s',Inv X pins σ H s'->aE v w'->Q w' s'):
 wpAny (model X.prog X.w) A (getItem (.ref a) u) Q E s:=by
 rcases g with⟨IY,k,e,ey,l⟩|⟨IY,k,b,e,ey,eb,l⟩
 ·subst ey;obtain⟨z,hd,vs,rel,dd⟩:=lj I.hok e;obtain⟨w',hw,JM⟩:=gh.some_of (v:=v) (o:=valueAt vs k) (by rw[l];exact rel.val k);exact wpAny_getItem_of (nX ry) dd.mapOf hw (h w' _ (I.tok _) JM)
 ·subst ey
  cases(show u=Value.ref b from ry)
  obtain⟨z,hd,xs,rel,dd⟩:=mq I.hok e;obtain⟨w',hw,JM⟩:=gh.some_of (v:=v) (o:=(atKey xs k).map (·.2)) (by rw[l];exact rel.val k);obtain⟨p,hp,ON⟩:=lM.mp hw;refine wpAny_getItem_heap (CT hu) (hZ I.hok eb) dd hp ?_;rw[ON];exact h w' _ (I.tok _) JM
theorem abH {Q:zQ}(hu:A.units+1<cLine)(I:Inv X pins σ H s)(g:gf H a y o)(ry:aE y u)(h:∀s',Inv X pins σ H s'->Q (.bool o.isSome) s'):
 wpAny (model X.prog X.w) A (compareOp .In u (.ref a)) Q E s:=by
 rcases g with⟨IY,k,e,ey,l⟩|⟨IY,k,b,e,ey,eb,l⟩
 ·subst ey;obtain⟨z,hd,vs,rel,dd⟩:=lj I.hok e;refine wpAny_in_of (nX ry) hd dd.mapOf ?_;rw[<-(rel.val k).agu,<-l];exact h _ (I.tok _)
 ·subst ey
  cases(show u=Value.ref b from ry)
  obtain⟨z,hd,xs,rel,dd⟩:=mq I.hok e;refine wpAny_in_heap (CT hu) (hZ I.hok eb) hd dd ?_;have q:=(rel.val k).agu;rw[F6] at q;rw[<-q,<-l];exact h _ (I.tok _)
theorem isI {Q:zQ}(hu:A.units+1<cLine)(I:Inv X pins σ H s)(g:gf H a y o)(ry:aE y u)(h:∀s',Inv X pins σ H s'->Q (.bool (!o.isSome)) s'):
 wpAny (model X.prog X.w) A (compareOp .NotIn u (.ref a)) Q E s:=by
 rcases g with⟨IY,k,e,ey,l⟩|⟨IY,k,b,e,ey,eb,l⟩
 ·subst ey;obtain⟨z,hd,vs,rel,dd⟩:=lj I.hok e;refine wpAny_notIn_of (nX ry) hd dd.mapOf ?_;rw[<-(rel.val k).agu,<-l];exact h _ (I.tok _)
 ·subst ey
  cases(show u=Value.ref b from ry)
  obtain⟨z,hd,xs,rel,dd⟩:=mq I.hok e;refine wpAny_notIn_heap (CT hu) (hZ I.hok eb) hd dd ?_;have q:=(rel.val k).agu;rw[F6] at q;rw[<-q,<-l];exact h _ (I.tok _)
theorem p4 {h':Heap}{t':Nat}{ob:HO}(I:Inv X pins σ H s)(mu:F3 (H a))(hs:Heap.SameBut a s.heap h')(he:∃q,h'.get? a=some q)(new:a9 X.prog X.w (upd H a ob) h' a ob):
 Inv X pins σ (upd H a ob) {s with heap:=h',toks:=t'}:=
 I.write (x:=a) (e:=a) mu (.inl rfl) (λb q hb z=>(hs.2 b hb).trans z) he new
theorem Gth {h':Heap}{IY:List (Key×V)}{vs:List (Key×Value)}(z:IY.length<=sizeLine)(hd:(a==sysModules)=false)(rel:KV IY vs)(dd:h'.DictOf (bR P w) a vs):
 a9 P w H' h' a (.dK IY):=⟨z,hd,vs,rel,dd⟩
theorem aa8 {Q:Unit->Shared->Prop}(hu:A.units+1<cLine)(I:Inv X pins σ H s)(g:pQ H a y v H')(ry:aE y u)(rv:aE v r)(h:∀s',Inv X pins σ H' s'->Q () s'):
 wpAny (model X.prog X.w) A (setItem (.ref a) u r) Q E s:=by
 rcases g with⟨IY,k,e,ey,l,eH⟩|⟨IY,k,b,e,ey,eb,l,eH⟩
 ·subst ey eH;obtain⟨z,hd,vs,rel,dd⟩:=abt I.hok e
  have hz:vs.length<=sizeLine:=by rw[<-rel.length];exact z
  have hl:(eF IY k v).length<=sizeLine:=by have:=gG IY k v;omega
  refine wpAny_setItem_pairs (hsz:=hz) (nX ry) dd λh' OO hs=>h _ ?_;have he:∃q,h'.get? a=some q:=let⟨q,_,_,hq,_⟩:=OO;⟨q,hq⟩;exact p4 I (by rw[e];exact True.intro) hs he (Gth hl hd (rel.put k rv) OO)
 ·subst ey eH
  cases(show u=Value.ref b from ry)
  obtain⟨z,hd,xs,rel,dd⟩:=C5 I.hok e
  have hz:xs.length<=sizeLine:=by rw[<-zX rel];exact z
  have hl:(eF IY k v).length<=sizeLine:=by have:=gG IY k v;omega
  refine wpAny_setItem_heap (hsz:=hz) (CT hu) (hZ I.hok eb) dd λh' OO hs=>h _ ?_;obtain⟨q,es,ep,hq,h2,h3,h4,_,h5⟩:=OO;refine p4 I (by rw[e];exact True.intro) hs ⟨q,hq⟩ ⟨hl,hd,_,(rel.put k eb rv).keeps λc ys ec=>?_,q,es,ep,hq,h2,h3,h4,h5⟩;rw[au (nt ec e (λz=>nomatch z))];exact ec
end
noncomputable def GG (i:Expr):Prop:=∀ov iv,subscripted i false ov iv=operate [ov,iv] (getItem ov iv)
theorem abh {prog:A9}{E:zQ}{env:Env}{value slice:Expr}{T id:String}{Q:zQ}
 (hl:typeLookup (.type T) "__getitem__"=pure (some (.builtin id)))(hs:GG slice)
 (h:wpAny (model prog w) A (eval value env) (λo s₁=>wpAny (model prog w) A (eval slice env) (λi s₂=>s₂.TypeIs o T/\wpAny (model prog w) A (getItem o i) Q E s₂) E s₁) E s):
 wpAny (model prog w) A (eval (.Subscript value slice pos) env) Q E s:=by
 refine Subscript_ (qx h (λo s₁ h₁=>qx h₁ (λi s₂ h₂=>?_) λ_ _ x=>x) λ_ _ x=>x);obtain⟨hT,h₂⟩:=h₂;unfold subscriptTail;refine IM ?_;rw[getitemInPython_of_ne hT.not_modules];refine IM (wpAny_specialOf hT hl ?_)
 have fin:wpAny (model prog w) A (subscripted slice false o i) (λr s₃=>wpAny (model prog w) A (letTemporaryGo value o r>>=λ_=>pure r) Q E s₃) E s₂:=by
  rw[hs o i];exact wpAny_operating (qx h₂ (λr s₃ h₃=>IM (wpAny_letTemporaryGo (IV h₃))) λ_ _ x=>x)
 first
  |exact IV (IM fin)
  |exact IM (IV (IM fin))
  |exact IM fin
theorem abr {o:Option V}(I:Inv X pins σ H s)(g:gf H a y o):s.TypeIs (.ref a) "dict":=by
 rcases g with⟨IY,k,e,_,_⟩|⟨IY,k,b,e,_,_,_⟩
 ·obtain⟨_,_,vs,_,dd⟩:=lj I.hok e;exact dd.typeIs
 ·obtain⟨_,_,xs,_,dd⟩:=mq I.hok e;exact dd.typeIs
noncomputable def abu (td ty:TE):TE:=λσ H Q=>td σ H λx H1=>ty σ H1 λy H2=>∃a v,x=.ref a/\gf H2 a y (some v)/\Q v H2
noncomputable def abN (ty td:TE):TE:=λσ H Q=>ty σ H λy H1=>td σ H1 λx H2=>∃a o,x=.ref a/\gf H2 a y o/\Q (.bl o.isSome) H2
noncomputable def abO (ty td:TE):TE:=λσ H Q=>ty σ H λy H1=>td σ H1 λx H2=>∃a o,x=.ref a/\gf H2 a y o/\Q (.bl (!o.isSome)) H2
noncomputable def Cls (td ty tv:TE):TS:=λD σ H=>tv σ H λv H1=>td σ H1 λx H2=>ty σ H2 λy H3=>∃a H4,x=.ref a/\pQ H3 a y v H4/\D.nx σ H4
section
variable {X:Cx}{o i e value:Expr}{pos pos' UK:Pos}{td ty tv:TE}
theorem iC (hu:X.A.units+1<cLine)(ho:PE X o td)(hi:PE X i ty)(hs:GG i):PE X (.Subscript o i pos) (abu td ty):=by
 intro pins s σ H Q I h;refine abh PySem.F.slot_dict_getitem.lookup hs (bO (ho pins s σ H _ I h) λu s1 ⟨x,H1,I1,rx,q1⟩=>bO (hi pins s1 σ H1 _ I1 q1) λiv s2 z'=>?_);obtain⟨y,H2,I2,ry,a,v,ex,g,q2⟩:=z';subst ex;obtain rfl:u=Value.ref a:=rx;exact⟨abr I2 g,abw hu I2 g ry λw' s3 I3 JM=>⟨v,H2,I3,JM,q2⟩⟩
theorem agJ (hu:X.A.units+1<cLine)(hi:PE X i ty)(ho:PE X o td):PC X .In i o (abN ty td):=by
 intro pins s σ H Q I h;refine bO (hi pins s σ H _ I h) λiv s1 ⟨y,H1,I1,ry,q1⟩=>bO (ho pins s1 σ H1 _ I1 q1) λu s2 z'=>?_;obtain⟨x,H2,I2,rx,a,ov,ex,g,q2⟩:=z';subst ex;obtain rfl:u=Value.ref a:=rx;exact abH hu I2 g ry λs3 I3=>⟨.bl ov.isSome,H2,I3,rfl,q2⟩
theorem abg (hu:X.A.units+1<cLine)(hi:PE X i ty)(ho:PE X o td):PC X .NotIn i o (abO ty td):=by
 intro pins s σ H Q I h;refine bO (hi pins s σ H _ I h) λiv s1 ⟨y,H1,I1,ry,q1⟩=>bO (ho pins s1 σ H1 _ I1 q1) λu s2 z'=>?_;obtain⟨x,H2,I2,rx,a,ov,ex,g,q2⟩:=z';subst ex;obtain rfl:u=Value.ref a:=rx;exact isI hu I2 g ry λs3 I3=>⟨.bl (!ov.isSome),H2,I3,rfl,q2⟩
theorem oZ (hu:X.A.units+1<cLine)(ho:PE X o td)(hi:PE X i ty)(hv:PE X value tv)(hs:swapsWith value (some (.Subscript o i pos')) pos.line X.env=pure false):
 PS X (.Assign [.Subscript o i pos'] value pos) (Cls td ty tv):=by
 intro pins s σ H D I h;refine wpAny_Assign_Subscript (bO (hv pins s σ H _ I h) λr s1 ⟨v,H1,I1,rv,q1⟩=>bO (ho pins s1 σ H1 _ I1 q1) λu s2 ⟨x,H2,I2,rx,q2⟩=>bO (hi pins s2 σ H2 _ I2 q2) λiv s3 z'=>?_) hs;obtain⟨y,H3,I3,ry,a,H4,ex,g,q3⟩:=z';subst ex;obtain rfl:u=Value.ref a:=rx;exact aa8 hu I3 g ry rv λs4 I4=>⟨σ,H4,I4,q3⟩
end
theorem abo (h:Heap)(hb:sysModules<h.objs.size):a9 P w H (h.push {cls:=.type "dict",data:=.dict #[]}) h.objs.size (.dK []):=
 ⟨GH _,CP.mpr (Hw (Ho hb)),[],.nil,Heap.DictOf.new h⟩
theorem rS (h:Heap)(hb:sysModules<h.objs.size):a9 P w H (h.push {cls:=.type "dict",data:=.dict #[]}) h.objs.size (.dT []):=
 ⟨GH _,CP.mpr (Hw (Ho hb)),[],.nil,_,#[],0,HR _ rfl,⟨rfl,rfl,rfl⟩,rfl,rfl,tD⟩
noncomputable def ajH:TE:=λ_ H Q=>∀p,H p=none->Q (.ref p) (upd H p (.dK []))
noncomputable def ajI:TE:=λ_ H Q=>∀p,H p=none->Q (.ref p) (upd H p (.dT []))
section
variable {X:Cx}{pos:Pos}
theorem abD:PE X (.Dict [] [] pos) ajH:=λpins s σ H Q I h =>
 wpAny_Dict_empty ⟨.ref s.heap.objs.size,_,I.laid (a:=s.heap.objs.size) (o:=.dK []) (t':=s.toks) (λ_ _ q=>xQ _ q) (AY _) (abo s.heap I.big),rfl,h _ (I.hok.fresh (AY _))⟩
theorem rH:PE X (.Dict [] [] pos) ajI:=λpins s σ H Q I h =>
 wpAny_Dict_empty ⟨.ref s.heap.objs.size,_,I.laid (a:=s.heap.objs.size) (o:=.dT []) (t':=s.toks) (λ_ _ q=>xQ _ q) (AY _) (rS s.heap I.big),rfl,h _ (I.hok.fresh (AY _))⟩
end
structure M2 (X:Cx)(o:Expr)(m:Str)(apos:Pos)(e f:Expr)(Jk:Pos):Prop where
 base:attributeBase o m X.env (eval o X.env)=eval o X.env
 few:((backTo Jk (starEach [e,f] X.env)).all (λx=>!x.1)&&(backToKw Jk (keywordEach [] X.env)).all (λx=>x.1.isSome)
  && decide (([e,f]:Hy).length+([]:List Keyword).length+(if([]:List Keyword).isEmpty then 0 else 1)<30))=true
 line:(apos.endLine==Jk.line)=true
 trees:backTo Jk (starEach [e,f] X.env)=[(false,eval e X.env),(false,eval f X.env)]
noncomputable def IF (H:Hp)(a:Addr):Prop:=(∃IY,Rd H a (.dK IY))\/∃IY,Rd H a (.dT IY)
theorem abT (I:Inv X pins σ H s)(d:IF H a):
 s.TypeIs (.ref a) "dict"/\(∀b,Value.ref a=.ref b->∃ob,s.heap.get? b=some ob/\ob.dict=none)/\(a==sysModules)=false:=by
 rcases d with⟨IY,e⟩|⟨IY,e⟩
 ·obtain⟨_,hd,vs,_,dd⟩:=lj I.hok e;refine⟨dd.typeIs,λb q=>?_,hd⟩
  cases q
  obtain⟨ob,_,_,h1,h2,_⟩:=dd;exact⟨ob,h1,h2.2.1⟩
 ·obtain⟨_,hd,xs,_,dd⟩:=mq I.hok e;refine⟨dd.typeIs,λb q=>?_,hd⟩
  cases q
  obtain⟨ob,_,_,h1,h2,_⟩:=dd;exact⟨ob,h1,h2.2.1⟩
section
variable {X:Cx}{pins:List (Addr×Obj)}{σ:St}{H:Hp}{s:qm}{a:Addr}{y d:V}{u r:Value}{o:Option V}{A:Around}{E:zQ}
theorem agM {Q:zQ}(hu:A.units+1<cLine)(I:Inv X pins σ H s)(g:gf H a y o)(ry:aE y u)(rd:aE d r)(h:∀w' s',Inv X pins σ H s'->aE (o.getD d) w'->Q w' s'):
 wpAny (model X.prog X.w) A (call (.builtin "dict.get") [.ref a,u,r]) Q E s:=by
 rcases g with⟨IY,k,e,ey,l⟩|⟨IY,k,b,e,ey,eb,l⟩
 ·subst ey;obtain⟨z,hd,vs,rel,dd⟩:=lj I.hok e;refine call_meetsIn Cg dd.typeIs PySem.F.entry_dict_get (PySem.F.args_dict_get_3 _ _ _) (meets_dict_get_default (bR X.prog X.w) a (nX ry) hd r) ⟨_,dd.mapOf,h _ _ (I.tok _) ?_⟩;rw[l];exact(rel.val k).getD rd
 ·subst ey
  cases(show u=Value.ref b from ry)
  obtain⟨z,hd,xs,rel,dd⟩:=mq I.hok e;refine call_meetsIn Cg dd.typeIs PySem.F.entry_dict_get (PySem.F.args_dict_get_3 _ _ _) (meetsH_dict_get_default (tupleKind (bR X.prog X.w)) a b hd r) ⟨CT hu,k,xs,hZ I.hok eb,dd,h _ _ (I.tok _) ?_⟩;rw[l];exact(rel.val k).getD rd
end
noncomputable def agN (td ty tx:TE):TE:=λσ H Q=>td σ H λx H1=>∃a,x=.ref a/\IF H1 a/\ty σ H1 λy H2=>tx σ H2 λz H3=>∃o,gf H3 a y o/\Q (o.getD z) H3
section
variable {X:Cx}{o e f:Expr}{apos Jk:Pos}{td ty tx:TE}
theorem CXT (hu:X.A.units+1<cLine)(ho:PE X o td)(he:PE X e ty)(hf:PE X f tx)(m:M2 X o "get" apos e f Jk):PE X (.Call (.Attribute o "get" apos) [e,f] [] Jk) (agN td ty tx):=by
 intro pins s σ H Q I h;refine wpAny_Call_method m.base m.few m.line PySem.F.plainAttrs_dict Cg PySem.F.type_dict_get (bO (ho pins s σ H _ I h) λu s1 z'=>?_);obtain⟨x,H1,I1,rx,a,ex,d,q1⟩:=z';subst ex;obtain rfl:u=Value.ref a:=rx;obtain⟨t1,t2,_⟩:=abT I1 d;refine⟨t1,t2,?_⟩;rw[m.trees]
 refine Fx rfl (D4 (Aw (bO (he pins s1 σ H1 _ I1 q1) λiv s2 ⟨y,H2,I2,ry,q2⟩ =>
  Aw (bO (hf pins s2 σ H2 _ I2 q2) λfv s3 ⟨z,H3,I3,rz,ov,g,q3⟩=>Cs ?_))))
 exact agM hu I3 g ry rz λw' s4 I4 JM=>⟨_,H3,I4,JM,q3⟩
end
end L2
namespace HT
open PySem PyProof.Rows
noncomputable def cY:List Int->List Int->Bool
 |[],[]=>false
 |[],_::_=>true
 |_::_,[]=>false
 |x::xs,y::ys=>if x=y then cY xs ys else decide (x<y)
theorem eJ (x y:Int)(xs ys:List Int):cY (x::xs) (y::ys)=if x=y then cY xs ys else decide (x<y):=rfl
theorem agj:cY [] []=false:=rfl
theorem abk (y:Int)(ys:List Int):cY [] (y::ys)=true:=rfl
theorem abl (x:Int)(xs:List Int):cY (x::xs) []=false:=rfl
theorem abp (A:Around)(s:qm)(a:Int)(t:Tok)(c:Int)(u:Tok):∃e,SeqAt.EqAt A s (.int a t) (.int c u) e/\(e=true↔a=c):=
 ⟨(a==c),B7 a t c u,by simp⟩
theorem abE (A:Around)(s:qm)(a:Int)(t:Tok)(c:Int)(u:Tok)(prog:A9)(w:World)(E:zQ)(Q:zQ)(h:Q (.bool (decide (a<c))) s):
 wpAny (model prog w) A (richCompare .Lt (.int a t) (.int c u)) Q E s :=
 (PyProof.Rows.lt_int h:wpAny (model prog w) A (compareOp .Lt (.int a t) (.int c u)) Q E s)
section
open PySem.SeqAt
open PySem.AutoSeq1 (wpAny_loadPart')
open PySem.MeetsSeq PySem.MeetsSeq2 PySem.MeetsSeq3
theorem abQ (l b:Addr)(items Jp:IU)(n n2:Nat)(dd My:uJ)(sl K8:sR)(ns ms:List Int)(hi:IntsAre items.toList ns)(hj:IntsAre Jp.toList ms):
 Meets (Builtin.«tuple.__lt__» ⟨[.ref l,.ref b],[]⟩)
  (λ_ R s=>s.heap.get? l=some {cls:=.type "tuple",dict:=dd,data:=.seq items n,slots:=sl}/\s.heap.get? b=some {cls:=.type "tuple",dict:=My,data:=.seq Jp n2,slots:=K8} /\
   R (.ok (.ret (.bool (cY ns ms)))) s):=
 .of_wp λprog w A R s h=>by
  obtain⟨hp,g,d,tk,os⟩:=s;obtain⟨hl,hb,h⟩:=h;have f2:=AutoSeq1.sub_tuple_tuple
  have z1:items.size=ns.length:=by rw[<-hi.length];simp
  have z2:Jp.size=ms.length:=by rw[<-hj.length];simp
  wp_walk using wpAny_loadPart' hl,wpAny_loadPart' hb,wpAny_forIn_list _ (λrest b s'=>b.1=none/\s'=⟨hp,g,d,tk,os⟩/\∃(vs ws:wW)(Mz OP:List Int),rest=vs.zip ws /\
   IntsAre vs Mz/\IntsAre ws OP/\Mz.length+Jp.size=OP.length+items.size/\R (.ok (.ret (.bool (cY Mz OP)))) ⟨hp,g,d,tk,os⟩) _
  case turn =>
   rintro⟨y,x⟩ rest b s' ⟨Jn,rfl,vs,ws,Mz,OP,hz,UL,Tt,hlen,hR⟩
   cases UL with
   |nil=>rw[List.zip_nil_left] at hz;cases hz
   |cons a t UM =>
    cases Tt with
    |nil=>rw[List.zip_nil_right] at hz;cases hz
    |cons c u UO =>
     rw[xj] at hz
     injection hz with Py Pz
     injection Py with hy hx
     subst hy hx;rw[eJ] at hR;simp only[sC] at hlen;obtain⟨e,he,PB⟩:=abp A.in1 ⟨hp,g,d,tk,os⟩ a t c u;refine IM (he prog w _ _ ?_)
     cases e with
     |true =>
      rw[oO (PB.mp rfl)] at hR
      wp_walk
      exact⟨rfl,rfl,_,_,_,_,Pz,UM,UO,by omega,hR⟩
     |false =>
      rw[DW (λq=>absurd (PB.mpr q) FO)] at hR;have hri:=abE A.in1 ⟨hp,g,d,tk,os⟩ a t c u prog w
      wp_walk using hri
      exact⟨_,rfl,by simpa using hR⟩
  case fin =>
   rintro⟨b1,b2⟩ s' ⟨Jn,rfl,vs,ws,Mz,OP,hz,UL,Tt,hlen,hR⟩;simp only at Jn;subst Jn
   have hv:cY Mz OP=decide (items.size<Jp.size):=by
    cases UL with
    |nil =>
     cases Tt with
     |nil =>
      simp only[yX] at hlen;rw[agj];exact(HW (by omega)).symm
     |cons c u hw =>
      simp only[yX,sC] at hlen;rw[abk];exact(IW (by omega)).symm
    |cons a t hv =>
     cases Tt with
     |nil =>
      simp only[yX,sC] at hlen;rw[abl];exact(HW (by omega)).symm
     |cons c u hw =>
      rw[xj] at hz
      cases hz
   rw[hv] at hR
   wp_walk
   exact⟨_,rfl,by simpa[Builtin.Tuple.tupleCompareSizes] using hR⟩
  case h =>
   exact⟨rfl,rfl,items.toList,Jp.toList,ns,ms,rfl,hi,hj,by omega,h⟩
end
section
variable {prog:A9}{w:World}{A:Around}{E:zQ}{s:qm}
theorem abV {l b:Addr}{items Jp:IU}{ns ms:List Int}{Q:zQ}(hl:IsTup s.heap l items)(hb:IsTup s.heap b Jp)(hi:IntsAre items.toList ns)(hj:IntsAre Jp.toList ms)
 (hu:A.units<cLine)(h:Q (.bool (cY ns ms)) s):wpAny (model prog w) A (compareOp .Lt (.ref l) (.ref b)) Q E s:=by
 obtain⟨⟨cls,dd,data,sl⟩,ho,hc,n,hd⟩:=id hl;obtain⟨⟨PD,My,data2,K8⟩,KU,KH,n2,hd2⟩:=id hb;simp only at hc hd KH hd2;subst hc hd KH hd2
 exact richCompare_meets_room (op:=.Lt) ⟨_,ho,rfl⟩ ⟨_,KU,rfl⟩ PySem.F.slot_tuple_lt PySem.F.entry_tuple_lt (PySem.F.args_tuple_lt_2 _ _) (abQ l b items Jp n n2 dd My sl K8 ns ms hi hj)
  ⟨ho,KU,show Value.bool (cY ns ms)≠Value.notImplemented/\Q (.bool (cY ns ms)) s from⟨(λx=>nomatch x),h⟩⟩ hu
theorem ack {t b:Addr}{vs ws:wW}{Q:zQ}(ht:IsTup s.heap t vs.toArray)(hb:IsTup s.heap b ws.toArray)(hv:vs≠[])
 (h1:ws=[]->Q (.ref t) s)(h2:ws≠[]->Q (.ref s.heap.objs.size) {s with heap:=s.heap.push {cls:=.type "tuple",data:=.seq (vs++ws).toArray} })
 (hsz:vs.length+ws.length<=sizeLine):wpAny (model prog w) A (binaryOp .Add (.ref t) (.ref b)) Q E s:=by
 obtain⟨⟨cls,dd,data,sl⟩,ho,hc,n,hd⟩:=id ht;obtain⟨⟨PD,My,data2,K8⟩,KU,KH,n2,hd2⟩:=id hb;simp only at hc hd KH hd2;subst hc hd KH hd2
 have e:vs.toArray++ws.toArray=(vs++ws).toArray:=by simp
 by_cases hw:ws=[]
 ·exact concat_meets ⟨_,ho,rfl⟩ ⟨_,KU,rfl⟩ wL seq_tuple_add HU DL (sh _ _)
   (tuple_addW1 t b vs.toArray ws.toArray n n2 dd My sl K8 (by simpa using hv) (by simp[hw])) ⟨ho,KU,h1 hw⟩
 ·refine concat_meets ⟨_,ho,rfl⟩ ⟨_,KU,rfl⟩ wL seq_tuple_add HU DL (sh _ _)
   (tuple_addW2 t b vs.toArray ws.toArray n n2 dd My sl K8 (by simpa using hv) (by simpa using hw) (by rw[yQ,yQ];exact hsz)) ⟨ho,KU,?_⟩
  rw[e];exact h2 hw
noncomputable def dh (n d:Nat):Option Int->Nat
 |none=>d
 |some v=>if v<0 then(v+(n:Int)).toNat else min v.toNat n
theorem rM (n d:Nat):dh n d none=d:=rfl
theorem vj (n d k:Nat):dh n d (some (k:Int))=min k n:=by
 show(if(k:Int)<0 then((k:Int)+(n:Int)).toNat else min (k:Int).toNat n)=min k n;rw[DW (by omega),xf]
theorem acm (n d:Nat)(hd:d<=n)(o:Option Int):dh n d o<=n:=by
 cases o with
 |none=>exact hd
 |some v =>
  show(if v<0 then(v+(n:Int)).toNat else min v.toNat n)<=n
  by_cases hv:v<0
  ·rw[oO hv];omega
  ·rw[DW hv];exact uu _ _
theorem vK (v:Int)(n d:Nat):(if v<0 then max (v+(n:Int)) 0 else min v (n:Int))=((dh n d (some v):Nat):Int):=by
 show(if v<0 then max (v+(n:Int)) 0 else min v (n:Int))=(((if v<0 then(v+(n:Int)).toNat else min v.toNat n):Nat):Int)
 by_cases hv:v<0
 ·simp only[oO hv];omega
 ·simp only[DW hv];omega
theorem agc (lo hi:Option Int)(n:Nat):Builtin.Slice.sliceAdjust lo hi 1 (n:Int)=(((dh n 0 lo:Nat):Int),((dh n n hi:Nat):Int)):=by
 have h1:¬((1:Int)<0):=by omega
 unfold Builtin.Slice.sliceAdjust;simp only[h1,EG];refine zV ?_ ?_
 ·cases lo with
  |none=>rfl
  |some v=>exact vK v n 0
 ·cases hi with
  |none=>rfl
  |some v=>exact vK v n n
theorem agl (i j:Nat):Builtin.Slice.slicePlaces (i:Int) (j:Int) 1=j-i:=by
 unfold Builtin.Slice.slicePlaces
 have h1:(1:Int)>0:=by omega
 simp only[h1,xm,Int.ediv_one]
 split <;> omega
theorem lX {v:Value}{o:Option Int}{Q:Option Int->Shared->Prop}(p:IsPart v o)(h:Q o s):wpAny (model prog w) A (Builtin.Slice.slicePartIndex v) Q E s:=by
 cases p with
 |none=>exact slicePart_none h
 |int i t=>exact slicePart_int h
theorem fN {sl:Addr}{vl vu:Value}{lo hi:Option Int}{n:Nat}{Q:Int×Int×Nat->Shared->Prop}(hs:s.heap.IsSliceOf sl vl vu .none)(pl:IsPart vl lo)(pu:IsPart vu hi)
 (h:Q (((dh n 0 lo:Nat):Int),1,dh n n hi-dh n 0 lo) s):wpAny (model prog w) A (Builtin.Slice.sliceApplied (.ref sl) (pure (n:Int))) Q E s:=by
 obtain⟨os,Np,OQ,PF⟩:=id hs;unfold Builtin.Slice.sliceApplied Builtin.Slice.sliceFields;refine IM (IM (Fq Np PF (x:=vl) rfl (IM (Fq Np PF (x:=vu) rfl (IM (Fq Np PF (x:=.none) rfl (IV ?_)))))));refine IM (slicePart_none ?_);show wpAny _ _ (if((1:Int)==0)=true then _ else _) _ _ s;rw[DW (by decide)];refine IM (lX pl (IM (lX pu (IM (IV ?_)))));show wpAny _ _ (match Builtin.Slice.sliceAdjust lo hi 1 (n:Int) with|(lo,hi)=>pure (lo,(1:Int),Builtin.Slice.slicePlaces lo hi 1)) _ _ s;rw[agc lo hi n];show wpAny _ _ (pure (((dh n 0 lo:Nat):Int),(1:Int),Builtin.Slice.slicePlaces ((dh n 0 lo:Nat):Int) ((dh n n hi:Nat):Int) 1)) _ _ s;rw[agl];exact IV h
theorem agm (xs:IU)(i k:Nat):((List.range k).filterMap λ(m:Nat)=>xs[((i:Int)+(m:Int)*1).toNat]?).toArray=((xs.toList.drop i).take k).toArray:=by
 have e:(λ(m:Nat)=>xs[((i:Int)+(m:Int)*1).toNat]?)=λm=>xs[i+m]?:=by
  funext m
  have:((i:Int)+(m:Int)*1).toNat=i+m:=by omega
  rw[this]
 rw[e];have:=pick_run xs i k;rw[List.filterMap_map] at this;have e2:((λx=>xs[x]?) ∘ λx=>i+x)=λm=>xs[i+m]?:=rfl;rw[e2] at this;rw[this]
theorem agw {t sl:Addr}{items:IU}{vl vu:Value}{lo hi:Option Int}{Q:zQ}(ht:IsTup s.heap t items)(hs:s.heap.IsSliceOf sl vl vu .none)(pl:IsPart vl lo)(pu:IsPart vu hi)
 (hw:¬(dh items.size 0 lo=0/\dh items.size items.size hi=items.size))
 (h:Q (.ref s.heap.objs.size) {s with heap:=s.heap.push {cls:=.type "tuple",data:=.seq ((items.toList.drop (dh items.size 0 lo)).take (dh items.size items.size hi-dh items.size 0 lo)).toArray} })
 (hsz:items.size<=sizeLine):wpAny (model prog w) A (getItem (.ref t) (.ref sl)) Q E s:=by
 have KI:sizeOk (.seq ((items.toList.drop (dh items.size 0 lo)).take (dh items.size items.size hi-dh items.size 0 lo)).toArray):=by
  show((items.toList.drop (dh items.size 0 lo)).take (dh items.size items.size hi-dh items.size 0 lo)).toArray.size<=sizeLine;rw[yQ,EM,wo,Ht];omega
 have hj:dh items.size items.size hi<=items.size:=acm _ _ (AY _) hi;obtain⟨os,Np,OQ,PF⟩:=id hs;have UP:s.TypeIs (.ref sl) "slice":=⟨os,Np,OQ⟩;unfold getItem
 try with_reducible refine CN ?_
 first|refine IM (IV ?_)|skip
 refine IM (wpAny_sequenceKey ht.typeIs (by decide) ?_)
 refine IM (xO (name:=Str.ofString "__getitem__") ht.typeIs Gu
  (BU Gu ht.typeIs entry_tuple_getitem ?_ (args_tuple_getitem _ _)))
 show wpAny _ _ (Builtin.Tuple.tupleItemsOf (.ref t)>>=_) _ _ s;refine IM (tupleItemsOf_ ht ?_);refine IM (xV UP ?_);rw[oO (by decide)];refine IM (fN hs pl pu ?_)
 have LY:¬((((dh items.size 0 lo:Nat):Int)==0&&(1:Int)==1&&(dh items.size items.size hi-dh items.size 0 lo)==items.size)=true):=by
  intro q;rw[G8,G8] at q;have q1:((dh items.size 0 lo:Nat):Int)=0:=eq_of_beq q.1.1;have q2:dh items.size items.size hi-dh items.size 0 lo=items.size:=eq_of_beq q.2;exact hw ⟨by omega,by omega⟩
 show wpAny _ _ (if(((dh items.size 0 lo:Nat):Int)==0&&(1:Int)==1&&(dh items.size items.size hi-dh items.size 0 lo)==items.size)=true then _ else _) _ _ s;rw[DW LY,agm]
 first
  |exact IM (m:=Builtin.Tuple.tupleExact _) (IP (IV ⟨_,rfl,IV h⟩) KI)
  |exact IM (m:=Builtin.Tuple.tupleExact _) (IP (IM (IV (IV ⟨_,rfl,IV h⟩))) KI)
  |exact IM (IM (m:=Builtin.Tuple.tupleExact _) (IP (IV (IV ⟨_,rfl,IV h⟩)) KI))
  |exact IM (IM (m:=Builtin.Tuple.tupleExact _) (IP (IV ⟨_,rfl,IV h⟩) KI))
end
end HT
namespace L2
open PySem PySem.Spec PyProof.Rows
noncomputable abbrev TO:=St->Hp->(Option Int->Hp->Prop)->Prop
noncomputable def PO (X:Cx)(e:Option Expr)(t:TO):Prop :=
 ∀(pins:List (Addr×Obj))(s:qm)(σ:St)(H:Hp)(Q:Option Int->Hp->Prop),Inv X pins σ H s->t σ H Q →
  wpAny (model X.prog X.w) X.A (evalPart e X.env) (λu s'=>∃o H',Inv X pins σ H' s'/\IsPart u o/\Q o H') X.xe s
noncomputable def ai0:TO:=λ_ H Q=>Q none H
noncomputable def abC (t:TE):TO:=λσ H Q=>t σ H λx H1=>∃i,x=.int i/\Q (some i) H1
theorem lB {ns:List Int}:∀{us:wW},aN (ns.map V.int) us->IntsAre us ns:=by
 induction ns with
 |nil=>intro us r;rw[List.map_nil] at r;cases r;exact .nil
 |cons n ns ih =>
  intro us r;rw[xx] at r
  cases r with
  |cons r1 r2 =>
   obtain⟨t,e⟩:=r1;subst e;exact .cons n t (ih r2)
variable {xs:List V}
section
variable {X:Cx}{e:Expr}{te:TE}{lo hi:Option Expr}{tl th:TO}{pos p2:Pos}
theorem d9:PO X none ai0:=by
 intro pins s σ H Q I h;rw[evalPart_none];exact IV ⟨none,H,I,.none,h⟩
theorem eB (h:PE X e te):PO X (some e) (abC te):=by
 intro pins s σ H Q I hw;rw[evalPart_some];refine bO (h pins s σ H _ I hw) λu s1 z'=>?_;obtain⟨x,H1,I1,r1,q1⟩:=z';obtain⟨i,rfl,q⟩:=q1;obtain⟨t,rfl⟩:=r1;exact⟨some i,H1,I1,.int i t,q⟩
noncomputable def Hk (X:Cx)(r:V->Option Int->Option Int->Hp->VK->Prop):Prop :=
 ∀(pins:List (Addr×Obj))(s:qm)(σ:St)(H:Hp)(x:V)(v vl vu:Value)(lo hi:Option Int)(sl:Addr)(Q:VK),Inv X pins σ H s->aE x v->s.heap.IsSliceOf sl vl vu .none->IsPart vl lo->IsPart vu hi->r x lo hi H Q →
  ∃T id,typeLookup (.type T) "__getitem__"=pure (some (.builtin id))/\s.TypeIs v T/\wpAny (model X.prog X.w) X.A (getItem v (.ref sl)) (EP X pins σ Q) X.xe s
noncomputable def IR (r:V->Option Int->Option Int->Hp->VK->Prop)(te:TE)(tl th:TO):TE:=λσ H Q=>te σ H λx H1=>tl σ H1 λl H2=>th σ H2 λu H3=>r x l u H3 Q
theorem c4 {r:V->Option Int->Option Int->Hp->VK->Prop}(hr:Hk X r)(he:PE X e te)(hl:PO X lo tl)(hu:PO X hi th):PE X (.Subscript e (.Slice lo hi none p2) pos) (IR r te tl th):=by
 intro pins s σ H Q I h;refine Subscript_ (bO (he pins s σ H _ I h) λv s1 z'=>?_);obtain⟨x,H1,I1,r1,q1⟩:=z';refine wpAny_Slice (bO (hl pins s1 σ H1 _ I1 q1) λvl s2 ⟨l,H2,I2,pl,q2⟩=>bO (hu pins s2 σ H2 _ I2 q2) λvu s3 z'=>?_);obtain⟨u,H3,I3,pu,q3⟩:=z';rw[evalPart_none];refine IV ?_;have I4:Inv X pins σ H3 {s3 with heap:=s3.heap.push {cls:=.type "slice",data:=.fields #[vl,vu,.none]} }:=I3.kept (t':=s3.toks) λb ob q=>xQ _ q;obtain⟨T,id,hT,ht,hg⟩:=hr pins {s3 with heap:=s3.heap.push {cls:=.type "slice",data:=.fields #[vl,vu,.none]} } σ H3 x v vl vu l u s3.heap.objs.size Q I4 r1 (Heap.IsSliceOf.new ..) pl pu q3;show wpAny (model X.prog X.w) X.A (subscriptTail e (.Slice lo hi none p2) v (.ref s3.heap.objs.size)) (EP X pins σ Q) X.xe {s3 with heap:=s3.heap.push {cls:=.type "slice",data:=.fields #[vl,vu,.none]} };exact tail_any (ops:=[.ref s3.heap.objs.size,v]) ht hT hg (by with_unfolding_all rfl)
noncomputable def eU (xs:List V)(lo hi:Option Int):List V:=(xs.drop (HT.dh xs.length 0 lo)).take (HT.dh xs.length xs.length hi-HT.dh xs.length 0 lo)
theorem jI (xs:List V)(lo hi:Option Int):(eU xs lo hi).length<=xs.length:=by
 unfold eU;rw[EM,wo];omega
noncomputable def abS (K:PySem.W.Frag):V->Option Int->Option Int->Hp->VK->Prop:=λx lo hi H Q=>∃a xs,x=.ref a/\a7 K H a xs /\
 ¬(HT.dh xs.length 0 lo=0/\HT.dh xs.length xs.length hi=xs.length)/\∀p,H p=none->Q (.ref p) (upd H p (.tup (eU xs lo hi)))
theorem ab3:Hk X (abS X.K):=by
 intro pins s σ H x v vl vu lo hi sl Q I rx hs pl pu h;obtain⟨a,xs,rfl,hx,hw,q⟩:=h
 cases rx
 obtain⟨its,r,ht,hz⟩:=I.tuple hx
 have hlen:its.toArray.size=xs.length:=by rw[yQ];exact r.length.symm
 refine⟨"tuple",_,Gu.lookup,ht.typeIs,?_⟩;refine HT.agw ht hs pl pu (by rw[hlen];exact hw) ?_ (by rw[hlen];exact hz);rw[hlen];refine⟨.ref s.heap.objs.size,_,I.laid (t':=s.toks) (o:=.tup (eU xs lo hi)) (λb ob q=>xQ _ q) (AY _) ?_,rfl,q _ (I.hok.fresh (AY _))⟩;exact⟨GC (jI xs lo hi) hz,_,(r.drop (HT.dh xs.length 0 lo)).take (HT.dh xs.length xs.length hi-HT.dh xs.length 0 lo),IsTup.new _ _⟩
noncomputable def acb (K:PySem.W.Frag):R2:=λx y H Q=>∃a b xs ys,x=.ref a/\y=.ref b/\a7 K H a xs/\a7 K H b ys/\xs≠[]/\xs.length+ys.length<=sizeLine /\
 (ys=[]->Q (.ref a) H)/\(ys≠[]->∀p,H p=none->Q (.ref p) (upd H p (.tup (xs++ys))))
theorem aN.agW {us:wW}(r:aN xs us):us=[]↔xs=[]:=by
 cases r with
 |nil=>simp
 |cons _ _=>simp
theorem uO:gH X (binaryOp .Add) (acb X.K):=by
 intro pins s σ H x y v u Q I rx ry h;obtain⟨a,b,xs,ys,rfl,rfl,ha,hb,hx,hz,q1,q2⟩:=h
 cases rx
 cases ry
 obtain⟨its,r1,p1,_⟩:=I.tuple ha;obtain⟨Jc,r2,p2,_⟩:=I.tuple hb;refine HT.ack p1 p2 (λz=>hx (r1.agW.mp z)) (λz=>⟨.ref a,H,I,rfl,q1 (r2.agW.mp z)⟩) (λz=>?_) (by rw[<-r1.length,<-r2.length];exact hz);refine⟨.ref s.heap.objs.size,_,I.laid (t':=s.toks) (o:=.tup (xs++ys)) (λb ob q=>xQ _ q) (AY _) ?_,rfl,q2 (λw=>z (r2.agW.mpr w)) _ (I.hok.fresh (AY _))⟩;exact⟨by rw[Af];exact hz,_,r1.append r2,IsTup.new _ _⟩
end
noncomputable def Bc (n:Nat)(i:Int):Option Nat:=if 0<=i then(if i<n then some i.toNat else none) else if -(n:Int)<=i then some (i+n).toNat else none
noncomputable def p7 {α:Type}(xs:List α)(i:Int):Option α:=(Bc xs.length i).bind λj=>xs[j]?
variable {n:Nat}
theorem uT {i:Int}{j:Nat}(h:Bc n i=some j):seqIndex? i n=some j/\j<n/\-(n:Int)<=i/\i<n:=by
 unfold Bc at h
 by_cases h0:0<=i
 ·rw[oO h0] at h
  by_cases h1:i<n
  ·rw[oO h1] at h;have e:i.toNat=j:=Option.some.inj h;exact⟨by rw[seqIndex_of h0 h1,e],by omega,by omega,h1⟩
  ·rw[DW h1] at h;cases h
 ·rw[DW h0] at h
  by_cases h1:-(n:Int)<=i
  ·rw[oO h1] at h;have e:(i+n).toNat=j:=Option.some.inj h;exact⟨by rw[seqIndex_neg (by omega) h1,e],by omega,h1,by omega⟩
  ·rw[DW h1] at h;cases h
theorem uZ {α:Type}{xs:List α}{i:Int}{v:α}(h:p7 xs i=some v):∃j,seqIndex? i xs.length=some j/\xs[j]?=some v/\j<xs.length/\-(xs.length:Int)<=i/\i<xs.length:=by
 unfold p7 at h
 cases e:Bc xs.length i with
 |none=>rw[e] at h;cases h
 |some j =>
  rw[e] at h;obtain⟨h1,h2,h3,h4⟩:=uT e;exact⟨j,h1,h,h2,h3,h4⟩
theorem gN {α:Type}{xs:List α}{j:Nat}{v:α}(h:xs[j]?=some v):p7 xs (j:Int)=some v:=by
 have hj:j<xs.length:=(Im.mp h).1
 have e:Bc xs.length (j:Int)=some j:=by
  unfold Bc;rw[oO (by omega),oO (by omega)];simp
 unfold p7;rw[e];exact h
noncomputable def aci (b:Expr):Prop:=∀o i,subscripted b false o i=operate [o,i] (getItem o i)
noncomputable def FK (X:Cx)(r:R2):Prop :=
 ∀(value slice:Expr)(pins:List (Addr×Obj))(s:qm)(σ:St)(H:Hp)(x y:V)(v u:Value)(Q:VK),Inv X pins σ H s->aE x v->aE y u->r x y H Q →
  subscripted slice false v u=operate [v,u] (getItem v u)->wpAny (model X.prog X.w) X.A (subscriptTail value slice v u) (EP X pins σ Q) X.xe s
noncomputable def G9 (X:Cx)(id:String)(r:V->List V->Hp->VK->Prop):Prop :=
 ∀(pins:List (Addr×Obj))(s:qm)(σ:St)(H:Hp)(x:V)(xs:List V)(v:Value)(us:wW)(Q:VK),Inv X pins σ H s->aE x v->aN xs us->r x xs H Q →
  wpAny (model X.prog X.w) X.A (call (.builtin id) (v::us)) (EP X pins σ Q) X.xe s
variable {pins:List (Addr×Obj)}{σ:St}{H:Hp}{s:qm}{its:wW}{x:V}
section
variable {X:Cx}{a b:Expr}{ta tb:TE}{pos:Pos}
theorem aV {r:R2}(hr:FK X r)(ha:PE X a ta)(hb:PE X b tb)(hs:aci b):PE X (.Subscript a b pos) (qe r ta tb):=by
 intro pins s σ H Q I h;exact Subscript_ (ES ha hb I h λv u s2 x y H2 I2 rx ry q=>hr a b pins s2 σ H2 x y v u Q I2 rx ry q (hs _ _))
noncomputable def acj (K:PySem.W.Frag):R2:=λx y H Q=>∃p xs i v,x=.ref p/\y=.int i/\aW K H p xs/\p7 xs i=some v/\Q v H
noncomputable def BS (K:PySem.W.Frag):R2:=λx y H Q=>∃p xs i v,x=.ref p/\y=.int i/\a7 K H p xs/\p7 xs i=some v/\Q v H
theorem bz:FK X (acj X.K):=by
 intro value slice pins s σ H x y v u Q I rx ry h hs;obtain⟨p,xs,i,z,rfl,rfl,hq,he,q⟩:=h
 cases rx
 obtain⟨t,rfl⟩:=ry;obtain⟨its,r,pl,hz⟩:=I.list hq;obtain⟨j,h1,h2,h3,h4,h5⟩:=uZ he;obtain⟨w,ew,JM⟩:=r.get h2;have hl:=r.length;have hn:=lF;have fin:EP X pins σ Q w s:=⟨z,H,I,JM,q⟩
 by_cases h0:0<=i
 ·have hj:i.toNat=j:=by
   rw[seqIndex_of h0 h5] at h1;exact Option.some.inj h1
  exact item_listR pl.isList h0 (by omega) (by rw[hj];simpa using ew) fin hs
 ·have hj:(i+(its.toArray.size:Int)).toNat=j:=by
   rw[seqIndex_neg (by omega) h4] at h1;rw[yQ,<-hl];exact Option.some.inj h1
  exact subscriptTail_builtinR (x:=w) pl.isList.typeIs slot_list_getitem.lookup
   (wpAny_getItem_list_neg (Q:=λr s'=>r=w/\EP X pins σ Q r s') pl.isList (by omega) (by rw[yQ] <;> omega) (by omega) (by rw[hj];simpa using ew) ⟨rfl,fin⟩) hs
theorem bx:FK X (BS X.K):=by
 intro value slice pins s σ H x y v u Q I rx ry h hs;obtain⟨p,xs,i,z,rfl,rfl,hq,he,q⟩:=h
 cases rx
 obtain⟨t,rfl⟩:=ry;obtain⟨its,r,pl,hz⟩:=I.tuple hq;obtain⟨j,h1,h2,h3,h4,h5⟩:=uZ he;obtain⟨w,ew,JM⟩:=r.get h2;have hl:=r.length;have hn:=lF;have fin:EP X pins σ Q w s:=⟨z,H,I,JM,q⟩
 exact subscriptTail_builtinR (x:=w) pl.typeIs slot_tuple_getitem.lookup
  (getItem_tuple (j:=j) (Q:=λr s'=>r=w/\EP X pins σ Q r s') pl (by omega) (by omega) (by rw[yQ,<-hl];exact h1) (by simpa using ew) ⟨rfl,fin⟩) hs
theorem ag1 (its:wW)(n j:Nat)(u:Value):Obj.mapSeq (·.setIfInBounds j u) {cls:=.type "list",data:=.seq its.toArray n}={cls:=.type "list",data:=.seq (its.set j u).toArray n}:=by
 simp[Obj.mapSeq]
theorem Inv.lst {p:Addr}(I:Inv X pins σ H s)(h:H p=some (.lst xs)):
 ∃(its:wW)(n:Nat),aN xs its/\s.heap.get? p=some {cls:=.type "list",data:=.seq its.toArray n}/\xs.length<=sizeLine:=by
 obtain⟨z,its,n,r,e⟩:=I.hok p _ h;exact⟨its,n,r,e,z⟩
theorem Inv.ajJ {p:Addr}{ys:List V}{its':wW}{n':Nat}{f:Obj->Obj}(I:Inv X pins σ H s)(h:H p=some (.lst xs))
 (ho:s.heap.get? p=some {cls:=.type "list",data:=.seq its.toArray n})(hf:f {cls:=.type "list",data:=.seq its.toArray n}={cls:=.type "list",data:=.seq its'.toArray n'})(r:aN ys its')(hz:ys.length<=sizeLine)(t:Nat):
 Inv X pins σ (upd H p (.lst ys)) {s with heap:=s.heap.update p f,toks:=t}:=by
 have e:(s.heap.update p f).get? p=some {cls:=.type "list",data:=.seq its'.toArray n'}:=by
  rw[mX f ho (by rw[hf] <;> rfl),hf]
 refine I.write (x:=p) (e:=p) (by rw[h];trivial) (.inl rfl) (λb u hb q=>(wR _ _ (Hw hb)).trans q) ⟨_,e⟩ ?_;exact⟨hz,its',n',r,e⟩
noncomputable def akC:V->V->V->Hp->(Hp->Prop)->Prop:=λo i v H Q=>∃p xs k j,o=.ref p/\i=.int k/\H p=some (.lst xs)/\Bc xs.length k=some j/\Q (upd H p (.lst (xs.set j v)))
theorem mD:Gi X akC:=by
 intro pins s σ H o i v ov iv u Q I ro ri rv h;obtain⟨p,xs,k,j,rfl,rfl,hp,hj,q⟩:=h
 cases ro
 obtain⟨t,rfl⟩:=ri;obtain⟨its,n,r,ho,hz⟩:=I.lst hp;obtain⟨h1,h2,h3,h4⟩:=uT hj;have hl:=r.length;have hn:=lF
 have I':Inv X pins σ (upd H p (.lst (xs.set j v))) {s with heap:=s.heap.update p (Obj.mapSeq (·.setIfInBounds j u))}:=
  I.ajJ hp ho (ag1 its n j u) (r.set rv j) (by rw[List.length_set];exact hz) s.toks
 by_cases h0:0<=k
 ·have hk:k.toNat=j:=by
   rw[seqIndex_of h0 h4] at h1;exact Option.some.inj h1
  exact PySem.W.ki_setAt ho h0 (by omega) (by rw[yQ,<-hl];exact h4) (by rw[hk];exact⟨_,I',q⟩)
 ·have hk:(k+(its.toArray.size:Int)).toNat=j:=by
   rw[seqIndex_neg (by omega) h3] at h1;rw[yQ,<-hl];exact Option.some.inj h1
  exact PySem.W.ki_setBack ho (by omega) (by rw[yQ,<-hl];exact h3) (by omega) (by rw[hk];exact⟨_,I',q⟩)
theorem TmX (lo hi:Option Int)(n:Nat):(sliceBounds lo hi none n).1=((HT.dh n 0 lo:Nat):Int)/\(sliceBounds lo hi none n).2.1=((HT.dh n n hi:Nat):Int)/\(sliceBounds lo hi none n).2.2=1:=by
 refine⟨?_,?_,rfl⟩
 ·cases lo with
  |none=>simp[sliceBounds,HT.dh]
  |some i =>
   simp only[sliceBounds,HT.dh,Option.getD_none,show(1:Int)>0 by decide,xm]
   by_cases h:i<0
   ·simp only[h,xm] <;> omega
   ·simp only[h,EG] <;> omega
 ·cases hi with
  |none=>simp[sliceBounds,HT.dh]
  |some i =>
   simp only[sliceBounds,HT.dh,Option.getD_none,show(1:Int)>0 by decide,xm]
   by_cases h:i<0
   ·simp only[h,xm] <;> omega
   ·simp only[h,EG] <;> omega
theorem abv (its:wW)(lo hi:Option Int):slicePick its.toArray lo hi none=((its.drop (HT.dh its.length 0 lo)).take (HT.dh its.length its.length hi-HT.dh its.length 0 lo)).toArray:=by
 obtain⟨h1,h2,h3⟩:=TmX lo hi its.toArray.size;unfold slicePick;rw[h1,h2,h3];simp only[sliceRange_one,pick_run,yQ] <;> rfl
noncomputable def abB (K:PySem.W.Frag):V->Option Int->Option Int->Hp->VK->Prop:=λx lo hi H Q=>∃a xs,x=.ref a/\aW K H a xs/\∀p,H p=none->Q (.ref p) (upd H p (.lst (eU xs lo hi)))
theorem iR:Hk X (abB X.K):=by
 intro pins s σ H x v vl vu lo hi sl Q I rx hs pl pu h;obtain⟨a,xs,rfl,hx,q⟩:=h
 cases rx
 obtain⟨its,r,ht,hz⟩:=I.list hx;have hlen:=r.length;refine⟨"list",_,slot_list_getitem.lookup,ht.isList.typeIs,?_⟩;refine wpAny_getItem_list_slice ht.isList hs pl pu .none (by simp) ?_ (by rw[yQ] <;> omega);rw[abv,<-hlen];refine⟨.ref s.heap.objs.size,_,I.laid (t':=s.toks) (o:=.lst (eU xs lo hi)) (λb ob q=>xQ _ q) (AY _) ?_,rfl,q _ (I.hok.fresh (AY _))⟩;exact⟨GC (jI xs lo hi) hz,_,0,(r.drop (HT.dh xs.length 0 lo)).take (HT.dh xs.length xs.length hi-HT.dh xs.length 0 lo),HR _ rfl⟩
noncomputable def fJ:V->Bool
 | .non=>true
 | .bl _=>true
 | .int _=>true
 | .str _=>true
 |_=>false
noncomputable def ye:V->V->Bool
 | .non,.non=>true
 | .bl a,.bl b=>a==b
 | .bl a,.int b=>(if a then 1 else 0)==b
 | .int a,.bl b=>a==(if b then 1 else 0)
 | .int a,.int b=>a==b
 | .str a,.str b=>a==b
 |_,_=>false
theorem sr {A:Around}{y:V}{u v:Value}(ry:aE y u)(rx:aE x v)(fy:fJ y=true)(fx:fJ x=true):SeqAt.EqAt A s u v (ye y x):=by
 cases y with
 |non =>
  cases ry
  cases x with
  |non=>cases rx;exact SeqAt.EqAt.same _
  |bl b=>cases rx;exact SeqAt.EqAt.none_bool b
  |int b=>obtain⟨t,rfl⟩:=rx;exact SeqAt.EqAt.none_int b t
  |str b=>obtain⟨t,rfl⟩:=rx;exact SeqAt.EqAt.none_str b t
  |_=>exact absurd (show false=true from fx) FO
 |bl a =>
  cases ry
  cases x with
  |non=>cases rx;exact SeqAt.EqAt.bool_none a
  |bl b=>cases rx;exact SeqAt.EqAt.bool_bool a b
  |int b=>obtain⟨t,rfl⟩:=rx;exact SeqAt.EqAt.bool_int a b t
  |str b=>obtain⟨t,rfl⟩:=rx;exact SeqAt.EqAt.bool_str a b t
  |_=>exact absurd (show false=true from fx) FO
 |int a =>
  obtain⟨t',rfl⟩:=ry
  cases x with
  |non=>cases rx;exact SeqAt.EqAt.int_none a t'
  |bl b=>cases rx;exact SeqAt.EqAt.int_bool a t' b
  |int b=>obtain⟨t,rfl⟩:=rx;exact B7 a t' b t
  |str b=>obtain⟨t,rfl⟩:=rx;exact SeqAt.EqAt.int_str a t' b t
  |_=>exact absurd (show false=true from fx) FO
 |str a =>
  obtain⟨t',rfl⟩:=ry
  cases x with
  |non=>cases rx;exact SeqAt.EqAt.str_none a t'
  |bl b=>cases rx;exact SeqAt.EqAt.str_bool a t' b
  |int b=>obtain⟨t,rfl⟩:=rx;exact SeqAt.EqAt.str_int a t' b t
  |str b=>obtain⟨t,rfl⟩:=rx;exact SeqAt.EqAt.str_str a t' b t
  |_=>exact absurd (show false=true from fx) FO
 |_=>exact absurd (show false=true from fy) FO
noncomputable def yh (x:V)(u:Value):Bool:=match u with
 | .none=>ye .non x
 | .bool b=>ye (.bl b) x
 | .int i _=>ye (.int i) x
 | .str z _=>ye (.str z) x
 |_=>false
theorem ip {y:V}{u:Value}(r:aE y u)(f:fJ y=true):yh x u=ye y x:=by
 cases y with
 |non=>cases r;rfl
 |bl b=>cases r;rfl
 |int i=>obtain⟨t,rfl⟩:=r;rfl
 |str z=>obtain⟨t,rfl⟩:=r;rfl
 |_=>exact absurd (show false=true from f) FO
theorem pR :∀{xs:List V}{us:wW},aN xs us->xs.all fJ=true->us.any (yh x)=xs.any λy=>ye y x
 |_,_,.nil,_=>rfl
 |y::xs,u::us,.cons r t,f=>by
  rw[wH,G8] at f;rw[Fy,Fy,ip r f.1,pR t f.2]
theorem kY {A:Around}{v:Value}(rx:aE x v)(fx:fJ x=true):∀{xs:List V}{us:wW},aN xs us->xs.all fJ=true->∀u∈us,SeqAt.EqAt A s u v (yh x u)
 |_,_,.nil,_=>λu hu=>by cases hu
 |y::xs,u::us,.cons r t,f=>λu' hu=>by
  rw[wH,G8] at f
  rcases Ef.mp hu with rfl|hu
  ·rw[ip r f.1];exact sr r rx f.1 fx
  ·exact kY rx fx t f.2 u' hu
noncomputable def FH (x:V)(xs:List V):Bool:=xs.any λy=>ye y x
noncomputable def abI (K:PySem.W.Frag)(neg:Bool):R2:=λx y H Q=>∃p xs,y=.ref p/\(aW K H p xs\/a7 K H p xs)/\fJ x=true/\xs.all fJ=true/\Q (.bl (if neg then !FH x xs else FH x xs)) H
theorem abL:gH X (compareOp .NotIn) (abI X.K true):=by
 intro pins s σ H x y v u Q I rx ry h;obtain⟨p,xs,rfl,hq,fx,fs,q⟩:=h
 cases ry
 rcases hq with hq|hq
 ·obtain⟨its,r,pl,hz⟩:=I.list hq;refine SeqAt.notIn_listAt (yh x) pl.isList (λw hw=>kY rx fx r fs w (by simpa using hw)) ⟨.bl _,H,I,rfl,?_⟩;rw[show its.toArray.any (yh x)=its.any (yh x) by simp,pR r fs];exact q
 ·obtain⟨its,r,pl,hz⟩:=I.tuple hq;refine SeqAt.notIn_tupleAt (yh x) pl (λw hw=>kY rx fx r fs w (by simpa using hw)) ⟨.bl _,H,I,rfl,?_⟩;rw[show its.toArray.any (yh x)=its.any (yh x) by simp,pR r fs];exact q
theorem b9:eV X (.builtin "len") (λxs H Q=>∃p ys,xs=[.ref p]/\(aW X.K H p ys\/a7 X.K H p ys)/\Q (.int ys.length) H):=by
 intro pins s σ H xs us Q I r h;obtain⟨p,ys,rfl,hq,q⟩:=h;obtain⟨u,rfl,rx⟩:=eY r
 cases rx
 have hn:=lF
 rcases hq with hq|hq
 ·obtain⟨its,r',pl,hz⟩:=I.list hq;have hlen:=r'.length;exact Calls.call_len_list pl.isList (by simp only[yQ] <;> omega) ⟨.int ys.length,H,I.tok _,⟨s.toks+1,by rw[yQ,hlen]⟩,q⟩
 ·obtain⟨its,r',pl,hz⟩:=I.tuple hq;have hlen:=r'.length;exact len_tuple pl (by simp only[yQ] <;> omega) ⟨.int ys.length,H,I.tok _,⟨s.toks+1,by rw[yQ,hlen]⟩,q⟩
theorem iS:eV X (.type "list") (λxs H Q=>∃p ys,xs=[.ref p]/\(aW X.K H p ys\/a7 X.K H p ys)/\∀l,H l=none->Q (.ref l) (upd H l (.lst ys))):=by
 intro pins s σ H xs us Q I r h;obtain⟨p,ys,rfl,hq,q⟩:=h;obtain⟨u,rfl,rx⟩:=eY r
 cases rx
 have fin:∀(its:wW),aN ys its->ys.length<=sizeLine->∀(h':Heap)(c':Nat),(∀b o',s.heap.get? b=some o'->h'.get? b=some o') →
  h'.get? s.heap.objs.size=some {cls:=.type "list",dict:=none,data:=.seq its.toArray c',slots:=#[]}->EP X pins σ Q (.ref s.heap.objs.size) {s with heap:=h'}:=λits r' hz h' c' kp e =>
  ⟨.ref s.heap.objs.size,_,I.laid (t':=s.toks) kp (AY _) (show a9 X.prog X.w _ h' _ (.lst ys) from⟨hz,its,c',r',e⟩),rfl,q _ (I.hok.fresh (AY _))⟩
 rcases hq with hq|hq
 ·obtain⟨its,r',pl,hz⟩:=I.list hq;have hlen:=r'.length;obtain⟨o,ho,hc,n,hd⟩:=pl.isList;exact call_list_seq p (.inl rfl) ho hc hd (λh' c' kp e=>fin its r' hz h' c' kp e) (by simp only[yQ] <;> omega)
 ·obtain⟨its,r',pl,hz⟩:=I.tuple hq;have hlen:=r'.length;obtain⟨o,ho,hc,n,hd⟩:=pl;exact call_list_seq p (.inr rfl) ho hc hd (λh' c' kp e=>fin its r' hz h' c' kp e) (by simp only[yQ] <;> omega)
theorem dF:eV X (.type "tuple") (λxs H Q=>∃p ys,xs=[.ref p]/\((aW X.K H p ys/\∀l,H l=none->Q (.ref l) (upd H l (.tup ys)))\/(a7 X.K H p ys/\Q (.ref p) H))):=by
 intro pins s σ H xs us Q I r h;obtain⟨p,ys,rfl,h⟩:=h;obtain⟨u,rfl,rx⟩:=eY r
 cases rx
 rcases h with⟨hq,q⟩|⟨hq,q⟩
 ·obtain⟨its,r',pl,hz⟩:=I.list hq;have hlen:=r'.length;refine call_tuple_list pl.isList (λh' kp=>?_) (by simp only[yQ] <;> omega);have I1:Inv X pins σ H {s with heap:=h'}:=I.kept (t':=s.toks) kp
  have I2:Inv X pins σ (upd H h'.objs.size (.tup ys)) {s with heap:=h'.push {cls:=.type "tuple",data:=.seq its.toArray} }:=
   I1.laid (t':=s.toks) (λb o e=>xQ _ e) (AY _) (show a9 X.prog X.w _ _ _ (.tup ys) from⟨hz,its,r',IsTup.new _ _⟩)
  exact⟨.ref h'.objs.size,_,I2,rfl,q _ (I1.hok.fresh (AY _))⟩
 ·obtain⟨its,r',pl,hz⟩:=I.tuple hq;exact call_tuple_same pl ⟨.ref p,H,I,rfl,q⟩
noncomputable def IH (K:PySem.W.Frag)(T:String)(x:V)(H:Hp):Prop:=match x with
 | .str _=>T="str"
 | .int _=>T="int"
 | .ref p=>(T="list"/\∃xs,aW K H p xs)\/(T="tuple"/\∃o,K.lookup p=some o/\o.cls=.type "tuple"/\o.dict=none) \/
  (T="dict"/\((∃IY,H p=some (.dK IY))\/∃IY,H p=some (.dT IY)))\/(T="set"/\∃S n,H p=some (.set S n))
 |_=>False
theorem abZ {T:String}{v:Value}(I:Inv X pins σ H s)(r:aE x v)(ty:IH X.K T x H):
 s.TypeIs v T/\∀a,v=.ref a->∃ob,s.heap.get? a=some ob/\ob.dict=none:=by
 cases x with
 |str z =>
  obtain⟨t,rfl⟩:=r
  cases(show T="str" from ty)
  exact⟨typeIs_str s z t,λ_ e=>nomatch e⟩
 |int i =>
  obtain⟨t,rfl⟩:=r
  cases(show T="int" from ty)
  exact⟨typeIs_int s i t,λ_ e=>nomatch e⟩
 |ref p =>
  cases r
  rcases ty with⟨rfl,xs,hq⟩|⟨rfl,o,hk,hc,hd⟩|⟨rfl,hk⟩|⟨rfl,S,n,hk⟩
  ·obtain⟨its,_,pl,_⟩:=I.list hq;refine⟨pl.isList.typeIs,λa e=>?_⟩
   cases e
   obtain⟨o,n,e,c,hd,_⟩:=pl;exact⟨o,e,hd⟩
  ·refine⟨⟨o,I.kIn p o hk,hc⟩,λa e=>?_⟩
   cases e
   exact⟨o,I.kIn _ o hk,hd⟩
  ·have z:∃o,s.heap.get? p=some o/\o.ExactDict:=by
    rcases hk with⟨IY,hk⟩|⟨IY,hk⟩
    ·obtain⟨_,_,_,_,o,_,_,e,ex,_⟩:=I.hok p _ hk;exact⟨o,e,ex⟩
    ·obtain⟨_,_,_,_,o,_,_,e,ex,_⟩:=I.hok p _ hk;exact⟨o,e,ex⟩
   obtain⟨o,e,ex⟩:=z;refine⟨⟨o,e,ex.1⟩,λa e2=>?_⟩
   cases e2
   exact⟨o,e,ex.2.1⟩
  ·obtain⟨o,_,_,_,e,ex,_⟩:=I.hok p _ hk;refine⟨⟨o,e,ex.1⟩,λa e2=>?_⟩
   cases e2
   exact⟨o,e,ex.2.1⟩
 |_=>exact False.elim ty
noncomputable def ab4 (K:PySem.W.Frag)(T:String)(r:V->List V->Hp->VK->Prop)(to:TE)(t:TA):TE:=λσ H Q=>to σ H λx H1=>IH K T x H1/\t σ H1 λxs H2=>r x xs H2 Q
variable {o e:Expr}{es:Hy}{to:TE}{t:TA}{name:Str}{apos Jk:Pos}{T id:String}{r:V->List V->Hp->VK->Prop}
theorem rR (pa:PlainAttrs T)(slot:Slot T name id)(hty:typeOf (.builtin id)=pure (.type "method_descriptor"))(hm:G9 X id r)(ho:PE X o to)(ha:PA X (e::es) t)
 (K9:attributeBase o name X.env (eval o X.env)=eval o X.env:=by rfl)
 (UQ:((backTo Jk (starEach (e::es) X.env)).all (λx=>!x.1)&&(backToKw Jk (keywordEach [] X.env)).all (λx=>x.1.isSome)
  && decide ((e::es).length+([]:List Keyword).length+(if([]:List Keyword).isEmpty then 0 else 1)<30))=true:=by rfl)
 (La:(apos.endLine==Jk.line)=true:=by rfl)(hs:starEach (e::es) X.env=(false,eval e X.env):: starEach es X.env:=by rfl)(Nq:(backTo Jk (starEach es X.env)).any (·.1)=false:=by rfl):
 PE X (.Call (.Attribute o name apos) (e::es) [] Jk) (ab4 X.K T r to t):=by
 intro pins s σ H Q I h;refine wpAny_Call_method_late K9 UQ La rfl (bO (ho pins s σ H _ I h) λv s1 z'=>?_);obtain⟨x,H1,I1,r1,ty,q1⟩:=z';obtain⟨h1,h2⟩:=abZ I1 r1 ty;refine⟨T,id,pa,slot,hty,h1,h2,?_⟩;have hA:=ha Jk pins s1 σ H1 _ I1 q1;rw[hs] at hA |-;refine Fx (by show(false || (backTo Jk (starEach es X.env)).any (·.1))=false;rw[Nq] <;> rfl) (D4 ?_);exact bO hA λus s2 ⟨vs,H2,I2,r2,q2⟩=>hm pins s2 σ H2 x vs v us Q I2 r1 r2 q2
/- xs.append(e),list.index on a PH tuple .. are G9 facts of 06m -/
end
noncomputable def Ip (X:Cx)(id:String)(r:V->List V->Hp->VK->Prop):Prop :=
 ∀(pins:List (Addr×Obj))(s:qm)(σ:St)(H:Hp)(x:V)(xs:List V)(v:Value)(us:wW)(Q:VK),Inv X pins σ H s->aE x v->aN xs us->r x xs H Q →
  wpAny (model X.prog X.w) X.A (call (.builtin id) (v::us)) (EP X pins σ Q) X.xe s
theorem aN.one:∀{x:V}{us:wW},aN [x] us->∃u,us=[u]/\aE x u
 |_,_,.cons r .nil=>⟨_,rfl,r⟩
section
variable {X:Cx}{pins:List (Addr×Obj)}{σ:St}{H:Hp}{s:qm}{l b:Addr}{xs ys zs:List V}
theorem Inv.akD {its':wW}{f:Array Value->Array Value}{t':Nat}(I:Inv X pins σ H s)(hH:H l=some (.lst xs))
 (e:s.heap.get? l=some {cls:=.type "list",data:=.seq its.toArray n})(hf:f its.toArray=its'.toArray)(hv:aN ys its')(hz:ys.length<=sizeLine):
 Inv X pins σ (upd H l (.lst ys)) {s with heap:=s.heap.update l (Obj.mapSeq f),toks:=t'}:=by
 have q:=PySem.IsL.update e f;rw[hf] at q;refine I.write (x:=l) (e:=l) (by rw[hH];exact trivial) (.inl rfl) (λb' u hb hu=>(wR s.heap (Obj.mapSeq f) (Hw hb)).trans hu) ⟨_,q⟩ ?_;exact⟨hz,its',_,hv,q⟩
theorem Inv.ame {t':Nat}(I:Inv X pins σ H s)(hv:aN ys its)(hz:ys.length<=sizeLine):
 Inv X pins σ (upd H s.heap.objs.size (.lst ys)) {s with heap:=s.heap.push {cls:=.type "list",data:=.seq its.toArray},toks:=t'}:=
 I.laid (λ_ _ q=>xQ _ q) (AY _) ⟨hz,its,0,hv,HR _ rfl⟩
theorem Inv.fresh (I:Inv X pins σ H s):H s.heap.objs.size=none:=I.hok.fresh (AY _)
theorem Inv.aix (I:Inv X pins σ H s)(hH:H l=some (.lst xs)):xs.length<=sizeLine/\∃(its:wW)(n:Nat),aN xs its/\xs.length=its.length/\s.heap.get? l=some {cls:=.type "list",data:=.seq its.toArray n}:=by
 obtain⟨z,its,n,r,e⟩:=I.hok l _ hH;exact⟨z,its,n,r,r.length,e⟩
theorem ab5 (h:n<=sizeLine):Builtin.List.listTooLong n=false:=by
 unfold Builtin.List.listTooLong;exact HW (by omega)
end
section
variable {X:Cx}
noncomputable def ai1:V->List V->Hp->VK->Prop:=λx vs H Q=>∃l xs y,x=.ref l/\vs=[y]/\H l=some (.lst xs)/\xs.length<sizeLine/\Q .non (upd H l (.lst (xs++[y])))
theorem ou:Ip X "list.append" ai1:=by
 intro pins s σ H x vs v us Q I rx rv h;obtain⟨l,xs,y,rfl,rfl,hH,hz,q⟩:=h
 cases rx
 obtain⟨u,rfl,ru⟩:=rv.one;obtain⟨z,its,n,r,hl,e⟩:=I.aix hH;refine call_meets F.slot_list_append ⟨_,e,rfl⟩ F.entry_list_append (F.args_list_append_2 _ _) (PySem.list_append l its.toArray n u (by rw[yQ];omega)) ⟨e,?_⟩;refine⟨.non,_,I.akD (its':=its++[u]) hH e (by simp) (r.append (.cons ru .nil)) ?_,rfl,q⟩;rw[Af,List.length_singleton];omega
noncomputable def ai2:V->List V->Hp->VK->Prop:=λx vs H Q=>∃l b xs zs,x=.ref l/\vs=[.ref b]/\H l=some (.lst xs)/\H b=some (.lst zs)/\xs.length+zs.length<=sizeLine/\Q .non (upd H l (.lst (xs++zs)))
theorem acw:Ip X "list.extend" ai2:=by
 intro pins s σ H x vs v us Q I rx rv h;obtain⟨l,b,xs,zs,rfl,rfl,hH,hB,hz,q⟩:=h
 cases rx
 obtain⟨u,rfl,ru⟩:=rv.one
 cases ru
 obtain⟨z,its,n,r,hl,e⟩:=I.aix hH;obtain⟨z2,Jc,n2,r2,JN,e2⟩:=I.aix hB
 have hsz:its.toArray.size+Jc.toArray.size<=sizeLine:=by rw[yQ,yQ];omega
 have PJ:¬(!its.toArray.isEmpty&&Builtin.List.listTooLong (its.toArray.size+Jc.toArray.size))=true:=by
  rw[ab5 hsz,Bool.and_false];exact FO
 refine call_meets F.slot_list_extend ⟨_,e,rfl⟩ F.entry_list_extend (F.args_list_extend_2 _ _)
  (AutoSeq1.list_extend_list_list_0 l its.toArray n b Jc.toArray n2 PJ (by rw[yQ];omega) (by omega)) ⟨e,e2,?_⟩
 refine⟨.non,_,I.akD (its':=its++Jc) hH e (by simp) (r.append r2) ?_,rfl,q⟩;rw[Af];omega
noncomputable def amf:R2:=λx y H Q=>∃l b xs zs,x=.ref l/\y=.ref b/\H l=some (.lst xs)/\H b=some (.lst zs)/\xs.length+zs.length<=sizeLine/\∀p,H p=none->Q (.ref p) (upd H p (.lst (xs++zs)))
theorem pU:gH X (binaryOp .Add) amf:=by
 intro pins s σ H x y v u Q I rx ry h;obtain⟨l,b,xs,zs,rfl,rfl,hH,hB,hz,q⟩:=h
 cases rx
 cases ry
 obtain⟨z,its,n,r,hl,e⟩:=I.aix hH;obtain⟨z2,Jc,n2,r2,JN,e2⟩:=I.aix hB;refine PySem.P.add_list e e2 ?_ (by rw[yQ,yQ];omega)
 have ea:its.toArray++Jc.toArray=(its++Jc).toArray:=by simp
 rw[ea];exact⟨.ref _,_,I.ame (t':=s.toks) (r.append r2) (by rw[Af];omega),rfl,q _ I.fresh⟩
end
end L2
namespace Yz
open PySem PySem.W PySem.Calls PyProof.Rows
theorem acx {P:Params}{h:Heap}:∀(ns:List Int)(vs:wW),WellAll P h vs (ns.map WData.int)->IntsAre vs ns:=by
 intro ns
 induction ns with
 |nil =>
  intro vs w;rw[List.map_nil] at w
  cases w
  exact .nil
 |cons n ns ih =>
  intro vs w;rw[xx] at w
  cases w with
  |cons a b =>
   cases a
   exact .cons _ _ (ih _ b)
theorem NoL {l:OpenLaw}{n:Nat}(hn:l.most=some n){P:Params}{h:Heap}{args:List WData}{vals:wW}
 (LZ:l.row.toRowW.claim.pre args=true)(UR:WellAll P h vals args):
 ∃a vs ns,vals=[Value.ref a]/\args=[WData.list (ns.map WData.int)]/\h.get? a=some {cls:=.type "list",data:=.seq vs.toArray}/\IntsAre vs ns/\ns.length<=n:=by
 have hsh:WShape.hasAll [] args [.list .int]=true:=(pre_splitW LZ).1;have hc:l.pre.holds [] {args:=args}=true:=(pre_splitW LZ).2;obtain⟨d,r,rfl,h1,h2⟩:=hasAllW_cons hsh;obtain rfl:=hasAllW_nil h2;obtain⟨xs,rfl,h3⟩:=hasW_list h1;obtain⟨ns,rfl⟩:=items_int h3
 have hlen:ns.length<=n:=by
  unfold OpenLaw.pre at hc
  have h4:(WTm.not (.lt (.lit (.int (n:Int))) (.len (.arg 0)))).holds [] {args:=[.list (ns.map .int)]}=true:=by
   have h4:=(holds_andW hc).1;rw[hn] at h4;exact h4
  have h5:=condW_of h4 (w_not (w_lt w_lit (w_len_list (w_arg rfl))));rw[wC] at h5;refine Nat.le_of_not_lt λq=>?_
  have q':(n:Int)<((ns.length:Nat):Int):=by omega
  first
   |(rw[IW q'] at h5;exact absurd h5 (by decide))
   |(simp at h5;omega)
 cases UR with
 |cons w1 w2 =>
  cases w2
  cases w1 with
  |list ho Ji=>exact⟨_,_,ns,rfl,rfl,ho,acx ns _ Ji,hlen⟩
theorem ago (l:OpenLaw)(args:List WData):l.row.toRowW.claim.post args (.bool true) args=true :=
 postW_of (r:=l.row.toRowW) (X:=(true==true))
  (show WShape.has [] (.bool true) .bool=true by first|rfl|decide|simp[WShape.has,WShape.arms,WShape.armsAll])
  (show(WTm.eq .res (.lit (.bool true))).value [] {args:=args,res:=some (.bool true),after:=args}=some (.bool (true==true)) from w_eq_bool (w_res rfl) w_lit) rfl
theorem agr {l:OpenLaw}{n:Nat}{q:A9}{loose:DV}{XP:(Str->Option Value)->Heap->Prop}{YP:World->Heap->Prop}{d:DefRec}
 (hn:l.most=some n)(PL:d.params.defaults=[])
 (call:∀(w:World)(s₀ s₁:qm)(mg mb:Fj)(fa:Addr)(o:Obj)(pm cd doc:Value)(a:Addr)(vs:wW)(ns:List Int),
  Ground q loose [] XP w s₀ mg mb s₁.heap->YP w s₁.heap →
  s₁.heap.get? fa=some o->o.data=.func (docDef d.name d.params d.body d.scope pm cd doc)->s₁.heap.CodeRec cd d.name->mg d.name=some (.ref fa) →
  s₁.heap.get? a=some {cls:=.type "list",data:=.seq vs.toArray}->IntsAre vs ns->ns.length<=n->s₁.gens = #[] →
  codeAny (model l.prog w) callerA (.call (.ref fa) ⟨[.ref a],[]⟩) (λr s'=>r=.ok (.ret (.bool true))/\OldK s₁.heap s'.heap/\s'.os=s₁.os/\AllBare s'.gens) s₁):
 WalkO q loose XP YP l.row.toRowW d [] (λf vs=>PySem.call f vs):=by
 intro w s₀ s₁ mg mb G Y fa o pm cd doc dV kV ho hd JG hD US hg args vals as LZ aaJ hrd UR hlo;obtain rfl:dV=.none:=Dflts.none hD PL;obtain rfl:kV=.none:=Dflts.noKw hD;obtain⟨a,vs,ns,rfl,rfl,Nr,hints,hlen⟩:=NoL hn LZ UR;refine enter_call (Gp (call w s₀ s₁ mg mb fa o pm cd doc a vs ns G Y ho (fd_plain hd) JG US Nr hints hlen hg) λr s' hq=>?_);obtain⟨rfl,h2,h3,h4⟩:=hq;exact⟨.inl ⟨.bool true,.bool true,[],rfl,λ_=>rfl,.bool true,ago l _,λ_=>⟨List.Pairwise.nil,λ_ hm=>(nomatch hm)⟩⟩,h2,h3,h4⟩
end Yz
namespace L2
open PySem PySem.Spec PyProof.Rows
theorem nj:∀{vs:wW}{ns:List Int},IntsAre vs ns->aN (ns.map V.int) vs
 |_,_,.nil=>.nil
 |_,_,.cons n t h=>.cons ⟨t,rfl⟩ (nj h)
structure Fe (K:PySem.W.Frag)(x qual:Str)(st:Stmt)(f:Addr)(fd:FD):Prop where
 ex:∃(oc:Value)(od:uJ)(kV doc pm:Value)(an:uJ)(IZ ct:Value)(Jq:sR),
  fd=PySem.W.fnOf x qual (b8 st) (bA st) (ar st) .none kV doc pm an IZ ct/\K.lookup f=some ⟨oc,od,.func fd,Jq⟩/\PySem.W.codeIn K IZ qual=true
 kp:PySem.W.keepIn K (.ref f)=true
variable {x qual:Str}{st:Stmt}{f:Addr}{fd:FD}{ps:DV}
section
variable {P:A9}{w:World}{K:PySem.W.Frag}{mg:Fj}{base:Heap}
theorem Fe.binds (F:Fe K x qual st f fd)
 (h:∀(kV doc pm:Value)(an:uJ)(IZ ct:Value)(us:wW),us.length=ps.length->bindArgs (PySem.W.fnOf x qual (b8 st) (bA st) (ar st) .none kV doc pm an IZ ct) ⟨us,[]⟩=pure (ps.zip us)):bF K fd ps []:=by
 obtain⟨oc,od,kV,doc,pm,an,IZ,ct,Jq,rfl,lk,JG⟩:=F.ex;exact .all (h kV doc pm an IZ ct)
theorem abJ {oc:Value}{od an:uJ}{Jq:sR}{kV doc pm IZ ct:Value}(l:K.lookup f=some ⟨oc,od,.func (PySem.W.fnOf x qual (b8 st) (bA st) (ar st) .none kV doc pm an IZ ct),Jq⟩)
 (c:PySem.W.codeIn K IZ qual=true)(k:PySem.W.keepIn K (.ref f)=true):Fe K x qual st f (PySem.W.fnOf x qual (b8 st) (bA st) (ar st) .none kV doc pm an IZ ct):=⟨⟨oc,od,kV,doc,pm,an,IZ,ct,Jq,rfl,l,c⟩,k⟩
end
theorem abK {n:Nat}(h:n<=1000):n<sizeLine:=xv h (by decide)
variable {pos:Pos}
section
variable {X:Cx}
theorem pv (i:Nat)(hN:X.N[i]?=some x:=by rfl)(hv:Hh X.env.scope x:=by first|exact Or.inl rfl|exact Or.inr (Or.inl rfl)|exact Or.inr (Or.inr rfl))(hd:(x==("__debug__":Str))=false:=by decide)
 (JG:(x==("__classdict__":Str))=false:=by decide):PE X (.Name x pos) (gU i):=aaK hN hv hd JG
end
theorem bX {A B:Prop}(h:B):if false=true then A else B:=by
 rw[DW FO];exact h
theorem cm {A B:Prop}(h:A):if true=true then A else B:=by
 rw[oO rfl];exact h
theorem cT {c A B:Prop} [Decidable c](h1:c->A)(h2:¬c->B):if c then A else B:=by
 by_cases h:c
 ·rw[oO h];exact h1 h
 ·rw[DW h];exact h2 h
noncomputable def ay (H H':Hp):Prop:=∀b o,H b=some o->H' b=some o
theorem ay.refl (H:Hp):ay H H:=λ_ _ h=>h
variable {H:Hp}
theorem ay.trans {H1 H2:Hp}(a:ay H H1)(b:ay H1 H2):ay H H2:=λc o h=>b c o (a c o h)
variable {P:A9}{w:World}{h:Heap}{a:Addr}
theorem dE {o:HO}(x:fF P w H h)(hn:H a=none)(new:a9 P w (upd H a o) h a o):fF P w (upd H a o) h:=λb u e=>by
 by_cases hb:b=a
 ·subst hb;rw[ae] at e;cases e;exact new
 ·rw[au hb] at e
  exact(x b u e).agR (λc v _ q=>q) (λc q=>by rw[au (ax q hn)];exact q) λc xs q=>by rw[au (ax q hn)];exact q
variable {env:Env}
section
variable {prog:A9}{w:World}{A:Around}{R:Result->Shared->Prop}{s:qm}
theorem abX {elt target iter:Expr}{ifs:Hy}{scope:Scope}{it acc:Value}(I:Nat->Shared->Prop)
 (turn:∀n s,I n s->wpAny (model prog w) A (pyNext it) (λr s₁=>match r with
  |none=>R (.ok .next) s₁
  |some v=>wpAny (model prog w) A (letOwnedTupleGo target it v) (λ_ s₁=>wpAny (model prog w) A (assign target env v) (λ_ s₂ =>
   wpAny (model prog w) A (forIn ifs true λc r=>if r=true then do let ok <-isTrue c env (eval c env);pure (ForInStep.yield ok) else pure (ForInStep.yield r)) (λok s₃ =>
    if ok=true then wpAny (model prog w) A (eval elt env) (λx s₄ =>
     wpAny (model prog w) A (call (.builtin "list.append") [acc,x]) (λ_ s₅=>∃m,m<n/\I m s₅) (λ_ _=>False) s₄) (λ_ _=>False) s₃
    else ∃m,m<n/\I m s₃) (λ_ _=>False) s₂) (λ_ _=>False) s₁) (λ_ _=>False) s₁) (λ_ _=>False) s)
 (n:Nat)(h:I n s):
 codeAny (model prog w) A (.compLoop (.ListComp elt [⟨target,iter,ifs,0⟩] scope pos) 0 it acc env) R s:=by
 refine codeAny_loop rfl I (λn s hI=>?_) n h;show wpAny _ A ((compTurn (.ListComp elt [⟨target,iter,ifs,0⟩] scope pos) 0 it acc env).onRaise (λx=>do noteFrame x env;theTreesLotGoes x)) _ _ s;refine wpAny_noted ?_;rw[compTurn_list];refine IM (Ex (IM (qx (turn n s hI) (λr s₁ h₁=>?_) λ_ _ z=>False.elim z)))
 cases r with
 |none=>exact IV h₁
 |some v =>
  refine IM (qx h₁ (λ_ YA PM=>?_) λ_ _ z=>False.elim z);refine IM (qx PM (λ_ s₂ h₂=>IM (qx h₂ (λok s₃ h₃=>?_) λ_ _ z=>False.elim z)) λ_ _ z=>False.elim z)
  cases ok with
  |false=>exact IV ⟨rfl,h₃⟩
  |true =>
   exact IM (IM (qx h₃ (λx s₄ h₄=>IM (qx h₄ (λ_ s₅ h₅=>IV (IV ⟨rfl,h₅⟩)) λ_ _ z=>False.elim z)) λ_ _ z=>False.elim z))
end
noncomputable def dW (names:List (Str×NameKind))(env:Env):List (Str×Addr):=((names.filter λx=>x.2 == .free).map λx=>(x.1,(env.cells.lookup x.1).getD 0)).reverse
theorem gY {scope:Scope}(h:∀x∈scope.names,x.2=.free->∃c,env.cells.lookup x.1=some c):closureFor scope env=pure (dW scope.names env):=by
 have key:∀(names:List (Str×NameKind))(cs:List (Str×Addr)),(∀x∈names,x.2=.free->∃c,env.cells.lookup x.1=some c) →
  (forIn names cs (λ(x:Str×NameKind)(r:List (Str×Addr))=>if(x.2==NameKind.free)=true then(do let a <-cellOf env x.1;pure (ForInStep.yield ((x.1,a):: r))) else pure (ForInStep.yield r)):Sem (List (Str×Addr)))=pure (dW names env++cs):=by
  intro names
  induction names with
  |nil=>intro cs _;rfl
  |cons x r ih =>
   intro cs hn;rw[Fv];obtain⟨n,k⟩:=x
   by_cases hk:k=.free
   ·subst hk;obtain⟨c,hc⟩:=hn (n,.free) qG rfl
    have Nt:cellOf env n=pure c:=by unfold cellOf;rw[hc]
    simp only[wB,xm,Nt,pure_bind];rw[ih _ λy hy=>hn y (AM _ hy)];simp[dW,hc]
   ·have hb:(k==NameKind.free)=false:=by simpa using hk
    simp only[hb,FU,EG,pure_bind];rw[ih _ λy hy=>hn y (AM _ hy)];simp[dW,hb]
 have z:=key scope.names [] h;rw[F2] at z;unfold closureFor
 first
  |exact z
  |(simp only[bind_pure];exact z)
  |(simp;exact z)
theorem lA {names:List (Str×NameKind)}(h:∀x∈names,x.2=.free->∃c,env.cells.lookup x.1=some c){c:Addr}(e:(dW names env).lookup x=some c):env.cells.lookup x=some c:=by
 have m:=ya e;unfold dW at m;rw[BL,HF] at m;obtain⟨y,hy,e'⟩:=m;rw[rh] at hy;obtain⟨c',Jh⟩:=h y hy.1 (by simpa using hy.2);rw[Jh] at e'
 injection e' with e1 e2
 subst e1;rw[Jh];exact DT some e2
theorem qT {names:List (Str×NameKind)}{env:Env}(hm:(x,NameKind.free)∈names):∃c,(dW names env).lookup x=some c:=by
 have m:∃c,(x,c)∈dW names env:=⟨(env.cells.lookup x).getD 0,by
  unfold dW;rw[BL,HF]
  exact⟨(x,.free),rh.mpr ⟨hm,rfl⟩,rfl⟩⟩
 obtain⟨c,m⟩:=m
 cases q:(dW names env).lookup x with
 |some d=>exact⟨d,rfl⟩
 |none =>
  exfalso
  have:∀(l:List (Str×Addr)),(x,c)∈l->l.lookup x≠none:=by
   intro l
   induction l with
   |nil=>intro h;cases h
   |cons p r ih =>
    intro h;rw[Ah]
    rcases Ef.mp h with h|h
    ·subst h;simp
    ·split
     ·simp
     ·exact ih h
  exact this _ m q
noncomputable def cu (X:Cx)(N:DV)(scope:Scope)(C:Addr)(fp:List Addr)(s:qm)(H:Hp):Cx where
 prog:=X.prog
 w:=X.w
 K:=X.K
 mg:=X.mg
 base:=X.base
 A:=X.A
 N:=N
 s₀:=s
 H₀:=H
 env:=compEnvC scope (dW scope.names X.env) C X.env
 outer:=X.stack
 stack:=X.stack
 ex:=fp
 fn:=λ_=>false
 calm:=X.calm
 pn:=[]
 xe:=λ_ _=>False
noncomputable def σC (nl:Nat)(js:List Nat)(σ:St):St:=List.replicate nl none++js.map λj=>(σ[j]?).join
structure DP (X:Cx)(N:DV)(nl:Nat)(js:List Nat)(osc scope:Scope):Prop where
 out:X.env.scope=osc
 kind:scope.kind=.function
 cell:∀y∈scope.names,y.2≠.cell
 names:∀y∈scope.names,y.2=.local->scope.names.lookup y.1=some .local
 free:∀y∈scope.names,y.2=.free->osc.names.lookup y.1=some .cell\/osc.names.lookup y.1=some .free
 len:N.length=nl+js.length
 src:Paired (λj x=>X.N[j]?=some x/\(x,NameKind.free)∈scope.names) js (N.drop nl)
 amg:∀y∈scope.names,y.2=.free->scope.names.lookup y.1≠some .local
theorem fT {env:Env}:∀{names:List (Str×NameKind)}{x:Str}{k:NameKind},(∀y∈names,y.2≠.cell) →
 (names.map λ(n,k)=>if(k==NameKind.free&&env.scope.kind == .function&&env.kindOf n==some .cell) then(n,NameKind.cell) else(n,k)).lookup x=some k->(k=.cell\/k=.free)->(x,NameKind.free)∈names
 |[],_,_,_,h,_=>by simp at h
 |(n,k0):: r,x,k,hc,h,hk=>by
  have h:List.lookup x ((if(k0==NameKind.free&&env.scope.kind == .function&&env.kindOf n==some .cell)=true then(n,NameKind.cell) else(n,k0)):: r.map λ(n,k)=>if(k==NameKind.free&&env.scope.kind == .function&&env.kindOf n==some .cell) then(n,NameKind.cell) else(n,k))=some k:=h;have ih:=@fT env r x k λy hy=>hc y (AM _ hy)
  by_cases hx:x=n
  ·subst hx
   have Nu:k0=.free:=by
    by_cases hb:(k0==NameKind.free&&env.scope.kind == .function&&env.kindOf x==some .cell)=true
    ·have:=(CM.mp (CM.mp hb).1).1;simpa using this
    ·rw[DW hb] at h;simp only[Ah,wB] at h;have e:k0=k:=Option.some.inj h
     rcases hk with z|z
     ·exact absurd (e.trans z) (hc (x,k0) qG)
     ·exact e.trans z
   subst Nu;exact qG
  ·have hb:(x==n)=false:=by simpa using hx
   refine AM _ (ih ?_ hk)
   by_cases Jh:(k0==NameKind.free&&env.scope.kind == .function&&env.kindOf n==some .cell)=true
   ·rw[oO Jh] at h;simp only[Ah,hb] at h;exact h
   ·rw[DW Jh] at h;simp only[Ah,hb] at h;exact h
variable {pins:List (Addr×Obj)}{σ:St}{b C:Addr}{s:qm}{g:TG}{tt:TT}{te:TE}
section
variable {X:Cx}{tg iter elt:Expr}{ifs:Hy}{scope osc:Scope}{pos:Pos}{N:DV}{nl:Nat}{js:List Nat}
noncomputable def BN (X:Cx)(ifs:Hy)(t:TT):Prop :=
 ∀(pins:List (Addr×Obj))(s:qm)(σ:St)(H:Hp)(Q:Bool->Hp->Prop),Inv X pins σ H s->t σ H Q →
  wpAny (model X.prog X.w) X.A (forIn ifs true λc r=>if r=true then do let ok <-isTrue c X.env (eval c X.env);pure (ForInStep.yield ok) else pure (ForInStep.yield r)) (TP X pins σ Q) X.xe s
noncomputable def DX:TT:=λ_ H Q=>Q true H
theorem c6:BN X [] DX:=λ_ _ _ H _ I h=>wpAny_tests_nil ⟨H,I,h⟩
theorem iK {c:Expr}{t:TT}(h:PT X c t):BN X [c] t:=λpins s σ H Q I hw=>wpAny_tests_one (h pins s σ H Q I hw)
theorem cH {s:qm}{h':Heap}(I:Inv X pins σ H s)(f:cK X pins H b)(sb:Heap.SameBut b s.heap h'):Inv X pins σ H {s with heap:=h'}:=
 I.turned (t':=s.toks) (λc o hc e=>(sb.2 c hc).trans e) f.1 f.2.1 f.2.2.2.1 f.2.2.2.2.1 f.2.2.2.2.2
noncomputable def kg (J:It)(g:TG)(tt:TT)(te:TE)(W:Nat->Nat->List V->St->Hp->Prop)(Fin:List V->Hp->Prop):Prop :=
 ∀i m xs σ' H',W i m xs σ' H'->xs.length<sizeLine/\((J.stop i H'/\Fin xs H') \/
  (J.go i H'/\∀x H2,J.yld i H' x H2->g x σ' H2 λσ3 H3=>tt σ3 H3 λb H4 =>
   if b=true then te σ3 H4 λy H5=>∃m',m'<m/\W (i+1) m' (xs++[y]) σ3 H5 else ∃m',m'<m/\W (i+1) m' xs σ3 H4))
theorem oE {fp:List Addr}{h1:Heap}{tk:Nat}(S:DP X N nl js osc scope)(I:Inv X pins σ H s)(f:∀b∈fp,cK X pins H b)(L4:∀b∈fp,b<s.heap.objs.size)
 (hC:s.heap.objs.size<=C)(old:∀b o,s.heap.get? b=some o->h1.get? b=some o){m1:Fj}(K3:h1.Ns C m1):
 Inv (cu X N scope C fp s H) [] (σC nl js σ) H {s with heap:=h1,toks:=tk}:=by
 have Jw:∀y∈scope.names,y.2=.free->X.env.kindOf y.1=some .cell\/X.env.kindOf y.1=some .free:=λy hy hf=>by
  have:=S.free y hy hf;rw[<-S.out] at this;exact this
 have JH:∀y∈scope.names,y.2=.free->∃c,X.env.cells.lookup y.1=some c:=λy hy hf=>I.ok.has y.1 (Jw y hy hf);have sub:∀x c,(dW scope.names X.env).lookup x=some c->X.env.cells.lookup x=some c:=λx c e=>lA JH e
 have Nv:∀b∈fp,b∉dJ X.stack:=λb hb z=>by
  rcases Ef.mp (I.agn b z) with q|q
  ·exact(f b hb).2.1 q
  ·exact(f b hb).2.2.1 q
 refine⟨⟨I.ok.mod,S.kind,I.ok.glob,I.ok.blt,hC,λx y c e1 e2=>I.ok.inj x y c (sub x c e1) (sub y c e2),λx hx=>?_,λx c z _=>absurd z (by show ¬(false=true);decide),I.ok.hd,I.ok.frames,.inl rfl,
  λb hb=>⟨Ho (HG (L4 b hb) hC),λx c e=>(f b hb).2.2.2.2.1 x c (sub x c e)⟩,I.bs,GC I.ok.bsz I.sz,λb o e hb=>?_,Nv,I.stack,I.agE⟩,
  rfl,I.bare,Un.kept old,⟨m1,K3,λi x v e1 e2 e3=>?_⟩,λx c e=>?_,I.hok.fresh hC,λx c e=>I.aga x c (sub x c e),λp hp=>absurd (show p∈([]:List (Addr×Obj)) from hp) (by simp),I.hok.kept old,?_⟩
 ·have hx:(relabel scope X.env).names.lookup x=some .cell\/(relabel scope X.env).names.lookup x=some .free:=hx
  have m:(x,NameKind.free)∈scope.names:=by
   rcases hx with z|z
   ·exact fT S.cell z (.inl rfl)
   ·exact fT S.cell z (.inr rfl)
  exact qT m
 ·rcases(f b hb).2.2.2.1 with z|z
  ·exact I.ok.ahr b o e z
  ·exact absurd (HG (EL e) (GC I.ok.bsz z)) (qo _)
 ·-- Mu names
  have e1:N[i]?=some x:=e1;unfold σC at e2
  by_cases hi:i<nl
  ·rw[Fw (by simpa using hi),List.getElem?_replicate] at e2
   split at e2 <;> cases e2
  ·obtain⟨k,rfl⟩:∃k,i=nl+k:=⟨i-nl,by omega⟩;rw[E3 (by simp),GZ,Nat.add_sub_cancel_left,BC] at e2
   cases ej:js[k]? with
   |none=>rw[ej] at e2;cases e2
   |some j =>
    rw[ej] at e2;have e2:some ((σ[j]?).join)=some (some v):=e2;have e2:=Option.some.inj e2
    have e4:σ[j]?=some (some v):=by
     cases q:σ[j]? with
     |none=>rw[q] at e2;cases e2
     |some z=>rw[q] at e2;exact DT some e2
    have e5:(N.drop nl)[k]?=some x:=by rw[List.getElem?_drop];exact e1
    have gp:∀{l1:List Nat}{l2:DV}{k:Nat}{j:Nat}{x:Str},Paired (λj x=>X.N[j]?=some x/\(x,NameKind.free)∈scope.names) l1 l2->l1[k]?=some j->l2[k]?=some x->X.N[j]?=some x/\(x,NameKind.free)∈scope.names:=by
     intro l1 l2 k j x p
     induction p generalizing k with
     |nil=>intro h;simp at h
     |cons r _ ih =>
      intro h1 h2
      cases k with
      |zero=>simp at h1 h2;subst h1;subst h2;exact r
      |succ k=>exact ih (by simpa using h1) (by simpa using h2)
    obtain⟨hx,hm⟩:=gp S.src ej e5;have hk:=Jw (x,.free) hm rfl;obtain⟨m,hn,hl⟩:=I.loc
    have vis:Hh X.env.scope x:=by
     rcases hk with z|z
     ·exact .inr (.inl z)
     ·exact .inr (.inr z)
    obtain⟨u,r,l⟩:=hl j x v hx e4 vis;refine⟨u,r,?_⟩
    rcases l with⟨k1,_⟩|⟨_,c,hc,Js⟩
    ·exfalso
     rcases hk with z|z <;> (rw[z] at k1;cases k1)
    ·obtain⟨c',Jh⟩:=qT (env:=X.env) hm;have:=sub x c' Jh;rw[hc] at this
     cases this
     refine .inr ⟨?_,c,Jh,?_⟩
     ·rcases e3 with z|z|z
      ·-- a name of Mu Tu own: no
       exfalso
       have lk:scope.names.lookup x=some .local:=by
        have gen:∀(l:List (Str×NameKind)),(l.map λ(n,k)=>if(k==NameKind.free&&X.env.scope.kind == .function&&X.env.kindOf n==some .cell) then(n,NameKind.cell) else(n,k)).lookup x=some .local->l.lookup x=some .local:=by
         intro l
         induction l with
         |nil=>intro h;simp at h
         |cons p r ih =>
          obtain⟨n,k0⟩:=p;intro h;have h:List.lookup x ((if(k0==NameKind.free&&X.env.scope.kind == .function&&X.env.kindOf n==some .cell)=true then(n,NameKind.cell) else(n,k0)):: r.map λ(n,k)=>if(k==NameKind.free&&X.env.scope.kind == .function&&X.env.kindOf n==some .cell) then(n,NameKind.cell) else(n,k))=some .local:=h
          cases hb:x==n with
          |true =>
           by_cases Jh:(k0==NameKind.free&&X.env.scope.kind == .function&&X.env.kindOf n==some .cell)=true
           ·rw[oO Jh] at h;simp only[Ah,hb] at h;cases h
           ·rw[DW Jh] at h;simp only[Ah,hb] at h |-;exact h
          |false =>
           simp only[Ah,hb];refine ih ?_
           by_cases Jh:(k0==NameKind.free&&X.env.scope.kind == .function&&X.env.kindOf n==some .cell)=true
           ·rw[oO Jh] at h;simp only[Ah,hb] at h;exact h
           ·rw[DW Jh] at h;simp only[Ah,hb] at h;exact h
        exact gen _ z
       exact S.amg (x,.free) hm rfl lk
      ·exact .inl z
      ·exact .inr z
     ·obtain⟨o,ho,hd⟩:=Js;exact⟨o,old _ _ ho,hd⟩
 ·obtain⟨v,o,ho,hd⟩:=I.cell x c (sub x c e);exact⟨v,o,old _ _ ho,hd⟩
 ·show(σC nl js σ).length=N.length;unfold σC;rw[Af,GZ,wC,S.len]
noncomputable abbrev iD (ys:wW)(k:Nat):Obj:={cls:=.type "list",data:=.seq ys.toArray k}
theorem lY {J:It}{it:Addr}{fp:List Addr}{tn:Nat->Heap->Prop}{W:Nat->Nat->List V->St->Hp->Prop}{Fin:List V->Hp->Prop}
 {E:zQ}{RR:Value->Addr->Result->Shared->Prop}
 (S:DP X N nl js osc scope)(hc:X.calm=true)(hg:∀C fp s H,PG (cu X N scope C fp s H) tg g)(ht:∀C fp s H,BN (cu X N scope C fp s H) ifs tt)(he:∀C fp s H,PE (cu X N scope C fp s H) elt te)
 (I:Inv X pins σ H s)(T:Turn X.prog X.w X.K tg J fp it tn)(st:tn 0 s.heap)(f:∀b∈fp,cK X pins H b)(w0:∃m,W 0 m [] (σC nl js σ) H)(hW:kg J g tt te W Fin)
 (UT:∀(D C:Addr)(H':Hp)(s':qm)(xs:List V)(m:Fj),Inv X pins σ (upd H' D (.lst xs)) s'->H' D=none->s'.heap.Ns C m->cK X pins (upd H' D (.lst xs)) C->Fin xs H'->RR (.ref D) C (.ok .next) s'):
 wpAny (model X.prog X.w) X.A (newList []) (λacc s₃=>wpAny (model X.prog X.w) X.A (newFunctionEnv scope X.env.globals (dW scope.names X.env) [] X.env.qual none .none (some X.env)) (λLb s₄ =>
  codeAny (model X.prog X.w) X.A (.compStart (.ListComp elt [⟨tg,iter,ifs,0⟩] scope pos) 0 (.ref it) acc {Lb with scope:=relabel scope X.env}) (RR acc Lb.locals) s₄) E s₃) E s:=by
 have L4:∀b∈fp,b<s.heap.objs.size:=λb hb=>by
  obtain⟨o,e,_⟩:=T.obj 0 _ st b hb;exact EL e
 refine IP (wu S.cell (by intro y hy;simp at hy) (λh₁ Kv J0=>?_) S.kind);dsimp only at Kv J0 |-;generalize Nw:s.heap.push {cls:=.type "list",dict:=none,data:=.seq ([]:wW).toArray}=H2 at Kv J0 |-
 have hC:H2.objs.size=s.heap.objs.size+1:=by rw[<-Nw,F4]
 have LJ:s.heap.objs.size≠H2.objs.size:=by rw[hC];exact Ho (DN _)
 have below:∀b,b<s.heap.objs.size->b≠H2.objs.size/\b≠s.heap.objs.size:=λb hb=>⟨by rw[hC];exact Ho (pS hb),Ho hb⟩;have old:∀b o,s.heap.get? b=some o->h₁.get? b=some o:=λb o e=>J0.extBut b o (below b (EL e)).1 (xQ _ (Nw▸xQ _ e));have Ny:h₁.get? s.heap.objs.size=some {cls:=.type "list",data:=.seq ([]:wW).toArray 0}:=J0.extBut _ _ LJ (xQ _ (Nw▸HR _ rfl))
 have Lc:s.heap.objs.size<=H2.objs.size:=by rw[hC];exact BK _
 have JH:∀y∈scope.names,y.2=.free->∃c,X.env.cells.lookup y.1=some c:=λy hy hf=>by
  have z:=S.free y hy hf;rw[<-S.out] at z;exact I.ok.has y.1 z
 have sub:∀x c,(dW scope.names X.env).lookup x=some c->X.env.cells.lookup x=some c:=λx c e=>lA JH e
 have UU:∀x c,(dW scope.names X.env).lookup x=some c->c<s.heap.objs.size:=λx c e=>by
  obtain⟨v,q⟩:=I.cell x c (sub x c e);exact q.lt
 have Nv:∀b∈fp,b∉dJ X.stack:=λb hb z=>by
  rcases Ef.mp (I.agn b z) with q|q
  ·exact(f b hb).2.1 q
  ·exact(f b hb).2.2.1 q
 have OR:s.heap.objs.size∉dJ X.stack:=λz=>by
  rcases Ef.mp (I.agn _ z) with q|q
  ·exact absurd I.lt (by rw[<-q];exact qo _)
  ·exact I.ajC (AY _) q
 have PN:s.heap.objs.size∉fp:=λz=>qo _ (L4 _ z)
 have Nz:∀{H':Hp}{ob:Obj},(∀b∈fp,H' b=none)->∀b∈fp,cK (cu X N scope H2.objs.size fp s H) [(s.heap.objs.size,ob)] H' b:=λ{H' ob} hn b hb =>
  ⟨hn b hb,(below b (L4 b hb)).1,Nv b hb,.inl hb,λx c e=>(f b hb).2.2.2.2.1 x c (sub x c e),λp hp z=>by
   have e:p=(s.heap.objs.size,ob):=by
    have:p∈[(s.heap.objs.size,ob)]:=hp;simpa using this
   subst e
   exact PN (by rw[show s.heap.objs.size=b from z];exact hb)⟩
 have UW:∀{H':Hp},H' s.heap.objs.size=none->cK (cu X N scope H2.objs.size fp s H) [] H' s.heap.objs.size:=λ{H'} hn =>
  ⟨hn,LJ,OR,.inr (AY _),λx c e=>Ho (UU x c e),λp hp=>absurd (show p∈([]:List (Addr×Obj)) from hp) (by simp)⟩
 have L8:∀{σ':St}{H':Hp}{s':qm}{ys:wW}{k:Nat},Inv (cu X N scope H2.objs.size fp s H) [] σ' H' s'->H' s.heap.objs.size=none->s'.heap.get? s.heap.objs.size=some (iD ys k) →
  Inv (cu X N scope H2.objs.size fp s H) [(s.heap.objs.size,iD ys k)] σ' H' s':=λ{σ' H' s' ys k} I' hn hl=>I'.agk λp hp=>by
  have e:p=(s.heap.objs.size,iD ys k):=by simpa using hp
  subst e;exact⟨hl,hn,LJ,OR,λv z=>by cases z⟩
 have kJ:∀s₃:Shared,s₃={s with heap:=h₁,toks:=s.toks+([]:List (Str×Value)).length} →
  codeAny (model X.prog X.w) X.A (.compLoop (.ListComp elt [⟨tg,iter,ifs,0⟩] scope pos) 0 (.ref it) (.ref s.heap.objs.size) (compEnvC scope (dW scope.names X.env) H2.objs.size X.env))
   (RR (.ref s.heap.objs.size) H2.objs.size) s₃:=by
  rintro s₃ rfl;obtain⟨m0,w0⟩:=w0;have I0:Inv (cu X N scope H2.objs.size fp s H) [] (σC nl js σ) H {s with heap:=h₁,toks:=s.toks+([]:List (Str×Value)).length}:=oE S I f L4 Lc old Kv
  refine abX (λn s'=>∃i σ' H' xs ys k,Inv (cu X N scope H2.objs.size fp s H) [(s.heap.objs.size,iD ys k)] σ' H' s'/\tn i s'.heap/\(∀b∈fp,H' b=none)/\aN xs ys/\W i n xs σ' H') ?_ m0
   ⟨0,σC nl js σ,H,[],[],0,L8 I0 (I.hok.fresh (AY _)) Ny,T.keep _ _ _ st λb _ o e=>old b o e,λb hb=>(f b hb).1,.nil,w0⟩
  rintro n s' ⟨i,σ',H',xs,ys,k,I',JD,PQ,rv,w'⟩;obtain⟨hz,hw⟩:=hW i n xs σ' H' w'
  rcases hw with⟨stop,fin⟩|⟨go,step⟩
  ·refine qx (T.done (cu X N scope H2.objs.size fp s H) rfl rfl rfl hc i _ s' σ' H' (λ_ _=>False) I' (Nz PQ) JD stop) (λr s1 z'=>?_) λ_ _ z=>z;obtain⟨hr,I1⟩:=z';subst hr;obtain⟨p1,p2,_⟩:=I1.pin (s.heap.objs.size,iD ys k) (by show _∈([]:List (Addr×Obj))++[_];simp);have u1:Un (dJ X.stack) fp H H' s.heap s1.heap:=I1.base
   have u2:Un (dJ X.stack) fp H (upd H' s.heap.objs.size (.lst xs)) s.heap s1.heap:=⟨u1.keep,u1.slot,λb o e n hx=>by rw[au (Ho (EL e))];exact u1.free b o e n hx,u1.there,
    λb zs e=>by rw[au (ax (u1.agf b zs e) p2)];exact u1.agf b zs e,λb o zs e=>by rw[au (ax (u1.age b o zs e) p2)];exact u1.age b o zs e,λb ps e=>by
     obtain⟨mo,q⟩:=u1.agp b ps e
     exact⟨mo,by rw[au (ax q p2)];exact q⟩⟩
   have hk:fF X.prog X.w (upd H' s.heap.objs.size (.lst xs)) s1.heap:=dE I1.hok p2 ⟨HE hz,ys,k,rv,p1⟩;have I3:Inv X pins σ (upd H' s.heap.objs.size (.lst xs)) s1:=I.ahY I1.os u2 hk I1.bare λb hb=>⟨(f b hb).2.2.2.1,(f b hb).2.1,(f b hb).2.2.2.2.1,(f b hb).2.2.2.2.2⟩;obtain⟨mm,UX,_⟩:=I1.loc
   have UY:upd H' s.heap.objs.size (.lst xs) H2.objs.size=none:=by rw[au (Hw LJ)];exact I1.free
   exact UT _ _ H' s1 xs mm I3 p2 UX (I.agS Lc UY) fin
  ·refine qx (T.item (cu X N scope H2.objs.size fp s H) rfl rfl rfl hc i _ s' σ' H' (λ_ _=>False) I' (Nz PQ) JD go) (λr s1 z'=>?_) λ_ _ z=>z;obtain⟨u,hr,h4⟩:=z';subst hr;refine qx h4 (λ_ s2 z'=>?_) λ_ _ z=>z;obtain⟨x,PR,I2,r2,y2,Ku,UZ⟩:=z';have U1:=I2.pinned (Nz UZ) (T.obj _ _ Ku);refine qx (hg _ _ _ _ _ s2 σ' PR x u _ U1 r2 (step x PR y2)) (λ_ s3 z'=>?_) λ_ _ z=>z;obtain⟨σ3,H3,I3,q3⟩:=z';refine qx (ht _ _ _ _ _ s3 σ3 H3 _ I3 q3) (λok s4 z'=>?_) λ_ _ z=>z;obtain⟨H4,I4,q4⟩:=z'
   have back:∀{s5:qm}{H5:Hp},Inv (cu X N scope H2.objs.size fp s H) ([(s.heap.objs.size,iD ys k)]++dn fp s2.heap) σ3 H5 s5->tn (i+1) s5.heap/\∀b∈fp,H5 b=none:=λ{s5 H5} I5 =>
    ⟨T.keep _ _ _ Ku λb hb o e=>(I5.pin (b,o) (Il _ (Il _ (cD hb e)))).1,λb hb=>by
     obtain⟨o,e,d⟩:=T.obj _ _ Ku b hb
     exact(I5.pin (b,o) (Il _ (Il _ (cD hb e)))).2.1⟩
   cases ok with
   |false =>
    rw[DW FO] at q4 |-;obtain⟨m',hm,w4⟩:=q4;exact⟨m',hm,i+1,σ3,H4,xs,ys,k,I4.agg,(back I4).1,(back I4).2,rv,w4⟩
   |true =>
    rw[oO rfl] at q4 |-;refine qx (he _ _ _ _ _ s4 σ3 H4 _ I4 q4) (λv s5 z'=>?_) λ_ _ z=>z;obtain⟨y,H5,I5,r5,m',hm,w5⟩:=z';obtain⟨p1,p2,_⟩:=I5.pin (s.heap.objs.size,iD ys k) (Il _ (mi _ (by simp)));obtain⟨Pp,UH⟩:=back I5;refine append_at (its:=ys.toArray) p1 (λh' sb hD=>?_) (by rw[yQ,<-rv.length];exact HE hz);have I6:Inv (cu X N scope H2.objs.size fp s H) [] σ3 H5 {s5 with heap:=h'}:=cH (I5.agk (pins':=[]) λp hp=>absurd hp (by simp)) (UW p2) sb;refine⟨m',hm,i+1,σ3,H5,xs++[y],ys++[v],k+1,L8 I6 p2 ?_,T.keep _ _ _ Pp λb hb o e=>(sb.2 b λz=>PN (z▸hb)).trans e,UH,rv.append (.cons r5 .nil),w5⟩;rw[hD];show some _=some (iD (ys++[v]) (k+1));rw[iD,<-List.push_toArray]
 exact codeAny_compStart_list (kJ _ rfl) (T.self X.A 0 _ _ _ (T.keep _ _ _ st λb _ o e=>old b o e) (kJ _ rfl))
noncomputable def Di (wi:TI)(g:TG)(tt:TT)(te:TE)(nl:Nat)(js:List Nat):TE:=λσ H Q=>wi σ H λJ H1 =>
 ∃W:Nat->Nat->List V->St->Hp->Prop,(∃m,W 0 m [] (σC nl js σ) H1)/\kg J g tt te W λxs H'=>∀D,H' D=none->Q (.ref D) (upd H' D (.lst xs))
theorem hX (S:DP X N nl js osc scope)(I:Inv X pins σ H s):closureFor scope X.env=pure (dW scope.names X.env):=gY λy hy hf=>by
 have z:=S.free y hy hf;rw[<-S.out] at z;exact I.ok.has y.1 z
theorem dG {wi:TI}(S:DP X N nl js osc scope)(hc:X.calm=true)(hi:PI X tg iter wi)(hg:∀C fp s H,PG (cu X N scope C fp s H) tg g)(ht:∀C fp s H,BN (cu X N scope C fp s H) ifs tt)
 (he:∀C fp s H,PE (cu X N scope C fp s H) elt te)(hs:∀x,foldedSetIterable iter X.env x=pure x:=by intro _;rfl):
 PE X (.ListComp elt [⟨tg,iter,ifs,0⟩] scope pos) (Di wi g tt te nl js):=by
 intro pins s σ H Q I h;rw[eval_ListComp];refine xr (use:=none) rfl hs (hX S I) S.kind S.names (bO (hi pins s σ H _ I h) λv s1 h1=>bO h1 λOK s2 h2=>?_);obtain⟨it,fp,tn,J,H2,e,I2,T,Ku,f2,W,w0,hW⟩:=h2;subst e;refine lY (RR:=λacc C=>compPost (model X.prog X.w) X.A X.xe none (EP X pins σ Q) acc C) S hc hg ht he I2 T Ku f2 w0 hW ?_;intro D C H' s' xs m I3 hD hn fC fin;exact⟨m,hn,λh' sb=>⟨.ref D,_,cH I3 fC sb,rfl,fin D hD⟩⟩
theorem jX {i:Nat}{y:Str}{py PU:Pos}{wi:TI}(S:DP X N nl js osc scope)(hc:X.calm=true)(hN:X.N.Nodup)(hy:X.N[i]?=some y)(hl:G5 X.env.scope y)(hi:PI X tg iter wi)
 (hg:∀C fp s H,PG (cu X N scope C fp s H) tg g)(ht:∀C fp s H,BN (cu X N scope C fp s H) ifs tt)(he:∀C fp s H,PE (cu X N scope C fp s H) elt te)
 (hsw:swapsWith (.ListComp elt [⟨tg,iter,ifs,0⟩] scope pos) (some (.Name y py)) PU.line X.env=pure true)(hs:∀x,foldedSetIterable iter X.env x=pure x:=by intro _;rfl)
 (hf:X.fn y=true\/X.env.scope.names.lookup y=some .local:=by first|exact .inl rfl|exact .inr rfl|assumption):
 PS X (.Assign [.Name y py] (.ListComp elt [⟨tg,iter,ifs,0⟩] scope pos) PU) (yY (Di wi g tt te nl js) (bJ i)):=by
 intro pins s σ H D I h;rw[exec_Assign_Name_used _ _ _ _ hsw];refine IM (Ex (IM ?_));show wpAny _ X.A (do let _ <-comprehension (.ListComp elt [⟨tg,iter,ifs,0⟩] scope pos) scope X.env _ (newList []) false (eval iter X.env) (some (assign (.Name y py) X.env))) _ _ s
 refine IM (qx (xr (use:=some (assign (.Name y py) X.env)) (Q:=λ_ s'=>SP X pins D .next s') rfl hs (hX S I) S.kind S.names
  (bO (hi pins s σ H _ I h) λv s1 h1=>bO h1 λOK s2 h2=>?_)) (λ_ s' hq=>IV (IV hq)) λ_ _ e=>e)
 obtain⟨it,fp,tn,J,H2,e,I2,T,Ku,f2,W,w0,hW⟩:=h2;subst e;refine lY (RR:=λacc C=>compPost (model X.prog X.w) X.A X.xe (some (assign (.Name y py) X.env)) (λ_ s'=>SP X pins D .next s') acc C) S hc hg ht he I2 T Ku f2 w0 hW ?_;intro Dd C H' s' xs m I3 hD hn fC fin;show wpAny _ X.A (assign (.Name y py) X.env (.ref Dd)) _ _ _;refine wpAny_assign_Name (oj I3 hN hy hl (show aE (.ref Dd) (.ref Dd) from rfl) (λs4 I4 z'=>?_) hf);obtain⟨a,sb,ha⟩:=z';refine⟨m,hn.sameBut sb ?_,λh' MA=>⟨_,_,cH I4 fC MA,fin Dd hD⟩⟩
 rcases ha with z|z
 ·rw[z];exact fC.2.1
 ·exact λq=>fC.2.2.2.2.1 _ _ z q.symm
end
open PySem.W
noncomputable def ab9 (h B:Heap)(e:Addr)(cls a0 fl:Value)(d:uJ):Prop :=
 ∃(o:Obj)(vs:IU)(T:Addr)(oT:Obj)(ts:IU),h.get? e=some o/\o.dict=d/\(o.cls=cls/\vs[0]?=some a0)/\o.data=.fields vs/\vs[1]?=some (.ref T)/\B.get? T=none/\T≠e/\h.get? T=some oT/\oT.data=.fields ts/\ts[3]?=some fl
structure wz (B:Heap)(l:List Env)(e:Addr)(cls a0 fl:Value)(d:uJ)(h:Heap):Prop where
 st:B.StaysIn h
 new:B.get? e=none
 fr:h.FunFrames B l
 tr:ab9 h B e cls a0 fl d
variable {o:Obj}{vs:IU}{l:List Env}{fl:Value}
section
variable {M:Model}{A:Around}{E:zQ}{s:qm}{B:Heap}{env:Env}{outer:List Env}{L e:Addr}{cls a0:Value}{d:uJ}{Q:Unit->Shared->Prop}
theorem vN {hd:Value}{nx:Bool}(KW:A.frames=some (env::outer))(fr:s.heap.FunFrames B (env::outer))(hf:env.frame=some L)(st:B.StaysIn s.heap)(new:B.get? e=none)
 (he:s.heap.get? e=some o)(Kd:o.dict=d)(hc:o.cls=cls)(hv:o.data=.fields vs)(h1:1<vs.size)(h0:vs[0]?=some a0)
 (h:∀h',wz B (env::outer) e cls a0 (rawInt L) d h'->s.heap.UpToSlots h'->Q () {s with heap:=h'}):
 wpAny M A (do let a <-frameOf env;let pl <-entryPlaceOf L nx;let b <-EntryCells.newEntry hd a .none (rawInt L) .none pl;setField (.ref e) 1 b) Q E s:=by
 have nf:e∉(env::outer).filterMap (·.frame):=λm=>by
  obtain⟨_,o',JE,q⟩:=fr.mem m;rw[he] at JE;cases JE;exact q vs hv
 refine IM (wpAny_frameOf_fun KW fr hf λg sl=>IM (wpAny_entryPlaceOf λpl Kb=>?_));unfold EntryCells.newEntry newFields;refine IM (IP ?_ (Kb.sizeOk5 _ _ _ _ _));have e1:g.get? e=some o:=(sl.2.1 e nf).trans he;have YB:B.StaysIn g:=λb ob q=>(sl.2.1 b λm=>by rw[(fr.mem m).1] at q;cases q).trans (st b ob q);have ne:g.objs.size≠e:=EB (EL e1);have dv:=zE hv (·.setIfInBounds 1 (Value.ref g.objs.size))
 have kp:∀(oT:Obj) b ob,b≠e->g.get? b=some ob->((g.push oT).update e (Obj.mapFields (·.setIfInBounds 1 (Value.ref g.objs.size)))).get? b=some ob:=λoT b ob hb q =>
  (wR _ _ (Hw hb)).trans (xQ _ q)
 have nr:∀b ob,s.heap.get? b=some ob->(∀ws,ob.data≠.fields ws)->b≠e:=λb ob q hn z=>by rw[z,he] at q;cases q;exact hn vs hv
 refine Aq (xQ _ e1) hv h1 (h _ ⟨λb ob q=>kp _ b ob (λz=>by rw[z,new] at q;cases q) (YB b ob q),new,fr.of_keeps λb ob q hn=>?_,?_⟩ λb ob q hn=>?_)
 ·obtain⟨z,q1⟩:=sl.2.2 b ob q;exact⟨_,kp _ b _ (nr b ob q hn) q1,rfl⟩
 ·refine⟨_,_,g.objs.size,_,_,mX _ (xQ _ e1) (Ba dv),?_,⟨(Au _ _).trans hc,by rw[A3 (by decide)];exact h0⟩,dv,by simp[h1],YB.fresh,ne,
   (wR _ _ (Hw ne)).trans (HR g rfl),rfl,by first|(simp;done)|(rcases Kb with rfl|⟨_,_,_,_,_,_,_,rfl⟩ <;> simp)⟩
  rw[<-Kd]
  cases o
  dsimp only at hv;subst hv;rfl
 ·obtain⟨z,q1⟩:=sl.2.2 b ob q;exact⟨z,kp _ b _ (nr b ob q hn) q1⟩
theorem Ao (KW:A.frames=some (env::outer))(hf:env.frame=some L)(x:wz B (env::outer) e cls a0 .none d s.heap)
 (h:∀h',wz B (env::outer) e cls a0 (rawInt L) d h'->s.heap.UpToSlots h'->Q () {s with heap:=h'}):wpAny M A (noteFrame (.ref e) env) Q E s:=by
 obtain⟨o,vs,T,oT,ts,he,Kd,⟨hc,h0⟩,hv,h1,nT,Te,hT,MB,h3⟩:=x.tr;unfold noteFrame;simp only[hf];refine IM (Fq he hv h1 ?_);rw[oO (by simp)];refine IM (Fq hT MB h3 ?_);rw[DW (by simp[rawInt])];refine IM (Aq hT MB (gT.mp h3).1 ?_);have ot:∀b,b≠T->(s.heap.update T (Obj.mapFields (·.setIfInBounds 3 Value.none))).get? b=s.heap.get? b:=λb hb=>wR _ _ (Hw hb)
 have nr:∀b ob,s.heap.get? b=some ob->(∀ws,ob.data≠.fields ws)->b≠T:=λb ob q hn z=>by rw[z,hT] at q;cases q;exact hn ts MB
 refine vN (s:={s with heap:=s.heap.update T (Obj.mapFields (·.setIfInBounds 3 Value.none))}) KW (x.fr.of_keeps λb ob q hn=>⟨ob,(ot b (nr b ob q hn)).trans q,rfl⟩) hf (λb ob q=>(ot b λz=>by rw[z,nT] at q;cases q).trans (x.st b ob q)) x.new
  ((ot e (Hw Te)).trans he) Kd hc hv (gT.mp h1).1 h0 λh' y up=>h h' y λb ob q hn=>up b ob ((ot b (nr b ob q hn)).trans q) hn
theorem acg (KW:A.frames=some (env::outer))(fr:s.heap.FunFrames B (env::outer))(hf:env.frame=some L)(st:B.StaysIn s.heap)(new:B.get? e=none)
 (he:s.heap.get? e=some o)(Kd:o.dict=d)(hc:o.cls=cls)(hv:o.data=.fields vs)(h1:vs[1]?=some .none)(h0:vs[0]?=some a0)
 (h:∀h',wz B (env::outer) e cls a0 (rawInt L) d h'->s.heap.UpToSlots h'->Q () {s with heap:=h'}):wpAny M A (noteFrame (.ref e) env) Q E s:=by
 unfold noteFrame;simp only[hf];refine IM (Fq he hv h1 ?_);rw[DW (by decide)];exact vN KW fr hf st new he Kd hc hv (gT.mp h1).1 h0 h
theorem iO (x:wz B l e cls a0 fl d s.heap)(h:∀h',wz B l e cls a0 .none d h'->s.heap.UpToSlots h'->Q () {s with heap:=h'}):wpAny M A (setFlight (.ref e) none) Q E s:=by
 obtain⟨o,vs,T,oT,ts,he,Kd,hc,hv,h1,nT,Te,hT,MB,h3⟩:=x.tr;have z3:3<ts.size:=(gT.mp h3).1;have ot:∀b,b≠T->(s.heap.update T (Obj.mapFields (·.setIfInBounds 3 Value.none))).get? b=s.heap.get? b:=λb hb=>wR _ _ (Hw hb)
 have nr:∀b ob,s.heap.get? b=some ob->(∀ws,ob.data≠.fields ws)->b≠T:=λb ob q hn z=>by rw[z,hT] at q;cases q;exact hn ts MB
 unfold setFlight;refine IM (Fq he hv h1 ?_);rw[oO (by simp)];refine Aq hT MB z3 (h _ ⟨λb ob q=>(ot b λz=>by rw[z,nT] at q;cases q).trans (x.st b ob q),x.new,x.fr.of_keeps λb ob q hn=>⟨ob,(ot b (nr b ob q hn)).trans q,rfl⟩,?_⟩ λb ob q hn=>⟨ob.slots,(ot b (nr b ob q hn)).trans q⟩);exact⟨o,vs,T,_,_,(ot e (Hw Te)).trans he,Kd,hc,hv,h1,nT,Te,mX _ hT (Ba (zE MB _)),zE MB _,by simp[z3]⟩
theorem wz.out (x:wz B (env::outer) e cls a0 fl d h):wz B outer e cls a0 fl d h:=⟨x.st,x.new,x.fr.2.2,x.tr⟩
theorem vQ (KW:A.frames=some (env::outer))(hf:env.frame=some L)(x:wz B (env::outer) e cls a0 .none d s.heap)
 (h:∀h',wz B outer e cls a0 .none d h'->s.heap.UpToSlots h'->Q () {s with heap:=h'}):wpAny M A (leaving env (.ref e)) Q E s:=by
 unfold leaving;exact IM (Ao KW hf x λg y up=>iO (s:={s with heap:=g}) y λg2 y2 U2=>h g2 y2.out (up.trans U2))
theorem acz (KW:A.frames=some (env::outer))(fr:s.heap.FunFrames B (env::outer))(hf:env.frame=some L)(st:B.StaysIn s.heap)(new:B.get? e=none)
 (he:s.heap.get? e=some o)(Kd:o.dict=d)(hc:o.cls=cls)(hv:o.data=.fields vs)(h1:vs[1]?=some .none)(h0:vs[0]?=some a0)
 (h:∀h',wz B outer e cls a0 .none d h'->s.heap.UpToSlots h'->Q () {s with heap:=h'}):wpAny M A (leaving env (.ref e)) Q E s:=by
 unfold leaving;exact IM (acg KW fr hf st new he Kd hc hv h1 h0 λg y up=>iO (s:={s with heap:=g}) y λg2 y2 U2=>h g2 y2.out (up.trans U2))
end
theorem a9.there {o:HO}(x:a9 P w H h a o):∃ob,h.get? a=some ob:=by
 cases o with
 |lst xs=>obtain⟨_,_,_,_,e⟩:=x;exact⟨_,e⟩
 |tup xs=>obtain⟨_,_,_,ob,e,_⟩:=x;exact⟨_,e⟩
 |dK IY=>obtain⟨_,_,_,_,o,_,_,e,_⟩:=x;exact⟨_,e⟩
 |dT IY=>obtain⟨_,_,_,_,o,_,_,e,_⟩:=x;exact⟨_,e⟩
 |set S n=>obtain⟨o,_,_,_,e,_⟩:=x;exact⟨_,e⟩
 |ins C dx fs=>obtain⟨_,_,_,e,_⟩:=x;exact⟨_,e⟩
 |own y=>obtain⟨_,e⟩:=x;exact⟨_,e⟩
 |xd fs=>obtain⟨_,⟨_,_,_,e,_⟩,_⟩:=x;exact⟨_,e⟩
 |rng lo hi=>obtain⟨_,_,_,e⟩:=x;exact⟨_,e⟩
 |frz ob u=>obtain⟨e,_⟩:=x;exact⟨_,e⟩
 |tbl ps=>exact⟨_,(show h.get? a=some _ from x)⟩
 |met f y=>exact⟨_,(show h.get? a=some _ from x)⟩
 |ext φ=>obtain⟨_,⟨_,e⟩,_⟩:=x;exact⟨_,e⟩
structure xM (P:A9)(w:World)(l:List Env)(H₀:Hp)(h₀:Heap)(a:Addr)(cls:Value)(H:Hp)(h:Heap)(B:Heap)(a0:Value)(d:uJ):Prop where
 fly:wz B l a cls a0 .none d h
 un:Un (dJ l) [] H₀ H h₀ h
 keep:∀b o,h₀.get? b=some o->H₀ b=none->b∉dJ l->B.get? b=some o
 there:∀b o,h₀.get? b=some o->b∉dJ l->∃o',B.get? b=some o'
 hok:fF P w H B
 new:H a=none
noncomputable def bZ (P:A9)(w:World):zd:=λouter H₀ s₀ E e s'=>∃(a:Addr)(cls a0:Value)(B:Heap)(d:uJ)(H:Hp),e=.ref a/\s'.os=s₀.os/\AllBare s'.gens/\xM P w outer H₀ s₀.heap a cls H s'.heap B a0 d/\E cls d H
variable {Ko:Heap}{cls:Value}{d:uJ}
section
variable {X:Cx}{pins:List (Addr×Obj)}{σ:St}{H H':Hp}{s s':qm}{P:A9}{w:World}
theorem cR {base:Heap}(F:h.FunFrames base l)(hb:b∈dJ l)(e:h.get? b=some o):∀vs,o.data≠.fields vs:=by
 obtain⟨_,o',e',d⟩:=F.mem hb;rw[e] at e'
 cases e'
 exact d
theorem ac6 {outer:List Env}{h' B:Heap}{e t:Addr}{args:wW}(I:Inv X pins σ H s)(hex:X.ex=[])(LI:X.stack=X.env::X.outer)(hm:Heap.MadeExcOf s.heap h' e cls args)
 (hB:B=PySem.W.hideAll s.heap (dJ X.stack))(hf:wz B X.outer e cls (.ref t) .none d Ko)(NA:h'.UpToSlots Ko):xM X.prog X.w X.outer X.H₀ X.s₀.heap e cls H Ko B (.ref t) d:=by
 subst hB;have st:=hf.st;have PV:∀b o,s.heap.get? b=some o->b∉dJ X.stack->(PySem.W.hideAll s.heap (dJ X.stack)).get? b=some o:=λb o e n=>PySem.W.hideAll_get _ e n
 have old:∀b o,X.s₀.heap.get? b=some o->b∉dJ X.outer->b∉dJ X.stack:=λb o e n z=>by
  rcases Ef.mp (I.agn b z) with q|q
  ·exact absurd (HG (EL e) I.ok.above) (by rw[q];exact qo _)
  ·exact n q
 have base:Un (dJ X.outer) [] X.H₀ H X.s₀.heap s.heap:=by
  have z:=I.base;rw[hex] at z;exact z
 refine⟨hf,⟨λb o e n hb _=>st b o (PV b o (base.keep b o e n hb (by simp)) (old b o e hb)),λb o e n hb _=>?_,base.free,λb o e _=>?_,base.agf,base.age,base.agp⟩,λb o e n hb=>PV b o (base.keep b o e n hb (by simp)) (old b o e hb),λb o e hb=>?_,λb u e=>?_,?_⟩
 ·obtain⟨sl,e1⟩:=base.slot b o e n hb (by simp);obtain⟨KR,e2⟩:=NA b _ (hm.keeps b _ e1) (cR I.agq hb e1);exact⟨KR,e2⟩
 ·obtain⟨o',e1⟩:=base.there b o e (by simp)
  by_cases hb:b∈dJ X.outer
  ·obtain⟨KR,e2⟩:=NA b _ (hm.keeps b _ e1) (cR I.agq hb e1);exact⟨_,e2⟩
  ·exact⟨o',st b o' (PV b o' e1 (old b o e hb))⟩
 ·obtain⟨o',e1⟩:=base.there b o e (by simp);exact⟨o',PV b o' e1 (old b o e hb)⟩
 ·exact(I.hok b u e).agR (λc v hc q=>PV c v q λz=>by
   have n:=I.agE c z
   rcases hc with hc|hc
   ·rw[hc,e] at n;cases n
   ·rw[n] at hc;cases hc) (λ_ q=>q) λ_ _ q=>q
 ·cases q:H e with
  |none=>rfl
  |some u =>
   obtain⟨ob,e1⟩:=(I.hok e u q).there;rw[hm.new] at e1
   cases e1
theorem qL {B:Heap}{a0:Value}(I:Inv X pins σ H s)(hex:X.ex=[])(F:xM X.prog X.w X.stack H s.heap a cls H' s'.heap B a0 d)
 (hf:wz B X.outer a cls a0 .none d Ko)(NA:s'.heap.UpToSlots Ko):xM X.prog X.w X.outer X.H₀ X.s₀.heap a cls H' Ko B a0 d:=by
 have st:=hf.st
 have sub:∀b,b∈dJ X.outer->b∈dJ X.stack:=λb hb=>by
  rcases I.ok.stk with z|⟨z,KW⟩
  ·rw[z];exact hb
  ·rw[z];unfold dJ;rw[Ff,KW];exact AM _ hb
 have old:∀b o,X.s₀.heap.get? b=some o->b∉dJ X.outer->b∉dJ X.stack:=λb o e n z=>by
  rcases Ef.mp (I.agn b z) with q|q
  ·exact absurd (HG (EL e) I.ok.above) (by rw[q];exact qo _)
  ·exact n q
 have base:Un (dJ X.outer) [] X.H₀ H X.s₀.heap s.heap:=by
  have z:=I.base;rw[hex] at z;exact z
 have kB:∀b o,X.s₀.heap.get? b=some o->X.H₀ b=none->b∉dJ X.outer->B.get? b=some o:=λb o e n hb =>
  F.keep b o (base.keep b o e n hb (by simp)) (base.free b o e n (by simp)) (old b o e hb)
 have tB:∀b o,X.s₀.heap.get? b=some o->b∉dJ X.outer->∃o',B.get? b=some o':=λb o e hb=>by
  obtain⟨o',e1⟩:=base.there b o e (by simp);exact F.there b o' e1 (old b o e hb)
 have K8:∀b o,s.heap.get? b=some o->H b=none->b∈dJ X.outer->∃sl,Ko.get? b=some {o with slots:=sl}:=λb o e n hb=>by
  obtain⟨sl,e1⟩:=F.un.slot b o e n (sub b hb) (by simp);obtain⟨KR,e2⟩:=NA b _ e1 (λvs q=>cR I.agq hb e vs q);exact⟨KR,e2⟩
 refine⟨hf,⟨λb o e n hb _=>st b o (kB b o e n hb),λb o e n hb _=>?_,λb o e n _=>?_,λb o e _=>?_,λb xs e=>F.un.agf b xs (base.agf b xs e),λb o xs e=>F.un.age b o xs (base.age b o xs e),λb ps e=>?_⟩,kB,tB,F.hok,F.new⟩
 ·obtain⟨sl,e1⟩:=base.slot b o e n hb (by simp);obtain⟨KR,e2⟩:=K8 b _ e1 (base.free b o e n (by simp)) hb;exact⟨KR,e2⟩
 ·obtain⟨o',e1⟩:=base.there b o e (by simp);exact F.un.free b o' e1 (base.free b o e n (by simp)) (by simp)
 ·by_cases hb:b∈dJ X.outer
  ·obtain⟨o',e1⟩:=base.there b o e (by simp);have n:H b=none:=I.agE b (sub b hb);obtain⟨sl,e2⟩:=K8 b o' e1 n hb;exact⟨_,e2⟩
  ·obtain⟨o',e1⟩:=tB b o e hb;exact⟨o',st b o' e1⟩
 ·obtain⟨m1,e1⟩:=base.agp b ps e;obtain⟨m2,e2⟩:=F.un.agp b _ e1;exact⟨m1++m2,by rw[e2,qZ]⟩
theorem kh {B:Heap}{a0:Value}{tk:Nat}(I:Inv X pins σ H s)(ho:s'.os=s.os)(hg:AllBare s'.gens)(F:xM X.prog X.w X.stack H s.heap a cls H' s'.heap B a0 d)
 (hf:wz B X.stack a cls a0 fl d Ko)(NA:s'.heap.UpToSlots Ko):Inv X pins σ H' {s' with heap:=Ko,toks:=tk}:=by
 have st:=hf.st;refine I.ahY (s':={s' with heap:=Ko,toks:=tk}) (ch:=[]) ho ⟨λb o e n hb _=>st b o (F.keep b o e n hb),λb o e n hb _=>?_,F.un.free,λb o e _=>?_,F.un.agf,F.un.age,F.un.agp⟩ (F.hok.kept st) hg λb z=>absurd z (by simp)
 ·obtain⟨sl,e1⟩:=F.un.slot b o e n hb (by simp);obtain⟨KR,e2⟩:=NA b _ e1 (λvs q=>cR I.stack hb e vs q);exact⟨KR,e2⟩
 ·by_cases hb:b∈dJ X.stack
  ·obtain⟨sl,e1⟩:=F.un.slot b o e (I.agE b hb) hb (by simp);obtain⟨KR,e2⟩:=NA b _ e1 (λvs q=>cR I.stack hb e vs q);exact⟨_,e2⟩
  ·obtain⟨o',e1⟩:=F.there b o e hb;exact⟨o',st b o' e1⟩
end
theorem ahl {K:PySem.W.Frag}{cd:ClassData}(h:PySem.W.clsIn K C=some cd):∃c d s,K.lookup C=some ⟨c,d,.cls cd,s⟩:=by
 unfold PySem.W.clsIn at h
 cases ho:K.lookup C with
 |none=>rw[ho] at h;cases h
 |some o =>
  rw[ho] at h;obtain⟨c,d,x,s⟩:=o
  cases x <;> cases h
  exact⟨_,_,_,rfl⟩
theorem af7 {α:Type}{l:List α}(h:l.length=6):∃a b c d e f,l=[a,b,c,d,e,f]:=by
 obtain⟨a,l,rfl⟩:=HH h;obtain⟨b,l,rfl⟩:=HH (HZ h);obtain⟨c,l,rfl⟩:=HH (HZ (HZ h));obtain⟨d,l,rfl⟩:=HH (HZ (HZ (HZ h)));obtain⟨e,l,rfl⟩:=HH (HZ (HZ (HZ (HZ h))));obtain⟨f,rfl⟩:=List.length_eq_one_iff.mp (HZ (HZ (HZ (HZ (HZ h)))));exact⟨a,b,c,d,e,f,rfl⟩
theorem abz {K:PySem.W.Frag}{Ni:wW}{newId:String}(X:K.In h)(q:jT K C Ni newId=true):
 ∃bm N nm qn bs hd sn sub ab col dd k0 k1 k2 k3 k5 mN,h.get? C=some (excClassObj nm qn C N bs bm hd sn sub ab col dd k0 k1 k2 k3 k5 newId)/\h.Ns N mN/\mN "__init__"=none/\OwnTail h Ni bm:=by
 have q1:=CM.mp q;obtain⟨cd,hc,q2⟩:=(Option.any_eq_true _ _).mp q1.2;obtain⟨c,dd,sl,ho⟩:=ahl hc;have q3:=CM.mp q2;have q4:=CM.mp q3.2;have q5:=CM.mp q4.2;have q6:=CM.mp q5.2
 have e1:(c == .type "type"&&(sl.size==6&&sl.toList[4]?==some (some (.builtin newId))))=true:=by
  have z:=q1.1;rw[ho] at z;exact z
 have e2:=CM.mp e1;have e3:=CM.mp e2.2;obtain⟨k0,k1,k2,k3,k4,k5,e⟩:=af7 (l:=sl.toList) (eq_of_beq e3.1)
 have e4:k4=some (.builtin newId):=by
  have z:=eq_of_beq e3.2;rw[e] at z;exact Option.some.inj z
 have e5:sl = #[k0,k1,k2,k3,some (.builtin newId),k5]:=BP.mp (by rw[e,e4])
 have e6:cd.mro=.ref C::cd.mro.tail:=by
  obtain⟨r,z⟩:=List.head?_eq_some_iff.mp (eq_of_beq q3.1);rw[z];rfl
 have e7:cd.hasDel=false:=by simpa using q4.1
 refine⟨cd.mro.tail,cd.ns,cd.name,cd.qualname,cd.bases,cd.hasDict,cd.slotNames,cd.subclasses,cd.abstract,cd.collection,dd,k0,k1,k2,k3,k5,_,(X _ _ ho).trans ?_,.of_isNs (PySem.W.isNs_of_in X q6.1),PySem.W.nsMap_none_of_in X q6.1 (eq_of_beq q6.2),PySem.W.tail_of_in X q5.1⟩;rw[e5,eq_of_beq e2.1];show some (Obj.mk _ _ (.cls cd) _)=some (Obj.mk _ _ (.cls ⟨_,_,_,_,_,_,_,_,_,_,false⟩) _);rw[<-e6,<-e7]
noncomputable def yi (X:Cx)(E:St->XK):Prop:=∀(pins:List (Addr×Obj))(σ:St)(H:Hp)(s:qm)(h':Heap)(e:Addr)(cls:Value)(args:wW),Inv X pins σ H s->Heap.MadeExcOf s.heap h' e cls args->E σ cls none H->X.xe (.ref e) {s with heap:=h'}
noncomputable def abA (C:Addr)(E:St->XK)(t:TA):TS:=λ_ σ H=>t σ H λvs H1=>vs.length<=sizeLine/\E σ (.ref C) none H1
section
variable {X:Cx}{E:St->XK}{x:Str}{C:Addr}{B newId NB:String}{Ni:wW}{np Jk pos:Pos}{e:Expr}{es:Hy}{t:TA}
theorem dU (FB:ExcBaseFacts B newId NB Ni)(q:jT X.K C Ni newId=true)(hc:X.calm=true)(hR:yi X E)(hg:Gl X x)(hm:X.mg x=some (.ref C))(ha:PA X (e::es) t)
 (he:starEach (e::es) X.env=(false,eval e X.env):: starEach es X.env:=by rfl)(Kb:(backTo Jk (starEach es X.env)).any (·.1)=false:=by rfl)(hd:(x==("__debug__":Str))=false:=by decide):
 PS X (.Raise (some (.Call (.Name x np) (e::es) [] Jk)) none pos) (abA C E t):=by
 intro pins s σ H D I h;obtain⟨bm,N,nm,qn,bs,hdct,sn,sub,ab,col,dd,k0,k1,k2,k3,k5,mN,hC,hN,hni,T⟩:=abz I.ok.mod.kin q
 refine wpAny_Raise_call_subT (C:=C) (nm:=nm) (q:=qn) (N:=N) (bs:=bs) (bm:=bm) (hdct:=hdct) (sn:=sn) (sub:=sub) (ab:=ab) (col:=col) (dd:=dd) (k0:=k0) (k1:=k1) (k2:=k2) (k3:=k3) (k5:=k5)
  FB (mN:=mN) (T.hasType FB.hasBase) (I.ok.hd hc) (by rw[he];show(false || (backTo Jk (starEach es X.env)).any (·.1))=false;rw[Kb];rfl) hni (fZ I hg hm ⟨rfl,?_⟩ hd)
 have z:=ha Jk pins s σ H _ I h;rw[he] at z |-;refine D4 (qx z (λus s₂ z'=>?_) λ_ _ y=>y);obtain⟨vs,H2,I2,rv,hl,hE⟩:=z';exact⟨rfl,by rw[<-rv.length];exact hl,I2.bk _ _ hC,hN.keeps I2.bk,T.keeps I2.bk,λh' e' MC=>hR pins σ H2 s₂ h' e' _ _ I2 MC hE⟩
end
section
variable {P:A9}{w:World}{K:PySem.W.Frag}{mg:Fj}{base:Heap}{N:DV}{qual:Str}{scope:Scope}{f:Addr}{cd:Value}{A:Around}{outer:List Env}{s:qm}{H:Hp}{E:XK}
theorem cB:yi (fX (bZ P w) P w K mg base N qual scope f cd A outer s H E) λ_=>E:=by
 intro pins σ H1 s1 h' e cls args I hm hE;have LI:(fX (bZ P w) P w K mg base N qual scope f cd A outer s H E).stack=(fX (bZ P w) P w K mg base N qual scope f cd A outer s H E).env::outer:=rfl;have hl:=I.stack;obtain⟨t,he,htn,ht⟩:=hm.there;have hB:∀b o,(PySem.W.hideAll s1.heap (dJ (fX (bZ P w) P w K mg base N qual scope f cd A outer s H E).stack)).get? b=some o->s1.heap.get? b=some o:=λb o q=>PySem.W.of_hideAll _ q
 have nB:(PySem.W.hideAll s1.heap (dJ (fX (bZ P w) P w K mg base N qual scope f cd A outer s H E).stack)).get? e=none:=by
  cases q:(PySem.W.hideAll s1.heap (dJ (fX (bZ P w) P w K mg base N qual scope f cd A outer s H E).stack)).get? e with
  |none=>rfl
  |some o=>have z:=hB _ _ q;rw[hm.new] at z;cases z
 have fr1:=PySem.W.funFrames_hide hl λenv he a ha=>Bm.mpr ⟨env,he,ha⟩
 refine acz (B:=PySem.W.hideAll s1.heap (dJ (fX (bZ P w) P w K mg base N qual scope f cd A outer s H E).stack)) (s:={s1 with heap:=h'}) (d:=none) (cls:=cls) (a0:=.ref t) I.ok.frames (fr1.of_keeps λb o q _=>⟨o,hm.keeps b o q,rfl⟩) rfl
  (λb o q=>hm.keeps b o (hB b o q)) nB he rfl rfl rfl rfl rfl λKo x1 x4=>?_
 exact⟨e,cls,.ref t,_,none,H1,rfl,I.os,I.bare,ac6 (outer:=outer) I rfl rfl hm rfl x1 x4,hE⟩
theorem abR:dZ (bZ P w) (fX (bZ P w) P w K mg base N qual scope f cd A outer s H E) E:=by
 intro pins σ H1 s1 e s' I hx;obtain⟨a,cls,a0,B,d,H',rfl,ho,hg,F,hE⟩:=hx;refine vQ (L:=s.heap.objs.size) I.ok.frames rfl F.fly λKo x1 x2=>?_;exact⟨a,cls,a0,B,d,H',rfl,ho.trans I.os,hg,qL I rfl F x1 x2,hE⟩
end
theorem af {X:Cx}:dZ (bZ P w) X λ_ _ _=>False:=by
 intro pins σ H1 s1 e s' I hx;obtain⟨a,cls,a0,B,d,H',_,_,_,_,hE⟩:=hx;exact hE.elim
noncomputable def um (a:Addr)(cls:Value):HO:=.ext λh=>∃o vs,h.get? a=some o/\o.cls=cls/\o.data=.fields vs
theorem abY (e:h.get? a=some o)(hc:o.cls=cls)(hd:o.data=.fields vs):a9 P w H h a (um a cls):=
 ⟨⟨o,vs,e,hc,hd⟩,⟨o,e⟩,λh1 h2 ⟨o,vs,e,hc,hd⟩ k=>⟨o,vs,k o e,hc,hd⟩⟩
theorem uQ (k:fF P w H h)(e:H a=some (um a cls)):∃o vs,h.get? a=some o/\o.cls=cls/\o.data=.fields vs:=(k a _ e).1
noncomputable def ab2 (vs:IU):Prop:=∃t:Addr,vs = #[.ref t,.none,.none,.none,.bool false,.none]
noncomputable def ace (a:Addr)(cls:Value)(dx:Addr)(fr:Bool):HO:=.ext λh=>∃o vs,h.get? a=some o/\o.cls=cls/\o.data=.fields vs/\o.dict=some dx/\(fr=true->ab2 vs)
noncomputable def Fl (a:Addr)(cls:Value):Option Addr->HO
 |none=>um a cls
 |some dx=>ace a cls dx false
theorem acs (e:h.get? a=some o)(hc:o.cls=cls)(hd:o.data=.fields vs)(hx:o.dict=d):a9 P w H h a (Fl a cls d):=by
 cases d with
 |none=>exact abY e hc hd
 |some dx=>exact⟨⟨o,vs,e,hc,hd,hx,λz=>by cases z⟩,⟨o,e⟩,λh1 h2 ⟨o,vs,e,hc,hd,hx,z⟩ k=>⟨o,vs,k o e,hc,hd,hx,z⟩⟩
theorem wz.first {B:Heap}{e:Addr}{a0:Value}(x:wz B l e cls a0 fl d h):∃oe vs,h.get? e=some oe/\oe.cls=cls/\oe.data=.fields vs/\oe.dict=d :=
 let⟨o,vs,_,_,_,h1,h2,h3,h4,_⟩:=x.tr;⟨o,vs,h1,h3.1,h4,h2⟩
noncomputable def acu (X:Cx)(pins:List (Addr×Obj))(E:St->XK):Value->Shared->Prop:=λe s'=>∃σ H s,Inv X pins σ H s/\bZ X.prog X.w X.stack H s (E σ) e s'
noncomputable abbrev Cx.tr (X:Cx)(pins:List (Addr×Obj))(E:St->XK):Cx:={X with pn:=X.pn++pins,xe:=acu X pins E}
noncomputable abbrev Cx.hd (X:Cx)(a:Addr):Cx:={X with A:=X.A.mark (some (.ref a)),calm:=false,xe:=λ_ _=>False}
variable {M:Model}{A:Around}
section
variable {X:Cx}{pins pins':List (Addr×Obj)}{σ:St}{H:Hp}{s:qm}{E:St->XK}{a:Addr}
theorem acI (I:Inv X pins σ H s):Inv (X.tr pins E) [] σ H s :=
 ⟨⟨I.ok.mod,I.ok.kind,I.ok.glob,I.ok.blt,I.ok.above,I.ok.inj,I.ok.has,I.ok.cab,I.ok.hd,I.ok.frames,I.ok.stk,I.ok.exf,I.ok.bs,I.ok.bsz,I.ok.ahr,I.ok.ahN,I.ok.agq,I.ok.frf⟩,I.os,I.bare,I.base,I.loc,I.cell,I.free,I.aga,λp hp=>I.pin p (by
   have z:p∈(X.pn++pins)++[]:=hp;rw[F2] at z
   exact z),I.hok,I.len⟩
theorem gL (I:Inv (X.tr pins E) pins' σ H s):Inv X pins σ H s :=
 ⟨⟨I.ok.mod,I.ok.kind,I.ok.glob,I.ok.blt,I.ok.above,I.ok.inj,I.ok.has,I.ok.cab,I.ok.hd,I.ok.frames,I.ok.stk,I.ok.exf,I.ok.bs,I.ok.bsz,I.ok.ahr,I.ok.ahN,I.ok.agq,I.ok.frf⟩,I.os,I.bare,I.base,I.loc,I.cell,I.free,I.aga,λp hp=>I.pin p (mi _ hp),I.hok,I.len⟩
theorem Ag (I:Inv X pins σ H s):Inv (X.hd a) pins σ H s :=
 ⟨⟨I.ok.mod,I.ok.kind,I.ok.glob,I.ok.blt,I.ok.above,I.ok.inj,I.ok.has,I.ok.cab,(λz=>absurd (show false=true from z) (by decide)),I.ok.frames,I.ok.stk,I.ok.exf,I.ok.bs,I.ok.bsz,I.ok.ahr,I.ok.ahN,I.ok.agq,I.ok.frf⟩,I.os,I.bare,I.base,I.loc,I.cell,I.free,I.aga,I.pin,I.hok,I.len⟩
theorem iM (ok:X.Ok)(I:Inv (X.hd a) pins σ H s):Inv X pins σ H s :=
 ⟨ok,I.os,I.bare,I.base,I.loc,I.cell,I.free,I.aga,I.pin,I.hok,I.len⟩
theorem j4 {D:Ends}{f:Flow}{s':qm}(h:SP (X.tr pins E) [] D f s'):SP X pins D f s':=by
 cases f with
 |next=>obtain⟨σ',H',I,q⟩:=h;exact⟨σ',H',gL I,q⟩
 |brk=>obtain⟨σ',H',I,q⟩:=h;exact⟨σ',H',gL I,q⟩
 |cont=>obtain⟨σ',H',I,q⟩:=h;exact⟨σ',H',gL I,q⟩
 |ret u=>obtain⟨v,σ',H',I,r,q⟩:=h;exact⟨v,σ',H',gL I,r,q⟩
theorem acM:∀(pins':List (Addr×Obj))(σ:St)(H:Hp)(s:qm)(e:Value)(s':qm),Inv (X.tr pins E) pins' σ H s->bZ X.prog X.w X.stack H s (E σ) e s'->(X.tr pins E).xe e s':=λpins' σ H s e s' I hx=>⟨σ,H,s,gL I,hx⟩
noncomputable def ac0 (K:PySem.W.Frag)(c:Value)(i:Nat)(ts:TS)(D:Ends):St->XK:=λσ cls d H'=>PySem.W.exmOne K cls c=some true/\∀a,H' a=none →
 ts {nx:=λσ' H2=>D.nx (σ'.set i none) H2,rt:=D.rt,bk:=λσ' H2=>D.bk (σ'.set i none) H2,ct:=λσ' H2=>D.ct (σ'.set i none) H2} (σ.set i (some (.ref a))) (upd H' a (Fl a cls d))
noncomputable def ada (K:PySem.W.Frag)(c:Value)(i:Nat)(tb:(St->XK)->TS)(ts:TS):TS:=λD σ H=>tb (ac0 K c i ts D) D σ H
theorem gS {E':zQ}{i:Nat}{n:Str}{Q:Unit->Shared->Prop}(I:Inv X pins σ H s)(hN:X.N.Nodup)(hi:X.N[i]?=some n)(hl:X.env.scope.names.lookup n=some .local)
 (h:∀s',Inv X pins (σ.set i none) H s'->Q () s'):wpAny M A (do bindName X.env n .none;unbindBehindTheSuite X.env n pos) Q E' s:=by
 obtain⟨m,hn,U3⟩:=id I.loc;refine wpAny_nameGoes_keeps hl hn (by rw[I.ok.kind];rfl) λh' v Mw hs=>h _ ?_;have nL:∀b o,X.s₀.heap.get? b=some o->b≠X.env.locals:=λb o e=>Ho (HG (EL e) I.ok.above);refine⟨I.ok,I.os,I.bare,⟨λb o e n hb hx=>(hs.2 b (nL b o e)).trans (I.base.keep b o e n hb hx),λb o e n hb hx=>?_,I.base.free,λb o e hx=>?_,I.base.agf,I.base.age,I.base.agp⟩,⟨_,Mw,λj y w' e1 e2 e3=>?_⟩,λy c e=>?_,I.free,I.aga,λp hp=>?_,λb u e=>?_,by simpa using I.len⟩
 ·obtain⟨sl,e1⟩:=I.base.slot b o e n hb hx;exact⟨sl,(hs.2 b (nL b o e)).trans e1⟩
 ·obtain⟨o',e1⟩:=I.base.there b o e hx;exact⟨o',(hs.2 b (nL b o e)).trans e1⟩
 ·have hj:j≠i:=λz=>by
   subst z
   by_cases Jb:j<σ.length
   ·rw[Cf Jb] at e2;cases e2
   ·rw[List.getElem?_eq_none (by simpa using Jb)] at e2;cases e2
  rw[yy (Hw hj)] at e2;obtain⟨u,r,q⟩:=U3 j y w' e1 e2 e3;refine⟨u,r,?_⟩
  rcases q with⟨k,e⟩|⟨k,c,e,z⟩
  ·refine .inl ⟨k,?_⟩;have hyn:y≠n:=λe=>hj (mx hN e1 (e▸hi));show(if y=n then v else m y)=some u;rw[DW hyn];exact e
  ·exact .inr ⟨k,c,e,z.sameBut hs (I.cne y c e)⟩
 ·obtain⟨w',z⟩:=I.cell y c e;exact⟨w',z.sameBut hs (I.cne y c e)⟩
 ·obtain⟨e,n',ne,nf,d⟩:=I.pin p hp;exact⟨(hs.2 p.1 ne).trans e,n',ne,nf,d⟩
 ·refine(I.hok b u e).agR (λc w' hc q=>(hs.2 c ?_).trans q) (λ_ q=>q) λ_ _ q=>q;rintro rfl
  rcases hc with rfl|hc
  ·rw[I.free] at e;cases e
  ·rw[I.free] at hc;cases hc
theorem ahs {n:Str}{i:Nat}{np L9:Pos}{body MD:Ih}{b₀:Stmt}{tb:(St->XK)->TS}{ts:TS}(LI:X.stack=X.env::X.outer)(KW:X.env.frame=some X.env.locals)(hN:X.N.Nodup)(hi:X.N[i]?=some n)
 (hl:X.env.scope.names.lookup n=some .local)(hg:Gl X x)(hm:X.mg x=some (.ref C))(hb:∀pins E,gW (X.tr pins E) body (tb E))(hs:∀a,gW (X.hd a) (b₀::MD) ts)(hd:(x==("__debug__":Str))=false:=by decide):
 PS X (.Try body [.ExceptHandler (some (.Name x np)) (some n) (b₀::MD) L9] [] [] pos) (ada X.K (.ref C) i tb ts):=by
 intro pins s σ H D I h;refine wpAny_Try_except (qx (hb pins _ [] s σ H D (acI I) h) (λf s1 q=>?_) λe s1 q=>?_)
 ·cases f with
  |next=>exact xk (j4 q)
  |ret v=>exact j4 q
  |brk=>exact j4 q
  |cont=>exact j4 q
 ·obtain⟨σ1,H1,s0,I1,a,cls,a0,B,d,H2,rfl,ho,YC,F,hx,hw⟩:=q
  have frm:X.A.frames=some (X.env::X.outer):=by rw[I.ok.frames,LI]
  have fl:=F.fly;rw[LI] at fl;refine Ao frm KW fl λh4 held YD=>iO (s:={s1 with heap:=h4}) held λh5 U4 YE=>?_
  have U5:wz B X.stack a cls a0 .none d h5:=by rw[LI];exact U4
  have I5:Inv X pins σ1 H2 {s1 with heap:=h5}:=kh (tk:=s1.toks) I1 ho YC F U5 (YD.trans YE);obtain⟨ob,_,hob,U6,_,_⟩:=U4.first;have I5h:Inv (X.hd a) pins σ1 H2 {s1 with heap:=h5}:=Ag I5;refine wpAny_handleBy_cons (codeAny_handlers_test (fZ I5h hg hm ?_ hd)) (by intro q;cases q);have LT:PySem.W.Looks (model X.prog X.w) h5 (typeOf (.ref a)) cls:=U6▸(PySem.W.Looks.ld hob).andThen .now;refine(PySem.W.exm_one (M:=model X.prog X.w) I5.kIn LT hx) _ _ _ _ (λ_ _ e=>e) ?_;refine codeAny_handlers_suite_as ?_;refine iO (s:={s1 with heap:=h5}) U4 λh6 YF sm6=>?_
  have Ma:wz B X.stack a cls a0 .none d h6:=by rw[LI];exact YF
  have I6:Inv X pins σ1 H2 {s1 with heap:=h6}:=kh (tk:=s1.toks) I1 ho YC F Ma ((YD.trans YE).trans sm6);obtain⟨oe,vs,K4,U7,Mb,U8⟩:=YF.first
  have I7:Inv X pins σ1 (upd H2 a (Fl a cls d)) {s1 with heap:=h6}:=by
   have nB:X.s₀.heap.get? a=none\/True:=.inr trivial;refine⟨I6.ok,I6.os,I6.bare,?_,I6.loc,I6.cell,?_,?_,?_,dE I6.hok F.new (acs K4 U7 Mb U8),I6.len⟩
   ·refine⟨I6.base.keep,I6.base.slot,λb o e n OJ=>?_,I6.base.there,λb xs e=>?_,λb o u e=>?_,λb ps e=>?_⟩
    ·have Jt:b≠a:=λz=>by
      subst z;have e1:=I1.base.there b o e OJ;obtain⟨o1,e1⟩:=e1
      by_cases YG:b∈dJ X.stack
      ·have:=(Ma.fr.mem YG);obtain⟨_,o2,e2,d2⟩:=this;rw[K4] at e2
       cases e2
       exact d2 vs Mb
      ·obtain⟨o2,e2⟩:=F.there b o1 e1 YG;rw[Ma.new] at e2
       cases e2
     rw[au Jt];exact I6.base.free b o e n OJ
    ·rw[au (ax (I6.base.agf b xs e) F.new)];exact I6.base.agf b xs e
    ·rw[au (ax (I6.base.age b o u e) F.new)];exact I6.base.age b o u e
    ·obtain⟨m,q⟩:=I6.base.agp b ps e;exact⟨m,by rw[au (ax q F.new)];exact q⟩
   ·have Jt:X.env.locals≠a:=λz=>by
     obtain⟨m,⟨o,es,ep,e,d,_⟩,_⟩:=I6.loc;rw[z,K4] at e
     cases e
     rw[Mb] at d
     cases d
    rw[au Jt];exact I6.free
   ·intro y c e
    have Jt:c≠a:=λz=>by
     obtain⟨v,o,e1,d⟩:=I6.cell y c e;rw[z,K4] at e1
     cases e1
     rw[Mb] at d
     cases d
    rw[au Jt];exact I6.aga y c e
   ·intro p hp;obtain⟨e,n',ne,nf,d⟩:=I6.pin p hp;refine⟨e,?_,ne,nf,d⟩
    have Jt:p.1≠a:=λz=>by
     obtain⟨e1,n1,_,nf1,_⟩:=I1.pin p hp
     have Tv:p.1∉dJ X.stack:=λq=>by
      rcases Ef.mp (I1.agn _ q) with w|w
      ·exact ne w
      ·exact nf w
     obtain⟨o2,e2⟩:=F.there p.1 _ e1 Tv;rw[z,Ma.new] at e2
     cases e2
    rw[au Jt];exact n'
  refine gB (M:=model X.prog X.w) I7 hN hi (.inl hl) (show aE (.ref a) (.ref a) from rfl) (λs8 I8=>?_) (.inr hl);refine qx (hs a pins s8 _ _ _ (Ag I8) (hw a F.new)) (λf s9 q=>?_) λ_ _ z=>False.elim z
  cases f with
  |next =>
   obtain⟨σ9,H9,I9,q9⟩:=q;exact gS (iM I.ok I9) hN hi hl λPY Mc=>⟨_,_,Mc,q9⟩
  |brk =>
   obtain⟨σ9,H9,I9,q9⟩:=q;exact gS (iM I.ok I9) hN hi hl λPY Mc=>⟨_,_,Mc,q9⟩
  |cont =>
   obtain⟨σ9,H9,I9,q9⟩:=q;exact gS (iM I.ok I9) hN hi hl λPY Mc=>⟨_,_,Mc,q9⟩
  |ret u =>
   obtain⟨v,σ9,H9,I9,r9,q9⟩:=q;exact gS (iM I.ok I9) hN hi hl λPY Mc=>⟨v,_,_,Mc,r9,q9⟩
end
structure xw (K:Frag)(C:Addr):Prop where
 cls:(clsIn K C).isSome=true
 ga:findIn K (.ref C) "__getattribute__"=some (some (.builtin "BaseException.__getattribute__"))
 gx:findIn K (.ref C) "__getattr__"=some none
 ca:findIn K (.ref C) "__class__"=some (some (.builtin "object.__class__"))
 ob:mroIn K C (.type "object")=some true
 be:mroIn K C (.type "BaseException")=some true
section
variable {prog:A9}{w:World}{A:Around}{E:zQ}{K:Frag}{x C:Addr}{ox:Obj}
theorem ahu {ME:Value}{Q:Unit->Shared->Prop}(X:K.In s.heap)(k:xw K C)(e:s.heap.get? x=some ox)(hc:ox.cls=.ref C)(hq:Q () s):
 wpAny M A (checkBuiltinCall "BaseException.__getattribute__" ⟨[.ref x,ME],[]⟩) Q E s:=by
 obtain⟨hh,g,d,t,os⟩:=s;have L0:Looks M hh (typeOf (.ref x)) (.ref C):=hc▸(Looks.ld e).andThen .now;have L5:=looks_mroIn (M:=M) X k.be
 have hk:builtinKind "BaseException.__getattribute__"=some .slot:=by decide +kernel
 have Kw:splitId "BaseException.__getattribute__"=some ("BaseException","__getattribute__"):=by decide +kernel
 have ha:=F.args_bexc_ga (.ref x) ME;simp only[checkBuiltinCall,hk,Kw];unfold isInstance
 repeat (any_goals (first|assumption|lk|wp_step))
open Builtin Builtin.ObjectAttr Builtin.Getset_descriptor in
theorem ahz {R:Result->Shared->Prop}{tp:Value}(X:K.In s.heap)(k:xw K C)(e:s.heap.get? x=some ox)(hc:ox.cls=.ref C)(h:R (.ok (.ret (.ref C))) s):
 codeAny (model prog w) A (.call (.builtin "getset_descriptor.__get__") ⟨[.builtin "object.__class__",.ref x,tp],[]⟩) R s:=by
 obtain⟨hh,g,dr,t,os⟩:=s;have L0:Looks (model prog w) hh (typeOf (.ref x)) (.ref C):=hc▸(Looks.ld e).andThen .now;have L1:=looks_mroIn (M:=model prog w) X k.ob;refine xo KF.slot_gs.plain KF.entry_gs (KF.slot_gs.check _ _ _ _ _ _ _ _ KF.type_class (KF.args_gs _ _ _) ?_);unfold Builtin.«getset_descriptor.__get__» descrGet;rw[dga_obj];refine IM (IV ?_);unfold descrGetter descrCheckInstance descrNameAndClass isInstance;simp only[KF.owner_class]
 repeat lk
 refine⟨Code.quiet_builtin _ (by decide +kernel),IS KF.entry_class ?_⟩;unfold Builtin.«object.__class__» shownTypeOf
 repeat lk
 exact h
theorem agy {tk:Tok}{Q:PySem.Fin->Shared->Prop}(X:K.In s.heap)(k:xw K C)(e:s.heap.get? x=some ox)(hc:ox.cls=.ref C)(hq:Q (.done (.ret (.ref C))) s):
 wpAny (model prog w) A (Builtin.«object.__getattribute__» ⟨[.ref x,.str "__class__" tk],[]⟩) Q E s:=by
 obtain⟨hh,g,d,t,os⟩:=s;have L0:Looks (model prog w) hh (typeOf (.ref x)) (.ref C):=hc▸(Looks.ld e).andThen .now;have L3:=Cz (M:=model prog w) X k.ca;have f5:=F.typeOf_object_class;have f6:=F.slot_gs_get.lookup;have f7:=F.slot_gs_set.lookup
 repeat (any_goals (first|assumption|(with_reducible refine Looks.at (by assumption) ?_)|(with_reducible refine Looks.at L0 ?_)|wp_step))
 refine ahz X k e hc ?_
 repeat (any_goals (first|assumption|wp_step))
theorem abW {tk:Tok}{fill expr:Bool}{Q:zQ}{s:qm}(X:K.In s.heap)(k:xw K C)(e:s.heap.get? x=some ox)(hc:ox.cls=.ref C)(hq:Q (.ref C) s):
 wpAny (model prog w) A (getAttrBy (.ref x) (.str "__class__" tk) fill expr) Q E s:=by
 obtain⟨hh,g,d,t,os⟩:=s;have L0:Looks (model prog w) hh (typeOf (.ref x)) (.ref C):=hc▸(Looks.ld e).andThen .now;have L1:=Cz (M:=model prog w) X k.ga;have L2:=Cz (M:=model prog w) X k.gx;have f3:=F.attr_ValueError.ga.bind (.ref x)
 have hx0:(expr&&onTheHeap (Value.builtin "BaseException.__getattribute__"))=false:=by cases expr <;> rfl
 have KJ:(Value.builtin "BaseException.__getattribute__"==Value.builtin "object.__getattribute__")=false:=by decide +kernel
 have hx1:(onTheHeap (Value.ref C)&&Value.builtin "BaseException.__getattribute__"==Value.builtin "object.__getattribute__")=false:=by rw[KJ];rfl
 repeat (any_goals (first|assumption|(with_reducible refine Looks.at (by assumption) ?_)|(with_reducible refine Looks.at L0 ?_)|wp_step))
 refine xo F.attr_ValueError.ga.plain F.entry_bexc_ga (ahu X k e hc (agy X k e hc ?_))
 repeat (any_goals (first|assumption|wp_step))
theorem ab7 {Q:Option Value->Shared->Prop}(X:K.In s.heap)(k:xw K C)(e:s.heap.get? x=some ox)(hc:ox.cls=.ref C)(hq:Q (some (.ref C)) {s with toks:=s.toks+1}):
 wpAny (model prog w) A (getAttr? (.ref x) "__class__") Q E s:=by
 unfold getAttr? getAttrBy?;refine IM (wpAny_mkText (IM (uL (abW (s:={s with toks:=s.toks+1}) X k e hc ?_))));exact IV hq
theorem acf (k:xw K C):KitX K (.ref x) (.ref C) (λh=>∃o,h.get? x=some o/\o.cls=.ref C) where
 ty:=λ_ _ _ ⟨o,e,hc⟩=>hc▸(Looks.ld e).andThen .now
 it:=λ_ _ X _=>by
  have LW:=k.cls;unfold clsIn at LW
  split at LW
  ·rename_i c' d' cd' KR ho
   intro A' Q' E' s' kk q;unfold isType loadHead;exact IM (wpAny_loadPart (kk _ _ (X _ _ ho)) (IV q))
  ·cases LW
 ne:=λh tp dd its n sl X htp=>by
  have LW:=k.cls;refine Bool.eq_false_iff.mpr λq=>?_;have e:C=tp:=Value.ref.inj (Eg.mp q);subst e;unfold clsIn at LW
  split at LW
  ·rename_i c' d' cd' KR ho
   have z:=(X _ _ ho).symm.trans htp
   cases z
  ·cases LW
 ca:=λX ⟨o,e,hc⟩ q=>ab7 X k e hc q
end
section
variable {X:Cx}{pins:List (Addr×Obj)}{σ:St}{H:Hp}{s:qm}
inductive tZ (K:Frag)(H:Hp):V->Value->Prop where
 |of {x:V}{t:Value}(h:Ec K H x t):tZ K H x t
 |exc {a C:Addr}(e:H a=some (um a (.ref C)))(k:xw K C):tZ K H (.ref a) (.ref C)
theorem acv {E:zQ}{Q:zQ}{x:V}{u t c:Value}{b:Bool}(I:Inv X pins σ H s)(rx:aE x u)(ty:tZ X.K H x t)(e:kitOne X.K t c=some b)(h:∀tk,Q (.bool b) {s with toks:=tk}):
 wpAny (model X.prog X.w) A (call (.builtin "isinstance") [u,c]) Q E s:=by
 cases ty with
 |of z=>exact abi I rx z e h
 |exc ea k =>
  rename_i a C
  cases(show u=Value.ref a from rx)
  obtain⟨o,vs,h1,h2,_⟩:=uQ I.hok ea;exact kia_one (acf k) I.kIn ⟨o,h1,h2⟩ e (λz=>nomatch z) h
noncomputable def acD:V->Value->Prop
 | .ty n,c=>c=.type n
 | .ref a,c=>c=.ref a
 |_,_=>False
theorem aY:eV X (.builtin "isinstance") (λxs H Q=>∃x c t cv b,xs=[x,c]/\acD c cv/\tZ X.K H x t/\kitOne X.K t cv=some b/\Q (.bl b) H):=by
 intro pins s σ H xs us Q I r h;obtain⟨x,c,t,cv,b,rfl,hc,ty,e,q⟩:=h
 cases r with
 |cons r1 r2 =>
  cases r2 with
  |cons r2 r3 =>
   cases r3
   rename_i u uc
   have huc:uc=cv:=by
    cases c with
    |ty n=>cases(show uc=Value.type n from r2);exact hc.symm
    |ref a=>cases(show uc=Value.ref a from r2);exact hc.symm
    |_=>exact hc.elim
   subst huc;exact acv I r1 ty e λtk=>⟨.bl b,H,I.tok tk,rfl,q⟩
end
variable {N:DV}{sp:Sp}
section
variable {P:A9}{w:World}{K:PySem.W.Frag}{mg:Fj}{base:Heap}
theorem Fe.okN {k:Nat}(F:Fe K x qual st f fd)(S:Ii N ps (ar st))(len:∀vs H Q E,sp vs H Q E->vs.length=ps.length)
 (Jj:∀(IZ:Value)(A:Around)(outer:List Env)(s:qm)(H:Hp)(vs:List V)(Q:VK)(E:XK),Hz k (A.deeper (envOfC qual (ar st) s.heap.objs.size f IZ))->sp vs H Q E →
  ∃t,gW (fX (bZ P w) P w K mg base N qual (ar st) f IZ A outer s H E).nox (bA st) t/\t {nx:=λ_ H'=>Q .non H',rt:=Q} (gA N vs) H):Ey P w K mg base (bZ P w) (k+1) f fd ps sp:=by
 obtain⟨oc,od,kV,doc,pm,an,IZ,ct,Jq,rfl,lk,JG⟩:=F.ex;refine vq lk JG S len λA outer s H vs Q E hr KG=>?_;obtain⟨t,h,q⟩:=Jj IZ A outer s H vs Q E hr KG;exact⟨t,h.nox,q⟩
theorem Fe.okE {k:Nat}(F:Fe K x qual st f fd)(S:Ii N ps (ar st))(len:∀vs H Q E,sp vs H Q E->vs.length=ps.length)
 (Jj:∀(IZ:Value)(A:Around)(outer:List Env)(s:qm)(H:Hp)(vs:List V)(Q:VK)(E:XK),Hz k (A.deeper (envOfC qual (ar st) s.heap.objs.size f IZ))->sp vs H Q E →
  ∃t,gW (fX (bZ P w) P w K mg base N qual (ar st) f IZ A outer s H E) (bA st) t/\t {nx:=λ_ H'=>Q .non H',rt:=Q} (gA N vs) H):Ey P w K mg base (bZ P w) (k+1) f fd ps sp:=by
 obtain⟨oc,od,kV,doc,pm,an,IZ,ct,Jq,rfl,lk,JG⟩:=F.ex;exact vq lk JG S len λA outer s H vs Q E hr KG=>Jj IZ A outer s H vs Q E hr KG
end
section
variable {X:Cx}{pins:List (Addr×Obj)}{σ:St}{H:Hp}{s:qm}
theorem yt {x:V}{u t:Value}(I:Inv X pins σ H s)(rx:aE x u)(ty:tZ X.K H x t):Looks (model X.prog X.w) s.heap (typeOf u) t:=by
 cases ty with
 |of ty =>
  cases ty with
  |non=>cases(show u=Value.none from rx);exact kitx_none.ty _ _ I.kIn True.intro
  |bl y=>cases(show u=Value.bool y from rx);exact kitx_bool.ty _ _ I.kIn True.intro
  |int i=>obtain⟨t,q⟩:=(show ∃t,u=Value.int i t from rx);cases q;exact kitx_int.ty _ _ I.kIn True.intro
  |str y=>obtain⟨t,q⟩:=(show ∃t,u=Value.str y t from rx);cases q;exact kitx_str.ty _ _ I.kIn True.intro
  |flt y=>obtain⟨t,q⟩:=(show ∃t,u=Value.float y t from rx);cases q;exact kitx_float.ty _ _ I.kIn True.intro
  |@lst a xs ea =>
   cases(show u=Value.ref a from rx)
   obtain⟨_,_,n,_,h1⟩:=(show a9 X.prog X.w H s.heap a (.lst xs) from I.hok a _ ea);exact kitx_list.ty _ _ I.kIn ⟨_,h1,rfl⟩
  |@frz a ob xs ea =>
   cases(show u=Value.ref a from rx)
   obtain⟨_,_,_,n,_,h1⟩:=(show a9 X.prog X.w H s.heap a (.frz ob (.lst xs)) from I.hok a _ ea);exact kitx_list.ty _ _ I.kIn ⟨_,h1,rfl⟩
  |@tup a xs ea =>
   cases(show u=Value.ref a from rx)
   obtain⟨_,_,_,p⟩:=(show a9 X.prog X.w H s.heap a (.tup xs) from I.hok a _ ea);obtain⟨o,h1,h2,_⟩:=p;exact kitx_tuple.ty _ _ I.kIn ⟨o,h1,h2⟩
  |@dK a IY ea =>
   cases(show u=Value.ref a from rx)
   obtain⟨_,_,vs,_,p⟩:=(show a9 X.prog X.w H s.heap a (.dK IY) from I.hok a _ ea);obtain⟨o,es,ep,h1,h2,_⟩:=p;exact kitx_dict.ty _ _ I.kIn ⟨o,h1,h2.1⟩
  |@dT a IY ea =>
   cases(show u=Value.ref a from rx)
   obtain⟨_,_,xs,_,o,es,ep,h1,h2,_⟩:=(show a9 X.prog X.w H s.heap a (.dT IY) from I.hok a _ ea);exact kitx_dict.ty _ _ I.kIn ⟨o,h1,h2.1⟩
  |@ins a C dx fs ea cl ha hn Pq hm =>
   cases(show u=Value.ref a from rx)
   obtain⟨mA,O,_⟩:=f9 I.hok ea;obtain⟨od,J,_⟩:=O.look;exact J.type
 |exc ea k =>
  rename_i a C
  cases(show u=Value.ref a from rx)
  obtain⟨o,vs,h1,h2,_⟩:=uQ I.hok ea;exact h2▸(Looks.ld h1).andThen .now
end
variable {us:wW}{K:Frag}
section
variable {X:Cx}{CX:zd}{k:Nat}{f C:Addr}{fd:FD}{ps:DV}{sp:Sp}{E:XK}
noncomputable def uI (K:Frag)(C:Addr)(sp:Sp)(E:XK)(neg:Bool):R2:=λx y H Q=>∃p dx fs t,x=.ref p/\H p=some (.ins C dx fs)/\tZ K H y t/\notFirst K C t=true/\sp [x,y] H (λv H'=>∃b,v=.bl b/\Q (.bl (b != neg)) H') E
theorem r6 (hs:findIn X.K (.ref C) "__eq__"=some (some (.ref f)))(hf:isFn X.K (.ref f)=true)(F:Ey X.prog X.w X.K X.mg X.base CX k f fd ps sp)(hr:Hz k X.A)(hb:bF X.K fd ps [])(hx:dZ CX X E):
 gH X (compareOp .Eq) (uI X.K C sp E false):=by
 intro pins s σ H x y v u Q I rx ry h;obtain⟨p,dx,fs,t,rfl,ep,ty,hn,q⟩:=h
 cases(show v=Value.ref p from rx)
 obtain⟨mA,O,_⟩:=f9 I.hok ep;obtain⟨od,J,_⟩:=O.look;obtain⟨m,Fm⟩:=I.fr;refine cmp_ofEq (cmp_K hr.ajE Fm I.mod.kin J (yt I ry ty) hn hs hf ?_);refine bO (pZ (dvs:=[]) F hr hb .nil hx I (us:=[.ref p,u]) (vs:=[.ref p,y]) (.cons rx (.cons ry .nil)) q) λr s1 z'=>?_;obtain⟨z,H1,I1,rz,b,eb,q1⟩:=z';subst eb
 cases(show r=Value.bool b from rz)
 exact⟨.bl b,H1,I1,rfl,by simpa using q1⟩
theorem acE {Q:VK}{vs:List V}(F:Ey X.prog X.w X.K X.mg X.base CX k f fd ps sp)(hr:Hz (k+1) X.A)(hb:bF X.K fd ps [])(hx:dZ CX X E)
 (I:Inv X pins σ H s)(r:aN vs us)(h:sp vs H Q E):wpAny (model X.prog X.w) X.A.in1 (call (.ref f) us) (EP X pins σ Q) X.xe s:=by
 have hl:us.length=ps.length:=by rw[<-r.length];exact F.len _ _ _ _ h
 have Jn:=hb s us I.kIn (by rw[F2];exact hl);rw[F2] at Jn;refine sI (Gp (F.run X.A.in1 X.stack s H ⟨us,[]⟩ us vs Q E hr.in1 I.aiw.in1 Jn r h) λr s' hq=>?_)
 cases r with
 |error e=>exact hx pins σ H s e s' I hq
 |ok fl =>
  cases fl with
  |ret u=>exact I.after hq
  |next=>exact False.elim hq
  |brk=>exact False.elim hq
  |cont=>exact False.elim hq
theorem acF {E':zQ}{x:Addr}{b:Value}{ox:Obj}{od:Option Obj}{Q:Unit->Shared->Prop}(X:K.In s.heap)(J:InstAt s.heap x ox C od)(hm:mroIn K C (.type "object")=some true)(hq:Q () s):
 wpAny M A (checkBuiltinCall "object.__ne__" ⟨[.ref x,b],[]⟩) Q E' s:=by
 obtain⟨hh,g,d,t,os⟩:=s;have L0:=J.type (M:=M);have L5:=looks_mroIn (M:=M) X hm;have hk:=F.cmpKind_ne;have Kw:=F.cmpSplit_ne;have ha:=F.cmpArgs_ne (.ref x) b;simp only[checkBuiltinCall,hk,Kw];unfold isInstance
 repeat (any_goals (first|assumption|lk|wp_step))
theorem qF (hs:findIn X.K (.ref C) "__eq__"=some (some (.ref f)))(hf:isFn X.K (.ref f)=true)(K3:findIn X.K (.ref C) "__ne__"=some (some (.builtin "object.__ne__")))(hm:mroIn X.K C (.type "object")=some true)
 (F:Ey X.prog X.w X.K X.mg X.base CX k f fd ps sp)(hr:Hz (k+1) X.A)(hb:bF X.K fd ps [])(hx:dZ CX X E):
 gH X (compareOp .NotEq) (uI X.K C sp E true):=by
 intro pins s σ H x y v u Q I rx ry h;obtain⟨p,dx,fs,t,rfl,ep,ty,hn,q⟩:=h
 cases(show v=Value.ref p from rx)
 obtain⟨mA,O,_⟩:=f9 I.hok ep;obtain⟨od,J,_⟩:=O.look;have hu:X.A.units+64<cLine:=hr.units
 have PZ:wpAny (model X.prog X.w) X.A.in1 (call (.ref f) [.ref p,u]) (λr s'=>∃b,r=.bool b/\EP X pins σ Q (.bool (!b)) s') X.xe s:=by
  refine qx (acE F hr hb hx I (us:=[.ref p,u]) (vs:=[.ref p,y]) (.cons rx (.cons ry .nil)) q) (λr s1 z'=>?_) λ_ _ e=>e;obtain⟨z,H1,I1,rz,b,eb,q1⟩:=z';subst eb
  cases(show r=Value.bool b from rz)
  exact⟨b,rfl,.bl (!b),H1,I1,rfl,by simpa using q1⟩
 have entry:wpAny (model X.prog X.w) X.A.in1 (Builtin.«object.__ne__» ⟨[.ref p,u],[]⟩) (λfin s'=>∃b,fin=.done (.ret (.bool (!b)))/\EP X pins σ Q (.bool (!b)) s') X.xe s:=by
  unfold Builtin.«object.__ne__»;refine IM (m:=slotArgs "__ne__" 1 _) (IV ?_);refine IM (wpAny_cRoomFor (by show X.A.units+1<cLine;omega) ?_);refine IM (ifBound_K I.kIn J hs hf (qx PZ (λr s1 z=>?_) λ_ _ e=>e));obtain⟨b,rfl,q1⟩:=z;exact IM (pP (IV ⟨b,rfl,q1⟩))
 have S:=PySem.F.cmp_object.ne
 have inner:wpAny (model X.prog X.w) X.A (callSpecialIfBound? (.ref p) "__ne__" [u]) (λr s'=>∃b,r=some (.bool (!b))/\EP X pins σ Q (.bool (!b)) s') X.xe s:=by
  simp only[callSpecialIfBound?,bindSpecialIfBound?];refine CN (IM (IM (IM (J.type.here ((Cz I.kIn K3).here ?_)))));simp only[S.bind];refine IM (uo (wpAny_ite ?_))
  have fin:wpAny (model X.prog X.w) X.A (call (.builtin "object.__ne__") ([.ref p]++[u])>>=λv=>pure (some v)) (λr s'=>∃b,r=some (.bool (!b))/\EP X pins σ Q (.bool (!b)) s') X.xe s:=by
   refine IM (sI (xo S.plain PySem.F.cmpEntry_ne (acF I.kIn J hm (qx entry (λfin s1 z=>?_) λ_ _ e=>e))));obtain⟨b,rfl,q1⟩:=z;exact IV ⟨b,rfl,q1⟩
  split
  ·exact IM (IV (IV fin))
  ·exact DB (IM (IV (IV fin)))
 have one:wpAny (model X.prog X.w) X.A (tryCompare (.ref p) "__ne__" u) (λr s'=>∃v,r=some v/\EP X pins σ Q v s') X.xe s:=by
  unfold tryCompare;refine IM (qx inner (λr s1 z=>?_) λ_ _ e=>e);obtain⟨b,rfl,q1⟩:=z;exact IV ⟨_,rfl,q1⟩
 refine cmp_ofNotEq ?_;unfold richCompare;simp only[oneThing_ref];refine CN (IM (wpAny_cRoomFor (by omega) ?_));rw[cmpInfo_NotEq];dsimp only;refine IM (J.type.here (IM ((yt I ry ty).here ?_)))
 split
 ·rename_i qq
  have e:subIn X.K t (.ref C)=some false:=by
   rcases Bool.or_eq_true_iff.mp hn with e|e
   ·rw[Eg.mp e] at qq;simp at qq
   ·exact Eg.mp e
  refine IM ((looks_subIn I.kIn e).here ?_);simp only[FU,EG];refine IM (qx one (λr s' z=>?_) λ_ _ e=>e);obtain⟨v,rfl,hq⟩:=z;exact IV hq
 ·refine IM (IV ?_);simp only[FU,EG];refine IM (qx one (λr s' z=>?_) λ_ _ e=>e);obtain⟨v,rfl,hq⟩:=z;exact IV hq
end
variable {xs:List V}
section
variable {X:Cx}
noncomputable def acG (K:PySem.W.Frag):V->List V->Hp->VK->Prop:=λx vs H Q=>∃l xs y,x=.ref l/\vs=[y]/\aW K H l xs/\(∀z∈xs,fJ z=true)/\fJ y=true/\Q (.int (xs.countP λz=>ye z y:Nat)) H
theorem qS (r:aN xs us):∀u∈us,∃z∈xs,aE z u:=by
 induction r with
 |nil=>intro u h;cases h
 |cons r _ ih =>
  intro u h
  rcases Ef.mp h with rfl|h
  ·exact⟨_,qG,r⟩
  ·obtain⟨z,hz,q⟩:=ih u h;exact⟨z,AM _ hz,q⟩
theorem acT {y:V}(r:aN xs us)(hf:∀z∈xs,fJ z=true):us.countP (yh y)=xs.countP λz=>ye z y:=by
 induction r with
 |nil=>rfl
 |cons r _ ih =>
  rw[Aa,Aa,ih λz hz=>hf z (AM _ hz),ip r (hf _ qG)]
theorem ac3:G9 X "list.count" (acG X.K):=by
 intro pins s σ H x vs v us Q I rx rv h;obtain⟨l,xs,y,rfl,rfl,hS,hf,fy,q⟩:=h
 cases(show v=Value.ref l from rx)
 obtain⟨u,rfl,ru⟩:=rv.one;obtain⟨its,r,⟨⟨oc,od,YH,Jq⟩,n,e,hc,hd,P4⟩,_⟩:=I.list hS;simp only at hc hd P4;subst hc hd P4;refine call_meets F.slot_list_count ⟨_,e,rfl⟩ F.entry_list_count (F.args_list_count_2 _ _) (SeqAt.list_countAt l its.toArray n none Jq u (yh y)) ⟨e,λz hz=>?_,?_⟩
 ·obtain⟨zv,P6,rz⟩:=qS r z (by simpa using hz);rw[ip rz (hf zv P6)];exact sr rz ru (hf zv P6) fy
 ·refine⟨.int _,H,I.tok _,⟨s.toks,rfl⟩,?_⟩;rw[show its.toArray.toList=its from rfl,acT r hf];exact q
noncomputable def ac4 (K:PySem.W.Frag):V->List V->Hp->VK->Prop:=λx vs H Q=>∃l xs y j,x=.ref l/\vs=[y]/\aW K H l xs/\(∀z∈xs,fJ z=true)/\fJ y=true/\(∃z,xs[j]?=some z/\ye z y=true)/\(∀i z,i<j->xs[i]?=some z->ye z y=false)/\j<1000/\Q (.int (j:Nat)) H
theorem ac5:G9 X "list.index" (ac4 X.K):=by
 intro pins s σ H x vs v us Q I rx rv h;obtain⟨l,xs,y,j,rfl,rfl,hS,hf,fy,⟨z0,U9,e0⟩,LY,hj,q⟩:=h
 cases(show v=Value.ref l from rx)
 obtain⟨u,rfl,ru⟩:=rv.one;obtain⟨its,r,⟨⟨oc,od,YH,Jq⟩,n,e,hc,hd,P4⟩,_⟩:=I.list hS;simp only at hc hd P4;subst hc hd P4;obtain⟨w0,YI,r0⟩:=r.get U9
 have Jb:j<its.toArray.size:=by rw[yQ];exact(Im.mp YI).1
 have at0:its.toArray[j]=w0:=by
  have z:=(Im.mp YI).2;simpa using z
 refine call_meets F.slot_list_index ⟨_,e,rfl⟩ F.entry_list_index (F.args_list_index_2 _ _) (SeqAt.list_indexAt l its.toArray n none Jq u (yh y) j Jb (by omega) (by rw[at0,ip r0 (hf _ (HL U9))];exact e0) (λm hm hmj=>?_)) ⟨e,λz hz=>?_,⟨.int _,H,I.tok _,⟨s.toks,rfl⟩,q⟩⟩
 ·have MC:m<xs.length:=by rw[r.length];simpa using hm
  obtain⟨w1,hw1,r1⟩:=r.get (show xs[m]?=some xs[m] by simp[MC])
  have Md:its.toArray[m]=w1:=by
   have z:=(Im.mp hw1).2;simpa using z
  rw[Md,ip r1 (hf _ (CU MC))];exact LY m _ hmj (by simp[MC])
 ·obtain⟨zv,P6,rz⟩:=qS r z (by simpa using hz);rw[ip rz (hf zv P6)];exact sr rz ru (hf zv P6) fy
end
noncomputable def dw (c:Addr)(o:Obj):HO:=.ext λh=>h.get? c=some o
theorem j6 {c:Addr}(e:h.get? c=some o):a9 P w H h c (dw c o):=⟨e,⟨o,e⟩,λh1 h2 e k=>k o e⟩
noncomputable def dR (cs:List (Addr×Obj))(H:Hp):Hp:=λb=>match cs.lookup b with|some v=>some (dw b v)|none=>H b
noncomputable def fU (cs:List (Addr×Obj))(H:Hp):Hp:=λb=>match cs.lookup b with|some _=>none|none=>H b
variable {cs:List (Addr×Obj)}
theorem jZ {v:Obj}(e:cs.lookup b=some v):dR cs H b=some (dw b v):=by unfold dR;rw[e]
theorem bo (e:cs.lookup b=none):dR cs H b=H b:=by unfold dR;rw[e]
theorem eZ {v:Obj}(e:cs.lookup b=some v):fU cs H b=none:=by unfold fU;rw[e]
theorem bY (e:cs.lookup b=none):fU cs H b=H b:=by unfold fU;rw[e]
noncomputable def gc (cs:List (Addr×Obj))(H:Hp):Prop:=∀c v,cs.lookup c=some v->H c=some (dw c v)
noncomputable def tN (cs:List (Addr×Obj))(H:Hp)(h:Heap):Prop:=∀c v,cs.lookup c=some v->H c=none/\h.get? c=some v
section
variable {P:A9}{w:World}{cs:List (Addr×Obj)}{H H':Hp}{h h':Heap}
theorem kK (k:fF P w H h)(c:tN cs H h):fF P w (dR cs H) h:=λb o e=>by
 cases q:cs.lookup b with
 |some v =>
  rw[jZ q] at e
  cases e
  exact j6 (c b v q).2
 |none =>
  rw[bo q] at e
  have keep:∀(d:Addr)(x:HO),H d=some x->dR cs H d=some x:=λd x ed=>by
   cases q2:cs.lookup d with
   |some v=>rw[(c d v q2).1] at ed;cases ed
   |none=>rw[bo q2];exact ed
  exact(k b o e).agR (λd u _ z=>z) (λd z=>keep d _ z) λd xs z=>keep d _ z
theorem rL (k:fF P w H h)(c:gc cs H):fF P w (fU cs H) h:=λb o e=>by
 cases q:cs.lookup b with
 |some v=>rw[eZ q] at e;cases e
 |none =>
  rw[bY q] at e
  have keep:∀(d:Addr)(x:HO),(∀v,x≠dw d v)->H d=some x->fU cs H d=some x:=λd x nx ed=>by
   cases q2:cs.lookup d with
   |some v=>rw[c d v q2] at ed;exact absurd (Option.some.inj ed).symm (nx v)
   |none=>rw[bY q2];exact ed
  exact(k b o e).agR (λd u _ z=>z) (λd z=>keep d _ (λv q=>by cases q) z) λd xs z=>keep d _ (λv q=>by cases q) z
theorem vU {fs:List Addr}(u:Un fs [] (fU cs H) H' h h')(c:gc cs H)(hc:∀a v,cs.lookup a=some v->H' a=none):Un fs [] H (dR cs H') h h':=by
 have nl:∀b,H b=none->cs.lookup b=none:=λb n=>by
  cases q:cs.lookup b with
  |none=>rfl
  |some v=>rw[c b v q] at n;cases n
 have Va:∀b o,H b=some o->(∀v,o≠dw b v)->cs.lookup b=none:=λb o e nx=>by
  cases q:cs.lookup b with
  |none=>rfl
  |some v=>rw[c b v q] at e;exact absurd (Option.some.inj e).symm (nx v)
 refine⟨λb o e n hb hx=>u.keep b o e (by rw[bY (nl b n)];exact n) hb hx,λb o e n hb hx=>u.slot b o e (by rw[bY (nl b n)];exact n) hb hx,λb o e n hx=>?_,u.there,λb xs e=>?_,λb o x e=>?_,λb ps e=>?_⟩
 ·rw[bo (nl b n)];exact u.free b o e (by rw[bY (nl b n)];exact n) hx
 ·have q:=Va b _ e λv z=>by cases z
  rw[bo q];exact u.agf b xs (by rw[bY q];exact e)
 ·have q:=Va b _ e λv z=>by cases z
  rw[bo q];exact u.age b o x (by rw[bY q];exact e)
 ·have q:=Va b _ e λv z=>by cases z
  obtain⟨m,z⟩:=u.agp b ps (by rw[bY q];exact e);exact⟨m,by rw[bo q];exact z⟩
theorem adn {fs:List Addr}(u:Un fs [] (dR cs H) H' h h')(c:tN cs H h)(hc:gc cs H')(hk:fF P w H' h')(nf:∀a v,cs.lookup a=some v->a∉fs):Un fs [] H (fU cs H') h h':=by
 refine⟨λb o e n hb hx=>?_,λb o e n hb hx=>?_,λb o e n hx=>?_,u.there,λb xs e=>?_,λb o x e=>?_,λb ps e=>?_⟩
 ·cases q:cs.lookup b with
  |some v =>
   have e1:=(c b v q).2;rw[e] at e1
   cases e1
   exact(hk b _ (hc b _ q)).1
  |none=>exact u.keep b o e (by rw[bo q];exact n) hb hx
 ·cases q:cs.lookup b with
  |some v=>exact absurd hb (nf b v q)
  |none=>exact u.slot b o e (by rw[bo q];exact n) hb hx
 ·cases q:cs.lookup b with
  |some v=>exact eZ q
  |none=>rw[bY q];exact u.free b o e (by rw[bo q];exact n) hx
 ·have q:cs.lookup b=none:=by
   cases z:cs.lookup b with
   |none=>rfl
   |some v=>rw[(c b v z).1] at e;cases e
  rw[bY q];exact u.agf b xs (by rw[bo q];exact e)
 ·have q:cs.lookup b=none:=by
   cases z:cs.lookup b with
   |none=>rfl
   |some v=>rw[(c b v z).1] at e;cases e
  rw[bY q];exact u.age b o x (by rw[bo q];exact e)
 ·have q:cs.lookup b=none:=by
   cases z:cs.lookup b with
   |none=>rfl
   |some v=>rw[(c b v z).1] at e;cases e
  obtain⟨m,y⟩:=u.agp b ps (by rw[bo q];exact e);exact⟨m,by rw[bY q];exact y⟩
end
section
variable {X:Cx}{CX:zd}{k:Nat}{f:Addr}{fd:FD}{ps:DV}{sp:Sp}{cs:List (Addr×Obj)}
theorem ado {Q:VK}{vs:List V}(F:Ey X.prog X.w X.K X.mg X.base CX k f fd ps sp)(hr:Hz k X.A)(hb:bF X.K fd ps [])
 (hx:∀(H:Hp)(e:Value)(s':qm),CX X.stack H s (λ_ _ _=>False) e s'->False)
 (I:Inv X pins σ H s)(c:tN cs H s.heap)(Tv:∀a v,cs.lookup a=some v->a∉dJ X.stack)(nb:∀a v,cs.lookup a=some v->X.s₀.heap.objs.size<=a)(r:aN vs us)
 (h:sp vs (dR cs H) (λv H'=>gc cs H'/\Q v (fU cs H')) λ_ _ _=>False):wpAny (model X.prog X.w) X.A (call (.ref f) us) (EP X pins σ Q) X.xe s:=by
 have hl:us.length=ps.length:=by rw[<-r.length];exact F.len _ _ _ _ h
 have Jn:=hb s us I.kIn (by rw[F2];exact hl);rw[F2] at Jn
 have out:∀b,b<X.s₀.heap.objs.size->cs.lookup b=none:=λb hb=>by
  cases q:cs.lookup b with
  |none=>rfl
  |some v=>exact absurd (HG hb (nb b v q)) (qo _)
 have e0:GV X.prog X.w X.K X.mg X.base X.A X.stack s (dR cs H):=⟨I.ok.frames,I.ok.mod,λb o e=>⟨(I.bs b o e).1,by rw[bo (out b (HG (EL e) I.ok.bsz))];exact(I.bs b o e).2⟩,GC I.ok.bsz I.sz,I.stack,λb hb=>by
  cases q:cs.lookup b with
  |none=>rw[bo q];exact I.agE b hb
  |some v=>exact absurd hb (Tv b v q),kK I.hok c,I.bare⟩
 refine sI (Gp (F.run X.A X.stack s (dR cs H) ⟨us,[]⟩ us vs _ _ hr e0 Jn r h) λr s' hq=>?_)
 cases r with
 |error e=>exact(hx _ e s' hq).elim
 |ok fl =>
  cases fl with
  |ret u =>
   obtain⟨v,H',os,bare,un,hok,rv,MG,q⟩:=hq;exact⟨v,fU cs H',I.ahY (ch:=[]) os (adn un c MG hok Tv) (rL hok MG) bare (λb z=>absurd z (by simp)),rv,q⟩
  |next=>exact False.elim hq
  |brk=>exact False.elim hq
  |cont=>exact False.elim hq
end
structure yB (X:Cx)(E:XK):Prop where
 ex:X.ex=[]
 stk:X.stack=X.env::X.outer
 fr:X.env.frame=some X.env.locals
 xe:X.xe=λe s'=>wpAny (model X.prog X.w) X.A (leaving X.env e) (λ_ KS=>bZ X.prog X.w X.outer X.H₀ X.s₀ E e KS) (λe' KS=>bZ X.prog X.w X.outer X.H₀ X.s₀ E e' KS) s'
theorem ja {X:Cx}{E:XK}(L:yB X E):dZ (bZ X.prog X.w) X E:=by
 intro pins σ H1 s1 e s' I hx;obtain⟨a,cls,a0,B,d,H',rfl,ho,hg,F,hE⟩:=hx;rw[L.xe];have fl:=F.fly;rw[L.stk] at fl;refine vQ (L:=X.env.locals) (by rw[I.ok.frames,L.stk]) L.fr fl λKo x1 x2=>?_;exact⟨a,cls,a0,B,d,H',rfl,ho.trans I.os,hg,qL I L.ex F x1 x2,hE⟩
noncomputable def FJ (P:A9)(w:World)(K:Frag)(mg:Fj)(base:Heap)(N:DV)(qual:Str)(scope:Scope)(f:Addr)(cd:Value)(clos:List (Str×Addr))(A:Around)(outer:List Env)(s:qm)(H:Hp)(E:XK):Cx where
 prog:=P
 w:=w
 K:=K
 mg:=mg
 base:=base
 A:=A.deeper (envX qual scope s.heap.objs.size f cd clos)
 N:=N
 s₀:=s
 H₀:=H
 env:=envX qual scope s.heap.objs.size f cd clos
 outer:=outer
 stack:=envX qual scope s.heap.objs.size f cd clos::outer
 ex:=[]
 calm:=true
 fn:=λ_=>false
 pn:=[]
 xe:=λe s'=>wpAny (model P w) (A.deeper (envX qual scope s.heap.objs.size f cd clos)) (leaving (envX qual scope s.heap.objs.size f cd clos) e) (λ_ KS=>bZ P w outer H s E e KS) (λe' KS=>bZ P w outer H s E e' KS) s'
section
variable {P:A9}{w:World}{K:Frag}{mg:Fj}{base:Heap}{N:DV}{qual name:Str}{scope:Scope}{f c':Addr}{clos:List (Str×Addr)}{A:Around}{outer:List Env}{s:qm}{H:Hp}{E:XK}{Q:VK}
 {params:Arguments}{body:Expr}{pm ctv:Value}{k:Nat}{vs:List V}
theorem iw {cd:Value}:yB (FJ P w K mg base N qual scope f cd clos A outer s H E) E:=⟨rfl,rfl,rfl,rfl⟩
theorem adv (hr:Hz (k+1) A)(e0:GV P w K mg base A outer s H)(hf:s.heap.get? f=some (kla_obj name qual params body scope clos pm c' ctv))(JG:s.heap.CodeRec (.ref c') qual)
 (JI:bindArgs (kla_fn name qual params body scope clos pm (.ref c') ctv) ⟨[],[]⟩=pure [])(hk:scope.kind=.function)(Nt:scope.isCoroutine=false)(Ld:scope.isGenerator=false)(Js:∀x∈scope.names,x.2≠.cell)
 (has:∀x,scope.names.lookup x=some .free->∃c,clos.lookup x=some c)(inj:∀x y c,clos.lookup x=some c->clos.lookup y=some c->x=y)
 (MH:∀x c,clos.lookup x=some c->H c=none/\∃v,s.heap.IsCell c v)
 (hN:∀(i:Nat)(x:Str)(v:V),N[i]?=some x->vs[i]?=some v->scope.names.lookup x=some .free/\∃c u,clos.lookup x=some c/\aE v u/\s.heap.IsCell c (some u))(hl:vs.length=N.length)
 (Jj:∃t,PE (FJ P w K mg base N qual scope f (.ref c') clos A outer s H E) body t/\t (vs.map some) H Q):
 codeAny (model P w) A (.call (.ref f) ⟨[],[]⟩) (CR (bZ P w) outer P w H s Q E) s:=by
 obtain⟨t,ht,hq⟩:=Jj;refine kla_callFunE hr.depth hf rfl Nt Ld rfl JG ?_;rw[JI];have lim:s.heap.NoLimit:=e0.mod.nolimit.keeps λb o e=>(e0.bs b o e).1;refine IV (wu Js (by intro y hy;simp at hy) (λh₁ K3 YJ=>⟨lim.fresh _ YJ,?_⟩) hk);show codeAny _ _ (.expr body (envX qual scope s.heap.objs.size f (.ref c') clos)) _ _;have Tw:∀b o,s.heap.get? b=some o->h₁.get? b=some o:=λb o e=>YJ.extBut b o (Ho (EL e)) (xQ _ e);have NC:∀x,scope.names.lookup x≠some .cell:=λx e=>Js _ (ya e) rfl
 have I:Inv (FJ P w K mg base N qual scope f (.ref c') clos A outer s H E) [] (vs.map some) H {s with heap:=h₁,toks:=s.toks+([]:List (Str×Value)).length}:=by
  refine⟨⟨e0.mod,hk,rfl,rfl,AY _,inj,λx hx=>?_,λx c z _=>absurd (show false=true from z) (by decide),λ_=>hr.hd,Around.frames_deeper e0.frames,.inr ⟨rfl,rfl⟩,λb z=>absurd (show b∈([]:List Addr) from z) (by simp),e0.bs,e0.bsz,
   λb o _ z=>absurd (show b∈([]:List Addr) from z) (by simp),λb z=>absurd (show b∈([]:List Addr) from z) (by simp),e0.agq,e0.frf⟩,
   rfl,e0.bare,Un.kept Tw,⟨_,K3,λi x v e1 e2 e3=>?_⟩,λx c e=>?_,e0.hok.fresh (AY _),λx c e=>(MH x c e).1,λp hp=>absurd (show p∈([]:List (Addr×Obj)) from hp) (by simp),e0.hok.kept Tw,by rw[wC];exact hl⟩
  ·have hx:scope.names.lookup x=some .cell\/scope.names.lookup x=some .free:=hx
   rcases hx with z|z
   ·exact absurd z (NC x)
   ·exact has x z
  ·have e2':vs[i]?=some v:=by
    rw[BC] at e2
    cases q:vs[i]? with
    |none=>rw[q] at e2;cases e2
    |some z=>rw[q] at e2;cases e2;rfl
   obtain⟨fr,c,u,hc,r,z⟩:=hN i x v e1 e2';obtain⟨o,ho,hd⟩:=z;exact⟨u,r,.inr ⟨.inr fr,c,hc,o,Tw _ _ ho,hd⟩⟩
  ·obtain⟨_,v,o,ho,hd⟩:=MH x c e;exact⟨v,o,Tw _ _ ho,hd⟩
 refine kla_codeExpr (qx (ht [] _ _ H Q I hq) (λv s' z'=>?_) λe s' z=>z);obtain⟨x,H',J,r,q⟩:=z';exact⟨x,H',J.os,J.bare,J.base,J.hok,r,q⟩
noncomputable def v8 (P:A9)(w:World)(K:Frag)(mg:Fj)(base:Heap)(k:Nat)(f:Addr)(φ:Hp->VK->XK->Prop):Prop :=
 (∀H h Q E,fF P w H h->φ H Q E->FnAt f h)/\∀(A:Around)(outer:List Env)(s:qm)(H:Hp)(Q:VK)(E:XK),Hz k A->GV P w K mg base A outer s H->φ H Q E->codeAny (model P w) A (.call (.ref f) ⟨[],[]⟩) (CR (bZ P w) outer P w H s Q E) s
end
section
variable {X:Cx}{k i:Nat}{x:Str}{p pos:Pos}{E:St->XK}
noncomputable def yI (P:A9)(w:World)(K:Frag)(mg:Fj)(base:Heap)(k i:Nat)(E:St->XK):TE:=λσ H Q=>∃f φ,σ[i]?=some (some (.ref f))/\v8 P w K mg base k f φ/\φ H Q (E σ)
theorem afg (hr:Hz k X.A)(hx:∀(pins:List (Addr×Obj))(σ:St)(H:Hp)(s:qm)(e:Value)(s':qm),Inv X pins σ H s->bZ X.prog X.w X.stack H s (E σ) e s'->X.xe e s')(hv:PE X (.Name x p) (gU i)):
 PE X (.Call (.Name x p) [] [] pos) (yI X.prog X.w X.K X.mg X.base k i E):=by
 intro pins s σ H Q I h;obtain⟨f,φ,ef,C,q⟩:=h;refine yD (bO (hv pins s σ H (λv H1=>v=.ref f/\H1=H) I ⟨_,ef,rfl,rfl⟩) λv s1 z'=>?_);obtain⟨y,H1,I1,r1,ey,eh⟩:=z';subst ey eh
 cases(show v=Value.ref f from r1)
 refine callWith_F0 (C.1 _ _ _ _ I1.hok q) ?_;refine sI (Gp (C.2 X.A X.stack s1 _ Q (E σ) hr I1.aiw q) λr s' hq=>?_)
 cases r with
 |error e=>exact hx pins σ _ s1 e s' I1 hq
 |ok fl =>
  cases fl with
  |ret u=>exact I1.after hq
  |next=>exact False.elim hq
  |brk=>exact False.elim hq
  |cont=>exact False.elim hq
end
section
variable {P:A9}{w:World}{K:Frag}{mg:Fj}{base:Heap}{N:DV}{qual name:Str}{scope:Scope}{f c':Addr}{clos:List (Str×Addr)}{params:Arguments}{body:Expr}{pm ctv:Value}{k:Nat}{vs:List V}{cs:List (Addr×Obj)}{oc:Obj}
noncomputable def Me (f c':Addr)(fo oc:Obj)(cs:List (Addr×Obj))(φ0:Hp->VK->XK->Prop):Hp->VK->XK->Prop:=λH Q E=>H f=some (dw f fo)/\H c'=some (dw c' oc)/\gc cs H/\φ0 (fU cs H) (λv H'=>Q v (dR cs H')) λcls d H'=>E cls d (dR cs H')
theorem afj {φ0:Hp->VK->XK->Prop}(JI:bindArgs (kla_fn name qual params body scope clos pm (.ref c') ctv) ⟨[],[]⟩=pure [])(hk:scope.kind=.function)(Nt:scope.isCoroutine=false)(Ld:scope.isGenerator=false)(Js:∀x∈scope.names,x.2≠.cell)
 (has:∀x,scope.names.lookup x=some .free->∃c,clos.lookup x=some c)(inj:∀x y c,clos.lookup x=some c->clos.lookup y=some c->x=y)(JF:∃ws t,oc.data=.fields ws/\ws[1]?=some (.str qual t))
 (OQ:∀x c,clos.lookup x=some c->∃o v,cs.lookup c=some o/\o.data=.cell v)
 (hN:∀(i:Nat)(x:Str)(v:V),N[i]?=some x->vs[i]?=some v->scope.names.lookup x=some .free/\∃c o u,clos.lookup x=some c/\cs.lookup c=some o/\o.data=.cell (some u)/\aE v u)(hl:vs.length=N.length)
 (Jj:∀(A:Around)(outer:List Env)(s:qm)(H:Hp)(Q:VK)(E:XK),Hz k (A.deeper (envX qual scope s.heap.objs.size f (.ref c') clos))->φ0 H Q E->∃t,PE (FJ P w K mg base N qual scope f (.ref c') clos A outer s H E) body t/\t (vs.map some) H Q):
 v8 P w K mg base (k+1) f (Me f c' (kla_obj name qual params body scope clos pm c' ctv) oc cs φ0):=by
 refine⟨λH h Q E hok q=>?_,λA outer s H Q E hr e0 q=>?_⟩
 ·have e:h.get? f=some _:=(hok f _ q.1).1;exact⟨_,_,_,_,e⟩
 ·obtain⟨qf,qc,qi,q0⟩:=q;have ef:s.heap.get? f=some _:=(e0.hok f _ qf).1;have ec:s.heap.get? c'=some oc:=(e0.hok c' _ qc).1;have at_:∀c o,cs.lookup c=some o->s.heap.get? c=some o:=λc o e=>(e0.hok c _ (qi c o e)).1
  have YK:∀c o,cs.lookup c=some o->c∉dJ outer:=λc o e hb=>by
   have:=e0.frf c hb;rw[qi c o e] at this
   cases this
  have J5:∀b,H b=none->fU cs H b=none:=λb n=>by
   cases q:cs.lookup b with
   |some v=>exact eZ q
   |none=>rw[bY q];exact n
  have e1:GV P w K mg base A outer s (fU cs H):=⟨e0.frames,e0.mod,λb o e=>⟨(e0.bs b o e).1,J5 b (e0.bs b o e).2⟩,e0.bsz,e0.agq,λb hb=>J5 b (e0.frf b hb),rL e0.hok qi,e0.bare⟩;obtain⟨ws,t,d1,d2⟩:=JF;have MI:∀{H':Hp}{h':Heap},Un (dJ outer) [] (fU cs H) H' s.heap h'->∀a o,cs.lookup a=some o->H' a=none:=λu a o e=>u.free a o (at_ a o e) (eZ e) (by simp);refine Gp (adv (c':=c') (clos:=clos) (N:=N) (vs:=vs) hr e1 ef ⟨c',oc,ws,t,rfl,ec,d1,d2⟩ JI hk Nt Ld Js has inj (λx c e=>?_) (λi x v a b=>?_) hl (Jj A outer s _ _ _ (hr.deeper _) q0)) λr s' hq=>?_
  ·obtain⟨o,v,e2,d⟩:=OQ x c e;exact⟨eZ e2,v,o,at_ c o e2,d⟩
  ·obtain⟨fr,c,o,u,z1,z2,z3,z4⟩:=hN i x v a b;exact⟨fr,c,u,z1,z4,o,at_ c o z2,z3⟩
  ·cases r with
   |error e =>
    obtain⟨a,cls,a0,B,d,H',rfl,os,bare,F,hE⟩:=hq;have hB:∀c o,cs.lookup c=some o->B.get? c=some o:=λc o e=>F.keep c o (at_ c o e) (eZ e) (YK c o e);have hH:∀c o,cs.lookup c=some o->H' c=none:=MI F.un;refine⟨a,cls,a0,B,d,dR cs H',rfl,os,bare,⟨F.fly,vU F.un qi hH,λb o e n hb=>F.keep b o e (J5 b n) hb,F.there,kK F.hok λc o e=>⟨hH c o e,hB c o e⟩,?_⟩,hE⟩
    have na:cs.lookup a=none:=by
     cases q:cs.lookup a with
     |none=>rfl
     |some o =>
      have:=hB a o q;rw[F.fly.new] at this
      cases this
    rw[bo na];exact F.new
   |ok fl =>
    cases fl with
    |ret u =>
     obtain⟨v,H',os,bare,un,hok,rv,q⟩:=hq;have hH:=MI un;exact⟨v,dR cs H',os,bare,vU un qi hH,kK hok λc o e=>⟨hH c o e,un.keep c o (at_ c o e) (eZ e) (YK c o e) (by simp)⟩,rv,q⟩
    |next=>exact False.elim hq
    |brk=>exact False.elim hq
    |cont=>exact False.elim hq
end
section
variable {X:Cx}{params:Arguments}{body:Expr}{scope osc:Scope}{pos:Pos}{cc Pt:Addr}
structure EA (X:Cx)(cc Pt:Addr):Prop where
 code:X.env.code=.ref cc
 hd:CodeHd X.base cc Pt
 bm:∃bm ob,X.mg "__builtins__"=some (.ref bm)/\bm≠builtinsNs/\X.base.get? bm=some ob/\ob.cls=.type "module"/\ob.dict=some builtinsNs/\ob.data=.plain
noncomputable abbrev gI (X:Cx)(params:Arguments)(body:Expr)(scope:Scope)(c':Addr)(ctv:Value):Obj:=kla_obj "<lambda>" (X.env.qual++"<lambda>") params body scope (dW scope.names X.env) ((X.mg "__name__").getD .none) c' ctv
noncomputable def fO (q:Str)(oc:Obj):Prop:=∃ws t,oc.data=.fields ws/\ws[1]?=some (.str q t)
noncomputable def Gg (X:Cx)(params:Arguments)(body:Expr)(scope:Scope)(pos:Pos)(Pt:Addr):TE:=λ_ H Q=>∃ps,H Pt=some (.tbl ps)/\TriplesOk ps.toList /\
 ((codeAmong pos ps.toList=none/\∀c' f oc ctv,H c'=none->H f=none->c'≠f->fO (X.env.qual++"<lambda>") oc →
  Q (.ref f) (upd (upd (upd H Pt (.tbl (ps++#[rawInt pos.line,rawInt pos.col,.ref c']))) c' (dw c' oc)) f (dw f (gI X params body scope c' ctv)))) \/
  ∃c' oc,codeAmong pos ps.toList=some (.ref c')/\H c'=some (dw c' oc)/\fO (X.env.qual++"<lambda>") oc/\∀f ctv,H f=none->Q (.ref f) (upd H f (dw f (gI X params body scope c' ctv))))
theorem jB (M:EA X cc Pt)(Vb:X.env.scope=osc)(Jw:∀y∈scope.names,y.2=.free->osc.names.lookup y.1=some .cell\/osc.names.lookup y.1=some .free)(Vc:defaultsOf params X.env=([],[])):
 PE X (.Lambda params body scope pos) (Gg X params body scope pos Pt):=by
 intro pins s σ H Q I h;obtain⟨ps,hP,ht,h⟩:=h
 have MH:closureFor scope X.env=pure (dW scope.names X.env):=gY λy hy hf=>by
  have z:=Jw y hy hf;rw[<-Vb] at z;exact I.ok.has y.1 z
 have eP:s.heap.get? Pt=some (tabObj ps):=I.hok Pt _ hP;have hg:s.heap.Ns mainGlobals X.mg:=I.mod.glob.keeps I.bk
 have hgP:mainGlobals≠Pt:=λq=>by
  obtain⟨o,es,ep,e,hd,_⟩:=hg;rw[q,eP] at e
  cases e
  cases hd
 obtain⟨bm,ob,b1,b2,b3,b4,b5,b6⟩:=M.bm
 have YL:bm≠Pt:=λq=>by
  have e:=I.bk _ _ b3;rw[q,eP] at e
  cases e
  cases b4
 have YM:bm≠mainGlobals:=λq=>by
  obtain⟨o,es,ep,e,hd,_⟩:=hg;rw[<-q,I.bk _ _ b3] at e
  cases e
  rw[b6] at hd
  cases hd
 have C:=M.hd.keeps I.bk
 have nP:∀b,H b=none->b≠Pt:=λb n z=>by rw[z,hP] at n;cases n
 refine kla_eval Vc ?_
 rcases h with⟨hn,q⟩|⟨c',oc,hf,Jh,ho,q⟩
 ·refine kla_makeFunction (mg:=X.mg) MH I.ok.glob hg M.code C eP ht hn hgP ⟨bm,ob,b1,b2,YM,YL,I.bk _ _ b3,b4,b5,b6⟩ λc' ctv h' tk hx Vd Jb Ve P7=>?_;obtain⟨c2,oc,ws,t,e2,JF,hd,hv⟩:=Ve
  cases e2
  have hsz:s.heap.objs.size<=h'.objs.size:=GC Vd (HE Jb);have fc:H c'=none:=I.hok.fresh Vd;have ff:H h'.objs.size=none:=I.hok.fresh hsz;have nef:c'≠h'.objs.size:=Ho Jb;have old:∀b o,b≠Pt->s.heap.get? b=some o->(h'.push (gI X params body scope c' ctv)).get? b=some o:=λb o n e=>xQ _ (hx b o n e);have lt:∀b o,s.heap.get? b=some o->b≠c'/\b≠h'.objs.size:=λb o e=>⟨Ho (HG (EL e) Vd),Ho (HG (EL e) hsz)⟩;have P1:Pt≠c':=(lt _ _ eP).1;have P2:Pt≠h'.objs.size:=(lt _ _ eP).2
  have nH:∀b o,H b=some o->b≠Pt->(upd (upd (upd H Pt (.tbl (ps++#[rawInt pos.line,rawInt pos.col,.ref c']))) c' (dw c' oc)) h'.objs.size (dw h'.objs.size (gI X params body scope c' ctv))) b=some o:=λb o e n=>by
   obtain⟨ob,eb⟩:=(I.hok b o e).there;rw[au (lt b ob eb).2,au (lt b ob eb).1,au n];exact e
  refine⟨.ref h'.objs.size,_,I.un (t':=tk) (H':=upd (upd (upd H Pt (.tbl (ps++#[rawInt pos.line,rawInt pos.col,.ref c']))) c' (dw c' oc)) h'.objs.size (dw h'.objs.size (gI X params body scope c' ctv))) ?_ ?_,rfl,q c' h'.objs.size oc ctv fc ff nef ⟨ws,t,hd,hv⟩⟩
  ·refine⟨λb o e n _ _=>old b o (nP b n) e,λb o e n _ _=>⟨o.slots,old b o (nP b n) e⟩,λb o e n _=>?_,λb o e _=>?_,λb xs e=>nH b _ e (λz=>by rw[z,hP] at e;cases e),λb o u e=>nH b _ e (λz=>by rw[z,hP] at e;cases e),λb rs e=>?_⟩
   ·rw[au (lt b o e).2,au (lt b o e).1,au (nP b n)];exact n
   ·by_cases z:b=Pt
    ·exact⟨_,by rw[z];exact xQ _ P7⟩
    ·exact⟨o,old b o z e⟩
   ·by_cases z:b=Pt
    ·rw[z,hP] at e
     cases e
     exact⟨_,by rw[z,au P2,au P1,ae]⟩
    ·exact⟨#[],by rw[nH b _ e z];simp⟩
  ·intro b o e
   by_cases z1:b=h'.objs.size
   ·subst z1;rw[ae] at e
    cases e
    exact j6 (HR _ rfl)
   ·rw[au z1] at e
    by_cases z2:b=c'
    ·subst z2;rw[ae] at e
     cases e
     exact j6 (xQ _ JF)
    ·rw[au z2] at e
     by_cases z3:b=Pt
     ·subst z3;rw[ae] at e
      cases e
      exact xQ _ P7
     ·rw[au z3] at e
      refine(I.hok b o e).agR (λc v hc q=>old c v (λz=>?_) q) (λc q=>nH c _ q λz=>by rw[z,hP] at q;cases q) λc xs q=>nH c _ q λz=>by rw[z,hP] at q;cases q
      rcases hc with hc|hc
      ·exact z3 (hc▸z)
      ·rw[z,hP] at hc;cases hc
 ·refine kla_makeFunctionHit (mg:=X.mg) MH I.ok.glob hg M.code C eP ht hf ⟨bm,ob,b1,b2,YM,YL,I.bk _ _ b3,b4,b5,b6⟩ λctv h' tk hk hsz=>?_;have ff:H h'.objs.size=none:=I.hok.fresh hsz;refine⟨.ref h'.objs.size,_,I.laid (t':=tk) (λb u e=>xQ _ (hk b u e)) hsz (j6 (HR _ rfl)),rfl,q _ ctv ff⟩
end
noncomputable def zC (tabs:List (Addr×Addr))(H:Hp):Prop:=(∀b,H b=none\/(∃o xs,H b=some (.frz o (.lst xs)))\/(H b=some (.tbl #[])/\∃c,(c,b)∈tabs))/\∀q∈tabs,H q.2=some (.tbl #[])
structure zk (tabs:List (Addr×Addr))(mg:Fj)(base:Heap):Prop where
 hd:∀q∈tabs,CodeHd base q.1 q.2
 bm:∃bm ob,mg "__builtins__"=some (.ref bm)/\bm≠builtinsNs/\base.get? bm=some ob/\ob.cls=.type "module"/\ob.dict=some builtinsNs/\ob.data=.plain
theorem TGs {mg mb:Fj}{CX:zd}{k:Nat}{fa:Addr}{s₁:qm}{vs:wW}{ns:List Int}{tabs:List (Addr×Addr)}
 (KX:K.In s₁.heap)(K3:s₁.heap.Ns mainGlobals mg)(hb:s₁.heap.Ns builtinsNs mb)(hbb:∀x:Str,x ≠ "__name__"->mb x=bootBuiltins x)(Vf:s₁.heap.NoLimit)(hg:s₁.gens = #[])
 (ha:s₁.heap.get? a=some {cls:=.type "list",data:=.seq vs.toArray})(hi:IntsAre vs ns)(hl:ns.length<=sizeLine)(hr:Hz k callerA)(hT:TabsAt tabs s₁.heap)(hKT:∀q∈tabs,K.lookup q.2=none)
 (hbm:∃bm ob,mg "__builtins__"=some (.ref bm)/\bm≠builtinsNs/\s₁.heap.get? bm=some ob/\ob.cls=.type "module"/\ob.dict=some builtinsNs/\ob.data=.plain)
 (F:∀base:Heap,K.In base->base.Ns mainGlobals mg->zk tabs mg base->Ey P w K mg base CX k fa fd [x] sp)(JI:∀(s:qm)(u:Value),BindsTo s fd ⟨[u],[]⟩ [(x,u)])
 (KG:∀H:Hp,zC tabs H->aW K H a (ns.map V.int)->sp [.ref a] H (λv _=>v=.bl true) λ_ _ _=>False)
 (Vg:∀H e s',CX [] H s₁ (λ_ _ _=>False) e s'->False):
 codeAny (model P w) callerA (.call (.ref fa) ⟨[.ref a],[]⟩) (λr s'=>r=.ok (.ret (.bool true))/\OldK s₁.heap s'.heap/\s'.os=s₁.os/\AllBare s'.gens) s₁:=by
 have rv:=nj hi;have Vh:=hi.length;have mJ:∀b,(∃c,(c,b)∈tabs)->s₁.heap.get? b=some (tabObj #[]):=λb ⟨c,hc⟩=>(hT _ hc).2
 have core:∀H:Hp,zC tabs H->aW K H a (ns.map V.int)->fF P w H s₁.heap->(∀b,H b≠none->b=a\/∃c,(c,b)∈tabs)->(H a≠none->K.lookup a=none) →
  codeAny (model P w) callerA (.call (.ref fa) ⟨[.ref a],[]⟩) (λr s'=>r=.ok (.ret (.bool true))/\OldK s₁.heap s'.heap/\s'.os=s₁.os/\AllBare s'.gens) s₁:=by
  intro H hO hS hok hA hK;have base_of:∀{b:Addr}{o:Obj},s₁.heap.get? b=some o->H b=none->(m8 s₁.heap H).get? b=some o:=λe n=>aaA e n
  have YN:∀{b:Addr}{o:Obj},s₁.heap.get? b=some o->o.cls≠.none->(∀its n,o.data≠.seq its n)->H b=none:=λ{b o} e d1 d2=>by
   cases q:H b with
   |none=>rfl
   |some u =>
    rcases hA b (by rw[q];simp) with e'|e'
    ·subst e';rw[ha] at e;cases e;exact absurd rfl (d2 _ _)
    ·rw[mJ b e'] at e;cases e;exact absurd rfl d1
  have Px:∀{b:Addr}{o:Obj}{es:Array DictEntry}{ep:Nat},s₁.heap.get? b=some o->o.data=.dict es ep->H b=none:=λ{b o es ep} e d=>by
   cases q:H b with
   |none=>rfl
   |some u =>
    rcases hA b (by rw[q];simp) with e'|e'
    ·subst e';rw[ha] at e;cases e;have d':Data.seq vs.toArray _=Data.dict es ep:=d
     cases d'
    ·rw[mJ b e'] at e;cases e;have d':Data.fields #[]=Data.dict es ep:=d
     cases d'
  have TB:∀{b:Addr}{m:Fj},s₁.heap.Ns b m->(m8 s₁.heap H).Ns b m:=λ{b m} ⟨o,es,ep,e,d,r⟩=>⟨o,es,ep,base_of e (Px e d),d,r⟩
  have YO:K.In (m8 s₁.heap H):=λb o e=>base_of (KX b o e) (by
   cases q:H b with
   |none=>rfl
   |some u =>
    rcases hA b (by rw[q];simp) with e'|⟨c,e'⟩
    ·subst e';rw[hK (by rw[q];simp)] at e;cases e
    ·have z:=hKT _ e'
     rw[z] at e;cases e)
  have hM:Mod K mg (m8 s₁.heap H):=⟨YO,TB K3,⟨mb,TB hb,hbb⟩,let⟨mc,h1,h2⟩:=Vf;⟨mc,TB h1,h2⟩⟩
  have hBT:zk tabs mg (m8 s₁.heap H):=by
   refine⟨λq hq=>?_,?_⟩
   ·obtain⟨o,ws,file,tf,flags,tg,inF,text,tt,e1,r1,r2,r3⟩:=(hT q hq).1;exact⟨o,ws,file,tf,flags,tg,inF,text,tt,base_of e1 (YN e1 (by rw[r1];intro z;cases z) (λits n z=>by rw[r2] at z;cases z)),r1,r2,r3⟩
   ·obtain⟨bm,ob,b1,b2,b3,b4,b5,b6⟩:=hbm;exact⟨bm,ob,b1,b2,base_of b3 (YN b3 (by rw[b4];intro z;cases z) (λits n z=>by rw[b6] at z;cases z)),b4,b5,b6⟩
  have e0:GV P w K mg (m8 s₁.heap H) callerA [] s₁ H:=⟨rfl,hM,λb o e=>af0 e,Cb (aaE _ _),trivial,λb hb=>absurd (show b∈([]:List Addr) from hb) (by simp),hok,.of_eq hg⟩;refine Gp ((F _ YO (TB K3) hBT).run callerA [] s₁ H ⟨[.ref a],[]⟩ [.ref a] [.ref a] _ _ hr e0 (JI s₁ (.ref a)) (.cons rfl .nil) (KG H hO hS)) λr s' h=>?_
  cases r with
  |error e=>exact(Vg H e s' h).elim
  |ok fl =>
   cases fl with
   |next=>exact False.elim h
   |brk=>exact False.elim h
   |cont=>exact False.elim h
   |ret u =>
    obtain⟨v,H',os,bare,un,P8,r',q⟩:=h;have q':v=.bl true:=q;subst q';obtain rfl:u=Value.bool true:=r';refine⟨rfl,⟨λb o e=>?_,λb o e=>un.there b o e (by simp)⟩,os,bare⟩
    cases q:H b with
    |none=>exact .inl (un.keep b o e q (by intro z;exact absurd (show b∈([]:List Addr) from z) (by simp)) (by simp))
    |some u =>
     rcases hO.1 b with z|⟨ob,xs,z⟩|⟨z,c,hc⟩
     ·rw[q] at z;cases z
     ·have z2:=un.age b ob _ z;obtain⟨e1,_⟩:=hok b _ z;obtain⟨e2,_⟩:=P8 b _ z2;rw[e] at e1;cases e1;exact .inl e2
     ·obtain⟨more,z2⟩:=un.agp b _ z;have e2:s'.heap.get? b=some {cls:=.none,data:=.fields (#[]++more)}:=P8 b _ z2;have e1:=mJ b ⟨c,hc⟩;rw[e] at e1;cases e1;exact .inr (.inl ⟨((hT _ hc).1.tab (hT _ hc).2).isCodeTable,rfl,#[],more,rfl,e2⟩)
 have aT:∀c,(c,a)∉tabs:=λc hc=>by
  have z:=mJ a ⟨c,hc⟩;rw[ha] at z
  cases z
 have P9:∀b,Decidable (∃c,(c,b)∈tabs):=λb=>Classical.propDecidable _
 cases hk:K.lookup a with
 |some o =>
  have e:=KX a o hk;rw[ha] at e
  cases e
  refine core (λb=>@ite _ (∃c,(c,b)∈tabs) (P9 b) (some (.tbl #[])) none) ⟨λb=>?_,λq hq=>?_⟩ (.inr ⟨_,vs.toArray,_,hk,rfl,rfl,rfl,by rw[yQ,Vh];exact hl,by simpa using rv⟩) (λb u z=>?_) (λb z=>?_) λz=>?_
  ·by_cases hb:∃c,(c,b)∈tabs
   ·exact .inr (.inr ⟨oO hb,hb⟩)
   ·exact .inl (DW hb)
  ·exact oO ⟨q.1,hq⟩
  ·by_cases hb:∃c,(c,b)∈tabs
   ·have z':=(oO hb).symm.trans z
    cases z'
    exact mJ b hb
   ·have z':=(DW hb).symm.trans z
    cases z'
  ·by_cases hb:∃c,(c,b)∈tabs
   ·exact .inr hb
   ·exact absurd (DW hb) z
  ·exact absurd (DW λ⟨c,hc⟩=>aT c hc) z
 |none =>
  refine core (λb=>if b=a then some (.frz {cls:=.type "list",data:=.seq vs.toArray} (.lst (ns.map V.int))) else @ite _ (∃c,(c,b)∈tabs) (P9 b) (some (.tbl #[])) none) ⟨λb=>?_,λq hq=>?_⟩ (.inl (.inr ⟨{cls:=.type "list",data:=.seq vs.toArray},oO rfl⟩)) (λb u z=>?_) (λb z=>?_) λ_=>hk
  ·by_cases hb:b=a
   ·exact .inr (.inl ⟨_,_,oO hb⟩)
   ·by_cases ht:∃c,(c,b)∈tabs
    ·exact .inr (.inr ⟨(DW hb).trans (oO ht),ht⟩)
    ·exact .inl ((DW hb).trans (DW ht))
  ·have hb:q.2≠a:=λz=>aT q.1 (by rw[<-z];exact hq);exact(DW hb).trans (oO ⟨q.1,hq⟩)
  ·by_cases hb:b=a
   ·have z':=(oO hb).symm.trans z
    cases z'
    subst hb;exact⟨ha,by rw[wC];exact hl,vs,_,rv,ha⟩
   ·have z':=(DW hb).symm.trans z
    by_cases ht:∃c,(c,b)∈tabs
    ·have z2:=(oO ht).symm.trans z'
     cases z2
     exact mJ b ht
    ·have z2:=(DW ht).symm.trans z'
     cases z2
  ·by_cases hb:b=a
   ·exact .inl hb
   ·by_cases ht:∃c,(c,b)∈tabs
    ·exact .inr ht
    ·exact absurd ((DW hb).trans (DW ht)) z
structure uv (K:Frag)(x qual:Str)(st:Stmt)(f:Addr)(fd:FD)(T:Addr):Prop where
 ex:∃(oc:Value)(od:uJ)(kV doc pm:Value)(an:uJ)(IZ ct:Value)(Jq:sR),
  fd=fnOf x qual (b8 st) (bA st) (ar st) (.ref T) kV doc pm an IZ ct/\K.lookup f=some ⟨oc,od,.func fd,Jq⟩/\codeIn K IZ qual=true
 kp:keepIn K (.ref f)=true
section
variable {P:A9}{w:World}{K:Frag}{mg:Fj}{base:Heap}
theorem uv.okE {T:Addr}{k:Nat}(F:uv K x qual st f fd T)(S:Ii N ps (ar st))(len:∀vs H Q E,sp vs H Q E->vs.length=ps.length)
 (Jj:∀(IZ:Value)(A:Around)(outer:List Env)(s:qm)(H:Hp)(vs:List V)(Q:VK)(E:XK),Hz k (A.deeper (envOfC qual (ar st) s.heap.objs.size f IZ))->sp vs H Q E →
  ∃t,gW (fX (bZ P w) P w K mg base N qual (ar st) f IZ A outer s H E) (bA st) t/\t {nx:=λ_ H'=>Q .non H',rt:=Q} (gA N vs) H):Ey P w K mg base (bZ P w) (k+1) f fd ps sp:=by
 obtain⟨oc,od,kV,doc,pm,an,IZ,ct,Jq,rfl,lk,JG⟩:=F.ex;exact vq lk JG S len λA outer s H vs Q E hr KG=>Jj IZ A outer s H vs Q E hr KG
theorem ahO {T:Addr}{oc:Value}{od an:uJ}{Jq:sR}{kV doc pm IZ ct:Value}(l:K.lookup f=some ⟨oc,od,.func (fnOf x qual (b8 st) (bA st) (ar st) (.ref T) kV doc pm an IZ ct),Jq⟩)
 (c:codeIn K IZ qual=true)(k:keepIn K (.ref f)=true):uv K x qual st f (fnOf x qual (b8 st) (bA st) (ar st) (.ref T) kV doc pm an IZ ct) T:=⟨⟨oc,od,kV,doc,pm,an,IZ,ct,Jq,rfl,l,c⟩,k⟩
end
noncomputable def iW (X:Cx)(y:Str):Addr:=(X.env.cells.lookup y).getD 0
noncomputable def fY:Expr->Bool
 | .Starred _ _=>true
 |_=>false
theorem bq {e:Expr}{rest:Hy}(h:fY e=false):starEach (e::rest) env=(false,eval e env):: starEach rest env:=by
 cases e <;> first|rfl|cases h
section
variable {X:Cx}{e:Expr}{es:Hy}{te:TE}{t:TA}
theorem ao (ha:PE X e te)(hr:PA X es t)(h:fY e=false:=by rfl):PA X (e::es) (c5 te t):=aX ha hr (bq h)
end
inductive D where
 |non|bl (b:Bool)|int (i:Int)|str (x:Str)|lst (ds:List D)|tup (ds:List D)
mutual
noncomputable def aL (K:Frag)(H:Hp):D->V->Prop
 | .non,v=>v=.non
 | .bl b,v=>v=.bl b
 | .int i,v=>v=.int i
 | .str x,v=>v=.str x
 | .lst ds,v=>∃a xs,v=.ref a/\aW K H a xs/\a8 K H ds xs
 | .tup ds,v=>∃a xs,v=.ref a/\a7 K H a xs/\a8 K H ds xs
noncomputable def a8 (K:Frag)(H:Hp):List D->List V->Prop
 |[],xs=>xs=[]
 |d::ds,xs=>∃y ys,xs=y::ys/\aL K H d y/\a8 K H ds ys
end
mutual
noncomputable def hV:D->D->Bool
 | .non,.non=>true
 | .bl a,.bl b=>a==b
 | .bl a,.int b=>(if a then 1 else 0)==b
 | .int a,.bl b=>a==(if b then 1 else 0)
 | .int a,.int b=>a==b
 | .str a,.str b=>a==b
 | .lst a,.lst b=>fE a b
 | .tup a,.tup b=>fE a b
 |_,_=>false
noncomputable def fE:List D->List D->Bool
 |[],[]=>true
 |a::as,b::bs=>hV a b&&fE as bs
 |_,_=>false
end
mutual
noncomputable def i5:D->Nat
 | .lst ds=>dY ds+1
 | .tup ds=>dY ds+1
 |_=>0
noncomputable def dY:List D->Nat
 |[]=>0
 |d::ds=>max (i5 d) (dY ds)
end
theorem vS:∀{ds:List D}{d:D},d∈ds->i5 d<=dY ds
 |e::ds,d,h=>by
  unfold dY
  rcases Ef.mp h with rfl|h
  ·exact Nat.le_max_left _ _
  ·exact GC (vS h) (Nat.le_max_right _ _)
theorem ik:∀(as bs:List D),fE as bs=((List.range (min as.length bs.length)).all (λj=>hV (as.getD j .non) (bs.getD j .non))&&as.length==bs.length)
 |[],[]=>rfl
 |[],b::bs=>by simp;rfl
 |a::as,[]=>by simp;rfl
 |a::as,b::bs=>by
  show(hV a b&&fE as bs)=_;rw[ik as bs]
  have e:min (a::as).length (b::bs).length=min as.length bs.length+1:=by simp[Nat.succ_min_succ]
  rw[e,List.range_succ_eq_map,wH,CL]
  have h1:((a::as).length==(b::bs).length)=(as.length==bs.length):=by simp
  rw[h1,Bool.and_assoc];rfl
theorem a8.len :∀{ds:List D}{xs:List V},a8 K H ds xs->ds.length=xs.length
 |[],xs,h=>by
  have h:xs=[]:=by unfold a8 at h;exact h
  rw[h];rfl
 |d::ds,xs,h=>by
  unfold a8 at h;obtain⟨y,ys,rfl,_,h⟩:=h;simp[a8.len h]
theorem a8.get :∀{ds:List D}{xs:List V}{j:Nat}(hj:j<xs.length),a8 K H ds xs->aL K H (ds.getD j .non) xs[j]/\ds.getD j .non∈ds
 |[],xs,j,hj,h=>by
  have h:xs=[]:=by unfold a8 at h;exact h
  subst h;exact absurd hj (by simp)
 |d::ds,xs,j,hj,h=>by
  unfold a8 at h;obtain⟨y,ys,rfl,hd,h⟩:=h
  cases j with
  |zero=>exact⟨hd,qG⟩
  |succ j =>
   obtain⟨h1,h2⟩:=a8.get (j:=j) (by simpa using hj) h;exact⟨h1,AM _ h2⟩
mutual
theorem dO:∀d:D,hV d d=true
 | .non=>rfl
 | .bl b=>wB b
 | .int i=>wB i
 | .str x=>wB x
 | .lst ds=>jz ds
 | .tup ds=>jz ds
theorem jz:∀ds:List D,fE ds ds=true
 |[]=>rfl
 |d::ds=>by show(hV d d&&fE ds ds)=true;rw[dO d,jz ds];rfl
end
section
variable {X:Cx}{pins:List (Addr×Obj)}{σ:St}{H:Hp}{s:qm}
theorem gw (I:Inv X pins σ H s){ys:List V}(h1:aW X.K H a xs)(h2:a7 X.K H a ys):False:=by
 obtain⟨its,_,p1,_⟩:=I.list h1;obtain⟨Jc,_,p2,_⟩:=I.tuple h2;exact SeqAt.ne_of_list_tuple p1.isList (show s.heap.IsTuple a Jc.toArray from p2) rfl
mutual
theorem lI (I:Inv X pins σ H s):∀(d e:D)(v:V),aL X.K H d v->aL X.K H e v->hV d e=true
 | .non,e,v,h1,h2=>by
   unfold aL at h1;subst h1
   cases e <;> unfold aL at h2 <;> first|(obtain⟨_,_,z,_⟩:=h2;cases z;done)|rfl|(cases h2;done)
 | .bl b,e,v,h1,h2=>by
   unfold aL at h1;subst h1
   cases e <;> unfold aL at h2 <;> first|(obtain⟨_,_,z,_⟩:=h2;cases z;done)|(cases h2;exact dO _)|(cases h2;done)
 | .int b,e,v,h1,h2=>by
   unfold aL at h1;subst h1
   cases e <;> unfold aL at h2 <;> first|(obtain⟨_,_,z,_⟩:=h2;cases z;done)|(cases h2;exact dO _)|(cases h2;done)
 | .str b,e,v,h1,h2=>by
   unfold aL at h1;subst h1
   cases e <;> unfold aL at h2 <;> first|(obtain⟨_,_,z,_⟩:=h2;cases z;done)|(cases h2;exact dO _)|(cases h2;done)
 | .lst ds,e,v,h1,h2=>by
   unfold aL at h1;obtain⟨a,xs,rfl,q,r⟩:=h1
   cases e with
   |lst es =>
    unfold aL at h2;obtain⟨b,ys,z,q2,r2⟩:=h2
    cases z
    have e:=I.ag0 q q2;subst e;exact jo I ds es xs r r2
   |tup es =>
    unfold aL at h2;obtain⟨b,ys,z,q2,r2⟩:=h2
    cases z
    exact(gw I q q2).elim
   |_=>unfold aL at h2;cases h2
 | .tup ds,e,v,h1,h2=>by
   unfold aL at h1;obtain⟨a,xs,rfl,q,r⟩:=h1
   cases e with
   |tup es =>
    unfold aL at h2;obtain⟨b,ys,z,q2,r2⟩:=h2
    cases z
    have e:=I.agt q q2;subst e;exact jo I ds es xs r r2
   |lst es =>
    unfold aL at h2;obtain⟨b,ys,z,q2,r2⟩:=h2
    cases z
    exact(gw I q2 q).elim
   |_=>unfold aL at h2;cases h2
theorem jo (I:Inv X pins σ H s):∀(ds es:List D)(xs:List V),a8 X.K H ds xs->a8 X.K H es xs->fE ds es=true
 |[],es,xs,h1,h2=>by
  unfold a8 at h1;subst h1
  cases es with
  |nil=>rfl
  |cons e es=>unfold a8 at h2;obtain⟨_,_,z,_⟩:=h2;cases z
 |d::ds,es,xs,h1,h2=>by
  unfold a8 at h1;obtain⟨y,ys,rfl,hd,h1⟩:=h1
  cases es with
  |nil=>unfold a8 at h2;cases h2
  |cons e es =>
   unfold a8 at h2;obtain⟨_,_,z,he,h2⟩:=h2
   cases z
   show(hV d e&&fE ds es)=true;rw[lI I d e y hd he,jo I ds es ys h1 h2];rfl
end
theorem kO (I:Inv X pins σ H s)(n:Nat)(ih:n≠0->∀(A:Around)(d e:D)(x y:V)(u v:Value),i5 d<=n-1->A.units+(n-1)<cLine->aL X.K H d x->aL X.K H e y->aE x u->aE y v->SeqAt.EqAt A s u v (hV d e))
 (hn0:n≠0)(A:Around)(hu:A.units+n<cLine){ds es:List D}{ys:List V}{its Jc:wW}(r1:a8 X.K H ds xs)(r2:a8 X.K H es ys)(rv:aN xs its)(JW:aN ys Jc)(hn:dY ds<=n-1):
 ∀j (h1:j<its.toArray.size)(h2:j<Jc.toArray.size),SeqAt.EqAt A.in1 s its.toArray[j] Jc.toArray[j] (hV (ds.getD j .non) (es.getD j .non)):=by
 intro j h1 h2
 have e1:j<xs.length:=by rw[rv.length];simpa using h1
 have e2:j<ys.length:=by rw[JW.length];simpa using h2
 obtain⟨d1,m1⟩:=r1.get e1;obtain⟨d2,m2⟩:=r2.get e2;obtain⟨u,hu1,ru⟩:=rv.get (EC e1);obtain⟨v,hv1,rv'⟩:=JW.get (EC e2)
 have z1:its.toArray[j]=u:=by
  have:=Im.mp hu1;obtain⟨_,q⟩:=this;simpa using q
 have z2:Jc.toArray[j]=v:=by
  have:=Im.mp hv1;obtain⟨_,q⟩:=this;simpa using q
 rw[z1,z2];exact ih hn0 A.in1 _ _ _ _ _ _ (GC (vS m1) hn) (by show A.units+1+(n-1)<cLine;omega) d1 d2 ru rv'
theorem nv (I:Inv X pins σ H s)(n:Nat)(ih:n≠0->∀(A:Around)(d e:D)(x y:V)(u v:Value),i5 d<=n-1->A.units+(n-1)<cLine->aL X.K H d x->aL X.K H e y->aE x u->aE y v->SeqAt.EqAt A s u v (hV d e))
 (A:Around)(d e:D)(x y:V)(u v:Value)(hn:i5 d<=n)(hu:A.units+n<cLine)(h1:aL X.K H d x)(h2:aL X.K H e y)(rx:aE x u)(ry:aE y v):
 SeqAt.RcAt A s u v (hV d e)/\SeqAt.EqAt A s u v (hV d e)/\SeqAt.RcNeAt A s u v (!hV d e):=by
 have Jg:A.units<cLine:=by omega
 cases d with
 |non =>
  unfold aL at h1;subst h1
  cases rx
  cases e with
  |non =>
   unfold aL at h2;subst h2
   cases ry
   exact⟨.none_none,.same _,.none_none⟩
  |bl q =>
   unfold aL at h2;subst h2
   cases ry
   exact⟨.none_bool q,.none_bool q,.none_bool q⟩
  |int q =>
   unfold aL at h2;subst h2;obtain⟨tq,rfl⟩:=ry;exact⟨.none_int q tq,.none_int q tq,.none_int q tq⟩
  |str q =>
   unfold aL at h2;subst h2;obtain⟨tq,rfl⟩:=ry;exact⟨.none_str q tq,.none_str q tq,.none_str q tq⟩
  |lst es =>
   unfold aL at h2;obtain⟨b,ys,rfl,q2,r2⟩:=h2
   cases ry
   obtain⟨Jc,JW,p2,_⟩:=I.list q2;exact⟨.none_list  p2.isList Jg,.none_list  p2.isList Jg,.none_list  p2.isList Jg⟩
  |tup es =>
   unfold aL at h2;obtain⟨b,ys,rfl,q2,r2⟩:=h2
   cases ry
   obtain⟨Jc,JW,p2,_⟩:=I.tuple q2;have p2:s.heap.IsTuple b Jc.toArray:=p2;exact⟨.none_tuple  p2 Jg,.none_tuple  p2 Jg,.none_tuple  p2 Jg⟩
 |bl p =>
  unfold aL at h1;subst h1
  cases rx
  cases e with
  |non =>
   unfold aL at h2;subst h2
   cases ry
   exact⟨.bool_none p,.bool_none p,.bool_none p⟩
  |bl q =>
   unfold aL at h2;subst h2
   cases ry
   exact⟨.bool_bool p q,.bool_bool p q,.bool_bool p q⟩
  |int q =>
   unfold aL at h2;subst h2;obtain⟨tq,rfl⟩:=ry;exact⟨.bool_int p q tq,.bool_int p q tq,.bool_int p q tq⟩
  |str q =>
   unfold aL at h2;subst h2;obtain⟨tq,rfl⟩:=ry;exact⟨.bool_str p q tq,.bool_str p q tq,.bool_str p q tq⟩
  |lst es =>
   unfold aL at h2;obtain⟨b,ys,rfl,q2,r2⟩:=h2
   cases ry
   obtain⟨Jc,JW,p2,_⟩:=I.list q2;exact⟨.bool_list p p2.isList Jg,.bool_list p p2.isList Jg,.bool_list p p2.isList Jg⟩
  |tup es =>
   unfold aL at h2;obtain⟨b,ys,rfl,q2,r2⟩:=h2
   cases ry
   obtain⟨Jc,JW,p2,_⟩:=I.tuple q2;have p2:s.heap.IsTuple b Jc.toArray:=p2;exact⟨.bool_tuple p p2 Jg,.bool_tuple p p2 Jg,.bool_tuple p p2 Jg⟩
 |int p =>
  unfold aL at h1;subst h1;obtain⟨tp,rfl⟩:=rx
  cases e with
  |non =>
   unfold aL at h2;subst h2
   cases ry
   exact⟨.int_none p tp,.int_none p tp,.int_none p tp⟩
  |bl q =>
   unfold aL at h2;subst h2
   cases ry
   exact⟨.int_bool p tp q,.int_bool p tp q,.int_bool p tp q⟩
  |int q =>
   unfold aL at h2;subst h2;obtain⟨tq,rfl⟩:=ry;exact⟨.int_int p tp q tq,.int_int p tp q tq,.int_int p tp q tq⟩
  |str q =>
   unfold aL at h2;subst h2;obtain⟨tq,rfl⟩:=ry;exact⟨.int_str p tp q tq,.int_str p tp q tq,.int_str p tp q tq⟩
  |lst es =>
   unfold aL at h2;obtain⟨b,ys,rfl,q2,r2⟩:=h2
   cases ry
   obtain⟨Jc,JW,p2,_⟩:=I.list q2;exact⟨.int_list p tp p2.isList Jg,.int_list p tp p2.isList Jg,.int_list p tp p2.isList Jg⟩
  |tup es =>
   unfold aL at h2;obtain⟨b,ys,rfl,q2,r2⟩:=h2
   cases ry
   obtain⟨Jc,JW,p2,_⟩:=I.tuple q2;have p2:s.heap.IsTuple b Jc.toArray:=p2;exact⟨.int_tuple p tp p2 Jg,.int_tuple p tp p2 Jg,.int_tuple p tp p2 Jg⟩
 |str p =>
  unfold aL at h1;subst h1;obtain⟨tp,rfl⟩:=rx
  cases e with
  |non =>
   unfold aL at h2;subst h2
   cases ry
   exact⟨.str_none p tp,.str_none p tp,.str_none p tp⟩
  |bl q =>
   unfold aL at h2;subst h2
   cases ry
   exact⟨.str_bool p tp q,.str_bool p tp q,.str_bool p tp q⟩
  |int q =>
   unfold aL at h2;subst h2;obtain⟨tq,rfl⟩:=ry;exact⟨.str_int p tp q tq,.str_int p tp q tq,.str_int p tp q tq⟩
  |str q =>
   unfold aL at h2;subst h2;obtain⟨tq,rfl⟩:=ry;exact⟨.str_str p tp q tq,.str_str p tp q tq,.str_str p tp q tq⟩
  |lst es =>
   unfold aL at h2;obtain⟨b,ys,rfl,q2,r2⟩:=h2
   cases ry
   obtain⟨Jc,JW,p2,_⟩:=I.list q2;exact⟨.str_list p tp p2.isList Jg,.str_list p tp p2.isList Jg,.str_list p tp p2.isList Jg⟩
  |tup es =>
   unfold aL at h2;obtain⟨b,ys,rfl,q2,r2⟩:=h2
   cases ry
   obtain⟨Jc,JW,p2,_⟩:=I.tuple q2;have p2:s.heap.IsTuple b Jc.toArray:=p2;exact⟨.str_tuple p tp p2 Jg,.str_tuple p tp p2 Jg,.str_tuple p tp p2 Jg⟩
 |lst ds =>
  unfold aL at h1;obtain⟨a,xs,rfl,q1,r1⟩:=id h1
  cases rx
  obtain⟨its,rv,p1,_⟩:=I.list q1;have p1:s.heap.IsList a its.toArray:=p1.isList
  cases e with
  |non =>
   unfold aL at h2;subst h2
   cases ry
   exact⟨.list_none  p1 Jg,.list_none  p1 Jg,.list_none  p1 Jg⟩
  |bl q =>
   unfold aL at h2;subst h2
   cases ry
   exact⟨.list_bool q p1 Jg,.list_bool q p1 Jg,.list_bool q p1 Jg⟩
  |int q =>
   unfold aL at h2;subst h2;obtain⟨tq,rfl⟩:=ry;exact⟨.list_int q tq p1 Jg,.list_int q tq p1 Jg,.list_int q tq p1 Jg⟩
  |str q =>
   unfold aL at h2;subst h2;obtain⟨tq,rfl⟩:=ry;exact⟨.list_str q tq p1 Jg,.list_str q tq p1 Jg,.list_str q tq p1 Jg⟩
  |lst es =>
   unfold aL at h2;obtain⟨b,ys,rfl,q2,r2⟩:=id h2
   cases ry
   obtain⟨Jc,JW,p2,_⟩:=I.list q2;have p2:s.heap.IsList b Jc.toArray:=p2.isList;have el:=kO I n ih (by unfold i5 at hn;omega) A hu r1 r2 rv JW (by unfold i5 at hn;omega)
   have l1:its.toArray.size=ds.length:=by rw[yQ,<-rv.length,r1.len]
   have l2:Jc.toArray.size=es.length:=by rw[yQ,<-JW.length,r2.len]
   have dr:=ik ds es
   have key:SeqAt.RcAt A s (.ref a) (.ref b) (fE ds es)/\SeqAt.RcNeAt A s (.ref a) (.ref b) (!fE ds es):=by
    by_cases hl:ds.length=es.length
    ·have hs:its.toArray.size=Jc.toArray.size:=by rw[l1,l2,hl]
     have z:(List.range its.toArray.size).all (λj=>hV (ds.getD j .non) (es.getD j .non))=fE ds es:=by rw[dr,l1,hl];simp
     have c1:=SeqAt.RcAt.lists p1 p2 hs Jg el;have c2:=SeqAt.RcNeAt.lists p1 p2 hs Jg el;rw[z] at c1 c2;exact⟨c1,c2⟩
    ·have z:fE ds es=false:=by rw[dr];simp[hl]
     have hs:(its.toArray.size != Jc.toArray.size)=true:=by rw[l1,l2];simpa using hl
     rw[z];exact⟨SeqAt.RcAt.lists_lengths p1 p2 hs Jg,SeqAt.RcNeAt.lists_lengths p1 p2 hs Jg⟩
   have ND:hV (.lst ds) (.lst es)=fE ds es:=rfl
   by_cases MJ:a=b
   ·subst MJ;have z:=lI I (.lst ds) (.lst es) (.ref a) (by unfold aL;exact⟨a,xs,rfl,q1,r1⟩) (by unfold aL;exact⟨a,ys,rfl,q2,r2⟩);refine⟨by rw[ND];exact key.1,by rw[z];exact .same _,by rw[ND];exact key.2⟩
   ·rw[ND];exact⟨key.1,.of_refs MJ key.1,key.2⟩
  |tup es =>
   unfold aL at h2;obtain⟨b,ys,rfl,q2,r2⟩:=id h2
   cases ry
   obtain⟨Jc,JW,p2,_⟩:=I.tuple q2;have p2:s.heap.IsTuple b Jc.toArray:=p2;exact⟨.list_tuple p1 p2 Jg,.list_tuple p1 p2 Jg,.list_tuple p1 p2 Jg⟩
 |tup ds =>
  unfold aL at h1;obtain⟨a,xs,rfl,q1,r1⟩:=id h1
  cases rx
  obtain⟨its,rv,p1,_⟩:=I.tuple q1;have p1:s.heap.IsTuple a its.toArray:=p1
  cases e with
  |non =>
   unfold aL at h2;subst h2
   cases ry
   exact⟨.tuple_none  p1 Jg,.tuple_none  p1 Jg,.tuple_none  p1 Jg⟩
  |bl q =>
   unfold aL at h2;subst h2
   cases ry
   exact⟨.tuple_bool q p1 Jg,.tuple_bool q p1 Jg,.tuple_bool q p1 Jg⟩
  |int q =>
   unfold aL at h2;subst h2;obtain⟨tq,rfl⟩:=ry;exact⟨.tuple_int q tq p1 Jg,.tuple_int q tq p1 Jg,.tuple_int q tq p1 Jg⟩
  |str q =>
   unfold aL at h2;subst h2;obtain⟨tq,rfl⟩:=ry;exact⟨.tuple_str q tq p1 Jg,.tuple_str q tq p1 Jg,.tuple_str q tq p1 Jg⟩
  |lst es =>
   unfold aL at h2;obtain⟨b,ys,rfl,q2,r2⟩:=id h2
   cases ry
   obtain⟨Jc,JW,p2,_⟩:=I.list q2;have p2:s.heap.IsList b Jc.toArray:=p2.isList;exact⟨.tuple_list p1 p2 Jg,.tuple_list p1 p2 Jg,.tuple_list p1 p2 Jg⟩
  |tup es =>
   unfold aL at h2;obtain⟨b,ys,rfl,q2,r2⟩:=id h2
   cases ry
   obtain⟨Jc,JW,p2,_⟩:=I.tuple q2;have p2:s.heap.IsTuple b Jc.toArray:=p2;have el:=kO I n ih (by unfold i5 at hn;omega) A hu r1 r2 rv JW (by unfold i5 at hn;omega)
   have l1:its.toArray.size=ds.length:=by rw[yQ,<-rv.length,r1.len]
   have l2:Jc.toArray.size=es.length:=by rw[yQ,<-JW.length,r2.len]
   have dr:=ik ds es
   have key:SeqAt.RcAt A s (.ref a) (.ref b) (fE ds es)/\SeqAt.RcNeAt A s (.ref a) (.ref b) (!fE ds es):=by
    have z:((List.range (min its.toArray.size Jc.toArray.size)).all (λj=>hV (ds.getD j .non) (es.getD j .non))&&its.toArray.size==Jc.toArray.size)=fE ds es:=by rw[dr,l1,l2]
    have c1:=SeqAt.RcAt.tuples p1 p2 Jg el;have c2:=SeqAt.RcNeAt.tuples p1 p2 Jg el;rw[z] at c1 c2;exact⟨c1,c2⟩
   have ND:hV (.tup ds) (.tup es)=fE ds es:=rfl
   by_cases MJ:a=b
   ·subst MJ;have z:=lI I (.tup ds) (.tup es) (.ref a) (by unfold aL;exact⟨a,xs,rfl,q1,r1⟩) (by unfold aL;exact⟨a,ys,rfl,q2,r2⟩);refine⟨by rw[ND];exact key.1,by rw[z];exact .same _,by rw[ND];exact key.2⟩
   ·rw[ND];exact⟨key.1,.of_refs MJ key.1,key.2⟩
theorem jf (I:Inv X pins σ H s):∀(n:Nat)(A:Around)(d e:D)(x y:V)(u v:Value),i5 d<=n->A.units+n<cLine->aL X.K H d x->aL X.K H e y->aE x u->aE y v →
 SeqAt.RcAt A s u v (hV d e)/\SeqAt.EqAt A s u v (hV d e)/\SeqAt.RcNeAt A s u v (!hV d e):=by
 intro n
 induction n with
 |zero=>exact λA d e x y u v hn hu h1 h2 rx ry=>nv I 0 (λz=>absurd z (by simp)) A d e x y u v hn hu h1 h2 rx ry
 |succ n ih=>exact λA d e x y u v hn hu h1 h2 rx ry=>nv I (n+1) (λ_ A d e x y u v hn hu h1 h2 rx ry=>(ih A d e x y u v hn hu h1 h2 rx ry).2.1) A d e x y u v hn hu h1 h2 rx ry
end
section
variable {X:Cx}
noncomputable def CH (K:Frag)(neg:Bool):R2:=λx y H Q=>∃d e,aL K H d x/\aL K H e y/\i5 d<=32/\Q (.bl (hV d e != neg)) H
theorem agG {k:Nat}(hr:Hz k X.A):gH X (compareOp .Eq) (CH X.K false):=by
 intro pins s σ H x y v u Q I rx ry h;obtain⟨d,e,h1,h2,hd,q⟩:=h;have z:=(jf I 32 X.A d e x y v u hd (by have:=hr.units;omega) h1 h2 rx ry).1;exact z X.prog X.w X.xe _ ⟨.bl (hV d e),H,I,rfl,by simpa using q⟩
theorem ki {k:Nat}(hr:Hz k X.A):gH X (compareOp .NotEq) (CH X.K true):=by
 intro pins s σ H x y v u Q I rx ry h;obtain⟨d,e,h1,h2,hd,q⟩:=h;have z:=(jf I 32 X.A d e x y v u hd (by have:=hr.units;omega) h1 h2 rx ry).2.2
 exact z X.prog X.w X.xe _ ⟨.bl (!hV d e),H,I,rfl,by
  have e1:(hV d e != true) = !hV d e:=by cases hV d e <;> rfl
  rw[e1] at q
  exact q⟩
end
end L2
namespace Nm
noncomputable def cZ (a b:Int):Int:=(Int.gcd a b:Int)
noncomputable def dv (t b:Int):Int:=if b<0 then -(cZ t b) else cZ t b
noncomputable def dq (t b:Int):Int:=t.fdiv (dv t b)
noncomputable def cz (t b:Int):Int:=b.fdiv (dv t b)
variable {b:Int}
theorem fP {t:Int}(h:b≠0):0<cZ t b:=by
 unfold cZ;have:0<Int.gcd t b:=EN _ h;omega
theorem nV {t:Int}(h:b≠0):dv t b≠0:=by
 have:=fP (t:=t) h;unfold dv
 split <;> omega
theorem ag3 {t:Int}:dv t b ∣ t:=by
 unfold dv cZ
 split
 ·exact Int.neg_dvd.mpr (Int.gcd_dvd_left ..)
 ·exact Int.gcd_dvd_left ..
theorem af1 {t:Int}:dv t b ∣ b:=by
 unfold dv cZ
 split
 ·exact Int.neg_dvd.mpr (Int.gcd_dvd_right ..)
 ·exact Int.gcd_dvd_right ..
theorem qH {a:Int}(h:b ∣ a)(hb:b≠0):a.fdiv b*b=a:=by
 obtain⟨c,rfl⟩:=h;rw[Int.mul_fdiv_cancel_left _ hb,CB]
theorem nY {t:Int}(h:b≠0):dq t b*dv t b=t:=qH ag3 (nV h)
theorem jG {t:Int}(h:b≠0):cz t b*dv t b=b:=qH af1 (nV h)
theorem pj {t:Int}(h:b≠0):0<cz t b:=by
 have e:=jG (t:=t) h;have g:=fP (t:=t) h
 by_cases hb:b<0
 ·have hd:dv t b = -(cZ t b):=by unfold dv;rw[oO hb]
  rw[hd] at e
  by_cases hl:0<cz t b
  ·exact hl
  ·have:0<=cz t b * -(cZ t b):=by
    have:=Int.mul_nonneg_of_nonpos_of_nonpos (a:=cz t b) (b:=-(cZ t b)) (by omega) (by omega);exact this
   omega
 ·have hd:dv t b=cZ t b:=by unfold dv;rw[DW hb]
  rw[hd] at e
  by_cases hl:0<cz t b
  ·exact hl
  ·have:cz t b*cZ t b<=0:=Int.mul_nonpos_of_nonpos_of_nonneg (by omega) (by omega);omega
theorem nR {t:Int}:(dv t b).natAbs=Int.gcd t b:=by
 unfold dv cZ
 split <;> simp
theorem vo {t:Int}(h:b≠0):Int.gcd (dq t b) (cz t b)=1:=by
 have e1:=nY (t:=t) h;have e2:=jG (t:=t) h;have g:0<Int.gcd t b:=EN _ h;have e3:Int.gcd (dq t b*dv t b) (cz t b*dv t b)=Int.gcd (dq t b) (cz t b)*(dv t b).natAbs:=Int.gcd_mul_right ..;rw[e1,e2,nR] at e3
 have:Int.gcd (dq t b) (cz t b)*Int.gcd t b=1*Int.gcd t b:=by omega
 exact Nat.eq_of_mul_eq_mul_right g this
theorem kb {t t' b':Int}(h:b≠0)(hp:0<b')(hg:Int.gcd t' b'=1)(he:t*b'=t'*b):dq t b=t'/\cz t b=b':=by
 have e1:=nY (t:=t) h;have e2:=jG (t:=t) h;have g:=nV (t:=t) h;have lp:=pj (t:=t) h;have lg:=vo (t:=t) h
 have e3:dq t b*b'=t'*cz t b:=by
  have z:(dq t b*b')*dv t b=(t'*cz t b)*dv t b:=by
   rw[Int.mul_right_comm,e1,he,sv,e2]
  exact xU g z
 have n3:(dq t b).natAbs*b'.natAbs=t'.natAbs*(cz t b).natAbs:=by
  have:=DT Int.natAbs e3;rw[wJ,wJ] at this;exact this
 have c1:Nat.Coprime (cz t b).natAbs (dq t b).natAbs:=by
  rw[Nat.coprime_comm];exact lg
 have c2:Nat.Coprime b'.natAbs t'.natAbs:=by
  rw[Nat.coprime_comm];exact hg
 have d1:(cz t b).natAbs ∣ b'.natAbs:=c1.dvd_of_dvd_mul_left ⟨t'.natAbs,by rw[n3,Nat.mul_comm]⟩;have d2:b'.natAbs ∣ (cz t b).natAbs:=c2.dvd_of_dvd_mul_left ⟨(dq t b).natAbs,by rw[<-n3,Nat.mul_comm]⟩;have e4:(cz t b).natAbs=b'.natAbs:=Nat.dvd_antisymm d1 d2
 have e5:cz t b=b':=by omega
 refine⟨?_,e5⟩;rw[e5] at e3;exact xU (by omega) e3
theorem rN {t b:Int}(hp:0<b)(hg:Int.gcd t b=1):dq t b=t/\cz t b=b:=kb (by omega) hp hg rfl
theorem lC (a b:Int):Int.gcd b (a.fmod b)=Int.gcd a b:=by
 rw[Int.fmod_def,Int.gcd_comm a b]
 first
  |exact Int.gcd_sub_mul_left_right ..
  |simp
theorem vk (a b:Int)(h:b≠0):(a.fmod b).natAbs<b.natAbs:=by
 by_cases hb:0<b
 ·have h1:=Ig a hb;have h2:=tH a hb;omega
 ·have e:a.fmod b = -((-a).fmod (-b)):=by
   have:=Int.fmod_def a b;rw[Int.neg_fmod_neg];omega
  have h1:=Ig (-a) (b:=-b) (by omega);have h2:=tH (-a) (b:=-b) (by omega);omega
noncomputable def sg (b:Int):Int:=if b<0 then -1 else 1
noncomputable def ab (b:Int):Int:=if b<0 then -b else b
theorem mB (b:Int):ab b=(b.natAbs:Int):=by unfold ab;split <;> omega
theorem agB {t:Int}(h:b≠0):(sg b*t).fdiv (cZ t b)=dq t b:=by
 have g:=fP (t:=t) h;have e:=nY (t:=t) h
 have z:sg b*t=dq t b*cZ t b:=by
  unfold sg dv at *
  split
  ·rename_i hb
   rw[oO hb] at e
   have:dq t b * -cZ t b = -(dq t b*cZ t b):=by rw[Int.mul_neg]
   omega
  ·rename_i hb
   rw[DW hb] at e;omega
 rw[z,Int.mul_fdiv_cancel _ (by omega)]
theorem abF {t:Int}(h:b≠0):(ab b).fdiv (cZ t b)=cz t b:=by
 have g:=fP (t:=t) h;have e:=jG (t:=t) h
 have z:ab b=cz t b*cZ t b:=by
  unfold ab dv at *
  split
  ·rename_i hb
   rw[oO hb] at e
   have:cz t b * -cZ t b = -(cz t b*cZ t b):=by rw[Int.mul_neg]
   omega
  ·rename_i hb
   rw[DW hb] at e;omega
 rw[z,Int.mul_fdiv_cancel _ (by omega)]
theorem abU (a b:Int):Int.gcd (ab a) (ab b)=Int.gcd a b:=by
 rw[mB,mB];simp[Int.gcd]
noncomputable def B (n:Nat)(i:Int):Prop:=i.natAbs<2^n
variable {n:Nat}{i:Int}
theorem B.mono {m:Nat}(h:B n i)(hn:n<=m):B m i:=HG h (Nat.pow_le_pow_right (by decide) hn)
variable {j:Int}
theorem B.mul {m:Nat}(h:B n i)(k:B m j):B (n+m) (i*j):=by
 unfold B at *;rw[wJ,Nat.pow_add];exact Nat.mul_lt_mul'' h k
theorem B.add (h:B n i)(k:B n j):B (n+1) (i+j):=by
 unfold B at *;rw[Nat.pow_succ];have:=Int.natAbs_add_le i j;omega
theorem B.le (h:B n i)(k:j.natAbs<=i.natAbs):B n j:=xv k h
theorem ur {x d y:Int}(e:x*d=y)(hd:d≠0):x.natAbs<=y.natAbs:=by
 have:x.natAbs*d.natAbs=y.natAbs:=by rw[<-wJ,e]
 have h1:1<=d.natAbs:=by omega
 calc x.natAbs=x.natAbs*1:=(Nat.mul_one _).symm
  _<=x.natAbs*d.natAbs:=tJ _ h1
  _=y.natAbs:=this
theorem v5 {t:Int}(h:b≠0):(dq t b).natAbs<=t.natAbs:=ur (nY h) (nV h)
theorem wd {t:Int}(h:b≠0):(cz t b).natAbs<=b.natAbs:=ur (jG h) (nV h)
theorem C6 {t:Int}(h:b≠0):(dv t b).natAbs<=b.natAbs:=by
 have e:=jG (t:=t) h;have lp:=pj (t:=t) h;exact ur (x:=dv t b) (d:=cz t b) (by rw[CB];exact e) (by omega)
theorem ab1 {t:Int}(h:b≠0):(cZ t b).natAbs<=b.natAbs:=by
 have e:=C6 (t:=t) h;rw[nR] at e;unfold cZ;simpa using e
structure Num (p t b:Int):Prop where
 pos:0<b
 red:Int.gcd t b=1
 pr:p≠0->b=1/\0<=t/\t<p
theorem Num.ofP {p t:Int}(h0:0<=t)(h1:t<p):Num p t 1:=⟨by decide,by simp,λ_=>⟨rfl,h0,h1⟩⟩
theorem Num.low {t:Int}(h:b≠0):Num 0 (dq t b) (cz t b):=⟨pj h,vo h,λz=>absurd rfl z⟩
noncomputable def dj (p t b:Int):Int:=if p=0 then dq t b else t%p
noncomputable def dM (p t b:Int):Int:=if p=0 then cz t b else 1
theorem Num.set {p t:Int}(hp:0<=p)(h:b≠0):Num p (dj p t b) (dM p t b):=by
 unfold dj dM
 by_cases z:p=0
 ·subst z;simp only[xm];exact Num.low h
 ·simp only[z,EG];exact Num.ofP (Em _ z) (IT _ (by omega))
theorem Num.self {p t:Int}(n:Num p t b)(hp:0<=p):dj p t b=t/\dM p t b=b:=by
 unfold dj dM
 by_cases z:p=0
 ·simp only[z,xm];exact rN n.pos n.red
 ·simp only[z,EG];obtain⟨h1,h2,h3⟩:=n.pr z;exact⟨qM h2 h3,h1.symm⟩
theorem acy {p t t' b':Int}(h:b≠0)(n:Num p t' b')(hp:0<=p)(e0:p=0->t*b'=t'*b)(e1:p≠0->t%p=t'%p):dj p t b=t'/\dM p t b=b':=by
 unfold dj dM
 by_cases z:p=0
 ·simp only[z,xm];exact kb h n.pos n.red (e0 z)
 ·simp only[z,EG];obtain⟨h1,h2,h3⟩:=n.pr z;exact⟨by rw[e1 z];exact qM h2 h3,h1.symm⟩
end Nm
namespace L2
open PySem PySem.Spec PyProof.Rows PySem.W
variable {i:Int}
theorem Dq (h:Nm.B 9000 i):i.natAbs.log2<9000:=by
 by_cases z:i.natAbs=0
 ·rw[z];decide
 ·exact(Nat.log2_lt z).mpr h
theorem AN (h:Nm.B 9000 i):Builtin.Int.intBits i<=2^20:=by
 have l:=Dq h;unfold Builtin.Int.intBits
 split
 ·exact GH _
 ·have:(9000:Nat)<=2^20:=by decide
  omega
section
variable {X:Cx}
theorem fH:gH X (binaryOp .FloorDiv) (rI (λ_ j=>j≠0/\Nm.B 9000 j) λi j=>.int (i.fdiv j)):=Ew λ_ _ _ _ _ _ _ hc q=>floordiv_int hc.1 q (.inl (PyProof.noPylong_of_log2 (Dq hc.2)))
theorem dI:gH X (binaryOp .Mult) (rI (λi j=>Nm.B 9000 i/\Nm.B 9000 j) λi j=>.int (i*j)):=Ew λ_ _ _ _ _ _ _ hc q=>mul_int q (IntMulOk.of_bits (AN hc.1) (AN hc.2))
end
noncomputable def E6:Expr->Option Int
 | .Constant (.int i) _ _=>some i
 |_=>none
theorem acB {e:Expr}(h:E6 e=some i):∃k p,e = .Constant (.int i) k p:=by
 unfold E6 at h
 split at h
 ·cases h
  exact⟨_,_,rfl⟩
 ·cases h
noncomputable def vb:List Expr->Option (List Int)
 |[]=>some []
 |e::es=>(E6 e).bind λi=>(vb es).map (i :: ·)
noncomputable def acN (ns:List Int):TA:=λ_ H Q=>Q (ns.map V.int) H
theorem wk {X:Cx}:∀{es:Hy}{ns:List Int},vb es=some ns->PA X es (acN ns)
 |[],ns,h=>by
  cases h
  exact ah
 |x::es,ns,h=>by
  unfold vb at h;obtain⟨i,hi,h⟩:=xH.mp h;obtain⟨ms,e,rfl⟩:=lM.mp h;obtain⟨k,p,rfl⟩:=acB hi;exact ao (aj (j:=k) (pos:=p)) (wk e)
noncomputable def acO (ns:List Int):TE:=λ_ H Q=>∀p,H p=none->Q (.ref p) (upd H p (.lst (ns.map V.int)))
theorem pV {X:Cx}{es:Hy}{pos:Pos}{ns:List Int}(h:vb es=some ns)(hl:ns.length<=1000):PE X (.List es pos) (acO ns):=by
 intro pins s σ H Q I q;refine cq (wk h) pins s σ H Q I ?_;refine⟨?_,q⟩;rw[wC];exact HE (abK hl)
end L2
namespace K08
open PySem L2 PySem.W Nm
noncomputable abbrev Gh:Stmt:=(aZ 35)
noncomputable abbrev vL:Stmt:=(aZ 36)
noncomputable abbrev rp:Stmt:=(aZ 37)
noncomputable def bK (t b:Int):HO:=.tup [.int t,.int b]
noncomputable def Bp:Sp:=λvs H Q _=>∃a b:Int,vs=[.int a,.int b]/\Q (.int (cZ a b)) H
noncomputable def xy:Sp:=λvs H Q _=>∃t b:Int,vs=[.int t,.int b]/\b≠0/\B 9000 b/\∀p,H p=none->Q (.ref p) (upd H p (bK (dq t b) (cz t b)))
noncomputable def GB:Sp:=λvs H Q _=>∃m p:Int,vs=[.int m,.int p]/\p∈tO/\m%p≠0/\∀v,0<=v->v<p->(v*m)%p=1->Q (.int v) H
variable {p:Int}
theorem dC (h:p∈tO):2<=p/\p<=97:=by
 have:∀q∈tO,2<=q/\q<=97:=by decide
 exact this p h
theorem acV {r:Int}(h:p∈tO)(h0:0<r)(h1:r<p):Int.gcd p r=1:=by
 have key:∀q∈tO,∀k:_root_.Fin 98,0<k.val->((k.val:Nat):Int)<q->Int.gcd q ((k.val:Nat):Int)=1:=by decide +kernel
 have hp:=dC h;have z:=key p h ⟨r.toNat,by omega⟩
 have e:((r.toNat:Nat):Int)=r:=by omega
 simp only[e] at z;exact z (by omega) h1
variable {P:A9}{w:World}{K:PySem.W.Frag}{mg:Fj}{base:Heap}
theorem CY:Ii xX xX (ar Gh):=fu (by decide +kernel)
variable {f:Addr}{fd:FD}
theorem acW (F:Fe K "common_divisor" "common_divisor" Gh f fd)(mA:mg "abs"=none):Ey P w K mg base (bZ P w) 1 f fd xX Bp:=by
 refine F.okN CY (λvs H Q E h=>?_) (λIZ A outer s H vs Q E hr h=>?_)
 ·obtain⟨a,b,rfl,_⟩:=h;rfl
 ·obtain⟨a,b,rfl,q⟩:=h
  refine⟨_,ai (lR uy (iy (pv 1) (λ_=>rfl)) (av (je (i:=0) (j:=1) rfl CY.nd rfl rfl (by decide) rfl rfl (ao (pv 1) (ao (aD uU (pv 0) (pv 1)) ah)) rfl)))
   (av (aB (aI iT (by rfl) mA (by rfl) (ao (pv 0) ah)))),?_⟩
  refine⟨λm σ H'=>∃c d:Int,σ=[some (.int c),some (.int d)]/\H'=H/\m=d.natAbs/\Int.gcd c d=Int.gcd a b,⟨_,a,b,rfl,rfl,rfl,rfl⟩,?_⟩;rintro m σ H' ⟨c,d,rfl,rfl,rfl,hg⟩;refine⟨_,rfl,_,rfl,?_⟩;refine cT (λh=>?_) (λh=>?_)
  ·have hd:d≠0:=by simpa using h
   refine⟨λσ' KY=>∃c' d':Int,σ'=[some (.int c'),some (.int d')]/\KY=H'/\d'.natAbs<d.natAbs/\Int.gcd c' d'=Int.gcd a b,λσ' KY ⟨c',d',e1,e2,e3,e4⟩=>⟨_,e3,c',d',e1,e2,rfl,e4⟩,?_⟩;refine⟨_,rfl,_,rfl,_,rfl,_,_,rfl,rfl,hd,_,_,rfl,d,c.fmod d,rfl,rfl,vk c d hd,?_⟩;rw[lC,hg]
  ·have hd:d=0:=by simpa using h
   subst hd;refine⟨_,rfl,c,rfl,?_⟩
   have e:(if c<0 then -c else c)=cZ a b:=by
    unfold cZ;rw[<-hg];have:=mB c;unfold ab at this;rw[this];simp
   rw[e];exact q
theorem ko:Ii ["top","bottom","divisor"] GS (ar vL):=fu (by decide +kernel)
noncomputable abbrev Ca (P:A9)(w:World)(K:PySem.W.Frag)(mg:Fj)(base:Heap)(k:Nat)(ps:DV)(n:Str)(sp:Sp):Prop:=∃f fd,Ey P w K mg base (bZ P w) k f fd ps sp/\L2.bF K fd ps []/\mg n=some (.ref f)/\keepIn K (.ref f)=true
noncomputable abbrev Cm (P:A9)(w:World)(K:PySem.W.Frag)(mg:Fj)(base:Heap)(k:Nat)(ps:DV)(C:Addr)(n:Str)(sp:Sp):Prop:=∃f fd,Ey P w K mg base (bZ P w) k f fd ps sp/\L2.bF K fd ps []/\L2.Meth K C n f
theorem acX (F:Fe K "lowest" "lowest" vL f fd)(q0:Ca P w K mg base 1 xX "common_divisor" Bp):
 Ey P w K mg base (bZ P w) 2 f fd GS xy:=by
 obtain⟨fg,Qa,FG,bG,mG,kG⟩:=q0;refine F.okN ko (λvs H Q E h=>?_) (λIZ A outer s H vs Q E hr h=>?_)
 ·obtain⟨a,b,rfl,_⟩:=h;rfl
 ·obtain⟨t,b,rfl,hb,hB,q⟩:=h
  refine⟨_,ai (bf (aK eQ (pv 1) aj (aJ _)) (av (aB (bw (ao (pv 0) (ao aj ah))))) aH)
   (ai (aM (i:=2) ko.nd rfl (Or.inl rfl) (aA FG hr (by rfl) mG kG bG .nil af (ao (pv 0) (ao (pv 1) ah))))
   (ai (bf (aK kr (pv 1) aj (aJ _)) (av (aM (i:=2) ko.nd rfl (Or.inl rfl) (vf oJ (pv 2)))) aH)
   (av (aB (bw (ao (aD fH (pv 0) (pv 2)) (ao (aD fH (pv 1) (pv 2)) ah))))))),?_⟩
  refine⟨_,rfl,rfl,_,rfl,?_⟩;refine cT (λh=>?_) (λh=>?_)
  ·have e:b=1:=by simpa using h
   subst e;have z:=rN (t:=t) (b:=1) (by decide) (by simp);refine⟨_,rfl,jP,λp hp=>?_⟩;have y:=q p hp;rw[z.1,z.2] at y;exact y
  ·refine⟨_,rfl,_,rfl,t,b,rfl,?_⟩;refine⟨_,rfl,_,_,rfl,rfl,_,rfl,?_⟩;have gp:=fP (t:=t) hb
   have fin:∀d:Int,d=dv t b->GM (c5 (qe (rI (λ_ j=>j≠0/\Nm.B 9000 j) λi j=>V.int (i.fdiv j)) (gU 0) (gU 2)) (c5 (qe (rI (λ_ j=>j≠0/\Nm.B 9000 j) λi j=>V.int (i.fdiv j)) (gU 1) (gU 2)) Ct)) [some (.int t),some (.int b),some (.int d)] H Q:=by
    intro d hd
    have TC:d≠0:=by rw[hd];exact nV hb
    have YQ:B 9000 d:=by rw[hd];exact hB.le (C6 hb)
    refine⟨_,rfl,_,rfl,_,_,rfl,rfl,⟨TC,YQ⟩,_,rfl,_,rfl,_,_,rfl,rfl,⟨TC,YQ⟩,jP,λp hp=>?_⟩;have y:=q p hp;unfold dq cz at y;rw[<-hd] at y;exact y
   refine cT (λh2=>?_) (λh2=>?_)
   ·have e:b<0:=by simpa using h2
    exact⟨_,rfl,_,rfl,fin _ (by unfold dv;rw[oO e])⟩
   ·have e:¬b<0:=by simpa using h2
    exact fin _ (by unfold dv;rw[DW e])
structure Eu (m p r s l ls:Int):Prop where
 r0:0<r
 rl:r<l
 lp:l<=p
 g:Int.gcd l r=1
 e1:∃k,s*m-r=p*k
 e2:∃k,ls*m-l=p*k
variable {l:Int}
theorem Eu.step {m r s ls:Int}(h:Eu m p r s l ls)(h1:r≠1):Eu m p (l-l.fdiv r*r) (ls-l.fdiv r*s) r s/\(l-l.fdiv r*r).toNat<r.toNat:=by
 obtain⟨r0,rl,lp,g,⟨k1,e1⟩,⟨k2,e2⟩⟩:=h
 have em:l-l.fdiv r*r=l.fmod r:=by rw[Int.fmod_def,CB]
 have a:=Ig l r0;have b:=tH l r0
 have gg:Int.gcd r (l.fmod r)=1:=by rw[lC,g]
 have nz:l.fmod r≠0:=by
  intro z;rw[z] at gg;simp at gg;omega
 rw[em];refine⟨⟨by omega,a,by omega,gg,⟨k2-l.fdiv r*k1,?_⟩,⟨k1,e1⟩⟩,by omega⟩;rw[<-em];generalize l.fdiv r=q
 have:(ls-q*s)*m-(l-q*r)=(ls*m-l)-q*(s*m-r):=by
  rw[Int.sub_mul,Int.mul_sub,sv];omega
 rw[this,e1,e2,Int.mul_sub,Int.mul_left_comm]
theorem Eu.fin {m s ls:Int}(h:Eu m p 1 s l ls)(hp:2<=p):0<=s%p/\s%p<p/\(s%p*m)%p=1:=by
 obtain⟨_,_,_,_,⟨k1,e1⟩,_⟩:=h;refine⟨Em _ (by omega),IT _ (by omega),?_⟩
 have e:s*m=p*k1+1:=by omega
 rw[Int.mul_emod,Int.emod_emod,<-Int.mul_emod,e,Int.mul_add_emod_self_left];exact qM (by omega) (by omega)
noncomputable abbrev acY:List Str:=["number","prime","rest","share","last","last_share","many"]
theorem eE:Ii acY ["number","prime"] (ar rp):=fu (by decide +kernel)
theorem ac1 (F:Fe K "inverse" "inverse" rp f fd):Ey P w K mg base (bZ P w) 1 f fd ["number","prime"] GB:=by
 refine F.okN eE (λvs H Q E h=>?_) (λIZ A outer s H vs Q E hr h=>?_)
 ·obtain⟨a,b,rfl,_⟩:=h;rfl
 ·obtain⟨m,p,rfl,hp,hm,q⟩:=h;have ON:=dC hp
  refine⟨_,ai (je (i:=2) (j:=3) rfl eE.nd rfl rfl (by decide) rfl rfl (ao (aD cU (pv 0) (pv 1)) (ao aj ah)) rfl)
   (ai (je (i:=4) (j:=5) rfl eE.nd rfl rfl (by decide) rfl rfl (ao (pv 1) (ao aj ah)) rfl)
   (ai (lR uy (aK g9 (pv 2) aj (aJ _))
    (ai (aM (i:=6) eE.nd rfl (Or.inl rfl) (aD fH (pv 4) (pv 2)))
    (ai (je (i:=4) (j:=2) rfl eE.nd rfl rfl (by decide) rfl rfl (ao (pv 2) (ao (aD lU (pv 4) (aD dA (pv 6) (pv 2))) ah)) rfl)
    (av (je (i:=5) (j:=3) rfl eE.nd rfl rfl (by decide) rfl rfl (ao (pv 3) (ao (aD lU (pv 5) (aD dA (pv 6) (pv 3))) ah)) rfl)))))
   (av (aB (aD cU (pv 3) (pv 1)))))),?_⟩
  refine⟨_,rfl,_,rfl,_,_,rfl,rfl,(by show(0:Int)<p;omega),_,_,rfl,?_⟩;refine⟨_,rfl,_,_,rfl,?_⟩;have r0:0<=m%p:=Em _ (by omega);have r1:m%p<p:=IT _ (by omega)
  have E0:Eu m p (m%p) 1 p 0:=by
   refine⟨by omega,r1,Hr _,acV hp (by omega) r1,⟨m/p,?_⟩,⟨-1,by omega⟩⟩;have:=Int.emod_add_mul_ediv m p;omega
  refine⟨λn σ H'=>∃(r s l ls:Int)(o:Option V),σ=[some (.int m),some (.int p),some (.int r),some (.int s),some (.int l),some (.int ls),o]/\H'=H/\n=r.toNat/\Eu m p r s l ls,⟨_,_,_,_,_,_,rfl,rfl,rfl,E0⟩,?_⟩;rintro n σ H' ⟨r,s,l,ls,o,rfl,rfl,rfl,E⟩;refine⟨_,rfl,rfl,_,rfl,?_⟩;refine cT (λh=>?_) (λh=>?_)
  ·have Jr:r≠1:=by simpa using h
   obtain⟨E',lt⟩:=E.step Jr;have e0:=E.r0;have e1:=E.rl;have e2:=E.lp;have q0:0<=l.fdiv r:=Int.fdiv_nonneg (by omega) (by omega)
   have q1:l.fdiv r<=l:=by
    rw[Int.fdiv_eq_ediv_of_nonneg _ (by omega)];exact Int.ediv_le_self _ (by omega)
   refine⟨λσ' KY=>∃(r' s' l' TF:Int)(o:Option V),σ'=[some (.int m),some (.int p),some (.int r'),some (.int s'),some (.int l'),some (.int TF),o]/\KY=H'/\r'.toNat<r.toNat/\Eu m p r' s' l' TF,λσ' KY ⟨r',s',l',TF,o',z1,z2,z3,z4⟩=>⟨_,z3,r',s',l',TF,o',z1,z2,rfl,z4⟩,?_⟩;refine⟨_,rfl,_,rfl,_,_,rfl,rfl,⟨by omega,?_⟩,?_⟩
   ·have:r.natAbs<2^7:=by omega
    exact(show B 7 r from this).mono (by decide)
   ·refine⟨_,rfl,_,rfl,_,rfl,_,rfl,_,_,rfl,rfl,.inl ⟨by omega,by omega⟩,_,_,rfl,rfl,_,_,rfl,?_⟩;refine⟨_,rfl,_,rfl,_,rfl,_,rfl,_,_,rfl,rfl,.inl ⟨by omega,by omega⟩,_,_,rfl,rfl,_,_,rfl,?_⟩;exact⟨_,_,_,_,_,rfl,rfl,lt,E'⟩
  ·have Jr:r=1:=by simpa using h
   subst Jr;obtain⟨f0,f1,f2⟩:=E.fin ON.1;exact⟨_,rfl,_,rfl,_,_,rfl,rfl,(by show(0:Int)<p;omega),q _ f0 f1 f2⟩
noncomputable abbrev yu:Stmt:=(aZ 12)
noncomputable abbrev yW:Stmt:=aQ (aZ 38) 0
inductive Th (H:Hp):V->String->Prop where
 |non:Th H .non "NoneType"
 |bl (b:Bool):Th H (.bl b) "bool"
 |int (i:Int):Th H (.int i) "int"
 |str (x:Str):Th H (.str x) "str"
 |lst {a:Addr}{xs:List V}(e:H a=some (.lst xs)):Th H (.ref a) "list"
 |tup {a:Addr}{xs:List V}(e:H a=some (.tup xs)):Th H (.ref a) "tuple"
 |dK {a:Addr}{IY:List (Key×V)}(e:H a=some (.dK IY)):Th H (.ref a) "dict"
variable {K:Frag}{H:Hp}{x:V}
theorem Th.ty {T:String}(h:Th H x T):tZ K H x (.type T):=by
 cases h with
 |non=>exact .of .non
 |bl b=>exact .of (.bl b)
 |int i=>exact .of (.int i)
 |str x=>exact .of (.str x)
 |lst e=>exact .of (.lst e)
 |tup e=>exact .of (.tup e)
 |dK e=>exact .of (.dK e)
noncomputable def dk:V->Bool
 | .int _=>true
 |_=>false
noncomputable def F8:V->Bool
 | .int _=>true
 | .bl _=>true
 |_=>false
theorem Th.isInt {T:String}(h:Th H x T):kitOne K (.type T) (.type "int")=some (F8 x):=by cases h <;> rfl
theorem Th.isBool {T:String}(h:Th H x T)(hi:F8 x=true):kitOne K (.type T) (.type "bool")=some (!dk x):=by
 cases h with
 |int i=>rfl
 |bl b=>rfl
 |_=>cases hi
noncomputable def wU:Sp:=λvs H Q _=>∃x T,vs=[x]/\Th H x T/\Q (.bl (dk x)) H
structure A1 (mg:Fj):Prop where
 isi:mg "isinstance"=none
 int:mg "int"=none
 bool:mg "bool"=none
theorem ac7:Ii G6 G6 (ar yu):=fu (by decide +kernel)
theorem ac9 (F:Fe K "is_whole" "is_whole" yu f fd)(n:A1 mg):Ey P w K mg base (bZ P w) 1 f fd G6 wU:=by
 refine F.okN ac7 (λvs H Q E h=>?_) (λIZ A outer s H vs Q E hr h=>?_)
 ·obtain⟨x,T,rfl,_⟩:=h;rfl
 ·obtain⟨x,T,rfl,th,q⟩:=h
  refine⟨_,av (aB (eI (aI aY (by rfl) n.isi (by rfl) (aX (pv 0) (aX (eX (by rfl) n.int (by rfl) (show aE (.ty "int") (.type "int") from rfl)) ah)))
   (gJ (afY (aI aY (by rfl) n.isi (by rfl) (aX (pv 0) (aX (eX (by rfl) n.bool (by rfl) (show aE (.ty "bool") (.type "bool") from rfl)) ah))))))),?_⟩
  refine⟨_,rfl,x,.ty "int",_,_,_,rfl,rfl,th.ty,th.isInt,_,rfl,?_⟩;refine cT (λhi=>?_) (λhi=>?_)
  ·refine⟨_,rfl,x,.ty "bool",_,_,_,rfl,rfl,th.ty,th.isBool hi,_,rfl,?_⟩;simpa using q
  ·have e:dk x=false:=by
    cases th <;> first|rfl|exact absurd rfl hi
   rw[e] at q;exact q
noncomputable def jD (i:Int):Bool:=i==0 || tO.any λp=>p==i
noncomputable def good:V->Bool
 | .int i=>jD i
 |_=>false
noncomputable def eT (i:Int):List (Str×V):=[("its_prime",.int i)]
noncomputable def sJ (C NF:Addr):Sp:=λvs H Q E=>∃(p dx:Addr)(x:V)(T:String),vs=[.ref p,x]/\Th H x T/\H p=some (.ins C dx [])/\(good x=true->Q .non (upd H p (.ins C dx [("its_prime",x)])))/\(good x=false->E (.ref NF) none H)
structure xi (K:Frag)(mg:Fj)(C:Addr):Prop where
 cl:GW K C
 nP:eN K C "its_prime"
 mgC:mg "Field"=some (.ref C)
 isC:((clsIn K C).isSome&&typeIn K (.ref C)==some (.type "type"))=true
 ca:findIn K (.ref C) "__class__"=some (some (.builtin "object.__class__"))
 sp:specialIn K (.builtin "object.__class__") "__get__"=some (some (.builtin "getset_descriptor.__get__"))
 tk:takesIn K (.builtin "object.__class__")=some true
 ob:mroIn K C (.type "object")=some true
variable {mg:Fj}{C:Addr}
theorem xi.ty (c:xi K mg C){p dx:Addr}{fs:List (Str×V)}(e:H p=some (.ins C dx fs)):tZ K H (.ref p) (.ref C):=.of (.ins e c.cl c.ca c.sp c.tk c.ob)
theorem xi.is (c:xi K mg C):kitOne K (.ref C) (.ref C)=some true:=by
 unfold kitOne;rw[oO (by simp)]
theorem xi.no (c:xi K mg C){T:String}(h:Th H x T):kitOne K (.type T) (.ref C)=some false:=by
 show(if(Value.type T==Value.ref C)=true then some true else(if((clsIn K C).isSome&&typeIn K (.ref C)==some (.type "type"))=true then subIn K (.type T) (.ref C) else none))=some false;rw[DW (by intro z;cases Eg.mp z),oO c.isC]
 cases h <;> rfl
theorem mH (i:Int):FH (.int i) (tO.map V.int)=tO.any λp=>p==i:=by
 unfold FH;rw[List.any_map];rfl
theorem adm:Ii FY FY (ar yW):=fu (by decide +kernel)
variable {tF:Tok}
theorem adN {NF aP T:Addr}(F:uv K "__init__" "Field.__init__" yW f fd T)(c:xi K mg C)(q0:Ca P w K mg base 1 G6 "is_whole" wU)
 (mF:mg "FRACTIONS"=some (.int 0 tF))(mP:mg "PRIMES"=some (.ref aP))(hP:∀H:Hp,a7 K H aP (tO.map V.int))(mN:mg "NoField"=some (.ref NF))(qN:jT K NF Bf mZ=true):Ey P w K mg base (bZ P w) 2 f fd FY (sJ C NF):=by
 obtain⟨fw,Vi,FW,bW,mW,kW⟩:=q0;refine F.okE adm (λvs H Q E h=>?_) (λIZ A outer s H vs Q E hr h=>?_)
 ·obtain⟨p,dx,x,T,rfl,_⟩:=h;rfl
 ·obtain⟨p,dx,x,T,rfl,th,hp,hq,hE⟩:=h
  refine⟨_,ai (bf (PW.pt (iY (cy (cI (aA FW hr (by rfl) mW kW bW .nil af (aX (pv 1) ah))))
   (fV (PW.pt (y3 (aK g9 (pv 1) (cG (by rfl) mF (show aE (.int 0) (.int 0 tF) from⟨_,rfl⟩)) (aJ _)) (vJ (aK abL (pv 1) (cG (by rfl) mP (show aE (.ref aP) (.ref aP) from rfl)) (by rfl))))))))
   (av (dU Bq qN rfl cB (by rfl) mN (aX cN ah))) aH)
   (av (oQ (pv 0) (pv 1) rfl)),?_⟩
  have fin:good x=true->∃(a C' Qb:Addr)(fs:List (Str×V)),V.ref p=.ref a/\H a=some (.ins C' Qb fs)/\GW K C'/\eN K C' "its_prime"/\fs.length<1000/\Q .non (upd H a (.ins C' Qb (dQ "its_prime" x fs))):=λg=>⟨p,C,dx,[],rfl,hp,c.cl,c.nP,by decide,hq g⟩;refine⟨_,rfl,x,T,rfl,th,_,rfl,?_⟩
  cases th with
  |int i =>
   refine bX ?_;refine⟨_,rfl,rfl,_,rfl,?_⟩;refine cT (λh0=>?_) (λh0=>?_)
   ·refine⟨_,rfl,aP,_,rfl,.inr (hP _),rfl,rfl,_,rfl,?_⟩;refine cT (λh1=>?_) (λh1=>?_)
    ·refine⟨by decide,hE ?_⟩
     have e1:¬i=0:=by simpa using h0
     have e2:FH (.int i) (tO.map V.int)=false:=by simpa using h1
     rw[mH] at e2;show jD i=false;unfold jD;rw[e2];simpa using e1
    ·have e2:FH (.int i) (tO.map V.int)=true:=by simpa using h1
     rw[mH] at e2;exact⟨_,rfl,_,rfl,fin (by show jD i=true;unfold jD;rw[e2];simp)⟩
   ·have e1:i=0:=by simpa using h0
    exact bX ⟨_,rfl,_,rfl,fin (by show jD i=true;rw[e1];rfl)⟩
  |_=>exact cm (cm ⟨by decide,hE rfl⟩)
noncomputable abbrev Dp:Stmt:=aQ (aZ 38) 5
noncomputable abbrev Do:Stmt:=aQ (aZ 38) 6
noncomputable abbrev zj:Stmt:=aQ (aZ 38) 8
noncomputable abbrev p9:Stmt:=aQ (aZ 38) 10
noncomputable def FP (p:Int):Prop:=p=0\/p∈tO
theorem FP.nn (h:FP p):0<=p:=by
 rcases h with h|h
 ·omega
 ·have:=dC h;omega
theorem FP.two (h:FP p)(z:p≠0):p∈tO/\2<=p/\p<=97:=by
 rcases h with h|h
 ·exact absurd h z
 ·exact⟨h,dC h⟩
noncomputable def sj (C NN:Addr):Sp:=λvs H Q E=>∃(s dx:Addr)(p t b:Int),vs=[.ref s,.int t,.int b]/\H s=some (.ins C dx (eT p))/\FP p/\B 9000 b /\
 (p=0->b=0->E (.ref NN) none H)/\(p=0->b≠0->∀a,H a=none->Q (.ref a) (upd H a (bK (dq t b) (cz t b)))) /\
 (p≠0->b%p=0->E (.ref NN) none H)/\(p≠0->b%p≠0->∀v,0<=v->v<p->(v*b)%p=1->∀a,H a=none->Q (.ref a) (upd H a (bK (t*v%p) 1)))
noncomputable def jy (C:Addr):Sp:=λvs H Q _=>∃(s dx:Addr)(p t b:Int),vs=[.ref s,.int t,.int b]/\H s=some (.ins C dx (eT p))/\FP p/\B 9000 b/\b≠0/\∀a,H a=none->Q (.ref a) (upd H a (bK (dj p t b) (dM p t b)))
noncomputable def qA (C:Addr)(g:Int->Int->Int->Int->Int):Sp:=λvs H Q _=>∃(s dx a1 a2:Addr)(p t1 b1 t2 b2:Int),vs=[.ref s,.ref a1,.ref a2]/\H s=some (.ins C dx (eT p))/\FP p/\H a1=some (bK t1 b1)/\H a2=some (bK t2 b2) /\
 B 4000 t1/\B 4000 b1/\B 4000 t2/\B 4000 b2/\b1≠0/\b2≠0/\∀a,H a=none->Q (.ref a) (upd H a (bK (dj p (g t1 b1 t2 b2) (b1*b2)) (dM p (g t1 b1 t2 b2) (b1*b2))))
noncomputable def mh (t1 b1 t2 b2:Int):Int:=t1*b2+t2*b1
noncomputable def ir (t1 b1 t2 b2:Int):Int:=t1*t2
theorem adO:Ii DZ DZ (ar Dp):=fu (by decide +kernel)
theorem ad4 {NN:Addr}(F:Fe K "quotient" "Field.quotient" Dp f fd)(c:xi K mg C)(mF:mg "FRACTIONS"=some (.int 0 tF))(mN:mg "NoNumber"=some (.ref NN))(qN:jT K NN Bf mZ=true)
 (q0:Ca P w K mg base 2 GS "lowest" xy)
 (q1:Ca P w K mg base 1 ["number","prime"] "inverse" GB):
 Ey P w K mg base (bZ P w) 3 f fd DZ (sj C NN):=by
 obtain⟨fl,MK,FL,bL,mL,kL⟩:=q0;obtain⟨fv,fdv,FV,bV,mV,kV⟩:=q1;refine F.okE adO (λvs H Q E h=>?_) (λIZ A outer s H vs Q E hr h=>?_)
 ·obtain⟨s,dx,p,t,b,rfl,_⟩:=h;rfl
 ·obtain⟨s,dx,p,t,b,rfl,hs,hp,hB,q1,q2,q3,q4⟩:=h;have Jr:Hz 1 _:=hr.mono (by decide)
  refine⟨_,ai (bf (aK eQ (br (pv 0) rfl) (cG (by rfl) mF (show aE (.int 0) (.int 0 tF) from⟨_,rfl⟩)) (aJ _))
   (ai (bf (aK eQ (pv 2) aj (aJ _)) (av (dU Bq qN rfl cB (by rfl) mN (ao cN ah))) aH)
   (av (aB (aA FL hr (by rfl) mL kL bL .nil af (ao (pv 1) (ao (pv 2) ah)))))) aH)
   (ai (bf (aK eQ (aD cU (pv 2) (br (pv 0) rfl)) aj (aJ _)) (av (dU Bq qN rfl cB (by rfl) mN (ao cN ah))) aH)
   (av (aB (bw (ao (aD cU (aD dA (pv 1) (aA FV Jr (by rfl) mV kV bV .nil af (ao (pv 2) (ao (br (pv 0) rfl) ah)))) (br (pv 0) rfl)) (ao aj ah)))))),?_⟩
  refine⟨_,rfl,s,C,dx,_,_,rfl,hs,c.cl,c.nP,rfl,rfl,_,rfl,?_⟩;refine cT (λh=>?_) (λh=>?_)
  ·have Jx:p=0:=by simpa using h
   refine⟨_,rfl,rfl,_,rfl,?_⟩;refine cT (λh2=>?_) (λh2=>?_)
   ·have hb:b=0:=by simpa using h2
    exact⟨by decide,q1 Jx hb⟩
   ·have hb:b≠0:=by simpa using h2
    exact⟨_,rfl,_,rfl,t,b,rfl,hb,hB,q2 Jx hb⟩
  ·have Jx:p≠0:=by simpa using h
   obtain⟨Qc,p2,Qd⟩:=hp.two Jx;refine⟨_,rfl,_,rfl,s,C,dx,_,_,rfl,hs,c.cl,c.nP,rfl,_,_,rfl,rfl,(by show(0:Int)<p;omega),rfl,_,rfl,?_⟩;refine cT (λh2=>?_) (λh2=>?_)
   ·have hb:b%p=0:=by simpa using h2
    exact⟨by decide,q3 Jx hb⟩
   ·have hb:b%p≠0:=by simpa using h2
    refine⟨_,rfl,_,rfl,_,rfl,s,C,dx,_,_,rfl,hs,c.cl,c.nP,rfl,b,p,rfl,Qc,hb,λv v0 v1 v2=>?_⟩;refine⟨_,_,rfl,rfl,.inr ⟨by omega,by omega⟩,_,rfl,s,C,dx,_,_,rfl,hs,c.cl,c.nP,rfl,_,_,rfl,rfl,(by show(0:Int)<p;omega),jP,λa ha=>q4 Jx hb v v0 v1 v2 a ha⟩
theorem ae8:Ii DZ DZ (ar p9):=fu (by decide +kernel)
theorem Sig (F:Fe K "settled" "Field.settled" p9 f fd)(c:xi K mg C)(mF:mg "FRACTIONS"=some (.int 0 tF))
 (q0:Ca P w K mg base 2 GS "lowest" xy):
 Ey P w K mg base (bZ P w) 3 f fd DZ (jy C):=by
 obtain⟨fl,MK,FL,bL,mL,kL⟩:=q0;refine F.okN ae8 (λvs H Q E h=>?_) (λIZ A outer s H vs Q E hr h=>?_)
 ·obtain⟨s,dx,p,t,b,rfl,_⟩:=h;rfl
 ·obtain⟨s,dx,p,t,b,rfl,hs,hp,hB,hb,q⟩:=h
  refine⟨_,ai (bf (aK eQ (br (pv 0) rfl) (cG (by rfl) mF (show aE (.int 0) (.int 0 tF) from⟨_,rfl⟩)) (aJ _))
   (av (aB (aA FL hr (by rfl) mL kL bL .nil af (ao (pv 1) (ao (pv 2) ah))))) aH)
   (av (aB (bw (ao (aD cU (pv 1) (br (pv 0) rfl)) (ao aj ah))))),?_⟩
  refine⟨_,rfl,s,C,dx,_,_,rfl,hs,c.cl,c.nP,rfl,rfl,_,rfl,?_⟩;refine cT (λh=>?_) (λh=>?_)
  ·have Jx:p=0:=by simpa using h
   refine⟨_,rfl,_,rfl,t,b,rfl,hb,hB,λa ha=>?_⟩;have y:=q a ha;unfold dj dM at y;rw[oO Jx,oO Jx] at y;exact y
  ·have Jx:p≠0:=by simpa using h
   obtain⟨Qc,p2,Qd⟩:=hp.two Jx;refine⟨_,rfl,_,rfl,s,C,dx,_,_,rfl,hs,c.cl,c.nP,rfl,_,_,rfl,rfl,(by show(0:Int)<p;omega),jP,λa ha=>?_⟩;have y:=q a ha;unfold dj dM at y;rw[DW Jx,DW Jx] at y;exact y
theorem a0 (x y:V):p7 [x,y] 0=some x:=rfl
theorem a1 (x y:V):p7 [x,y] 1=some y:=rfl
theorem agO:Ii rE rE (ar Do):=fu (by decide +kernel)
variable {b:Int}
theorem oV {a:Int}(h:a≠0)(k:b≠0):a*b≠0:=Bh h k
theorem aib (F:Fe K "plus" "Field.plus" Do f fd)(c:xi K mg C)(q0:Cm P w K mg base 3 DZ C "settled" (jy C)):
 Ey P w K mg base (bZ P w) 4 f fd rE (qA C mh):=by
 obtain⟨fs,YR,FS,bS,mS⟩:=q0;refine F.okN agO (λvs H Q E h=>?_) (λIZ A outer s H vs Q E hr h=>?_)
 ·obtain⟨s,dx,a1,a2,p,t1,b1,t2,b2,rfl,_⟩:=h;rfl
 ·obtain⟨s,dx,x1,x2,p,t1,b1,t2,b2,rfl,hs,hp,h1,h2,B1,B2,B3,B4,n1,n2,q⟩:=h;refine⟨_,av (aB (bU (pv 0) c.cl mS FS hr bS .nil af (ao (aD cJ (aD dI (aV bx (pv 1) aj (λ_ _=>rfl)) (aV bx (pv 2) aj (λ_ _=>rfl))) (aD dI (aV bx (pv 2) aj (λ_ _=>rfl)) (aV bx (pv 1) aj (λ_ _=>rfl)))) (ao (aD dI (aV bx (pv 1) aj (λ_ _=>rfl)) (aV bx (pv 2) aj (λ_ _=>rfl))) ah)))),?_⟩;refine⟨_,rfl,s,dx,_,rfl,hs,rfl,?_⟩;refine⟨_,rfl,x1,_,0,_,rfl,rfl,a7.of h1,a0 _ _,_,rfl,x2,_,1,_,rfl,rfl,a7.of h2,a1 _ _,_,_,rfl,rfl,⟨B1.mono (by decide),B4.mono (by decide)⟩,?_⟩;refine⟨_,rfl,x2,_,0,_,rfl,rfl,a7.of h2,a0 _ _,_,rfl,x1,_,1,_,rfl,rfl,a7.of h1,a1 _ _,_,_,rfl,rfl,⟨B3.mono (by decide),B2.mono (by decide)⟩,_,_,rfl,rfl,?_⟩;refine⟨_,rfl,x1,_,1,_,rfl,rfl,a7.of h1,a1 _ _,_,rfl,x2,_,1,_,rfl,rfl,a7.of h2,a1 _ _,_,_,rfl,rfl,⟨B2.mono (by decide),B4.mono (by decide)⟩,?_⟩;exact⟨s,dx,p,_,_,rfl,hs,hp,(B2.mul B4).mono (by decide),oV n1 n2,q⟩
noncomputable abbrev Dj:Stmt:=(aZ 40)
noncomputable abbrev Dg:Stmt:=(aZ 41)
noncomputable abbrev C4:Stmt:=(aZ 42)
noncomputable abbrev C1:Stmt:=(aZ 43)
noncomputable abbrev AS:Stmt:=(aZ 44)
theorem aq {a:Addr}{o:HO}(h:H a=none):ay H (upd H a o):=λb u e=>by rw[au (ax e h)];exact e
noncomputable def zP (K:PySem.W.Frag):Sp:=λvs H Q _=>∃(a:Addr)(ns:List Int)(k:Int),vs=[.ref a,.int k]/\aW K H a (ns.map V.int)/\ns.length<=63/\0<=k/\k<=63 /\
 ∀(p:Addr)(l r:Int),H p=none->0<=r->r<2147483647->Q (.ref p) (upd H p (.lst [.int l,.int r]))
noncomputable def E1:Sp:=λvs H Q _=>∃(p:Addr)(l r m:Int),vs=[.ref p,.int m]/\H p=some (.lst [.int l,.int r])/\0<=r/\r<2147483647/\0<m/\m<18446744073709551616 /\
 ∀(z l' r':Int),0<=z->z<m->0<=r'->r'<2147483647->Q (.int z) (upd H p (.lst [.int l',.int r']))
variable {Q:VK}
theorem iL {k c:Int}{x:Option V}(Nu:0<=k)(Qe:k<=63)(q:∀(p:Addr)(l r:Int),H p=none->0<=r->r<2147483647->Q (.ref p) (upd H p (.lst [.int l,.int r]))):
 Gk (c5 (gU 3) (c5 (qe (rI (λ_ j=>0<j) λi j=>.int (i%j)) (qe (rI wV λi j=>.int (i*j)) (qe (Ak λi j=>.int (i+j)) (qe (Ak λi j=>.int (i+j)) (qe (rI (λ_ j=>0<j) λi j=>.int (i%j)) (gU 2) (tC (.int 2147483629)))
  (qe (rI wV λi j=>.int (i*j)) (qe (rI wV λi j=>.int (i*j)) (tC (.int 104729)) (gU 1)) (gU 1))) (tC (.int 7))) (tC (.int 48271))) (tC (.int 2147483647))) Ct)) [x,some (.int k),some (.int c),some (.int l)] H Q:=by
 have h1:(0:Int)<=104729*k:=by omega
 have h2:104729*k<=6597927:=by omega
 refine⟨_,rfl,_,rfl,_,_,rfl,rfl,(by show(0:Int)<2147483629;decide),_,rfl,_,_,rfl,rfl,.inl ⟨by decide,by decide⟩,_,rfl,_,_,rfl,rfl,.inl ⟨by omega,by omega⟩,_,_,rfl,rfl,_,_,rfl,rfl,_,_,rfl,rfl,.inr ⟨by decide,by decide⟩,_,_,rfl,rfl,(by show(0:Int)<2147483647;decide),jP,λp hp=>?_⟩;exact q p _ _ hp (Em _ (by decide)) (IT _ (by decide))
theorem kR:Ii ["_law_script","_law_k","_law_cell","_law_left"] E8 (ar Dj):=fu (by decide +kernel)
theorem agC (F:Fe K "_law_room" "_law_room" Dj f fd)(hlen:mg "len"=none):Ey P w K mg base (bZ P w) 1 f fd E8 (zP K):=by
 refine F.okN kR (λvs H Q E h=>?_) (λIZ A outer s H vs Q E hr h=>?_)
 ·obtain⟨a,ns,k,rfl,_⟩:=h;rfl
 ·obtain⟨a,ns,k,rfl,hS,hn,Nu,Qe,q⟩:=h
  refine⟨_,ai (aM (i:=2) kR.nd rfl (Or.inl rfl) aj)
   (ai (bf (aK kr (pv 1) (aI b9 (by rfl) hlen Gm (aX (pv 0) ah)) (aJ _))
    (av (aM (i:=2) kR.nd rfl (Or.inl rfl) (aV bz (pv 0) (pv 1) (λ_ _=>rfl)))) aH)
   (ai (aM (i:=3) kR.nd rfl (Or.inl rfl) aj)
   (ai (bf (aK DA (pv 2) (aD jl aj aj) (aJ _)) (av (aM (i:=3) kR.nd rfl (Or.inl rfl) (pv 2))) aH)
   (av (aB (cq (aX (pv 3) (aX
    (aD cU (aD dA (aD cJ (aD cJ (aD cU (pv 2) aj) (aD dA (aD dA aj (pv 1)) (pv 1))) aj) aj) aj) ah)))))))),?_⟩
  refine⟨_,rfl,_,rfl,a,_,rfl,.inl hS,_,_,rfl,rfl,_,rfl,?_⟩;refine cT (λh=>?_) (λh=>?_)
  ·have Jb:k.toNat<ns.length:=by
    have h1:=GR h;rw[wC] at h1;omega
   obtain⟨c,hc⟩:∃c,p7 (ns.map V.int) k=some (V.int c):=by
    refine⟨ns[k.toNat],?_⟩
    have e:((k.toNat:Nat):Int)=k:=by omega
    have z:=gN (xs:=ns.map V.int) (j:=k.toNat) (v:=V.int ns[k.toNat]) (by rw[BC];simp[Jb]);rw[e] at z;exact z
   refine⟨_,rfl,_,rfl,a,_,k,_,rfl,rfl,hS,hc,?_⟩;refine⟨_,rfl,_,_,rfl,rfl,⟨by decide,by decide,by decide⟩,_,_,rfl,rfl,_,rfl,?_⟩;refine cT (λh2=>?_) (λh2=>?_)
   ·exact⟨_,rfl,iL Nu Qe q⟩
   ·exact iL Nu Qe q
  ·refine⟨_,rfl,_,_,rfl,rfl,⟨by decide,by decide,by decide⟩,_,_,rfl,rfl,_,rfl,?_⟩;refine cT (λh2=>?_) (λh2=>?_)
   ·exact⟨_,rfl,iL Nu Qe q⟩
   ·exact iL Nu Qe q
theorem oI:Ii ["_law_room_here","_law_many","_law_found"] jN (ar Dg):=fu (by decide +kernel)
theorem agD (F:Fe K "_law_take" "_law_take" Dg f fd):Ey P w K mg base (bZ P w) 1 f fd jN E1:=by
 refine F.okN oI (λvs H Q E h=>?_) (λIZ A outer s H vs Q E hr h=>?_)
 ·obtain⟨p,l,r,m,rfl,_⟩:=h;rfl
 ·obtain⟨p,l,r,m,rfl,hp,TH,Jr,NG,hm1,q⟩:=h
  refine⟨_,ai (bf (aK vi (aV bz (pv 0) aj (λ_ _=>rfl)) aj (aJ _))
   (ai (aM (i:=2) oI.nd rfl (Or.inl rfl) (aD cU (aV bz (pv 0) aj (λ_ _=>rfl)) (pv 1)))
   (ai (pJ (aD fH (aV bz (pv 0) aj (λ_ _=>rfl)) (pv 1)) (uA (pv 0) aj mD))
   (av (aB (pv 2))))) aH)
   (ai (pJ (aD cU (aD cJ (aD dA (aV bz (pv 0) aj (λ_ _=>rfl)) aj) aj) aj) (uA (pv 0) aj mD))
   (ai (aM (i:=2) oI.nd rfl (Or.inl rfl) (aD aa4 (aD cU (aD dA (aV bz (pv 0) aj (λ_ _=>rfl)) (aV bz (pv 0) aj (λ_ _=>rfl))) aj) aj))
   (ai (bf (aK vi (pv 1) (aD jl aj aj) (aJ _))
    (ai (pJ (aD cU (aD cJ (aD dA (aV bz (pv 0) aj (λ_ _=>rfl)) aj) aj) aj) (uA (pv 0) aj mD))
    (av (aM (i:=2) oI.nd rfl (Or.inl rfl) (aD cJ (aD dA (pv 2) aj) (aD cU (aD dA (aV bz (pv 0) aj (λ_ _=>rfl)) (aV bz (pv 0) aj (λ_ _=>rfl))) aj))))) aH)
   (av (aB (aD cU (pv 2) (pv 1))))))),?_⟩
  have i0:∀x y:V,p7 [x,y] 0=some x:=λ_ _=>rfl;have i1:∀x y:V,p7 [x,y] 1=some y:=λ_ _=>rfl;have n0:Bc [V.int l,V.int r].length 0=some 0:=rfl;have n1:∀x y:V,Bc [x,y].length 1=some 1:=λ_ _=>rfl;refine⟨_,rfl,p,_,0,_,rfl,rfl,aW.of hp,i0 _ _,_,_,rfl,rfl,_,rfl,?_⟩;refine cT (λh=>?_) (λh=>?_)
  ·refine⟨_,rfl,p,_,0,_,rfl,rfl,aW.of hp,i0 _ _,_,rfl,_,_,rfl,rfl,NG,?_⟩;refine⟨_,rfl,p,_,0,_,rfl,rfl,aW.of hp,i0 _ _,_,rfl,_,_,rfl,rfl,⟨by omega,(show B 64 m from(by show m.natAbs<2^64;omega)).mono (by decide)⟩,_,rfl,p,_,0,0,rfl,rfl,hp,n0,?_⟩;exact⟨_,rfl,q _ _ _ (Em _ (by omega)) (IT _ NG) TH Jr⟩
  ·have e1:∀t:Int,0<=t%2147483647/\t%2147483647<2147483647:=λt=>⟨Em _ (by decide),IT _ (by decide)⟩;refine⟨_,rfl,p,_,1,_,rfl,rfl,aW.of hp,i1 _ _,_,_,rfl,rfl,.inl ⟨by omega,by omega⟩,_,_,rfl,rfl,_,_,rfl,rfl,(by show(0:Int)<2147483647;decide),_,rfl,p,_,1,1,rfl,rfl,hp,n1 _ _,?_⟩;refine⟨_,rfl,p,_,1,_,rfl,rfl,aW.of ae,i1 _ _,_,rfl,p,_,1,_,rfl,rfl,aW.of ae,i1 _ _,_,_,rfl,rfl,.inl ⟨by omega,by omega⟩,_,_,rfl,rfl,(by show(0:Int)<2147483629;decide),_,_,rfl,rfl,⟨by decide,by decide⟩,?_⟩;refine⟨_,rfl,_,_,rfl,rfl,⟨by decide,by decide,by decide⟩,_,_,rfl,rfl,_,rfl,?_⟩;refine cT (λh2=>?_) (λh2=>?_)
   ·refine⟨_,rfl,p,_,1,_,rfl,rfl,aW.of ae,i1 _ _,_,_,rfl,rfl,.inl ⟨by omega,by omega⟩,_,_,rfl,rfl,_,_,rfl,rfl,(by show(0:Int)<2147483647;decide),_,rfl,p,_,1,1,rfl,rfl,ae,n1 _ _,?_⟩;rw[vV];refine⟨_,rfl,_,_,rfl,rfl,.inr ⟨by decide,by decide⟩,_,rfl,p,_,1,_,rfl,rfl,aW.of ae,i1 _ _,_,rfl,p,_,1,_,rfl,rfl,aW.of ae,i1 _ _,_,_,rfl,rfl,.inl ⟨by omega,by omega⟩,_,_,rfl,rfl,(by show(0:Int)<2147483587;decide),_,_,rfl,rfl,?_⟩;exact⟨_,rfl,_,rfl,_,_,rfl,rfl,NG,q _ _ _ (Em _ (by omega)) (IT _ NG) (e1 _).1 (e1 _).2⟩
   ·exact⟨_,rfl,_,rfl,_,_,rfl,rfl,NG,q _ _ _ (Em _ (by omega)) (IT _ NG) (e1 _).1 (e1 _).2⟩
noncomputable def F7 (H:Hp)(Q:VK)(t b:Int):Prop:=∀(H':Hp)(a:Addr),ay H H'->H' a=some (bK t b)->Q (.ref a) H'
theorem F7.of {H':Hp}{t:Int}(q:F7 H Q t b)(S:ay H H'):∀a,H' a=none->Q (.ref a) (upd H' a (bK t b)):=λa ha=>q _ a (S.trans (aq ha)) ae
noncomputable def Eo:Sp:=λvs H Q _=>∃t b:Int,vs=[.int t,.int b]/\b≠0/\B 9000 b/\B 9000 t/\F7 H Q (dq t b) (cz t b)
noncomputable def xa:Sp:=λvs H Q _=>∃p t b:Int,vs=[.int p,.int t,.int b]/\FP p/\b≠0/\B 9000 b/\B 9000 t/\(p≠0->b=1)/\F7 H Q (dj p t b) (dM p t b)
noncomputable def pA (g:Int->Int->Int->Int->Int):Sp:=λvs H Q _=>∃(p t1 b1 t2 b2:Int)(a1 a2:Addr),vs=[.int p,.ref a1,.ref a2]/\FP p/\H a1=some (bK t1 b1)/\H a2=some (bK t2 b2)/\B 4000 t1/\B 4000 b1/\B 4000 t2/\B 4000 b2/\b1≠0/\b2≠0/\(p≠0->b1*b2=1) /\
 F7 H Q (dj p (g t1 b1 t2 b2) (b1*b2)) (dM p (g t1 b1 t2 b2) (b1*b2))
noncomputable abbrev abG:List Str:=["_law_top","_law_bottom","_law_one","_law_other","_law_sign"]
theorem mE:Ii abG Am (ar C4):=fu (by decide +kernel)
theorem Dm (c:Int):(if c<0 then -c else c)=ab c:=rfl
theorem ab0 (F:Fe K "_law_lowest" "_law_lowest" C4 f fd)(mA:mg "abs"=none)(mI:mg "int"=none):Ey P w K mg base (bZ P w) 1 f fd Am Eo:=by
 refine F.okN mE (λvs H Q E h=>?_) (λIZ A outer s H vs Q E hr h=>?_)
 ·obtain⟨a,b,rfl,_⟩:=h;rfl
 ·obtain⟨t,b,rfl,hb,hB,hT,q⟩:=h
  refine⟨_,ai (aM (i:=2) mE.nd rfl (Or.inl rfl) (aI iT (by rfl) mA (by rfl) (ao (pv 0) ah)))
   (ai (aM (i:=3) mE.nd rfl (Or.inl rfl) (aI iT (by rfl) mA (by rfl) (ao (pv 1) ah)))
   (ai (lR uy (aK g9 (pv 3) aj (aJ _)) (av (je (i:=2) (j:=3) rfl mE.nd rfl rfl (by decide) rfl rfl (ao (pv 3) (ao (aD uU (pv 2) (pv 3)) ah)) rfl)))
   (ai (aM (i:=4) mE.nd rfl (Or.inl rfl) (aV bz (cq (ao aj (ao (vf oJ aj) ah))) (cX oq (by rfl) mI (by rfl) (ao (c7 kr (pv 1) aj (aJ _)) ah)) (λ_ _=>rfl)))
   (av (aB (bw (ao (aD fH (aD dA (pv 4) (pv 0)) (pv 2)) (ao (aD fH (aI iT (by rfl) mA (by rfl) (ao (pv 1) ah)) (pv 2)) ah)))))))),?_⟩
  refine⟨_,rfl,t,rfl,_,rfl,b,rfl,?_⟩;rw[Dm,Dm];refine⟨λm σ H'=>∃c d:Int,σ=[some (.int t),some (.int b),some (.int c),some (.int d),none]/\H'=H/\m=d.natAbs/\Int.gcd c d=Int.gcd t b/\0<=c/\0<=d,⟨_,ab t,ab b,rfl,rfl,rfl,abU t b,by rw[mB];omega,by rw[mB];omega⟩,?_⟩;rintro m σ H' ⟨c,d,rfl,rfl,rfl,hg,hc0,TC⟩;refine⟨_,rfl,rfl,_,rfl,?_⟩;refine cT (λh=>?_) (λh=>?_)
  ·have hd:d≠0:=by simpa using h
   refine⟨λσ' KY=>∃c' d':Int,σ'=[some (.int t),some (.int b),some (.int c'),some (.int d'),none]/\KY=H'/\d'.natAbs<d.natAbs/\Int.gcd c' d'=Int.gcd t b/\0<=c'/\0<=d',λσ' KY ⟨c',d',e1,e2,e3,e4,e5,e6⟩=>⟨_,e3,c',d',e1,e2,rfl,e4,e5,e6⟩,?_⟩;refine⟨_,rfl,_,rfl,_,rfl,_,_,rfl,rfl,hd,_,_,rfl,d,c.fmod d,rfl,rfl,vk c d hd,by rw[lC,hg],TC,tH c (by omega)⟩
  ·have hd:d=0:=by simpa using h
   subst hd
   have eg:c=cZ t b:=by
    unfold cZ;rw[<-hg];simp;omega
   have gp:=fP (t:=t) hb;have YS:B 9000 (cZ t b):=hB.le (ab1 hb);subst eg;refine⟨_,rfl,jP,λz hz=>?_⟩;have S:=aq (o:=.lst [V.int 1,V.int (-1)]) hz;refine⟨_,rfl,_,_,rfl,rfl,.inr ⟨_,rfl,?_⟩⟩
   have JR:p7 [V.int 1,V.int (-1)] (if decide (b<0)=true then 1 else 0)=some (.int (sg b)):=by
    unfold sg
    by_cases NH:b<0
    ·simp[NH];rfl
    ·simp[NH];rfl
   refine⟨z,_,_,_,rfl,rfl,aW.of ae,JR,?_⟩
   have sg1:-1<=sg b/\sg b<=1:=by unfold sg;split <;> decide
   refine⟨_,rfl,_,rfl,_,_,rfl,rfl,.inl ⟨by omega,by omega⟩,_,rfl,_,_,rfl,rfl,⟨by omega,YS⟩,_,rfl,b,rfl,_,rfl,_,_,rfl,rfl,⟨by omega,YS⟩,jP,λa ha=>?_⟩;have y:=q.of S a ha;rw[<-agB (t:=t) hb,<-abF (t:=t) hb] at y;exact y
theorem ab6:Ii CK CK (ar C1):=fu (by decide +kernel)
theorem ab8 (F:Fe K "_law_make" "_law_make" C1 f fd)(q0:Ca P w K mg base 1 Am "_law_lowest" Eo):
 Ey P w K mg base (bZ P w) 2 f fd CK xa:=by
 obtain⟨fl,MK,FL,bL,mL,kL⟩:=q0;refine F.okN ab6 (λvs H Q E h=>?_) (λIZ A outer s H vs Q E hr h=>?_)
 ·obtain⟨p,t,b,rfl,_⟩:=h;rfl
 ·obtain⟨p,t,b,rfl,hp,hb,hB,hT,h1,q⟩:=h
  refine⟨_,ai (bf (aK eQ (pv 0) aj (aJ _)) (av (aB (aA FL hr (by rfl) mL kL bL .nil af (ao (pv 1) (ao (pv 2) ah))))) aH)
   (ai (bf (aK g9 (aD cU (pv 2) (pv 0)) aj (aJ _)) aaQ aH)
   (av (aB (bw (ao (aD cU (pv 1) (pv 0)) (ao aj ah)))))),?_⟩
  refine⟨_,rfl,rfl,_,rfl,?_⟩;refine cT (λh=>?_) (λh=>?_)
  ·have Jx:p=0:=by simpa using h
   unfold dj dM at q;rw[oO Jx,oO Jx] at q;exact⟨_,rfl,_,rfl,t,b,rfl,hb,hB,hT,q⟩
  ·have Jx:p≠0:=by simpa using h
   obtain⟨Qc,p2,Qd⟩:=hp.two Jx;have TJ:=h1 Jx;subst TJ;refine⟨_,rfl,_,rfl,_,_,rfl,rfl,(by show(0:Int)<p;omega),rfl,_,rfl,?_⟩;have e1:(1:Int)%p=1:=qM (by decide) (by omega);refine cT (λh=>absurd h (by simp[e1])) (λ_=>?_);unfold dj dM at q;rw[DW Jx,DW Jx] at q;exact⟨_,rfl,_,rfl,_,_,rfl,rfl,(by show(0:Int)<p;omega),jP,q.of (ay.refl _)⟩
theorem acd:Ii sV sV (ar AS):=fu (by decide +kernel)
theorem ach (F:Fe K "_law_plus" "_law_plus" AS f fd)(q0:Ca P w K mg base 2 CK "_law_make" xa):
 Ey P w K mg base (bZ P w) 3 f fd sV (pA mh):=by
 obtain⟨fl,MK,FL,bL,mL,kL⟩:=q0;refine F.okN acd (λvs H Q E h=>?_) (λIZ A outer s H vs Q E hr h=>?_)
 ·obtain⟨p,t1,b1,t2,b2,x1,x2,rfl,_⟩:=h;rfl
 ·obtain⟨p,t1,b1,t2,b2,x1,x2,rfl,hp,h1,h2,B1,B2,B3,B4,n1,n2,hb,q⟩:=h;refine⟨_,av (aB (aA FL hr (by rfl) mL kL bL .nil af (ao (pv 0) (ao (aD cJ (aD dI (aV bx (pv 1) aj (λ_ _=>rfl)) (aV bx (pv 2) aj (λ_ _=>rfl))) (aD dI (aV bx (pv 2) aj (λ_ _=>rfl)) (aV bx (pv 1) aj (λ_ _=>rfl)))) (ao (aD dI (aV bx (pv 1) aj (λ_ _=>rfl)) (aV bx (pv 2) aj (λ_ _=>rfl))) ah))))),?_⟩;refine⟨_,rfl,?_⟩;refine⟨_,rfl,x1,_,0,_,rfl,rfl,a7.of h1,a0 _ _,_,rfl,x2,_,1,_,rfl,rfl,a7.of h2,a1 _ _,_,_,rfl,rfl,⟨B1.mono (by decide),B4.mono (by decide)⟩,?_⟩;refine⟨_,rfl,x2,_,0,_,rfl,rfl,a7.of h2,a0 _ _,_,rfl,x1,_,1,_,rfl,rfl,a7.of h1,a1 _ _,_,_,rfl,rfl,⟨B3.mono (by decide),B2.mono (by decide)⟩,_,_,rfl,rfl,?_⟩;refine⟨_,rfl,x1,_,1,_,rfl,rfl,a7.of h1,a1 _ _,_,rfl,x2,_,1,_,rfl,rfl,a7.of h2,a1 _ _,_,_,rfl,rfl,⟨B2.mono (by decide),B4.mono (by decide)⟩,?_⟩;exact⟨p,_,_,rfl,hp,oV n1 n2,(B2.mul B4).mono (by decide),((B1.mul B4).add (B3.mul B2)).mono (by decide),hb,q⟩
noncomputable abbrev Av:Stmt:=(aZ 46)
noncomputable abbrev vg:Stmt:=(aZ 47)
noncomputable def aR (H:Hp)(r:Addr):Prop:=∃l x:Int,H r=some (.lst [.int l,.int x])/\0<=x/\x<2147483647
noncomputable def SameBut (r:Addr)(H H':Hp):Prop:=∀b o,H b=some o->b≠r->H' b=some o
theorem SameBut.trans {r:Addr}{H1 H2:Hp}(a:SameBut r H H1)(b:SameBut r H1 H2):SameBut r H H2:=λc o e n=>b c o (a c o e n) n
theorem SameBut.of {r:Addr}{H1:Hp}(a:ay H H1):SameBut r H H1:=λc o e _=>a c o e
theorem SameBut.upd {r:Addr}{o:HO}:SameBut r H (upd H r o):=λb u e n=>by rw[au n];exact e
noncomputable def E5:Sp:=λvs H Q _=>∃r:Addr,vs=[.ref r]/\aR H r/\∀(p:Int)(H':Hp),FP p->aR H' r->SameBut r H H'->Q (.int p) H'
noncomputable def Ax:Sp:=λvs H Q _=>∃(r:Addr)(p:Int),vs=[.ref r,.int p]/\FP p/\aR H r/\∀(a:Addr)(t b:Int)(H':Hp),Num p t b->B 45 t->B 45 b->H' a=some (bK t b)->aR H' r->SameBut r H H'->Q (.ref a) H'
theorem DC {a:Addr}{t:Int}(h:H a=some (bK t b)):aL K H (.tup [.int t,.int b]) (.ref a):=by
 unfold aL;refine⟨a,_,rfl,a7.of h,?_⟩;unfold a8;refine⟨_,_,rfl,by unfold aL;rfl,?_⟩;unfold a8;refine⟨_,_,rfl,by unfold aL;rfl,?_⟩;unfold a8;rfl
theorem FZ (t b:Int):i5 (.tup [.int t,.int b])=1:=by simp[i5,dY]
theorem acn (t b u d:Int):hV (.tup [.int t,.int b]) (.tup [.int u,.int d])=(t==u&&b==d):=by simp[hV,fE]
theorem jW {xs:List Int}{w:Int}(h0:0<=w)(h1:w<xs.length):∃x∈xs,p7 (xs.map V.int) w=some (.int x):=by
 have hl:w.toNat<xs.length:=by omega
 refine⟨xs[w.toNat],CU hl,?_⟩;have z:=gN (xs:=xs.map V.int) (j:=w.toNat) (v:=V.int xs[w.toNat]) (by rw[BC];simp[hl])
 have e:((w.toNat:Nat):Int)=w:=by omega
 rw[e] at z;exact z
theorem kE:Ii ["_law_room_here","_law_at","_law_some"] ["_law_room_here"] (ar Av):=fu (by decide +kernel)
set_option maxHeartbeats 1000000 in
theorem acr (F:Fe K "_law_prime" "_law_prime" Av f fd)(q0:Ca P w K mg base 1 jN "_law_take" E1):
 Ey P w K mg base (bZ P w) 2 f fd ["_law_room_here"] E5:=by
 obtain⟨ft,NJ,FT,bT,mT,kT⟩:=q0;refine F.okN kE (λvs H Q E h=>?_) (λIZ A outer s H vs Q E hr h=>?_)
 ·obtain⟨r,rfl,_⟩:=h;rfl
 ·obtain⟨r,rfl,⟨l,x,hR,x0,x1⟩,q⟩:=h
  refine⟨_,ai (aM (i:=1) kE.nd rfl (Or.inl rfl) (aA FT hr (by rfl) mT kT bT .nil af (ao (pv 0) (ao aj ah))))
   (ai (bf (aK eQ (pv 1) aj (aJ _))
    (@ai _ _ _ _ _ (@aM _ _ 2 _ _ _ _ kE.nd rfl (Or.inl rfl) (@pV _ _ _ [11,13,17,19,23,29,31,37,41,43,47,53,59,61,67,71,73,79,83,89] rfl (by decide)) rfl (Or.inl rfl))
    (av (aB (aV bz (pv 2) (aA FT hr (by rfl) mT kT bT .nil af (ao (pv 0) (ao aj ah))) (λ_ _=>rfl))))) aH)
   (@av _ _ _ (@aB _ _ _ _ (aV bz (@pV _ _ _ [0,0,2,3,5,7,97,0] rfl (by decide)) (pv 1) (λ_ _=>rfl))))),?_⟩
  refine⟨_,rfl,r,l,x,9,rfl,hR,x0,x1,by decide,by decide,λz l2 r2 z0 z1 g0 g1=>?_⟩;refine⟨_,rfl,rfl,_,rfl,?_⟩;have NK:(upd H r (.lst [.int l2,.int r2])) r=some (.lst [.int l2,.int r2]):=ae;have S2:SameBut r H (upd H r (.lst [.int l2,.int r2])):=SameBut.upd;generalize (upd H r (.lst [.int l2,.int r2]))=H2 at NK S2 |-;refine cT (λh=>?_) (λh=>?_)
  ·refine λm hm=>?_;have S3:=aq (o:=.lst ([11,13,17,19,23,29,31,37,41,43,47,53,59,61,67,71,73,79,83,89].map V.int)) hm;have em:(upd H2 m (.lst ([11,13,17,19,23,29,31,37,41,43,47,53,59,61,67,71,73,79,83,89].map V.int))) m=some (.lst ([11,13,17,19,23,29,31,37,41,43,47,53,59,61,67,71,73,79,83,89].map V.int)):=ae;have ML:=S3 _ _ NK;refine⟨_,rfl,_,rfl,r,l2,r2,20,rfl,ML,g0,g1,by decide,by decide,λz' l3 r3 z0' z1' g0' Qf=>?_⟩;obtain⟨y,hy,JR⟩:=jW (xs:=[11,13,17,19,23,29,31,37,41,43,47,53,59,61,67,71,73,79,83,89]) z0' z1';have nm:m≠r:=nt em ML (by intro z;cases z);refine⟨m,_,z',_,rfl,rfl,aW.of (by rw[au nm];exact em),JR,?_⟩
   have all:∀y∈([11,13,17,19,23,29,31,37,41,43,47,53,59,61,67,71,73,79,83,89]:List Int),y∈tO:=by decide
   exact q y _ (.inr (all y hy)) ⟨l3,r3,ae,g0',Qf⟩ ((S2.trans (SameBut.of S3)).trans SameBut.upd)
  ·have hz:z<8:=by
    have:z≠8:=by simpa using h
    omega
   refine λm hm=>?_;have S3:=aq (o:=.lst ([0,0,2,3,5,7,97,0].map V.int)) hm;have em:(upd H2 m (.lst ([0,0,2,3,5,7,97,0].map V.int))) m=some (.lst ([0,0,2,3,5,7,97,0].map V.int)):=ae;obtain⟨y,hy,JR⟩:=jW (xs:=[0,0,2,3,5,7,97,0]) z0 hz;refine⟨_,rfl,m,_,z,_,rfl,rfl,aW.of em,JR,?_⟩
   have all:∀y∈([0,0,2,3,5,7,97,0]:List Int),y=0\/y∈tO:=by decide
   exact q y _ (all y hy) ⟨l2,r2,S3 _ _ NK,g0,g1⟩ (S2.trans (SameBut.of S3))
theorem acH:Ii Bb Bb (ar vg):=fu (by decide +kernel)
theorem vI {H H2:Hp}{r:Addr}{t:Int}(q:∀(a:Addr)(t b:Int)(H':Hp),Num 0 t b->B 45 t->B 45 b->H' a=some (bK t b)->aR H' r->SameBut r H H'->Q (.ref a) H')(hb:0<b)(hB:B 45 b)(hT:B 45 t)(hR:aR H2 r)(S:SameBut r H H2):Eo [.int t,.int b] H2 Q λ_ _ _=>False:=by
 have NH:b≠0:=by omega
 refine⟨t,b,rfl,NH,hB.mono (by decide),hT.mono (by decide),λH' a S' e=>?_⟩;refine q a _ _ H' (Num.low NH) (hT.le (v5 NH)) (hB.le (wd NH)) e ?_ (S.trans (SameBut.of S'));obtain⟨l,x,h,z⟩:=hR;exact⟨l,x,S' _ _ h,z⟩
set_option maxHeartbeats 1000000 in
theorem acP (F:Fe K "_law_number" "_law_number" vg f fd)(q0:Ca P w K mg base 1 jN "_law_take" E1)
 (q1:Ca P w K mg base 1 Am "_law_lowest" Eo):
 Ey P w K mg base (bZ P w) 2 f fd Bb Ax:=by
 obtain⟨ft,NJ,FT,bT,mT,kT⟩:=q0;obtain⟨fl,MK,FL,bL,mL,kL⟩:=q1;refine F.okN acH (λvs H Q E h=>?_) (λIZ A outer s H vs Q E hr h=>?_)
 ·obtain⟨r,p,rfl,_⟩:=h;rfl
 ·obtain⟨r,p,rfl,hp,⟨l,x,hR,x0,x1⟩,q⟩:=h
  refine⟨_,ai (bf (aK vi (pv 1) aj (aJ _)) (av (aB (bw (ao (aA FT hr (by rfl) mT kT bT .nil af (ao (pv 0) (ao (pv 1) ah))) (ao aj ah))))) aH)
   (ai (bf (aK eQ (aA FT hr (by rfl) mT kT bT .nil af (ao (pv 0) (ao aj ah))) aj (aJ _))
    (av (aB (aA FL hr (by rfl) mL kL bL .nil af
     (ao (aD lU (aA FT hr (by rfl) mT kT bT .nil af (ao (pv 0) (ao (aD dA aj (aD jl aj aj)) ah rfl))) (aD jl aj aj))
     (ao (aV bz (cq (ao aj (ao aj (ao (aD jl aj aj) (ao (aD cJ (aD jl aj aj) aj) ah rfl) rfl) rfl) rfl))
      (aA FT hr (by rfl) mT kT bT .nil af (ao (pv 0) (ao aj ah))) (λ_ _=>rfl)) ah rfl))))) aH)
   (av (aB (aA FL hr (by rfl) mL kL bL .nil af
    (ao (aD lU (aA FT hr (by rfl) mT kT bT .nil af (ao (pv 0) (ao aj ah))) aj)
    (ao (aV bz (@pV _ _ _ [1,1,2,3] rfl (by decide)) (aA FT hr (by rfl) mT kT bT .nil af (ao (pv 0) (ao aj ah))) (λ_ _=>rfl)) ah rfl)))))),?_⟩
  refine⟨_,rfl,_,_,rfl,rfl,_,rfl,?_⟩;refine cT (λh=>?_) (λh=>?_)
  ·have Jx:0<p:=by simpa using h
   obtain⟨_,p2,Qd⟩:=hp.two (by omega);refine⟨_,rfl,_,rfl,r,l,x,p,rfl,hR,x0,x1,Jx,by omega,λz l2 r2 z0 z1 g0 g1=>?_⟩;refine⟨jP,λa ha=>?_⟩;have S:=aq (o:=bK z 1) ha;refine q a z 1 _ (Num.ofP z0 z1) ?_ (by show(1:Int).natAbs<2^45;decide) ae ⟨l2,r2,S _ _ ae,g0,g1⟩ (SameBut.upd.trans (SameBut.of S));show z.natAbs<2^45;omega
  ·have Jx:p=0:=by
    have:=hp.nn
    have h':¬0<p:=by simpa using h
    omega
   subst Jx;refine⟨_,rfl,r,l,x,8,rfl,hR,x0,x1,by decide,by decide,λz l2 r2 z0 z1 g0 g1=>⟨rfl,_,rfl,?_⟩⟩;have NK:(upd H r (.lst [.int l2,.int r2])) r=some (.lst [.int l2,.int r2]):=ae;have S2:SameBut r H (upd H r (.lst [.int l2,.int r2])):=SameBut.upd;generalize (upd H r (.lst [.int l2,.int r2]))=H2 at NK S2 |-;refine cT (λh=>?_) (λh=>?_)
   ·refine⟨_,rfl,_,_,rfl,rfl,⟨by decide,by decide,by decide⟩,_,_,rfl,rfl,.inl ⟨by decide,by decide⟩,r,l2,r2,_,rfl,NK,g0,g1,by decide,by decide,λy l3 r3 y0 y1 k0 k1=>?_⟩;refine⟨_,_,rfl,rfl,⟨by decide,by decide,by decide⟩,_,_,rfl,rfl,?_⟩;refine⟨_,_,rfl,rfl,⟨by decide,by decide,by decide⟩,_,_,rfl,rfl,⟨by decide,by decide,by decide⟩,_,_,rfl,rfl,Iv,λm hm=>?_⟩;have S3:SameBut r H2 (upd H2 r (.lst [.int l3,.int r3])):=SameBut.upd;have ML:(upd H2 r (.lst [.int l3,.int r3])) r=some (.lst [.int l3,.int r3]):=ae;generalize (upd H2 r (.lst [.int l3,.int r3]))=H3 at hm S3 ML |-;have S4:=aq (o:=.lst ([1,7,10^(6:Int).toNat,10^(12:Int).toNat+39].map V.int)) hm;have em:(upd H3 m (.lst ([1,7,10^(6:Int).toNat,10^(12:Int).toNat+39].map V.int))) m=some (.lst ([1,7,10^(6:Int).toNat,10^(12:Int).toNat+39].map V.int)):=ae;have Qg:=S4 _ _ ML;refine⟨_,rfl,r,l3,r3,4,rfl,Qg,k0,k1,by decide,by decide,λv l4 r4 v0 v1 j0 j1=>?_⟩;have nm:m≠r:=nt em Qg (by intro z;cases z);obtain⟨b,hb,JR⟩:=jW (xs:=[1,7,10^(6:Int).toNat,10^(12:Int).toNat+39]) v0 v1;refine⟨m,_,v,_,rfl,rfl,aW.of (by rw[au nm];exact em),JR,?_⟩
    have bb:∀b∈([1,7,10^(6:Int).toNat,10^(12:Int).toNat+39]:List Int),0<b/\b.natAbs<2^45:=by decide
    obtain⟨b0,bB⟩:=bb b hb;refine vI (H:=H) q b0 bB ?_ ⟨l4,r4,ae,j0,j1⟩ (((S2.trans S3).trans (SameBut.of S4)).trans SameBut.upd)
    have e1:(2:Int)*10^(12:Int).toNat=2000000000000:=by decide
    have e2:(10:Int)^(12:Int).toNat=1000000000000:=by decide
    rw[e1] at y1;show(y-10^(12:Int).toNat).natAbs<2^45;rw[e2];omega
   ·refine⟨_,rfl,r,l2,r2,19,rfl,NK,g0,g1,by decide,by decide,λy l3 r3 y0 y1 k0 k1=>?_⟩;refine⟨_,_,rfl,rfl,λm hm=>?_⟩;have S3:SameBut r H2 (upd H2 r (.lst [.int l3,.int r3])):=SameBut.upd;have ML:(upd H2 r (.lst [.int l3,.int r3])) r=some (.lst [.int l3,.int r3]):=ae;generalize (upd H2 r (.lst [.int l3,.int r3]))=H3 at hm S3 ML |-;have S4:=aq (o:=.lst ([1,1,2,3].map V.int)) hm;have em:(upd H3 m (.lst ([1,1,2,3].map V.int))) m=some (.lst ([1,1,2,3].map V.int)):=ae;have Qg:=S4 _ _ ML;refine⟨_,rfl,r,l3,r3,4,rfl,Qg,k0,k1,by decide,by decide,λv l4 r4 v0 v1 j0 j1=>?_⟩;have nm:m≠r:=nt em Qg (by intro z;cases z);obtain⟨b,hb,JR⟩:=jW (xs:=[1,1,2,3]) v0 v1;refine⟨m,_,v,_,rfl,rfl,aW.of (by rw[au nm];exact em),JR,?_⟩
    have bb:∀b∈([1,1,2,3]:List Int),0<b/\b.natAbs<2^45:=by decide
    obtain⟨b0,bB⟩:=bb b hb;refine vI (H:=H) q b0 bB ?_ ⟨l4,r4,ae,j0,j1⟩ (((S2.trans S3).trans (SameBut.of S4)).trans SameBut.upd);show(y-9).natAbs<2^45;omega
end K08
namespace L2
open PySem PySem.Spec PyProof.Rows PySem.W
section
variable {X:Cx}{CX:zd}{k:Nat}{f:Addr}{fd:FD}{ps:DV}{sp:Sp}{x:Str}{p pos:Pos}{e:Expr}{es:Hy}{t:TA}{js:List Nat}{ys:DV}
noncomputable def tL (v:V)(o:Obj):Prop:=∃u,aE v u/\o.data=.cell (some u)
noncomputable def pe (cs:List Addr)(js:List Nat)(sp:Sp)(t:TA):TE:=λσ H Q=>t σ H λvs H1=>∃ws:List V,js.map (λj=>σ[j]?)=ws.map (λw=>some (some w)) /\
 ∀os:List Obj,Paired tL ws os->(∀c∈cs,H1 c=none)->sp vs (dR (cs.zip os) H1) (λr H'=>gc (cs.zip os) H'/\Q r (fU (cs.zip os) H')) λ_ _ _=>False
theorem nZ {pins:List (Addr×Obj)}{σ:St}{H:Hp}{s:qm}(I:Inv X pins σ H s):∀(ys:DV)(js:List Nat)(ws:List V),js.map (λj=>X.N[j]?)=ys.map some->js.map (λj=>σ[j]?)=ws.map (λw=>some (some w)) →
 (∀y∈ys,X.env.kindOf y=some .cell)->(∀y∈ys,X.fn y=true)->∃os:List Obj,Paired tL ws os/\∀q∈(ys.map (iW X)).zip os,H q.1=none/\s.heap.get? q.1=some q.2/\q.1∉dJ X.stack/\X.s₀.heap.objs.size<=q.1
 |[],js,ws,h1,h2,_,_=>by
  cases js with
  |cons j js=>simp at h1
  |nil =>
   cases ws with
   |cons w ws=>simp at h2
   |nil=>exact⟨[],.nil,λq hq=>by simp at hq⟩
 |y::ys,js,ws,h1,h2,hc,hf=>by
  cases js with
  |nil=>simp at h1
  |cons j js =>
   cases ws with
   |nil=>simp at h2
   |cons w ws =>
    rw[xx,xx] at h1 h2;have hy:=(xI h1).1;have ev:=(xI h2).1;obtain⟨os,r,g⟩:=nZ I ys js ws (xI h1).2 (xI h2).2 (λz hz=>hc z (AM _ hz)) λz hz=>hf z (AM _ hz);have YT:=hc y qG;obtain⟨m,hn,hl⟩:=I.loc;obtain⟨u,rv,l⟩:=hl j y w hy ev (.inr (.inl YT))
    rcases l with⟨k1,_⟩|⟨_,c,ec,o,ho,hd⟩
    ·rw[YT] at k1;cases k1
    ·have OS:iW X y=c:=by unfold iW;rw[ec];rfl
     have fc:H c=none:=I.aga y c ec;have cab:=I.ok.cab y c (hf y qG) ec;refine⟨o::os,.cons ⟨u,rv,hd⟩ r,λq hq=>?_⟩;rw[xx,xj] at hq
     rcases Ef.mp hq with rfl|hq
     ·refine⟨by rw[OS];exact fc,by rw[OS];exact ho,?_,by rw[OS];exact cab⟩;show iW X y∉dJ X.stack;rw[OS];intro Jn
      rcases Ef.mp (I.agn _ Jn) with z|z
      ·exact I.cne y _ ec z
      ·obtain⟨_,o2,e2,_⟩:=I.ok.agq.mem z;exact absurd (HG (EL e2) cab) (qo _)
     ·exact g q hq
theorem eG {cs:List (Addr×Obj)}{a:Addr}{v:Obj}(h:cs.lookup a=some v):(a,v)∈cs:=by
 induction cs with
 |nil=>cases h
 |cons q r ih =>
  obtain⟨b,o⟩:=q;rw[Ah] at h
  by_cases z:a=b
  ·subst z;simp at h;subst h;exact qG
  ·have zb:(a==b)=false:=by simpa using z
   rw[zb] at h;exact AM _ (ih h)
theorem kj (F:Ey X.prog X.w X.K X.mg X.base CX k f fd ps sp)(hr:Hz k X.A)(hg:Gl X x)(hm:X.mg x=some (.ref f))(hk:keepIn X.K (.ref f)=true)(hb:bF X.K fd ps [])(hx:∀(H:Hp)(s:qm)(e:Value)(s':qm),CX X.stack H s (λ_ _ _=>False) e s'->False)
 (hy:js.map (λj=>X.N[j]?)=ys.map some)(hc:∀y∈ys,X.env.kindOf y=some .cell)(hf:∀y∈ys,X.fn y=true)(ha:PA X (e::es) t)(LX:(x==("__debug__":Str))=false:=by decide)(he:starEach (e::es) X.env=(false,eval e X.env):: starEach es X.env:=by rfl)(Kb:(backTo pos (starEach es X.env)).any (·.1)=false:=by rfl):
 PE X (.Call (.Name x p) (e::es) [] pos) (pe (ys.map (iW X)) js sp t):=by
 intro pins s σ H Q I h;refine yD (fZ I hg hm ?_ LX);refine callWith_K (h₀:=X.base) I.ok.mod.kin hk (bO (ha pos pins s σ H _ I h) λus s1 ⟨vs,H1,I1,r,ws,ew,q⟩=>⟨I1.kIn,?_⟩) he Kb;obtain⟨os,ro,g⟩:=nZ I1 ys js ws hy ew hc hf
 have free:∀c∈ys.map (iW X),H1 c=none:=λc Tr=>by
  obtain⟨y,hyy,rfl⟩:=HF.mp Tr;have ec:=I1.ok.has y (.inl (hc y hyy));obtain⟨c,ec⟩:=ec
  have OS:iW X y=c:=by unfold iW;rw[ec];rfl
  rw[OS];exact I1.aga y c ec
 refine ado (cs:=(ys.map (iW X)).zip os) F hr hb (λH e s' z=>hx H s1 e s' z) I1 (λa v e=>?_) (λa v e Jn=>?_) (λa v e=>?_) r (q os ro free)
 ·have z:=g _ (eG e);exact⟨z.1,z.2.1⟩
 ·exact(g _ (eG e)).2.2.1 Jn
 ·exact(g _ (eG e)).2.2.2
end
end L2
namespace K08
open PySem L2 PySem.W Nm
noncomputable abbrev AQ:Stmt:=aQ (aZ 38) 4
noncomputable abbrev oy:Stmt:=aQ (aZ 38) 11
variable {H:Hp}{x:V}
theorem Th.same {H':Hp}{T:String}(h:Th H x T)(s:ay H H'):Th H' x T:=by
 cases h with
 |non=>exact .non
 |bl b=>exact .bl b
 |int i=>exact .int i
 |str x=>exact .str x
 |lst e=>exact .lst (s _ _ e)
 |tup e=>exact .tup (s _ _ e)
 |dK e=>exact .dK (s _ _ e)
inductive TX (H:Hp):V->Option (V×V)->Prop where
 |no {x:V}{T:String}:Th H x T->T ≠ "tuple"->TX H x none
 |odd {a:Addr}{xs:List V}:H a=some (.tup xs)->xs.length≠2->TX H (.ref a) none
 |two {a:Addr}{y z:V}{Ty Tz:String}:H a=some (.tup [y,z])->Th H y Ty->Th H z Tz->TX H (.ref a) (some (y,z))
theorem TX.same {H':Hp}{o:Option (V×V)}(h:TX H x o)(s:ay H H'):TX H' x o:=by
 cases h with
 |no th n=>exact .no (th.same s) n
 |odd e n=>exact .odd (s _ _ e) n
 |two e h1 h2=>exact .two (s _ _ e) (h1.same s) (h2.same s)
noncomputable def tR (p:Int):Option (V×V)->Bool
 |some (.int t,.int b)=>if p=0 then decide (1<=b)&&decide (Int.gcd t b=1) else decide (b=1)&&(decide (0<=t)&&decide (t<p))
 |_=>false
theorem Th.isTup {K:Frag}{T:String}(h:Th H x T):kitOne K (.type T) (.type "tuple")=some (decide (T="tuple")):=by cases h <;> rfl
noncomputable def si (C NN:Addr):Sp:=λvs H Q E=>∃(s dx:Addr)(p:Int)(x y:V)(Tx Ty:String),vs=[.ref s,x,y]/\H s=some (.ins C dx (eT p))/\Th H x Tx/\Th H y Ty/\(∀t b,x=.int t->y=.int b->sj C NN [.ref s,.int t,.int b] H Q E)/\((dk x&&dk y)=false->E (.ref NN) none H)
noncomputable def ie (C:Addr):Sp:=λvs H Q _=>∃(s dx:Addr)(p:Int)(x:V)(o:Option (V×V)),vs=[.ref s,x]/\H s=some (.ins C dx (eT p))/\FP p/\TX H x o/\Q (.bl (tR p o)) H
variable {P:A9}{w:World}{K:PySem.W.Frag}{mg:Fj}{base:Heap}
theorem acR:Ii DZ DZ (ar AQ):=fu (by decide +kernel)
theorem ac8 {f C NN T:Addr}{fd:FD}(F:uv K "made" "Field.made" AQ f fd T)(c:xi K mg C)(mN:mg "NoNumber"=some (.ref NN))(qN:jT K NN Bf mZ=true)
 (q1:Cm P w K mg base 3 DZ C "quotient" (sj C NN))
 (q0:Ca P w K mg base 1 G6 "is_whole" wU):Ey P w K mg base (bZ P w) 4 f fd DZ (si C NN):=by
 obtain⟨fw,Vi,FW,bW,mW,kW⟩:=q0;obtain⟨fq,fdq,FQ,bQ,mQ⟩:=q1;refine F.okE acR (λvs H Q E h=>?_) (λIZ A outer s H vs Q E hr h=>?_)
 ·obtain⟨s,dx,p,x,y,Tx,Ty,rfl,_⟩:=h;rfl
 ·obtain⟨s,dx,p,x,y,Tx,Ty,rfl,hs,hx,hy,q,qE⟩:=h;have Jr:Hz 1 _:=hr.mono (by decide)
  refine⟨_,ai (bf (PW.pt (iY (cy (cI (aA FW Jr (by rfl) mW kW bW .nil af (ao (pv 1) ah)))) (fV (cy (cI (aA FW Jr (by rfl) mW kW bW .nil af (ao (pv 2) ah)))))))
   (av (dU Bq qN rfl cB (by rfl) mN (ao cN ah))) aH)
   (av (aB (bU (E:=E) (pv 0) c.cl mQ FQ hr bQ .nil abR (ao (pv 1) (ao (pv 2) ah))))),?_⟩
  refine⟨_,rfl,x,Tx,rfl,hx,_,rfl,?_⟩
  cases e1:dk x with
  |false=>exact cm (cm ⟨by decide,qE (by rw[e1];rfl)⟩)
  |true =>
   refine bX ⟨_,rfl,y,Ty,rfl,hy,_,rfl,?_⟩
   cases e2:dk y with
   |false=>exact cm ⟨by decide,qE (by rw[e1,e2];rfl)⟩
   |true =>
    have z1:∃t,x=.int t:=by cases x <;> first|exact⟨_,rfl⟩|cases e1
    have z2:∃b,y=.int b:=by cases y <;> first|exact⟨_,rfl⟩|cases e2
    obtain⟨t,rfl⟩:=z1;obtain⟨b,rfl⟩:=z2;exact bX ⟨_,rfl,s,dx,_,rfl,hs,rfl,_,rfl,_,rfl,q t b rfl rfl⟩
theorem ia:Ii ["self","thing","top","bottom"] zI (ar oy):=fu (by decide +kernel)
theorem adh {f C:Addr}{fd:FD}{tF:Tok}(F:Fe K "is_number" "Field.is_number" oy f fd)(c:xi K mg C)(mF:mg "FRACTIONS"=some (.int 0 tF))(n:A1 mg)(mT:mg "tuple"=none)(mN:mg "len"=none)
 (q0:Ca P w K mg base 1 xX "common_divisor" Bp)
 (q1:Ca P w K mg base 1 G6 "is_whole" wU):Ey P w K mg base (bZ P w) 2 f fd zI (ie C):=by
 obtain⟨fg,Qa,FG,bG,mG,kG⟩:=q0;obtain⟨fw,Vi,FW,bW,mW,kW⟩:=q1;refine F.okN ia (λvs H Q E h=>?_) (λIZ A outer s H vs Q E hr h=>?_)
 ·obtain⟨s,dx,p,x,o,rfl,_⟩:=h;rfl
 ·obtain⟨s,dx,p,x,o,rfl,hs,hp,tx,q⟩:=h
  refine⟨_,ai (bf (PW.pt (iY (cy (cI (aI aY (by rfl) n.isi (by rfl) (ao (pv 1) (ao (eX (by rfl) mT (by rfl) (show aE (.ty "tuple") (.type "tuple") from rfl)) ah)))))
   (fV (aK g9 (aI b9 (by rfl) mN Gm (ao (pv 1) ah)) aj (aJ _))))) (av (aB fh)) aH)
   (ai (pJ (pv 1) (cC rfl (aG (aC (i:=2) ia.nd rfl (Or.inl rfl)) (aG (aC (i:=3) ia.nd rfl (Or.inl rfl)) cj))))
   (ai (bf (PW.pt (iY (cy (cI (aA FW hr (by rfl) mW kW bW .nil af (ao (pv 2) ah)))) (fV (cy (cI (aA FW hr (by rfl) mW kW bW .nil af (ao (pv 3) ah))))))) (av (aB fh)) aH)
   (ai (bf (aK eQ (br (pv 0) rfl) (cG (by rfl) mF (show aE (.int 0) (.int 0 tF) from⟨_,rfl⟩)) (aJ _))
    (av (aB (eI (c7 DA (pv 3) aj (aJ _)) (gJ (c7 eQ (aA FG hr (by rfl) mG kG bG .nil af (ao (pv 2) (ao (pv 3) ah))) aj (aJ _)))))) aH)
   (av (aB (eI (c7 eQ (pv 3) aj (aJ _)) (gJ (ql Dv kr aj (pv 2) (br (pv 0) rfl))))))))),?_⟩
  cases tx with
  |@no x T th ne =>
   refine⟨_,rfl,x,.ty "tuple",_,_,_,rfl,rfl,th.ty,th.isTup,_,rfl,?_⟩;rw[HW ne];exact cm (cm q)
  |@odd a xs ha hl =>
   refine⟨_,rfl,.ref a,.ty "tuple",_,_,_,rfl,rfl,.of (.tup ha),rfl,_,rfl,bX ?_⟩;refine⟨_,rfl,a,_,rfl,.inr (a7.of ha),rfl,_,rfl,?_⟩;refine cT (λ_=>q) (λh=>absurd (by simp;omega) h)
  |@two a y z Ty Tz ha hy hz =>
   refine⟨_,rfl,.ref a,.ty "tuple",_,_,_,rfl,rfl,.of (.tup ha),rfl,_,rfl,bX ?_⟩;refine⟨_,rfl,a,_,rfl,.inr (a7.of ha),rfl,_,rfl,?_⟩;refine cT (λh=>absurd h (by simp)) (λ_=>?_);refine⟨_,rfl,a,_,rfl,a7.of ha,rfl,_,_,rfl,_,_,rfl,rfl,?_⟩;refine⟨_,rfl,y,Ty,rfl,hy,_,rfl,?_⟩
   cases e1:dk y with
   |false =>
    have z1:tR p (some (y,z))=false:=by cases y <;> first|rfl|cases e1
    rw[z1] at q;exact cm (cm q)
   |true =>
    refine bX ⟨_,rfl,z,Tz,rfl,hz,_,rfl,?_⟩
    cases e2:dk z with
    |false =>
     have z1:tR p (some (y,z))=false:=by cases y <;> cases z <;> first|rfl|cases e2
     rw[z1] at q;exact cm q
    |true =>
     have z1:∃t,y=.int t:=by cases y <;> first|exact⟨_,rfl⟩|cases e1
     have z2:∃b,z=.int b:=by cases z <;> first|exact⟨_,rfl⟩|cases e2
     obtain⟨t,rfl⟩:=z1;obtain⟨b,rfl⟩:=z2;refine bX ?_;refine⟨_,rfl,s,C,dx,_,_,rfl,hs,c.cl,c.nP,rfl,rfl,_,rfl,?_⟩;refine cT (λh=>?_) (λh=>?_)
     ·have Jx:p=0:=by simpa using h
      have z1:tR p (some (.int t,.int b))=(decide (1<=b)&&decide (Int.gcd t b=1)):=by simp[tR,Jx]
      rw[z1] at q;refine⟨_,rfl,_,_,rfl,rfl,_,rfl,?_⟩;refine cT (λh1=>?_) (λh1=>?_)
      ·refine⟨_,rfl,_,rfl,t,b,rfl,rfl,?_⟩
       have e3:decide (V.int (cZ t b)=V.int 1)=decide (Int.gcd t b=1):=by
        unfold cZ
        by_cases g:Int.gcd t b=1
        ·simp[g]
        ·have:¬((Int.gcd t b:Nat):Int)=1:=by omega
         simp[g,this]
       have KZ:decide (1<=b)=true:=h1;rw[KZ,DO,<-e3] at q;exact q
      ·have KZ:decide (1<=b)=false:=by simpa using h1
       rw[KZ,Bx] at q;exact q
     ·have Jx:p≠0:=by simpa using h
      have z1:tR p (some (.int t,.int b))=(decide (b=1)&&(decide (0<=t)&&decide (t<p))):=by simp[tR,Jx]
      rw[z1] at q;refine⟨_,rfl,rfl,_,rfl,?_⟩;refine cT (λh1=>?_) (λh1=>?_)
      ·have KZ:decide (b=1)=true:=by simpa using h1
       rw[KZ,DO] at q;refine⟨_,rfl,_,_,rfl,rfl,_,rfl,?_⟩;refine cT (λh2=>?_) (λh2=>?_)
       ·refine⟨_,rfl,s,C,dx,_,_,rfl,hs,c.cl,c.nP,rfl,_,_,rfl,rfl,?_⟩;have Le:decide (0<=t)=true:=h2;rw[Le,DO] at q;exact q
       ·have Le:decide (0<=t)=false:=by simpa using h2
        rw[Le,Bx] at q;exact q
      ·have KZ:decide (b=1)=false:=by simpa using h1
       rw[KZ,Bx] at q;exact q
end K08
namespace L2
open PySem PySem.Spec PyProof.Rows PySem.W
noncomputable def Gz:V->Bool->Prop
 | .bl b,c=>c=b
 | .int i,c=>c=(i != 0)
 |_,_=>False
theorem bh {α β:Type}{R:α->β->Prop}:∀{l:List α}{m:List β}{i:Nat}{a:α},Paired R l m->l[i]?=some a->∃b,m[i]?=some b/\R a b
 |[],_,i,a,h,e=>by simp at e
 |x::l,_,i,a,h,e=>by
  cases h with
  |cons h1 h2 =>
   cases i with
   |zero=>simp at e;subst e;exact⟨_,rfl,h1⟩
   |succ i=>simpa using bh h2 (by simpa using e)
theorem lW {α β:Type}{R:α->β->Prop}:∀{l:List α}{m:List β}{i:Nat}{b:β},Paired R l m->m[i]?=some b->∃a,l[i]?=some a/\R a b
 |[],m,i,b,h,e=>by cases h;simp at e
 |x::l,_,i,b,h,e=>by
  cases h with
  |cons h1 h2 =>
   cases i with
   |zero=>simp at e;subst e;exact⟨_,rfl,h1⟩
   |succ i=>simpa using lW h2 (by simpa using e)
section
variable {X:Cx}
theorem adi {A:Around}{Q:Bool->Shared->Prop}{E:zQ}{s:qm}{y:V}{c:Bool}{u:Value}(t:Gz y c)(r:aE y u)(h:Q c s):wpAny (model X.prog X.w) A (truthy u) Q E s:=by
 cases y with
 |bl b =>
  cases(show u=Value.bool b from r)
  cases(show c=b from t)
  exact pP h
 |int i =>
  obtain⟨k,rfl⟩:=(show ∃k,u=Value.int i k from r)
  cases(show c=(i != 0) from t)
  exact PyProof.Rows.truthy_int h
 |_=>exact t.elim
theorem ku (hc:X.calm=true):eV X (.builtin "all") (λxs H Q=>∃l ys bs,xs=[.ref l]/\aW X.K H l ys/\Paired Gz ys bs/\Q (.bl (bs.all id)) H):=by
 intro pins s σ H xs us Q I r h;obtain⟨l,ys,bs,rfl,hl,hp,q⟩:=h;obtain⟨u,rfl,ru⟩:=eY r
 cases(show u=Value.ref l from ru)
 obtain⟨its,rv,pl,hz⟩:=I.list hl
 have Jb:l<s.heap.objs.size:=by obtain⟨o,n,e,_⟩:=pl;exact EL e
 refine call_all_walk (CD pl.isList ?_)
 refine⟨s.heap.objs.size,[s.heap.objs.size,l],[s.heap.objs.size],its.toArray.size,_,_,λi=>(bs[i]?).getD true,rfl,Walks.list (A:=X.A.in1) (I.ok.hd hc) _ l (Ho Jb) its.toArray,
  ⟨⟨_,HR _ rfl,rfl,rfl⟩,pl.isList.push _⟩,λi v s' Q' E' hP hQ=>?_,λh' tk hk=>?_⟩
 ·have e:its[i]?=some v:=by simpa using hP
  obtain⟨y,ey,ry⟩:=lW rv e;obtain⟨b,eb,tb⟩:=bh hp ey;simp only[eb,Option.getD_some] at hQ;exact adi tb ry hQ
 ·have n:its.toArray.size=bs.length:=by rw[yQ,<-rv.length,hp.length]
  have e:((List.range its.toArray.size).all λi=>(bs[i]?).getD true)=bs.all id:=by rw[n];exact LSm.range_all bs
  rw[e];exact⟨.bl (bs.all id),H,I.kept (t':=tk) (LSm.kept_iter hk),rfl,q⟩
end
section
variable {X:Cx}{pins:List (Addr×Obj)}{σ:St}{H:Hp}{s:qm}{h':Heap}
theorem Inv.aiA (I:Inv X pins σ H s){a:Addr}(hp:s.heap.get? a=none):H a=none:=by
 cases q:H a with
 |none=>rfl
 |some u =>
  obtain⟨ob,e1⟩:=(I.hok a u q).there;rw[hp] at e1
  cases e1
theorem Inv.newObj {a:Addr}{o:HO}{t':Nat}(I:Inv X pins σ H s)(k:∀b u,s.heap.get? b=some u->h'.get? b=some u)(hp:s.heap.get? a=none)(new:a9 X.prog X.w (upd H a o) h' a o):
 Inv X pins σ (upd H a o) {s with heap:=h',toks:=t'}:=by
 have hn:=I.aiA hp
 have nb:∀b u,s.heap.get? b=some u->b≠a:=λb u e z=>by rw[z,hp] at e;cases e
 exact I.un ⟨λb u q _ _ _=>k b u q,λb u q _ _ _=>⟨u.slots,k b u q⟩,λb u q n _=>by rw[au (nb b u q)];exact n,λb u q _=>⟨u,k b u q⟩,
  λb xs q=>by rw[au (ax q hn)];exact q,λb u xs q=>by rw[au (ax q hn)];exact q,λb ps q=>⟨#[],by rw[au (ax q hn),q];simp⟩⟩ (dE (I.hok.kept k) hn new)
end
end L2
namespace Mf
open PySem PySem.W PyProof.Rows
variable {i:Nat}
section
variable {prog:A9}{w:World}{A:Around}{E:zQ}{s:qm}{d it:Addr}{es:Array DictEntry}{ep:Nat}{o:Obj}
structure Raw (h:Heap)(d:Addr)(es:Array DictEntry)(ep:Nat):Prop where
 ex:∃o,h.get? d=some o/\o.ExactDict/\o.data=.dict es ep
theorem Raw.ty (r:Raw s.heap d es ep):s.TypeIs (.ref d) "dict":=let⟨o,h,x,_⟩:=r.ex;⟨o,h,x.1⟩
theorem Raw.keep {h h':Heap}(r:Raw h d es ep)(k:∀o,h.get? d=some o->h'.get? d=some o):Raw h' d es ep:=let⟨o,h1,x⟩:=r.ex;⟨o,k o h1,x⟩
theorem adk {Q:zQ}(r:Raw s.heap d es ep)(hd:(d==sysModules)=false)(h:Q (.ref s.heap.objs.size) {s with heap:=s.heap.push {cls:=.type "dict_items",data:=.fields #[.ref d]} }):
 wpAny (model prog w) A (call (.builtin "dict.items") [.ref d]) Q E s:=by
 refine BU F.slot_dict_items r.ty F.entry_dict_items ?_ (F.args_dict_items_1 _);unfold Builtin.«dict.items» Builtin.Dict.noArgs;refine IM (IM (wpAny_notOrdered_dict r.ty (IV ?_)));show wpAny _ _ (Builtin.Dict.showsAll d>>=_) _ _ s;unfold Builtin.Dict.showsAll;rw[DW (by rw[hd];exact FO)];exact IM (IV (IM (IP (IV ⟨_,rfl,h⟩))))
theorem ads {v:Addr}{Q:zQ}(hv:s.heap.IsItemsView v d)(r:Raw s.heap d es ep)
 (hQ:Q (.ref s.heap.objs.size) {s with heap:=s.heap.push {cls:=.type "dict_itemiterator",data:=.fields #[.none,.bool false,.ref d,.int 0 0,.int es.size 0,.int ep 0,.none,.none]} }):wpAny (model prog w) A (pyIter (.ref v)) Q E s:=by
 obtain⟨ov,g1,g2,g3⟩:=id hv;obtain⟨o,h1,h2,h3⟩:=r.ex;refine rO hv.typeIs F.slot_dict_items_iter (BU F.slot_dict_items_iter hv.typeIs F.entry_dict_items_iter ?_ (F.args_dict_items_iter_1 _));unfold Builtin.«dict_items.__iter__» Builtin.Dict_items.dictOf;refine IM (IV (IM (IM (Fq g1 g3 (x:=.ref d) rfl (IV (IM ?_))))));unfold Builtin.Dict_items.newIterator;refine IM (Gx h1 h3 (IM (Az h1 h3 ?_)));simp only[show Builtin.Dict_items.ownsTuple "dict_itemiterator"=true from by decide,xm];refine IP (IV ⟨_,rfl,"dict_itemiterator",_,⟨_,HR _ rfl,rfl⟩,Co.lookup,?_⟩) (by simp only[sizeOk,Builtin.Dict_items.ownedTupleFields,yQ,Af,sC,yX,HQ];omega);simpa[rawInt,Builtin.Dict_items.ownedTupleFields] using hQ
theorem adt {ok ov:Value}{Q:Option Value->Shared->Prop}(hit:IsItemIter s.heap it d i es.size ep ok ov)(r:Raw s.heap d es ep)(hi:i<es.size)
 (hQ:∀h',IsItemIterOut h' it d (i+1) es.size ep es[i].key es[i].val s.heap.objs.size->h'.get? s.heap.objs.size=some {cls:=.type "tuple",data:=.seq #[es[i].key,es[i].val]}->h'.objs.size=s.heap.objs.size+1 →
  (∀b o,b≠it->s.heap.get? b=some o->h'.get? b=some o)->Q (some (.ref s.heap.objs.size)) {s with heap:=h'}):wpAny (model prog w) A (pyNext (.ref it)) Q E s:=by
 obtain⟨hp,g,dr,tk,os⟩:=s;obtain⟨o,h1,h2,h3⟩:=r.ex;have hT:Shared.TypeIs ⟨hp,g,dr,tk,os⟩ (.ref it) "dict_itemiterator":=⟨_,hit,rfl⟩;unfold pyNext;refine IM (uL (xO (name:=Str.ofString "__next__") hT Co (BU Co hT zc ?_ (Gv _))));refine IM (IV (IM (IM ?_)))
 first|refine IM (HD hT (IV (IM (yR hit rfl ?_))))|refine IM (Ei hT (IV (IM (yR hit rfl ?_))))
 simp only[show Builtin.Dict_items.ownsTuple "dict_itemiterator"=true from by decide,xm];show wpAny _ _ (if(Value.ref d==Value.none)=true then _ else _) _ _ _;rw[DW (show ¬((Value.ref d==Value.none)=true) from FO)];refine IM (IV (IM (Gx h1 h3 ?_)));rw[DW (by simp)];refine IM (IV (IM (Az h1 h3 ?_)));rw[DW (by simp)];refine IV ?_;simp only[show ¬((i:Int)<0) from by omega,EG,xf,Array.getElem?_eq_getElem hi];refine IM ?_
 first|refine IM (HD hT (IV (IM (sd hT ?_))))|refine IM (Ei hT (IV (IM (sd hT ?_))))
 show wpAny _ _ (setField (.ref it) 3 (rawInt ((i:Int)+1))>>=_) _ _ ⟨hp,g,dr,tk,os⟩;refine IM (zY hit (by simp) λk1 e1 (b1:Heap.SameBut it hp k1)=>?_)
 have q1:IsItemIter k1 it d (i+1) es.size ep ok ov:=by
  unfold IsItemIter;rw[show((i+1:Nat):Int)=(i:Int)+1 by omega];simpa[rawInt] using e1
 have t1:Shared.TypeIs ⟨k1,g,dr,tk,os⟩ (.ref it) "dict_itemiterator":=⟨_,q1,rfl⟩;refine IM (CN (IM (sd t1 (IM (sd t1 ?_)))));show wpAny _ _ (Builtin.Dict_items.pairFromOwner (.ref it) 6 es[i].key es[i].val) _ _ ⟨k1,g,dr,tk,os⟩;unfold Builtin.Dict_items.pairFromOwner;refine IM (Ed ?_);have q2:IsItemIter (k1.push {cls:=.type "tuple",data:=.seq #[es[i].key,es[i].val]}) it d (i+1) es.size ep ok ov:=xQ _ q1;have z1:k1.objs.size=hp.objs.size:=b1.1;have ne:hp.objs.size≠it:=EB (EL hit)
 have w2:(k1.push {cls:=.type "tuple",data:=.seq #[es[i].key,es[i].val]}).get? hp.objs.size=some {cls:=.type "tuple",data:=.seq #[es[i].key,es[i].val]}:=by rw[<-z1];exact HR _ rfl
 have z2:(k1.push {cls:=.type "tuple",data:=.seq #[es[i].key,es[i].val]}).objs.size=hp.objs.size+1:=by rw[F4,z1]
 have p2:∀b o,b≠it->hp.get? b=some o->(k1.push {cls:=.type "tuple",data:=.seq #[es[i].key,es[i].val]}).get? b=some o:=λb o hb e=>xQ _ (b1.extBut b o hb e);show wpAny _ _ (Builtin.Dict_items.ownedTupleIsFree (.ref it)>>=_) _ _ ⟨k1.push {cls:=.type "tuple",data:=.seq #[es[i].key,es[i].val]},g,dr,tk,os⟩;rw[z1];generalize k1.push {cls:=.type "tuple",data:=.seq #[es[i].key,es[i].val]}=k2 at q2 w2 z2 p2 |-;unfold Builtin.Dict_items.ownedTupleIsFree;refine IM (IM (Fq q2 rfl (x:=.none) rfl (IV ?_)));simp only[xm];refine IM (Fq q2 rfl (x:=ok) rfl (IM (Fq q2 rfl (x:=ov) rfl (IM (zY q2 (by simp) λk3 e3 (b3:Heap.SameBut it k2 k3)=>?_)))));have q3:IsItemIter k3 it d (i+1) es.size ep es[i].key ov:=e3;refine IM (zY q3 (by simp) λk4 e4 (b4:Heap.SameBut it k3 k4)=>?_);have q4:IsItemIter k4 it d (i+1) es.size ep es[i].key es[i].val:=e4;refine IM (zY q4 (by simp) λk5 e5 (b5:Heap.SameBut it k4 k5)=>?_);have q5:IsItemIterOut k5 it d (i+1) es.size ep es[i].key es[i].val hp.objs.size:=e5;refine IM (zY q5 (by simp) λk6 e6 (b6:Heap.SameBut it k5 k6)=>?_);have q6:IsItemIterOut k6 it d (i+1) es.size ep es[i].key es[i].val hp.objs.size:=e6;have go:∀b o,b≠it->k2.get? b=some o->k6.get? b=some o:=λb o hb e=>b6.extBut b o hb (b5.extBut b o hb (b4.extBut b o hb (b3.extBut b o hb e)));exact IM (jU (IV (IV ⟨_,rfl,IV (hQ k6 q6 (go _ _ ne w2) (by show k6.objs.size=hp.objs.size+1;rw[b6.1,b5.1,b4.1,b3.1,z2]) λb o hb e=>go b o hb (p2 b o hb e))⟩)))
theorem adu {ok ov:Value}{Q:Option Value->Shared->Prop}(hh:A.handled=none)(hit:IsItemIter s.heap it d i es.size ep ok ov)(r:Raw s.heap d es ep)(hi:es.size<=i)
 (hQ:∀h',Heap.ExtBut it s.heap h'->Q none {s with heap:=h'}):wpAny (model prog w) A (pyNext (.ref it)) Q E s:=by
 obtain⟨o,h1,h2,h3⟩:=r.ex;have hT:s.TypeIs (.ref it) "dict_itemiterator":=⟨_,hit,rfl⟩;unfold pyNext;refine IM (uL (xO (name:=Str.ofString "__next__") hT Co (BU Co hT zc ?_ (Gv _))));refine IM (IV (IM (IM ?_)))
 first|refine IM (HD hT (IV (IM (yR hit rfl ?_))))|refine IM (Ei hT (IV (IM (yR hit rfl ?_))))
 simp only[show Builtin.Dict_items.ownsTuple "dict_itemiterator"=true from by decide,xm];show wpAny _ _ (if(Value.ref d==Value.none)=true then _ else _) _ _ _;rw[DW (show ¬((Value.ref d==Value.none)=true) from FO)];refine IM (IV (IM (Gx h1 h3 ?_)));rw[DW (by simp)];refine IM (IV (IM (Az h1 h3 ?_)));rw[DW (by simp)];refine IV ?_;simp only[show ¬((i:Int)<0) from by omega,EG,xf,pL hi];refine IM ?_
 first|refine IM (HD hT (IV ?_))|refine IM (Ei hT (IV ?_))
 show wpAny _ _ (setField (.ref it) 2 .none>>=_) _ _ s;refine IM (Aq hit rfl (by simp) ?_);show wpAny _ _ (newExc (.type "StopIteration") []>>=_) _ _ _;refine IM ?_;simp only[newExc,newTuple];refine IM (IP (IM (m:=firstArgMember _ _) (Cv (a:=Value.none) (by first|rfl|(simp only[firstArgMember];rfl)) (IP ?_ (by size_fits)))) (by size_fits));simp only[raiseNew];refine IM (xY ?_);rw[show A.in1.handled=none from hh];refine IM (IV (wpAny_throw ?_));refine IM (NI (T:="StopIteration") (b:=true) ⟨_,HR _ rfl,rfl⟩ zB ?_);exact IV (hQ _ (((Ai ..).extBut.push _).push _))
theorem adA {Q:zQ}(r:Raw s.heap d es ep)(hd:(d==sysModules)=false)
 (hQ:Q (.ref s.heap.objs.size) {s with heap:=s.heap.push {cls:=.type "dict_keyiterator",data:=.fields #[.ref d,.int 0 0,.int es.size 0,.int ep 0]} }):wpAny (model prog w) A (pyIter (.ref d)) Q E s:=by
 obtain⟨o,h1,h2,h3⟩:=r.ex;refine rO r.ty F.slot_dict_iter (BU F.slot_dict_iter r.ty F.entry_dict_iter ?_ (F.args_dict_iter_1 _));unfold Builtin.«dict.__iter__» Builtin.Dict.dictSlotNone;refine IM (IM (wpAny_notOrdered_dict r.ty (?_:wpAny _ _ (pure (Value.ref d)) _ _ s)));refine IV ?_;show wpAny _ _ (Builtin.Dict.showsAll d>>=_) _ _ s;unfold Builtin.Dict.showsAll;rw[DW (by rw[hd];exact FO)];refine IM (IV (IM (Gx h1 h3 (IM (Az h1 h3 (IM (IP (IV ⟨_,rfl,"dict_keyiterator",_,⟨_,HR _ rfl,rfl⟩,Fi.lookup,?_⟩))))))));simpa[rawInt] using hQ
theorem adB {Q:Option Value->Shared->Prop}(hit:s.heap.IsKeyIter it d i es.size ep)(r:Raw s.heap d es ep)(hi:i<es.size)
 (hQ:∀h',h'.IsKeyIter it d (i+1) es.size ep->Heap.SameBut it s.heap h'->Q (some es[i].key) {s with heap:=h'}):wpAny (model prog w) A (pyNext (.ref it)) Q E s:=by
 obtain⟨oi,g1,g2,g3⟩:=id hit;obtain⟨o,h1,h2,h3⟩:=r.ex;have hT:=hit.typeIs;unfold pyNext;refine IM (uL (xO (name:=Str.ofString "__next__") hT Fi (BU Fi hT D5 ?_ (EJ _))));refine IM (IV (IM (IM ?_)))
 first|refine IM (GQ hT (IV (IM (yR g1 g3 ?_))))|refine IM (Bj hT (IV (IM (yR g1 g3 ?_))))
 simp only[show Builtin.Dict_items.ownsTuple "dict_keyiterator"=false from by decide,FU,EG];show wpAny _ _ (if(Value.ref d==Value.none)=true then _ else _) _ _ _;rw[DW (show ¬((Value.ref d==Value.none)=true) from FO)];refine IM (IV (IM (Gx h1 h3 ?_)));rw[DW (by simp)];refine IM (IV (IM (Az h1 h3 ?_)));rw[DW (by simp)];refine IV ?_;simp only[show ¬((i:Int)<0) from by omega,EG,xf,Array.getElem?_eq_getElem hi];refine IM ?_
 first|refine IM (GQ hT (IV (IM (xu hT ?_))))|refine IM (Bj hT (IV (IM (xu hT ?_))))
 show wpAny _ _ (setField (.ref it) 1 (rawInt ((i:Int)+1))>>=_) _ _ s;refine IM (Aq g1 g3 (by simp) ?_);have q1:(s.heap.update it (Obj.mapFields (·.setIfInBounds 1 (rawInt ((i:Int)+1))))).IsKeyIter it d (i+1) es.size ep:=⟨_,mX _ g1 (Ba (zE g3 _)),(Au ..).trans g2,by rw[zE g3];simp[rawInt]⟩;refine IM (CN (IM (xu (s:={s with heap:=s.heap.update it (Obj.mapFields (·.setIfInBounds 1 (rawInt ((i:Int)+1))))}) q1.typeIs (?_:wpAny _ _ (pure es[i].key) _ _ _))));exact IV (IV ⟨_,rfl,IV (hQ _ q1 (Ai ..))⟩)
theorem adC {Q:Option Value->Shared->Prop}(hh:A.handled=none)(hit:s.heap.IsKeyIter it d i es.size ep)(r:Raw s.heap d es ep)(hi:es.size<=i)
 (hQ:∀h',Heap.ExtBut it s.heap h'->Q none {s with heap:=h'}):wpAny (model prog w) A (pyNext (.ref it)) Q E s:=by
 obtain⟨oi,g1,g2,g3⟩:=id hit;obtain⟨o,h1,h2,h3⟩:=r.ex;have hT:=hit.typeIs;unfold pyNext;refine IM (uL (xO (name:=Str.ofString "__next__") hT Fi (BU Fi hT D5 ?_ (EJ _))));refine IM (IV (IM (IM ?_)))
 first|refine IM (GQ hT (IV (IM (yR g1 g3 ?_))))|refine IM (Bj hT (IV (IM (yR g1 g3 ?_))))
 simp only[show Builtin.Dict_items.ownsTuple "dict_keyiterator"=false from by decide,FU,EG];show wpAny _ _ (if(Value.ref d==Value.none)=true then _ else _) _ _ _;rw[DW (show ¬((Value.ref d==Value.none)=true) from FO)];refine IM (IV (IM (Gx h1 h3 ?_)));rw[DW (by simp)];refine IM (IV (IM (Az h1 h3 ?_)));rw[DW (by simp)];refine IV ?_;simp only[show ¬((i:Int)<0) from by omega,EG,xf,pL hi];refine IM ?_
 first|refine IM (GQ hT (IV ?_))|refine IM (Bj hT (IV ?_))
 show wpAny _ _ (setField (.ref it) 0 .none>>=_) _ _ s;refine IM (Aq g1 g3 (by simp) ?_);show wpAny _ _ (newExc (.type "StopIteration") []>>=_) _ _ _;refine IM ?_;simp only[newExc,newTuple];refine IM (IP (IM (m:=firstArgMember _ _) (Cv (a:=Value.none) (by first|rfl|(simp only[firstArgMember];rfl)) (IP ?_ (by size_fits)))) (by size_fits));simp only[raiseNew];refine IM (xY ?_);rw[show A.in1.handled=none from hh];refine IM (IV (wpAny_throw ?_));refine IM (NI (T:="StopIteration") (b:=true) ⟨_,HR _ rfl,rfl⟩ zB ?_);exact IV (hQ _ (((Ai ..).extBut.push _).push _))
end
end Mf
namespace L2
open PySem PySem.Spec PyProof.Rows PySem.W
noncomputable abbrev p8 (o:Obj)(IY:List (List Key×V)):HO:=.frz o (.dT IY)
noncomputable def Hs (d:Addr)(o:Obj)(IY:List (List Key×V)):It :=
 ⟨λi H=>i<IY.length/\H d=some (p8 o IY),λi H x H'=>∃p b k v,IY[i]?=some (k,v)/\H p=none/\H b=some (.tup (k.map kV))/\x=.ref p/\H'=upd H p (.tup [.ref b,v]),λi H=>IY.length<=i/\H d=some (p8 o IY)⟩
noncomputable def HS (d:Addr)(o:Obj)(IY:List (List Key×V)):It :=
 ⟨λi H=>i<IY.length/\H d=some (p8 o IY),λi H x H'=>∃b k v,IY[i]?=some (k,v)/\H b=some (.tup (k.map kV))/\x=.ref b/\H'=H,λi H=>IY.length<=i/\H d=some (p8 o IY)⟩
theorem kU {α β:Type}{R:α->β->Prop}:∀{l:List α}{m:List β}{i:Nat}{a:α},Paired R l m->l[i]?=some a->∃b,m[i]?=some b/\R a b
 |_,_,_,_,.nil,e=>by simp at e
 |_,_,0,_,.cons r _,e=>by simp at e;subst e;exact⟨_,rfl,r⟩
 |_,_,i+1,a,.cons _ t,e=>by
  obtain⟨b,h1,h2⟩:=kU (i:=i) (a:=a) t (by simpa using e);exact⟨b,by simpa using h1,h2⟩
section
variable {X:Cx}{pins:List (Addr×Obj)}{σ:St}{H:Hp}{s:qm}{d:Addr}{o:Obj}{IY:List (List Key×V)}
theorem jd (I:Inv X pins σ H s)(e:H d=some (p8 o IY)):∃es ep,o.data=.dict es ep/\Mf.Raw s.heap d es ep/\es.size=IY.length/\(d==sysModules)=false /\
 ∀(i:Nat)(hi:i<es.size) k v,IY[i]?=some (k,v)->∃b,es[i].key=.ref b/\H b=some (.tup (k.map kV))/\aE v es[i].val:=by
 obtain⟨h0,z,y,xs,r,o',es,ep,h1,h2,h3,h4,h5⟩:=(show a9 X.prog X.w H s.heap d (p8 o IY) from I.hok d _ e);rw[h0] at h1
 cases h1
 have hl:es.size=IY.length:=by
  rw[<-Ht,h4,wC];exact(zX r).symm
 refine⟨es,ep,h3,⟨_,h0,h2,h3⟩,hl,y,λi hi k v hk=>?_⟩;obtain⟨q,hq,e1,e2,e3⟩:=kU r hk
 have z1:es.toList[i]?=some (entryOfKey (tupleKind (bR X.prog X.w)) q):=by rw[h4,BC,hq];rfl
 have z2:es[i]=entryOfKey (tupleKind (bR X.prog X.w)) q:=by
  have z3:es.toList[i]?=some es[i]:=by simp[hi]
  rw[z3] at z1;exact Option.some.inj z1
 rw[z2];exact⟨q.2.1,rfl,e2,e3⟩
theorem Inv.freeze (I:Inv X pins σ H s)(e:H d=some (.dT IY)):∃o,s.heap.get? d=some o/\Inv X pins σ (upd H d (p8 o IY)) s:=by
 obtain⟨z,y,xs,r,o,es,ep,h1,h2⟩:=(show a9 X.prog X.w H s.heap d (.dT IY) from I.hok d _ e);refine⟨o,h1,I.write (t':=s.toks) (h':=s.heap) (x:=d) (e:=d) (o:=p8 o IY) (by rw[e];exact True.intro) (.inl rfl) (λ_ _ _ q=>q) ⟨o,h1⟩ ⟨h1,z,y,xs,?_,o,es,ep,h1,h2⟩⟩;exact Paired.ahM r λp q w=>⟨w.1,by rw[au (nt w.2.1 e (by intro z;cases z))];exact w.2.1,w.2.2⟩
end
variable {P:A9}{w:World}{K:Frag}{elts:Hy}{x1:Nat}{tp:Pos}
theorem adF (d it:Addr)(o:Obj)(IY:List (List Key×V))(es:Array DictEntry)(ep:Nat)(ho:o.data=.dict es ep):Turn P w K (.Tuple elts x1 tp) (Hs d o IY) [it] it (λi h=>∃ok ov,IsItemIter h it d i es.size ep ok ov) where
 mem:=by simp
 obj:=λi h st b hb=>by
  have e:b=it:=by simpa using hb
  subst e;obtain⟨ok,ov,e⟩:=st;exact⟨_,e,λv z=>by cases z⟩
 keep:=λi h h' st k=>let⟨ok,ov,e⟩:=st;⟨ok,ov,k it (by simp) _ e⟩
 item:=by
  intro X hP hw hK hc i pins s σ H E I hf st hg;subst hP hw hK;obtain⟨Jb,hd⟩:=hg;obtain⟨ok,ov,hit⟩:=st;obtain⟨es',Nl,JE,raw,hl,hm,Qh⟩:=jd I hd;rw[ho] at JE
  cases JE
  obtain⟨f0,f1,f2,f3,f4,f5⟩:=hf it (by simp)
  have hi:i<es.size:=by omega
  refine Mf.adt hit raw hi λh' q1 q2 q3 q4=>?_;obtain⟨⟨k,v⟩,hk⟩:∃kv,IY[i]?=some kv:=⟨IY[i],by simp[Jb]⟩;obtain⟨b,eb,hb,rv⟩:=Qh i hi k v hk;refine⟨_,rfl,wpAny_letOwnedTupleGo_items (s:={s with heap:=h'}) q1 λh2 q5 q6=>?_⟩;have Mv:s.heap.objs.size≠it:=EB (EL hit);have I1:Inv X pins σ H {s with heap:=h2}:=I.turned (t':=s.toks) (λb o hb e=>(q6.2 b hb).trans (q4 b o hb e)) f0 f1 f3 f4 f5;have tup:h2.get? s.heap.objs.size=some {cls:=.type "tuple",data:=.seq #[es[i].key,es[i].val]}:=(q6.2 _ Mv).trans q2;have fr:H s.heap.objs.size=none:=I.hok.fresh (AY _)
  have I2:Inv X pins σ (upd H s.heap.objs.size (.tup [.ref b,v])) {s with heap:=h2}:=by
   refine⟨I1.ok,I1.os,I1.bare,?_,I1.loc,I1.cell,?_,λx c e=>?_,λp hp=>?_,dE I1.hok fr ⟨by show 2<=sizeLine;decide,[.ref b,es[i].val],.cons rfl (.cons rv .nil),?_⟩,I1.len⟩
   ·have u:=I1.base;refine⟨u.keep,u.slot,λb' o' e n hx=>?_,u.there,λb' xs e=>?_,λb' o' u' e=>?_,λb' ps e=>?_⟩
    ·have ne:b'≠s.heap.objs.size:=Ho (HG (EL e) I.sz);rw[au ne];exact u.free b' o' e n hx
    ·rw[au (ax (u.agf b' xs e) fr)];exact u.agf b' xs e
    ·rw[au (ax (u.age b' o' u' e) fr)];exact u.age b' o' u' e
    ·obtain⟨m,q⟩:=u.agp b' ps e;exact⟨m,by rw[au (ax q fr)];exact q⟩
   ·rw[au (Ho I.lt)];exact I1.free
   ·obtain⟨v',q⟩:=I.cell x c e;rw[au (Ho q.lt)];exact I1.aga x c e
   ·obtain⟨e,n,r⟩:=I1.pin p hp;have lt:p.1<s.heap.objs.size:=EL (I.pin p hp).1;exact⟨e,by rw[au (Ho lt)];exact n,r⟩
   ·exact⟨_,tup,rfl,0,by rw[<-eb]⟩
  refine⟨.ref s.heap.objs.size,_,I2,rfl,⟨s.heap.objs.size,b,k,v,hk,fr,hb,rfl,rfl⟩,⟨_,_,q5⟩,λb' Jn=>?_⟩
  have e:b'=it:=by simpa using Jn
  subst e;rw[au (Hw Mv)];exact f0
 done:=by
  intro X hP hw hK hc i pins s σ H E I hf st hg;subst hP hw hK;obtain⟨Jb,hd⟩:=hg;obtain⟨ok,ov,hit⟩:=st;obtain⟨es',Nl,JE,raw,hl,hm,Qh⟩:=jd I hd;rw[ho] at JE
  cases JE
  obtain⟨f0,f1,f2,f3,f4,f5⟩:=hf it (by simp);exact Mf.adu (I.ok.hd hc) hit raw (by omega) λh' eb=>⟨rfl,I.turned (t':=s.toks) (λb o hb e=>eb b o hb e) f0 f1 f3 f4 f5⟩
 self:=λA i s Q E st h=>by
  obtain⟨ok,ov,hit⟩:=st;exact kcp_self hit h
theorem adH {tg:Expr}(d it:Addr)(o:Obj)(IY:List (List Key×V))(es:Array DictEntry)(ep:Nat)(ho:o.data=.dict es ep):Turn P w K tg (HS d o IY) [it] it (λi h=>h.IsKeyIter it d i es.size ep) where
 mem:=by simp
 obj:=λi h st b hb=>by
  have e:b=it:=by simpa using hb
  subst e;obtain⟨o,e,c,d⟩:=st;exact⟨o,e,λv z=>by rw[d] at z;cases z⟩
 keep:=λi h h' st k=>st.at λo e=>k it (by simp) o e
 item:=by
  intro X hP hw hK hc i pins s σ H E I hf st hg;subst hP hw hK;obtain⟨Jb,hd⟩:=hg;obtain⟨es',Nl,JE,raw,hl,hm,Qh⟩:=jd I hd;rw[ho] at JE
  cases JE
  obtain⟨f0,f1,f2,f3,f4,f5⟩:=hf it (by simp)
  have hi:i<es.size:=by omega
  refine Mf.adB st raw hi λh' q1 q2=>?_;obtain⟨⟨k,v⟩,hk⟩:∃kv,IY[i]?=some kv:=⟨IY[i],by simp[Jb]⟩;obtain⟨b,eb,hb,rv⟩:=Qh i hi k v hk;have I1:Inv X pins σ H {s with heap:=h'}:=I.turned (t':=s.toks) (λb o hb e=>(q2.2 b hb).trans e) f0 f1 f3 f4 f5;obtain⟨oi,e,c,dd⟩:=id q1;exact⟨_,rfl,vm (s:={s with heap:=h'}) e c dd (by decide) ⟨.ref b,H,I1,eb,⟨b,k,v,hk,hb,rfl,rfl⟩,q1,λb hb=>(hf b hb).1⟩⟩
 done:=by
  intro X hP hw hK hc i pins s σ H E I hf st hg;subst hP hw hK;obtain⟨Jb,hd⟩:=hg;obtain⟨es',Nl,JE,raw,hl,hm,Qh⟩:=jd I hd;rw[ho] at JE
  cases JE
  obtain⟨f0,f1,f2,f3,f4,f5⟩:=hf it (by simp);exact Mf.adC (I.ok.hd hc) st raw (by omega) λh' eb=>⟨rfl,I.turned (t':=s.toks) (λb o hb e=>eb b o hb e) f0 f1 f3 f4 f5⟩
 self:=λ_ _ _ _ _ st h=>wpAny_pyIter_keyiter st h
noncomputable def HJ (H1:Hp)(d:Addr)(IY:List (List Key×V))(R:Obj->Hp->Prop):Prop:=(∃o,H1 d=some (p8 o IY)/\R o H1)\/(H1 d=some (.dT IY)/\∀o,R o (upd H1 d (p8 o IY)))
noncomputable def adR (td:TE):TI:=λσ H R=>td σ H λx H1=>∃d IY,x=.ref d/\HJ H1 d IY λo H2=>R (Hs d o IY) H2
noncomputable def GT (td:TE):TI:=λσ H R=>td σ H λx H1=>∃d IY,x=.ref d/\HJ H1 d IY λo H2=>R (HS d o IY) H2
section
variable {X:Cx}{pins:List (Addr×Obj)}{σ:St}{H:Hp}{s:qm}
theorem AK {d:Addr}{IY:List (List Key×V)}{R:Obj->Hp->Prop}(I:Inv X pins σ H s)(h:HJ H d IY R):∃o H2,Inv X pins σ H2 s/\H2 d=some (p8 o IY)/\R o H2:=by
 rcases h with⟨o,e,r⟩|⟨e,r⟩
 ·exact⟨o,H,I,e,r⟩
 ·obtain⟨o,_,I2⟩:=I.freeze e;exact⟨o,_,I2,ae,r o⟩
theorem adS {oe:Expr}{td:TE}{apos Jk:Pos}(ho:PE X oe td)(K9:attributeBase oe "items" X.env (eval oe X.env)=eval oe X.env:=by rfl)(La:(apos.endLine==Jk.line)=true:=by rfl):
 PI X (.Tuple elts x1 tp) (.Call (.Attribute oe "items" apos) [] [] Jk) (adR td):=by
 intro pins s σ H R I h;refine wpAny_Call_method0_late K9 La (bO (ho pins s σ H _ I h) λv s1 z'=>?_);obtain⟨x,H1,I1,r1,d,IY,ex,fz⟩:=z';subst ex
 cases(show v=Value.ref d from r1)
 obtain⟨o,H2,I2,hd,rr⟩:=AK I1 fz;obtain⟨es,ep,Vj,raw,hl,hm,_⟩:=jd I2 hd;refine⟨"dict","dict.items",PySem.F.plainAttrs_dict,PySem.F.slot_dict_items,PySem.F.type_dict_items,raw.ty,λa e=>?_,Fx rfl (PySem.evalArgs_none (Mf.adk raw hm ?_))⟩
 ·cases e
  obtain⟨o',h1,h2,_⟩:=raw.ex;exact⟨o',h1,h2.2.1⟩
 ·have I3:Inv X pins σ H2 {s1 with heap:=s1.heap.push {cls:=.type "dict_items",data:=.fields #[.ref d]} }:=I2.kept (t':=s1.toks) λb ob q=>xQ _ q;refine Mf.ads (s:={s1 with heap:=s1.heap.push {cls:=.type "dict_items",data:=.fields #[.ref d]} }) ⟨_,HR _ rfl,rfl,rfl⟩ (raw.keep λo e=>xQ _ e) ?_;generalize s1.heap.push {cls:=.type "dict_items",data:=.fields #[.ref d]}=h2 at I3 |-;refine⟨h2.objs.size,[h2.objs.size],_,Hs d o IY,H2,rfl,I3.kept (t':=s1.toks) λb ob q=>xQ _ q,adF d _ o IY es ep Vj,⟨_,_,HR _ rfl⟩,λb hb=>?_,rr⟩
  have e:b=h2.objs.size:=by simpa using hb
  subst e;exact I3.agS (AY _) (I3.hok.fresh (AY _))
theorem ad5 {tg oe:Expr}{td:TE}(ho:PE X oe td):PI X tg oe (GT td):=by
 intro pins s σ H R I h;refine bO (ho pins s σ H _ I h) λv s1 z'=>?_;obtain⟨x,H1,I1,r1,d,IY,ex,fz⟩:=z';subst ex
 cases(show v=Value.ref d from r1)
 obtain⟨o,H2,I2,hd,rr⟩:=AK I1 fz;obtain⟨es,ep,Vj,raw,hl,hm,_⟩:=jd I2 hd;refine Mf.adA raw hm ⟨s1.heap.objs.size,[s1.heap.objs.size],_,HS d o IY,H2,rfl,I2.kept (t':=s1.toks) λb ob q=>xQ _ q,adH d _ o IY es ep Vj,⟨_,HR _ rfl,rfl,rfl⟩,λb hb=>?_,rr⟩
 have e:b=s1.heap.objs.size:=by simpa using hb
 subst e;exact I2.agS (AY _) (I2.hok.fresh (AY _))
theorem Inv.aiB {s2:qm}{T:Addr}{xs:List V}{its:wW}(I:Inv X pins σ H s)(I1:Inv X pins σ H s2)(hT:s.heap.objs.size<=T)(e:s2.heap.get? T=some {cls:=.type "tuple",data:=.seq its.toArray})(r:aN xs its)(hz:xs.length<=sizeLine):
 Inv X pins σ (upd H T (.tup xs)) s2:=by
 have fr:H T=none:=I.hok.fresh hT;refine⟨I1.ok,I1.os,I1.bare,?_,I1.loc,I1.cell,?_,λx c e=>?_,λp hp=>?_,dE I1.hok fr ⟨hz,its,r,⟨_,e,rfl,0,rfl⟩⟩,I1.len⟩
 ·have u:=I1.base;refine⟨u.keep,u.slot,λb' o' e n hx=>?_,u.there,λb' xs e=>?_,λb' o' u' e=>?_,λb' ps e=>?_⟩
  ·have ne:b'≠T:=Ho (HG (EL e) (GC I.sz hT));rw[au ne];exact u.free b' o' e n hx
  ·rw[au (ax (u.agf b' xs e) fr)];exact u.agf b' xs e
  ·rw[au (ax (u.age b' o' u' e) fr)];exact u.age b' o' u' e
  ·obtain⟨m,q⟩:=u.agp b' ps e;exact⟨m,by rw[au (ax q fr)];exact q⟩
 ·rw[au (Ho (HG I.lt hT))];exact I1.free
 ·obtain⟨v',q⟩:=I.cell x c e;rw[au (Ho (HG q.lt hT))];exact I1.aga x c e
 ·obtain⟨e,n,r⟩:=I1.pin p hp;have lt:p.1<s.heap.objs.size:=EL (I.pin p hp).1;exact⟨e,by rw[au (Ho (HG lt hT))];exact n,r⟩
theorem Inv.agX {h':Heap}{t':Nat}{ch:List Addr}(I:Inv X pins σ H s)(k:∀b o,b∉ch->s.heap.get? b=some o->h'.get? b=some o)(hf:∀b∈ch,cK X pins H b):Inv X pins σ H {s with heap:=h',toks:=t'}:=by
 have Mv:∀b u,H b=some u->b∉ch:=λb u e z=>by rw[(hf b z).1] at e;cases e
 refine I.step (g':=s.gens) (d':=s.drawn) (ch:=ch) (λb hb=>?_) (λb o _ _ hc e _=>k b o hc e) (λb o _ _ hc e _=>⟨o.slots,k b o hc e⟩) (λ_ _ _ _ n=>n)
  (λb o hc e=>⟨o,k b o hc e⟩) (λ_ _ e=>e) (λ_ _ _ e=>e) (λb ps e=>⟨#[],by rw[e];simp⟩) (λm hm=>?_) (λb u e=>?_) I.bare
 ·obtain⟨f0,f1,f2,f3,f4,f5⟩:=hf b hb;exact⟨f3,f1,f4,f5⟩
 ·obtain⟨o,es,ep,ho,r⟩:=hm;exact⟨o,es,ep,k _ o (λz=>(hf _ z).2.1 rfl) ho,r⟩
 ·refine(I.hok b u e).agR (λc v hc q=>k c v ?_ q) (λ_ q=>q) λ_ _ q=>q
  rcases hc with z|z
  ·rw[z];exact Mv b u e
  ·exact Mv c _ z
end
noncomputable def Hm (K:Frag)(a:Addr):It :=
 ⟨λi H=>∃xs x,aW K H a xs/\xs[i]?=some x,λi H x H'=>∃T y,(∀xs,aW K H a xs->xs[i]?=some y)/\H T=none/\x=.ref T/\H'=upd H T (.tup [.int i,y]),λi H=>∃xs,aW K H a xs/\xs.length<=i⟩
theorem ae1 (a e it:Addr)(Jt:e≠it):Turn P w K (.Tuple elts x1 tp) (Hm K a) [e,it] e (λi h=>∃old,IsEnum h e it i old/\h.IsListIter it a i) where
 mem:=by simp
 obj:=λi h st b hb=>by
  obtain⟨old,h1,o,h2,_,h3⟩:=st
  rcases(by simpa using hb:b=e\/b=it) with z|z
  ·subst z;exact⟨_,h1,λv z=>by cases z⟩
  ·subst z;exact⟨o,h2,λv z=>by rw[h3] at z;cases z⟩
 keep:=λi h h' st k=>let⟨old,h1,h2⟩:=st;⟨old,k e (by simp) _ h1,h2.at λo q=>k it (by simp) o q⟩
 item:=by
  intro X hP hw hK hc i pins s σ H E I hf st hg;subst hP hw hK;obtain⟨xs,x,hq,hx⟩:=hg;obtain⟨its,rv,p,hz⟩:=I.list hq;obtain⟨u,hu,ru⟩:=rv.get hx;obtain⟨old,he,hit⟩:=st;refine wpAny_pyNext_enum_item he hit p.isList (x:=u) (by simpa using hu) Jt λh' q1 q2 q3 q4 q5=>?_;refine⟨_,rfl,wpAny_letOwnedTupleGo_enum (s:={s with heap:=h',toks:=s.toks+1}) q1 λh2 q6 q7=>?_⟩;have Qi:s.heap.objs.size≠e:=EB (EL he)
  have I1:Inv X pins σ H {s with heap:=h2,toks:=s.toks+1}:=I.agX (t':=s.toks+1) (ch:=[e,it]) (λb o hb z=>by
   have Jn:b≠e/\b≠it:=by simpa using hb
   exact(q7.2 b Jn.1).trans (q5 b o Jn.1 Jn.2 z)) hf
  have tup:h2.get? s.heap.objs.size=some {cls:=.type "tuple",data:=.seq #[.int i s.toks,u]}:=(q7.2 _ Qi).trans q3;have fr:H s.heap.objs.size=none:=I.hok.fresh (AY _);have I2:=I.aiB (xs:=[.int i,x]) (its:=[.int i s.toks,u]) I1 (AY _) tup (.cons ⟨_,rfl⟩ (.cons ru .nil)) jP;refine⟨.ref s.heap.objs.size,_,I2,rfl,⟨s.heap.objs.size,x,λys hy=>by rw[I.ag0 hy hq];exact hx,fr,rfl,rfl⟩,⟨u,q6,q2.at λo q=>(q7.2 _ (Hw Jt)).trans q⟩,λb hb=>?_⟩
  have nb:b≠s.heap.objs.size:=by
   rcases(by simpa using hb:b=e\/b=it) with z|z
   ·subst z;exact Hw Qi
   ·subst z;obtain⟨o,q,_⟩:=hit;exact Ho (EL q)
  rw[au nb];exact(hf b hb).1
 done:=by
  intro X hP hw hK hc i pins s σ H E I hf st hg;subst hP hw hK;obtain⟨xs,hq,hx⟩:=hg;obtain⟨its,rv,p,hz⟩:=I.list hq;have hl:=rv.length;obtain⟨old,he,hit⟩:=st;obtain⟨f0,f1,f2,f3,f4,f5⟩:=hf it (by simp);exact wpAny_pyNext_enum_end (I.ok.hd hc) he hit p.isList (by simp;omega) λh' eb=>⟨rfl,I.turned (t':=s.toks) (λb o hb e=>eb b o hb e) f0 f1 f3 f4 f5⟩
 self:=λ_ _ _ _ _ st h=>let⟨old,h1,_⟩:=st;F5 h1 h
noncomputable def ae9 (K:Frag)(tl:TE):TI:=λσ H R=>c5 tl Ct σ H λvs H1=>∃a xs,vs=[.ref a]/\aW K H1 a xs/\R (Hm K a) H1
theorem afm {X:Cx}{l:Expr}{tl:TE}{p pos:Pos}(hl:PE X l tl)(hg:Gl X "enumerate")(hm:X.mg "enumerate"=none)(hs:fY l=false:=by rfl):
 PI X (.Tuple elts x1 tp) (.Call (.Name "enumerate" p) [l] [] pos) (ae9 X.K tl):=by
 intro pins s σ H R I h;refine yD (eK I hg hm (by rfl) ?_ (by decide) (by decide));refine BE (bO (ao hl ah hs pos pins s σ H _ I h) λus s1 z'=>?_) (bq hs) rfl;obtain⟨vs,H1,I1,r1,a,xs,hv,hq,rr⟩:=z';subst hv;obtain⟨u,rfl,ru⟩:=eY r1
 cases(show u=Value.ref a from ru)
 obtain⟨its,rv,pl,hz⟩:=I1.list hq;refine call_enumerate_list pl.isList λh' q1 q2 q3 q4=>?_;have I2:Inv X pins σ H1 {s1 with heap:=h'}:=I1.kept (t':=s1.toks) q4;refine F5 (s:={s1 with heap:=h'}) q1 ?_;refine⟨s1.heap.objs.size+1,[s1.heap.objs.size+1,s1.heap.objs.size],_,Hm X.K a,H1,rfl,I2,ae1 a _ _ (Cu _),⟨_,q1,q2⟩,λb hb=>?_,rr⟩
 have Jn:s1.heap.objs.size<=b:=by
  rcases(by simpa using hb:b=s1.heap.objs.size+1\/b=s1.heap.objs.size) with z|z
  ·rw[z];exact BK _
  ·rw[z];exact AY _
 exact I1.agS Jn (I1.hok.fresh Jn)
end L2
namespace Zp
open PySem PyProof.Rows
section
variable {prog:A9}{w:World}{A:Around}{E:zQ}{s:qm}
theorem iG {it t:Addr}{i:Nat}{items:IU}{x:Value}{Q:zQ}(hit:s.heap.IsTupleIter it t i)(ht:s.heap.IsTuple t items)(hx:items[i]?=some x)
 (hQ:∀h',h'.IsTupleIter it t (i+1)->Heap.SameBut it s.heap h'->Q x {s with heap:=h'}):wpAny (model prog w) A (Builtin.SmallTypes.nextOf (.ref it)) Q E s:=by
 obtain⟨o,ho,hc,hd⟩:=id hit;obtain⟨ol,Qj,_,nl,Qk⟩:=ht;unfold Builtin.SmallTypes.nextOf;refine IM (xO (name:=Str.ofString "__next__") hit.typeIs uh (BU uh hit.typeIs F.entry_tuple_iterator_next ?_ (BM _)));show wpAny _ _ (field (.ref it) 0>>=_) _ _ s;refine IM (Fq ho hd (x:=.ref t) rfl ?_);show wpAny _ _ (if(Value.ref t==Value.none)=true then _ else _) _ _ s;rw[DW (show ¬((Value.ref t==Value.none)=true) from FO)];show wpAny _ _ (field (.ref it) 1>>=_) _ _ s;refine IM (Fq ho hd (x:=.int i 0) rfl ?_);show wpAny _ _ (seqItems? (.ref t)>>=_) _ _ s;refine IM (mO Qj Qk ?_);simp only[xf,hx];refine IM (Aq ho hd (by simp) (IV ⟨x,rfl,IV (hQ _ ?_ (Ai ..))⟩));exact⟨_,mX _ ho (Ba (zE hd _)),(Au ..).trans hc,by rw[zE hd];simp[rawInt]⟩
theorem pO {it t:Addr}{i:Nat}{items:IU}{Q:zQ}(hh:A.handled=none)(hit:s.heap.IsTupleIter it t i)(ht:s.heap.IsTuple t items)(hx:items[i]?=none)
 (hE:∀h' e,Heap.ExtBut it s.heap h'->(∃o,h'.get? e=some o/\o.cls=.type "StopIteration")->E (.ref e) {s with heap:=h'}):wpAny (model prog w) A (Builtin.SmallTypes.nextOf (.ref it)) Q E s:=by
 obtain⟨o,ho,hc,hd⟩:=id hit;obtain⟨ol,Qj,_,nl,Qk⟩:=ht;unfold Builtin.SmallTypes.nextOf;refine IM (xO (name:=Str.ofString "__next__") hit.typeIs uh (BU uh hit.typeIs F.entry_tuple_iterator_next ?_ (BM _)));show wpAny _ _ (field (.ref it) 0>>=_) _ _ s;refine IM (Fq ho hd (x:=.ref t) rfl ?_);show wpAny _ _ (if(Value.ref t==Value.none)=true then _ else _) _ _ s;rw[DW (show ¬((Value.ref t==Value.none)=true) from FO)];show wpAny _ _ (field (.ref it) 1>>=_) _ _ s;refine IM (Fq ho hd (x:=.int i 0) rfl ?_);show wpAny _ _ (seqItems? (.ref t)>>=_) _ _ s;refine IM (mO Qj Qk ?_);simp only[xf,hx];refine IM (B9 (IM (Aq ho hd (by simp) ?_)));show wpAny _ _ (newExc (.type "StopIteration") []>>=_) _ _ _;refine IM ?_;simp only[newExc,newTuple];refine IM (IP ?_ (by size_fits));refine IM (m:=firstArgMember _ _) (Cv (a:=Value.none) (by first|rfl|(simp only[firstArgMember];rfl)) ?_);refine IP ?_ (by size_fits);simp only[raiseNew];refine IM (xY ?_)
 first|rw[show A.in1.handled=none from hh]|rw[hh]
 refine IM (IV (wpAny_throw ?_));exact hE _ _ (((Ai ..).extBut.push _).push _) ⟨_,HR _ rfl,rfl⟩
end
structure Apart (z TI TO i1 i2 l1 l2:Addr):Prop where
 TIz:TI≠z
 TOz:TO≠z
 i1z:i1≠z
 i2z:i2≠z
 TITO:TI≠TO
 TIi1:TI≠i1
 TIi2:TI≠i2
 TOi1:TO≠i1
 TOi2:TO≠i2
 i12:i1≠i2
 l1n:l1 ∉ [z,TO,i1,i2]
 l2n:l2 ∉ [z,TO,i1,i2]
structure Zs (h:Heap)(z TI TO i1 i2 l1 l2:Addr)(k:Nat):Prop where
 hz:IsZip h z TI TO .none
 hTI:IsPair h TI (.ref i1) (.ref i2)
 TK:∃a b,IsPair h TO a b
 h1:h.IsTupleIter i1 l1 k
 h2:h.IsTupleIter i2 l2 k
theorem fk {h h':Heap}{i l:Addr}{k:Nat}(x:h.IsTupleIter i l k)(q:∀o,h.get? i=some o->h'.get? i=some o):h'.IsTupleIter i l k:=let⟨o,a,b⟩:=x;⟨o,q o a,b⟩
section
variable {prog:A9}{w:World}{A:Around}{E:zQ}{s:qm}{z TI TO i1 i2 l1 l2:Addr}{k:Nat}{xs ys:IU}{x y:Value}
theorem item {Q:zQ}(D:Apart z TI TO i1 i2 l1 l2)(Z:Zs s.heap z TI TO i1 i2 l1 l2 k)(JS:s.heap.IsTuple l1 xs)(JN:s.heap.IsTuple l2 ys)(hx:xs[k]?=some x)(hy:ys[k]?=some y)
 (hQ:∀h',IsZip h' z TI TO (rawInt s.heap.objs.size)->(∃a b,IsPair h' TO a b)->h'.IsTupleIter i1 l1 (k+1)->h'.IsTupleIter i2 l2 (k+1)->IsPair h' s.heap.objs.size x y →
  (∀c o,c ∉ [z,TO,i1,i2]->s.heap.get? c=some o->h'.get? c=some o)->Q (.ref s.heap.objs.size) {s with heap:=h'}):
 wpAny (model prog w) A (Builtin.«zip.__next__» ⟨[.ref z],[]⟩) (λfin s'=>∃v,fin=.done (.ret v)/\Q v s') E s:=by
 obtain⟨hz,hTI,⟨a,b,TK⟩,h1,h2⟩:=Z
 have n1:l1≠z/\l1≠TO/\l1≠i1/\l1≠i2:=by simpa using D.l1n
 have n2:l2≠z/\l2≠TO/\l2≠i1/\l2≠i2:=by simpa using D.l2n
 show wpAny _ _ (field (.ref z) 2>>=_) _ _ _;refine IM (Fq hz rfl (x:=.bool false) rfl ?_);show wpAny _ _ (field (.ref z) 3>>=_) _ _ _;refine IM (Fq hz rfl (x:=.ref TI) rfl ?_);refine IM (mO hTI rfl ?_);show wpAny _ _ (Builtin.SmallTypes.ownedTupleIsFree (.ref z)>>=_) _ _ _;refine IM ?_;unfold Builtin.SmallTypes.ownedTupleIsFree;refine IM (Fq hz rfl (x:=.none) rfl (IV ?_));simp only[xm];refine IM (B9 ?_);refine IM (Fq hz rfl (x:=.ref TO) rfl ?_);refine IM (zY hz (by simp) λg1 K5 s1=>?_)
 replace K5:IsZip g1 z TI TO .ellipsis:=K5
 refine IM ?_;simp only[List.zipIdx_cons,List.zipIdx_nil,Fv,List.forIn_nil];refine IM (IM (yP ?_));show wpAny _ _ (Builtin.SmallTypes.nextOf (.ref i1)>>=_) _ _ _;refine IM (iG (h1.extBut s1.extBut D.i1z) (JS.extBut s1.extBut n1.1) hx λg2 a2 s2=>IV ?_);have t2:IsPair g2 TO a b:=s2.extBut _ _ D.TOi1 (s1.extBut _ _ D.TOz TK);refine IM (mO t2 rfl ?_);refine IM (BI t2 λg3 t3 s3=>?_)
 replace t3:IsPair g3 TO x b:=t3
 refine IM (jU (IV ?_));refine IM (IM (yP ?_));show wpAny _ _ (Builtin.SmallTypes.nextOf (.ref i2)>>=_) _ _ _;refine IM (iG (((h2.extBut s1.extBut D.i2z).extBut s2.extBut D.i12.symm).extBut s3.extBut D.TOi2.symm) (((JN.extBut s1.extBut n2.1).extBut s2.extBut n2.2.2.1).extBut s3.extBut n2.2.1) hy λg4 a4 s4=>IV ?_);have t4:IsPair g4 TO x b:=s4.extBut _ _ D.TOi2 t3;refine IM (mO t4 rfl ?_);refine IM (BI t4 λg5 t5 s5=>?_)
 replace t5:IsPair g5 TO x y:=t5
 refine IM (jU (IV (IV ?_)));refine IM (mO t5 rfl ?_);refine IM (Ed ?_)
 have sz:g5.objs.size=s.heap.objs.size:=by rw[s5.1,s4.1,s3.1,s2.1,s1.1]
 have z5:IsZip g5 z TI TO .ellipsis:=s5.extBut _ _ D.TOz.symm (s4.extBut _ _ D.i2z.symm (s3.extBut _ _ D.TOz.symm (s2.extBut _ _ D.i1z.symm K5)))
 have k5:∀c o,c ∉ [z,TO,i1,i2]->s.heap.get? c=some o->g5.get? c=some o:=λc o hc e=>by
  have Jh:c≠z/\c≠TO/\c≠i1/\c≠i2:=by simpa using hc
  exact s5.extBut _ _ Jh.2.1 (s4.extBut _ _ Jh.2.2.2 (s3.extBut _ _ Jh.2.1 (s2.extBut _ _ Jh.2.2.1 (s1.extBut _ _ Jh.1 e))))
 have a5:g5.IsTupleIter i1 l1 (k+1):=((a2.extBut s3.extBut D.TOi1.symm).extBut s4.extBut D.i12).extBut s5.extBut D.TOi1.symm;have b5:g5.IsTupleIter i2 l2 (k+1):=a4.extBut s5.extBut D.TOi2.symm;have YU:z<g5.objs.size:=EL z5;show wpAny _ _ (Builtin.SmallTypes.ownedTupleHandOut (.ref z) (.ref g5.objs.size)>>=_) _ _ _;refine IM ?_;unfold Builtin.SmallTypes.ownedTupleHandOut;have z6:IsZip (g5.push {cls:=.type "tuple",data:=.seq #[x,y]}) z TI TO .ellipsis:=xQ _ z5;refine IM (zY z6 (by simp) λg7 z7 s7=>?_)
 replace z7:IsZip g7 z TI TO (rawInt g5.objs.size):=z7
 refine zY z7 (by simp) λg8 z8 s8=>?_
 replace z8:IsZip g8 z TI TO (rawInt g5.objs.size):=z8
 have up:∀c o,c≠z->g5.get? c=some o->g8.get? c=some o:=λc o c1 e=>s8.extBut _ _ c1 (s7.extBut _ _ c1 (xQ _ e));have t8:IsPair g8 g5.objs.size x y:=s8.extBut _ _ (EB YU) (s7.extBut _ _ (EB YU) (HR _ rfl));rw[sz] at z8 t8;refine IV ⟨_,rfl,?_⟩;show Q (.ref g5.objs.size) _;rw[sz];exact hQ g8 z8 ⟨x,y,up _ _ D.TOz t5⟩ (fk a5 λo e=>up _ o D.i1z e) (fk b5 λo e=>up _ o D.i2z e) t8 λc o hc e=>up c o (λq=>hc (by simp[q])) (k5 c o hc e)
theorem afn {Q:Fin->Shared->Prop}(hh:A.handled=none)(D:Apart z TI TO i1 i2 l1 l2)(Z:Zs s.heap z TI TO i1 i2 l1 l2 k)(JS:s.heap.IsTuple l1 xs)(JN:s.heap.IsTuple l2 ys)(NL:xs[k]?=none\/ys[k]?=none)
 (hE:∀h' e,(∀c o,c ∉ [z,TO,i1,i2]->s.heap.get? c=some o->h'.get? c=some o)->(∃o,h'.get? e=some o/\o.cls=.type "StopIteration")->E (.ref e) {s with heap:=h'}):
 wpAny (model prog w) A (Builtin.«zip.__next__» ⟨[.ref z],[]⟩) Q E s:=by
 obtain⟨hz,hTI,⟨a,b,TK⟩,h1,h2⟩:=Z
 have n1:l1≠z/\l1≠TO/\l1≠i1/\l1≠i2:=by simpa using D.l1n
 have n2:l2≠z/\l2≠TO/\l2≠i1/\l2≠i2:=by simpa using D.l2n
 show wpAny _ _ (field (.ref z) 2>>=_) _ _ _;refine IM (Fq hz rfl (x:=.bool false) rfl ?_);show wpAny _ _ (field (.ref z) 3>>=_) _ _ _;refine IM (Fq hz rfl (x:=.ref TI) rfl ?_);refine IM (mO hTI rfl ?_);show wpAny _ _ (Builtin.SmallTypes.ownedTupleIsFree (.ref z)>>=_) _ _ _;refine IM ?_;unfold Builtin.SmallTypes.ownedTupleIsFree;refine IM (Fq hz rfl (x:=.none) rfl (IV ?_));simp only[xm];refine IM (B9 ?_);refine IM (Fq hz rfl (x:=.ref TO) rfl ?_);refine IM (zY hz (by simp) λg1 K5 s1=>?_)
 replace K5:IsZip g1 z TI TO .ellipsis:=K5
 refine IM ?_;simp only[List.zipIdx_cons,List.zipIdx_nil,Fv,List.forIn_nil];refine IM (IM (yP ?_));show wpAny _ _ (Builtin.SmallTypes.nextOf (.ref i1)>>=_) _ _ _
 cases hx:xs[k]? with
 |none =>
  refine IM (pO hh (h1.extBut s1.extBut D.i1z) (JS.extBut s1.extBut n1.1) hx λg2 e s2 he=>?_);obtain⟨oe,K4,Ql⟩:=he;have z2:IsZip g2 z TI TO .ellipsis:=s2 _ _ D.i1z.symm K5
  have ez:e≠z:=λq=>by subst q;rw[z2] at K4;cases K4;simp at Ql
  refine zY z2 (by simp) λg3 _ s3=>hE g3 e (λc o hc q=>?_) ⟨oe,s3.extBut _ _ ez K4,Ql⟩
  have Jh:c≠z/\c≠TO/\c≠i1/\c≠i2:=by simpa using hc
  exact s3.extBut _ _ Jh.1 (s2 _ _ Jh.2.2.1 (s1.extBut _ _ Jh.1 q))
 |some x =>
  have hy:ys[k]?=none:=by
   rcases NL with h|h
   ·rw[hx] at h;cases h
   ·exact h
  refine IM (iG (h1.extBut s1.extBut D.i1z) (JS.extBut s1.extBut n1.1) hx λg2 a2 s2=>IV ?_);have t2:IsPair g2 TO a b:=s2.extBut _ _ D.TOi1 (s1.extBut _ _ D.TOz TK);refine IM (mO t2 rfl ?_);refine IM (BI t2 λg3 t3 s3=>?_);refine IM (jU (IV ?_));refine IM (IM (yP ?_));show wpAny _ _ (Builtin.SmallTypes.nextOf (.ref i2)>>=_) _ _ _;refine IM (pO hh (((h2.extBut s1.extBut D.i2z).extBut s2.extBut D.i12.symm).extBut s3.extBut D.TOi2.symm) (((JN.extBut s1.extBut n2.1).extBut s2.extBut n2.2.2.1).extBut s3.extBut n2.2.1) hy λg4 e s4 he=>?_);obtain⟨oe,K4,Ql⟩:=he;have z4:IsZip g4 z TI TO .ellipsis:=s4 _ _ D.i2z.symm (s3.extBut _ _ D.TOz.symm (s2.extBut _ _ D.i1z.symm K5))
  have ez:e≠z:=λq=>by subst q;rw[z4] at K4;cases K4;simp at Ql
  refine zY z4 (by simp) λg5 _ s5=>hE g5 e (λc o hc q=>?_) ⟨oe,s5.extBut _ _ ez K4,Ql⟩
  have Jh:c≠z/\c≠TO/\c≠i1/\c≠i2:=by simpa using hc
  exact s5.extBut _ _ Jh.1 (s4 _ _ Jh.2.2.2 (s3.extBut _ _ Jh.2.1 (s2.extBut _ _ Jh.2.2.1 (s1.extBut _ _ Jh.1 q))))
theorem afH {Q:Option Value->Shared->Prop}(D:Apart z TI TO i1 i2 l1 l2)(Z:Zs s.heap z TI TO i1 i2 l1 l2 k)(JS:s.heap.IsTuple l1 xs)(JN:s.heap.IsTuple l2 ys)(hx:xs[k]?=some x)(hy:ys[k]?=some y)
 (hQ:∀h',IsZip h' z TI TO (rawInt s.heap.objs.size)->(∃a b,IsPair h' TO a b)->h'.IsTupleIter i1 l1 (k+1)->h'.IsTupleIter i2 l2 (k+1)->IsPair h' s.heap.objs.size x y →
  (∀c o,c ∉ [z,TO,i1,i2]->s.heap.get? c=some o->h'.get? c=some o)->Q (some (.ref s.heap.objs.size)) {s with heap:=h'}):
 wpAny (model prog w) A (pyNext (.ref z)) Q E s:=by
 have hT:s.TypeIs (.ref z) "zip":=⟨_,Z.hz,rfl⟩;unfold pyNext
 exact IM (uL (xO (name:=Str.ofString "__next__") hT ym
  (BU ym hT F.entry_zip_next (item D Z JS JN hx hy λh' a1 a2 a3 a4 a5 a6=>IV (hQ h' a1 a2 a3 a4 a5 a6)) (F.args_zip_next_1 _))))
theorem aht {Q:Option Value->Shared->Prop}(hh:A.handled=none)(D:Apart z TI TO i1 i2 l1 l2)(Z:Zs s.heap z TI TO i1 i2 l1 l2 k)(JS:s.heap.IsTuple l1 xs)(JN:s.heap.IsTuple l2 ys)(NL:xs[k]?=none\/ys[k]?=none)
 (hQ:∀h',(∀c o,c ∉ [z,TO,i1,i2]->s.heap.get? c=some o->h'.get? c=some o)->Q none {s with heap:=h'}):wpAny (model prog w) A (pyNext (.ref z)) Q E s:=by
 have hT:s.TypeIs (.ref z) "zip":=⟨_,Z.hz,rfl⟩;unfold pyNext
 refine IM (uL (xO (name:=Str.ofString "__next__") hT ym
  (BU ym hT F.entry_zip_next (afn hh D Z JS JN NL λh' e hk he=>?_) (F.args_zip_next_1 _))))
 obtain⟨o,ho,hc⟩:=he;refine IM (NI (T:="StopIteration") (b:=true) ⟨o,ho,hc⟩ zB ?_);exact IV (hQ _ hk)
end
noncomputable abbrev g1 (h:Heap)(l1:Addr):Heap:=h.push {cls:=.type "tuple_iterator",data:=.fields #[.ref l1,.int 0 0]}
noncomputable abbrev g2 (h:Heap)(l1 l2:Addr):Heap:=(g1 h l1).push {cls:=.type "tuple_iterator",data:=.fields #[.ref l2,.int 0 0]}
noncomputable abbrev g3 (h:Heap)(l1 l2:Addr):Heap:=(g2 h l1 l2).push {cls:=.type "tuple",data:=.seq #[.ref h.objs.size,.ref (g1 h l1).objs.size]}
noncomputable abbrev g4 (h:Heap)(l1 l2:Addr):Heap:=(g3 h l1 l2).push {cls:=.type "tuple",data:=.seq #[.none,.none]}
noncomputable abbrev g5 (h:Heap)(l1 l2:Addr):Heap:=(g4 h l1 l2).push {cls:=.type "zip",data:=.fields #[.none,.bool false,.bool false,.ref (g2 h l1 l2).objs.size,.ref (g3 h l1 l2).objs.size]}
theorem agI (l1 l2:Addr)(xs ys:IU):
 Meets (Builtin.«zip.__new__» ⟨[.type "zip",.ref l1,.ref l2],[]⟩) (λ_ R s=>s.heap.IsTuple l1 xs/\s.heap.IsTuple l2 ys/\R (.ok (.ret (.ref (g4 s.heap l1 l2).objs.size))) {s with heap:=g5 s.heap l1 l2}):=
 .of_wp λprog w A R s h=>by
  obtain⟨hp,g,d,tk,os⟩:=s;obtain⟨JS,JN,h⟩:=h;have abf:=sub_zip;have TL:Heap.IsTuple (Shared.heap ⟨hp,g,d,tk,os⟩) l1 xs:=JS;have OT:Heap.IsTuple (Shared.heap ⟨hp.push {cls:=.type "tuple_iterator",data:=.fields #[.ref l1,.int 0 0]},g,d,tk,os⟩) l2 ys:=Heap.IsTuple.push JN _
  wp_walk using DD TL,DD OT
  exact⟨_,rfl,h⟩
section
variable {prog:A9}{w:World}{A:Around}{E:zQ}{s:qm}
theorem agH {l1 l2:Addr}{xs ys:IU}{Q:zQ}(JS:s.heap.IsTuple l1 xs)(JN:s.heap.IsTuple l2 ys)
 (h:∀h',Zs h' (s.heap.objs.size+4) (s.heap.objs.size+2) (s.heap.objs.size+3) s.heap.objs.size (s.heap.objs.size+1) l1 l2 0->(∀c o,s.heap.get? c=some o->h'.get? c=some o)->Q (.ref (s.heap.objs.size+4)) {s with heap:=h'}):
 wpAny (model prog w) A (call (.type "zip") [.ref l1,.ref l2]) Q E s:=by
 refine callType_new F.called_zip (by decide) (F.typeCall_zip_2 _ _) (F.newCall_zip_2 _ _) (λobj=>F.args_object_init_3 obj _ _) F.entry_zip_new (agI l1 l2 xs ys) ⟨JS,JN,?_⟩;have z1:(g1 s.heap l1).objs.size=s.heap.objs.size+1:=F4 ..
 have z2:(g2 s.heap l1 l2).objs.size=s.heap.objs.size+2:=by rw[F4,z1]
 have z3:(g3 s.heap l1 l2).objs.size=s.heap.objs.size+3:=by rw[F4,z2]
 have z4:(g4 s.heap l1 l2).objs.size=s.heap.objs.size+4:=by rw[F4,z3]
 have q5:(g5 s.heap l1 l2).get? (g4 s.heap l1 l2).objs.size=some _:=HR _ rfl;have q4:(g5 s.heap l1 l2).get? (g3 s.heap l1 l2).objs.size=some _:=xQ _ (HR _ rfl);have q3:(g5 s.heap l1 l2).get? (g2 s.heap l1 l2).objs.size=some _:=xQ _ (xQ _ (HR _ rfl));have q2:(g5 s.heap l1 l2).get? (g1 s.heap l1).objs.size=some _:=xQ _ (xQ _ (xQ _ (HR _ rfl)));have q1:(g5 s.heap l1 l2).get? s.heap.objs.size=some _:=xQ _ (xQ _ (xQ _ (xQ _ (HR _ rfl))));show _/\_;rw[z2,z3,z4] at q5;rw[z1,z2] at q3;rw[z3] at q4;rw[z1] at q2;rw[z4];exact⟨⟨_,q5,rfl⟩,h _ ⟨q5,q3,⟨_,_,q4⟩,⟨_,q1,rfl,rfl⟩,⟨_,q2,rfl,rfl⟩⟩ λc o e=>xQ _ (xQ _ (xQ _ (xQ _ (xQ _ e))))⟩
end
theorem cx {a b:Nat}(h:a≠b):(a:Addr)≠b:=h
theorem agL (n a b:Nat)(ha:a<n)(hb:b<n):Apart (n+4) (n+2) (n+3) n (n+1) a b:=by
 refine⟨cx ?_,cx ?_,cx ?_,cx ?_,cx ?_,cx ?_,cx ?_,cx ?_,cx ?_,cx ?_,?_,?_⟩
 any_goals omega
 ·simp only[Ef,Fd,wA,not_or];exact⟨cx (by omega),cx (by omega),cx (by omega),cx (by omega)⟩
 ·simp only[Ef,Fd,wA,not_or];exact⟨cx (by omega),cx (by omega),cx (by omega),cx (by omega)⟩
end Zp
namespace L2
open PySem PySem.Spec PyProof.Rows PySem.W
noncomputable def He (K:Frag)(a b:Addr):It :=
 ⟨λi H=>∃xs ys x y,a7 K H a xs/\a7 K H b ys/\xs[i]?=some x/\ys[i]?=some y,
  λi H v H'=>∃T x y,(∀xs,a7 K H a xs->xs[i]?=some x)/\(∀ys,a7 K H b ys->ys[i]?=some y)/\H T=none/\v=.ref T/\H'=upd H T (.tup [x,y]),
  λi H=>∃xs ys,a7 K H a xs/\a7 K H b ys/\(xs.length<=i\/ys.length<=i)⟩
theorem agQ {P:A9}{w:World}{K:Frag}{elts:Hy}{x1:Nat}{tp:Pos}{a b z TI TO i1 i2:Addr}(D:Zp.Apart z TI TO i1 i2 a b):
 Turn P w K (.Tuple elts x1 tp) (He K a b) [z,TO,i1,i2,TI] z (λi h=>Zp.Zs h z TI TO i1 i2 a b i) where
 mem:=by simp
 obj:=λi h st c hb=>by
  obtain⟨h1,h2,⟨_,_,h3⟩,⟨o4,h4,_,d4⟩,⟨o5,h5,_,d5⟩⟩:=st
  rcases(by simpa using hb:c=z\/c=TO\/c=i1\/c=i2\/c=TI) with q|q|q|q|q
  ·subst q;exact⟨_,h1,λv q=>by cases q⟩
  ·subst q;exact⟨_,h3,λv q=>by cases q⟩
  ·subst q;exact⟨_,h4,λv q=>by rw[d4] at q;cases q⟩
  ·subst q;exact⟨_,h5,λv q=>by rw[d5] at q;cases q⟩
  ·subst q;exact⟨_,h2,λv q=>by cases q⟩
 keep:=λi h h' st k=>by
  obtain⟨h1,h2,⟨_,_,h3⟩,h4,h5⟩:=st;exact⟨k z (by simp) _ h1,k TI (by simp) _ h2,⟨_,_,k TO (by simp) _ h3⟩,Zp.fk h4 λo q=>k i1 (by simp) o q,Zp.fk h5 λo q=>k i2 (by simp) o q⟩
 item:=by
  intro X hP hw hK hc i pins s σ H E I hf st hg;subst hP hw hK;obtain⟨xs,ys,x,y,hq,hr,hx,hy⟩:=hg;obtain⟨its,rv,p,hz⟩:=I.tuple hq;obtain⟨Qm,JM,p',OU⟩:=I.tuple hr;obtain⟨u,hu,ru⟩:=rv.get hx;obtain⟨v,hv,Vk⟩:=JM.get hy;refine Zp.afH D st (show s.heap.IsTuple a its.toArray from p) (show s.heap.IsTuple b Qm.toArray from p') (x:=u) (y:=v) (by simpa using hu) (by simpa using hv) λh' q1 q2 q3 q4 q5 q6=>?_;refine⟨_,rfl,wpAny_letOwnedTupleGo_zip (s:={s with heap:=h'}) q1 λh2 q7 q8=>?_⟩;have lt:∀c o,s.heap.get? c=some o->c≠s.heap.objs.size:=λc o e=>Ho (EL e)
  have I1:Inv X pins σ H {s with heap:=h2}:=I.agX (t':=s.toks) (ch:=[z,TO,i1,i2]) (λc o hc e=>(q8.2 c λq=>hc (by simp[q])).trans (q6 c o hc e)) λc hc=>hf c (by
   rcases(by simpa using hc:c=z\/c=TO\/c=i1\/c=i2) with q|q|q|q <;> simp[q])
  have nz:s.heap.objs.size≠z:=Hw (lt z _ st.hz);have tup:h2.get? s.heap.objs.size=some {cls:=.type "tuple",data:=.seq #[u,v]}:=(q8.2 _ nz).trans q5;have fr:H s.heap.objs.size=none:=I.hok.fresh (AY _);have I2:=I.aiB (xs:=[x,y]) (its:=[u,v]) I1 (AY _) tup (.cons ru (.cons Vk .nil)) jP;have up:∀c o,c≠z->h'.get? c=some o->h2.get? c=some o:=λc o hc e=>(q8.2 c hc).trans e;obtain⟨aa,bb,q2⟩:=q2;have Vl:IsPair h' TI (.ref i1) (.ref i2):=q6 TI _ (by simp only[Ef,Fd,wA,not_or];exact⟨D.TIz,D.TITO,D.TIi1,D.TIi2⟩) st.hTI
  refine⟨.ref s.heap.objs.size,_,I2,rfl,⟨s.heap.objs.size,x,y,λzs MM=>by rw[I.agt MM hq];exact hx,λzs MM=>by rw[I.agt MM hr];exact hy,fr,rfl,rfl⟩,
   ⟨q7,up _ _ D.TIz Vl,⟨aa,bb,up _ _ D.TOz q2⟩,Zp.fk q3 λo e=>up _ o D.i1z e,Zp.fk q4 λo e=>up _ o D.i2z e⟩,λc hb=>?_⟩
  have nb:c≠s.heap.objs.size:=by
   obtain⟨h1,h2,⟨_,_,h3⟩,⟨o4,h4,_,d4⟩,⟨o5,h5,_,d5⟩⟩:=st
   rcases(by simpa using hb:c=z\/c=TO\/c=i1\/c=i2\/c=TI) with q|q|q|q|q <;> subst q
   ·exact lt _ _ h1
   ·exact lt _ _ h3
   ·exact lt _ _ h4
   ·exact lt _ _ h5
   ·exact lt _ _ h2
  rw[au nb];exact(hf c hb).1
 done:=by
  intro X hP hw hK hc i pins s σ H E I hf st hg;subst hP hw hK;obtain⟨xs,ys,hq,hr,hx⟩:=hg;obtain⟨its,rv,p,hz⟩:=I.tuple hq;obtain⟨Qm,JM,p',OU⟩:=I.tuple hr;have l1:=rv.length;have l2:=JM.length
  refine Zp.aht (I.ok.hd hc) D st (show s.heap.IsTuple a its.toArray from p) (show s.heap.IsTuple b Qm.toArray from p') (by
   rcases hx with q|q
   ·left;simp;omega
   ·right;simp;omega) λh' q=>⟨rfl,?_⟩
  exact I.agX (t':=s.toks) (ch:=[z,TO,i1,i2]) q λc hc=>hf c (by
   rcases(by simpa using hc:c=z\/c=TO\/c=i1\/c=i2) with q|q|q|q <;> simp[q])
 self:=λ_ _ _ _ _ st h=>wpAny_pyIter_zip st.hz h
noncomputable def agT (K:Frag)(ta tb:TE):TI:=λσ H R=>c5 ta (c5 tb Ct) σ H λvs H1=>∃a b xs ys,vs=[.ref a,.ref b]/\a7 K H1 a xs/\a7 K H1 b ys/\R (He K a b) H1
theorem agU {X:Cx}{ea eb:Expr}{ta tb:TE}{elts:Hy}{x1:Nat}{tp p pos:Pos}(ha:PE X ea ta)(hb:PE X eb tb)(hg:Gl X "zip")(hm:X.mg "zip"=none)(hs:fY ea=false:=by rfl)(MN:fY eb=false:=by rfl):
 PI X (.Tuple elts x1 tp) (.Call (.Name "zip" p) [ea,eb] [] pos) (agT X.K ta tb):=by
 intro pins s σ H R I h;refine yD (eK I hg hm (by rfl) ?_ (by decide) (by decide));refine BE (bO (ao ha (ao hb ah MN) hs pos pins s σ H _ I h) λus s1 z'=>?_) (bq hs) (by rw[bq MN];rfl);obtain⟨vs,H1,I1,r1,a,b,xs,ys,hv,hq,hr,rr⟩:=z';subst hv;obtain⟨u,u',rfl,ru,Vk⟩:=yC r1
 cases(show u=Value.ref a from ru)
 cases(show u'=Value.ref b from Vk)
 obtain⟨its,rv,pl,hz⟩:=I1.tuple hq;obtain⟨Qm,JM,YV,OU⟩:=I1.tuple hr;refine Zp.agH (show s1.heap.IsTuple a its.toArray from pl) (show s1.heap.IsTuple b Qm.toArray from YV) λh' q1 q4=>?_;have I2:Inv X pins σ H1 {s1 with heap:=h'}:=I1.kept (t':=s1.toks) q4
 have la:a<s1.heap.objs.size:=by obtain⟨o,e,_⟩:=pl;exact EL e
 have lb:b<s1.heap.objs.size:=by obtain⟨o,e,_⟩:=YV;exact EL e
 refine wpAny_pyIter_zip (s:={s1 with heap:=h'}) q1.hz ?_;refine⟨s1.heap.objs.size+4,[s1.heap.objs.size+4,s1.heap.objs.size+3,s1.heap.objs.size,s1.heap.objs.size+1,s1.heap.objs.size+2],_,He X.K a b,H1,rfl,I2,agQ (Zp.agL _ _ _ la lb),q1,λc hc=>?_,rr⟩
 have Jn:s1.heap.objs.size<=c:=by
  rcases(by simpa using hc:c=s1.heap.objs.size+4\/c=s1.heap.objs.size+3\/c=s1.heap.objs.size\/c=s1.heap.objs.size+1\/c=s1.heap.objs.size+2) with q|q|q|q|q <;> rw[q]
  ·exact wq _ _
  ·exact wq _ _
  ·exact AY _
  ·exact wq _ _
  ·exact wq _ _
 exact I1.agS Jn (I1.hok.fresh Jn)
end L2
namespace K08
open PySem L2 PySem.W
noncomputable abbrev ID:Stmt:=aQ (aZ 38) 1
noncomputable abbrev zG:Stmt:=(aZ 13)
noncomputable abbrev iZ:Stmt:=(aZ 14)
noncomputable def FA (C:Addr):Sp:=λvs H Q _=>∃(p dx:Addr)(i:Int)(y:V),vs=[.ref p,y]/\H p=some (.ins C dx (eT i)) /\
 ((∃q dy j,y=.ref q/\H q=some (.ins C dy (eT j))/\Q (.bl (decide (i=j))) H)\/∃T,Th H y T/\Q (.bl false) H)
noncomputable def cL:V->Bool
 | .int i=>decide (0<=i)&&decide (i<60)
 |_=>false
noncomputable def GP:Sp:=λvs H Q _=>∃x T,vs=[x]/\Th H x T/\Q (.bl (cL x)) H
variable {P:A9}{w:World}{K:PySem.W.Frag}{mg:Fj}{base:Heap}
theorem aco:Ii Ac Ac (ar ID):=fu (by decide +kernel)
theorem acp {f C:Addr}{fd:FD}(F:Fe K "__eq__" "Field.__eq__" ID f fd)(c:xi K mg C)(n:A1 mg):Ey P w K mg base (bZ P w) 1 f fd Ac (FA C):=by
 refine F.okN aco (λvs H Q E h=>?_) (λIZ A outer s H vs Q E hr h=>?_)
 ·obtain⟨p,dx,i,y,rfl,_⟩:=h;rfl
 ·obtain⟨p,dx,i,y,rfl,hp,h⟩:=h
  refine⟨_,av (aB (eI (aI aY (by rfl) n.isi (by rfl) (aX (pv 1) (aX (cG (by rfl) c.mgC (show aE (.ref C) (.ref C) from rfl)) ah)))
   (gJ (c7 eQ (br (pv 0) rfl) (br (pv 1) rfl) (aJ _))))),?_⟩
  rcases h with⟨q,dy,j,rfl,hq,z⟩|⟨T,th,z⟩
  ·refine⟨_,rfl,.ref q,.ref C,_,_,_,rfl,rfl,c.ty hq,c.is,_,rfl,?_⟩;refine cm ?_;refine⟨_,rfl,p,C,dx,_,_,rfl,hp,c.cl,c.nP,rfl,_,rfl,q,C,dy,_,_,rfl,hq,c.cl,c.nP,rfl,rfl,?_⟩
   have e:decide (V.int i=V.int j)=decide (i=j):=by simp
   rw[e];exact z
  ·exact⟨_,rfl,y,.ref C,_,_,_,rfl,rfl,th.ty,c.no th,_,rfl,bX z⟩
theorem acq:Ii G6 G6 (ar zG):=fu (by decide +kernel)
theorem acA {f:Addr}{fd:FD}{tM:Tok}(F:Fe K "is_place" "is_place" zG f fd)(mMP:mg "MOST_PLACES"=some (.int 60 tM))
 (q0:Ca P w K mg base 1 G6 "is_whole" wU):Ey P w K mg base (bZ P w) 2 f fd G6 GP:=by
 obtain⟨fw,Vi,FW,bW,mW,kW⟩:=q0;refine F.okN acq (λvs H Q E h=>?_) (λIZ A outer s H vs Q E hr h=>?_)
 ·obtain⟨x,T,rfl,_⟩:=h;rfl
 ·obtain⟨x,T,rfl,th,q⟩:=h;have Jr:Hz 1 _:=hr.mono (by decide);refine⟨_,av (aB (eI (aA FW Jr (by rfl) mW kW bW .nil af (ao (pv 0) ah rfl)) (gJ (ql Dv kr aj (pv 0) (cG (by rfl) mMP (show aE (.int 60) (.int 60 tM) from⟨_,rfl⟩)))))),?_⟩;refine⟨_,rfl,x,T,rfl,th,_,rfl,?_⟩
  cases e:dk x with
  |false =>
   have z:cL x=false:=by cases x <;> first|rfl|cases e
   rw[z] at q;exact bX q
  |true =>
   have z1:∃i,x=.int i:=by cases x <;> first|exact⟨_,rfl⟩|cases e
   obtain⟨i,rfl⟩:=z1;refine cm ?_;refine⟨_,rfl,_,_,rfl,rfl,_,rfl,?_⟩;refine cT (λh=>?_) (λh=>?_)
   ·refine⟨_,_,rfl,rfl,?_⟩;have h':decide (0<=i)=true:=h
    have z:cL (.int i)=decide (i<60):=by show(decide (0<=i)&&decide (i<60))=_;rw[h',DO]
    rw[z] at q;exact q
   ·have h':decide (0<=i)=false:=by simpa using h
    have z:cL (.int i)=false:=by show(decide (0<=i)&&decide (i<60))=_;rw[h',Bx]
    rw[z] at q;exact q
end K08
namespace HT
open PySem PyProof.Rows
section
variable {prog:A9}{w:World}{A:Around}{E:zQ}{s:qm}
theorem acJ {t sl:Addr}{items:IU}{vl vu:Value}{lo hi:Option Int}{Q:zQ}(ht:IsTup s.heap t items)(hs:s.heap.IsSliceOf sl vl vu .none)(pl:IsPart vl lo)(pu:IsPart vu hi)
 (h0:dh items.size 0 lo=0)(h1:dh items.size items.size hi=items.size)(h:Q (.ref t) s):wpAny (model prog w) A (getItem (.ref t) (.ref sl)) Q E s:=by
 obtain⟨os,Np,OQ,PF⟩:=id hs;have UP:s.TypeIs (.ref sl) "slice":=⟨os,Np,OQ⟩;unfold getItem
 try with_reducible refine CN ?_
 first|refine IM (IV ?_)|skip
 refine IM (wpAny_sequenceKey ht.typeIs (by decide) ?_)
 refine IM (xO (name:=Str.ofString "__getitem__") ht.typeIs Gu
  (BU Gu ht.typeIs entry_tuple_getitem ?_ (args_tuple_getitem _ _)))
 show wpAny _ _ (Builtin.Tuple.tupleItemsOf (.ref t)>>=_) _ _ s;refine IM (tupleItemsOf_ ht ?_);refine IM (xV UP ?_);rw[oO (by decide)];refine IM (fN hs pl pu ?_);rw[h0,h1]
 have Kx:((((0:Nat):Int)==0&&(1:Int)==1&&(items.size-0)==items.size)=true):=by simp
 dsimp only;rw[oO Kx];show wpAny _ _ (Builtin.Tuple.tupleIsExact (.ref t)>>=_) _ _ s;refine IM ?_;unfold Builtin.Tuple.tupleIsExact;refine IM (xV ht.typeIs (IV ?_));rw[oO (by decide)];refine IM (B9 ?_);exact IV ⟨_,rfl,IV h⟩
end
end HT
namespace L2
open PySem PySem.Spec PyProof.Rows PySem.W
variable {X:Cx}
noncomputable def F0 (K:Frag):V->Option Int->Option Int->Hp->VK->Prop:=λx lo hi H Q=>∃a xs,x=.ref a/\a7 K H a xs/\(eU xs lo hi=xs->Q (.ref a) H)/\∀p,H p=none->Q (.ref p) (upd H p (.tup (eU xs lo hi)))
theorem j5:Hk X (F0 X.K):=by
 intro pins s σ H x v vl vu lo hi sl Q I rx hs pl pu h;obtain⟨a,xs,rfl,hx,h1,h2⟩:=h
 by_cases hw:HT.dh xs.length 0 lo=0/\HT.dh xs.length xs.length hi=xs.length
 ·cases rx
  obtain⟨its,r,ht,hz⟩:=I.tuple hx
  have hlen:its.toArray.size=xs.length:=by rw[yQ];exact r.length.symm
  refine⟨"tuple",_,Gu.lookup,ht.typeIs,?_⟩;refine HT.acJ ht hs pl pu (by rw[hlen];exact hw.1) (by rw[hlen];exact hw.2) ?_;refine⟨.ref a,H,I,rfl,h1 ?_⟩;unfold eU;rw[hw.1,hw.2];simp
 ·exact ab3 pins s σ H (.ref a) v vl vu lo hi sl Q I rx hs pl pu ⟨a,xs,rfl,hx,hw,h2⟩
end L2
namespace K08
open PySem L2 PySem.W
inductive PX (H:Hp):V->Option (List V)->Prop where
 |no {x:V}{T:String}:Th H x T->T ≠ "tuple"->PX H x none
 |tup {a:Addr}{xs:List V}:H a=some (.tup xs)->xs.length<4000->(∀y∈xs,∃T,Th H y T)->PX H (.ref a) (some xs)
noncomputable def Gs:V->V->Bool
 | .int a,.int b=>decide (a<b)
 |_,_=>false
noncomputable def jE (xs:List V):Bool:=(xs.zip (xs.drop 1)).all λp=>Gs p.1 p.2
noncomputable def lD:Option (List V)->Bool
 |none=>false
 |some xs=>xs.all cL&&jE xs
noncomputable def B8:Sp:=λvs H Q _=>∃x o,vs=[x]/\PX H x o/\∀H',ay H H'->Q (.bl (lD o)) H'
theorem GD (xs:List V):eU xs (some 1) none=xs.drop 1:=by
 unfold eU HT.dh
 cases xs with
 |nil=>rfl
 |cons x xs=>simp
theorem acK:Ii G6 G6 (ar iZ):=fu (by decide +kernel)
theorem uC:∀bs:List Bool,Paired Gz (bs.map V.bl) bs
 |[]=>.nil
 |b::bs=>.cons rfl (uC bs)
variable {P:A9}{w:World}{K:PySem.W.Frag}{mg:Fj}{base:Heap}
variable {f:Addr}{fd:FD}
theorem acL (F:Fe K "is_product" "is_product" iZ f fd)(m_isinstance:mg "isinstance"=none)(m_tuple:mg "tuple"=none)(JJ:mg "all"=none)(Lf:mg "zip"=none)
 (q0:Ca P w K mg base 2 G6 "is_place" GP):Ey P w K mg base (bZ P w) 3 f fd G6 B8:=by
 obtain⟨fp,TM,FP,bP,mP,kP⟩:=q0;refine F.okN acK (λvs H Q E h=>?_) (λIZ A outer s H vs Q E hr h=>?_)
 ·obtain⟨x,o,rfl,_⟩:=h;rfl
 ·obtain⟨x,o,rfl,px,q⟩:=h;have Kq:Hz 2 _:=hr.mono (by decide)
  refine⟨_,(ai (bf (PW.pt (iY (cy (cI (aI aY (by rfl) m_isinstance (by rfl) (ao (pv 0) (ao (eX (by rfl) m_tuple (by rfl) (show aE (.ty "tuple") (.type "tuple") from rfl)) ah rfl) rfl)))) (fV (cy (cI (aI (ku rfl) (by rfl) JJ (by rfl) (ao (dG (N:=["place"]) (nl:=1) (js:=[]) (osc:=ar iZ) ⟨rfl,rfl,by decide +kernel,by decide +kernel,by decide +kernel,rfl,.nil,by decide +kernel⟩ rfl
   (Al (pv 0))
   (λC fp s H=>aC (i:=0) (by show(["place"]:DV).Nodup;decide +kernel) rfl (Or.inl rfl) (Or.inr rfl))
   (λC fp s H=>c6)
   (λC fp s H=>(aA FP Kq (by rfl) mP kP bP .nil af (ao (pv 0) ah rfl)))) ah rfl))))))) (av (aB fh)) aH)
   (av (aB (aI (ku rfl) (by rfl) JJ (by rfl) (ao (dG (g:=jm K 2 (cp (bJ 0) (cp (bJ 1) EE))) (N:=["place","later"]) (nl:=2) (js:=[]) (osc:=ar iZ) ⟨rfl,rfl,by decide +kernel,by decide +kernel,by decide +kernel,rfl,.nil,by decide +kernel⟩ rfl
    (agU (pv 0) (c4 j5 (pv 0) (eB aj) d9) (by rfl) Lf)
    (λC fp s H=>(cC (X:=cu _ ["place","later"] _ C fp s H) rfl (aG (aC (X:=cu _ ["place","later"] _ C fp s H) (i:=0) (by show(["place","later"]:DV).Nodup;decide +kernel) rfl (Or.inl rfl) (Or.inr rfl)) (aG (aC (X:=cu _ ["place","later"] _ C fp s H) (i:=1) (by show(["place","later"]:DV).Nodup;decide +kernel) rfl (Or.inl rfl) (Or.inr rfl)) cj))))
    (λC fp s H=>c6)
    (λC fp s H=>(c7 kr (pv 0) (pv 1) (aJ _)))) ah rfl))))),?_⟩
  cases px with
  |@no x T th ne =>
   refine⟨_,rfl,x,.ty "tuple",_,_,_,rfl,rfl,th.ty,th.isTup,_,rfl,?_⟩;rw[HW ne];exact cm (cm (q _ (ay.refl _)))
  |@tup a xs ha hl hth =>
   refine⟨_,rfl,.ref a,.ty "tuple",_,_,_,rfl,rfl,.of (.tup ha),rfl,_,rfl,bX ?_⟩;have YW:∀n,n<=xs.length->n<sizeLine:=λn hn=>xv hn (BX hl (by decide));refine⟨_,rfl,a,rfl,⟨xs,a7.of ha⟩,?_⟩;refine⟨λi m ys σ' H'=>m=xs.length-i/\i<=xs.length/\ys=((xs.take i).map cL).map V.bl/\H=H'/\∃o,σ'=[o],⟨xs.length,by simp,GH _,by simp,rfl,none,rfl⟩,?_⟩;rintro i m ys σ' H' ⟨rfl,hi,rfl,rfl,o,rfl⟩;refine⟨YW _ (by simp;omega),?_⟩
   by_cases Jb:i<xs.length
   ·refine .inr ⟨⟨xs,xs[i],a7.of ha,by simp[Jb]⟩,λy H2 hy=>?_⟩;obtain⟨rfl,hy⟩:=hy;have ey:=hy xs (a7.of ha);obtain⟨T,th⟩:=hth y (HL ey);dsimp only[DX,bJ];refine cm ⟨_,rfl,y,T,rfl,th,xs.length-(i+1),by omega,rfl,Jb,?_,rfl,_,rfl⟩
    have e2:xs.take (i+1)=xs.take i++[y]:=by
     rw[x8,ey];rfl
    rw[e2];simp
   ·have ei:i=xs.length:=by omega
    subst ei;refine .inl ⟨⟨xs,a7.of ha,AY _⟩,λD hD=>?_⟩;rw[yK];refine⟨D,_,xs.map cL,rfl,aW.of ae,uC _,_,rfl,?_⟩;have sD:ay H (upd H D (.lst ((xs.map cL).map V.bl))):=aq hD
    cases hp:(xs.map cL).all id with
    |false =>
     have z:lD (some xs)=false:=by
      show(xs.all cL&&jE xs)=_
      have:xs.all cL=false:=by rw[<-hp,CL];rfl
      rw[this,Bx]
     rw[z] at q;exact cm (q _ sD)
    |true =>
     refine bX ?_
     have z:lD (some xs)=jE xs:=by
      show(xs.all cL&&jE xs)=_
      have:xs.all cL=true:=by rw[<-hp,CL];rfl
      rw[this,DO]
     rw[z] at q;generalize upd H D (.lst ((xs.map cL).map V.bl))=H1 at sD |-;have KL:=sD _ _ ha
     have hint:∀y∈xs,∃n,y=V.int n:=λy hy=>by
      have:cL y=true:=yV.mp hp _ (BG hy)
      cases y <;> first|exact⟨_,rfl⟩|cases this
     have key:∀(b:Addr)(H2:Hp),ay H H2->H2 a=some (.tup xs)->H2 b=some (.tup (xs.drop 1)) →
      ∃W:Nat->Nat->List V->St->Hp->Prop,(∃m,W 0 m [] [none,none] H2)/\kg (He K a b) (jm K 2 (cp (bJ 0) (cp (bJ 1) EE))) DX (qe (Ak λi j=>V.bl (decide (i<j))) (gU 0) (gU 1)) W
       λys H'=>∀D,H' D=none->∃l zs bs,[V.ref D]=[V.ref l]/\aW K (upd H' D (.lst ys)) l zs/\Paired Gz zs bs/\Q (.bl (bs.all id)) (upd H' D (.lst ys)):=by
      intro b H2 s2 h2a h2b;refine⟨λi m ys σ' H'=>m=(xs.drop 1).length-i/\i<=(xs.drop 1).length/\ys=(((xs.zip (xs.drop 1)).take i).map λp=>Gs p.1 p.2).map V.bl/\ay H2 H'/\∃o1 o2,σ'=[o1,o2],⟨(xs.drop 1).length,by simp,GH _,by simp,ay.refl _,none,none,rfl⟩,?_⟩;rintro i m ys σ' H' ⟨rfl,hi,rfl,sH,o1,o2,rfl⟩;have NM:=sH _ _ h2a;have Jn:=sH _ _ h2b;refine⟨YW _ (by simp;omega),?_⟩
      by_cases Jb:i<(xs.drop 1).length
      ·have Lg:i<xs.length:=by rw[wo] at Jb;omega
       refine .inr ⟨⟨xs,xs.drop 1,xs[i],(xs.drop 1)[i],a7.of NM,a7.of Jn,by simp[Lg],by rw[EC Jb]⟩,λv H3 hv=>?_⟩;obtain⟨T,x,y,hx,hy,hT,rfl,rfl⟩:=hv;have ex:=hx xs (a7.of NM);have ey:=hy (xs.drop 1) (a7.of Jn);obtain⟨n,rfl⟩:=hint x (HL ex);obtain⟨k,rfl⟩:=hint y (List.mem_of_mem_drop (HL ey));refine⟨T,_,rfl,a7.of ae,rfl,_,_,rfl,_,_,rfl,rfl,?_⟩;dsimp only[DX];refine cm ⟨_,rfl,_,rfl,n,k,rfl,rfl,(xs.drop 1).length-(i+1),by omega,rfl,Jb,?_,λc u e=>?_,_,_,rfl⟩
       ·have ez:(xs.zip (xs.drop 1))[i]?=some (V.int n,V.int k):=by
         rw[zO];exact⟨ex,ey⟩
        have e2:(xs.zip (xs.drop 1)).take (i+1)=(xs.zip (xs.drop 1)).take i++[(V.int n,V.int k)]:=by
         rw[x8,ez];rfl
        rw[e2];simp[Gs]
       ·rw[au (ax (sH _ _ e) hT)];exact sH _ _ e
      ·have ei:i=(xs.drop 1).length:=by omega
       subst ei;refine .inl ⟨⟨xs,xs.drop 1,a7.of NM,a7.of Jn,.inr (AY _)⟩,λD' NP=>?_⟩
       have et:(xs.zip (xs.drop 1)).take (xs.drop 1).length=xs.zip (xs.drop 1):=by
        apply List.take_of_length_le;rw[Eb];exact uu _ _
       rw[et];refine⟨D',_,(xs.zip (xs.drop 1)).map λp=>Gs p.1 p.2,rfl,aW.of ae,uC _,?_⟩
       have er:((xs.zip (xs.drop 1)).map λp=>Gs p.1 p.2).all id=jE xs:=by rw[CL];rfl
       rw[er];refine q _ λc u e=>?_;have e1:=sH _ _ (s2 _ _ e);rw[au (ax e1 NP)];exact e1
     refine⟨_,rfl,_,rfl,1,rfl,a,xs,rfl,a7.of KL,λe=>?_,λp YX=>?_⟩
     ·rw[GD] at e;exact⟨a,a,xs,xs.drop 1,rfl,a7.of KL,a7.of (by rw[e];exact KL),key a H1 sD KL (by rw[e];exact KL)⟩
     ·rw[GD];have np:a≠p:=ax KL YX;exact⟨a,p,xs,xs.drop 1,rfl,a7.of (by rw[au np];exact KL),a7.of ae,key p _ (λc u e=>by rw[au (ax (sD _ _ e) YX)];exact sD _ _ e) (by rw[au np];exact KL) ae⟩
noncomputable abbrev Du:Stmt:=(aZ 23)
theorem PX.same {H H':Hp}{x:V}{o:Option (List V)}(h:PX H x o)(s:ay H H'):PX H' x o:=by
 cases h with
 |no th n=>exact .no (th.same s) n
 |tup e l h=>exact .tup (s _ _ e) l λy hy=>let⟨T,t⟩:=h y hy;⟨T,t.same s⟩
inductive oK (p:Int)(H:Hp):V->Bool->Prop where
 |no {x:V}{T:String}:Th H x T->T ≠ "tuple"->oK p H x false
 |odd {a:Addr}{xs:List V}:H a=some (.tup xs)->xs.length≠2->oK p H (.ref a) false
 |two {a:Addr}{y z:V}{o:Option (List V)}{o2:Option (V×V)}:H a=some (.tup [y,z])->PX H y o->TX H z o2->oK p H (.ref a) (lD o&&tR p o2)
theorem oK.same {p:Int}{H H':Hp}{x:V}{b:Bool}(h:oK p H x b)(s:ay H H'):oK p H' x b:=by
 cases h with
 |no th n=>exact .no (th.same s) n
 |odd e n=>exact .odd (s _ _ e) n
 |two e h1 h2=>exact .two (s _ _ e) (h1.same s) (h2.same s)
noncomputable def zo (C:Addr):Sp:=λvs H Q _=>∃(s dx:Addr)(p:Int)(x:V)(b:Bool),vs=[.ref s,x]/\H s=some (.ins C dx (eT p))/\FP p/\oK p H x b/\∀H',ay H H'->Q (.bl b) H'
theorem acQ:Ii HK HK (ar Du):=fu (by decide +kernel)
theorem acZ {C:Addr}(F:Fe K "is_term" "is_term" Du f fd)(c:xi K mg C)(m_isinstance:mg "isinstance"=none)(m_tuple:mg "tuple"=none)(m_len:mg "len"=none)
 (q0:Ca P w K mg base 3 G6 "is_product" B8)
 (q1:Cm P w K mg base 2 zI C "is_number" (ie C)):Ey P w K mg base (bZ P w) 4 f fd HK (zo C):=by
 obtain⟨fp,TM,FP',bP,mP,kP⟩:=q0;obtain⟨fi,fdi,FI,bI,mI⟩:=q1;refine F.okN acQ (λvs H Q E h=>?_) (λIZ A outer s H vs Q E hr h=>?_)
 ·obtain⟨s,dx,p,x,b,rfl,_⟩:=h;rfl
 ·obtain⟨s0,dx,p,x,b,rfl,hs,hp,tx,q⟩:=h;have J9:Hz 3 _:=hr.mono (by decide);have Kq:Hz 2 _:=hr.mono (by decide)
  refine⟨_,av (aB (eI (aI aY (by rfl) m_isinstance (by rfl) (ao (pv 1) (ao (eX (by rfl) m_tuple (by rfl) (show aE (.ty "tuple") (.type "tuple") from rfl)) ah rfl) rfl))
   (eI (c7 eQ (aI b9 (by rfl) m_len Gm (ao (pv 1) ah rfl)) aj (aJ _))
   (eI (aA FP' J9 (by rfl) mP kP bP .nil af (ao (aV bx (pv 1) aj (λ_ _=>rfl)) ah rfl))
   (gJ (bU (pv 0) c.cl mI FI Kq bI .nil af (ao (aV bx (pv 1) aj (λ_ _=>rfl)) ah rfl))))))),?_⟩
  cases tx with
  |@no x T th ne =>
   refine⟨_,rfl,x,.ty "tuple",_,_,_,rfl,rfl,th.ty,th.isTup,_,rfl,?_⟩;rw[HW ne];exact bX (q _ (ay.refl _))
  |@odd a xs ha hl =>
   refine⟨_,rfl,.ref a,.ty "tuple",_,_,_,rfl,rfl,.of (.tup ha),rfl,_,rfl,cm ?_⟩;refine⟨_,rfl,a,_,rfl,.inr (a7.of ha),rfl,_,rfl,?_⟩;refine cT (λh=>absurd h (by simp;omega)) (λh=>?_);exact q _ (ay.refl _)
  |@two a y z o o2 ha hy hz =>
   refine⟨_,rfl,.ref a,.ty "tuple",_,_,_,rfl,rfl,.of (.tup ha),rfl,_,rfl,cm ?_⟩;refine⟨_,rfl,a,_,rfl,.inr (a7.of ha),rfl,_,rfl,cm ?_⟩;refine⟨_,rfl,a,_,0,y,rfl,rfl,a7.of ha,rfl,y,o,rfl,hy,λH' sH=>⟨_,rfl,?_⟩⟩;have MN:=sH _ _ hs;have NM:=sH _ _ ha
   cases e:lD o with
   |false =>
    rw[e,Bx] at q;exact bX (q _ sH)
   |true =>
    rw[e,DO] at q;refine cm ⟨_,rfl,s0,dx,_,rfl,MN,rfl,_,rfl,a,_,1,z,rfl,rfl,a7.of NM,rfl,s0,dx,p,z,o2,rfl,MN,hp,hz.same sH,q _ sH⟩
noncomputable abbrev r8:Stmt:=(aZ 24)
noncomputable abbrev rB:Stmt:=(aZ 25)
noncomputable def nk (C:Addr):Sp:=λvs H Q _=>∃(s dx:Addr)(p:Int)(x:V),vs=[.ref s,x]/\H s=some (.ins C dx (eT p))/\FP p /\
 ((x=.non/\∀l,H l=none->Q (.ref l) (upd H l (.lst [])))\/∃l ys,x=.ref l/\H l=some (.lst ys)/\ys.length<4000/\(∀y∈ys,oK p H y true)/\∀H',ay H H'->Q (.ref l) H')
noncomputable def tQ:Sp:=λvs H Q _=>∃(a b:Addr)(z:V)(xs:List V),vs=[.ref a]/\H a=some (.tup [.ref b,z])/\H b=some (.tup xs)/\∀t,H t=none->Q (.ref t) (upd H t (.tup [.int xs.length,.ref b]))
theorem jn:Ii ["field","terms","number","thing"] mY (ar r8):=fu (by decide +kernel)
theorem ac2:Ii ["term"] ["term"] (ar rB):=fu (by decide +kernel)
theorem adb (F:Fe K "place_of_term" "place_of_term" rB f fd)(m_len:mg "len"=none):Ey P w K mg base (bZ P w) 1 f fd ["term"] tQ:=by
 refine F.okN ac2 (λvs H Q E h=>?_) (λIZ A outer s H vs Q E hr h=>?_)
 ·obtain⟨a,b,z,xs,rfl,_⟩:=h;rfl
 ·obtain⟨a,b,z,xs,rfl,ha,hb,q⟩:=h;refine⟨_,(av (aB (bw (ao (aI b9 (by rfl) m_len Gm (ao (aV bx (pv 0) aj (λ_ _=>rfl)) ah rfl)) (ao (aV bx (pv 0) aj (λ_ _=>rfl)) ah rfl) rfl)))),?_⟩;refine⟨_,rfl,a,_,0,_,rfl,rfl,a7.of ha,rfl,b,xs,rfl,.inr (a7.of hb),_,rfl,a,_,0,_,rfl,rfl,a7.of ha,rfl,jP,λt ht=>q t ht⟩
theorem adg {C:Addr}(F:Fe K "checked_terms" "checked_terms" r8 f fd)(m_isinstance:mg "isinstance"=none)(m_list:mg "list"=none)(Jf:mg "enumerate"=none)
 (q0:Ca P w K mg base 4 HK "is_term" (zo C)):Ey P w K mg base (bZ P w) 5 f fd mY (nk C):=by
 obtain⟨ft,NJ,FT,bT,mT,kT⟩:=q0;refine F.okN jn (λvs H Q E h=>?_) (λIZ A outer s H vs Q E hr h=>?_)
 ·obtain⟨s,dx,p,x,rfl,_⟩:=h;rfl
 ·obtain⟨s0,dx,p,x,rfl,hs,hp,h⟩:=h;have Ke:Hz 4 _:=hr.mono (by decide)
  refine⟨_,(ai (bf (aK abM (pv 1) pI (aJ _)) (av (aB (cq ah))) aH)
   (ai (bf (cy (cI (aI aY (by rfl) m_isinstance (by rfl) (ao (pv 1) (ao (eX (by rfl) m_list (by rfl) (show aE (.ty "list") (.type "list") from rfl)) ah rfl) rfl)))) (av (qR)) aH)
   (ai (dD uy rfl (afm (pv 1) (by rfl) Jf) (cC rfl (aG (aC (i:=2) jn.nd rfl (Or.inl rfl)) (aG (aC (i:=3) jn.nd rfl (Or.inl rfl)) cj)))
   (av (bf (cy (cI (aA FT Ke (by rfl) mT kT bT .nil af (ao (pv 0) (ao (pv 3) ah rfl) rfl)))) (av (qR)) aH)))
   (av (aB (pv 1)))))),?_⟩
  rcases h with⟨rfl,q⟩|⟨l,ys,rfl,hl,hlen,hys,q⟩
  ·refine⟨_,rfl,rfl,_,rfl,?_⟩;exact cm ⟨GH _,λl hl=>q l hl⟩
  ·refine⟨_,rfl,rfl,_,rfl,bX ?_⟩;refine⟨_,rfl,.ref l,.ty "list",_,_,_,rfl,rfl,.of (.lst hl),rfl,_,rfl,bX ?_⟩;refine⟨_,rfl,l,ys,rfl,aW.of hl,?_⟩;refine⟨λi m σ' H'=>m=ys.length-i/\i<=ys.length/\ay H H'/\∃o1 o2,σ'=[some (.ref s0),some (.ref l),o1,o2],⟨ys.length,by simp,GH _,ay.refl _,none,none,rfl⟩,?_⟩;rintro i m σ' H' ⟨rfl,hi,sH,o1,o2,rfl⟩;have Kr:=sH _ _ hl
   by_cases Jb:i<ys.length
   ·refine .inr ⟨⟨ys,ys[i],aW.of Kr,by simp[Jb]⟩,λσ' H'=>i+1<=ys.length/\ay H H'/\∃o1 o2,σ'=[some (.ref s0),some (.ref l),o1,o2],?_,λv H2 hv=>?_⟩
    ·rintro σ' H' ⟨h1,h2,h3⟩;exact⟨ys.length-(i+1),by omega,rfl,h1,h2,h3⟩
    ·obtain⟨T,y,hy,hT,rfl,rfl⟩:=hv;have ey:=hy ys (aW.of Kr)
     have s2:ay H (upd H' T (.tup [.int i,y])):=λc u e=>by
      rw[au (ax (sH _ _ e) hT)];exact sH _ _ e
     have ty:=(hys y (HL ey)).same s2;refine⟨T,_,rfl,a7.of ae,rfl,_,_,rfl,_,_,rfl,rfl,?_⟩;refine⟨_,rfl,_,rfl,s0,dx,p,y,true,rfl,s2 _ _ hs,hp,ty,λH3 s3=>⟨_,rfl,bX ?_⟩⟩;exact⟨Jb,λc u e=>s3 _ _ (s2 _ _ e),_,_,rfl⟩
   ·refine .inl ⟨⟨ys,aW.of Kr,by omega⟩,?_⟩;exact⟨_,rfl,q _ sH⟩
end K08
namespace Srt
open PySem PySem.W PyProof.Rows
structure Pm (n:Nat)(r:Nat->Nat)(p:Array Nat):Prop where
 size:p.size=n
 lt:∀k,k<n->p.getD k 0<n
 ne:∀k l,k<n->l<n->k≠l->r (p.getD k 0)≠r (p.getD l 0)
 perm:p.Perm (List.range n).toArray
variable {p:Array Nat}{m j:Nat}
section
variable {n:Nat}{r:Nat->Nat}
theorem Pm.nq {n:Nat}{r:Nat->Nat}(P:Pm n r p)(k l:Nat)(hk:k<n)(hl:l<n)(h:k≠l):p.getD k 0≠p.getD l 0:=λz=>P.ne k l hk hl h (by rw[z])
theorem getD_some {k:Nat}(h:k<p.size):p[k]?=some (p.getD k 0):=by simp[Array.getD,h]
theorem qJ (inj:∀i j,i<n->j<n->i≠j->r i≠r j)(hp:p.Perm (List.range n).toArray):Pm n r p:=by
 have hl:p.toList.Perm (List.range n):=by simpa using hp.toList
 have hs:p.size=n:=by rw[<-Ht,hl.length_eq,qI]
 have Jb:∀k,k<n->p.getD k 0<n:=λk hk=>by
  have hm:p.getD k 0∈p.toList:=by
   rw[show p.getD k 0=p[k]'(by omega) by simp[Array.getD,hs,hk]];exact Array.mem_toList_iff.mpr (Array.getElem_mem _)
  exact IX.mp (hl.mem_iff.mp hm)
 refine⟨hs,Jb,λk l hk Kr Jt=>inj _ _ (Jb k hk) (Jb l Kr) λe=>Jt ?_,hp⟩;have nd:p.toList.Nodup:=hl.nodup_iff.mpr List.nodup_range
 have e1:p.toList[k]'(by simp;omega)=p.toList[l]'(by simp;omega):=by
  rw[show p.getD k 0=p[k]'(by omega) by simp[Array.getD,hs,hk],show p.getD l 0=p[l]'(by omega) by simp[Array.getD,hs,Kr]] at e;simpa using e
 have pw:=AB.mp (show p.toList.Pairwise (· ≠ ·) from nd)
 rcases Bw k l with z|z|z
 ·exact absurd e1 (pw k l _ _ z)
 ·exact z
 ·exact absurd e1.symm (pw l k _ _ z)
noncomputable def Up (r:Nat->Nat)(p:Array Nat)(m:Nat):Prop:=∀i j,i<j->j<m->r (p.getD i 0)<r (p.getD j 0)
noncomputable def Dn (r:Nat->Nat)(p:Array Nat)(m:Nat):Prop:=∀i j,i<j->j<m->r (p.getD j 0)<r (p.getD i 0)
theorem Up.succ (h:Up r p m)(h1:1<=m)(e:r (p.getD (m-1) 0)<r (p.getD m 0)):Up r p (m+1):=λi j Kn hj=>by
 by_cases z:j=m
 ·subst z
  by_cases z2:i=j-1
  ·subst z2;exact e
  ·exact BX (h i (j-1) (by omega) (by omega)) e
 ·exact h i j Kn (by omega)
theorem Dn.succ (h:Dn r p m)(h1:1<=m)(e:r (p.getD m 0)<r (p.getD (m-1) 0)):Dn r p (m+1):=λi j Kn hj=>by
 by_cases z:j=m
 ·subst z
  by_cases z2:i=j-1
  ·subst z2;exact e
  ·exact BX e (h i (j-1) (by omega) (by omega))
 ·exact h i j Kn (by omega)
theorem va {k:Nat}(hm:m<=p.size)(hk:k<p.size):(kas_rev p 0 m).getD k 0=if k<m then p.getD (m-1-k) 0 else p.getD k 0:=by
 have e:=getElem?_mirror_all (xs:=p) (i:=0) hm k;have hs:(kas_rev p 0 m).size=p.size:=mirror_size _ _ _ _;have e2:(kas_rev p 0 m)[k]?=some ((kas_rev p 0 m).getD k 0):=getD_some (by rw[hs];exact hk)
 have e3:(kas_rev p 0 m)[k]?=if 0<=k/\k<m then p[0+m-1-k]? else p[k]?:=e
 rw[e2] at e3
 by_cases h:k<m
 ·rw[oO ⟨GH _,h⟩,show 0+m-1-k=m-1-k by omega,getD_some (by omega)] at e3;rw[oO h];exact Option.some.inj e3
 ·rw[DW (λz=>h z.2),getD_some hk] at e3;rw[DW h];exact Option.some.inj e3
theorem Dn.rev (h:Dn r p m)(hm:m<=p.size):Up r (kas_rev p 0 m) m:=λi j Kn hj=>by
 rw[va hm (by omega),va hm (by omega),oO (by omega),oO hj];exact h _ _ (by omega) (by omega)
variable {cmp:Nat->Nat->(Bool->Shared->Prop)->Shared->Prop}{s:qm}
theorem uq (hc:∀i j C,i<n->j<n->i≠j->C (decide (r i<r j)) s->cmp i j C s)(P:Pm n r p){Q:Nat->Shared->Prop}:∀(f m:Nat),1<=m->m+f=n->Up r p m →
 (∀m',m<=m'->m'<=n->Up r p m'->(m'<n->r (p.getD m' 0)<r (p.getD (m'-1) 0))->Q m' s)->(kas_asc p f m).kasWp cmp Q s
 |0,m,h1,hm,hu,hQ=>hQ m (AY _) (by omega) hu λh=>by omega
 |f+1,m,h1,hm,hu,hQ=>by
  refine hc _ _ _ (P.lt m (by omega)) (P.lt (m-1) (by omega)) (P.nq m (m-1) (by omega) (by omega) (by omega)) ?_;show((if decide (r (p.getD m 0)<r (p.getD (m-1) 0))=true then KasT.ret m else kas_asc p f (m+1)).kasWp cmp Q s)
  by_cases h:r (p.getD m 0)<r (p.getD (m-1) 0)
  ·rw[oO (IW h)];exact hQ m (AY _) (by omega) hu λ_=>h
  ·rw[DW (by simpa using h)];have ne:=P.ne m (m-1) (by omega) (by omega) (by omega);exact uq hc P f (m+1) (by omega) (by omega) (hu.succ h1 (by omega)) λm' h2=>hQ m' (by omega)
theorem u3 (hc:∀i j C,i<n->j<n->i≠j->C (decide (r i<r j)) s->cmp i j C s)(P:Pm n r p){Q:Array Nat×Nat×Nat->Shared->Prop}:∀(f m:Nat),1<=m->m+f=n->Dn r p m →
 (∀m',m<=m'->m'<=n->Dn r p m'->Q (p,m',0) s)->(kas_desc f p m 0).kasWp cmp Q s
 |0,m,h1,hm,hu,hQ=>hQ m (AY _) (by omega) hu
 |f+1,m,h1,hm,hu,hQ=>by
  refine hc _ _ _ (P.lt m (by omega)) (P.lt (m-1) (by omega)) (P.nq m (m-1) (by omega) (by omega) (by omega)) ?_
  by_cases h:r (p.getD m 0)<r (p.getD (m-1) 0)
  ·rw[IW h];exact u3 hc P f (m+1) (by omega) (by omega) (hu.succ h1 h) λm' h2=>hQ m' (by omega)
  ·rw[HW h];refine hc _ _ _ (P.lt (m-1) (by omega)) (P.lt m (by omega)) (P.nq (m-1) m (by omega) (by omega) (by omega)) ?_;have ne:=P.ne m (m-1) (by omega) (by omega) (by omega);rw[IW (show r (p.getD (m-1) 0)<r (p.getD m 0) by omega)];exact hQ m (AY _) (by omega) hu
theorem adl (inj:∀i j,i<n->j<n->i≠j->r i≠r j)(hc:∀i j C,i<n->j<n->i≠j->C (decide (r i<r j)) s->cmp i j C s)(P:Pm n r p){Q:Nat×Array Nat->Shared->Prop}(h1:1<=m)(hm:m<=n)(hd:Dn r p m)
 (hQ:∀m' p',m'<=n->1<=m'->Pm n r p'->Up r p' m'->Q (m',p') s):(kas_tail3 m n p).kasWp cmp Q s:=by
 unfold kas_tail3;rw[tW];have P':Pm n r (kas_rev p 0 m):=qJ inj ((mirror_perm _ _ _ _).trans P.perm);exact uq hc P' (n-m) m h1 (by omega) (hd.rev (by rw[P.size];exact hm)) λm' h2 h3 h4 _=>hQ m' _ h3 (by omega) P' h4
theorem adp (inj:∀i j,i<n->j<n->i≠j->r i≠r j)(hc:∀i j C,i<n->j<n->i≠j->C (decide (r i<r j)) s->cmp i j C s)(h0:1<=n)(P:Pm n r p){Q:Nat×Array Nat->Shared->Prop}
 (hQ:∀m' p',m'<=n->1<=m'->Pm n r p'->Up r p' m'->Q (m',p') s):(kas_count n p).kasWp cmp Q s:=by
 unfold kas_count;rw[tW];refine uq hc P (n-1) 1 (AY _) (by omega) (λi j Kn hj=>by omega) λm h1 h2 h3 h4=>?_
 by_cases e:m=n
 ·subst e;rw[oO (by simp)];exact hQ _ _ (AY _) h1 P h3
 ·rw[DW (by simpa using e)]
  by_cases h5:m>1
  ·rw[oO h5];refine hc _ _ _ (P.lt 0 (by omega)) (P.lt (m-1) (by omega)) (P.nq 0 (m-1) (by omega) (by omega) (by omega)) ?_;rw[IW (h3 0 (m-1) (by omega) (by omega))];exact hQ _ _ h2 h1 P h3
  ·rw[DW h5]
   have e1:m=1:=by omega
   subst e1;unfold kas_descPart;rw[tW];have d2:Dn r p (1+1):=Dn.succ (λi j Kn hj=>by omega) (AY _) (h4 (by omega));refine u3 hc P (n-(1+1)) (1+1) (by omega) (by omega) d2 λm' h6 h7 h8=>?_;show((if 0>0 then _ else kas_tail3 m' n p).kasWp cmp Q s);rw[DW (by omega)];exact adl inj hc P (by omega) h7 h8 hQ
theorem lO (hc:∀i j C,i<n->j<n->i≠j->C (decide (r i<r j)) s->cmp i j C s)(P:Pm n r p){Q:Nat->Shared->Prop}{k:Nat}(hk:k<n)(hu:Up r p k):∀(f l q:Nat),l<=q->q<=k->q-l<=f->(∀j,j<l->r (p.getD j 0)<r (p.getD k 0))->(∀j,q<=j->j<k->r (p.getD k 0)<r (p.getD j 0)) →
 (∀l',l'<=k->(∀j,j<l'->r (p.getD j 0)<r (p.getD k 0))->(∀j,l'<=j->j<k->r (p.getD k 0)<r (p.getD j 0))->Q l' s)->(kas_place p k f l q).kasWp cmp Q s
 |0,l,q,h1,h2,h3,h4,h5,hQ=>hQ l (by omega) h4 λj h6 h7=>h5 j (by omega) h7
 |f+1,l,q,h1,h2,h3,h4,h5,hQ=>by
  unfold kas_place
  by_cases h:l ≥ q
  ·rw[oO h];exact hQ l (by omega) h4 λj h6 h7=>h5 j (by omega) h7
  ·rw[DW h];refine hc _ _ _ (P.lt k hk) (P.lt ((l+q)/2) (by omega)) (P.nq k ((l+q)/2) hk (by omega) (by omega)) ?_;have ne:=P.ne k ((l+q)/2) hk (by omega) (by omega)
   by_cases z:r (p.getD k 0)<r (p.getD ((l+q)/2) 0)
   ·rw[IW z];refine lO hc P hk hu f l ((l+q)/2) (by omega) (by omega) (by omega) h4 (λj h6 h7=>?_) hQ
    by_cases e:j=(l+q)/2
    ·subst e;exact z
    ·exact BX z (hu _ _ (by omega) h7)
   ·rw[HW z];refine lO hc P hk hu f ((l+q)/2+1) q (by omega) h2 (by omega) (λj h6=>?_) h5 hQ
    by_cases e:j=(l+q)/2
    ·subst e;omega
    ·have:=hu j ((l+q)/2) (by omega) (by omega);omega
theorem vB {k l:Nat}(hk:k<p.size)(hl:l<=k)(hj:j<p.size):(bubble p k (k-l)).getD j 0=if j=l then p.getD k 0 else if l<j/\j<=k then p.getD (j-1) 0 else p.getD j 0:=by
 have e:=getElem?_bubble hk (k-l) (by omega) j;rw[show k-(k-l)=l by omega,getD_some (by rw[bubble_size];exact hj)] at e
 by_cases h1:j=l
 ·rw[oO h1,getD_some hk] at e;rw[oO h1];exact Option.some.inj e
 ·rw[DW h1] at e |-
  by_cases h2:l<j/\j<=k
  ·rw[oO h2,getD_some (by omega)] at e;rw[oO h2];exact Option.some.inj e
  ·rw[DW h2,getD_some hj] at e;rw[DW h2];exact Option.some.inj e
theorem AE (inj:∀i j,i<n->j<n->i≠j->r i≠r j)(hc:∀i j C,i<n->j<n->i≠j->C (decide (r i<r j)) s->cmp i j C s){Q:Array Nat->Shared->Prop}(hQ:∀p',Pm n r p'->Up r p' n->Q p' s):∀(f:Nat)(p:Array Nat)(k:Nat),Pm n r p->k+f=n->Up r p k->(kas_bin f p k).kasWp cmp Q s
 |0,p,k,P,hk,hu=>hQ p P (by rw[<-hk];exact hu)
 |f+1,p,k,P,hk,hu=>by
  unfold kas_bin;rw[tW];refine lO hc P (by omega) hu k 0 k (GH _) (AY _) (by omega) (λj h=>by omega) (λj h1 h2=>by omega) λl h1 h2 h3=>?_;have P':Pm n r (bubble p k (k-l)):=qJ inj ((bubble_perm _ _ _).trans P.perm);refine AE inj hc hQ f _ (k+1) P' (by omega) λi j Kn hj=>?_;have sz:=P.size;rw[vB (by omega) h1 (by omega),vB (by omega) h1 (by omega)]
  by_cases e1:i=l
  ·rw[oO e1,DW (by omega),oO ⟨by omega,by omega⟩];exact h3 _ (by omega) (by omega)
  ·rw[DW e1]
   by_cases e2:j=l
   ·rw[oO e2,DW (by omega)];exact h2 _ (by omega)
   ·rw[DW e2]
    by_cases e3:l<j
    ·rw[oO (show l<j/\j<=k from⟨e3,by omega⟩)]
     by_cases e4:l<i
     ·rw[oO ⟨e4,by omega⟩];exact hu _ _ (by omega) (by omega)
     ·rw[DW (by omega)];exact hu _ _ (by omega) (by omega)
    ·rw[DW (by omega),DW (by omega)];exact hu _ _ Kn (by omega)
theorem vM (inj:∀i j,i<n->j<n->i≠j->r i≠r j)(hc:∀i j C,i<n->j<n->i≠j->C (decide (r i<r j)) s->cmp i j C s)(h0:1<=n){Q:Array Nat->Shared->Prop}(hQ:∀p',Pm n r p'->Up r p' n->Q p' s):(kas_sort n).kasWp cmp Q s:=by
 unfold kas_sort;rw[tW];refine adp inj hc h0 (qJ inj (Eh _)) λm p h1 h2 P hu=>?_;show((if m<n then kas_bin (n-max m 1) p (max m 1) else KasT.ret p).kasWp cmp Q s)
 by_cases h:m<n
 ·rw[oO h,show max m 1=m by omega];exact AE inj hc hQ _ _ _ P (by omega) hu
 ·rw[DW h]
  have e:m=n:=by omega
  subst e;exact hQ p P hu
end
variable {vs:wW}{n:Nat}
section
variable {prog:A9}{w:World}{A:Around}{E:zQ}{s:qm}
noncomputable def pF (prog:A9)(w:World)(A:Around)(ks:wW)(r:Nat->Nat)(s:qm):Prop :=
 ∃κ,(∀Q:SortKind->Shared->Prop,Q κ s->wpAny (model prog w) A (keyKind' ks.toArray) Q (λ_ _=>False) s)/\∀i j C,i<ks.length->j<ks.length->i≠j->C (decide (r i<r j)) s->kas_ask prog w A κ ks i j C s
noncomputable def cW (vs:wW)(p:Array Nat):List Value:=p.toList.map λi=>vs.getD i Value.none
theorem rq (vs:wW):cW vs (List.range vs.length).toArray=vs:=by
 unfold cW;apply rV
 ·simp
 ·intro i h1 h2;simp[h2]
theorem adq {r:Nat->Nat}(P:Pm vs.length r p):(cW vs p).length=vs.length:=by
 unfold cW;rw[wC,Ht,P.size]
theorem da (h:n<64):n<=sizeLine:=by rw[HQ];omega
noncomputable def y6 (a:Addr)(h h':Heap):Prop:=∀b o,b≠a->h.get? b=some o->h'.get? b=some o
theorem adw {h:Heap}{a:Addr}{o1 o2:Obj}{g:Obj->Obj}:y6 a h (((h.update a g).push o1).push o2):=λb o hb e=>by
 refine xQ _ (xQ _ ?_);rw[pW _ _ _ _ hb];exact e
theorem adx {a:Addr}{r:Nat->Nat}{P:PySem.Fin->Shared->Prop}(ho:s.heap.get? a=some (seqObj "list" vs.toArray n))(h64:vs.length<64)
 (inj:∀i j,i<vs.length->j<vs.length->i≠j->r i≠r j)
 (hk:2<=vs.length->∀h',y6 a s.heap h'->pF prog w A vs r {s with heap:=h'})
 (hP:∀h' p c,y6 a s.heap h'->h'.get? a=some (seqObj "list" (cW vs p).toArray c)->Pm vs.length r p->Up r p vs.length->P (.done (.ret .none)) {s with heap:=h'}):
 wpAny (model prog w) A (Builtin.«list.sort» ⟨[.ref a],[]⟩) P E s:=by
 have ha:a<s.heap.objs.size:=EL ho;obtain⟨e1,LK⟩:∃e1,(s.heap.update a (Obj.mapSeq λ_=>(#[]:IU))).get? a=some (seqObj "list" #[] e1):=⟨_,yA ho λ_=>#[]⟩;rw[list_sort_plain];refine IM (listItems_at ho rfl (IM (Ad ho rfl (IM (HA LK rfl (IM (Ed (IM (Bo ?_ (GH _))) (da h64))))) (by rw[yQ];exact da h64) (GH _))));refine CN (?_:wpAny (model prog w) A _ P E {s with heap:=((s.heap.update a (Obj.mapSeq λ_=>(#[]:IU))).push (seqObj "tuple" vs.toArray 0)).push (seqObj "list" #[] 0)});have kp:y6 a s.heap (((s.heap.update a (Obj.mapSeq λ_=>(#[]:IU))).push (seqObj "tuple" vs.toArray 0)).push (seqObj "list" #[] 0)):=adw;have OV:(((s.heap.update a (Obj.mapSeq λ_=>(#[]:IU))).push (seqObj "tuple" vs.toArray 0)).push (seqObj "list" #[] 0)).get? a=some (seqObj "list" #[] e1):=xQ _ (xQ _ LK);generalize ((s.heap.update a (Obj.mapSeq λ_=>(#[]:IU))).push (seqObj "tuple" vs.toArray 0)).push (seqObj "list" #[] 0)=h6 at kp OV |-
 have fin:∀p,Pm vs.length r p->Up r p vs.length->P (.done (.ret .none)) {s with heap:=h6.update a (Obj.mapSeq λ_=>(cW vs p).toArray)}:=λp pm up=>by
  obtain⟨c2,KH⟩:∃c2,(h6.update a (Obj.mapSeq λ_=>(cW vs p).toArray)).get? a=some (seqObj "list" (cW vs p).toArray c2):=⟨_,yA OV λ_=>(cW vs p).toArray⟩;exact hP _ p c2 (λb o hb e=>by rw[pW _ _ _ _ hb];exact kp b o hb e) KH pm up
 have last:∀p,Pm vs.length r p->(List.toArray (cW vs p)).size<=sizeLine:=λp pm=>by rw[yQ,adq pm];exact da h64
 dsimp only
 by_cases h2:vs.toArray.size<2
 ·have small:vs.length<2:=by simpa using h2
  rw[oO h2,oO h2];refine IM (IV ?_);rw[StateT.run_pure];refine IM (IV ?_)
  have hm:(arrOf (SortSt.mk' general' (vs.toArray.zip vs.toArray) #[] 7 none)).map (·.2)=(cW vs (List.range vs.length).toArray).toArray:=by
   rw[rq];show(vs.toArray.zip vs.toArray).map (·.2)=vs.toArray;apply BP.mp;simp[List.map_snd_zip]
  have P0:Pm vs.length r (List.range vs.length).toArray:=qJ inj (Eh _)
  have U0:Up r (List.range vs.length).toArray vs.length:=λi j Kn hj=>by omega
  dsimp only;rw[hm];refine IM (HA OV rfl (IM (Ad OV rfl ?_ (GH _) (uB (last _ P0)))));simp only[Cr,FU,EG];exact IV (fin _ P0 U0)
 ·have big:2<=vs.length:=by simpa using h2
  rw[DW h2,DW h2];obtain⟨κ,Kc,NQ⟩:=hk big h6 kp;refine IM (qx (Kc (λκ' s0=>(kas_sort vs.length).kasWp (kas_ask prog w A κ' vs) (λp s'=>s'={s with heap:=h6}/\Pm vs.length r p/\Up r p vs.length) s0) (vM (n:=vs.length) (r:=r) inj NQ (by omega) (Q:=λp s'=>s'={s with heap:=h6}/\Pm vs.length r p/\Up r p vs.length) λp pm up=>⟨rfl,pm,up⟩)) (λκ' s0 hw=>?_) λ_ _ x=>x.elim);refine IM (qx (kat_run (κ:=κ') (Q:=λJD s'=>∃p:Array Nat,arrOf JD=p.map (kas_item (vs.toArray.zip vs.toArray))/\failedOf JD=none/\s'={s with heap:=h6}/\Pm vs.length r p/\Up r p vs.length) rfl big h64 (λp' JD s' _ a2 a3 a4=>⟨p',a2,a3,a4⟩) hw) ?_ λ_ _ e=>e);rintro⟨⟨⟩,JD⟩ s' ⟨p,Qn,hf,rfl,pm,up⟩;dsimp only;rw[kat_snds rfl Qn];refine IM (HA OV rfl (IM (Ad OV rfl ?_ (GH _) (uB (last _ pm)))));rw[hf];simp only[Cr,FU,EG];exact IV (fin p pm up)
theorem adz {l:Addr}{r:Nat->Nat}{Q:zQ}(hl:s.heap.IsList l vs.toArray)(h64:vs.length<64)
 (inj:∀i j,i<vs.length->j<vs.length->i≠j->r i≠r j)
 (hk:2<=vs.length->∀h',(∀b o,s.heap.get? b=some o->h'.get? b=some o)->pF prog w A.in1.in1 vs r {s with heap:=h'})
 (hQ:∀h' D p c,(∀b o,s.heap.get? b=some o->h'.get? b=some o)->s.heap.get? D=none->h'.get? D=some (seqObj "list" (cW vs p).toArray c)->Pm vs.length r p->Up r p vs.length->Q (.ref D) {s with heap:=h'}):
 wpAny (model prog w) A (call (.builtin "sorted") [.ref l]) Q E s:=by
 refine Calls.call_function_entry kind_sorted plain_sorted entry_sorted (args_sorted1 _) ?_;unfold Builtin.«sorted»;refine IM (m:=checkCount "sorted" 1 1 _) (IV (IM (collect_list hl (IM (Bo ?_ (da h64))) (da h64))))
 have sz:((s.heap.push (seqObj "list" #[] 0)).update s.heap.objs.size (Obj.mapSeq (·++vs.toArray))).objs.size=s.heap.objs.size+1:=by rw[Heap.size_update];exact size_push' _ _
 have Md:(((s.heap.push (seqObj "list" #[] 0)).update s.heap.objs.size (Obj.mapSeq (·++vs.toArray))).push (seqObj "list" vs.toArray 0)).get? (s.heap.objs.size+1)=some (seqObj "list" vs.toArray 0):=by
  rw[<-sz];exact HR _ rfl
 have old:∀b o,s.heap.get? b=some o->(((s.heap.push (seqObj "list" #[] 0)).update s.heap.objs.size (Obj.mapSeq (·++vs.toArray))).push (seqObj "list" vs.toArray 0)).get? b=some o:=λb o q=>by
  have lt:b<s.heap.objs.size:=EL q;refine xQ _ ?_;rw[pW _ _ _ _ (Ho lt)];exact xQ _ q
 have new:s.heap.get? (s.heap.objs.size+1)=none:=Heap.get?_none_of_le (BK _);show wpAny _ _ _ _ _ {s with heap:=((s.heap.push (seqObj "list" #[] 0)).update s.heap.objs.size (Obj.mapSeq (·++vs.toArray))).push (seqObj "list" vs.toArray 0)};rw[sz];generalize ((s.heap.push (seqObj "list" #[] 0)).update s.heap.objs.size (Obj.mapSeq (·++vs.toArray))).push (seqObj "list" vs.toArray 0)=h5 at Md old |-;have kp:∀h',y6 (s.heap.objs.size+1) h5 h'->∀b o,s.heap.get? b=some o->h'.get? b=some o:=λh' k b o q=>k b o (λz=>by rw[z,new] at q;cases q) (old b o q);refine IM (CN (BU slot_list_sort ⟨_,Md,rfl⟩ entry_list_sort (adx (s:={s with heap:=h5}) (r:=r) Md h64 inj (λb h' k=>hk b h' (kp h' k)) λh' p c k e pm up=>⟨_,rfl,?_⟩) (args_list_sort _)));exact IV ⟨_,rfl,hQ h' _ p c (kp h' k) new e pm up⟩
end
open L2
noncomputable abbrev Ky:=Int×List Int
noncomputable def mK (a b:Ky):Bool:=if a.1=b.1 then HT.cY a.2 b.2 else decide (a.1<b.1)
theorem my:∀xs:List Int,HT.cY xs xs=false
 |[]=>rfl
 |x::xs=>by rw[HT.eJ,oO rfl];exact my xs
theorem om:∀{xs ys zs:List Int},HT.cY xs ys=true->HT.cY ys zs=true->HT.cY xs zs=true
 |[],[],_,h,_=>by cases h
 |[],y::ys,[],_,h=>by cases h
 |[],y::ys,z::zs,_,_=>rfl
 |x::xs,[],_,h,_=>by cases h
 |x::xs,y::ys,[],_,h=>by cases h
 |x::xs,y::ys,z::zs,h1,h2=>by
  rw[HT.eJ] at h1 h2 |-
  by_cases e1:x=y
  ·rw[oO e1] at h1
   by_cases e2:y=z
   ·rw[oO e2] at h2;rw[oO (e1.trans e2)];exact om h1 h2
   ·rw[DW e2] at h2;rw[e1,DW e2];exact h2
  ·rw[DW e1] at h1;have l1:=GR h1
   by_cases e2:y=z
   ·rw[<-e2,DW e1];exact h1
   ·rw[DW e2] at h2;have l2:=GR h2;rw[DW (by omega)];exact IW (by omega)
theorem nW:∀{xs ys:List Int},xs≠ys->HT.cY xs ys=true\/HT.cY ys xs=true
 |[],[],h=>absurd rfl h
 |[],y::ys,_=>.inl rfl
 |x::xs,[],_=>.inr rfl
 |x::xs,y::ys,h=>by
  rw[HT.eJ,HT.eJ]
  by_cases e:x=y
  ·subst e;rw[oO rfl,oO rfl];exact nW λz=>h (by rw[z])
  ·rw[DW e,DW (Hw e)];simp only[DY];omega
theorem mw (a:Ky):mK a a=false:=by unfold mK;rw[oO rfl];exact my _
theorem i8 {a b c:Ky}(h1:mK a b=true)(h2:mK b c=true):mK a c=true:=by
 unfold mK at h1 h2 |-
 by_cases e1:a.1=b.1
 ·rw[oO e1] at h1
  by_cases e2:b.1=c.1
  ·rw[oO e2] at h2;rw[oO (e1.trans e2)];exact om h1 h2
  ·rw[DW e2] at h2;rw[e1,DW e2];exact h2
 ·rw[DW e1] at h1;have l1:=GR h1
  by_cases e2:b.1=c.1
  ·rw[<-e2,DW e1];exact h1
  ·rw[DW e2] at h2;have l2:=GR h2;rw[DW (by omega)];exact IW (by omega)
theorem jv {a b:Ky}(h:a≠b):mK a b=true\/mK b a=true:=by
 unfold mK
 by_cases e:a.1=b.1
 ·rw[oO e,oO e.symm];exact nW λz=>h (zV e z)
 ·rw[DW e,DW (Hw e)];simp only[DY];omega
noncomputable def cP (ks:List Ky)(i:Nat):Ky:=ks.getD i (0,[])
noncomputable def rk (ks:List Ky)(i:Nat):Nat:=(List.range ks.length).countP λj=>mK (cP ks j) (cP ks i)
theorem nQ {α:Type}{p q:α->Bool}:∀{l:List α},(∀x∈l,p x=true->q x=true)->(∃x∈l,q x=true/\p x=false)->l.countP p<l.countP q
 |[],_,⟨x,hx,_⟩=>by cases hx
 |a::l,h,⟨x,hx,h1,h2⟩=>by
  have le:∀l':List α,(∀x∈l',p x=true->q x=true)->l'.countP p<=l'.countP q:=λl' h'=>List.countP_mono_left h';rw[Aa,Aa]
  rcases Ef.mp hx with rfl|hx
  ·rw[oO h1,DW (by rw[h2];exact FO)];have:=le l λx hx=>h x (AM _ hx);omega
  ·have ih:=nQ (l:=l) (λx hx=>h x (AM _ hx)) ⟨x,hx,h1,h2⟩;have h0:=h a qG
   cases e:p a with
   |false=>simp only[FU,EG];omega
   |true=>rw[h0 e];simp only[xm];omega
variable {ks:List Ky}
theorem iz {i:Nat}(hi:i<ks.length)(h:mK (cP ks i) (cP ks j)=true):rk ks i<rk ks j :=
 nQ (λl _ hl=>i8 hl h) ⟨i,IX.mpr hi,h,mw _⟩
theorem zS {i:Nat}(hi:i<ks.length)(hj:j<ks.length):decide (rk ks i<rk ks j)=mK (cP ks i) (cP ks j):=by
 cases e:mK (cP ks i) (cP ks j) with
 |true=>exact IW (iz hi e)
 |false =>
  refine HW λz=>?_
  by_cases k:cP ks i=cP ks j
  ·unfold rk at z;rw[k] at z;exact qo _ z
  ·rcases jv k with h|h
   ·rw[e] at h;cases h
   ·exact Nat.lt_asymm z (iz hj h)
theorem zD (nd:ks.Nodup):∀i j,i<ks.length->j<ks.length->i≠j->rk ks i≠rk ks j:=λi j hi hj Jt z=>by
 have k:cP ks i≠cP ks j:=λe=>by
  have e':ks[i]=ks[j]:=by
   unfold cP at e;simpa[hi,hj] using e
  have pw:=AB.mp (show ks.Pairwise (· ≠ ·) from nd)
  rcases Nat.lt_or_gt_of_ne Jt with l|l
  ·exact pw i j _ _ l e'
  ·exact pw j i _ _ l e'.symm
 rcases jv k with h|h
 ·have:=iz hi h;omega
 ·have:=iz hj h;omega
noncomputable def uX (K:Frag)(H:Hp)(x:V)(k:Ky):Prop:=∃a b rest,x=.ref a/\a7 K H a (.int k.1 :: .ref b::rest)/\a7 K H b (k.2.map V.int)
noncomputable def c9 (K:Frag)(H:Hp):List V->List Ky->Prop
 |[],[]=>True
 |x::xs,k::ks=>uX K H x k/\c9 K H xs ks
 |_,_=>False
variable {K:Frag}{H:Hp}
theorem c9.len :∀{xs:List V}{ks:List Ky},c9 K H xs ks->xs.length=ks.length
 |[],[],_=>rfl
 |_::_,_::_,⟨_,r⟩=>DT (·+1) r.len
 |[],_::_,h=>h.elim
 |_::_,[],h=>h.elim
theorem c9.get :∀{xs:List V}{ks:List Ky}{i:Nat}{x:V},c9 K H xs ks->xs[i]?=some x->uX K H x (cP ks i)
 |x::xs,k::ks,0,y,⟨h,_⟩,e=>by simp at e;subst e;exact h
 |x::xs,k::ks,i+1,y,⟨_,r⟩,e=>by
  have:=r.get (i:=i) (x:=y) (by simpa using e);simpa[cP] using this
 |[],[],i,y,_,e=>by simp at e
 |[],_::_,_,_,h,_=>h.elim
 |_::_,[],_,_,h,_=>h.elim
theorem iq :∀ns:List Int,a8 K H (ns.map D.int) (ns.map V.int)
 |[]=>by unfold a8;rfl
 |n::ns=>by unfold a8;exact⟨_,_,rfl,by unfold aL;rfl,iq ns⟩
theorem adJ (ns:List Int):i5 (.tup (ns.map D.int))<=1:=by
 unfold i5
 have:∀ms:List Int,dY (ms.map D.int)=0:=λms=>by
  induction ms with
  |nil=>unfold dY;rfl
  |cons m ms ih=>rw[xx];unfold dY;rw[ih];unfold i5;rfl
 rw[this];omega
theorem qp:∀ns ms:List Int,fE (ns.map D.int) (ms.map D.int)=decide (ns=ms)
 |[],[]=>by simp;rfl
 |[],m::ms=>by simp;rfl
 |n::ns,[]=>by simp;rfl
 |n::ns,m::ms=>by
  show((n==m)&&fE (ns.map D.int) (ms.map D.int))=_;rw[qp ns ms]
  by_cases e:n=m
  ·subst e;simp
  ·simp[e]
variable {xs:List V}{us:wW}
section
variable {X:Cx}{pins:List (Addr×Obj)}{σ:L2.St}{H:Hp}{s:qm}
theorem adU {A:Around}{x y:V}{u v:Value}{k j:Ky}{C:Bool->Shared->Prop}{E:zQ}(I:Inv X pins σ H s)(hA:A.units+2<cLine)(hx:uX X.K H x k)(hy:uX X.K H y j)(rx:aE x u)(ry:aE y v)(ne:k≠j)(h:C (mK k j) s):
 wpAny (model X.prog X.w) A (keyLt' (tuples' true) u v) C E s:=by
 obtain⟨a,b,rest,rfl,h1,h2⟩:=hx;obtain⟨a',b',YY,rfl,KZ,Le⟩:=hy
 cases(show u=Value.ref a from rx)
 cases(show v=Value.ref a' from ry)
 obtain⟨its,r1,⟨o1,g1,_,n1,d1⟩,_⟩:=I.tuple h1;obtain⟨its',TN,⟨o1',Qf,_,n1',d1'⟩,_⟩:=I.tuple KZ;refine kat_lt g1 d1 Qf d1' ?_
 cases r1 with
 |cons q1 r1 =>
  cases r1 with
  |cons q2 r1 =>
   cases TN with
   |cons q1' TN =>
    cases TN with
    |cons q2' TN =>
     obtain⟨t,rfl⟩:=q1;obtain⟨t',rfl⟩:=q1'
     rename_i w2 _ w2' _
     cases(show w2=Value.ref b from q2)
     cases(show w2'=Value.ref b' from q2')
     show KatLex _ _ _ _ _ _ ((Value.int k.1 t,Value.int j.1 t'):: (Value.ref b,Value.ref b'):: _) 0 s;refine kat_cons (B7 k.1 t j.1 t' X.prog X.w _ _ ?_)
     have klt_def:mK k j=if k.1=j.1 then HT.cY k.2 j.2 else decide (k.1<j.1):=rfl
     refine kat_go (λe=>kat_yes ?_) λe=>kat_no ?_
     ·have e1:k.1=j.1:=by simpa using e
      have n2:k.2≠j.2:=λz=>ne (zV e1 z);have dd:=(jf I 1 A (.tup (k.2.map D.int)) (.tup (j.2.map D.int)) (.ref b) (.ref b') (.ref b) (.ref b') (adJ _) (by omega) (by unfold aL;exact⟨b,_,rfl,h2,iq _⟩) (by unfold aL;exact⟨b',_,rfl,Le,iq _⟩) rfl rfl).2.1;have e2:hV (.tup (k.2.map D.int)) (.tup (j.2.map D.int))=false:=(qp _ _).trans (HW n2);rw[e2] at dd;refine kat_cons (dd X.prog X.w _ _ (kat_no ?_));rw[klt_def,oO e1] at h;obtain⟨Jc,p2,t2,_⟩:=I.tuple h2;obtain⟨YZ,p2',t2',_⟩:=I.tuple Le;exact kat_one _ _ (HT.abV t2 t2' (lB p2) (lB p2') (by omega) h)
     ·have e1:k.1≠j.1:=by simpa using e
      rw[klt_def,DW e1] at h;exact oneLt_int h
theorem adV (I:Inv X pins σ H s)(xs:List V):∀(ks:List Ky)(us:wW),c9 X.K H xs ks->aN xs us->∃fs:List Value,KatTups s.heap us fs/\fs.length=us.length/\∀f∈fs,∃i t,f=Value.int i t:=by
 induction xs with
 |nil =>
  intro ks us _ r
  cases r
  exact⟨[],.nil,rfl,λf hf=>by cases hf⟩
 |cons x xs ih =>
  intro ks us h r
  cases ks with
  |nil=>exact h.elim
  |cons k ks =>
   cases r with
   |cons rx rv =>
    rename_i u us
    obtain⟨⟨a,b,rest,e,h1,_⟩,hr⟩:=h;obtain⟨fs,t,hl,hf⟩:=ih ks us hr rv;subst e
    cases(show u=Value.ref a from rx)
    obtain⟨its,r1,⟨o1,g1,c1,n1,d1⟩,_⟩:=I.tuple h1
    cases r1 with
    |cons q1 r1 =>
     obtain⟨tk,rfl⟩:=q1;refine⟨Value.int k.1 tk::fs,.cons g1 c1 d1 rfl t,by simp[hl],λf hf'=>?_⟩
     rcases Ef.mp hf' with rfl|z
     ·exact⟨_,_,rfl⟩
     ·exact hf f z
theorem j9 {A:Around}(I:Inv X pins σ H s)(hA:A.units+2<cLine)(hk:c9 X.K H xs ks)(rv:aN xs us)(nd:ks.Nodup)(h2:2<=us.length):pF X.prog X.w A us (rk ks) s:=by
 obtain⟨fs,t,hl,hf⟩:=adV I xs ks us hk rv;have DK:=hk.len;have tX:=rv.length;refine⟨tuples' true,λQ hq=>kat_kind (T:=Value.type "int") t (by omega) (λv hv=>?_) (by decide) hq,λi j C hi hj Jt hc=>?_⟩
 ·obtain⟨i,tk,rfl⟩:=hf v hv;exact .now
 ·have gi:∃x,xs[i]?=some x/\aE x (us.getD i .none):=by
   have Y0:i<xs.length:=by omega
   obtain⟨u,e,r⟩:=rv.get (i:=i) (x:=xs[i]) (by simp[Y0]);refine⟨xs[i],by simp[Y0],?_⟩;rw[Cc,e];exact r
  have gj:∃x,xs[j]?=some x/\aE x (us.getD j .none):=by
   have TQ:j<xs.length:=by omega
   obtain⟨u,e,r⟩:=rv.get (i:=j) (x:=xs[j]) (by simp[TQ]);refine⟨xs[j],by simp[TQ],?_⟩;rw[Cc,e];exact r
  obtain⟨x,ex,rx⟩:=gi;obtain⟨y,ey,ry⟩:=gj;rw[zS (by omega) (by omega)] at hc
  have kne:cP ks i≠cP ks j:=λz=>by
   have e':ks[i]'(by omega)=ks[j]'(by omega):=by
    unfold cP at z;simpa[show i<ks.length by omega,show j<ks.length by omega] using z
   have pw:=AB.mp (show ks.Pairwise (· ≠ ·) from nd)
   rcases Nat.lt_or_gt_of_ne Jt with l|l
   ·exact pw i j _ _ l e'
   ·exact pw j i _ _ l e'.symm
  exact adU I hA (hk.get ex) (hk.get ey) rx ry kne hc
end
section
variable {α:Type}
noncomputable def nh (k:Ky)(x:α):List (Ky×α)->List (Ky×α)
 |[]=>[(k,x)]
 |(j,y):: r=>if mK k j=true then(k,x):: (j,y):: r else(j,y):: nh k x r
noncomputable def cV:List (Ky×α)->List (Ky×α)
 |[]=>[]
 |(k,x):: r=>nh k x (cV r)
theorem ju (k:Ky)(x:α):∀l:List (Ky×α),(nh k x l).Perm ((k,x):: l)
 |[]=>.refl _
 |(j,y):: r=>by
  unfold nh
  split
  ·exact .refl _
  ·exact((ju k x r).cons _).trans (.swap _ _ _)
theorem cA:∀l:List (Ky×α),(cV l).Perm l
 |[]=>.refl _
 |(k,x):: r=>(ju k x _).trans ((cA r).cons _)
noncomputable def Fz (l:List (Ky×α)):Prop:=l.Pairwise λa b=>mK a.1 b.1=true
theorem u9 {k:Ky}{x:α}:∀{l:List (Ky×α)},Fz l->(∀p∈l,p.1≠k)->Fz (nh k x l)
 |[],_,_=>List.pairwise_singleton _ _
 |(j,y):: r,h,hn=>by
  obtain⟨h1,h2⟩:=BJ.mp h;unfold nh
  by_cases e:mK k j=true
  ·rw[oO e];refine BJ.mpr ⟨λp hp=>?_,h⟩
   rcases Ef.mp hp with rfl|hp
   ·exact e
   ·exact i8 e (h1 p hp)
  ·rw[DW e];have jk:mK j k=true:=(jv (hn _ qG)).resolve_right e;refine BJ.mpr ⟨λp hp=>?_,u9 h2 λp hp=>hn p (AM _ hp)⟩
   rcases Ef.mp ((ju k x r).mem_iff.mp hp) with rfl|hp
   ·exact jk
   ·exact h1 p hp
theorem kF:∀{l:List (Ky×α)},(l.map (·.1)).Nodup->Fz (cV l)
 |[],_=>.nil
 |(k,x):: r,h=>by
  obtain⟨h1,h2⟩:=xG.mp h;exact u9 (kF h2) λp hp z=>h1 (z▸BG (f:=(·.1)) ((cA r).mem_iff.mp hp))
theorem nN:∀{l1 l2:List (Ky×α)},Fz l1->Fz l2->l1.Perm l2->l1=l2
 |[],l2,_,_,p=>(List.nil_perm.mp p).symm
 |a::l1,[],_,_,p=>(List.nil_perm.mp p.symm)
 |a::l1,b::l2,h1,h2,p=>by
  obtain⟨u1,v1⟩:=BJ.mp h1;obtain⟨u2,v2⟩:=BJ.mp h2
  have e:a=b:=by
   rcases Ef.mp (p.mem_iff.mp qG) with z|z
   ·exact z
   ·rcases Ef.mp (p.mem_iff.mpr (qG (a:=b) (l:=l2))) with w|w
    ·exact w.symm
    ·have c1:=u2 a z;have c2:=u1 b w;have c3:=i8 c1 c2;rw[mw] at c3
     cases c3
  subst e;rw[nN v1 v2 (List.Perm.cons_inv p)]
theorem qv {l1 l2:List (Ky×α)}(nd:(l2.map (·.1)).Nodup)(h:Fz l1)(p:l1.Perm l2):l1=cV l2:=nN h (kF nd) (p.trans (cA l2).symm)
theorem adW {l1 l2:List (Ky×α)}(nd:(l2.map (·.1)).Nodup)(p:l1.Perm l2):cV l1=cV l2:=by
 refine qv nd (kF ?_) ((cA l1).trans p);exact(p.map (·.1)).nodup_iff.mpr nd
end
noncomputable def Gj (xs:List V)(p:Array Nat):List V:=p.toList.map λi=>xs.getD i .non
theorem qg (rv:aN xs us){r:Nat->Nat}(P:Pm n r p)(hn:n<=xs.length):aN (Gj xs p) (cW us p):=by
 have key:∀l:List Nat,(∀i∈l,i<xs.length)->aN (l.map λi=>xs.getD i .non) (l.map λi=>us.getD i Value.none):=by
  intro l
  induction l with
  |nil=>intro _;exact .nil
  |cons i l ih =>
   intro h;have hi:=h i qG;obtain⟨u,e,r⟩:=rv.get (i:=i) (x:=xs[i]) (by simp[hi]);refine .cons ?_ (ih λj hj=>h j (AM _ hj));show aE (xs.getD i .non) (us.getD i Value.none);rw[Cc,Cc,e,show xs[i]?=some xs[i] by simp[hi]];exact r
 refine key p.toList λi hi=>?_
 have z:i∈(List.range n):=by
  have pl:p.toList.Perm (List.range n):=by simpa using P.perm.toList
  exact pl.mem_iff.mp hi
 have:=IX.mp z;omega
theorem qQ (hl:xs.length=ks.length)(nd:ks.Nodup)(P:Pm xs.length (rk ks) p)(U:Up (rk ks) p xs.length):Gj xs p=(cV (ks.zip xs)).map (·.2):=by
 have pl:p.toList.Perm (List.range xs.length):=by simpa using P.perm.toList
 have e1:(List.range xs.length).map (λi=>(cP ks i,xs.getD i V.non))=ks.zip xs:=by
  apply rV
  ·simp[hl]
  ·intro i h1 h2
   have hi:i<xs.length:=by simpa using h1
   have hk:i<ks.length:=by omega
   simp[cP,hi,hk]
 have z:p.toList.map (λi=>(cP ks i,xs.getD i V.non))=cV (ks.zip xs):=by
  refine qv ?_ ?_ ?_
  ·rw[Bi (by omega)];exact nd
  ·unfold Fz;rw[List.pairwise_map];refine AB.mpr λi j hi hj Kn=>?_;have sz:=P.size;rw[Ht] at hi hj;have u:=U i j Kn (by omega)
   have gi:p.getD i 0=p.toList[i]:=by simp[Array.getD,hi]
   have gj:p.getD j 0=p.toList[j]:=by simp[Array.getD,hj]
   rw[gi,gj] at u
   have bi:p.toList[i]<ks.length:=by rw[<-gi,<-hl];exact P.lt i (by omega)
   have bj:p.toList[j]<ks.length:=by rw[<-gj,<-hl];exact P.lt j (by omega)
   rw[<-zS bi bj];exact IW u
  ·exact(pl.map _).trans (by rw[e1])
 rw[<-z,BA];rfl
noncomputable def adX (K:Frag):List V->Hp->VK->Prop:=λvs H Q=>∃l xs ks,vs=[.ref l]/\aW K H l xs/\xs.length<64/\c9 K H xs ks/\ks.Nodup/\∀D,H D=none->Q (.ref D) (upd H D (.lst ((cV (ks.zip xs)).map (·.2))))
section
variable {X:Cx}{k:Nat}
theorem adY (hr:Hz (k+2) X.A):eV X (.builtin "sorted") (adX X.K):=by
 intro pins s σ H vs us Q I r h;obtain⟨l,xs,ks,rfl,hl,h64,hk,nd,q⟩:=h;obtain⟨u,rfl,ru⟩:=eY r
 cases(show u=Value.ref l from ru)
 obtain⟨its,rv,pl,hz⟩:=I.list hl;have ln:=rv.length;have lk:=hk.len;have inj:=zD nd;refine adz (r:=rk ks) pl.isList (by omega) (λi j hi hj=>inj i j (by omega) (by omega)) (λh2 h' kp=>?_) λh' D p c kp hD e pm up=>?_
 ·exact j9 (s:={s with heap:=h'}) (I.kept (t':=s.toks) kp) (by have:=(hr.in1.in1).units;omega) hk rv nd h2
 ·have Y1:Pm xs.length (rk ks) p:=by rw[ln];exact pm
  have up':Up (rk ks) p xs.length:=by rw[ln];exact up
  have hv:=qg rv Y1 (AY _);rw[qQ lk nd Y1 up'] at hv
  have hlen:((cV (ks.zip xs)).map (·.2)).length<=sizeLine:=by
   rw[wC,(cA _).length_eq,Eb];exact GC (uu _ _) (da h64)
  exact⟨.ref D,_,I.newObj (t':=s.toks) (o:=.lst ((cV (ks.zip xs)).map (·.2))) kp hD ⟨hlen,_,c,hv,e⟩,rfl,q D (I.aiA hD)⟩
end
noncomputable def n5 (sp:Sp):List V->Hp->(List V->Hp->Prop)->Prop
 |[],H,R=>R [] H
 |x::xs,H,R=>sp [x] H (λk H1=>n5 sp xs H1 λks H2=>R (k::ks) H2) λ_ _ _=>False
variable {b:Addr}{ob:Obj}
section
variable {X:Cx}{pins:List (Addr×Obj)}{σ:L2.St}{H:Hp}{s:qm}
theorem adZ {D:Addr}{o:HO}(I:Inv X pins σ H s)(f:cK X pins H D)(hD:X.s₀.heap.objs.size<=D)(new:a9 X.prog X.w (upd H D o) s.heap D o):Inv X pins σ (upd H D o) s:=by
 obtain⟨f0,f1,f2,f3,f4,f5⟩:=f;have u:=I.base;refine⟨I.ok,I.os,I.bare,⟨u.keep,u.slot,λb' o' e n hx=>?_,u.there,λb' xs e=>?_,λb' o' u' e=>?_,λb' ps e=>?_⟩,I.loc,I.cell,?_,λx c e=>?_,λp hp=>?_,dE I.hok f0 new,I.len⟩
 ·rw[au (Ho (HG (EL e) hD))];exact u.free b' o' e n hx
 ·rw[au (ax (u.agf b' xs e) f0)];exact u.agf b' xs e
 ·rw[au (ax (u.age b' o' u' e) f0)];exact u.age b' o' u' e
 ·obtain⟨m,q⟩:=u.agp b' ps e;exact⟨m,by rw[au (ax q f0)];exact q⟩
 ·rw[au (Hw f1)];exact I.free
 ·rw[au (f4 x c e)];exact I.aga x c e
 ·obtain⟨e,n,r⟩:=I.pin p hp;exact⟨e,by rw[au (f5 p hp)];exact n,r⟩
theorem ad6 {c:Addr}(f:cK X pins H b)(h:c≠b):cK X (pins++[(c,ob)]) H b:=by
 obtain⟨f0,f1,f2,f3,f4,f5⟩:=f;refine⟨f0,f1,f2,f3,f4,λp hp=>?_⟩;rw[<-uD] at hp
 rcases HB.mp hp with z|z
 ·exact f5 p z
 ·have e:p=(c,ob):=by simpa using z
  subst e;exact h
theorem pY {H':Hp}(f:cK X pins H b)(h:H' b=none):cK X pins H' b:=⟨h,f.2⟩
theorem uS (I:Inv X pins σ H s)(f:cK X pins H b)(e:s.heap.get? b=some ob)(d:∀v,ob.data≠.cell v):Inv X (pins++[(b,ob)]) σ H s:=I.agk λp hp=>by
 rcases HB.mp hp with z|z
 ·exact I.pin p (Il _ z)
 ·have e1:p=(b,ob):=by simpa using z
  subst e1;exact⟨e,f.1,f.2.1,f.2.2.1,d⟩
theorem nG (I:Inv X (pins++[(b,ob)]) σ H s):Inv X pins σ H s:=I.agk λp hp=>I.pin p (Il _ (mi _ hp))
theorem zZ (I:Inv X (pins++[(b,ob)]) σ H s):s.heap.get? b=some ob/\H b=none:=by
 obtain⟨e,n,_⟩:=I.pin (b,ob) (Il _ (Il _ (by simp)));exact⟨e,n⟩
end
theorem mz {c:String}{xs:IU}:∀v,(seqObj c xs n).data≠.cell v:=λv z=>by cases z
variable {s:qm}{Q:VK}
section
variable {X:Cx}{pins:List (Addr×Obj)}{σ:L2.St}{k:Nat}{f:Addr}{fd:FD}{ps:DV}{sp:Sp}{A:Around}{E:zQ}
theorem aeK {x:V}{u:Value}(F:Ey X.prog X.w X.K X.mg X.base (bZ X.prog X.w) k f fd ps sp)(hr:Hz k A)(hA:∀H s,Inv X pins σ H s->GV X.prog X.w X.K X.mg X.base A X.stack s H)(hb:bF X.K fd ps [])(I:Inv X pins σ H s)(r:aE x u)(h:sp [x] H Q λ_ _ _=>False):
 wpAny (model X.prog X.w) A (call (.ref f) [u]) (EP X pins σ Q) (λ_ _=>False) s:=by
 have hl:([u]:wW).length+([]:wW).length=ps.length:=by have:=F.len _ _ _ _ h;simpa using this
 have bd:=hb s [u] I.kIn hl;rw[F2] at bd;refine sI (Gp (F.run A X.stack s H ⟨[u],[]⟩ [u] [x] Q _ hr (hA H s I) bd (.cons r .nil) h) λres s' hq=>?_)
 cases res with
 |error e =>
  obtain⟨a,cls,a0,B,d,H',_,_,_,_,hE⟩:=hq;exact hE.elim
 |ok fl =>
  cases fl with
  |ret v=>exact I.after hq
  |next=>exact False.elim hq
  |brk=>exact False.elim hq
  |cont=>exact False.elim hq
end
noncomputable abbrev kI (X:Cx)(xs:List V)(Q:VK):List V->Hp->Prop:=λks H2=>∃kz,c9 X.K H2 ks kz/\kz.Nodup/\∀D,H2 D=none->Q (.ref D) (upd H2 D (.lst ((cV (kz.zip xs)).map (·.2))))
section
variable {X:Cx}{pins:List (Addr×Obj)}{σ:L2.St}{k:Nat}{f:Addr}{fd:FD}{ps:DV}{sp:Sp}{A:Around}{E:zQ}
theorem aeL {ks:wW}(h:ks.length=vs.length):((ks.toArray.zip vs.toArray).map (·.2))=vs.toArray:=by
 apply BP.mp;rw[Array.toList_map,ksk_zip];simp only[List.toList_toArray] at *;exact List.map_snd_zip (by omega)
theorem aeM {D kS:Addr}{e1 c:Nat}{kV:List V}{ks:wW}{P:PySem.Fin->Shared->Prop}(hA:A.units+2<cLine)(hD:X.s₀.heap.objs.size<=D)(fD:cK X pins H D)(fS:cK X pins H kS)(ne:kS≠D)
 (I:Inv X pins σ H s)(eD:s.heap.get? D=some (seqObj "list" #[] e1))(eS:s.heap.get? kS=some (seqObj "list" ks.toArray c))(rx:aN xs us)(NR:aN kV ks)(hl:kV.length=xs.length)(h64:xs.length<64)(w:kI X xs Q kV H)
 (hP:∀s',EP X pins σ Q (.ref D) s'->P (.done (.ret .none)) s'):wpAny (model X.prog X.w) A (ksk_end D false us.toArray e1 (.ref kS) ks.toArray) P E s:=by
 obtain⟨kz,hk,nd,q⟩:=w;have l1:=rx.length;have l2:=NR.length;have l3:=hk.len;have inj:=zD nd
 have fin:∀p,Pm xs.length (rk kz) p->Up (rk kz) p xs.length->∀st:SortSt,(arrOf st).map (·.2)=(cW us p).toArray->failedOf st=none->wpAny (model X.prog X.w) A (ksk_tail D false e1 (.ref kS) st) P E s:=λp pm up st Qn hf=>by
  have Vm:=qg rx pm (AY _);rw[qQ (by omega) nd pm up] at Vm
  have hlen:((cV (kz.zip xs)).map (·.2)).length<=sizeLine:=by
   rw[wC,(cA _).length_eq,Eb];exact GC (uu _ _) (da h64)
  have Vn:(cW us p).toArray.size<=sizeLine:=by rw[yQ,<-Vm.length];exact hlen
  have MO:=Ai s.heap kS (Obj.mapSeq λ_=>(#[]:IU));have Lh:(s.heap.update kS (Obj.mapSeq λ_=>(#[]:IU))).get? D=some (seqObj "list" #[] e1):=(MO.2 D (Hw ne)).trans eD;have I1:Inv X pins σ H {s with heap:=s.heap.update kS (Obj.mapSeq λ_=>(#[]:IU))}:=cH I fS MO;unfold ksk_tail;dsimp only;rw[Qn];refine IM (Ad eS rfl (IM (jU ?_)) (by rw[yQ,<-l2,hl];exact da h64) (GH _));generalize s.heap.update kS (Obj.mapSeq λ_=>(#[]:IU))=h1 at Lh I1 |-;have TR:=Ai h1 D (Obj.mapSeq λ_=>(cW us p).toArray);obtain⟨c2,KH⟩:∃c2,(h1.update D (Obj.mapSeq λ_=>(cW us p).toArray)).get? D=some (seqObj "list" (cW us p).toArray c2):=⟨_,yA Lh λ_=>(cW us p).toArray⟩;have I2:Inv X pins σ H {s with heap:=h1.update D (Obj.mapSeq λ_=>(cW us p).toArray)}:=cH (s:={s with heap:=h1}) I1 fD TR;have I3:=adZ (o:=.lst ((cV (kz.zip xs)).map (·.2))) I2 fD hD ⟨hlen,_,c2,Vm,KH⟩;refine IM (HA Lh rfl (IM (Ad Lh rfl ?_ (GH _) (uB Vn))));rw[hf];simp only[Cr,FU,EG];exact IV (hP _ ⟨.ref D,_,I3,rfl,q D fD.1⟩)
 have P0:Pm xs.length (rk kz) (List.range xs.length).toArray:=qJ (λi j hi hj=>inj i j (by omega) (by omega)) (Eh _);unfold ksk_end;dsimp only;rw[DW FO];simp only[FU,EG]
 by_cases h2:us.toArray.size<2
 ·have small:xs.length<2:=by rw[l1];simpa using h2
  rw[oO h2,oO h2];refine IM (IV ?_);rw[StateT.run_pure];refine IM (IV ?_);refine fin (List.range xs.length).toArray P0 (λi j Kn hj=>by omega) _ ?_ rfl;show(ks.toArray.zip us.toArray).map (·.2)=_;rw[aeL (by omega),l1,rq]
 ·have big:2<=us.length:=by simpa using h2
  rw[DW h2,DW h2];obtain⟨κ,Kc,NQ⟩:=j9 (A:=A) I hA hk NR nd (by omega);refine IM (qx (Kc (λκ' s0=>(kas_sort us.length).kasWp (kas_ask X.prog X.w A κ' ks) (λp s'=>s'=s/\Pm us.length (rk kz) p/\Up (rk kz) p us.length) s0) (vM (n:=us.length) (r:=rk kz) (λi j hi hj=>inj i j (by omega) (by omega)) (λi j C hi hj=>NQ i j C (by omega) (by omega)) (by omega) λp pm up=>⟨rfl,pm,up⟩)) (λκ' s0 hw=>?_) λ_ _ x=>x.elim);refine IM (qx (kat_run (κ:=κ') (Q:=λJD s'=>∃p:Array Nat,arrOf JD=p.map (kas_item (ks.toArray.zip us.toArray))/\failedOf JD=none/\s'=s/\Pm us.length (rk kz) p/\Up (rk kz) p us.length) (by omega) big (by omega) (λp' JD s' _ a2 a3 a4=>⟨p',a2,a3,a4⟩) hw) ?_ λ_ _ e=>e);rintro⟨⟨⟩,JD⟩ s' ⟨p,Qn,hf,rfl,pm,up⟩;exact fin p (by rw[l1];exact pm) (by rw[l1];exact up) JD (kat_snds (by omega) Qn) hf
theorem aeP {α:Type}{l:List α}{x:α}(h:l[j]?=some x):l.drop j=x::l.drop (j+1):=by
 obtain⟨hj,e⟩:=Im.mp h;rw[List.drop_eq_getElem_cons hj,e]
theorem aeQ {D:Addr}{P:PySem.Fin->Shared->Prop}(F:Ey X.prog X.w X.K X.mg X.base (bZ X.prog X.w) k f fd ps sp)(hr:Hz k A)(hE:∀pins' H s,Inv X pins' σ H s->GV X.prog X.w X.K X.mg X.base A X.stack s H)(hb:bF X.K fd ps [])
 (hD:X.s₀.heap.objs.size<=D)(fD:cK X pins H D)(I:Inv X pins σ H s)(eD:s.heap.get? D=some (seqObj "list" us.toArray n))(rx:aN xs us)(h64:xs.length<64)(h:n5 sp xs H (kI X xs Q))
 (hP:∀s',EP X pins σ Q (.ref D) s'->P (.done (.ret .none)) s'):wpAny (model X.prog X.w) A (ksk_tree D (.ref f) false) P E s:=by
 have l1:=rx.length
 have s64:us.toArray.size<=sizeLine:=by rw[yQ,<-l1];exact da h64
 obtain⟨e1,Lh⟩:∃e1,(s.heap.update D (Obj.mapSeq λ_=>(#[]:IU))).get? D=some (seqObj "list" #[] e1):=⟨_,yA eD λ_=>#[]⟩;have I1:Inv X pins σ H {s with heap:=s.heap.update D (Obj.mapSeq λ_=>(#[]:IU))}:=cH I fD (Ai _ _ _);unfold ksk_tree;refine IM (listItems_at eD rfl (IM (Ad eD rfl (IM (HA Lh rfl (IM (Ed ?_ (by show us.length<=_;rw[<-l1];exact da h64))))) s64 (GH _))));refine IM (Bo (CN ?_) (GH _));generalize s.heap.update D (Obj.mapSeq λ_=>(#[]:IU))=h1 at Lh I1 |-;dsimp only;have I2:Inv X pins σ H {s with heap:=h1.push (seqObj "tuple" us.toArray 0)}:=I1.kept (t':=s.toks) λb o q=>xQ _ q;have NT:(h1.push (seqObj "tuple" us.toArray 0)).get? D=some (seqObj "list" #[] e1):=xQ _ Lh;show wpAny (model X.prog X.w) A (ksk_rest D (.ref f) false us.toArray e1 (.ref (h1.push (seqObj "tuple" us.toArray 0)).objs.size)) P E {s with heap:=(h1.push (seqObj "tuple" us.toArray 0)).push (seqObj "list" #[] 0)};generalize h1.push (seqObj "tuple" us.toArray 0)=h2 at I2 NT |-;have ne:h2.objs.size≠D:=EB (EL NT);have Vo:cK X pins H h2.objs.size:=I2.agS (AY _) (I2.hok.fresh (AY _));have I3:Inv X pins σ H {s with heap:=h2.push (seqObj "list" #[] 0)}:=I2.kept (t':=s.toks) λb o q=>xQ _ q;have eD3:(h2.push (seqObj "list" #[] 0)).get? D=some (seqObj "list" #[] e1):=xQ _ NT;have Y2:(h2.push (seqObj "list" #[] 0)).get? h2.objs.size=some (seqObj "list" ([]:wW).toArray 0):=HR _ rfl;have fD':∀{H':Hp},H' D=none->cK X pins H' D:=λz=>pY fD z;have Vp:∀{H':Hp},H' h2.objs.size=none->cK X pins H' h2.objs.size:=λz=>pY Vo z;generalize h2.objs.size=kS at ne Vo Y2 Vp |-;unfold ksk_rest;refine IM (B9 ?_);rw[List.forIn_toArray]
 let II:Nat->Shared->Prop:=λj s'=>∃(H':Hp)(c:Nat)(kV:List V)(ks:wW),Inv X (pins++[(D,seqObj "list" #[] e1)]) σ H' s'/\s'.heap.get? kS=some (seqObj "list" ks.toArray c)/\H' kS=none/\aN kV ks/\kV.length=j/\n5 sp (xs.drop j) H' λk2 H2=>kI X xs Q (kV++k2) H2
 have I4:Inv X (pins++[(D,seqObj "list" #[] e1)]) σ H {s with heap:=h2.push (seqObj "list" #[] 0)}:=uS I3 fD eD3 mz;refine IM (qx (ksk_fold (E:=E) (Q:=λ_ s'=>II us.length s') II us 0 {s with heap:=h2.push (seqObj "list" #[] 0)} ⟨H,0,[],[],I4,Y2,Vo.1,.nil,rfl,by simpa using h⟩ (λj u s' hu hI=>?_) λs' hd=>by simpa using hd) (λ_ s' hI=>?_) λ_ _ e=>e)
 ·rw[Et] at hI |-;obtain⟨H',c,kV,ks,J,eS,nS,NR,hl,t⟩:=hI;have hj:j<us.length:=(Im.mp hu).1;obtain⟨x,hx⟩:∃x,xs[j]?=some x:=⟨xs[j]'(by omega),by simp[show j<xs.length by omega]⟩;obtain⟨u',Y3,rx'⟩:=rx.get hx;rw[hu] at Y3
  cases Y3
  rw[aeP hx] at t;have Y4:cK X (pins++[(D,seqObj "list" #[] e1)]) H' kS:=ad6 (Vp nS) (Hw ne);have J2:=uS J Y4 eS mz;refine IM (uL (qx (aeK F hr (hE _) hb J2 rx' t) (λkv s2 hk=>?_) λ_ _ z=>z.elim));obtain⟨v,H2,J3,rv,t2⟩:=hk;obtain⟨Y5,Y6⟩:=zZ J3;have J4:=nG J3;have fS2:cK X (pins++[(D,seqObj "list" #[] e1)]) H2 kS:=pY Y4 Y6
  have ea:ks.toArray.push kv=(ks++[kv]).toArray:=by simp
  obtain⟨c2,KH⟩:∃c2,(s2.heap.update kS (Obj.mapSeq (·.push kv))).get? kS=some (seqObj "list" (ks++[kv]).toArray c2):=⟨_,by rw[<-ea];exact yA Y5 (·.push kv)⟩;have lk:=NR.length;refine IM (Ad Y5 rfl ?_ (by rw[yQ];exact da (by omega)) (GC (Cb (Array.size_push ..)) (by rw[yQ];exact Nat.succ_le_succ (da (by omega)))));refine IV ⟨rfl,H2,c2,kV++[v],ks++[kv],cH J4 fS2 (Ai _ _ _),KH,Y6,NR.append (.cons rv .nil),by simp[hl],?_⟩
  have e:∀k2:List V,kV++[v]++k2=kV++v::k2:=λk2=>by simp
  simp only[e];exact t2
 ·obtain⟨H',c,kV,ks,J,eS,nS,NR,hl,t⟩:=hI;rw[<-l1,List.drop_length] at t
  have w:kI X xs Q kV H':=by
   have z:kI X xs Q (kV++[]) H':=t;rwa[F2] at z
  obtain⟨TU,nD⟩:=zZ J;refine IM (listItems_at eS rfl ?_);exact aeM (by have:=hr.units;omega) hD (fD' nD) (Vp nS) ne (nG J) TU eS rx NR (by omega) h64 w hP
theorem aeZ {l:Addr}(F:Ey X.prog X.w X.K X.mg X.base (bZ X.prog X.w) k f fd ps sp)(hr:Hz (k+2) X.A)(hb:bF X.K fd ps [])
 (I:Inv X pins σ H s)(hl:aW X.K H l xs)(h64:xs.length<64)(h:n5 sp xs H (kI X xs Q)):wpAny (model X.prog X.w) X.A (call (.builtin "sorted") [.ref l] [(Str.ofString "key",.ref f)]) (EP X pins σ Q) E s:=by
 obtain⟨us,rx,pl,_⟩:=I.list hl;have l1:=rx.length;refine call_function_entry_kw kind_sorted plain_sorted entry_sorted (ksk_s1 _ _) ?_;unfold Builtin.«sorted»;refine IM (m:=checkCount "sorted" 1 1 _) (IV (IM (collect_list pl.isList (IM (Bo ?_ (da (by omega)))) (da (by omega)))))
 have sz:((s.heap.push (seqObj "list" #[] 0)).update s.heap.objs.size (Obj.mapSeq (·++us.toArray))).objs.size=s.heap.objs.size+1:=by rw[Heap.size_update];exact size_push' _ _
 have Md:(((s.heap.push (seqObj "list" #[] 0)).update s.heap.objs.size (Obj.mapSeq (·++us.toArray))).push (seqObj "list" us.toArray 0)).get? (s.heap.objs.size+1)=some (seqObj "list" us.toArray 0):=by
  rw[<-sz];exact HR _ rfl
 have old:∀b o,s.heap.get? b=some o->(((s.heap.push (seqObj "list" #[] 0)).update s.heap.objs.size (Obj.mapSeq (·++us.toArray))).push (seqObj "list" us.toArray 0)).get? b=some o:=λb o q=>by
  have lt:b<s.heap.objs.size:=EL q;refine xQ _ ?_;rw[pW _ _ _ _ (Ho lt)];exact xQ _ q
 show wpAny _ _ _ _ _ {s with heap:=((s.heap.push (seqObj "list" #[] 0)).update s.heap.objs.size (Obj.mapSeq (·++us.toArray))).push (seqObj "list" us.toArray 0)};rw[sz];generalize ((s.heap.push (seqObj "list" #[] 0)).update s.heap.objs.size (Obj.mapSeq (·++us.toArray))).push (seqObj "list" us.toArray 0)=h5 at Md old |-;have I5:Inv X pins σ H {s with heap:=h5}:=I.kept (t':=s.toks) old;have fD:cK X pins H (s.heap.objs.size+1):=I.agS (BK _) (I.hok.fresh (BK _));refine IM (CN (wpAny_call_entry_kw slot_list_sort ⟨_,Md,rfl⟩ entry_list_sort ?body (ksk_l1 _ _)))
 case body =>
  show wpAny (model X.prog X.w) X.A.in1.in1 (Builtin.«list.sort» ⟨[.ref (s.heap.objs.size+1)],[(Str.ofString "key",.ref f)]⟩) _ _ _;rw[ksk_t1];exact aeQ (A:=X.A.in1.in1) F hr.in1.in1 (λpins' H' s' J=>J.aiw.in1.in1) hb (GC I.sz (BK _)) fD I5 Md rx h64 h λs' q=>⟨_,rfl,IV ⟨_,rfl,q⟩⟩
end
noncomputable def ae2 (X:Cx)(sp:Sp)(ta:TE):TE:=λσ H Q=>c5 ta Ct σ H λvs H1=>∃l xs,vs=[.ref l]/\aW X.K H1 l xs/\xs.length<64/\n5 sp xs H1 (kI X xs Q)
section
variable {X:Cx}{k:Nat}{f:Addr}{fd:FD}{ps:DV}{sp:Sp}{e:Expr}{ta:TE}{x:Str}{p p2 kpos pos:Pos}
theorem ae7 (F:Ey X.prog X.w X.K X.mg X.base (bZ X.prog X.w) k f fd ps sp)(hr:Hz (k+2) X.A)(hb:bF X.K fd ps [])(hg:Gl X "sorted")(hm:X.mg "sorted"=none)(hgf:Gl X x)(hmf:X.mg x=some (.ref f))(ha:PE X e ta)(hs:fY e=false:=by rfl)(hd:(x==("__debug__":Str))=false:=by decide):
 PE X (.Call (.Name "sorted" p) [e] [⟨some "key",.Name x p2,kpos⟩] pos) (ae2 X sp ta):=by
 intro pins s σ H Q I h;refine yD (eK I hg hm (by rfl) ?_ (by decide) (by decide));refine callWith_builtin_kwB (by rw[bq hs];rfl) rfl (evalArgs_kw2 rfl ?_ (bq hs));refine bO (ao ha ah hs pos pins s σ H _ I h) λus s1 z'=>?_;obtain⟨vs,H1,I1,r1,⟨l,xs,hv,hl,h64,ht⟩⟩:=z';subst hv
 cases r1 with
 |cons ra rb =>
  cases rb
  cases ra
  refine kwAll_cons (fZ I1 hgf hmf (kwAll_nil ?_) hd);exact aeZ F hr hb I1 hl h64 ht
end
end Srt
namespace K08
open PySem L2 PySem.W Nm Srt
variable {n:Nat}{p:Int}
theorem afk {t b:Int}(hp:FP p)(h:B n t)(hb:b≠0)(hn:7<=n):B n (dj p t b):=by
 unfold dj
 by_cases z:p=0
 ·rw[oO z];exact h.le (v5 hb)
 ·rw[DW z];obtain⟨_,p2,Qd⟩:=hp.two z;have h0:=Em t (b:=p) (by omega);have h1:=IT t (b:=p) (by omega)
  have:B 7 (t%p):=by
   show(t%p).natAbs<2^7;omega
  exact this.mono hn
theorem afl {n:Nat}{t b:Int}(h:B n b)(hb:b≠0)(hn:1<=n):B n (dM p t b):=by
 unfold dM
 by_cases z:p=0
 ·rw[oO z];exact h.le (wd hb)
 ·rw[DW z];exact(show B 1 (1:Int) from(by show(1:Int).natAbs<2^1;decide)).mono hn
noncomputable abbrev Tm:=List Int×Int×Int
noncomputable def dS (p:Int)(a b:Int×Int):Int×Int:=(dj p (mh a.1 a.2 b.1 b.2) (a.2*b.2),dM p (mh a.1 a.2 b.1 b.2) (a.2*b.2))
noncomputable def Gn (p:Int)(n:Nat)(a:Int×Int):Prop:=Num p a.1 a.2/\B n a.1/\B n a.2
theorem Gn.ne {a:Int×Int}(h:Gn p n a):a.2≠0:=by have:=h.1.pos;omega
theorem afy {m:Nat}{a b:Int×Int}(hp:FP p)(ha:Gn p n a)(hb:Gn p m b)(h7:7<=n+m+1):Gn p (n+m+1) (dS p a b):=by
 have nz:a.2*b.2≠0:=Bh ha.ne hb.ne;refine⟨Num.set hp.nn nz,afk hp ?_ nz h7,(afl (n:=n+m) (ha.2.2.mul hb.2.2) nz (by omega)).mono (by omega)⟩;have h1:B (n+m) (a.1*b.2):=ha.2.1.mul hb.2.2;have h2:B (n+m) (b.1*a.2):=(hb.2.1.mul ha.2.2).mono (by omega);exact h1.add h2
theorem afz {b:Int×Int}(hp:FP p)(hb:Gn p n b):dS p (0,1) b=b:=by
 obtain⟨h1,h2⟩:=hb.1.self hp.nn;unfold dS mh
 have e1:(0:Int)*b.2+b.1*1=b.1:=by omega
 have e2:(1:Int)*b.2=b.2:=by omega
 rw[e1,e2,h1,h2]
noncomputable def cS (p:Int)(d:List Tm)(t:Tm):List Tm:=if d.any (λe=>decide (e.1=t.1))=true then d.map (λe=>if e.1=t.1 then(e.1,dS p e.2 t.2) else e) else d++[t]
noncomputable def aO (p:Int)(ts:List Tm):List Tm:=ts.foldl (cS p) []
noncomputable def oA (p:Int)(n:Nat)(d:List Tm):Prop:=∀e∈d,Gn p n e.2
variable {d:List Tm}
theorem afA {m:Nat}{t:Tm}(hp:FP p)(hd:oA p n d)(ht:Gn p m t.2)(h7:7<=n+m+1):oA p (n+m+1) (cS p d t):=by
 have up:∀e∈d,Gn p (n+m+1) e.2:=λe he=>⟨(hd e he).1,(hd e he).2.1.mono (by omega),(hd e he).2.2.mono (by omega)⟩;unfold cS
 split
 ·intro e he;obtain⟨e0,h0,rfl⟩:=HF.mp he
  by_cases q:e0.1=t.1
  ·rw[oO q];exact afy hp (hd e0 h0) ht h7
  ·rw[DW q];exact up e0 h0
 ·intro e he
  rcases HB.mp he with he|he
  ·exact up e he
  ·have:e=t:=by simpa using he
   subst this;exact⟨ht.1,ht.2.1.mono (by omega),ht.2.2.mono (by omega)⟩
theorem oF {t:Tm}(hd:(d.map (·.1)).Nodup):((cS p d t).map (·.1)).Nodup:=by
 unfold cS
 split
 ·rw[BA]
  have:((λe:Tm=>e.1) ∘ λe=>if e.1=t.1 then(e.1,dS p e.2 t.2) else e)=λe=>e.1:=by
   funext e
   show(if e.1=t.1 then(e.1,dS p e.2 t.2) else e).1=e.1
   split <;> rfl
  rw[this];exact hd
 ·rename_i q
  rw[zJ];refine xZ.mpr ⟨hd,by simp,λa ha b hb z=>?_⟩
  have:b=t.1:=by simpa using hb
  subst this;subst z;obtain⟨e,he,e1⟩:=HF.mp ha;exact q (HV.mpr ⟨e,he,by simpa using e1⟩)
theorem afB {t:Tm}:(cS p d t).length<=d.length+1:=by
 unfold cS
 split <;> simp
noncomputable def fj (t:Tm):Ky:=(t.1.length,t.1)
noncomputable def eA (d:List Tm):List Tm:=(cV ((d.filter λe=>e.2.1 != 0).map λe=>(fj e,e))).map (·.2)
theorem jA (p:Int)(ts:List Tm)(t:Tm):aO p (ts++[t])=cS p (aO p ts) t:=by
 unfold aO;rw[List.foldl_append];rfl
theorem gO {m:Nat}(hp:FP p):∀(n:Nat)(ts:List Tm),ts.length=n->(∀t∈ts,Gn p m t.2)->oA p ((m+1)*n+7) (aO p ts)/\((aO p ts).map (·.1)).Nodup/\(aO p ts).length<=n
 |0,ts,hn,_=>by
  have:ts=[]:=List.length_eq_zero_iff.mp hn;subst this;refine And.intro (λe he=>?_) (And.intro tD (AY 0));exact absurd (show e∈([]:List Tm) from he) (by simp)
 |n+1,ts,hn,h=>by
  obtain⟨TV,t,rfl⟩:∃TV t,ts=TV++[t]:=by
   have Jt:ts≠[]:=by intro z;rw[z] at hn;cases hn
   exact⟨ts.dropLast,ts.getLast Jt,(List.dropLast_concat_getLast Jt).symm⟩
  have hl:TV.length=n:=by simpa using hn
  obtain⟨g1,g2,g3⟩:=gO hp n TV hl λt ht=>h t (mi _ ht);rw[jA];have gt:=h t (Il _ (by simp));have e2:(m+1)*(n+1)=(m+1)*n+(m+1):=Nat.mul_succ _ _;refine⟨λe he=>?_,oF g2,GC afB (by omega)⟩;have:=afA hp g1 gt (by omega) e he;exact⟨this.1,this.2.1.mono (by omega),this.2.2.mono (by omega)⟩
end K08
namespace Nm
open Lean.Grind in
structure Val (p:Int)(R:Type) [CommRing R](v:Int×Int->R):Prop where
 zero:v (0,1)=0
 one:v (1,1)=1
 set:∀{t b:Int}{a c:Int×Int},Num p a.1 a.2->Num p c.1 c.2->(t=a.1*c.2+c.1*a.2->b=a.2*c.2->v (dj p t b,dM p t b)=v a+v c)/\(t=a.1*c.1->b=a.2*c.2->v (dj p t b,dM p t b)=v a*v c)
 inj:∀{a c:Int×Int},Num p a.1 a.2->Num p c.1 c.2->v a=v c->a=c
theorem jw {t b:Int}(h:b≠0):dj 0 t b*b=t*dM 0 t b:=by
 have e1:=nY (t:=t) h;have e2:=jG (t:=t) h;show dq t b*b=t*cz t b;generalize dq t b=x at *;generalize cz t b=y at *;generalize dv t b=d at *;subst e1;subst e2;grind
theorem afI:Val 0 Rat (λa=>Rat.divInt a.1 a.2) where
 zero:=by decide +kernel
 one:=by decide +kernel
 set:=by
  intro t b a c na nc
  have ha:a.2≠0:=by have:=na.pos;omega
  have hc:c.2≠0:=by have:=nc.pos;omega
  have hb:a.2*c.2≠0:=Bh ha hc;refine⟨λet eb=>?_,λet eb=>?_⟩
  ·subst eb;subst et
   have hs:dM 0 (a.1*c.2+c.1*a.2) (a.2*c.2)≠0:=by have:=(Num.set (p:=0) (t:=a.1*c.2+c.1*a.2) (Hr 0) hb).pos;omega
   show Rat.divInt _ _=Rat.divInt _ _+Rat.divInt _ _;rw[Rat.divInt_add_divInt _ _ ha hc,GX hs hb];exact jw hb
  ·subst eb;subst et
   have hs:dM 0 (a.1*c.1) (a.2*c.2)≠0:=by have:=(Num.set (p:=0) (t:=a.1*c.1) (Hr 0) hb).pos;omega
   show Rat.divInt _ _=Rat.divInt _ _*Rat.divInt _ _;rw[Rat.divInt_mul_divInt,GX hs hb];exact jw hb
 inj:=by
  intro a c na nc e
  have ha:a.2≠0:=by have:=na.pos;omega
  have hc:c.2≠0:=by have:=nc.pos;omega
  have e:=(GX ha hc).mp e;obtain⟨h1,h2⟩:=acy (p:=0) ha nc (Hr 0) (λ_=>e) (λz=>absurd rfl z);obtain⟨g1,g2⟩:=na.self (Hr 0);exact zV (g1.symm.trans h1) (g2.symm.trans h2)
theorem afM {n:Nat} [NeZero n](h2:2<=n):Val (n:Int) (Fin n) (λa=>Fin.ofNat n a.1.toNat) where
 zero:=rfl
 one:=rfl
 set:=by
  intro t b a c na nc
  have hz:(n:Int)≠0:=by omega
  obtain⟨a2,a0,a1⟩:=na.pr hz;obtain⟨c2,c0,c1⟩:=nc.pr hz
  have key:∀x y z:Int,0<=x->0<=y->0<=z->z=x+y->(z%(n:Int)).toNat%n=(x.toNat%n+y.toNat%n)%n:=by
   intro x y z hx hy hz e;obtain⟨x,rfl⟩:∃m:Nat,x=(m:Int):=⟨x.toNat,by omega⟩;obtain⟨y,rfl⟩:∃m:Nat,y=(m:Int):=⟨y.toNat,by omega⟩;subst e;rw[show((x:Int)+(y:Int))%(n:Int)=(((x+y)%n:Nat):Int) from by push_cast;rfl];rw[xf,xf,xf,Nat.mod_mod,Nat.add_mod]
  have Vq:∀x y z:Int,0<=x->0<=y->z=x*y->(z%(n:Int)).toNat%n=(x.toNat%n)*(y.toNat%n)%n:=by
   intro x y z hx hy e;obtain⟨x,rfl⟩:∃m:Nat,x=(m:Int):=⟨x.toNat,by omega⟩;obtain⟨y,rfl⟩:∃m:Nat,y=(m:Int):=⟨y.toNat,by omega⟩;subst e;rw[show((x:Int)*(y:Int))%(n:Int)=(((x*y)%n:Nat):Int) from by push_cast;rfl];rw[xf,xf,xf,Nat.mod_mod,Nat.mul_mod]
  refine⟨λet eb=>?_,λet eb=>?_⟩
  ·apply Fin.ext;show(dj (n:Int) t b).toNat%n=(a.1.toNat%n+c.1.toNat%n)%n;unfold dj;rw[DW hz];exact key a.1 c.1 t a0 c0 (by rw[et,a2,c2];omega) (by rw[et,a2,c2];omega)
  ·apply Fin.ext;show(dj (n:Int) t b).toNat%n=(a.1.toNat%n)*(c.1.toNat%n)%n;unfold dj;rw[DW hz];exact Vq a.1 c.1 t a0 c0 et
 inj:=by
  intro a c na nc e
  have hz:(n:Int)≠0:=by omega
  obtain⟨a2,a0,a1⟩:=na.pr hz;obtain⟨c2,c0,c1⟩:=nc.pr hz;have e:a.1.toNat%n=c.1.toNat%n:=DT Fin.val e;rw[Nat.mod_eq_of_lt (by omega),Nat.mod_eq_of_lt (by omega)] at e;exact zV (by omega) (by omega)
theorem afV {p:Int}(hp:p=0\/2<=p):∃(R:Type)(i:Lean.Grind.CommRing R)(v:Int×Int->R),@Val p R i v:=by
 rcases hp with rfl|hp
 ·exact⟨Rat,_,_,afI⟩
 ·obtain⟨n,rfl⟩:∃n:Nat,p=(n:Int):=⟨p.toNat,by omega⟩;have:NeZero n:=⟨by omega⟩;exact⟨Fin n,_,_,afM (by omega)⟩
end Nm
namespace K08
open PySem L2 PySem.W Nm Srt
variable {d ts:List Tm}
section
variable {p:Int}{R:Type} [Lean.Grind.CommRing R]{v:Int×Int->R}
noncomputable def S (v:Int×Int->R):List Tm->(List Int->R)->R
 |[],_=>0
 |t::ts,F=>v t.2*F t.1+S v ts F
theorem iQ (a b:List Tm)(F:List Int->R):S v (a++b) F=S v a F+S v b F:=by
 induction a with
 |nil=>show S v b F=0+S v b F;grind
 |cons t a ih =>
  show v t.2*F t.1+S v (a++b) F=v t.2*F t.1+S v a F+S v b F;rw[ih];grind
theorem ai3 {a b:List Tm}(h:a.Perm b)(F:List Int->R):S v a F=S v b F:=by
 induction h with
 |nil=>rfl
 |cons x _ ih=>show _+_=_+_;rw[ih]
 |swap x y l =>
  show v y.2*F y.1+(v x.2*F x.1+S v l F)=v x.2*F x.1+(v y.2*F y.1+S v l F);grind
 |trans _ _ i1 i2=>exact i1.trans i2
noncomputable def ba (p:Int)(d:List Tm):Prop:=∀e∈d,Num p e.2.1 e.2.2
theorem ah0 {a b:Int×Int}(hp:0<=p)(ha:Num p a.1 a.2)(hb:Num p b.1 b.2):Num p (dS p a b).1 (dS p a b).2 :=
 Num.set hp (Bh (by have:=ha.pos;omega) (by have:=hb.pos;omega))
theorem ah1 {t:Tm}(hp:0<=p)(hd:ba p d)(ht:Num p t.2.1 t.2.2):ba p (cS p d t):=by
 intro e he;unfold cS at he
 split at he
 ·obtain⟨e0,h0,rfl⟩:=HF.mp he
  by_cases q:e0.1=t.1
  ·rw[oO q];exact ah0 hp (hd e0 h0) ht
  ·rw[DW q];exact hd e0 h0
 ·rcases HB.mp he with he|he
  ·exact hd e he
  ·have:e=t:=by simpa using he
   rw[this];exact ht
theorem Gw (V:Val p R v){x:Int×Int}(hx:Num p x.1 x.2)(k:List Int)(F:List Int->R):∀{d:List Tm},ba p d->(d.map (·.1)).Nodup →
 S v (d.map λe=>if e.1=k then(e.1,dS p e.2 x) else e) F=S v d F+(if d.any (λe=>decide (e.1=k))=true then v x*F k else 0)
 |[],_,_=>by show(0:R)=0+0;grind
 |e::d,hn,hd=>by
  rw[xx] at hd;obtain⟨h1,h2⟩:=xG.mp hd;have OL:ba p d:=λe he=>hn e (AM _ he);have ih:=Gw V hx k F OL h2;rw[xx,Fy]
  by_cases q:e.1=k
  ·have no:d.any (λe=>decide (e.1=k))=false:=by
    rw[List.any_eq_false];intro e' Li z
    have:e'.1=k:=by simpa using z
    exact h1 (HF.mpr ⟨e',Li,by rw[this,q]⟩)
   rw[no,DW (by simp)] at ih;rw[oO q,no,IW q];have ev:v (dS p e.2 x)=v e.2+v x:=(V.set (hn e qG) hx).1 rfl rfl;show v (dS p e.2 x)*F e.1+S v (d.map _) F=v e.2*F e.1+S v d F+v x*F k;rw[ih,ev,q];grind
  ·rw[DW q,HW q,Bool.false_or];show v e.2*F e.1+S v (d.map _) F=v e.2*F e.1+S v d F+_;rw[ih];grind
theorem ahk (V:Val p R v){t:Tm}(hn:ba p d)(ht:Num p t.2.1 t.2.2)(hd:(d.map (·.1)).Nodup)(F:List Int->R):S v (cS p d t) F=S v d F+v t.2*F t.1:=by
 unfold cS
 split
 ·rename_i q
  rw[Gw V ht t.1 F hn hd,oO q]
 ·rw[iQ];show S v d F+(v t.2*F t.1+0)=_;grind
theorem vw (V:Val p R v)(hp:0<=p)(F:List Int->R):∀(ts d:List Tm),ba p ts->ba p d->(d.map (·.1)).Nodup →
 S v (ts.foldl (cS p) d) F=S v d F+S v ts F/\ba p (ts.foldl (cS p) d)/\((ts.foldl (cS p) d).map (·.1)).Nodup
 |[],d,_,hn,hd=>⟨by show S v d F=S v d F+0;grind,hn,hd⟩
 |t::ts,d,ht,hn,hd=>by
  have h1:=ht t qG;obtain⟨i1,i2⟩:=vw V hp F ts (cS p d t) (λe he=>ht e (AM _ he)) (ah1 hp hn h1) (oF hd);refine⟨?_,i2⟩;show S v (ts.foldl (cS p) (cS p d t)) F=S v d F+(v t.2*F t.1+S v ts F);rw[i1,ahk V hn h1 hd];grind
theorem fR (V:Val p R v)(hp:0<=p)(h:ba p ts)(F:List Int->R):S v (aO p ts) F=S v ts F/\ba p (aO p ts)/\((aO p ts).map (·.1)).Nodup:=by
 obtain⟨h1,h2⟩:=vw V hp F ts [] h (λe he=>nomatch he) tD;refine⟨?_,h2⟩;show S v (ts.foldl (cS p) []) F=_;rw[h1];show(0:R)+S v ts F=S v ts F;grind
theorem agY {t b:Int}(h:Num p t b)(z:t=0):b=1:=by
 have:=h.red;have:=h.pos;rw[z,Int.gcd_zero_left] at *;omega
theorem rP (V:Val p R v)(F:List Int->R):∀{d:List Tm},ba p d->S v (d.filter λe=>e.2.1 != 0) F=S v d F
 |[],_=>rfl
 |e::d,h=>by
  have ih:=rP V F (d:=d) λe he=>h e (AM _ he)
  by_cases q:e.2.1=0
  ·rw[List.filter_cons_of_neg (by simp[q]),ih];have e2:e.2=(0,1):=zV q (agY (h e qG) q);show _=v e.2*F e.1+S v d F;rw[e2,V.zero];grind
  ·rw[List.filter_cons_of_pos (by simp[q])];show v e.2*F e.1+S v _ F=v e.2*F e.1+S v d F;rw[ih]
theorem dz (d:List Tm):(eA d).Perm (d.filter λe=>e.2.1 != 0):=by
 unfold eA;have h:=(cA ((d.filter λe=>e.2.1 != 0).map λe=>(fj e,e))).map (·.2);rw[BA] at h;have e:((λx:Ky×Tm=>x.2) ∘ λe=>(fj e,e))=id:=rfl;rw[e,List.map_id] at h;exact h
theorem agZ (V:Val p R v)(h:ba p d)(F:List Int->R):S v (eA d) F=S v d F:=by
 rw[ai3 (dz d),rP V F h]
theorem ag5 (h:ba p d):ba p (eA d):=λe he=>h e (rh.mp ((dz d).mem_iff.mp he)).1
theorem EX (V:Val p R v)(hp:0<=p)(h:ba p ts)(F:List Int->R):S v (eA (aO p ts)) F=S v ts F:=by
 obtain⟨h1,h2,_⟩:=fR V hp h F;rw[agZ V h2,h1]
theorem ag6 (V:Val p R v)(hp:0<=p)(h:ba p ts):ba p (eA (aO p ts)):=ag5 (fR V hp h λ_=>0).2.1
noncomputable def dl (k:List Int):List Int->R:=λi=>if i=k then 1 else 0
theorem Ej {k:List Int}:∀{d:List Tm},k∉d.map (·.1)->S v d (dl k)=0
 |[],_=>rfl
 |e::d,h=>by
  rw[xx,Ef,not_or] at h;show v e.2*(if e.1=k then 1 else 0)+S v d (dl k)=0;rw[DW (λz=>h.1 z.symm),Ej h.2];grind
theorem El:∀{d:List Tm}{e:Tm},(d.map (·.1)).Nodup->e∈d->S v d (dl e.1)=v e.2
 |x::d,e,hd,he=>by
  rw[xx] at hd;obtain⟨h1,h2⟩:=xG.mp hd;show v x.2*(if x.1=e.1 then 1 else 0)+S v d (dl e.1)=v e.2
  rcases Ef.mp he with rfl|he
  ·rw[oO rfl,Ej h1];grind
  ·rw[DW (λz=>h1 (HF.mpr ⟨e,he,z.symm⟩)),El h2 he];grind
theorem qw (V:Val p R v){c:List Tm}(hn:ba p d)(hd:(d.map (·.1)).Nodup)(cn:ba p c)(cd:(c.map (·.1)).Nodup)(h:∀F:List Int->R,S v d F=S v c F){e:Tm}(he:e∈d.filter λe=>e.2.1 != 0):e∈c.filter λe=>e.2.1 != 0:=by
 obtain⟨h1,h2⟩:=rh.mp he;refine rh.mpr ⟨?_,h2⟩;have e1:=El (v:=v) hd h1;rw[h] at e1
 by_cases k:e.1∈c.map (·.1)
 ·obtain⟨e',Li,ek⟩:=HF.mp k;have e2:=El (v:=v) cd Li;rw[ek,e1] at e2;have e3:=V.inj (hn e h1) (cn e' Li) e2;have:e=e':=zV ek.symm e3;rw[this];exact Li
 ·rw[Ej k] at e1;have e3:=V.inj (a:=(0,1)) (c:=e.2) ⟨by decide,by decide,λz=>⟨rfl,by decide,?_⟩⟩ (hn e h1) (V.zero.trans e1)
  ·rw[<-e3] at h2;exact absurd h2 (by decide)
  ·have:=((hn e h1).pr z).2;show(0:Int)<p;omega
theorem qK (h:(d.map (·.1)).Nodup):d.Nodup:=by
 induction d with
 |nil=>exact tD
 |cons e d ih =>
  rw[xx] at h;obtain⟨h1,h2⟩:=xG.mp h;exact xG.mpr ⟨λz=>h1 (HF.mpr ⟨e,z,rfl⟩),ih h2⟩
theorem ag9 (V:Val p R v){c:List Tm}(hn:ba p d)(hd:(d.map (·.1)).Nodup)(cn:ba p c)(cd:(c.map (·.1)).Nodup)(h:∀F:List Int->R,S v d F=S v c F):eA d=eA c:=by
 have nd:=(qK hd).filter (λe:Tm=>e.2.1 != 0);have nc:=(qK cd).filter (λe:Tm=>e.2.1 != 0);have pm:(d.filter λe=>e.2.1 != 0).Perm (c.filter λe=>e.2.1 != 0):=(List.perm_ext_iff_of_nodup nd nc).mpr λe=>⟨qw V hn hd cn cd h,qw V cn cd hn hd λF=>(h F).symm⟩;unfold eA;congr 1;refine adW ?_ (pm.map _);rw[BA];have cf:((c.filter λe=>e.2.1 != 0).map (·.1)).Nodup:=cd.sublist (List.filter_sublist.map _);generalize (c.filter λe=>e.2.1 != 0)=l at cf
 induction l with
 |nil=>exact tD
 |cons e l ih =>
  rw[xx] at cf |-;obtain⟨h1,h2⟩:=xG.mp cf;refine xG.mpr ⟨λz=>?_,ih h2⟩;obtain⟨x,hx,ex⟩:=HF.mp z;have ex:fj x=fj e:=ex;exact h1 (HF.mpr ⟨x,hx,DT Prod.snd ex⟩)
theorem zT (V:Val p R v)(hp:0<=p){us:List Tm}(ht:ba p ts)(hu:ba p us)(h:∀F:List Int->R,S v ts F=S v us F):eA (aO p ts)=eA (aO p us):=by
 obtain⟨_,t1,t2⟩:=fR V hp ht λ_=>0;obtain⟨_,u1,u2⟩:=fR V hp hu λ_=>0
 exact ag9 V t1 t2 u1 u2 λF=>by rw[(fR V hp ht F).1,(fR V hp hu F).1,h]
end
end K08
namespace L2
open PySem PySem.Spec PyProof.Rows PySem.W
theorem gK:∀{ns:List Int}{us:wW},aN (ns.map V.int) us->IntsAre us ns
 |[],us,r=>by cases r;exact .nil
 |n::ns,us,r=>by
  rw[xx] at r
  cases r with
  |cons h t =>
   obtain⟨k,rfl⟩:=(show ∃k,_=Value.int n k from h);exact .cons n k (gK t)
theorem zK:∀{us:wW}{ns:List Int},IntsAre us ns->aN (ns.map V.int) us
 |_,_,.nil=>.nil
 |_,_,.cons n t h=>.cons ⟨t,rfl⟩ (zK h)
section
variable {X:Cx}
theorem acC (hc:X.calm=true):eV X (.builtin "max") (λxs H Q=>∃(l:Addr)(ns:List Int),xs=[.ref l]/\aW X.K H l (ns.map V.int)/\ns≠[]/\∀m,m∈ns->(∀a∈ns,a<=m)->Q (.int m) H):=by
 intro pins s σ H xs us Q I r h;obtain⟨l,ns,rfl,hl,Jt,q⟩:=h;obtain⟨u,rfl,ru⟩:=eY r
 cases(show u=Value.ref l from ru)
 obtain⟨its,rv,pl,hz⟩:=I.list hl;have hi:=gK rv;obtain⟨xs,e⟩:=hi.allInts.items
 have K3:ns=xs.toList.map (·.1):=by rw[<-hi.numsOf,<-nums_intItems,<-e]
 have hsz:0<xs.size:=by
  have h3:0<ns.length:=List.length_pos_iff.mpr Jt;rw[K3,wC,Ht] at h3;exact h3
 have JN:=pl.isList;rw[e] at JN;refine max_intList (I.ok.hd hc) JN hsz λv h' tk hv hk=>?_;obtain⟨t,rfl⟩:=intItems_at hv;obtain⟨h1,h2⟩:=argBest_gt (numAt xs) (xs.size-1);refine⟨.int _,H,I.kept (t':=tk) hk,⟨t,rfl⟩,q _ ?_ λa ha=>?_⟩
 ·rw[K3,numAt_eq];exact getD_mem (by rw[wC,Ht];omega)
 ·rw[K3] at ha;obtain⟨j,hj,rfl⟩:=mem_getD ha;rw[wC,Ht] at hj;rw[<-numAt_eq];exact h2 j (by omega)
end
end L2
namespace St
open PySem
noncomputable abbrev T:=SetTable
noncomputable def Up (xs:Array Nat):Prop:=∀i j,i<j->j<xs.size->xs.getD i 0<xs.getD j 0
noncomputable def Hf (xs:Array Nat)(j r:Nat):Prop:=r<=xs.size/\(∀k,k<r->xs.getD k 0<j)/\∀k,r<=k->k<xs.size->j<=xs.getD k 0
variable {xs:Array Nat}
theorem adE {k d e:Nat}(h:k<xs.size):xs.getD k d=xs.getD k e:=by
 simp[Array.getD,h]
variable {j:Nat}
theorem adG (u:Up xs):∀(f lo hi:Nat),lo<=hi->hi<=xs.size->hi-lo<=f->(∀k,k<lo->xs.getD k 0<j)->(∀k,hi<=k->k<xs.size->j<=xs.getD k 0) →
 Hf xs j (SetTable.below.go xs j f lo hi):=by
 intro f
 induction f with
 |zero =>
  intro lo hi h1 h2 h3 h4 h5
  have e:lo=hi:=by omega
  subst e;exact⟨h2,h4,h5⟩
 |succ f ih =>
  intro lo hi h1 h2 h3 h4 h5;unfold SetTable.below.go
  by_cases h:lo<hi
  ·rw[oO h]
   have hm:(lo+hi)/2<xs.size:=by omega
   have e:xs.getD ((lo+hi)/2) j=xs.getD ((lo+hi)/2) 0:=adE hm;dsimp only;rw[e]
   by_cases g:xs.getD ((lo+hi)/2) 0<j
   ·rw[oO g];refine ih _ _ (by omega) h2 (by omega) (λk hk=>?_) h5
    rcases xg k ((lo+hi)/2) with q|q
    ·exact BX (u _ _ q hm) g
    ·have:k=(lo+hi)/2:=by omega
     rw[this];exact g
   ·rw[DW g];refine ih _ _ (by omega) (by omega) (by omega) h4 (λk hk hk2=>?_)
    rcases xg ((lo+hi)/2) k with q|q
    ·exact GC (Nat.not_lt.mp g) (HE (u _ _ q hk2))
    ·have:k=(lo+hi)/2:=by omega
     rw[this];exact Nat.not_lt.mp g
  ·rw[DW h]
   have e:lo=hi:=by omega
   subst e;exact⟨h2,h4,h5⟩
theorem fQ (u:Up xs)(j:Nat):Hf xs j (SetTable.below xs j):=
 adG u _ _ _ (GH _) (AY _) (by omega) (λk hk=>absurd hk (DG _)) (λk h1 h2=>absurd h1 (by omega))
theorem uF {r q:Nat}(a:Hf xs j r)(b:Hf xs j q):r=q:=by
 rcases Bw r q with h|h|h
 ·have h1:=b.2.1 r h;have h2:=a.2.2 r (AY _) (HG h b.1);omega
 ·exact h
 ·have h1:=a.2.1 q h;have h2:=b.2.2 q (AY _) (HG h a.1);omega
theorem adK (u:Up xs):SetTable.below xs 0=0 :=
 uF (fQ u 0) ⟨GH _,λk hk=>absurd hk (DG _),λ_ _ _=>GH _⟩
variable {i:Nat}
theorem adL (u:Up xs)(h:i<xs.size):SetTable.below xs (xs.getD i 0+1)=i+1:=by
 refine uF (fQ u _) ⟨h,λk hk=>?_,λk h1 h2=>?_⟩
 ·rcases xg k i with q|q
  ·exact pS (u _ _ q h)
  ·have:k=i:=by omega
   rw[this];exact DN _
 ·exact u _ _ (by omega) h2
theorem gE {i:Nat}(h:i<xs.size):xs[i]?=some (xs.getD i 0):=by
 simp[Array.getD,h]
noncomputable def yf (xs:Array Nat)(j:Nat):Prop:=∃k,k<xs.size/\xs.getD k 0=j
theorem n8 {t:T}(u:Up t.place)(h:yf t.place j):∃i,t.slot j=.live i:=by
 obtain⟨k,hk,rfl⟩:=h
 have hb:SetTable.below t.place (t.place.getD k 0)=k:=by
  refine uF (fQ u _) ⟨HE hk,λq hq=>u _ _ hq hk,λq h1 h2=>?_⟩
  rcases xg k q with g|g
  ·exact HE (u _ _ g h2)
  ·have:q=k:=by omega
   rw[this];exact AY _
 refine⟨k,?_⟩;unfold SetTable.slot;dsimp only;rw[hb,gE hk];simp
theorem ji {t:T}(u:Up t.place)(d:t.dummies = #[])(h:¬yf t.place j):t.slot j=.empty:=by
 unfold SetTable.slot;dsimp only
 have e:(t.place[SetTable.below t.place j]?==some j)=false:=by
  rcases xg (SetTable.below t.place j) t.place.size with g|g
  ·rw[gE g];have:t.place.getD (SetTable.below t.place j) 0≠j:=λq=>h ⟨_,g,q⟩;simpa using this
  ·rw[pL g];rfl
 have e2:SetTable.has t.dummies j=false:=by rw[d];simp[SetTable.has]
 rw[e,e2];rfl
theorem fB {α:Type}(xs:Array α)(p:Nat)(x:α)(h:p<=xs.size):(SetTable.insertAt xs p x).size=xs.size+1:=by
 rw[<-Ht,SetTable.toList_insertAt];simp;omega
theorem hJ {p x k:Nat}(h:p<=xs.size):(SetTable.insertAt xs p x).getD k 0=if k<p then xs.getD k 0 else if k=p then x else xs.getD (k-1) 0:=by
 have e:∀(ys:Array Nat)(k:Nat),ys.getD k 0=(ys.toList[k]?).getD 0:=by
  intro ys k;rw[An,AZ]
 rw[e,e,e,SetTable.toList_insertAt]
 have hl:(xs.toList.take p).length=p:=by simp[h]
 by_cases g:k<p
 ·rw[oO g,Fw (by omega),tw g]
 ·rw[DW g,E3 (by omega),hl]
  by_cases g2:k=p
  ·subst g2;simp
  ·rw[DW g2];obtain⟨q,hq⟩:∃q,k=p+(q+1):=⟨k-p-1,by omega⟩;subst hq;rw[show p+(q+1)-p=q+1 from by omega,List.getElem?_cons_succ,List.getElem?_drop,show p+(q+1)-1=p+q from by omega]
theorem adM (u:Up xs)(h:¬yf xs j):Up (SetTable.insertAt xs (SetTable.below xs j) j):=by
 obtain⟨c1,c2,c3⟩:=fQ u j;generalize SetTable.below xs j=p at c1 c2 c3;intro a b MJ hb;rw[fB _ _ _ c1] at hb;rw[hJ c1,hJ c1];have gt:∀k,p<=k->k<xs.size->j<xs.getD k 0:=λk h1 h2=>Nat.lt_of_le_of_ne (c3 k h1 h2) λe=>h ⟨k,h2,e.symm⟩
 by_cases ha:a<p
 ·rw[oO ha]
  by_cases TJ:b<p
  ·rw[oO TJ];exact u _ _ MJ (by omega)
  ·rw[DW TJ]
   by_cases Y7:b=p
   ·rw[oO Y7];exact c2 _ ha
   ·rw[DW Y7];exact BX (c2 _ ha) (gt _ (by omega) (by omega))
 ·rw[DW ha]
  by_cases Y8:a=p
  ·rw[oO Y8,DW (by omega),DW (by omega)];exact gt _ (by omega) (by omega)
  ·rw[DW Y8,DW (by omega),DW (by omega)];exact u _ _ (by omega) (by omega)
noncomputable def it (m:Nat):Nat->Nat->Nat
 |0,x=>x
 |n+1,x=>it m n ((x*5+1)%m)
theorem sX (m a:Nat):∀b x,it m (b+a) x=it m a (it m b x):=by
 intro b
 induction b with
 |zero=>intro x;rw[Et];rfl
 |succ b ih=>intro x;rw[Nat.succ_add];exact ih _
noncomputable def round (m:Nat):Bool:=it m m 0==0&&(List.range m).all λy=>(List.range m).any λn=>it m n 0==y
variable {m:Nat}
theorem adP (h:round m=true){x y:Nat}(hx:x<m)(hy:y<m):∃n,n<m/\it m n x=y:=by
 obtain⟨h1,h2⟩:=CM.mp h
 have h0:it m m 0=0:=by simpa using h1
 have on:∀y,y<m->∃n,n<m/\it m n 0=y:=λy hy=>by
  have h3:=yV.mp h2 y (IX.mpr hy);obtain⟨n,hn,e⟩:=HV.mp h3;exact⟨n,IX.mp hn,by simpa using e⟩
 obtain⟨a,ha,rfl⟩:=on x hx;obtain⟨b,hb,rfl⟩:=on y hy
 rcases xg b a with g|g
 ·refine⟨(m-a)+b,by omega,?_⟩
  have e:it m (m-a) (it m a 0)=0:=by rw[<-sX,show a+(m-a)=m from by omega,h0]
  rw[sX,e]
 ·exact⟨b-a,by omega,by rw[<-sX,show a+(b-a)=b from by omega]⟩
theorem adT:round 8=true:=by decide +kernel
theorem ad0:round 32=true:=by decide +kernel
theorem ad1:round 128=true:=by decide +kernel
noncomputable def lJ (k:Nat):Prop:=k=7\/k=31\/k=127
theorem lJ.round {k:Nat}(h:lJ k):St.round (k+1)=true:=by
 rcases h with rfl|rfl|rfl
 ·exact adT
 ·exact ad0
 ·exact ad1
noncomputable def lp (mask:Nat):Nat->Nat->Nat->Nat×Nat
 |0,i,p=>(i,p)
 |n+1,i,p=>lp mask n (SetTable.leap mask i p).1 (SetTable.leap mask i p).2
theorem ad2 (mask a:Nat):∀b i p,lp mask (b+a) i p=lp mask a (lp mask b i p).1 (lp mask b i p).2:=by
 intro b
 induction b with
 |zero=>intro i p;rw[Et];rfl
 |succ b ih=>intro i p;rw[Nat.succ_add];exact ih _ _
theorem ad3 (mask:Nat):∀n i p,(lp mask n i p).2=p/32^n:=by
 intro n
 induction n with
 |zero=>intro i p;show p=_;rw[Nat.pow_zero,Nat.div_one]
 |succ n ih =>
  intro i p;show(lp mask n _ _).2=_;rw[ih];show p/32/32^n=_;rw[Nat.div_div_eq_div_mul,Nat.pow_succ,Nat.mul_comm]
theorem aeR (mask:Nat):∀n i p,i<mask+1->(lp mask n i p).1<mask+1:=by
 intro n
 induction n with
 |zero=>intro i p h;exact h
 |succ n ih=>intro i p h;exact ih _ _ (xF _ (GK _))
theorem aeT (mask:Nat):∀n i,(lp mask n i 0).1=it (mask+1) n i:=by
 intro n
 induction n with
 |zero=>intro i;rfl
 |succ n ih=>intro i;exact ih _
variable {mask:Nat}
theorem reach (hm:lJ mask){p y:Nat}(hi:i<mask+1)(hp:p<2^64)(hy:y<mask+1):∃n,n<mask+15/\(lp mask n i p).1=y:=by
 have e:(lp mask 13 i p).2=0:=by
  rw[ad3];exact Nat.div_eq_of_lt (BX hp (by decide))
 obtain⟨n,hn,h⟩:=adP hm.round (aeR mask 13 i p hi) hy;refine⟨13+n,by omega,?_⟩;rw[ad2,e,aeT,h]
theorem vA (h:Int):SetTable.bits h<2^64:=by
 unfold SetTable.bits;have h1:0<=h%(2^64:Int):=Em _ (by decide);have h2:h%(2^64:Int)<2^64:=IT _ (by decide);omega
theorem A2 (h:i<mask+1):SetTable.runEnd mask i<mask+1/\i<=SetTable.runEnd mask i/\SetTable.runEnd mask i<=i+9:=by
 unfold SetTable.runEnd
 split <;> omega
variable {owner:Array (Option Nat)}
theorem aeU :∀(n f i p y:Nat),i<mask+1->n<f->(lp mask n i p).1=y->owner.getD y (some 0)=none →
 ∃j,SetTable.layClean.free mask owner f i p=some j/\owner.getD j (some 0)=none:=by
 intro n
 induction n with
 |zero =>
  intro f i p y hi hf hy ho;obtain⟨f,rfl⟩:∃g,f=g+1:=⟨f-1,by omega⟩
  cases(show i=y from hy)
  unfold SetTable.layClean.free
  cases e:(List.range (SetTable.runEnd mask i+1-i)).find? λk=>(owner.getD (i+k) (some 0)).isNone with
  |some k =>
   have:=List.find?_some e;exact⟨i+k,rfl,by simpa using this⟩
  |none =>
   have h0:=List.find?_eq_none.mp e 0 (IX.mpr (by have:=A2 hi;omega));rw[Nat.add_zero,ho] at h0;exact absurd rfl h0
 |succ n ih =>
  intro f i p y hi hf hy ho;obtain⟨f,rfl⟩:∃g,f=g+1:=⟨f-1,by omega⟩;unfold SetTable.layClean.free
  cases e:(List.range (SetTable.runEnd mask i+1-i)).find? λk=>(owner.getD (i+k) (some 0)).isNone with
  |some k =>
   have:=List.find?_some e;exact⟨i+k,rfl,by simpa using this⟩
  |none=>exact ih f _ _ y (xF _ (GK _)) (by omega) hy ho
theorem aeV {t:T}{h:Int}(u:Up t.place)(d:t.dummies = #[]){F:Nat}:∀(k f:Nat)(p:SetTable.Probe),p.more=k->p.dummy=none->k+1+F=f →
 (∀q:SetTable.Probe,q.j=q.i->q.more=SetTable.runEnd t.mask q.i-q.i->q.dummy=none->(q.i,q.perturb)=SetTable.leap t.mask p.i p.perturb->∃j,SetTable.probe.go t (λ_=>h+1) h F q=some (.empty j none)/\¬yf t.place j) →
 ∃j,SetTable.probe.go t (λ_=>h+1) h f p=some (.empty j none)/\¬yf t.place j:=by
 intro k
 induction k with
 |zero =>
  intro f p hk hd hf hn;obtain⟨f,rfl⟩:∃g,f=g+1:=⟨f-1,by omega⟩
  have hF:F=f:=by omega
  subst hF;unfold SetTable.probe.go
  by_cases g:yf t.place p.j
  ·obtain⟨i,e⟩:=n8 u g;rw[e];dsimp only;rw[DW (by simp;omega)];refine hn _ ?_ ?_ ?_ ?_ <;> unfold SetTable.advance <;> rw[DW (by omega)]
   ·exact hd
  ·rw[ji u d g];exact⟨_,by rw[hd],g⟩
 |succ k ih =>
  intro f p hk hd hf hn;obtain⟨f,rfl⟩:∃g,f=g+1:=⟨f-1,by omega⟩;unfold SetTable.probe.go
  by_cases g:yf t.place p.j
  ·obtain⟨i,e⟩:=n8 u g;rw[e];dsimp only;rw[DW (by simp;omega)]
   have ea:t.advance p={p with j:=p.j+1,more:=p.more-1}:=by unfold SetTable.advance;rw[oO (by omega)]
   rw[ea];exact ih f _ (by show p.more-1=k;omega) hd (by omega) hn
  ·rw[ji u d g];exact⟨_,by rw[hd],g⟩
theorem aeY {t:T}{h:Int}(u:Up t.place)(d:t.dummies = #[]):∀(n f:Nat)(p:SetTable.Probe)(y:Nat),p.i<t.mask+1->p.j=p.i->p.more=SetTable.runEnd t.mask p.i-p.i->p.dummy=none →
 10*n<f->(lp t.mask n p.i p.perturb).1=y->¬yf t.place y->∃j,SetTable.probe.go t (λ_=>h+1) h f p=some (.empty j none)/\¬yf t.place j:=by
 intro n
 induction n with
 |zero =>
  intro f p y hi hj hm hd hf hy hn;obtain⟨f,rfl⟩:∃g,f=g+1:=⟨f-1,by omega⟩;have e:p.j=y:=hj.trans hy;unfold SetTable.probe.go;rw[e,ji u d hn];exact⟨_,by rw[hd],hn⟩
 |succ n ih =>
  intro f p y hi hj hm hd hf hy hn;have hr:=A2 hi;refine aeV u d (F:=f-(p.more+1)) p.more f p rfl hd (by omega) λq q1 q2 q3 q4=>?_;have e1:q.i=(SetTable.leap t.mask p.i p.perturb).1:=DT Prod.fst q4;have e2:q.perturb=(SetTable.leap t.mask p.i p.perturb).2:=DT Prod.snd q4;refine ih _ q y (by rw[e1];exact xF _ (GK _)) q1 q2 q3 (by omega) ?_ hn;rw[e1,e2];exact hy
theorem ae0 (u:Up xs):∀m,(∀y,y<m+1->yf xs y)->∃k,k<xs.size/\xs.getD k 0=m/\m<=k:=by
 intro m
 induction m with
 |zero=>intro h;obtain⟨k,hk,e⟩:=h 0 (by omega);exact⟨k,hk,e,GH _⟩
 |succ m ih =>
  intro h;obtain⟨k,hk,e,hl⟩:=ih λy hy=>h y (by omega);obtain⟨q,hq,e2⟩:=h (m+1) (by omega);refine⟨q,hq,e2,?_⟩
  rcases Bw k q with g|g|g
  ·omega
  ·subst g;omega
  ·have:=u _ _ g hk;omega
theorem zy (u:Up xs)(h:xs.size<m+1):∃y,y<m+1/\¬yf xs y:=by
 refine Er λn=>?_;obtain⟨k,hk,_,hl⟩:=ae0 u m λy hy=>Er λg=>n ⟨y,hy,g⟩;omega
theorem ae3 {t:T}(hm:lJ t.mask)(u:Up t.place)(d:t.dummies = #[])(hs:t.place.size<t.mask+1)(h:Int):∃j,t.freeSlot h=some (j,false)/\¬yf t.place j:=by
 obtain⟨y,hy,hn⟩:=zy u hs;have hi:SetTable.bits h%(t.mask+1)<t.mask+1:=xF _ (GK _);obtain⟨n,hl,e⟩:=reach hm hi (vA h) hy;obtain⟨j,e2,hj⟩:=aeY (h:=h) u d n (10*SetTable.turns t.mask) (t.probeStart h) y hi rfl rfl rfl (by unfold SetTable.turns;omega) e hn;refine⟨j,?_,hj⟩;unfold SetTable.freeSlot SetTable.probe;rw[e2];rfl
noncomputable def CO (owner:Array (Option Nat))(m:Nat):List Nat:=(List.range m).filterMap λj=>owner.getD j none
structure Laid (owner:Array (Option Nat))(m k:Nat):Prop where
 size:owner.size=m
 all:(CO owner m).Perm (List.range k)
theorem getD_none (h:owner.getD j (some 0)=none):j<owner.size/\owner.getD j none=none:=by
 rcases xg j owner.size with g|g
 ·refine⟨g,?_⟩;rw[<-h];simp[Array.getD,g]
 ·simp[Array.getD,Nat.not_lt.mpr g] at h
theorem rC {α β:Type}{f:α->Option β}:∀{l:List α},(∀x,x∈l->f x≠none)->(l.filterMap f).length=l.length
 |[],_=>rfl
 |x::l,h=>by
  obtain⟨y,e⟩:=Option.ne_none_iff_exists'.mp (h x qG);rw[List.filterMap_cons_some e,sC,sC,rC λz hz=>h z (AM _ hz)]
theorem Laid.zy {k:Nat}(L:Laid owner m k)(h:k<m):∃y,y<m/\owner.getD y (some 0)=none:=by
 refine Er λn=>?_
 have e:(CO owner m).length=m:=by
  unfold CO;rw[rC,qI];intro y hy e;have MM:=IX.mp hy;refine n ⟨y,MM,?_⟩;rw[<-e];simp[Array.getD,L.size,MM]
 rw[L.all.length_eq,qI] at e;omega
theorem mr {α β:Type}{f g:α->Option β}:∀{l:List α},(∀x,x∈l->f x=g x)->l.filterMap f=l.filterMap g
 |[],_=>rfl
 |x::l,h=>by
  rw[Ff,Ff,h x qG,mr λz hz=>h z (AM _ hz)]
theorem ae6 {k:Nat}(hs:owner.size=m)(hj:j<m)(ho:owner.getD j none=none):(CO (owner.setIfInBounds j (some k)) m).Perm (k::CO owner m):=by
 obtain⟨a,b,e⟩:=List.append_of_mem (IX.mpr hj);have nd:(a++j::b).Nodup:=e▸List.nodup_range
 have na:∀x,x∈a->x≠j:=λx hx q=>by
  rw[xZ] at nd;exact nd.2.2 x hx j qG q
 have nb:∀x,x∈b->x≠j:=λx hx q=>by
  rw[xZ] at nd;exact(xG.mp nd.2.1).1 (q▸hx)
 have ne:∀x,x≠j->(owner.setIfInBounds j (some k)).getD x none=owner.getD x none:=λx hx=>by
  rw[AZ,AZ,A3 (Hw hx)]
 have ej:(owner.setIfInBounds j (some k)).getD j none=some k:=by
  rw[AZ,Array.getElem?_setIfInBounds_self_of_lt (by omega)];rfl
 unfold CO;rw[e,List.filterMap_append,List.filterMap_append,Ff,Ff,ej,ho];dsimp only;rw[mr λx hx=>ne x (na x hx),mr λx hx=>ne x (nb x hx)];exact List.perm_middle
theorem afa (hm:lJ mask):∀(hs:List Int)(owner:Array (Option Nat))(k:Nat),Laid owner (mask+1) k->k+hs.length<mask+1 →
 ∃Lj,hs.foldl (λacc h=>do
  let(owner,k) <-acc
  let j <-SetTable.layClean.free mask owner (SetTable.turns mask) (SetTable.bits h%(mask+1)) (SetTable.bits h)
  pure (owner.setIfInBounds j (some k),k+1)) (some (owner,k))=some (Lj,k+hs.length)/\Laid Lj (mask+1) (k+hs.length):=by
 intro hs
 induction hs with
 |nil=>intro owner k L _;exact⟨owner,rfl,L⟩
 |cons h hs ih =>
  intro owner k L hl;rw[sC] at hl;obtain⟨y,hy,ho⟩:=L.zy (by omega);have hi:SetTable.bits h%(mask+1)<mask+1:=xF _ (GK _);obtain⟨n,hn,e⟩:=reach hm hi (vA h) hy;obtain⟨j,ej,hj⟩:=aeU n (SetTable.turns mask) _ _ y hi (by unfold SetTable.turns;omega) e ho;obtain⟨j1,j2⟩:=getD_none hj
  have L':Laid (owner.setIfInBounds j (some k)) (mask+1) (k+1):=by
   refine⟨by rw[Array.size_setIfInBounds];exact L.size,(ae6 L.size (by rw[<-L.size];exact j1) j2).trans ?_⟩;rw[List.range_succ];exact(List.Perm.cons k L.all).trans (List.perm_append_singleton k _).symm
  obtain⟨o',e',l'⟩:=ih _ _ L' (by omega);refine⟨o',?_,by rw[sC,show k+(hs.length+1)=k+1+hs.length from by omega];exact l'⟩;rw[List.foldl_cons,sC,show k+(hs.length+1)=k+1+hs.length from by omega];show List.foldl _ ((SetTable.layClean.free mask owner (SetTable.turns mask) (SetTable.bits h%(mask+1)) (SetTable.bits h)).bind _) hs=_;rw[ej];exact e'
theorem afd (m:Nat):CO (Array.replicate m none) m=[]:=by
 unfold CO;rw[List.filterMap_eq_nil_iff];intro j hj;have TQ:=IX.mp hj;simp[Array.getD,TQ]
theorem afe (hm:lJ mask)(hs:Array Int)(h:hs.size<mask+1):∃owner,SetTable.layClean mask hs=some owner/\Laid owner (mask+1) hs.size:=by
 obtain⟨o,e,l⟩:=afa hm hs.toList (Array.replicate (mask+1) none) 0 ⟨Array.size_replicate,by rw[afd];exact DF _⟩ (by rw[Ht];omega);rw[Ht,Et] at e l;refine⟨o,?_,l⟩;unfold SetTable.layClean;rw[<-Array.foldl_toList];rw[e];rfl
theorem aff {l:List Nat}(h:l.Pairwise (· < ·)):Up l.toArray:=by
 intro i j Kn hj;rw[yQ] at hj;have:=AB.mp h i j (by omega) hj Kn;rw[show l.toArray.getD i 0=l[i] from by simp[Array.getD,show i<l.length from by omega],show l.toArray.getD j 0=l[j] from by simp[Array.getD,hj]];exact this
theorem afo {t:T}{hs:Array Int}{wanted:Nat}(em:SetTable.sizeAbove wanted-1=mask)(hm:lJ mask)(h:hs.size<mask+1):
 ∃t' order,t.relaid hs wanted=some (t',order)/\t'.mask=mask/\t'.dummies = #[]/\t'.led=t.led/\t'.plain=t.plain/\Up t'.place/\t'.place.size=hs.size/\order.toList.Perm (List.range hs.size):=by
 obtain⟨o,e,l⟩:=afe hm hs h;unfold SetTable.relaid SetTable.laid;rw[em,e];refine⟨_,_,rfl,rfl,rfl,rfl,rfl,?_,?_,?_⟩
 ·dsimp only;rw[FX];refine aff (List.Pairwise.filterMap _ (λa a' haa b hb b' Jn=>?_) (List.pairwise_lt_range (n:=mask+1)))
  cases ea:o.getD a none with
  |none=>rw[ea] at hb;cases hb
  |some x =>
   cases Y9:o.getD a' none with
   |none=>rw[Y9] at Jn;cases Jn
   |some x' =>
    rw[ea] at hb;rw[Y9] at Jn
    cases hb;cases Jn
    exact haa
 ·have e1:=l.all.length_eq;rw[qI] at e1;dsimp only;rw[yQ,wC,<-e1];unfold CO;rw[show(λj=>o.getD j none)=(λj=>((o.getD j none).map (j,·)).map Prod.snd) from funext λj=>by cases o.getD j none <;> rfl,<-FX,wC]
 ·dsimp only;rw[FX]
  have e2:(λx=>Option.map (λx=>x.snd) (Option.map (λx_1=>(x,x_1)) (o.getD x none)))=λj=>o.getD j none:=funext λj=>by cases o.getD j none <;> rfl
  rw[e2];exact l.all
structure Ok (led:Bool)(n:Nat)(t:T):Prop where
 mask:lJ t.mask
 room:n*5<t.mask*3
 size:t.place.size=n
 up:Up t.place
 dum:t.dummies = #[]
 plain:t.plain=true
 led:t.led=led
variable {led:Bool}{n:Nat}
theorem Ok.fits {t:T}(o:Ok led n t):t.fits n=true:=by
 have h1:=o.room;have h2:=o.size;simp only[SetTable.fits,SetTable.fill,G8,Eg,DY,o.dum];refine⟨h2,?_⟩;rw[h2,ng];omega
theorem Ok.fresh (led:Bool):Ok led 0 (.fresh 0 0 led):=
 ⟨.inl rfl,by show 0*5<7*3;decide,rfl,λi j _ h=>absurd h (DG _),rfl,rfl,rfl⟩
theorem afq {t:T}(o:Ok led n t){es:Array (Int×Value)}(he:es.size=n)(h:Int)(x:Value):∃es' t',layNew t es h x=(es',t',false,false)/\es'.size=n+1 /\
 lJ t'.mask/\t'.mask=t.mask/\t'.place.size=n+1/\Up t'.place/\t'.dummies = #[]/\t'.plain=true/\t'.led=led/\t'.fits (n+1)=true:=by
 have hr:=o.room;have hs:=o.size;obtain⟨j,ej,hj⟩:=ae3 o.mask o.up o.dum (by rw[hs];omega) h;have c:=fQ o.up j
 have e1:(SetTable.insertAt t.place (SetTable.below t.place j) j).size=n+1:=by rw[fB _ _ _ c.1,hs]
 have e2:(SetTable.insertAt es (SetTable.below t.place j) (h,x)).size=n+1:=by rw[fB _ _ _ (by have:=c.1;omega),he]
 have e3:SetTable.has t.dummies j=false:=by rw[o.dum];simp[SetTable.has]
 have ep:t.put j=({t with place:=SetTable.insertAt t.place (SetTable.below t.place j) j},SetTable.below t.place j):=by
  unfold SetTable.put;dsimp only;rw[e3];rfl
 have ef:SetTable.fits {t with place:=SetTable.insertAt t.place (SetTable.below t.place j) j} (n+1)=true:=by
  simp only[SetTable.fits,SetTable.fill,G8,Eg,DY,o.dum];refine⟨e1,?_⟩;rw[e1,ng];omega
 refine⟨SetTable.insertAt es (SetTable.below t.place j) (h,x),{t with place:=SetTable.insertAt t.place (SetTable.below t.place j) j},?_,e2,o.mask,rfl,e1,adM o.up hj,o.dum,o.plain,o.led,ef⟩;unfold layNew;rw[ej];dsimp only;rw[ep];dsimp only;unfold SetTable.orStandIn;rw[e2,ef];rfl
theorem afr:SetTable.sizeAbove (SetTable.grown 5)-1=31:=by decide
theorem afs:SetTable.sizeAbove (SetTable.grown 19)-1=127:=by decide
theorem aft {t:T}(hn:n<76)(hm:lJ t.mask)(hr:n*5<t.mask*3)(hs:t.place.size=n+1)(d:t.dummies = #[])(hp:t.plain=true)(hl:t.led=led)
 {es:Array (Int×Value)}(he:es.size=n+1)(hf:t.tooFull=true):∃es' t',relayAll t es (SetTable.grown es.size)=(es',t',false)/\es'.size=n+1/\Ok led (n+1) t':=by
 have full:(n+1)*5 ≥ t.mask*3:=by
  have:=hf;simp only[SetTable.tooFull,SetTable.fill,hs,d,ng,DY] at this;omega
 have two:(t.mask=7/\n+1=5)\/(t.mask=31/\n+1=19):=by
  rcases hm with e|e|e <;> omega
 obtain⟨mask,em,MC,Jb,Qo⟩:∃mask,SetTable.sizeAbove (SetTable.grown es.size)-1=mask/\lJ mask/\n+1<mask+1/\(n+1)*5<mask*3:=by
  rw[he]
  rcases two with⟨_,e⟩|⟨_,e⟩
  ·exact⟨31,by rw[e];exact afr,.inr (.inl rfl),by omega,by omega⟩
  ·exact⟨127,by rw[e];exact afs,.inr (.inr rfl),by omega,by omega⟩
 have e0:(es.map (·.1)).size=n+1:=by rw[Array.size_map];exact he
 obtain⟨t',order,er,m1,m2,m3,m4,m5,m6,m7⟩:=afo (t:=t) (hs:=es.map (·.1)) em MC (by rw[e0];exact Jb);rw[e0] at m6 m7
 have es':(order.filterMap (es[·]?)).size=n+1:=by
  have:=(m7.filterMap (λi=>es[i]?)).length_eq;rw[<-he,filterMap_getElem?_range] at this;rw[<-Ht,Array.toList_filterMap];refine this.trans ?_;rw[Ht,he]
 have O:Ok led (n+1) t':=⟨by rw[m1];exact MC,by rw[m1];exact Qo,m6,m5,m2,m4.trans hp,m3.trans hl⟩;refine⟨order.filterMap (es[·]?),t',?_,es',O⟩;unfold relayAll;rw[er];dsimp only
 have c:coversAll order es.size=true:=by unfold coversAll;rw[he];exact List.isPerm_iff.mpr m7
 rw[es',c,O.fits];rfl
open PyProof.Rows
noncomputable def num:Value->Int
 | .int n _=>n
 |_=>0
noncomputable abbrev Ent:=Int×Value
noncomputable def afu (e:Ent):Prop:=∃n t,e=(hashInt n,.int n t)
structure Fg (es:Array Ent)(ns:List Int):Prop where
 BO:∀e,e∈es.toList->afu e
 perm:(es.toList.map λe=>num e.2).Perm ns
noncomputable abbrev jQ (es:Array Ent)(ep:Nat)(t:T):Obj:={cls:=.type "set",dict:=none,data:=.set es ep t,slots:=#[]}
noncomputable def jM (led:Bool)(h:Heap)(a:Addr)(ns:List Int):Prop:=∃es ep t,h.get? a=some (jQ es ep t)/\Fg es ns/\es.size=ns.length/\Ok led ns.length t
theorem qO:∀{vs:wW},(∀v,v∈vs->∃n t,v=.int n t)->IntsAre vs (vs.map num)
 |[],_=>.nil
 |v::vs,h=>by
  obtain⟨n,t,rfl⟩:=h v qG;exact .cons n t (qO λu hu=>h u (AM _ hu))
variable {es:Array Ent}{ns:List Int}{h:Heap}{a:Addr}{ep:Nat}
section
variable {prog:A9}{w:World}{A:Around}{E:zQ}{s:qm}
theorem Fg.elems (c:Fg es ns):ElemsOf (intKind prog w) es.toList:=by
 intro e he;obtain⟨n,t,rfl⟩:=c.BO e he;exact⟨⟨n,xS _ _ _ _,rfl⟩,rfl⟩
theorem Fg.has (c:Fg es ns)(k:Int):(∃e,e∈es.toList/\(intKind prog w).is k e.2=true)↔k∈ns:=by
 rw[<-c.perm.mem_iff,HF];constructor
 ·rintro⟨e,he,hk⟩;obtain⟨n,t,rfl⟩:=c.BO e he;refine⟨_,he,?_⟩;exact(intKind prog w).inj (.int n t) n k (xS _ _ _ _) hk
 ·rintro⟨e,he,hk⟩;obtain⟨n,t,rfl⟩:=c.BO e he
  cases(show n=k from hk)
  exact⟨_,he,xS _ _ _ _⟩
theorem Fg.push {es':Array Ent}(c:Fg es ns){k:Int}{tk:Tok}(p:es'.toList.Perm (es.toList++[(hashInt k,.int k tk)])):Fg es' (ns++[k]):=by
 refine⟨λe he=>?_,?_⟩
 ·rcases HB.mp (p.mem_iff.mp he) with h|h
  ·exact c.BO e h
  ·rw[B6] at h;exact⟨k,tk,h⟩
 ·refine(p.map _).trans ?_;rw[zJ];exact c.perm.append (DF _)
theorem Fg.aji {es':Array Ent}(c:Fg es ns)(p:es'.toList.Perm es.toList):Fg es' ns :=
 ⟨λe he=>c.BO e (p.mem_iff.mp he),(p.map _).trans c.perm⟩
theorem rj {k:Int}(h:k∈ns):step_dedup ns k=ns:=by
 unfold step_dedup;rw[oO (HV.mpr ⟨k,h,by simp⟩)]
theorem jb {k:Int}(h:k∉ns):step_dedup ns k=ns++[k]:=by
 unfold step_dedup;rw[DW λg=>?_];obtain⟨x,hx,e⟩:=HV.mp g;exact h ((by simpa using e:x=k)▸hx)
theorem u4 {es':Array Ent}{t t':T}(ho:h.get? a=some (jQ es ep t)):(h.update a (Obj.putSet es' t')).get? a=some (jQ es' (ep+1) t'):=
 mX (Obj.putSet es' t') ho rfl
theorem afw {k:Int}{tk:Tok}{Q:Bool->Shared->Prop}(S:jM led s.heap a ns)(hn:ns.length<76)
 (hQ:∀b h',Heap.SameBut a s.heap h'->jM led h' a (step_dedup ns k)->Q b {s with heap:=h'}):wpAny (model prog w) A (setAddHashed a (.int k tk) (hashInt k)) Q E s:=by
 obtain⟨es,ep,t,ho,c,hz,O⟩:=S
 have hf:t.fits es.size=true:=by rw[hz];exact O.fits
 have Za:ElemsOf (intKind prog w) es.toList:=c.elems
 have hb:es.size<scanBound:=by show _<4096;omega
 unfold setAddHashed setAddHashedIn;refine CN (IM (wpAny_setState_of ho rfl hf ?_));dsimp only;rw[byScan_of (knd:=intKind prog w) rfl hb Za,oO rfl];unfold setAddByScan;refine IM (IM (B9 (IM (wpAny_setScan_of (knd:=intKind prog w) (xS _ _ k tk) ho rfl hf Za ?_))))
 cases hr:List.findIdx? (λe=>(intKind prog w).is k e.2) es.toList with
 |some j =>
  obtain⟨hj,hpj,_⟩:=List.findIdx?_eq_some_iff_getElem.mp hr;have hk:k∈ns:=(c.has (prog:=prog) (w:=w) k).mp ⟨_,CU hj,hpj⟩;refine IV (IV ?_);have:=hQ false s.heap (Heap.SameBut.refl a s.heap) (by rw[rj hk];exact⟨es,ep,t,ho,c,hz,O⟩)
  cases s;exact this
 |none =>
  have hk:k∉ns:=λh=>by
   obtain⟨e,he,hp⟩:=(c.has (prog:=prog) (w:=w) k).mpr h;have:=List.findIdx?_eq_none_iff.mp hr e he;rw[hp] at this;cases this
  obtain⟨OW,t1,eL,z1,m1,m2,p1,u1,d1,Vr,l1,f1⟩:=afq O hz (hashInt k) (.int k tk);have hp:=layNew_perm t es (hashInt k) (.int k tk);rw[eL,Array.toList_push] at hp;have c1:Fg OW (ns++[k]):=c.push hp;dsimp only;rw[eL];dsimp only;refine IM (IV ?_);rw[Vr,oO rfl,hashByValue_scannable 8 (x:=.int k tk) rfl];refine IM (IV ?_);rw[oO (show plainKind (.int k tk)=true from rfl)]
  have len:(ns++[k]).length=ns.length+1:=by rw[Af];rfl
  refine IM (wpAny_storeSet_of ho rfl ?_ (fits_of_scanBound (by rw[z1];show _<4096;omega)));have LK:=u4 (es':=OW) (t':=t1) ho;have MO:=Ai s.heap a (Obj.putSet OW t1)
  by_cases Ll:t1.tooFull=true
  ·obtain⟨es2,t2,eR,z2,O2⟩:=aft hn m1 (by rw[m2];exact O.room) p1 d1 Vr l1 z1 Ll;have ON:=relayAll_perm t1 OW (SetTable.grown OW.size);rw[eR] at ON;rw[oO (by rw[Ll];rfl)];rw[eR];dsimp only;refine IM (IV ?_);refine IM (wpAny_storeSet_of LK rfl ?_ (fits_of_scanBound (by rw[z2];show _<4096;omega)));refine IV (IV (hQ true _ (MO.trans (Ai _ a _)) ?_));rw[jb hk];exact⟨es2,_,t2,u4 LK,c1.aji ON,by rw[len];exact z2,by rw[len];exact O2⟩
  ·have Zb:t1.tooFull=false:=by simpa using Ll
   rw[DW (by rw[Zb];decide)];refine IV (IV (hQ true _ MO ?_));rw[jb hk];refine⟨OW,_,t1,LK,c1,by rw[len];exact z1,?_⟩;rw[len];refine⟨m1,?_,p1,u1,d1,Vr,l1⟩;simp only[SetTable.tooFull,SetTable.fill,p1,d1,ng,decide_eq_false_iff_not] at Zb;omega
end
noncomputable abbrev own (w:World):Bool:=!w.params.followText "set-order"
noncomputable abbrev GE:Array GenState->Array GenState->Prop:=λa b=>b=a
structure Src (prog:A9)(w:World)(c:String)(its:IU)(Is:Heap->Addr->Prop)(OX:Addr->Obj):Prop where
 type:∀h l,Is h l->∃o,h.get? l=some o/\o.cls=.type c
 keep:∀h h' l,Is h l->(∀o,h.get? l=some o->h'.get? l=some o)->Is h' l
 iter:∀(A:Around)(s:qm) l (Q:zQ)(E:zQ),Is s.heap l->Q (.ref s.heap.objs.size) {s with heap:=s.heap.push (OX l)}->wpAny (model prog w) A (pyIter (.ref l)) Q E s
 walk:∀(A:Around) I l,A.handled=none->l≠I->∃G,WalksS prog w A I [I,l] [I] GE its.size (λi v=>its[i]?=some v) G/\∀s:Shared,Is s.heap l->s.heap.get? I=some (OX l)->G 0 s
 aiE:∀(h:Heap) l,(h.push (OX l)).get? h.objs.size=some (OX l)
 s1:isSubtype (.type c) (.type "set")=pure false
 s2:isSubtype (.type c) (.type "frozenset")=pure false
 nd:(Value.type c==Value.type "dict")=false
section
variable {prog:A9}{w:World}{A:Around}{R:Result->Shared->Prop}{I:Addr}{fp wr:List Addr}{n:Nat}{P:Nat->Value->Prop}{G:Nat->Shared->Prop}
theorem afx (W:WalksS prog w A.in1 I fp wr GE n P G)(a:Addr)(ha:a∉fp)(val:Nat->Int)(hv:∀i v,P i v->∃t,v=.int (val i) t)(hn:n<76):
 ∀(k i:Nat)(s:qm),n-i=k->i<=n->G i s->jM led s.heap a (firstMet val i) →
  (∀z,Moved (a::wr) GE s z->jM led z.heap a (firstMet val n)->R (.ok (.ret .none)) z) →
  codeAny (model prog w) A (.builtin "set.update.loop" ⟨[.ref a,.ref I],[]⟩) R s:=by
 have aw:a∉wr:=λh=>ha (W.sub _ h);have up:∀b,b∈wr->b∈a::wr:=λb hb=>AM _ hb;have mv:∀{y z:qm}{ns:List Int},Moved wr GE y z->jM led y.heap a ns->jM led z.heap a ns:=λm ⟨es,ep,t,o,r⟩=>⟨es,ep,t,m.heap a _ aw o,r⟩;intro k
 induction k with
 |zero =>
  intro i s hk hi g S hR
  cases(show i=n by omega)
  refine IS ub ?_;rw[wM wD _];refine IM (m:=pyNext (.ref I)) ?_;exact W.done s _ _ g λz m=>IV (hR z (m.mono up) (mv m S))
 |succ k ih =>
  intro i s hk hi g S hR;refine IS ub ?_;rw[wM wD _];refine IM (m:=pyNext (.ref I)) ?_;refine W.item i s _ _ (by omega) g λv z hp g1 m=>?_;obtain⟨t,rfl⟩:=hv i v hp;refine IM (m:=holding [Value.int (val i) t] (setAdd a (.int (val i) t))) (CN ?_);unfold setAdd;refine CN (IM ((intKind prog w).pyHash (k:=val i) (xS _ _ _ _) ?_));refine afw (s:={z with toks:=z.toks+1}) (show jM led z.heap a _ from mv m S) (by have:=firstMet_length_le val i;omega) λb h' sb S1=>?_;rw[<-firstMet_succ] at S1;refine IV ⟨uM wD _,ih (i+1) _ (by omega) (by omega) (W.frame _ z _ _ g1 (BK _) λb hb o e=>?_) S1 λy m1 S2=>?_⟩
  ·rw[sb.2 b λh:b=a=>ha (h▸hb)];exact e
  ·refine hR y (Moved.trans W.gtrans ((m.mono up).then_heap (BK _) λb o hb e=>?_) m1) S2;rw[sb.2 b λh:b=a=>hb (by rw[h];exact qG)];exact e
end
section
variable {prog:A9}{w:World}{A:Around}{E:zQ}{s:qm}
noncomputable abbrev p6 (w:World):Obj:=jQ #[] 0 (.fresh 0 0 (own w))
theorem afC (v:Value){Q:zQ}(h:Q (.ref s.heap.objs.size) {s with heap:=s.heap.push (p6 w)}):
 codeAny (model prog w) A (.call (.builtin "set.__new__") ⟨[.type "set",v],[]⟩) (wants Q E) s:=by
 refine codeAny_of_tree (show wpAny _ A.in1 (checkBuiltinCall "set.__new__" ⟨[.type "set",v],[]⟩>>=λ_=>again (.builtin "set.__new__" ⟨[.type "set",v],[]⟩)) _ _ s from ?_);refine IM (Cv (F.newCall_set_1 v) (IV ⟨uM F.plain_set_new _,IS F.entry_set_new ?_⟩));rw[wM F.plain_set_new _];unfold Builtin.«set.__new__» Builtin.Frozenset.newClass;have su:=sub_set_self
 cases s
 dsimp only
 wp_walk
 refine uo (IV ?_);dsimp only[newObj];exact IM (wpAny_alloc (IV (IV h)))
set_option maxHeartbeats 3200000 in
theorem rX {c:String}{its:IU}{Is:Heap->Addr->Prop}{OX:Addr->Obj}(X:Src prog w c its Is OX){l:Addr}{Q:zQ}
 (hh:A.handled=none)(hl:Is s.heap l)(hi:IntsAre its.toList ns)(hb:its.size<76)
 (h:∀(h':Heap)(tk:Nat),jM (own w) h' s.heap.objs.size (firstMet (λi=>ns.getD i 0) its.size)->(∀b o,b<s.heap.objs.size->s.heap.get? b=some o->h'.get? b=some o) →
  s.toks<=tk->Q (.ref s.heap.objs.size) {s with heap:=h',toks:=tk}):
 wpAny (model prog w) A (call (.type "set") [.ref l]) Q E s:=by
 obtain⟨_,_,mro⟩:=Hv.mro;have made:=Hv.made;have su:=Hv.sub;refine sI (codeAny_of_tree (show wpAny _ _ (callAny (.type "set") _) _ _ _ from IV ⟨Code.quiet_builtin _ (by decide +kernel),IS F.entry_type_call ?_⟩));rw[Around.under_plain (weight_type_call_type "set" [.ref l] []) rfl];have k1:=Hv.notType;have k2:=Hv.canCreate;have k3:=F.typeCall_set_1 (.ref l)
 repeat (any_goals (first|assumption|wp_step))
 refine Gp (afC (.ref l) (E:=E) (Q:=λv z=>v=.ref s.heap.objs.size/\z={s with heap:=s.heap.push (p6 w)}) ⟨rfl,rfl⟩) λr z hr=>?_
 cases r with
 |error e=>exact hr
 |ok fl =>
  cases fl with
  |ret obj =>
   obtain⟨rfl,rfl⟩:=hr;have oS:(s.heap.push (p6 w)).get? s.heap.objs.size=some (p6 w):=HR _ rfl;have tS:Shared.TypeIs {s with heap:=s.heap.push (p6 w)} (.ref s.heap.objs.size) "set":=⟨_,oS,rfl⟩;have k4:=Hv.init.lookup;have k5:=Hv.init.bind (.ref s.heap.objs.size)
   repeat (any_goals (first|assumption|wp_step))
   refine Gp (xo (R:=wants (λv z=>v=.none/\∃h' tk,z={s with heap:=h',toks:=tk}/\jM (own w) h' s.heap.objs.size (firstMet (λi=>ns.getD i 0) its.size) /\
    (∀b o,b<s.heap.objs.size->s.heap.get? b=some o->h'.get? b=some o)/\s.toks<=tk) E) Hv.init.plain F.entry_set_init (check_set_init_1 tS ?_)) λr z hr=>?_
   ·have lS:Is (s.heap.push (p6 w)) l:=X.keep _ _ _ hl λo e=>xQ _ e;obtain⟨⟨oc,od,YH,Jq⟩,Qj,MH⟩:=X.type _ _ lS;dsimp only at MH;subst MH
    have Jb:l<s.heap.objs.size:=by
     obtain⟨o,e,_⟩:=X.type _ _ hl;exact EL e
    have tl:Shared.TypeIs {s with heap:=s.heap.push (p6 w)} (.ref l) c:=⟨_,Qj,rfl⟩;have k6:=X.s1;have k7:=X.s2;have k8:=X.nd;unfold Builtin.«set.__init__» noKeywords Builtin.Frozenset.updateFrom;generalize ePI:pyIter=PI
    wp_walk
    subst ePI;refine X.iter _ _ _ _ _ lS ?_;refine IM (wpAny_runValue ?_)
    have h3:A.in1.in1.in1.handled=none:=by simp[hh]
    have nI:l≠(s.heap.push (p6 w)).objs.size:=by rw[F4];exact Ho (pS Jb)
    have nf:s.heap.objs.size ∉ [(s.heap.push (p6 w)).objs.size,l]:=by
     rw[F4];simp only[Ef,Fd,wA,not_or];exact⟨Ho (DN _),EB Jb⟩
    obtain⟨G,W,g0⟩:=X.walk A.in1.in1.in1 _ l h3 nI
    refine afx W s.heap.objs.size nf (λi=>ns.getD i 0) (λi v e=>IntsAre.int_at hi i v (by rw[An];exact e)) hb (its.size-0) 0 _ rfl (GH _)
     (g0 _ (X.keep _ _ _ lS λo e=>xQ _ e) (X.aiE _ _)) ⟨#[],0,_,xQ _ oS,⟨λe he=>by simp at he,DF _⟩,rfl,Ok.fresh _⟩ ?_
    intro z m S
    have NU:∀b o,b<s.heap.objs.size->s.heap.get? b=some o->z.heap.get? b=some o:=λb o hb e=>by
     refine m.heap b o ?_ (xQ _ (xQ _ e));rw[F4];simp only[Ef,Fd,wA,not_or];exact⟨Ho hb,Ho (pS hb)⟩
    have ez:z={s with heap:=z.heap,toks:=z.toks}:=by
     have e1:z.gens=s.gens:=m.gens;have e2:z.drawn=s.drawn:=m.drawn;have e3:z.os=s.os:=m.os
     cases z;cases e1;cases e2;cases e3;rfl
    refine IV (show wpAny _ _ (ret Value.none) _ _ _ from IV ⟨rfl,z.heap,z.toks,ez,S,NU,m.toks⟩)
   ·cases r with
    |error e=>exact hr
    |ok fl =>
     cases fl with
     |ret v =>
      obtain⟨rfl,h',tk,rfl,S,NU,Pq⟩:=hr
      repeat (any_goals (first|assumption|wp_step))
      exact h h' tk S NU Pq
     |_=>exact hr.elim
  |_=>exact hr.elim
end
theorem afD (prog:A9)(w:World)(its:IU):Src prog w "list" its (λh l=>h.IsList l its) (λl=>{cls:=.type "list_iterator",data:=.fields #[.ref l,.int 0 0]}) where
 type:=λh l ⟨o,e,c,_⟩=>⟨o,e,c⟩
 keep:=λh h' l ⟨o,e,r⟩ k=>⟨o,k o e,r⟩
 iter:=λA s l Q E hl h=>CD hl h
 walk:=λA I l hh Jt=>⟨_,(Walks.list hh I l Jt its).toS,λs hl e=>⟨⟨_,e,rfl,rfl⟩,hl⟩⟩
 aiE:=λh l=>HR _ rfl
 s1:=F.sub_list_set
 s2:=F.sub_list_frozenset
 nd:=by decide
theorem afE (prog:A9)(w:World)(its:IU):Src prog w "tuple" its (λh l=>h.IsTuple l its) (λl=>{cls:=.type "tuple_iterator",data:=.fields #[.ref l,.int 0 0]}) where
 type:=λh l ⟨o,e,c,_⟩=>⟨o,e,c⟩
 keep:=λh h' l ⟨o,e,r⟩ k=>⟨o,k o e,r⟩
 iter:=λA s l Q E hl h=>DD hl h
 walk:=λA I l hh Jt=>⟨_,(Walks.tuple hh I l Jt its).toS,λs hl e=>⟨⟨_,e,rfl,rfl⟩,hl⟩⟩
 aiE:=λh l=>HR _ rfl
 s1:=by rw[D6];kernel_rfl
 s2:=by rw[D6];kernel_rfl
 nd:=by decide
theorem afF {α:Type}{l:List α}(h:i<l.length):(l[i]::l.eraseIdx i).Perm l:=by
 rw[List.eraseIdx_eq_take_drop_succ];refine(List.perm_middle).symm.trans ?_;rw[<-List.drop_eq_getElem_cons h,List.take_append_drop]
theorem afG {α:Type}(f:Nat->Nat):∀(n k:Nat)(l:List α)(out:Array α),n=l.length->(pickOrder.go f n k l out).toList.Perm (out.toList++l):=by
 intro n
 induction n with
 |zero =>
  intro k l out h
  cases l with
  |nil=>unfold pickOrder.go;rw[F2]
  |cons x l=>cases h
 |succ n ih =>
  intro k l out h;unfold pickOrder.go;have hl:f k%l.length<l.length:=xF _ (by omega);rw[EC hl];dsimp only;refine(ih (k+1) _ _ (by rw[List.length_eraseIdx_of_lt hl];omega)).trans ?_;rw[Array.toList_push,uD];exact List.Perm.append_left _ (afF hl)
theorem afJ {α:Type}(f:Nat->Nat)(xs:Array α):(pickOrder f xs).toList.Perm xs.toList:=by
 have:=afG f xs.size 0 xs.toList #[] (by rw[Ht]);exact this
noncomputable def yg (w:World)(a:Addr)(ep:Nat)(es:Array Ent):Array Ent:=if w.params.followText "set-order" then pickOrder (w.params.setOrder a ep) es else es
theorem ml (w:World)(a:Addr)(ep:Nat)(es:Array Ent):(yg w a ep es).toList.Perm es.toList:=by
 unfold yg
 split
 ·exact afJ _ _
 ·exact DF _
noncomputable def hU (w:World)(t:T)(i:Nat):Nat:=if w.params.followText "set-order" then 0 else if i=0 then 0 else t.place.getD (i-1) 0+1
noncomputable abbrev yb (w:World)(t:T)(a:Addr)(n ep i:Nat):Obj:={cls:=.type "set_iterator",data:=.fields #[rawInt (hU w t i),rawInt i,.ref a,rawInt n,rawInt ep]}
theorem gR:Slot "set_iterator" "__next__" "set_iterator.__next__" :=
 .of (owner:="set_iterator") (n:="__next__") (by rw[typeLookup_type,builtinLookup_eq_fast];kernel_rfl) (by decide +kernel) (by decide +kernel) (by decide +kernel) (by first|exact .inl (by decide +kernel)|exact .inr (by decide +kernel)) (by rw[D6];kernel_rfl)
theorem vp:entryFor table "set_iterator.__next__"=some Builtin.«set_iterator.__next__»:=entryFor_of_tree (by kernel_rfl)
theorem uR (a:Value):argsOk "set_iterator.__next__" ⟨[a],[]⟩:=by unfold argsOk;kernel_rfl
theorem wj:Slot "set_iterator" "__iter__" "set_iterator.__iter__" :=
 .of (owner:="set_iterator") (n:="__iter__") (by rw[typeLookup_type,builtinLookup_eq_fast];kernel_rfl) (by decide +kernel) (by decide +kernel) (by decide +kernel) (by first|exact .inl (by decide +kernel)|exact .inr (by decide +kernel)) (by rw[D6];kernel_rfl)
theorem afK:entryFor table "set_iterator.__iter__"=some Builtin.«dict_keyiterator.__iter__» :=
 entryFor_alias (id':="dict_keyiterator.__iter__") (by kernel_rfl) rfl (by decide +kernel) (by kernel_rfl)
theorem afN (a:Value):argsOk "set_iterator.__iter__" ⟨[a],[]⟩:=by unfold argsOk;kernel_rfl
theorem afO:entryFor table "set.__iter__"=some Builtin.«frozenset.__iter__» :=
 entryFor_alias (id':="frozenset.__iter__") (by kernel_rfl) rfl (by decide +kernel) (by kernel_rfl)
variable {I:Addr}
section
variable {prog:A9}{w:World}{A:Around}{E:zQ}{s:qm}
theorem lQ {t:T}{Q:(Array Ent×Nat×T)->Shared->Prop}(ho:s.heap.get? a=some (jQ es ep t))(O:Ok led n t)(hz:es.size=n)(h:Q (es,ep,t) s):
 wpAny (model prog w) A (setState a) Q E s:=wpAny_setState_of ho rfl (by rw[hz];exact O.fits) h
theorem uk {Q:Bool->Shared->Prop}(h:Q (w.params.followText "set-order") s):wpAny (model prog w) A setsByText Q E s:=by
 unfold setsByText;exact IM (uo (IV h))
theorem vR {t:T}{Q:Option (Value×Nat)->Shared->Prop}(ho:s.heap.get? a=some (jQ es ep t))(O:Ok (own w) n t)(hz:es.size=n)(hi:i<=n)
 (h:Q (((yg w a ep es)[i]?).map λe=>(e.2,hU w t (i+1))) s):wpAny (model prog w) A (setNext a (hU w t i) i ep) Q E s:=by
 unfold setNext;refine IM (lQ ho O hz ?_);dsimp only;refine IM (uk ?_)
 by_cases ht:w.params.followText "set-order"=true
 ·rw[oO ht,DW (by simp)];unfold setWalk;refine IM (IM (lQ ho O hz ?_));dsimp only;refine IM (uk ?_);rw[oO ht];refine IM (uo (IV (IV ?_)));simp only[yg,hU,ht,xm] at h |-;exact h
 ·rw[DW ht]
  have hd:(!t.plain&&decide (es.size>1))=false:=by rw[O.plain];rfl
  show wpAny _ _ (if(!t.plain&&decide (es.size>1))=true then _ else _) _ _ _;rw[hd,DW (by decide)]
  have Vs:t.led=true:=by rw[O.led];simp[own,ht]
  refine IM ?_;show wpAny _ _ (if(!t.led&&!es.isEmpty)=true then _ else _) _ _ _;rw[Vs,DW (by simp)];refine IV ?_
  have eb:SetTable.below t.place (hU w t i)=i:=by
   unfold hU;rw[DW ht]
   by_cases h0:i=0
   ·rw[oO h0,h0];exact adK O.up
   ·rw[DW h0,adL O.up (by rw[O.size];omega)];omega
  refine IV ?_;rw[eb]
  have eo:yg w a ep es=es:=by unfold yg;rw[DW ht]
  rw[eo] at h
  rcases xg i n with g|g
  ·have e1:es[i]?=some (es[i]'(by omega)):=by simp[show i<es.size from by omega]
   have e2:t.place[i]?=some (t.place.getD i 0):=gE (by rw[O.size];exact g);rw[e1] at h;rw[e1,e2]
   have e3:hU w t (i+1)=t.place.getD i 0+1:=by unfold hU;rw[DW ht,DW (by omega)];rfl
   rw[e3] at h;exact h
  ·have e1:es[i]?=none:=pL (by omega);rw[e1] at h |-;exact h
theorem afP {t:T}{x:Ent}{Q:Option Value->Shared->Prop}(ho:s.heap.get? a=some (jQ es ep t))(hI:s.heap.get? I=some (yb w t a n ep i))(O:Ok (own w) n t)(hz:es.size=n)
 (hi:i<n)(hx:(yg w a ep es)[i]?=some x)(hQ:∀h',h'.get? I=some (yb w t a n ep (i+1))->Heap.SameBut I s.heap h'->Q (some x.2) {s with heap:=h'}):
 wpAny (model prog w) A (pyNext (.ref I)) Q E s:=by
 have tI:s.TypeIs (.ref I) "set_iterator":=⟨_,hI,rfl⟩;unfold pyNext;refine IM (uL (xO (name:=Str.ofString "__next__") tI gR (BU gR tI vp ?_ (uR _))));unfold Builtin.«set_iterator.__next__»;refine IM (m:=slotArgs "__next__" 0 _) (IV ?_);refine IM (yR hI rfl ?_);dsimp only[rawInt];refine IM (GL ho rfl (by rw[hz];exact O.fits) ?_);rw[DW (by rw[hz];simp)];simp only[xf];refine IM (vR ho O hz (HE hi) ?_);rw[hx];dsimp only[Option.map];refine IM (zY hI (by simp) λh1 o1 b1=>?_);refine IM (zY (s:={s with heap:=h1}) o1 (by simp) λh2 o2 b2=>?_);refine IV ⟨_,rfl,IV (hQ h2 ?_ (b1.trans b2))⟩;rw[o2];rfl
theorem afQ {t:T}{Q:Option Value->Shared->Prop}(hh:A.handled=none)(ho:s.heap.get? a=some (jQ es ep t))(hI:s.heap.get? I=some (yb w t a n ep n))(O:Ok (own w) n t)(hz:es.size=n)
 (hQ:∀h',Heap.ExtBut I s.heap h'->Q none {s with heap:=h'}):wpAny (model prog w) A (pyNext (.ref I)) Q E s:=by
 have tI:s.TypeIs (.ref I) "set_iterator":=⟨_,hI,rfl⟩;have hx:(yg w a ep es)[n]?=none:=pL (by rw[<-Ht,(ml w a ep es).length_eq,Ht,hz];exact AY _);unfold pyNext;refine IM (uL (xO (name:=Str.ofString "__next__") tI gR (BU gR tI vp ?_ (uR _))));unfold Builtin.«set_iterator.__next__»;refine IM (m:=slotArgs "__next__" 0 _) (IV ?_);refine IM (yR hI rfl ?_);dsimp only[rawInt];refine IM (GL ho rfl (by rw[hz];exact O.fits) ?_);rw[DW (by rw[hz];simp)];simp only[xf];refine IM (vR ho O hz (AY _) ?_);rw[hx];dsimp only[Option.map];refine IM (Aq hI rfl (by simp) ?_);refine IM (m:=newExc (.type "StopIteration") []) ?_;unfold newExc newTuple;refine IM (IP ?_ (by size_fits));refine IM (m:=firstArgMember _ _) (Cv (a:=Value.none) rfl ?_);refine IP ?_ (by size_fits);unfold raiseNew;refine IM (xY ?_);rw[show A.in1.handled=none from hh];refine IM (IV (wpAny_throw ?_));refine IM (NI (b:=true) (T:="StopIteration") ⟨_,HR _ rfl,rfl⟩ zB ?_);refine IV (hQ _ ?_);exact((Ai ..).extBut.push _).push _
theorem Ds {es:Array Ent}{ep:Nat}{t:T}(hh:A.handled=none)(Jt:a≠I)(O:Ok (own w) n t)(hz:es.size=n):
 WalksS prog w A I [I,a] [I] GE n (λi v=>((yg w a ep es)[i]?).map Prod.snd=some v) (λi s=>s.heap.get? a=some (jQ es ep t)/\s.heap.get? I=some (yb w t a n ep i)) where
 sub:=λb hb=>by simp at hb;simp[hb]
 grefl:=λ_=>rfl
 gtrans:=λ_ _ _ h1 h2=>h2.trans h1
 frame:=λi s h' tk g _ k=>⟨k a (by simp) _ g.1,k I (by simp) _ g.2⟩
 item:=λi s Q E hi g hQ=>by
  have hl:i<(yg w a ep es).size:=by rw[<-Ht,(ml w a ep es).length_eq,Ht,hz];exact hi
  have hx:(yg w a ep es)[i]?=some ((yg w a ep es)[i]):=by simp[hl]
  refine afP g.1 g.2 O hz hi hx λh' o b=>hQ _ _ (by rw[hx];rfl) ⟨b.extBut a _ Jt g.1,o⟩ ⟨λc o hc e=>b.extBut c o (λh=>hc (by simp[h])) e,rfl,rfl,rfl,AY _⟩
 done:=λs Q E g hQ=>afQ hh g.1 g.2 O hz λh' k=>hQ _ ⟨λc o hc e=>k c o (λh=>hc (by simp[h])) e,rfl,rfl,rfl,AY _⟩
 self:=λi s Q E g hQ=>by
  have tI:s.TypeIs (.ref I) "set_iterator":=⟨_,g.2,rfl⟩;refine rO tI wj (BU wj tI afK ?_ (afN _));exact IV ⟨_,rfl,"set_iterator",_,tI,gR.lookup,hQ⟩
theorem afR {t:T}{Q:zQ}(ho:s.heap.get? a=some (jQ es ep t))(O:Ok (own w) n t)(hz:es.size=n)
 (h:Q (.ref s.heap.objs.size) {s with heap:=s.heap.push (yb w t a n ep 0)}):wpAny (model prog w) A (pyIter (.ref a)) Q E s:=by
 have ta:s.TypeIs (.ref a) "set":=⟨_,ho,rfl⟩
 have hf:t.fits es.size=true:=by rw[hz];exact O.fits
 refine rO ta F.slot_set_iter (BU F.slot_set_iter ta afO ?_ (F.args_set_iter_1 _));unfold Builtin.«frozenset.__iter__» Builtin.Frozenset.slot0;refine IM (m:=slotArgs "__iter__" 0 _>>=_) (IM (IV (IV ?_)));unfold Builtin.Frozenset.sizeOf;refine IM (IM (GL ho rfl hf (IV ?_)))
 have es0:hU w t 0=0:=by unfold hU;split <;> rfl
 unfold setDrawn;refine IM (IM (lQ ho O hz ?_));dsimp only;refine IM (uk (IV ?_))
 have hd:(!w.params.followText "set-order"&&(!t.plain&&decide (es.size>1)))=false:=by rw[O.plain];simp
 refine(show wpAny _ _ (if(!w.params.followText "set-order"&&(!t.plain&&decide (es.size>1)))=true then _ else _) _ _ _ from ?_);rw[hd,DW (by decide)];refine IM (IV (IM (wpAny_setEpoch_of ho rfl hf ?_)));refine IM (IP (IV ⟨_,rfl,"set_iterator",_,⟨_,HR _ rfl,rfl⟩,gR.lookup,?_⟩));rw[hz];unfold yb at h;rw[es0] at h;exact h
end
noncomputable abbrev iP (xs:IU)(c:Nat):Obj:={cls:=.type "list",dict:=none,data:=.seq xs c,slots:=#[]}
section
variable {prog:A9}{w:World}{A:Around}{E:zQ}{s:qm}
theorem afT:typeLookup (.type "set") "__len__"=pure (some (.builtin "set.__len__")):=F.slot_set_len.lookup
theorem qP {α:Type}{c:Bool}{x y:Sem α}{Q:α->Shared->Prop}(h:c=true)(g:wpAny (model prog w) A x Q E s):wpAny (model prog w) A (if c=true then x else y) Q E s:=by
 rw[oO h];exact g
theorem aiu {Q:Bool->Shared->Prop}(ta:s.TypeIs (.ref a) "set")(h:Q false s):wpAny (model prog w) A (Builtin.List.listLengthHint (.ref a)) Q E s:=by
 unfold Builtin.List.listLengthHint;refine IM (wpAny_specialOf ta afT ?_);dsimp only;rw[show splitId "set.__len__"=some ("set","__len__") from by decide +kernel];dsimp only;refine IM (NI ta sub_set_self ?_);rw[DW (by decide)];exact qP (by decide +kernel) (IM (xV ta (IV h)))
theorem aiz {P:Array Ent}(c:Fg es ns)(p:P.toList.Perm es.toList){acc:IU}(hz:es.size=n)(h:ItemsOf (λi v=>(P[i]?).map Prod.snd=some v) acc n):
 ∃ms,IntsAre acc.toList ms/\ms.Perm ns:=by
 have hP:P.toList.length=n:=by rw[p.length_eq,Ht,hz]
 have e:acc.toList=P.toList.map Prod.snd:=by
  refine List.ext_getElem? λi=>?_;rw[BC,An,An]
  rcases xg i n with g|g
  ·have ha:acc[i]?=some (acc[i]'(by rw[h.1];exact g)):=by simp[h.1,g]
   rw[ha,h.2 i _ ha]
  ·rw[pL (by rw[h.1];exact g),pL (by rw[<-Ht,hP];exact g)];rfl
 have c':Fg P ns:=c.aji p;refine⟨_,qO (vs:=acc.toList) λv hv=>?_,?_⟩
 ·rw[e] at hv;obtain⟨x,hx,rfl⟩:=HF.mp hv;obtain⟨k,t,rfl⟩:=c'.BO x hx;exact⟨k,t,rfl⟩
 ·rw[e,BA];exact c'.perm
set_option maxHeartbeats 3000000 in
theorem ag2 {Q:List Value->Shared->Prop}(hh:A.handled=none)(S:jM (own w) s.heap a ns)(hn:ns.length<4000)
 (hQ:∀(h':Heap)(tk:Nat)(vs:wW)(ms:List Int),IntsAre vs ms->ms.Perm ns->(∀b o,s.heap.get? b=some o->h'.get? b=some o)->s.toks<=tk->Q vs {s with heap:=h',toks:=tk}):
 wpAny (model prog w) A (collect (.ref a)) Q E s:=by
 obtain⟨es,ep,t,ho,c,hz,O⟩:=S;have Jb:a<s.heap.objs.size:=EL ho;unfold collect;refine IM (wpAny_runValue (IS PySem.F.entry_proto_collect ?_));rw[wM PySem.F.plain_proto_collect _];refine IM (m:=newList []) (IP ?_);refine IV ⟨uM PySem.F.plain_list_iadd _,IS PySem.F.entry_list_iadd ?_⟩;rw[wM PySem.F.plain_list_iadd _];refine(show wpAny _ A.in1 (Builtin.List.listExtendWith (.ref s.heap.objs.size) (.ref a) (.ref s.heap.objs.size)) _ _ _ from ?_);unfold Builtin.List.listExtendWith;have LK:(s.heap.push (iP #[] 0)).get? a=some (jQ es ep t):=xQ _ ho;refine IM (xV (T:="set") ⟨_,LK,rfl⟩ ?_)
 rw[DW (by
  have:Builtin.List.listSameRef (.ref s.heap.objs.size) (.ref a)=false:=by
   simp only[Builtin.List.listSameRef,CP];exact EB Jb
  rw[this];decide)]
 refine IM (afR (s:={s with heap:=s.heap.push (iP #[] 0)}) LK O hz ?_);have KU:((s.heap.push (iP #[] 0)).push (yb w t a ns.length ep 0)).get? a=some (jQ es ep t):=xQ _ LK;refine IM (CN (aiu ⟨_,KU,rfl⟩ ?_));have hI0:((s.heap.push (iP #[] 0)).push (yb w t a ns.length ep 0)).get? (s.heap.push (iP #[] 0)).objs.size=some (yb w t a ns.length ep 0):=HR _ rfl;have Zc:((s.heap.push (iP #[] 0)).push (yb w t a ns.length ep 0)).get? s.heap.objs.size=some (iP #[] 0):=xQ _ (HR _ rfl);have BZ:(s.heap.push (iP #[] 0)).objs.size=s.heap.objs.size+1:=F4 _ _;refine qP (by decide +kernel) (IM (B9 (IM ?_)));refine(show wpAny _ A.in1 (updateSeq s.heap.objs.size (·.push .none)>>=λ_=>updateSeq s.heap.objs.size (·.pop)) _ _ _ from IM (xt Zc rfl ?_));have TL:=mX (Obj.mapSeq (·.push Value.none)) Zc rfl;refine xt TL rfl ?_;have OT:=mX (Obj.mapSeq (·.pop)) TL rfl
 have up:∀b o,b≠s.heap.objs.size->((s.heap.push (iP #[] 0)).push (yb w t a ns.length ep 0)).get? b=some o →
  ((((s.heap.push (iP #[] 0)).push (yb w t a ns.length ep 0)).update s.heap.objs.size (Obj.mapSeq (·.push Value.none))).update s.heap.objs.size (Obj.mapSeq (·.pop))).get? b=some o :=
  λb o hb e=>(wR _ _ (Hw hb)).trans ((wR _ _ (Hw hb)).trans e)
 have nI:a≠(s.heap.push (iP #[] 0)).objs.size:=by rw[BZ];exact Ho (pS Jb)
 have nL:(s.heap.push (iP #[] 0)).objs.size≠s.heap.objs.size:=by rw[BZ];exact Cu _
 have W:=Ds (prog:=prog) (A:=A.in1) (ep:=ep) (es:=es) (by simp[hh]) nI O hz
 refine IV ⟨uM PySem.F.plain_extend_loop _,codeAny_extend_loopS W (by rw[HQ];omega) s.heap.objs.size (by
  simp only[Ef,Fd,wA,not_or];exact⟨nL.symm,EB Jb⟩) _ ns.length 0 _ _ _ rfl (GH _) ⟨up _ _ (Ho Jb) KU,up _ _ nL hI0⟩ OT (ItemsOf.nil _) λz acc c' m oz it=>?_⟩
 refine IM (wpAny_load oz (IV ?_));obtain⟨ms,i1,i2⟩:=aiz c (ml w a ep es) hz it
 have ez:z={s with heap:=z.heap,toks:=z.toks}:=by
  have e1:z.gens=s.gens:=m.gens;have e2:z.drawn=s.drawn:=m.drawn;have e3:z.os=s.os:=m.os
  cases z;cases e1;cases e2;cases e3;rfl
 rw[ez];refine hQ z.heap z.toks acc.toList ms i1 i2 (λb o e=>?_) m.toks;have hb:=EL e;refine m.heap b o ?_ (up b o (Ho hb) (xQ _ (xQ _ e)));simp only[Ef,Fd,wA,not_or];refine⟨Ho hb,?_⟩;rw[BZ];exact Ho (pS hb)
theorem ahP {D:Addr}{vs:wW}{c:Nat}(out:IU)(e:h.get? D=some (seqObj "list" vs.toArray c)):∃c',(sortedHeap h D vs out).get? D=some (iP out c'):=by
 have hD:=EL e;have e1:=yA e (λ_=>#[]);unfold sortedHeap;have e2:(((h.update D (Obj.mapSeq λ_=>#[])).push (seqObj "tuple" vs.toArray 0)).push (seqObj "list" #[] 0)).get? D=_:=xQ _ (xQ _ e1);exact⟨_,yA e2 λ_=>out⟩
theorem agP {D b:Addr}{vs:wW}{out:IU}{o:Obj}(hb:b≠D)(e:h.get? b=some o):(sortedHeap h D vs out).get? b=some o:=by
 unfold sortedHeap;refine(wR _ _ (Hw hb)).trans (xQ _ (xQ _ ((wR _ _ (Hw hb)).trans e)))
theorem aiD {Q:zQ}(hh:A.handled=none)(S:jM (own w) s.heap a ns)(h64:ns.length<64)
 (h:∀(h':Heap)(tk:Nat)(D:Addr)(out:IU)(ms:List Int)(c:Nat),IntsAre out.toList ms->ms.Perm ns->ms.Pairwise (· <= ·)->h'.get? D=some (iP out c)->s.heap.get? D=none →
  (∀b o,s.heap.get? b=some o->h'.get? b=some o)->s.toks<=tk->Q (.ref D) {s with heap:=h',toks:=tk}):wpAny (model prog w) A (call (.builtin "sorted") [.ref a]) Q E s:=by
 refine Calls.call_function_entry kind_sorted plain_sorted entry_sorted (args_sorted1 _) ?_;unfold Builtin.«sorted»;refine IM (m:=checkCount "sorted" 1 1 _) (IV ?_);refine IM (ag2 (by simpa using hh) S (by omega) λh1 tk vs ms i1 i2 k1 t1=>?_)
 have hv:vs.length<64:=by
  have:=i1.length;rw[this,i2.length_eq];exact h64
 refine IM (m:=newList vs) (Bo ?_ (hsz:=by rw[HQ];omega));have oD:(h1.push (seqObj "list" vs.toArray 0)).get? h1.objs.size=some (seqObj "list" vs.toArray 0):=HR _ rfl
 have fr:s.heap.get? h1.objs.size=none:=by
  cases e:s.heap.get? h1.objs.size with
  |none=>rfl
  |some o=>exact absurd (EL (k1 _ _ e)) (qo _)
 refine IM (CN (BU slot_list_sort ⟨_,oD,rfl⟩ entry_list_sort (list_sort_tree oD i1 hv λout Mz a1 a2 a3=>⟨_,rfl,?_⟩) (args_list_sort _)));obtain⟨c,oc⟩:=ahP out oD;refine IV ⟨_,rfl,h _ tk _ out Mz c a1 (a2.trans i2) a3 oc fr (λb o e=>?_) t1⟩;exact agP (λq=>by rw[q,fr] at e;cases e) (xQ _ (k1 b o e))
end
end St
namespace L2
open PySem PySem.Spec PyProof.Rows PySem.W
noncomputable def wQ (ns:List Int):List Int:=firstMet (λi=>ns.getD i 0) ns.length
theorem n9 (ns:List Int):wQ ns=ns.foldl step_dedup []:=by
 have e:(List.range ns.length).map (λi=>ns.getD i 0)=ns:=by
  apply rV
  ·simp
  ·intro i h1 h2;simp[h2]
 unfold wQ firstMet;rw[e]
theorem gP:∀(ns acc:List Int),acc.Nodup->(ns.foldl step_dedup acc).Nodup/\∀x,x∈ns.foldl step_dedup acc↔x∈acc\/x∈ns
 |[],acc,h=>⟨h,λx=>by simp⟩
 |n::ns,acc,h=>by
  rw[List.foldl_cons]
  by_cases q:n∈acc
  ·rw[St.rj q];obtain⟨a,b⟩:=gP ns acc h;refine⟨a,λx=>(b x).trans ⟨λz=>z.imp id (AM _),λz=>?_⟩⟩
   rcases z with z|z
   ·exact .inl z
   ·rcases Ef.mp z with rfl|z
    ·exact .inl q
    ·exact .inr z
  ·rw[St.jb q]
   have nd:(acc++[n]).Nodup:=by
    refine xZ.mpr ⟨h,by simp,λa ha b hb z=>?_⟩;rw[B6] at hb;exact q (hb▸z▸ha)
   obtain⟨a,b⟩:=gP ns (acc++[n]) nd;refine⟨a,λx=>(b x).trans ?_⟩;rw[HB,B6,Ef,or_assoc]
theorem adQ (ns:List Int):(wQ ns).Nodup:=by rw[n9];exact(gP ns [] tD).1
theorem aeW (ns:List Int)(x:Int):x∈wQ ns↔x∈ns:=by
 rw[n9,(gP ns [] tD).2];simp
theorem vD (ns:List Int):(wQ ns).length<=ns.length:=firstMet_length_le _ _
theorem aeX {ms:List Int}(h:ms.Pairwise (· <= ·))(d:ms.Nodup):ms.Pairwise (· < ·):=
 (List.Pairwise.and h d).imp λ⟨a,b⟩=>Int.lt_iff_le_and_ne.mpr ⟨a,b⟩
theorem oP:∀{xs ys:List Int},xs.Pairwise (· < ·)->ys.Pairwise (· < ·)->(∀x,x∈xs↔x∈ys)->xs=ys
 |[],[],_,_,_=>rfl
 |[],y::ys,_,_,h=>absurd ((h y).mpr qG) (by simp)
 |x::xs,[],_,_,h=>absurd ((h x).mp qG) (by simp)
 |x::xs,y::ys,a,b,h=>by
  obtain⟨a1,a2⟩:=BJ.mp a;obtain⟨b1,b2⟩:=BJ.mp b
  have e:x=y:=by
   rcases Ef.mp ((h x).mp qG) with e|e
   ·exact e
   ·rcases Ef.mp ((h y).mpr qG) with e2|e2
    ·exact e2.symm
    ·have:=b1 _ e;have:=a1 _ e2;omega
  subst e;rw[oP a2 b2 λz=>⟨λhz=>?_,λhz=>?_⟩]
  ·rcases Ef.mp ((h z).mp (AM _ hz)) with e|e
   ·have:=a1 _ hz;omega
   ·exact e
  ·rcases Ef.mp ((h z).mpr (AM _ hz)) with e|e
   ·have:=b1 _ hz;omega
   ·exact e
noncomputable def ae4 (K:Frag)(ta:TE):TE:=λσ H Q=>c5 ta Ct σ H λvs H1=>∃(l:Addr)(ns:List Int),vs=[.ref l]/\(aW K H1 l (ns.map V.int)\/a7 K H1 l (ns.map V.int))/\ns.length<64 /\
 ∀(D:Addr)(ms:List Int),H1 D=none->ms.Pairwise (· < ·)->(∀x,x∈ms↔x∈ns)->Q (.ref D) (upd H1 D (.lst (ms.map V.int)))
section
variable {X:Cx}
theorem ka {e:Expr}{ta:TE}{p p2 pos NV:Pos}{K:Frag}(hK:X.K=K)(ha:PE X e ta)(hc:X.calm=true)(hgl:Gl X "sorted")(hml:X.mg "sorted"=none)(hgs:Gl X "set")(hms:X.mg "set"=none)(hs:fY e=false:=by rfl):
 PE X (.Call (.Name "sorted" p) [.Call (.Name "set" p2) [e] [] NV] [] pos) (ae4 K ta):=by
 subst hK;intro pins s σ H Q I h;refine yD (eK I hgl hml (by rfl) ?_ (by decide) (by decide));refine callWith_builtin1 ?_ (bq rfl) rfl;rw[bq rfl];show wpAny _ _ (spliced ((false,eval (.Call (.Name "set" p2) [e] [] NV) X.env):: backTo pos (starEach [] X.env))) _ _ s;refine Aw ?_;refine yD (eK I hgs hms (by rfl) ?_ (by decide) (by decide));refine callWith_type1 (bO (ao ha ah hs NV pins s σ H _ I h) λus s1 z'=>?_) (bq hs) rfl;obtain⟨vs,H1,I1,r1,l,ns,hv,hq,hz,q⟩:=z';subst hv;obtain⟨u,rfl,ru⟩:=eY r1
 cases(show u=Value.ref l from ru)
 have hd:=I.ok.hd hc
 have fin:∀(h':Heap)(tk:Nat),St.jM (St.own X.w) h' s1.heap.objs.size (wQ ns)->(∀b o,b<s1.heap.objs.size->s1.heap.get? b=some o->h'.get? b=some o) →
  wpAny (model X.prog X.w) X.A (call (.builtin "sorted") [.ref s1.heap.objs.size]) (EP X pins σ Q) X.xe {s1 with heap:=h',toks:=tk}:=by
  intro h' tk S old;have I2:Inv X pins σ H1 {s1 with heap:=h',toks:=tk}:=I1.kept (t':=tk) λb o e=>old b o (EL e) e;refine St.aiD (s:={s1 with heap:=h',toks:=tk}) hd S (by have:=vD ns;omega) λh2 tk2 D out ms c i1 i2 i3 oD fr k2 _=>?_
  have hlen:(ms.map V.int).length<=sizeLine:=by
   rw[wC,i2.length_eq,HQ];have:=vD ns;omega
  exact⟨.ref D,_,I2.newObj (t':=tk2) (o:=.lst (ms.map V.int)) k2 fr ⟨hlen,out.toList,c,zK i1,by simpa using oD⟩,rfl,
   q D ms (I2.aiA fr) (aeX i3 (i2.symm.nodup (adQ ns))) λx=>(i2.mem_iff).trans (aeW ns x)⟩
 rcases hq with hq|hq
 ·obtain⟨its,rv,pl,Vt⟩:=I1.list hq;have e1:=rv.length;rw[wC] at e1;refine St.rX (St.afD X.prog X.w its.toArray) hd pl.isList (by simpa using gK rv) (by rw[yQ];omega) λh' tk S old _=>?_
  have es:its.toArray.size=ns.length:=by rw[yQ];exact e1.symm
  rw[es] at S;exact Cs (fin h' tk S old)
 ·obtain⟨its,rv,pl,Vt⟩:=I1.tuple hq;have e1:=rv.length;rw[wC] at e1;refine St.rX (St.afE X.prog X.w its.toArray) hd pl (by simpa using gK rv) (by rw[yQ];omega) λh' tk S old _=>?_
  have es:its.toArray.size=ns.length:=by rw[yQ];exact e1.symm
  rw[es] at S;exact Cs (fin h' tk S old)
end
end L2
namespace K08
open PySem L2 PySem.W Nm Srt
noncomputable def oX (x:Int):List Int->List Int
 |[]=>[x]
 |y::l=>if x<y then x::y::l else if x=y then y::l else y::oX x l
noncomputable def gm:List Int->List Int
 |[]=>[]
 |x::l=>oX x (gm l)
theorem ky {x z:Int}:∀{l:List Int},z∈oX x l↔z=x\/z∈l
 |[]=>by simp[oX]
 |y::l=>by
  unfold oX
  by_cases h:x<y
  ·rw[oO h];simp
  ·rw[DW h]
   by_cases g:x=y
   ·rw[oO g,g];simp
   ·rw[DW g,Ef,ky (l:=l),Ef];constructor
    ·rintro(h|h|h)
     ·exact .inr (.inl h)
     ·exact .inl h
     ·exact .inr (.inr h)
    ·rintro(h|h|h)
     ·exact .inr (.inl h)
     ·exact .inl h
     ·exact .inr (.inr h)
theorem v9 {x:Int}:∀{l:List Int},l.Pairwise (· < ·)->(oX x l).Pairwise (· < ·)
 |[],_=>by simp[oX]
 |y::l,h=>by
  obtain⟨h1,h2⟩:=BJ.mp h;unfold oX
  by_cases g:x<y
  ·rw[oO g];refine BJ.mpr ⟨λz hz=>?_,h⟩
   rcases Ef.mp hz with rfl|hz
   ·exact g
   ·have:=h1 z hz;omega
  ·rw[DW g]
   by_cases e:x=y
   ·rw[oO e];exact h
   ·rw[DW e];refine BJ.mpr ⟨λz hz=>?_,v9 h2⟩
    rcases ky.mp hz with rfl|hz
    ·omega
    ·exact h1 z hz
theorem i9:∀l:List Int,(gm l).Pairwise (· < ·)
 |[]=>List.Pairwise.nil
 |x::l=>v9 (i9 l)
theorem gM {z:Int}:∀{l:List Int},z∈gm l↔z∈l
 |[]=>Iff.rfl
 |x::l=>by
  show z∈oX x (gm l)↔_;rw[ky,gM,Ef]
theorem ae5 {l m:List Int}(h:∀z,z∈l↔z∈m):gm l=gm m:=oP (i9 l) (i9 m) λz=>by rw[gM,gM,h]
theorem jc {l m:List Int}(h:m.Pairwise (· < ·))(e:∀z,z∈m↔z∈l):m=gm l:=oP h (i9 l) λz=>by rw[gM,e]
noncomputable def cO (p:Int)(a b:Int×Int):Int×Int:=(dj p (ir a.1 a.2 b.1 b.2) (a.2*b.2),dM p (ir a.1 a.2 b.1 b.2) (a.2*b.2))
noncomputable def di (p:Int)(a b:List Tm):List Tm:=a.flatMap λx=>b.map λy=>(gm (x.1++y.1),cO p x.2 y.2)
noncomputable def gX (p:Int)(c:Int×Int)(a:List Tm):List Tm:=a.map λx=>(x.1,cO p x.2 c)
noncomputable abbrev tg (p:Int)(ts:List Tm):List Tm:=eA (aO p ts)
variable {a b:Int×Int}
section
variable {p:Int}{R:Type} [Lean.Grind.CommRing R]{v:Int×Int->R}
theorem rG (hp:0<=p)(ha:Num p a.1 a.2)(hb:Num p b.1 b.2):Num p (cO p a b).1 (cO p a b).2 :=
 Num.set hp (Bh (by have:=ha.pos;omega) (by have:=hb.pos;omega))
theorem qr (V:Val p R v)(ha:Num p a.1 a.2)(hb:Num p b.1 b.2):v (cO p a b)=v a*v b:=(V.set ha hb).2 rfl rfl
theorem rf (hp:0<=p){a b:List Tm}(ha:ba p a)(hb:ba p b):ba p (di p a b):=λe he=>by
 obtain⟨x,hx,he⟩:=xA.mp he;obtain⟨y,hy,rfl⟩:=HF.mp he;exact rG hp (ha x hx) (hb y hy)
theorem qk (hp:0<=p){a:List Tm}{c:Int×Int}(ha:ba p a)(hc:Num p c.1 c.2):ba p (gX p c a):=λe he=>by
 obtain⟨x,hx,rfl⟩:=HF.mp he;exact rG hp (ha x hx) hc
theorem Dc (V:Val p R v){x:Tm}(hx:Num p x.2.1 x.2.2)(F:List Int->R):∀{b:List Tm},ba p b->S v (b.map λy=>(gm (x.1++y.1),cO p x.2 y.2)) F=v x.2*S v b (λj=>F (gm (x.1++j)))
 |[],_=>by show(0:R)=v x.2*0;grind
 |y::b,h=>by
  have ih:=Dc V hx F (b:=b) λe he=>h e (AM _ he);show v (cO p x.2 y.2)*F (gm (x.1++y.1))+S v (b.map _) F=v x.2*(v y.2*F (gm (x.1++y.1))+S v b (λj=>F (gm (x.1++j))));rw[ih,qr V hx (h y qG)];grind
theorem afb (V:Val p R v){a b:List Tm}(ha:ba p a)(hb:ba p b)(F:List Int->R):S v (di p a b) F=S v a (λi=>S v b (λj=>F (gm (i++j)))):=by
 induction a with
 |nil=>rfl
 |cons x a ih =>
  have ih:=ih λe he=>ha e (AM _ he)
  have e:di p (x::a) b=(b.map λy=>(gm (x.1++y.1),cO p x.2 y.2))++di p a b:=by simp[di]
  rw[e,iQ,Dc V (ha x qG) F hb,ih];rfl
theorem afc (V:Val p R v){a:List Tm}{c:Int×Int}(ha:ba p a)(hc:Num p c.1 c.2)(F:List Int->R):S v (gX p c a) F=v c*S v a F:=by
 induction a with
 |nil=>show(0:R)=v c*0;grind
 |cons x a ih =>
  have ih:=ih λe he=>ha e (AM _ he);show v (cO p x.2 c)*F x.1+S v (gX p c a) F=v c*(v x.2*F x.1+S v a F);rw[ih,qr V (ha x qG) hc];grind
end
section
variable {p:Int}{a b c:List Tm}
theorem FP.v {p:Int}(hp:FP p):∃(R:Type)(i:Lean.Grind.CommRing R)(v:Int×Int->R),@Val p R i v:=afV (by
 rcases hp with h|h
 ·exact .inl h
 ·exact .inr (dC h).1)
theorem FP.tn {p:Int}(hp:FP p){a:List Tm}(ha:ba p a):ba p (tg p a):=by
 obtain⟨R,i,v,V⟩:=hp.v;exact ag6 V hp.nn ha
end
noncomputable abbrev gk (ks:List Int):List Key:=ks.map Sum.inl
theorem fA (ks:List Int):(gk ks).map kV=ks.map V.int:=by unfold gk;rw[BA];rfl
theorem iI {a b:List Int}(h:gk a=gk b):a=b:=by
 have e:(gk a).map kV=(gk b).map kV:=by rw[h]
 rw[fA,fA] at e
 have inj:∀{x y:List Int},x.map V.int=y.map V.int->x=y:=by
  intro x
  induction x with
  |nil=>intro y h;cases y with
   |nil=>rfl
   |cons c y=>simp at h
  |cons b x ih=>intro y h;cases y with
   |nil=>simp at h
   |cons c y =>
    rw[xx,xx] at h
    injection h with h1 h2
    injection h1 with h1
    rw[h1,ih h2]
 exact inj e
noncomputable def FF (H:Hp)(y:V)(t:Tm):Prop:=∃a pr nu,y=.ref a/\H a=some (.tup [.ref pr,.ref nu])/\H pr=some (.tup (t.1.map V.int))/\H nu=some (bK t.2.1 t.2.2)
noncomputable abbrev aF (H:Hp):List V->List Tm->Prop:=Paired (FF H)
noncomputable abbrev DR (H:Hp):List (List Key×V)->List Tm->Prop:=Paired λkv e=>kv.1=gk e.1/\∃a,kv.2=.ref a/\H a=some (bK e.2.1 e.2.2)
noncomputable def az (H H':Hp):Prop:=∀b xs,H b=some (.tup xs)->H' b=some (.tup xs)
variable {H H':Hp}
theorem az.of (s:ay H H'):az H H':=λb xs e=>s b _ e
theorem az.trans {H1 H2:Hp}(a:az H H1)(b:az H1 H2):az H H2:=λc xs e=>b c xs (a c xs e)
theorem az.upd {d:Addr}{o:HO}(h:∀xs,H d≠some (.tup xs)):az H (upd H d o):=λb xs e=>by
 have:b≠d:=λz=>h xs (z▸e);rw[au this];exact e
variable {y:V}
theorem FF.keep {t:Tm}(h:FF H y t)(k:az H H'):FF H' y t:=let⟨a,pr,nu,e,h1,h2,h3⟩:=h;⟨a,pr,nu,e,k _ _ h1,k _ _ h2,k _ _ h3⟩
variable {ts:List Tm}
theorem aF.keep {ys:List V}(h:aF H ys ts)(k:az H H'):aF H' ys ts:=Paired.ahM h λ_ _ z=>z.keep k
variable {IY:List (List Key×V)}{d:List Tm}
theorem DR.keep (h:DR H IY d)(k:az H H'):DR H' IY d:=Paired.ahM h λ_ _ z=>⟨z.1,let⟨a,e,h⟩:=z.2;⟨a,e,k _ _ h⟩⟩
theorem vZ (k:List Int):∀{IY:List (List Key×V)}{d:List Tm},DR H IY d->d.any (λe=>decide (e.1=k))=false->dN IY (gk k)=none
 |_,_,.nil,_=>rfl
 |_,_,.cons (a:=kv) (b:=e) h t,q=>by
  rw[Fy,Bool.or_eq_false_iff] at q
  have ne:¬kv.1=gk k:=λz=>by
   have:e.1=k:=iI (h.1.symm.trans z);simp[this] at q
  rw[cg ne];exact vZ k t q.2
theorem kH (k:List Int):∀{IY:List (List Key×V)}{d:List Tm},DR H IY d->d.any (λe=>decide (e.1=k))=true->∃e∈d,e.1=k/\∃a,dN IY (gk k)=some (.ref a)/\H a=some (bK e.2.1 e.2.2)
 |_,_,.nil,q=>by simp at q
 |_,_,.cons (a:=kv) (b:=e) h t,q=>by
  by_cases z:e.1=k
  ·obtain⟨a,e1,ha⟩:=h.2;refine⟨e,qG,z,a,?_,ha⟩;rw[ck (by rw[h.1,z]),e1]
  ·have ne:¬kv.1=gk k:=λw=>z (iI (h.1.symm.trans w));rw[Fy,HW z,Bool.false_or] at q;obtain⟨e',m,z',a,h1,h2⟩:=kH k t q;exact⟨e',AM _ m,z',a,by rw[cg ne];exact h1,h2⟩
theorem afh (k:List Int)(h:DR H IY d):(IY.any λkv=>decide (kv.1=gk k))=d.any λe=>decide (e.1=k):=by
 rw[gF]
 cases q:d.any λe=>decide (e.1=k) with
 |false=>rw[vZ k h q];rfl
 |true =>
  obtain⟨_,_,_,a,e,_⟩:=kH k h q;rw[e];rfl
variable {p:Int}
theorem yN {t:Tm}{a:Addr}(h:DR H IY d)(nd:(d.map (·.1)).Nodup)
 (LY:d.any (λe=>decide (e.1=t.1))=false->H a=some (bK t.2.1 t.2.2))(Kx:∀e∈d,e.1=t.1->H a=some (bK (dS p e.2 t.2).1 (dS p e.2 t.2).2)):DR H (eF IY (gk t.1) (.ref a)) (cS p d t):=by
 unfold eF cS;rw[afh t.1 h]
 by_cases q:d.any (λe=>decide (e.1=t.1))=true
 ·rw[oO q,oO q]
  have go:∀{IY:List (List Key×V)}{d:List Tm},DR H IY d->(∀e∈d,e.1=t.1->H a=some (bK (dS p e.2 t.2).1 (dS p e.2 t.2).2)) →
   DR H (IY.map λkv=>if kv.1=gk t.1 then(kv.1,V.ref a) else kv) (d.map λe=>if e.1=t.1 then(e.1,dS p e.2 t.2) else e):=by
   intro IY d h
   induction h with
   |nil=>intro _;exact .nil
   |@cons kv e ks es h0 ht ih =>
    intro hy;rw[xx,xx];refine .cons ?_ (ih λe' m=>hy e' (AM _ m))
    by_cases z:e.1=t.1
    ·rw[oO z,oO (by rw[h0.1,z])];exact⟨h0.1,a,rfl,hy e qG z⟩
    ·rw[DW z,DW (λw=>z (iI (h0.1.symm.trans w)))];exact h0
  exact go h Kx
 ·have q':d.any (λe=>decide (e.1=t.1))=false:=Bool.eq_false_iff.mpr q;rw[DW q,DW q];exact xC h ⟨rfl,a,rfl,LY q'⟩
noncomputable abbrev zU:Stmt:=(aZ 26)
structure EK (p:Int)(ts:List Tm):Prop where
 len:ts.length<4000
 num:∀t∈ts,Gn p 4000 t.2
 steps:∀i,i<=ts.length->oA p 4000 (aO p (ts.take i))
 few:(aO p ts).length<64
noncomputable def p5 (C:Addr):Sp:=λvs H Q _=>∃(s dx l:Addr)(p:Int)(ys:List V)(ts:List Tm),vs=[.ref s,.ref l]/\H s=some (.ins C dx (eT p))/\FP p/\H l=some (.lst ys)/\aF H ys ts/\EK p ts /\
 ∀H' D zs,ay H H'->H D=none->H' D=some (.lst zs)->aF H' zs (eA (aO p ts))->Q (.ref D) H'
theorem none_of {a:Addr}(s:ay H H')(h:H' a=none):H a=none:=by
 cases e:H a with
 |none=>rfl
 |some o=>rw[s _ _ e] at h;cases h
theorem jq:Ii ["field","terms","totals","product","number","kept"] mY (ar zU):=fu (by decide +kernel)
theorem oC {α β:Type}{R:α->β->Prop}{k:Ky}{x:α}{y:β}(h:R x y):∀{l:List (Ky×α)}{m:List (Ky×β)},Paired (λa b=>a.1=b.1/\R a.2 b.2) l m->Paired (λa b=>a.1=b.1/\R a.2 b.2) (nh k x l) (nh k y m)
 |_,_,.nil=>.cons ⟨rfl,h⟩ .nil
 |_,_,.cons (a:=(j,u)) (b:=(j',v)) (l₁:=r) (l₂:=r') h0 t=>by
  obtain⟨e,h1⟩:=h0;have e:j=j':=e;subst e;show Paired _ (if mK k j=true then(k,x):: (j,u):: r else(j,u):: nh k x r) (if mK k j=true then(k,y):: (j,v):: r' else(j,v):: nh k y r')
  by_cases z:mK k j=true
  ·rw[oO z,oO z];exact .cons ⟨rfl,h⟩ (.cons ⟨rfl,h1⟩ t)
  ·rw[DW z,DW z];exact .cons ⟨rfl,h1⟩ (oC h t)
theorem ic {α β:Type}{R:α->β->Prop}:∀{l:List (Ky×α)}{m:List (Ky×β)},Paired (λa b=>a.1=b.1/\R a.2 b.2) l m->Paired (λa b=>a.1=b.1/\R a.2 b.2) (cV l) (cV m)
 |_,_,.nil=>.nil
 |_,_,.cons (a:=(j,u)) (b:=(j',v)) (l₁:=r) (l₂:=r') h0 t=>by
  obtain⟨e,h1⟩:=h0;have e:j=j':=e;subst e;exact oC h1 (ic t)
theorem me {α β:Type}{R:α->β->Prop}:∀{l:List (Ky×α)}{m:List (Ky×β)},Paired (λa b=>a.1=b.1/\R a.2 b.2) l m->Paired R (l.map (·.2)) (m.map (·.2))
 |_,_,.nil=>.nil
 |_,_,.cons h t=>.cons h.2 (me t)
theorem lG {R:V->Tm->Prop}:∀{xs:List V}{es:List Tm},Paired R xs es->Paired (λa b=>a.1=b.1/\R a.2 b.2) ((es.map fj).zip xs) (es.map λe=>(fj e,e))
 |_,_,.nil=>.nil
 |_,_,.cons h t=>.cons ⟨rfl,h⟩ (lG t)
theorem oB:∀{xs:List V}{es:List Tm}{H:Hp}{R:List V->Hp->Prop},aF H xs es →
 (∀ks H2,ay H H2->Paired (λx e=>∃a b,x=.ref a/\H2 a=some (.tup [.int e.1.length,.ref b])/\H2 b=some (.tup (e.1.map V.int))) ks es->R ks H2)->n5 tQ xs H R
 |_,_,H,R,.nil,h=>h [] H (ay.refl _) .nil
 |_,_,H,R,.cons (b:=e) h0 t,h=>by
  obtain⟨a,pr,nu,rfl,ha,Jm,Jy⟩:=h0;refine⟨a,pr,.ref nu,_,rfl,ha,Jm,λtt Vu=>?_⟩;rw[wC];have sU:ay H (upd H tt (.tup [.int e.1.length,.ref pr])):=aq Vu;refine oB (aF.keep t (az.of sU)) λks H2 s2 hk=>h _ H2 (λb u z=>s2 _ _ (sU _ _ z)) (.cons ⟨tt,pr,rfl,s2 _ _ ae,s2 _ _ (sU _ _ Jm)⟩ hk)
theorem rF {K:Frag}:∀{ks:List V}{es:List Tm},Paired (λx e=>∃a b,x=.ref a/\H a=some (.tup [.int e.1.length,.ref b])/\H b=some (.tup (e.1.map V.int))) ks es->c9 K H ks (es.map fj)
 |_,_,.nil=>True.intro
 |_,_,.cons h t=>by
  obtain⟨a,b,rfl,h1,h2⟩:=h;exact⟨⟨a,b,[],rfl,a7.of h1,a7.of h2⟩,rF t⟩
theorem vX (h:(d.map (·.1)).Nodup)(f:Tm->Bool):((d.filter f).map fj).Nodup:=by
 have h1:((d.filter f).map (·.1)).Nodup:=h.sublist (List.filter_sublist.map _)
 have e:(d.filter f).map fj=((d.filter f).map (·.1)).map λk=>((k.length:Int),k):=by rw[BA];rfl
 rw[e];unfold List.Nodup at h1 |-;rw[List.pairwise_map];exact h1.imp λh z=>h (CW z).2
theorem iu (h:(d.map (·.1)).Nodup):∀{e e':Tm},e∈d->e'∈d->e.1=e'.1->e=e':=by
 induction d with
 |nil=>intro e e' h1;exact nomatch h1
 |cons a d ih =>
  rw[xx,xG] at h;intro e e' h1 h2 z
  rcases Ef.mp h1 with h3|h3
  ·rcases Ef.mp h2 with h4|h4
   ·rw[h3,h4]
   ·exact absurd (by rw[<-h3,z];exact BG (f:=(·.1)) h4) h.1
  ·rcases Ef.mp h2 with h4|h4
   ·exact absurd (by rw[<-h4,<-z];exact BG (f:=(·.1)) h3) h.1
   ·exact ih h.2 h3 h4 z
variable {P:A9}{w:World}{K:PySem.W.Frag}{mg:Fj}{base:Heap}
variable {f:Addr}{fd:FD}
theorem afi {fo C:Addr}{Vv:FD}(F:Fe K "gathered" "gathered" zU f fd)(c:xi K mg C)(Je:mg "sorted"=none)
 (q0:Cm P w K mg base 4 rE C "plus" (qA C mh))
 (FPo:Ey P w K mg base (bZ P w) 1 fo Vv ["term"] tQ)(bPo:L2.bF K Vv ["term"] [])(mPo:mg "place_of_term"=some (.ref fo)):Ey P w K mg base (bZ P w) 5 f fd mY (p5 C):=by
 obtain⟨fp,TM,FPl,bPl,mPl⟩:=q0;refine F.okN jq (λvs H Q E h=>?_) (λIZ A outer s H vs Q E hr h=>?_)
 ·obtain⟨s,dx,l,p,ys,ts,rfl,_⟩:=h;rfl
 ·obtain⟨s0,dx,l,p,ys,ts,rfl,hs,hp,hl,Qp,G,q⟩:=h;have h64:=G.len;have hG:=G.num;have Ke:Hz 4 _:=hr.mono (by decide);have Vw:Hz 3 _:=hr.mono (by decide);have hu:=(hr.units:_+64<cLine)
  replace hu:=xv (xn (by decide:1<=64) _) hu
  refine⟨_,(ai (@aM _ _ 2 _ _ _ _ jq.nd rfl (Or.inl rfl) rH rfl (Or.inl rfl))
   (ai (dD uy rfl (cb (pv 1)) (cC rfl (aG (aC (i:=3) jq.nd rfl (Or.inl rfl)) (aG (aC (i:=4) jq.nd rfl (Or.inl rfl)) cj)))
   (ai (bf (uH (agJ hu (pv 3) (pv 2))) (av (@aM _ _ 4 _ _ _ _ jq.nd rfl (Or.inl rfl) (bU (pv 0) c.cl mPl FPl Ke bPl .nil af (ao (iC hu (pv 2) (pv 3) (λ_ _=>rfl)) (ao (pv 4) ah rfl) rfl)) rfl (Or.inl rfl))) aH)
   (av (oZ hu (pv 2) (pv 3) (pv 4) (by rfl)))))
   (ai (jX (i:=5) (g:=jm K 2 (cp (bJ 0) (cp (bJ 1) EE))) (N:=["product","number"]) (nl:=2) (js:=[]) (osc:=ar zU) ⟨rfl,rfl,by decide +kernel,by decide +kernel,by decide +kernel,rfl,.nil,by decide +kernel⟩ rfl jq.nd rfl (Or.inl rfl)
    (adS (pv 2))
    (λC fp s H=>(cC (X:=cu _ ["product","number"] _ C fp s H) rfl (aG (aC (X:=cu _ ["product","number"] _ C fp s H) (i:=0) (by show(["product","number"]:DV).Nodup;decide +kernel) rfl (Or.inl rfl) (Or.inr rfl)) (aG (aC (X:=cu _ ["product","number"] _ C fp s H) (i:=1) (by show(["product","number"]:DV).Nodup;decide +kernel) rfl (Or.inl rfl) (Or.inr rfl)) cj))))
    (λC fp s H=>(iK (aK g9 (aV (show FK _ (BS K) from bx) (pv 1) aj (λ_ _=>rfl)) aj (aJ _))))
    (λC fp s H=>(bw (ao (pv 0) (ao (pv 1) ah rfl) rfl))) (by rfl))
   (av (aB (ae7 FPo Vw bPo (by rfl) Je (by rfl) mPo (pv 5))))))),?_⟩
  have hlen:=Qp.length
  have gg:∀i,i<=ts.length->oA p 4000 (aO p (ts.take i))/\((aO p (ts.take i)).map (·.1)).Nodup/\(aO p (ts.take i)).length<=i:=λi hi=>by
   obtain⟨_,g2,g3⟩:=gO (m:=4000) hp i (ts.take i) (by simp;omega) λt ht=>hG t (Hx ht);exact⟨G.steps i hi,g2,g3⟩
  refine λdd Kd=>?_;have s1:ay H (upd H dd (.dT [])):=aq Kd;refine⟨_,rfl,l,rfl,⟨ys,aW.of (s1 _ _ hl)⟩,?_⟩
  refine⟨λi m σ' H'=>m=ts.length-i/\i<=ts.length/\ay H H'/\(∃IY,H' dd=some (.dT IY)/\DR H' IY (aO p (ts.take i)))/\∃o3 o4,σ'=[some (.ref s0),some (.ref l),some (.ref dd),o3,o4,none],
   ⟨ts.length,by simp,GH _,s1,⟨[],ae,.nil⟩,none,none,rfl⟩,?_⟩
  rintro i m' σ' H' ⟨rfl,hi,sH,⟨IY,hd,dr⟩,o3,o4,rfl⟩;have Kr:=sH _ _ hl;have MN:=sH _ _ hs;obtain⟨gd,LL,gl⟩:=gg i hi
  by_cases Jb:i<ts.length
  ·have Vx:i<ys.length:=by omega
   refine .inr ⟨⟨ys,ys[i],aW.of Kr,by simp[Vx]⟩,λσ' H'=>i+1<=ts.length/\ay H H'/\(∃IY,H' dd=some (.dT IY)/\DR H' IY (aO p (ts.take (i+1))))/\∃o3 o4,σ'=[some (.ref s0),some (.ref l),some (.ref dd),o3,o4,none],?_,λy H2 hy=>?_⟩
   ·rintro σ' H' ⟨h1,h2,h3,h4⟩;exact⟨ts.length-(i+1),by omega,rfl,h1,h2,h3,h4⟩
   ·obtain⟨rfl,hy⟩:=hy;obtain⟨t,et,tr⟩:=bh Qp (hy ys (aW.of Kr));obtain⟨a,pr,nu,rfl,ha,Jm,Jy⟩:=tr.keep (az.of sH);have gt:=hG t (HL et)
    have Jz:ts.take (i+1)=ts.take i++[t]:=by rw[x8,et];rfl
    have Kf:∀H3:Hp,az H2 H3->H3 pr=some (.tup ((gk t.1).map kV)):=λH3 k=>by rw[fA];exact k _ _ Jm
    have fin:∀(H3:Hp)(an:Addr),ay H H3->az H2 H3->H3 dd=some (.dT IY)->((aO p (ts.take i)).any (λe=>decide (e.1=t.1))=false->H3 an=some (bK t.2.1 t.2.2)) →
     (∀e∈aO p (ts.take i),e.1=t.1->H3 an=some (bK (dS p e.2 t.2).1 (dS p e.2 t.2).2)) →
     ay H (upd H3 dd (.dT (eF IY (gk t.1) (.ref an))))/\∃Jl,(upd H3 dd (.dT (eF IY (gk t.1) (.ref an)))) dd=some (.dT Jl)/\DR (upd H3 dd (.dT (eF IY (gk t.1) (.ref an)))) Jl (aO p (ts.take (i+1))):=by
     intro H3 an s3 k3 h3 LY Kx;refine⟨λb u e=>by rw[au (ax e Kd)];exact s3 b u e,_,ae,?_⟩;rw[Jz,jA];exact(yN (dr.keep k3) LL LY Kx).keep (az.upd λxs z=>by rw[h3] at z;cases z)
    have Lm:IY.length<sizeLine:=by
     rw[dr.length];exact xv gl (BX (xv hi h64) (by decide))
    refine⟨a,_,rfl,a7.of ha,rfl,_,_,rfl,_,_,rfl,rfl,?_⟩;refine⟨_,rfl,_,rfl,dd,_,rfl,gf.t hd (Kf _ λ_ _ e=>e),_,rfl,?_⟩
    cases hq:(aO p (ts.take i)).any (λe=>decide (e.1=t.1)) with
    |false =>
     rw[vZ t.1 dr hq];refine bX ?_;refine⟨_,rfl,_,rfl,_,rfl,dd,_,rfl,pQ.t hd (Kf _ λ_ _ e=>e) Lm,?_⟩
     obtain⟨f1,f2⟩:=fin H2 nu sH (λ_ _ e=>e) hd (λ_=>Jy) λe he z=>by
      have:(aO p (ts.take i)).any (λe=>decide (e.1=t.1))=true:=HV.mpr ⟨e,he,by simpa using z⟩;rw[hq] at this;cases this
     exact⟨Jb,f1,f2,_,_,rfl⟩
    |true =>
     obtain⟨e,he,ek,a0,hv,Vy⟩:=kH t.1 dr hq;rw[hv];refine cm ?_;have ge:=gd e he
     refine⟨_,rfl,s0,dx,_,rfl,MN,rfl,_,rfl,_,rfl,dd,_,rfl,(by rw[<-hv];exact gf.t hd (Kf _ λ_ _ e=>e)),_,rfl,s0,dx,a0,nu,p,e.2.1,e.2.2,t.2.1,t.2.2,rfl,MN,hp,Vy,Jy,
      ge.2.1,ge.2.2,gt.2.1,gt.2.2,ge.ne,gt.ne,λa1 KL=>?_⟩
     have sU:ay H2 (upd H2 a1 (bK (dS p e.2 t.2).1 (dS p e.2 t.2).2)):=aq KL;refine⟨_,rfl,_,rfl,_,rfl,dd,_,rfl,pQ.t (sU _ _ hd) (Kf _ (az.of sU)) Lm,?_⟩
     obtain⟨f1,f2⟩:=fin _ a1 (λb u z=>sU _ _ (sH _ _ z)) (az.of sU) (sU _ _ hd) (λz=>by rw[hq] at z;cases z) λe' Li z=>by
      have:e'=e:=iu LL Li he (z.trans ek.symm);subst this;exact ae
     exact⟨Jb,f1,f2,_,_,rfl⟩
  ·have ei:i=ts.length:=by omega
   subst ei;refine .inl ⟨⟨ys,aW.of Kr,by omega⟩,?_⟩;rw[yK] at dr gd LL gl;refine⟨_,rfl,dd,IY,rfl,.inr ⟨hd,λo=>?_⟩⟩
   have sF:ay H (upd H' dd (p8 o IY)):=λb u e=>by rw[au (ax e Kd)];exact sH b u e
   have Vz:DR (upd H' dd (p8 o IY)) IY (aO p ts):=dr.keep (az.upd λxs z=>by rw[hd] at z;cases z);have kl:IY.length=(aO p ts).length:=dr.length
   refine⟨λi m xs σ' H2=>m=(aO p ts).length-i/\i<=(aO p ts).length/\ay H H2/\H2 dd=some (p8 o IY)/\DR H2 IY (aO p ts)/\aF H2 xs (((aO p ts).take i).filter λe=>e.2.1 != 0)/\∃o1 o2,σ'=[o1,o2],
    ⟨(aO p ts).length,by simp,GH _,sF,ae,Vz,.nil,none,none,rfl⟩,?_⟩
   rintro i m' xs σ' H2 ⟨rfl,hi2,s2,hd2,MP,KJ,o1,o2,rfl⟩
   have xl:xs.length<=(aO p ts).length:=by
    rw[KJ.length];exact GC (tT _ _) (by simp;omega)
   refine⟨xv (GC xl gl) (BX h64 (by decide)),?_⟩
   by_cases Ln:i<(aO p ts).length
   ·refine .inr ⟨⟨by omega,hd2⟩,λx H3 hx=>?_⟩;obtain⟨pp,b,k,v,hk,Qc,hb,rfl,rfl⟩:=hx;obtain⟨e,ee,ek,a,ev,ha⟩:=bh MP hk;have ek:k=gk e.1:=ek;have ev:v=.ref a:=ev;subst ek;subst ev;have sP:ay H2 (upd H2 pp (.tup [.ref b,.ref a])):=aq Qc
    have Jz:(aO p ts).take (i+1)=(aO p ts).take i++[e]:=by rw[x8,ee];rfl
    rw[fA] at hb;refine⟨pp,_,rfl,a7.of ae,rfl,_,_,rfl,_,_,rfl,rfl,?_⟩;refine⟨_,rfl,a,_,0,_,rfl,rfl,a7.of (sP _ _ ha),rfl,rfl,_,rfl,?_⟩;have dP:upd H2 pp (.tup [.ref b,.ref a]) dd=some (p8 o IY):=sP _ _ hd2
    cases hz:(e.2.1 != 0) with
    |true =>
     have z:(!decide (V.int e.2.1=V.int 0))=true:=by
      have:e.2.1≠0:=by simpa using hz
      simp[this]
     rw[z];refine cm ⟨_,rfl,_,rfl,jP,λt' Lo=>?_⟩;have sT:ay (upd H2 pp (.tup [.ref b,.ref a])) (upd (upd H2 pp (.tup [.ref b,.ref a])) t' (.tup [.ref b,.ref a])):=aq Lo;have sA:ay H2 (upd (upd H2 pp (.tup [.ref b,.ref a])) t' (.tup [.ref b,.ref a])):=λc u e=>sT _ _ (sP _ _ e);refine⟨(aO p ts).length-(i+1),by omega,rfl,Ln,λc u e=>sA _ _ (s2 _ _ e),sA _ _ hd2,MP.keep (az.of sA),?_,_,_,rfl⟩;rw[Jz,yJ]
     have ef:[e].filter (λe=>e.2.1 != 0)=[e]:=by simp[hz]
     rw[ef];exact xC (aF.keep KJ (az.of sA)) ⟨t',b,a,rfl,ae,sA _ _ hb,sA _ _ ha⟩
    |false =>
     have z:(!decide (V.int e.2.1=V.int 0))=false:=by
      have:e.2.1=0:=by simpa using hz
      simp[this]
     rw[z];refine bX ⟨(aO p ts).length-(i+1),by omega,rfl,Ln,λc u e=>sP _ _ (s2 _ _ e),sP _ _ hd2,MP.keep (az.of sP),?_,_,_,rfl⟩;rw[Jz,yJ]
     have ef:[e].filter (λe=>e.2.1 != 0)=[]:=by simp[hz]
     rw[ef,F2];exact aF.keep KJ (az.of sP)
   ·have VA:i=(aO p ts).length:=by omega
    subst VA;refine .inl ⟨⟨by omega,hd2⟩,λD hD=>?_⟩;rw[yK] at KJ;have sD:ay H2 (upd H2 D (.lst xs)):=aq hD;refine⟨_,rfl,D,xs,rfl,aW.of ae,xv xl G.few,?_⟩;refine oB (aF.keep KJ (az.of sD)) λks H3 s3 hk=>?_;refine⟨_,rF hk,vX LL _,λD2 NX=>?_⟩;have sE:ay H3 (upd H3 D2 (.lst ((cV ((((aO p ts).filter λe=>e.2.1 != 0).map fj).zip xs)).map (·.2)))):=aq NX;refine q _ D2 _ (λc u e=>sE _ _ (s3 _ _ (sD _ _ (s2 _ _ e)))) (none_of (λc u e=>s3 _ _ (sD _ _ (s2 _ _ e))) NX) ae ?_;have TY:aF H3 xs ((aO p ts).filter λe=>e.2.1 != 0):=aF.keep KJ (az.of λc u e=>s3 _ _ (sD _ _ e));exact aF.keep (me (ic (lG TY))) (az.of sE)
structure Cd (p D M:Int)(a:Int×Int):Prop where
 num:Num p a.1 a.2
 d:p=0->∃k:Int,a.2*k=D/\((a.1*k).natAbs:Int)<=M
variable {M:Int}
theorem Cd.mono {D M':Int}(h:Cd p D M a)(m:M<=M'):Cd p D M' a:=⟨h.num,λz=>by
 obtain⟨k,e,l⟩:=h.d z
 exact⟨k,e,Int.le_trans l m⟩⟩
variable {N:Int}
theorem Cd.add {D:Int}(hp:FP p)(ha:Cd p D M a)(hb:Cd p D N b):Cd p D (M+N) (dS p a b):=by
 have na:=ha.num.pos;have nb:=hb.num.pos;have nz:a.2*b.2≠0:=Bh (by omega) (by omega);refine⟨Num.set hp.nn nz,λz=>?_⟩;subst z;obtain⟨x,ex,lx⟩:=ha.d rfl;obtain⟨y,ey,ly⟩:=hb.d rfl;have cr:=jw (t:=a.1*b.2+b.1*a.2) nz;have nm:Num 0 (dj 0 (a.1*b.2+b.1*a.2) (a.2*b.2)) (dM 0 (a.1*b.2+b.1*a.2) (a.2*b.2)):=Num.set (Hr 0) nz;show ∃k,dM 0 (a.1*b.2+b.1*a.2) (a.2*b.2)*k=D/\(((dj 0 (a.1*b.2+b.1*a.2) (a.2*b.2))*k).natAbs:Int)<=M+N;generalize dj 0 (a.1*b.2+b.1*a.2) (a.2*b.2)=t at cr nm |-;generalize dM 0 (a.1*b.2+b.1*a.2) (a.2*b.2)=u at cr nm |-;obtain⟨a1,a2⟩:=a;obtain⟨b1,b2⟩:=b;dsimp only at *
 have e1:t*D=(a1*x+b1*y)*u:=by
  refine xU nz ?_
  have h1:(a1*b2+b1*a2)*D=(a1*x+b1*y)*(a2*b2):=by
   have:(a1*b2+b1*a2)*D=a1*b2*D+b1*a2*D:=by grind
   rw[this]
   have p1:a1*b2*D=a1*x*(a2*b2):=by rw[<-ex];grind
   have p2:b1*a2*D=b1*y*(a2*b2):=by rw[<-ey];grind
   rw[p1,p2];grind
  have:t*D*(a2*b2)=t*(a2*b2)*D:=by grind
  rw[this,cr]
  have:(a1*b2+b1*a2)*u*D=(a1*b2+b1*a2)*D*u:=by grind
  rw[this,h1];grind
 have dv:u ∣ D:=by
  have g:Int.gcd u t=1:=by rw[Int.gcd_comm];exact nm.red
  have h1:u ∣ t*D:=⟨a1*x+b1*y,by rw[e1];grind⟩;have h2:=Int.natAbs_dvd_natAbs.mpr h1;rw[wJ] at h2;exact Int.natAbs_dvd_natAbs.mp (Nat.Coprime.dvd_of_dvd_mul_left (show Nat.Coprime u.natAbs t.natAbs from g) h2)
 obtain⟨k,ek⟩:=dv;refine⟨k,ek.symm,?_⟩;have up:=nm.pos
 have e2:t*k=a1*x+b1*y:=by
  refine xU (show u≠0 by omega) ?_;rw[<-e1,ek];grind
 rw[e2];have:=Int.natAbs_add_le (a1*x) (b1*y);omega
theorem Cd.mul {D D':Int}(hp:FP p)(ha:Cd p D M a)(hb:Cd p D' N b):Cd p (D*D') (M*N) (cO p a b):=by
 have na:=ha.num.pos;have nb:=hb.num.pos;have nz:a.2*b.2≠0:=Bh (by omega) (by omega);refine⟨Num.set hp.nn nz,λz=>?_⟩;subst z;obtain⟨x,ex,lx⟩:=ha.d rfl;obtain⟨y,ey,ly⟩:=hb.d rfl;have e1:=nY (t:=a.1*b.1) nz;have e2:=jG (t:=a.1*b.1) nz;refine⟨Nm.dv (a.1*b.1) (a.2*b.2)*(x*y),?_,?_⟩
 ·show cz (a.1*b.1) (a.2*b.2)*(Nm.dv (a.1*b.1) (a.2*b.2)*(x*y))=D*D';rw[<-sv,e2,<-ex,<-ey];grind
 ·show((dq (a.1*b.1) (a.2*b.2)*(Nm.dv (a.1*b.1) (a.2*b.2)*(x*y))).natAbs:Int)<=M*N;rw[<-sv,e1,show a.1*b.1*(x*y)=(a.1*x)*(b.1*y) by grind,wJ];push_cast;exact Int.mul_le_mul lx ly (by omega) (by omega)
theorem FP.bits (hp:FP p)(z:p≠0){t b:Int}(h:Num p t b):B 7 t/\B 7 b:=by
 obtain⟨_,_,Qd⟩:=hp.two z;obtain⟨h1,h2,h3⟩:=h.pr z;constructor
 ·show t.natAbs<2^7;omega
 ·show b.natAbs<2^7;omega
variable {n:Nat}
theorem Cd.gn {D:Int}(hp:FP p)(h:Cd p D M a)(h7:7<=n)(NY:D≠0)(hD:B n D)(hM:B n M):Gn p n a:=by
 by_cases z:p=0
 ·obtain⟨k,e,l⟩:=h.d z;have kz:k≠0:=λw=>NY (by rw[<-e,w,Int.mul_zero])
  have k1:1<=k.natAbs:=by omega
  refine⟨h.num,?_,?_⟩
  ·have:(a.1*k).natAbs<=M.natAbs:=by omega
   rw[wJ] at this;exact hM.le (GC (Nat.le_mul_of_pos_right _ k1) this)
  ·rw[<-e] at hD;refine hD.le ?_;rw[wJ];exact Nat.le_mul_of_pos_right _ k1
 ·obtain⟨h1,h2⟩:=hp.bits z h.num;exact⟨h.num,h1.mono h7,h2.mono h7⟩
theorem aiv {D:Int}{t:Tm}(hp:FP p)(hN:0<=N)(hM:0<=M)(hd:∀e∈d,Cd p D M e.2)(ht:Cd p D N t.2):∀e∈cS p d t,Cd p D (M+N) e.2:=by
 intro e he;unfold cS at he
 split at he
 ·obtain⟨e0,h0,rfl⟩:=HF.mp he
  by_cases q:e0.1=t.1
  ·rw[oO q];exact(hd e0 h0).add hp ht
  ·rw[DW q];exact(hd e0 h0).mono (by omega)
 ·rcases HB.mp he with he|he
  ·exact(hd e he).mono (by omega)
  ·have:e=t:=by simpa using he
   rw[this];exact ht.mono (by omega)
theorem vy {D:Int}(hp:FP p)(hN:0<=N):∀(ts d:List Tm)(M:Int),0<=M->(∀e∈d,Cd p D M e.2)->(∀t∈ts,Cd p D N t.2)->∀e∈ts.foldl (cS p) d,Cd p D (M+N*ts.length) e.2
 |[],d,M,hM,hd,_,e,he=>(hd e he).mono (by simp)
 |t::ts,d,M,hM,hd,ht,e,he=>by
  have:=vy hp hN ts (cS p d t) (M+N) (by omega) (aiv hp hN hM hd (ht t qG)) (λt h=>ht t (AM _ h)) e he;refine this.mono ?_;rw[sC];push_cast;rw[Int.mul_add];omega
theorem wg {D:Int}{ts:List Tm}(hp:FP p)(hN:0<=N)(h:∀t∈ts,Cd p D N t.2):∀e∈aO p ts,Cd p D (N*ts.length) e.2:=λe he=>by
 have:=vy hp hN ts [] 0 (Hr 0) (λe h=>nomatch h) h e he;rwa[Int.zero_add] at this
theorem Dw {D:Int}(hp:FP p)(hN:0<=N)(h:∀t∈ts,Cd p D N t.2):∀e∈tg p ts,Cd p D (N*ts.length) e.2:=λe he=>wg hp hN h e (rh.mp ((dz _).mem_iff.mp he)).1
theorem EK.cd {D:Int}(hp:FP p)(hN:0<=N)(h:∀t∈ts,Cd p D N t.2)(NY:D≠0)(hD:B 4000 D)(hM:B 4000 (N*ts.length))(len:ts.length<4000)(few:(aO p ts).length<64):EK p ts:=by
 have up:∀i:Nat,i<=ts.length->B 4000 (N*(i:Int)):=λi hi=>hM.le (by
  rw[wJ,wJ]
  exact tJ _ (by omega))
 refine⟨len,λt ht=>?_,λi hi e he=>?_,few⟩
 ·by_cases z:ts.length=0
  ·rw[List.length_eq_zero_iff.mp z] at ht
   exact nomatch ht
  ·refine(h t ht).gn hp (by decide) NY hD ?_;have:=up 1 (by omega);simpa using this
 ·have g:=wg (ts:=ts.take i) hp hN (λt ht=>h t (Hx ht)) e he;rw[EM,Nat.min_eq_left hi] at g;exact g.gn hp (by decide) NY hD (up i hi)
theorem qj {α:Type} [BEq α] [LawfulBEq α]:∀{l m:List α},l.Nodup->(∀x∈l,x∈m)->l.length<=m.length
 |[],m,_,_=>GH _
 |x::l,m,h,hm=>by
  obtain⟨h1,h2⟩:=xG.mp h;have hx:=hm x qG;have ih:=qj (l:=l) (m:=m.erase x) h2 λy hy=>(List.mem_erase_of_ne (λ(e:y=x)=>h1 (by rw[<-e];exact hy))).mpr (hm y (AM _ hy));have e:=List.length_erase_of_mem hx;have p:0<m.length:=List.length_pos_of_mem hx;rw[sC];omega
noncomputable def jj:List Int->List (List Int)
 |[]=>[[]]
 |x::l=>(jj l).map (x :: ·)++jj l
theorem gr:∀{l ks:List Int},l.Pairwise (· < ·)->ks.Pairwise (· < ·)->(∀k∈ks,k∈l)->ks∈jj l
 |[],[],_,_,_=>B6.mpr rfl
 |[],k::ks,_,_,h=>nomatch h k qG
 |x::l,[],hl,hk,h=>Il _ (gr (BJ.mp hl).2 hk λk z=>nomatch z)
 |x::l,k::ks,hl,hk,h=>by
  obtain⟨l1,l2⟩:=BJ.mp hl;obtain⟨k1,k2⟩:=BJ.mp hk
  by_cases e:k=x
  ·subst e;refine mi _ (HF.mpr ⟨ks,gr l2 k2 λz hz=>?_,rfl⟩)
   rcases Ef.mp (h z (AM _ hz)) with w|w
   ·have:=k1 z hz;omega
   ·exact w
  ·have kx:k∈l:=by
    rcases Ef.mp (h k qG) with w|w
    ·exact absurd w e
    ·exact w
   have lx:=l1 k kx;refine Il _ (gr l2 hk λz hz=>?_)
   rcases Ef.mp (h z hz) with w|w
   ·rcases Ef.mp hz with v|v
    ·exact absurd (v.symm.trans w) e
    ·have:=k1 z v;omega
   ·exact w
noncomputable def P5 (ks:List Int):Prop:=ks.Pairwise (· < ·)/\∀k∈ks,0<=k/\k<5
variable {ks:List Int}
theorem P5.mem (h:P5 ks):ks∈jj [0,1,2,3,4]:=gr (by decide) h.1 λk hk=>by
 have:=h.2 k hk
 have:k=0\/k=1\/k=2\/k=3\/k=4:=by omega
 rcases this with h|h|h|h|h <;> (rw[h];decide)
theorem P5.len (h:P5 ks):ks.length<=5:=by
 have:∀l∈jj [0,1,2,3,4],l.length<=5:=by decide
 exact this ks h.mem
theorem P5.both {ms:List Int}(h:P5 ks)(g:P5 ms):P5 (gm (ks++ms)):=⟨i9 _,λk hk=>by
 rcases HB.mp (gM.mp hk) with z|z
 ·exact h.2 k z
 ·exact g.2 k z⟩
theorem aiy {t e:Tm}(h:e∈cS p d t):(∃x∈d,e.1=x.1)\/e.1=t.1:=by
 unfold cS at h
 split at h
 ·obtain⟨x,hx,rfl⟩:=HF.mp h;refine .inl ⟨x,hx,?_⟩
  split <;> rfl
 ·rcases HB.mp h with h|h
  ·exact .inl ⟨e,h,rfl⟩
  ·have:e=t:=by simpa using h
   exact .inr (by rw[this])
theorem kf :∀(ts d:List Tm)(e:Tm),e∈ts.foldl (cS p) d->(∃x∈d,e.1=x.1)\/∃x∈ts,e.1=x.1
 |[],d,e,h=>.inl ⟨e,h,rfl⟩
 |t::ts,d,e,h=>by
  rcases kf ts (cS p d t) e h with⟨x,hx,ex⟩|⟨x,hx,ex⟩
  ·rcases aiy hx with⟨y,hy,ey⟩|ey
   ·exact .inl ⟨y,hy,ex.trans ey⟩
   ·exact .inr ⟨t,qG,ex.trans ey⟩
  ·exact .inr ⟨x,AM _ hx,ex⟩
theorem uW (h:∀t∈ts,P5 t.1):∀e∈aO p ts,P5 e.1:=λe he=>by
 rcases kf ts [] e he with⟨x,hx,_⟩|⟨x,hx,ex⟩
 ·exact nomatch hx
 ·rw[ex];exact h x hx
theorem ahf (h:∀t∈ts,P5 t.1):∀e∈tg p ts,P5 e.1:=λe he=>uW h e (rh.mp ((dz _).mem_iff.mp he)).1
theorem qY (hp:FP p)(hn:ba p ts)(h:∀t∈ts,P5 t.1):(aO p ts).length<=32:=by
 obtain⟨R,i,v,V⟩:=hp.v;have nd:=(fR V hp.nn hn λ_=>0).2.2
 have:=qj (l:=(aO p ts).map (·.1)) (m:=jj [0,1,2,3,4]) nd λk hk=>by
  obtain⟨e,he,rfl⟩:=HF.mp hk;exact(uW h e he).mem
 rw[wC] at this;exact this
theorem ahw (hp:FP p)(hn:ba p ts)(h:∀t∈ts,P5 t.1):(tg p ts).length<=32:=by
 rw[(dz (aO p ts)).length_eq];exact GC (tT _ _) (qY hp hn h)
structure Tl (p D M:Int)(n:Nat)(ts:List Tm):Prop where
 d:∀t∈ts,Cd p D M t.2
 k:∀t∈ts,P5 t.1
 l:ts.length<=n
theorem Tl.num {D:Int}(h:Tl p D M n ts):ba p ts:=λt ht=>(h.d t ht).num
theorem Tl.gth {D:Int}(h:Tl p D M n ts)(hp:FP p)(hM:0<=M)(NY:D≠0)(hD:B 4000 D)(hB:B 4000 (M*n))(hn:n<4000):EK p ts:=by
 have hl:=h.l;refine EK.cd hp hM h.d NY hD (hB.le ?_) (by omega) (xv (qY hp h.num h.k) (by decide));rw[wJ,wJ];exact tJ _ (by omega)
theorem Tl.tg {D:Int}(h:Tl p D M n ts)(hp:FP p)(hM:0<=M):Tl p D (M*n) 32 (tg p ts):=by
 have hl:=h.l;refine⟨λe he=>(Dw hp hM h.d e he).mono (Ck (by omega) hM),ahf h.k,ahw hp h.num h.k⟩
theorem Tl.mul {D E:Int}{m:Nat}{a b:List Tm}(h:Tl p D M n a)(g:Tl p E N m b)(hp:FP p):Tl p (D*E) (M*N) (n*m) (di p a b):=by
 refine⟨λe he=>?_,λe he=>?_,?_⟩
 ·obtain⟨x,hx,he⟩:=xA.mp he;obtain⟨y,hy,rfl⟩:=HF.mp he;exact(h.d x hx).mul hp (g.d y hy)
 ·obtain⟨x,hx,he⟩:=xA.mp he;obtain⟨y,hy,rfl⟩:=HF.mp he;exact(h.k x hx).both (g.k y hy)
 ·unfold di;rw[List.length_flatMap];simp only[wC];rw[List.map_const',List.sum_replicate_nat];exact Nat.mul_le_mul h.l g.l
theorem oN {p:Int}:∀{ts:List Tm},(∀t∈ts,Gn p 45 t.2)->∃D:Int,0<D/\B (45*ts.length+1) D/\∀t∈ts,Cd p D (35184372088832*D) t.2
 |[],_=>⟨1,by decide,by unfold B;decide,λt h=>nomatch h⟩
 |t::ts,h=>by
  obtain⟨D,d0,dB,hd⟩:=oN (ts:=ts) λt ht=>h t (AM _ ht);obtain⟨n,b1,b2⟩:=h t qG;have bp:=n.pos
  have dle:D<=D*t.2.2:=by
   have:=Ck (show 1<=t.2.2 by omega) (show 0<=D by omega);omega
  refine⟨D*t.2.2,CV d0 bp,?_,λu hu=>?_⟩
  ·have:=dB.mul b2;exact this.mono (by rw[sC];omega)
  ·rcases Ef.mp hu with rfl|hu
   ·refine⟨n,λ_=>⟨D,CB _ _,?_⟩⟩;rw[wJ];have bt:u.2.1.natAbs<35184372088832:=HG b1 (by decide);have h1:u.2.1.natAbs*D.natAbs<=35184372088832*D.natAbs:=EU _ (by omega)
    have h2:((35184372088832*D.natAbs:Nat):Int)=35184372088832*D:=by
     rw[AJ,xb (show 0<=D by omega)];rfl
    have h3:((u.2.1.natAbs*D.natAbs:Nat):Int)<=((35184372088832*D.natAbs:Nat):Int):=Int.ofNat_le.mpr h1;rw[h2] at h3;exact Int.le_trans h3 (Ck dle (by decide))
   ·have c:=hd u hu;refine⟨c.num,λz=>?_⟩;obtain⟨k,ek,lk⟩:=c.d z;refine⟨k*t.2.2,by rw[<-sv,ek],?_⟩;rw[<-sv,wJ];rw[AJ,xb (show 0<=t.2.2 by omega),<-sv];exact DH lk (show 0<=t.2.2 by omega)
noncomputable abbrev pT:Stmt:=(aZ 50)
noncomputable def A8:Sp:=λvs H Q _=>∃(l:Addr)(p:Int)(ys:List V)(ts:List Tm),vs=[.int p,.ref l]/\FP p/\H l=some (.lst ys)/\aF H ys ts/\EK p ts /\
 ∀H' D zs,ay H H'->H' D=some (.lst zs)->aF H' zs (eA (aO p ts))->Q (.ref D) H'
theorem iA:Ii ["_law_prime_here","_law_terms_here","_law_found","_law_product_here","_law_number_here","_law_rows"] B0 (ar pT):=fu (by decide +kernel)
noncomputable def Cj (H:Hp)(x:V)(e:Tm):Prop:=∃t b a,x=.ref t/\H t=some (.tup [.int e.1.length,.ref b,.ref a])/\H b=some (.tup (e.1.map V.int))/\H a=some (bK e.2.1 e.2.2)
theorem Cj.keep {t:Tm}(h:Cj H y t)(k:az H H'):Cj H' y t:=let⟨a,pr,nu,e,h1,h2,h3⟩:=h;⟨a,pr,nu,e,k _ _ h1,k _ _ h2,k _ _ h3⟩
noncomputable abbrev gZ (H:Hp):List V->List Tm->Prop:=Paired (Cj H)
theorem gZ.keep {ys:List V}(h:gZ H ys ts)(k:az H H'):gZ H' ys ts:=Paired.ahM h λ_ _ z=>z.keep k
theorem nU {K:Frag}:∀{ks:List V}{es:List Tm},gZ H ks es->c9 K H ks (es.map fj)
 |_,_,.nil=>True.intro
 |_,_,.cons h t=>by
  obtain⟨t0,b,a,rfl,h1,h2,h3⟩:=h;exact⟨⟨t0,b,[.ref a],rfl,a7.of h1,a7.of h2⟩,nU t⟩
theorem ahx (F:Fe K "_law_gather" "_law_gather" pT f fd)(Je:mg "sorted"=none)(m_len:mg "len"=none)
 (q0:Ca P w K mg base 3 sV "_law_plus" (pA mh)):
 Ey P w K mg base (bZ P w) 4 f fd B0 A8:=by
 obtain⟨fl,MK,VB,VC,VD,VE⟩:=q0;refine F.okN iA (λvs H Q E h=>?_) (λIZ A outer s H vs Q E hr h=>?_)
 ·obtain⟨l,p,ys,ts,rfl,_⟩:=h;rfl
 ·obtain⟨l,p,ys,ts,rfl,hp,hl,Qp,G,q⟩:=h;have h64:=G.len;have hG:=G.num;have J9:Hz 3 _:=hr.mono (by decide);have Vw:Hz (1+2) _:=hr.mono (by decide);have Jr:Hz 1 _:=hr.mono (by decide);have hu:=(hr.units:_+64<cLine)
  replace hu:=xv (xn (by decide:1<=64) _) hu
  refine⟨_,(ai (@aM _ _ 2 _ _ _ _ iA.nd rfl (Or.inr rfl) rH rfl (Or.inl rfl))
   (ai (dD uy rfl (cb (pv 1)) (cC rfl (aG (aC (i:=3) iA.nd rfl (Or.inl rfl)) (aG (aC (i:=4) iA.nd rfl (Or.inl rfl)) cj)))
   (av (oZ hu (pv 2) (pv 3) (aA VB J9 (by rfl) VD VE VC .nil af (ao (pv 0) (ao (CXT hu (pv 2) (pv 3) (bw (ao aj (ao aj ah rfl) rfl)) ⟨rfl,rfl,rfl,rfl⟩) (ao (pv 4) ah rfl) rfl) rfl)) (by rfl))))
   (ai (jX (i:=5) (N:=["_law_product_here","_law_found"]) (nl:=1) (js:=[2]) (osc:=ar pT) ⟨rfl,rfl,by decide +kernel,by decide +kernel,by decide +kernel,rfl,(.cons ⟨rfl,by decide +kernel⟩ .nil),by decide +kernel⟩ rfl iA.nd rfl (Or.inl rfl)
    (ad5 (pv 2))
    (λC fp s H=>aC (i:=0) (by show(["_law_product_here","_law_found"]:DV).Nodup;decide +kernel) rfl (Or.inl rfl) (Or.inr rfl))
    (λC fp s H=>(iK (aK (show gH _ _ (CH K true) from ki Jr) (iC hu (pv 1) (pv 0) (λ_ _=>rfl)) (bw (ao aj (ao aj ah rfl) rfl)) (aJ _))))
    (λC fp s H=>(bw (ao (aI (show eV _ _ (λxs H Q=>∃p ys,xs=[.ref p]/\(aW K H p ys\/a7 K H p ys)/\Q (.int ys.length) H) from b9) (by rfl) m_len Gm (ao (pv 0) ah rfl)) (ao (pv 0) (ao (iC hu (pv 1) (pv 0) (λ_ _=>rfl)) ah rfl) rfl) rfl))) (by rfl))
   (av (aB (dG (g:=jm K 3 (cp (bJ 0) (cp (bJ 1) (cp (bJ 2) EE)))) (N:=["_law_many","_law_product_here","_law_number_here"]) (nl:=3) (js:=[]) (osc:=ar pT) ⟨rfl,rfl,by decide +kernel,by decide +kernel,by decide +kernel,rfl,.nil,by decide +kernel⟩ rfl
    (cb (aI (adY Vw) (by rfl) Je (by rfl) (ao (pv 5) ah rfl)))
    (λC fp s H=>(cC (X:=cu _ ["_law_many","_law_product_here","_law_number_here"] _ C fp s H) rfl (aG (aC (X:=cu _ ["_law_many","_law_product_here","_law_number_here"] _ C fp s H) (i:=0) (by show(["_law_many","_law_product_here","_law_number_here"]:DV).Nodup;decide +kernel) rfl (Or.inl rfl) (Or.inr rfl)) (aG (aC (X:=cu _ ["_law_many","_law_product_here","_law_number_here"] _ C fp s H) (i:=1) (by show(["_law_many","_law_product_here","_law_number_here"]:DV).Nodup;decide +kernel) rfl (Or.inl rfl) (Or.inr rfl)) (aG (aC (X:=cu _ ["_law_many","_law_product_here","_law_number_here"] _ C fp s H) (i:=2) (by show(["_law_many","_law_product_here","_law_number_here"]:DV).Nodup;decide +kernel) rfl (Or.inl rfl) (Or.inr rfl)) cj)))))
    (λC fp s H=>c6)
    (λC fp s H=>(bw (ao (pv 1) (ao (pv 2) ah rfl) rfl))))))))),?_⟩
  have hlen:=Qp.length
  have gg:∀i,i<=ts.length->oA p 4000 (aO p (ts.take i))/\((aO p (ts.take i)).map (·.1)).Nodup/\(aO p (ts.take i)).length<=i:=λi hi=>by
   obtain⟨_,g2,g3⟩:=gO (m:=4000) hp i (ts.take i) (by simp;omega) λt ht=>hG t (Hx ht);exact⟨G.steps i hi,g2,g3⟩
  have one:∀{n:Nat}{a:Int×Int},Gn p n a->p≠0->a.2=1:=λh z=>(h.1.pr z).1;refine λdd Kd=>?_;have s1:ay H (upd H dd (.dT [])):=aq Kd;refine⟨_,rfl,l,rfl,⟨ys,aW.of (s1 _ _ hl)⟩,?_⟩
  refine⟨λi m σ' H'=>m=ts.length-i/\i<=ts.length/\ay H H'/\(∃IY,H' dd=some (.dT IY)/\DR H' IY (aO p (ts.take i)))/\∃o3 o4,σ'=[some (.int p),some (.ref l),some (.ref dd),o3,o4,none],
   ⟨ts.length,by simp,GH _,s1,⟨[],ae,.nil⟩,none,none,rfl⟩,?_⟩
  rintro i m' σ' H' ⟨rfl,hi,sH,⟨IY,hd,dr⟩,o3,o4,rfl⟩;have Kr:=sH _ _ hl;obtain⟨gd,LL,gl⟩:=gg i hi
  by_cases Jb:i<ts.length
  ·have Vx:i<ys.length:=by omega
   refine .inr ⟨⟨ys,ys[i],aW.of Kr,by simp[Vx]⟩,λσ' H'=>i+1<=ts.length/\ay H H'/\(∃IY,H' dd=some (.dT IY)/\DR H' IY (aO p (ts.take (i+1))))/\∃o3 o4,σ'=[some (.int p),some (.ref l),some (.ref dd),o3,o4,none],?_,λy H2 hy=>?_⟩
   ·rintro σ' H' ⟨h1,h2,h3,h4⟩;exact⟨ts.length-(i+1),by omega,rfl,h1,h2,h3,h4⟩
   ·obtain⟨rfl,hy⟩:=hy;obtain⟨t,et,tr⟩:=bh Qp (hy ys (aW.of Kr));obtain⟨a,pr,nu,rfl,ha,Jm,Jy⟩:=tr.keep (az.of sH);have gt:=hG t (HL et)
    have Jz:ts.take (i+1)=ts.take i++[t]:=by rw[x8,et];rfl
    have Kf:∀H3:Hp,az H2 H3->H3 pr=some (.tup ((gk t.1).map kV)):=λH3 k=>by rw[fA];exact k _ _ Jm
    have fin:∀(H3:Hp)(an:Addr),ay H H3->az H2 H3->H3 dd=some (.dT IY)->((aO p (ts.take i)).any (λe=>decide (e.1=t.1))=false->H3 an=some (bK t.2.1 t.2.2)) →
     (∀e∈aO p (ts.take i),e.1=t.1->H3 an=some (bK (dS p e.2 t.2).1 (dS p e.2 t.2).2)) →
     ay H (upd H3 dd (.dT (eF IY (gk t.1) (.ref an))))/\∃Jl,(upd H3 dd (.dT (eF IY (gk t.1) (.ref an)))) dd=some (.dT Jl)/\DR (upd H3 dd (.dT (eF IY (gk t.1) (.ref an)))) Jl (aO p (ts.take (i+1))):=by
     intro H3 an s3 k3 h3 LY Kx;refine⟨λb u e=>by rw[au (ax e Kd)];exact s3 b u e,_,ae,?_⟩;rw[Jz,jA];exact(yN (dr.keep k3) LL LY Kx).keep (az.upd λxs z=>by rw[h3] at z;cases z)
    have Lm:IY.length<sizeLine:=by
     rw[dr.length];exact xv gl (BX (xv hi h64) (by decide))
    refine⟨a,_,rfl,a7.of ha,rfl,_,_,rfl,_,_,rfl,rfl,?_⟩;refine⟨_,rfl,_,rfl,dd,rfl,.inr ⟨IY,.inl hd⟩,_,rfl,jP,λt0 VF=>?_⟩;have sZ:ay H2 (upd H2 t0 (.tup [.int 0,.int 1])):=aq VF;refine⟨_,gf.t (sZ _ _ hd) (Kf _ (az.of sZ)),?_⟩
    cases hq:(aO p (ts.take i)).any (λe=>decide (e.1=t.1)) with
    |false =>
     rw[vZ t.1 dr hq];refine⟨_,rfl,p,0,1,t.2.1,t.2.2,t0,nu,rfl,hp,ae,sZ _ _ Jy,(by unfold B;decide),(by show(1:Nat)<2^4000;exact Nat.one_lt_two_pow (by decide)),gt.2.1,gt.2.2,(by decide),gt.ne,λz=>by rw[one gt z];decide,λH3 an s3 h3=>?_⟩;have ez:dS p (0,1) t.2=t.2:=afz hp gt
     have h3':H3 an=some (bK t.2.1 t.2.2):=by
      have:H3 an=some (bK (dS p (0,1) t.2).1 (dS p (0,1) t.2).2):=h3;rw[ez] at this;exact this
     have sA:ay H2 H3:=λb u e=>s3 _ _ (sZ _ _ e);refine⟨_,rfl,_,rfl,dd,_,rfl,pQ.t (sA _ _ hd) (Kf _ (az.of sA)) Lm,?_⟩
     obtain⟨f1,f2⟩:=fin H3 an (λb u e=>sA _ _ (sH _ _ e)) (az.of sA) (sA _ _ hd) (λ_=>h3') λe he z=>by
      have:(aO p (ts.take i)).any (λe=>decide (e.1=t.1))=true:=HV.mpr ⟨e,he,by simpa using z⟩;rw[hq] at this;cases this
     exact⟨Jb,f1,f2,_,_,rfl⟩
    |true =>
     obtain⟨e,he,ek,a0,hv,Vy⟩:=kH t.1 dr hq;rw[hv];have ge:=gd e he;refine⟨_,rfl,p,e.2.1,e.2.2,t.2.1,t.2.2,a0,nu,rfl,hp,sZ _ _ Vy,sZ _ _ Jy,ge.2.1,ge.2.2,gt.2.1,gt.2.2,ge.ne,gt.ne,λz=>by rw[one gt z,one ge z];decide,λH3 an s3 h3=>?_⟩;have sA:ay H2 H3:=λb u e=>s3 _ _ (sZ _ _ e);refine⟨_,rfl,_,rfl,dd,_,rfl,pQ.t (sA _ _ hd) (Kf _ (az.of sA)) Lm,?_⟩
     obtain⟨f1,f2⟩:=fin H3 an (λb u e=>sA _ _ (sH _ _ e)) (az.of sA) (sA _ _ hd) (λz=>by rw[hq] at z;cases z) λe' Li z=>by
      have:e'=e:=iu LL Li he (z.trans ek.symm);subst this;exact h3
     exact⟨Jb,f1,f2,_,_,rfl⟩
  ·have ei:i=ts.length:=by omega
   subst ei;refine .inl ⟨⟨ys,aW.of Kr,by omega⟩,?_⟩;rw[yK] at dr gd LL gl;refine⟨_,rfl,dd,IY,rfl,.inr ⟨hd,λo=>?_⟩⟩
   have sF:ay H (upd H' dd (p8 o IY)):=λb u e=>by rw[au (ax e Kd)];exact sH b u e
   have Vz:DR (upd H' dd (p8 o IY)) IY (aO p ts):=dr.keep (az.upd λxs z=>by rw[hd] at z;cases z);have kl:IY.length=(aO p ts).length:=dr.length
   refine⟨λi m xs σ' H2=>m=(aO p ts).length-i/\i<=(aO p ts).length/\ay H H2/\H2 dd=some (p8 o IY)/\DR H2 IY (aO p ts)/\gZ H2 xs (((aO p ts).take i).filter λe=>e.2.1 != 0)/\∃o1,σ'=[o1,some (.ref dd)],
    ⟨(aO p ts).length,by simp,GH _,sF,ae,Vz,.nil,none,rfl⟩,?_⟩
   rintro i m' xs σ' H2 ⟨rfl,hi2,s2,hd2,MP,KJ,o1,rfl⟩
   have xl:xs.length<=(aO p ts).length:=by
    rw[KJ.length];exact GC (tT _ _) (by simp;omega)
   refine⟨xv (GC xl gl) (BX h64 (by decide)),?_⟩
   by_cases Ln:i<(aO p ts).length
   ·refine .inr ⟨⟨by omega,hd2⟩,λx H3 hx=>?_⟩;obtain⟨b,k,v,hk,hb,rfl,rfl⟩:=hx;obtain⟨e,ee,ek,_⟩:=bh MP hk;have ek:k=gk e.1:=ek;subst ek;have he:=HL ee;have ge:=gd e he
    have Jz:(aO p ts).take (i+1)=(aO p ts).take i++[e]:=by rw[x8,ee];rfl
    obtain⟨e',Li,ek',a,hv,ha⟩:=kH e.1 MP (HV.mpr ⟨e,he,by simp⟩);have:e'=e:=iu LL Li he ek';subst this;have dg:∀H4:Hp,ay H3 H4->gf H4 dd (.ref b) (some (.ref a)):=λH4 s4=>.inr ⟨IY,gk e'.1,b,.inr ⟨o,s4 _ _ hd2⟩,rfl,s4 _ _ hb,hv.symm⟩;have Jn:=hb;rw[fA] at Jn;refine⟨_,rfl,_,rfl,dd,.ref a,rfl,dg _ (ay.refl _),jP,λt0 VF=>?_⟩;have sZ:ay H3 (upd H3 t0 (bK 0 1)):=aq VF;refine⟨_,_,DC (sZ _ _ ha),DC ae,by rw[FZ];decide,_,rfl,?_⟩;rw[acn]
    cases hz:(e'.2.1 != 0) with
    |true =>
     have z:((e'.2.1==0&&e'.2.2==1) != true)=true:=by
      have:e'.2.1≠0:=by simpa using hz
      simp[this]
     rw[z];refine cm ⟨_,rfl,b,_,rfl,.inr (a7.of (sZ _ _ Jn)),_,rfl,_,rfl,_,rfl,dd,.ref a,rfl,dg _ sZ,aat,λt' Lo=>?_⟩;rw[wC];have sT:ay (upd H3 t0 (bK 0 1)) (upd (upd H3 t0 (bK 0 1)) t' (.tup [.int e'.1.length,.ref b,.ref a])):=aq Lo;have sA:ay H3 (upd (upd H3 t0 (bK 0 1)) t' (.tup [.int e'.1.length,.ref b,.ref a])):=λc u e=>sT _ _ (sZ _ _ e);refine⟨(aO p ts).length-(i+1),by omega,rfl,Ln,λc u e=>sA _ _ (s2 _ _ e),sA _ _ hd2,MP.keep (az.of sA),?_,_,rfl⟩;rw[Jz,yJ]
     have ef:[e'].filter (λe=>e.2.1 != 0)=[e']:=by simp[hz]
     rw[ef];exact xC (gZ.keep KJ (az.of sA)) ⟨t',b,a,rfl,ae,sA _ _ Jn,sA _ _ ha⟩
    |false =>
     have z:((e'.2.1==0&&e'.2.2==1) != true)=false:=by
      have h0:e'.2.1=0:=by simpa using hz
      have h1:e'.2.2=1:=by
       have g1:=ge.1.pos;have g2:=ge.1.red;rw[h0] at g2
       have:e'.2.2.natAbs=1:=by simpa using g2
       omega
      simp[h0,h1]
     rw[z];refine bX ⟨(aO p ts).length-(i+1),by omega,rfl,Ln,λc u e=>sZ _ _ (s2 _ _ e),sZ _ _ hd2,MP.keep (az.of sZ),?_,_,rfl⟩;rw[Jz,yJ]
     have ef:[e'].filter (λe=>e.2.1 != 0)=[]:=by simp[hz]
     rw[ef,F2];exact gZ.keep KJ (az.of sZ)
   ·have VA:i=(aO p ts).length:=by omega
    subst VA;refine .inl ⟨⟨by omega,hd2⟩,λD hD=>?_⟩;rw[yK] at KJ;have sD:ay H2 (upd H2 D (.lst xs)):=aq hD;have TY:=gZ.keep KJ (az.of sD);refine⟨_,rfl,D,xs,_,rfl,aW.of ae,xv xl G.few,nU TY,vX LL _,λD2 NX=>?_⟩;have VG:gZ (upd H2 D (.lst xs)) ((cV ((((aO p ts).filter λe=>e.2.1 != 0).map fj).zip xs)).map (·.2)) (eA (aO p ts)):=me (ic (lG TY));generalize (cV ((((aO p ts).filter λe=>e.2.1 != 0).map fj).zip xs)).map (·.2)=zs at VG |-;have zl:=VG.length
    have tl:(eA (aO p ts)).length<=(aO p ts).length:=by
     unfold eA;rw[wC,(cA _).length_eq,wC];exact tT _ _
    have sE:ay (upd H2 D (.lst xs)) (upd (upd H2 D (.lst xs)) D2 (.lst zs)):=aq NX;have Zd:=gZ.keep VG (az.of sE);have Ze:ay H (upd (upd H2 D (.lst xs)) D2 (.lst zs)):=λc u e=>sE _ _ (sD _ _ (s2 _ _ e));have NT:upd (upd H2 D (.lst xs)) D2 (.lst zs) D2=some (.lst zs):=ae;generalize upd (upd H2 D (.lst xs)) D2 (.lst zs)=H4 at Zd Ze NT |-;refine⟨D2,rfl,⟨zs,aW.of NT⟩,?_⟩;refine⟨λi m us σ' H5=>m=zs.length-i/\i<=zs.length/\ay H4 H5/\aF H5 us ((eA (aO p ts)).take i)/\∃o1 o2 o3,σ'=[o1,o2,o3],⟨zs.length,by simp,GH _,ay.refl _,.nil,none,none,none,rfl⟩,?_⟩;rintro i m' us σ' H5 ⟨rfl,hi5,s5,TZ,o1,o2,o3,rfl⟩
    have ul:us.length<=zs.length:=by
     rw[TZ.length];simp;omega
    refine⟨xv (GC ul (GC (Cb zl) (GC tl gl))) (BX h64 (by decide)),?_⟩;have Qq:=s5 _ _ NT
    by_cases Qr:i<zs.length
    ·refine .inr ⟨⟨zs,zs[i],aW.of Qq,by simp[Qr]⟩,λx H6 hx=>?_⟩;obtain⟨rfl,hx⟩:=hx;obtain⟨e,ee,er⟩:=bh Zd (hx zs (aW.of Qq));obtain⟨t0,b,a,rfl,h1,h2,h3⟩:=er.keep (az.of s5)
     have Jz:(eA (aO p ts)).take (i+1)=(eA (aO p ts)).take i++[e]:=by rw[x8,ee];rfl
     refine⟨t0,_,rfl,a7.of h1,rfl,_,_,rfl,_,_,rfl,_,_,rfl,rfl,?_⟩;dsimp only[DX];refine cm ⟨_,rfl,_,rfl,jP,λt' Lo=>?_⟩;have sT:ay H6 (upd H6 t' (.tup [.ref b,.ref a])):=aq Lo;refine⟨zs.length-(i+1),by omega,rfl,Qr,λc u e=>sT _ _ (s5 _ _ e),?_,_,_,_,rfl⟩;rw[Jz];exact xC (aF.keep TZ (az.of sT)) ⟨t',b,a,rfl,ae,sT _ _ h2,sT _ _ h3⟩
    ·have ei5:i=zs.length:=by omega
     subst ei5;refine .inl ⟨⟨zs,aW.of Qq,AY _⟩,λD3 hD3=>?_⟩;rw[zl,yK] at TZ;have sL:ay H5 (upd H5 D3 (.lst us)):=aq hD3;exact q _ D3 _ (λc u e=>sL _ _ (s5 _ _ (Ze _ _ e))) ae (aF.keep TZ (az.of sL))
noncomputable abbrev pf:Stmt:=aQ (aZ 29) 0
noncomputable def Ee (ks:List Int):Prop:=lD (some (ks.map V.int))=true/\ks.length<4000
theorem vt {t b:Int}(n:Num p t b):tR p (some (.int t,.int b))=true:=by
 unfold tR;dsimp only
 by_cases z:p=0
 ·rw[oO z,n.red];have:=n.pos;simp;omega
 ·rw[DW z];obtain⟨h1,h2,h3⟩:=n.pr z;simp[h1,h2,h3]
theorem ah3 {t:Tm}(h:FF H y t)(g:Gn p n t.2)(pd:Ee t.1):oK p H y true:=by
 obtain⟨a,pr,nu,rfl,ha,Jm,Jy⟩:=h
 have e:oK p H (.ref a) (lD (some (t.1.map V.int))&&tR p (some (.int t.2.1,.int t.2.2))):=.two ha (.tup Jm (by rw[wC];exact pd.2) λy hy=>by
  obtain⟨k,_,rfl⟩:=HF.mp hy
  exact⟨_,.int k⟩) (.two Jy (.int _) (.int _))
 rw[pd.1,vt g.1] at e;exact e
theorem AX :∀{ys:List V}{ts:List Tm},aF H ys ts->(∀t∈ts,Gn p n t.2/\Ee t.1)->∀y∈ys,oK p H y true
 |_,_,.nil,_,y,hy=>nomatch hy
 |_,_,.cons h t,g,y,hy=>by
  rcases Ef.mp hy with rfl|hy
  ·exact ah3 h (g _ qG).1 (g _ qG).2
  ·exact AX t (λt ht=>g t (AM _ ht)) y hy
structure Bu (K:Frag)(mg:Fj)(C:Addr):Prop where
 cl:GW K C
 nF:eN K C "its_field"
 nT:eN K C "its_terms"
 mgC:mg "Sum"=some (.ref C)
noncomputable def pX (fl D:Addr):List (Str×V):=[("its_field",.ref fl),("its_terms",.ref D)]
noncomputable def iB (C CF:Addr):Sp:=λvs H Q _=>∃(s dx fl Ja:Addr)(p:Int)(x:V)(ts:List Tm),vs=[.ref s,.ref fl,x]/\H s=some (.ins C dx [])/\H fl=some (.ins CF Ja (eT p))/\FP p /\
 ((x=.non/\ts=[])\/∃l ys,x=.ref l/\H l=some (.lst ys)/\aF H ys ts)/\EK p ts/\(∀t∈ts,Ee t.1) /\
 ∀H' D zs,SameBut s H H'->H D=none->H' s=some (.ins C dx (pX fl D))->H' D=some (.lst zs)->aF H' zs (eA (aO p ts))->Q .non H'
theorem ahg:Ii iN iN (ar pf):=fu (by decide +kernel)
theorem akH {C CF T:Addr}(F:uv K "__init__" "Sum.__init__" pf f fd T)(c:Bu K mg C)
 (q0:Ca P w K mg base 5 mY "gathered" (p5 CF))
 (q1:Ca P w K mg base 5 mY "checked_terms" (nk CF)):
 Ey P w K mg base (bZ P w) 6 f fd iN (iB C CF):=by
 obtain⟨fg,Qa,FG,bG,mG,kG⟩:=q0;obtain⟨fc,fdc,FC,bC,mC,kC⟩:=q1;refine F.okE ahg (λvs H Q E h=>?_) (λIZ A outer s H vs Q E hr h=>?_)
 ·obtain⟨s,dx,fl,Ja,p,x,ts,rfl,_⟩:=h;rfl
 ·obtain⟨s0,dx,fl,Ja,p,x,ts,rfl,hs,hf,hp,hx,G,hP,q⟩:=h;have hG:∀t∈ts,Gn p 4000 t.2/\Ee t.1:=λt ht=>⟨G.num t ht,hP t ht⟩;have NZ:Hz 5 _:=hr.mono (by decide);refine⟨_,ai (oQ (pv 0) (pv 1) rfl) (av (oQ (pv 0) (aA FG NZ (by rfl) mG kG bG .nil af (ao (pv 1) (ao (aA FC NZ (by rfl) mC kC bC .nil af (ao (pv 1) (ao (pv 2) ah rfl) rfl)) ah rfl) rfl)) rfl)),?_⟩;refine⟨_,rfl,_,rfl,s0,C,dx,_,rfl,hs,c.cl,c.nF,by decide,?_⟩
  have Nv:fl≠s0:=λz=>by
   rw[z,hs] at hf
   injection hf with hf
   injection hf with _ _ hf
   cases hf
  have N0:upd H s0 (.ins C dx (dQ "its_field" (.ref fl) [])) fl=some (.ins CF Ja (eT p)):=by rw[au Nv];exact hf
  have kT:az H (upd H s0 (.ins C dx (dQ "its_field" (.ref fl) []))):=az.upd λxs z=>by rw[hs] at z;cases z
  have fin:∀(H2:Hp)(l:Addr)(ys:List V),ay (upd H s0 (.ins C dx (dQ "its_field" (.ref fl) []))) H2->H2 l=some (.lst ys)->aF H2 ys ts->p5 CF [.ref fl,.ref l] H2 (λy H1=>gU 0 [some (.ref s0),some (.ref fl),some x] H1 λx2 H2=>∃a C dx fs,x2=.ref a/\H2 a=some (.ins C dx fs)/\GW K C/\eN K C "its_terms"/\fs.length<1000 /\
   Q .non (upd H2 a (.ins C dx (dQ "its_terms" y fs)))) λ_ _ _=>False:=by
   intro H2 l ys s2 hl ht;refine⟨fl,Ja,l,p,ys,ts,rfl,s2 _ _ N0,hp,hl,ht,G,λH3 D zs s3 h0 hD hz=>?_⟩;have VH:H3 s0=some (.ins C dx (dQ "its_field" (.ref fl) [])):=s3 _ _ (s2 _ _ ae);refine⟨_,rfl,s0,C,dx,_,rfl,VH,c.cl,c.nT,(by show 1<1000;decide),?_⟩
   have nD:D≠s0:=λz=>by rw[z,VH] at hD;cases hD
   refine q _ D zs (λb u e nb=>?_) (none_of (λc u e=>e) (by
    cases e:H D with
    |none=>rfl
    |some u=>rw[s2 D u (by rw[au nD];exact e)] at h0;cases h0)) ae (by rw[au nD];exact hD) (aF.keep hz (az.upd λxs z=>by rw[VH] at z;cases z))
   rw[au nb];exact s3 _ _ (s2 _ _ (by rw[au nb];exact e))
  rcases hx with⟨rfl,rfl⟩|⟨l,ys,rfl,hl,ht⟩
  ·refine⟨_,rfl,_,rfl,_,rfl,fl,Ja,p,.non,rfl,N0,hp,.inl ⟨rfl,λl hl=>?_⟩⟩;exact fin _ l [] (aq hl) ae .nil
  ·have nl:l≠s0:=λz=>by rw[z,hs] at hl;cases hl
   have JS:upd H s0 (.ins C dx (dQ "its_field" (.ref fl) [])) l=some (.lst ys):=by rw[au nl];exact hl
   have K6:=aF.keep ht kT;refine⟨_,rfl,_,rfl,_,rfl,fl,Ja,p,.ref l,rfl,N0,hp,.inr ⟨l,ys,rfl,JS,?_,AX K6 hG,λH2 s2=>?_⟩⟩
   ·rw[ht.length];have:=G.len;omega
   ·exact fin _ l ys s2 (s2 _ _ JS) (aF.keep K6 (az.of s2))
end K08
namespace Mx
open PySem PyProof.Rows
noncomputable def jR:Option Int->List Int->Option Int
 |b,[]=>b
 |none,n::ns=>jR (some n) ns
 |some m,n::ns=>jR (some (if n>m then n else m)) ns
noncomputable def kept (c:Nat):Option (Int×Tok)->Obj
 |none=>{cls:=.type "list",dict:=none,data:=.seq #[] c,slots:=#[]}
 |some (m,t)=>{cls:=.type "list",dict:=none,data:=.seq #[.int m t,.int m t] c,slots:=#[]}
section
variable {prog:A9}{w:World}{A:Around}{E:zQ}{s:qm}{R:Result->Shared->Prop}
theorem ah5 {a b:Int}{t u:Tok}{Q:zQ}(h:Q (.bool (decide (a>b))) s):wpAny (model prog w) A (richCompare .Gt (.int a t) (.int b u)) Q E s :=
 CmpOf.ints_gt (P:=λi v=>∃t,v=.int (if i=0 then a else b) t) (λi=>if i=0 then a else b) (λ{_ _} h=>h) 0 1 _ _ s Q E ⟨t,by simp⟩ ⟨u,by simp⟩ (by simpa using h)
theorem ahy (a v:Value):argsOk "max" ⟨[a],[(Str.ofString "default",v)]⟩:=by unfold argsOk;kernel_rfl
theorem kJ {I l S:Addr}{items:IU}{d:Value}(hh:A.handled=none)(MQ:S≠I)(Qs:S≠l)(OY:l≠I):∀(ns:List Int)(i:Nat)(s:qm)(b:Option (Int×Tok))(c:Nat),
 s.heap.IsListIter I l i->s.heap.IsList l items->IntsAre (items.toList.drop i) ns->s.heap.get? S=some (kept c b) →
 (∀v h' tk,(match jR (b.map (·.1)) ns with|none=>v=d|some m=>∃t,v=.int m t)->(∀x o,x≠I->x≠S->s.heap.get? x=some o->h'.get? x=some o)->R (.ok (.ret v)) {s with heap:=h',toks:=tk}) →
 codeAny (model prog w) A (.builtin "max.loop" ⟨[.ref I,.none,.ref S],[(Str.ofString "default",d)]⟩) R s
 |[],i,s,b,c,hit,hl,hn,hS,hR=>by
  have hx:items[i]?=none:=by
   have e:items.toList.drop i=[]:=by cases hq:items.toList.drop i with
    |nil=>rfl
    |cons x r=>rw[hq] at hn;cases hn
   have:=List.drop_eq_nil_iff.mp e;simp at this |-;omega
  refine IS F.entry_max_loop ?_;rw[wM sS _]
  cases b with
  |none =>
   show wpAny _ A.in1 (seqItems? (.ref S)>>=_) _ _ s;refine IM (mO hS rfl ?_);show wpAny _ A.in1 (tryCatch (pyNext (.ref I)) _>>=_) _ _ s;refine IM (DB (GO hh hit hl hx λh' eb=>?_));refine IM (B9 (IV ?_));exact hR d h' s.toks rfl λx o h1 _ e=>eb x o h1 e
  |some p =>
   obtain⟨m,t⟩:=p;show wpAny _ A.in1 (seqItems? (.ref S)>>=_) _ _ s;refine IM (mO hS rfl ?_);show wpAny _ A.in1 (tryCatch (pyNext (.ref I)) _>>=_) _ _ s;refine IM (DB (GO hh hit hl hx λh' eb=>?_));have MR:=eb S _ MQ hS;show wpAny _ A.in1 (updateSeq S (λ_=>#[])>>=_) _ _ _;refine IM (xt MR rfl (IM (jU (IV ?_))));exact hR _ _ s.toks ⟨t,rfl⟩ λx o h1 h2 e=>(wR _ _ (Hw h2)).trans (eb x o h1 e)
 |n::ns,i,s,b,c,hit,hl,hn,hS,hR=>by
  have Kg:(toString "max"++toString ".loop":String)="max.loop":=by decide
  obtain⟨t,hx,Mw⟩:∃t,items[i]?=some (.int n t)/\IntsAre (items.toList.drop (i+1)) ns:=by
   cases hq:items.toList.drop i with
   |nil=>rw[hq] at hn;cases hn
   |cons x r =>
    rw[hq] at hn
    cases hn with
    |cons _ t hr =>
     refine⟨t,?_,?_⟩
     ·have:(items.toList.drop i)[0]?=some (Value.int n t):=by rw[hq];rfl
      simpa using this
     ·have:items.toList.drop (i+1)=(items.toList.drop i).drop 1:=by rw[List.drop_drop,Nat.add_comm]
      rw[this,hq];exact hr
  refine IS F.entry_max_loop ?_;rw[wM sS _]
  cases b with
  |none =>
   show wpAny _ A.in1 (seqItems? (.ref S)>>=_) _ _ s;refine IM (mO hS rfl ?_);show wpAny _ A.in1 (tryCatch (pyNext (.ref I)) _>>=_) _ _ s;refine IM (DB (y7 hit hl hx λh' Mg sb=>?_));have MR:=(sb.2 S MQ).trans hS;show wpAny _ A.in1 (updateSeq S (λ_=>#[.int n t,.int n t])>>=_) _ _ _;refine IM (xt MR rfl ?_);rw[Kg];refine IV ⟨uM sS _,?_⟩;have up:∀x o,x≠S->h'.get? x=some o->(h'.update S (Obj.mapSeq λ_=>#[.int n t,.int n t])).get? x=some o:=λx o hx e=>(wR _ _ (Hw hx)).trans e;refine kJ hh MQ Qs OY ns (i+1) _ (some (n,t)) _ (Mg.at λo e=>up I o (Hw MQ) e) ((hl.extBut sb.extBut OY).at λo e=>up l o (Hw Qs) e) Mw (mX _ MR rfl) λv h2 tk hv hk=>?_;exact hR v h2 tk hv λx o h1 h3 e=>hk x o h1 h3 (up x o h3 ((sb.2 x h1).trans e))
  |some p =>
   obtain⟨m,u⟩:=p;show wpAny _ A.in1 (seqItems? (.ref S)>>=_) _ _ s;refine IM (mO hS rfl ?_);show wpAny _ A.in1 (tryCatch (pyNext (.ref I)) _>>=_) _ _ s;refine IM (DB (y7 hit hl hx λh' Mg sb=>?_));have MR:=(sb.2 S MQ).trans hS;show wpAny _ A.in1 (tryCatch (holding [.int n t,.int n t] (richCompare .Gt (.int n t) (.int m u)>>=_)) _>>=_) _ _ _;refine IM (DB (CN (IM (ah5 ?_))));refine IM (CN (pP ?_));refine IM (jU (IV ?_))
   by_cases hb:n>m
   ·simp only[IW hb,xm];refine IM (xt MR rfl (IM (jU ?_)));rw[Kg];refine IV ⟨uM sS _,?_⟩;have up:∀x o,x≠S->h'.get? x=some o->(h'.update S (Obj.mapSeq λ_=>#[.int n t,.int n t])).get? x=some o:=λx o hx e=>(wR _ _ (Hw hx)).trans e;refine kJ hh MQ Qs OY ns (i+1) _ (some (n,t)) _ (Mg.at λo e=>up I o (Hw MQ) e) ((hl.extBut sb.extBut OY).at λo e=>up l o (Hw Qs) e) Mw (mX _ MR rfl) λv h2 tk hv hk=>?_;refine hR v h2 tk ?_ λx o h1 h3 e=>hk x o h1 h3 (up x o h3 ((sb.2 x h1).trans e));simpa only[Option.map_some,jR,oO hb] using hv
   ·simp only[HW hb,FU,EG];refine IM (jU ?_);rw[Kg];refine IV ⟨uM sS _,?_⟩;refine kJ hh MQ Qs OY ns (i+1) _ (some (m,u)) c Mg (hl.extBut sb.extBut OY) Mw MR λv h2 tk hv hk=>?_;refine hR v h2 tk ?_ λx o h1 h3 e=>hk x o h1 h3 ((sb.2 x h1).trans e);simpa only[Option.map_some,jR,DW hb] using hv
theorem ajj {id:String}{b:Builtin}{args:wW}{kw:List (Str×Value)}{Q:zQ}(hk:builtinKind id=none)(hp:plainId id=true)(hb:entryFor table id=some b)(ha:argsOk id ⟨args,kw⟩)
 (hc:wpAny (model prog w) A.in1 (b ⟨args,kw⟩) (λfin s'=>match fin with
  | .done f=>(match (Except.ok f:Result) with| .ok (.ret v)=>Q v s'| .ok _=>False| .error e=>E e s')
  | .again c'=>c'.quiet=true/\codeAny (model prog w) A c' (λr s'=>match r with| .ok (.ret v)=>Q v s'| .ok _=>False| .error e=>E e s') s') E s):
 wpAny (model prog w) A (call (.builtin id) args kw) Q E s:=by
 refine sI (xo hp hb ?_);simp only[checkBuiltinCall,hk]
 cases VI:Manifest.signature? id with
 |none=>exact IV hc
 |some Bg =>
  have NM:Bind.checkArgs id Bg ⟨args,kw⟩=pure ():=by simpa only[argsOk,VI] using ha
  simp only[NM];exact IV hc
theorem Fk {l:Addr}{items:IU}{ns:List Int}{d:Value}{Q:zQ}(hh:A.handled=none)(hl:s.heap.IsList l items)(hn:IntsAre items.toList ns)
 (hQ:∀v h' tk,(match jR none ns with|none=>v=d|some m=>∃t,v=.int m t)->(∀x o,s.heap.get? x=some o->h'.get? x=some o)->Q v {s with heap:=h',toks:=tk}):
 wpAny (model prog w) A (call (.builtin "max") [.ref l] [(Str.ofString "default",d)]) Q E s:=by
 have Kg:(toString "max"++toString ".loop":String)="max.loop":=by decide
 refine ajj F.kind_max F.plain_max F.entry_max (ahy _ _) ?_;show wpAny _ A.in1 (Builtin.Builtins.bindParams "max" ["key","default"] 0 ⟨[],[(Str.ofString "default",d)]⟩>>=_) _ _ s;refine IM (Cv (show Builtin.Builtins.bindParams "max" ["key","default"] 0 ⟨[],[(Str.ofString "default",d)]⟩=pure [none,some d] from rfl) ?_);refine IM (IV ?_);refine IM (CD hl ?_);refine IM (IP ?_);rw[Kg]
 have lt:l<s.heap.objs.size:=by obtain⟨o,e,_⟩:=hl;exact EL e
 have sz:(s.heap.push {cls:=.type "list_iterator",data:=.fields #[.ref l,.int 0 0]}).objs.size=s.heap.objs.size+1:=F4 ..;have g2:∀x o,s.heap.get? x=some o->((s.heap.push {cls:=.type "list_iterator",data:=.fields #[.ref l,.int 0 0]}).push {cls:=.type "list",data:=.seq #[]}).get? x=some o:=λx o e=>xQ _ (xQ _ e);refine IV ⟨uM sS _,kJ (items:=items) hh ?_ ?_ (Ho lt) ns 0 _ none 0 ⟨_,xQ _ (HR _ rfl),rfl,rfl⟩ (hl.at λo e=>g2 l o e) (by simpa using hn) (HR _ rfl) λv h' tk hv hk=>?_⟩
 ·show(s.heap.push _).objs.size≠s.heap.objs.size;rw[sz];exact Cu _
 ·show(s.heap.push _).objs.size≠l;rw[sz];exact EB (pS lt)
 ·refine hQ v h' tk hv λx o e=>hk x o (Ho (EL e)) ?_ (g2 x o e);show x≠(s.heap.push _).objs.size;rw[sz];exact Ho (pS (EL e))
end
end Mx
namespace L2
open PySem PySem.Spec PyProof.Rows PySem.W
section
variable {X:Cx}{e d:Expr}{ta td:TE}{p kpos pos:Pos}
noncomputable def Gc (K:Frag)(ta td:TE):TE:=λσ H Q=>c5 ta Ct σ H λvs H1=>c5 td Ct σ H1 λds H2=>∃(l:Addr)(ns:List Int)(dv:V),vs=[.ref l]/\ds=[dv]/\aW K H2 l (ns.map V.int)/\Q (match Mx.jR none ns with|none=>dv|some m=>.int m) H2
theorem ajk (ha:PE X e ta)(hd:PE X d td)(hc:X.calm=true)(hg:Gl X "max")(hm:X.mg "max"=none)(hs:fY e=false:=by rfl):PE X (.Call (.Name "max" p) [e] [⟨some "default",d,kpos⟩] pos) (Gc X.K ta td):=by
 intro pins s σ H Q I h;refine yD (eK I hg hm (by rfl) ?_ (by decide) (by decide));refine callWith_builtin_kwB (by rw[bq hs];rfl) rfl (evalArgs_kw2 rfl ?_ (bq hs));refine bO (ao ha ah hs pos pins s σ H _ I h) λus s1 z'=>?_;obtain⟨vs,H1,I1,r1,h1⟩:=z';refine bO (abj (nm:=some "default") (kpos:=kpos) hd agi pos pins s1 σ H1 _ I1 h1) λws s2 z'=>?_;obtain⟨ds,H2,I2,r2,l,ns,dv,e1,e2,hl,q⟩:=z';subst e1 e2;obtain⟨u,rfl,ru⟩:=eY r1
 cases(show u=Value.ref l from ru)
 obtain⟨w',rfl,JM⟩:=eY r2;obtain⟨its,rv,pl,hz⟩:=I2.list hl;show wpAny _ X.A (call (.builtin "max") [.ref l] [(Str.ofString "default",w')]) _ _ s2;refine Mx.Fk (I.ok.hd hc) pl.isList (by simpa using gK rv) λv h' tk hv hk=>?_;refine⟨_,H2,I2.kept (t':=tk) hk,?_,q⟩
 cases hb:Mx.jR none ns with
 |none=>rw[hb] at hv;cases hv;exact JM
 |some m=>rw[hb] at hv;obtain⟨t,rfl⟩:=hv;exact⟨t,rfl⟩
end
theorem oo:∀(ns:List Int)(m:Int),∃b,Mx.jR (some m) ns=some b/\(b=m\/b∈ns)/\m<=b/\∀a∈ns,a<=b
 |[],m=>⟨m,rfl,.inl rfl,Hr _,λa h=>nomatch h⟩
 |n::ns,m=>by
  obtain⟨b,h1,h2,h3,h4⟩:=oo ns (if n>m then n else m);refine⟨b,h1,?_,?_,λa ha=>?_⟩
  ·rcases h2 with q|q
   ·by_cases z:n>m
    ·rw[oO z] at q;exact .inr (by simp[q])
    ·rw[DW z] at q;exact .inl q
   ·exact .inr (AM _ q)
  ·split at h3 <;> omega
  ·rcases Ef.mp ha with rfl|ha
   ·split at h3 <;> omega
   ·exact h4 a ha
theorem gQ {ns:List Int}(h:ns≠[]):∃b,Mx.jR none ns=some b/\b∈ns/\∀a∈ns,a<=b:=by
 cases ns with
 |nil=>exact absurd rfl h
 |cons n ns =>
  obtain⟨b,h1,h2,h3,h4⟩:=oo ns n;refine⟨b,h1,?_,λa ha=>?_⟩
  ·rcases h2 with q|q
   ·simp[q]
   ·exact AM _ q
  ·rcases Ef.mp ha with rfl|ha
   ·exact h3
   ·exact h4 a ha
end L2
namespace K08
open PySem L2 PySem.W Nm Srt
noncomputable abbrev uN:Stmt:=aQ (aZ 29) 6
noncomputable abbrev ue:Stmt:=aQ (aZ 29) 8
structure BV (C CF:Addr)(H:Hp)(s:Addr)(p:Int)(ts:List Tm):Prop where
 ex:∃dx fl Ja D zs,H s=some (.ins C dx (pX fl D))/\H fl=some (.ins CF Ja (eT p))/\H D=some (.lst zs)/\aF H zs ts
noncomputable def qW (C CF:Addr):Sp:=λvs H Q _=>∃(s dx fl D:Addr)(zs:List V),vs=[.ref s]/\H s=some (.ins C dx (pX fl D))/\H D=some (.lst zs)/\∀l,H l=none->Q (.ref l) (upd H l (.lst zs))
theorem zN:Ii ["self"] ["self"] (ar uN):=fu (by decide +kernel)
variable {P:A9}{w:World}{K:PySem.W.Frag}{mg:Fj}{base:Heap}
variable {f C:Addr}{fd:FD}
theorem xh {CF:Addr}(F:Fe K "terms" "Sum.terms" uN f fd)(c:Bu K mg C)(m_list:mg "list"=none):Ey P w K mg base (bZ P w) 1 f fd ["self"] (qW C CF):=by
 refine F.okN zN (λvs H Q E h=>?_) (λIZ A outer s H vs Q E hr h=>?_)
 ·obtain⟨s,dx,fl,D,zs,rfl,_⟩:=h;rfl
 ·obtain⟨s0,dx,fl,D,zs,rfl,hs,hD,q⟩:=h;refine⟨_,av (aB (cX iS (by rfl) m_list (by rfl) (ao (br (pv 0) rfl) ah rfl))),?_⟩;exact⟨_,rfl,s0,C,dx,_,_,rfl,hs,c.cl,c.nT,rfl,D,zs,rfl,.inl (aW.of hD),λl hl=>q l hl⟩
noncomputable abbrev vh:Stmt:=(aZ 45)
theorem yz:Ii sV sV (ar vh):=fu (by decide +kernel)
theorem w6 (F:Fe K "_law_times" "_law_times" vh f fd)(q0:Ca P w K mg base 2 CK "_law_make" xa):
 Ey P w K mg base (bZ P w) 3 f fd sV (pA ir):=by
 obtain⟨fl,MK,FL,bL,mL,kL⟩:=q0;refine F.okN yz (λvs H Q E h=>?_) (λIZ A outer s H vs Q E hr h=>?_)
 ·obtain⟨p,t1,b1,t2,b2,x1,x2,rfl,_⟩:=h;rfl
 ·obtain⟨p,t1,b1,t2,b2,x1,x2,rfl,hp,h1,h2,B1,B2,B3,B4,n1,n2,hb,q⟩:=h;refine⟨_,av (aB (aA FL hr (by rfl) mL kL bL .nil af (ao (pv 0) (ao (aD dI (aV bx (pv 1) aj (λ_ _=>rfl)) (aV bx (pv 2) aj (λ_ _=>rfl))) (ao (aD dI (aV bx (pv 1) aj (λ_ _=>rfl)) (aV bx (pv 2) aj (λ_ _=>rfl))) ah))))),?_⟩;refine⟨_,rfl,?_⟩;refine⟨_,rfl,x1,_,0,_,rfl,rfl,a7.of h1,a0 _ _,_,rfl,x2,_,0,_,rfl,rfl,a7.of h2,a0 _ _,_,_,rfl,rfl,⟨B1.mono (by decide),B3.mono (by decide)⟩,?_⟩;refine⟨_,rfl,x1,_,1,_,rfl,rfl,a7.of h1,a1 _ _,_,rfl,x2,_,1,_,rfl,rfl,a7.of h2,a1 _ _,_,_,rfl,rfl,⟨B2.mono (by decide),B4.mono (by decide)⟩,?_⟩;exact⟨p,_,_,rfl,hp,oV n1 n2,(B2.mul B4).mono (by decide),(B1.mul B3).mono (by decide),hb,q⟩
noncomputable abbrev AU:Stmt:=(aZ 30)
theorem we (p:Int):EK p []:=⟨by decide,λt h=>(nomatch h),λi hi e he=>by
 have:aO p (([]:List Tm).take i)=[]:=by simp[aO]
 rw[this] at he
 exact(nomatch he),Nat.zero_lt_succ 63⟩
noncomputable def k9 (C CF:Addr)(H0 H:Hp)(s:Addr)(p:Int)(ts:List Tm):Prop:=∃dx fl Ja D zs,H s=some (.ins C dx (pX fl D))/\H fl=some (.ins CF Ja (eT p))/\H D=some (.lst zs)/\aF H zs ts/\H0 D=none
variable {CF:Addr}{H:Hp}
theorem k9.r {H0:Hp}{s:Addr}{p:Int}{ts:List Tm}(h:k9 C CF H0 H s p ts):BV C CF H s p ts:=let⟨dx,fl,Ja,D,zs,h1,h2,h3,h4,_⟩:=h;⟨dx,fl,Ja,D,zs,h1,h2,h3,h4⟩
theorem C0 {H':Hp}{a:Addr}(s:ay H H')(h:H' a=none):H a=none:=by
 cases z:H a with
 |none=>rfl
 |some o=>rw[s _ _ z] at h;cases h
theorem k9.of {H0 H1:Hp}{s:Addr}{p:Int}{ts:List Tm}(h:k9 C CF H1 H s p ts)(k:ay H0 H1):k9 C CF H0 H s p ts:=let⟨dx,fl,Ja,D,zs,h1,h2,h3,h4,h5⟩:=h;⟨dx,fl,Ja,D,zs,h1,h2,h3,h4,C0 k h5⟩
noncomputable def j8 (C CF:Addr):Sp:=λvs H Q _=>∃(fl Ja l:Addr)(p:Int)(ys:List V)(ts:List Tm),vs=[.ref fl,.ref l]/\H fl=some (.ins CF Ja (eT p))/\FP p/\H l=some (.lst ys)/\aF H ys ts/\EK p ts/\∀H' s,ay H H'->k9 C CF H H' s p (tg p ts)->Q (.ref s) H'
theorem u5:Ii ["field","terms","one"] mY (ar AU):=fu (by decide +kernel)
theorem CG:Ii rE rE (ar zj):=fu (by decide +kernel)
theorem zA (F:Fe K "times" "Field.times" zj f fd)(c:xi K mg C)(q0:Cm P w K mg base 3 DZ C "settled" (jy C)):
 Ey P w K mg base (bZ P w) 4 f fd rE (qA C ir):=by
 obtain⟨fs,YR,FS,bS,mS⟩:=q0;refine F.okN CG (λvs H Q E h=>?_) (λIZ A outer s H vs Q E hr h=>?_)
 ·obtain⟨s,dx,a1,a2,p,t1,b1,t2,b2,rfl,_⟩:=h;rfl
 ·obtain⟨s,dx,x1,x2,p,t1,b1,t2,b2,rfl,hs,hp,h1,h2,B1,B2,B3,B4,n1,n2,q⟩:=h;refine⟨_,av (aB (bU (pv 0) c.cl mS FS hr bS .nil af (ao (aD dI (aV bx (pv 1) aj (λ_ _=>rfl)) (aV bx (pv 2) aj (λ_ _=>rfl))) (ao (aD dI (aV bx (pv 1) aj (λ_ _=>rfl)) (aV bx (pv 2) aj (λ_ _=>rfl))) ah)))),?_⟩;refine⟨_,rfl,s,dx,_,rfl,hs,rfl,?_⟩;refine⟨_,rfl,x1,_,0,_,rfl,rfl,a7.of h1,a0 _ _,_,rfl,x2,_,0,_,rfl,rfl,a7.of h2,a0 _ _,_,_,rfl,rfl,⟨B1.mono (by decide),B3.mono (by decide)⟩,?_⟩;refine⟨_,rfl,x1,_,1,_,rfl,rfl,a7.of h1,a1 _ _,_,rfl,x2,_,1,_,rfl,rfl,a7.of h2,a1 _ _,_,_,rfl,rfl,⟨B2.mono (by decide),B4.mono (by decide)⟩,?_⟩;exact⟨s,dx,p,_,_,rfl,hs,hp,(B2.mul B4).mono (by decide),oV n1 n2,q⟩
theorem Aj {fI:Addr}{JT:FD}(F:Fe K "built" "built" AU f fd)(c:Bu K mg C)(M:Mk K C fI)
 (FI:Ey P w K mg base (bZ P w) 6 fI JT iN (iB C CF))(bI:L2.bF K JT iN [Value.none])
 (q0:Ca P w K mg base 5 mY "gathered" (p5 CF)):
 Ey P w K mg base (bZ P w) 8 f fd mY (j8 C CF):=by
 obtain⟨fg,Qa,FG,bG,mG,kG⟩:=q0;refine F.okN u5 (λvs H Q E h=>?_) (λIZ A outer s H vs Q E hr h=>?_)
 ·obtain⟨fl,Ja,l,p,ys,ts,rfl,_⟩:=h;rfl
 ·obtain⟨fl,Ja,l,p,ys,ts,rfl,hf,hp,hl,ht,G,q⟩:=h;have NZ:Hz 5 _:=hr.mono (by decide)
  refine⟨_,ai (@aM _ _ 2 _ _ _ _ u5.nd rfl (Or.inl rfl) (d3 (dvs:=[.non]) M FI hr (by rfl) c.mgC bI (.cons rfl .nil) af (ao (pv 0) ah rfl)) rfl (Or.inl rfl))
   (ai (oQ (pv 2) (aA FG NZ (by rfl) mG kG bG .nil af (ao (pv 0) (ao (pv 1) ah rfl) rfl)) rfl)
   (av (aB (pv 2)))),?_⟩
  refine⟨_,rfl,λx dx hx Mh ne=>?_⟩
  have s0:∀b u,H b=some u->upd (upd H dx (.own x)) x (.ins C dx []) b=some u:=λb u e=>by
   rw[au (ax e hx),au (ax e Mh)];exact e
  refine⟨x,dx,fl,Ja,p,.non,[],rfl,ae,s0 _ _ hf,hp,.inl ⟨rfl,rfl⟩,we p,(λt ht=>nomatch ht),λH1 D0 zs0 sb _ VJ NY U9=>⟨rfl,?_⟩⟩;have s1:ay H H1:=λb u e=>sb _ _ (s0 _ _ e) (ax e hx);refine⟨_,rfl,_,rfl,fl,Ja,l,p,ys,ts,rfl,s1 _ _ hf,hp,s1 _ _ hl,aF.keep ht (az.of s1),G,λH2 D zs s2 nD0 hD hz=>?_⟩;have OM:=s2 _ _ VJ;refine⟨_,rfl,x,C,dx,_,rfl,OM,c.cl,c.nT,(by show 2<1000;decide),?_⟩
  have nD:D≠x:=λz=>by rw[z,OM] at hD;cases hD
  have s3:ay H (upd H2 x (.ins C dx (dQ "its_terms" (.ref D) (dQ "its_terms" (.ref D0) (dQ "its_field" (.ref fl) []))))):=λb u e=>by
   rw[au (ax e hx)];exact s2 _ _ (s1 _ _ e)
  exact⟨_,rfl,q _ x s3 ⟨dx,fl,Ja,D,zs,ae,s3 _ _ hf,by rw[au nD];exact hD,aF.keep hz (az.upd λxs z=>by rw[OM] at z;cases z),C0 s1 nD0⟩⟩
end K08
namespace L2
open PySem PySem.Spec PyProof.Rows
section
variable {prog:A9}{w:World}{A:Around}{E:zQ}{s:qm}
theorem y8 {t b:Addr}{ws:wW}{Q:zQ}(ht:IsTup s.heap t #[])(hb:IsTup s.heap b ws.toArray)(h:Q (.ref b) s):wpAny (model prog w) A (binaryOp .Add (.ref t) (.ref b)) Q E s:=by
 obtain⟨⟨cls,dd,data,sl⟩,ho,hc,n,hd⟩:=id ht;obtain⟨⟨PD,My,data2,K8⟩,KU,KH,n2,hd2⟩:=id hb;simp only at hc hd KH hd2;subst hc hd KH hd2
 exact concat_meets ⟨_,ho,rfl⟩ ⟨_,KU,rfl⟩ wL seq_tuple_add HU DL (sh _ _)
  (tuple_addW0 t b #[] ws.toArray n n2 dd My sl K8 (by rfl)) ⟨ho,KU,h⟩
end
section
variable {X:Cx}
noncomputable def Dr (K:PySem.W.Frag):R2:=λx y H Q=>∃a b xs ys,x=.ref a/\y=.ref b/\a7 K H a xs/\a7 K H b ys/\xs.length+ys.length<=sizeLine /\
 (xs=[]->Q (.ref b) H)/\(xs≠[]->ys=[]->Q (.ref a) H)/\(xs≠[]->ys≠[]->∀p,H p=none->Q (.ref p) (upd H p (.tup (xs++ys))))
theorem CJ:gH X (binaryOp .Add) (Dr X.K):=by
 intro pins s σ H x y v u Q I rx ry h;obtain⟨a,b,xs,ys,rfl,rfl,ha,hb,hz,q0,q1,q2⟩:=h
 by_cases hx:xs=[]
 ·cases rx
  cases ry
  obtain⟨its,r1,p1,_⟩:=I.tuple ha;obtain⟨Jc,r2,p2,_⟩:=I.tuple hb;have:its=[]:=r1.agW.mpr hx;subst this;exact y8 p1 p2 ⟨.ref b,H,I,rfl,q0 hx⟩
 ·exact uO pins s σ H _ _ v u Q I rx ry ⟨a,b,xs,ys,rfl,rfl,ha,hb,hx,hz,q1 hx,q2 hx⟩
end
end L2
namespace K08
open PySem L2 PySem.W Nm Srt
noncomputable abbrev Iy:Stmt:=(aZ 51)
noncomputable def Ga (t:Tm):Prop:=t.1.Pairwise (· < ·)/\t.1.length<32
noncomputable def Ab:Sp:=λvs H Q _=>∃(p:Int)(la lb:Addr)(ys us:List V)(a b:List Tm),vs=[.int p,.ref la,.ref lb]/\FP p/\H la=some (.lst ys)/\aF H ys a/\H lb=some (.lst us)/\aF H us b/\a.length*b.length<4000 /\
 (∀t∈a,Gn p 4000 t.2/\Ga t)/\(∀t∈b,Gn p 4000 t.2/\Ga t)/\EK p (di p a b)/\∀H' D zs,ay H H'->H' D=some (.lst zs)->aF H' zs (tg p (di p a b))->Q (.ref D) H'
theorem uw:Ii ["_law_prime_here","_law_one","_law_other","_law_found","_law_product_here","_law_number_here","_law_more","_law_factor","_law_both"] sV (ar Iy):=fu (by decide +kernel)
theorem Cn {K:Frag}{a b:Addr}{xs ys:List V}{H:Hp}{Q:VK}(ha:H a=some (.tup xs))(hb:H b=some (.tup ys))(hz:xs.length+ys.length<=sizeLine)(q:∀l H',ay H H'->H' l=some (.tup (xs++ys))->Q (.ref l) H'):Dr K (.ref a) (.ref b) H Q :=
 ⟨a,b,xs,ys,rfl,rfl,a7.of ha,a7.of hb,hz,λh=>q b H (ay.refl _) (by rw[hb,h];rfl),λ_ h=>q a H (ay.refl _) (by rw[ha,h,F2]),λ_ _ l hl=>q l _ (aq hl) ae⟩
theorem nK (p:Int)(a b:List Tm)(x:Tm):di p (a++[x]) b=di p a b++b.map λy=>(gm (x.1++y.1),cO p x.2 y.2):=by simp[di]
theorem lK (p:Int)(a b:List Tm):(di p a b).length=a.length*b.length:=by
 unfold di;rw[List.length_flatMap];simp only[wC];rw[List.map_const',List.sum_replicate_nat]
variable {P:A9}{w:World}{K:PySem.W.Frag}{mg:Fj}{base:Heap}
set_option maxHeartbeats 1000000 in
theorem AL {f:Addr}{fd:FD}(F:Fe K "_law_mult" "_law_mult" Iy f fd)(m_tuple:mg "tuple"=none)(Je:mg "sorted"=none)(JX:mg "set"=none)
 (q0:Ca P w K mg base 3 sV "_law_times" (pA ir))
 (q1:Ca P w K mg base 4 B0 "_law_gather" A8):
 Ey P w K mg base (bZ P w) 5 f fd sV Ab:=by
 obtain⟨fm,T2,FM,bM,mM,kM⟩:=q0;obtain⟨fg,Qa,FG,bG,mG,kG⟩:=q1;refine F.okN uw (λvs H Q E h=>?_) (λIZ A outer s H vs Q E hr h=>?_)
 ·obtain⟨p,la,lb,ys,us,a,b,rfl,_⟩:=h;rfl
 ·obtain⟨p,la,lb,ys,us,a,b,rfl,hp,Zf,Qt,Zg,P7,MJ,ga,gb,G,q⟩:=h;have Ke:Hz 4 _:=hr;have J9:Hz 3 _:=Ke.mono (by decide)
  refine⟨_,(ai (@aM _ _ 3 _ _ _ _ uw.nd rfl (Or.inl rfl) (cq ah) rfl (Or.inl rfl))
   (ai (dD uy rfl (cb (pv 1)) (cC rfl (aG (aC (i:=4) uw.nd rfl (Or.inl rfl)) (aG (aC (i:=5) uw.nd rfl (Or.inl rfl)) cj)))
   (av (dD uy rfl (cb (pv 2)) (cC rfl (aG (aC (i:=6) uw.nd rfl (Or.inl rfl)) (aG (aC (i:=7) uw.nd rfl (Or.inl rfl)) cj)))
   (ai (@aM _ _ 8 _ _ _ _ uw.nd rfl (Or.inl rfl) (cX dF (by rfl) m_tuple (by rfl) (ao (ka rfl (aD CJ (pv 4) (pv 6)) rfl (by rfl) Je (by rfl) JX) ah rfl)) rfl (Or.inl rfl))
   (av (jV (rR wy PySem.F.slot_list_append PySem.F.type_list_append ou (pv 3) (ao (bw (ao (pv 8) (ao (aA FM J9 (by rfl) mM kM bM .nil af (ao (pv 0) (ao (pv 5) (ao (pv 7) ah rfl) rfl) rfl)) ah rfl) rfl)) ah rfl))))))))
   (av (aB (aA FG Ke (by rfl) mG kG bG .nil af (ao (pv 0) (ao (pv 3) ah rfl) rfl)))))),?_⟩
  refine⟨GH _,λL hL=>?_⟩;have s1:=aq (o:=.lst []) hL;have e1:upd H L (.lst []) L=some (.lst []):=ae;generalize upd H L _=H1 at s1 e1 |-;have za:=Qt.length;have zb:=P7.length;refine⟨_,rfl,la,rfl,⟨_,aW.of (s1 _ _ Zf)⟩,?_⟩;refine fM (K:=K) (a:=la) (xs:=ys) (λi σ H'=>ay H H'/\(∃ws,H' L=some (.lst ws)/\aF H' ws (di p (a.take i) b))/\∃o4 o5 o6 o7 o8,σ=[some (.int p),some (.ref la),some (.ref lb),some (.ref L),o4,o5,o6,o7,o8]) ⟨s1,⟨[],e1,.nil⟩,_,_,_,_,_,rfl⟩ (λj σ H' _ h=>aW.of (h.1 _ _ Zf)) ?_ ?_
  ·rintro i y σ H2 hy ⟨s2,⟨ws,eL,hw⟩,o4,o5,o6,o7,o8,rfl⟩;obtain⟨x,ex,at_,pr,nu,rfl,JR,Jm,Jy⟩:=bh Qt hy;have gx:=ga x (HL ex);have hi:i<a.length:=(Im.mp ex).1
   have Jz:a.take (i+1)=a.take i++[x]:=by rw[x8,ex];rfl
   refine⟨at_,_,rfl,a7.of (s2 _ _ JR),rfl,_,_,rfl,_,_,rfl,rfl,?_⟩;refine⟨_,rfl,lb,rfl,⟨_,aW.of (s2 _ _ Zg)⟩,?_⟩;refine fM (K:=K) (a:=lb) (xs:=us) (λj σ H'=>ay H H'/\(∃ws,H' L=some (.lst ws)/\aF H' ws (di p (a.take i) b++(b.take j).map λy=>(gm (x.1++y.1),cO p x.2 y.2)))/\∃o6 o7 o8,σ=[some (.int p),some (.ref la),some (.ref lb),some (.ref L),some (.ref pr),some (.ref nu),o6,o7,o8]) ⟨s2,⟨ws,eL,by simpa using hw⟩,_,_,_,rfl⟩ (λj σ H' _ h=>aW.of (h.1 _ _ Zg)) ?_ ?_
   ·rintro j y σ H3 hy ⟨s3,⟨ws,eL,hw⟩,o6,o7,o8,rfl⟩;obtain⟨z,ez,at2,N1,T3,rfl,N2,N3,N4⟩:=bh P7 hy;have gz:=gb z (HL ez);have hj:j<b.length:=(Im.mp ez).1
    have N5:b.take (j+1)=b.take j++[z]:=by rw[x8,ez];rfl
    refine⟨at2,_,rfl,a7.of (s3 _ _ N2),rfl,_,_,rfl,_,_,rfl,rfl,?_⟩
    have JS:(x.1.map V.int).length+(z.1.map V.int).length<64:=by
     rw[wC,wC];have:=gx.2.2;have:=gz.2.2;omega
    refine⟨_,rfl,_,rfl,Cn (s3 _ _ Jm) (s3 _ _ N3) (GC (HE JS) (by decide)) λl H4 s4 el=>?_⟩;refine⟨l,x.1++z.1,rfl,.inr (a7.of (by rw[el,zJ])),(by rw[Af];simpa using JS),λD ms hD pw mem=>?_⟩;have em:ms=gm (x.1++z.1):=jc pw mem;subst em;refine⟨D,_,rfl,.inl ⟨aW.of ae,λtu KN=>?_⟩⟩;have s5:=(aq (o:=.lst ((gm (x.1++z.1)).map V.int)) hD).trans (aq (o:=.tup ((gm (x.1++z.1)).map V.int)) KN);have e5:upd (upd H4 D (.lst ((gm (x.1++z.1)).map V.int))) tu (.tup ((gm (x.1++z.1)).map V.int)) tu=some (.tup ((gm (x.1++z.1)).map V.int)):=ae;generalize upd (upd H4 D (.lst ((gm (x.1++z.1)).map V.int))) tu (.tup ((gm (x.1++z.1)).map V.int))=H5 at s5 e5 |-;have Qu:=s4.trans s5;have VL:=s3.trans Qu;have Zh:=Qu _ _ eL;clear hD KN;refine⟨_,rfl,.inl ⟨rfl,_,aW.of Zh⟩,_,rfl,_,rfl,_,rfl,_,rfl,p,x.2.1,x.2.2,z.2.1,z.2.2,nu,T3,rfl,hp,VL _ _ Jy,VL _ _ N4,gx.1.2.1,gx.1.2.2,gz.1.2.1,gz.1.2.2,gx.1.ne,gz.1.ne,(λw=>by rw[(gx.1.1.pr w).1,(gz.1.1.pr w).1];rfl),λH6 an s6 e6=>?_⟩;refine⟨jP,λtt Vu=>?_⟩;have s7:=aq (o:=.tup [.ref tu,.ref an]) Vu;have e7:upd H6 tt (.tup [.ref tu,.ref an]) tt=some (.tup [.ref tu,.ref an]):=ae;generalize upd H6 tt _=H7 at s7 e7 |-;have T5:=s6.trans s7;have OZ:=T5 _ _ Zh
    have wl:ws.length<4000:=by
     rw[hw.length,Af,lK,wC,EM,EM]
     have h1:min i a.length=i:=by omega
     have h2:min j b.length=j:=by omega
     rw[h1,h2];have h3:(i+1)*b.length<=a.length*b.length:=EU _ (by omega);rw[Nat.succ_mul] at h3;omega
    refine⟨L,ws,.ref tt,rfl,rfl,OZ,HG wl (by decide),?_⟩
    have kL:az H7 (upd H7 L (.lst (ws++[.ref tt]))):=az.upd λxs w=>by rw[OZ] at w;cases w
    have k37:az H3 H7:=az.of (Qu.trans T5);refine⟨λc u e=>?_,⟨_,ae,?_⟩,_,_,_,rfl⟩
    ·rw[au (ax e hL)];exact T5 _ _ (VL _ _ e)
    ·rw[N5,zJ,<-uD];exact xC (aF.keep hw (k37.trans kL)) ⟨tt,tu,an,rfl,kL _ _ e7,kL _ _ (T5 _ _ e5),kL _ _ (s7 _ _ e6)⟩
   ·rintro σ H3 ⟨s3,⟨ws,eL,hw⟩,o6,o7,o8,rfl⟩;refine⟨s3,⟨ws,eL,?_⟩,_,_,_,_,_,rfl⟩;rw[Jz,nK];rw[zb,yK] at hw;exact hw
  ·rintro σ H2 ⟨s2,⟨ws,eL,hw⟩,o4,o5,o6,o7,o8,rfl⟩;rw[za,yK] at hw;exact⟨_,rfl,_,rfl,L,p,ws,_,rfl,hp,eL,hw,G,λH' D zs s3 hD hz=>q H' D zs (s2.trans s3) hD hz⟩
end K08
namespace L2
open PySem
variable {H:Hp}
theorem rD {σ:St}{A B:Hp->Prop}(h:A H):DX σ H λb H4=>if b=true then A H4 else B H4:=h
variable {tt:TT}{te:TE}
theorem qt {J:It}{n:Nat}{at_:Nat->V->Prop}{rest:St}{F:List V->Hp->Prop}(Pv:Nat->List V->Hp->Prop)(h0:Pv 0 [] H)
 (hz:∀i ys H',i<=n->Pv i ys H'->ys.length<sizeLine/\(i<n->J.go i H')/\(i=n->J.stop i H')/\∀x H2,J.yld i H' x H2->H2=H'/\at_ i x)
 (hs:∀i x ys H' (N:List V->Hp->Prop),i<n->at_ i x->Pv i ys H'->(∀zs H5,Pv (i+1) zs H5->N zs H5) →
  tt (some x::rest) H' λb H4=>if b=true then te (some x::rest) H4 λy H5=>N (ys++[y]) H5 else N ys H4)
 (hd:∀ys H',Pv n ys H'->F ys H'):
 ∃W:Nat->Nat->List V->St->Hp->Prop,(∃m,W 0 m [] (none::rest) H)/\kg J (bJ 0) tt te W F:=by
 refine⟨λi m ys σ H'=>m=n-i/\i<=n/\Pv i ys H'/\∃o,σ=o::rest,⟨n,by simp,GH _,h0,none,rfl⟩,?_⟩;rintro i m ys σ H' ⟨rfl,hi,p,o,rfl⟩;obtain⟨z1,z2,z3,z4⟩:=hz i ys H' hi p;refine⟨z1,?_⟩
 by_cases Jb:i<n
 ·refine .inr ⟨z2 Jb,λx H2 hy=>?_⟩;obtain⟨rfl,hx⟩:=z4 x H2 hy;exact hs i x ys H2 (λzs H5=>∃m',m'<n-i/\m'=n-(i+1)/\i+1<=n/\Pv (i+1) zs H5/\∃o',(some x::rest:St)=o'::rest) Jb hx p λzs H5 h=>⟨n-(i+1),by omega,rfl,Jb,h,_,rfl⟩
 ·have:i=n:=by omega
  subst this;exact .inl ⟨z3 rfl,hd ys H' p⟩
theorem lV {K:PySem.W.Frag}{a:Addr}{xs:List V}{rest:St}{F:List V->Hp->Prop}(Pv:Nat->List V->Hp->Prop)(h0:Pv 0 [] H)
 (hz:∀i ys H',i<=xs.length->Pv i ys H'->ys.length<sizeLine/\aW K H' a xs)
 (hs:∀i x ys H' (N:List V->Hp->Prop),i<xs.length->xs[i]?=some x->Pv i ys H'->(∀zs H5,Pv (i+1) zs H5->N zs H5) →
  tt (some x::rest) H' λb H4=>if b=true then te (some x::rest) H4 λy H5=>N (ys++[y]) H5 else N ys H4)
 (hd:∀ys H',Pv xs.length ys H'->F ys H'):
 ∃W:Nat->Nat->List V->St->Hp->Prop,(∃m,W 0 m [] (none::rest) H)/\kg (BQ K a) (bJ 0) tt te W F:=by
 refine qt (n:=xs.length) (at_:=λi x=>xs[i]?=some x) Pv h0 (λi ys H' hi p=>?_) hs hd;obtain⟨z1,z2⟩:=hz i ys H' hi p;exact⟨z1,λh=>⟨xs,xs[i],z2,by simp[h]⟩,λh=>⟨xs,z2,by omega⟩,λx H2 hy=>⟨hy.1,hy.2 xs z2⟩⟩
theorem rZ {lo:Int}{n:Nat}{rest:St}{F:List V->Hp->Prop}(Pv:Nat->List V->Hp->Prop)(h0:Pv 0 [] H)
 (hz:∀i ys H',i<=n->Pv i ys H'->ys.length<sizeLine)
 (hs:∀i ys H' (N:List V->Hp->Prop),i<n->Pv i ys H'->(∀zs H5,Pv (i+1) zs H5->N zs H5) →
  tt (some (.int (lo+i)):: rest) H' λb H4=>if b=true then te (some (.int (lo+i)):: rest) H4 λy H5=>N (ys++[y]) H5 else N ys H4)
 (hd:∀ys H',Pv n ys H'->F ys H'):
 ∃W:Nat->Nat->List V->St->Hp->Prop,(∃m,W 0 m [] (none::rest) H)/\kg (Fb lo n) (bJ 0) tt te W F:=by
 refine qt (n:=n) (at_:=λi x=>x=.int (lo+i)) Pv h0 (λi ys H' hi p=>?_) (λi x ys H' N h1 h2=>by subst h2;exact hs i ys H' N h1) hd;exact⟨hz i ys H' hi p,λh=>h,λh=>by show n<=i;omega,λx H2 hy=>hy⟩
theorem ni {K:PySem.W.Frag}{a:Addr}{xs:List V}{rest:St}{F:List V->Hp->Prop}(Pv:Nat->List V->Hp->Prop)(h0:Pv 0 [] H)
 (hz:∀i ys H',i<=xs.length->Pv i ys H'->ys.length<sizeLine/\aW K H' a xs)
 (hs:∀i x ys H',i<xs.length->xs[i]?=some x->Pv i ys H' →
  ∃b u v,x=.ref b/\a7 K H' b [u,v]/\∀(N:List V->Hp->Prop),(∀zs H5,Pv (i+1) zs H5->N zs H5)->tt (some u::some v::rest) H' λb H4=>if b=true then te (some u::some v::rest) H4 λy H5=>N (ys++[y]) H5 else N ys H4)
 (hd:∀ys H',Pv xs.length ys H'->F ys H'):
 ∃W:Nat->Nat->List V->St->Hp->Prop,(∃m,W 0 m [] (none::none::rest) H)/\kg (BQ K a) (jm K 2 (cp (bJ 0) (cp (bJ 1) EE))) tt te W F:=by
 refine⟨λi m ys σ H'=>m=xs.length-i/\i<=xs.length/\Pv i ys H'/\∃o o2,σ=o::o2::rest,⟨xs.length,by simp,GH _,h0,none,none,rfl⟩,?_⟩;rintro i m ys σ H' ⟨rfl,hi,p,o,o2,rfl⟩;obtain⟨z1,z2⟩:=hz i ys H' hi p;refine⟨z1,?_⟩
 by_cases Jb:i<xs.length
 ·refine .inr ⟨⟨xs,xs[i],z2,by simp[Jb]⟩,λx H2 hy=>?_⟩;obtain⟨rfl,hx⟩:=hy;obtain⟨b,u,v,rfl,hb,h⟩:=hs i x ys H2 Jb (hx xs z2) p;exact⟨_,[u,v],rfl,hb,rfl,_,_,rfl,_,_,rfl,rfl,h (λzs H5=>∃m',m'<xs.length-i/\m'=xs.length-(i+1)/\i+1<=xs.length/\Pv (i+1) zs H5/\∃o o2,(some u::some v::rest:St)=o::o2::rest) λzs H5 h=>⟨xs.length-(i+1),by omega,rfl,Jb,h,_,_,rfl⟩⟩
 ·have:i=xs.length:=by omega
  subst this;exact .inl ⟨⟨xs,z2,AY _⟩,hd ys H' p⟩
end L2
namespace K08
open PySem L2 PySem.W Nm Srt
noncomputable abbrev tU:Stmt:=(aZ 48)
theorem v3:∀{ks:List Int},ks.Pairwise (· < ·)->jE (ks.map V.int)=true
 |[],_=>rfl
 |[k],_=>rfl
 |a::b::ks,h=>by
  obtain⟨h1,h2⟩:=BJ.mp h;have ih:=v3 h2;unfold jE at ih |-;have e:((a::b::ks).map V.int).zip (((a::b::ks).map V.int).drop 1)=(V.int a,V.int b):: (((b::ks).map V.int).zip (((b::ks).map V.int).drop 1)):=rfl;rw[e,wH,ih,Bool.and_true];exact IW (h1 b qG)
theorem uE {ks:List Int}(h:ks.Pairwise (· < ·))(hb:∀k∈ks,0<=k/\k<60)(hl:ks.length<4000):Ee ks:=by
 refine⟨?_,hl⟩;show((ks.map V.int).all cL&&jE (ks.map V.int))=true;rw[v3 h,Bool.and_true,CL,yV];intro k hk;obtain⟨h0,h1⟩:=hb k hk;show(decide (0<=k)&&decide (k<60))=true;rw[IW h0,IW h1];rfl
noncomputable def B5:Sp:=λvs H Q _=>∃(r:Addr)(many share:Int),vs=[.ref r,.int many,.int share]/\aR H r/\0<=many/\many<=60/\0<share/\share<1000 /\
 ∀(a:Addr)(ks:List Int)(H':Hp),ks.Pairwise (· < ·)->(∀k∈ks,0<=k/\k<many)->ks.length<=60->H' a=some (.tup (ks.map V.int))->aR H' r->SameBut r H H'->Q (.ref a) H'
theorem Bk:Ii Fs Fs (ar tU):=fu (by decide +kernel)
variable {P:A9}{w:World}{K:PySem.W.Frag}{mg:Fj}{base:Heap}
variable {f:Addr}{fd:FD}
theorem zi (F:Fe K "_law_product" "_law_product" tU f fd)(m_tuple:mg "tuple"=none)(m_range:mg "range"=none)
 (q0:Ca P w K mg base 1 jN "_law_take" E1):
 Ey P w K mg base (bZ P w) 2 f fd Fs B5:=by
 obtain⟨ft,NJ,FT,bT,mT,kT⟩:=q0;refine F.okN Bk (λvs H Q E h=>?_) (λIZ A outer s H vs Q E hr h=>?_)
 ·obtain⟨r,many,share,rfl,_⟩:=h;rfl
 ·obtain⟨r,many,share,rfl,hR,m0,m1,s0,s1,q⟩:=h;have Jr:Hz 1 _:=hr.mono (by decide)
  refine⟨_,(av (aB (cX dF (by rfl) m_tuple (by rfl) (ao (dG (N:=["_law_place","_law_room_here","_law_share"]) (nl:=1) (js:=[0,2]) (osc:=ar tU) ⟨rfl,rfl,by decide +kernel,by decide +kernel,by decide +kernel,rfl,(.cons ⟨rfl,by decide +kernel⟩ (.cons ⟨rfl,by decide +kernel⟩ .nil)),by decide +kernel⟩ rfl
   (fL (by rfl) m_range (ao (pv 1) ah rfl))
   (λC fp s H=>aC (i:=0) (by show(["_law_place","_law_room_here","_law_share"]:DV).Nodup;decide +kernel) rfl (Or.inl rfl) (Or.inr rfl))
   (λC fp s H=>(iK (aK eQ (aA FT Jr (by rfl) mT kT bT .nil af (ao (pv 1) (ao (pv 2) ah rfl) rfl)) aj (aJ _))))
   (λC fp s H=>(pv 0))) ah rfl)))),?_⟩
  refine⟨_,rfl,many,rfl,by omega,by omega,?_⟩
  refine⟨λi m xs σ' H'=>m=many.toNat-i/\i<=many.toNat/\(∃ks:List Int,xs=ks.map V.int/\ks.Pairwise (· < ·)/\(∀k∈ks,0<=k/\k<(i:Int))/\ks.length<=i)/\aR H' r/\SameBut r H H'/\∃o,σ'=[o,some (.ref r),some (.int share)],
   ⟨many.toNat,by simp,GH _,⟨[],rfl,.nil,λk h=>(nomatch h),AY _⟩,hR,λ_ _ e _=>e,none,rfl⟩,?_⟩
  rintro i m xs σ' H' ⟨rfl,hi,⟨ks,rfl,MS,O0,VM⟩,⟨l,x,JO,x0,x1⟩,sb,o,rfl⟩;refine⟨by rw[wC];exact xv (GC VM (show i<=60 by omega)) (by decide),?_⟩
  by_cases Jb:i<many.toNat
  ·refine .inr ⟨Jb,λy H2 hy=>?_⟩;obtain⟨rfl,rfl⟩:=hy;refine⟨_,rfl,_,rfl,r,l,x,share,rfl,JO,x0,x1,s0,by omega,λz l2 r2 z0 z1 g0 g1=>?_⟩;have TR:SameBut r H (upd H2 r (.lst [.int l2,.int r2])):=sb.trans SameBut.upd;have R2:aR (upd H2 r (.lst [.int l2,.int r2])) r:=⟨l2,r2,ae,g0,g1⟩;refine⟨rfl,_,rfl,?_⟩;refine cT (λh=>?_) (λh=>?_)
   ·refine⟨_,rfl,many.toNat-(i+1),by omega,rfl,Jb,⟨ks++[0+(i:Int)],by simp,?_,?_,by simp;omega⟩,R2,TR,_,rfl⟩
    ·refine List.pairwise_append.mpr ⟨MS,List.pairwise_singleton _ _,λa ha b hb=>?_⟩
     have:b=0+(i:Int):=by simpa using hb
     have:=(O0 a ha).2;omega
    ·intro k hk
     rcases HB.mp hk with hk|hk
     ·have:=O0 k hk;omega
     ·have:k=0+(i:Int):=by simpa using hk
      omega
   ·exact⟨many.toNat-(i+1),by omega,rfl,Jb,⟨ks,rfl,MS,λk hk=>by have:=O0 k hk;omega,by omega⟩,R2,TR,_,rfl⟩
  ·have ei:i=many.toNat:=by omega
   refine .inl ⟨by show many.toNat<=i;omega,λD hD=>?_⟩;refine⟨D,_,rfl,.inl ⟨aW.of ae,λa ha=>?_⟩⟩;have nD:r≠D:=ax JO hD;have na:r≠a:=ax (show upd H' D (.lst (ks.map V.int)) r=some (.lst [.int l,.int x]) by rw[au nD];exact JO) ha;refine q a ks _ MS (λk hk=>by have:=O0 k hk;omega) (by omega) ae ⟨l,x,by rw[au na,au nD];exact JO,x0,x1⟩ λb u e nb=>?_;have e1:=sb b u e nb
   have e2:upd H' D (.lst (ks.map V.int)) b=some u:=by rw[au (ax e1 hD)];exact e1
   rw[au (ax e2 ha)];exact e2
noncomputable abbrev u6:Stmt:=(aZ 49)
noncomputable def Be (p many:Int)(t:Tm):Prop:=Gn p 45 t.2/\t.1.Pairwise (· < ·)/\(∀k∈t.1,0<=k/\k<many)/\t.1.length<=60
noncomputable def E9:Sp:=λvs H Q _=>∃(r:Addr)(p many most:Int),vs=[.ref r,.int p,.int many,.int most]/\aR H r/\FP p/\0<=many/\many<=60/\0<=most/\most<=40 /\
 ∀(D:Addr)(ys:List V)(ts:List Tm)(H':Hp),H' D=some (.lst ys)->aF H' ys ts->(ts.length:Int)<=most->(∀t∈ts,Be p many t)->aR H' r->SameBut r H H'->Q (.ref D) H'
variable {H:Hp}
theorem aR.agK {H':Hp}{r:Addr}(h:aR H r)(s:SameBut r H H'):az H H':=λb xs e=>s b _ e λz=>by
 obtain⟨l,x,e',_⟩:=h;rw[z,e'] at e
 cases e
theorem ix:Ii ["_law_room_here","_law_prime_here","_law_many","_law_most","_law_found","_law_k","_law_product_here"] A6 (ar u6):=fu (by decide +kernel)
theorem wx (F:Fe K "_law_terms" "_law_terms" u6 f fd)(m_range:mg "range"=none)
 (q0:Ca P w K mg base 1 jN "_law_take" E1)
 (q1:Ca P w K mg base 2 Fs "_law_product" B5)
 (q2:Ca P w K mg base 2 Bb "_law_number" Ax):
 Ey P w K mg base (bZ P w) 3 f fd A6 E9:=by
 obtain⟨ft,NJ,FT,bT,mT,kT⟩:=q0;obtain⟨fp,TM,FP,bP,mP,kP⟩:=q1;obtain⟨fn,fdn,FN,bN,mN,kN⟩:=q2;refine F.okN ix (λvs H Q E h=>?_) (λIZ A outer s H vs Q E hr h=>?_)
 ·obtain⟨r,p,many,most,rfl,_⟩:=h;rfl
 ·obtain⟨r,p,many,most,rfl,hR,hp,m0,m1,n0,n1,q⟩:=h;have Kq:Hz 2 _:=hr.mono (by decide);have Jr:Hz 1 _:=hr.mono (by decide)
  refine⟨_,(ai (@aM _ _ 4 _ _ _ _ ix.nd rfl (Or.inl rfl) (cq ah) rfl (Or.inl rfl))
   (ai (dD uy rfl (fL (by rfl) m_range (ao (aA FT Jr (by rfl) mT kT bT .nil af (ao (pv 0) (ao (aD cJ (pv 3) aj) ah rfl) rfl)) ah rfl)) (aC (i:=5) ix.nd rfl (Or.inl rfl))
   (ai (@aM _ _ 6 _ _ _ _ ix.nd rfl (Or.inl rfl) (aA FP Kq (by rfl) mP kP bP .nil af (ao (pv 0) (ao (pv 2) (ao (aD cJ aj (aA FT Jr (by rfl) mT kT bT .nil af (ao (pv 0) (ao aj ah rfl) rfl))) ah rfl) rfl) rfl)) rfl (Or.inl rfl))
   (av (jV (rR wy PySem.F.slot_list_append PySem.F.type_list_append ou (pv 4) (ao (bw (ao (pv 6) (ao (aA FN Kq (by rfl) mN kN bN .nil af (ao (pv 0) (ao (pv 1) ah rfl) rfl)) ah rfl) rfl)) ah rfl))))))
   (av (aB (pv 4))))),?_⟩
  refine⟨GH _,λD hD=>?_⟩;obtain⟨l0,x0,Zi,a0,a1⟩:=hR;have O1:r≠D:=ax Zi hD
  have hR1:upd H D (.lst []) r=some (.lst [.int l0,.int x0]):=by rw[au O1];exact Zi
  refine⟨_,rfl,_,rfl,_,_,rfl,rfl,r,l0,x0,most+1,rfl,hR1,a0,a1,by omega,by omega,λz l1 x1 z0 z1 b0 b1=>?_⟩
  have MO:SameBut r H (upd (upd H D (.lst [])) r (.lst [.int l1,.int x1])):=λb u e nb=>by rw[au nb,au (ax e hD)];exact e
  have R1:aR (upd (upd H D (.lst [])) r (.lst [.int l1,.int x1])) r:=⟨l1,x1,ae,b0,b1⟩
  have Lh:upd (upd H D (.lst [])) r (.lst [.int l1,.int x1]) D=some (.lst []):=by rw[au (Hw O1)];exact ae
  generalize upd (upd H D (.lst [])) r (.lst [.int l1,.int x1])=H1 at MO R1 Lh |-;refine⟨z,rfl,by omega,by omega,?_⟩
  refine⟨λi m σ' H'=>m=z.toNat-i/\i<=z.toNat/\aR H' r/\SameBut r H H'/\(∃ys ts,H' D=some (.lst ys)/\aF H' ys ts/\ts.length=i/\∀t∈ts,Be p many t)/\∃o5 o6,σ'=[some (.ref r),some (.int p),some (.int many),some (.int most),some (.ref D),o5,o6],
   ⟨z.toNat,by simp,GH _,R1,MO,⟨[],[],Lh,.nil,rfl,λt h=>(nomatch h)⟩,none,none,rfl⟩,?_⟩
  rintro i m σ' H' ⟨rfl,hi,JO,MA,⟨ys,ts,eD,ht,tl,tg⟩,o5,o6,rfl⟩
  by_cases Jb:i<z.toNat
  ·refine .inr ⟨Jb,λσ' H'=>aR H' r/\SameBut r H H'/\(∃ys ts,H' D=some (.lst ys)/\aF H' ys ts/\ts.length=i+1/\∀t∈ts,Be p many t)/\∃o5 o6,σ'=[some (.ref r),some (.int p),some (.int many),some (.int most),some (.ref D),o5,o6],?_,λy H2 hy=>?_⟩
   ·rintro σ' H' ⟨h1,h2,h3,h4⟩;exact⟨z.toNat-(i+1),by omega,rfl,Jb,h1,h2,h3,h4⟩
   ·obtain⟨rfl,rfl⟩:=hy;obtain⟨l2,x2,e2,c0,c1⟩:=JO;refine⟨_,rfl,_,rfl,_,rfl,r,l2,x2,2,rfl,e2,c0,c1,by decide,by decide,λu l3 x3 u0 u1 d0 d1=>?_⟩;have R3:aR (upd H2 r (.lst [.int l3,.int x3])) r:=⟨l3,x3,ae,d0,d1⟩;have T6:SameBut r H2 (upd H2 r (.lst [.int l3,.int x3])):=SameBut.upd;generalize upd H2 r (.lst [.int l3,.int x3])=H3 at R3 T6 |-;refine⟨_,_,rfl,rfl,r,many,2+u,rfl,R3,m0,m1,by omega,by omega,λa ks H4 MS O0 VM ha R4 VN=>?_⟩;have TU:H4 D=some (.lst ys):=VN _ _ (T6 _ _ eD (Hw O1)) (Hw O1);have k2:az H2 H3:=aR.agK ⟨l2,x2,e2,c0,c1⟩ T6;have k3:az H3 H4:=R3.agK VN;refine⟨_,rfl,.inl ⟨rfl,_,aW.of TU⟩,_,rfl,_,rfl,_,rfl,r,p,rfl,hp,R4,λan tt bb H5 hn B1 B2 hn5 R5 VO=>?_⟩;have k4:az H4 H5:=R4.agK VO;refine⟨jP,λtu KN=>?_⟩;have Qq:H5 D=some (.lst ys):=VO _ _ TU (Hw O1);have sU:ay H5 (upd H5 tu (.tup [.ref a,.ref an])):=aq KN;have Zj:=sU _ _ Qq;refine⟨D,ys,.ref tu,rfl,rfl,Zj,?_,?_⟩
    ·rw[ht.length];exact xv (show ts.length<=60 by omega) (by decide)
    have kD:az (upd H5 tu (.tup [.ref a,.ref an])) (upd (upd H5 tu (.tup [.ref a,.ref an])) D (.lst (ys++[.ref tu]))):=az.upd λxs z=>by rw[Zj] at z;cases z
    have kA:az H2 (upd (upd H5 tu (.tup [.ref a,.ref an])) D (.lst (ys++[.ref tu]))):=((k2.trans k3).trans k4).trans ((az.of sU).trans kD);obtain⟨l6,x6,e6,f0,f1⟩:=R5;refine⟨⟨l6,x6,by rw[au O1];exact sU _ _ e6,f0,f1⟩,λb u e nb=>?_,⟨_,ts++[(ks,tt,bb)],ae,xC (aF.keep ht kA) ⟨tu,a,an,rfl,kD _ _ ae,kD _ _ (sU _ _ (k4 _ _ ha)),kD _ _ (sU _ _ hn5)⟩,by simp[tl],λt h=>?_⟩,_,_,rfl⟩
    ·have nb2:b≠D:=ax e hD;rw[au nb2];exact sU _ _ (VO _ _ (VN _ _ (T6 _ _ (MA _ _ e nb) nb) nb) nb)
    ·rcases HB.mp h with h|h
     ·exact tg t h
     ·have:t=(ks,tt,bb):=by simpa using h
      subst this;exact⟨⟨hn,B1,B2⟩,MS,O0,VM⟩
  ·have ei:i=z.toNat:=by omega
   refine .inl ⟨by show z.toNat<=i;omega,?_⟩;exact⟨_,rfl,q D ys ts H' eD ht (by omega) tg JO MA⟩
noncomputable def Lv (p:Int)(m n:Nat)(ts:List Tm):Prop:=∃D M:Int,0<D/\0<=M/\B m D/\B m M/\Tl p D M n ts
variable {x:Int×Int}
section
variable {p:Int}{m n m' n':Nat}{a b ts:List Tm}
theorem Lv.num (h:Lv p m n ts):ba p ts:=by
 obtain⟨D,M,_,_,_,_,h⟩:=h;exact h.num
theorem Lv.len (h:Lv p m n ts):ts.length<=n:=by
 obtain⟨D,M,_,_,_,_,h⟩:=h;exact h.l
theorem Lv.k (h:Lv p m n ts):∀t∈ts,P5 t.1:=by
 obtain⟨D,M,_,_,_,_,h⟩:=h;exact h.k
theorem Lv.prd (h:Lv p m n ts):∀t∈ts,Ee t.1:=λt ht=>uE (h.k t ht).1 (λk hk=>by have:=(h.k t ht).2 k hk;omega) (by have:=(h.k t ht).len;omega)
theorem Lv.mono (h:Lv p m n ts)(h1:m<=m')(h2:n<=n'):Lv p m' n' ts:=by
 obtain⟨D,M,d0,m0,bd,bm,h⟩:=h;exact⟨D,M,d0,m0,bd.mono h1,bm.mono h1,h.d,h.k,GC h.l h2⟩
theorem vO {n k:Nat}(h:n<2^k):B k (n:Int):=by
 unfold B;rw[Int.natAbs_natCast];exact h
theorem Lv.gth (h:Lv p m n ts)(hp:FP p)(hm:m+12<=4000)(hn:n<4000):EK p ts:=by
 obtain⟨D,M,d0,m0,bd,bm,h⟩:=h;exact h.gth hp m0 (by omega) (bd.mono (by omega)) ((bm.mul (vO (k:=12) (HG hn (by decide)))).mono hm) hn
theorem Lv.tg (h:Lv p m n ts)(hp:FP p)(hn:n<2048):Lv p (m+11) 32 (tg p ts):=by
 obtain⟨D,M,d0,m0,bd,bm,h⟩:=h;exact⟨D,M*n,d0,wZ m0 (wt _),bd.mono (by omega),bm.mul (vO (k:=11) (HG hn (by decide))),h.tg hp m0⟩
theorem Lv.mul (h:Lv p m n a)(g:Lv p m' n' b)(hp:FP p):Lv p (m+m') (n*n') (di p a b):=by
 obtain⟨D,M,d0,m0,bd,bm,h⟩:=h;obtain⟨E,N,e0,n0,be,bn,g⟩:=g;exact⟨D*E,M*N,CV d0 e0,wZ m0 n0,bd.mul be,bm.mul bn,h.mul g hp⟩
theorem Cd.up {D M E:Int}(h:Cd p D M x)(he:0<=E):Cd p (D*E) (M*E) x:=⟨h.num,λz=>by
 obtain⟨k,ek,lk⟩:=h.d z;refine⟨k*E,by rw[<-sv,ek],?_⟩;rw[<-sv,wJ,AJ,xb he]
 exact DH lk he⟩
theorem Lv.gn (h:Lv p m n ts)(hp:FP p)(hm:m+12<=4000)(hn:n<4000):∀t∈ts,Gn p 4000 t.2/\Ga t:=λt ht =>
 ⟨(h.gth hp hm hn).num t ht,(h.k t ht).1,by have:=(h.k t ht).len;omega⟩
theorem yF (hl:ts.length<=6)(h:∀t∈ts,Be p 5 t):Lv p 320 6 ts:=by
 obtain⟨D,d0,dB,hd⟩:=oN (p:=p) (ts:=ts) λt ht=>(h t ht).1;refine⟨D,35184372088832*D,d0,wZ (by decide) (by omega),dB.mono (by omega),?_,hd,λt ht=>⟨(h t ht).2.1,(h t ht).2.2.1⟩,hl⟩
 have:B 46 (35184372088832:Int):=by unfold B;decide
 exact(this.mul dB).mono (by omega)
end
noncomputable def fw (p:Int)(R:Int->List Tm):List Tm->List Int->List Tm
 |a,[]=>a
 |a,k::ks=>fw p R (tg p (di p a (R k))) ks
theorem oU (p:Int)(R:Int->List Tm)(k:Int):∀(a:List Tm)(ks:List Int),fw p R a (ks++[k])=tg p (di p (fw p R a ks) (R k))
 |a,[]=>rfl
 |a,x::ks=>oU p R k (tg p (di p a (R x))) ks
noncomputable abbrev pw (p:Int)(R:Int->List Tm)(ks:List Int):List Tm:=fw p R [([],(1,1))] ks
noncomputable def iH (p:Int)(R:Int->List Tm)(ts:List Tm):List Tm:=ts.flatMap λt=>tg p (gX p t.2 (pw p R t.1))
noncomputable def jK (p:Int)(R:Int->List Tm)(ts:List Tm):List Tm:=ts.flatMap λt=>fw p R [([],t.2)] t.1
theorem iV {p:Int}(hp:FP p):Num p 1 1:=⟨by decide,by decide,λz=>⟨rfl,by decide,by
 rcases hp with h|h
 ·exact absurd h z
 ·have:=(dC h).1
  omega⟩⟩
section
variable {p:Int}{A:Type} [Lean.Grind.CommRing A]{v:Int×Int->A}{R:Int->List Tm}
noncomputable def Gf (v:Int×Int->A)(R:Int->List Tm):List Int->(List Int->A)->List Int->A
 |[],F,i=>F i
 |k::ks,F,i=>S v (R k) λj=>Gf v R ks F (gm (i++j))
theorem tj (hp:FP p):∀{ks:List Int}{a:List Tm},(∀k∈ks,ba p (R k))->ba p a->ba p (fw p R a ks)
 |[],a,_,ha=>ha
 |k::ks,a,hR,ha=>tj hp (ks:=ks) (λx hx=>hR x (AM _ hx)) (hp.tn (rf hp.nn ha (hR k qG)))
theorem Ek (V:Val p A v)(hp:FP p)(F:List Int->A):∀{ks:List Int}{a:List Tm},(∀k∈ks,ba p (R k))->ba p a->S v (fw p R a ks) F=S v a (Gf v R ks F)
 |[],a,_,_=>rfl
 |k::ks,a,hR,ha=>by
  have hk:=hR k qG;have hm:=rf hp.nn ha hk;have JO:∀x∈ks,ba p (R x):=λx hx=>hR x (AM _ hx);show S v (fw p R (tg p (di p a (R k))) ks) F=S v a (Gf v R (k::ks) F);rw[Ek V hp F JO (hp.tn hm),EX V hp.nn hm,afb V ha hk];rfl
end
section
variable {p:Int}{R:Int->List Tm}{ts:List Tm}
theorem vd {t:Tm}(h:Num p t.2.1 t.2.2):ba p [([],t.2)]:=λe he=>by
 have:e=([],t.2):=by simpa using he
 rw[this];exact h
theorem zg (hp:FP p){ks:List Int}(hR:∀k∈ks,ba p (R k)):ba p (pw p R ks):=tj hp hR λe he=>by
 have:e=([],(1,1)):=by simpa using he
 rw[this];exact iV hp
theorem qV (hp:FP p)(ht:ba p ts)(hR:∀t∈ts,∀k∈t.1,ba p (R k)):ba p (iH p R ts):=λe he=>by
 obtain⟨t,Lo,he⟩:=xA.mp he;exact hp.tn (qk hp.nn (zg hp (hR t Lo)) (ht t Lo)) e he
theorem zL (hp:FP p)(ht:ba p ts)(hR:∀t∈ts,∀k∈t.1,ba p (R k)):ba p (jK p R ts):=λe he=>by
 obtain⟨t,Lo,he⟩:=xA.mp he;exact tj hp (hR t Lo) (vd (ht t Lo)) e he
theorem u7 {A:Type} [Lean.Grind.CommRing A]{v:Int×Int->A}(V:Val p A v)(hp:FP p)(F:List Int->A):∀{ts:List Tm},ba p ts->(∀t∈ts,∀k∈t.1,ba p (R k)) →
 S v (iH p R ts) F=S v ts (λi=>Gf v R i F [])/\S v (jK p R ts) F=S v ts (λi=>Gf v R i F [])
 |[],_,_=>⟨rfl,rfl⟩
 |t::ts,ht,hR=>by
  have h0:=ht t qG;have hk:=hR t qG;obtain⟨i1,i2⟩:=u7 V hp F (ts:=ts) (λe he=>ht e (AM _ he)) λe he=>hR e (AM _ he);have MS:=zg hp hk
  have e1:ba p [(([]:List Int),((1:Int),(1:Int)))]:=λe he=>by
   have:e=([],(1,1)):=by simpa using he
   rw[this];exact iV hp
  constructor
  ·show S v (tg p (gX p t.2 (pw p R t.1))++iH p R ts) F=v t.2*Gf v R t.1 F []+S v ts _;rw[iQ,i1,EX V hp.nn (qk hp.nn MS h0),afc V MS h0,Ek V hp F hk e1];show v t.2*(v (1,1)*Gf v R t.1 F []+0)+_=_;rw[V.one];grind
  ·show S v (fw p R [([],t.2)] t.1++jK p R ts) F=v t.2*Gf v R t.1 F []+S v ts _;rw[iQ,i2,Ek V hp F hk (vd h0)];show v t.2*Gf v R t.1 F []+0+_=_;grind
theorem zr (hp:FP p)(ht:ba p ts)(hR:∀t∈ts,∀k∈t.1,ba p (R k)):tg p (iH p R ts)=tg p (jK p R ts):=by
 obtain⟨A,i,v,V⟩:=hp.v
 exact zT V hp.nn (qV hp ht hR) (zL hp ht hR) λF=>by rw[(u7 V hp F ht hR).1,(u7 V hp F ht hR).2]
theorem BD {a b:List Int}:gm (gm a++b)=gm (a++b):=ae5 λz=>by rw[HB,HB,gM]
theorem qD {A:Type} [Lean.Grind.CommRing A]{v:Int×Int->A}(V:Val p A v)(F:List Int->A):∀(ks i:List Int),i.Pairwise (· < ·)->Gf v (λk=>[([k],(1,1))]) ks F i=F (gm (i++ks))
 |[],i,hi=>by
  show F i=F (gm (i++[]));rw[F2,<-jc hi λz=>Iff.rfl]
 |k::ks,i,hi=>by
  show v (1,1)*Gf v (λk=>[([k],(1,1))]) ks F (gm (i++[k]))+0=_;rw[qD V F ks _ (i9 _),BD,V.one,uD];show 1*F (gm (i++k::ks))+0=F (gm (i++k::ks));grind
theorem Dt (hp:FP p)(h:ba p ts):tg p (tg p ts)=tg p ts:=by
 obtain⟨A,i,v,V⟩:=hp.v;exact zT V hp.nn (hp.tn h) h λF=>EX V hp.nn h F
theorem xc (hp:FP p)(ht:ba p ts)(hk:∀t∈ts,t.1.Pairwise (· < ·)):tg p (iH p (λk=>[([k],(1,1))]) ts)=tg p ts:=by
 obtain⟨A,i,v,V⟩:=hp.v
 have hR:∀t∈ts,∀k∈t.1,ba p ((λk=>[([k],(1,1))]:Int->List Tm) k):=λt _ k _ e he=>by
  have:e=([k],(1,1)):=by simpa using he
  rw[this];exact iV hp
 refine zT V hp.nn (qV hp ht hR) ht λF=>?_;rw[(u7 V hp F ht hR).1]
 have:∀{us:List Tm},(∀t∈us,t.1.Pairwise (· < ·))->S v us (λi=>Gf v (λk=>[([k],(1,1))]) i F [])=S v us F:=by
  intro us
  induction us with
  |nil=>intro _;rfl
  |cons t us ih =>
   intro h;show v t.2*Gf v (λk=>[([k],(1,1))]) t.1 F []+_=v t.2*F t.1+S v us F;rw[ih λe he=>h e (AM _ he),qD V F t.1 [] List.Pairwise.nil,List.nil_append,<-jc (h t qG) λz=>Iff.rfl]
 exact this hk
end
structure Rk (p:Int)(Dk Mk:Int->Int)(R:Int->List Tm)(k:Int):Prop where
 d0:0<Dk k
 m0:0<=Mk k
 bd:B 190 (Dk k)
 bm:B 190 (Mk k)
 tl:Tl p (Dk k) (Mk k) 32 (R k)
noncomputable def pD (Dk:Int->Int):List Int->Int
 |[]=>1
 |k::ks=>Dk k*pD Dk ks
noncomputable def pM (Mk:Int->Int):List Int->Int
 |[]=>1
 |k::ks=>Mk k*1024*pM Mk ks
section
variable {p D M E N:Int}{n m:Nat}{a b ts:List Tm}{Dk Mk:Int->Int}{R:Int->List Tm}{ks l:List Int}
theorem Tl.mono (h:Tl p D M n a)(hm:M<=N)(hn:n<=m):Tl p D N m a:=⟨λt ht=>(h.d t ht).mono hm,h.k,GC h.l hn⟩
theorem Tl.up (h:Tl p D M n a)(he:0<=E):Tl p (D*E) (M*E) n a:=⟨λt ht=>(h.d t ht).up he,h.k,h.l⟩
theorem rJ (hp:FP p):∀{ks:List Int}{a:List Tm}{D M:Int}{n:Nat},n<=32->0<=M->(∀k∈ks,Rk p Dk Mk R k)->Tl p D M n a->Tl p (D*pD Dk ks) (M*pM Mk ks) 32 (fw p R a ks)
 |[],a,D,M,n,hn,hM,_,h=>by
  show Tl p (D*1) (M*1) 32 a;rw[Int.mul_one,Int.mul_one];exact h.mono (Hr _) hn
 |k::ks,a,D,M,n,hn,hM,hR,h=>by
  have r:=hR k qG;have m0:0<=M*Mk k:=wZ hM r.m0;have h1:=(h.mul r.tl hp).tg hp m0
  have h2:Tl p (D*Dk k) (M*Mk k*1024) 32 (tg p (di p a (R k))):=h1.mono (Ck (by
   have:n*32<=1024:=GC (EU 32 hn) (by decide)
   exact_mod_cast this) m0) (AY _)
  have h3:=rJ hp (ks:=ks) (AY 32) (wZ m0 (by decide)) (λx hx=>hR x (AM _ hx)) h2;show Tl p (D*(Dk k*pD Dk ks)) (M*(Mk k*1024*pM Mk ks)) 32 (fw p R (tg p (di p a (R k))) ks);rw[<-sv,<-sv,<-sv];exact h3
theorem kq:∀{ks:List Int},(∀k∈ks,Rk p Dk Mk R k)->0<pD Dk ks
 |[],_=>by show(0:Int)<1;decide
 |k::ks,h=>CV (h k qG).d0 (kq (ks:=ks) λx hx=>h x (AM _ hx))
theorem qB:∀{ks:List Int},(∀k∈ks,Rk p Dk Mk R k)->0<=pM Mk ks
 |[],_=>by show(0:Int)<=1;decide
 |k::ks,h=>wZ (wZ (h k qG).m0 (by decide)) (qB (ks:=ks) λx hx=>h x (AM _ hx))
theorem zu:∀{ks:List Int},(∀k∈ks,Rk p Dk Mk R k)->B (190*ks.length+1) (pD Dk ks)
 |[],_=>by show B 1 1;unfold B;decide
 |k::ks,h=>((h k qG).bd.mul (zu (ks:=ks) λx hx=>h x (AM _ hx))).mono (by rw[sC];omega)
theorem ze:∀{ks:List Int},(∀k∈ks,Rk p Dk Mk R k)->B (201*ks.length+1) (pM Mk ks)
 |[],_=>by show B 1 1;unfold B;decide
 |k::ks,h=>(((h k qG).bm.mul (show B 11 (1024:Int) by unfold B;decide)).mul (ze (ks:=ks) λx hx=>h x (AM _ hx))).mono (by rw[sC];omega)
theorem vE:∀{l ks:List Int},(∀k∈l,Rk p Dk Mk R k)->ks∈jj l->∃c,0<c/\pD Dk ks*c=pD Dk l/\B (190*l.length+1) c
 |[],ks,_,h=>by
  have:ks=[]:=by simpa[jj] using h
  rw[this];exact⟨1,by decide,rfl,by unfold B;decide⟩
 |x::l,ks,hR,h=>by
  have hx:=hR x qG;have hl:∀k∈l,Rk p Dk Mk R k:=λk hk=>hR k (AM _ hk)
  rcases HB.mp (show ks∈(jj l).map (x :: ·)++jj l from h) with h|h
  ·obtain⟨ks',hk,rfl⟩:=HF.mp h;obtain⟨c,c0,e,bc⟩:=vE hl hk;refine⟨c,c0,?_,bc.mono (by rw[sC];omega)⟩;show Dk x*pD Dk ks'*c=Dk x*pD Dk l;rw[sv,e]
  ·obtain⟨c,c0,e,bc⟩:=vE hl h;refine⟨c*Dk x,CV c0 hx.d0,?_,(bc.mul hx.bd).mono (by rw[sC];omega)⟩;show pD Dk ks*(c*Dk x)=Dk x*pD Dk l;rw[<-sv,e,CB]
noncomputable def Lw (p D:Int)(m n:Nat)(ts:List Tm):Prop:=∃M:Int,0<=M/\B m M/\Tl p D M n ts
theorem Lw.app {m' n':Nat}(h:Lw p D m n a)(g:Lw p D m' n' b)(hm:m<=m'):Lw p D (m'+1) (n+n') (a++b):=by
 obtain⟨M,m0,bm,h⟩:=h;obtain⟨N,n0,bn,g⟩:=g;refine⟨M+N,by omega,(bm.mono hm).add bn,λt ht=>?_,λt ht=>?_,?_⟩
 ·rcases HB.mp ht with ht|ht
  ·exact(h.d t ht).mono (by omega)
  ·exact(g.d t ht).mono (by omega)
 ·rcases HB.mp ht with ht|ht
  ·exact h.k t ht
  ·exact g.k t ht
 ·rw[Af];have:=h.l;have:=g.l;omega
theorem Lw.lv (h:Lw p D m n a)(d0:0<D)(bd:B m D):Lv p m n a:=by
 obtain⟨M,m0,bm,h⟩:=h;exact⟨D,M,d0,m0,bd,bm,h⟩
structure Nk (p Dd Nd:Int)(x:Int×Int):Prop where
 d0:0<Dd
 n0:0<=Nd
 bd:B 290 Dd
 bn:B 290 Nd
 cd:Cd p Dd Nd x
theorem yM (h:Nk p D N x):Tl p D N 1 [([],x)]:=⟨λt ht=>by
 have:t=([],x):=by simpa using ht
 rw[this]
 exact h.cd,λt ht=>by
 have:t=([],x):=by simpa using ht
 rw[this]
 exact⟨List.Pairwise.nil,λk hk=>(nomatch hk)⟩,AY _⟩
theorem pG (hp:FP p):Tl p 1 1 1 [([],(1,1))]:=⟨λt ht=>by
 have:t=([],(1,1)):=by simpa using ht
 rw[this]
 exact⟨iV hp,λ_=>⟨1,rfl,by decide⟩⟩,λt ht=>by
 have:t=([],(1,1)):=by simpa using ht
 rw[this]
 exact⟨List.Pairwise.nil,λk hk=>(nomatch hk)⟩,AY _⟩
theorem C9 (hp:FP p)(hx:Nk p D N x)(hR:∀k∈ks,Rk p Dk Mk R k)(hl:ks.length<=4):Lv p 1100 32 (fw p R [([],x)] ks):=
 ⟨_,_,CV hx.d0 (kq hR),wZ hx.n0 (qB hR),(hx.bd.mul (zu hR)).mono (by omega),(hx.bn.mul (ze hR)).mono (by omega),rJ hp (by decide) hx.n0 hR (yM hx)⟩
theorem C8 (hp:FP p)(hR:∀k∈ks,Rk p Dk Mk R k)(hl:ks.length<=4):Lv p 810 32 (pw p R ks):=by
 have h:=rJ hp (by decide) (by decide) hR (pG hp);rw[Ft,Ft] at h;exact⟨_,_,kq hR,qB hR,(zu hR).mono (by omega),(ze hR).mono (by omega),h⟩
theorem Rk.lv {k:Int}(h:Rk p Dk Mk R k):Lv p 190 32 (R k):=⟨_,_,h.d0,h.m0,h.bd,h.bm,h.tl⟩
noncomputable abbrev l4:List Int:=[0,1,2,3]
structure T4 (p Dd Nd:Int)(t:Tm):Prop where
 n:Nk p Dd Nd t.2
 k:t.1∈jj l4
theorem ud {ks:List Int}(h:ks∈jj l4):ks.length<=4/\(∀k∈ks,k∈l4)/\ks.Pairwise (· < ·):=by
 have:∀ks∈jj l4,ks.length<=4/\(∀k∈ks,k∈l4)/\ks.Pairwise (· < ·):=by decide +kernel
 exact this ks h
theorem GA {t:Tm}(hp:FP p)(h:T4 p D N t)(hR:∀k∈l4,Rk p Dk Mk R k):Lw p (D*pD Dk l4) 1900 32 (fw p R [([],t.2)] t.1):=by
 obtain⟨c,c0,e,bc⟩:=vE hR h.k;obtain⟨h1,h2,_⟩:=ud h.k;have JO:∀k∈t.1,Rk p Dk Mk R k:=λk hk=>hR k (h2 k hk);have z:=(rJ hp (by decide) h.n.n0 JO (yM h.n)).up (E:=c) (by omega);rw[sv,e] at z;have bc:B 761 c:=bc;exact⟨_,wZ (wZ h.n.n0 (qB JO)) (by omega),(((h.n.bn.mul (ze JO)).mul bc)).mono (by omega),z⟩
theorem AD {t:Tm}(hp:FP p)(h:T4 p D N t)(hR:∀k∈l4,Rk p Dk Mk R k):Lw p (D*pD Dk l4) 1910 32 (tg p (gX p t.2 (pw p R t.1)))/\Lv p 1110 32 (gX p t.2 (pw p R t.1)):=by
 obtain⟨c,c0,e,bc⟩:=vE hR h.k;obtain⟨h1,h2,_⟩:=ud h.k;have JO:∀k∈t.1,Rk p Dk Mk R k:=λk hk=>hR k (h2 k hk);have bc:B 761 c:=bc;have w:=rJ hp (by decide) (by decide) JO (pG hp);rw[Ft,Ft] at w
 have s:Tl p (D*pD Dk t.1) (pM Mk t.1*N) 32 (gX p t.2 (pw p R t.1)):=⟨λx hx=>by
  obtain⟨y,hy,rfl⟩:=HF.mp hx;rw[CB]
  exact(w.d y hy).mul hp h.n.cd,λx hx=>by
  obtain⟨y,hy,rfl⟩:=HF.mp hx
  exact w.k y hy,by
  unfold gX;rw[wC]
  exact w.l⟩
 have m0:0<=pM Mk t.1*N:=wZ (qB JO) h.n.n0;have bm:B 1100 (pM Mk t.1*N):=((ze JO).mul h.n.bn).mono (by omega);have z:=(s.tg hp m0).up (E:=c) (by omega);rw[sv,e] at z;refine⟨⟨_,wZ (wZ m0 (by decide)) (by omega),((bm.mul (show B 6 ((32:Nat):Int) by unfold B;decide)).mul bc).mono (by decide),z⟩,_,_,CV h.n.d0 (kq JO),m0,(h.n.bd.mul (zu JO)).mono (by omega),bm.mono (by decide),s⟩
theorem ve (hp:FP p)(hR:∀k∈l4,Rk p Dk Mk R k):∀{ts:List Tm},(∀t∈ts,T4 p D N t)->Lw p (D*pD Dk l4) (1910+ts.length) (32*ts.length) (jK p R ts)
 |[],_=>⟨0,by decide,by unfold B;exact Nat.pow_pos (by decide),λt ht=>(nomatch ht),λt ht=>(nomatch ht),AY _⟩
 |t::ts,h=>by
  have z:=Lw.app (GA hp (h t qG) hR) (ve hp hR (ts:=ts) λx hx=>h x (AM _ hx)) (by omega);rw[sC,show 32*(ts.length+1)=32+32*ts.length by omega];exact z
theorem vx (hp:FP p)(hR:∀k∈l4,Rk p Dk Mk R k):∀{ts:List Tm},(∀t∈ts,T4 p D N t)->Lw p (D*pD Dk l4) (1910+ts.length) (32*ts.length) (iH p R ts)
 |[],_=>⟨0,by decide,by unfold B;exact Nat.pow_pos (by decide),λt ht=>(nomatch ht),λt ht=>(nomatch ht),AY _⟩
 |t::ts,h=>by
  have z:=Lw.app (AD hp (h t qG) hR).1 (vx hp hR (ts:=ts) λx hx=>h x (AM _ hx)) (by omega);rw[sC,show 32*(ts.length+1)=32+32*ts.length by omega];exact z
theorem p0 (hp:FP p)(hD:0<D)(bD:B 290 D)(hR:∀k∈l4,Rk p Dk Mk R k)(h:∀t∈ts,T4 p D N t)(hl:ts.length<=6):Lv p 1920 192 (iH p R ts)/\Lv p 1920 192 (jK p R ts):=by
 have d0:0<D*pD Dk l4:=CV hD (kq hR);have bd:B (1910+ts.length) (D*pD Dk l4):=(bD.mul (show B 761 (pD Dk l4) from zu hR)).mono (by omega);exact⟨((vx hp hR h).lv d0 bd).mono (by omega) (by omega),((ve hp hR h).lv d0 bd).mono (by omega) (by omega)⟩
end
noncomputable abbrev G4:Stmt:=aQ (aZ 29) 1
structure By (K:Frag)(mg:Fj)(C:Addr):Prop where
 c:Bu K mg C
 isC:((clsIn K C).isSome&&typeIn K (.ref C)==some (.type "type"))=true
 ca:findIn K (.ref C) "__class__"=some (some (.builtin "object.__class__"))
 sp:specialIn K (.builtin "object.__class__") "__get__"=some (some (.builtin "getset_descriptor.__get__"))
 tk:takesIn K (.builtin "object.__class__")=some true
 ob:mroIn K C (.type "object")=some true
variable {K:Frag}{mg:Fj}{C:Addr}
theorem By.ty (c:By K mg C){p dx:Addr}{fs:List (Str×V)}(e:H p=some (.ins C dx fs)):tZ K H (.ref p) (.ref C):=.of (.ins e c.c.cl c.ca c.sp c.tk c.ob)
theorem By.is (c:By K mg C):kitOne K (.ref C) (.ref C)=some true:=by
 unfold kitOne;rw[oO (by simp)]
theorem By.no (c:By K mg C){x:V}{T:String}(h:Th H x T):kitOne K (.type T) (.ref C)=some false:=by
 show(if(Value.type T==Value.ref C)=true then some true else(if((clsIn K C).isSome&&typeIn K (.ref C)==some (.type "type"))=true then subIn K (.type T) (.ref C) else none))=some false;rw[DW (by intro z;cases Eg.mp z),oO c.isC]
 cases h <;> rfl
theorem pB :notFirst K C (.ref C)=true:=by unfold notFirst;simp
noncomputable def Bd (t:Tm):D:=.tup [.tup (t.1.map D.int),.tup [.int t.2.1,.int t.2.2]]
theorem zw :∀ns:List Int,a8 K H (ns.map D.int) (ns.map V.int)
 |[]=>by unfold a8;rfl
 |n::ns=>by
  show a8 K H (.int n::ns.map D.int) (.int n::ns.map V.int);unfold a8;exact⟨_,_,rfl,(by unfold aL;rfl),zw ns⟩
theorem DU:∀ns:List Int,dY (ns.map D.int)=0
 |[]=>by simp[dY]
 |n::ns=>by rw[xx];unfold dY;rw[DU ns];simp[i5]
theorem Bt {y:V}{t:Tm}(h:FF H y t):aL K H (Bd t) y:=by
 obtain⟨a,pr,nu,rfl,ha,Jm,Jy⟩:=h;unfold Bd aL;refine⟨a,_,rfl,a7.of ha,?_⟩;unfold a8;refine⟨_,_,rfl,(by unfold aL;exact⟨pr,_,rfl,a7.of Jm,zw _⟩),?_⟩;unfold a8;refine⟨_,_,rfl,DC Jy,?_⟩;unfold a8;rfl
theorem qh :∀{ys:List V}{ts:List Tm},aF H ys ts->a8 K H (ts.map Bd) ys
 |_,_,.nil=>by unfold a8;rfl
 |_,_,.cons (b:=t) h r=>by
  show a8 K H (Bd t::_) _;unfold a8;exact⟨_,_,rfl,Bt h,qh r⟩
theorem pC:∀ts:List Tm,dY (ts.map Bd)<=2
 |[]=>by unfold dY;decide
 |t::ts=>by
  show dY (Bd t::ts.map Bd)<=2;unfold dY;have:=pC ts
  have h:i5 (Bd t)=2:=by
   unfold Bd i5 dY dY dY;rw[FZ,show i5 (.tup (t.1.map D.int))=1 from by unfold i5;rw[DU]];rfl
  omega
noncomputable abbrev lE (ts:List Tm):D:=.lst (ts.map Bd)
theorem eO {a:Addr}{ys:List V}{ts:List Tm}(e:H a=some (.lst ys))(h:aF H ys ts):aL K H (lE ts) (.ref a):=by
 unfold aL;exact⟨a,ys,rfl,aW.of e,qh h⟩
theorem oY (ts:List Tm):i5 (lE ts)<=32:=by
 unfold i5;have:=pC ts;omega
theorem BV.same {CF:Addr}{H':Hp}{s:Addr}{p:Int}{ts:List Tm}(h:BV C CF H s p ts)(k:ay H H'):BV C CF H' s p ts:=by
 obtain⟨dx,fl,Ja,D,zs,h1,h2,h3,h4⟩:=h.ex;exact⟨dx,fl,Ja,D,zs,k _ _ h1,k _ _ h2,k _ _ h3,aF.keep h4 (az.of k)⟩
noncomputable def yn (K:Frag)(C CF:Addr):Sp:=λvs H Q _=>∃(s:Addr)(p:Int)(ts:List Tm)(y:V),vs=[.ref s,y]/\BV C CF H s p ts /\
 ((∃s' p' Zk,y=.ref s'/\BV C CF H s' p' Zk/\Q (.bl (decide (p=p')&&hV (lE ts) (lE Zk))) H)\/∃t,tZ K H y t/\kitOne K t (.ref C)=some false/\Q (.bl false) H)
theorem GI:Ii Ac Ac (ar G4):=fu (by decide +kernel)
theorem DI {fe CF:Addr}{MT:FD}(F:Fe K "__eq__" "Sum.__eq__" G4 f fd)(c:By K mg C)(cF:xi K mg CF)(m_isinstance:mg "isinstance"=none)
 (FE:Ey P w K mg base (bZ P w) 1 fe MT Ac (FA CF))(bE:L2.bF K MT Ac [])(nE:findIn K (.ref CF) "__eq__"=some (some (.ref fe)))(iE:isFn K (.ref fe)=true):
 Ey P w K mg base (bZ P w) 2 f fd Ac (yn K C CF):=by
 refine F.okN GI (λvs H Q E h=>?_) (λIZ A outer s H vs Q E hr h=>?_)
 ·obtain⟨s,p,ts,y,rfl,_⟩:=h;rfl
 ·obtain⟨s0,p,ts,y,rfl,S,h⟩:=h;have Jr:Hz 1 _:=hr.mono (by decide);refine⟨_,(av (aB (eI (aI aY (by rfl) m_isinstance (by rfl) (ao (pv 1) (ao (cG (by rfl) c.c.mgC (show aE (.ref C) (.ref C) from rfl)) ah rfl) rfl)) (eI (c7 (r6 nE iE FE Jr bE af) (br (pv 0) rfl) (br (pv 1) rfl) (aJ _)) (gJ (c7 (agG hr) (br (pv 0) rfl) (br (pv 1) rfl) (aJ _))))))),?_⟩
  rcases h with⟨s1,p1,us,rfl,S1,q⟩|⟨t,ty,kt,q⟩
  ·obtain⟨dx,fl,Ja,Dd,zs,h1,h2,h3,h4⟩:=S.ex;obtain⟨N6,O3,Lp,T7,VP,g1,g2,g3,g4⟩:=S1.ex;refine⟨_,rfl,.ref s1,.ref C,_,_,_,rfl,rfl,c.ty g1,c.is,_,rfl,cm ?_⟩;refine⟨_,rfl,s0,C,dx,_,_,rfl,h1,c.c.cl,c.c.nF,rfl,_,rfl,s1,C,N6,_,_,rfl,g1,c.c.cl,c.c.nF,rfl,?_⟩;refine⟨fl,Ja,_,.ref CF,rfl,h2,cF.ty g2,pB,fl,Ja,p,.ref O3,rfl,h2,.inl ⟨O3,Lp,p1,rfl,g2,_,rfl,_,rfl,?_⟩⟩
   have eb:(decide (p=p1) != false)=decide (p=p1):=by simp
   rw[eb]
   cases hb:decide (p=p1) with
   |false =>
    rw[hb,Bx] at q;exact bX q
   |true =>
    rw[hb,DO] at q;refine cm ⟨_,rfl,s0,C,dx,_,_,rfl,h1,c.c.cl,c.c.nT,rfl,_,rfl,s1,C,N6,_,_,rfl,g1,c.c.cl,c.c.nT,rfl,?_⟩;refine⟨_,_,eO h3 h4,eO g3 g4,oY _,?_⟩;simpa using q
  ·exact⟨_,rfl,y,.ref C,_,_,_,rfl,rfl,ty,kt,_,rfl,bX q⟩
noncomputable abbrev GJ:Stmt:=(aZ 27)
noncomputable def Bv:Sp:=λvs H Q _=>∃(a b:Addr)(ks ms:List Int),vs=[.ref a,.ref b]/\H a=some (.tup (ks.map V.int))/\H b=some (.tup (ms.map V.int))/\ks.Pairwise (· < ·)/\ms.Pairwise (· < ·)/\ks.length+ms.length<64 /\
 ∀c H',ay H H'->H' c=some (.tup ((gm (ks++ms)).map V.int))->Q (.ref c) H'
theorem G7:Ii xX xX (ar GJ):=fu (by decide +kernel)
theorem ED (F:Fe K "together" "together" GJ f fd)(m_tuple:mg "tuple"=none)(Je:mg "sorted"=none)(JX:mg "set"=none):Ey P w K mg base (bZ P w) 1 f fd xX Bv:=by
 refine F.okN G7 (λvs H Q E h=>?_) (λIZ A outer s H vs Q E hr h=>?_)
 ·obtain⟨a,b,ks,ms,rfl,_⟩:=h;rfl
 ·obtain⟨a,b,ks,ms,rfl,ha,hb,pk,pm,hl,q⟩:=h
  refine⟨_,(ai (bf (cy (iy (pv 0) (λ_=>rfl))) (av (aB (pv 1))) aH)
   (ai (bf (cy (iy (pv 1) (λ_=>rfl))) (av (aB (pv 0))) aH)
   (av (aB (cX dF (by rfl) m_tuple (by rfl) (ao (ka rfl (aD uO (pv 0) (pv 1)) rfl (by rfl) Je (by rfl) JX) ah rfl)))))),?_⟩
  refine⟨_,rfl,!(ks.map V.int).isEmpty,.inr (.inl ⟨_,a7.of ha,rfl⟩),?_⟩
  cases ks with
  |nil =>
   refine cm ⟨_,rfl,q b H (ay.refl _) ?_⟩;rw[hb,<-jc pm (l:=[]++ms) λz=>Iff.rfl]
  |cons k ks =>
   refine bX ⟨_,rfl,!(ms.map V.int).isEmpty,.inr (.inl ⟨_,a7.of hb,rfl⟩),?_⟩
   cases ms with
   |nil =>
    refine cm ⟨_,rfl,q a H (ay.refl _) ?_⟩;rw[ha,<-jc pk (l:=(k::ks)++[]) λz=>by simp]
   |cons m ms =>
    refine bX ?_;refine⟨_,rfl,_,rfl,a,b,_,_,rfl,rfl,a7.of ha,a7.of hb,(by simp),GC (show _<=64 by simp only[wC];omega) (by decide),(λz=>by cases z),λ_ c hc=>?_⟩;refine⟨c,(k::ks)++(m::ms),rfl,.inr (a7.of (by rw[ae,zJ])),(by rw[Af];exact hl),λD us hD pw mem=>?_⟩;refine⟨D,_,rfl,.inl ⟨aW.of ae,λl Kr=>q l _ (((aq hc).trans (aq hD)).trans (aq Kr)) ?_⟩⟩;rw[ae,jc pw mem]
noncomputable abbrev CZ:Stmt:=aQ (aZ 29) 9
theorem gy {α β:Type}{R:α->β->Prop}:∀{l:List α}{m:List β}{l':List α}{m':List β},Paired R l m->Paired R l' m'->Paired R (l++l') (m++m')
 |_,_,_,_,.nil,h=>h
 |_,_,_,_,.cons a t,h=>.cons a (gy t h)
noncomputable def yH (C CF:Addr):Sp:=λvs H Q _=>∃(s s':Addr)(p p':Int)(a b:List Tm),vs=[.ref s,.ref s']/\BV C CF H s p a/\BV C CF H s' p' b/\Q (.bl (decide (p'=p))) H
theorem D7:Ii zI zI (ar CZ):=fu (by decide +kernel)
end K08
namespace L2
open PySem PySem.Spec PyProof.Rows
section
variable {prog:A9}{w:World}{A:Around}{R:Result->Shared->Prop}{s:qm}
theorem rW (elt:Expr)(g0:Comprehension)(target iter:Expr)(ifs:Hy)(scope:Scope)(pos:Pos)(it acc:Value)(env:Env):
 compTurn (.ListComp elt [g0,⟨target,iter,ifs,0⟩] scope pos) 1 it acc env=(do
  standAt iter.pos
  match <-pyNext it with
  |none=>pure (.done .next)
  |some v=>do
   letOwnedTupleGo target it v
   assign target env v
   let ok <-forIn ifs true λc r=>if r=true then do let ok <-PySem.isTrue c env (eval c env);pure (ForInStep.yield ok) else pure (ForInStep.yield r)
   if ok=true then do
    let _ <-(do
     let x <-eval elt env
     let _ <-call (Value.builtin "list.append") [acc,x]
     pure ())
    again (.compLoop (.ListComp elt [g0,⟨target,iter,ifs,0⟩] scope pos) 1 it acc env)
   else again (.compLoop (.ListComp elt [g0,⟨target,iter,ifs,0⟩] scope pos) 1 it acc env)):=by
 unfold compTurn;rfl
theorem pz (elt t0 i0:Expr)(t1 i1:Expr)(LM if1:Hy)(scope:Scope)(pos:Pos)(it acc:Value)(env:Env):
 compTurn (.ListComp elt [⟨t0,i0,LM,0⟩,⟨t1,i1,if1,0⟩] scope pos) 0 it acc env=(do
  standAt i0.pos
  match <-pyNext it with
  |none=>pure (.done .next)
  |some v=>do
   letOwnedTupleGo t0 it v
   assign t0 env v
   let ok <-forIn LM true λc r=>if r=true then do let ok <-PySem.isTrue c env (eval c env);pure (ForInStep.yield ok) else pure (ForInStep.yield r)
   if ok=true then do
    let x <-eval i1 env
    standAt i1.pos
    let x <-foldedSetIterable i1 env x
    let y <-holding [x] (pyIter x)
    let _ <-runOwn (.compStart (.ListComp elt [⟨t0,i0,LM,0⟩,⟨t1,i1,if1,0⟩] scope pos) 1 y acc env) env
    again (.compLoop (.ListComp elt [⟨t0,i0,LM,0⟩,⟨t1,i1,if1,0⟩] scope pos) 0 it acc env)
   else again (.compLoop (.ListComp elt [⟨t0,i0,LM,0⟩,⟨t1,i1,if1,0⟩] scope pos) 0 it acc env)):=by
 unfold compTurn;rfl
theorem qd {elt target iter:Expr}{g0:Comprehension}{ifs:Hy}{scope:Scope}{pos:Pos}{it acc:Value}{env:Env}(I:Nat->Shared->Prop)
 (turn:∀n s,I n s->wpAny (model prog w) A (pyNext it) (λr s₁=>match r with
  |none=>R (.ok .next) s₁
  |some v=>wpAny (model prog w) A (letOwnedTupleGo target it v) (λ_ s₁=>wpAny (model prog w) A (assign target env v) (λ_ s₂ =>
   wpAny (model prog w) A (forIn ifs true λc r=>if r=true then do let ok <-isTrue c env (eval c env);pure (ForInStep.yield ok) else pure (ForInStep.yield r)) (λok s₃ =>
    if ok=true then wpAny (model prog w) A (eval elt env) (λx s₄ =>
     wpAny (model prog w) A (call (.builtin "list.append") [acc,x]) (λ_ s₅=>∃m,m<n/\I m s₅) (λ_ _=>False) s₄) (λ_ _=>False) s₃
    else ∃m,m<n/\I m s₃) (λ_ _=>False) s₂) (λ_ _=>False) s₁) (λ_ _=>False) s₁) (λ_ _=>False) s)
 (n:Nat)(h:I n s):
 codeAny (model prog w) A (.compLoop (.ListComp elt [g0,⟨target,iter,ifs,0⟩] scope pos) 1 it acc env) R s:=by
 refine codeAny_loop rfl I (λn s hI=>?_) n h;show wpAny _ A ((compTurn (.ListComp elt [g0,⟨target,iter,ifs,0⟩] scope pos) 1 it acc env).onRaise (λx=>do noteFrame x env;theTreesLotGoes x)) _ _ s;refine wpAny_noted ?_;rw[rW];refine IM (Ex (IM (qx (turn n s hI) (λr s₁ h₁=>?_) λ_ _ z=>False.elim z)))
 cases r with
 |none=>exact IV h₁
 |some v =>
  refine IM (qx h₁ (λ_ YA PM=>?_) λ_ _ z=>False.elim z);refine IM (qx PM (λ_ s₂ h₂=>IM (qx h₂ (λok s₃ h₃=>?_) λ_ _ z=>False.elim z)) λ_ _ z=>False.elim z)
  cases ok with
  |false=>exact IV ⟨rfl,h₃⟩
  |true =>
   exact IM (IM (qx h₃ (λx s₄ h₄=>IM (qx h₄ (λ_ s₅ h₅=>IV (IV ⟨rfl,h₅⟩)) λ_ _ z=>False.elim z)) λ_ _ z=>False.elim z))
theorem pH {elt t0 i0 t1 i1:Expr}{LM if1:Hy}{scope:Scope}{pos:Pos}{it acc:Value}{env:Env}(I:Nat->Shared->Prop)(Qv:∀x,foldedSetIterable i1 env x=pure x)
 (turn:∀n s,I n s->wpAny (model prog w) A (pyNext it) (λr s₁=>match r with
  |none=>R (.ok .next) s₁
  |some v=>wpAny (model prog w) A (letOwnedTupleGo t0 it v) (λ_ s₁=>wpAny (model prog w) A (assign t0 env v) (λ_ s₂ =>
   wpAny (model prog w) A (forIn LM true λc r=>if r=true then do let ok <-isTrue c env (eval c env);pure (ForInStep.yield ok) else pure (ForInStep.yield r)) (λok s₃ =>
    if ok=true then wpAny (model prog w) A (eval i1 env) (λx s₄ =>
     wpAny (model prog w) A (holding [x] (pyIter x)) (λy s₅=>wpAny (model prog w) A (runOwn (.compStart (.ListComp elt [⟨t0,i0,LM,0⟩,⟨t1,i1,if1,0⟩] scope pos) 1 y acc env) env) (λ_ s₆=>∃m,m<n/\I m s₆) (λ_ _=>False) s₅) (λ_ _=>False) s₄) (λ_ _=>False) s₃
    else ∃m,m<n/\I m s₃) (λ_ _=>False) s₂) (λ_ _=>False) s₁) (λ_ _=>False) s₁) (λ_ _=>False) s)
 (n:Nat)(h:I n s):
 codeAny (model prog w) A (.compLoop (.ListComp elt [⟨t0,i0,LM,0⟩,⟨t1,i1,if1,0⟩] scope pos) 0 it acc env) R s:=by
 refine codeAny_loop rfl I (λn s hI=>?_) n h;show wpAny _ A ((compTurn (.ListComp elt [⟨t0,i0,LM,0⟩,⟨t1,i1,if1,0⟩] scope pos) 0 it acc env).onRaise (λx=>do noteFrame x env;theTreesLotGoes x)) _ _ s;refine wpAny_noted ?_;rw[pz];refine IM (Ex (IM (qx (turn n s hI) (λr s₁ h₁=>?_) λ_ _ z=>False.elim z)))
 cases r with
 |none=>exact IV h₁
 |some v =>
  refine IM (qx h₁ (λ_ YA PM=>?_) λ_ _ z=>False.elim z);refine IM (qx PM (λ_ s₂ h₂=>IM (qx h₂ (λok s₃ h₃=>?_) λ_ _ z=>False.elim z)) λ_ _ z=>False.elim z)
  cases ok with
  |false=>exact IV ⟨rfl,h₃⟩
  |true =>
   refine IM (qx h₃ (λx s₄ h₄=>?_) λ_ _ z=>False.elim z);refine IM (Ex ?_);rw[Qv];refine IM (IV ?_);exact IM (qx h₄ (λy s₅ h₅=>IM (qx h₅ (λ_ s₆ h₆=>IV ⟨rfl,h₆⟩) λ_ _ z=>False.elim z)) λ_ _ z=>False.elim z)
theorem gq {elt target iter g0 ifs scope pos it acc env}
 (h0:codeAny (model prog w) A (.compLoop (.ListComp elt [g0,⟨target,iter,ifs,0⟩] scope pos) 1 it acc env) R s)
 (h:wpAny (model prog w) A (pyIter it) (λVQ s'=>codeAny (model prog w) A (.compLoop (.ListComp elt [g0,⟨target,iter,ifs,0⟩] scope pos) 1 VQ acc env) R s')
  (notedBy (model prog w) A env λx s'=>R (.error x) s') s):
 codeAny (model prog w) A (.compStart (.ListComp elt [g0,⟨target,iter,ifs,0⟩] scope pos) 1 it acc env) R s:=by
 refine codeAny_of_tree ?_;show wpAny _ _ ((compStart (.ListComp elt [g0,⟨target,iter,ifs,0⟩] scope pos) 1 it acc env).onRaise (λx=>do noteFrame x env;standAt theWindowsPlace)) _ _ s;refine wpAny_notedAt ?_;unfold compStart;show wpAny _ _ (ask>>=_) _ _ s;refine IM (uo (wpAny_ite ?_))
 split
 ·first
   |exact IM (IV (IV (And.intro rfl h0)))
   |exact IV (And.intro rfl h0)
 ·first
   |exact IM (B9 (IM (Ex (IM (qx h (λVQ s' h'=>IV (And.intro rfl h')) λ_ _ x=>x)))))
   |(refine IM (B9 ?_);show wpAny _ _ (standAt iter.pos>>=_) _ _ s;exact IM (Ex (IM (qx h (λVQ s' h'=>IV (And.intro rfl h')) λ_ _ x=>x))))
end
variable {te:TE}
section
variable {X:Cx}{tg iter elt MU JB:Expr}{ifs K0:Hy}{scope osc:Scope}{pos:Pos}{N:DV}{nl:Nat}{js:List Nat}
noncomputable def GU (J:It)(g:TG)(tt:TT)(te:TE)(W:Nat->Nat->List V->St->Hp->Prop)(Fin:List V->St->Hp->Prop):Prop :=
 ∀i m xs σ' H',W i m xs σ' H'->xs.length<sizeLine/\((J.stop i H'/\Fin xs σ' H') \/
  (J.go i H'/\∀x H2,J.yld i H' x H2->g x σ' H2 λσ3 H3=>tt σ3 H3 λb H4 =>
   if b=true then te σ3 H4 λy H5=>∃m',m'<m/\W (i+1) m' (xs++[y]) σ3 H5 else ∃m',m'<m/\W (i+1) m' xs σ3 H4))
noncomputable def sf (J:It)(g:TG)(tt:TT)(wi1:TI)(g1:TG)(Mi:TT)(te:TE)(W:Nat->Nat->List V->St->Hp->Prop)(Fin:List V->Hp->Prop):Prop :=
 ∀i m xs σ' H',W i m xs σ' H'->xs.length<sizeLine/\((J.stop i H'/\Fin xs H') \/
  (J.go i H'/\∀x H2,J.yld i H' x H2->g x σ' H2 λσ3 H3=>tt σ3 H3 λb H4 =>
   if b=true then wi1 σ3 H4 λJ1 H5=>∃W1:Nat->Nat->List V->St->Hp->Prop,(∃m1,W1 0 m1 xs σ3 H5)/\GU J1 g1 Mi te W1 λys σ6 H6=>∃m',m'<m/\W (i+1) m' ys σ6 H6
   else ∃m',m'<m/\W (i+1) m' xs σ3 H4))
theorem rY {pins:List (Addr×Obj)}{σ:St}{H:Hp}{s:qm}{J:It}{it:Addr}{fp:List Addr}{tn:Nat->Heap->Prop}{g g1:TG}{tt Mi:TT}{wi1:TI}{W:Nat->Nat->List V->St->Hp->Prop}{Fin:List V->Hp->Prop}
 {E:zQ}{RR:Value->Addr->Result->Shared->Prop}
 (S:DP X N nl js osc scope)(hc:X.calm=true)(hg:∀C fp s H,PG (cu X N scope C fp s H) tg g)(ht:∀C fp s H,BN (cu X N scope C fp s H) ifs tt)(VR:∀C fp s H,PI (cu X N scope C fp s H) MU JB wi1)(VS:∀C fp s H,PG (cu X N scope C fp s H) MU g1)(K6:∀C fp s H,BN (cu X N scope C fp s H) K0 Mi)(he:∀C fp s H,PE (cu X N scope C fp s H) elt te)
 (I:Inv X pins σ H s)(T:Turn X.prog X.w X.K tg J fp it tn)(st:tn 0 s.heap)(f:∀b∈fp,cK X pins H b)(w0:∃m,W 0 m [] (σC nl js σ) H)(hW:sf J g tt wi1 g1 Mi te W Fin)(N0:∀env x,foldedSetIterable JB env x=pure x)
 (UT:∀(D C:Addr)(H':Hp)(s':qm)(xs:List V)(m:Fj),Inv X pins σ (upd H' D (.lst xs)) s'->H' D=none->s'.heap.Ns C m->cK X pins (upd H' D (.lst xs)) C->Fin xs H'->RR (.ref D) C (.ok .next) s'):
 wpAny (model X.prog X.w) X.A (newList []) (λacc s₃=>wpAny (model X.prog X.w) X.A (newFunctionEnv scope X.env.globals (dW scope.names X.env) [] X.env.qual none .none (some X.env)) (λLb s₄ =>
  codeAny (model X.prog X.w) X.A (.compStart (.ListComp elt [⟨tg,iter,ifs,0⟩,⟨MU,JB,K0,0⟩] scope pos) 0 (.ref it) acc {Lb with scope:=relabel scope X.env}) (RR acc Lb.locals) s₄) E s₃) E s:=by
 have L4:∀b∈fp,b<s.heap.objs.size:=λb hb=>by
  obtain⟨o,e,_⟩:=T.obj 0 _ st b hb;exact EL e
 refine IP (wu S.cell (by intro y hy;simp at hy) (λh₁ Kv J0=>?_) S.kind);dsimp only at Kv J0 |-;generalize Nw:s.heap.push {cls:=.type "list",dict:=none,data:=.seq ([]:wW).toArray}=H2 at Kv J0 |-
 have hC:H2.objs.size=s.heap.objs.size+1:=by rw[<-Nw,F4]
 have LJ:s.heap.objs.size≠H2.objs.size:=by rw[hC];exact Ho (DN _)
 have below:∀b,b<s.heap.objs.size->b≠H2.objs.size/\b≠s.heap.objs.size:=λb hb=>⟨by rw[hC];exact Ho (pS hb),Ho hb⟩;have old:∀b o,s.heap.get? b=some o->h₁.get? b=some o:=λb o e=>J0.extBut b o (below b (EL e)).1 (xQ _ (Nw▸xQ _ e));have Ny:h₁.get? s.heap.objs.size=some {cls:=.type "list",data:=.seq ([]:wW).toArray 0}:=J0.extBut _ _ LJ (xQ _ (Nw▸HR _ rfl))
 have Lc:s.heap.objs.size<=H2.objs.size:=by rw[hC];exact BK _
 have JH:∀y∈scope.names,y.2=.free->∃c,X.env.cells.lookup y.1=some c:=λy hy hf=>by
  have z:=S.free y hy hf;rw[<-S.out] at z;exact I.ok.has y.1 z
 have sub:∀x c,(dW scope.names X.env).lookup x=some c->X.env.cells.lookup x=some c:=λx c e=>lA JH e
 have UU:∀x c,(dW scope.names X.env).lookup x=some c->c<s.heap.objs.size:=λx c e=>by
  obtain⟨v,q⟩:=I.cell x c (sub x c e);exact q.lt
 have Nv:∀b∈fp,b∉dJ X.stack:=λb hb z=>by
  rcases Ef.mp (I.agn b z) with q|q
  ·exact(f b hb).2.1 q
  ·exact(f b hb).2.2.1 q
 have OR:s.heap.objs.size∉dJ X.stack:=λz=>by
  rcases Ef.mp (I.agn _ z) with q|q
  ·exact absurd I.lt (by rw[<-q];exact qo _)
  ·exact I.ajC (AY _) q
 have PN:s.heap.objs.size∉fp:=λz=>qo _ (L4 _ z)
 have Nz:∀{H':Hp}{ob:Obj},(∀b∈fp,H' b=none)->∀b∈fp,cK (cu X N scope H2.objs.size fp s H) [(s.heap.objs.size,ob)] H' b:=λ{H' ob} hn b hb =>
  ⟨hn b hb,(below b (L4 b hb)).1,Nv b hb,.inl hb,λx c e=>(f b hb).2.2.2.2.1 x c (sub x c e),λp hp z=>by
   have e:p=(s.heap.objs.size,ob):=by
    have:p∈[(s.heap.objs.size,ob)]:=hp;simpa using this
   subst e
   exact PN (by rw[show s.heap.objs.size=b from z];exact hb)⟩
 have UW:∀{H':Hp},H' s.heap.objs.size=none->cK (cu X N scope H2.objs.size fp s H) [] H' s.heap.objs.size:=λ{H'} hn =>
  ⟨hn,LJ,OR,.inr (AY _),λx c e=>Ho (UU x c e),λp hp=>absurd (show p∈([]:List (Addr×Obj)) from hp) (by simp)⟩
 have L8:∀{σ':St}{H':Hp}{s':qm}{ys:wW}{k:Nat},Inv (cu X N scope H2.objs.size fp s H) [] σ' H' s'->H' s.heap.objs.size=none->s'.heap.get? s.heap.objs.size=some (iD ys k) →
  Inv (cu X N scope H2.objs.size fp s H) [(s.heap.objs.size,iD ys k)] σ' H' s':=λ{σ' H' s' ys k} I' hn hl=>I'.agk λp hp=>by
  have e:p=(s.heap.objs.size,iD ys k):=by simpa using hp
  subst e;exact⟨hl,hn,LJ,OR,λv z=>by cases z⟩
 have kJ:∀s₃:Shared,s₃={s with heap:=h₁,toks:=s.toks+([]:List (Str×Value)).length} →
  codeAny (model X.prog X.w) X.A (.compLoop (.ListComp elt [⟨tg,iter,ifs,0⟩,⟨MU,JB,K0,0⟩] scope pos) 0 (.ref it) (.ref s.heap.objs.size) (compEnvC scope (dW scope.names X.env) H2.objs.size X.env))
   (RR (.ref s.heap.objs.size) H2.objs.size) s₃:=by
  rintro s₃ rfl;obtain⟨m0,w0⟩:=w0;have I0:Inv (cu X N scope H2.objs.size fp s H) [] (σC nl js σ) H {s with heap:=h₁,toks:=s.toks+([]:List (Str×Value)).length}:=oE S I f L4 Lc old Kv
  refine pH (λn s'=>∃i σ' H' xs ys k,Inv (cu X N scope H2.objs.size fp s H) [(s.heap.objs.size,iD ys k)] σ' H' s'/\tn i s'.heap/\(∀b∈fp,H' b=none)/\aN xs ys/\W i n xs σ' H') (N0 _) ?_ m0
   ⟨0,σC nl js σ,H,[],[],0,L8 I0 (I.hok.fresh (AY _)) Ny,T.keep _ _ _ st λb _ o e=>old b o e,λb hb=>(f b hb).1,.nil,w0⟩
  rintro n s' ⟨i,σ',H',xs,ys,k,I',JD,PQ,rv,w'⟩;obtain⟨hz,hw⟩:=hW i n xs σ' H' w'
  rcases hw with⟨stop,fin⟩|⟨go,step⟩
  ·refine qx (T.done (cu X N scope H2.objs.size fp s H) rfl rfl rfl hc i _ s' σ' H' (λ_ _=>False) I' (Nz PQ) JD stop) (λr s1 z'=>?_) λ_ _ z=>z;obtain⟨hr,I1⟩:=z';subst hr;obtain⟨p1,p2,_⟩:=I1.pin (s.heap.objs.size,iD ys k) (by show _∈([]:List (Addr×Obj))++[_];simp);have u1:Un (dJ X.stack) fp H H' s.heap s1.heap:=I1.base
   have u2:Un (dJ X.stack) fp H (upd H' s.heap.objs.size (.lst xs)) s.heap s1.heap:=⟨u1.keep,u1.slot,λb o e n hx=>by rw[au (Ho (EL e))];exact u1.free b o e n hx,u1.there,
    λb zs e=>by rw[au (ax (u1.agf b zs e) p2)];exact u1.agf b zs e,λb o zs e=>by rw[au (ax (u1.age b o zs e) p2)];exact u1.age b o zs e,λb ps e=>by
     obtain⟨mo,q⟩:=u1.agp b ps e
     exact⟨mo,by rw[au (ax q p2)];exact q⟩⟩
   have hk:fF X.prog X.w (upd H' s.heap.objs.size (.lst xs)) s1.heap:=dE I1.hok p2 ⟨HE hz,ys,k,rv,p1⟩;have I3:Inv X pins σ (upd H' s.heap.objs.size (.lst xs)) s1:=I.ahY I1.os u2 hk I1.bare λb hb=>⟨(f b hb).2.2.2.1,(f b hb).2.1,(f b hb).2.2.2.2.1,(f b hb).2.2.2.2.2⟩;obtain⟨mm,UX,_⟩:=I1.loc
   have UY:upd H' s.heap.objs.size (.lst xs) H2.objs.size=none:=by rw[au (Hw LJ)];exact I1.free
   exact UT _ _ H' s1 xs mm I3 p2 UX (I.agS Lc UY) fin
  ·refine qx (T.item (cu X N scope H2.objs.size fp s H) rfl rfl rfl hc i _ s' σ' H' (λ_ _=>False) I' (Nz PQ) JD go) (λr s1 z'=>?_) λ_ _ z=>z;obtain⟨u,hr,h4⟩:=z';subst hr;refine qx h4 (λ_ s2 z'=>?_) λ_ _ z=>z;obtain⟨x,PR,I2,r2,y2,Ku,UZ⟩:=z';have U1:=I2.pinned (Nz UZ) (T.obj _ _ Ku);refine qx (hg _ _ _ _ _ s2 σ' PR x u _ U1 r2 (step x PR y2)) (λ_ s3 z'=>?_) λ_ _ z=>z;obtain⟨σ3,H3,I3,q3⟩:=z';refine qx (ht _ _ _ _ _ s3 σ3 H3 _ I3 q3) (λok s4 z'=>?_) λ_ _ z=>z;obtain⟨H4,I4,q4⟩:=z'
   have Lq:∀{s5:qm}{H5:Hp}{σ5:St}{Zl:wW}{k5:Nat},Inv (cu X N scope H2.objs.size fp s H) ([(s.heap.objs.size,iD Zl k5)]++dn fp s2.heap) σ5 H5 s5->tn (i+1) s5.heap/\∀b∈fp,H5 b=none:=λ{s5 H5 σ5 Zl k5} I5 =>
    ⟨T.keep _ _ _ Ku λb hb o e=>(I5.pin (b,o) (Il _ (Il _ (cD hb e)))).1,λb hb=>by
     obtain⟨o,e,d⟩:=T.obj _ _ Ku b hb
     exact(I5.pin (b,o) (Il _ (Il _ (cD hb e)))).2.1⟩
   cases ok with
   |false =>
    rw[DW FO] at q4 |-;obtain⟨m',hm,w4⟩:=q4;exact⟨m',hm,i+1,σ3,H4,xs,ys,k,I4.agg,(Lq I4).1,(Lq I4).2,rv,w4⟩
   |true =>
    rw[oO rfl] at q4 |-;refine qx (VR _ _ _ _ _ s4 σ3 H4 _ I4 q4) (λv s5 h5=>CN (qx h5 (λOK s6 h6=>?_) λ_ _ z=>z)) λ_ _ z=>z;obtain⟨it1,O4,Zm,J1,H6,e,I6,T1,Zn,f6,W1,⟨m1,w1⟩,hW1⟩:=h6;subst e;have pl:∀{s7:qm}{H7:Hp}{σ7:St}{Ks:wW}{k7:Nat},Inv (cu X N scope H2.objs.size fp s H) ([(s.heap.objs.size,iD Ks k7)]++dn fp s2.heap) σ7 H7 s7->∀p∈dn fp s2.heap,s7.heap.get? p.1=some p.2/\H7 p.1=none/\p.1≠H2.objs.size/\p.1∉dJ X.stack/\∀v,p.2.data≠.cell v:=λI7 p hp=>I7.pin p (Il _ (Il _ hp))
    have VT:∀{H7:Hp}{Ks:wW}{k7:Nat},(∀b∈O4,H7 b=none)->∀b∈O4,cK (cu X N scope H2.objs.size fp s H) ([(s.heap.objs.size,iD Ks k7)]++dn fp s2.heap) H7 b:=λ{H7 Ks k7} hn b hb=>by
     obtain⟨g0,Qf,g2,g3,g4,g5⟩:=f6 b hb;refine⟨hn b hb,Qf,g2,g3,g4,λp hp=>?_⟩
     rcases HB.mp (show p∈[(s.heap.objs.size,iD Ks k7)]++dn fp s2.heap from hp) with z|z
     ·have e:p=(s.heap.objs.size,iD Ks k7):=by simpa using z
      subst e;exact g5 (s.heap.objs.size,iD ys k) (Il _ (mi _ (by simp)))
     ·exact g5 p (Il _ (Il _ z))
    refine wpAny_runOwn ?_;show codeAny _ X.A _ _ s6
    have MV:codeAny (model X.prog X.w) X.A (.compLoop (.ListComp elt [⟨tg,iter,ifs,0⟩,⟨MU,JB,K0,0⟩] scope pos) 1 (.ref it1) (.ref s.heap.objs.size) (compEnvC scope (dW scope.names X.env) H2.objs.size X.env))
     (λr s'=>match r with
      | .ok f=>∃m,m<n/\∃i σ' H' xs ys k,Inv (cu X N scope H2.objs.size fp s H) [(s.heap.objs.size,iD ys k)] σ' H' s'/\tn i s'.heap/\(∀b∈fp,H' b=none)/\aN xs ys/\W i m xs σ' H'
      | .error e=>cameBackBy (model X.prog X.w) X.A (compEnvC scope (dW scope.names X.env) H2.objs.size X.env) (λ_ _=>False) e s') s6:=by
     refine qd (λn' s'=>∃j σ' H' Zo Zq k',Inv (cu X N scope H2.objs.size fp s H) ([(s.heap.objs.size,iD Zq k')]++dn fp s2.heap) σ' H' s'/\Zm j s'.heap/\(∀b∈O4,H' b=none)/\aN Zo Zq/\W1 j n' Zo σ' H') ?_ m1
      ⟨0,σ3,H6,xs,ys,k,I6,Zn,λb hb=>(f6 b hb).1,rv,w1⟩
     rintro n' s7 ⟨j,σ7,H7,T8,Ks,k7,I7,Zr,Zt,T9,w7⟩;obtain⟨hz7,O5⟩:=hW1 j n' T8 σ7 H7 w7
     rcases O5 with⟨stop,m',hm,fin⟩|⟨go,step⟩
     ·refine qx (T1.done (cu X N scope H2.objs.size fp s H) rfl rfl rfl hc j _ s7 σ7 H7 (λ_ _=>False) I7 (VT Zt) Zr stop) (λr s8 z'=>?_) λ_ _ z=>z;obtain⟨hr,I8⟩:=z';subst hr;have bk:=Lq I8;exact⟨m',hm,i+1,σ7,H7,T8,Ks,k7,I8.agg,bk.1,bk.2,T9,fin⟩
     ·refine qx (T1.item (cu X N scope H2.objs.size fp s H) rfl rfl rfl hc j _ s7 σ7 H7 (λ_ _=>False) I7 (VT Zt) Zr go) (λr s8 z'=>?_) λ_ _ z=>z;obtain⟨u8,hr,h8⟩:=z';subst hr;refine qx h8 (λ_ s9 z'=>?_) λ_ _ z=>z;obtain⟨x9,H9,I9,r9,y9,VU,fr9⟩:=z';have I9':=I9.pinned (VT fr9) (T1.obj _ _ VU);refine qx (VS _ _ _ _ _ s9 σ7 H9 x9 u8 _ I9' r9 (step x9 H9 y9)) (λ_ sa z'=>?_) λ_ _ z=>z;obtain⟨σa,Ha,Ia,qa⟩:=z';refine qx (K6 _ _ _ _ _ sa σa Ha _ Ia qa) (λok sb z'=>?_) λ_ _ z=>z;obtain⟨Hb,Ib,qb⟩:=z'
      have Lr:∀{sc:qm}{Hc:Hp},Inv (cu X N scope H2.objs.size fp s H) (([(s.heap.objs.size,iD Ks k7)]++dn fp s2.heap)++dn O4 s9.heap) σa Hc sc->Zm (j+1) sc.heap/\∀b∈O4,Hc b=none:=λ{sc Hc} Ic =>
       ⟨T1.keep _ _ _ VU λb hb o e=>(Ic.pin (b,o) (Il _ (Il _ (cD hb e)))).1,λb hb=>by
        obtain⟨o,e,d⟩:=T1.obj _ _ VU b hb
        exact(Ic.pin (b,o) (Il _ (Il _ (cD hb e)))).2.1⟩
      cases ok with
      |false =>
       rw[DW FO] at qb |-;obtain⟨m',hm,wb⟩:=qb;exact⟨m',hm,j+1,σa,Hb,T8,Ks,k7,Ib.agg,(Lr Ib).1,(Lr Ib).2,T9,wb⟩
      |true =>
       rw[oO rfl] at qb |-;refine qx (he _ _ _ _ _ sb σa Hb _ Ib qb) (λvc sc z'=>?_) λ_ _ z=>z;obtain⟨yc,Hc,Ic,rc,m',hm,wc⟩:=z';obtain⟨stc,frc⟩:=Lr Ic;have Id:=Ic.agg;obtain⟨p1,p2,_⟩:=Id.pin (s.heap.objs.size,iD Ks k7) (Il _ (mi _ (by simp)));have df1:s.heap.objs.size∉O4:=λhb=>(f6 _ hb).2.2.2.2.2 (s.heap.objs.size,iD ys k) (Il _ (mi _ (by simp))) rfl;refine append_at (its:=Ks.toArray) p1 (λh' MA hD=>?_) (by rw[yQ,<-T9.length];exact HE hz7);have Mc:Inv (cu X N scope H2.objs.size fp s H) [] σa Hc {sc with heap:=h'}:=cH (Id.agk (pins':=[]) λp hp=>absurd hp (by simp)) (UW p2) MA
       have NP:h'.get? s.heap.objs.size=some (iD (Ks++[vc]) (k7+1)):=by
        rw[hD];show some _=some (iD (Ks++[vc]) (k7+1));rw[iD,<-List.push_toArray]
       refine⟨m',hm,j+1,σa,Hc,T8++[yc],Ks++[vc],k7+1,Mc.agk λp hp=>?_,T1.keep _ _ _ stc λb hb o e=>(MA.2 b λz=>df1 (z▸hb)).trans e,frc,T9.append (.cons rc .nil),wc⟩
       rcases HB.mp hp with z|z
       ·have e:p=(s.heap.objs.size,iD (Ks++[vc]) (k7+1)):=by simpa using z
        subst e;exact⟨NP,p2,LJ,OR,λv z=>by cases z⟩
       ·obtain⟨a1,a2,a3,a4,a5⟩:=pl Id p z;exact⟨(MA.2 p.1 λe=>PN (e▸(nM z).1)).trans a1,a2,a3,a4,a5⟩
    exact gq MV (T1.self X.A 0 _ _ _ Zn MV)
 exact codeAny_compStart_list (kJ _ rfl) (T.self X.A 0 _ _ _ (T.keep _ _ _ st λb _ o e=>old b o e) (kJ _ rfl))
noncomputable def Ez (wi:TI)(g:TG)(tt:TT)(wi1:TI)(g1:TG)(Mi:TT)(te:TE)(nl:Nat)(js:List Nat):TE:=λσ H Q=>wi σ H λJ H1 =>
 ∃W:Nat->Nat->List V->St->Hp->Prop,(∃m,W 0 m [] (σC nl js σ) H1)/\sf J g tt wi1 g1 Mi te W λxs H'=>∀D,H' D=none->Q (.ref D) (upd H' D (.lst xs))
theorem A4 {wi wi1:TI}{g g1:TG}{tt Mi:TT}(S:DP X N nl js osc scope)(hc:X.calm=true)(hi:PI X tg iter wi)(hg:∀C fp s H,PG (cu X N scope C fp s H) tg g)(ht:∀C fp s H,BN (cu X N scope C fp s H) ifs tt)
 (VR:∀C fp s H,PI (cu X N scope C fp s H) MU JB wi1)(VS:∀C fp s H,PG (cu X N scope C fp s H) MU g1)(K6:∀C fp s H,BN (cu X N scope C fp s H) K0 Mi)
 (he:∀C fp s H,PE (cu X N scope C fp s H) elt te)(hs:∀x,foldedSetIterable iter X.env x=pure x:=by intro _;rfl)(N0:∀env x,foldedSetIterable JB env x=pure x:=by intro _ _;rfl):
 PE X (.ListComp elt [⟨tg,iter,ifs,0⟩,⟨MU,JB,K0,0⟩] scope pos) (Ez wi g tt wi1 g1 Mi te nl js):=by
 intro pins s σ H Q I h;rw[eval_ListComp];refine xr (use:=none) rfl hs (hX S I) S.kind S.names (bO (hi pins s σ H _ I h) λv s1 h1=>bO h1 λOK s2 h2=>?_);obtain⟨it,fp,tn,J,H2,e,I2,T,Ku,f2,W,w0,hW⟩:=h2;subst e;refine rY (RR:=λacc C=>compPost (model X.prog X.w) X.A X.xe none (EP X pins σ Q) acc C) S hc hg ht VR VS K6 he I2 T Ku f2 w0 hW N0 ?_;intro D C H' s' xs m I3 hD hn fC fin;exact⟨m,hn,λh' sb=>⟨.ref D,_,cH I3 fC sb,rfl,fin D hD⟩⟩
end
theorem EI {K:PySem.W.Frag}{a a1:Addr}{xs xs1:List V}{wi1:TI}{rest:St}{H:Hp}{F:List V->Hp->Prop}(Pv:Nat->List V->Hp->Prop)(Pw:Nat->V->V->Nat->List V->Hp->Prop)(h0:Pv 0 [] H)
 (hz:∀i ys H',i<=xs.length->Pv i ys H'->ys.length<sizeLine/\aW K H' a xs)
 (hs:∀i x ys H',i<xs.length->xs[i]?=some x->Pv i ys H'->∃b u v,x=.ref b/\a7 K H' b [u,v]/\Pw i u v 0 ys H'/\∀o2 o3 R,R (BQ K a1) H'->wi1 (some u::some v::o2::o3::rest) H' R)
 (K5:∀i u v j ys H',i<xs.length->j<=xs1.length->Pw i u v j ys H'->ys.length<sizeLine/\aW K H' a1 xs1)
 (VJ:∀i u v j x ys H',i<xs.length->j<xs1.length->xs1[j]?=some x->Pw i u v j ys H'->∃b u' v',x=.ref b/\a7 K H' b [u',v'] /\
  ∀(N:List V->Hp->Prop),(∀zs H5,Pw i u v (j+1) zs H5->N zs H5)->te (some u::some v::some u'::some v'::rest) H' λy H5=>N (ys++[y]) H5)
 (he1:∀i u v ys H',i<xs.length->Pw i u v xs1.length ys H'->Pv (i+1) ys H')
 (hd:∀ys H',Pv xs.length ys H'->F ys H'):
 ∃W:Nat->Nat->List V->St->Hp->Prop,(∃m,W 0 m [] (none::none::none::none::rest) H)/\sf (BQ K a) (jm K 2 (cp (bJ 0) (cp (bJ 1) EE))) DX wi1 (jm K 2 (cp (bJ 2) (cp (bJ 3) EE))) DX te W F:=by
 refine⟨λi m ys σ H'=>m=xs.length-i/\i<=xs.length/\Pv i ys H'/\∃o o1 o2 o3,σ=o::o1::o2::o3::rest,⟨xs.length,by simp,GH _,h0,none,none,none,none,rfl⟩,?_⟩;rintro i m ys σ H' ⟨rfl,hi,p,o,o1,o2,o3,rfl⟩;obtain⟨z1,z2⟩:=hz i ys H' hi p;refine⟨z1,?_⟩
 by_cases Jb:i<xs.length
 ·refine .inr ⟨⟨xs,xs[i],z2,by simp[Jb]⟩,λx H2 hy=>?_⟩;obtain⟨rfl,hx⟩:=hy;obtain⟨b,u,v,rfl,hb,pw,h⟩:=hs i x ys H2 Jb (hx xs z2) p;refine⟨_,[u,v],rfl,hb,rfl,_,_,rfl,_,_,rfl,rfl,?_⟩;refine rD (h _ _ _ ⟨λj m ys σ H'=>m=xs1.length-j/\j<=xs1.length/\Pw i u v j ys H'/\∃o2 o3,σ=some u::some v::o2::o3::rest,⟨xs1.length,by simp,GH _,pw,_,_,rfl⟩,?_⟩);rintro j m ys σ H' ⟨rfl,hj,p,o2,o3,rfl⟩;obtain⟨z1,z2⟩:=K5 i u v j ys H' Jb hj p;refine⟨z1,?_⟩
  by_cases Lg:j<xs1.length
  ·refine .inr ⟨⟨xs1,xs1[j],z2,by simp[Lg]⟩,λx H2 hy=>?_⟩;obtain⟨rfl,hx⟩:=hy;obtain⟨b,u',v',rfl,hb,h⟩:=VJ i u v j x ys H2 Jb Lg (hx xs1 z2) p;refine⟨_,[u',v'],rfl,hb,rfl,_,_,rfl,_,_,rfl,rfl,?_⟩;exact rD (h (λzs H5=>∃m',m'<xs1.length-j/\m'=xs1.length-(j+1)/\j+1<=xs1.length/\Pw i u v (j+1) zs H5/\∃o2 o3,(some u::some v::some u'::some v'::rest:St)=some u::some v::o2::o3::rest) λzs H5 h=>⟨xs1.length-(j+1),by omega,rfl,Lg,h,_,_,rfl⟩)
  ·have:j=xs1.length:=by omega
   subst this;exact .inl ⟨⟨xs1,z2,AY _⟩,xs.length-(i+1),by omega,rfl,Jb,he1 i u v ys H' Jb p,_,_,_,_,rfl⟩
 ·have:i=xs.length:=by omega
  subst this;exact .inl ⟨⟨xs,z2,AY _⟩,hd ys H' p⟩
end L2
namespace K08
open PySem L2 PySem.W Nm Srt
noncomputable abbrev DJ:Stmt:=aQ (aZ 29) 11
noncomputable def yE (C CF UN:Addr):Sp:=λvs H Q E=>∃(s s':Addr)(p p':Int)(a b:List Tm),vs=[.ref s,.ref s']/\BV C CF H s p a/\BV C CF H s' p' b/\FP p/\a.length*b.length<4000 /\
 (∀t∈a,Gn p 4000 t.2/\Ga t)/\(p'=p->(∀t∈b,Gn p 4000 t.2/\Ga t)/\EK p (di p a b)/\∀H' u,ay H H'->k9 C CF H H' u p (tg p (di p a b))->Q (.ref u) H')/\(p'≠p->E (.ref UN) none H)
theorem Dl:Ii ["self","other","field"] Ac (ar DJ):=fu (by decide +kernel)
variable {P:A9}{w:World}{K:PySem.W.Frag}{mg:Fj}{base:Heap}
variable {f C CF:Addr}{fd:FD}
set_option maxHeartbeats 1000000 in
theorem w8 {UN:Addr}(F:Fe K "times" "Sum.times" DJ f fd)(c:By K mg C)(cF:xi K mg CF)(mU:mg "Unlike"=some (.ref UN))(qU:jT K UN Bf mZ=true)
 (q2:Cm P w K mg base 2 zI C "is_like" (yH C CF))
 (q0:Ca P w K mg base 1 xX "together" Bv)
 (q3:Cm P w K mg base 4 rE CF "times" (qA CF ir))
 (q1:Ca P w K mg base 8 mY "built" (j8 C CF)):
 Ey P w K mg base (bZ P w) 9 f fd Ac (yE C CF UN):=by
 obtain⟨fo,Vv,FTo,bTo,mTo,kTo⟩:=q0;obtain⟨fb,Zu,Qw,Qx,Qy,Qz⟩:=q1;obtain⟨fl,MK,VV,VW,VX⟩:=q2;obtain⟨ft,NJ,QA,QB,QC⟩:=q3;refine F.okE Dl (λvs H Q E h=>?_) (λIZ A outer s H vs Q E hr h=>?_)
 ·obtain⟨s,s',p,p',a,b,rfl,_⟩:=h;rfl
 ·obtain⟨s0,s1,p,p',a,b,rfl,S,S1,hp,hl,ga,q1,q2⟩:=h;have LN:Hz 8 _:=hr;have Ke:Hz 4 _:=LN.mono (by decide);have Kq:Hz 2 _:=LN.mono (by decide);have Jr:Hz 1 _:=LN.mono (by decide)
  refine⟨_,(ai (bf (cy (cI (bU (pv 0) c.c.cl VX VV Kq VW .nil af (ao (pv 1) ah rfl)))) (av (dU Bq qU rfl cB (by rfl) mU (ao cN ah rfl))) aH)
   (ai (@aM _ _ 2 _ _ _ _ Dl.nd rfl (Or.inr rfl) (br (pv 0) rfl) rfl (Or.inl rfl))
   (av (aB (aA Qw LN (by rfl) Qy Qz Qx .nil af (ao (pv 2) (ao (A4 (wi1:=C3 K (F1 K (gU 4) "its_terms")) (g:=jm K 2 (cp (bJ 0) (cp (bJ 1) EE))) (g1:=jm K 2 (cp (bJ 2) (cp (bJ 3) EE))) (N:=["product","number","more","factor","other","field"]) (nl:=4) (js:=[1,2]) (osc:=ar DJ) ⟨rfl,rfl,by decide +kernel,by decide +kernel,by decide +kernel,rfl,(.cons ⟨rfl,by decide +kernel⟩ (.cons ⟨rfl,by decide +kernel⟩ .nil)),by decide +kernel⟩ rfl
    (cb (br (pv 0) rfl))
    (λCq fq sq Hq=>(cC (X:=cu _ ["product","number","more","factor","other","field"] _ Cq fq sq Hq) rfl (aG (aC (X:=cu _ ["product","number","more","factor","other","field"] _ Cq fq sq Hq) (i:=0) (by show(["product","number","more","factor","other","field"]:DV).Nodup;decide +kernel) rfl (Or.inl rfl) (Or.inr rfl)) (aG (aC (X:=cu _ ["product","number","more","factor","other","field"] _ Cq fq sq Hq) (i:=1) (by show(["product","number","more","factor","other","field"]:DV).Nodup;decide +kernel) rfl (Or.inl rfl) (Or.inr rfl)) cj))))
    (λCq fq sq Hq=>c6)
    (λCq fq sq Hq=>(cb (X:=cu _ ["product","number","more","factor","other","field"] _ Cq fq sq Hq) (br (X:=cu _ ["product","number","more","factor","other","field"] _ Cq fq sq Hq) (pv (X:=cu _ ["product","number","more","factor","other","field"] _ Cq fq sq Hq) 4) rfl)))
    (λCq fq sq Hq=>(cC (X:=cu _ ["product","number","more","factor","other","field"] _ Cq fq sq Hq) rfl (aG (aC (X:=cu _ ["product","number","more","factor","other","field"] _ Cq fq sq Hq) (i:=2) (by show(["product","number","more","factor","other","field"]:DV).Nodup;decide +kernel) rfl (Or.inl rfl) (Or.inr rfl)) (aG (aC (X:=cu _ ["product","number","more","factor","other","field"] _ Cq fq sq Hq) (i:=3) (by show(["product","number","more","factor","other","field"]:DV).Nodup;decide +kernel) rfl (Or.inl rfl) (Or.inr rfl)) cj))))
    (λCq fq sq Hq=>c6)
    (λCq fq sq Hq=>(bw (ao (aA FTo Jr (by rfl) mTo kTo bTo .nil af (ao (pv 0) (ao (pv 2) ah rfl) rfl)) (ao (bU (pv 5) cF.cl QC QA Ke QB .nil af (ao (pv 1) (ao (pv 3) ah rfl) rfl)) ah rfl) rfl)))) ah rfl) rfl)))))),?_⟩
  obtain⟨dx,N7,Ja,Dd,zs,h1,h2,h3,h4⟩:=S.ex;obtain⟨N6,O3,Lp,T7,VP,g1,g2,g3,g4⟩:=S1.ex;refine⟨_,rfl,s0,dx,_,rfl,h1,rfl,_,rfl,s0,s1,p,p',a,b,rfl,S,S1,_,rfl,?_⟩
  by_cases e:p'=p
  ·rw[IW e];obtain⟨gb,G,q1⟩:=q1 e;refine bX ⟨_,rfl,s0,C,dx,_,_,rfl,h1,c.c.cl,c.c.nF,rfl,?_⟩;have za:=h4.length;have zb:=g4.length;refine⟨_,rfl,_,rfl,s0,C,dx,_,_,rfl,h1,c.c.cl,c.c.nT,rfl,Dd,rfl,⟨_,aW.of h3⟩,?_⟩
   refine EI (xs:=zs) (xs1:=VP) (a1:=T7) (λi us H'=>ay H H'/\aF H' us (di p (a.take i) b)) (λi u v j us H'=>ay H H'/\∃x pr nu,a[i]?=some x/\u=.ref pr/\v=.ref nu/\H pr=some (.tup (x.1.map V.int))/\H nu=some (bK x.2.1 x.2.2)/\aF H' us (di p (a.take i) b++(b.take j).map λy=>(gm (x.1++y.1),cO p x.2 y.2)))
    ⟨ay.refl _,.nil⟩ (λi us H' hi h=>?_) (λi v us H' hi VY h=>?_) (λi u v j us H' hi hj h=>?_) (λi u v j y us H' hi hj hy h=>?_) (λi u v us H' hi h=>?_) (λus H' h=>?_)
   ·refine⟨?_,aW.of (h.1 _ _ h3)⟩;rw[h.2.length,lK,EM];exact xv (EU _ (uu _ _)) (HG hl (by decide))
   ·obtain⟨sH,hu⟩:=h;obtain⟨x,ex,at_,pr,nu,rfl,JR,Jm,Jy⟩:=bh h4 VY;refine⟨at_,.ref pr,.ref nu,rfl,a7.of (sH _ _ JR),⟨sH,x,pr,nu,ex,rfl,rfl,Jm,Jy,by simpa using hu⟩,λo2 o3 R hR=>?_⟩;exact⟨_,rfl,s1,C,N6,_,_,rfl,sH _ _ g1,c.c.cl,c.c.nT,rfl,T7,rfl,⟨_,aW.of (sH _ _ g3)⟩,hR⟩
   ·obtain⟨sH,x,pr,nu,ex,rfl,rfl,Jm,Jy,hu⟩:=h;refine⟨?_,aW.of (sH _ _ g3)⟩;rw[hu.length,Af,lK,wC,EM,EM]
    have hi:i<a.length:=by omega
    have h1:min i a.length=i:=by omega
    have h2:min j b.length=j:=by omega
    rw[h1,h2];have h3:(i+1)*b.length<=a.length*b.length:=EU _ (by omega);rw[Nat.succ_mul] at h3;exact HG (show _<4000 by omega) (by decide)
   ·obtain⟨sH,x,pr,nu,ex,rfl,rfl,Jm,Jy,hu⟩:=h;obtain⟨z,ez,at2,N1,T3,rfl,N2,N3,N4⟩:=bh g4 hy;have gx:=ga x (HL ex);have gz:=gb z (HL ez)
    have N5:b.take (j+1)=b.take j++[z]:=by rw[x8,ez];rfl
    refine⟨at2,.ref N1,.ref T3,rfl,a7.of (sH _ _ N2),λN k=>?_⟩;refine⟨_,rfl,_,rfl,pr,N1,x.1,z.1,rfl,sH _ _ Jm,sH _ _ N3,gx.2.1,gz.2.1,(by have:=gx.2.2;have:=gz.2.2;omega),λcc H3 s3 ec=>?_⟩;have LO:=sH.trans s3;refine⟨_,rfl,N7,Ja,_,rfl,LO _ _ h2,rfl,_,rfl,_,rfl,N7,Ja,nu,T3,p,x.2.1,x.2.2,z.2.1,z.2.2,rfl,LO _ _ h2,hp,LO _ _ Jy,LO _ _ N4,gx.1.2.1,gx.1.2.2,gz.1.2.1,gz.1.2.2,gx.1.ne,gz.1.ne,λa1 KL=>?_⟩;have r1:=aq (o:=bK (cO p x.2 z.2).1 (cO p x.2 z.2).2) KL;have e1:upd H3 a1 (bK (cO p x.2 z.2).1 (cO p x.2 z.2).2) a1=some (bK (cO p x.2 z.2).1 (cO p x.2 z.2).2):=ae;change Ct _ (upd H3 a1 (bK (cO p x.2 z.2).1 (cO p x.2 z.2).2)) _;generalize upd H3 a1 (bK (cO p x.2 z.2).1 (cO p x.2 z.2).2)=H4 at r1 e1 |-;refine⟨jP,λtu KN=>?_⟩;have r2:=aq (o:=.tup [.ref cc,.ref a1]) KN;have N8:=r1.trans r2;refine k _ _ ⟨LO.trans N8,x,pr,nu,ex,rfl,rfl,Jm,Jy,?_⟩;rw[N5,zJ,<-uD];exact xC (aF.keep hu (az.of (s3.trans N8))) ⟨tu,cc,a1,rfl,ae,N8 _ _ ec,r2 _ _ e1⟩
   ·obtain⟨sH,x,pr,nu,ex,rfl,rfl,Jm,Jy,hu⟩:=h
    have Jz:a.take (i+1)=a.take i++[x]:=by rw[x8,ex];rfl
    refine⟨sH,?_⟩;rw[Jz,nK];rw[zb,yK] at hu;exact hu
   ·obtain⟨sH,hu⟩:=h;rw[za,yK] at hu;intro l hl;have r1:=aq (o:=.lst us) hl;exact⟨N7,Ja,l,p,_,_,rfl,r1 _ _ (sH _ _ h2),hp,ae,aF.keep hu (az.of r1),G,λH2 u s2 N9=>q1 _ u ((sH.trans r1).trans s2) (N9.of (sH.trans r1))⟩
  ·rw[HW e];exact cm ⟨by decide,q2 e⟩
noncomputable def ph (K:Frag)(C CF:Addr):Sp:=λvs H Q _=>∃(s:Addr)(p:Int)(a:List Tm)(y:V),vs=[.ref s,y]/\BV C CF H s p a /\
 ((∃s' p' b,y=.ref s'/\BV C CF H s' p' b/\Q (.bl (decide (p'=p))) H)\/∃t,tZ K H y t/\kitOne K t (.ref C)=some false/\Q (.bl false) H)
theorem AO {fe:Addr}{MT:FD}(F:Fe K "is_like" "Sum.is_like" CZ f fd)(c:By K mg C)(cF:xi K mg CF)(m_isinstance:mg "isinstance"=none)
 (FE:Ey P w K mg base (bZ P w) 1 fe MT Ac (FA CF))(bE:L2.bF K MT Ac [])(nE:findIn K (.ref CF) "__eq__"=some (some (.ref fe)))(iE:isFn K (.ref fe)=true):
 Ey P w K mg base (bZ P w) 2 f fd zI (ph K C CF):=by
 refine F.okN D7 (λvs H Q E h=>?_) (λIZ A outer s H vs Q E hr h=>?_)
 ·obtain⟨s,p,a,y,rfl,_⟩:=h;rfl
 ·obtain⟨s0,p,a,y,rfl,S,q⟩:=h;have Jr:Hz 1 _:=hr.mono (by decide);refine⟨_,(av (aB (eI (aI aY (by rfl) m_isinstance (by rfl) (ao (pv 1) (ao (cG (by rfl) c.c.mgC (show aE (.ref C) (.ref C) from rfl)) ah rfl) rfl)) (gJ (c7 (r6 nE iE FE Jr bE af) (br (pv 1) rfl) (br (pv 0) rfl) (aJ _)))))),?_⟩;obtain⟨dx,fl,Ja,Dd,zs,h1,h2,h3,h4⟩:=S.ex
  rcases q with⟨s1,p',b,rfl,S1,q⟩|⟨t,ty,kt,q⟩
  ·obtain⟨N6,O3,Lp,T7,VP,g1,g2,g3,g4⟩:=S1.ex;refine⟨_,rfl,.ref s1,.ref C,_,_,_,rfl,rfl,c.ty g1,c.is,_,rfl,cm ?_⟩;refine⟨_,rfl,s1,C,N6,_,_,rfl,g1,c.c.cl,c.c.nF,rfl,_,rfl,s0,C,dx,_,_,rfl,h1,c.c.cl,c.c.nF,rfl,?_⟩;refine⟨O3,Lp,_,.ref CF,rfl,g2,cF.ty h2,pB,O3,Lp,p',.ref fl,rfl,g2,.inl ⟨fl,Ja,p,rfl,h2,_,rfl,?_⟩⟩;simpa using q
  ·exact⟨_,rfl,y,.ref C,_,_,_,rfl,rfl,ty,kt,_,rfl,bX q⟩
theorem BW (h:Ey P w K mg base (bZ P w) 2 f fd zI (ph K C CF)):Ey P w K mg base (bZ P w) 2 f fd zI (yH C CF):=
 h.imp λvs H Q E ⟨s,s',p,p',a,b,e,S,S',q⟩=>⟨s,p,a,.ref s',e,S,.inl ⟨s',p',b,rfl,S',q⟩⟩
end K08
namespace L2
open PySem PySem.Spec PyProof.Rows PySem.W
open AutoSeq1 (wpAny_loadPart')
theorem wN (l:Addr)(its:IU)(n:Nat)(VZ:uJ)(sl:sR):
 Meets (Builtin.«enumerate.__new__» ⟨[.type "enumerate",.ref l],[]⟩) (λ_ R s=>s.heap.get? l=some ⟨.type "tuple",VZ,.seq its n,sl⟩/\∀h1 h2,h1=s.heap.push {cls:=.type "tuple_iterator",data:=.fields #[.ref l,.int 0 0]} →
  h2=h1.push {cls:=.type "enumerate",data:=.fields #[.none,.bool false,.ref s.heap.objs.size,rawInt 0,.none,.none]}->R (.ok (.ret (.ref h1.objs.size))) {s with heap:=h2}):=
 .of_wp λprog w A R s h=>by
  obtain⟨hp,g,d,tk,os⟩:=s;obtain⟨hl,h⟩:=h;have h:=h _ _ rfl rfl;have sb:=sub_enumerate;have hT:Heap.IsTuple (Shared.heap ⟨hp,g,d,tk,os⟩) l its:=⟨_,hl,rfl,n,rfl⟩
  wp_walk using wpAny_loadPart' hl
  refine wpAny_stack_any λst=>IV ?_
  split
  ·rename_i c _ _ _ _ _
   cases(c==Value.type "enumerate") <;> (wp_walk using wpAny_loadPart' hl,DD hT;exact⟨_,rfl,h⟩)
  ·wp_walk using wpAny_loadPart' hl,DD hT
   exact⟨_,rfl,h⟩
section
variable {prog:A9}{w:World}{A:Around}{E:zQ}{s:qm}{e it l:Addr}{i:Nat}{xs:IU}{x old:Value}
theorem ug {Q:Option Value->Shared->Prop}(he:IsEnum s.heap e it i old)(hit:s.heap.IsTupleIter it l i)(hl:s.heap.IsTuple l xs)(hx:xs[i]?=some x)(ne:e≠it)
 (q:∀g,IsEnumOut g e it ((i:Int)+1) x s.heap.objs.size->g.IsTupleIter it l (i+1)->g.get? s.heap.objs.size=some {cls:=.type "tuple",data:=.seq #[.int i s.toks,x]} →
  (∀b o,b≠e->b≠it->s.heap.get? b=some o->g.get? b=some o)->Q (some (.ref s.heap.objs.size)) {s with heap:=g,toks:=s.toks+1}):wpAny (model prog w) A (pyNext (.ref e)) Q E s:=by
 have ty:s.TypeIs (.ref e) "enumerate":=⟨_,he,rfl⟩;unfold pyNext;refine IM (uL (xO (name:=Str.ofString "__next__") ty xB (BU xB ty F.entry_enumerate_next ?_ (F.args_enumerate_next_1 _))));obtain⟨hp,g,d,tk,os⟩:=s;refine IM (m:=field (.ref e) 2) (Fq he rfl (x:=.ref it) rfl (IM (Zp.iG hit hl hx λh1 i1 s1=>?_)));have s1:Heap.SameBut it hp h1:=s1;have e1:IsEnum h1 e it i old:=(s1.2 e ne).trans he;refine IM (m:=field (.ref e) 3) (Fq e1 rfl (x:=rawInt i) rfl (IM (m:=field (.ref e) 4) (Fq e1 rfl (x:=.none) rfl ?_)));refine IM (m:=mkInt i) (wpAny_mkInt (IM (m:=setField (.ref e) 3 (rawInt ((i:Int)+1))) (zY e1 (by simp) λh2 e2 s2=>?_)));have s2:Heap.SameBut e h1 h2:=s2;have e2:IsEnum h2 e it ((i:Int)+1) old:=e2;refine IM (m:=setField (.ref e) 4 .none) (zY e2 (by simp) λh3 e3 s3=>?_);have s3:Heap.SameBut e h2 h3:=s3;have e3:IsEnum h3 e it ((i:Int)+1) old:=e3;refine IM (m:=newTuple [.int i tk,x]) (Ed ?_)
 have sz:h3.objs.size=hp.objs.size:=by rw[s3.1,s2.1,s1.1]
 have e4:IsEnum (h3.push {cls:=.type "tuple",data:=.seq #[.int i tk,x]}) e it ((i:Int)+1) old:=xQ _ e3
 have t4:(h3.push {cls:=.type "tuple",data:=.seq #[.int i tk,x]}).get? hp.objs.size=some {cls:=.type "tuple",data:=.seq #[.int i tk,x]}:=by rw[<-sz];exact HR _ rfl
 have k4:∀b o,b≠e->b≠it->hp.get? b=some o->(h3.push {cls:=.type "tuple",data:=.seq #[.int i tk,x]}).get? b=some o:=λb o n1 n2 hb=>xQ _ ((s3.2 b n1).trans ((s2.2 b n1).trans ((s1.2 b n2).trans hb)))
 have i4:(h3.push {cls:=.type "tuple",data:=.seq #[.int i tk,x]}).IsTupleIter it l (i+1):=by
  obtain⟨o,ho,r⟩:=i1;exact⟨o,xQ _ ((s3.2 it ne.symm).trans ((s2.2 it ne.symm).trans ho)),r⟩
 show wpAny _ _ (Builtin.SmallTypes.ownedTupleIsFree (.ref e)>>=_) _ _ {heap:=h3.push {cls:=.type "tuple",data:=.seq #[.int i tk,x]},gens:=g,drawn:=d,toks:=tk+1,os:=os};rw[sz];generalize h3.push {cls:=.type "tuple",data:=.seq #[.int i tk,x]}=h4 at e4 t4 k4 i4 |-;have el:e≠hp.objs.size:=Ho (EL he);clear e3 s3 e2 s2 e1 s1 i1 sz;unfold Builtin.SmallTypes.ownedTupleIsFree;refine IM (IM (Fq e4 rfl (x:=.none) rfl (IV ?_)));simp only[xm];refine IM (B9 (IM (Fq e4 rfl (x:=old) rfl (IM (zY e4 (by simp) λh5 e5 s5=>?_)))));have s5:Heap.SameBut e h4 h5:=s5;have e5:IsEnum h5 e it ((i:Int)+1) x:=e5;show wpAny _ _ (Builtin.SmallTypes.ownedTupleHandOut (.ref e) (.ref hp.objs.size)>>=_) _ _ {heap:=h5,gens:=g,drawn:=d,toks:=tk+1,os:=os};unfold Builtin.SmallTypes.ownedTupleHandOut;refine IM (IM (zY e5 (by simp) λh6 e6 s6=>?_));have s6:Heap.SameBut e h5 h6:=s6;have e6:IsEnumOut h6 e it ((i:Int)+1) x hp.objs.size:=e6;refine zY e6 (by simp) λh7 e7 s7=>?_;have s7:Heap.SameBut e h6 h7:=s7;have up:∀b,b≠e->h7.get? b=h4.get? b:=λb n=>(s7.2 b n).trans ((s6.2 b n).trans (s5.2 b n));refine IM (jU (IV ⟨_,rfl,IV (q h7 e7 ?_ ((up _ el.symm).trans t4) λb o n1 n2 hb=>(up b n1).trans (k4 b o n1 n2 hb))⟩));obtain⟨o,ho,r⟩:=i4;exact⟨o,(up it ne.symm).trans ho,r⟩
theorem wI {Q:Option Value->Shared->Prop}(hh:A.handled=none)(he:IsEnum s.heap e it i old)(hit:s.heap.IsTupleIter it l i)(hl:s.heap.IsTuple l xs)(hx:xs[i]?=none)
 (q:∀g,Heap.ExtBut it s.heap g->Q none {s with heap:=g}):wpAny (model prog w) A (pyNext (.ref e)) Q E s:=by
 have ty:s.TypeIs (.ref e) "enumerate":=⟨_,he,rfl⟩;unfold pyNext;refine IM (uL (xO (name:=Str.ofString "__next__") ty xB (BU xB ty F.entry_enumerate_next ?_ (F.args_enumerate_next_1 _))));refine IM (m:=field (.ref e) 2) (Fq he rfl (x:=.ref it) rfl (IM (Zp.pO hh hit hl hx λg x e' OJ=>?_)));obtain⟨o,ho,hc⟩:=OJ;exact IM (NI (T:="StopIteration") (b:=true) ⟨o,ho,hc⟩ zB (IV (q _ e')))
theorem uj {Q:zQ}(hT:s.heap.IsTuple l xs)(q:∀g,IsEnum g (s.heap.objs.size+1) s.heap.objs.size 0 .none->g.IsTupleIter s.heap.objs.size l 0->(∀b o,s.heap.get? b=some o->g.get? b=some o)->Q (.ref (s.heap.objs.size+1)) {s with heap:=g}):
 wpAny (model prog w) A (call (.type "enumerate") [.ref l]) Q E s:=by
 obtain⟨⟨c,VZ,dt,sl⟩,hl,hc,n,hd⟩:=hT;have hc:c=.type "tuple":=hc;have hd:dt=.seq xs n:=hd;subst hc hd;refine callType_new F.called_enumerate (by decide) (F.typeCall_enumerate_1 _) (F.newCall_enumerate_1 _) (λobj=>F.args_object_init_2 obj _) F.entry_enumerate_new (wN l xs n VZ sl) ⟨hl,λh1 h2 e1 e2=>?_⟩
 have z1:h1.objs.size=s.heap.objs.size+1:=by rw[e1];exact F4 ..
 have g1:h1.get? s.heap.objs.size=some {cls:=.type "tuple_iterator",data:=.fields #[.ref l,.int 0 0]}:=by rw[e1];exact HR _ rfl
 have en:IsEnum h2 (s.heap.objs.size+1) s.heap.objs.size 0 .none:=by rw[e2,<-z1];exact HR _ rfl
 show _/\_;rw[z1];exact⟨⟨_,en,rfl⟩,q h2 en ⟨_,by rw[e2];exact xQ _ g1,rfl,rfl⟩ λb o hb=>by rw[e2,e1];exact xQ _ (xQ _ hb)⟩
end
noncomputable def wY (K:Frag)(a:Addr):It :=
 ⟨λi H=>∃xs x,a7 K H a xs/\xs[i]?=some x,λi H x H'=>∃T y,(∀xs,a7 K H a xs->xs[i]?=some y)/\H T=none/\x=.ref T/\H'=upd H T (.tup [.int i,y]),λi H=>∃xs,a7 K H a xs/\xs.length<=i⟩
theorem sG {P:A9}{w:World}{K:Frag}{elts:Hy}{x1:Nat}{tp:Pos}(a e it:Addr)(Jt:e≠it):Turn P w K (.Tuple elts x1 tp) (wY K a) [e,it] e (λi h=>∃old,IsEnum h e it i old/\h.IsTupleIter it a i) where
 mem:=by simp
 obj:=λi h st b hb=>by
  obtain⟨old,h1,o,h2,_,h3⟩:=st
  rcases(by simpa using hb:b=e\/b=it) with z|z
  ·subst z;exact⟨_,h1,λv z=>by cases z⟩
  ·subst z;exact⟨o,h2,λv z=>by rw[h3] at z;cases z⟩
 keep:=λi h h' st k=>let⟨old,h1,h2⟩:=st;⟨old,k e (by simp) _ h1,Zp.fk h2 λo q=>k it (by simp) o q⟩
 item:=by
  intro X hP hw hK hc i pins s σ H E I hf st hg;subst hP hw hK;obtain⟨xs,x,hq,hx⟩:=hg;obtain⟨its,rv,p,hz⟩:=I.tuple hq;obtain⟨u,hu,ru⟩:=rv.get hx;obtain⟨old,he,hit⟩:=st;refine ug he hit (show s.heap.IsTuple a its.toArray from p) (x:=u) (by simpa using hu) Jt λh' q1 q2 q3 q5=>?_;refine⟨_,rfl,wpAny_letOwnedTupleGo_enum (s:={s with heap:=h',toks:=s.toks+1}) q1 λh2 q6 q7=>?_⟩;have Qi:s.heap.objs.size≠e:=EB (EL he)
  have I1:Inv X pins σ H {s with heap:=h2,toks:=s.toks+1}:=I.agX (t':=s.toks+1) (ch:=[e,it]) (λb o hb z=>by
   have Jn:b≠e/\b≠it:=by simpa using hb
   exact(q7.2 b Jn.1).trans (q5 b o Jn.1 Jn.2 z)) hf
  have tup:h2.get? s.heap.objs.size=some {cls:=.type "tuple",data:=.seq #[.int i s.toks,u]}:=(q7.2 _ Qi).trans q3;have fr:H s.heap.objs.size=none:=I.hok.fresh (AY _);have I2:=I.aiB (xs:=[.int i,x]) (its:=[.int i s.toks,u]) I1 (AY _) tup (.cons ⟨_,rfl⟩ (.cons ru .nil)) jP;refine⟨.ref s.heap.objs.size,_,I2,rfl,⟨s.heap.objs.size,x,λys hy=>by rw[I.agt hy hq];exact hx,fr,rfl,rfl⟩,⟨u,q6,Zp.fk q2 λo q=>(q7.2 _ (Hw Jt)).trans q⟩,λb hb=>?_⟩
  have nb:b≠s.heap.objs.size:=by
   rcases(by simpa using hb:b=e\/b=it) with z|z
   ·subst z;exact Hw Qi
   ·subst z;obtain⟨o,q,_⟩:=hit;exact Ho (EL q)
  rw[au nb];exact(hf b hb).1
 done:=by
  intro X hP hw hK hc i pins s σ H E I hf st hg;subst hP hw hK;obtain⟨xs,hq,hx⟩:=hg;obtain⟨its,rv,p,hz⟩:=I.tuple hq;have hl:=rv.length;obtain⟨old,he,hit⟩:=st;obtain⟨f0,f1,f2,f3,f4,f5⟩:=hf it (by simp);exact wI (I.ok.hd hc) he hit (show s.heap.IsTuple a its.toArray from p) (by simp;omega) λh' eb=>⟨rfl,I.turned (t':=s.toks) (λb o hb e=>eb b o hb e) f0 f1 f3 f4 f5⟩
 self:=λ_ _ _ _ _ st h=>let⟨old,h1,_⟩:=st;F5 h1 h
noncomputable def EO (K:Frag)(tl:TE):TI:=λσ H R=>c5 tl Ct σ H λvs H1=>∃a xs,vs=[.ref a]/\a7 K H1 a xs/\R (wY K a) H1
theorem As {X:Cx}{l:Expr}{tl:TE}{elts:Hy}{x1:Nat}{tp p pos:Pos}(hl:PE X l tl)(hg:Gl X "enumerate")(hm:X.mg "enumerate"=none)(hs:fY l=false:=by rfl):
 PI X (.Tuple elts x1 tp) (.Call (.Name "enumerate" p) [l] [] pos) (EO X.K tl):=by
 intro pins s σ H R I h;refine yD (eK I hg hm (by rfl) ?_ (by decide) (by decide));refine BE (bO (ao hl ah hs pos pins s σ H _ I h) λus s1 z'=>?_) (bq hs) rfl;obtain⟨vs,H1,I1,r1,a,xs,hv,hq,rr⟩:=z';subst hv;obtain⟨u,rfl,ru⟩:=eY r1
 cases(show u=Value.ref a from ru)
 obtain⟨its,rv,pl,hz⟩:=I1.tuple hq;refine uj (show s1.heap.IsTuple a its.toArray from pl) λh' q1 q2 q4=>?_;have I2:Inv X pins σ H1 {s1 with heap:=h'}:=I1.kept (t':=s1.toks) q4;refine F5 (s:={s1 with heap:=h'}) q1 ?_;refine⟨s1.heap.objs.size+1,[s1.heap.objs.size+1,s1.heap.objs.size],_,wY X.K a,H1,rfl,I2,sG a _ _ (Cu _),⟨_,q1,q2⟩,λb hb=>?_,rr⟩
 have Jn:s1.heap.objs.size<=b:=by
  rcases(by simpa using hb:b=s1.heap.objs.size+1\/b=s1.heap.objs.size) with z|z
  ·rw[z];exact BK _
  ·rw[z];exact AY _
 exact I1.agS Jn (I1.hok.fresh Jn)
noncomputable def ui (r:Addr)(H H':Hp):Prop:=∀b o,H b=some o->b≠r->H' b=some o
variable {H:Hp}
section
variable {cs:List (Addr×Obj)}{H1 H2:Hp}
theorem CI (hc:∀c o,cs.lookup c=some o->H1 c=none):fU cs (dR cs H1)=H1:=by
 funext b
 cases q:cs.lookup b with
 |some o=>rw[eZ q,hc b o q]
 |none=>rw[bY q,bo q]
theorem pE (hc:∀c o,cs.lookup c=some o->H1 c=none){b:Addr}{v:HO}(e:H1 b=some v):cs.lookup b=none:=by
 cases q:cs.lookup b with
 |none=>rfl
 |some o=>rw[hc b o q] at e;cases e
theorem AA (hc:∀c o,cs.lookup c=some o->H1 c=none)(S:ay (dR cs H1) H2):ay H1 (fU cs H2):=λb v e=>by
 rw[bY (pE hc e)];exact S b v (by rw[bo (pE hc e)];exact e)
theorem zF (S:ay H1 H2):ay (dR cs H1) (dR cs H2):=λb v e=>by
 cases q:cs.lookup b with
 |some o =>
  rw[jZ q] at e |-;exact e
 |none =>
  rw[bo q] at e |-;exact S b v e
theorem yL :gc cs (dR cs H):=λb v e=>jZ e
end
theorem jS {pos:Pos}{a b:Int}{c:Value}(l:wW)(h:TriplesOk l)(hn:¬(a=pos.line/\b=pos.col)):codeAmong pos (l++[rawInt a,rawInt b,c])=codeAmong pos l:=by
 fun_induction TriplesOk l with
 |case1 =>
  show(if(a==(pos.line:Int)&&b==(pos.col:Int))=true then some c else codeAmong pos [])=codeAmong pos [];rw[DW (by simpa using hn)]
 |case2 a' t b' u x rest ih =>
  simp only[List.cons_append,codeAmong];rw[ih h]
 |case3=>exact h.elim
noncomputable def lN (ls:List Pos)(q:Str)(Pt:Addr)(H:Hp):Prop:=∃ps,H Pt=some (.tbl ps)/\TriplesOk ps.toList/\∀pos∈ls,codeAmong pos ps.toList=none\/∃c' oc,codeAmong pos ps.toList=some (.ref c')/\H c'=some (dw c' oc)/\fO q oc
variable {ls:List Pos}{Pt:Addr}
theorem lN.same {q:Str}{H':Hp}(h:lN ls q Pt H)(S:ay H H'):lN ls q Pt H':=by
 obtain⟨ps,h1,h2,h3⟩:=h;refine⟨ps,S _ _ h1,h2,λpos hp=>?_⟩
 rcases h3 pos hp with z|⟨c',oc,a,b,c⟩
 ·exact .inl z
 ·exact .inr ⟨c',oc,a,S _ _ b,c⟩
theorem lN.but {q:Str}{r:Addr}{H':Hp}{l:List V}(h:lN ls q Pt H)(hr:H r=some (.lst l))(S:ui r H H'):lN ls q Pt H':=by
 have n1:∀b ps,H b=some (.tbl ps)->b≠r:=λb ps e z=>by rw[z,hr] at e;cases e
 have n2:∀b oc,H b=some (dw b oc)->b≠r:=λb oc e z=>by rw[z,hr] at e;cases e
 obtain⟨ps,h1,h2,h3⟩:=h;refine⟨ps,S _ _ h1 (n1 _ _ h1),h2,λpos hp=>?_⟩
 rcases h3 pos hp with z|⟨c',oc,a,b,c⟩
 ·exact .inl z
 ·exact .inr ⟨c',oc,a,S _ _ b (n2 _ _ b),c⟩
theorem sy {X:Cx}{Mj:Arguments}{body:Expr}{sc:Scope}{pos:Pos}{lq:Str}{σ:St}{Q:VK}(L9:pos∈ls)(hd:∀p∈ls,∀p'∈ls,((p.line:Int)=p'.line/\(p.col:Int)=p'.col)->p=p')(hq:X.env.qual++"<lambda>"=lq)(tb:lN ls lq Pt H)
 (q:∀(H7:Hp)(f c':Addr)(oc:Obj)(ctv:Value),H7 f=some (dw f (gI X Mj body sc c' ctv))->H7 c'=some (dw c' oc)->fO lq oc->ui Pt H H7->lN ls lq Pt H7->Q (.ref f) H7):Gg X Mj body sc pos Pt σ H Q:=by
 obtain⟨ps,hP,hT,Ji⟩:=id tb;refine⟨ps,hP,hT,?_⟩
 rcases Ji pos L9 with hn|⟨c',oc,hm,Jh,JF⟩
 ·refine .inl ⟨hn,λc' f oc ctv Jh hf Jt JF=>?_⟩;rw[hq] at JF
  have kp:∀b u,H b=some u->b≠Pt->(upd (upd (upd H Pt (.tbl (ps++#[rawInt pos.line,rawInt pos.col,.ref c']))) c' (dw c' oc)) f (dw f (gI X Mj body sc c' ctv))) b=some u:=λb u e n=>by
   rw[au (ax e hf),au (ax e Jh),au n];exact e
  refine q _ f c' oc ctv ae (by rw[au Jt,ae]) JF kp ⟨_,by rw[au (ax hP hf),au (ax hP Jh),ae],by rw[Array.toList_append];exact TriplesOk_snoc _ _ _ _ hT,λpos' MW=>?_⟩;rw[Array.toList_append]
  by_cases e:pos'=pos
  ·subst e;exact .inr ⟨c',oc,codeAmong_snoc _ hT hn,by rw[au Jt,ae],JF⟩
  ·have ne:¬((pos.line:Int)=pos'.line/\(pos.col:Int)=pos'.col):=λz=>e (hd _ L9 _ MW z).symm;rw[show(#[rawInt pos.line,rawInt pos.col,Value.ref c']:IU).toList=[rawInt pos.line,rawInt pos.col,Value.ref c'] from rfl,jS _ hT ne]
   rcases Ji pos' MW with z|⟨c2,oc2,a,b,c⟩
   ·exact .inl z
   ·exact .inr ⟨c2,oc2,a,kp _ _ b (λz=>by rw[z,hP] at b;cases b),c⟩
 ·refine .inr ⟨c',oc,hm,Jh,by rw[hq];exact JF,λf ctv hf=>?_⟩
  have S:ay H (upd H f (dw f (gI X Mj body sc c' ctv))):=λb u e=>by rw[au (ax e hf)];exact e
  exact q _ f c' oc ctv ae (S _ _ Jh) JF (λb u e _=>S b u e) (tb.same S)
section
variable {P:A9}{w:World}{K:Frag}{mg:Fj}{base:Heap}{qual name y1 y2:Str}{scope:Scope}{f c' c1 c2:Addr}{params:Arguments}{body:Expr}{pm ctv:Value}{k:Nat}{v1 v2:V}{o1 o2 oc:Obj}
noncomputable def oh (φ:Hp->VK->XK->Prop):Prop:=∀(H:Hp)(Q Q':VK)(E E':XK),(∀v H',Q v H'->Q' v H')->(∀cls d H',E cls d H'->E' cls d H')->φ H Q E->φ H Q' E'
theorem zm {fo:Obj}{cs:List (Addr×Obj)}{φ0:Hp->VK->XK->Prop}(m:oh φ0):oh (Me f c' fo oc cs φ0):=by
 intro H Q Q' E E' hQ hE h;obtain⟨g1,g2,g3,g4⟩:=h;exact⟨g1,g2,g3,m _ _ _ _ _ (λv H' q=>hQ _ _ q) (λc d H' q=>hE _ _ _ q) g4⟩
end
theorem sQ {α β:Type} [BEq α] [LawfulBEq α]{a:α}{b:β}:∀{l:List (α×β)},(l.map (·.1)).Nodup->(a,b)∈l->l.lookup a=some b
 |[],_,m=>nomatch m
 |(x,y):: l,nd,m=>by
  rw[xx] at nd;obtain⟨n1,n2⟩:=xG.mp nd;rw[Ah]
  rcases Ef.mp m with z|z
  ·injection z with z1 z2
   subst z1;subst z2;simp
  ·have ne:(a==x)=false:=CP.mpr λe=>n1 (HF.mpr ⟨(a,b),z,e⟩);rw[ne];exact sQ n2 z
theorem pK {α β:Type}{as:List α}{bs:List β}{a:α}{b:β}:(a,b)∈as.zip bs ↔ ∃i:Nat,as[i]?=some a/\bs[i]?=some b:=by
 rw[y4];constructor
 ·rintro⟨i,e⟩;exact⟨i,zO.mp e⟩
 ·rintro⟨i,e⟩;exact⟨i,zO.mpr e⟩
theorem Fu {α β:Type} [BEq α] [LawfulBEq α]{as:List α}{bs:List β}{a:α}{b:β}{i:Nat}(nd:as.Nodup)(l:as.length=bs.length)(ha:as[i]?=some a)(hb:bs[i]?=some b):(as.zip bs).lookup a=some b :=
 sQ (by rw[Bi (by omega)];exact nd) (pK.mpr ⟨i,ha,hb⟩)
theorem gE {α:Type}{l:List α}{i n:Nat}(h:i<n)(e:l.length=n):∃a,l[i]?=some a:=⟨l[i]'(by omega),by simp[e,h]⟩
theorem cE {α:Type}{l:List α}{i:Nat}{a:α}(h:l[i]?=some a):i<l.length:=(Im.mp h).1
section
variable {P:A9}{w:World}{K:Frag}{mg:Fj}{base:Heap}{qual name:Str}{scope:Scope}{f c':Addr}{params:Arguments}{body:Expr}{pm ctv:Value}{k:Nat}{oc:Obj}{ys:DV}{cs:List Addr}{os:List Obj}{vs:List V}
theorem ua {φ0:Hp->VK->XK->Prop}(JI:bindArgs (kla_fn name qual params body scope (ys.zip cs).reverse pm (.ref c') ctv) ⟨[],[]⟩=pure [])(hk:scope.kind=.function)(Nt:scope.isCoroutine=false)(Ld:scope.isGenerator=false)(Js:∀x∈scope.names,x.2≠.cell)
 (Jw:∀q∈scope.names,q.2=.free->q.1∈ys)(hfs:∀y∈ys,scope.names.lookup y=some .free)(ny:ys.Nodup)(nc:cs.Nodup)(lc:ys.length=cs.length)(ro:Paired tL vs os)(lv:vs.length=ys.length)(JF:fO qual oc)
 (Jj:∀(A:Around)(outer:List Env)(s:qm)(H:Hp)(Q:VK)(E:XK),Hz k (A.deeper (envX qual scope s.heap.objs.size f (.ref c') (ys.zip cs).reverse))->φ0 H Q E->∃t,PE (FJ P w K mg base ys qual scope f (.ref c') (ys.zip cs).reverse A outer s H E) body t/\t (vs.map some) H Q):
 v8 P w K mg base (k+1) f (Me f c' (kla_obj name qual params body scope (ys.zip cs).reverse pm c' ctv) oc (cs.zip os) φ0):=by
 have lo:vs.length=os.length:=zX ro;have at_:∀{y:Str}{d:Addr},(ys.zip cs).reverse.lookup y=some d->∃i,ys[i]?=some y/\cs[i]?=some d:=λ{y d} e=>pK.mp (BL.mp (ya e))
 have lk:∀{i:Nat}{y:Str}{d:Addr},ys[i]?=some y->cs[i]?=some d->(ys.zip cs).reverse.lookup y=some d:=λ{i y d} h1 h2 =>
  sQ (by rw[List.map_reverse,Bi (by omega)];exact(List.reverse_perm ys).nodup_iff.mpr ny) (BL.mpr (pK.mpr ⟨i,h1,h2⟩))
 have Zv:∀{i:Nat}{d:Addr},cs[i]?=some d->∃(o:Obj)(v:V)(u:Value),os[i]?=some o/\vs[i]?=some v/\(cs.zip os).lookup d=some o/\o.data=.cell (some u)/\aE v u:=λ{i d} h=>by
  have hi:=cE h;obtain⟨o,ho⟩:=gE (l:=os) (i:=i) hi (by omega);obtain⟨v,hv⟩:=gE (l:=vs) (i:=i) hi (by omega)
  have r:tL v o:=by
   have:∀{a:List V}{b:List Obj}{i:Nat},Paired tL a b->a[i]?=some v->b[i]?=some o->tL v o:=by
    intro a b i p
    induction p generalizing i with
    |nil=>intro h;simp at h
    |cons r _ ih =>
     intro h1 h2
     cases i with
     |zero =>
      simp at h1 h2;subst h1;subst h2;exact r
     |succ i=>exact ih (by simpa using h1) (by simpa using h2)
   exact this ro hv ho
  obtain⟨u,ru,hu⟩:=r;exact⟨o,v,u,ho,hv,Fu nc (by omega) h ho,hu,ru⟩
 refine afj (N:=ys) (vs:=vs) (k:=k) JI hk Nt Ld Js (λy hy=>?_) (λy z d e1 e2=>?_) JF (λy d e=>?_) (λi y v e1 e2=>?_) lv Jj
 ·obtain⟨i,hi⟩:=y4.mp (Jw _ (ya hy) rfl);obtain⟨c,hc⟩:=gE (l:=cs) (cE hi) lc.symm;exact⟨c,lk hi hc⟩
 ·obtain⟨i,a1,a2⟩:=at_ e1;obtain⟨j,b1,b2⟩:=at_ e2
  have ij:i=j:=by
   obtain⟨h1,h2⟩:=Im.mp a2;obtain⟨h3,h4⟩:=Im.mp b2;exact(List.getElem_inj nc).mp (h2.trans h4.symm)
  subst ij;exact Option.some.inj (a1.symm.trans b1)
 ·obtain⟨i,a1,a2⟩:=at_ e;obtain⟨o,v,u,_,_,h3,h4,_⟩:=Zv a2;exact⟨o,_,h3,h4⟩
 ·obtain⟨c,hc⟩:=gE (l:=cs) (cE e1) lc.symm;obtain⟨o,v',u,h1,h2,h3,h4,h5⟩:=Zv hc;have ev:v'=v:=Option.some.inj (h2.symm.trans e2);subst ev;exact⟨hfs y (HL e1),c,o,u,lk e1 hc,h3,h4,h5⟩
theorem CC {fo:Obj}{φ0:Hp->VK->XK->Prop}{H7:Hp}{Q:VK}{E:XK}(hf:H7 f=some (dw f fo))(Jh:H7 c'=some (dw c' oc))(z:∀c∈cs,H7 c=none)
 (h:φ0 H7 (λv H'=>Q v (dR (cs.zip os) H')) λcls d H'=>E cls d (dR (cs.zip os) H')):Me f c' fo oc (cs.zip os) φ0 (dR (cs.zip os) H7) Q E:=by
 have hc:∀c o,(cs.zip os).lookup c=some o->H7 c=none:=λc o e=>z c (xT (eG e)).1;refine⟨by rw[bo (pE hc hf)];exact hf,by rw[bo (pE hc Jh)];exact Jh,yL,?_⟩;rw[CI hc];exact h
theorem HC {H7 H8:Hp}(z:∀c∈cs,H7 c=none)(S:ay (dR (cs.zip os) H7) H8):gc (cs.zip os) H8/\ay H7 (fU (cs.zip os) H8):=by
 have hc:∀c o,(cs.zip os).lookup c=some o->H7 c=none:=λc o e=>z c (xT (eG e)).1;exact⟨λb v e=>S b _ (jZ e),AA hc S⟩
end
end L2
namespace K08
open PySem L2 PySem.W Nm Srt
noncomputable abbrev Iz:Stmt:=(aZ 31)
section
variable {C CF UN s s':Addr}{H:Hp}{p:Int}{a b:List Tm}{m m':Nat}{Q:VK}{E:XK}
theorem AF (S:BV C CF H s p a)(S':BV C CF H s' p b)(hp:FP p)(la:Lv p m 32 a)(lb:Lv p m' 32 b)(hm:m+m'+12<=4000)
 (q:∀H' u,ay H H'->k9 C CF H H' u p (tg p (di p a b))->Q (.ref u) H'):yE C CF UN [.ref s,.ref s'] H Q E :=
 ⟨s,s',p,p,a,b,rfl,S,S',hp,xv (Nat.mul_le_mul la.len lb.len) (by decide),la.gn hp (by omega) (by decide),λ_=>⟨lb.gn hp (by omega) (by decide),(la.mul lb hp).gth hp hm (by decide),q⟩,λz=>absurd rfl z⟩
theorem BV.hd (S:BV C CF H s p a):∃dx fl D,H s=some (.ins C dx (pX fl D)):=by
 obtain⟨dx,fl,Ja,D,zs,h,_⟩:=S.ex;exact⟨dx,_,_,h⟩
theorem BV.but {H':Hp}{d:Addr}{IY:List (List Key×V)}(S:BV C CF H s p a)(hd:H d=some (.dT IY))(k:SameBut d H H'):BV C CF H' s p a:=by
 obtain⟨dx,fl,Ja,D,zs,h1,h2,h3,h4⟩:=S.ex
 have n:∀{b:Addr}{o:HO},H b=some o->(∀IY,o≠.dT IY)->b≠d:=λ{b o} e z w=>by
  rw[w,hd] at e;exact z _ (Option.some.inj e).symm
 exact⟨dx,fl,Ja,D,zs,k _ _ h1 (n h1 λ_ z=>by cases z),k _ _ h2 (n h2 λ_ z=>by cases z),k _ _ h3 (n h3 λ_ z=>by cases z),aF.keep h4 λb xs e=>k _ _ e (n e λ_ z=>by cases z)⟩
end
noncomputable def jg (C CF T:Addr)(H:Hp)(s:Addr)(p:Int)(ts:List Tm):Prop:=∃dx fl Ja D zs,H s=some (.ins C dx (pX fl D))/\H fl=some (.ins CF Ja (eT p))/\H D=some (.lst zs)/\aF H zs ts/\D≠T
section
variable {C CF T s d:Addr}{H H':Hp}{p:Int}{ts:List Tm}{R:Int->List Tm}{IY Jl:List (List Key×V)}
theorem jg.r (h:jg C CF T H s p ts):BV C CF H s p ts:=let⟨dx,fl,Ja,D,zs,h1,h2,h3,h4,_⟩:=h;⟨dx,fl,Ja,D,zs,h1,h2,h3,h4⟩
theorem k9.t {o:HO}(h:k9 C CF H H' s p ts)(e:H T=some o):jg C CF T H' s p ts:=let⟨dx,fl,Ja,D,zs,h1,h2,h3,h4,h5⟩:=h;⟨dx,fl,Ja,D,zs,h1,h2,h3,h4,λz=>by rw[z,e] at h5;cases h5⟩
theorem jg.same (h:jg C CF T H s p ts)(k:ay H H'):jg C CF T H' s p ts:=let⟨dx,fl,Ja,D,zs,h1,h2,h3,h4,h5⟩:=h;⟨dx,fl,Ja,D,zs,k _ _ h1,k _ _ h2,k _ _ h3,aF.keep h4 (az.of k),h5⟩
theorem jg.but (h:jg C CF T H s p ts)(hd:H d=some (.dT IY))(k:SameBut d H H'):jg C CF T H' s p ts:=by
 obtain⟨dx,fl,Ja,D,zs,h1,h2,h3,h4,h5⟩:=h
 have n:∀{b:Addr}{o:HO},H b=some o->(∀IY,o≠.dT IY)->b≠d:=λ{b o} e z w=>by
  rw[w,hd] at e;exact z _ (Option.some.inj e).symm
 exact⟨dx,fl,Ja,D,zs,k _ _ h1 (n h1 λ_ z=>by cases z),k _ _ h2 (n h2 λ_ z=>by cases z),k _ _ h3 (n h3 λ_ z=>by cases z),aF.keep h4 λb xs e=>k _ _ e (n e λ_ z=>by cases z),h5⟩
theorem jg.lst {ws:List V}(h:jg C CF T H s p ts)(hT:H T=some (.lst ws))(k:SameBut T H H'):jg C CF T H' s p ts:=by
 obtain⟨dx,fl,Ja,D,zs,h1,h2,h3,h4,h5⟩:=h;exact⟨dx,fl,Ja,D,zs,k _ _ h1 (λz=>by rw[z,hT] at h1;cases h1),k _ _ h2 (λz=>by rw[z,hT] at h2;cases h2),k _ _ h3 h5,aF.keep h4 (λb xs e=>k _ _ e λz=>by rw[z,hT] at e;cases e),h5⟩
structure Known (C CF T:Addr)(p:Int)(R:Int->List Tm)(H:Hp)(IY:List (List Key×V)):Prop where
 ok:∀ks v,dN IY (gk ks)=some v->∃s,v=.ref s/\jg C CF T H s p (pw p R ks)
 nil:(dN IY (gk [])).isSome=true
theorem Known.same (h:Known C CF T p R H IY)(k:ay H H'):Known C CF T p R H' IY :=
 ⟨λks v e=>let⟨s,e1,S⟩:=h.ok ks v e;⟨s,e1,S.same k⟩,h.nil⟩
theorem Known.lst {ws:List V}(h:Known C CF T p R H IY)(hT:H T=some (.lst ws))(k:SameBut T H H'):Known C CF T p R H' IY :=
 ⟨λks v e=>let⟨s,e1,S⟩:=h.ok ks v e;⟨s,e1,S.lst hT k⟩,h.nil⟩
end
theorem fK (xs:List V)(j:Nat):eU xs none (some (j:Int))=xs.take j:=by
 unfold eU;rw[HT.rM,HT.vj,List.drop_zero,Nat.sub_zero];exact(List.take_eq_take_iff.mpr (by omega))
theorem A5 {K:Frag}{a:Addr}{xs:List V}{j:Nat}{i:Int}{H:Hp}{Q:VK}(ei:i=(j:Int))(ha:H a=some (.tup xs))(q:∀b H',ay H H'->H' b=some (.tup (xs.take j))->Q (.ref b) H'):F0 K (.ref a) none (some i) H Q:=by
 subst ei;exact⟨a,xs,rfl,a7.of ha,λe=>q a H (ay.refl _) (by rw[ha,<-fK,e]),λp hp=>q p _ (aq hp) (by rw[ae,fK])⟩
theorem xD {K:Frag}{a:Addr}{xs:List V}{g:TG}{tb:TS}{D:Ends}{σ:St}{H:Hp}(Pv:Nat->St->Hp->Prop)(h0:Pv 0 σ H)(hl:∀i σ H,i<=xs.length->Pv i σ H->a7 K H a xs)
 (hs:∀i x σ H T,xs[i]?=some x->Pv i σ H->H T=none->g (.ref T) σ (upd H T (.tup [.int i,x])) λσ2 H2=>tb {D with nx:=Pv (i+1),ct:=Pv (i+1),bk:=D.nx} σ2 H2)(hd:∀σ H,Pv xs.length σ H->D.nx σ H):
 ∃W:Nat->Nat->St->Hp->Prop,(∃m,W 0 m σ H)/\∀i m σ H,W i m σ H →
  ((wY K a).stop i H/\D.nx σ H)\/((wY K a).go i H/\∃N:St->Hp->Prop,(∀σ' H',N σ' H'->∃m',m'<m/\W (i+1) m' σ' H')/\∀x H',(wY K a).yld i H x H'->g x σ H' λσ2 H2=>tb {D with nx:=N,ct:=N,bk:=D.nx} σ2 H2):=by
 refine⟨λi m σ H=>m=xs.length-i/\i<=xs.length/\Pv i σ H,⟨xs.length,by simp,GH _,h0⟩,?_⟩;rintro i m σ H ⟨rfl,hi,p⟩;have q:=hl i σ H hi p
 by_cases Jb:i<xs.length
 ·refine .inr ⟨⟨xs,xs[i],q,by simp[Jb]⟩,Pv (i+1),λσ' H' p'=>⟨xs.length-(i+1),by omega,rfl,Jb,p'⟩,λx H' y=>?_⟩;obtain⟨T,y,hy,hT,rfl,rfl⟩:=y;exact hs i y σ H T (hy xs q) p hT
 ·have e:i=xs.length:=by omega
  subst e;exact .inl ⟨⟨xs,q,AY _⟩,hd _ _ p⟩
noncomputable def sW (C CF:Addr)(p:Int)(R:Int->List Tm)(H:Hp)(zs:List V)(k:Int):Prop:=0<=k/\∃s,zs[k.toNat]?=some (.ref s)/\BV C CF H s p (R k)
noncomputable def Gb (C CF:Addr):Sp:=λvs H Q _=>∃(d l pr T:Addr)(p:Int)(IY:List (List Key×V))(zs:List V)(ks:List Int)(R:Int->List Tm)(Dk Mk:Int->Int)(ws:List V),vs=[.ref d,.ref l,.ref pr]/\FP p/\H T=some (.lst ws)/\H d=some (.dT IY)/\Known C CF T p R H IY/\IY.length+ks.length<4000/\H l=some (.lst zs)/\H pr=some (.tup (ks.map V.int)) /\
 ks.length<=4/\(∀k∈ks,sW C CF p R H zs k/\Rk p Dk Mk R k)/\∀H' Jl s,SameBut d H H'->H' d=some (.dT Jl)->Known C CF T p R H' Jl->Jl.length<=IY.length+ks.length->BV C CF H' s p (pw p R ks)->Q (.ref s) H'
theorem Fo:Ii ["known","sums","product","many","place"] ET (ar Iz):=fu (by decide +kernel)
variable {P:A9}{w:World}{K:PySem.W.Frag}{mg:Fj}{base:Heap}
variable {f C:Addr}{fd:FD}
set_option maxHeartbeats 1000000 in
theorem Gd {CF UN:Addr}(F:Fe K "put_product" "put_product" Iz f fd)(c:By K mg C)(Jf:mg "enumerate"=none)
 (q0:Cm P w K mg base 9 Ac C "times" (yE C CF UN)):
 Ey P w K mg base (bZ P w) 10 f fd ET (Gb C CF):=by
 obtain⟨ft,NJ,QA,QB,QC⟩:=q0;refine F.okN Fo (λvs H Q E h=>?_) (λIZ A outer s H vs Q E hr h=>?_)
 ·obtain⟨d,l,pr,T0,p,IY,zs,ks,R,Dk,Mk,ws,rfl,_⟩:=h;rfl
 ·obtain⟨d,l,pr,T0,p,IY,zs,ks,R,Dk,Mk,ws,rfl,hp,V0,hd,kn,hlen,hl,Jm,h4,hR,q⟩:=h;have V1:Hz 9 _:=hr;have hu:=(hr.units:_+64<cLine)
  replace hu:=xv (xn (by decide:1<=64) _) hu
  refine⟨_,(ai (dD uy rfl (As (pv 2) (by rfl) Jf) (cC rfl (aG (aC (i:=3) Fo.nd rfl (Or.inl rfl)) (aG (aC (i:=4) Fo.nd rfl (Or.inl rfl)) cj)))
   (av (bf (uH (abg hu (c4 j5 (pv 2) d9 (eB (aD cJ (pv 3) aj))) (pv 0))) (av (oZ hu (pv 0) (c4 j5 (pv 2) d9 (eB (aD cJ (pv 3) aj))) (bU (iC hu (pv 0) (c4 j5 (pv 2) d9 (eB (pv 3))) (λ_ _=>rfl)) c.c.cl QC QA V1 QB .nil af (ao (aV bz (pv 1) (pv 4) (λ_ _=>rfl)) ah rfl)) (by rfl))) aH)))
   (av (aB (iC hu (pv 0) (pv 2) (λ_ _=>rfl))))),?_⟩
  refine⟨_,rfl,pr,_,rfl,a7.of Jm,?_⟩
  refine xD (K:=K) (a:=pr) (xs:=ks.map V.int) (λj σ H'=>SameBut d H H'/\(∃Jl,H' d=some (.dT Jl)/\Known C CF T0 p R H' Jl/\Jl.length<=IY.length+j/\(dN Jl (gk (ks.take j))).isSome=true)/\∃o3 o4,σ=[some (.ref d),some (.ref l),some (.ref pr),o3,o4])
   ⟨SameBut.of (ay.refl _),⟨IY,hd,kn,AY _,by rw[List.take_zero];exact kn.nil⟩,_,_,rfl⟩ (λj σ H' _ h=>a7.of (h.1 _ _ Jm λz=>by rw[z,hd] at Jm;cases Jm)) ?_ ?_
  ·rintro j y σ H1 T hy ⟨s1,⟨Jl,QD,Oa,V2,v1⟩,o3,o4,rfl⟩ hT
   obtain⟨k,ek,rfl⟩:∃k,ks[j]?=some k/\y=.int k:=by
    rw[BC] at hy;obtain⟨k,h1,h2⟩:=lM.mp hy;exact⟨k,h1,h2.symm⟩
   have hj:j<ks.length:=cE ek;have s2:=aq (o:=.tup [.int j,.int k]) hT;have e2:upd H1 T (.tup [.int j,.int k]) T=some (.tup [.int j,.int k]):=ae;generalize upd H1 T _=H2 at s2 e2 |-
   have V3:pr≠d:=λz=>by rw[z,hd] at Jm;cases Jm
   have nl:l≠d:=λz=>by rw[z,hd] at hl;cases hl
   have N1:=s2 _ _ (s1 _ _ Jm V3);refine⟨T,_,rfl,a7.of e2,rfl,_,_,rfl,_,_,rfl,rfl,?_⟩;have JO:=hR k (HL ek);obtain⟨k0,sk,ezk,Sk⟩:=JO.1
   have Jz:ks.take (j+1)=ks.take j++[k]:=by rw[x8,ek];rfl
   have Zw:(ks.map V.int).take (j+1)=(ks.take (j+1)).map V.int:=List.map_take.symm;have V4:(ks.map V.int).take j=(ks.take j).map V.int:=List.map_take.symm;refine⟨_,rfl,_,rfl,_,_,rfl,rfl,_,rfl,?_⟩;refine A5 (j:=j+1) (by omega) N1 λb H3 s3 eb=>?_;rw[Zw,<-fA] at eb;have K7:=s2.trans s3;have V5:=K7 _ _ QD;refine⟨_,rfl,d,_,rfl,gf.t V5 eb,_,rfl,?_⟩
   cases hv:dN Jl (gk (ks.take (j+1))) with
   |some v =>
    exact bX ⟨s1.trans (SameBut.of K7),⟨Jl,V5,Oa.same K7,by omega,by rw[hv];rfl⟩,_,_,rfl⟩
   |none =>
    refine cm ?_;obtain⟨v,ev⟩:=Ik.mp v1;obtain⟨u,rfl,Su⟩:=Oa.ok _ v ev;refine⟨_,rfl,_,rfl,_,rfl,_,rfl,?_⟩;refine A5 (j:=j) rfl (s3 _ _ N1) λb0 H4 s4 Zx=>?_;rw[V4,<-fA] at Zx;have KO:=K7.trans s4;refine⟨d,.ref u,rfl,by rw[<-ev];exact gf.t (s4 _ _ V5) Zx,?_⟩;have Zy:=Su.r.same KO;obtain⟨du,_,_,hu4⟩:=Zy.hd
    have nT0:T0≠d:=λz=>by rw[z,hd] at V0;cases V0
    have V6:=KO _ _ (s1 _ _ hl nl);have Sk4:=(Sk.but hd s1).same KO;refine⟨u,du,_,rfl,hu4,rfl,_,rfl,_,rfl,l,zs,k,.ref sk,rfl,rfl,aW.of V6,(by rw[show k=((k.toNat:Nat):Int) by omega];exact gN ezk),?_⟩;dsimp only[Ct];have rt:∀x∈ks.take j,Rk p Dk Mk R x:=λx hx=>(hR x (Hx hx)).2;refine AF Zy Sk4 hp (C8 hp rt (by rw[EM];omega)) JO.2.lv (by decide) λH5 w s5 S5=>?_;rw[<-oU,<-Jz] at S5;have S5:=S5.t (KO _ _ (s1 _ _ V0 nT0));have V7:=KO.trans s5;refine⟨_,rfl,_,rfl,_,rfl,_,_,rfl,rfl,_,rfl,?_⟩;refine A5 (j:=j+1) (by omega) (s5 _ _ (s4 _ _ (s3 _ _ N1))) λb1 H6 s6 Zz=>?_;rw[Zw,<-fA] at Zz;have QE:=V7.trans s6;have QF:=QE _ _ QD;have sb:SameBut d H6 (upd H6 d (.dT (eF Jl (gk (ks.take (j+1))) (.ref w)))):=SameBut.upd;refine⟨d,_,rfl,pQ.t QF Zz (HG (show Jl.length<4000 by omega) (by decide)),(s1.trans (SameBut.of QE)).trans sb,⟨_,ae,⟨λxs v e=>?_,?_⟩,?_,?_⟩,_,_,rfl⟩
    ·rw[kX] at e
     by_cases z:gk xs=gk (ks.take (j+1))
     ·rw[oO z] at e;have zz:=iI z;subst zz
      injection e with e
      exact⟨w,e.symm,(S5.same s6).but QF sb⟩
     ·rw[DW z] at e;obtain⟨x,e1,Sx⟩:=Oa.ok xs v e;exact⟨x,e1,(Sx.same QE).but QF sb⟩
    ·rw[kX]
     split
     ·rfl
     ·exact Oa.nil
    ·have:=gG Jl (gk (ks.take (j+1))) (.ref w);omega
    ·rw[kX,oO rfl];rfl
  ·rintro σ H1 ⟨s1,⟨Jl,QD,Oa,V2,v1⟩,o3,o4,rfl⟩;rw[wC] at V2 v1;rw[yK] at v1;obtain⟨v,ev⟩:=Ik.mp v1;obtain⟨u,rfl,S⟩:=Oa.ok ks v ev
   have V3:pr≠d:=λz=>by rw[z,hd] at Jm;cases Jm
   refine⟨_,rfl,_,rfl,d,.ref u,rfl,?_,q H1 Jl u s1 QD Oa V2 S.r⟩;rw[<-ev];exact gf.t QD (by rw[fA];exact s1 _ _ Jm V3)
noncomputable abbrev EZ:Stmt:=aQ (aZ 29) 12
noncomputable def C7 (C CF NN:Addr):Sp:=λvs H Q E=>∃(s:Addr)(p:Int)(a:List Tm)(x:V)(o:Option (V×V)),vs=[.ref s,x]/\BV C CF H s p a/\FP p/\a.length<4000/\(∀t∈a,Gn p 4000 t.2)/\TX H x o /\
 (∀t b y,x=.ref y->H y=some (bK t b)->tR p o=true->B 4000 t/\B 4000 b/\Num p t b/\EK p (gX p (t,b) a)/\∀H' u,ay H H'->k9 C CF H H' u p (tg p (gX p (t,b) a))->Q (.ref u) H')/\(tR p o=true->∃y t b,x=.ref y/\H y=some (bK t b))/\(tR p o=false->E (.ref NN) none H)
theorem Dy:Ii ["self","number","field"] ["self","number"] (ar EZ):=fu (by decide +kernel)
set_option maxHeartbeats 1000000 in
theorem xP {CF NN:Addr}(F:Fe K "scaled" "Sum.scaled" EZ f fd)(c:By K mg C)(cF:xi K mg CF)(mN:mg "NoNumber"=some (.ref NN))(qN:jT K NN Bf mZ=true)
 (q1:Cm P w K mg base 2 zI CF "is_number" (ie CF))
 (q2:Cm P w K mg base 4 rE CF "times" (qA CF ir))
 (q0:Ca P w K mg base 8 mY "built" (j8 C CF)):
 Ey P w K mg base (bZ P w) 9 f fd ["self","number"] (C7 C CF NN):=by
 obtain⟨fb,Zu,Qw,Qx,Qy,Qz⟩:=q0;obtain⟨fn,fdn,FNu,bNu,mNu⟩:=q1;obtain⟨ft,NJ,QA,QB,QC⟩:=q2;refine F.okE Dy (λvs H Q E h=>?_) (λIZ A outer s H vs Q E hr h=>?_)
 ·obtain⟨s,p,a,x,o,rfl,_⟩:=h;rfl
 ·obtain⟨s0,p,a,x,o,rfl,S,hp,al,ag,tx,q1,q2,q3⟩:=h;have LN:Hz 8 _:=hr;have Ke:Hz 4 _:=LN.mono (by decide);have Kq:Hz 2 _:=LN.mono (by decide)
  refine⟨_,(ai (@aM _ _ 2 _ _ _ _ Dy.nd rfl (Or.inr rfl) (br (pv 0) rfl) rfl (Or.inl rfl))
   (ai (bf (cy (cI (bU (pv 2) cF.cl mNu FNu Kq bNu .nil af (ao (pv 1) ah rfl)))) (av (dU Bq qN rfl cB (by rfl) mN (ao cN ah rfl))) aH)
   (av (aB (aA Qw LN (by rfl) Qy Qz Qx .nil af (ao (pv 2) (ao (dG (g:=jm K 2 (cp (bJ 0) (cp (bJ 1) EE))) (N:=["product","factor","number","field"]) (nl:=2) (js:=[1,2]) (osc:=ar EZ) ⟨rfl,rfl,by decide +kernel,by decide +kernel,by decide +kernel,rfl,(.cons ⟨rfl,by decide +kernel⟩ (.cons ⟨rfl,by decide +kernel⟩ .nil)),by decide +kernel⟩ rfl
    (cb (br (pv 0) rfl))
    (λCq fq sq Hq=>(cC (X:=cu _ ["product","factor","number","field"] _ Cq fq sq Hq) rfl (aG (aC (X:=cu _ ["product","factor","number","field"] _ Cq fq sq Hq) (i:=0) (by show(["product","factor","number","field"]:DV).Nodup;decide +kernel) rfl (Or.inl rfl) (Or.inr rfl)) (aG (aC (X:=cu _ ["product","factor","number","field"] _ Cq fq sq Hq) (i:=1) (by show(["product","factor","number","field"]:DV).Nodup;decide +kernel) rfl (Or.inl rfl) (Or.inr rfl)) cj))))
    (λCq fq sq Hq=>c6)
    (λCq fq sq Hq=>(bw (ao (pv 0) (ao (bU (pv 3) cF.cl QC QA Ke QB .nil af (ao (pv 1) (ao (pv 2) ah rfl) rfl)) ah rfl) rfl)))) ah rfl) rfl)))))),?_⟩
  obtain⟨dx,fl,Ja,Dd,zs,h1,h2,h3,h4⟩:=S.ex;refine⟨_,rfl,s0,C,dx,_,_,rfl,h1,c.c.cl,c.c.nF,rfl,?_⟩;refine⟨_,rfl,fl,Ja,_,rfl,h2,rfl,_,rfl,fl,Ja,p,x,o,rfl,h2,hp,tx,_,rfl,?_⟩
  cases hn:tR p o with
  |false=>exact cm ⟨by decide,q3 hn⟩
  |true =>
   obtain⟨y,t,b,rfl,hy⟩:=q2 hn;obtain⟨bt,bb,nm,G,q⟩:=q1 t b y rfl hy hn;refine bX ?_;have zl:=h4.length;refine⟨_,rfl,_,rfl,s0,C,dx,_,_,rfl,h1,c.c.cl,c.c.nT,rfl,Dd,rfl,⟨_,aW.of h3⟩,?_⟩;refine ni (xs:=zs) (λi us H'=>ay H H'/\aF H' us (gX p (t,b) (a.take i))) ⟨ay.refl _,.nil⟩ (λi us H' hi h=>?_) (λi v us H' hi VY h=>?_) (λus H' h=>?_)
   ·refine⟨?_,aW.of (h.1 _ _ h3)⟩;rw[h.2.length];unfold gX;rw[wC,EM];exact xv (show _<=4000 by omega) (by decide)
   ·obtain⟨sH,hu⟩:=h;obtain⟨u,eu,at_,pr,nu,rfl,JR,Jm,Jy⟩:=bh h4 VY;have gu:=ag u (HL eu)
    have Jz:a.take (i+1)=a.take i++[u]:=by rw[x8,eu];rfl
    refine⟨at_,.ref pr,.ref nu,rfl,a7.of (sH _ _ JR),λN k=>?_⟩;refine rD ⟨_,rfl,_,rfl,fl,Ja,_,rfl,sH _ _ h2,rfl,_,rfl,_,rfl,fl,Ja,nu,y,p,u.2.1,u.2.2,t,b,rfl,sH _ _ h2,hp,sH _ _ Jy,sH _ _ hy,gu.2.1,gu.2.2,bt,bb,gu.ne,(by have:=nm.pos;omega),λa1 KL=>?_⟩;have r1:=aq (o:=bK (cO p u.2 (t,b)).1 (cO p u.2 (t,b)).2) KL;have e1:upd H' a1 (bK (cO p u.2 (t,b)).1 (cO p u.2 (t,b)).2) a1=some (bK (cO p u.2 (t,b)).1 (cO p u.2 (t,b)).2):=ae;change Ct _ (upd H' a1 (bK (cO p u.2 (t,b)).1 (cO p u.2 (t,b)).2)) _;generalize upd H' a1 (bK (cO p u.2 (t,b)).1 (cO p u.2 (t,b)).2)=H1 at r1 e1 |-;refine⟨jP,λtu KN=>?_⟩;have r2:=aq (o:=.tup [.ref pr,.ref a1]) KN;have N8:=r1.trans r2;refine k _ _ ⟨sH.trans N8,?_⟩;rw[Jz];unfold gX;rw[zJ];exact xC (aF.keep hu (az.of N8)) ⟨tu,pr,a1,rfl,ae,N8 _ _ (sH _ _ Jm),r2 _ _ e1⟩
   obtain⟨sH,hu⟩:=h;rw[zl,yK] at hu;intro l hl;have r1:=aq (o:=.lst us) hl;exact⟨fl,Ja,l,p,_,_,rfl,r1 _ _ (sH _ _ h2),hp,ae,aF.keep hu (az.of r1),G,λH2 u s2 N9=>q _ u ((sH.trans r1).trans s2) (N9.of (sH.trans r1))⟩
noncomputable def Ij (t:Tm):Int:=t.1.getLastD 0+1
noncomputable def aU (ts:List Tm):Int:=(Mx.jR none ((ts.filter λt=>!t.1.isEmpty).map Ij)).getD 0
noncomputable def uV (C:Addr):Sp:=λvs H Q _=>∃(s dx fl D:Addr)(zs:List V)(ts:List Tm),vs=[.ref s]/\H s=some (.ins C dx (pX fl D))/\H D=some (.lst zs)/\aF H zs ts/\ts.length<4000/\(∀t∈ts,t.1.length<4000)/\∀H',ay H H'->Q (.int (aU ts)) H'
theorem Cy:Ii ["self"] ["self"] (ar ue):=fu (by decide +kernel)
theorem vF {ks:List Int}(h:ks≠[]):p7 (ks.map V.int) (-1)=some (.int (ks.getLastD 0)):=by
 have hl:0<ks.length:=List.length_pos_iff.mpr h;unfold p7 Bc;rw[wC,DW (by decide),oO (by omega)];show(ks.map V.int)[((-1:Int)+(ks.length:Int)).toNat]?=_
 have e:((-1:Int)+(ks.length:Int)).toNat=ks.length-1:=by omega
 rw[e,BC,EC (by omega)]
 have g:ks.getLastD 0=ks[ks.length-1]'(by omega):=by
  rw[List.getLastD_eq_getLast?,List.getLast?_eq_getElem?,EC (by omega)];rfl
 rw[g];rfl
theorem yS (F:Fe K "reach" "Sum.reach" ue f fd)(c:Bu K mg C)(m_max:mg "max"=none):Ey P w K mg base (bZ P w) 1 f fd ["self"] (uV C):=by
 refine F.okN Cy (λvs H Q E h=>?_) (λIZ A outer s H vs Q E hr h=>?_)
 ·obtain⟨s,dx,fl,D,zs,ts,rfl,_⟩:=h;rfl
 ·obtain⟨s0,dx,fl,D,zs,ts,rfl,hs,hD,hz,hl,JN,q⟩:=h
  refine⟨_,av (aB (ajk (dG (g:=jm K 2 (cp (bJ 0) (cp (bJ 1) EE))) (N:=["product","number"]) (nl:=2) (js:=[]) (osc:=ar ue) ⟨rfl,rfl,by decide +kernel,by decide +kernel,by decide +kernel,rfl,.nil,by decide +kernel⟩ rfl
   (cb (br (pv 0) rfl))
   (λC fp s H=>(cC (X:=cu _ ["product","number"] _ C fp s H) rfl (aG (aC (X:=cu _ ["product","number"] _ C fp s H) (i:=0) (by show(["product","number"]:DV).Nodup;decide +kernel) rfl (Or.inl rfl) (Or.inr rfl)) (aG (aC (X:=cu _ ["product","number"] _ C fp s H) (i:=1) (by show(["product","number"]:DV).Nodup;decide +kernel) rfl (Or.inl rfl) (Or.inr rfl)) cj))))
   (λC fp s H=>iK (show PT _ _ (λσ H Q=>gU 0 σ H λx H'=>∃k,Fh K x H' k/\Q k H') from iy (pv 0) (λ_=>rfl)))
   (λC fp s H=>(aD cJ (aV (show FK _ (BS K) from bx) (pv 0) (vf oJ aj) (λ_ _=>rfl)) aj))) aj rfl (by rfl) m_max)),?_⟩
  refine⟨_,rfl,s0,C,dx,_,_,rfl,hs,c.cl,c.nT,rfl,D,rfl,⟨zs,aW.of hD⟩,?_⟩;refine⟨λi m xs σ' H'=>m=zs.length-i/\i<=zs.length/\ay H H'/\xs=(((ts.take i).filter λt=>!t.1.isEmpty).map Ij).map V.int/\∃o1 o2,σ'=[o1,o2],⟨zs.length,by simp,GH _,ay.refl _,rfl,none,none,rfl⟩,?_⟩;rintro i m xs σ' H' ⟨rfl,hi,sH,rfl,o1,o2,rfl⟩;have zl:=hz.length;have NP:=sH _ _ hD;refine⟨?_,?_⟩
  ·rw[wC,wC];exact xv (tT _ _) (xv (by simp;omega) (BX hl (by decide)))
  by_cases Jb:i<zs.length
  ·refine .inr ⟨⟨zs,zs[i],aW.of NP,by simp[Jb]⟩,λy H2 hy=>?_⟩;obtain⟨rfl,hy⟩:=hy;obtain⟨t,et,tr⟩:=bh hz (hy zs (aW.of NP));obtain⟨a,pr,nu,rfl,ha,Jm,Jy⟩:=tr.keep (az.of sH)
   have Jz:ts.take (i+1)=ts.take i++[t]:=by rw[x8,et];rfl
   refine⟨a,_,rfl,a7.of ha,rfl,_,_,rfl,_,_,rfl,rfl,?_⟩;refine⟨_,rfl,!t.1.isEmpty,.inr (.inl ⟨_,a7.of Jm,by simp⟩),?_⟩
   cases hb:t.1.isEmpty with
   |false =>
    have ne:t.1≠[]:=by intro z;rw[z] at hb;cases hb
    refine cm ⟨_,rfl,_,rfl,pr,_,-1,_,rfl,rfl,a7.of Jm,vF ne,_,_,rfl,rfl,zs.length-(i+1),by omega,rfl,Jb,sH,?_,_,_,rfl⟩;rw[Jz,yJ];simp[hb,Ij]
   |true =>
    refine bX ⟨zs.length-(i+1),by omega,rfl,Jb,sH,?_,_,_,rfl⟩;rw[Jz,yJ];simp[hb]
  ·have ei:i=zs.length:=by omega
   subst ei;refine .inl ⟨⟨zs,aW.of NP,AY _⟩,λL hL=>?_⟩;rw[zl,yK];refine⟨L,_,.int 0,rfl,rfl,aW.of ae,?_⟩;have q':=q _ (λb u z=>by rw[au (ax (sH _ _ z) hL)];exact sH _ _ z:ay H (upd H' L (.lst (((ts.filter λt=>!t.1.isEmpty).map Ij).map V.int))));unfold aU at q';show Q _ (upd H' L (.lst (((ts.filter λt=>!t.1.isEmpty).map Ij).map V.int)));generalize upd H' L (.lst (((ts.filter λt=>!t.1.isEmpty).map Ij).map V.int))=H9 at q' |-;generalize Mx.jR none ((ts.filter λt=>!t.1.isEmpty).map Ij)=ob at q' |-
   cases ob <;> exact q'
end K08
namespace L2
open PySem PySem.Spec PyProof.Rows
section
variable {prog:A9}{w:World}{A:Around}{E:zQ}{s:qm}{env:Env}
theorem lH {k v:Expr}{pos:Pos}{Q:zQ}
 (h:wpAny (model prog w) A (eval k env) (λkv s₁=>wpAny (model prog w) A (eval v env) (λvv s₂=>wpAny (model prog w) A (dictSet s.heap.objs.size kv vv) (λ_ s₃=>Q (.ref s.heap.objs.size) s₃) E s₂) E s₁) E
  {s with heap:=s.heap.push {cls:=.type "dict",data:=.dict #[]} }):
 wpAny (model prog w) A (eval (.Dict [some k] [v] pos) env) Q E s:=by
 rw[arm_eval_Dict,zip_pairTrees [some k] [v] env pos rfl rfl,dictDisplay_pairs _ (by intro z;cases z) (by show 1<17;decide)];refine IM (Ex (IM ?_));unfold subDict;refine IM (wpAny_alloc ?_);refine IM (CN ?_);rw[oO (by show 1<=15;decide)];refine IM (pairTrees_cons_walk (qx h (λkv s₁ h₁=>qx h₁ (λvv s₂ h₂=>pairTrees_nil_walk ?_) λ_ _ e=>e) λ_ _ e=>e));refine CN ?_;rw[Fv];refine IM (IM (IM (qx h₂ (λ_ s₃ h₃=>IV ?_) λ_ _ e=>e)));dsimp only;rw[List.forIn_nil];exact IV (IV (IV (IV h₃)))
end
section
variable {X:Cx}{k v:Expr}{tk tv:TE}{pos:Pos}
noncomputable def E4 (tk tv:TE):TE:=λσ H Q=>∀p,H p=none->tk σ (upd H p (.dT [])) λx H1=>tv σ H1 λy H2=>∃b ks,x=.ref b/\H2 b=some (.tup (ks.map kV))/\H2 p=some (.dT [])/\Q (.ref p) (upd H2 p (.dT [(ks,y)]))
theorem AV (hu:X.A.units+1<cLine)(hk:PE X k tk)(hv:PE X v tv):PE X (.Dict [some k] [v] pos) (E4 tk tv):=by
 intro pins s σ H Q I q;have hn:=I.hok.fresh (AY s.heap.objs.size);have I1:=I.laid (a:=s.heap.objs.size) (o:=.dT []) (h':=s.heap.push {cls:=.type "dict",data:=.dict #[]}) (t':=s.toks) (λ_ _ q=>xQ _ q) (AY _) (rS s.heap I.big);refine lH (bO (hk pins _ σ _ _ I1 (q _ hn)) λkv s1 ⟨x,H1,I2,rx,q1⟩=>bO (hv pins s1 σ H1 _ I2 q1) λvv s2 z'=>?_);obtain⟨y,H2,I3,ry,b,ks,ex,eb,e,q2⟩:=z';subst ex
 cases(show kv=Value.ref b from rx)
 obtain⟨z,hd,xs,rel,dd⟩:=C5 I3.hok e
 have hz:xs.length<=sizeLine:=by rw[<-zX rel];exact z
 refine wpAny_dictSet_heap (knd:=tupleKind (bR X.prog X.w)) (hsz:=hz) (show X.A.units<cLine by omega) (hZ I3.hok eb) dd λh' OO hs=>⟨.ref s.heap.objs.size,_,?_,rfl,q2⟩;obtain⟨qq,es,ep,hq,h2,h3,h4,_,h5⟩:=OO
 have hl:(eF [] ks y).length<=sizeLine:=by show 1<=sizeLine;decide
 refine p4 I3 (by rw[e];exact True.intro) hs ⟨qq,hq⟩ ⟨hl,hd,_,(rel.put ks eb ry).keeps λc ys ec=>?_,qq,es,ep,hq,h2,h3,h4,h5⟩;rw[au (nt ec e (λz=>nomatch z))];exact ec
end
end L2
namespace K08
open PySem L2 PySem.W Nm Srt
noncomputable abbrev HI:Stmt:=aQ (aZ 29) 15
noncomputable def Lk (K:Frag)(C CF:Addr)(p:Int)(H:Hp)(z:V)(b:Bool):Prop:=(∃s' p' c,z=.ref s'/\BV C CF H s' p' c/\b=decide (p'=p))\/∃t,tZ K H z t/\kitOne K t (.ref C)=some false/\b=false
variable {CF:Addr}{H:Hp}{p:Int}
theorem Ge {NN:Addr}{Q:VK}{E:XK}{fl Ja:Addr}(hf:H fl=some (.ins CF Ja (eT p)))(hp:FP p)(q:∀a,H a=none->Q (.ref a) (upd H a (bK 1 1))):si CF NN [.ref fl,.int 1,.int 1] H Q E:=by
 have m1:p≠0->(1:Int)%p=1:=λz=>by
  have:2<=p:=by
   rcases hp with h|h
   ·exact absurd h z
   ·exact(dC h).1
  exact qM (by decide) (by omega)
 refine⟨fl,Ja,p,.int 1,.int 1,_,_,rfl,hf,.int 1,.int 1,λt b e1 e2=>?_,λz=>by cases z⟩
 injection e1 with e1
 injection e2 with e2
 subst e1;subst e2;refine⟨fl,Ja,p,1,1,rfl,hf,hp,by unfold B;decide +kernel,(λ_ z=>by cases z),(λ_ _ a ha=>?_),(λz w=>by rw[m1 z] at w;cases w),λz _ v v0 v1 e a ha=>?_⟩
 ·have e1:dq 1 1=1:=by decide +kernel
  have e2:cz 1 1=1:=by decide +kernel
  rw[e1,e2];exact q a ha
 ·rw[CB] at e;rw[e];exact q a ha
variable {H':Hp}
theorem wG {s dx:Addr}{o u:HO}(h1:H s=none)(h2:H dx=none)(ne:dx≠s)(k:SameBut s (upd (upd H dx o) s u) H'):ay H H':=λb v e=>by
 have b1:b≠s:=ax e h1;have b2:b≠dx:=ax e h2;exact k b v (by rw[au b1,au b2];exact e) b1
variable {C:Addr}
theorem gD {fl Ja s dx l:Addr}{ys:List V}{ts:List Tm}{Q:Hp->Prop}{E:XK}(hs:H s=none)(Mh:H dx=none)(ne:dx≠s)(hf:H fl=some (.ins CF Ja (eT p)))(hp:FP p)(hl:H l=some (.lst ys))(ht:aF H ys ts)(G:EK p ts)(hP:∀t∈ts,Ee t.1)
 (q:∀H',ay H H'->BV C CF H' s p (tg p ts)->Q H'):
 iB C CF [.ref s,.ref fl,.ref l] (upd (upd H dx (.own s)) s (.ins C dx [])) (λv H2=>v=.non/\Q H2) E:=by
 have hS:ay H (upd (upd H dx (.own s)) s (.ins C dx [])):=(aq Mh).trans (aq (by rw[au (Hw ne)];exact hs));refine⟨s,dx,fl,Ja,p,_,ts,rfl,ae,hS _ _ hf,hp,.inr ⟨l,ys,rfl,hS _ _ hl,aF.keep ht (az.of hS)⟩,G,hP,λH' D zs k _ h1 h2 h3=>?_⟩;have sm:=wG hs Mh ne k;exact⟨rfl,q H' sm ⟨dx,fl,Ja,D,zs,h1,sm _ _ hf,h2,h3⟩⟩
theorem EY (hp:FP p):tg p [([],(1,1))]=[([],(1,1))]:=by
 have e:aO p [([],(1,1))]=[([],(1,1))]:=by simp[aO,cS]
 show eA (aO p [([],(1,1))])=_;rw[e];decide +kernel
theorem wX (p:Int)(R:Int->List Tm)(a:List Tm)(t:Tm):iH p R (a++[t])=iH p R a++tg p (gX p t.2 (pw p R t.1)):=by simp[iH]
theorem sW.same {R:Int->List Tm}{zs:List V}{k:Int}(h:sW C CF p R H zs k)(S:ay H H'):sW C CF p R H' zs k:=⟨h.1,let⟨s,e,z⟩:=h.2;⟨s,e,z.same S⟩⟩
theorem zR {d:Addr}{IY:List (List Key×V)}(hd:H d=some (.dT IY))(k:SameBut d H H'):az H H':=λb xs e=>k _ _ e λz=>by
 rw[z,hd] at e
 cases e
theorem Bl (hp:FP p):EK p [([],(1,1))]:=(show Lv p 2 1 [([],(1,1))] from⟨1,1,by decide,by decide,by unfold B;decide,by unfold B;decide,pG hp⟩).gth hp (by decide) (by decide)
noncomputable def lu (K:Frag)(C CF NS:Addr):Sp:=λvs H Q E=>∃(s:Addr)(p:Int)(a:List Tm)(y:V),vs=[.ref s,y]/\BV C CF H s p a/\FP p/\a.length<=6/\(∀t∈a,t.1.length<4000) /\
 ((∃t,tZ K H y t/\kitOne K t (.type "list")=some false/\∀H',ay H H'->E (.ref NS) none H') \/
 ∃l zs bs,y=.ref l/\H l=some (.lst zs)/\zs.length<4000/\Paired (Lk K C CF p H) zs bs /\
  ((bs.all id=false\/(zs.length:Int)<aU a)->∀H',ay H H'->E (.ref NS) none H') /\
  (bs.all id=true->aU a<=zs.length->∃(R:Int->List Tm)(Dk Mk:Int->Int)(Dd Nd:Int),0<Dd/\B 290 Dd/\(∀t∈a,T4 p Dd Nd t)/\(∀k∈l4,Rk p Dk Mk R k)/\(∀t∈a,∀k∈t.1,sW C CF p R H zs k)/\∀H' u,ay H H'->BV C CF H' u p (tg p (iH p R a))->Q (.ref u) H'))
theorem zW:Ii ["self","sums","known","terms","product","number"] ["self","sums"] (ar HI):=fu (by decide +kernel)
variable {P:A9}{w:World}{K:PySem.W.Frag}{mg:Fj}{base:Heap}
variable {f:Addr}{fd:FD}
set_option maxHeartbeats 1000000 in
theorem yT {fm fI NS NN:Addr}{T2 JT:FD}{tM:Tok}(F:Fe K "put_in" "Sum.put_in" HI f fd)(c:By K mg C)(cF:xi K mg CF)(mN:mg "NoSums"=some (.ref NS))(qN:jT K NS Bf mZ=true)
 (m_isinstance:mg "isinstance"=none)(m_list:mg "list"=none)(JJ:mg "all"=none)(m_len:mg "len"=none)
 (q2:Cm P w K mg base 2 zI C "is_like" (ph K C CF))
 (q3:Cm P w K mg base 1 ["self"] C "reach" (uV C))
 (FMa:Ey P w K mg base (bZ P w) 4 fm T2 DZ (si CF NN))(bMa:L2.bF K T2 DZ [.int 1 tM])(mMa:L2.Meth K CF "made" fm)
 (M:Mk K C fI)(FI:Ey P w K mg base (bZ P w) 6 fI JT iN (iB C CF))(bI:L2.bF K JT iN [])
 (q0:Ca P w K mg base 10 ET "put_product" (Gb C CF))
 (q4:Cm P w K mg base 9 ["self","number"] C "scaled" (C7 C CF NN))
 (q1:Ca P w K mg base 8 mY "built" (j8 C CF)):
 Ey P w K mg base (bZ P w) 11 f fd ["self","sums"] (lu K C CF NS):=by
 obtain⟨fp,TM,FPp,bPp,mPp,kPp⟩:=q0;obtain⟨fb,Zu,Qw,Qx,Qy,Qz⟩:=q1;obtain⟨fl,MK,VV,VW,VX⟩:=q2;obtain⟨fr,fdr,FRe,bRe,mRe⟩:=q3;obtain⟨fs,YR,FSc,bSc,mSc⟩:=q4;refine F.okE zW (λvs H Q E h=>?_) (λIZ A outer s H vs Q E hr h=>?_)
 ·obtain⟨s,p,a,y,rfl,_⟩:=h;rfl
 ·obtain⟨s0,p,a,y,rfl,S,hp,al,ak,q⟩:=h;have Kz:Hz 10 _:=hr;have V1:Hz 9 _:=Kz.mono (by decide);have LN:Hz 8 _:=Kz.mono (by decide);have MX:Hz 7 _:=Kz.mono (by decide);have Ke:Hz 4 _:=Kz.mono (by decide);have Kq:Hz 2 _:=Kz.mono (by decide);have Jr:Hz 1 _:=Kz.mono (by decide);have hu:=(hr.units:_+64<cLine)
  replace hu:=xv (xn (by decide:1<=64) _) hu
  refine⟨_,(ai (bf (PW.pt (iY (cy (cI (aI aY (by rfl) m_isinstance (by rfl) (ao (pv 1) (ao (eX (by rfl) m_list (by rfl) (show aE (.ty "list") (.type "list") from rfl)) ah rfl) rfl)))) (fV (cy (cI (aI (ku rfl) (by rfl) JJ (by rfl) (ao (dG (N:=["one","self"]) (nl:=1) (js:=[0]) (osc:=ar HI) ⟨rfl,rfl,by decide +kernel,by decide +kernel,by decide +kernel,rfl,(.cons ⟨rfl,by decide +kernel⟩ .nil),by decide +kernel⟩ rfl
   (cb (pv 1))
   (λCq fq sq Hq=>aC (i:=0) (by show(["one","self"]:DV).Nodup;decide +kernel) rfl (Or.inl rfl) (Or.inr rfl))
   (λCq fq sq Hq=>c6)
   (λCq fq sq Hq=>(bU (pv 1) c.c.cl VX VV Kq VW .nil af (ao (pv 0) ah rfl)))) ah rfl))))))) (av (dU Bq qN rfl cB (by rfl) mN (ao cN ah rfl))) aH)
   (ai (bf (aK kr (aI b9 (by rfl) m_len Gm (ao (pv 1) ah rfl)) (iX (pv 0) c.c.cl mRe FRe Jr bRe .nil af) (aJ _)) (av (dU Bq qN rfl cB (by rfl) mN (ao cN ah rfl))) aH)
   (ai (@aM _ _ 2 _ _ _ _ zW.nd rfl (Or.inl rfl) (AV hu (bw ah) (d3 M FI MX (by rfl) c.c.mgC bI .nil af (ao (br (pv 0) rfl) (ao (cq (ao (bw (ao (bw ah) (ao (bU (dvs:=[.int 1]) (br (pv 0) rfl) cF.cl mMa FMa Ke bMa (.cons ⟨_,rfl⟩ .nil) af (ao aj ah rfl)) ah rfl) rfl)) ah rfl)) ah rfl) rfl))) rfl (Or.inl rfl))
   (ai (@aM _ _ 3 _ _ _ _ zW.nd rfl (Or.inl rfl) (cq ah) rfl (Or.inl rfl))
   (gW.nox (ai (dD uy rfl (cb (br (pv 0) rfl)) (cC rfl (aG (aC (i:=4) zW.nd rfl (Or.inl rfl)) (aG (aC (i:=5) zW.nd rfl (Or.inl rfl)) cj)))
   (av (jV (rR wy PySem.F.slot_list_extend PySem.F.type_list_extend acw (pv 3) (ao (br (bU (aA FPp Kz (by rfl) mPp kPp bPp .nil af (ao (pv 2) (ao (pv 1) (ao (pv 4) ah rfl) rfl) rfl)) c.c.cl mSc FSc V1 bSc .nil af (ao (pv 5) ah rfl)) rfl) ah rfl)))))
   (av (aB (aA Qw LN (by rfl) Qy Qz Qx .nil af (ao (br (pv 0) rfl) (ao (pv 3) ah rfl) rfl)))))))))),?_⟩
  obtain⟨dx,N7,Ja,Dd,zt,h1,h2,h3,h4⟩:=S.ex
  rcases q with⟨t,ty,kt,q⟩|⟨l,zs,bs,rfl,hl,lz,lk,qE,q⟩
  ·refine⟨_,rfl,y,.ty "list",_,_,_,rfl,rfl,ty,kt,_,rfl,cm (cm ⟨by decide,q _ (ay.refl _)⟩)⟩
  ·refine⟨_,rfl,.ref l,.ty "list",_,_,_,rfl,rfl,.of (.lst hl),rfl,_,rfl,bX ?_⟩;have lb:=lk.length;refine⟨_,rfl,l,rfl,⟨_,aW.of hl⟩,?_⟩;refine lV (xs:=zs) (λi us H'=>H=H'/\us=(bs.take i).map V.bl) ⟨rfl,rfl⟩ (λi us H' hi h=>?_) (λi x us H' N hi hx h k=>?_) (λus H' h=>?_)
   ·obtain⟨rfl,rfl⟩:=h;refine⟨?_,aW.of hl⟩;rw[wC,EM];exact xv (show _<=4000 by omega) (by decide)
   ·obtain⟨rfl,rfl⟩:=h;obtain⟨b,eb,hb⟩:=bh lk hx
    have ebn:bs.take (i+1)=bs.take i++[b]:=by rw[x8,eb];rfl
    have fin:N ((bs.take i).map V.bl++[V.bl b]) H:=k _ _ ⟨rfl,by rw[ebn,zJ];rfl⟩;refine rD ⟨_,rfl,s0,dx,_,rfl,h1,rfl,_,rfl,s0,p,a,x,rfl,S,?_⟩
    rcases hb with⟨s',p',cc,e,S',V8⟩|⟨t,ty,kt,V8⟩
    ·exact .inl ⟨s',p',cc,e,S',by rw[<-V8];exact fin⟩
    ·exact .inr ⟨t,ty,kt,by rw[<-V8];exact fin⟩
   ·obtain⟨rfl,rfl⟩:=h;rw[lb,yK];intro L hL;have s1:=aq (o:=.lst (bs.map V.bl)) hL;have e1:upd H L (.lst (bs.map V.bl)) L=some (.lst (bs.map V.bl)):=ae;generalize upd H L _=H1 at s1 e1 |-
    have tr:Paired Gz (bs.map V.bl) bs:=by
     clear lb lk qE q e1
     induction bs with
     |nil=>exact .nil
     |cons b bs ih=>exact .cons rfl ih
    refine⟨L,_,bs,rfl,aW.of e1,tr,_,rfl,?_⟩
    cases hb:bs.all id with
    |false=>exact cm ⟨by decide,qE (.inl hb) _ s1⟩
    |true =>
     refine bX ?_;refine⟨_,rfl,l,zs,rfl,.inl (aW.of (s1 _ _ hl)),_,rfl,s0,dx,_,rfl,s1 _ _ h1,rfl,s0,dx,N7,Dd,zt,a,rfl,s1 _ _ h1,s1 _ _ h3,aF.keep h4 (az.of s1),by omega,ak,λH2 s2=>?_⟩;have O6:=s1.trans s2;refine⟨_,_,rfl,rfl,_,rfl,?_⟩
     by_cases QG:(zs.length:Int)<aU a
     ·rw[IW QG];exact cm ⟨by decide,qE (.inr QG) _ O6⟩
     ·rw[HW QG];obtain⟨R,Dk,Mk,Dd',Nd,d0,bd,Ob,KP,V9,q⟩:=q hb (by omega);refine bX ?_;have S2:=S.same O6;have KZ:=O6 _ _ h1;have Le:=O6 _ _ h2;intro d Ua;have s3:=aq (o:=.dT []) Ua;have e3:upd H2 d (.dT []) d=some (.dT []):=ae;generalize upd H2 d _=H3 at s3 e3 |-;refine⟨by decide,λtu KN=>?_⟩;have s4:=aq (o:=.tup []) KN;have e4:upd H3 tu (.tup []) tu=some (.tup []):=ae;generalize upd H3 tu _=H4 at s4 e4 |-;have O7:=s3.trans s4;refine⟨_,rfl,s0,C,dx,_,_,rfl,O7 _ _ KZ,c.c.cl,c.c.nF,rfl,?_⟩;refine⟨by decide,λt5 Ub=>?_⟩;have s5:=aq (o:=.tup []) Ub;have e5:upd H4 t5 (.tup []) t5=some (.tup []):=ae;generalize upd H4 t5 _=H5 at s5 e5 |-;have Oc:=O7.trans s5;refine⟨_,rfl,s0,C,dx,_,_,rfl,Oc _ _ KZ,c.c.cl,c.c.nF,rfl,N7,Ja,_,rfl,Oc _ _ Le,rfl,?_⟩;dsimp only[tC,c5,Ct];refine Ge (Oc _ _ Le) hp λn6 ZA=>?_;have s6:=aq (o:=bK 1 1) ZA;have e6:upd H5 n6 (bK 1 1) n6=some (bK 1 1):=ae;generalize upd H5 n6 _=H6 at s6 e6 |-;refine⟨jP,λt7 Uc=>?_⟩;have s7:=aq (o:=.tup [.ref t5,.ref n6]) Uc;have e7:upd H6 t7 (.tup [.ref t5,.ref n6]) t7=some (.tup [.ref t5,.ref n6]):=ae;generalize upd H6 t7 _=H7 at s7 e7 |-;refine⟨BZ,λl8 ZC=>?_⟩;have s8:=aq (o:=.lst [.ref t7]) ZC;have e8:upd H7 l8 (.lst [.ref t7]) l8=some (.lst [.ref t7]):=ae;generalize upd H7 l8 _=H8 at s8 e8 |-;have Ud:=s6.trans (s7.trans s8);have Ue:=Oc.trans Ud;intro x9 dx9 ZD QH ne9
      refine gD (ts:=[([],(1,1))]) ZD QH ne9 (Ue _ _ Le) hp e8 (.cons ⟨t7,t5,n6,rfl,s8 _ _ e7,Ud _ _ e5,(s7.trans s8) _ _ e6⟩ .nil) (Bl hp) (λt ht=>by
       have:t=([],(1,1)):=by simpa using ht
       rw[this]
       exact uE List.Pairwise.nil (λk hk=>(nomatch hk)) (by decide)) λH9 s9 S9=>?_
      rw[EY hp] at S9;have Ug:=s5.trans (Ud.trans s9);have Uh:=O7.trans Ug;have Wa:=Ug _ _ (s4 _ _ e3);refine⟨tu,[],rfl,Ug _ _ e4,Wa,?_⟩;have sb:SameBut d H9 (upd H9 d (.dT [([],.ref x9)])):=SameBut.upd
      have kn:∀T,(upd H9 d (.dT [([],.ref x9)])) T=none->Known C CF T p R (upd H9 d (.dT [([],.ref x9)])) [([],.ref x9)]:=by
       intro T hTn;refine⟨λks v e=>?_,by rw[ck (p:=(([]:List Key),V.ref x9)) (k:=gk []) rfl];rfl⟩
       by_cases z:([]:List Key)=gk ks
       ·rw[ck (p:=(([]:List Key),V.ref x9)) z] at e;have z:([]:List Int)=ks:=iI (show gk []=gk ks from z);subst z
        injection e with e
        obtain⟨Qb,fl9,Wb,D9,zs9,g1,g2,g3,g4⟩:=(S9.but Wa sb).ex;exact⟨x9,e.symm,Qb,fl9,Wb,D9,zs9,g1,g2,g3,g4,λw=>by rw[w,hTn] at g3;cases g3⟩
       ·rw[cg (p:=(([]:List Key),V.ref x9)) z] at e
        cases e
      have sm:ay H (upd H9 d (.dT [([],.ref x9)])):=λb o e=>by
       have:=O6 _ _ e;rw[au (ax this Ua)];exact Uh _ _ this
      have Oe:upd H9 d (.dT [([],.ref x9)]) d=some (.dT [([],.ref x9)]):=ae;generalize upd H9 d _=O8 at sm kn Oe sb |-;refine⟨GH _,λT hT=>?_⟩;have O9:=aq (o:=.lst []) hT;have Pa:upd O8 T (.lst []) T=some (.lst []):=ae;generalize upd O8 T _=Wc at O9 Pa |-
      have nT:T≠d:=λz=>by rw[z,Oe] at hT;cases hT
      have nTH:H T=none:=by
       cases z:H T with
       |none=>rfl
       |some o=>rw[sm _ _ z] at hT;cases hT
      have ndH:H d=none:=by
       cases z:H d with
       |none=>rfl
       |some o=>rw[O6 _ _ z] at Ua;cases Ua
      have Of:=sm.trans O9;clear s1 s2 s3 s4 s5 s6 s7 s8 s9 Ud Ue Oc O7 Ug Uh e1 e3 e4 e5 e6 e7 e8 ZD QH KN Ub ZA Uc ZC hL S9 Wa sb S2 KZ Le;have zl:=h4.length;obtain⟨lP,lL⟩:=p0 hp d0 bd KP Ob al;refine⟨_,rfl,s0,C,dx,_,_,rfl,Of _ _ h1,c.c.cl,c.c.nT,rfl,Dd,rfl,⟨_,aW.of (Of _ _ h3)⟩,?_⟩
      refine fM (K:=K) (a:=Dd) (xs:=zt) (λi σ H'=>ay H H'/\(∃IY,H' d=some (.dT IY)/\Known C CF T p R H' IY/\IY.length<=1+4*i)/\(∃ws,H' T=some (.lst ws)/\aF H' ws (iH p R (a.take i)))/\∃o4 o5,σ=[some (.ref s0),some (.ref l),some (.ref d),some (.ref T),o4,o5])
       ⟨Of,⟨_,O9 _ _ Oe,(kn T hT).same O9,(by show 1<=1+4*0;decide)⟩,⟨[],Pa,.nil⟩,_,_,rfl⟩ (λi σ H' _ h=>aW.of (h.1 _ _ h3)) ?_ ?_
      ·rintro i y σ Ui hy ⟨Ls,⟨IY,Og,QI,Wd⟩,⟨ws,Lu,hw⟩,o4,o5,rfl⟩;obtain⟨t,et,at_,pr,nu,rfl,JR,Jm,Jy⟩:=bh h4 hy;have tm:=HL et;have hi:i<a.length:=cE et;have t4:=Ob t tm;obtain⟨k4,Pb,kp4⟩:=ud t4.k
       have Jz:a.take (i+1)=a.take i++[t]:=by rw[x8,et];rfl
       refine⟨at_,_,rfl,a7.of (Ls _ _ JR),rfl,_,_,rfl,_,_,rfl,rfl,?_⟩;refine⟨_,rfl,.inl ⟨rfl,_,aW.of Lu⟩,_,rfl,_,rfl,_,rfl,d,l,pr,T,p,IY,zs,t.1,R,Dk,Mk,ws,rfl,hp,Lu,Og,QI,by omega,Ls _ _ hl,Ls _ _ Jm,k4,λk hk=>⟨(V9 t tm k hk).same Ls,KP k (Pb k hk)⟩,λUj QJ u K7 We Wf acS Su=>?_⟩;have Wg:=zR Og K7;have Ml:ay H Uj:=λb o e=>K7 _ _ (Ls _ _ e) (ax e ndH);have QK:=K7 _ _ Lu nT;have lw:=C8 hp (λk hk=>KP k (Pb k hk)) k4;obtain⟨du,_,_,Wh⟩:=Su.hd;have nn:=t4.n.cd.num;have gn:Gn p 4000 t.2:=t4.n.cd.gn hp (by decide) (by have:=t4.n.d0;omega) (t4.n.bd.mono (by decide)) (t4.n.bn.mono (by decide));refine⟨u,du,_,rfl,Wh,rfl,_,rfl,u,p,pw p R t.1,.ref nu,some (.int t.2.1,.int t.2.2),rfl,Su,hp,xv lw.len (by decide),λx hx=>(lw.gn hp (by decide) (by decide) x hx).1,.two (Ml _ _ Jy) (.int _) (.int _),?_,λ_=>⟨nu,_,_,rfl,Ml _ _ Jy⟩,λz=>by rw[vt nn] at z;cases z⟩;intro t' b' y ey MM Mw
       injection ey with ey
       subst ey;have e:=(Ml _ _ Jy).symm.trans MM
       injection e with e
       injection e with e
       injection e with e1 e
       injection e with e2 _
       injection e1 with e1
       injection e2 with e2
       subst e1;subst e2;refine⟨gn.2.1,gn.2.2,nn,(AD hp t4 KP).2.gth hp (by decide) (by decide),λPc x KO Sx=>?_⟩;obtain⟨dxx,flx,acU,Dx,zx,x1,x2,x3,x4⟩:=Sx.r.ex;refine⟨x,C,dxx,_,_,rfl,x1,c.c.cl,c.c.nT,rfl,T,Dx,ws,zx,rfl,rfl,KO _ _ QK,x3,?_,?_⟩
       ·rw[hw.length,x4.length];have h1:=((p0 hp d0 bd KP (ts:=a.take i) (λt ht=>Ob t (Hx ht)) (by rw[EM];omega)).1).len;have h2:=((AD hp t4 KP).2.tg hp (by decide)).len;have h2:(tg p (gX p (t.2.1,t.2.2) (pw p R t.1))).length<=32:=h2;exact GC (show _<=4000 by omega) (by decide)
       have QL:=KO _ _ QK
       have kL:az Pc (upd Pc T (.lst (ws++zx))):=az.upd λxs w=>by rw[QL] at w;cases w
       have sb:SameBut T Pc (upd Pc T (.lst (ws++zx))):=SameBut.upd;have Wi:=KO _ _ We;refine⟨λb o e=>?_,⟨QJ,by rw[au (Hw nT)];exact Wi,?_,by omega⟩,⟨_,ae,?_⟩,_,_,rfl⟩
       ·rw[au (ax e nTH)];exact KO _ _ (Ml _ _ e)
       ·exact(Wf.same KO).lst QL sb
       ·rw[Jz,wX];exact gy (aF.keep hw (Wg.trans ((az.of KO).trans kL))) (aF.keep x4 kL)
      ·rintro σ Ui ⟨Ls,⟨IY,Og,QI,Wd⟩,⟨ws,Lu,hw⟩,o4,o5,rfl⟩;rw[zl,yK] at hw;exact⟨_,rfl,s0,C,dx,_,_,rfl,Ls _ _ h1,c.c.cl,c.c.nF,rfl,_,rfl,N7,Ja,T,p,ws,_,rfl,Ls _ _ h2,hp,Lu,hw,lP.gth hp (by decide) (by decide),λUj u K7 Su=>q _ u (Ls.trans K7) Su.r⟩
noncomputable abbrev FR:Stmt:=(aZ 53)
noncomputable def Rows (R:Int->List Tm)(H:Hp)(zs:List V)(k:Int):Prop:=0<=k/\∃D us,zs[k.toNat]?=some (.ref D)/\H D=some (.lst us)/\aF H us (R k)
theorem Rows.same {R:Int->List Tm}{zs:List V}{k:Int}(h:Rows R H zs k)(S:ay H H'):Rows R H' zs k:=⟨h.1,let⟨D,us,e,a,b⟩:=h.2;⟨D,us,e,S _ _ a,aF.keep b (az.of S)⟩⟩
noncomputable def BR:Sp:=λvs H Q _=>∃(lt lr:Addr)(p Dd Nd:Int)(ys zs:List V)(a:List Tm)(R:Int->List Tm)(Dk Mk:Int->Int),vs=[.int p,.ref lt,.ref lr]/\FP p/\H lt=some (.lst ys)/\aF H ys a/\a.length<=6/\H lr=some (.lst zs)/\0<Dd/\B 290 Dd/\(∀t∈a,T4 p Dd Nd t)/\(∀k∈l4,Rk p Dk Mk R k)/\(∀t∈a,∀k∈t.1,Rows R H zs k) /\
 ∀H' D us,ay H H'->H' D=some (.lst us)->aF H' us (tg p (jK p R a))->Q (.ref D) H'
theorem jH:Ii ["_law_prime_here","_law_terms_here","_law_rows","_law_found","_law_product_here","_law_number_here","_law_part","_law_place"] CQ (ar FR):=fu (by decide +kernel)
theorem wK (p:Int)(R:Int->List Tm)(a:List Tm)(t:Tm):jK p R (a++[t])=jK p R a++fw p R [([],t.2)] t.1:=by simp[jK]
set_option maxHeartbeats 1000000 in
theorem xK (F:Fe K "_law_put_in" "_law_put_in" FR f fd)
 (q0:Ca P w K mg base 5 sV "_law_mult" Ab)
 (q1:Ca P w K mg base 4 B0 "_law_gather" A8):
 Ey P w K mg base (bZ P w) 6 f fd CQ BR:=by
 obtain⟨fm,T2,FMu,bMu,mMu,kMu⟩:=q0;obtain⟨fg,Qa,FG,bG,mG,kG⟩:=q1;refine F.okN jH (λvs H Q E h=>?_) (λIZ A outer s H vs Q E hr h=>?_)
 ·obtain⟨lt,lr,p,Dd,Nd,ys,zs,a,R,Dk,Mk,rfl,_⟩:=h;rfl
 ·obtain⟨lt,lr,p,Dd,Nd,ys,zs,a,R,Dk,Mk,rfl,hp,Jb,Qt,al,Wj,d0,bd,Ob,KP,hRo,q⟩:=h;have NZ:Hz 5 _:=hr;have Ke:Hz 4 _:=NZ.mono (by decide)
  refine⟨_,(ai (@aM _ _ 3 _ _ _ _ jH.nd rfl (Or.inl rfl) (cq ah) rfl (Or.inl rfl))
   (ai (dD uy rfl (cb (pv 1)) (cC rfl (aG (aC (i:=4) jH.nd rfl (Or.inl rfl)) (aG (aC (i:=5) jH.nd rfl (Or.inl rfl)) cj)))
   (ai (@aM _ _ 6 _ _ _ _ jH.nd rfl (Or.inl rfl) (cq (ao (bw (ao (bw ah) (ao (pv 5) ah rfl) rfl)) ah rfl)) rfl (Or.inl rfl))
   (ai (dD uy rfl (Al (pv 4)) (aC (i:=7) jH.nd rfl (Or.inl rfl))
   (av (@aM _ _ 6 _ _ _ _ jH.nd rfl (Or.inl rfl) (aA FMu NZ (by rfl) mMu kMu bMu .nil af (ao (pv 0) (ao (pv 6) (ao (aV bz (pv 2) (pv 7) (λ_ _=>rfl)) ah rfl) rfl) rfl)) rfl (Or.inl rfl))))
   (av (@aM _ _ 3 _ _ _ _ jH.nd rfl (Or.inl rfl) (aD pU (pv 3) (pv 6)) rfl (Or.inl rfl))))))
   (av (aB (aA FG Ke (by rfl) mG kG bG .nil af (ao (pv 0) (ao (pv 3) ah rfl) rfl)))))),?_⟩
  have za:=Qt.length;obtain⟨lP,lL⟩:=p0 hp d0 bd KP Ob al;refine⟨GH _,λL hL=>?_⟩;have s1:=aq (o:=.lst []) hL;have e1:upd H L (.lst []) L=some (.lst []):=ae;generalize upd H L _=H1 at s1 e1 |-;refine⟨_,rfl,lt,rfl,⟨_,aW.of (s1 _ _ Jb)⟩,?_⟩;refine fM (K:=K) (a:=lt) (xs:=ys) (λi σ H'=>ay H H'/\∃L ws,H' L=some (.lst ws)/\aF H' ws (jK p R (a.take i))/\∃o4 o5 o6 o7,σ=[some (.int p),some (.ref lt),some (.ref lr),some (.ref L),o4,o5,o6,o7]) ⟨s1,L,[],e1,.nil,_,_,_,_,rfl⟩ (λj σ H' _ h=>aW.of (h.1 _ _ Jb)) ?_ ?_
  ·rintro i y σ H2 hy ⟨s2,L2,ws,eL,hw,o4,o5,o6,o7,rfl⟩;obtain⟨t,et,at_,pr,nu,rfl,JR,Jm,Jy⟩:=bh Qt hy;have tm:=HL et;have hi:i<a.length:=cE et;have t4:=Ob t tm;obtain⟨k4,Pb,kp4⟩:=ud t4.k
   have Jz:a.take (i+1)=a.take i++[t]:=by rw[x8,et];rfl
   refine⟨at_,_,rfl,a7.of (s2 _ _ JR),rfl,_,_,rfl,_,_,rfl,rfl,?_⟩;refine⟨by decide,λt3 ht3=>?_⟩;have s3:=aq (o:=.tup []) ht3;have e3:upd H2 t3 (.tup []) t3=some (.tup []):=ae;generalize upd H2 t3 _=H3 at s3 e3 |-;refine⟨_,rfl,jP,λt5 Ub=>?_⟩;have s5:=aq (o:=.tup [.ref t3,.ref nu]) Ub;have e5:upd H3 t5 (.tup [.ref t3,.ref nu]) t5=some (.tup [.ref t3,.ref nu]):=ae;generalize upd H3 t5 _=H5 at s5 e5 |-;refine⟨BZ,λl6 Wk=>?_⟩;have s6:=aq (o:=.lst [.ref t5]) Wk;have e6:upd H5 l6 (.lst [.ref t5]) l6=some (.lst [.ref t5]):=ae;generalize upd H5 l6 _=H6 at s6 e6 |-;have Mm:=s5.trans s6;have QM:=s3.trans Mm;have Wl:=s2.trans QM;refine⟨_,rfl,pr,rfl,⟨_,a7.of (Wl _ _ Jm)⟩,?_⟩
   refine abc (K:=K) (a:=pr) (xs:=t.1.map V.int) (λj σ H'=>ay H H'/\(H' L2=some (.lst ws)/\aF H' ws (jK p R (a.take i)))/\∃l6 us,H' l6=some (.lst us)/\aF H' us (fw p R [([],t.2)] (t.1.take j))/\∃o7,σ=[some (.int p),some (.ref lt),some (.ref lr),some (.ref L2),some (.ref pr),some (.ref nu),some (.ref l6),o7])
    ⟨Wl,⟨QM _ _ eL,aF.keep hw (az.of QM)⟩,l6,_,e6,.cons ⟨t5,t3,nu,rfl,s6 _ _ e5,Mm _ _ e3,Wl _ _ Jy⟩ .nil,_,rfl⟩ (λj σ H' _ h=>a7.of (h.1 _ _ Jm)) ?_ ?_
   ·rintro j y σ H7 hy ⟨s7,⟨OZ,O5⟩,l7,us,e7,QN,o7,rfl⟩
    obtain⟨k,ek,rfl⟩:∃k,t.1[j]?=some k/\y=.int k:=by
     rw[BC] at hy;obtain⟨k,h1,h2⟩:=lM.mp hy;exact⟨k,h1,h2.symm⟩
    have km:=HL ek;obtain⟨k0,Dz,uz,ez,K5,Vt⟩:=(hRo t tm k km).same s7;have rk:=KP k (Pb k km);have lv:=C9 (ks:=t.1.take j) hp t4.n (λx hx=>KP x (Pb x (Hx hx))) (by rw[EM];omega)
    have ekn:t.1.take (j+1)=t.1.take j++[k]:=by rw[x8,ek];rfl
    refine⟨_,rfl,_,rfl,_,rfl,_,rfl,lr,zs,k,.ref Dz,rfl,rfl,aW.of (s7 _ _ Wj),(by rw[show k=((k.toNat:Nat):Int) by omega];exact gN ez),?_⟩;refine⟨p,l7,Dz,us,uz,_,R k,rfl,hp,e7,QN,K5,Vt,xv (Nat.mul_le_mul lv.len rk.lv.len) (by decide),lv.gn hp (by decide) (by decide),rk.lv.gn hp (by decide) (by decide),(lv.mul rk.lv hp).gth hp (by decide) (by decide),λH8 D8 u8 s8 hD8 ZE=>?_⟩;rw[<-oU,<-ekn] at ZE;exact⟨s7.trans s8,⟨s8 _ _ OZ,aF.keep O5 (az.of s8)⟩,D8,u8,hD8,ZE,_,rfl⟩
   ·rintro σ H7 ⟨s7,⟨OZ,O5⟩,l7,us,e7,QN,o7,rfl⟩;rw[wC,yK] at QN;have lv:=C9 hp t4.n (λx hx=>KP x (Pb x hx)) k4;refine⟨_,rfl,_,rfl,L2,l7,ws,us,rfl,rfl,OZ,e7,?_,λl9 Pd=>?_⟩
    ·rw[O5.length,QN.length];have h1:=((p0 hp d0 bd KP (ts:=a.take i) (λt ht=>Ob t (Hx ht)) (by rw[EM];omega)).2).len;have h2:=lv.len;exact GC (show _<=4000 by omega) (by decide)
    have s9:=aq (o:=.lst (ws++us)) Pd;refine⟨s7.trans s9,l9,_,ae,?_,_,_,_,_,rfl⟩;rw[Jz,wK];exact gy (aF.keep O5 (az.of s9)) (aF.keep QN (az.of s9))
  ·rintro σ H2 ⟨s2,L2,ws,eL,hw,o4,o5,o6,o7,rfl⟩;rw[za,yK] at hw;exact⟨_,rfl,_,rfl,L2,p,ws,_,rfl,hp,eL,hw,lL.gth hp (by decide) (by decide),λH' D zs s3 hD hz=>q H' D zs (s2.trans s3) hD hz⟩
noncomputable abbrev vT:Stmt:=aZ 52
structure Refs (K:Frag)(mg:Fj)(FE NF NO NS:Addr):Prop where
 mFE:mg "FalseError"=some (.ref FE)
 mNF:mg "NoFilling"=some (.ref NF)
 mNO:mg "NoOrder"=some (.ref NO)
 mNS:mg "NoSums"=some (.ref NS)
 mVE:mg "ValueError"=none
 kNS:xw K NS
 xNS:exmOne K (.ref NS) (.ref FE)=some true
 b1:kitOne K (.ref NS) (.ref NF)=some false
 b2:kitOne K (.ref NS) (.ref NO)=some false
 b3:kitOne K (.ref NS) (.ref NS)=some true
 b4:kitOne K (.ref NS) (.type "ValueError")=some true
noncomputable def uf (P:A9)(w:World)(K:Frag)(mg:Fj)(base:Heap)(kk:Nat)(NS:Addr):Sp:=λvs H Q _=>∃(f:Addr)(φ:Hp->VK->XK->Prop),vs=[.ref f]/\v8 P w K mg base kk f φ/\oh φ /\
 φ H (λ_ H'=>Q (.str "told") H') λcls d H'=>d=none/\cls=.ref NS/\∀KY,ay H' KY->Q (.str "sums") KY
theorem mj:Ii ["_law_call","_law_kept","e","_law_kinds"] ["_law_call"] (ar vT):=fu (by decide +kernel)
theorem BF {FE NF NO NS:Addr}{kk:Nat}(F:Fe K "_law_kind" "_law_kind" vT f fd)(R:Refs K mg FE NF NO NS)(m_isinstance:mg "isinstance"=none):Ey P w K mg base (bZ P w) (kk+1) f fd ["_law_call"] (uf P w K mg base kk NS):=by
 refine F.okN mj (λvs H Q E h=>?_) (λIZ A outer s H vs Q E hr h=>?_)
 ·obtain⟨f,φ,rfl,_⟩:=h;rfl
 ·obtain⟨g,φ,rfl,C,mono,q⟩:=h
  refine⟨_,ai (aM (i:=1) mj.nd rfl (Or.inl rfl) pI)
   (ai (ahs (i:=2) rfl rfl mj.nd rfl rfl (by rfl) R.mFE (λpins E'=>av (jV (show PE (Cx.tr (fX (bZ P w) P w K mg base ["_law_call","_law_kept","e","_law_kinds"] "_law_kind" (ar vT) f IZ A outer s H E).nox pins E') _ (yI P w K mg base kk 0 E') from afg (X:=(Cx.tr (fX (bZ P w) P w K mg base ["_law_call","_law_kept","e","_law_kinds"] "_law_kind" (ar vT) f IZ A outer s H E).nox pins E')) (E:=E') (i:=0) hr acM (pv 0)))) (λa=>av (aM (i:=1) mj.nd rfl (Or.inl rfl) (pv 2))))
   (ai (bf (uH (Fun (pv 1))) (av (aB cN)) aH)
   (ai (aM (i:=3) mj.nd rfl (Or.inl rfl) (cq
    (aX (aI aY (by rfl) m_isinstance (by rfl) (aX (pv 1) (aX (cG (by rfl) R.mNF (show aE (.ref NF) (.ref NF) from rfl)) ah)))
    (aX (aI aY (by rfl) m_isinstance (by rfl) (aX (pv 1) (aX (cG (by rfl) R.mNO (show aE (.ref NO) (.ref NO) from rfl)) ah)))
    (aX (aI aY (by rfl) m_isinstance (by rfl) (aX (pv 1) (aX (cG (by rfl) R.mNS (show aE (.ref NS) (.ref NS) from rfl)) ah))) ah)))))
   (ai (bf (PW.pt (iY (aK g9 (rR wy PySem.F.slot_list_count PySem.F.type_list_count ac3 (pv 3) (aX fh ah)) aj (aJ _))
    (fV (cy (cI (aI aY (by rfl) m_isinstance (by rfl) (aX (pv 1) (aX (eX (by rfl) R.mVE (by rfl) (show aE (.ty "ValueError") (.type "ValueError") from rfl)) ah)))))))) (av (aB cN)) aH)
   (av (aB (aV bz (cq (aX cN (aX cN (aX cN ah)))) (rR wy PySem.F.slot_list_index PySem.F.type_list_index ac5 (pv 3) (aX fh ah)) (λ_ _=>rfl)))))))),?_⟩
  refine⟨g,φ,rfl,C,mono H _ _ _ _ (λv H' z=>?_) (λcls d H' z=>?_) q⟩
  ·-- eA
   exact⟨_,rfl,_,rfl,cm z⟩
  ·obtain⟨rfl,z⟩:=z;obtain⟨rfl,z⟩:=z;refine⟨R.xNS,λa ha=>?_⟩;refine⟨_,rfl,?_⟩;refine⟨_,rfl,_,rfl,bX ?_⟩;have ea:(upd H' a (um a (.ref NS))) a=some (um a (.ref NS)):=ae;have ty:∀{H2:Hp},ay (upd H' a (um a (.ref NS))) H2->tZ K H2 (.ref a) (.ref NS):=λS=>.exc (S _ _ ea) R.kNS;refine⟨_,rfl,.ref a,.ref NF,_,_,_,rfl,rfl,ty (ay.refl _),R.b1,_,rfl,.ref a,.ref NO,_,_,_,rfl,rfl,ty (ay.refl _),R.b2,_,rfl,.ref a,.ref NS,_,_,_,rfl,rfl,ty (ay.refl _),R.b3,by decide,λp hp=>?_⟩;have ZF:=aq (o:=.lst [V.bl false,V.bl false,V.bl true]) hp;refine⟨_,rfl,.inl ⟨rfl,_,aW.of ae⟩,p,_,_,rfl,rfl,aW.of ae,by decide,rfl,rfl,_,rfl,bX ?_⟩;refine⟨_,rfl,.ref a,.ty "ValueError",_,_,_,rfl,rfl,ty ZF,R.b4,_,rfl,bX ?_⟩;refine⟨by decide,λr Oh=>?_⟩
   have Jm:p≠r:=λe=>by rw[<-e,ae] at Oh;cases Oh
   refine⟨_,rfl,.inl ⟨rfl,_,aW.of (by rw[au Jm];exact ae)⟩,p,_,_,2,rfl,rfl,aW.of (by rw[au Jm];exact ae),by decide,rfl,⟨_,rfl,rfl⟩,(λi z h e=>by
    have hi:i=0\/i=1:=by omega
    rcases hi with hi|hi <;> subst hi <;> cases e <;> rfl),by decide,?_⟩
   refine⟨r,_,_,_,rfl,rfl,aW.of ae,rfl,z _ ?_⟩;exact((aq ha).trans ZF).trans (aq Oh)
end K08
namespace L2
open PySem PySem.W
section
variable {X:Cx}
theorem Gy {K:Frag}(hK:X.K=K):FK X (BS K):=by subst hK;exact bx
variable {tg l:Expr}{tl:TE}
end
open PySem.Spec PyProof.Rows
end L2
namespace K08
open PySem L2 PySem.W Nm Srt
noncomputable def HX (ks:List Int):Prop:=ks.Pairwise (· < ·)/\(∀k∈ks,0<=k)/\ks.length<64
theorem iF:∀{ks:List Int}{k:Int}(d:Int),ks.Pairwise (· < ·)->k∈ks->k<=ks.getLastD d
 |[],_,_,_,h=>nomatch h
 |[a],k,d,_,h=>by
  have:k=a:=by simpa using h
  subst this;exact Hr _
 |a::b::r,k,d,hp,h=>by
  obtain⟨h1,h2⟩:=BJ.mp hp;have e:(a::b::r).getLastD d=(b::r).getLastD a:=rfl;rw[e]
  rcases Ef.mp h with rfl|h
  ·have:=iF k h2 (qG (a:=b) (l:=r));have:=h1 b qG;omega
  ·exact iF a h2 h
variable {ts:List Tm}
theorem yG {t:Tm}{k:Int}(ht:t∈ts)(hp:t.1.Pairwise (· < ·))(hk:k∈t.1):k<aU ts:=by
 have ne:t.1≠[]:=by intro z;rw[z] at hk;cases hk
 have hm:Ij t∈(ts.filter λt=>!t.1.isEmpty).map Ij:=HF.mpr ⟨t,rh.mpr ⟨ht,by
  cases q:t.1 with
  |nil=>exact absurd q ne
  |cons a r=>rfl⟩,rfl⟩
 obtain⟨b,e,_,hb⟩:=gQ (ns:=(ts.filter λt=>!t.1.isEmpty).map Ij) (by intro z;rw[z] at hm;cases hm);unfold aU;rw[e];have h1:=hb _ hm;have h2:=iF 0 hp hk;unfold Ij at h1;show k<b;omega
theorem qX {K:Frag}{H:Hp}{a:Addr}{ns:List Int}(h:H a=some (.tup (ns.map V.int))):aL K H (.tup (ns.map D.int)) (.ref a):=by
 unfold aL;exact⟨a,_,rfl,a7.of h,zw ns⟩
theorem CA (ns:List Int):i5 (.tup (ns.map D.int))=1:=by unfold i5;rw[DU]
theorem BY (ns:List Int):hV (.tup (ns.map D.int)) (.tup [])=ns.isEmpty:=by
 cases ns with
 |nil=>rfl
 |cons n ns=>rfl
theorem wm (h:∀t∈ts,HX t.1){m:Int}(hm:m∈(ts.filter λt=>!t.1.isEmpty).map Ij++[0])(hx:∀a∈(ts.filter λt=>!t.1.isEmpty).map Ij++[0],a<=m):m=aU ts:=by
 unfold aU
 by_cases ne:(ts.filter λt=>!t.1.isEmpty).map Ij=[]
 ·rw[ne] at hm |-
  have:m=0:=by simpa using hm
  rw[this];rfl
 ·obtain⟨b,e,b1,b2⟩:=gQ ne;rw[e];show m=b;have h1:=hx b (mi _ b1)
  rcases HB.mp hm with hm|hm
  ·have:=b2 m hm;omega
  ·have NG:m=0:=by simpa using hm
   obtain⟨t,ht,rfl⟩:=HF.mp b1;obtain⟨K6,MY⟩:=rh.mp ht
   have ne1:t.1≠[]:=by intro z;rw[z] at MY;cases MY
   obtain⟨k,r,ek⟩:=List.exists_cons_of_ne_nil ne1;obtain⟨p1,p2,p3⟩:=h t K6
   have km:k∈t.1:=by rw[ek];exact qG
   have h3:=iF 0 p1 km;have h4:=p2 k km;unfold Ij at h1;omega
theorem AH (h:∀t∈ts,HX t.1):0<=aU ts:=by
 unfold aU
 by_cases ne:(ts.filter λt=>!t.1.isEmpty).map Ij=[]
 ·rw[ne];exact Hr _
 ·obtain⟨b,e,b1,b2⟩:=gQ ne;rw[e];show 0<=b;obtain⟨t,ht,rfl⟩:=HF.mp b1;obtain⟨K6,MY⟩:=rh.mp ht
  have ne1:t.1≠[]:=by intro z;rw[z] at MY;cases MY
  obtain⟨k,r,ek⟩:=List.exists_cons_of_ne_nil ne1;obtain⟨p1,p2,p3⟩:=h t K6
  have km:k∈t.1:=by rw[ek];exact qG
  have h3:=iF 0 p1 km;have h4:=p2 k km;unfold Ij;omega
theorem zh {n:Int}(hn:0<=n)(h:∀t∈ts,∀k∈t.1,k<n):aU ts<=n:=by
 unfold aU
 by_cases ne:(ts.filter λt=>!t.1.isEmpty).map Ij=[]
 ·rw[ne];exact hn
 ·obtain⟨b,e,b1,b2⟩:=gQ ne;rw[e];show b<=n;obtain⟨t,ht,rfl⟩:=HF.mp b1;obtain⟨K6,MY⟩:=rh.mp ht
  have ne1:t.1≠[]:=by intro z;rw[z] at MY;cases MY
  have:t.1.getLastD 0∈t.1:=by
   rw[List.getLastD_eq_getLast?,List.getLast?_eq_some_getLast ne1];exact List.getLast_mem ne1
  have:=h t K6 _ this;unfold Ij;omega
end K08
namespace L2
open PySem PySem.Spec PyProof.Rows PySem.W
theorem i6:∀{as:List Addr}{us:wW},aN (as.map V.ref) us->us=as.map Value.ref
 |[],_,r=>by
  cases r
  rfl
 |a::as,_,r=>by
  cases r with
  |cons h t =>
   rw[i6 t,show _=Value.ref a from h];rfl
noncomputable def Bz (K:Frag):R2:=λx y H Q=>∃(a b:Addr)(as:List Addr),x=.ref a/\y=.ref b/\aW K H a (as.map V.ref)/\aW K H b (as.map V.ref)/\Q (.bl false) H
theorem wF {X:Cx}{k:Nat}(hr:Hz k X.A):gH X (compareOp .NotEq) (Bz X.K):=by
 intro pins s σ H x y v u Q I rx ry h;obtain⟨a,b,as,rfl,rfl,h1,h2,q⟩:=h
 cases rx
 cases ry
 obtain⟨its,rv,p1,_⟩:=I.list h1;obtain⟨Jc,JW,p2,_⟩:=I.list h2;have e1:=i6 rv;have e2:=i6 JW;subst e1;subst e2;have z:=SeqAt.RcNeAt.lists (A:=X.A) p1.isList p2.isList rfl (by have:=hr.units;omega) (e:=λ_=>true) λj h1 h2=>.same _;refine z X.prog X.w X.xe _ ⟨.bl false,H,I,?_,q⟩
 have t:(List.range (as.map Value.ref).toArray.size).all (λ_=>true)=true:=by simp
 rw[t];rfl
end L2
namespace K08
open PySem L2 PySem.W Nm Srt
noncomputable abbrev eM:Stmt:=(aZ 54)
noncomputable abbrev NW:List Str:=["_law_script","_law_k","_law_room_here","_law_prime_here","_law_field","_law_due","_law_rows","_law_one","_law_sums","_law_handed","_law_found","_law_plain","_law_far","_law_at","_law_thing","_law_odd","_law_reach"]
theorem dm:Ii NW ["_law_script"] (ar eM):=fu (by decide +kernel)
noncomputable abbrev XL (P:A9)(w:World)(K:Frag)(mg:Fj)(base:Heap)(fl:Addr)(IZ:Value)(A:Around)(outer:List Env)(s:qm)(H0:Hp)(E:XK):Cx:=(fX (bZ P w) P w K mg base NW "law" (ar eM) fl IZ A outer s H0 E).nox
noncomputable def yw (s:Stmt):List Stmt:=match s with
 | .For _ _ b _ _=>b
 |_=>[]
noncomputable def jC:List Stmt:=yw ((bA eM).getD 0 (.Pass ⟨0,0,0,0⟩))
noncomputable def sN:Expr->Expr
 | .Compare (.Call _ (e::_) _ _) _ _ _=>e
 | .BoolOp _ (_ :: .Compare (.Call _ (e::_) _ _) _ _ _::_) _=>e
 |_=>.Name "" ⟨0,0,0,0⟩
noncomputable def uK (s:Stmt):Expr:=match s with
 | .If t _ _ _=>t
 |_=>.Name "" ⟨0,0,0,0⟩
noncomputable abbrev yv:Expr:=sN (uK ((yw (jC.getD 16 (.Pass ⟨0,0,0,0⟩))).getD 1 (.Pass ⟨0,0,0,0⟩)))
noncomputable abbrev z9:Expr:=sN (uK (jC.getD 18 (.Pass ⟨0,0,0,0⟩)))
noncomputable abbrev AR:Expr:=sN (uK ((yw (jC.getD 20 (.Pass ⟨0,0,0,0⟩))).getD 0 (.Pass ⟨0,0,0,0⟩)))
noncomputable def mR (e:Expr):Scope:=match e with| .Lambda _ _ sc _=>sc|_=>ar eM
noncomputable def oG (e:Expr):Pos:=match e with| .Lambda _ _ _ p=>p|_=>⟨0,0,0,0⟩
noncomputable def sY (e:Expr):Expr:=match e with| .Lambda _ b _ _=>b|_=>.Name "" ⟨0,0,0,0⟩
noncomputable def yo (e:Expr):Arguments:=match e with| .Lambda ps _ _ _=>ps|_=>b8 eM
noncomputable abbrev Hn:Str:="law"++".<locals>."++"<lambda>"
noncomputable def E2:List Pos:=[oG yv,oG z9,oG AR]
theorem tK:∀p∈E2,∀p'∈E2,((p.line:Int)=p'.line/\(p.col:Int)=p'.col)->p=p':=by decide +kernel
noncomputable abbrev jO (Pt:Addr)(H:Hp):Prop:=lN E2 Hn Pt H
noncomputable def Kp (H H':Hp):Prop:=∀b o,H b=some o->(∀ps,o≠.tbl ps)->H' b=some o
variable {H H':Hp}
theorem Kp.of (s:ay H H'):Kp H H':=λb o e _=>s b o e
theorem Kp.trans {H1 H2:Hp}(a:Kp H H1)(b:Kp H1 H2):Kp H H2:=λc o e k=>b c o (a c o e k) k
theorem Kp.bt {Pt:Addr}{ps:IU}(e:H Pt=some (.tbl ps))(s:ui Pt H H'):Kp H H':=λb o h k=>s b o h λz=>by
 rw[z,e] at h;exact k _ (Option.some.inj h).symm
theorem Kp.tup (k:Kp H H'):az H H':=λb xs e=>k b _ e λ_ z=>by cases z
variable {a:Addr}
theorem Kp.lst (k:Kp H H'){xs:List V}(e:H a=some (.lst xs)):H' a=some (.lst xs):=k a _ e λ_ z=>by cases z
variable {C:Addr}
theorem Kp.ins (k:Kp H H'){dx:Addr}{fs:List (Str×V)}(e:H a=some (.ins C dx fs)):H' a=some (.ins C dx fs):=k a _ e λ_ z=>by cases z
variable {CF s:Addr}{p:Int}{ts:List Tm}
theorem BV.kp (h:BV C CF H s p ts)(k:Kp H H'):BV C CF H' s p ts:=by
 obtain⟨dx,fl,Ja,D,zs,h1,h2,h3,h4⟩:=h.ex;exact⟨dx,fl,Ja,D,zs,k.ins h1,k.ins h2,k.lst h3,aF.keep h4 k.tup⟩
variable {x:V}
section
variable {K:Frag}{mg:Fj}{C CF NS s l:Addr}{H:Hp}{p Dd Nd:Int}{a:List Tm}{zs:List V}{R:Int->List Tm}{Dk Mk:Int->Int}{Q:VK}{E:XK}
structure Due (p Dd Nd:Int)(a:List Tm):Prop where
 d0:0<Dd
 bd:B 290 Dd
 t4:∀t∈a,T4 p Dd Nd t
 len:a.length<=6
 self:tg p a=a
theorem Due.short (h:Due p Dd Nd a):∀t∈a,t.1.length<4000:=λt ht=>by have:=(ud (h.t4 t ht).k).1;omega
theorem Due.num (h:Due p Dd Nd a):ba p a:=λt ht=>(h.t4 t ht).n.cd.num
theorem Due.prw (h:Due p Dd Nd a):∀t∈a,HX t.1:=λt ht=>by
 obtain⟨h1,h2,h3⟩:=ud (h.t4 t ht).k;refine⟨h3,λk hk=>?_,by omega⟩;have:=h2 k hk;simp at this;omega
theorem Due.four (h:Due p Dd Nd a){t:Tm}(ht:t∈a){k:Int}(hk:k∈t.1):0<=k/\k<4/\k<aU a:=by
 have hl:=(ud (h.t4 t ht).k).2.1 k hk;have h3:=yG ht (h.prw t ht).1 hk;simp at hl;omega
theorem Due.reach (h:Due p Dd Nd a):0<=aU a/\aU a<=4:=⟨AH h.prw,zh (by decide) λt ht k hk=>(h.four ht hk).2.1⟩
theorem pq (S:BV C CF H s p a)(hp:FP p)(d:Due p Dd Nd a)(KP:∀k∈l4,Rk p Dk Mk R k)(hl:H l=some (.lst zs))(lz:zs.length<4000)(hz:∀z∈zs,∃s' c,z=.ref s'/\BV C CF H s' p c)(QG:aU a<=zs.length)(V9:∀t∈a,∀k∈t.1,sW C CF p R H zs k)
 (q:∀H' u,ay H H'->BV C CF H' u p (tg p (iH p R a))->Q (.ref u) H'):lu K C CF NS [.ref s,.ref l] H Q E:=by
 have al:(zs.map λ_=>true).all id=true:=by
  rw[CL,yV];exact λ_ _=>rfl
 refine⟨s,p,a,.ref l,rfl,S,hp,d.len,d.short,.inr ⟨l,zs,zs.map λ_=>true,rfl,hl,lz,?_,λz=>?_,λ_ _=>⟨R,Dk,Mk,Dd,Nd,d.d0,d.bd,d.t4,KP,V9,q⟩⟩⟩
 ·have:∀ws:List V,(∀z∈ws,∃s' c,z=.ref s'/\BV C CF H s' p c)->Paired (Lk K C CF p H) ws (ws.map λ_=>true):=by
   intro ws
   induction ws with
   |nil=>intro _;exact .nil
   |cons z ws ih =>
    intro h;obtain⟨s',c,e,S'⟩:=h z qG;exact .cons (.inl ⟨s',p,c,e,S',by simp⟩) (ih λy hy=>h y (AM _ hy))
  exact this zs hz
 ·rcases z with z|z
  ·rw[al] at z;cases z
  ·omega
theorem Ay (S:BV C CF H s p a)(hp:FP p)(d:Due p Dd Nd a)(hl:H l=some (.lst zs))(lz:zs.length<4000)(hz:∀z∈zs,∃s' c,z=.ref s'/\BV C CF H s' p c)(QG:(zs.length:Int)<aU a)
 (q:∀H',ay H H'->E (.ref NS) none H'):lu K C CF NS [.ref s,.ref l] H Q E:=by
 refine⟨s,p,a,.ref l,rfl,S,hp,d.len,d.short,.inr ⟨l,zs,zs.map λ_=>true,rfl,hl,lz,?_,λ_=>q,λ_ z=>by omega⟩⟩
 have:∀ws:List V,(∀z∈ws,∃s' c,z=.ref s'/\BV C CF H s' p c)->Paired (Lk K C CF p H) ws (ws.map λ_=>true):=by
  intro ws
  induction ws with
  |nil=>intro _;exact .nil
  |cons z ws ih =>
   intro h;obtain⟨s',c,e,S'⟩:=h z qG;exact .cons (.inl ⟨s',p,c,e,S',by simp⟩) (ih λy hy=>h y (AM _ hy))
 exact this zs hz
noncomputable def IA (K:Frag)(C CF:Addr)(p:Int)(H:Hp)(x:V):Prop:=(∃s' p' c,x=.ref s'/\BV C CF H s' p' c/\p'≠p)\/∃t,tZ K H x t/\kitOne K t (.ref C)=some false
theorem DQ {ps qs:List V}(S:BV C CF H s p a)(hp:FP p)(d:Due p Dd Nd a)(hl:H l=some (.lst (ps++[x]++qs)))(lz:(ps++[x]++qs).length<4000)(hz:∀z∈ps++qs,∃s' c,z=.ref s'/\BV C CF H s' p c)(ox:IA K C CF p H x)
 (q:∀H',ay H H'->E (.ref NS) none H'):lu K C CF NS [.ref s,.ref l] H Q E:=by
 have key:∀ws:List V,(∀z∈ws,∃s' c,z=.ref s'/\BV C CF H s' p c)->Paired (Lk K C CF p H) ws (ws.map λ_=>true):=by
  intro ws
  induction ws with
  |nil=>intro _;exact .nil
  |cons z ws ih =>
   intro h;obtain⟨s',c,e,S'⟩:=h z qG;exact .cons (.inl ⟨s',p,c,e,S',by simp⟩) (ih λy hy=>h y (AM _ hy))
 have kx:Lk K C CF p H x false:=by
  rcases ox with⟨s',p',c,e,S',ne⟩|⟨t,ty,kt⟩
  ·exact .inl ⟨s',p',c,e,S',(HW ne).symm⟩
  ·exact .inr ⟨t,ty,kt,rfl⟩
 refine⟨s,p,a,.ref l,rfl,S,hp,d.len,d.short,.inr ⟨l,_,(ps.map λ_=>true)++[false]++(qs.map λ_=>true),rfl,hl,lz,gy (gy (key ps λz OU=>hz z (mi _ OU)) (.cons kx .nil)) (key qs λz OU=>hz z (Il _ OU)),λ_=>q,λz=>?_⟩⟩;simp at z
theorem zM {y:V}{t:Value}(S:BV C CF H s p a)(hp:FP p)(d:Due p Dd Nd a)(ty:tZ K H y t)(kt:kitOne K t (.type "list")=some false)(q:∀H',ay H H'->E (.ref NS) none H'):lu K C CF NS [.ref s,y] H Q E :=
 ⟨s,p,a,y,rfl,S,hp,d.len,d.short,.inl ⟨t,ty,kt,q⟩⟩
theorem oW {vs:List V}:oh (λH Q E=>lu K C CF NS vs H Q E):=by
 intro H Q Q' E E' hQ hE h;obtain⟨s,p,a,y,e,S,hp,al,ak,h⟩:=h;refine⟨s,p,a,y,e,S,hp,al,ak,?_⟩
 rcases h with⟨t,ty,kt,q⟩|⟨l,zs,bs,e,hl,lz,lk,q1,q2⟩
 ·exact .inl ⟨t,ty,kt,λH' s'=>hE _ _ _ (q H' s')⟩
 ·refine .inr ⟨l,zs,bs,e,hl,lz,lk,λz H' s'=>hE _ _ _ (q1 z H' s'),λz1 z2=>?_⟩;obtain⟨R,Dk,Mk,Dd,Nd,h1,h2,h3,h4,h5,h6⟩:=q2 z1 z2;exact⟨R,Dk,Mk,Dd,Nd,h1,h2,h3,h4,h5,λH' u s' S'=>hQ _ _ (h6 H' u s' S')⟩
theorem De {y:V}(h:lu K C CF NS [.ref s,y] H Q E):∃dx fl D,H s=some (.ins C dx (pX fl D)):=by
 obtain⟨s',p,a,y,e,S,_⟩:=h
 injection e with e _
 injection e with e
 subst e;exact S.hd
end
noncomputable def GN (K:Frag)(C CF NS s ls:Addr)(n:Nat):Hp->VK->XK->Prop:=λH Q E=>∃zs,H ls=some (.lst zs)/\(∃dx fl D,H s=some (.ins C dx (pX fl D)))/\∀l' H',ay H H'->H' l'=some (.lst (zs.take n))->lu K C CF NS [.ref s,.ref l'] H' Q E
variable {K:Frag}
theorem BH {NS ls:Addr}{n:Nat}:oh (GN K C CF NS s ls n):=by
 intro H Q Q' E E' hQ hE h;obtain⟨zs,e,h0,h⟩:=h;exact⟨zs,e,h0,λl' H' s' e'=>oW _ _ _ _ _ hQ hE (h l' H' s' e')⟩
section
variable {P:A9}{w:World}{K:PySem.W.Frag}{mg:Fj}{base:Heap}
variable {f c' C CF NS fW s:Addr}{fdW:FD}{oc fo:Obj}{pm ctv:Value}{cs:List Addr}{os:List Obj}{ys:DV}{vs:List V}{e:Expr}{φ0:Hp->VK->XK->Prop}{H7:Hp}{Q:VK}{E:XK}
theorem oH (hfo:fo=kla_obj "<lambda>" Hn (yo e) (sY e) (mR e) (ys.zip cs).reverse pm c' ctv)
 (hb:bindArgs (kla_fn "<lambda>" Hn (yo e) (sY e) (mR e) (ys.zip cs).reverse pm (.ref c') ctv) ⟨[],[]⟩=pure [])(hk:(mR e).kind=.function/\(mR e).isCoroutine=false/\(mR e).isGenerator=false/\(∀x∈(mR e).names,x.2≠.cell)/\(∀q∈(mR e).names,q.2=.free->q.1∈ys)/\(∀y∈ys,(mR e).names.lookup y=some .free)/\ys.Nodup)
 (nc:cs.Nodup)(lc:ys.length=cs.length)(ro:Paired tL vs os)(lv:vs.length=ys.length)(JF:fO Hn oc)(mono:oh φ0)
 (Jj:∀(A:Around)(outer:List Env)(s:qm)(H:Hp)(Q:VK)(E:XK),Hz 11 (A.deeper (envX Hn (mR e) s.heap.objs.size f (.ref c') (ys.zip cs).reverse))->φ0 H Q E->∃t,PE (FJ P w K mg base ys Hn (mR e) f (.ref c') (ys.zip cs).reverse A outer s H E) (sY e) t/\t (vs.map some) H Q)
 (hf:H7 f=some (dw f fo))(Jh:H7 c'=some (dw c' oc))(z:∀c∈cs,H7 c=none)(h:∀Q0 E0,(∀H',ay H7 H'->E0 (.ref NS) none H')->φ0 H7 Q0 E0)
 (i:∀H',gc (cs.zip os) H'->ay H7 (fU (cs.zip os) H')->Q (.str "sums") H'):uf P w K mg base 12 NS [.ref f] (dR (cs.zip os) H7) Q E:=by
 subst hfo;obtain⟨k1,k2,k3,k4,k5,k6,k7⟩:=hk;refine⟨f,_,rfl,ua (φ0:=φ0) (k:=11) hb k1 k2 k3 k4 k5 k6 k7 nc lc ro lv JF Jj,zm mono,CC hf Jh z (h _ _ λH8 s8=>⟨rfl,rfl,λH9 s9=>?_⟩)⟩;obtain⟨i1,i2⟩:=HC z ((zF s8).trans s9);exact i H9 i1 i2
end
noncomputable def qy (K:Frag)(H:Hp)(a:Addr)(ns:List Int):Prop:=(∃o,H a=some (.frz o (.lst (ns.map V.int))))\/∃(o:Obj)(its:IU)(n:Nat),K.lookup a=some o/\o.cls=.type "list"/\o.dict=none/\o.data=.seq its n/\its.size<=sizeLine/\L2.aN (ns.map V.int) its.toList
variable {ns:List Int}
theorem qy.sq (h:qy K H a ns):aW K H a (ns.map V.int):=by
 rcases h with⟨o,h⟩|h
 ·exact .inl (.inr ⟨o,h⟩)
 ·exact .inr h
theorem qy.kp (h:qy K H a ns)(S:Kp H H'):qy K H' a ns:=by
 rcases h with⟨o,h⟩|h
 ·exact .inl ⟨o,S _ _ h λ_ z=>by cases z⟩
 ·exact .inr h
theorem qy.but {r:Addr}(h:qy K H a ns)(R:aR H r)(S:SameBut r H H'):qy K H' a ns:=by
 rcases h with⟨o,h⟩|h
 ·refine .inl ⟨o,S _ _ h λz=>?_⟩;obtain⟨l,x,e,_⟩:=R;rw[z,e] at h
  cases h
 ·exact .inr h
theorem gC {ls:List Pos}{q:Str}{Pt r:Addr}(h:lN ls q Pt H)(R:aR H r)(S:SameBut r H H'):lN ls q Pt H':=by
 obtain⟨l,x,e,_⟩:=R;exact h.but e S
structure m9 (P:A9)(w:World)(K:Frag)(mg:Fj)(base:Heap)(C CF Kt NS fI KA cc Pt:Addr)(JT Ju:FD):Prop where
 c:By K mg C
 cF:xi K mg CF
 kl:kitOne K (.ref C) (.type "list")=some false
 M:Mk K C fI
 FI:Ey P w K mg base (bZ P w) 6 fI JT iN (iB C CF)
 bI:L2.bF K JT iN []
 MF:Mk K CF KA
 FFI:Ey P w K mg base (bZ P w) 2 KA Ju FY (sJ CF Kt)
 bFFI:L2.bF K Ju FY []
 ne:findIn K (.ref C) "__ne__"=some (some (.builtin "object.__ne__"))
 eq:∃f fd,Ey P w K mg base (bZ P w) 2 f fd Ac (yn K C CF)/\L2.bF K fd Ac []/\findIn K (.ref C) "__eq__"=some (some (.ref f))/\isFn K (.ref f)=true
 gather:Ca P w K mg base 4 B0 "_law_gather" A8
 room:Ca P w K mg base 1 E8 "_law_room" (zP K)
 prime:Ca P w K mg base 2 ["_law_room_here"] "_law_prime" E5
 terms:Ca P w K mg base 3 A6 "_law_terms" E9
 take:Ca P w K mg base 1 jN "_law_take" E1
 lputin:Ca P w K mg base 6 CQ "_law_put_in" BR
 kind:Ca P w K mg base 13 ["_law_call"] "_law_kind" (uf P w K mg base 12 NS)
 putin:Cm P w K mg base 11 ["self","sums"] C "put_in" (lu K C CF NS)
 sterms:Cm P w K mg base 1 ["self"] C "terms" (qW C CF)
 hd:CodeHd base cc Pt
 bm:∃bm ob,mg "__builtins__"=some (.ref bm)/\bm≠builtinsNs/\base.get? bm=some ob/\ob.cls=.type "module"/\ob.dict=some builtinsNs/\ob.data=.plain
 m_max:mg "max"=none
 m_min:mg "min"=none
 m_len:mg "len"=none
 m_range:mg "range"=none
 m_int:mg "int"=none
 m_isinstance:mg "isinstance"=none
 m_list:mg "list"=none
 m_tuple:mg "tuple"=none
structure Sx (p Dd Nd:Int)(a:List Tm)(R:Int->List Tm)(Dk Mk:Int->Int)(n:Nat)(ρs σs:List Addr):Prop where
 hp:FP p
 d:Due p Dd Nd a
 rk:∀k:Nat,k<n->Rk p Dk Mk R k
 n4:4<=n
 n6:n<=6
 lr:ρs.length=n
 ls:σs.length=n
structure Fc (C CF:Addr)(p:Int)(a:List Tm)(R:Int->List Tm)(n:Nat)(fl ld lr s1 ls fo:Addr)(yd:List V)(ρs σs:List Addr)(H:Hp):Prop where
 f:∃Ja,H fl=some (.ins CF Ja (eT p))
 d:H ld=some (.lst yd)
 td:aF H yd a
 r:H lr=some (.lst (ρs.map V.ref))
 s:H ls=some (.lst (σs.map V.ref))
 one:BV C CF H s1 p a
 found:BV C CF H fo p (tg p (iH p R a))
 row:∀k:Nat,k<n->∃ρ us σ,ρs[k]?=some ρ/\H ρ=some (.lst us)/\aF H us (R k)/\σs[k]?=some σ/\BV C CF H σ p (R k)
section
variable {C CF:Addr}{p Dd Nd:Int}{a:List Tm}{R:Int->List Tm}{Dk Mk:Int->Int}{n:Nat}{fl ld lr s1 ls fo:Addr}{yd:List V}{ρs σs:List Addr}{H H':Hp}
theorem Fc.kp (h:Fc C CF p a R n fl ld lr s1 ls fo yd ρs σs H)(k:Kp H H'):Fc C CF p a R n fl ld lr s1 ls fo yd ρs σs H' :=
 ⟨let⟨Ja,e⟩:=h.f;⟨Ja,k.ins e⟩,k.lst h.d,aF.keep h.td k.tup,k.lst h.r,k.lst h.s,h.one.kp k,h.found.kp k,λj hj=>let⟨ρ,us,σ,e1,e2,e3,e4,e5⟩:=h.row j hj;⟨ρ,us,σ,e1,k.lst e2,aF.keep e3 k.tup,e4,e5.kp k⟩⟩
theorem Fc.same (h:Fc C CF p a R n fl ld lr s1 ls fo yd ρs σs H)(k:ay H H'):Fc C CF p a R n fl ld lr s1 ls fo yd ρs σs H':=h.kp (Kp.of k)
theorem Fc.all (h:Fc C CF p a R n fl ld lr s1 ls fo yd ρs σs H)(x:Sx p Dd Nd a R Dk Mk n ρs σs):∀z∈σs.map V.ref,∃s' c,z=.ref s'/\BV C CF H s' p c:=λz hz=>by
 obtain⟨σ,hσ,rfl⟩:=HF.mp hz;obtain⟨j,ej⟩:=y4.mp hσ;obtain⟨ρ,us,σ',_,_,_,e4,e5⟩:=h.row j (by have:=cE ej;have:=x.ls;omega);have e:σ = σ':=Option.some.inj (ej.symm.trans e4);exact⟨σ,_,rfl,e▸e5⟩
theorem Fc.ami (h:Fc C CF p a R n fl ld lr s1 ls fo yd ρs σs H)(x:Sx p Dd Nd a R Dk Mk n ρs σs){t:Tm}(ht:t∈a){k:Int}(hk:k∈t.1){m:Nat}(hm:k<m):sW C CF p R H ((σs.map V.ref).take m) k:=by
 obtain⟨k0,k4,_⟩:=x.d.four ht hk;obtain⟨ρ,us,σ,e1,e2,e3,e4,e5⟩:=h.row k.toNat (by have:=x.n4;omega);refine⟨k0,σ,?_,?_⟩
 ·rw[tw (by omega),BC,e4];rfl
 ·rw[show((k.toNat:Nat):Int)=k by omega] at e5;exact e5
theorem Sx.r4 (x:Sx p Dd Nd a R Dk Mk n ρs σs):∀k∈l4,Rk p Dk Mk R k:=λk hk=>by
 have h:0<=k/\k<4:=by
  simp at hk;omega
 have:=x.rk k.toNat (by have:=x.n4;omega);rw[show((k.toNat:Nat):Int)=k by omega] at this;exact this
end
theorem yZ (xs:List V)(j:Nat):eU xs (some (j:Int)) none=xs.drop j:=by
 unfold eU;rw[HT.rM,HT.vj,List.take_of_length_le (by rw[wo];omega)]
 by_cases h:j<=xs.length
 ·rw[Nat.min_eq_left h]
 ·rw[Nat.min_eq_right (by omega),List.drop_eq_nil_of_le (AY _),List.drop_eq_nil_of_le (by omega)]
theorem gW.imp' {X:Cx}{st:Ih}{t u:TS}(h:gW X st t)(i:∀D σ H,u D σ H->t D σ H):gW X st u:=λpins s σ H D I q=>h pins s σ H D I (i D σ H q)
variable {mg:Fj}
theorem Dh {s':Addr}{a:List Tm}{Q:VK}(c:By K mg C)(S:BV C CF H s p a)(S':BV C CF H s' p a){X:XK}(q:Q (.bl false) H):uI K C (yn K C CF) X true (.ref s) (.ref s') H Q:=by
 obtain⟨dx,_,_,h⟩:=S.hd;obtain⟨Qb,_,_,h'⟩:=S'.hd;refine⟨s,dx,_,.ref C,rfl,h,c.ty h',pB,s,p,a,.ref s',rfl,S,.inl ⟨s',p,a,rfl,S',_,rfl,?_⟩⟩;rw[dO];simpa using q
inductive xE (C CF:Addr)(H:Hp):V->Prop where
 |non:xE C CF H .non
 |tup {a:Addr}{xs:List V}:H a=some (.tup xs)->xE C CF H (.ref a)
 |dK {a:Addr}:H a=some (.dK [])->xE C CF H (.ref a)
 |sum {s:Addr}{p:Int}{ts:List Tm}:BV C CF H s p ts->xE C CF H (.ref s)
theorem xE.kp (h:xE C CF H x)(k:Kp H H'):xE C CF H' x:=by
 cases h with
 |non=>exact .non
 |tup e=>exact .tup (k _ _ e λ_ z=>by cases z)
 |dK e=>exact .dK (k _ _ e λ_ z=>by cases z)
 |sum S=>exact .sum (S.kp k)
theorem xE.ty (h:xE C CF H x)(c:By K mg C)(kl:kitOne K (.ref C) (.type "list")=some false):∃t,tZ K H x t/\kitOne K t (.type "list")=some false:=by
 cases h with
 |non=>exact⟨_,.of .non,rfl⟩
 |tup e=>exact⟨_,.of (.tup e),rfl⟩
 |dK e=>exact⟨_,(Th.dK e).ty,rfl⟩
 |sum S =>
  obtain⟨dx,_,_,h⟩:=S.hd;exact⟨_,c.ty h,kl⟩
theorem IE {n m:Nat}(h:n≠m):[n,m].Nodup:=by simp[h]
theorem IQ {n m k:Nat}(h1:n≠m)(h2:n≠k)(h3:m≠k):[n,m,k].Nodup:=by simp[h1,h2,h3]
noncomputable def Nx (K:Frag)(a:Addr)(ns:List Int)(Pt:Addr)(D:Ends):Prop:=∀σ' H',(∃o1 o2 o3 o4 o5 o6 o7 o8 o9 MZ JK JP JQ JA JC Ka,σ'=[some (.ref a),o1,o2,o3,o4,o5,o6,o7,o8,o9,MZ,JK,JP,JQ,JA,JC,Ka])->qy K H' a ns->jO Pt H'->D.nx σ' H'
noncomputable def AW (K:Frag)(C CF Pt:Addr):TS:=λD σ H=>∃(sa fl ld lr s1 ls fo:Addr)(ns:List Int)(p Dd Nd:Int)(a:List Tm)(R:Int->List Tm)(Dk Mk:Int->Int)(n:Nat)(yd:List V)(ρs σs:List Addr)(o1 o2 o3 o4 o6 o9 JK JP JQ JA JC:Option V),
 σ=[some (.ref sa),o1,o2,o3,o4,some (.ref ld),o6,some (.ref s1),some (.ref ls),o9,some (.ref fo),JK,JP,JQ,JA,JC,some (.int (aU a))]/\Sx p Dd Nd a R Dk Mk n ρs σs/\Fc C CF p a R n fl ld lr s1 ls fo yd ρs σs H/\qy K H sa ns/\jO Pt H/\Nx K sa ns Pt D
section
variable {P:A9}{w:World}{K:PySem.W.Frag}{mg:Fj}{base:Heap}
variable {fa:Addr}{A:Around}{outer:List Env}{s0:qm}{H0:Hp}{E0:XK}{C CF Kt NS fI KA cc Pt:Addr}{JT Ju:FD}
theorem pb:(XL P w K mg base fa (.ref cc) A outer s0 H0 E0).env.qual++"<lambda>"=Hn:=rfl
set_option maxHeartbeats 1000000 in
theorem yU (Jd:Hz 13 (XL P w K mg base fa (.ref cc) A outer s0 H0 E0).A)(W:m9 P w K mg base C CF Kt NS fI KA cc Pt JT Ju):
 gW (XL P w K mg base fa (.ref cc) A outer s0 H0 E0) (jC.drop 19) (AW K C CF Pt):=by
 obtain⟨fe,MT,FE,bE,nE,iE⟩:=W.eq;obtain⟨Uk,Mn,LP,LQ,LR⟩:=W.putin;obtain⟨ZG,QO,QP,QQ,QR,QS⟩:=W.kind;have KC:=Jd.mono (show 11<=13 by decide);have J9:=Jd.mono (show 3<=13 by decide);have MF:EA (XL P w K mg base fa (.ref cc) A outer s0 H0 E0) cc Pt:=⟨rfl,W.hd,W.bm⟩
 refine gW.imp' (ai (bf (aK (qF nE iE W.ne W.c.ob FE J9 bE af) (bU (pv 7) W.c.c.cl LR LP KC LQ .nil af (ao (c4 iR (pv 8) d9 (eB (pv 16))) ah rfl)) (pv 10) (aJ _)) (av (aB fh)) aH)
  (av (dD uy rfl (cb (cq (ao (cX dF (by rfl) W.m_tuple (by rfl) (ao (pv 8) ah rfl)) (ao pI (ao abD (ao (pv 7) ah rfl) rfl) rfl) rfl))) (aC (i:=14) dm.nd rfl (Or.inr rfl))
  (av (bf (aK g9 (kj (ys:=["_law_one","_law_thing"]) (js:=[7,14]) QP Jd (by rfl) QR QS QQ (λH s e s' z=>by obtain⟨a,cls,a0,B,d,H',_,_,_,_,hE⟩:=z;exact hE.elim) rfl (λy hy=>by
   simp at hy
   rcases hy with rfl|rfl <;> rfl) (λy hy=>rfl) (ao (jB (osc:=ar eM) MF rfl (by decide +kernel) rfl) ah rfl)) cN (aJ _)) (av (aB fh)) aH))))) λEn σ H h=>?_
 obtain⟨sa,fl,ld,lr,s1,ls,fo,ns,p,Dd,Nd,a,R,Dk,Mk,n,yd,ρs,σs,o1,o2,o3,o4,o6,o9,JK,JP,JQ,JA,JC,rfl,sx,fc,sc,tb,fin⟩:=h;obtain⟨rn,r4⟩:=sx.d.reach;obtain⟨d1,_,_,h1⟩:=fc.one.hd;refine⟨_,rfl,s1,d1,_,rfl,h1,rfl,_,rfl,_,rfl,_,rfl,?_⟩;refine⟨ls,_,rfl,aW.of fc.s,λl2 JN=>?_⟩;have s2:=aq (o:=.lst (eU (σs.map V.ref) none (some (aU a)))) JN
 have e2:upd H l2 (.lst (eU (σs.map V.ref) none (some (aU a)))) l2=some (.lst ((σs.map V.ref).take (aU a).toNat)):=by
  rw[ae,<-fK];rw[show(((aU a).toNat:Nat):Int)=aU a by omega]
 generalize upd H l2 _=H2 at s2 e2 |-;have Mo:=fc.same s2
 have lt:((σs.map V.ref).take (aU a).toNat).length=(aU a).toNat:=by
  rw[EM,wC,sx.ls];have:=sx.n4;omega
 dsimp only[Ct];refine pq Mo.one sx.hp sx.d sx.r4 e2 (by omega) (λz hz=>Mo.all sx z (Hx hz)) (by rw[lt];omega) (λt ht k hk=>Mo.ami sx ht hk (by have:=(sx.d.four ht hk).2.2;omega)) λH3 u s3 Su=>?_;refine⟨_,rfl,Dh W.c Su (Mo.found.same s3) ⟨_,rfl,bX ?_⟩⟩;have LO:=s2.trans s3;have fc:=fc.same LO;have sc:=sc.kp (Kp.of LO);have tb:=tb.same LO;clear s2 s3 LO Mo Su e2 JN h1;refine⟨_,rfl,ls,_,rfl,.inl ⟨aW.of fc.s,λtu KN=>?_⟩⟩;have s4:=aq (o:=.tup (σs.map V.ref)) KN;have e4:upd H3 tu (.tup (σs.map V.ref)) tu=some (.tup (σs.map V.ref)):=ae;generalize upd H3 tu _=H4 at s4 e4 |-;intro d5 ZH;have s5:=aq (o:=.dK []) ZH;have e5:upd H4 d5 (.dK []) d5=some (.dK []):=ae;generalize upd H4 d5 _=H5 at s5 e5 |-;refine⟨_,rfl,Iv,λL6 ZI=>?_⟩;have s6:=aq (o:=.lst [.ref tu,.non,.ref d5,.ref s1]) ZI;have e6:upd H5 L6 (.lst [.ref tu,.non,.ref d5,.ref s1]) L6=some (.lst [.ref tu,.non,.ref d5,.ref s1]):=ae;generalize upd H5 L6 _=H6 at s6 e6 |-;have Mm:=s4.trans (s5.trans s6);have fc:=fc.same Mm;have sc:=sc.kp (Kp.of Mm);have tb:=tb.same Mm
 have all:∀x∈([.ref tu,.non,.ref d5,.ref s1]:List V),xE C CF H6 x:=λx hx=>by
  simp at hx
  rcases hx with rfl|rfl|rfl|rfl
  ·exact .tup (s6 _ _ (s5 _ _ e4))
  ·exact .non
  ·exact .dK (s6 _ _ e5)
  ·exact .sum fc.one
 clear s4 s5 s6 Mm e4 e5 KN ZH ZI;refine⟨L6,rfl,⟨_,aW.of e6⟩,?_⟩;refine fM (K:=K) (a:=L6) (xs:=[.ref tu,.non,.ref d5,.ref s1]) (λj σ H'=>Kp H6 H'/\jO Pt H'/\∃JA,σ=[some (.ref sa),o1,o2,o3,o4,some (.ref ld),o6,some (.ref s1),some (.ref ls),o9,some (.ref fo),JK,JP,JQ,JA,JC,some (.int (aU a))]) ⟨Kp.of (ay.refl _),tb,_,rfl⟩ (λj σ H' _ h=>aW.of (h.1.lst e6)) ?_ ?_
 ·rintro j x σ H7 hx ⟨k7,Ul,JA,rfl⟩;have nx:=(all x (HL hx)).kp k7;have fc7:=fc.kp k7;simp only[bJ,Ep,ER,yY,DM,vz,qe,pe,c5];refine sy (pos:=oG AR) (AM _ (AM _ qG)) tK pb Ul λH8 f c' oc ctv hf Jh JF S8 Oi=>?_;obtain⟨ZJ,QT,_⟩:=id Ul;have k8:Kp H7 H8:=Kp.bt QT S8;have LS:=fc7.kp k8;obtain⟨t,ty,kt⟩:=(nx.kp k8).ty W.c W.kl;refine⟨[.ref s1,x],rfl,λos ro free=>?_⟩
  refine oH (e:=AR) (ys:=["_law_one","_law_thing"]) (vs:=[.ref s1,x]) (φ0:=λH Q E=>lu K C CF NS [.ref s1,x] H Q E) (pm:=(mg "__name__").getD .none) (ctv:=ctv) rfl rfl ⟨rfl,rfl,rfl,by decide +kernel,by decide +kernel,by decide +kernel,by decide +kernel⟩ (IE (n:=s0.heap.objs.size+1+1+1+1+1) (m:=s0.heap.objs.size+1+1+1+1+1+1+1+1) (by omega)) rfl ro rfl JF oW (λA outer s' H Q E hr q=>?_) hf Jh free
   (λQ0 E0 hE=>zM LS.one sx.hp sx.d ty kt hE) (λH9 MG S9=>⟨MG,rfl,_,rfl,bX ?_⟩)
  ·obtain⟨dx,_,_,hs⟩:=De q;exact⟨_,bU (E:=E) (pv 0) W.c.c.cl LR LP hr LQ .nil (ja iw) (ao (pv 1) ah rfl),_,rfl,s1,dx,_,rfl,hs,rfl,_,rfl,q⟩
  ·exact⟨k7.trans (k8.trans (Kp.of S9)),Oi.same S9,_,rfl⟩
 ·rintro σ H7 ⟨k7,Ul,JA,rfl⟩;exact fin _ _ ⟨_,_,_,_,_,_,_,_,_,_,_,_,_,_,_,_,rfl⟩ (sc.kp k7) Ul
end
noncomputable def Es (K:Frag)(C CF Pt:Addr):TS:=λD σ H=>∃(sa fl ld lr s1 ls fo:Addr)(ns:List Int)(p Dd Nd:Int)(a:List Tm)(R:Int->List Tm)(Dk Mk:Int->Int)(n:Nat)(yd:List V)(ρs σs:List Addr)(o1 o2 o3 o4 o6 o9 JK JP JQ JA JC Ka:Option V),
 σ=[some (.ref sa),o1,o2,o3,o4,some (.ref ld),o6,some (.ref s1),some (.ref ls),o9,some (.ref fo),JK,JP,JQ,JA,JC,Ka]/\Sx p Dd Nd a R Dk Mk n ρs σs/\Fc C CF p a R n fl ld lr s1 ls fo yd ρs σs H/\qy K H sa ns/\jO Pt H/\Nx K sa ns Pt D
section
variable {P:A9}{w:World}{K:PySem.W.Frag}{mg:Fj}{base:Heap}
variable {fa:Addr}{A:Around}{outer:List Env}{s0:qm}{H0:Hp}{E0:XK}{C CF Kt NS fI KA cc Pt:Addr}{JT Ju:FD}
set_option maxHeartbeats 1000000 in
theorem Ae (Jd:Hz 13 (XL P w K mg base fa (.ref cc) A outer s0 H0 E0).A)(W:m9 P w K mg base C CF Kt NS fI KA cc Pt JT Ju):
 gW (XL P w K mg base fa (.ref cc) A outer s0 H0 E0) (jC.drop 17) (Es K C CF Pt):=by
 obtain⟨fe,MT,FE,bE,nE,iE⟩:=W.eq;obtain⟨Uk,Mn,LP,LQ,LR⟩:=W.putin;obtain⟨ZG,QO,QP,QQ,QR,QS⟩:=W.kind;have KC:=Jd.mono (show 11<=13 by decide);have J9:=Jd.mono (show 3<=13 by decide);have MF:EA (XL P w K mg base fa (.ref cc) A outer s0 H0 E0) cc Pt:=⟨rfl,W.hd,W.bm⟩
 refine gW.imp' (ai (@aM _ _ 16 _ _ _ _ dm.nd rfl (Or.inr rfl) (aI (acC rfl) (by rfl) W.m_max (by rfl) (ao (aD pU (dG (g:=jm K 2 (cp (bJ 0) (cp (bJ 1) EE))) (N:=["_law_product_here","_law_number_here"]) (nl:=2) (js:=[]) (osc:=ar eM) ⟨rfl,rfl,by decide +kernel,by decide +kernel,by decide +kernel,rfl,.nil,by decide +kernel⟩ rfl
  (cb (pv 5))
  (λCq fq sq Hq=>(cC (X:=cu _ ["_law_product_here","_law_number_here"] _ Cq fq sq Hq) rfl (aG (aC (X:=cu _ ["_law_product_here","_law_number_here"] _ Cq fq sq Hq) (i:=0) (by show(["_law_product_here","_law_number_here"]:DV).Nodup;decide +kernel) rfl (Or.inl rfl) (Or.inr rfl)) (aG (aC (X:=cu _ ["_law_product_here","_law_number_here"] _ Cq fq sq Hq) (i:=1) (by show(["_law_product_here","_law_number_here"]:DV).Nodup;decide +kernel) rfl (Or.inl rfl) (Or.inr rfl)) cj))))
  (λCq fq sq Hq=>(iK (aK (show gH _ _ (CH K true) from ki Jd) (pv 0) (bw ah) (aJ _))))
  (λCq fq sq Hq=>(aD cJ (aV (Gy (K:=K) rfl) (pv 0) (vf oJ aj) (λ_ _=>rfl)) aj))) (cq (ao aj ah rfl))) ah rfl)) rfl (Or.inl rfl))
  (ai (bf (PW.pt (y3 (aK vi (pv 16) aj (aJ _)) (vJ (aK g9 (kj (ys:=["_law_one","_law_reach","_law_sums"]) (js:=[7,16,8]) QP Jd (by rfl) QR QS QQ (λH s e s' z=>by obtain⟨a,cls,a0,B,d,H',_,_,_,_,hE⟩:=z;exact hE.elim) rfl (λy hy=>by
   simp at hy
   rcases hy with rfl|rfl|rfl <;> rfl) (λy hy=>rfl) (ao (jB (osc:=ar eM) MF rfl (by decide +kernel) rfl) ah rfl)) cN (aJ _))))) (av (aB fh)) aH)
  (yU Jd W))) λEn σ H h=>?_
 obtain⟨sa,fl,ld,lr,s1,ls,fo,ns,p,Dd,Nd,a,R,Dk,Mk,n,yd,ρs,σs,o1,o2,o3,o4,o6,o9,JK,JP,JQ,JA,JC,Ka,rfl,sx,fc,sc,tb,fin⟩:=h;refine⟨_,rfl,ld,rfl,⟨yd,aW.of fc.d⟩,?_⟩;have zl:=fc.td.length;have al:=sx.d.len;refine ni (xs:=yd) (λi us H'=>ay H H'/\us=(((a.take i).filter λt=>!t.1.isEmpty).map Ij).map V.int) ⟨ay.refl _,rfl⟩ (λi us H' hi h=>?_) (λi y us H' hi hy h=>?_) (λus H' h=>?_)
 ·obtain⟨sH,rfl⟩:=h;refine⟨?_,aW.of (sH _ _ fc.d)⟩;rw[wC,wC];exact xv (tT _ _) (xv (show _<=64 by simp;omega) (by decide))
 ·obtain⟨sH,rfl⟩:=h;obtain⟨t,et,tr⟩:=bh fc.td hy;obtain⟨at_,pr,nu,rfl,JR,Jm,Jy⟩:=tr.keep (az.of sH)
  have Jz:a.take (i+1)=a.take i++[t]:=by rw[x8,et];rfl
  refine⟨at_,.ref pr,.ref nu,rfl,a7.of JR,λN k=>?_⟩;refine⟨_,rfl,GH _,λe he=>?_⟩;have se:ay H' (upd H' e (.tup [])):=aq he;refine⟨_,_,qX (se _ _ Jm),qX (ns:=[]) ae,by rw[CA];decide,_,rfl,?_⟩
  show if(hV (.tup (t.1.map D.int)) (.tup []) != true)=true then _ else _
  rw[BY]
  cases hb:t.1.isEmpty with
  |false =>
   have ne:t.1≠[]:=by intro z;rw[z] at hb;cases hb
   refine cm ⟨_,rfl,_,rfl,pr,_,-1,_,rfl,rfl,a7.of (se _ _ Jm),vF ne,_,_,rfl,rfl,k _ _ ⟨sH.trans se,?_⟩⟩;rw[Jz,yJ];simp[hb,Ij]
  |true =>
   refine bX (k _ _ ⟨sH.trans se,?_⟩);rw[Jz,yJ];simp[hb]
 obtain⟨sH,rfl⟩:=h;intro L hL;rw[zl,yK];refine⟨by show 1<=sizeLine;decide,λL2 OT=>?_⟩;have sL:ay H' (upd H' L (.lst (((a.filter λt=>!t.1.isEmpty).map Ij).map V.int))):=aq hL;have s2:=aq (o:=.lst [.int 0]) OT;refine⟨L,L2,_,_,rfl,rfl,s2 _ _ ae,ae,?_,λL3 ZK=>?_⟩
 ·rw[wC,wC];have:=tT (λt:Tm=>!t.1.isEmpty) a;exact GC (show _<=100 by simp;omega) (by decide)
 refine⟨L3,(a.filter λt=>!t.1.isEmpty).map Ij++[0],rfl,aW.of ?_,by simp,λm hm hx=>?_⟩
 ·rw[zJ];exact ae
 have em:=wm sx.d.prw hm hx;subst em;have s3:=sH.trans ((sL.trans s2).trans (aq (o:=.lst (((a.filter λt=>!t.1.isEmpty).map Ij).map V.int++[.int 0])) ZK));generalize upd _ L3 (.lst (((a.filter λt=>!t.1.isEmpty).map Ij).map V.int++[.int 0]))=G1 at s3 |-;have fc:=fc.same s3;have sc:=sc.kp (Kp.of s3);have tb:=tb.same s3;clear sH sL s2 s3 hL OT ZK hm hx zl;obtain⟨rn,r4⟩:=sx.d.reach;have done:∀G,Kp G1 G->jO Pt G->AW K C CF Pt En [some (.ref sa),o1,o2,o3,o4,some (.ref ld),o6,some (.ref s1),some (.ref ls),o9,some (.ref fo),JK,JP,JQ,JA,JC,some (.int (aU a))] G:=λG k t=>⟨sa,fl,ld,lr,s1,ls,fo,ns,p,Dd,Nd,a,R,Dk,Mk,n,yd,ρs,σs,_,_,_,_,_,_,_,_,_,_,_,rfl,sx,fc.kp k,sc.kp k,t,fin⟩;refine⟨_,rfl,_,_,rfl,rfl,_,rfl,?_⟩
 by_cases h0:0<aU a
 ·rw[IW h0];refine cm ?_;simp only[vz,qe,pe,c5];refine sy (pos:=oG z9) (AM _ qG) tK pb tb λH8 f c' oc ctv hf Jh JF S8 Oi=>?_;obtain⟨ZJ,QT,_⟩:=id tb;have k8:Kp G1 H8:=Kp.bt QT S8;have LS:=fc.kp k8;obtain⟨d8,_,_,h8⟩:=LS.one.hd;refine⟨[.ref s1,.int (aU a),.ref ls],rfl,λos ro free=>?_⟩
  have lt:((σs.map V.ref).take (aU a-1).toNat).length=(aU a-1).toNat:=by
   rw[EM,wC,sx.ls];have:=sx.n4;omega
  refine oH (e:=z9) (ys:=["_law_one","_law_reach","_law_sums"]) (vs:=[.ref s1,.int (aU a),.ref ls]) (φ0:=GN K C CF NS s1 ls (aU a-1).toNat) (pm:=(mg "__name__").getD .none) (ctv:=ctv) rfl rfl ⟨rfl,rfl,rfl,by decide +kernel,by decide +kernel,by decide +kernel,by decide +kernel⟩ (IQ (n:=s0.heap.objs.size+1+1+1+1+1) (m:=s0.heap.objs.size+1+1+1+1+1+1) (k:=s0.heap.objs.size+1+1+1+1+1+1+1) (by omega) (by omega) (by omega)) rfl ro rfl JF BH (λA outer s' H Q E hr q=>?_) hf Jh free
   (λQ0 E0 hE=>⟨_,LS.s,⟨d8,_,_,h8⟩,λl' H' s' e'=>Ay (LS.same s').one sx.hp sx.d e' (by omega) (λz hz=>(LS.same s').all sx z (Hx hz)) (by rw[lt];omega) λKY KS=>hE _ (s'.trans KS)⟩) (λH9 MG S9=>⟨MG,rfl,_,rfl,bX (done _ (k8.trans (Kp.of S9)) (Oi.same S9))⟩)
  obtain⟨zs,e,⟨dx,_,_,hs⟩,q⟩:=q;refine⟨_,bU (E:=E) (pv 0) W.c.c.cl LR LP hr LQ .nil (ja iw) (ao (c4 iR (pv 2) d9 (eB (aD lU (pv 1) aj))) ah rfl),_,rfl,s1,dx,_,rfl,hs,rfl,_,rfl,_,rfl,_,_,rfl,rfl,_,rfl,?_⟩;refine⟨ls,zs,rfl,aW.of e,λl2 JN=>q l2 _ (aq JN) ?_⟩;rw[ae,<-fK];rw[show(((aU a-1).toNat:Nat):Int)=aU a-1 by omega]
 ·rw[HW h0];exact bX (bX (done _ (Kp.of (ay.refl _)) tb))
end
theorem FP.good (h:FP p):good (.int p)=true:=by
 show jD p=true;unfold jD
 rcases h with h|h
 ·rw[h];rfl
 ·have:(tO.any λq=>q==p)=true:=by
   rw[HV];exact⟨p,h,by simp⟩
  rw[this];simp
theorem ib {Kt fl Ja:Addr}{Q:Hp->Prop}{E:XK}(hf:H fl=none)(hd:H Ja=none)(ne:Ja≠fl)(hp:FP p)(q:∀H',ay H H'->H' fl=some (.ins CF Ja (eT p))->Q H'):
 sJ CF Kt [.ref fl,.int p] (upd (upd H Ja (.own fl)) fl (.ins CF Ja [])) (λv H2=>v=.non/\Q H2) E:=by
 refine⟨fl,Ja,.int p,"int",rfl,.int p,ae,λ_=>⟨rfl,?_⟩,λg=>by rw[hp.good] at g;cases g⟩;rw[vV];exact q _ ((aq hd).trans (aq (by rw[au (Hw ne)];exact hf))) ae
theorem Th.kp {T:String}(h:Th H x T)(s:Kp H H'):Th H' x T:=by
 cases h with
 |non=>exact .non
 |bl b=>exact .bl b
 |int i=>exact .int i
 |str x=>exact .str x
 |lst e=>exact .lst (s _ _ e λ_ z=>by cases z)
 |tup e=>exact .tup (s _ _ e λ_ z=>by cases z)
 |dK e=>exact .dK (s _ _ e λ_ z=>by cases z)
theorem aR.same {r:Addr}(h:aR H r)(S:ay H H'):aR H' r:=by
 obtain⟨l,x,e,d⟩:=h;exact⟨l,x,S _ _ e,d⟩
theorem jh {r D:Addr}{zs:List V}(R:aR H r)(hD:H D=some (.lst zs))(h:aF H zs ts):D≠r:=λz=>by
 obtain⟨l,x,e,_⟩:=R;rw[z,e] at hD;have hD:=HO.lst.inj (Option.some.inj hD);subst hD
 cases h with
 |cons h _ =>
  obtain⟨a,pr,nu,z,_⟩:=h
  cases z
theorem vn {r D:Addr}{as:List Addr}(R:aR H r)(hD:H D=some (.lst (as.map V.ref))):D≠r:=λz=>by
 obtain⟨l,x,e,_⟩:=R;rw[z,e] at hD;have hD:=HO.lst.inj (Option.some.inj hD)
 cases as with
 |nil=>cases hD
 |cons a as=>cases hD
theorem i7 {r q dx:Addr}{fs:List (Str×V)}(R:aR H r)(h:H q=some (.ins C dx fs)):q≠r:=λz=>by
 obtain⟨_,_,e,_⟩:=R;rw[z,e] at h
 cases h
theorem BV.room {r:Addr}(h:BV C CF H s p ts)(R:aR H r)(k:SameBut r H H'):BV C CF H' s p ts:=by
 obtain⟨dx,fl,Ja,D,zs,h1,h2,h3,h4⟩:=h.ex;exact⟨dx,fl,Ja,D,zs,k _ _ h1 (i7 R h1),k _ _ h2 (i7 R h2),k _ _ h3 (jh R h3 h4),aF.keep h4 (R.agK k)⟩
variable {ρs:List Addr}
theorem Fc.room {a:List Tm}{R:Int->List Tm}{n:Nat}{fl ld lr s1 ls fo r:Addr}{yd:List V}{σs:List Addr}(h:Fc C CF p a R n fl ld lr s1 ls fo yd ρs σs H)(Rm:aR H r)(k:SameBut r H H'):Fc C CF p a R n fl ld lr s1 ls fo yd ρs σs H' :=
 ⟨let⟨Ja,e⟩:=h.f;⟨Ja,k _ _ e (i7 Rm e)⟩,k _ _ h.d (jh Rm h.d h.td),aF.keep h.td (Rm.agK k),k _ _ h.r (vn Rm h.r),k _ _ h.s (vn Rm h.s),h.one.room Rm k,h.found.room Rm k,λj hj=>let⟨ρ,us,σ,e1,e2,e3,e4,e5⟩:=h.row j hj;⟨ρ,us,σ,e1,k _ _ e2 (jh Rm e2 e3),aF.keep e3 (Rm.agK k),e4,e5.room Rm k⟩⟩
noncomputable def Od (C CF:Addr)(p:Int)(H:Hp)(x:V):Prop:=(∃T,Th H x T)\/∃s q c,x=.ref s/\BV C CF H s q c/\q≠p
theorem Od.kp (h:Od C CF p H x)(k:Kp H H'):Od C CF p H' x:=by
 rcases h with⟨T,h⟩|⟨s,q,c,e,S,ne⟩
 ·exact .inl ⟨T,h.kp k⟩
 ·exact .inr ⟨s,q,c,e,S.kp k,ne⟩
theorem Od.odd (h:Od C CF p H x)(c:By K mg C):IA K C CF p H x:=by
 rcases h with⟨T,h⟩|⟨s,q,cc,e,S,ne⟩
 ·exact .inr ⟨_,h.ty,c.no h⟩
 ·exact .inl ⟨s,q,cc,e,S,ne⟩
noncomputable def EW (K:Frag)(C CF Pt:Addr):TS:=λD σ H=>∃(sa r fl ld lr s1 ls fo:Addr)(ns:List Int)(p Dd Nd:Int)(a:List Tm)(R:Int->List Tm)(Dk Mk:Int->Int)(n:Nat)(yd:List V)(ρs σs:List Addr)(o1 o4 o9 JK JP JQ JA JC Ka:Option V),
 σ=[some (.ref sa),o1,some (.ref r),some (.int p),o4,some (.ref ld),some (.ref lr),some (.ref s1),some (.ref ls),o9,some (.ref fo),JK,JP,JQ,JA,JC,Ka]/\Sx p Dd Nd a R Dk Mk n ρs σs/\Fc C CF p a R n fl ld lr s1 ls fo yd ρs σs H/\aR H r/\qy K H sa ns/\jO Pt H/\Nx K sa ns Pt D
section
variable {P:A9}{w:World}{K:PySem.W.Frag}{mg:Fj}{base:Heap}
variable {fa:Addr}{A:Around}{outer:List Env}{s0:qm}{H0:Hp}{E0:XK}{C CF Kt NS fI KA cc Pt:Addr}{JT Ju:FD}
set_option maxHeartbeats 1000000 in
theorem A0 (Jd:Hz 13 (XL P w K mg base fa (.ref cc) A outer s0 H0 E0).A)(W:m9 P w K mg base C CF Kt NS fI KA cc Pt JT Ju):
 gW (XL P w K mg base fa (.ref cc) A outer s0 H0 E0) (jC.drop 14) (EW K C CF Pt):=by
 obtain⟨Uk,Mn,LP,LQ,LR⟩:=W.putin;obtain⟨ZG,QO,QP,QQ,QR,QS⟩:=W.kind;obtain⟨fTk,Wm,Wn,Wo,Wq,Wr⟩:=W.take;have KC:=Jd.mono (show 11<=13 by decide);have MX:=Jd.mono (show 7<=13 by decide);have J9:=Jd.mono (show 3<=13 by decide);have Jr:=Jd.mono (show 1<=13 by decide);have MF:EA (XL P w K mg base fa (.ref cc) A outer s0 H0 E0) cc Pt:=⟨rfl,W.hd,W.bm⟩
 refine gW.imp' (ai (@aM _ _ 12 _ _ _ _ dm.nd rfl (Or.inl rfl) (d3 W.M W.FI MX (by rfl) W.c.c.mgC W.bI .nil af (ao (d3 W.MF W.FFI J9 (by rfl) W.cF.mgC W.bFFI .nil af (ao (aV bz (cq (ao aj (ao aj ah rfl) rfl)) (cX oq (by rfl) W.m_int (by rfl) (ao (c7 eQ (pv 3) aj (aJ _)) ah rfl)) (λ_ _=>rfl)) ah rfl)) (ao (c4 iR (aV bz (pv 6) aj (λ_ _=>rfl)) d9 (eB aj)) ah rfl) rfl)) rfl (Or.inl rfl))
  (ai (@aM _ _ 13 _ _ _ _ dm.nd rfl (Or.inl rfl) (aA Wn Jr (by rfl) Wq Wr Wo .nil af (ao (pv 2) (ao (aI b9 (by rfl) W.m_len Gm (ao (pv 8) ah rfl)) ah rfl) rfl)) rfl (Or.inl rfl))
  (ai (dD uy rfl (cb (cq (ao pI (ao (aV bz (pv 6) aj (λ_ _=>rfl)) (ao (bw (ao aj (ao aj ah rfl) rfl)) (ao (pv 12) (ao aj ah rfl) rfl) rfl) rfl) rfl))) (aC (i:=14) dm.nd rfl (Or.inr rfl))
  (ai (@aM _ _ 15 _ _ _ _ dm.nd rfl (Or.inr rfl) (aD pU (aD pU (c4 iR (pv 8) d9 (eB (pv 13))) (cq (ao (pv 14) ah rfl))) (c4 iR (pv 8) (eB (aD cJ (pv 13) aj)) d9)) rfl (Or.inl rfl))
  (av (bf (aK g9 (kj (ys:=["_law_odd","_law_one"]) (js:=[15,7]) QP Jd (by rfl) QR QS QQ (λH s e s' z=>by obtain⟨a,cls,a0,B,d,H',_,_,_,_,hE⟩:=z;exact hE.elim) rfl (λy hy=>by
   simp at hy
   rcases hy with rfl|rfl <;> rfl) (λy hy=>rfl) (ao (jB (osc:=ar eM) MF rfl (by decide +kernel) rfl) ah rfl)) cN (aJ _)) (av (aB fh)) aH))))
  (Ae Jd W)))) λEn σ H h=>?_
 obtain⟨sa,r,fl,ld,lr,s1,ls,fo,ns,p,Dd,Nd,a,R,Dk,Mk,n,yd,ρs,σs,o1,o4,o9,JK,JP,JQ,JA,JC,Ka,rfl,sx,fc,Rm,sc,tb,fin⟩:=h;refine⟨by decide,λL hL=>?_⟩;have t1:=aq (o:=.lst [.int 7,.int 11]) hL;have e1:upd H L (.lst [.int 7,.int 11]) L=some (.lst [.int 7,.int 11]):=ae;generalize upd H L _=H1 at t1 e1 |-
 obtain⟨q,eq,hq,hqp⟩:∃q:Int,p7 [V.int 7,V.int 11] (if decide (V.int p=V.int 7)=true then 1 else 0)=some (.int q)/\FP q/\q≠p:=by
  by_cases e:p=7
  ·refine⟨11,?_,.inr (by decide +kernel),by omega⟩;rw[IW (by rw[e]),oO rfl];rfl
  ·refine⟨7,?_,.inr (by decide +kernel),λz=>e z.symm⟩;rw[HW (λz=>e (by injection z)),DW (by decide)];rfl
 refine⟨_,rfl,rfl,.inr ⟨_,rfl,L,_,_,_,rfl,rfl,aW.of e1,eq,?_⟩⟩;intro f2 df2 ZL QU nf2;refine ib ZL QU nf2 hq λH2 t2 e2=>?_;have LU:=t1.trans t2;have Mo:=fc.same LU;obtain⟨ρ0,u0,σ0,g1,g2,g3,g4,g5⟩:=Mo.row 0 (by have:=sx.n4;omega);have QV:p7 (ρs.map V.ref) 0=some (.ref ρ0):=gN (xs:=ρs.map V.ref) (j:=0) (by rw[BC,g1];rfl);refine⟨_,rfl,lr,_,0,.ref ρ0,rfl,rfl,aW.of Mo.r,QV,0,rfl,ρ0,u0,rfl,aW.of g2,λl3 QW=>?_⟩
 have QX:eU u0 none (some 0)=[]:=by
  have:=fK u0 0;rw[List.take_zero] at this;exact this
 rw[QX];have t3:=aq (o:=.lst []) QW;have e3:upd H2 l3 (.lst []) l3=some (.lst []):=ae;generalize upd H2 l3 _=H3 at t3 e3 |-;intro x4 dx4 ZM QY ne4;refine gD ZM QY ne4 (t3 _ _ e2) hq e3 .nil (we q) (λt ht=>(nomatch ht)) λH4 t4 S4=>?_;have QZ:=LU.trans (t3.trans t4);have SF:BV C CF H4 x4 q []:=S4;have fc:=fc.same QZ;have sc:=sc.kp (Kp.of QZ);have tb:=tb.same QZ;have Rm:=Rm.same QZ;clear S4 QZ t1 t2 t3 t4 LU e1 e2 e3 hL QW ZL QU ZM QY Mo g1 g2 g3 g4 g5 QV QX
 have ln:(σs.map V.ref).length=n:=by rw[wC];exact sx.ls
 obtain⟨lq,xq,ZN,yq,zq⟩:=id Rm;have n4:=sx.n4;have lsn:=sx.ls;have n6:=sx.n6;refine⟨_,rfl,_,rfl,ls,_,rfl,.inl (aW.of fc.s),r,lq,xq,_,rfl,ZN,yq,zq,by omega,by omega,λz lp xp z0 z1 yp zp=>?_⟩;have R5:aR (upd H4 r (.lst [.int lp,.int xp])) r:=⟨lp,xp,ae,yp,zp⟩;have S5:SameBut r H4 (upd H4 r (.lst [.int lp,.int xp])):=SameBut.upd;generalize upd H4 r _=H5 at R5 S5 |-;have fc:=fc.room Rm S5;have sc:=sc.but Rm S5;have tb:=gC tb Rm S5;have SF:=SF.room Rm S5;clear S5 R5 Rm ZN;obtain⟨ρ0,u0,σ0,g1,g2,g3,g4,g5⟩:=fc.row 0 (by omega);have QV:p7 (ρs.map V.ref) 0=some (.ref ρ0):=gN (xs:=ρs.map V.ref) (j:=0) (by rw[BC,g1];rfl);refine⟨_,rfl,lr,_,0,.ref ρ0,rfl,rfl,aW.of fc.r,QV,(by decide),λt6 Um=>?_⟩;have Pe:=aq (o:=.tup [.int 0,.int 1]) Um;have e6:upd H5 t6 (.tup [.int 0,.int 1]) t6=some (.tup [.int 0,.int 1]):=ae;generalize upd H5 t6 _=H6 at Pe e6 |-;refine⟨_,rfl,aay,λL7 ZO=>?_⟩;have t7:=aq (o:=.lst [.non,.ref ρ0,.ref t6,.ref x4,.int 0]) ZO;have e7:upd H6 L7 (.lst [.non,.ref ρ0,.ref t6,.ref x4,.int 0]) L7=some (.lst [.non,.ref ρ0,.ref t6,.ref x4,.int 0]):=ae;generalize upd H6 L7 _=H7 at t7 e7 |-;have JY:=Pe.trans t7;have fc:=fc.same JY;have sc:=sc.kp (Kp.of JY);have tb:=tb.same JY
 have all:∀x∈([.non,.ref ρ0,.ref t6,.ref x4,.int 0]:List V),Od C CF p H7 x:=λx hx=>by
  simp at hx
  rcases hx with rfl|rfl|rfl|rfl|rfl
  ·exact .inl ⟨_,.non⟩
  ·exact .inl ⟨_,.lst (JY _ _ g2)⟩
  ·exact .inl ⟨_,.tup (t7 _ _ e6)⟩
  ·exact .inr ⟨x4,q,_,rfl,SF.same JY,hqp⟩
  ·exact .inl ⟨_,.int 0⟩
 clear Pe t7 JY e6 Um ZO g1 g2 g3 g4 g5 QV SF;refine⟨L7,rfl,⟨_,aW.of e7⟩,?_⟩;refine fM (K:=K) (a:=L7) (xs:=[.non,.ref ρ0,.ref t6,.ref x4,.int 0]) (λj σ H'=>Kp H7 H'/\jO Pt H'/\∃JA JC,σ=[some (.ref sa),o1,some (.ref r),some (.int p),o4,some (.ref ld),some (.ref lr),some (.ref s1),some (.ref ls),o9,some (.ref fo),JK,some (.ref x4),some (.int z),JA,JC,Ka]) ⟨Kp.of (ay.refl _),tb,_,_,rfl⟩ (λj σ H' _ h=>aW.of (h.1.lst e7)) ?_ ?_
 ·rintro j x σ H8 hx ⟨k8,Oi,JA,JC,rfl⟩;have ox:=(all x (HL hx)).kp k8;have LS:=fc.kp k8
  have zn:((z.toNat:Nat):Int)=z:=by omega
  have zn1:((z.toNat+1:Nat):Int)=z+1:=by omega
  refine⟨_,rfl,_,rfl,z,rfl,ls,_,rfl,aW.of LS.s,λl9 Pd=>?_⟩;have t9:=aq (o:=.lst (eU (σs.map V.ref) none (some z))) Pd
  have e9:upd H8 l9 (.lst (eU (σs.map V.ref) none (some z))) l9=some (.lst ((σs.map V.ref).take z.toNat)):=by rw[ae,<-fK,zn]
  generalize upd H8 l9 _=H9 at t9 e9 |-;refine⟨_,rfl,BZ,λUo Q1=>?_⟩;have Pf:=aq (o:=.lst [x]) Q1;have Oe:upd H9 Uo (.lst [x]) Uo=some (.lst [x]):=ae;generalize upd H9 Uo _=O8 at Pf Oe |-;refine⟨l9,Uo,_,_,rfl,rfl,Pf _ _ e9,Oe,GC (show _<=100 by rw[EM];simp;omega) (by decide),λUq Q2=>?_⟩;have Ws:=aq (o:=.lst ((σs.map V.ref).take z.toNat++[x])) Q2;have Pa:upd O8 Uq (.lst ((σs.map V.ref).take z.toNat++[x])) Uq=some (.lst ((σs.map V.ref).take z.toNat++[x])):=ae;generalize upd O8 Uq _=Wc at Ws Pa |-;have Oj:=t9.trans (Pf.trans Ws);refine⟨_,rfl,_,rfl,_,_,rfl,rfl,z+1,rfl,ls,_,rfl,aW.of (Oj _ _ LS.s),λUr Q3=>?_⟩;have Us:=aq (o:=.lst (eU (σs.map V.ref) (some (z+1)) none)) Q3
  have Wt:upd Wc Ur (.lst (eU (σs.map V.ref) (some (z+1)) none)) Ur=some (.lst ((σs.map V.ref).drop (z.toNat+1))):=by rw[ae,<-yZ,zn1]
  generalize upd Wc Ur _=Ui at Us Wt |-;refine⟨Uq,Ur,_,_,rfl,rfl,Us _ _ Pa,Wt,GC (show _<=100 by rw[Af,EM,wo];simp;omega) (by decide),λPg Q4=>?_⟩;have Wu:=aq (o:=.lst ((σs.map V.ref).take z.toNat++[x]++(σs.map V.ref).drop (z.toNat+1))) Q4;have ZP:upd Ui Pg (.lst ((σs.map V.ref).take z.toNat++[x]++(σs.map V.ref).drop (z.toNat+1))) Pg=some (.lst ((σs.map V.ref).take z.toNat++[x]++(σs.map V.ref).drop (z.toNat+1))):=ae;generalize upd Ui Pg _=Uj at Wu ZP |-;have Mp:=Oj.trans (Us.trans Wu);have ox:=ox.kp (Kp.of Mp);have Wv:=LS.same Mp;have Q5:=Oi.same Mp;clear t9 Pf Ws Us Wu Oj e9 Oe Pa Wt Pd Q1 Q2 Q3 Q4;simp only[bJ,Ep,ER,yY,DM,vz,qe,pe,c5];refine sy (pos:=oG yv) qG tK pb Q5 λPc f c' oc ctv hf Jh JF S14 Ww=>?_;obtain⟨ZJ,QT,_⟩:=id Q5;have Ut:Kp Uj Pc:=Kp.bt QT S14;have Q6:=Wv.kp Ut;have ox:=(ox.kp Ut).odd W.c;refine⟨[.ref Pg,.ref s1],rfl,λos ro free=>?_⟩
  refine oH (e:=yv) (ys:=["_law_odd","_law_one"]) (vs:=[.ref Pg,.ref s1]) (φ0:=λH Q E=>lu K C CF NS [.ref s1,.ref Pg] H Q E) (pm:=(mg "__name__").getD .none) (ctv:=ctv) rfl rfl ⟨rfl,rfl,rfl,by decide +kernel,by decide +kernel,by decide +kernel,by decide +kernel⟩ (IE (n:=s0.heap.objs.size+1+1+1+1) (m:=s0.heap.objs.size+1+1+1+1+1) (by omega)) rfl ro rfl JF oW (λA outer s' H Q E hr q=>?_) hf Jh free
   (λQ0 E0 hE=>DQ Q6.one sx.hp sx.d (Ut.lst ZP) (by rw[Af,Af,EM,wo];simp;omega) (λy hy=>Q6.all sx y ?_) ox hE) (λH15 MG ZQ=>⟨MG,rfl,_,rfl,bX ?_⟩)
  ·obtain⟨dx,_,_,hs⟩:=De q;exact⟨_,bU (E:=E) (pv 1) W.c.c.cl LR LP hr LQ .nil (ja iw) (ao (pv 0) ah rfl),_,rfl,s1,dx,_,rfl,hs,rfl,_,rfl,q⟩
  ·rcases HB.mp hy with hy|hy
   ·exact Hx hy
   ·exact List.mem_of_mem_drop hy
  ·exact⟨k8.trans ((Kp.of Mp).trans (Ut.trans (Kp.of ZQ))),Ww.same ZQ,_,_,rfl⟩
 ·rintro σ H8 ⟨k8,Oi,JA,JC,rfl⟩;exact⟨sa,fl,ld,lr,s1,ls,fo,ns,p,Dd,Nd,a,R,Dk,Mk,n,yd,ρs,σs,_,_,_,_,_,_,_,_,_,_,_,_,rfl,sx,fc.kp k8,sc.kp k8,Oi,fin⟩
end
theorem w9 {k:Int}:tg p [([k],(1,1))]=[([k],(1,1))]:=by
 have e:aO p [([k],(1,1))]=[([k],(1,1))]:=by simp[aO,cS]
 show eA (aO p [([k],(1,1))])=_;rw[e];rfl
theorem rQ {k:Int}(hp:FP p)(h0:0<=k)(h1:k<5):Tl p 1 1 32 [([k],(1,1))]:=⟨λt ht=>by
 have:t=([k],(1,1)):=by simpa using ht
 rw[this]
 exact⟨iV hp,λ_=>⟨1,rfl,by show((1*1:Int).natAbs:Int)<=1;decide⟩⟩,λt ht=>by
 have:t=([k],(1,1)):=by simpa using ht
 rw[this]
 exact⟨by simp,λx hx=>by
  have:x=k:=by simpa using hx
  omega⟩,by show 1<=32;decide⟩
theorem AI {k:Int}(hp:FP p)(hk:k∈l4):Rk p (λ_=>1) (λ_=>1) (λk=>[([k],(1,1))]) k:=by
 have h:0<=k/\k<4:=by
  simp at hk;omega
 exact⟨by decide,by decide,by unfold B;decide,by unfold B;decide,rQ hp h.1 (by omega)⟩
theorem mn {K:Frag}{H:Hp}{R:Int->List Tm}:∀(ρs:List Addr)(m:Nat),(∀k:Nat,k<ρs.length->∃ρ us,ρs[k]?=some ρ/\H ρ=some (.lst us)/\aF H us (R ((m+k:Nat):Int)))->a8 K H ((List.range' m ρs.length).map λ(k:Nat)=>lE (R k)) (ρs.map V.ref)
 |[],m,_=>by
  show a8 K H [] [];unfold a8;rfl
 |ρ::ρs,m,h=>by
  obtain⟨ρ',us,e1,e2,e3⟩:=h 0 (by simp)
  have e1:ρ = ρ':=by simpa using e1
  subst e1;show a8 K H (lE (R (m:Nat)):: (List.range' (m+1) ρs.length).map λ(k:Nat)=>lE (R k)) (.ref ρ::ρs.map V.ref);unfold a8;refine⟨_,_,rfl,eO e2 (by simpa using e3),mn ρs (m+1) λk hk=>?_⟩;obtain⟨ρ',us',f1,f2,f3⟩:=h (k+1) (by simp;omega);refine⟨ρ',us',by simpa using f1,f2,?_⟩;rw[show m+1+k=m+(k+1) by omega];exact f3
theorem uP {R:Int->List Tm}:∀l:List Nat,dY (l.map λ(k:Nat)=>lE (R k))<=31
 |[]=>by
  show dY ([]:List D)<=31;unfold dY;decide
 |k::l=>by
  show dY (lE (R k):: _)<=31;unfold dY;have h1:=uP (R:=R) l
  have h2:i5 (lE (R k))<=31:=by
   unfold i5;have:=pC (R k);omega
  omega
noncomputable def E7 (K:Frag)(C CF Pt:Addr):TS:=λD σ H=>∃(sa r fl ld lr s1 ls lh fo:Addr)(ns:List Int)(p Dd Nd:Int)(a:List Tm)(R:Int->List Tm)(Dk Mk:Int->Int)(n:Nat)(yd:List V)(ρs σs:List Addr)(o1 JK JP JQ JA JC Ka:Option V),
 σ=[some (.ref sa),o1,some (.ref r),some (.int p),some (.ref fl),some (.ref ld),some (.ref lr),some (.ref s1),some (.ref ls),some (.ref lh),some (.ref fo),JK,JP,JQ,JA,JC,Ka]/\Sx p Dd Nd a R Dk Mk n ρs σs/\Fc C CF p a R n fl ld lr s1 ls fo yd ρs σs H/\H lh=some (.lst (σs.map V.ref))/\aR H r/\qy K H sa ns/\jO Pt H/\Nx K sa ns Pt D
section
variable {P:A9}{w:World}{K:PySem.W.Frag}{mg:Fj}{base:Heap}
variable {fa:Addr}{A:Around}{outer:List Env}{s0:qm}{H0:Hp}{E0:XK}{C CF Kt NS fI KA cc Pt:Addr}{JT Ju:FD}
set_option maxHeartbeats 1000000 in
theorem yj (Jd:Hz 13 (XL P w K mg base fa (.ref cc) A outer s0 H0 E0).A)(W:m9 P w K mg base C CF Kt NS fI KA cc Pt JT Ju):
 gW (XL P w K mg base fa (.ref cc) A outer s0 H0 E0) (jC.drop 9) (E7 K C CF Pt):=by
 obtain⟨Uk,Mn,LP,LQ,LR⟩:=W.putin;obtain⟨fe,MT,FE,bE,nE,iE⟩:=W.eq;obtain⟨fLp,ade,VB,VC,VD,VE⟩:=W.lputin;obtain⟨fSt,adf,Wx,Wy,Wz⟩:=W.sterms;have KC:=Jd.mono (show 11<=13 by decide);have MX:=Jd.mono (show 7<=13 by decide);have hr6:=Jd.mono (show 6<=13 by decide);have J9:=Jd.mono (show 3<=13 by decide);have Jr:=Jd.mono (show 1<=13 by decide)
 refine gW.imp' (ai (bf (PW.pt (iY (cy (cI (aI aY (by rfl) W.m_isinstance (by rfl) (ao (pv 10) (ao (cG (by rfl) W.c.c.mgC (show aE (.ref C) (.ref C) from rfl)) ah rfl) rfl)))) (fV (aK (ki Jd) (iX (pv 10) W.c.c.cl Wz Wx Jr Wy .nil af) (aA VB hr6 (by rfl) VD VE VC .nil af (ao (pv 3) (ao (pv 5) (ao (pv 6) ah rfl) rfl) rfl)) (aJ _))))) (av (aB fh)) aH)
  (ai (bf (PW.pt (iY (aK (wF Jd) (pv 9) (pv 8) (aJ _)) (fV (aK (ki Jd) (iX (pv 7) W.c.c.cl Wz Wx Jr Wy .nil af) (pv 5) (aJ _))))) (av (aB fh)) aH)
  (ai (bf (aK (ki Jd) (dG (N:=["_law_some"]) (nl:=1) (js:=[]) (osc:=ar eM) ⟨rfl,rfl,by decide +kernel,by decide +kernel,by decide +kernel,rfl,.nil,by decide +kernel⟩ rfl
   (cb (pv 8))
   (λCq fq sq Hq=>aC (i:=0) (by show(["_law_some"]:DV).Nodup;decide +kernel) rfl (Or.inl rfl) (Or.inr rfl))
   (λCq fq sq Hq=>c6)
   (λCq fq sq Hq=>(iX (pv 0) W.c.c.cl Wz Wx Jr Wy .nil af))) (pv 6) (aJ _)) (av (aB fh)) aH)
  (ai (jX (i:=11) (N:=["_law_place","_law_field"]) (nl:=1) (js:=[4]) (osc:=ar eM) ⟨rfl,rfl,by decide +kernel,by decide +kernel,by decide +kernel,rfl,(.cons ⟨rfl,by decide +kernel⟩ .nil),by decide +kernel⟩ rfl dm.nd rfl (Or.inl rfl)
   (fL (by rfl) W.m_range (ao aj ah rfl))
   (λCq fq sq Hq=>aC (i:=0) (by show(["_law_place","_law_field"]:DV).Nodup;decide +kernel) rfl (Or.inl rfl) (Or.inr rfl))
   (λCq fq sq Hq=>c6)
   (λCq fq sq Hq=>(d3 W.M W.FI MX (by rfl) W.c.c.mgC W.bI .nil af (ao (pv 1) (ao (cq (ao (bw (ao (bw (ao (pv 0) ah rfl)) (ao (bw (ao aj (ao aj ah rfl) rfl)) ah rfl) rfl)) ah rfl)) ah rfl) rfl))) (by rfl))
  (ai (bf (aK (qF nE iE W.ne W.c.ob FE J9 bE af) (bU (pv 7) W.c.c.cl LR LP KC LQ .nil af (ao (pv 11) ah rfl)) (pv 7) (aJ _)) (av (aB fh)) aH)
  (A0 Jd W)))))) λEn σ H h=>?_
 obtain⟨sa,r,fl,ld,lr,s1,ls,lh,fo,ns,p,Dd,Nd,a,R,Dk,Mk,n,yd,ρs,σs,o1,JK,JP,JQ,JA,JC,Ka,rfl,sx,fc,Ph,Rm,sc,tb,fin⟩:=h;have hp:=sx.hp;have n4:=sx.n4;have lrn:=sx.lr;have lsn:=sx.ls
 have WA:∀t∈a,∀k∈t.1,ba p (R k):=λt ht k hk=>(sx.r4 k (by
  have:=sx.d.four ht hk
  have:k=0\/k=1\/k=2\/k=3:=by omega
  simpa using this)).lv.num
 obtain⟨df,Q7,Ja,Df,zf,f1,f2,f3,f4⟩:=fc.found.ex;refine⟨_,rfl,.ref fo,.ref C,_,_,_,rfl,rfl,W.c.ty f1,W.c.is,_,rfl,bX ?_⟩;refine⟨_,rfl,fo,df,_,rfl,f1,rfl,fo,df,Q7,Df,zf,rfl,f1,f3,λl1 JS=>?_⟩;have t1:=aq (o:=.lst zf) JS;have e1:upd H l1 (.lst zf) l1=some (.lst zf):=ae;generalize upd H l1 _=H1 at t1 e1 |-;have Q8:=fc.same t1;refine⟨_,rfl,_,rfl,_,rfl,ld,lr,p,Dd,Nd,yd,_,a,R,Dk,Mk,rfl,hp,Q8.d,Q8.td,sx.d.len,Q8.r,sx.d.d0,sx.d.bd,sx.d.t4,sx.r4,λt ht k hk=>?_,λH2 D2 u2 t2 NX N9=>?_⟩
 ·obtain⟨k0,k4,_⟩:=sx.d.four ht hk;obtain⟨ρ,us,σ,g1,g2,g3,_⟩:=Q8.row k.toNat (by omega);rw[show((k.toNat:Nat):Int)=k by omega] at g3;exact⟨k0,ρ,us,by rw[BC,g1];rfl,g2,g3⟩
 rw[<-zr hp sx.d.num WA] at N9;refine⟨_,_,eO (t2 _ _ e1) (aF.keep f4 (az.of (t1.trans t2))),eO NX N9,oY _,_,rfl,?_⟩;rw[dO];refine bX ?_;have LU:=t1.trans t2;have fc:=fc.same LU;have Ph:=LU _ _ Ph;have Rm:=Rm.same LU;have sc:=sc.kp (Kp.of LU);have tb:=tb.same LU;clear t1 t2 LU e1 JS Q8 NX N9 f1 f2 f3 f4;refine⟨_,rfl,_,rfl,lh,ls,σs,rfl,rfl,aW.of Ph,aW.of fc.s,_,rfl,bX ?_⟩;obtain⟨df,Q7,Ja,Df,zf,f1,f2,f3,f4⟩:=fc.one.ex;refine⟨_,rfl,s1,df,_,rfl,f1,rfl,s1,df,Q7,Df,zf,rfl,f1,f3,λl3 QW=>?_⟩;have t3:=aq (o:=.lst zf) QW;have e3:upd H2 l3 (.lst zf) l3=some (.lst zf):=ae;generalize upd H2 l3 _=H3 at t3 e3 |-;refine⟨_,rfl,_,_,eO e3 (aF.keep f4 (az.of t3)),eO (t3 _ _ fc.d) (aF.keep fc.td (az.of t3)),oY _,_,rfl,?_⟩;rw[dO];refine bX ?_;have fc:=fc.same t3;have Rm:=Rm.same t3;have sc:=sc.kp (Kp.of t3);have tb:=tb.same t3;clear t3 e3 QW f1 f2 f3 f4;refine⟨_,rfl,ls,rfl,⟨_,aW.of fc.s⟩,?_⟩;refine lV (xs:=σs.map V.ref) (λi us H'=>ay H3 H'/\∃gs:List Addr,us=gs.map V.ref/\gs.length=i/\∀k:Nat,k<i->∃l us,gs[k]?=some l/\H' l=some (.lst us)/\aF H' us (R k)) ⟨ay.refl _,[],rfl,rfl,λk hk=>absurd hk (DG _)⟩ (λi us H' hi h=>?_) (λi x us H' N hi hx h k=>?_) (λus H' h=>?_)
 ·obtain⟨sH,gs,rfl,ll,_⟩:=h;refine⟨?_,aW.of (sH _ _ fc.s)⟩;rw[wC] at hi |-;have:=sx.n6;exact xv (show _<=100 by omega) (by decide)
 ·obtain⟨sH,gs,rfl,ll,Ji⟩:=h;rw[wC] at hi;obtain⟨ρ,us0,σi,_,_,_,g4,g5⟩:=(fc.same sH).row i (by omega)
  have ex:x=.ref σi:=by
   rw[BC,g4] at hx;exact(Option.some.inj hx).symm
  subst ex;obtain⟨df,Q7,Ja,Df,zf,f1,f2,f3,f4⟩:=g5.ex;refine rD ⟨_,rfl,σi,df,_,rfl,f1,rfl,σi,df,Q7,Df,zf,rfl,f1,f3,λl4 V6=>k _ _ ?_⟩;have t4:=aq (o:=.lst zf) V6;refine⟨sH.trans t4,gs++[l4],by rw[zJ];rfl,by rw[Af,ll];rfl,λj hj=>?_⟩
  by_cases h:j<i
  ·obtain⟨l,us,h1,h2,h3⟩:=Ji j h;exact⟨l,us,by rw[Fw (by omega)];exact h1,t4 _ _ h2,aF.keep h3 (az.of t4)⟩
  ·have e:j=i:=by omega
   subst e;exact⟨l4,zf,by rw[E3 (by omega),ll,Nat.sub_self];rfl,ae,aF.keep f4 (az.of t4)⟩
 obtain⟨sH,gs,rfl,ll,Ji⟩:=h;rw[wC] at ll Ji;intro l5 ZR;have t5:=aq (o:=.lst (gs.map V.ref)) ZR;have e5:upd H' l5 (.lst (gs.map V.ref)) l5=some (.lst (gs.map V.ref)):=ae;generalize upd H' l5 _=H5 at t5 e5 |-;have Q9:=sH.trans t5;have fc:=fc.same Q9
 have dl:aL K H5 (.lst ((List.range' 0 n).map λ(k:Nat)=>lE (R k))) (.ref l5):=by
  unfold aL;refine⟨l5,_,rfl,aW.of e5,?_⟩
  have:=mn (K:=K) (H:=H5) (R:=R) gs 0 λk hk=>by
   obtain⟨l,us,h1,h2,h3⟩:=Ji k (by omega);exact⟨l,us,h1,t5 _ _ h2,by rw[Et];exact aF.keep h3 (az.of t5)⟩
  rw[show gs.length=n by omega] at this;exact this
 have dr:aL K H5 (.lst ((List.range' 0 n).map λ(k:Nat)=>lE (R k))) (.ref lr):=by
  unfold aL;refine⟨lr,_,rfl,aW.of fc.r,?_⟩
  have:=mn (K:=K) (H:=H5) (R:=R) ρs 0 λk hk=>by
   obtain⟨ρ,us,_,h1,h2,h3,_⟩:=fc.row k (by omega);exact⟨ρ,us,h1,h2,by rw[Et];exact h3⟩
  rw[lrn] at this;exact this
 refine⟨_,rfl,_,_,dl,dr,(by unfold i5;have:=uP (R:=R) (List.range' 0 n);omega),_,rfl,?_⟩;rw[dO];refine bX ?_;have Rm:=Rm.same Q9;have sc:=sc.kp (Kp.of Q9);have tb:=tb.same Q9;clear sH t5 e5 Q9 ZR dl dr Ji ll;obtain⟨dxp,WB⟩:=fc.f;refine⟨4,rfl,by decide,by decide,?_⟩;refine rZ (lo:=0) (n:=(4:Int).toNat) (rest:=[some (.ref fl)]) (λj us H'=>ay H5 H'/\∃gs:List Addr,us=gs.map V.ref/\gs.length=j/\∀k:Nat,k<j->∃g,gs[k]?=some g/\BV C CF H' g p [([(k:Int)],(1,1))]) ⟨ay.refl _,[],rfl,rfl,λk hk=>absurd hk (DG _)⟩ (λi us H' hi h=>?_) (λi us H' N hi h k=>?_) (λus H' h=>?_)
 ·obtain⟨sH,gs,rfl,ll,_⟩:=h;rw[wC,ll];exact xv hi (by decide)
 ·obtain⟨sH,gs,rfl,ll,Ji⟩:=h;have hi4:i<4:=hi;refine rD ⟨_,rfl,_,rfl,BZ,λt6 Um=>?_⟩;have Pe:=aq (o:=.tup [.int (0+(i:Int))]) Um;have e6:upd H' t6 (.tup [.int (0+(i:Int))]) t6=some (.tup [.int (0+(i:Int))]):=ae;generalize upd H' t6 _=H6 at Pe e6 |-;refine⟨by decide,λt7 Uc=>?_⟩;have WC:=aq (o:=.tup [.int 1,.int 1]) Uc;have e7:upd H6 t7 (.tup [.int 1,.int 1]) t7=some (.tup [.int 1,.int 1]):=ae;generalize upd H6 t7 _=H7 at WC e7 |-;refine⟨jP,λt8 ht8=>?_⟩;have ZS:=aq (o:=.tup [.ref t6,.ref t7]) ht8;have e8:upd H7 t8 (.tup [.ref t6,.ref t7]) t8=some (.tup [.ref t6,.ref t7]):=ae;generalize upd H7 t8 _=H8 at ZS e8 |-;refine⟨BZ,λl9 Pd=>?_⟩;have WD:=aq (o:=.lst [.ref t8]) Pd;have e9:upd H8 l9 (.lst [.ref t8]) l9=some (.lst [.ref t8]):=ae;generalize upd H8 l9 _=H9 at WD e9 |-;have WE:=ZS.trans WD;have ZT:=Pe.trans (WC.trans WE);intro x dx hx Mh ne;refine gD (ts:=[([(i:Int)],(1,1))]) hx Mh ne ((sH.trans ZT) _ _ WB) hp e9 (.cons ⟨t8,t6,t7,rfl,WD _ _ e8,by rw[Int.zero_add] at e6;exact(WC.trans WE) _ _ e6,WE _ _ e7⟩ .nil) ?_ (λt ht=>?_) λO8 Pf ZU=>?_
  ·exact(show Lv p 2 32 _ from⟨1,1,by decide,by decide,by unfold B;decide,by unfold B;decide,rQ hp (by omega) (by omega)⟩).gth hp (by decide) (by decide)
  ·have:t=([(i:Int)],(1,1)):=by simpa using ht
   rw[this]
   exact uE (by simp) (λx hx=>by
    have:x=(i:Int):=by simpa using hx
    omega) (by show 1<4000;decide)
  rw[w9] at ZU;have Ra:=ZT.trans Pf;refine k _ _ ⟨sH.trans Ra,gs++[x],by rw[zJ];rfl,by rw[Af,ll];rfl,λj hj=>?_⟩
  by_cases h:j<i
  ·obtain⟨g,h1,h2⟩:=Ji j h;exact⟨g,by rw[Fw (by omega)];exact h1,h2.same Ra⟩
  ·have e:j=i:=by omega
   subst e;exact⟨x,by rw[E3 (by omega),ll,Nat.sub_self];rfl,ZU⟩
 obtain⟨sH,gs,rfl,ll,Ji⟩:=h;have ll:gs.length=4:=ll;have Ji:∀k:Nat,k<4->∃g,gs[k]?=some g/\BV C CF H' g p [([(k:Int)],(1,1))]:=Ji;intro l6 Wk;have t6:=aq (o:=.lst (gs.map V.ref)) Wk;have e6:upd H' l6 (.lst (gs.map V.ref)) l6=some (.lst (gs.map V.ref)):=ae;generalize upd H' l6 _=H6 at t6 e6 |-;have Uu:=sH.trans t6;have fc:=fc.same Uu;have Rm:=Rm.same Uu;have sc:=sc.kp (Kp.of Uu);have tb:=tb.same Uu;obtain⟨d1,_,_,h1⟩:=fc.one.hd;refine⟨_,rfl,s1,d1,_,rfl,h1,rfl,_,rfl,?_⟩;dsimp only[Ct];refine pq (R:=λk=>[([k],(1,1))]) (Dk:=λ_=>1) (Mk:=λ_=>1) fc.one hp sx.d (λk hk=>AI hp hk) e6 (by rw[wC];omega) (λz hz=>?_) (by rw[wC,ll];exact sx.d.reach.2) (λt ht k hk=>?_) λH7 u t7 Su=>?_
 ·obtain⟨g,hg,rfl⟩:=HF.mp hz;obtain⟨j,ej⟩:=y4.mp hg;obtain⟨g',e1,S1⟩:=Ji j (by have:=cE ej;omega);have e:g=g':=Option.some.inj (ej.symm.trans e1);exact⟨g,_,rfl,e▸(S1.same t6)⟩
 ·obtain⟨k0,k4,_⟩:=sx.d.four ht hk;obtain⟨g,e1,S1⟩:=Ji k.toNat (by omega);rw[show((k.toNat:Nat):Int)=k by omega] at S1;exact⟨k0,g,by rw[BC,e1];rfl,S1.same t6⟩
 rw[xc hp sx.d.num λt ht=>(sx.d.prw t ht).1,sx.d.self] at Su;refine⟨_,rfl,Dh W.c Su (fc.one.same t7) ⟨_,rfl,bX ?_⟩⟩;exact⟨sa,r,fl,ld,lr,s1,ls,fo,ns,p,Dd,Nd,a,R,Dk,Mk,n,yd,ρs,σs,_,_,_,_,_,_,_,_,_,rfl,sx,fc.same t7,Rm.same t7,sc.kp (Kp.of t7),tb.same t7,fin⟩
end
variable {raw:List Tm}
theorem Cw {t:Tm}(h:t∈tg p raw):∃x∈raw,t.1=x.1:=by
 rcases kf raw [] t (rh.mp ((dz _).mem_iff.mp h)).1 with⟨x,hx,_⟩|⟨x,hx,e⟩
 ·exact nomatch hx
 ·exact⟨x,hx,e⟩
theorem EF (hp:FP p)(h:∀t∈raw,Gn p 45 t.2):(tg p raw).length<=raw.length:=by
 rw[(dz (aO p raw)).length_eq];exact GC (tT _ _) (gO (m:=45) hp raw.length raw rfl h).2.2
theorem vC {m:Int}(h:∀t∈raw,Be p m t):ba p raw:=λt ht=>(h t ht).1.1
theorem EH (hp:FP p)(hl:raw.length<=5)(h:∀t∈raw,Be p 4 t):∃Dd Nd,Due p Dd Nd (tg p raw):=by
 obtain⟨D,d0,dB,hd⟩:=oN (p:=p) (ts:=raw) λt ht=>(h t ht).1;have n0:(0:Int)<=35184372088832*D:=wZ (by decide) (by omega);have bN:B 280 (35184372088832*D*raw.length):=(((show B 46 (35184372088832:Int) by unfold B;decide).mul dB).mul (vO (k:=3) (xv hl (by decide)))).mono (by omega);refine⟨D,35184372088832*D*raw.length,d0,dB.mono (by omega),λt ht=>⟨⟨d0,wZ n0 (wt _),dB.mono (by omega),bN.mono (by decide),Dw hp n0 hd t ht⟩,?_⟩,GC (EF hp λt ht=>(h t ht).1) (by omega),Dt hp (vC h)⟩;obtain⟨x,hx,e⟩:=Cw ht;rw[e];refine gr (by decide) (h x hx).2.1 λk hk=>?_;have:=(h x hx).2.2.1 k hk
 have:k=0\/k=1\/k=2\/k=3:=by omega
 simpa using this
theorem Due.lv {Dd Nd:Int}{a:List Tm}(h:Due p Dd Nd a):Lv p 290 6 a:=by
 by_cases z:a=[]
 ·subst z;exact⟨1,0,by decide,by decide,by unfold B;exact Nat.one_lt_pow (by decide) (by decide),by unfold B;exact Nat.pow_pos (by decide),λt ht=>(nomatch ht),λt ht=>(nomatch ht),GH _⟩
 ·obtain⟨t,ht⟩:=List.exists_mem_of_ne_nil a z;have n:=(h.t4 t ht).n;refine⟨Dd,Nd,n.d0,n.n0,n.bd,n.bn,λt ht=>(h.t4 t ht).n.cd,λt ht=>⟨(h.prw t ht).1,λk hk=>?_⟩,h.len⟩;have:=h.four ht hk;omega
structure Rw (p:Int)(x:List Tm×Int×Int):Prop where
 d0:0<x.2.1
 m0:0<=x.2.2
 bd:B 190 x.2.1
 bm:B 190 x.2.2
 tl:Tl p x.2.1 x.2.2 32 x.1
 self:tg p x.1=x.1
theorem EV (hp:FP p)(hl:raw.length<=3)(h:∀t∈raw,Be p 5 t):∃D M,Rw p (tg p raw,D,M):=by
 obtain⟨D,d0,dB,hd⟩:=oN (p:=p) (ts:=raw) λt ht=>(h t ht).1;have n0:(0:Int)<=35184372088832*D:=wZ (by decide) (by omega);have t:Tl p D (35184372088832*D) 3 raw:=⟨hd,λt ht=>⟨(h t ht).2.1,(h t ht).2.2.1⟩,hl⟩;exact⟨D,_,d0,wZ n0 (wt _),dB.mono (by omega),(((show B 46 (35184372088832:Int) by unfold B;decide).mul dB).mul (vO (n:=3) (k:=2) (show 3<2^2 by decide))).mono (by omega),t.tg hp n0,Dt hp (vC h)⟩
theorem Rw.lv {x:List Tm×Int×Int}(h:Rw p x):Lv p 190 32 x.1:=⟨_,_,h.d0,h.m0,h.bd,h.bm,h.tl⟩
theorem Be.up {t:Tm}(h:Be p 4 t):Be p 5 t:=⟨h.1,h.2.1,λk hk=>by have:=h.2.2.1 k hk;omega,h.2.2.2⟩
noncomputable def Fp (K:Frag)(C CF Pt:Addr):TS:=λD σ H=>∃(sa r fl Ja:Addr)(ns:List Int)(p:Int)(o1 o5 o6 o7 o8 o9 MZ JK JP JQ JA JC Ka:Option V),
 σ=[some (.ref sa),o1,some (.ref r),some (.int p),some (.ref fl),o5,o6,o7,o8,o9,MZ,JK,JP,JQ,JA,JC,Ka]/\FP p/\H fl=some (.ins CF Ja (eT p))/\aR H r/\qy K H sa ns/\jO Pt H/\Nx K sa ns Pt D
noncomputable def x5 (p:Int)(H:Hp)(ρs:List Addr)(Rs:List (List Tm×Int×Int)):Prop:=ρs.length=Rs.length/\∀k:Nat,k<ρs.length->∃ρ us x,ρs[k]?=some ρ/\H ρ=some (.lst us)/\Rs[k]?=some x/\aF H us x.1/\Rw p x
variable {Rs:List (List Tm×Int×Int)}
theorem x5.keep (h:x5 p H ρs Rs)(k:∀ρ us ts,H ρ=some (.lst us)->aF H us ts->H' ρ=some (.lst us)/\aF H' us ts):x5 p H' ρs Rs :=
 ⟨h.1,λj hj=>let⟨ρ,us,x,e1,e2,e3,e4,e5⟩:=h.2 j hj;⟨ρ,us,x,e1,(k _ _ _ e2 e4).1,e3,(k _ _ _ e2 e4).2,e5⟩⟩
theorem x5.same (h:x5 p H ρs Rs)(s:ay H H'):x5 p H' ρs Rs:=h.keep λρ us ts e t=>⟨s _ _ e,aF.keep t (az.of s)⟩
theorem x5.room {H1:Hp}{r:Addr}(h:x5 p H ρs Rs)(R:aR H r)(k:SameBut r H H1)(s:ay H1 H'):x5 p H' ρs Rs:=h.keep λρ us ts e t=>⟨s _ _ (k _ _ e (jh R e t)),aF.keep (aF.keep t (R.agK k)) (az.of s)⟩
theorem x5.app {l:Addr}{ys:List V}{x:List Tm×Int×Int}(h:x5 p H ρs Rs)(e:H l=some (.lst ys))(t:aF H ys x.1)(w:Rw p x):x5 p H (ρs++[l]) (Rs++[x]):=by
 refine⟨by rw[Af,Af,h.1];rfl,λk hk=>?_⟩;rw[Af] at hk
 by_cases c:k<ρs.length
 ·obtain⟨ρ,us,x,e1,e2,e3,e4,e5⟩:=h.2 k c;exact⟨ρ,us,x,by rw[Fw c];exact e1,e2,by rw[Fw (by have:=h.1;omega)];exact e3,e4,e5⟩
 ·have ek:k = ρs.length:=by have:[l].length=1:=rfl;omega
  subst ek;exact⟨l,ys,x,by simp,e,by rw[h.1];simp,t,w⟩
section
variable {P:A9}{w:World}{K:PySem.W.Frag}{mg:Fj}{base:Heap}
variable {fa:Addr}{A:Around}{outer:List Env}{s0:qm}{H0:Hp}{E0:XK}{C CF Kt NS fI KA cc Pt:Addr}{JT Ju:FD}
set_option maxHeartbeats 1000000 in
theorem AC (Jd:Hz 13 (XL P w K mg base fa (.ref cc) A outer s0 H0 E0).A)(W:m9 P w K mg base C CF Kt NS fI KA cc Pt JT Ju):
 gW (XL P w K mg base fa (.ref cc) A outer s0 H0 E0) (jC.drop 3) (Fp K C CF Pt):=by
 obtain⟨Uk,Mn,LP,LQ,LR⟩:=W.putin;obtain⟨fLt,adj,ZV,ZW,ZX,ZY⟩:=W.terms;obtain⟨fTk,Wm,Wn,Wo,Wq,Wr⟩:=W.take;obtain⟨fG,fdG,FG,bG,mG,kG⟩:=W.gather;have KC:=Jd.mono (show 11<=13 by decide);have MX:=Jd.mono (show 7<=13 by decide);have Ke:=Jd.mono (show 4<=13 by decide);have J9:=Jd.mono (show 3<=13 by decide);have Jr:=Jd.mono (show 1<=13 by decide)
 refine gW.imp' (ai (@aM _ _ 5 _ _ _ _ dm.nd rfl (Or.inl rfl) (aA FG Ke (by rfl) mG kG bG .nil af (ao (pv 3) (ao (aA ZV J9 (by rfl) ZX ZY ZW .nil af (ao (pv 2) (ao (pv 3) (ao aj (ao aj ah rfl) rfl) rfl) rfl)) ah rfl) rfl)) rfl (Or.inl rfl))
  (ai (jX (i:=6) (N:=["_law_k","_law_room_here","_law_prime_here"]) (nl:=1) (js:=[2,3]) (osc:=ar eM) ⟨rfl,rfl,by decide +kernel,by decide +kernel,by decide +kernel,rfl,(.cons ⟨rfl,by decide +kernel⟩ (.cons ⟨rfl,by decide +kernel⟩ .nil)),by decide +kernel⟩ rfl dm.nd rfl (Or.inl rfl)
   (fL (by rfl) W.m_range (ao (aD cJ aj (aA Wn Jr (by rfl) Wq Wr Wo .nil af (ao (pv 2) (ao aj ah rfl) rfl))) ah rfl))
   (λCq fq sq Hq=>aC (i:=0) (by show(["_law_k","_law_room_here","_law_prime_here"]:DV).Nodup;decide +kernel) rfl (Or.inl rfl) (Or.inr rfl))
   (λCq fq sq Hq=>c6)
   (λCq fq sq Hq=>(aA FG Ke (by rfl) mG kG bG .nil af (ao (pv 2) (ao (aA ZV J9 (by rfl) ZX ZY ZW .nil af (ao (pv 1) (ao (pv 2) (ao aj (ao aj ah rfl) rfl) rfl) rfl)) ah rfl) rfl))) (by rfl))
  (ai (@aM _ _ 7 _ _ _ _ dm.nd rfl (Or.inr rfl) (d3 W.M W.FI MX (by rfl) W.c.c.mgC W.bI .nil af (ao (pv 4) (ao (pv 5) ah rfl) rfl)) rfl (Or.inl rfl))
  (ai (@aM _ _ 8 _ _ _ _ dm.nd rfl (Or.inr rfl) (dG (N:=["_law_row","_law_prime_here"]) (nl:=1) (js:=[3]) (osc:=ar eM) ⟨rfl,rfl,by decide +kernel,by decide +kernel,by decide +kernel,rfl,(.cons ⟨rfl,by decide +kernel⟩ .nil),by decide +kernel⟩ rfl
   (cb (pv 6))
   (λCq fq sq Hq=>aC (i:=0) (by show(["_law_row","_law_prime_here"]:DV).Nodup;decide +kernel) rfl (Or.inl rfl) (Or.inr rfl))
   (λCq fq sq Hq=>c6)
   (λCq fq sq Hq=>(d3 W.M W.FI MX (by rfl) W.c.c.mgC W.bI .nil af (ao (d3 W.MF W.FFI J9 (by rfl) W.cF.mgC W.bFFI .nil af (ao (pv 1) ah rfl)) (ao (pv 0) ah rfl) rfl)))) rfl (Or.inl rfl))
  (ai (@aM _ _ 9 _ _ _ _ dm.nd rfl (Or.inl rfl) (cX iS (by rfl) W.m_list (by rfl) (ao (pv 8) ah rfl)) rfl (Or.inl rfl))
  (ai (@aM _ _ 10 _ _ _ _ dm.nd rfl (Or.inl rfl) (bU (pv 7) W.c.c.cl LR LP KC LQ .nil af (ao (pv 9) ah rfl)) rfl (Or.inl rfl))
  (yj Jd W))))))) λEn σ H h=>?_
 obtain⟨sa,r,fl,Ja,ns,p,o1,o5,o6,o7,o8,o9,MZ,JK,JP,JQ,JA,JC,Ka,rfl,hp,hf,Rm,sc,tb,fin⟩:=h;refine⟨_,rfl,_,rfl,_,rfl,r,p,4,5,rfl,Rm,hp,by decide,by decide,by decide,by decide,λD1 y1 raw H1 Uv Uw rl rg R1 S1=>?_⟩
 have rl:raw.length<=5:=by omega
 have hf:=S1 _ _ hf (i7 Rm hf);have sc:=sc.but Rm S1;have tb:=gC tb Rm S1;refine⟨D1,p,y1,raw,rfl,hp,Uv,Uw,(yF (by omega) λt ht=>(rg t ht).up).gth hp (by decide) (by decide),λH2 ld yd t2 J6 JZ=>?_⟩;obtain⟨Dd,Nd,du⟩:=EH hp rl rg;have hf:=t2 _ _ hf;have sc:=sc.kp (Kp.of t2);have tb:=tb.same t2;have Ol:=R1.same t2;have JZ:aF H2 yd (tg p raw):=JZ;generalize tg p raw=a at JZ du;have J6:=J6;have kd:=jh Ol J6 JZ;clear S1 t2 R1 Rm Uv Uw rg rl;refine⟨_,rfl,?_⟩;obtain⟨lq1,xq1,hq1,yq1,zq1⟩:=id Ol;refine⟨_,lq1,xq1,3,rfl,hq1,yq1,zq1,by decide,by decide,λz Ux Uy z0 z1 yp1 zp1=>?_⟩;have R3:aR (upd H2 r (.lst [.int Ux,.int Uy])) r:=⟨Ux,Uy,ae,yp1,zp1⟩;have S3:SameBut r H2 (upd H2 r (.lst [.int Ux,.int Uy])):=SameBut.upd;generalize upd H2 r (.lst [.int Ux,.int Uy])=H3 at R3 S3 |-;have hf:=S3 _ _ hf (i7 Ol hf);have sc:=sc.but Ol S3;have tb:=gC tb Ol S3;have JZ:=aF.keep JZ (Ol.agK S3);have J6:=S3 _ _ J6 kd;clear S3 Ol kd;refine⟨_,_,rfl,rfl,4+z,rfl,by omega,by omega,?_⟩;refine rZ (lo:=0) (n:=(4+z).toNat) (rest:=[some (.ref r),some (.int p)]) (λj us H'=>∃ρs Rs,us = ρs.map V.ref/\ρs.length=j/\x5 p H' ρs Rs/\H' fl=some (.ins CF Ja (eT p))/\qy K H' sa ns/\jO Pt H'/\aR H' r/\H' ld=some (.lst yd)/\aF H' yd a) ⟨[],[],rfl,rfl,⟨rfl,λk hk=>absurd hk (DG _)⟩,hf,sc,tb,R3,J6,JZ⟩ (λi us H' hi h=>?_) (λi us H' N hi h k=>?_) (λus H' h=>?_)
 ·obtain⟨ρs,Rs,rfl,ll,_⟩:=h;rw[wC,ll];exact xv (show i<=100 by omega) (by decide)
 ·obtain⟨ρs,Rs,rfl,ll,md,hf,sc,tb,Rm,J6,JZ⟩:=h;refine rD ⟨_,rfl,_,rfl,_,rfl,r,p,5,3,rfl,Rm,hp,by decide,by decide,by decide,by decide,λD1 y1 raw H1 Uv Uw rl rg R1 S1=>?_⟩
  have rl:raw.length<=3:=by omega
  refine⟨D1,p,y1,raw,rfl,hp,Uv,Uw,(yF (by omega) rg).gth hp (by decide) (by decide),λH2 lx yx t2 hlx Py=>k _ _ ?_⟩;obtain⟨D,M,JM⟩:=EV hp rl rg;have Py:aF H2 yx (tg p raw):=Py;exact⟨ρs++[lx],Rs++[(tg p raw,D,M)],by rw[zJ];rfl,by rw[Af,ll];rfl,(md.room Rm S1 t2).app hlx Py JM,t2 _ _ (S1 _ _ hf (i7 Rm hf)),(sc.but Rm S1).kp (Kp.of t2),(gC tb Rm S1).same t2,R1.same t2,t2 _ _ (S1 _ _ J6 (jh Rm J6 JZ)),aF.keep (aF.keep JZ (Rm.agK S1)) (az.of t2)⟩
 clear hf sc tb R3 J6 JZ;obtain⟨ρs,Rs,rfl,ll,md,hf,sc,tb,Rm,J6,JZ⟩:=h;obtain⟨n,en⟩:∃n:Nat,n=(4+z).toNat:=⟨_,rfl⟩;rw[<-en] at ll
 have n4:4<=n:=by omega
 have n6:n<=6:=by omega
 clear en z0 z1;intro lr Wj;have t3:=aq (o:=.lst (ρs.map V.ref)) Wj;have e3:upd H' lr (.lst (ρs.map V.ref)) lr=some (.lst (ρs.map V.ref)):=ae;generalize upd H' lr _=H4 at t3 e3 |-;have hf:=t3 _ _ hf;have sc:=sc.kp (Kp.of t3);have tb:=tb.same t3;have Rm:=Rm.same t3;have J6:=t3 _ _ J6;have JZ:=aF.keep JZ (az.of t3);have md:=md.same t3;clear t3;refine⟨_,rfl,_,rfl,?_⟩;intro s1 N6 hx Mh ne;refine gD hx Mh ne hf hp J6 JZ (du.lv.gth hp (by decide) (by decide)) (λt ht=>?_) λH5 t5 S5=>?_
 ·exact du.lv.prd t ht
 rw[du.self] at S5;have hf:=t5 _ _ hf;have sc:=sc.kp (Kp.of t5);have tb:=tb.same t5;have Rm:=Rm.same t5;have J6:=t5 _ _ J6;have JZ:=aF.keep JZ (az.of t5);have md:=md.same t5;have e3:=t5 _ _ e3;clear t5 hx Mh ne;refine⟨_,rfl,lr,rfl,⟨_,aW.of e3⟩,?_⟩;refine lV (xs:=ρs.map V.ref) (rest:=[some (.int p)]) (λi us H'=>ay H5 H'/\∃gs:List Addr,us=gs.map V.ref/\gs.length=i/\∀k:Nat,k<i->∃g x,gs[k]?=some g/\Rs[k]?=some x/\BV C CF H' g p x.1) ⟨ay.refl _,[],rfl,rfl,λk hk=>absurd hk (DG _)⟩ (λi us H' hi h=>?_) (λi x us H' N hi hx h k=>?_) (λus H' h=>?_)
 ·obtain⟨sH,gs,rfl,lg,_⟩:=h;refine⟨?_,aW.of (sH _ _ e3)⟩;rw[wC] at hi |-;exact xv (show _<=100 by omega) (by decide)
 ·obtain⟨sH,gs,rfl,lg,Ji⟩:=h;rw[wC] at hi;obtain⟨ρ,us,x',g1,g2,g3,g4,g5⟩:=(md.same sH).2 i hi
  have ex:x=.ref ρ:=by
   rw[BC,g1] at hx;exact(Option.some.inj hx).symm
  subst ex;refine rD ⟨_,rfl,λf6 d6 hf6 QF ne6=>ib hf6 QF ne6 hp λH6 t6 e6=>⟨_,rfl,λs7 d7 hs7 hd7 ne7=>gD hs7 hd7 ne7 e6 hp (t6 _ _ g2) (aF.keep g4 (az.of t6)) (g5.lv.gth hp (by decide) (by decide)) (λt ht=>?_) λH7 t7 S7=>k _ _ ?_⟩⟩
  ·exact g5.lv.prd t ht
  rw[g5.self] at S7;have JY:=t6.trans t7;refine⟨sH.trans JY,gs++[s7],by rw[zJ];rfl,by rw[Af,lg];rfl,λj hj=>?_⟩
  by_cases h:j<i
  ·obtain⟨g,y,h1,h2,h3⟩:=Ji j h;exact⟨g,y,by rw[Fw (by omega)];exact h1,h2,h3.same JY⟩
  ·have e:j=i:=by omega
   subst e;exact⟨s7,x',by rw[E3 (by omega),lg,Nat.sub_self];rfl,g3,S7⟩
 obtain⟨sH,σs,rfl,lg,Ji⟩:=h;rw[wC,ll] at lg Ji;intro ls ZZ;have t6:=aq (o:=.lst (σs.map V.ref)) ZZ;have e6:upd H' ls (.lst (σs.map V.ref)) ls=some (.lst (σs.map V.ref)):=ae;generalize upd H' ls _=H6 at t6 e6 |-;refine⟨_,rfl,ls,_,rfl,.inl (aW.of e6),λlh Ph=>?_⟩;have t7:=aq (o:=.lst (σs.map V.ref)) Ph;have e7:upd H6 lh (.lst (σs.map V.ref)) lh=some (.lst (σs.map V.ref)):=ae;generalize upd H6 lh _=H7 at t7 e7 |-;have WG:=t6.trans t7;have JY:=sH.trans WG;have e6:=t7 _ _ e6;have Ji:∀k:Nat,k<n->∃g x,σs[k]?=some g/\Rs[k]?=some x/\BV C CF H7 g p x.1:=λk hk=>let⟨g,x,h1,h2,h3⟩:=Ji k hk;⟨g,x,h1,h2,h3.same WG⟩;have hf:=JY _ _ hf;have sc:=sc.kp (Kp.of JY);have tb:=tb.same JY;have Rm:=Rm.same JY;have J6:=JY _ _ J6;have JZ:=aF.keep JZ (az.of JY);have md:=md.same JY;have e3:=JY _ _ e3;have S5:=S5.same JY;clear t6 t7 WG JY sH ZZ Ph
 let R:Int->List Tm:=λk=>(Rs.getD k.toNat ([],1,0)).1
 let Dk:Int->Int:=λk=>(Rs.getD k.toNat ([],1,0)).2.1
 let Mk:Int->Int:=λk=>(Rs.getD k.toNat ([],1,0)).2.2
 have get:∀(k:Nat) x,Rs[k]?=some x->Rs.getD ((k:Int).toNat) ([],1,0)=x:=λk x e=>by
  rw[xf,Cc,e];rfl
 have rk:∀k:Nat,k<n->Rk p Dk Mk R k:=λk hk=>by
  obtain⟨ρ,us,x,_,_,e3,_,e5⟩:=md.2 k (by omega);have e:=get k x e3;refine⟨?_,?_,?_,?_,?_⟩
  ·show 0<(Rs.getD _ _).2.1;rw[e];exact e5.d0
  ·show 0<=(Rs.getD _ _).2.2;rw[e];exact e5.m0
  ·show B 190 (Rs.getD _ _).2.1;rw[e];exact e5.bd
  ·show B 190 (Rs.getD _ _).2.2;rw[e];exact e5.bm
  ·show Tl p (Rs.getD _ _).2.1 (Rs.getD _ _).2.2 32 (Rs.getD _ _).1;rw[e];exact e5.tl
 have row:∀k:Nat,k<n->∃ρ us σ,ρs[k]?=some ρ/\H7 ρ=some (.lst us)/\aF H7 us (R k)/\σs[k]?=some σ/\BV C CF H7 σ p (R k):=λk hk=>by
  obtain⟨ρ,us,x,e1,e2,e3,e4,e5⟩:=md.2 k (by omega);obtain⟨σ,y,h1,h2,h3⟩:=Ji k hk;have ey:y=x:=Option.some.inj (h2.symm.trans e3);subst ey;have e:R k=y.1:=DT (·.1) (get k y e3);rw[e];exact⟨ρ,us,σ,e1,e2,e4,h1,h3⟩
 have sx:Sx p Dd Nd a R Dk Mk n ρs σs:=⟨hp,du,rk,n4,n6,ll,lg⟩
 clear_value R Dk Mk
 obtain⟨d1,_,_,h1⟩:=S5.hd;refine⟨_,rfl,s1,d1,_,rfl,h1,rfl,_,rfl,?_⟩;dsimp only[Ct];refine pq (R:=R) (Dk:=Dk) (Mk:=Mk) S5 hp du sx.r4 e7 (by rw[wC];omega) (λz hz=>?_) (by rw[wC,lg];have:=du.reach.2;omega) (λt ht k hk=>?_) λH8 u t8 Su=>?_
 ·obtain⟨g,hg,rfl⟩:=HF.mp hz;obtain⟨j,ej⟩:=y4.mp hg;obtain⟨_,_,g',_,_,_,e1,S1⟩:=row j (by have:=cE ej;omega);have e:g=g':=Option.some.inj (ej.symm.trans e1);exact⟨g,_,rfl,e▸S1⟩
 ·obtain⟨k0,k4,_⟩:=du.four ht hk;obtain⟨_,_,g,_,_,_,e1,S1⟩:=row k.toNat (by omega);rw[show((k.toNat:Nat):Int)=k by omega] at S1;exact⟨k0,g,by rw[BC,e1];rfl,S1⟩
 have fc:Fc C CF p a R n fl ld lr s1 ls u yd ρs σs H8:=⟨⟨Ja,t8 _ _ hf⟩,t8 _ _ J6,aF.keep JZ (az.of t8),t8 _ _ e3,t8 _ _ e6,S5.same t8,Su,λk hk=>let⟨ρ,us,σ,h1,h2,h3,h4,h5⟩:=row k hk;⟨ρ,us,σ,h1,t8 _ _ h2,aF.keep h3 (az.of t8),h4,h5.same t8⟩⟩;exact⟨sa,r,fl,ld,lr,s1,ls,lh,u,ns,p,Dd,Nd,a,R,Dk,Mk,n,yd,ρs,σs,_,_,_,_,_,_,_,rfl,sx,fc,t8 _ _ e7,Rm.same t8,sc.kp (Kp.of t8),tb.same t8,fin⟩
end
noncomputable def vW (K:Frag)(Pt:Addr):Sp:=λvs H Q _=>∃(a:Addr)(ns:List Int),vs=[.ref a]/\qy K H a ns/\ns.length<=63/\jO Pt H/\∀H',Q (.bl true) H'
section
variable {P:A9}{w:World}{K:PySem.W.Frag}{mg:Fj}{base:Heap}
variable {fa:Addr}{A:Around}{outer:List Env}{s0:qm}{H0:Hp}{E0:XK}{C CF Kt NS fI KA cc Pt:Addr}{JT Ju:FD}
set_option maxHeartbeats 1000000 in
theorem Ap {Q:VK}{vs:List V}(Jd:Hz 13 (XL P w K mg base fa (.ref cc) A outer s0 H0 E0).A)(W:m9 P w K mg base C CF Kt NS fI KA cc Pt JT Ju)(h:vW K Pt vs H0 Q E0):
 ∃t,gW (XL P w K mg base fa (.ref cc) A outer s0 H0 E0) (bA eM) t/\t {nx:=λ_ H'=>Q .non H',rt:=Q} (gA NW vs) H0:=by
 obtain⟨fRm,ady,FRm,bRm,mRm,kRm⟩:=W.room;obtain⟨fPr,adD,FPr,bPr,mPr,kPr⟩:=W.prime;have J9:=Jd.mono (show 3<=13 by decide);have Kq:=Jd.mono (show 2<=13 by decide);have Jr:=Jd.mono (show 1<=13 by decide);obtain⟨a,ns,rfl,Z0,hlen,tb,fin⟩:=h
 refine⟨_,(ai (dD uy rfl (fL (by rfl) W.m_range (ao (aI (agv rfl) (by rfl) W.m_max (by rfl) (ao aj (ao (aI (aa7 rfl) (by rfl) W.m_min (by rfl) (ao (aI b9 (by rfl) W.m_len Gm (ao (pv 0) ah rfl)) (ao aj ah rfl) rfl)) ah rfl) rfl)) ah rfl)) (aC (i:=1) dm.nd rfl (Or.inl rfl))
  (ai (@aM _ _ 2 _ _ _ _ dm.nd rfl (Or.inr rfl) (aA FRm Jr (by rfl) mRm kRm bRm .nil af (ao (pv 0) (ao (pv 1) ah rfl) rfl)) rfl (Or.inl rfl))
  (ai (@aM _ _ 3 _ _ _ _ dm.nd rfl (Or.inr rfl) (aA FPr Kq (by rfl) mPr kPr bPr .nil af (ao (pv 2) ah rfl)) rfl (Or.inl rfl))
  (ai (@aM _ _ 4 _ _ _ _ dm.nd rfl (Or.inr rfl) (d3 W.MF W.FFI J9 (by rfl) W.cF.mgC W.bFFI .nil af (ao (pv 3) ah rfl)) rfl (Or.inl rfl))
  (AC Jd W)))))
  (av (aB fh))),?_⟩
 refine⟨_,rfl,a,_,rfl,.inl Z0.sq,_,_,rfl,_,_,rfl,_,rfl,?_,?_,?_⟩
 ·rw[wC]
  split <;> split <;> omega
 ·rw[wC]
  split <;> split <;> omega
 refine af2 (lo:=0) (λi σ H'=>(∃o1 o2 o3 o4 o5 o6 o7 o8 o9 MZ JK JP JQ JA JC Ka,σ=[some (.ref a),o1,o2,o3,o4,o5,o6,o7,o8,o9,MZ,JK,JP,JQ,JA,JC,Ka])/\qy K H' a ns/\jO Pt H') ⟨⟨_,_,_,_,_,_,_,_,_,_,_,_,_,_,_,_,rfl⟩,Z0,tb⟩ ?_ ?_
 ·rintro i σ G0 hi ⟨⟨o1,o2,o3,o4,o5,o6,o7,o8,o9,MZ,JK,JP,JQ,JA,JC,Ka,rfl⟩,WH,Z1⟩
  have adI:i<60:=by
   rw[wC] at hi
   split at hi <;> split at hi <;> omega
  refine⟨_,rfl,_,rfl,a,ns,0+(i:Int),rfl,WH.sq,hlen,by omega,by omega,λr l1 r1 TH Jr Kq=>?_⟩;have S1:=aq (o:=.lst [.int l1,.int r1]) TH;have WI:=WH.kp (Kp.of S1);have WJ:=Z1.same S1;have R1:aR (upd G0 r (.lst [.int l1,.int r1])) r:=⟨l1,r1,ae,Jr,Kq⟩;generalize (upd G0 r (.lst [.int l1,.int r1]))=G1 at WI WJ R1 |-;clear WH Z1 TH S1;refine⟨_,rfl,r,rfl,R1,λp G2 hp R2 S2=>?_⟩;have sc2:=WI.but R1 S2;have tb2:=gC WJ R1 S2;clear WI WJ S2 R1;refine⟨_,rfl,λfl Ja WB WK Jt=>?_⟩;refine ib WB WK Jt hp λG3 S3 hf3=>?_;exact⟨a,r,fl,Ja,ns,p,_,_,_,_,_,_,_,_,_,_,_,_,_,rfl,hp,hf3,R2.same S3,sc2.kp (Kp.of S3),tb2.same S3,λσ' KY h1 h2 h3=>⟨h1,h2,h3⟩⟩
 ·rintro σ H' ⟨⟨o1,o2,o3,o4,o5,o6,o7,o8,o9,MZ,JK,JP,JQ,JA,JC,Ka,rfl⟩,_,_⟩;exact fin _
theorem DE {f:Addr}{oc kV doc pm ct:Value}{od an:uJ}{Jq:sR}(lk:K.lookup f=some ⟨oc,od,.func (fnOf "law" "law" (b8 eM) (bA eM) (ar eM) .none kV doc pm an (.ref cc) ct),Jq⟩)(JG:codeIn K (.ref cc) "law"=true)
 (W:m9 P w K mg base C CF Kt NS fI KA cc Pt JT Ju):Ey P w K mg base (bZ P w) 14 f (fnOf "law" "law" (b8 eM) (bA eM) (ar eM) .none kV doc pm an (.ref cc) ct) ["_law_script"] (vW K Pt):=by
 refine vq lk JG dm (λvs H Q E h=>?_) λA outer s H vs Q E hr KG=>?_
 ·obtain⟨a,ns,rfl,_⟩:=h;rfl
 ·obtain⟨t,h,q⟩:=Ap (fa:=f) (A:=A) (outer:=outer) (s0:=s) (H0:=H) (E0:=E) hr W KG;exact⟨t,h.nox,q⟩
end
end K08
namespace Hd
open PySem PySem.W PyProof.Rows
noncomputable def qz (K:Frag)(x qual:Str)(st:Stmt)(f:Addr):Prop:=∃(oc:Value)(od:uJ)(kV doc pm:Value)(an:uJ)(IZ ct:Value)(Jq:sR),
 K.lookup f=some ⟨oc,od,.func (fnOf x qual (L2.b8 st) (L2.bA st) (L2.ar st) .none kV doc pm an IZ ct),Jq⟩/\codeIn K IZ qual=true/\keepIn K (.ref f)=true
variable {K:Frag}{x qual:Str}{st:Stmt}
theorem tP {v:Option (Option Value)}(h:aS K v=dX x qual st)(b:dH K v qual=true):v=some (some (.ref (cM v)))/\qz K x qual st (cM v):=by
 unfold aS at h;obtain⟨fd,e,s⟩:=lM.mp (show(ke K v).map Bg=some _ from h);unfold dH at b;rw[e] at b;rw[G8] at b;unfold ke at e
 split at e
 ·rename_i f
  split at e
  ·rename_i oc od Z2 Jq hl
   cases e
   refine⟨rfl,oc,od,fd.kwdefaults,fd.doc,fd.pyModule,fd.annotations,fd.code,fd.closureTuple,Jq,?_,b.2,b.1⟩;show K.lookup f=_;rw[hl];obtain⟨n,q,p,bd,sc,g,c,dv,kv,dc,pm,an,cd,ct,bl⟩:=fd;unfold Bg at s;simp only[Prod.mk.injEq] at s;obtain⟨rfl,rfl,rfl,rfl,rfl,rfl,rfl,rfl,rfl⟩:=s;rfl
  ·cases e
 ·cases e
theorem qz.fn {f:Addr}(d:qz K x qual st f):∃fd,L2.Fe K x qual st f fd:=by
 obtain⟨oc,od,kV,doc,pm,an,IZ,ct,Jq,l,c,k⟩:=d;exact⟨_,L2.abJ l c k⟩
theorem qz.keep {f:Addr}(d:qz K x qual st f):keepIn K (.ref f)=true:=by
 obtain⟨oc,od,kV,doc,pm,an,IZ,ct,Jq,l,c,k⟩:=d;exact k
end Hd
namespace L2
open PySem PySem.Spec PyProof.Rows PySem.W
end L2
namespace Hd
open PySem PySem.W PyProof.Rows
noncomputable def zH (K:Frag)(x qual:Str)(st:Stmt)(f T:Addr):Prop:=∃(oc:Value)(od:uJ)(kV doc pm:Value)(an:uJ)(IZ ct:Value)(Jq:sR),
 K.lookup f=some ⟨oc,od,.func (fnOf x qual (L2.b8 st) (L2.bA st) (L2.ar st) (.ref T) kV doc pm an IZ ct),Jq⟩/\codeIn K IZ qual=true/\keepIn K (.ref f)=true
variable {K:Frag}{x qual:Str}{st:Stmt}
theorem j3 {v:Option (Option Value)}(h:ig K v=dX x qual st)(b:dH K v qual=true)(d:sM K v=true):v=some (some (.ref (cM v)))/\zH K x qual st (cM v) (oR K v):=by
 unfold ig at h;obtain⟨fd,e,s⟩:=lM.mp (show(ke K v).map (λfd=>Bg {fd with defaults:=.none})=some _ from h)
 have hd:fd.defaults=.ref (oR K v):=by
  unfold sM Hj at d;unfold oR Hj;rw[e] at d |-;dsimp only at d |-
  cases q:fd.defaults with
  |ref a=>rfl
  |_=>rw[q] at d;cases d
 unfold dH at b;rw[e] at b;rw[G8] at b;generalize oR K v=T at hd;unfold ke at e
 split at e
 ·rename_i f
  split at e
  ·rename_i oc od Z2 Jq hl
   cases e
   refine⟨rfl,oc,od,fd.kwdefaults,fd.doc,fd.pyModule,fd.annotations,fd.code,fd.closureTuple,Jq,?_,b.2,b.1⟩;show K.lookup f=_;rw[hl];obtain⟨n,q,p,bd,sc,g,c,dv,kv,dc,pm,an,cd,ct,bl⟩:=fd;unfold Bg at s;simp only[Prod.mk.injEq] at s;have hd:dv=.ref T:=hd;subst hd;obtain⟨rfl,rfl,rfl,rfl,rfl,rfl,rfl,_,rfl⟩:=s;rfl
  ·cases e
 ·cases e
theorem zH.fn {f T:Addr}(d:zH K x qual st f T):∃fd,L2.uv K x qual st f fd T:=by
 obtain⟨oc,od,kV,doc,pm,an,IZ,ct,Jq,l,c,k⟩:=d;exact⟨_,L2.ahO l c k⟩
theorem zH.keep {f T:Addr}(d:zH K x qual st f T):keepIn K (.ref f)=true:=by
 obtain⟨oc,od,kV,doc,pm,an,IZ,ct,Jq,l,c,k⟩:=d;exact k
noncomputable def HM (K:Frag)(x qual:Str)(st:Stmt)(f c:Addr):Prop:=∃(oc:Value)(od:uJ)(kV doc pm:Value)(an:uJ)(ct:Value)(Jq:sR),
 K.lookup f=some ⟨oc,od,.func (fnOf x qual (L2.b8 st) (L2.bA st) (L2.ar st) .none kV doc pm an (.ref c) ct),Jq⟩/\codeIn K (.ref c) qual=true/\keepIn K (.ref f)=true
theorem vH {v:Option (Option Value)}{cc:Addr}(h:aS K v=dX x qual st)(b:dH K v qual=true)(d:AG K v cc=true):v=some (some (.ref (cM v)))/\HM K x qual st (cM v) cc:=by
 unfold aS at h;obtain⟨fd,e,s⟩:=lM.mp (show(ke K v).map Bg=some _ from h)
 have hd:fd.code=.ref cc:=by
  unfold AG at d;rw[e] at d;dsimp only at d
  cases q:fd.code with
  |ref a =>
   rw[q] at d
   have:a=cc:=by simpa using d
   rw[this]
  |_=>rw[q] at d;cases d
 unfold dH at b;rw[e] at b;rw[G8] at b;unfold ke at e
 split at e
 ·rename_i f
  split at e
  ·rename_i oc od Z2 Jq hl
   cases e
   have b2:codeIn K fd.code qual=true:=b.2;rw[hd] at b2;refine⟨rfl,oc,od,fd.kwdefaults,fd.doc,fd.pyModule,fd.annotations,fd.closureTuple,Jq,?_,b2,b.1⟩;show K.lookup f=_;rw[hl];obtain⟨n,q,p,bd,sc,g,c,dv,kv,dc,pm,an,cd,ct,bl⟩:=fd;unfold Bg at s;simp only[Prod.mk.injEq] at s;have hd:cd=.ref cc:=hd;subst hd;obtain⟨rfl,rfl,rfl,rfl,rfl,rfl,rfl,rfl,rfl⟩:=s;rfl
  ·cases e
 ·cases e
theorem qC:∀{vs:wW}{ns:List Int},vP vs ns=true->L2.aN (ns.map L2.V.int) vs
 |[],[],_=>.nil
 |v::vs,n::ns,h=>by
  unfold vP at h;rw[G8] at h;obtain⟨t,rfl⟩:=jr h.1;exact .cons ⟨t,rfl⟩ (qC h.2)
 |[],_::_,h=>by cases h
 |_::_,[],h=>by cases h
theorem wa {a:Addr}{ns:List Int}(h:Ar K a ns=true)(H:L2.Hp):L2.a7 K H a (ns.map L2.V.int):=by
 unfold Ar at h
 split at h
 ·rename_i o ho
  rw[G8] at h;obtain⟨h1,h2⟩:=h
  split at h1
  ·rename_i T hT
   split at h2
   ·rename_i its n hd
    rw[G8] at h2
    have:T="tuple":=by simpa using h1
    subst this;exact .inr ⟨o,its,n,ho,hT,hd,GR h2.2,qC h2.1⟩
   ·cases h2
  ·cases h1
 ·cases h
open L2 in
theorem wO {l:OpenLaw}{n k:Nat}{q:A9}{loose:DV}{XP:(Str->Option Value)->Heap->Prop}{YP:World->Heap->Prop}{d:DefRec}{CX:World->zd}{sp:Frag->Sp}{x:Str}{φ:Frag->Prop}{tabs:Frag->List (Addr×Addr)}
 (hn:l.most=some n)(OL:n<=sizeLine)(PL:d.params.defaults=[])(hr:Hz k callerA)
 (hY:∀(w:World)(h:Heap),YP w h->∃K:Frag,φ K/\K.In h)
 (hT:∀(w:World)(s₀:qm)(mg mb:Fj)(h:Heap)(K:Frag),φ K->Ground q loose [] XP w s₀ mg mb h->K.In h->TabsAt (tabs K) h/\∀r∈tabs K,K.lookup r.2=none)
 (F:∀(w:World)(K:Frag)(mg:Fj)(fa:Addr)(h:Heap),φ K->K.In h->h.Ns mainGlobals mg->mg d.name=some (.ref fa) →
  ∃fd:FuncData,(∀(s:qm)(u:Value),BindsTo s fd ⟨[u],[]⟩ [(x,u)])/\∀base:Heap,K.In base->base.Ns mainGlobals mg->zk (tabs K) mg base->Ey l.prog w K mg base (CX w) k fa fd [x] (sp K))
 (KG:∀(K:Frag)(H:Hp)(a:Addr)(ns:List Int),ns.length<=n->zC (tabs K) H->aW K H a (ns.map V.int)->sp K [.ref a] H (λv _=>v=.bl true) λ_ _ _=>False)
 (Vg:∀(w:World)(H:Hp)(s:qm)(e:Value)(s':qm),CX w [] H s (λ_ _ _=>False) e s'->False):
 WalkO q loose XP YP l.row.toRowW d [] (λf vs=>PySem.call f vs):=by
 refine Yz.agr hn PL λw s₀ s₁ mg mb fa o pm cd doc a vs ns G Y ho hd JG US Nr hints hlen hg=>?_;obtain⟨K,hφ,KX⟩:=hY w _ Y;obtain⟨fd,hb,hF⟩:=F w K mg fa _ hφ KX G.T.g US;obtain⟨t1,t2⟩:=hT w s₀ mg mb _ K hφ G KX;exact TGs KX G.T.g G.T.b G.T.builtins G.T.nolimit hg Nr hints (GC hlen OL) hr t1 t2 G.T.bmain hF hb (λH hO hS=>KG K H a ns hlen hO hS) λH e s'=>Vg w H s₁ e s'
end Hd
namespace K08
open PySem L2 PySem.W Nm
open Hd (gv ga fv cM eW cw eC bu jL c8 mJ de dH aS ig dX sM oR tG iU yO oM BO jr xJ j7 Ar AG tP j3 vH wa)
section
variable {α:Type}{M:List α->Prop}
theorem DK (h:∀a,M [a]):∀us:List α,us.length=1->M us
 |[a],_=>h a
theorem tX (h:∀a b,M [a,b]):∀us:List α,us.length=2->M us
 |[a,b],_=>h a b
theorem kc (h:∀a b c,M [a,b,c]):∀us:List α,us.length=3->M us
 |[a,b,c],_=>h a b c
theorem Hu (h:∀a b c d,M [a,b,c,d]):∀us:List α,us.length=4->M us
 |[a,b,c,d],_=>h a b c d
end
section
variable {K:Frag}{f T:Addr}{fd:FD}{oT:Obj}{t:Tok}{n:Nat}
theorem GY (F:uv K "__init__" "Field.__init__" yW f fd T)(lT:K.lookup T=some oT)(dT:oT.data=.seq #[.int 0 t] n):L2.bF K fd FY []:=by
 obtain⟨oc,od,kV,doc,pm,an,IZ,ct,Jq,rfl,lk,JG⟩:=F.ex;intro s us KX hl
 cases us with
 |nil=>simp at hl
 |cons a0 r1 =>
  cases r1 with
  |nil=>simp at hl
  |cons a1 r2 =>
   cases r2 with
   |nil=>exact binds_K KX rfl lT dT rfl rfl
   |cons a r=>simp at hl
theorem Fn (F:uv K "made" "Field.made" AQ f fd T)(lT:K.lookup T=some oT)(dT:oT.data=.seq #[.int 1 t] n):L2.bF K fd DZ [.int 1 t]:=by
 obtain⟨oc,od,kV,doc,pm,an,IZ,ct,Jq,rfl,lk,JG⟩:=F.ex;intro s us KX hl
 cases us with
 |nil=>simp at hl
 |cons a0 r1 =>
  cases r1 with
  |nil=>simp at hl
  |cons a1 r2 =>
   cases r2 with
   |nil=>exact binds_K KX rfl lT dT rfl rfl
   |cons a r=>simp at hl
theorem Ea (F:uv K "__init__" "Sum.__init__" pf f fd T)(lT:K.lookup T=some oT)(dT:oT.data=.seq #[.none] n):L2.bF K fd iN []:=by
 obtain⟨oc,od,kV,doc,pm,an,IZ,ct,Jq,rfl,lk,JG⟩:=F.ex;intro s us KX hl
 cases us with
 |nil=>simp at hl
 |cons a0 r1 =>
  cases r1 with
  |nil=>simp at hl
  |cons a1 r2 =>
   cases r2 with
   |nil=>simp at hl
   |cons a2 r3 =>
    cases r3 with
    |nil=>exact binds_K KX rfl lT dT rfl rfl
    |cons a r=>simp at hl
theorem Ce (F:uv K "__init__" "Sum.__init__" pf f fd T)(lT:K.lookup T=some oT)(dT:oT.data=.seq #[.none] n):L2.bF K fd iN [.none]:=by
 obtain⟨oc,od,kV,doc,pm,an,IZ,ct,Jq,rfl,lk,JG⟩:=F.ex;intro s us KX hl
 cases us with
 |nil=>simp at hl
 |cons a0 r1 =>
  cases r1 with
  |nil=>simp at hl
  |cons a1 r2 =>
   cases r2 with
   |nil=>exact binds_K KX rfl lT dT rfl rfl
   |cons a r=>simp at hl
end
section
variable {K:Frag}{x qual n:Str}{st:Stmt}{ps:DV}
theorem jx {mg:Fj}{h:Heap}(X:K.In h)(G:h.Ns mainGlobals mg)(s:aS K (gv K n)=dX x qual st)(b:dH K (gv K n) qual=true)(hb:∀(kV doc pm:Value)(an:uJ)(IZ ct:Value)(us:wW),us.length=ps.length->bindArgs (PySem.W.fnOf x qual (b8 st) (bA st) (ar st) .none kV doc pm an IZ ct) ⟨us,[]⟩=pure (ps.zip us)):∃fd,Fe K x qual st (ga K n) fd/\L2.bF K fd ps []/\mg n=some (.ref (ga K n))/\keepIn K (.ref (ga K n))=true:=by
 obtain⟨e,d⟩:=tP s b;obtain⟨fd,F⟩:=d.fn;exact⟨fd,F,F.binds hb,mg_of X G e,d.keep⟩
theorem xN {c:Str}(s:aS K (fv K c n)=dX x qual st)(b:dH K (fv K c n) qual=true)(i:isFn K (.ref (cM (fv K c n)))=true)(hb:∀(kV doc pm:Value)(an:uJ)(IZ ct:Value)(us:wW),us.length=ps.length->bindArgs (PySem.W.fnOf x qual (b8 st) (bA st) (ar st) .none kV doc pm an IZ ct) ⟨us,[]⟩=pure (ps.zip us)):∃fd,Fe K x qual st (cM (fv K c n)) fd/\L2.bF K fd ps []/\L2.Meth K (ga K c) n (cM (fv K c n))/\findIn K (.ref (ga K c)) n=some (some (.ref (cM (fv K c n))))/\isFn K (.ref (cM (fv K c n)))=true:=by
 obtain⟨e,d⟩:=tP s b;obtain⟨fd,F⟩:=d.fn;exact⟨fd,F,F.binds hb,⟨e,i,d.keep⟩,e,i⟩
end
noncomputable def yl (_:World)(h:Heap):Prop:=∃K:Frag,tE K=dueK/\K.In h
theorem Bn (w:World)(s:qm)(e:tE (Hd.yk sO s.heap)=dueK):yl w s.heap:=⟨_,e,Hd.pN _ _⟩
theorem uG (w:World)(h h':Heap)(y:yl w h)(k:∀(b:Addr)(o:Obj),h.get? b=some o->h'.get? b=some o):yl w h':=let⟨K,e,i⟩:=y;⟨K,e,λa o q=>k a o (i a o q)⟩
set_option maxHeartbeats 0 in
theorem ux {l:OpenLaw}{w:World}{K:Frag}{mg:Fj}{h:Heap}{fa:Addr}(o:tE K=dueK)(X:K.In h)(G:h.Ns mainGlobals mg)(hfa:mg "law"=some (.ref fa)):
 ∃fd:FuncData,(∀(s:qm)(v:Value),BindsTo s fd ⟨[v],[]⟩ [("_law_script",v)])/\∀base:Heap,K.In base->base.Ns mainGlobals mg->zk [il K] mg base->Ey l.prog w K mg base (bZ l.prog w) 14 fa fd ["_law_script"] (vW K (il K).2):=by
 obtain⟨o1,o2⟩:=CW (show(lZ K,_)=(true,_) from o);simp only[List.cons.injEq,and_true] at o2;obtain⟨s0,s1,s2,s3,s4,s5,s6,s7,s8,s9,PY,O9,Ls,K7,KO,V7,QE,s17,s18,s19,s20,s21,s22,s23,O7,Oc,QM,s27,Ue,Uh,s30,s31,s32,s33,s34,Qu,Mm,s37,s38,s39,s40,s41,s42,s43⟩:=o2;unfold lZ at o1;simp only[G8] at o1;obtain⟨g0,g1,g2,g3,g4,g5,g6,g7,g8⟩:=o1;unfold IC at g0;simp only[G8] at g0;obtain⟨h0,h1,h2,h3,h4,h5,h6,h7,h8,h9,h10,h11,h12,h13,h14,h15⟩:=g0;unfold Iu at g1;simp only[G8] at g1;obtain⟨h16,h17,h18,h19,h20,h21,h22,h23,h24,h25,h26,h27,h28,h29,h30,h31⟩:=g1;unfold IG at g2;simp only[G8] at g2;obtain⟨h32,h33,h34,h35,h36,h37,h38,h39,h40,h41,h42,h43,h44,h45,h46,h47⟩:=g2;unfold Iq at g3;simp only[G8] at g3;obtain⟨h48,h49,h50,h51,h52,h53,h54,h55,h56,h57,h58,h59,h60,h61,h62,h63⟩:=g3;unfold Iw at g4;simp only[G8] at g4;obtain⟨h64,h65,h66,h67,h68,h69,h70,h71,h72,h73,h74,h75,h76,h77,h78,h79⟩:=g4;unfold Ir at g5;simp only[G8] at g5;obtain⟨h80,h81,h82,h83,h84,h85,h86,h87,h88,h89,h90,h91,h92,h93,h94,h95⟩:=g5;unfold IL at g6;simp only[G8] at g6;obtain⟨h96,h97,h98,h99,h100,h101,h102,h103,h104,h105,h106,h107,h108,h109,h110,h111⟩:=g6;unfold IB at g7;simp only[G8] at g7;obtain⟨h112,h113,h114,h115,h116,h117,h118,h119,h120,h121,h122,h123,h124,h125,h126,h127⟩:=g7;unfold HP at g8;simp only[G8] at g8;obtain⟨h128,h129,h130,h131,h132,h133,h134,h135,h136,h137⟩:=g8;have m:=λ{n:Str}{v:Value}(e:nsIn K mainGlobals n=some (some v))=>mg_of X G e;have m0:=λ{n:Str}(e:nsIn K mainGlobals n=some none)=>mg_none_of X G e;have m_isinstance:=m0 (bu h0);have m_int:=m0 (bu h1);have Om:=m0 (bu h2);have J7:=m0 (bu h3);have M0:=m0 (bu h4);have m_len:=m0 (bu h5);have m_tuple:=m0 (bu h6);have JJ:=m0 (bu h7);have Lf:=m0 (bu h8);have m_list:=m0 (bu h9);have Jf:=m0 (bu h10);have Je:=m0 (bu h11);have m_max:=m0 (bu h12);have m_min:=m0 (bu h13);have JX:=m0 (bu h14);have m_range:=m0 (bu h15);have Rb:=m (cw h16);have Mq:=m (cw h17);have J8:=m (cw h18);have Kh:=m (cw h19);have K1:=m (cw h20);have Ki:=m (cw h21);have Jv:=m (cw h22);have Lx:=m (cw h23);have K2:=m (cw h24);have Ly:=m (cw h25);obtain⟨M1,Kj⟩:=j7 h26;have Jo:=m Kj;obtain⟨LV,JU⟩:=j7 h27;have JV:=m JU;obtain⟨Z3,WL,Mr,KQ,Ms⟩:=jx X G (ps:=["thing"]) s0 h28 λ_ _ _ _ _ _=>DK λ_=>rfl;obtain⟨Z4,WM,WN,Rc,WO⟩:=jx X G (ps:=["thing"]) s1 h29 λ_ _ _ _ _ _=>DK λ_=>rfl;obtain⟨Z5,WQ,WR,Rf,WS⟩:=jx X G (ps:=["thing"]) s2 h30 λ_ _ _ _ _ _=>DK λ_=>rfl;obtain⟨Z6,WT,WU,Rg,WV⟩:=jx X G (ps:=["field","thing"]) s3 h31 λ_ _ _ _ _ _=>tX λ_ _=>rfl;obtain⟨Z7,WW,WX,Rh,WY⟩:=jx X G (ps:=["field","terms"]) s4 h32 λ_ _ _ _ _ _=>tX λ_ _=>rfl;obtain⟨Z8,WZ,W0,Ri,ad7⟩:=jx X G (ps:=["term"]) s5 h33 λ_ _ _ _ _ _=>DK λ_=>rfl;obtain⟨Z9,W2,Rj,M3,Rl⟩:=jx X G (ps:=["field","terms"]) s6 h34 λ_ _ _ _ _ _=>tX λ_ _=>rfl;obtain⟨aaa,W3,W4,Rn,W5⟩:=jx X G (ps:=["one","other"]) s7 h35 λ_ _ _ _ _ _=>tX λ_ _=>rfl;obtain⟨aab,W6,Oo,Lz,Oq⟩:=jx X G (ps:=["field","terms"]) s8 h36 λ_ _ _ _ _ _=>tX λ_ _=>rfl;obtain⟨aac,W7,Ro,M4,Rp⟩:=jx X G (ps:=["one","other"]) s9 h37 λ_ _ _ _ _ _=>tX λ_ _=>rfl;obtain⟨W8,Rq,M5,LA,M6⟩:=jx X G (ps:=["top","bottom"]) PY h38 λ_ _ _ _ _ _=>tX λ_ _=>rfl;obtain⟨W9,Rr,Rt,Ot,Ru⟩:=jx X G (ps:=["number","prime"]) O9 h39 λ_ _ _ _ _ _=>tX λ_ _=>rfl;obtain⟨Xa,Rv,Rx,Ou,Ry⟩:=jx X G (ps:=["known","sums","product"]) Ls h40 λ_ _ _ _ _ _=>kc λ_ _ _=>rfl;obtain⟨Xb,Rz,RA,Ov,RB⟩:=jx X G (ps:=["_law_script","_law_k"]) K7 h41 λ_ _ _ _ _ _=>tX λ_ _=>rfl;obtain⟨Xc,RC,Kk,JL,Kl⟩:=jx X G (ps:=["_law_room_here","_law_many"]) KO h42 λ_ _ _ _ _ _=>tX λ_ _=>rfl;obtain⟨Xd,RD,M7,LB,M8⟩:=jx X G (ps:=["_law_top","_law_bottom"]) V7 h43 λ_ _ _ _ _ _=>tX λ_ _=>rfl;obtain⟨Xe,RE,M9,LC,Na⟩:=jx X G (ps:=["_law_prime_here","_law_top","_law_bottom"]) QE h44 λ_ _ _ _ _ _=>kc λ_ _ _=>rfl;obtain⟨Xf,RG,RH,Ow,RI⟩:=jx X G (ps:=["_law_prime_here","_law_one","_law_other"]) s17 h45 λ_ _ _ _ _ _=>kc λ_ _ _=>rfl;obtain⟨Xg,RJ,RK,Ox,RL⟩:=jx X G (ps:=["_law_prime_here","_law_one","_law_other"]) s18 h46 λ_ _ _ _ _ _=>kc λ_ _ _=>rfl;obtain⟨Xh,RM,RN,Oy,RO⟩:=jx X G (ps:=["_law_room_here"]) s19 h47 λ_ _ _ _ _ _=>DK λ_=>rfl;obtain⟨Xi,RP,RQ,Oz,RS⟩:=jx X G (ps:=["_law_room_here","_law_prime_here"]) s20 h48 λ_ _ _ _ _ _=>tX λ_ _=>rfl;obtain⟨Xj,RT,RU,OA,RV⟩:=jx X G (ps:=["_law_room_here","_law_many","_law_share"]) s21 h49 λ_ _ _ _ _ _=>kc λ_ _ _=>rfl;obtain⟨Xk,RW,RX,OB,RY⟩:=jx X G (ps:=["_law_room_here","_law_prime_here","_law_many","_law_most"]) s22 h50 λ_ _ _ _ _ _=>Hu λ_ _ _ _=>rfl;obtain⟨Xl,RZ,LD,KD,LF⟩:=jx X G (ps:=["_law_prime_here","_law_terms_here"]) s23 h51 λ_ _ _ _ _ _=>tX λ_ _=>rfl;obtain⟨Xm,R0,R6,OC,R7⟩:=jx X G (ps:=["_law_prime_here","_law_one","_law_other"]) O7 h52 λ_ _ _ _ _ _=>kc λ_ _ _=>rfl;obtain⟨Xn,R8,R9,OD,Sa⟩:=jx X G (ps:=["_law_prime_here","_law_terms_here","_law_rows"]) Oc h53 λ_ _ _ _ _ _=>kc λ_ _ _=>rfl;obtain⟨Xo,Sb,Sd,OE,Se⟩:=jx X G (ps:=["_law_call"]) QM h54 λ_ _ _ _ _ _=>DK λ_=>rfl;obtain⟨aad,Xp,Xq,ad8,Xr,Xs⟩:=xN (ps:=["self","other"]) s27 h55 h56 λ_ _ _ _ _ _=>tX λ_ _=>rfl;obtain⟨aae,Xu,Xv,Xw,ad9,aea⟩:=xN (ps:=["self"]) Ue h57 h58 λ_ _ _ _ _ _=>DK λ_=>rfl;obtain⟨aaf,Xx,Sf,Sg,aeb,aec⟩:=xN (ps:=["self","thing"]) Uh h59 h60 λ_ _ _ _ _ _=>tX λ_ _=>rfl;obtain⟨aag,Xy,Xz,XA,aed,aee⟩:=xN (ps:=["self"]) s30 h61 h62 λ_ _ _ _ _ _=>DK λ_=>rfl;obtain⟨aah,XB,XC,XD,aef,aeg⟩:=xN (ps:=["self","sums"]) s31 h63 h64 λ_ _ _ _ _ _=>tX λ_ _=>rfl;obtain⟨aai,XE,XF,XG,aeh,aei⟩:=xN (ps:=["self","other"]) s32 h65 h66 λ_ _ _ _ _ _=>tX λ_ _=>rfl;obtain⟨aaj,XH,XI,XJ,aej,aek⟩:=xN (ps:=["self","number"]) s33 h67 h68 λ_ _ _ _ _ _=>tX λ_ _=>rfl;obtain⟨aak,XM,Sh,ael,Si,Sj⟩:=xN (ps:=["self","other"]) s34 h69 h70 λ_ _ _ _ _ _=>tX λ_ _=>rfl;obtain⟨aal,XN,XO,XQ,aem,aen⟩:=xN (ps:=["self","one","other"]) Qu h71 h72 λ_ _ _ _ _ _=>kc λ_ _ _=>rfl;obtain⟨aam,XR,Sl,Sm,aeo,aep⟩:=xN (ps:=["self","one","other"]) Mm h73 h74 λ_ _ _ _ _ _=>kc λ_ _ _=>rfl;obtain⟨aan,XS,Sn,So,aeq,aer⟩:=xN (ps:=["self","top","bottom"]) s37 h75 h76 λ_ _ _ _ _ _=>kc λ_ _ _=>rfl;obtain⟨aao,XT,Sq,Sr,aes,aet⟩:=xN (ps:=["self","thing"]) s38 h77 h78 λ_ _ _ _ _ _=>tX λ_ _=>rfl;obtain⟨aap,XU,XW,XX,aeu,aev⟩:=xN (ps:=["self","top","bottom"]) s39 h79 h80 λ_ _ _ _ _ _=>kc λ_ _ _=>rfl;obtain⟨Ss,Sv⟩:=j3 s40 h81 h83;have XY:=h82;have aew:L2.Meth K _ "__init__" _:=⟨Ss,h82,Sv.keep⟩;obtain⟨aaq,OF⟩:=Sv.fn;obtain⟨aex,aey,aez,Nb,Nc,Sw⟩:=iU h84;obtain⟨Sy,Sz⟩:=j3 s41 h85 h87;have XZ:=h86;have aeA:L2.Meth K _ "__init__" _:=⟨Sy,h86,Sz.keep⟩;obtain⟨aar,SA⟩:=Sz.fn;obtain⟨aeB,aeC,aeD,SD,SE,SG⟩:=iU h88;obtain⟨X0,SH⟩:=j3 s42 h89 h91;have aeE:=h90;have X1:L2.Meth K _ "made" _:=⟨X0,h90,SH.keep⟩;obtain⟨aas,SI⟩:=SH.fn;obtain⟨aeF,aeG,aeH,SJ,SK,SM⟩:=iU h92;have SN:=oM Sw;subst SN;obtain⟨aeI,SO⟩:=jr SG;subst SO;obtain⟨aeJ,SQ⟩:=jr SM;subst SQ;have bSI:=Ea OF Nb Nc;have X2:=Ce OF Nb Nc;have bFI:=GY SA SD SE;have X3:=Fn SI SJ SK;have N:A1 mg:=⟨m_isinstance,m_int,Om⟩;have cF:xi K mg (ga K "Field"):=⟨⟨h93,h94,h95,c8 h96⟩,bu h97,Mq,(CM.mpr h98),c8 h99,c8 h100,de h101,de h102⟩;have c:Bu K mg (ga K "Sum"):=⟨⟨h103,h104,h105,c8 h106⟩,bu h107,bu h108,Rb⟩;have cQ:By K mg (ga K "Sum"):=⟨c,(CM.mpr h109),c8 h110,c8 h100,de h101,de h111⟩;have hP:=wa h112;have RF:Refs K mg _ _ _ _:=⟨J8,Kh,K1,Ki,J7,⟨h113,c8 h114,bu h115,c8 h116,de h117,de h118⟩,de h119,de h120,de h121,de h122,de h123⟩;obtain⟨e_A,d_A⟩:=vH s43 h130 h131;have X4:=hfa.symm.trans (m e_A)
 cases X4
 obtain⟨aeN,aeO,X5,SR,X6,X7,X8,aau,l_A,c_A,_⟩:=d_A;refine⟨fnOf "law" "law" (b8 eM) (bA eM) (ar eM) .none X5 SR X6 X7 (.ref (il K).1) X8,λs v=>.of_eq rfl,λbase _ _ BT=>?_⟩;have Mt:=ac9 (P:=l.prog) (w:=w) (base:=base) WL N;have SS:=ac1 (P:=l.prog) (w:=w) (base:=base) (mg:=mg) Rr;have SU:=acW (P:=l.prog) (w:=w) (base:=base) W7 M0;have Nf:=acX Rq ⟨_,_,SU,Ro,M4,Rp⟩;have SV:=Sig XS cF Jo ⟨_,_,Nf,M5,LA,M6⟩;have X9:=aib XN cF ⟨_,_,SV,Sn,So⟩;have SW:=zA XR cF ⟨_,_,SV,Sn,So⟩;have Yb:=ad4 XU cF Jo Jv h125 ⟨_,_,Nf,M5,LA,M6⟩ ⟨_,_,SS,Rt,Ot,Ru⟩;have Yc:=ac8 SI cF Jv h125 ⟨_,_,Yb,XW,XX⟩ ⟨_,_,Mt,Mr,KQ,Ms⟩;have Yd:=adN SA cF ⟨_,_,Mt,Mr,KQ,Ms⟩ Jo Ly hP K2 h124;have SX:=adh XT cF Jo N m_tuple m_len ⟨_,_,SU,Ro,M4,Rp⟩ ⟨_,_,Mt,Mr,KQ,Ms⟩;have SY:=acp (P:=l.prog) (w:=w) (base:=base) XM cF N;have Ye:=acA WM JV ⟨_,_,Mt,Mr,KQ,Ms⟩;have Yg:=acL WQ m_isinstance m_tuple JJ Lf ⟨_,_,Ye,WN,Rc,WO⟩;have Yh:=acZ WT cF m_isinstance m_tuple m_len ⟨_,_,Yg,WR,Rf,WS⟩ ⟨_,_,SX,Sq,Sr⟩;have Yi:=adb (P:=l.prog) (w:=w) (base:=base) WZ m_len;have Yj:=adg WW m_isinstance m_list Jf ⟨_,_,Yh,WU,Rg,WV⟩;have S0:=afi W2 cF Je ⟨_,_,X9,XO,XQ⟩ Yi W0 Ri;have OG:=akH OF c ⟨_,_,S0,Rj,M3,Rl⟩ ⟨_,_,Yj,WX,Rh,WY⟩;have Yk:L2.Mk K _ _:=⟨h134,Ss,XY,h135⟩;have MkF:L2.Mk K _ _:=⟨h136,Sy,XZ,h137⟩;have OH:=Aj W6 c Yk OG X2 ⟨_,_,S0,Rj,M3,Rl⟩;have Yl:=ED (P:=l.prog) (w:=w) (base:=base) (mg:=mg) W3 m_tuple Je JX;have Ym:=DI Xp cQ cF m_isinstance SY Sh Si Sj;have Yn:=xh (P:=l.prog) (w:=w) (base:=base) (CF:=ga K "Field") Xu c m_list;have S6:=AO Xx cQ cF m_isinstance SY Sh Si Sj;have Yo:=yS (P:=l.prog) (w:=w) (base:=base) Xy c m_max;have Yp:=w8 XE cQ cF Lx h126 ⟨_,_,BW S6,Sf,Sg⟩ ⟨_,_,Yl,W4,Rn,W5⟩ ⟨_,_,SW,Sl,Sm⟩ ⟨_,_,OH,Oo,Lz,Oq⟩;have Yq:=xP XH cQ cF Jv h125 ⟨_,_,SX,Sq,Sr⟩ ⟨_,_,SW,Sl,Sm⟩ ⟨_,_,OH,Oo,Lz,Oq⟩;have Ta:=Gd Rv cQ Jf ⟨_,_,Yp,XF,XG⟩;have Yr:=yT XB cQ cF Ki h127 m_isinstance m_list JJ m_len ⟨_,_,S6,Sf,Sg⟩ ⟨_,_,Yo,Xz,XA⟩ Yc X3 X1 Yk OG bSI ⟨_,_,Ta,Rx,Ou,Ry⟩ ⟨_,_,Yq,XI,XJ⟩ ⟨_,_,OH,Oo,Lz,Oq⟩;have Tb:=agC (P:=l.prog) (w:=w) (base:=base) Rz m_len;have Km:=agD (P:=l.prog) (w:=w) (base:=base) (mg:=mg) RC;have Ng:=ab0 (P:=l.prog) (w:=w) (base:=base) RD M0 m_int;have Nh:=ab8 RE ⟨_,_,Ng,M7,LB,M8⟩;have Tc:=ach RG ⟨_,_,Nh,M9,LC,Na⟩;have Td:=w6 RJ ⟨_,_,Nh,M9,LC,Na⟩;have Tf:=acr RM ⟨_,_,Km,Kk,JL,Kl⟩;have Tg:=acP RP ⟨_,_,Km,Kk,JL,Kl⟩ ⟨_,_,Ng,M7,LB,M8⟩;have Ti:=zi RT m_tuple m_range ⟨_,_,Km,Kk,JL,Kl⟩;have Tj:=wx RW m_range ⟨_,_,Km,Kk,JL,Kl⟩ ⟨_,_,Ti,RU,OA,RV⟩ ⟨_,_,Tg,RQ,Oz,RS⟩;have LG:=ahx RZ Je m_len ⟨_,_,Tc,RH,Ow,RI⟩;have Tn:=AL R0 m_tuple Je JX ⟨_,_,Td,RK,Ox,RL⟩ ⟨_,_,LG,LD,KD,LF⟩;have To:=xK R8 ⟨_,_,Tn,R6,OC,R7⟩ ⟨_,_,LG,LD,KD,LF⟩;have Tp:=BF (P:=l.prog) (w:=w) (base:=base) (kk:=12) Sb RF m_isinstance;have W:m9 l.prog w K mg base _ _ _ _ _ _ (il K).1 (il K).2 _ _:={c:=cQ,cF:=cF,kl:=de h129,M:=Yk,FI:=OG,bI:=bSI,MF:=MkF,FFI:=Yd,bFFI:=bFI,ne:=c8 h128,eq:=⟨_,_,Ym,Xq,Xr,Xs⟩,gather:=⟨_,_,LG,LD,KD,LF⟩,room:=⟨_,_,Tb,RA,Ov,RB⟩,prime:=⟨_,_,Tf,RN,Oy,RO⟩,terms:=⟨_,_,Tj,RX,OB,RY⟩,take:=⟨_,_,Km,Kk,JL,Kl⟩,lputin:=⟨_,_,To,R9,OD,Sa⟩,kind:=⟨_,_,Tp,Sd,OE,Se⟩,putin:=⟨_,_,Yr,XC,XD⟩,sterms:=⟨_,_,Yn,Xv,Xw⟩,hd:=BT.hd _ (B6.mpr rfl),bm:=BT.bm,m_max:=m_max,m_min:=m_min,m_len:=m_len,m_range:=m_range,m_int:=m_int,m_isinstance:=m_isinstance,m_list:=m_list,m_tuple:=m_tuple};exact DE l_A c_A W
theorem xR {K:Frag}(o:tE K=dueK):(tabIn K "law").isSome=true/\(K.lookup (il K).2).isNone=true:=by
 obtain⟨o1,_⟩:=CW (show(lZ K,_)=(true,_) from o);unfold lZ at o1;simp only[G8] at o1;obtain⟨_,_,_,_,_,_,_,_,g8⟩:=o1;unfold HP at g8;simp only[G8] at g8;obtain⟨_,_,_,_,h132,h133,_,_,_,_⟩:=g8;exact⟨h132,h133⟩
theorem walk {l:OpenLaw}{q:A9}{loose:DV}{XP:(Str->Option Value)->Heap->Prop}{d:DefRec}(hn:l.most=some 63)(PL:d.params.defaults=[])(hd:d.name="law")
 (hr:((PyProof.Rows.recsOf q).find? (λe=>e.name==("law":Str))).isSome=true):
 WalkO q loose XP yl l.row.toRowW d [] (λf vs=>PySem.call f vs):=by
 refine Hd.wO (n:=63) (k:=14) (x:="_law_script") (CX:=λw=>bZ l.prog w) (sp:=λK=>vW K (il K).2) (φ:=λK=>tE K=dueK) (tabs:=λK=>[il K]) hn (by decide) PL ⟨rfl,by decide,by decide,rfl⟩ (λw h y=>y) ?_ (λw K mg fa h o X G e=>ux o X G (by rw[<-hd];exact e)) ?_ ?_
 ·intro w s₀ mg mb h K o Gr KX;obtain⟨ht,hk⟩:=xR o
  have e:tabIn K "law"=some (il K):=by
   unfold il
   cases q:tabIn K "law" with
   |none=>rw[q] at ht;cases ht
   |some v=>rfl
  obtain⟨dl,Qk⟩:=Ik.mp hr;have tb:=tab_of Gr.T KX Qk e;refine⟨λr Oh=>?_,λr Oh=>?_⟩
  ·have z:r=il K:=by simpa using Oh
   subst z;exact tb
  ·have z:r=il K:=by simpa using Oh
   subst z
   cases q:K.lookup (il K).2 with
   |none=>rfl
   |some v=>rw[q] at hk;cases hk
 ·intro K H a ns hl hO hS;refine⟨a,ns,rfl,?_,hl,⟨#[],hO.2 _ (B6.mpr rfl),True.intro,λpos _=>.inl rfl⟩,λ_=>rfl⟩
  rcases hS with(hS|⟨o,hS⟩)|hS
  ·rcases hO.1 a with z|⟨o,xs,z⟩|⟨z,_⟩
   ·rw[z] at hS;cases hS
   ·rw[z] at hS;cases hS
   ·rw[z] at hS;cases hS
  ·exact .inl ⟨o,hS⟩
  ·exact .inr hS
 ·intro w H s e s' z;obtain⟨a,cls,a0,B,d,H',_,_,_,_,hE⟩:=z;exact hE.elim
end K08
open PySem PySem.W PyProof.Rows
set_option maxRecDepth 100000 in
set_option maxHeartbeats 0 in
theorem PySem.Challenge.cw_falsesums_k08_sums_put_in_holds : PySem.Challenge.rw_falsesums_k08_sums_put_in.Holds := by
 refine PySem.W.holds_law (by kernel_rfl) λaeS=>?_
 refine PySem.W.holds_open (r:=PySem.Challenge.rw_falsesums_k08_sums_put_in.row) (q:=K08.iJ) (loose:=["STEP","Field"]) (Xt:=λs=>xlAt K08.iJ K08.lv s&&recOk (PySem.Challenge.rw_falsesums_k08_sums_put_in.row.toRowW).records s) (XP:=XL K08.iJ K08.lv)
  (Yf:=λs=>K08.tE (Hd.yk K08.sO s.heap)) (Ya:=λ_=>K08.dueK) (YP:=K08.yl) (N:=8430) ?hl K08.Bn K08.uG (λs e=>xl_of s (CM.mp e).1) XL.keeps (by rfl) (by rfl) (by rfl) (λs e=>recFacts_of (CM.mp e).2) (by rfl) (by assumption) (by decide +kernel) ⟨rfl,rfl,rfl,rfl,rfl,by decide +kernel⟩ ?hw ?hc
 case hw=>w_witness2
 case hl=>exact Hd.aaD K08.ran1 K08.ran3 K08.ran4
 case hc=>exact K08.walk rfl rfl rfl (by kernel_rfl)
