import PyProof.Rows.All
import Wide.All
import OpenK.AllK
import Wide.FinOn
import Lean
import PyProof.EqAt
import PyProof.EqKinds
import PyProof.TupleCall
import PyProof.Rows.SortRuns
import PySem.Challenge.RW_trialfield_k74_whole_spun_plans
set_option Elab.async false
set_option linter.all false
set_option maxRecDepth 100000
set_option maxHeartbeats 4000000
def A0:=@PySem.wpAny_bind
def A1:=@PySem.Heap.get?_push_of_some
def A3:=@Option.bind_eq_some_iff
def A4:=@List.mem_singleton
def A5:=@PySem.wpAny_pure
def A6:=@PyProof.Rows.wpS_bind
def A7:=@PyProof.Rows.wpS_pure
def A8:=@if_neg
def A9:=@Nat.le_refl
def AA:=@List.length_map
def AB:=@if_pos
def AD:=@List.mem_append_right
def AE:=@List.getElem?_eq_getElem
def AG:=@PySem.Heap.get?_push_size
def AH:=@Option.map_eq_some_iff
def AI:=@Array.getElem?_toList
def AJ:=@List.mem_cons
def AK:=@List.mem_cons_of_mem
def AL:=@List.mem_map
def AO:=@PySem.Heap.lt_size
def AQ:=@List.getElem?_eq_some_iff
def AR:=@List.size_toArray
def AS:=@decide_eq_true
def AT:=@of_decide_eq_true
def AU:=@List.mem_cons_self
def AV:=@decide_eq_false
def AW:=@List.mem_append
def AZ:=@List.length_append
def B1:=@List.map_cons
def B2:=@List.getElem?_set_ne
def B4:=@List.length_cons
def B5:=@List.getElem?_map
def B6:=@List.take_of_length_le
def B8:=@List.not_mem_nil
def BA:=@PySem.W.mg_of
def BC:=@List.mem_of_getElem?
def BG:=@Nat.le_trans
def BH:=@List.map_congr_left
def BI:=@Nat.lt_of_lt_of_le
def BK:=@PySem.PassesOwn.never
def BL:=@List.mem_range
def BN:=@Option.some.inj
def BO:=@Array.length_toList
def BP:=@List.append_assoc
def BR:=@PySem.Heap.size_push
def BS:=@getElem?_pos
def BU:=@PySem.wpAny_callSpecial?_slot
def BV:=@List.replicate_succ
def BW:=@Nat.ne_of_lt
def BY:=@List.length_replicate
def BZ:=@PySem.W.mg_none_of
def C7:=@Int.le_trans
def C8:=@Nat.zero_add
def C9:=@List.mem_of_mem_take
def CF:=@Bool.false_ne_true
def CH:=@List.getElem?_set_self'
def CI:=@True.intro
def CK:=@Nat.zero_le
def CM:=@PyProof.Rows.callWith_type1
def CN:=@PySem.wpAny_newObj_type
def CO:=@PySem.wpAny_seqItems
def CW:=@List.lookup_cons
def CZ:=@PyProof.Rows.wpS_forRange
def D6:=@Bool.false_eq_true
def D7:=@Int.le_of_lt
def D8:=@List.map_append
def DB:=@List.eq_nil_or_concat
def DC:=@Int.toNat_natCast
def DD:=@PySem.wpAny_call_entry
def DK:=@List.length_take
def DL:=@Nat.mod_eq_of_lt
def DN:=@or_false
def DR:=@List.drop_eq_getElem_cons
def DU:=@PySem.wpAny_holding
def DY:=@PySem.F.slot_zip_next
def DZ:=@List.take_append_drop
def E4:=@List.append_nil
def E5:=@List.map_map
def E7:=@List.mem_append_left
def E8:=@List.pairwise_singleton
def E9:=@PySem.wpAny_tryCatch
def EA:=@List.length_eq_zero_iff
def EC:=@PySem.wpAny_mono
def ED:=@PySem.wpAny_Call_Name_kw
def EF:=@List.flatten_cons
def EG:=@List.drop_eq_nil_of_le
def EH:=@PySem.wpAny_letGo
def EI:=@Array.getElem?_eq_some_iff
def EJ:=@Array.perm_iff_toList_perm
def EK:=@PySem.F.plain_min_loop
def EL:=@PySem.F.plain_max_loop
def EM:=@PySem.mem_of_lookup
def EN:=@PyProof.Rows.wpS_mono
def EO:=@List.mem_filter
def ET:=@Classical.byContradiction
def EU:=@PySem.wpAny_truthy_bool
def EV:=@List.length_singleton
def EW:=@List.perm_append_comm
def EX:=@List.mem_iff_getElem?
def EZ:=@PySem.Heap.get?_update_ne
def F0:=@List.getElem_mem
def F6:=@PySem.F.slot_dict_valueiterator_next
def FD:=@if_false
def FE:=@PySem.Around.under_plainId
def FJ:=@Nat.le_succ
def FK:=@Int.le_refl
def FL:=@PyProof.Rows.wpS_modify
def FM:=@List.length_drop
def FN:=@Option.bind_some
def FP:=@List.getElem?_append_right
def FQ:=@Int.fmod_eq_emod_of_nonneg
def FU:=@PySem.plainId_quiet
def FV:=@List.getElem?_append_left
def FY:=@List.nodup_cons
def FZ:=@Int.natCast_mul
def G0:=@List.Pairwise.nil
def G4:=@Bool.eq_false_iff
def G5:=@PySem.F.slot_tuple_iterator_next
def G6:=@List.flatMap_cons
def G7:=@List.take_add_one
def G8:=@Nat.pow_le_pow_right
def GA:=@Nat.lt_irrefl
def GD:=@if_true
def GF:=@Array.toList_append
def GG:=@List.length_pos_iff
def GH:=@List.getElem?_replicate
def GI:=@Bool.and_eq_true
def GJ:=@List.all_eq_true
def GL:=@PySem.wpAny_updateSeq_pair
def GN:=@PySem.wpAny_attempt
def GU:=@Or.inr
def GV:=@Nat.pow_succ
def GX:=@PySem.Heap.SameBut.update
def GY:=@List.length_set
def GZ:=@List.sum_cons
def HD:=@List.getElem?_eq_none
def HF:=@List.concat_eq_append
def HK:=@PySem.wpAny_typeNameOfWhole_valiter
def HL:=@PySem.wpAny_typeNameOfWhole_keyiter
def HM:=@List.pairwise_map
def HN:=@List.length_range
def HS:=@PySem.Calls.spliced_cons
def HU:=@PySem.Obj.data_mapFields
def HV:=@PySem.wpAny_setField_rec
def HW:=@PySem.wpAny_passesOwn
def HX:=@PySem.codeAny_builtin
def HY:=@PySem.F.slot_dict_keyiterator_next
def HZ:=@List.pairwise_append
def I9:=@List.mem_iff_getElem
def IL:=@PySem.Paired.length
def IM:=@PySem.wpAny_onRaise
def IN:=@Nat.lt_succ_self
def IP:=@List.mem_reverse
def IQ:=@decide_eq_decide
def IR:=@List.filter_cons
def IS:=@Array.getElem?_eq_getElem
def IU:=@List.flatMap_append
def J0:=@Nat.add_assoc
def J7:=@PySem.F.slot_dict_values
def JC:=@List.find?_cons
def JD:=@PySem.W.kia_one
def JE:=@Option.map_some
def JF:=@Nat.min_eq_left
def JG:=@List.length_zip
def JH:=@List.mem_filterMap
def JI:=@PySem.wpAny_pyIter_zip
def JJ:=@List.getElem?_drop
def JK:=@List.getElem?_take
def JL:=@List.mem_replicate
def JO:=@PySem.F.args_zip_next_1
def JR:=@PyProof.Rows.wpS_get
def JZ:=@Nat.le_of_lt
def K0:=@congrArg
def K2:=@Nat.ne_of_gt
def K3:=@Nat.succ_mul
def K5:=@Nat.mul_comm
def K6:=@List.forIn_nil
def K7:=@decide_eq_true_eq
def K8:=@PySem.F.entry_zip_next
def K9:=@PySem.wpAny_typeNameOf_valiter
def KA:=@PySem.wpAny_typeNameOf_keyiter
def KB:=@Nat.add_zero
def KC:=@List.filter_congr
def KD:=@Int.fmod_nonneg_of_pos
def KL:=@PyProof.Rows.wpS_reverse
def KM:=@PyProof.Rows.mirror_perm
def KN:=@PySem.wpAny_updateSeq
def KO:=@PyProof.Rows.slot_tuple_getitem
def KP:=@PySem.wpAny_rule
def KQ:=@List.cons_lt_cons_iff
def L5:=@PyProof.Rows.callWith_builtin1
def L6:=@beq_iff_eq
def L7:=@Or.inl
def L8:=@List.zipIdx_cons
def L9:=@Nat.mod_lt
def LA:=@List.mem_flatMap
def LG:=@List.any_cons
def LH:=@PySem.Calls.spliced_nil
def LI:=@PySem.Calls.callWith_builtin
def LJ:=@PySem.wpAny_setField
def LK:=@Nat.mul_le_mul_right
def LL:=@List.exists_mem_of_length_pos
def LY:=@List.nil_append
def LZ:=@Array.Perm.refl
def MG:=@Int.toNat_of_nonneg
def MP:=@PySem.call_meets
def MQ:=@PySem.wpAny_isInstance
def MR:=@Nat.zero_mod
def MT:=@PySem.sizeLine_eq
def MU:=@decide_eq_true_iff
def NN:=@Ne.symm
def NO:=@List.reverse_cons
def NP:=@Option.some.injEq
def NQ:=@Nat.lt_succ_of_lt
def NR:=@Array.toList_push
def NS:=@List.nodup_append
def O0:=@PySem.F.args_tuple_add_2
def O1:=@List.Pairwise.imp_of_mem
def OO:=@PySem.F.entry_tuple_add
def OP:=@PySem.tupleKind_room_in1
def OQ:=@PySem.F.plainAttrs_dict
def OS:=@beq_self_eq_true
def OT:=@List.cons_append
def OU:=@PySem.wpAny_pyIter_tuple
def OV:=@Nat.min_eq_right
def Q0:=@PySem.F.slot_tuple_add
def Q1:=@List.map_nil
def Q2:=@PySem.wpAny_letOwnedTupleGo_zip
def Q3:=@PySem.F.entry_min_loop
def Q4:=@PySem.F.entry_max_loop
def QK:=@List.foldl_cons
def QL:=@PySem.wpAny_of_eq
def QM:=@List.zipIdx_nil
def QN:=@List.forIn_cons
def QO:=@PySem.wpAny_dictEntries
def QP:=@PyProof.Rows.get?_update_seq
def QZ:=@PySem.F.slot_dict_get
def R0:=@List.getElem?_zipWith
def R3:=@List.min?_eq_some_iff
def R4:=@List.max?_eq_some_iff
def RM:=@PySem.SeqAt.eqAt_reads
def RN:=@PySem.F.called_tuple
def RR:=@List.drop_drop
def RU:=@List.map_id
def TM:=@PyProof.Rows.wpS_lift
def TN:=@beq_eq_false_iff_ne
def TQ:=@PySem.call_meetsIn
def TR:=@List.length_zipWith
def U3:=@PySem.wpAny_execs_nil
def U4:=@PySem.F.slot_int_rmul
def U5:=@PySem.wpAny_dictEpoch
def V7:=@PySem.F.args_tuple_iterator_next_1
def V9:=@PySem.Heap.get?_update_self
def VA:=@PySem.Obj.isFreed_of_fields
def VB:=@PySem.wpAny_isOneOf_valiter
def WB:=@PySem.F.entry_tuple_iterator_next
def WC:=@List.take_sublist
def WD:=@Nat.add_comm
def WE:=@PySem.wpAny_field
def WF:=@PySem.isSubtype_stop
def WG:=@PySem.wpAny_fieldsOf
def WH:=@Nat.mul_zero
def YM:=@Nat.min_le_right
def YN:=@List.map_snd_zip
def YO:=@List.nodup_range
def aB:=@PyProof.Rows.pairsOf_size
def aC:=@List.eq_nil_of_length_eq_zero
def aD:=@List.take_append_of_le_length
def cZ:=@PySem.typeIs_int
def d6:=@List.Perm.of_eq
def d7:=@Nat.mod_add_div
def d8:=@List.range_succ
def gK:=@PySem.concat_meets
def gL:=@Bool.and_false
def gM:=@List.nodup_nil
def gN:=@PySem.wpAny_pyIter_list
def gO:=@PySem.Obj.cls_mapFields
def gP:=@PySem.F.args_object_init_3
def gQ:=@PySem.F.args_dict_valueiterator_next_1
def gR:=@List.take_zero
def gT:=@Array.size_map
def gU:=@PySem.F.args_dict_values_1
def gW:=@List.perm_ext_iff_of_nodup
def gX:=@Nat.mul_le_mul
def mZ:=@PySem.F.entry_dict_valueiterator_next
def n0:=@List.pairwise_iff_getElem
def n5:=@PySem.F.entry_dict_values
def n9:=@Nat.add_mul_mod_self_left
def nA:=@PySem.noFill_tuple_add
def nB:=@List.Perm.eq_of_pairwise
def nC:=@PySem.F.args_dict_keyiterator_next_1
def nD:=@List.cons.inj
def nE:=@PySem.F.type_dict_values
def nF:=@List.map_take
def sD:=@PySem.F.args_dict_get_3
def sE:=@PySem.F.plainAttrs_list
def sF:=@PySem.F.plain_tuple_new
def sG:=@List.pairwise_mergeSort
def sH:=@PySem.F.entry_dict_keyiterator_next
def sI:=@Classical.axiomOfChoice
def u8:=@List.getElem?_set_self
def u9:=@PySem.W.cellsFrom_some
def uA:=@Nat.lt_trans
def uB:=@PySem.F.entry_dict_get
def uC:=@PySem.pushCells_keeps
def uD:=@Nat.le_of_eq
def uE:=@not_or
def uF:=@Int.zero_add
def uG:=@PySem.F.typeCall_zip_2
def uH:=@Array.getElem?_eq_none
def uI:=@PySem.wpAny_loadPart'
def uJ:=@decide_false
def uK:=@List.length_pos_of_mem
def uL:=@List.zipWith_cons_cons
def uM:=@List.drop_of_length_le
def zB:=@List.getElem?_reverse
def zC:=@PySem.F.newCall_zip_2
def zD:=@PySem.F.entry_zip_new
def zE:=@List.Pairwise.sublist
def zF:=@List.Perm.append_left
def zG:=@List.pairwise_reverse
def zH:=@List.countP_mono_left
def zI:=@List.min?_eq_none_iff
def zJ:=@List.max?_eq_none_iff
def zK:=@PySem.Calls.Name_function_global
def zL:=@Bool.and_eq_true_iff
def zM:=@PySem.wpAny_newTuple
def zN:=@List.mem_of_mem_drop
def zO:=@Array.toList_reverse
def zP:=@decide_true
def zQ:=@Nat.pow_one
def A54:=@PySem.wpAny_binaryOp_repeat_ref
def A55:=@List.mergeSort_perm
def A56:=@PyProof.Rows.lt_int
def A57:=@PySem.evalArgs_none
def A58:=@PySem.wpAny_standAt
def A59:=@PySem.seq_tuple_add
def A60:=@Option.isSome_some
def A61:=@PySem.wpAny_comprehension_free
def A62:=@PySem.wpAny_handled
def A63:=@PySem.F.called_zip
def A64:=@List.map_inj_right
def A65:=@List.pairwise_cons
def A66:=@of_decide_eq_false
def A67:=@Array.size_extract
def A68:=@PySem.wpAny_newList
def A69:=@Int.fmod_lt_of_pos
def A70:=@List.zip_cons_cons
def A86:=@PySem.list_append
def A87:=@Option.isSome_map
def A88:=@List.ext_getElem?
def A89:=@List.reverse_perm
def A90:=@bne_self_eq_false
def A91:=@PySem.wpAny_Call_method0_late
def A92:=@List.mem_range'_1
def A94:=@PySem.codeAny_mono
def A95:=@PySem.Heap.get?_update_other
def A96:=@PySem.wpAny_nextOf_list_item
def A97:=@List.take_length
def A98:=@PySem.wpAny_isTrue_Compare1
def A99:=@List.of_mem_zip
def AA0:=@PySem.builtinLookup_eq_fast
def AA1:=@PySem.wpAny_isOneOf_keyiter
def AA2:=@Nat.not_lt_zero
def AA3:=@PySem.Around.frames_deeper
def AA4:=@PySem.Calls.evalArgs_plain
def AA5:=@PySem.F.args_list_append_2
def AA6:=@PySem.wpAny_pyIter_revIter
def AA7:=@PySem.wpAny_throw
def AA8:=@List.drop_zero
namespace L2
open PySem PySem.Spec PyProof.Rows
abbrev Key:=Sum Int Str
def UW:Key->Value->Bool
 | .inl k,v=>Value.isInt k v
 | .inr x,v=>Value.isStrOf x v
def A72(w:World):Key->Int
 | .inl k=>hashInt k
 | .inr x=>hashStr w x
theorem FF:∀ {k:Key} {v:Value},UW k v=true->(∃i t,k=Sum.inl i/\v=Value.int i t)\/(∃x t,k=Sum.inr x/\v=Value.str x t)
 | .inl i,v,h=>by
  obtain ⟨t,e⟩:=Value.isInt_shape (k:=i) (v:=v) h
  exact .inl ⟨i,t,rfl,e⟩
 | .inr x,v,h=>by
  obtain ⟨t,e⟩:=Value.isStrOf_shape (x:=x) (v:=v) h;exact .inr ⟨x,t,rfl,e⟩
theorem gB(i:Int)(t:Tok):UW (.inl i) (.int i t)=true:=by simp [UW,Value.isInt]
theorem eZ(x:Str)(t:Tok):UW (.inr x) (.str x t)=true:=by simp [UW,Value.isStrOf]
theorem vM(a b:Int):decide ((Sum.inl a:Key)=Sum.inl b)=(a==b):=by
 by_cases e:a=b
 . subst e;simp
 . have h:¬(Sum.inl a:Key)=Sum.inl b:=fun q=>e (Sum.inl.inj q);rw [AV h];exact (TN.mpr e).symm
theorem yD(a b:Str):decide ((Sum.inr a:Key)=Sum.inr b)=decide (a=b):=by
 by_cases e:a=b
 . subst e;simp
 . have h:¬(Sum.inr a:Key)=Sum.inr b:=fun q=>e (Sum.inr.inj q);rw [AV h,AV e]
theorem vY(a:Int)(b:Str):decide ((Sum.inl a:Key)=Sum.inr b)=false:=AV (fun q=>nomatch q)
theorem xW(a:Str)(b:Int):decide ((Sum.inr a:Key)=Sum.inl b)=false:=AV (fun q=>nomatch q)
def EQ(prog:Program)(w:World):PySem.KeyKind prog w Key where
 is:=UW
 hash:=A72 w
 inj:=fun v a b ha hb=>by
  rcases FF ha with ⟨i,t,rfl,rfl⟩ | ⟨x,t,rfl,rfl⟩
  . rcases FF hb with ⟨j,u,rfl,e⟩ | ⟨y,u,rfl,e⟩
    . injection e with e1 _;rw [e1]
    . exact nomatch e
  . rcases FF hb with ⟨j,u,rfl,e⟩ | ⟨y,u,rfl,e⟩
    . exact nomatch e
    . injection e with e1 _;rw [e1]
 byValue:=fun k v h=>by
  rcases FF h with ⟨i,t,rfl,rfl⟩ | ⟨x,t,rfl,rfl⟩ <;> rfl
 pyHash:=fun hv h=>by
  rcases FF hv with ⟨i,t,rfl,rfl⟩ | ⟨x,t,rfl,rfl⟩
  . exact wpAny_pyHash_int h
  . exact wpAny_pyHash_str h
 eqBool:=fun hu hv h=>by
  rcases FF hu with ⟨i,t,rfl,rfl⟩ | ⟨x,t,rfl,rfl⟩
  . rcases FF hv with ⟨j,u,rfl,rfl⟩ | ⟨y,u,rfl,rfl⟩
    . rw [vM] at h;exact wpAny_eqBool_int h
    . rw [vY] at h;exact SeqAt.EqAt.int_str i t y u _ _ _ _ h
  . rcases FF hv with ⟨j,u,rfl,rfl⟩ | ⟨y,u,rfl,rfl⟩
    . rw [xW] at h;exact SeqAt.EqAt.str_int x t j u _ _ _ _ h
    . rw [yD] at h;exact wpAny_eqBool_str h
 «strs» := fun k x t v h => by
  rcases FF h with ⟨i,u,rfl,e⟩ | ⟨y,u,rfl,e⟩
  . exact nomatch e
  . injection e with e1 _
    subst e1
    cases v <;> rfl
theorem XX(prog:Program)(w:World)(i:Int)(t:Tok):(EQ prog w).is (.inl i) (.int i t)=true:=gB i t
theorem WN(prog:Program)(w:World)(x:Str)(t:Tok):(EQ prog w).is (.inr x) (.str x t)=true:=eZ x t
end L2
namespace L2
open PySem PySem.Spec PyProof.Rows
inductive V where
 | non | bl (b:Bool) | int (i:Int) | str (x:Str) | byt (b:Array UInt8) | flt (b:UInt64) | ref (a:Addr) | ty (n:String)
 deriving DecidableEq
def RelV:V->Value->Prop
 | .non,u=>u=Value.none
 | .bl b,u=>u=Value.bool b
 | .int i,u=>∃t,u=Value.int i t
 | .str x,u=>∃t,u=Value.str x t
 | .byt b,u=>∃t,u=Value.bytes b t
 | .flt b,u=>∃t,u=Value.float b t
 | .ref a,u=>u=Value.ref a
 | .ty n,u=>u=Value.type n
abbrev Vals:List V->List Value->Prop:=Paired RelV
theorem Vals.length{xs:List V}{us:List Value}(r:Vals xs us):xs.length=us.length:=IL r
theorem Vals.get:∀ {xs:List V} {us:List Value} {i:Nat} {x:V},Vals xs us->xs[i]? = some x->∃u,us[i]? = some u/\RelV x u
 | _,_,_,_, .nil,e=>by simp at e
 | _,_,0,_, .cons r _,e=>by simp at e;subst e;exact ⟨_,rfl,r⟩
 | _,_,i+1,x, .cons _ t,e=>by
  obtain ⟨u,h1,h2⟩:=Vals.get (i:=i) (x:=x) t (by simpa using e);exact ⟨u,by simpa using h1,h2⟩
theorem Vals.append:∀ {xs ys:List V} {us ws:List Value},Vals xs us->Vals ys ws->Vals (xs++ys) (us++ws)
 | _,_,_,_, .nil,s=>s
 | _,_,_,_, .cons r t,s=> .cons r (Vals.append t s)
theorem Vals.take:∀ {xs:List V} {us:List Value} (n:Nat),Vals xs us->Vals (xs.take n) (us.take n)
 | _,_,0,_=> .nil
 | _,_,_+1, .nil=> .nil
 | _,_,n+1, .cons r t=> .cons r (Vals.take n t)
theorem Vals.drop:∀ {xs:List V} {us:List Value} (n:Nat),Vals xs us->Vals (xs.drop n) (us.drop n)
 | _,_,0,r=>r
 | _,_,_+1, .nil=> .nil
 | _,_,n+1, .cons _ t=>Vals.drop n t
def RelO:Option V->Option Value->Prop
 | some v,some u=>RelV v u
 | none,none=>True
 | _,_=>False
def KV{κ:Type}:List (κ×V)->List (κ×Value)->Prop:=Paired fun (p:κ×V) (q:κ×Value)=>p.1=q.1/\RelV p.2 q.2
def kV:Key->V
 | .inl i=> .int i
 | .inr x=> .str x
inductive HO where
 | lst (xs:List V)
 | tup (xs:List V)
 | dK (kvs:List (Key×V)) | dT (kvs:List (List Key×V))
 | set (S:Int->Bool) (n:Nat)
 | ins (C dx:Addr) (fs:List (Str×V))
 | own (x:Addr)
 | xd (fs:List (Str×V))
 | met (f x:Addr)
 | rng (lo hi:Int)
 | frz (o:Obj) (u:HO)
 | tbl (ps:Array Value)
 | ext (φ:Heap->Prop)
abbrev Hp:=Addr->Option HO
def upd(H:Hp)(a:Addr)(o:HO):Hp:=fun b=>if b=a then some o else H b
theorem BT{H:Hp}{a:Addr}{o:HO}:upd H a o a=some o:=by unfold upd;rw [if_pos rfl]
theorem BE{H:Hp}{a b:Addr}{o:HO}(h:b≠a):upd H a o b=H b:=by unfold upd;rw [if_neg h]
theorem sK{H:Hp}{a b:Addr}{o u:HO}(h:H a=some o)(h':H b=some u)(d:o≠u):a≠b:=by
 intro e;subst e;rw [h] at h';exact d (BN h')
theorem BJ{H:Hp}{a b:Addr}{o:HO}(h:H a=some o)(h':H b=none):a≠b:=by
 intro e;subst e;rw [h] at h';cases h'
section
variable (P:Program) (w:World)
def ObjOk(H:Hp)(h:Heap)(a:Addr):HO->Prop
 | .lst xs=>xs.length<=sizeLine/\∃(its:List Value) (n:Nat),Vals xs its/\h.get? a=some {cls:= .type "list",data:= .seq its.toArray n}
 | .tup xs=>xs.length<=sizeLine/\∃its:List Value,Vals xs its/\IsTup h a its.toArray
 | .dK kvs=>kvs.length<=sizeLine/\(a==sysModules)=false/\∃vs,KV kvs vs/\h.DictOf (EQ P w) a vs
 | .dT kvs => kvs.length <= sizeLine /\ (a == sysModules) = false /\ ∃ xs : List (List Key × Addr × Value),
  Paired (fun (p:List Key×V) (q:List Key×Addr×Value)=>p.1=q.1/\H q.2.1=some (.tup (p.1.map kV))/\RelV p.2 q.2.2) kvs xs /\
  ∃o es ep,h.get? a=some o/\o.ExactDict/\o.data = .dict es ep/\es.toList=xs.map (entryOfKey (tupleKind (EQ P w)))/\(xs.map (·.1)).Nodup
 | .set S n=>h.SetOf (intKind P w) a S n
 | .ins C dx fs => H dx = some (.own a) /\ fs.length <= 1000 /\ dx ≠ a /\ h.get? a = some (PySem.W.instObj C dx) /\
  ∃mA,h.Ns1 dx mA/\(∀f,RelO (fs.lookup f) (mA f))/\PySem.Within mA (fs.map (·.1))
 | .own _=>∃o,h.get? a=some o
 | .xd fs=>∃mA,h.Ns1 a mA/\∀f,RelO (fs.lookup f) (mA f)
 | .rng lo hi=>∃t u v,h.get? a=some {cls:= .type "range",data:= .fields #[.int lo t, .int hi u, .int 1 v]}
 | .frz o u=>h.get? a=some o/\ObjOk H h a u
 | .tbl _=>∃qs:Array Value,h.get? a=some {cls:= .none,data:= .fields qs}/\TriplesOk qs.toList/\∀pos v,codeAmong pos qs.toList=some v->∃c oc vs x,v=Value.ref c/\H c=some (.frz oc (.own 0))/\oc.data = .fields vs/\vs[1]? = some x
 | .met f x=>h.get? a=some (PySem.W.methodObj (.ref f) (.ref x))
 | .ext φ=>φ h/\(∃o,h.get? a=some o)/\∀h1 h2:Heap,φ h1->(∀o,h1.get? a=some o->h2.get? a=some o)->φ h2
def HOk(H:Hp)(h:Heap):Prop:=∀a o,H a=some o->ObjOk P w H h a o
end
section
variable {P:Program} {w:World} {H H':Hp} {h h':Heap} {a:Addr} {o:HO}
theorem ObjOk.lt(x:ObjOk P w H h a o):a<h.objs.size:=by
 cases o with
 | lst xs=>obtain ⟨_,_,_,_,e⟩:=x;exact AO e
 | tup xs=>obtain ⟨_,_,_,p⟩:=x;exact p.lt
 | dK kvs=>obtain ⟨_,_,_,_,o,_,_,e,_⟩:=x;exact AO e
 | dT kvs=>obtain ⟨_,_,_,_,o,_,_,e,_⟩:=x;exact AO e
 | set S n=>obtain ⟨o,_,_,_,e,_⟩:=x;exact AO e
 | ins C dx fs=>obtain ⟨_,_,_,e,_⟩:=x;exact AO e
 | own y=>obtain ⟨_,e⟩:=x;exact AO e
 | xd fs=>obtain ⟨_,⟨_,_,_,e,_⟩,_⟩:=x;exact AO e
 | rng lo hi=>obtain ⟨_,_,_,e⟩:=x;exact AO e
 | frz ob u=>obtain ⟨e,_⟩:=x;exact AO e
 | tbl ps=>obtain ⟨_,e,_⟩:=x;exact AO e
 | met f y=>exact AO (show h.get? a=some _ from x)
 | ext φ=>obtain ⟨_,⟨_,e⟩,_⟩:=x;exact AO e
theorem Paired.mapP{α β:Type}{F G:α->β->Prop}:∀ {l₁:List α} {l₂:List β},Paired F l₁ l₂->(∀a b,F a b->G a b)->Paired G l₁ l₂
 | _,_, .nil,_=> .nil
 | _,_, .cons r t,f=> .cons (f _ _ r) (Paired.mapP t f)
theorem ObjOk.stay (x : ObjOk P w H h a o) (k : ∀ b u, (b = a \/ H b = some (.own a)) -> h.get? b = some u -> h'.get? b = some u)
 (ho:∀b,H b=some (.own a)->H' b=some (.own a)) (ht:∀b xs,H b=some (.tup xs)->H' b=some (.tup xs)) (hf:∀b o u,H b=some (.frz o u)->H' b=some (.frz o u):=by exact fun _ _ _ q=>q):ObjOk P w H' h' a o:=by
 induction o with
 | lst xs=>obtain ⟨z,its,n,r,e⟩:=x;exact ⟨z,its,n,r,k _ _ (.inl rfl) e⟩
 | tup xs=>obtain ⟨z,its,r,ob,e,c⟩:=x;exact ⟨z,its,r,ob,k _ _ (.inl rfl) e,c⟩
 | dK kvs=>obtain ⟨z,y,vs,r,ob,es,ep,e,c⟩:=x;exact ⟨z,y,vs,r,ob,es,ep,k _ _ (.inl rfl) e,c⟩
 | dT kvs=>
  obtain ⟨z,y,xs,r,ob,es,ep,e,c⟩:=x
  exact ⟨z,y,xs,Paired.mapP r fun p q z=>⟨z.1,ht _ _ z.2.1,z.2.2⟩,ob,es,ep,k _ _ (.inl rfl) e,c⟩
 | set S n=>obtain ⟨ob,es,ep,t,e,c⟩:=x;exact ⟨ob,es,ep,t,k _ _ (.inl rfl) e,c⟩
 | ins C dx fs=>
  obtain ⟨d,z,ne,e,mA,⟨od,es,ep,e2,c⟩,r⟩:=x
  exact ⟨ho _ d,z,ne,k _ _ (.inl rfl) e,mA,⟨od,es,ep,k _ _ (.inr d) e2,c⟩,r⟩
 | own y=>obtain ⟨ob,e⟩:=x;exact ⟨ob,k _ _ (.inl rfl) e⟩
 | xd fs=>obtain ⟨mA,⟨od,es,ep,e,c⟩,r⟩:=x;exact ⟨mA,⟨od,es,ep,k _ _ (.inl rfl) e,c⟩,r⟩
 | rng lo hi=>obtain ⟨t,u,v,e⟩:=x;exact ⟨t,u,v,k _ _ (.inl rfl) e⟩
 | frz ob u ih=>obtain ⟨e,q⟩:=x;exact ⟨k _ _ (.inl rfl) e,ih q⟩
 | tbl ps=>obtain ⟨qs,e,t,c⟩:=x;exact ⟨qs,k _ _ (.inl rfl) e,t,fun pos v q=>let ⟨c',oc,vs,y,e1,e2,e3⟩:=c pos v q;⟨c',oc,vs,y,e1,hf _ _ _ e2,e3⟩⟩
 | met f y=>
  have e:h.get? a=some (PySem.W.methodObj (.ref f) (.ref y)):=x;show h'.get? a=some (PySem.W.methodObj (.ref f) (.ref y))
  exact k a _ (.inl rfl) e
 | ext φ=>obtain ⟨p,⟨o,e⟩,st⟩:=x;exact ⟨st _ _ p fun o q=>k _ _ (.inl rfl) q,⟨o,k _ _ (.inl rfl) e⟩,st⟩
theorem HOk.lt(x:HOk P w H h)(e:H a=some o):a<h.objs.size:=(x a o e).lt
theorem HOk.fresh(x:HOk P w H h)(e:h.objs.size<=a):H a=none:=by
 cases q:H a with
 | none=>rfl
 | some u=>exact absurd (BI (x.lt q) e) (GA _)
theorem HOk.kept(x:HOk P w H h)(k:∀b u,h.get? b=some u->h'.get? b=some u):HOk P w H h':=fun a o e=>
 (x a o e).stay (fun b u _ q=>k b u q) (fun _ q=>q) fun _ _ q=>q
theorem HOk.laid(x:HOk P w H h)(k:∀b u,h.get? b=some u->h'.get? b=some u)(hp:h.objs.size<=a)(new:ObjOk P w (upd H a o) h' a o):HOk P w (upd H a o) h':=fun b u e=>by
 have hn:=x.fresh hp
 by_cases hb:b=a
 . subst hb;rw [BT] at e;cases e;exact new
 . rw [BE hb] at e
   exact (x b u e).stay (fun c v _ q=>k c v q) (fun c q=>by rw [BE (BJ q hn)];exact q) (fun c xs q=>by rw [BE (BJ q hn)];exact q) fun c ob xs q=>by rw [BE (BJ q hn)];exact q
end
def Rd(H:Hp)(a:Addr)(u:HO):Prop:=H a=some u\/∃o,H a=some (.frz o u)
theorem Rd.ok{P:Program}{w:World}{H:Hp}{h:Heap}{a:Addr}{u:HO}(r:Rd H a u)(x:HOk P w H h):ObjOk P w H h a u:=by
 rcases r with r | ⟨o,r⟩
 . exact x a u r
 . obtain ⟨_,q⟩:=x a _ r;exact q
def Mut:Option HO->Prop
 | some (.lst _)=>True
 | some (.dK _)=>True
 | some (.dT _)=>True
 | some (.set _ _)=>True
 | some (.ins _ _ _)=>True
 | some (.ext _)=>True
 | _=>False
section
variable {P:Program} {w:World} {H:Hp} {h h':Heap} {x e:Addr} {o':HO}
theorem HOk.write (ok : HOk P w H h) (mu : Mut (H x)) (he : e = x \/ H e = some (.own x)) (k : ∀ b u, b ≠ e -> h.get? b = some u -> h'.get? b = some u) (heo : ∃ u, h'.get? e = some u)
 (new:ObjOk P w (upd H x o') h' x o'):HOk P w (upd H x o') h':=fun b u q=>by
 have nown:∀c y,H c=some (.own y)->c≠x:=fun c y r z=>by subst z;rw [r] at mu;exact mu
 have ntup:∀c xs,H c=some (.tup xs)->c≠x:=fun c xs r z=>by subst z;rw [r] at mu;exact mu
 by_cases hb:b=x
 . subst hb;rw [BT] at q;cases q;exact new
 . rw [BE hb] at q
   by_cases hbe:b=e
   . have q' : H b = some (.own x) := by
      rcases he with z | z
      . exact absurd (hbe.trans z) hb
      . rw [hbe];exact z
     rw [q] at q';cases q'
     obtain ⟨v,hv⟩:=heo;exact ⟨v,by rw [hbe];exact hv⟩
   . refine (ok b u q).stay (fun c v hc r=>k c v ?_ r) (fun c r=>by rw [BE (nown c b r)];exact r) (fun c xs r=>by rw [BE (ntup c xs r)];exact r) fun c ob xs r=>by rw [BE (fun z=>by subst z;rw [r] at mu;exact mu)];exact r
     rcases hc with rfl | hc
     . exact hbe
     . rintro rfl;rcases he with z | z
       . exact nown c b hc z
       . rw [hc] at z;cases z;exact hb rfl
end
structure Un (fs ex:List Addr) (H H':Hp) (h h':Heap):Prop where
 keep:∀b o,h.get? b=some o->H b=none->b ∉ fs->b ∉ ex->h'.get? b=some o
 slot:∀b o,h.get? b=some o->H b=none->b ∈ fs->b ∉ ex->∃sl,h'.get? b=some {o with slots:=sl}
 free:∀b o,h.get? b=some o->H b=none->b ∉ ex->H' b=none
 there:∀b o,h.get? b=some o->b ∉ ex->∃o',h'.get? b=some o'
 tups:∀b xs,H b=some (.tup xs)->H' b=some (.tup xs)
 frzs:∀b o u,H b=some (.frz o u)->H' b=some (.frz o u)
 tbls:∀b ps,H b=some (.tbl ps)->∃more,H' b=some (.tbl (ps++more))
section
variable {fs fs' ex ex':List Addr} {H H1 H2:Hp} {h h1 h2 h':Heap} {a x e:Addr} {o:HO}
theorem Un.any(u:Un fs ex H H1 h h1){b:Addr}{ob:Obj}(q:h.get? b=some ob)(n:H b=none)(hx:b ∉ ex):∃sl,h1.get? b=some {ob with slots:=sl}:=by
 by_cases hb:b ∈ fs
 . exact u.slot b ob q n hb hx
 . exact ⟨ob.slots,u.keep b ob q n hb hx⟩
theorem Un.kept(k:∀b u,h.get? b=some u->h'.get? b=some u):Un fs ex H H h h' :=
 ⟨fun b ob q _ _ _=>k b ob q,fun b ob q _ _ _=>⟨ob.slots,k b ob q⟩,fun _ _ _ n _=>n,fun b ob q _=>⟨ob,k b ob q⟩,fun _ _ q=>q,fun _ _ _ q=>q,fun _ ps q=>⟨#[],by rw [q];simp⟩⟩
theorem Un.refl:Un fs ex H H h h:=Un.kept fun _ _ q=>q
theorem Un.laid(k:∀b u,h.get? b=some u->h'.get? b=some u)(hp:h.objs.size<=a)(hn:H a=none):Un fs ex H (upd H a o) h h' where
 keep:=fun b u q _ _ _=>k b u q
 slot:=fun b u q _ _ _=>⟨u.slots,k b u q⟩
 free:=fun b u q n _=>by rw [BE (BW (BI (AO q) hp))];exact n
 there:=fun b u q _=>⟨u,k b u q⟩
 tups:=fun b xs q=>by rw [BE (BJ q hn)];exact q
 frzs:=fun b u xs q=>by rw [BE (BJ q hn)];exact q
 tbls:=fun b ps q=>⟨#[],by rw [BE (BJ q hn),q];simp⟩
theorem Un.write(mu:Mut (H x))(he:e=x\/H e=some (.own x))(k:∀b u,b≠e->h.get? b=some u->h'.get? b=some u)(heo:∃u,h'.get? e=some u):Un fs ex H (upd H x o) h h':=by
 have hx:∀b,H b=none->b≠x:=fun b n z=>by subst z;rw [n] at mu;exact mu
 have hb:∀b,H b=none->b≠e:=fun b n z=>by
  subst z;rcases he with r | r
  . exact hx b n r
  . rw [n] at r;cases r
 have hm:∀b u,H b=some u->¬Mut (some u)->b≠x:=fun b u q nm z=>by subst z;rw [q] at mu;exact nm mu
 refine ⟨fun b u q n _ _=>k b u (hb b n) q,fun b u q n _ _=>⟨u.slots,k b u (hb b n) q⟩,fun b u q n _=>by rw [BE (hx b n)];exact n,fun b u q _=> ?_,
  fun b xs q=>by rw [BE (hm b _ q fun z=>z)];exact q,fun b u xs q=>by rw [BE (hm b _ q fun z=>z)];exact q,fun b ps q=>⟨#[],by rw [BE (hm b _ q fun z=>z),q];simp⟩⟩
 by_cases hbe:b=e
 . subst hbe;exact heo
 . exact ⟨u,k b u hbe q⟩
end
def trk(h:Heap)(H:Hp):List Addr:=(List.range h.objs.size).filter fun a=>(H a).isSome
def SH(h:Heap)(H:Hp):Heap:=PySem.W.hideAll h (trk h H)
theorem fL(h:Heap)(H:Hp):(SH h H).objs.size=h.objs.size:=PySem.W.hideAll_size _ _
theorem m7{h:Heap}{H:Hp}{b:Addr}{o:Obj}(e:h.get? b=some o)(n:H b=none):(SH h H).get? b=some o:=
 PySem.W.hideAll_get _ e fun hm=>by
  have q:(H b).isSome=true:=(EO.mp hm).2;rw [n] at q;simp at q
theorem oQ{h:Heap}{H:Hp}{b:Addr}{o:Obj}(e:(SH h H).get? b=some o):h.get? b=some o/\H b=none:=by
 have e':h.get? b=some o:=PySem.W.of_hideAll (trk h H) e;refine ⟨e',?_⟩
 cases q:H b with
 | none=>rfl
 | some x=>
  have hm:b ∈ trk h H:=EO.mpr ⟨BL.mpr (AO e'),by simp [q]⟩;have z:(SH h H).get? b=none:=PySem.W.hideAll_none (trk h H) hm;rw [z] at e;cases e
def rR(g h:Heap)(L:Addr):List (Addr×Obj):=(List.range h.objs.size).filterMap fun a=>if a=L\/(g.get? a).isSome=true then none else (h.get? a).map fun o=>(a,o)
def GW(g h:Heap)(L d:Addr):List (Addr×Obj):=(rR g h L).filter fun p=>decide (p.1≠d)
end L2
namespace L2
open PySem PySem.Spec PyProof.Rows
def IW(K:PySem.W.Frag):List Addr:=match K.getLast? with
 | some (_,⟨.type "tables",_, .fields vs,_⟩)=>vs.toList.filterMap fun v=>match v with
  | .ref a=>some a
  | _=>none
 | _=> []
structure Mod (K:PySem.W.Frag) (mg:Str->Option Value) (base:Heap):Prop where
 kin:K.In base
 glob:base.Ns mainGlobals mg
 blt:∃mb,base.Ns builtinsNs mb/\∀x:Str,x ≠ "__name__" -> mb x=bootBuiltins x
 nolimit:base.NoLimit
structure Cx where
 prog:Program
 w:World
 K:PySem.W.Frag
 mg:Str->Option Value
 base:Heap
 A:Around
 N:List Str
 s₀:Shared
 H₀:Hp
 env:Env
 outer:List Env
 stack:List Env
 ex:List Addr
 fn:Str->Bool
 calm:Bool
 pn:List (Addr×Obj)
 xe:Value->Shared->Prop
def frs(l:List Env):List Addr:=l.filterMap (·.frame)
abbrev Cx.fs (X:Cx):List Addr:=frs X.outer
def Vis(sc:Scope)(x:Str):Prop:=sc.names.lookup x=some .local\/sc.names.lookup x=some .cell\/sc.names.lookup x=some .free
def Loc(sc:Scope)(x:Str):Prop:=sc.names.lookup x=some .local\/sc.names.lookup x=some .cell
def A75(env:Env)(h:Heap)(m:Str->Option Value)(x:Str)(u:Value):Prop:=
 (env.kindOf x=some .local/\m x=some u)\/((env.kindOf x=some .cell\/env.kindOf x=some .free)/\∃c,env.cells.lookup x=some c/\h.IsCell c (some u))
structure Cx.Ok (X:Cx):Prop where
 mod:Mod X.K X.mg X.base
 kind:X.env.scope.kind = .function
 glob:X.env.globals=mainGlobals
 blt:X.env.builtins=builtinsNs
 above:X.s₀.heap.objs.size<=X.env.locals
 inj:∀x y c,X.env.cells.lookup x=some c->X.env.cells.lookup y=some c->x=y
 has:∀x,(X.env.kindOf x=some .cell\/X.env.kindOf x=some .free)->∃c,X.env.cells.lookup x=some c
 cab:∀x c,X.fn x=true->X.env.cells.lookup x=some c->X.s₀.heap.objs.size<=c
 hd:X.calm=true->X.A.handled=none
 frames:X.A.frames=some X.stack
 stk:X.stack=X.outer\/(X.stack=X.env::X.outer/\X.env.frame=some X.env.locals)
 exf:∀b ∈ X.ex,b≠X.env.locals/\∀x c,X.env.cells.lookup x=some c->c≠b
 bs:∀b o,X.base.get? b=some o->X.s₀.heap.get? b=some o/\X.H₀ b=none
 bsz:X.base.objs.size<=X.s₀.heap.objs.size
 noex:∀b o,X.base.get? b=some o->b ∉ X.ex
 exfs:∀b ∈ X.ex,b ∉ X.fs
 funs:X.s₀.heap.FunFrames X.base X.outer
 frf:∀b ∈ X.fs,X.H₀ b=none
 tb:∀p ∈ IW X.K,∃ps,X.H₀ p=some (.tbl ps)
structure Inv (X:Cx) (pins:List (Addr×Obj)) (σ:List (Option V)) (H:Hp) (s:Shared):Prop where
 ok:X.Ok
 os:s.os=X.s₀.os
 bare:AllBare s.gens
 base:Un X.fs X.ex X.H₀ H X.s₀.heap s.heap
 loc:∃m,s.heap.Ns X.env.locals m/\∀(i:Nat) (x:Str) (v:V),X.N[i]? = some x->σ[i]? = some (some v)->Vis X.env.scope x->∃u,RelV v u/\A75 X.env s.heap m x u
 cell:∀x c,X.env.cells.lookup x=some c->∃v,s.heap.IsCell c v
 free:H X.env.locals=none
 freeC:∀x c,X.env.cells.lookup x=some c->H c=none
 pin:∀p ∈ X.pn++pins,s.heap.get? p.1=some p.2/\H p.1=none/\p.1≠X.env.locals/\p.1 ∉ X.fs/\∀v,p.2.data ≠ .cell v
 hok:HOk X.prog X.w H s.heap
 len:σ.length=X.N.length
section
variable {X:Cx} {pins:List (Addr×Obj)} {σ:List (Option V)} {H H':Hp} {s:Shared} {h':Heap}
theorem Cx.Ok.nofr(ok:X.Ok){b:Addr}{o:Obj}(e:X.base.get? b=some o):b ∉ X.fs:=fun hb=>by
 have:=(ok.funs.mem hb).1;rw [e] at this;cases this
theorem Inv.bs(I:Inv X pins σ H s):∀b o,X.base.get? b=some o->s.heap.get? b=some o/\H b=none:=fun b o e=>
 ⟨I.base.keep b o (I.ok.bs b o e).1 (I.ok.bs b o e).2 (I.ok.nofr e) (I.ok.noex b o e),I.base.free b o (I.ok.bs b o e).1 (I.ok.bs b o e).2 (I.ok.noex b o e)⟩
theorem Inv.bk(I:Inv X pins σ H s):∀b o,X.base.get? b=some o->s.heap.get? b=some o:=fun b o e=>(I.bs b o e).1
theorem Inv.tb(I:Inv X pins σ H s):∀p ∈ IW X.K,∃ps,H p=some (.tbl ps):=fun p hp=>by
 obtain ⟨ps,e⟩:=I.ok.tb p hp;obtain ⟨m,e2⟩:=I.base.tbls p ps e;exact ⟨_,e2⟩
theorem Inv.mod(I:Inv X pins σ H s):Mod X.K X.mg X.base:=I.ok.mod
theorem Inv.kIn(I:Inv X pins σ H s):X.K.In s.heap:=I.ok.mod.kin.keeps I.bk
theorem Inv.nolimit(I:Inv X pins σ H s):s.heap.NoLimit:=I.ok.mod.nolimit.keeps I.bk
theorem Inv.fr(I:Inv X pins σ H s):∃m,Fr X.base X.env.locals s.heap m:=
 let ⟨m,hn,_⟩:=I.loc
 ⟨m,hn,I.bk,BG I.ok.bsz I.ok.above⟩
theorem Inv.lt(I:Inv X pins σ H s):X.env.locals<s.heap.objs.size:=let ⟨_,hn,_⟩:=I.loc;hn.lt
theorem Inv.sz(I:Inv X pins σ H s):X.s₀.heap.objs.size<=s.heap.objs.size:=BG I.ok.above (JZ I.lt)
theorem Inv.nofs(I:Inv X pins σ H s){a:Addr}(h:s.heap.objs.size<=a):a ∉ X.fs:=fun hb=>by
 obtain ⟨_,o,ho,_⟩:=I.ok.funs.mem hb;exact absurd (BI (AO ho) (BG I.sz h)) (GA _)
theorem Inv.cne(I:Inv X pins σ H s):∀x c,X.env.cells.lookup x=some c->c≠X.env.locals:=fun x c e z=>by
 obtain ⟨v,o,ho,hd⟩:=I.cell x c e;obtain ⟨m,⟨o',es,ep,ho',hd',_⟩,_⟩:=I.loc;rw [z,ho'] at ho;cases ho;rw [hd'] at hd;cases hd
theorem Inv.funs(I:Inv X pins σ H s):s.heap.FunFrames X.base X.outer:=by
 have all:∀(l:List Env),(∀b ∈ frs l,b ∈ X.fs)->X.s₀.heap.FunFrames X.base l->s.heap.FunFrames X.base l:=by
  intro l
  induction l with
  | nil=>intro _ _;trivial
  | cons env r ih=>
   intro hs hl;obtain ⟨hk,⟨L,o,hf,hn,ho,hd⟩,hr⟩:=hl;have hL:L ∈ X.fs:=hs L (by unfold frs;rw [List.filterMap_cons,hf];exact List.mem_cons_self);obtain ⟨sl,e⟩:=I.base.slot L o ho (I.ok.frf L hL) hL fun z=>I.ok.exfs L z hL;exact ⟨hk,⟨L,_,hf,hn,e,hd⟩,ih (fun b hb=>hs b (by unfold frs;rw [List.filterMap_cons,hf];exact List.mem_cons_of_mem _ hb)) hr⟩
 exact all X.outer (fun _ hb=>hb) I.ok.funs
theorem Inv.stack(I:Inv X pins σ H s):s.heap.FunFrames X.base X.stack:=by
 rcases I.ok.stk with e | ⟨e,hf⟩
 . rw [e];exact I.funs
 . rw [e];obtain ⟨m,hn,_⟩:=I.loc;refine .cons (by rw [I.ok.kind];decide) hf hn ?_ I.funs;exact Heap.get?_none_of_le (BG I.ok.bsz I.ok.above)
theorem Inv.stkSub(I:Inv X pins σ H s):∀b ∈ frs X.stack,b ∈ X.env.locals::X.fs:=fun b hb=>by
 rcases I.ok.stk with e | ⟨e,hf⟩
 . rw [e] at hb;exact AK _ hb
 . rw [e] at hb
   unfold frs at hb
   rw [List.filterMap_cons,hf] at hb
   exact hb
theorem Inv.stkFree(I:Inv X pins σ H s):∀b ∈ frs X.stack,H b=none:=fun b hb=>by
 rcases AJ.mp (I.stkSub b hb) with e | hb
 . rw [e];exact I.free
 . obtain ⟨_,o,ho,_⟩:=I.ok.funs.mem hb;exact I.base.free b o ho (I.ok.frf b hb) fun z=>I.ok.exfs b z hb
theorem Inv.step {g' : Array GenState} {t' : Nat} {d' : Drawn} {ch : List Addr} (I : Inv X pins σ H s)
 (hch:∀b ∈ ch,(b ∈ X.ex\/X.s₀.heap.objs.size<=b)/\b≠X.env.locals/\(∀x c,X.env.cells.lookup x=some c->c≠b)/\∀p ∈ X.pn++pins,p.1≠b)
 (keep:∀b o,b≠X.env.locals->b ∉ X.fs->b ∉ ch->s.heap.get? b=some o->H b=none->h'.get? b=some o)
 (slot:∀b o,b≠X.env.locals->b ∈ X.fs->b ∉ ch->s.heap.get? b=some o->H b=none->∃sl,h'.get? b=some {o with slots:=sl}) (free:∀b o,b ∉ ch->s.heap.get? b=some o->H b=none->H' b=none)
 (there:∀b o,b ∉ ch->s.heap.get? b=some o->∃o',h'.get? b=some o')
 (tups:∀b xs,H b=some (.tup xs)->H' b=some (.tup xs)) (frzs:∀b o u,H b=some (.frz o u)->H' b=some (.frz o u)) (tbls:∀b ps,H b=some (.tbl ps)->∃more,H' b=some (.tbl (ps++more)))
 (ns:∀m,s.heap.Ns X.env.locals m->h'.Ns X.env.locals m) (hok:HOk X.prog X.w H' h') (hg:AllBare g') :
 Inv X pins σ H' {s with heap:=h',gens:=g',drawn:=d',toks:=t' }:=by
 have neL:∀b o,X.s₀.heap.get? b=some o->b≠X.env.locals:=fun b o e=>BW (BI (AO e) I.ok.above)
 have neC:∀b o,X.s₀.heap.get? b=some o->b ∉ X.ex->b ∉ ch:=fun b o e hx hb=>by
  rcases (hch b hb).1 with z | z
  . exact hx z
  . exact absurd (BI (AO e) z) (GA _)
 have cellK:∀x c,X.env.cells.lookup x=some c->∀v,s.heap.IsCell c v->h'.IsCell c v:=fun x c e v ⟨o,ho,hd⟩=>by
  have nch:c ∉ ch:=fun z=>(hch c z).2.2.1 x c e rfl
  by_cases hc:c ∈ X.fs
  . obtain ⟨sl,q⟩:=slot c o (I.cne x c e) hc nch ho (I.freeC x c e);exact ⟨_,q,hd⟩
  . exact ⟨o,keep c o (I.cne x c e) hc nch ho (I.freeC x c e),hd⟩
 refine ⟨I.ok,I.os,hg,⟨fun b o e n hb hx=> ?_,fun b o e n hb hx=> ?_,fun b o e n hx=> ?_,fun b o e hx=> ?_,fun b xs e=>tups b xs (I.base.tups b xs e),fun b o xs e=>frzs b o xs (I.base.frzs b o xs e),fun b ps e=> ?_⟩,?_,fun x c e=> ?_,?_,fun x c e=> ?_,fun p hp=> ?_,hok,I.len⟩
 . exact keep b o (neL b o e) hb (neC b o e hx) (I.base.keep b o e n hb hx) (I.base.free b o e n hx)
 . obtain ⟨sl,e1⟩:=I.base.slot b o e n hb hx;obtain ⟨sl',e2⟩:=slot b _ (neL b o e) hb (neC b o e hx) e1 (I.base.free b o e n hx);exact ⟨sl',e2⟩
 . obtain ⟨o',e1⟩:=I.base.there b o e hx;exact free b o' (neC b o e hx) e1 (I.base.free b o e n hx)
 . obtain ⟨o',e1⟩:=I.base.there b o e hx;exact there b o' (neC b o e hx) e1
 . obtain ⟨m1,e1⟩:=I.base.tbls b ps e;obtain ⟨m2,e2⟩:=tbls b _ e1;exact ⟨m1++m2,by rw [e2,Array.append_assoc]⟩
 . obtain ⟨m,hn,hl⟩:=I.loc;refine ⟨m,ns m hn,fun i x v e1 e2 e3=> ?_⟩;obtain ⟨u,r,l⟩:=hl i x v e1 e2 e3;refine ⟨u,r,?_⟩;rcases l with l | ⟨k,c,e,z⟩
   . exact .inl l
   . exact .inr ⟨k,c,e,cellK x c e _ z⟩
 . obtain ⟨v,z⟩:=I.cell x c e;exact ⟨v,cellK x c e v z⟩
 . obtain ⟨m,⟨o,_,_,ho,_⟩,_⟩:=I.loc;exact free _ o (fun z=>(hch _ z).2.1 rfl) ho I.free
 . obtain ⟨v,o,ho,hd⟩:=I.cell x c e;exact free c o (fun z=>(hch c z).2.2.1 x c e rfl) ho (I.freeC x c e)
 . obtain ⟨e,n,ne,nf,d⟩:=I.pin p hp;have nch:p.1 ∉ ch:=fun z=>(hch p.1 z).2.2.2 p hp rfl;exact ⟨keep p.1 p.2 ne nf nch e n,free p.1 p.2 nch e n,ne,nf,d⟩
theorem Inv.un{t':Nat}(I:Inv X pins σ H s)(u:Un X.fs [] H H' s.heap h')(hok:HOk X.prog X.w H' h'):Inv X pins σ H' {s with heap:=h',toks:=t' }:=by
 obtain ⟨m,⟨o,es,ep,ho,r⟩,_⟩:=id I.loc;obtain ⟨sl,hL⟩:=u.any ho I.free (by simp)
 exact I.step (g':=s.gens) (d':=s.drawn) (ch:= []) (fun _ z=>nomatch z) (fun b o _ hb _ e n=>u.keep b o e n hb (by simp)) (fun b o _ hb _ e n=>u.slot b o e n hb (by simp)) (fun b o _ e n=>u.free b o e n (by simp)) (fun b o _ e=>u.there b o e (by simp)) u.tups u.frzs u.tbls (fun m' hm=>by
  obtain ⟨o',es',ep',ho',r'⟩:=hm;rw [ho] at ho';cases ho'
  exact ⟨_,es',ep',hL,r'⟩) hok I.bare
theorem Inv.call {g' : Array GenState} {t' : Nat} {d' : Drawn} {ch : List Addr} (I : Inv X pins σ H s) (u : Un (frs X.stack) ch H H' s.heap h') (hok : HOk X.prog X.w H' h') (hg : AllBare g')
 (hch:∀b ∈ ch,(b ∈ X.ex\/X.s₀.heap.objs.size<=b)/\b≠X.env.locals/\(∀x c,X.env.cells.lookup x=some c->c≠b)/\∀p ∈ X.pn++pins,p.1≠b) :
 Inv X pins σ H' {s with heap:=h',gens:=g',drawn:=d',toks:=t' }:=by
 obtain ⟨m,⟨o,es,ep,ho,r⟩,_⟩:=id I.loc;obtain ⟨sl,hL⟩:=u.any ho I.free fun z=>(hch _ z).2.1 rfl
 exact I.step (ch:=ch) hch (fun b o hL hb hc e n=>u.keep b o e n (fun z=>(AJ.mp (I.stkSub b z)).elim hL hb) hc) (fun b o _ _ hc e n=>u.any e n hc) (fun b o hc e n=>u.free b o e n hc) (fun b o hc e=>u.there b o e hc) u.tups u.frzs u.tbls (fun m' hm=>by
  obtain ⟨o',es',ep',ho',r'⟩:=hm;rw [ho] at ho';cases ho'
  exact ⟨_,es',ep',hL,r'⟩) hok hg
theorem Inv.turned {t' : Nat} {it : Addr} (I : Inv X pins σ H s) (k : ∀ b o, b ≠ it -> s.heap.get? b = some o -> h'.get? b = some o) (hn : H it = none) (hL : it ≠ X.env.locals)
 (h1:it ∈ X.ex\/X.s₀.heap.objs.size<=it) (h2:∀x c,X.env.cells.lookup x=some c->c≠it) (h3:∀p ∈ X.pn++pins,p.1≠it):Inv X pins σ H {s with heap:=h',toks:=t' }:=by
 have nit:∀b u,H b=some u->b≠it:=fun b u e z=>by rw [z,hn] at e;cases e
 refine I.step (g':=s.gens) (d':=s.drawn) (ch:= [it]) (fun b hb=> ?_) (fun b o _ _ hc e _=>k b o (fun z=>hc (by simp [z])) e) (fun b o _ _ hc e _=>⟨o.slots,k b o (fun z=>hc (by simp [z])) e⟩) (fun _ _ _ _ n=>n)
  (fun b o hc e=>⟨o,k b o (fun z=>hc (by simp [z])) e⟩) (fun _ _ e=>e) (fun _ _ _ e=>e) (fun b ps e=>⟨#[],by rw [e];simp⟩) (fun m hm=> ?_) (fun b u e=> ?_) I.bare
 . have e:b=it:=by simpa using hb
   subst e;exact ⟨h1,hL,h2,h3⟩
 . obtain ⟨o,es,ep,ho,r⟩:=hm;exact ⟨o,es,ep,k _ o (NN hL) ho,r⟩
 . refine (I.hok b u e).stay (fun c v hc q=>k c v ?_ q) (fun _ q=>q) fun _ _ q=>q;rcases hc with z | z
   . rw [z];exact nit b u e
   . exact nit c _ z
theorem Inv.tok(I:Inv X pins σ H s)(t:Nat):Inv X pins σ H {s with toks:=t}:=I.un (h':=s.heap) (t':=t) Un.refl I.hok
theorem Inv.kept{t':Nat}(I:Inv X pins σ H s)(k:∀b u,s.heap.get? b=some u->h'.get? b=some u):Inv X pins σ H {s with heap:=h',toks:=t' }:=I.un (Un.kept k) (I.hok.kept k)
theorem Inv.laid {a : Addr} {o : HO} {t' : Nat} (I : Inv X pins σ H s) (k : ∀ b u, s.heap.get? b = some u -> h'.get? b = some u) (hp : s.heap.objs.size <= a) (new : ObjOk X.prog X.w (upd H a o) h' a o) :
 Inv X pins σ (upd H a o) {s with heap:=h',toks:=t' }:=I.un (Un.laid k hp (I.hok.fresh hp)) (I.hok.laid k hp new)
theorem Inv.write {x e : Addr} {o : HO} {t' : Nat} (I : Inv X pins σ H s) (mu : Mut (H x)) (he : e = x \/ H e = some (.own x)) (k : ∀ b u, b ≠ e -> s.heap.get? b = some u -> h'.get? b = some u) (heo : ∃ u, h'.get? e = some u)
 (new:ObjOk X.prog X.w (upd H x o) h' x o):Inv X pins σ (upd H x o) {s with heap:=h',toks:=t' }:=I.un (Un.write mu he k heo) (I.hok.write mu he k heo new)
theorem Inv.weak{σ':List (Option V)}(I:Inv X pins σ H s)(hl:σ'.length=σ.length)(w:∀(i:Nat) v,σ'[i]? = some (some v)->σ[i]? = some (some v)):Inv X pins σ' H s:=
 ⟨I.ok,I.os,I.bare,I.base,let ⟨m,hn,hl'⟩:=I.loc;⟨m,hn,fun i x v e1 e2 e3=>hl' i x v e1 (w i v e2) e3⟩,I.cell,I.free,I.freeC,I.pin,I.hok,hl.trans I.len⟩
theorem Inv.pins_of{pins':List (Addr×Obj)}(I:Inv X pins σ H s)(h:∀p ∈ pins',s.heap.get? p.1=some p.2/\H p.1=none/\p.1≠X.env.locals/\p.1 ∉ X.fs/\∀v,p.2.data ≠ .cell v):Inv X pins' σ H s:=
 ⟨I.ok,I.os,I.bare,I.base,I.loc,I.cell,I.free,I.freeC,fun p hp=>(AW.mp hp).elim (fun z=>I.pin p (E7 _ z)) (h p),I.hok,I.len⟩
theorem YF{N:List Str}(hN:N.Nodup){i j:Nat}{x:Str}(a:N[i]? = some x)(b:N[j]? = some x):i=j:=by
 obtain ⟨h1,e1⟩:=AQ.mp a;obtain ⟨h2,e2⟩:=AQ.mp b;exact (List.getElem_inj hN).mp (e1.trans e2.symm)
theorem UH {M : Model} {A : Around} {E : Value -> Shared -> Prop} {i : Nat} {x : Str} {v : V} {u : Value} {Q : Unit -> Shared -> Prop} (I : Inv X pins σ H s) (hN : X.N.Nodup) (hi : X.N[i]? = some x) (hx : Loc X.env.scope x) (r : RelV v u)
 (h:∀s',Inv X pins (σ.set i (some v)) H s'->(∃a,Heap.SameBut a s.heap s'.heap/\(a=X.env.locals\/X.env.cells.lookup x=some a))->Q () s') (hf:X.fn x=true\/X.env.scope.names.lookup x=some .local:=by first | exact .inl rfl | exact .inr rfl | assumption):wpAny M A (storeName X.env x u) Q E s:=by
 obtain ⟨m,hn,hl⟩:=id I.loc;have hcls:(X.env.scope.kind == .class || (X.env.scope.kind == .module && X.env.locals != X.env.globals))=false:=by rw [I.ok.kind];rfl
 have hiσ:i<σ.length:=by rw [I.len];exact (AQ.mp hi).1
 have cne:=I.cne
 have tracked:∀ {a:Addr} {h':Heap},(∃o,s.heap.get? a=some o/\H a=none)->Heap.SameBut a s.heap h'->HOk X.prog X.w H h':=fun {a h'} ha hs b ob e=>by
  obtain ⟨_,_,hfree⟩:=ha;refine (I.hok b ob e).stay (fun c w' hc q=>(hs.2 c ?_).trans q) (fun _ q=>q) fun _ _ q=>q;rintro rfl;rcases hc with rfl | hc
  . rw [hfree] at e;cases e
  . rw [hfree] at hc;cases hc
 rcases hx with hk | hk
 . refine wpAny_storeName_local hk hn (fun h' hn' hs=> ?_) hcls;obtain ⟨oL,_,_,hoL,_⟩:=id hn;refine h _ ⟨I.ok,I.os,I.bare,⟨fun b o e n hb hx=> ?_,fun b o e n hb hx=> ?_,I.base.free,fun b o e hx=> ?_,I.base.tups,I.base.frzs,I.base.tbls⟩,⟨_,hn',fun j y v' e1 e2 e3=> ?_⟩,fun y c e=> ?_,I.free,I.freeC,fun p hp=> ?_,tracked ⟨oL,hoL,I.free⟩ hs,by simpa using I.len⟩ ⟨_,hs, .inl rfl⟩
   . exact (hs.2 b (BW (BI (AO e) I.ok.above))).trans (I.base.keep b o e n hb hx)
   . obtain ⟨sl,e1⟩:=I.base.slot b o e n hb hx;exact ⟨sl,(hs.2 b (BW (BI (AO e) I.ok.above))).trans e1⟩
   . obtain ⟨o',e1⟩:=I.base.there b o e hx;exact ⟨o',(hs.2 b (BW (BI (AO e) I.ok.above))).trans e1⟩
   . by_cases hj:j=i
     . subst hj;rw [hi] at e1;cases e1
       rw [u8 hiσ] at e2
       cases e2
       exact ⟨u,r, .inl ⟨hk,by simp⟩⟩
     . rw [B2 (NN hj)] at e2
       obtain ⟨u',r',q⟩:=hl j y v' e1 e2 e3;refine ⟨u',r',?_⟩;rcases q with ⟨k,e⟩ | ⟨k,c,e,z⟩
       . refine .inl ⟨k,?_⟩;have:y≠x:=fun e=>hj (YF hN e1 (e ▸ hi));simp [this,e]
       . exact .inr ⟨k,c,e,z.sameBut hs (cne y c e)⟩
   . obtain ⟨w',z⟩:=I.cell y c e;exact ⟨w',z.sameBut hs (cne y c e)⟩
   . obtain ⟨e,n,ne,nf,d⟩:=I.pin p hp;exact ⟨(hs.2 p.1 ne).trans e,n,ne,nf,d⟩
 . have hfn : X.fn x = true := by
    rcases hf with z | z
    . exact z
    . rw [z] at hk;cases hk
   obtain ⟨c,hc⟩:=I.ok.has x (.inl hk);obtain ⟨w',z⟩:=I.cell x c hc;refine wpAny_storeName_cell I.ok.kind hk hc z (fun h' hc' hs=> ?_);obtain ⟨oc,hoc,hocd⟩:=id z;refine h {s with heap:=h' } ⟨I.ok,I.os,I.bare,⟨fun b o e n hb hx=> ?_,fun b o e n hb hx=> ?_,I.base.free,fun b o e hx=> ?_,I.base.tups,I.base.frzs,I.base.tbls⟩,⟨m,hn.sameBut hs (NN (cne x c hc)),fun j y v' e1 e2 e3=> ?_⟩,fun y c' e=> ?_,I.free,I.freeC,fun p hp=> ?_,tracked ⟨oc,hoc,I.freeC x c hc⟩ hs,by simpa using I.len⟩ ⟨c,hs, .inr hc⟩
   . exact (hs.2 b (BW (BI (AO e) (I.ok.cab x c hfn hc)))).trans (I.base.keep b o e n hb hx)
   . obtain ⟨sl,e1⟩:=I.base.slot b o e n hb hx;exact ⟨sl,(hs.2 b (BW (BI (AO e) (I.ok.cab x c hfn hc)))).trans e1⟩
   . obtain ⟨o',e1⟩:=I.base.there b o e hx;exact ⟨o',(hs.2 b (BW (BI (AO e) (I.ok.cab x c hfn hc)))).trans e1⟩
   . by_cases hj:j=i
     . subst hj;rw [hi] at e1;cases e1
       rw [u8 hiσ] at e2
       cases e2
       exact ⟨u,r, .inr ⟨.inl hk,c,hc,hc'⟩⟩
     . rw [B2 (NN hj)] at e2
       obtain ⟨u',r',q⟩:=hl j y v' e1 e2 e3;refine ⟨u',r',?_⟩;rcases q with q | ⟨k,c',e,z'⟩
       . exact .inl q
       . refine .inr ⟨k,c',e,z'.sameBut hs ?_⟩;rintro rfl;exact hj (YF hN e1 (I.ok.inj _ _ _ e hc ▸ hi))
   . by_cases hcc:c'=c
     . subst hcc;exact ⟨_,hc'⟩
     . obtain ⟨w2,z2⟩:=I.cell y c' e;exact ⟨w2,z2.sameBut hs hcc⟩
   . obtain ⟨e,n,ne,nf,d⟩:=I.pin p hp;refine ⟨(hs.2 p.1 ?_).trans e,n,ne,nf,d⟩;intro q;rw [q,hoc] at e
     have q':oc=p.2:=BN e;exact d w' (by rw [<-q'];exact hocd)
theorem Y9 {M : Model} {A : Around} {E : Value -> Shared -> Prop} {i : Nat} {x : Str} {v : V} {u : Value} {Q : Unit -> Shared -> Prop} (I : Inv X pins σ H s) (hN : X.N.Nodup) (hi : X.N[i]? = some x) (hx : Loc X.env.scope x) (r : RelV v u)
 (h:∀s',Inv X pins (σ.set i (some v)) H s'->Q () s') (hf:X.fn x=true\/X.env.scope.names.lookup x=some .local:=by first | exact .inl rfl | exact .inr rfl | assumption):wpAny M A (storeName X.env x u) Q E s:=
 UH I hN hi hx r (fun s' I' _=>h s' I') hf
theorem Inv.call' {s' : Shared} {ch : List Addr} (I : Inv X pins σ H s) (ho : s'.os = s.os) (u : Un (frs X.stack) ch H H' s.heap s'.heap) (hok : HOk X.prog X.w H' s'.heap) (hg : AllBare s'.gens)
 (hch:∀b ∈ ch,(b ∈ X.ex\/X.s₀.heap.objs.size<=b)/\b≠X.env.locals/\(∀x c,X.env.cells.lookup x=some c->c≠b)/\∀p ∈ X.pn++pins,p.1≠b):Inv X pins σ H' s':=by
 obtain ⟨h',g',d',t',o'⟩:=s';have e:o'=s.os:=ho;subst e;exact I.call (g':=g') (t':=t') (d':=d') u hok hg hch
end
abbrev XK:=Value->Option Addr->Hp->Prop
abbrev St:=List (Option V)
abbrev VK:=V->Hp->Prop
abbrev TE:=St->Hp->VK->Prop
abbrev TT:=St->Hp->(Bool->Hp->Prop)->Prop
abbrev TA:=St->Hp->(List V->Hp->Prop)->Prop
structure Ends where
 nx:St->Hp->Prop
 rt:VK
 bk:St->Hp->Prop:=fun _ _=>False
 ct:St->Hp->Prop:=fun _ _=>False
abbrev TS:=Ends->St->Hp->Prop
def EP(X:Cx)(pins:List (Addr×Obj))(σ:St)(Q:VK)(u:Value)(s':Shared):Prop:=∃v H',Inv X pins σ H' s'/\RelV v u/\Q v H'
def TP(X:Cx)(pins:List (Addr×Obj))(σ:St)(Q:Bool->Hp->Prop)(b:Bool)(s':Shared):Prop:=∃H',Inv X pins σ H' s'/\Q b H'
def AP(X:Cx)(pins:List (Addr×Obj))(σ:St)(Q:List V->Hp->Prop)(us:List Value)(s':Shared):Prop:=∃vs H',Inv X pins σ H' s'/\Vals vs us/\Q vs H'
def SP(X:Cx)(pins:List (Addr×Obj))(D:Ends)(f:Flow)(s':Shared):Prop:=
 match f with
 | .next=>∃σ' H',Inv X pins σ' H' s'/\D.nx σ' H'
 | .brk=>∃σ' H',Inv X pins σ' H' s'/\D.bk σ' H'
 | .cont=>∃σ' H',Inv X pins σ' H' s'/\D.ct σ' H'
 | .ret u=>∃v σ' H',Inv X pins σ' H' s'/\RelV v u/\D.rt v H'
def PE(X:Cx)(e:Expr)(t:TE):Prop:=
 ∀(pins:List (Addr×Obj)) (s:Shared) (σ:St) (H:Hp) (Q:VK),Inv X pins σ H s->t σ H Q->wpAny (model X.prog X.w) X.A (eval e X.env) (EP X pins σ Q) X.xe s
def PT(X:Cx)(e:Expr)(t:TT):Prop:=
 ∀(pins:List (Addr×Obj)) (s:Shared) (σ:St) (H:Hp) (Q:Bool->Hp->Prop),Inv X pins σ H s->t σ H Q->wpAny (model X.prog X.w) X.A (isTrue e X.env (eval e X.env)) (TP X pins σ Q) X.xe s
def PW(X:Cx)(e:Expr)(t:TT):Prop:=
 ∀(whole:Sem Value) (pins:List (Addr×Obj)) (s:Shared) (σ:St) (H:Hp) (Q:Bool->Hp->Prop),Inv X pins σ H s->t σ H Q->wpAny (model X.prog X.w) X.A (isTrue e X.env whole) (TP X pins σ Q) X.xe s
theorem PW.pt{X:Cx}{e:Expr}{t:TT}(h:PW X e t):PT X e t:=h _
def PA(X:Cx)(es:List Expr)(t:TA):Prop:=
 ∀(pos:Pos) (pins:List (Addr×Obj)) (s:Shared) (σ:St) (H:Hp) (Q:List V->Hp->Prop),Inv X pins σ H s->t σ H Q->wpAny (model X.prog X.w) X.A (spliced (backTo pos (starEach es X.env))) (AP X pins σ Q) X.xe s
def PS(X:Cx)(st:Stmt)(t:TS):Prop:=
 ∀(pins:List (Addr×Obj)) (s:Shared) (σ:St) (H:Hp) (D:Ends),Inv X pins σ H s->t D σ H->wpAny (model X.prog X.w) X.A (exec st X.env) (SP X pins D) X.xe s
def PSs(X:Cx)(st:List Stmt)(t:TS):Prop:=
 ∀(pins:List (Addr×Obj)) (s:Shared) (σ:St) (H:Hp) (D:Ends),Inv X pins σ H s->t D σ H->wpAny (model X.prog X.w) X.A (execs st X.env) (SP X pins D) X.xe s
theorem thn{α:Type}{t:Sem α}{Q Q':α->Shared->Prop}{M:Model}{A:Around}{E:Value->Shared->Prop}{s:Shared}(h:wpAny M A t Q E s)(hQ:∀a s,Q a s->Q' a s):wpAny M A t Q' E s:=EC h hQ fun _ _ x=>x
end L2
namespace L2
open PySem PySem.Spec PyProof.Rows
section
variable {X:Cx}
theorem bin {a b : Expr} {ta tb : TE} (ha : PE X a ta) (hb : PE X b tb) {pins : List (Addr × Obj)} {s : Shared} {σ : St} {H : Hp} {R : V -> V -> Hp -> Prop} (I : Inv X pins σ H s) (h : ta σ H fun x H1 => tb σ H1 fun y H2 => R x y H2)
 {α:Type} {Q:α->Shared->Prop} {f:Value->Value->Sem α}
 (hf:∀v u s2 x y H2,Inv X pins σ H2 s2->RelV x v->RelV y u->R x y H2->wpAny (model X.prog X.w) X.A (f v u) Q X.xe s2) :
 wpAny (model X.prog X.w) X.A (eval a X.env) (fun v s₁=>wpAny (model X.prog X.w) X.A (eval b X.env) (fun u s₂=>wpAny (model X.prog X.w) X.A (f v u) Q X.xe s₂) X.xe s₁) X.xe s:=by
 refine thn (ha pins s σ H _ I h) fun v s1 ⟨x,H1,I1,r1,q1⟩ => ?_;refine thn (hb pins s1 σ H1 _ I1 q1) fun u s2 ⟨y,H2,I2,r2,q2⟩ => ?_;exact hf v u s2 x y H2 I2 r1 r2 q2
def Z1(i:Nat):TE:=fun σ H Q=>∃v,σ[i]? = some (some v)/\Q v H
def tC(v:V):TE:=fun _ H Q=>Q v H
theorem Q5 {i:Nat} {x:Str} {pos:Pos} (hN:X.N[i]? = some x) (hv:Vis X.env.scope x) (hd:(x==("__debug__" : Str))=false:=by decide) (hcd:(x==("__classdict__" : Str))=false:=by decide):PE X (.Name x pos) (Z1 i):=by
 intro pins s σ H Q I h;obtain ⟨v,e,h⟩:=h;obtain ⟨m,hn,hl⟩:=I.loc;obtain ⟨u,r,l⟩:=hl i x v hN e hv;have fin:EP X pins σ Q u s:=⟨v,H,I,r,h⟩;rcases l with ⟨hk,hm⟩ | ⟨hk,c,hc,hcell⟩
 . exact wpAny_Name (wpAny_loadName_local I.ok.kind hk hn hm fin) hd
 . rcases hk with hk | hk
   . exact wpAny_Name (wpAny_loadName_cell I.ok.kind hk hc hcell fin) hd
   . exact wpAny_Name (wpAny_loadName_free I.ok.kind hk hc hcell fin hcd) hd
theorem yC{i j pos}:PE X (.Constant (.int i) j pos) (tC (.int i)):=fun _ _ _ H _ I h=>wpAny_Constant_int ⟨.int i,H,I.tok _,⟨_,rfl⟩,h⟩
theorem A31{b j pos}:PE X (.Constant (.bool b) j pos) (tC (.bl b)):=fun _ _ _ H _ I h=>Constant_bool ⟨.bl b,H,I,rfl,h⟩
theorem xD{j pos}:PE X (.Constant .none j pos) (tC .non):=fun _ _ _ H _ I h=>Constant_none ⟨.non,H,I,rfl,h⟩
theorem vW{x j pos}:PE X (.Constant (.str x) j pos) (tC (.str x)):=fun _ _ _ H _ I h=>Calls.Constant_str ⟨.str x,H,I.tok _,⟨_,rfl⟩,h⟩
def Gl(X:Cx)(x:Str):Prop:=X.env.kindOf x=some .globalImplicit
theorem nN {E : Value -> Shared -> Prop} {pins : List (Addr × Obj)} {s : Shared} {σ : St} {H : Hp} {x : Str} {u : Value} {pos : Pos} {Q : Value -> Shared -> Prop} (I : Inv X pins σ H s) (hg : Gl X x) (hm : X.mg x = some u) (h : Q u s)
 (hd:(x==("__debug__" : Str))=false:=by decide):wpAny (model X.prog X.w) X.A (eval (.Name x pos) X.env) Q E s:=
 zK I.ok.kind hg (Calls.loadGlobal_global (by rw [I.ok.glob];exact I.mod.glob.keeps I.bk) hm h) hd
theorem IF {E : Value -> Shared -> Prop} {pins : List (Addr × Obj)} {s : Shared} {σ : St} {H : Hp} {x : Str} {u : Value} {pos : Pos} {Q : Value -> Shared -> Prop} (I : Inv X pins σ H s) (hg : Gl X x) (hm : X.mg x = none) (hv : bootBuiltins x = some u) (h : Q u s)
 (hn:x ≠ "__name__" :=by decide) (hd:(x==("__debug__" : Str))=false:=by decide):wpAny (model X.prog X.w) X.A (eval (.Name x pos) X.env) Q E s:=by
 obtain ⟨mb,h1,h2⟩:=I.mod.blt;exact zK I.ok.kind hg (Calls.loadGlobal_builtin (by rw [I.ok.glob];exact I.mod.glob.keeps I.bk) hm (by rw [I.ok.blt];exact h1.keeps I.bk) ((h2 x hn).trans hv) h) hd
theorem oP {x:Str} {v:V} {u:Value} {pos:Pos} (hg:Gl X x) (hm:X.mg x=none) (hv:bootBuiltins x=some u) (r:RelV v u) (hn:x ≠ "__name__" :=by decide) (hd:(x==("__debug__" : Str))=false:=by decide):PE X (.Name x pos) (tC v) :=
 fun _ _ _ H _ I h=>IF I hg hm hv ⟨v,H,I,r,h⟩ hn hd
variable {a b:Expr} {ta tb:TE} {pos:Pos}
def PC(X:Cx)(op:CmpOp)(a b:Expr)(t:TE):Prop:=
 ∀(pins:List (Addr×Obj)) (s:Shared) (σ:St) (H:Hp) (Q:VK),Inv X pins σ H s->t σ H Q ->
   wpAny (model X.prog X.w) X.A (eval a X.env) (fun v s₁=>wpAny (model X.prog X.w) X.A (eval b X.env) (fun u s₂=>wpAny (model X.prog X.w) X.A (compareOp op v u) (EP X pins σ Q) X.xe s₂) X.xe s₁) X.xe s
def tB(t:TE):TT:=fun σ H Q=>t σ H fun x H1=>∃c,x = .bl c/\Q c H1
theorem x8{op:CmpOp}{t:TE}(h:PC X op a b t)(h1:behindInMarks op b=false:=by first | exact nobehind _ (by decide) (by decide) | rfl):PT X (.Compare a [op] [b] pos) (tB t):=by
 intro pins s σ H Q I hw;refine A98 (thn (h pins s σ H _ I hw) fun v s1 h1=>thn h1 fun u s2 h2=>thn h2 fun c s3 ⟨x,H1,I1,r1,q1⟩ => ?_) h1;obtain ⟨d,rfl,q⟩:=q1
 cases r1
 exact EU ⟨H1,I1,q⟩
theorem wJ{e:Expr}{t:TE}(h:PE X e t)(he:∀whole,isTrue e X.env whole=(do let v <-whole;standAt e.pos;holding [v] (truthy v)):=by intro _;rfl):PT X e (tB t):=by
 intro pins s σ H Q I hw;refine isTrue_plain (thn (h pins s σ H _ I hw) fun v s1 ⟨x,H1,I1,r1,q1⟩ => ?_) (he _);obtain ⟨d,rfl,q⟩:=q1
 cases r1
 exact EU ⟨H1,I1,q⟩
variable {tA tB':TT} {GW:List Expr}
def A18(t u:TT):TT:=fun σ H Q=>t σ H fun c H1=>if c=true then u σ H1 Q else Q false H1
def tOr(t u:TT):TT:=fun σ H Q=>t σ H fun c H1=>if c=true then Q true H1 else u σ H1 Q
def zT(t:TT):TT:=fun σ H Q=>t σ H fun c H1=>Q (!c) H1
theorem s9(ha:PT X a tA):PW X (.BoolOp .And [a] pos) tA:=by
 intro wh pins s σ H Q I h;refine isTrue_and (thn (ha pins s σ H Q I h) fun c s1 e=> ?_)
 cases c with
 | true=>exact isTrue_and_nil e
 | false=>exact e
theorem uR(ha:PT X a tA):PW X (.BoolOp .Or [a] pos) tA:=by
 intro wh pins s σ H Q I h;refine isTrue_or (thn (ha pins s σ H Q I h) fun c s1 e=> ?_)
 cases c with
 | false=>exact isTrue_or_nil e
 | true=>exact e
theorem uZ(ha:PT X a tA)(hb:PW X (.BoolOp .And (b::GW) pos) tB'):PW X (.BoolOp .And (a::b::GW) pos) (A18 tA tB'):=by
 intro wh pins s σ H Q I h;refine isTrue_and (thn (ha pins s σ H _ I h) fun c s1 ⟨H1,I1,q1⟩ => ?_)
 cases c with
 | true=>exact hb wh pins s1 σ H1 Q I1 q1
 | false=>exact ⟨H1,I1,q1⟩
theorem A04(ha:PT X a tA)(hb:PW X (.BoolOp .Or (b::GW) pos) tB'):PW X (.BoolOp .Or (a::b::GW) pos) (tOr tA tB'):=by
 intro wh pins s σ H Q I h;refine isTrue_or (thn (ha pins s σ H _ I h) fun c s1 ⟨H1,I1,q1⟩ => ?_)
 cases c with
 | true=>exact ⟨H1,I1,q1⟩
 | false=>exact hb wh pins s1 σ H1 Q I1 q1
theorem yY(ha:PT X a tA):PT X (.UnaryOp .Not a pos) (zT tA):=by
 intro pins s σ H Q I h;exact isTrue_not (ha pins s σ H (fun c H1=>Q (!c) H1) I h)
def sL(ta tb:TE):TE:=fun σ H Q=>ta σ H fun x H1=>∃c,x = .bl c/\if c=true then tb σ H1 Q else Q (.bl false) H1
def t9(ta:TE):TE:=fun σ H Q=>ta σ H fun x H1=>∃c,x = .bl c/\Q (.bl (!c)) H1
theorem uU{op}{t:TE}(h:PE X a t):PE X (.BoolOp op [a] pos) t:=fun pins s σ H Q I hw=>BoolOp_one (h pins s σ H Q I hw)
theorem y6(ha:PE X a ta)(hb:PE X (.BoolOp .And (b::GW) pos) tb):PE X (.BoolOp .And (a::b::GW) pos) (sL ta tb):=by
 intro pins s σ H Q I h;refine BoolOp_and (thn (ha pins s σ H _ I h) fun v s1 ⟨x,H1,I1,r1,q1⟩ => ?_);obtain ⟨c,rfl,q1⟩:=q1
 cases r1
 refine EU ?_
 cases c with
 | true=>exact hb pins s1 σ H1 Q I1 q1
 | false=>exact ⟨.bl false,H1,I1,rfl,q1⟩
theorem yP(ha:PE X a ta):PE X (.UnaryOp .Not a pos) (t9 ta):=by
 intro pins s σ H Q I h;refine UnaryOp_ (thn (ha pins s σ H _ I h) fun v s1 ⟨x,H1,I1,r1,q1⟩ => ?_);obtain ⟨c,rfl,q1⟩:=q1
 cases r1
 exact not_of (EU ⟨.bl (!c),H1,I1,rfl,q1⟩)
def tIf(t:TT)(ta tb:TE):TE:=fun σ H Q=>t σ H fun c H1=>if c=true then ta σ H1 Q else tb σ H1 Q
theorem lQ{c:Expr}(hc:PT X c tA)(ha:PE X a ta)(hb:PE X b tb):PE X (.IfExp c a b pos) (tIf tA ta tb):=by
 intro pins s σ H Q I h;refine wpAny_IfExp (thn (hc pins s σ H _ I h) fun d s1 ⟨H1,I1,q1⟩ => ?_)
 cases d with
 | true=>exact ha pins s1 σ H1 Q I1 q1
 | false=>exact hb pins s1 σ H1 Q I1 q1
end
end L2
namespace L2
open PySem PySem.Spec PyProof.Rows
def SqL(K:PySem.W.Frag)(H:Hp)(a:Addr)(xs:List V):Prop:=
 Rd H a (.lst xs) \/
  ∃(o:Obj) (its:Array Value) (n:Nat),K.lookup a=some o/\o.cls = .type "list" /\ o.dict=none/\o.data = .seq its n/\its.size<=sizeLine/\Vals xs its.toList
def SqT(K:PySem.W.Frag)(H:Hp)(a:Addr)(xs:List V):Prop:=
 Rd H a (.tup xs) \/
  ∃(o:Obj) (its:Array Value) (n:Nat),K.lookup a=some o/\o.cls = .type "tuple" /\ o.data = .seq its n/\its.size<=sizeLine/\Vals xs its.toList
def A71:Value->Option V
 | .none=>some .non
 | .bool b=>some (.bl b)
 | .int i _=>some (.int i)
 | .str x _=>some (.str x)
 | .bytes b _=>some (.byt b)
 | .float b _=>some (.flt b)
 | .ref a=>some (.ref a)
 | .type n=>some (.ty n)
 | _=>none
theorem RelV.abs{x:V}{u:Value}(r:RelV x u):A71 u=some x:=by
 cases x with
 | non=>cases r;rfl
 | bl _=>cases r;rfl
 | int _=>obtain ⟨t,rfl⟩:=r;rfl
 | str _=>obtain ⟨t,rfl⟩:=r;rfl
 | byt _=>obtain ⟨t,rfl⟩:=r;rfl
 | flt _=>obtain ⟨t,rfl⟩:=r;rfl
 | ref _=>cases r;rfl
 | ty _=>cases r;rfl
theorem RelV.inj{x y:V}{u:Value}(r:RelV x u)(q:RelV y u):x=y:=BN (r.abs.symm.trans q.abs)
theorem Vals.inj:∀ {xs ys:List V} {us:List Value},Vals xs us->Vals ys us->xs=ys
 | _,_,_, .nil, .nil=>rfl
 | _,_,_, .cons r t, .cons r' t'=>by rw [r.inj r',Vals.inj t t']
section
variable {X:Cx} {pins:List (Addr×Obj)} {σ:St} {H:Hp} {s:Shared} {a:Addr} {xs ys:List V}
theorem SqL.of{K:PySem.W.Frag}(h:H a=some (.lst xs)):SqL K H a xs:= .inl (.inl h)
theorem SqT.of{K:PySem.W.Frag}(h:H a=some (.tup xs)):SqT K H a xs:= .inl (.inl h)
theorem Inv.list(I:Inv X pins σ H s)(h:SqL X.K H a xs):∃its:List Value,Vals xs its/\PlainL s.heap a its.toArray/\xs.length<=sizeLine:=by
 rcases h with h | ⟨o,its,n,hk,hc,hd,hs,hz,r⟩
 . obtain ⟨z,its,n,r,e⟩:=h.ok I.hok;exact ⟨its,r,⟨_,n,e,rfl,rfl,rfl⟩,z⟩
 . refine ⟨its.toList,r,⟨o,n,I.kIn a o hk,hc,hd,by simpa using hs⟩,?_⟩;have e:=r.length;simp only [BO] at e
   omega
theorem Inv.tuple(I:Inv X pins σ H s)(h:SqT X.K H a xs):∃its:List Value,Vals xs its/\IsTup s.heap a its.toArray/\xs.length<=sizeLine:=by
 rcases h with h | ⟨o,its,n,hk,hc,hs,hz,r⟩
 . obtain ⟨z,its,r,p⟩:=h.ok I.hok;exact ⟨its,r,p,z⟩
 . refine ⟨its.toList,r,⟨o,I.kIn a o hk,hc,n,by simpa using hs⟩,?_⟩;have e:=r.length;simp only [BO] at e
   omega
theorem Inv.list_inj(I:Inv X pins σ H s)(h:SqL X.K H a xs)(h':SqL X.K H a ys):xs=ys:=by
 obtain ⟨its,r,⟨o,n,e,_,_,d⟩,_⟩:=I.list h;obtain ⟨its',r',⟨o',n',e',_,_,d'⟩,_⟩:=I.list h';rw [e] at e';cases e'
 rw [d] at d'
 injection d' with d1 _
 have:its=its':=by simpa using K0 Array.toList d1
 subst this;exact r.inj r'
theorem Inv.tuple_inj(I:Inv X pins σ H s)(h:SqT X.K H a xs)(h':SqT X.K H a ys):xs=ys:=by
 obtain ⟨its,r,⟨o,e,_,n,d⟩,_⟩:=I.tuple h;obtain ⟨its',r',⟨o',e',_,n',d'⟩,_⟩:=I.tuple h';rw [e] at e';cases e'
 rw [d] at d'
 injection d' with d1 _
 have:its=its':=by simpa using K0 Array.toList d1
 subst this;exact r.inj r'
end
abbrev Cx.wish (X:Cx) (E:Value->Shared->Prop):Cx:={ X with xe:=E}
abbrev Cx.nox (X:Cx):Cx:=X.wish fun _ _=>False
theorem Cx.Ok.wish{X:Cx}(ok:X.Ok)(E:Value->Shared->Prop):(X.wish E).Ok:=
 ⟨ok.mod,ok.kind,ok.glob,ok.blt,ok.above,ok.inj,ok.has,ok.cab,ok.hd,ok.frames,ok.stk,ok.exf,ok.bs,ok.bsz,ok.noex,ok.exfs,ok.funs,ok.frf,ok.tb⟩
theorem Cx.Ok.unwish{X:Cx}{E:Value->Shared->Prop}(ok:(X.wish E).Ok):X.Ok:=
 ⟨ok.mod,ok.kind,ok.glob,ok.blt,ok.above,ok.inj,ok.has,ok.cab,ok.hd,ok.frames,ok.stk,ok.exf,ok.bs,ok.bsz,ok.noex,ok.exfs,ok.funs,ok.frf,ok.tb⟩
section
variable {X:Cx} {pins:List (Addr×Obj)} {σ:St} {H:Hp} {s:Shared} {E:Value->Shared->Prop}
theorem Inv.wish(I:Inv X pins σ H s)(E:Value->Shared->Prop):Inv (X.wish E) pins σ H s:=⟨I.ok.wish E,I.os,I.bare,I.base,I.loc,I.cell,I.free,I.freeC,I.pin,I.hok,I.len⟩
theorem Inv.unwish(I:Inv (X.wish E) pins σ H s):Inv X pins σ H s:=⟨I.ok.unwish,I.os,I.bare,I.base,I.loc,I.cell,I.free,I.freeC,I.pin,I.hok,I.len⟩
theorem SP.unwish{D:Ends}{f:Flow}{s':Shared}(h:SP (X.wish E) pins D f s'):SP X pins D f s':=by
 cases f with
 | next=>obtain ⟨σ',H',I,q⟩:=h;exact ⟨σ',H',I.unwish,q⟩
 | brk=>obtain ⟨σ',H',I,q⟩:=h;exact ⟨σ',H',I.unwish,q⟩
 | cont=>obtain ⟨σ',H',I,q⟩:=h;exact ⟨σ',H',I.unwish,q⟩
 | ret u=>obtain ⟨v,σ',H',I,r,q⟩:=h;exact ⟨v,σ',H',I.unwish,r,q⟩
theorem PSs.nox{st:List Stmt}{t:TS}(h:PSs X.nox st t):PSs X st t:=fun pins s σ H D I hw=>
 EC (h pins s σ H D (I.wish _) hw) (fun _ _ q=>q.unwish) fun _ _ z=>False.elim z
end
section
variable {X:Cx} {st:Stmt} {GW:List Stmt} {t u:TS} {e:Expr} {te:TE} {pos:Pos}
def tNext:TS:=fun D σ H=>D.nx σ H
def A42(t u:TS):TS:=fun D σ H=>t { D with nx:=u D} σ H
theorem qX:PSs X [] tNext:=fun _ _ σ H _ I h=>U3 ⟨σ,H,I,h⟩
theorem kA(h1:PS X st t)(h2:PSs X GW u):PSs X (st::GW) (A42 t u):=by
 intro pins s σ H D I h;refine wpAny_execs_cons (thn (h1 pins s σ H { D with nx:=u D} I h) fun f s1 q=> ?_)
 cases f with
 | next=>
  obtain ⟨σ',H',I',q⟩:=q
  exact h2 pins s1 σ' H' D I' q
 | ret v=>exact q
 | brk=>exact q
 | cont=>exact q
theorem nL(h1:PS X st t):PSs X [st] t:=by
 intro pins s σ H D I h;refine wpAny_execs_cons (thn (h1 pins s σ H D I h) fun f s1 q=> ?_)
 cases f with
 | next=>exact U3 q
 | ret v=>exact q
 | brk=>exact q
 | cont=>exact q
theorem Inv.quiet{pins:List (Addr×Obj)}{σ:St}{H:Hp}{s:Shared}(I:Inv X pins σ H s):interactive X.env=false:=by simp [interactive,I.ok.kind]
def j7(te:TE):TS:=fun D σ H=>te σ H fun _ H1=>D.nx σ H1
theorem aX(he:PE X e te)(hs:swapsWith e none pos.line X.env=pure false:=by rfl):PS X (.Expr e pos) (j7 te):=by
 intro pins s σ H D I h;exact wpAny_Expr_any (thn (he pins s σ H _ I h) fun v s1 ⟨x,H1,I1,r1,q1⟩=>⟨σ,H1,I1,q1⟩) I.quiet hs
def y8(te:TE):TS:=fun D σ H=>te σ H D.rt
theorem lJ(he:PE X e te):PS X (.Return (some e) pos) (y8 te):=by
 intro pins s σ H D I h;exact wpAny_Return_some (thn (he pins s σ H _ I h) fun v s1 ⟨x,H1,I1,r1,q1⟩=>⟨x,σ,H1,I1,r1,q1⟩)
def A37(c:TT)(t u:TS):TS:=fun D σ H=>c σ H fun b H1=>if b=true then t D σ H1 else u D σ H1
theorem A45{c:Expr}{a b:List Stmt}{tc:TT}(hc:PT X c tc)(ha:PSs X a t)(hb:PSs X b u):PS X (.If c a b pos) (A37 tc t u):=by
 intro pins s σ H D I h;refine wpAny_If (thn (hc pins s σ H _ I h) fun d s1 ⟨H1,I1,q1⟩ => ?_)
 cases d with
 | true=>exact ha pins s1 σ H1 D I1 q1
 | false=>exact hb pins s1 σ H1 D I1 q1
end
abbrev TG:=V->St->Hp->(St->Hp->Prop)->Prop
abbrev TGs:=List V->St->Hp->(St->Hp->Prop)->Prop
def PG(X:Cx)(target:Expr)(t:TG):Prop:=
 ∀(pins:List (Addr×Obj)) (s:Shared) (σ:St) (H:Hp) (v:V) (u:Value) (Q:St->Hp->Prop),Inv X pins σ H s->RelV v u->t v σ H Q ->
   wpAny (model X.prog X.w) X.A (assign target X.env u) (fun _ s'=>∃σ' H',Inv X pins σ' H' s'/\Q σ' H') X.xe s
def PGs(X:Cx)(ts:List Expr)(t:TGs):Prop:=
 ∀(pins:List (Addr×Obj)) (s:Shared) (σ:St) (H:Hp) (vs:List V) (us:List Value) (Q:St->Hp->Prop),Inv X pins σ H s->Vals vs us->t vs σ H Q ->
   wpAny (model X.prog X.w) X.A (assignInOrder ((assignEach ts X.env).map (·.2)) us) (fun _ s'=>∃σ' H',Inv X pins σ' H' s'/\Q σ' H') X.xe s
section
variable {X:Cx} {pos:Pos}
def X1(i:Nat):TG:=fun v σ H Q=>Q (σ.set i (some v)) H
theorem cQ{i:Nat}{x:Str}(hN:X.N.Nodup)(hi:X.N[i]? = some x)(hx:Loc X.env.scope x)(hf:X.fn x=true\/X.env.scope.names.lookup x=some .local:=by first | exact .inl rfl | exact .inr rfl | assumption):PG X (.Name x pos) (X1 i):=by
 intro pins s σ H v u Q I r h;exact wpAny_assign_Name (Y9 I hN hi hx r (fun s' I'=>⟨_,H,I',h⟩) hf)
def gNil:TGs:=fun vs σ H Q=>vs = []/\Q σ H
def mR(t:TG)(u:TGs):TGs:=fun vs σ H Q=>∃v r,vs=v::r/\t v σ H fun σ' H'=>u r σ' H' Q
theorem aH:PGs X [] gNil:=by
 intro pins s σ H vs us Q I r h;obtain ⟨e,h⟩:=h;subst e
 cases r
 exact assignInOrder_nil ⟨σ,H,I,h⟩
theorem Y1 {e : Expr} {es : List Expr} {t : TG} {u : TGs} (h1 : PG X e t) (h2 : PGs X es u)
 (hs:(assignEach (e::es) X.env).map (·.2)=assign e X.env::(assignEach es X.env).map (·.2):=by rfl):PGs X (e::es) (mR t u):=by
 intro pins s σ H vs us Q I r h;obtain ⟨v,vr,e1,h⟩:=h;subst e1
 cases r with
 | cons r rr=>
  rw [hs];refine assignInOrder_cons (thn (h1 pins s σ H _ _ _ I r h) fun _ s1 ⟨σ1,H1,I1,q1⟩ => ?_);exact h2 pins s1 σ1 H1 _ _ Q I1 rr q1
def x9(K:PySem.W.Frag)(n:Nat)(t:TGs):TG:=fun v σ H Q=>∃a xs,v = .ref a/\SqT K H a xs/\xs.length=n/\t xs σ H Q
theorem kG {es : List Expr} {k : Nat} {t : TGs} {n : Nat} (hc : X.calm = true) (h : PGs X es t)
 (hn:(assignEach es X.env).length=n:=by rfl) (hst:(assignEach es X.env).findIdx? (·.1)=none:=by rfl):PG X (.Tuple es k pos) (x9 X.K n t):=by
 intro pins s σ H v u Q I r hw;obtain ⟨a,xs,e1,hq,hl,hw⟩:=hw;subst e1
 cases r
 obtain ⟨its,rv,ht,hz⟩:=I.tuple hq;refine assign_Tuple_tuple (I.ok.hd hc) ht (by simp [hn, <-hl,rv.length]) hst fun h' hx=> ?_;have I1:Inv X pins σ H {s with heap:=h' }:=I.kept (t':=s.toks) fun b o e=>hx b o (BW (AO e)) e;exact h pins _ σ H xs _ Q I1 (by simpa using rv) hw
def o6(te:TE)(g:TG):TS:=fun D σ H=>te σ H fun x H1=>g x σ H1 D.nx
theorem uY {tg e : Expr} {te : TE} {g : TG} (he : PE X e te) (hg : PG X tg g) (hs : swapsWithSole [tg] e pos.line X.env = pure false := by rfl) (hw : swappedStores [tg] e X.env = pure none := by rfl)
 (h1:(assignEach [tg] X.env).map (·.2) = [assign tg X.env]:=by rfl):PS X (.Assign [tg] e pos) (o6 te g):=by
 intro pins s σ H D I h;refine wpAny_Assign_stores (thn (he pins s σ H _ I h) fun v s1 ⟨x,H1,I1,r1,q1⟩ => ?_) hs hw;rw [h1];exact thn (hg pins s1 σ H1 x v _ I1 r1 q1) fun _ s2 q=>q
theorem wV {i : Nat} {x : Str} {e : Expr} {te : TE} {pos' : Pos} (hN : X.N.Nodup) (hi : X.N[i]? = some x) (hx : Loc X.env.scope x) (he : PE X e te) (hs : swapsWith e (some (.Name x pos')) pos.line X.env = pure false := by rfl) (hf : X.fn x = true \/ X.env.scope.names.lookup x = some .local := by first | exact .inl rfl | exact .inr rfl | assumption) :
 PS X (.Assign [.Name x pos'] e pos) (o6 te (X1 i)):=by
 intro pins s σ H D I h;refine wpAny_Assign_Name (thn (he pins s σ H _ I h) fun v s1 ⟨y,H1,I1,r1,q1⟩ => ?_) hs;exact Y9 I1 hN hi hx r1 (fun s2 I2=>⟨_,H1,I2,q1⟩) hf
end
section
variable {X:Cx} {pos:Pos}
def kQ(c:TT)(tb:TS):TS:=fun D σ H=>∃W:Nat->St->Hp->Prop,(∃m,W m σ H)/\∀m σ H,W m σ H ->
 c σ H fun b H1=>if b=true then ∃N:St->Hp->Prop,(∀σ' H',N σ' H'->∃m',m'<m/\W m' σ' H')/\tb { D with nx:=N,ct:=N,bk:=D.nx} σ H1 else D.nx σ H1
theorem j5{c:Expr}{body:List Stmt}{tc:TT}{tb:TS}(hp:PassesOwn (model X.prog X.w) X.A X.env X.xe)(hc:PT X c tc)(hb:PSs X body tb):PS X (.While c body [] pos) (kQ tc tb):=by
 intro pins s σ H D I h;obtain ⟨W,⟨m0,w0⟩,turn⟩:=h;refine wpAny_While (codeAny_whileLoop (fun n s'=>∃σ' H',Inv X pins σ' H' s'/\W n σ' H') ?_ m0 ⟨σ,H,I,w0⟩);rintro n s1 ⟨σ1,H1,I1,w1⟩;refine HW hp (thn (hc pins s1 σ1 H1 _ I1 (turn n σ1 H1 w1)) fun b s2 ⟨H2,I2,q2⟩ => ?_)
 cases b with
 | true=>
  obtain ⟨N,hN,q2⟩:=q2;rw [AB rfl];refine HW hp (thn (hb pins s2 σ1 H2 _ I2 q2) fun f s3 q3=> ?_)
  cases f with
  | next=>
   obtain ⟨σ3,H3,I3,n3⟩:=q3;obtain ⟨m',hm,w3⟩:=hN σ3 H3 n3
   exact ⟨m',hm,σ3,H3,I3,w3⟩
  | cont=>
   obtain ⟨σ3,H3,I3,n3⟩:=q3;obtain ⟨m',hm,w3⟩:=hN σ3 H3 n3
   exact ⟨m',hm,σ3,H3,I3,w3⟩
  | brk=>exact q3
  | ret v=>exact q3
 | false=>
  rw [A8 CF];exact U3 ⟨σ1,H2,I2,q2⟩
end
structure It where
 go:Nat->Hp->Prop
 yld:Nat->Hp->V->Hp->Prop
 stop:Nat->Hp->Prop
def LF(X:Cx)(pins:List (Addr×Obj))(H:Hp)(b:Addr):Prop:=
 H b=none/\b≠X.env.locals/\b ∉ X.fs/\(b ∈ X.ex\/X.s₀.heap.objs.size<=b)/\(∀x c,X.env.cells.lookup x=some c->c≠b)/\∀p ∈ X.pn++pins,p.1≠b
theorem Inv.fpOk{X:Cx}{pins:List (Addr×Obj)}{σ:St}{H H':Hp}{s:Shared}{b:Addr}(I:Inv X pins σ H s)(hb:s.heap.objs.size<=b)(hn:H' b=none):LF X pins H' b:=by
 refine ⟨hn,K2 (BI I.lt hb),I.nofs hb, .inr (BG I.sz hb),fun x c e z=> ?_,fun p hp z=> ?_⟩
 . obtain ⟨v,q⟩:=I.cell x c e;exact absurd (BI q.lt (by rw [z];exact hb)) (GA _)
 . exact absurd (BI (AO (I.pin p hp).1) (by rw [z];exact hb)) (GA _)
structure Turn (P:Program) (w:World) (K:PySem.W.Frag) (tg:Expr) (J:It) (fp:List Addr) (it:Addr) (tn:Nat->Heap->Prop):Prop where
 mem:it ∈ fp
 obj:∀i h,tn i h->∀b ∈ fp,∃o,h.get? b=some o/\∀v,o.data ≠ .cell v
 keep:∀i h h',tn i h->(∀b ∈ fp,∀o,h.get? b=some o->h'.get? b=some o)->tn i h'
 item:∀(X:Cx),X.prog=P->X.w=w->X.K=K->X.calm=true->∀(i:Nat) (pins:List (Addr×Obj)) (s:Shared) (σ:St) (H:Hp) (E:Value->Shared->Prop),Inv X pins σ H s->(∀b ∈ fp,LF X pins H b)->tn i s.heap->J.go i H ->
  wpAny (model P w) X.A (pyNext (.ref it)) (fun r s1=>∃u,r=some u /\
   wpAny (model P w) X.A (letOwnedTupleGo tg (.ref it) u) (fun _ s2=>∃x H',Inv X pins σ H' s2/\RelV x u/\J.yld i H x H'/\tn (i+1) s2.heap/\∀b ∈ fp,H' b=none) E s1) E s
 done:∀(X:Cx),X.prog=P->X.w=w->X.K=K->X.calm=true->∀(i:Nat) (pins:List (Addr×Obj)) (s:Shared) (σ:St) (H:Hp) (E:Value->Shared->Prop),Inv X pins σ H s->(∀b ∈ fp,LF X pins H b)->tn i s.heap->J.stop i H ->
  wpAny (model P w) X.A (pyNext (.ref it)) (fun r s1=>r=none/\Inv X pins σ H s1) E s
 self:∀(A:Around) (i:Nat) (s:Shared) (Q:Value->Shared->Prop) (E:Value->Shared->Prop),tn i s.heap->Q (.ref it) s->wpAny (model P w) A (pyIter (.ref it)) Q E s
abbrev TI:=St->Hp->(It->Hp->Prop)->Prop
def PIE(X:Cx)(pins:List (Addr×Obj))(σ:St)(tg:Expr)(R:It->Hp->Prop)(itv:Value)(s2:Shared):Prop:=
 ∃(it:Addr) (fp:List Addr) (tn:Nat->Heap->Prop) (J:It) (H':Hp),itv = .ref it/\Inv X pins σ H' s2/\Turn X.prog X.w X.K tg J fp it tn/\tn 0 s2.heap/\(∀b ∈ fp,LF X pins H' b)/\R J H'
def PI(X:Cx)(tg iter:Expr)(wi:TI):Prop:=
 ∀(pins:List (Addr×Obj)) (s:Shared) (σ:St) (H:Hp) (R:It->Hp->Prop),Inv X pins σ H s->wi σ H R ->
   wpAny (model X.prog X.w) X.A (eval iter X.env) (fun v s1=>wpAny (model X.prog X.w) X.A (pyIter v) (PIE X pins σ tg R) X.xe s1) X.xe s
theorem aR {M : Model} {A : Around} {E : Value -> Shared -> Prop} {s : Shared} {tg : Expr} {it : Addr} {u : Value} {o : Obj} {n : String} {vs : Array Value} {Q : Unit -> Shared -> Prop} (ho : s.heap.get? it = some o) (hc : o.cls = .type n) (hd : o.data = .fields vs)
 (hn : ["enumerate","zip","dict_itemiterator","dict_reverseitemiterator","odict_iterator","itertools.zip_longest","itertools.pairwise"].contains n=false) (hQ:Q () s):wpAny M A (letOwnedTupleGo tg (.ref it) u) Q E s:=by
 unfold letOwnedTupleGo
 cases tg <;> first
  | exact A5 hQ
  | (cases u <;> first
   | exact A5 hQ
   | (refine A0 (wpAny_load ho ?_)
      rw [hc,hd];show wpAny M A (if (["enumerate","zip","dict_itemiterator","dict_reverseitemiterator","odict_iterator","itertools.zip_longest","itertools.pairwise"].contains n && vs[0]? ==some (rawInt _))=true then _ else _) Q E s;rw [A8 (by intro h;rw [hn,Bool.false_and] at h;cases h)];exact A5 hQ))
def Itl(K:PySem.W.Frag)(a:Addr):It:=
 ⟨fun i H=>∃xs x,SqL K H a xs/\xs[i]? = some x,fun i H x H'=>H'=H/\∀xs,SqL K H a xs->xs[i]? = some x,fun i H=>∃xs,SqL K H a xs/\xs.length<=i⟩
def Itt(K:PySem.W.Frag)(a:Addr):It:=
 ⟨fun i H=>∃xs x,SqT K H a xs/\xs[i]? = some x,fun i H x H'=>H'=H/\∀xs,SqT K H a xs->xs[i]? = some x,fun i H=>∃xs,SqT K H a xs/\xs.length<=i⟩
def Itr(lo:Int)(n:Nat):It:=⟨fun i _=>i<n,fun i H x H'=>H'=H/\x = .int (lo+i),fun i _=>n<=i⟩
theorem dD{P:Program}{w:World}{K:PySem.W.Frag}{tg:Expr}(a it:Addr):Turn P w K tg (Itl K a) [it] it (fun i h=>h.IsListIter it a i) where
 mem:=by simp
 obj:=fun i h st b hb=>by
  have e:b=it:=by simpa using hb
  subst e;obtain ⟨o,e,c,d⟩:=st;exact ⟨o,e,fun v z=>by rw [d] at z;cases z⟩
 keep:=fun i h h' st k=>st.at fun o e=>k it (by simp) o e
 item:=by
  intro X hP hw hK hc i pins s σ H E I hf st hg;subst hP hw hK;obtain ⟨xs,x,hq,hx⟩:=hg;obtain ⟨its,rv,p,hz⟩:=I.list hq;obtain ⟨u,hu,ru⟩:=rv.get hx;obtain ⟨f0,f1,f2,f3,f4,f5⟩:=hf it (by simp);refine wpAny_pyNext_list_item st p.isList (x:=u) (by simpa using hu) fun h' st' sb=> ?_;have I1:Inv X pins σ H {s with heap:=h' }:=I.turned (t':=s.toks) (fun b o hb e=>(sb.2 b hb).trans e) f0 f1 f3 f4 f5;obtain ⟨o,e,c,d⟩:=id st';exact ⟨u,rfl,aR (s:={s with heap:=h' }) e c d (by decide) ⟨x,H,I1,ru,⟨rfl,fun ys hy=>by rw [I.list_inj hy hq];exact hx⟩,st',fun b hb=>(hf b hb).1⟩⟩
 done:=by
  intro X hP hw hK hc i pins s σ H E I hf st hg;subst hP hw hK;obtain ⟨xs,hq,hx⟩:=hg;obtain ⟨its,rv,p,hz⟩:=I.list hq;obtain ⟨f0,f1,f2,f3,f4,f5⟩:=hf it (by simp);have hl:=rv.length;exact wpAny_pyNext_list_end (I.ok.hd hc) st p.isList (by simp;omega) fun h' eb=>⟨rfl,I.turned (t':=s.toks) (fun b o hb e=>eb b o hb e) f0 f1 f3 f4 f5⟩
 self:=fun _ _ _ _ _ st h=>wpAny_pyIter_listiter st h
theorem ZJ{P:Program}{w:World}{K:PySem.W.Frag}{tg:Expr}(a it:Addr):Turn P w K tg (Itt K a) [it] it (fun i h=>h.IsTupleIter it a i) where
 mem:=by simp
 obj:=fun i h st b hb=>by
  have e:b=it:=by simpa using hb
  subst e;obtain ⟨o,e,c,d⟩:=st;exact ⟨o,e,fun v z=>by rw [d] at z;cases z⟩
 keep:=fun i h h' st k=>st.at fun o e=>k it (by simp) o e
 item:=by
  intro X hP hw hK hc i pins s σ H E I hf st hg;subst hP hw hK;obtain ⟨xs,x,hq,hx⟩:=hg;obtain ⟨its,rv,p,hz⟩:=I.tuple hq;obtain ⟨u,hu,ru⟩:=rv.get hx;obtain ⟨f0,f1,f2,f3,f4,f5⟩:=hf it (by simp);refine wpAny_pyNext_tuple_item st (show s.heap.IsTuple a its.toArray from p) (x:=u) (by simpa using hu) fun h' st' sb=> ?_;have I1:Inv X pins σ H {s with heap:=h' }:=I.turned (t':=s.toks) (fun b o hb e=>(sb.2 b hb).trans e) f0 f1 f3 f4 f5;obtain ⟨o,e,c,d⟩:=id st';exact ⟨u,rfl,aR (s:={s with heap:=h' }) e c d (by decide) ⟨x,H,I1,ru,⟨rfl,fun ys hy=>by rw [I.tuple_inj hy hq];exact hx⟩,st',fun b hb=>(hf b hb).1⟩⟩
 done:=by
  intro X hP hw hK hc i pins s σ H E I hf st hg;subst hP hw hK;obtain ⟨xs,hq,hx⟩:=hg;obtain ⟨its,rv,p,hz⟩:=I.tuple hq;obtain ⟨f0,f1,f2,f3,f4,f5⟩:=hf it (by simp);have hl:=rv.length;exact wpAny_pyNext_tuple_end (I.ok.hd hc) st (show s.heap.IsTuple a its.toArray from p) (by simp;omega) fun h' eb=>⟨rfl,I.turned (t':=s.toks) (fun b o hb e=>eb b o hb e) f0 f1 f3 f4 f5⟩
 self:=fun _ _ _ _ _ st h=>wpAny_pyIter_tupleiter st h
theorem ZC{P:Program}{w:World}{K:PySem.W.Frag}{tg:Expr}(it:Addr)(lo:Int)(n:Nat):Turn P w K tg (Itr lo n) [it] it (fun i h=>IsRangeIter h it (lo+(i:Nat)*1) ((n:Int) - (i:Nat)) 1) where
 mem:=by simp
 obj:=fun i h st b hb=>by
  have e:b=it:=by simpa using hb
  subst e
  exact ⟨_,st,fun v z=>by
   have z':Data.fields _=Data.cell v:=z
   cases z'⟩
 keep:=fun i h h' st k=>k it (by simp) _ st
 item:=by
  intro X hP hw hK hc i pins s σ H E I hf st hg;subst hP hw hK;obtain ⟨f0,f1,f2,f3,f4,f5⟩:=hf it (by simp);have W:=Walks.range (prog:=X.prog) (w:=X.w) (I.ok.hd hc) it lo 1 n;refine W.item i s _ _ hg st fun v h' tk hv st' kk=> ?_;obtain ⟨t,rfl⟩:=hv;have I1:Inv X pins σ H {s with heap:=h',toks:=tk}:=I.turned (fun b o hb e=>kk b o (by simpa using hb) e) f0 f1 f3 f4 f5;refine ⟨_,rfl,aR (s:={s with heap:=h',toks:=tk}) (n:= "range_iterator") st' rfl rfl (by decide) ⟨.int (lo+i),H,I1,⟨t,?_⟩,⟨rfl,rfl⟩,st',fun b hb=>(hf b hb).1⟩⟩;rw [Int.mul_one]
 done:=by
  intro X hP hw hK hc i pins s σ H E I hf st hg;subst hP hw hK;obtain ⟨f0,f1,f2,f3,f4,f5⟩:=hf it (by simp);exact wpAny_pyNext_range_end (I.ok.hd hc) st (by have:n<=i:=hg;omega) fun h' eb=>⟨rfl,I.turned (t':=s.toks) (fun b o hb e=>eb b o hb e) f0 f1 f3 f4 f5⟩
 self:=fun _ _ _ _ _ st h=>wpAny_pyIter_rangeiter st h
end L2
namespace L2
open PySem PySem.Spec PyProof.Rows
section
variable {X:Cx} {tg:Expr}
theorem Y5 {pins : List (Addr × Obj)} {σ : St} {H : Hp} {s : Shared} {R : It -> Hp -> Prop} {E : Value -> Shared -> Prop} {lo hi : Int} {t u v : Tok} {tk : Nat} (I : Inv X pins σ H s) (h1 : -(2 ^ 62) <= lo) (h2 : lo < 2 ^ 62) (h3 : -(2 ^ 62) <= hi) (h4 : hi < 2 ^ 62)
 (q:R (Itr lo (hi - lo).toNat) H):wpAny (model X.prog X.w) X.A (pyIter (.ref s.heap.objs.size)) (PIE X pins σ tg R) E {s with heap:=s.heap.push {cls:= .type "range",data:= .fields #[.int lo t, .int hi u, .int 1 v]},toks:=tk}:=by
 refine wpAny_pyIter_range (IsRange.new ..) (small_one h1 h2 h3 h4) ?_;have I1:Inv X pins σ H {s with heap:=s.heap.push {cls:= .type "range",data:= .fields #[.int lo t, .int hi u, .int 1 v]},toks:=tk}:=I.kept fun b o e=>A1 _ e
 refine ⟨(s.heap.push {cls:= .type "range",data:= .fields #[.int lo t, .int hi u, .int 1 v]}).objs.size,[(s.heap.push {cls:= .type "range",data:= .fields #[.int lo t, .int hi u, .int 1 v]}).objs.size],_,_,H,rfl,
  I1.kept (t':=tk) fun b o e=>A1 _ e,ZC _ lo (hi - lo).toNat,?_,fun b hb=> ?_,q⟩
 . have e1:lo+((0:Nat):Int)*1=lo:=by simp
   have e2:(((hi - lo).toNat:Nat):Int) - ((0:Nat):Int)=Builtin.Range.rangeSize lo hi 1:=by rw [rangeSize_one];split <;> omega
   show IsRangeIter _ _ (lo+((0:Nat):Int)*1) ((((hi - lo).toNat:Nat):Int) - ((0:Nat):Int)) 1;rw [e1,e2];exact AG _ rfl
 . have e:b=(s.heap.push {cls:= .type "range",data:= .fields #[.int lo t, .int hi u, .int 1 v]}).objs.size:=by simpa using hb
   subst e;exact I1.fpOk (A9 _) (I1.hok.fresh (A9 _))
def sV(ta:TA):TI:=fun σ H R=>ta σ H fun vs H1=>∃j:Int,vs = [.int j] /\ -(2 ^ 62)<=j/\j<2 ^ 62/\R (Itr 0 j.toNat) H1
def sT(ta:TA):TI:=fun σ H R=>ta σ H fun vs H1=>∃i j:Int,vs = [.int i, .int j]/\(-(2 ^ 62)<=i/\i<2 ^ 62 /\ -(2 ^ 62)<=j/\j<2 ^ 62)/\R (Itr i (j - i).toNat) H1
theorem eY {a:Expr} {ta:TA} {p pos:Pos} (hg:Gl X "range") (hm:X.mg "range" = none) (ha:PA X [a] ta) (hs:starEach [a] X.env = [(false,eval a X.env)]:=by rfl):PI X tg (.Call (.Name "range" p) [a] [] pos) (sV ta):=by
 intro pins s σ H R I h;refine Call_ (IF I hg hm boot_range (CM (thn (ha pos pins s σ H _ I h) fun us s1 ⟨vs,H1,I1,r1,q1⟩ => ?_) hs rfl));obtain ⟨j,e,q1,q2,q⟩:=q1;subst e
 cases r1 with
 | cons r rr=>
  cases rr
  obtain ⟨t,rfl⟩:=r;exact call_range_1 (Y5 I1 (by omega) (by omega) q1 q2 (by simpa using q))
theorem dL {a b : Expr} {ta : TA} {p pos : Pos} (hg : Gl X "range") (hm : X.mg "range" = none) (ha : PA X [a, b] ta) (hs : starEach [a, b] X.env = [(false, eval a X.env), (false, eval b X.env)] := by rfl) (hs2 : starEach [b] X.env = [(false, eval b X.env)] := by rfl) :
 PI X tg (.Call (.Name "range" p) [a,b] [] pos) (sT ta):=by
 intro pins s σ H R I h;refine Call_ (IF I hg hm boot_range (CM (thn (ha pos pins s σ H _ I h) fun us s1 ⟨vs,H1,I1,r1,q1⟩ => ?_) (by rw [hs,hs2]) (by rw [hs2];rfl)));obtain ⟨i,j,e,⟨q1,q2,q3,q4⟩,q⟩:=q1;subst e
 cases r1 with
 | cons r rr=>
  cases rr with
  | cons r' rr=>
   cases rr
   obtain ⟨t,rfl⟩:=r;obtain ⟨t',rfl⟩:=r';exact call_range_2 (Y5 I1 q1 q2 q3 q4 q)
def zX(wi:TI)(g:TG)(tb:TS):TS:=fun D σ H=>wi σ H fun J H1=>∃W:Nat->Nat->St->Hp->Prop,(∃m,W 0 m σ H1)/\∀i m σ H,W i m σ H ->
 (J.stop i H/\D.nx σ H)\/(J.go i H/\∃N:St->Hp->Prop,(∀σ' H',N σ' H'->∃m',m'<m/\W (i+1) m' σ' H')/\∀x H',J.yld i H x H'->g x σ H' fun σ2 H2=>tb { D with nx:=N,ct:=N,bk:=D.nx} σ2 H2)
def SN(fp:List Addr)(h:Heap):List (Addr×Obj):=fp.filterMap fun b=>(h.get? b).map fun o=>(b,o)
theorem M7{fp:List Addr}{h:Heap}{b:Addr}{o:Obj}(hb:b ∈ fp)(e:h.get? b=some o):(b,o) ∈ SN fp h:=JH.mpr ⟨b,hb,by rw [e];rfl⟩
theorem eJ{fp:List Addr}{h:Heap}{p:Addr×Obj}(hp:p ∈ SN fp h):p.1 ∈ fp/\h.get? p.1=some p.2:=by
 obtain ⟨b,hb,e⟩:=JH.mp hp
 cases q:h.get? b with
 | none=>rw [q] at e;cases e
 | some o=>
  rw [q] at e
  have e':(b,o)=p:=BN e;subst e';exact ⟨hb,q⟩
theorem Inv.pinned{pins:List (Addr×Obj)}{σ:St}{H:Hp}{s:Shared}{fp:List Addr}(I:Inv X pins σ H s)(hf:∀b ∈ fp,LF X pins H b)(ho:∀b ∈ fp,∃o,s.heap.get? b=some o/\∀v,o.data ≠ .cell v):Inv X (pins++SN fp s.heap) σ H s:=
 I.pins_of fun p hp=>(AW.mp hp).elim (fun z=>I.pin p (AD _ z)) fun z=>by
  obtain ⟨hb,e⟩:=eJ z;obtain ⟨f0,f1,f2,_⟩:=hf p.1 hb;obtain ⟨o,e',d⟩:=ho p.1 hb;rw [e] at e';cases e'
  exact ⟨e,f0,f1,f2,d⟩
theorem Inv.unpinned{pins pl:List (Addr×Obj)}{σ:St}{H:Hp}{s:Shared}(I:Inv X (pins++pl) σ H s):Inv X pins σ H s:=I.pins_of fun p hp=>I.pin p (AD _ (E7 _ hp))
theorem v7 {iter : Expr} {body : List Stmt} {wi : TI} {g : TG} {tb : TS} {pos : Pos} (hp : PassesOwn (model X.prog X.w) X.A X.env X.xe) (hc : X.calm = true) (hi : PI X tg iter wi) (hg : PG X tg g) (hb : PSs X body tb)
 (hs:∀x,foldedSetIterable iter X.env x=pure x:=by intro _;rfl):PS X (.For tg iter body [] pos) (zX wi g tb):=by
 intro pins s σ H D I h;refine wpAny_For (thn (hi pins s σ H _ I h) fun v s1 h1=>thn h1 fun itv s2 h2=> ?_) hs;obtain ⟨it,fp,tn,J,H2,e,I2,T,st2,f2,W,⟨m0,w0⟩,turn⟩:=h2;subst e;have stat:∀ {H':Hp},(∀b ∈ fp,H' b=none)->∀b ∈ fp,LF X pins H' b:=fun hn b hb=>⟨hn b hb,(f2 b hb).2⟩;refine codeAny_forLoop_any (fun n s'=>∃i σ' H',Inv X pins σ' H' s'/\tn i s'.heap/\(∀b ∈ fp,H' b=none)/\W i n σ' H') ?_ m0 ⟨0,σ,H2,I2,st2,fun b hb=>(f2 b hb).1,w0⟩;rintro n s3 ⟨i,σ3,H3,I3,st3,fr3,w3⟩;rcases turn i n σ3 H3 w3 with ⟨stop,qn⟩ | ⟨go,N,hN,step⟩
 . refine HW hp (thn (T.done X rfl rfl rfl hc i pins s3 σ3 H3 X.xe I3 (stat fr3) st3 stop) fun r s4 ⟨hr,I4⟩ => ?_);subst hr;exact U3 ⟨σ3,H3,I4,qn⟩
 . refine HW hp (thn (T.item X rfl rfl rfl hc i pins s3 σ3 H3 X.xe I3 (stat fr3) st3 go) fun r s4 ⟨u,hr,h4⟩ => ?_);subst hr;refine HW hp (thn h4 fun _ s5 ⟨x,H5,I5,r5,y5,st5,fr5⟩ => ?_);have I5':=I5.pinned (stat fr5) (T.obj _ _ st5);refine HW hp (thn (hg _ s5 σ3 H5 x u _ I5' r5 (step x H5 y5)) fun _ s6 ⟨σ6,H6,I6,q6⟩ => ?_);refine HW hp (thn (hb _ s6 σ6 H6 _ I6 q6) fun f s7 q7=> ?_)
   have again:∀ {σ7:St} {H7:Hp},Inv X (pins++SN fp s5.heap) σ7 H7 s7->N σ7 H7->∃m,m<n/\∃i σ' H',Inv X pins σ' H' s7/\tn i s7.heap/\(∀b ∈ fp,H' b=none)/\W i m σ' H':=fun {σ7 H7} I7 n7=>by
    obtain ⟨m',hm,w7⟩:=hN σ7 H7 n7;refine ⟨m',hm,i+1,σ7,H7,I7.unpinned,T.keep _ _ _ st5 fun b hb o e=>(I7.pin (b,o) (AD _ (AD _ (M7 hb e)))).1,fun b hb=> ?_,w7⟩;obtain ⟨o,e,d⟩:=T.obj _ _ st5 b hb;exact (I7.pin (b,o) (AD _ (AD _ (M7 hb e)))).2.1
   cases f with
   | next=>obtain ⟨σ7,H7,I7,n7⟩:=q7;exact again I7 n7
   | cont=>obtain ⟨σ7,H7,I7,n7⟩:=q7;exact again I7 n7
   | brk=>obtain ⟨σ7,H7,I7,q7⟩:=q7;exact ⟨σ7,H7,I7.unpinned,q7⟩
   | ret v=>obtain ⟨x7,σ7,H7,I7,r7,q7⟩:=q7;exact ⟨x7,σ7,H7,I7.unpinned,r7,q7⟩
end
end L2
namespace L2
open PySem PySem.Spec PyProof.Rows
abbrev R2:=V->V->Hp->VK->Prop
def OpR(X:Cx)(f:Value->Value->Sem Value)(r:R2):Prop:=
 ∀(pins:List (Addr×Obj)) (s:Shared) (σ:St) (H:Hp) (x y:V) (v u:Value) (Q:VK),Inv X pins σ H s->RelV x v->RelV y u->r x y H Q ->
   wpAny (model X.prog X.w) X.A (f v u) (EP X pins σ Q) X.xe s
def UnR(X:Cx)(f:Value->Sem Value)(r:V->Hp->VK->Prop):Prop:=
 ∀(pins:List (Addr×Obj)) (s:Shared) (σ:St) (H:Hp) (x:V) (v:Value) (Q:VK),Inv X pins σ H s->RelV x v->r x H Q ->
   wpAny (model X.prog X.w) X.A (f v) (EP X pins σ Q) X.xe s
def KI(X:Cx)(f:Value)(r:List V->Hp->VK->Prop):Prop:=
 ∀(pins:List (Addr×Obj)) (s:Shared) (σ:St) (H:Hp) (xs:List V) (us:List Value) (Q:VK),Inv X pins σ H s->Vals xs us->r xs H Q ->
   wpAny (model X.prog X.w) X.A (call f us) (EP X pins σ Q) X.xe s
def A84(X:Cx)(r:V->Hp->(Bool->Hp->Prop)->Prop):Prop:=
 ∀(pins:List (Addr×Obj)) (s:Shared) (σ:St) (H:Hp) (x:V) (v:Value) (Q:Bool->Hp->Prop),Inv X pins σ H s->RelV x v->r x H Q ->
   wpAny (model X.prog X.w) X.A (truthy v) (TP X pins σ Q) X.xe s
def tOp(r:R2)(ta tb:TE):TE:=fun σ H Q=>ta σ H fun x H1=>tb σ H1 fun y H2=>r x y H2 Q
def tUn(r:V->Hp->VK->Prop)(ta:TE):TE:=fun σ H Q=>ta σ H fun x H1=>r x H1 Q
def rI(C:Int->Int->Prop)(g:Int->Int->V):R2:=fun x y H Q=>∃i j,x = .int i/\y = .int j/\C i j/\Q (g i j) H
def rI0(g:Int->Int->V):R2:=fun x y H Q=>∃i j,x = .int i/\y = .int j/\Q (g i j) H
def rU(g:Int->V):V->Hp->VK->Prop:=fun x H Q=>∃i,x = .int i/\Q (g i) H
section
variable {X:Cx} {a b c:Expr} {ta tb tc:TE} {pos:Pos}
theorem wL (ha : PE X a ta) (hb : PE X b tb) {pins : List (Addr × Obj)} {s : Shared} {σ : St} {H : Hp} {R : V -> V -> Hp -> Prop} (I : Inv X pins σ H s)
 (h:ta σ H fun x H1=>tb σ H1 fun y H2=>R x y H2) {Q:Value->Shared->Prop} {f:Value->Value->Sem Value}
 (hf:∀v u s2 x y H2,Inv X pins σ H2 s2->RelV x v->RelV y u->R x y H2->wpAny (model X.prog X.w) X.A (f v u) Q X.xe s2) :
 wpAny (model X.prog X.w) X.A (eval a X.env) (fun v s₁=>wpAny (model X.prog X.w) X.A (eval b X.env) (fun u s₂=>wpAny (model X.prog X.w) X.A (f v u) Q X.xe s₂) X.xe s₁) X.xe s:=by
 refine thn (ha pins s σ H _ I h) fun v s1 ⟨x,H1,I1,r1,q1⟩ => ?_;refine thn (hb pins s1 σ H1 _ I1 q1) fun u s2 ⟨y,H2,I2,r2,q2⟩ => ?_;exact hf v u s2 x y H2 I2 r1 r2 q2
theorem A10{op:Operator}{r:R2}(ho:OpR X (binaryOp op) r)(ha:PE X a ta)(hb:PE X b tb):PE X (.BinOp a op b pos) (tOp r ta tb):=by
 intro pins s σ H Q I h;exact wpAny_BinOp (wL ha hb I h fun v u s2 x y H2 I2 rx ry q=>ho pins s2 σ H2 x y v u Q I2 rx ry q)
theorem A23{op:UnaryOp}{r:V->Hp->VK->Prop}(ho:UnR X (unaryOp op) r)(ha:PE X a ta):PE X (.UnaryOp op a pos) (tUn r ta):=by
 intro pins s σ H Q I h;exact UnaryOp_ (thn (ha pins s σ H _ I h) fun v s1 ⟨x,H1,I1,r1,q1⟩=>ho pins s1 σ H1 x v Q I1 r1 q1)
theorem opI {f : Value -> Value -> Sem Value} {C : Int -> Int -> Prop} {g : Int -> Int -> Int}
 (rule:∀(i j:Int) (t u:Tok) (s:Shared) (Q:Value->Shared->Prop) (E:Value->Shared->Prop),C i j->Q (.int (g i j) s.toks) {s with toks:=s.toks+1}->wpAny (model X.prog X.w) X.A (f (.int i t) (.int j u)) Q E s) :
 OpR X f (rI C fun i j=> .int (g i j)):=by
 intro pins s σ H x y v u Q I rx ry h;obtain ⟨i,j,rfl,rfl,hc,q⟩:=h;obtain ⟨t,rfl⟩:=rx;obtain ⟨t',rfl⟩:=ry;exact rule i j t t' s _ _ hc ⟨.int (g i j),H,I.tok _,⟨_,rfl⟩,q⟩
theorem A12 {f : Value -> Value -> Sem Value} {g : Int -> Int -> Int}
 (rule:∀(i j:Int) (t u:Tok) (s:Shared) (Q:Value->Shared->Prop) (E:Value->Shared->Prop),Q (.int (g i j) s.toks) {s with toks:=s.toks+1}->wpAny (model X.prog X.w) X.A (f (.int i t) (.int j u)) Q E s) :
 OpR X f (rI0 fun i j=> .int (g i j)):=by
 intro pins s σ H x y v u Q I rx ry h;obtain ⟨i,j,rfl,rfl,q⟩:=h;obtain ⟨t,rfl⟩:=rx;obtain ⟨t',rfl⟩:=ry;exact rule i j t t' s _ _ ⟨.int (g i j),H,I.tok _,⟨_,rfl⟩,q⟩
theorem A21 {f : Value -> Value -> Sem Value} {g : Int -> Int -> Bool}
 (rule:∀(i j:Int) (t u:Tok) (s:Shared) (Q:Value->Shared->Prop) (E:Value->Shared->Prop),Q (.bool (g i j)) s->wpAny (model X.prog X.w) X.A (f (.int i t) (.int j u)) Q E s) :
 OpR X f (rI0 fun i j=> .bl (g i j)):=by
 intro pins s σ H x y v u Q I rx ry h;obtain ⟨i,j,rfl,rfl,q⟩:=h;obtain ⟨t,rfl⟩:=rx;obtain ⟨t',rfl⟩:=ry;exact rule i j t t' s _ _ ⟨.bl (g i j),H,I,rfl,q⟩
def CMul(i j:Int):Prop:=(-(2 ^ 64)<i/\i<2 ^ 64)\/(-(2 ^ 64)<j/\j<2 ^ 64)
theorem CMul.ok{i j:Int}(h:CMul i j):IntMulOk i j:=by
 rcases h with ⟨h1,h2⟩ | ⟨h1,h2⟩
 . exact .of_left (intBits_le_64 h1 h2)
 . exact .of_right (intBits_le_64 h1 h2)
theorem xR:OpR X (binaryOp .Add) (rI0 fun i j=> .int (i+j)):=A12 fun _ _ _ _ _ _ _ q=>add_int q
theorem vE:OpR X (binaryOp .Sub) (rI0 fun i j=> .int (i - j)):=A12 fun _ _ _ _ _ _ _ q=>sub_int q
theorem rT:OpR X (binaryOp .Mod) (rI (fun _ j=>j≠0) fun i j=> .int (i.fmod j)):=opI fun _ _ _ _ _ _ _ hc q=>mod_int' hc q
theorem unI {f : Value -> Sem Value} {g : Int -> Int}
 (rule:∀(i:Int) (t:Tok) (s:Shared) (Q:Value->Shared->Prop) (E:Value->Shared->Prop),Q (.int (g i) s.toks) {s with toks:=s.toks+1}->wpAny (model X.prog X.w) X.A (f (.int i t)) Q E s) :
 UnR X f (rU fun i=> .int (g i)):=by
 intro pins s σ H x v Q I rx h;obtain ⟨i,rfl,q⟩:=h;obtain ⟨t,rfl⟩:=rx;exact rule i t s _ _ ⟨.int (g i),H,I.tok _,⟨_,rfl⟩,q⟩
theorem xE:UnR X (unaryOp .USub) (rU fun i=> .int (-i)):=unI fun _ _ _ _ _ q=>neg_int q
end
section
variable {X:Cx} {a b c:Expr} {ta tb tc:TE} {pos:Pos}
theorem wA{pins:List (Addr×Obj)}{σ:St}{H:Hp}{s:Shared}{Q:VK}{k k':Bool}(I:Inv X pins σ H s)(q:Q (.bl k) H)(e:k=k'):EP X pins σ Q (.bool k') s:=by
 subst e;exact ⟨.bl k,H,I,rfl,q⟩
theorem A43:OpR X (compareOp .Lt) (rI0 fun i j=> .bl (decide (i<j))):=A21 fun _ _ _ _ _ _ _ q=>lt_int q
theorem tU:OpR X (compareOp .Gt) (rI0 fun i j=> .bl (decide (j<i))):=A21 fun _ _ _ _ _ _ _ q=>gt_int q
theorem yH:OpR X (compareOp .Is) (fun x y H Q=>y = .non/\Q (.bl (decide (x = .non))) H):=by
 intro pins s σ H x y v u Q I rx ry h;obtain ⟨rfl,q⟩:=h
 cases ry
 refine is_none_gen (wA I q ?_)
 cases x <;> first
  | (cases rx;rfl)
  | (obtain ⟨t,rfl⟩:=rx;rfl)
theorem OpR.or{f:Value->Value->Sem Value}{r r':R2}(h:OpR X f r)(h':OpR X f r'):OpR X f (fun x y H Q=>r x y H Q\/r' x y H Q):=by
 intro pins s σ H x y v u Q I rx ry q;rcases q with q | q
 . exact h pins s σ H x y v u Q I rx ry q
 . exact h' pins s σ H x y v u Q I rx ry q
theorem OK(b:Expr){op:CmpOp}(h:op ≠ .In:=by decide)(h2:op ≠ .NotIn:=by decide):behindInMarks op b=false:=by
 have e1:(op==CmpOp.In)=false:=by cases op <;> first | rfl | exact absurd rfl h
 have e2:(op==CmpOp.NotIn)=false:=by cases op <;> first | rfl | exact absurd rfl h2
 cases b <;> simp [behindInMarks,e1,e2]
theorem nV{op:CmpOp}{r:R2}(ho:OpR X (compareOp op) r)(ha:PE X a ta)(hb:PE X b tb)(hm:behindInMarks op b=false):PE X (.Compare a [op] [b] pos) (tOp r ta tb):=by
 intro pins s σ H Q I h;exact wpAny_Compare1 (wL ha hb I h fun v u s2 x y H2 I2 rx ry q=>ho pins s2 σ H2 x y v u Q I2 rx ry q) hm
def tX(t:TE):TT:=fun σ H Q=>t σ H fun x H'=>∃k,x = .bl k/\Q k H'
theorem oY{op:CmpOp}{r:R2}(ho:OpR X (compareOp op) r)(ha:PE X a ta)(hb:PE X b tb)(hm:behindInMarks op b=false):PT X (.Compare a [op] [b] pos) (tX (tOp r ta tb)):=by
 intro pins s σ H Q I h
 refine A98 (thn (ha pins s σ H _ I h) fun v s1 ⟨x,H1,I1,r1,q1⟩=>thn (hb pins s1 σ H1 _ I1 q1) fun u s2 ⟨y,H2,I2,r2,q2⟩ =>
  thn (ho pins s2 σ H2 x y v u _ I2 r1 r2 q2) fun c s3 ⟨z,H3,I3,r3,k,e,q3⟩ => ?_) hm
 subst e
 cases r3
 exact EU ⟨H3,I3,q3⟩
def A73(K:PySem.W.Frag)(x:V)(H:Hp)(k:Bool):Prop:=
 match x with
 | .non=>k=false
 | .bl b=>k=b
 | .int i=>k=(i != 0)
 | .str y=>y.length<=sizeLine/\k=((y.length:Int) != 0)
 | .byt y=>y.size<=sizeLine/\k=((y.size:Int) != 0)
 | .ref p=>(∃xs,SqL K H p xs/\k = !xs.isEmpty)\/(∃xs,SqT K H p xs/\k = !xs.isEmpty)\/∃kvs,H p=some (.dK kvs)/\k = !kvs.isEmpty
 | _=>False
theorem YY{κ:Type}{kvs:List (κ×V)}{vs:List (κ×Value)}(r:KV kvs vs):(!vs.isEmpty) = !kvs.isEmpty:=by
 cases r <;> rfl
theorem SB{xs:List V}{its:List Value}(r:Vals xs its):(!its.toArray.isEmpty) = !xs.isEmpty:=by
 cases r <;> simp
theorem SC:(sizeLine:Nat)<2 ^ 63:=by rw [MT];decide
theorem w4:A84 X (fun x H Q=>∃k,A73 X.K x H k/\Q k H):=by
 intro pins s σ H x v Q I rx h;obtain ⟨k,e,q⟩:=h;have hl:=SC;have hs:sizeLine=16777216:=MT
 cases x with
 | non=>
  cases rx
  have e':k=false:=e;subst e'
  exact truthy_none ⟨H,I,q⟩
 | bl b=>
  cases rx
  have e':k=b:=e;subst e'
  exact EU ⟨H,I,q⟩
 | int i=>
  obtain ⟨t,rfl⟩:=rx;have e':k=(i != 0):=e;subst e'
  exact PySem.P.truthy_int ⟨H,I,q⟩
 | str y=>
  obtain ⟨t,rfl⟩:=rx;obtain ⟨hy,e'⟩:y.length<=sizeLine/\k=((y.length:Int) != 0):=e;subst e'
  exact PySem.P.truthy_str (by omega) ⟨H,I.tok _,q⟩
 | byt y=>
  obtain ⟨t,rfl⟩:=rx;obtain ⟨hy,e'⟩:y.size<=sizeLine/\k=((y.size:Int) != 0):=e;subst e'
  exact PySem.W.truthy_bytes (by omega) ⟨H,I.tok _,q⟩
 | ref p=>
  cases rx
  have e':(∃xs,SqL X.K H p xs/\k = !xs.isEmpty)\/(∃xs,SqT X.K H p xs/\k = !xs.isEmpty)\/∃kvs,H p=some (.dK kvs)/\k = !kvs.isEmpty:=e;rcases e' with ⟨xs,hx,e'⟩ | ⟨xs,hx,e'⟩ | ⟨kvs,hx,e'⟩
  . subst e';obtain ⟨its,r,pl,hz⟩:=I.list hx;have hlen:=r.length;exact wpAny_truthy_list pl.isList (by simp only [AR];omega) ⟨H,I.tok _,by rw [SB r];exact q⟩
  . subst e';obtain ⟨its,r,pl,hz⟩:=I.tuple hx;have hlen:=r.length;exact truthy_tuple pl (by simp only [AR];omega) ⟨H,I.tok _,by rw [SB r];exact q⟩
  . subst e';obtain ⟨hz,hS,vs,r,m⟩:kvs.length<=sizeLine/\(p==sysModules)=false/\∃vs,KV kvs vs/\s.heap.DictOf (EQ X.prog X.w) p vs:=I.hok p _ hx;have hlen:kvs.length=vs.length:=IL r
    exact wpAny_truthy_dict hS m (by omega) ⟨H,I.tok _,by rw [YY r];exact q⟩
 | _=>exact (show False from e).elim
theorem ZR:OpR X (binaryOp .Add) (fun x y H Q=>∃i j,x = .str i/\y = .str j/\i.length+j.length<=sizeLine/\Q (.str (i++j)) H):=by
 intro pins s σ H x y v u Q I rx ry h;obtain ⟨i,j,rfl,rfl,hz,q⟩:=h;obtain ⟨t,rfl⟩:=rx;obtain ⟨t',rfl⟩:=ry;exact add_str (fun t' tk=>⟨.str (i++j),H,I.tok _,⟨_,rfl⟩,q⟩) hz
theorem JP{x:V}{us:List Value}(r:Vals [x] us):∃u,us = [u]/\RelV x u:=by
 cases r with
 | cons r1 r2=>cases r2;exact ⟨_,rfl,r1⟩
theorem aS{x y:V}{us:List Value}(r:Vals [x,y] us):∃u w',us = [u,w']/\RelV x u/\RelV y w':=by
 cases r with
 | cons r1 r2=>
  cases r2 with
  | cons r3 r4=>cases r4;exact ⟨_,_,rfl,r1,r3⟩
theorem UP(hc:X.calm=true):KI X (.builtin "min") (fun xs H Q=>∃i j,xs = [.int i, .int j]/\Q (.int (if j<i then j else i)) H):=by
 intro pins s σ H xs us Q I r h;obtain ⟨i,j,rfl,q⟩:=h;obtain ⟨u,w',rfl,⟨t,rfl⟩,⟨t',rfl⟩⟩:=aS r;refine min_two_ints (I.ok.hd hc) fun h' tk k=>⟨_,H,I.kept k,?_,q⟩
 by_cases hj:j<i
 . rw [AB hj,AB hj];exact ⟨_,rfl⟩
 . rw [A8 hj,A8 hj];exact ⟨_,rfl⟩
theorem fC:KI X (.type "int") (fun xs H Q=>(∃i,xs = [.int i]/\Q (.int i) H)\/∃k,xs = [.bl k]/\Q (.int (if k then 1 else 0)) H):=by
 intro pins s σ H xs us Q I r h;rcases h with ⟨i,rfl,q⟩ | ⟨k,rfl,q⟩
 . obtain ⟨u,rfl,t,rfl⟩:=JP r;exact call_int_int ⟨.int i,H,I,⟨_,rfl⟩,q⟩
 . obtain ⟨u,rfl,r1⟩:=JP r
   cases r1
   exact call_int_bool ⟨.int (if k then 1 else 0),H,I.tok _,⟨_,rfl⟩,q⟩
end
end L2
namespace L2
open PySem PySem.Spec PyProof.Rows
structure ObjM (h:Heap) (x dx C:Addr) (mA:Str->Option Value):Prop where
 obj:h.get? x=some (PySem.W.instObj C dx)
 ns:h.Ns1 dx mA
 ne:dx≠x
section
variable {prog:Program} {w:World} {A:Around} {E:Value->Shared->Prop} {s:Shared} {K:PySem.W.Frag} {x dx C f:Addr} {mA:Str->Option Value} {name:Str} {v:Value}
end
theorem RelO.some_of{v:V}{o:Option Value}(r:RelO (some v) o):∃u,o=some u/\RelV v u:=by
 cases o with
 | none=>exact (show False from r).elim
 | some u=>exact ⟨u,rfl,r⟩
section
variable {P:Program} {w:World} {H H':Hp} {h h':Heap} {a C dx:Addr} {fs fs':List (Str×V)}
end
structure Cls (K:PySem.W.Frag) (C:Addr):Prop where
 pg:PySem.W.plainGet K C Str.empty=true
 hd:PySem.W.hasDictIn K C=true
 po:PySem.W.plainOver K C=true
 sa:PySem.W.findIn K (.ref C) "__setattr__" = some (some (.builtin "object.__setattr__"))
structure Con (K:PySem.W.Frag) (C:Addr) (f:Str) (v:V) (u:Value):Prop where
 at_:PySem.W.findIn K (.ref C) f=some (some u)
 rel:RelV v u
 get:PySem.W.specialIn K u "__get__" = some none
 cp:PySem.W.copiedNames.contains f=false
structure Meth (K:PySem.W.Frag) (C:Addr) (m:Str) (f:Addr):Prop where
 at_:PySem.W.findIn K (.ref C) m=some (some (.ref f))
 fn:PySem.W.isFn K (.ref f)=true
 kp:PySem.W.keepIn K (.ref f)=true
section
variable {X:Cx} {pins:List (Addr×Obj)} {σ:St} {H:Hp} {s:Shared} {a C dx:Addr} {fs:List (Str×V)} {f:Str} {v:V} {A:Around} {E:Value->Shared->Prop}
end
section
variable {X:Cx} {o e value:Expr} {f:Str} {pos pos' tpos:Pos} {ta tv:TE}
end
section
variable {X:Cx} {pins:List (Addr×Obj)} {σ:St} {H:Hp} {s:Shared} {A:Around} {E:Value->Shared->Prop} {Q:Value->Shared->Prop} {c:Value} {b:Bool}
inductive TyOf (K:PySem.W.Frag) (H:Hp):V->Value->Prop where
 | non:TyOf K H .non (.type "NoneType")
 | bl (x:Bool):TyOf K H (.bl x) (.type "bool")
 | int (i:Int):TyOf K H (.int i) (.type "int")
 | str (x:Str):TyOf K H (.str x) (.type "str")
 | flt (x:UInt64):TyOf K H (.flt x) (.type "float")
 | lst {a:Addr} {xs:List V} (e:H a=some (.lst xs)):TyOf K H (.ref a) (.type "list")
 | frz {a:Addr} {o:Obj} {xs:List V} (e:H a=some (.frz o (.lst xs))):TyOf K H (.ref a) (.type "list")
 | tup {a:Addr} {xs:List V} (e:H a=some (.tup xs)):TyOf K H (.ref a) (.type "tuple")
 | dK {a:Addr} {kvs:List (Key×V)} (e:H a=some (.dK kvs)):TyOf K H (.ref a) (.type "dict")
 | dT {a:Addr} {kvs:List (List Key×V)} (e:H a=some (.dT kvs)):TyOf K H (.ref a) (.type "dict")
 | ins {a C dx : Addr} {fs : List (Str × V)} (e : H a = some (.ins C dx fs)) (cl : Cls K C) (ha : PySem.W.findIn K (.ref C) "__class__" = some (some (.builtin "object.__class__")))
  (hn:PySem.W.specialIn K (.builtin "object.__class__") "__get__" = some (some (.builtin "getset_descriptor.__get__"))) (htk:PySem.W.takesIn K (.builtin "object.__class__")=some true)
  (hm:PySem.W.mroIn K C (.type "object")=some true):TyOf K H (.ref a) (.ref C)
end
end L2
namespace L2
open PySem PySem.Spec PyProof.Rows
structure Room (k:Nat) (A:Around):Prop where
 hd:A.handled=none
 dp:A.depth+3*k+5<recursionLimit
 un:A.units+16*k+200<cLine
theorem Room.mono{j k:Nat}{A:Around}(r:Room k A)(h:j<=k):Room j A:=⟨r.hd,by have:=r.dp;omega,by have:=r.un;omega⟩
theorem Room.deeper{k:Nat}{A:Around}(r:Room (k+1) A)(env:Env):Room k (A.deeper env) :=
 ⟨r.hd,by have:=r.dp;show A.depth+1+3*k+5<_;omega,by have:=r.un;show A.units+3+16*k+200<_;omega⟩
theorem Room.in1{k:Nat}{A:Around}(r:Room (k+1) A):Room k A.in1:=
 ⟨r.hd,by have:=r.dp;show A.depth+3*k+5<_;omega,by have:=r.un;show A.units+1+16*k+200<_;omega⟩
theorem Room.depth{k:Nat}{A:Around}(r:Room k A):A.depth<recursionLimit:=by have:=r.dp;omega
theorem Room.units{k:Nat}{A:Around}(r:Room k A):A.units+64<cLine:=by have:=r.un;omega
def tNil:TA:=fun _ H Q=>Q [] H
def NT(ta:TE)(tr:TA):TA:=fun σ H Q=>ta σ H fun x H1=>tr σ H1 fun xs H2=>Q (x::xs) H2
section
variable {X:Cx} {e:Expr} {es:List Expr} {te:TE} {t:TA} {pos:Pos}
theorem ON:PA X [] tNil:=fun _ _ _ _ H Q I h=>LH ⟨[],H,I, .nil,h⟩
theorem L4(ha:PE X e te)(hr:PA X es t)(hs:starEach (e::es) X.env=(false,eval e X.env)::starEach es X.env:=by rfl):PA X (e::es) (NT te t):=by
 intro pos pins s σ H Q I h;rw [hs];show wpAny _ _ (spliced ((false,eval e X.env)::backTo pos (starEach es X.env))) _ _ s;refine HS (thn (ha pins s σ H _ I h) fun u s1 ⟨x,H1,I1,r1,q1⟩ => ?_);exact thn (hr pos pins s1 σ H1 _ I1 q1) fun us s2 ⟨xs,H2,I2,r2,q2⟩=>⟨x::xs,H2,I2, .cons r1 r2,q2⟩
def A46(t:TA):TE:=fun σ H Q=>t σ H fun xs H1=>xs.length<=sizeLine/\∀p,H1 p=none->Q (.ref p) (upd H1 p (.tup xs))
def zZ(t:TA):TE:=fun σ H Q=>t σ H fun xs H1=>xs.length<=sizeLine/\∀p,H1 p=none->Q (.ref p) (upd H1 p (.lst xs))
theorem uS{x1}(h:PA X es t):PE X (.Tuple es x1 pos) (A46 t):=by
 intro pins s σ H Q I hq;refine wpAny_Tuple_spliced (thn (h pos pins s σ H _ I hq) fun us s1 ⟨xs,H1,I1,r,z,q⟩=>⟨by rw [<-r.length];exact z,?_⟩);have hf:H1 s1.heap.objs.size=none:=I1.hok.fresh (A9 _);refine ⟨.ref s1.heap.objs.size,upd H1 s1.heap.objs.size (.tup xs),I1.laid (t':=s1.toks) (fun b u e=>A1 _ e) (A9 _) ?_,rfl,q _ hf⟩;exact ⟨z,us,r,⟨_,AG _ rfl,rfl,_,rfl⟩⟩
theorem yG(h:PA X es t):PE X (.List es pos) (zZ t):=by
 intro pins s σ H Q I hq;refine wpAny_List_spliced (thn (h pos pins s σ H _ I hq) fun us s1 ⟨xs,H1,I1,r,z,q⟩=>⟨by rw [<-r.length];exact z,?_⟩);have hf:H1 s1.heap.objs.size=none:=I1.hok.fresh (A9 _);refine ⟨.ref s1.heap.objs.size,upd H1 s1.heap.objs.size (.lst xs),I1.laid (t':=s1.toks) (fun b u e=>A1 _ e) (A9 _) ?_,rfl,q _ hf⟩;exact ⟨z,us,0,r,AG _ rfl⟩
end
abbrev Sp:=List V->Hp->VK->XK->Prop
abbrev CXT:=List Env->Hp->Shared->XK->Value->Shared->Prop
structure Env0 (P:Program) (w:World) (K:PySem.W.Frag) (mg:Str->Option Value) (base:Heap) (A:Around) (outer:List Env) (s:Shared) (H:Hp):Prop where
 frames:A.frames=some outer
 mod:Mod K mg base
 bs:∀b o,base.get? b=some o->s.heap.get? b=some o/\H b=none
 bsz:base.objs.size<=s.heap.objs.size
 funs:s.heap.FunFrames base outer
 frf:∀b ∈ frs outer,H b=none
 hok:HOk P w H s.heap
 bare:AllBare s.gens
 tb:∀p ∈ IW K,∃ps,H p=some (.tbl ps)
def CE(outer:List Env)(P:Program)(w:World)(H:Hp)(s:Shared)(Q:VK)(u:Value)(s':Shared):Prop:=
 ∃v H',s'.os=s.os/\AllBare s'.gens/\Un (frs outer) [] H H' s.heap s'.heap/\HOk P w H' s'.heap/\RelV v u/\Q v H'
def CR(CX:CXT)(outer:List Env)(P:Program)(w:World)(H:Hp)(s:Shared)(Q:VK)(E:XK)(r:Result)(s':Shared):Prop:=
 match r with
 | .ok (.ret u)=>CE outer P w H s Q u s'
 | .ok _=>False
 | .error e=>CX outer H s E e s'
structure FnOk (P:Program) (w:World) (K:PySem.W.Frag) (mg:Str->Option Value) (base:Heap) (CX:CXT) (k:Nat) (f:Addr) (fd:FuncData) (ps:List Str) (sp:Sp):Prop where
 len:∀vs H Q E,sp vs H Q E->vs.length=ps.length
 run:∀(A:Around) (outer:List Env) (s:Shared) (H:Hp) (args:Args) (us:List Value) (vs:List V) (Q:VK) (E:XK),Room k A->Env0 P w K mg base A outer s H->BindsTo s fd args (ps.zip us)->Vals vs us->sp vs H Q E ->
  codeAny (model P w) A (.call (.ref f) args) (CR CX outer P w H s Q E) s
theorem FnOk.imp {P : Program} {w : World} {K : PySem.W.Frag} {mg : Str -> Option Value} {base : Heap} {CX : CXT} {k : Nat} {f : Addr} {fd : FuncData} {ps : List Str} {sp sp' : Sp} (F : FnOk P w K mg base CX k f fd ps sp)
 (h:∀vs H Q E,sp' vs H Q E->sp vs H Q E):FnOk P w K mg base CX k f fd ps sp' :=
 ⟨fun vs H Q E q=>F.len vs H Q E (h _ _ _ _ q),fun A outer s H args us vs Q E hr he hb hv hs=>F.run A outer s H args us vs Q E hr he hb hv (h _ _ _ _ hs)⟩
theorem Env0.in1 {P : Program} {w : World} {K : PySem.W.Frag} {mg : Str -> Option Value} {base : Heap} {A : Around} {outer : List Env} {s : Shared} {H : Hp} (e : Env0 P w K mg base A outer s H) :
 Env0 P w K mg base A.in1 outer s H:=⟨e.frames,e.mod,e.bs,e.bsz,e.funs,e.frf,e.hok,e.bare,e.tb⟩
section
variable {X:Cx} {pins:List (Addr×Obj)} {σ:St} {H:Hp} {s s':Shared}
theorem Inv.env0(I:Inv X pins σ H s):Env0 X.prog X.w X.K X.mg X.base X.A X.stack s H:=
 ⟨I.ok.frames,I.ok.mod,I.bs,BG I.ok.bsz I.sz,I.stack,I.stkFree,I.hok,I.bare,I.tb⟩
theorem Inv.after{Q:VK}{u:Value}(I:Inv X pins σ H s)(h:CE X.stack X.prog X.w H s Q u s'):EP X pins σ Q u s':=by
 obtain ⟨v,H',os,bare,un,hok,r,q⟩:=h;obtain ⟨hh,g,d,t,os'⟩:=s';obtain rfl:os'=s.os:=os;exact ⟨v,H',I.call (h':=hh) (g':=g) (d':=d) (t':=t) (ch:= []) un hok bare (fun b z=>absurd z (by simp)),r,q⟩
end
def iL(sp:Sp)(dvs:List V)(E:XK)(t:TA):TE:=fun σ H Q=>t σ H fun vs H1=>sp (vs++dvs) H1 Q E
def Binds(K:PySem.W.Frag)(fd:FuncData)(ps:List Str)(ds:List Value):Prop:=
 ∀(s:Shared) (us:List Value),K.In s.heap->(us++ds).length=ps.length->BindsTo s fd ⟨us,[]⟩ (ps.zip (us++ds))
theorem Binds.all{K:PySem.W.Frag}{fd:FuncData}{ps:List Str}(h:∀us:List Value,us.length=ps.length->bindArgs fd ⟨us,[]⟩=pure (ps.zip us)):Binds K fd ps []:=fun s us _ hl=>by
 rw [E4] at hl ⊢
 exact .of_eq (h us hl)
def YS(CX:CXT)(X:Cx)(E:XK):Prop:=∀(pins:List (Addr×Obj)) (σ:St) (H:Hp) (s:Shared) (e:Value) (s':Shared),Inv X pins σ H s->CX X.stack H s E e s'->X.xe e s'
section
variable {X:Cx} {CX:CXT} {k:Nat} {f C:Addr} {fd:FuncData} {ps:List Str} {sp:Sp} {dvs:List V} {ds:List Value} {E:XK} {x m:Str} {p pos apos:Pos} {e o:Expr} {es:List Expr} {ta:TE} {t:TA}
theorem wU {pins : List (Addr × Obj)} {σ : St} {H : Hp} {s : Shared} {Q : VK} {us : List Value} {vs : List V} (F : FnOk X.prog X.w X.K X.mg X.base CX k f fd ps sp) (hr : Room k X.A) (hb : Binds X.K fd ps ds) (hd : Vals dvs ds) (hx : YS CX X E)
 (I:Inv X pins σ H s) (r:Vals vs us) (h:sp (vs++dvs) H Q E):wpAny (model X.prog X.w) X.A (call (.ref f) us) (EP X pins σ Q) X.xe s:=by
 have r2:Vals (vs++dvs) (us++ds):=r.append hd;have hl:(us++ds).length=ps.length:=by rw [<-r2.length];exact F.len _ _ _ _ h
 refine wpAny_call (A94 (F.run X.A X.stack s H ⟨us,[]⟩ (us++ds) (vs++dvs) Q E hr I.env0 (hb s us I.kIn hl) r2 h) fun r s' hq=> ?_)
 cases r with
 | error e=>exact hx pins σ H s e s' I hq
 | ok fl=>
  cases fl with
  | ret u=>exact I.after hq
  | next=>exact False.elim hq
  | brk=>exact False.elim hq
  | cont=>exact False.elim hq
theorem rP (F : FnOk X.prog X.w X.K X.mg X.base CX k f fd ps sp) (hr : Room k X.A) (hg : Gl X x) (hm : X.mg x = some (.ref f)) (hk : PySem.W.keepIn X.K (.ref f) = true) (hb : Binds X.K fd ps ds) (hd : Vals dvs ds) (hx : YS CX X E)
 (ha:PA X (e::es) t) (hdb:(x==("__debug__" : Str))=false:=by decide) (he:starEach (e::es) X.env=(false,eval e X.env)::starEach es X.env:=by rfl) (hpl:(backTo pos (starEach es X.env)).any (·.1)=false:=by rfl) :
 PE X (.Call (.Name x p) (e::es) [] pos) (iL sp dvs E t):=by
 intro pins s σ H Q I h;refine ED (nN I hg hm ?_ hdb);refine PySem.W.callWith_K (h₀:=X.base) I.ok.mod.kin hk (thn (ha pos pins s σ H _ I h) fun us s1 ⟨vs,H1,I1,r,q⟩=>⟨I1.kIn,?_⟩) he hpl;exact wU F hr hb hd hx I1 r q
structure Mk (K:PySem.W.Frag) (C f:Addr):Prop where
 makes:PySem.W.makesIn K C=true
 init:PySem.W.findIn K (.ref C) "__init__" = some (some (.ref f))
 fn:PySem.W.isFn K (.ref f)=true
 kp:PySem.W.keepIn K (.ref C)=true
end
def PK(X:Cx)(kws:List Keyword)(t:TA):Prop:=
 ∀(pos:Pos) (pins:List (Addr×Obj)) (s:Shared) (σ:St) (H:Hp) (Q:List V->Hp->Prop),Inv X pins σ H s->t σ H Q->wpAny (model X.prog X.w) X.A (evalAll ((backToKw pos (keywordEach kws X.env)).map (·.2))) (AP X pins σ Q) X.xe s
section
variable {X:Cx} {CX:CXT} {k:Nat} {f C:Addr} {fd:FuncData} {ps ks:List Str} {sp:Sp} {E:XK} {x m:Str} {p pos apos kpos:Pos} {e o:Expr} {es:List Expr} {kws:List Keyword} {te ta:TE} {t tk:TA} {nm:Option Str}
theorem lV:PK X [] tNil:=fun _ _ _ _ H Q I h=>wpAny_evalAll_nil ⟨[],H,I, .nil,h⟩
theorem bQ(ha:PE X e te)(hr:PK X kws t):PK X (⟨nm,e,kpos⟩::kws) (NT te t):=by
 intro pos pins s σ H Q I h;show wpAny _ _ (evalAll ((do let v <-eval e X.env;standAt pos;pure v)::(backToKw pos (keywordEach kws X.env)).map (·.2))) _ _ s;refine wpAny_evalAll_cons (A0 (thn (ha pins s σ H _ I h) fun u s1 ⟨x,H1,I1,r1,q1⟩=>A0 (A58 (A5 ?_))));exact thn (hr pos pins s1 σ H1 _ I1 q1) fun us s2 ⟨xs,H2,I2,r2,q2⟩=>⟨x::xs,H2,I2, .cons r1 r2,q2⟩
structure KBinds (K:PySem.W.Frag) (fd:FuncData) (ps ks:List Str) (g:List Value->List Value->List Value) (gV:List V->List V->List V):Prop where
 to:∀(s:Shared) (us ws:List Value),K.In s.heap->(g us ws).length=ps.length->BindsTo s fd ⟨us,ks.zip ws⟩ (ps.zip (g us ws))
 rel:∀ {vs:List V} {us:List Value} {zs:List V} {ws:List Value},Vals vs us->Vals zs ws->Vals (gV vs zs) (g us ws)
variable {g:List Value->List Value->List Value} {gV:List V->List V->List V}
end
structure FnScope (N P:List Str) (sc:Scope):Prop where
 kind:sc.kind = .function
 co:sc.isCoroutine=false
 gen:sc.isGenerator=false
 nd:N.Nodup
 pre:N.take P.length=P
 par:∀x ∈ P,sc.names.lookup x=some .local\/sc.names.lookup x=some .cell
 nofree:∀y ∈ sc.names,y.2 ≠ .free
theorem V2{kindOf:Str->Option NameKind}{x:Str}:∀ {binds:List (Str×Value)} {m:Str->Option Value},(∀v,(x,v) ∉ binds)->bindL kindOf binds m x=m x
 | [],_,_=>rfl
 | (n,v)::r,m,h=>by
  unfold bindL;rw [V2 fun w hw=>h w (List.mem_cons_of_mem _ hw)]
  split
  . have:x≠n:=by rintro rfl;exact h v AU
    simp [this]
  . rfl
theorem UO{kindOf:Str->Option NameKind}{x:Str}:∀ {binds:List (Str×Value)} {m:Str->Option Value},(∀v,(x,v) ∉ binds)->bindC kindOf binds m x=m x
 | [],_,_=>rfl
 | (n,v)::r,m,h=>by
  unfold bindC;rw [UO fun w hw=>h w (List.mem_cons_of_mem _ hw)]
  split
  . rfl
  . have:x≠n:=by rintro rfl;exact h v AU
    simp [this]
theorem UK {kindOf : Str -> Option NameKind} {x : Str} {v : Value} : ∀ {P : List Str} {vs : List Value} {i : Nat} {m : Str -> Option Value}, P.Nodup -> P[i]? = some x -> vs[i]? = some v -> kindOf x = some .local ->
 bindL kindOf (P.zip vs) m x=some v
 | [],_,_,_,_,h,_,_=>by simp at h
 | _::_,[],_,_,_,_,h,_=>by simp at h
 | p::P,w::vs,0,m,nd,h1,h2,hk=>by
  simp at h1 h2;subst h1;subst h2
  show bindL kindOf ((p,w)::P.zip vs) m p=_;unfold bindL;rw [V2 fun v hv=>(List.nodup_cons.mp nd).1 (List.of_mem_zip hv).1,if_pos hk]
  simp
 | p::P,w::vs,i+1,m,nd,h1,h2,hk=>by
  show bindL kindOf ((p,w)::P.zip vs) m x=_;unfold bindL;exact UK (i:=i) (List.nodup_cons.mp nd).2 (by simpa using h1) (by simpa using h2) hk
theorem U8 {kindOf : Str -> Option NameKind} {x : Str} {v : Value} : ∀ {P : List Str} {vs : List Value} {i : Nat} {m : Str -> Option Value}, P.Nodup -> P[i]? = some x -> vs[i]? = some v -> kindOf x ≠ some .local ->
 bindC kindOf (P.zip vs) m x=some v
 | [],_,_,_,_,h,_,_=>by simp at h
 | _::_,[],_,_,_,_,h,_=>by simp at h
 | p::P,w::vs,0,m,nd,h1,h2,hk=>by
  simp at h1 h2;subst h1;subst h2
  show bindC kindOf ((p,w)::P.zip vs) m p=_;unfold bindC;rw [UO fun v hv=>(List.nodup_cons.mp nd).1 (List.of_mem_zip hv).1,if_neg hk]
  simp
 | p::P,w::vs,i+1,m,nd,h1,h2,hk=>by
  show bindC kindOf ((p,w)::P.zip vs) m x=_;unfold bindC;exact U8 (i:=i) (List.nodup_cons.mp nd).2 (by simpa using h1) (by simpa using h2) hk
def start(N:List Str)(vs:List V):St:=vs.map some++List.replicate (N.length - vs.length) none
def U2(CX:CXT)(P:Program)(w:World)(K:PySem.W.Frag)(mg:Str->Option Value)(base:Heap)(N:List Str)(qual:Str)(scope:Scope)(f:Addr)(cd:Value)(A:Around)(outer:List Env)(s:Shared)(H:Hp)(E:XK):Cx where
 prog:=P
 w:=w
 K:=K
 mg:=mg
 base:=base
 A:=A.deeper (envOfC qual scope s.heap.objs.size f cd)
 N:=N
 s₀:=s
 H₀:=H
 env:=envOfC qual scope s.heap.objs.size f cd
 outer:=outer
 stack:=envOfC qual scope s.heap.objs.size f cd::outer
 ex:= []
 calm:=true
 fn:=fun _=>true
 pn:= []
 xe:=fun e s'=>wpAny (model P w) (A.deeper (envOfC qual scope s.heap.objs.size f cd)) (leaving (envOfC qual scope s.heap.objs.size f cd) e) (fun _ s''=>CX outer H s E e s'') (fun e' s''=>CX outer H s E e' s'') s'
theorem PZ{sc:Scope}{n:Nat}{x:Str}(h:sc.names.lookup x=some .cell):∃c,(cellsFrom n sc.names []).lookup x=some c:=by
 have q:=u9 sc.names n [] (.inl h);exact Option.isSome_iff_exists.mp q
theorem dM {CX : CXT} {P : Program} {w : World} {K : PySem.W.Frag} {mg : Str -> Option Value} {base : Heap} {N ps : List Str} {qual : Str} {scope : Scope} {f : Addr} {cd : Value} {A : Around} {outer : List Env} {s s1 : Shared} {H : Hp} {E : XK} {us : List Value} {vs : List V}
 (S:FnScope N ps scope) (hd:A.handled=none) (e0:Env0 P w K mg base A outer s H) (hl:vs.length=ps.length) (r:Vals vs us)
 (x:InCallC s s.heap.objs.size (bindL (envOfC qual scope s.heap.objs.size f cd).kindOf (ps.zip us) fun _=>none) (cellsFrom (s.heap.objs.size+1) scope.names []) (bindC (envOfC qual scope s.heap.objs.size f cd).kindOf (ps.zip us) fun _=>none) s1) :
 Inv (U2 CX P w K mg base N qual scope f cd A outer s H E) [] (start N vs) H s1:=by
 have hpl:ps.length<=N.length:=by have:=K0 List.length S.pre;rw [DK] at this;omega
 obtain ⟨h1,tk,rfl,hk⟩:=x.done;have noA:∀b:Addr,b ∉ (U2 CX P w K mg base N qual scope f cd A outer s H E).ex:=fun b z=>absurd (show b ∈ ([]:List Addr) from z) (by simp)
 refine ⟨⟨e0.mod,S.kind,rfl,rfl,A9 _,fun y z c h1 h2=> ?_,fun y hy=> ?_,fun y c _ h=> ?_,fun _=>hd,AA3 e0.frames, .inr ⟨rfl,rfl⟩,fun b z=>absurd z (noA b),e0.bs,e0.bsz,fun b _ _=>noA b,fun b z=>absurd z (noA b),e0.funs,e0.frf,e0.tb⟩,
  rfl,e0.bare,Un.kept hk,⟨_,x.toInCall.ns,fun i y v h1 h2 h3=> ?_⟩,fun y c h=>⟨_,x.cell y c h⟩,e0.hok.fresh (A9 _),fun y c h=> ?_,fun p hp=>absurd (show p ∈ ([]:List (Addr×Obj)) from hp) (by simp),e0.hok.kept hk,?_⟩
 . exact name_of_addr x.apart (EM h1) (EM h2)
 . have hy:scope.names.lookup y=some .cell\/scope.names.lookup y=some .free:=hy;rcases hy with hy | hy
   . exact PZ hy
   . exact absurd rfl (S.nofree _ (EM hy))
 . exact JZ (x.above y c (EM h))
 . have hi : i < vs.length := by
    unfold start at h2
    by_cases hi:i<vs.length
    . exact hi
    . rw [FP (by simpa using hi)] at h2
      rw [GH] at h2
      split at h2 <;> cases h2
   have ha:vs[i]? = some v:=by
    unfold start at h2
    rw [FV (by simpa using hi),B5] at h2
    cases e:vs[i]? with
    | none=>rw [e] at h2;cases h2
    | some a=>rw [e] at h2;cases h2;rfl
   obtain ⟨u,hu,rv⟩:=r.get ha
   have hp:ps[i]? = some y:=by
    rw [<-S.pre,List.getElem?_take_of_lt (by omega)];exact h1
   have ndP:ps.Nodup:=by rw [<-S.pre];exact S.nd.sublist (WC _ _)
   refine ⟨u,rv,?_⟩;rcases S.par y (BC hp) with k | k
   . exact .inl ⟨k,UK ndP hp hu k⟩
   . obtain ⟨c,e⟩:=PZ (n:=s.heap.objs.size+1) k;refine .inr ⟨.inl k,c,e,?_⟩;have q:=x.cell y c e;rw [U8 ndP hp hu (by show scope.names.lookup y≠_;rw [k];decide)] at q
     exact q
 . exact e0.hok.fresh (JZ (x.above y c (EM h)))
 . unfold start;show _=N.length;rw [List.length_append,List.length_map,List.length_replicate];omega
theorem sX {CX : CXT} {P : Program} {w : World} {K : PySem.W.Frag} {mg : Str -> Option Value} {base : Heap} {k : Nat} {f : Addr} {name qual : Str} {params : Arguments} {body : List Stmt} {scope : Scope} {dV kV doc pm cdv ct oc : Value} {an od : Option Addr}
 {osl:Array (Option Value)} {N ps:List Str} {sp:Sp} (lk:K.lookup f=some ⟨oc,od, .func (PySem.W.fnOf name qual params body scope dV kV doc pm an cdv ct),osl⟩) (hcd:PySem.W.codeIn K cdv qual=true) (S:FnScope N ps scope)
 (len:∀vs H Q E,sp vs H Q E->vs.length=ps.length)
 (hbody:∀(A:Around) (outer:List Env) (s:Shared) (H:Hp) (vs:List V) (Q:VK) (E:XK),Room k (A.deeper (envOfC qual scope s.heap.objs.size f cdv))->sp vs H Q E ->
  ∃t,PSs (U2 CX P w K mg base N qual scope f cdv A outer s H E) body t/\t {nx:=fun _ H'=>Q .non H',rt:=Q} (start N vs) H) :
 FnOk P w K mg base CX (k+1) f (PySem.W.fnOf name qual params body scope dV kV doc pm an cdv ct) ps sp:=by
 refine ⟨len,fun A outer s H args us vs Q E hr e0 hb r hsp=> ?_⟩;have hl:=len _ _ _ _ hsp;have KX:K.In s.heap:=e0.mod.kin.keeps fun b o e=>(e0.bs b o e).1;have lim:s.heap.NoLimit:=e0.mod.nolimit.keeps fun b o e=>(e0.bs b o e).1
 have hkind:∀y ∈ ps.zip us,scope.names.lookup y.1=some .local\/(scope.names.lookup y.1=some .cell/\((cellsFrom (s.heap.objs.size+1) scope.names []).lookup y.1).isSome=true):=fun ⟨n,v⟩ hy=>by
  rcases S.par n (A99 hy).1 with q | q
  . exact .inl q
  . exact .inr ⟨q,u9 _ _ _ (.inl q)⟩
 refine codeAny_call_function hr.depth (KX _ _ lk) rfl S.co S.gen rfl (PySem.W.codeRec_of KX hcd) (hb _ _ _ _ ?_);refine wpAny_newFunctionEnv_cells S.kind hkind fun env he s1 x=> ?_;subst he;refine ⟨lim.keeps x.toInCall.keep,codeAny_func ?_⟩;obtain ⟨t,ht,hq⟩:=hbody A outer s H vs Q E (hr.deeper _) hsp;have I:Inv (U2 CX P w K mg base N qual scope f cdv A outer s H E) [] (start N vs) H s1:=dM S hr.hd e0 hl r x;refine EC (ht [] s1 (start N vs) H _ I hq) (fun fl s' hs=> ?_) fun e s' hs=>hs
 have fin:∀ {σ':St} {H':Hp} {v:V} {u:Value},Inv (U2 CX P w K mg base N qual scope f cdv A outer s H E) [] σ' H' s'->RelV v u->Q v H'->CE outer P w H s Q u s' :=
  fun {σ' H' v u} J rv q=>⟨v,H',J.os,J.bare,J.base,J.hok,rv,q⟩
 cases fl with
 | ret u=>
  obtain ⟨v,σ',H',J,rv,q⟩:=hs
  exact fin J rv q
 | next=>
  obtain ⟨σ',H',J,q⟩:=hs
  exact fin (v:=V.non) (u:=Value.none) J rfl q
 | brk=>
  obtain ⟨_,_,_,q⟩:=hs
  exact False.elim q
 | cont=>
  obtain ⟨_,_,_,q⟩:=hs;exact False.elim q
end L2
namespace L2
open PySem PySem.Spec PyProof.Rows
section
variable {X:Cx} {x:Str} {p pos:Pos} {e:Expr} {es:List Expr} {t:TA} {id T:String} {r:List V->Hp->VK->Prop}
def tCB(r:List V->Hp->VK->Prop)(t:TA):TE:=fun σ H Q=>t σ H fun vs H1=>r vs H1 Q
theorem X5 (hc : KI X (.builtin id) r) (hg : Gl X x) (hm : X.mg x = none) (hv : bootBuiltins x = some (.builtin id)) (ha : PA X (e :: es) t) (hn : x ≠ "__name__" := by decide) (hdb : (x == ("__debug__" : Str)) = false := by decide)
 (he:starEach (e::es) X.env=(false,eval e X.env)::starEach es X.env:=by rfl) (hpl:(backTo pos (starEach es X.env)).any (·.1)=false:=by rfl):PE X (.Call (.Name x p) (e::es) [] pos) (tCB r t):=by
 intro pins s σ H Q I h;refine ED (IF I hg hm hv ?_ hn hdb);exact L5 (thn (ha pos pins s σ H _ I h) fun us s1 ⟨vs,H1,I1,r1,q1⟩=>hc pins s1 σ H1 vs us Q I1 r1 q1) he hpl
theorem fU (hc : KI X (.type T) r) (hg : Gl X x) (hm : X.mg x = none) (hv : bootBuiltins x = some (.type T)) (ha : PA X (e :: es) t) (hn : x ≠ "__name__" := by decide) (hdb : (x == ("__debug__" : Str)) = false := by decide)
 (he:starEach (e::es) X.env=(false,eval e X.env)::starEach es X.env:=by rfl) (hpl:(backTo pos (starEach es X.env)).any (·.1)=false:=by rfl):PE X (.Call (.Name x p) (e::es) [] pos) (tCB r t):=by
 intro pins s σ H Q I h;refine ED (IF I hg hm hv ?_ hn hdb);exact CM (thn (ha pos pins s σ H _ I h) fun us s1 ⟨vs,H1,I1,r1,q1⟩=>hc pins s1 σ H1 vs us Q I1 r1 q1) he hpl
end
end L2
namespace HT
open PySem PyProof.Rows
section
open PySem.SeqAt
open PySem.AutoSeq1 (wpAny_loadPart')
open PySem.MeetsSeq PySem.MeetsSeq2 PySem.MeetsSeq3
end
section
variable {prog:Program} {w:World} {A:Around} {E:Value->Shared->Prop} {s:Shared}
theorem cat_tup {t b : Addr} {vs ws : List Value} {Q : Value -> Shared -> Prop} (ht : IsTup s.heap t vs.toArray) (hb : IsTup s.heap b ws.toArray) (hv : vs ≠ [])
 (h1:ws = []->Q (.ref t) s) (h2:ws ≠ []->Q (.ref s.heap.objs.size) {s with heap:=s.heap.push {cls:= .type "tuple",data:= .seq (vs++ws).toArray} })
 (hsz:vs.length+ws.length<=sizeLine):wpAny (model prog w) A (binaryOp .Add (.ref t) (.ref b)) Q E s:=by
 obtain ⟨⟨cls,dd,data,sl⟩,ho,hc,n,hd⟩:=id ht;obtain ⟨⟨cls2,dd2,data2,sl2⟩,ho2,hc2,n2,hd2⟩:=id hb;simp only at hc hd hc2 hd2
 subst hc hd hc2 hd2;have e:vs.toArray++ws.toArray=(vs++ws).toArray:=by simp
 by_cases hw:ws = []
 . exact gK ⟨_, ho, rfl⟩ ⟨_, ho2, rfl⟩ nA A59 Q0 OO (O0 _ _)
    (tuple_addW1 t b vs.toArray ws.toArray n n2 dd dd2 sl sl2 (by simpa using hv) (by simp [hw])) ⟨ho,ho2,h1 hw⟩
 . refine gK ⟨_, ho, rfl⟩ ⟨_, ho2, rfl⟩ nA A59 Q0 OO (O0 _ _)
    (tuple_addW2 t b vs.toArray ws.toArray n n2 dd dd2 sl sl2 (by simpa using hv) (by simpa using hw) (by rw [AR,AR];exact hsz)) ⟨ho,ho2,?_⟩
   rw [e];exact h2 hw
def sIx(n d:Nat):Option Int->Nat
 | none=>d
 | some v=>if v<0 then (v+(n:Int)).toNat else min v.toNat n
theorem sIx_none(n d:Nat):sIx n d none=d:=rfl
theorem sIx_nat(n d k:Nat):sIx n d (some (k:Int))=min k n:=by
 show (if (k:Int)<0 then ((k:Int)+(n:Int)).toNat else min (k:Int).toNat n)=min k n;rw [A8 (by omega),DC]
theorem wB(n d:Nat)(hd:d<=n)(o:Option Int):sIx n d o<=n:=by
 cases o with
 | none=>exact hd
 | some v=>
  show (if v<0 then (v+(n:Int)).toNat else min v.toNat n)<=n
  by_cases hv:v<0
  . rw [AB hv];omega
  . rw [A8 hv];exact YM _ _
theorem aJ(v:Int)(n d:Nat):(if v<0 then max (v+(n:Int)) 0 else min v (n:Int))=((sIx n d (some v):Nat):Int):=by
 show (if v<0 then max (v+(n:Int)) 0 else min v (n:Int))=(((if v<0 then (v+(n:Int)).toNat else min v.toNat n):Nat):Int)
 by_cases hv:v<0
 . simp only [AB hv];omega
 . simp only [A8 hv];omega
theorem YZ(lo hi:Option Int)(n:Nat):Builtin.Slice.sliceAdjust lo hi 1 (n:Int)=(((sIx n 0 lo:Nat):Int),((sIx n n hi:Nat):Int)):=by
 have h1:¬((1:Int)<0):=by omega
 unfold Builtin.Slice.sliceAdjust;simp only [h1,if_false];refine Prod.ext ?_ ?_
 . cases lo with
   | none=>rfl
   | some v=>exact aJ v n 0
 . cases hi with
   | none=>rfl
   | some v=>exact aJ v n n
theorem aA(i j:Nat):Builtin.Slice.slicePlaces (i:Int) (j:Int) 1=j - i:=by
 unfold Builtin.Slice.slicePlaces;have h1:(1:Int)>0:=by omega
 simp only [h1,GD,Int.ediv_one]
 split <;> omega
theorem SV{v:Value}{o:Option Int}{Q:Option Int->Shared->Prop}(p:IsPart v o)(h:Q o s):wpAny (model prog w) A (Builtin.Slice.slicePartIndex v) Q E s:=by
 cases p with
 | none=>exact slicePart_none h
 | int i t=>exact slicePart_int h
theorem Q8 {sl : Addr} {vl vu : Value} {lo hi : Option Int} {n : Nat} {Q : Int × Int × Nat -> Shared -> Prop} (hs : s.heap.IsSliceOf sl vl vu .none) (pl : IsPart vl lo) (pu : IsPart vu hi)
 (h:Q (((sIx n 0 lo:Nat):Int),1,sIx n n hi - sIx n 0 lo) s):wpAny (model prog w) A (Builtin.Slice.sliceApplied (.ref sl) (pure (n:Int))) Q E s:=by
 obtain ⟨os,hos,hcs,hds⟩:=id hs;unfold Builtin.Slice.sliceApplied Builtin.Slice.sliceFields;refine wpAny_bind (wpAny_bind (wpAny_field hos hds (x:=vl) rfl (wpAny_bind (wpAny_field hos hds (x:=vu) rfl (wpAny_bind (wpAny_field hos hds (x:= .none) rfl (wpAny_pure ?_)))))));refine wpAny_bind (slicePart_none ?_);show wpAny _ _ (if ((1:Int)==0)=true then _ else _) _ _ s;rw [if_neg (by decide)];refine wpAny_bind (SV pl (wpAny_bind (SV pu (wpAny_bind (wpAny_pure ?_)))));show wpAny _ _ (match Builtin.Slice.sliceAdjust lo hi 1 (n:Int) with | (lo,hi)=>pure (lo,(1:Int),Builtin.Slice.slicePlaces lo hi 1)) _ _ s;rw [YZ lo hi n];show wpAny _ _ (pure (((sIx n 0 lo:Nat):Int),(1:Int),Builtin.Slice.slicePlaces ((sIx n 0 lo:Nat):Int) ((sIx n n hi:Nat):Int) 1)) _ _ s;rw [aA];exact wpAny_pure h
theorem iH(xs:Array Value)(i k:Nat):((List.range k).filterMap fun (m:Nat)=>xs[((i:Int)+(m:Int)*1).toNat]?).toArray=((xs.toList.drop i).take k).toArray:=by
 have e:(fun (m:Nat)=>xs[((i:Int)+(m:Int)*1).toNat]?)=fun m=>xs[i+m]? :=by
  funext m;have:((i:Int)+(m:Int)*1).toNat=i+m:=by omega
  rw [this]
 rw [e];have:=pick_run xs i k;rw [List.filterMap_map] at this
 have e2:((fun x=>xs[x]?) ∘ fun x=>i+x)=fun m=>xs[i+m]? :=rfl;rw [e2] at this
 rw [this]
theorem getItem_tuple_cut {t sl : Addr} {items : Array Value} {vl vu : Value} {lo hi : Option Int} {Q : Value -> Shared -> Prop} (ht : IsTup s.heap t items) (hs : s.heap.IsSliceOf sl vl vu .none) (pl : IsPart vl lo) (pu : IsPart vu hi)
 (hw:¬(sIx items.size 0 lo=0/\sIx items.size items.size hi=items.size))
 (h:Q (.ref s.heap.objs.size) {s with heap:=s.heap.push {cls:= .type "tuple",data:= .seq ((items.toList.drop (sIx items.size 0 lo)).take (sIx items.size items.size hi - sIx items.size 0 lo)).toArray} })
 (hsz:items.size<=sizeLine):wpAny (model prog w) A (getItem (.ref t) (.ref sl)) Q E s:=by
 have htake:sizeOk (.seq ((items.toList.drop (sIx items.size 0 lo)).take (sIx items.size items.size hi - sIx items.size 0 lo)).toArray):=by
  show ((items.toList.drop (sIx items.size 0 lo)).take (sIx items.size items.size hi - sIx items.size 0 lo)).toArray.size<=sizeLine;rw [AR,DK,FM,BO];omega
 have hj:sIx items.size items.size hi<=items.size:=wB _ _ (Nat.le_refl _) hi;obtain ⟨os,hos,hcs,hds⟩:=id hs;have hTs:s.TypeIs (.ref sl) "slice" :=⟨os,hos,hcs⟩;unfold getItem
 try with_reducible refine DU ?_
 first | refine A0 (A5 ?_) | skip
 refine A0 (wpAny_sequenceKey ht.typeIs (by decide) ?_)
 refine A0 (BU (name:=Str.ofString "__getitem__") ht.typeIs KO
  (DD KO ht.typeIs entry_tuple_getitem ?_ (args_tuple_getitem _ _)))
 show wpAny _ _ (Builtin.Tuple.tupleItemsOf (.ref t) >>= _) _ _ s;refine A0 (tupleItemsOf_ ht ?_);refine A0 (wpAny_typeOf hTs ?_);rw [AB (by decide)];refine A0 (Q8 hs pl pu ?_)
 have hno:¬((((sIx items.size 0 lo:Nat):Int)==0 && (1:Int)==1 && (sIx items.size items.size hi - sIx items.size 0 lo)==items.size)=true):=by
  intro q;rw [GI,GI] at q
  have q1:((sIx items.size 0 lo:Nat):Int)=0:=eq_of_beq q.1.1;have q2:sIx items.size items.size hi - sIx items.size 0 lo=items.size:=eq_of_beq q.2;exact hw ⟨by omega,by omega⟩
 show wpAny _ _ (if (((sIx items.size 0 lo:Nat):Int)==0 && (1:Int)==1 && (sIx items.size items.size hi - sIx items.size 0 lo)==items.size)=true then _ else _) _ _ s;rw [A8 hno,iH]
 first
  | exact A0 (m:=Builtin.Tuple.tupleExact _) (CN (A5 ⟨_,rfl,A5 h⟩) htake)
  | exact A0 (m:=Builtin.Tuple.tupleExact _) (CN (A0 (A5 (A5 ⟨_,rfl,A5 h⟩))) htake)
  | exact A0 (A0 (m:=Builtin.Tuple.tupleExact _) (CN (A5 (A5 ⟨_,rfl,A5 h⟩)) htake))
  | exact A0 (A0 (m:=Builtin.Tuple.tupleExact _) (CN (A5 ⟨_,rfl,A5 h⟩) htake))
end
end HT
namespace L2
open PySem PySem.Spec PyProof.Rows
abbrev TO:=St->Hp->(Option Int->Hp->Prop)->Prop
def PO(X:Cx)(e:Option Expr)(t:TO):Prop:=
 ∀(pins:List (Addr×Obj)) (s:Shared) (σ:St) (H:Hp) (Q:Option Int->Hp->Prop),Inv X pins σ H s->t σ H Q ->
   wpAny (model X.prog X.w) X.A (evalPart e X.env) (fun u s'=>∃o H',Inv X pins σ H' s'/\IsPart u o/\Q o H') X.xe s
def tNoPart:TO:=fun _ H Q=>Q none H
def tM(t:TE):TO:=fun σ H Q=>t σ H fun x H1=>∃i,x = .int i/\Q (some i) H1
theorem Z2{ns:List Int}:∀ {us:List Value},Vals (ns.map V.int) us->IntsAre us ns:=by
 induction ns with
 | nil=>intro us r;rw [Q1] at r;cases r;exact .nil
 | cons n ns ih=>
  intro us r;rw [B1] at r
  cases r with
  | cons r1 r2=>
   obtain ⟨t,e⟩:=r1;subst e;exact .cons n t (ih r2)
section
variable {X:Cx} {e:Expr} {te:TE} {lo hi:Option Expr} {tl th:TO} {pos p2:Pos}
theorem qU:PO X none tNoPart:=by
 intro pins s σ H Q I h;rw [evalPart_none];exact A5 ⟨none,H,I, .none,h⟩
theorem rJ(h:PE X e te):PO X (some e) (tM te):=by
 intro pins s σ H Q I hw;rw [evalPart_some];refine thn (h pins s σ H _ I hw) fun u s1 ⟨x,H1,I1,r1,q1⟩ => ?_;obtain ⟨i,rfl,q⟩:=q1;obtain ⟨t,rfl⟩:=r1;exact ⟨some i,H1,I1, .int i t,q⟩
def SlR(X:Cx)(r:V->Option Int->Option Int->Hp->VK->Prop):Prop:=
 ∀(pins:List (Addr×Obj)) (s:Shared) (σ:St) (H:Hp) (x:V) (v vl vu:Value) (lo hi:Option Int) (sl:Addr) (Q:VK),Inv X pins σ H s->RelV x v->s.heap.IsSliceOf sl vl vu .none->IsPart vl lo->IsPart vu hi->r x lo hi H Q ->
   ∃T id,typeLookup (.type T) "__getitem__" = pure (some (.builtin id))/\s.TypeIs v T/\wpAny (model X.prog X.w) X.A (getItem v (.ref sl)) (EP X pins σ Q) X.xe s
theorem SlR.or{r r':V->Option Int->Option Int->Hp->VK->Prop}(h:SlR X r)(h':SlR X r'):SlR X (fun x lo hi H Q=>r x lo hi H Q\/r' x lo hi H Q):=by
 intro pins s σ H x v vl vu lo hi sl Q I rx hs pl pu q;rcases q with q | q
 . exact h pins s σ H x v vl vu lo hi sl Q I rx hs pl pu q
 . exact h' pins s σ H x v vl vu lo hi sl Q I rx hs pl pu q
def tSl(r:V->Option Int->Option Int->Hp->VK->Prop)(te:TE)(tl th:TO):TE:=fun σ H Q=>te σ H fun x H1=>tl σ H1 fun l H2=>th σ H2 fun u H3=>r x l u H3 Q
theorem kC{r:V->Option Int->Option Int->Hp->VK->Prop}(hr:SlR X r)(he:PE X e te)(hl:PO X lo tl)(hu:PO X hi th):PE X (.Subscript e (.Slice lo hi none p2) pos) (tSl r te tl th):=by
 intro pins s σ H Q I h;refine Subscript_ (thn (he pins s σ H _ I h) fun v s1 ⟨x,H1,I1,r1,q1⟩ => ?_);refine wpAny_Slice (thn (hl pins s1 σ H1 _ I1 q1) fun vl s2 ⟨l,H2,I2,pl,q2⟩=>thn (hu pins s2 σ H2 _ I2 q2) fun vu s3 ⟨u,H3,I3,pu,q3⟩ => ?_);rw [evalPart_none];refine A5 ?_;have I4:Inv X pins σ H3 {s3 with heap:=s3.heap.push {cls:= .type "slice",data:= .fields #[vl,vu, .none]} }:=I3.kept (t':=s3.toks) fun b ob q=>A1 _ q;obtain ⟨T,id,hT,ht,hg⟩:=hr pins {s3 with heap:=s3.heap.push {cls:= .type "slice",data:= .fields #[vl,vu, .none]} } σ H3 x v vl vu l u s3.heap.objs.size Q I4 r1 (Heap.IsSliceOf.new ..) pl pu q3;show wpAny (model X.prog X.w) X.A (subscriptTail e (.Slice lo hi none p2) v (.ref s3.heap.objs.size)) (EP X pins σ Q) X.xe {s3 with heap:=s3.heap.push {cls:= .type "slice",data:= .fields #[vl,vu, .none]} };exact tail_any (ops:= [.ref s3.heap.objs.size,v]) ht hT hg (by with_unfolding_all rfl)
def XA(xs:List V)(lo hi:Option Int):List V:=(xs.drop (HT.sIx xs.length 0 lo)).take (HT.sIx xs.length xs.length hi - HT.sIx xs.length 0 lo)
theorem QW(xs:List V)(lo hi:Option Int):(XA xs lo hi).length<=xs.length:=by
 unfold XA;rw [List.length_take,List.length_drop];omega
def zV(K:PySem.W.Frag):V->Option Int->Option Int->Hp->VK->Prop:=fun x lo hi H Q=>∃a xs,x = .ref a/\SqT K H a xs /\
 ¬(HT.sIx xs.length 0 lo=0/\HT.sIx xs.length xs.length hi=xs.length)/\∀p,H p=none->Q (.ref p) (upd H p (.tup (XA xs lo hi)))
theorem yK:SlR X (zV X.K):=by
 intro pins s σ H x v vl vu lo hi sl Q I rx hs pl pu h;obtain ⟨a,xs,rfl,hx,hw,q⟩:=h
 cases rx
 obtain ⟨its,r,ht,hz⟩:=I.tuple hx;have hlen:its.toArray.size=xs.length:=by rw [AR];exact r.length.symm
 refine ⟨"tuple",_,KO.lookup,ht.typeIs,?_⟩;refine HT.getItem_tuple_cut ht hs pl pu (by rw [hlen];exact hw) ?_ (by rw [hlen];exact hz);rw [hlen];refine ⟨.ref s.heap.objs.size,_,I.laid (t':=s.toks) (o:= .tup (XA xs lo hi)) (fun b ob q=>A1 _ q) (A9 _) ?_,rfl,q _ (I.hok.fresh (A9 _))⟩;exact ⟨BG (QW xs lo hi) hz,_,(r.drop (HT.sIx xs.length 0 lo)).take (HT.sIx xs.length xs.length hi - HT.sIx xs.length 0 lo),IsTup.new _ _⟩
def tL(K:PySem.W.Frag):R2:=fun x y H Q=>∃a b xs ys,x = .ref a/\y = .ref b/\SqT K H a xs/\SqT K H b ys/\xs ≠ []/\xs.length+ys.length<=sizeLine /\
 (ys = []->Q (.ref a) H)/\(ys ≠ []->∀p,H p=none->Q (.ref p) (upd H p (.tup (xs++ys))))
theorem Vals.nil_iff{xs:List V}{us:List Value}(r:Vals xs us):us = []↔xs = []:=by
 cases r with
 | nil=>simp
 | cons _ _=>simp
theorem qH:OpR X (binaryOp .Add) (tL X.K):=by
 intro pins s σ H x y v u Q I rx ry h;obtain ⟨a,b,xs,ys,rfl,rfl,ha,hb,hx,hz,q1,q2⟩:=h
 cases rx
 cases ry
 obtain ⟨its,r1,p1,_⟩:=I.tuple ha;obtain ⟨its2,r2,p2,_⟩:=I.tuple hb;refine HT.cat_tup p1 p2 (fun z=>hx (r1.nil_iff.mp z)) (fun z=>⟨.ref a,H,I,rfl,q1 (r2.nil_iff.mp z)⟩) (fun z=> ?_) (by rw [<-r1.length, <-r2.length];exact hz);refine ⟨.ref s.heap.objs.size,_,I.laid (t':=s.toks) (o:= .tup (xs++ys)) (fun b ob q=>A1 _ q) (A9 _) ?_,rfl,q2 (fun w=>z (r2.nil_iff.mpr w)) _ (I.hok.fresh (A9 _))⟩;exact ⟨by rw [AZ];exact hz,_,r1.append r2,IsTup.new _ _⟩
end
end L2
namespace L2
open PySem PySem.Spec PyProof.Rows
def ixN(n:Nat)(i:Int):Option Nat:=if 0<=i then (if i<n then some i.toNat else none) else if -(n:Int)<=i then some (i+n).toNat else none
def atI{α:Type}(xs:List α)(i:Int):Option α:=(ixN xs.length i).bind fun j=>xs[j]?
theorem qT{n:Nat}{i:Int}{j:Nat}(h:ixN n i=some j):seqIndex? i n=some j/\j<n /\ -(n:Int)<=i/\i<n:=by
 unfold ixN at h
 by_cases h0:0<=i
 . rw [AB h0] at h
   by_cases h1:i<n
   . rw [AB h1] at h
     have e:i.toNat=j:=BN h;exact ⟨by rw [seqIndex_of h0 h1,e],by omega,by omega,h1⟩
   . rw [A8 h1] at h;cases h
 . rw [A8 h0] at h
   by_cases h1 : -(n:Int)<=i
   . rw [AB h1] at h
     have e:(i+n).toNat=j:=BN h;exact ⟨by rw [seqIndex_neg (by omega) h1,e],by omega,h1,by omega⟩
   . rw [A8 h1] at h;cases h
theorem VT{α:Type}{xs:List α}{i:Int}{v:α}(h:atI xs i=some v):∃j,seqIndex? i xs.length=some j/\xs[j]? = some v/\j<xs.length /\ -(xs.length:Int)<=i/\i<xs.length:=by
 unfold atI at h
 cases e:ixN xs.length i with
 | none=>rw [e] at h;cases h
 | some j=>
  rw [e] at h
  obtain ⟨h1,h2,h3,h4⟩:=qT e;exact ⟨j,h1,h,h2,h3,h4⟩
def cC(b:Expr):Prop:=∀o i,subscripted b false o i=operate [o,i] (getItem o i)
def IxR(X:Cx)(r:R2):Prop:=
 ∀(value slice:Expr) (pins:List (Addr×Obj)) (s:Shared) (σ:St) (H:Hp) (x y:V) (v u:Value) (Q:VK),Inv X pins σ H s->RelV x v->RelV y u->r x y H Q ->
   subscripted slice false v u=operate [v,u] (getItem v u)->wpAny (model X.prog X.w) X.A (subscriptTail value slice v u) (EP X pins σ Q) X.xe s
def MtR(X:Cx)(id:String)(r:V->List V->Hp->VK->Prop):Prop:=
 ∀(pins:List (Addr×Obj)) (s:Shared) (σ:St) (H:Hp) (x:V) (xs:List V) (v:Value) (us:List Value) (Q:VK),Inv X pins σ H s->RelV x v->Vals xs us->r x xs H Q ->
   wpAny (model X.prog X.w) X.A (call (.builtin id) (v::us)) (EP X pins σ Q) X.xe s
section
variable {X:Cx} {a b:Expr} {ta tb:TE} {pos:Pos}
theorem IxR.or{r r':R2}(h:IxR X r)(h':IxR X r'):IxR X (fun x y H Q=>r x y H Q\/r' x y H Q):=by
 intro value slice pins s σ H x y v u Q I rx ry q hs;rcases q with q | q
 . exact h value slice pins s σ H x y v u Q I rx ry q hs
 . exact h' value slice pins s σ H x y v u Q I rx ry q hs
theorem A02{r:R2}(hr:IxR X r)(ha:PE X a ta)(hb:PE X b tb)(hs:cC b):PE X (.Subscript a b pos) (tOp r ta tb):=by
 intro pins s σ H Q I h;exact Subscript_ (wL ha hb I h fun v u s2 x y H2 I2 rx ry q=>hr a b pins s2 σ H2 x y v u Q I2 rx ry q (hs _ _))
def A50(K:PySem.W.Frag):R2:=fun x y H Q=>∃p xs i v,x = .ref p/\y = .int i/\SqL K H p xs/\atI xs i=some v/\Q v H
def A17(K:PySem.W.Frag):R2:=fun x y H Q=>∃p xs i v,x = .ref p/\y = .int i/\SqT K H p xs/\atI xs i=some v/\Q v H
def rIxS:R2:=fun x y H Q=>∃z i c,x = .str z/\y = .int i/\z.length<=sizeLine/\atI z.cps.toList i=some c/\Q (.str ⟨#[c]⟩) H
theorem sC:IxR X (A50 X.K):=by
 intro value slice pins s σ H x y v u Q I rx ry h hs;obtain ⟨p,xs,i,z,rfl,rfl,hq,he,q⟩:=h
 cases rx
 obtain ⟨t,rfl⟩:=ry;obtain ⟨its,r,pl,hz⟩:=I.list hq;obtain ⟨j,h1,h2,h3,h4,h5⟩:=VT he;obtain ⟨w,ew,rw'⟩:=r.get h2;have hl:=r.length;have hn:=SC;have fin:EP X pins σ Q w s:=⟨z,H,I,rw',q⟩
 by_cases h0:0<=i
 . have hj : i.toNat = j := by
    rw [seqIndex_of h0 h5] at h1
    exact BN h1
   exact item_listR pl.isList h0 (by omega) (by rw [hj];simpa using ew) fin hs
 . have hj : (i + (its.toArray.size : Int)).toNat = j := by
    rw [seqIndex_neg (by omega) h4] at h1
    rw [AR, <-hl];exact BN h1
   exact subscriptTail_builtinR (x:=w) pl.isList.typeIs slot_list_getitem.lookup
    (wpAny_getItem_list_neg (Q:=fun r s'=>r=w/\EP X pins σ Q r s') pl.isList (by omega) (by rw [AR] <;> omega) (by omega) (by rw [hj];simpa using ew) ⟨rfl,fin⟩) hs
theorem vR:IxR X (A17 X.K):=by
 intro value slice pins s σ H x y v u Q I rx ry h hs;obtain ⟨p,xs,i,z,rfl,rfl,hq,he,q⟩:=h
 cases rx
 obtain ⟨t,rfl⟩:=ry;obtain ⟨its,r,pl,hz⟩:=I.tuple hq;obtain ⟨j,h1,h2,h3,h4,h5⟩:=VT he;obtain ⟨w,ew,rw'⟩:=r.get h2;have hl:=r.length;have hn:=SC;have fin:EP X pins σ Q w s:=⟨z,H,I,rw',q⟩
 exact subscriptTail_builtinR (x:=w) pl.typeIs slot_tuple_getitem.lookup
  (getItem_tuple (j:=j) (Q:=fun r s'=>r=w/\EP X pins σ Q r s') pl (by omega) (by omega) (by rw [AR, <-hl];exact h1) (by simpa using ew) ⟨rfl,fin⟩) hs
theorem yR:IxR X rIxS:=by
 intro value slice pins s σ H x y v u Q I rx ry h hs;obtain ⟨z,i,c,rfl,rfl,hz,he,q⟩:=h;obtain ⟨t,rfl⟩:=rx;obtain ⟨t',rfl⟩:=ry;obtain ⟨j,h1,h2,h3,h4,h5⟩:=VT he;have hl:z.cps.toList.length=z.length:=by simp [Str.length]
 rw [hl] at h1 h4 h5
 have hn:=SC
 exact tail_any (typeIs_str s z t) slot_str_getitem.lookup (getItem_str (c:=c) (by
  have e1:decide (i < -(2 ^ 63:Int))=false:=AV (by omega);have e2:decide (i≥2 ^ 63)=false:=AV (by omega);rw [e1,e2,Bool.or_false]) (by rw [h1];simpa using h2) ⟨.str ⟨#[c]⟩,H,I.tok _,⟨_,rfl⟩,q⟩) hs
def rIx(K:PySem.W.Frag):R2:=fun x y H Q=>A50 K x y H Q\/A17 K x y H Q\/rIxS x y H Q
theorem uQ:IxR X (rIx X.K):=sC.or (vR.or yR)
theorem W6(lo hi:Option Int)(n:Nat):(sliceBounds lo hi none n).1=((HT.sIx n 0 lo:Nat):Int)/\(sliceBounds lo hi none n).2.1=((HT.sIx n n hi:Nat):Int)/\(sliceBounds lo hi none n).2.2=1:=by
 refine ⟨?_,?_,rfl⟩
 . cases lo with
   | none=>simp [sliceBounds,HT.sIx]
   | some i=>
    simp only [sliceBounds,HT.sIx,Option.getD_none,show (1:Int)>0 by decide,GD]
    by_cases h:i<0
    . simp only [h,GD] <;> omega
    . simp only [h,FD] <;> omega
 . cases hi with
   | none=>simp [sliceBounds,HT.sIx]
   | some i=>
    simp only [sliceBounds,HT.sIx,Option.getD_none,show (1:Int)>0 by decide,GD]
    by_cases h:i<0
    . simp only [h,GD] <;> omega
    . simp only [h,FD] <;> omega
theorem TZ(its:List Value)(lo hi:Option Int):slicePick its.toArray lo hi none=((its.drop (HT.sIx its.length 0 lo)).take (HT.sIx its.length its.length hi - HT.sIx its.length 0 lo)).toArray:=by
 obtain ⟨h1,h2,h3⟩:=W6 lo hi its.toArray.size;unfold slicePick;rw [h1,h2,h3];simp only [sliceRange_one,pick_run,List.size_toArray] <;> rfl
def A29(K:PySem.W.Frag):V->Option Int->Option Int->Hp->VK->Prop:=fun x lo hi H Q=>∃a xs,x = .ref a/\SqL K H a xs/\∀p,H p=none->Q (.ref p) (upd H p (.lst (XA xs lo hi)))
theorem pT:SlR X (A29 X.K):=by
 intro pins s σ H x v vl vu lo hi sl Q I rx hs pl pu h;obtain ⟨a,xs,rfl,hx,q⟩:=h
 cases rx
 obtain ⟨its,r,ht,hz⟩:=I.list hx;have hlen:=r.length;refine ⟨"list",_,slot_list_getitem.lookup,ht.isList.typeIs,?_⟩;refine wpAny_getItem_list_slice ht.isList hs pl pu .none (by simp) ?_ (by rw [AR] <;> omega);rw [TZ, <-hlen];refine ⟨.ref s.heap.objs.size,_,I.laid (t':=s.toks) (o:= .lst (XA xs lo hi)) (fun b ob q=>A1 _ q) (A9 _) ?_,rfl,q _ (I.hok.fresh (A9 _))⟩;exact ⟨BG (QW xs lo hi) hz,_,0,(r.drop (HT.sIx xs.length 0 lo)).take (HT.sIx xs.length xs.length hi - HT.sIx xs.length 0 lo),AG _ rfl⟩
theorem CT:KI X (.builtin "len") (fun xs H Q=>∃p ys,xs = [.ref p]/\(SqL X.K H p ys\/SqT X.K H p ys)/\Q (.int ys.length) H):=by
 intro pins s σ H xs us Q I r h;obtain ⟨p,ys,rfl,hq,q⟩:=h;obtain ⟨u,rfl,rx⟩:=JP r
 cases rx
 have hn:=SC;rcases hq with hq | hq
 . obtain ⟨its,r',pl,hz⟩:=I.list hq;have hlen:=r'.length;exact Calls.call_len_list pl.isList (by simp only [AR] <;> omega) ⟨.int ys.length,H,I.tok _,⟨s.toks+1,by rw [AR,hlen]⟩,q⟩
 . obtain ⟨its,r',pl,hz⟩:=I.tuple hq;have hlen:=r'.length;exact len_tuple pl (by simp only [AR] <;> omega) ⟨.int ys.length,H,I.tok _,⟨s.toks+1,by rw [AR,hlen]⟩,q⟩
theorem MD:KI X (.type "list") (fun xs H Q=>∃p ys,xs = [.ref p]/\(SqL X.K H p ys\/SqT X.K H p ys)/\∀l,H l=none->Q (.ref l) (upd H l (.lst ys))):=by
 intro pins s σ H xs us Q I r h;obtain ⟨p,ys,rfl,hq,q⟩:=h;obtain ⟨u,rfl,rx⟩:=JP r
 cases rx
 have fin : ∀ (its : List Value), Vals ys its -> ys.length <= sizeLine -> ∀ (h' : Heap) (c' : Nat), (∀ b o', s.heap.get? b = some o' -> h'.get? b = some o') ->
  h'.get? s.heap.objs.size=some {cls:= .type "list",dict:=none,data:= .seq its.toArray c',slots:= #[]}->EP X pins σ Q (.ref s.heap.objs.size) {s with heap:=h' }:=fun its r' hz h' c' kp e=>
  ⟨.ref s.heap.objs.size,_,I.laid (t':=s.toks) kp (A9 _) (show ObjOk X.prog X.w _ h' _ (.lst ys) from ⟨hz,its,c',r',e⟩),rfl,q _ (I.hok.fresh (A9 _))⟩
 rcases hq with hq | hq
 . obtain ⟨its,r',pl,hz⟩:=I.list hq;have hlen:=r'.length;obtain ⟨o,ho,hc,n,hd⟩:=pl.isList;exact call_list_seq p (.inl rfl) ho hc hd (fun h' c' kp e=>fin its r' hz h' c' kp e) (by simp only [AR] <;> omega)
 . obtain ⟨its,r',pl,hz⟩:=I.tuple hq;have hlen:=r'.length;obtain ⟨o,ho,hc,n,hd⟩:=pl;exact call_list_seq p (.inr rfl) ho hc hd (fun h' c' kp e=>fin its r' hz h' c' kp e) (by simp only [AR] <;> omega)
theorem G9:KI X (.type "tuple") (fun xs H Q=>∃p ys,xs = [.ref p]/\((SqL X.K H p ys/\∀l,H l=none->Q (.ref l) (upd H l (.tup ys)))\/(SqT X.K H p ys/\Q (.ref p) H))):=by
 intro pins s σ H xs us Q I r h;obtain ⟨p,ys,rfl,h⟩:=h;obtain ⟨u,rfl,rx⟩:=JP r
 cases rx
 rcases h with ⟨hq,q⟩ | ⟨hq,q⟩
 . obtain ⟨its,r',pl,hz⟩:=I.list hq;have hlen:=r'.length;refine call_tuple_list pl.isList (fun h' kp=> ?_) (by simp only [AR] <;> omega);have I1:Inv X pins σ H {s with heap:=h' }:=I.kept (t':=s.toks) kp
   have I2:Inv X pins σ (upd H h'.objs.size (.tup ys)) {s with heap:=h'.push {cls:= .type "tuple",data:= .seq its.toArray} } :=
    I1.laid (t':=s.toks) (fun b o e=>A1 _ e) (A9 _) (show ObjOk X.prog X.w _ _ _ (.tup ys) from ⟨hz,its,r',IsTup.new _ _⟩)
   exact ⟨.ref h'.objs.size,_,I2,rfl,q _ (I1.hok.fresh (A9 _))⟩
 . obtain ⟨its,r',pl,hz⟩:=I.tuple hq;exact call_tuple_same pl ⟨.ref p,H,I,rfl,q⟩
def tyV(K:PySem.W.Frag)(T:String)(x:V)(H:Hp):Prop:=match x with
 | .str _=>T = "str"
 | .int _=>T = "int"
 | .ref p => (T = "list" /\ ∃ xs, SqL K H p xs) \/ (T = "tuple" /\ ∃ o, K.lookup p = some o /\ o.cls = .type "tuple" /\ o.dict = none) \/
  (T = "dict" /\ ((∃kvs,H p=some (.dK kvs))\/∃kvs,H p=some (.dT kvs)))\/(T = "set" /\ ∃S n,H p=some (.set S n))
 | _=>False
theorem uT {pins : List (Addr × Obj)} {σ : St} {H : Hp} {s : Shared} {T : String} {x : V} {v : Value} (I : Inv X pins σ H s) (r : RelV x v) (ty : tyV X.K T x H) :
 s.TypeIs v T/\∀a,v = .ref a->∃ob,s.heap.get? a=some ob/\ob.dict=none:=by
 cases x with
 | str z=>
  obtain ⟨t,rfl⟩:=r
  cases (show T = "str" from ty)
  exact ⟨typeIs_str s z t,fun _ e=>nomatch e⟩
 | int i=>
  obtain ⟨t,rfl⟩:=r
  cases (show T = "int" from ty)
  exact ⟨cZ s i t,fun _ e=>nomatch e⟩
 | ref p=>
  cases r
  rcases ty with ⟨rfl,xs,hq⟩ | ⟨rfl,o,hk,hc,hd⟩ | ⟨rfl,hk⟩ | ⟨rfl,S,n,hk⟩
  . obtain ⟨its,_,pl,_⟩:=I.list hq;refine ⟨pl.isList.typeIs,fun a e=> ?_⟩
    cases e
    obtain ⟨o,n,e,c,hd,_⟩:=pl;exact ⟨o,e,hd⟩
  . refine ⟨⟨o,I.kIn p o hk,hc⟩,fun a e=> ?_⟩
    cases e
    exact ⟨o,I.kIn _ o hk,hd⟩
  . have z : ∃ o, s.heap.get? p = some o /\ o.ExactDict := by
     rcases hk with ⟨kvs,hk⟩ | ⟨kvs,hk⟩
     . obtain ⟨_,_,_,_,o,_,_,e,ex,_⟩:=I.hok p _ hk;exact ⟨o,e,ex⟩
     . obtain ⟨_,_,_,_,o,_,_,e,ex,_⟩:=I.hok p _ hk;exact ⟨o,e,ex⟩
    obtain ⟨o,e,ex⟩:=z;refine ⟨⟨o,e,ex.1⟩,fun a e2=> ?_⟩
    cases e2
    exact ⟨o,e,ex.2.1⟩
  . obtain ⟨o,_,_,_,e,ex,_⟩:=I.hok p _ hk;refine ⟨⟨o,e,ex.1⟩,fun a e2=> ?_⟩
    cases e2
    exact ⟨o,e,ex.2.1⟩
 | _=>exact False.elim ty
def tBM(K:PySem.W.Frag)(T:String)(r:V->List V->Hp->VK->Prop)(to:TE)(t:TA):TE:=fun σ H Q=>to σ H fun x H1=>tyV K T x H1/\t σ H1 fun xs H2=>r x xs H2 Q
variable {o e:Expr} {es:List Expr} {to:TE} {t:TA} {name:Str} {apos cpos:Pos} {T id:String} {r:V->List V->Hp->VK->Prop}
theorem tW (pa : PlainAttrs T) (slot : Slot T name id) (hty : typeOf (.builtin id) = pure (.type "method_descriptor")) (hm : MtR X id r) (ho : PE X o to) (ha : PA X (e :: es) t)
 (hbase:attributeBase o name X.env (eval o X.env)=eval o X.env:=by rfl)
 (hfew:((backTo cpos (starEach (e::es) X.env)).all (fun x=> !x.1) && (backToKw cpos (keywordEach [] X.env)).all (fun x=>x.1.isSome)
  && decide ((e::es).length+([]:List Keyword).length+(if ([]:List Keyword).isEmpty then 0 else 1)<30))=true:=by rfl)
 (hline:(apos.endLine==cpos.line)=true:=by rfl) (hs:starEach (e::es) X.env=(false,eval e X.env)::starEach es X.env:=by rfl) (hplain:(backTo cpos (starEach es X.env)).any (·.1)=false:=by rfl) :
 PE X (.Call (.Attribute o name apos) (e::es) [] cpos) (tBM X.K T r to t):=by
 intro pins s σ H Q I h;refine wpAny_Call_method_late hbase hfew hline rfl (thn (ho pins s σ H _ I h) fun v s1 ⟨x,H1,I1,r1,ty,q1⟩ => ?_);obtain ⟨h1,h2⟩:=uT I1 r1 ty;refine ⟨T,id,pa,slot,hty,h1,h2,?_⟩;have hA:=ha cpos pins s1 σ H1 _ I1 q1;rw [hs] at hA ⊢
 refine LI (by show (false || (backTo cpos (starEach es X.env)).any (·.1))=false;rw [hplain] <;> rfl) (AA4 ?_);exact thn hA fun us s2 ⟨vs,H2,I2,r2,q2⟩=>hm pins s2 σ H2 x vs v us Q I2 r1 r2 q2
/- xs.append(e),list.index on a module's tuple .. are MtR facts of 06m -/
end
end L2
namespace L2
open PySem PySem.Spec PyProof.Rows
def MtM(X:Cx)(id:String)(r:V->List V->Hp->VK->Prop):Prop:=
 ∀(pins:List (Addr×Obj)) (s:Shared) (σ:St) (H:Hp) (x:V) (xs:List V) (v:Value) (us:List Value) (Q:VK),Inv X pins σ H s->RelV x v->Vals xs us->r x xs H Q ->
   wpAny (model X.prog X.w) X.A (call (.builtin id) (v::us)) (EP X pins σ Q) X.xe s
theorem Vals.one:∀ {x:V} {us:List Value},Vals [x] us->∃u,us = [u]/\RelV x u
 | _,_, .cons r .nil=>⟨_,rfl,r⟩
theorem Vals.reverse{xs:List V}{us:List Value}(h:Vals xs us):Vals xs.reverse us.reverse:=by
 induction h with
 | nil=>exact .nil
 | cons r t ih=>rw [NO,NO];exact Vals.append ih (.cons r .nil)
theorem Vals.rep{xs:List V}{us:List Value}(h:Vals xs us):∀k:Nat,Vals (List.replicate k xs).flatten (List.replicate k us).flatten
 | 0=> .nil
 | k+1=>by
  rw [BV,BV,EF,EF];exact Vals.append h (Vals.rep h k)
theorem V0 (its : List Value) : ∀ (k : Nat) (acc : List Value),
 List.foldl (fun x1 x2=>x1++x2) acc.toArray (List.replicate k its.toArray)=(acc++(List.replicate k its).flatten).toArray
 | 0,acc=>by simp
 | k+1,acc=>by
  have e:acc.toArray++its.toArray=(acc++its).toArray:=by simp
  have e2:(acc++its)++(List.replicate k its).flatten=acc++(List.replicate (k+1) its).flatten:=by
   rw [BV,EF,BP]
  rw [<-e2, <-V0 its k (acc++its), <-e,BV,QK]
section
variable {X:Cx} {pins:List (Addr×Obj)} {σ:St} {H:Hp} {s:Shared} {l b:Addr} {xs ys zs:List V}
theorem Inv.lset {its its' : List Value} {n : Nat} {f : Array Value -> Array Value} {t' : Nat} (I : Inv X pins σ H s) (hH : H l = some (.lst xs))
 (e:s.heap.get? l=some {cls:= .type "list",data:= .seq its.toArray n}) (hf:f its.toArray=its'.toArray) (hv:Vals ys its') (hz:ys.length<=sizeLine) :
 Inv X pins σ (upd H l (.lst ys)) {s with heap:=s.heap.update l (Obj.mapSeq f),toks:=t' }:=by
 have q:=PySem.IsL.update e f;rw [hf] at q
 refine I.write (x:=l) (e:=l) (by rw [hH];exact trivial) (.inl rfl) (fun b' u hb hu=>(A95 s.heap (Obj.mapSeq f) (NN hb)).trans hu) ⟨_,q⟩ ?_;exact ⟨hz,its',_,hv,q⟩
theorem Inv.lnew {its : List Value} {t' : Nat} (I : Inv X pins σ H s) (hv : Vals ys its) (hz : ys.length <= sizeLine) :
 Inv X pins σ (upd H s.heap.objs.size (.lst ys)) {s with heap:=s.heap.push {cls:= .type "list",data:= .seq its.toArray},toks:=t' } :=
 I.laid (fun _ _ q=>A1 _ q) (A9 _) ⟨hz,its,0,hv,AG _ rfl⟩
theorem Inv.fresh(I:Inv X pins σ H s):H s.heap.objs.size=none:=I.hok.fresh (A9 _)
theorem Inv.lstM(I:Inv X pins σ H s)(hH:H l=some (.lst xs)):xs.length<=sizeLine/\∃(its:List Value) (n:Nat),Vals xs its/\xs.length=its.length/\s.heap.get? l=some {cls:= .type "list",data:= .seq its.toArray n}:=by
 obtain ⟨z,its,n,r,e⟩:=I.hok l _ hH;exact ⟨z,its,n,r,r.length,e⟩
theorem WZ{n:Nat}(h:n<=sizeLine):Builtin.List.listTooLong n=false:=by
 unfold Builtin.List.listTooLong;exact decide_eq_false (by omega)
end
section
variable {X:Cx}
def rAppend:V->List V->Hp->VK->Prop:=fun x vs H Q=>∃l xs y,x = .ref l/\vs = [y]/\H l=some (.lst xs)/\xs.length<sizeLine/\Q .non (upd H l (.lst (xs ++ [y])))
theorem fR:MtM X "list.append" rAppend:=by
 intro pins s σ H x vs v us Q I rx rv h;obtain ⟨l,xs,y,rfl,rfl,hH,hz,q⟩:=h
 cases rx
 obtain ⟨u,rfl,ru⟩:=rv.one;obtain ⟨z,its,n,r,hl,e⟩:=I.lstM hH;refine MP F.slot_list_append ⟨_,e,rfl⟩ F.entry_list_append (AA5 _ _) (A86 l its.toArray n u (by rw [AR];omega)) ⟨e,?_⟩;refine ⟨.non,_,I.lset (its':=its ++ [u]) hH e (by simp) (r.append (.cons ru .nil)) ?_,rfl,q⟩;rw [AZ,EV];omega
def rExtend:V->List V->Hp->VK->Prop:=fun x vs H Q=>∃l b xs zs,x = .ref l/\vs = [.ref b]/\H l=some (.lst xs)/\H b=some (.lst zs)/\xs.length+zs.length<=sizeLine/\Q .non (upd H l (.lst (xs++zs)))
theorem dE:MtM X "list.extend" rExtend:=by
 intro pins s σ H x vs v us Q I rx rv h;obtain ⟨l,b,xs,zs,rfl,rfl,hH,hB,hz,q⟩:=h
 cases rx
 obtain ⟨u,rfl,ru⟩:=rv.one
 cases ru
 obtain ⟨z,its,n,r,hl,e⟩:=I.lstM hH;obtain ⟨z2,its2,n2,r2,hl2,e2⟩:=I.lstM hB;have hsz:its.toArray.size+its2.toArray.size<=sizeLine:=by rw [AR,AR];omega
 have hlong:¬(!its.toArray.isEmpty && Builtin.List.listTooLong (its.toArray.size+its2.toArray.size))=true:=by
  rw [WZ hsz,gL];exact CF
 refine MP F.slot_list_extend ⟨_,e,rfl⟩ F.entry_list_extend (F.args_list_extend_2 _ _)
  (AutoSeq1.list_extend_list_list_0 l its.toArray n b its2.toArray n2 hlong (by rw [AR];omega) (by omega)) ⟨e,e2,?_⟩
 refine ⟨.non,_,I.lset (its':=its++its2) hH e (by simp) (r.append r2) ?_,rfl,q⟩;rw [AZ];omega
def rRep:R2:=fun x y H Q=>∃l k xs,x = .ref l/\y = .int k/\H l=some (.lst xs) /\ -(2 ^ 63)<=k/\k<2 ^ 63/\xs.length*k.toNat<=sizeLine /\
 ∀p,H p=none->Q (.ref p) (upd H p (.lst (List.replicate k.toNat xs).flatten))
theorem bS{α:Type}(xs:List α)(k:Nat):(List.replicate k xs).flatten.length=k*xs.length:=by
 induction k with
 | zero=>simp
 | succ k ih=>rw [BV,EF,AZ,ih,K3,WD]
theorem yN:OpR X (binaryOp .Mult) rRep:=by
 intro pins s σ H x y v u Q I rx ry h;obtain ⟨l,k,xs,rfl,rfl,hH,h1,h2,hz,q⟩:=h
 cases rx
 obtain ⟨t,rfl⟩:=ry;obtain ⟨z,its,n,r,hl,e⟩:=I.lstM hH;have hlen:its.toArray.size*k.toNat<=sizeLine:=by rw [AR, <-hl];exact hz
 have hcap:¬its.toArray.size*k.toNat>(2 ^ 63 - 1) / 8:=by
  have:(sizeLine:Nat)<=(2 ^ 63 - 1) / 8:=by decide
  omega
 have hfit:¬(!Builtin.List.listFitsIndex k)=true:=by
  rw [fitsIndex_both h1 h2];exact CF
 have hlong:¬Builtin.List.listTooLong (its.toArray.size*k.toNat)=true:=by
  rw [WZ hlen];exact CF
 have hnew:List.foldl (fun x1 x2=>x1++x2) #[] (List.replicate (if its.toArray.isEmpty=true then 0 else k.toNat) its.toArray)=(List.replicate k.toNat its).flatten.toArray:=by
  have f0:∀m:Nat,List.foldl (fun x1 x2=>x1++x2) #[] (List.replicate m its.toArray)=(List.replicate m its).flatten.toArray:=fun m=>by
   have:=V0 its m [];rw [LY] at this
   exact this
  rw [f0]
  cases its with
  | nil=>simp
  | cons a r'=>rw [A8 (by simp)]
 refine A54 (T:= "list") (U:= "int") (by decide) ⟨_,e,rfl⟩ (fun s'=>cZ s' k t) noFill_list_mul F.fills_int_mul U4 repeat_list F.slot_int_index.lookup
  (MP U4 (cZ s k t) F.entry_int_rmul (F.args_int_rmul_2 _ _) (int___rmul___int_list k t l its.toArray n)
   ⟨e,rfl,⟨_,e,rfl⟩,MP F.slot_list_mul ⟨_,e,rfl⟩ F.entry_list_mul (F.args_list_mul_2 _ _) (AutoListH.list___mul___list_int_3 l its.toArray n k t hfit hcap hlong) ⟨e,?_⟩⟩)
 rw [hnew];exact ⟨.ref _,_,I.lnew (t':=s.toks) (r.rep k.toNat) (by rw [bS,K5];exact hz),rfl,q _ I.fresh⟩
end
section
variable {prog:Program} {w:World} {A:Around} {E:Value->Shared->Prop} {s:Shared}
end
section
variable {X:Cx}
end
end L2
namespace Att
open PySem PySem.W PySem.Calls PyProof.Rows
theorem R6{P:Params}{h:Heap}:∀(ns:List Int) (vs:List Value),WellAll P h vs (ns.map WData.int)->IntsAre vs ns:=by
 intro ns
 induction ns with
 | nil=>
  intro vs w;rw [Q1] at w
  cases w
  exact .nil
 | cons n ns ih=>
  intro vs w;rw [B1] at w
  cases w with
  | cons a b=>
   cases a
   exact .cons _ _ (ih _ b)
theorem gD {l : OpenLaw} {n : Nat} (hn : l.most = some n) {P : Params} {h : Heap} {args : List WData} {vals : List Value}
 (hpre:l.row.toRowW.claim.pre args=true) (hwl:WellAll P h vals args) :
 ∃a vs ns,vals = [Value.ref a]/\args = [WData.list (ns.map WData.int)]/\h.get? a=some {cls:= .type "list",data:= .seq vs.toArray}/\IntsAre vs ns/\ns.length<=n:=by
 have hsh:WShape.hasAll [] args [.list .int]=true:=(pre_splitW hpre).1;have hc:l.pre.holds [] {args:=args}=true:=(pre_splitW hpre).2;obtain ⟨d,r,rfl,h1,h2⟩:=hasAllW_cons hsh;obtain rfl:=hasAllW_nil h2;obtain ⟨xs,rfl,h3⟩:=hasW_list h1;obtain ⟨ns,rfl⟩:=items_int h3
 have hlen:ns.length<=n:=by
  unfold OpenLaw.pre at hc
  have h4:(WTm.not (.lt (.lit (.int (n:Int))) (.len (.arg 0)))).holds [] {args:= [.list (ns.map .int)]}=true:=by
   have h4:=(holds_andW hc).1;rw [hn] at h4
   exact h4
  have h5:=condW_of h4 (w_not (w_lt w_lit (w_len_list (w_arg rfl))));rw [AA] at h5
  refine Nat.le_of_not_lt fun q=> ?_;have q':(n:Int)<((ns.length:Nat):Int):=by omega
  first
   | (rw [AS q'] at h5;exact absurd h5 (by decide))
   | (simp at h5;omega)
 cases hwl with
 | cons w1 w2=>
  cases w2
  cases w1 with
  | list ho hall=>exact ⟨_,_,ns,rfl,rfl,ho,R6 ns _ hall,hlen⟩
theorem eQ(l:OpenLaw)(args:List WData):l.row.toRowW.claim.post args (.bool true) args=true:=
 postW_of (r:=l.row.toRowW) (X:=(true==true))
  (show WShape.has [] (.bool true) .bool=true by first | rfl | decide | simp [WShape.has,WShape.arms,WShape.armsAll])
  (show (WTm.eq .res (.lit (.bool true))).value [] {args:=args,res:=some (.bool true),after:=args}=some (.bool (true==true)) from w_eq_bool (w_res rfl) w_lit) rfl
theorem attach_call {l : OpenLaw} {n : Nat} {q : Program} {loose : List Str} {XP : (Str -> Option Value) -> Heap -> Prop} {YP : World -> Heap -> Prop} {d : DefRec}
 (hn:l.most=some n) (hdf:d.params.defaults = [])
 (call:∀(w:World) (s₀ s₁:Shared) (mg mb:Str->Option Value) (fa:Addr) (o:Obj) (pm cd doc:Value) (a:Addr) (vs:List Value) (ns:List Int),
  Ground q loose [] XP w s₀ mg mb s₁.heap->YP w s₁.heap ->
  s₁.heap.get? fa=some o->o.data = .func (docDef d.name d.params d.body d.scope pm cd doc)->s₁.heap.CodeRec cd d.name->mg d.name=some (.ref fa) ->
  s₁.heap.get? a=some {cls:= .type "list",data:= .seq vs.toArray}->IntsAre vs ns->ns.length<=n->s₁.gens = #[] ->
  codeAny (model l.prog w) callerA (.call (.ref fa) ⟨[.ref a],[]⟩) (fun r s'=>r = .ok (.ret (.bool true))/\OldK s₁.heap s'.heap/\s'.os=s₁.os/\AllBare s'.gens) s₁) :
 WalkO q loose XP YP l.row.toRowW d [] (fun f vs=>PySem.call f vs):=by
 intro w s₀ s₁ mg mb G Y fa o pm cd doc dV kV ho hd hcd hD hmg hg args vals as hpre hlay hrd hwl hlo;obtain rfl:dV = .none:=Dflts.none hD hdf;obtain rfl:kV = .none:=Dflts.noKw hD;obtain ⟨a,vs,ns,rfl,rfl,hobj,hints,hlen⟩:=gD hn hpre hwl;refine enter_call (A94 (call w s₀ s₁ mg mb fa o pm cd doc a vs ns G Y ho (fd_plain hd) hcd hmg hobj hints hlen hg) fun r s' hq=> ?_);obtain ⟨rfl,h2,h3,h4⟩:=hq;exact ⟨.inl ⟨.bool true, .bool true,[],rfl,fun _=>rfl, .bool true,eQ l _,fun _=>⟨G0,fun _ hm=>(nomatch hm)⟩⟩,h2,h3,h4⟩
section
variable {prog:Program} {w:World} {A:Around} {E:Value->Shared->Prop} {s:Shared} {K:Frag}
end
end Att
namespace L2
open PySem PySem.Spec PyProof.Rows
theorem QG:∀ {vs:List Value} {ns:List Int},IntsAre vs ns->Vals (ns.map V.int) vs
 | _,_, .nil=> .nil
 | _,_, .cons n t h=> .cons ⟨t,rfl⟩ (QG h)
end L2
namespace L2
open PySem PySem.Spec PyProof.Rows
def KY(s:Stmt):Arguments:=match s with
 | .FunctionDef _ a _ _ _ _ _ _ _ _=>a
 | _=>{posonlyargs:= [],args:= [],vararg:=none,kwonlyargs:= [],kw_defaults:= [],kwarg:=none,defaults:= []}
def ID(s:Stmt):List Stmt:=match s with
 | .FunctionDef _ _ b _ _ _ _ _ _ _=>b
 | _=> []
def BD(s:Stmt):Scope:=match s with
 | .FunctionDef _ _ _ _ _ _ sc _ _ _=>sc
 | _=>{kind:= .function,names:= [],isGenerator:=false,isCoroutine:=false}
abbrev CX0:CXT:=fun _ _ _ _ _ _=>False
abbrev E0:XK:=fun _ _ _=>False
theorem A13{X:Cx}:YS CX0 X E0:=fun _ _ _ _ _ _ _ h=>h.elim
structure Fun (K:PySem.W.Frag) (x qual:Str) (st:Stmt) (f:Addr) (fd:FuncData):Prop where
 ex:∃(oc:Value) (od:Option Addr) (kV doc pm:Value) (an:Option Addr) (cdv ct:Value) (osl:Array (Option Value)),
  fd=PySem.W.fnOf x qual (KY st) (ID st) (BD st) .none kV doc pm an cdv ct/\K.lookup f=some ⟨oc,od, .func fd,osl⟩/\PySem.W.codeIn K cdv qual=true
 kp:PySem.W.keepIn K (.ref f)=true
section
variable {P:Program} {w:World} {K:PySem.W.Frag} {mg:Str->Option Value} {base:Heap}
theorem Fun.ok {x qual : Str} {st : Stmt} {f : Addr} {fd : FuncData} {N ps : List Str} {k : Nat} {sp : Sp} (F : Fun K x qual st f fd) (S : FnScope N ps (BD st)) (len : ∀ vs H Q E, sp vs H Q E -> vs.length = ps.length)
 (hbody:∀(cdv:Value) (A:Around) (outer:List Env) (s:Shared) (H:Hp) (vs:List V) (Q:VK) (E:XK),Room k (A.deeper (envOfC qual (BD st) s.heap.objs.size f cdv))->sp vs H Q E ->
  ∃t,PSs (U2 CX0 P w K mg base N qual (BD st) f cdv A outer s H E).nox (ID st) t/\t {nx:=fun _ H'=>Q .non H',rt:=Q} (start N vs) H):FnOk P w K mg base CX0 (k+1) f fd ps sp:=by
 obtain ⟨oc,od,kV,doc,pm,an,cdv,ct,osl,rfl,lk,hcd⟩:=F.ex;refine sX lk hcd S len fun A outer s H vs Q E hr hsp=> ?_;obtain ⟨t,h,q⟩:=hbody cdv A outer s H vs Q E hr hsp;exact ⟨t,h.nox,q⟩
theorem Fun.binds {x qual : Str} {st : Stmt} {f : Addr} {fd : FuncData} {ps : List Str} (F : Fun K x qual st f fd)
 (h:∀(kV doc pm:Value) (an:Option Addr) (cdv ct:Value) (us:List Value),us.length=ps.length->bindArgs (PySem.W.fnOf x qual (KY st) (ID st) (BD st) .none kV doc pm an cdv ct) ⟨us,[]⟩=pure (ps.zip us)):Binds K fd ps []:=by
 obtain ⟨oc,od,kV,doc,pm,an,cdv,ct,osl,rfl,lk,hcd⟩:=F.ex;exact .all (h kV doc pm an cdv ct)
theorem DM {x qual : Str} {st : Stmt} {f : Addr} {oc : Value} {od an : Option Addr} {osl : Array (Option Value)} {kV doc pm cdv ct : Value} (l : K.lookup f = some ⟨oc, od, .func (PySem.W.fnOf x qual (KY st) (ID st) (BD st) .none kV doc pm an cdv ct), osl⟩)
 (c:PySem.W.codeIn K cdv qual=true) (k:PySem.W.keepIn K (.ref f)=true):Fun K x qual st f (PySem.W.fnOf x qual (KY st) (ID st) (BD st) .none kV doc pm an cdv ct):=⟨⟨oc,od,kV,doc,pm,an,cdv,ct,osl,rfl,l,c⟩,k⟩
end
theorem Y4{A:Around}{k:Nat}(hr:Room k A):A.units+1<cLine:=Nat.lt_of_le_of_lt (Nat.add_le_add_left (by decide:1<=64) _) hr.units
section
variable {X:Cx}
end
theorem Z3{A B:Prop}(h:B):if false=true then A else B:=by
 rw [A8 CF];exact h
theorem ZK{A B:Prop}(h:A):if true=true then A else B:=by
 rw [AB rfl];exact h
def Same(H H':Hp):Prop:=∀b o,H b=some o->H' b=some o
theorem Same.refl(H:Hp):Same H H:=fun _ _ h=>h
theorem Same.trans{H H1 H2:Hp}(a:Same H H1)(b:Same H1 H2):Same H H2:=fun c o h=>b c o (a c o h)
theorem Same.free{H H':Hp}(e:Same H H'){l:Addr}(h:H' l=Option.none):H l=Option.none:=by
 cases q:H l with
 | none=>rfl
 | some o=>
  rw [e l o q] at h
  cases h
theorem Same.seq{K:PySem.W.Frag}{H H':Hp}{a:Addr}{xs:List V}(e:Same H H')(h:SqL K H a xs):SqL K H' a xs:=by
 rcases h with (h | ⟨o,h⟩) | h
 . exact .inl (.inl (e _ _ h))
 . exact .inl (.inr ⟨o,e _ _ h⟩)
 . exact .inr h
end L2
namespace L2
open PySem PySem.Spec PyProof.Rows
section
variable {κ:Type} [DecidableEq κ]
def OJ(kvs:List (κ×V))(k:κ):Option V:=(kvs.find? fun kv=>decide (kv.1=k)).map (·.2)
def R5(kvs:List (κ×V))(k:κ)(v:V):List (κ×V) :=
 if (kvs.any fun kv=>decide (kv.1=k))=true then kvs.map (fun kv=>if kv.1=k then (kv.1,v) else kv) else kvs ++ [(k,v)]
theorem P9{p:κ×V}{r:List (κ×V)}{k:κ}(e:p.1=k):OJ (p::r) k=some p.2:=by simp [OJ,JC,e]
theorem P4{p:κ×V}{r:List (κ×V)}{k:κ}(e:¬p.1=k):OJ (p::r) k=OJ r k:=by simp [OJ,JC,e]
theorem T4(k:κ):∀kvs:List (κ×V),(kvs.any fun kv=>decide (kv.1=k))=(OJ kvs k).isSome
 | []=>rfl
 | p::r=>by
  rw [LG]
  by_cases e:p.1=k
  . simp only [P9 e,AS e,Bool.true_or,A60]
  . rw [P4 e,AV e,Bool.false_or];exact T4 k r
theorem QX(kvs:List (κ×V))(k:κ)(v:V):(R5 kvs k v).length<=kvs.length+1:=by
 unfold R5
 split
 . rw [AA];omega
 . rw [AZ,B4,List.length_nil];omega
theorem RelO.isSome_eq{o:Option V}{u:Option Value}(r:RelO o u):o.isSome=u.isSome:=by
 cases o with
 | none=>cases u with
  | none=>rfl
  | some _=>exact (show False from r).elim
 | some _=>cases u with
  | none=>exact (show False from r).elim
  | some _=>rfl
theorem RelO.getD{o:Option V}{u:Option Value}{d:V}{d':Value}(r:RelO o u)(rd:RelV d d'):RelV (o.getD d) (u.getD d'):=by
 cases o with
 | none=>cases u with
  | none=>exact rd
  | some _=>exact (show False from r).elim
 | some _=>cases u with
  | none=>exact (show False from r).elim
  | some _=>exact r
theorem KV.val{kvs:List (κ×V)}{vs:List (κ×Value)}(r:KV kvs vs)(k:κ):RelO (OJ kvs k) (valueAt vs k):=by
 unfold KV at r
 induction r with
 | nil=>exact CI
 | @cons p q ps qs h t ih=>
  obtain ⟨h1,h2⟩:=h
  by_cases e:p.1=k
  . have e':q.1=k:=h1.symm.trans e;have b:valueAt (q::qs) k=some q.2:=by simp [valueAt,JC,e']
    rw [P9 e,b];exact h2
  . have e':¬q.1=k:=fun z=>e (h1.trans z);have b:valueAt (q::qs) k=valueAt qs k:=by simp [valueAt,JC,e']
    rw [P4 e,b];exact ih
theorem KV.any{kvs:List (κ×V)}{vs:List (κ×Value)}(r:KV kvs vs)(k:κ):(kvs.any fun kv=>decide (kv.1=k))=vs.any fun kv=>decide (kv.1=k):=by
 unfold KV at r
 induction r with
 | nil=>rfl
 | cons h t ih=>rw [LG,LG,ih,h.1]
theorem KV.repl {kvs : List (κ × V)} {vs : List (κ × Value)} (r : KV kvs vs) (k : κ) {y : V} {u : Value} (ry : RelV y u) :
 KV (kvs.map fun kv=>if kv.1=k then (kv.1,y) else kv) (vs.map fun kv=>if kv.1=k then (kv.1,u) else kv):=by
 unfold KV at r ⊢
 induction r with
 | nil=>exact .nil
 | @cons p q ps qs h t ih=>
  rw [B1,B1];refine .cons ?_ ih;obtain ⟨h1,h2⟩:=h
  by_cases e:p.1=k
  . rw [AB e,AB (h1.symm.trans e)];exact ⟨h1,ry⟩
  . rw [A8 e,A8 (fun z=>e (h1.trans z))];exact ⟨h1,h2⟩
theorem KV.put{kvs:List (κ×V)}{vs:List (κ×Value)}(r:KV kvs vs)(k:κ){y:V}{u:Value}(ry:RelV y u):KV (R5 kvs k y) (stored vs k u):=by
 unfold R5 stored;rw [r.any k]
 by_cases e:(vs.any fun kv=>decide (kv.1=k))=true
 . rw [AB e,AB e];exact r.repl k ry
 . rw [A8 e,A8 e];exact Paired.snoc r ⟨rfl,ry⟩
theorem KV.length{kvs:List (κ×V)}{vs:List (κ×Value)}(r:KV kvs vs):kvs.length=vs.length:=IL r
end
theorem WT{P:Program}{w:World}{k:Key}{u:Value}(r:RelV (kV k) u):(EQ P w).is k u=true:=by
 cases k with
 | inl i=>obtain ⟨t,e⟩:=(show ∃t,u=Value.int i t from r);subst e;exact XX P w i t
 | inr x=>obtain ⟨t,e⟩:=(show ∃t,u=Value.str x t from r);subst e;exact WN P w x t
theorem V5{P:Program}{w:World}:∀ {ks:List Key} {us:List Value},Vals (ks.map kV) us->ItemsAre (EQ P w) ks us
 | [],_,r=>by rw [Q1] at r;cases r;exact .nil
 | k::ks,_,r=>by
  rw [B1] at r
  cases r with
  | cons h t=>exact .cons (WT h) (V5 t)
abbrev KT (H:Hp):List (List Key×V)->List (List Key×Addr×Value)->Prop:=Paired fun p q=>p.1=q.1/\H q.2.1=some (.tup (p.1.map kV))/\RelV p.2 q.2.2
theorem KT.val{H:Hp}{kvs:List (List Key×V)}{xs:List (List Key×Addr×Value)}(r:KT H kvs xs)(k:List Key):RelO (OJ kvs k) ((atKey xs k).map (·.2)):=by
 induction r with
 | nil=>exact CI
 | @cons p q ps qs h t ih=>
  obtain ⟨h1,_,h2⟩:=h
  by_cases e:p.1=k
  . have e':q.1=k:=h1.symm.trans e;have b:atKey (q::qs) k=some q.2:=by simp [atKey,JC,e']
    rw [P9 e,b];exact h2
  . have e':¬q.1=k:=fun z=>e (h1.trans z);have b:atKey (q::qs) k=atKey qs k:=by simp [atKey,JC,e']
    rw [P4 e,b];exact ih
theorem KT.repl {H : Hp} {kvs : List (List Key × V)} {xs : List (List Key × Addr × Value)} (r : KT H kvs xs) (k : List Key) {y : V} {u : Value} (ry : RelV y u) :
 KT H (kvs.map fun kv=>if kv.1=k then (kv.1,y) else kv) (xs.map (putAt k u)):=by
 induction r with
 | nil=>exact .nil
 | @cons p q ps qs h t ih=>
  rw [List.map_cons,List.map_cons];refine .cons ?_ ih;obtain ⟨h1,h2,h3⟩:=h;unfold putAt
  by_cases e:p.1=k
  . rw [AB e,AB (h1.symm.trans e)];exact ⟨h1,h2,ry⟩
  . rw [A8 e,A8 (fun z=>e (h1.trans z))];exact ⟨h1,h2,h3⟩
theorem KT.put {H : Hp} {kvs : List (List Key × V)} {xs : List (List Key × Addr × Value)} (r : KT H kvs xs) (k : List Key) {b : Addr} {y : V} {u : Value} (hb : H b = some (.tup (k.map kV))) (ry : RelV y u) :
 KT H (R5 kvs k y) (storedH xs k b u):=by
 have e:(kvs.any fun kv=>decide (kv.1=k))=(atKey xs k).isSome:=by
  rw [T4,(r.val k).isSome_eq,A87]
 unfold R5 storedH;rw [e]
 by_cases q:(atKey xs k).isSome=true
 . rw [AB q,AB q];exact r.repl k ry
 . rw [A8 q,A8 q];exact Paired.snoc r ⟨rfl,hb,ry⟩
theorem KT.keeps{H H':Hp}{kvs:List (List Key×V)}{xs:List (List Key×Addr×Value)}(r:KT H kvs xs)(ht:∀b ys,H b=some (.tup ys)->H' b=some (.tup ys)):KT H' kvs xs:=
 Paired.mapP r fun _ _ z=>⟨z.1,ht _ _ z.2.1,z.2.2⟩
section
variable {P:Program} {w:World} {H:Hp} {h:Heap} {a:Addr}
theorem sW{u:HO}(ok:HOk P w H h)(e:Rd H a u):ObjOk P w H h a u:=e.ok ok
theorem V1{kvs:List (Key×V)}(ok:HOk P w H h)(e:Rd H a (.dK kvs)):kvs.length<=sizeLine/\(a==sysModules)=false/\∃vs,KV kvs vs/\h.DictOf (EQ P w) a vs:=
 show ObjOk P w H h a (.dK kvs) from sW ok e
theorem A32{kvs:List (Key×V)}(ok:HOk P w H h)(e:H a=some (.dK kvs)):kvs.length<=sizeLine/\(a==sysModules)=false/\∃vs,KV kvs vs/\h.DictOf (EQ P w) a vs:=V1 ok (.inl e)
theorem SR{ks:List Key}(ok:HOk P w H h)(e:H a=some (.tup (ks.map kV))):(tupleKind (EQ P w)).is h ks a:=by
 obtain ⟨_,its,r,o,h1,h2,n,h3⟩:=(show ObjOk P w H h a (.tup (ks.map kV)) from ok a _ e);exact ⟨o,its.toArray,n,h1,h2,h3,by simpa using V5 r⟩
theorem PV {kvs : List (List Key × V)} (ok : HOk P w H h) (e : Rd H a (.dT kvs)) : kvs.length <= sizeLine /\ (a == sysModules) = false /\
 ∃xs,KT H kvs xs/\h.DictOfH (tupleKind (EQ P w)) a xs:=by
 obtain ⟨z,y,xs,r,o,es,ep,h1,h2,h3,h4,h5⟩:=(show ObjOk P w H h a (.dT kvs) from sW ok e);refine ⟨z,y,xs,r,o,es,ep,h1,h2,h3,h4,fun x hx=> ?_,h5⟩
 have all:∀ {l:List (List Key×V)} {m:List (List Key×Addr×Value)},KT H l m->∀x ∈ m,(tupleKind (EQ P w)).is h x.1 x.2.1:=by
  intro l m q
  induction q with
  | nil=>intro x hx;exact nomatch hx
  | @cons p q ps qs hq t ih=>
   intro x hx;rcases AJ.mp hx with e | hx
   . subst e;exact SR ok (by rw [<-hq.1];exact hq.2.1)
   . exact ih x hx
 exact all r x hx
theorem A06 {kvs : List (List Key × V)} (ok : HOk P w H h) (e : H a = some (.dT kvs)) : kvs.length <= sizeLine /\ (a == sysModules) = false /\
 ∃xs,KT H kvs xs/\h.DictOfH (tupleKind (EQ P w)) a xs:=PV ok (.inl e)
end
def ZQ(H:Hp)(a:Addr)(y:V)(r:Option V):Prop:=
 (∃kvs k,Rd H a (.dK kvs)/\y=kV k/\r=OJ kvs k)\/∃kvs k b,Rd H a (.dT kvs)/\y = .ref b/\H b=some (.tup (k.map kV))/\r=OJ kvs k
def zR(H:Hp)(a:Addr)(y v:V)(H':Hp):Prop:=
 (∃kvs k,H a=some (.dK kvs)/\y=kV k/\kvs.length<sizeLine/\H'=upd H a (.dK (R5 kvs k v))) \/
 ∃kvs k b,H a=some (.dT kvs)/\y = .ref b/\H b=some (.tup (k.map kV))/\kvs.length<sizeLine/\H'=upd H a (.dT (R5 kvs k v))
section
variable {X:Cx} {pins:List (Addr×Obj)} {σ:St} {H:Hp} {s:Shared} {a:Addr} {y v:V} {u r:Value} {o:Option V} {A:Around} {E:Value->Shared->Prop}
theorem Inv.big(I:Inv X pins σ H s):sysModules<s.heap.objs.size:=by
 have h:mainGlobals<s.heap.objs.size:=(I.mod.glob.keeps I.bk).lt;exact uA (by decide) h
theorem dU {Q : Value -> Shared -> Prop} (hu : A.units + 1 < cLine) (I : Inv X pins σ H s) (g : ZQ H a y (some v)) (ry : RelV y u) (h : ∀ w' s', Inv X pins σ H s' -> RelV v w' -> Q w' s') :
 wpAny (model X.prog X.w) A (getItem (.ref a) u) Q E s:=by
 rcases g with ⟨kvs,k,e,ey,l⟩ | ⟨kvs,k,b,e,ey,eb,l⟩
 . subst ey;obtain ⟨z,hd,vs,rel,dd⟩:=V1 I.hok e;obtain ⟨w',hw,rw'⟩:=RelO.some_of (v:=v) (o:=valueAt vs k) (by rw [l];exact rel.val k);exact wpAny_getItem_of (WT ry) dd.mapOf hw (h w' _ (I.tok _) rw')
 . subst ey
   cases (show u=Value.ref b from ry)
   obtain ⟨z,hd,xs,rel,dd⟩:=PV I.hok e;obtain ⟨w',hw,rw'⟩:=RelO.some_of (v:=v) (o:=(atKey xs k).map (·.2)) (by rw [l];exact rel.val k);obtain ⟨p,hp,hp2⟩:=AH.mp hw;refine wpAny_getItem_heap (OP hu) (SR I.hok eb) dd hp ?_;rw [hp2];exact h w' _ (I.tok _) rw'
theorem oS {Q : Value -> Shared -> Prop} (hu : A.units + 1 < cLine) (I : Inv X pins σ H s) (g : ZQ H a y o) (ry : RelV y u) (h : ∀ s', Inv X pins σ H s' -> Q (.bool (!o.isSome)) s') :
 wpAny (model X.prog X.w) A (compareOp .NotIn u (.ref a)) Q E s:=by
 rcases g with ⟨kvs,k,e,ey,l⟩ | ⟨kvs,k,b,e,ey,eb,l⟩
 . subst ey;obtain ⟨z,hd,vs,rel,dd⟩:=V1 I.hok e;refine wpAny_notIn_of (WT ry) hd dd.mapOf ?_;rw [<-(rel.val k).isSome_eq, <-l];exact h _ (I.tok _)
 . subst ey
   cases (show u=Value.ref b from ry)
   obtain ⟨z,hd,xs,rel,dd⟩:=PV I.hok e;refine wpAny_notIn_heap (OP hu) (SR I.hok eb) hd dd ?_;have q:=(rel.val k).isSome_eq;rw [A87] at q
   rw [<-q, <-l];exact h _ (I.tok _)
theorem VS {h' : Heap} {t' : Nat} {ob : HO} (I : Inv X pins σ H s) (mu : Mut (H a)) (hs : Heap.SameBut a s.heap h') (he : ∃ q, h'.get? a = some q) (new : ObjOk X.prog X.w (upd H a ob) h' a ob) :
 Inv X pins σ (upd H a ob) {s with heap:=h',toks:=t' } :=
 I.write (x:=a) (e:=a) mu (.inl rfl) (fun b q hb z=>(hs.2 b hb).trans z) he new
theorem uW {P : Program} {w : World} {H' : Hp} {h' : Heap} {kvs : List (Key × V)} {vs : List (Key × Value)} (z : kvs.length <= sizeLine) (hd : (a == sysModules) = false) (rel : KV kvs vs) (dd : h'.DictOf (EQ P w) a vs) :
 ObjOk P w H' h' a (.dK kvs):=⟨z,hd,vs,rel,dd⟩
theorem fJ {H' : Hp} {Q : Unit -> Shared -> Prop} (hu : A.units + 1 < cLine) (I : Inv X pins σ H s) (g : zR H a y v H') (ry : RelV y u) (rv : RelV v r) (h : ∀ s', Inv X pins σ H' s' -> Q () s') :
 wpAny (model X.prog X.w) A (setItem (.ref a) u r) Q E s:=by
 rcases g with ⟨kvs,k,e,ey,l,eH⟩ | ⟨kvs,k,b,e,ey,eb,l,eH⟩
 . subst ey eH;obtain ⟨z,hd,vs,rel,dd⟩:=A32 I.hok e;have hz:vs.length<=sizeLine:=by rw [<-rel.length];exact z
   have hl:(R5 kvs k v).length<=sizeLine:=by have:=QX kvs k v;omega
   refine wpAny_setItem_pairs (hsz:=hz) (WT ry) dd fun h' dd' hs=>h _ ?_;have he:∃q,h'.get? a=some q:=let ⟨q,_,_,hq,_⟩:=dd';⟨q,hq⟩;exact VS I (by rw [e];exact CI) hs he (uW hl hd (rel.put k rv) dd')
 . subst ey eH
   cases (show u=Value.ref b from ry)
   obtain ⟨z,hd,xs,rel,dd⟩:=A06 I.hok e;have hz:xs.length<=sizeLine:=by rw [<-IL rel];exact z
   have hl:(R5 kvs k v).length<=sizeLine:=by have:=QX kvs k v;omega
   refine wpAny_setItem_heap (hsz:=hz) (OP hu) (SR I.hok eb) dd fun h' dd' hs=>h _ ?_;obtain ⟨q,es,ep,hq,h2,h3,h4,_,h5⟩:=dd';refine VS I (by rw [e];exact CI) hs ⟨q,hq⟩ ⟨hl,hd,_,(rel.put k eb rv).keeps fun c ys ec=> ?_,q,es,ep,hq,h2,h3,h4,h5⟩;rw [BE (sK ec e (fun z=>nomatch z))];exact ec
end
section
variable {X:Cx} {pins:List (Addr×Obj)} {σ:St} {H:Hp} {s:Shared} {a:Addr} {kvs:List (Key×V)} {k:Key} {u:Value} {A:Around} {E:Value->Shared->Prop}
end
def y9(i:Expr):Prop:=∀ov iv,subscripted i false ov iv=operate [ov,iv] (getItem ov iv)
theorem oR {prog : Program} {w : World} {A : Around} {E : Value -> Shared -> Prop} {s : Shared} {env : Env} {value slice : Expr} {pos : Pos} {T id : String} {Q : Value -> Shared -> Prop}
 (hl:typeLookup (.type T) "__getitem__" = pure (some (.builtin id))) (hs:y9 slice)
 (h:wpAny (model prog w) A (eval value env) (fun o s₁=>wpAny (model prog w) A (eval slice env) (fun i s₂=>s₂.TypeIs o T/\wpAny (model prog w) A (getItem o i) Q E s₂) E s₁) E s) :
 wpAny (model prog w) A (eval (.Subscript value slice pos) env) Q E s:=by
 refine Subscript_ (wpAny_mono h (fun o s₁ h₁=>wpAny_mono h₁ (fun i s₂ h₂=> ?_) fun _ _ x=>x) fun _ _ x=>x);obtain ⟨hT,h₂⟩:=h₂;unfold subscriptTail;refine wpAny_bind ?_;rw [getitemInPython_of_ne hT.not_modules];refine wpAny_bind (wpAny_specialOf hT hl ?_)
 have fin:wpAny (model prog w) A (subscripted slice false o i) (fun r s₃=>wpAny (model prog w) A (letTemporaryGo value o r >>= fun _=>pure r) Q E s₃) E s₂:=by
  rw [hs o i];exact wpAny_operating (EC h₂ (fun r s₃ h₃=>A0 (wpAny_letTemporaryGo (A5 h₃))) fun _ _ x=>x)
 first
  | exact A5 (A0 fin)
  | exact A0 (A5 (A0 fin))
  | exact A0 fin
theorem Y0{X:Cx}{pins:List (Addr×Obj)}{σ:St}{H:Hp}{s:Shared}{a:Addr}{y:V}{o:Option V}(I:Inv X pins σ H s)(g:ZQ H a y o):s.TypeIs (.ref a) "dict" :=by
 rcases g with ⟨kvs,k,e,_,_⟩ | ⟨kvs,k,b,e,_,_,_⟩
 . obtain ⟨_,_,vs,_,dd⟩:=V1 I.hok e;exact dd.typeIs
 . obtain ⟨_,_,xs,_,dd⟩:=PV I.hok e;exact dd.typeIs
def tS(td ty:TE):TE:=fun σ H Q=>td σ H fun x H1=>ty σ H1 fun y H2=>∃a v,x = .ref a/\ZQ H2 a y (some v)/\Q v H2
def cE(ty td:TE):TE:=fun σ H Q=>ty σ H fun y H1=>td σ H1 fun x H2=>∃a o,x = .ref a/\ZQ H2 a y o/\Q (.bl (!o.isSome)) H2
def tQ(td ty tv:TE):TS:=fun D σ H=>tv σ H fun v H1=>td σ H1 fun x H2=>ty σ H2 fun y H3=>∃a H4,x = .ref a/\zR H3 a y v H4/\D.nx σ H4
section
variable {X:Cx} {o i e value:Expr} {pos pos' tpos:Pos} {td ty tv:TE}
theorem oK(hu:X.A.units+1<cLine)(ho:PE X o td)(hi:PE X i ty)(hs:y9 i):PE X (.Subscript o i pos) (tS td ty):=by
 intro pins s σ H Q I h;refine oR PySem.F.slot_dict_getitem.lookup hs (thn (ho pins s σ H _ I h) fun u s1 ⟨x,H1,I1,rx,q1⟩=>thn (hi pins s1 σ H1 _ I1 q1) fun iv s2 ⟨y,H2,I2,ry,a,v,ex,g,q2⟩ => ?_);subst ex;obtain rfl:u=Value.ref a:=rx;exact ⟨Y0 I2 g,dU hu I2 g ry fun w' s3 I3 rw'=>⟨v,H2,I3,rw',q2⟩⟩
theorem dX(hu:X.A.units+1<cLine)(hi:PE X i ty)(ho:PE X o td):PC X .NotIn i o (cE ty td):=by
 intro pins s σ H Q I h;refine thn (hi pins s σ H _ I h) fun iv s1 ⟨y,H1,I1,ry,q1⟩=>thn (ho pins s1 σ H1 _ I1 q1) fun u s2 ⟨x,H2,I2,rx,a,ov,ex,g,q2⟩ => ?_;subst ex;obtain rfl:u=Value.ref a:=rx;exact oS hu I2 g ry fun s3 I3=>⟨.bl (!ov.isSome),H2,I3,rfl,q2⟩
theorem rK (hu : X.A.units + 1 < cLine) (ho : PE X o td) (hi : PE X i ty) (hv : PE X value tv) (hs : swapsWith value (some (.Subscript o i pos')) pos.line X.env = pure false) :
 PS X (.Assign [.Subscript o i pos'] value pos) (tQ td ty tv):=by
 intro pins s σ H D I h;refine wpAny_Assign_Subscript (thn (hv pins s σ H _ I h) fun r s1 ⟨v,H1,I1,rv,q1⟩=>thn (ho pins s1 σ H1 _ I1 q1) fun u s2 ⟨x,H2,I2,rx,q2⟩=>thn (hi pins s2 σ H2 _ I2 q2) fun iv s3 ⟨y,H3,I3,ry,a,H4,ex,g,q3⟩ => ?_) hs;subst ex;obtain rfl:u=Value.ref a:=rx;exact fJ hu I3 g ry rv fun s4 I4=>⟨σ,H4,I4,q3⟩
end
theorem iC{P:Program}{w:World}{H:Hp}(h:Heap)(hb:sysModules<h.objs.size):ObjOk P w H (h.push {cls:= .type "dict",data:= .dict #[]}) h.objs.size (.dT []) :=
 ⟨CK _,TN.mpr (NN (BW hb)),[], .nil,_, #[],0,AG _ rfl,⟨rfl,rfl,rfl⟩,rfl,rfl,gM⟩
def tDNewT:TE:=fun _ H Q=>∀p,H p=none->Q (.ref p) (upd H p (.dT []))
section
variable {X:Cx} {pos:Pos}
theorem jL:PE X (.Dict [] [] pos) tDNewT:=fun pins s σ H Q I h=>
 wpAny_Dict_empty ⟨.ref s.heap.objs.size,_,I.laid (a:=s.heap.objs.size) (o:= .dT []) (t':=s.toks) (fun _ _ q=>A1 _ q) (A9 _) (iC s.heap I.big),rfl,h _ (I.hok.fresh (A9 _))⟩
end
structure M1 (X:Cx) (o:Expr) (m:Str) (apos:Pos) (e:Expr) (cpos:Pos):Prop where
 base:attributeBase o m X.env (eval o X.env)=eval o X.env
 few:((backTo cpos (starEach [e] X.env)).all (fun x=> !x.1) && (backToKw cpos (keywordEach [] X.env)).all (fun x=>x.1.isSome)
  && decide (([e]:List Expr).length+([]:List Keyword).length+(if ([]:List Keyword).isEmpty then 0 else 1)<30))=true
 line:(apos.endLine==cpos.line)=true
 trees:backTo cpos (starEach [e] X.env) = [(false,eval e X.env)]
structure M2 (X:Cx) (o:Expr) (m:Str) (apos:Pos) (e f:Expr) (cpos:Pos):Prop where
 base:attributeBase o m X.env (eval o X.env)=eval o X.env
 few:((backTo cpos (starEach [e,f] X.env)).all (fun x=> !x.1) && (backToKw cpos (keywordEach [] X.env)).all (fun x=>x.1.isSome)
  && decide (([e,f]:List Expr).length+([]:List Keyword).length+(if ([]:List Keyword).isEmpty then 0 else 1)<30))=true
 line:(apos.endLine==cpos.line)=true
 trees:backTo cpos (starEach [e,f] X.env) = [(false,eval e X.env),(false,eval f X.env)]
def IsD(H:Hp)(a:Addr):Prop:=(∃kvs,Rd H a (.dK kvs))\/∃kvs,Rd H a (.dT kvs)
theorem vN {X : Cx} {pins : List (Addr × Obj)} {σ : St} {H : Hp} {s : Shared} {a : Addr} (I : Inv X pins σ H s) (d : IsD H a) :
 s.TypeIs (.ref a) "dict" /\ (∀b,Value.ref a = .ref b->∃ob,s.heap.get? b=some ob/\ob.dict=none)/\(a==sysModules)=false:=by
 rcases d with ⟨kvs,e⟩ | ⟨kvs,e⟩
 . obtain ⟨_,hd,vs,_,dd⟩:=V1 I.hok e;refine ⟨dd.typeIs,fun b q=> ?_,hd⟩
   cases q
   obtain ⟨ob,_,_,h1,h2,_⟩:=dd;exact ⟨ob,h1,h2.2.1⟩
 . obtain ⟨_,hd,xs,_,dd⟩:=PV I.hok e;refine ⟨dd.typeIs,fun b q=> ?_,hd⟩
   cases q
   obtain ⟨ob,_,_,h1,h2,_⟩:=dd;exact ⟨ob,h1,h2.2.1⟩
section
variable {X:Cx} {pins:List (Addr×Obj)} {σ:St} {H:Hp} {s:Shared} {a:Addr} {y d:V} {u r:Value} {o:Option V} {A:Around} {E:Value->Shared->Prop}
theorem yL {Q : Value -> Shared -> Prop} (hu : A.units + 1 < cLine) (I : Inv X pins σ H s) (g : ZQ H a y o) (ry : RelV y u) (rd : RelV d r) (h : ∀ w' s', Inv X pins σ H s' -> RelV (o.getD d) w' -> Q w' s') :
 wpAny (model X.prog X.w) A (call (.builtin "dict.get") [.ref a,u,r]) Q E s:=by
 rcases g with ⟨kvs,k,e,ey,l⟩ | ⟨kvs,k,b,e,ey,eb,l⟩
 . subst ey;obtain ⟨z,hd,vs,rel,dd⟩:=V1 I.hok e;refine TQ QZ dd.typeIs uB (sD _ _ _) (meets_dict_get_default (EQ X.prog X.w) a (WT ry) hd r) ⟨_,dd.mapOf,h _ _ (I.tok _) ?_⟩;rw [l];exact (rel.val k).getD rd
 . subst ey
   cases (show u=Value.ref b from ry)
   obtain ⟨z,hd,xs,rel,dd⟩:=PV I.hok e;refine TQ QZ dd.typeIs uB (sD _ _ _) (meetsH_dict_get_default (tupleKind (EQ X.prog X.w)) a b hd r) ⟨OP hu,k,xs,SR I.hok eb,dd,h _ _ (I.tok _) ?_⟩;rw [l];exact (rel.val k).getD rd
end
def lK(td ty tx:TE):TE:=fun σ H Q=>td σ H fun x H1=>∃a,x = .ref a/\IsD H1 a/\ty σ H1 fun y H2=>tx σ H2 fun z H3=>∃o,ZQ H3 a y o/\Q (o.getD z) H3
section
variable {X:Cx} {o e f:Expr} {apos cpos:Pos} {td ty tx:TE}
theorem m9 (hu:X.A.units+1<cLine) (ho:PE X o td) (he:PE X e ty) (hf:PE X f tx) (m:M2 X o "get" apos e f cpos):PE X (.Call (.Attribute o "get" apos) [e,f] [] cpos) (lK td ty tx):=by
 intro pins s σ H Q I h;refine wpAny_Call_method m.base m.few m.line OQ QZ PySem.F.type_dict_get (thn (ho pins s σ H _ I h) fun u s1 ⟨x,H1,I1,rx,a,ex,d,q1⟩ => ?_);subst ex;obtain rfl:u=Value.ref a:=rx;obtain ⟨t1,t2,_⟩:=vN I1 d;refine ⟨t1,t2,?_⟩;rw [m.trees]
 refine LI rfl (AA4 (HS (thn (he pins s1 σ H1 _ I1 q1) fun iv s2 ⟨y,H2,I2,ry,q2⟩ =>
  HS (thn (hf pins s2 σ H2 _ I2 q2) fun fv s3 ⟨z,H3,I3,rz,ov,g,q3⟩=>LH ?_))))
 exact yL hu I3 g ry rz fun w' s4 I4 rw'=>⟨_,H3,I4,rw',q3⟩
end
section
variable {X:Cx} {pins:List (Addr×Obj)} {σ:St} {H:Hp} {s:Shared} {a:Addr} {kvs:List (Key×V)} {A:Around} {E:Value->Shared->Prop}
end
section
variable {X:Cx} {pins:List (Addr×Obj)} {σ:St} {H:Hp} {s:Shared} {a:Addr} {y:V} {u:Value} {A:Around} {E:Value->Shared->Prop}
end
section
variable {κ:Type} [DecidableEq κ]
end
end L2
namespace Tf
open PySem PySem.Spec PyProof.Rows L2
theorem TU:bootBuiltins "isinstance" = some (.builtin "isinstance"):=by decide +kernel
theorem GM:bootBuiltins "len" = some (.builtin "len"):=by decide +kernel
theorem lR:bootBuiltins "sum" = some (.builtin "sum"):=by decide +kernel
theorem hJ:bootBuiltins "max" = some (.builtin "max"):=by decide +kernel
theorem VI:bootBuiltins "min" = some (.builtin "min"):=by decide +kernel
theorem US:bootBuiltins "sorted" = some (.builtin "sorted"):=by decide +kernel
theorem xH:bootBuiltins "all" = some (.builtin "all"):=by decide +kernel
theorem mP:bootBuiltins "int" = some (.type "int"):=by decide +kernel
theorem qW:bootBuiltins "bool" = some (.type "bool"):=by decide +kernel
theorem RC:bootBuiltins "list" = some (.type "list"):=by decide +kernel
theorem IG:bootBuiltins "tuple" = some (.type "tuple"):=by decide +kernel
theorem jZ:bootBuiltins "zip" = some (.type "zip"):=by decide +kernel
theorem QT:bootBuiltins "reversed" = some (.type "reversed"):=by decide +kernel
def Bt(n:Nat)(i:Int):Prop:=i.natAbs<2 ^ n
theorem Bt.bits{n:Nat}{i:Int}(h:Bt n i):Builtin.Int.intBits i<=n:=by
 unfold Builtin.Int.intBits
 split
 . exact CK _
 . rename_i hz
   have h0:i.natAbs≠0:=by
    intro e;apply hz;have:i=0:=by omega
    subst this;rfl
   exact (Nat.log2_lt h0).mpr h
theorem Bt.log{n:Nat}{i:Int}(h:Bt n i)(hn:0<n):i.natAbs.log2<n:=by
 by_cases h0:i.natAbs=0
 . rw [h0];simpa using hn
 . exact (Nat.log2_lt h0).mpr h
theorem A26{n m:Nat}{i j:Int}(h:Bt n i)(k:Bt m j)(hn:n+m<=134217728):IntMulOk i j:=by
 unfold IntMulOk;have hb1:=h.bits;have hb2:=k.bits
 have:Builtin.Int.intTooBig (Builtin.Int.intBits i+Builtin.Int.intBits j)=false:=by
  unfold Builtin.Int.intTooBig;apply decide_eq_false;unfold bitsLine;have:(2:Nat) ^ 27=134217728:=by decide
  rw [this];omega
 rw [this];simp
def A41(i j:Int):Prop:=∃n m,Bt n i/\Bt m j/\n+m<=134217728
def jN(_i j:Int):Prop:=j≠0/\Bt 9000 j
section
variable {X:Cx}
theorem lG:OpR X (binaryOp .FloorDiv) (rI jN fun i j=> .int (i.fdiv j)):=opI fun _ _ _ _ _ _ _ hc q=>floordiv_int hc.1 q (.inl (PyProof.noPylong_of_log2 (hc.2.log (by decide))))
theorem A52 {x:Str} {T:String} {pos:Pos} (hg:Gl X x) (hm:X.mg x=none) (hv:bootBuiltins x=some (.type T)) (hn:x ≠ "__name__" :=by decide) (hd:(x==("__debug__" : Str))=false:=by decide):PE X (.Name x pos) (tC (.ty T)) :=
 oP hg hm hv rfl hn hd
inductive TyV (K:PySem.W.Frag) (H:Hp):V->String->Prop where
 | non:TyV K H .non "NoneType"
 | bl (x:Bool):TyV K H (.bl x) "bool"
 | int (i:Int):TyV K H (.int i) "int"
 | str (x:Str):TyV K H (.str x) "str"
 | lst {a:Addr} {xs:List V} (e:SqL K H a xs):TyV K H (.ref a) "list"
 | tup {a:Addr} {xs:List V} (e:SqT K H a xs):TyV K H (.ref a) "tuple"
theorem fN {pins : List (Addr × Obj)} {σ : L2.St} {H : Hp} {s : Shared} {A : Around} {E : Value -> Shared -> Prop} {Q : Value -> Shared -> Prop} {c : Value} {b : Bool} {x : V} {u : Value} {t : String} (I : Inv X pins σ H s) (rx : RelV x u) (ty : TyV X.K H x t) (e : PySem.W.kitOne X.K (.type t) c = some b) (h : ∀ tk, Q (.bool b) { s with toks := tk }) :
 wpAny (model X.prog X.w) A (call (.builtin "isinstance") [u,c]) Q E s:=by
 cases ty with
 | non=>cases (show u=Value.none from rx);exact JD PySem.W.kitx_none I.kIn CI e (fun z=>nomatch z) h
 | bl y=>cases (show u=Value.bool y from rx);exact JD PySem.W.kitx_bool I.kIn CI e (fun z=>nomatch z) h
 | int i=>obtain ⟨t,q⟩:=(show ∃t,u=Value.int i t from rx);cases q;exact JD PySem.W.kitx_int I.kIn CI e (fun z=>nomatch z) h
 | str y=>obtain ⟨t,q⟩:=(show ∃t,u=Value.str y t from rx);cases q;exact JD PySem.W.kitx_str I.kIn CI e (fun z=>nomatch z) h
 | @lst a xs ea=>
  cases (show u=Value.ref a from rx)
  obtain ⟨its,_,⟨o,n,h1,h2,_⟩,_⟩:=I.list ea
  exact JD PySem.W.kitx_list I.kIn ⟨o,h1,h2⟩ e (fun z=>nomatch z) h
 | @tup a xs ea=>
  cases (show u=Value.ref a from rx)
  obtain ⟨its,_,⟨o,h1,h2,_⟩,_⟩:=I.tuple ea;exact JD PySem.W.kitx_tuple I.kIn ⟨o,h1,h2⟩ e (fun z=>nomatch z) h
def A47(K:PySem.W.Frag):List V->Hp->VK->Prop:=fun xs H Q=>∃x n t b,xs = [x, .ty n]/\TyV K H x t/\PySem.W.kitOne K (.type t) (.type n)=some b/\Q (.bl b) H
theorem jC:KI X (.builtin "isinstance") (A47 X.K):=by
 intro pins s σ H xs us Q I r h;obtain ⟨x,n,t,b,rfl,ty,e,q⟩:=h;obtain ⟨u,w',rfl,rx,rn⟩:=aS r
 cases (show w'=Value.type n from rn)
 exact fN I rx ty e fun tk=>⟨.bl b,H,I.tok _,rfl,q⟩
def keyD:Key->PyData
 | .inl i=> .int i
 | .inr x=> .str x
def tupD(k:List Key):PyData:= .tuple (k.map keyD)
def mkD:PyData×PyData:=(.none, .none)
mutual
inductive Rep (K:PySem.W.Frag) (H:Hp):V->PyData->Prop
 | none:Rep K H .non .none
 | bool (b:Bool):Rep K H (.bl b) (.bool b)
 | int (i:Int):Rep K H (.int i) (.int i)
 | str (x:Str):Rep K H (.str x) (.str x)
 | list {a:Addr} {xs:List V} {ds:List PyData}:SqL K H a xs->Reps K H xs ds->Rep K H (.ref a) (.list ds)
 | tuple {a:Addr} {xs:List V} {ds:List PyData}:H a=some (.tup xs)->Reps K H xs ds->Rep K H (.ref a) (.tuple ds)
 | dict {a:Addr} {ks:List (List Key)} {xs:List V} {ds:List PyData}:Rd H a (.dT (ks.zip xs))->ks.length=xs.length->Reps K H xs ds->Rep K H (.ref a) (.dict ((ks.map tupD).zip ds))
 | dictF {a:Addr} {o:Obj} {ks:List (List Key)} {xs:List V} {ds:List PyData}:H a=some (.frz o (.dT (ks.zip xs)))->ks.length=xs.length->Reps K H xs ds->Rep K H (.ref a) (.dict (mkD::(ks.map tupD).zip ds))
inductive Reps (K:PySem.W.Frag) (H:Hp):List V->List PyData->Prop
 | nil:Reps K H [] []
 | cons {v:V} {vs:List V} {d:PyData} {ds:List PyData}:Rep K H v d->Reps K H vs ds->Reps K H (v::vs) (d::ds)
end
theorem Reps.length{K:PySem.W.Frag}{H:Hp}:∀ {vs:List V} {ds:List PyData},Reps K H vs ds->vs.length=ds.length
 | _,_, .nil=>rfl
 | _,_, .cons _ t=>by rw [B4,B4,Reps.length t]
mutual
theorem Rep.reads{pins:List (Addr×Obj)}{σ:L2.St}{H:Hp}{s:Shared}(I:Inv X pins σ H s):∀ {v:V} {d:PyData} {u:Value},Rep X.K H v d->RelV v u->d.canLay0=true->∃as,Reads s.heap u d as
 | _,_,_, .none,r,_=>by cases (show _=Value.none from r);exact ⟨_, .none⟩
 | _,_,_, .bool b,r,_=>by cases (show _=Value.bool b from r);exact ⟨_, .bool b⟩
 | _,_,_, .int i,r,_=>by obtain ⟨t,q⟩:=(show ∃t,_=Value.int i t from r);cases q;exact ⟨_, .int i t⟩
 | _,_,_, .str x,r,_=>by obtain ⟨t,q⟩:=(show ∃t,_=Value.str x t from r);cases q;exact ⟨_, .str x t⟩
 | _,_,_, .list (a:=a) h hs,r,c=>by
  cases (show _=Value.ref a from r)
  obtain ⟨its,rv,⟨o,n,h1,h2,_,h3⟩,_⟩:=I.list h;obtain ⟨as,ra⟩:=Reps.reads I hs rv (by simpa [PyData.canLay0] using c)
  exact ⟨_, .list h1 h2 h3 (by simpa using ra)⟩
 | _,_,_, .tuple (a:=a) h hs,r,c=>by
  cases (show _=Value.ref a from r)
  obtain ⟨its,rv,⟨o,h1,h2,n,h3⟩,_⟩:=I.tuple (SqT.of h);obtain ⟨as,ra⟩:=Reps.reads I hs rv (by simpa [PyData.canLay0] using c)
  exact ⟨_, .tuple h1 h2 h3 (by simpa using ra)⟩
 | _,_,_, .dict _ _ _,_,c=>by simp [PyData.canLay0] at c
 | _,_,_, .dictF _ _ _,_,c=>by simp [PyData.canLay0] at c
theorem Reps.reads{pins:List (Addr×Obj)}{σ:L2.St}{H:Hp}{s:Shared}(I:Inv X pins σ H s):∀ {vs:List V} {ds:List PyData} {us:List Value},Reps X.K H vs ds->Vals vs us->PyData.canLayAll0 ds=true->∃as,ReadsAll s.heap us ds as
 | _,_,_, .nil,r,_=>by cases r;exact ⟨_, .nil⟩
 | _,_,_, .cons h hs,r,c=>by
  have c:=zL.mp (show (_ && _)=true by rw [<-PyData.canLayAll0];exact c)
  cases r with
  | cons r1 r2=>
   obtain ⟨as,q⟩:=Rep.reads I h r1 c.1;obtain ⟨bs,q2⟩:=Reps.reads I hs r2 c.2;exact ⟨_, .cons q q2⟩
end
theorem LM:∀ {ds:List PyData},(∀d ∈ ds,d.canLay0=true)->PyData.canLayAll0 ds=true
 | [],_=>by simp [PyData.canLayAll0]
 | d::ds,h=>by
  simp only [PyData.canLayAll0,GI];exact ⟨h d AU,LM fun e he=>h e (AK _ he)⟩
def A03(K:PySem.W.Frag):R2:=fun x y H Q=>∃dx dy,Rep K H x dx/\Rep K H y dy/\dx.canLay0=true/\dy.canLay0=true/\min dx.depth dy.depth<=60/\Q (.bl (PyData.eqv dx dy)) H
def zS(K:PySem.W.Frag):R2:=fun x y H Q=>∃dx dy,Rep K H x dx/\Rep K H y dy/\dx.canLay0=true/\dy.canLay0=true/\min dx.depth dy.depth<=60/\Q (.bl (!PyData.eqv dx dy)) H
theorem mT(hu:X.A.units+64<cLine):OpR X (compareOp .Eq) (A03 X.K):=by
 intro pins s σ H x y v u Q I rx ry h;obtain ⟨dx,dy,h1,h2,c1,c2,hd,q⟩:=h;obtain ⟨as,r1⟩:=h1.reads I rx c1;obtain ⟨bs,r2⟩:=h2.reads I ry c2;exact SeqAt.compareEq_reads r1 r2 c1 c2 (by omega) ⟨.bl _,H,I,rfl,q⟩
theorem xU(hu:X.A.units+64<cLine):OpR X (compareOp .NotEq) (zS X.K):=by
 intro pins s σ H x y v u Q I rx ry h;obtain ⟨dx,dy,h1,h2,c1,c2,hd,q⟩:=h;obtain ⟨as,r1⟩:=h1.reads I rx c1;obtain ⟨bs,r2⟩:=h2.reads I ry c2;exact SeqAt.compareNe_reads r1 r2 c1 c2 (by omega) ⟨.bl _,H,I,rfl,q⟩
end
theorem _root_.L2.Same.upd{H:Hp}{p:Addr}(h:H p=none)(o:HO):Same H (L2.upd H p o):=fun b u q=>by rw [BE (BJ q h)];exact q
theorem _root_.L2.Same.seqT{K:PySem.W.Frag}{H H':Hp}{a:Addr}{xs:List V}(e:Same H H')(h:SqT K H a xs):SqT K H' a xs:=by
 rcases h with (h | ⟨o,h⟩) | h
 . exact .inl (.inl (e _ _ h))
 . exact .inl (.inr ⟨o,e _ _ h⟩)
 . exact .inr h
theorem Rd.same{H H':Hp}{a:Addr}{u:HO}(e:Same H H')(h:Rd H a u):Rd H' a u:=by
 rcases h with h | ⟨o,h⟩
 . exact .inl (e _ _ h)
 . exact .inr ⟨o,e _ _ h⟩
mutual
theorem Rep.same{K:PySem.W.Frag}{H H':Hp}(e:Same H H'):∀ {v:V} {d:PyData},Rep K H v d->Rep K H' v d
 | _,_, .none=> .none
 | _,_, .bool b=> .bool b
 | _,_, .int i=> .int i
 | _,_, .str x=> .str x
 | _,_, .list h hs=> .list (e.seq h) (Reps.same e hs)
 | _,_, .tuple h hs=> .tuple (e _ _ h) (Reps.same e hs)
 | _,_, .dict h hl hs=> .dict (Rd.same e h) hl (Reps.same e hs)
 | _,_, .dictF h hl hs=> .dictF (e _ _ h) hl (Reps.same e hs)
theorem Reps.same{K:PySem.W.Frag}{H H':Hp}(e:Same H H'):∀ {vs:List V} {ds:List PyData},Reps K H vs ds->Reps K H' vs ds
 | _,_, .nil=> .nil
 | _,_, .cons h hs=> .cons (Rep.same e h) (Reps.same e hs)
end
section
variable {CX:CXT} {P:Program} {w:World} {K:PySem.W.Frag} {mg:Str->Option Value} {base:Heap} {N:List Str} {qual:Str} {scope:Scope} {f:Addr} {cd:Value} {A:Around} {outer:List Env} {s:Shared} {H:Hp} {E:XK}
end
structure Def (P:Program) (w:World) (K:PySem.W.Frag) (mg:Str->Option Value) (base:Heap) (k:Nat) (x:Str) (ps:List Str) (sp:Sp):Prop where
 ex:∃f fd,FnOk P w K mg base CX0 k f fd ps sp/\mg x=some (.ref f)/\PySem.W.keepIn K (.ref f)=true/\Binds K fd ps []
section
variable {X:Cx} {k j:Nat} {x:Str} {ps:List Str} {sp:Sp} {p pos:Pos} {e:Expr} {es:List Expr} {t:TA}
theorem iF (D : Def X.prog X.w X.K X.mg X.base j x ps sp) (hr : Room k X.A) (ha : PA X (e :: es) t) (hj : j <= k := by decide) (hg : Gl X x := by rfl)
 (hdb:(x==("__debug__" : Str))=false:=by decide) (he:starEach (e::es) X.env=(false,eval e X.env)::starEach es X.env:=by rfl) (hpl:(backTo pos (starEach es X.env)).any (·.1)=false:=by rfl) :
 PE X (.Call (.Name x p) (e::es) [] pos) (iL sp [] E0 t):=by
 obtain ⟨f,fd,F,hm,hk,hb⟩:=D.ex;exact rP F (hr.mono hj) hg hm hk hb .nil A13 ha hdb he hpl
end
end Tf
namespace Tf
open PySem L2
def aO(K:PySem.W.Frag):Sp:=fun vs H Q _=>∃(a:Addr) (ns:List Int),vs = [.ref a]/\SqL K H a (ns.map V.int)/\ns.length<=63/\∀H',Q (.bl true) H'
end Tf
namespace Tf
open PySem PySem.Spec PyProof.Rows L2
def IK(cells:List (Str×Addr)):List (Str×NameKind)->List (Str×Addr)->List (Str×Addr)
 | [],acc=>acc
 | (n,k)::r,acc=>if k == .free then IK cells r ((n,(cells.lookup n).getD 0)::acc) else IK cells r acc
theorem QS {env : Env} : ∀ (names : List (Str × NameKind)) (acc : List (Str × Addr)), (∀ y ∈ names, y.2 = .free -> ∃ c, env.cells.lookup y.1 = some c) ->
 (forIn names acc fun (x:Str×NameKind) (r:List (Str×Addr))=>(match x with | (name,kind)=>if (kind==NameKind.free)=true then do let a <-cellOf env name;pure (ForInStep.yield ((name,a)::r)) else pure (ForInStep.yield r):Sem (ForInStep (List (Str×Addr)))))=pure (IK env.cells names acc)
 | [],acc,_=>by rw [K6];rfl
 | (n,k)::r,acc,h=>by
  have ih:=fun acc=>QS r acc fun y hy=>h y (List.mem_cons_of_mem _ hy);rw [List.forIn_cons];unfold IK
  by_cases hk:(k==NameKind.free)=true
  . obtain ⟨c,hc⟩:=h (n,k) List.mem_cons_self (by simpa using hk);have e:cellOf env n=pure c:=by unfold cellOf;rw [hc]
    simp only [hk,GD,e];rw [hc];exact ih ((n,c)::acc)
  . simp only [hk,FD];exact ih acc
theorem NX{scope:Scope}{env:Env}(h:∀y ∈ scope.names,y.2 = .free->∃c,env.cells.lookup y.1=some c):closureFor scope env=pure (IK env.cells scope.names []):=by
 unfold closureFor;have:=QS (env:=env) scope.names [] h;simp only [bind_pure];exact this
theorem SM{cells:List (Str×Addr)}:∀ {names:List (Str×NameKind)} {acc:List (Str×Addr)} {x:Str} {c:Addr},(IK cells names acc).lookup x=some c->acc.lookup x=some c\/((x,NameKind.free) ∈ names/\c=(cells.lookup x).getD 0)
 | [],_,_,_,h=> .inl h
 | (n,k)::r,acc,x,c,h=>by
  unfold IK at h
  split at h
  . rename_i hk;rcases SM h with q | ⟨q,e⟩
    . rw [CW] at q
      cases hx:x==n with
      | true=>
       rw [hx] at q
       have e:=L6.mp hx;subst e;have hk':k = .free:=by simpa using hk
       subst hk'
       exact .inr ⟨AU,(BN q).symm⟩
      | false=>rw [hx] at q;exact .inl q
    . exact .inr ⟨AK _ q,e⟩
  . rcases SM h with q | ⟨q,e⟩
    . exact .inl q
    . exact .inr ⟨AK _ q,e⟩
theorem Q7{cells:List (Str×Addr)}:∀ {names:List (Str×NameKind)} {acc:List (Str×Addr)} {x:Str},acc.lookup x=some ((cells.lookup x).getD 0)->(IK cells names acc).lookup x=some ((cells.lookup x).getD 0)
 | [],_,_,h=>h
 | (n,k)::r,acc,x,h=>by
  unfold IK
  split
  . refine Q7 ?_;rw [CW]
    cases hx:x==n with
    | true=>have e:=L6.mp hx;subst e;rfl
    | false=>exact h
  . exact Q7 h
theorem MB{cells:List (Str×Addr)}:∀ {names:List (Str×NameKind)} {acc:List (Str×Addr)} {x:Str},(x,NameKind.free) ∈ names->(IK cells names acc).lookup x=some ((cells.lookup x).getD 0)
 | (n,k)::r,acc,x,h=>by
  unfold IK;rcases List.mem_cons.mp h with e | h
  . cases e
    simp only [OS,GD];exact Q7 (by rw [CW,OS])
  . split
    . exact MB h
    . exact MB h
theorem NE:∀(names:List (Str×NameKind)) (n:Nat) (acc:List (Str×Addr)),cellsFrom n names acc=cellsFrom n names []++acc
 | [],_,_=>rfl
 | (x,k)::r,n,acc=>by
  unfold cellsFrom
  split
  . rw [NE r (n+1) ((x,n)::acc),NE r (n+1) [(x,n)],BP];rfl
  . exact NE r n acc
theorem KJ{α:Type}(x:Str):∀(a b:List (Str×α)),(a++b).lookup x=(match a.lookup x with | some c=>some c | none=>b.lookup x)
 | [],b=>rfl
 | (k,v)::r,b=>by
  rw [OT,CW,CW]
  cases hx:x==k with
  | true=>rfl
  | false=>exact KJ x r b
theorem YW:∀ {names:List (Str×NameKind)} {n:Nat} {acc:List (Str×Addr)} {x:Str},(x,NameKind.cell) ∈ names->∃c,(cellsFrom n names acc).lookup x=some c
 | (y,k)::r,n,acc,x,h=>by
  unfold cellsFrom;rcases List.mem_cons.mp h with e | h
  . obtain ⟨rfl,rfl⟩:=Prod.mk.inj e;simp only [OS,GD];rw [NE,KJ]
    cases q:(cellsFrom (n+1) r []).lookup x with
    | some c=>exact ⟨c,rfl⟩
    | none=>exact ⟨n,by simp [CW]⟩
  . split
    . exact YW h
    . exact YW h
theorem YX:∀ {names:List (Str×NameKind)} {n:Nat} {x:Str} {c:Addr},(x,c) ∈ cellsFrom n names []->(x,NameKind.cell) ∈ names
 | (y,k)::r,n,x,c,h=>by
  unfold cellsFrom at h
  split at h
  . rename_i hk;rw [NE] at h
    rcases AW.mp h with q | q
    . exact AK _ (YX q)
    . have hk':k = .cell:=by simpa using hk
      subst hk';have e:(x,c)=(y,n):=by simpa using q
      cases e
      exact AU
  . exact AK _ (YX h)
def PY(sc osc:Scope):Scope:=
 {sc with names:=sc.names.map fun (n,k)=>if (k == .free && osc.kind == .function && osc.names.lookup n==some .cell) then (n, .cell) else (n,k)}
theorem TB(sc:Scope)(env:Env):relabel sc env=PY sc env.scope:=rfl
theorem H9 {osc : Scope} : ∀ {names : List (Str × NameKind)} {x : Str} {k : NameKind}, (names.map fun (p : Str × NameKind) => (match p with | (n, k) => if (k == NameKind.free && osc.kind == .function && osc.names.lookup n == some NameKind.cell) = true then (n, NameKind.cell) else (n, k))).lookup x = some k ->
 ∃k',names.lookup x=some k'/\(k'=k\/(k' = .free/\k = .cell))
 | [],_,_,h=>by simp at h
 | (n,k0)::r,x,k,h=>by
  rw [B1] at h
  by_cases hc:(k0==NameKind.free && osc.kind == .function && osc.names.lookup n==some NameKind.cell)=true
  . simp only [hc,GD] at h
    rw [CW] at h
    cases hx:x==n with
    | true=>
     rw [hx] at h
     simp only [NP] at h
     subst h;refine ⟨k0,by rw [CW,hx], .inr ⟨?_,rfl⟩⟩;simp only [GI,L6] at hc
     exact hc.1.1
    | false=>
     rw [hx] at h
     obtain ⟨k',e,d⟩:=H9 h;exact ⟨k',by rw [CW,hx];exact e,d⟩
  . simp only [A8 hc] at h
    rw [CW] at h
    cases hx:x==n with
    | true=>
     rw [hx] at h
     simp only [NP] at h
     subst h
     exact ⟨k0,by rw [CW,hx], .inl rfl⟩
    | false=>
     rw [hx] at h
     obtain ⟨k',e,d⟩:=H9 h;exact ⟨k',by rw [CW,hx];exact e,d⟩
theorem LD{α:Type}:∀ {l:List (Str×α)} {x:Str} {k:α},(l.map (·.1)).Nodup->(x,k) ∈ l->l.lookup x=some k
 | (y,j)::r,x,k,nd,h=>by
  rw [B1,FY] at nd
  rw [CW];rcases AJ.mp h with e | h'
  . cases e;rw [OS]
  . have : (x == y) = false := by
     apply TN.mpr;intro e;subst e;exact nd.1 (AL.mpr ⟨_,h',rfl⟩)
    rw [this];exact LD nd.2 h'
def fY(osc sc:Scope)(N N':List Str)(ix:List (Option Nat)):Bool:=
 decide (sc.kind = .function) && decide (osc.kind = .function) && sc.names.all (fun y=>decide (y.2 = .local->sc.names.lookup y.1=some .local)) &&
 sc.names.all (fun y=>decide (y.2 = .free->(osc.names.lookup y.1=some .cell\/osc.names.lookup y.1=some .free))) && decide (N'.Nodup) && decide ((sc.names.map (·.1)).Nodup) && decide (N'.length=ix.length) &&
 (List.range ix.length).all fun i=>match ix[i]? with
  | some (some j)=>decide (N[j]? = N'[i]?) && (match N'[i]? with | some x=>decide (sc.names.lookup x=some .free) | none=>false)
  | _=>true
structure CS (osc sc:Scope) (N N':List Str) (ix:List (Option Nat)):Prop where
 kind:sc.kind = .function
 okind:osc.kind = .function
 names:∀y ∈ sc.names,y.2 = .local->sc.names.lookup y.1=some .local
 free:∀y ∈ sc.names,y.2 = .free->osc.names.lookup y.1=some .cell\/osc.names.lookup y.1=some .free
 nd:N'.Nodup
 ns:(sc.names.map (·.1)).Nodup
 len:N'.length=ix.length
 ixs:∀(i j:Nat),ix[i]? = some (some j)->∃x,N'[i]? = some x/\N[j]? = some x/\sc.names.lookup x=some .free
theorem CS.of{osc sc:Scope}{N N':List Str}{ix:List (Option Nat)}(h:fY osc sc N N' ix=true):CS osc sc N N' ix:=by
 unfold fY at h
 simp only [GI,GJ,K7] at h
 obtain ⟨⟨⟨⟨⟨⟨⟨h1,h2⟩,h3⟩,h4⟩,h5⟩,h8⟩,h6⟩,h7⟩:=h;refine ⟨h1,h2,h3,h4,h5,h8,h6,fun i j e=> ?_⟩;have hi:i<ix.length:=(AQ.mp e).1;have q:=h7 i (BL.mpr hi);rw [e] at q
 simp only [GI,K7] at q
 cases e2:N'[i]? with
 | none=>rw [e2] at q;exact absurd q.2 (by simp)
 | some x=>
  rw [e2] at q
  exact ⟨x,rfl,q.1,by simpa using q.2⟩
def KG(ix:List (Option Nat))(σ:L2.St):L2.St:=ix.map fun o=>match o with | some j=>(σ[j]?).join | none=>none
structure CB where
 C:Addr
 s₀:Shared
 H₀:Hp
 ex:List Addr
def xK(osc sc:Scope)(cl:List (Str×Addr))(C:Addr)(env:Env):Env:=
 {scope:=PY sc osc,locals:=C,globals:=env.globals,cells:=cellsFrom (C+1) sc.names cl,qual:=env.qual,func:=none,code:=env.code,frame:=env.frame,builtins:=env.builtins}
def cxC(X:Cx)(osc sc:Scope)(N':List Str)(b:CB):Cx where
 prog:=X.prog
 w:=X.w
 K:=X.K
 mg:=X.mg
 base:=X.base
 A:=X.A
 N:=N'
 s₀:=b.s₀
 H₀:=b.H₀
 env:=xK osc sc (IK X.env.cells sc.names []) b.C X.env
 outer:=X.stack
 stack:=X.stack
 ex:=b.ex
 fn:=fun x=>decide (sc.names.lookup x=some .cell)
 calm:=X.calm
 pn:= []
 xe:=fun _ _=>False
def JN:Obj:={cls:= .type "list",dict:=none,data:= .seq ([]:List Value).toArray}
def VQ:Obj:={cls:= .type "dict",data:= .dict #[]}
def KU(h:Heap)(sc:Scope):Heap:=pushCells ((h.push JN).push VQ) sc.names
theorem LR{h:Heap}{sc:Scope}:∀b o,h.get? b=some o->(KU h sc).get? b=some o:=fun b o e=>uC _ _ b o (A1 _ (A1 _ e))
theorem KS {M : Model} {A : Around} {E : Value -> Shared -> Prop} {s : Shared} {scope : Scope} {globals : Addr} {cl : List (Str × Addr)} {qual : Str} {env : Env} {Q : Env -> Shared -> Prop}
 (h:Q (newEnv scope s.heap.objs.size globals (cellsFrom (s.heap.objs.size+1) scope.names cl) qual none .none (some env) builtinsNs) {s with heap:=pushCells (s.heap.push VQ) scope.names}) :
 wpAny M A (newFunctionEnv scope globals cl [] qual none .none (some env)) Q E s:=by
 simp only [newFunctionEnv,A60,GD];refine A0 (wpAny_alloc ?_);refine A0 (wpAny_layCells _ (fun name kind cells=>by cases hkc:kind==NameKind.cell <;> simp [hkc]) _ _ _ _ ?_);rw [show ({s with heap:=s.heap.push {cls:= .type "dict",data:= .dict #[]} }:Shared).heap.objs.size=s.heap.objs.size+1 from BR ..];simp only [K6];exact A0 (A5 (A5 h))
section
variable {X:Cx} {pins:List (Addr×Obj)} {σ:L2.St} {H:Hp} {s:Shared} {osc sc:Scope} {N':List Str} {ix:List (Option Nat)} {fp:List Addr}
theorem Z6(I:Inv X pins σ H s)(cs:CS osc sc X.N N' ix)(ho:X.env.scope=osc):∀y ∈ sc.names,y.2 = .free->∃c,X.env.cells.lookup y.1=some c:=fun y hy hf=>by
 refine I.ok.has y.1 ?_;have q:=cs.free y hy hf;rw [<-ho] at q
 exact q
theorem jO (I : Inv X pins σ H s) (cs : CS osc sc X.N N' ix) (ho : X.env.scope = osc) {C : Addr} {x : Str} {c : Addr} (h : (cellsFrom (C + 1) sc.names (IK X.env.cells sc.names [])).lookup x = some c) :
 ((x,c) ∈ cellsFrom (C+1) sc.names [] )\/((x,NameKind.free) ∈ sc.names/\X.env.cells.lookup x=some c):=by
 rw [NE,KJ] at h
 cases e:(cellsFrom (C+1) sc.names []).lookup x with
 | some d=>rw [e] at h;cases h;exact .inl (mem_of_lookup e)
 | none=>
  rw [e] at h
  rcases SM h with q | ⟨q,d⟩
  . cases q
  . obtain ⟨c',hc⟩:=Z6 I cs ho _ q rfl;rw [show X.env.cells.lookup x=some c' from hc] at d
    exact .inr ⟨q,by rw [show X.env.cells.lookup x=some c' from hc];rw [d];rfl⟩
theorem iE (I : Inv X pins σ H s) (cs : CS osc sc X.N N' ix) (ho : X.env.scope = osc) (hfp : ∀ b ∈ fp, LF X pins H b) (hlt : ∀ b ∈ fp, b < s.heap.objs.size) :
 Inv (cxC X osc sc N' ⟨s.heap.objs.size+1,s,H,fp ++ [s.heap.objs.size]⟩) [] (KG ix σ) H {s with heap:=KU s.heap sc}:=by
 have okc:=cellsFrom_ok sc.names ((s.heap.push JN).push VQ) (s.heap.objs.size+2) [] ⟨fun _ _ hm=>(nomatch hm),G0⟩ (by rw [BR,BR];exact A9 _);have esz:((s.heap.push JN).push VQ).objs.size=s.heap.objs.size+1+1:=by rw [BR,BR]
 rw [esz] at okc
 have cell:=fun {x:Str} {c:Addr}=>jO (C:=s.heap.objs.size+1) (x:=x) (c:=c) I cs ho;have oldc:∀ {x:Str} {c:Addr},X.env.cells.lookup x=some c -> @LT.lt Nat _ c s.heap.objs.size:=fun {x c} h=>(I.cell x c h).elim fun v hv=>hv.lt;have ltS:∀ {h:Heap} {b:Addr} {o:Obj},h.get? b=some o -> @LT.lt Nat _ b h.objs.size:=fun e=>AO e;have newc:∀ {x:Str} {c:Addr},(x,c) ∈ cellsFrom (s.heap.objs.size+1+1) sc.names []->s.heap.objs.size+2<=c:=fun {x c} h=>(okc.empty x c h).2
 have nsC:∃m,(KU s.heap sc).Ns (s.heap.objs.size+1) m:=⟨_,by
  have q:=(Heap.Ns.new (s.heap.push JN) (.type "dict")).keeps (uC sc.names _);rw [BR] at q
  exact q⟩
 refine ⟨?ok,rfl,I.bare,Un.kept LR,?loc,?cell,I.hok.fresh (FJ _),?freeC,?pin,I.hok.kept LR,?len⟩
 case ok=>
  refine ⟨I.ok.mod,cs.kind,I.ok.glob,I.ok.blt,FJ _,?inj,?has,?cab,I.ok.hd,I.ok.frames, .inl rfl,?exf,I.bs,?bsz,?noex,?exfs,I.stack,I.stkFree,I.tb⟩
  case inj=>
   intro x y c hx hy;rcases cell hx with p | ⟨p,p'⟩ <;> rcases cell hy with q | ⟨q,q'⟩
   . exact name_of_addr okc.apart p q
   . have a1:=newc p;have a2:=oldc q';omega
   . have a1:=newc q;have a2:=oldc p';omega
   . exact I.ok.inj x y c p' q'
  case has=>
   intro x hx
   have key:∀k,(PY sc osc).names.lookup x=some k->(k = .cell\/k = .free)->∃c,(cellsFrom (s.heap.objs.size+1+1) sc.names (IK X.env.cells sc.names [])).lookup x=some c:=by
    intro k hk hk2;obtain ⟨k',e,d⟩:=H9 hk;have hm:=mem_of_lookup e
    have:k' = .cell\/k' = .free:=by
     rcases d with d | d
     . rcases hk2 with r | r
       . exact .inl (d.trans r)
       . exact .inr (d.trans r)
     . exact .inr d.1
    rcases this with r | r
    . subst r;exact YW hm
    . subst r;rw [NE,KJ,MB hm]
      cases (cellsFrom (s.heap.objs.size+1+1) sc.names []).lookup x with
      | some c=>exact ⟨c,rfl⟩
      | none=>exact ⟨_,rfl⟩
   rcases hx with hx | hx
   . exact key _ hx (.inl rfl)
   . exact key _ hx (.inr rfl)
  case cab=>
   intro x c hf hc;have hf':sc.names.lookup x=some .cell:=AT hf;rcases cell hc with p | ⟨p,p'⟩
   . have:=newc p;show s.heap.objs.size<=c;omega
   . rw [LD cs.ns p] at hf'
     cases hf'
  case exf=>
   intro b hb;rcases AW.mp hb with hb | hb
   . have hl : @LT.lt Nat _ b s.heap.objs.size:=hlt b hb;obtain ⟨f0,f1,f2,f3,f4,f5⟩:=hfp b hb;refine ⟨fun e=> ?_,fun x c hc e=> ?_⟩
     . have e:b=s.heap.objs.size+1:=e;subst e;omega
     . rcases cell hc with p | ⟨p,p'⟩
       . have:=newc p;subst e;omega
       . exact f4 x c p' e
   . have hb:b=s.heap.objs.size:=by simpa using hb
     subst hb;refine ⟨fun e=>Nat.succ_ne_self _ (Eq.symm (show s.heap.objs.size=s.heap.objs.size+1 from e)),fun x c hc e=> ?_⟩;rcases cell hc with p | ⟨p,p'⟩
     . have:=newc p;subst e;omega
     . have:=oldc p';subst e;omega
  case bsz=>exact BG I.ok.bsz I.sz
  case noex=>
   intro b o e hb;have e:X.base.get? b=some o:=e;rcases AW.mp hb with hb | hb
   . obtain ⟨f0,f1,f2,f3,f4,f5⟩:=hfp b hb;rcases f3 with f3 | f3
     . exact I.ok.noex b o e f3
     . have:=ltS e;have:=I.ok.bsz;omega
   . have hb:b=s.heap.objs.size:=by simpa using hb
     have:=ltS e;have:=I.ok.bsz;have:=I.sz;subst hb;omega
  case exfs=>
   intro b hb hf;have hf:=I.stkSub b hf;rcases AW.mp hb with hb | hb
   . obtain ⟨f0,f1,f2,f3,f4,f5⟩:=hfp b hb;rcases AJ.mp hf with e | hf
     . exact f1 e
     . exact f2 hf
   . have hb:b=s.heap.objs.size:=by simpa using hb
     rcases AJ.mp hf with e | hf
     . have l : @LT.lt Nat _ X.env.locals s.heap.objs.size:=I.lt;rw [hb] at e
       rw [<-e] at l
       omega
     . exact I.nofs (uD hb.symm) hf
 case loc=>
  obtain ⟨m',hm'⟩:=nsC;obtain ⟨m,hm,hl⟩:=I.loc;refine ⟨m',hm',fun i x v hx hv hvis=> ?_⟩;unfold KG at hv
  rw [B5] at hv
  cases e:ix[i]? with
  | none=>rw [e] at hv;cases hv
  | some o=>
   rw [e] at hv
   cases o with
   | none=>cases hv
   | some j=>
    simp only [JE,NP] at hv
    obtain ⟨y,h1,h2,h3⟩:=cs.ixs i j e;have hx':N'[i]? = some x:=hx;rw [h1] at hx'
    cases hx'
    have hj:σ[j]? = some (some v):=by
     cases q:σ[j]? with
     | none=>rw [q] at hv;cases hv
     | some z=>rw [q] at hv;simp only [Option.join_some] at hv;rw [hv]
    have hfree:=mem_of_lookup h3;have hk:=cs.free _ hfree rfl;rw [<-ho] at hk
    have hvis0:Vis X.env.scope x:=by
     rcases hk with r | r
     . exact .inr (.inl r)
     . exact .inr (.inr r)
    obtain ⟨u,ru,lk⟩:=hl j x v h2 hj hvis0;refine ⟨u,ru, .inr ⟨?_,?_⟩⟩
    . rcases hvis with q | q | q
      . obtain ⟨k',e',d⟩:=H9 q;rw [h3] at e'
        cases e'
        rcases d with d | d
        . cases d
        . cases d.2
      . exact .inl q
      . exact .inr q
    . rcases lk with ⟨lk,_⟩ | ⟨_,c,hc,hcell⟩
      . have:X.env.scope.names.lookup x=some .local:=lk;rw [this] at hk
        rcases hk with r | r <;> cases r
      . refine ⟨c,?_,hcell.keeps LR⟩;show (cellsFrom (s.heap.objs.size+1+1) sc.names (IK X.env.cells sc.names [])).lookup x=some c;rw [NE,KJ,MB hfree,hc]
        cases e2:(cellsFrom (s.heap.objs.size+1+1) sc.names []).lookup x with
        | some d=>
         have:=LD cs.ns (YX (mem_of_lookup e2));rw [h3] at this
         cases this
        | none=>rfl
 case cell=>
  intro x c hc;rcases cell hc with p | ⟨p,p'⟩
  . exact ⟨_,(okc.empty x c p).1⟩
  . obtain ⟨v,hv⟩:=I.cell x c p';exact ⟨v,hv.keeps LR⟩
 case freeC=>
  intro x c hc;rcases cell hc with p | ⟨p,p'⟩
  . have:=newc p;exact I.hok.fresh (by omega)
  . exact I.freeC x c p'
 case pin=>intro p hp;cases hp
 case len=>
  show (KG ix σ).length=N'.length;unfold KG;rw [List.length_map,cs.len]
def GK(S:Nat->Bool)(g:TG):Prop:=∀v σ H Q,g v σ H Q->g v σ H fun σ' H'=>Q σ' H'/\σ'.length=σ.length/\∀i:Nat,S i=false->σ'[i]? = σ[i]?
def PTs(X:Cx)(ifs:List Expr)(t:TT):Prop:=
 ∀(pins:List (Addr×Obj)) (s:Shared) (σ:L2.St) (H:Hp) (Q:Bool->Hp->Prop),Inv X pins σ H s->t σ H Q ->
   wpAny (model X.prog X.w) X.A (forIn ifs true fun c r=>if r=true then do let ok <-isTrue c X.env (eval c X.env);pure (ForInStep.yield ok) else pure (ForInStep.yield r)) (TP X pins σ Q) X.xe s
def tNoTest:TT:=fun _ H Q=>Q true H
theorem nJ{X:Cx}:PTs X [] tNoTest:=fun _ _ _ H _ I h=>wpAny_tests_nil ⟨H,I,h⟩
theorem oJ{X:Cx}{c:Expr}{t:TT}(h:PT X c t):PTs X [c] t:=fun pins s σ H Q I q=>wpAny_tests_one (h pins s σ H Q I q)
def A07(J:It)(σ0:L2.St)(g:TG)(tt:TT)(te:TE)(H1:Hp)(Q:VK):Prop:=∃W:Nat->Nat->List V->Hp->Prop,(∃m,W 0 m [] H1)/\∀i m ys H,W i m ys H->ys.length<sizeLine /\
 ((J.stop i H/\∀p,H p=none->Q (.ref p) (upd H p (.lst ys))) \/
  (J.go i H/\∃N:List V->Hp->Prop,(∀ys' H',N ys' H'->∃m',m'<m/\W (i+1) m' ys' H')/\∀x H',J.yld i H x H'->g x σ0 H' fun σ2 H2=>tt σ2 H2 fun b H3=>if b=true then te σ2 H3 fun y H4=>N (ys ++ [y]) H4 else N ys H3))
theorem MV {prog : Program} {w : World} {A : Around} {R : Result -> Shared -> Prop} {s : Shared} {elt target iter : Expr} {ifs : List Expr} {scope : Scope} {pos : Pos} {it acc : Value} {env : Env} (I : Nat -> Shared -> Prop)
 (turn:∀n s,I n s->wpAny (model prog w) A (pyNext it) (fun r s₁=>match r with
  | none=>R (.ok .next) s₁
  | some v => wpAny (model prog w) A (letOwnedTupleGo target it v) (fun _ s₁ => wpAny (model prog w) A (assign target env v) (fun _ s₂ =>
   wpAny (model prog w) A (forIn ifs true fun c r=>if r=true then do let ok <-isTrue c env (eval c env);pure (ForInStep.yield ok) else pure (ForInStep.yield r)) (fun ok s₃=>
    if ok=true then wpAny (model prog w) A (eval elt env) (fun x s₄=>
     wpAny (model prog w) A (call (.builtin "list.append") [acc,x]) (fun _ s₅=>∃m,m<n/\I m s₅) (fun _ _=>False) s₄) (fun _ _=>False) s₃
    else ∃m,m<n/\I m s₃) (fun _ _=>False) s₂) (fun _ _=>False) s₁) (fun _ _=>False) s₁) (fun _ _=>False) s)
 (n:Nat) (h:I n s) :
 codeAny (model prog w) A (.compLoop (.ListComp elt [⟨target,iter,ifs,0⟩] scope pos) 0 it acc env) R s:=by
 refine codeAny_loop rfl I (fun n s hI=> ?_) n h;show wpAny _ A ((compTurn (.ListComp elt [⟨target,iter,ifs,0⟩] scope pos) 0 it acc env).onRaise (fun x=>do noteFrame x env;theTreesLotGoes x)) _ _ s;refine wpAny_noted ?_;rw [compTurn_list];refine A0 (A58 (A0 (EC (turn n s hI) (fun r s₁ h₁=> ?_) fun _ _ h'=>h'.elim)))
 cases r with
 | none=>exact A5 h₁
 | some v=>
  refine A0 (EC h₁ (fun _ s₁ h₁=> ?_) fun _ _ h'=>h'.elim);refine A0 (EC h₁ (fun _ s₂ h₂=>A0 (EC h₂ (fun ok s₃ h₃=> ?_) fun _ _ h'=>h'.elim)) fun _ _ h'=>h'.elim)
  cases ok with
  | false=>exact A5 ⟨rfl,h₃⟩
  | true=>
   exact A0 (A0 (EC h₃ (fun x s₄ h₄=>A0 (EC h₄ (fun _ s₅ h₅=>A5 (A5 ⟨rfl,h₅⟩)) fun _ _ h'=>h'.elim)) fun _ _ h'=>h'.elim))
theorem RJ{P:Program}{w:World}{H:Hp}{h:Heap}{a:Addr}{o:HO}(x:HOk P w H h)(hn:H a=none)(new:ObjOk P w (upd H a o) h a o):HOk P w (upd H a o) h:=fun b u e=>by
 by_cases hb:b=a
 . subst hb;rw [BT] at e
   cases e
   exact new
 . rw [BE hb] at e
   refine (x b u e).stay (fun _ _ _ q=>q) (fun c q=> ?_) (fun c xs q=> ?_) fun c ob xs q=> ?_
   . rw [BE (BJ q hn)];exact q
   . rw [BE (BJ q hn)];exact q
   . rw [BE (BJ q hn)];exact q
def RZ(ix:List (Option Nat))(i:Nat):Bool:=match ix[i]? with | some (some _)=>false | _=>true
structure BlkEnd (X:Cx) (pins:List (Addr×Obj)) (σ:L2.St) (C D:Addr) (H:Hp) (ys:List V) (s':Shared):Prop where
 inv:Inv X pins σ (upd H D (.lst ys)) s'
 free:H D=none
 ns:∃m,s'.heap.Ns C m
 cfree:(upd H D (.lst ys)) C=none
 cl:C≠X.env.locals
 cn:X.s₀.heap.objs.size<=C
 cc:∀x c,X.env.cells.lookup x=some c->c≠C
 cp:∀p ∈ X.pn++pins,p.1≠C
theorem run_block {tg elt iter : Expr} {ifs : List Expr} {scope : Scope} {pos : Pos} {J : It} {it : Addr} {tn : Nat -> Heap -> Prop} {g : TG} {tt : TT} {te : TE} {Q : VK} {R : Result -> Shared -> Prop}
 (I2:Inv X pins σ H s) (cs:CS osc sc X.N N' ix) (ho:X.env.scope=osc) (hc:X.calm=true) (T:Turn X.prog X.w X.K tg J fp it tn) (st2:tn 0 s.heap) (f2:∀b ∈ fp,LF X pins H b)
 (hg:PG (cxC X osc sc N' ⟨s.heap.objs.size+1,s,H,fp ++ [s.heap.objs.size]⟩) tg g) (gk:GK (RZ ix) g)
 (ht:PTs (cxC X osc sc N' ⟨s.heap.objs.size+1,s,H,fp ++ [s.heap.objs.size]⟩) ifs tt) (he:PE (cxC X osc sc N' ⟨s.heap.objs.size+1,s,H,fp ++ [s.heap.objs.size]⟩) elt te)
 (rd:A07 J (KG ix σ) g tt te H Q)
 (hR:∀ys H' s',BlkEnd X pins σ (s.heap.objs.size+1) s.heap.objs.size H' ys s'->Q (.ref s.heap.objs.size) (upd H' s.heap.objs.size (.lst ys))->R (.ok .next) s') :
 codeAny (model X.prog X.w) X.A (.compStart (.ListComp elt [⟨tg,iter,ifs,0⟩] scope pos) 0 (.ref it) (.ref s.heap.objs.size) (xK osc sc (IK X.env.cells sc.names []) (s.heap.objs.size+1) X.env)) R {s with heap:=KU s.heap sc}:=by
 have ltS:∀ {h:Heap} {b:Addr} {o:Obj},h.get? b=some o -> @LT.lt Nat _ b h.objs.size:=fun e=>AO e;have hlt:∀b ∈ fp,b<s.heap.objs.size:=fun b hb=>(T.obj 0 _ st2 b hb).elim fun o h=>AO h.1;have I3:=iE I2 cs ho f2 hlt;generalize eX:cxC X osc sc N' ⟨s.heap.objs.size+1,s,H,fp ++ [s.heap.objs.size]⟩=X' at *
 have eE:xK osc sc (IK X.env.cells sc.names []) (s.heap.objs.size+1) X.env=X'.env:=by rw [<-eX];rfl
 have eP:X'.prog=X.prog:=by rw [<-eX];rfl
 have eW:X'.w=X.w:=by rw [<-eX];rfl
 have eK:X'.K=X.K:=by rw [<-eX];rfl
 have eA:X'.A=X.A:=by rw [<-eX];rfl
 have eC:X'.calm=true:=by rw [<-eX];exact hc
 have eL:X'.env.locals=s.heap.objs.size+1:=by rw [<-eX];rfl
 have eF:X'.fs=frs X.stack:=by rw [<-eX];rfl
 have eEx:X'.ex=fp ++ [s.heap.objs.size]:=by rw [<-eX];rfl
 have eN:X'.pn = []:=by rw [<-eX];rfl
 have eS:X'.s₀=s:=by rw [<-eX];rfl
 have eH:X'.H₀=H:=by rw [<-eX];rfl
 have exe:X'.xe=fun _ _=>False:=by rw [<-eX];rfl
 have okX:=I3.ok;have mD:s.heap.objs.size ∈ X'.ex:=by rw [eEx];exact AD _ (A4.mpr rfl)
 have mF:∀b ∈ fp,b ∈ X'.ex:=fun b hb=>by rw [eEx];exact E7 _ hb
 obtain ⟨W,⟨m0,w0⟩,turn⟩:=rd
 have stat:∀ {H':Hp} {o:Obj},(∀b ∈ fp,H' b=none)->∀b ∈ fp,LF X' [(s.heap.objs.size,o)] H' b:=fun {H' o} hn b hb=>by
  refine ⟨hn b hb,(okX.exf b (mF b hb)).1,okX.exfs b (mF b hb), .inl (mF b hb),(okX.exf b (mF b hb)).2,fun p hp e=> ?_⟩;rw [eN] at hp
  have hp:p=(s.heap.objs.size,o):=by simpa using hp
  subst hp;have l : @LT.lt Nat _ b s.heap.objs.size:=hlt b hb;have e:s.heap.objs.size=b:=e;rw [<-e] at l
  omega
 have pinD:∀ {σ':L2.St} {H':Hp} {s':Shared} {o:Obj},Inv X' [] σ' H' s'->s'.heap.get? s.heap.objs.size=some o->H' s.heap.objs.size=none->(∀v,o.data ≠ .cell v)->Inv X' [(s.heap.objs.size,o)] σ' H' s':=fun {σ' H' s' o} I e hn hd=>by
  refine I.pins_of fun p hp=> ?_;have hp:p=(s.heap.objs.size,o):=by simpa using hp
  subst hp;exact ⟨e,hn,(okX.exf _ mD).1,okX.exfs _ mD,hd⟩
 rw [eE];have I3':Inv X' [] (KG ix σ) H {s with heap:=KU s.heap sc}:=I3;have dat:∀(its:List Value) (k:Nat) (v:Option Value),({cls:= .type "list",data:= .seq its.toArray k}:Obj).data ≠ .cell v:=fun _ _ _ z=>nomatch z;have acc0:(KU s.heap sc).get? s.heap.objs.size=some {cls:= .type "list",data:= .seq ([]:List Value).toArray 0}:=uC _ _ _ _ (A1 _ (AG _ rfl));have st3:tn 0 (KU s.heap sc):=T.keep 0 _ _ st2 fun b hb o e=>LR b o e
 have loop:∀s3:Shared,s3={s with heap:=KU s.heap sc}->codeAny (model X.prog X.w) X.A (.compLoop (.ListComp elt [⟨tg,iter,ifs,0⟩] scope pos) 0 (.ref it) (.ref s.heap.objs.size) X'.env) R s3:=by
  rintro s3 rfl
  refine MV (fun n s'=>∃i ys H' its k,Inv X' [] (KG ix σ) H' s'/\tn i s'.heap/\(∀b ∈ fp,H' b=none)/\W i n ys H'/\s'.heap.get? s.heap.objs.size=some {cls:= .type "list",data:= .seq its.toArray k}/\Vals ys its/\H' s.heap.objs.size=none)
   ?_ m0 ⟨0,[],H,[],0,I3',st3,fun b hb=>(f2 b hb).1,w0,acc0, .nil,I2.hok.fresh (A9 _)⟩
  rintro n s3 ⟨i,ys,H3,its,k,J3,t3,fr3,w3,a3,v3,d3⟩;obtain ⟨hz,w3⟩:=turn i n ys H3 w3;have J3p:=pinD J3 a3 d3 (dat its k);rcases w3 with ⟨stop,q⟩ | ⟨go,N,hN,step⟩
  . have TD:=T.done X' eP eW eK eC i [(s.heap.objs.size,_)] s3 (KG ix σ) H3 (fun _ _=>False) J3p (stat fr3) t3 stop;rw [eA] at TD
    refine thn TD fun r s4 ⟨hr,I4⟩ => ?_;subst hr;have a4:=(I4.pin (s.heap.objs.size,_) (AD _ (A4.mpr rfl))).1;have hd4:=I4.base;rw [eF,eEx,eH,eS] at hd4
    refine hR ys H3 s4 ⟨?_,d3,?_,?_,?_,?_,?_,?_⟩ (q _ d3)
    . refine I2.call' (ch:=fp ++ [s.heap.objs.size]) (by have z:=I4.os;rw [eS] at z;exact z) ?_ ?_ I4.bare ?_
      . refine ⟨hd4.keep,hd4.slot,fun b o e n x=> ?_,hd4.there,fun b xs e=> ?_,fun b o u e=> ?_,fun b ps e=> ?_⟩
        . have l:=ltS e;rw [BE (by intro z;subst z;omega)];exact hd4.free b o e n x
        . have z:=hd4.tups b xs e;rw [BE (BJ z d3)];exact z
        . have z:=hd4.frzs b o u e;rw [BE (BJ z d3)];exact z
        . obtain ⟨more,z⟩:=hd4.tbls b ps e;exact ⟨more,by rw [BE (BJ z d3)];exact z⟩
      . have hk:=I4.hok;rw [eP,eW] at hk
        exact RJ hk d3 ⟨JZ hz,its,k,v3,a4⟩
      . intro b hb;rcases AW.mp hb with hb | hb
        . obtain ⟨f0,f1,f2,f3,f4,f5⟩:=f2 b hb;exact ⟨f3,f1,f4,f5⟩
        . have hb:b=s.heap.objs.size:=by simpa using hb
          subst hb;refine ⟨.inr I2.sz,fun e=> ?_,fun x c hx e=> ?_,fun p hp e=> ?_⟩
          . have l : @LT.lt Nat _ X.env.locals s.heap.objs.size:=I2.lt;rw [<-e] at l
            omega
          . obtain ⟨v,hv⟩:=I2.cell x c hx;have l : @LT.lt Nat _ c s.heap.objs.size:=hv.lt;rw [e] at l
            omega
          . have l:=ltS (I2.pin p hp).1;rw [e] at l
            omega
    . obtain ⟨m,hm,_⟩:=I4.loc;rw [eL] at hm
      exact ⟨m,hm⟩
    . rw [BE (Nat.succ_ne_self _)];have z:=I4.free;rw [eL] at z
      exact z
    . intro e;have l : @LT.lt Nat _ X.env.locals s.heap.objs.size:=I2.lt;rw [<-e] at l
      omega
    . have:=I2.sz;exact Nat.le_succ_of_le this
    . intro x c hx e;obtain ⟨v,hv⟩:=I2.cell x c hx;have l : @LT.lt Nat _ c s.heap.objs.size:=hv.lt;rw [e] at l
      omega
    . intro p hp e;have l:=ltS (I2.pin p hp).1;rw [e] at l
      omega
  . have TI:=T.item X' eP eW eK eC i [(s.heap.objs.size,_)] s3 (KG ix σ) H3 (fun _ _=>False) J3p (stat fr3) t3 go;rw [eA] at TI
    refine thn TI fun r s4 ⟨u,hr,h4⟩ => ?_;subst hr;refine thn h4 fun _ s5 ⟨x,H5,I5,r5,y5,st5,fr5⟩ => ?_;have I5':=I5.pinned (stat fr5) (T.obj _ _ st5);have HG:=hg _ s5 (KG ix σ) H5 x u _ I5' r5 (gk _ _ _ _ (step x H5 y5));rw [eP,eW,eA,exe] at HG
    refine thn HG fun _ s6 ⟨σ6,H6,I6,q6,l6,k6⟩ => ?_;have HT:=ht _ s6 σ6 H6 _ I6 q6;rw [eP,eW,eA,exe] at HT
    refine thn HT fun b s7 ⟨H7,I7,q7⟩ => ?_
    have weak:∀ {ps:List (Addr×Obj)} {H':Hp} {s':Shared},Inv X' ps σ6 H' s'->Inv X' ps (KG ix σ) H' s':=fun I=>I.weak l6.symm fun j v e=>by
     have hs:RZ ix j=false:=by
      unfold RZ;unfold KG at e
      rw [B5] at e
      cases e2:ix[j]? with
      | none=>rw [e2] at e;cases e
      | some o=>
       rw [e2] at e
       cases o with
       | none=>cases e
       | some z=>rfl
     rw [k6 j hs];exact e
    have pinA : ∀ {σ' : L2.St} {H' : Hp} {s' : Shared}, Inv X' ([(s.heap.objs.size, { cls := .type "list", data := .seq its.toArray k })] ++ SN fp s5.heap) σ' H' s' ->
     s'.heap.get? s.heap.objs.size=some {cls:= .type "list",data:= .seq its.toArray k}/\H' s.heap.objs.size=none/\tn (i+1) s'.heap/\∀b ∈ fp,H' b=none:=fun {σ' H' s'} I=>by
     have z:=I.pin (s.heap.objs.size,_) (AD _ (E7 _ (A4.mpr rfl)));refine ⟨z.1,z.2.1,T.keep _ _ _ st5 fun b hb o e=>(I.pin (b,o) (AD _ (AD _ (M7 hb e)))).1,fun b hb=> ?_⟩;obtain ⟨o,e,d⟩:=T.obj _ _ st5 b hb;exact (I.pin (b,o) (AD _ (AD _ (M7 hb e)))).2.1
    cases b with
    | false=>
     have q7:N ys H7:=q7;obtain ⟨m',hm,w7⟩:=hN ys H7 q7;obtain ⟨p1,p2,p3,p4⟩:=pinA I7
     exact ⟨m',hm,i+1,ys,H7,its,k,(weak I7).pins_of (fun _ z=>(nomatch z)),p3,p4,w7,p1,v3,p2⟩
    | true=>
     have HE:=he _ s7 σ6 H7 _ I7 q7;rw [eP,eW,eA,exe] at HE
     refine thn HE fun y s8 ⟨z,H8,I8,r8,q8⟩ => ?_;obtain ⟨m',hm,w8⟩:=hN _ H8 q8;obtain ⟨p1,p2,p3,p4⟩:=pinA I8;refine MP F.slot_list_append ⟨_,p1,rfl⟩ F.entry_list_append (AA5 _ _) (A86 s.heap.objs.size its.toArray k y (by rw [AR, <-v3.length];omega)) ⟨p1,?_⟩;have q:=PySem.IsL.update p1 (fun a=>a.push y);have other:∀b o,b≠s.heap.objs.size->s8.heap.get? b=some o->(s8.heap.update s.heap.objs.size (Obj.mapSeq fun a=>a.push y)).get? b=some o:=fun b o hb e=>(A95 s8.heap _ (NN hb)).trans e;have eq:its.toArray.push y=(its ++ [y]).toArray:=by simp
     have q:IsL (s8.heap.update s.heap.objs.size (Obj.mapSeq fun a=>a.push y)) s.heap.objs.size (its.toArray.push y) _:=q;rw [eq] at q
     refine ⟨m',hm,i+1,ys ++ [z],H8,its ++ [y],_,?_,T.keep _ _ _ p3 fun b hb o e=>other b o (fun z=> ?_) e,p4,w8,q,v3.append (.cons r8 .nil),p2⟩
     . have I8w:Inv X' [] (KG ix σ) H8 s8:=(weak I8).pins_of fun _ z=>nomatch z;refine I8w.turned (it:=s.heap.objs.size) other p2 (okX.exf _ mD).1 (.inl mD) (okX.exf _ mD).2 fun p hp=> ?_;rw [eN] at hp
       cases hp
     . have l : @LT.lt Nat _ b s.heap.objs.size:=hlt b hb;rw [z] at l
       omega
 exact codeAny_compStart_list (loop _ rfl) (T.self X.A 0 _ _ _ st3 (loop _ rfl))
def tLC(ix:List (Option Nat))(wi:TI)(g:CB->TG)(tt:CB->TT)(te:CB->TE):TE:=fun σ H Q=>wi σ H fun J H1=>∀b:CB,A07 J (KG ix σ) (g b) (tt b) (te b) H1 Q
theorem A19 {tg elt iter : Expr} {ifs : List Expr} {pos : Pos} {wi : TI} {g : CB -> TG} {tt : CB -> TT} {te : CB -> TE} (hc : X.calm = true) (ho : X.env.scope = osc) {N : List Str} (hN : X.N = N) (hcs : fY osc sc N N' ix = true) (hi : PI X tg iter wi)
 (hb:∀b:CB,PG (cxC X osc sc N' b) tg (g b)/\PTs (cxC X osc sc N' b) ifs (tt b)/\PE (cxC X osc sc N' b) elt (te b)) (gk:∀b:CB,GK (RZ ix) (g b))
 (hs:∀x,foldedSetIterable iter X.env x=pure x:=by intro _;rfl):PE X (.ListComp elt [⟨tg,iter,ifs,0⟩] sc pos) (tLC ix wi g tt te):=by
 subst hN;have cs:=CS.of hcs;intro pins s σ H Q I h;rw [eval_ListComp];have hcl:=NX (Z6 I cs ho);refine A61 (use:=none) rfl hs hcl cs.kind cs.names (thn (hi pins s σ H _ I h) fun v s1 h1=>thn h1 fun itv s2 h2=> ?_);obtain ⟨it,fp,tn,J,H2,e,I2,T,st2,f2,rd⟩:=h2;subst e;refine CN ?_;refine KS ?_;have hb':=hb ⟨s2.heap.objs.size+1,s2,H2,fp ++ [s2.heap.objs.size]⟩
 have rb:=run_block (scope:=sc) (pos:=pos) (iter:=iter) (R:=compPost (model X.prog X.w) X.A X.xe none (EP X pins σ Q) (.ref s2.heap.objs.size) (s2.heap.objs.size+1)) I2 cs ho hc T st2 f2 hb'.1 (gk _) hb'.2.1 hb'.2.2 (rd _) (fun ys H' s' B q=>by
  obtain ⟨m,hm⟩:=B.ns;refine ⟨m,hm,fun h' hsb=> ?_⟩;refine ⟨.ref s2.heap.objs.size,upd H' s2.heap.objs.size (.lst ys),?_,rfl,q⟩;exact B.inv.turned (it:=s2.heap.objs.size+1) (fun b o hb e=>hsb.extBut b o hb e) B.cfree B.cl (.inr B.cn) B.cc B.cp)
 have sz:(s2.heap.push JN).objs.size=s2.heap.objs.size+1:=BR ..;show codeAny _ _ (.compStart _ 0 (.ref it) (.ref s2.heap.objs.size) {newEnv sc (s2.heap.push JN).objs.size X.env.globals (cellsFrom ((s2.heap.push JN).objs.size+1) sc.names (IK X.env.cells sc.names [])) X.env.qual none .none (some X.env) builtinsNs with scope:=relabel sc X.env}) (compPost _ _ _ none _ (.ref s2.heap.objs.size) (s2.heap.push JN).objs.size) _;rw [sz,TB,ho];exact rb
def tY(i:Nat)(t:TE):TS:=fun D σ H=>t σ H fun v H1=>D.nx (σ.set i (some v)) H1
theorem qJ {tg elt iter : Expr} {ifs : List Expr} {pos py spos : Pos} {wi : TI} {g : CB -> TG} {tt : CB -> TT} {te : CB -> TE} {i : Nat} {y : Str} (hnd : X.N.Nodup) (hi' : X.N[i]? = some y) (hy : X.env.scope.names.lookup y = some .local)
 (hsw:swapsWith (.ListComp elt [⟨tg,iter,ifs,0⟩] sc pos) (some (.Name y py)) spos.line X.env=pure true)
 (hc:X.calm=true) (ho:X.env.scope=osc) {N:List Str} (hN:X.N=N) (hcs:fY osc sc N N' ix=true) (hi:PI X tg iter wi)
 (hb:∀b:CB,PG (cxC X osc sc N' b) tg (g b)/\PTs (cxC X osc sc N' b) ifs (tt b)/\PE (cxC X osc sc N' b) elt (te b)) (gk:∀b:CB,GK (RZ ix) (g b))
 (hs:∀x,foldedSetIterable iter X.env x=pure x:=by intro _;rfl):PS X (.Assign [.Name y py] (.ListComp elt [⟨tg,iter,ifs,0⟩] sc pos) spos) (tY i (tLC ix wi g tt te)):=by
 have hN':=hN;subst hN;have cs:=CS.of hcs;intro pins s σ H D I h;rw [exec_Assign_Name_used _ _ _ _ hsw];have hcl:=NX (Z6 I cs ho);refine A0 (A58 (A0 ?_));show wpAny _ X.A (do let _ <-comprehension (.ListComp elt [⟨tg,iter,ifs,0⟩] sc pos) sc X.env _ (newList []) false (eval iter X.env) (some (assign (.Name y py) X.env))) _ _ s
 refine A0 (EC (A61 (use:=some (assign (.Name y py) X.env)) (Q:=fun _ s'=>SP X pins D .next s') rfl hs hcl cs.kind cs.names
  (thn (hi pins s σ H _ I h) fun v s1 h1=>thn h1 fun itv s2 h2=> ?_)) (fun _ s' hq=>A5 (A5 hq)) fun _ _ e=>e)
 obtain ⟨it,fp,tn,J,H2,e,I2,T,st2,f2,rd⟩:=h2;subst e;refine CN ?_;refine KS ?_;have hb':=hb ⟨s2.heap.objs.size+1,s2,H2,fp ++ [s2.heap.objs.size]⟩
 have rb:=run_block (scope:=sc) (pos:=pos) (iter:=iter) (R:=compPost (model X.prog X.w) X.A X.xe (some (assign (.Name y py) X.env)) (fun _ s'=>SP X pins D .next s') (.ref s2.heap.objs.size) (s2.heap.objs.size+1)) I2 cs ho hc T st2 f2 hb'.1 (gk _) hb'.2.1 hb'.2.2 (rd _) (fun ys H' s' B q=>by
  show wpAny _ X.A (assign (.Name y py) X.env (.ref s2.heap.objs.size)) _ _ s';refine wpAny_assign_Name (UH (v:= .ref s2.heap.objs.size) B.inv hnd hi' (.inl hy) rfl (fun s'' I'' ⟨a,sb,ha⟩ => ?_) (.inr hy))
  have hne:s2.heap.objs.size+1≠a:=by
   rcases ha with ha | ha
   . rw [ha];exact B.cl
   . exact (B.cc y a ha).symm
  obtain ⟨m,hm⟩:=B.ns;refine ⟨m,hm.sameBut sb hne,fun h' hsb=> ?_⟩;exact ⟨_,_,I''.turned (it:=s2.heap.objs.size+1) (fun b o hb e=>hsb.extBut b o hb e) B.cfree B.cl (.inr B.cn) B.cc B.cp,q⟩)
 have sz:(s2.heap.push JN).objs.size=s2.heap.objs.size+1:=BR ..;show codeAny _ _ (.compStart _ 0 (.ref it) (.ref s2.heap.objs.size) {newEnv sc (s2.heap.push JN).objs.size X.env.globals (cellsFrom ((s2.heap.push JN).objs.size+1) sc.names (IK X.env.cells sc.names [])) X.env.qual none .none (some X.env) builtinsNs with scope:=relabel sc X.env}) (compPost _ _ _ _ _ (.ref s2.heap.objs.size) (s2.heap.push JN).objs.size) _;rw [sz,TB,ho];exact rb
end
end Tf
namespace Tf
open PySem PySem.Spec PyProof.Rows L2
def Itz(K:PySem.W.Frag)(a b:Addr):It:=
 ⟨fun i H=>∃xs ys x y,SqL K H a xs/\SqL K H b ys/\xs[i]? = some x/\ys[i]? = some y,
  fun i H v H'=>∃p x y,H p=none/\v = .ref p/\H'=upd H p (.tup [x,y])/\(∀xs,SqL K H a xs->xs[i]? = some x)/\(∀ys,SqL K H b ys->ys[i]? = some y),
  fun i H=>∃xs ys,SqL K H a xs/\SqL K H b ys/\(xs.length<=i\/ys.length<=i)⟩
def zU(z TI TO i1 i2 l1 l2:Addr)(i:Nat)(h:Heap):Prop:=IsZip h z TI TO .none/\IsPair h TI (.ref i1) (.ref i2)/\(∃a b,IsPair h TO a b)/\h.IsListIter i1 l1 i/\h.IsListIter i2 l2 i
theorem kU {P : Program} {w : World} {K : PySem.W.Frag} {elts : List Expr} {k : Nat} {pos : Pos} {z TI TO i1 i2 l1 l2 : Addr} (D : ZipApart z TI TO i1 i2 l1 l2) :
 Turn P w K (.Tuple elts k pos) (Itz K l1 l2) [z,TI,TO,i1,i2] z (zU z TI TO i1 i2 l1 l2) where
 mem:=by simp
 obj:=fun i h st b hb=>by
  obtain ⟨h1,h2,⟨a,c,h3⟩,⟨o4,h4,_,d4⟩,⟨o5,h5,_,d5⟩⟩:=st;simp only [AJ,B8,DN] at hb
  rcases hb with rfl | rfl | rfl | rfl | rfl
  . exact ⟨_,h1,fun v e=>(nomatch e)⟩
  . exact ⟨_,h2,fun v e=>(nomatch e)⟩
  . exact ⟨_,h3,fun v e=>(nomatch e)⟩
  . exact ⟨_,h4,fun v e=>by rw [d4] at e;cases e⟩
  . exact ⟨_,h5,fun v e=>by rw [d5] at e;cases e⟩
 keep:=fun i h h' st kk=>by
  obtain ⟨h1,h2,⟨a,c,h3⟩,h4,h5⟩:=st;exact ⟨kk z (by simp) _ h1,kk TI (by simp) _ h2,⟨a,c,kk TO (by simp) _ h3⟩,h4.at fun o e=>kk i1 (by simp) o e,h5.at fun o e=>kk i2 (by simp) o e⟩
 item:=by
  intro X hP hw hK hc i pins s σ H E I hf st hg;subst hP hw hK;obtain ⟨h1,h2,⟨a,c,h3⟩,h4,h5⟩:=st;obtain ⟨xs,ys,x,y,q1,q2,hx,hy⟩:=hg;obtain ⟨its,rv,p,hz⟩:=I.list q1;obtain ⟨jts,rw',p',hz'⟩:=I.list q2;obtain ⟨u,hu,ru⟩:=rv.get hx;obtain ⟨u',hu',ru'⟩:=rw'.get hy;have ltS:∀ {h:Heap} {b:Addr} {o:Obj},h.get? b=some o -> @LT.lt Nat _ b h.objs.size:=fun e=>AO e;refine wpAny_pyNext_zip_item D h1 h2 h3 h4 h5 p.isList p'.isList (x:=u) (y:=u') (by simpa using hu) (by simpa using hu') fun h' a1 a2 a3 a4 a5 a6 hk=> ?_;refine ⟨_,rfl,Q2 a1 fun h'' a1' sb=> ?_⟩;have ch:∀b ∈ [z,TI,TO,i1,i2],H b=none:=fun b hb=>(hf b hb).1
  have kk:∀b o,b ∉ [z,TO,i1,i2]->s.heap.get? b=some o->h''.get? b=some o:=fun b o hb e=>by
   simp only [AJ,B8,DN,uE] at hb
   exact sb.extBut b o hb.1 (hk b o hb.1 hb.2.1 hb.2.2.1 hb.2.2.2 e)
  have eT:h''.get? s.heap.objs.size=some {cls:= .type "tuple",data:= .seq #[u,u']}:=sb.extBut _ _ (fun e=>by have l:=ltS h1;rw [<-e] at l;omega) a5
  have sub:∀b,b ∈ [z,TO,i1,i2]->b ∈ [z,TI,TO,i1,i2]:=fun b hb=>by
   simp only [AJ,B8,DN] at hb ⊢
   rcases hb with r | r | r | r
   . exact .inl r
   . exact .inr (.inr (.inl r))
   . exact .inr (.inr (.inr (.inl r)))
   . exact .inr (.inr (.inr (.inr r)))
  have nT:H s.heap.objs.size=none:=I.hok.fresh (A9 _)
  have hok1 : HOk X.prog X.w H h'' := fun b o e => (I.hok b o e).stay (fun d v hd q => kk d v (fun hm => by
   have n:=ch d (sub d hm);rcases hd with hd | hd
   . rw [hd,e] at n;cases n
   . rw [hd] at n;cases n) q) (fun _ q=>q) fun _ _ q=>q
  have hok2:HOk X.prog X.w (upd H s.heap.objs.size (.tup [x,y])) h'':=RJ hok1 nT ⟨by show 2<=sizeLine;decide,[u,u'], .cons ru (.cons ru' .nil),⟨_,eT,rfl,_,rfl⟩⟩
  have un:Un (frs X.stack) [z,TO,i1,i2] H (upd H s.heap.objs.size (.tup [x,y])) s.heap h'':=by
   refine ⟨fun b o e _ _ hx=>kk b o hx e,fun b o e _ _ hx=>⟨o.slots,kk b o hx e⟩,fun b o e n _=> ?_,fun b o e hx=>⟨o,kk b o hx e⟩,fun b zs e=> ?_,fun b o v e=> ?_,fun b ps e=>⟨#[],?_⟩⟩
   . have l:=ltS e;rw [BE (by intro q;subst q;omega)];exact n
   . rw [BE (BJ e nT)];exact e
   . rw [BE (BJ e nT)];exact e
   . rw [BE (BJ e nT)];simpa using e
  have I2:Inv X pins σ (upd H s.heap.objs.size (.tup [x,y])) {s with heap:=h'' }:=I.call' rfl un hok2 I.bare fun b hb=>by
   obtain ⟨f0,f1,f2,f3,f4,f5⟩:=hf b (sub b hb);exact ⟨f3,f1,f4,f5⟩
  refine ⟨.ref s.heap.objs.size,_,I2,rfl,⟨s.heap.objs.size,x,y,nT,rfl,rfl,fun zs hq=> ?_,fun zs hq=> ?_⟩,⟨a1',?_,⟨_,_,sb.extBut _ _ D.TOz a2⟩,a3.extBut sb.extBut D.i1z,a4.extBut sb.extBut D.i2z⟩,fun b hb=> ?_⟩
  . rw [I.list_inj hq q1];exact hx
  . rw [I.list_inj hq q2];exact hy
  . exact sb.extBut _ _ D.TIz (hk TI _ D.TIz D.TITO D.TIi1 D.TIi2 h2)
  . have n:=ch b hb
    obtain ⟨o,e⟩:∃o,s.heap.get? b=some o:=by
     simp only [AJ,B8,DN] at hb
     rcases hb with rfl | rfl | rfl | rfl | rfl
     . exact ⟨_,h1⟩
     . exact ⟨_,h2⟩
     . exact ⟨_,h3⟩
     . obtain ⟨o,e,_⟩:=h4;exact ⟨o,e⟩
     . obtain ⟨o,e,_⟩:=h5;exact ⟨o,e⟩
    have l:=ltS e;rw [BE (by intro q;subst q;omega)];exact n
 done:=by
  intro X hP hw hK hc i pins s σ H E I hf st hg;subst hP hw hK;obtain ⟨h1,h2,⟨a,c,h3⟩,h4,h5⟩:=st;obtain ⟨xs,ys,q1,q2,he⟩:=hg;obtain ⟨its,rv,p,hz⟩:=I.list q1;obtain ⟨jts,rw',p',hz'⟩:=I.list q2;have l1:=rv.length;have l2:=rw'.length
  refine wpAny_pyNext_zip_end (I.ok.hd hc) D h1 h2 h3 h4 h5 p.isList p'.isList (by rcases he with e | e; · left; simp; omega
                                                                                   . right;simp;omega) fun h' hk=>⟨rfl,?_⟩
  have ch:∀b ∈ [z,TI,TO,i1,i2],H b=none:=fun b hb=>(hf b hb).1
  have sub:∀b,b ∈ [z,TO,i1,i2]->b ∈ [z,TI,TO,i1,i2]:=fun b hb=>by
   simp only [AJ,B8,DN] at hb ⊢
   rcases hb with r | r | r | r
   . exact .inl r
   . exact .inr (.inr (.inl r))
   . exact .inr (.inr (.inr (.inl r)))
   . exact .inr (.inr (.inr (.inr r)))
  have kk:∀b o,b ∉ [z,TO,i1,i2]->s.heap.get? b=some o->h'.get? b=some o:=fun b o hb e=>by
   simp only [AJ,B8,DN,uE] at hb
   exact hk b o hb.1 hb.2.1 hb.2.2.1 hb.2.2.2 e
  have hok1 : HOk X.prog X.w H h' := fun b o e => (I.hok b o e).stay (fun d v hd q => kk d v (fun hm => by
   have n:=ch d (sub d hm);rcases hd with hd | hd
   . rw [hd,e] at n;cases n
   . rw [hd] at n;cases n) q) (fun _ q=>q) fun _ _ q=>q
  have un:Un (frs X.stack) [z,TO,i1,i2] H H s.heap h' :=
   ⟨fun b o e _ _ hx=>kk b o hx e,fun b o e _ _ hx=>⟨o.slots,kk b o hx e⟩,fun b o e n _=>n,fun b o e hx=>⟨o,kk b o hx e⟩,fun b zs e=>e,fun b o v e=>e,fun b ps e=>⟨#[],by simpa using e⟩⟩
  exact I.call' rfl un hok1 I.bare fun b hb=>by
   obtain ⟨f0,f1,f2,f3,f4,f5⟩:=hf b (sub b hb);exact ⟨f3,f1,f4,f5⟩
 self:=fun _ _ _ _ _ st h=>JI st.1 h
section
variable {X:Cx}
theorem YG(hc:X.calm=true):KI X (.builtin "sum") (fun xs H Q=>∃p ns,xs = [.ref p]/\SqL X.K H p (ns.map V.int)/\Q (.int (List.sum ns)) H):=by
 intro pins s σ H xs us Q I r h;obtain ⟨p,ns,rfl,hq,q⟩:=h;obtain ⟨u,rfl,ru⟩:=JP r
 cases (show u=Value.ref p from ru)
 obtain ⟨its,rv,pl,hz⟩:=I.list hq;have hi:=Z2 rv;obtain ⟨zs,ez⟩:=hi.allInts.items;have hl:s.heap.IsList p (intItems zs):=ez ▸ pl.isList
 have en:preSum (numAt zs) zs.size=ns.sum:=by
  rw [preSum_eq,B6 (by simp)];have:=hi.numsOf;rw [<-this];have e2:its=(intItems zs).toList:=by rw [<-ez]
  rw [e2,nums_intItems]
 refine sum_intListG (I.ok.hd hc) hl fun h' tk t' hk=> ?_;rw [en];exact ⟨.int ns.sum,H,I.kept hk,⟨t',rfl⟩,q⟩
section
variable {K:PySem.W.Frag} {σ0:L2.St} {g:TG} {tt:TT} {te:TE} {H:Hp} {Q:VK}
theorem Reps.snoc{vs:List V}{ds:List PyData}{v:V}{d:PyData}(h:Reps K H vs ds)(k:Rep K H v d):Reps K H (vs ++ [v]) (ds ++ [d]):=by
 induction vs generalizing ds with
 | nil=>cases h;exact .cons k .nil
 | cons x xs ih=>cases h with | cons a b=>exact .cons a (ih b)
theorem Reps.get:∀ {vs:List V} {ds:List PyData} {i:Nat} {d:PyData},Reps K H vs ds->ds[i]? = some d->∃v,vs[i]? = some v/\Rep K H v d
 | _,_,_,_, .nil,e=>by simp at e
 | _,_,0,_, .cons r _,e=>by simp at e;subst e;exact ⟨_,rfl,r⟩
 | _,_,i+1,d, .cons _ t,e=>by
  obtain ⟨u,h1,h2⟩:=Reps.get (i:=i) (d:=d) t (by simpa using e);exact ⟨u,by simpa using h1,h2⟩
end
end
end Tf
namespace Dm
open PySem PySem.Spec PyProof.Rows L2 Tf
inductive Sl where
 | val (d:PyData)
 | own (ds:List PyData)
 | dct (kvs:List (PyData×PyData))
def Sl.dat:Sl->PyData
 | .val d=>d
 | .own ds=> .list ds
 | .dct kvs=> .dict kvs
abbrev En:=List (Option Sl)
theorem UX{H0 H:Hp}{p:Addr}{o:HO}(h:Same H0 H):Same (upd H0 p o) (upd H p o):=fun b u e=>by
 by_cases hb:b=p
 . subst hb;rw [BT] at e ⊢;exact e
 . rw [BE hb] at e ⊢;exact h b u e
def Mu:HO->Prop
 | .tup _=>False
 | _=>True
structure Ext (H0 H H0' H':Hp):Prop where
 s:Same H H'
 s0:Same H0 H0'
 s1:Same H0' H'
 own:∀a o,H a=some o->Mu o->H0 a=none->H0' a=none
theorem Ext.refl{H0 H:Hp}(h:Same H0 H):Ext H0 H H0 H:=⟨Same.refl _,Same.refl _,h,fun _ _ _ _ h=>h⟩
theorem Ext.trans{H0 H H1 J1 H2 J2:Hp}(a:Ext H0 H H1 J1)(b:Ext H1 J1 H2 J2):Ext H0 H H2 J2:=
 ⟨a.s.trans b.s,a.s0.trans b.s0,b.s1,fun x o h m h0=>b.own x o (a.s x o h) m (a.own x o h m h0)⟩
theorem Ext.chain{S0 HB H0 H H1 J1:Hp}(a:Ext S0 HB H0 H)(b:Ext H0 H H1 J1):Ext S0 HB H1 J1:=
 ⟨a.s.trans b.s,a.s0.trans b.s0,b.s1,fun x o h m h0=>b.own x o (a.s x o h) m (a.own x o h m h0)⟩
theorem Ext.rebase{S0 HB H0 H:Hp}(a:Ext S0 HB H0 H):Ext H0 HB H0 H:=⟨a.s,Same.refl _,a.s1,fun _ _ _ _ h=>h⟩
theorem Ext.unbase{S0 HB H0 H H1 J1:Hp}(a:Ext S0 HB H0 H)(b:Ext H0 HB H1 J1):Ext S0 HB H1 J1:=
 ⟨b.s,a.s0.trans b.s0,b.s1,fun x o h m h0=>b.own x o h m (a.own x o h m h0)⟩
theorem Ext.alloc{H0 H:Hp}{p:Addr}(h:Same H0 H)(hp:H p=none)(o:HO):Ext H0 H H0 (upd H p o) :=
 ⟨Same.upd hp o,Same.refl _,h.trans (Same.upd hp o),fun _ _ _ _ h=>h⟩
theorem Ext.allocF{H0 H:Hp}{p:Addr}(h:Same H0 H)(hp:H p=none)(o:HO):Ext H0 H (upd H0 p o) (upd H p o) :=
 ⟨Same.upd hp o,Same.upd (h.free hp) o,UX h,fun a o' ha _ h0=>by rw [BE (BJ ha hp)];exact h0⟩
section
variable {K:PySem.W.Frag}
def DctR(K:PySem.W.Frag)(H0:Hp)(t:List (List Key×V))(kvs:List (PyData×PyData)):Prop:=∃(ks:List (List Key)) (xs:List V) (ds:List PyData),t=ks.zip xs/\ks.length=xs.length/\Reps K H0 xs ds/\kvs=(ks.map tupD).zip ds
theorem DctR.same{H0 H0':Hp}{t:List (List Key×V)}{kvs:List (PyData×PyData)}(s:Same H0 H0')(h:DctR K H0 t kvs):DctR K H0' t kvs:=by
 obtain ⟨ks,xs,ds,e1,e2,e3,e4⟩:=h;exact ⟨ks,xs,ds,e1,e2,Reps.same s e3,e4⟩
theorem DctR.rep{H:Hp}{a:Addr}{t:List (List Key×V)}{kvs:List (PyData×PyData)}(h:DctR K H t kvs)(e:H a=some (.dT t)):Rep K H (.ref a) (.dict kvs):=by
 obtain ⟨ks,xs,ds,rfl,e2,e3,rfl⟩:=h;exact .dict (.inl e) e2 e3
def SlP(K:PySem.W.Frag)(H0 H:Hp)(v:V):Sl->Prop
 | .val d=>Rep K H0 v d
 | .own ds=>∃a vs,v = .ref a/\H a=some (.lst vs)/\Reps K H0 vs ds
 | .dct kvs=>∃a t,v = .ref a/\H a=some (.dT t)/\DctR K H0 t kvs
def SlH(K:PySem.W.Frag)(HB H0 H:Hp)(v:V):Sl->Prop
 | .val d=>Rep K H0 v d
 | .own ds=>∃a vs,v = .ref a/\HB a=none/\H0 a=none/\H a=some (.lst vs)/\Reps K H0 vs ds
 | .dct kvs=>∃a t,v = .ref a/\HB a=none/\H0 a=none/\H a=some (.dT t)/\DctR K H0 t kvs
theorem SlH.p{HB H0 H:Hp}{v:V}:∀ {s:Sl},SlH K HB H0 H v s->SlP K H0 H v s
 | .val _,h=>h
 | .own _,⟨a,vs,e,_,_,h1,h2⟩=>⟨a,vs,e,h1,h2⟩
 | .dct _,⟨a,vs,e,_,_,h1,h2⟩=>⟨a,vs,e,h1,h2⟩
theorem SlH.base{HB HB' H0 H:Hp}{v:V}(s:Same HB HB'):∀ {r:Sl},SlH K HB' H0 H v r->SlH K HB H0 H v r
 | .val _,h=>h
 | .own _,⟨a,vs,e,h0,h1,h2,h3⟩=>⟨a,vs,e,s.free h0,h1,h2,h3⟩
 | .dct _,⟨a,vs,e,h0,h1,h2,h3⟩=>⟨a,vs,e,s.free h0,h1,h2,h3⟩
theorem SlH.ext{HB H0 H H0' H':Hp}{v:V}(x:Ext H0 H H0' H'):∀ {r:Sl},SlH K HB H0 H v r->SlH K HB H0' H' v r
 | .val _,h=>Rep.same x.s0 h
 | .own _,⟨a,vs,e,h0,h1,h2,h3⟩=>⟨a,vs,e,h0,x.own a _ h2 CI h1,x.s _ _ h2,Reps.same x.s0 h3⟩
 | .dct _,⟨a,vs,e,h0,h1,h2,h3⟩=>⟨a,vs,e,h0,x.own a _ h2 CI h1,x.s _ _ h2,h3.same x.s0⟩
theorem SlP.ext{H0 H H0' H':Hp}{v:V}(x:Ext H0 H H0' H'):∀ {r:Sl},SlP K H0 H v r->SlP K H0' H' v r
 | .val _,h=>Rep.same x.s0 h
 | .own _,⟨a,vs,e,h2,h3⟩=>⟨a,vs,e,x.s _ _ h2,Reps.same x.s0 h3⟩
 | .dct _,⟨a,vs,e,h2,h3⟩=>⟨a,vs,e,x.s _ _ h2,h3.same x.s0⟩
theorem SlP.rep{H0 H:Hp}{v:V}(s:Same H0 H):∀ {r:Sl},SlP K H0 H v r->Rep K H v r.dat
 | .val _,h=>Rep.same s h
 | .own _,⟨a,vs,e,h2,h3⟩=>by subst e;exact .list (SqL.of h2) (Reps.same s h3)
 | .dct _,⟨a,vs,e,h2,h3⟩=>by subst e;exact (h3.same s).rep h2
theorem SlP.lst{H0 H:Hp}{v:V}{ds:List PyData}(s:Same H0 H):∀ {r:Sl},SlP K H0 H v r->r.dat = .list ds->∃a vs,v = .ref a/\SqL K H a vs/\Reps K H0 vs ds
 | .val _,h,e=>by
  cases h with
  | list h1 h2=>cases e;exact ⟨_,_,rfl,s.seq h1,h2⟩
  | _=>cases e
 | .own _,⟨a,vs,e,h2,h3⟩,e2=>by cases e2;exact ⟨a,vs,e,SqL.of h2,h3⟩
 | .dct _,_,e2=>by cases e2
theorem SlP.tup{H0 H:Hp}{v:V}{ds:List PyData}:∀ {r:Sl},SlP K H0 H v r->r.dat = .tuple ds->∃a vs,v = .ref a/\H0 a=some (.tup vs)/\Reps K H0 vs ds
 | .val _,h,e=>by
  cases h with
  | tuple h1 h2=>cases e;exact ⟨_,_,rfl,h1,h2⟩
  | _=>cases e
 | .own _,_,e=>by cases e
 | .dct _,_,e=>by cases e
theorem SlP.int{H0 H:Hp}{v:V}{i:Int}(h:SlP K H0 H v (.val (.int i))):v = .int i:=by cases (show Rep K H0 v (.int i) from h);rfl
theorem SlP.bool{H0 H:Hp}{v:V}{i:Bool}(h:SlP K H0 H v (.val (.bool i))):v = .bl i:=by cases (show Rep K H0 v (.bool i) from h);rfl
theorem SlP.none{H0 H:Hp}{v:V}(h:SlP K H0 H v (.val .none)):v = .non:=by cases (show Rep K H0 v .none from h);rfl
theorem r0{H:Hp}{v:V}{d:PyData}(h:Rep K H v d):v = .non↔d = .none:=by
 cases h <;> simp
structure ER (K:PySem.W.Frag) (HB H0 H:Hp) (σ:L2.St) (ρ:En):Prop where
 len:σ.length=ρ.length
 get:∀(i:Nat) s,ρ[i]? = some (some s)->∃v,σ[i]? = some (some v)/\SlH K HB H0 H v s
 apart:∀(i j:Nat) a ds es,i≠j->ρ[i]? = some (some (.own ds))->ρ[j]? = some (some (.own es))->σ[i]? = some (some (.ref a))->σ[j]? ≠ some (some (.ref a))
theorem ER.ext{HB H0 H H0' H':Hp}{σ:L2.St}{ρ:En}(x:Ext H0 H H0' H')(e:ER K HB H0 H σ ρ):ER K HB H0' H' σ ρ:=
 ⟨e.len,fun i s h=>by obtain ⟨v,h1,h2⟩:=e.get i s h;exact ⟨v,h1,h2.ext x⟩,e.apart⟩
structure Rl where
 r:Hp->Hp->Hp->L2.St->En->Prop
 slot:Nat->Prop
structure ST (R:Rl) (HB H0 H:Hp) (σ:L2.St) (ρ:En):Prop where
 r:R.r HB H0 H σ ρ
class RelOk (K:outParam PySem.W.Frag) (R:Rl):Prop where
 ext:∀ {HB H0 H H0' H':Hp} {σ:L2.St} {ρ:En},Ext H0 H H0' H'->R.r HB H0 H σ ρ->R.r HB H0' H' σ ρ
 get:∀ {HB H0 H:Hp} {σ:L2.St} {ρ:En} {i:Nat} {s:Sl},R.r HB H0 H σ ρ->R.slot i->ρ[i]? = some (some s)->∃v,σ[i]? = some (some v)/\SlH K HB H0 H v s
 set:∀ {HB H0 H H0' H':Hp} {σ:L2.St} {ρ:En} {i:Nat} {v:V} {s:Sl},R.r HB H0 H σ ρ->R.slot i->Ext H0 H H0' H'->Same HB H->SlH K H H0' H' v s->R.r HB H0' H' (σ.set i (some v)) (ρ.set i (some s))
 write:∀ {HB H0 H:Hp} {σ:L2.St} {ρ:En} {i:Nat} {a:Addr} {ds es:List PyData} {vs ys:List V},R.r HB H0 H σ ρ->R.slot i->ρ[i]? = some (some (.own ds))->σ[i]? = some (some (.ref a))->HB a=none->H0 a=none->H a=some (.lst vs)->Reps K H0 ys es->R.r HB H0 (upd H a (.lst ys)) σ (ρ.set i (some (.own es)))
 frz:∀ {S0 HB H0 H:Hp} {σ:L2.St} {ρ:En} {i:Nat} {ds:List PyData},R.r HB H0 H σ ρ->R.slot i->ρ[i]? = some (some (.own ds))->Ext S0 HB H0 H->∃H0',Ext S0 HB H0' H/\R.r HB H0' H σ (ρ.set i (some (.val (.list ds))))
theorem ST.ext{R:Rl} [RelOk K R] {HB H0 H H0' H':Hp} {σ:L2.St} {ρ:En} (x:Ext H0 H H0' H') (e:ST R HB H0 H σ ρ):ST R HB H0' H' σ ρ:=⟨RelOk.ext (K:=K) x e.r⟩
def PR(K:PySem.W.Frag):Rl:=⟨ER K,fun _=>True⟩
variable {R:Rl} [RelOk K R]
def RX{α:Type}(K:PySem.W.Frag)(R:Rl)(P:Hp->Hp->Hp->V->α->Prop)(te:TE)(f:En->Option α):Prop:=
 ∀(HB:Hp) (σ:L2.St) (ρ:En) (H0 H:Hp),Same H0 H->ST R HB H0 H σ ρ->∀r,f ρ=some r->∀Q:VK,(∀v H0' H',Ext H0 H H0' H'->P H H0' H' v r->Q v H')->te σ H Q
abbrev RE (K:PySem.W.Frag) (R:Rl):TE->(En->Option Sl)->Prop:=RX K R (fun H H0' H' v r=>SlH K H H0' H' v r)
abbrev RP (K:PySem.W.Frag) (R:Rl):TE->(En->Option Sl)->Prop:=RX K R (fun _ H0' H' v r=>SlP K H0' H' v r)
abbrev RV (K:PySem.W.Frag) (R:Rl):TE->(En->Option PyData)->Prop:=RX K R (fun _ H0' _ v d=>Rep K H0' v d)
def RT(K:PySem.W.Frag)(R:Rl)(tt:TT)(f:En->Option Bool):Prop:=
 ∀(HB:Hp) (σ:L2.St) (ρ:En) (H0 H:Hp),Same H0 H->ST R HB H0 H σ ρ->∀b,f ρ=some b->∀Q:Bool->Hp->Prop,(∀H0' H',Ext H0 H H0' H'->Q b H')->tt σ H Q
def RA(K:PySem.W.Frag)(R:Rl)(ta:TA)(f:En->Option (List PyData)):Prop:=
 ∀(HB:Hp) (σ:L2.St) (ρ:En) (H0 H:Hp),Same H0 H->ST R HB H0 H σ ρ->∀ds,f ρ=some ds->∀Q:List V->Hp->Prop,(∀vs H0' H',Ext H0 H H0' H'->Reps K H0' vs ds->Q vs H')->ta σ H Q
def RQ(K:PySem.W.Frag)(R:Rl)(ta:TA)(f:En->Option (List Sl)):Prop:=
 ∀(HB:Hp) (σ:L2.St) (ρ:En) (H0 H:Hp),Same H0 H->ST R HB H0 H σ ρ->∀ss,f ρ=some ss->∀Q:List V->Hp->Prop,(∀vs H0' H',Ext H0 H H0' H'->Paired (SlP K H0' H') vs ss->Q vs H')->ta σ H Q
theorem RE.rp{te:TE}{f:En->Option Sl}(h:RE K R te f):RP K R te f:=fun HB σ ρ H0 H s e r hr Q q=>h HB σ ρ H0 H s e r hr Q fun v H0' H' x p=>q v H0' H' x p.p
theorem bF{H0 H H0' H':Hp}{a:Addr}{w:HO}(x:Ext H0 H H0' H')(hn:H a=none)(h1:H0' a=none)(h2:H' a=some w):Ext H0 H (upd H0' a w) H' :=
 ⟨x.s,x.s0.trans (Same.upd h1 _),fun b u e=>by
  by_cases hb:b=a
  . subst hb;rw [BT] at e;rw [h2];exact e
  . rw [BE hb] at e;exact x.s1 b u e,fun b o hb m h0=>by
  rw [BE (BJ hb hn)];exact x.own b o hb m h0⟩
def mDat(f:En->Option Sl):En->Option PyData:=fun ρ=>(f ρ).map Sl.dat
theorem RE.rv{te:TE}{f:En->Option Sl}(h:RE K R te f):RV K R te (mDat f):=fun HB σ ρ H0 H s e d hd Q q=>by
 obtain ⟨r,hr,rfl⟩:=AH.mp hd;refine h HB σ ρ H0 H s e r hr Q fun v H0' H' x p=> ?_
 cases r with
 | val d=>exact q v H0' H' x p
 | own ds=>
  obtain ⟨a,vs,rfl,hn,h1,h2,h3⟩:=p
  exact q _ _ _ (bF x hn h1 h2) (.list (SqL.of BT) (Reps.same (Same.upd h1 _) h3))
 | dct kvs=>
  obtain ⟨a,t,rfl,hn,h1,h2,h3⟩:=p;exact q _ _ _ (bF x hn h1 h2) ((h3.same (Same.upd h1 _)).rep BT)
def mPk(i:Nat):En->Option Sl:=fun ρ=>(ρ[i]?).join
def mVar(i:Nat):En->Option Sl:=fun ρ=>match (ρ[i]?).join with
 | some (.val d)=>some (.val d)
 | _=>none
def mK(d:PyData):En->Option Sl:=fun _=>some (.val d)
theorem join_some{α:Type}{o:Option (Option α)}{a:α}(h:o.join=some a):o=some (some a):=by
 cases o with
 | none=>cases h
 | some b=>exact K0 some h
theorem wD(i:Nat)(hs:R.slot i):RP K R (Z1 i) (mPk i):=fun HB σ ρ H0 H s e r hr Q q=>by
 obtain ⟨v,h1,h2⟩:=RelOk.get (K:=K) e.r hs (join_some hr);exact ⟨v,h1,q v H0 H (Ext.refl s) h2.p⟩
theorem yO(i:Nat)(hs:R.slot i):RE K R (Z1 i) (mVar i):=fun HB σ ρ H0 H s e r hr Q q=>by
 unfold mVar at hr
 cases ej:(ρ[i]?).join with
 | none=>rw [ej] at hr;cases hr
 | some r' =>
  rw [ej] at hr
  cases r' with
  | own _=>cases hr
  | dct _=>cases hr
  | val d=>
   cases hr
   obtain ⟨v,h1,h2⟩:=RelOk.get (K:=K) e.r hs (join_some ej);exact ⟨v,h1,q v H0 H (Ext.refl s) h2⟩
theorem pY{v:V}{d:PyData}(h:∀H0:Hp,Rep K H0 v d):RE K R (tC v) (mK d):=fun HB σ ρ H0 H s e r hr Q q=>by
 cases hr
 exact q v H0 H (Ext.refl s) (h H0)
def OpD(K:PySem.W.Frag)(r:R2)(op:Sl->Sl->Option Sl):Prop:=
 ∀(H0 H:Hp) (x y:V) (sx sy z:Sl),Same H0 H->SlP K H0 H x sx->SlP K H0 H y sy->op sx sy=some z->∀Q:VK,(∀v H0' H',Ext H0 H H0' H'->SlH K H H0' H' v z->Q v H')->r x y H Q
def UnD(K:PySem.W.Frag)(r:V->Hp->VK->Prop)(op:Sl->Option Sl):Prop:=
 ∀(H0 H:Hp) (x:V) (sx z:Sl),Same H0 H->SlP K H0 H x sx->op sx=some z->∀Q:VK,(∀v H0' H',Ext H0 H H0' H'->SlH K H H0' H' v z->Q v H')->r x H Q
def mBin(op:Sl->Sl->Option Sl)(fa fb:En->Option Sl):En->Option Sl:=fun ρ=>(fa ρ).bind fun a=>(fb ρ).bind fun b=>op a b
def mUn(op:Sl->Option Sl)(fa:En->Option Sl):En->Option Sl:=fun ρ=>(fa ρ).bind op
theorem WA{r:R2}{op:Sl->Sl->Option Sl}{ta tb:TE}{fa fb:En->Option Sl}(ho:OpD K r op)(ha:RP K R ta fa)(hb:RP K R tb fb):RE K R (tOp r ta tb) (mBin op fa fb):=fun HB σ ρ H0 H s e z hz Q q=>by
 obtain ⟨x,hx,hz⟩:=A3.mp hz;obtain ⟨y,hy,hz⟩:=A3.mp hz;refine ha HB σ ρ H0 H s e x hx _ fun v H1 J1 x1 p1=> ?_;refine hb HB σ ρ H1 J1 x1.s1 (e.ext (K:=K) x1) y hy _ fun u H2 J2 x2 p2=> ?_;exact ho H2 J2 v u x y z x2.s1 (p1.ext x2) p2 hz Q fun w H3 J3 x3 p3=>q w H3 J3 ((x1.trans x2).trans x3) (p3.base (x1.trans x2).s)
theorem zY{r:V->Hp->VK->Prop}{op:Sl->Option Sl}{ta:TE}{fa:En->Option Sl}(ho:UnD K r op)(ha:RP K R ta fa):RE K R (tUn r ta) (mUn op fa):=fun HB σ ρ H0 H s e z hz Q q=>by
 obtain ⟨x,hx,hz⟩:=A3.mp hz;refine ha HB σ ρ H0 H s e x hx _ fun v H1 J1 x1 p1=> ?_;exact ho H1 J1 v x z x1.s1 p1 hz Q fun w H3 J3 x3 p3=>q w H3 J3 (x1.trans x3) (p3.base x1.s)
def iop(g:Int->Int->Int):Sl->Sl->Option Sl
 | .val (.int i), .val (.int j)=>some (.val (.int (g i j)))
 | _,_=>none
open Classical in
noncomputable def YC(C:Int->Int->Prop)(g:Int->Int->Int):Sl->Sl->Option Sl
 | .val (.int i), .val (.int j)=>if C i j then some (.val (.int (g i j))) else none
 | _,_=>none
def icmp(g:Int->Int->Bool):Sl->Sl->Option Sl
 | .val (.int i), .val (.int j)=>some (.val (.bool (g i j)))
 | _,_=>none
def iun(g:Int->Int):Sl->Option Sl
 | .val (.int i)=>some (.val (.int (g i)))
 | _=>none
theorem pJ{g:Int->Int->Int}:OpD K (rI0 fun i j=> .int (g i j)) (iop g):=fun H0 H x y sx sy z s px py hz Q q=>by
 unfold iop at hz
 split at hz
 . cases hz
   exact ⟨_,_,px.int,py.int,q _ _ _ (Ext.refl s) (.int _)⟩
 . cases hz
theorem SL{C:Int->Int->Prop}{g:Int->Int->Int}:OpD K (rI C fun i j=> .int (g i j)) (YC C g):=fun H0 H x y sx sy z s px py hz Q q=>by
 unfold YC at hz
 split at hz
 . split at hz
   . rename_i hc
     cases hz
     exact ⟨_,_,px.int,py.int,hc,q _ _ _ (Ext.refl s) (.int _)⟩
   . cases hz
 . cases hz
theorem SS{g:Int->Int->Bool}:OpD K (rI0 fun i j=> .bl (g i j)) (icmp g):=fun H0 H x y sx sy z s px py hz Q q=>by
 unfold icmp at hz
 split at hz
 . cases hz
   exact ⟨_,_,px.int,py.int,q _ _ _ (Ext.refl s) (.bool _)⟩
 . cases hz
theorem rL{g:Int->Int}:UnD K (rU fun i=> .int (g i)) (iun g):=fun H0 H x sx z s px hz Q q=>by
 unfold iun at hz
 split at hz
 . cases hz
   exact ⟨_,px.int,q _ _ _ (Ext.refl s) (.int _)⟩
 . cases hz
def eqD(a b:PyData):Option Bool:=if a.canLay0=true/\b.canLay0=true/\min a.depth b.depth<=60 then some (PyData.eqv a b) else none
def deq:Sl->Sl->Option Sl:=fun a b=>(eqD a.dat b.dat).map fun k=> .val (.bool k)
def dne:Sl->Sl->Option Sl:=fun a b=>(eqD a.dat b.dat).map fun k=> .val (.bool (!k))
theorem iQ:OpD K (A03 K) deq:=fun H0 H x y sx sy z s px py hz Q q=>by
 obtain ⟨k,hk,rfl⟩:=Option.map_eq_some_iff.mp hz;unfold eqD at hk
 split at hk
 . rename_i hc
   cases hk
   exact ⟨_,_,px.rep s,py.rep s,hc.1,hc.2.1,hc.2.2,q _ _ _ (Ext.refl s) (.bool _)⟩
 . cases hk
theorem vS:OpD K (zS K) dne:=fun H0 H x y sx sy z s px py hz Q q=>by
 obtain ⟨k,hk,rfl⟩:=Option.map_eq_some_iff.mp hz;unfold eqD at hk
 split at hk
 . rename_i hc
   cases hk
   exact ⟨_,_,px.rep s,py.rep s,hc.1,hc.2.1,hc.2.2,q _ _ _ (Ext.refl s) (.bool _)⟩
 . cases hk
def isNone:PyData->Bool
 | .none=>true
 | _=>false
def disN:Sl->Sl->Option Sl
 | a, .val .none=>some (.val (.bool (isNone a.dat)))
 | _,_=>none
def disNN:Sl->Sl->Option Sl
 | a, .val .none=>some (.val (.bool (!isNone a.dat)))
 | _,_=>none
theorem dZ{H0 H:Hp}{v:V}{r:Sl}(s:Same H0 H)(p:SlP K H0 H v r):decide (v = .non)=isNone r.dat:=by
 have h:=r0 (p.rep s)
 cases e:r.dat <;> simp_all [isNone]
theorem nO:OpD K (fun x y H Q=>y = .non/\Q (.bl (decide (x = .non))) H) disN:=fun H0 H x y sx sy z s px py hz Q q=>by
 unfold disN at hz
 split at hz
 . cases hz
   refine ⟨py.none,?_⟩;rw [dZ s px];exact q _ _ _ (Ext.refl s) (.bool _)
 . cases hz
def dix:Sl->Sl->Option Sl
 | a, .val (.int i)=>match a.dat with
  | .list ds=>(atI ds i).map .val
  | .tuple ds=>(atI ds i).map .val
  | _=>none
 | _,_=>none
theorem Reps.atI{H:Hp}{vs:List V}{ds:List PyData}{i:Int}{d:PyData}(h:Reps K H vs ds)(e:atI ds i=some d):∃v,atI vs i=some v/\Rep K H v d:=by
 unfold L2.atI at e ⊢
 rw [h.length]
 cases ej:ixN ds.length i with
 | none=>rw [ej] at e;cases e
 | some j=>
  rw [ej] at e
  obtain ⟨v,h1,h2⟩:=Tf.Reps.get h (show ds[j]? = some d from e);exact ⟨v,h1,h2⟩
theorem yX:OpD K (rIx K) dix:=fun H0 H x y sx sy z s px py hz Q q=>by
 unfold dix at hz
 split at hz
 . split at hz
   . rename_i i ds hd;obtain ⟨d,he,rfl⟩:=AH.mp hz;obtain ⟨a,vs,rfl,h1,h2⟩:=px.lst s hd;obtain ⟨v,h3,h4⟩:=Reps.atI h2 he;exact .inl ⟨a,vs,_,v,rfl,py.int,h1,h3,q _ _ _ (Ext.refl s) h4⟩
   . rename_i i ds hd;obtain ⟨d,he,rfl⟩:=AH.mp hz;obtain ⟨a,vs,rfl,h1,h2⟩:=px.tup hd;obtain ⟨v,h3,h4⟩:=Reps.atI h2 he;exact .inr (.inl ⟨a,vs,_,v,rfl,py.int,s.seqT (SqT.of h1),h3,q _ _ _ (Ext.refl s) h4⟩)
   . cases hz
 . cases hz
end
end Dm
namespace Dm
open PySem PySem.Spec PyProof.Rows L2 Tf
section
variable {K:PySem.W.Frag} {R:Rl} [RelOk K R]
def mNil:En->Option (List PyData):=fun _=>some []
def mCons(f:En->Option Sl)(g:En->Option (List PyData)):En->Option (List PyData):=fun ρ=>(f ρ).bind fun a=>(g ρ).bind fun as=>some (a.dat::as)
theorem xS:RA K R tNil mNil:=fun HB σ ρ H0 H s e ds hd Q q=>by
 cases hd
 exact q [] H0 H (Ext.refl s) .nil
theorem oW{te:TE}{ta:TA}{f:En->Option Sl}{g:En->Option (List PyData)}(hf:RE K R te f)(hg:RA K R ta g):RA K R (NT te ta) (mCons f g):=fun HB σ ρ H0 H s e ds hd Q q=>by
 obtain ⟨a,ha,hd⟩:=A3.mp hd;obtain ⟨as,has,hd⟩:=A3.mp hd
 cases hd
 refine hf.rv HB σ ρ H0 H s e a.dat (by unfold mDat;rw [ha];rfl) _ fun v H1 J1 x1 p1=> ?_;exact hg HB σ ρ H1 J1 x1.s1 (e.ext (K:=K) x1) as has _ fun vs H2 J2 x2 p2=>q _ H2 J2 (x1.trans x2) (.cons (Rep.same x2.s0 p1) p2)
def mNilP:En->Option (List Sl):=fun _=>some []
def mConsP(f:En->Option Sl)(g:En->Option (List Sl)):En->Option (List Sl):=fun ρ=>(f ρ).bind fun a=>(g ρ).bind fun as=>some (a::as)
theorem vA:RQ K R tNil mNilP:=fun HB σ ρ H0 H s e ds hd Q q=>by
 cases hd
 exact q [] H0 H (Ext.refl s) .nil
theorem nG{te:TE}{ta:TA}{f:En->Option Sl}{g:En->Option (List Sl)}(hf:RP K R te f)(hg:RQ K R ta g):RQ K R (NT te ta) (mConsP f g):=fun HB σ ρ H0 H s e ds hd Q q=>by
 obtain ⟨a,ha,hd⟩:=A3.mp hd;obtain ⟨as,has,hd⟩:=A3.mp hd
 cases hd
 refine hf HB σ ρ H0 H s e a ha _ fun v H1 J1 x1 p1=> ?_;exact hg HB σ ρ H1 J1 x1.s1 (e.ext (K:=K) x1) as has _ fun vs H2 J2 x2 p2=>q _ H2 J2 (x1.trans x2) (.cons (p1.ext x2) p2)
def mTup(f:En->Option (List PyData)):En->Option Sl:=fun ρ=>(f ρ).bind fun ds=>if ds.length<=sizeLine then some (.val (.tuple ds)) else none
def mLst(f:En->Option (List PyData)):En->Option Sl:=fun ρ=>(f ρ).bind fun ds=>if ds.length<=sizeLine then some (.own ds) else none
theorem wM{ta:TA}{f:En->Option (List PyData)}(h:RA K R ta f):RE K R (A46 ta) (mTup f):=fun HB σ ρ H0 H s e z hz Q q=>by
 obtain ⟨ds,hd,hz⟩:=A3.mp hz
 split at hz
 . rename_i hl
   cases hz
   refine h HB σ ρ H0 H s e ds hd _ fun vs H1 J1 x1 p1=>⟨by rw [p1.length];exact hl,fun p hp=> ?_⟩;exact q _ _ _ (x1.trans (Ext.allocF x1.s1 hp _)) (.tuple BT (Reps.same (Same.upd (x1.s1.free hp) _) p1))
 . cases hz
theorem vB{ta:TA}{f:En->Option (List PyData)}(h:RA K R ta f):RE K R (zZ ta) (mLst f):=fun HB σ ρ H0 H s e z hz Q q=>by
 obtain ⟨ds,hd,hz⟩:=A3.mp hz
 split at hz
 . rename_i hl
   cases hz
   refine h HB σ ρ H0 H s e ds hd _ fun vs H1 J1 x1 p1=>⟨by rw [p1.length];exact hl,fun p hp=> ?_⟩;exact q _ _ _ (x1.trans (Ext.alloc x1.s1 hp _)) ⟨p,vs,rfl,x1.s.free hp,x1.s1.free hp,BT,p1⟩
 . cases hz
def spD(K:PySem.W.Frag)(F:List PyData->Option Sl):Sp:=fun vs H Q _=>∃H0 ds r,Same H0 H/\Reps K H0 vs ds/\F ds=some r/\∀v H0' H',Ext H0 H H0' H'->SlH K H H0' H' v r->Q v H'
def mCall(F:List PyData->Option Sl)(f:En->Option (List PyData)):En->Option Sl:=fun ρ=>(f ρ).bind F
theorem oX{F:List PyData->Option Sl}{E:XK}{ta:TA}{f:En->Option (List PyData)}(h:RA K R ta f):RE K R (iL (spD K F) [] E ta) (mCall F f):=fun HB σ ρ H0 H s e z hz Q q=>by
 obtain ⟨ds,hd,hz⟩:=A3.mp hz;refine h HB σ ρ H0 H s e ds hd _ fun vs H1 J1 x1 p1=> ?_;rw [E4];exact ⟨H1,ds,z,x1.s1,p1,hz,fun v H2 J2 x2 p2=>q v H2 J2 (x1.trans x2) (p2.base x1.s)⟩
def LV(K:PySem.W.Frag)(r:List V->Hp->VK->Prop)(F:List Sl->Option Sl):Prop:=
 ∀(H0 H:Hp) (vs:List V) (ss:List Sl) (z:Sl),Same H0 H->Paired (SlP K H0 H) vs ss->F ss=some z->∀Q:VK,(∀v H0' H',Ext H0 H H0' H'->SlH K H H0' H' v z->Q v H')->r vs H Q
def mCallP(F:List Sl->Option Sl)(f:En->Option (List Sl)):En->Option Sl:=fun ρ=>(f ρ).bind F
theorem WP{r:List V->Hp->VK->Prop}{F:List Sl->Option Sl}{ta:TA}{f:En->Option (List Sl)}(hc:LV K r F)(h:RQ K R ta f):RE K R (tCB r ta) (mCallP F f):=fun HB σ ρ H0 H s e z hz Q q=>by
 obtain ⟨ss,hd,hz⟩:=A3.mp hz;refine h HB σ ρ H0 H s e ss hd _ fun vs H1 J1 x1 p1=> ?_;exact hc H1 J1 vs ss z x1.s1 p1 hz Q fun v H2 J2 x2 p2=>q v H2 J2 (x1.trans x2) (p2.base x1.s)
theorem HC{H0 H:Hp}{vs:List V}{a:Sl}(h:Paired (SlP K H0 H) vs [a]):∃v,vs = [v]/\SlP K H0 H v a:=by
 cases h with | cons h t=>cases t;exact ⟨_,rfl,h⟩
theorem qS{H0 H:Hp}{vs:List V}{a b:Sl}(h:Paired (SlP K H0 H) vs [a,b]):∃v w,vs = [v,w]/\SlP K H0 H v a/\SlP K H0 H w b:=by
 cases h with | cons h t=>cases t with | cons h2 t=>cases t;exact ⟨_,_,rfl,h,h2⟩
def dLen:List Sl->Option Sl
 | [a]=>match a.dat with
  | .list ds=>some (.val (.int ds.length))
  | .tuple ds=>some (.val (.int ds.length))
  | _=>none
 | _=>none
theorem HI:LV K (fun xs H Q=>∃p ys,xs = [.ref p]/\(SqL K H p ys\/SqT K H p ys)/\Q (.int ys.length) H) dLen:=fun H0 H vs ss z s p hz Q q=>by
 unfold dLen at hz
 split at hz
 . obtain ⟨v,rfl,pa⟩:=HC p
   split at hz
   . rename_i ds hd
     cases hz
     obtain ⟨a,vs,rfl,h1,h2⟩:=pa.lst s hd;refine ⟨a,vs,rfl, .inl h1,?_⟩;rw [h2.length];exact q _ _ _ (Ext.refl s) (.int _)
   . rename_i ds hd
     cases hz
     obtain ⟨a,vs,rfl,h1,h2⟩:=pa.tup hd;refine ⟨a,vs,rfl, .inr (s.seqT (SqT.of h1)),?_⟩;rw [h2.length];exact q _ _ _ (Ext.refl s) (.int _)
   . cases hz
 . cases hz
def dAbs:List Sl->Option Sl
 | [.val (.int i)]=>some (.val (.int (if i<0 then -i else i)))
 | _=>none
def dList:List Sl->Option Sl
 | [a]=>match a.dat with
  | .list ds=>some (.own ds)
  | .tuple ds=>some (.own ds)
  | _=>none
 | _=>none
theorem VO:LV K (fun xs H Q=>∃p ys,xs = [.ref p]/\(SqL K H p ys\/SqT K H p ys)/\∀l,H l=none->Q (.ref l) (upd H l (.lst ys))) dList:=fun H0 H vs ss z s p hz Q q=>by
 unfold dList at hz
 split at hz
 . obtain ⟨v,rfl,pa⟩:=HC p
   split at hz
   . rename_i ds hd
     cases hz
     obtain ⟨a,vs,rfl,h1,h2⟩:=pa.lst s hd;exact ⟨a,vs,rfl, .inl h1,fun l hl=>q _ _ _ (Ext.alloc s hl _) ⟨l,vs,rfl,hl,s.free hl,BT,h2⟩⟩
   . rename_i ds hd
     cases hz
     obtain ⟨a,vs,rfl,h1,h2⟩:=pa.tup hd;exact ⟨a,vs,rfl, .inr (s.seqT (SqT.of h1)),fun l hl=>q _ _ _ (Ext.alloc s hl _) ⟨l,vs,rfl,hl,s.free hl,BT,h2⟩⟩
   . cases hz
 . cases hz
def dTuple:List Sl->Option Sl
 | [a]=>match a.dat with
  | .list ds=>some (.val (.tuple ds))
  | .tuple ds=>some (.val (.tuple ds))
  | _=>none
 | _=>none
theorem LQ:LV K (fun xs H Q=>∃p ys,xs = [.ref p]/\((SqL K H p ys/\∀l,H l=none->Q (.ref l) (upd H l (.tup ys)))\/(SqT K H p ys/\Q (.ref p) H))) dTuple:=fun H0 H vs ss z s p hz Q q=>by
 unfold dTuple at hz
 split at hz
 . obtain ⟨v,rfl,pa⟩:=HC p
   split at hz
   . rename_i ds hd
     cases hz
     obtain ⟨a,vs,rfl,h1,h2⟩:=pa.lst s hd;exact ⟨a,vs,rfl, .inl ⟨h1,fun l hl=>q _ _ _ (Ext.allocF s hl _) (.tuple BT (Reps.same (Same.upd (s.free hl) _) h2))⟩⟩
   . rename_i ds hd
     cases hz
     obtain ⟨a,vs,rfl,h1,h2⟩:=pa.tup hd;exact ⟨a,vs,rfl, .inr ⟨s.seqT (SqT.of h1),q _ _ _ (Ext.refl s) (.tuple h1 h2)⟩⟩
   . cases hz
 . cases hz
def FT:List PyData->Option (List Int)
 | []=>some []
 | .int i::r=>(FT r).map (i :: ·)
 | _::_=>none
theorem LN:∀ {ds:List PyData} {ns:List Int},FT ds=some ns->ds=ns.map .int
 | [],ns,h=>by cases h;rfl
 | .int i::r,ns,h=>by
  obtain ⟨ms,h1,rfl⟩:=AH.mp (show (FT r).map (i :: ·)=some ns from h);rw [LN h1];rfl
theorem SA:∀ns:List Int,FT (ns.map .int)=some ns
 | []=>rfl
 | i::r=>by show (FT (r.map .int)).map (i :: ·)=_;rw [SA r];rfl
theorem NM{H:Hp}:∀ {vs:List V} {ns:List Int},Reps K H vs (ns.map .int)->vs=ns.map .int
 | _,[],h=>by cases h;rfl
 | _,n::r,h=>by
  cases h with
  | cons h t=>cases h;rw [NM t];rfl
def dSum:List Sl->Option Sl
 | [a]=>match a.dat with
  | .list ds=>(FT ds).map fun ns=> .val (.int (List.sum ns))
  | _=>none
 | _=>none
theorem kZ:LV K (fun xs H Q=>∃p ns,xs = [.ref p]/\SqL K H p (ns.map V.int)/\Q (.int (List.sum ns)) H) dSum:=fun H0 H vs ss z s p hz Q q=>by
 unfold dSum at hz
 split at hz
 . obtain ⟨v,rfl,pa⟩:=HC p
   split at hz
   . rename_i ds hd;obtain ⟨ns,hn,rfl⟩:=AH.mp hz;obtain ⟨a,vs,rfl,h1,h2⟩:=pa.lst s hd;rw [LN hn] at h2
     rw [NM h2] at h1
     exact ⟨a,ns,rfl,h1,q _ _ _ (Ext.refl s) (.int _)⟩
   . cases hz
 . cases hz
def dInt:List Sl->Option Sl
 | [.val (.int i)]=>some (.val (.int i))
 | [.val (.bool k)]=>some (.val (.int (if k then 1 else 0)))
 | _=>none
theorem wC:LV K (fun xs H Q=>(∃i,xs = [.int i]/\Q (.int i) H)\/∃k,xs = [.bl k]/\Q (.int (if k then 1 else 0)) H) dInt:=fun H0 H vs ss z s p hz Q q=>by
 unfold dInt at hz
 split at hz
 . obtain ⟨v,rfl,pa⟩:=HC p
   cases hz
   exact .inl ⟨_,by rw [pa.int],q _ _ _ (Ext.refl s) (.int _)⟩
 . obtain ⟨v,rfl,pa⟩:=HC p
   cases hz
   exact .inr ⟨_,by rw [pa.bool],q _ _ _ (Ext.refl s) (.int _)⟩
 . cases hz
def tyD:PyData->Option String
 | .none=>some "NoneType"
 | .bool _=>some "bool"
 | .int _=>some "int"
 | .str _=>some "str"
 | .list _=>some "list"
 | .tuple _=>some "tuple"
 | _=>none
theorem xQ{H:Hp}{v:V}{d:PyData}(h:Rep K H v d)(hn:(tyD d).isSome=true):∃t,tyD d=some t/\TyV K H v t:=by
 cases h with
 | none=>exact ⟨_,rfl, .non⟩
 | bool b=>exact ⟨_,rfl, .bl b⟩
 | int i=>exact ⟨_,rfl, .int i⟩
 | str x=>exact ⟨_,rfl, .str x⟩
 | list h _=>exact ⟨_,rfl, .lst h⟩
 | tuple h _=>exact ⟨_,rfl, .tup (SqT.of h)⟩
 | dict h _ _=>cases hn
 | dictF h _ _=>cases hn
def isiD(n:String)(t:String):Option Bool:=
 if n = "int" then some (t == "int" || t == "bool") else if n = "bool" \/ n = "str" \/ n = "list" \/ n = "tuple" then some (t==n) else none
def mIsi(n:String)(f:En->Option Sl):En->Option Sl:=fun ρ=>(f ρ).bind fun a=>(tyD a.dat).bind fun t=>(isiD n t).map fun b=> .val (.bool b)
theorem vX {te:TE} {f:En->Option Sl} {n:String} (hk:∀t b,isiD n t=some b->(t = "NoneType" \/ t = "bool" \/ t = "int" \/ t = "str" \/ t = "list" \/ t = "tuple")->PySem.W.kitOne K (.type t) (.type n)=some b) (h:RP K R te f):RE K R (tCB (A47 K) (NT te (NT (tC (.ty n)) tNil))) (mIsi n f):=fun HB σ ρ H0 H s e z hz Q q=>by
 obtain ⟨a,ha,hz⟩:=A3.mp hz;obtain ⟨t,ht,hz⟩:=A3.mp hz;obtain ⟨b,hb,rfl⟩:=AH.mp hz;refine h HB σ ρ H0 H s e a ha _ fun v H1 J1 x1 p1=> ?_;obtain ⟨t',ht',ty⟩:=xQ (p1.rep x1.s1) (by rw [ht];rfl);rw [ht] at ht'
 cases ht'
 refine ⟨v,n,t,b,rfl,ty,hk t b hb ?_,q _ _ _ x1 (.bool _)⟩
 cases ty <;> simp
def mTest(f:En->Option Sl):En->Option Bool:=fun ρ=>(f ρ).bind fun a=>match a with
 | .val (.bool b)=>some b
 | _=>none
theorem M5{f:En->Option Sl}{ρ:En}{b:Bool}(h:mTest f ρ=some b):f ρ=some (.val (.bool b)):=by
 obtain ⟨a,ha,h⟩:=A3.mp h;rw [ha]
 split at h
 . cases h;rfl
 . cases h
theorem bW{te:TE}{f:En->Option Sl}(h:RP K R te f):RT K R (tX te) (mTest f):=fun HB σ ρ H0 H s e b hb Q q=>
 h HB σ ρ H0 H s e _ (M5 hb) _ fun v H1 J1 x1 p1=>⟨b,p1.bool,q _ _ x1⟩
theorem A82{te:TE}{f:En->Option Sl}(h:RP K R te f):RT K R (tB te) (mTest f):=fun HB σ ρ H0 H s e b hb Q q=>
 h HB σ ρ H0 H s e _ (M5 hb) _ fun v H1 J1 x1 p1=>⟨b,p1.bool,q _ _ x1⟩
def mAnd(f g:En->Option Bool):En->Option Bool:=fun ρ=>(f ρ).bind fun b=>if b then g ρ else some false
def mOr(f g:En->Option Bool):En->Option Bool:=fun ρ=>(f ρ).bind fun b=>if b then some true else g ρ
def mNot(f:En->Option Bool):En->Option Bool:=fun ρ=>(f ρ).map (!·)
theorem wG{t u:TT}{f g:En->Option Bool}(h:RT K R t f)(k:RT K R u g):RT K R (A18 t u) (mAnd f g):=fun HB σ ρ H0 H s e b hb Q q=>by
 obtain ⟨c,hc,hb⟩:=A3.mp hb;refine h HB σ ρ H0 H s e c hc _ fun H1 J1 x1=> ?_
 cases c with
 | true=>exact ZK (k HB σ ρ H1 J1 x1.s1 (e.ext (K:=K) x1) b hb Q fun H2 J2 x2=>q _ _ (x1.trans x2))
 | false=>cases hb;exact Z3 (q _ _ x1)
theorem A00{t u:TT}{f g:En->Option Bool}(h:RT K R t f)(k:RT K R u g):RT K R (tOr t u) (mOr f g):=fun HB σ ρ H0 H s e b hb Q q=>by
 obtain ⟨c,hc,hb⟩:=A3.mp hb;refine h HB σ ρ H0 H s e c hc _ fun H1 J1 x1=> ?_
 cases c with
 | false=>exact Z3 (k HB σ ρ H1 J1 x1.s1 (e.ext (K:=K) x1) b hb Q fun H2 J2 x2=>q _ _ (x1.trans x2))
 | true=>cases hb;exact ZK (q _ _ x1)
theorem y0{t:TT}{f:En->Option Bool}(h:RT K R t f):RT K R (zT t) (mNot f):=fun HB σ ρ H0 H s e b hb Q q=>by
 obtain ⟨c,hc,rfl⟩:=AH.mp hb;exact h HB σ ρ H0 H s e c hc _ fun H1 J1 x1=>q _ _ x1
def mAndV(f g:En->Option Sl):En->Option Sl:=fun ρ=>(mTest f ρ).bind fun b=>if b then g ρ else some (.val (.bool false))
def mOrV(f g:En->Option Sl):En->Option Sl:=fun ρ=>(mTest f ρ).bind fun b=>if b then some (.val (.bool true)) else g ρ
def mNotV(f:En->Option Sl):En->Option Sl:=fun ρ=>(mTest f ρ).map fun b=> .val (.bool (!b))
theorem pH{t u:TE}{f g:En->Option Sl}(h:RP K R t f)(k:RE K R u g):RE K R (sL t u) (mAndV f g):=fun HB σ ρ H0 H s e z hz Q q=>by
 obtain ⟨c,hc,hz⟩:=A3.mp hz;refine h HB σ ρ H0 H s e _ (M5 hc) _ fun v H1 J1 x1 p1=>⟨c,p1.bool,?_⟩
 cases c with
 | true=>exact ZK (k HB σ ρ H1 J1 x1.s1 (e.ext (K:=K) x1) z hz Q fun v H2 J2 x2 p2=>q _ _ _ (x1.trans x2) (p2.base x1.s))
 | false=>cases hz;exact Z3 (q _ _ _ x1 (.bool _))
theorem qY{t:TE}{f:En->Option Sl}(h:RP K R t f):RE K R (t9 t) (mNotV f):=fun HB σ ρ H0 H s e z hz Q q=>by
 obtain ⟨c,hc,rfl⟩:=AH.mp hz;exact h HB σ ρ H0 H s e _ (M5 hc) _ fun v H1 J1 x1 p1=>⟨c,p1.bool,q _ _ _ x1 (.bool _)⟩
def mIfE(c:En->Option Bool)(f g:En->Option Sl):En->Option Sl:=fun ρ=>(c ρ).bind fun b=>if b then f ρ else g ρ
theorem xV{c:TT}{t u:TE}{fc:En->Option Bool}{f g:En->Option Sl}(hc:RT K R c fc)(h:RE K R t f)(k:RE K R u g):RE K R (tIf c t u) (mIfE fc f g):=fun HB σ ρ H0 H s e z hz Q q=>by
 obtain ⟨b,hb,hz⟩:=A3.mp hz;refine hc HB σ ρ H0 H s e b hb _ fun H1 J1 x1=> ?_
 cases b with
 | true=>exact ZK (h HB σ ρ H1 J1 x1.s1 (e.ext (K:=K) x1) z hz Q fun v H2 J2 x2 p2=>q _ _ _ (x1.trans x2) (p2.base x1.s))
 | false=>exact Z3 (k HB σ ρ H1 J1 x1.s1 (e.ext (K:=K) x1) z hz Q fun v H2 J2 x2 p2=>q _ _ _ (x1.trans x2) (p2.base x1.s))
def RO(K:PySem.W.Frag)(R:Rl)(to:TO)(f:En->Option (Option Int)):Prop:=
 ∀(HB:Hp) (σ:L2.St) (ρ:En) (H0 H:Hp),Same H0 H->ST R HB H0 H σ ρ->∀o,f ρ=some o->∀Q:Option Int->Hp->Prop,(∀H0' H',Ext H0 H H0' H'->Q o H')->to σ H Q
def mNoPart:En->Option (Option Int):=fun _=>some none
def mPart(f:En->Option Sl):En->Option (Option Int):=fun ρ=>(f ρ).bind fun a=>match a with
 | .val (.int i)=>some (some i)
 | _=>none
theorem pK:RO K R tNoPart mNoPart:=fun HB σ ρ H0 H s e o ho Q q=>by cases ho;exact q _ _ (Ext.refl s)
theorem qQ{te:TE}{f:En->Option Sl}(h:RP K R te f):RO K R (tM te) (mPart f):=fun HB σ ρ H0 H s e o ho Q q=>by
 obtain ⟨a,ha,ho⟩:=A3.mp ho
 split at ho
 . cases ho
   exact h HB σ ρ H0 H s e _ ha _ fun v H1 J1 x1 p1=>⟨_,p1.int,q _ _ x1⟩
 . cases ho
def JB{α:Type}(xs:List α)(lo hi:Option Int):List α:=(xs.drop (HT.sIx xs.length 0 lo)).take (HT.sIx xs.length xs.length hi - HT.sIx xs.length 0 lo)
theorem Reps.drop{H:Hp}:∀ {vs:List V} {ds:List PyData} (n:Nat),Reps K H vs ds->Reps K H (vs.drop n) (ds.drop n)
 | _,_,0,h=>h
 | _,_,_+1, .nil=> .nil
 | _,_,n+1, .cons _ t=>Reps.drop n t
theorem Reps.take{H:Hp}:∀ {vs:List V} {ds:List PyData} (n:Nat),Reps K H vs ds->Reps K H (vs.take n) (ds.take n)
 | _,_,0,_=> .nil
 | _,_,_+1, .nil=> .nil
 | _,_,n+1, .cons h t=> .cons h (Reps.take n t)
theorem Reps.cut{H:Hp}{vs:List V}{ds:List PyData}(h:Reps K H vs ds)(lo hi:Option Int):Reps K H (XA vs lo hi) (JB ds lo hi):=by
 unfold XA JB;rw [h.length];exact Reps.take _ (Reps.drop _ h)
def dSl(a:Sl)(lo hi:Option Int):Option Sl:=match a.dat with
 | .list ds=>some (.own (JB ds lo hi))
 | .tuple ds=>if HT.sIx ds.length 0 lo=0/\HT.sIx ds.length ds.length hi=ds.length then none else some (.val (.tuple (JB ds lo hi)))
 | _=>none
def mSl(f:En->Option Sl)(l h:En->Option (Option Int)):En->Option Sl:=fun ρ=>(f ρ).bind fun a=>(l ρ).bind fun lo=>(h ρ).bind fun hi=>dSl a lo hi
theorem A53{te:TE}{tl th:TO}{f:En->Option Sl}{fl fh:En->Option (Option Int)}(h:RP K R te f)(hl:RO K R tl fl)(hh:RO K R th fh):RE K R (tSl (fun x lo hi H Q=>A29 K x lo hi H Q\/zV K x lo hi H Q) te tl th) (mSl f fl fh):=fun HB σ ρ H0 H s e z hz Q q=>by
 obtain ⟨a,ha,hz⟩:=Option.bind_eq_some_iff.mp hz;obtain ⟨lo,hlo,hz⟩:=Option.bind_eq_some_iff.mp hz;obtain ⟨hi,hhi,hz⟩:=Option.bind_eq_some_iff.mp hz;refine h HB σ ρ H0 H s e a ha _ fun v H1 J1 x1 p1=> ?_;refine hl HB σ ρ H1 J1 x1.s1 (e.ext (K:=K) x1) lo hlo _ fun H2 J2 x2=> ?_;refine hh HB σ ρ H2 J2 x2.s1 ((e.ext (K:=K) x1).ext (K:=K) x2) hi hhi _ fun H3 J3 x3=> ?_;have x:=(x1.trans x2).trans x3;have p:=p1.ext (x2.trans x3);unfold dSl at hz
 split at hz
 . rename_i ds hd
   cases hz
   obtain ⟨b,vs,rfl,h1,h2⟩:=p.lst x.s1 hd;exact .inl ⟨b,vs,rfl,h1,fun l hl=>q _ _ _ (x.trans (Ext.alloc x.s1 hl _)) ⟨l,_,rfl,x.s.free hl,x.s1.free hl,BT,Reps.cut h2 lo hi⟩⟩
 . rename_i ds hd
   split at hz
   . cases hz
   . rename_i hw
     cases hz
     obtain ⟨b,vs,rfl,h1,h2⟩:=p.tup hd;refine .inr ⟨b,vs,rfl,x.s1.seqT (SqT.of h1),by rw [h2.length];exact hw,fun l hl=>q _ _ _ (x.trans (Ext.allocF x.s1 hl _)) (.tuple BT (Reps.same (Same.upd (x.s1.free hl) _) (Reps.cut h2 lo hi)))⟩
 . cases hz
end
end Dm
namespace Dm
open PySem PySem.Spec PyProof.Rows L2 Tf
inductive Out where
 | nx (ρ:En) | rt (r:Sl) (ρ:En) | bk (ρ:En) | ct (ρ:En)
section
variable {K:PySem.W.Frag} {R:Rl} [RelOk K R]
def A76(K:PySem.W.Frag)(R:Rl)(HB S0:Hp)(D:Ends):Out->Prop
 | .nx ρ=>∀σ H0 H,Ext S0 HB H0 H->ST R HB H0 H σ ρ->D.nx σ H
 | .bk ρ=>∀σ H0 H,Ext S0 HB H0 H->ST R HB H0 H σ ρ->D.bk σ H
 | .ct ρ=>∀σ H0 H,Ext S0 HB H0 H->ST R HB H0 H σ ρ->D.ct σ H
 | .rt r ρ=>∀v σ H0 H,Ext S0 HB H0 H->ST R HB H0 H σ ρ->SlH K HB H0 H v r->D.rt v H
def RS(K:PySem.W.Frag)(R:Rl)(ts:TS)(g:En->Option Out):Prop:=
 ∀(HB S0:Hp) (σ:L2.St) (ρ:En) (H0 H:Hp),Ext S0 HB H0 H->ST R HB H0 H σ ρ->∀o,g ρ=some o->∀D:Ends,A76 K R HB S0 D o->ts D σ H
def mNext:En->Option Out:=fun ρ=>some (.nx ρ)
def mBrk:En->Option Out:=fun ρ=>some (.bk ρ)
def mCt:En->Option Out:=fun ρ=>some (.ct ρ)
def mRetN:En->Option Out:=fun ρ=>some (.rt (.val .none) ρ)
theorem rN:RS K R tNext mNext:=fun HB S0 σ ρ H0 H x e o ho D d=>by cases ho;exact d σ H0 H x e
def mSeq(f g:En->Option Out):En->Option Out:=fun ρ=>(f ρ).bind fun o=>match o with
 | .nx ρ'=>g ρ'
 | o=>some o
theorem uP{t u:TS}{f g:En->Option Out}(h:RS K R t f)(k:RS K R u g):RS K R (A42 t u) (mSeq f g):=fun HB S0 σ ρ H0 H x e o ho D d=>by
 obtain ⟨o1,h1,ho⟩:=A3.mp ho;refine h HB S0 σ ρ H0 H x e o1 h1 { D with nx:=u D} ?_
 cases o1 with
 | nx ρ'=>exact fun σ' H0' H' x' e'=>k HB S0 σ' ρ' H0' H' x' e' o ho D d
 | rt r _=>cases ho;exact d
 | bk r=>cases ho;exact d
 | ct r=>cases ho;exact d
theorem ER.set{HB H0 H H0' H':Hp}{σ:L2.St}{ρ:En}{i:Nat}{v:V}{r:Sl}(e:ER K HB H0 H σ ρ)(x:Ext H0 H H0' H')(sb:Same HB H)(h:SlH K H H0' H' v r):ER K HB H0' H' (σ.set i (some v)) (ρ.set i (some r)):=by
 have e':=e.ext x;refine ⟨by rw [GY,GY];exact e.len,fun j s hs=> ?_,fun j k a ds es hjk hj hk h1 h2=> ?_⟩
 . by_cases hj:i=j
   . subst hj;rw [CH] at hs ⊢
     cases hq:ρ[i]? with
     | none=>rw [hq] at hs;cases hs
     | some q=>
      rw [hq] at hs
      have hi:i<σ.length:=by rw [e.len];exact (AQ.mp hq).1
      rw [AE hi]
      cases hs
      exact ⟨v,rfl,h.base sb⟩
   . rw [B2 hj] at hs ⊢
     exact e'.get j s hs
 . have key : ∀ (j' k' : Nat) (b : Addr) ds' es', i = j' -> i ≠ k' -> (ρ.set i (some r))[j']? = some (some (.own ds')) -> ρ[k']? = some (some (.own es')) -> (σ.set i (some v))[j']? = some (some (.ref b)) -> σ[k']? ≠ some (some (.ref b)) := by
    clear hj hk h1 h2 hjk;intro j' k' b ds' es' hij hik hj hk h1 h2;subst hij;rw [CH] at hj h1
    cases hq:ρ[i]? with
    | none=>rw [hq] at hj;cases hj
    | some q=>
     rw [hq] at hj
     cases hj
     have hi:i<σ.length:=by rw [e.len];exact (AQ.mp hq).1
     rw [AE hi] at h1
     cases h1
     obtain ⟨a',vs,ea,hn,_⟩:=h
     cases ea
     obtain ⟨w,hw,hb⟩:=e.get k' _ hk;rw [h2] at hw
     cases hw
     obtain ⟨b',ws,eb,_,_,hs,_⟩:=hb
     cases eb
     rw [hn] at hs
     cases hs
   by_cases hij:i=j
   . have hik:i≠k:=fun z=>hjk (hij.symm.trans z);rw [B2 hik] at hk h2
     exact key j k a ds es hij hik hj hk h1 h2
   . rw [B2 hij] at hj h1
     by_cases hik:i=k
     . exact key k j a es ds hik hij hk hj h2 h1
     . rw [B2 hik] at hk h2
       exact e.apart j k a ds es hjk hj hk h1 h2
def mAsg(i:Nat)(f:En->Option Sl):En->Option Out:=fun ρ=>(f ρ).map fun r=> .nx (ρ.set i (some r))
theorem wI{te:TE}{f:En->Option Sl}{i:Nat}(hsl:R.slot i)(h:RE K R te f):RS K R (o6 te (X1 i)) (mAsg i f):=fun HB S0 σ ρ H0 H x e o ho D d=>by
 obtain ⟨r,hr,rfl⟩:=AH.mp ho;exact h HB σ ρ H0 H x.s1 e r hr _ fun v H1 J1 x1 p1=>d _ H1 J1 (x.chain x1) ⟨RelOk.set e.r hsl x1 x.s p1⟩
theorem q9{te:TE}{f:En->Option Sl}{i:Nat}(hsl:R.slot i)(h:RE K R te f):RS K R (tY i te) (mAsg i f):=fun HB S0 σ ρ H0 H x e o ho D d=>by
 obtain ⟨r,hr,rfl⟩:=AH.mp ho;exact h HB σ ρ H0 H x.s1 e r hr _ fun v H1 J1 x1 p1=>d _ H1 J1 (x.chain x1) ⟨RelOk.set e.r hsl x1 x.s p1⟩
def mRet(f:En->Option Sl):En->Option Out:=fun ρ=>(f ρ).map fun r=> .rt r ρ
theorem vV{te:TE}{f:En->Option Sl}(h:RE K R te f):RS K R (y8 te) (mRet f):=fun HB S0 σ ρ H0 H x e o ho D d=>by
 obtain ⟨r,hr,rfl⟩:=AH.mp ho;exact h HB σ ρ H0 H x.s1 e r hr _ fun v H1 J1 x1 p1=>d v σ H1 J1 (x.chain x1) (e.ext (K:=K) x1) (p1.base x.s)
theorem oU(i:Nat)(hsl:R.slot i):RS K R (y8 (Z1 i)) (mRet (mPk i)):=fun HB S0 σ ρ H0 H x e o ho D d=>by
 obtain ⟨r,hr,rfl⟩:=AH.mp ho;obtain ⟨v,h1,h2⟩:=RelOk.get (K:=K) e.r hsl (join_some hr);exact ⟨v,h1,d v σ H0 H x e h2⟩
def mIf(c:En->Option Bool)(f g:En->Option Out):En->Option Out:=fun ρ=>(c ρ).bind fun b=>if b then f ρ else g ρ
theorem A39{c:TT}{t u:TS}{fc:En->Option Bool}{f g:En->Option Out}(hc:RT K R c fc)(h:RS K R t f)(k:RS K R u g):RS K R (A37 c t u) (mIf fc f g):=fun HB S0 σ ρ H0 H x e o ho D d=>by
 obtain ⟨b,hb,ho⟩:=A3.mp ho;refine hc HB σ ρ H0 H x.s1 e b hb _ fun H1 J1 x1=> ?_
 cases b with
 | true=>exact ZK (h HB S0 σ ρ H1 J1 (x.chain x1) (e.ext (K:=K) x1) o ho D d)
 | false=>exact Z3 (k HB S0 σ ρ H1 J1 (x.chain x1) (e.ext (K:=K) x1) o ho D d)
def mDrop(f:En->Option Sl):En->Option Out:=fun ρ=>(f ρ).map fun _=> .nx ρ
theorem Ext.write{S0 HB H0 H:Hp}{a:Addr}(x:Ext S0 HB H0 H)(hb:HB a=none)(h0:H0 a=none)(o:HO):Ext S0 HB H0 (upd H a o) :=
 ⟨fun b u e=>by rw [BE (BJ e hb)];exact x.s b u e,x.s0,fun b u e=>by rw [BE (BJ e h0)];exact x.s1 b u e,x.own⟩
theorem ER.write {HB H0 H : Hp} {σ : L2.St} {ρ : En} {i : Nat} {a : Addr} {ds es : List PyData} {ys : List V} (e : ER K HB H0 H σ ρ) (hi : ρ[i]? = some (some (.own ds))) (hs : σ[i]? = some (some (.ref a))) (hb : HB a = none) (h0 : H0 a = none) (hr : Reps K H0 ys es) :
 ER K HB H0 (upd H a (.lst ys)) σ (ρ.set i (some (.own es))):=by
 have own:∀(j:Nat),∀ts,(ρ.set i (some (.own es)))[j]? = some (some (.own ts))->∃ts',ρ[j]? = some (some (.own ts')):=by
  intro j ts h
  by_cases hj:i=j
  . subst hj;exact ⟨_,hi⟩
  . rw [B2 hj] at h;exact ⟨_,h⟩
 refine ⟨by rw [GY];exact e.len,fun j s hq=> ?_,fun j k b ts us hjk hj hk h1 h2=> ?_⟩
 . by_cases hj:i=j
   . subst hj;rw [CH,hi] at hq
     cases hq
     exact ⟨.ref a,hs,a,ys,rfl,hb,h0,BT,hr⟩
   . rw [B2 hj] at hq
     obtain ⟨v,h1,h2⟩:=e.get j s hq;refine ⟨v,h1,?_⟩
     cases s with
     | val d=>exact h2
     | own ts=>
      obtain ⟨b,vs,rfl,g1,g2,g3,g4⟩:=h2;refine ⟨b,vs,rfl,g1,g2,?_,g4⟩;rw [BE]
      . exact g3
      . rintro rfl
        exact e.apart i j b ds ts hj hi hq hs h1
     | dct ts=>
      obtain ⟨b,t,rfl,g1,g2,g3,g4⟩:=h2;refine ⟨b,t,rfl,g1,g2,?_,g4⟩;rw [BE]
      . exact g3
      . rintro rfl;obtain ⟨v',hs',a',vs',e',_,_,g5,_⟩:=e.get i _ hi;rw [hs] at hs'
        cases hs'
        cases e'
        rw [g3] at g5
        cases g5
 . obtain ⟨ts',hj⟩:=own j ts hj;obtain ⟨us',hk⟩:=own k us hk;exact e.apart j k b ts' us' hjk hj hk h1 h2
def mApp(i:Nat)(f:En->Option Sl):En->Option Out:=fun ρ=>match (ρ[i]?).join with
 | some (.own ds)=>(f ρ).bind fun r=>if ds.length<sizeLine then some (.nx (ρ.set i (some (.own (ds ++ [r.dat]))))) else none
 | _=>none
theorem j0 {HB H0 H : Hp} {σ : L2.St} {ρ : En} {i : Nat} {ds : List PyData} (e : ST R HB H0 H σ ρ) (hsl : R.slot i) (h : (ρ[i]?).join = some (.own ds)) :
 ∃a vs,ρ[i]? = some (some (.own ds))/\σ[i]? = some (some (.ref a))/\HB a=none/\H0 a=none/\H a=some (.lst vs)/\Reps K H0 vs ds:=by
 obtain ⟨v,h1,a,vs,rfl,g1,g2,g3,g4⟩:=RelOk.get (K:=K) e.r hsl (join_some h);exact ⟨a,vs,join_some h,h1,g1,g2,g3,g4⟩
theorem wT{te:TE}{f:En->Option Sl}{i:Nat}(hsl:R.slot i)(h:RE K R te f):RS K R (j7 (tBM K "list" rAppend (Z1 i) (NT te tNil))) (mApp i f):=fun HB S0 σ ρ H0 H x e o ho D d=>by
 unfold mApp at ho
 split at ho
 . rename_i ds hj;obtain ⟨r,hr,ho⟩:=A3.mp ho
   split at ho
   . rename_i hl
     cases ho
     obtain ⟨a,vs,hi,hs,g1,g2,g3,g4⟩:=j0 (K:=K) e hsl hj;refine ⟨.ref a,hs, .inl ⟨rfl,vs,SqL.of g3⟩,?_⟩;refine h.rv HB σ ρ H0 H x.s1 e r.dat (by unfold mDat;rw [hr];rfl) _ fun v H1 J1 x1 p1=> ?_;have l0:=x1.own a _ g3 True.intro g2;refine ⟨a,vs,v,rfl,rfl,x1.s _ _ g3,by rw [g4.length];exact hl,?_⟩;exact d σ H1 _ ((x.chain x1).write g1 l0 _) ⟨RelOk.write (K:=K) (e.ext (K:=K) x1).r hsl hi hs g1 l0 (x1.s _ _ g3) (Tf.Reps.snoc (Reps.same x1.s0 g4) p1)⟩
   . cases ho
 . cases ho
def mSet(i:Nat)(fj f:En->Option Sl):En->Option Out:=fun ρ=>(f ρ).bind fun r=>match (ρ[i]?).join with
 | some (.own ds)=>(fj ρ).bind fun k=>match k with
  | .val (.int k)=>(ixN ds.length k).map fun j=> .nx (ρ.set i (some (.own (ds.set j r.dat))))
  | _=>none
 | _=>none
def frz1(i:Nat)(ρ:En):En:=match (ρ[i]?).join with
 | some (.own ds)=>ρ.set i (some (.val (.list ds)))
 | _=>ρ
def mFrz(i:Nat)(g:En->Option Out):En->Option Out:=fun ρ=>g (frz1 i ρ)
theorem ER.frz{S0 HB H0 H:Hp}{σ:L2.St}{ρ:En}{i:Nat}{ds:List PyData}(e:ER K HB H0 H σ ρ)(hi:ρ[i]? = some (some (.own ds)))(x:Ext S0 HB H0 H):∃a vs,H a=some (.lst vs)/\Ext S0 HB (upd H0 a (.lst vs)) H/\ER K HB (upd H0 a (.lst vs)) H σ (ρ.set i (some (.val (.list ds)))):=by
 obtain ⟨v,hs,a,vs,rfl,g1,g2,g3,g4⟩:=e.get i _ hi;have s0:Same H0 (upd H0 a (.lst vs)):=Same.upd g2 _
 have x' : Ext S0 HB (upd H0 a (.lst vs)) H := ⟨x.s, x.s0.trans s0, fun b u q => by
  by_cases hb:b=a
  . subst hb;rw [BT] at q;rw [g3];exact q
  . rw [BE hb] at q;exact x.s1 b u q,fun b u q m q0=>by rw [BE (BJ q g1)];exact x.own b u q m q0⟩
 refine ⟨a,vs,g3,x',⟨by rw [GY];exact e.len,fun j s hq=> ?_,fun j k b ts us hjk h1 h2 h3 h4=> ?_⟩⟩
 . by_cases hij:i=j
   . subst hij;rw [CH,hi] at hq
     cases hq
     exact ⟨.ref a,hs, .list (SqL.of BT) (Reps.same s0 g4)⟩
   . rw [B2 hij] at hq
     obtain ⟨v,h1,h2⟩:=e.get j s hq;refine ⟨v,h1,?_⟩
     cases s with
     | val d=>exact Rep.same s0 h2
     | own ts=>
      obtain ⟨b,ws,rfl,q1,q2,q3,q4⟩:=h2;refine ⟨b,ws,rfl,q1,?_,q3,Reps.same s0 q4⟩;rw [BE]
      . exact q2
      . rintro rfl
        exact e.apart i j b ds ts hij hi hq hs h1
     | dct ts=>
      obtain ⟨b,t,rfl,q1,q2,q3,q4⟩:=h2;refine ⟨b,t,rfl,q1,?_,q3,q4.same s0⟩;rw [BE]
      . exact q2
      . rintro rfl;rw [q3] at g3
        cases g3
 . have hij : i ≠ j := by
    rintro rfl;rw [CH,hi] at h1
    cases h1
   have hik:i≠k:=by
    rintro rfl;rw [CH,hi] at h2
    cases h2
   rw [B2 hij] at h1
   rw [B2 hik] at h2
   exact e.apart j k b ts us hjk h1 h2 h3 h4
instance relOk_PR:RelOk K (PR K) where
 ext:=fun x e=>ER.ext x e
 get:=fun e _ h=>ER.get e _ _ h
 set:=fun e _ x s h=>ER.set e x s h
 write:=fun e _ h1 h2 h3 h4 _ h5=>ER.write e h1 h2 h3 h4 h5
 frz:=fun e _ h x=>by obtain ⟨a,vs,_,h1,h2⟩:=ER.frz e h x;exact ⟨_,h1,h2⟩
theorem xC{ts:TS}{g:En->Option Out}(i:Nat)(hsl:R.slot i)(h:RS K R ts g):RS K R ts (mFrz i g):=fun HB S0 σ ρ H0 H x e o ho D d=>by
 unfold mFrz frz1 at ho
 split at ho
 . rename_i ds hj;obtain ⟨H0',x',e'⟩:=RelOk.frz (K:=K) e.r hsl (join_some hj) x;exact h HB S0 σ _ H0' H x' ⟨e'⟩ o ho D d
 . exact h HB S0 σ ρ H0 H x e o ho D d
def RG(K:PySem.W.Frag)(R:Rl)(g:TG)(fg:PyData->En->Option En):Prop:=
 ∀(HB:Hp) (σ:L2.St) (ρ ρ':En) (H0 H:Hp) (v:V) (d:PyData),Same H0 H->Same HB H->ST R HB H0 H σ ρ->Rep K H0 v d->fg d ρ=some ρ'->∀Q:L2.St->Hp->Prop,(∀σ',ST R HB H0 H σ' ρ'->Q σ' H)->g v σ H Q
def gVar(i:Nat):PyData->En->Option En:=fun d ρ=>some (ρ.set i (some (.val d)))
theorem cF(i:Nat)(hsl:R.slot i):RG K R (X1 i) (gVar i):=fun HB σ ρ ρ' H0 H v d s sb e r h Q q=>by
 cases h
 exact q _ ⟨RelOk.set (K:=K) e.r hsl (Ext.refl s) sb (show SlH K H H0 H v (.val d) from r)⟩
def gsAll:List (PyData->En->Option En)->List PyData->En->Option En
 | [],[],ρ=>some ρ
 | g::gs,d::ds,ρ=>(g d ρ).bind fun ρ'=>gsAll gs ds ρ'
 | _,_,_=>none
def gTupD(gs:List (PyData->En->Option En)):PyData->En->Option En:=fun d ρ=>match d with
 | .tuple ds=>if ds.length=gs.length then gsAll gs ds ρ else none
 | _=>none
def RGs(K:PySem.W.Frag)(R:Rl)(g:TGs)(gs:List (PyData->En->Option En)):Prop:=
 ∀(HB:Hp) (σ:L2.St) (ρ ρ':En) (H0 H:Hp) (vs:List V) (ds:List PyData),Same H0 H->Same HB H->ST R HB H0 H σ ρ->Reps K H0 vs ds->gsAll gs ds ρ=some ρ'->∀Q:L2.St->Hp->Prop,(∀σ',ST R HB H0 H σ' ρ'->Q σ' H)->g vs σ H Q
theorem cO:RGs K R gNil []:=fun HB σ ρ ρ' H0 H vs ds s sb e r h Q q=>by
 cases r with
 | nil=>cases h;exact ⟨rfl,q _ e⟩
 | cons _ _=>cases h
theorem Y2{g:TG}{u:TGs}{fg:PyData->En->Option En}{gs:List (PyData->En->Option En)}(h1:RG K R g fg)(h2:RGs K R u gs):RGs K R (mR g u) (fg::gs):=fun HB σ ρ ρ' H0 H vs ds s sb e r h Q q=>by
 cases r with
 | nil=>cases h
 | cons r1 r2=>
  obtain ⟨ρ1,e1,h⟩:=A3.mp (show (fg _ ρ).bind _=some ρ' from h);exact ⟨_,_,rfl,h1 HB σ ρ ρ1 H0 H _ _ s sb e r1 e1 _ fun σ' e'=>h2 HB σ' ρ1 ρ' H0 H _ _ s sb e' r2 h Q q⟩
theorem lH{g:TGs}{gs:List (PyData->En->Option En)}{n:Nat}(hn:n=gs.length)(h:RGs K R g gs):RG K R (x9 K n g) (gTupD gs):=fun HB σ ρ ρ' H0 H v d s sb e r hd Q q=>by
 unfold gTupD at hd
 split at hd
 . split at hd
   . rename_i ds hl
     cases r with
     | tuple r1 r2=>exact ⟨_,_,rfl,s.seqT (SqT.of r1),by rw [r2.length,hl,hn],h HB σ ρ ρ' H0 H _ _ s sb e r2 hd Q q⟩
   . cases hd
 . cases hd
def ItR(K:PySem.W.Frag)(H0:Hp)(J:It)(ds:List PyData):Prop:=∀H0' H',Same H0 H0'->Same H0' H'->∀i:Nat,(∀d,ds[i]? = some d->J.go i H'/\∀x H2,J.yld i H' x H2->∃H02,Ext H0' H' H02 H2/\Rep K H02 x d)/\(ds.length<=i->J.stop i H')
def RI(K:PySem.W.Frag)(R:Rl)(wi:TI)(f:En->Option (List PyData)):Prop:=
 ∀(HB:Hp) (σ:L2.St) (ρ:En) (H0 H:Hp),Same H0 H->ST R HB H0 H σ ρ->∀ds,f ρ=some ds->∀R:It->Hp->Prop,(∀J H0' H',Ext H0 H H0' H'->ItR K H0' J ds->R J H')->wi σ H R
def mItems(f:En->Option Sl):En->Option (List PyData):=fun ρ=>(f ρ).bind fun a=>match a.dat with
 | .list ds=>some ds
 | _=>none
def mItemsT(f:En->Option Sl):En->Option (List PyData):=fun ρ=>(f ρ).bind fun a=>match a.dat with
 | .tuple ds=>some ds
 | _=>none
theorem pB{H0:Hp}{a:Addr}{vs:List V}{ds:List PyData}(h:SqL K H0 a vs)(r:Reps K H0 vs ds):ItR K H0 (Itl K a) ds:=fun H0' H' s s' i=>by
 have h':=s'.seq (s.seq h);refine ⟨fun d hd=> ?_,fun hi=>⟨vs,h',by rw [r.length];exact hi⟩⟩;obtain ⟨v,e1,e2⟩:=Tf.Reps.get r hd;refine ⟨⟨vs,v,h',e1⟩,fun x H2 y=> ?_⟩;obtain ⟨rfl,y⟩:=y;have:=y vs h';rw [e1] at this
 cases this
 exact ⟨H0',Ext.refl s',Rep.same s e2⟩
theorem v8{H0:Hp}{a:Addr}{vs:List V}{ds:List PyData}(h:SqT K H0 a vs)(r:Reps K H0 vs ds):ItR K H0 (Itt K a) ds:=fun H0' H' s s' i=>by
 have h':=s'.seqT (s.seqT h);refine ⟨fun d hd=> ?_,fun hi=>⟨vs,h',by rw [r.length];exact hi⟩⟩;obtain ⟨v,e1,e2⟩:=Tf.Reps.get r hd;refine ⟨⟨vs,v,h',e1⟩,fun x H2 y=> ?_⟩;obtain ⟨rfl,y⟩:=y;have:=y vs h';rw [e1] at this
 cases this
 exact ⟨H0',Ext.refl s',Rep.same s e2⟩
def HH(lo:Int)(n:Nat):List PyData:=(List.range n).map fun i=> .int (lo+(i:Nat))
theorem XU{lo:Int}{n i:Nat}:(HH lo n)[i]? = if i<n then some (.int (lo+(i:Nat))) else none:=by
 unfold HH;rw [List.getElem?_map]
 by_cases h:i<n
 . rw [List.getElem?_range h,AB h];rfl
 . rw [A8 h,HD (by simpa using h)];rfl
theorem YH{H0:Hp}{lo:Int}{n:Nat}:ItR K H0 (Itr lo n) (HH lo n):=fun H0' H' s s' i=>by
 refine ⟨fun d hd=> ?_,fun hi=>show n<=i by simpa [HH] using hi⟩;rw [XU] at hd
 split at hd
 . rename_i hi
   cases hd
   exact ⟨hi,fun x H2 y=>by obtain ⟨rfl,rfl⟩:=y;exact ⟨H0',Ext.refl s', .int _⟩⟩
 . cases hd
def inB(i:Int):Prop:= -(2 ^ 62)<=i/\i<2 ^ 62
noncomputable instance (i:Int):Decidable (inB i):=Classical.propDecidable _
noncomputable def IB(f:En->Option (List Sl)):En->Option (List PyData):=fun ρ=>(f ρ).bind fun a=>match a with
 | [.val (.int j)]=>if inB j then some (HH 0 j.toNat) else none
 | _=>none
theorem g6{ta:TA}{f:En->Option (List Sl)}(h:RQ K R ta f):RI K R (sV ta) (IB f):=fun HB σ ρ H0 H s e ds hd R q=>by
 obtain ⟨a,ha,hd⟩:=A3.mp hd
 split at hd
 . split at hd
   . rename_i j hb
     cases hd
     refine h HB σ ρ H0 H s e _ ha _ fun vs H1 J1 x1 p1=> ?_;obtain ⟨v,rfl,pa⟩:=HC p1;exact ⟨j,by rw [pa.int],hb.1,hb.2,q _ _ _ x1 YH⟩
   . cases hd
 . cases hd
noncomputable def NV(f:En->Option (List Sl)):En->Option (List PyData):=fun ρ=>(f ρ).bind fun a=>match a with
 | [.val (.int i), .val (.int j)]=>if inB i/\inB j then some (HH i (j - i).toNat) else none
 | _=>none
theorem dR{ta:TA}{f:En->Option (List Sl)}(h:RQ K R ta f):RI K R (sT ta) (NV f):=fun HB σ ρ H0 H s e ds hd R q=>by
 obtain ⟨a,ha,hd⟩:=A3.mp hd
 split at hd
 . split at hd
   . rename_i i j hb
     cases hd
     refine h HB σ ρ H0 H s e _ ha _ fun vs H1 J1 x1 p1=> ?_;obtain ⟨v,w,rfl,pa,pb⟩:=qS p1;exact ⟨i,j,by rw [pa.int,pb.int],⟨hb.1.1,hb.1.2,hb.2.1,hb.2.2⟩,q _ _ _ x1 YH⟩
   . cases hd
 . cases hd
def LX(xs ys:List PyData):List PyData:=List.zipWith (fun x y=> .tuple [x,y]) xs ys
theorem vC{H0:Hp}{a b:Addr}{vs ws:List V}{ds es:List PyData}(h:SqL K H0 a vs)(r:Reps K H0 vs ds)(h2:SqL K H0 b ws)(r2:Reps K H0 ws es):ItR K H0 (Itz K a b) (LX ds es):=fun H0' H' s s' i=>by
 have h':=s'.seq (s.seq h);have h2':=s'.seq (s.seq h2);refine ⟨fun d hd=> ?_,fun hi=>⟨vs,ws,h',h2',?_⟩⟩
 . unfold LX at hd
   rw [R0] at hd
   cases e1:ds[i]? with
   | none=>rw [e1] at hd;cases hd
   | some x=>
    cases e2:es[i]? with
    | none=>rw [e1,e2] at hd;cases hd
    | some y=>
     rw [e1,e2] at hd
     cases hd
     obtain ⟨v,q1,q2⟩:=Tf.Reps.get r e1;obtain ⟨w,q3,q4⟩:=Tf.Reps.get r2 e2;refine ⟨⟨vs,ws,v,w,h',h2',q1,q3⟩,fun z H2 yl=> ?_⟩;obtain ⟨p,x',y',hp,rfl,rfl,hx,hy⟩:=yl;have:=hx vs h';rw [q1] at this
     cases this
     have:=hy ws h2';rw [q3] at this
     cases this
     refine ⟨_,Ext.allocF s' hp _, .tuple BT ?_⟩;have s2:=s.trans (Same.upd (s'.free hp) (.tup [v,w]));exact .cons (Rep.same s2 q2) (.cons (Rep.same s2 q4) .nil)
 . rw [r.length,r2.length];unfold LX at hi
   rw [TR] at hi
   omega
def U1(fg:PyData->En->Option En)(gb:En->Option Out):List PyData->En->Option Out
 | [],ρ=>some (.nx ρ)
 | d::ds,ρ=>(fg d ρ).bind fun ρ1=>(gb ρ1).bind fun o=>match o with
  | .nx ρ2=>U1 fg gb ds ρ2
  | .ct ρ2=>U1 fg gb ds ρ2
  | .bk ρ2=>some (.nx ρ2)
  | .rt r ρ2=>some (.rt r ρ2)
def HJ(fi:En->Option (List PyData))(fg:PyData->En->Option En)(gb:En->Option Out):En->Option Out:=fun ρ=>(fi ρ).bind fun ds=>U1 fg gb ds ρ
theorem UM {fg : PyData -> En -> Option En} {gb : En -> Option Out} {ds : List PyData} {i : Nat} {d : PyData} {ρ : En} (h : ds[i]? = some d) : U1 fg gb (ds.drop i) ρ = (fg d ρ).bind fun ρ1 => (gb ρ1).bind fun o => match o with
 | .nx ρ2=>U1 fg gb (ds.drop (i+1)) ρ2
 | .ct ρ2=>U1 fg gb (ds.drop (i+1)) ρ2
 | .bk ρ2=>some (.nx ρ2)
 | .rt r ρ2=>some (.rt r ρ2):=by
 obtain ⟨hi,e⟩:=AQ.mp h;rw [DR hi,e];rfl
theorem yZ{wi:TI}{g:TG}{tb:TS}{fi:En->Option (List PyData)}{fg:PyData->En->Option En}{gb:En->Option Out}(hi:RI K R wi fi)(hg:RG K R g fg)(hb:RS K R tb gb):RS K R (zX wi g tb) (HJ fi fg gb):=fun HB S0 σ ρ H0 H x e o ho D d=>by
 obtain ⟨ds,hds,ho⟩:=A3.mp ho;refine hi HB σ ρ H0 H x.s1 e ds hds _ fun J H1 J1 x1 it=> ?_;have x':=x.chain x1;refine ⟨fun i m σ H=>m=ds.length - i/\((∃ρ H0',i<=ds.length/\Ext H1 HB H0' H/\ST R HB H0' H σ ρ/\U1 fg gb (ds.drop i) ρ=some o)),⟨_,rfl,ρ,H1,CK _,x'.rebase,e.ext (K:=K) x1,ho⟩,?_⟩;rintro i m σ1 H2 ⟨rfl,ρ1,H0',hile,xx,e1,hf⟩;obtain ⟨ig,is⟩:=it H0' H2 xx.s0 xx.s1 i
 by_cases hlt:i<ds.length
 . right;obtain ⟨go,yl⟩:=ig ds[i] (by simp [hlt]);rw [UM (d:=ds[i]) (by simp [hlt])] at hf
   obtain ⟨ρ2,hr2,hf⟩:=A3.mp hf;obtain ⟨o2,ho2,hf⟩:=A3.mp hf;refine ⟨go,fun σ' H'=>∃ρ H0',Ext H1 HB H0' H'/\ST R HB H0' H' σ' ρ/\U1 fg gb (ds.drop (i+1)) ρ=some o,fun σ' H' ⟨ρ',H0'',a1,a2,a3⟩=>⟨ds.length - (i+1),by omega,rfl,ρ',H0'',hlt,a1,a2,a3⟩,fun v H3 y=> ?_⟩;obtain ⟨H03,x3,r3⟩:=yl v H3 y;have xx3:=xx.chain x3;refine hg HB σ1 ρ1 ρ2 H03 H3 v _ xx3.s1 xx3.s (e1.ext (K:=K) x3) r3 hr2 _ fun σ2 e2=> ?_;refine hb HB H1 σ2 ρ2 H03 H3 xx3 e2 o2 ho2 _ ?_
   cases o2 with
   | nx ρ3=>exact fun σ' H0'' H' a b=>⟨ρ3,H0'',a,b,hf⟩
   | ct ρ3=>exact fun σ' H0'' H' a b=>⟨ρ3,H0'',a,b,hf⟩
   | bk ρ3=>cases hf;exact fun σ' H0'' H' a b=>d σ' H0'' H' (x'.unbase a) b
   | rt r ρ3=>cases hf;exact fun v σ' H0'' H' a b c=>d v σ' H0'' H' (x'.unbase a) b c
 . left;refine ⟨is (by omega),?_⟩;rw [EG (by omega)] at hf
   cases hf
   exact d σ1 H0' H2 (x'.unbase xx) e1
def GC(c:En->Option Bool)(b:En->Option Out):Nat->En->Option Out
 | 0,_=>none
 | n + 1, ρ => (c ρ).bind fun k => if k then (b ρ).bind fun o => match o with
  | .nx ρ2=>GC c b n ρ2
  | .ct ρ2=>GC c b n ρ2
  | .bk ρ2=>some (.nx ρ2)
  | .rt r ρ2=>some (.rt r ρ2)
  else some (.nx ρ)
open Classical in
noncomputable def NC(c:En->Option Bool)(b:En->Option Out):En->Option Out:=fun ρ=>if h:∃o n,GC c b n ρ=some o then some h.choose else none
theorem KZ{c:En->Option Bool}{b:En->Option Out}:∀ {n:Nat} {ρ:En} {o:Out},GC c b n ρ=some o->∀m,n<=m->GC c b m ρ=some o
 | 0,_,_,h,_,_=>by cases h
 | n+1,ρ,o,h,m,hm=>by
  obtain ⟨m,rfl⟩:∃k,m=k+1:=⟨m - 1,by omega⟩;unfold GC at h ⊢
  obtain ⟨k,hk,h⟩:=A3.mp h;rw [hk]
  cases k with
  | false=>exact h
  | true=>
   show Option.bind _ _=_;simp only [GD] at h
   obtain ⟨o2,h2,h⟩:=A3.mp h;rw [h2]
   cases o2 with
   | nx ρ2=>exact KZ (n:=n) h m (by omega)
   | ct ρ2=>exact KZ (n:=n) h m (by omega)
   | bk ρ2=>exact h
   | rt r _=>exact h
theorem fH{c:En->Option Bool}{b:En->Option Out}{ρ:En}{o:Out}{n:Nat}(h:GC c b n ρ=some o):NC c b ρ=some o:=by
 have hx:∃o n,GC c b n ρ=some o:=⟨o,n,h⟩;unfold NC;rw [dif_pos hx];obtain ⟨m,hm⟩:=hx.choose_spec;have h1:=KZ h (max n m) (Nat.le_max_left _ _);have h2:=KZ hm (max n m) (Nat.le_max_right _ _);rw [<-h2,h1]
theorem YJ{c:En->Option Bool}{b:En->Option Out}{ρ:En}{o:Out}(h:NC c b ρ=some o):∃n,GC c b n ρ=some o:=by
 unfold NC at h
 split at h
 . rename_i hx;obtain ⟨m,hm⟩:=hx.choose_spec
   cases h
   exact ⟨m,hm⟩
 . cases h
theorem jY{c:TT}{tb:TS}{fc:En->Option Bool}{gb:En->Option Out}(hc:RT K R c fc)(hb:RS K R tb gb):RS K R (kQ c tb) (NC fc gb):=fun HB S0 σ ρ H0 H x e o ho D d=>by
 obtain ⟨n,hn⟩:=YJ ho;refine ⟨fun m σ H=>∃ρ H0,Ext S0 HB H0 H/\ST R HB H0 H σ ρ/\GC fc gb m ρ=some o,⟨n,ρ,H0,x,e,hn⟩,?_⟩;rintro m σ1 H1 ⟨ρ1,H01,x1,e1,hw⟩
 cases m with
 | zero=>cases hw
 | succ m=>
  unfold GC at hw
  obtain ⟨k,hk,hw⟩:=A3.mp hw;refine hc HB σ1 ρ1 H01 H1 x1.s1 e1 k hk _ fun H2 J2 x2=> ?_;have x12:=x1.chain x2
  cases k with
  | false=>cases hw;exact Z3 (d σ1 H2 J2 x12 (e1.ext (K:=K) x2))
  | true=>
   simp only [GD] at hw
   obtain ⟨o2,h2,hw⟩:=A3.mp hw;refine ZK ⟨fun σ' H'=>∃ρ H0,Ext S0 HB H0 H'/\ST R HB H0 H' σ' ρ/\GC fc gb m ρ=some o,fun σ' H' h=>⟨m,IN m,h⟩,?_⟩;refine hb HB S0 σ1 ρ1 H2 J2 x12 (e1.ext (K:=K) x2) o2 h2 _ ?_
   cases o2 with
   | nx ρ3=>exact fun σ' H0'' H' a b=>⟨ρ3,H0'',a,b,hw⟩
   | ct ρ3=>exact fun σ' H0'' H' a b=>⟨ρ3,H0'',a,b,hw⟩
   | bk ρ3=>cases hw;exact fun σ' H0'' H' a b=>d σ' H0'' H' a b
   | rt r ρ3=>cases hw;exact fun v σ' H0'' H' a b c=>d v σ' H0'' H' a b c
def mAsgT(g:PyData->En->Option En)(f:En->Option Sl):En->Option Out:=fun ρ=>(f ρ).bind fun r=>(g r.dat ρ).map .nx
theorem pO{te:TE}{g:TG}{f:En->Option Sl}{fg:PyData->En->Option En}(h:RE K R te f)(hg:RG K R g fg):RS K R (o6 te g) (mAsgT fg f):=fun HB S0 σ ρ H0 H x e o ho D d=>by
 obtain ⟨r,hr,ho⟩:=Option.bind_eq_some_iff.mp ho;obtain ⟨ρ',hg',rfl⟩:=Option.map_eq_some_iff.mp ho;refine h.rv HB σ ρ H0 H x.s1 e r.dat (by unfold mDat;rw [hr];rfl) _ fun v H1 J1 x1 p1=> ?_;have x':=x.chain x1;exact hg HB σ ρ ρ' H1 J1 v _ x'.s1 x'.s (e.ext (K:=K) x1) p1 hg' _ fun σ' e'=>d σ' H1 J1 x' e'
def mPar(i j:Nat)(f:En->Option (List PyData)):En->Option Out:=fun ρ=>(f ρ).bind fun ds=>match ds with
 | [a,b]=>some (.nx ((ρ.set i (some (.val a))).set j (some (.val b))))
 | _=>none
end
end Dm
namespace Dm
open PySem PySem.Spec PyProof.Rows L2 Tf
section
variable {K:PySem.W.Frag}
def E1(ix:List (Option Nat))(ρ:En):En:=ix.map fun o=>match o with | some j=>(ρ[j]?).join | none=>none
theorem mN:∀ {ix:List (Option Nat)},(ix.filterMap id).Nodup->∀ {i k j:Nat},ix[i]? = some (some j)->ix[k]? = some (some j)->i=k
 | [],_,i,k,j,h,_=>by simp at h
 | o::r,hn,i,k,j,h1,h2=>by
  have hr:(r.filterMap id).Nodup:=by
   cases o with
   | none=>simpa using hn
   | some a=>have hn:(a::r.filterMap id).Nodup:=hn;exact (FY.mp hn).2
  have out:∀ {k:Nat},o=some j->r[k]? = some (some j)->False:=by
   intro k ho hk;subst ho;have hn:(j::r.filterMap id).Nodup:=hn;exact (FY.mp hn).1 (JH.mpr ⟨some j,BC hk,rfl⟩)
  cases i with
  | zero=>
   cases k with
   | zero=>rfl
   | succ k=>simp at h1 h2;exact (out h1 h2).elim
  | succ i=>
   cases k with
   | zero=>simp at h1 h2;exact (out h2 h1).elim
   | succ k=>simp at h1 h2;rw [mN hr h1 h2]
theorem TH{ix:List (Option Nat)}{ρ:En}{i:Nat}{s:Sl}(h:(E1 ix ρ)[i]? = some (some s)):∃j,ix[i]? = some (some j)/\ρ[j]? = some (some s):=by
 unfold E1 at h
 rw [B5] at h
 cases e:ix[i]? with
 | none=>rw [e] at h;cases h
 | some o=>
  rw [e] at h
  cases o with
  | none=>cases h
  | some j=>exact ⟨j,rfl,join_some (BN h)⟩
theorem TK{ix:List (Option Nat)}{σ:L2.St}{i j:Nat}(h:ix[i]? = some (some j)):(KG ix σ)[i]? = some (σ[j]?).join:=by
 unfold KG;rw [List.getElem?_map,h];rfl
theorem ER.sub{HB H0 H:Hp}{σ:L2.St}{ρ:En}{ix:List (Option Nat)}(hx:(ix.filterMap id).Nodup)(e:ER K HB H0 H σ ρ):ER K (fun _=>none) H0 H (KG ix σ) (E1 ix ρ):=by
 refine ⟨by unfold KG E1;rw [List.length_map,List.length_map],fun i s h=> ?_,fun i k a ds es hik h1 h2 h3 h4=> ?_⟩
 . obtain ⟨j,h1,h2⟩:=TH h;obtain ⟨v,h3,h4⟩:=e.get j s h2;refine ⟨v,by rw [TK h1,h3];rfl,?_⟩
   cases s with
   | val d=>exact h4
   | own ds=>
    obtain ⟨a,vs,q1,_,q2⟩:=h4
    exact ⟨a,vs,q1,rfl,q2⟩
   | dct ds=>
    obtain ⟨a,vs,q1,_,q2⟩:=h4;exact ⟨a,vs,q1,rfl,q2⟩
 . obtain ⟨j,g1,g2⟩:=TH h1;obtain ⟨l,g3,g4⟩:=TH h2
   have hjl:j≠l:=by
    rintro rfl;exact hik (mN hx g1 g3)
   rw [TK g1] at h3
   rw [TK g3] at h4
   exact e.apart j l a ds es hjl g2 g4 (join_some (BN h3)) (join_some (BN h4))
def NB(f:PyData->Option (Option PyData)):List PyData->Option (List PyData)
 | []=>some []
 | d::ds=>(f d).bind fun r=>(NB f ds).map fun GW=>match r with
  | some x=>x::GW
  | none=>GW
def elM(fg:PyData->En->Option En)(ft:En->Option Bool)(fe:En->Option Sl)(ρ0:En):PyData->Option (Option PyData):=fun d=>(fg d ρ0).bind fun ρ'=>(ft ρ').bind fun b=>if b then (fe ρ').map (fun r=>some r.dat) else some none
def mLC(sb:En->En)(fi:En->Option (List PyData))(fg:PyData->En->Option En)(ft:En->Option Bool)(fe:En->Option Sl):En->Option Sl:=fun ρ=>(fi ρ).bind fun ds=>
 if ds.length<sizeLine then (NB (elM fg ft fe (sb ρ)) ds).map .own else none
def mYes:En->Option Bool:=fun _=>some true
theorem vQ{R:Rl}:RT K R tNoTest mYes:=fun HB σ ρ H0 H s e b hb Q q=>by cases hb;exact q _ _ (Ext.refl s)
theorem sR {R R' : Rl} [RelOk K R] [RelOk K R'] {sb : En -> En} {ix : List (Option Nat)} {wi : TI} {g : CB -> TG} {tt : CB -> TT} {te : CB -> TE} {fi : En -> Option (List PyData)} {fg : PyData -> En -> Option En} {ft : En -> Option Bool} {fe : En -> Option Sl}
 (hx:∀(HB:Hp) (σ:L2.St) (ρ:En) (H0 H:Hp),R.r HB H0 H σ ρ->R'.r (fun _=>none) H0 H (KG ix σ) (sb ρ))
 (hi:RI K R wi fi) (hg:∀b,RG K R' (g b) fg) (ht:∀b,RT K R' (tt b) ft) (he:∀b,RE K R' (te b) fe):RE K R (tLC ix wi g tt te) (mLC sb fi fg ft fe):=fun HB σ ρ H0 H s e z hz Q q=>by
 obtain ⟨ds,hds,hz⟩:=A3.mp hz
 split at hz
 . rename_i hlen;obtain ⟨all,hall,rfl⟩:=AH.mp hz;refine hi HB σ ρ H0 H s e ds hds _ fun J H1 J1 x1 it b=> ?_;have e1:ST R' (fun _=>none) H1 J1 (KG ix σ) (sb ρ):=⟨hx HB σ ρ H1 J1 (e.ext (K:=K) x1).r⟩;refine ⟨fun i m ys H=>m=ds.length - i/\i<=ds.length/\∃H0' es GW,Ext H1 J1 H0' H/\Reps K H0' ys es/\es.length<=i/\NB (elM fg ft fe (sb ρ)) (ds.drop i)=some GW/\es++GW=all,⟨_,rfl,CK _,H1,[],all,Ext.refl x1.s1, .nil,A9 _,hall,rfl⟩,?_⟩;rintro i m ys H2 ⟨rfl,hile,H0',es,GW,xx,hr,hel,hc,hsum⟩;obtain ⟨ig,is⟩:=it H0' H2 xx.s0 xx.s1 i;refine ⟨by rw [hr.length];omega,?_⟩
   by_cases hlt:i<ds.length
   . right;obtain ⟨go,yl⟩:=ig ds[i] (by simp [hlt]);rw [DR hlt] at hc
     obtain ⟨r,hr1,hc⟩:=A3.mp (show (elM fg ft fe (sb ρ) ds[i]).bind _=some GW from hc);obtain ⟨rest',hr2,hc⟩:=AH.mp hc;refine ⟨go,fun ys' H'=>∃H0' es GW,Ext H1 J1 H0' H'/\Reps K H0' ys' es/\es.length<=i+1/\NB (elM fg ft fe (sb ρ)) (ds.drop (i+1))=some GW/\es++GW=all,fun ys' H' h=>⟨ds.length - (i+1),by omega,rfl,hlt,h⟩,fun v H3 y=> ?_⟩;obtain ⟨H03,x3,r3⟩:=yl v H3 y;obtain ⟨ρ',hg',hb'⟩:=A3.mp hr1;obtain ⟨bb,hbb,hb'⟩:=A3.mp hb';have xx3:=xx.trans x3;refine hg b (fun _=>none) _ _ ρ' H03 H3 v _ x3.s1 (fun _ _ h=>by cases h) (e1.ext (K:=K) xx3) r3 hg' _ fun σ2 e2=> ?_;refine ht b _ σ2 ρ' H03 H3 x3.s1 e2 bb hbb _ fun H4 J4 x4=> ?_
     cases bb with
     | true=>
      refine ZK ?_;obtain ⟨rr,hrr,rfl⟩:=Option.map_eq_some_iff.mp (show (fe ρ').map (fun r=>some r.dat)=some r from hb');refine (he b).rv _ σ2 ρ' H4 J4 x4.s1 (e2.ext (K:=K) x4) rr.dat (by unfold mDat;rw [hrr];rfl) _ fun w H5 J5 x5 p5=> ?_;refine ⟨H5,es ++ [rr.dat],rest',(xx3.trans x4).trans x5,Tf.Reps.snoc (Reps.same ((x3.s0.trans x4.s0).trans x5.s0) hr) p5,by rw [List.length_append];simpa using hel,hr2,?_⟩;rw [<-hsum, <-hc,List.append_assoc]
      rfl
     | false=>
      refine Z3 ?_
      cases hb'
      exact ⟨H4,es,rest',xx3.trans x4,Reps.same (x3.s0.trans x4.s0) hr,by omega,hr2,by rw [<-hsum, <-hc]⟩
   . left;have hi':i=ds.length:=by omega
     refine ⟨is (by omega),fun p hp=> ?_⟩;rw [EG (by omega)] at hc
     cases hc
     rw [E4] at hsum
     subst hsum;have xy:=x1.trans xx;exact q _ _ _ (xy.trans (Ext.alloc xx.s1 hp _)) ⟨p,ys,rfl,xy.s.free hp,xx.s1.free hp,BT,hr⟩
 . cases hz
def FS(n:Nat)(g:En->Option Out)(k:Nat):List PyData->Option Sl:=fun ds=>if ds.length=k then (g (ds.map (fun d=>some (.val d))++List.replicate (n - ds.length) none)).bind fun o=>match o with
 | .rt r _=>some r
 | .nx _=>some (.val .none)
 | _=>none else none
theorem XT{N:List Str}{H0 H:Hp}{vs:List V}{ds:List PyData}(h:Reps K H0 vs ds):ER K H H0 H (L2.start N vs) (ds.map (fun d=>some (.val d))++List.replicate (N.length - ds.length) none):=by
 have hl:=h.length
 have noown:∀(i:Nat) s,(ds.map (fun d=>some (Sl.val d))++List.replicate (N.length - ds.length) none)[i]? = some (some s)->∃d,ds[i]? = some d/\s = .val d:=by
  intro i s hs
  by_cases hi:i<ds.length
  . rw [FV (by simpa using hi),B5,AE hi] at hs
    cases hs
    exact ⟨_,AE hi,rfl⟩
  . rw [FP (by simpa using hi),GH] at hs
    split at hs <;> cases hs
 refine ⟨?_,fun i s hs=> ?_,fun i j a xs ys _ h1 _ _ _=> ?_⟩
 . unfold L2.start;simp only [List.length_append,List.length_map,List.length_replicate,hl]
 . obtain ⟨d,hd,rfl⟩:=noown i s hs;obtain ⟨v,h1,h2⟩:=Tf.Reps.get h hd;refine ⟨v,?_,h2⟩;unfold L2.start;have hi:i<vs.length:=(List.getElem?_eq_some_iff.mp h1).1;rw [List.getElem?_append_left (by simpa using hi),List.getElem?_map,h1];rfl
 . obtain ⟨d,_,e⟩:=noown i _ h1
   cases e
section
variable {P:Program} {w:World} {mg:Str->Option Value} {base:Heap}
def DSs(X:Cx)(R:Rl)(st:List Stmt)(g:En->Option Out):Prop:=∃t,PSs X st t/\RS X.K R t g
theorem fnD {x qual : Str} {st : Stmt} {f : Addr} {fd : FuncData} {N ps : List Str} {k n m : Nat} {g : En -> Option Out} (F : Fun K x qual st f fd) (S : FnScope N ps (BD st)) (hn : N.length = n) (hm : ps.length = m)
 (hb:∀(cdv:Value) (A:Around) (outer:List Env) (s:Shared) (H:Hp) (E:XK),Room k (A.deeper (envOfC qual (BD st) s.heap.objs.size f cdv))->DSs (U2 CX0 P w K mg base N qual (BD st) f cdv A outer s H E).nox (PR K) (ID st) g) :
 FnOk P w K mg base CX0 (k+1) f fd ps (spD K (FS n g m)):=by
 subst hn hm;refine F.ok S (fun vs H Q E h=> ?_) fun cdv A outer s H vs Q E hr h=> ?_
 . obtain ⟨H0,ds,r,s,hr,hf,_⟩:=h;unfold FS at hf
   split at hf
   . rename_i hl;rw [hr.length,hl]
   . cases hf
 . obtain ⟨t,ht,rs⟩:=hb cdv A outer s H E hr;refine ⟨t,ht,?_⟩;obtain ⟨H0,ds,r,s0,hr,hf,q⟩:=h;unfold FS at hf
   split at hf
   . obtain ⟨o,ho,hf⟩:=A3.mp hf;refine rs H H0 _ _ H0 H (Ext.refl s0) ⟨XT hr⟩ o ho _ ?_
     cases o with
     | rt r' _=>cases hf;exact fun v σ H1 J1 a _ b=>q v H1 J1 a b
     | nx _=>cases hf;exact fun σ H1 J1 a b=>q .non H1 J1 a .none
     | bk _=>cases hf
     | ct _=>cases hf
   . cases hf
end
end
theorem rB{K:PySem.W.Frag}{F:List PyData->Option Sl}(hL:∀ns:List Int,ns.length<=63->F [.list (ns.map .int)]=some (.val (.bool true))){vs:List V}{H:Hp}{Q:VK}{E:XK}(h:aO K vs H Q E):spD K F vs H Q E:=by
 obtain ⟨a,ns,rfl,h1,h2,q⟩:=h
 have allI:∀ns:List Int,Reps K H (ns.map V.int) (ns.map .int):=fun ns=>by
  induction ns with
  | nil=>exact .nil
  | cons n r ih=>exact .cons (.int n) ih
 refine ⟨H,[.list (ns.map .int)], .val (.bool true),Same.refl H, .cons (.list h1 (allI ns)) .nil,hL ns h2,fun v H0' H' x p=> ?_⟩
 cases (show Rep K H0' v (.bool true) from p)
 exact q H'
section
variable {X:Cx} {R R':Rl} [RelOk X.K R] [RelOk X.K R'] {a b c e:Expr} {pos p:Pos} {f g fa fb fc:En->Option Sl}
def DE(X:Cx)(R:Rl)(e:Expr)(f:En->Option Sl):Prop:=∃te,PE X e te/\RE X.K R te f
def DP(X:Cx)(R:Rl)(e:Expr)(f:En->Option Sl):Prop:=∃te,PE X e te/\RP X.K R te f
def DA(X:Cx)(R:Rl)(es:List Expr)(f:En->Option (List PyData)):Prop:=∃ta,PA X es ta/\RA X.K R ta f
def DQ(X:Cx)(R:Rl)(es:List Expr)(f:En->Option (List Sl)):Prop:=∃ta,PA X es ta/\RQ X.K R ta f
def DT(X:Cx)(R:Rl)(e:Expr)(f:En->Option Bool):Prop:=∃tt,PT X e tt/\RT X.K R tt f
def DW(X:Cx)(R:Rl)(e:Expr)(f:En->Option Bool):Prop:=∃tt,PW X e tt/\RT X.K R tt f
def DO(X:Cx)(R:Rl)(e:Option Expr)(f:En->Option (Option Int)):Prop:=∃to,PO X e to/\RO X.K R to f
def DS(X:Cx)(R:Rl)(st:Stmt)(g:En->Option Out):Prop:=∃t,PS X st t/\RS X.K R t g
def DG(X:Cx)(R:Rl)(e:Expr)(g:PyData->En->Option En):Prop:=∃t,PG X e t/\RG X.K R t g
def DGs(X:Cx)(R:Rl)(es:List Expr)(gs:List (PyData->En->Option En)):Prop:=∃t,PGs X es t/\RGs X.K R t gs
def DI(X:Cx)(R:Rl)(tg e:Expr)(f:En->Option (List PyData)):Prop:=∃wi,PI X tg e wi/\RI X.K R wi f
theorem DE.dp(h:DE X R e f):DP X R e f:=by obtain ⟨t,h1,h2⟩:=h;exact ⟨t,h1,h2.rp⟩
theorem AC (i : Nat) {x : Str} (hN : X.N[i]? = some x := by rfl) (hv : Vis X.env.scope x := by first | exact L7 rfl | exact GU (L7 rfl) | exact GU (GU rfl)) (hd : (x == ("__debug__" : Str)) = false := by decide)
 (hcd:(x==("__classdict__" : Str))=false:=by decide) (hsl:R.slot i:=by first | exact CI | exact ⟨AT rfl,AT rfl⟩):DP X R (.Name x pos) (mPk i):=⟨_,Q5 hN hv hd hcd,wD i hsl⟩
theorem AX (i : Nat) {x : Str} (hN : X.N[i]? = some x := by rfl) (hv : Vis X.env.scope x := by first | exact L7 rfl | exact GU (L7 rfl) | exact GU (GU rfl)) (hd : (x == ("__debug__" : Str)) = false := by decide)
 (hcd:(x==("__classdict__" : Str))=false:=by decide) (hsl:R.slot i:=by first | exact CI | exact ⟨AT rfl,AT rfl⟩):DE X R (.Name x pos) (mVar i):=⟨_,Q5 hN hv hd hcd,yO i hsl⟩
theorem B3{i:Int}{j}:DE X R (.Constant (.int i) j pos) (mK (.int i)):=⟨_,yC,pY fun _=> .int i⟩
theorem IZ{i:Bool}{j}:DE X R (.Constant (.bool i) j pos) (mK (.bool i)):=⟨_,A31,pY fun _=> .bool i⟩
theorem cW{j}:DE X R (.Constant .none j pos) (mK .none):=⟨_,xD,pY fun _=> .none⟩
theorem Z9{i:Str}{j}:DE X R (.Constant (.str i) j pos) (mK (.str i)):=⟨_,vW,pY fun _=> .str i⟩
theorem V4{o:Operator}{r:R2}{op:Sl->Sl->Option Sl}(ho:OpR X (binaryOp o) r)(hd:OpD X.K r op)(ha:DP X R a fa)(hb:DP X R b fb):DE X R (.BinOp a o b pos) (mBin op fa fb):=by
 obtain ⟨ta,h1,h2⟩:=ha;obtain ⟨tb,h3,h4⟩:=hb;exact ⟨_,A10 ho h1 h3,WA hd h2 h4⟩
def dAddI:Sl->Sl->Option Sl:=iop fun i j=>i+j
def dSub:Sl->Sl->Option Sl:=iop fun i j=>i - j
def UG(i j:Int):Prop:=CMul i j\/A41 i j
theorem qO:OpR X (binaryOp .Mult) (rI UG fun i j=> .int (i*j)):=opI fun _ _ _ _ _ _ _ hc q=>by
 rcases hc with hc | ⟨n,m,h1,h2,h3⟩
 . exact mul_int q hc.ok
 . exact mul_int q (A26 h1 h2 h3)
noncomputable def sJ:Sl->Sl->Option Sl:=YC UG fun i j=>i*j
noncomputable def E2:Sl->Sl->Option Sl:=YC jN fun i j=>i.fdiv j
noncomputable def F3:Sl->Sl->Option Sl:=YC (fun _ j=>j≠0) fun i j=>i.fmod j
theorem QB(ha:DP X R a fa)(hb:DP X R b fb):DE X R (.BinOp a .Sub b pos) (mBin dSub fa fb):=V4 vE pJ ha hb
theorem II(ha:DP X R a fa)(hb:DP X R b fb):DE X R (.BinOp a .FloorDiv b pos) (mBin E2 fa fb):=V4 lG SL ha hb
theorem F9(ha:DP X R a fa)(hb:DP X R b fb):DE X R (.BinOp a .Mod b pos) (mBin F3 fa fb):=V4 rT SL ha hb
def tD(K:PySem.W.Frag):R2:=fun x y H Q=>∃l b xs zs,x = .ref l/\y = .ref b/\SqL K H l xs/\SqL K H b zs/\xs.length+zs.length<=sizeLine/\∀p,H p=none->Q (.ref p) (upd H p (.lst (xs++zs)))
theorem nH:OpR X (binaryOp .Add) (tD X.K):=by
 intro pins s σ H x y v u Q I rx ry h;obtain ⟨l,b,xs,zs,rfl,rfl,hH,hB,hz,q⟩:=h
 cases rx
 cases ry
 obtain ⟨its,r,p1,_⟩:=I.list hH;obtain ⟨its2,r2,p2,_⟩:=I.list hB;obtain ⟨⟨cls,dd,data,sl⟩,n,ho,hc,hd1,hd⟩:=id p1;obtain ⟨⟨cls2,dd2,data2,sl2⟩,n2,ho2,hc2,hd2',hd2⟩:=id p2;simp only at hc hd hc2 hd2
 subst hc hd hc2 hd2;have l1:=r.length;have l2:=r2.length;refine gK ⟨_,ho,rfl⟩ ⟨_,ho2,rfl⟩ noFill_list_add seq_list_add PySem.F.slot_list_add PySem.F.entry_list_add (PySem.F.args_list_add_2 _ _) (list_addW l b its.toArray its2.toArray n n2 dd dd2 sl sl2 (by rw [AR,AR];omega)) ⟨ho,ho2,?_⟩;have ea:its.toArray++its2.toArray=(its++its2).toArray:=by simp
 rw [ea];exact ⟨.ref _,_,I.lnew (t':=s.toks) (r.append r2) (by rw [AZ];omega),rfl,q _ I.fresh⟩
def jU(K:PySem.W.Frag):R2:=fun x y H Q=>∃a b ys,x = .ref a/\y = .ref b/\SqT K H a []/\SqT K H b ys/\Q (.ref b) H
theorem jT:OpR X (binaryOp .Add) (jU X.K):=by
 intro pins s σ H x y v u Q I rx ry h;obtain ⟨a,b,ys,rfl,rfl,ha,hb,q⟩:=h
 cases rx
 cases ry
 obtain ⟨its,r1,p1,_⟩:=I.tuple ha;obtain ⟨its2,r2,p2,_⟩:=I.tuple hb
 cases r1
 obtain ⟨⟨cls,dd,data,sl⟩,ho,hc,n,hd⟩:=id p1;obtain ⟨⟨cls2,dd2,data2,sl2⟩,ho2,hc2,n2,hd2⟩:=id p2;simp only at hc hd hc2 hd2
 subst hc hd hc2 hd2
 exact gK ⟨_, ho, rfl⟩ ⟨_, ho2, rfl⟩ nA A59 Q0 OO (O0 _ _)
  (tuple_addW0 a b ([]:List Value).toArray its2.toArray n n2 dd dd2 sl sl2 (by simp)) ⟨ho,ho2, .ref b,H,I,rfl,q⟩
def sU(K:PySem.W.Frag):R2:=fun x y H Q=>rI0 (fun i j=> .int (i+j)) x y H Q\/tD K x y H Q\/jU K x y H Q\/tL K x y H Q\/(∃i j,x = .str i/\y = .str j/\i.length+j.length<=sizeLine/\Q (.str (i++j)) H)
theorem pM:OpR X (binaryOp .Add) (sU X.K):=xR.or (nH.or (jT.or (qH.or ZR)))
def dAdd(a b:Sl):Option Sl:=match a.dat,b.dat with
 | .int i, .int j=>some (.val (.int (i+j)))
 | .list xs, .list ys=>if xs.length+ys.length<=sizeLine then some (.own (xs++ys)) else none
 | .tuple xs, .tuple ys=>if xs.length+ys.length<=sizeLine then some (.val (.tuple (xs++ys))) else none
 | .str i, .str j=>if i.length+j.length<=sizeLine then some (.val (.str (i++j))) else none
 | _,_=>none
theorem SlP.atom{K:PySem.W.Frag}{H0 H:Hp}{v:V}{d:PyData}{r:Sl}(h:SlP K H0 H v r)(e:r.dat=d)(n:∀ds,d ≠ .list ds)(n2:∀kvs,d ≠ .dict kvs:=by intro _ h;cases h):Rep K H0 v d:=by
 cases r with
 | val _=>cases e;exact h
 | own _=>exact absurd e.symm (n _)
 | dct _=>exact absurd e.symm (n2 _)
theorem Reps.append{K:PySem.W.Frag}{H:Hp}:∀ {vs ws:List V} {ds es:List PyData},Reps K H vs ds->Reps K H ws es->Reps K H (vs++ws) (ds++es)
 | _,_,_,_, .nil,h=>h
 | _,_,_,_, .cons a t,h=> .cons a (Reps.append t h)
theorem pV{K:PySem.W.Frag}:OpD K (sU K) dAdd:=fun H0 H x y sx sy z s px py hz Q q=>by
 unfold dAdd at hz
 split at hz
 . rename_i i j e1 e2
   cases hz
   cases px.atom e1 (fun _ h=>nomatch h)
   cases py.atom e2 (fun _ h=>nomatch h)
   exact .inl ⟨_,_,rfl,rfl,q _ _ _ (Ext.refl s) (.int _)⟩
 . rename_i xs ys e1 e2
   split at hz
   . rename_i hl
     cases hz
     obtain ⟨a,vs,rfl,h1,h2⟩:=px.lst s e1;obtain ⟨b,ws,rfl,h3,h4⟩:=py.lst s e2;exact .inr (.inl ⟨a,b,vs,ws,rfl,rfl,h1,h3,by rw [h2.length,h4.length];exact hl,fun p hp=>q _ _ _ (Ext.alloc s hp _) ⟨p,_,rfl,hp,s.free hp,BT,Reps.append h2 h4⟩⟩)
   . cases hz
 . rename_i xs ys e1 e2
   split at hz
   . rename_i hl
     cases hz
     obtain ⟨a,vs,rfl,h1,h2⟩:=px.tup e1;obtain ⟨b,ws,rfl,h3,h4⟩:=py.tup e2
     by_cases hv:vs = []
     . subst hv
       cases h2
       exact .inr (.inr (.inl ⟨a,b,ws,rfl,rfl,s.seqT (SqT.of h1),s.seqT (SqT.of h3),q _ _ _ (Ext.refl s) (.tuple h3 h4)⟩))
     . refine .inr (.inr (.inr (.inl ⟨a,b,vs,ws,rfl,rfl,s.seqT (SqT.of h1),s.seqT (SqT.of h3),hv,by rw [h2.length,h4.length];exact hl,fun hw=> ?_,fun hw p hp=> ?_⟩)))
       . subst hw
         cases h4
         rw [E4] at q
         exact q _ _ _ (Ext.refl s) (.tuple h1 h2)
       . exact q _ _ _ (Ext.allocF s hp _) (.tuple BT (Reps.same (Same.upd (s.free hp) _) (Reps.append h2 h4)))
   . cases hz
 . rename_i i j e1 e2
   split at hz
   . rename_i hl
     cases hz
     cases px.atom e1 (fun _ h=>nomatch h)
     cases py.atom e2 (fun _ h=>nomatch h)
     exact .inr (.inr (.inr (.inr ⟨_,_,rfl,rfl,hl,q _ _ _ (Ext.refl s) (.str _)⟩)))
   . cases hz
 . cases hz
theorem CY(ha:DP X R a fa)(hb:DP X R b fb):DE X R (.BinOp a .Add b pos) (mBin dAdd fa fb):=V4 pM pV ha hb
noncomputable def dRep(a b:Sl):Option Sl:=match a,b with
 | .own xs, .val (.int k)=>if -(2 ^ 63)<=k/\k<2 ^ 63/\xs.length*k.toNat<=sizeLine then some (.own (List.replicate k.toNat xs).flatten) else none
 | a,b=>sJ a b
theorem Reps.rep{K:PySem.W.Frag}{H:Hp}{vs:List V}{ds:List PyData}(h:Reps K H vs ds):∀k:Nat,Reps K H (List.replicate k vs).flatten (List.replicate k ds).flatten
 | 0=> .nil
 | k+1=>by
  rw [BV,BV,EF,EF];exact Reps.append h (Reps.rep h k)
theorem nR{K:PySem.W.Frag}:OpD K (fun x y H Q=>rRep x y H Q\/rI UG (fun i j=> .int (i*j)) x y H Q) dRep:=fun H0 H x y sx sy z s px py hz Q q=>by
 unfold dRep at hz
 split at hz
 . split at hz
   . rename_i hl
     cases hz
     obtain ⟨a,vs,rfl,h1,h2⟩:=px;exact .inl ⟨a,_,vs,rfl,py.int,h1,hl.1,hl.2.1,by rw [h2.length];exact hl.2.2,fun p hp=>q _ _ _ (Ext.alloc s hp _) ⟨p,_,rfl,hp,s.free hp,BT,Reps.rep h2 _⟩⟩
   . cases hz
 . exact .inr (SL H0 H x y _ _ z s px py hz Q q)
theorem FW(ha:DP X R a fa)(hb:DP X R b fb):DE X R (.BinOp a .Mult b pos) (mBin dRep fa fb):=V4 (yN.or qO) nR ha hb
theorem v9(ha:DP X R a fa):DE X R (.UnaryOp .USub a pos) (mUn (iun fun i=> -i) fa):=by
 obtain ⟨ta,h1,h2⟩:=ha;exact ⟨_,A23 xE h1,zY rL h2⟩
theorem kH{o:CmpOp}{r:R2}{op:Sl->Sl->Option Sl}(ho:OpR X (compareOp o) r)(hd:OpD X.K r op)(ha:DP X R a fa)(hb:DP X R b fb)(hm:behindInMarks o b=false):DE X R (.Compare a [o] [b] pos) (mBin op fa fb):=by
 obtain ⟨ta,h1,h2⟩:=ha;obtain ⟨tb,h3,h4⟩:=hb;exact ⟨_,nV ho h1 h3 hm,WA hd h2 h4⟩
theorem QI{o:CmpOp}{r:R2}{op:Sl->Sl->Option Sl}(ho:OpR X (compareOp o) r)(hd:OpD X.K r op)(ha:DP X R a fa)(hb:DP X R b fb)(hm:behindInMarks o b=false):DT X R (.Compare a [o] [b] pos) (mTest (mBin op fa fb)):=by
 obtain ⟨ta,h1,h2⟩:=ha;obtain ⟨tb,h3,h4⟩:=hb;exact ⟨_,oY ho h1 h3 hm,bW (WA hd h2 h4).rp⟩
def dLt:Sl->Sl->Option Sl:=icmp fun i j=>decide (i<j)
def dLe:Sl->Sl->Option Sl:=icmp fun i j=>decide (i<=j)
def dGt:Sl->Sl->Option Sl:=icmp fun i j=>decide (j<i)
def dGe:Sl->Sl->Option Sl:=icmp fun i j=>decide (j<=i)
theorem A05(ha:DP X R a fa)(hb:DP X R b fb):DE X R (.Compare a [.Gt] [b] pos) (mBin dGt fa fb):=kH tU SS ha hb (OK _)
theorem kY(hu:X.A.units+64<cLine)(ha:DP X R a fa)(hb:DP X R b fb):DE X R (.Compare a [.Eq] [b] pos) (mBin deq fa fb):=kH (mT hu) iQ ha hb (OK _)
theorem t5(ha:DP X R a fa)(hb:DP X R b fb):DT X R (.Compare a [.Lt] [b] pos) (mTest (mBin dLt fa fb)):=QI A43 SS ha hb (OK _)
theorem A33(ha:DP X R a fa)(hb:DP X R b fb):DT X R (.Compare a [.Gt] [b] pos) (mTest (mBin dGt fa fb)):=QI tU SS ha hb (OK _)
theorem S4(hu:X.A.units+64<cLine)(ha:DP X R a fa)(hb:DP X R b fb):DT X R (.Compare a [.Eq] [b] pos) (mTest (mBin deq fa fb)):=QI (mT hu) iQ ha hb (OK _)
theorem aQ(hu:X.A.units+64<cLine)(ha:DP X R a fa)(hb:DP X R b fb):DT X R (.Compare a [.NotEq] [b] pos) (mTest (mBin dne fa fb)):=QI (xU hu) vS ha hb (OK _)
theorem yS(ha:DP X R a fa)(hb:DP X R b fb):DT X R (.Compare a [.Is] [b] pos) (mTest (mBin disN fa fb)):=QI yH nO ha hb (OK _)
theorem OL(h:DP X R e f)(he:∀whole,isTrue e X.env whole=(do let v <-whole;standAt e.pos;holding [v] (truthy v)):=by intro _;rfl):DT X R e (mTest f):=by
 obtain ⟨t,h1,h2⟩:=h;exact ⟨_,wJ h1 he,A82 h2⟩
variable {ft gt:En->Option Bool} {GW:List Expr}
theorem mI(h:DW X R e ft):DT X R e ft:=by obtain ⟨t,h1,h2⟩:=h;exact ⟨t,h1.pt,h2⟩
theorem qP(h:DT X R a ft):DW X R (.BoolOp .And [a] pos) ft:=by obtain ⟨t,h1,h2⟩:=h;exact ⟨t,s9 h1,h2⟩
theorem W2(h:DT X R a ft):DW X R (.BoolOp .Or [a] pos) ft:=by obtain ⟨t,h1,h2⟩:=h;exact ⟨t,uR h1,h2⟩
theorem lA(h:DT X R a ft)(k:DW X R (.BoolOp .And (b::GW) pos) gt):DW X R (.BoolOp .And (a::b::GW) pos) (mAnd ft gt):=by obtain ⟨t,h1,h2⟩:=h;obtain ⟨u,h3,h4⟩:=k;exact ⟨_,uZ h1 h3,wG h2 h4⟩
theorem aE(h:DT X R a ft)(k:DW X R (.BoolOp .Or (b::GW) pos) gt):DW X R (.BoolOp .Or (a::b::GW) pos) (mOr ft gt):=by obtain ⟨t,h1,h2⟩:=h;obtain ⟨u,h3,h4⟩:=k;exact ⟨_,A04 h1 h3,A00 h2 h4⟩
theorem OE(h:DT X R a ft):DT X R (.UnaryOp .Not a pos) (mNot ft):=by obtain ⟨t,h1,h2⟩:=h;exact ⟨_,yY h1,y0 h2⟩
theorem oO(h:DE X R a f):DE X R (.BoolOp .And [a] pos) f:=by obtain ⟨t,h1,h2⟩:=h;exact ⟨t,uU h1,h2⟩
theorem wK(h:DE X R a f)(k:DE X R (.BoolOp .And (b::GW) pos) g):DE X R (.BoolOp .And (a::b::GW) pos) (mAndV f g):=by obtain ⟨t,h1,h2⟩:=h;obtain ⟨u,h3,h4⟩:=k;exact ⟨_,y6 h1 h3,pH h2.rp h4⟩
theorem v6(h:DE X R a f):DE X R (.UnaryOp .Not a pos) (mNotV f):=by obtain ⟨t,h1,h2⟩:=h;exact ⟨_,yP h1,qY h2.rp⟩
theorem yQ(hc:DT X R c ft)(h:DE X R a f)(k:DE X R b g):DE X R (.IfExp c a b pos) (mIfE ft f g):=by obtain ⟨t,h1,h2⟩:=hc;obtain ⟨u,h3,h4⟩:=h;obtain ⟨v,h5,h6⟩:=k;exact ⟨_,lQ h1 h3 h5,xV h2 h4 h6⟩
theorem KW(ha:DP X R a fa)(hb:DP X R b fb)(hs:cC b:=by intro _ _;rfl):DE X R (.Subscript a b pos) (mBin dix fa fb):=by
 obtain ⟨ta,h1,h2⟩:=ha;obtain ⟨tb,h3,h4⟩:=hb;exact ⟨_,A02 uQ h1 h3 hs,WA yX h2 h4⟩
variable {lo hi:Option Expr} {fl fh:En->Option (Option Int)} {p2:Pos}
theorem M8:DO X R none mNoPart:=⟨_,qU,pK⟩
theorem JW(h:DP X R e f):DO X R (some e) (mPart f):=by obtain ⟨t,h1,h2⟩:=h;exact ⟨_,rJ h1,qQ h2⟩
theorem QR(h:DP X R e f)(hl:DO X R lo fl)(hh:DO X R hi fh):DE X R (.Subscript e (.Slice lo hi none p2) pos) (mSl f fl fh):=by
 obtain ⟨t,h1,h2⟩:=h;obtain ⟨u,h3,h4⟩:=hl;obtain ⟨v,h5,h6⟩:=hh;exact ⟨_,kC (pT.or yK) h1 h3 h5,A53 h2 h4 h6⟩
variable {es:List Expr} {fs:En->Option (List PyData)} {fq:En->Option (List Sl)}
theorem B9:DA X R [] mNil:=⟨_,ON,xS⟩
theorem AF(h:DE X R e f)(k:DA X R es fs)(hs:starEach (e::es) X.env=(false,eval e X.env)::starEach es X.env:=by rfl):DA X R (e::es) (mCons f fs):=by obtain ⟨t,h1,h2⟩:=h;obtain ⟨u,h3,h4⟩:=k;exact ⟨_,L4 h1 h3 hs,oW h2 h4⟩
theorem BX:DQ X R [] mNilP:=⟨_,ON,vA⟩
theorem BF(h:DP X R e f)(k:DQ X R es fq)(hs:starEach (e::es) X.env=(false,eval e X.env)::starEach es X.env:=by rfl):DQ X R (e::es) (mConsP f fq):=by obtain ⟨t,h1,h2⟩:=h;obtain ⟨u,h3,h4⟩:=k;exact ⟨_,L4 h1 h3 hs,nG h2 h4⟩
theorem OB{x1}(h:DA X R es fs):DE X R (.Tuple es x1 pos) (mTup fs):=by obtain ⟨t,h1,h2⟩:=h;exact ⟨_,uS h1,wM h2⟩
theorem DH(h:DA X R es fs):DE X R (.List es pos) (mLst fs):=by obtain ⟨t,h1,h2⟩:=h;exact ⟨_,yG h1,vB h2⟩
theorem CG {k j : Nat} {x : Str} {ps : List Str} {F : List PyData -> Option Sl} (D : Tf.Def X.prog X.w X.K X.mg X.base j x ps (spD X.K F)) (hr : Room k X.A) (h : DA X R (e :: es) fs) (hj : j <= k := by decide) (hg : Gl X x := by rfl)
 (hdb:(x==("__debug__" : Str))=false:=by decide) (he:starEach (e::es) X.env=(false,eval e X.env)::starEach es X.env:=by rfl) (hpl:(backTo pos (starEach es X.env)).any (·.1)=false:=by rfl):DE X R (.Call (.Name x p) (e::es) [] pos) (mCall F fs):=by
 obtain ⟨t,h1,h2⟩:=h;exact ⟨_,iF D hr h1 hj hg hdb he hpl,oX h2⟩
theorem F2 {x : Str} {id : String} {r : List V -> Hp -> VK -> Prop} {F : List Sl -> Option Sl} (hc : KI X (.builtin id) r) (hd : LV X.K r F) (hv : bootBuiltins x = some (.builtin id)) (hm : X.mg x = none) (h : DQ X R (e :: es) fq) (hg : Gl X x := by rfl) (hn : x ≠ "__name__" := by decide) (hdb : (x == ("__debug__" : Str)) = false := by decide)
 (he:starEach (e::es) X.env=(false,eval e X.env)::starEach es X.env:=by rfl) (hpl:(backTo pos (starEach es X.env)).any (·.1)=false:=by rfl):DE X R (.Call (.Name x p) (e::es) [] pos) (mCallP F fq):=by
 obtain ⟨t,h1,h2⟩:=h;exact ⟨_,X5 hc hg hm hv h1 hn hdb he hpl,WP hd h2⟩
theorem NY {x : Str} {id : String} {r : List V -> Hp -> VK -> Prop} {F : List Sl -> Option Sl} (hc : KI X (.type id) r) (hd : LV X.K r F) (hv : bootBuiltins x = some (.type id)) (hm : X.mg x = none) (h : DQ X R (e :: es) fq) (hg : Gl X x := by rfl) (hn : x ≠ "__name__" := by decide) (hdb : (x == ("__debug__" : Str)) = false := by decide)
 (he:starEach (e::es) X.env=(false,eval e X.env)::starEach es X.env:=by rfl) (hpl:(backTo pos (starEach es X.env)).any (·.1)=false:=by rfl):DE X R (.Call (.Name x p) (e::es) [] pos) (mCallP F fq):=by
 obtain ⟨t,h1,h2⟩:=h;exact ⟨_,fU hc hg hm hv h1 hn hdb he hpl,WP hd h2⟩
theorem vD{K:PySem.W.Frag}{n:String}:∀t b,isiD n t=some b->(t = "NoneType" \/ t = "bool" \/ t = "int" \/ t = "str" \/ t = "list" \/ t = "tuple")->PySem.W.kitOne K (.type t) (.type n)=some b:=by
 intro t b h ht;unfold isiD at h
 split at h
 . rename_i hn;subst hn
   cases h
   rcases ht with rfl | rfl | rfl | rfl | rfl | rfl <;> rfl
 . split at h
   . rename_i hn
     cases h
     rcases hn with rfl | rfl | rfl | rfl <;> rcases ht with rfl | rfl | rfl | rfl | rfl | rfl <;> rfl
   . cases h
theorem SF {x : Str} {T : String} {p1 : Pos} (hv : bootBuiltins x = some (.type T)) (hx : X.mg x = none) (hm : X.mg "isinstance" = none) (h : DP X R e f) (hgx : Gl X x := by rfl) (hg : Gl X "isinstance" := by rfl) (hnx : x ≠ "__name__" := by decide) (hdx : (x == ("__debug__" : Str)) = false := by decide)
 (he:starEach [e, .Name x p1] X.env=(false,eval e X.env)::starEach [.Name x p1] X.env:=by rfl) (he2:starEach [.Name x p1] X.env=(false,eval (.Name x p1) X.env)::starEach [] X.env:=by rfl) (hpl:(backTo pos (starEach [.Name x p1] X.env)).any (·.1)=false:=by rfl) :
 DE X R (.Call (.Name "isinstance" p) [e, .Name x p1] [] pos) (mIsi T f):=by
 obtain ⟨t,h1,h2⟩:=h;exact ⟨_,X5 jC hg hm TU (L4 h1 (L4 (A52 hgx hx hv hnx hdx) ON he2) he) (by decide) (by decide) he hpl,vX vD h2⟩
theorem FA{K:PySem.W.Frag}{ix:List (Option Nat)}(hx:(ix.filterMap id).Nodup:=by decide):∀(HB:Hp) (σ:L2.St) (ρ:En) (H0 H:Hp),(PR K).r HB H0 H σ ρ->(PR K).r (fun _=>none) H0 H (KG ix σ) (E1 ix ρ):=fun HB σ ρ H0 H e=>ER.sub hx e
variable {st:Stmt} {sts:List Stmt} {gs gs':En->Option Out} {x y:Str} {pos':Pos} {i j:Nat}
theorem FG:DSs X R [] mNext:=⟨_,qX,rN⟩
theorem B0(h:DS X R st gs):DSs X R [st] gs:=by obtain ⟨t,h1,h2⟩:=h;exact ⟨_,nL h1,h2⟩
theorem AN(h:DS X R st gs)(k:DSs X R sts gs'):DSs X R (st::sts) (mSeq gs gs'):=by obtain ⟨t,h1,h2⟩:=h;obtain ⟨u,h3,h4⟩:=k;exact ⟨_,kA h1 h3,uP h2 h4⟩
theorem F8(i:Nat)(h:DS X R st gs)(hsl:R.slot i:=by first | exact CI | exact ⟨AT rfl,AT rfl⟩):DS X R st (mFrz i gs):=by obtain ⟨t,h1,h2⟩:=h;exact ⟨_,h1,xC i hsl h2⟩
theorem BQ (i : Nat) (h : DE X R e f) (hN : X.N.Nodup) (hi : X.N[i]? = some x := by rfl) (hx : Loc X.env.scope x := by first | exact L7 rfl | exact GU rfl) (hs : swapsWith e (some (.Name x pos')) pos.line X.env = pure false := by rfl) (hf : X.fn x = true \/ X.env.scope.names.lookup x = some .local := by first | exact .inl rfl | exact .inr rfl) (hsl : R.slot i := by first | exact CI | exact ⟨AT rfl, AT rfl⟩) :
 DS X R (.Assign [.Name x pos'] e pos) (mAsg i f):=by obtain ⟨t,h1,h2⟩:=h;exact ⟨_,wV hN hi hx h1 hs hf,wI hsl h2⟩
theorem DJ(h:DE X R e f):DS X R (.Return (some e) pos) (mRet f):=by obtain ⟨t,h1,h2⟩:=h;exact ⟨_,lJ h1,vV h2⟩
theorem IA (i : Nat) (hN : X.N[i]? = some x := by rfl) (hv : Vis X.env.scope x := by first | exact L7 rfl | exact GU (L7 rfl) | exact GU (GU rfl)) (hd : (x == ("__debug__" : Str)) = false := by decide)
 (hcd:(x==("__classdict__" : Str))=false:=by decide) (hsl:R.slot i:=by first | exact CI | exact ⟨AT rfl,AT rfl⟩):DS X R (.Return (some (.Name x pos')) pos) (mRet (mPk i)):=⟨_,lJ (Q5 hN hv hd hcd),oU i hsl⟩
theorem J8{A B:List Stmt}(hc:DT X R c ft)(h:DSs X R A gs)(k:DSs X R B gs'):DS X R (.If c A B pos) (mIf ft gs gs'):=by obtain ⟨t,h1,h2⟩:=hc;obtain ⟨u,h3,h4⟩:=h;obtain ⟨v,h5,h6⟩:=k;exact ⟨_,A45 h1 h3 h5,A39 h2 h4 h6⟩
theorem iO(hp:PassesOwn (model X.prog X.w) X.A X.env X.xe)(hc:DT X R c ft)(h:DSs X R sts gs):DS X R (.While c sts [] pos) (NC ft gs):=by obtain ⟨t,h1,h2⟩:=hc;obtain ⟨u,h3,h4⟩:=h;exact ⟨_,j5 hp h1 h3,jY h2 h4⟩
variable {tg:Expr} {fi:En->Option (List PyData)} {fg:PyData->En->Option En} {gg:List (PyData->En->Option En)}
theorem FB(hp:PassesOwn (model X.prog X.w) X.A X.env X.xe)(hi:DI X R tg e fi)(hg:DG X R tg fg)(h:DSs X R sts gs)(hc:X.calm=true:=by rfl)(hs:∀x,foldedSetIterable e X.env x=pure x:=by intro _;rfl):DS X R (.For tg e sts [] pos) (HJ fi fg gs):=by
 obtain ⟨t,h1,h2⟩:=hi;obtain ⟨u,h3,h4⟩:=hg;obtain ⟨v,h5,h6⟩:=h;exact ⟨_,v7 hp hc h1 h3 h5 hs,yZ h2 h4 h6⟩
theorem DX(i:Nat)(hN:X.N.Nodup)(hi:X.N[i]? = some x:=by rfl)(hx:Loc X.env.scope x:=by first | exact L7 rfl | exact GU rfl)(hf:X.fn x=true\/X.env.scope.names.lookup x=some .local:=by first | exact .inl rfl | exact .inr rfl)(hsl:R.slot i:=by first | exact CI | exact ⟨AT rfl,AT rfl⟩):DG X R (.Name x pos) (gVar i):=⟨_,cQ hN hi hx hf,cF i hsl⟩
theorem rC:DGs X R [] []:=⟨_,aH,cO⟩
theorem X4(h:DG X R e fg)(k:DGs X R es gg)(hs:(assignEach (e::es) X.env).map (·.2)=assign e X.env::(assignEach es X.env).map (·.2):=by rfl):DGs X R (e::es) (fg::gg):=by obtain ⟨t,h1,h2⟩:=h;obtain ⟨u,h3,h4⟩:=k;exact ⟨_,Y1 h1 h3 hs,Y2 h2 h4⟩
theorem wO{k}{n:Nat}(h:DGs X R es gg)(hl:n=gg.length:=by rfl)(hc:X.calm=true:=by rfl)(hn:(assignEach es X.env).length=n:=by rfl)(hst:(assignEach es X.env).findIdx? (·.1)=none:=by rfl):DG X R (.Tuple es k pos) (gTupD gg):=by
 obtain ⟨t,h1,h2⟩:=h;exact ⟨_,kG hc h1 hn hst,lH hl h2⟩
theorem FC (hm:X.mg "range" = none) (h:DQ X R [a] fq) (hg:Gl X "range" :=by rfl) (hs:starEach [a] X.env = [(false,eval a X.env)]:=by rfl):DI X R tg (.Call (.Name "range" p) [a] [] pos) (IB fq):=by obtain ⟨t,h1,h2⟩:=h;exact ⟨_,eY hg hm h1 hs,g6 h2⟩
theorem QH (hm:X.mg "range" = none) (h:DQ X R [a,b] fq) (hg:Gl X "range" :=by rfl) (hs:starEach [a,b] X.env = [(false,eval a X.env),(false,eval b X.env)]:=by rfl) (hs2:starEach [b] X.env = [(false,eval b X.env)]:=by rfl):DI X R tg (.Call (.Name "range" p) [a,b] [] pos) (NV fq):=by
 obtain ⟨t,h1,h2⟩:=h;exact ⟨_,dL hg hm h1 hs hs2,dR h2⟩
theorem W9 (i : Nat) {apos cpos : Pos} (h : DE X R e f) (hN : X.N[i]? = some x := by rfl) (hv : Vis X.env.scope x := by first | exact L7 rfl | exact GU (L7 rfl) | exact GU (GU rfl)) (hd : (x == ("__debug__" : Str)) = false := by decide) (hcd : (x == ("__classdict__" : Str)) = false := by decide)
 (hst:starEach [e] X.env=(false,eval e X.env)::starEach [] X.env:=by rfl) (hbase:attributeBase (.Name x p) "append" X.env (eval (.Name x p) X.env)=eval (.Name x p) X.env:=by rfl)
 (hfew:((backTo cpos (starEach [e] X.env)).all (fun x=> !x.1) && (backToKw cpos (keywordEach [] X.env)).all (fun x=>x.1.isSome) && decide ([e].length+([]:List Keyword).length+(if ([]:List Keyword).isEmpty then 0 else 1)<30))=true:=by rfl)
 (hline:(apos.endLine==cpos.line)=true:=by rfl) (hplain:(backTo cpos (starEach [] X.env)).any (·.1)=false:=by rfl)
 (hs:swapsWith (.Call (.Attribute (.Name x p) "append" apos) [e] [] cpos) none pos.line X.env=pure false:=by rfl) (hsl:R.slot i:=by first | exact CI | exact ⟨AT rfl,AT rfl⟩):DS X R (.Expr (.Call (.Attribute (.Name x p) "append" apos) [e] [] cpos) pos) (mApp i f):=by
 obtain ⟨t,h1,h2⟩:=h;exact ⟨_,aX (tW sE PySem.F.slot_list_append PySem.F.type_list_append fR (Q5 hN hv hd hcd) (L4 h1 ON hst) hbase hfew hline hst hplain) hs,wT hsl h2⟩
theorem oF(h:DE X R e f)(hg:DG X R tg fg)(hs:swapsWithSole [tg] e pos.line X.env=pure false:=by rfl)(hw:swappedStores [tg] e X.env=pure none:=by rfl)(h1:(assignEach [tg] X.env).map (·.2) = [assign tg X.env]:=by rfl):DS X R (.Assign [tg] e pos) (mAsgT fg f):=by
 obtain ⟨t,a1,a2⟩:=h;obtain ⟨u,b1,b2⟩:=hg;exact ⟨_,uY a1 b1 hs hw h1,pO a2 b2⟩
theorem D2{CX:CXT}{P:Program}{w:World}{K:PySem.W.Frag}{mg:Str->Option Value}{base:Heap}{N:List Str}{qual:Str}{scope:Scope}{f:Addr}{cd:Value}{A:Around}{outer:List Env}{s:Shared}{H:Hp}{E:XK}:(U2 CX P w K mg base N qual scope f cd A outer s H E).nox.env.scope=scope:=rfl
theorem D1{CX:CXT}{P:Program}{w:World}{K:PySem.W.Frag}{mg:Str->Option Value}{base:Heap}{N:List Str}{qual:Str}{scope:Scope}{f:Addr}{cd:Value}{A:Around}{outer:List Env}{s:Shared}{H:Hp}{E:XK}:(U2 CX P w K mg base N qual scope f cd A outer s H E).nox.N=N:=rfl
theorem g8{X:Cx}{osc sc:Scope}{N':List Str}{b:CB}:(cxC X osc sc N' b).N=N':=rfl
theorem g7{X:Cx}{osc sc:Scope}{N':List Str}{b:CB}:(cxC X osc sc N' b).env.scope=PY sc osc:=rfl
def GKm(S:Nat->Bool)(g:TG):Prop:=∀v σ H Q Q',g v σ H Q->(∀σ' H',Q σ' H'->σ'.length=σ.length->(∀i:Nat,S i=false->σ'[i]? = σ[i]?)->Q' σ' H')->g v σ H Q'
def GKs(S:Nat->Bool)(g:TGs):Prop:=∀v σ H Q Q',g v σ H Q->(∀σ' H',Q σ' H'->σ'.length=σ.length->(∀i:Nat,S i=false->σ'[i]? = σ[i]?)->Q' σ' H')->g v σ H Q'
theorem GKm.gk{S:Nat->Bool}{t:TG}(h:GKm S t):GK S t:=fun v σ H Q q=>h v σ H Q _ q fun _ _ a b c=>⟨a,b,c⟩
theorem lU{S:Nat->Bool}{i:Nat}(h:S i=true):GKm S (X1 i):=fun v σ H Q Q' q k=>k _ _ q (GY ..) fun j hj=>by
 rw [B2];intro e;subst e;rw [h] at hj
 cases hj
theorem nU{S:Nat->Bool}:GKs S gNil:=fun v σ H Q Q' q k=>⟨q.1,k _ _ q.2 rfl fun _ _=>rfl⟩
theorem iB{S:Nat->Bool}{t:TG}{u:TGs}(h:GKm S t)(k:GKs S u):GKs S (mR t u):=fun v σ H Q Q' q w=>by
 obtain ⟨x,r,e,q⟩:=q;refine ⟨x,r,e,h x σ H _ _ q fun σ' H' q' l1 k1=>k r σ' H' _ _ q' fun σ2 H2 q2 l2 k2=>w σ2 H2 q2 (l2.trans l1) fun i hi=>(k2 i hi).trans (k1 i hi)⟩
theorem qF{S:Nat->Bool}{u:TGs}{K:PySem.W.Frag}{n:Nat}(k:GKs S u):GKm S (x9 K n u):=fun v σ H Q Q' q w=>by
 obtain ⟨a,xs,e,h1,h2,q⟩:=q;exact ⟨a,xs,e,h1,h2,k xs σ H _ _ q w⟩
def DGk(X:Cx)(R:Rl)(S:Nat->Bool)(e:Expr)(g:PyData->En->Option En):Prop:=∃t,PG X e t/\RG X.K R t g/\GKm S t
def pN(X:Cx)(R:Rl)(S:Nat->Bool)(es:List Expr)(gs:List (PyData->En->Option En)):Prop:=∃t,PGs X es t/\RGs X.K R t gs/\GKs S t
def DTs(X:Cx)(R:Rl)(ifs:List Expr)(f:En->Option Bool):Prop:=∃tt,PTs X ifs tt/\RT X.K R tt f
theorem EE:DTs X R [] mYes:=⟨_,nJ,vQ⟩
theorem p8(h:DT X R e ft):DTs X R [e] ft:=by obtain ⟨t,h1,h2⟩:=h;exact ⟨_,oJ h1,h2⟩
theorem CQ{S:Nat->Bool}(i:Nat)(hN:X.N.Nodup)(hS:S i=true:=by rfl)(hi:X.N[i]? = some x:=by rfl)(hx:Loc X.env.scope x:=by first | exact L7 rfl | exact GU rfl)(hf:X.fn x=true\/X.env.scope.names.lookup x=some .local:=by first | exact .inl rfl | exact .inr rfl)(hsl:R.slot i:=by first | exact CI | exact ⟨AT rfl,AT rfl⟩):DGk X R S (.Name x pos) (gVar i):=⟨_,cQ hN hi hx hf,cF i hsl,lU hS⟩
theorem OW{S:Nat->Bool}:pN X R S [] []:=⟨_,aH,cO,nU⟩
theorem HQ{S:Nat->Bool}(h:DGk X R S e fg)(k:pN X R S es gg)(hs:(assignEach (e::es) X.env).map (·.2)=assign e X.env::(assignEach es X.env).map (·.2):=by rfl):pN X R S (e::es) (fg::gg):=by obtain ⟨t,h1,h2,h5⟩:=h;obtain ⟨u,h3,h4,h6⟩:=k;exact ⟨_,Y1 h1 h3 hs,Y2 h2 h4,iB h5 h6⟩
theorem R7{S:Nat->Bool}{k}{n:Nat}(h:pN X R S es gg)(hl:n=gg.length:=by rfl)(hc:X.calm=true:=by rfl)(hn:(assignEach es X.env).length=n:=by rfl)(hst:(assignEach es X.env).findIdx? (·.1)=none:=by rfl):DGk X R S (.Tuple es k pos) (gTupD gg):=by
 obtain ⟨t,h1,h2,h3⟩:=h;exact ⟨_,kG hc h1 hn hst,lH hl h2,qF h3⟩
variable {osc sc:Scope} {N':List Str} {ix:List (Option Nat)} {ifs:List Expr} {elt iter:Expr} {fe:En->Option Sl}
theorem IH {N : List Str} (ho : X.env.scope = osc) (hN : X.N = N) (ix : List (Option Nat)) (sb : En -> En) (hx : ∀ (HB : Hp) (σ : L2.St) (ρ : En) (H0 H : Hp), R.r HB H0 H σ ρ -> R'.r (fun _ => none) H0 H (KG ix σ) (sb ρ)) (hi : DI X R tg iter fi) (hg : ∀ b : CB, DGk (cxC X osc sc N' b) R' (RZ ix) tg fg) (ht : ∀ b : CB, DTs (cxC X osc sc N' b) R' ifs ft) (he : ∀ b : CB, DE (cxC X osc sc N' b) R' elt fe)
 (hcs:fY osc sc N N' ix=true:=by decide +kernel) (hc:X.calm=true:=by rfl)
 (hs:∀x,foldedSetIterable iter X.env x=pure x:=by intro _;rfl):DE X R (.ListComp elt [⟨tg,iter,ifs,0⟩] sc pos) (mLC sb fi fg ft fe):=by
 obtain ⟨wi,h1,h2⟩:=hi
 exact ⟨_,A19 (g:=fun b=>(hg b).choose) (tt:=fun b=>(ht b).choose) (te:=fun b=>(he b).choose) hc ho hN hcs h1 (fun b=>⟨(hg b).choose_spec.1,(ht b).choose_spec.1,(he b).choose_spec.1⟩) (fun b=>(hg b).choose_spec.2.2.gk) hs,
  sR hx h2 (fun b=>(hg b).choose_spec.2.1) (fun b=>(ht b).choose_spec.2) (fun b=>(he b).choose_spec.2)⟩
theorem VJ {N : List Str} (ho : X.env.scope = osc) (hN : X.N = N) (i : Nat) (ix : List (Option Nat)) (sb : En -> En) (hx : ∀ (HB : Hp) (σ : L2.St) (ρ : En) (H0 H : Hp), R.r HB H0 H σ ρ -> R'.r (fun _ => none) H0 H (KG ix σ) (sb ρ)) {py spos : Pos} (hnd : X.N.Nodup) (hi : DI X R tg iter fi) (hg : ∀ b : CB, DGk (cxC X osc sc N' b) R' (RZ ix) tg fg) (ht : ∀ b : CB, DTs (cxC X osc sc N' b) R' ifs ft) (he : ∀ b : CB, DE (cxC X osc sc N' b) R' elt fe)
 (hi':X.N[i]? = some y:=by rfl) (hy:X.env.scope.names.lookup y=some .local:=by rfl) (hsw:swapsWith (.ListComp elt [⟨tg,iter,ifs,0⟩] sc pos) (some (.Name y py)) spos.line X.env=pure true:=by rfl)
 (hcs:fY osc sc N N' ix=true:=by decide +kernel) (hc:X.calm=true:=by rfl)
 (hs:∀x,foldedSetIterable iter X.env x=pure x:=by intro _;rfl) (hsl:R.slot i:=by first | exact CI | exact ⟨AT rfl,AT rfl⟩):DS X R (.Assign [.Name y py] (.ListComp elt [⟨tg,iter,ifs,0⟩] sc pos) spos) (mAsg i (mLC sb fi fg ft fe)):=by
 obtain ⟨wi,h1,h2⟩:=hi
 exact ⟨_,qJ (g:=fun b=>(hg b).choose) (tt:=fun b=>(ht b).choose) (te:=fun b=>(he b).choose) hnd hi' hy hsw hc ho hN hcs h1 (fun b=>⟨(hg b).choose_spec.1,(ht b).choose_spec.1,(he b).choose_spec.1⟩) (fun b=>(hg b).choose_spec.2.2.gk) hs,
  q9 hsl (sR hx h2 (fun b=>(hg b).choose_spec.2.1) (fun b=>(ht b).choose_spec.2) (fun b=>(he b).choose_spec.2))⟩
end
end Dm
namespace Dm
open PySem PySem.Spec L2 Tf
theorem EB{α:Type}{f:PyData->Option (Option PyData)}{en:α->PyData}{g:α->PyData}:∀ {xs:List α},(∀x ∈ xs,f (en x)=some (some (g x)))->NB f (xs.map en)=some (xs.map g)
 | [],_=>rfl
 | x::xs,h=>by
  rw [B1,NB,h x AU,EB (fun y hy=>h y (AK _ hy))];rfl
theorem QY{f:PyData->Option (Option PyData)}{g:Nat->PyData}{lo:Int}{n:Nat}(h:∀i,i<n->f (.int (lo+(i:Nat)))=some (some (g i))):NB f (HH lo n)=some ((List.range n).map g) :=
 EB (en:=fun i:Nat=>PyData.int (lo+(i:Nat))) fun i hi=>h i (BL.mp hi)
def Rts(g:En->Option Out)(ρ:En)(r:Sl):Prop:=∃ρ',g ρ=some (.rt r ρ')
theorem JT{n k:Nat}{g:En->Option Out}{ds:List PyData}{ρ:En}{r:Sl}(hl:ds.length=k)(e:ds.map (fun d=>some (Sl.val d))++List.replicate (n - ds.length) none=ρ)(h:Rts g ρ r):FS n g k ds=some r:=by
 obtain ⟨ρ',h⟩:=h;unfold FS;rw [if_pos hl,e,h];rfl
theorem v4{f g:En->Option Out}{ρ ρ':En}{o:Out}(h:f ρ=some (.nx ρ'))(k:g ρ'=some o):mSeq f g ρ=some o:=by
 unfold mSeq;rw [h];exact k
theorem cB{c:En->Option Bool}{f g:En->Option Out}{ρ:En}{o:Out}{b:Bool}(h:c ρ=some b)(k:(if b then f ρ else g ρ)=some o):mIf c f g ρ=some o:=by
 unfold mIf;rw [h];exact k
theorem MY{i:Nat}{f:En->Option Sl}{ρ:En}{r:Sl}(h:f ρ=some r):mAsg i f ρ=some (.nx (ρ.set i (some r))):=by
 unfold mAsg;rw [h];rfl
theorem xM{f:En->Option Sl}{ρ:En}{r:Sl}(h:f ρ=some r):mRet f ρ=some (.rt r ρ):=by
 unfold mRet;rw [h];rfl
theorem CU{F:List PyData->Option Sl}{f:En->Option (List PyData)}{ρ:En}{ds:List PyData}{r:Sl}(h:f ρ=some ds)(k:F ds=some r):mCall F f ρ=some r:=by
 unfold mCall;rw [h];exact k
theorem xI{fi:En->Option (List PyData)}{fg:PyData->En->Option En}{gb:En->Option Out}{ρ:En}{ds:List PyData}{o:Out}(h:fi ρ=some ds)(k:U1 fg gb ds ρ=some o):HJ fi fg gb ρ=some o:=by
 unfold HJ;rw [h];exact k
theorem JA{sb:En->En}{fi:En->Option (List PyData)}{fg:PyData->En->Option En}{ft:En->Option Bool}{fe:En->Option Sl}{ρ:En}{ds es:List PyData}(h:fi ρ=some ds)(hl:ds.length<sizeLine)(k:NB (elM fg ft fe (sb ρ)) ds=some es):mLC sb fi fg ft fe ρ=some (.own es):=by
 unfold mLC;rw [h];show (if ds.length<sizeLine then _ else _)=_;rw [if_pos hl,k];rfl
theorem MS{i j:Int}(h:UG i j):dRep (.val (.int i)) (.val (.int j))=some (.val (.int (i*j))):=by
 unfold dRep sJ YC;simp only [if_pos h]
theorem A49{i j:Int}(h:jN i j):E2 (.val (.int i)) (.val (.int j))=some (.val (.int (i.fdiv j))):=by
 unfold E2 YC;simp only [if_pos h]
theorem QC{i j:Int}(h:j≠0):F3 (.val (.int i)) (.val (.int j))=some (.val (.int (i.fmod j))):=by
 unfold F3 YC;simp only [if_pos h]
theorem JV{f:En->Option (List Sl)}{ρ:En}{j:Nat}(h:f ρ=some [.val (.int j)])(hj:j<=1000):IB f ρ=some (HH 0 j):=by
 have b:inB (j:Int):=by
  constructor
  . have : -(2 ^ 62:Int)<=0:=by decide
    omega
  . have:(1000:Int)<2 ^ 62:=by decide
    omega
 unfold IB;rw [h];show (if inB (j:Int) then some (HH 0 ((j:Int).toNat)) else none)=_;rw [if_pos b,Int.toNat_natCast]
theorem qZ{f:En->Option (List Sl)}{ρ:En}{i j:Nat}(h:f ρ=some [.val (.int i), .val (.int j)])(hi:i<=1000)(hj:j<=1000):NV f ρ=some (HH i (j - i)):=by
 have b:∀j:Nat,j<=1000->inB (j:Int):=by
  intro j hj
  constructor
  . have : -(2 ^ 62:Int)<=0:=by decide
    omega
  . have:(1000:Int)<2 ^ 62:=by decide
    omega
 unfold NV;rw [h];show (if inB (i:Int)/\inB (j:Int) then some (HH i (((j:Int) - (i:Int)).toNat)) else none)=_;rw [if_pos ⟨b i hi,b j hj⟩,Int.toNat_sub]
theorem eqD_int(i j:Int):eqD (.int i) (.int j)=some (decide (i=j)):=by
 have:PyData.eqv (.int i) (.int j)=decide (i=j):=by simp [PyData.eqv,Bool.beq_eq_decide_eq]
 unfold eqD;rw [if_pos ⟨rfl,rfl,by simp [PyData.depth]⟩,this]
theorem N0{α:Type}{en:α->PyData}(h:∀x,(en x).canLay0=true):∀xs:List α,PyData.canLayAll0 (xs.map en)=true
 | []=>rfl
 | x::xs=>by rw [B1,PyData.canLayAll0,h x,N0 h xs];rfl
theorem N4{α:Type}{en:α->PyData}{k:Nat}(h:∀x,(en x).depth<=k):∀xs:List α,PyData.depthAll (xs.map en)<=k
 | []=>CK _
 | x::xs=>by rw [B1,PyData.depthAll];exact Nat.max_le.mpr ⟨h x,N4 h xs⟩
theorem XR{d:PyData}(h:d.canLay0=true)(k:d.depth<=60):eqD d d=some true:=by
 unfold eqD;rw [if_pos ⟨h,h,by omega⟩,SeqAt.eqv_refl d h]
end Dm
namespace Dm
open PySem PySem.Spec PyProof.Rows L2 Tf
section
variable {X:Cx}
theorem lM{bs:List Bool}:∀ {us:List Value},Vals (bs.map V.bl) us->LSm.BoolsAre us bs:=by
 induction bs with
 | nil=>intro us r;cases r;exact .nil
 | cons b bs ih=>
  intro us r
  cases r with
  | cons r1 r2=>cases (show _=Value.bool b from r1);exact .cons b (ih r2)
theorem lF(hc:X.calm=true):KI X (.builtin "all") (fun xs H Q=>∃(p:Addr) (bs:List Bool),xs = [.ref p]/\SqL X.K H p (bs.map V.bl)/\Q (.bl (bs.all id)) H):=by
 intro pins s σ H xs us Q I r h;obtain ⟨p,bs,rfl,hq,q⟩:=h;obtain ⟨u,rfl,ru⟩:=JP r
 cases (show u=Value.ref p from ru)
 obtain ⟨its,rv,pl,hz⟩:=I.list hq;have hb:=lM rv;have hl:s.heap.IsList p its.toArray:=pl.isList;have hlt:p<s.heap.objs.size:=by obtain ⟨_,e,_⟩:=hl;exact AO e
 refine call_all_walk (gN hl ?_)
 refine ⟨s.heap.objs.size,[s.heap.objs.size,p],[s.heap.objs.size],its.toArray.size,_,_,fun i=>(bs[i]?).getD true,rfl,Walks.list (A:=X.A.in1) (I.ok.hd hc) _ p (BW hlt) its.toArray,
  ⟨⟨_,AG _ rfl,rfl,rfl⟩,hl.push _⟩,fun i v s' Q' E' hP hQ=> ?_,fun h' tk hk=> ?_⟩
 . obtain ⟨b,e,rfl⟩:=hb.get i v (by simpa using hP);simp only [e,Option.getD_some] at hQ
   exact EU hQ
 . have e : ((List.range its.toArray.size).all fun i => (bs[i]?).getD true) = bs.all id := by
    rw [AR,hb.length];exact LSm.range_all bs
   rw [e];exact ⟨.bl _,H,I.kept (LSm.kept_iter hk),rfl,q⟩
def ME:List PyData->Option (List Bool)
 | []=>some []
 | .bool i::r=>(ME r).map (i :: ·)
 | _::_=>none
theorem SY:∀ {ds:List PyData} {bs:List Bool},ME ds=some bs->ds=bs.map .bool
 | [],bs,h=>by cases h;rfl
 | .bool i::r,bs,h=>by
  obtain ⟨ms,h1,rfl⟩:=AH.mp (show (ME r).map (i :: ·)=some bs from h);rw [SY h1];rfl
theorem TC{K:PySem.W.Frag}{H:Hp}:∀ {vs:List V} {bs:List Bool},Reps K H vs (bs.map .bool)->vs=bs.map .bl
 | _,[],h=>by cases h;rfl
 | _,n::r,h=>by
  cases h with
  | cons h t=>cases h;rw [TC t];rfl
def dAll:List Sl->Option Sl
 | [a]=>match a.dat with
  | .list ds=>(ME ds).map fun bs=> .val (.bool (bs.all id))
  | _=>none
 | _=>none
theorem xG{K:PySem.W.Frag}:LV K (fun xs H Q=>∃(p:Addr) (bs:List Bool),xs = [.ref p]/\SqL K H p (bs.map V.bl)/\Q (.bl (bs.all id)) H) dAll:=fun H0 H vs ss z s p hz Q q=>by
 unfold dAll at hz
 split at hz
 . obtain ⟨v,rfl,pa⟩:=HC p
   split at hz
   . rename_i ds hd;obtain ⟨bs,hn,rfl⟩:=AH.mp hz;obtain ⟨a,vs,rfl,h1,h2⟩:=pa.lst s hd;rw [SY hn] at h2
     rw [TC h2] at h1
     exact ⟨a,bs,rfl,h1,q _ _ _ (Ext.refl s) (.bool _)⟩
   . cases hz
 . cases hz
def yW(K:PySem.W.Frag)(neg:Bool):R2:=fun x y H Q=>∃p xs dx ds,y = .ref p/\(SqL K H p xs\/SqT K H p xs)/\Rep K H x dx/\Reps K H xs ds/\dx.canLay0=true/\(∀d ∈ ds,d.canLay0=true)/\dx.depth<=60/\Q (.bl (if neg then !(ds.any fun d=>PyData.eqv d dx) else ds.any fun d=>PyData.eqv d dx)) H
open Classical in
noncomputable def eqW(h:Heap)(ds:List PyData)(dx:PyData)(u:Value):Bool:=decide (∃d ∈ ds,(∃as,Reads h u d as)/\PyData.eqv d dx=true)
open Classical in
theorem SD{h:Heap}{ds:List PyData}{dx d:PyData}{u:Value}{as:List Addr}(hd:d ∈ ds)(hl:∀d ∈ ds,d.canLay0=true)(r:Reads h u d as):eqW h ds dx u=PyData.eqv d dx:=by
 unfold eqW
 by_cases e:PyData.eqv d dx=true
 . rw [e];exact AS ⟨d,hd,⟨as,r⟩,e⟩
 . rw [G4.mpr e];refine AV ?_;rintro ⟨d',hd',⟨as',r'⟩,e'⟩;rw [<-SeqAt.Reads.unique d d' u as as' (hl d hd) r r'] at e'
   exact e e'
theorem PN{h:Heap}{dx:PyData}{all:List PyData}(hl:∀d ∈ all,d.canLay0=true):∀ {us:List Value} {ds:List PyData} {as:List Addr},ReadsAll h us ds as->(∀d ∈ ds,d ∈ all)->us.any (eqW h all dx)=ds.any fun d=>PyData.eqv d dx
 | _,_,_, .nil,_=>rfl
 | _,_,_, .cons r t,hs=>by
  rw [LG,LG,SD (hs _ AU) hl r,PN hl t fun d hd=>hs d (AK _ hd)]
theorem IC{h:Heap}:∀ {us:List Value} {ds:List PyData} {as:List Addr},ReadsAll h us ds as->∀u ∈ us,∃d ∈ ds,∃bs,Reads h u d bs
 | _,_,_, .nil,u,hu=>by cases hu
 | _,_,_, .cons r t,u,hu=>by
  rcases AJ.mp hu with rfl | hu
  . exact ⟨_,AU,_,r⟩
  . obtain ⟨d,hd,q⟩:=IC t u hu;exact ⟨d,AK _ hd,q⟩
theorem NL(A:Around):A.in1.units=A.units+1:=rfl
theorem A85(hu:X.A.units+64<cLine):OpR X (compareOp .In) (yW X.K false):=by
 intro pins s σ H x y v u Q I rx ry h;obtain ⟨p,xs,dx,ds,rfl,hq,hx,hs,lx,ld,dp,q⟩:=h
 cases ry
 obtain ⟨bs,r2⟩:=hx.reads I rx lx;rcases hq with hq | hq
 . obtain ⟨its,r,pl,hz⟩:=I.list hq;obtain ⟨as,ra⟩:=Reps.reads I hs r (LM ld);refine SeqAt.in_listAt (eqW s.heap ds dx) pl.isList (fun w hw=> ?_) ⟨.bl _,H,I,rfl,?_⟩
   . obtain ⟨d,hd,cs,rd⟩:=IC ra w (by simpa using hw);rw [SD hd ld rd];exact RM d dx _ _ _ _ _ _ rd r2 (ld d hd) lx (by have:=NL X.A;omega)
   . rw [show its.toArray.any (eqW s.heap ds dx)=its.any (eqW s.heap ds dx) by simp,PN ld ra fun _ h=>h];exact q
 . obtain ⟨its,r,pl,hz⟩:=I.tuple hq;obtain ⟨as,ra⟩:=Reps.reads I hs r (LM ld);refine SeqAt.in_tupleAt (eqW s.heap ds dx) pl (fun w hw=> ?_) ⟨.bl _,H,I,rfl,?_⟩
   . obtain ⟨d,hd,cs,rd⟩:=IC ra w (by simpa using hw);rw [SD hd ld rd];exact RM d dx _ _ _ _ _ _ rd r2 (ld d hd) lx (by have:=NL X.A;omega)
   . rw [show its.toArray.any (eqW s.heap ds dx)=its.any (eqW s.heap ds dx) by simp,PN ld ra fun _ h=>h];exact q
theorem eG(hu:X.A.units+64<cLine):OpR X (compareOp .NotIn) (yW X.K true):=by
 intro pins s σ H x y v u Q I rx ry h;obtain ⟨p,xs,dx,ds,rfl,hq,hx,hs,lx,ld,dp,q⟩:=h
 cases ry
 obtain ⟨bs,r2⟩:=hx.reads I rx lx;rcases hq with hq | hq
 . obtain ⟨its,r,pl,hz⟩:=I.list hq;obtain ⟨as,ra⟩:=Reps.reads I hs r (LM ld);refine SeqAt.notIn_listAt (eqW s.heap ds dx) pl.isList (fun w hw=> ?_) ⟨.bl _,H,I,rfl,?_⟩
   . obtain ⟨d,hd,cs,rd⟩:=IC ra w (by simpa using hw);rw [SD hd ld rd];exact RM d dx _ _ _ _ _ _ rd r2 (ld d hd) lx (by have:=NL X.A;omega)
   . rw [show its.toArray.any (eqW s.heap ds dx)=its.any (eqW s.heap ds dx) by simp,PN ld ra fun _ h=>h];exact q
 . obtain ⟨its,r,pl,hz⟩:=I.tuple hq;obtain ⟨as,ra⟩:=Reps.reads I hs r (LM ld);refine SeqAt.notIn_tupleAt (eqW s.heap ds dx) pl (fun w hw=> ?_) ⟨.bl _,H,I,rfl,?_⟩
   . obtain ⟨d,hd,cs,rd⟩:=IC ra w (by simpa using hw);rw [SD hd ld rd];exact RM d dx _ _ _ _ _ _ rd r2 (ld d hd) lx (by have:=NL X.A;omega)
   . rw [show its.toArray.any (eqW s.heap ds dx)=its.any (eqW s.heap ds dx) by simp,PN ld ra fun _ h=>h];exact q
def inD(neg:Bool)(dx:PyData)(ds:List PyData):Option Sl:=if dx.canLay0=true/\(ds.all fun d=>d.canLay0)=true/\dx.depth<=60 then some (.val (.bool (if neg then !(ds.any fun d=>PyData.eqv d dx) else ds.any fun d=>PyData.eqv d dx))) else none
def W8(neg:Bool)(a b:Sl):Option Sl:=match b.dat with
 | .list ds=>inD neg a.dat ds
 | .tuple ds=>inD neg a.dat ds
 | _=>none
theorem pU{K:PySem.W.Frag}{neg:Bool}:OpD K (yW K neg) (W8 neg):=fun H0 H x y sx sy z s px py hz Q q=>by
 unfold W8 at hz
 split at hz
 . rename_i ds hd;unfold inD at hz
   split at hz
   . rename_i hc
     cases hz
     obtain ⟨a,vs,rfl,h1,h2⟩:=py.lst s hd;exact ⟨a,vs,_,ds,rfl, .inl h1,px.rep s,Reps.same s h2,hc.1,fun d hd=>GJ.mp hc.2.1 d hd,hc.2.2,q _ _ _ (Ext.refl s) (.bool _)⟩
   . cases hz
 . rename_i ds hd;unfold inD at hz
   split at hz
   . rename_i hc
     cases hz
     obtain ⟨a,vs,rfl,h1,h2⟩:=py.tup hd;exact ⟨a,vs,_,ds,rfl, .inr (s.seqT (SqT.of h1)),px.rep s,Reps.same s h2,hc.1,fun d hd=>GJ.mp hc.2.1 d hd,hc.2.2,q _ _ _ (Ext.refl s) (.bool _)⟩
   . cases hz
 . cases hz
variable {R:Rl} [RelOk X.K R] {a b e:Expr} {pos p:Pos} {fa fb f:En->Option Sl}
theorem UR(hu:X.A.units+64<cLine)(ha:DP X R a fa)(hb:DP X R b fb)(hm:behindInMarks .NotIn b=false:=by with_unfolding_all rfl):DT X R (.Compare a [.NotIn] [b] pos) (mTest (mBin (W8 true) fa fb)):=QI (eG hu) pU ha hb hm
end
end Dm
namespace Dm
open PySem PySem.Spec L2 Tf
def Wp(g:En->Option Out)(ρ:En)(Z:Out->Prop):Prop:=∃o,g ρ=some o/\Z o
def Nx(P:En->Prop):Out->Prop
 | .nx ρ=>P ρ
 | _=>False
def Rt(r:Sl):Out->Prop
 | .rt r' _=>r'=r
 | _=>False
def Lp(N:En->Prop)(Z:Out->Prop):Out->Prop
 | .nx ρ=>N ρ
 | .ct ρ=>N ρ
 | .bk ρ=>Z (.nx ρ)
 | .rt r ρ=>Z (.rt r ρ)
section
variable {f g:En->Option Out} {ρ:En} {Z:Out->Prop}
theorem XN{o:Out}(h:g ρ=some o)(z:Z o):Wp g ρ Z:=⟨o,h,z⟩
theorem Wp.imp{Y:Out->Prop}(h:Wp g ρ Y)(k:∀o,Y o->Z o):Wp g ρ Z:=by
 obtain ⟨o,h1,h2⟩:=h;exact ⟨o,h1,k o h2⟩
theorem NG(h:Wp f ρ (fun o=>match o with | .nx ρ'=>Wp g ρ' Z | o=>Z o)):Wp (mSeq f g) ρ Z:=by
 obtain ⟨o,h1,h2⟩:=h
 cases o with
 | nx ρ' =>
  obtain ⟨o2,h3,h4⟩:=h2
  exact ⟨o2,by unfold mSeq;rw [h1];exact h3,h4⟩
 | rt r ρ'=>exact ⟨_,by unfold mSeq;rw [h1];rfl,h2⟩
 | bk ρ'=>exact ⟨_,by unfold mSeq;rw [h1];rfl,h2⟩
 | ct ρ'=>exact ⟨_,by unfold mSeq;rw [h1];rfl,h2⟩
theorem GB{P:En->Prop}(h:Wp f ρ (Nx P))(k:∀ρ',P ρ'->Wp g ρ' Z):Wp (mSeq f g) ρ Z:=by
 refine NG (h.imp fun o ho=> ?_)
 cases o with
 | nx ρ'=>exact k ρ' ho
 | _=>exact ho.elim
theorem HA{ρ':En}(h:f ρ=some (.nx ρ'))(k:Wp g ρ' Z):Wp (mSeq f g) ρ Z:=by
 obtain ⟨o,h1,h2⟩:=k;exact ⟨o,v4 h h1,h2⟩
variable {i:Nat} {fe:En->Option Sl} {r:Sl} {c:En->Option Bool} {b:Bool}
theorem KF(h:fe ρ=some r)(k:Z (.nx (ρ.set i (some r)))):Wp (mAsg i fe) ρ Z:=⟨_,MY h,k⟩
theorem CA(h:fe ρ=some r)(k:Wp g (ρ.set i (some r)) Z):Wp (mSeq (mAsg i fe) g) ρ Z:=HA (MY h) k
theorem IV(h:Wp g (frz1 i ρ) Z):Wp (mFrz i g) ρ Z:=h
theorem DF(h:fe ρ=some r)(k:Z (.rt r ρ)):Wp (mRet fe) ρ Z:=⟨_,xM h,k⟩
theorem bY(h:c ρ=some b)(k:Wp (if b then f else g) ρ Z):Wp (mIf c f g) ρ Z:=by
 obtain ⟨o,h1,h2⟩:=k;refine ⟨o,cB h ?_,h2⟩
 cases b <;> exact h1
theorem OA(h:c ρ=some true)(k:Wp f ρ Z):Wp (mIf c f g) ρ Z:=bY (b:=true) h k
theorem QJ(h:c ρ=some false)(k:Wp g ρ Z):Wp (mIf c f g) ρ Z:=bY (b:=false) h k
theorem L3(k:Z (.nx ρ)):Wp mNext ρ Z:=⟨_,rfl,k⟩
theorem RK{h:En->Option Out}(hc:c ρ=some false)(k:Wp h ρ Z):Wp (mSeq (mIf c f mNext) h) ρ Z:=HA (cB hc rfl) k
variable {fi:En->Option (List PyData)} {fg:PyData->En->Option En} {ds:List PyData}
theorem mE(P:Nat->En->Prop)(hi:fi ρ=some ds)(h0:P 0 ρ)(hs:∀(j:Nat) d ρ,ds[j]? = some d->P j ρ->∃ρ1,fg d ρ=some ρ1/\Wp g ρ1 (Lp (P (j+1)) Z))(k:∀ρ',P ds.length ρ'->Z (.nx ρ')):Wp (HJ fi fg g) ρ Z:=by
 have gen:∀(n j:Nat) ρ,j+n=ds.length->P j ρ->∃o,U1 fg g (ds.drop j) ρ=some o/\Z o:=by
  intro n
  induction n with
  | zero=>
   intro j ρ hj hp;have:j=ds.length:=by omega
   subst this;rw [EG (A9 _)]
   exact ⟨_,rfl,k ρ hp⟩
  | succ n ih=>
   intro j ρ hj hp;have hd:ds[j]? = some ds[j]:=AE (by omega);obtain ⟨ρ1,h1,o,h2,h3⟩:=hs j ds[j] ρ hd hp;rw [UM hd,h1];simp only [FN,h2]
   cases o with
   | nx ρ2=>exact ih (j+1) ρ2 (by omega) h3
   | ct ρ2=>exact ih (j+1) ρ2 (by omega) h3
   | bk ρ2=>exact ⟨_,rfl,h3⟩
   | rt r ρ2=>exact ⟨_,rfl,h3⟩
 obtain ⟨o,h1,h2⟩:=gen ds.length 0 ρ (by omega) h0;refine ⟨o,xI hi ?_,h2⟩;simpa using h1
theorem VR(P:Nat->En->Prop){lo:Int}{n:Nat}(hi:fi ρ=some (HH lo n))(h0:P 0 ρ)(hs:∀(j:Nat) ρ,j<n->P j ρ->∃ρ1,fg (.int (lo+(j:Nat))) ρ=some ρ1/\Wp g ρ1 (Lp (P (j+1)) Z))(k:∀ρ',P n ρ'->Z (.nx ρ')):Wp (HJ fi fg g) ρ Z:=by
 refine mE P hi h0 (fun j d ρ hd hp=> ?_) (by simpa [HH] using k);rw [XU] at hd
 split at hd
 . rename_i hlt
   cases hd
   exact hs j ρ hlt hp
 . cases hd
theorem LP(P:Nat->En->Prop){n:Nat}(hi:fi ρ=some (HH 0 n))(h0:P 0 ρ)(hs:∀(j:Nat) ρ,j<n->P j ρ->∃ρ1,fg (.int (j:Nat)) ρ=some ρ1/\Wp g ρ1 (Lp (P (j+1)) Z))(k:∀ρ',P n ρ'->Z (.nx ρ')):Wp (HJ fi fg g) ρ Z:=
 VR P hi h0 (fun j ρ hj hp=>by rw [uF];exact hs j ρ hj hp) k
theorem IJ{α:Type}{en:α->PyData}{xs:List α}(P:Nat->En->Prop)(hi:fi ρ=some (xs.map en))(h0:P 0 ρ)(hs:∀(j:Nat) x ρ,xs[j]? = some x->P j ρ->∃ρ1,fg (en x) ρ=some ρ1/\Wp g ρ1 (Lp (P (j+1)) Z))(k:∀ρ',P xs.length ρ'->Z (.nx ρ')):Wp (HJ fi fg g) ρ Z:=by
 refine mE P hi h0 (fun j d ρ hd hp=> ?_) (by simpa using k);rw [B5] at hd
 obtain ⟨x,hx,rfl⟩:=AH.mp hd;exact hs j x ρ hx hp
theorem iM(P:En->Prop)(μ:En->Nat)(h0:P ρ)(hs:∀ρ,P ρ->(c ρ=some false/\Z (.nx ρ))\/(c ρ=some true/\Wp g ρ (Lp (fun ρ'=>P ρ'/\μ ρ'<μ ρ) Z))):Wp (NC c g) ρ Z:=by
 have gen:∀(n:Nat) ρ,μ ρ<n->P ρ->∃o,GC c g n ρ=some o/\Z o:=by
  intro n
  induction n with
  | zero=>intro ρ h;omega
  | succ n ih=>
   intro ρ hm hp;rcases hs ρ hp with ⟨h,z⟩ | ⟨h,o,h1,h2⟩
   . exact ⟨.nx ρ,by simp [GC,h],z⟩
   . cases o with
     | nx ρ2=>
      obtain ⟨o,h4,h5⟩:=ih ρ2 (by have:=h2.2;omega) h2.1
      exact ⟨o,by simp [GC,h,h1,h4],h5⟩
     | ct ρ2=>
      obtain ⟨o,h4,h5⟩:=ih ρ2 (by have:=h2.2;omega) h2.1
      exact ⟨o,by simp [GC,h,h1,h4],h5⟩
     | bk ρ2=>exact ⟨_,by simp [GC,h,h1],h2⟩
     | rt r ρ2=>exact ⟨_,by simp [GC,h,h1],h2⟩
 obtain ⟨o,h1,h2⟩:=gen (μ ρ+1) ρ (by omega) h0;exact ⟨o,fH h1,h2⟩
theorem FR{n k:Nat}{ds:List PyData}(hl:ds.length=k)(e:ds.map (fun d=>some (Sl.val d))++List.replicate (n - ds.length) none=ρ)(h:Wp g ρ (Rt r)):FS n g k ds=some r:=by
 obtain ⟨o,h1,h2⟩:=h
 cases o with
 | rt r' ρ'=>cases h2;exact JT hl e ⟨ρ',h1⟩
 | _=>exact h2.elim
end
theorem mH{a b:En->Option Bool}{ρ:En}{k l:Bool}(h1:a ρ=some k)(h2:b ρ=some l):mAnd a b ρ=some (k && l):=by
 unfold mAnd;rw [h1]
 cases k
 . rfl
 . exact h2
theorem cV{a b:En->Option Bool}{ρ:En}{k l:Bool}(h1:a ρ=some k)(h2:b ρ=some l):mOr a b ρ=some (k || l):=by
 unfold mOr;rw [h1]
 cases k
 . exact h2
 . rfl
theorem QF{a:En->Option Bool}{ρ:En}{k:Bool}(h1:a ρ=some k):mNot a ρ=some (!k):=by
 unfold mNot;rw [h1];rfl
theorem YT{fa fb:En->Option Sl}{ρ:En}{i j:Int}(ha:fa ρ=some (.val (.int i)))(hb:fb ρ=some (.val (.int j))):mTest (mBin dne fa fb) ρ=some (!decide (i=j)):=by
 unfold mTest mBin;rw [ha,Option.bind_some,hb,Option.bind_some];show Option.bind ((eqD (.int i) (.int j)).map _) _=_;rw [eqD_int];rfl
theorem ZS{fa fb:En->Option Sl}{ρ:En}{i j:Int}(ha:fa ρ=some (.val (.int i)))(hb:fb ρ=some (.val (.int j))):mTest (mBin deq fa fb) ρ=some (decide (i=j)):=by
 unfold mTest mBin;rw [ha,Option.bind_some,hb,Option.bind_some];show Option.bind ((eqD (.int i) (.int j)).map _) _=_;rw [eqD_int];rfl
theorem nW{fa fb:En->Option Sl}{ρ:En}{a b:Sl}(ha:fa ρ=some a)(hb:fb ρ=some b)(h:a.dat=b.dat)(h1:b.dat.canLay0=true)(h2:b.dat.depth<=60):mTest (mBin dne fa fb) ρ=some false:=by
 unfold mTest mBin;rw [ha,Option.bind_some,hb,Option.bind_some];show Option.bind ((eqD a.dat b.dat).map _) _=_;rw [h,XR h1 h2];rfl
theorem bH{fa fb:En->Option Sl}{ρ:En}{a b:Sl}(ha:fa ρ=some a)(hb:fb ρ=some b)(h:a.dat=b.dat)(h1:b.dat.canLay0=true)(h2:b.dat.depth<=60):mBin deq fa fb ρ=some (.val (.bool true)):=by
 unfold mBin;rw [ha,Option.bind_some,hb,Option.bind_some];show (eqD a.dat b.dat).map _=_;rw [h,XR h1 h2];rfl
def il(l:List Int):List PyData:=l.map .int
def nl(l:List Nat):List PyData:=l.map fun n:Nat=>PyData.int (n:Int)
theorem ZP(l:List Int):(il l).length=l.length:=AA ..
theorem JM(l:List Nat):(nl l).length=l.length:=AA ..
theorem OF(a b:List Nat):nl (a++b)=nl a++nl b:=D8 ..
theorem mW(a b:List Int):il (a++b)=il a++il b:=D8 ..
theorem nQ{α:Type}{xs:List α}{j:Nat}{x:α}(h:xs[j]? = some x):atI xs (j:Int)=some x:=by
 obtain ⟨hj,e⟩:=List.getElem?_eq_some_iff.mp h;unfold atI ixN;rw [if_pos (by omega),if_pos (by omega)];simpa using h
theorem JX{s:Sl}{ds:List PyData}{j:Nat}{d:PyData}(hs:s.dat = .list ds\/s.dat = .tuple ds)(h:ds[j]? = some d):dix s (.val (.int (j:Int)))=some (.val d):=by
 unfold dix;rcases hs with hs | hs <;> simp only [hs,nQ h,Option.map_some]
theorem NJ(l:List Int):FT (il l)=some l:=by
 induction l with
 | nil=>rfl
 | cons a l ih=>simp only [il,B1,FT] at ih ⊢;rw [ih];rfl
end Dm
namespace Tf
open PySem PySem.Spec PyProof.Rows L2
def Itv(K:PySem.W.Frag)(a:Addr)(n:Nat):It:=
 ⟨fun i H=>∃xs x,xs.length=n/\SqL K H a xs/\xs.reverse[i]? = some x,fun i H v H'=>H'=H/\∀xs,SqL K H a xs->xs.reverse[i]? = some v,fun i H=>n<=i⟩
theorem wR{α:Type}{xs:List α}{i:Nat}{x:α}(h:xs.reverse[i]? = some x):i<xs.length/\xs[xs.length - 1 - i]? = some x:=by
 have hi:i<xs.length:=by
  obtain ⟨q,_⟩:=AQ.mp h;simpa using q
 rw [zB hi] at h
 exact ⟨hi,h⟩
theorem iA{P:Program}{w:World}{K:PySem.W.Frag}{tg:Expr}(a it:Addr)(n:Nat):Turn P w K tg (Itv K a n) [it] it (fun i h=>i<=n/\h.IsRevIter it a ((n:Int) - 1 - (i:Nat))) where
 mem:=A4.mpr rfl
 obj:=fun i h st b hb=>by
  cases A4.mp hb
  obtain ⟨_,o,e,_,d⟩:=st;refine ⟨o,e,fun v z=> ?_⟩;rw [d] at z
  cases z
 keep:=fun i h h' st k=>⟨st.1,st.2.at fun o e=>k it (A4.mpr rfl) o e⟩
 item:=by
  intro X hP hw hK hc i pins s σ H E I hf st hg;subst hP hw hK;obtain ⟨xs,x,hn,hq,hx⟩:=hg;obtain ⟨hi,hx'⟩:=wR hx;obtain ⟨its,rv,p,hz⟩:=I.list hq;obtain ⟨u,hu,ru⟩:=rv.get hx';obtain ⟨f0,f1,f2,f3,f4,f5⟩:=hf it (A4.mpr rfl);have e1:((n:Int) - 1 - (i:Nat))=((xs.length - 1 - i:Nat):Int):=by omega
  have hit:=st.2;rw [e1] at hit
  refine wpAny_pyNext_rev_item hit p.isList (x:=u) (by simpa using hu) fun h' st' sb=> ?_;have I1:Inv X pins σ H {s with heap:=h' }:=I.turned (t':=s.toks) (fun b o hb e=>(sb.2 b hb).trans e) f0 f1 f3 f4 f5;have e2:((xs.length - 1 - i:Nat):Int) - 1=(n:Int) - 1 - ((i+1:Nat):Int):=by omega
  rw [e2] at st'
  obtain ⟨o,e,c,d⟩:=id st';refine ⟨u,rfl,aR (s:={s with heap:=h' }) e c d (by decide) ⟨x,H,I1,ru,⟨rfl,fun ys hy=> ?_⟩,⟨by omega,st'⟩,fun b hb=>(hf b hb).1⟩⟩;rw [I.list_inj hy hq];exact hx
 done:=by
  intro X hP hw hK hc i pins s σ H E I hf st hg;subst hP hw hK;obtain ⟨f0,f1,f2,f3,f4,f5⟩:=hf it (A4.mpr rfl);have hn:n<=i:=hg;have e1:((n:Int) - 1 - (i:Nat)) = -1:=by have:=st.1;omega
  have hit:=st.2;rw [e1] at hit
  exact wpAny_pyNext_rev_end (I.ok.hd hc) hit fun h' eb=>⟨rfl,I.turned (t':=s.toks) (fun b o hb e=>eb b o hb e) f0 f1 f3 f4 f5⟩
 self:=fun _ _ _ _ _ st h=>AA6 st.2 h
section
variable {X:Cx}
def A34(K:PySem.W.Frag)(ta:TA):TI:=fun σ H R=>ta σ H fun vs H1=>∃l xs,vs = [.ref l]/\SqL K H1 l xs/\R (Itv K l xs.length) H1
theorem Q9{h:Heap}{l:Addr}{i:Int}:(h.push (revObj l i)).IsRevIter h.objs.size l i:=⟨_,AG _ rfl,rfl,rfl⟩
theorem vF {tg a:Expr} {ta:TA} {p pos:Pos} (hg:Gl X "reversed") (hm:X.mg "reversed" = none) (ha:PA X [a] ta) (hs:starEach [a] X.env = [(false,eval a X.env)]:=by rfl):PI X tg (.Call (.Name "reversed" p) [a] [] pos) (A34 X.K ta):=by
 intro pins s σ H R I h;refine Call_ (IF I hg hm QT (CM (thn (ha pos pins s σ H _ I h) fun us s1 ⟨vs,H1,I1,r1,q1⟩ => ?_) hs rfl));obtain ⟨l,xs,e,hq,q⟩:=q1;subst e;obtain ⟨u,rfl,ru⟩:=JP r1
 cases (show u=Value.ref l from ru)
 obtain ⟨its,rv,p1,hz⟩:=I1.list hq;have hl:=rv.length;refine call_reversed_list p1.isList ?_;refine AA6 Q9 ?_;refine ⟨s1.heap.objs.size,[s1.heap.objs.size],_,_,H1,rfl,I1.kept (t':=s1.toks) fun b o e=>A1 _ e,iA l _ xs.length,⟨CK _,?_⟩,fun b hb=> ?_,q⟩
 . have e:((its.toArray.size:Nat):Int) - 1=(xs.length:Int) - 1 - ((0:Nat):Int):=by simp;omega
   rw [<-e];exact Q9
 . cases A4.mp hb
   exact I1.fpOk (A9 _) (I1.hok.fresh (A9 _))
end
theorem fD:typeLookup (.type "list_reverseiterator") "__len__" = pure none:=by rw [typeLookup_type,AA0];kernel_rfl
theorem j9:typeLookup (.type "list_reverseiterator") "__length_hint__" = pure (some (.builtin "list_reverseiterator.__length_hint__")):=by rw [typeLookup_type,AA0];kernel_rfl
section
variable {prog:Program} {w:World} {A:Around} {E:Value->Shared->Prop} {s:Shared} {it:Addr} {F W:List Addr} {G:Array GenState->Array GenState->Prop} {n:Nat} {P:Nat->Value->Prop} {St:Nat->Shared->Prop}
theorem nK {Q : List Value -> Shared -> Prop} (V : WalksS prog w A.in1 it F W G n P St) (ty : ∀ i s, St i s -> s.TypeIs (.ref it) "list_reverseiterator") (st : St 0 s) (lt : ∀ b ∈ F, b < s.heap.objs.size) (mem : it ∈ F)
 (q:∀s' acc,Moved W G s s'->ItemsOf P acc n->Q acc.toList s') (hn:n<=sizeLine):wpAny (model prog w) A (collect (.ref it)) Q E s:=by
 have out:s.heap.objs.size ∉ F:=fun z=>Nat.lt_irrefl _ (lt _ z);have ne:s.heap.objs.size≠it:=fun z=>out (z ▸ mem);unfold collect;refine wpAny_bind (wpAny_runValue (codeAny_builtin PySem.F.entry_proto_collect ?_));rw [Around.under_plainId PySem.F.plain_proto_collect _];show wpAny _ A.in1 (newList [] >>= fun z=>again (.builtin "list.__iadd__" ⟨[z, .ref it],[]⟩)) _ _ s;refine wpAny_bind (wpAny_newObj_type ?_);refine wpAny_pure ⟨plainId_quiet PySem.F.plain_list_iadd _,codeAny_builtin PySem.F.entry_list_iadd ?_⟩;rw [Around.under_plainId PySem.F.plain_list_iadd _];have st1:=V.frame 0 s (s.heap.push {cls:= .type "list",data:= .seq ([]:List Value).toArray}) s.toks st (Nat.le_refl _) fun b _ o z=>Heap.get?_push_of_some _ z;have new:(s.heap.push {cls:= .type "list",data:= .seq ([]:List Value).toArray}).get? s.heap.objs.size=some {cls:= .type "list",data:= .seq ([]:List Value).toArray}:=Heap.get?_push_size _ rfl;have un:Builtin.List.listSameRef (.ref s.heap.objs.size) (.ref it)=false:=by simp [Builtin.List.listSameRef,ne]
 show wpAny _ A.in1 (Builtin.List.listExtendWith (.ref s.heap.objs.size) (.ref it) (.ref s.heap.objs.size)) _ _ _;unfold Builtin.List.listExtendWith;refine wpAny_bind (wpAny_typeOf (ty 0 _ st1) ?_);rw [if_neg (by rw [un];decide)];refine wpAny_bind (V.self 0 _ _ _ st1 ?_);refine wpAny_bind (wpAny_holding ?_);unfold Builtin.List.listLengthHint;refine wpAny_bind (wpAny_specialOf (ty 0 _ st1) fD ?_);show wpAny _ A.in1 (specialOf (Value.ref it) (Str.ofString "__length_hint__") >>= _) _ _ _;refine wpAny_bind (wpAny_specialOf (ty 0 _ st1) j9 ?_)
 (generalize hid:("list_reverseiterator.__length_hint__" : String)=id0;(fail_if_success (clear hid id0));wp_delta;rw [show splitId id0=some ("list_reverseiterator","__length_hint__") from by subst hid;decide +kernel];subst hid)
 refine A0 (MQ (b:=true) (ty 0 _ st1) (by rw [isSubtype_type];kernel_rfl) ?_);refine A5 ?_;rw [A8 (by decide)];refine A5 ⟨FU PySem.F.plain_extend_loop _,codeAny_extend_loopS V hn _ out _ n 0 _ _ _ rfl (CK _) st1 new (ItemsOf.nil P) fun s' acc' c' mv got all=> ?_⟩;show wpAny _ A (load s.heap.objs.size >>= _) _ _ s';refine A0 (wpAny_load got ?_);exact A5 (q s' acc' (Moved.drop_new (o:={cls:= .type "list",data:= .seq ([]:List Value).toArray}) (tk:=s.toks) mv (A9 _)) all)
theorem TW {Q₁ : Value -> Shared -> Prop} (V : WalksS prog w A.in1.in1 it F W G n P St) (ty : ∀ i s, St i s -> s.TypeIs (.ref it) "list_reverseiterator") (st : St 0 s) (lt : ∀ b ∈ F, b < s.heap.objs.size) (mem : it ∈ F)
 (q:∀s' acc,Moved W G s s'->ItemsOf P acc n->Q₁ (.ref s'.heap.objs.size) {s' with heap:=s'.heap.push {cls:= .type "tuple",data:= .seq acc} }) (hn:n<=sizeLine) :
 codeAny (model prog w) A (.call (.builtin "tuple.__new__") ⟨[.type "tuple", .ref it],[]⟩) (wants Q₁ E) s:=by
 refine codeAny_of_tree ?_;show wpAny _ A.in1 (do checkBuiltinCall "tuple.__new__" ⟨[.type "tuple", .ref it],[]⟩;again (.builtin "tuple.__new__" ⟨[.type "tuple", .ref it],[]⟩)) _ _ s;refine A0 (QL (PySem.F.newCall_tuple_1 _) (A5 ⟨FU sF _,HX PySem.F.entry_tuple_new ?_⟩));rw [FE sF _];have hsub:=sub_tuple_self;have hinit:=init_tuple_lookup;have hmh:=madeHere_tuple;have ty0:=ty 0 s st
 wp_walk using wpAny_typeOf ty0,nK (hn:=hn) V ty st lt mem
 intro s' acc mv all;show wpAny _ _ (Builtin.Tuple.tupleExact acc.toList.toArray >>= fun z=>ret z) _ _ _;unfold Builtin.Tuple.tupleExact;refine wpAny_bind (wpAny_newObj_type ?_ (by show acc.toList.toArray.size<=sizeLine;simp only [Array.toArray_toList];rw [all.1];exact hn));refine wpAny_pure ?_;have e:acc.toList.toArray=acc:=by simp
 rw [e];exact q s' acc mv all
theorem TY {Q : Value -> Shared -> Prop} (V : WalksS prog w A.in1.in1.in1 it F W G n P St) (ty : ∀ i s, St i s -> s.TypeIs (.ref it) "list_reverseiterator") (st : St 0 s) (lt : ∀ b ∈ F, b < s.heap.objs.size) (mem : it ∈ F)
 (q:∀s' acc,Moved W G s s'->ItemsOf P acc n->Q (.ref s'.heap.objs.size) {s' with heap:=s'.heap.push {cls:= .type "tuple",data:= .seq acc} }) (hn:n<=sizeLine) :
 wpAny (model prog w) A (call (.type "tuple") [.ref it]) Q E s:=by
 refine callType_codes (Q₁:=fun obj t=>t.TypeIs obj "tuple" /\ Q obj t) RN (PySem.F.typeCall_tuple_1 _) PySem.F.entry_object_init
  (TW (hn:=hn) V ty st lt mem fun s' acc mv all=>⟨⟨_,AG _ rfl,rfl⟩,q s' acc mv all⟩) fun obj t ht=> ?_
 exact ⟨ht.1,PySem.F.args_object_init_2 obj _,object_init_meets RN.init.lookup RN.made (by decide) prog w A.in1 _ t ⟨ht.1,rfl,ht.2⟩⟩
end
section
variable {X:Cx}
def bG(K:PySem.W.Frag)(ta:TA):TE:=fun σ H Q=>ta σ H fun vs H1=>∃l xs,vs = [.ref l]/\SqL K H1 l xs/\∀p,H1 p=none->Q (.ref p) (upd H1 p (.tup xs.reverse))
theorem gG {a : Expr} {ta : TA} {p p2 pos pos2 : Pos} (hc : X.calm = true) (hg : Gl X "reversed") (hm : X.mg "reversed" = none) (hg2 : Gl X "tuple") (hm2 : X.mg "tuple" = none) (ha : PA X [a] ta) (hs : starEach [a] X.env = [(false, eval a X.env)] := by rfl)
 (hs2:starEach [.Call (.Name "reversed" p) [a] [] pos] X.env = [(false,eval (.Call (.Name "reversed" p) [a] [] pos) X.env)]:=by rfl):PE X (.Call (.Name "tuple" p2) [.Call (.Name "reversed" p) [a] [] pos] [] pos2) (bG X.K ta):=by
 intro pins s σ H Q I h;refine ED (IF I hg2 hm2 IG ?_);refine CM ?_ hs2 rfl;rw [hs2];show wpAny _ _ (spliced ((false,eval (.Call (.Name "reversed" p) [a] [] pos) X.env) :: [])) _ _ s;refine HS ?_;refine ED (IF I hg hm QT ?_);refine CM (thn (ha pos pins s σ H _ I h) fun us s1 ⟨vs,H1,I1,r1,q1⟩ => ?_) hs rfl;obtain ⟨l,xs,e,hq,q⟩:=q1;subst e;obtain ⟨u,rfl,ru⟩:=JP r1
 cases (show u=Value.ref l from ru)
 obtain ⟨its,rv,p1,hz⟩:=I1.list hq;have hl:=rv.length;refine call_reversed_list p1.isList ?_;refine LH ?_;have I2:Inv X pins σ H1 {s1 with heap:=s1.heap.push (revObj l ((its.toArray.size:Int) - 1))}:=I1.kept (t':=s1.toks) fun b o e=>A1 _ e;have lt1:l<s1.heap.objs.size:=by obtain ⟨o,n,e,_⟩:=p1;exact AO e
 have hd:X.A.handled=none:=I1.ok.hd hc;have V:=(Walks.listRev (prog:=X.prog) (w:=X.w) (A:=X.A.in1.in1.in1) hd s1.heap.objs.size l (BW lt1) its.toArray).toS;obtain ⟨f0,f1,f2,f3,f4,f5⟩:=I1.fpOk (b:=s1.heap.objs.size) (A9 _) (I1.hok.fresh (A9 _));have hz':its.toArray.size<=sizeLine:=by simp only [AR];omega
 refine TY (s:={s1 with heap:=s1.heap.push (revObj l ((its.toArray.size:Int) - 1))}) V (fun i t st=>st.2.1.typeIs) ⟨CK _,?_,?_⟩ (fun b hb=> ?_) (AU ..) (fun s' acc mv all=> ?_) hz'
 . have e:((its.toArray.size:Int) - 1 - ((0:Nat):Int))=(its.toArray.size:Int) - 1:=by omega
   rw [e];exact Q9
 . exact p1.isList.push _
 . show b<(s1.heap.push _).objs.size;rw [BR];simp only [AJ,B8,DN] at hb
   rcases hb with rfl | rfl
   . exact IN _
   . exact NQ lt1
 . obtain ⟨h',g',d',tk',os'⟩:=s';obtain ⟨mh,mg,md,mo,mt⟩:=mv;have e1:g'=s1.gens:=mg;have e2:d'=s1.drawn:=md;have e3:os'=s1.os:=mo;subst e1 e2 e3;have I3:Inv X pins σ H1 {s1 with heap:=h',toks:=tk' }:=I2.turned (fun b o hb e=>mh b o (by simpa using hb) e) f0 f1 f3 f4 f5
   have ra:∃ys:List Value,acc=ys.toArray/\ys=its.reverse:=by
    refine ⟨acc.toList,by simp,?_⟩;refine A88 fun i=> ?_;have hsz:acc.size=its.length:=by simpa using all.1
    by_cases hi:i<its.length
    . have hlt:i<acc.size:=by omega
      have h1:=all.2 i acc[i] (by simp [hlt]);rw [zB hi];simp only [AI];rw [IS hlt, <-h1];simp
    . rw [HD (by simp;omega),HD (by simp;omega)]
   obtain ⟨ys,rfl,rfl⟩:=ra;have rr:Vals xs.reverse its.reverse:=rv.reverse
   have I4:Inv X pins σ (upd H1 h'.objs.size (.tup xs.reverse)) {s1 with heap:=h'.push {cls:= .type "tuple",data:= .seq its.reverse.toArray},toks:=tk' } :=
    I3.laid (t':=tk') (fun b o e=>A1 _ e) (A9 _) (show ObjOk X.prog X.w _ _ _ (.tup xs.reverse) from ⟨by rw [List.length_reverse];exact hz,its.reverse,rr,IsTup.new _ _⟩)
   exact ⟨.ref h'.objs.size,_,I4,rfl,q _ (I3.hok.fresh (A9 _))⟩
def A22(K:PySem.W.Frag)(tl:TE):TI:=fun σ H R=>tl σ H fun x H1=>∃a,x = .ref a/\(((∃xs,SqL K H1 a xs)/\R (Itl K a) H1)\/((∃xs,SqT K H1 a xs)/\R (Itt K a) H1))
theorem wH{tg l:Expr}{tl:TE}(hl:PE X l tl):PI X tg l (A22 X.K tl):=by
 intro pins s σ H R I h;refine thn (hl pins s σ H _ I h) fun v s1 ⟨x,H1,I1,r1,q1⟩ => ?_;obtain ⟨a,e,⟨⟨xs,hq⟩,q⟩ | ⟨⟨xs,hq⟩,q⟩⟩:=q1
 . subst e
   cases r1
   obtain ⟨its,rv,p,hz⟩:=I1.list hq;refine gN p.isList ?_;refine ⟨s1.heap.objs.size,[s1.heap.objs.size],_,_,H1,rfl,I1.kept (t':=s1.toks) fun b o e=>A1 _ e,dD a _,⟨_,AG _ rfl,rfl,rfl⟩,fun b hb=> ?_,q⟩
   cases A4.mp hb
   exact I1.fpOk (A9 _) (I1.hok.fresh (A9 _))
 . subst e
   cases r1
   obtain ⟨its,rv,p,hz⟩:=I1.tuple hq;refine OU (show s1.heap.IsTuple a its.toArray from p) ?_;refine ⟨s1.heap.objs.size,[s1.heap.objs.size],_,_,H1,rfl,I1.kept (t':=s1.toks) fun b o e=>A1 _ e,ZJ a _,⟨_,AG _ rfl,rfl,rfl⟩,fun b hb=> ?_,q⟩
   cases A4.mp hb
   exact I1.fpOk (A9 _) (I1.hok.fresh (A9 _))
end
end Tf
namespace Dm
open PySem PySem.Spec PyProof.Rows L2 Tf
section
variable {K:PySem.W.Frag} {R:Rl} [RelOk K R]
theorem Reps.rev{H:Hp}:∀ {vs:List V} {ds:List PyData},Reps K H vs ds->Reps K H vs.reverse ds.reverse
 | _,_, .nil=> .nil
 | _,_, .cons a t=>by
  rw [NO,NO];exact Reps.append (Reps.rev t) (.cons a .nil)
theorem wW{H0:Hp}{a:Addr}{vs:List V}{ds:List PyData}(h:SqL K H0 a vs)(r:Reps K H0 vs ds):ItR K H0 (Itv K a vs.length) ds.reverse:=fun H0' H' s s' i=>by
 have h':=s'.seq (s.seq h);refine ⟨fun d hd=> ?_,fun hi=>show vs.length<=i by rw [r.length];simpa using hi⟩;obtain ⟨v,e1,e2⟩:=Tf.Reps.get (Reps.rev r) hd;refine ⟨⟨vs,v,rfl,h',e1⟩,fun x H2 y=> ?_⟩;obtain ⟨rfl,y⟩:=y;have:=y vs h';rw [e1] at this
 cases this
 exact ⟨H0',Ext.refl s',Rep.same s e2⟩
def mS(f:En->Option (List PyData)):En->Option (List PyData):=fun ρ=>(f ρ).bind fun a=>match a with
 | [.list xs]=>some xs.reverse
 | _=>none
theorem wY{ta:TA}{f:En->Option (List PyData)}(h:RA K R ta f):RI K R (A34 K ta) (mS f):=fun HB σ ρ H0 H s e ds hd R q=>by
 obtain ⟨a,ha,hd⟩:=A3.mp hd
 split at hd
 . cases hd
   refine h HB σ ρ H0 H s e _ ha _ fun vs H1 J1 x1 p1=> ?_
   cases p1 with | cons p1 t=>
    cases t
    cases p1 with | list a1 a2=>
     exact ⟨_,_,rfl,x1.s1.seq a1,q _ _ _ x1 (wW a1 a2)⟩
 . cases hd
def RH:List Sl->Option Sl
 | [a]=>match a.dat with
  | .list ds=>some (.val (.tuple ds.reverse))
  | _=>none
 | _=>none
theorem g9{ta:TA}{f:En->Option (List Sl)}(h:RQ K R ta f):RE K R (bG K ta) (mCallP RH f):=fun HB σ ρ H0 H s e z hz Q q=>by
 obtain ⟨ss,hd,hz⟩:=Option.bind_eq_some_iff.mp hz;refine h HB σ ρ H0 H s e ss hd _ fun vs H1 J1 x1 p1=> ?_;unfold RH at hz
 split at hz
 . obtain ⟨v,rfl,pa⟩:=HC p1
   split at hz
   . rename_i ds hds
     cases hz
     obtain ⟨a,vs,rfl,h1,h2⟩:=pa.lst x1.s1 hds;exact ⟨a,vs,rfl,h1,fun p hp=>q _ _ _ (x1.trans (Ext.allocF x1.s1 hp _)) (.tuple BT (Reps.same (Same.upd (x1.s1.free hp) _) (Reps.rev h2)))⟩
   . cases hz
 . cases hz
def CD(f:En->Option Sl):En->Option (List PyData):=fun ρ=>(f ρ).bind fun a=>match a.dat with
 | .list ds=>some ds
 | .tuple ds=>some ds
 | _=>none
theorem vL{te:TE}{f:En->Option Sl}(h:RE K R te f):RI K R (A22 K te) (CD f):=fun HB σ ρ H0 H s e ds hd R q=>by
 obtain ⟨a,ha,hd⟩:=A3.mp hd
 split at hd
 . rename_i es he
   cases hd
   refine h.rv HB σ ρ H0 H s e a.dat (by unfold mDat;rw [ha];rfl) _ fun v H1 J1 x1 p1=> ?_;rw [he] at p1
   cases p1 with
   | list h1 h2=>exact ⟨_,rfl, .inl ⟨⟨_,x1.s1.seq h1⟩,q _ _ _ x1 (pB h1 h2)⟩⟩
 . rename_i es he
   cases hd
   refine h.rv HB σ ρ H0 H s e a.dat (by unfold mDat;rw [ha];rfl) _ fun v H1 J1 x1 p1=> ?_;rw [he] at p1
   cases p1 with
   | tuple h1 h2=>exact ⟨_,rfl, .inr ⟨⟨_,x1.s1.seqT (SqT.of h1)⟩,q _ _ _ x1 (v8 (SqT.of h1) h2)⟩⟩
 . cases hd
def gA(i:Nat)(f:En->Option Sl):En->Option Out:=fun ρ=>match (ρ[i]?).join with
 | some (.own ds)=>(f ρ).bind fun r=>match r with
  | .own es=>if ds.length+es.length<=sizeLine then some (.nx (ρ.set i (some (.own (ds++es))))) else none
  | _=>none
 | _=>none
theorem yI{te:TE}{f:En->Option Sl}{i:Nat}(hsl:R.slot i)(h:RE K R te f):RS K R (j7 (tBM K "list" rExtend (Z1 i) (NT te tNil))) (gA i f):=fun HB S0 σ ρ H0 H x e o ho D d=>by
 unfold gA at ho
 split at ho
 . rename_i ds hj;obtain ⟨r,hr,ho⟩:=A3.mp ho
   split at ho
   . rename_i es
     split at ho
     . rename_i hl
       cases ho
       obtain ⟨a,vs,hi,hs,g1,g2,g3,g4⟩:=j0 (K:=K) e hsl hj;refine ⟨.ref a,hs, .inl ⟨rfl,vs,SqL.of g3⟩,?_⟩;refine h HB σ ρ H0 H x.s1 e _ hr _ fun v H1 J1 x1 p1=> ?_;obtain ⟨a',vs',rfl,n1,n2,n3,n4⟩:=p1;have l0:=x1.own a _ g3 CI g2;refine ⟨a,a',vs,vs',rfl,rfl,x1.s _ _ g3,n3,by rw [g4.length,n4.length];exact hl,?_⟩;exact d σ H1 _ ((x.chain x1).write g1 l0 _) ⟨RelOk.write (K:=K) (e.ext (K:=K) x1).r hsl hi hs g1 l0 (x1.s _ _ g3) (Reps.append (Reps.same x1.s0 g4) n4)⟩
     . cases ho
   . cases ho
 . cases ho
def A79(K:PySem.W.Frag)(i:Nat)(a:Addr)(ds:List PyData):Rl:=⟨fun HB H0 H σ ρ=>ER K HB H0 H σ ρ/\σ[i]? = some (some (.ref a))/\ρ[i]? = some (some (.own ds)),fun k=>k≠i/\(0:Nat)=0⟩
instance relOk_Pin {i:Nat} {a:Addr} {ds:List PyData}:RelOk K (A79 K i a ds) where
 ext:=fun x e=>⟨ER.ext x e.1,e.2⟩
 get:=fun e _ h=>ER.get e.1 _ _ h
 set:=fun {_ _ _ _ _ _ _ k _ _} e hs x s h=>⟨(relOk_PR (K:=K)).set e.1 trivial x s h,by rw [B2 hs.1];exact e.2.1,by rw [B2 hs.1];exact e.2.2⟩
 write:=fun e hs h1 h2 h3 h4 h5 h6=>⟨(relOk_PR (K:=K)).write e.1 trivial h1 h2 h3 h4 h5 h6,e.2.1,by rw [B2 hs.1];exact e.2.2⟩
 frz:=fun e hs h x=>by
  obtain ⟨H0',h1,h2⟩:=(relOk_PR (K:=K)).frz e.1 trivial h x;exact ⟨H0',h1,h2,e.2.1,by rw [B2 hs.1];exact e.2.2⟩
end
section
variable {X:Cx} {R R':Rl} [RelOk X.K R] [RelOk X.K R'] {a b c e:Expr} {pos p p2 pos2:Pos} {f g fa fb fc:En->Option Sl} {fs:En->Option (List PyData)} {fq:En->Option (List Sl)} {tg:Expr} {x:Str}
theorem y3 (hm:X.mg "reversed" = none) (h:DA X R [a] fs) (hg:Gl X "reversed" :=by rfl) (hs:starEach [a] X.env = [(false,eval a X.env)]:=by rfl):DI X R tg (.Call (.Name "reversed" p) [a] [] pos) (mS fs):=by
 obtain ⟨t,h1,h2⟩:=h;exact ⟨_,vF hg hm h1 hs,wY h2⟩
theorem F1(h:DE X R e f):DI X R tg e (CD f):=by
 obtain ⟨t,h1,h2⟩:=h;exact ⟨_,wH h1,vL h2⟩
theorem fA (hm : X.mg "reversed" = none) (hm2 : X.mg "tuple" = none) (h : DQ X R [a] fq) (hc : X.calm = true := by rfl) (hg : Gl X "reversed" := by rfl) (hg2 : Gl X "tuple" := by rfl) (hs : starEach [a] X.env = [(false, eval a X.env)] := by rfl)
 (hs2:starEach [.Call (.Name "reversed" p) [a] [] pos] X.env = [(false,eval (.Call (.Name "reversed" p) [a] [] pos) X.env)]:=by rfl):DE X R (.Call (.Name "tuple" p2) [.Call (.Name "reversed" p) [a] [] pos] [] pos2) (mCallP RH fq):=by
 obtain ⟨t,h1,h2⟩:=h;exact ⟨_,gG hc hg hm hg2 hm2 h1 hs hs2,g9 h2⟩
theorem wQ (i : Nat) {apos cpos : Pos} (h : DE X R e f) (hN : X.N[i]? = some x := by rfl) (hv : Vis X.env.scope x := by first | exact L7 rfl | exact GU (L7 rfl) | exact GU (GU rfl)) (hd : (x == ("__debug__" : Str)) = false := by decide) (hcd : (x == ("__classdict__" : Str)) = false := by decide)
 (hst:starEach [e] X.env=(false,eval e X.env)::starEach [] X.env:=by rfl) (hbase:attributeBase (.Name x p) "extend" X.env (eval (.Name x p) X.env)=eval (.Name x p) X.env:=by rfl)
 (hfew:((backTo cpos (starEach [e] X.env)).all (fun x=> !x.1) && (backToKw cpos (keywordEach [] X.env)).all (fun x=>x.1.isSome) && decide ([e].length+([]:List Keyword).length+(if ([]:List Keyword).isEmpty then 0 else 1)<30))=true:=by rfl)
 (hline:(apos.endLine==cpos.line)=true:=by rfl) (hplain:(backTo cpos (starEach [] X.env)).any (·.1)=false:=by rfl)
 (hs:swapsWith (.Call (.Attribute (.Name x p) "extend" apos) [e] [] cpos) none pos.line X.env=pure false:=by rfl) (hsl:R.slot i:=by first | exact CI | exact ⟨AT rfl,AT rfl⟩):DS X R (.Expr (.Call (.Attribute (.Name x p) "extend" apos) [e] [] cpos) pos) (gA i f):=by
 obtain ⟨t,h1,h2⟩:=h;exact ⟨_,aX (tW sE PySem.F.slot_list_extend PySem.F.type_list_extend dE (Q5 hN hv hd hcd) (L4 h1 ON hst) hbase hfew hline hst hplain) hs,yI hsl h2⟩
end
theorem uO{i:Nat}{f:En->Option Sl}{ρ:En}{ds es:List PyData}(h:f ρ=some (.own es))(ho:(ρ[i]?).join=some (.own ds))(hl:ds.length+es.length<=sizeLine):gA i f ρ=some (.nx (ρ.set i (some (.own (ds++es))))):=by
 unfold gA;rw [ho];show Option.bind (f ρ) _=_;rw [h];show (if ds.length+es.length<=sizeLine then _ else _)=_;rw [if_pos hl]
end Dm
namespace Tf
open PySem PySem.Spec PyProof.Rows L2
section
variable {prog:Program} {w:World} {A:Around} {E:Value->Shared->Prop} {s:Shared}
theorem R9 {j t : Addr} {n : Nat} {us} {u : Value} {Q : Value -> Shared -> Prop} (st : s.heap.IsTupleIter j t n) (tu : s.heap.IsTuple t us) (hu : us[n]? = some u)
 (q:∀h',h'.IsTupleIter j t (n+1)->Heap.SameBut j s.heap h'->Q u {s with heap:=h' }):wpAny (model prog w) A (Builtin.SmallTypes.nextOf (.ref j)) Q E s:=by
 obtain ⟨o1,g1,c1,d1⟩:=id st;obtain ⟨o2,g2,_,n2,d2⟩:=tu;unfold Builtin.SmallTypes.nextOf
 refine A0 (BU (name:=Str.ofString "__next__") st.typeIs G5
  (DD G5 st.typeIs WB ?_ (V7 _)))
 show wpAny _ _ (field (.ref j) 0 >>= _) _ _ s;refine A0 (WE g1 d1 (x:= .ref t) rfl ?_);show wpAny _ _ (if (Value.ref t==Value.none)=true then _ else _) _ _ s;rw [A8 (show ¬((Value.ref t==Value.none)=true) from CF)];show wpAny _ _ (field (.ref j) 1 >>= _) _ _ s;refine A0 (WE g1 d1 (x:= .int n 0) rfl ?_);show wpAny _ _ (seqItems? (.ref t) >>= _) _ _ s;refine A0 (CO g2 d2 ?_);simp only [DC,hu];refine A0 (LJ g1 d1 (by simp) (A5 ⟨u,rfl,A5 (q _ ?_ (GX ..))⟩));exact ⟨_,V9 _ g1 (VA (HU d1 _)),(gO ..).trans c1,by rw [HU d1];simp [rawInt]⟩
theorem OC {j t : Addr} {n : Nat} {us} {Q : Value -> Shared -> Prop} (hh : A.handled = none) (st : s.heap.IsTupleIter j t n) (tu : s.heap.IsTuple t us) (hu : us[n]? = none)
 (q:∀h' e,Heap.ExtBut j s.heap h'->(∃o,h'.get? e=some o/\o.cls = .type "StopIteration")->E (.ref e) {s with heap:=h' }):wpAny (model prog w) A (Builtin.SmallTypes.nextOf (.ref j)) Q E s:=by
 obtain ⟨o1,g1,c1,d1⟩:=id st;obtain ⟨o2,g2,_,n2,d2⟩:=tu;unfold Builtin.SmallTypes.nextOf
 refine A0 (BU (name:=Str.ofString "__next__") st.typeIs G5
  (DD G5 st.typeIs WB ?_ (V7 _)))
 show wpAny _ _ (field (.ref j) 0 >>= _) _ _ s;refine A0 (WE g1 d1 (x:= .ref t) rfl ?_);show wpAny _ _ (if (Value.ref t==Value.none)=true then _ else _) _ _ s;rw [A8 (show ¬((Value.ref t==Value.none)=true) from CF)];show wpAny _ _ (field (.ref j) 1 >>= _) _ _ s;refine A0 (WE g1 d1 (x:= .int n 0) rfl ?_);show wpAny _ _ (seqItems? (.ref t) >>= _) _ _ s;refine A0 (CO g2 d2 ?_);simp only [DC,hu];refine A0 (KP (A0 (LJ g1 d1 (by simp) ?_)));show wpAny _ _ (newExc (.type "StopIteration") [] >>= _) _ _ _;refine A0 ?_;simp only [newExc,newTuple];refine A0 (CN ?_ (by size_fits));refine A0 (m:=firstArgMember _ _) (QL (a:=Value.none) (by first | rfl | (simp only [firstArgMember];rfl)) ?_);refine CN ?_ (by size_fits);simp only [raiseNew];refine A0 (A62 ?_)
 first | rw [show A.in1.handled=none from hh] | rw [hh]
 refine A0 (A5 (AA7 ?_));exact q _ _ (((GX ..).extBut.push _).push _) ⟨_,AG _ rfl,rfl⟩
theorem C6{h h':Heap}{j t b:Addr}{n:Nat}(st:h.IsTupleIter j t n)(k:∀c o,c≠b->h.get? c=some o->h'.get? c=some o)(hb:j≠b):h'.IsTupleIter j t n:=st.at fun o e=>k j o hb e
theorem FX{h h':Heap}{t b:Addr}{us}(st:h.IsTuple t us)(k:∀c o,c≠b->h.get? c=some o->h'.get? c=some o)(hb:t≠b):h'.IsTuple t us:=by
 obtain ⟨o,e,r⟩:=st;exact ⟨o,k t o hb e,r⟩
theorem fX {z TI TO j1 j2 t1 t2 : Addr} {n1 n2 : Nat} {xs ys : Array Value} {x y a b : Value} {Q : Value -> Shared -> Prop} (D : ZipApart z TI TO j1 j2 t1 t2)
 (hz:IsZip s.heap z TI TO .none) (hI:IsPair s.heap TI (.ref j1) (.ref j2)) (hO:IsPair s.heap TO a b)
 (s1:s.heap.IsTupleIter j1 t1 n1) (s2:s.heap.IsTupleIter j2 t2 n2) (l1:s.heap.IsTuple t1 xs) (l2:s.heap.IsTuple t2 ys) (hx:xs[n1]? = some x) (hy:ys[n2]? = some y)
 (q:∀h',IsZip h' z TI TO (rawInt s.heap.objs.size)->IsPair h' TO x y->h'.IsTupleIter j1 t1 (n1+1)->h'.IsTupleIter j2 t2 (n2+1)->IsPair h' s.heap.objs.size x y->h'.objs.size=s.heap.objs.size+1 ->
  (∀c o,c≠z->c≠TO->c≠j1->c≠j2->s.heap.get? c=some o->h'.get? c=some o)->Q (.ref s.heap.objs.size) {s with heap:=h' }) :
 wpAny (model prog w) A (Builtin.«zip.__next__» ⟨[.ref z], []⟩) (fun fin s' => ∃ v, fin = .done (.ret v) /\ Q v s') E s := by
 show wpAny _ _ (field (.ref z) 2 >>= _) _ _ _;refine wpAny_bind (wpAny_field hz rfl (x:= .bool false) rfl ?_);show wpAny _ _ (field (.ref z) 3 >>= _) _ _ _;refine wpAny_bind (wpAny_field hz rfl (x:= .ref TI) rfl ?_);refine wpAny_bind (wpAny_seqItems hI rfl ?_);show wpAny _ _ (Builtin.SmallTypes.ownedTupleIsFree (.ref z) >>= _) _ _ _;refine wpAny_bind ?_;unfold Builtin.SmallTypes.ownedTupleIsFree;refine wpAny_bind (wpAny_field hz rfl (x:= .none) rfl (wpAny_pure ?_));simp only [if_true];refine wpAny_bind (wpAny_rule ?_);refine wpAny_bind (wpAny_field hz rfl (x:= .ref TO) rfl ?_);refine wpAny_bind (wpAny_setField_rec hz (by simp) fun H1 z1 k1=> ?_)
 replace z1:IsZip H1 z TI TO .ellipsis:=z1
 refine A0 ?_;simp only [L8,QM,QN,K6];refine A0 (A0 (IM ?_));show wpAny _ _ (Builtin.SmallTypes.nextOf (.ref j1) >>= _) _ _ _;refine A0 (R9 (C6 s1 k1.extBut D.i1z) (FX l1 k1.extBut D.l1z) hx fun H2 i2 k2=>A5 ?_);have O2:IsPair H2 TO a b:=k2.extBut _ _ D.TOi1 (k1.extBut _ _ D.TOz hO);refine A0 (CO O2 rfl ?_);refine A0 (GL O2 fun H3 O3 k3=> ?_)
 replace O3:IsPair H3 TO x b:=O3
 refine A0 (EH (A5 ?_));refine A0 (A0 (IM ?_));show wpAny _ _ (Builtin.SmallTypes.nextOf (.ref j2) >>= _) _ _ _;refine A0 (R9 (C6 (C6 (C6 s2 k1.extBut D.i2z) k2.extBut D.i12.symm) k3.extBut D.TOi2.symm) (FX (FX (FX l2 k1.extBut D.l2z) k2.extBut D.l2i1) k3.extBut D.l2TO) hy fun H4 i4 k4=>A5 ?_);have O4:IsPair H4 TO x b:=k4.extBut _ _ D.TOi2 O3;refine A0 (CO O4 rfl ?_);refine A0 (GL O4 fun H5 O5 k5=> ?_)
 replace O5:IsPair H5 TO x y:=O5
 refine A0 (EH (A5 (A5 ?_)));refine A0 (CO O5 rfl ?_);refine A0 (zM ?_);have sz:H5.objs.size=s.heap.objs.size:=by rw [k5.1,k4.1,k3.1,k2.1,k1.1]
 have z5:IsZip H5 z TI TO .ellipsis:=k5.extBut _ _ D.TOz.symm (k4.extBut _ _ D.i2z.symm (k3.extBut _ _ D.TOz.symm (k2.extBut _ _ D.i1z.symm z1)))
 have keep:∀c o,c≠z->c≠TO->c≠j1->c≠j2->s.heap.get? c=some o->H5.get? c=some o:=fun c o c1 c2 c3 c4 e=>
  k5.extBut _ _ c2 (k4.extBut _ _ c4 (k3.extBut _ _ c2 (k2.extBut _ _ c3 (k1.extBut _ _ c1 e))))
 have i5:H5.IsTupleIter j1 t1 (n1+1):=C6 (C6 (C6 i2 k3.extBut D.TOi1.symm) k4.extBut D.i12) k5.extBut D.TOi1.symm;have i5':H5.IsTupleIter j2 t2 (n2+1):=C6 i4 k5.extBut D.TOi2.symm;have zlt:z<H5.objs.size:=Heap.lt_size z5;show wpAny _ _ (Builtin.SmallTypes.ownedTupleHandOut (.ref z) (.ref H5.objs.size) >>= _) _ _ _;refine wpAny_bind ?_;unfold Builtin.SmallTypes.ownedTupleHandOut;have z6:IsZip (H5.push {cls:= .type "tuple",data:= .seq #[x,y]}) z TI TO .ellipsis:=Heap.get?_push_of_some _ z5;refine wpAny_bind (wpAny_setField_rec z6 (by simp) fun H7 z7 k7=> ?_)
 replace z7:IsZip H7 z TI TO (rawInt H5.objs.size):=z7
 refine HV z7 (by simp) fun H8 z8 k8=> ?_
 replace z8:IsZip H8 z TI TO (rawInt H5.objs.size):=z8
 have up:∀c o,c≠z->H5.get? c=some o->H8.get? c=some o:=fun c o c1 e=>k8.extBut _ _ c1 (k7.extBut _ _ c1 (A1 _ e));have T8:IsPair H8 H5.objs.size x y:=k8.extBut _ _ (K2 zlt) (k7.extBut _ _ (K2 zlt) (AG _ rfl));have n8:H8.objs.size=H5.objs.size+1:=by rw [k8.1,k7.1,BR]
 rw [sz] at z8 T8 n8
 refine A5 ⟨_,rfl,?_⟩;show Q (.ref H5.objs.size) _;rw [sz];exact q H8 z8 (up _ _ D.TOz O5) (i5.at fun o e=>up _ o D.i1z e) (i5'.at fun o e=>up _ o D.i2z e) T8 n8 fun c o c1 c2 c3 c4 e=>up c o c1 (keep c o c1 c2 c3 c4 e)
theorem lX {z TI TO j1 j2 t1 t2 : Addr} {n1 n2 : Nat} {xs ys : Array Value} {a b : Value} {Q : Fin -> Shared -> Prop} (hh : A.handled = none) (D : ZipApart z TI TO j1 j2 t1 t2)
 (hz:IsZip s.heap z TI TO .none) (hI:IsPair s.heap TI (.ref j1) (.ref j2)) (hO:IsPair s.heap TO a b)
 (s1:s.heap.IsTupleIter j1 t1 n1) (s2:s.heap.IsTupleIter j2 t2 n2) (l1:s.heap.IsTuple t1 xs) (l2:s.heap.IsTuple t2 ys) (fin:xs[n1]? = none\/ys[n2]? = none)
 (q:∀h' e,(∀c o,c≠z->c≠TO->c≠j1->c≠j2->s.heap.get? c=some o->h'.get? c=some o)->(∃o,h'.get? e=some o/\o.cls = .type "StopIteration")->E (.ref e) {s with heap:=h' }) :
 wpAny (model prog w) A (Builtin.«zip.__next__» ⟨[.ref z], []⟩) Q E s := by
 show wpAny _ _ (field (.ref z) 2 >>= _) _ _ _;refine wpAny_bind (wpAny_field hz rfl (x:= .bool false) rfl ?_);show wpAny _ _ (field (.ref z) 3 >>= _) _ _ _;refine wpAny_bind (wpAny_field hz rfl (x:= .ref TI) rfl ?_);refine wpAny_bind (wpAny_seqItems hI rfl ?_);show wpAny _ _ (Builtin.SmallTypes.ownedTupleIsFree (.ref z) >>= _) _ _ _;refine wpAny_bind ?_;unfold Builtin.SmallTypes.ownedTupleIsFree;refine wpAny_bind (wpAny_field hz rfl (x:= .none) rfl (wpAny_pure ?_));simp only [if_true];refine wpAny_bind (wpAny_rule ?_);refine wpAny_bind (wpAny_field hz rfl (x:= .ref TO) rfl ?_);refine wpAny_bind (wpAny_setField_rec hz (by simp) fun H1 z1 k1=> ?_)
 replace z1:IsZip H1 z TI TO .ellipsis:=z1
 refine A0 ?_;simp only [L8,QM,QN,K6];refine A0 (A0 (IM ?_));show wpAny _ _ (Builtin.SmallTypes.nextOf (.ref j1) >>= _) _ _ _
 cases hx:xs[n1]? with
 | none=>
  refine A0 (OC hh (C6 s1 k1.extBut D.i1z) (FX l1 k1.extBut D.l1z) hx fun H2 e k2 st=> ?_);obtain ⟨oe,ge,ce⟩:=st;have z2:IsZip H2 z TI TO .ellipsis:=k2 _ _ D.i1z.symm z1;have ez:e≠z:=fun x=>by subst x;rw [z2] at ge;cases ge;simp at ce
  refine HV z2 (by simp) fun H3 _ k3=>q H3 e (fun c o c1 _ c3 _ x=>k3.extBut _ _ c1 (k2 _ _ c3 (k1.extBut _ _ c1 x))) ⟨oe,k3.extBut _ _ ez ge,ce⟩
 | some x=>
  have hy:ys[n2]? = none:=by rcases fin with h | h;rw [hx] at h;cases h;exact h
  refine A0 (R9 (C6 s1 k1.extBut D.i1z) (FX l1 k1.extBut D.l1z) hx fun H2 i2 k2=>A5 ?_);have O2:IsPair H2 TO a b:=k2.extBut _ _ D.TOi1 (k1.extBut _ _ D.TOz hO);refine A0 (CO O2 rfl ?_);refine A0 (GL O2 fun H3 O3 k3=> ?_);refine A0 (EH (A5 ?_));refine A0 (A0 (IM ?_));show wpAny _ _ (Builtin.SmallTypes.nextOf (.ref j2) >>= _) _ _ _;refine A0 (OC hh (C6 (C6 (C6 s2 k1.extBut D.i2z) k2.extBut D.i12.symm) k3.extBut D.TOi2.symm) (FX (FX (FX l2 k1.extBut D.l2z) k2.extBut D.l2i1) k3.extBut D.l2TO) hy fun H4 e k4 st=> ?_);obtain ⟨oe,ge,ce⟩:=st;have z4:IsZip H4 z TI TO .ellipsis:=k4 _ _ D.i2z.symm (k3.extBut _ _ D.TOz.symm (k2.extBut _ _ D.i1z.symm z1));have ez:e≠z:=fun x=>by subst x;rw [z4] at ge;cases ge;simp at ce
  refine HV z4 (by simp) fun H5 _ k5=>q H5 e (fun c o c1 c2 c3 c4 x=>k5.extBut _ _ c1 (k4 _ _ c4 (k3.extBut _ _ c2 (k2.extBut _ _ c3 (k1.extBut _ _ c1 x))))) ⟨oe,k5.extBut _ _ ez ge,ce⟩
theorem YV {z TI TO j1 j2 t1 t2 : Addr} {n1 n2 : Nat} {xs ys : Array Value} {x y a b : Value} {Q : Option Value -> Shared -> Prop} (D : ZipApart z TI TO j1 j2 t1 t2)
 (hz:IsZip s.heap z TI TO .none) (hI:IsPair s.heap TI (.ref j1) (.ref j2)) (hO:IsPair s.heap TO a b)
 (s1:s.heap.IsTupleIter j1 t1 n1) (s2:s.heap.IsTupleIter j2 t2 n2) (l1:s.heap.IsTuple t1 xs) (l2:s.heap.IsTuple t2 ys) (hx:xs[n1]? = some x) (hy:ys[n2]? = some y)
 (q:∀h',IsZip h' z TI TO (rawInt s.heap.objs.size)->IsPair h' TO x y->h'.IsTupleIter j1 t1 (n1+1)->h'.IsTupleIter j2 t2 (n2+1)->IsPair h' s.heap.objs.size x y->h'.objs.size=s.heap.objs.size+1 ->
  (∀c o,c≠z->c≠TO->c≠j1->c≠j2->s.heap.get? c=some o->h'.get? c=some o)->Q (some (.ref s.heap.objs.size)) {s with heap:=h' }) :
 wpAny (model prog w) A (pyNext (.ref z)) Q E s:=by
 have ty:s.TypeIs (.ref z) "zip" :=⟨_,hz,rfl⟩;unfold pyNext
 exact A0 (GN (BU (name:=Str.ofString "__next__") ty DY
  (DD DY ty K8
   (fX D hz hI hO s1 s2 l1 l2 hx hy fun h' a1 a2 a3 a4 a5 a6 a7=>A5 (q h' a1 a2 a3 a4 a5 a6 a7)) (JO _))))
theorem fK {z TI TO j1 j2 t1 t2 : Addr} {n1 n2 : Nat} {xs ys : Array Value} {a b : Value} {Q : Option Value -> Shared -> Prop} (hh : A.handled = none) (D : ZipApart z TI TO j1 j2 t1 t2)
 (hz:IsZip s.heap z TI TO .none) (hI:IsPair s.heap TI (.ref j1) (.ref j2)) (hO:IsPair s.heap TO a b)
 (s1:s.heap.IsTupleIter j1 t1 n1) (s2:s.heap.IsTupleIter j2 t2 n2) (l1:s.heap.IsTuple t1 xs) (l2:s.heap.IsTuple t2 ys) (fin:xs[n1]? = none\/ys[n2]? = none)
 (q:∀h',(∀c o,c≠z->c≠TO->c≠j1->c≠j2->s.heap.get? c=some o->h'.get? c=some o)->Q none {s with heap:=h' }):wpAny (model prog w) A (pyNext (.ref z)) Q E s:=by
 have ty:s.TypeIs (.ref z) "zip" :=⟨_,hz,rfl⟩;unfold pyNext
 refine A0 (GN (BU (name:=Str.ofString "__next__") ty DY
  (DD DY ty K8 (lX hh D hz hI hO s1 s2 l1 l2 fin fun h' e k st=> ?_) (JO _))))
 obtain ⟨o,g,c⟩:=st;refine A0 (MQ (T:= "StopIteration") (b:=true) ⟨o,g,c⟩ WF ?_);exact A5 (q _ k)
end
abbrev zt1 (h:Heap) (a:Addr):Heap:=h.push {cls:= .type "tuple_iterator",data:= .fields #[.ref a, .int 0 0]}
abbrev zt2 (h:Heap) (a b:Addr):Heap:=(zt1 h a).push {cls:= .type "tuple_iterator",data:= .fields #[.ref b, .int 0 0]}
abbrev zt3 (h:Heap) (a b:Addr):Heap:=(zt2 h a b).push {cls:= .type "tuple",data:= .seq #[.ref h.objs.size, .ref (zt1 h a).objs.size]}
abbrev zt4 (h:Heap) (a b:Addr):Heap:=(zt3 h a b).push {cls:= .type "tuple",data:= .seq #[.none, .none]}
abbrev zt5 (h:Heap) (a b:Addr):Heap:=(zt4 h a b).push {cls:= .type "zip",data:= .fields #[.none, .bool false, .bool false, .ref (zt2 h a b).objs.size, .ref (zt3 h a b).objs.size]}
theorem SJ{h:Heap}{t:Addr}{us}{o:Obj}(x:h.IsTuple t us):(h.push o).IsTuple t us:=by
 obtain ⟨o',e,r⟩:=x;exact ⟨o',A1 _ e,r⟩
theorem ZL (a b : Addr) (xs ys : Array Value) :
 Meets (Builtin.«zip.__new__» ⟨[.type "zip", .ref a, .ref b], []⟩) (fun _ R s => s.heap.IsTuple a xs /\ s.heap.IsTuple b ys /\ R (.ok (.ret (.ref (zt4 s.heap a b).objs.size))) { s with heap := zt5 s.heap a b }) :=
 .of_wp fun prog w A R s h=>by
  obtain ⟨hp,g,d,tk,os⟩:=s;obtain ⟨x1,x2,h⟩:=h;have hsub:=sub_zip;have y1:Heap.IsTuple (Shared.heap ⟨hp,g,d,tk,os⟩) a xs:=x1;have y2:Heap.IsTuple (Shared.heap ⟨hp.push {cls:= .type "tuple_iterator",data:= .fields #[.ref a, .int 0 0]},g,d,tk,os⟩) b ys:=SJ x2
  wp_walk using OU y1,OU y2
  exact ⟨_,rfl,h⟩
section
variable {prog:Program} {w:World} {A:Around} {E:Value->Shared->Prop} {s:Shared}
theorem fB {a b : Addr} {xs ys : Array Value} {Q : Value -> Shared -> Prop} (x1 : s.heap.IsTuple a xs) (x2 : s.heap.IsTuple b ys)
 (q:∀h',IsZip h' (s.heap.objs.size+4) (s.heap.objs.size+2) (s.heap.objs.size+3) .none->IsPair h' (s.heap.objs.size+2) (.ref s.heap.objs.size) (.ref (s.heap.objs.size+1)) ->
  IsPair h' (s.heap.objs.size+3) .none .none->h'.IsTupleIter s.heap.objs.size a 0->h'.IsTupleIter (s.heap.objs.size+1) b 0->(∀c o,s.heap.get? c=some o->h'.get? c=some o)->Q (.ref (s.heap.objs.size+4)) {s with heap:=h' }) :
 wpAny (model prog w) A (call (.type "zip") [.ref a, .ref b]) Q E s:=by
 refine callType_new A63 (by decide) (uG _ _) (zC _ _) (fun obj=>gP obj _ _) zD (ZL a b xs ys) ⟨x1,x2,?_⟩;have e1:(zt1 s.heap a).objs.size=s.heap.objs.size+1:=BR ..;have e2:(zt2 s.heap a b).objs.size=s.heap.objs.size+2:=by rw [BR,e1]
 have e3:(zt3 s.heap a b).objs.size=s.heap.objs.size+3:=by rw [BR,e2]
 have e4:(zt4 s.heap a b).objs.size=s.heap.objs.size+4:=by rw [BR,e3]
 have g5:(zt5 s.heap a b).get? (zt4 s.heap a b).objs.size=some _:=AG _ rfl;have g4:(zt5 s.heap a b).get? (zt3 s.heap a b).objs.size=some _:=A1 _ (AG _ rfl);have g3:(zt5 s.heap a b).get? (zt2 s.heap a b).objs.size=some _:=A1 _ (A1 _ (AG _ rfl));have g2:(zt5 s.heap a b).get? (zt1 s.heap a).objs.size=some _:=A1 _ (A1 _ (A1 _ (AG _ rfl)));have g1:(zt5 s.heap a b).get? s.heap.objs.size=some _:=A1 _ (A1 _ (A1 _ (A1 _ (AG _ rfl))));show _/\_;rw [e2,e3,e4] at g5
 rw [e1,e2] at g3
 rw [e3] at g4
 rw [e1] at g2
 rw [e4];refine ⟨⟨_,g5,rfl⟩,q _ g5 g3 g4 ⟨_,g1,rfl,rfl⟩ ⟨_,g2,rfl,rfl⟩ fun c o e=> ?_⟩;exact A1 _ (A1 _ (A1 _ (A1 _ (A1 _ e))))
end
def Ity(K:PySem.W.Frag)(a b:Addr):It:=
 ⟨fun i H=>∃xs ys x y,SqT K H a xs/\SqT K H b ys/\xs[i]? = some x/\ys[i]? = some y,
  fun i H v H'=>∃p x y,H p=none/\v = .ref p/\H'=upd H p (.tup [x,y])/\(∀xs,SqT K H a xs->xs[i]? = some x)/\(∀ys,SqT K H b ys->ys[i]? = some y),
  fun i H=>∃xs ys,SqT K H a xs/\SqT K H b ys/\(xs.length<=i\/ys.length<=i)⟩
def xT(z TI TO i1 i2 l1 l2:Addr)(i:Nat)(h:Heap):Prop:=IsZip h z TI TO .none/\IsPair h TI (.ref i1) (.ref i2)/\(∃a b,IsPair h TO a b)/\h.IsTupleIter i1 l1 i/\h.IsTupleIter i2 l2 i
theorem gF {P : Program} {w : World} {K : PySem.W.Frag} {elts : List Expr} {k : Nat} {pos : Pos} {z TI TO i1 i2 l1 l2 : Addr} (D : ZipApart z TI TO i1 i2 l1 l2) :
 Turn P w K (.Tuple elts k pos) (Ity K l1 l2) [z,TI,TO,i1,i2] z (xT z TI TO i1 i2 l1 l2) where
 mem:=by simp
 obj:=fun i h st b hb=>by
  obtain ⟨h1,h2,⟨a,c,h3⟩,⟨o4,h4,_,d4⟩,⟨o5,h5,_,d5⟩⟩:=st;simp only [AJ,B8,DN] at hb
  rcases hb with rfl | rfl | rfl | rfl | rfl
  . exact ⟨_,h1,fun v e=>(nomatch e)⟩
  . exact ⟨_,h2,fun v e=>(nomatch e)⟩
  . exact ⟨_,h3,fun v e=>(nomatch e)⟩
  . exact ⟨_,h4,fun v e=>by rw [d4] at e;cases e⟩
  . exact ⟨_,h5,fun v e=>by rw [d5] at e;cases e⟩
 keep:=fun i h h' st kk=>by
  obtain ⟨h1,h2,⟨a,c,h3⟩,h4,h5⟩:=st;exact ⟨kk z (by simp) _ h1,kk TI (by simp) _ h2,⟨a,c,kk TO (by simp) _ h3⟩,h4.at fun o e=>kk i1 (by simp) o e,h5.at fun o e=>kk i2 (by simp) o e⟩
 item:=by
  intro X hP hw hK hc i pins s σ H E I hf st hg;subst hP hw hK;obtain ⟨h1,h2,⟨a,c,h3⟩,h4,h5⟩:=st;obtain ⟨xs,ys,x,y,q1,q2,hx,hy⟩:=hg;obtain ⟨its,rv,p,hz⟩:=I.tuple q1;obtain ⟨jts,rw',p',hz'⟩:=I.tuple q2;obtain ⟨u,hu,ru⟩:=rv.get hx;obtain ⟨u',hu',ru'⟩:=rw'.get hy;have ltS:∀ {h:Heap} {b:Addr} {o:Obj},h.get? b=some o -> @LT.lt Nat _ b h.objs.size:=fun e=>AO e;refine YV D h1 h2 h3 h4 h5 p p' (x:=u) (y:=u') (by simpa using hu) (by simpa using hu') fun h' a1 a2 a3 a4 a5 a6 hk=> ?_;refine ⟨_,rfl,Q2 a1 fun h'' a1' sb=> ?_⟩;have ch:∀b ∈ [z,TI,TO,i1,i2],H b=none:=fun b hb=>(hf b hb).1
  have kk:∀b o,b ∉ [z,TO,i1,i2]->s.heap.get? b=some o->h''.get? b=some o:=fun b o hb e=>by
   simp only [AJ,B8,DN,uE] at hb
   exact sb.extBut b o hb.1 (hk b o hb.1 hb.2.1 hb.2.2.1 hb.2.2.2 e)
  have eT:h''.get? s.heap.objs.size=some {cls:= .type "tuple",data:= .seq #[u,u']}:=sb.extBut _ _ (fun e=>by have l:=ltS h1;rw [<-e] at l;omega) a5
  have sub:∀b,b ∈ [z,TO,i1,i2]->b ∈ [z,TI,TO,i1,i2]:=fun b hb=>by
   simp only [AJ,B8,DN] at hb ⊢
   rcases hb with r | r | r | r
   . exact .inl r
   . exact .inr (.inr (.inl r))
   . exact .inr (.inr (.inr (.inl r)))
   . exact .inr (.inr (.inr (.inr r)))
  have nT:H s.heap.objs.size=none:=I.hok.fresh (A9 _)
  have hok1 : HOk X.prog X.w H h'' := fun b o e => (I.hok b o e).stay (fun d v hd q => kk d v (fun hm => by
   have n:=ch d (sub d hm);rcases hd with hd | hd
   . rw [hd,e] at n;cases n
   . rw [hd] at n;cases n) q) (fun _ q=>q) fun _ _ q=>q
  have hok2:HOk X.prog X.w (upd H s.heap.objs.size (.tup [x,y])) h'':=RJ hok1 nT ⟨by show 2<=sizeLine;decide,[u,u'], .cons ru (.cons ru' .nil),⟨_,eT,rfl,_,rfl⟩⟩
  have un:Un (frs X.stack) [z,TO,i1,i2] H (upd H s.heap.objs.size (.tup [x,y])) s.heap h'':=by
   refine ⟨fun b o e _ _ hx=>kk b o hx e,fun b o e _ _ hx=>⟨o.slots,kk b o hx e⟩,fun b o e n _=> ?_,fun b o e hx=>⟨o,kk b o hx e⟩,fun b zs e=> ?_,fun b o v e=> ?_,fun b ps e=>⟨#[],?_⟩⟩
   . have l:=ltS e;rw [BE (by intro q;subst q;omega)];exact n
   . rw [BE (BJ e nT)];exact e
   . rw [BE (BJ e nT)];exact e
   . rw [BE (BJ e nT)];simpa using e
  have I2:Inv X pins σ (upd H s.heap.objs.size (.tup [x,y])) {s with heap:=h'' }:=I.call' rfl un hok2 I.bare fun b hb=>by
   obtain ⟨f0,f1,f2,f3,f4,f5⟩:=hf b (sub b hb);exact ⟨f3,f1,f4,f5⟩
  refine ⟨.ref s.heap.objs.size,_,I2,rfl,⟨s.heap.objs.size,x,y,nT,rfl,rfl,fun zs hq=> ?_,fun zs hq=> ?_⟩,⟨a1',?_,⟨_,_,sb.extBut _ _ D.TOz a2⟩,a3.extBut sb.extBut D.i1z,a4.extBut sb.extBut D.i2z⟩,fun b hb=> ?_⟩
  . rw [I.tuple_inj hq q1];exact hx
  . rw [I.tuple_inj hq q2];exact hy
  . exact sb.extBut _ _ D.TIz (hk TI _ D.TIz D.TITO D.TIi1 D.TIi2 h2)
  . have n:=ch b hb
    obtain ⟨o,e⟩:∃o,s.heap.get? b=some o:=by
     simp only [AJ,B8,DN] at hb
     rcases hb with rfl | rfl | rfl | rfl | rfl
     . exact ⟨_,h1⟩
     . exact ⟨_,h2⟩
     . exact ⟨_,h3⟩
     . obtain ⟨o,e,_⟩:=h4;exact ⟨o,e⟩
     . obtain ⟨o,e,_⟩:=h5;exact ⟨o,e⟩
    have l:=ltS e;rw [BE (by intro q;subst q;omega)];exact n
 done:=by
  intro X hP hw hK hc i pins s σ H E I hf st hg;subst hP hw hK;obtain ⟨h1,h2,⟨a,c,h3⟩,h4,h5⟩:=st;obtain ⟨xs,ys,q1,q2,he⟩:=hg;obtain ⟨its,rv,p,hz⟩:=I.tuple q1;obtain ⟨jts,rw',p',hz'⟩:=I.tuple q2;have l1:=rv.length;have l2:=rw'.length;refine fK (I.ok.hd hc) D h1 h2 h3 h4 h5 p p' (by rcases he with e | e;exact .inl (by simp;omega);exact .inr (by simp;omega)) fun h' hk=>⟨rfl,?_⟩;have ch:∀b ∈ [z,TI,TO,i1,i2],H b=none:=fun b hb=>(hf b hb).1
  have sub:∀b,b ∈ [z,TO,i1,i2]->b ∈ [z,TI,TO,i1,i2]:=fun b hb=>by
   simp only [AJ,B8,DN] at hb ⊢
   rcases hb with r | r | r | r
   . exact .inl r
   . exact .inr (.inr (.inl r))
   . exact .inr (.inr (.inr (.inl r)))
   . exact .inr (.inr (.inr (.inr r)))
  have kk:∀b o,b ∉ [z,TO,i1,i2]->s.heap.get? b=some o->h'.get? b=some o:=fun b o hb e=>by
   simp only [AJ,B8,DN,uE] at hb
   exact hk b o hb.1 hb.2.1 hb.2.2.1 hb.2.2.2 e
  have hok1 : HOk X.prog X.w H h' := fun b o e => (I.hok b o e).stay (fun d v hd q => kk d v (fun hm => by
   have n:=ch d (sub d hm);rcases hd with hd | hd
   . rw [hd,e] at n;cases n
   . rw [hd] at n;cases n) q) (fun _ q=>q) fun _ _ q=>q
  have un:Un (frs X.stack) [z,TO,i1,i2] H H s.heap h' :=
   ⟨fun b o e _ _ hx=>kk b o hx e,fun b o e _ _ hx=>⟨o.slots,kk b o hx e⟩,fun b o e n _=>n,fun b o e hx=>⟨o,kk b o hx e⟩,fun b zs e=>e,fun b o v e=>e,fun b ps e=>⟨#[],by simpa using e⟩⟩
  exact I.call' rfl un hok1 I.bare fun b hb=>by
   obtain ⟨f0,f1,f2,f3,f4,f5⟩:=hf b (sub b hb);exact ⟨f3,f1,f4,f5⟩
 self:=fun _ _ _ _ _ st h=>JI st.1 h
section
variable {X:Cx}
def tZ(K:PySem.W.Frag)(ta:TA):TI:=fun σ H R=>ta σ H fun vs H1=>∃l1 l2,vs = [.ref l1, .ref l2]/\(((∃xs,SqL K H1 l1 xs)/\(∃ys,SqL K H1 l2 ys)/\R (Itz K l1 l2) H1)\/((∃xs,SqT K H1 l1 xs)/\(∃ys,SqT K H1 l2 ys)/\R (Ity K l1 l2) H1))
theorem dO{n b:Nat}(hb:b ∈ [n+4,n+2,n+3,n,n+1]):n<=b:=by
 simp only [AJ,B8,DN] at hb
 omega
theorem oH {a b : Expr} {ta : TA} {elts : List Expr} {k : Nat} {tp p pos : Pos} (hg : Gl X "zip") (hm : X.mg "zip" = none) (ha : PA X [a, b] ta) (hs : starEach [a, b] X.env = [(false, eval a X.env), (false, eval b X.env)] := by rfl) (hs2 : starEach [b] X.env = [(false, eval b X.env)] := by rfl) :
 PI X (.Tuple elts k tp) (.Call (.Name "zip" p) [a,b] [] pos) (tZ X.K ta):=by
 intro pins s σ H R I h;refine Call_ (IF I hg hm jZ (CM (thn (ha pos pins s σ H _ I h) fun us s1 ⟨vs,H1,I1,r1,q1⟩ => ?_) (by rw [hs,hs2]) (by rw [hs2];rfl)));obtain ⟨l1,l2,e,q1⟩:=q1;subst e;obtain ⟨u,w',rfl,ru,rw'⟩:=aS r1
 cases (show u=Value.ref l1 from ru)
 cases (show w'=Value.ref l2 from rw')
 rcases q1 with ⟨⟨xs,q1⟩,⟨ys,q2⟩,q⟩ | ⟨⟨xs,q1⟩,⟨ys,q2⟩,q⟩
 . obtain ⟨its,rv,p1,hz⟩:=I1.list q1;obtain ⟨jts,rv',p2,hz'⟩:=I1.list q2;have lt1:l1<s1.heap.objs.size:=by obtain ⟨o,n,e,_⟩:=p1;exact AO e
   have lt2:l2<s1.heap.objs.size:=by obtain ⟨o,n,e,_⟩:=p2;exact AO e
   refine call_zip_2 p1.isList p2.isList fun h' a1 a2 a3 a4 a5 a6 hk=> ?_;refine JI (s:={s1 with heap:=h' }) a1 ?_;exact ⟨_,[s1.heap.objs.size+4,s1.heap.objs.size+2,s1.heap.objs.size+3,s1.heap.objs.size,s1.heap.objs.size+1],_,_,H1,rfl,I1.kept (t':=s1.toks) hk,kU (zipApart_new lt1 lt2),⟨a1,a2,⟨_,_,a3⟩,a4,a5⟩,fun b hb=>I1.fpOk (dO hb) (I1.hok.fresh (dO hb)),q⟩
 . obtain ⟨its,rv,p1,hz⟩:=I1.tuple q1;obtain ⟨jts,rv',p2,hz'⟩:=I1.tuple q2;have lt1:l1<s1.heap.objs.size:=by obtain ⟨o,e,_⟩:=p1;exact AO e
   have lt2:l2<s1.heap.objs.size:=by obtain ⟨o,e,_⟩:=p2;exact AO e
   refine fB p1 p2 fun h' a1 a2 a3 a4 a5 hk=> ?_;refine JI (s:={s1 with heap:=h' }) a1 ?_;exact ⟨_,[s1.heap.objs.size+4,s1.heap.objs.size+2,s1.heap.objs.size+3,s1.heap.objs.size,s1.heap.objs.size+1],_,_,H1,rfl,I1.kept (t':=s1.toks) hk,gF (zipApart_new lt1 lt2),⟨a1,a2,⟨_,_,a3⟩,a4,a5⟩,fun b hb=>I1.fpOk (dO hb) (I1.hok.fresh (dO hb)),q⟩
end
end Tf
namespace Dm
open PySem PySem.Spec PyProof.Rows L2 Tf
section
variable {K:PySem.W.Frag} {R:Rl} [RelOk K R]
theorem qB{H0:Hp}{a b:Addr}{vs ws:List V}{ds es:List PyData}(h:SqT K H0 a vs)(r:Reps K H0 vs ds)(h2:SqT K H0 b ws)(r2:Reps K H0 ws es):ItR K H0 (Ity K a b) (LX ds es):=fun H0' H' s s' i=>by
 have h':=s'.seqT (s.seqT h);have h2':=s'.seqT (s.seqT h2);refine ⟨fun d hd=> ?_,fun hi=>⟨vs,ws,h',h2',?_⟩⟩
 . unfold LX at hd
   rw [R0] at hd
   cases e1:ds[i]? with
   | none=>rw [e1] at hd;cases hd
   | some x=>
    cases e2:es[i]? with
    | none=>rw [e1,e2] at hd;cases hd
    | some y=>
     rw [e1,e2] at hd
     cases hd
     obtain ⟨v,q1,q2⟩:=Tf.Reps.get r e1;obtain ⟨w,q3,q4⟩:=Tf.Reps.get r2 e2;refine ⟨⟨vs,ws,v,w,h',h2',q1,q3⟩,fun z H2 yl=> ?_⟩;obtain ⟨p,x',y',hp,rfl,rfl,hx,hy⟩:=yl;have:=hx vs h';rw [q1] at this
     cases this
     have:=hy ws h2';rw [q3] at this
     cases this
     refine ⟨_,Ext.allocF s' hp _, .tuple BT ?_⟩;have s2:=s.trans (Same.upd (s'.free hp) (.tup [v,w]));exact .cons (Rep.same s2 q2) (.cons (Rep.same s2 q4) .nil)
 . rw [r.length,r2.length];unfold LX at hi
   rw [TR] at hi
   omega
def KR(f:En->Option (List PyData)):En->Option (List PyData):=fun ρ=>(f ρ).bind fun a=>match a with
 | [.list xs, .list ys]=>some (LX xs ys)
 | [.tuple xs, .tuple ys]=>some (LX xs ys)
 | _=>none
theorem qC{ta:TA}{f:En->Option (List PyData)}(h:RA K R ta f):RI K R (tZ K ta) (KR f):=fun HB σ ρ H0 H s e ds hd R q=>by
 obtain ⟨a,ha,hd⟩:=A3.mp hd
 split at hd
 . cases hd
   refine h HB σ ρ H0 H s e _ ha _ fun vs H1 J1 x1 p1=> ?_
   cases p1 with | cons p1 t=>cases t with | cons p2 t=>
    cases t
    cases p1 with | list a1 a2=>cases p2 with | list b1 b2=>
     exact ⟨_,_,rfl, .inl ⟨⟨_,x1.s1.seq a1⟩,⟨_,x1.s1.seq b1⟩,q _ _ _ x1 (vC a1 a2 b1 b2)⟩⟩
 . cases hd
   refine h HB σ ρ H0 H s e _ ha _ fun vs H1 J1 x1 p1=> ?_
   cases p1 with | cons p1 t=>cases t with | cons p2 t=>
    cases t
    cases p1 with | tuple a1 a2=>cases p2 with | tuple b1 b2=>
     exact ⟨_,_,rfl, .inr ⟨⟨_,x1.s1.seqT (SqT.of a1)⟩,⟨_,x1.s1.seqT (SqT.of b1)⟩,q _ _ _ x1 (qB (SqT.of a1) a2 (SqT.of b1) b2)⟩⟩
 . cases hd
end
section
variable {X:Cx} {R:Rl} [RelOk X.K R] {a b:Expr} {pos p:Pos} {fs:En->Option (List PyData)}
theorem VU {elts:List Expr} {k} {tp:Pos} (hm:X.mg "zip" = none) (h:DA X R [a,b] fs) (hg:Gl X "zip" :=by rfl) (hs:starEach [a,b] X.env = [(false,eval a X.env),(false,eval b X.env)]:=by rfl) (hs2:starEach [b] X.env = [(false,eval b X.env)]:=by rfl):DI X R (.Tuple elts k tp) (.Call (.Name "zip" p) [a,b] [] pos) (KR fs):=by
 obtain ⟨t,h1,h2⟩:=h;exact ⟨_,oH hg hm h1 hs hs2,qC h2⟩
end
end Dm
namespace Tf
open PySem PySem.Spec PyProof.Rows L2
section
variable {prog:Program} {w:World} {A:Around} {E:Value->Shared->Prop} {s:Shared}
theorem eO {z TI TO j1 j2 t1 t2 : Addr} {n1 n2 : Nat} {xs ys : Array Value} {x y a b : Value} {Q : Value -> Shared -> Prop} (D : ZipApart z TI TO j1 j2 t1 t2)
 (hz:IsZip s.heap z TI TO .none) (hI:IsPair s.heap TI (.ref j1) (.ref j2)) (hO:IsPair s.heap TO a b)
 (s1:s.heap.IsListIter j1 t1 n1) (s2:s.heap.IsTupleIter j2 t2 n2) (l1:s.heap.IsList t1 xs) (l2:s.heap.IsTuple t2 ys) (hx:xs[n1]? = some x) (hy:ys[n2]? = some y)
 (q:∀h',IsZip h' z TI TO (rawInt s.heap.objs.size)->IsPair h' TO x y->h'.IsListIter j1 t1 (n1+1)->h'.IsTupleIter j2 t2 (n2+1)->IsPair h' s.heap.objs.size x y->h'.objs.size=s.heap.objs.size+1 ->
  (∀c o,c≠z->c≠TO->c≠j1->c≠j2->s.heap.get? c=some o->h'.get? c=some o)->Q (.ref s.heap.objs.size) {s with heap:=h' }) :
 wpAny (model prog w) A (Builtin.«zip.__next__» ⟨[.ref z], []⟩) (fun fin s' => ∃ v, fin = .done (.ret v) /\ Q v s') E s := by
 show wpAny _ _ (field (.ref z) 2 >>= _) _ _ _;refine wpAny_bind (wpAny_field hz rfl (x:= .bool false) rfl ?_);show wpAny _ _ (field (.ref z) 3 >>= _) _ _ _;refine wpAny_bind (wpAny_field hz rfl (x:= .ref TI) rfl ?_);refine wpAny_bind (wpAny_seqItems hI rfl ?_);show wpAny _ _ (Builtin.SmallTypes.ownedTupleIsFree (.ref z) >>= _) _ _ _;refine wpAny_bind ?_;unfold Builtin.SmallTypes.ownedTupleIsFree;refine wpAny_bind (wpAny_field hz rfl (x:= .none) rfl (wpAny_pure ?_));simp only [if_true];refine wpAny_bind (wpAny_rule ?_);refine wpAny_bind (wpAny_field hz rfl (x:= .ref TO) rfl ?_);refine wpAny_bind (wpAny_setField_rec hz (by simp) fun H1 z1 k1=> ?_)
 replace z1:IsZip H1 z TI TO .ellipsis:=z1
 refine A0 ?_;simp only [L8,QM,QN,K6];refine A0 (A0 (IM ?_));show wpAny _ _ (Builtin.SmallTypes.nextOf (.ref j1) >>= _) _ _ _;refine A0 (A96 (s1.extBut k1.extBut D.i1z) (l1.extBut k1.extBut D.l1z) hx fun H2 i2 k2=>A5 ?_);have O2:IsPair H2 TO a b:=k2.extBut _ _ D.TOi1 (k1.extBut _ _ D.TOz hO);refine A0 (CO O2 rfl ?_);refine A0 (GL O2 fun H3 O3 k3=> ?_)
 replace O3:IsPair H3 TO x b:=O3
 refine A0 (EH (A5 ?_));refine A0 (A0 (IM ?_));show wpAny _ _ (Builtin.SmallTypes.nextOf (.ref j2) >>= _) _ _ _;refine A0 (R9 (C6 (C6 (C6 s2 k1.extBut D.i2z) k2.extBut D.i12.symm) k3.extBut D.TOi2.symm) (FX (FX (FX l2 k1.extBut D.l2z) k2.extBut D.l2i1) k3.extBut D.l2TO) hy fun H4 i4 k4=>A5 ?_);have O4:IsPair H4 TO x b:=k4.extBut _ _ D.TOi2 O3;refine A0 (CO O4 rfl ?_);refine A0 (GL O4 fun H5 O5 k5=> ?_)
 replace O5:IsPair H5 TO x y:=O5
 refine A0 (EH (A5 (A5 ?_)));refine A0 (CO O5 rfl ?_);refine A0 (zM ?_);have sz:H5.objs.size=s.heap.objs.size:=by rw [k5.1,k4.1,k3.1,k2.1,k1.1]
 have z5:IsZip H5 z TI TO .ellipsis:=k5.extBut _ _ D.TOz.symm (k4.extBut _ _ D.i2z.symm (k3.extBut _ _ D.TOz.symm (k2.extBut _ _ D.i1z.symm z1)))
 have keep:∀c o,c≠z->c≠TO->c≠j1->c≠j2->s.heap.get? c=some o->H5.get? c=some o:=fun c o c1 c2 c3 c4 e=>
  k5.extBut _ _ c2 (k4.extBut _ _ c4 (k3.extBut _ _ c2 (k2.extBut _ _ c3 (k1.extBut _ _ c1 e))))
 have i5:H5.IsListIter j1 t1 (n1+1):=((i2.extBut k3.extBut D.TOi1.symm).extBut k4.extBut D.i12).extBut k5.extBut D.TOi1.symm;have i5':H5.IsTupleIter j2 t2 (n2+1):=C6 i4 k5.extBut D.TOi2.symm;have zlt:z<H5.objs.size:=Heap.lt_size z5;show wpAny _ _ (Builtin.SmallTypes.ownedTupleHandOut (.ref z) (.ref H5.objs.size) >>= _) _ _ _;refine wpAny_bind ?_;unfold Builtin.SmallTypes.ownedTupleHandOut;have z6:IsZip (H5.push {cls:= .type "tuple",data:= .seq #[x,y]}) z TI TO .ellipsis:=Heap.get?_push_of_some _ z5;refine wpAny_bind (wpAny_setField_rec z6 (by simp) fun H7 z7 k7=> ?_)
 replace z7:IsZip H7 z TI TO (rawInt H5.objs.size):=z7
 refine HV z7 (by simp) fun H8 z8 k8=> ?_
 replace z8:IsZip H8 z TI TO (rawInt H5.objs.size):=z8
 have up:∀c o,c≠z->H5.get? c=some o->H8.get? c=some o:=fun c o c1 e=>k8.extBut _ _ c1 (k7.extBut _ _ c1 (A1 _ e));have T8:IsPair H8 H5.objs.size x y:=k8.extBut _ _ (K2 zlt) (k7.extBut _ _ (K2 zlt) (AG _ rfl));have n8:H8.objs.size=H5.objs.size+1:=by rw [k8.1,k7.1,BR]
 rw [sz] at z8 T8 n8
 refine A5 ⟨_,rfl,?_⟩;show Q (.ref H5.objs.size) _;rw [sz];exact q H8 z8 (up _ _ D.TOz O5) (i5.at fun o e=>up _ o D.i1z e) (i5'.at fun o e=>up _ o D.i2z e) T8 n8 fun c o c1 c2 c3 c4 e=>up c o c1 (keep c o c1 c2 c3 c4 e)
theorem jE {z TI TO j1 j2 t1 t2 : Addr} {n1 n2 : Nat} {xs ys : Array Value} {a b : Value} {Q : Fin -> Shared -> Prop} (hh : A.handled = none) (D : ZipApart z TI TO j1 j2 t1 t2)
 (hz:IsZip s.heap z TI TO .none) (hI:IsPair s.heap TI (.ref j1) (.ref j2)) (hO:IsPair s.heap TO a b)
 (s1:s.heap.IsListIter j1 t1 n1) (s2:s.heap.IsTupleIter j2 t2 n2) (l1:s.heap.IsList t1 xs) (l2:s.heap.IsTuple t2 ys) (fin:xs[n1]? = none\/ys[n2]? = none)
 (q:∀h' e,(∀c o,c≠z->c≠TO->c≠j1->c≠j2->s.heap.get? c=some o->h'.get? c=some o)->(∃o,h'.get? e=some o/\o.cls = .type "StopIteration")->E (.ref e) {s with heap:=h' }) :
 wpAny (model prog w) A (Builtin.«zip.__next__» ⟨[.ref z], []⟩) Q E s := by
 show wpAny _ _ (field (.ref z) 2 >>= _) _ _ _;refine wpAny_bind (wpAny_field hz rfl (x:= .bool false) rfl ?_);show wpAny _ _ (field (.ref z) 3 >>= _) _ _ _;refine wpAny_bind (wpAny_field hz rfl (x:= .ref TI) rfl ?_);refine wpAny_bind (wpAny_seqItems hI rfl ?_);show wpAny _ _ (Builtin.SmallTypes.ownedTupleIsFree (.ref z) >>= _) _ _ _;refine wpAny_bind ?_;unfold Builtin.SmallTypes.ownedTupleIsFree;refine wpAny_bind (wpAny_field hz rfl (x:= .none) rfl (wpAny_pure ?_));simp only [if_true];refine wpAny_bind (wpAny_rule ?_);refine wpAny_bind (wpAny_field hz rfl (x:= .ref TO) rfl ?_);refine wpAny_bind (wpAny_setField_rec hz (by simp) fun H1 z1 k1=> ?_)
 replace z1:IsZip H1 z TI TO .ellipsis:=z1
 refine A0 ?_;simp only [L8,QM,QN,K6];refine A0 (A0 (IM ?_));show wpAny _ _ (Builtin.SmallTypes.nextOf (.ref j1) >>= _) _ _ _
 cases hx:xs[n1]? with
 | none=>
  refine A0 (wpAny_nextOf_list_end hh (s1.extBut k1.extBut D.i1z) (l1.extBut k1.extBut D.l1z) hx fun H2 e k2 st=> ?_);obtain ⟨oe,ge,ce⟩:=st;have z2:IsZip H2 z TI TO .ellipsis:=k2 _ _ D.i1z.symm z1;have ez:e≠z:=fun x=>by subst x;rw [z2] at ge;cases ge;simp at ce
  refine HV z2 (by simp) fun H3 _ k3=>q H3 e (fun c o c1 _ c3 _ x=>k3.extBut _ _ c1 (k2 _ _ c3 (k1.extBut _ _ c1 x))) ⟨oe,k3.extBut _ _ ez ge,ce⟩
 | some x=>
  have hy:ys[n2]? = none:=by rcases fin with h | h;rw [hx] at h;cases h;exact h
  refine A0 (A96 (s1.extBut k1.extBut D.i1z) (l1.extBut k1.extBut D.l1z) hx fun H2 i2 k2=>A5 ?_);have O2:IsPair H2 TO a b:=k2.extBut _ _ D.TOi1 (k1.extBut _ _ D.TOz hO);refine A0 (CO O2 rfl ?_);refine A0 (GL O2 fun H3 O3 k3=> ?_);refine A0 (EH (A5 ?_));refine A0 (A0 (IM ?_));show wpAny _ _ (Builtin.SmallTypes.nextOf (.ref j2) >>= _) _ _ _;refine A0 (OC hh (C6 (C6 (C6 s2 k1.extBut D.i2z) k2.extBut D.i12.symm) k3.extBut D.TOi2.symm) (FX (FX (FX l2 k1.extBut D.l2z) k2.extBut D.l2i1) k3.extBut D.l2TO) hy fun H4 e k4 st=> ?_);obtain ⟨oe,ge,ce⟩:=st;have z4:IsZip H4 z TI TO .ellipsis:=k4 _ _ D.i2z.symm (k3.extBut _ _ D.TOz.symm (k2.extBut _ _ D.i1z.symm z1));have ez:e≠z:=fun x=>by subst x;rw [z4] at ge;cases ge;simp at ce
  refine HV z4 (by simp) fun H5 _ k5=>q H5 e (fun c o c1 c2 c3 c4 x=>k5.extBut _ _ c1 (k4 _ _ c4 (k3.extBut _ _ c2 (k2.extBut _ _ c3 (k1.extBut _ _ c1 x))))) ⟨oe,k5.extBut _ _ ez ge,ce⟩
theorem YQ {z TI TO j1 j2 t1 t2 : Addr} {n1 n2 : Nat} {xs ys : Array Value} {x y a b : Value} {Q : Option Value -> Shared -> Prop} (D : ZipApart z TI TO j1 j2 t1 t2)
 (hz:IsZip s.heap z TI TO .none) (hI:IsPair s.heap TI (.ref j1) (.ref j2)) (hO:IsPair s.heap TO a b)
 (s1:s.heap.IsListIter j1 t1 n1) (s2:s.heap.IsTupleIter j2 t2 n2) (l1:s.heap.IsList t1 xs) (l2:s.heap.IsTuple t2 ys) (hx:xs[n1]? = some x) (hy:ys[n2]? = some y)
 (q:∀h',IsZip h' z TI TO (rawInt s.heap.objs.size)->IsPair h' TO x y->h'.IsListIter j1 t1 (n1+1)->h'.IsTupleIter j2 t2 (n2+1)->IsPair h' s.heap.objs.size x y->h'.objs.size=s.heap.objs.size+1 ->
  (∀c o,c≠z->c≠TO->c≠j1->c≠j2->s.heap.get? c=some o->h'.get? c=some o)->Q (some (.ref s.heap.objs.size)) {s with heap:=h' }) :
 wpAny (model prog w) A (pyNext (.ref z)) Q E s:=by
 have ty:s.TypeIs (.ref z) "zip" :=⟨_,hz,rfl⟩;unfold pyNext
 exact A0 (GN (BU (name:=Str.ofString "__next__") ty DY
  (DD DY ty K8
   (eO D hz hI hO s1 s2 l1 l2 hx hy fun h' a1 a2 a3 a4 a5 a6 a7=>A5 (q h' a1 a2 a3 a4 a5 a6 a7)) (JO _))))
theorem gC {z TI TO j1 j2 t1 t2 : Addr} {n1 n2 : Nat} {xs ys : Array Value} {a b : Value} {Q : Option Value -> Shared -> Prop} (hh : A.handled = none) (D : ZipApart z TI TO j1 j2 t1 t2)
 (hz:IsZip s.heap z TI TO .none) (hI:IsPair s.heap TI (.ref j1) (.ref j2)) (hO:IsPair s.heap TO a b)
 (s1:s.heap.IsListIter j1 t1 n1) (s2:s.heap.IsTupleIter j2 t2 n2) (l1:s.heap.IsList t1 xs) (l2:s.heap.IsTuple t2 ys) (fin:xs[n1]? = none\/ys[n2]? = none)
 (q:∀h',(∀c o,c≠z->c≠TO->c≠j1->c≠j2->s.heap.get? c=some o->h'.get? c=some o)->Q none {s with heap:=h' }):wpAny (model prog w) A (pyNext (.ref z)) Q E s:=by
 have ty:s.TypeIs (.ref z) "zip" :=⟨_,hz,rfl⟩;unfold pyNext
 refine A0 (GN (BU (name:=Str.ofString "__next__") ty DY
  (DD DY ty K8 (jE hh D hz hI hO s1 s2 l1 l2 fin fun h' e k st=> ?_) (JO _))))
 obtain ⟨o,g,c⟩:=st;refine A0 (MQ (T:= "StopIteration") (b:=true) ⟨o,g,c⟩ WF ?_);exact A5 (q _ k)
end
abbrev zn1 (h:Heap) (a:Addr):Heap:=h.push {cls:= .type "list_iterator",data:= .fields #[.ref a, .int 0 0]}
abbrev zn2 (h:Heap) (a b:Addr):Heap:=(zn1 h a).push {cls:= .type "tuple_iterator",data:= .fields #[.ref b, .int 0 0]}
abbrev zn3 (h:Heap) (a b:Addr):Heap:=(zn2 h a b).push {cls:= .type "tuple",data:= .seq #[.ref h.objs.size, .ref (zn1 h a).objs.size]}
abbrev zn4 (h:Heap) (a b:Addr):Heap:=(zn3 h a b).push {cls:= .type "tuple",data:= .seq #[.none, .none]}
abbrev zn5 (h:Heap) (a b:Addr):Heap:=(zn4 h a b).push {cls:= .type "zip",data:= .fields #[.none, .bool false, .bool false, .ref (zn2 h a b).objs.size, .ref (zn3 h a b).objs.size]}
theorem ZO (a b : Addr) (xs ys : Array Value) :
 Meets (Builtin.«zip.__new__» ⟨[.type "zip", .ref a, .ref b], []⟩) (fun _ R s => s.heap.IsList a xs /\ s.heap.IsTuple b ys /\ R (.ok (.ret (.ref (zn4 s.heap a b).objs.size))) { s with heap := zn5 s.heap a b }) :=
 .of_wp fun prog w A R s h=>by
  obtain ⟨hp,g,d,tk,os⟩:=s;obtain ⟨x1,x2,h⟩:=h;have hsub:=sub_zip;have y1:Heap.IsList (Shared.heap ⟨hp,g,d,tk,os⟩) a xs:=x1;have y2:Heap.IsTuple (Shared.heap ⟨hp.push {cls:= .type "list_iterator",data:= .fields #[.ref a, .int 0 0]},g,d,tk,os⟩) b ys:=SJ x2
  wp_walk using gN y1,OU y2
  exact ⟨_,rfl,h⟩
section
variable {prog:Program} {w:World} {A:Around} {E:Value->Shared->Prop} {s:Shared}
theorem e7 {a b : Addr} {xs ys : Array Value} {Q : Value -> Shared -> Prop} (x1 : s.heap.IsList a xs) (x2 : s.heap.IsTuple b ys)
 (q:∀h',IsZip h' (s.heap.objs.size+4) (s.heap.objs.size+2) (s.heap.objs.size+3) .none->IsPair h' (s.heap.objs.size+2) (.ref s.heap.objs.size) (.ref (s.heap.objs.size+1)) ->
  IsPair h' (s.heap.objs.size+3) .none .none->h'.IsListIter s.heap.objs.size a 0->h'.IsTupleIter (s.heap.objs.size+1) b 0->(∀c o,s.heap.get? c=some o->h'.get? c=some o)->Q (.ref (s.heap.objs.size+4)) {s with heap:=h' }) :
 wpAny (model prog w) A (call (.type "zip") [.ref a, .ref b]) Q E s:=by
 refine callType_new A63 (by decide) (uG _ _) (zC _ _) (fun obj=>gP obj _ _) zD (ZO a b xs ys) ⟨x1,x2,?_⟩;have e1:(zn1 s.heap a).objs.size=s.heap.objs.size+1:=BR ..;have e2:(zn2 s.heap a b).objs.size=s.heap.objs.size+2:=by rw [BR,e1]
 have e3:(zn3 s.heap a b).objs.size=s.heap.objs.size+3:=by rw [BR,e2]
 have e4:(zn4 s.heap a b).objs.size=s.heap.objs.size+4:=by rw [BR,e3]
 have g5:(zn5 s.heap a b).get? (zn4 s.heap a b).objs.size=some _:=AG _ rfl;have g4:(zn5 s.heap a b).get? (zn3 s.heap a b).objs.size=some _:=A1 _ (AG _ rfl);have g3:(zn5 s.heap a b).get? (zn2 s.heap a b).objs.size=some _:=A1 _ (A1 _ (AG _ rfl));have g2:(zn5 s.heap a b).get? (zn1 s.heap a).objs.size=some _:=A1 _ (A1 _ (A1 _ (AG _ rfl)));have g1:(zn5 s.heap a b).get? s.heap.objs.size=some _:=A1 _ (A1 _ (A1 _ (A1 _ (AG _ rfl))));show _/\_;rw [e2,e3,e4] at g5
 rw [e1,e2] at g3
 rw [e3] at g4
 rw [e1] at g2
 rw [e4];refine ⟨⟨_,g5,rfl⟩,q _ g5 g3 g4 ⟨_,g1,rfl,rfl⟩ ⟨_,g2,rfl,rfl⟩ fun c o e=> ?_⟩;exact A1 _ (A1 _ (A1 _ (A1 _ (A1 _ e))))
end
def Itn(K:PySem.W.Frag)(a b:Addr):It:=
 ⟨fun i H=>∃xs ys x y,SqL K H a xs/\SqT K H b ys/\xs[i]? = some x/\ys[i]? = some y,
  fun i H v H'=>∃p x y,H p=none/\v = .ref p/\H'=upd H p (.tup [x,y])/\(∀xs,SqL K H a xs->xs[i]? = some x)/\(∀ys,SqT K H b ys->ys[i]? = some y),
  fun i H=>∃xs ys,SqL K H a xs/\SqT K H b ys/\(xs.length<=i\/ys.length<=i)⟩
def wX(z TI TO i1 i2 l1 l2:Addr)(i:Nat)(h:Heap):Prop:=IsZip h z TI TO .none/\IsPair h TI (.ref i1) (.ref i2)/\(∃a b,IsPair h TO a b)/\h.IsListIter i1 l1 i/\h.IsTupleIter i2 l2 i
theorem fF {P : Program} {w : World} {K : PySem.W.Frag} {elts : List Expr} {k : Nat} {pos : Pos} {z TI TO i1 i2 l1 l2 : Addr} (D : ZipApart z TI TO i1 i2 l1 l2) :
 Turn P w K (.Tuple elts k pos) (Itn K l1 l2) [z,TI,TO,i1,i2] z (wX z TI TO i1 i2 l1 l2) where
 mem:=by simp
 obj:=fun i h st b hb=>by
  obtain ⟨h1,h2,⟨a,c,h3⟩,⟨o4,h4,_,d4⟩,⟨o5,h5,_,d5⟩⟩:=st;simp only [AJ,B8,DN] at hb
  rcases hb with rfl | rfl | rfl | rfl | rfl
  . exact ⟨_,h1,fun v e=>(nomatch e)⟩
  . exact ⟨_,h2,fun v e=>(nomatch e)⟩
  . exact ⟨_,h3,fun v e=>(nomatch e)⟩
  . exact ⟨_,h4,fun v e=>by rw [d4] at e;cases e⟩
  . exact ⟨_,h5,fun v e=>by rw [d5] at e;cases e⟩
 keep:=fun i h h' st kk=>by
  obtain ⟨h1,h2,⟨a,c,h3⟩,h4,h5⟩:=st;exact ⟨kk z (by simp) _ h1,kk TI (by simp) _ h2,⟨a,c,kk TO (by simp) _ h3⟩,h4.at fun o e=>kk i1 (by simp) o e,h5.at fun o e=>kk i2 (by simp) o e⟩
 item:=by
  intro X hP hw hK hc i pins s σ H E I hf st hg;subst hP hw hK;obtain ⟨h1,h2,⟨a,c,h3⟩,h4,h5⟩:=st;obtain ⟨xs,ys,x,y,q1,q2,hx,hy⟩:=hg;obtain ⟨its,rv,p,hz⟩:=I.list q1;obtain ⟨jts,rw',p',hz'⟩:=I.tuple q2;obtain ⟨u,hu,ru⟩:=rv.get hx;obtain ⟨u',hu',ru'⟩:=rw'.get hy;have ltS:∀ {h:Heap} {b:Addr} {o:Obj},h.get? b=some o -> @LT.lt Nat _ b h.objs.size:=fun e=>AO e;refine YQ D h1 h2 h3 h4 h5 p.isList p' (x:=u) (y:=u') (by simpa using hu) (by simpa using hu') fun h' a1 a2 a3 a4 a5 a6 hk=> ?_;refine ⟨_,rfl,Q2 a1 fun h'' a1' sb=> ?_⟩;have ch:∀b ∈ [z,TI,TO,i1,i2],H b=none:=fun b hb=>(hf b hb).1
  have kk:∀b o,b ∉ [z,TO,i1,i2]->s.heap.get? b=some o->h''.get? b=some o:=fun b o hb e=>by
   simp only [AJ,B8,DN,uE] at hb
   exact sb.extBut b o hb.1 (hk b o hb.1 hb.2.1 hb.2.2.1 hb.2.2.2 e)
  have eT:h''.get? s.heap.objs.size=some {cls:= .type "tuple",data:= .seq #[u,u']}:=sb.extBut _ _ (fun e=>by have l:=ltS h1;rw [<-e] at l;omega) a5
  have sub:∀b,b ∈ [z,TO,i1,i2]->b ∈ [z,TI,TO,i1,i2]:=fun b hb=>by
   simp only [AJ,B8,DN] at hb ⊢
   rcases hb with r | r | r | r
   . exact .inl r
   . exact .inr (.inr (.inl r))
   . exact .inr (.inr (.inr (.inl r)))
   . exact .inr (.inr (.inr (.inr r)))
  have nT:H s.heap.objs.size=none:=I.hok.fresh (A9 _)
  have hok1 : HOk X.prog X.w H h'' := fun b o e => (I.hok b o e).stay (fun d v hd q => kk d v (fun hm => by
   have n:=ch d (sub d hm);rcases hd with hd | hd
   . rw [hd,e] at n;cases n
   . rw [hd] at n;cases n) q) (fun _ q=>q) fun _ _ q=>q
  have hok2:HOk X.prog X.w (upd H s.heap.objs.size (.tup [x,y])) h'':=RJ hok1 nT ⟨by show 2<=sizeLine;decide,[u,u'], .cons ru (.cons ru' .nil),⟨_,eT,rfl,_,rfl⟩⟩
  have un:Un (frs X.stack) [z,TO,i1,i2] H (upd H s.heap.objs.size (.tup [x,y])) s.heap h'':=by
   refine ⟨fun b o e _ _ hx=>kk b o hx e,fun b o e _ _ hx=>⟨o.slots,kk b o hx e⟩,fun b o e n _=> ?_,fun b o e hx=>⟨o,kk b o hx e⟩,fun b zs e=> ?_,fun b o v e=> ?_,fun b ps e=>⟨#[],?_⟩⟩
   . have l:=ltS e;rw [BE (by intro q;subst q;omega)];exact n
   . rw [BE (BJ e nT)];exact e
   . rw [BE (BJ e nT)];exact e
   . rw [BE (BJ e nT)];simpa using e
  have I2:Inv X pins σ (upd H s.heap.objs.size (.tup [x,y])) {s with heap:=h'' }:=I.call' rfl un hok2 I.bare fun b hb=>by
   obtain ⟨f0,f1,f2,f3,f4,f5⟩:=hf b (sub b hb);exact ⟨f3,f1,f4,f5⟩
  refine ⟨.ref s.heap.objs.size,_,I2,rfl,⟨s.heap.objs.size,x,y,nT,rfl,rfl,fun zs hq=> ?_,fun zs hq=> ?_⟩,⟨a1',?_,⟨_,_,sb.extBut _ _ D.TOz a2⟩,a3.extBut sb.extBut D.i1z,a4.extBut sb.extBut D.i2z⟩,fun b hb=> ?_⟩
  . rw [I.list_inj hq q1];exact hx
  . rw [I.tuple_inj hq q2];exact hy
  . exact sb.extBut _ _ D.TIz (hk TI _ D.TIz D.TITO D.TIi1 D.TIi2 h2)
  . have n:=ch b hb
    obtain ⟨o,e⟩:∃o,s.heap.get? b=some o:=by
     simp only [AJ,B8,DN] at hb
     rcases hb with rfl | rfl | rfl | rfl | rfl
     . exact ⟨_,h1⟩
     . exact ⟨_,h2⟩
     . exact ⟨_,h3⟩
     . obtain ⟨o,e,_⟩:=h4;exact ⟨o,e⟩
     . obtain ⟨o,e,_⟩:=h5;exact ⟨o,e⟩
    have l:=ltS e;rw [BE (by intro q;subst q;omega)];exact n
 done:=by
  intro X hP hw hK hc i pins s σ H E I hf st hg;subst hP hw hK;obtain ⟨h1,h2,⟨a,c,h3⟩,h4,h5⟩:=st;obtain ⟨xs,ys,q1,q2,he⟩:=hg;obtain ⟨its,rv,p,hz⟩:=I.list q1;obtain ⟨jts,rw',p',hz'⟩:=I.tuple q2;have l1:=rv.length;have l2:=rw'.length;refine gC (I.ok.hd hc) D h1 h2 h3 h4 h5 p.isList p' (by rcases he with e | e;exact .inl (by simp;omega);exact .inr (by simp;omega)) fun h' hk=>⟨rfl,?_⟩;have ch:∀b ∈ [z,TI,TO,i1,i2],H b=none:=fun b hb=>(hf b hb).1
  have sub:∀b,b ∈ [z,TO,i1,i2]->b ∈ [z,TI,TO,i1,i2]:=fun b hb=>by
   simp only [AJ,B8,DN] at hb ⊢
   rcases hb with r | r | r | r
   . exact .inl r
   . exact .inr (.inr (.inl r))
   . exact .inr (.inr (.inr (.inl r)))
   . exact .inr (.inr (.inr (.inr r)))
  have kk:∀b o,b ∉ [z,TO,i1,i2]->s.heap.get? b=some o->h'.get? b=some o:=fun b o hb e=>by
   simp only [AJ,B8,DN,uE] at hb
   exact hk b o hb.1 hb.2.1 hb.2.2.1 hb.2.2.2 e
  have hok1 : HOk X.prog X.w H h' := fun b o e => (I.hok b o e).stay (fun d v hd q => kk d v (fun hm => by
   have n:=ch d (sub d hm);rcases hd with hd | hd
   . rw [hd,e] at n;cases n
   . rw [hd] at n;cases n) q) (fun _ q=>q) fun _ _ q=>q
  have un:Un (frs X.stack) [z,TO,i1,i2] H H s.heap h' :=
   ⟨fun b o e _ _ hx=>kk b o hx e,fun b o e _ _ hx=>⟨o.slots,kk b o hx e⟩,fun b o e n _=>n,fun b o e hx=>⟨o,kk b o hx e⟩,fun b zs e=>e,fun b o v e=>e,fun b ps e=>⟨#[],by simpa using e⟩⟩
  exact I.call' rfl un hok1 I.bare fun b hb=>by
   obtain ⟨f0,f1,f2,f3,f4,f5⟩:=hf b (sub b hb);exact ⟨f3,f1,f4,f5⟩
 self:=fun _ _ _ _ _ st h=>JI st.1 h
section
variable {X:Cx}
def tK(K:PySem.W.Frag)(ta:TA):TI:=fun σ H R=>ta σ H fun vs H1=>∃l1 l2,vs = [.ref l1, .ref l2]/\(∃xs,SqL K H1 l1 xs)/\(∃ys,SqT K H1 l2 ys)/\R (Itn K l1 l2) H1
theorem rM {a b : Expr} {ta : TA} {elts : List Expr} {k : Nat} {tp p pos : Pos} (hg : Gl X "zip") (hm : X.mg "zip" = none) (ha : PA X [a, b] ta) (hs : starEach [a, b] X.env = [(false, eval a X.env), (false, eval b X.env)] := by rfl) (hs2 : starEach [b] X.env = [(false, eval b X.env)] := by rfl) :
 PI X (.Tuple elts k tp) (.Call (.Name "zip" p) [a,b] [] pos) (tK X.K ta):=by
 intro pins s σ H R I h;refine Call_ (IF I hg hm jZ (CM (thn (ha pos pins s σ H _ I h) fun us s1 ⟨vs,H1,I1,r1,q1⟩ => ?_) (by rw [hs,hs2]) (by rw [hs2];rfl)));obtain ⟨l1,l2,e,q1⟩:=q1;subst e;obtain ⟨u,w',rfl,ru,rw'⟩:=aS r1
 cases (show u=Value.ref l1 from ru)
 cases (show w'=Value.ref l2 from rw')
 obtain ⟨⟨xs,q1⟩,⟨ys,q2⟩,q⟩:=q1;obtain ⟨its,rv,p1,hz⟩:=I1.list q1;obtain ⟨jts,rv',p2,hz'⟩:=I1.tuple q2;have lt1:l1<s1.heap.objs.size:=by obtain ⟨o,n,e,_⟩:=p1;exact AO e
 have lt2:l2<s1.heap.objs.size:=by obtain ⟨o,e,_⟩:=p2;exact AO e
 refine e7 p1.isList p2 fun h' a1 a2 a3 a4 a5 hk=> ?_;refine JI (s:={s1 with heap:=h' }) a1 ?_;exact ⟨_,[s1.heap.objs.size+4,s1.heap.objs.size+2,s1.heap.objs.size+3,s1.heap.objs.size,s1.heap.objs.size+1],_,_,H1,rfl,I1.kept (t':=s1.toks) hk,fF (zipApart_new lt1 lt2),⟨a1,a2,⟨_,_,a3⟩,a4,a5⟩,fun b hb=>I1.fpOk (dO hb) (I1.hok.fresh (dO hb)),q⟩
end
end Tf
namespace Dm
open PySem PySem.Spec PyProof.Rows L2 Tf
section
variable {K:PySem.W.Frag} {R:Rl} [RelOk K R]
theorem nZ{H0:Hp}{a b:Addr}{vs ws:List V}{ds es:List PyData}(h:SqL K H0 a vs)(r:Reps K H0 vs ds)(h2:SqT K H0 b ws)(r2:Reps K H0 ws es):ItR K H0 (Itn K a b) (LX ds es):=fun H0' H' s s' i=>by
 have h':=s'.seq (s.seq h);have h2':=s'.seqT (s.seqT h2);refine ⟨fun d hd=> ?_,fun hi=>⟨vs,ws,h',h2',?_⟩⟩
 . unfold LX at hd
   rw [R0] at hd
   cases e1:ds[i]? with
   | none=>rw [e1] at hd;cases hd
   | some x=>
    cases e2:es[i]? with
    | none=>rw [e1,e2] at hd;cases hd
    | some y=>
     rw [e1,e2] at hd
     cases hd
     obtain ⟨v,q1,q2⟩:=Tf.Reps.get r e1;obtain ⟨w,q3,q4⟩:=Tf.Reps.get r2 e2;refine ⟨⟨vs,ws,v,w,h',h2',q1,q3⟩,fun z H2 yl=> ?_⟩;obtain ⟨p,x',y',hp,rfl,rfl,hx,hy⟩:=yl;have:=hx vs h';rw [q1] at this
     cases this
     have:=hy ws h2';rw [q3] at this
     cases this
     refine ⟨_,Ext.allocF s' hp _, .tuple BT ?_⟩;have s2:=s.trans (Same.upd (s'.free hp) (.tup [v,w]));exact .cons (Rep.same s2 q2) (.cons (Rep.same s2 q4) .nil)
 . rw [r.length,r2.length];unfold LX at hi
   rw [TR] at hi
   omega
def SG(f:En->Option (List PyData)):En->Option (List PyData):=fun ρ=>(f ρ).bind fun a=>match a with
 | [.list xs, .tuple ys]=>some (LX xs ys)
 | _=>none
theorem pC{ta:TA}{f:En->Option (List PyData)}(h:RA K R ta f):RI K R (tK K ta) (SG f):=fun HB σ ρ H0 H s e ds hd R q=>by
 obtain ⟨a,ha,hd⟩:=A3.mp hd
 split at hd
 . cases hd
   refine h HB σ ρ H0 H s e _ ha _ fun vs H1 J1 x1 p1=> ?_
   cases p1 with | cons p1 t=>cases t with | cons p2 t=>
    cases t
    cases p1 with | list a1 a2=>cases p2 with | tuple b1 b2=>
     exact ⟨_,_,rfl,⟨_,x1.s1.seq a1⟩,⟨_,x1.s1.seqT (SqT.of b1)⟩,q _ _ _ x1 (nZ a1 a2 (SqT.of b1) b2)⟩
 . cases hd
end
section
variable {X:Cx} {R:Rl} [RelOk X.K R] {a b:Expr} {pos p:Pos} {fs:En->Option (List PyData)}
theorem qD {elts:List Expr} {k} {tp:Pos} (hm:X.mg "zip" = none) (h:DA X R [a,b] fs) (hg:Gl X "zip" :=by rfl) (hs:starEach [a,b] X.env = [(false,eval a X.env),(false,eval b X.env)]:=by rfl) (hs2:starEach [b] X.env = [(false,eval b X.env)]:=by rfl):DI X R (.Tuple elts k tp) (.Call (.Name "zip" p) [a,b] [] pos) (SG fs):=by
 obtain ⟨t,h1,h2⟩:=h;exact ⟨_,rM hg hm h1 hs hs2,pC h2⟩
end
end Dm
namespace Dm
open PySem PySem.Spec PyProof.Rows L2 Tf
def Z7:PyData->Option Key
 | .int i=>some (.inl i)
 | .str x=>some (.inr x)
 | _=>none
def QA:List PyData->Option (List Key)
 | []=>some []
 | d::ds=>(Z7 d).bind fun k=>(QA ds).map (k :: ·)
def MO:PyData->Option (List Key)
 | .tuple ds=>QA ds
 | _=>none
theorem jK{a b:Key}(h:keyD a=keyD b):a=b:=by
 cases a <;> cases b <;> simp [keyD] at h <;> rw [h]
theorem PH{a b:List Key}(h:tupD a=tupD b):a=b:=by
 have h:a.map keyD=b.map keyD:=by
  unfold tupD at h
  exact PyData.tuple.inj h
 exact A64 (fun _ _=>jK) |>.mp h
section
variable {K:PySem.W.Frag}
theorem RW{H:Hp}:∀ {vs:List V} {ds:List PyData} {k:List Key},Reps K H vs ds->QA ds=some k->vs=k.map kV/\ds=k.map keyD
 | _,_,_, .nil,h=>by cases h;exact ⟨rfl,rfl⟩
 | _,_,k, .cons (d:=d) r t,h=>by
  obtain ⟨k1,e1,h⟩:=A3.mp h;obtain ⟨ks,e2,rfl⟩:=AH.mp h;obtain ⟨i1,i2⟩:=RW t e2;subst i1 i2
  cases r with
  | int i=>cases e1;exact ⟨rfl,rfl⟩
  | str x=>cases e1;exact ⟨rfl,rfl⟩
  | _=>cases e1
theorem DctR.nil{H:Hp}:DctR K H [] []:=⟨[],[],[],rfl,rfl, .nil,rfl⟩
theorem DctR.cons{H:Hp}{k:List Key}{v:V}{d:PyData}{t:List (List Key×V)}{kvs:List (PyData×PyData)}(r:Rep K H v d)(h:DctR K H t kvs):DctR K H ((k,v)::t) ((tupD k,d)::kvs):=by
 obtain ⟨ks,xs,ds,rfl,e2,e3,rfl⟩:=h;exact ⟨k::ks,v::xs,d::ds,rfl,by rw [B4,B4,e2], .cons r e3,rfl⟩
theorem DctR.out{H:Hp}{t:List (List Key×V)}{kvs:List (PyData×PyData)}(h:DctR K H t kvs):(t = []/\kvs = [])\/∃k v d t' kvs',t=(k,v)::t'/\kvs=(tupD k,d)::kvs'/\Rep K H v d/\DctR K H t' kvs':=by
 obtain ⟨ks,xs,ds,rfl,e2,e3,rfl⟩:=h
 cases ks with
 | nil=>exact .inl ⟨rfl,rfl⟩
 | cons k ks=>
  cases e3 with
  | nil=>simp at e2
  | cons r t=>exact .inr ⟨k,_,_,_,_,rfl,rfl,r,ks,_,_,rfl,by simpa using e2,t,rfl⟩
open Classical in
noncomputable def HR:List (PyData×PyData)->List Key->Option PyData
 | [],_=>none
 | (q,d)::r,k=>if q=tupD k then some d else HR r k
open Classical in
noncomputable def QV(k:List Key)(d:PyData):List (PyData×PyData)->List (PyData×PyData)
 | []=> []
 | (q,e)::r=>(if q=tupD k then (q,d) else (q,e))::QV k d r
noncomputable def WL(kvs:List (PyData×PyData))(k:List Key)(d:PyData):List (PyData×PyData):=match HR kvs k with
 | some _=>QV k d kvs
 | none=>kvs ++ [(tupD k,d)]
theorem DctR.val{H:Hp}{k:List Key}:∀ {t:List (List Key×V)} {kvs:List (PyData×PyData)},DctR K H t kvs->(OJ t k=none/\HR kvs k=none)\/∃v d,OJ t k=some v/\HR kvs k=some d/\Rep K H v d
 | [],kvs,h=>by
  rcases h.out with ⟨_,rfl⟩ | ⟨k',v,d,t',kvs',e,_⟩
  . exact .inl ⟨rfl,rfl⟩
  . cases e
 | p::t,kvs,h=>by
  rcases h.out with ⟨e,_⟩ | ⟨k',v,d,t',kvs',e,rfl,r,h'⟩
  . cases e
  . cases e
    by_cases hk:k'=k
    . subst hk;exact .inr ⟨v,d,P9 rfl,AB rfl,r⟩
    . rw [P4 (p:=(k',v)) hk,show HR ((tupD k',d)::kvs') k=HR kvs' k from A8 fun z=>hk (PH z)];exact DctR.val h'
theorem DctR.repl{H:Hp}{k:List Key}{v:V}{d:PyData}(r:Rep K H v d):∀ {t:List (List Key×V)} {kvs:List (PyData×PyData)},DctR K H t kvs->DctR K H (t.map fun kv=>if kv.1=k then (kv.1,v) else kv) (QV k d kvs)
 | [],kvs,h=>by
  rcases h.out with ⟨_,rfl⟩ | ⟨k',v,d,t',kvs',e,_⟩
  . exact .nil
  . cases e
 | p::t,kvs,h=>by
  rcases h.out with ⟨e,_⟩ | ⟨k',v',d',t',kvs',e,rfl,r',h'⟩
  . cases e
  . cases e
    rw [B1];rw [QV]
    by_cases hk:k'=k
    . subst hk;rw [AB rfl,AB rfl];exact .cons r (DctR.repl r h')
    . rw [A8 hk,A8 fun z=>hk (PH z)];exact .cons r' (DctR.repl r h')
theorem DctR.snoc{H:Hp}{k:List Key}{v:V}{d:PyData}(r:Rep K H v d):∀ {t:List (List Key×V)} {kvs:List (PyData×PyData)},DctR K H t kvs->DctR K H (t ++ [(k,v)]) (kvs ++ [(tupD k,d)])
 | [],kvs,h=>by
  rcases h.out with ⟨_,rfl⟩ | ⟨k',v,d,t',kvs',e,_⟩
  . exact .cons r .nil
  . cases e
 | p::t,kvs,h=>by
  rcases h.out with ⟨e,_⟩ | ⟨k',v',d',t',kvs',e,rfl,r',h'⟩
  . cases e
  . cases e
    exact .cons r' (DctR.snoc r h')
theorem DctR.put{H:Hp}{k:List Key}{v:V}{d:PyData}{t:List (List Key×V)}{kvs:List (PyData×PyData)}(r:Rep K H v d)(h:DctR K H t kvs):DctR K H (R5 t k v) (WL kvs k d):=by
 unfold R5 WL;rw [T4];rcases h.val (k:=k) with ⟨e1,e2⟩ | ⟨v',d',e1,e2,_⟩
 . rw [e1,e2];show DctR K H (if false=true then _ else t ++ [(k,v)]) (kvs ++ [(tupD k,d)]);rw [A8 (by decide)];exact h.snoc r
 . rw [e1,e2];show DctR K H (if true=true then _ else _) (QV k d kvs);rw [AB rfl];exact h.repl r
theorem DctR.length{H:Hp}:∀ {t:List (List Key×V)} {kvs:List (PyData×PyData)},DctR K H t kvs->t.length=kvs.length
 | [],kvs,h=>by
  rcases h.out with ⟨_,rfl⟩ | ⟨k',v,d,t',kvs',e,_⟩
  . rfl
  . cases e
 | p::t,kvs,h=>by
  rcases h.out with ⟨e,_⟩ | ⟨k',v',d',t',kvs',e,rfl,r',h'⟩
  . cases e
  . cases e
    rw [B4,B4,DctR.length h']
def unD:List (PyData×PyData)->List (PyData×PyData)
 | (.none, .none)::r=>r
 | r=>r
theorem wF(r:List (PyData×PyData)):unD (mkD::r)=r:=rfl
theorem lP{H:Hp}{t:List (List Key×V)}{kvs:List (PyData×PyData)}(h:DctR K H t kvs):unD kvs=kvs:=by
 rcases h.out with ⟨_,rfl⟩ | ⟨k',v',d',t',kvs',_,rfl,_⟩ <;> rfl
theorem SlP.dct{H0 H:Hp}{v:V}{kvs:List (PyData×PyData)}(s:Same H0 H):∀ {r:Sl},SlP K H0 H v r->r.dat = .dict kvs->∃a t,v = .ref a/\Rd H a (.dT t)/\DctR K H0 t (unD kvs)
 | .val _,h,e=>by
  cases h with
  | dict h1 h2 h3=>
   cases e
   have r:DctR K H0 _ _:=⟨_,_,_,rfl,h2,h3,rfl⟩;rw [lP r]
   exact ⟨_,_,rfl,Rd.same s h1,r⟩
  | dictF h1 h2 h3=>cases e;rw [wF];exact ⟨_,_,rfl, .inr ⟨_,s _ _ h1⟩,_,_,_,rfl,h2,h3,rfl⟩
  | _=>cases e
 | .own _,_,e=>by cases e
 | .dct _,⟨a,t,e,h2,h3⟩,e2=>by cases e2;rw [lP h3];exact ⟨a,t,e, .inl h2,h3⟩
variable {R:Rl} [RelOk K R]
def mDNew:En->Option Sl:=fun _=>some (.dct [])
theorem rQ:RE K R tDNewT mDNew:=fun HB σ ρ H0 H s e r hr Q q=>by
 cases hr
 exact fun p hp=>q _ _ _ (Ext.alloc s hp _) ⟨p,[],rfl,hp,s.free hp,BT, .nil⟩
def dictOf:Sl->Option (List (PyData×PyData)):=fun s=>match s.dat with
 | .dict kvs=>some (unD kvs)
 | _=>none
theorem O8{H0 H:Hp}{v:V}{r:Sl}{kvs:List (PyData×PyData)}(s:Same H0 H)(p:SlP K H0 H v r)(h:dictOf r=some kvs):∃a t,v = .ref a/\Rd H a (.dT t)/\DctR K H0 t kvs:=by
 unfold dictOf at h
 split at h
 . rename_i e;cases h;exact p.dct s e
 . cases h
theorem P8{H0 H:Hp}{v:V}{s:Sl}{k:List Key}(ss:Same H0 H)(p:SlP K H0 H v s)(h:MO s.dat=some k):∃b,v = .ref b/\H b=some (.tup (k.map kV)):=by
 unfold MO at h
 split at h
 . rename_i ds e;obtain ⟨a,vs,rfl,h1,h2⟩:=p.tup e;obtain ⟨rfl,_⟩:=RW h2 h;exact ⟨a,rfl,ss _ _ h1⟩
 . cases h
noncomputable def NU:Sl->Sl->Option Sl:=fun a b=>(dictOf a).bind fun kvs=>(MO b.dat).bind fun k=>(HR kvs k).map .val
theorem rD{td ty:TE}{fa fb:En->Option Sl}(ha:RP K R td fa)(hb:RP K R ty fb):RE K R (tS td ty) (mBin NU fa fb):=fun HB σ ρ H0 H s e z hz Q q=>by
 obtain ⟨x,hx,hz⟩:=A3.mp hz;obtain ⟨y,hy,hz⟩:=A3.mp hz;obtain ⟨kvs,h1,hz⟩:=A3.mp hz;obtain ⟨k,h2,hz⟩:=A3.mp hz;obtain ⟨d,h3,rfl⟩:=AH.mp hz;refine ha HB σ ρ H0 H s e x hx _ fun v H1 J1 x1 p1=> ?_;refine hb HB σ ρ H1 J1 x1.s1 (e.ext (K:=K) x1) y hy _ fun u H2 J2 x2 p2=> ?_;obtain ⟨a,t,rfl,g1,g2⟩:=O8 x2.s1 (p1.ext x2) h1;obtain ⟨b,rfl,g3⟩:=P8 x2.s1 p2 h2;rcases g2.val (k:=k) with ⟨_,e2⟩ | ⟨w,d',e1,e2,r⟩
 . rw [e2] at h3;cases h3
 . rw [e2] at h3
   cases h3
   exact ⟨a,w,rfl, .inr ⟨t,k,b,g1,rfl,g3,e1.symm⟩,q _ _ _ (x1.trans x2) r⟩
noncomputable def lZ(neg:Bool):Sl->Sl->Option Sl:=fun b a=>(dictOf a).bind fun kvs=>(MO b.dat).map fun k=> .val (.bool (xor neg (HR kvs k).isSome))
theorem eM{td ty:TE}{fa fb:En->Option Sl}(hb:RP K R ty fb)(ha:RP K R td fa):RE K R (cE ty td) (mBin (lZ true) fb fa):=fun HB σ ρ H0 H s e z hz Q q=>by
 obtain ⟨y,hy,hz⟩:=A3.mp hz;obtain ⟨x,hx,hz⟩:=A3.mp hz;obtain ⟨kvs,h1,hz⟩:=A3.mp hz;obtain ⟨k,h2,rfl⟩:=AH.mp hz;refine hb HB σ ρ H0 H s e y hy _ fun u H1 J1 x1 p1=> ?_;refine ha HB σ ρ H1 J1 x1.s1 (e.ext (K:=K) x1) x hx _ fun v H2 J2 x2 p2=> ?_;obtain ⟨a,t,rfl,g1,g2⟩:=O8 x2.s1 p2 h1;obtain ⟨b,rfl,g3⟩:=P8 x2.s1 (p1.ext x2) h2;refine ⟨a,OJ t k,rfl, .inr ⟨t,k,b,g1,rfl,g3,rfl⟩,?_⟩
 have e:(!(OJ t k).isSome)=xor true (HR kvs k).isSome:=by
  rcases g2.val (k:=k) with ⟨e1,e2⟩ | ⟨w,d',e1,e2,r⟩ <;> rw [e1,e2] <;> rfl
 rw [e];exact q _ _ _ (x1.trans x2) (.bool _)
noncomputable def VM(fa fb fc:En->Option Sl):En->Option Sl:=fun ρ=>(fa ρ).bind fun a=>(fb ρ).bind fun b=>(fc ρ).bind fun c=>(dictOf a).bind fun kvs=>(MO b.dat).map fun k=> .val ((HR kvs k).getD c.dat)
theorem iZ{td ty tz:TE}{fa fb fc:En->Option Sl}(ha:RP K R td fa)(hb:RP K R ty fb)(hc:RE K R tz fc):RE K R (lK td ty tz) (VM fa fb fc):=fun HB σ ρ H0 H s e z hz Q q=>by
 obtain ⟨x,hx,hz⟩:=Option.bind_eq_some_iff.mp hz;obtain ⟨y,hy,hz⟩:=Option.bind_eq_some_iff.mp hz;obtain ⟨c,hcc,hz⟩:=Option.bind_eq_some_iff.mp hz;obtain ⟨kvs,h1,hz⟩:=Option.bind_eq_some_iff.mp hz;obtain ⟨k,h2,rfl⟩:=Option.map_eq_some_iff.mp hz;refine ha HB σ ρ H0 H s e x hx _ fun v H1 J1 x1 p1=> ?_;obtain ⟨a,t0,rfl,g0,_⟩:=O8 x1.s1 p1 h1;refine ⟨a,rfl, .inr ⟨t0,g0⟩,?_⟩;refine hb HB σ ρ H1 J1 x1.s1 (e.ext (K:=K) x1) y hy _ fun u H2 J2 x2 p2=> ?_;refine hc.rv HB σ ρ H2 J2 x2.s1 ((e.ext (K:=K) x1).ext (K:=K) x2) c.dat (by unfold mDat;rw [hcc];rfl) _ fun w H3 J3 x3 p3=> ?_;obtain ⟨a',t,e',g1,g2⟩:=O8 x3.s1 ((p1.ext x2).ext x3) h1
 cases e'
 obtain ⟨b,rfl,g3⟩:=P8 x3.s1 (p2.ext x3) h2;refine ⟨OJ t k, .inr ⟨t,k,b,g1,rfl,g3,rfl⟩,?_⟩;rcases g2.val (k:=k) with ⟨e1,e2⟩ | ⟨w',d',e1,e2,r⟩
 . rw [e1];rw [e2] at q
   exact q _ _ _ ((x1.trans x2).trans x3) p3
 . rw [e1];rw [e2] at q
   exact q _ _ _ ((x1.trans x2).trans x3) r
def j8(i:Nat)(ρ:En):Prop:=∀j kws,j≠i->ρ[j]? ≠ some (some (.dct kws))
theorem ER.writeD {HB H0 H : Hp} {σ : L2.St} {ρ : En} {i : Nat} {a : Addr} {kvs kws : List (PyData × PyData)} {t t' : List (List Key × V)} (e : ER K HB H0 H σ ρ) (hl : j8 i ρ) (hi : ρ[i]? = some (some (.dct kvs))) (hs : σ[i]? = some (some (.ref a))) (hb : HB a = none) (h0 : H0 a = none) (ha : H a = some (.dT t)) (hr : DctR K H0 t' kws) :
 ER K HB H0 (upd H a (.dT t')) σ (ρ.set i (some (.dct kws))):=by
 have own:∀(j:Nat),∀ts,(ρ.set i (some (.dct kws)))[j]? = some (some (.own ts))->ρ[j]? = some (some (.own ts)):=by
  intro j ts h
  by_cases hj:i=j
  . subst hj;rw [CH,hi] at h
    cases h
  . rw [B2 hj] at h;exact h
 refine ⟨by rw [GY];exact e.len,fun j s hq=> ?_,fun j k b ts us hjk hj hk h1 h2=> ?_⟩
 . by_cases hj:i=j
   . subst hj;rw [CH,hi] at hq
     cases hq
     exact ⟨.ref a,hs,a,t',rfl,hb,h0,BT,hr⟩
   . rw [B2 hj] at hq
     obtain ⟨v,h1,h2⟩:=e.get j s hq;refine ⟨v,h1,?_⟩
     cases s with
     | val d=>exact h2
     | own ts=>
      obtain ⟨b,vs,rfl,g1,g2,g3,g4⟩:=h2;refine ⟨b,vs,rfl,g1,g2,?_,g4⟩;rw [BE]
      . exact g3
      . rintro rfl;rw [ha] at g3
        cases g3
     | dct ts=>exact absurd hq (hl j ts fun z=>hj z.symm)
 . exact e.apart j k b ts us hjk (own j ts hj) (own k us hk) h1 h2
def UI:Option Sl->Bool
 | some (.dct _)=>true
 | _=>false
def X0(i:Nat)(ρ:En):Bool:= !((ρ.set i none).any UI)
theorem cY{i:Nat}{ρ:En}(h:X0 i ρ=true):j8 i ρ:=fun j kws hj e=>by
 have h:(ρ.set i none).any UI=false:=by simpa [X0] using h
 have m:(ρ.set i none)[j]? = some (some (.dct kws)):=by rw [B2 (NN hj)];exact e
 have:=List.any_eq_false.mp h _ (BC m);exact this rfl
noncomputable def cJ(i:Nat)(fk f:En->Option Sl):En->Option Out:=fun ρ=>(f ρ).bind fun r=>match (ρ[i]?).join with
 | some (.dct kvs)=>(fk ρ).bind fun b=>(MO b.dat).bind fun k=>if kvs.length<sizeLine/\X0 i ρ=true then some (.nx (ρ.set i (some (.dct (WL kvs k r.dat))))) else none
 | _=>none
theorem oV{te tk:TE}{f fk:En->Option Sl}{i:Nat}(h:RE K (PR K) te f)(hk:RP K (PR K) tk fk):RS K (PR K) (tQ (Z1 i) tk te) (cJ i fk f):=fun HB S0 σ ρ H0 H x e o ho D d=>by
 obtain ⟨r,hr,ho⟩:=A3.mp ho
 split at ho
 . rename_i kvs hown;obtain ⟨b,hb,ho⟩:=A3.mp ho;obtain ⟨k,hkk,ho⟩:=A3.mp ho
   split at ho
   . rename_i hc
     cases ho
     refine h.rv HB σ ρ H0 H x.s1 e r.dat (by unfold mDat;rw [hr];rfl) _ fun v H1 J1 x1 p1=> ?_;obtain ⟨v',hs,a,t,rfl,g1,g2,g3,g4⟩:=(e.ext (K:=K) x1).r.get i _ (join_some hown);refine ⟨.ref a,hs,?_⟩;refine hk HB σ ρ H1 J1 x1.s1 (e.ext (K:=K) x1) _ hb _ fun w H2 J2 x2 p2=> ?_;have l0:=x2.own a _ g3 True.intro g2;obtain ⟨c,rfl,g5⟩:=P8 x2.s1 p2 hkk;refine ⟨a,_,rfl, .inr ⟨t,k,c,x2.s _ _ g3,rfl,g5,by rw [g4.length];exact hc.1,rfl⟩,?_⟩;exact d σ H2 _ (((x.chain x1).chain x2).write g1 l0 _) ⟨ER.writeD (((e.ext (K:=K) x1).ext (K:=K) x2).r) (cY hc.2) (join_some hown) hs g1 l0 (x2.s _ _ g3) ((g4.same x2.s0).put (Rep.same x2.s0 p1))⟩
   . cases ho
 . cases ho
end
end Dm
namespace Tf
open PySem PySem.Spec PyProof.Rows L2
section
variable {prog:Program} {w:World} {A:Around} {E:Value->Shared->Prop} {s:Shared} {d:Addr} {o:Obj} {es:Array DictEntry} {ep:Nat}
theorem dH (hd : (d == sysModules) = false) : MeetsIn prog w (Builtin.«dict.__len__» ⟨[.ref d], []⟩) (fun _ R s => ∃ o es ep, s.heap.get? d = some o /\ o.data = .dict es ep /\ R (.ok (.ret (.int es.size s.toks))) { s with toks := s.toks + 1 }) :=
 .of_wp fun A R s ⟨o,es,ep,ho,hdat,h⟩=>by
  show wpAny _ _ (dictSize d >>= _) _ _ s;unfold dictSize;refine wpAny_bind (wpAny_bind (wpAny_dictEntries ho hdat (wpAny_pure ?_)));show wpAny _ _ (Builtin.Dict.pendingCount d >>= _) _ _ s;refine wpAny_bind (wpAny_pendingCount_other hd ?_);refine wpAny_ret_mkInt ?_;rw [Nat.add_zero];exact h
theorem oD {Q:Value->Shared->Prop} (hd:(d==sysModules)=false) (ho:s.heap.get? d=some o) (hc:o.cls = .type "dict") (hdat:o.data = .dict es ep) (hfit:(es.size:Int)<2 ^ 63) (h:Q (.int es.size (s.toks+1)) {s with toks:=s.toks+1+1}):wpAny (model prog w) A (call (.builtin "len") [.ref d]) Q E s:=by
 refine Calls.call_function_entry kind_len plain_len entry_len (args_len1 _) ?_;have ty:s.TypeIs (.ref d) "dict" :=⟨o,ho,hc⟩;unfold Builtin.«len»;refine wpAny_bind (m:=oneArg "len" _) (wpAny_pure ?_)
 refine A0 (m:=callSpecial? (.ref d) (Str.ofString "__len__")) (BU (name:=Str.ofString "__len__") ty F.slot_dict_len
  (TQ F.slot_dict_len ty F.entry_dict_len (F.args_dict_len_1 _) (dH hd) ⟨o,es,ep,ho,hdat,?_⟩))
 show wpAny _ _ _ _ _ {s with toks:=s.toks+1};refine A0 (DU (A5 ?_));refine A0 (EH ?_);show wpAny _ _ (if ((es.size:Nat):Int)<0 then _ else _) _ _ _;rw [A8 (by omega)];show wpAny _ _ (if ((es.size:Nat):Int)≥2 ^ 63 then _ else _) _ _ _;rw [A8 (by omega)];exact A0 (wpAny_mkInt (A5 ⟨_,rfl,h⟩))
end
variable {X:Cx}
theorem UA:KI X (.builtin "len") (fun xs H Q=>∃a t,xs = [V.ref a]/\Rd H a (.dT t)/\Q (.int t.length) H):=by
 intro pins s σ H xs us Q I r h;obtain ⟨a,t,rfl,ha,q⟩:=h;obtain ⟨u,rfl,ru⟩:=JP r
 cases ru
 obtain ⟨z,hd,ps,kt,o,es,ep,h1,h2,h3,h4,_,_⟩:=PV I.hok ha
 have l:es.size=t.length:=by
  have e1:es.toList.length=ps.length:=by rw [h4,AA]
  have e2:t.length=ps.length:=IL kt;rw [e2, <-e1];simp
 refine oD hd h1 h2.1 h3 (by rw [l];rw [MT] at z;omega) ?_;rw [l];exact ⟨.int t.length,H,I.tok _,⟨_,rfl⟩,q⟩
def tN(i:Nat)(ts:TS):TS:=fun D σ H=>∃a t,σ[i]? = some (some (.ref a))/\H a=some (.dT t)/\∀o,ts D σ (upd H a (.frz o (.dT t)))
theorem rV{st:Stmt}{ts:TS}(i:Nat)(h:PS X st ts):PS X st (tN i ts):=by
 intro pins s σ H D I q;obtain ⟨a,t,e1,e2,q⟩:=q;obtain ⟨z,y,xs,r,o,es,ep,h1,h2,h3,h4,h5⟩:=(show ObjOk X.prog X.w H s.heap a (.dT t) from I.hok a _ e2);have kt:∀ {l:List (List Key×V)} {m:List (List Key×Addr×Value)},Paired (fun (p:List Key×V) (q:List Key×Addr×Value)=>p.1=q.1/\H q.2.1=some (.tup (p.1.map kV))/\RelV p.2 q.2.2) l m->Paired (fun (p:List Key×V) (q:List Key×Addr×Value)=>p.1=q.1/\(upd H a (.frz o (.dT t))) q.2.1=some (.tup (p.1.map kV))/\RelV p.2 q.2.2) l m:=fun x=>Paired.mapP x fun _ _ k=>⟨k.1,by rw [BE (sK k.2.1 e2 (by intro z;cases z))];exact k.2.1,k.2.2⟩;have I2:Inv X pins σ (upd H a (.frz o (.dT t))) s:=VS (h':=s.heap) (t':=s.toks) I (by rw [e2];exact CI) ⟨rfl,fun _ _=>rfl⟩ ⟨o,h1⟩ ⟨h1,z,y,xs,kt r,o,es,ep,h1,h2,h3,h4,h5⟩;exact h pins s σ _ D I2 (q o)
end Tf
namespace Tf
open PySem PySem.Spec PyProof.Rows L2
section
variable {prog:Program} {w:World} {A:Around} {E:Value->Shared->Prop} {s:Shared} {d it v:Addr} {od:Obj} {es:Array DictEntry} {i ep:Nat}
theorem bE {Q : Value -> Shared -> Prop} (hv : s.heap.IsValuesView v d) (hod : s.heap.get? d = some od) (hdd : od.data = .dict es ep)
 (q:Q (.ref s.heap.objs.size) {s with heap:=s.heap.push {cls:= .type "dict_valueiterator",data:= .fields #[.ref d, .int 0 0, .int es.size 0, .int ep 0]} }):wpAny (model prog w) A (pyIter (.ref v)) Q E s:=by
 obtain ⟨ov,hov,hcv,hdv⟩:=id hv;refine wpAny_pyIter_slot hv.typeIs F.slot_dict_values_iter (wpAny_call_entry F.slot_dict_values_iter hv.typeIs F.entry_dict_values_iter ?_ (F.args_dict_values_iter_1 _));unfold Builtin.«dict_values.__iter__»;refine wpAny_bind (wpAny_pure ?_);refine wpAny_bind ?_;unfold Builtin.Dict_items.dictOf;refine wpAny_bind (wpAny_field hov hdv (x:= .ref d) rfl (wpAny_pure ?_));refine wpAny_bind ?_;unfold Builtin.Dict_items.newIterator;refine wpAny_bind (wpAny_dictEntries hod hdd ?_);refine wpAny_bind (wpAny_dictEpoch hod hdd ?_);have hown:Builtin.Dict_items.ownsTuple "dict_valueiterator" = false:=by decide
 simp only [hown,D6,FD];refine CN (A5 ⟨_,rfl, "dict_valueiterator",_,⟨_,AG _ rfl,rfl⟩,F6.lookup,?_⟩);simpa [rawInt] using q
theorem nY {u : Value} {Q : Option Value -> Shared -> Prop} (hit : s.heap.IsValIter it d i es.size ep) (hod : s.heap.get? d = some od) (hdd : od.data = .dict es ep) (hlt : i < es.size) (hval : es[i].val = u)
 (q:∀h',h'.IsValIter it d (i+1) es.size ep->Heap.SameBut it s.heap h'->Q (some u) {s with heap:=h' }):wpAny (model prog w) A (pyNext (.ref it)) Q E s:=by
 obtain ⟨o,ho,hc,hd⟩:=id hit;unfold pyNext
 refine A0 (GN (BU (name:=Str.ofString "__next__") hit.typeIs F6
  (DD F6 hit.typeIs mZ ?_ (gQ _))))
 refine A0 (A5 ?_);refine A0 ?_;refine A0 ?_
 first | refine A0 (HK hit.typeIs (A5 ?_)) | refine A0 (K9 hit.typeIs (A5 ?_))
 refine A0 (WG ho hd ?_);have hown:Builtin.Dict_items.ownsTuple "dict_valueiterator" = false:=by decide
 simp only [hown,D6,FD];show wpAny _ _ (if (Value.ref d==Value.none)=true then _ else _) _ _ s;rw [A8 (show ¬((Value.ref d==Value.none)=true) from CF)];refine A0 (A5 ?_);refine A0 (QO hod hdd ?_);rw [A8 (by simp)];refine A0 (A5 ?_);refine A0 (U5 hod hdd ?_);rw [A8 (by simp)];refine A5 ?_;simp only [show ¬((i:Int)<0) from by omega,FD,DC,IS hlt];refine A0 ?_
 first | refine A0 (HK hit.typeIs (A5 ?_)) | refine A0 (K9 hit.typeIs (A5 ?_))
 refine A0 (VB hit.typeIs ?_);show wpAny _ _ (setField (.ref it) 1 (rawInt ((i:Int)+1)) >>= _) _ _ s;refine A0 (LJ ho hd (by simp) ?_)
 have hit':(s.heap.update it (Obj.mapFields (·.setIfInBounds 1 (rawInt ((i:Int)+1))))).IsValIter it d (i+1) es.size ep:=
  ⟨_,V9 _ ho (VA (HU hd _)),(gO ..).trans hc,by rw [HU hd];simp [rawInt]⟩
 refine A0 (DU ?_);refine A0 (VB (s:={s with heap:=s.heap.update it (Obj.mapFields (·.setIfInBounds 1 (rawInt ((i:Int)+1))))}) hit'.typeIs ?_);refine A0 (VB (s:={s with heap:=s.heap.update it (Obj.mapFields (·.setIfInBounds 1 (rawInt ((i:Int)+1))))}) hit'.typeIs ?_);show wpAny _ _ (pure es[i].val) _ _ _;exact A5 (A5 ⟨_,rfl,A5 (hval ▸ q _ hit' (GX ..))⟩)
theorem w5 {Q : Option Value -> Shared -> Prop} (hh : A.handled = none) (hit : s.heap.IsValIter it d i es.size ep) (hod : s.heap.get? d = some od) (hdd : od.data = .dict es ep) (hge : es.size <= i)
 (q:∀h',Heap.ExtBut it s.heap h'->Q none {s with heap:=h' }):wpAny (model prog w) A (pyNext (.ref it)) Q E s:=by
 obtain ⟨o,ho,hc,hd⟩:=id hit;unfold pyNext
 refine A0 (GN (BU (name:=Str.ofString "__next__") hit.typeIs F6
  (DD F6 hit.typeIs mZ ?_ (gQ _))))
 refine A0 (A5 ?_);refine A0 ?_;refine A0 ?_
 first | refine A0 (HK hit.typeIs (A5 ?_)) | refine A0 (K9 hit.typeIs (A5 ?_))
 refine A0 (WG ho hd ?_);have hown:Builtin.Dict_items.ownsTuple "dict_valueiterator" = false:=by decide
 simp only [hown,D6,FD];show wpAny _ _ (if (Value.ref d==Value.none)=true then _ else _) _ _ s;rw [A8 (show ¬((Value.ref d==Value.none)=true) from CF)];refine A0 (A5 ?_);refine A0 (QO hod hdd ?_);rw [A8 (by simp)];refine A0 (A5 ?_);refine A0 (U5 hod hdd ?_);rw [A8 (by simp)];refine A5 ?_;simp only [show ¬((i:Int)<0) from by omega,FD,DC,uH hge];refine A0 ?_
 first | refine A0 (HK hit.typeIs (A5 ?_)) | refine A0 (K9 hit.typeIs (A5 ?_))
 show wpAny _ _ (setField (.ref it) 0 .none >>= _) _ _ s;refine A0 (LJ ho hd (by simp) ?_);show wpAny _ _ (newExc (.type "StopIteration") [] >>= _) _ _ _;refine A0 ?_;simp only [newExc,newTuple];refine A0 (CN ?_ (by size_fits));refine A0 (m:=firstArgMember _ _) (QL (a:=Value.none) (by first | rfl | (simp only [firstArgMember];rfl)) ?_);refine CN ?_ (by size_fits);simp only [raiseNew];refine A0 (A62 ?_);rw [show A.in1.handled=none from hh];refine A0 (A5 (AA7 ?_));refine A0 (MQ (T:= "StopIteration") (b:=true) ⟨_,AG _ rfl,rfl⟩ WF ?_);exact A5 (q _ (((GX ..).extBut.push _).push _))
end
theorem tJ{P:Program}{w:World}{H:Hp}{es:Array DictEntry}{t:List (List Key×V)}{ps:List (List Key×Addr×Value)}(kt:KT H t ps)(h4:es.toList=ps.map (entryOfKey (tupleKind (EQ P w)))):es.size=t.length/\∀(i:Nat) p,t[i]? = some p->∃hi:i<es.size,RelV p.2 es[i].val:=by
 have l:es.size=t.length:=by
  have e1:es.toList.length=ps.length:=by rw [h4,AA]
  have e2:t.length=ps.length:=IL kt;rw [e2, <-e1];simp
 refine ⟨l,fun i p hp=> ?_⟩;have hi:i<t.length:=(AQ.mp hp).1;have hi':i<es.size:=by omega
 refine ⟨hi',?_⟩
 have gen:∀ {t:List (List Key×V)} {ps:List (List Key×Addr×Value)} (i:Nat) p,KT H t ps->t[i]? = some p->∃q,ps[i]? = some q/\RelV p.2 q.2.2:=by
  intro t ps i p kt
  induction kt generalizing i with
  | nil=>intro h;simp at h
  | cons h _ ih=>
   intro e
   cases i with
   | zero=>simp at e;subst e;exact ⟨_,rfl,h.2.2⟩
   | succ i=>simpa using ih i (by simpa using e)
 obtain ⟨q,h1,h2⟩:=gen i p kt hp;have e3:es.toList[i]? = some (entryOfKey (tupleKind (EQ P w)) q):=by rw [h4,B5,h1];rfl
 have e4:es[i]=entryOfKey (tupleKind (EQ P w)) q:=by
  have:es[i]? = some (entryOfKey (tupleKind (EQ P w)) q):=by rw [<-AI];exact e3
  rw [IS hi'] at this
  exact BN this
 rw [e4];exact h2
end Tf
namespace Tf
open PySem PySem.Spec PyProof.Rows L2
variable {X:Cx}
def tR(i:Nat)(ts:TS):TS:=fun D σ H=>tN i ts D σ H\/ts D σ H
theorem qE{st:Stmt}{ts:TS}(i:Nat)(h:PS X st ts):PS X st (tR i ts):=by
 intro pins s σ H D I q;rcases q with q | q
 . exact rV i h pins s σ H D I q
 . exact h pins s σ H D I q
theorem Y6 {prog : Program} {w : World} {d : Addr} (hd : (d == sysModules) = false) : MeetsIn prog w (Builtin.«dict.values» ⟨[.ref d], []⟩) (fun _ R s => ∃ od, s.heap.get? d = some od /\ od.cls = .type "dict" /\ R (.ok (.ret (.ref s.heap.objs.size))) { s with heap := s.heap.push { cls := .type "dict_values", data := .fields #[.ref d] } }) :=
 .of_wp fun A R s ⟨od,hod,hc,h⟩=>by
  refine wpAny_bind ?_;unfold Builtin.Dict.noArgs;refine wpAny_bind (wpAny_notOrdered_dict (s:=s) ⟨od,hod,hc⟩ ?_);show wpAny _ _ (pure d) _ _ s;refine wpAny_pure ?_;show wpAny _ _ (Builtin.Dict.showsAll d >>= _) _ _ s;unfold Builtin.Dict.showsAll;rw [if_neg (by rw [hd];exact Bool.false_ne_true)];refine wpAny_bind (wpAny_pure ?_);exact wpAny_bind (wpAny_newObj_type (wpAny_pure ⟨_,rfl,h⟩))
end Tf
namespace Dm
open PySem PySem.Spec PyProof.Rows L2 Tf
section
variable {K:PySem.W.Frag}
theorem ER.frzF {S0 HB H0 H : Hp} {σ : L2.St} {ρ : En} {i : Nat} {a : Addr} {t : List (List Key × V)} {kvs : List (PyData × PyData)} (o : Obj) (e : ER K HB H0 H σ ρ) (hl : j8 i ρ) (hi : ρ[i]? = some (some (.dct kvs))) (hs : σ[i]? = some (some (.ref a))) (g1 : HB a = none) (g2 : H0 a = none) (g3 : H a = some (.dT t)) (g4 : DctR K H0 t kvs) (x : Ext S0 HB H0 H) :
 Ext S0 HB (upd H0 a (.frz o (.dT t))) (upd H a (.frz o (.dT t)))/\ER K HB (upd H0 a (.frz o (.dT t))) (upd H a (.frz o (.dT t))) σ (ρ.set i (some (.val (.dict (mkD::kvs))))):=by
 have s0:Same H0 (upd H0 a (.frz o (.dT t))):=Same.upd g2 _
 have x':Ext S0 HB (upd H0 a (.frz o (.dT t))) (upd H a (.frz o (.dT t))) :=
  ⟨fun b u q=>by rw [BE (BJ q g1)];exact x.s b u q,x.s0.trans s0,UX x.s1,fun b u q m q0=>by rw [BE (BJ q g1)];exact x.own b u q m q0⟩
 have own:∀(j:Nat),∀ts,(ρ.set i (some (.val (.dict (mkD::kvs)))))[j]? = some (some (.own ts))->ρ[j]? = some (some (.own ts)):=by
  intro j ts h
  by_cases hj:i=j
  . subst hj;rw [CH,hi] at h
    cases h
  . rw [B2 hj] at h;exact h
 refine ⟨x',⟨by rw [GY];exact e.len,fun j s hq=> ?_,fun j k b ts us hjk h1 h2 h3 h4=>e.apart j k b ts us hjk (own j ts h1) (own k us h2) h3 h4⟩⟩
 by_cases hij:i=j
 . subst hij;rw [CH,hi] at hq
   cases hq
   refine ⟨.ref a,hs,?_⟩;obtain ⟨ks,xs,ds,rfl,e2,e3,rfl⟩:=g4;exact .dictF BT e2 (Reps.same s0 e3)
 . rw [B2 hij] at hq
   obtain ⟨v,h1,h2⟩:=e.get j s hq;refine ⟨v,h1,?_⟩
   cases s with
   | val d=>exact Rep.same s0 h2
   | own ts=>
    obtain ⟨b,ws,rfl,q1,q2,q3,q4⟩:=h2
    have ne:b≠a:=by
     rintro rfl;rw [g3] at q3
     cases q3
    exact ⟨b,ws,rfl,q1,by rw [BE ne];exact q2,by rw [BE ne];exact q3,Reps.same s0 q4⟩
   | dct ts=>exact absurd hq (hl j ts fun z=>hij z.symm)
def jP(i:Nat)(ρ:En):Option En:=match (ρ[i]?).join with
 | some (.dct kvs)=>if X0 i ρ=true then some (ρ.set i (some (.val (.dict (mkD::kvs))))) else none
 | _=>some ρ
def cS(i:Nat)(g:En->Option Out):En->Option Out:=fun ρ=>(jP i ρ).bind g
theorem qR{ts:TS}{g:En->Option Out}(i:Nat)(h:RS K (PR K) ts g):RS K (PR K) (tR i ts) (cS i g):=fun HB S0 σ ρ H0 H x e o ho D d=>by
 obtain ⟨ρ1,h1,ho⟩:=Option.bind_eq_some_iff.mp ho;unfold jP at h1
 split at h1
 . rename_i kvs hj
   split at h1
   . rename_i hl
     cases h1
     obtain ⟨v,hs,a,t,rfl,g1,g2,g3,g4⟩:=e.r.get i _ (join_some hj);refine .inl ⟨a,t,hs,g3,fun ob=> ?_⟩;obtain ⟨x',e'⟩:=ER.frzF ob e.r (cY hl) (join_some hj) hs g1 g2 g3 g4 x;exact h HB S0 σ _ _ _ x' ⟨e'⟩ o ho D d
   . cases h1
 . cases h1
   exact .inr (h HB S0 σ ρ H0 H x e o ho D d)
variable {R:Rl} [RelOk K R]
def A93:PyData->Option (List PyData)
 | .dict ((.none, .none)::kvs)=>some (kvs.map (·.2))
 | _=>none
def dLenD:List Sl->Option Sl
 | [s]=>(dictOf s).map fun kvs=> .val (.int kvs.length)
 | _=>none
theorem b7:LV K (fun xs H Q=>∃a t,xs = [V.ref a]/\Rd H a (.dT t)/\Q (.int t.length) H) dLenD:=fun H0 H vs ss z s p hz Q q=>by
 unfold dLenD at hz
 split at hz
 . obtain ⟨v,rfl,pa⟩:=HC p;obtain ⟨kvs,hk,rfl⟩:=AH.mp hz;obtain ⟨a,t,rfl,g1,g2⟩:=O8 s pa hk;refine ⟨a,t,rfl,g1,?_⟩;rw [g2.length];exact q _ _ _ (Ext.refl s) (.int _)
 . cases hz
end
section
variable {X:Cx} {R:Rl} [RelOk X.K R] {a b c e tg:Expr} {pos p apos:Pos} {fa fb fc f:En->Option Sl} {st:Stmt} {gs:En->Option Out}
theorem pX:DE X R (.Dict [] [] pos) mDNew:=⟨_,jL,rQ⟩
theorem cG(hu:X.A.units+1<cLine)(ha:DP X R a fa)(hb:DP X R b fb)(hs:y9 b:=by intro _ _;rfl):DE X R (.Subscript a b pos) (mBin NU fa fb):=by
 obtain ⟨ta,h1,h2⟩:=ha;obtain ⟨tb,h3,h4⟩:=hb;exact ⟨_,oK hu h1 h3 hs,rD h2 h4⟩
theorem kB (hu:X.A.units+1<cLine) (ha:DP X R a fa) (hb:DP X R b fb) (hc:DE X R c fc) (m:M2 X a "get" apos b c pos:=by exact ⟨rfl,rfl,rfl,rfl⟩):DE X R (.Call (.Attribute a "get" apos) [b,c] [] pos) (VM fa fb fc):=by
 obtain ⟨ta,h1,h2⟩:=ha;obtain ⟨tb,h3,h4⟩:=hb;obtain ⟨tc,h5,h6⟩:=hc;exact ⟨_,m9 hu h1 h3 h5 m,iZ h2 h4 h6⟩
theorem p9(i:Nat)(h:DS X (PR X.K) st gs):DS X (PR X.K) st (cS i gs):=by
 obtain ⟨t,h1,h2⟩:=h;exact ⟨_,qE i h1,qR i h2⟩
theorem oT (hu : X.A.units + 1 < cLine) (i : Nat) {x : Str} {px ps : Pos} (hk : DP X (PR X.K) b fb) (h : DE X (PR X.K) e f) (hN : X.N[i]? = some x := by rfl) (hv : Vis X.env.scope x := by first | exact L7 rfl | exact GU (L7 rfl) | exact GU (GU rfl)) (hd : (x == ("__debug__" : Str)) = false := by decide) (hcd : (x == ("__classdict__" : Str)) = false := by decide)
 (hs:swapsWith e (some (.Subscript (.Name x px) b ps)) pos.line X.env=pure false:=by rfl):DS X (PR X.K) (.Assign [.Subscript (.Name x px) b ps] e pos) (cJ i fb f):=by
 obtain ⟨t,h1,h2⟩:=h;obtain ⟨u,h3,h4⟩:=hk;exact ⟨_,rK hu (Q5 hN hv hd hcd) h3 h1 hs,oV h2 h4⟩
end
end Dm
namespace Tf
open PySem PySem.Spec PyProof.Rows L2
theorem MF:∀ {us:List Value} {ns:List Int},Vals (ns.map V.int) us->IntsAre us ns
 | _,[],r=>by cases r;exact .nil
 | _,n::ns,r=>by
  cases r with
  | cons r1 r2=>
   obtain ⟨t,q⟩:=(show ∃t,_=Value.int n t from r1);subst q;exact .cons n t (MF r2)
variable {X:Cx}
theorem YE:KI X (.builtin "sorted") (fun xs H Q=>∃a ns,xs = [V.ref a]/\SqL X.K H a (ns.map V.int)/\ns.length<64/\∀p,H p=none->∀ns':List Int,ns'.Perm ns->ns'.Pairwise (· <= ·)->Q (.ref p) (upd H p (.lst (ns'.map V.int)))):=by
 intro pins s σ H xs us Q I r h;obtain ⟨a,ns,rfl,hq,hl,q⟩:=h;obtain ⟨u,rfl,ru⟩:=JP r
 cases ru
 obtain ⟨its,rv,p1,hz⟩:=I.list hq;have l:=rv.length;rw [AA] at l
 refine sorted_ints p1.isList (MF rv) (by omega) fun out ns' a1 a2 a3=> ?_;obtain ⟨e,he⟩:=sortedAll_at s.heap its out;refine ⟨.ref (s.heap.objs.size+1),_,I.laid (a:=s.heap.objs.size+1) (o:= .lst (ns'.map V.int)) (t':=s.toks) (fun b o z=>sortedAll_old z) (FJ _) ⟨?_,out.toList,e,QG a1,?_⟩,rfl,q _ (I.hok.fresh (FJ _)) ns' a2 a3⟩
 . rw [AA,a2.length_eq];exact JZ (uA hl (by decide))
 . rw [he]
end Tf
namespace Dm
open PySem PySem.Spec PyProof.Rows L2 Tf
def srt(ns:List Int):List Int:=ns.mergeSort fun a b=>decide (a<=b)
theorem XF(ns:List Int):(srt ns).Perm ns:=A55 _ _
theorem WI(ns:List Int):(srt ns).Pairwise (· <= ·):=by
 have:=sG (le:=fun a b:Int=>decide (a<=b)) (fun a b c h1 h2=>by simp at *;omega) (fun a b=>by simp;omega) ns;exact this.imp fun h=>by simpa using h
theorem xL{ns ns':List Int}(h:ns'.Perm ns)(p:ns'.Pairwise (· <= ·)):ns'=srt ns:=
 nB (fun a b _ _ h1 h2=>by omega) p (WI ns) (h.trans (XF ns).symm)
def dSorted:List Sl->Option Sl
 | [s]=>match s.dat with
  | .list ds=>(FT ds).bind fun ns=>if ns.length<64 then some (.own ((srt ns).map .int)) else none
  | _=>none
 | _=>none
section
variable {K:PySem.W.Frag}
theorem PJ{H:Hp}:∀ns:List Int,Reps K H (ns.map V.int) (ns.map PyData.int)
 | []=> .nil
 | n::ns=> .cons (.int n) (PJ ns)
theorem fP:LV K (fun xs H Q=>∃a ns,xs = [V.ref a]/\SqL K H a (ns.map V.int)/\ns.length<64/\∀p,H p=none->∀ns':List Int,ns'.Perm ns->ns'.Pairwise (· <= ·)->Q (.ref p) (upd H p (.lst (ns'.map V.int)))) dSorted:=fun H0 H vs ss z s p hz Q q=>by
 unfold dSorted at hz
 split at hz
 . obtain ⟨v,rfl,pa⟩:=HC p
   split at hz
   . rename_i ds hd;obtain ⟨ns,hn,hz⟩:=A3.mp hz
     split at hz
     . rename_i hl
       cases hz
       obtain ⟨a,vs,rfl,h1,h2⟩:=pa.lst s hd;rw [LN hn] at h2
       cases NM h2
       refine ⟨a,ns,rfl,h1,hl,fun b hb ns' p1 p2=> ?_⟩;rw [xL p1 p2];exact q _ _ _ (Ext.alloc s hb _) ⟨b,_,rfl,hb,s.free hb,BT,PJ _⟩
     . cases hz
   . cases hz
 . cases hz
end
end Dm
namespace Tf
open PySem PySem.Spec PyProof.Rows L2
section
variable {prog:Program} {w:World} {A:Around} {E:Value->Shared->Prop} {s:Shared} {d it:Addr} {od:Obj} {es:Array DictEntry} {i ep:Nat}
theorem bO {Q : Value -> Shared -> Prop} (hd : (d == sysModules) = false) (hod : s.heap.get? d = some od) (hc : od.cls = .type "dict") (hdd : od.data = .dict es ep)
 (q:Q (.ref s.heap.objs.size) {s with heap:=s.heap.push {cls:= .type "dict_keyiterator",data:= .fields #[.ref d, .int 0 0, .int es.size 0, .int ep 0]} }):wpAny (model prog w) A (pyIter (.ref d)) Q E s:=by
 have ty:s.TypeIs (.ref d) "dict" :=⟨od,hod,hc⟩;refine wpAny_pyIter_slot ty F.slot_dict_iter (wpAny_call_entry F.slot_dict_iter ty F.entry_dict_iter ?_ (F.args_dict_iter_1 _));unfold Builtin.«dict.__iter__»;refine wpAny_bind ?_;unfold Builtin.Dict.dictSlotNone;refine wpAny_bind (wpAny_notOrdered_dict ty ?_);show wpAny _ _ (pure (Value.ref d)) _ _ s;refine wpAny_pure ?_;show wpAny _ _ (Builtin.Dict.showsAll d >>= _) _ _ s;unfold Builtin.Dict.showsAll;rw [if_neg (by rw [hd];exact Bool.false_ne_true)];refine wpAny_bind (wpAny_pure ?_);refine wpAny_bind (wpAny_dictEntries hod hdd ?_);refine wpAny_bind (wpAny_dictEpoch hod hdd ?_);refine wpAny_bind (wpAny_newObj_type (wpAny_pure ⟨_,rfl, "dict_keyiterator",_,⟨_,Heap.get?_push_size _ rfl,rfl⟩,F.slot_dict_keyiterator_next.lookup,?_⟩));simpa [rawInt] using q
theorem o8 {u : Value} {Q : Option Value -> Shared -> Prop} (hit : s.heap.IsKeyIter it d i es.size ep) (hod : s.heap.get? d = some od) (hdd : od.data = .dict es ep) (hlt : i < es.size) (hkey : es[i].key = u)
 (q:∀h',h'.IsKeyIter it d (i+1) es.size ep->Heap.SameBut it s.heap h'->Q (some u) {s with heap:=h' }):wpAny (model prog w) A (pyNext (.ref it)) Q E s:=by
 obtain ⟨o,ho,hc,hd⟩:=id hit;unfold pyNext
 refine A0 (GN (BU (name:=Str.ofString "__next__") hit.typeIs HY
  (DD HY hit.typeIs sH ?_ (nC _))))
 refine A0 (A5 ?_);refine A0 ?_;refine A0 ?_
 first | refine A0 (HL hit.typeIs (A5 ?_)) | refine A0 (KA hit.typeIs (A5 ?_))
 refine A0 (WG ho hd ?_);have hown:Builtin.Dict_items.ownsTuple "dict_keyiterator" = false:=by decide
 simp only [hown,D6,FD];show wpAny _ _ (if (Value.ref d==Value.none)=true then _ else _) _ _ s;rw [A8 (show ¬((Value.ref d==Value.none)=true) from CF)];refine A0 (A5 ?_);refine A0 (QO hod hdd ?_);rw [A8 (by simp)];refine A0 (A5 ?_);refine A0 (U5 hod hdd ?_);rw [A8 (by simp)];refine A5 ?_;simp only [show ¬((i:Int)<0) from by omega,FD,DC,IS hlt];refine A0 ?_
 first | refine A0 (HL hit.typeIs (A5 ?_)) | refine A0 (KA hit.typeIs (A5 ?_))
 refine A0 (AA1 hit.typeIs ?_);show wpAny _ _ (setField (.ref it) 1 (rawInt ((i:Int)+1)) >>= _) _ _ s;refine A0 (LJ ho hd (by simp) ?_)
 have hit':(s.heap.update it (Obj.mapFields (·.setIfInBounds 1 (rawInt ((i:Int)+1))))).IsKeyIter it d (i+1) es.size ep:=
  ⟨_,V9 _ ho (VA (HU hd _)),(gO ..).trans hc,by rw [HU hd];simp [rawInt]⟩
 refine A0 (DU ?_);refine A0 (AA1 (s:={s with heap:=s.heap.update it (Obj.mapFields (·.setIfInBounds 1 (rawInt ((i:Int)+1))))}) hit'.typeIs ?_);show wpAny _ _ (pure es[i].key) _ _ _;exact A5 (A5 ⟨_,rfl,A5 (hkey ▸ q _ hit' (GX ..))⟩)
theorem vT {Q : Option Value -> Shared -> Prop} (hh : A.handled = none) (hit : s.heap.IsKeyIter it d i es.size ep) (hod : s.heap.get? d = some od) (hdd : od.data = .dict es ep) (hge : es.size <= i)
 (q:∀h',Heap.ExtBut it s.heap h'->Q none {s with heap:=h' }):wpAny (model prog w) A (pyNext (.ref it)) Q E s:=by
 obtain ⟨o,ho,hc,hd⟩:=id hit;unfold pyNext
 refine A0 (GN (BU (name:=Str.ofString "__next__") hit.typeIs HY
  (DD HY hit.typeIs sH ?_ (nC _))))
 refine A0 (A5 ?_);refine A0 ?_;refine A0 ?_
 first | refine A0 (HL hit.typeIs (A5 ?_)) | refine A0 (KA hit.typeIs (A5 ?_))
 refine A0 (WG ho hd ?_);have hown:Builtin.Dict_items.ownsTuple "dict_keyiterator" = false:=by decide
 simp only [hown,D6,FD];show wpAny _ _ (if (Value.ref d==Value.none)=true then _ else _) _ _ s;rw [A8 (show ¬((Value.ref d==Value.none)=true) from CF)];refine A0 (A5 ?_);refine A0 (QO hod hdd ?_);rw [A8 (by simp)];refine A0 (A5 ?_);refine A0 (U5 hod hdd ?_);rw [A8 (by simp)];refine A5 ?_;simp only [show ¬((i:Int)<0) from by omega,FD,DC,uH hge];refine A0 ?_
 first | refine A0 (HL hit.typeIs (A5 ?_)) | refine A0 (KA hit.typeIs (A5 ?_))
 show wpAny _ _ (setField (.ref it) 0 .none >>= _) _ _ s;refine A0 (LJ ho hd (by simp) ?_);show wpAny _ _ (newExc (.type "StopIteration") [] >>= _) _ _ _;refine A0 ?_;simp only [newExc,newTuple];refine A0 (CN ?_ (by size_fits));refine A0 (m:=firstArgMember _ _) (QL (a:=Value.none) (by first | rfl | (simp only [firstArgMember];rfl)) ?_);refine CN ?_ (by size_fits);simp only [raiseNew];refine A0 (A62 ?_);rw [show A.in1.handled=none from hh];refine A0 (A5 (AA7 ?_));refine A0 (MQ (T:= "StopIteration") (b:=true) ⟨_,AG _ rfl,rfl⟩ WF ?_);exact A5 (q _ (((GX ..).extBut.push _).push _))
theorem RD (hh : A.handled = none) (I d : Addr) (hne : d ≠ I) (od : Obj) (es : Array DictEntry) (ep : Nat) (hdd : od.data = .dict es ep) :
 Walks prog w A I [I,d] [I] es.size (fun i v=>∃hi:i<es.size,es[i].key=v) (fun i h=>h.IsKeyIter I d i es.size ep/\h.get? d=some od) where
 sub:=fun b hb=>by simp at hb;simp [hb]
 frame:=fun _ _ _ st hk=>⟨st.1.at fun o e=>hk I (by simp) o e,hk d (by simp) _ st.2⟩
 item:=fun i s Q E hi st hQ=>by
  refine o8 st.1 st.2 hdd hi rfl fun h' hit' hs' => ?_;exact hQ es[i].key h' s.toks ⟨hi,rfl⟩ ⟨hit',hs'.extBut d _ hne st.2⟩ fun b o hb e=>hs'.extBut b o (fun h=>hb (by simp [h])) e
 done:=fun s Q E st hQ=>vT hh st.1 st.2 hdd (A9 _) fun h' he'=>hQ h' s.toks fun b o hb e=>he' b o (fun h=>hb (by simp [h])) e
 self:=fun _ _ _ _ st hQ=>wpAny_pyIter_keyiter st.1 hQ
end
section
variable {X:Cx}
def kT(H:Hp)(t:List (List Key×V))(bs:List Addr):Prop:=bs.length=t.length/\∀(i:Nat) b p,bs[i]? = some b->t[i]? = some p->H b=some (.tup (p.1.map kV))
theorem bN{H:Hp}:∀ {t:List (List Key×V)} {ps:List (List Key×Addr×Value)},KT H t ps->kT H t (ps.map fun q=>q.2.1):=by
 intro t ps kt
 induction kt with
 | nil=>exact ⟨rfl,fun i b p h=>by simp at h⟩
 | cons h _ ih=>
  refine ⟨by rw [B1,B4,B4,ih.1],fun i b p h1 h2=> ?_⟩
  cases i with
  | zero=>
   simp at h1 h2
   subst h1 h2
   exact h.2.1
  | succ i=>exact ih.2 i b p (by simpa using h1) (by simpa using h2)
end
end Tf
namespace Dm
open PySem PySem.Spec PyProof.Rows L2 Tf
section
variable {K:PySem.W.Frag}
def VW(H0 H:Hp)(bs:List Addr):Hp:=fun b=>if b ∈ bs then H b else H0 b
theorem jH{H0 H:Hp}{bs:List Addr}(s:Same H0 H)(h:∀b ∈ bs,∃vs,H b=some (.tup vs)):Ext H0 H (VW H0 H bs) H:=by
 refine ⟨Same.refl _,fun b u e=> ?_,fun b u e=> ?_,fun b o hb m h0=> ?_⟩
 . unfold VW
   split
   . exact s b u e
   . exact e
 . unfold VW at e
   split at e
   . exact e
   . exact s b u e
 . unfold VW
   split
   . rename_i hm;obtain ⟨vs,hv⟩:=h b hm;rw [hb] at hv
     cases hv
     exact m.elim
   . exact h0
theorem S1{H:Hp}:∀k:List Key,Reps K H (k.map kV) (k.map keyD)
 | []=> .nil
 | .inl i::k=> .cons (.int i) (S1 k)
 | .inr x::k=> .cons (.str x) (S1 k)
end
end Dm
namespace Dm
open PySem PySem.Spec PyProof.Rows L2 Tf
section
variable {X:Cx} {a:Expr} {ta:TE} {p1 p2 pos pos2:Pos}
end
def aP:Sl->Option Int
 | .val (.int n)=>some n
 | _=>none
theorem ZV{s:Sl}{n:Int}(h:aP s=some n):s = .val (.int n):=by
 unfold aP at h
 split at h
 . cases h;rfl
 . cases h
section
variable {K:PySem.W.Frag} {R:Rl} [RelOk K R]
end
section
variable {X:Cx} {R:Rl} [RelOk X.K R] {a:Expr} {p1 p2 pos pos2:Pos} {fa:En->Option Sl}
end
end Dm
namespace Dm
open PySem PySem.Spec PyProof.Rows L2 Tf
section
variable {X:Cx} {e:Expr} {te:TE}
end
section
variable {K:PySem.W.Frag} {R:Rl} [RelOk K R]
end
section
variable {X:Cx} {R:Rl} [RelOk X.K R] {e:Expr} {f:En->Option Sl}
end
end Dm
namespace Tf
open PySem PySem.Spec PyProof.Rows L2
theorem QD:fillsNumberSlot (.type "tuple") "mul" = pure false:=
 PySem.fillsNumberSlot_seq (id:= "tuple.__mul__") (r:=some (.builtin "tuple.__rmul__")) PySem.F.slot_tuple_mul.lookup (by decide +kernel) PySem.F.slot_tuple_rmul.lookup (by decide +kernel)
theorem VY:seqRepeat? (.type "tuple")=pure (some (.builtin "tuple.__mul__")):=by
 unfold seqRepeat?;rw [PySem.seqSlot_of (T:= "tuple") (name:= "__mul__") (id:= "tuple.__mul__") PySem.F.slot_tuple_mul.lookup (by decide +kernel),PySem.seqSlot_of (T:= "tuple") (name:= "__rmul__") (id:= "tuple.__rmul__") PySem.F.slot_tuple_rmul.lookup (by decide +kernel)];rfl
theorem i6 (a : Int) (t : Tok) (l : Addr) (items : Array Value) (n : Nat) (dd : Option Addr) (sl : Array (Option Value)) :
 Meets (Builtin.«int.__rmul__» ⟨[.int a t, .ref l], []⟩) (fun _ R s => s.heap.get? l = some { cls := .type "tuple", dict := dd, data := .seq items n, slots := sl } /\ R (.ok (.ret Value.notImplemented)) s) :=
 .of_wp fun prog w A R s h=>by obtain ⟨hp,g,d,tk,os⟩:=s;obtain ⟨hl,h⟩:=h;wp_walk;exact ⟨_,rfl,h⟩
theorem j6 (l : Addr) (items : Array Value) (n : Nat) (dd : Option Addr) (sl : Array (Option Value)) (u : Tok) :
 Meets (Builtin.«tuple.__mul__» ⟨[.ref l, .int 1 u], []⟩) (fun _ R s => s.heap.get? l = some { cls := .type "tuple", dict := dd, data := .seq items n, slots := sl } /\ R (.ok (.ret (Value.ref l))) { s with heap := s.heap, toks := s.toks }) :=
 .of_wp fun prog w A R s h=>by
  obtain ⟨hp,g,d,tk,os⟩:=s;obtain ⟨hl,h⟩:=h;have f1:=AutoSeq1.idx_int
  wp_walk using uI hl
  exact ⟨_,rfl,h⟩
theorem mG (l : Addr) (items : Array Value) (n : Nat) (dd : Option Addr) (sl : Array (Option Value)) (k : Int) (u : Tok) (h0 : ¬ (decide (k < -(2 ^ 63)) || decide (k ≥ 2 ^ 63)) = true) (h1 : ¬ (items.isEmpty || k == 1) = true) (h2 : ¬ (decide (k <= 0) || items.isEmpty) = true) (h3 : ¬ ((items.size : Int) * k > (2 ^ 63 - 1) / 8)) (h4 : ¬ Builtin.Tuple.tupleTooMany ((items.size : Int) * k) = true) (h5 : ¬ (List.foldl (fun x1 x2 => x1 ++ x2) #[] (List.replicate k.toNat items)).size > sizeLine) :
 Meets (Builtin.«tuple.__mul__» ⟨[.ref l, .int k u], []⟩) (fun _ R s => s.heap.get? l = some { cls := .type "tuple", dict := dd, data := .seq items n, slots := sl } /\ R (.ok (.ret (Value.ref s.heap.objs.size))) { s with heap := s.heap.push { cls := Value.type "tuple", data := Data.seq (List.foldl (fun x1 x2 => x1 ++ x2) #[] (List.replicate k.toNat items)) }, toks := s.toks }) :=
 .of_wp fun prog w A R s h=>by
  obtain ⟨hp,g,d,tk,os⟩:=s;obtain ⟨hl,h⟩:=h;have f1:=AutoSeq1.idx_int
  wp_walk using uI hl
  rw [A8 h0];refine A0 (wpAny_tupleItemsOf hl rfl ?_)
  dsimp only
  rw [A8 h1,A8 h2,A8 h3,A8 h4]
  wp_walk using uI hl
  exact ⟨_,rfl,h⟩
theorem V3{α:Type}(xs:List α):∀(k:Nat) (acc:Array α),List.foldl (fun x1 x2=>x1++x2) acc (List.replicate k xs.toArray)=(acc.toList++(List.replicate k xs).flatten).toArray
 | 0,acc=>by simp
 | k+1,acc=>by
  rw [BV,QK,V3 xs k,BV,EF];simp
theorem YI{α:Type}(xs:List α)(k:Nat):(List.replicate k xs).flatten.length=xs.length*k:=by
 rw [bS,K5]
section
variable {prog:Program} {w:World} {A:Around} {E:Value->Shared->Prop} {s:Shared}
theorem oA {t : Addr} {vs : List Value} {k : Nat} {u : Tok} {Q : Value -> Shared -> Prop} (ht : IsTup s.heap t vs.toArray) (hv : vs ≠ []) (hk : 1 <= k) (hk2 : k <= 1000) (hz : vs.length * k <= 100000)
 (h1:k=1->Q (.ref t) s) (h2:k≠1->Q (.ref s.heap.objs.size) {s with heap:=s.heap.push {cls:= .type "tuple",data:= .seq (List.replicate k vs).flatten.toArray} }):wpAny (model prog w) A (binaryOp .Mult (.ref t) (.int (k:Int) u)) Q E s:=by
 obtain ⟨⟨cls,dd,data,sl⟩,ho,hc,n,hd⟩:=id ht;simp only at hc hd
 subst hc hd;have hsl:100000<=sizeLine:=by decide
 refine A54 (T:= "tuple") (U:= "int") (by decide) ⟨_,ho,rfl⟩ (fun s'=>cZ s' k u) QD F.fills_int_mul U4 VY F.slot_int_index.lookup
  (MP U4 (cZ s k u) F.entry_int_rmul (F.args_int_rmul_2 _ _) (i6 k u t vs.toArray n dd sl) ⟨ho,rfl,⟨_,ho,rfl⟩,?_⟩)
 by_cases h:k=1
 . subst h;exact MP F.slot_tuple_mul ⟨_,ho,rfl⟩ F.entry_tuple_mul (F.args_tuple_mul_2 _ _) (j6 t vs.toArray n dd sl u) ⟨ho,h1 rfl⟩
 . have he : vs.toArray.isEmpty = false := by
    cases vs with
    | nil=>exact absurd rfl hv
    | cons a r=>rfl
   have ef:List.foldl (fun x1 x2=>x1++x2) #[] (List.replicate ((k:Int).toNat) vs.toArray)=(List.replicate k vs).flatten.toArray:=by
    rw [DC,V3];simp
   have hm:(vs.toArray.size:Int)*(k:Int)<=100000:=by
    rw [AR, <-FZ];omega
   refine MP F.slot_tuple_mul ⟨_,ho,rfl⟩ F.entry_tuple_mul (F.args_tuple_mul_2 _ _) (mG t vs.toArray n dd sl k u ?_ ?_ ?_ ?_ ?_ ?_) ⟨ho,?_⟩
   . simp only [Bool.or_eq_true,K7];omega
   . rw [he];simp only [Bool.false_or,L6];omega
   . rw [he];simp only [Bool.or_false,K7];omega
   . omega
   . unfold Builtin.Tuple.tupleTooMany;simp only [decide_eq_true_eq];omega
   . rw [ef,AR,YI];omega
   . rw [ef];exact h2 h
end
variable {X:Cx}
def u6(K:PySem.W.Frag):R2:=fun x y H Q=>∃(l:Addr) (k:Nat) (xs:List V),x = .ref l/\y = .int (k:Int)/\SqT K H l xs/\xs ≠ []/\1<=k/\k<=1000/\xs.length*k<=1000/\(k=1->Q (.ref l) H)/\(k≠1->∀p,H p=none->Q (.ref p) (upd H p (.tup (List.replicate k xs).flatten)))
theorem pE:OpR X (binaryOp .Mult) (u6 X.K):=by
 intro pins s σ H x y v u Q I rx ry h;obtain ⟨l,k,xs,rfl,rfl,hH,hx,k1,k2,hz,q1,q2⟩:=h
 cases rx
 obtain ⟨t,rfl⟩:=ry;obtain ⟨its,r,p1,_⟩:=I.tuple hH;have hl:=r.length;have hsl:100000<=sizeLine:=by decide
 refine oA p1 (fun e=>hx (by subst e;exact (r.nil_iff).mp rfl)) k1 k2 (by rw [<-hl];omega) (fun h=>⟨.ref l,H,I,rfl,q1 h⟩) fun h=> ?_;exact ⟨.ref _,_,I.laid (a:=s.heap.objs.size) (o:= .tup (List.replicate k xs).flatten) (t':=s.toks) (fun _ _ q=>A1 _ q) (A9 _) ⟨by rw [YI];omega,_,r.rep k,⟨_,AG _ rfl,rfl,0,rfl⟩⟩,rfl,q2 h _ I.fresh⟩
end Tf
namespace Dm
open PySem PySem.Spec PyProof.Rows L2 Tf
def dRepT(a b:Sl):Option Sl:=match a.dat,b.dat with
 | .tuple xs, .int k=>if xs ≠ []/\1<=k/\k<=1000/\xs.length*k.toNat<=1000 then some (.val (.tuple (List.replicate k.toNat xs).flatten)) else none
 | _,_=>none
theorem iT{K:PySem.W.Frag}:OpD K (u6 K) dRepT:=fun H0 H x y sx sy z s px py hz Q q=>by
 unfold dRepT at hz
 split at hz
 . rename_i xs k e1 e2
   split at hz
   . rename_i hl;obtain ⟨h0,h1,h2,h3⟩:=hl
     cases hz
     obtain ⟨a,vs,rfl,g1,g2⟩:=px.tup e1
     cases py.atom e2 (fun _ h=>nomatch h)
     obtain ⟨n,rfl⟩:∃n:Nat,k=(n:Int):=⟨k.toNat,by omega⟩;rw [DC] at h3 q
     refine ⟨a,n,vs,rfl,rfl,s.seqT (SqT.of g1),fun e=>h0 (by subst e;cases g2;rfl),by omega,by omega,by rw [g2.length];exact h3,fun e=> ?_,fun e p hp=> ?_⟩
     . subst e;refine q _ _ _ (Ext.refl s) ?_;have er:(List.replicate 1 xs).flatten=xs:=by simp
       rw [er];exact .tuple g1 g2
     . exact q _ _ _ (Ext.allocF s hp _) (.tuple BT (Reps.same (Same.upd (s.free hp) _) (Reps.rep g2 n)))
   . cases hz
 . cases hz
section
variable {X:Cx} {R:Rl} [RelOk X.K R] {a b:Expr} {fa fb:En->Option Sl} {pos:Pos}
theorem oM(ha:DP X R a fa)(hb:DP X R b fb):DE X R (.BinOp a .Mult b pos) (mBin dRepT fa fb):=V4 pE iT ha hb
end
end Dm
namespace Dm
open PySem PySem.Spec PyProof.Rows L2 Tf
mutual
def noL:PyData->Bool
 | .list _=>false
 | .dict _=>false
 | .tuple ds=>pR ds
 | _=>true
def pR:List PyData->Bool
 | []=>true
 | d::ds=>noL d && pR ds
end
section
variable {K:PySem.W.Frag}
mutual
theorem Rep.dropL{H H':Hp}(e:∀a xs,H a=some (.tup xs)->H' a=some (.tup xs)):∀ {v:V} {d:PyData},Rep K H v d->noL d=true->Rep K H' v d
 | _,_, .none,_=> .none
 | _,_, .bool b,_=> .bool b
 | _,_, .int i,_=> .int i
 | _,_, .str x,_=> .str x
 | _,_, .list _ _,n=>by simp [noL] at n
 | _,_, .tuple h hs,n=> .tuple (e _ _ h) (Reps.dropL e hs (by simpa [noL] using n))
 | _,_, .dict _ _ _,n=>by simp [noL] at n
 | _,_, .dictF _ _ _,n=>by simp [noL] at n
theorem Reps.dropL{H H':Hp}(e:∀a xs,H a=some (.tup xs)->H' a=some (.tup xs)):∀ {vs:List V} {ds:List PyData},Reps K H vs ds->pR ds=true->Reps K H' vs ds
 | _,_, .nil,_=> .nil
 | _,_, .cons h hs,n=>by
  have n:=zL.mp (show (_ && _)=true by rw [<-pR];exact n);exact .cons (Rep.dropL e h n.1) (Reps.dropL e hs n.2)
end
end
section
variable {X:Cx} {e:Expr} {f:En->Option Sl}
end
end Dm
namespace Ts
open PySem PyProof.Rows
def gal:Bool->Keyed->Array Keyed->Nat->Nat->Nat->StateT SortSt Sem (Option Nat):=sortPriv% PySem.Builtin.gallop
def mLo:Array Keyed->Array Keyed->StateT SortSt Sem (Array Keyed):=sortPriv% PySem.Builtin.mergeLo
def mHi:Array Keyed->Array Keyed->StateT SortSt Sem (Array Keyed):=sortPriv% PySem.Builtin.mergeHi
def PP(prog:Program)(w:World)(A:Around)(E:Value->Shared->Prop)(s:Shared)(kd:SortKind)(D:Keyed->Prop)(κ:Keyed->Int):Prop:=∀(x y:Keyed) (st:SortSt) (Q:Option Bool->SortSt->Prop),kindOf st=kd->D x->D y->Q (some (decide (κ x<κ y))) st->wpS (model prog w) A E s (lt' x y) Q st
def bey(κ:Keyed->Int)(left:Bool)(key x:Keyed):Bool:=if left then decide (κ x<κ key) else !(decide (κ key<κ x))
section
variable {prog:Program} {w:World} {A:Around} {E:Value->Shared->Prop} {s:Shared} {kd:SortKind} {D:Keyed->Prop} {κ:Keyed->Int}
theorem BB{arr:Array Keyed}{i:Nat}{p:Keyed}{Q:Keyed->SortSt->Prop}{st:SortSt}(h:arr[i]? = some p)(q:Q p st):wpS (model prog w) A E s (elem' arr i) Q st:=by
 rw [elem'_eq,h];exact A7 q
theorem PB (H : PP prog w A E s kd D κ) {left : Bool} {key x : Keyed} {arr : Array Keyed} {i : Nat} {st : SortSt} {Q : Option Bool -> SortSt -> Prop} (hk : kindOf st = kd) (hx : arr[i]? = some x) (dx : D x) (dk : D key) (q : Q (some (bey κ left key x)) st) : wpS (model prog w) A E s (do
 let x <-elem' arr i
 if left=true then lt' x key else do
  let r <-lt' key x
  pure (r.map fun b=> !b)) Q st:=by
 refine wpS_bind (BB hx ?_);unfold bey at q
 cases left
 . simp only [D6,FD] at q ⊢
   exact A6 (H _ _ _ _ hk dk dx (A7 q))
 . simp only [GD] at q ⊢
   exact H _ _ _ _ hk dx dk q
theorem qG (H : PP prog w A E s kd D κ) {left : Bool} {key : Keyed} {arr : Array Keyed} {base n hint : Nat} {st : SortSt} {Q : Option Nat -> SortSt -> Prop} {b : Nat -> Bool} (hk : kindOf st = kd) (dk : D key) (hh : hint < n)
 (hb:∀i,i<n->∃x,arr[base+i]? = some x/\D x/\bey κ left key x=b i) (mono:∀i j,i<=j->j<n->b j=true->b i=true)
 (q:∀k,k<=n->(∀i,i<k->b i=true)->(∀i,k<=i->i<n->b i=false)->Q (some k) st):wpS (model prog w) A E s (gal left key arr base n hint) Q st:=by
 have monf:∀i j,i<=j->j<n->b i=false->b j=false:=fun i j hij hj h=>by
  cases e:b j
  . rfl
  . rw [mono i j hij hj e] at h;exact h
 refine A6 ?_;obtain ⟨x0,hx0,dx0,e0⟩:=hb hint hh;refine PB H hk hx0 dx0 dk ?_;rw [e0]
 cases hr:b hint
 . dsimp only
   rw [A8 (by simp)]
   refine A6 (EN (CZ (I:=fun x c st'=>st'=st/\∃lo of,c=(none,lo,of)/\lo<of/\x+1<=of/\lo<=hint/\b (hint - lo)=false)
    (Q:=fun c st'=>st'=st/\∃lo of,c=(none,lo,of)/\lo<of/\lo<=hint/\b (hint - lo)=false/\(hint+1<=of\/(of<=hint/\b (hint - of)=true))) ?s1 ?f1 ?i1) ?p1)
   case i1=>exact ⟨rfl,0,1,rfl,by omega,by omega,by omega,hr⟩
   case f1=>
    rintro c st' ⟨rfl,lo,of,rfl,h1,h2,h3,h4⟩;exact ⟨rfl,lo,of,rfl,h1,h3,h4, .inl (by omega)⟩
   case s1=>
    rintro i c st' _ hi ⟨rfl,lo,of,rfl,h1,h2,h3,h4⟩
    dsimp only
    by_cases hge:of≥hint+1
    . rw [AB hge];exact A7 ⟨rfl,lo,of,rfl,h1,h3,h4, .inl hge⟩
    . rw [A8 hge];obtain ⟨x1,hx1,dx1,e1⟩:=hb (hint - of) (by omega);refine A6 (PB H hk hx1 dx1 dk ?_);rw [e1]
      cases hm:b (hint - of)
      . dsimp only
        rw [A8 (by simp)];exact A7 ⟨rfl,of,2*of+1,rfl,by omega,by omega,by omega,hm⟩
      . dsimp only
        rw [AB rfl];exact A7 ⟨rfl,lo,of,rfl,h1,h3,h4, .inr ⟨by omega,hm⟩⟩
   case p1=>
    rintro c st' ⟨rfl,lo,of,rfl,h1,h3,h4,h5⟩
    dsimp only
    refine A6 (EN (CZ (I:=fun x c st2=>st2=st'/\∃l h,c=(none,l,h)/\l<=h/\h<=n/\h - l<=n - x/\(∀i,i<l->b i=true)/\(∀i,h<=i->i<n->b i=false))
     (Q:=fun c st2=>st2=st'/\∃l,c=(none,l,l)/\l<=n/\(∀i,i<l->b i=true)/\(∀i,l<=i->i<n->b i=false)) ?s2 ?f2 ?i2) ?p2)
    case i2=>
     refine ⟨rfl,_,_,rfl,by omega,by omega,by omega,fun i hi=> ?_,fun i h6 h7=>monf _ i h6 h7 h4⟩;rcases h5 with h5 | ⟨h5,h6⟩
     . omega
     . exact mono i (hint - of) (by omega) (by omega) h6
    case f2=>
     rintro c st' ⟨rfl,l,h,rfl,g1,g2,g3,g4,g5⟩;have:l=h:=by omega
     subst this;exact ⟨rfl,l,rfl,g2,g4,g5⟩
    case s2=>
     rintro i c st' _ hi ⟨rfl,l,h,rfl,g1,g2,g3,g4,g5⟩
     dsimp only
     by_cases hge:l≥h
     . rw [AB hge];have:l=h:=by omega
       subst this;exact A7 ⟨rfl,l,rfl,g2,g4,g5⟩
     . rw [A8 hge];obtain ⟨x1,hx1,dx1,e1⟩:=hb (l+(h - l) / 2) (by omega);refine A6 (PB H hk hx1 dx1 dk ?_);rw [e1]
       cases hm:b (l+(h - l) / 2)
       . dsimp only
         rw [A8 (by simp)];exact A7 ⟨rfl,l,_,rfl,by omega,by omega,by omega,g4,fun i h6 h7=>monf _ i h6 h7 hm⟩
       . dsimp only
         rw [AB rfl];exact A7 ⟨rfl,_,h,rfl,by omega,by omega,by omega,fun i h6=>mono i _ (by omega) (by omega) hm,g5⟩
    case p2=>
     rintro c st' ⟨rfl,l,rfl,g2,g4,g5⟩;exact A7 (q l g2 g4 g5)
 . dsimp only
   rw [AB rfl]
   refine A6 (EN (CZ (I:=fun x c st'=>st'=st/\∃lo of,c=(none,lo,of)/\lo<of/\x+1<=of/\hint+lo<n/\b (hint+lo)=true)
    (Q:=fun c st'=>st'=st/\∃lo of,c=(none,lo,of)/\lo<of/\hint+lo<n/\b (hint+lo)=true/\(n - hint<=of\/(hint+of<n/\b (hint+of)=false))) ?s1 ?f1 ?i1) ?p1)
   case i1=>exact ⟨rfl,0,1,rfl,by omega,by omega,by omega,hr⟩
   case f1=>
    rintro c st' ⟨rfl,lo,of,rfl,h1,h2,h3,h4⟩;exact ⟨rfl,lo,of,rfl,h1,h3,h4, .inl (by omega)⟩
   case s1=>
    rintro i c st' _ hi ⟨rfl,lo,of,rfl,h1,h2,h3,h4⟩
    dsimp only
    by_cases hge:of≥n - hint
    . rw [AB hge];exact A7 ⟨rfl,lo,of,rfl,h1,h3,h4, .inl hge⟩
    . rw [A8 hge];obtain ⟨x1,hx1,dx1,e1⟩:=hb (hint+of) (by omega);refine A6 (PB H hk hx1 dx1 dk ?_);rw [e1]
      cases hm:b (hint+of)
      . dsimp only
        rw [AB (show (!false)=true from rfl)];exact A7 ⟨rfl,lo,of,rfl,h1,h3,h4, .inr ⟨by omega,hm⟩⟩
      . dsimp only
        rw [A8 (by simp)];exact A7 ⟨rfl,of,2*of+1,rfl,by omega,by omega,by omega,hm⟩
   case p1=>
    rintro c st' ⟨rfl,lo,of,rfl,h1,h3,h4,h5⟩
    dsimp only
    refine A6 (EN (CZ (I:=fun x c st2=>st2=st'/\∃l h,c=(none,l,h)/\l<=h/\h<=n/\h - l<=n - x/\(∀i,i<l->b i=true)/\(∀i,h<=i->i<n->b i=false))
     (Q:=fun c st2=>st2=st'/\∃l,c=(none,l,l)/\l<=n/\(∀i,i<l->b i=true)/\(∀i,l<=i->i<n->b i=false)) ?s2 ?f2 ?i2) ?p2)
    case i2=>
     refine ⟨rfl,_,_,rfl,by omega,by omega,by omega,fun i hi=>mono i (hint+lo) (by omega) h3 h4,fun i h6 h7=> ?_⟩;rcases h5 with h5 | ⟨h5,h8⟩
     . omega
     . exact monf (hint+of) i (by omega) h7 h8
    case f2=>
     rintro c st' ⟨rfl,l,h,rfl,g1,g2,g3,g4,g5⟩;have:l=h:=by omega
     subst this;exact ⟨rfl,l,rfl,g2,g4,g5⟩
    case s2=>
     rintro i c st' _ hi ⟨rfl,l,h,rfl,g1,g2,g3,g4,g5⟩
     dsimp only
     by_cases hge:l≥h
     . rw [AB hge];have:l=h:=by omega
       subst this;exact A7 ⟨rfl,l,rfl,g2,g4,g5⟩
     . rw [A8 hge];obtain ⟨x1,hx1,dx1,e1⟩:=hb (l+(h - l) / 2) (by omega);refine A6 (PB H hk hx1 dx1 dk ?_);rw [e1]
       cases hm:b (l+(h - l) / 2)
       . dsimp only
         rw [A8 (by simp)];exact A7 ⟨rfl,l,_,rfl,by omega,by omega,by omega,g4,fun i h6 h7=>monf _ i h6 h7 hm⟩
       . dsimp only
         rw [AB rfl];exact A7 ⟨rfl,_,h,rfl,by omega,by omega,by omega,fun i h6=>mono i _ (by omega) (by omega) hm,g5⟩
    case p2=>
     rintro c st' ⟨rfl,l,rfl,g2,g4,g5⟩;exact A7 (q l g2 g4 g5)
end
end Ts
namespace Ts
open PySem PyProof.Rows
def Srt(κ:Keyed->Int)(l:List Keyed):Prop:=l.Pairwise fun x y=>κ x<=κ y
structure MI (κ:Keyed->Int) (al bl ol:List Keyed) (i j:Nat):Prop where
 hi:i<=al.length
 hj:j<=bl.length
 perm:ol.Perm (al.take i++bl.take j)
 srt:Srt κ ol
 la:∀x ∈ ol,∀y ∈ al.drop i,κ x<=κ y
 lb:∀x ∈ ol,∀y ∈ bl.drop j,κ x<=κ y
section
variable {κ:Keyed->Int} {al bl ol:List Keyed} {i j k:Nat} {x:Keyed}
theorem MI.symm(h:MI κ al bl ol i j):MI κ bl al ol j i:=⟨h.hj,h.hi,h.perm.trans EW,h.srt,h.lb,h.la⟩
theorem Srt.drop(h:Srt κ al):Srt κ (al.drop i):=zE (List.drop_sublist _ _) h
theorem Srt.take(h:Srt κ al):Srt κ (al.take i):=zE (WC _ _) h
theorem Srt.head(h:Srt κ al)(hx:al[i]? = some x):∀y ∈ al.drop i,κ x<=κ y:=by
 have hi:i<al.length:=(AQ.mp hx).1;rw [DR hi];have e:=(AQ.mp hx).2;have h2:=h.drop (i:=i);rw [DR hi,e] at h2
 rw [e];intro y hy;rcases AJ.mp hy with rfl | hy
 . exact FK _
 . exact (A65.mp h2).1 y hy
theorem Srt.app(h1:Srt κ al)(h2:Srt κ bl)(h:∀x ∈ al,∀y ∈ bl,κ x<=κ y):Srt κ (al++bl):=HZ.mpr ⟨h1,h2,h⟩
theorem Srt.get(h:Srt κ al){x y:Keyed}(hij:i<=j)(hx:al[i]? = some x)(hy:al[j]? = some y):κ x<=κ y:=by
 refine h.head hx y ?_;refine EX.mpr ⟨j - i,?_⟩;rw [JJ,show i+(j - i)=j by omega];exact hy
theorem GQ(h:x ∈ (al.drop i).take k):∃t,t<k/\al[i+t]? = some x:=by
 obtain ⟨t,ht⟩:=EX.mp h;rw [JK] at ht
 split at ht
 . rename_i hlt;rw [JJ] at ht
   exact ⟨t,hlt,ht⟩
 . cases ht
theorem Z0{y:Keyed}(h:Srt κ al)(hx:x ∈ (al.drop i).take k)(hy:y ∈ al.drop (i+k)):κ x<=κ y:=by
 obtain ⟨t,ht,e⟩:=GQ hx;obtain ⟨u,hu⟩:=EX.mp hy;rw [JJ] at hu
 exact h.get (by omega) e hu
theorem MI.stepA(h:MI κ al bl ol i j)(sa:Srt κ al)(hk:i+k<=al.length)(hle:∀x ∈ (al.drop i).take k,∀y ∈ bl.drop j,κ x<=κ y):MI κ al bl (ol++(al.drop i).take k) (i+k) j:=by
 have hm:∀y,y ∈ (al.drop i).take k->y ∈ al.drop i:=fun y hy=>C9 hy;refine ⟨hk,h.hj,?_,h.srt.app sa.drop.take fun x hx y hy=>h.la x hx y (hm y hy),?_,?_⟩
 . rw [List.take_add];refine (h.perm.append_right _).trans ?_;rw [BP,BP];exact EW.append_left _
 . intro x hx y hy;rcases AW.mp hx with hx | hx
   . refine h.la x hx y ?_;rw [<-RR] at hy
     exact zN hy
   . exact Z0 sa hx hy
 . intro x hx y hy;rcases AW.mp hx with hx | hx
   . exact h.lb x hx y hy
   . exact hle x hx y hy
theorem MI.fin(h:MI κ al bl ol i j){t:List Keyed}(ht:t.Perm (al.drop i++bl.drop j))(st:Srt κ t):(ol++t).Perm (al++bl)/\Srt κ (ol++t):=by
 constructor
 . refine (h.perm.append ht).trans ?_;have e1:(al++bl)=(al.take i++al.drop i)++(bl.take j++bl.drop j):=by rw [DZ,DZ]
   rw [e1,BP,BP];refine zF _ ?_;rw [<-BP, <-BP];exact EW.append_right _
 . refine h.srt.app st fun x hx y hy=> ?_;rcases AW.mp (ht.mem_iff.mp hy) with hy | hy
   . exact h.la x hx y hy
   . exact h.lb x hx y hy
theorem NH(hx:al[i]? = some x):(al.drop i).take 1 = [x]:=by
 have hi:i<al.length:=(AQ.mp hx).1;rw [DR hi,(AQ.mp hx).2];rfl
theorem MI.one(h:MI κ al bl ol i j)(sa:Srt κ al)(hx:al[i]? = some x)(hle:∀y ∈ bl.drop j,κ x<=κ y):MI κ al bl (ol ++ [x]) (i+1) j:=by
 have hi:i<al.length:=(AQ.mp hx).1;have:=h.stepA sa (k:=1) hi (by rw [NH hx];intro y hy;rw [A4.mp hy];exact hle)
 rwa [NH hx] at this
end
def Mia(κ:Keyed->Int)(a b out:Array Keyed)(i j:Nat):Prop:=MI κ a.toList b.toList out.toList i j
def Mr(κ:Keyed->Int)(a b r:Array Keyed):Prop:=r.toList.Perm (a.toList++b.toList)/\Srt κ r.toList
section
variable {κ:Keyed->Int} {a b out:Array Keyed} {i j k:Nat} {x:Keyed}
theorem Mia.pushA(h:Mia κ a b out i j)(sa:Srt κ a.toList)(hx:a[i]? = some x)(hle:∀y ∈ b.toList.drop j,κ x<=κ y):Mia κ a b (out.push x) (i+1) j:=by
 unfold Mia at h ⊢
 rw [NR];exact h.one sa (by rw [AI];exact hx) hle
theorem Mia.pushB(h:Mia κ a b out i j)(sb:Srt κ b.toList)(hx:b[j]? = some x)(hle:∀y ∈ a.toList.drop i,κ x<=κ y):Mia κ a b (out.push x) i (j+1):=by
 unfold Mia at h ⊢
 rw [NR];exact (h.symm.one sb (by rw [AI];exact hx) hle).symm
theorem EY{lo hi:Nat}:(a.extract lo hi).toList=(a.toList.drop lo).take (hi - lo):=by
 rw [Array.toList_extract,List.extract_eq_drop_take]
theorem RL{lo:Nat}:(a.extract lo a.size).toList=a.toList.drop lo:=by
 rw [EY,B6];simp
theorem Mia.chunkA(h:Mia κ a b out i j)(sa:Srt κ a.toList)(hk:i+k<=a.size)(hle:∀t,t<k->∀x,a[i+t]? = some x->∀y ∈ b.toList.drop j,κ x<=κ y):Mia κ a b (out++a.extract i (i+k)) (i+k) j:=by
 unfold Mia at h ⊢
 rw [GF,EY,show i+k - i=k by omega];refine h.stepA sa (by simpa using hk) fun x hx y hy=> ?_;obtain ⟨t,ht,e⟩:=GQ hx;exact hle t ht x (by rw [<-AI];exact e) y hy
theorem Mia.chunkB(h:Mia κ a b out i j)(sb:Srt κ b.toList)(hk:j+k<=b.size)(hle:∀t,t<k->∀x,b[j+t]? = some x->∀y ∈ a.toList.drop i,κ x<=κ y):Mia κ a b (out++b.extract j (j+k)) i (j+k):=by
 unfold Mia at h ⊢
 rw [GF,EY,show j+k - j=k by omega];refine (h.symm.stepA sb (by simpa using hk) fun x hx y hy=> ?_).symm;obtain ⟨t,ht,e⟩:=GQ hx;exact hle t ht x (by rw [<-AI];exact e) y hy
theorem Mia.done(h:Mia κ a b out i j)(sa:Srt κ a.toList)(sb:Srt κ b.toList)(he:i=a.size\/j=b.size):Mr κ a b (out++a.extract i a.size++b.extract j b.size):=by
 unfold Mia at h
 unfold Mr;rw [Array.toList_append,Array.toList_append,RL,RL,List.append_assoc];refine h.fin (List.Perm.refl _) ?_;rcases he with he | he
 . rw [EG (by simp [he]),LY];exact sb.drop
 . rw [EG (i:=j) (by simp [he]),E4];exact sa.drop
theorem Mia.last(h:Mia κ a b out i j)(sb:Srt κ b.toList)(he:i+1=a.size)(hl:∀x,a[a.size - 1]? = some x->∀y ∈ b.toList,κ y<=κ x):Mr κ a b (out++b.extract j b.size++a.extract i a.size):=by
 unfold Mia at h
 unfold Mr;rw [Array.toList_append,Array.toList_append,RL,RL,List.append_assoc];have hi:i<a.toList.length:=by simp;omega
 have e:a.toList.drop i = [a.toList[i]]:=by rw [DR hi,EG (by simp;omega)]
 refine h.fin EW ?_;refine sb.drop.app ?_ ?_
 . rw [e];exact E8 _ _
 . rw [e];intro y hy z hz;rw [A4.mp hz];refine hl _ ?_ y (zN hy);rw [show a.size - 1=i by omega];simp
end
end Ts
namespace Ts
open PySem PyProof.Rows
def Sm(st st':SortSt):Prop:=kindOf st'=kindOf st/\arrOf st'=arrOf st/\pendingOf st'=pendingOf st/\failedOf st'=failedOf st
section
variable {prog:Program} {w:World} {A:Around} {E:Value->Shared->Prop} {s:Shared} {kd:SortKind} {D:Keyed->Prop} {κ:Keyed->Int}
theorem QE{key x:Keyed}:bey κ false key x=decide (κ x<=κ key):=by
 unfold bey;simp only [Bool.false_eq_true,if_false]
 by_cases h:κ key<κ x
 . rw [AS h,AV (by omega)];rfl
 . rw [AV h,AS (by omega)];rfl
theorem SK{key x:Keyed}:bey κ true key x=decide (κ x<κ key):=rfl
def atB(f:Keyed->Bool)(arr:Array Keyed)(i:Nat):Bool:=match arr[i]? with | some x=>f x | none=>false
theorem N5{f:Keyed->Bool}{arr:Array Keyed}{i:Nat}{x:Keyed}(h:arr[i]? = some x):atB f arr i=f x:=by unfold atB;rw [h]
theorem cM (H : PP prog w A E s kd D κ) {left : Bool} {key : Keyed} {arr : Array Keyed} {base n hint : Nat} {st : SortSt} {Q : Option Nat -> SortSt -> Prop} (hk : kindOf st = kd) (dk : D key) (hh : hint < n) (hn : base + n <= arr.size)
 (da:∀(i:Nat) x,arr[i]? = some x->D x) (sa:∀(i j:Nat) x y,base<=i->i<=j->j<base+n->arr[i]? = some x->arr[j]? = some y->κ x<=κ y)
 (q:∀k,k<=n->(∀t,t<k->∀x,arr[base+t]? = some x->bey κ left key x=true)->(∀t,k<=t->t<n->∀x,arr[base+t]? = some x->bey κ left key x=false)->Q (some k) st):wpS (model prog w) A E s (gal left key arr base n hint) Q st:=by
 refine qG H (b:=fun i=>atB (bey κ left key) arr (base+i)) hk dk hh (fun i hi=> ?_) (fun i j hij hj hb=> ?_) fun k h1 h2 h3=>q k h1 (fun t ht x hx=> ?_) fun t h4 h5 x hx=> ?_
 . have h1:arr[base+i]? = some arr[base+i]:=BS arr (base+i) (by omega);exact ⟨_,h1,da _ _ h1,(N5 h1).symm⟩
 . have h1:arr[base+i]? = some arr[base+i]:=BS arr (base+i) (by omega);have h2:arr[base+j]? = some arr[base+j]:=BS arr (base+j) (by omega);have h3:=sa _ _ _ _ (by omega) (by omega) (by omega) h1 h2;rw [N5 h2] at hb
   rw [N5 h1]
   cases left
   . rw [QE] at hb ⊢
     have:=AT hb;exact AS (by omega)
   . rw [SK] at hb ⊢
     have:=AT hb;exact AS (by omega)
 . have:=h2 t ht;rwa [N5 hx] at this
 . have:=h3 t h4 h5;rwa [N5 hx] at this
theorem LO (H : PP prog w A E s kd D κ) {key : Keyed} {arr : Array Keyed} {base n hint : Nat} {st : SortSt} {Q : Option Nat -> SortSt -> Prop} (hk : kindOf st = kd) (dk : D key) (hh : hint < n) (hn : base + n <= arr.size)
 (da:∀(i:Nat) x,arr[i]? = some x->D x) (sa:∀(i j:Nat) x y,base<=i->i<=j->j<base+n->arr[i]? = some x->arr[j]? = some y->κ x<=κ y)
 (q:∀k,k<=n->(∀t,t<k->∀x,arr[base+t]? = some x->κ x<=κ key)->(∀t,k<=t->t<n->∀x,arr[base+t]? = some x->κ key<κ x)->Q (some k) st):wpS (model prog w) A E s (gal false key arr base n hint) Q st:=
 cM H hk dk hh hn da sa fun k h1 h2 h3=>q k h1 (fun t ht x hx=>by have:=h2 t ht x hx;rw [QE] at this;exact AT this) fun t h4 h5 x hx=>by have:=h3 t h4 h5 x hx;rw [QE] at this;have:=A66 this;omega
theorem IE (H : PP prog w A E s kd D κ) {key : Keyed} {arr : Array Keyed} {base n hint : Nat} {st : SortSt} {Q : Option Nat -> SortSt -> Prop} (hk : kindOf st = kd) (dk : D key) (hh : hint < n) (hn : base + n <= arr.size)
 (da:∀(i:Nat) x,arr[i]? = some x->D x) (sa:∀(i j:Nat) x y,base<=i->i<=j->j<base+n->arr[i]? = some x->arr[j]? = some y->κ x<=κ y)
 (q:∀k,k<=n->(∀t,t<k->∀x,arr[base+t]? = some x->κ x<κ key)->(∀t,k<=t->t<n->∀x,arr[base+t]? = some x->κ key<=κ x)->Q (some k) st):wpS (model prog w) A E s (gal true key arr base n hint) Q st:=
 cM H hk dk hh hn da sa fun k h1 h2 h3=>q k h1 (fun t ht x hx=>by have:=h2 t ht x hx;rw [SK] at this;exact AT this) fun t h4 h5 x hx=>by have:=h3 t h4 h5 x hx;rw [SK] at this;have:=A66 this;omega
theorem Mia.nil{a b:Array Keyed}:Mia κ a b #[] 0 0:=⟨CK _,CK _,by simp,G0,fun x hx=>by simp at hx,fun x hx=>by simp at hx⟩
theorem Srt.at{a:Array Keyed}(h:Srt κ a.toList){i j:Nat}{x y:Keyed}(hij:i<=j)(hx:a[i]? = some x)(hy:a[j]? = some y):κ x<=κ y:=h.get hij (by rw [AI];exact hx) (by rw [AI];exact hy)
theorem Srt.hd{a:Array Keyed}(h:Srt κ a.toList){i:Nat}{x:Keyed}(hx:a[i]? = some x):∀y ∈ a.toList.drop i,κ x<=κ y:=h.head (by rw [AI];exact hx)
theorem LW{a:Array Keyed}{i:Nat}{y:Keyed}(h:y ∈ a.toList.drop i):∃t,a[i+t]? = some y/\i+t<a.size:=by
 obtain ⟨t,ht⟩:=EX.mp h;rw [JJ,AI] at ht
 exact ⟨t,ht,(EI.mp ht).1⟩
end
end Ts
namespace Ts
open PySem PyProof.Rows
section
variable {prog:Program} {w:World} {A:Around} {E:Value->Shared->Prop} {s:Shared} {kd:SortKind} {D:Keyed->Prop} {κ:Keyed->Int}
theorem pW      (H : PP prog w A E s kd D κ) {a b : Array Keyed} {st : SortSt} {Q : Array Keyed -> SortSt -> Prop} (hk : kindOf st = kd) (da : ∀ (i : Nat) x, a[i]? = some x -> D x) (db : ∀ (i : Nat) x, b[i]? = some x -> D x) (ha : 0 < a.size) (hb : 0 < b.size) (sa : Srt κ a.toList) (sb : Srt κ b.toList)
 (hf:∀x y,a[0]? = some x->b[0]? = some y->κ y<=κ x) (hl:∀x,a[a.size - 1]? = some x->∀y ∈ b.toList,κ y<=κ x) (q:∀r st',Sm st st'->Mr κ a b r->Q r st'):wpS (model prog w) A E s (mLo a b) Q st:=by
 refine A6 (TM (KP ⟨rfl,?_⟩));obtain ⟨b0,eb0⟩:∃x,b[0]? = some x:=⟨_,BS b 0 hb⟩;obtain ⟨a0,ea0⟩:∃x,a[0]? = some x:=⟨_,BS a 0 ha⟩;refine A6 (BB eb0 ?_)
 dsimp only
 have M0:Mia κ a b #[b0] 0 1:=Mia.nil.pushB sb eb0 fun y hy=>C7 (hf _ _ ea0 eb0) (sa.hd ea0 y hy);have Srf:Sm st st:=⟨rfl,rfl,rfl,rfl⟩
 by_cases e1:1=b.size
 . rw [AB (by simpa using e1)];exact A7 (q _ _ Srf (M0.done sa sb (.inr e1)))
 rw [A8 (by simpa using e1)]
 by_cases e2:0+1=a.size
 . rw [AB (by simpa using e2)];exact A7 (q _ _ Srf (M0.last sb e2 hl))
 rw [A8 (by simpa using e2)];refine A6 (JR ?_)
 refine A6 (EN (CZ
  (I:=fun x c st'=>Sm st st'/\∃out ia ib g,c=(none,out,ia,ib,g)/\Mia κ a b out ia ib/\ia+1<a.size/\ib<b.size/\x+1<=ia+ib)
  (Q:=fun c st'=>Sm st st'/\∃r v,c=(some r,v)/\Mr κ a b r) ?s1 ?f1 ?i1) ?p1)
 case p1=>
  rintro c st' ⟨hs,r,v,rfl,hr⟩;exact A7 (q r st' hs hr)
 case i1=>exact ⟨Srf,_,_,_,_,rfl,M0,by omega,by omega,by omega⟩
 case f1=>
  rintro c st' ⟨hs,out,ia,ib,g,rfl,hM,hia,hib,hpr⟩;omega
 case s1=>
  rintro x c st1 _ hx ⟨hs,out,ia,ib,g,rfl,hM,hia,hib,hpr⟩
  dsimp only
  refine A6 (EN (CZ
   (I:=fun y c st'=>st'=st1/\∃out ia ib ac bc,c=(none,out,ia,ib,ac,bc)/\Mia κ a b out ia ib/\ia+1<a.size/\ib<b.size/\x+1+y<=ia+ib)
   (Q:=fun c st'=>st'=st1/\((∃r v,c=(some r,v)/\Mr κ a b r)\/∃out ia ib ac bc,c=(none,out,ia,ib,ac,bc)/\Mia κ a b out ia ib/\ia+1<a.size/\ib<b.size/\x+2<=ia+ib)) ?s2 ?f2 ?i2) ?p2)
  case i2=>exact ⟨rfl,_,_,_,_,_,rfl,hM,hia,hib,by omega⟩
  case f2=>
   rintro c st' ⟨rfl,out,ia,ib,ac,bc,rfl,hM,hia,hib,hpr⟩;omega
  case s2=>
   rintro y c st2 _ hy ⟨rfl,out,ia,ib,ac,bc,rfl,hM,hia,hib,hpr⟩;obtain ⟨xb,eb⟩:∃x,b[ib]? = some x:=⟨_,BS b ib hib⟩;obtain ⟨xa,ea⟩:∃x,a[ia]? = some x:=⟨_,BS a ia (by omega)⟩
   dsimp only
   refine A6 (BB eb (A6 (BB ea (A6 (H _ _ _ _ (hs.1.trans hk) (db _ _ eb) (da _ _ ea) ?_)))))
   by_cases hlt:κ xb<κ xa
   . rw [AS hlt]
     dsimp only
     rw [AB rfl];refine A6 (BB eb ?_);have M2:=hM.pushB sb eb (fun y hy=>C7 (D7 hlt) (sa.hd ea y hy))
     by_cases e1:ib+1=b.size
     . rw [AB (by simpa using e1)];exact A7 ⟨rfl, .inl ⟨_,_,rfl,M2.done sa sb (.inr e1)⟩⟩
     rw [A8 (by simpa using e1)]
     split
     . exact A7 ⟨rfl, .inr ⟨_,_,_,_,_,rfl,M2,hia,by omega,by omega⟩⟩
     . exact A7 ⟨rfl,_,_,_,_,_,rfl,M2,hia,by omega,by omega⟩
   . rw [AV hlt]
     dsimp only
     rw [A8 (by simp)];refine A6 (BB ea ?_);have M2:=hM.pushA sa ea (fun y hy=>C7 (Int.not_lt.mp hlt) (sb.hd eb y hy))
     by_cases e1:ia+1+1=a.size
     . rw [AB (by simpa using e1)];exact A7 ⟨rfl, .inl ⟨_,_,rfl,M2.last sb e1 hl⟩⟩
     rw [A8 (by simpa using e1)]
     split
     . exact A7 ⟨rfl, .inr ⟨_,_,_,_,_,rfl,M2,by omega,by omega,by omega⟩⟩
     . exact A7 ⟨rfl,_,_,_,_,_,rfl,M2,by omega,by omega,by omega⟩
  case p2=>
   rintro c st2 ⟨rfl,(⟨r,v,rfl,hr⟩ | ⟨out,ia,ib,ac,bc,rfl,hM,hia,hib,hpr⟩)⟩
   . exact A7 ⟨hs,_,_,rfl,hr⟩
   . dsimp only
     refine A6 (TM (KP ⟨rfl,?_⟩))
     refine A6 (EN (CZ
      (I:=fun y c st'=>Sm st st'/\∃out ia ib g ac bc,c=(none,out,ia,ib,g,ac,bc)/\Mia κ a b out ia ib/\ia+1<a.size/\ib<b.size/\x+2<=ia+ib)
      (Q:=fun c st'=>Sm st st'/\((∃r v,c=(some r,v)/\Mr κ a b r)\/∃out ia ib g ac bc,c=(none,out,ia,ib,g,ac,bc)/\Mia κ a b out ia ib/\ia+1<a.size/\ib<b.size/\x+2<=ia+ib)) ?s3 ?f3 ?i3) ?p3)
     case i3=>exact ⟨hs,_,_,_,_,_,_,rfl,hM,hia,hib,hpr⟩
     case f3=>
      rintro c st' ⟨hs',h⟩;exact ⟨hs', .inr h⟩
     case p3=>
      rintro c st3 ⟨hs3,(⟨r,v,rfl,hr⟩ | ⟨out,ia,ib,g,ac,bc,rfl,hM,hia,hib,hpr⟩)⟩
      . exact A7 ⟨hs3,_,_,rfl,hr⟩
      . dsimp only
        exact A6 (FL (A7 ⟨⟨hs3.1,hs3.2.1,hs3.2.2.1,hs3.2.2.2⟩,_,_,_,_,rfl,hM,hia,hib,by omega⟩))
     case s3=>
      rintro y c st3 _ hy ⟨hs3,out,ia,ib,g,ac,bc,rfl,hM,hia,hib,hpr⟩;obtain ⟨xb,eb⟩:∃x,b[ib]? = some x:=⟨_,BS b ib hib⟩
      dsimp only
      by_cases hg:g>1
      . rw [AB hg];refine A6 (FL ?_);have hs4:Sm st _:=⟨hs3.1,hs3.2.1,hs3.2.2.1,hs3.2.2.2⟩;refine A6 (BB eb ?_);refine A6 (LO H (hs3.1.trans hk) (db _ _ eb) (by omega) (by omega) da (fun i j x y _ hij _ hx hy=>sa.at hij hx hy) fun k k1 k2 k3' => ?_)
        dsimp only
        have k3:∀t x,a[ia+k+t]? = some x->κ xb<κ x:=fun t x hx=>k3' (k+t) (by omega) (by have:=(EI.mp hx).1;omega) x (by rw [<-J0];exact hx)
        by_cases hk0:k>0
        . rw [AB hk0];have M1:=hM.chunkA (k:=k) sa (by omega) (fun t ht x hx y hy=>C7 (k2 t ht x hx) (sb.hd eb y hy))
          by_cases e1:ia+k+1=a.size
          . rw [AB (by simpa using e1)];exact A7 ⟨hs4, .inl ⟨_,_,rfl,M1.last sb e1 hl⟩⟩
          rw [A8 (by simpa using e1)]
          by_cases e2:ia+k=a.size
          . rw [AB (by simpa using e2)];exact A7 ⟨hs4, .inl ⟨_,_,rfl,M1.done sa sb (.inl e2)⟩⟩
          rw [A8 (by simpa using e2)]
          replace k3:∀x,a[ia+k]? = some x->κ xb<κ x:=fun x hx=>k3 0 x hx
          obtain ⟨xa,ea⟩:∃x,a[(ia+k)]? = some x:=⟨_,BS a _ (by omega)⟩;have R1:κ xb<κ xa:=k3 _ ea;refine A6 (BB eb ?_);have M2:=M1.pushB sb eb (fun y hy=>C7 (D7 R1) (sa.hd ea y hy))
          by_cases e3:ib+1=b.size
          . rw [AB (by simpa using e3)];exact A7 ⟨hs4, .inl ⟨_,_,rfl,M2.done sa sb (.inr e3)⟩⟩
          rw [A8 (by simpa using e3)];refine A6 (BB ea ?_);refine A6 (IE H (hs4.1.trans hk) (da _ _ ea) (by omega) (by omega) db (fun i j x y _ hij _ hx hy=>sb.at hij hx hy) fun k2 l1 l2 l3=> ?_)
          dsimp only
          have R2:∀y ∈ b.toList.drop (ib+1+k2),κ xa<=κ y:=fun y hy=>by
           obtain ⟨t,ht,ht2⟩:=LW hy;exact l3 (k2+t) (by omega) (by omega) y (by rw [<-J0];exact ht)
          by_cases hk2:k2>0
          . rw [AB hk2];have M3:=M2.chunkB (k:=k2) sb (by omega) (fun t ht x hx y hy=>C7 (D7 (l2 t ht x hx)) (sa.hd ea y hy))
            by_cases e5:ib+1+k2=b.size
            . rw [AB (by simpa using e5)];exact A7 ⟨hs4, .inl ⟨_,_,rfl,M3.done sa sb (.inr e5)⟩⟩
            . rw [A8 (by simpa using e5)];refine A6 (BB ea ?_);have M4:=M3.pushA sa ea R2
              by_cases e4:(ia+k)+1+1=a.size
              . rw [AB (by simpa using e4)];exact A7 ⟨hs4, .inl ⟨_,_,rfl,M4.last sb e4 hl⟩⟩
              . rw [A8 (by simpa using e4)]
                split
                . exact A7 ⟨hs4, .inr ⟨_,_,_,_,_,_,rfl,M4,by omega,by omega,by omega⟩⟩
                . exact A7 ⟨hs4,_,_,_,_,_,_,rfl,M4,by omega,by omega,by omega⟩
          . rw [A8 hk2];have hz2:k2=0:=by omega
            subst hz2;refine A6 (BB ea ?_);have M4:=M2.pushA sa ea R2
            by_cases e4:(ia+k)+1+1=a.size
            . rw [AB (by simpa using e4)];exact A7 ⟨hs4, .inl ⟨_,_,rfl,M4.last sb e4 hl⟩⟩
            . rw [A8 (by simpa using e4)]
              split
              . exact A7 ⟨hs4, .inr ⟨_,_,_,_,_,_,rfl,M4,by omega,by omega,by omega⟩⟩
              . exact A7 ⟨hs4,_,_,_,_,_,_,rfl,M4,by omega,by omega,by omega⟩
        . rw [A8 hk0];have hz:k=0:=by omega
          subst hz
          replace k3:∀x,a[ia]? = some x->κ xb<κ x:=fun x hx=>k3 0 x hx
          obtain ⟨xa,ea⟩:∃x,a[ia]? = some x:=⟨_,BS a _ (by omega)⟩;have R1:κ xb<κ xa:=k3 _ ea;refine A6 (BB eb ?_);have M2:=hM.pushB sb eb (fun y hy=>C7 (D7 R1) (sa.hd ea y hy))
          by_cases e3:ib+1=b.size
          . rw [AB (by simpa using e3)];exact A7 ⟨hs4, .inl ⟨_,_,rfl,M2.done sa sb (.inr e3)⟩⟩
          rw [A8 (by simpa using e3)];refine A6 (BB ea ?_);refine A6 (IE H (hs4.1.trans hk) (da _ _ ea) (by omega) (by omega) db (fun i j x y _ hij _ hx hy=>sb.at hij hx hy) fun k2 l1 l2 l3=> ?_)
          dsimp only
          have R2:∀y ∈ b.toList.drop (ib+1+k2),κ xa<=κ y:=fun y hy=>by
           obtain ⟨t,ht,ht2⟩:=LW hy;exact l3 (k2+t) (by omega) (by omega) y (by rw [<-J0];exact ht)
          by_cases hk2:k2>0
          . rw [AB hk2];have M3:=M2.chunkB (k:=k2) sb (by omega) (fun t ht x hx y hy=>C7 (D7 (l2 t ht x hx)) (sa.hd ea y hy))
            by_cases e5:ib+1+k2=b.size
            . rw [AB (by simpa using e5)];exact A7 ⟨hs4, .inl ⟨_,_,rfl,M3.done sa sb (.inr e5)⟩⟩
            . rw [A8 (by simpa using e5)];refine A6 (BB ea ?_);have M4:=M3.pushA sa ea R2
              by_cases e4:ia+1+1=a.size
              . rw [AB (by simpa using e4)];exact A7 ⟨hs4, .inl ⟨_,_,rfl,M4.last sb e4 hl⟩⟩
              . rw [A8 (by simpa using e4)]
                split
                . exact A7 ⟨hs4, .inr ⟨_,_,_,_,_,_,rfl,M4,by omega,by omega,by omega⟩⟩
                . exact A7 ⟨hs4,_,_,_,_,_,_,rfl,M4,by omega,by omega,by omega⟩
          . rw [A8 hk2];have hz2:k2=0:=by omega
            subst hz2;refine A6 (BB ea ?_);have M4:=M2.pushA sa ea R2
            by_cases e4:ia+1+1=a.size
            . rw [AB (by simpa using e4)];exact A7 ⟨hs4, .inl ⟨_,_,rfl,M4.last sb e4 hl⟩⟩
            . rw [A8 (by simpa using e4)]
              split
              . exact A7 ⟨hs4, .inr ⟨_,_,_,_,_,_,rfl,M4,by omega,by omega,by omega⟩⟩
              . exact A7 ⟨hs4,_,_,_,_,_,_,rfl,M4,by omega,by omega,by omega⟩
      . rw [A8 hg];refine A6 (FL ?_);have hs4:Sm st _:=⟨hs3.1,hs3.2.1,hs3.2.2.1,hs3.2.2.2⟩;refine A6 (BB eb ?_);refine A6 (LO H (hs3.1.trans hk) (db _ _ eb) (by omega) (by omega) da (fun i j x y _ hij _ hx hy=>sa.at hij hx hy) fun k k1 k2 k3' => ?_)
        dsimp only
        have k3:∀t x,a[ia+k+t]? = some x->κ xb<κ x:=fun t x hx=>k3' (k+t) (by omega) (by have:=(EI.mp hx).1;omega) x (by rw [<-J0];exact hx)
        by_cases hk0:k>0
        . rw [AB hk0];have M1:=hM.chunkA (k:=k) sa (by omega) (fun t ht x hx y hy=>C7 (k2 t ht x hx) (sb.hd eb y hy))
          by_cases e1:ia+k+1=a.size
          . rw [AB (by simpa using e1)];exact A7 ⟨hs4, .inl ⟨_,_,rfl,M1.last sb e1 hl⟩⟩
          rw [A8 (by simpa using e1)]
          by_cases e2:ia+k=a.size
          . rw [AB (by simpa using e2)];exact A7 ⟨hs4, .inl ⟨_,_,rfl,M1.done sa sb (.inl e2)⟩⟩
          rw [A8 (by simpa using e2)]
          replace k3:∀x,a[ia+k]? = some x->κ xb<κ x:=fun x hx=>k3 0 x hx
          obtain ⟨xa,ea⟩:∃x,a[(ia+k)]? = some x:=⟨_,BS a _ (by omega)⟩;have R1:κ xb<κ xa:=k3 _ ea;refine A6 (BB eb ?_);have M2:=M1.pushB sb eb (fun y hy=>C7 (D7 R1) (sa.hd ea y hy))
          by_cases e3:ib+1=b.size
          . rw [AB (by simpa using e3)];exact A7 ⟨hs4, .inl ⟨_,_,rfl,M2.done sa sb (.inr e3)⟩⟩
          rw [A8 (by simpa using e3)];refine A6 (BB ea ?_);refine A6 (IE H (hs4.1.trans hk) (da _ _ ea) (by omega) (by omega) db (fun i j x y _ hij _ hx hy=>sb.at hij hx hy) fun k2 l1 l2 l3=> ?_)
          dsimp only
          have R2:∀y ∈ b.toList.drop (ib+1+k2),κ xa<=κ y:=fun y hy=>by
           obtain ⟨t,ht,ht2⟩:=LW hy;exact l3 (k2+t) (by omega) (by omega) y (by rw [<-J0];exact ht)
          by_cases hk2:k2>0
          . rw [AB hk2];have M3:=M2.chunkB (k:=k2) sb (by omega) (fun t ht x hx y hy=>C7 (D7 (l2 t ht x hx)) (sa.hd ea y hy))
            by_cases e5:ib+1+k2=b.size
            . rw [AB (by simpa using e5)];exact A7 ⟨hs4, .inl ⟨_,_,rfl,M3.done sa sb (.inr e5)⟩⟩
            . rw [A8 (by simpa using e5)];refine A6 (BB ea ?_);have M4:=M3.pushA sa ea R2
              by_cases e4:(ia+k)+1+1=a.size
              . rw [AB (by simpa using e4)];exact A7 ⟨hs4, .inl ⟨_,_,rfl,M4.last sb e4 hl⟩⟩
              . rw [A8 (by simpa using e4)]
                split
                . exact A7 ⟨hs4, .inr ⟨_,_,_,_,_,_,rfl,M4,by omega,by omega,by omega⟩⟩
                . exact A7 ⟨hs4,_,_,_,_,_,_,rfl,M4,by omega,by omega,by omega⟩
          . rw [A8 hk2];have hz2:k2=0:=by omega
            subst hz2;refine A6 (BB ea ?_);have M4:=M2.pushA sa ea R2
            by_cases e4:(ia+k)+1+1=a.size
            . rw [AB (by simpa using e4)];exact A7 ⟨hs4, .inl ⟨_,_,rfl,M4.last sb e4 hl⟩⟩
            . rw [A8 (by simpa using e4)]
              split
              . exact A7 ⟨hs4, .inr ⟨_,_,_,_,_,_,rfl,M4,by omega,by omega,by omega⟩⟩
              . exact A7 ⟨hs4,_,_,_,_,_,_,rfl,M4,by omega,by omega,by omega⟩
        . rw [A8 hk0];have hz:k=0:=by omega
          subst hz
          replace k3:∀x,a[ia]? = some x->κ xb<κ x:=fun x hx=>k3 0 x hx
          obtain ⟨xa,ea⟩:∃x,a[ia]? = some x:=⟨_,BS a _ (by omega)⟩;have R1:κ xb<κ xa:=k3 _ ea;refine A6 (BB eb ?_);have M2:=hM.pushB sb eb (fun y hy=>C7 (D7 R1) (sa.hd ea y hy))
          by_cases e3:ib+1=b.size
          . rw [AB (by simpa using e3)];exact A7 ⟨hs4, .inl ⟨_,_,rfl,M2.done sa sb (.inr e3)⟩⟩
          rw [A8 (by simpa using e3)];refine A6 (BB ea ?_);refine A6 (IE H (hs4.1.trans hk) (da _ _ ea) (by omega) (by omega) db (fun i j x y _ hij _ hx hy=>sb.at hij hx hy) fun k2 l1 l2 l3=> ?_)
          dsimp only
          have R2:∀y ∈ b.toList.drop (ib+1+k2),κ xa<=κ y:=fun y hy=>by
           obtain ⟨t,ht,ht2⟩:=LW hy;exact l3 (k2+t) (by omega) (by omega) y (by rw [<-J0];exact ht)
          by_cases hk2:k2>0
          . rw [AB hk2];have M3:=M2.chunkB (k:=k2) sb (by omega) (fun t ht x hx y hy=>C7 (D7 (l2 t ht x hx)) (sa.hd ea y hy))
            by_cases e5:ib+1+k2=b.size
            . rw [AB (by simpa using e5)];exact A7 ⟨hs4, .inl ⟨_,_,rfl,M3.done sa sb (.inr e5)⟩⟩
            . rw [A8 (by simpa using e5)];refine A6 (BB ea ?_);have M4:=M3.pushA sa ea R2
              by_cases e4:ia+1+1=a.size
              . rw [AB (by simpa using e4)];exact A7 ⟨hs4, .inl ⟨_,_,rfl,M4.last sb e4 hl⟩⟩
              . rw [A8 (by simpa using e4)]
                split
                . exact A7 ⟨hs4, .inr ⟨_,_,_,_,_,_,rfl,M4,by omega,by omega,by omega⟩⟩
                . exact A7 ⟨hs4,_,_,_,_,_,_,rfl,M4,by omega,by omega,by omega⟩
          . rw [A8 hk2];have hz2:k2=0:=by omega
            subst hz2;refine A6 (BB ea ?_);have M4:=M2.pushA sa ea R2
            by_cases e4:ia+1+1=a.size
            . rw [AB (by simpa using e4)];exact A7 ⟨hs4, .inl ⟨_,_,rfl,M4.last sb e4 hl⟩⟩
            . rw [A8 (by simpa using e4)]
              split
              . exact A7 ⟨hs4, .inr ⟨_,_,_,_,_,_,rfl,M4,by omega,by omega,by omega⟩⟩
              . exact A7 ⟨hs4,_,_,_,_,_,_,rfl,M4,by omega,by omega,by omega⟩
end
end Ts
namespace Ts
open PySem PyProof.Rows
structure MH (κ:Keyed->Int) (al bl ol:List Keyed) (i j:Nat):Prop where
 hi:i<=al.length
 hj:j<=bl.length
 perm:ol.Perm (al.drop i++bl.drop j)
 srt:ol.Pairwise fun x y=>κ y<=κ x
 la:∀x ∈ ol,∀y ∈ al.take i,κ y<=κ x
 lb:∀x ∈ ol,∀y ∈ bl.take j,κ y<=κ x
section
variable {κ:Keyed->Int} {al bl ol:List Keyed} {i j k:Nat} {x:Keyed}
theorem MH.symm(h:MH κ al bl ol i j):MH κ bl al ol j i:=⟨h.hj,h.hi,h.perm.trans EW,h.srt,h.lb,h.la⟩
theorem UU{y:Keyed}(h:y ∈ al.take i):∃t,t<i/\al[t]? = some y:=by
 obtain ⟨t,ht⟩:=EX.mp h;rw [JK] at ht
 split at ht
 . exact ⟨t,by assumption,ht⟩
 . cases ht
theorem MH.stepA(h:MH κ al bl ol i j)(sa:Srt κ al)(hk:k<=i)(hle:∀x ∈ (al.drop k).take (i - k),∀y ∈ bl.take j,κ y<=κ x):MH κ al bl (ol++((al.drop k).take (i - k)).reverse) k j:=by
 have hc:∀y,y ∈ (al.drop k).take (i - k)->y ∈ al.take i:=fun y hy=>by
  obtain ⟨t,ht,e⟩:=GQ hy;refine EX.mpr ⟨k+t,?_⟩;rw [JK,AB (by omega)];exact e
 have hd:(al.drop k).take (i - k)++al.drop i=al.drop k:=by
  have e:=DZ (i - k) (al.drop k)
  rwa [RR,show k+(i - k)=i by omega] at e
 refine ⟨BG hk h.hi,h.hj,?_,HZ.mpr ⟨h.srt,zG.mpr sa.drop.take,fun x hx y hy=>h.la x hx y (hc y (IP.mp hy))⟩,?_,?_⟩
 . refine (h.perm.append (A89 _)).trans ?_;refine EW.trans ?_;rw [<-BP,hd]
 . intro x hx y hy;obtain ⟨u,hu,eu⟩:=UU hy;rcases AW.mp hx with hx | hx
   . refine h.la x hx y (EX.mpr ⟨u,?_⟩);rw [JK,AB (by omega)];exact eu
   . obtain ⟨t,ht,e⟩:=GQ (IP.mp hx);exact sa.get (by omega) eu e
 . intro x hx y hy;rcases AW.mp hx with hx | hx
   . exact h.lb x hx y hy
   . exact hle x (IP.mp hx) y hy
theorem MH.fin(h:MH κ al bl ol i j){t:List Keyed}(ht:t.Perm (al.take i++bl.take j))(st:Srt κ t):(t++ol.reverse).Perm (al++bl)/\Srt κ (t++ol.reverse):=by
 constructor
 . refine (ht.append ((A89 _).trans h.perm)).trans ?_;have e1:(al++bl)=(al.take i++al.drop i)++(bl.take j++bl.drop j):=by rw [DZ,DZ]
   rw [e1,BP,BP];refine zF _ ?_;rw [<-BP, <-BP];exact EW.append_right _
 . refine st.app (zG.mpr h.srt) fun x hx y hy=> ?_;rcases AW.mp (ht.mem_iff.mp hx) with hx | hx
   . exact h.la y (IP.mp hy) x hx
   . exact h.lb y (IP.mp hy) x hx
theorem MH.one(h:MH κ al bl ol i j)(sa:Srt κ al)(hi:0<i)(hx:al[i - 1]? = some x)(hle:∀y ∈ bl.take j,κ y<=κ x):MH κ al bl (ol ++ [x]) (i - 1) j:=by
 have e:(al.drop (i - 1)).take (i - (i - 1)) = [x]:=by rw [show i - (i - 1)=1 by omega];exact NH hx
 have:=h.stepA sa (k:=i - 1) (by omega) (by rw [e];intro y hy;rw [A4.mp hy];exact hle)
 rwa [e] at this
end
def Mha(κ:Keyed->Int)(a b out:Array Keyed)(i j:Nat):Prop:=MH κ a.toList b.toList out.toList i j
section
variable {κ:Keyed->Int} {a b out:Array Keyed} {i j k:Nat} {x:Keyed}
theorem Mha.pushA(h:Mha κ a b out i j)(sa:Srt κ a.toList)(hi:0<i)(hx:a[i - 1]? = some x)(hle:∀y ∈ b.toList.take j,κ y<=κ x):Mha κ a b (out.push x) (i - 1) j:=by
 unfold Mha at h ⊢
 rw [NR];exact h.one sa hi (by rw [AI];exact hx) hle
theorem Mha.pushB(h:Mha κ a b out i j)(sb:Srt κ b.toList)(hj:0<j)(hx:b[j - 1]? = some x)(hle:∀y ∈ a.toList.take i,κ y<=κ x):Mha κ a b (out.push x) i (j - 1):=by
 unfold Mha at h ⊢
 rw [NR];exact (h.symm.one sb hj (by rw [AI];exact hx) hle).symm
theorem Mha.chunkA(h:Mha κ a b out i j)(sa:Srt κ a.toList)(hk:k<=i)(hle:∀t,k<=t->t<i->∀x,a[t]? = some x->∀y ∈ b.toList.take j,κ y<=κ x):Mha κ a b (out++(a.extract k i).reverse) k j:=by
 unfold Mha at h ⊢
 rw [GF,zO,EY];refine h.stepA sa hk fun x hx y hy=> ?_;obtain ⟨t,ht,e⟩:=GQ hx;exact hle (k+t) (by omega) (by omega) x (by rw [<-AI];exact e) y hy
theorem Mha.chunkB(h:Mha κ a b out i j)(sb:Srt κ b.toList)(hk:k<=j)(hle:∀t,k<=t->t<j->∀x,b[t]? = some x->∀y ∈ a.toList.take i,κ y<=κ x):Mha κ a b (out++(b.extract k j).reverse) i k:=by
 unfold Mha at h ⊢
 rw [GF,zO,EY];refine (h.symm.stepA sb hk fun x hx y hy=> ?_).symm;obtain ⟨t,ht,e⟩:=GQ hx;exact hle (k+t) (by omega) (by omega) x (by rw [<-AI];exact e) y hy
theorem PD:(a.extract 0 i).toList=a.toList.take i:=by rw [EY];rfl
theorem Mha.done(h:Mha κ a b out i j)(sa:Srt κ a.toList)(sb:Srt κ b.toList)(he:i=0\/j=0):Mr κ a b (a.extract 0 i++b.extract 0 j++out.reverse):=by
 unfold Mha at h
 unfold Mr;rw [Array.toList_append,Array.toList_append,PD,PD,Array.toList_reverse];refine h.fin (List.Perm.refl _) ?_;rcases he with rfl | rfl
 . rw [gR,LY];exact sb.take
 . rw [gR,E4];exact sa.take
theorem Mha.first(h:Mha κ a b out i j)(sa:Srt κ a.toList)(he:j=1)(hf:∀y,b[0]? = some y->∀x ∈ a.toList,κ y<=κ x):Mr κ a b (b.extract 0 j++a.extract 0 i++out.reverse):=by
 unfold Mha at h
 unfold Mr;subst he;rw [Array.toList_append,Array.toList_append,PD,PD,Array.toList_reverse];refine h.fin List.perm_append_comm ?_;have hb:0<b.size:=by have:=h.hj;rw [Array.length_toList] at this;omega
 have e:b.toList.take 1 = [b[0]]:=by
  have:=NH (al:=b.toList) (i:=0) (x:=b[0]) (by simp)
  rwa [AA8] at this
 rw [e];refine Srt.app (E8 _ _) sa.take fun y hy x hx=> ?_;rw [A4.mp hy];exact hf _ (BS b 0 hb) x (C9 hx)
theorem Mha.nil:Mha κ a b #[] a.size b.size:=⟨by simp,by simp,by simp,G0,fun x hx=>by simp at hx,fun x hx=>by simp at hx⟩
theorem HP{y:Keyed}(h:y ∈ a.toList.take i):∃t,t<i/\a[t]? = some y:=by
 obtain ⟨t,ht,e⟩:=UU h;exact ⟨t,ht,by rw [<-AI];exact e⟩
theorem Srt.tl(h:Srt κ a.toList)(hx:a[i - 1]? = some x):∀y ∈ a.toList.take i,κ y<=κ x:=fun y hy=>by
 obtain ⟨t,ht,e⟩:=HP hy;exact h.at (by omega) e hx
end
end Ts
namespace Ts
open PySem PyProof.Rows
section
variable {prog:Program} {w:World} {A:Around} {E:Value->Shared->Prop} {s:Shared} {kd:SortKind} {D:Keyed->Prop} {κ:Keyed->Int}
theorem o9 (H : PP prog w A E s kd D κ) {a b : Array Keyed} {st : SortSt} {Q : Array Keyed -> SortSt -> Prop} (hk : kindOf st = kd) (da : ∀ (i : Nat) x, a[i]? = some x -> D x) (db : ∀ (i : Nat) x, b[i]? = some x -> D x) (ha : 0 < a.size) (hb : 0 < b.size) (sa : Srt κ a.toList) (sb : Srt κ b.toList)
 (hf:∀y,b[0]? = some y->∀x ∈ a.toList,κ y<=κ x) (hl:∀x,a[a.size - 1]? = some x->∀y ∈ b.toList,κ y<=κ x) (q:∀r st',Sm st st'->Mr κ a b r->Q r st'):wpS (model prog w) A E s (mHi a b) Q st:=by
 refine A6 (TM (KP ⟨rfl,?_⟩));obtain ⟨a0,ea0⟩:∃x,a[a.size - 1]? = some x:=⟨_,BS a (a.size - 1) (by omega)⟩;refine A6 (BB ea0 ?_)
 dsimp only
 have M0:Mha κ a b #[a0] (a.size - 1) b.size:=Mha.nil.pushA sa ha ea0 fun y hy=>hl _ ea0 y (C9 hy);have Srf:Sm st st:=⟨rfl,rfl,rfl,rfl⟩
 by_cases e1:a.size - 1=0
 . rw [AB (by simpa using e1)];exact A7 (q _ _ Srf (M0.done sa sb (.inl e1)))
 rw [A8 (by simpa using e1)]
 by_cases e2:b.size=1
 . rw [AB (by simpa using e2)];exact A7 (q _ _ Srf (M0.first sa e2 hf))
 rw [A8 (by simpa using e2)];refine A6 (JR ?_)
 refine A6 (EN (CZ
  (I:=fun x c st'=>Sm st st'/\∃na nb out g,c=(none,na,nb,out,g)/\Mha κ a b out na nb/\0<na/\1<nb/\x+1+na+nb<=a.size+b.size)
  (Q:=fun c st'=>Sm st st'/\∃r v,c=(some r,v)/\Mr κ a b r) ?s1 ?f1 ?i1) ?p1)
 case p1=>
  rintro c st' ⟨hs,r,v,rfl,hr⟩;exact A7 (q r st' hs hr)
 case i1=>exact ⟨Srf,_,_,_,_,rfl,M0,by omega,by omega,by omega⟩
 case f1=>
  rintro c st' ⟨hs,na,nb,out,g,rfl,hM,hna,hnb,hpr⟩;omega
 case s1=>
  rintro x c st1 _ hx ⟨hs,na,nb,out,g,rfl,hM,hna,hnb,hpr⟩
  dsimp only
  refine A6 (EN (CZ
   (I:=fun y c st'=>st'=st1/\∃na nb out ac bc,c=(none,na,nb,out,ac,bc)/\Mha κ a b out na nb/\0<na/\1<nb/\x+1+y+na+nb<=a.size+b.size)
   (Q:=fun c st'=>st'=st1/\((∃r v,c=(some r,v)/\Mr κ a b r)\/∃na nb out ac bc,c=(none,na,nb,out,ac,bc)/\Mha κ a b out na nb/\0<na/\1<nb/\x+2+na+nb<=a.size+b.size)) ?s2 ?f2 ?i2) ?p2)
  case i2=>exact ⟨rfl,_,_,_,_,_,rfl,hM,hna,hnb,by omega⟩
  case f2=>
   rintro c st' ⟨rfl,na,nb,out,ac,bc,rfl,hM,hna,hnb,hpr⟩;omega
  case s2=>
   rintro y c st2 _ hy ⟨rfl,na,nb,out,ac,bc,rfl,hM,hna,hnb,hpr⟩;have hi1:na<=a.size:=by have:=hM.hi;rwa [BO] at this
   have hj1:nb<=b.size:=by have:=hM.hj;rwa [BO] at this
   obtain ⟨xb,eb⟩:∃x,b[nb - 1]? = some x:=⟨_,BS b _ (by omega)⟩;obtain ⟨xa,ea⟩:∃x,a[na - 1]? = some x:=⟨_,BS a _ (by omega)⟩
   dsimp only
   refine A6 (BB eb (A6 (BB ea (A6 (H _ _ _ _ (hs.1.trans hk) (db _ _ eb) (da _ _ ea) ?_)))))
   by_cases hlt:κ xb<κ xa
   . rw [AS hlt]
     dsimp only
     rw [AB rfl];refine A6 (BB ea ?_);have M2:=hM.pushA sa hna ea (fun y hy=>C7 (sb.tl eb y hy) (D7 hlt))
     by_cases e1:na - 1=0
     . rw [AB (by simpa using e1)];exact A7 ⟨rfl, .inl ⟨_,_,rfl,M2.done sa sb (.inl e1)⟩⟩
     rw [A8 (by simpa using e1)]
     split
     . exact A7 ⟨rfl, .inr ⟨_,_,_,_,_,rfl,M2,by omega,by omega,by omega⟩⟩
     . exact A7 ⟨rfl,_,_,_,_,_,rfl,M2,by omega,by omega,by omega⟩
   . rw [AV hlt]
     dsimp only
     rw [A8 (by simp)];refine A6 (BB eb ?_);have M2:=hM.pushB sb (by omega) eb (fun y hy=>C7 (sa.tl ea y hy) (Int.not_lt.mp hlt))
     by_cases e1:nb - 1=1
     . rw [AB (by simpa using e1)];exact A7 ⟨rfl, .inl ⟨_,_,rfl,M2.first sa e1 hf⟩⟩
     rw [A8 (by simpa using e1)]
     split
     . exact A7 ⟨rfl, .inr ⟨_,_,_,_,_,rfl,M2,by omega,by omega,by omega⟩⟩
     . exact A7 ⟨rfl,_,_,_,_,_,rfl,M2,by omega,by omega,by omega⟩
  case p2=>
   rintro c st2 ⟨rfl,(⟨r,v,rfl,hr⟩ | ⟨na,nb,out,ac,bc,rfl,hM,hna,hnb,hpr⟩)⟩
   . exact A7 ⟨hs,_,_,rfl,hr⟩
   . dsimp only
     refine A6 (TM (KP ⟨rfl,?_⟩))
     refine A6 (EN (CZ
      (I:=fun y c st'=>Sm st st'/\∃na nb out g ac bc,c=(none,na,nb,out,g,ac,bc)/\Mha κ a b out na nb/\0<na/\1<nb/\x+2+na+nb<=a.size+b.size)
      (Q:=fun c st'=>Sm st st'/\((∃r v,c=(some r,v)/\Mr κ a b r)\/∃na nb out g ac bc,c=(none,na,nb,out,g,ac,bc)/\Mha κ a b out na nb/\0<na/\1<nb/\x+2+na+nb<=a.size+b.size)) ?s3 ?f3 ?i3) ?p3)
     case i3=>exact ⟨hs,_,_,_,_,_,_,rfl,hM,hna,hnb,hpr⟩
     case f3=>
      rintro c st' ⟨hs',h⟩;exact ⟨hs', .inr h⟩
     case p3=>
      rintro c st3 ⟨hs3,(⟨r,v,rfl,hr⟩ | ⟨na,nb,out,g,ac,bc,rfl,hM,hna,hnb,hpr⟩)⟩
      . exact A7 ⟨hs3,_,_,rfl,hr⟩
      . dsimp only
        exact A6 (FL (A7 ⟨⟨hs3.1,hs3.2.1,hs3.2.2.1,hs3.2.2.2⟩,_,_,_,_,rfl,hM,hna,hnb,by omega⟩))
     case s3=>
      rintro y c st3 _ hy ⟨hs3,na,nb,out,g,ac,bc,rfl,hM,hna,hnb,hpr⟩;have hi1:na<=a.size:=by have:=hM.hi;rwa [BO] at this
      have hj1:nb<=b.size:=by have:=hM.hj;rwa [BO] at this
      obtain ⟨xb,eb⟩:∃x,b[nb - 1]? = some x:=⟨_,BS b _ (by omega)⟩
      dsimp only
      by_cases hg:g>1
      . rw [AB hg];refine A6 (FL ?_);have hs4:Sm st _:=⟨hs3.1,hs3.2.1,hs3.2.2.1,hs3.2.2.2⟩;refine A6 (BB eb ?_);refine A6 (LO H (hs3.1.trans hk) (db _ _ eb) (by omega) (by omega) da (fun i j x y _ hij _ hx hy=>sa.at hij hx hy) fun k k1 k2 k3' => ?_)
        dsimp only
        have k3:∀y ∈ a.toList.take k,κ y<=κ xb:=fun y hy=>by
         obtain ⟨t,ht,ht2⟩:=HP hy;exact k2 t ht y (by rw [C8];exact ht2)
        by_cases hk0:na - k>0
        . rw [AB hk0];have M1:=hM.chunkA (k:=k) sa (by omega) (fun t ht ht2 x hx y hy=>C7 (sb.tl eb y hy) (D7 (k3' t ht ht2 x (by rw [C8];exact hx))))
          by_cases e1:k=0
          . rw [AB (by simpa using e1)];exact A7 ⟨hs4, .inl ⟨_,_,rfl,M1.done sa sb (.inl e1)⟩⟩
          rw [A8 (by simpa using e1)];obtain ⟨xa,ea⟩:∃x,a[k - 1]? = some x:=⟨_,BS a _ (by omega)⟩;refine A6 (BB eb ?_);have M2:=M1.pushB sb (by omega) eb k3
          by_cases e3:nb - 1=1
          . rw [AB (by simpa using e3)];exact A7 ⟨hs4, .inl ⟨_,_,rfl,M2.first sa e3 hf⟩⟩
          rw [A8 (by simpa using e3)];refine A6 (BB ea ?_);refine A6 (IE H (hs4.1.trans hk) (da _ _ ea) (by omega) (by omega) db (fun i j x y _ hij _ hx hy=>sb.at hij hx hy) fun k2 l1 l2 l3=> ?_)
          dsimp only
          have R2:∀y ∈ b.toList.take k2,κ y<=κ xa:=fun y hy=>by
           obtain ⟨t,ht,ht2⟩:=HP hy;exact D7 (l2 t ht y (by rw [C8];exact ht2))
          by_cases hk2:nb - 1 - k2>0
          . rw [AB hk2];have M3:=M2.chunkB (k:=k2) sb (by omega) (fun t ht ht2 x hx y hy=>C7 (sa.tl ea y hy) (l3 t ht ht2 x (by rw [C8];exact hx)))
            by_cases e5:k2=1
            . rw [AB (by simpa using e5)];exact A7 ⟨hs4, .inl ⟨_,_,rfl,M3.first sa e5 hf⟩⟩
            rw [A8 (by simpa using e5)]
            by_cases e6:k2=0
            . rw [AB (by simpa using e6)];exact A7 ⟨hs4, .inl ⟨_,_,rfl,M3.done sa sb (.inr e6)⟩⟩
            rw [A8 (by simpa using e6)];refine A6 (BB ea ?_);have M4:=M3.pushA sa (by omega) ea R2
            by_cases e4:k - 1=0
            . rw [AB (by simpa using e4)];exact A7 ⟨hs4, .inl ⟨_,_,rfl,M4.done sa sb (.inl e4)⟩⟩
            . rw [A8 (by simpa using e4)]
              split
              . exact A7 ⟨hs4, .inr ⟨_,_,_,_,_,_,rfl,M4,by omega,by omega,by omega⟩⟩
              . exact A7 ⟨hs4,_,_,_,_,_,_,rfl,M4,by omega,by omega,by omega⟩
          . rw [A8 hk2];have hz2:k2=nb - 1:=by omega
            subst hz2;refine A6 (BB ea ?_);have M4:=M2.pushA sa (by omega) ea R2
            by_cases e4:k - 1=0
            . rw [AB (by simpa using e4)];exact A7 ⟨hs4, .inl ⟨_,_,rfl,M4.done sa sb (.inl e4)⟩⟩
            . rw [A8 (by simpa using e4)]
              split
              . exact A7 ⟨hs4, .inr ⟨_,_,_,_,_,_,rfl,M4,by omega,by omega,by omega⟩⟩
              . exact A7 ⟨hs4,_,_,_,_,_,_,rfl,M4,by omega,by omega,by omega⟩
        . rw [A8 hk0];have hz:k=na:=by omega
          subst hz;obtain ⟨xa,ea⟩:∃x,a[k - 1]? = some x:=⟨_,BS a _ (by omega)⟩;refine A6 (BB eb ?_);have M2:=hM.pushB sb (by omega) eb k3
          by_cases e3:nb - 1=1
          . rw [AB (by simpa using e3)];exact A7 ⟨hs4, .inl ⟨_,_,rfl,M2.first sa e3 hf⟩⟩
          rw [A8 (by simpa using e3)];refine A6 (BB ea ?_);refine A6 (IE H (hs4.1.trans hk) (da _ _ ea) (by omega) (by omega) db (fun i j x y _ hij _ hx hy=>sb.at hij hx hy) fun k2 l1 l2 l3=> ?_)
          dsimp only
          have R2:∀y ∈ b.toList.take k2,κ y<=κ xa:=fun y hy=>by
           obtain ⟨t,ht,ht2⟩:=HP hy;exact D7 (l2 t ht y (by rw [C8];exact ht2))
          by_cases hk2:nb - 1 - k2>0
          . rw [AB hk2];have M3:=M2.chunkB (k:=k2) sb (by omega) (fun t ht ht2 x hx y hy=>C7 (sa.tl ea y hy) (l3 t ht ht2 x (by rw [C8];exact hx)))
            by_cases e5:k2=1
            . rw [AB (by simpa using e5)];exact A7 ⟨hs4, .inl ⟨_,_,rfl,M3.first sa e5 hf⟩⟩
            rw [A8 (by simpa using e5)]
            by_cases e6:k2=0
            . rw [AB (by simpa using e6)];exact A7 ⟨hs4, .inl ⟨_,_,rfl,M3.done sa sb (.inr e6)⟩⟩
            rw [A8 (by simpa using e6)];refine A6 (BB ea ?_);have M4:=M3.pushA sa (by omega) ea R2
            by_cases e4:k - 1=0
            . rw [AB (by simpa using e4)];exact A7 ⟨hs4, .inl ⟨_,_,rfl,M4.done sa sb (.inl e4)⟩⟩
            . rw [A8 (by simpa using e4)]
              split
              . exact A7 ⟨hs4, .inr ⟨_,_,_,_,_,_,rfl,M4,by omega,by omega,by omega⟩⟩
              . exact A7 ⟨hs4,_,_,_,_,_,_,rfl,M4,by omega,by omega,by omega⟩
          . rw [A8 hk2];have hz2:k2=nb - 1:=by omega
            subst hz2;refine A6 (BB ea ?_);have M4:=M2.pushA sa (by omega) ea R2
            by_cases e4:k - 1=0
            . rw [AB (by simpa using e4)];exact A7 ⟨hs4, .inl ⟨_,_,rfl,M4.done sa sb (.inl e4)⟩⟩
            . rw [A8 (by simpa using e4)]
              split
              . exact A7 ⟨hs4, .inr ⟨_,_,_,_,_,_,rfl,M4,by omega,by omega,by omega⟩⟩
              . exact A7 ⟨hs4,_,_,_,_,_,_,rfl,M4,by omega,by omega,by omega⟩
      . rw [A8 hg];refine A6 (FL ?_);have hs4:Sm st _:=⟨hs3.1,hs3.2.1,hs3.2.2.1,hs3.2.2.2⟩;refine A6 (BB eb ?_);refine A6 (LO H (hs3.1.trans hk) (db _ _ eb) (by omega) (by omega) da (fun i j x y _ hij _ hx hy=>sa.at hij hx hy) fun k k1 k2 k3' => ?_)
        dsimp only
        have k3:∀y ∈ a.toList.take k,κ y<=κ xb:=fun y hy=>by
         obtain ⟨t,ht,ht2⟩:=HP hy;exact k2 t ht y (by rw [C8];exact ht2)
        by_cases hk0:na - k>0
        . rw [AB hk0];have M1:=hM.chunkA (k:=k) sa (by omega) (fun t ht ht2 x hx y hy=>C7 (sb.tl eb y hy) (D7 (k3' t ht ht2 x (by rw [C8];exact hx))))
          by_cases e1:k=0
          . rw [AB (by simpa using e1)];exact A7 ⟨hs4, .inl ⟨_,_,rfl,M1.done sa sb (.inl e1)⟩⟩
          rw [A8 (by simpa using e1)];obtain ⟨xa,ea⟩:∃x,a[k - 1]? = some x:=⟨_,BS a _ (by omega)⟩;refine A6 (BB eb ?_);have M2:=M1.pushB sb (by omega) eb k3
          by_cases e3:nb - 1=1
          . rw [AB (by simpa using e3)];exact A7 ⟨hs4, .inl ⟨_,_,rfl,M2.first sa e3 hf⟩⟩
          rw [A8 (by simpa using e3)];refine A6 (BB ea ?_);refine A6 (IE H (hs4.1.trans hk) (da _ _ ea) (by omega) (by omega) db (fun i j x y _ hij _ hx hy=>sb.at hij hx hy) fun k2 l1 l2 l3=> ?_)
          dsimp only
          have R2:∀y ∈ b.toList.take k2,κ y<=κ xa:=fun y hy=>by
           obtain ⟨t,ht,ht2⟩:=HP hy;exact D7 (l2 t ht y (by rw [C8];exact ht2))
          by_cases hk2:nb - 1 - k2>0
          . rw [AB hk2];have M3:=M2.chunkB (k:=k2) sb (by omega) (fun t ht ht2 x hx y hy=>C7 (sa.tl ea y hy) (l3 t ht ht2 x (by rw [C8];exact hx)))
            by_cases e5:k2=1
            . rw [AB (by simpa using e5)];exact A7 ⟨hs4, .inl ⟨_,_,rfl,M3.first sa e5 hf⟩⟩
            rw [A8 (by simpa using e5)]
            by_cases e6:k2=0
            . rw [AB (by simpa using e6)];exact A7 ⟨hs4, .inl ⟨_,_,rfl,M3.done sa sb (.inr e6)⟩⟩
            rw [A8 (by simpa using e6)];refine A6 (BB ea ?_);have M4:=M3.pushA sa (by omega) ea R2
            by_cases e4:k - 1=0
            . rw [AB (by simpa using e4)];exact A7 ⟨hs4, .inl ⟨_,_,rfl,M4.done sa sb (.inl e4)⟩⟩
            . rw [A8 (by simpa using e4)]
              split
              . exact A7 ⟨hs4, .inr ⟨_,_,_,_,_,_,rfl,M4,by omega,by omega,by omega⟩⟩
              . exact A7 ⟨hs4,_,_,_,_,_,_,rfl,M4,by omega,by omega,by omega⟩
          . rw [A8 hk2];have hz2:k2=nb - 1:=by omega
            subst hz2;refine A6 (BB ea ?_);have M4:=M2.pushA sa (by omega) ea R2
            by_cases e4:k - 1=0
            . rw [AB (by simpa using e4)];exact A7 ⟨hs4, .inl ⟨_,_,rfl,M4.done sa sb (.inl e4)⟩⟩
            . rw [A8 (by simpa using e4)]
              split
              . exact A7 ⟨hs4, .inr ⟨_,_,_,_,_,_,rfl,M4,by omega,by omega,by omega⟩⟩
              . exact A7 ⟨hs4,_,_,_,_,_,_,rfl,M4,by omega,by omega,by omega⟩
        . rw [A8 hk0];have hz:k=na:=by omega
          subst hz;obtain ⟨xa,ea⟩:∃x,a[k - 1]? = some x:=⟨_,BS a _ (by omega)⟩;refine A6 (BB eb ?_);have M2:=hM.pushB sb (by omega) eb k3
          by_cases e3:nb - 1=1
          . rw [AB (by simpa using e3)];exact A7 ⟨hs4, .inl ⟨_,_,rfl,M2.first sa e3 hf⟩⟩
          rw [A8 (by simpa using e3)];refine A6 (BB ea ?_);refine A6 (IE H (hs4.1.trans hk) (da _ _ ea) (by omega) (by omega) db (fun i j x y _ hij _ hx hy=>sb.at hij hx hy) fun k2 l1 l2 l3=> ?_)
          dsimp only
          have R2:∀y ∈ b.toList.take k2,κ y<=κ xa:=fun y hy=>by
           obtain ⟨t,ht,ht2⟩:=HP hy;exact D7 (l2 t ht y (by rw [C8];exact ht2))
          by_cases hk2:nb - 1 - k2>0
          . rw [AB hk2];have M3:=M2.chunkB (k:=k2) sb (by omega) (fun t ht ht2 x hx y hy=>C7 (sa.tl ea y hy) (l3 t ht ht2 x (by rw [C8];exact hx)))
            by_cases e5:k2=1
            . rw [AB (by simpa using e5)];exact A7 ⟨hs4, .inl ⟨_,_,rfl,M3.first sa e5 hf⟩⟩
            rw [A8 (by simpa using e5)]
            by_cases e6:k2=0
            . rw [AB (by simpa using e6)];exact A7 ⟨hs4, .inl ⟨_,_,rfl,M3.done sa sb (.inr e6)⟩⟩
            rw [A8 (by simpa using e6)];refine A6 (BB ea ?_);have M4:=M3.pushA sa (by omega) ea R2
            by_cases e4:k - 1=0
            . rw [AB (by simpa using e4)];exact A7 ⟨hs4, .inl ⟨_,_,rfl,M4.done sa sb (.inl e4)⟩⟩
            . rw [A8 (by simpa using e4)]
              split
              . exact A7 ⟨hs4, .inr ⟨_,_,_,_,_,_,rfl,M4,by omega,by omega,by omega⟩⟩
              . exact A7 ⟨hs4,_,_,_,_,_,_,rfl,M4,by omega,by omega,by omega⟩
          . rw [A8 hk2];have hz2:k2=nb - 1:=by omega
            subst hz2;refine A6 (BB ea ?_);have M4:=M2.pushA sa (by omega) ea R2
            by_cases e4:k - 1=0
            . rw [AB (by simpa using e4)];exact A7 ⟨hs4, .inl ⟨_,_,rfl,M4.done sa sb (.inl e4)⟩⟩
            . rw [A8 (by simpa using e4)]
              split
              . exact A7 ⟨hs4, .inr ⟨_,_,_,_,_,_,rfl,M4,by omega,by omega,by omega⟩⟩
              . exact A7 ⟨hs4,_,_,_,_,_,_,rfl,M4,by omega,by omega,by omega⟩
end
end Ts
namespace Ts
open PySem PyProof.Rows
def kk(κ:Keyed->Int)(xs:Array Keyed)(i:Nat):Int:=match xs[i]? with | some x=>κ x | none=>0
def Ou(xs ys:Array Keyed)(lo n:Nat):Prop:=∀k:Nat,(k<lo\/lo+n<=k)->ys[k]? = xs[k]?
def Sg(κ:Keyed->Int)(xs:Array Keyed)(lo n:Nat):Prop:=∀i j:Nat,lo<=i->i<=j->j<lo+n->kk κ xs i<=kk κ xs j
def Ni(κ:Keyed->Int)(xs:Array Keyed)(lo n:Nat):Prop:=∀i j:Nat,lo<=i->i<=j->j<lo+n->kk κ xs j<=kk κ xs i
structure SE (st0 st:SortSt) (lo n:Nat):Prop where
 kind:kindOf st=kindOf st0
 fail:failedOf st=failedOf st0
 pend:pendingOf st=pendingOf st0
 perm:(arrOf st).Perm (arrOf st0)
 out:Ou (arrOf st0) (arrOf st) lo n
section
variable {κ:Keyed->Int} {xs ys:Array Keyed} {i j lo n:Nat}
theorem RB{x:Keyed}(h:xs[i]? = some x):kk κ xs i=κ x:=by unfold kk;rw [h]
theorem KE(h:xs[i]? = ys[j]?):kk κ xs i=kk κ ys j:=by unfold kk;rw [h]
theorem UN{src d:Nat}(hs:src<xs.size)(hd:d<=src)(k:Nat):kk κ (bubble xs src d) k=if k=src - d then kk κ xs src else if src - d<k/\k<=src then kk κ xs (k - 1) else kk κ xs k:=by
 have e:=getElem?_bubble hs d hd k
 split
 . rw [AB (by assumption)] at e;exact KE e
 . rw [A8 (by assumption)] at e
   split
   . rw [AB (by assumption)] at e;exact KE e
   . rw [A8 (by assumption)] at e;exact KE e
theorem GP(hj:j<=xs.size)(k:Nat):kk κ (mirror xs i j ((j - i) / 2)) k=if i<=k/\k<j then kk κ xs (i+j - 1 - k) else kk κ xs k:=by
 have e:=getElem?_mirror_all (i:=i) hj k
 split
 . rw [AB (by assumption)] at e;exact KE e
 . rw [A8 (by assumption)] at e;exact KE e
theorem FI(hj:j<=xs.size)(he:∀k,i<=k->k<j->kk κ xs k=kk κ xs (j - 1))(k:Nat):kk κ (mirror xs i j ((j - i) / 2)) k=kk κ xs k:=by
 rw [GP hj]
 split
 . rw [he _ (by omega) (by omega),he k (by omega) (by omega)]
 . rfl
theorem GS(hj:j<=xs.size)(h1:lo<=i)(h2:j<=lo+n):Ou xs (mirror xs i j ((j - i) / 2)) lo n:=fun k hk=>by
 rw [getElem?_mirror_all hj,A8 (by omega)]
theorem eV{src d:Nat}(hs:src<xs.size)(hd:d<=src)(h1:lo<=src - d)(h2:src<lo+n):Ou xs (bubble xs src d) lo n:=fun k hk=>by
 rw [getElem?_bubble hs d hd,A8 (by omega),A8 (by omega)]
theorem SE.rfl'{st:SortSt}:SE st st lo n:=⟨rfl,rfl,rfl,LZ _,fun _ _=>rfl⟩
theorem SE.set{st0 st:SortSt}(h:SE st0 st lo n)(hp:xs.Perm (arrOf st))(ho:Ou (arrOf st) xs lo n):SE st0 (setArr st xs) lo n:=⟨h.kind,h.fail,h.pend,hp.trans h.perm,fun k hk=>(ho k hk).trans (h.out k hk)⟩
theorem SE.size{st0 st:SortSt}(h:SE st0 st lo n):(arrOf st).size=(arrOf st0).size:=h.perm.size_eq
end
section
variable {prog:Program} {w:World} {A:Around} {E:Value->Shared->Prop} {s:Shared} {kd:SortKind} {D:Keyed->Prop} {κ:Keyed->Int} {st0:SortSt}
theorem SE.dom{st:SortSt}{lo n:Nat}(h:SE st0 st lo n)(hD:∀x ∈ (arrOf st0).toList,D x){i:Nat}(hi:i<(arrOf st0).size):∃x,(arrOf st)[i]? = some x/\D x:=by
 have hi':i<(arrOf st).size:=by rw [h.size];exact hi
 exact ⟨_,BS _ i hi',hD _ ((EJ.mp h.perm).mem_iff.mp (by simp))⟩
theorem MC(H:PP prog w A E s kd D κ){st:SortSt}{lo n i j:Nat}{Q:Option Bool->SortSt->Prop}(h:SE st0 st lo n)(hk:kindOf st0=kd)(hD:∀x ∈ (arrOf st0).toList,D x)(hi:i<(arrOf st0).size)(hj:j<(arrOf st0).size)(q:Q (some (decide (kk κ (arrOf st) i<kk κ (arrOf st) j))) st):wpS (model prog w) A E s (ltAt' i j) Q st:=by
 obtain ⟨x,ex,dx⟩:=h.dom hD hi;obtain ⟨y,ey,dy⟩:=h.dom hD hj;rw [RB ex,RB ey] at q
 rw [ltAt'_eq];exact A6 (JR (A6 (BB ex (A6 (BB ey (H _ _ _ _ (h.kind.trans hk) dx dy q))))))
theorem cT (H : PP prog w A E s kd D κ) {st : SortSt} {lo n ok : Nat} {Q : Bool -> SortSt -> Prop} (hk : kindOf st0 = kd) (hD : ∀ x ∈ (arrOf st0).toList, D x) (hn : lo + n <= (arrOf st0).size) (hok : ok <= n) (hS : SE st0 st lo n) (hs : Sg κ (arrOf st) lo ok)
 (q:∀st',SE st0 st' lo n->Sg κ (arrOf st') lo n->Q true st'):wpS (model prog w) A E s (binarySort' lo n ok) Q st:=by
 refine A6 (EN (CZ (I:=fun k c st'=>c=(none,())/\SE st0 st' lo n/\Sg κ (arrOf st') lo (min k n))
  (Q:=fun c st'=>c=(none,())/\SE st0 st' lo n/\Sg κ (arrOf st') lo n) ?s1 ?f1 ?i1) ?p1)
 case p1=>
  rintro c st' ⟨rfl,h1,h2⟩;exact A7 (q st' h1 h2)
 case i1=>
  refine ⟨rfl,hS,fun i j h1 h2 h3=> ?_⟩
  by_cases h0:ok=0
  . have:i=j:=by omega
    subst this;exact FK _
  . exact hs i j h1 h2 (by omega)
 case f1=>
  rintro c st' ⟨hc,h1,h2⟩;refine ⟨hc,h1,?_⟩
  rwa [show min (max (max ok 1) n) n=n by omega] at h2
 case s1=>
  rintro k c st1 hk1 hkn ⟨rfl,h1,h2⟩;rw [show min k n=k by omega] at h2
  dsimp only
  refine A6 (EN (CZ (I := fun x c st' => st' = st1 /\ ∃ l r, c = (none, l, r) /\ l <= r /\ r <= k /\ r - l <= k - x /\
   (∀i,lo<=i->i<lo+l->kk κ (arrOf st1) i<=kk κ (arrOf st1) (lo+k))/\(∀i,lo+r<=i->i<lo+k->kk κ (arrOf st1) (lo+k)<kk κ (arrOf st1) i))
   (Q:=fun c st'=>st'=st1/\∃l,c=(none,l,l)/\l<=k /\
    (∀i,lo<=i->i<lo+l->kk κ (arrOf st1) i<=kk κ (arrOf st1) (lo+k))/\(∀i,lo+l<=i->i<lo+k->kk κ (arrOf st1) (lo+k)<kk κ (arrOf st1) i)) ?s2 ?f2 ?i2) ?p2)
  case i2=>exact ⟨rfl,0,k,rfl,by omega,by omega,by omega,fun i _ hi=>by omega,fun i h1 h2=>by omega⟩
  case f2=>
   rintro c st' ⟨rfl,l,r,rfl,g1,g2,g3,g4,g5⟩;have:l=r:=by omega
   subst this;exact ⟨rfl,l,rfl,g2,g4,g5⟩
  case s2=>
   rintro x c st' _ hx ⟨rfl,l,r,rfl,g1,g2,g3,g4,g5⟩
   dsimp only
   by_cases hge:l≥r
   . rw [AB hge];have:l=r:=by omega
     subst this;exact A7 ⟨rfl,l,rfl,g2,g4,g5⟩
   . rw [A8 hge];refine A6 (MC H h1 hk hD (by omega) (by omega) ?_)
     by_cases hlt:kk κ (arrOf st') (lo+k)<kk κ (arrOf st') (lo+(l+r) / 2)
     . rw [AS hlt]
       dsimp only
       rw [AB rfl];refine A7 ⟨rfl,l,(l+r) / 2,rfl,by omega,by omega,by omega,g4,fun i h6 h7=> ?_⟩;have:=h2 (lo+(l+r) / 2) i (by omega) h6 h7;omega
     . rw [AV hlt]
       dsimp only
       rw [A8 (by simp)];refine A7 ⟨rfl,(l+r) / 2+1,r,rfl,by omega,by omega,by omega,fun i h6 h7=> ?_,g5⟩;have:=h2 i (lo+(l+r) / 2) h6 (by omega) (by omega);omega
  case p2=>
   rintro c st' ⟨rfl,l,rfl,g2,g4,g5⟩
   dsimp only
   have hsz:lo+k<(arrOf st').size:=by rw [h1.size];omega
   refine A6 (m:=moveDown' (lo+k) (lo+l)) ?_;rw [moveDown'_eq];refine FL (A7 ⟨rfl,h1.set (bubble_perm _ _ _) (eV hsz (by omega) (by omega) (by omega)),?_⟩);rw [show min (k+1) n=k+1 by omega];intro i j h6 h7 h8;show kk κ (bubble (arrOf st') (lo+k) (lo+k - (lo+l))) i<=kk κ (bubble (arrOf st') (lo+k) (lo+k - (lo+l))) j;rw [UN hsz (by omega),UN hsz (by omega),show lo+k - (lo+k - (lo+l))=lo+l by omega]
   repeat' split
   all_goals first
    | (exfalso;omega)
    | exact FK _
    | exact g4 _ (by omega) (by omega)
    | exact D7 (g5 _ (by omega) (by omega))
    | exact h2 _ _ (by omega) (by omega) (by omega)
end
end Ts
namespace Ts
open PySem PyProof.Rows
section
variable {prog:Program} {w:World} {A:Around} {E:Value->Shared->Prop} {s:Shared} {kd:SortKind} {D:Keyed->Prop} {κ:Keyed->Int} {st0:SortSt}
theorem PQ (H : PP prog w A E s kd D κ) {st : SortSt} {lo nrem a : Nat} (hk : kindOf st0 = kd) (hD : ∀ x ∈ (arrOf st0).toList, D x) (hn : lo + nrem <= (arrOf st0).size) (h1 : 1 <= a) (h2 : a <= nrem) (hS : SE st0 st lo nrem) (hs : Sg κ (arrOf st) lo a) :
 wpS (model prog w) A E s (forIn [a:nrem] ((none,a):Option (Option Nat)×Nat) fun _ c=>do
  let o <-ltAt' (lo+c.2) (lo+c.2 - 1)
  match o with
  | some b=>if b=true then pure (ForInStep.done (none,c.2)) else pure (ForInStep.yield (none,c.2+1))
  | _=>pure (ForInStep.done (some none,c.2))) (fun c st'=>st'=st/\∃n,c=(none,n)/\a<=n/\n<=nrem/\Sg κ (arrOf st) lo n/\(n=nrem\/kk κ (arrOf st) (lo+n)<kk κ (arrOf st) (lo+n - 1))) st:=by
 refine CZ (I:=fun y c st'=>st'=st/\c=(none,y)/\Sg κ (arrOf st) lo y) ?s1 ?f1 ⟨rfl,rfl,hs⟩
 case f1=>
  rintro c st' ⟨rfl,rfl,g⟩;rw [show max a nrem=nrem by omega] at g ⊢
  exact ⟨rfl,nrem,rfl,h2,A9 _,g, .inl rfl⟩
 case s1=>
  rintro x c st' hx1 hx2 ⟨rfl,rfl,g⟩
  dsimp only
  refine A6 (MC H hS hk hD (by omega) (by omega) ?_)
  by_cases hlt:kk κ (arrOf st') (lo+x)<kk κ (arrOf st') (lo+x - 1)
  . rw [AS hlt]
    dsimp only
    rw [AB rfl];exact A7 ⟨rfl,x,rfl,hx1,by omega,g, .inr hlt⟩
  . rw [AV hlt]
    dsimp only
    rw [A8 (by simp)];refine A7 ⟨rfl,rfl,fun i j h3 h4 h5=> ?_⟩
    by_cases hj:j<lo+x
    . exact g i j h3 h4 hj
    . have hj':j=lo+x:=by omega
      subst hj'
      by_cases hi':i=lo+x
      . subst hi';exact FK _
      . have:=g i (lo+x - 1) h3 (by omega) (by omega);omega
theorem bU (H : PP prog w A E s kd D κ) {st : SortSt} {lo nrem : Nat} {Q : Option Nat -> SortSt -> Prop} (hk : kindOf st0 = kd) (hD : ∀ x ∈ (arrOf st0).toList, D x) (hn : lo + nrem <= (arrOf st0).size) (h1 : 1 <= nrem) (hS : SE st0 st lo nrem)
 (q:∀m st',SE st0 st' lo nrem->1<=m->m<=nrem->Sg κ (arrOf st') lo m->Q (some m) st'):wpS (model prog w) A E s (countRun' lo nrem) Q st:=by
 refine A6 (EN (PQ H hk hD hn (A9 1) h1 hS (fun i j g1 g2 g3=>by have:i=j:=(by omega);subst this;exact FK _)) ?p1);rintro c st' ⟨rfl,n,rfl,n1,n2,hG0,hor⟩
 dsimp only
 by_cases e1:n=nrem
 . rw [AB (by simpa using e1)];exact A7 (q n st' hS n1 n2 hG0)
 rw [A8 (by simpa using e1)];have hlt:kk κ (arrOf st') (lo+n)<kk κ (arrOf st') (lo+n - 1):=hor.resolve_left e1
 by_cases e2:n>1
 . rw [AB     e2];refine A6 (MC H hS hk hD (by omega) (by omega) ?_)
   by_cases hr:kk κ (arrOf st') lo<kk κ (arrOf st') (lo+n - 1)
   . rw [AS hr]
     dsimp only
     rw [AB rfl];exact A7 (q n st' hS n1 n2 hG0)
   . rw [AV hr]
     dsimp only
     rw [A8 (by simp)];have hzz:lo+n<=(arrOf st').size:=by rw [hS.size];omega
     have hall:∀k,lo<=k->k<lo+n->kk κ (arrOf st') k=kk κ (arrOf st') (lo+n - 1):=fun k h3 h4=>by
      have a1:=hG0 lo k (by omega) h3 h4;have a2:=hG0 k (lo+n - 1) h3 (by omega) (by omega);omega
     refine A6 (KL ?_);have hS2:=hS.set (KM (arrOf st') lo (lo+n) ((lo+n - lo) / 2)) (GS hzz (A9 _) (by omega))
     have hN:Ni κ (arrOf (setArr st' (mirror (arrOf st') lo (lo+n) ((lo+n - lo) / 2)))) lo (n+1):=fun i j h3 h4 h5=>by
      show kk κ (mirror (arrOf st') _ _ _) j<=kk κ (mirror (arrOf st') _ _ _) i;rw [FI hzz hall,FI hzz hall]
      by_cases hj:j<lo+n
      . rw [hall i h3 (by omega),hall j (by omega) hj];exact FK _
      . have hj':j=lo+n:=by omega
        subst hj'
        by_cases hi':i=lo+n
        . subst hi';exact FK _
        . rw [hall i h3 (by omega)];omega
     clear hall hlt hr hG0 hor hzz;generalize setArr st' (mirror (arrOf st') lo (lo+n) ((lo+n - lo) / 2))=st2 at hS2 hN ⊢
     refine A6 (TM (KP ⟨rfl,?_⟩))
     refine A6 (EN (CZ (I:=fun x c st'=>∃nq,c=(none,x,nq)/\SE st0 st' lo nrem/\Ni κ (arrOf st') lo x/\nq+1<=x/\(∀i,lo+x - (nq+1)<=i->i<lo+x->kk κ (arrOf st') i=kk κ (arrOf st') (lo+x - 1)))
      (Q:=fun c st'=>∃m nq,c=(none,m,nq)/\SE st0 st' lo nrem/\1<=m/\m<=nrem/\Ni κ (arrOf st') lo m/\nq+1<=m/\(∀i,lo+m - (nq+1)<=i->i<lo+m->kk κ (arrOf st') i=kk κ (arrOf st') (lo+m - 1))) ?s2 ?f2 ?i2) ?p2)
     case i2=>exact ⟨0,rfl,hS2,hN,by omega,fun i h1 h2=>by congr 1;omega⟩
     case f2=>
      rintro c st' ⟨nq,rfl,g1,g2,g3,g4⟩;rw [show max (n+1) nrem=nrem by omega] at g2 g3 g4 ⊢
      exact ⟨nrem,nq,rfl,g1,h1,A9 _,g2,g3,g4⟩
     case s2=>
      rintro x c st' hx1 hx2 ⟨nq,rfl,g1,g2,g3,g4⟩
      dsimp only
      have hz:lo+x<=(arrOf st').size:=by rw [g1.size];omega
      refine A6 (MC H g1 hk hD (by omega) (by omega) ?_)
      by_cases hlt:kk κ (arrOf st') (lo+x)<kk κ (arrOf st') (lo+x - 1)
      . rw [AS hlt]
        dsimp only
        rw [AB rfl]
        have step:∀xs:Array Keyed,(∀k,kk κ xs k=kk κ (arrOf st') k)->Ni κ xs lo (x+1):=by
         intro xs hxs i j h1 h2 h3;rw [hxs,hxs]
         by_cases hj:j<lo+x
         . exact g2 i j h1 h2 hj
         . have hj':j=lo+x:=by omega
           subst hj'
           by_cases hi':i=lo+x
           . subst hi';exact FK _
           . have:=g2 i (lo+x - 1) h1 (by omega) (by omega);omega
        by_cases hq:nq>0
        . rw [AB hq];refine A6 (KL (A7 ⟨0,rfl,g1.set (KM _ _ _ _) (GS hz (by omega) (by omega)),step _ (FI hz g4),by omega,fun i h1 h2=>by congr 1;omega⟩))
        . rw [A8 hq];exact A7 ⟨0,rfl,g1,step _ (fun _=>rfl),by omega,fun i h1 h2=>by congr 1;omega⟩
      . rw [AV hlt]
        dsimp only
        rw [A8 (by simp)];refine A6 (MC H g1 hk hD (by omega) (by omega) ?_)
        by_cases hgt:kk κ (arrOf st') (lo+x - 1)<kk κ (arrOf st') (lo+x)
        . rw [AS hgt]
          dsimp only
          rw [AB rfl];exact A7 ⟨x,nq,rfl,g1,by omega,by omega,g2,g3,g4⟩
        . rw [AV hgt]
          dsimp only
          rw [A8 (by simp)];have he:kk κ (arrOf st') (lo+x)=kk κ (arrOf st') (lo+x - 1):=by omega
          refine A7 ⟨nq+1,rfl,g1,fun i j h1 h2 h3=> ?_,by omega,fun i h1 h2=> ?_⟩
          . by_cases hj:j<lo+x
            . exact g2 i j h1 h2 hj
            . have hj':j=lo+x:=by omega
              subst hj'
              by_cases hi':i=lo+x
              . subst hi';exact FK _
              . rw [he];exact g2 i (lo+x - 1) h1 (by omega) (by omega)
          . rw [show lo+(x+1) - 1=lo+x by omega]
            by_cases hi':i=lo+x
            . subst hi';rfl
            . rw [he];exact g4 i (by omega) (by omega)
     case p2=>
      rintro c st3 ⟨m,nq,rfl,hS3,m1,m2,hN3,m4,m5⟩
      dsimp only
      have hz0:lo+m<=(arrOf st3).size:=by rw [hS3.size];omega
      by_cases hq:nq>0
      . rw [AB hq];refine A6 (KL ?_)
        replace hS3:=hS3.set (KM (arrOf st3) (lo+m - (nq+1)) (lo+m) ((lo+m - (lo+m - (nq+1))) / 2)) (GS hz0 (by omega) (by omega))
        replace hN3:Ni κ (arrOf (setArr st3 (mirror (arrOf st3) (lo+m - (nq+1)) (lo+m) ((lo+m - (lo+m - (nq+1))) / 2)))) lo m:=fun i j h1 h2 h3=>by
         show kk κ (mirror (arrOf st3) _ _ _) j<=kk κ (mirror (arrOf st3) _ _ _) i;rw [FI hz0 m5,FI hz0 m5];exact hN3 i j h1 h2 h3
        clear hz0 m5;generalize setArr st3 (mirror (arrOf st3) (lo+m - (nq+1)) (lo+m) ((lo+m - (lo+m - (nq+1))) / 2))=st5 at hS3 hN3 ⊢
        have hz3:lo+m<=(arrOf st5).size:=by rw [hS3.size];omega
        refine A6 (KL ?_);have hS4:=hS3.set (KM (arrOf st5) lo (lo+m) ((lo+m - lo) / 2)) (GS hz3 (A9 _) (by omega))
        have hG:Sg κ (mirror (arrOf st5) lo (lo+m) ((lo+m - lo) / 2)) lo m:=fun i j h1 h2 h3=>by
         rw [GP hz3,GP hz3,AB (by omega),AB (by omega)];exact hN3 _ _ (by omega) (by omega) (by omega)
        exact A6 (EN (PQ H hk hD hn (by omega) (by omega) hS4 hG) fun c st' hc=>by
         obtain ⟨rfl,n',rfl,g1,g2,g3,_⟩:=hc;exact A7 (q n' _ hS4 (by omega) g2 g3))
      . rw [A8 hq];have hz3:lo+m<=(arrOf st3).size:=by rw [hS3.size];omega
        refine A6 (KL ?_);have hS4:=hS3.set (KM (arrOf st3) lo (lo+m) ((lo+m - lo) / 2)) (GS hz3 (A9 _) (by omega))
        have hG:Sg κ (mirror (arrOf st3) lo (lo+m) ((lo+m - lo) / 2)) lo m:=fun i j h1 h2 h3=>by
         rw [GP hz3,GP hz3,AB (by omega),AB (by omega)];exact hN3 _ _ (by omega) (by omega) (by omega)
        exact A6 (EN (PQ H hk hD hn (by omega) (by omega) hS4 hG) fun c st' hc=>by
         obtain ⟨rfl,n',rfl,g1,g2,g3,_⟩:=hc;exact A7 (q n' _ hS4 (by omega) g2 g3))
 . rw [A8 e2];have hn1:n=1:=by omega
   have hS2:=hS
   have hN:Ni κ (arrOf st') lo (n+1):=fun i j h3 h4 h5=>by
    by_cases hi':i=j
    . subst hi';exact FK _
    . have hi0:i=lo:=by omega
      have hj1:j=lo+1:=by omega
      subst hi0;subst hj1;subst hn1;have:i+1 - 1=i:=by omega
      rw [this] at hlt
      omega
   clear hlt hG0 hor;refine A6 (TM (KP ⟨rfl,?_⟩))
   refine A6 (EN (CZ (I:=fun x c st'=>∃nq,c=(none,x,nq)/\SE st0 st' lo nrem/\Ni κ (arrOf st') lo x/\nq+1<=x/\(∀i,lo+x - (nq+1)<=i->i<lo+x->kk κ (arrOf st') i=kk κ (arrOf st') (lo+x - 1)))
    (Q:=fun c st'=>∃m nq,c=(none,m,nq)/\SE st0 st' lo nrem/\1<=m/\m<=nrem/\Ni κ (arrOf st') lo m/\nq+1<=m/\(∀i,lo+m - (nq+1)<=i->i<lo+m->kk κ (arrOf st') i=kk κ (arrOf st') (lo+m - 1))) ?s2 ?f2 ?i2) ?p2)
   case i2=>exact ⟨0,rfl,hS2,hN,by omega,fun i h1 h2=>by congr 1;omega⟩
   case f2=>
    rintro c st' ⟨nq,rfl,g1,g2,g3,g4⟩;rw [show max (n+1) nrem=nrem by omega] at g2 g3 g4 ⊢
    exact ⟨nrem,nq,rfl,g1,h1,A9 _,g2,g3,g4⟩
   case s2=>
    rintro x c st' hx1 hx2 ⟨nq,rfl,g1,g2,g3,g4⟩
    dsimp only
    have hz:lo+x<=(arrOf st').size:=by rw [g1.size];omega
    refine A6 (MC H g1 hk hD (by omega) (by omega) ?_)
    by_cases hlt:kk κ (arrOf st') (lo+x)<kk κ (arrOf st') (lo+x - 1)
    . rw [AS hlt]
      dsimp only
      rw [AB rfl]
      have step:∀xs:Array Keyed,(∀k,kk κ xs k=kk κ (arrOf st') k)->Ni κ xs lo (x+1):=by
       intro xs hxs i j h1 h2 h3;rw [hxs,hxs]
       by_cases hj:j<lo+x
       . exact g2 i j h1 h2 hj
       . have hj':j=lo+x:=by omega
         subst hj'
         by_cases hi':i=lo+x
         . subst hi';exact FK _
         . have:=g2 i (lo+x - 1) h1 (by omega) (by omega);omega
      by_cases hq:nq>0
      . rw [AB hq];refine A6 (KL (A7 ⟨0,rfl,g1.set (KM _ _ _ _) (GS hz (by omega) (by omega)),step _ (FI hz g4),by omega,fun i h1 h2=>by congr 1;omega⟩))
      . rw [A8 hq];exact A7 ⟨0,rfl,g1,step _ (fun _=>rfl),by omega,fun i h1 h2=>by congr 1;omega⟩
    . rw [AV hlt]
      dsimp only
      rw [A8 (by simp)];refine A6 (MC H g1 hk hD (by omega) (by omega) ?_)
      by_cases hgt:kk κ (arrOf st') (lo+x - 1)<kk κ (arrOf st') (lo+x)
      . rw [AS hgt]
        dsimp only
        rw [AB rfl];exact A7 ⟨x,nq,rfl,g1,by omega,by omega,g2,g3,g4⟩
      . rw [AV hgt]
        dsimp only
        rw [A8 (by simp)];have he:kk κ (arrOf st') (lo+x)=kk κ (arrOf st') (lo+x - 1):=by omega
        refine A7 ⟨nq+1,rfl,g1,fun i j h1 h2 h3=> ?_,by omega,fun i h1 h2=> ?_⟩
        . by_cases hj:j<lo+x
          . exact g2 i j h1 h2 hj
          . have hj':j=lo+x:=by omega
            subst hj'
            by_cases hi':i=lo+x
            . subst hi';exact FK _
            . rw [he];exact g2 i (lo+x - 1) h1 (by omega) (by omega)
        . rw [show lo+(x+1) - 1=lo+x by omega]
          by_cases hi':i=lo+x
          . subst hi';rfl
          . rw [he];exact g4 i (by omega) (by omega)
   case p2=>
    rintro c st3 ⟨m,nq,rfl,hS3,m1,m2,hN3,m4,m5⟩
    dsimp only
    have hz0:lo+m<=(arrOf st3).size:=by rw [hS3.size];omega
    by_cases hq:nq>0
    . rw [AB hq];refine A6 (KL ?_)
      replace hS3:=hS3.set (KM (arrOf st3) (lo+m - (nq+1)) (lo+m) ((lo+m - (lo+m - (nq+1))) / 2)) (GS hz0 (by omega) (by omega))
      replace hN3:Ni κ (arrOf (setArr st3 (mirror (arrOf st3) (lo+m - (nq+1)) (lo+m) ((lo+m - (lo+m - (nq+1))) / 2)))) lo m:=fun i j h1 h2 h3=>by
       show kk κ (mirror (arrOf st3) _ _ _) j<=kk κ (mirror (arrOf st3) _ _ _) i;rw [FI hz0 m5,FI hz0 m5];exact hN3 i j h1 h2 h3
      clear hz0 m5;generalize setArr st3 (mirror (arrOf st3) (lo+m - (nq+1)) (lo+m) ((lo+m - (lo+m - (nq+1))) / 2))=st5 at hS3 hN3 ⊢
      have hz3:lo+m<=(arrOf st5).size:=by rw [hS3.size];omega
      refine A6 (KL ?_);have hS4:=hS3.set (KM (arrOf st5) lo (lo+m) ((lo+m - lo) / 2)) (GS hz3 (A9 _) (by omega))
      have hG:Sg κ (mirror (arrOf st5) lo (lo+m) ((lo+m - lo) / 2)) lo m:=fun i j h1 h2 h3=>by
       rw [GP hz3,GP hz3,AB (by omega),AB (by omega)];exact hN3 _ _ (by omega) (by omega) (by omega)
      exact A6 (EN (PQ H hk hD hn (by omega) (by omega) hS4 hG) fun c st' hc=>by
       obtain ⟨rfl,n',rfl,g1,g2,g3,_⟩:=hc;exact A7 (q n' _ hS4 (by omega) g2 g3))
    . rw [A8 hq];have hz3:lo+m<=(arrOf st3).size:=by rw [hS3.size];omega
      refine A6 (KL ?_);have hS4:=hS3.set (KM (arrOf st3) lo (lo+m) ((lo+m - lo) / 2)) (GS hz3 (A9 _) (by omega))
      have hG:Sg κ (mirror (arrOf st3) lo (lo+m) ((lo+m - lo) / 2)) lo m:=fun i j h1 h2 h3=>by
       rw [GP hz3,GP hz3,AB (by omega),AB (by omega)];exact hN3 _ _ (by omega) (by omega) (by omega)
      exact A6 (EN (PQ H hk hD hn (by omega) (by omega) hS4 hG) fun c st' hc=>by
       obtain ⟨rfl,n',rfl,g1,g2,g3,_⟩:=hc;exact A7 (q n' _ hS4 (by omega) g2 g3))
end
end Ts
namespace Ts
open PySem PyProof.Rows
theorem XW(sa:Nat):∀(l:List Keyed) (k:Nat) (arr:Array Keyed),sa+k+l.length<=arr.size->((l.zipIdx k).foldl (fun a x=>a.setIfInBounds (sa+x.2) x.1) arr).toList=arr.toList.take (sa+k)++l++arr.toList.drop (sa+k+l.length)
 | [],k,arr,h=>by simp
 | p::l,k,arr,h=>by
  have hl:sa+k<arr.toList.length:=by rw [BO];simp only [B4] at h;omega
  rw [L8,QK,XW sa l (k+1) _ (by simp only [B4] at h;simp;omega)]
  dsimp only
  rw [Array.toList_setIfInBounds,B4]
  have e1:(arr.toList.set (sa+k) p).take (sa+(k+1))=arr.toList.take (sa+k) ++ [p]:=by
   rw [List.set_eq_take_append_cons_drop,AB hl, <-J0,List.take_append,DK,JF (by omega),show sa+k+1 - (sa+k)=1 by omega,B6 (by simp;omega)];rfl
  have e2:(arr.toList.set (sa+k) p).drop (sa+(k+1)+l.length)=arr.toList.drop (sa+k+(l.length+1)):=by
   rw [List.drop_set_of_lt (by omega)];congr 1
   omega
  rw [e1,e2];simp
section
variable {κ:Keyed->Int} {arr:Array Keyed} {i j lo n m:Nat}
theorem LS(h:Sg κ arr lo n){x y:Keyed}(h1:lo<=i)(h2:i<=j)(h3:j<lo+n)(hx:arr[i]? = some x)(hy:arr[j]? = some y):κ x<=κ y:=by
 have:=h i j h1 h2 h3
 rwa [RB hx,RB hy] at this
theorem W7{l:List Keyed}(h:∀(i j:Nat) x y,i<=j->l[i]? = some x->l[j]? = some y->κ x<=κ y):Srt κ l:=by
 refine n0.mpr fun i j hi hj hij=>h i j _ _ (by omega) (AE hi) (AE hj)
theorem JY{x:Keyed}{l:List Keyed}(h:((l.drop i).take m)[j]? = some x):j<m/\l[i+j]? = some x:=by
 rw [JK] at h
 split at h
 . rw [JJ] at h;exact ⟨by assumption,h⟩
 . cases h
theorem R8(h:Sg κ arr lo n)(h1:lo<=i)(h2:i+m<=lo+n):Srt κ ((arr.toList.drop i).take m):=W7 fun a b x y hab hx hy=>by
 obtain ⟨a1,a2⟩:=JY hx;obtain ⟨b1,b2⟩:=JY hy;rw [AI] at a2 b2
 exact LS h (by omega) (by omega) (by omega) a2 b2
theorem nI(h:Sg κ arr 0 arr.size):Srt κ arr.toList:=W7 fun a b x y hab hx hy=>by
 rw [AI] at hx hy
 exact LS h (by omega) hab (by have:=(EI.mp hy).1;omega) hx hy
end
theorem q5{M:Model}{A:Around}{E:Value->Shared->Prop}{s:Shared}{σ:Type}{t:σ}{Q:PUnit->σ->Prop}{st:σ}(h:Q ⟨⟩ t):wpS M A E s (set t:StateT σ Sem PUnit) Q st:=by
 unfold wpS;rw [StateT.run_set];exact wpAny_pure ⟨rfl,h⟩
section
variable {prog:Program} {w:World} {A:Around} {E:Value->Shared->Prop} {s:Shared} {kd:SortKind} {D:Keyed->Prop} {κ:Keyed->Int}
theorem nX (H : PP prog w A E s kd D κ) {st : SortSt} {n1 n2 p : Nat} {Q : Bool -> SortSt -> Prop} (hk : kindOf st = kd) (hD : ∀ x ∈ (arrOf st).toList, D x) (hp : pendingOf st = #[(0, n1, p), (n1, n2, 0)]) (h1 : 1 <= n1) (h2 : 1 <= n2) (hz : n1 + n2 = (arrOf st).size) (hf : failedOf st = none)
 (g1:Sg κ (arrOf st) 0 n1) (g2:Sg κ (arrOf st) n1 n2) (q:∀st',failedOf st'=none->pendingOf st' = #[(0,n1+n2,p)]->(arrOf st').Perm (arrOf st)->Srt κ (arrOf st').toList->Q true st'):wpS (model prog w) A E s (mergeAt' 0) Q st:=by
 obtain ⟨kd',arr,pend,g,fl⟩:=st
 replace hp:pend=_:=hp
 replace hf:fl=none:=hf
 replace hD:∀x ∈ arr.toList,D x:=hD
 replace hz:n1+n2=arr.size:=hz
 replace g1:Sg κ arr 0 n1:=g1
 replace g2:Sg κ arr n1 n2:=g2
 replace q:∀st',failedOf st'=none->pendingOf st' = #[(0,n1+n2,p)]->(arrOf st').Perm arr->Srt κ (arrOf st').toList->Q true st':=q
 subst hp hf;have hd:∀(i:Nat) x,arr[i]? = some x->D x:=fun i x hx=>hD x (by rw [<-AI] at hx;exact BC hx)
 have hpd:(#[(0,n1,p),(n1,n2,0)].setIfInBounds 0 (0,n1+n2,p)).eraseIdxIfInBounds (0+1) = #[(0,n1+n2,p)]:=by
  simp [Array.eraseIdxIfInBounds]
 refine A6 (JR ?_);refine A6 (q5 ?_);obtain ⟨b0,eb0⟩:∃x,arr[n1]? = some x:=⟨_,BS arr n1 (by omega)⟩;obtain ⟨al,eal⟩:∃x,arr[n1 - 1]? = some x:=⟨_,BS arr (n1 - 1) (by omega)⟩;refine A6 (BB eb0 ?_);refine A6 (LO H hk (hd _ _ eb0) (by omega) (show 0+n1<=arr.size by omega) hd (fun i j x y a1 a2 a3 hx hy=>LS g1 a1 a2 a3 hx hy) fun k k1 k2 k3=> ?_)
 dsimp only
 by_cases e1:n1 - k=0
 . rw [AB (by simpa using e1)];refine A7 (q _ rfl hpd (LZ _) (W7 fun i j x y hij hx hy=> ?_));rw [AI] at hx hy
   have hjz:=(EI.mp hy).1
   replace hx:arr[i]? = some x:=hx
   replace hy:arr[j]? = some y:=hy
   replace hjz:j<arr.size:=hjz
   by_cases c1:j<n1
   . exact LS g1 (by omega) hij (by omega) hx hy
   . by_cases c2:n1<=i
     . exact LS g2 c2 hij (by omega) hx hy
     . have a1:=k2 i (by omega) x (by rw [C8];exact hx);have a2:=LS g2 (A9 _) (by omega) (by omega) eb0 hy;omega
 rw [A8 (by simpa using e1)];refine A6 (BB (p:=al) (by rw [show 0+k+(n1 - k) - 1=n1 - 1 by omega];exact eal) ?_);refine A6 (IE H hk (hd _ _ eal) (by omega) (show n1+n2<=arr.size by omega) hd (fun i j x y a1 a2 a3 hx hy=>LS g2 a1 a2 a3 hx hy) fun m m1 m2 m3=> ?_)
 dsimp only
 have T1:∀(i j:Nat) x y,i<k->n1<=j->j<arr.size->arr[i]? = some x->arr[j]? = some y->κ x<=κ y:=fun i j x y c1 c2 c3 hx hy=>by
  have a1:=k2 i c1 x (by rw [C8];exact hx);have a2:=LS g2 (A9 _) c2 (by omega) eb0 hy;omega
 have T2:∀(i j:Nat) x y,i<n1->n1+m<=j->j<arr.size->arr[i]? = some x->arr[j]? = some y->κ x<=κ y:=fun i j x y c1 c2 c3 hx hy=>by
  have a1:=LS g1 (CK _) (show i<=n1 - 1 by omega) (by omega) hx eal;have a2:=m3 (j - n1) (by omega) (by omega) y (by rw [show n1+(j - n1)=j by omega];exact hy);omega
 by_cases e2:m=0
 . rw [AB (by simpa using e2)];refine A7 (q _ rfl hpd (LZ _) (W7 fun i j x y hij hx hy=> ?_));rw [AI] at hx hy
   have hjz:=(EI.mp hy).1
   replace hx:arr[i]? = some x:=hx
   replace hy:arr[j]? = some y:=hy
   replace hjz:j<arr.size:=hjz
   by_cases c1:j<n1
   . exact LS g1 (by omega) hij (by omega) hx hy
   . by_cases c2:n1<=i
     . exact LS g2 c2 hij (by omega) hx hy
     . exact T2 i j x y (by omega) (by omega) hjz hx hy
 rw [A8 (by simpa using e2)]
 have dxs:∀(i:Nat) x,(arr.extract (0+k) n1)[i]? = some x->D x:=fun i x hx=>by
  rw [<-AI,EY] at hx
  obtain ⟨_,b2⟩:=JY hx;rw [AI] at b2
  exact hd _ _ b2
 have dys:∀(i:Nat) x,(arr.extract n1 (n1+m))[i]? = some x->D x:=fun i x hx=>by
  rw [<-AI,EY] at hx
  obtain ⟨_,b2⟩:=JY hx;rw [AI] at b2
  exact hd _ _ b2
 have zx:(arr.extract (0+k) n1).size=n1 - k:=by rw [A67];omega
 have zy:(arr.extract n1 (n1+m)).size=m:=by rw [A67];omega
 have sx:Srt κ (arr.extract (0+k) n1).toList:=by rw [EY];exact R8 g1 (by omega) (by omega)
 have sy:Srt κ (arr.extract n1 (n1+m)).toList:=by rw [EY];exact R8 g2 (by omega) (by omega)
 have mx:∀x ∈ (arr.extract (0+k) n1).toList,∃i,k<=i/\i<n1/\arr[i]? = some x:=fun x hx=>by
  rw [EY] at hx
  obtain ⟨t,ht,e⟩:=GQ hx;rw [AI] at e
  exact ⟨0+k+t,by omega,by omega,e⟩
 have my:∀y ∈ (arr.extract n1 (n1+m)).toList,∃j,n1<=j/\j<n1+m/\arr[j]? = some y:=fun y hy=>by
  rw [EY] at hy
  obtain ⟨t,ht,e⟩:=GQ hy;rw [AI] at e
  exact ⟨n1+t,by omega,by omega,e⟩
 have hl:∀x,(arr.extract (0+k) n1)[(arr.extract (0+k) n1).size - 1]? = some x->∀y ∈ (arr.extract n1 (n1+m)).toList,κ y<=κ x:=fun x hx y hy=>by
  rw [<-AI,EY,zx] at hx
  obtain ⟨_,b2⟩:=JY hx;rw [AI,show 0+k+(n1 - k - 1)=n1 - 1 by omega,eal] at b2
  obtain ⟨j,j1,j2,ej⟩:=my y hy;have:=m2 (j - n1) (by omega) y (by rw [show n1+(j - n1)=j by omega];exact ej)
  cases b2
  omega
 have hf0:∀y,(arr.extract n1 (n1+m))[0]? = some y->∀x ∈ (arr.extract (0+k) n1).toList,κ y<=κ x:=fun y hy x hx=>by
  rw [<-AI,EY] at hy
  obtain ⟨_,b2⟩:=JY hy;rw [AI,KB,eb0] at b2
  obtain ⟨i,i1,i2,ei⟩:=mx x hx;have:=k3 i (by omega) (by omega) x (by rw [C8];exact ei)
  cases b2
  omega
 have fin:∀r,Mr κ (arr.extract (0+k) n1) (arr.extract n1 (n1+m)) r->(List.foldl (fun a x=>a.setIfInBounds (0+k+x.2) x.1) arr r.toList.zipIdx).Perm arr/\Srt κ (List.foldl (fun a x=>a.setIfInBounds (0+k+x.2) x.1) arr r.toList.zipIdx).toList:=fun r hr=>by
  obtain ⟨p1,p2⟩:=hr
  have hlen:r.toList.length=n1 - k+m:=by
   have:=p1.length_eq;rw [AZ,BO,BO,BO,zx,zy] at this
   rw [BO];exact this
  have e:=XW (0+k) r.toList 0 arr (by rw [hlen];omega);rw [hlen,show 0+k+0=k by omega,show k+(n1 - k+m)=n1+m by omega] at e
  have ed:arr.toList=arr.toList.take k++((arr.extract (0+k) n1).toList++(arr.extract n1 (n1+m)).toList)++arr.toList.drop (n1+m):=by
   rw [EY,EY,C8,show n1+m - n1=m by omega];have w1:=DZ k arr.toList;have w2:=DZ (n1 - k) (arr.toList.drop k);have w3:=DZ m (arr.toList.drop n1);rw [RR,show k+(n1 - k)=n1 by omega] at w2
   rw [RR] at w3
   rw [BP,BP,w3,w2,w1]
  constructor
  . refine EJ.mpr ?_;rw [e]
    conv=>rhs;rw [ed]
    exact (p1.append_left _).append_right _
  . rw [e]
    have mr:∀z ∈ r.toList,(∃i,k<=i/\i<n1/\arr[i]? = some z)\/(∃j,n1<=j/\j<n1+m/\arr[j]? = some z):=fun z hz=>by
     rcases AW.mp (p1.mem_iff.mp hz) with hz | hz
     . exact .inl (mx z hz)
     . exact .inr (my z hz)
    have mt:∀z ∈ arr.toList.take k,∃i,i<k/\arr[i]? = some z:=fun z hz=>HP hz;have md:∀z ∈ arr.toList.drop (n1+m),∃t,arr[n1+m+t]? = some z/\n1+m+t<arr.size:=fun z hz=>LW hz
    have s1:Srt κ (arr.toList.take k):=by
     have:=R8 (i:=0) (m:=k) g1 (by omega) (by omega)
     rwa [AA8] at this
    have s3:Srt κ (arr.toList.drop (n1+m)):=by
     have:=R8 (i:=n1+m) (m:=n2 - m) g2 (by omega) (by omega)
     rwa [B6 (by rw [FM,BO];omega)] at this
    refine Srt.app (Srt.app s1 p2 fun x hx z hz=> ?_) s3 fun x hx y hy=> ?_
    . obtain ⟨i,i1,ei⟩:=mt x hx;rcases mr z hz with ⟨j,j1,j2,ej⟩ | ⟨j,j1,j2,ej⟩
      . exact LS g1 (by omega) (by omega) (by omega) ei ej
      . exact T1 i j x z i1 j1 (by omega) ei ej
    . obtain ⟨t,et,ht⟩:=md y hy;rcases AW.mp hx with hx | hx
      . obtain ⟨i,i1,ei⟩:=mt x hx;exact T1 i _ x y i1 (by omega) ht ei et
      . rcases mr x hx with ⟨j,j1,j2,ej⟩ | ⟨j,j1,j2,ej⟩
        . exact T2 j _ x y j2 (by omega) ht ej et
        . exact LS g2 j1 (by omega) (by omega) ej et
 by_cases e3:n1 - k<=m
 . rw [AB e3];refine A6 (pW H hk dxs dys (by rw [zx];omega) (by rw [zy];omega) sx sy (fun x y hx hy=>hf0 y hy x (by rw [<-AI] at hx;exact BC hx)) hl fun r st' hs hr=> ?_);refine A6 (FL (A6 (JR ?_)));obtain ⟨hr1,hr2⟩:=fin r hr;have ea:arrOf st'=arr:=hs.2.1;have hfl:failedOf st'=none:=hs.2.2.2
   have hb:((sortPriv% PySem.Builtin.SortState.failed) st').isNone=true:=by
    show (failedOf st').isNone=true;rw [hfl];rfl
   refine A7 ?_;show Q ((sortPriv% PySem.Builtin.SortState.failed) st').isNone _;rw [hb];refine q _ hfl (hs.2.2.1.trans hpd) ?_ ?_
   . show Array.Perm (List.foldl (fun a x=>a.setIfInBounds (0+k+x.2) x.1) (arrOf st') r.toList.zipIdx) arr;rw [ea];exact hr1
   . show Srt κ (List.foldl (fun a x=>a.setIfInBounds (0+k+x.2) x.1) (arrOf st') r.toList.zipIdx).toList;rw [ea];exact hr2
 . rw [A8 e3];refine A6 (o9 H hk dxs dys (by rw [zx];omega) (by rw [zy];omega) sx sy hf0 hl fun r st' hs hr=> ?_);refine A6 (FL (A6 (JR ?_)));obtain ⟨hr1,hr2⟩:=fin r hr;have ea:arrOf st'=arr:=hs.2.1;have hfl:failedOf st'=none:=hs.2.2.2
   have hb:((sortPriv% PySem.Builtin.SortState.failed) st').isNone=true:=by
    show (failedOf st').isNone=true;rw [hfl];rfl
   refine A7 ?_;show Q ((sortPriv% PySem.Builtin.SortState.failed) st').isNone _;rw [hb];refine q _ hfl (hs.2.2.1.trans hpd) ?_ ?_
   . show Array.Perm (List.foldl (fun a x=>a.setIfInBounds (0+k+x.2) x.1) (arrOf st') r.toList.zipIdx) arr;rw [ea];exact hr1
   . show Srt κ (List.foldl (fun a x=>a.setIfInBounds (0+k+x.2) x.1) (arrOf st') r.toList.zipIdx).toList;rw [ea];exact hr2
end
end Ts
namespace Ts
open PySem PyProof.Rows
theorem ZM{n:Nat}(h:1<=n)(h':n<128):n<=2*minRun' n n 0/\1<=minRun' n n 0:=by
 obtain ⟨f,rfl⟩:∃f,n=f+1:=⟨n - 1,by omega⟩;rw [minRun'_succ]
 split
 . omega
 . obtain ⟨g,rfl⟩:∃g,f=g+1:=⟨f - 1,by omega⟩;rw [minRun'_succ,AB (by omega)];omega
theorem WS{κ:Keyed->Int}{xs ys:Array Keyed}{lo n lo' n':Nat}(h:Sg κ xs lo n)(ho:Ou xs ys lo' n')(hd:lo+n<=lo'\/lo'+n'<=lo):Sg κ ys lo n:=fun i j h1 h2 h3=>by
 rw [KE (ho i (by omega)),KE (ho j (by omega))];exact h i j h1 h2 h3
section
variable {prog:Program} {w:World} {A:Around} {E:Value->Shared->Prop} {s:Shared} {kd:SortKind} {D:Keyed->Prop} {κ:Keyed->Int} {a₀:Array Keyed}
structure SX (kd:SortKind) (a₀:Array Keyed) (st:SortSt):Prop where
 kind:kindOf st=kd
 fail:failedOf st=none
 perm:(arrOf st).Perm a₀
theorem SX.se{st st':SortSt}{lo n:Nat}(h:SX kd a₀ st)(h':SE st st' lo n):SX kd a₀ st':=⟨h'.kind.trans h.kind,h'.fail.trans h.fail,h'.perm.trans h.perm⟩
theorem SX.size{st:SortSt}(h:SX kd a₀ st):(arrOf st).size=a₀.size:=h.perm.size_eq
theorem SX.dom{st:SortSt}(h:SX kd a₀ st)(hD:∀x ∈ a₀.toList,D x):∀x ∈ (arrOf st).toList,D x:=fun x hx=>hD x ((EJ.mp h.perm).mem_iff.mp hx)
theorem iJ (H : PP prog w A E s kd D κ) {st : SortSt} {Q : Unit -> SortSt -> Prop} (hD : ∀ x ∈ a₀.toList, D x) (hX : SX kd a₀ st) (hp : pendingOf st = #[]) (h2 : 2 <= a₀.size) (h128 : a₀.size < 128)
 (q:∀st',(arrOf st').Perm a₀->failedOf st'=none->Srt κ (arrOf st').toList->Q () st'):wpS (model prog w) A E s sortRuns' Q st:=by
 obtain ⟨r1,r2⟩:=ZM (n:=a₀.size) (by omega) h128;rw [sortRuns'_eq];refine A6 (JR ?_)
 dsimp only
 rw [hX.size];generalize minRun' a₀.size a₀.size 0=mr at r1 r2 ⊢
 refine A6 (EN (CZ
  (I:=fun x c st'=>SX kd a₀ st'/\((x=0/\c=(none,0)/\pendingOf st' = #[])\/(∃n1,1<=x/\c=(none,n1)/\1<=n1/\n1<=a₀.size/\(mr<=n1\/n1=a₀.size)/\(2<=x->n1=a₀.size)/\pendingOf st' = #[(0,n1,0)]/\Sg κ (arrOf st') 0 n1)\/(∃n1 n2 p,c=(none,a₀.size)/\1<=n1/\1<=n2/\n1+n2=a₀.size/\pendingOf st' = #[(0,n1,p),(n1,n2,0)]/\Sg κ (arrOf st') 0 n1/\Sg κ (arrOf st') n1 n2)))
  (Q:=fun c st'=>SX kd a₀ st'/\c=(none,a₀.size)/\((pendingOf st' = #[(0,a₀.size,0)]/\Sg κ (arrOf st') 0 a₀.size)\/(∃n1 n2 p,1<=n1/\1<=n2/\n1+n2=a₀.size/\pendingOf st' = #[(0,n1,p),(n1,n2,0)]/\Sg κ (arrOf st') 0 n1/\Sg κ (arrOf st') n1 n2))) ?s1 ?f1 ?i1) ?p1)
 case i1=>exact ⟨hX, .inl ⟨rfl,rfl,hp⟩⟩
 case f1=>
  rintro c st' ⟨hX',(⟨h,_⟩ | ⟨n1,_,rfl,_,_,_,h5,h6,h7⟩ | ⟨n1,n2,p,rfl,h3,h4,h5,h6,h7,h8⟩)⟩
  . omega
  . have:=h5 (by omega);subst this;exact ⟨hX',rfl, .inl ⟨h6,h7⟩⟩
  . exact ⟨hX',rfl, .inr ⟨n1,n2,p,h3,h4,h5,h6,h7,h8⟩⟩
 case p1=>
  rintro c st1 ⟨hX1,rfl,hc⟩
  dsimp only
  refine A6 (EN (CZ
   (I:=fun x c st'=>c=(none,())/\((x=0/\st'=st1)\/(∃y,pendingOf st' = #[y]/\(arrOf st').Perm a₀/\failedOf st'=none/\Srt κ (arrOf st').toList)))
   (Q:=fun c st'=>c=(none,())/\(arrOf st').Perm a₀/\failedOf st'=none/\Srt κ (arrOf st').toList) ?s2 ?f2 ?i2) ?p2)
  case i2=>exact ⟨rfl, .inl ⟨rfl,rfl⟩⟩
  case f2=>
   rintro c st' ⟨rfl,(⟨h,_⟩ | ⟨y,h3,h4,h5,h6⟩)⟩
   . omega
   . exact ⟨rfl,h4,h5,h6⟩
  case p2=>
   rintro c st' ⟨rfl,h4,h5,h6⟩;exact A7 (q st' h4 h5 h6)
  case s2=>
   rintro x c st' _ hx ⟨rfl,(⟨rfl,rfl⟩ | ⟨y,h3,h4,h5,h6⟩)⟩
   . refine A6 (JR ?_);rcases hc with ⟨hc1,hc2⟩ | ⟨n1,n2,p,c3,c4,c5,c6,c7,c8⟩
     . rw [hc1];rw [AB (show #[(0,a₀.size,0)].size<=1 from A9 1)];rw [<-hX1.size] at hc2
       exact A7 ⟨rfl,hX1.perm,hX1.fail,nI hc2⟩
     . rw [c6];rw [A8 (show ¬(#[(0,n1,p),(n1,n2,0)].size<=1) from by show ¬(2<=1);omega)];refine A6 (nX H hX1.kind (hX1.dom hD) c6 c3 c4 (by rw [hX1.size];exact c5) hX1.fail c7 c8 fun st2 d1 d2 d3 d4=> ?_);exact A7 ⟨rfl, .inr ⟨_,d2,d3.trans hX1.perm,d1,d4⟩⟩
   . refine A6 (JR ?_);rw [h3];rw [AB (show #[y].size<=1 from A9 1)];exact A7 ⟨rfl,h4,h5,h6⟩
 case s1=>
  rintro x c st1 _ hx ⟨hX1,(⟨rfl,rfl,hp1⟩ | ⟨n1,x1,rfl,m1,m2,m3,m4,m5,m6⟩ | ⟨n1,n2,p,rfl,h3,h4,h5,h6,h7,h8⟩)⟩
  . dsimp only
    rw [A8 (by omega)];refine A6 (bU H hX1.kind (hX1.dom hD) (by rw [hX1.size];omega) (by omega) SE.rfl' fun m st2 c1 c2 c3 c4=> ?_)
    dsimp only
    have X2:=hX1.se c1;have P2:pendingOf st2 = #[]:=c1.pend.trans hp1
    by_cases hlt:m<mr
    . rw [AB hlt];refine A6 (TM (KP ⟨rfl,?_⟩));refine A6 (cT H X2.kind (X2.dom hD) (by rw [X2.size];omega) (show m<=min (a₀.size - 0) mr by omega) SE.rfl' c4 fun st3 d1 d2=> ?_);have X3:=X2.se d1;have P3:pendingOf st3 = #[]:=d1.pend.trans P2;rw [A8 (by simp)];refine A6 (JR ?_);have hb:(pendingOf st3).back? = none:=by rw [P3];rfl
      rw [hb]
      dsimp only
      exact A6 (FL (A7 ⟨⟨X3.kind,X3.fail,X3.perm⟩, .inr (.inl ⟨_,by omega,rfl,by omega,by omega,by omega,fun _=>by omega,by show (pendingOf st3).push _=_;rw [P3,C8];rfl,by rw [C8];exact d2⟩)⟩))
    . rw [A8 hlt];refine A6 (JR ?_);have hb:(pendingOf st2).back? = none:=by rw [P2];rfl
      rw [hb]
      dsimp only
      exact A6 (FL (A7 ⟨⟨X2.kind,X2.fail,X2.perm⟩, .inr (.inl ⟨_,by omega,rfl,by omega,by omega,by omega,fun _=>by omega,by show (pendingOf st2).push _=_;rw [P2,C8];rfl,by rw [C8];exact c4⟩)⟩))
  . dsimp only
    by_cases hge:n1≥a₀.size
    . rw [AB hge];have:n1=a₀.size:=by omega
      subst this;exact A7 ⟨hX1,rfl, .inl ⟨m5,m6⟩⟩
    rw [A8 hge];have hmr:mr<=n1:=m3.resolve_right (by omega);refine A6 (bU H hX1.kind (hX1.dom hD) (by rw [hX1.size];omega) (by omega) SE.rfl' fun m st2 c1 c2 c3 c4=> ?_)
    dsimp only
    have X2:=hX1.se c1;have P2:pendingOf st2 = #[(0,n1,0)]:=c1.pend.trans m5;have G2:Sg κ (arrOf st2) 0 n1:=WS m6 c1.out (by omega)
    by_cases hlt:m<mr
    . rw [AB hlt];refine A6 (TM (KP ⟨rfl,?_⟩));refine A6 (cT H X2.kind (X2.dom hD) (by rw [X2.size];omega) (show m<=min (a₀.size - n1) mr by omega) SE.rfl' c4 fun st3 d1 d2=> ?_);have X3:=X2.se d1;have P3:pendingOf st3 = #[(0,n1,0)]:=d1.pend.trans P2;have G3:Sg κ (arrOf st3) 0 n1:=WS G2 d1.out (by omega);rw [show min (a₀.size - n1) mr=a₀.size - n1 by omega] at d2
      rw [A8 (by simp)];refine A6 (JR ?_);have hb:(pendingOf st3).back? = some (0,n1,0):=by rw [P3];rfl
      rw [hb]
      dsimp only
      refine A6 (EN (CZ (I:=fun x c st'=>c=(none,())/\st'=st3) (Q:=fun c st'=>c=(none,())/\st'=st3) ?s3 ?f3 ⟨rfl,rfl⟩) ?p3)
      case f3=>exact fun c st' h=>h
      case s3=>
       rintro x c st' _ _ ⟨rfl,rfl⟩;refine A6 (JR ?_);rw [P3];rw [A8 (show ¬(#[(0,n1,0)].size>1) from by show ¬(1>1);omega)];exact A7 ⟨rfl,rfl⟩
      case p3=>
       rintro c st' ⟨rfl,rfl⟩
       dsimp only
       refine A6 (FL (A6 (FL (A7 ⟨⟨X3.kind,X3.fail,X3.perm⟩, .inr (.inr ⟨n1,a₀.size - n1,power' a₀.size (2*0+n1) (2*0+n1+n1+min (a₀.size - n1) mr) a₀.size,?_,m1,by omega,by omega,?_,G3,d2⟩)⟩))))
       . show (none,n1+min (a₀.size - n1) mr)=_;rw [show n1+min (a₀.size - n1) mr=a₀.size by omega]
       . show ((pendingOf st').modify ((pendingOf st').size - 1) _).push (n1,min (a₀.size - n1) mr,0)=_;rw [P3,show min (a₀.size - n1) mr=a₀.size - n1 by omega];rfl
    . rw [A8 hlt];rw [show m=a₀.size - n1 by omega] at c4
      refine A6 (JR ?_);have hb:(pendingOf st2).back? = some (0,n1,0):=by rw [P2];rfl
      rw [hb]
      dsimp only
      refine A6 (EN (CZ (I:=fun x c st'=>c=(none,())/\st'=st2) (Q:=fun c st'=>c=(none,())/\st'=st2) ?s3 ?f3 ⟨rfl,rfl⟩) ?p3)
      case f3=>exact fun c st' h=>h
      case s3=>
       rintro x c st' _ _ ⟨rfl,rfl⟩;refine A6 (JR ?_);rw [P2];rw [A8 (show ¬(#[(0,n1,0)].size>1) from by show ¬(1>1);omega)];exact A7 ⟨rfl,rfl⟩
      case p3=>
       rintro c st' ⟨rfl,rfl⟩
       dsimp only
       refine A6 (FL (A6 (FL (A7 ⟨⟨X2.kind,X2.fail,X2.perm⟩, .inr (.inr ⟨n1,a₀.size - n1,power' a₀.size (2*0+n1) (2*0+n1+n1+m) a₀.size,?_,m1,by omega,by omega,?_,G2,c4⟩)⟩))))
       . show (none,n1+m)=_;rw [show n1+m=a₀.size by omega]
       . show ((pendingOf st').modify ((pendingOf st').size - 1) _).push (n1,m,0)=_;rw [P2,show m=a₀.size - n1 by omega];rfl
  . dsimp only
    rw [AB (A9 _)];exact A7 ⟨hX1,rfl, .inr ⟨n1,n2,p,h3,h4,h5,h6,h7,h8⟩⟩
end
end Ts
namespace Ts
open PySem PySem.W PyProof.Rows
theorem UD{α:Type}{p q:α->Bool}:∀ {l:List α},(∀z,p z=true->q z=true)->(∃a ∈ l,q a=true/\p a=false)->l.countP p<l.countP q
 | [],_,⟨a,h,_⟩=>by cases h
 | b::l,h,⟨a,ha,h1,h2⟩=>by
  rw [List.countP_cons,List.countP_cons];have mono:l.countP p<=l.countP q:=zH fun x _ hx=>h x hx;rcases AJ.mp ha with rfl | ha
  . rw [h1,h2];simp;omega
  . have ih:=UD h ⟨a,ha,h1,h2⟩
    by_cases hb:p b=true
    . rw [hb,h b hb];simp;omega
    . rw [A8 hb];split <;> omega
def rk(L:List (List Int))(x:List Int):Int:=((L.countP fun z=>decide (z<x):Nat):Int)
theorem tH{L:List (List Int)}{x y:List Int}(hx:x ∈ L)(hy:y ∈ L):decide (rk L x<rk L y)=decide (x<y):=by
 by_cases h:x<y
 . rw [decide_eq_true h];refine decide_eq_true ?_;unfold rk;have:=UD (l:=L) (p:=fun z=>decide (z<x)) (q:=fun z=>decide (z<y)) (fun z hz=>decide_eq_true (List.lt_trans (of_decide_eq_true hz) h)) ⟨x,hx,decide_eq_true h,decide_eq_false (List.lt_irrefl x)⟩;omega
 . rw [decide_eq_false h];refine decide_eq_false ?_;unfold rk
   have:=zH (l:=L) (p:=fun z=>decide (z<y)) (q:=fun z=>decide (z<x)) fun z _ hz=>by
    have hz:=AT hz;refine AS ?_;exact Decidable.byContradiction fun c=>h (List.lt_of_le_of_lt (List.not_lt.mp c) hz)
   omega
theorem A38{L:List (List Int)}{x y:List Int}(hx:x ∈ L)(hy:y ∈ L)(h:rk L x<=rk L y):x<=y:=by
 have e:=tH hy hx;refine List.not_lt.mp fun c=> ?_;rw [AS c] at e
 have:=AT e;omega
theorem oC(x:Int)(xs:List Int):decide (x::xs<([]:List Int))=false:=AV (List.not_lt_nil _)
theorem vU(x:Int)(xs ys:List Int):decide (x::xs<x::ys)=decide (xs<ys):=IQ.mpr ⟨fun h=>(KQ.mp h).elim (fun h=>absurd h (Int.lt_irrefl _)) fun h=>h.2,fun h=>KQ.mpr (.inr ⟨rfl,h⟩)⟩
theorem vZ{x y:Int}(he:x≠y)(xs ys:List Int):decide (x::xs<y::ys)=decide (x<y):=IQ.mpr ⟨fun h=>(KQ.mp h).elim (fun h=>h) fun h=>absurd h.1 he,fun h=>KQ.mpr (.inl h)⟩
def Tup(h:Heap)(v:Value)(ns:List Int):Prop:=∃a o xs n,v = .ref a/\h.get? a=some o/\o.cls = .type "tuple" /\ o.data = .seq xs n/\IntsAre xs.toList ns
theorem lE:∀ {us:List Value} {ns ms:List Int},IntsAre us ns->IntsAre us ms->ns=ms:=fun h1 h2=>by rw [<-h1.nums, <-h2.nums]
theorem Tup.inj{h:Heap}{v:Value}{ns ms:List Int}(h1:Tup h v ns)(h2:Tup h v ms):ns=ms:=by
 obtain ⟨a,o,xs,n,rfl,e1,_,e2,e3⟩:=h1;obtain ⟨a',o',xs',n',e0,e1',_,e2',e3'⟩:=h2
 cases e0
 rw [e1] at e1'
 cases e1'
 rw [e2] at e2'
 cases e2'
 exact lE e3 e3'
section
variable {prog:Program} {w:World} {A:Around} {E:Value->Shared->Prop} {s:Shared}
theorem kF{Q:Bool->Shared->Prop}{fin:Bool}:∀ {us ws:List Value} {xs ys:List Int} (i:Nat),IntsAre us xs->IntsAre ws ys->fin=decide (xs.length<ys.length)->Q (decide (xs<ys)) s->KatLex prog w A true fin Q (us.zip ws) i s
 | _,_,_,_,i, .nil, .nil,hf,q=>by
  refine kat_nil ?_
  rw [hf];exact q
 | _,_,_,_,i, .nil, .cons y u r,hf,q=>by
  refine kat_nil ?_
  rw [hf];exact q
 | _,_,_,_,i, .cons x t r, .nil,hf,q=>by
  refine kat_nil ?_;rw [hf];rw [oC] at q
  exact q
 | _,_,_,_,i, .cons x t r, .cons y u r',hf,q=>by
  refine kat_cons (wpAny_eqBool_int (kat_go (fun he=>kat_yes ?_) fun he=>kat_no ?_))
  . have he:x=y:=by simpa using he
    subst he;refine kF (i+1) r r' (by rw [hf];simp) ?_;rw [vU] at q
    exact q
  . have he:x≠y:=by simpa using he
    rw [vZ he] at q
    cases hi:(true && i==0)
    . exact kat_one _ _ (A56 q)
    . exact oneLt_int q
end
end Ts
namespace Ts
open PySem PySem.W PyProof.Rows
open Classical in
noncomputable def nsOf(h:Heap)(v:Value):List Int:=if e:∃ns,Tup h v ns then e.choose else []
theorem nsOf_eq{h:Heap}{v:Value}{ns:List Int}(t:Tup h v ns):nsOf h v=ns:=by
 have e:∃ns,Tup h v ns:=⟨ns,t⟩;unfold nsOf;rw [dif_pos e];exact e.choose_spec.inj t
section
variable {prog:Program} {w:World} {A:Around} {E:Value->Shared->Prop} {s:Shared}
theorem jQ:∀ {l:List (List Int)},l.length<2->l.Pairwise (· <= ·)
 | [],_=>G0
 | [_],_=>E8 _ _
 | _::_::_,h=>by simp only [B4] at h;omega
theorem jA(L:List (List Int)):PP prog w A E s (tuples' true) (fun x=>∃ns,Tup s.heap x.1 ns/\ns ∈ L) (fun x=>rk L (nsOf s.heap x.1)):=fun x y st Q hk dx dy q=>by
 obtain ⟨ns,tx,mx⟩:=dx;obtain ⟨ms,ty,my⟩:=dy;have q':Q (some (decide (rk L (nsOf s.heap x.1)<rk L (nsOf s.heap y.1)))) st:=q
 have e:decide (rk L (nsOf s.heap x.1)<rk L (nsOf s.heap y.1))=decide (ns<ms):=by
  have e1:=nsOf_eq tx;have e2:=nsOf_eq ty;rw [<-tH mx my, <-e1, <-e2]
 rw [e] at q'
 rw [lt'_eq];refine A6 (JR ?_);rw [hk];obtain ⟨a,o,xs,n,ex,e1,_,e2,e3⟩:=tx;obtain ⟨a',o',xs',n',ey,e1',_,e2',e3'⟩:=ty;rw [ex,ey];have l1:xs.size=ns.length:=by rw [<-BO, <-e3.nums,AA]
 have l2:xs'.size=ms.length:=by rw [<-BO, <-e3'.nums,AA]
 refine A6 (TM (GN (kat_lt e1 e2 e1' e2' (kF 0 e3 e3' (by rw [l1,l2]) ⟨rfl,?_⟩))));exact A7 q'
theorem bX{h:Heap}:∀ {vs:List Value},(∀v ∈ vs,∃ns,Tup h v ns/\ns ≠ [])->∃fs,KatTups h vs fs/\fs.length=vs.length/\∀v ∈ fs,∃i t,v=Value.int i t
 | [],_=>⟨[],KatTups.nil,rfl,fun v hv=>by cases hv⟩
 | v::vs,r=>by
  obtain ⟨fs,h1,h2,h3⟩:=bX fun v hv=>r v (AK _ hv);obtain ⟨ns,t,hn⟩:=r v AU;obtain ⟨a,o,xs,n,rfl,e1,e0,e2,e3⟩:=t
  have:∃i u,xs[0]? = some (Value.int i u):=by
   rw [<-AI];generalize xs.toList=ys at e3
   cases e3 with
   | nil=>exact absurd rfl hn
   | cons i u _=>exact ⟨i,u,rfl⟩
  obtain ⟨i,u,e⟩:=this;refine ⟨.int i u::fs,KatTups.cons e1 e0 e2 e h1,by simp [h2],fun v hv=> ?_⟩;rcases AJ.mp hv with rfl | hv
  . exact ⟨i,u,rfl⟩
  . exact h3 v hv
theorem iU{vs:List Value}(r:∀v ∈ vs,∃ns,Tup s.heap v ns/\ns ≠ [])(h0:0<vs.length){Q:SortKind->Shared->Prop}(q:Q (tuples' true) s):wpAny (model prog w) A (keyKind' vs.toArray) Q E s:=by
 obtain ⟨fs,h1,h2,h3⟩:=bX r;refine kat_kind (T:= .type "int") h1 (by omega) (fun v hv=> ?_) (by rfl) (by exact q);obtain ⟨i,t,rfl⟩:=h3 v hv;exact .now
theorem U0 {a : Addr} {vs : List Value} {n : Nat} {P : PySem.Fin -> Shared -> Prop} (ho : s.heap.get? a = some (seqObj "list" vs.toArray n))
 (r:∀v ∈ vs,∃ns,Tup s.heap v ns/\ns ≠ []) (hl:vs.length<128)
 (h:∀out:Array Value,out.toList.Perm vs->(out.toList.map (nsOf s.heap)).Pairwise (· <= ·)->P (.done (.ret .none)) {s with heap:=sortedHeap s.heap a vs out}) :
 wpAny (model prog w) A (Builtin.«list.sort» ⟨[.ref a], []⟩) P E s := by
 rw [list_sort_plain];have ha:a<s.heap.objs.size:=AO ho;refine A0 (listItems_at ho rfl ?_);refine A0 (listUpdate_at ho rfl ?_ (by rw [AR,MT];omega) (CK _));obtain ⟨e1,ho1⟩:∃e1,(s.heap.update a (Obj.mapSeq fun _=> #[])).get? a=some (seqObj "list" #[] e1):=⟨_,QP ho (fun _=> #[])⟩;refine A0 (seqEpoch_at ho1 rfl ?_);refine A0 (zM ?_ (by show vs.length<=_;rw [MT];omega));refine A0 (A68 ?_ (CK _));refine DU ?_;have ho6:(((s.heap.update a (Obj.mapSeq fun _=> #[])).push (seqObj "tuple" vs.toArray 0)).push (seqObj "list" #[] 0)).get? a=some (seqObj "list" #[] e1):=A1 _ (A1 _ ho1)
 have keep:∀v ns,Tup s.heap v ns->Tup (((s.heap.update a (Obj.mapSeq fun _=> #[])).push (seqObj "tuple" vs.toArray 0)).push (seqObj "list" #[] 0)) v ns:=fun v ns t=>by
  obtain ⟨b,o,xs,k,rfl,t1,t2,t3,t4⟩:=t
  have hb:b≠a:=fun e=>by
   subst e;rw [ho] at t1
   cases t1
   simp at t2
  exact ⟨b,o,xs,k,rfl,A1 _ (A1 _ (by rw [EZ _ _ _ _ hb];exact t1)),t2,t3,t4⟩
 show wpAny (model prog w) A _ P E {s with heap:=((s.heap.update a (Obj.mapSeq fun _=> #[])).push (seqObj "tuple" vs.toArray 0)).push (seqObj "list" #[] 0)}
 dsimp only
 have fin : ∀ st' : SortSt, (arrOf st').Perm (pairsOf vs) -> (((arrOf st').map (·.2)).toList.map (nsOf s.heap)).Pairwise (· <= ·) ->
  P (.done (.ret .none)) {s with heap:=sortedHeap s.heap a vs ((arrOf st').map (·.2))}:=fun st' hp hs=>by
  refine h _ ?_ hs;have:=((EJ.mp hp).map (·.2));rw [pairsOf_toList] at this
  rw [Array.toList_map];refine this.trans (d6 ?_);exact YN (A9 _)
 by_cases h2:vs.toArray.size<2
 . rw [AB h2,AB h2];refine A0 (A5 ?_);rw [StateT.run_pure];refine A0 (A5 ?_)
   dsimp only
   refine A0 (seqEpoch_at ho6 rfl ?_);refine A0 (listUpdate_at ho6 rfl ?_ (CK _) (by rw [gT];show (pairsOf vs).size<=_;rw [aB,MT];omega));simp only [A90,D6,FD];refine A5 (fin (SortSt.mk' general' (vs.toArray.zip vs.toArray) #[] 7 none) (LZ _) ?_);have hz:vs.length<2:=by rwa [AR] at h2
   refine jQ ?_;rw [AA,BO,gT];show (pairsOf vs).size<2;rw [aB];exact hz
 . rw [A8 h2,A8 h2];have hz:2<=vs.length:=by rw [AR] at h2;omega
   refine A0 (iU (fun v hv=>let ⟨ns,t,hn⟩:=r v hv;⟨ns,keep v ns t,hn⟩) (by omega) ?_);have hmem:∀x ∈ (pairsOf vs).toList,x.1=x.2/\x.1 ∈ vs:=fun x hx=>by rw [pairsOf_toList] at hx;exact mem_zip_self hx
   refine A0 (EC (iJ (jA (vs.map (nsOf s.heap))) (a₀:=pairsOf vs) (st:=SortSt.mk' (tuples' true) (vs.toArray.zip vs.toArray) #[] 7 none)
    (Q:=fun _ st'=>(arrOf st').Perm (pairsOf vs)/\failedOf st'=none/\(((arrOf st').map (·.2)).toList.map (nsOf s.heap)).Pairwise (· <= ·))
    (fun x hx=>by
     obtain ⟨_,hv⟩:=hmem x hx;obtain ⟨ns,t,hn⟩:=r x.1 hv;exact ⟨ns,keep _ _ t,AL.mpr ⟨x.1,hv,nsOf_eq t⟩⟩)
    ⟨rfl,rfl,LZ _⟩ rfl (by rw [aB];exact hz) (by rw [aB];exact hl) fun st' a1 a2 a3=>⟨a1,a2,?_⟩) ?_ fun _ _ e=>e)
   . rw [Array.toList_map,E5,HM];refine O1 (fun {x y} hx hy hxy=> ?_) a3;obtain ⟨ex,vx⟩:=hmem x ((EJ.mp a1).mem_iff.mp hx);obtain ⟨ey,vy⟩:=hmem y ((EJ.mp a1).mem_iff.mp hy);obtain ⟨ns,tx,_⟩:=r x.1 vx;obtain ⟨ms,ty,_⟩:=r y.1 vy;show nsOf s.heap x.2<=nsOf s.heap y.2;rw [<-ex, <-ey];refine A38 (L:=vs.map (nsOf s.heap)) (AL.mpr ⟨_,vx,rfl⟩) (AL.mpr ⟨_,vy,rfl⟩) ?_;rw [nsOf_eq tx,nsOf_eq ty];have hxy':=hxy
     dsimp only at hxy'
     rwa [nsOf_eq (keep _ _ tx),nsOf_eq (keep _ _ ty)] at hxy'
   . rintro ⟨⟨⟩,st'⟩ s' ⟨rfl,hp,hf,hs⟩
     dsimp only
     refine A0 (seqEpoch_at ho6 rfl ?_);refine A0 (listUpdate_at ho6 rfl ?_ (CK _) (by refine BG (uD ((gT ..).trans (hp.size_eq.trans (aB _)))) ?_;rw [MT];omega));rw [hf];simp only [A90,D6,FD];exact A5 (fin st' hp hs)
theorem sorted_tup {l : Addr} {vs : List Value} {Q : Value -> Shared -> Prop} (hl : s.heap.IsList l vs.toArray) (r : ∀ v ∈ vs, ∃ ns, Tup s.heap v ns /\ ns ≠ []) (h128 : vs.length < 128)
 (h:∀out:Array Value,out.toList.Perm vs->(out.toList.map (nsOf s.heap)).Pairwise (· <= ·)->Q (.ref (s.heap.objs.size+1)) {s with heap:=sortedAll s.heap vs out}) :
 wpAny (model prog w) A (call (.builtin "sorted") [.ref l]) Q E s:=by
 refine Calls.call_function_entry kind_sorted plain_sorted entry_sorted (args_sorted1 _) ?_;unfold Builtin.«sorted»;refine wpAny_bind (m:=checkCount "sorted" 1 1 _) (wpAny_pure ?_);refine wpAny_bind (collect_list hl ?_ (by rw [sizeLine_eq];omega));refine wpAny_bind (wpAny_newList ?_ (by rw [sizeLine_eq];omega))
 have hsz:((s.heap.push (seqObj "list" #[] 0)).update s.heap.objs.size (Obj.mapSeq (· ++ vs.toArray))).objs.size=s.heap.objs.size+1:=by
  rw [Heap.size_update,size_push']
 have hoL:(((s.heap.push (seqObj "list" #[] 0)).update s.heap.objs.size (Obj.mapSeq (· ++ vs.toArray))).push (seqObj "list" vs.toArray 0)).get? (s.heap.objs.size+1)=some (seqObj "list" vs.toArray 0):=by
  rw [<-hsz];exact AG _ rfl
 have keep:∀b o,s.heap.get? b=some o->(((s.heap.push (seqObj "list" #[] 0)).update s.heap.objs.size (Obj.mapSeq (· ++ vs.toArray))).push (seqObj "list" vs.toArray 0)).get? b=some o:=fun b o q=>by
  have hlt:b<s.heap.objs.size:=AO q;rw [Heap.get?_push_ne _ _ _ (by rw [hsz];exact BW (NQ hlt)),EZ _ _ _ _ (BW hlt),Heap.get?_push_ne _ _ _ (BW hlt)];exact q
 have keepT:∀v ns,Tup s.heap v ns->Tup (((s.heap.push (seqObj "list" #[] 0)).update s.heap.objs.size (Obj.mapSeq (· ++ vs.toArray))).push (seqObj "list" vs.toArray 0)) v ns:=fun v ns t=>by
  obtain ⟨b,o,xs,k,rfl,t1,t2,t3,t4⟩:=t;exact ⟨b,o,xs,k,rfl,keep _ _ t1,t2,t3,t4⟩
 show wpAny _ _ _ _ _ {s with heap:=((s.heap.push (seqObj "list" #[] 0)).update s.heap.objs.size (Obj.mapSeq (· ++ vs.toArray))).push (seqObj "list" vs.toArray 0)};rw [hsz];refine A0 (DU (DD slot_list_sort ⟨_,hoL,rfl⟩ entry_list_sort (U0 hoL (fun v hv=>let ⟨ns,t,hn⟩:=r v hv;⟨ns,keepT v ns t,hn⟩) h128 fun out a1 a2=>⟨_,rfl,?_⟩) (args_list_sort _)));refine A5 ⟨_,rfl,h out a1 ?_⟩
 have e:out.toList.map (nsOf s.heap)=out.toList.map (nsOf (((s.heap.push (seqObj "list" #[] 0)).update s.heap.objs.size (Obj.mapSeq (· ++ vs.toArray))).push (seqObj "list" vs.toArray 0))):=BH fun v hv=>by
  obtain ⟨ns,t,_⟩:=r v (a1.mem_iff.mp hv);rw [nsOf_eq t,nsOf_eq (keepT v ns t)]
 rw [e];exact a2
end
end Ts
namespace Tf
open PySem PySem.Spec PyProof.Rows L2
def tI(ns:List Int):PyData:= .tuple (ns.map .int)
def unI:PyData->List Int
 | .tuple ds=>ds.map fun d=>match d with | .int i=>i | _=>0
 | _=> []
theorem vJ(ns:List Int):unI (tI ns)=ns:=by
 show (ns.map PyData.int).map (fun d=>match d with | .int i=>i | _=>0)=ns;rw [E5];exact (BH fun x _=>rfl).trans (RU _)
def T9(nss:List (List Int)):List (List Int):=nss.mergeSort fun a b=>decide (a<=b)
theorem NI(ns:List (List Int)):(T9 ns).Perm ns:=A55 _ _
theorem fE(ns:List (List Int)):(T9 ns).Pairwise (· <= ·):=by
 have:=sG (le:=fun a b:List Int=>decide (a<=b)) (fun a b c h1 h2=>AS (List.le_trans (AT h1) (AT h2))) (fun a b=>by
  rcases List.le_total a b with h | h
  . rw [AS h];rfl
  . rw [AS h,Bool.or_true]) ns
 exact this.imp fun h=>AT h
theorem oE{ns ns':List (List Int)}(h:ns'.Perm ns)(p:ns'.Pairwise (· <= ·)):ns'=T9 ns:=
 nB (fun a b _ _ h1 h2=>List.le_antisymm h1 h2) p (fE ns) (h.trans (NI ns).symm)
theorem A28{K:PySem.W.Frag}{its out:List Value}(h:its.Perm out):∀ {vs:List V} {ds:List PyData},Vals vs its->ds.length=its.length->∃vs' ds',Vals vs' out/\ds'.Perm ds/\(∀H1,Reps K H1 vs ds->Reps K H1 vs' ds'):=by
 induction h with
 | nil=>
  intro vs ds r hl
  cases r
  exact ⟨[],ds, .nil,List.Perm.refl _,fun _ h=>h⟩
 | cons x _ ih=>
  intro vs ds r hl
  cases r with
  | cons r1 r2=>
   match ds,hl with
   | d::ds,hl=>
    obtain ⟨vs',ds',h1,h2,h3⟩:=ih r2 (by simpa using hl);refine ⟨_,d::ds', .cons r1 h1,h2.cons d,fun H1 h=> ?_⟩
    cases h with
    | cons g1 g2=>exact .cons g1 (h3 H1 g2)
 | swap x y l=>
  intro vs ds r hl
  cases r with
  | cons r1 r2=>cases r2 with
   | cons r2 r3=>
    match ds,hl with
    | d::e::ds,hl=>
     refine ⟨_,e::d::ds, .cons r2 (.cons r1 r3),List.Perm.swap _ _ _,fun H1 h=> ?_⟩
     cases h with
     | cons g1 g2=>cases g2 with
      | cons g2 g3=>exact .cons g2 (.cons g1 g3)
 | trans h1 _ ih1 ih2=>
  intro vs ds r hl;obtain ⟨vs1,ds1,a1,a2,a3⟩:=ih1 r hl;obtain ⟨vs2,ds2,b1,b2,b3⟩:=ih2 a1 (by rw [a2.length_eq,hl,h1.length_eq]);exact ⟨vs2,ds2,b1,b2.trans a2,fun H1 h=>b3 H1 (a3 H1 h)⟩
variable {X:Cx}
theorem S8{K:PySem.W.Frag}{H:Hp}:∀ {vs:List V} {ns:List Int},Reps K H vs (ns.map PyData.int)->vs=ns.map V.int
 | _,[], .nil=>rfl
 | _,n::ns, .cons h t=>by
  cases h
  rw [S8 t];rfl
theorem iW{pins:List (Addr×Obj)}{s:Shared}{σ:L2.St}{H:Hp}{v:V}{u:Value}{ns:List Int}(I:Inv X pins σ H s)(h:Rep X.K H v (tI ns))(r:RelV v u):Ts.Tup s.heap u ns:=by
 unfold tI at h
 cases h with
 | tuple h1 h2=>
  rw [S8 h2] at h1
  obtain ⟨its,rv,⟨o,e1,e2,n,e3⟩,_⟩:=I.tuple (SqT.of (K:=X.K) h1)
  cases r
  exact ⟨_,o,_,n,rfl,e1,e2,e3,MF rv⟩
theorem cD{pins:List (Addr×Obj)}{s:Shared}{σ:L2.St}{H:Hp}(I:Inv X pins σ H s):∀ {vs:List V} {us:List Value} {nss:List (List Int)},Reps X.K H vs (nss.map tI)->Vals vs us->(∀ns ∈ nss,ns ≠ [])->∀u ∈ us,∃ns,Ts.Tup s.heap u ns/\ns ≠ []
 | _,_,[], .nil, .nil,_,u,hu=>by cases hu
 | _,_,ns::nss, .cons h t, .cons r rs,hn,u,hu=>by
  rcases AJ.mp hu with rfl | hu
  . exact ⟨ns,iW I h r,hn ns AU⟩
  . exact cD I t rs (fun m hm=>hn m (AK _ hm)) u hu
theorem bA{pins:List (Addr×Obj)}{s:Shared}{σ:L2.St}{H:Hp}(I:Inv X pins σ H s):∀ {vs:List V} {us:List Value} {ds:List PyData},Reps X.K H vs ds->Vals vs us->(∀d ∈ ds,∃ns,d=tI ns)->ds=(us.map (Ts.nsOf s.heap)).map tI
 | _,_,_, .nil, .nil,_=>rfl
 | _,_,_, .cons h t, .cons r rs,hd=>by
  obtain ⟨ns,rfl⟩:=hd _ AU;rw [B1,B1,Ts.nsOf_eq (iW I h r), <-bA I t rs fun d hm=>hd d (AK _ hm)]
theorem VZ:KI X (.builtin "sorted") (fun xs H Q=>∃a vs nss,xs = [V.ref a]/\SqL X.K H a vs/\Reps X.K H vs (nss.map tI)/\(∀ns ∈ nss,ns ≠ [])/\nss.length<128/\∀p,H p=none->∀vs',(∀H1,Reps X.K H1 vs (nss.map tI)->Reps X.K H1 vs' ((T9 nss).map tI))->Q (.ref p) (upd H p (.lst vs'))):=by
 intro pins s σ H xs us Q I r h;obtain ⟨a,vs,nss,rfl,hq,hr,hn,hl,q⟩:=h;obtain ⟨u,rfl,ru⟩:=JP r
 cases ru
 obtain ⟨its,rv,p1,hz⟩:=I.list hq;have l:=rv.length;have l2:=hr.length;rw [AA] at l2
 refine Ts.sorted_tup p1.isList (cD I hr rv hn) (by omega) fun out a1 a2=> ?_;obtain ⟨vs',ds',b1,b2,b3⟩:=A28 (K:=X.K) a1.symm rv (ds:=nss.map tI) (by rw [AA];omega)
 have e1:ds'=(out.toList.map (Ts.nsOf s.heap)).map tI:=bA I (b3 H hr) b1 fun d hd=>by
  obtain ⟨ns,_,e⟩:=AL.mp (b2.mem_iff.mp hd);exact ⟨ns,e.symm⟩
 have e2:out.toList.map (Ts.nsOf s.heap)=T9 nss:=by
  refine oE ?_ a2;have:=b2.map unI
  have un:∀l:List (List Int),(l.map tI).map unI=l:=fun l=>by
   rw [E5,show (unI ∘ tI)=id from funext vJ,RU]
  rwa [e1,un,un] at this
 rw [e2] at e1
 subst e1;obtain ⟨e,he⟩:=sortedAll_at s.heap its out;refine ⟨.ref (s.heap.objs.size+1),_,I.laid (a:=s.heap.objs.size+1) (o:= .lst vs') (t':=s.toks) (fun b o z=>sortedAll_old z) (FJ _) ⟨?_,out.toList,e,b1,?_⟩,rfl,q _ (I.hok.fresh (FJ _)) vs' b3⟩
 . have:=(b3 H hr).length;rw [AA,(NI nss).length_eq] at this
   rw [this];exact JZ (uA hl (by decide))
 . rw [he]
end Tf
namespace Dm
open PySem PySem.Spec PyProof.Rows L2 Tf
def OM:List PyData->Option (List (List Int))
 | []=>some []
 | .tuple ds::r=>(FT ds).bind fun ns=>if ns = [] then none else (OM r).bind fun nss=>some (ns::nss)
 | _::_=>none
theorem V6:∀ {ds:List PyData} {nss:List (List Int)},OM ds=some nss->ds=nss.map tI/\∀ns ∈ nss,ns ≠ []
 | [],nss,h=>by cases h;exact ⟨rfl,fun _ h=>by cases h⟩
 | d::r,nss,h=>by
  cases d with
  | tuple ds=>
   unfold OM at h
   obtain ⟨ns,h1,h⟩:=A3.mp h
   split at h
   . cases h
   . rename_i hne;obtain ⟨ms,h2,h⟩:=A3.mp h
     cases h
     obtain ⟨e1,e2⟩:=V6 h2;refine ⟨?_,fun m hm=> ?_⟩
     . rw [B1,e1,LN h1];rfl
     . rcases AJ.mp hm with rfl | hm
       . exact hne
       . exact e2 m hm
  | _=>cases h
theorem S5:∀ {nss:List (List Int)},(∀ns ∈ nss,ns ≠ [])->OM (nss.map tI)=some nss
 | [],_=>rfl
 | ns::nss,h=>by
  show ((FT (ns.map PyData.int)).bind fun ns=>if ns = [] then none else (OM (nss.map tI)).bind fun nss=>some (ns::nss))=_;rw [SA,FN,A8 (h ns AU),S5 fun m hm=>h m (AK _ hm)];rfl
def dSortT:List Sl->Option Sl
 | [s]=>match s.dat with
  | .list ds=>(OM ds).bind fun nss=>if nss.length<128 then some (.own ((T9 nss).map tI)) else none
  | _=>none
 | _=>none
section
variable {K:PySem.W.Frag}
theorem lO:LV K (fun xs H Q=>∃a vs nss,xs = [V.ref a]/\SqL K H a vs/\Reps K H vs (nss.map tI)/\(∀ns ∈ nss,ns ≠ [])/\nss.length<128/\∀p,H p=none->∀vs',(∀H1,Reps K H1 vs (nss.map tI)->Reps K H1 vs' ((T9 nss).map tI))->Q (.ref p) (upd H p (.lst vs'))) dSortT:=fun H0 H vs ss z s p hz Q q=>by
 unfold dSortT at hz
 split at hz
 . obtain ⟨v,rfl,pa⟩:=HC p
   split at hz
   . rename_i ds hd;obtain ⟨nss,hn,hz⟩:=A3.mp hz
     split at hz
     . rename_i hl
       cases hz
       obtain ⟨a,vs,rfl,h1,h2⟩:=pa.lst s hd;obtain ⟨e1,e2⟩:=V6 hn;rw [e1] at h2
       refine ⟨a,vs,nss,rfl,h1,Reps.same s h2,e2,hl,fun b hb vs' p1=> ?_⟩;exact q _ _ _ (Ext.alloc s hb _) ⟨b,_,rfl,hb,s.free hb,BT,p1 _ h2⟩
     . cases hz
   . cases hz
 . cases hz
end
end Dm
namespace Tf
open PySem PySem.Spec PyProof.Rows L2
variable {X:Cx}
theorem ES{pins:List (Addr×Obj)}{σ:L2.St}{H:Hp}{s:Shared}{h':Heap}{t':Nat}{it:Addr}(f:LF X pins H it)(I:L2.Inv X pins σ H s)(k:∀b o,b≠it->s.heap.get? b=some o->h'.get? b=some o):L2.Inv X pins σ H {s with heap:=h',toks:=t' } :=
 I.turned k f.1 f.2.1 f.2.2.2.1 f.2.2.2.2.1 f.2.2.2.2.2
theorem MZ{pins:List (Addr×Obj)}{H:Hp}{it:Addr}(f:LF X pins H it){h:Heap}{o:Obj}(e:h.get? it=some o)(d:∀v,o.data ≠ .cell v):h.get? it=some o/\H it=none/\it≠X.env.locals/\it ∉ X.fs/\∀v,o.data ≠ .cell v:=⟨e,f.1,f.2.1,f.2.2.1,d⟩
theorem QU{pins:List (Addr×Obj)}{H H':Hp}{it:Addr}(f:LF X pins H it)(h:H' it=none):LF X pins H' it:=⟨h,f.2⟩
end Tf
namespace Tf
open PySem PySem.Spec PyProof.Rows L2
def Least(n:Nat)(kf:Nat->Int)(i:Nat):Prop:=∀j,j<n->kf i<=kf j/\(j<i->kf i<kf j)
variable {X:Cx}
end Tf
namespace Dm
open PySem PySem.Spec PyProof.Rows L2 Tf
def N9(ks:List Int):Nat:=ks.findIdx fun k=>ks.all fun m=>decide (k<=m)
theorem fZ{ks:List Int}{i:Nat}(hi:i<ks.length)(h:Tf.Least ks.length (fun j=>ks.getD j 0) i):N9 ks=i:=by
 have g:∀j (hj:j<ks.length),ks.getD j 0=ks[j]:=fun j hj=>by simp [hj]
 unfold N9;rw [List.findIdx_eq hi];refine ⟨List.all_eq_true.mpr fun m hm=> ?_,fun j hj=> ?_⟩
 . obtain ⟨j,hj,e⟩:=I9.mp hm;have:=(h j hj).1
   dsimp only at this
   rw [g i hi,g j hj,e] at this
   exact AS this
 . have:=(h j (by omega)).2 hj
   dsimp only at this
   rw [g i hi,g j (by omega)] at this
   refine G4.mpr fun c=> ?_;have:=AT (GJ.mp c ks[i] (F0 hi));omega
section
variable {K:PySem.W.Frag} {R:Rl} [RelOk K R]
end
section
variable {X:Cx} {R:Rl} [RelOk X.K R]
end
end Dm
namespace Tf
open PySem PySem.Spec PyProof.Rows L2
theorem VF{a b c:Value}:∀(l:List Value),TriplesOk l->(∃i t,a = .int i t)->(∃i t,b = .int i t)->TriplesOk (l ++ [a,b,c]):=by
 intro l h ha hb;obtain ⟨i,t,rfl⟩:=ha;obtain ⟨j,u,rfl⟩:=hb
 fun_induction TriplesOk l with
 | case1=>exact CI
 | case2 _ _ _ _ _ GW ih=>exact ih h
 | case3=>exact h.elim
theorem ZT{pos pos':Pos}{c v:Value}:∀(l:List Value),TriplesOk l->codeAmong pos' (l ++ [rawInt pos.line,rawInt pos.col,c])=some v->codeAmong pos' l=some v\/v=c:=by
 intro l h e
 fun_induction TriplesOk l with
 | case1=>
  simp only [LY,codeAmong,rawInt] at e
  split at e
  . cases e;exact .inr rfl
  . cases e
 | case2 i t j u x GW ih=>
  have e':codeAmong pos' (.int i t :: .int j u::x::(GW ++ [rawInt pos.line,rawInt pos.col,c]))=some v:=e;rw [codeAmong] at e' ⊢
  by_cases hc:(i==(pos'.line:Int) && j==(pos'.col:Int))=true
  . rw [AB hc] at e' ⊢
    exact .inl e'
  . rw [A8 hc] at e' ⊢
    exact ih h e'
 | case3=>exact h.elim
def BM(h:Heap)(mg:Str->Option Value):Prop:=∃bm o,mg "__builtins__" = some (.ref bm)/\bm≠builtinsNs/\h.get? bm=some o/\o.cls = .type "module" /\ o.dict=some builtinsNs/\o.data = .plain
def dP(f:Addr)(fo:Obj):HO:= .ext fun h=>h.get? f=some fo
structure Made (H H':Hp) (f c:Addr) (oc fo:Obj):Prop where
 same:∃H1,(H1=H\/(H c=none/\H1=upd H c (.frz oc (.own 0))))/\H1 f=none/\H'=upd H1 f (dP f fo)
 code:H' c=some (.frz oc (.own 0))
 fn:H' f=some (dP f fo)
 rec_:∃vs x,oc.data = .fields vs/\vs[1]? = some x
variable {X:Cx}
abbrev O7 (X:Cx) (params:Arguments) (body:Expr) (scope:Scope) (clos:List (Str×Addr)) (pm:Value) (c:Addr) (ctv:Value):Obj:=PySem.W.kla_obj "<lambda>" (X.env.qual ++ "<lambda>") params body scope clos pm c ctv
def A81(X:Cx)(params:Arguments)(body:Expr)(scope:Scope)(clos:List (Str×Addr)):TE:=fun σ H Q=>∀f c oc pm ctv H',Made H H' f c oc (O7 X params body scope clos pm c ctv)->Q (.ref f) H'
theorem i8 {params : Arguments} {body : Expr} {scope : Scope} {pos : Pos} {c P : Addr} {clos : List (Str × Addr)} (hcd : X.env.code = .ref c) (C : PySem.W.CodeHd X.base c P) (hp : P ∈ IW X.K) (bm : BM X.base X.mg)
 (hdef:defaultsOf params X.env=([],[])) (hcl:closureFor scope X.env=pure clos):PE X (.Lambda params body scope pos) (A81 X params body scope clos):=by
 intro pins s σ H Q I q;obtain ⟨ps,hP⟩:=I.tb P hp;obtain ⟨qs,e1,e2,e3⟩:=I.hok P _ hP;have hgs:s.heap.Ns mainGlobals X.mg:=I.mod.glob.keeps I.bk;have C':PySem.W.CodeHd s.heap c P:=C.keeps I.bk
 have hgP:mainGlobals≠P:=fun z=>by
  obtain ⟨o,es,ep,e,hd,_⟩:=hgs;rw [z,e1] at e;cases e;cases hd
 have hb:s.heap.BuiltinsAt X.mg P:=by
  obtain ⟨b,ob,b1,b2,b3,b4,b5,b6⟩:=bm;have b3':=I.bk _ _ b3;refine ⟨b,ob,b1,b2,fun z=> ?_,fun z=> ?_,b3',b4,b5,b6⟩
  . obtain ⟨o,es,ep,e,hd,_⟩:=hgs;rw [z,e] at b3';cases b3';rw [hd] at b6;cases b6
  . rw [z,e1] at b3';cases b3';cases b4
 have Pne:∀ {b:Addr} {u:HO},H b=some u->(∀ps,u ≠ .tbl ps)->b≠P:=fun {b u} e n z=>by
  subst z;rw [hP] at e
  cases e
  exact n ps rfl
 have fin : ∀ (f c' : Addr) (oc : Obj) (vs : Array Value) (x : Value) (pm ctv : Value) (H1 : Hp) (h2 : Heap) (tk : Nat) (qs' : Array Value), (H1 = H \/ (H c' = none /\ H1 = upd H c' (.frz oc (.own 0)) /\ s.heap.objs.size <= c')) -> s.heap.objs.size <= f -> f ≠ c' ->
  (∀b o,b≠P->s.heap.get? b=some o->h2.get? b=some o)->h2.get? P=some (PySem.W.tabObj qs')->TriplesOk qs'.toList->(∀pos v,codeAmong pos qs'.toList=some v->codeAmong pos qs.toList=some v\/v = .ref c') ->
  h2.get? c'=some oc->H1 c'=some (.frz oc (.own 0))->oc.data = .fields vs->vs[1]? = some x ->
  h2.get? f=some (O7 X params body scope clos pm c' ctv)->EP X pins σ Q (.ref f) {s with heap:=h2,toks:=tk}:=fun f c' oc vs x pm ctv H1 h2 tk qs' h1 hf hfc kp tP tT tC hoc hc hd hv ho=>by
  have h0:H f=none:=I.hok.fresh hf
  have hn:H1 f=none:=by
   rcases h1 with rfl | ⟨_,rfl,_⟩
   . exact h0
   . rw [BE hfc];exact h0
  have up:∀ {b:Addr} {u:HO},H b=some u->H1 b=some u:=fun {b u} e=>by
   rcases h1 with rfl | ⟨h1n,rfl,_⟩
   . exact e
   . rw [BE (BJ e h1n)];exact e
  have nf:∀ {b:Addr} {u:HO},H1 b=some u->b≠f:=fun {b u} e=>BJ e hn
  let fo:=O7 X params body scope clos pm c' ctv
  have up2:∀ {b:Addr} {u:HO},H b=some u->upd H1 f (dP f fo) b=some u:=fun {b u} e=>by rw [BE (nf (up e))];exact up e
  have ok:HOk X.prog X.w (upd H1 f (dP f fo)) h2:=fun b u e=>by
   by_cases hb:b=f
   . subst hb;rw [BT] at e
     cases e
     exact ⟨ho,⟨_,ho⟩,fun h1 h2 p k=>k _ p⟩
   . rw [BE hb] at e
     have cs:(b=c'/\u = .frz oc (.own 0))\/H b=some u:=by
      rcases h1 with rfl | ⟨h1n,rfl,_⟩
      . exact .inr e
      . by_cases hbc:b=c'
        . subst hbc;rw [BT] at e
          cases e
          exact .inl ⟨rfl,rfl⟩
        . rw [BE hbc] at e
          exact .inr e
     rcases cs with ⟨rfl,rfl⟩ | e
     . exact ⟨hoc,oc,hoc⟩
     . by_cases hbP:b=P
       . subst hbP;rw [hP] at e
         cases e
         refine ⟨qs',tP,tT,fun pos' v hv' => ?_⟩;rcases tC pos' v hv' with z | z
         . obtain ⟨d,od,ws,y,r1,r2,r3⟩:=e3 pos' v z;exact ⟨d,od,ws,y,r1,up2 r2,r3⟩
         . exact ⟨c',oc,vs,x,z,by rw [BE (NN hfc)];exact hc,hd,hv⟩
       . refine (I.hok b u e).stay (fun d v hd' r=>kp d v ?_ r) (fun d r=>up2 r) (fun d xs r=>up2 r) fun d ob xs r=>up2 r;rcases hd' with rfl | r
         . exact hbP
         . exact Pne r fun ps z=>by cases z
  refine ⟨.ref f,upd H1 f (dP f fo),?_,rfl,q f c' oc pm ctv _ ⟨⟨H1,h1.imp id fun z=>⟨z.1,z.2.1⟩,hn,rfl⟩,by rw [BE (NN hfc)];exact hc,BT,vs,x,hd,hv⟩⟩;have nP:∀ {b:Addr},H b=none->b≠P:=fun {b} n z=>by subst z;rw [hP] at n;cases n
  refine I.call' (ch:= []) rfl ⟨fun b o e n _ _=>kp b o (nP n) e,fun b o e n _ _=>⟨o.slots,kp b o (nP n) e⟩,fun b o e n _=> ?_,fun b o e _=> ?_,fun b xs e=>up2 e,fun b o u e=>up2 e,fun b ps e=>⟨#[],?_⟩⟩ ok I.bare (fun b z=>absurd z (by simp))
  . have lb:=AO e;rw [BE (fun z=>by subst z;exact absurd (BI lb hf) (GA _))];rcases h1 with rfl | ⟨h1n,rfl,hcs⟩
    . exact n
    . rw [BE (fun z=>by subst z;exact absurd (BI lb hcs) (GA _))];exact n
  . by_cases hbP:b=P
    . subst hbP;exact ⟨_,tP⟩
    . exact ⟨o,kp b o hbP e⟩
  . rw [up2 e];simp
 refine PySem.W.kla_eval hdef ?_
 cases hc:codeAmong pos qs.toList with
 | none=>
  refine PySem.W.kla_makeFunction (mg:=X.mg) hcl I.ok.glob hgs hcd C' e1 e2 hc hgP hb fun c' ctv h' tk hx hge hlt hrec htb=> ?_;obtain ⟨c2,oc,vs,t,ec,hoc,hd,hv⟩:=hrec
  cases ec
  refine fin h'.objs.size c' oc vs _ _ ctv (upd H c' (.frz oc (.own 0))) _ tk _ (.inr ⟨I.hok.fresh hge,rfl,hge⟩) (BG hge (JZ hlt)) (K2 hlt) (fun b o hb e=>A1 _ (hx b o hb e)) (A1 _ htb) ?_ (fun pos' v hv' => ?_) (A1 _ hoc) BT hd hv (AG _ rfl)
  . rw [GF];exact VF _ e2 ⟨_,_,rfl⟩ ⟨_,_,rfl⟩
  . rw [GF] at hv'
    exact ZT _ e2 hv'
 | some v=>
  obtain ⟨c',oc,vs,x,rfl,h2,h3,h4⟩:=e3 pos v hc;refine PySem.W.kla_makeFunctionHit (mg:=X.mg) hcl I.ok.glob hgs hcd C' e1 e2 hc hb fun ctv h' tk hk hsz=> ?_;have hoc:s.heap.get? c'=some oc:=(I.hok c' _ h2).1;exact fin h'.objs.size c' oc vs x _ ctv H _ tk qs (.inl rfl) hsz (K2 (BI (AO hoc) hsz)) (fun b o _ e=>A1 _ (hk b o e)) (A1 _ (hk _ _ e1)) e2 (fun _ _ z=> .inl z) (A1 _ (hk _ _ hoc)) h2 h3 h4 (AG _ rfl)
end Tf
namespace Tf
open PySem PySem.Spec PyProof.Rows L2
structure LB where
 q:Str
 f:Addr
 cd:Value
 s:Shared
 H:Hp
def MN(X:Cx)(N':List Str)(sc:Scope)(cl:List (Str×Addr))(b:LB):Cx where
 prog:=X.prog
 w:=X.w
 K:=X.K
 mg:=X.mg
 base:=X.base
 A:=X.A.in1.deeper (PySem.W.envX b.q sc b.s.heap.objs.size b.f b.cd cl)
 N:=N'
 s₀:=b.s
 H₀:=b.H
 env:=PySem.W.envX b.q sc b.s.heap.objs.size b.f b.cd cl
 outer:=X.stack
 stack:=PySem.W.envX b.q sc b.s.heap.objs.size b.f b.cd cl::X.stack
 ex:= []
 calm:=true
 fn:=fun _=>false
 pn:= []
 xe:=fun _ _=>False
structure LamSc (X:Cx) (sc:Scope) (cl:List (Str×Addr)) (x:Str) (ys:List Str):Prop where
 kind:sc.kind = .function
 co:sc.isCoroutine=false
 gen:sc.isGenerator=false
 par:sc.names.lookup x=some .local
 nocell:∀y ∈ sc.names,y.2 ≠ .cell
 free:∀y,sc.names.lookup y=some .free->y ∈ ys
 fr:∀y ∈ ys,sc.names.lookup y=some .free
 cells:∀y c,cl.lookup y=some c->X.env.cells.lookup y=some c
 has:∀y ∈ ys,∃c,cl.lookup y=some c
 out:∀y ∈ ys,X.env.scope.names.lookup y=some .cell
variable {X:Cx}
theorem qM {pins : List (Addr × Obj)} {σ σ' : L2.St} {H : Hp} {s : Shared} {h₁ : Heap} {tk : Nat} {sc : Scope} {cl : List (Str × Addr)} {x q : Str} {ys : List Str} {f : Addr} {cd u : Value} {v : V} (I : L2.Inv X pins σ H s) (hh : X.A.handled = none) (S : LamSc X sc cl x ys) (r : RelV v u)
 (hns:h₁.Ns s.heap.objs.size (fun y=> [(x,u)].reverse.lookup y)) (hk:∀b o,s.heap.get? b=some o->h₁.get? b=some o)
 (hl:σ'.length=ys.length+1) (h0:σ'[0]? = some (some v)) (hc:∀(i:Nat) y w,ys[i]? = some y->σ'[i+1]? = some (some w)->∃j:Nat,X.N[j]? = some y/\σ[j]? = some (some w)) :
 L2.Inv (MN X (x::ys) sc cl ⟨q,f,cd,s,H⟩) [] σ' H {s with heap:=h₁,toks:=tk}:=by
 refine ⟨⟨I.ok.mod,S.kind,rfl,rfl,A9 _,fun y z c h1 h2=>I.ok.inj y z c (S.cells y c h1) (S.cells z c h2),fun y hy=> ?_,fun y c hf=>absurd hf (by simp [MN]),fun _=>hh,AA3 I.env0.in1.frames, .inr ⟨rfl,rfl⟩,fun b z=>absurd z (by simp [MN]),I.bs,BG I.ok.bsz I.sz,fun b _ _ z=>absurd z (by simp [MN]),fun b z=>absurd z (by simp [MN]),I.stack,I.stkFree,I.tb⟩,
  rfl,I.bare,Un.kept hk,⟨_,hns,fun i y w h1 h2 h3=> ?_⟩,fun y c h=> ?_,I.hok.fresh (A9 _),fun y c h=>I.freeC y c (S.cells y c h),fun p hp=>absurd (show p ∈ ([]:List (Addr×Obj)) from hp) (by simp),I.hok.kept hk,?_⟩
 . have hy:sc.names.lookup y=some .cell\/sc.names.lookup y=some .free:=hy;rcases hy with hy | hy
   . exact absurd rfl (S.nocell _ (EM hy))
   . exact S.has y (S.free y hy)
 . have h1:(x::ys)[i]? = some y:=h1
   cases i with
   | zero=>
    cases h1
    rw [h0] at h2
    cases h2
    exact ⟨u,r, .inl ⟨S.par,by simp⟩⟩
   | succ i=>
    have h1:ys[i]? = some y:=h1;obtain ⟨j,j1,j2⟩:=hc i y w h1 h2;have my:=BC h1;obtain ⟨m,_,lm⟩:=I.loc;obtain ⟨u',ru,lk⟩:=lm j y w j1 j2 (.inr (.inl (S.out y my)));refine ⟨u',ru, .inr ⟨.inr (S.fr y my),?_⟩⟩;obtain ⟨c,ec⟩:=S.has y my;rcases lk with ⟨k,_⟩ | ⟨_,c',e',ce⟩
    . have:=S.out y my;have k':X.env.scope.names.lookup y=some .local:=k;rw [this] at k'
      cases k'
    . rw [S.cells y c ec] at e'
      cases e'
      obtain ⟨o,ho,hd⟩:=ce;exact ⟨c,ec,o,hk _ _ ho,hd⟩
 . obtain ⟨w,o,ho,hd⟩:=I.cell y c (S.cells y c h);exact ⟨w,o,hk _ _ ho,hd⟩
 . show σ'.length=(x::ys).length;rw [hl];rfl
theorem WK {pins : List (Addr × Obj)} {σ σ' : L2.St} {H : Hp} {s : Shared} {params : Arguments} {body : Expr} {sc : Scope} {cl : List (Str × Addr)} {x : Str} {ys : List Str} {f c : Addr} {oc : Obj} {pm ctv u : Value} {v : V} {Q : VK} {tb : LB -> TE}
 (I:L2.Inv X pins σ H s) (hh:X.A.handled=none) (room:X.A.in1.depth<recursionLimit) (S:LamSc X sc cl x ys) (r:RelV v u) (hf:H f=some (dP f (O7 X params body sc cl pm c ctv))) (hco:H c=some (.frz oc (.own 0))) (hre:∃vs y,oc.data = .fields vs/\vs[1]? = some y)
 (hb:∀(pm ct cd:Value),bindArgs (PySem.W.kla_fn "<lambda>" (X.env.qual ++ "<lambda>") params body sc cl pm cd ct) ⟨[u],[]⟩=pure [(x,u)])
 (hl:σ'.length=ys.length+1) (h0:σ'[0]? = some (some v)) (hc:∀(i:Nat) y w,ys[i]? = some y->σ'[i+1]? = some (some w)->∃j:Nat,X.N[j]? = some y/\σ[j]? = some (some w))
 (hB:∀b:LB,PE (MN X (x::ys) sc cl b) body (tb b)) (ht:∀b:LB,tb b σ' H Q) :
 wpAny (model X.prog X.w) X.A.in1 (call (.ref f) [u]) (L2.EP X pins σ Q) (fun _ _=>False) s:=by
 obtain ⟨ho,_,_⟩:=I.hok f _ hf;have ho:s.heap.get? f=some (O7 X params body sc cl pm c ctv):=ho;have hoc:s.heap.get? c=some oc:=(I.hok c _ hco).1;obtain ⟨vs,y,hd,hv⟩:=hre;refine wpAny_call (codeAny_of_tree ?_);show wpAny _ X.A.in1.in1 (callAny (.ref f) ⟨[u],[]⟩) _ _ s;simp only [callAny];refine A0 (wpAny_load ho ?_);simp only [callFunction,S.co,S.gen]
 have GW : ∀ comp : Str, wpAny (model X.prog X.w) X.A.in1.in1 (do
  let env <-newFunctionEnv sc mainGlobals cl (<-bindArgs (PySem.W.kla_fn "<lambda>" (X.env.qual ++ "<lambda>") params body sc cl pm (.ref c) ctv) ⟨[u],[]⟩) (comp ++ ".<locals>.") (some f) (.ref c) none builtinsNs
  enterFrame
  again (.expr body env)) (fun fin s'=>match fin with | .done f=>(match (Except.ok f:Result) with | .ok (.ret v)=>L2.EP X pins σ Q v s' | .ok _=>False | .error e=>False) | .again c'=>c'.quiet=true/\codeAny (model X.prog X.w) X.A.in1 c' (fun r s'=>match r with | .ok (.ret v)=>L2.EP X pins σ Q v s' | .ok _=>False | .error e=>False) s') (fun e s'=>False) s:=fun comp=>by
  rw [hb];refine A0 (A5 ?_);refine A0 (wpAny_newFunctionEnv S.nocell (fun z hz=> ?_) (fun h₁ hns hsb=> ?_) S.kind)
  . rw [A4.mp hz];exact S.par
  have hk₁:∀b o,s.heap.get? b=some o->h₁.get? b=some o:=fun b o e=>hsb.extBut b o (BW (AO e)) (A1 _ e);refine A0 (wpAny_enterFrame (I.nolimit.keeps hk₁) (by exact room) (A5 ⟨rfl,?_⟩));have J:=qM (q:=comp) (f:=f) (cd:= .ref c) (tk:=s.toks+1) I hh S r hns hk₁ hl h0 hc;refine PySem.W.kla_codeExpr (EC (hB ⟨comp,f, .ref c,s,H⟩ [] _ σ' H Q J (ht _)) (fun w s' he=> ?_) fun _ _ z=>z.elim);obtain ⟨v',H',J',rv,q⟩:=he;exact I.after ⟨v',H',J'.os,J'.bare,J'.base,J'.hok,rv,q⟩
 refine A0 (m:=field (.ref c) 1) (WE hoc hd hv ?_)
 cases y <;> exact A0 (A5 (GW _))
end Tf
namespace Tf
open PySem PySem.Spec PyProof.Rows L2
def LeastK(n:Nat)(kf:Nat->Int)(i:Nat):Prop:=∀j,j<n->kf i<=kf j/\(j<i->kf i<kf j)
def GreatK(n:Nat)(kf:Nat->Int)(i:Nat):Prop:=∀j,j<n->kf j<=kf i/\(j<i->kf j<kf i)
variable {X:Cx}
theorem XY {pins : List (Addr × Obj)} {σ : L2.St} {d q It S : Addr} {od : Obj} {es : Array DictEntry} {ep : Nat} {us : List Value} (kf : Nat -> Int) (G : Hp -> Prop) (hh : X.A.handled = none) (hdd : od.data = .dict es ep) (hus : us.length = es.size) (huk : ∀ (i : Nat) (hi : i < es.size) u, us[i]? = some u -> es[i].key = u)
 (hl:∀pins1 s1 H1,L2.Inv X pins1 σ H1 s1->G H1->s1.heap.get? d=some od) (hlI:d≠It) (hSI:S≠It)
 (turn:∀(i:Nat) (u:Value),us[i]? = some u->∀pins1 s1 H1,L2.Inv X pins1 σ H1 s1->G H1->wpAny (model X.prog X.w) X.A.in1 (call (.ref q) [u]) (L2.EP X pins1 σ (fun v H2=>v = .int (kf i)/\G H2)) (fun _ _=>False) s1)
 {R:Result->Shared->Prop} (hR:∀(i:Nat) u s1 H1,us[i]? = some u->LeastK us.length kf i->L2.Inv X pins σ H1 s1->G H1->R (.ok (.ret u)) s1) :
 ∀(r j i:Nat) (s:Shared) (H:Hp) (vb:Value) (tb:Tok) (c:Nat),us.length - (j+1)=r->j+1<=us.length->L2.Inv X pins σ H s->G H->LF X pins H S->LF X pins H It ->
   s.heap.get? S=some (seqObj "list" #[vb, .int (kf i) tb] c)->s.heap.IsKeyIter It d (j+1) es.size ep->us[i]? = some vb->i<=j->(∀j',j'<=j->kf i<=kf j'/\(j'<i->kf i<kf j')) ->
   codeAny (model X.prog X.w) X.A (.builtin "min.loop" ⟨[.ref It, .ref q, .ref S],[]⟩) R s:=by
 have hname:(toString "min" ++ toString ".loop" : String) = "min.loop" :=by decide
 have W:=RD (prog:=X.prog) (w:=X.w) (A:=X.A.in1) hh It d hlI od es ep hdd;intro r
 induction r with
 | zero=>
  intro j i s H vb tb c hr hj I g fS fI eS hit hvb hij hbest;have hin:j+1=us.length:=by omega
  refine HX Q3 ?_;rw [FE EK _];show wpAny _ X.A.in1 (seqItems? (.ref S) >>= _) _ _ _;refine A0 (CO eS rfl ?_);show wpAny _ X.A.in1 (tryCatch (pyNext (.ref It)) _ >>= _) _ _ _;refine A0 (E9 (W.done _ _ _ ⟨by rw [<-hus, <-hin];exact (by rw [<-hus, <-hin] at hit;exact hit),hl _ _ _ I g⟩ fun h' tk' hk' => ?_));have I1:L2.Inv X pins σ H {s with heap:=h',toks:=tk' }:=ES fI I fun b o hb e=>hk' b o (fun z=>hb (A4.mp z)) e;have eS':=hk' S _ (by simpa using hSI) eS;show wpAny _ X.A.in1 (updateSeq S (fun _=> #[]) >>= _) _ _ _;refine A0 ?_;refine KN eS' rfl (A0 (EH (A5 ?_)));refine hR i vb _ H hvb (fun j' hj'=>hbest j' (by omega)) (ES fS I1 (t':=tk') fun b o hb e=> ?_) g;show (h'.update S _).get? b=some o;rw [EZ _ _ _ _ hb]
  exact e
 | succ r ih=>
  intro j i s H vb tb c hr hj I g fS fI eS hit hvb hij hbest;have hlt:j+1<us.length:=by omega
  have hlt':j+1<es.size:=by omega
  refine HX Q3 ?_;rw [FE EK _];show wpAny _ X.A.in1 (seqItems? (.ref S) >>= _) _ _ _;refine A0 (CO eS rfl ?_);show wpAny _ X.A.in1 (tryCatch (pyNext (.ref It)) _ >>= _) _ _ _;refine A0 (E9 (W.item (j+1) _ _ _ hlt' ⟨hit,hl _ _ _ I g⟩ fun v h' tk' hP hst' hk' => ?_))
  have hv:us[j+1]? = some v:=by
   obtain ⟨hi,e⟩:=hP;have e1:us[j+1]? = some us[j+1]:=AE hlt;rw [e1, <-e,huk _ hi _ e1]
  obtain ⟨oI,hoI,hoc,hod⟩:=id hst'.1;have I1:L2.Inv X pins σ H {s with heap:=h',toks:=tk' }:=ES fI I fun b o hb e=>hk' b o (fun z=>hb (A4.mp z)) e;have eS':=hk' S _ (by simpa using hSI) eS
  have I2:L2.Inv X (pins ++ [(S,seqObj "list" #[vb, .int (kf i) tb] c),(It,oI)]) σ H {s with heap:=h',toks:=tk' }:=I1.pins_of fun p hp=>by
   rcases AW.mp hp with z | z
   . exact I1.pin p (AD _ z)
   . rcases AJ.mp z with rfl | z
     . exact MZ fS eS' (fun v e=>by cases e)
     . rw [A4.mp z];exact MZ fI hoI (fun v e=>by rw [hod] at e;cases e)
  show wpAny _ X.A.in1 (tryCatch (holding [v] (call (.ref q) [v])) _ >>= _) _ _ _;refine A0 (E9 (DU (EC (turn (j+1) v hv _ _ _ I2 g) (fun x s2 he=> ?_) fun _ _ hF=>hF.elim)));obtain ⟨x',H2,I3,rx,rfl,g2⟩:=he;obtain ⟨t2,rfl⟩:=(show ∃t,x=Value.int (kf (j+1)) t from rx);have pS:=I3.pin (S,seqObj "list" #[vb, .int (kf i) tb] c) (AD _ (AD _ (.head _)));have pI:=I3.pin (It,oI) (AD _ (AD _ (.tail _ (.head _))));have I4:L2.Inv X pins σ H2 s2:=I3.unpinned;have fS2:=QU fS pS.2.1;have fI2:=QU fI pI.2.1;have hit2:s2.heap.IsKeyIter It d (j+1+1) es.size ep:=⟨oI,pI.1,hoc,hod⟩;show wpAny _ X.A.in1 (tryCatch (holding [v, .int (kf (j+1)) t2] (richCompare .Lt (.int (kf (j+1)) t2) (.int (kf i) tb) >>= _)) _ >>= _) _ _ _;refine A0 (E9 (DU (A0 (show wpAny _ X.A.in1 (compareOp .Lt (.int (kf (j+1)) t2) (.int (kf i) tb)) _ _ _ from A56 ?_))));refine A0 (DU (EU ?_));refine A0 (EH (A5 ?_))
  by_cases hb':kf (j+1)<kf i
  . simp only [hb',zP,GD];refine A0 ?_;refine KN pS.1 rfl (A0 (EH ?_));rw [hname];obtain ⟨c2,hc2⟩:∃c2,(s2.heap.update S (Obj.mapSeq fun _=> #[v, .int (kf (j+1)) t2])).get? S=some (seqObj "list" #[v, .int (kf (j+1)) t2] c2):=⟨_,QP pS.1 fun _=> #[v, .int (kf (j+1)) t2]⟩
    have keep:∀b o,b≠S->s2.heap.get? b=some o->(s2.heap.update S (Obj.mapSeq fun _=> #[v, .int (kf (j+1)) t2])).get? b=some o:=fun b o hb e=>by
     rw [EZ _ _ _ _ hb];exact e
    refine A5 ⟨FU EK _,ih (j+1) (j+1) _ H2 v t2 c2 (by omega) hlt (ES fS2 I4 (t':=s2.toks) keep) g2 fS2 fI2 hc2 ⟨oI,keep _ _ hSI.symm pI.1,hoc,hod⟩ hv (A9 _) fun j' hj' => ?_⟩
    by_cases e:j'=j+1
    . subst e;exact ⟨by omega,fun _=>by omega⟩
    . have hb1:=(hbest j' (by omega)).1;exact ⟨by omega,fun _=>by omega⟩
  . simp only [hb',uJ,D6,FD];refine A0 (EH ?_);rw [hname];refine A5 ⟨FU EK _,ih (j+1) i _ H2 vb tb c (by omega) hlt I4 g2 fS2 fI2 pS.1 hit2 hvb (by omega) fun j' hj' => ?_⟩
    by_cases e:j'=j+1
    . subst e;exact ⟨by omega,fun _=>by omega⟩
    . exact hbest j' (by omega)
theorem yV {pins : List (Addr × Obj)} {σ : L2.St} {H : Hp} {s : Shared} {d q : Addr} {od : Obj} {es : Array DictEntry} {ep : Nat} {us : List Value} {Q : Value -> Shared -> Prop} {E : Value -> Shared -> Prop} (kf : Nat -> Int) (G : Hp -> Prop) (hh : X.A.handled = none) (I : L2.Inv X pins σ H s) (g : G H)
 (hds:(d==sysModules)=false) (hcl:od.cls = .type "dict") (hdd:od.data = .dict es ep) (hus:us.length=es.size) (huk:∀(i:Nat) (hi:i<es.size) u,us[i]? = some u->es[i].key=u)
 (hl:∀pins1 s1 H1,L2.Inv X pins1 σ H1 s1->G H1->s1.heap.get? d=some od) (hne:0<us.length)
 (turn:∀(i:Nat) (u:Value),us[i]? = some u->∀pins1 s1 H1,L2.Inv X pins1 σ H1 s1->G H1->wpAny (model X.prog X.w) X.A.in1 (call (.ref q) [u]) (L2.EP X pins1 σ (fun v H2=>v = .int (kf i)/\G H2)) (fun _ _=>False) s1)
 (hQ:∀(i:Nat) u s1 H1,us[i]? = some u->LeastK us.length kf i->L2.Inv X pins σ H1 s1->G H1->Q u s1) :
 wpAny (model X.prog X.w) X.A (call (.builtin "min") [.ref d] [(Str.ofString "key", .ref q)]) Q E s:=by
 have hname:(toString "min" ++ toString ".loop" : String) = "min.loop" :=by decide
 have hol:=hl _ _ _ I g;have hll:d<s.heap.objs.size:=AO hol;refine kmk_tree PySem.F.kind_min PySem.F.plain_min PySem.F.entry_min (kmk_min_key _ _) ?_;show wpAny _ X.A.in1 (Builtin.Builtins.bindParams "min" ["key","default"] 0 ⟨[],[(Str.ofString "key", .ref q)]⟩ >>= _) _ _ s;refine A0 (QL (show Builtin.Builtins.bindParams "min" ["key","default"] 0 ⟨[],[(Str.ofString "key", .ref q)]⟩=pure [some (.ref q),none] from rfl) ?_);refine A0 (A5 ?_)
 let oi:Obj:={cls:= .type "dict_keyiterator",data:= .fields #[.ref d, .int 0 0, .int es.size 0, .int ep 0]}
 refine A0 (bO hds hol hcl hdd ?_);refine A0 (A68 ?_ (CK _));rw [hname];have hS:(s.heap.push oi).objs.size=s.heap.objs.size+1:=size_push' ..;refine A5 ⟨FU EK _,?_⟩
 have gI:((s.heap.push oi).push (seqObj "list" #[] 0)).get? s.heap.objs.size=some oi:=
  A1 _ (AG _ rfl)
 have gS:((s.heap.push oi).push (seqObj "list" #[] 0)).get? (s.heap.push oi).objs.size=some (seqObj "list" #[] 0):=AG _ rfl;rw [hS] at gS
 show codeAny _ _ (.builtin "min.loop" ⟨[.ref s.heap.objs.size, .ref q, .ref (s.heap.push oi).objs.size],[]⟩) _ _;rw [hS];have keep0:∀b o,s.heap.get? b=some o->((s.heap.push oi).push (seqObj "list" #[] 0)).get? b=some o:=fun b o e=>A1 _ (A1 _ e);have fI:LF X pins H s.heap.objs.size:=I.fpOk (A9 _) (I.hok.fresh (A9 _));have fS:LF X pins H (s.heap.objs.size+1):=I.fpOk (FJ _) (I.hok.fresh (FJ _));have hlI:d≠s.heap.objs.size:=BW hll;have hSI:s.heap.objs.size+1≠s.heap.objs.size:=by omega
 have I0:L2.Inv X pins σ H {s with heap:=(s.heap.push oi).push (seqObj "list" #[] 0),toks:=s.toks}:=I.kept keep0;generalize s.heap.objs.size=It at gI gS fI fS hlI hSI
 have W:=RD (prog:=X.prog) (w:=X.w) (A:=X.A.in1) hh It d hlI od es ep hdd;refine HX Q3 ?_;rw [FE EK _];show wpAny _ X.A.in1 (seqItems? (.ref _) >>= _) _ _ _;refine A0 (CO gS rfl ?_);show wpAny _ X.A.in1 (tryCatch (pyNext (.ref It)) _ >>= _) _ _ _;refine A0 (E9 (W.item 0 _ _ _ (by rw [<-hus];exact hne) ⟨⟨_,gI,rfl,rfl⟩,hl _ _ _ I0 g⟩ fun v h' tk' hP hst' hk' => ?_))
 have hv:us[0]? = some v:=by
  obtain ⟨hi,e⟩:=hP;have e1:us[0]? = some us[0]:=AE hne;rw [e1, <-e,huk _ hi _ e1]
 obtain ⟨oI,hoI,hoc,hod⟩:=id hst'.1;have I1:=ES fI I0 (h':=h') (t':=tk') fun b o hb e=>hk' b o (fun z=>hb (A4.mp z)) e;have eS':=hk' (It+1) _ (by simp) gS
 have I2:L2.Inv X (pins ++ [(It+1,seqObj "list" #[] 0),(It,oI)]) σ H {s with heap:=h',toks:=tk' }:=I1.pins_of fun p hp=>by
  rcases AW.mp hp with z | z
  . exact I1.pin p (AD _ z)
  . rcases AJ.mp z with rfl | z
    . exact MZ fS eS' (fun v e=>by cases e)
    . rw [A4.mp z];exact MZ fI hoI (fun v e=>by rw [hod] at e;cases e)
 show wpAny _ X.A.in1 (tryCatch (holding [v] (call (.ref q) [v])) _ >>= _) _ _ _;refine A0 (E9 (DU (EC (turn 0 v hv _ _ _ I2 g) (fun x s2 he=> ?_) fun _ _ hF=>hF.elim)));obtain ⟨x',H2,I3,rx,rfl,g2⟩:=he;obtain ⟨t2,rfl⟩:=(show ∃t,x=Value.int (kf 0) t from rx);have pS:=I3.pin (It+1,seqObj "list" #[] 0) (AD _ (AD _ (.head _)));have pI:=I3.pin (It,oI) (AD _ (AD _ (.tail _ (.head _))));have I4:L2.Inv X pins σ H2 s2:=I3.unpinned;have fS2:=QU fS pS.2.1;have fI2:=QU fI pI.2.1;obtain ⟨c2,hc2⟩:∃c2,(s2.heap.update (It+1) (Obj.mapSeq fun _=> #[v, .int (kf 0) t2])).get? (It+1)=some (seqObj "list" #[v, .int (kf 0) t2] c2):=⟨_,QP pS.1 fun _=> #[v, .int (kf 0) t2]⟩
 have keep:∀b o,b≠It+1->s2.heap.get? b=some o->(s2.heap.update (It+1) (Obj.mapSeq fun _=> #[v, .int (kf 0) t2])).get? b=some o:=fun b o hb e=>by
  rw [EZ _ _ _ _ hb];exact e
 show wpAny _ X.A.in1 (updateSeq (It+1) (fun _=> #[v, .int (kf 0) t2]) >>= _) _ _ _;refine A0 ?_;refine KN pS.1 rfl ?_;rw [hname];refine A5 ⟨FU EK _,XY kf G hh hdd hus huk hl hlI hSI turn hQ _ 0 0 _ H2 v t2 c2 rfl hne (ES fS2 I4 (t':=s2.toks) keep) g2 fS2 fI2 hc2 ⟨oI,keep _ _ (BW (IN It)) pI.1,hoc,hod⟩ hv (A9 _) fun j' hj' => ?_⟩;have e:j'=0:=by omega
 subst e;exact ⟨by omega,fun h=>absurd h (GA _)⟩
theorem XC {pins : List (Addr × Obj)} {σ : L2.St} {d q It S : Addr} {od : Obj} {es : Array DictEntry} {ep : Nat} {us : List Value} (kf : Nat -> Int) (G : Hp -> Prop) (hh : X.A.handled = none) (hdd : od.data = .dict es ep) (hus : us.length = es.size) (huk : ∀ (i : Nat) (hi : i < es.size) u, us[i]? = some u -> es[i].key = u)
 (hl:∀pins1 s1 H1,L2.Inv X pins1 σ H1 s1->G H1->s1.heap.get? d=some od) (hlI:d≠It) (hSI:S≠It)
 (turn:∀(i:Nat) (u:Value),us[i]? = some u->∀pins1 s1 H1,L2.Inv X pins1 σ H1 s1->G H1->wpAny (model X.prog X.w) X.A.in1 (call (.ref q) [u]) (L2.EP X pins1 σ (fun v H2=>v = .int (kf i)/\G H2)) (fun _ _=>False) s1)
 {R:Result->Shared->Prop} (hR:∀(i:Nat) u s1 H1,us[i]? = some u->GreatK us.length kf i->L2.Inv X pins σ H1 s1->G H1->R (.ok (.ret u)) s1) :
 ∀(r j i:Nat) (s:Shared) (H:Hp) (vb:Value) (tb:Tok) (c:Nat),us.length - (j+1)=r->j+1<=us.length->L2.Inv X pins σ H s->G H->LF X pins H S->LF X pins H It ->
   s.heap.get? S=some (seqObj "list" #[vb, .int (kf i) tb] c)->s.heap.IsKeyIter It d (j+1) es.size ep->us[i]? = some vb->i<=j->(∀j',j'<=j->kf j'<=kf i/\(j'<i->kf j'<kf i)) ->
   codeAny (model X.prog X.w) X.A (.builtin "max.loop" ⟨[.ref It, .ref q, .ref S],[]⟩) R s:=by
 have hname:(toString "max" ++ toString ".loop" : String) = "max.loop" :=by decide
 have W:=RD (prog:=X.prog) (w:=X.w) (A:=X.A.in1) hh It d hlI od es ep hdd;intro r
 induction r with
 | zero=>
  intro j i s H vb tb c hr hj I g fS fI eS hit hvb hij hbest;have hin:j+1=us.length:=by omega
  refine HX Q4 ?_;rw [FE EL _];show wpAny _ X.A.in1 (seqItems? (.ref S) >>= _) _ _ _;refine A0 (CO eS rfl ?_);show wpAny _ X.A.in1 (tryCatch (pyNext (.ref It)) _ >>= _) _ _ _;refine A0 (E9 (W.done _ _ _ ⟨by rw [<-hus, <-hin];exact (by rw [<-hus, <-hin] at hit;exact hit),hl _ _ _ I g⟩ fun h' tk' hk' => ?_));have I1:L2.Inv X pins σ H {s with heap:=h',toks:=tk' }:=ES fI I fun b o hb e=>hk' b o (fun z=>hb (A4.mp z)) e;have eS':=hk' S _ (by simpa using hSI) eS;show wpAny _ X.A.in1 (updateSeq S (fun _=> #[]) >>= _) _ _ _;refine A0 ?_;refine KN eS' rfl (A0 (EH (A5 ?_)));refine hR i vb _ H hvb (fun j' hj'=>hbest j' (by omega)) (ES fS I1 (t':=tk') fun b o hb e=> ?_) g;show (h'.update S _).get? b=some o;rw [EZ _ _ _ _ hb]
  exact e
 | succ r ih=>
  intro j i s H vb tb c hr hj I g fS fI eS hit hvb hij hbest;have hlt:j+1<us.length:=by omega
  have hlt':j+1<es.size:=by omega
  refine HX Q4 ?_;rw [FE EL _];show wpAny _ X.A.in1 (seqItems? (.ref S) >>= _) _ _ _;refine A0 (CO eS rfl ?_);show wpAny _ X.A.in1 (tryCatch (pyNext (.ref It)) _ >>= _) _ _ _;refine A0 (E9 (W.item (j+1) _ _ _ hlt' ⟨hit,hl _ _ _ I g⟩ fun v h' tk' hP hst' hk' => ?_))
  have hv:us[j+1]? = some v:=by
   obtain ⟨hi,e⟩:=hP;have e1:us[j+1]? = some us[j+1]:=AE hlt;rw [e1, <-e,huk _ hi _ e1]
  obtain ⟨oI,hoI,hoc,hod⟩:=id hst'.1;have I1:L2.Inv X pins σ H {s with heap:=h',toks:=tk' }:=ES fI I fun b o hb e=>hk' b o (fun z=>hb (A4.mp z)) e;have eS':=hk' S _ (by simpa using hSI) eS
  have I2:L2.Inv X (pins ++ [(S,seqObj "list" #[vb, .int (kf i) tb] c),(It,oI)]) σ H {s with heap:=h',toks:=tk' }:=I1.pins_of fun p hp=>by
   rcases AW.mp hp with z | z
   . exact I1.pin p (AD _ z)
   . rcases AJ.mp z with rfl | z
     . exact MZ fS eS' (fun v e=>by cases e)
     . rw [A4.mp z];exact MZ fI hoI (fun v e=>by rw [hod] at e;cases e)
  show wpAny _ X.A.in1 (tryCatch (holding [v] (call (.ref q) [v])) _ >>= _) _ _ _;refine A0 (E9 (DU (EC (turn (j+1) v hv _ _ _ I2 g) (fun x s2 he=> ?_) fun _ _ hF=>hF.elim)));obtain ⟨x',H2,I3,rx,rfl,g2⟩:=he;obtain ⟨t2,rfl⟩:=(show ∃t,x=Value.int (kf (j+1)) t from rx);have pS:=I3.pin (S,seqObj "list" #[vb, .int (kf i) tb] c) (AD _ (AD _ (.head _)));have pI:=I3.pin (It,oI) (AD _ (AD _ (.tail _ (.head _))));have I4:L2.Inv X pins σ H2 s2:=I3.unpinned;have fS2:=QU fS pS.2.1;have fI2:=QU fI pI.2.1;have hit2:s2.heap.IsKeyIter It d (j+1+1) es.size ep:=⟨oI,pI.1,hoc,hod⟩;show wpAny _ X.A.in1 (tryCatch (holding [v, .int (kf (j+1)) t2] (richCompare .Gt (.int (kf (j+1)) t2) (.int (kf i) tb) >>= _)) _ >>= _) _ _ _;refine A0 (E9 (DU (A0 (show wpAny _ X.A.in1 (compareOp .Gt (.int (kf (j+1)) t2) (.int (kf i) tb)) _ _ _ from PyProof.Rows.gt_int ?_))));refine A0 (DU (EU ?_));refine A0 (EH (A5 ?_))
  by_cases hb':kf i<kf (j+1)
  . simp only [hb',zP,GD];refine A0 ?_;refine KN pS.1 rfl (A0 (EH ?_));rw [hname];obtain ⟨c2,hc2⟩:∃c2,(s2.heap.update S (Obj.mapSeq fun _=> #[v, .int (kf (j+1)) t2])).get? S=some (seqObj "list" #[v, .int (kf (j+1)) t2] c2):=⟨_,QP pS.1 fun _=> #[v, .int (kf (j+1)) t2]⟩
    have keep:∀b o,b≠S->s2.heap.get? b=some o->(s2.heap.update S (Obj.mapSeq fun _=> #[v, .int (kf (j+1)) t2])).get? b=some o:=fun b o hb e=>by
     rw [EZ _ _ _ _ hb];exact e
    refine A5 ⟨FU EL _,ih (j+1) (j+1) _ H2 v t2 c2 (by omega) hlt (ES fS2 I4 (t':=s2.toks) keep) g2 fS2 fI2 hc2 ⟨oI,keep _ _ hSI.symm pI.1,hoc,hod⟩ hv (A9 _) fun j' hj' => ?_⟩
    by_cases e:j'=j+1
    . subst e;exact ⟨by omega,fun _=>by omega⟩
    . have hb1:=(hbest j' (by omega)).1;exact ⟨by omega,fun _=>by omega⟩
  . simp only [hb',uJ,D6,FD];refine A0 (EH ?_);rw [hname];refine A5 ⟨FU EL _,ih (j+1) i _ H2 vb tb c (by omega) hlt I4 g2 fS2 fI2 pS.1 hit2 hvb (by omega) fun j' hj' => ?_⟩
    by_cases e:j'=j+1
    . subst e;exact ⟨by omega,fun _=>by omega⟩
    . exact hbest j' (by omega)
theorem y7 {pins : List (Addr × Obj)} {σ : L2.St} {H : Hp} {s : Shared} {d q : Addr} {od : Obj} {es : Array DictEntry} {ep : Nat} {us : List Value} {Q : Value -> Shared -> Prop} {E : Value -> Shared -> Prop} (kf : Nat -> Int) (G : Hp -> Prop) (hh : X.A.handled = none) (I : L2.Inv X pins σ H s) (g : G H)
 (hds:(d==sysModules)=false) (hcl:od.cls = .type "dict") (hdd:od.data = .dict es ep) (hus:us.length=es.size) (huk:∀(i:Nat) (hi:i<es.size) u,us[i]? = some u->es[i].key=u)
 (hl:∀pins1 s1 H1,L2.Inv X pins1 σ H1 s1->G H1->s1.heap.get? d=some od) (hne:0<us.length)
 (turn:∀(i:Nat) (u:Value),us[i]? = some u->∀pins1 s1 H1,L2.Inv X pins1 σ H1 s1->G H1->wpAny (model X.prog X.w) X.A.in1 (call (.ref q) [u]) (L2.EP X pins1 σ (fun v H2=>v = .int (kf i)/\G H2)) (fun _ _=>False) s1)
 (hQ:∀(i:Nat) u s1 H1,us[i]? = some u->GreatK us.length kf i->L2.Inv X pins σ H1 s1->G H1->Q u s1) :
 wpAny (model X.prog X.w) X.A (call (.builtin "max") [.ref d] [(Str.ofString "key", .ref q)]) Q E s:=by
 have hname:(toString "max" ++ toString ".loop" : String) = "max.loop" :=by decide
 have hol:=hl _ _ _ I g;have hll:d<s.heap.objs.size:=AO hol;refine kmk_tree PySem.F.kind_max PySem.F.plain_max PySem.F.entry_max (kmk_max_key _ _) ?_;show wpAny _ X.A.in1 (Builtin.Builtins.bindParams "max" ["key","default"] 0 ⟨[],[(Str.ofString "key", .ref q)]⟩ >>= _) _ _ s;refine A0 (QL (show Builtin.Builtins.bindParams "max" ["key","default"] 0 ⟨[],[(Str.ofString "key", .ref q)]⟩=pure [some (.ref q),none] from rfl) ?_);refine A0 (A5 ?_)
 let oi:Obj:={cls:= .type "dict_keyiterator",data:= .fields #[.ref d, .int 0 0, .int es.size 0, .int ep 0]}
 refine A0 (bO hds hol hcl hdd ?_);refine A0 (A68 ?_ (CK _));rw [hname];have hS:(s.heap.push oi).objs.size=s.heap.objs.size+1:=size_push' ..;refine A5 ⟨FU EL _,?_⟩
 have gI:((s.heap.push oi).push (seqObj "list" #[] 0)).get? s.heap.objs.size=some oi:=
  A1 _ (AG _ rfl)
 have gS:((s.heap.push oi).push (seqObj "list" #[] 0)).get? (s.heap.push oi).objs.size=some (seqObj "list" #[] 0):=AG _ rfl;rw [hS] at gS
 show codeAny _ _ (.builtin "max.loop" ⟨[.ref s.heap.objs.size, .ref q, .ref (s.heap.push oi).objs.size],[]⟩) _ _;rw [hS];have keep0:∀b o,s.heap.get? b=some o->((s.heap.push oi).push (seqObj "list" #[] 0)).get? b=some o:=fun b o e=>A1 _ (A1 _ e);have fI:LF X pins H s.heap.objs.size:=I.fpOk (A9 _) (I.hok.fresh (A9 _));have fS:LF X pins H (s.heap.objs.size+1):=I.fpOk (FJ _) (I.hok.fresh (FJ _));have hlI:d≠s.heap.objs.size:=BW hll;have hSI:s.heap.objs.size+1≠s.heap.objs.size:=by omega
 have I0:L2.Inv X pins σ H {s with heap:=(s.heap.push oi).push (seqObj "list" #[] 0),toks:=s.toks}:=I.kept keep0;generalize s.heap.objs.size=It at gI gS fI fS hlI hSI
 have W:=RD (prog:=X.prog) (w:=X.w) (A:=X.A.in1) hh It d hlI od es ep hdd;refine HX Q4 ?_;rw [FE EL _];show wpAny _ X.A.in1 (seqItems? (.ref _) >>= _) _ _ _;refine A0 (CO gS rfl ?_);show wpAny _ X.A.in1 (tryCatch (pyNext (.ref It)) _ >>= _) _ _ _;refine A0 (E9 (W.item 0 _ _ _ (by rw [<-hus];exact hne) ⟨⟨_,gI,rfl,rfl⟩,hl _ _ _ I0 g⟩ fun v h' tk' hP hst' hk' => ?_))
 have hv:us[0]? = some v:=by
  obtain ⟨hi,e⟩:=hP;have e1:us[0]? = some us[0]:=AE hne;rw [e1, <-e,huk _ hi _ e1]
 obtain ⟨oI,hoI,hoc,hod⟩:=id hst'.1;have I1:=ES fI I0 (h':=h') (t':=tk') fun b o hb e=>hk' b o (fun z=>hb (A4.mp z)) e;have eS':=hk' (It+1) _ (by simp) gS
 have I2:L2.Inv X (pins ++ [(It+1,seqObj "list" #[] 0),(It,oI)]) σ H {s with heap:=h',toks:=tk' }:=I1.pins_of fun p hp=>by
  rcases AW.mp hp with z | z
  . exact I1.pin p (AD _ z)
  . rcases AJ.mp z with rfl | z
    . exact MZ fS eS' (fun v e=>by cases e)
    . rw [A4.mp z];exact MZ fI hoI (fun v e=>by rw [hod] at e;cases e)
 show wpAny _ X.A.in1 (tryCatch (holding [v] (call (.ref q) [v])) _ >>= _) _ _ _;refine A0 (E9 (DU (EC (turn 0 v hv _ _ _ I2 g) (fun x s2 he=> ?_) fun _ _ hF=>hF.elim)));obtain ⟨x',H2,I3,rx,rfl,g2⟩:=he;obtain ⟨t2,rfl⟩:=(show ∃t,x=Value.int (kf 0) t from rx);have pS:=I3.pin (It+1,seqObj "list" #[] 0) (AD _ (AD _ (.head _)));have pI:=I3.pin (It,oI) (AD _ (AD _ (.tail _ (.head _))));have I4:L2.Inv X pins σ H2 s2:=I3.unpinned;have fS2:=QU fS pS.2.1;have fI2:=QU fI pI.2.1;obtain ⟨c2,hc2⟩:∃c2,(s2.heap.update (It+1) (Obj.mapSeq fun _=> #[v, .int (kf 0) t2])).get? (It+1)=some (seqObj "list" #[v, .int (kf 0) t2] c2):=⟨_,QP pS.1 fun _=> #[v, .int (kf 0) t2]⟩
 have keep:∀b o,b≠It+1->s2.heap.get? b=some o->(s2.heap.update (It+1) (Obj.mapSeq fun _=> #[v, .int (kf 0) t2])).get? b=some o:=fun b o hb e=>by
  rw [EZ _ _ _ _ hb];exact e
 show wpAny _ X.A.in1 (updateSeq (It+1) (fun _=> #[v, .int (kf 0) t2]) >>= _) _ _ _;refine A0 ?_;refine KN pS.1 rfl ?_;rw [hname];refine A5 ⟨FU EL _,XC kf G hh hdd hus huk hl hlI hSI turn hQ _ 0 0 _ H2 v t2 c2 rfl hne (ES fS2 I4 (t':=s2.toks) keep) g2 fS2 fI2 hc2 ⟨oI,keep _ _ (BW (IN It)) pI.1,hoc,hod⟩ hv (A9 _) fun j' hj' => ?_⟩;have e:j'=0:=by omega
 subst e;exact ⟨by omega,fun h=>absurd h (GA _)⟩
end Tf
namespace Tf
open PySem PySem.Spec PyProof.Rows L2
def M9(Best:Nat->(Nat->Int)->Nat->Prop)(te:TE)(js:List Nat)(tb:LB->TE):TE:=fun σ H Q=>te σ H fun v H1=>∃a od t,v = .ref a/\H1 a=some (.frz od (.dT t))/\t ≠ [] /\
 ∀f c oc fo H2,Made H1 H2 f c oc fo->∀bs,kT H2 t bs->∃(kf:Nat->Int) (G:Hp->Prop),G H2/\(∀H3,G H3->Same H2 H3) /\
  (∀(i:Nat) b,bs[i]? = some b->∀H3,G H3->∀L,tb L (some (.ref b)::js.map fun j=>(σ[j]?).join) H3 fun w H4=>w = .int (kf i)/\G H4) /\
  ∀(i:Nat) b H3,bs[i]? = some b->Best bs.length kf i->G H3->Q (.ref b) H3
theorem Made.up{H H':Hp}{f c:Addr}{oc fo:Obj}(M:Made H H' f c oc fo){b:Addr}{u:HO}(e:H b=some u):H' b=some u:=by
 obtain ⟨H1,h1,hn,rfl⟩:=M.same
 have e1:H1 b=some u:=by
  rcases h1 with rfl | ⟨h1n,rfl⟩
  . exact e
  . rw [BE (BJ e h1n)];exact e
 rw [BE (BJ e1 hn)];exact e1
variable {X:Cx}
theorem iD{sc:Scope}{x y:Str}{c:Addr}(hn:sc.names = [(x, .local),(y, .free)])(hk:sc.kind = .function)(hco:sc.isCoroutine=false)(hgen:sc.isGenerator=false)(hxy:(y==x)=false)(hc:X.env.cells.lookup y=some c)(hout:X.env.scope.names.lookup y=some .cell):LamSc X sc [(y,c)] x [y]:=by
 have ly:sc.names.lookup y=some .free:=by rw [hn];simp [List.lookup,hxy]
 refine ⟨hk,hco,hgen,by rw [hn];simp [List.lookup],fun z hz=> ?_,fun z hz=> ?_,fun z hz=> ?_,fun z d h=> ?_,fun z hz=> ?_,fun z hz=> ?_⟩
 . rw [hn] at hz
   simp only [AJ,B8,DN] at hz
   rcases hz with rfl | rfl <;> simp
 . rw [hn] at hz
   have m:=EM hz;simp only [AJ,B8,DN,Prod.mk.injEq] at m
   rcases m with ⟨_,m⟩ | ⟨rfl,_⟩
   . cases m
   . exact A4.mpr rfl
 . rw [A4.mp hz];exact ly
 . have m:=EM h;simp only [AJ,B8,DN,Prod.mk.injEq] at m
   obtain ⟨rfl,rfl⟩:=m;exact hc
 . rw [A4.mp hz];exact ⟨c,by simp [List.lookup]⟩
 . rw [A4.mp hz];exact hout
theorem WY{sc:Scope}{env:Env}{x y:Str}{c:Addr}(hn:sc.names = [(x, .local),(y, .free)])(hc:env.cells.lookup y=some c):closureFor sc env=pure [(y,c)]:=by
 unfold closureFor cellOf;rw [hn];simp [hc]
theorem fV {k : Nat} {x y : Str} {params : Arguments} {body e : Expr} {sc : Scope} {p pos pk lpos : Pos} {c P : Addr} {clos : List (Str × Addr)} {j : Nat} {te : TE} {tb : LB -> TE} (hcd : X.env.code = .ref c) (C : PySem.W.CodeHd X.base c P) (hp : P ∈ IW X.K) (bm : BM X.base X.mg) (hdef : defaultsOf params X.env = ([], [])) (hcl : closureFor sc X.env = pure clos)
 (S:LamSc X sc clos x [y]) (hbd:∀(u pm ct cd:Value),bindArgs (PySem.W.kla_fn "<lambda>" (X.env.qual ++ "<lambda>") params body sc clos pm cd ct) ⟨[u],[]⟩=pure [(x,u)]) (hj:X.N[j]? = some y) (hr:Room (k+1) X.A) (h:PE X e te) (hB:∀L,PE (MN X [x,y] sc clos L) body (tb L))
 (hv:bootBuiltins "min" = some (.builtin "min")) (hm:X.mg "min" = none) (hg:Gl X "min")
 (he:starEach [e] X.env=(false,eval e X.env)::starEach [] X.env) (hpl:(backTo pos (starEach [e] X.env)).any (·.1)=false) (hkw:(backToKw pos (keywordEach [⟨some "key", .Lambda params body sc lpos,pk⟩] X.env)).any (·.1.isNone)=false) (hall:(backToKw pos (keywordEach [⟨some "key", .Lambda params body sc lpos,pk⟩] X.env)).all (·.1.isSome)=true) (hks:(backToKw pos (keywordEach [⟨some "key", .Lambda params body sc lpos,pk⟩] X.env)).filterMap (·.1) = [Str.ofString "key"]) :
 PE X (.Call (.Name "min" p) [e] [⟨some "key", .Lambda params body sc lpos,pk⟩] pos) (M9 LeastK te [j] tb):=by
 intro pins s σ H Q I h0;refine ED (IF I hg hm hv ?_ (by decide) (by decide));refine callWith_builtin_kwB hpl hkw (evalArgs_kw2 hall ?_ he);refine thn ((L4 h ON he:PA X [e] (NT te tNil)) pos pins s σ H (fun us' H1=>match us' with | [v]=>(M9 LeastK (tC v) [j] tb) σ H1 Q | _=>False) I h0) fun us s1 hA=> ?_;obtain ⟨vs1,H1,I1,r,q⟩:=hA
 obtain ⟨v,rfl⟩:∃v,vs1 = [v]:=by
  match vs1,q with
  | [v],_=>exact ⟨v,rfl⟩
 replace q:(M9 LeastK (tC v) [j] tb) σ H1 Q:=q
 obtain ⟨u,rfl,ru⟩:=JP r;obtain ⟨a,od,t,rfl,hfz,hne,q⟩:=q
 cases ru
 refine thn (bQ (nm:=some "key") (kpos:=pk) (i8 (pos:=lpos) (body:=body) hcd C hp bm hdef hcl) lV pos pins s1 σ H1 (fun ws H2=>∃f c oc pm ctv,ws = [.ref f]/\Made H1 H2 f c oc (O7 X params body sc clos pm c ctv)) I1 ?_) fun ws s2 hB2=> ?_
 . intro f c oc pm ctv H' M;exact ⟨f,c,oc,pm,ctv,rfl,M⟩
 obtain ⟨zs,H2,I2,rz,f,c,oc,pm,ctv,rfl,M⟩:=hB2;obtain ⟨w',rfl,rw'⟩:=JP rz
 cases rw'
 rw [hks];have hfz2:=M.up hfz;obtain ⟨g0,z,hds,ps,kt,o',es,ep,h1,h2,h3,h4,h5⟩:=(show ObjOk X.prog X.w H2 s2.heap a (.frz od (.dT t)) from I2.hok a _ hfz2);rw [g0] at h1
 cases h1
 have lp:es.size=ps.length:=by
  have e1:es.toList.length=ps.length:=by rw [h4,AA]
  rw [<-e1];simp
 have l2:t.length=ps.length:=IL kt;obtain ⟨kf,G,g,hS,turn,fin⟩:=q f c oc _ H2 M _ (bN kt);have bl:((ps.map fun q=>q.2.1).map Value.ref).length=(ps.map fun q=>q.2.1).length:=AA ..
 have at_:∀ {i:Nat} {u:Value},((ps.map fun q=>q.2.1).map Value.ref)[i]? = some u->∃b,(ps.map fun q=>q.2.1)[i]? = some b/\u = .ref b:=fun {i u} hu=>by
  rw [B5] at hu
  obtain ⟨b,eb,rfl⟩:=AH.mp hu;exact ⟨b,eb,rfl⟩
 show wpAny _ X.A (call (.builtin "min") [.ref a] [(Str.ofString "key", .ref f)]) _ _ _;refine yV (us:=(ps.map fun q=>q.2.1).map Value.ref) (es:=es) kf G hr.hd I2 g hds h2.1 h3 (by rw [bl,AA,lp]) (fun i hi u hu=> ?_) (fun pins1 s3 H3 J g3=>(J.hok a _ (hS H3 g3 _ _ hfz2)).1) (by rw [bl,AA, <-l2];exact GG.mpr hne) (fun i u hu pins1 s3 H3 J g3=> ?_) fun i u s3 H3 hu hb J g3=> ?_
 . obtain ⟨b,eb,rfl⟩:=at_ hu;have e3:es.toList[i]? = some es[i]:=by simp [hi]
   rw [h4,B5] at e3
   obtain ⟨p',hp',e4⟩:=AH.mp e3;rw [B5,hp'] at eb
   cases eb
   rw [<-e4];rfl
 . obtain ⟨b,eb,rfl⟩:=at_ hu;refine WK (v:= .ref b) (tb:=tb) (σ':=some (.ref b) :: [j].map fun j=>(σ[j]?).join) J hr.hd (by have:=hr.in1.depth;exact this) S rfl (hS H3 g3 _ _ M.fn) (hS H3 g3 _ _ M.code) M.rec_ (fun pm ct cd=>hbd _ pm ct cd) rfl rfl (fun i' y' w hy hw=> ?_) hB (turn i b eb H3 g3)
   cases i' with
   | zero=>
    cases hy
    refine ⟨j,hj,?_⟩;have hw:some ((σ[j]?).join)=some (some w):=hw;have hw:=BN hw
    cases e:σ[j]? with
    | none=>rw [e] at hw;cases hw
    | some o=>rw [e] at hw;cases hw;rfl
   | succ i'=>simp at hy
 . obtain ⟨b,eb,rfl⟩:=at_ hu;rw [bl] at hb
   exact ⟨.ref b,H3,J,rfl,fin i b H3 eb hb g3⟩
theorem fG {k : Nat} {x y : Str} {params : Arguments} {body e : Expr} {sc : Scope} {p pos pk lpos : Pos} {c P : Addr} {clos : List (Str × Addr)} {j : Nat} {te : TE} {tb : LB -> TE} (hcd : X.env.code = .ref c) (C : PySem.W.CodeHd X.base c P) (hp : P ∈ IW X.K) (bm : BM X.base X.mg) (hdef : defaultsOf params X.env = ([], [])) (hcl : closureFor sc X.env = pure clos)
 (S:LamSc X sc clos x [y]) (hbd:∀(u pm ct cd:Value),bindArgs (PySem.W.kla_fn "<lambda>" (X.env.qual ++ "<lambda>") params body sc clos pm cd ct) ⟨[u],[]⟩=pure [(x,u)]) (hj:X.N[j]? = some y) (hr:Room (k+1) X.A) (h:PE X e te) (hB:∀L,PE (MN X [x,y] sc clos L) body (tb L))
 (hv:bootBuiltins "max" = some (.builtin "max")) (hm:X.mg "max" = none) (hg:Gl X "max")
 (he:starEach [e] X.env=(false,eval e X.env)::starEach [] X.env) (hpl:(backTo pos (starEach [e] X.env)).any (·.1)=false) (hkw:(backToKw pos (keywordEach [⟨some "key", .Lambda params body sc lpos,pk⟩] X.env)).any (·.1.isNone)=false) (hall:(backToKw pos (keywordEach [⟨some "key", .Lambda params body sc lpos,pk⟩] X.env)).all (·.1.isSome)=true) (hks:(backToKw pos (keywordEach [⟨some "key", .Lambda params body sc lpos,pk⟩] X.env)).filterMap (·.1) = [Str.ofString "key"]) :
 PE X (.Call (.Name "max" p) [e] [⟨some "key", .Lambda params body sc lpos,pk⟩] pos) (M9 GreatK te [j] tb):=by
 intro pins s σ H Q I h0;refine ED (IF I hg hm hv ?_ (by decide) (by decide));refine callWith_builtin_kwB hpl hkw (evalArgs_kw2 hall ?_ he);refine thn ((L4 h ON he:PA X [e] (NT te tNil)) pos pins s σ H (fun us' H1=>match us' with | [v]=>(M9 GreatK (tC v) [j] tb) σ H1 Q | _=>False) I h0) fun us s1 hA=> ?_;obtain ⟨vs1,H1,I1,r,q⟩:=hA
 obtain ⟨v,rfl⟩:∃v,vs1 = [v]:=by
  match vs1,q with
  | [v],_=>exact ⟨v,rfl⟩
 replace q:(M9 GreatK (tC v) [j] tb) σ H1 Q:=q
 obtain ⟨u,rfl,ru⟩:=JP r;obtain ⟨a,od,t,rfl,hfz,hne,q⟩:=q
 cases ru
 refine thn (bQ (nm:=some "key") (kpos:=pk) (i8 (pos:=lpos) (body:=body) hcd C hp bm hdef hcl) lV pos pins s1 σ H1 (fun ws H2=>∃f c oc pm ctv,ws = [.ref f]/\Made H1 H2 f c oc (O7 X params body sc clos pm c ctv)) I1 ?_) fun ws s2 hB2=> ?_
 . intro f c oc pm ctv H' M;exact ⟨f,c,oc,pm,ctv,rfl,M⟩
 obtain ⟨zs,H2,I2,rz,f,c,oc,pm,ctv,rfl,M⟩:=hB2;obtain ⟨w',rfl,rw'⟩:=JP rz
 cases rw'
 rw [hks];have hfz2:=M.up hfz;obtain ⟨g0,z,hds,ps,kt,o',es,ep,h1,h2,h3,h4,h5⟩:=(show ObjOk X.prog X.w H2 s2.heap a (.frz od (.dT t)) from I2.hok a _ hfz2);rw [g0] at h1
 cases h1
 have lp:es.size=ps.length:=by
  have e1:es.toList.length=ps.length:=by rw [h4,AA]
  rw [<-e1];simp
 have l2:t.length=ps.length:=IL kt;obtain ⟨kf,G,g,hS,turn,fin⟩:=q f c oc _ H2 M _ (bN kt);have bl:((ps.map fun q=>q.2.1).map Value.ref).length=(ps.map fun q=>q.2.1).length:=AA ..
 have at_:∀ {i:Nat} {u:Value},((ps.map fun q=>q.2.1).map Value.ref)[i]? = some u->∃b,(ps.map fun q=>q.2.1)[i]? = some b/\u = .ref b:=fun {i u} hu=>by
  rw [B5] at hu
  obtain ⟨b,eb,rfl⟩:=AH.mp hu;exact ⟨b,eb,rfl⟩
 show wpAny _ X.A (call (.builtin "max") [.ref a] [(Str.ofString "key", .ref f)]) _ _ _;refine y7 (us:=(ps.map fun q=>q.2.1).map Value.ref) (es:=es) kf G hr.hd I2 g hds h2.1 h3 (by rw [bl,AA,lp]) (fun i hi u hu=> ?_) (fun pins1 s3 H3 J g3=>(J.hok a _ (hS H3 g3 _ _ hfz2)).1) (by rw [bl,AA, <-l2];exact GG.mpr hne) (fun i u hu pins1 s3 H3 J g3=> ?_) fun i u s3 H3 hu hb J g3=> ?_
 . obtain ⟨b,eb,rfl⟩:=at_ hu;have e3:es.toList[i]? = some es[i]:=by simp [hi]
   rw [h4,B5] at e3
   obtain ⟨p',hp',e4⟩:=AH.mp e3;rw [B5,hp'] at eb
   cases eb
   rw [<-e4];rfl
 . obtain ⟨b,eb,rfl⟩:=at_ hu;refine WK (v:= .ref b) (tb:=tb) (σ':=some (.ref b) :: [j].map fun j=>(σ[j]?).join) J hr.hd (by have:=hr.in1.depth;exact this) S rfl (hS H3 g3 _ _ M.fn) (hS H3 g3 _ _ M.code) M.rec_ (fun pm ct cd=>hbd _ pm ct cd) rfl rfl (fun i' y' w hy hw=> ?_) hB (turn i b eb H3 g3)
   cases i' with
   | zero=>
    cases hy
    refine ⟨j,hj,?_⟩;have hw:some ((σ[j]?).join)=some (some w):=hw;have hw:=BN hw
    cases e:σ[j]? with
    | none=>rw [e] at hw;cases hw
    | some o=>rw [e] at hw;cases hw;rfl
   | succ i'=>simp at hy
 . obtain ⟨b,eb,rfl⟩:=at_ hu;rw [bl] at hb
   exact ⟨.ref b,H3,J,rfl,fin i b H3 eb hb g3⟩
end Tf
namespace Dm
open PySem PySem.Spec PyProof.Rows L2 Tf
def TX(j:Nat)(ρ:En):Option Sl:=match (ρ[j]?).join with
 | some (.val d)=>some (.val d)
 | _=>none
def SW(fb:En->Option Sl)(c:Option Sl):List PyData->Option (List Int)
 | []=>some []
 | k::ks=>((fb [some (.val k),c]).bind aP).bind fun n=>(SW fb c ks).map (n :: ·)
def OH(ks:List Int):Nat:=ks.findIdx fun k=>ks.all fun m=>decide (m<=k)
def JU(arg:List Int->Nat)(j:Nat)(fb:En->Option Sl)(fe:En->Option Sl):En->Option Sl:=fun ρ=>(fe ρ).bind fun a=>match a with
 | .val (.dict ((.none, .none)::kvs))=>(SW fb (TX j ρ) (kvs.map (·.1))).bind fun ns=>((kvs.map (·.1))[arg ns]?).map .val
 | _=>none
theorem dW{ks:List Int}{i:Nat}(hi:i<ks.length)(h:Tf.GreatK ks.length (fun j=>ks.getD j 0) i):OH ks=i:=by
 have g:∀j (hj:j<ks.length),ks.getD j 0=ks[j]:=fun j hj=>by simp [hj]
 unfold OH;rw [List.findIdx_eq hi];refine ⟨List.all_eq_true.mpr fun m hm=> ?_,fun j hj=> ?_⟩
 . obtain ⟨j,hj,e⟩:=I9.mp hm;have:=(h j hj).1
   dsimp only at this
   rw [g i hi,g j hj,e] at this
   exact AS this
 . have:=(h j (by omega)).2 hj
   dsimp only at this
   rw [g i hi,g j (by omega)] at this
   refine G4.mpr fun c=> ?_;have:=AT (GJ.mp c ks[i] (F0 hi));omega
theorem ZF{ks:List Int}{i:Nat}(hi:i<ks.length)(h:Tf.LeastK ks.length (fun j=>ks.getD j 0) i):N9 ks=i:=fZ hi h
theorem UY{fb:En->Option Sl}{c:Option Sl}:∀ {ks:List PyData} {ns:List Int},SW fb c ks=some ns->ns.length=ks.length/\∀(i:Nat) k,ks[i]? = some k->fb [some (.val k),c]=some (.val (.int (ns.getD i 0)))
 | [],ns,h=>by cases h;exact ⟨rfl,fun i k e=>by simp at e⟩
 | k::ks,ns,h=>by
  obtain ⟨n,h1,h⟩:=A3.mp h;obtain ⟨ns',h2,rfl⟩:=AH.mp h;obtain ⟨s,hs,h1⟩:=A3.mp h1;obtain ⟨l,g⟩:=UY h2;refine ⟨by simp [l],fun i k' e=> ?_⟩
  cases i with
  | zero=>
   cases e
   rw [hs,ZV h1]
   rfl
  | succ i=>exact g i k' e
section
variable {K:PySem.W.Frag}
theorem jI{H0 H H':Hp}{f c:Addr}{oc fo:Obj}(s:Same H0 H)(M:Made H H' f c oc fo):Ext H0 H H0 H':=by
 obtain ⟨H1,h1,hn,rfl⟩:=M.same;rcases h1 with rfl | ⟨h1n,rfl⟩
 . exact Ext.alloc s hn _
 . have x1:=Ext.alloc s h1n (.frz oc (.own 0));exact x1.trans (Ext.alloc x1.s1 hn _)
theorem x6{H:Hp}{v:V}{kvs:List (PyData×PyData)}(h:Rep K H v (.dict ((.none, .none)::kvs))):∃(a:Addr) (o:Obj) (ks:List (List Key)) (xs:List V) (ds:List PyData),v = .ref a/\H a=some (.frz o (.dT (ks.zip xs)))/\ks.length=xs.length/\Reps K H xs ds/\kvs=(ks.map tupD).zip ds:=by
 generalize hd:PyData.dict ((PyData.none,PyData.none)::kvs)=d at h
 cases h with
 | @dict a ks xs ds h1 h2 h3=>
  exfalso;have hd:=PyData.dict.inj hd
  cases ks with
  | nil=>simp at hd
  | cons k ks=>
   cases ds with
   | nil=>simp at hd
   | cons d ds=>
    have:=(nD hd).1
    cases this
 | @dictF a o ks xs ds h1 h2 h3=>
  have hd:=PyData.dict.inj hd;have e:=(nD hd).2
  exact ⟨a,o,ks,xs,ds,rfl,h1,h2,h3,e⟩
 | _=>cases hd
theorem UQ {Best : Nat -> (Nat -> Int) -> Nat -> Prop} {arg : List Int -> Nat} (harg : ∀ {ks : List Int} {i : Nat}, i < ks.length -> Best ks.length (fun j => ks.getD j 0) i -> arg ks = i) {j : Nat} {te : TE} {tb : LB -> TE} {fe fb : En -> Option Sl} (h : RP K (PR K) te fe) (hB : ∀ L, RE K (PR K) (tb L) fb) :
 RE K (PR K) (M9 Best te [j] tb) (JU arg j fb fe):=fun HB σ ρ H0 H s e z hz Q q=>by
 obtain ⟨x,hx,hz⟩:=A3.mp hz
 split at hz
 . rename_i kvs;obtain ⟨ns,hns,hz⟩:=A3.mp hz;obtain ⟨d0,hd0,rfl⟩:=AH.mp hz;obtain ⟨nl,ng⟩:=UY hns;refine h HB σ ρ H0 H s e _ hx _ fun v H1 J1 x1 p1=> ?_;obtain ⟨a,od,ks,xs,ds,rfl,hfz,hlen,hre,rfl⟩:=x6 (show Rep K H1 v (.dict ((.none, .none)::kvs)) from p1);have e4:((ks.map tupD).zip ds).map (·.1)=ks.map tupD:=List.map_fst_zip (by rw [AA];have:=hre.length;omega);rw [e4] at hd0 nl ng
   have lk:ns.length=ks.length:=by rw [nl,AA]
   have hne:ks.zip xs ≠ []:=fun c=>by
    have:(ks.zip xs).length=0:=by rw [c];rfl
    rw [JG] at this
    have k0:ks = []:=EA.mp (by omega);subst k0;simp at hd0
   refine ⟨a,od,ks.zip xs,rfl,x1.s1 _ _ hfz,hne,fun f c oc fo J2 M bs hb=> ?_⟩;have x2:Ext H1 J1 H1 J2:=jI x1.s1 M
   have lb:bs.length=ks.length:=by
    have:=hb.1;rw [JG] at this
    omega
   have kz:∀(i:Nat) b k,bs[i]? = some b->ks[i]? = some k->J2 b=some (.tup (k.map kV)):=fun i b k h3 h4=>by
    have hi:i<xs.length:=by
     have:=(AQ.mp h4).1;omega
    exact hb.2 i b (k,xs[i]) h3 (by rw [List.getElem?_zip_eq_some];exact ⟨h4,by simp [hi]⟩)
   have tp:∀b ∈ bs,∃vs,J2 b=some (.tup vs):=fun b hm=>by
    obtain ⟨i,hi,rfl⟩:=List.getElem_of_mem hm;exact ⟨_,kz i _ (ks[i]'(by omega)) (by simp [hi]) (by simp [lb ▸ hi])⟩
   have x3:Ext H1 J2 (VW H1 J2 bs) J2:=jH x2.s1 tp
   have rk:∀(i:Nat) b k,bs[i]? = some b->ks[i]? = some k->Rep K (VW H1 J2 bs) (.ref b) (tupD k):=fun i b k h3 h4=>by
    refine .tuple (xs:=k.map kV) ?_ (S1 k);unfold VW;rw [if_pos (List.mem_of_getElem? h3)];exact kz i b k h3 h4
   have ex:Ext H0 H (VW H1 J2 bs) J2:=x1.trans (x2.trans x3);refine ⟨fun i=>ns.getD i 0,fun J3=>∃H3,Ext (VW H1 J2 bs) J2 H3 J3,⟨_,Ext.refl x3.s1⟩,fun J3 ⟨_,y⟩=>y.s,fun i b hbi J3 ⟨H3,y⟩ L=> ?_,fun i b J3 hbi hbest ⟨H3,y⟩ => ?_⟩
   . have hi:i<ks.length:=by have:=(AQ.mp hbi).1;omega
     have hk:ks[i]? = some ks[i]:=AE hi;have ev:=ng i (tupD ks[i]) (by rw [B5,hk];rfl);refine hB L J3 _ [some (.val (tupD ks[i])),TX j ρ] H3 J3 y.s1 ⟨⟨rfl,fun m r hm=> ?_,fun m m' a' ds' es' hmm h1 h2 _ _=> ?_⟩⟩ _ ev _ fun w H4 J4 y2 p2=>⟨SlP.int (SlH.p p2),H4,y.trans y2⟩
     . cases m with
       | zero=>
        cases hm
        exact ⟨.ref b,rfl,Rep.same y.s0 (rk i b _ hbi hk)⟩
       | succ m=>
        cases m with
        | succ m=>simp at hm
        | zero=>
         have hm:some (TX j ρ)=some (some r):=hm;have hm:=Option.some.inj hm;unfold TX at hm
         split at hm
         . rename_i d hj
           cases hm
           obtain ⟨v,hv,hr⟩:=e.r.get j _ (join_some hj);exact ⟨v,by simp [hv],Rep.same (ex.s0.trans y.s0) (show Rep K H0 v d from hr)⟩
         . cases hm
     . cases m with
       | zero=>cases h1
       | succ m=>
        cases m with
        | succ m=>simp at h1
        | zero=>
         have h1:some (TX j ρ)=some (some (.own ds')):=h1;have h1:=Option.some.inj h1;unfold TX at h1
         split at h1 <;> cases h1
   . have hi:i<ks.length:=by have:=(AQ.mp hbi).1;omega
     have hk:ks[i]? = some ks[i]:=AE hi;have ea:arg ns=i:=harg (by omega) (by rw [lk, <-lb];exact hbest);rw [ea,B5,hk] at hd0
     cases hd0
     exact q _ _ _ (ex.trans y) (Rep.same y.s0 (rk i b _ hbi hk))
 . cases hz
end
section
variable {X:Cx}
theorem dA {k : Nat} {x y : Str} {params : Arguments} {body e : Expr} {sc : Scope} {p pos pk lpos : Pos} {c P : Addr} {j : Nat} {fe fb : En -> Option Sl} (hcd : X.env.code = .ref c) (C : PySem.W.CodeHd X.base c P) (hp : P ∈ IW X.K) (bm : BM X.base X.mg) (hr : Room (k + 2) X.A) (hm : X.mg "min" = none) (hcell : ∃ c, X.env.cells.lookup y = some c) (h : DP X (PR X.K) e fe) (hb : ∀ c L, Room k (MN X [x, y] sc [(y, c)] L).A -> DE (MN X [x, y] sc [(y, c)] L) (PR X.K) body fb)
 (hn:sc.names = [(x, .local),(y, .free)]:=by rfl) (hk:sc.kind = .function:=by rfl) (hco:sc.isCoroutine=false:=by rfl) (hgen:sc.isGenerator=false:=by rfl) (hxy:(y==x)=false:=by decide) (hout:X.env.scope.names.lookup y=some .cell:=by rfl)
 (hdef:defaultsOf params X.env=([],[]):=by rfl) (hbd:∀(c:Addr) (u pm ct cd:Value),bindArgs (PySem.W.kla_fn "<lambda>" (X.env.qual ++ "<lambda>") params body sc [(y,c)] pm cd ct) ⟨[u],[]⟩=pure [(x,u)]:=by exact fun _ _ _ _ _=>rfl) (hj:X.N[j]? = some y:=by rfl) (hv:bootBuiltins "min" = some (.builtin "min"):=by exact VI) (hg:Gl X "min" :=by rfl)
 (he:starEach [e] X.env=(false,eval e X.env)::starEach [] X.env:=by rfl) (hpl:(backTo pos (starEach [e] X.env)).any (·.1)=false:=by rfl) (hkw:(backToKw pos (keywordEach [⟨some "key", .Lambda params body sc lpos,pk⟩] X.env)).any (·.1.isNone)=false:=by rfl) (hall:(backToKw pos (keywordEach [⟨some "key", .Lambda params body sc lpos,pk⟩] X.env)).all (·.1.isSome)=true:=by rfl) (hks:(backToKw pos (keywordEach [⟨some "key", .Lambda params body sc lpos,pk⟩] X.env)).filterMap (·.1) = [Str.ofString "key"]:=by rfl) :
 DE X (PR X.K) (.Call (.Name "min" p) [e] [⟨some "key", .Lambda params body sc lpos,pk⟩] pos) (JU N9 j fb fe):=by
 obtain ⟨cc,hc⟩:=hcell;obtain ⟨t,h1,h2⟩:=h;obtain ⟨tb,htb⟩:=sI fun L=>hb cc L (hr.in1.deeper _);exact ⟨_,fV hcd C hp bm hdef (WY hn hc) (iD hn hk hco hgen hxy hc hout) (hbd cc) hj (hr.mono (FJ _)) h1 (fun L=>(htb L).1) hv hm hg he hpl hkw hall hks,UQ ZF h2 fun L=>(htb L).2⟩
theorem dG {k : Nat} {x y : Str} {params : Arguments} {body e : Expr} {sc : Scope} {p pos pk lpos : Pos} {c P : Addr} {j : Nat} {fe fb : En -> Option Sl} (hcd : X.env.code = .ref c) (C : PySem.W.CodeHd X.base c P) (hp : P ∈ IW X.K) (bm : BM X.base X.mg) (hr : Room (k + 2) X.A) (hm : X.mg "max" = none) (hcell : ∃ c, X.env.cells.lookup y = some c) (h : DP X (PR X.K) e fe) (hb : ∀ c L, Room k (MN X [x, y] sc [(y, c)] L).A -> DE (MN X [x, y] sc [(y, c)] L) (PR X.K) body fb)
 (hn:sc.names = [(x, .local),(y, .free)]:=by rfl) (hk:sc.kind = .function:=by rfl) (hco:sc.isCoroutine=false:=by rfl) (hgen:sc.isGenerator=false:=by rfl) (hxy:(y==x)=false:=by decide) (hout:X.env.scope.names.lookup y=some .cell:=by rfl)
 (hdef:defaultsOf params X.env=([],[]):=by rfl) (hbd:∀(c:Addr) (u pm ct cd:Value),bindArgs (PySem.W.kla_fn "<lambda>" (X.env.qual ++ "<lambda>") params body sc [(y,c)] pm cd ct) ⟨[u],[]⟩=pure [(x,u)]:=by exact fun _ _ _ _ _=>rfl) (hj:X.N[j]? = some y:=by rfl) (hv:bootBuiltins "max" = some (.builtin "max"):=by exact hJ) (hg:Gl X "max" :=by rfl)
 (he:starEach [e] X.env=(false,eval e X.env)::starEach [] X.env:=by rfl) (hpl:(backTo pos (starEach [e] X.env)).any (·.1)=false:=by rfl) (hkw:(backToKw pos (keywordEach [⟨some "key", .Lambda params body sc lpos,pk⟩] X.env)).any (·.1.isNone)=false:=by rfl) (hall:(backToKw pos (keywordEach [⟨some "key", .Lambda params body sc lpos,pk⟩] X.env)).all (·.1.isSome)=true:=by rfl) (hks:(backToKw pos (keywordEach [⟨some "key", .Lambda params body sc lpos,pk⟩] X.env)).filterMap (·.1) = [Str.ofString "key"]:=by rfl) :
 DE X (PR X.K) (.Call (.Name "max" p) [e] [⟨some "key", .Lambda params body sc lpos,pk⟩] pos) (JU OH j fb fe):=by
 obtain ⟨cc,hc⟩:=hcell;obtain ⟨t,h1,h2⟩:=h;obtain ⟨tb,htb⟩:=sI fun L=>hb cc L (hr.in1.deeper _);exact ⟨_,fG hcd C hp bm hdef (WY hn hc) (iD hn hk hco hgen hxy hc hout) (hbd cc) hj (hr.mono (FJ _)) h1 (fun L=>(htb L).1) hv hm hg he hpl hkw hall hks,UQ dW h2 fun L=>(htb L).2⟩
end
end Dm
namespace Tf
open PySem PySem.Spec PyProof.Rows L2
section
variable {prog:Program} {w:World} {A:Around} {E:Value->Shared->Prop} {s:Shared}
theorem bK (hh : A.handled = none) (I d : Addr) (hne : d ≠ I) (od : Obj) (es : Array DictEntry) (ep : Nat) (hdd : od.data = .dict es ep) :
 Walks prog w A I [I,d] [I] es.size (fun i v=>∃hi:i<es.size,es[i].val=v) (fun i h=>h.IsValIter I d i es.size ep/\h.get? d=some od) where
 sub:=fun b hb=>by simp at hb;simp [hb]
 frame:=fun _ _ _ st hk=>⟨st.1.at fun o e=>hk I (by simp) o e,hk d (by simp) _ st.2⟩
 item:=fun i s Q E hi st hQ=>by
  refine nY st.1 st.2 hdd hi rfl fun h' hit' hs' => ?_;exact hQ es[i].val h' s.toks ⟨hi,rfl⟩ ⟨hit',hs'.extBut d _ hne st.2⟩ fun b o hb e=>hs'.extBut b o (fun h=>hb (by simp [h])) e
 done:=fun s Q E st hQ=>w5 hh st.1 st.2 hdd (A9 _) fun h' he'=>hQ h' s.toks fun b o hb e=>he' b o (fun h=>hb (by simp [h])) e
 self:=fun _ _ _ _ st hQ=>wpAny_pyIter_valiter st.1 hQ
end
variable {X:Cx}
def sY(to:TE):TE:=fun σ H Q=>to σ H fun x H1=>∃(a:Addr) (t:List (List Key×V)) (ns:List Int),x = .ref a/\Rd H1 a (.dT t)/\t.map (·.2)=ns.map V.int/\ns ≠ []/\∀M,M ∈ ns->(∀b ∈ ns,M<=b)->Q (.int M) H1
def tE(to:TE):TE:=fun σ H Q=>to σ H fun x H1=>∃(a:Addr) (t:List (List Key×V)) (ns:List Int),x = .ref a/\Rd H1 a (.dT t)/\t.map (·.2)=ns.map V.int/\ns ≠ []/\∀M,M ∈ ns->(∀b ∈ ns,b<=M)->Q (.int M) H1
theorem rW {o : Expr} {to : TE} {p pos apos cpos : Pos} (hm : X.mg "min" = none) (ho : PE X o to) (hg : Gl X "min" := by rfl) (hc : X.calm = true := by rfl) (hbase : attributeBase o "values" X.env (eval o X.env) = eval o X.env := by rfl) (hline : (apos.endLine == cpos.line) = true := by rfl)
 (hs1:starEach [.Call (.Attribute o "values" apos) [] [] cpos] X.env=(false,eval (.Call (.Attribute o "values" apos) [] [] cpos) X.env)::starEach [] X.env:=by rfl) (hs0:(backTo pos (starEach [] X.env)).any (·.1)=false:=by rfl) (hs2:backTo pos (starEach [] X.env) = []:=by rfl) :
 PE X (.Call (.Name "min" p) [.Call (.Attribute o "values" apos) [] [] cpos] [] pos) (sY to):=by
 intro pins s σ H Q I h;refine ED (IF I hg hm VI ?_ (by decide) (by decide));refine L5 ?_ hs1 hs0;rw [hs1];show wpAny _ _ (spliced ((false,eval (.Call (.Attribute o "values" apos) [] [] cpos) X.env)::backTo pos (starEach [] X.env))) _ _ s;rw [hs2];refine HS ?_;refine A91 hbase hline (thn (ho pins s σ H _ I h) fun v s1 ⟨x,H1,I1,r1,a,t,ns,ex,e,hns,hne,q⟩ => ?_);subst ex;obtain rfl:v=Value.ref a:=r1;obtain ⟨z,hd,ps,kt,ob,es,ep,h0,h2,hes,h4,_,_⟩:=PV I1.hok e;refine ⟨"dict","dict.values",OQ,J7,nE,⟨ob,h0,h2.1⟩,fun b z=>by cases z;exact ⟨ob,h0,h2.2.1⟩,LI rfl (A57 ?_)⟩;refine TQ J7 ⟨ob,h0,h2.1⟩ n5 (gU _) (Y6 hd) ⟨ob,h0,h2.1,?_⟩;refine LH ?_
 let ov:Obj:={cls:= .type "dict_values",data:= .fields #[.ref a]}
 have k1:∀b u,s1.heap.get? b=some u->(s1.heap.push ov).get? b=some u:=fun b u z=>A1 _ z;have hv:(s1.heap.push ov).IsValuesView s1.heap.objs.size a:=⟨_,AG _ rfl,rfl,rfl⟩;have I2:Inv X pins σ H1 {s1 with heap:=s1.heap.push ov}:=I1.kept (t':=s1.toks) k1;obtain ⟨kl,kg⟩:=tJ kt h4
 have ltn:ns.length=t.length:=by
  have:=K0 List.length hns;simpa using this.symm
 have val:∀(i:Nat) (hi:i<es.size),∃tk,es[i].val = .int (ns.getD i 0) tk:=fun i hi=>by
  have hi':i<t.length:=by omega
  obtain ⟨_,rv⟩:=kg i t[i] (AE hi');have e2:(t.map (·.2))[i]? = some t[i].2:=by rw [B5,AE hi'];rfl
  rw [hns,B5,AE (by omega)] at e2
  have e3:=BN e2;rw [<-e3] at rv
  obtain ⟨tk,er⟩:=rv;refine ⟨tk,?_⟩;rw [er];have:ns.getD i 0=ns[i]'(by omega):=by simp [List.getD,AE (show i<ns.length by omega)]
  rw [this]
 let s2:Shared:={s1 with heap:=s1.heap.push ov}
 refine call_min_walk (s:=s2) (bE (s:=s2) hv (k1 _ _ h0) hes ?_);have hk2:∀(o':Obj) b u,s2.heap.get? b=some u->(s2.heap.push o').get? b=some u:=fun o' b u z=>A1 _ z;have hda:a≠s2.heap.objs.size:=BW (AO (k1 _ _ h0));refine ⟨s2.heap.objs.size,[s2.heap.objs.size,a],[s2.heap.objs.size],es.size,_,_,_,rfl,bK (A:=X.A.in1) (I1.ok.hd hc) s2.heap.objs.size a hda ob es ep hes,⟨⟨_,AG _ rfl,rfl,rfl⟩,hk2 _ _ _ (k1 _ _ h0)⟩,fun b hb=> ?_,?_,CmpOf.ints_lt (fun i=>ns.getD i 0) (fun i v ⟨hi,hv⟩=>by obtain ⟨tk,ev⟩:=val i hi;exact ⟨tk,by rw [<-hv,ev]⟩),fun v h' tk hP hk=> ?_⟩
 . rw [BR];rcases AJ.mp hb with rfl | hb
   . exact IN _
   . rw [A4.mp hb];exact NQ (AO (k1 _ _ h0))
 . have:=GG.mpr hne;omega
 . obtain ⟨hi,hv'⟩:=hP;obtain ⟨tk',ev⟩:=val _ hi;have I3:Inv X pins σ H1 {s2 with heap:=s2.heap.push {cls:= .type "dict_valueiterator",data:= .fields #[.ref a, .int 0 0, .int es.size 0, .int ep 0]} }:=I2.kept (t':=s2.toks) (hk2 _);obtain ⟨b1,b2⟩:=argBest_lt (fun i=>ns.getD i 0) (es.size - 1);have hpos:0<es.size:=by have:=GG.mpr hne;omega
   refine ⟨.int _,H1,ES (I2.fpOk (A9 _) (I2.hok.fresh (A9 _))) I3 (t':=tk) fun b u hb z=>hk b u (fun c=>hb (A4.mp c)) z,⟨tk',by rw [<-hv',ev]⟩,q _ ?_ fun b hb=> ?_⟩
   . exact getD_mem (by omega)
   . obtain ⟨j,hj,rfl⟩:=mem_getD hb;exact b2 j (by omega)
theorem rH {o : Expr} {to : TE} {p pos apos cpos : Pos} (hm : X.mg "max" = none) (ho : PE X o to) (hg : Gl X "max" := by rfl) (hc : X.calm = true := by rfl) (hbase : attributeBase o "values" X.env (eval o X.env) = eval o X.env := by rfl) (hline : (apos.endLine == cpos.line) = true := by rfl)
 (hs1:starEach [.Call (.Attribute o "values" apos) [] [] cpos] X.env=(false,eval (.Call (.Attribute o "values" apos) [] [] cpos) X.env)::starEach [] X.env:=by rfl) (hs0:(backTo pos (starEach [] X.env)).any (·.1)=false:=by rfl) (hs2:backTo pos (starEach [] X.env) = []:=by rfl) :
 PE X (.Call (.Name "max" p) [.Call (.Attribute o "values" apos) [] [] cpos] [] pos) (tE to):=by
 intro pins s σ H Q I h;refine ED (IF I hg hm hJ ?_ (by decide) (by decide));refine L5 ?_ hs1 hs0;rw [hs1];show wpAny _ _ (spliced ((false,eval (.Call (.Attribute o "values" apos) [] [] cpos) X.env)::backTo pos (starEach [] X.env))) _ _ s;rw [hs2];refine HS ?_;refine A91 hbase hline (thn (ho pins s σ H _ I h) fun v s1 ⟨x,H1,I1,r1,a,t,ns,ex,e,hns,hne,q⟩ => ?_);subst ex;obtain rfl:v=Value.ref a:=r1;obtain ⟨z,hd,ps,kt,ob,es,ep,h0,h2,hes,h4,_,_⟩:=PV I1.hok e;refine ⟨"dict","dict.values",OQ,J7,nE,⟨ob,h0,h2.1⟩,fun b z=>by cases z;exact ⟨ob,h0,h2.2.1⟩,LI rfl (A57 ?_)⟩;refine TQ J7 ⟨ob,h0,h2.1⟩ n5 (gU _) (Y6 hd) ⟨ob,h0,h2.1,?_⟩;refine LH ?_
 let ov:Obj:={cls:= .type "dict_values",data:= .fields #[.ref a]}
 have k1:∀b u,s1.heap.get? b=some u->(s1.heap.push ov).get? b=some u:=fun b u z=>A1 _ z;have hv:(s1.heap.push ov).IsValuesView s1.heap.objs.size a:=⟨_,AG _ rfl,rfl,rfl⟩;have I2:Inv X pins σ H1 {s1 with heap:=s1.heap.push ov}:=I1.kept (t':=s1.toks) k1;obtain ⟨kl,kg⟩:=tJ kt h4
 have ltn:ns.length=t.length:=by
  have:=K0 List.length hns;simpa using this.symm
 have val:∀(i:Nat) (hi:i<es.size),∃tk,es[i].val = .int (ns.getD i 0) tk:=fun i hi=>by
  have hi':i<t.length:=by omega
  obtain ⟨_,rv⟩:=kg i t[i] (AE hi');have e2:(t.map (·.2))[i]? = some t[i].2:=by rw [B5,AE hi'];rfl
  rw [hns,B5,AE (by omega)] at e2
  have e3:=BN e2;rw [<-e3] at rv
  obtain ⟨tk,er⟩:=rv;refine ⟨tk,?_⟩;rw [er];have:ns.getD i 0=ns[i]'(by omega):=by simp [List.getD,AE (show i<ns.length by omega)]
  rw [this]
 let s2:Shared:={s1 with heap:=s1.heap.push ov}
 refine call_max_walk (s:=s2) (bE (s:=s2) hv (k1 _ _ h0) hes ?_);have hk2:∀(o':Obj) b u,s2.heap.get? b=some u->(s2.heap.push o').get? b=some u:=fun o' b u z=>A1 _ z;have hda:a≠s2.heap.objs.size:=BW (AO (k1 _ _ h0));refine ⟨s2.heap.objs.size,[s2.heap.objs.size,a],[s2.heap.objs.size],es.size,_,_,_,rfl,bK (A:=X.A.in1) (I1.ok.hd hc) s2.heap.objs.size a hda ob es ep hes,⟨⟨_,AG _ rfl,rfl,rfl⟩,hk2 _ _ _ (k1 _ _ h0)⟩,fun b hb=> ?_,?_,CmpOf.ints_gt (fun i=>ns.getD i 0) (fun i v ⟨hi,hv⟩=>by obtain ⟨tk,ev⟩:=val i hi;exact ⟨tk,by rw [<-hv,ev]⟩),fun v h' tk hP hk=> ?_⟩
 . rw [BR];rcases AJ.mp hb with rfl | hb
   . exact IN _
   . rw [A4.mp hb];exact NQ (AO (k1 _ _ h0))
 . have:=GG.mpr hne;omega
 . obtain ⟨hi,hv'⟩:=hP;obtain ⟨tk',ev⟩:=val _ hi;have I3:Inv X pins σ H1 {s2 with heap:=s2.heap.push {cls:= .type "dict_valueiterator",data:= .fields #[.ref a, .int 0 0, .int es.size 0, .int ep 0]} }:=I2.kept (t':=s2.toks) (hk2 _);obtain ⟨b1,b2⟩:=argBest_gt (fun i=>ns.getD i 0) (es.size - 1);have hpos:0<es.size:=by have:=GG.mpr hne;omega
   refine ⟨.int _,H1,ES (I2.fpOk (A9 _) (I2.hok.fresh (A9 _))) I3 (t':=tk) fun b u hb z=>hk b u (fun c=>hb (A4.mp c)) z,⟨tk',by rw [<-hv',ev]⟩,q _ ?_ fun b hb=> ?_⟩
   . exact getD_mem (by omega)
   . obtain ⟨j,hj,rfl⟩:=mem_getD hb;exact b2 j (by omega)
end Tf
namespace Dm
open PySem PySem.Spec PyProof.Rows L2 Tf
section
variable {K:PySem.W.Frag} {R:Rl} [RelOk K R]
def cK(f:En->Option Sl):En->Option Sl:=fun ρ=>(f ρ).bind fun a=>(dictOf a).bind fun kvs=>(FT (kvs.map (·.2))).bind fun ns=>ns.min?.map fun m=> .val (.int m)
def cH(f:En->Option Sl):En->Option Sl:=fun ρ=>(f ρ).bind fun a=>(dictOf a).bind fun kvs=>(FT (kvs.map (·.2))).bind fun ns=>ns.max?.map fun m=> .val (.int m)
theorem Y3{H0:Hp}{t:List (List Key×V)}{kvs:List (PyData×PyData)}{ns:List Int}(h:DctR K H0 t kvs)(hn:FT (kvs.map (·.2))=some ns):t.map (·.2)=ns.map V.int:=by
 obtain ⟨ks,xs,ds,rfl,e2,e3,rfl⟩:=h;have l:=e3.length;have e4:((ks.map tupD).zip ds).map (·.2)=ds:=YN (by rw [AA];omega);have e5:(ks.zip xs).map (·.2)=xs:=YN (by omega);rw [e4] at hn
 rw [e5];rw [LN hn] at e3
 exact NM e3
theorem p0{td:TE}{f:En->Option Sl}(h:RP K R td f):RE K R (sY td) (cK f):=fun HB σ ρ H0 H s e z hz Q q=>by
 obtain ⟨x,hx,hz⟩:=A3.mp hz;obtain ⟨kvs,h1,hz⟩:=A3.mp hz;obtain ⟨ns,hn,hz⟩:=A3.mp hz;obtain ⟨m,hm,rfl⟩:=AH.mp hz;refine h HB σ ρ H0 H s e x hx _ fun v H1 J1 x1 p1=> ?_;obtain ⟨a,t,rfl,g1,g2⟩:=O8 x1.s1 p1 h1;refine ⟨a,t,ns,rfl,g1,Y3 g2 hn,fun c=>by subst c;simp at hm,fun M hM hb=> ?_⟩;have:ns.min? = some M:=R3.mpr ⟨hM,hb⟩;rw [hm] at this
 cases this
 exact q _ _ _ x1 (.int _)
theorem qV{td:TE}{f:En->Option Sl}(h:RP K R td f):RE K R (tE td) (cH f):=fun HB σ ρ H0 H s e z hz Q q=>by
 obtain ⟨x,hx,hz⟩:=A3.mp hz;obtain ⟨kvs,h1,hz⟩:=A3.mp hz;obtain ⟨ns,hn,hz⟩:=A3.mp hz;obtain ⟨m,hm,rfl⟩:=AH.mp hz;refine h HB σ ρ H0 H s e x hx _ fun v H1 J1 x1 p1=> ?_;obtain ⟨a,t,rfl,g1,g2⟩:=O8 x1.s1 p1 h1;refine ⟨a,t,ns,rfl,g1,Y3 g2 hn,fun c=>by subst c;simp at hm,fun M hM hb=> ?_⟩;have:ns.max? = some M:=R4.mpr ⟨hM,hb⟩;rw [hm] at this
 cases this
 exact q _ _ _ x1 (.int _)
def dMin2:List Sl->Option Sl
 | [.val (.int i), .val (.int j)]=>some (.val (.int (if j<i then j else i)))
 | _=>none
theorem bD:LV K (fun xs H Q=>∃i j,xs = [.int i, .int j]/\Q (.int (if j<i then j else i)) H) dMin2:=fun H0 H vs ss z s p hz Q q=>by
 unfold dMin2 at hz
 split at hz
 . cases hz
   cases p with
   | cons p1 p=>
    cases p with
    | cons p2 p=>
     cases p
     exact ⟨_,_,by rw [SlP.int p1,SlP.int p2],q _ _ _ (Ext.refl s) (.int _)⟩
 . cases hz
def A16(K:PySem.W.Frag)(te:TE):TT:=fun σ H Q=>te σ H fun x H1=>∃(p:Addr) (xs:List V),x = .ref p/\SqL K H1 p xs/\Q (!xs.isEmpty) H1
def QQ(f:En->Option Sl):En->Option Bool:=fun ρ=>(f ρ).bind fun a=>match a.dat with
 | .list ds=>some (!ds.isEmpty)
 | _=>none
theorem qN{te:TE}{f:En->Option Sl}(h:RP K R te f):RT K R (A16 K te) (QQ f):=fun HB σ ρ H0 H s e b hb Q q=>by
 obtain ⟨a,ha,hb⟩:=A3.mp hb;refine h HB σ ρ H0 H s e a ha _ fun v H1 J1 x1 p1=> ?_
 split at hb
 . rename_i ds hd
   cases hb
   obtain ⟨p,vs,rfl,h1,h2⟩:=p1.lst x1.s1 hd;have e2:ds.isEmpty=vs.isEmpty:=by cases h2 <;> rfl
   refine ⟨p,vs,rfl,h1,?_⟩;rw [<-e2];exact q _ _ x1
 . cases hb
end
section
variable {X:Cx} {R:Rl} [RelOk X.K R] {a b e o:Expr} {f fa fb:En->Option Sl} {p pos apos cpos:Pos} {st:Stmt}
theorem rF (hm : X.mg "min" = none) (h : DP X R o f) (hg : Gl X "min" := by rfl) (hc : X.calm = true := by rfl) (hbase : attributeBase o "values" X.env (eval o X.env) = eval o X.env := by rfl) (hline : (apos.endLine == cpos.line) = true := by rfl)
 (hs1:starEach [.Call (.Attribute o "values" apos) [] [] cpos] X.env=(false,eval (.Call (.Attribute o "values" apos) [] [] cpos) X.env)::starEach [] X.env:=by rfl) (hs0:(backTo pos (starEach [] X.env)).any (·.1)=false:=by rfl) (hs2:backTo pos (starEach [] X.env) = []:=by rfl) :
 DE X R (.Call (.Name "min" p) [.Call (.Attribute o "values" apos) [] [] cpos] [] pos) (cK f):=by
 obtain ⟨t,h1,h2⟩:=h;exact ⟨_,rW hm h1 hg hc hbase hline hs1 hs0 hs2,p0 h2⟩
theorem p6 (hm : X.mg "max" = none) (h : DP X R o f) (hg : Gl X "max" := by rfl) (hc : X.calm = true := by rfl) (hbase : attributeBase o "values" X.env (eval o X.env) = eval o X.env := by rfl) (hline : (apos.endLine == cpos.line) = true := by rfl)
 (hs1:starEach [.Call (.Attribute o "values" apos) [] [] cpos] X.env=(false,eval (.Call (.Attribute o "values" apos) [] [] cpos) X.env)::starEach [] X.env:=by rfl) (hs0:(backTo pos (starEach [] X.env)).any (·.1)=false:=by rfl) (hs2:backTo pos (starEach [] X.env) = []:=by rfl) :
 DE X R (.Call (.Name "max" p) [.Call (.Attribute o "values" apos) [] [] cpos] [] pos) (cH f):=by
 obtain ⟨t,h1,h2⟩:=h;exact ⟨_,rH hm h1 hg hc hbase hline hs1 hs0 hs2,qV h2⟩
theorem qI(h:DP X R e f)(he:∀whole,isTrue e X.env whole=(do let v <-whole;standAt e.pos;holding [v] (truthy v)):=by intro _;rfl):DT X R e (QQ f):=by
 obtain ⟨t,h1,h2⟩:=h;refine ⟨_,?_,qN h2⟩;intro pins s σ H Q I hw;refine isTrue_plain (thn (h1 pins s σ H _ I hw) fun v s1 ⟨x,H1,I1,r1,q1⟩ => ?_) (he _);obtain ⟨p,xs,rfl,hx,q⟩:=q1;exact w4 pins s1 σ H1 (.ref p) v Q I1 r1 ⟨_, .inl ⟨xs,hx,rfl⟩,q⟩
theorem fQ(hu:X.A.units+1<cLine)(ha:DP X R a fa)(hb:DP X R b fb)(hm:behindInMarks .NotIn b=false:=by with_unfolding_all rfl):DT X R (.Compare a [.NotIn] [b] pos) (mTest (mBin (lZ true) fa fb)):=by
 obtain ⟨ta,h1,h2⟩:=ha;obtain ⟨tb,h3,h4⟩:=hb;exact ⟨_,x8 (dX hu h1 h3) hm,bW (eM h2 h4).rp⟩
end
theorem vI{P:Program}{w:World}{K:PySem.W.Frag}{mg:Str->Option Value}{base:Heap}{k:Nat}{f:Addr}{fd:FuncData}{ps:List Str}:FnOk P w K mg base CX0 k f fd ps (spD K fun _=>none) :=
 ⟨fun vs H Q E ⟨_,_,_,_,_,h,_⟩=>(nomatch h),fun A outer s H args us vs Q E _ _ _ _ ⟨_,_,_,_,_,h,_⟩=>(nomatch h)⟩
end Dm
namespace Tf
open PySem PySem.Spec PyProof.Rows L2
def t7(ts:List Addr):Obj:={cls:= .type "tables",data:= .fields (ts.map Value.ref).toArray}
def CJ(K:PySem.W.Frag)(ts:List Addr):PySem.W.Frag:=K.filter (fun p=>decide (p.1 ∉ ts)) ++ [(mainGlobals,t7 ts)]
def tbK(names:List Str)(K:PySem.W.Frag):List (Addr×Addr):=names.filterMap (PySem.W.tabIn K)
theorem SU(K:PySem.W.Frag)(ts:List Addr):IW (CJ K ts)=ts:=by
 have e:(CJ K ts).getLast? = some (mainGlobals,t7 ts):=by unfold CJ;simp
 unfold IW;rw [e];show ((ts.map Value.ref).toArray.toList.filterMap _)=ts;rw [List.toList_toArray,List.filterMap_map];exact List.filterMap_some
theorem N8{ts:List Addr}{a:Addr}(h:a ∉ ts):∀K:PySem.W.Frag,List.lookup a (K.filter fun p=>decide (p.1 ∉ ts))=List.lookup a K
 | []=>rfl
 | (b,o)::K=>by
  have ih:=N8 h K;rw [IR]
  by_cases hb:b ∈ ts
  . have ne : (a == b) = false := by
     refine G4.mpr fun z=> ?_;have:=L6.mp z;exact h (this ▸ hb)
    rw [A8 (by simp [hb]),ih,List.lookup,ne]
  . rw [AB (by simp [hb]),List.lookup,List.lookup]
    cases a==b
    . exact ih
    . rfl
theorem UJ{ts:List Addr}{a:Addr}(h:a ∈ ts):∀K:PySem.W.Frag,List.lookup a (K.filter fun p=>decide (p.1 ∉ ts))=none
 | []=>rfl
 | (b,o)::K=>by
  have ih:=UJ h K;rw [IR]
  by_cases hb:b ∈ ts
  . rw [A8 (by simp [hb]),ih]
  . rw [AB (by simp [hb]),List.lookup]
    have ne:(a==b)=false:=by
     refine G4.mpr fun z=> ?_;have:=L6.mp z;exact hb (this ▸ h)
    rw [ne];exact ih
theorem OD{K:PySem.W.Frag}{ts:List Addr}{a:Addr}{o:Obj}(h:a ∉ ts)(e:K.lookup a=some o):(CJ K ts).lookup a=some o:=by
 unfold CJ;rw [List.lookup_append,N8 h,e];rfl
theorem wE{K:PySem.W.Frag}{ts:List Addr}{a:Addr}{o:Obj}(hm:∃o,K.lookup mainGlobals=some o)(hn:mainGlobals ∉ ts)(e:(CJ K ts).lookup a=some o):K.lookup a=some o/\a ∉ ts:=by
 unfold CJ at e
 rw [List.lookup_append] at e
 by_cases ha:a ∈ ts
 . rw [UJ ha] at e
   have ne:(a==mainGlobals)=false:=by
    refine G4.mpr fun z=> ?_;have:=L6.mp z;exact hn (this ▸ ha)
   simp [List.lookup,ne] at e
 . refine ⟨?_,ha⟩;rw [N8 ha] at e
   by_cases hg:a=mainGlobals
   . subst hg;obtain ⟨o',ho'⟩:=hm;rw [ho'] at e
     simpa [ho'] using e
   . have ne:(a==mainGlobals)=false:=G4.mpr fun z=>hg (L6.mp z)
     cases hk:K.lookup a with
     | none=>rw [hk] at e;simp [List.lookup,ne] at e
     | some o'=>rw [hk] at e;simpa using e
theorem bJ{K:PySem.W.Frag}{h:Heap}{ts:List Addr}{a:Addr}{o:Obj}(KX:K.In h)(hT:∀p ∈ ts,h.get? p=some (PySem.W.tabObj #[]))(e:K.lookup a=some o)(hne:o≠PySem.W.tabObj #[]):a ∉ ts:=fun hm=>by
 have e1:=KX a o e;rw [hT a hm] at e1
 exact hne (BN e1).symm
theorem CV{K:PySem.W.Frag}{h:Heap}{ts:List Addr}{x qual:Str}{st:Stmt}{f:Addr}{fd:FuncData}(KX:K.In h)(hT:∀p ∈ ts,h.get? p=some (PySem.W.tabObj #[]))(F:Fun K x qual st f fd):Fun (CJ K ts) x qual st f fd:=by
 obtain ⟨oc,od,kV,doc,pm,an,cdv,ct,osl,rfl,lk,hcd⟩:=F.ex;have l2:=OD (bJ KX hT lk (fun z=>by cases z)) lk;refine ⟨⟨oc,od,kV,doc,pm,an,cdv,ct,osl,rfl,l2,?_⟩,?_⟩
 . unfold PySem.W.codeIn at hcd ⊢
   split at hcd
   . rename_i c
     split at hcd
     . rename_i oc' od' vs sl' hc
       have hne:(⟨oc',od', .fields vs,sl'⟩:Obj)≠PySem.W.tabObj #[]:=fun z=>by
        cases z
        simp at hcd
       rw [OD (bJ KX hT hc hne) hc];exact hcd
     . cases hcd
   . cases hcd
 . unfold PySem.W.keepIn
   dsimp only
   rw [l2]
theorem gH {P : Program} {w : World} {K : PySem.W.Frag} {mg mb : Str -> Option Value} {k : Nat} {fa a : Addr} {fd : FuncData} {x : Str} {sp : Sp} {s₁ : Shared} {vs : List Value} {ns : List Int} {tb : List (Addr × Addr)}
 (KX:K.In s₁.heap) (hmain:∃o,K.lookup mainGlobals=some o) (hns:s₁.heap.Ns mainGlobals mg) (hb:s₁.heap.Ns builtinsNs mb) (hbb:∀x:Str,x ≠ "__name__" -> mb x=bootBuiltins x) (hlim:s₁.heap.NoLimit) (hg:s₁.gens = #[])
 (ha:s₁.heap.get? a=some {cls:= .type "list",data:= .seq vs.toArray}) (hi:IntsAre vs ns) (hl:ns.length<=sizeLine) (hr:Room k callerA)
 (hT:∀p ∈ tb,PySem.W.CodeHd s₁.heap p.1 p.2/\s₁.heap.get? p.2=some (PySem.W.tabObj #[])) (hbm:BM s₁.heap mg)
 (F:∀base:Heap,(CJ K (tb.map (·.2))).In base->base.Ns mainGlobals mg->(∀p ∈ tb,PySem.W.CodeHd base p.1 p.2)->BM base mg->FnOk P w (CJ K (tb.map (·.2))) mg base CX0 k fa fd [x] sp) (hbind:∀(s:Shared) (u:Value),BindsTo s fd ⟨[u],[]⟩ [(x,u)])
 (hsp:∀H:Hp,SqL (CJ K (tb.map (·.2))) H a (ns.map V.int)->sp [.ref a] H (fun v _=>v = .bl true) fun _ _ _=>False) :
 codeAny (model P w) callerA (.call (.ref fa) ⟨[.ref a],[]⟩) (fun r s'=>r = .ok (.ret (.bool true))/\OldK s₁.heap s'.heap/\s'.os=s₁.os/\AllBare s'.gens) s₁:=by
 have rv:=QG hi;have lenV:=hi.length
 let ts:=tb.map (·.2)
 have hts:∀p ∈ ts,s₁.heap.get? p=some (PySem.W.tabObj #[]):=fun p hp=>by
  obtain ⟨q,hq,rfl⟩:=AL.mp hp;exact (hT q hq).2
 have nts:∀ {b:Addr} {o:Obj},s₁.heap.get? b=some o->o≠PySem.W.tabObj #[]->b ∉ ts:=fun {b o} e n hm=>by
  rw [hts b hm] at e
  exact n (BN e).symm
 have hat:a ∉ ts:=nts ha fun z=>by cases z
 have hmt:mainGlobals ∉ ts:=by
  obtain ⟨o,es,ep,e,d,_⟩:=hns;exact nts e fun z=>by rw [z] at d;cases d
 let ao:Obj:={cls:= .type "list",data:= .seq vs.toArray}
 let H:Hp:=fun b=>if b ∈ ts then some (.tbl #[]) else if b=a/\K.lookup a=none then some (.frz ao (.lst (ns.map V.int))) else none
 have Ht:∀ {b:Addr},b ∈ ts->H b=some (.tbl #[]):=fun {b} hm=>AB hm
 have Hc:∀b,(b ∈ ts/\H b=some (.tbl #[]))\/(b=a/\K.lookup a=none/\H b=some (.frz ao (.lst (ns.map V.int))))\/(H b=none/\b ∉ ts/\(b=a->K.lookup a≠none)):=fun b=>by
  by_cases h1:b ∈ ts
  . exact .inl ⟨h1,Ht h1⟩
  . by_cases h2:b=a/\K.lookup a=none
    . exact .inr (.inl ⟨h2.1,h2.2,(A8 h1).trans (AB h2)⟩)
    . exact .inr (.inr ⟨(A8 h1).trans (A8 h2),h1,fun z c=>h2 ⟨z,c⟩⟩)
 have hok:HOk P w H s₁.heap:=fun b u e=>by
  rcases Hc b with ⟨h1,h2⟩ | ⟨rfl,h1,h2⟩ | ⟨h1,_,_⟩
  . rw [h2] at e
    cases e
    exact ⟨#[],hts b h1,CI,fun pos v z=>by simp [codeAmong] at z⟩
  . rw [h2] at e
    cases e
    exact ⟨ha,by rw [AA];exact hl,vs,_,rv,ha⟩
  . rw [h1] at e
    cases e
 have free:∀ {b:Addr} {o:Obj},s₁.heap.get? b=some o->o≠PySem.W.tabObj #[]->o≠ao->H b=none:=fun {b o} e n1 n2=>by
  rcases Hc b with ⟨h1,_⟩ | ⟨rfl,_,_⟩ | ⟨h1,_,_⟩
  . exact absurd h1 (nts e n1)
  . rw [ha] at e
    exact absurd (BN e).symm n2
  . exact h1
 have base_of:∀ {b:Addr} {o:Obj},s₁.heap.get? b=some o->H b=none->(SH s₁.heap H).get? b=some o:=fun e n=>m7 e n;have nsK:∀ {b:Addr} {m:Str->Option Value},s₁.heap.Ns b m->(SH s₁.heap H).Ns b m:=fun {b m} ⟨o,es,ep,e,d,r⟩=>⟨o,es,ep,base_of e (free e (fun z=>by rw [z] at d;cases d) (fun z=>by rw [z] at d;cases d)),d,r⟩
 have hKb:(CJ K ts).In (SH s₁.heap H):=fun b o e=>by
  obtain ⟨e1,e2⟩:=wE hmain hmt e;refine base_of (KX b o e1) ?_;rcases Hc b with ⟨h1,_⟩ | ⟨rfl,h1,_⟩ | ⟨h1,_,_⟩
  . exact absurd h1 e2
  . rw [h1] at e1;cases e1
  . exact h1
 have hM:Mod (CJ K ts) mg (SH s₁.heap H):=⟨hKb,nsK hns,⟨mb,nsK hb,hbb⟩,let ⟨mc,h1,h2⟩:=hlim;⟨mc,nsK h1,h2⟩⟩
 have hCb:∀p ∈ tb,PySem.W.CodeHd (SH s₁.heap H) p.1 p.2:=fun p hp=>by
  obtain ⟨o,vs',file,tf,flags,tg,inF,text,tt,e,c,r⟩:=(hT p hp).1;exact ⟨o,vs',file,tf,flags,tg,inF,text,tt,base_of e (free e (fun z=>by rw [z] at c;cases c) (fun z=>by rw [z] at c;exact absurd (Value.type.inj c) (by decide))),c,r⟩
 have hBb:BM (SH s₁.heap H) mg:=by
  obtain ⟨b,ob,b1,b2,b3,b4,b5,b6⟩:=hbm;exact ⟨b,ob,b1,b2,base_of b3 (free b3 (fun z=>by rw [z] at b4;cases b4) (fun z=>by rw [z] at b4;exact absurd (Value.type.inj b4) (by decide))),b4,b5,b6⟩
 have e0:Env0 P w (CJ K ts) mg (SH s₁.heap H) callerA [] s₁ H:=⟨rfl,hM,fun b o e=>oQ e,uD (fL _ _),trivial,fun b hb=>absurd (show b ∈ ([]:List Addr) from hb) (by simp),hok, .of_eq hg,fun p hp=>by rw [SU] at hp;exact ⟨_,Ht hp⟩⟩
 have hS:SqL (CJ K ts) H a (ns.map V.int):=by
  cases hk:K.lookup a with
  | some o=>
   have e:=KX a o hk;rw [ha] at e
   cases e
   exact .inr ⟨_,vs.toArray,_,OD hat hk,rfl,rfl,rfl,by rw [AR,lenV];exact hl,by simpa using rv⟩
  | none=>exact .inl (.inr ⟨ao,(A8 hat).trans (AB ⟨rfl,hk⟩)⟩)
 refine A94 ((F _ hKb (nsK hns) hCb hBb).run callerA [] s₁ H ⟨[.ref a],[]⟩ [.ref a] [.ref a] _ _ hr e0 (hbind s₁ (.ref a)) (.cons rfl .nil) (hsp H hS)) fun r s' h=> ?_
 cases r with
 | error e=>exact False.elim h
 | ok fl=>
  cases fl with
  | next=>exact False.elim h
  | brk=>exact False.elim h
  | cont=>exact False.elim h
  | ret u=>
   obtain ⟨v,H',os,bare,un,hok',r',q⟩:=h;have q':v = .bl true:=q;subst q';obtain rfl:u=Value.bool true:=r'
   have grown:∀ {b:Addr},b ∈ ts->∃qs,s'.heap.get? b=some (PySem.W.tabObj qs):=fun {b} hm=>by
    obtain ⟨more,e⟩:=un.tbls b _ (Ht hm);obtain ⟨qs,e1,_⟩:=hok' b _ e;exact ⟨qs,e1⟩
   have keep:∀ {b:Addr} {o:Obj},b ∉ ts->s₁.heap.get? b=some o->s'.heap.get? b=some o:=fun {b o} hb' e=>by
    rcases Hc b with ⟨h1,_⟩ | ⟨rfl,_,h2⟩ | ⟨h1,_,_⟩
    . exact absurd h1 hb'
    . have z2:=un.frzs _ _ _ h2;obtain ⟨e2,_⟩:=hok' _ _ z2;rw [ha] at e
      cases e
      exact e2
    . exact un.keep b o e h1 (by intro z;exact absurd (show b ∈ ([]:List Addr) from z) (by simp)) (by simp)
   refine ⟨rfl,⟨fun b o e=> ?_,fun b o e=> ?_⟩,os,bare⟩
   . by_cases hm:b ∈ ts
     . obtain ⟨q,hq,rfl⟩:=AL.mp hm;obtain ⟨qs,e1⟩:=grown hm;rw [hts _ hm] at e
       cases e
       exact .inr (.inl ⟨((hT q hq).1.tab (hT q hq).2).isCodeTable,rfl, #[],qs,rfl,by rw [Array.empty_append];exact e1⟩)
     . exact .inl (keep hm e)
   . by_cases hm:b ∈ ts
     . obtain ⟨qs,e1⟩:=grown hm;exact ⟨_,e1⟩
     . exact ⟨o,keep hm e⟩
theorem mL {l : PySem.W.OpenLaw} {n k : Nat} {q : Program} {loose : List Str} {XP : (Str -> Option Value) -> Heap -> Prop} {YP : World -> Heap -> Prop} {d : DefRec} {K : Params -> PySem.W.Frag} {names : List Str} {sp : PySem.W.Frag -> Sp} {x : Str}
 (hn:l.most=some n) (hn2:n<=sizeLine) (hdf:d.params.defaults = []) (hr:Room k callerA)
 (hY:∀(w:World) (h:Heap),YP w h->(K w.params).In h)
 (hrec:∀y ∈ names,∃e,(recsOf q).find? (fun e=>e.name==y)=some e)
 (F:∀(w:World) (mg:Str->Option Value) (fa:Addr) (h:Heap),(K w.params).In h->h.Ns mainGlobals mg->mg d.name=some (.ref fa)->(∀p ∈ (tbK names (K w.params)).map (·.2),h.get? p=some (PySem.W.tabObj #[])) ->
  (∃o,(K w.params).lookup mainGlobals=some o)/\∃fd:FuncData,(∀(s:Shared) (u:Value),BindsTo s fd ⟨[u],[]⟩ [(x,u)]) /\
   ∀base:Heap,(CJ (K w.params) ((tbK names (K w.params)).map (·.2))).In base->base.Ns mainGlobals mg->(∀p ∈ tbK names (K w.params),PySem.W.CodeHd base p.1 p.2)->BM base mg->FnOk l.prog w (CJ (K w.params) ((tbK names (K w.params)).map (·.2))) mg base CX0 k fa fd [x] (sp (CJ (K w.params) ((tbK names (K w.params)).map (·.2)))))
 (hsp:∀(K:PySem.W.Frag) (H:Hp) (a:Addr) (ns:List Int),ns.length<=n->SqL K H a (ns.map V.int)->sp K [.ref a] H (fun v _=>v = .bl true) fun _ _ _=>False) :
 PySem.W.WalkO q loose XP YP l.row.toRowW d [] (fun f vs=>PySem.call f vs):=by
 refine Att.attach_call hn hdf fun w s₀ s₁ mg mb fa o pm cd doc a vs ns G Y ho hd hcd hmg hobj hints hlen hg=> ?_;have KX:=hY w _ Y
 have hT:∀p ∈ tbK names (K w.params),PySem.W.CodeHd s₁.heap p.1 p.2/\s₁.heap.get? p.2=some (PySem.W.tabObj #[]):=fun p hp=>by
  obtain ⟨y,hy,e⟩:=JH.mp hp;obtain ⟨e',he'⟩:=hrec y hy;exact PySem.W.tab_of G.T KX he' e
 obtain ⟨hmain,fd,hb,hF⟩:=F w mg fa _ KX G.T.g hmg fun p hp=>by
  obtain ⟨r,hr',rfl⟩:=AL.mp hp;exact (hT r hr').2
 obtain ⟨bm,ob,b1,b2,b3,b4⟩:=G.T.bmain;exact gH KX hmain G.T.g G.T.b G.T.builtins G.T.nolimit hg hobj hints (BG hlen hn2) hr hT ⟨bm,ob,b1,b2,b3,b4⟩ hF hb fun H hS=>hsp _ H a ns hlen hS
theorem rG{K:PySem.W.Frag}{x:Str}{v:Option Value}(h:PySem.W.nsIn K mainGlobals x=some v):∃o,K.lookup mainGlobals=some o:=by
 unfold PySem.W.nsIn at h
 cases e:K.lookup mainGlobals with
 | none=>rw [e] at h;simp at h
 | some o=>exact ⟨o,rfl⟩
theorem jD{K:PySem.W.Frag}{x:Str}{f c P:Addr}{oc co:Value}{od cod:Option Addr}{fd:FuncData}{sl csl:Array (Option Value)}{vs:Array Value}(h1:PySem.W.nsIn K mainGlobals x=some (some (.ref f)))(h2:K.lookup f=some ⟨oc,od, .func fd,sl⟩)(h3:fd.code = .ref c)(h4:K.lookup c=some ⟨co,cod, .fields vs,csl⟩)(h5:vs[11]? = some (.ref P)):PySem.W.tabIn K x=some (c,P):=by
 unfold PySem.W.tabIn;rw [h1]
 dsimp only
 rw [h2]
 dsimp only
 rw [h3]
 dsimp only
 rw [h4]
 dsimp only
 rw [h5]
theorem ZA{names:List Str}{K:PySem.W.Frag}{x:Str}{c P:Addr}(hx:x ∈ names)(h:PySem.W.tabIn K x=some (c,P)):(c,P) ∈ tbK names K:=JH.mpr ⟨x,hx,h⟩
theorem aK{names:List Str}{K:PySem.W.Frag}{x:Str}{c P:Addr}(hx:x ∈ names)(h:PySem.W.tabIn K x=some (c,P)):P ∈ IW (CJ K ((tbK names K).map (·.2))):=by
 rw [SU];exact AL.mpr ⟨_,ZA hx h,rfl⟩
end Tf
namespace Dm
open PySem PySem.Spec PyProof.Rows L2 Tf
section
variable {K:PySem.W.Frag} {P:Program} {w:World} {mg:Str->Option Value} {base:Heap}
theorem A27 {x qual : Str} {st : Stmt} {f c : Addr} {fd : FuncData} {N ps : List Str} {k n m : Nat} {g : En -> Option Out} (F : Fun K x qual st f fd) (hc : fd.code = .ref c) (S : FnScope N ps (BD st)) (hn : N.length = n) (hm : ps.length = m)
 (hb:∀(A:Around) (outer:List Env) (s:Shared) (H:Hp) (E:XK),Room k (A.deeper (envOfC qual (BD st) s.heap.objs.size f (.ref c)))->DSs (U2 CX0 P w K mg base N qual (BD st) f (.ref c) A outer s H E).nox (PR K) (ID st) g) :
 FnOk P w K mg base CX0 (k+1) f fd ps (spD K (FS n g m)):=by
 subst hn hm;obtain ⟨oc,od,kV,doc,pm,an,cdv,ct,osl,rfl,lk,hcd⟩:=F.ex;obtain rfl:cdv = .ref c:=hc;refine sX lk hcd S (fun vs H Q E h=> ?_) fun A outer s H vs Q E hr h=> ?_
 . obtain ⟨H0,ds,r,s,hr,hf,_⟩:=h;unfold FS at hf
   split at hf
   . rename_i hl;rw [hr.length,hl]
   . cases hf
 . obtain ⟨t,ht,rs⟩:=hb A outer s H E hr;refine ⟨t,ht.nox,?_⟩;obtain ⟨H0,ds,r,s0,hr,hf,q⟩:=h;unfold FS at hf
   split at hf
   . obtain ⟨o,ho,hf⟩:=A3.mp hf;refine rs H H0 _ _ H0 H (Ext.refl s0) ⟨XT hr⟩ o ho _ ?_
     cases o with
     | rt r' _=>cases hf;exact fun v σ H1 J1 a _ b=>q v H1 J1 a b
     | nx _=>cases hf;exact fun σ H1 J1 a b=>q .non H1 J1 a .none
     | bk _=>cases hf
     | ct _=>cases hf
   . cases hf
end
end Dm
namespace Sp
abbrev Wd:=List Nat
def Ok(p n:Nat)(w:Wd):Prop:=w.length=n/\∀r ∈ w,r<p
def put(p:Nat)(u:Wd)(f:Nat)(w:Wd):Wd:=List.zipWith (fun a b=>(a+f*b) % p) u w
theorem LC{A B p s t:Nat}(h:A+p*s=B+p*t):A % p=B % p:=by
 rw [<-n9 A p s, <-n9 B p t,h]
theorem E3(A p:Nat):∃q,A=A % p+p*q:=⟨A / p,by rw [d7]⟩
theorem Ok.get{p n:Nat}{w:Wd}(h:Ok p n w){i:Nat}(hi:i<n):∃x,w[i]? = some x/\x<p:=by
 have:i<w.length:=by rw [h.1];exact hi
 exact ⟨w[i],AE this,h.2 _ (F0 this)⟩
theorem put_ok{p n:Nat}(hp:0<p){u w:Wd}(hu:u.length=n)(hw:w.length=n)(f:Nat):Ok p n (put p u f w):=by
 refine ⟨by unfold put;rw [List.length_zipWith,hu,hw,Nat.min_self],fun r hr=> ?_⟩;unfold put at hr
 obtain ⟨i,hi,e⟩:=I9.mp hr;rw [List.getElem_zipWith] at e
 rw [<-e];exact L9 _ hp
theorem FO{p n:Nat}{u w:Wd}(hu:Ok p n u)(hw:Ok p n w){f i x y:Nat}(hx:u[i]? = some x)(hy:w[i]? = some y):(put p u f w)[i]? = some ((x+f*y) % p):=by
 unfold put;rw [List.getElem?_zipWith,hx,hy]
theorem ext{p n:Nat}{u w:Wd}(hu:Ok p n u)(hw:Ok p n w)(h:∀i x y,i<n->u[i]? = some x->w[i]? = some y->x=y):u=w:=by
 refine A88 fun i=> ?_
 by_cases hi:i<n
 . obtain ⟨x,ex,_⟩:=hu.get hi;obtain ⟨y,ey,_⟩:=hw.get hi;rw [ex,ey,h i x y hi ex ey]
 . rw [HD (by rw [hu.1];omega),HD (by rw [hw.1];omega)]
theorem PM{p n:Nat}(hp:0<p){u w:Wd}(hu:Ok p n u)(hw:Ok p n w):put p u 0 w=u:=by
 refine ext (put_ok hp hu.1 hw.1 0) hu fun i x y hi hx hy=> ?_;obtain ⟨z,ez,_⟩:=hw.get hi;obtain ⟨y',ey,hy'⟩:=hu.get hi;rw [FO hu hw hy ez] at hx
 cases hx
 rw [hy] at ey
 cases ey
 rw [Nat.zero_mul,KB,DL hy']
theorem pG{p n:Nat}(hp:0<p){u u' w:Wd}(hu:Ok p n u)(hu':Ok p n u')(hw:Ok p n w)(f f' h:Nat):put p (put p u f w) h (put p u' f' w)=put p (put p u h u') ((f+h*f') % p) w:=by
 have o1:=put_ok hp hu.1 hw.1 f;have o2:=put_ok hp hu'.1 hw.1 f';have o3:=put_ok hp hu.1 hu'.1 h;refine ext (put_ok hp o1.1 o2.1 h) (put_ok hp o3.1 hw.1 _) fun i x y hi hx hy=> ?_;obtain ⟨a,ea,_⟩:=hu.get hi;obtain ⟨b,eb,_⟩:=hu'.get hi;obtain ⟨c,ec,_⟩:=hw.get hi;rw [FO o1 o2 (FO hu hw ea ec) (FO hu' hw eb ec)] at hx
 rw [FO o3 hw (FO hu hu' ea eb) ec] at hy
 cases hx
 cases hy
 obtain ⟨q1,h1⟩:=E3 (a+f*c) p;obtain ⟨q2,h2⟩:=E3 (b+f'*c) p;obtain ⟨q3,h3⟩:=E3 (a+h*b) p;obtain ⟨q4,h4⟩:=E3 (f+h*f') p;generalize (a+f*c) % p=r at h1 ⊢
 generalize (b+f'*c) % p=r' at h2 ⊢
 generalize (a+h*b) % p=t at h3 ⊢
 generalize (f+h*f') % p=g at h4 ⊢
 refine LC (s:=q1+h*q2) (t:=q3+q4*c) ?_
 grind
theorem cX{p n:Nat}(hp:0<p){u u' w:Wd}(hu:Ok p n u)(hu':Ok p n u')(hw:Ok p n w){f:Nat}(h:put p u f w=put p u' f w):u=u':=by
 refine ext hu hu' fun i x y hi hx hy=> ?_;obtain ⟨x',ex,bx⟩:=hu.get hi;obtain ⟨y',ey,bz⟩:=hu'.get hi;obtain ⟨c,ec,_⟩:=hw.get hi;rw [hx] at ex;cases ex
 rw [hy] at ey;cases ey
 have e:=K0 (fun l:Wd=>l[i]?) h;rw [FO hu hw hx ec,FO hu' hw hy ec] at e
 have e:=BN e;obtain ⟨q1,h1⟩:=E3 (x+f*c) p;obtain ⟨q2,h2⟩:=E3 (y+f*c) p;rw [e] at h1
 generalize (y+f*c) % p=r at h1 h2
 have h3:x+p*q2=y+p*q1:=by omega
 have:=LC h3
 rwa [DL bx,DL bz] at this
theorem inv{p:Nat}(hp:p=2\/p=3\/p=5\/p=7){f f':Nat}(hf:f<p)(hf':f'<p)(h:f≠f'):∃g k,g*(f+(p - f'))=1+p*k:=by
 rcases hp with rfl | rfl | rfl | rfl
 . have:∀f<2,∀f'<2,f≠f'->∃g<2,∃k<20,g*(f+(2 - f'))=1+2*k:=by decide
   obtain ⟨g,_,k,_,e⟩:=this f hf f' hf' h;exact ⟨g,k,e⟩
 . have:∀f<3,∀f'<3,f≠f'->∃g<3,∃k<20,g*(f+(3 - f'))=1+3*k:=by decide
   obtain ⟨g,_,k,_,e⟩:=this f hf f' hf' h;exact ⟨g,k,e⟩
 . have:∀f<5,∀f'<5,f≠f'->∃g<5,∃k<20,g*(f+(5 - f'))=1+5*k:=by decide
   obtain ⟨g,_,k,_,e⟩:=this f hf f' hf' h;exact ⟨g,k,e⟩
 . have:∀f<7,∀f'<7,f≠f'->∃g<7,∃k<20,g*(f+(7 - f'))=1+7*k:=by decide
   obtain ⟨g,_,k,_,e⟩:=this f hf f' hf' h;exact ⟨g,k,e⟩
def zero(n:Nat):Wd:=List.replicate n 0
theorem zero_ok{p:Nat}(hp:0<p)(n:Nat):Ok p n (zero n):=⟨BY,fun r hr=>by rw [(JL.mp hr).2];exact hp⟩
theorem ND{n i:Nat}(hi:i<n):(zero n)[i]? = some 0:=by unfold zero;rw [List.getElem?_replicate,if_pos hi]
theorem A15 {p n : Nat} (hp : 0 < p) {u u' w : Wd} (hu : Ok p n u) (hu' : Ok p n u') (hw : Ok p n w) {f f' g k : Nat} (hf' : f' < p) (hg : g * (f + (p - f')) = 1 + p * k) (h : put p u f w = put p u' f' w) :
 put p (put p (zero n) g u') (g*(p - 1)) u=w:=by
 have o0:=zero_ok hp n;have o1:=put_ok hp o0.1 hu'.1 g;refine ext (put_ok hp o1.1 hu.1 _) hw fun i x y hi hx hy=> ?_;obtain ⟨a,ea,_⟩:=hu.get hi;obtain ⟨b,eb,_⟩:=hu'.get hi;obtain ⟨c,ec,bc⟩:=hw.get hi;rw [hy] at ec;cases ec
 rw [FO o1 hu (FO o0 hu' (ND hi) eb) ea] at hx
 cases hx
 have e:=K0 (fun l:Wd=>l[i]?) h;rw [FO hu hw ea hy,FO hu' hw eb hy] at e
 have e:=BN e;obtain ⟨q1,h1⟩:=E3 (a+f*y) p;obtain ⟨q2,h2⟩:=E3 (b+f'*y) p;rw [e] at h1
 generalize (b+f'*y) % p=r at h1 h2
 obtain ⟨q3,h3⟩:=E3 (0+g*b) p;generalize (0+g*b) % p=t at h3 ⊢
 rw [<-DL bc];obtain ⟨p',rfl⟩:∃p',p=p'+1:=⟨p - 1,by omega⟩;obtain ⟨d,hd⟩:∃d,p'+1=f'+d:=⟨p'+1 - f',by omega⟩;rw [show p'+1 - f'=d by omega] at hg
 rw [show p'+1 - 1=p' by omega];have h4:b+f'*y+(p'+1)*q1=a+f*y+(p'+1)*q2:=by omega
 refine LC (s:=q3+g*q1+g*y) (t:=g*a+y*k+g*q2) ?_
 grind
structure Cl (p n:Nat) (M:List Wd):Prop where
 ok:∀u ∈ M,Ok p n u
 z:zero n ∈ M
 put:∀u ∈ M,∀v ∈ M,∀f,put p u f v ∈ M
def mults(p:Nat)(F:List Nat)(M:List Wd)(w:Wd):List Wd:=F.flatMap fun f=>M.map fun u=>put p u f w
theorem mem_mults{p:Nat}{F:List Nat}{M:List Wd}{w x:Wd}:x ∈ mults p F M w↔∃f ∈ F,∃u ∈ M,put p u f w=x:=by
 unfold mults;rw [List.mem_flatMap]
 constructor
 . rintro ⟨f,hf,h⟩;obtain ⟨u,hu,e⟩:=AL.mp h;exact ⟨f,hf,u,hu,e⟩
 . rintro ⟨f,hf,u,hu,e⟩;exact ⟨f,hf,AL.mpr ⟨u,hu,e⟩⟩
def JQ(p:Nat)(M:List Wd)(w:Wd):List Wd:=if w ∈ M then M else mults p (List.range p) M w
def IT(p n:Nat)(W:List Wd):List Wd:=W.foldl (JQ p) [zero n]
def addT(acc:List Wd)(x:Wd):List Wd:=if x ∈ acc then acc else acc ++ [x]
def stepT(p:Nat)(T:List Wd)(w:Wd):List Wd:=(mults p (List.range' 1 (p - 1)) T w).foldl addT T
def spanT(p n:Nat)(W:List Wd):List Wd:=W.foldl (stepT p) [zero n]
theorem lS{p n:Nat}(hp:0<p){M:List Wd}(h:Cl p n M){w:Wd}(hw:Ok p n w):Cl p n (mults p (List.range p) M w):=by
 refine ⟨fun x hx=> ?_,?_,fun x hx y hy f=> ?_⟩
 . obtain ⟨f,_,u,hu,rfl⟩:=mem_mults.mp hx;exact put_ok hp (h.ok u hu).1 hw.1 f
 . exact mem_mults.mpr ⟨0,BL.mpr hp,_,h.z,PM hp (zero_ok hp n) hw⟩
 . obtain ⟨f1,_,u,hu,rfl⟩:=mem_mults.mp hx;obtain ⟨f2,_,v,hv,rfl⟩:=mem_mults.mp hy;rw [pG hp (h.ok u hu) (h.ok v hv) hw];exact mem_mults.mpr ⟨_,BL.mpr (L9 _ hp),_,h.put u hu v hv f,rfl⟩
theorem XJ{p n:Nat}(hq:p=2\/p=3\/p=5\/p=7){M:List Wd}(h:Cl p n M)(nd:M.Nodup){w:Wd}(hw:Ok p n w)(hn:w ∉ M):∀ {F:List Nat},F.Nodup->(∀f ∈ F,f<p)->(mults p F M w).Nodup:=by
 have hp:0<p:=by omega
 intro F
 induction F with
 | nil=>intro _ _;exact gM
 | cons f F ih=>
  intro hF hb;rw [FY] at hF
  have e:mults p (f::F) M w=(M.map fun u=>put p u f w)++mults p F M w:=by unfold mults;rw [List.flatMap_cons]
  rw [e,NS];refine ⟨?_,ih hF.2 fun g hg=>hb g (AK _ hg),fun x hx y hy exy=> ?_⟩
  . refine HM.mpr (O1 (fun {u v} hu hv huv e=>huv ?_) nd);exact cX hp (h.ok u hu) (h.ok v hv) hw e
  . subst exy;obtain ⟨u,hu,e1⟩:=AL.mp hx;obtain ⟨g,hg,v,hv,e2⟩:=mem_mults.mp hy;have bf:=hb f AU;have bg:=hb g (AK _ hg);have hfg:f≠g:=fun c=>hF.1 (c ▸ hg);obtain ⟨i,k,hi⟩:=inv hq bf bg hfg;have:=A15 hp (h.ok u hu) (h.ok v hv) hw bg hi (e1.trans e2.symm);refine hn ?_;rw [<-this];exact h.put _ (h.put _ h.z _ hv _) _ hu _
theorem addT_fold:∀(l:List Wd) (acc:List Wd),acc.Nodup->(l.foldl addT acc).Nodup/\∀x,x ∈ l.foldl addT acc↔x ∈ acc\/x ∈ l
 | [],acc,h=>⟨h,fun x=>by simp⟩
 | y::l,acc,h=>by
  rw [QK]
  have h1:(addT acc y).Nodup/\∀x,x ∈ addT acc y↔x ∈ acc\/x=y:=by
   unfold addT
   split
   . rename_i hy;exact ⟨h,fun x=>⟨.inl,fun hx=>hx.elim id fun e=>e ▸ hy⟩⟩
   . rename_i hy;refine ⟨?_,fun x=>by simp⟩;rw [NS];exact ⟨h,by simp,fun a ha b hb e=>hy (by rw [A4.mp hb] at e;exact e ▸ ha)⟩
  obtain ⟨g1,g2⟩:=addT_fold l _ h1.1;refine ⟨g1,fun x=> ?_⟩;rw [g2,h1.2,AJ,or_assoc]
theorem sS {p n : Nat} (hq : p = 2 \/ p = 3 \/ p = 5 \/ p = 7) {M T : List Wd} (h : Cl p n M) (nd : M.Nodup) (ndT : T.Nodup) (hs : ∀ x, x ∈ M ↔ x ∈ T) {w : Wd} (hw : Ok p n w) :
 Cl p n (JQ p M w)/\(JQ p M w).Nodup/\(stepT p T w).Nodup/\∀x,x ∈ JQ p M w↔x ∈ stepT p T w:=by
 have hp:0<p:=by omega
 obtain ⟨t1,t2⟩:=addT_fold (mults p (List.range' 1 (p - 1)) T w) T ndT;unfold JQ
 split
 . rename_i hin;refine ⟨h,nd,t1,fun x=> ?_⟩;unfold stepT;rw [t2,hs];refine ⟨.inl,fun hx=>hx.elim id fun hx=> ?_⟩;obtain ⟨f,_,u,hu,rfl⟩:=mem_mults.mp hx;exact (hs _).mp (h.put u ((hs u).mpr hu) w hin f)
 . rename_i hin;refine ⟨lS hp h hw,XJ hq h nd hw hin List.nodup_range (fun f hf=>List.mem_range.mp hf),t1,fun x=> ?_⟩;unfold stepT;rw [t2]
   constructor
   . intro hx;obtain ⟨f,hf,u,hu,rfl⟩:=mem_mults.mp hx
     by_cases h0:f=0
     . subst h0;left;rw [PM hp (h.ok u hu) hw];exact (hs u).mp hu
     . right;have:=BL.mp hf;exact mem_mults.mpr ⟨f,A92.mpr ⟨by omega,by omega⟩,u,(hs u).mp hu,rfl⟩
   . rintro (hx | hx)
     . have hx:=(hs x).mpr hx;exact mem_mults.mpr ⟨0,BL.mpr hp,x,hx,PM hp (h.ok x hx) hw⟩
     . obtain ⟨f,hf,u,hu,rfl⟩:=mem_mults.mp hx;have:=A92.mp hf;exact mem_mults.mpr ⟨f,BL.mpr (by omega),u,(hs u).mpr hu,rfl⟩
theorem t6 {p n : Nat} (hq : p = 2 \/ p = 3 \/ p = 5 \/ p = 7) : ∀ (W : List Wd) (M T : List Wd), (∀ w ∈ W, Ok p n w) -> Cl p n M -> M.Nodup -> T.Nodup -> (∀ x, x ∈ M ↔ x ∈ T) ->
 Cl p n (W.foldl (JQ p) M)/\(W.foldl (JQ p) M).Nodup/\(W.foldl (stepT p) T).Nodup/\∀x,x ∈ W.foldl (JQ p) M↔x ∈ W.foldl (stepT p) T
 | [],M,T,_,h,a,b,c=>⟨h,a,b,c⟩
 | w::W,M,T,hW,h,a,b,c=>by
  obtain ⟨h',a',b',c'⟩:=sS hq h a b c (hW w AU);exact t6 hq W _ _ (fun v hv=>hW v (AK _ hv)) h' a' b' c'
theorem bC{p:Nat}(hp:0<p)(n:Nat):Cl p n [zero n]:=by
 have o:=zero_ok hp n;refine ⟨fun u hu=>by rw [A4.mp hu];exact o,A4.mpr rfl,fun u hu v hv f=> ?_⟩;rw [A4.mp hu,A4.mp hv];refine A4.mpr (ext (put_ok hp o.1 o.1 f) o fun i x y hi hx hy=> ?_);rw [FO o o (ND hi) (ND hi)] at hx
 rw [ND hi] at hy
 cases hx
 cases hy
 rw [WH,KB,MR]
theorem span_take{p n:Nat}(hq:p=2\/p=3\/p=5\/p=7){W:List Wd}(hW:∀w ∈ W,Ok p n w):Cl p n (IT p n W)/\(IT p n W).Nodup/\(spanT p n W).Nodup/\∀x,x ∈ IT p n W↔x ∈ spanT p n W:=
 t6 hq W _ _ hW (bC (by omega) n) (E8 _ _) (E8 _ _) fun _=>Iff.rfl
theorem dJ{p n:Nat}(hq:p=2\/p=3\/p=5\/p=7){W:List Wd}(hW:∀w ∈ W,Ok p n w):(IT p n W).Perm (spanT p n W):=by
 obtain ⟨_,a,b,c⟩:=span_take hq hW;exact (gW a b).mpr c
def sB(p:Nat):Nat->List Wd
 | 0=> [[]]
 | n+1=>(sB p n).flatMap fun w=>(List.range p).map fun r=>r::w
theorem XB(p:Nat):∀n,(sB p n).length=p ^ n
 | 0=>rfl
 | n+1=>by
  have e:∀l:List Wd,(l.flatMap fun w=>(List.range p).map fun r=>r::w).length=l.length*p:=fun l=>by
   induction l with
   | nil=>simp
   | cons x l ih=>rw [G6,AZ,ih,AA,HN,B4,K3,WD]
  rw [sB,e,XB p n,GV]
theorem WR{p:Nat}:∀ {n:Nat} {w:Wd},Ok p n w->w ∈ sB p n
 | 0,w,h=>by
  have:w = []:=EA.mp h.1;rw [this]
  exact A4.mpr rfl
 | n+1,r::w,h=>by
  refine LA.mpr ⟨w,WR ⟨by simpa using h.1,fun x hx=>h.2 x (AK _ hx)⟩,AL.mpr ⟨r,BL.mpr (h.2 r AU),rfl⟩⟩
 | n+1,[],h=>by cases h.1
theorem len_le{p n:Nat}{M:List Wd}(nd:M.Nodup)(ok:∀w ∈ M,Ok p n w):M.length<=p ^ n:=by
 rw [<-XB p n];exact List.Nodup.length_le_of_subset nd fun w hw=>WR (ok w hw)
end Sp
namespace Sp
def dot(w x:Wd):Nat:=((List.zip w x).map fun q=>q.1*q.2).sum
theorem J9(a b:Nat)(w x:Wd):dot (a::w) (b::x)=a*b+dot w x:=by
 unfold dot;rw [List.zip_cons_cons,List.map_cons,List.sum_cons]
theorem KK:∀w x:Wd,dot w x=dot x w
 | [],_=>by simp [dot]
 | _::_,[]=>by simp [dot]
 | a::w,b::x=>by rw [J9,J9,KK w x,K5]
theorem W5{A B p:Nat}(h:A % p=B % p):∃k l,A+p*k=B+p*l:=by
 refine ⟨B / p,A / p,?_⟩;have h1:=d7 A p;have h2:=d7 B p;rw [h] at h1
 omega
theorem P7{p:Nat}(f:Nat):∀u w x:Wd,u.length=w.length->dot (put p u f w) x % p=(dot u x+f*dot w x) % p
 | [],[],x,_=>by simp [put,dot]
 | a::u,b::w,[],_=>by simp [put,dot]
 | a::u,b::w,c::x,h=>by
  have ih:=P7 (p:=p) f u w x (by simpa using h);have e:put p (a::u) f (b::w)=(a+f*b) % p::put p u f w:=by unfold put;rw [List.zipWith_cons_cons]
  rw [e,J9,J9,J9];obtain ⟨q,hq⟩:=E3 (a+f*b) p;generalize (a+f*b) % p=r at hq ⊢
  obtain ⟨k,l,ih⟩:=W5 ih;generalize dot (put p u f w) x=D at ih ⊢
  generalize dot u x=A at ih ⊢
  generalize dot w x=B at ih ⊢
  refine LC (s:=q*c+k) (t:=l) ?_
  grind
theorem PF{p:Nat}(f:Nat)(u x y:Wd)(h:x.length=y.length):dot u (put p x f y) % p=(dot u x+f*dot u y) % p:=by
 rw [KK,P7 f x y u h,KK x u,KK y u]
theorem N6(n:Nat):∀x:Wd,dot (zero n) x=0:=by
 induction n with
 | zero=>intro x;simp [zero,dot]
 | succ n ih=>
  intro x
  cases x with
  | nil=>simp [zero,dot]
  | cons b x=>
   have:zero (n+1)=0::zero n:=rfl;rw [this,J9,ih,Nat.zero_mul]
def jF(n i:Nat):Wd:=(List.range n).map fun j=>if j=i then 1 else 0
theorem pA{p n i:Nat}(hp:2<=p):Ok p n (jF n i):=⟨by simp [jF],fun r hr=>by
 obtain ⟨j,_,rfl⟩:=AL.mp hr
 split <;> omega⟩
theorem XZ:∀(w:Wd) (n i a x:Nat),w.length=n->w[i]? = some x->dot w ((List.range' a n).map fun j=>if j=a+i then 1 else 0)=x
 | [],_,i,a,x,h,e=>by simp at e
 | b::w,0,i,a,x,h,e=>by simp at h
 | b::w,n+1,i,a,x,h,e=>by
  have hn:w.length=n:=by simpa using h
  rw [List.range'_succ,B1,J9]
  cases i with
  | zero=>
   have hb:b=x:=by simpa using e
   subst hb
   have z:∀(w:Wd) (n c:Nat),w.length=n->a<c->dot w ((List.range' c n).map fun j=>if j=a+0 then 1 else 0)=0:=by
    intro w
    induction w with
    | nil=>intro n c h _;simp [dot]
    | cons d w ih=>
     intro n c h hc
     cases n with
     | zero=>simp at h
     | succ n=>
      rw [List.range'_succ,B1,J9,A8 (by omega),ih n (c+1) (by simpa using h) (by omega),WH]
   rw [AB (by omega),z w n (a+1) hn (by omega),Nat.mul_one,KB]
  | succ i=>
   have e':w[i]? = some x:=by simpa using e
   have ih:=XZ w n i (a+1) x hn e';rw [A8 (by omega),WH,C8,show a+(i+1)=a+1+i by omega];exact ih
theorem XS{p n:Nat}(hq:p=2\/p=3\/p=5\/p=7){M:List Wd}(h:Cl p n M){u x:Wd}(hu:Ok p n u){m:Wd}(hm:m ∈ M)(f:Nat)(hx:put p m f u=x):x ∈ JQ p M u:=by
 have hp:0<p:=by omega
 unfold JQ
 split
 . rename_i hin;rw [<-hx];exact h.put m hm u hin f
 . refine mem_mults.mpr ⟨f % p,BL.mpr (L9 _ hp),m,hm,?_⟩;rw [<-hx];refine ext (put_ok hp (h.ok m hm).1 hu.1 _) (put_ok hp (h.ok m hm).1 hu.1 _) fun i a b hi ha hb=> ?_;obtain ⟨c,ec,_⟩:=(h.ok m hm).get hi;obtain ⟨d,ed,_⟩:=hu.get hi;rw [FO (h.ok m hm) hu ec ed] at ha hb
   cases ha
   cases hb
   obtain ⟨q,hq⟩:=E3 f p;generalize f % p=r at hq ⊢
   subst hq;refine LC (s:=q*d) (t:=0) ?_
   grind
theorem mC{p n:Nat}(hp:0<p){w u:Wd}(hw:Ok p n w)(hu:Ok p n u)(g:Nat):put p (put p w g u) (g*(p - 1)) u=w:=by
 have o1:=put_ok hp hw.1 hu.1 g;refine ext (put_ok hp o1.1 hu.1 _) hw fun i x y hi hx hy=> ?_;obtain ⟨d,ed,_⟩:=hu.get hi;obtain ⟨y',ey,by'⟩:=hw.get hi;rw [hy] at ey;cases ey
 rw [FO o1 hu (FO hw hu hy ed) ed] at hx
 cases hx
 have key:((y+g*d) % p+g*(p - 1)*d) % p=y % p:=by
  obtain ⟨q,hq⟩:=E3 (y+g*d) p;generalize (y+g*d) % p=r at hq ⊢
  obtain ⟨p',rfl⟩:∃p',p=p'+1:=⟨p - 1,by omega⟩;rw [show p'+1 - 1=p' by omega];refine LC (s:=q) (t:=g*d) ?_;clear hw hu o1 hy ed
  grind
 rw [key,DL by']
theorem rX{p n:Nat}(hq:p=2\/p=3\/p=5\/p=7){U:List Wd}(hU:∀u ∈ U,Ok p n u):Cl p n (IT p n U):=(span_take hq hU).1
theorem A74{ p n:Nat}(hq:p=2\/p=3\/p=5\/p=7):∀(k:Nat) (U:List Wd),U.length=k->(∀u ∈ U,Ok p n u)->∀w,Ok p n w->w ∈ IT p n U\/∃t,Ok p n t/\(∀u ∈ U,dot u t % p=0)/\dot w t % p≠0:=by
 have hp:0<p:=by omega
 have hp2:2<=p:=by omega
 intro k
 induction k with
 | zero=>
  intro U hk hU w hw;have:U = []:=EA.mp hk;subst this
  by_cases hz:w=zero n
  . left;rw [hz];exact A4.mpr rfl
  . right
    obtain ⟨i,x,hi,ex,hx⟩:∃i x,i<n/\w[i]? = some x/\x≠0:=by
     refine ET fun c=>hz ?_;refine ext hw (zero_ok hp n) fun i x y hi hx hy=> ?_;rw [ND hi] at hy
     cases hy
     exact ET fun d=>c ⟨i,x,hi,hx,d⟩
    refine ⟨jF n i,pA hp2,fun u hu=>absurd hu (B8),?_⟩
    have e:jF n i=(List.range' 0 n).map fun j=>if j=0+i then 1 else 0:=by
     unfold jF;rw [List.range_eq_range',Nat.zero_add]
    rw [e,XZ w n i 0 x hw.1 ex];obtain ⟨x',ex',bx⟩:=hw.get hi;rw [ex] at ex';cases ex'
    rw [DL bx]
    exact hx
 | succ k ih=>
  intro U hk hU w hw
  obtain ⟨V,u,rfl⟩:∃V u,U=V ++ [u]:=by
   rcases DB U with h | ⟨V,u,h⟩
   . subst h;simp at hk
   . exact ⟨V,u,by simpa using h⟩
  have hk':V.length=k:=by simpa using hk
  have hV:∀v ∈ V,Ok p n v:=fun v hv=>hU v (List.mem_append_left _ hv);have hu:Ok p n u:=hU u (List.mem_append_right _ (List.mem_singleton.mpr rfl));have cl:=rX (n:=n) hq hV;have es:IT p n (V ++ [u])=JQ p (IT p n V) u:=by unfold IT;rw [List.foldl_append];rfl
  rw [es];rcases ih V hk' hV w hw with h1 | ⟨t1,o1,z1,n1⟩
  . left;exact XS hq cl hu h1 0 (PM hp hw hu)
  . by_cases hz:dot u t1 % p=0
    . right;refine ⟨t1,o1,fun v hv=> ?_,n1⟩;rcases AW.mp hv with hv | hv
      . exact z1 v hv
      . rw [A4.mp hv];exact hz
    . obtain ⟨i,j,hi⟩:=inv hq (f:=dot u t1 % p) (f':=0) (L9 _ hp) hp hz;rw [Nat.sub_zero] at hi
      have hi1:∃a b,i*dot u t1+p*a=1+p*b:=by
       obtain ⟨q,hq'⟩:=E3 (dot u t1) p;generalize dot u t1 % p=r at hi hq'
       refine ⟨i,j+i*q,?_⟩;rw [hq']
       grind
      obtain ⟨a1,b1,hi1⟩:=hi1;have ow':=put_ok hp hw.1 hu.1 ((p - 1)*(i*dot w t1));rcases ih V hk' hV _ ow' with h2 | ⟨t2,o2,z2,n2⟩
      . left;exact XS hq cl hu h2 _ (mC hp hw hu _)
      . right;have ot:=put_ok hp o2.1 o1.1 ((p - 1)*(i*dot u t2));refine ⟨_,ot,fun v hv=> ?_,?_⟩
        . rcases AW.mp hv with hv | hv
          . rw [PF _ v t2 t1 (by rw [o2.1,o1.1])];obtain ⟨c1,h1⟩:=E3 (dot v t1) p;obtain ⟨c2,h2⟩:=E3 (dot v t2) p;rw [z1 v hv] at h1
            rw [z2 v hv] at h2
            rw [h1,h2];have:(0+p*c2+(p - 1)*(i*dot u t2)*(0+p*c1))=p*(c2+(p - 1)*(i*dot u t2)*c1):=by grind
            rw [this];exact Nat.mul_mod_right _ _
          . rw [A4.mp hv,PF _ u t2 t1 (by rw [o2.1,o1.1])];generalize dot u t2=A;generalize dot u t1=B at hi1
            obtain ⟨p',rfl⟩:∃p',p=p'+1:=⟨p - 1,by omega⟩;rw [show p'+1 - 1=p' by omega]
            have:(A+p'*(i*A)*B) % (p'+1)=0 % (p'+1):=by
             refine LC (s:=p'*A*a1) (t:=A+p'*A*b1) ?_
             grind
            rw [this,MR]
        . rw [PF _ w t2 t1 (by rw [o2.1,o1.1])];rw [P7 _ w u t2 (by rw [hw.1,hu.1])] at n2
          intro c;refine n2 ?_;rw [<-c];congr 1
          generalize dot u t2=A;generalize dot w t1=B;generalize dot w t2=C
          grind
theorem OI{p A B C D:Nat}(h1:A % p=B % p)(h2:C % p=D % p)(f:Nat):(A+f*C) % p=(B+f*D) % p:=by
 obtain ⟨k,l,h1⟩:=W5 h1;obtain ⟨i,j,h2⟩:=W5 h2;refine LC (s:=k+f*i) (t:=l+f*j) ?_
 grind
theorem ZD{p n:Nat}{M:List Wd}(ok:∀m ∈ M,Ok p n m){u x y:Wd}(hu:Ok p n u)(hM:∀m ∈ M,dot m x % p=dot m y % p)(h:dot u x % p=dot u y % p):∀m ∈ JQ p M u,dot m x % p=dot m y % p:=by
 intro m hm;unfold JQ at hm
 split at hm
 . exact hM m hm
 . obtain ⟨f,_,v,hv,rfl⟩:=mem_mults.mp hm;have e:v.length=u.length:=by rw [(ok v hv).1,hu.1]
   rw [P7 f v u x e,P7 f v u y e];exact OI (hM v hv) h f
theorem T0{p n:Nat}(hq:p=2\/p=3\/p=5\/p=7){x y:Wd}:∀(U:List Wd) (M:List Wd),(∀u ∈ U,Ok p n u)->Cl p n M->M.Nodup->(∀u ∈ U,dot u x % p=dot u y % p)->(∀m ∈ M,dot m x % p=dot m y % p)->∀m ∈ U.foldl (JQ p) M,dot m x % p=dot m y % p
 | [],M,_,_,_,_,hM=>hM
 | u::U,M,hU,cl,nd,h,hM=>by
  obtain ⟨cl',nd',_,_⟩:=sS hq cl nd nd (fun _=>Iff.rfl) (hU u AU);exact T0 hq U _ (fun v hv=>hU v (AK _ hv)) cl' nd' (fun v hv=>h v (AK _ hv)) (ZD cl.ok (hU u AU) hM (h u AU))
end Sp
namespace Tr
def E:List Int->Nat->Int
 | [],0=>1
 | [],_+1=>0
 | _::_,0=>1
 | s::l,k+1=>E l (k+1)+(s - 1)*E l k
def S:List Int->Nat->Int
 | [],_=>1
 | _::_,0=>1
 | s::l,u+1=>S l (u+1)+(s - 1)*S l u
def dg:List Nat->Nat->List Nat
 | [],_=> []
 | c::r,x=>x % c::dg r (x / c)
def prodN:List Nat->Nat
 | []=>1
 | c::r=>c*prodN r
theorem prodN_app:∀a b,prodN (a++b)=prodN a*prodN b
 | [],b=>by simp [prodN]
 | c::a,b=>by simp only [OT,prodN,prodN_app a b,Nat.mul_assoc]
theorem lB:∀r x,(dg r x).length=r.length
 | [],_=>rfl
 | c::r,x=>by simp [dg,lB r]
def tri(L:List Nat)(x:Nat):List Nat:=(dg L.reverse x).reverse
theorem kL(L:List Nat)(c x:Nat):tri (L ++ [c]) x=tri L (x / c) ++ [x % c]:=by
 unfold tri;rw [List.reverse_append];simp [dg]
theorem tri_len(L:List Nat)(x:Nat):(tri L x).length=L.length:=by simp [tri,lB]
def allT(L:List Nat):List (List Nat):=(List.range (prodN L)).map (tri L)
theorem U6{α:Type}(f:Nat->Nat->α)(c:Nat)(hc:0<c):∀m,(List.range (m*c)).map (fun x=>f (x / c) (x % c))=(List.range m).flatMap fun q=>(List.range c).map (f q)
 | 0=>by simp
 | m+1=>by
  rw [K3,List.range_add,D8,U6 f c hc m,d8,IU,E5];congr 1
  simp only [G6,List.flatMap_nil,E4];refine BH fun x hx=> ?_;have hx:=BL.mp hx;show f ((m*c+x) / c) ((m*c+x) % c)=f m x;rw [K5 m c,Nat.mul_add_div hc,Nat.mul_add_mod,DL hx,Nat.div_eq_of_lt hx,KB]
theorem allT_nil:allT [] = [[]]:=rfl
theorem allT_snoc(L:List Nat)(c:Nat)(hc:0<c):allT (L ++ [c])=(allT L).flatMap fun t=>(List.range c).map fun s=>t ++ [s]:=by
 unfold allT
 have e:(List.range (prodN (L ++ [c]))).map (tri (L ++ [c]))=(List.range (prodN L*c)).map (fun x=>(fun q s=>tri L q ++ [s]) (x / c) (x % c)):=by
  rw [prodN_app];simp only [prodN,Nat.mul_one];exact BH fun x _=>kL L c x
 rw [e,U6 (fun q s=>tri L q ++ [s]) c hc,List.flatMap_map]
theorem prodN_pos:∀r:List Nat,(∀c ∈ r,0<c)->0<prodN r
 | [],_=>by decide
 | c::r,h=>Nat.mul_pos (h c (by simp)) (prodN_pos r fun d hd=>h d (by simp [hd]))
end Tr
namespace Ev
abbrev Wd:=List Nat
def ch(c x:Wd):Wd:=c.map fun d=>x.getD d 0
def cf(T:List Wd)(c:Wd)(g:Nat->Nat):Nat:=(T.filter fun x=>decide (∀d ∈ c,x.getD d 0=g d)).length
def count(T:List Wd)(c k:Wd):Nat:=(T.filter fun x=>decide (ch c x=k)).length
def lv(L c:Wd):Wd:=c.map fun d=>L.getD d 0
def OkT(L w:Wd):Prop:=w.length=L.length/\∀i,i<L.length->w.getD i 0<L.getD i 0
def EvF(T:List Wd)(L c:Wd):Prop:=∀g g':Nat->Nat,(∀d ∈ c,g d<L.getD d 0)->(∀d ∈ c,g' d<L.getD d 0)->cf T c g=cf T c g'
def EvC(T:List Wd)(L c:Wd):Prop:=∀k k',OkT (lv L c) k->OkT (lv L c) k'->count T c k=count T c k'
theorem OX(T:List Wd)(c:Wd)(g:Nat->Nat):cf T c g=count T c (c.map g):=by
 unfold cf count;congr 1
 refine List.filter_congr fun x _=>decide_eq_decide.mpr ?_;unfold ch;exact List.map_inj_left.symm
theorem gex:∀(c k:Wd),c.Nodup->k.length=c.length->∃g:Nat->Nat,c.map g=k
 | [],[],_,_=>⟨fun _=>0,rfl⟩
 | [],_::_,_,h=>by simp at h
 | _::_,[],_,h=>by simp at h
 | a::c,b::k,hn,h=>by
  obtain ⟨h1,h2⟩:=FY.mp hn;obtain ⟨g,hg⟩:=gex c k h2 (by simpa using h);refine ⟨fun d=>if d=a then b else g d,?_⟩;rw [B1,AB rfl, <-hg];congr 1
  refine BH fun d hd=>A8 ?_;rintro rfl;exact h1 hd
theorem okT_map{L c:Wd}{g:Nat->Nat}:OkT (lv L c) (c.map g)↔∀d ∈ c,g d<L.getD d 0:=by
 have at_:∀(f:Nat->Nat) (i:Nat) (hi:i<c.length),(c.map f).getD i 0=f c[i]:=fun f i hi=>by
  rw [List.getD,B5,AE hi];rfl
 constructor
 . rintro ⟨_,h⟩ d hd;obtain ⟨i,hi,rfl⟩:=List.mem_iff_getElem.mp hd;have:=h i (by unfold lv;rw [List.length_map];exact hi);unfold lv at this
   rw [at_ g i hi,at_ _ i hi] at this
   exact this
 . intro h;refine ⟨by unfold lv;rw [List.length_map,List.length_map],fun i hi=> ?_⟩;unfold lv at hi ⊢
   rw [AA] at hi
   rw [at_ g i hi,at_ _ i hi];exact h _ (F0 hi)
theorem evF_iff{T:List Wd}{L c:Wd}(hc:c.Nodup):EvF T L c↔EvC T L c:=by
 constructor
 . intro h k k' hk hk';obtain ⟨g,rfl⟩:=gex c k hc (by rw [hk.1];unfold lv;rw [List.length_map]);obtain ⟨g',rfl⟩:=gex c k' hc (by rw [hk'.1];unfold lv;rw [List.length_map]);rw [<-OX, <-OX];exact h g g' (okT_map.mp hk) (okT_map.mp hk')
 . intro h g g' hg hg';rw [OX,OX];exact h _ _ (okT_map.mpr hg) (okT_map.mpr hg')
theorem bI(f g:Nat->Nat):∀l:List Nat,(l.map fun v=>f v+g v).sum=(l.map f).sum+(l.map g).sum
 | []=>rfl
 | a::l=>by rw [B1,B1,B1,GZ,GZ,GZ,bI f g l];omega
theorem i9(l:List Nat):(l.map fun _=>0).sum=0:=by
 induction l with
 | nil=>rfl
 | cons a l ih=>rw [B1,GZ,ih]
theorem VH{a b:Wd}{i:Nat}(h:i<a.length):(a++b).getD i 0=a.getD i 0:=by
 rw [List.getD,List.getD,FV h]
theorem bV(a:Nat):∀K,a<K->((List.range K).map fun v=>if a=v then 1 else 0).sum=1
 | 0,h=>absurd h (AA2 _)
 | K+1,h=>by
  rw [d8,D8,List.sum_append]
  by_cases e:a=K
  . subst e;have z:((List.range a).map fun v=>if a=v then 1 else 0)=(List.range a).map fun _=>0:=BH fun v hv=>A8 (by have:=BL.mp hv;omega);rw [z,i9];simp
  . rw [bV a K (by omega)];simp [e]
theorem XO{T:List Wd}{c:Wd}{d K:Nat}(hd:d ∉ c)(hT:∀x ∈ T,x.getD d 0<K)(g:Nat->Nat):cf T c g=((List.range K).map fun v=>cf T (d::c) fun e=>if e=d then v else g e).sum:=by
 induction T with
 | nil=>
  show 0=((List.range K).map fun _=>0).sum
  rw [i9]
 | cons x T ih=>
  have ih:=ih fun y hy=>hT y (AK _ hy);have hx:=hT x AU
  have up:∀v,(∀e ∈ d::c,x.getD e 0=if e=d then v else g e)↔(x.getD d 0=v/\∀e ∈ c,x.getD e 0=g e):=fun v=>by
   constructor
   . intro h;refine ⟨(h d AU).trans (AB rfl),fun e he=>(h e (AK _ he)).trans (A8 ?_)⟩;rintro rfl;exact hd he
   . rintro ⟨h1,h2⟩ e he;rcases AJ.mp he with rfl | hm
     . rw [AB rfl];exact h1
     . rw [A8 (fun (z:e=d)=>hd (z ▸ hm))];exact h2 e hm
  have one:∀(c':Wd) (g':Nat->Nat),cf (x::T) c' g'=cf T c' g'+if (∀e ∈ c',x.getD e 0=g' e) then 1 else 0:=fun c' g'=>by
   unfold cf;rw [List.filter_cons]
   by_cases h:∀e ∈ c',x.getD e 0=g' e
   . rw [AB (AS h),AB h,B4]
   . rw [A8 (by rw [AV h];exact CF),A8 h];rfl
  rw [one,ih]
  have e2:((List.range K).map fun v=>cf (x::T) (d::c) fun e=>if e=d then v else g e)=(List.range K).map fun v=>cf T (d::c) (fun e=>if e=d then v else g e)+if (x.getD d 0=v/\∀e ∈ c,x.getD e 0=g e) then 1 else 0:=BH fun v _=>by
   rw [one];congr 1
   by_cases h:x.getD d 0=v/\∀e ∈ c,x.getD e 0=g e
   . rw [AB h,AB ((up v).mpr h)]
   . rw [A8 h,A8 fun z=>h ((up v).mp z)]
  rw [e2,bI];congr 1
  by_cases h:∀e ∈ c,x.getD e 0=g e
  . rw [AB h]
    have e3:((List.range K).map fun v=>if (x.getD d 0=v/\∀e ∈ c,x.getD e 0=g e) then 1 else 0)=(List.range K).map fun v=>if x.getD d 0=v then 1 else 0:=BH fun v _=>by
     by_cases hv:x.getD d 0=v
     . rw [AB ⟨hv,h⟩,AB hv]
     . rw [A8 fun z=>hv z.1,A8 hv]
    rw [e3,bV _ K hx]
  . rw [A8 h];have e3:((List.range K).map fun v=>if (x.getD d 0=v/\∀e ∈ c,x.getD e 0=g e) then 1 else 0)=(List.range K).map fun _=>0:=BH fun v _=>A8 fun z=>h z.2;rw [e3,i9]
theorem qA{T:List Wd}{L c:Wd}{d:Nat}(hd:d ∉ c)(hT:∀x ∈ T,x.getD d 0<L.getD d 0)(h:EvF T L (d::c)):EvF T L c:=fun g g' hg hg'=>by
 rw [XO hd hT g,XO hd hT g'];congr 1
 refine BH fun v hv=>h _ _ (fun e he=> ?_) fun e he=> ?_
 . rcases AJ.mp he with rfl | hm
   . rw [AB rfl];exact BL.mp hv
   . rw [A8 (fun (z:e=d)=>hd (z ▸ hm))];exact hg e hm
 . rcases AJ.mp he with rfl | hm
   . rw [AB rfl];exact BL.mp hv
   . rw [A8 (fun (z:e=d)=>hd (z ▸ hm))];exact hg' e hm
theorem j3{T:List Wd}{c c':Wd}(hs:∀d,d ∈ c↔d ∈ c')(g:Nat->Nat):cf T c g=cf T c' g:=by
 unfold cf;congr 1
 exact KC fun x _=>IQ.mpr ⟨fun h d hd=>h d ((hs d).mpr hd),fun h d hd=>h d ((hs d).mp hd)⟩
theorem lW{T:List Wd}{L c c':Wd}(hs:∀d,d ∈ c↔d ∈ c')(h:EvF T L c):EvF T L c':=fun g g' hg hg'=>by
 rw [<-j3 hs, <-j3 hs];exact h g g' (fun d hd=>hg d ((hs d).mp hd)) fun d hd=>hg' d ((hs d).mp hd)
theorem kW{T:List Wd}{L c:Wd}:∀r:Wd,(∀d ∈ r,∀x ∈ T,x.getD d 0<L.getD d 0)->EvF T L (r++c)->EvF T L c
 | [],_,h=>h
 | d::r,hT,h=>by
  refine kW r (fun e he=>hT e (AK _ he)) ?_
  by_cases hd:d ∈ r++c
  . refine lW (fun e=> ?_) h;rw [OT,AJ];exact ⟨fun z=>by rcases z with rfl | z;exact hd;exact z, .inr⟩
  . exact qA hd (hT d AU) h
theorem ev_sub{T:List Wd}{L c c':Wd}(hs:∀d ∈ c,d ∈ c')(hT:∀d ∈ c',∀x ∈ T,x.getD d 0<L.getD d 0)(h:EvF T L c'):EvF T L c:=by
 refine kW (c'.filter fun d=>decide (d ∉ c)) (fun d hd=>hT d (EO.mp hd).1) (lW (fun d=> ?_) h);rw [AW,EO,MU]
 constructor
 . intro hd
   by_cases hc:d ∈ c
   . exact .inr hc
   . exact .inl ⟨hd,hc⟩
 . rintro (⟨hd,_⟩ | hd)
   . exact hd
   . exact hs d hd
theorem nd_len{α:Type} [DecidableEq α]:∀ {l₁ l₂:List α},l₁.Nodup->(∀a ∈ l₁,a ∈ l₂)->l₁.length<=l₂.length
 | [],_,_,_=>CK _
 | a::l₁,l₂,hn,hs=>by
  obtain ⟨h1,h2⟩:=FY.mp hn;have ha:=hs a AU;have ih:=nd_len (l₁:=l₁) (l₂:=l₂.erase a) h2 fun b hb=>(List.mem_erase_of_ne (by rintro rfl;exact h1 hb)).mpr (hs b (AK _ hb));rw [List.length_erase_of_mem ha] at ih
  have:=uK ha;rw [B4];omega
theorem nd_all{α:Type} [DecidableEq α] {l₁ l₂:List α} (hn:l₁.Nodup) (hs:∀a ∈ l₁,a ∈ l₂) (hl:l₂.length<=l₁.length):∀a ∈ l₂,a ∈ l₁:=fun a ha=>by
 refine ET fun c=> ?_
 have:=nd_len (l₁:=a::l₁) (l₂:=l₂) (FY.mpr ⟨c,hn⟩) fun b hb=>by
  rcases AJ.mp hb with rfl | hb
  . exact ha
  . exact hs b hb
 rw [B4] at this
 omega
theorem allT_mem:∀(m:Nat) (L w:Wd),L.length=m->(∀c ∈ L,0<c)->(w ∈ Tr.allT L↔OkT L w):=by
 intro m
 induction m with
 | zero=>
  intro L w hl _;have:L = []:=EA.mp hl;subst this;rw [Tr.allT_nil,A4]
  exact ⟨fun e=>by subst e;exact ⟨rfl,fun i hi=>absurd hi (AA2 _)⟩,fun h=>EA.mp h.1⟩
 | succ m ih=>
  intro L w hl hp
  obtain ⟨M,c,rfl⟩:∃M c,L=M ++ [c]:=by
   rcases DB L with h | ⟨V,u,h⟩
   . subst h;simp at hl
   . exact ⟨V,u,by simpa using h⟩
  have hM:M.length=m:=by simpa using hl
  have hc:0<c:=hp c (AD _ (A4.mpr rfl));have ihM:=fun u=>ih M u hM fun e he=>hp e (E7 _ he);rw [Tr.allT_snoc _ _ hc,LA]
  constructor
  . rintro ⟨u,hu,hw⟩;obtain ⟨s,hs,rfl⟩:=AL.mp hw;have ou:=(ihM u).mp hu;refine ⟨by rw [AZ,AZ,ou.1];rfl,fun i hi=> ?_⟩;rw [AZ,EV] at hi
    by_cases h:i<M.length
    . rw [VH (by rw [ou.1];exact h),VH h];exact ou.2 i h
    . have e:i=M.length:=by omega
      subst e;have h1:(u ++ [s]).getD M.length 0=s:=by rw [<-ou.1];simp [List.getD]
      have h2:(M ++ [c]).getD M.length 0=c:=by simp [List.getD]
      rw [h1,h2];exact BL.mp hs
  . intro hw
    obtain ⟨u,s,rfl⟩:∃u s,w=u ++ [s]:=by
     rcases DB w with h | ⟨V,u,h⟩
     . subst h;have:=hw.1;simp at this
     . exact ⟨V,u,by simpa using h⟩
    have hu:u.length=M.length:=by have:=hw.1;simpa using this
    refine ⟨u,(ihM u).mpr ⟨hu,fun i hi=> ?_⟩,AL.mpr ⟨s,BL.mpr ?_,rfl⟩⟩
    . have:=hw.2 i (by rw [AZ,EV];omega)
      rwa [VH (by rw [hu];exact hi),VH hi] at this
    . have:=hw.2 M.length (by rw [AZ,EV];omega);have h1:(u ++ [s]).getD M.length 0=s:=by rw [<-hu];simp [List.getD]
      have h2:(M ++ [c]).getD M.length 0=c:=by simp [List.getD]
      rwa [h1,h2] at this
theorem allT_nd:∀(m:Nat) (L:Wd),L.length=m->(∀c ∈ L,0<c)->(Tr.allT L).Nodup:=by
 intro m
 induction m with
 | zero=>
  intro L hl _;have:L = []:=EA.mp hl;subst this;rw [Tr.allT_nil]
  simp
 | succ m ih=>
  intro L hl hp
  obtain ⟨M,c,rfl⟩:∃M c,L=M ++ [c]:=by
   rcases DB L with h | ⟨V,u,h⟩
   . subst h;simp at hl
   . exact ⟨V,u,by simpa using h⟩
  have hM:M.length=m:=by simpa using hl
  have hc:0<c:=hp c (List.mem_append_right _ (List.mem_singleton.mpr rfl));have nM:=ih M hM fun e he=>hp e (List.mem_append_left _ he);rw [Tr.allT_snoc _ _ hc];unfold List.Nodup;rw [List.pairwise_flatMap];refine ⟨fun u _=> ?_,List.Pairwise.imp (fun {u v} huv x hx y hy e=> ?_) nM⟩
  . rw [HM];refine List.Pairwise.imp (fun {s t} h e=> ?_) (YO (n:=c));exact h (nD (List.append_cancel_left e)).1
  . obtain ⟨s,_,rfl⟩:=AL.mp hx;obtain ⟨t,_,rfl⟩:=AL.mp hy;exact huv (List.append_inj_left' e rfl)
def fst(c:Wd):Nat:=match c.getLast? with
 | none=>0
 | some l=>l+1
def nx(n:Nat)(c:Wd):List Wd:=(List.range (n - fst c)).map fun i=>c ++ [fst c+i]
def CB(n:Nat):Nat->List Wd
 | 0=> [[]]
 | j+1=>(CB n j).flatMap (nx n)
def Inc(n:Nat)(c:Wd):Prop:=c.Pairwise (· < ·)/\∀d ∈ c,d<n
theorem Inc.nodup{n:Nat}{c:Wd}(h:Inc n c):c.Nodup:=h.1.imp fun h=>BW h
theorem fst_snoc(b:Wd)(l:Nat):fst (b ++ [l])=l+1:=by unfold fst;simp
theorem w9{b:Wd}(h:b.Pairwise (· < ·)):∀d ∈ b,d<fst b:=fun d hd=>by
 rcases DB b with e | ⟨V,u,e⟩
 . subst e;cases hd
 . rw [HF] at e
   subst e;rw [fst_snoc];obtain ⟨_,_,h3⟩:=HZ.mp h;rcases AW.mp hd with hd | hd
   . have:=h3 d hd u (A4.mpr rfl);omega
   . rw [A4.mp hd];omega
theorem fst_le{b:Wd}{l:Nat}(h:∀d ∈ b,d<l):fst b<=l:=by
 rcases DB b with e | ⟨V,u,e⟩
 . subst e;exact CK _
 . rw [HF] at e
   subst e;rw [fst_snoc];exact h u (AD _ (A4.mpr rfl))
theorem mem_CB{n:Nat}:∀ {j:Nat} {c:Wd},c ∈ CB n j↔c.length=j/\Inc n c:=by
 intro j
 induction j with
 | zero=>
  intro c;rw [CB,A4]
  exact ⟨fun e=>by subst e;exact ⟨rfl,G0,fun d hd=>by cases hd⟩,fun h=>EA.mp h.1⟩
 | succ j ih=>
  intro c;rw [CB,LA]
  constructor
  . rintro ⟨b,hb,hc⟩;obtain ⟨i,hi,rfl⟩:=AL.mp hc;obtain ⟨h1,h2,h3⟩:=ih.mp hb;have hi:=BL.mp hi;refine ⟨by rw [AZ,h1];rfl,HZ.mpr ⟨h2,E8 _ _,fun a ha b' hb' => ?_⟩,fun d hd=> ?_⟩
    . rw [A4.mp hb'];have:=w9 h2 a ha;omega
    . rcases AW.mp hd with hd | hd
      . exact h3 d hd
      . rw [A4.mp hd];omega
  . rintro ⟨h1,h2,h3⟩;rcases DB c with e | ⟨b,l,e⟩
    . subst e;simp at h1
    . rw [HF] at e
      subst e;obtain ⟨p1,_,p3⟩:=HZ.mp h2;have hl:=h3 l (AD _ (A4.mpr rfl));have hf:fst b<=l:=fst_le fun d hd=>p3 d hd l (A4.mpr rfl);refine ⟨b,ih.mpr ⟨by simpa using h1,p1,fun d hd=>h3 d (E7 _ hd)⟩,AL.mpr ⟨l - fst b,BL.mpr (by omega),?_⟩⟩;rw [Nat.add_sub_cancel' hf]
theorem nx_len(n:Nat)(c:Wd):(nx n c).length<=n:=by unfold nx;rw [List.length_map,List.length_range];omega
theorem flat_le{α β:Type}{f:α->List β}{n:Nat}(h:∀a,(f a).length<=n):∀l:List α,(l.flatMap f).length<=l.length*n
 | []=>by simp
 | a::l=>by
  have:=flat_le h l;have:=h a;rw [G6,AZ,B4,K3];omega
theorem CB_len(n:Nat):∀j,(CB n j).length<=n ^ j
 | 0=>by simp [CB]
 | j+1=>by
  rw [CB,GV];exact BG (flat_le (nx_len n) _) (LK _ (CB_len n j))
end Ev
namespace Ew
open Sp Ev
theorem A83{a b t p:Nat}(ha:a<p)(hb:b<p)(h:(a+t) % p=(b+t) % p):a=b:=by
 obtain ⟨k,l,e⟩:=W5 h;have h3:a+p*k=b+p*l:=by omega
 have:=LC h3
 rwa [DL ha,DL hb] at this
theorem YR{α:Type} [DecidableEq α] {T:List α} (nd:T.Nodup) {φ:α->α} (hT:∀x ∈ T,φ x ∈ T) (inj:∀x ∈ T,∀y ∈ T,φ x=φ y->x=y):(T.map φ).Perm T:=by
 have nd':(T.map φ).Nodup:=by
  unfold List.Nodup;rw [List.pairwise_map];exact List.Pairwise.imp_of_mem (fun {a b} ha hb h e=>h (inj a ha b hb e)) nd
 have sub:∀a ∈ T.map φ,a ∈ T:=fun a ha=>by
  obtain ⟨x,hx,rfl⟩:=AL.mp ha;exact hT x hx
 exact (gW nd' nd).mpr fun a=>⟨sub a,fun ha=>nd_all nd' sub (by rw [AA];exact A9 _) a ha⟩
theorem Z4{α:Type} [DecidableEq α] {T:List α} (nd:T.Nodup) {φ:α->α} (hT:∀x ∈ T,φ x ∈ T) (inj:∀x ∈ T,∀y ∈ T,φ x=φ y->x=y) (P:α->Bool):(T.filter fun x=>P (φ x)).length=(T.filter P).length:=by
 have:=((YR nd hT inj).filter P).length_eq;rw [List.filter_map,AA] at this
 exact this
structure CutOk (p n:Nat) (U:List Sp.Wd) (x0:Sp.Wd) (T:List Sp.Wd):Prop where
 nd:T.Nodup
 mem:∀x,x ∈ T↔Ok p n x/\∀u ∈ U,dot u x % p=dot u x0 % p
theorem iS{T:List Ev.Wd}{c:Ev.Wd}{g g':Nat->Nat}(h:∀d ∈ c,g d=g' d):cf T c g=cf T c g':=by
 unfold cf;congr 1
 exact KC fun x _=>IQ.mpr ⟨fun z d hd=>(z d hd).trans (h d hd),fun z d hd=>(z d hd).trans (h d hd).symm⟩
end Ew
namespace Su
open Sp Ev Ew
theorem A35{p a b s:Nat}(hq:p=2\/p=3\/p=5\/p=7)(ha:a<p)(hb:b<p)(hs:s % p≠0):∃f,(a+f*s) % p=b:=by
 have hp:0<p:=by omega
 obtain ⟨g,k,e⟩:=inv hq (L9 s hp) hp hs;obtain ⟨q,hs'⟩:=E3 s p;obtain ⟨d,hd⟩:∃d,p=a+d:=⟨p - a,by omega⟩;rw [Nat.sub_zero] at e
 refine ⟨g*(b+d),?_⟩
 have h:a+g*(b+d)*s+p*(g*(b+d))=b+p*(1+(b+d)*k+g*(b+d)*q):=by
  generalize s % p=r at e hs'
  subst hs'
  grind
 have:=LC h
 rwa [DL hb] at this
def getW(G:List Sp.Wd)(d:Nat):Sp.Wd:=G.getD d []
def come(p:Nat)(G:List Sp.Wd)(x:Sp.Wd):Sp.Wd:=G.map fun g=>dot g x % p
theorem come_at{p:Nat}{G:List Sp.Wd}{x:Sp.Wd}{d:Nat}(h:d<G.length):(come p G x).getD d 0=dot (getW G d) x % p:=by
 unfold come getW;rw [List.getD,List.getElem?_map,List.getD,List.getElem?_eq_getElem h];rfl
theorem RF{p:Nat}{G A:List Sp.Wd}{c:Ev.Wd}(hc:∀d ∈ c,d<G.length)(g:Nat->Nat):cf (A.map (come p G)) c g=(A.filter fun x=>decide (∀d ∈ c,dot (getW G d) x % p=g d)).length:=by
 unfold cf;rw [List.filter_map,List.length_map];congr 1
 refine KC fun x _=>IQ.mpr ?_;exact ⟨fun z d hd=>by rw [<-come_at (hc d hd)];exact z d hd,fun z d hd=>by rw [come_at (hc d hd)];exact z d hd⟩
structure AllOk (p n:Nat) (A:List Sp.Wd):Prop where
 nd:A.Nodup
 mem:∀x,x ∈ A↔Ok p n x
theorem A25 {p n : Nat} (hp : 0 < p) {G A : List Sp.Wd} (hA : AllOk p n A) {c : Ev.Wd} (hc : ∀ d ∈ c, d < G.length) {t : Sp.Wd} (ht : Ok p n t) (f : Nat) {g : Nat -> Nat} (hg : ∀ d ∈ c, g d < p) :
 cf (A.map (come p G)) c g=cf (A.map (come p G)) c fun d=>(g d+f*dot (getW G d) t) % p:=by
 rw [RF hc,RF hc];have ok:∀x ∈ A,Ok p n x:=fun x hx=>(hA.mem x).mp hx;have e:=Z4 (T:=A) hA.nd (φ:=fun x=>put p x f t) (fun x hx=>(hA.mem _).mpr (put_ok hp (ok x hx).1 ht.1 f)) (fun x hx y hy h=>cX hp (ok x hx) (ok y hy) ht h) fun y=>decide (∀d ∈ c,dot (getW G d) y % p=(g d+f*dot (getW G d) t) % p);rw [<-e];congr 1
 refine KC fun x hx=>IQ.mpr ?_
 have key:∀d ∈ c,dot (getW G d) (put p x f t) % p=(g d+f*dot (getW G d) t) % p↔dot (getW G d) x % p=g d:=fun d hd=>by
  rw [PF f _ x t (by rw [(ok x hx).1,ht.1])];have:=OI (p:=p) (A:=dot (getW G d) x) (B:=dot (getW G d) x % p) (by rw [Nat.mod_mod]) (rfl:dot (getW G d) t % p=_) f;rw [this];exact ⟨fun z=>A83 (L9 _ hp) (hg d hd) z,fun z=>by rw [z]⟩
 exact ⟨fun z d hd=>(key d hd).mpr (z d hd),fun z d hd=>(key d hd).mp (z d hd)⟩
def iR(p n:Nat)(W:List Sp.Wd):Prop:=∀k w,W[k]? = some w->w ∉ IT p n (W.take k)
theorem UE(p:Nat)(M:List Sp.Wd)(w:Sp.Wd):∀F:List Nat,(mults p F M w).length=F.length*M.length
 | []=>by simp [mults]
 | f::F=>by
  have:=UE p M w F;unfold mults at this ⊢
  rw [G6,AZ,this,AA,B4,K3,WD]
theorem dY(p n:Nat)(W:List Sp.Wd)(w:Sp.Wd):IT p n (W ++ [w])=JQ p (IT p n W) w:=by
 unfold IT;rw [List.foldl_append];rfl
theorem XM{p n:Nat}(hp:2<=p):∀(m:Nat) (W:List Sp.Wd),W.length=m->0<(IT p n W).length/\(IT p n W).length<=p ^ m/\((IT p n W).length=p ^ m↔iR p n W)
 | 0,W,h=>by
  have:W = []:=aC h;subst this
  refine ⟨Nat.zero_lt_one,A9 _,fun _ k w e=>by simp at e,fun _=>rfl⟩
 | m+1,W,h=>by
  obtain ⟨V,w,rfl⟩:∃V w,W=V ++ [w]:=by
   rcases DB W with e | ⟨V,w,e⟩
   . rw [e] at h;simp at h
   . exact ⟨V,w,by rw [e,HF]⟩
  have hV:V.length=m:=by simpa using h
  obtain ⟨i0,i1,i2⟩:=XM hp m V hV;have pw:p ^ (m+1)=p*p ^ m:=by rw [GV,K5]
  have pm:0<p ^ m:=Nat.pow_pos (by omega)
  have fr:iR p n (V ++ [w])↔iR p n V/\w ∉ IT p n V:=by
   constructor
   . intro z;refine ⟨fun k u hk=> ?_,?_⟩
     . have hl:k<V.length:=(AQ.mp hk).1;have:=z k u (by rw [FV hl];exact hk)
       rwa [aD (by omega)] at this
     . have:=z V.length w (by rw [FP (A9 _)];simp)
       rwa [List.take_left] at this
   . rintro ⟨z1,z2⟩ k u hk
     by_cases hl:k<V.length
     . rw [FV hl] at hk
       rw [aD (by omega)];exact z1 k u hk
     . have hk' : k = V.length := by
        have:=(AQ.mp hk).1;simp at this
        omega
       subst hk';rw [FP (A9 _)] at hk
       simp at hk
       subst hk
       rwa [List.take_left]
  rw [dY];unfold JQ
  by_cases hw:w ∈ IT p n V
  . rw [AB hw];refine ⟨i0,?_,?_⟩
    . rw [pw];exact BG i1 (Nat.le_mul_of_pos_left _ (by omega))
    . constructor
      . intro e;have h2:2*p ^ m<=p*p ^ m:=LK _ hp;omega
      . intro z;exact absurd hw (fr.mp z).2
  . rw [A8 hw,UE,HN];refine ⟨Nat.mul_pos (by omega) i0,?_,?_⟩
    . rw [pw];exact Nat.mul_le_mul_left _ i1
    . rw [pw,fr]
      constructor
      . intro e;exact ⟨i2.mp (Nat.eq_of_mul_eq_mul_left (by omega) e),hw⟩
      . rintro ⟨z,_⟩;rw [i2.mpr z]
variable {p n:Nat} {G A:List Sp.Wd} {c:Ev.Wd}
theorem lev{m:Nat}(hc:∀d ∈ c,d<m):∀d ∈ c,(List.replicate m p).getD d 0=p:=fun d hd=>by
 rw [List.getD,GH,AB (hc d hd)];rfl
theorem getW_ok(hG:∀g ∈ G,Ok p n g){d:Nat}(h:d<G.length):Ok p n (getW G d):=by
 unfold getW;rw [List.getD,List.getElem?_eq_getElem h];exact hG _ (List.getElem_mem _)
theorem sA(hq:p=2\/p=3\/p=5\/p=7)(hG:∀g ∈ G,Ok p n g)(hA:AllOk p n A)(hc:∀d ∈ c,d<G.length)(h:iR p n (c.map (getW G))):EvF (A.map (come p G)) (List.replicate G.length p) c:=by
 have hp:0<p:=by omega
 have main:∀(r k:Nat),k+r=c.length->∀g g':Nat->Nat,(∀d ∈ c,g d<p)->(∀d ∈ c,g' d<p)->(∀d ∈ c.take k,g d=g' d)->cf (A.map (come p G)) c g=cf (A.map (come p G)) c g':=by
  intro r
  induction r with
  | zero=>
   intro k hk g g' _ _ h;rw [B6 (by omega)] at h
   exact iS h
  | succ r ih=>
   intro k hk g g' hg hg' h';have hkl:k<c.length:=by omega
   have mk:c[k] ∈ c:=F0 _;have e1:(c.map (getW G))[k]? = some (getW G c[k]):=by rw [B5,AE hkl];rfl
   have okk:=getW_ok hG (hc _ mk);have nin:=h k _ e1;rw [<-nF] at nin
   rcases A74 hq _ ((c.take k).map (getW G)) rfl (fun u hu=>by
    obtain ⟨d,hd,rfl⟩:=AL.mp hu;exact getW_ok hG (hc d (C9 hd))) _ okk with z | ⟨t,ht,t0,t1⟩
   . exact absurd z nin
   . obtain ⟨f,hf⟩:=A35 hq (hg _ mk) (hg' _ mk) t1;rw [A25 hp hA hc ht f hg];refine ih (k+1) (by omega) _ g' (fun d _=>L9 _ hp) hg' fun d hd=> ?_;rw [G7,AE hkl] at hd
     rcases AW.mp hd with hd | hd
     . have z:=t0 _ (AL.mpr ⟨d,hd,rfl⟩);have:=OI (p:=p) (A:=g d) (B:=g d) rfl (show dot (getW G d) t % p=0 % p by rw [z,MR]) f;rw [this,WH,KB,DL (hg d (C9 hd))];exact h' d hd
     . have:d=c[k]:=by simpa using hd
       subst this;exact hf
 intro g g' hg hg';exact main c.length 0 (by omega) g g' (fun d hd=>by have:=hg d hd;rwa [lev hc d hd] at this) (fun d hd=>by have:=hg' d hd;rwa [lev hc d hd] at this) fun d hd=>by simp at hd
theorem r9(hq:p=2\/p=3\/p=5\/p=7)(hG:∀g ∈ G,Ok p n g)(hA:AllOk p n A)(hn:c.Nodup)(hc:∀d ∈ c,d<G.length)(h:EvF (A.map (come p G)) (List.replicate G.length p) c):iR p n (c.map (getW G)):=by
 have hp:0<p:=by omega
 intro k w hk hw
 obtain ⟨hkl,e⟩:∃hkl:k<c.length,getW G c[k]=w:=by
  rw [B5] at hk
  obtain ⟨d,hd,e⟩:=AH.mp hk;obtain ⟨hl,hd⟩:=AQ.mp hd;exact ⟨hl,by rw [hd];exact e⟩
 have mk:c[k] ∈ c:=F0 _;rw [<-nF] at hw
 have okU:∀u ∈ (c.take k).map (getW G),Ok p n u:=fun u hu=>by
  obtain ⟨d,hd,rfl⟩:=AL.mp hu;exact getW_ok hG (hc d (C9 hd))
 have q:=h (fun _=>0) (fun d=>if d=c[k] then 1 else 0) (fun d hd=>by rw [lev hc d hd];exact hp) fun d hd=>by
  rw [lev hc d hd];show (if d=c[k] then 1 else 0)<p
  split <;> omega
 rw [RF hc,RF hc] at q
 have pos:0<(A.filter fun x=>decide (∀d ∈ c,dot (getW G d) x % p=0)).length:=uK (a:=zero n) (EO.mpr ⟨(hA.mem _).mpr (zero_ok hp n),AS fun d _=>by rw [KK,N6,MR]⟩);rw [q] at pos
 obtain ⟨x,hx⟩:=LL pos;obtain ⟨mx,hx⟩:=EO.mp hx;have hx:=AT hx;have a1:dot w x % p=dot w (zero n) % p:=T0 hq _ [zero n] okU (bC hp n) (E8 _ _) (fun u hu=> ?_) (fun m hm=>by rw [A4.mp hm,N6,N6]) w hw
 . have a2:=hx _ mk;rw [e,a1,KK,N6,AB rfl,MR] at a2
   exact absurd a2 (by decide)
 . obtain ⟨d,hd,rfl⟩:=AL.mp hu
   have hne:d≠c[k]:=by
    intro z;obtain ⟨i,hi,ei⟩:=I9.mp hd;rw [DK] at hi
    rw [List.getElem_take] at ei
    have:=n0.mp hn i k (by omega) hkl (by omega);exact this (ei.trans z)
   rw [hx d (C9 hd),A8 hne,KK,N6,MR]
theorem even_iff(hq:p=2\/p=3\/p=5\/p=7)(hG:∀g ∈ G,Ok p n g)(hA:AllOk p n A)(hn:c.Nodup)(hc:∀d ∈ c,d<G.length):EvC (A.map (come p G)) (List.replicate G.length p) c↔(spanT p n (c.map (getW G))).length=p ^ c.length:=by
 rw [<-evF_iff hn, <-(dJ (n:=n) hq (W:=c.map (getW G)) fun u hu=>by
  obtain ⟨d,hd,rfl⟩:=AL.mp hu;exact getW_ok hG (hc d hd)).length_eq]
 rw [(XM (n:=n) (show 2<=p by omega) c.length (c.map (getW G)) (by rw [AA])).2.2];exact ⟨r9 hq hG hA hn hc,sA hq hG hA hc⟩
end Su
namespace K74
noncomputable section
open PySem L2 Tf Dm
def top (i : Nat) : Stmt := PySem.Challenge.pw_trialfield_k74_whole_spun_plans.main.body.getD i (.Pass ⟨0, 0, 0, 0⟩)
structure Bl (mg:Str->Option Value):Prop where
 all:mg "all" = none
 bool:mg "bool" = none
 int:mg "int" = none
 isinstance:mg "isinstance" = none
 len:mg "len" = none
 list:mg "list" = none
 max:mg "max" = none
 min:mg "min" = none
 range:mg "range" = none
 reversed:mg "reversed" = none
 sorted:mg "sorted" = none
 sum:mg "sum" = none
 tuple:mg "tuple" = none
 zip:mg "zip" = none
abbrev cI:Stmt:=top 1
theorem gY:FnScope ["numbers","product","number"] ["numbers"] (BD cI):=⟨rfl,rfl,rfl,by decide +kernel,rfl,by decide +kernel,by decide +kernel⟩
abbrev bR:Stmt:=top 2
theorem lY:FnScope ["levels","place","steps","count"] ["levels","place"] (BD bR):=⟨rfl,rfl,rfl,by decide +kernel,rfl,by decide +kernel,by decide +kernel⟩
abbrev cR:Stmt:=top 3
theorem mU:FnScope ["levels"] ["levels"] (BD cR):=⟨rfl,rfl,rfl,by decide +kernel,rfl,by decide +kernel,by decide +kernel⟩
abbrev cU:Stmt:=top 4
theorem iK:FnScope ["trial","columns"] ["trial","columns"] (BD cU):=⟨rfl,rfl,rfl,by decide +kernel,rfl,by decide +kernel,by decide +kernel⟩
abbrev aI:Stmt:=top 5
theorem jX:FnScope ["levels","columns"] ["levels","columns"] (BD aI):=⟨rfl,rfl,rfl,by decide +kernel,rfl,by decide +kernel,by decide +kernel⟩
abbrev aL:Stmt:=top 6
theorem iN:FnScope ["plan","columns","counts","trial","choice"] ["plan","columns"] (BD aL):=⟨rfl,rfl,rfl,by decide +kernel,rfl,by decide +kernel,by decide +kernel⟩
abbrev aU:Stmt:=top 7
theorem kI:FnScope ["plan","levels","columns","counts"] ["plan","levels","columns"] (BD aU):=⟨rfl,rfl,rfl,by decide +kernel,rfl,by decide +kernel,by decide +kernel⟩
abbrev aT:Stmt:=top 8
theorem m8:FnScope ["lists","things","longer","columns","first"] ["lists","things"] (BD aT):=⟨rfl,rfl,rfl,by decide +kernel,rfl,by decide +kernel,by decide +kernel⟩
abbrev cA:Stmt:=top 9
theorem kD:FnScope ["plan","levels","t","lists","count","columns"] ["plan","levels","t"] (BD cA):=⟨rfl,rfl,rfl,by decide +kernel,rfl,by decide +kernel,by decide +kernel⟩
abbrev bP:Stmt:=top 10
theorem jR:FnScope ["columns","things","t","others"] ["columns","things","t"] (BD bP):=⟨rfl,rfl,rfl,by decide +kernel,rfl,by decide +kernel,by decide +kernel⟩
abbrev UV:Stmt:=top 11
theorem lI:FnScope ["counts","levels","place","choice"] ["counts","levels"] (BD UV):=⟨rfl,rfl,rfl,by decide +kernel,rfl,by decide +kernel,by decide +kernel⟩
abbrev U9:Stmt:=top 12
theorem jW:FnScope ["plan","levels","t","short","columns","counts","most"] ["plan","levels","t"] (BD U9):=⟨rfl,rfl,rfl,by decide +kernel,rfl,by decide +kernel,by decide +kernel⟩
abbrev cP:Stmt:=top 14
theorem mO:FnScope ["p","word","trial"] ["p","word","trial"] (BD cP):=⟨rfl,rfl,rfl,by decide +kernel,rfl,by decide +kernel,by decide +kernel⟩
abbrev aG:Stmt:=top 15
theorem iV:FnScope ["p","block_words","trial"] ["p","block_words","trial"] (BD aG):=⟨rfl,rfl,rfl,by decide +kernel,rfl,by decide +kernel,by decide +kernel⟩
abbrev bZ:Stmt:=top 17
theorem iY:FnScope ["p","generators"] ["p","generators"] (BD bZ):=⟨rfl,rfl,rfl,by decide +kernel,rfl,by decide +kernel,by decide +kernel⟩
abbrev bM:Stmt:=top 19
theorem mJ:FnScope ["_law_found"] ["_law_found"] (BD bM):=⟨rfl,rfl,rfl,by decide +kernel,rfl,by decide +kernel,by decide +kernel⟩
abbrev nS:Stmt:=top 20
theorem t8:FnScope ["_law_cell","_law_k","_law_one"] ["_law_cell","_law_k"] (BD nS):=⟨rfl,rfl,rfl,by decide +kernel,rfl,by decide +kernel,by decide +kernel⟩
abbrev rY:Stmt:=top 21
theorem sN:FnScope ["_law_cell","_law_p","_law_most"] ["_law_cell"] (BD rY):=⟨rfl,rfl,rfl,by decide +kernel,rfl,by decide +kernel,by decide +kernel⟩
abbrev bL:Stmt:=top 22
theorem iI:FnScope ["_law_cell","_law_k","_law_p","_law_n","_law_left","_law_j","_law_told","_law_number","_law_rest"] ["_law_cell","_law_k","_law_p","_law_n"] (BD bL):=⟨rfl,rfl,rfl,by decide +kernel,rfl,by decide +kernel,by decide +kernel⟩
abbrev aY:Stmt:=top 23
theorem hE:FnScope ["_law_cells","_law_p","_law_n","_law_told","_law_cell","_law_word_here","_law_last"] ["_law_cells","_law_p","_law_n"] (BD aY):=⟨rfl,rfl,rfl,by decide +kernel,rfl,by decide +kernel,by decide +kernel⟩
abbrev pL:Stmt:=top 24
theorem u5:FnScope ["_law_p","_law_word_here","_law_trial"] ["_law_p","_law_word_here","_law_trial"] (BD pL):=⟨rfl,rfl,rfl,by decide +kernel,rfl,by decide +kernel,by decide +kernel⟩
abbrev aM:Stmt:=top 25
theorem jM:FnScope ["_law_p","_law_n","_law_words_here","_law_told","_law_word_here","_law_more","_law_by","_law_one","_law_there"] ["_law_p","_law_n","_law_words_here"] (BD aM):=⟨rfl,rfl,rfl,by decide +kernel,rfl,by decide +kernel,by decide +kernel⟩
abbrev bB:Stmt:=top 26
theorem kE:FnScope ["_law_p","_law_n","_law_told","_law_k","_law_more","_law_one"] ["_law_p","_law_n"] (BD bB):=⟨rfl,rfl,rfl,by decide +kernel,rfl,by decide +kernel,by decide +kernel⟩
abbrev pZ:Stmt:=top 27
theorem tO:FnScope ["_law_found","_law_due","_law_one"] ["_law_found","_law_due"] (BD pZ):=⟨rfl,rfl,rfl,by decide +kernel,rfl,by decide +kernel,by decide +kernel⟩
abbrev r6:Stmt:=top 28
theorem sM:FnScope ["_law_some","_law_t","_law_told","_law_k"] ["_law_some","_law_t"] (BD r6):=⟨rfl,rfl,rfl,by decide +kernel,rfl,by decide +kernel,by decide +kernel⟩
abbrev rA:Stmt:=top 29
theorem sO:FnScope ["_law_p","_law_n","_law_generators","_law_handed","_law_found","_law_due","_law_t","_law_free","_law_some","_law_told"] ["_law_p","_law_n","_law_generators"] (BD rA):=⟨rfl,rfl,rfl,by decide +kernel,rfl,by decide +kernel,by decide +kernel⟩
abbrev TJ:Stmt:=top 30
theorem jJ:FnScope ["_law_script","_law_cells","_law_at","_law_head","_law_many","_law_generators","_law_p","_law_n"] ["_law_script"] (BD TJ):=⟨rfl,rfl,rfl,by decide +kernel,rfl,by decide +kernel,by decide +kernel⟩
abbrev xZ:Stmt:=top 28
abbrev oG:Stmt:=top 28
theorem tF:FnScope ["_law_some","_law_t","_law_told","_law_k"] ["_law_some","_law_t"] (BD oG):=⟨rfl,rfl,rfl,by decide +kernel,rfl,by decide +kernel,by decide +kernel⟩
abbrev rE:Stmt:=top 28
theorem sP:FnScope ["_law_some","_law_t","_law_told","_law_k"] ["_law_some","_law_t"] (BD rE):=⟨rfl,rfl,rfl,by decide +kernel,rfl,by decide +kernel,by decide +kernel⟩
abbrev oB:Stmt:=top 28
theorem tG:FnScope ["_law_some","_law_t","_law_told","_law_k"] ["_law_some","_law_t"] (BD oB):=⟨rfl,rfl,rfl,by decide +kernel,rfl,by decide +kernel,by decide +kernel⟩
section
variable {P:Program} {w:World} {K:PySem.W.Frag} {mg:Str->Option Value} {base:Heap} {f:Addr} {fd:FuncData}
def b_q26 : En -> Option Out :=
 (mSeq (mAsg 1 (mK (.int 1)))
 (mSeq (HJ (CD (mVar 0)) (gVar 2) (mAsg 1 (mBin dRep (mPk 1) (mPk 2))))
 (mRet (mPk 1))))
def MJ:List PyData->Option Sl:=FS 3 b_q26 1
theorem zA (B:Bl mg) (F:Fun K "product_of" "product_of" cI f fd):FnOk P w K mg base CX0 1 f fd ["numbers"] (spD K MJ):=by
 have sc:=gY
 exact fnD F gY rfl rfl fun cdv A outer s H E hr=>
  (AN (BQ 1 B3 sc.nd)
  (AN (FB BK (F1 (AX 0)) (DX 2 sc.nd) (B0 (BQ 1 (FW (AC 1) (AC 2)) sc.nd)))
  (B0 (IA 1))))
def b_q29 : En -> Option Out :=
 (mSeq (mAsg 2 (mLst mNil))
 (mSeq (HJ (mS (mCons (mVar 0) mNil)) (gVar 3) (mSeq (mApp 2 (mBin F3 (mPk 1) (mPk 3)))
 (mAsg 1 (mBin E2 (mPk 1) (mPk 3)))))
 (mRet (mCallP RH (mConsP (mPk 2) mNilP)))))
def TL:List PyData->Option Sl:=FS 4 b_q29 2
theorem wN (B:Bl mg) (F:Fun K "trial_at" "trial_at" bR f fd):FnOk P w K mg base CX0 1 f fd ["levels","place"] (spD K TL):=by
 have sc:=lY
 exact fnD F lY rfl rfl fun cdv A outer s H E hr=>
  (AN (BQ 2 (DH B9) sc.nd)
  (AN (FB BK (y3 B.reversed (AF (AX 0) B9)) (DX 3 sc.nd) (AN (W9 2 (F9 (AC 1) (AC 3)))
  (B0 (BQ 1 (II (AC 1) (AC 3)) sc.nd))))
  (B0 (DJ (fA B.reversed B.tuple (BF (AC 2) BX))))))
def b_q15 : En -> Option Out :=
 (mRet (mLC (E1 [some 0,none]) (IB (mConsP (mCall MJ (mCons (mVar 0) mNil)) mNilP)) (gVar 1) mYes (mCall TL (mCons (mVar 0) (mCons (mVar 1) mNil)))))
def UF:List PyData->Option Sl:=FS 1 b_q15 1
theorem w6 (B:Bl mg) (D_q26:Def P w K mg base 1 "product_of" ["numbers"] (spD K MJ)) (D_q29:Def P w K mg base 1 "trial_at" ["levels","place"] (spD K TL)) (F:Fun K "all_trials" "all_trials" cR f fd):FnOk P w K mg base CX0 2 f fd ["levels"] (spD K UF):=by
 have sc:=mU
 exact fnD F mU rfl rfl fun cdv A outer s H E hr=>
  (B0 (DJ (IH (N':= ["levels","place"]) (R':=PR K) D2 D1 [some 0,none] (E1 [some 0,none]) FA (FC B.range (BF (DE.dp (CG D_q26 hr (AF (AX 0) B9))) BX)) (fun _=>(CQ 1 (show List.Nodup (α:=Str) ["levels","place"] by decide +kernel))) (fun _=>EE) (fun _=>(CG D_q29 hr (AF (AX 0) (AF (AX 1) B9)))))))
def b_q18 : En -> Option Out :=
 (mRet (mCallP dTuple (mConsP (mLC (E1 [some 0,none]) (CD (mVar 1)) (gVar 1) mYes (mBin dix (mPk 0) (mPk 1))) mNilP)))
def WM:List PyData->Option Sl:=FS 2 b_q18 2
theorem wP (B:Bl mg) (F:Fun K "choice_of" "choice_of" cU f fd):FnOk P w K mg base CX0 1 f fd ["trial","columns"] (spD K WM):=by
 have sc:=iK
 exact fnD F iK rfl rfl fun cdv A outer s H E hr=>
  (B0 (DJ (NY G9 LQ IG B.tuple (BF (DE.dp (IH (N':= ["trial","column"]) (R':=PR K) D2 D1 [some 0,none] (E1 [some 0,none]) FA (F1 (AX 1)) (fun _=>(CQ 1 (show List.Nodup (α:=Str) ["trial","column"] by decide +kernel))) (fun _=>EE) (fun _=>(KW (AC 0) (AC 1))))) BX))))
def b_q23 : En -> Option Out :=
 (mRet (mLC (E1 [some 0,none]) (CD (mVar 1)) (gVar 1) mYes (mBin dix (mPk 0) (mPk 1))))
def MM:List PyData->Option Sl:=FS 2 b_q23 2
theorem xA (B:Bl mg) (F:Fun K "levels_in" "levels_in" aI f fd):FnOk P w K mg base CX0 1 f fd ["levels","columns"] (spD K MM):=by
 have sc:=jX
 exact fnD F jX rfl rfl fun cdv A outer s H E hr=>
  (B0 (DJ (IH (N':= ["levels","column"]) (R':=PR K) D2 D1 [some 0,none] (E1 [some 0,none]) FA (F1 (AX 1)) (fun _=>(CQ 1 (show List.Nodup (α:=Str) ["levels","column"] by decide +kernel))) (fun _=>EE) (fun _=>(KW (AC 0) (AC 1))))))
def b_q17 : En -> Option Out :=
 (mSeq (mAsg 2 mDNew)
 (mSeq (HJ (CD (mVar 0)) (gVar 3) (mSeq (mAsg 4 (mCall WM (mCons (mVar 3) (mCons (mVar 1) mNil))))
 (cJ 2 (mPk 4) (mBin dAdd (VM (mPk 2) (mPk 4) (mK (.int 0))) (mK (.int 1))))))
 (mRet (mPk 2))))
def S6:List PyData->Option Sl:=FS 5 b_q17 2
theorem yJ (B:Bl mg) (D_q18:Def P w K mg base 1 "choice_of" ["trial","columns"] (spD K WM)) (F:Fun K "choice_counts" "choice_counts" aL f fd):FnOk P w K mg base CX0 2 f fd ["plan","columns"] (spD K S6):=by
 have sc:=iN
 exact fnD F iN rfl rfl fun cdv A outer s H E hr=>
  (AN (BQ 2 pX sc.nd)
  (AN (FB BK (F1 (AX 0)) (DX 3 sc.nd) (AN (BQ 4 (CG D_q18 hr (AF (AX 3) (AF (AX 1) B9))) sc.nd)
  (B0 (oT (Y4 hr) 2 (AC 4) (CY (DE.dp (kB (Y4 hr) (AC 2) (AC 4) B3)) (DE.dp B3))))))
  (B0 (IA 2))))
def b_q22 : En -> Option Out :=
 (mSeq (mAsg 3 (mCall S6 (mCons (mVar 0) (mCons (mVar 2) mNil))))
 (mSeq (mIf (mTest (mBin dLt (mCallP dLenD (mConsP (mPk 3) mNilP)) (mCall MJ (mCons (mCall MM (mCons (mVar 1) (mCons (mVar 2) mNil))) mNil)))) (mRet (mK (.bool false))) mNext)
 (mRet (mBin deq (cK (mPk 3)) (cH (mPk 3))))))
def UB:List PyData->Option Sl:=FS 4 b_q22 3
theorem xX (B:Bl mg) (D_q17:Def P w K mg base 2 "choice_counts" ["plan","columns"] (spD K S6)) (D_q26:Def P w K mg base 1 "product_of" ["numbers"] (spD K MJ)) (D_q23:Def P w K mg base 1 "levels_in" ["levels","columns"] (spD K MM)) (F:Fun K "is_even_in" "is_even_in" aU f fd):FnOk P w K mg base CX0 3 f fd ["plan","levels","columns"] (spD K UB):=by
 have sc:=kI
 exact fnD F kI rfl rfl fun cdv A outer s H E hr=>
  (AN (BQ 3 (CG D_q17 hr (AF (AX 0) (AF (AX 2) B9))) sc.nd)
  (AN (J8 (t5 (DE.dp (F2 UA b7 GM B.len (BF (AC 3) BX))) (DE.dp (CG D_q26 hr (AF (CG D_q23 hr (AF (AX 1) (AF (AX 2) B9))) B9)))) (B0 (DJ IZ)) FG)
  (B0 (DJ (kY hr.units (DE.dp (rF B.min (AC 3))) (DE.dp (p6 B.max (AC 3))))))))
def b_q24 : En -> Option Out :=
 (mSeq (mAsg 2 (mLst mNil))
 (mSeq (HJ (CD (mVar 0)) (gVar 3) (mSeq (mAsg 4 (mIfE (QQ (mPk 3)) (mBin dAdd (mBin dix (mPk 3) (mUn (iun fun i=> -i) (mK (.int 1)))) (mK (.int 1))) (mK (.int 0))))
 (gA 2 (mLC (E1 [some 3,none]) (NV (mConsP (mPk 4) (mConsP (mPk 1) mNilP))) (gVar 1) mYes (mBin dAdd (mPk 0) (mLst (mCons (mVar 1) mNil)))))))
 (mRet (mPk 2))))
def YB:List PyData->Option Sl:=FS 5 b_q24 2
theorem xN (B:Bl mg) (F:Fun K "longer_lists" "longer_lists" aT f fd):FnOk P w K mg base CX0 1 f fd ["lists","things"] (spD K YB):=by
 have sc:=m8
 exact fnD F m8 rfl rfl fun cdv A outer s H E hr=>
  (AN (BQ 2 (DH B9) sc.nd)
  (AN (FB BK (F1 (AX 0)) (DX 3 sc.nd) (AN (BQ 4 (yQ (qI (AC 3)) (CY (DE.dp (KW (AC 3) (DE.dp (v9 (DE.dp B3))))) (DE.dp B3)) B3) sc.nd)
  (B0 (wQ 2 (IH (N':= ["columns","thing"]) (R':=PR K) D2 D1 [some 3,none] (E1 [some 3,none]) FA (QH B.range (BF (AC 4) (BF (AC 1) BX))) (fun _=>(CQ 1 (show List.Nodup (α:=Str) ["columns","thing"] by decide +kernel))) (fun _=>EE) (fun _=>(CY (AC 0) (DE.dp (DH (AF (AX 1) B9))))))))))
  (B0 (IA 2))))
def b_q30 : En -> Option Out :=
 (mSeq (mAsg 3 (mLst (mCons (mLst mNil) mNil)))
 (mSeq (HJ (IB (mConsP (mPk 2) mNilP)) (gVar 4) (mSeq (mFrz 3 (mAsg 3 (mCall YB (mCons (mVar 3) (mCons (mCallP dLen (mConsP (mPk 1) mNilP)) mNil)))))
 (mFrz 3 (HJ (CD (mVar 3)) (gVar 5) (mIf (mNot (mTest (mCall UB (mCons (mVar 0) (mCons (mVar 1) (mCons (mVar 5) mNil)))))) (mRet (mPk 5)) mNext)))))
 (mRet (mK .none))))
def WW:List PyData->Option Sl:=FS 6 b_q30 3
theorem vG (B:Bl mg) (D_q24:Def P w K mg base 1 "longer_lists" ["lists","things"] (spD K YB)) (D_q22:Def P w K mg base 3 "is_even_in" ["plan","levels","columns"] (spD K UB)) (F:Fun K "uneven_columns" "uneven_columns" cA f fd):FnOk P w K mg base CX0 4 f fd ["plan","levels","t"] (spD K WW):=by
 have sc:=kD
 exact fnD F kD rfl rfl fun cdv A outer s H E hr=>
  (AN (BQ 3 (DH (AF (DH B9) B9)) sc.nd)
  (AN (FB BK (FC B.range (BF (AC 2) BX)) (DX 4 sc.nd) (AN (F8 3 (BQ 3 (CG D_q24 hr (AF (AX 3) (AF (F2 CT HI GM B.len (BF (AC 1) BX)) B9))) sc.nd))
  (B0 (F8 3 (FB BK (F1 (AX 3)) (DX 5 sc.nd) (B0 (J8 (OE (OL (DE.dp (CG D_q22 hr (AF (AX 0) (AF (AX 1) (AF (AX 5) B9))))))) (B0 (IA 5)) FG)))))))
  (B0 (DJ cW))))
def b_q21 : En -> Option Out :=
 (mSeq (mAsg 3 (mLC (E1 [some 0,none]) (IB (mConsP (mPk 1) mNilP)) (gVar 1) (mTest (mBin (W8 true) (mPk 1) (mPk 0))) (mVar 1)))
 (mRet (mCallP dSorted (mConsP (mBin dAdd (mPk 0) (mSl (mPk 3) mNoPart (mPart (mBin dSub (mPk 2) (mCallP dLen (mConsP (mPk 0) mNilP)))))) mNilP))))
def XL:List PyData->Option Sl:=FS 4 b_q21 3
theorem xJ (B:Bl mg) (F:Fun K "filled_up" "filled_up" bP f fd):FnOk P w K mg base CX0 1 f fd ["columns","things","t"] (spD K XL):=by
 have sc:=jR
 exact fnD F jR rfl rfl fun cdv A outer s H E hr=>
  (AN (VJ (N':= ["columns","thing"]) (R':=PR K) D2 D1 3 [some 0,none] (E1 [some 0,none]) FA sc.nd (FC B.range (BF (AC 1) BX)) (fun _=>(CQ 1 (show List.Nodup (α:=Str) ["columns","thing"] by decide +kernel))) (fun _=>(p8 (UR hr.units (AC 1) (AC 0)))) (fun _=>(AX 1)))
  (B0 (DJ (F2 YE fP US B.sorted (BF (DE.dp (CY (AC 0) (DE.dp (QR (AC 3) M8 (JW (DE.dp (QB (AC 2) (DE.dp (F2 CT HI GM B.len (BF (AC 0) BX)))))))))) BX)))))
def b_q27 : En -> Option Out :=
 (mSeq (HJ (IB (mConsP (mCallP dMin2 (mConsP (mBin dAdd (mCallP dLenD (mConsP (mPk 0) mNilP)) (mK (.int 1))) (mConsP (mCall MJ (mCons (mVar 1) mNil)) mNilP))) mNilP)) (gVar 2) (mSeq (mAsg 3 (mCall TL (mCons (mVar 1) (mCons (mVar 2) mNil))))
 (mIf (mTest (mBin (lZ true) (mPk 3) (mPk 0))) (mRet (mPk 3)) mNext)))
 (mRet (JU N9 0 (mBin NU (mPk 1) (mPk 0)) (mPk 0))))
def TF:List PyData->Option Sl:=FS 4 b_q27 2
theorem v5 (B:Bl mg) (D_q26:Def P w K mg base 1 "product_of" ["numbers"] (spD K MJ)) (D_q29:Def P w K mg base 1 "trial_at" ["levels","place"] (spD K TL)) {cL PL:Addr} (hcd:fd.code = .ref cL) (CL:PySem.W.CodeHd base cL PL) (hpL:PL ∈ IW K) (bm:BM base mg) (F:Fun K "rarest_choice" "rarest_choice" UV f fd):FnOk P w K mg base CX0 3 f fd ["counts","levels"] (spD K TF):=by
 have sc:=lI
 exact A27 F hcd lI rfl rfl fun A outer s H E hr=>
  (AN (FB BK (FC B.range (BF (DE.dp (F2 (UP rfl) bD VI B.min (BF (DE.dp (CY (DE.dp (F2 UA b7 GM B.len (BF (AC 0) BX))) (DE.dp B3))) (BF (DE.dp (CG D_q26 hr (AF (AX 1) B9))) BX)))) BX)) (DX 2 sc.nd) (AN (BQ 3 (CG D_q29 hr (AF (AX 1) (AF (AX 2) B9))) sc.nd)
  (B0 (J8 (fQ (Y4 hr) (AC 3) (AC 0)) (B0 (IA 3)) FG))))
  (B0 (DJ (dA rfl CL hpL bm hr B.min (PZ rfl) (AC 0) (fun _ _ hr=>(cG (Y4 hr) (AC 1) (AC 0)))))))
def b_q20 : En -> Option Out :=
 (mSeq (mAsg 3 (mCall WW (mCons (mVar 0) (mCons (mVar 1) (mCons (mVar 2) mNil)))))
 (mSeq (mIf (mTest (mBin disN (mPk 3) (mK .none))) (mRet (mTup (mCons (mK (.str "even")) mNil))) mNext)
 (mSeq (mFrz 3 (mAsg 4 (mCall XL (mCons (mVar 3) (mCons (mCallP dLen (mConsP (mPk 1) mNilP)) (mCons (mVar 2) mNil))))))
 (mSeq (mFrz 4 (mAsg 5 (mCall S6 (mCons (mVar 0) (mCons (mVar 4) mNil)))))
 (mSeq (cS 5 (mAsg 6 (JU OH 5 (mBin NU (mPk 1) (mPk 0)) (mPk 5))))
 (mFrz 6 (mFrz 5 (mFrz 4 (mRet (mTup (mCons (mK (.str "uneven")) (mCons (mVar 4) (mCons (mVar 6) (mCons (mCall TF (mCons (mVar 5) (mCons (mCall MM (mCons (mVar 1) (mCons (mVar 4) mNil))) mNil))) mNil))))))))))))))
def Y8:List PyData->Option Sl:=FS 7 b_q20 3
theorem yM (B:Bl mg) (D_q30:Def P w K mg base 4 "uneven_columns" ["plan","levels","t"] (spD K WW)) (D_q21:Def P w K mg base 1 "filled_up" ["columns","things","t"] (spD K XL)) (D_q17:Def P w K mg base 2 "choice_counts" ["plan","columns"] (spD K S6)) (D_q27:Def P w K mg base 3 "rarest_choice" ["counts","levels"] (spD K TF)) (D_q23:Def P w K mg base 1 "levels_in" ["levels","columns"] (spD K MM)) {cL PL:Addr} (hcd:fd.code = .ref cL) (CL:PySem.W.CodeHd base cL PL) (hpL:PL ∈ IW K) (bm:BM base mg) (F:Fun K "even_to" "even_to" U9 f fd):FnOk P w K mg base CX0 5 f fd ["plan","levels","t"] (spD K Y8):=by
 have sc:=jW
 exact A27 F hcd jW rfl rfl fun A outer s H E hr=>
  (AN (BQ 3 (CG D_q30 hr (AF (AX 0) (AF (AX 1) (AF (AX 2) B9)))) sc.nd)
  (AN (J8 (yS (AC 3) (DE.dp cW)) (B0 (DJ (OB (AF Z9 B9)))) FG)
  (AN (F8 3 (BQ 4 (CG D_q21 hr (AF (AX 3) (AF (F2 CT HI GM B.len (BF (AC 1) BX)) (AF (AX 2) B9)))) sc.nd))
  (AN (F8 4 (BQ 5 (CG D_q17 hr (AF (AX 0) (AF (AX 4) B9))) sc.nd))
  (AN (p9 5 (BQ 6 (dG rfl CL hpL bm hr B.max (PZ rfl) (AC 5) (fun _ _ hr=>(cG (Y4 hr) (AC 1) (AC 0)))) sc.nd))
  (B0 (F8 6 (F8 5 (F8 4 (DJ (OB (AF Z9 (AF (AX 4) (AF (AX 6) (AF (CG D_q27 hr (AF (AX 5) (AF (CG D_q23 hr (AF (AX 1) (AF (AX 4) B9))) B9))) B9)))))))))))))))
def b_q19 : En -> Option Out :=
 (mRet (mBin F3 (mCallP dSum (mConsP (mLC (E1 [none,none]) (SG (mCons (mVar 1) (mCons (mVar 2) mNil))) (gTupD [(gVar 0),(gVar 1)]) mYes (mBin dRep (mPk 0) (mPk 1))) mNilP)) (mPk 0)))
def YL:List PyData->Option Sl:=FS 3 b_q19 3
theorem xY (B:Bl mg) (F:Fun K "comes_to" "comes_to" cP f fd):FnOk P w K mg base CX0 1 f fd ["p","word","trial"] (spD K YL):=by
 have sc:=mO
 exact fnD F mO rfl rfl fun cdv A outer s H E hr=>
  (B0 (DJ (F9 (DE.dp (F2 (YG rfl) kZ lR B.sum (BF (DE.dp (IH (N':= ["rest","step"]) (R':=PR K) D2 D1 [none,none] (E1 [none,none]) FA (qD B.zip (AF (AX 1) (AF (AX 2) B9))) (fun _=>(R7 (HQ (CQ 0 (show List.Nodup (α:=Str) ["rest","step"] by decide +kernel)) (HQ (CQ 1 (show List.Nodup (α:=Str) ["rest","step"] by decide +kernel)) OW)))) (fun _=>EE) (fun _=>(FW (AC 0) (AC 1))))) BX))) (AC 0))))
def b_q16 : En -> Option Out :=
 (mRet (mCallP dTuple (mConsP (mLC (E1 [some 0,some 2,none]) (CD (mVar 1)) (gVar 2) mYes (mCall YL (mCons (mVar 0) (mCons (mVar 2) (mCons (mVar 1) mNil))))) mNilP)))
def YD:List PyData->Option Sl:=FS 3 b_q16 3
theorem y4 (B:Bl mg) (D_q19:Def P w K mg base 1 "comes_to" ["p","word","trial"] (spD K YL)) (F:Fun K "block_of" "block_of" aG f fd):FnOk P w K mg base CX0 2 f fd ["p","block_words","trial"] (spD K YD):=by
 have sc:=iV
 exact fnD F iV rfl rfl fun cdv A outer s H E hr=>
  (B0 (DJ (NY G9 LQ IG B.tuple (BF (DE.dp (IH (N':= ["p","trial","word"]) (R':=PR K) D2 D1 [some 0,some 2,none] (E1 [some 0,some 2,none]) FA (F1 (AX 1)) (fun _=>(CQ 2 (show List.Nodup (α:=Str) ["p","trial","word"] by decide +kernel))) (fun _=>EE) (fun _=>(CG D_q19 hr (AF (AX 0) (AF (AX 2) (AF (AX 1) B9))))))) BX))))
def b_q28 : En -> Option Out :=
 (mRet (mLC (E1 [some 0,some 1,none]) (CD (mCall UF (mCons (mBin dRep (mLst (mCons (mVar 0) mNil)) (mCallP dLen (mConsP (mBin dix (mPk 1) (mK (.int 0))) mNilP))) mNil))) (gVar 2) mYes (mCall YD (mCons (mVar 0) (mCons (mVar 1) (mCons (mVar 2) mNil))))))
def XV:List PyData->Option Sl:=FS 2 b_q28 2
theorem yE (B:Bl mg) (D_q15:Def P w K mg base 2 "all_trials" ["levels"] (spD K UF)) (D_q16:Def P w K mg base 2 "block_of" ["p","block_words","trial"] (spD K YD)) (F:Fun K "spun" "spun" bZ f fd):FnOk P w K mg base CX0 3 f fd ["p","generators"] (spD K XV):=by
 have sc:=iY
 exact fnD F iY rfl rfl fun cdv A outer s H E hr=>
  (B0 (DJ (IH (N':= ["p","generators","rests"]) (R':=PR K) D2 D1 [some 0,some 1,none] (E1 [some 0,some 1,none]) FA (F1 (CG D_q15 hr (AF (FW (DE.dp (DH (AF (AX 0) B9))) (DE.dp (F2 CT HI GM B.len (BF (DE.dp (KW (AC 1) (DE.dp B3))) BX)))) B9))) (fun _=>(CQ 2 (show List.Nodup (α:=Str) ["p","generators","rests"] by decide +kernel))) (fun _=>EE) (fun _=>(CG D_q16 hr (AF (AX 0) (AF (AX 1) (AF (AX 2) B9))))))))
def b_q12 : En -> Option Out :=
 (mRet (mAndV (mIsi "int" (mPk 0)) (mNotV (mIsi "bool" (mPk 0)))))
def X6:List PyData->Option Sl:=FS 1 b_q12 1
theorem xF (B:Bl mg) (F:Fun K "_law_whole" "_law_whole" bM f fd):FnOk P w K mg base CX0 1 f fd ["_law_found"] (spD K X6):=by
 have sc:=mJ
 exact fnD F mJ rfl rfl fun cdv A outer s H E hr=>
  (B0 (DJ (wK (SF mP B.int B.isinstance (AC 0)) (oO (v6 (SF qW B.bool B.isinstance (AC 0)))))))
def b_q7 : En -> Option Out :=
 (mSeq (mAsg 2 (mBin F3 (mBin dRep (mBin dAdd (mBin dAdd (mBin F3 (mPk 0) (mK (.int 2147483647))) (mBin dRep (mBin dRep (mK (.int 40503)) (mPk 1)) (mPk 1))) (mBin dRep (mK (.int 17)) (mPk 1))) (mK (.int 48271))) (mK (.int 2147483647))))
 (mRet (mBin F3 (mBin dRep (mPk 2) (mBin dAdd (mBin dAdd (mBin F3 (mPk 2) (mK (.int 65537))) (mBin dRep (mK (.int 3)) (mPk 1))) (mK (.int 1)))) (mK (.int 2147483629)))))
def dI:List PyData->Option Sl:=FS 3 b_q7 2
theorem A14 (B:Bl mg) (F:Fun K "_law_mixed" "_law_mixed" nS f fd):FnOk P w K mg base CX0 1 f fd ["_law_cell","_law_k"] (spD K dI):=by
 have sc:=t8
 exact fnD F t8 rfl rfl fun cdv A outer s H E hr=>
  (AN (BQ 2 (F9 (DE.dp (FW (DE.dp (CY (DE.dp (CY (DE.dp (F9 (AC 0) (DE.dp B3))) (DE.dp (FW (DE.dp (FW (DE.dp B3) (AC 1))) (AC 1))))) (DE.dp (FW (DE.dp B3) (AC 1))))) (DE.dp B3))) (DE.dp B3)) sc.nd)
  (B0 (DJ (F9 (DE.dp (FW (AC 2) (DE.dp (CY (DE.dp (CY (DE.dp (F9 (AC 2) (DE.dp B3))) (DE.dp (FW (DE.dp B3) (AC 1))))) (DE.dp B3))))) (DE.dp B3)))))
def b_q9 : En -> Option Out :=
 (mSeq (mAsg 1 (mBin dix (mLst (mCons (mK (.int 2)) (mCons (mK (.int 3)) (mCons (mK (.int 5)) (mCons (mK (.int 7)) (mCons (mK (.int 2)) (mCons (mK (.int 3)) (mCons (mK (.int 2)) mNil)))))))) (mBin F3 (mPk 0) (mK (.int 7)))))
 (mSeq (mAsg 2 (mBin dix (mLst (mCons (mK (.int 0)) (mCons (mK (.int 0)) (mCons (mK (.int 6)) (mCons (mK (.int 4)) (mCons (mK (.int 0)) (mCons (mK (.int 3)) (mCons (mK (.int 0)) (mCons (mK (.int 2)) mNil))))))))) (mPk 1)))
 (mFrz 1 (mRet (mTup (mCons (mVar 1) (mCons (mBin dAdd (mK (.int 1)) (mBin F3 (mBin E2 (mPk 0) (mK (.int 7))) (mPk 2))) mNil)))))))
def kK:List PyData->Option Sl:=FS 3 b_q9 1
theorem A40 (B:Bl mg) (F:Fun K "_law_size" "_law_size" rY f fd):FnOk P w K mg base CX0 1 f fd ["_law_cell"] (spD K kK):=by
 have sc:=sN
 exact fnD F sN rfl rfl fun cdv A outer s H E hr=>
  (AN (BQ 1 (KW (DE.dp (DH (AF B3 (AF B3 (AF B3 (AF B3 (AF B3 (AF B3 (AF B3 B9))))))))) (DE.dp (F9 (AC 0) (DE.dp B3)))) sc.nd)
  (AN (BQ 2 (KW (DE.dp (DH (AF B3 (AF B3 (AF B3 (AF B3 (AF B3 (AF B3 (AF B3 (AF B3 B9)))))))))) (AC 1)) sc.nd)
  (B0 (F8 1 (DJ (OB (AF (AX 1) (AF (CY (DE.dp B3) (DE.dp (F9 (DE.dp (II (AC 0) (DE.dp B3))) (AC 2)))) B9))))))))
def b_q13 : En -> Option Out :=
 (mSeq (mAsg 4 (mBin E2 (mPk 0) (mK (.int 2))))
 (mSeq (HJ (IB (mConsP (mBin dRep (mBin F3 (mPk 1) (mK (.int 10))) (mPk 3)) mNilP)) (gVar 5) (mAsg 4 (mBin E2 (mPk 4) (mPk 2))))
 (mSeq (mAsg 6 (mLst mNil))
 (mSeq (HJ (IB (mConsP (mPk 3) mNilP)) (gVar 5) (mSeq (mAsg 7 (mCall dI (mCons (mVar 0) (mCons (mBin dAdd (mBin dRep (mK (.int 10)) (mPk 1)) (mPk 5)) mNil))))
 (mSeq (mAsg 8 (mBin dRep (mBin F3 (mBin E2 (mPk 7) (mK (.int 2))) (mPk 2)) (mCallP dInt (mConsP (mBin dGt (mBin dAdd (mBin F3 (mPk 7) (mK (.int 2))) (mBin F3 (mBin E2 (mPk 0) (mK (.int 11))) (mK (.int 2)))) (mK (.int 0))) mNilP))))
 (mSeq (mIf (mTest (mBin deq (mBin F3 (mPk 0) (mK (.int 2))) (mK (.int 1)))) (mSeq (mAsg 8 (mBin F3 (mPk 4) (mPk 2)))
 (mAsg 4 (mBin E2 (mPk 4) (mPk 2)))) mNext)
 (mFrz 8 (mApp 6 (mVar 8)))))))
 (mRet (mCallP dTuple (mConsP (mPk 6) mNilP)))))))
def WQ:List PyData->Option Sl:=FS 9 b_q13 4
theorem yT (B:Bl mg) (D_q7:Def P w K mg base 1 "_law_mixed" ["_law_cell","_law_k"] (spD K dI)) (F:Fun K "_law_word" "_law_word" bL f fd):FnOk P w K mg base CX0 2 f fd ["_law_cell","_law_k","_law_p","_law_n"] (spD K WQ):=by
 have sc:=iI
 exact fnD F iI rfl rfl fun cdv A outer s H E hr=>
  (AN (BQ 4 (II (AC 0) (DE.dp B3)) sc.nd)
  (AN (FB BK (FC B.range (BF (DE.dp (FW (DE.dp (F9 (AC 1) (DE.dp B3))) (AC 3))) BX)) (DX 5 sc.nd) (B0 (BQ 4 (II (AC 4) (AC 2)) sc.nd)))
  (AN (BQ 6 (DH B9) sc.nd)
  (AN (FB BK (FC B.range (BF (AC 3) BX)) (DX 5 sc.nd) (AN (BQ 7 (CG D_q7 hr (AF (AX 0) (AF (CY (DE.dp (FW (DE.dp B3) (AC 1))) (AC 5)) B9))) sc.nd)
  (AN (BQ 8 (FW (DE.dp (F9 (DE.dp (II (AC 7) (DE.dp B3))) (AC 2))) (DE.dp (NY fC wC mP B.int (BF (DE.dp (A05 (DE.dp (CY (DE.dp (F9 (AC 7) (DE.dp B3))) (DE.dp (F9 (DE.dp (II (AC 0) (DE.dp B3))) (DE.dp B3))))) (DE.dp B3))) BX)))) sc.nd)
  (AN (J8 (S4 hr.units (DE.dp (F9 (AC 0) (DE.dp B3))) (DE.dp B3)) (AN (BQ 8 (F9 (AC 4) (AC 2)) sc.nd)
  (B0 (BQ 4 (II (AC 4) (AC 2)) sc.nd))) FG)
  (B0 (F8 8 (W9 6 (AX 8))))))))
  (B0 (DJ (NY G9 LQ IG B.tuple (BF (AC 6) BX))))))))
def b_q14 : En -> Option Out :=
 (mSeq (mAsg 3 (mLst mNil))
 (mSeq (HJ (CD (mVar 0)) (gVar 4) (mSeq (mAsg 5 (mCall WQ (mCons (mVar 4) (mCons (mK (.int 1)) (mCons (mVar 1) (mCons (mVar 2) mNil))))))
 (mSeq (mIf (mAnd (mTest (mBin deq (mBin F3 (mPk 4) (mK (.int 2))) (mK (.int 0)))) (mAnd (mTest (mBin dGt (mCallP dLen (mConsP (mPk 3) mNilP)) (mK (.int 0)))) (mTest (mBin deq (mBin F3 (mBin E2 (mPk 4) (mK (.int 5))) (mK (.int 4))) (mK (.int 0)))))) (mSeq (mAsg 6 (mBin dix (mPk 3) (mBin dSub (mCallP dLen (mConsP (mPk 3) mNilP)) (mK (.int 1)))))
 (mFrz 6 (mAsg 5 (mCallP dTuple (mConsP (mLC (E1 [some 4,some 1,none,none]) (KR (mCons (mVar 6) (mCons (mBin dix (mPk 3) (mK (.int 0))) mNil))) (gTupD [(gVar 2),(gVar 3)]) mYes (mBin F3 (mBin dAdd (mBin dRep (mPk 2) (mBin dAdd (mK (.int 1)) (mBin F3 (mPk 0) (mPk 1)))) (mBin dRep (mPk 3) (mBin F3 (mBin E2 (mPk 0) (mK (.int 7))) (mK (.int 2))))) (mPk 1))) mNilP))))) mNext)
 (mFrz 5 (mApp 3 (mVar 5))))))
 (mRet (mPk 3))))
def RY:List PyData->Option Sl:=FS 7 b_q14 3
theorem uV (B:Bl mg) (D_q13:Def P w K mg base 2 "_law_word" ["_law_cell","_law_k","_law_p","_law_n"] (spD K WQ)) (F:Fun K "_law_words" "_law_words" aY f fd):FnOk P w K mg base CX0 3 f fd ["_law_cells","_law_p","_law_n"] (spD K RY):=by
 have sc:=hE
 exact fnD F hE rfl rfl fun cdv A outer s H E hr=>
  (AN (BQ 3 (DH B9) sc.nd)
  (AN (FB BK (F1 (AX 0)) (DX 4 sc.nd) (AN (BQ 5 (CG D_q13 hr (AF (AX 4) (AF B3 (AF (AX 1) (AF (AX 2) B9))))) sc.nd)
  (AN (J8 (mI (lA (S4 hr.units (DE.dp (F9 (AC 4) (DE.dp B3))) (DE.dp B3)) (lA (A33 (DE.dp (F2 CT HI GM B.len (BF (AC 3) BX))) (DE.dp B3)) (qP (S4 hr.units (DE.dp (F9 (DE.dp (II (AC 4) (DE.dp B3))) (DE.dp B3))) (DE.dp B3)))))) (AN (BQ 6 (KW (AC 3) (DE.dp (QB (DE.dp (F2 CT HI GM B.len (BF (AC 3) BX))) (DE.dp B3)))) sc.nd)
  (B0 (F8 6 (BQ 5 (NY G9 LQ IG B.tuple (BF (DE.dp (IH (N':= ["_law_cell","_law_p","_law_x","_law_y"]) (R':=PR K) D2 D1 [some 4,some 1,none,none] (E1 [some 4,some 1,none,none]) FA (VU B.zip (AF (AX 6) (AF (KW (AC 3) (DE.dp B3)) B9))) (fun _=>(R7 (HQ (CQ 2 (show List.Nodup (α:=Str) ["_law_cell","_law_p","_law_x","_law_y"] by decide +kernel)) (HQ (CQ 3 (show List.Nodup (α:=Str) ["_law_cell","_law_p","_law_x","_law_y"] by decide +kernel)) OW)))) (fun _=>EE) (fun _=>(F9 (DE.dp (CY (DE.dp (FW (AC 2) (DE.dp (CY (DE.dp B3) (DE.dp (F9 (AC 0) (AC 1))))))) (DE.dp (FW (AC 3) (DE.dp (F9 (DE.dp (II (AC 0) (DE.dp B3))) (DE.dp B3))))))) (AC 1))))) BX)) sc.nd)))) FG)
  (B0 (F8 5 (W9 3 (AX 5)))))))
  (B0 (IA 3))))
def b_q5 : En -> Option Out :=
 (mRet (mBin F3 (mCallP dSum (mConsP (mLC (E1 [none,none]) (KR (mCons (mVar 1) (mCons (mVar 2) mNil))) (gTupD [(gVar 0),(gVar 1)]) mYes (mBin dRep (mPk 0) (mPk 1))) mNilP)) (mPk 0)))
def kO:List PyData->Option Sl:=FS 3 b_q5 3
theorem A51 (B:Bl mg) (F:Fun K "_law_come" "_law_come" pL f fd):FnOk P w K mg base CX0 1 f fd ["_law_p","_law_word_here","_law_trial"] (spD K kO):=by
 have sc:=u5
 exact fnD F u5 rfl rfl fun cdv A outer s H E hr=>
  (B0 (DJ (F9 (DE.dp (F2 (YG rfl) kZ lR B.sum (BF (DE.dp (IH (N':= ["_law_x","_law_y"]) (R':=PR K) D2 D1 [none,none] (E1 [none,none]) FA (VU B.zip (AF (AX 1) (AF (AX 2) B9))) (fun _=>(R7 (HQ (CQ 0 (show List.Nodup (α:=Str) ["_law_x","_law_y"] by decide +kernel)) (HQ (CQ 1 (show List.Nodup (α:=Str) ["_law_x","_law_y"] by decide +kernel)) OW)))) (fun _=>EE) (fun _=>(FW (AC 0) (AC 1))))) BX))) (AC 0))))
def b_q10 : En -> Option Out :=
 (mSeq (mAsg 3 (mLst (mCons (mBin dRepT (mTup (mCons (mK (.int 0)) mNil)) (mPk 1)) mNil)))
 (mSeq (HJ (CD (mVar 2)) (gVar 4) (mSeq (mAsg 5 (mCallP dList (mConsP (mPk 3) mNilP)))
 (mSeq (HJ (NV (mConsP (mK (.int 1)) (mConsP (mPk 0) mNilP))) (gVar 6) (mFrz 3 (HJ (CD (mVar 3)) (gVar 7) (mSeq (mAsg 8 (mCallP dTuple (mConsP (mLC (E1 [some 6,some 0,none,none]) (KR (mCons (mVar 7) (mCons (mVar 4) mNil))) (gTupD [(gVar 2),(gVar 3)]) mYes (mBin F3 (mBin dAdd (mPk 2) (mBin dRep (mPk 0) (mPk 3))) (mPk 1))) mNilP)))
 (mIf (mTest (mBin (W8 true) (mPk 8) (mPk 5))) (mFrz 8 (mApp 5 (mVar 8))) mNext)))))
 (mFrz 5 (mAsg 3 (mVar 5))))))
 (mRet (mCallP dSortT (mConsP (mPk 3) mNilP)))))
def UT:List PyData->Option Sl:=FS 9 b_q10 3
theorem vH (B:Bl mg) (F:Fun K "_law_span" "_law_span" aM f fd):FnOk P w K mg base CX0 1 f fd ["_law_p","_law_n","_law_words_here"] (spD K UT):=by
 have sc:=jM
 exact fnD F jM rfl rfl fun cdv A outer s H E hr=>
  (AN (BQ 3 (DH (AF (oM (DE.dp (OB (AF B3 B9))) (AC 1)) B9)) sc.nd)
  (AN (FB BK (F1 (AX 2)) (DX 4 sc.nd) (AN (BQ 5 (NY MD VO RC B.list (BF (AC 3) BX)) sc.nd)
  (AN (FB BK (QH B.range (BF (DE.dp B3) (BF (AC 0) BX))) (DX 6 sc.nd) (B0 (F8 3 (FB BK (F1 (AX 3)) (DX 7 sc.nd) (AN (BQ 8 (NY G9 LQ IG B.tuple (BF (DE.dp (IH (N':= ["_law_by","_law_p","_law_x","_law_y"]) (R':=PR K) D2 D1 [some 6,some 0,none,none] (E1 [some 6,some 0,none,none]) FA (VU B.zip (AF (AX 7) (AF (AX 4) B9))) (fun _=>(R7 (HQ (CQ 2 (show List.Nodup (α:=Str) ["_law_by","_law_p","_law_x","_law_y"] by decide +kernel)) (HQ (CQ 3 (show List.Nodup (α:=Str) ["_law_by","_law_p","_law_x","_law_y"] by decide +kernel)) OW)))) (fun _=>EE) (fun _=>(F9 (DE.dp (CY (AC 2) (DE.dp (FW (AC 0) (AC 3))))) (AC 1))))) BX)) sc.nd)
  (B0 (J8 (UR hr.units (AC 8) (AC 5)) (B0 (F8 8 (W9 5 (AX 8)))) FG)))))))
  (B0 (F8 5 (BQ 3 (AX 5) sc.nd))))))
  (B0 (DJ (F2 VZ lO US B.sorted (BF (AC 3) BX))))))
def b_q11 : En -> Option Out :=
 (mSeq (mAsg 2 (mLst (mCons (mTup mNil) mNil)))
 (mSeq (HJ (IB (mConsP (mPk 1) mNilP)) (gVar 3) (mSeq (mAsg 4 (mLst mNil))
 (mSeq (mFrz 2 (HJ (CD (mVar 2)) (gVar 5) (mAsg 4 (mBin dAdd (mPk 4) (mLC (E1 [some 5,none]) (IB (mConsP (mPk 0) mNilP)) (gVar 1) mYes (mBin dAdd (mPk 0) (mTup (mCons (mVar 1) mNil))))))))
 (mFrz 4 (mAsg 2 (mVar 4))))))
 (mRet (mPk 2))))
def UL:List PyData->Option Sl:=FS 6 b_q11 2
theorem vO (B:Bl mg) (F:Fun K "_law_trials" "_law_trials" bB f fd):FnOk P w K mg base CX0 1 f fd ["_law_p","_law_n"] (spD K UL):=by
 have sc:=kE
 exact fnD F kE rfl rfl fun cdv A outer s H E hr=>
  (AN (BQ 2 (DH (AF (OB B9) B9)) sc.nd)
  (AN (FB BK (FC B.range (BF (AC 1) BX)) (DX 3 sc.nd) (AN (BQ 4 (DH B9) sc.nd)
  (AN (F8 2 (FB BK (F1 (AX 2)) (DX 5 sc.nd) (B0 (BQ 4 (CY (AC 4) (DE.dp (IH (N':= ["_law_one","_law_step"]) (R':=PR K) D2 D1 [some 5,none] (E1 [some 5,none]) FA (FC B.range (BF (AC 0) BX)) (fun _=>(CQ 1 (show List.Nodup (α:=Str) ["_law_one","_law_step"] by decide +kernel))) (fun _=>EE) (fun _=>(CY (AC 0) (DE.dp (OB (AF (AX 1) B9)))))))) sc.nd))))
  (B0 (F8 4 (BQ 2 (AX 4) sc.nd))))))
  (B0 (IA 2))))
def b_q6 : En -> Option Out :=
 (mSeq (mIf (mOr (mNot (mTest (mIsi "list" (mPk 0)))) (mTest (mBin dne (mCallP dLen (mConsP (mPk 0) mNilP)) (mCallP dLen (mConsP (mPk 1) mNilP))))) (mRet (mK (.bool false))) mNext)
 (mSeq (HJ (CD (mVar 0)) (gVar 2) (mIf (mOr (mNot (mTest (mIsi "tuple" (mPk 2)))) (mNot (mTest (mCallP dAll (mConsP (mLC (E1 [none]) (CD (mVar 2)) (gVar 0) mYes (mCall X6 (mCons (mVar 0) mNil))) mNilP))))) (mRet (mK (.bool false))) mNext))
 (mRet (mBin deq (mPk 0) (mPk 1)))))
def gZ:List PyData->Option Sl:=FS 3 b_q6 2
theorem A11 (B:Bl mg) (D_q12:Def P w K mg base 1 "_law_whole" ["_law_found"] (spD K X6)) (F:Fun K "_law_is_lines" "_law_is_lines" pZ f fd):FnOk P w K mg base CX0 2 f fd ["_law_found","_law_due"] (spD K gZ):=by
 have sc:=tO
 exact fnD F tO rfl rfl fun cdv A outer s H E hr=>
  (AN (J8 (mI (aE (OE (OL (DE.dp (SF RC B.list B.isinstance (AC 0))))) (W2 (aQ hr.units (DE.dp (F2 CT HI GM B.len (BF (AC 0) BX))) (DE.dp (F2 CT HI GM B.len (BF (AC 1) BX))))))) (B0 (DJ IZ)) FG)
  (AN (FB BK (F1 (AX 0)) (DX 2 sc.nd) (B0 (J8 (mI (aE (OE (OL (DE.dp (SF IG B.tuple B.isinstance (AC 2))))) (W2 (OE (OL (DE.dp (F2 (lF rfl) xG xH B.all (BF (DE.dp (IH (N':= ["_law_number"]) (R':=PR K) D2 D1 [none] (E1 [none]) FA (F1 (AX 2)) (fun _=>(CQ 0 (show List.Nodup (α:=Str) ["_law_number"] by decide +kernel))) (fun _=>EE) (fun _=>(CG D_q12 hr (AF (AX 0) B9))))) BX)))))))) (B0 (DJ IZ)) FG)))
  (B0 (DJ (kY hr.units (AC 0) (AC 1))))))
def hZ:List PyData->Option Sl:=fun _=>none
theorem A36 (B:Bl mg) (F:Fun K "_law_chosen" "_law_chosen" xZ f fd):FnOk P w K mg base CX0 1 f fd ["_law_some","_law_t"] (spD K hZ):=vI
def b_q1 : En -> Option Out :=
 (mSeq (mIf (mTest (mBin deq (mPk 1) (mK (.int 0)))) (mRet (mLst (mCons (mLst mNil) mNil))) mNext)
 (mSeq (mAsg 2 (mLst mNil))
 (mSeq (HJ (IB (mConsP (mCallP dLen (mConsP (mPk 0) mNilP)) mNilP)) (gVar 3) (mAsg 2 (mBin dAdd (mPk 2) (mLC (E1 [some 0,some 3,none]) (CD (mCall hZ (mCons (mSl (mPk 0) (mPart (mBin dAdd (mPk 3) (mK (.int 1)))) mNoPart) (mCons (mBin dSub (mPk 1) (mK (.int 1))) mNil)))) (gVar 2) mYes (mBin dAdd (mLst (mCons (mBin dix (mPk 0) (mPk 1)) mNil)) (mPk 2))))))
 (mRet (mPk 2)))))
def eD:List PyData->Option Sl:=FS 4 b_q1 2
theorem A44 (B:Bl mg) (D_q0:Def P w K mg base 1 "_law_chosen" ["_law_some","_law_t"] (spD K hZ)) (F:Fun K "_law_chosen" "_law_chosen" oG f fd):FnOk P w K mg base CX0 2 f fd ["_law_some","_law_t"] (spD K eD):=by
 have sc:=tF
 exact fnD F tF rfl rfl fun cdv A outer s H E hr=>
  (AN (J8 (S4 hr.units (AC 1) (DE.dp B3)) (B0 (DJ (DH (AF (DH B9) B9)))) FG)
  (AN (BQ 2 (DH B9) sc.nd)
  (AN (FB BK (FC B.range (BF (DE.dp (F2 CT HI GM B.len (BF (AC 0) BX))) BX)) (DX 3 sc.nd) (B0 (BQ 2 (CY (AC 2) (DE.dp (IH (N':= ["_law_some","_law_k","_law_rest"]) (R':=PR K) D2 D1 [some 0,some 3,none] (E1 [some 0,some 3,none]) FA (F1 (CG D_q0 hr (AF (QR (AC 0) (JW (DE.dp (CY (AC 3) (DE.dp B3)))) M8) (AF (QB (AC 1) (DE.dp B3)) B9)))) (fun _=>(CQ 2 (show List.Nodup (α:=Str) ["_law_some","_law_k","_law_rest"] by decide +kernel))) (fun _=>EE) (fun _=>(CY (DE.dp (DH (AF (KW (AC 0) (AC 1)) B9))) (AC 2)))))) sc.nd)))
  (B0 (IA 2)))))
def b_q2 : En -> Option Out :=
 (mSeq (mIf (mTest (mBin deq (mPk 1) (mK (.int 0)))) (mRet (mLst (mCons (mLst mNil) mNil))) mNext)
 (mSeq (mAsg 2 (mLst mNil))
 (mSeq (HJ (IB (mConsP (mCallP dLen (mConsP (mPk 0) mNilP)) mNilP)) (gVar 3) (mAsg 2 (mBin dAdd (mPk 2) (mLC (E1 [some 0,some 3,none]) (CD (mCall eD (mCons (mSl (mPk 0) (mPart (mBin dAdd (mPk 3) (mK (.int 1)))) mNoPart) (mCons (mBin dSub (mPk 1) (mK (.int 1))) mNil)))) (gVar 2) mYes (mBin dAdd (mLst (mCons (mBin dix (mPk 0) (mPk 1)) mNil)) (mPk 2))))))
 (mRet (mPk 2)))))
def ZY:List PyData->Option Sl:=FS 4 b_q2 2
theorem A09 (B:Bl mg) (D_q1:Def P w K mg base 2 "_law_chosen" ["_law_some","_law_t"] (spD K eD)) (F:Fun K "_law_chosen" "_law_chosen" rE f fd):FnOk P w K mg base CX0 3 f fd ["_law_some","_law_t"] (spD K ZY):=by
 have sc:=sP
 exact fnD F sP rfl rfl fun cdv A outer s H E hr=>
  (AN (J8 (S4 hr.units (AC 1) (DE.dp B3)) (B0 (DJ (DH (AF (DH B9) B9)))) FG)
  (AN (BQ 2 (DH B9) sc.nd)
  (AN (FB BK (FC B.range (BF (DE.dp (F2 CT HI GM B.len (BF (AC 0) BX))) BX)) (DX 3 sc.nd) (B0 (BQ 2 (CY (AC 2) (DE.dp (IH (N':= ["_law_some","_law_k","_law_rest"]) (R':=PR K) D2 D1 [some 0,some 3,none] (E1 [some 0,some 3,none]) FA (F1 (CG D_q1 hr (AF (QR (AC 0) (JW (DE.dp (CY (AC 3) (DE.dp B3)))) M8) (AF (QB (AC 1) (DE.dp B3)) B9)))) (fun _=>(CQ 2 (show List.Nodup (α:=Str) ["_law_some","_law_k","_law_rest"] by decide +kernel))) (fun _=>EE) (fun _=>(CY (DE.dp (DH (AF (KW (AC 0) (AC 1)) B9))) (AC 2)))))) sc.nd)))
  (B0 (IA 2)))))
def b_q3 : En -> Option Out :=
 (mSeq (mIf (mTest (mBin deq (mPk 1) (mK (.int 0)))) (mRet (mLst (mCons (mLst mNil) mNil))) mNext)
 (mSeq (mAsg 2 (mLst mNil))
 (mSeq (HJ (IB (mConsP (mCallP dLen (mConsP (mPk 0) mNilP)) mNilP)) (gVar 3) (mAsg 2 (mBin dAdd (mPk 2) (mLC (E1 [some 0,some 3,none]) (CD (mCall ZY (mCons (mSl (mPk 0) (mPart (mBin dAdd (mPk 3) (mK (.int 1)))) mNoPart) (mCons (mBin dSub (mPk 1) (mK (.int 1))) mNil)))) (gVar 2) mYes (mBin dAdd (mLst (mCons (mBin dix (mPk 0) (mPk 1)) mNil)) (mPk 2))))))
 (mRet (mPk 2)))))
def Z8:List PyData->Option Sl:=FS 4 b_q3 2
theorem zW (B:Bl mg) (D_q2:Def P w K mg base 3 "_law_chosen" ["_law_some","_law_t"] (spD K ZY)) (F:Fun K "_law_chosen" "_law_chosen" oB f fd):FnOk P w K mg base CX0 4 f fd ["_law_some","_law_t"] (spD K Z8):=by
 have sc:=tG
 exact fnD F tG rfl rfl fun cdv A outer s H E hr=>
  (AN (J8 (S4 hr.units (AC 1) (DE.dp B3)) (B0 (DJ (DH (AF (DH B9) B9)))) FG)
  (AN (BQ 2 (DH B9) sc.nd)
  (AN (FB BK (FC B.range (BF (DE.dp (F2 CT HI GM B.len (BF (AC 0) BX))) BX)) (DX 3 sc.nd) (B0 (BQ 2 (CY (AC 2) (DE.dp (IH (N':= ["_law_some","_law_k","_law_rest"]) (R':=PR K) D2 D1 [some 0,some 3,none] (E1 [some 0,some 3,none]) FA (F1 (CG D_q2 hr (AF (QR (AC 0) (JW (DE.dp (CY (AC 3) (DE.dp B3)))) M8) (AF (QB (AC 1) (DE.dp B3)) B9)))) (fun _=>(CQ 2 (show List.Nodup (α:=Str) ["_law_some","_law_k","_law_rest"] by decide +kernel))) (fun _=>EE) (fun _=>(CY (DE.dp (DH (AF (KW (AC 0) (AC 1)) B9))) (AC 2)))))) sc.nd)))
  (B0 (IA 2)))))
def b_q4 : En -> Option Out :=
 (mSeq (mIf (mTest (mBin deq (mPk 1) (mK (.int 0)))) (mRet (mLst (mCons (mLst mNil) mNil))) mNext)
 (mSeq (mAsg 2 (mLst mNil))
 (mSeq (HJ (IB (mConsP (mCallP dLen (mConsP (mPk 0) mNilP)) mNilP)) (gVar 3) (mAsg 2 (mBin dAdd (mPk 2) (mLC (E1 [some 0,some 3,none]) (CD (mCall Z8 (mCons (mSl (mPk 0) (mPart (mBin dAdd (mPk 3) (mK (.int 1)))) mNoPart) (mCons (mBin dSub (mPk 1) (mK (.int 1))) mNil)))) (gVar 2) mYes (mBin dAdd (mLst (mCons (mBin dix (mPk 0) (mPk 1)) mNil)) (mPk 2))))))
 (mRet (mPk 2)))))
def fT:List PyData->Option Sl:=FS 4 b_q4 2
theorem A24 (B:Bl mg) (D_q3:Def P w K mg base 4 "_law_chosen" ["_law_some","_law_t"] (spD K Z8)) (F:Fun K "_law_chosen" "_law_chosen" r6 f fd):FnOk P w K mg base CX0 5 f fd ["_law_some","_law_t"] (spD K fT):=by
 have sc:=sM
 exact fnD F sM rfl rfl fun cdv A outer s H E hr=>
  (AN (J8 (S4 hr.units (AC 1) (DE.dp B3)) (B0 (DJ (DH (AF (DH B9) B9)))) FG)
  (AN (BQ 2 (DH B9) sc.nd)
  (AN (FB BK (FC B.range (BF (DE.dp (F2 CT HI GM B.len (BF (AC 0) BX))) BX)) (DX 3 sc.nd) (B0 (BQ 2 (CY (AC 2) (DE.dp (IH (N':= ["_law_some","_law_k","_law_rest"]) (R':=PR K) D2 D1 [some 0,some 3,none] (E1 [some 0,some 3,none]) FA (F1 (CG D_q3 hr (AF (QR (AC 0) (JW (DE.dp (CY (AC 3) (DE.dp B3)))) M8) (AF (QB (AC 1) (DE.dp B3)) B9)))) (fun _=>(CQ 2 (show List.Nodup (α:=Str) ["_law_some","_law_k","_law_rest"] by decide +kernel))) (fun _=>EE) (fun _=>(CY (DE.dp (DH (AF (KW (AC 0) (AC 1)) B9))) (AC 2)))))) sc.nd)))
  (B0 (IA 2)))))
def b_q8 : En -> Option Out :=
 (mSeq (mAsg 3 (mLC (E1 [none]) (CD (mVar 2)) (gVar 0) mYes (mCallP dList (mConsP (mPk 0) mNilP))))
 (mSeq (mFrz 3 (mAsg 4 (mCall XV (mCons (mVar 0) (mCons (mVar 3) mNil)))))
 (mSeq (mAsg 5 (mLC (E1 [some 2,some 0,none]) (CD (mCall UL (mCons (mVar 0) (mCons (mVar 1) mNil)))) (gVar 2) mYes (mCallP dTuple (mConsP (mLC (E1 [some 1,some 2,none]) (CD (mVar 0)) (gVar 2) mYes (mCall kO (mCons (mVar 0) (mCons (mVar 2) (mCons (mVar 1) mNil))))) mNilP))))
 (mSeq (mFrz 4 (mFrz 5 (mIf (mOr (mNot (mTest (mCall gZ (mCons (mVar 4) (mCons (mVar 5) mNil))))) (mTest (mBin dne (mPk 3) (mLC (E1 [none]) (CD (mVar 2)) (gVar 0) mYes (mCallP dList (mConsP (mPk 0) mNilP)))))) (mRet (mK (.bool false))) mNext)))
 (mSeq (HJ (NV (mConsP (mK (.int 1)) (mConsP (mBin dAdd (mCallP dMin2 (mConsP (mK (.int 3)) (mConsP (mCallP dLen (mConsP (mPk 2) mNilP)) mNilP))) (mK (.int 1))) mNilP))) (gVar 6) (mSeq (mAsg 7 (mK (.bool true)))
 (mSeq (HJ (CD (mCall fT (mCons (mVar 2) (mCons (mVar 6) mNil)))) (gVar 8) (mIf (mTest (mBin dne (mCallP dLen (mConsP (mCall UT (mCons (mVar 0) (mCons (mVar 1) (mCons (mVar 8) mNil)))) mNilP)) (mBin dix (mLst (mCons (mK (.int 1)) (mCons (mVar 0) (mCons (mBin dRep (mPk 0) (mPk 0)) (mCons (mBin dRep (mBin dRep (mPk 0) (mPk 0)) (mPk 0)) mNil))))) (mPk 6)))) (mAsg 7 (mK (.bool false))) mNext))
 (mSeq (mFrz 4 (mAsg 9 (mCall Y8 (mCons (mVar 4) (mCons (mLC (E1 [some 0,none]) (CD (mVar 2)) (gVar 1) mYes (mVar 0)) (mCons (mVar 6) mNil))))))
 (mIf (mOr (mNot (mTest (mIsi "tuple" (mPk 9)))) (mTest (mBin dne (mBin deq (mPk 9) (mTup (mCons (mK (.str "even")) mNil))) (mPk 7)))) (mRet (mK (.bool false))) mNext)))))
 (mRet (mK (.bool true))))))))
def jB:List PyData->Option Sl:=FS 10 b_q8 3
theorem A30 (B:Bl mg) (D_q28:Def P w K mg base 3 "spun" ["p","generators"] (spD K XV)) (D_q11:Def P w K mg base 1 "_law_trials" ["_law_p","_law_n"] (spD K UL)) (D_q5:Def P w K mg base 1 "_law_come" ["_law_p","_law_word_here","_law_trial"] (spD K kO)) (D_q6:Def P w K mg base 2 "_law_is_lines" ["_law_found","_law_due"] (spD K gZ)) (D_q4:Def P w K mg base 5 "_law_chosen" ["_law_some","_law_t"] (spD K fT)) (D_q10:Def P w K mg base 1 "_law_span" ["_law_p","_law_n","_law_words_here"] (spD K UT)) (D_q20:Def P w K mg base 5 "even_to" ["plan","levels","t"] (spD K Y8)) (F:Fun K "_law_right" "_law_right" rA f fd):FnOk P w K mg base CX0 6 f fd ["_law_p","_law_n","_law_generators"] (spD K jB):=by
 have sc:=sO
 exact fnD F sO rfl rfl fun cdv A outer s H E hr=>
  (AN (VJ (N':= ["_law_one"]) (R':=PR K) D2 D1 3 [none] (E1 [none]) FA sc.nd (F1 (AX 2)) (fun _=>(CQ 0 (show List.Nodup (α:=Str) ["_law_one"] by decide +kernel))) (fun _=>EE) (fun _=>(NY MD VO RC B.list (BF (AC 0) BX))))
  (AN (F8 3 (BQ 4 (CG D_q28 hr (AF (AX 0) (AF (AX 3) B9))) sc.nd))
  (AN (VJ (N':= ["_law_generators","_law_p","_law_rests"]) (R':=PR K) D2 D1 5 [some 2,some 0,none] (E1 [some 2,some 0,none]) FA sc.nd (F1 (CG D_q11 hr (AF (AX 0) (AF (AX 1) B9)))) (fun _=>(CQ 2 (show List.Nodup (α:=Str) ["_law_generators","_law_p","_law_rests"] by decide +kernel))) (fun _=>EE) (fun _=>(NY G9 LQ IG B.tuple (BF (DE.dp (IH (N':= ["_law_p","_law_rests","_law_one"]) (R':=PR K) g7 g8 [some 1,some 2,none] (E1 [some 1,some 2,none]) FA (F1 (AX 0)) (fun _=>(CQ 2 (show List.Nodup (α:=Str) ["_law_p","_law_rests","_law_one"] by decide +kernel))) (fun _=>EE) (fun _=>(CG D_q5 hr (AF (AX 0) (AF (AX 2) (AF (AX 1) B9))))))) BX))))
  (AN (F8 4 (F8 5 (J8 (mI (aE (OE (OL (DE.dp (CG D_q6 hr (AF (AX 4) (AF (AX 5) B9)))))) (W2 (aQ hr.units (AC 3) (DE.dp (IH (N':= ["_law_one"]) (R':=PR K) D2 D1 [none] (E1 [none]) FA (F1 (AX 2)) (fun _=>(CQ 0 (show List.Nodup (α:=Str) ["_law_one"] by decide +kernel))) (fun _=>EE) (fun _=>(NY MD VO RC B.list (BF (AC 0) BX))))))))) (B0 (DJ IZ)) FG)))
  (AN (FB BK (QH B.range (BF (DE.dp B3) (BF (DE.dp (CY (DE.dp (F2 (UP rfl) bD VI B.min (BF (DE.dp B3) (BF (DE.dp (F2 CT HI GM B.len (BF (AC 2) BX))) BX)))) (DE.dp B3))) BX))) (DX 6 sc.nd) (AN (BQ 7 IZ sc.nd)
  (AN (FB BK (F1 (CG D_q4 hr (AF (AX 2) (AF (AX 6) B9)))) (DX 8 sc.nd) (B0 (J8 (aQ hr.units (DE.dp (F2 CT HI GM B.len (BF (DE.dp (CG D_q10 hr (AF (AX 0) (AF (AX 1) (AF (AX 8) B9))))) BX))) (DE.dp (KW (DE.dp (DH (AF B3 (AF (AX 0) (AF (FW (AC 0) (AC 0)) (AF (FW (DE.dp (FW (AC 0) (AC 0))) (AC 0)) B9)))))) (AC 6)))) (B0 (BQ 7 IZ sc.nd)) FG)))
  (AN (F8 4 (BQ 9 (CG D_q20 hr (AF (AX 4) (AF (IH (N':= ["_law_p","_law_one"]) (R':=PR K) D2 D1 [some 0,none] (E1 [some 0,none]) FA (F1 (AX 2)) (fun _=>(CQ 1 (show List.Nodup (α:=Str) ["_law_p","_law_one"] by decide +kernel))) (fun _=>EE) (fun _=>(AX 0))) (AF (AX 6) B9)))) sc.nd))
  (B0 (J8 (mI (aE (OE (OL (DE.dp (SF IG B.tuple B.isinstance (AC 9))))) (W2 (aQ hr.units (DE.dp (kY hr.units (AC 9) (DE.dp (OB (AF Z9 B9))))) (AC 7))))) (B0 (DJ IZ)) FG))))))
  (B0 (DJ IZ)))))))
def b_law : En -> Option Out :=
 (mSeq (mAsg 1 (mBin dAdd (mSl (mPk 0) mNoPart (mPart (mK (.int 42)))) (mLst (mCons (mK (.int 0)) mNil))))
 (mSeq (mAsg 2 (mK (.int 0)))
 (mSeq (NC (mTest (mBin dLt (mPk 2) (mCallP dLen (mConsP (mPk 1) mNilP)))) (mSeq (mAsg 3 (mBin dix (mPk 1) (mPk 2)))
 (mSeq (mFrz 3 (mAsgT (gTupD [(gVar 6),(gVar 7)]) (mCall kK (mCons (mVar 3) mNil))))
 (mSeq (mAsg 4 (mBin dAdd (mK (.int 1)) (mBin F3 (mBin E2 (mPk 3) (mK (.int 42))) (mK (.int 5)))))
 (mSeq (mAsg 5 (mSl (mCall RY (mCons (mBin dAdd (mSl (mPk 1) (mPart (mBin dAdd (mPk 2) (mK (.int 1)))) (mPart (mBin dAdd (mBin dAdd (mPk 2) (mK (.int 1))) (mPk 4)))) (mLst (mCons (mBin E2 (mPk 3) (mK (.int 9))) mNil))) (mCons (mVar 6) (mCons (mVar 7) mNil)))) mNoPart (mPart (mPk 4))))
 (mSeq (mFrz 5 (mIf (mNot (mTest (mCall jB (mCons (mVar 6) (mCons (mVar 7) (mCons (mVar 5) mNil)))))) (mRet (mK (.bool false))) mNext))
 (mAsg 2 (mBin dAdd (mBin dAdd (mPk 2) (mK (.int 1))) (mPk 4)))))))))
 (mRet (mK (.bool true))))))
def u7:List PyData->Option Sl:=FS 8 b_law 1
theorem xO (B:Bl mg) (D_q9:Def P w K mg base 1 "_law_size" ["_law_cell"] (spD K kK)) (D_q14:Def P w K mg base 3 "_law_words" ["_law_cells","_law_p","_law_n"] (spD K RY)) (D_q8:Def P w K mg base 6 "_law_right" ["_law_p","_law_n","_law_generators"] (spD K jB)) (F:Fun K "law" "law" TJ f fd):FnOk P w K mg base CX0 7 f fd ["_law_script"] (spD K u7):=by
 have sc:=jJ
 exact fnD F jJ rfl rfl fun cdv A outer s H E hr=>
  (AN (BQ 1 (CY (DE.dp (QR (AC 0) M8 (JW (DE.dp B3)))) (DE.dp (DH (AF B3 B9)))) sc.nd)
  (AN (BQ 2 B3 sc.nd)
  (AN (iO BK (t5 (AC 2) (DE.dp (F2 CT HI GM B.len (BF (AC 1) BX)))) (AN (BQ 3 (KW (AC 1) (AC 2)) sc.nd)
  (AN (F8 3 (oF (CG D_q9 hr (AF (AX 3) B9)) (wO (X4 (DX 6 sc.nd) (X4 (DX 7 sc.nd) rC)))))
  (AN (BQ 4 (CY (DE.dp B3) (DE.dp (F9 (DE.dp (II (AC 3) (DE.dp B3))) (DE.dp B3)))) sc.nd)
  (AN (BQ 5 (QR (DE.dp (CG D_q14 hr (AF (CY (DE.dp (QR (AC 1) (JW (DE.dp (CY (AC 2) (DE.dp B3)))) (JW (DE.dp (CY (DE.dp (CY (AC 2) (DE.dp B3))) (AC 4)))))) (DE.dp (DH (AF (II (AC 3) (DE.dp B3)) B9)))) (AF (AX 6) (AF (AX 7) B9))))) M8 (JW (AC 4))) sc.nd)
  (AN (F8 5 (J8 (OE (OL (DE.dp (CG D_q8 hr (AF (AX 6) (AF (AX 7) (AF (AX 5) B9))))))) (B0 (DJ IZ)) FG))
  (B0 (BQ 2 (CY (DE.dp (CY (AC 2) (DE.dp B3))) (AC 4)) sc.nd))))))))
  (B0 (DJ IZ)))))
end
local macro_rules | `(tactic| walk_at "ev") => `(tactic| simp only [mSeq, mIf, mTest, mBin, mUn, mK, mPk, mVar, mAsg, mRet, mRetN, mCall, mCons, mNil, mCallP, mConsP, mNilP, mTup, mLst, mOr, mAnd, mNot, mNotV, mAndV, mOrV, mIfE, mNext, mBrk, mCt, mDrop, mApp, mSet, mFrz, frz1, mPar, mAsgT, gVar, gTupD, gsAll, mItems, mItemsT, mSl, mPart, mNoPart, mDat, Sl.dat, mYes, mIsi, tyD, isiD, iop, icmp, iun, dAddI, dSub, dAdd, dLt, dLe, dGt, dGe, deq, dne, disN, disNN, isNone, dix, dLen, dAbs, dList, dTuple, dInt, dSl, FN, JE, Option.join_some, NP, List.getElem?_cons_zero, List.getElem?_cons_succ, List.set_cons_zero, List.set_cons_succ, B4, List.length_nil, eqD_int, OT, LY, E4, B1, Q1, GD, FD, D6, reduceIte, reduceCtorEq, Bool.not_true, Bool.not_false, zP, uJ])
theorem AY{op:Sl->Sl->Option Sl}{fa fb:En->Option Sl}{ρ:En}{a b:Sl}(ha:fa ρ=some a)(hb:fb ρ=some b):mBin op fa fb ρ=op a b:=by
 unfold mBin;rw [ha];show Option.bind (fb ρ) _=_;rw [hb];rfl
theorem GR{f:En->Option Sl}{ρ:En}{b:Bool}(h:f ρ=some (.val (.bool b))):mTest f ρ=some b:=by
 unfold mTest;rw [h];rfl
theorem VG(i j:Int):deq (.val (.int i)) (.val (.int j))=some (.val (.bool (decide (i=j)))):=by
 show (eqD (.int i) (.int j)).map _=_;rw [eqD_int];rfl
theorem VX{i:Nat}{f:En->Option Sl}{ρ:En}{r:Sl}{ds:List PyData}(h:f ρ=some r)(ho:(ρ[i]?).join=some (.own ds))(hl:ds.length<sizeLine):mApp i f ρ=some (.nx (ρ.set i (some (.own (ds ++ [r.dat]))))):=by
 unfold mApp;rw [ho];show Option.bind (f ρ) _=_;rw [h];show (if ds.length<sizeLine then _ else _)=_;rw [if_pos hl]
theorem CP{F:List Sl->Option Sl}{f:En->Option (List Sl)}{ρ:En}{ss:List Sl}{r:Sl}(h:f ρ=some ss)(k:F ss=some r):mCallP F f ρ=some r:=by
 unfold mCallP;rw [h];exact k
theorem CC{f:En->Option Sl}{g:En->Option (List PyData)}{ρ:En}{a:Sl}{as:List PyData}(h:f ρ=some a)(k:g ρ=some as):mCons f g ρ=some (a.dat::as):=by
 unfold mCons;rw [h];show Option.bind (g ρ) _=_;rw [k];rfl
theorem D4{f:En->Option Sl}{g:En->Option (List Sl)}{ρ:En}{a:Sl}{as:List Sl}(h:f ρ=some a)(k:g ρ=some as):mConsP f g ρ=some (a::as):=by
 unfold mConsP;rw [h];show Option.bind (g ρ) _=_;rw [k];rfl
theorem F5:1000<sizeLine:=by decide
theorem VC{f:En->Option Sl}{ρ:En}{a:Sl}(h:f ρ=some a):mLst (mCons f mNil) ρ=some (.own [a.dat]):=by
 unfold mLst;rw [CC h (show mNil ρ=some [] from rfl)];exact if_pos (e:=none) (show 1<=sizeLine by decide)
theorem MA{a b:Sl}{xs ys:List PyData}(ha:a.dat = .list xs)(hb:b.dat = .list ys)(h:xs.length+ys.length<=sizeLine):dAdd a b=some (.own (xs++ys)):=by
 unfold dAdd;rw [ha,hb];exact if_pos (h)
theorem pD{xs:List PyData}{k:Nat}(h:xs.length*k<=sizeLine)(hk:k<=1000):dRep (.own xs) (.val (.int k))=some (.own (List.replicate k xs).flatten):=by
 unfold dRep;simp only;rw [if_pos ⟨by omega,by omega,by simpa using h⟩];simp
theorem KH{fg:PyData->En->Option En}{fe:En->Option Sl}{ρ0 ρ1:En}{d:PyData}{r:Sl}(h1:fg d ρ0=some ρ1)(h2:fe ρ1=some r):elM fg mYes fe ρ0 d=some (some r.dat):=by
 unfold elM;rw [h1];simp only [Option.bind_some,mYes,if_true,h2,Option.map_some]
theorem A80{j:Int}(h0:0<j)(h:j<=1000):Bt 9000 j:=by
 unfold Bt;have:2 ^ 10<=2 ^ 9000:=Nat.pow_le_pow_right (by decide) (by decide);have e:(2:Nat) ^ 10=1024:=by decide
 rw [e] at this
 refine BI ?_ this;omega
theorem NZ{i j:Int}(h0:0<j)(h:j<=1000):E2 (.val (.int i)) (.val (.int j))=some (.val (.int (i.fdiv j))):=A49 ⟨by omega,A80 h0 h⟩
theorem S7{α:Type}{f:PyData->Option (Option PyData)}{en g:α->PyData}{b:α->Bool}:∀ {xs:List α},(∀x ∈ xs,f (en x)=some (if b x then some (g x) else none))->NB f (xs.map en)=some ((xs.filter b).map g)
 | [],_=>rfl
 | x::xs,h=>by
  rw [B1,NB,h x AU,S7 fun y hy=>h y (AK _ hy)]
  cases e:b x <;> simp [e]
theorem A01{fg:PyData->En->Option En}{ft:En->Option Bool}{fe:En->Option Sl}{ρ0 ρ1:En}{d:PyData}{r:Sl}{b:Bool}(h1:fg d ρ0=some ρ1)(h2:ft ρ1=some b)(h3:fe ρ1=some r):elM fg ft fe ρ0 d=some (if b then some r.dat else none):=by
 unfold elM;rw [h1,Option.bind_some,h2,Option.bind_some]
 cases b
 . rfl
 . rw [AB rfl,h3];rfl
theorem MW{i:Nat}{g:En->Option Out}{ρ:En}:mFrz i g ρ=g (frz1 i ρ):=rfl
theorem A78{f g:En->Option Sl}{ρ:En}{a b:Sl}(h1:f ρ=some a)(h2:g ρ=some b):mTup (mCons f (mCons g mNil)) ρ=some (.val (.tuple [a.dat,b.dat])):=by
 unfold mTup;rw [CC h1 (CC h2 (show mNil ρ=some [] from rfl))];exact if_pos (e:=none) (show 2<=sizeLine by decide)
theorem mX{f:En->Option Sl}{ρ:En}{a:Sl}(h1:f ρ=some a):mTup (mCons f mNil) ρ=some (.val (.tuple [a.dat])):=by
 unfold mTup;rw [CC h1 (show mNil ρ=some [] from rfl)];exact if_pos (e:=none) (show 1<=sizeLine by decide)
theorem qK{fg:PyData->En->Option En}{f:En->Option Sl}{ρ ρ':En}{r:Sl}(h:f ρ=some r)(k:fg r.dat ρ=some ρ'):mAsgT fg f ρ=some (.nx ρ'):=by
 unfold mAsgT;rw [h,Option.bind_some,k];rfl
theorem cmL{i j:Int}(h1 : -(2 ^ 64)<i)(h2:i<2 ^ 64):UG i j:= .inl (.inl ⟨h1,h2⟩)
theorem cmR{i j:Int}(h1 : -(2 ^ 64)<j)(h2:j<2 ^ 64):UG i j:= .inl (.inr ⟨h1,h2⟩)
theorem dB(c:Int){k:Int}(h0:0<=k)(h1:k<1000000):∃v,dI [.int c, .int k]=some (.val (.int v))/\0<=v:=by
 let o1:=((c.fmod 2147483647+40503*k*k+17*k)*48271).fmod 2147483647
 refine ⟨(o1*(o1.fmod 65537+3*k+1)).fmod 2147483629,FR (ρ:= [some (.val (.int c)),some (.val (.int k)),none]) rfl rfl ?_,Int.fmod_nonneg_of_pos _ (by decide)⟩;unfold b_q7;have a1:=Int.fmod_nonneg_of_pos ((c.fmod 2147483647+40503*k*k+17*k)*48271) (show (0:Int)<2147483647 by decide);have a2:=Int.fmod_lt_of_pos ((c.fmod 2147483647+40503*k*k+17*k)*48271) (show (0:Int)<2147483647 by decide);refine CA (r:= .val (.int o1)) ?_ (DF (r:= .val (.int ((o1*(o1.fmod 65537+3*k+1)).fmod 2147483629))) ?_ rfl)
 . refine (AY (op:=F3) ((AY (op:=dRep) ((AY (op:=dAdd) ((AY (op:=dAdd) ((AY (op:=F3) rfl rfl).trans (QC (by decide))) ((AY (op:=dRep) ((AY (op:=dRep) rfl rfl).trans (MS (cmL (by decide) (by decide)))) rfl).trans (MS (cmR (by omega) (by omega))))).trans rfl) ((AY (op:=dRep) rfl rfl).trans (MS (cmL (by decide) (by decide))))).trans rfl) rfl).trans (MS (cmR (by decide) (by decide)))) rfl).trans (QC (by decide))
 . refine (AY (op:=F3) ((AY (op:=dRep) (a:= .val (.int o1)) rfl ((AY (op:=dAdd) ((AY (op:=dAdd) ((AY (op:=F3) rfl rfl).trans (QC (by decide))) ((AY (op:=dRep) rfl rfl).trans (MS (cmL (by decide) (by decide))))).trans rfl) rfl).trans rfl)).trans (MS (cmL (by show _<o1;omega) (by show o1<_;omega)))) rfl).trans (QC (by decide))
theorem jV{args:En->Option (List PyData)}{ρ:En}{c j:Int}(ha:args ρ=some [.int c, .int j])(h0:0<=j)(h1:j<1000000):∃v:Nat,mCall dI args ρ=some (.val (.int v)):=by
 obtain ⟨v,hv,v0⟩:=dB c h0 h1;exact ⟨v.toNat,by rw [MG v0];exact CU ha hv⟩
theorem IY{fa fb:En->Option Sl}{ρ:En}{i m:Int}(ha:fa ρ=some (.val (.int i)))(hb:fb ρ=some (.val (.int m)))(hp:0<m):∃v:Nat,mBin F3 fa fb ρ=some (.val (.int v))/\(v:Int)<m:=by
 refine ⟨(i.fmod m).toNat,?_,?_⟩
 . rw [MG (KD _ hp)];exact (AY (op:=F3) ha hb).trans (QC (by omega))
 . rw [MG (KD _ hp)];exact A69 _ hp
theorem fO(a:Int):X6 [.int a]=some (.val (.bool true)):=by
 refine FR (ρ:= [some (.val (.int a))]) rfl rfl ?_;unfold b_q12;exact DF rfl rfl
abbrev enN:Nat->PyData:=fun n=> .int (n:Int)
def AM(t:List Nat):PyData:= .tuple (nl t)
theorem MX{ρ:En}:mLst mNil ρ=some (.own []):=by
 exact AB (e:=none) (show 0<=sizeLine by decide)
theorem SQ{L:List Nat}(hL:∀c ∈ L,c<=1000):MJ [.list (nl L)]=some (.val (.int (Tr.prodN L:Nat))):=by
 refine FR (ρ:= [some (.val (.list (nl L))),none,none]) rfl rfl ?_;unfold b_q26;refine CA (r:= .val (.int 1)) rfl ?_;refine GB (P:=fun ρ=>∃z,ρ = [some (.val (.list (nl L))),some (.val (.int (Tr.prodN L:Nat))),z]) ?_ ?_
 . refine IJ (en:=enN) (xs:=L) (fun k ρ=>∃z,ρ = [some (.val (.list (nl L))),some (.val (.int (Tr.prodN (L.take k):Nat))),z]) rfl ⟨_,rfl⟩ ?_ ?_
   . rintro k s ρ hs ⟨z,rfl⟩;have hs1:=hL s (BC hs);refine ⟨_,rfl,KF (r:= .val (.int ((Tr.prodN (L.take k):Int)*(s:Int)))) ((AY (op:=dRep) rfl rfl).trans (MS (cmR (by omega) (by omega)))) ⟨some (.val (.int s)),?_⟩⟩;rw [G7,hs];show _=([some (.val (.list (nl L))),some (.val (.int (Tr.prodN (L.take k ++ [s]):Nat))),some (.val (.int s))]:En);rw [Tr.prodN_app,show Tr.prodN [s]=s by simp [Tr.prodN],FZ];rfl
   . rintro ρ ⟨z,rfl⟩;rw [B6 (A9 _)];exact ⟨z,rfl⟩
 . rintro ρ ⟨z,rfl⟩;exact DF rfl rfl
theorem mB{c:Nat}(h:c<=1000):Bt 9000 (c:Int):=by
 unfold Bt;have:2 ^ 10<=2 ^ 9000:=Nat.pow_le_pow_right (by decide) (by decide);have e:(2:Nat) ^ 10=1024:=by decide
 rw [e] at this
 refine BI ?_ this;omega
theorem UZ{L:List Nat}(hL:∀c ∈ L,0<c/\c<=1000)(hl:L.length<=900)(x:Nat):TL [.list (nl L), .int x]=some (.val (AM (Tr.tri L x))):=by
 have sl:=F5;refine FR (ρ:= [some (.val (.list (nl L))),some (.val (.int x)),none,none]) rfl rfl ?_;unfold b_q29;refine CA MX ?_;refine GB (P:=fun ρ=>∃z1 z3,ρ = [some (.val (.list (nl L))),z1,some (.own (nl (Tr.dg L.reverse x))),z3]) ?_ ?_
 . refine IJ (en:=enN) (xs:=L.reverse) (fun k ρ=>∃(A:List Nat) (y:Nat) (z:Option Sl),ρ = [some (.val (.list (nl L))),some (.val (.int y)),some (.own (nl A)),z]/\A.length=k/\A++Tr.dg (L.reverse.drop k) y=Tr.dg L.reverse x) ?_ ⟨[],x,none,rfl,rfl,rfl⟩ ?_ ?_
   . show some (nl L).reverse=_;rw [nl,List.map_reverse]
   . rintro k c ρ hc ⟨A,y,z,rfl,hA,he⟩;have hc1:=hL c (IP.mp (BC hc));obtain ⟨hk,ek⟩:=AQ.mp hc;have hk':k<L.length:=by simpa using hk
     rw [DR hk,ek] at he
     refine ⟨_,rfl,?_⟩;have nz:(c:Int)≠0:=by omega
     refine HA (VX (r:= .val (.int ((y % c:Nat):Int))) (ds:=nl A) ((AY (op:=F3) (a:= .val (.int y)) (b:= .val (.int c)) rfl rfl).trans ((QC nz).trans ?_)) rfl (by rw [JM];omega)) ?_
     . rw [FQ _ (by omega)];rfl
     refine KF (r:= .val (.int ((y / c:Nat):Int))) ((AY (op:=E2) (a:= .val (.int y)) (b:= .val (.int c)) rfl rfl).trans ((A49 ⟨nz,mB hc1.2⟩).trans ?_)) ⟨A ++ [y % c],y / c,some (.val (.int c)),?_,by simp [hA],?_⟩
     . rw [Int.fdiv_eq_ediv_of_nonneg _ (by omega)];rfl
     . rw [OF];rfl
     . rw [<-he,BP];rfl
   . rintro ρ ⟨A,y,z,rfl,hA,he⟩;rw [EG (A9 _)] at he
     simp only [Tr.dg,E4] at he
     subst he;exact ⟨_,_,rfl⟩
 . rintro ρ ⟨z1,z3,rfl⟩;refine DF (r:= .val (AM (Tr.tri L x))) (CP (ss:= [.own (nl (Tr.dg L.reverse x))]) rfl ?_) rfl;show some (Sl.val (.tuple (nl (Tr.dg L.reverse x)).reverse))=_;rw [nl, <-List.map_reverse];rfl
theorem rZ{L:List Nat}(hL:∀c ∈ L,0<c/\c<=1000)(hl:L.length<=900)(hp:Tr.prodN L<=900):UF [.list (nl L)]=some (.own ((Tr.allT L).map AM)):=by
 have sl:=F5;refine FR (ρ:= [some (.val (.list (nl L)))]) rfl rfl ?_;unfold b_q15;refine DF (JA (ds:=HH 0 (Tr.prodN L)) ?_ ?_ ?_) rfl
 . exact JV (j:=Tr.prodN L) (D4 (as:= []) (CU (ds:= [.list (nl L)]) rfl (SQ fun c hc=>(hL c hc).2)) rfl) (by omega)
 . rw [show (HH 0 (Tr.prodN L)).length=Tr.prodN L by simp [HH]];omega
 . refine (QY (g:=fun i=>AM (Tr.tri L i)) fun i hi=>KH (r:= .val (AM (Tr.tri L i))) rfl (CU (ds:= [.list (nl L), .int (i:Nat)]) ?_ (UZ hL hl i))).trans ?_
   . show some [PyData.list (nl L), .int (0+(i:Nat))]=_;rw [uF]
   . rw [Tr.allT,E5];rfl
theorem lL(c:Int):∃p n:Nat,kK [.int c]=some (.val (.tuple [.int p, .int n]))/\(p=2\/p=3\/p=5\/p=7)/\1<=n/\n<=6/\p ^ n<=125:=by
 have sl:=F5
 let C:Option Sl:=some (.val (.int c))
 obtain ⟨v,ev,bv⟩:=IY (fa:=mPk 0) (fb:=mK (.int 7)) (ρ:= [C,none,none]) rfl rfl (by decide);have l7:(mLst (mCons (mK (.int 2)) (mCons (mK (.int 3)) (mCons (mK (.int 5)) (mCons (mK (.int 7)) (mCons (mK (.int 2)) (mCons (mK (.int 3)) (mCons (mK (.int 2)) mNil)))))))) [C,none,none]=some (.own [.int 2, .int 3, .int 5, .int 7, .int 2, .int 3, .int 2]):=AB (e:=none) (show 7<=sizeLine by omega)
 obtain ⟨p,ep,hp⟩:∃p:Nat,[PyData.int 2, .int 3, .int 5, .int 7, .int 2, .int 3, .int 2][v]? = some (.int p)/\(p=2\/p=3\/p=5\/p=7):=by
  match v,(show v<7 by omega) with
  | 0,_=>exact ⟨2,rfl, .inl rfl⟩
  | 1,_=>exact ⟨3,rfl, .inr (.inl rfl)⟩
  | 2,_=>exact ⟨5,rfl, .inr (.inr (.inl rfl))⟩
  | 3,_=>exact ⟨7,rfl, .inr (.inr (.inr rfl))⟩
  | 4,_=>exact ⟨2,rfl, .inl rfl⟩
  | 5,_=>exact ⟨3,rfl, .inr (.inl rfl)⟩
  | 6,_=>exact ⟨2,rfl, .inl rfl⟩
 obtain ⟨m,em,m0,hm⟩:∃m:Nat,[PyData.int 0, .int 0, .int 6, .int 4, .int 0, .int 3, .int 0, .int 2][p]? = some (.int m)/\0<m/\∀n,n<=m->n<=6/\p ^ n<=125:=by
  rcases hp with rfl | rfl | rfl | rfl
  . exact ⟨6,rfl,by decide,fun n hn=>⟨hn,BG (G8 (by decide) hn) (by decide)⟩⟩
  . exact ⟨4,rfl,by decide,fun n hn=>⟨by omega,BG (G8 (by decide) hn) (by decide)⟩⟩
  . exact ⟨3,rfl,by decide,fun n hn=>⟨by omega,BG (G8 (by decide) hn) (by decide)⟩⟩
  . exact ⟨2,rfl,by decide,fun n hn=>⟨by omega,BG (G8 (by decide) hn) (by decide)⟩⟩
 let P1:Option Sl:=some (.val (.int p))
 let M2:Option Sl:=some (.val (.int m))
 have l8:(mLst (mCons (mK (.int 0)) (mCons (mK (.int 0)) (mCons (mK (.int 6)) (mCons (mK (.int 4)) (mCons (mK (.int 0)) (mCons (mK (.int 3)) (mCons (mK (.int 0)) (mCons (mK (.int 2)) mNil))))))))) [C,P1,none]=some (.own [.int 0, .int 0, .int 6, .int 4, .int 0, .int 3, .int 0, .int 2]):=if_pos (e:=none) (show 8<=sizeLine by omega);obtain ⟨w,ew,bw⟩:=IY (fa:=mBin E2 (mPk 0) (mK (.int 7))) (fb:=mPk 2) (ρ:= [C,P1,M2]) ((AY (op:=E2) rfl rfl).trans (NZ (by decide) (by decide))) (i:=c.fdiv 7) (m:=m) rfl (by omega);obtain ⟨h6,h125⟩:=hm (w+1) (by omega);refine ⟨p,w+1,FR (ρ:= [C,none,none]) rfl rfl ?_,hp,by omega,h6,h125⟩;unfold b_q9;refine CA ((AY (op:=dix) l7 ev).trans (JX (.inl rfl) ep)) (CA ((AY (op:=dix) l8 (b:= .val (.int p)) rfl).trans (JX (.inl rfl) em)) (IV (DF (r:= .val (.tuple [.int p, .int ((w+1:Nat):Int)])) ?_ rfl)))
 have e1:mBin dAdd (mK (.int 1)) (mBin F3 (mBin E2 (mPk 0) (mK (.int 7))) (mPk 2)) [C,P1,M2]=some (.val (.int ((w+1:Nat):Int))):=by
  refine (AY (op:=dAdd) (fa:=mK (.int 1)) rfl ew).trans ?_;show some (Sl.val (.int (1+(w:Int))))=_;rw [show 1+(w:Int)=((w+1:Nat):Int) by omega]
 exact A78 (a:= .val (.int p)) (b:= .val (.int ((w+1:Nat):Int))) (ρ:= [C,P1,M2]) rfl e1
def NF(p n:Nat)(w:List Nat):Prop:=w.length=n/\∀r ∈ w,r<p
theorem kJ(c:Int){k p n:Nat}(hk:k<=99)(p2:2<=p)(p7:p<=7)(n6:n<=6):∃w:List Nat,WQ [.int c, .int k, .int p, .int n]=some (.val (AM w))/\NF p n w:=by
 have sl:=F5
 let C:Option Sl:=some (.val (.int c))
 let K1:Option Sl:=some (.val (.int k))
 let P2:Option Sl:=some (.val (.int p))
 let N3:Option Sl:=some (.val (.int n))
 have key:Wp b_q13 [C,K1,P2,N3,none,none,none,none,none] (fun o=>∃(w:List Nat) (ρ':En),o = .rt (.val (AM w)) ρ'/\NF p n w):=by
  unfold b_q13;refine CA (r:= .val (.int (c.fdiv 2))) ((AY (op:=E2) rfl rfl).trans (NZ (by decide) (by decide))) ?_;refine GB (P:=fun ρ=>∃(l:Int) (z5:Option Sl),ρ = [C,K1,P2,N3,some (.val (.int l)),z5,none,none,none]) ?_ ?_
  . refine LP (n:=k % 10*n) (fun _ ρ=>∃(l:Int) (z5:Option Sl),ρ = [C,K1,P2,N3,some (.val (.int l)),z5,none,none,none]) ?_ ⟨_,_,rfl⟩ ?_ (fun ρ h=>h)
    . refine JV (j:=k % 10*n) (D4 (a:= .val (.int ((k % 10*n:Nat):Int))) (as:= []) ((AY (op:=dRep) ((AY (op:=F3) (a:= .val (.int k)) (b:= .val (.int 10)) rfl rfl).trans (QC (by decide))) (b:= .val (.int n)) rfl).trans ((MS (cmR (by omega) (by omega))).trans ?_)) rfl) ?_
      . rw [FQ _ (by decide),FZ];rfl
      . have:k % 10*n<=9*6:=gX (by omega) n6;omega
    . rintro j ρ hj ⟨l,z5,rfl⟩;exact ⟨_,rfl,KF (r:= .val (.int (l.fdiv p))) ((AY (op:=E2) (a:= .val (.int l)) (b:= .val (.int p)) rfl rfl).trans (NZ (by omega) (by omega))) ⟨_,_,rfl⟩⟩
  rintro ρ ⟨l,z5,rfl⟩;refine CA MX ?_;refine GB (P:=fun ρ=>∃(w:List Nat) (l:Int) (z5 z7 z8:Option Sl),ρ = [C,K1,P2,N3,some (.val (.int l)),z5,some (.own (nl w)),z7,z8]/\w.length=n/\∀r ∈ w,r<p) ?_ ?_
  . refine LP (n:=n) (fun j ρ=>∃(w:List Nat) (l:Int) (z5 z7 z8:Option Sl),ρ = [C,K1,P2,N3,some (.val (.int l)),z5,some (.own (nl w)),z7,z8]/\w.length=j/\∀r ∈ w,r<p) (JV (j:=n) rfl (by omega)) ⟨[],_,_,_,_,rfl,rfl,by simp⟩ ?_ (fun ρ h=>h);rintro j ρ hj ⟨w,l,z5,z7,z8,rfl,hw,hr⟩;refine ⟨_,rfl,?_⟩
    let J5:Option Sl:=some (.val (.int (j:Nat)))
    let WO:Option Sl:=some (.own (nl w))
    show Wp _ [C,K1,P2,N3,some (.val (.int l)),J5,WO,z7,z8] _;obtain ⟨x,ex⟩:=jV (args:=(mCons (mVar 0) (mCons (mBin dAdd (mBin dRep (mK (.int 10)) (mPk 1)) (mPk 5)) mNil))) (ρ:= [C,K1,P2,N3,some (.val (.int l)),J5,WO,z7,z8]) (c:=c) (j:=10*(k:Int)+(j:Nat)) (CC (a:= .val (.int c)) rfl (CC (a:= .val (.int (10*(k:Int)+(j:Nat)))) (as:= []) ((AY (op:=dAdd) ((AY (op:=dRep) (a:= .val (.int 10)) (b:= .val (.int k)) rfl rfl).trans (MS (cmL (by decide) (by decide)))) (b:= .val (.int (j:Nat))) rfl).trans rfl) rfl)) (by omega) (by omega);refine CA ex ?_
    let X7:Option Sl:=some (.val (.int x))
    show Wp _ [C,K1,P2,N3,some (.val (.int l)),J5,WO,X7,z8] _;obtain ⟨y,ey,by1⟩:=IY (fa:=mBin E2 (mPk 7) (mK (.int 2))) (fb:=mPk 2) (ρ:= [C,K1,P2,N3,some (.val (.int l)),J5,WO,X7,z8]) (i:=(x:Int).fdiv 2) (m:=p) ((AY (op:=E2) (a:= .val (.int x)) (b:= .val (.int 2)) rfl rfl).trans (NZ (by decide) (by decide))) rfl (by omega)
    obtain ⟨r8,e8,b8⟩:∃r8:Nat,(mBin dRep (mBin F3 (mBin E2 (mPk 7) (mK (.int 2))) (mPk 2)) (mCallP dInt (mConsP (mBin dGt (mBin dAdd (mBin F3 (mPk 7) (mK (.int 2))) (mBin F3 (mBin E2 (mPk 0) (mK (.int 11))) (mK (.int 2)))) (mK (.int 0))) mNilP))) [C,K1,P2,N3,some (.val (.int l)),J5,WO,X7,z8]=some (.val (.int r8))/\r8<p:=by
     obtain ⟨a,ea,_⟩:=IY (fa:=mPk 7) (fb:=mK (.int 2)) (ρ:= [C,K1,P2,N3,some (.val (.int l)),J5,WO,X7,z8]) (i:=x) rfl rfl (by decide);obtain ⟨b,eb,_⟩:=IY (fa:=mBin E2 (mPk 0) (mK (.int 11))) (fb:=mK (.int 2)) (ρ:= [C,K1,P2,N3,some (.val (.int l)),J5,WO,X7,z8]) (i:=c.fdiv 11) ((AY (op:=E2) (a:= .val (.int c)) (b:= .val (.int 11)) rfl rfl).trans (NZ (by decide) (by decide))) rfl (by decide);have eg:(mCallP dInt (mConsP (mBin dGt (mBin dAdd (mBin F3 (mPk 7) (mK (.int 2))) (mBin F3 (mBin E2 (mPk 0) (mK (.int 11))) (mK (.int 2)))) (mK (.int 0))) mNilP)) [C,K1,P2,N3,some (.val (.int l)),J5,WO,X7,z8]=some (.val (.int (if decide ((a:Int)+(b:Int)>0) then 1 else 0))):=CP (ss:= [.val (.bool (decide ((a:Int)+(b:Int)>0)))]) (D4 (as:= []) ((AY (op:=dGt) ((AY (op:=dAdd) ea eb).trans rfl) (b:= .val (.int 0)) rfl).trans rfl) rfl) rfl;generalize decide ((a:Int)+(b:Int)>0)=bb at eg
     cases bb
     . exact ⟨0,((AY (op:=dRep) ey eg).trans (MS (cmR (by decide) (by decide)))).trans (by simp),by omega⟩
     . exact ⟨y,((AY (op:=dRep) ey eg).trans (MS (cmR (by decide) (by decide)))).trans (by simp),by omega⟩
    refine CA e8 ?_;refine GB (P:=fun ρ=>∃(r8:Nat) (l:Int),ρ = [C,K1,P2,N3,some (.val (.int l)),J5,WO,X7,some (.val (.int r8))]/\r8<p) ?_ ?_
    . obtain ⟨q,eq,_⟩:=IY (fa:=mPk 0) (fb:=mK (.int 2)) (ρ:= [C,K1,P2,N3,some (.val (.int l)),J5,WO,X7,some (.val (.int r8))]) (i:=c) rfl rfl (by decide);refine bY (ZS eq rfl) ?_
      cases decide ((q:Int)=1)
      . exact L3 ⟨r8,l,rfl,b8⟩
      . obtain ⟨t,et,bt⟩:=IY (fa:=mPk 4) (fb:=mPk 2) (ρ:= [C,K1,P2,N3,some (.val (.int l)),J5,WO,X7,some (.val (.int r8))]) (i:=l) (m:=p) rfl rfl (by omega);exact CA et (KF (r:= .val (.int (l.fdiv p))) ((AY (op:=E2) (a:= .val (.int l)) (b:= .val (.int p)) rfl rfl).trans (NZ (by omega) (by omega))) ⟨t,_,rfl,by omega⟩)
    . rintro ρ ⟨r8,l,rfl,b8⟩;refine IV (XN (VX (r:= .val (.int r8)) (ds:=nl w) rfl rfl (by rw [JM];omega)) ⟨w ++ [r8],l,J5,X7,some (.val (.int r8)),?_,by simp [hw],?_⟩)
      . rw [OF];rfl
      . intro r hr';rcases AW.mp hr' with h | h
        . exact hr r h
        . cases A4.mp h
          exact b8
  . rintro ρ ⟨w,l,z5,z7,z8,rfl,hw,hr⟩;exact DF (r:= .val (AM w)) rfl ⟨w,_,rfl,hw,hr⟩
 obtain ⟨o,h1,w,ρ',rfl,h2⟩:=key;exact ⟨w,JT (ρ:= [C,K1,P2,N3,none,none,none,none,none]) rfl rfl ⟨ρ',h1⟩,h2⟩
def enP(q:Nat×Nat):PyData:= .tuple [.int (q.1:Int), .int (q.2:Int)]
theorem PX:∀a b:List Nat,LX (nl a) (nl b)=(List.zip a b).map enP
 | [],_=>by simp [LX,nl]
 | _::_,[]=>by simp [LX,nl]
 | x::a,y::b=>by
  have:=PX a b;unfold LX nl at this ⊢
  simp only [B1,uL,A70,this];rfl
theorem W3{a b:List Nat}{q:Nat×Nat}(h:q ∈ List.zip a b):q.1 ∈ a/\q.2 ∈ b:=A99 h
theorem fW{p n:Nat}(p2:2<=p)(p7:p<=7)(n6:n<=6)(cs:List Int)(hc:cs.length<=900):∃W:List (List Nat),RY [.list (il cs), .int p, .int n]=some (.own (W.map AM))/\W.length=cs.length/\∀w ∈ W,NF p n w:=by
 have sl:=F5
 let CS:Option Sl:=some (.val (.list (il cs)))
 let P1:Option Sl:=some (.val (.int p))
 let N2:Option Sl:=some (.val (.int n))
 have key:Wp b_q14 [CS,P1,N2,none,none,none,none] (fun o=>∃(W:List (List Nat)) (ρ':En),o = .rt (.own (W.map AM)) ρ'/\W.length=cs.length/\∀w ∈ W,NF p n w):=by
  unfold b_q14;refine CA MX ?_;refine GB (P:=fun ρ=>∃(W:List (List Nat)) (z4 z5 z6:Option Sl),ρ = [CS,P1,N2,some (.own (W.map AM)),z4,z5,z6]/\W.length=cs.length/\∀w ∈ W,NF p n w) ?_ ?_
  . refine IJ (en:=PyData.int) (xs:=cs) (fun i ρ=>∃(W:List (List Nat)) (z4 z5 z6:Option Sl),ρ = [CS,P1,N2,some (.own (W.map AM)),z4,z5,z6]/\W.length=i/\∀w ∈ W,NF p n w) rfl ⟨[],_,_,_,rfl,rfl,by simp⟩ ?_ (fun ρ h=>h);rintro i c ρ hi ⟨W,z4,z5,z6,rfl,hW,hw⟩;obtain ⟨hil,_⟩:=AQ.mp hi;refine ⟨_,rfl,?_⟩;obtain ⟨w,ew,ok⟩:=kJ c (k:=1) (by decide) p2 p7 n6
    let C4:Option Sl:=some (.val (.int c))
    let WO:Option Sl:=some (.own (W.map AM))
    refine CA (r:= .val (AM w)) (CU (ds:= [.int c, .int (1:Nat), .int p, .int n]) rfl ew) ?_;show Wp _ [CS,P1,N2,WO,C4,some (.val (AM w)),z6] _;refine GB (P:=fun ρ=>∃(w:List Nat) (z6:Option Sl),ρ = [CS,P1,N2,WO,C4,some (.val (AM w)),z6]/\NF p n w) ?_ ?_
    . let ρ0:En:= [CS,P1,N2,WO,C4,some (.val (AM w)),z6]
      obtain ⟨a,ea,_⟩:=IY (fa:=mPk 4) (fb:=mK (.int 2)) (ρ:=ρ0) (i:=c) rfl rfl (by decide);obtain ⟨b,eb,_⟩:=IY (fa:=mBin E2 (mPk 4) (mK (.int 5))) (fb:=mK (.int 4)) (ρ:=ρ0) (i:=c.fdiv 5) ((AY (op:=E2) (a:= .val (.int c)) (b:= .val (.int 5)) rfl rfl).trans (NZ (by decide) (by decide))) rfl (by decide)
      have eg:(mTest (mBin dGt (mCallP dLen (mConsP (mPk 3) mNilP)) (mK (.int 0)))) ρ0=some (decide (((W.length:Nat):Int)>0)):=by
       refine GR ((AY (op:=dGt) (a:= .val (.int ((W.length:Nat):Int))) (b:= .val (.int 0)) (CP (ss:= [.own (W.map AM)]) rfl ?_) rfl).trans rfl);show some (Sl.val (.int ((W.map AM).length:Nat)))=_;rw [AA]
      refine bY (mH (ZS ea rfl) (mH eg (ZS eb rfl))) ?_;generalize hb:(decide ((a:Int)=0) && (decide (((W.length:Nat):Int)>0) && decide ((b:Int)=0)))=bb
      cases bb
      . exact L3 ⟨w,z6,rfl,ok⟩
      . have hpos : 0 < W.length := by
         simp only [GI,K7] at hb
         omega
        have g1:W[W.length - 1]? = some W[W.length - 1]:=AE (by omega);have g0:W[0]? = some W[0]:=AE hpos;have o1:=hw _ (BC g1);have o0:=hw _ (BC g0);generalize W[W.length - 1]=wl at g1 o1
        generalize W[0]=wf at g0 o0
        refine CA (r:= .val (AM wl)) ((AY (op:=dix) (a:= .own (W.map AM)) (b:= .val (.int ((W.length - 1:Nat):Int))) rfl ?_).trans (JX (.inl rfl) (by rw [B5,g1];rfl))) ?_
        . refine (AY (op:=dSub) (a:= .val (.int ((W.length:Nat):Int))) (b:= .val (.int 1)) (CP (ss:= [.own (W.map AM)]) rfl ?_) rfl).trans ?_
          . show some (Sl.val (.int ((W.map AM).length:Nat)))=_;rw [AA]
          . show some (Sl.val (.int (((W.length:Nat):Int) - 1)))=_;rw [show ((W.length:Nat):Int) - 1=((W.length - 1:Nat):Int) by omega]
        . let ρ1:En:= [CS,P1,N2,WO,C4,some (.val (AM w)),some (.val (AM wl))]
          let el:Nat×Nat->Int:=fun q=>((q.1:Int)*(1+c.fmod p)+(q.2:Int)*((c.fdiv 7).fmod 2)).fmod p
          let nw:List Nat:=(List.zip wl wf).map fun q=>(el q).toNat
          have el0:∀q,0<=el q/\el q<p:=fun q=>⟨KD _ (by omega),A69 _ (by omega)⟩;have zl:(List.zip wl wf).length=n:=by rw [JG,o1.1,o0.1,Nat.min_self]
          refine IV (KF (r:= .val (AM nw)) (CP (D4 (a:= .own (nl nw)) (as:= []) (JA (ds:=(List.zip wl wf).map enP) ?_ ?_ ?_) rfl) rfl) ⟨nw,some (.val (AM wl)),rfl,by simp [nw,zl],?_⟩)
          . have ar:(mCons (mVar 6) (mCons (mBin dix (mPk 3) (mK (.int 0))) mNil)) ρ1=some [AM wl,AM wf]:=CC (a:= .val (AM wl)) rfl (CC (a:= .val (AM wf)) (as:= []) ((AY (op:=dix) (a:= .own (W.map AM)) (b:= .val (.int ((0:Nat):Int))) rfl rfl).trans (JX (.inl rfl) (by rw [List.getElem?_map,g0];rfl))) rfl);show KR (mCons (mVar 6) (mCons (mBin dix (mPk 3) (mK (.int 0))) mNil)) ρ1=_;unfold KR;rw [ar];show some (LX (nl wl) (nl wf))=_;rw [PX]
          . rw [AA];omega
          . refine (EB (en:=enP) (g:=fun q=> .int (((el q).toNat:Nat):Int)) (xs:=List.zip wl wf) fun q hq=> ?_).trans (by simp [nl,nw]);have zm:=W3 hq;have b1:=o1.2 _ zm.1;have b2:=o0.2 _ zm.2;rw [MG (el0 q).1];have f2a:=KD (c.fdiv 7) (show (0:Int)<2 by decide);exact KH (fg:=gTupD [gVar 2,gVar 3]) (ρ0:= [C4,P1,none,none]) (d:=enP q) (ρ1:= [C4,P1,some (.val (.int (q.1:Nat))),some (.val (.int (q.2:Nat)))]) (r:= .val (.int (el q))) rfl ((AY (op:=F3) ((AY (op:=dAdd) ((AY (op:=dRep) (a:= .val (.int (q.1:Nat))) rfl ((AY (op:=dAdd) (a:= .val (.int 1)) rfl ((AY (op:=F3) (a:= .val (.int c)) (b:= .val (.int p)) rfl rfl).trans (QC (by omega)))).trans rfl)).trans (MS (cmL (by omega) (by omega)))) ((AY (op:=dRep) (a:= .val (.int (q.2:Nat))) rfl ((AY (op:=F3) ((AY (op:=E2) (a:= .val (.int c)) (b:= .val (.int 7)) rfl rfl).trans (NZ (by decide) (by decide))) (b:= .val (.int 2)) rfl).trans (QC (by decide)))).trans (MS (cmL (by omega) (by omega))))).trans rfl) (b:= .val (.int p)) rfl).trans (QC (by omega)))
          . intro r hr;obtain ⟨q,_,rfl⟩:=AL.mp hr;have:=el0 q;show (el q).toNat<p;omega
    . rintro ρ ⟨w,z6,rfl,ok⟩;refine IV (XN (VX (r:= .val (AM w)) (ds:=W.map AM) rfl rfl (by rw [AA];omega)) ⟨W ++ [w],C4,some (.val (AM w)),z6,?_,by simp [hW],?_⟩)
      . rw [D8];rfl
      . intro v hv;rcases AW.mp hv with h | h
        . exact hw v h
        . cases A4.mp h
          exact ok
  . rintro ρ ⟨W,z4,z5,z6,rfl,hW,hw⟩;exact DF rfl ⟨W,_,rfl,hW,hw⟩
 obtain ⟨o,h1,W,ρ',rfl,h2⟩:=key;exact ⟨W,JT (ρ:= [CS,P1,N2,none,none,none,none]) rfl rfl ⟨ρ',h1⟩,h2⟩
def VP(w x:List Nat):Nat:=((List.zip w x).map fun q=>q.1*q.2).sum
theorem YK(l:List Nat):(l.map fun n:Nat=>(n:Int)).sum=((l.sum:Nat):Int):=by
 induction l with
 | nil=>rfl
 | cons a l ih=>simp only [B1,GZ,ih,Int.natCast_add]
theorem j4 {p : Nat} (hp : 0 < p) {w x : List Nat} (hw : w.length <= 900) (hx : ∀ r ∈ w, r <= 1000) {ρ : En} (h0 : (ρ[0]?).join = some (.val (.int p))) (h1 : (ρ[1]?).join = some (.val (AM w))) (h2 : (ρ[2]?).join = some (.val (AM x))) :
 (mBin F3 (mCallP dSum (mConsP (mLC (E1 [none,none]) (KR (mCons (mVar 1) (mCons (mVar 2) mNil))) (gTupD [(gVar 0),(gVar 1)]) mYes (mBin dRep (mPk 0) (mPk 1))) mNilP)) (mPk 0)) ρ=some (.val (.int ((VP w x % p:Nat):Int))):=by
 have sl:=F5;have v1:mVar 1 ρ=some (.val (AM w)):=by unfold mVar;rw [h1]
 have v2:mVar 2 ρ=some (.val (AM x)):=by unfold mVar;rw [h2]
 have zi:KR (mCons (mVar 1) (mCons (mVar 2) mNil)) ρ=some ((List.zip w x).map enP):=by
  unfold KR;rw [CC v1 (CC v2 (show mNil ρ=some [] from rfl))];show some (LX (nl w) (nl x))=_;rw [PX]
 have zl:((List.zip w x).map enP).length<sizeLine:=by
  rw [AA,JG];omega
 have sm:(mCallP dSum (mConsP (mLC (E1 [none,none]) (KR (mCons (mVar 1) (mCons (mVar 2) mNil))) (gTupD [(gVar 0),(gVar 1)]) mYes (mBin dRep (mPk 0) (mPk 1))) mNilP)) ρ=some (.val (.int ((VP w x:Nat):Int))):=by
  refine CP (D4 (a:= .own (nl ((List.zip w x).map fun q=>q.1*q.2))) (as:= []) (JA zi zl ?_) rfl) ?_
  . refine (EB (en:=enP) (g:=fun q=> .int ((q.1*q.2:Nat):Int)) (xs:=List.zip w x) fun q hq=> ?_).trans (by simp [nl]);have b1:=hx _ (W3 hq).1;refine KH (fg:=gTupD [gVar 0,gVar 1]) (ρ0:= [none,none]) (d:=enP q) (ρ1:= [some (.val (.int (q.1:Nat))),some (.val (.int (q.2:Nat)))]) (r:= .val (.int ((q.1*q.2:Nat):Int))) rfl ((AY (op:=dRep) (a:= .val (.int (q.1:Nat))) (b:= .val (.int (q.2:Nat))) rfl rfl).trans ((MS (cmL (by omega) (by omega))).trans (by rw [FZ])))
  . have e:nl ((List.zip w x).map fun q=>q.1*q.2)=il (((List.zip w x).map fun q=>q.1*q.2).map fun n:Nat=>(n:Int)):=by simp [nl,il]
    show (FT (nl _)).map _=_;rw [e,NJ,JE,YK];rfl
 have v0:mPk 0 ρ=some (.val (.int p)):=h0;refine (AY (op:=F3) sm v0).trans ((QC (by omega)).trans ?_);rw [FQ _ (by omega)];rfl
theorem eI{p:Nat}(hp:0<p){w x:List Nat}(hw:w.length<=900)(hx:∀r ∈ w,r<=1000):kO [.int p,AM w,AM x]=some (.val (.int ((VP w x % p:Nat):Int))):=by
 refine FR (ρ:= [some (.val (.int p)),some (.val (AM w)),some (.val (AM x))]) rfl rfl ?_;unfold b_q5;exact DF (j4 hp hw hx rfl rfl rfl) rfl
theorem dQ {p : Nat} (hp : 0 < p) {w x : List Nat} (hw : w.length <= 900) (hx : ∀ r ∈ w, r <= 1000) {ρ : En} (h0 : (ρ[0]?).join = some (.val (.int p))) (h1 : (ρ[1]?).join = some (.val (.list (nl w)))) (h2 : (ρ[2]?).join = some (.val (AM x))) :
 (mBin F3 (mCallP dSum (mConsP (mLC (E1 [none,none]) (SG (mCons (mVar 1) (mCons (mVar 2) mNil))) (gTupD [(gVar 0),(gVar 1)]) mYes (mBin dRep (mPk 0) (mPk 1))) mNilP)) (mPk 0)) ρ=some (.val (.int ((VP w x % p:Nat):Int))):=by
 have sl:=F5;have v1:mVar 1 ρ=some (.val (.list (nl w))):=by unfold mVar;rw [h1]
 have v2:mVar 2 ρ=some (.val (AM x)):=by unfold mVar;rw [h2]
 have zi:SG (mCons (mVar 1) (mCons (mVar 2) mNil)) ρ=some ((List.zip w x).map enP):=by
  unfold SG;rw [CC v1 (CC v2 (show mNil ρ=some [] from rfl))];show some (LX (nl w) (nl x))=_;rw [PX]
 have zl:((List.zip w x).map enP).length<sizeLine:=by
  rw [AA,JG];omega
 have sm:(mCallP dSum (mConsP (mLC (E1 [none,none]) (SG (mCons (mVar 1) (mCons (mVar 2) mNil))) (gTupD [(gVar 0),(gVar 1)]) mYes (mBin dRep (mPk 0) (mPk 1))) mNilP)) ρ=some (.val (.int ((VP w x:Nat):Int))):=by
  refine CP (D4 (a:= .own (nl ((List.zip w x).map fun q=>q.1*q.2))) (as:= []) (JA zi zl ?_) rfl) ?_
  . refine (EB (en:=enP) (g:=fun q=> .int ((q.1*q.2:Nat):Int)) (xs:=List.zip w x) fun q hq=> ?_).trans (by simp [nl]);have b1:=hx _ (W3 hq).1;refine KH (fg:=gTupD [gVar 0,gVar 1]) (ρ0:= [none,none]) (d:=enP q) (ρ1:= [some (.val (.int (q.1:Nat))),some (.val (.int (q.2:Nat)))]) (r:= .val (.int ((q.1*q.2:Nat):Int))) rfl ((AY (op:=dRep) (a:= .val (.int (q.1:Nat))) (b:= .val (.int (q.2:Nat))) rfl rfl).trans ((MS (cmL (by omega) (by omega))).trans (by rw [FZ])))
  . have e:nl ((List.zip w x).map fun q=>q.1*q.2)=il (((List.zip w x).map fun q=>q.1*q.2).map fun n:Nat=>(n:Int)):=by simp [nl,il]
    show (FT (nl _)).map _=_;rw [e,NJ,JE,YK];rfl
 have v0:mPk 0 ρ=some (.val (.int p)):=h0;refine (AY (op:=F3) sm v0).trans ((QC (by omega)).trans ?_);rw [FQ _ (by omega)];rfl
theorem dC{p:Nat}(hp:0<p){w x:List Nat}(hw:w.length<=900)(hx:∀r ∈ w,r<=1000):YL [.int p, .list (nl w),AM x]=some (.val (.int ((VP w x % p:Nat):Int))):=by
 refine FR (ρ:= [some (.val (.int p)),some (.val (.list (nl w))),some (.val (AM x))]) rfl rfl ?_;unfold b_q19;exact DF (dQ hp hw hx rfl rfl rfl) rfl
theorem mM(p n:Nat):(List.replicate n [PyData.int (p:Int)]).flatten=nl (List.replicate n p):=by
 induction n with
 | zero=>rfl
 | succ n ih=>rw [BV,EF,ih,BV];rfl
theorem SI(p n:Nat):Tr.prodN (List.replicate n p)=p ^ n:=by
 induction n with
 | zero=>rfl
 | succ n ih=>rw [BV,Tr.prodN,ih,GV,K5]
theorem WU{α β:Type}(g:α->Nat->β)(c:Nat):∀xs:List α,(xs.flatMap fun u=>(List.range c).map (g u)).length=xs.length*c
 | []=>by simp
 | x::xs=>by rw [G6,AZ,WU g c xs];simp [K3,WD]
theorem lD(p n:Nat):List.replicate (n+1) p=List.replicate n p ++ [p]:=List.replicate_succ'
theorem ZE{p n:Nat}(hp:2<=p)(p7:p<=7)(n6:n<=6)(hpn:p ^ n<=125):∃s:Sl,UL [.int p, .int n]=some s/\s.dat = .list ((Tr.allT (List.replicate n p)).map AM):=by
 have sl:=F5
 let P0:Option Sl:=some (.val (.int p))
 let N1:Option Sl:=some (.val (.int n))
 have pw:∀j,j<=n->p ^ j<=125:=fun j hj=>BG (G8 (by omega) hj) hpn
 have key:Wp b_q11 [P0,N1,none,none,none,none] (fun o=>∃(s:Sl) (ρ':En),o = .rt s ρ'/\s.dat = .list ((Tr.allT (List.replicate n p)).map AM)):=by
  unfold b_q11;refine CA (r:= .own [AM []]) (VC (a:= .val (AM [])) (if_pos (e:=none) (show 0<=sizeLine by decide))) ?_;refine GB (P:=fun ρ=>∃(s2:Sl) (z3 z4 z5:Option Sl),s2.dat = .list ((Tr.allT (List.replicate n p)).map AM)/\ρ = [P0,N1,some s2,z3,z4,z5]) ?_ ?_
  . refine LP (n:=n) (fun j ρ=>∃(s2:Sl) (z3 z4 z5:Option Sl),s2.dat = .list ((Tr.allT (List.replicate j p)).map AM)/\ρ = [P0,N1,some s2,z3,z4,z5]) (JV (j:=n) rfl (by omega)) ⟨_,_,_,_,rfl,rfl⟩ ?_ (fun ρ h=>h);rintro j ρ hj ⟨s2,z3,z4,z5,hs2,rfl⟩;refine ⟨_,rfl,?_⟩
    let J3:Option Sl:=some (.val (.int (j:Nat)))
    refine CA MX ?_
    let B:=Tr.allT (List.replicate j p)
    let S2:Option Sl:=some (.val (.list (B.map AM)))
    have fz:frz1 2 [P0,N1,some s2,J3,some (.own []),z5] = [P0,N1,S2,J3,some (.own []),z5]:=by
     cases s2 with
     | val d=>cases hs2;rfl
     | own ds=>cases hs2;rfl
     | dct _=>cases hs2
    let g:List Nat->Nat->List Nat:=fun u s=>u ++ [s]
    have bs:Tr.allT (List.replicate (j+1) p)=B.flatMap fun u=>(List.range p).map (g u):=by rw [lD,Tr.allT_snoc _ _ (by omega)]
    have bl:B.length=p ^ j:=by simp [B,Tr.allT,SI]
    refine GB (P:=fun ρ=>∃z5,ρ = [P0,N1,S2,J3,some (.own ((Tr.allT (List.replicate (j+1) p)).map AM)),z5]) ?_ ?_
    . refine IV ?_;show Wp _ (frz1 2 [P0,N1,some s2,J3,some (.own []),z5]) _;rw [fz];refine IJ (en:=AM) (xs:=B) (fun k ρ=>∃z5,ρ = [P0,N1,S2,J3,some (.own (((B.take k).flatMap fun u=>(List.range p).map (g u)).map AM)),z5]) rfl ⟨_,rfl⟩ ?_ ?_
      . rintro k u ρ hk ⟨z5,rfl⟩;have tk2:B.take (k+1)=B.take k ++ [u]:=by rw [G7,hk];rfl
        have lu:u.length<=6:=by
         have:=Tr.tri_len (List.replicate j p);obtain ⟨y,_,rfl⟩:=AL.mp (BC hk);rw [this,BY];omega
        refine ⟨_,rfl,KF (r:= .own (((B.take (k+1)).flatMap fun u=>(List.range p).map (g u)).map AM)) ?_ ⟨_,rfl⟩⟩;refine (AY (op:=dAdd) (a:= .own (((B.take k).flatMap fun u=>(List.range p).map (g u)).map AM)) rfl (JA (ds:=HH 0 p) (es:=((List.range p).map (g u)).map AM) (JV (j:=p) rfl (by omega)) (by rw [show (HH 0 p).length=p by simp [HH]];omega) ?_)).trans ?_
        . refine (QY (g:=fun s=>AM (u ++ [s])) fun s hs=>KH (fg:=gVar 1) (ρ0:= [some (.val (AM u)),none]) (d:= .int (0+(s:Nat))) (r:= .val (AM (u ++ [s]))) rfl ?_).trans (by rw [E5];rfl);refine (AY (op:=dAdd) (a:= .val (AM u)) rfl (mX (a:= .val (.int (0+(s:Nat)))) rfl)).trans ?_;show (if (nl u).length+1<=sizeLine then some (Sl.val (.tuple (nl u ++ [.int (0+(s:Nat))]))) else none)=_;rw [AB (by rw [JM];omega),AM,OF,uF];rfl
        . refine (MA rfl rfl ?_).trans ?_
          . rw [<-AZ, <-D8,AA];have e1:((B.take k).flatMap fun u=>(List.range p).map (g u))++(List.range p).map (g u)=(B.take (k+1)).flatMap fun u=>(List.range p).map (g u):=by rw [tk2,IU];simp
            rw [e1,WU,DK]
            have h3:B.length*p<=125:=by
             rw [bl, <-GV];exact pw (j+1) (by omega)
            have:min (k+1) B.length*p<=B.length*p:=LK _ (YM _ _);omega
          . rw [tk2,IU,D8];simp
      . rintro ρ ⟨z5,rfl⟩;refine ⟨z5,?_⟩;rw [B6 (A9 _),bs]
    . rintro ρ ⟨z5,rfl⟩;exact IV (KF (r:= .val (.list ((Tr.allT (List.replicate (j+1) p)).map AM))) rfl ⟨_,_,_,_,rfl,rfl⟩)
  . rintro ρ ⟨s2,z3,z4,z5,hs2,rfl⟩;exact DF rfl ⟨s2,_,rfl,hs2⟩
 obtain ⟨o,h1,s,ρ',rfl,h2⟩:=key;exact ⟨s,JT (ρ:= [P0,N1,none,none,none,none]) rfl rfl ⟨ρ',h1⟩,h2⟩
theorem wS(l:List Int)(lo hi:Option Int):JB (il l) lo hi=il (JB l lo hi):=by
 unfold JB il;rw [List.length_map, <-List.map_drop, <-List.map_take]
theorem aZ(l:List Int)(lo hi:Option Int):(JB l lo hi).length<=l.length:=by
 unfold JB;rw [List.length_take,List.length_drop];omega
theorem P5(l:List Nat):(AM l).canLay0=true:=N0 (en:=fun n:Nat=>PyData.int (n:Int)) (fun _=>rfl) l
theorem aF(l:List Nat):(AM l).depth<=3:=by
 have:=N4 (en:=fun n:Nat=>PyData.int (n:Int)) (k:=1) (fun x=>by simp [PyData.depth]) l;simp only [AM,PyData.depth,nl];omega
theorem uX(M:List (List Nat)):(PyData.list (M.map AM)).canLay0=true:=N0 (en:=AM) P5 M
theorem vP(M:List (List Nat)):(PyData.list (M.map AM)).depth<=5:=by
 have:=N4 (en:=AM) (k:=3) aF M;simp only [PyData.depth];omega
theorem lC{α:Type}(xs:List α):dAll [.own (xs.map fun _=>PyData.bool true)]=some (.val (.bool true)):=by
 have:∀xs:List α,ME (xs.map fun _=>PyData.bool true)=some (xs.map fun _=>true):=by
  intro xs
  induction xs with
  | nil=>rfl
  | cons x xs ih=>rw [B1,ME,ih];rfl
 show (ME (xs.map fun _=>PyData.bool true)).map _=_;rw [this,JE];congr 3
 simp
theorem eU{X:List (List Nat)}(hX:∀x ∈ X,x.length<=900):gZ [.list (X.map AM), .list (X.map AM)]=some (.val (.bool true)):=by
 have sl:=F5
 let A:Option Sl:=some (.val (.list (X.map AM)))
 have dx:=vP X;refine FR (ρ:= [A,A,none]) rfl rfl ?_;unfold b_q6;refine RK (cV (k:=false) (l:=false) rfl ((YT (i:=((X.map AM).length:Nat)) (j:=((X.map AM).length:Nat)) rfl rfl).trans (by simp))) ?_;refine GB (P:=fun ρ=>∃z,ρ = [A,A,z]) ?_ ?_
 . refine IJ (en:=AM) (xs:=X) (fun _ ρ=>∃z,ρ = [A,A,z]) rfl ⟨_,rfl⟩ ?_ (fun ρ h=>h);rintro j x ρ hj ⟨z,rfl⟩;have hx:=hX x (BC hj);refine ⟨_,rfl,QJ (cV (k:=false) (l:=false) rfl (QF (k:=true) (GR (CP (ss:= [.own (x.map fun _=>PyData.bool true)]) (D4 (a:= .own (x.map fun _=>PyData.bool true)) (as:= []) (JA (ds:=nl x) rfl (by rw [JM];omega) ?_) rfl) (lC _))))) (L3 ⟨_,rfl⟩)⟩;exact EB (en:=enN) (xs:=x) fun s _=>KH (fg:=gVar 0) (ρ0:= [none]) (d:= .int (s:Nat)) (r:= .val (.bool true)) rfl (CU (ds:= [.int (s:Nat)]) rfl (fO _))
 . rintro ρ ⟨z,rfl⟩;exact DF (bH (a:= .val (.list (X.map AM))) (b:= .val (.list (X.map AM))) rfl rfl rfl (uX X) (by show (PyData.list (X.map AM)).depth<=60;omega)) rfl
theorem i7:∀a b:List Nat,PyData.eqvAll (nl a) (nl b)=decide (a=b)
 | [],[]=>by simp [nl,PyData.eqvAll]
 | [],_::_=>by simp [nl,PyData.eqvAll]
 | _::_,[]=>by simp [nl,PyData.eqvAll]
 | x::a,y::b=>by
  have:=i7 a b;simp only [nl] at this
  simp only [nl,B1,PyData.eqvAll,this,PyData.eqv]
  by_cases h:x=y
  . subst h;simp
  . have:¬((x:Int)=(y:Int)):=by omega
    simp [h,this]
theorem rO(a b:List Nat):PyData.eqv (AM a) (AM b)=decide (a=b):=by
 unfold AM;simp only [PyData.eqv];exact i7 a b
theorem dN(e:List Nat)(M:List (List Nat)):inD true (AM e) (M.map AM)=some (.val (.bool (decide (e ∉ M)))):=by
 have dt:=aF e;unfold inD;rw [if_pos ⟨P5 e,by simp [P5],by omega⟩];congr 3
 simp only [GD,List.any_map]
 have:(M.any ((fun d=>PyData.eqv d (AM e)) ∘ AM))=decide (e ∈ M):=by
  induction M with
  | nil=>simp
  | cons m M ih=>
   rw [LG,ih];show (PyData.eqv (AM m) (AM e) || _)=_;rw [rO]
   by_cases h:m=e
   . subst h;simp
   . have h':e≠m:=fun z=>h z.symm;simp [h,h']
 rw [this];simp
open Classical in
def cnt(cs:List (List Key))(k:List Key):Nat:=(cs.filter fun j=>decide (j=k)).length
open Classical in
theorem SZ{f:List Key->Nat}{k:List Key}:∀ {ks:List (List Key)},ks.Nodup->(ks.map fun j=>f j+if j=k then 1 else 0).sum=(ks.map f).sum+if k ∈ ks then 1 else 0
 | [],_=>by simp
 | a::ks,h=>by
  obtain ⟨h1,h2⟩:=FY.mp h;rw [B1,B1,GZ,GZ,SZ h2]
  by_cases e:a=k
  . subst e;rw [AB rfl,A8 h1,AB AU];omega
  . rw [A8 e]
    by_cases m:k ∈ ks
    . rw [AB m,AB (AK _ m)];omega
    . rw [A8 m,A8 (fun z=>by rcases AJ.mp z with z | z;exact e z.symm;exact m z)];omega
def F7(cs ks:List (List Key)):List (PyData×PyData):=ks.map fun k=>(tupD k, .int ((cnt cs k:Nat):Int))
open Classical in
theorem LU{cs:List (List Key)}{k:List Key}:∀ {ks:List (List Key)},HR (F7 cs ks) k=if k ∈ ks then some (.int ((cnt cs k:Nat):Int)) else none
 | []=>by simp [F7,HR]
 | a::ks=>by
  show HR ((tupD a, .int ((cnt cs a:Nat):Int))::F7 cs ks) k=_;rw [HR]
  by_cases e:a=k
  . subst e;rw [AB rfl,AB AU]
  . rw [A8 fun z=>e (PH z),LU]
    by_cases m:k ∈ ks
    . rw [AB m,AB (AK _ m)]
    . rw [A8 m,A8 (fun z=>by rcases AJ.mp z with z | z;exact e z.symm;exact m z)]
open Classical in
theorem PU(cs:List (List Key))(k j:List Key):cnt (cs ++ [k]) j=cnt cs j+if j=k then 1 else 0:=by
 unfold cnt;rw [List.filter_append,List.length_append];congr 1
 by_cases e:j=k
 . subst e;rw [AB rfl,IR,AB (AS rfl)];rfl
 . rw [A8 e,IR,A8 (by rw [AV fun z=>e z.symm];exact CF)];rfl
theorem T7{cs:List (List Key)}{k:List Key}(h:¬k ∈ cs):cnt cs k=0:=by
 unfold cnt;rw [List.length_eq_zero_iff,List.filter_eq_nil_iff];intro a ha z;rw [decide_eq_true_iff] at z
 subst z;exact h ha
open Classical in
theorem Y7{cs:List (List Key)}{k:List Key}:∀ {ks:List (List Key)},QV k (.int (((cnt cs k:Nat):Int)+1)) (F7 cs ks)=F7 (cs ++ [k]) ks
 | []=>rfl
 | a::ks=>by
  show QV k _ ((tupD a, .int ((cnt cs a:Nat):Int))::F7 cs ks)=(tupD a, .int ((cnt (cs ++ [k]) a:Nat):Int))::F7 (cs ++ [k]) ks;rw [QV,Y7,PU];congr 1
  by_cases e:a=k
  . subst e;rw [AB rfl,AB rfl];rfl
  . rw [A8 fun z=>e (PH z),A8 e];rfl
structure Cn (cs ks:List (List Key)):Prop where
 nd:ks.Nodup
 mem:∀k,k ∈ ks↔k ∈ cs
 sum:(ks.map fun k=>cnt cs k).sum=cs.length
open Classical in
theorem oN{cs ks:List (List Key)}(h:Cn cs ks)(k:List Key):∃ks',Cn (cs ++ [k]) ks'/\WL (F7 cs ks) k (.int (((cnt cs k:Nat):Int)+1))=F7 (cs ++ [k]) ks':=by
 have fn:(fun j=>cnt (cs ++ [k]) j)=fun j=>cnt cs j+if j=k then 1 else 0:=funext fun j=>PU cs k j
 by_cases m:k ∈ ks
 . refine ⟨ks,⟨h.nd,fun j=> ?_,?_⟩,?_⟩
   . rw [h.mem,AW,A4];exact ⟨.inl,fun z=>by rcases z with z | z;exact z;subst z;exact (h.mem j).mp m⟩
   . rw [fn,SZ h.nd,h.sum,AB m,AZ];rfl
   . unfold WL;rw [LU,if_pos m];exact Y7
 . have c0:cnt cs k=0:=T7 fun z=>m ((h.mem k).mpr z);refine ⟨ks ++ [k],⟨?_,fun j=> ?_,?_⟩,?_⟩
   . exact NS.mpr ⟨h.nd, by simp, fun a ha b hb => by
      rw [A4] at hb
      subst hb;rintro rfl;exact m ha⟩
   . rw [AW,AW,h.mem]
   . rw [fn,D8,List.sum_append,SZ h.nd,h.sum,A8 m,AZ];simp [c0]
   . unfold WL;rw [LU,if_neg m];show F7 cs ks++_=F7 (cs ++ [k]) (ks ++ [k]);unfold F7;rw [List.map_append];congr 1
     . refine BH fun j hj=> ?_;rw [PU,A8 (by rintro rfl;exact m hj),KB]
     . rw [List.map_singleton,PU,AB rfl,c0];rfl
def kN(b:List Nat):List Key:=b.map fun n:Nat=> .inl (n:Int)
theorem VN(b:List Nat):tupD (kN b)=AM b:=by
 unfold tupD kN AM nl;rw [List.map_map];rfl
theorem ZI{a b:List Nat}(h:kN a=kN b):a=b:=by
 unfold kN at h
 exact A64 (fun x y e=>by cases e;rfl) |>.mp h
theorem OG:∀k:List Key,QA (k.map keyD)=some k
 | []=>rfl
 | .inl i::k=>by
  show (Z7 (.int i)).bind (fun a=>(QA (k.map keyD)).map (a :: ·))=_;rw [OG k]
  rfl
 | .inr x::k=>by
  show (Z7 (.str x)).bind (fun a=>(QA (k.map keyD)).map (a :: ·))=_;rw [OG k];rfl
theorem S9(k:List Key):MO (tupD k)=some k:=OG k
theorem O6(k:List Nat):MO (AM k)=some (kN k):=by rw [<-VN];exact S9 _
theorem VE(cs ks:List (List Key)):unD (F7 cs ks)=F7 cs ks:=by
 cases ks <;> rfl
theorem aW{cs:List (List Key)}{k:List Key}(h:k ∈ cs):1<=cnt cs k:=by
 unfold cnt;exact List.length_pos_of_mem (List.mem_filter.mpr ⟨h,decide_eq_true rfl⟩)
theorem u0{cs ks:List (List Key)}(h:Cn cs ks):ks.length<=cs.length:=by
 rw [<-h.sum]
 have gen:∀l:List (List Key),(∀k ∈ l,k ∈ cs)->l.length<=(l.map fun k=>cnt cs k).sum:=by
  intro l
  induction l with
  | nil=>intro _;exact A9 _
  | cons a l ih=>
   intro hm;have h1:=ih fun k hk=>hm k (AK _ hk);have h2:=aW (hm a AU);rw [B1,GZ,B4];omega
 exact gen ks fun k hk=>(h.mem k).mp hk
theorem vK{x:List Nat}{d:Nat}(h:d<x.length):(nl x)[d]? = some (.int ((x.getD d 0:Nat):Int)):=by
 unfold nl;rw [List.getElem?_map,List.getD,List.getElem?_eq_getElem h];rfl
theorem aV{x c:List Nat}{dx:PyData}(hx:dx = .tuple (nl x)\/dx = .list (nl x))(hc:∀d ∈ c,d<x.length)(hl:c.length<=900):(mLC (E1 [some 0,none]) (CD (mVar 1)) (gVar 1) mYes (mBin dix (mPk 0) (mPk 1))) [some (.val dx),some (.val (.list (nl c)))]=some (.own (nl (Ev.ch c x))):=by
 have sl:=F5;refine JA (ds:=nl c) rfl (by rw [JM];omega) ((EB (en:=enN) (g:=fun d=> .int ((x.getD d 0:Nat):Int)) (xs:=c) fun d hd=> ?_).trans (by unfold Ev.ch nl;rw [List.map_map];rfl));refine KH (fg:=gVar 1) (ρ0:= [some (.val dx),none]) (d:= .int (d:Nat)) (ρ1:= [some (.val dx),some (.val (.int (d:Nat)))]) (r:= .val (.int ((x.getD d 0:Nat):Int))) rfl ((AY (op:=dix) (a:= .val dx) (b:= .val (.int (d:Nat))) rfl rfl).trans (JX ?_ (vK (hc d hd))));rcases hx with rfl | rfl
 . exact .inr rfl
 . exact .inl rfl
theorem ZB{x c:List Nat}(hc:∀d ∈ c,d<x.length)(hl:c.length<=900):WM [AM x, .list (nl c)]=some (.val (AM (Ev.ch c x))):=by
 refine FR (ρ:= [some (.val (AM x)),some (.val (.list (nl c)))]) rfl rfl ?_;unfold b_q18;exact DF (CP (ss:= [.own (nl (Ev.ch c x))]) (D4 (as:= []) (aV (.inl rfl) hc hl) rfl) rfl) rfl
theorem NW{L c:List Nat}(hc:∀d ∈ c,d<L.length)(hl:c.length<=900):MM [.list (nl L), .list (nl c)]=some (.own (nl (Ev.lv L c))):=by
 refine FR (ρ:= [some (.val (.list (nl L))),some (.val (.list (nl c)))]) rfl rfl ?_;unfold b_q23;exact DF (aV (.inr rfl) hc hl) rfl
def JS(T:List (List Nat))(c:List Nat):List (List Key):=T.map fun x=>kN (Ev.ch c x)
theorem GO(T:List (List Nat))(c k:List Nat):cnt (JS T c) (kN k)=Ev.count T c k:=by
 unfold cnt JS Ev.count;rw [List.filter_map,List.length_map];congr 1
 refine KC fun x _=> ?_;show (@decide _ _)=_
 by_cases h:Ev.ch c x=k
 . rw [AS h];exact @AS _ _ (show kN (Ev.ch c x)=kN k by rw [h])
 . rw [AV h];exact @AV _ _ fun z=>h (ZI z)
theorem T5{T:List (List Nat)}{c:List Nat}{n:Nat}(hT:T.length<=900)(ht:∀x ∈ T,x.length=n)(hc:∀d ∈ c,d<n)(hl:c.length<=900):∃ks,Cn (JS T c) ks/\S6 [.list (T.map AM), .list (nl c)]=some (.dct (F7 (JS T c) ks)):=by
 have sl:=F5
 let P0:Option Sl:=some (.val (.list (T.map AM)))
 let C1:Option Sl:=some (.val (.list (nl c)))
 have key:Wp b_q17 [P0,C1,none,none,none] (fun o=>∃ks ρ',Cn (JS T c) ks/\o = .rt (.dct (F7 (JS T c) ks)) ρ'):=by
  unfold b_q17;refine CA (r:= .dct []) rfl ?_;refine GB (P:=fun ρ=>∃ks z3 z4,Cn (JS T c) ks/\UI z3=false/\UI z4=false/\ρ = [P0,C1,some (.dct (F7 (JS T c) ks)),z3,z4]) ?_ ?_
  . refine IJ (en:=AM) (xs:=T) (fun j ρ=>∃ks z3 z4,Cn (JS (T.take j) c) ks/\UI z3=false/\UI z4=false/\ρ = [P0,C1,some (.dct (F7 (JS (T.take j) c) ks)),z3,z4]) rfl ⟨[],none,none,⟨gM,fun k=>Iff.rfl,rfl⟩,rfl,rfl,rfl⟩ ?_ (fun ρ h=>by rw [A97] at h;exact h);rintro j x ρ hj ⟨ks,z3,z4,cn,_,d4,rfl⟩;have xl:=ht x (BC hj)
    let cs:=JS (T.take j) c
    let D:=F7 cs ks
    let X3:Option Sl:=some (.val (AM x))
    let k:=kN (Ev.ch c x)
    let K4:Option Sl:=some (.val (AM (Ev.ch c x)))
    refine ⟨_,rfl,?_⟩;refine CA (r:= .val (AM (Ev.ch c x))) (CU (ds:= [AM x, .list (nl c)]) rfl (ZB (fun d hd=>by rw [xl];exact hc d hd) hl)) ?_
    let E:En:= [P0,C1,some (.dct D),X3,K4]
    show Wp _ E _
    have gv:(mBin dAdd (VM (mPk 2) (mPk 4) (mK (.int 0))) (mK (.int 1))) E=some (.val (.int (((cnt cs k:Nat):Int)+1))):=by
     refine (AY (op:=dAdd) (a:= .val (.int ((cnt cs k:Nat):Int))) (b:= .val (.int 1)) ?_ rfl).trans rfl;show (dictOf (.dct D)).bind (fun kvs=>(MO (AM (Ev.ch c x))).map fun k=>Sl.val ((HR kvs k).getD (.int 0)))=_;rw [O6];show some (Sl.val ((HR (unD D) k).getD (.int 0)))=_;rw [VE,LU]
     by_cases mk:k ∈ ks
     . rw [AB mk];rfl
     . rw [A8 mk,T7 fun z=>mk ((cn.mem k).mpr z)];rfl
    obtain ⟨ks',cn',ep⟩:=oN cn k
    have tk:JS (T.take (j+1)) c=cs ++ [k]:=by
     unfold JS;rw [List.take_succ,hj,List.map_append];rfl
    have ll:D.length<sizeLine:=by
     have h1:ks.length<=cs.length:=u0 cn
     have h2:cs.length<=T.length:=by
      show ((T.take j).map _).length<=_;rw [AA,DK];omega
     show (ks.map _).length<_;rw [AA];omega
    refine XN (o:= .nx [P0,C1,some (.dct (WL D k (.int (((cnt cs k:Nat):Int)+1)))),X3,K4]) ?_ ⟨ks',X3,K4,by rw [tk];exact cn',rfl,rfl,by rw [tk, <-ep]⟩;unfold cJ;rw [gv];show (MO (AM (Ev.ch c x))).bind (fun k'=>if D.length<sizeLine/\X0 2 E=true then some (Out.nx (E.set 2 (some (.dct (WL D k' (.int (((cnt cs k:Nat):Int)+1))))))) else none)=_;rw [O6];show (if D.length<sizeLine/\X0 2 E=true then _ else _)=_;rw [if_pos ⟨ll,rfl⟩];rfl
  . rintro ρ ⟨ks,z3,z4,cn,_,_,rfl⟩;exact DF rfl ⟨ks,_,cn,rfl⟩
 obtain ⟨o,h1,ks,ρ',cn,rfl⟩:=key;exact ⟨ks,cn,JT (ρ:= [P0,C1,none,none,none]) rfl rfl ⟨ρ',h1⟩⟩
structure PlanOk (T:List (List Nat)) (L:List Nat):Prop where
 len:T.length<=900
 some_:0<T.length
 ok:∀x ∈ T,Ev.OkT L x
 lev:∀c ∈ L,0<c/\c<=1000
 few:L.length<=6
theorem XH{L c:List Nat}(hL:∀c ∈ L,0<c/\c<=1000)(hc:∀d ∈ c,d<L.length):∀e ∈ Ev.lv L c,0<e/\e<=1000:=fun e he=>by
 obtain ⟨d,hd,rfl⟩:=AL.mp he;have:=hc d hd;rw [List.getD,AE this];exact hL _ (F0 this)
theorem sZ{T:List (List Nat)}{L c:List Nat}(P:PlanOk T L)(hc:∀d ∈ c,d<L.length){x:List Nat}(hx:x ∈ T):Ev.OkT (Ev.lv L c) (Ev.ch c x):=Ev.okT_map.mpr fun d hd=>(P.ok x hx).2 d (hc d hd)
theorem WJ(L:List Nat):(Tr.allT L).length=Tr.prodN L:=by unfold Tr.allT;rw [List.length_map,List.length_range]
theorem FH{L c k:List Nat}(hL:∀c ∈ L,0<c/\c<=1000)(hc:∀d ∈ c,d<L.length):k ∈ Tr.allT (Ev.lv L c)↔Ev.OkT (Ev.lv L c) k:=Ev.allT_mem _ _ _ rfl fun e he=>(XH hL hc e he).1
theorem W1{T:List (List Nat)}{L c:List Nat}{ks:List (List Key)}(P:PlanOk T L)(hc:∀d ∈ c,d<L.length)(cn:Cn (JS T c) ks):(∀k ∈ ks,∃j ∈ Tr.allT (Ev.lv L c),k=kN j)/\ks.length<=Tr.prodN (Ev.lv L c)/\(Tr.prodN (Ev.lv L c)<=ks.length->∀j ∈ Tr.allT (Ev.lv L c),kN j ∈ ks):=by
 have h1:∀k ∈ ks,∃j ∈ Tr.allT (Ev.lv L c),k=kN j:=fun k hk=>by
  obtain ⟨x,hx,rfl⟩:=AL.mp ((cn.mem k).mp hk);exact ⟨Ev.ch c x,(FH P.lev hc).mpr (sZ P hc hx),rfl⟩
 have h2:∀k ∈ ks,k ∈ (Tr.allT (Ev.lv L c)).map kN:=fun k hk=>by
  obtain ⟨j,hj,rfl⟩:=h1 k hk;exact AL.mpr ⟨j,hj,rfl⟩
 have l:((Tr.allT (Ev.lv L c)).map kN).length=Tr.prodN (Ev.lv L c):=by rw [AA,WJ]
 refine ⟨h1,?_,fun hp j hj=> ?_⟩
 . have:=Ev.nd_len cn.nd h2;rw [l] at this
   exact this
 . exact Ev.nd_all cn.nd h2 (by rw [l];exact hp) _ (AL.mpr ⟨j,hj,rfl⟩)
theorem O9{T:List (List Nat)}{c k:List Nat}{ks:List (List Key)}(cn:Cn (JS T c) ks)(h:kN k ∉ ks):Ev.count T c k=0:=by
 rw [<-GO];exact T7 fun z=>h ((cn.mem _).mpr z)
theorem gJ{T:List (List Nat)}{c k:List Nat}{ks:List (List Key)}(cn:Cn (JS T c) ks)(h:kN k ∈ ks):1<=Ev.count T c k:=by
 rw [<-GO];exact aW ((cn.mem _).mp h)
theorem kX(cs ks:List (List Key)):(F7 cs ks).map (·.2)=(ks.map fun k=>((cnt cs k:Nat):Int)).map .int:=by
 unfold F7;rw [List.map_map,List.map_map];rfl
theorem XG{T:List (List Nat)}{L c:List Nat}(P:PlanOk T L)(hc:∀d ∈ c,d<L.length)(hl:c.length<=900):∃b:Bool,UB [.list (T.map AM), .list (nl L), .list (nl c)]=some (.val (.bool b))/\(b=true↔Ev.EvC T L c):=by
 have sl:=F5;obtain ⟨ks,cn,hk⟩:=T5 (c:=c) P.len (fun x hx=>(P.ok x hx).1) hc hl;obtain ⟨k1,k2,k3⟩:=W1 P hc cn
 let P0:Option Sl:=some (.val (.list (T.map AM)))
 let L1:Option Sl:=some (.val (.list (nl L)))
 let C2:Option Sl:=some (.val (.list (nl c)))
 let D:=F7 (JS T c) ks
 let D3:Option Sl:=some (.dct D)
 have len3:(mCallP dLenD (mConsP (mPk 3) mNilP)) [P0,L1,C2,D3]=some (.val (.int (ks.length:Int))):=by
  refine CP (D4 (a:= .dct D) rfl rfl) ?_;show (dictOf (.dct D)).map (fun kvs=>Sl.val (.int ((kvs.length:Nat):Int)))=_;show some (Sl.val (.int (((unD D).length:Nat):Int)))=_;rw [VE];show some (Sl.val (.int (((ks.map _).length:Nat):Int)))=_;rw [AA]
 have prd:(mCall MJ (mCons (mCall MM (mCons (mVar 1) (mCons (mVar 2) mNil))) mNil)) [P0,L1,C2,D3]=some (.val (.int (Tr.prodN (Ev.lv L c):Nat))):=CU (ds:= [.list (nl (Ev.lv L c))]) (CC (a:= .own (nl (Ev.lv L c))) (as:= []) (CU (ds:= [.list (nl L), .list (nl c)]) rfl (NW hc hl)) rfl) (SQ fun e he=>(XH P.lev hc e he).2);have tst:(mTest (mBin dLt (mCallP dLenD (mConsP (mPk 3) mNilP)) (mCall MJ (mCons (mCall MM (mCons (mVar 1) (mCons (mVar 2) mNil))) mNil)))) [P0,L1,C2,D3]=some (decide ((ks.length:Int)<(Tr.prodN (Ev.lv L c):Nat))):=GR ((AY (op:=dLt) len3 prd).trans rfl);have ppos:0<Tr.prodN (Ev.lv L c):=Tr.prodN_pos _ fun e he=>(XH P.lev hc e he).1
 have key:Wp b_q22 [P0,L1,C2,none] (fun o=>∃(b:Bool) (ρ':En),o = .rt (.val (.bool b)) ρ'/\(b=true↔Ev.EvC T L c)):=by
  unfold b_q22;refine CA (CU (ds:= [.list (T.map AM), .list (nl c)]) rfl hk) ?_;show Wp _ [P0,L1,C2,D3] _
  by_cases hlt:ks.length<Tr.prodN (Ev.lv L c)
  . refine NG (OA (tst.trans (by rw [AS (by omega)])) (DF (r:= .val (.bool false)) rfl ⟨false,_,rfl,iff_of_false (by simp) fun ev=> ?_⟩))
    have ⟨j,hj,hn⟩:∃j ∈ Tr.allT (Ev.lv L c),kN j ∉ ks:=by
     refine ET fun z=> ?_;have all:∀j ∈ Tr.allT (Ev.lv L c),kN j ∈ ks:=fun j hj=>ET fun y=>z ⟨j,hj,y⟩
     have nd:((Tr.allT (Ev.lv L c)).map kN).Nodup:=by
      unfold List.Nodup;rw [List.pairwise_map];exact (Ev.allT_nd _ _ rfl fun e he=>(XH P.lev hc e he).1).imp fun h e=>h (ZI e)
     have:=Ev.nd_len nd fun a ha=>by
      obtain ⟨j,hj,rfl⟩:=AL.mp ha;exact all j hj
     rw [AA,WJ] at this
     omega
    obtain ⟨x,hx⟩:=LL P.some_;have c1:1<=Ev.count T c (Ev.ch c x):=gJ cn ((cn.mem _).mpr (AL.mpr ⟨x,hx,rfl⟩));have e:=ev _ _ (sZ P hc hx) ((FH P.lev hc).mp hj);rw [O9 cn hn] at e
    omega
  . refine RK (tst.trans (by rw [AV (by omega)])) ?_;have all:=k3 (by omega);have kne:ks ≠ []:=fun z=>by subst z;simp at hlt;omega
    let ns:=ks.map fun k=>((cnt (JS T c) k:Nat):Int)
    have nsne:ns ≠ []:=fun z=>kne (List.map_eq_nil_iff.mp z)
    have io:FT ((unD D).map (·.2))=some ns:=by
     rw [VE,kX];exact NJ ns
    obtain ⟨lo,hlo⟩:∃m,ns.min? = some m:=by
     cases h:ns.min? with
     | none=>exact absurd (zI.mp h) nsne
     | some m=>exact ⟨m,rfl⟩
    obtain ⟨hi,hhi⟩:∃m,ns.max? = some m:=by
     cases h:ns.max? with
     | none=>exact absurd (zJ.mp h) nsne
     | some m=>exact ⟨m,rfl⟩
    have e1:(cK (mPk 3)) [P0,L1,C2,D3]=some (.val (.int lo)):=by
     show (FT ((unD D).map (·.2))).bind (fun ns=>ns.min?.map fun m=>Sl.val (.int m))=_;rw [io,FN,hlo];rfl
    have e2:(cH (mPk 3)) [P0,L1,C2,D3]=some (.val (.int hi)):=by
     show (FT ((unD D).map (·.2))).bind (fun ns=>ns.max?.map fun m=>Sl.val (.int m))=_;rw [io,FN,hhi];rfl
    refine DF ((AY (op:=deq) e1 e2).trans (VG lo hi)) ⟨decide (lo=hi),_,rfl,?_⟩;obtain ⟨lm,ll⟩:=R3.mp hlo;obtain ⟨hm,hh⟩:=R4.mp hhi;rw [MU]
    constructor
    . rintro rfl k k' hk1 hk2
      have v:∀k,Ev.OkT (Ev.lv L c) k->((Ev.count T c k:Nat):Int)=lo:=fun k ok=>by
       have m:((cnt (JS T c) (kN k):Nat):Int) ∈ ns:=AL.mpr ⟨kN k,all k ((FH P.lev hc).mpr ok),rfl⟩;have a1:=ll _ m;have a2:=hh _ m;rw [<-GO];omega
      have a1:=v k hk1;have a2:=v k' hk2;omega
    . intro ev;obtain ⟨q1,m1,rfl⟩:=AL.mp lm;obtain ⟨q2,m2,rfl⟩:=AL.mp hm;obtain ⟨j1,hj1,rfl⟩:=k1 q1 m1;obtain ⟨j2,hj2,rfl⟩:=k1 q2 m2;rw [GO,GO,ev j1 j2 ((FH P.lev hc).mp hj1) ((FH P.lev hc).mp hj2)]
 obtain ⟨o,h1,b,ρ',rfl,h2⟩:=key;exact ⟨b,JT (ρ:= [P0,L1,C2,none]) rfl rfl ⟨ρ',h1⟩,h2⟩
def lN(c:List Nat):PyData:= .list (nl c)
theorem fM{c:List Nat}{ρ:En}(h3:(ρ[3]?).join=some (.val (lN c))):(mIfE (QQ (mPk 3)) (mBin dAdd (mBin dix (mPk 3) (mUn (iun fun i=> -i) (mK (.int 1)))) (mK (.int 1))) (mK (.int 0))) ρ=some (.val (.int (Ev.fst c:Nat))):=by
 have p3:mPk 3 ρ=some (.val (lN c)):=h3;rcases DB c with e | ⟨b,l,e⟩
 . subst e
   have tr:QQ (mPk 3) ρ=some false:=by
    unfold QQ;rw [p3];rfl
   unfold mIfE;rw [tr];rfl
 . rw [HF] at e
   subst e
   have tr:QQ (mPk 3) ρ=some true:=by
    unfold QQ;rw [p3];show some (!(nl (b ++ [l])).isEmpty)=_;rw [OF]
    cases hb:nl b <;> rfl
   unfold mIfE;rw [tr];show (mBin dAdd (mBin dix (mPk 3) (mUn (iun fun i=> -i) (mK (.int 1)))) (mK (.int 1))) ρ=_
   have ix:(mBin dix (mPk 3) (mUn (iun fun i=> -i) (mK (.int 1)))) ρ=some (.val (.int (l:Int))):=by
    refine (AY (op:=dix) (a:= .val (lN (b ++ [l]))) (b:= .val (.int (-1))) p3 rfl).trans ?_;show (atI (nl (b ++ [l])) (-1)).map Sl.val=_
    have:atI (nl (b ++ [l])) (-1)=some (.int (l:Int)):=by
     unfold atI ixN;rw [OF,List.length_append];have h1:¬((0:Int) <= -1):=by decide
     rw [A8 h1]
     have h2 : -(((nl b).length+(nl [l]).length:Nat):Int)<=(-1:Int):=by
      show -(((nl b).length+1:Nat):Int)<=(-1:Int);omega
     rw [AB h2]
     have h3:((-1:Int)+(((nl b).length+(nl [l]).length:Nat):Int)).toNat=(nl b).length:=by
      show ((-1:Int)+(((nl b).length+1:Nat):Int)).toNat=_;omega
     rw [h3,FN,FP (A9 _),Nat.sub_self];rfl
    rw [this];rfl
   rw [Ev.fst_snoc];exact (AY (op:=dAdd) ix (b:= .val (.int 1)) rfl).trans rfl
theorem qL(n:Nat)(c:List Nat):(Ev.nx n c).map lN=((List.range (n - Ev.fst c)).map fun i=>lN (c ++ [Ev.fst c+i])):=by
 unfold Ev.nx;rw [List.map_map];rfl
theorem tV{f:En->Option (List Sl)}{ρ:En}{i j:Nat}(h:f ρ=some [.val (.int i), .val (.int j)])(hi:i<=1000)(hj:j<=1000):NV f ρ=some (HH (i:Int) (j - i)):=by
 have b:∀k:Nat,k<=1000->inB (k:Int):=fun k hk=>by
  constructor
  . have : -(2 ^ 62:Int)<=0:=by decide
    omega
  . have:(1000:Int)<2 ^ 62:=by decide
    omega
 unfold NV;rw [h];show (if inB (i:Int)/\inB (j:Int) then some (HH (i:Int) ((j:Int) - (i:Int)).toNat) else none)=_;rw [if_pos ⟨b i hi,b j hj⟩];congr 2
 omega
theorem ZH{ls:List (List Nat)}{n:Nat}(hn:n<=6)(hc:∀c ∈ ls,c.length<=6/\Ev.Inc n c)(hl:ls.length<=46656):YB [.list (ls.map lN), .int (n:Int)]=some (.own ((ls.flatMap (Ev.nx n)).map lN)):=by
 have sz:300000<sizeLine:=by decide
 let L0:Option Sl:=some (.val (.list (ls.map lN)))
 let N1:Option Sl:=some (.val (.int n))
 refine FR (ρ:= [L0,N1,none,none,none]) rfl rfl ?_;unfold b_q24;refine CA MX ?_;refine GB (P:=fun ρ=>∃z3 z4,ρ = [L0,N1,some (.own ((ls.flatMap (Ev.nx n)).map lN)),z3,z4]) ?_ (by rintro ρ ⟨z3,z4,rfl⟩;exact DF rfl rfl);refine IJ (en:=lN) (xs:=ls) (fun j ρ=>∃z3 z4,ρ = [L0,N1,some (.own (((ls.take j).flatMap (Ev.nx n)).map lN)),z3,z4]) rfl ⟨_,_,rfl⟩ ?_ (fun ρ h=>by rw [List.take_length] at h;exact h);rintro j c ρ hj ⟨z3,z4,rfl⟩;have tk:ls.take (j+1)=ls.take j ++ [c]:=by rw [List.take_add_one,hj];rfl
 obtain ⟨cl,ci⟩:=hc c (BC hj);have hf:Ev.fst c<=n:=Ev.fst_le ci.2
 let D:=((ls.take j).flatMap (Ev.nx n)).map lN
 let C3:Option Sl:=some (.val (lN c))
 let F4:Option Sl:=some (.val (.int (Ev.fst c:Nat)))
 refine ⟨_,rfl,?_⟩;refine CA (fM (ρ:= [L0,N1,some (.own D),C3,z4]) rfl) ?_;show Wp _ [L0,N1,some (.own D),C3,F4] _
 have dl:D.length<=46656*6:=by
  show (((ls.take j).flatMap (Ev.nx n)).map lN).length<=_;rw [AA];have h1:=Ev.flat_le (n:=n) (Ev.nx_len n) (ls.take j);have h2:(ls.take j).length<=46656:=by rw [DK];omega
  exact BG h1 (gX h2 hn)
 refine XN (uO (ds:=D) (es:=(Ev.nx n c).map lN) (JA (ds:=HH (Ev.fst c:Nat) (n - Ev.fst c)) (tV rfl (by omega) (by omega)) (by unfold HH;rw [List.length_map,List.length_range];omega) ?_) rfl ?_) ⟨C3,F4,?_⟩
 . rw [qL];unfold HH;refine EB (en:=fun i:Nat=> .int (((Ev.fst c:Nat):Int)+(i:Nat))) (g:=fun i=>lN (c ++ [Ev.fst c+i])) (xs:=List.range (n - Ev.fst c)) fun i hi=> ?_;refine KH (fg:=gVar 1) (ρ0:= [C3,none]) (d:= .int (((Ev.fst c:Nat):Int)+(i:Nat))) (ρ1:= [C3,some (.val (.int (((Ev.fst c:Nat):Int)+(i:Nat))))]) (r:= .own (nl (c ++ [Ev.fst c+i]))) rfl ?_;refine (AY (op:=dAdd) (a:= .val (lN c)) rfl (VC (a:= .val (.int (((Ev.fst c:Nat):Int)+(i:Nat)))) rfl)).trans ((MA rfl rfl ?_).trans ?_)
   . rw [JM];show c.length+1<=sizeLine;omega
   . rw [OF];rfl
 . have e:((Ev.nx n c).map lN).length=(Ev.nx n c).length:=AA ..;have:=Ev.nx_len n c;show D.length+((Ev.nx n c).map lN).length<=sizeLine;rw [e];omega
 . rw [tk,IU,D8];show _ = [L0,N1,some (.own (D++([c].flatMap (Ev.nx n)).map lN)),C3,F4];rw [G6,List.flatMap_nil,E4];rfl
theorem A77{n j:Nat}(hn:n<=6)(hj:j<=6):n ^ j<=46656:=BG (Nat.pow_le_pow_left hn j) (BG (G8 (by decide) hj) (by decide))
theorem ZN {T : List (List Nat)} {L : List Nat} {t : Nat} (P : PlanOk T L) (ht : t <= 6) : ∃ r : Sl, WW [.list (T.map AM), .list (nl L), .int (t : Int)] = some r /\
 ((r = .val .none/\∀j,1<=j->j<=t->∀c ∈ Ev.CB L.length j,Ev.EvC T L c)\/∃c j,r = .val (lN c)/\1<=j/\j<=t/\c ∈ Ev.CB L.length j/\¬Ev.EvC T L c):=by
 have hn:=P.few;have sz:300000<sizeLine:=by decide
 let P0:Option Sl:=some (.val (.list (T.map AM)))
 let L1:Option Sl:=some (.val (.list (nl L)))
 let T2:Option Sl:=some (.val (.int t))
 let n:=L.length
 let Z:Out->Prop:=fun o=>∃(r:Sl) (ρ':En),o = .rt r ρ'/\((r = .val .none/\∀j,1<=j->j<=t->∀c ∈ Ev.CB L.length j,Ev.EvC T L c)\/∃c j,r = .val (lN c)/\1<=j/\j<=t/\c ∈ Ev.CB L.length j/\¬Ev.EvC T L c)
 have key:Wp b_q30 [P0,L1,T2,none,none,none] Z:=by
  unfold b_q30;refine CA (r:= .own [.list []]) (VC (a:= .own []) MX) ?_;refine NG ?_;refine LP (n:=t) (fun j ρ=>∃s3 z4 z5,ρ = [P0,L1,T2,some s3,z4,z5]/\(s3 = .own ((Ev.CB n j).map lN)\/s3 = .val (.list ((Ev.CB n j).map lN)))/\∀i,1<=i->i<=j->∀c ∈ Ev.CB n i,Ev.EvC T L c) (JV rfl (by omega)) ⟨_,_,_,rfl, .inl rfl,fun i h1 h2=>by omega⟩ ?_ ?_
  . rintro j ρ hj ⟨s3,z4,z5,rfl,hs,all⟩;refine ⟨_,rfl,?_⟩
    let J4:Option Sl:=some (.val (.int (j:Nat)))
    let O3:Option Sl:=some (.val (.list ((Ev.CB n j).map lN)))
    let N3:Option Sl:=some (.val (.list ((Ev.CB n (j+1)).map lN)))
    have fz:frz1 3 [P0,L1,T2,some s3,J4,z5] = [P0,L1,T2,O3,J4,z5]:=by rcases hs with rfl | rfl <;> rfl
    refine HA (ρ':= [P0,L1,T2,some (.own ((Ev.CB n (j+1)).map lN)),J4,z5]) ?_ ?_
    . rw [MW];show mAsg 3 _ (frz1 3 [P0,L1,T2,some s3,J4,z5])=_;rw [fz];refine MY (ρ:= [P0,L1,T2,O3,J4,z5]) (CU (ds:= [.list ((Ev.CB n j).map lN), .int (n:Int)]) (CC (a:= .val (.list ((Ev.CB n j).map lN))) rfl (CC (a:= .val (.int (n:Int))) (as:= []) (CP (ss:= [.val (.list (nl L))]) rfl ?_) rfl)) (ZH hn (fun c hc=> ?_) ?_))
      . show some (Sl.val (.int (((nl L).length:Nat):Int)))=_;rw [JM]
      . obtain ⟨h1,h2⟩:=Ev.mem_CB.mp hc;exact ⟨by omega,h2⟩
      . exact BG (Ev.CB_len n j) (A77 hn (by omega))
    . refine IV ?_;show Wp _ [P0,L1,T2,N3,J4,z5] _;refine IJ (en:=lN) (xs:=Ev.CB n (j+1)) (fun i ρ=>∃z5,ρ = [P0,L1,T2,N3,J4,z5]/\∀c ∈ (Ev.CB n (j+1)).take i,Ev.EvC T L c) rfl ⟨_,rfl,fun c hc=>by simp at hc⟩ ?_ ?_
      . rintro i c ρ hi ⟨z5,rfl,al⟩;have mc:=BC hi;obtain ⟨h1,h2⟩:=Ev.mem_CB.mp mc;obtain ⟨b,eb,hb⟩:=XG P (c:=c) h2.2 (by omega)
        let C5:Option Sl:=some (.val (lN c))
        have tst:(mTest (mCall UB (mCons (mVar 0) (mCons (mVar 1) (mCons (mVar 5) mNil))))) [P0,L1,T2,N3,J4,C5]=some b:=GR (CU (ds:= [.list (T.map AM), .list (nl L), .list (nl c)]) rfl eb);refine ⟨_,rfl,?_⟩
        cases b with
        | true=>
         refine QJ (QF tst) (L3 ⟨C5,rfl,fun c' hc' => ?_⟩);rw [G7,hi] at hc'
         rcases AW.mp hc' with h | h
         . exact al c' h
         . rw [A4.mp h];exact hb.mp rfl
        | false=>
         exact OA (QF tst) (DF (r:= .val (lN c)) rfl ⟨_,_,rfl, .inr ⟨c,j+1,rfl,by omega,by omega,mc,fun z=>by have:=hb.mpr z;cases this⟩⟩)
      . rintro ρ ⟨z5,rfl,al⟩;rw [A97] at al
        refine ⟨.val (.list ((Ev.CB n (j+1)).map lN)),J4,z5,rfl, .inr rfl,fun i h1 h2=> ?_⟩
        by_cases e:i=j+1
        . subst e;exact al
        . exact all i h1 (by omega)
  . rintro ρ ⟨s3,z4,z5,rfl,_,all⟩;exact DF (r:= .val .none) rfl ⟨_,_,rfl, .inl ⟨rfl,all⟩⟩
 obtain ⟨o,h1,r,ρ',rfl,h2⟩:=key;exact ⟨r,JT (ρ:= [P0,L1,T2,none,none,none]) rfl rfl ⟨ρ',h1⟩,h2⟩
theorem gE(e:Nat)(c:List Nat):inD true (.int (e:Int)) (nl c)=some (.val (.bool (decide (e ∉ c)))):=by
 unfold inD;rw [if_pos ⟨rfl,by unfold nl;simp [PyData.canLay0],by simp [PyData.depth]⟩];congr 3
 simp only [GD]
 have:((nl c).any fun d=>PyData.eqv d (.int (e:Int)))=decide (e ∈ c):=by
  induction c with
  | nil=>simp [nl]
  | cons m c ih=>
   show (PyData.eqv (.int (m:Int)) (.int (e:Int)) || (nl c).any _)=_;rw [ih]
   by_cases h:m=e
   . subst h;simp [PyData.eqv]
   . have h1:¬((m:Int)=(e:Int)):=by omega
     have h':e≠m:=fun z=>h z.symm;simp [PyData.eqv,h1,h']
 rw [this];simp
theorem ZU{c:List Nat}{n t:Nat}(hn:n<=6)(hc:Ev.Inc n c)(hl:c.length<=t)(ht:t<=n):∃c',XL [.list (nl c), .int (n:Int), .int (t:Int)]=some (.own (nl c'))/\c' ∈ Ev.CB n t/\∀d ∈ c,d ∈ c':=by
 have sl:=F5
 let C0:Option Sl:=some (.val (.list (nl c)))
 let N1:Option Sl:=some (.val (.int n))
 let T2:Option Sl:=some (.val (.int t))
 let O:=(List.range n).filter fun d=>decide (d ∉ c)
 have clen:c.length<=n:=by omega
 have lc:(mLC (E1 [some 0,none]) (IB (mConsP (mPk 1) mNilP)) (gVar 1) (mTest (mBin (W8 true) (mPk 1) (mPk 0))) (mVar 1)) [C0,N1,T2,none]=some (.own (nl O)):=by
  refine JA (ds:=HH 0 n) (JV rfl (by omega)) (by unfold HH;rw [List.length_map,List.length_range];omega) ?_
  have er:HH 0 n=(List.range n).map enN:=by
   unfold HH;refine List.map_congr_left fun i _=> ?_;show PyData.int (0+(i:Nat)) = .int (i:Nat);rw [Int.zero_add]
  rw [er];refine (S7 (en:=enN) (g:=enN) (b:=fun d=>decide (d ∉ c)) fun d _=> ?_).trans rfl;exact A01 (fg:=gVar 1) (ρ0:= [C0,none]) (d:= .int (d:Nat)) (ρ1:= [C0,some (.val (.int (d:Nat)))]) (r:= .val (.int (d:Nat))) rfl (GR ((AY (op:=W8 true) (a:= .val (.int (d:Nat))) (b:= .val (.list (nl c))) rfl rfl).trans (gE d c))) rfl
 let k:=t - c.length
 let A:=c++O.take k
 have sle:(mSl (mPk 3) mNoPart (mPart (mBin dSub (mPk 2) (mCallP dLen (mConsP (mPk 0) mNilP))))) [C0,N1,T2,some (.own (nl O))]=some (.own (nl (O.take k))):=by
  have cut:JB (nl O) none (some ((k:Nat):Int))=nl (O.take k):=by
   unfold JB nl;rw [HT.sIx_none,HT.sIx_nat,List.length_map,List.drop_zero,Nat.sub_zero, <-List.map_take];congr 1
   by_cases h:k<=O.length
   . rw [JF h]
   . rw [OV (by omega),B6 (A9 _),B6 (by omega)]
  rw [<-cut];have e:((k:Nat):Int)=(t:Int) - (((nl c).length:Nat):Int):=by rw [JM];show ((t - c.length:Nat):Int)=_;omega
  rw [e];rfl
 have an:A.Nodup:=NS.mpr ⟨hc.nodup,((YO (n:=n)).filter _).sublist (WC _ _),fun a ha b hb=>by
  rintro rfl;have:=(EO.mp (C9 hb)).2;rw [MU] at this
  exact this ha⟩
 have ol:O.length=n - c.length:=by
  have h1:((List.range n).filter fun d=>decide (d ∈ c)).length=c.length:=by
   refine Nat.le_antisymm (Ev.nd_len ((YO (n:=n)).filter _) fun a ha=> ?_) (Ev.nd_len hc.nodup fun a ha=>EO.mpr ⟨BL.mpr (hc.2 a ha),AS ha⟩);have:=(EO.mp ha).2
   rwa [MU] at this
  have h2:∀l:List Nat,(l.filter fun d=>decide (d ∈ c)).length+(l.filter fun d=>decide (d ∉ c)).length=l.length:=by
   intro l
   induction l with
   | nil=>rfl
   | cons a l ih=>
    rw [IR,IR]
    by_cases h:a ∈ c
    . rw [AB (AS h),A8 (by simp [h]),B4,B4];omega
    . rw [A8 (by simp [h]),AB (AS h),B4,B4];omega
  have:=h2 (List.range n);rw [h1,HN] at this
  show ((List.range n).filter fun d=>decide (d ∉ c)).length=_;omega
 have al:A.length=t:=by
  show (c++O.take k).length=t;rw [AZ,DK,ol];show c.length+min (t - c.length) (n - c.length)=t;omega
 let S:=srt (A.map fun d:Nat=>(d:Int))
 have sp:S.Perm (A.map fun d:Nat=>(d:Int)):=XF _
 let C':=S.map Int.toNat
 have sc:C'.map (fun d:Nat=>(d:Int))=S:=by
  show (S.map Int.toNat).map _=S;rw [E5];refine (BH fun z hz=> ?_).trans (RU _);obtain ⟨d,_,rfl⟩:=AL.mp (sp.mem_iff.mp hz);show ((((d:Int)).toNat:Nat):Int)=d;rw [DC]
 have cp:C'.Perm A:=by
  have:=sp.map Int.toNat;rw [E5] at this
  refine this.trans (d6 ?_);exact (BH fun d _=>DC d).trans (RU _)
 refine ⟨C',FR (ρ:= [C0,N1,T2,none]) rfl rfl ?_,Ev.mem_CB.mpr ⟨cp.length_eq.trans al,?_,fun d hd=> ?_⟩,fun d hd=>cp.mem_iff.mpr (E7 _ hd)⟩
 . unfold b_q21;refine CA lc ?_;show Wp _ [C0,N1,T2,some (.own (nl O))] _
   have ad:(mBin dAdd (mPk 0) (mSl (mPk 3) mNoPart (mPart (mBin dSub (mPk 2) (mCallP dLen (mConsP (mPk 0) mNilP)))))) [C0,N1,T2,some (.own (nl O))]=some (.own (nl A)):=by
    refine (AY (op:=dAdd) (a:= .val (.list (nl c))) rfl sle).trans ((MA rfl rfl ?_).trans ?_)
    . rw [JM,JM];have:(O.take k).length<=n:=by rw [DK,ol];omega
      omega
    . rw [<-OF]
   refine DF (CP (ss:= [.own (nl A)]) (D4 (as:= []) ad rfl) ?_) rfl;show (FT (nl A)).bind (fun ns=>if ns.length<64 then some (Sl.own ((srt ns).map .int)) else none)=_;have e:nl A=il (A.map fun d:Nat=>(d:Int)):=by unfold nl il;rw [List.map_map];rfl
   rw [e,NJ,Option.bind_some,List.length_map,if_pos (by omega)];show some (Sl.own (S.map .int))=some (Sl.own (nl C'));rw [<-sc];unfold nl;rw [List.map_map];rfl
 . have nd:C'.Nodup:=cp.nodup_iff.mpr an
   have le:C'.Pairwise (· <= ·):=by
    have this:S.Pairwise (· <= ·):=WI (A.map fun d:Nat=>(d:Int));rw [<-sc,HM] at this
    exact this.imp fun h=>by omega
   exact List.Pairwise.imp₂ (fun a b h1 h2=>Nat.lt_of_le_of_ne h1 h2) le nd
 . rcases AW.mp (cp.mem_iff.mp hd) with h | h
   . exact hc.2 d h
   . exact BL.mp (EO.mp (C9 h)).1
theorem Q6{cs:List (List Key)}{ks:List (List Key)}:∀(qs:List (List Key)),(∀k ∈ qs,k ∈ ks)->SW (mBin NU (mPk 1) (mPk 0)) (some (.val (.dict (mkD::F7 cs ks)))) (qs.map tupD)=some (qs.map fun k=>((cnt cs k:Nat):Int))
 | [],_=>rfl
 | k::qs,h=>by
  have ih:=Q6 (cs:=cs) (ks:=ks) qs fun j hj=>h j (AK _ hj)
  have ev:(mBin NU (mPk 1) (mPk 0)) [some (.val (tupD k)),some (.val (.dict (mkD::F7 cs ks)))]=some (.val (.int ((cnt cs k:Nat):Int))):=by
   refine (AY (op:=NU) (a:= .val (.dict (mkD::F7 cs ks))) (b:= .val (tupD k)) rfl rfl).trans ?_;show (MO (tupD k)).bind (fun k=>(HR (F7 cs ks) k).map Sl.val)=_;rw [S9,FN,LU,AB (h k AU)];rfl
  show ((mBin NU (mPk 1) (mPk 0) [some (.val (tupD k)),_]).bind aP).bind _=_;rw [ev];show (SW _ _ (qs.map tupD)).map _=_;rw [ih];rfl
theorem yB{ns:List Int}(p:Int->Bool)(h:∃m ∈ ns,p m=true):ns.findIdx p<ns.length:=List.findIdx_lt_length_of_exists h
theorem XI {cs ks : List (List Key)} (hne : ks ≠ []) (q : Int -> Int -> Bool) (hq : ∃ m ∈ ks.map fun k => ((cnt cs k : Nat) : Int), ∀ b ∈ ks.map fun k => ((cnt cs k : Nat) : Int), q m b = true) :
 ∃k ∈ ks,(ks.map tupD)[(ks.map fun k=>((cnt cs k:Nat):Int)).findIdx fun m=>(ks.map fun k=>((cnt cs k:Nat):Int)).all fun b=>q m b]? = some (tupD k)/\∀j ∈ ks,q ((cnt cs k:Nat):Int) ((cnt cs j:Nat):Int)=true:=by
 let ns:=ks.map fun k=>((cnt cs k:Nat):Int)
 obtain ⟨m,hm,hb⟩:=hq;have lt:ns.findIdx (fun m=>ns.all fun b=>q m b)<ns.length:=yB _ ⟨m,hm,GJ.mpr hb⟩;have pr:=List.findIdx_getElem (p:=fun m=>ns.all fun b=>q m b) (w:=lt);have lk:ns.findIdx (fun m=>ns.all fun b=>q m b)<ks.length:=by have:ns.length=ks.length:=AA ..;omega
 refine ⟨ks[ns.findIdx fun m=>ns.all fun b=>q m b],F0 lk,?_,fun j hj=> ?_⟩
 . rw [B5,AE lk];rfl
 . have e:ns[ns.findIdx fun m=>ns.all fun b=>q m b]=((cnt cs ks[ns.findIdx fun m=>ns.all fun b=>q m b]:Nat):Int):=List.getElem_map ..;rw [e] at pr
   exact GJ.mp pr _ (AL.mpr ⟨j,hj,rfl⟩)
theorem YU:∀ {ns:List Int},ns ≠ []->∃m ∈ ns,∀b ∈ ns,decide (b<=m)=true
 | ns,h=>by
  obtain ⟨m,hm⟩:∃m,ns.max? = some m:=by
   cases e:ns.max? with
   | none=>exact absurd (zJ.mp e) h
   | some m=>exact ⟨m,rfl⟩
  obtain ⟨h1,h2⟩:=R4.mp hm;exact ⟨m,h1,fun b hb=>AS (h2 b hb)⟩
theorem ZW:∀ {ns:List Int},ns ≠ []->∃m ∈ ns,∀b ∈ ns,decide (m<=b)=true
 | ns,h=>by
  obtain ⟨m,hm⟩:∃m,ns.min? = some m:=by
   cases e:ns.min? with
   | none=>exact absurd (zI.mp e) h
   | some m=>exact ⟨m,rfl⟩
  obtain ⟨h1,h2⟩:=R3.mp hm;exact ⟨m,h1,fun b hb=>AS (h2 b hb)⟩
theorem XD(cs ks:List (List Key)):(F7 cs ks).map (·.1)=ks.map tupD:=by
 unfold F7;rw [List.map_map];rfl
theorem pF {cs ks : List (List Key)} (hne : ks ≠ []) {j : Nat} {fe : En -> Option Sl} {ρ : En} (h1 : fe ρ = some (.val (.dict (mkD :: F7 cs ks)))) (h2 : (ρ[j]?).join = some (.val (.dict (mkD :: F7 cs ks)))) :
 ∃k ∈ ks,(JU OH j (mBin NU (mPk 1) (mPk 0)) fe) ρ=some (.val (tupD k))/\∀i ∈ ks,cnt cs i<=cnt cs k:=by
 obtain ⟨k,hk,e,hb⟩:=XI (cs:=cs) hne (fun m b=>decide (b<=m)) (YU fun z=>hne (List.map_eq_nil_iff.mp z));refine ⟨k,hk,?_,fun i hi=>by have:=of_decide_eq_true (hb i hi);omega⟩;have cp:TX j ρ=some (.val (.dict (mkD::F7 cs ks))):=by unfold TX;rw [h2]
 unfold JU;rw [h1,cp];show (SW _ _ ((F7 cs ks).map (·.1))).bind (fun ns=>(((F7 cs ks).map (·.1))[OH ns]?).map Sl.val)=_;rw [XD,Q6 ks fun _ h=>h,Option.bind_some];unfold OH;rw [e];rfl
theorem pP {cs ks : List (List Key)} (hne : ks ≠ []) {j : Nat} {fe : En -> Option Sl} {ρ : En} (h1 : fe ρ = some (.val (.dict (mkD :: F7 cs ks)))) (h2 : (ρ[j]?).join = some (.val (.dict (mkD :: F7 cs ks)))) :
 ∃k ∈ ks,(JU N9 j (mBin NU (mPk 1) (mPk 0)) fe) ρ=some (.val (tupD k))/\∀i ∈ ks,cnt cs k<=cnt cs i:=by
 obtain ⟨k,hk,e,hb⟩:=XI (cs:=cs) hne (fun m b=>decide (m<=b)) (ZW fun z=>hne (List.map_eq_nil_iff.mp z));refine ⟨k,hk,?_,fun i hi=>by have:=of_decide_eq_true (hb i hi);omega⟩;have cp:TX j ρ=some (.val (.dict (mkD::F7 cs ks))):=by unfold TX;rw [h2]
 unfold JU;rw [h1,cp];show (SW _ _ ((F7 cs ks).map (·.1))).bind (fun ns=>(((F7 cs ks).map (·.1))[N9 ns]?).map Sl.val)=_;rw [XD,Q6 ks fun _ h=>h,Option.bind_some];unfold N9;rw [e];rfl
theorem o7{L:List Nat}{x:Nat}(h:x<Tr.prodN L):Tr.tri L x ∈ Tr.allT L:=AL.mpr ⟨x,BL.mpr h,rfl⟩
theorem yA{L:List Nat}(hp:∀c ∈ L,0<c){m:Nat}(h:m<=Tr.prodN L):((List.range m).map (Tr.tri L)).Nodup:=by
 have nd:=Ev.allT_nd _ L rfl hp;unfold Tr.allT at nd
 have:(List.range m).Sublist (List.range (Tr.prodN L)):=List.range_sublist.mpr h;exact nd.sublist (this.map _)
theorem ZX{T:List (List Nat)}{L c:List Nat}{ks:List (List Key)}(P:PlanOk T L)(hc:∀d ∈ c,d<L.length)(hl:c.length<=900)(cn:Cn (JS T c) ks):∃k,TF [.dict (mkD::F7 (JS T c) ks), .list (nl (Ev.lv L c))]=some (.val (AM k))/\k ∈ Tr.allT (Ev.lv L c)/\∀j ∈ Tr.allT (Ev.lv L c),Ev.count T c k<=Ev.count T c j:=by
 have sl:=F5;obtain ⟨k1,k2,k3⟩:=W1 P hc cn
 let M:=Ev.lv L c
 have ML:∀e ∈ M,0<e/\e<=1000:=XH P.lev hc;have Ml:M.length<=900:=by show (c.map _).length<=900;rw [AA];exact hl
 let cs:=JS T c
 let DV:PyData:= .dict (mkD::F7 cs ks)
 let D0:Option Sl:=some (.val DV)
 let L1:Option Sl:=some (.val (.list (nl M)))
 have kl:ks.length<=900:=by
  have:=u0 cn;have e:(JS T c).length=T.length:=AA ..;have:=P.len;omega
 let m:=min (ks.length+1) (Tr.prodN M)
 have mm:(IB (mConsP (mCallP dMin2 (mConsP (mBin dAdd (mCallP dLenD (mConsP (mPk 0) mNilP)) (mK (.int 1))) (mConsP (mCall MJ (mCons (mVar 1) mNil)) mNilP))) mNilP)) [D0,L1,none,none]=some (HH 0 m):=by
  refine JV (j:=m) (D4 (a:= .val (.int (m:Int))) (as:= []) (CP (ss:= [.val (.int ((ks.length:Int)+1)), .val (.int (Tr.prodN M:Nat))]) (D4 ((AY (op:=dAdd) (a:= .val (.int (ks.length:Int))) (b:= .val (.int 1)) (CP (D4 (a:= .val DV) rfl rfl) ?_) rfl).trans rfl) (D4 (as:= []) (CU (ds:= [.list (nl M)]) rfl (SQ fun e he=>(ML e he).2)) rfl)) ?_) rfl) (by show min _ _<=1000;omega)
  . show some (Sl.val (.int (((F7 cs ks).length:Nat):Int)))=_;unfold F7;rw [List.length_map]
  . show some (Sl.val (.int (if ((Tr.prodN M:Nat):Int)<(ks.length:Int)+1 then ((Tr.prodN M:Nat):Int) else (ks.length:Int)+1)))=some (Sl.val (.int ((min (ks.length+1) (Tr.prodN M):Nat):Int)));congr 3
    by_cases h:((Tr.prodN M:Nat):Int)<(ks.length:Int)+1
    . rw [AB h];omega
    . rw [A8 h];omega
 have key:Wp b_q27 [D0,L1,none,none] (fun o=>∃k ρ',o = .rt (.val (AM k)) ρ'/\k ∈ Tr.allT M/\∀j ∈ Tr.allT M,Ev.count T c k<=Ev.count T c j):=by
  unfold b_q27;refine NG ?_;refine LP (n:=m) (fun i ρ=>∃z2 z3,ρ = [D0,L1,z2,z3]/\∀a,a<i->kN (Tr.tri M a) ∈ ks) mm ⟨_,_,rfl,fun a h=>absurd h (Nat.not_lt_zero _)⟩ ?_ ?_
  . rintro i ρ hi ⟨z2,z3,rfl,al⟩;refine ⟨_,rfl,?_⟩
    let I2:Option Sl:=some (.val (.int (i:Nat)))
    let t:=Tr.tri M i
    let T3:Option Sl:=some (.val (AM t))
    refine CA (r:= .val (AM t)) (CU (ds:= [.list (nl M), .int (i:Nat)]) rfl (UZ ML Ml i)) ?_;show Wp _ [D0,L1,I2,T3] _
    have tst:(mTest (mBin (lZ true) (mPk 3) (mPk 0))) [D0,L1,I2,T3]=some (!(HR (F7 cs ks) (kN t)).isSome):=by
     refine GR ((AY (op:=lZ true) (a:= .val (AM t)) (b:= .val DV) rfl rfl).trans ?_);show (MO (AM t)).map (fun k=>Sl.val (.bool (xor true (HR (F7 cs ks) k).isSome)))=_;rw [O6,JE];congr 3
     cases (HR (F7 cs ks) (kN t)).isSome <;> rfl
    rw [LU] at tst
    by_cases h:kN t ∈ ks
    . rw [AB h] at tst
      refine QJ tst (L3 ⟨I2,T3,rfl,fun a ha=> ?_⟩)
      by_cases e:a=i
      . subst e;exact h
      . exact al a (by omega)
    . rw [A8 h] at tst
      refine OA tst (DF (r:= .val (AM t)) rfl ⟨t,_,rfl,o7 (by have:m<=Tr.prodN M:=YM _ _;omega),fun j _=> ?_⟩);rw [O9 cn h];exact CK _
  . rintro ρ ⟨z2,z3,rfl,al⟩
    have pk:Tr.prodN M<=ks.length:=by
     refine ET fun z=> ?_;have e:m=ks.length+1:=JF (by omega)
     have nd:(((List.range m).map (Tr.tri M)).map kN).Nodup:=by
      unfold List.Nodup;rw [List.pairwise_map];exact (yA (fun c hc=>(ML c hc).1) (Nat.min_le_right _ _)).imp fun h q=>h (ZI q)
     have:=Ev.nd_len nd fun a ha=>by
      obtain ⟨b,hb,rfl⟩:=AL.mp ha;obtain ⟨i,hi,rfl⟩:=AL.mp hb;exact al i (BL.mp hi)
     rw [AA,AA,HN] at this
     omega
    have all:=k3 pk;have ppos:0<Tr.prodN M:=Tr.prodN_pos _ fun e he=>(ML e he).1;have kne:ks ≠ []:=fun z=>by subst z;simp at pk;omega
    obtain ⟨k,hk,ev,hmin⟩:=pP (cs:=cs) (ks:=ks) kne (j:=0) (fe:=mPk 0) (ρ:= [D0,L1,z2,z3]) rfl rfl;obtain ⟨j,hj,rfl⟩:=k1 k hk;rw [VN] at ev
    refine DF ev ⟨j,_,rfl,hj,fun i hi=> ?_⟩;rw [<-GO, <-GO];exact hmin _ (all i hi)
 obtain ⟨o,h1,k,ρ',rfl,h2,h3⟩:=key;exact ⟨k,JT (ρ:= [D0,L1,none,none]) rfl rfl ⟨ρ',h1⟩,h2,h3⟩
def NA:PyData:= .tuple [.str "even"]
def IX(c k k':List Nat):PyData:= .tuple [.str "uneven",lN c,AM k,AM k']
theorem evF{T:List (List Nat)}{L c c':List Nat}(P:PlanOk T L)(h1:Ev.Inc L.length c)(h2:Ev.Inc L.length c')(hs:∀d ∈ c,d ∈ c')(h:Ev.EvC T L c'):Ev.EvC T L c:=
 (Ev.evF_iff h1.nodup).mp (Ev.ev_sub hs (fun d hd x hx=>(P.ok x hx).2 d (h2.2 d hd)) ((Ev.evF_iff h2.nodup).mpr h))
theorem XE {T : List (List Nat)} {L : List Nat} {t : Nat} (P : PlanOk T L) (h1 : 1 <= t) (ht : t <= L.length) : ∃ d, Y8 [.list (T.map AM), .list (nl L), .int (t : Int)] = some (.val d) /\
 ((d=NA/\∀c ∈ Ev.CB L.length t,Ev.EvC T L c)\/∃c k k',d=IX c k k'/\c ∈ Ev.CB L.length t/\k ∈ Tr.allT (Ev.lv L c)/\k' ∈ Tr.allT (Ev.lv L c)/\Ev.count T c k≠Ev.count T c k'):=by
 have sl:=F5;have hn:=P.few
 let P0:Option Sl:=some (.val (.list (T.map AM)))
 let L1:Option Sl:=some (.val (.list (nl L)))
 let T2:Option Sl:=some (.val (.int t))
 obtain ⟨r,er,hr⟩:=ZN P (t:=t) (by omega)
 have key:Wp b_q20 [P0,L1,T2,none,none,none,none] (fun o=>∃d ρ',o = .rt (.val d) ρ'/\((d=NA/\∀c ∈ Ev.CB L.length t,Ev.EvC T L c)\/∃c k k',d=IX c k k'/\c ∈ Ev.CB L.length t/\k ∈ Tr.allT (Ev.lv L c)/\k' ∈ Tr.allT (Ev.lv L c)/\Ev.count T c k≠Ev.count T c k')):=by
  unfold b_q20;refine CA (CU (ds:= [.list (T.map AM), .list (nl L), .int (t:Int)]) rfl er) ?_;rcases hr with ⟨rfl,all⟩ | ⟨c,j,rfl,j1,jt,mc,nev⟩
  . refine NG (OA rfl (DF (mX (a:= .val (.str "even")) rfl) ⟨NA,_,rfl, .inl ⟨rfl,all t h1 (A9 _)⟩⟩))
  . let S3:Option Sl:=some (.val (lN c))
    show Wp _ [P0,L1,T2,S3,none,none,none] _;refine RK rfl ?_;obtain ⟨cj,ci⟩:=Ev.mem_CB.mp mc;obtain ⟨c',ef,mc',hsub⟩:=ZU hn ci (by omega) ht;obtain ⟨cj',ci'⟩:=Ev.mem_CB.mp mc'
    have lenL:(mCallP dLen (mConsP (mPk 1) mNilP)) [P0,L1,T2,S3,none,none,none]=some (.val (.int (L.length:Int))):=by
     refine CP (ss:= [.val (.list (nl L))]) rfl ?_;show some (Sl.val (.int (((nl L).length:Nat):Int)))=_;rw [JM]
    refine HA (ρ':= [P0,L1,T2,S3,some (.own (nl c')),none,none]) ?_ ?_
    . rw [MW];exact MY (ρ:= [P0,L1,T2,S3,none,none,none]) (CU (ds:= [.list (nl c), .int (L.length:Int), .int (t:Int)]) (CC (a:= .val (lN c)) rfl (CC lenL (CC (a:= .val (.int t)) (as:= []) rfl rfl))) ef)
    obtain ⟨ks,cn,hk⟩:=T5 (c:=c') P.len (fun x hx=>(P.ok x hx).1) ci'.2 (by omega)
    let C4:Option Sl:=some (.val (lN c'))
    let cs:=JS T c'
    let D:=F7 cs ks
    refine HA (ρ':= [P0,L1,T2,S3,C4,some (.dct D),none]) ?_ ?_
    . rw [MW];exact MY (ρ:= [P0,L1,T2,S3,C4,none,none]) (CU (ds:= [.list (T.map AM), .list (nl c')]) rfl hk)
    let D5:Option Sl:=some (.val (.dict (mkD::D)))
    obtain ⟨k1,k2,k3⟩:=W1 P ci'.2 cn
    have kne:ks ≠ []:=fun z=>by
     obtain ⟨x,hx⟩:=LL P.some_;have:=(cn.mem (kN (Ev.ch c' x))).mpr (AL.mpr ⟨x,hx,rfl⟩);rw [z] at this
     cases this
    obtain ⟨q,hq,ev,hmax⟩:=pF (cs:=cs) (ks:=ks) kne (j:=5) (fe:=mPk 5) (ρ:= [P0,L1,T2,S3,C4,D5,none]) rfl rfl;obtain ⟨k,hkm,rfl⟩:=k1 q hq;rw [VN] at ev
    let M6:Option Sl:=some (.val (AM k))
    refine HA (ρ':= [P0,L1,T2,S3,C4,D5,M6]) ?_ ?_
    . unfold cS
      have fz:jP 5 [P0,L1,T2,S3,C4,some (.dct D),none]=some [P0,L1,T2,S3,C4,D5,none]:=by
       show (if X0 5 [P0,L1,T2,S3,C4,some (.dct D),none]=true then some _ else none)=_;rw [AB (show X0 5 [P0,L1,T2,S3,C4,some (.dct D),none]=true from rfl)];rfl
      rw [fz];exact MY (ρ:= [P0,L1,T2,S3,C4,D5,none]) ev
    . refine IV (IV (IV ?_));show Wp _ [P0,L1,T2,S3,C4,D5,M6] _;obtain ⟨k',ek',hkm',hmin⟩:=ZX P ci'.2 (by omega) cn;have lvl:(mCall MM (mCons (mVar 1) (mCons (mVar 4) mNil))) [P0,L1,T2,S3,C4,D5,M6]=some (.own (nl (Ev.lv L c'))):=CU (ds:= [.list (nl L), .list (nl c')]) rfl (NW ci'.2 (by omega));have rar:(mCall TF (mCons (mVar 5) (mCons (mCall MM (mCons (mVar 1) (mCons (mVar 4) mNil))) mNil))) [P0,L1,T2,S3,C4,D5,M6]=some (.val (AM k')):=CU (ds:= [.dict (mkD::D), .list (nl (Ev.lv L c'))]) (CC (a:= .val (.dict (mkD::D))) rfl (CC (as:= []) lvl rfl)) ek'
      have tup:(mTup (mCons (mK (.str "uneven")) (mCons (mVar 4) (mCons (mVar 6) (mCons (mCall TF (mCons (mVar 5) (mCons (mCall MM (mCons (mVar 1) (mCons (mVar 4) mNil))) mNil))) mNil))))) [P0,L1,T2,S3,C4,D5,M6]=some (.val (IX c' k k')):=by
       unfold mTup;rw [CC (a:= .val (.str "uneven")) rfl (CC (a:= .val (lN c')) rfl (CC (a:= .val (AM k)) rfl (CC rar (show mNil _=some [] from rfl))))];exact if_pos (e:=none) (show 4<=sizeLine by omega)
      refine DF tup ⟨IX c' k k',_,rfl, .inr ⟨c',k,k',rfl,mc',hkm,hkm',fun e=> ?_⟩⟩;refine nev (evF P ci ci' hsub fun a b ha hb=> ?_)
      have mx:∀a ∈ Tr.allT (Ev.lv L c'),Ev.count T c' a<=Ev.count T c' k:=fun a ha=>by
       by_cases h:kN a ∈ ks
       . rw [<-GO, <-GO];exact hmax _ h
       . rw [O9 cn h];exact CK _
      have a1:=(FH P.lev ci'.2).mpr ha;have b1:=(FH P.lev ci'.2).mpr hb;have h1:=mx a a1;have h2:=mx b b1;have h3:=hmin a a1;have h4:=hmin b b1;omega
 obtain ⟨o,h1,d,ρ',rfl,h2⟩:=key;exact ⟨d,JT (ρ:= [P0,L1,T2,none,none,none,none]) rfl rfl ⟨ρ',h1⟩,h2⟩
theorem A08(a:PyData):∀n:Nat,(List.replicate n [a]).flatten=List.replicate n a
 | 0=>rfl
 | n+1=>by rw [BV,EF,A08 a n,BV];rfl
theorem kP{n:Nat}(r:Nat)(h1:1<=n)(h2:n<=900):dRepT (.val (.tuple [.int (r:Int)])) (.val (.int (n:Int)))=some (.val (AM (List.replicate n r))):=by
 show (if [PyData.int (r:Int)] ≠ []/\1<=(n:Int)/\(n:Int)<=1000 /\ [PyData.int (r:Int)].length*(n:Int).toNat<=1000 then some (Sl.val (.tuple (List.replicate (n:Int).toNat [PyData.int (r:Int)]).flatten)) else none)=_;rw [if_pos ⟨by simp,by omega,by omega,by simp;omega⟩,Int.toNat_natCast,A08];unfold AM nl;rw [List.map_replicate]
theorem aN(p f:Nat):∀u w:List Nat,Sp.put p u f w=(List.zip u w).map fun q=>(q.1+f*q.2) % p
 | [],_=>by simp [Sp.put]
 | _::_,[]=>by simp [Sp.put]
 | a::u,b::w=>by
  have:=aN p f u w;unfold Sp.put at this ⊢
  rw [uL,A70,B1,this]
theorem jG {p f : Nat} (hp : 0 < p) (p7 : p <= 7) (hf : f <= 7) {u w : List Nat} (hu : u.length <= 900) {jf jp ju jw : Nat} {ρ : En} (hs : E1 [some jf, some jp, none, none] ρ = [some (.val (.int (f : Int))), some (.val (.int (p : Int))), none, none]) (h1 : (ρ[ju]?).join = some (.val (AM u))) (h2 : (ρ[jw]?).join = some (.val (AM w))) :
 (mCallP dTuple (mConsP (mLC (E1 [some jf,some jp,none,none]) (KR (mCons (mVar ju) (mCons (mVar jw) mNil))) (gTupD [(gVar 2),(gVar 3)]) mYes (mBin F3 (mBin dAdd (mPk 2) (mBin dRep (mPk 0) (mPk 3))) (mPk 1))) mNilP)) ρ=some (.val (AM (Sp.put p u f w))):=by
 have sl:=F5;have v1:mVar ju ρ=some (.val (AM u)):=by unfold mVar;rw [h1]
 have v2:mVar jw ρ=some (.val (AM w)):=by unfold mVar;rw [h2]
 have zi:KR (mCons (mVar ju) (mCons (mVar jw) mNil)) ρ=some ((List.zip u w).map enP):=by
  unfold KR;rw [CC v1 (CC v2 (show mNil ρ=some [] from rfl))];show some (LX (nl u) (nl w))=_;rw [PX]
 have zl:((List.zip u w).map enP).length<sizeLine:=by
  rw [AA,JG];omega
 refine CP (D4 (a:= .own (nl (Sp.put p u f w))) (as:= []) (JA zi zl ?_) rfl) rfl;rw [hs,aN];refine (EB (en:=enP) (g:=fun q=> .int (((q.1+f*q.2) % p:Nat):Int)) (xs:=List.zip u w) fun q hq=> ?_).trans (by simp [nl]);refine KH (fg:=gTupD [gVar 2,gVar 3]) (ρ0:= [some (.val (.int (f:Int))),some (.val (.int (p:Int))),none,none]) (d:=enP q) (ρ1:= [some (.val (.int (f:Int))),some (.val (.int (p:Int))),some (.val (.int (q.1:Nat))),some (.val (.int (q.2:Nat)))]) (r:= .val (.int (((q.1+f*q.2) % p:Nat):Int))) rfl ?_;refine (AY (op:=F3) ((AY (op:=dAdd) (a:= .val (.int (q.1:Nat))) rfl ((AY (op:=dRep) (a:= .val (.int (f:Nat))) (b:= .val (.int (q.2:Nat))) rfl rfl).trans (MS (cmL (by omega) (by omega))))).trans (show _=some (Sl.val (.int ((q.1:Int)+(f:Int)*(q.2:Int)))) from rfl)) (b:= .val (.int (p:Nat))) rfl).trans ((QC (by omega)).trans ?_);rw [FQ _ (by omega), <-FZ, <-Int.natCast_add];rfl
theorem ZG(p:Nat)(F:List Nat)(f:Nat)(M:List (List Nat))(w:List Nat):Sp.mults p (F ++ [f]) M w=Sp.mults p F M w++M.map fun u=>Sp.put p u f w:=by
 unfold Sp.mults;rw [List.flatMap_append];simp
def cN(w:List Nat):List Int:=w.map fun n:Nat=>(n:Int)
def uN(w:List Int):List Nat:=w.map Int.toNat
theorem mQ(w:List Nat):uN (cN w)=w:=by
 unfold uN cN;rw [List.map_map];exact (List.map_congr_left fun x _=>Int.toNat_natCast x).trans (List.map_id _)
theorem bT(w:List Nat):AM w=tI (cN w):=by
 unfold AM tI nl cN;rw [List.map_map];rfl
def X9(M:List (List Nat)):List (List Nat):=(T9 (M.map cN)).map uN
theorem rS(M:List (List Nat)):(X9 M).map cN=T9 (M.map cN):=by
 unfold X9;rw [List.map_map];refine (List.map_congr_left fun x hx=> ?_).trans (List.map_id _);obtain ⟨w,_,rfl⟩:=List.mem_map.mp ((NI _).mem_iff.mp hx);show cN (uN (cN w))=cN w;rw [mQ]
theorem dS(M:List (List Nat)):(X9 M).Perm M:=by
 have:=(NI (M.map cN)).map uN;rw [E5] at this
 refine this.trans (d6 ?_);exact (BH fun x _=>mQ x).trans (RU _)
theorem oZ{M:List (List Nat)}(hM:∀w ∈ M,w ≠ [])(hl:M.length<128){s:Sl}(hs:s.dat = .list (M.map AM)):dSortT [s]=some (.own ((X9 M).map AM)):=by
 have e1:M.map AM=(M.map cN).map tI:=by rw [E5];exact BH fun w _=>bT w
 have e2:(X9 M).map AM=(T9 (M.map cN)).map tI:=by
  rw [<-rS,E5];exact BH fun w _=>bT w
 unfold dSortT
 dsimp only
 rw [hs,e1];show ((OM ((M.map cN).map tI)).bind fun nss=>if nss.length<128 then some (Sl.own ((T9 nss).map tI)) else none)=_;rw [S5 fun ns hn=> ?_,FN,AA,AB hl,e2];obtain ⟨w,hw,rfl⟩:=AL.mp hn;intro e;exact hM w hw (by have:=K0 uN e;rwa [mQ] at this)
abbrev Pr (p:Nat):Prop:=p=2\/p=3\/p=5\/p=7
theorem A48{p n:Nat}{w:List Nat}(h:Sp.Ok p n w)(n1:1<=n):w ≠ []:=fun e=>by
 have:=h.1;rw [e] at this
 simp at this
 omega
theorem ZZ(p n:Nat)(W:List (List Nat))(w:List Nat):Sp.spanT p n (W ++ [w])=Sp.stepT p (Sp.spanT p n W) w:=by
 unfold Sp.spanT;rw [List.foldl_append];rfl
theorem dF{p n:Nat}(hq:Pr p)(n1:1<=n)(n6:n<=6)(hpn:p ^ n<=125){W:List (List Nat)}(hW:∀w ∈ W,NF p n w):UT [.int (p:Int), .int (n:Int), .list (W.map AM)]=some (.own ((X9 (Sp.spanT p n W)).map AM)):=by
 have sl:=F5;have hp:0<p:=by omega
 have p7:p<=7:=by omega
 let P0:Option Sl:=some (.val (.int p))
 let N1:Option Sl:=some (.val (.int n))
 let WV:Option Sl:=some (.val (.list (W.map AM)))
 refine FR (ρ:= [P0,N1,WV,none,none,none,none,none,none]) rfl rfl ?_;unfold b_q10;refine CA (r:= .own [AM (Sp.zero n)]) (VC (a:= .val (AM (Sp.zero n))) ((AY (op:=dRepT) (mX (a:= .val (.int 0)) rfl) (b:= .val (.int n)) rfl).trans (kP 0 n1 (by omega)))) ?_
 have facts:∀k,(∀u ∈ Sp.spanT p n (W.take k),Sp.Ok p n u)/\(Sp.spanT p n (W.take k)).Nodup/\(Sp.spanT p n (W.take k)).length<=125:=fun k=>by
  obtain ⟨a,_,b,c⟩:=Sp.span_take (n:=n) hq (W:=W.take k) fun w hw=>hW w (C9 hw);have ok:∀u ∈ Sp.spanT p n (W.take k),Sp.Ok p n u:=fun u hu=>a.ok u ((c u).mpr hu);exact ⟨ok,b,BG (Sp.len_le b ok) hpn⟩
 refine GB (P:=fun ρ=>∃(s3:Sl) (z4 z5 z6 z7 z8:Option Sl),s3.dat = .list ((Sp.spanT p n W).map AM)/\ρ = [P0,N1,WV,some s3,z4,z5,z6,z7,z8]) ?_ ?_
 . refine IJ (en:=AM) (xs:=W) (fun k ρ=>∃(s3:Sl) (z4 z5 z6 z7 z8:Option Sl),(s3 = .own ((Sp.spanT p n (W.take k)).map AM)\/s3 = .val (.list ((Sp.spanT p n (W.take k)).map AM)))/\ρ = [P0,N1,WV,some s3,z4,z5,z6,z7,z8]) rfl ⟨_,_,_,_,_,_, .inl rfl,rfl⟩ ?_ ?_
   . rintro k w ρ hk ⟨s3,z4,z5,z6,z7,z8,hs3,rfl⟩;have tk:W.take (k+1)=W.take k ++ [w]:=by rw [G7,hk];rfl
     have okw:Sp.Ok p n w:=hW w (BC hk);obtain ⟨f1,f2,f3⟩:=facts k;rw [tk,ZZ];generalize Sp.spanT p n (W.take k)=T at hs3 f1 f2 f3
     let W4:Option Sl:=some (.val (AM w))
     let TV:Option Sl:=some (.val (.list (T.map AM)))
     refine ⟨_,rfl,?_⟩;refine CA (r:= .own (T.map AM)) (CP (ss:= [s3]) rfl (by rcases hs3 with rfl | rfl <;> rfl)) ?_;show Wp _ [P0,N1,WV,some s3,W4,some (.own (T.map AM)),z6,z7,z8] _;refine GB (P:=fun ρ=>∃(s3:Sl) (z6 z7 z8:Option Sl),ρ = [P0,N1,WV,some s3,W4,some (.own ((Sp.stepT p T w).map AM)),z6,z7,z8]) ?_ ?_
     . refine VR (lo:=((1:Nat):Int)) (n:=p - 1) (fun j ρ=>∃(s3:Sl) (z6 z7 z8:Option Sl),(s3 = .own (T.map AM)\/s3 = .val (.list (T.map AM)))/\ρ = [P0,N1,WV,some s3,W4,some (.own (((Sp.mults p (List.range' 1 j) T w).foldl Sp.addT T).map AM)),z6,z7,z8]) (qZ (i:=1) (j:=p) rfl (by decide) (by omega)) ⟨s3,_,_,_,hs3,rfl⟩ ?_ ?_
       . rintro j ρ hj ⟨s3,z6,z7,z8,hs3,rfl⟩;refine ⟨_,rfl,IV ?_⟩
         let J6:Option Sl:=some (.val (.int ((1+j:Nat):Int)))
         have ej:((1:Nat):Int)+((j:Nat):Int)=((1+j:Nat):Int):=by omega
         have fz:frz1 3 [P0,N1,WV,some s3,W4,some (.own (((Sp.mults p (List.range' 1 j) T w).foldl Sp.addT T).map AM)),J6,z7,z8] = [P0,N1,WV,TV,W4,some (.own (((Sp.mults p (List.range' 1 j) T w).foldl Sp.addT T).map AM)),J6,z7,z8]:=by rcases hs3 with rfl | rfl <;> rfl
         show Wp _ (frz1 3 [P0,N1,WV,some s3,W4,some (.own (((Sp.mults p (List.range' 1 j) T w).foldl Sp.addT T).map AM)),some (.val (.int (((1:Nat):Int)+((j:Nat):Int)))),z7,z8]) _;rw [ej,fz];have er:List.range' 1 (j+1)=List.range' 1 j ++ [1+j]:=by rw [List.range'_1_concat]
         rw [er];refine IJ (en:=AM) (xs:=T) (fun i ρ=>∃(z7 z8:Option Sl),ρ = [P0,N1,WV,TV,W4,some (.own (((Sp.mults p (List.range' 1 j) T w++(T.take i).map fun u=>Sp.put p u (1+j) w).foldl Sp.addT T).map AM)),J6,z7,z8]) rfl ⟨_,_,by rw [gR,Q1,E4]⟩ ?_ ?_
         . rintro i u ρ hi ⟨z7,z8,rfl⟩;have ti:T.take (i+1)=T.take i ++ [u]:=by rw [G7,hi];rfl
           have oku:=f1 u (BC hi)
           have ea:(Sp.mults p (List.range' 1 j) T w++(T.take (i+1)).map fun u=>Sp.put p u (1+j) w).foldl Sp.addT T=Sp.addT ((Sp.mults p (List.range' 1 j) T w++(T.take i).map fun u=>Sp.put p u (1+j) w).foldl Sp.addT T) (Sp.put p u (1+j) w):=by
            rw [ti,D8, <-BP,List.foldl_append];rfl
           obtain ⟨g1,g2⟩:=Sp.addT_fold (Sp.mults p (List.range' 1 j) T w++(T.take i).map fun u=>Sp.put p u (1+j) w) T f2
           have gl:((Sp.mults p (List.range' 1 j) T w++(T.take i).map fun u=>Sp.put p u (1+j) w).foldl Sp.addT T).length<=125:=by
            refine BG (Sp.len_le (p:=p) (n:=n) g1 fun x hx=> ?_) hpn;rcases (g2 x).mp hx with hx | hx
            . exact f1 x hx
            . rcases AW.mp hx with hx | hx
              . obtain ⟨f,_,v,hv,rfl⟩:=Sp.mem_mults.mp hx;exact Sp.put_ok hp (f1 v hv).1 okw.1 f
              . obtain ⟨v,hv,rfl⟩:=AL.mp hx;exact Sp.put_ok hp (f1 v (C9 hv)).1 okw.1 _
           rw [ea];generalize (Sp.mults p (List.range' 1 j) T w++(T.take i).map fun u=>Sp.put p u (1+j) w).foldl Sp.addT T=acc at gl
           refine ⟨_,rfl,?_⟩;refine CA (r:= .val (AM (Sp.put p u (1+j) w))) (jG (jf:=6) (jp:=0) (ju:=7) (jw:=4) hp p7 (by omega) (by rw [oku.1];omega) rfl rfl rfl) ?_;generalize Sp.put p u (1+j) w=x
           let U7:Option Sl:=some (.val (AM u))
           let X8:Option Sl:=some (.val (AM x))
           show Wp _ [P0,N1,WV,TV,W4,some (.own (acc.map AM)),J6,U7,X8] _;have tn:(mTest (mBin (W8 true) (mPk 8) (mPk 5))) [P0,N1,WV,TV,W4,some (.own (acc.map AM)),J6,U7,X8]=some (decide (x ∉ acc)):=GR ((AY (op:=W8 true) (a:= .val (AM x)) (b:= .own (acc.map AM)) rfl rfl).trans (dN x acc))
           by_cases hin:x ∈ acc
           . refine QJ (tn.trans (by rw [decide_eq_false (by simpa using hin)])) (L3 ⟨U7,X8,?_⟩);have e:Sp.addT acc x=acc:=by unfold Sp.addT;rw [if_pos hin]
             rw [e]
           . refine OA (tn.trans (by rw [decide_eq_true hin])) (IV (XN (VX (r:= .val (AM x)) (ds:=acc.map AM) rfl rfl (by rw [List.length_map];omega)) ⟨U7,X8,?_⟩));have e:Sp.addT acc x=acc ++ [x]:=by unfold Sp.addT;rw [if_neg hin]
             rw [e,D8];rfl
         . rintro ρ ⟨z7,z8,rfl⟩;rw [B6 (A9 _), <-ZG];exact ⟨.val (.list (T.map AM)),_,_,_, .inr rfl,rfl⟩
       . rintro ρ ⟨s3,z6,z7,z8,_,rfl⟩;exact ⟨s3,z6,z7,z8,rfl⟩
     . rintro ρ ⟨s3,z6,z7,z8,rfl⟩;exact IV (KF (r:= .val (.list ((Sp.stepT p T w).map AM))) rfl ⟨_,_,_,_,_,_, .inr rfl,rfl⟩)
   . rintro ρ ⟨s3,z4,z5,z6,z7,z8,hs3,rfl⟩;rw [B6 (A9 _)] at hs3
     exact ⟨s3,z4,z5,z6,z7,z8,by rcases hs3 with rfl | rfl <;> rfl,rfl⟩
 . rintro ρ ⟨s3,z4,z5,z6,z7,z8,hs3,rfl⟩;obtain ⟨f1,f2,f3⟩:=facts W.length;rw [B6 (A9 _)] at f1 f2 f3
   exact DF (CP (ss:= [s3]) rfl (oZ (fun w hw=>A48 (f1 w hw) n1) (by omega) hs3)) rfl
abbrev MK (p:Nat) (G:List (List Nat)) (x:List Nat):List Nat:=Su.come p G x
theorem UC {F : List PyData -> Option Sl} {en : List Nat -> PyData} {p n : Nat} {B : List (List Nat)} {x : List Nat} (hB : ∀ b ∈ B, NF p n b) (hF : ∀ w, NF p n w -> F [.int (p : Int), en w, AM x] = some (.val (.int ((VP w x % p : Nat) : Int)))) {ρ0 : En} (e0 : ρ0 = [some (.val (.int p)), some (.val (AM x)), none]) :
 NB (elM (gVar 2) mYes (mCall F (mCons (mVar 0) (mCons (mVar 2) (mCons (mVar 1) mNil)))) ρ0) (B.map en)=some (nl (MK p B x)):=by
 subst e0;refine (EB (en:=en) (g:=fun b=> .int ((VP b x % p:Nat):Int)) (xs:=B) fun b hb=> ?_).trans (by unfold nl MK Su.come;rw [List.map_map];rfl);exact KH (fg:=gVar 2) (ρ0:= [some (.val (.int p)),some (.val (AM x)),none]) (d:=en b) (ρ1:= [some (.val (.int p)),some (.val (AM x)),some (.val (en b))]) (r:= .val (.int ((VP b x % p:Nat):Int))) rfl (CU (ds:= [.int (p:Int),en b,AM x]) rfl (hF b (hB b hb)))
theorem b9{p n:Nat}(p7:p<=7)(n6:n<=6){w:List Nat}(hw:NF p n w):w.length<=900/\∀r ∈ w,r<=1000:=⟨by rw [hw.1];omega,fun r hr=>by have:=hw.2 r hr;omega⟩
theorem run_block{p n:Nat}(hp:2<=p)(p7:p<=7)(n6:n<=6){B:List (List Nat)}(hB:∀b ∈ B,NF p n b)(hl:B.length<=900)(x:List Nat):YD [.int (p:Int), .list (B.map lN),AM x]=some (.val (AM (MK p B x))):=by
 have sl:=F5;refine FR (ρ:= [some (.val (.int p)),some (.val (.list (B.map lN))),some (.val (AM x))]) rfl rfl ?_;unfold b_q16;exact DF (CP (ss:= [.own (nl (MK p B x))]) (D4 (a:= .own (nl (MK p B x))) (as:= []) (JA (ds:=B.map lN) rfl (by rw [List.length_map];omega) (UC hB (fun w hw=>dC (by omega) (b9 p7 n6 hw).1 (b9 p7 n6 hw).2) rfl)) rfl) rfl) rfl
def OZ(p n:Nat)(G:List (List Nat)):List (List Nat):=(Tr.allT (List.replicate n p)).map (MK p G)
theorem VD{p n:Nat}(hpn:p ^ n<=125):(Tr.allT (List.replicate n p)).length<=125:=by simpa [Tr.allT,SI] using hpn
theorem jS{p n:Nat}(hp:2<=p)(p7:p<=7)(n6:n<=6)(hpn:p ^ n<=125){G:List (List Nat)}(hG:∀b ∈ G,NF p n b)(hl:G.length<=900)(h0:G ≠ []):XV [.int (p:Int), .list (G.map lN)]=some (.own ((OZ p n G).map AM)):=by
 have sl:=F5
 let P0:Option Sl:=some (.val (.int p))
 let G1:Option Sl:=some (.val (.list (G.map lN)))
 obtain ⟨g,R,rfl⟩:∃g R,G=g::R:=by
  cases G with
  | nil=>exact absurd rfl h0
  | cons g R=>exact ⟨g,R,rfl⟩
 have gl:g.length=n:=(hG g List.mem_cons_self).1;refine FR (ρ:= [P0,G1]) rfl rfl ?_;unfold b_q28
 have e1:(mBin dRep (mLst (mCons (mVar 0) mNil)) (mCallP dLen (mConsP (mBin dix (mPk 1) (mK (.int 0))) mNilP))) [P0,G1]=some (.own (nl (List.replicate n p))):=by
  have ix:(mBin dix (mPk 1) (mK (.int 0))) [P0,G1]=some (.val (lN g)):=(AY (op:=dix) (a:= .val (.list ((g::R).map lN))) (b:= .val (.int ((0:Nat):Int))) rfl rfl).trans (JX (.inl rfl) rfl)
  have le:(mCallP dLen (mConsP (mBin dix (mPk 1) (mK (.int 0))) mNilP)) [P0,G1]=some (.val (.int (n:Nat))):=by
   refine CP (D4 ix rfl) ?_;show some (Sl.val (.int (((nl g).length:Nat):Int)))=_;rw [JM,gl]
  refine (AY (op:=dRep) (VC (a:= .val (.int p)) rfl) le).trans ((pD (by show 1*n<=sizeLine;omega) (by omega)).trans ?_);exact K0 (fun l=>some (Sl.own l)) (mM p n)
 have hall:=rZ (L:=List.replicate n p) (fun c hc=>by rw [(JL.mp hc).2];omega) (by rw [BY];omega) (by rw [SI];omega)
 have it:(CD (mCall UF (mCons (mBin dRep (mLst (mCons (mVar 0) mNil)) (mCallP dLen (mConsP (mBin dix (mPk 1) (mK (.int 0))) mNilP))) mNil))) [P0,G1]=some ((Tr.allT (List.replicate n p)).map AM):=by
  unfold CD;rw [CU (ds:= [.list (nl (List.replicate n p))]) (CC e1 (show mNil [P0,G1]=some [] from rfl)) hall];rfl
 have al:=VD (p:=p) (n:=n) hpn;refine DF (JA it (by rw [List.length_map];omega) ?_) rfl;refine (EB (en:=AM) (g:=fun x=>AM (MK p (g::R) x)) fun x hx=> ?_).trans (by unfold OZ;rw [List.map_map];rfl);exact KH (fg:=gVar 2) (ρ0:= [P0,G1,none]) (d:=AM x) (ρ1:= [P0,G1,some (.val (AM x))]) (r:= .val (AM (MK p (g::R) x))) rfl (CU (ds:= [.int (p:Int), .list ((g::R).map lN),AM x]) rfl (run_block hp p7 n6 hG hl x))
def chs:List (List Nat)->Nat->List (List (List Nat))
 | _,0=> [[]]
 | W,t+1=>(List.range W.length).flatMap fun k=>(chs (W.drop (k+1)) t).map fun r=> [Su.getW W k]++r
def lT(V:List (List Nat)):PyData:= .list (V.map AM)
theorem SO{α β:Type}{f:α->List β}{n:Nat}:∀(l:List α),(∀a ∈ l,(f a).length<=n)->(l.flatMap f).length<=l.length*n
 | [],_=>by simp
 | a::l,h=>by
  have h1:=h a AU;have h2:=SO l fun b hb=>h b (AK _ hb);rw [G6,AZ,B4,K3];omega
theorem VV:∀(t:Nat) (W:List (List Nat)),W.length<=5->(chs W t).length<=5 ^ t
 | 0,_,_=>A9 _
 | t+1,W,h=>by
  rw [chs];refine BG (SO (n:=5 ^ t) _ fun k _=> ?_) ?_
  . rw [AA];exact VV t _ (by rw [FM];omega)
  . rw [HN,GV,K5 (5 ^ t)];exact LK _ h
theorem kS:∀(t:Nat) (W V:List (List Nat)),V ∈ chs W t->V.length=t
 | 0,_,V,h=>by
  rw [chs] at h
  rw [A4.mp h]
  rfl
 | t+1,W,V,h=>by
  rw [chs] at h
  obtain ⟨k,_,h⟩:=LA.mp h;obtain ⟨r,hr,rfl⟩:=AL.mp h;have:=kS t _ r hr;simp [this]
def chB (F : List PyData -> Option Sl) : En -> Option Out :=
 (mSeq (mIf (mTest (mBin deq (mPk 1) (mK (.int 0)))) (mRet (mLst (mCons (mLst mNil) mNil))) mNext)
 (mSeq (mAsg 2 (mLst mNil))
 (mSeq (HJ (IB (mConsP (mCallP dLen (mConsP (mPk 0) mNilP)) mNilP)) (gVar 3) (mAsg 2 (mBin dAdd (mPk 2) (mLC (E1 [some 0,some 3,none]) (CD (mCall F (mCons (mSl (mPk 0) (mPart (mBin dAdd (mPk 3) (mK (.int 1)))) mNoPart) (mCons (mBin dSub (mPk 1) (mK (.int 1))) mNil)))) (gVar 2) mYes (mBin dAdd (mLst (mCons (mBin dix (mPk 0) (mPk 1)) mNil)) (mPk 2))))))
 (mRet (mPk 2)))))
def pQ(F:List PyData->Option Sl)(t:Nat):Prop:=∀W:List (List Nat),W.length<=5->F [.list (W.map AM), .int (t:Int)]=some (.own ((chs W t).map lT))
theorem VL(F:List PyData->Option Sl):pQ (FS 4 (chB F) 2) 0:=fun W hW=>by
 refine FR (ρ:= [some (.val (.list (W.map AM))),some (.val (.int ((0:Nat):Int))),none,none]) rfl rfl ?_;unfold chB;refine NG (OA (GR ((AY (op:=deq) (a:= .val (.int ((0:Nat):Int))) (b:= .val (.int 0)) rfl rfl).trans (VG _ _))) (DF (r:= .own [.list []]) (VC (a:= .own []) MX) ?_));rfl
theorem h9{α:Type}(l:List α)(k:Nat):JB l (some ((k:Int)+1)) none=l.drop (k+1):=by
 unfold JB
 have h1:HT.sIx l.length 0 (some ((k:Int)+1))=min (k+1) l.length:=by
  show (if (k:Int)+1<0 then ((k:Int)+1+((l.length:Nat):Int)).toNat else min ((k:Int)+1).toNat l.length)=_;rw [A8 (by omega)];omega
 have h2:HT.sIx l.length l.length none=l.length:=rfl;rw [h1,h2]
 by_cases h:k+1<=l.length
 . rw [JF h];exact B6 (by rw [FM];omega)
 . rw [OV (by omega),uM (A9 _),uM (by omega),List.take_nil]
theorem NK{F:List PyData->Option Sl}{t:Nat}(ht:t<=2)(hF:pQ F t):pQ (FS 4 (chB F) 2) (t+1):=fun W hW=>by
 have sl:=F5
 let W0:Option Sl:=some (.val (.list (W.map AM)))
 let T1:Option Sl:=some (.val (.int ((t+1:Nat):Int)))
 have p5:5 ^ t<=25:=Nat.le_trans (Nat.pow_le_pow_right (by omega) ht) (by decide);refine FR (ρ:= [W0,T1,none,none]) rfl rfl ?_;unfold chB;refine RK (GR ((AY (op:=deq) (a:= .val (.int ((t+1:Nat):Int))) (b:= .val (.int 0)) rfl rfl).trans ((VG _ _).trans (by rw [decide_eq_false (by omega)])))) (CA MX ?_)
 let f:Nat->List (List (List Nat)):=fun k=>(chs (W.drop (k+1)) t).map fun r=> [Su.getW W k]++r
 have fl:∀k,(f k).length<=25:=fun k=>by
  simp only [f,AA];exact BG (VV t _ (by rw [FM];omega)) p5
 refine GB (P:=fun ρ=>∃z,ρ = [W0,T1,some (.own ((chs W (t+1)).map lT)),z]) ?_ ?_
 . refine LP (n:=W.length) (fun j ρ=>∃z,ρ = [W0,T1,some (.own (((List.range j).flatMap f).map lT)),z]) (JV (j:=W.length) ?_ (by omega)) ⟨_,rfl⟩ ?_ ?_
   . refine D4 (a:= .val (.int (W.length:Nat))) (as:= []) (CP (ss:= [.val (.list (W.map AM))]) rfl ?_) rfl;show some (Sl.val (.int (((W.map AM).length:Nat):Int)))=_;rw [AA]
   . rintro j ρ hj ⟨z,rfl⟩;refine ⟨_,rfl,?_⟩
     let A:=(List.range j).flatMap f
     have al:A.length<=125:=by
      have:=SO (f:=f) (n:=25) (List.range j) fun a _=>fl a;rw [HN] at this
      show ((List.range j).flatMap f).length<=125;omega
     have as_:(List.range (j+1)).flatMap f=A++f j:=by rw [d8,IU];simp [A]
     rw [as_]
     let J3:Option Sl:=some (.val (.int (j:Nat)))
     let ρ1:En:= [W0,T1,some (.own (A.map lT)),J3]
     show Wp _ ρ1 _;refine KF (r:= .own ((A++f j).map lT)) ?_ ⟨_,rfl⟩
     have sle:(mSl (mPk 0) (mPart (mBin dAdd (mPk 3) (mK (.int 1)))) mNoPart) ρ1=some (.own ((W.drop (j+1)).map AM)):=by
      show some (Sl.own (JB (W.map AM) (some ((j:Int)+1)) none))=_;rw [h9,List.map_drop]
     have sb:(mBin dSub (mPk 1) (mK (.int 1))) ρ1=some (.val (.int (t:Nat))):=by
      show some (Sl.val (.int (((t+1:Nat):Int) - 1)))=_;rw [show ((t+1:Nat):Int) - 1=(t:Int) by omega]
     have it:(CD (mCall F (mCons (mSl (mPk 0) (mPart (mBin dAdd (mPk 3) (mK (.int 1)))) mNoPart) (mCons (mBin dSub (mPk 1) (mK (.int 1))) mNil)))) ρ1=some ((chs (W.drop (j+1)) t).map lT):=by
      unfold CD;rw [CU (ds:= [.list ((W.drop (j+1)).map AM), .int (t:Int)]) (CC sle (CC sb (show mNil ρ1=some [] from rfl))) (hF (W.drop (j+1)) (by rw [List.length_drop];omega))];rfl
     have cl:(chs (W.drop (j+1)) t).length<=25:=BG (VV t _ (by rw [FM];omega)) p5;refine (AY (op:=dAdd) (a:= .own (A.map lT)) (b:= .own ((f j).map lT)) rfl (JA it (by rw [AA];omega) ?_)).trans ((MA rfl rfl ?_).trans ?_)
     . refine (EB (en:=lT) (g:=fun r=>lT ([Su.getW W j]++r)) fun r hr=> ?_).trans (by simp only [f,E5];rfl);have rl:=kS t _ r hr;refine KH (fg:=gVar 2) (ρ0:= [W0,J3,none]) (d:=lT r) (ρ1:= [W0,J3,some (.val (lT r))]) (r:= .own (([Su.getW W j]++r).map AM)) rfl ?_
       have ix:(mBin dix (mPk 0) (mPk 1)) [W0,J3,some (.val (lT r))]=some (.val (AM (Su.getW W j))):=by
        refine (AY (op:=dix) (a:= .val (.list (W.map AM))) (b:= .val (.int (j:Nat))) rfl rfl).trans (JX (.inl rfl) ?_);rw [List.getElem?_map,List.getElem?_eq_getElem hj];show some (AM W[j])=some (AM (Su.getW W j));unfold Su.getW;rw [List.getD,List.getElem?_eq_getElem hj];rfl
       refine (AY (op:=dAdd) (VC ix) (b:= .val (lT r)) rfl).trans ((MA (ys:=r.map AM) rfl rfl ?_).trans (by rw [D8];rfl));rw [AA];show 1+r.length<=sizeLine;omega
     . rw [AA,AA];have:=fl j;omega
     . rw [D8]
   . rintro ρ ⟨z,rfl⟩;exact ⟨z,rfl⟩
 . rintro ρ ⟨z,rfl⟩;exact DF rfl rfl
theorem Z5{t:Nat}(h1:1<=t)(h3:t<=3):pQ fT t:=by
 have a:t=1\/t=2\/t=3:=by omega
 rcases a with rfl | rfl | rfl
 . exact NK (F:=Z8) (by omega) (VL ZY)
 . exact NK (F:=Z8) (by omega) (NK (F:=ZY) (by omega) (VL eD))
 . exact NK (F:=Z8) (by omega) (NK (F:=ZY) (by omega) (NK (F:=eD) (by omega) (VL hZ)))
theorem OY:∀(t:Nat) (G V:List (List Nat)),V ∈ chs G t↔∃c,c.length=t/\Ev.Inc G.length c/\c.map (Su.getW G)=V
 | 0,G,V=>by
  rw [chs,A4]
  constructor
  . rintro rfl;exact ⟨[],rfl,⟨G0,fun _ h=>nomatch h⟩,rfl⟩
  . rintro ⟨c,h,_,rfl⟩;rw [aC h]
    rfl
 | t+1,G,V=>by
  have gd:∀k d,Su.getW (G.drop k) d=Su.getW G (d+k):=fun k d=>by
   unfold Su.getW;rw [List.getD,List.getD,List.getElem?_drop,Nat.add_comm]
  rw [chs,LA]
  constructor
  . rintro ⟨k,hk,h⟩;obtain ⟨r,hr,rfl⟩:=AL.mp h;obtain ⟨c,c1,⟨c2,c3⟩,rfl⟩:=(OY t _ _).mp hr;have hk:=BL.mp hk;rw [FM] at c3
    refine ⟨k::c.map (· + (k+1)),by simp [c1],⟨List.Pairwise.cons (fun d hd=> ?_) ?_,fun d hd=> ?_⟩,?_⟩
    . obtain ⟨e,_,rfl⟩:=AL.mp hd;show k<e+(k+1);omega
    . rw [HM];exact c2.imp fun h=>by omega
    . rcases AJ.mp hd with rfl | hd
      . exact hk
      . obtain ⟨e,he,rfl⟩:=AL.mp hd;have:=c3 e he;show e+(k+1)<G.length;omega
    . rw [B1,E5];show _=_::_;congr 1
      exact BH fun d _=>(gd (k+1) d).symm
  . rintro ⟨c,c1,⟨c2,c3⟩,rfl⟩
    cases c with
    | nil=>simp at c1
    | cons k c=>
     obtain ⟨h1,h2⟩:=A65.mp c2;have hk:=c3 k AU;refine ⟨k,BL.mpr hk,AL.mpr ⟨c.map (Su.getW G),(OY t _ _).mpr ⟨c.map (· - (k+1)),by simpa using c1,⟨?_,fun d hd=> ?_⟩,?_⟩,rfl⟩⟩
     . rw [HM];refine O1 (fun {a b} ha hb h=> ?_) h2;have:=h1 a ha;have:=h1 b hb;omega
     . obtain ⟨e,he,rfl⟩:=AL.mp hd;have a1:=h1 e he;have a2:=c3 e (AK _ he);rw [FM];show e - (k+1)<_;omega
     . rw [E5];refine BH fun d hd=> ?_;show Su.getW (G.drop (k+1)) (d - (k+1))=_;have:=h1 d hd;rw [gd,show d - (k+1)+(k+1)=d by omega]
theorem iG(l:List Nat):(lN l).canLay0=true:=N0 (en:=fun n:Nat=>PyData.int (n:Int)) (fun _=>rfl) l
theorem yF(l:List Nat):(lN l).depth<=3:=by
 have:=N4 (en:=fun n:Nat=>PyData.int (n:Int)) (k:=1) (fun x=>by simp [PyData.depth]) l;simp only [lN,PyData.depth,nl];omega
theorem xB(M:List (List Nat)):(PyData.list (M.map lN)).canLay0=true:=N0 (en:=lN) iG M
theorem xP(M:List (List Nat)):(PyData.list (M.map lN)).depth<=5:=by
 have:=N4 (en:=lN) (k:=3) yF M;simp only [PyData.depth];omega
theorem yU(c k k':List Nat):PyData.eqv (IX c k k') NA=false:=by
 unfold IX NA;simp [PyData.eqv,PyData.eqvAll]
theorem wZ(c k k':List Nat):(IX c k k').canLay0=true:=by
 have h1:=iG c;have h2:=P5 k;have h3:=P5 k';have h4:(PyData.str "uneven").canLay0=true:=by decide +kernel
 unfold IX;simp only [PyData.canLay0,PyData.canLayAll0,h1,h2,h3,Bool.and_true];exact h4
theorem iX:NA.canLay0=true:=by decide +kernel
theorem kR:NA.depth<=60:=by decide +kernel
theorem WX{p:Nat}(hp:0<p)(n:Nat)(w:List Nat):w ∈ Tr.allT (List.replicate n p)↔NF p n w:=by
 rw [Ev.allT_mem _ _ _ rfl fun c hc=>by rw [(JL.mp hc).2];exact hp]
 have at_:∀i,i<n->(List.replicate n p).getD i 0=p:=fun i hi=>by
  rw [List.getD,GH,AB hi];rfl
 constructor
 . rintro ⟨h1,h2⟩;rw [BY] at h1 h2
   refine ⟨h1,fun r hr=> ?_⟩;obtain ⟨i,hi,rfl⟩:=I9.mp hr;have:=h2 i (by omega);rw [at_ i (by omega),List.getD,AE hi] at this
   exact this
 . rintro ⟨h1,h2⟩;refine ⟨by rw [h1,BY],fun i hi=> ?_⟩;rw [BY] at hi
   rw [at_ i hi,List.getD,AE (by omega)];exact h2 _ (F0 _)
theorem sQ{p:Nat}(hp:0<p)(n:Nat):Su.AllOk p n (Tr.allT (List.replicate n p)):=⟨Ev.allT_nd _ _ rfl fun c hc=>by rw [(JL.mp hc).2];exact hp,WX hp n⟩
theorem eR{p n:Nat}(hp:2<=p)(p7:p<=7)(hpn:p ^ n<=125){G:List (List Nat)}(h5:G.length<=5):PlanOk (OZ p n G) (List.replicate G.length p):=by
 have al:=VD (p:=p) (n:=n) hpn;refine ⟨by unfold OZ;rw [List.length_map];omega,?_,fun x hx=> ?_,fun c hc=> ?_,by rw [List.length_replicate];omega⟩
 . unfold OZ;rw [List.length_map];exact List.length_pos_of_mem ((WX (by omega) n (Sp.zero n)).mpr (Sp.zero_ok (by omega) n))
 . unfold OZ at hx
   obtain ⟨y,_,rfl⟩:=AL.mp hx;refine ⟨by simp [Su.come],fun i hi=> ?_⟩;rw [BY] at hi
   rw [show (List.replicate G.length p).getD i 0=p by rw [List.getD,GH,AB hi];rfl];show (Su.come p G y).getD i 0<p;rw [Su.come_at hi];exact L9 _ (by omega)
 . rw [(JL.mp hc).2];omega
theorem eB{p n t:Nat}(hq:Pr p){G:List (List Nat)}(hG:∀b ∈ G,NF p n b):(∀c ∈ Ev.CB G.length t,Ev.EvC (OZ p n G) (List.replicate G.length p) c)↔∀V ∈ chs G t,(Sp.spanT p n V).length=p ^ t:=by
 have hp:0<p:=by omega
 constructor
 . intro h V hV;obtain ⟨c,c1,c2,rfl⟩:=(OY t G V).mp hV;have:=(Su.even_iff (c:=c) hq hG (sQ hp n) c2.nodup c2.2).mp (h c (Ev.mem_CB.mpr ⟨c1,c2⟩))
   rwa [c1] at this
 . intro h c hc;obtain ⟨c1,c2⟩:=Ev.mem_CB.mp hc;refine (Su.even_iff (c:=c) hq hG (sQ hp n) c2.nodup c2.2).mpr ?_;rw [c1];exact h _ ((OY t G _).mpr ⟨c,c1,c2,rfl⟩)
theorem kM(a b:Bool):dne (.val (.bool a)) (.val (.bool b))=some (.val (.bool (!(a==b)))):=by
 cases a <;> cases b <;> rfl
theorem e9{p n:Nat}(hq:Pr p)(n1:1<=n)(n6:n<=6)(hpn:p ^ n<=125){G:List (List Nat)}(hG:∀b ∈ G,NF p n b)(g1:1<=G.length)(g5:G.length<=5):jB [.int (p:Int), .int (n:Int), .list (G.map AM)]=some (.val (.bool true)):=by
 have sl:=F5;have hp:2<=p:=by omega
 have p7:p<=7:=by omega
 have hp0:0<p:=by omega
 let P0:Option Sl:=some (.val (.int p))
 let N1:Option Sl:=some (.val (.int n))
 let G2:Option Sl:=some (.val (.list (G.map AM)))
 let H3:Option Sl:=some (.val (.list (G.map lN)))
 let T:=OZ p n G
 let F4:Option Sl:=some (.val (.list (T.map AM)))
 have PO:=eR (n:=n) hp p7 hpn g5
 have lists:∀ρ:En,(ρ[2]?).join=some (.val (.list (G.map AM)))->(mLC (E1 [none]) (CD (mVar 2)) (gVar 0) mYes (mCallP dList (mConsP (mPk 0) mNilP))) ρ=some (.own (G.map lN)):=fun ρ h2=>by
  refine JA (ds:=G.map AM) ?_ (by rw [List.length_map];omega) (EB (en:=AM) (g:=lN) fun b _=>KH (fg:=gVar 0) (ρ0:= [none]) (d:=AM b) (r:= .own (nl b)) rfl rfl);unfold CD mVar;rw [h2];rfl
 refine FR (ρ:= [P0,N1,G2,none,none,none,none,none,none,none]) rfl rfl ?_;unfold b_q8;refine CA (lists _ rfl) ?_;refine HA (ρ':= [P0,N1,G2,H3,some (.own (T.map AM)),none,none,none,none,none]) ?_ ?_
 . rw [MW];exact MY (ρ:= [P0,N1,G2,H3,none,none,none,none,none,none]) (CU (ds:= [.int (p:Int), .list (G.map lN)]) rfl (jS hp p7 n6 hpn hG (by omega) (by intro e;rw [e] at g1;simp at g1)))
 obtain ⟨st,et,dt⟩:=ZE hp p7 n6 hpn;have al:=VD (p:=p) (n:=n) hpn;refine CA (r:= .own (T.map AM)) ?_ ?_
 . refine JA (ds:=(Tr.allT (List.replicate n p)).map AM) ?_ (by rw [AA];omega) ?_
   . unfold CD;rw [CU (F:=UL) (ds:= [.int p, .int n]) rfl et,Option.bind_some,dt]
   . refine (EB (en:=AM) (g:=fun x=>AM (MK p G x)) fun x hx=> ?_).trans (by unfold T OZ;rw [List.map_map];rfl);refine KH (fg:=gVar 2) (ρ0:= [G2,P0,none]) (d:=AM x) (ρ1:= [G2,P0,some (.val (AM x))]) (r:= .val (AM (MK p G x))) rfl ?_;exact CP (ss:= [.own (nl (MK p G x))]) (D4 (a:= .own (nl (MK p G x))) (as:= []) (JA (ds:=G.map AM) rfl (by rw [List.length_map];omega) (UC hG (fun w hw=>eI (by omega) (b9 p7 n6 hw).1 (b9 p7 n6 hw).2) rfl)) rfl) rfl
 have tl:∀x ∈ T,x.length<=900:=fun x hx=>by
  have:=(PO.ok x hx).1;rw [BY] at this
  omega
 refine HA (ρ':= [P0,N1,G2,H3,F4,F4,none,none,none,none]) ?_ ?_
 . rw [MW,MW];show mIf _ _ _ [P0,N1,G2,H3,F4,F4,none,none,none,none]=_;exact cB (b:=false) (cV (k:=false) (l:=false) (QF (k:=true) (GR (CU (ds:= [.list (T.map AM), .list (T.map AM)]) rfl (eU tl)))) (nW (a:= .val (.list (G.map lN))) (b:= .own (G.map lN)) rfl (lists _ rfl) rfl (xB G) (by have:=xP G;show (PyData.list (G.map lN)).depth<=60;omega))) rfl
 refine GB (P:=fun ρ=>True) ?_ (fun ρ _=>DF (r:= .val (.bool true)) rfl rfl)
 let m:Nat:=min 3 G.length
 have rg:(NV (mConsP (mK (.int 1)) (mConsP (mBin dAdd (mCallP dMin2 (mConsP (mK (.int 3)) (mConsP (mCallP dLen (mConsP (mPk 2) mNilP)) mNilP))) (mK (.int 1))) mNilP))) [P0,N1,G2,H3,F4,F4,none,none,none,none]=some (HH ((1:Nat):Int) (m+1 - 1)):=by
  refine tV (i:=1) (j:=m+1) (D4 (a:= .val (.int 1)) rfl (D4 (a:= .val (.int ((m+1:Nat):Int))) (as:= []) ?_ rfl)) (by omega) (by omega)
  have le:(mCallP dLen (mConsP (mPk 2) mNilP)) [P0,N1,G2,H3,F4,F4,none,none,none,none]=some (.val (.int (G.length:Nat))):=by
   refine CP (ss:= [.val (.list (G.map AM))]) rfl ?_;show some (Sl.val (.int (((G.map AM).length:Nat):Int)))=_;rw [AA]
  refine (AY (op:=dAdd) (a:= .val (.int ((m:Nat):Int))) (b:= .val (.int 1)) (CP (D4 (a:= .val (.int 3)) rfl (D4 le rfl)) ?_) rfl).trans ?_
  . show some (Sl.val (.int (if ((G.length:Nat):Int)<3 then ((G.length:Nat):Int) else 3)))=_;congr 3
    show (if ((G.length:Nat):Int)<3 then ((G.length:Nat):Int) else 3)=((min 3 G.length:Nat):Int)
    split <;> omega
  . show some (Sl.val (.int (((m:Nat):Int)+1)))=_;rw [show ((m:Nat):Int)+1=((m+1:Nat):Int) by omega]
 refine VR (n:=m+1 - 1) (lo:=((1:Nat):Int)) (fun _ ρ=>∃z6 z7 z8 z9,ρ = [P0,N1,G2,H3,F4,F4,z6,z7,z8,z9]) rg ⟨_,_,_,_,rfl⟩ ?_ (fun _ _=>trivial);rintro i ρ hi ⟨z6,z7,z8,z9,rfl⟩
 let t:=i+1
 have et':((1:Nat):Int)+(i:Nat)=((t:Nat):Int):=by show _=((i+1:Nat):Int);omega
 rw [et']
 let T6:Option Sl:=some (.val (.int ((t:Nat):Int)))
 refine ⟨_,rfl,?_⟩;have hm:m=min 3 G.length:=rfl;have t1:1<=t:=by show 1<=i+1;omega
 have t3:t<=3:=by show i+1<=3;omega
 have tg:t<=G.length:=by show i+1<=G.length;omega
 refine CA (r:= .val (.bool true)) rfl ?_
 let C:=chs G t
 let fr:Nat->Bool:=fun k=>decide (∀V ∈ C.take k,(Sp.spanT p n V).length=p ^ t)
 show Wp _ [P0,N1,G2,H3,F4,F4,T6,some (.val (.bool true)),z8,z9] _;refine GB (P:=fun ρ=>∃z8,ρ = [P0,N1,G2,H3,F4,F4,T6,some (.val (.bool (fr C.length))),z8,z9]) ?_ ?_
 . refine IJ (en:=lT) (xs:=C) (fun k ρ=>∃z8,ρ = [P0,N1,G2,H3,F4,F4,T6,some (.val (.bool (fr k))),z8,z9]) ?_ ⟨z8,?_⟩ ?_ (fun ρ h=>h)
   . unfold CD;rw [CU (F:=fT) (ds:= [.list (G.map AM), .int (t:Int)]) rfl (Z5 t1 t3 G g5)];rfl
   . have:fr 0=true:=AS fun V hV=>by simp at hV
     rw [this]
   . rintro k V ρ hk ⟨z8,rfl⟩;refine ⟨_,rfl,?_⟩;have mV:V ∈ C:=BC hk
     have okV:∀w ∈ V,NF p n w:=fun w hw=>by
      obtain ⟨c,c1,c2,rfl⟩:=(OY t G V).mp mV;obtain ⟨d,hd,rfl⟩:=AL.mp hw;exact Su.getW_ok hG (c2.2 d hd)
     have hls:=dF hq n1 n6 hpn okV
     let V8:Option Sl:=some (.val (lT V))
     let ρ1:En:= [P0,N1,G2,H3,F4,F4,T6,some (.val (.bool (fr k))),V8,z9]
     have e1:(mCallP dLen (mConsP (mCall UT (mCons (mVar 0) (mCons (mVar 1) (mCons (mVar 8) mNil)))) mNilP)) ρ1=some (.val (.int (((Sp.spanT p n V).length:Nat):Int))):=by
      refine CP (D4 (a:= .own ((X9 (Sp.spanT p n V)).map AM)) (as:= []) (CU (ds:= [.int (p:Int), .int (n:Int), .list (V.map AM)]) rfl hls) rfl) ?_;show some (Sl.val (.int ((((X9 (Sp.spanT p n V)).map AM).length:Nat):Int)))=_;rw [AA,(dS _).length_eq]
     have e2:(mBin dix (mLst (mCons (mK (.int 1)) (mCons (mVar 0) (mCons (mBin dRep (mPk 0) (mPk 0)) (mCons (mBin dRep (mBin dRep (mPk 0) (mPk 0)) (mPk 0)) mNil))))) (mPk 6)) ρ1=some (.val (.int ((p ^ t:Nat):Int))):=by
      have r1:(mBin dRep (mPk 0) (mPk 0)) ρ1=some (.val (.int ((p*p:Nat):Int))):=(AY (op:=dRep) (a:= .val (.int (p:Int))) (b:= .val (.int (p:Int))) rfl rfl).trans ((MS (cmL (by omega) (by omega))).trans (by rw [FZ]));have pp:p*p<=49:=gX p7 p7;have r2:(mBin dRep (mBin dRep (mPk 0) (mPk 0)) (mPk 0)) ρ1=some (.val (.int ((p*p*p:Nat):Int))):=(AY (op:=dRep) r1 (b:= .val (.int (p:Int))) rfl).trans ((MS (cmR (by omega) (by omega))).trans (by rw [FZ (p*p)]))
      have ls:(mLst (mCons (mK (.int 1)) (mCons (mVar 0) (mCons (mBin dRep (mPk 0) (mPk 0)) (mCons (mBin dRep (mBin dRep (mPk 0) (mPk 0)) (mPk 0)) mNil))))) ρ1=some (.own [.int 1, .int (p:Int), .int ((p*p:Nat):Int), .int ((p*p*p:Nat):Int)]):=by
       unfold mLst;rw [CC (a:= .val (.int 1)) rfl (CC (a:= .val (.int (p:Int))) rfl (CC r1 (CC r2 (show mNil ρ1=some [] from rfl))))];exact if_pos (e:=none) (show 4<=sizeLine by omega)
      refine (AY (op:=dix) ls (b:= .val (.int ((t:Nat):Int))) rfl).trans (JX (.inl rfl) ?_);have a:t=1\/t=2\/t=3:=by omega
      rcases a with e | e | e <;> rw [e]
      . rw [zQ];rfl
      . rw [show p ^ 2=p*p by rw [GV,zQ]];rfl
      . rw [show p ^ 3=p*p*p by rw [GV,GV,zQ]];rfl
     have ts:C.take (k+1)=C.take k ++ [V]:=by rw [G7,hk];rfl
     have fs:fr (k+1)=(fr k && decide ((Sp.spanT p n V).length=p ^ t)):=by
      have iff:(∀V' ∈ C.take (k+1),(Sp.spanT p n V').length=p ^ t)↔(∀V' ∈ C.take k,(Sp.spanT p n V').length=p ^ t)/\(Sp.spanT p n V).length=p ^ t:=by
       rw [ts];exact ⟨fun h=>⟨fun V' h'=>h V' (E7 _ h'),h V (AD _ (A4.mpr rfl))⟩,fun h V' h'=>by
       rcases AW.mp h' with h' | h'
       . exact h.1 V' h'
       . rw [A4.mp h'];exact h.2⟩
      by_cases a1:∀V' ∈ C.take k,(Sp.spanT p n V').length=p ^ t
      . by_cases a2:(Sp.spanT p n V).length=p ^ t
        . rw [show fr (k+1)=true from AS (iff.mpr ⟨a1,a2⟩),show fr k=true from AS a1,AS a2];rfl
        . rw [show fr (k+1)=false from AV fun z=>a2 (iff.mp z).2,AV a2,gL]
      . rw [show fr (k+1)=false from AV fun z=>a1 (iff.mp z).1,show fr k=false from AV a1,Bool.false_and]
     rw [fs]
     by_cases hv:(Sp.spanT p n V).length=p ^ t
     . refine QJ ((YT e1 e2).trans (by rw [hv];simp)) (L3 ⟨V8,?_⟩);rw [AS hv,Bool.and_true];rfl
     . refine OA ((YT e1 e2).trans (by rw [AV (by omega)];rfl)) (KF (r:= .val (.bool false)) rfl ⟨V8,?_⟩);rw [AV hv,gL];rfl
 . rintro ρ ⟨z8,rfl⟩;obtain ⟨dd,ee,he⟩:=XE PO (t:=t) t1 (by rw [BY];exact tg);rw [BY] at he
   let D9:Option Sl:=some (.val dd)
   let B7:Option Sl:=some (.val (.bool (fr C.length)))
   refine HA (ρ':= [P0,N1,G2,H3,F4,F4,T6,B7,z8,D9]) ?_ ?_
   . rw [MW];refine MY (ρ:= [P0,N1,G2,H3,F4,F4,T6,B7,z8,z9]) (CU (ds:= [.list (T.map AM), .list (nl (List.replicate G.length p)), .int (t:Int)]) (CC (a:= .val (.list (T.map AM))) rfl (CC (a:= .own (nl (List.replicate G.length p))) (JA (ds:=G.map AM) rfl (by rw [List.length_map];omega) ?_) rfl)) ee);refine (EB (en:=AM) (g:=fun _=> .int (p:Int)) (xs:=G) fun j _=>KH (fg:=gVar 1) (ρ0:= [P0,none]) (d:=AM j) (r:= .val (.int (p:Int))) rfl rfl).trans ?_;unfold nl;rw [List.map_replicate,List.map_const']
   . have key:=eB (t:=t) hq hG;have tk:C.take C.length=C:=B6 (A9 _)
     have isi:mTest (mIsi "tuple" (mPk 9)) [P0,N1,G2,H3,F4,F4,T6,B7,z8,D9]=some true:=by
      rcases he with ⟨rfl,_⟩ | ⟨c,k,k',rfl,_⟩ <;> rfl
     have fe:(mBin deq (mPk 9) (mTup (mCons (mK (.str "even")) mNil))) [P0,N1,G2,H3,F4,F4,T6,B7,z8,D9]=some (.val (.bool (fr C.length))):=by
      rcases he with ⟨rfl,h⟩ | ⟨c,k,k',rfl,hc,hk,hk',hne⟩
      . have:fr C.length=true:=AS (by rw [tk];exact key.mp h);rw [this];exact bH (a:= .val NA) (b:= .val NA) rfl (mX (a:= .val (.str "even")) rfl) rfl iX kR
      . have : fr C.length = false := AV (by
         rw [tk];intro z;exact hne (key.mpr z c hc k k' ((FH PO.lev (by rw [BY];exact (Ev.mem_CB.mp hc).2.2)).mp hk) ((FH PO.lev (by rw [BY];exact (Ev.mem_CB.mp hc).2.2)).mp hk')))
        rw [this];refine (AY (op:=deq) (a:= .val (IX c k k')) (b:= .val NA) rfl (mX (a:= .val (.str "even")) rfl)).trans ?_;show (eqD (IX c k k') NA).map _=_;unfold eqD;rw [if_pos ⟨wZ c k k',iX,by have:=kR;omega⟩,yU];rfl
     exact QJ (cV (k:=false) (l:=false) (QF (k:=true) isi) (GR ((AY (op:=dne) fe (b:= .val (.bool (fr C.length))) rfl).trans ((kM _ _).trans (by simp))))) (L3 ⟨_,_,_,_,rfl⟩)
def E6(ns:List Int):List Int:=ns.take 42 ++ [0]
theorem XQ(ns:List Int):(E6 ns).length<=43:=by simp [E6];omega
theorem YA{ns:List Int}{ρ:En}(h:(ρ[0]?).join=some (.val (.list (ns.map .int)))):(mBin dAdd (mSl (mPk 0) mNoPart (mPart (mK (.int 42)))) (mLst (mCons (mK (.int 0)) mNil))) ρ=some (.own (il (E6 ns))):=by
 have c1:(mSl (mPk 0) mNoPart (mPart (mK (.int 42)))) ρ=some (.own (il (ns.take 42))):=by
  have e:JB (ns.map PyData.int) none (some ((42:Nat):Int))=il (ns.take 42):=by
   unfold JB il;rw [HT.sIx_none,HT.sIx_nat,List.length_map,List.drop_zero,Nat.sub_zero, <-List.map_take];congr 1
   by_cases h:42<=ns.length
   . rw [JF h]
   . rw [OV (by omega),B6 (A9 _),B6 (by omega)]
  rw [<-e];unfold mSl mPk;rw [h];rfl
 refine (AY (op:=dAdd) c1 (VC (a:= .val (.int 0)) rfl)).trans ?_;refine (MA (xs:=il (ns.take 42)) (ys:= [.int 0]) rfl rfl ?_).trans ?_
 . rw [ZP,DK];have:=F5;simp;omega
 . rw [E6,mW];rfl
theorem mY{α:Type}(l:List α)(m:Nat):JB l none (some (m:Int))=l.take m:=by
 unfold JB;rw [HT.sIx_none,HT.sIx_nat,List.drop_zero,Nat.sub_zero]
 by_cases h:m<=l.length
 . rw [JF h]
 . rw [OV (by omega),B6 (A9 _),B6 (by omega)]
theorem A20{f:En->Option Sl}{g h:En->Option (Option Int)}{ρ:En}{a:Sl}(k:f ρ=some a):mSl f g h ρ=(g ρ).bind fun lo=>(h ρ).bind fun hi=>dSl a lo hi:=by
 unfold mSl;rw [k];rfl
theorem iP(ns:List Int)(hns:ns.length<=63):u7 [.list (ns.map .int)]=some (.val (.bool true)):=by
 have sl:=F5
 let S:Option Sl:=some (.val (.list (ns.map .int)))
 have hlen:=XQ ns
 let C1:Option Sl:=some (.own (il (E6 ns)))
 refine FR (ρ:= [S,none,none,none,none,none,none,none]) rfl rfl ?_;unfold b_law;refine CA (YA rfl) (CA (r:= .val (.int 0)) rfl ?_);refine GB (P:=fun _=>True) ?_ (fun ρ _=>DF (r:= .val (.bool true)) rfl rfl)
 refine iM (fun ρ=>∃(a:Nat) (z3 z4 z5 z6 z7:Option Sl),ρ = [S,C1,some (.val (.int (a:Nat))),z3,z4,z5,z6,z7]/\a<=1000)
  (fun ρ=>match ρ with | [_,_,some (.val (.int a)),_,_,_,_,_]=>(64 - a).toNat | _=>0) ⟨0,_,_,_,_,_,rfl,by decide⟩ ?_
 rintro ρ ⟨a,z3,z4,z5,z6,z7,rfl,ha⟩
 have tst:(mTest (mBin dLt (mPk 2) (mCallP dLen (mConsP (mPk 1) mNilP)))) [S,C1,some (.val (.int (a:Nat))),z3,z4,z5,z6,z7]=some (decide ((a:Int)<((E6 ns).length:Nat))):=by
  refine GR ((AY (op:=dLt) (a:= .val (.int (a:Nat))) rfl (CP (ss:= [.own (il (E6 ns))]) rfl (r:= .val (.int (((E6 ns).length:Nat):Int))) ?_)).trans rfl);exact K0 (fun n:Nat=>some (Sl.val (.int (n:Int)))) (ZP _)
 by_cases hlt:a<(E6 ns).length
 . right;refine ⟨tst.trans (by rw [AS (by omega)]),?_⟩;have gc:(E6 ns)[a]? = some (E6 ns)[a]:=AE hlt;generalize (E6 ns)[a]=c at gc
   let A2:Option Sl:=some (.val (.int (a:Nat)))
   let C3:Option Sl:=some (.val (.int c))
   obtain ⟨p,n,esz,hp,n1,n6,hpn⟩:=lL c
   let P6:Option Sl:=some (.val (.int p))
   let N7:Option Sl:=some (.val (.int n))
   refine CA (r:= .val (.int c)) ((AY (op:=dix) (a:= .own (il (E6 ns))) (b:= .val (.int (a:Nat))) rfl rfl).trans (JX (.inl rfl) (by unfold il;rw [List.getElem?_map,gc];rfl))) ?_;refine HA (f:=mFrz 3 _) (ρ':= [S,C1,A2,C3,z4,z5,P6,N7]) (qK (ρ:= [S,C1,A2,C3,z4,z5,z6,z7]) (CU (ds:= [.int c]) rfl esz) rfl) ?_;obtain ⟨m,em,bm⟩:=IY (fa:=mBin E2 (mPk 3) (mK (.int 42))) (fb:=mK (.int 5)) (ρ:= [S,C1,A2,C3,z4,z5,P6,N7]) (i:=c.fdiv 42) (m:=5) ((AY (op:=E2) (a:= .val (.int c)) (b:= .val (.int 42)) rfl rfl).trans (NZ (by decide) (by decide))) rfl (by decide)
   let M4:Option Sl:=some (.val (.int ((m+1:Nat):Int)))
   refine CA (r:= .val (.int ((m+1:Nat):Int))) ((AY (op:=dAdd) (a:= .val (.int 1)) rfl em).trans (by
    show some (Sl.val (.int (1+(m:Int))))=_;rw [show (1:Int)+(m:Int)=((m+1:Nat):Int) by omega])) ?_
   let ρ1:En:= [S,C1,A2,C3,M4,z5,P6,N7]
   show Wp _ ρ1 _
   let lo:Option Int:=some ((a:Int)+1)
   let hi:Option Int:=some ((a:Int)+1+((m+1:Nat):Int))
   let cs:List Int:=JB (E6 ns) lo hi ++ [c.fdiv 9]
   have cl:cs.length<=900:=by
    have:=aZ (E6 ns) lo hi;show (JB (E6 ns) lo hi ++ [c.fdiv 9]).length<=900;rw [AZ,EV];omega
   obtain ⟨W,ew,hW,hw⟩:=fW (by omega:2<=p) (by omega) n6 cs cl
   have sle:(mSl (mPk 1) (mPart (mBin dAdd (mPk 2) (mK (.int 1)))) (mPart (mBin dAdd (mBin dAdd (mPk 2) (mK (.int 1))) (mPk 4)))) ρ1=some (.own (il (JB (E6 ns) lo hi))):=by
    rw [<-wS];rfl
   have d9:(mBin E2 (mPk 3) (mK (.int 9))) ρ1=some (.val (.int (c.fdiv 9))):=(AY (op:=E2) (a:= .val (.int c)) (b:= .val (.int 9)) rfl rfl).trans (NZ (by decide) (by decide))
   have ecs:(mBin dAdd (mSl (mPk 1) (mPart (mBin dAdd (mPk 2) (mK (.int 1)))) (mPart (mBin dAdd (mBin dAdd (mPk 2) (mK (.int 1))) (mPk 4)))) (mLst (mCons (mBin E2 (mPk 3) (mK (.int 9))) mNil))) ρ1=some (.own (il cs)):=by
    refine (AY (op:=dAdd) sle (VC d9)).trans ((MA (xs:=il (JB (E6 ns) lo hi)) (ys:= [.int (c.fdiv 9)]) rfl rfl ?_).trans ?_)
    . have:=aZ (E6 ns) lo hi;rw [ZP,EV];omega
    . show _=some (Sl.own (il (JB (E6 ns) lo hi ++ [c.fdiv 9])));rw [mW];rfl
   let G:=W.take (m+1)
   have gl:1<=G.length/\G.length<=5:=by
    show 1<=(W.take (m+1)).length/\(W.take (m+1)).length<=5
    have:cs.length=(JB (E6 ns) lo hi).length+1:=by
     show (JB (E6 ns) lo hi ++ [c.fdiv 9]).length=_;rw [AZ,EV]
    rw [DK];omega
   refine CA (r:= .own (G.map AM)) ?_ ?_
   . have cw:(mCall RY (mCons (mBin dAdd (mSl (mPk 1) (mPart (mBin dAdd (mPk 2) (mK (.int 1)))) (mPart (mBin dAdd (mBin dAdd (mPk 2) (mK (.int 1))) (mPk 4)))) (mLst (mCons (mBin E2 (mPk 3) (mK (.int 9))) mNil))) (mCons (mVar 6) (mCons (mVar 7) mNil)))) ρ1=some (.own (W.map AM)):=CU (ds:= [.list (il cs), .int p, .int n]) (CC ecs rfl) ew
     have e:(mSl (mCall RY (mCons (mBin dAdd (mSl (mPk 1) (mPart (mBin dAdd (mPk 2) (mK (.int 1)))) (mPart (mBin dAdd (mBin dAdd (mPk 2) (mK (.int 1))) (mPk 4)))) (mLst (mCons (mBin E2 (mPk 3) (mK (.int 9))) mNil))) (mCons (mVar 6) (mCons (mVar 7) mNil)))) mNoPart (mPart (mPk 4))) ρ1=some (.own (JB (W.map AM) none (some ((m+1:Nat):Int)))):=by
      exact (A20 cw).trans rfl
     rw [e,mY];show some (Sl.own ((W.map AM).take (m+1)))=some (Sl.own ((W.take (m+1)).map AM));rw [nF]
   refine HA (ρ':= [S,C1,A2,C3,M4,some (.val (.list (G.map AM))),P6,N7]) ?_ ?_
   . rw [MW];show mIf _ _ _ [S,C1,A2,C3,M4,some (.val (.list (G.map AM))),P6,N7]=_;exact cB (b:=false) (QF (k:=true) (GR (CU (ds:= [.int (p:Int), .int (n:Int), .list (G.map AM)]) rfl (e9 hp n1 n6 hpn (fun w h=>hw w (C9 h)) gl.1 gl.2)))) rfl
   refine KF (r:= .val (.int ((a+1+(m+1):Nat):Int))) ?_ ⟨⟨a+1+(m+1),_,_,_,_,_,rfl,by omega⟩,?_⟩
   . show some (Sl.val (.int ((a:Int)+1+((m+1:Nat):Int))))=_;rw [show (a:Int)+1+((m+1:Nat):Int)=((a+1+(m+1):Nat):Int) by omega]
   . show (64 - ((a+1+(m+1):Nat):Int)).toNat<(64 - ((a:Nat):Int)).toNat;omega
 . left;exact ⟨tst.trans (by rw [AV (by omega)]),trivial⟩
abbrev Na_ (K:PySem.W.Frag) (n:Str) (f:Addr):Prop:=PySem.W.nsIn K mainGlobals n=some (some (.ref f))
abbrev Nz_ (K:PySem.W.Frag) (n:Str):Prop:=PySem.W.nsIn K mainGlobals n=some none
abbrev Co_ (K:PySem.W.Frag) (c:Value) (n:Str):Prop:=PySem.W.codeIn K c n=true
abbrev Ke_ (K:PySem.W.Frag) (f:Addr):Prop:=PySem.W.keepIn K (.ref f)=true
abbrev Lo_ (K:PySem.W.Frag) (f:Addr) (oc:Value) (od:Option Addr) (n q:Str) (s:Stmt) (kV dc pm:Value) (an:Option Addr) (cd ct:Value) (sl:Array (Option Value)):Prop:=K.lookup f=some ⟨oc,od, .func (PySem.W.fnOf n q (KY s) (ID s) (BD s) .none kV dc pm an cd ct),sl⟩
local macro_rules | `(tactic| walk_at "u1") => `(tactic| exact fun _ _ _ _ _ _ us hl => match us, hl with | [_], _ => rfl)
local macro_rules | `(tactic| walk_at "u2") => `(tactic| exact fun _ _ _ _ _ _ us hl => match us, hl with | [_, _], _ => rfl)
local macro_rules | `(tactic| walk_at "u3") => `(tactic| exact fun _ _ _ _ _ _ us hl => match us, hl with | [_, _, _], _ => rfl)
local macro_rules | `(tactic| walk_at "u4") => `(tactic| exact fun _ _ _ _ _ _ us hl => match us, hl with | [_, _, _, _], _ => rfl)
theorem all_mk {l : PySem.W.OpenLaw} {w : World} {K : PySem.W.Frag} {h : Heap} {mg : Str -> Option Value} {fa cl28 pl28 cl29 pl29 f1 f2 f3 f4 f5 f6 f7 f8 f9 f10 f11 f12 f13 f14 f15 f16 f17 f18 f19 f20 f21 f22 f23 f24 f25 f26 f27 f28 f29 f30 f31 : Addr} {co28 co29 oc1 kV1 dc1 pm1 cd1 ct1 oc2 kV2 dc2 pm2 cd2 ct2 oc3 kV3 dc3 pm3 cd3 ct3 oc4 kV4 dc4 pm4 cd4 ct4 oc5 kV5 dc5 pm5 cd5 ct5 oc6 kV6 dc6 pm6 cd6 ct6 oc7 kV7 dc7 pm7 cd7 ct7 oc8 kV8 dc8 pm8 cd8 ct8 oc9 kV9 dc9 pm9 cd9 ct9 oc10 kV10 dc10 pm10 cd10 ct10 oc11 kV11 dc11 pm11 cd11 ct11 oc12 kV12 dc12 pm12 cd12 ct12 oc13 kV13 dc13 pm13 cd13 ct13 oc14 kV14 dc14 pm14 cd14 ct14 oc15 kV15 dc15 pm15 cd15 ct15 oc16 kV16 dc16 pm16 cd16 ct16 oc17 kV17 dc17 pm17 cd17 ct17 oc18 kV18 dc18 pm18 cd18 ct18 oc19 kV19 dc19 pm19 cd19 ct19 oc20 kV20 dc20 pm20 cd20 ct20 oc21 kV21 dc21 pm21 cd21 ct21 oc22 kV22 dc22 pm22 cd22 ct22 oc23 kV23 dc23 pm23 cd23 ct23 oc24 kV24 dc24 pm24 cd24 ct24 oc25 kV25 dc25 pm25 cd25 ct25 oc26 kV26 dc26 pm26 cd26 ct26 oc27 kV27 dc27 pm27 cd27 ct27 oc28 kV28 dc28 pm28 ct28 oc29 kV29 dc29 pm29 ct29 oc30 kV30 dc30 pm30 cd30 ct30 oc31 kV31 dc31 pm31 cd31 ct31 : Value} {cod28 cod29 od1 an1 od2 an2 od3 an3 od4 an4 od5 an5 od6 an6 od7 an7 od8 an8 od9 an9 od10 an10 od11 an11 od12 an12 od13 an13 od14 an14 od15 an15 od16 an16 od17 an17 od18 an18 od19 an19 od20 an20 od21 an21 od22 an22 od23 an23 od24 an24 od25 an25 od26 an26 od27 an27 od28 an28 od29 an29 od30 an30 od31 an31 : Option Addr} {cv28 cv29 : Array Value} {csl28 csl29 sl1 sl2 sl3 sl4 sl5 sl6 sl7 sl8 sl9 sl10 sl11 sl12 sl13 sl14 sl15 sl16 sl17 sl18 sl19 sl20 sl21 sl22 sl23 sl24 sl25 sl26 sl27 sl28 sl29 sl30 sl31 : Array (Option Value)} (X : K.In h) (G : h.Ns mainGlobals mg) (hfa : mg "law" = some (.ref fa)) (hT : ∀ p ∈ (tbK ["rarest_choice", "even_to"] K).map (·.2), h.get? p = some (PySem.W.tabObj #[]))
 (a1:Na_ K "_law_size" f1)
 (l1:Lo_ K f1 oc1 od1 "_law_size" "_law_size" rY kV1 dc1 pm1 an1 cd1 ct1 sl1)
 (c1:Co_ K cd1 "_law_size")
 (k1:Ke_ K f1)
 (a2:Na_ K "_law_mixed" f2)
 (l2:Lo_ K f2 oc2 od2 "_law_mixed" "_law_mixed" nS kV2 dc2 pm2 an2 cd2 ct2 sl2)
 (c2:Co_ K cd2 "_law_mixed")
 (k2:Ke_ K f2)
 (a3:Na_ K "_law_word" f3)
 (l3:Lo_ K f3 oc3 od3 "_law_word" "_law_word" bL kV3 dc3 pm3 an3 cd3 ct3 sl3)
 (c3:Co_ K cd3 "_law_word")
 (k3:Ke_ K f3)
 (a4:Na_ K "_law_words" f4)
 (l4:Lo_ K f4 oc4 od4 "_law_words" "_law_words" aY kV4 dc4 pm4 an4 cd4 ct4 sl4)
 (c4:Co_ K cd4 "_law_words")
 (k4:Ke_ K f4)
 (a5:Na_ K "product_of" f5)
 (l5:Lo_ K f5 oc5 od5 "product_of" "product_of" cI kV5 dc5 pm5 an5 cd5 ct5 sl5)
 (c5:Co_ K cd5 "product_of")
 (k5:Ke_ K f5)
 (a6:Na_ K "trial_at" f6)
 (l6:Lo_ K f6 oc6 od6 "trial_at" "trial_at" bR kV6 dc6 pm6 an6 cd6 ct6 sl6)
 (c6:Co_ K cd6 "trial_at")
 (k6:Ke_ K f6)
 (a7:Na_ K "all_trials" f7)
 (l7:Lo_ K f7 oc7 od7 "all_trials" "all_trials" cR kV7 dc7 pm7 an7 cd7 ct7 sl7)
 (c7:Co_ K cd7 "all_trials")
 (k7:Ke_ K f7)
 (a8:Na_ K "comes_to" f8)
 (l8:Lo_ K f8 oc8 od8 "comes_to" "comes_to" cP kV8 dc8 pm8 an8 cd8 ct8 sl8)
 (c8:Co_ K cd8 "comes_to")
 (k8:Ke_ K f8)
 (a9:Na_ K "block_of" f9)
 (l9:Lo_ K f9 oc9 od9 "block_of" "block_of" aG kV9 dc9 pm9 an9 cd9 ct9 sl9)
 (c9:Co_ K cd9 "block_of")
 (k9:Ke_ K f9)
 (a10:Na_ K "spun" f10)
 (l10:Lo_ K f10 oc10 od10 "spun" "spun" bZ kV10 dc10 pm10 an10 cd10 ct10 sl10)
 (c10:Co_ K cd10 "spun")
 (k10:Ke_ K f10)
 (a11:Na_ K "_law_trials" f11)
 (l11:Lo_ K f11 oc11 od11 "_law_trials" "_law_trials" bB kV11 dc11 pm11 an11 cd11 ct11 sl11)
 (c11:Co_ K cd11 "_law_trials")
 (k11:Ke_ K f11)
 (a12:Na_ K "_law_come" f12)
 (l12:Lo_ K f12 oc12 od12 "_law_come" "_law_come" pL kV12 dc12 pm12 an12 cd12 ct12 sl12)
 (c12:Co_ K cd12 "_law_come")
 (k12:Ke_ K f12)
 (a13:Na_ K "_law_whole" f13)
 (l13:Lo_ K f13 oc13 od13 "_law_whole" "_law_whole" bM kV13 dc13 pm13 an13 cd13 ct13 sl13)
 (c13:Co_ K cd13 "_law_whole")
 (k13:Ke_ K f13)
 (a14:Na_ K "_law_is_lines" f14)
 (l14:Lo_ K f14 oc14 od14 "_law_is_lines" "_law_is_lines" pZ kV14 dc14 pm14 an14 cd14 ct14 sl14)
 (c14:Co_ K cd14 "_law_is_lines")
 (k14:Ke_ K f14)
 (a15:Na_ K "_law_chosen" f15)
 (l15:Lo_ K f15 oc15 od15 "_law_chosen" "_law_chosen" xZ kV15 dc15 pm15 an15 cd15 ct15 sl15)
 (c15:Co_ K cd15 "_law_chosen")
 (k15:Ke_ K f15)
 (a16:Na_ K "_law_chosen" f16)
 (l16:Lo_ K f16 oc16 od16 "_law_chosen" "_law_chosen" oG kV16 dc16 pm16 an16 cd16 ct16 sl16)
 (c16:Co_ K cd16 "_law_chosen")
 (k16:Ke_ K f16)
 (a17:Na_ K "_law_chosen" f17)
 (l17:Lo_ K f17 oc17 od17 "_law_chosen" "_law_chosen" rE kV17 dc17 pm17 an17 cd17 ct17 sl17)
 (c17:Co_ K cd17 "_law_chosen")
 (k17:Ke_ K f17)
 (a18:Na_ K "_law_chosen" f18)
 (l18:Lo_ K f18 oc18 od18 "_law_chosen" "_law_chosen" oB kV18 dc18 pm18 an18 cd18 ct18 sl18)
 (c18:Co_ K cd18 "_law_chosen")
 (k18:Ke_ K f18)
 (a19:Na_ K "_law_chosen" f19)
 (l19:Lo_ K f19 oc19 od19 "_law_chosen" "_law_chosen" r6 kV19 dc19 pm19 an19 cd19 ct19 sl19)
 (c19:Co_ K cd19 "_law_chosen")
 (k19:Ke_ K f19)
 (a20:Na_ K "_law_span" f20)
 (l20:Lo_ K f20 oc20 od20 "_law_span" "_law_span" aM kV20 dc20 pm20 an20 cd20 ct20 sl20)
 (c20:Co_ K cd20 "_law_span")
 (k20:Ke_ K f20)
 (a21:Na_ K "longer_lists" f21)
 (l21:Lo_ K f21 oc21 od21 "longer_lists" "longer_lists" aT kV21 dc21 pm21 an21 cd21 ct21 sl21)
 (c21:Co_ K cd21 "longer_lists")
 (k21:Ke_ K f21)
 (a22:Na_ K "choice_of" f22)
 (l22:Lo_ K f22 oc22 od22 "choice_of" "choice_of" cU kV22 dc22 pm22 an22 cd22 ct22 sl22)
 (c22:Co_ K cd22 "choice_of")
 (k22:Ke_ K f22)
 (a23:Na_ K "choice_counts" f23)
 (l23:Lo_ K f23 oc23 od23 "choice_counts" "choice_counts" aL kV23 dc23 pm23 an23 cd23 ct23 sl23)
 (c23:Co_ K cd23 "choice_counts")
 (k23:Ke_ K f23)
 (a24:Na_ K "levels_in" f24)
 (l24:Lo_ K f24 oc24 od24 "levels_in" "levels_in" aI kV24 dc24 pm24 an24 cd24 ct24 sl24)
 (c24:Co_ K cd24 "levels_in")
 (k24:Ke_ K f24)
 (a25:Na_ K "is_even_in" f25)
 (l25:Lo_ K f25 oc25 od25 "is_even_in" "is_even_in" aU kV25 dc25 pm25 an25 cd25 ct25 sl25)
 (c25:Co_ K cd25 "is_even_in")
 (k25:Ke_ K f25)
 (a26:Na_ K "uneven_columns" f26)
 (l26:Lo_ K f26 oc26 od26 "uneven_columns" "uneven_columns" cA kV26 dc26 pm26 an26 cd26 ct26 sl26)
 (c26:Co_ K cd26 "uneven_columns")
 (k26:Ke_ K f26)
 (a27:Na_ K "filled_up" f27)
 (l27:Lo_ K f27 oc27 od27 "filled_up" "filled_up" bP kV27 dc27 pm27 an27 cd27 ct27 sl27)
 (c27:Co_ K cd27 "filled_up")
 (k27:Ke_ K f27)
 (a28:Na_ K "rarest_choice" f28)
 (l28:K.lookup f28=some ⟨oc28,od28, .func (PySem.W.fnOf "rarest_choice" "rarest_choice" (KY UV) (ID UV) (BD UV) .none kV28 dc28 pm28 an28 (.ref cl28) ct28),sl28⟩)
 (u28:K.lookup cl28=some ⟨co28,cod28, .fields cv28,csl28⟩)
 (v28:cv28[11]? = some (.ref pl28))
 (c28:PySem.W.codeIn K (.ref cl28) "rarest_choice" = true)
 (k28:Ke_ K f28)
 (a29:Na_ K "even_to" f29)
 (l29:K.lookup f29=some ⟨oc29,od29, .func (PySem.W.fnOf "even_to" "even_to" (KY U9) (ID U9) (BD U9) .none kV29 dc29 pm29 an29 (.ref cl29) ct29),sl29⟩)
 (u29:K.lookup cl29=some ⟨co29,cod29, .fields cv29,csl29⟩)
 (v29:cv29[11]? = some (.ref pl29))
 (c29:PySem.W.codeIn K (.ref cl29) "even_to" = true)
 (k29:Ke_ K f29)
 (a30:Na_ K "_law_right" f30)
 (l30:Lo_ K f30 oc30 od30 "_law_right" "_law_right" rA kV30 dc30 pm30 an30 cd30 ct30 sl30)
 (c30:Co_ K cd30 "_law_right")
 (k30:Ke_ K f30)
 (a31:Na_ K "law" f31)
 (l31:Lo_ K f31 oc31 od31 "law" "law" TJ kV31 dc31 pm31 an31 cd31 ct31 sl31)
 (c31:Co_ K cd31 "law")
 (k31:Ke_ K f31)
 (z0:Nz_ K "all")
 (z1:Nz_ K "bool")
 (z2:Nz_ K "int")
 (z3:Nz_ K "isinstance")
 (z4:Nz_ K "len")
 (z5:Nz_ K "list")
 (z6:Nz_ K "max")
 (z7:Nz_ K "min")
 (z8:Nz_ K "range")
 (z9:Nz_ K "reversed")
 (z10:Nz_ K "sorted")
 (z11:Nz_ K "sum")
 (z12:Nz_ K "tuple")
 (z13:Nz_ K "zip")
 : (∃o,K.lookup mainGlobals=some o)/\∃fd:FuncData,(∀(s:Shared) (v:Value),BindsTo s fd ⟨[v],[]⟩ [("_law_script",v)])/\∀base:Heap,(CJ K ((tbK ["rarest_choice","even_to"] K).map (·.2))).In base->base.Ns mainGlobals mg->(∀p ∈ tbK ["rarest_choice","even_to"] K,PySem.W.CodeHd base p.1 p.2)->BM base mg->FnOk l.prog w (CJ K ((tbK ["rarest_choice","even_to"] K).map (·.2))) mg base CX0 7 fa fd ["_law_script"] (aO (CJ K ((tbK ["rarest_choice","even_to"] K).map (·.2)))):=by
 have t28:=jD a28 l28 rfl u28 v28;have t29:=jD a29 l29 rfl u29 v29;have e:=hfa.symm.trans (BA X G a31)
 cases e
 have F_q9:=CV X hT (DM (st:=rY) l1 c1 k1);have b_q9:=F_q9.binds (ps:= ["_law_cell"]) (by walk_at "u1");have F_q7:=CV X hT (DM (st:=nS) l2 c2 k2);have b_q7:=F_q7.binds (ps:= ["_law_cell","_law_k"]) (by walk_at "u2");have F_q13:=CV X hT (DM (st:=bL) l3 c3 k3);have b_q13:=F_q13.binds (ps:= ["_law_cell","_law_k","_law_p","_law_n"]) (by walk_at "u4");have F_q14:=CV X hT (DM (st:=aY) l4 c4 k4);have b_q14:=F_q14.binds (ps:= ["_law_cells","_law_p","_law_n"]) (by walk_at "u3");have F_q26:=CV X hT (DM (st:=cI) l5 c5 k5);have b_q26:=F_q26.binds (ps:= ["numbers"]) (by walk_at "u1");have F_q29:=CV X hT (DM (st:=bR) l6 c6 k6);have b_q29:=F_q29.binds (ps:= ["levels","place"]) (by walk_at "u2");have F_q15:=CV X hT (DM (st:=cR) l7 c7 k7);have b_q15:=F_q15.binds (ps:= ["levels"]) (by walk_at "u1");have F_q19:=CV X hT (DM (st:=cP) l8 c8 k8);have b_q19:=F_q19.binds (ps:= ["p","word","trial"]) (by walk_at "u3");have F_q16:=CV X hT (DM (st:=aG) l9 c9 k9);have b_q16:=F_q16.binds (ps:= ["p","block_words","trial"]) (by walk_at "u3");have F_q28:=CV X hT (DM (st:=bZ) l10 c10 k10);have b_q28:=F_q28.binds (ps:= ["p","generators"]) (by walk_at "u2");have F_q11:=CV X hT (DM (st:=bB) l11 c11 k11);have b_q11:=F_q11.binds (ps:= ["_law_p","_law_n"]) (by walk_at "u2");have F_q5:=CV X hT (DM (st:=pL) l12 c12 k12);have b_q5:=F_q5.binds (ps:= ["_law_p","_law_word_here","_law_trial"]) (by walk_at "u3");have F_q12:=CV X hT (DM (st:=bM) l13 c13 k13);have b_q12:=F_q12.binds (ps:= ["_law_found"]) (by walk_at "u1");have F_q6:=CV X hT (DM (st:=pZ) l14 c14 k14);have b_q6:=F_q6.binds (ps:= ["_law_found","_law_due"]) (by walk_at "u2");have F_q0:=CV X hT (DM (st:=xZ) l15 c15 k15);have b_q0:=F_q0.binds (ps:= ["_law_some","_law_t"]) (by walk_at "u2");have F_q1:=CV X hT (DM (st:=oG) l16 c16 k16);have b_q1:=F_q1.binds (ps:= ["_law_some","_law_t"]) (by walk_at "u2");have F_q2:=CV X hT (DM (st:=rE) l17 c17 k17);have b_q2:=F_q2.binds (ps:= ["_law_some","_law_t"]) (by walk_at "u2");have F_q3:=CV X hT (DM (st:=oB) l18 c18 k18);have b_q3:=F_q3.binds (ps:= ["_law_some","_law_t"]) (by walk_at "u2");have F_q4:=CV X hT (DM (st:=r6) l19 c19 k19);have b_q4:=F_q4.binds (ps:= ["_law_some","_law_t"]) (by walk_at "u2");have F_q10:=CV X hT (DM (st:=aM) l20 c20 k20);have b_q10:=F_q10.binds (ps:= ["_law_p","_law_n","_law_words_here"]) (by walk_at "u3");have F_q24:=CV X hT (DM (st:=aT) l21 c21 k21);have b_q24:=F_q24.binds (ps:= ["lists","things"]) (by walk_at "u2");have F_q18:=CV X hT (DM (st:=cU) l22 c22 k22);have b_q18:=F_q18.binds (ps:= ["trial","columns"]) (by walk_at "u2");have F_q17:=CV X hT (DM (st:=aL) l23 c23 k23);have b_q17:=F_q17.binds (ps:= ["plan","columns"]) (by walk_at "u2");have F_q23:=CV X hT (DM (st:=aI) l24 c24 k24);have b_q23:=F_q23.binds (ps:= ["levels","columns"]) (by walk_at "u2")
 have F_q22:=CV X hT (DM (st:=aU) l25 c25 k25);have b_q22:=F_q22.binds (ps:= ["plan","levels","columns"]) (by walk_at "u3");have F_q30:=CV X hT (DM (st:=cA) l26 c26 k26);have b_q30:=F_q30.binds (ps:= ["plan","levels","t"]) (by walk_at "u3");have F_q21:=CV X hT (DM (st:=bP) l27 c27 k27);have b_q21:=F_q21.binds (ps:= ["columns","things","t"]) (by walk_at "u3");have F_q27:=CV X hT (DM (st:=UV) l28 c28 k28);have b_q27:=F_q27.binds (ps:= ["counts","levels"]) (by walk_at "u2");have F_q20:=CV X hT (DM (st:=U9) l29 c29 k29);have b_q20:=F_q20.binds (ps:= ["plan","levels","t"]) (by walk_at "u3");have F_q8:=CV X hT (DM (st:=rA) l30 c30 k30);have b_q8:=F_q8.binds (ps:= ["_law_p","_law_n","_law_generators"]) (by walk_at "u3");have F_law:=CV X hT (DM (st:=TJ) l31 c31 k31);have b_law:=F_law.binds (ps:= ["_law_script"]) (by walk_at "u1");have B:Bl mg:=⟨BZ X G z0,BZ X G z1,BZ X G z2,BZ X G z3,BZ X G z4,BZ X G z5,BZ X G z6,BZ X G z7,BZ X G z8,BZ X G z9,BZ X G z10,BZ X G z11,BZ X G z12,BZ X G z13⟩;refine ⟨rG a31,PySem.W.fnOf "law" "law" (KY TJ) (ID TJ) (BD TJ) .none kV31 dc31 pm31 an31 cd31 ct31,fun s v=> .of_eq rfl,fun base _ _ hC bm=> ?_⟩;have D_q9:Def l.prog w (CJ K ((tbK ["rarest_choice","even_to"] K).map (·.2))) mg base 1 "_law_size" ["_law_cell"] (spD (CJ K ((tbK ["rarest_choice","even_to"] K).map (·.2))) kK):=⟨_,_,A40 B F_q9,BA X G a1,F_q9.kp,b_q9⟩;have D_q7:Def l.prog w (CJ K ((tbK ["rarest_choice","even_to"] K).map (·.2))) mg base 1 "_law_mixed" ["_law_cell","_law_k"] (spD (CJ K ((tbK ["rarest_choice","even_to"] K).map (·.2))) dI):=⟨_,_,A14 B F_q7,BA X G a2,F_q7.kp,b_q7⟩;have D_q13:Def l.prog w (CJ K ((tbK ["rarest_choice","even_to"] K).map (·.2))) mg base 2 "_law_word" ["_law_cell","_law_k","_law_p","_law_n"] (spD (CJ K ((tbK ["rarest_choice","even_to"] K).map (·.2))) WQ):=⟨_,_,yT B D_q7 F_q13,BA X G a3,F_q13.kp,b_q13⟩;have D_q14:Def l.prog w (CJ K ((tbK ["rarest_choice","even_to"] K).map (·.2))) mg base 3 "_law_words" ["_law_cells","_law_p","_law_n"] (spD (CJ K ((tbK ["rarest_choice","even_to"] K).map (·.2))) RY):=⟨_,_,uV B D_q13 F_q14,BA X G a4,F_q14.kp,b_q14⟩;have D_q26:Def l.prog w (CJ K ((tbK ["rarest_choice","even_to"] K).map (·.2))) mg base 1 "product_of" ["numbers"] (spD (CJ K ((tbK ["rarest_choice","even_to"] K).map (·.2))) MJ):=⟨_,_,zA B F_q26,BA X G a5,F_q26.kp,b_q26⟩;have D_q29:Def l.prog w (CJ K ((tbK ["rarest_choice","even_to"] K).map (·.2))) mg base 1 "trial_at" ["levels","place"] (spD (CJ K ((tbK ["rarest_choice","even_to"] K).map (·.2))) TL):=⟨_,_,wN B F_q29,BA X G a6,F_q29.kp,b_q29⟩;have D_q15:Def l.prog w (CJ K ((tbK ["rarest_choice","even_to"] K).map (·.2))) mg base 2 "all_trials" ["levels"] (spD (CJ K ((tbK ["rarest_choice","even_to"] K).map (·.2))) UF):=⟨_,_,w6 B D_q26 D_q29 F_q15,BA X G a7,F_q15.kp,b_q15⟩
 have D_q19:Def l.prog w (CJ K ((tbK ["rarest_choice","even_to"] K).map (·.2))) mg base 1 "comes_to" ["p","word","trial"] (spD (CJ K ((tbK ["rarest_choice","even_to"] K).map (·.2))) YL):=⟨_,_,xY B F_q19,BA X G a8,F_q19.kp,b_q19⟩;have D_q16:Def l.prog w (CJ K ((tbK ["rarest_choice","even_to"] K).map (·.2))) mg base 2 "block_of" ["p","block_words","trial"] (spD (CJ K ((tbK ["rarest_choice","even_to"] K).map (·.2))) YD):=⟨_,_,y4 B D_q19 F_q16,BA X G a9,F_q16.kp,b_q16⟩;have D_q28:Def l.prog w (CJ K ((tbK ["rarest_choice","even_to"] K).map (·.2))) mg base 3 "spun" ["p","generators"] (spD (CJ K ((tbK ["rarest_choice","even_to"] K).map (·.2))) XV):=⟨_,_,yE B D_q15 D_q16 F_q28,BA X G a10,F_q28.kp,b_q28⟩;have D_q11:Def l.prog w (CJ K ((tbK ["rarest_choice","even_to"] K).map (·.2))) mg base 1 "_law_trials" ["_law_p","_law_n"] (spD (CJ K ((tbK ["rarest_choice","even_to"] K).map (·.2))) UL):=⟨_,_,vO B F_q11,BA X G a11,F_q11.kp,b_q11⟩;have D_q5:Def l.prog w (CJ K ((tbK ["rarest_choice","even_to"] K).map (·.2))) mg base 1 "_law_come" ["_law_p","_law_word_here","_law_trial"] (spD (CJ K ((tbK ["rarest_choice","even_to"] K).map (·.2))) kO):=⟨_,_,A51 B F_q5,BA X G a12,F_q5.kp,b_q5⟩;have D_q12:Def l.prog w (CJ K ((tbK ["rarest_choice","even_to"] K).map (·.2))) mg base 1 "_law_whole" ["_law_found"] (spD (CJ K ((tbK ["rarest_choice","even_to"] K).map (·.2))) X6):=⟨_,_,xF B F_q12,BA X G a13,F_q12.kp,b_q12⟩;have D_q6:Def l.prog w (CJ K ((tbK ["rarest_choice","even_to"] K).map (·.2))) mg base 2 "_law_is_lines" ["_law_found","_law_due"] (spD (CJ K ((tbK ["rarest_choice","even_to"] K).map (·.2))) gZ):=⟨_,_,A11 B D_q12 F_q6,BA X G a14,F_q6.kp,b_q6⟩;have D_q0:Def l.prog w (CJ K ((tbK ["rarest_choice","even_to"] K).map (·.2))) mg base 1 "_law_chosen" ["_law_some","_law_t"] (spD (CJ K ((tbK ["rarest_choice","even_to"] K).map (·.2))) hZ):=⟨_,_,A36 B F_q0,BA X G a15,F_q0.kp,b_q0⟩;have D_q1:Def l.prog w (CJ K ((tbK ["rarest_choice","even_to"] K).map (·.2))) mg base 2 "_law_chosen" ["_law_some","_law_t"] (spD (CJ K ((tbK ["rarest_choice","even_to"] K).map (·.2))) eD):=⟨_,_,A44 B D_q0 F_q1,BA X G a16,F_q1.kp,b_q1⟩;have D_q2:Def l.prog w (CJ K ((tbK ["rarest_choice","even_to"] K).map (·.2))) mg base 3 "_law_chosen" ["_law_some","_law_t"] (spD (CJ K ((tbK ["rarest_choice","even_to"] K).map (·.2))) ZY):=⟨_,_,A09 B D_q1 F_q2,BA X G a17,F_q2.kp,b_q2⟩;have D_q3:Def l.prog w (CJ K ((tbK ["rarest_choice","even_to"] K).map (·.2))) mg base 4 "_law_chosen" ["_law_some","_law_t"] (spD (CJ K ((tbK ["rarest_choice","even_to"] K).map (·.2))) Z8):=⟨_,_,zW B D_q2 F_q3,BA X G a18,F_q3.kp,b_q3⟩;have D_q4:Def l.prog w (CJ K ((tbK ["rarest_choice","even_to"] K).map (·.2))) mg base 5 "_law_chosen" ["_law_some","_law_t"] (spD (CJ K ((tbK ["rarest_choice","even_to"] K).map (·.2))) fT):=⟨_,_,A24 B D_q3 F_q4,BA X G a19,F_q4.kp,b_q4⟩
 have D_q10:Def l.prog w (CJ K ((tbK ["rarest_choice","even_to"] K).map (·.2))) mg base 1 "_law_span" ["_law_p","_law_n","_law_words_here"] (spD (CJ K ((tbK ["rarest_choice","even_to"] K).map (·.2))) UT):=⟨_,_,vH B F_q10,BA X G a20,F_q10.kp,b_q10⟩;have D_q24:Def l.prog w (CJ K ((tbK ["rarest_choice","even_to"] K).map (·.2))) mg base 1 "longer_lists" ["lists","things"] (spD (CJ K ((tbK ["rarest_choice","even_to"] K).map (·.2))) YB):=⟨_,_,xN B F_q24,BA X G a21,F_q24.kp,b_q24⟩;have D_q18:Def l.prog w (CJ K ((tbK ["rarest_choice","even_to"] K).map (·.2))) mg base 1 "choice_of" ["trial","columns"] (spD (CJ K ((tbK ["rarest_choice","even_to"] K).map (·.2))) WM):=⟨_,_,wP B F_q18,BA X G a22,F_q18.kp,b_q18⟩;have D_q17:Def l.prog w (CJ K ((tbK ["rarest_choice","even_to"] K).map (·.2))) mg base 2 "choice_counts" ["plan","columns"] (spD (CJ K ((tbK ["rarest_choice","even_to"] K).map (·.2))) S6):=⟨_,_,yJ B D_q18 F_q17,BA X G a23,F_q17.kp,b_q17⟩;have D_q23:Def l.prog w (CJ K ((tbK ["rarest_choice","even_to"] K).map (·.2))) mg base 1 "levels_in" ["levels","columns"] (spD (CJ K ((tbK ["rarest_choice","even_to"] K).map (·.2))) MM):=⟨_,_,xA B F_q23,BA X G a24,F_q23.kp,b_q23⟩;have D_q22:Def l.prog w (CJ K ((tbK ["rarest_choice","even_to"] K).map (·.2))) mg base 3 "is_even_in" ["plan","levels","columns"] (spD (CJ K ((tbK ["rarest_choice","even_to"] K).map (·.2))) UB):=⟨_,_,xX B D_q17 D_q26 D_q23 F_q22,BA X G a25,F_q22.kp,b_q22⟩;have D_q30:Def l.prog w (CJ K ((tbK ["rarest_choice","even_to"] K).map (·.2))) mg base 4 "uneven_columns" ["plan","levels","t"] (spD (CJ K ((tbK ["rarest_choice","even_to"] K).map (·.2))) WW):=⟨_,_,vG B D_q24 D_q22 F_q30,BA X G a26,F_q30.kp,b_q30⟩;have D_q21:Def l.prog w (CJ K ((tbK ["rarest_choice","even_to"] K).map (·.2))) mg base 1 "filled_up" ["columns","things","t"] (spD (CJ K ((tbK ["rarest_choice","even_to"] K).map (·.2))) XL):=⟨_,_,xJ B F_q21,BA X G a27,F_q21.kp,b_q21⟩;have D_q27:Def l.prog w (CJ K ((tbK ["rarest_choice","even_to"] K).map (·.2))) mg base 3 "rarest_choice" ["counts","levels"] (spD (CJ K ((tbK ["rarest_choice","even_to"] K).map (·.2))) TF):=⟨_,_,v5 B D_q26 D_q29 rfl (hC _ (ZA (by simp) t28)) (aK (by simp) t28) bm F_q27,BA X G a28,F_q27.kp,b_q27⟩;have D_q20:Def l.prog w (CJ K ((tbK ["rarest_choice","even_to"] K).map (·.2))) mg base 5 "even_to" ["plan","levels","t"] (spD (CJ K ((tbK ["rarest_choice","even_to"] K).map (·.2))) Y8):=⟨_,_,yM B D_q30 D_q21 D_q17 D_q27 D_q23 rfl (hC _ (ZA (by simp) t29)) (aK (by simp) t29) bm F_q20,BA X G a29,F_q20.kp,b_q20⟩;have D_q8:Def l.prog w (CJ K ((tbK ["rarest_choice","even_to"] K).map (·.2))) mg base 6 "_law_right" ["_law_p","_law_n","_law_generators"] (spD (CJ K ((tbK ["rarest_choice","even_to"] K).map (·.2))) jB):=⟨_,_,A30 B D_q28 D_q11 D_q5 D_q6 D_q4 D_q10 D_q20 F_q8,BA X G a30,F_q8.kp,b_q8⟩
 exact (xO B D_q9 D_q14 D_q8 F_law).imp (fun vs H Q E h=>rB iP h)
theorem walk {l : PySem.W.OpenLaw} {q : Program} {loose : List Str} {XP : (Str -> Option Value) -> Heap -> Prop} {YP : World -> Heap -> Prop} {d : DefRec} {K : Params -> PySem.W.Frag} (hn : l.most = some 63) (hdf : d.params.defaults = [])
 (hY:∀(w:World) (h:Heap),YP w h->(K w.params).In h)
 (hrec:∀y ∈ (["rarest_choice","even_to"]:List Str),∃e,(PyProof.Rows.recsOf q).find? (fun e=>e.name==y)=some e)
 (F:∀(w:World) (mg:Str->Option Value) (fa:Addr) (h:Heap),(K w.params).In h->h.Ns mainGlobals mg->mg d.name=some (.ref fa)->(∀p ∈ (tbK ["rarest_choice","even_to"] (K w.params)).map (·.2),h.get? p=some (PySem.W.tabObj #[])) ->
  (∃o,(K w.params).lookup mainGlobals=some o)/\∃fd:FuncData,(∀(s:Shared) (u:Value),BindsTo s fd ⟨[u],[]⟩ [("_law_script",u)])/\∀base:Heap,(CJ (K w.params) ((tbK ["rarest_choice","even_to"] (K w.params)).map (·.2))).In base->base.Ns mainGlobals mg->(∀p ∈ tbK ["rarest_choice","even_to"] (K w.params),PySem.W.CodeHd base p.1 p.2)->BM base mg->FnOk l.prog w (CJ (K w.params) ((tbK ["rarest_choice","even_to"] (K w.params)).map (·.2))) mg base CX0 7 fa fd ["_law_script"] (aO (CJ (K w.params) ((tbK ["rarest_choice","even_to"] (K w.params)).map (·.2))))) :
 PySem.W.WalkO q loose XP YP l.row.toRowW d [] (fun f vs=>PySem.call f vs) :=
 mL (n:=63) (k:=7) (x:= "_law_script") (sp:=aO) hn (by decide) hdf ⟨rfl,by decide,by decide⟩ hY hrec F fun _ _ a ns hl hS=>⟨a,ns,rfl,hS,hl,fun _=>rfl⟩
end
end K74
namespace PySem.W.Fast
def tw13468072449668320446:=0
def tw7970648599837215791:=0
def tw7055413678129559875:=0
def tw1423211321306966396:=0
def tw17330337926425122814:=0
def tw17054388930196956750:=0
def tw1291923282409467296:=0
def tw16358325101537753343:=0
def tw14705331544185079143:=0
def tw5780670834818366504:=0
def tw2708764467092482001:=0
def tw17344330709435471785:=0
def tw7870098178308224223:=0
def tw9714332450459059414:=0
def tw1867866151595477119:=0
def tw15679093906397137593:=0
def tw15033882206212521036:=0
def tw12199373550886643944:=0
def tw17786068674357087051:=0
def tw5213452793636025761:=0
def tw13444223893661445419:=0
def tw17129747518425829181:=0
def tw7067156513398296945:=0
def tw12488558419052845918:=0
def tw2077712681050722910:=0
def tw17131117884593240890:=0
def tw14242186187288384128:=0
def tw8313655462912722374:=0
def tw14946672123911773685:=0
def tw15767982755266622664:=0
end PySem.W.Fast
open PySem PySem.W PyProof.Rows
set_option maxRecDepth 100000 in
set_option maxHeartbeats 0 in
theorem PySem.Challenge.cw_trialfield_k74_whole_spun_plans_holds : PySem.Challenge.rw_trialfield_k74_whole_spun_plans.Holds := by
 w_on;o_law;k_head;(case hw=>w_witness2)
 k_fill
 refine K74.walk (l := PySem.Challenge.rw_trialfield_k74_whole_spun_plans) rfl rfl (fun w h Y => PySem.W.km_in_of Y) ?R ?F
 case R=>
  intro y hy;simp only [AJ,B8,DN] at hy
  rcases hy with rfl | rfl <;> exact ⟨_,rfl⟩
 case F=>
  intro w mg fa h KX G hmg hT;refine' K74.all_mk KX G hmg hT ?_ ?_ ?_ ?_ ?_ ?_ ?_ ?_ ?_ ?_ ?_ ?_ ?_ ?_ ?_ ?_ ?_ ?_ ?_ ?_ ?_ ?_ ?_ ?_ ?_ ?_ ?_ ?_ ?_ ?_ ?_ ?_ ?_ ?_ ?_ ?_ ?_ ?_ ?_ ?_ ?_ ?_ ?_ ?_ ?_ ?_ ?_ ?_ ?_ ?_ ?_ ?_ ?_ ?_ ?_ ?_ ?_ ?_ ?_ ?_ ?_ ?_ ?_ ?_ ?_ ?_ ?_ ?_ ?_ ?_ ?_ ?_ ?_ ?_ ?_ ?_ ?_ ?_ ?_ ?_ ?_ ?_ ?_ ?_ ?_ ?_ ?_ ?_ ?_ ?_ ?_ ?_ ?_ ?_ ?_ ?_ ?_ ?_ ?_ ?_ ?_ ?_ ?_ ?_ ?_ ?_ ?_ ?_ ?_ ?_ ?_ ?v28 ?_ ?_ ?_ ?_ ?_ ?v29 ?_ ?_ ?_ ?_ ?_ ?_ ?_ ?_ ?_ ?_ ?_ ?_ ?_ ?_ ?_ ?_ ?_ ?_ ?_ ?_ ?_ ?_ ?_ ?_
  all_goals (first | ((first | unfold K74.Na_ | unfold K74.Nz_ | unfold K74.Co_ | unfold K74.Ke_ | unfold K74.Lo_);k_is) | k_is | skip)
  (case v28=>exact rfl)
  all_goals (first | ((first | unfold K74.Na_ | unfold K74.Nz_ | unfold K74.Co_ | unfold K74.Ke_ | unfold K74.Lo_);k_is) | k_is | skip)
  (case v29=>exact rfl)
  all_goals (first | ((first | unfold K74.Na_ | unfold K74.Nz_ | unfold K74.Co_ | unfold K74.Ke_ | unfold K74.Lo_);k_is) | k_is | skip)
